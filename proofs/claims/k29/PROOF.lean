import PyProof.Rows.All
import Wide.All
import OpenK.AllK
import Wide.FinOn
import Lean
import PyProof.EqAt
import PyProof.EqKinds
import PyProof.TupleCall
import PyProof.NeKinds
import PyProof.StrCalls6
import PyProof.FString5
import PyProof.Rows.StrClose
import PyProof.Rows.BitMore
import PyProof.Rows.SortWalk
import PyProof.ListStr
import PyProof.Rows.SeqCalls
import PyProof.DictItems
import PyProof.SumWalk
import PyProof.Rows.SumGenD
import PySem.Challenge.RW_earlysift_k29_whole_nothing_more_goes
open Option renaming some->Y,none->M,bind_eq_some_iff->aa,bind_some->ah,map_eq_some_iff->ai,map_some->da,getD_some->om,isSome_map->Fc,getD_none->HL
open Bool renaming true->Z',false->Z_,and_eq_true->aK,false_ne_true->bU,false_eq_true->fV,eq_iff_iff->ie,or_eq_true->jM
open PySem.Str renaming ofString->ab
open PySem.Heap renaming get?_push_of_some->ae,lt_size->aD,get?_push_size->aF,size_push->cM,get?_update_other->d_,SameBut->fM,get?_update_self->f_
open PySem renaming wpAny_bind->af,Value->aj,starEach->ak,Shared->ar,Addr->aw,wpAny_pure->ax,Str->aH,sizeLine->aU,wpAny->aX,Program->aZ,model->bc,mainGlobals->bq,attributeBase->bS,foldedSetIterable->cb,Heap->cF,World->cH,backTo->cP,compareOp->cR,FuncData->de,Stmt->dh,binaryOp->dt,swapsWith->dy,wpAny_passesOwn->dQ,bootBuiltins->d9,keywordEach->fi,cellsFrom->fj,wpAny_newObj_type->fK,wpAny_truthy_bool->gI,wpAny_mono->gJ,behindInMarks->g9,wpAny_call_entry->hU,wpAny_pyIter_list->iW,sizeLine_eq->iX,wpAny_holding->jn,sysModules->jo,Around->jq,backToKw->jL,wpAny_Call_Name_kw->j',wpAny_setState_of->kU,Keyword->kX,wpAny_setField->lD,relayAll->mX,cLine->mY,codeAny_builtin->m8,wpAny_callSpecial?_slot->nY,scanBound->nZ,holding->px,codeAny_mono->pz,codeAny->pA,getMethod->qT,wpAny_field->rJ,wpAny_execs_nil->sP,standAt->tY,wpAny_setField_rec->u5,wpAny_seqItems->u6,tupleKind_room_in1->u7,rawInt->u9,call_meets->va,assignEach->vb,NameKind->vd,intKind->wO,plainId_quiet->xY,pickOrder->yI,PassesOwn->yJ,hashInt->Bv,getItem->Bw,wpAny_ite_split->BG,sliceBounds->E_,callWith->Fb,wpAny_setEntries_of->HH,wpAny_rule->Km,wpAny_pyIter_slot->Ob,storeSet->Oc,callerA->Od,BindsTo->Oj,wpAny_isInstance->Sf,wpAny_askSetting->Sg,tupleKind->Sh,pyNext->Si,noFill_tuple_add->Sj,IsPart->Sm,subscripted->SA,wpAny_updateSeq->Vt,letOwnedTupleGo->Vu,typeIs_str->Y9,setAddHashedIn->Y_,isSubtype_type->Y',assign->Za,SetTable->Zb,Result->Zc
open List renaming mem_cons->aq,getElem?_eq_some_iff->au,mem_append->aA,mem_cons_of_mem->aB,length_map->aG,length_append->aI,length_cons->aJ,mem_cons_self->aM,mem_append_right->aQ,getElem?_eq_getElem->aS,getElem?_map->aT,mem_append_left->aW,mem_map->a7,map_cons->a9,getElem?_set_ne->be,set_cons_zero->bj,set_cons_succ->bo,append_nil->br,append_assoc->bD,replicate->bG,mem_singleton->bI,nil_append->bL,size_toArray->bT,range->cm,perm_append_comm_assoc->cn,getElem?_set_self->cp,nodup_cons->cS,cons_append->cT,drop_eq_getElem_cons->cZ,filter_cons->dJ,length_nil->eH,zip_cons_cons->eJ,not_mem_nil->eP,nodup_append->gm,map_append->gx,getElem?_append_left->hV,map_map->iq,all_eq_true->iY,mem_iff_getElem?->jX,length_singleton->jY,getElem?_eq_none->jZ,lookup_cons->kQ,drop_length->kR,getElem?_eq_none_iff->kW,foldl_cons->lS,find?_cons->lT,dropLast_eq_take->n_,length_take->oq,length_drop->ou,any_eq_true->oz,all_cons->oY,mem_of_getElem?->pB,mem_iff_getElem->pC,forall_mem_cons->pE,filterMap_cons->qo,getElem?_zip_eq_some->sQ,flatten_cons->tI,any_eq_false->tJ,length_eq_zero_iff->ve,getElem?_cons_succ->vf,zipWith->wH,range_succ_eq_map->wJ,mem_filter->wU,replicate_succ->Bx,mem_map_of_mem->By,length_reverse->Bz,any_cons->BI,filter_append->Cd,set_set->Fd,map_nil->Fe,foldl_append->Ff,ext_getElem?->Fg,any_map->Fh,all_map->Fi,getElem_mem->HM,range'->HY,eq_nil_of_length_eq_zero->HZ,of_mem_zip->Ko,length_eraseIdx_of_lt->Of,getElem?_append_right->Og,getD_eq_getElem?_getD->Oh,getElem?_replicate->SD,getElem?_cons_zero->SE,zipWith_cons_cons->Vy,drop_eq_nil_of_le->Vz,singleton_append->Wz,length_filter_le->WA,map_congr_left->ZS,length_pos_iff->ZT
open Nat renaming le_refl->av,le_trans->aV,lt_of_lt_of_le->aY,ne_of_lt->bf,le_of_lt->cx,lt_succ_of_lt->du,zero_le->d7,ne_of_gt->gG,lt_succ_self->gK,le_add_right->gL,lt_of_le_of_lt->me,le_succ->ml,zero_add->qV,testBit_or->rL,testBit_two_pow_self->tZ,lt_irrefl->t5,add_mul->yK,add_assoc->BH,testBit_and->Kn,min_self->Vv,lt_trans->Vw,add_zero->Vx,pow_lt_pow_right->Zd,pow_le_pow_right->Ze,one_pos->Zf,mul_le_mul_right->Zg,eq_of_testBit_eq->Zh,succ_eq_add_one->ZQ,pow_lt_pow_succ->ZR
open PySem.W renaming Frag->aP,kia_one->u_,nsIn->wF,findIn->wG,keepIn->HI,instObj->HV,emptyDict->HW
open Sum renaming inr->bw,inl->lR
open Function renaming comp_def->bB
open Ne renaming symm->bE
open PySem.SetTable renaming below->bV,grown->dP
open Array renaming length_toList->bW,getElem?_eq_getElem->fG,getElem?_eq_none->jC,getElem?_toList->j2
open Option.some renaming inj->cE,injEq->tH
open Int renaming toNat_natCast->cI,emod_lt_of_pos->gP,emod_nonneg->ic,lt_of_le_of_lt->jB,le_trans->mZ
open PySem.PassesOwn renaming never->cK
open Pure renaming pure->cQ
open PyProof.Rows renaming callWith_type1->eQ,IntsAre->fU,envOfC->wQ,slot_tuple_getitem->Fs,callWith_builtin1->HJ,AllBare->H_
open PySem.Value renaming ref->fm,type->ka,isInt->n9,none->qU,int->Fp
open PySem.F renaming plainAttrs_list->gO
open PySem.Builtin renaming bitOr->g_,bitAnd->Fj
open PySem.Builtin.Str renaming glued->iZ
open PySem.Around renaming under_plainId->lE
open Or renaming inl->md,inr->Cc
open PySem.Builtin.Slice renaming slicePlaces->mm,sliceAdjust->wK,sliceApplied->Zj
open PySem.Heap.SameBut renaming update->mB
open PySem.Builtin.Tuple renaming tupleExact->m3
open PySem.Builtin.List renaming listTooLong->m4,listLengthHint->WC,listExtendWith->WD
open PySem.Obj renaming mapSeq->nW,data_mapFields->vc
open PySem.Calls renaming callWith_builtin->pG,spliced_cons->vg,spliced_nil->Oi,Name_function_global->Zi
open List.Perm renaming of_eq->qm
open PySem.NameKind renaming free->rk,cell->HX
open True renaming intro->rK
open PySem.SetTable.below renaming go->wR
open ForInStep renaming yield->wV
open PySem.Txt renaming slice->Fq
open PyProof.Rows.F renaming plain_set_update_loop->Ft
open PySem.SetTable.probe renaming go->Oe
open Classical renaming byContradiction->OB
open Prod.mk renaming injEq->Sl
open PySem.Heap.IsList renaming push->Sn
set_option bootstrap.genMatcherCode false
set_option compiler.extract_closed false
set_option genSizeOfSpec false
section
variable{g:Prop}
theorem fE1{p:α→Prop}(k:∀a,p a→g):(∃a,p a)→g:=λ⟨a,h⟩=>k a h
theorem fE2{p:α→β→Prop}(k:∀a b,p a b→g):(∃a b,p a b)→g:=λ⟨a,b,h⟩=>k a b h
theorem fE3{p:α→β→γ→Prop}(k:∀a b c,p a b c→g):(∃a b c,p a b c)→g:=λ⟨a,b,c,h⟩=>k a b c h
theorem fE4{p:α→β→γ→δ→Prop}(k:∀a b c d,p a b c d→g):(∃a b c d,p a b c d)→g:=λ⟨a,b,c,d,h⟩=>k a b c d h
theorem fE5{p:α→β→γ→δ→ε→Prop}(k:∀a b c d e,p a b c d e→g):(∃a b c d e,p a b c d e)→g:=λ⟨a,b,c,d,e,h⟩=>k a b c d e h
theorem fA1{p q:Prop}(k:p→q→g)(h:p∧q):g:=k h.1 h.2
theorem fA2{p q r:Prop}(k:p→q→r→g)(h:p∧q∧r):g:=k h.1 h.2.1 h.2.2
theorem fA3{p q r s:Prop}(k:p→q→r→s→g)(h:p∧q∧r∧s):g:=k h.1 h.2.1 h.2.2.1 h.2.2.2
theorem fA4{p q r s t:Prop}(k:p→q→r→s→t→g)(h:p∧q∧r∧s∧t):g:=k h.1 h.2.1 h.2.2.1 h.2.2.2.1 h.2.2.2.2
theorem fA5{p q r s t u:Prop}(k:p→q→r→s→t→u→g)(h:p∧q∧r∧s∧t∧u):g:=k h.1 h.2.1 h.2.2.1 h.2.2.2.1 h.2.2.2.2.1 h.2.2.2.2.2
theorem fA6{p q r s t u v:Prop}(k:p→q→r→s→t→u→v→g)(h:p∧q∧r∧s∧t∧u∧v):g:=k h.1 h.2.1 h.2.2.1 h.2.2.2.1 h.2.2.2.2.1 h.2.2.2.2.2.1 h.2.2.2.2.2.2
theorem fA7{p q r s t u v w:Prop}(k:p→q→r→s→t→u→v→w→g)(h:p∧q∧r∧s∧t∧u∧v∧w):g:=k h.1 h.2.1 h.2.2.1 h.2.2.2.1 h.2.2.2.2.1 h.2.2.2.2.2.1 h.2.2.2.2.2.2.1 h.2.2.2.2.2.2.2
end
open Lean Parser.Tactic in
def flat0(p:TSyntaxArray ``rcasesPatLo):MacroM (Array (TSyntax ``tacticSeq)):=
 let v(p:Syntax):TSyntax `rintroPat:=⟨mkNode ``rintroPat.one #[mkNode ``rcasesPat.paren #[mkAtom "(",p,mkAtom ")"]]⟩
 ("fE5 fE4 fE3 fE2 fE1 fA7 fA6 fA5 fA4 fA3 fA2 fA1".splitOn " ").toArray.filterMapM fun f=>do
  let i:=f.back.toNat-48
  if p.size<=i then return none
  let a:=p[:i].toArray.map (v ·.raw)
  let c←if p.size=i+1 then pure (v p[i]!) else`(rintroPat|⟨$(.ofElems p[i:].toArray),*⟩)
  `(tacticSeq|refine $(mkIdent f.toName) ?_;(rintro $a*)<;>rintro $c)
open Lean Parser.Tactic in
local macro_rules
|`(tactic|obtain⟨$p,*⟩:=$e)=>do
 let c←if e.raw.isIdent then`(tactic|try clear $e)else`(tactic|skip)
 `(tactic|(refine no_implicit_lambda%((?_:_→_) $e);$c;first $[|$(←flat0 p)]*))
|`(tactic|let⟨$p,*⟩:=$e)=>do
 let p←p.getElems.mapM fun x=>if x.raw.isIdent then let i:Ident:=⟨x⟩;`(rcasesPatLo|$i:ident)else`(rcasesPatLo|z)
 `(tactic|obtain⟨$(.ofElems p),*⟩:=$e)
|`(tactic|let $x:ident:=$e)=>`(tactic|let $x:ident : _ :=$e)
|`(tactic|let $x:ident : $t :=$e)=>`(tactic|(refine no_implicit_lambda%((?_:$t→_) $e);intro $x:ident))
|`(tactic|rintro $q*)=>do
 let u(q:TSyntax `rintroPat):=match q with|`(rintroPat|⟨$p,*⟩)=>p.getElems|_=>#[]
 let some i:=q.findIdx? fun x=>(u x).size>1|Macro.throwUnsupported
 if q.size<2 then`(tactic|first $[|$(←flat0 (u q[i]!))]*)else`(tactic|(rintro $(q[:i].toArray)*)<;>(rintro $(q[i]!))<;>rintro $(q[i+1:].toArray)*)
noncomputable section
set_option maxRecDepth 100000
set_option maxHeartbeats 4000000
open PySem.W (Frag mg_of nsIn mg_none_of findIn kia_one fnOf emptyDict keepIn instObj kitOne codeIn plainGet hasDictIn plainOver takerIn makesIn methodObj lookIn)
open PySem.F (plainAttrs_list)
set_option Elab.async false
set_option tactic.hygienic false
set_option linter.all false
theorem ſ{p:Prop}(h:p:=by decide):p:=h
theorem ž{p:Prop}(h:p:=by omega):p:=h
theorem Ž{p:Prop}(h:p:=by lia):p:=h
theorem ż{p:Prop}(h:p:=by simp):p:=h
theorem Ż{p:Prop}(h:p:=by simp_all):p:=h
theorem ź{p:Prop}(h:p:=by kernel_rfl):p:=h
theorem Ÿ{p:Prop}(h:p:=by solve_by_elim):p:=h
theorem ŷ{p:Prop}(h:p:=by grind):p:=h
theorem Ų{p:Prop}(h:p:=by decide +kernel):p:=h
theorem ů{p:Prop}(h:p:=by first|exact md rfl|exact Cc (md rfl)|exact Cc (Cc rfl)):p:=h
def Ű:Lean.Syntax:=ů._auto_1
theorem ŭ{p:Prop}(h:p:=by walk_at "b"):p:=h
def Ů:Lean.Syntax:=ŭ._auto_1
theorem ū{p:Prop}(h:p:=by rfl):p:=h
def Ŭ:Lean.Syntax:=ū._auto_1
def Ū:Lean.Syntax:=ſ._auto_1
theorem Ũ{p:Prop}(h:p:=by intro _;rfl):p:=h
def ũ:Lean.Syntax:=Ũ._auto_1
theorem Ŧ{p:Prop}(h:p:=by first|exact .inl rfl|exact .inr rfl|assumption):p:=h
def ŧ:Lean.Syntax:=Ŧ._auto_1
theorem Ť{p:Prop}(h:p:=by intro a;simp_all):p:=h
def ť:Lean.Syntax:=Ť._auto_1
theorem Ţ{p:Prop}(h:p:=by decide +kernel):p:=h
def ţ:Lean.Syntax:=Ţ._auto_1
theorem ş{p:Prop}(h:p:=by exact λa a=>rfl):p:=h
def Š:Lean.Syntax:=ş._auto_1
namespace L2
open PySem PySem.Spec PyProof.Rows
abbrev iT:=Sum Int aH
noncomputable def C3:iT->aj->Bool
 |.inl k,v=>n9 k v|.inr x,v=>Value.isStrOf x v
noncomputable def adS(w:cH):iT->Int
 |.inl k=>Bv k|.inr x=>hashStr w x
theorem fY:∀ {k:iT}{v:aj},C3 k v=Z'->(∃i t,k=lR i/\v=Fp i t)\/(∃x t,k=bw x/\v=Value.str x t)
 |.inl i,v,h=>by let⟨t,e⟩:=Value.isInt_shape h;exact .inl ⟨i,t,rfl,e⟩
 |.inr x,v,h=>by let⟨t,e⟩:=Value.isStrOf_shape h;exact .inr ⟨x,t,rfl,e⟩
def Nj(i:Int)(t:Tok):C3 (.inl i) (.int i t)=true:=by simp[C3,n9]
def Ni(x:aH)(t:Tok):C3 (.inr x) (.str x t)=true:=by simp[C3,Value.isStrOf]
def X4(a b:Int):decide ((lR a:iT)=lR b)=(a==b):=by
 grind
def X1(a b:aH):decide ((bw a:iT)=bw b)=decide (a=b):=by
 simp_all
def X3(a:Int)(b:aH):decide ((lR a:iT)=bw b)=false:=decide_eq_false λq=>nomatch q
def X2(a:aH)(b:Int):decide ((bw a:iT)=lR b)=false:=decide_eq_false λq=>nomatch q
def fy(prog:aZ)(w:cH):PySem.KeyKind prog w iT where
 is:=C3
 hash:=adS w
 inj:=λv a b l f=>by
  rcases fY l with⟨i,t,rfl,rfl⟩|⟨x,t,rfl,rfl⟩
  .rcases fY f with⟨j,u,rfl,e⟩|⟨y,u,rfl,e⟩
   .injection e with e1 _;rw[e1]
   .exact nomatch e
  .rcases fY f with⟨j,u,rfl,e⟩|⟨y,u,rfl,e⟩
   .exact nomatch e
   .injection e with e1 _;rw[e1]
 byValue:=λk v h=>by
  rcases fY h with⟨i,t,rfl,rfl⟩|⟨x,t,rfl,rfl⟩<;>rfl
 pyHash:=λc h=>by
  rcases fY c with⟨i,t,rfl,rfl⟩|⟨x,t,rfl,rfl⟩
  .exact wpAny_pyHash_int h
  .exact wpAny_pyHash_str h
 eqBool:=λg c h=>by
  rcases fY g with⟨i,t,rfl,rfl⟩|⟨x,t,rfl,rfl⟩
  .rcases fY c with⟨j,u,rfl,rfl⟩|⟨y,u,rfl,rfl⟩
   .rw[X4]at h;exact wpAny_eqBool_int h
   .rw[X3]at h;exact SeqAt.EqAt.int_str i t y u _ _ _ _ h
  .rcases fY c with⟨j,u,rfl,rfl⟩|⟨y,u,rfl,rfl⟩
   .rw[X2]at h;exact SeqAt.EqAt.str_int x t j u _ _ _ _ h
   .rw[X1]at h;exact wpAny_eqBool_str h
 «strs» :=λk x t v h=>by
  rcases fY h with⟨i,u,rfl,e⟩|⟨y,u,rfl,e⟩
  .exact nomatch e
  .injection e with e1 _
   subst e1
   cases v<;>rfl
def Gn(prog:aZ)(w:cH)(i:Int)(t:Tok):(fy prog w).is (.inl i) (.int i t)=true:=Nj i t
def Gm(prog:aZ)(w:cH)(x:aH)(t:Tok):(fy prog w).is (.inr x) (.str x t)=true:=Ni x t
inductive V where
 |dr|bl (b:Bool)|int (i:Int)|str (x:aH)|J_ (b:Array UInt8)|Sy (b:UInt64)|ref (a:aw)|ty (n:String)
 deriving DecidableEq
def RelV:V->aj->Prop
 |.dr,u=>u=qU|.bl b,u=>u=Value.bool b|.int i,u=>∃t,u=Fp i t|.str x,u=>∃t,u=Value.str x t|.J_ b,u=>∃t,u=Value.bytes b t|.Sy b,u=>∃t,u=Value.float b t|.ref a,u=>u=fm a|.ty n,u=>u=ka n
abbrev b8:List V->List aj->Prop:=Paired RelV
def b8.length{xs:List V}{a:List aj}(r:b8 xs a):xs.length=a.length:=Paired.length r
theorem b8.get:∀ {xs:List V}{a:List aj}{i:Nat}{x:V},b8 xs a->xs[i]?=Y x->∃u,a[i]?=Y u/\RelV x u
 |_,_,_,_,.nil,e=>by simp at e
 |_,_,0,_,.cons r _,e=>by simp_all
 |_,_,i+1,x,.cons _ t,e=>by let⟨u,J,z⟩:=b8.get (i:=i) (x:=x) t Ż;exact⟨u,Ż,z⟩
theorem b8.set{u:aj}(r:RelV x u):∀ {xs:List V}{a:List aj}(i:Nat),b8 xs a->b8 (xs.set i x) (a.set i u)
 |_,_,_,.nil =>.nil|_,_,0,.cons _ t =>.cons r t|_,_,i+1,.cons q t =>.cons q (b8.set r i t)
def b8.append{xs ys:List V}{b a:List aj}(h:b8 xs b)(s:b8 ys a):b8 (xs++ys) (b++a):=by
 induction h with|nil=>exact s|cons r _ ih=>solve_by_elim
theorem b8.take:∀ {xs:List V}{a:List aj}(n:Nat),b8 xs a->b8 (xs.take n) (a.take n)
 |_,_,0,_ =>.nil|_,_,_+1,.nil =>.nil|_,_,n+1,.cons r t =>.cons r (b8.take n t)
theorem b8.drop:∀ {xs:List V}{a:List aj}(n:Nat),b8 xs a->b8 (xs.drop n) (a.drop n)
 |_,_,0,r=>r|_,_,_+1,.nil =>.nil|_,_,n+1,.cons _ t=>b8.drop n t
def sM:Option V->Option aj->Prop
 |some v,Y u=>RelV v u|none,M=>True|_,_=>False
def KV{a:Type}:List (a×V)->List (a×aj)->Prop:=Paired λ(p:a×V) (q:a×aj)=>p.1=q.1/\RelV p.2 q.2
noncomputable def kV:iT->V
 |.inl i =>.int i|.inr x =>.str x
inductive HO where
 |lst (xs:List V)
 |tup (xs:List V)
 |dK (dN:List (iT×V)) (n:Nat)|dT (dN:List (List iT×V))
 |set (S:Int->Bool) (n:Nat)
 |ins (C dx:aw) (fs:List (aH×V))
 |Z (x:aw)
 |xd (fs:List (aH×V))
 |met (f x:aw)
 |rng (lo hi:Int)
 |Ov (o:Obj) (u:HO)
 |WM (ps:Array aj)
 |ext (φ:cF->Prop)
abbrev Hp:=aw->Option HO
noncomputable def dA(H:Hp)(a:aw)(o:HO):Hp:=λb=>if b=a then Y o else H b
def a_{a:aw}{o:HO}:dA H a o a=Y o:=by unfold dA;rw[if_pos rfl]
theorem aR{a:aw}{o:HO}(h:b≠a):dA H a o b=H b:=by unfold dA;rw[if_neg h]
def Ks{o:HO}:dA (dA H a o) a u=dA H a u:=by
 grind [dA]
def K5{H:Hp}{a:aw}(h:H a=Y o)(h':H b=Y u)(d:o≠u):a≠b:=by
 grind
def bp{H:Hp}(h:H a=Y o)(h':H b=M):a≠b:=by
 grind
def Kj(h:cF)(a:aw)(g:Array aj):Prop:=∃o,h.get? a=Y o/\(o.cls=.type "tuple" /\o.dict=M)/\∃n,o.data=.seq g n
def Kj.t{h:cF}{a:aw}{g:Array aj}(x:Kj h a g):IsTup h a g:=let⟨o,e,c,d⟩:=x;⟨o,e,c.1,d⟩
def Kj.new(h:cF)(g:Array aj):Kj (h.push { cls :=.type "tuple",data :=.seq g }) h.objs.size g:=⟨_,aF _ rfl,⟨rfl,rfl⟩,_,rfl⟩
section
variable (P:aZ)(w:cH)
def jF(H:Hp)(h:cF)(a:aw):HO->Prop
 |.lst xs=>xs.length<=aU/\∃(g:List aj) (b:Nat),b8 xs g/\h.get? a=Y { cls :=.type "list",data :=.seq g.toArray b }|.tup xs=>xs.length<=aU/\∃g:List aj,b8 xs g/\Kj h a g.toArray|.dK e n=>e.length<=aU/\(a==jo)=Z_/\∃l,KV e l/\h.DictAt (fy P w) a l n| .dT e=>e.length<=aU/\(a==jo)=Z_/\∃xs:List (List iT×aw×aj),
   Paired (λ(p:List iT×V) (c:List iT×aw×aj)=>p.1=c.1/\H c.2.1=Y (.tup (p.1.map kV))/\RelV p.2 c.2.2) e xs /\
   ∃o es m,h.get? a=Y o/\o.ExactDict/\o.data=.dict es m/\es.toList=xs.map (entryOfKey (Sh (fy P w)))/\(xs.map (·.1)).Nodup
 |.set S b=>h.SetOf (wO P w) a S b| .ins C dx j=>H dx=Y (.Z a)/\j.length<=1000/\dx≠a/\h.get? a=Y (HV C dx) /\
   ∃mA,h.Ns1 dx mA/\(∀f,sM (j.lookup f) (mA f))/\PySem.Within mA (j.map (·.1))
 |.Z _=>∃o,h.get? a=Y o|.xd j=>∃mA,h.Ns1 a mA/\∀f,sM (j.lookup f) (mA f)|.rng n L=>∃t u v,h.get? a=Y { cls :=.type "range",data :=.fields #[.int n t,.int L u,.int 1 v] }|.Ov o u=>h.get? a=Y o/\jF H h a u|.WM q=>h.get? a=Y { cls :=.none,data :=.fields q }|.met f x=>h.get? a=Y (methodObj (.ref f) (.ref x))
 |.ext k=>k h/\(∃o,h.get? a=Y o)/\∀J z:cF,k J->(∀o,J.get? a=Y o->z.get? a=Y o)->k z
def pw(H:Hp)(h:cF):Prop:=∀a o,H a=Y o->jF P w H h a o
end
section
variable {P:aZ}
def jF.lt(x:jF P w H h a o):a<h.objs.size:=by
 cases o with
 |lst xs=>let⟨_,_,_,_,e⟩:=x;exact aD e
 |tup xs=>let⟨_,_,_,p⟩:=x;exact p.t.lt
 |set S b=>let⟨o,_,_,_,e,_⟩:=x;exact aD e
 |ins C dx j=>let⟨_,_,_,e,_⟩:=x;exact aD e
 |Z y=>let⟨_,e⟩:=x;exact aD e
 |xd j=>obtain⟨_,⟨_,_,_,e,_⟩,_⟩:=x;exact aD e
 |rng n L=>let⟨_,_,_,e⟩:=x;exact aD e
 |Ov k u=>let⟨e,_⟩:=x;exact aD e
 |WM q=>exact aD x|met f y=>exact aD x|ext g=>obtain⟨_,⟨_,e⟩,_⟩:=x;exact aD e
 |dK E n=>let⟨_,_,_,_,o,_,e,_⟩:=x;exact aD e
 |_=>let⟨_,_,_,_,o,_,_,e,_⟩:=x;exact aD e
def Paired.aaL{h g:Type}{F G:h->g->Prop}{e:List h}{c:List g}(p:Paired F e c)(f:∀a b,F a b->G a b):Paired G e c:=by
 induction p with|nil=>exact .nil|cons r _ ih=>solve_by_elim
def jF.zF(x:jF P w H h a o)(k:∀b u,(b=a\/H b=Y (.Z a))->h.get? b=Y u->h'.get? b=Y u)(Q:∀b,H b=Y (.Z a)->H' b=Y (.Z a))(i:∀b xs,H b=Y (.tup xs)->H' b=Y (.tup xs)):jF P w H' h' a o:=by
 induction o with
 |lst xs=>let⟨z,A,g,r,e⟩:=x;exact⟨z,A,g,r,k _ _ (.inl rfl) e⟩
 |tup xs=>let⟨z,A,r,m,e,c⟩:=x;exact⟨z,A,r,m,k _ _ (.inl rfl) e,c⟩
 |dK E n=>let⟨z,y,F,r,m,es,e,c⟩:=x;exact⟨z,y,F,r,m,es,k _ _ (.inl rfl) e,c⟩
 |dT E=>let⟨z,y,xs,r,m,es,s,e,c⟩:=x;exact⟨z,y,xs,Paired.aaL r λp l z=>⟨z.1,i _ _ z.2.1,z.2.2⟩,m,es,s,k _ _ (.inl rfl) e,c⟩
 |set S g=>let⟨m,es,s,t,e,c⟩:=x;exact⟨m,es,s,t,k _ _ (.inl rfl) e,c⟩
 |ins C dx j=>obtain⟨d,z,K,e,mA,⟨D,es,s,R,c⟩,r⟩:=x;exact⟨Q _ d,z,K,k _ _ (.inl rfl) e,mA,⟨D,es,s,k _ _ (.inr d) R,c⟩,r⟩
 |Z y=>let⟨m,e⟩:=x;exact⟨m,k _ _ (.inl rfl) e⟩
 |xd j=>obtain⟨mA,⟨D,es,s,e,c⟩,r⟩:=x;exact⟨mA,⟨D,es,s,k _ _ (.inl rfl) e,c⟩,r⟩
 |rng n L=>let⟨t,u,v,e⟩:=x;exact⟨t,u,v,Ż⟩
 |Ov m u ih=>let⟨e,l⟩:=x;exact⟨k _ _ (.inl rfl) e,ih l⟩
 |WM q=>solve_by_elim|met f y=>solve_by_elim|ext T=>obtain⟨p,⟨o,e⟩,st⟩:=x;exact⟨st _ _ p λo l=>k _ _ (.inl rfl) l,Ż,st⟩
def pw.lt(x:pw P w H h)(e:H a=Y o):a<h.objs.size:=(x a o e).lt
def pw.fresh(x:pw P w H h)(e:h.objs.size<=a):H a=none:=by
 rcases q:H a with _|u
 .rfl
 exact absurd (aY (x.lt q) e) Ż
def pw.kept(x:pw P w H h)(k:∀b u,h.get? b=Y u->h'.get? b=Y u):pw P w H h':=λa o e=>
 (x a o e).zF (λb u c q=>k b u q) (λc q=>q) λc c q=>q
def pw.laid(x:pw P w H h)(k:∀b u,h.get? b=Y u->h'.get? b=Y u)(m:h.objs.size<=a)(f:jF P w (dA H a o) h' a o):pw P w (dA H a o) h':=λb u e=>by
 let g:=x.fresh m;by_cases l:b=a
 .simp_all [a_]
 .rw[aR l]at e;exact(x b u e).zF (λc v d q=>k c v q) (λc q=>by rw[aR (bp q g)];exact q) λc xs q=>by rw[aR (bp q g)];exact q
end
def Rd(H:Hp)(a:aw)(u:HO):Prop:=H a=Y u\/∃o,H a=Y (.Ov o u)
def Rd.of(h:H a=Y u):Rd H a u :=.inl h
def Rd.ok{P:aZ}{a:aw}(r:Rd H a u)(x:pw P w H h):jF P w H h a u:=by
 rcases r with r|⟨o,r⟩
 .exact x a u r
 .let⟨_,q⟩:=x a _ r;exact q
def Mut:Option HO->Prop
 |some (.lst _)=>True|some (.dK _ _)=>True|some (.dT _)=>True|some (.set _ _)=>True|some (.ins _ _ _)=>True|some (.ext _)=>True|_=>False
section
variable {P:aZ}
def pw.write(C:pw P w H h)(l:Mut (H x))(A:e=x\/H e=Y (.Z x))(k:∀b u,b≠e->h.get? b=Y u->h'.get? b=Y u)(s:∃u,h'.get? e=Y u)(p:jF P w (dA H x o') h' x o'):pw P w (dA H x o') h':=λb u q=>by
 have f:∀c y,H c=Y (.Z y)->c≠x:=λc y r z=>by subst z;rw[r]at l;exact l
 have g:∀c xs,H c=Y (.tup xs)->c≠x:=λc xs r z=>by subst z;rw[r]at l;exact l
 by_cases o:b=x
 .subst o;rw[a_]at q;cases q;exact p
 .rw[aR o]at q;by_cases a:b=e
  .have t:H b=Y (.Z x):=Ż
   rw[q]at t;cases t;let⟨v,D⟩:=s;exact⟨v,Ż⟩
  .refine(C b u q).zF (λc v m r=>k c v ?_ r) λc r=>by simp_all [aR] λc xs r=>by simp_all [aR]
   grind
end
structure Un(fs ex:List aw)(H H':Hp)(h h':cF):Prop where
 keep:∀b o,h.get? b=some o->H b=none->b∉fs->b∉ex->h'.get? b=some o
 slot:∀b o,h.get? b=some o->H b=none->b∈fs->b∉ex->∃sl,h'.get? b=some { o with slots:=sl }
 free:∀b o,h.get? b=some o->H b=none->b∉ex->H' b=none
 there:∀b o,h.get? b=some o->b∉ex->∃o',h'.get? b=some o'
 FC:∀b xs,H b=some (.tup xs)->H' b=some (.tup xs)
 Ex:∀b o u,H b=some (.Ov o u)->H' b=some (.Ov o u)
 FD:∀b ps,H b=some (.WM ps)->∃afh,H' b=some (.WM (ps++afh))
def Un.any(u:Un j ex H O h J){a:Obj}(q:h.get? b=Y a)(n:H b=M)(c:b∉ex):∃f,J.get? b=Y { a with slots:=f }:=by
 by_cases e:b∈j
 .exact u.slot b a q n e c
 .exact⟨_,u.keep b a q n e c⟩
def Un.kept(k:∀b u,h.get? b=Y u->h'.get? b=Y u):Un j ex H H h h':=
 ⟨λb c a d d d=>k b c a,λb c a d d d=>⟨_,k b c a⟩,λd d d n d=>n,λb c a d=>⟨c,k b c a⟩,λd d a=>a,λd d d a=>a,λd q a=>⟨#[],by rw[a];simp⟩⟩
def Un.refl:Un j ex H H h h:=Un.kept λa a q=>q
def Un.laid(k:∀b u,h.get? b=Y u->h'.get? b=Y u)(f:h.objs.size<=a)(e:H a=M):Un j ex H (dA H a o) h h' where
 keep:=λb u c d d d=>k b u c
 slot:=λb u c d d d=>⟨u.slots,k b u c⟩
 free:=λb u c n d=>by rw[aR (bf (aY (aD c) f))];exact n
 there:=λb u c d=>⟨u,k b u c⟩
 FC:=λb xs c=>by rw[aR (bp c e)];exact c
 Ex:=λb u xs c=>by rw[aR (bp c e)];exact c
 FD:=λb q c=>⟨#[],by rw[aR (bp c e),c];simp⟩
def Un.write(f:Mut (H x))(s:e=x\/H e=Y (.Z x))(k:∀b u,b≠e->h.get? b=Y u->h'.get? b=Y u)(l:∃u,h'.get? e=Y u):Un j ex H (dA H x o) h h':=by
 have m:∀b,H b=M->b≠x:=λb n z=>by subst z;rw[n]at f;exact f
 have p:∀b,H b=M->b≠e:=λb n z=>by simp_all
 have g:∀b u,H b=Y u->¬Mut (Y u)->b≠x:=λb u a nm z=>by simp_all
 refine⟨λb u a n c c=>k b u (p b n) a,λb u a n c c=>⟨_,k b u (p b n) a⟩,λb u a n c=>by simp_all [aR],λb u a c =>?_,
  λb xs a=>by rw[aR (g b _ a λz=>z)];exact a,λb u xs a=>by rw[aR (g b _ a λz=>z)];exact a,λb q a=>⟨#[],by rw[aR (g b _ a λz=>z),a];simp⟩⟩
 grind
noncomputable def trk(h:cF)(H:Hp):List aw:=(cm h.objs.size).filter λa=>(H a).isSome
def JJ(h:cF)(H:Hp):cF:=PySem.W.hideAll h (trk h H)
def Nt(h:cF)(H:Hp):(JJ h H).objs.size=h.objs.size:=PySem.W.hideAll_size _ _
def QU(e:h.get? b=Y o)(n:H b=M):(JJ h H).get? b=Y o:=
 PySem.W.hideAll_get _ e λa=>by
  let q:=(wU.mp a).2
  simp_all
def T7(e:(JJ h H).get? b=Y o):h.get? b=Y o/\H b=none:=by
 let a:=PySem.W.of_hideAll _ e;refine⟨a,?_⟩;rcases q:H b with _|x
 .rfl
 simp_all [trk,aD,JJ,PySem.W.hideAll_none]
structure Mod(K:aP)(mg:aH->Option aj)(base:cF):Prop where
 V5:K.In base
 glob:base.Ns bq mg
 blt:∃mb,base.Ns builtinsNs mb/\∀x:aH,x ≠ "__name__" ->mb x=d9 x
 nolimit:base.NoLimit
structure Cx where
 prog:aZ
 w:cH
 K:aP
 mg:aH->Option aj
 base:cF
 A:jq
 N:List aH
 s₀:ar
 H₀:Hp
 env:Env
 outer:List Env
 stack:List Env
 ex:List aw
 fn:aH->Bool
 calm:Bool
 pn:List (aw×Obj)
 xe:aj->ar->Prop
noncomputable def Ey(l:List Env):List aw:=l.filterMap (·.frame)
abbrev Cx.fs(X:Cx):List aw:=Ey X.outer
def YY(a:Scope)(x:aH):Prop:=a.names.lookup x=Y .local\/a.names.lookup x=Y .cell\/a.names.lookup x=Y .free
def Loc(a:Scope)(x:aH):Prop:=a.names.lookup x=Y .local\/a.names.lookup x=Y .cell
def Look(a:Env)(h:cF)(m:aH->Option aj)(x:aH)(u:aj):Prop:=
 (a.kindOf x=Y .local/\m x=Y u)\/((a.kindOf x=Y .cell\/a.kindOf x=Y .free)/\∃c,a.cells.lookup x=Y c/\h.IsCell c (Y u))
structure Cx.Ok(X:Cx):Prop where
 mod:Mod X.K X.mg X.base
 kind:X.env.scope.kind=.function
 glob:X.env.globals=bq
 blt:X.env.builtins=builtinsNs
 above:X.s₀.heap.objs.size<=X.env.locals
 inj:∀x y c,X.env.cells.lookup x=some c->X.env.cells.lookup y=some c->x=y
 has:∀x,(X.env.kindOf x=some .cell\/X.env.kindOf x=some .free)->∃c,X.env.cells.lookup x=some c
 cab:∀x c,X.fn x=true->X.env.cells.lookup x=some c->X.s₀.heap.objs.size<=c
 hd:X.calm=true->X.A.handled=none
 frames:X.A.frames=some X.stack
 stk:X.stack=X.outer\/(X.stack=X.env::X.outer/\X.env.frame=some X.env.locals)
 exf:∀b∈X.ex,b≠X.env.locals/\∀x c,X.env.cells.lookup x=some c->c≠b
 bs:∀b o,X.base.get? b=some o->X.s₀.heap.get? b=some o/\X.H₀ b=none
 Vd:X.base.objs.size<=X.s₀.heap.objs.size
 P0:∀b o,X.base.get? b=some o->b∉X.ex
 UM:∀b∈X.ex,b∉X.fs
 yB:X.s₀.heap.FunFrames X.base X.outer
 Ys:∀b∈X.fs,X.H₀ b=none
structure Inv(X:Cx)(E9:List (aw×Obj))(σ:List (Option V))(H:Hp)(s:ar):Prop where
 ok:X.Ok
 os:s.os=X.s₀.os
 bare:H_ s.gens
 base:Un X.fs X.ex X.H₀ H X.s₀.heap s.heap
 loc:∃m,s.heap.Ns X.env.locals m/\∀(i:Nat) (x:aH) (v:V),X.N[i]?=some x->σ[i]?=some (some v)->YY X.env.scope x->∃u,RelV v u/\Look X.env s.heap m x u
 cell:∀x c,X.env.cells.lookup x=some c->∃v,s.heap.IsCell c v
 free:H X.env.locals=none
 pW:∀x c,X.env.cells.lookup x=some c->H c=none
 pin:∀p∈X.pn++E9,s.heap.get? p.1=some p.2/\H p.1=none/\p.1≠X.env.locals/\p.1∉X.fs/\∀v,p.2.data ≠ .cell v
 fQ:pw X.prog X.w H s.heap
 len:σ.length=X.N.length
section
variable {X:Cx}{s:ar}
def Cx.Ok.adL(a:X.Ok)(e:X.base.get? b=Y o):b∉X.fs:=λc=>by
 have:=(a.yB.mem c).1
 simp_all
def Inv.bs(I:Inv X B U H s):∀b o,X.base.get? b=Y o->s.heap.get? b=Y o/\H b=none:=λb o e=>
 ⟨I.base.keep b o (I.ok.bs b o e).1 (I.ok.bs b o e).2 (I.ok.adL e) (I.ok.P0 b o e),I.base.free b o (I.ok.bs b o e).1 (I.ok.bs b o e).2 (I.ok.P0 b o e)⟩
def Inv.bk(I:Inv X B U H s):∀b o,X.base.get? b=Y o->s.heap.get? b=Y o:=λb o e=>(I.bs b o e).1
def Inv.mod(I:Inv X B U H s):Mod X.K X.mg X.base:=I.ok.mod
def Inv.yj(I:Inv X B U H s):X.K.In s.heap:=I.ok.mod.V5.keeps I.bk
def Inv.lt(I:Inv X B U H s):X.env.locals<s.heap.objs.size:=let⟨_,a,_⟩:=I.loc;a.lt
def Inv.sz(I:Inv X B U H s):X.s₀.heap.objs.size<=s.heap.objs.size:=aV I.ok.above (cx I.lt)
def Inv.XD(I:Inv X B U H s)(h:s.heap.objs.size<=a):a∉X.fs:=λc=>by
 let⟨_,o,b,_⟩:=I.ok.yB.mem c;exact absurd (aY (aD b) (aV I.sz h)) Ż
def Inv.cne(I:Inv X B U H s):∀x c,X.env.cells.lookup x=Y c->c≠X.env.locals:=λx c e z=>by
 let⟨v,o,f,g⟩:=I.cell x c e;obtain⟨m,⟨o',es,h,a,b,_⟩,_⟩:=I.loc
 simp_all
def Inv.yB(I:Inv X B U H s):s.heap.FunFrames X.base X.outer:=by
 let g:∀(l:List Env),(∀b∈Ey l,b∈X.fs)->X.s₀.heap.FunFrames X.base l->s.heap.FunFrames X.base l:=by
  intro l
  induction l with
  |nil=>solve_by_elim|cons w r ih=>
   rintro h ⟨u,⟨L,o,a,p,m,v⟩,k⟩;have f:=h L (by unfold Ey;rw[qo,a];exact aM);let⟨x,e⟩:=I.base.slot L o m (I.ok.Ys L f) f λz=>I.ok.UM L z f
   exact⟨u,⟨L,_,a,p,e,v⟩,ih (λb c=>h b (by unfold Ey;rw[qo,a];exact aB _ c)) k⟩
 exact g _ (λ_ c=>c) I.ok.yB
def Inv.stack(I:Inv X B U H s):s.heap.FunFrames X.base X.stack:=by
 rcases I.ok.stk with e|⟨e,b⟩
 .rw[e];exact I.yB
 .rw[e];let⟨m,a,_⟩:=I.loc;exact .cons (by rw[I.ok.kind];decide) b a (Heap.get?_none_of_le (aV I.ok.Vd I.ok.above)) I.yB
def Inv.ux(I:Inv X B U H s):∀b∈Ey X.stack,b∈X.env.locals::X.fs:=λb a=>by
 rcases I.ok.stk with e|_
 .simp_all
 simp_all [Ey,qo]
def Inv.Kx(I:Inv X B U H s):∀b∈Ey X.stack,H b=none:=λb a=>by
 rcases aq.mp (I.ux b a) with e|a
 .rw[e];exact I.free
 .let⟨_,o,c,_⟩:=I.ok.yB.mem a;exact I.base.free b o c (I.ok.Ys b a) λz=>I.ok.UM b z a
def Inv.step{g':Array GenState}{t':Nat}{d':Drawn}{ch:List aw}(I:Inv X B U H s)(w:∀b∈ch,(b∈X.ex\/X.s₀.heap.objs.size<=b)/\b≠X.env.locals/\(∀x c,X.env.cells.lookup x=Y c->c≠b)/\∀p∈X.pn++B,p.1≠b)(t:∀b o,b≠X.env.locals->b∉X.fs->b∉ch->s.heap.get? b=Y o->H b=M->h'.get? b=Y o)(E:∀b o,b≠X.env.locals->b∈X.fs->b∉ch->s.heap.get? b=Y o->H b=M->∃sl,h'.get? b=Y { o with slots:=sl })(g:∀b o,b∉ch->s.heap.get? b=Y o->H b=M->H' b=M)(F:∀b o,b∉ch->s.heap.get? b=Y o->∃o',h'.get? b=Y o')(P:∀b xs,H b=Y (.tup xs)->H' b=Y (.tup xs))(T:∀b o u,H b=Y (.Ov o u)->H' b=Y (.Ov o u))(Q:∀b q,H b=Y (.WM q)->∃S,H' b=Y (.WM (q++S)))(ns:∀m,s.heap.Ns X.env.locals m->h'.Ns X.env.locals m)(fQ:pw X.prog X.w H' h')(hg:H_ g'):
  Inv X B U H' { s with heap:=h',gens:=g',drawn:=d',toks:=t' }:=by
 have R:∀b o,X.s₀.heap.get? b=Y o->b≠X.env.locals:=λb o e=>bf (aY (aD e) I.ok.above)
 have C:∀b o,X.s₀.heap.get? b=Y o->b∉X.ex->b∉ch:=λb o e f K=>by
  rcases(w b K).1 with z|z
  .exact f z
  .exact absurd (aY (aD e) z) (t5 _)
 have A:∀x c,X.env.cells.lookup x=Y c->∀v,s.heap.IsCell c v->h'.IsCell c v:=λx c e v ⟨o,j,hd⟩=>by
  have h:c∉ch:=λz=>(w c z).2.2.1 x c e rfl
  by_cases hc:c∈X.fs
  .let⟨sl,a⟩:=E c o (I.cne x c e) hc h j (I.pW x c e);exact⟨_,a,hd⟩
  .exact⟨o,t c o (I.cne x c e) hc h j (I.pW x c e),hd⟩
 refine⟨I.ok,I.os,hg,⟨λb o e n K f =>?_,λb o e n K f =>?_,λb o e n f =>?_,λb o e f =>?_,λb xs e=>P b xs (I.base.FC b xs e),λb o xs e=>T b o xs (I.base.Ex b o xs e),λb q e =>?_⟩,?_,λx c e =>?_,?_,λx c e =>?_,λp hp =>?_,fQ,I.len⟩
 .exact t b o (R b o e) K (C b o e f) (I.base.keep b o e n K f) (I.base.free b o e n f)
 .let⟨sl,D⟩:=I.base.slot b o e n K f;let⟨sl',e2⟩:=E b _ (R b o e) K (C b o e f) D (I.base.free b o e n f);exact⟨sl',e2⟩
 .let⟨o',D⟩:=I.base.there b o e f;exact g b o' (C b o e f) D (I.base.free b o e n f)
 .let⟨o',D⟩:=I.base.there b o e f;exact F b o' (C b o e f) D
 .let⟨m1,D⟩:=I.base.FD b q e;let⟨m2,e2⟩:=Q b _ D;exact⟨m1++m2,by rw[e2,Array.append_assoc]⟩
 .let⟨m,hn,hl⟩:=I.loc;refine⟨m,ns m hn,λi x v D e2 e3 =>?_⟩;let⟨u,r,l⟩:=hl i x v D e2 e3;refine⟨u,r,?_⟩;rcases l with l|⟨k,c,e,z⟩
  .exact .inl l
  .exact .inr ⟨k,c,e,A x c e _ z⟩
 .let⟨v,z⟩:=I.cell x c e;exact⟨v,A x c e v z⟩
 .obtain⟨m,⟨o,_,_,j,_⟩,_⟩:=I.loc;exact g _ o (λz=>(w _ z).2.1 rfl) j I.free
 .let⟨v,o,j,hd⟩:=I.cell x c e;exact g c o (λz=>(w c z).2.2.1 x c e rfl) j (I.pW x c e)
 .let⟨e,n,ne,nf,d⟩:=I.pin p hp;have h:p.1∉ch:=λz=>(w p.1 z).2.2.2 p hp rfl
  exact⟨t p.1 p.2 ne nf h e n,g p.1 p.2 h e n,ne,nf,d⟩
def Inv.un{t':Nat}(I:Inv X B U H s)(u:Un X.fs [] H H' s.heap h')(c:pw X.prog X.w H' h'):Inv X B U H' { s with heap:=h',toks:=t' }:=by
 obtain⟨m,⟨o,es,x,k,r⟩,_⟩:=id I.loc;let⟨v,t⟩:=u.any k I.free ż;exact I.step (ch:=[]) (λd z=>nomatch z) (λb o d f d e n=>u.keep b o e n f ż) (λb o d f d e n=>u.slot b o e n f ż) (λb o d e n=>u.free b o e n ż) (λb o d e=>u.there b o e ż) u.FC u.Ex u.FD (λw p=>by let⟨o',g,h,a,l⟩:=p;rw[k]at a;cases a;exact⟨_,g,h,t,l⟩) c I.bare
def Inv.call{g':Array GenState}{t':Nat}{d':Drawn}{ch:List aw}(I:Inv X B U H s)(u:Un (Ey X.stack) ch H H' s.heap h')(h:pw X.prog X.w H' h')(C:H_ g')(g:∀b∈ch,(b∈X.ex\/X.s₀.heap.objs.size<=b)/\b≠X.env.locals/\(∀x c,X.env.cells.lookup x=Y c->c≠b)/\∀p∈X.pn++B,p.1≠b):
  Inv X B U H' { s with heap:=h',gens:=g',drawn:=d',toks:=t' }:=by
 obtain⟨m,⟨o,es,K,v,r⟩,_⟩:=id I.loc;let⟨E,k⟩:=u.any v I.free λz=>(g _ z).2.1 rfl
 exact I.step g (λb o k D a e n=>u.keep b o e n (λz=>(aq.mp (I.ux b z)).elim k D) a) (λb o d d a e n=>u.any e n a) (λb o a e n=>u.free b o e n a) (λb o a e=>u.there b o e a) u.FC u.Ex u.FD (λF A=>by let⟨o',l,t,f,w⟩:=A;rw[v]at f;cases f;exact⟨_,l,t,k,w⟩) h C
def Inv.turned{t':Nat}(I:Inv X B U H s)(k:∀b o,b≠g->s.heap.get? b=Y o->h'.get? b=Y o)(A:H g=M)(t:g≠X.env.locals)(J:g∈X.ex\/X.s₀.heap.objs.size<=g)(z:∀x c,X.env.cells.lookup x=Y c->c≠g)(E:∀p∈X.pn++B,p.1≠g):Inv X B U H { s with heap:=h',toks:=t' }:=by
 refine I.step (ch:=[g]) (λb D =>?_) (λb o d d h e d=>k b o (λf=>h (by simp[f])) e) (λb o d d h e d=>⟨o.slots,Ż⟩) (λd d d d n=>n)
  (λb o h e=>⟨o,Ż⟩) (λd d e=>e) (λd d d e=>e) (λb q e=>⟨#[],by rw[e];simp⟩) (λm C =>?_) (λb u e =>?_) I.bare
 .let e:=by simpa using D
  subst e;exact⟨J,t,z,E⟩
 .let⟨o,es,F,w,r⟩:=C;exact⟨o,es,F,k _ o (bE t) w,r⟩
 .refine(I.fQ b u e).zF (λc v h a=>k c v ?_ a) (λd a=>a) λd d a=>a
  grind
def Inv.tok(I:Inv X B U H s)(t:Nat):Inv X B U H { s with toks:=t }:=I.un Un.refl I.fQ
def Inv.kept{t':Nat}(I:Inv X B U H s)(k:∀b u,s.heap.get? b=Y u->h'.get? b=Y u):Inv X B U H { s with heap:=h',toks:=t' }:=I.un (Un.kept k) (I.fQ.kept k)
def Inv.laid{a:aw}{o:HO}{t':Nat}(I:Inv X B U H s)(k:∀b u,s.heap.get? b=Y u->h'.get? b=Y u)(e:s.heap.objs.size<=a)(c:jF X.prog X.w (dA H a o) h' a o):
  Inv X B U (dA H a o) { s with heap:=h',toks:=t' }:=I.un (Un.laid k e (I.fQ.fresh e)) (I.fQ.laid k e c)
def Inv.write{x e:aw}{h:Nat}(I:Inv X B U H s)(f:Mut (H x))(g:e=x\/H e=Y (.Z x))(k:∀b u,b≠e->s.heap.get? b=Y u->h'.get? b=Y u)(a:∃u,h'.get? e=Y u)(c:jF X.prog X.w (dA H x o) h' x o):Inv X B U (dA H x o) { s with heap:=h',toks:=h }:=I.un (Un.write f g k a) (I.fQ.write f g k a c)
def Inv.weak(I:Inv X B U H s)(e:a.length=U.length)(w:∀(i:Nat) v,a[i]?=Y (Y v)->U[i]?=Y (Y v)):Inv X B a H s:=
 ⟨I.ok,I.os,I.bare,I.base,let⟨m,c,b⟩:=I.loc;⟨m,c,λi x v h g f=>b i x v h (w i v g) f⟩,I.cell,I.free,I.pW,I.pin,I.fQ,e.trans I.len⟩
def Inv.yU(I:Inv X B U H s)(h:∀p∈a,s.heap.get? p.1=Y p.2/\H p.1=M/\p.1≠X.env.locals/\p.1∉X.fs/\∀v,p.2.data ≠ .cell v):Inv X a U H s:=
 ⟨I.ok,I.os,I.bare,I.base,I.loc,I.cell,I.free,I.pW,λp b=>(aA.mp b).elim (λz=>I.pin p (aW _ z)) (h p),I.fQ,I.len⟩
def Gg{N:List aH}(c:N.Nodup){j:Nat}(a:N[i]?=Y x)(b:N[j]?=Y x):i=j:=by
 let⟨J,f⟩:=au.mp a;let⟨z,e⟩:=au.mp b;exact(List.getElem_inj c).mp (f.trans e.symm)
def Ck{G:Model}{A:jq}{i:Nat}{v:V}(I:Inv X B U H s)(hN:X.N.Nodup)(L:X.N[i]?=Y x)(w:Loc X.env.scope x)(r:RelV v u)(h:∀s',Inv X B (U.set i (Y v)) H s'->(∃a,fM a s.heap s'.heap/\(a=X.env.locals\/X.env.cells.lookup x=Y a))->Q () s')(hf:autoParam (X.fn x=Z'\/X.env.scope.names.lookup x=Y .local) ŧ):aX G A (storeName X.env x u) Q E s:=by
 let⟨m,hn,hl⟩:=id I.loc;let aen:(X.env.scope.kind == .class||(X.env.scope.kind == .module&&X.env.locals != X.env.globals))=false:=by rw[I.ok.kind];rfl
 have K:i<U.length:=by rw[I.len];exact(au.mp L).1
 let T:=I.cne;have g:∀ {a:aw}{h':cF},(∃o,s.heap.get? a=Y o/\H a=M)->fM a s.heap h'->pw X.prog X.w H h':=fun {a h'} ha f b ob e=>by
  let⟨_,_,C⟩:=ha;refine(I.fQ b ob e).zF (λc w' t q=>(f.2 c ?_).trans q) (λJ q=>q) λJ J q=>q
  rintro rfl;rcases t with rfl|t<;>grind
 rcases w with F|F
 .refine wpAny_storeName_local F hn (λh' hn' f =>?_) aen;let⟨oL,_,_,hoL,_⟩:=id hn;refine h _ ⟨I.ok,I.os,I.bare,⟨λb o e n S w =>?_,λb o e n S w =>?_,I.base.free,λb o e w =>?_,I.base.FC,I.base.Ex,I.base.FD⟩,⟨_,hn',λj y v' l D e3 =>?_⟩,λy c e =>?_,I.free,I.pW,λp hp =>?_,g ⟨oL,hoL,I.free⟩ f,by simpa using I.len⟩ ⟨_,f,.inl rfl⟩
  .exact(f.2 b (bf (aY (aD e) I.ok.above))).trans (I.base.keep b o e n S w)
  .let⟨sl,l⟩:=I.base.slot b o e n S w;exact⟨sl,(f.2 b (bf (aY (aD e) I.ok.above))).trans l⟩
  .let⟨o',l⟩:=I.base.there b o e w;exact⟨o',(f.2 b (bf (aY (aD e) I.ok.above))).trans l⟩
  .by_cases P:j=i
   .subst P;rw[L]at l;cases l;rw[cp K]at D;cases D;exact⟨u,r,.inl ⟨F,ż⟩⟩
   .rw[be (bE P)]at D;let⟨u',r',q⟩:=hl j y v' l D e3;refine⟨u',r',?_⟩;rcases q with⟨k,e⟩|⟨k,c,e,z⟩
    .refine .inl ⟨k,?_⟩;have:y≠x:=λe=>P (Gg hN l (e ▸ L))
     simp[this,e]
    .exact .inr ⟨k,c,e,z.sameBut f (T y c e)⟩
  .let⟨w',z⟩:=I.cell y c e;exact⟨w',z.sameBut f (T y c e)⟩
  .let⟨e,n,ne,nf,d⟩:=I.pin p hp;exact⟨(f.2 p.1 ne).trans e,n,ne,nf,d⟩
 .have R:X.fn x=true:=by
   rcases hf with z|z
   .exact z
   .rw[z]at F;cases F
  let⟨c,t⟩:=I.ok.has x (.inl F);let⟨w',z⟩:=I.cell x c t;refine wpAny_storeName_cell I.ok.kind F t z (λh' hc' f =>?_);let⟨oc,hoc,aec⟩:=id z;refine h { s with heap:=h' } ⟨I.ok,I.os,I.bare,⟨λb o e n S w =>?_,λb o e n S w =>?_,I.base.free,λb o e w =>?_,I.base.FC,I.base.Ex,I.base.FD⟩,⟨m,hn.sameBut f (bE (T x c t)),λj y v' l D e3 =>?_⟩,λy c' e =>?_,I.free,I.pW,λp hp =>?_,g ⟨oc,hoc,I.pW x c t⟩ f,by simpa using I.len⟩ ⟨c,f,.inr t⟩
  .exact(f.2 b (bf (aY (aD e) (I.ok.cab x c R t)))).trans (I.base.keep b o e n S w)
  .let⟨sl,l⟩:=I.base.slot b o e n S w;exact⟨sl,(f.2 b (bf (aY (aD e) (I.ok.cab x c R t)))).trans l⟩
  .let⟨o',l⟩:=I.base.there b o e w;exact⟨o',(f.2 b (bf (aY (aD e) (I.ok.cab x c R t)))).trans l⟩
  .by_cases P:j=i
   .subst P;rw[L]at l;cases l;rw[cp K]at D;cases D;exact⟨u,r,.inr ⟨.inl F,c,t,hc'⟩⟩
   .rw[be (bE P)]at D;let⟨u',r',q⟩:=hl j y v' l D e3;refine⟨u',r',?_⟩;rcases q with q|⟨k,c',e,z'⟩
    .exact .inl q
    .refine .inr ⟨k,c',e,z'.sameBut f ?_⟩;rintro rfl;exact P (Gg hN l (I.ok.inj _ _ _ e t ▸ L))
  .by_cases hcc:c'=c
   .subst hcc;exact⟨_,hc'⟩
   .let⟨w2,z2⟩:=I.cell y c' e;exact⟨w2,z2.sameBut f hcc⟩
  .let⟨e,n,ne,nf,d⟩:=I.pin p hp;refine⟨(f.2 p.1 ?_).trans e,n,ne,nf,d⟩;intro q;rw[q,hoc]at e;exact d w' (by rw[<- (cE e)];exact aec)
def zD{d:Model}{v:V}(I:Inv X B U H s)(c:X.N.Nodup)(L:X.N[i]?=Y x)(a:Loc X.env.scope x)(r:RelV v u)(h:∀s',Inv X B (U.set i (Y v)) H s'->Q () s')(b:autoParam (X.fn x=Z'\/X.env.scope.names.lookup x=Y .local) ŧ):aX d A (storeName X.env x u) Q E s:=
 Ck I c L a r (λs' e f=>h s' e) b
def Inv.Ho{s':ar}{g:List aw}(I:Inv X B U H s)(k:s'.os=s.os)(u:Un (Ey X.stack) g H H' s.heap s'.heap)(a:pw X.prog X.w H' s'.heap)(l:H_ s'.gens)(f:∀b∈g,(b∈X.ex\/X.s₀.heap.objs.size<=b)/\b≠X.env.locals/\(∀x c,X.env.cells.lookup x=Y c->c≠b)/\∀p∈X.pn++B,p.1≠b):Inv X B U H' s':=by
 let⟨h',m,o,h,o'⟩:=s';subst k;exact I.call u a l f
end
abbrev XK:=aj->Option aw->Hp->Prop
abbrev St:=List (Option V)
abbrev VK:=V->Hp->Prop
abbrev TE:=St->Hp->VK->Prop
abbrev TT:=St->Hp->(Bool->Hp->Prop)->Prop
abbrev TA:=St->Hp->(List V->Hp->Prop)->Prop
structure Ends where
 nx:St->Hp->Prop
 rt:VK
 bk:St->Hp->Prop:=λ_ _=>False
 ct:St->Hp->Prop:=λ_ _=>False
abbrev TS:=Ends->St->Hp->Prop
inductive EP (X:Cx) (B:List (aw×Obj)) (U:St) (Q:VK) (u:aj) (s':ar):Prop
 |mk v H':Inv X B U H' s'->RelV v u->Q v H'->EP X B U Q u s'
inductive TP (X:Cx) (B:List (aw×Obj)) (U:St) (Q:Bool->Hp->Prop) (b:Bool) (s':ar):Prop
 |mk H':Inv X B U H' s'->Q b H'->TP X B U Q b s'
inductive AP (X:Cx) (B:List (aw×Obj)) (U:St) (Q:List V->Hp->Prop) (b:List aj) (s':ar):Prop
 |mk a H':Inv X B U H' s'->b8 a b->Q a H'->AP X B U Q b s'
def SP(X:Cx)(B:List (aw×Obj))(D:Ends)(f:Flow)(s':ar):Prop:=
 match f with
 |.next=>∃a H',Inv X B a H' s'/\D.nx a H'|.brk=>∃a H',Inv X B a H' s'/\D.bk a H'|.cont=>∃a H',Inv X B a H' s'/\D.ct a H'|.ret u=>∃v a H',Inv X B a H' s'/\RelV v u/\D.rt v H'
def PE(X:Cx)(e:Expr)(t:TE):Prop:=
 ∀(B:List (aw×Obj)) (s:ar) (U:St) (H:Hp) (Q:VK),Inv X B U H s->t U H Q->aX (bc X.prog X.w) X.A (eval e X.env) (EP X B U Q) X.xe s
def PT(X:Cx)(e:Expr)(t:TT):Prop:=
 ∀(B:List (aw×Obj)) (s:ar) (U:St) (H:Hp) (Q:Bool->Hp->Prop),Inv X B U H s->t U H Q->aX (bc X.prog X.w) X.A (isTrue e X.env (eval e X.env)) (TP X B U Q) X.xe s
def PW(X:Cx)(e:Expr)(t:TT):Prop:=
 ∀(a:Sem aj) (B:List (aw×Obj)) (s:ar) (U:St) (H:Hp) (Q:Bool->Hp->Prop),Inv X B U H s->t U H Q->aX (bc X.prog X.w) X.A (isTrue e X.env a) (TP X B U Q) X.xe s
def PW.pt{X:Cx}(h:PW X e t):PT X e t:=h _
def PA(X:Cx)(es:List Expr)(t:TA):Prop:=
 ∀(G:Pos) (B:List (aw×Obj)) (s:ar) (U:St) (H:Hp) (Q:List V->Hp->Prop),Inv X B U H s->t U H Q->aX (bc X.prog X.w) X.A (spliced (cP G (ak es X.env))) (AP X B U Q) X.xe s
def PS(X:Cx)(st:dh)(t:TS):Prop:=
 ∀(B:List (aw×Obj)) (s:ar) (U:St) (H:Hp) (D:Ends),Inv X B U H s->t D U H->aX (bc X.prog X.w) X.A (exec st X.env) (SP X B D) X.xe s
def rN(X:Cx)(st:List dh)(t:TS):Prop:=
 ∀(B:List (aw×Obj)) (s:ar) (U:St) (H:Hp) (D:Ends),Inv X B U H s->t D U H->aX (bc X.prog X.w) X.A (execs st X.env) (SP X B D) X.xe s
def fu{b:Model}{s:ar}(h:aX b A t Q E s)(e:∀a s,Q a s->c a s):aX b A t c E s:=gJ h e λd d x=>x
section
variable {X:Cx}
def i5(i:Nat):TE:=λU H Q=>∃v,U[i]?=Y (Y v)/\Q v H
def tC(v:V):TE:=λ_ H Q=>Q v H
def Xj(A:X.N[i]?=Y x)(o:YY X.env.scope x)(f:autoParam ((x==("__debug__" : aH))=false) Ū)(g:autoParam ((x==("__classdict__" : aH))=false) Ū):PE X (.Name x G) (i5 i):=by
 rintro B s U H Q I ⟨v,e,h⟩;let⟨m,p,w⟩:=I.loc;let⟨u,r,l⟩:=w i x v A e o;let lQ:EP X B U Q u s:=⟨v,H,I,r,h⟩;rcases l with⟨b,t⟩|⟨b,c,k,a⟩
 .exact wpAny_Name (wpAny_loadName_local I.ok.kind b p t lQ) f
 .rcases b with b|b
  .exact wpAny_Name (wpAny_loadName_cell I.ok.kind b k a lQ) f
  .exact wpAny_Name (wpAny_loadName_free I.ok.kind b k a lQ g) f
def o_{i j G}:PE X (.Constant (.int i) j G) (tC (.int i)):=λa a a H a I h=>wpAny_Constant_int ⟨.int i,H,I.tok _,⟨_,rfl⟩,h⟩
def aay{b j G}:PE X (.Constant (.bool b) j G) (tC (.bl b)):=λa a a H a I h=>Constant_bool ⟨.bl b,H,I,rfl,h⟩
def Xm{j G}:PE X (.Constant .none j G) (tC .dr):=λa a a H a I h=>Constant_none ⟨.dr,H,I,rfl,h⟩
def IS{x j G}:PE X (.Constant (.str x) j G) (tC (.str x)):=λa a a H a I h=>Calls.Constant_str ⟨.str x,H,I.tok _,⟨_,rfl⟩,h⟩
def Gl(X:Cx)(x:aH):Prop:=X.env.kindOf x=Y .globalImplicit
def Em{s:ar}(I:Inv X B U H s)(b:Gl X x)(a:X.mg x=Y u)(h:Q u s)(c:autoParam ((x==("__debug__" : aH))=false) Ū):aX (bc X.prog X.w) X.A (eval (.Name x G) X.env) Q E s:=
 Zi I.ok.kind b (Calls.loadGlobal_global (by rw[I.ok.glob];exact I.mod.glob.keeps I.bk) a h) c
def qz{s:ar}(I:Inv X B U H s)(e:Gl X x)(c:X.mg x=M)(a:d9 x=Y u)(h:Q u s)(b:autoParam (x ≠ "__name__") Ū)(f:autoParam ((x==("__debug__" : aH))=false) Ū):aX (bc X.prog X.w) X.A (eval (.Name x G) X.env) Q E s:=by
 let⟨g,J,z⟩:=I.mod.blt;exact Zi I.ok.kind e (Calls.loadGlobal_builtin (by rw[I.ok.glob];exact I.mod.glob.keeps I.bk) c (by rw[I.ok.blt];exact J.keeps I.bk) Ż h) f
def KY{v:V}(b:Gl X x)(a:X.mg x=Y u)(r:RelV v u)(c:autoParam ((x==("__debug__" : aH))=false) Ū):PE X (.Name x G) (tC v):=
 λd d d H d I h=>Em I b a ⟨v,H,I,r,h⟩ c
def TJ{v:V}(e:Gl X x)(c:X.mg x=M)(a:d9 x=Y u)(r:RelV v u)(b:autoParam (x ≠ "__name__") Ū)(f:autoParam ((x==("__debug__" : aH))=false) Ū):PE X (.Name x G) (tC v):=
 λd d d H d I h=>qz I e c a ⟨v,H,I,r,h⟩ b f
def PC(X:Cx)(f:CmpOp)(a b:Expr)(t:TE):Prop:=
 ∀(B:List (aw×Obj)) (s:ar) (U:St) (H:Hp) (Q:VK),Inv X B U H s->t U H Q ->
  aX (bc X.prog X.w) X.A (eval a X.env) (λv e=>aX (bc X.prog X.w) X.A (eval b X.env) (λu c=>aX (bc X.prog X.w) X.A (cR f v u) (EP X B U Q) X.xe c) X.xe e) X.xe s
def P1(b:Expr){a:CmpOp}(h:a ≠ .In)(z:a ≠ .NotIn):g9 a b=false:=by
 have e:(a==CmpOp.In)=false:=by cases a<;>first|rfl|exact absurd rfl h
 let c:(a==CmpOp.NotIn)=false:=by cases a<;>first|rfl|exact absurd rfl z
 cases b<;>simp[g9,e,c]
def tB(t:TE):TT:=λU H Q=>t U H λx O=>∃c,x=.bl c/\Q c O
def Xb(h:PC X e a b t)(J:g9 e b=false:=by first|exact P1 _ ſ ſ|rfl):PT X (.Compare a [e] [b] G) (tB t):=by
 intro B s U H Q I hw;refine wpAny_isTrue_Compare1 (fu (h B s U H _ I hw) λv o J=>fu J λu m z=>fu z ?_) J;rintro c l ⟨x,O,k,f,g⟩;let⟨d,rfl,q⟩:=g;cases f;exact gI ⟨O,k,q⟩
def Xa(h:PE X e t)(f:autoParam (∀a,isTrue e X.env a=(do let v <- a;tY e.pos;px [v] (truthy v))) ũ):PT X e (tB t):=by
 intro B s U H Q I hw;refine isTrue_plain (fu (h B s U H _ I hw) ?_) (f _);rintro v k ⟨x,O,g,b,c⟩;let⟨d,rfl,q⟩:=c;cases b;exact gI ⟨O,g,q⟩
variable {Bt:List Expr}
def adl(t u:TT):TT:=λU H Q=>t U H λc O=>if c=Z' then u U O Q else Q Z_ O
def tOr(t u:TT):TT:=λU H Q=>t U H λc O=>if c=Z' then Q Z' O else u U O Q
def Z4(t:TT):TT:=λU H Q=>t U H λc O=>Q (!c) O
def Tn(b:PT X a tA):PW X (.BoolOp .And [a] G) tA:=by
 intro f B s U H Q I h;refine isTrue_and (fu (b B s U H Q I h) λc g e =>?_)
 grind [isTrue_and_nil]
def W9(b:PT X a tA):PW X (.BoolOp .Or [a] G) tA:=by
 intro f B s U H Q I h;refine isTrue_or (fu (b B s U H Q I h) λc g e =>?_)
 grind [isTrue_or_nil]
def W_(m:PT X a tA)(l:PW X (.BoolOp .And (b::Bt) G) tB'):PW X (.BoolOp .And (a::b::Bt) G) (adl tA tB'):=by
 intro g B s U H Q I h;refine isTrue_and (fu (m B s U H _ I h) ?_);rintro c k ⟨O,f,e⟩;cases c with
 |true=>solve_by_elim|false=>solve_by_elim
def aas(m:PT X a tA)(l:PW X (.BoolOp .Or (b::Bt) G) tB'):PW X (.BoolOp .Or (a::b::Bt) G) (tOr tA tB'):=by
 intro g B s U H Q I h;refine isTrue_or (fu (m B s U H _ I h) ?_);rintro c k ⟨O,f,e⟩;cases c with
 |true=>solve_by_elim|false=>solve_by_elim
def Pb(b:PT X a tA):PT X (.UnaryOp .Not a G) (Z4 tA):=by
 exact λB s U H Q I h=>isTrue_not (fu (b B s U H _ I h) (by rintro c k ⟨O,f,e⟩;exact Ÿ))
def aad(N y:TE):TE:=λU H Q=>N U H λx O=>∃c,x=.bl c/\if c=Z' then y U O Q else Q (.bl Z_) O
def adg(N y:TE):TE:=λU H Q=>N U H λx O=>∃c,x=.bl c/\if c=Z' then Q (.bl Z') O else y U O Q
def Z3(N:TE):TE:=λU H Q=>N U H λx O=>∃c,x=.bl c/\Q (.bl (!c)) O
def Xk{b}(h:PE X a t):PE X (.BoolOp b [a] G) t:=λB s U H Q I hw=>BoolOp_one (h B s U H Q I hw)
def Xn(m:PE X a N)(l:PE X (.BoolOp .And (b::Bt) G) y):PE X (.BoolOp .And (a::b::Bt) G) (aad N y):=by
 intro B s U H Q I h;refine BoolOp_and (fu (m B s U H _ I h) ?_);rintro v g ⟨x,O,f,k,e⟩;let⟨c,rfl,e⟩:=e;cases k;refine gI ?_;cases c with
 |true=>solve_by_elim|false=>exact⟨.bl _,O,f,rfl,e⟩
def aax(m:PE X a N)(l:PE X (.BoolOp .Or (b::Bt) G) y):PE X (.BoolOp .Or (a::b::Bt) G) (adg N y):=by
 intro B s U H Q I h;refine BoolOp_or (fu (m B s U H _ I h) ?_);rintro v g ⟨x,O,f,k,e⟩;let⟨c,rfl,e⟩:=e;cases k;refine gI ?_;cases c with
 |false=>solve_by_elim|true=>exact⟨.bl _,O,f,rfl,e⟩
def Xl(f:PE X a N):PE X (.UnaryOp .Not a G) (Z3 N):=by
 intro B s U H Q I h;refine UnaryOp_ (fu (f B s U H _ I h) ?_);rintro v k ⟨x,O,g,e,b⟩;let⟨c,rfl,b⟩:=b;cases e;exact not_of (gI ⟨.bl _,O,g,rfl,b⟩)
def tIf(t:TT)(N y:TE):TE:=λU H Q=>t U H λc O=>if c=Z' then N U O Q else y U O Q
def F7(k:PT X c tA)(m:PE X a N)(l:PE X b y):PE X (.IfExp c a b G) (tIf tA N y):=by
 intro B s U H Q I h;refine wpAny_IfExp (fu (k B s U H _ I h) ?_);rintro d e ⟨O,g,f⟩;cases d with
 |true=>solve_by_elim|false=>solve_by_elim
end
def mh(K:aP)(H:Hp)(a:aw)(xs:List V):Prop:=
 Rd H a (.lst xs) \/
  ∃(o:Obj) (b:Array aj) (n:Nat),K.lookup a=Y o/\o.cls=.type "list" /\o.dict=M/\o.data=.seq b n/\b.size<=aU/\b8 xs b.toList
def wN(K:aP)(H:Hp)(a:aw)(xs:List V):Prop:=
 Rd H a (.tup xs) \/
  ∃(o:Obj) (b:Array aj) (n:Nat),K.lookup a=Y o/\o.cls=.type "tuple" /\o.data=.seq b n/\b.size<=aU/\b8 xs b.toList
noncomputable def ae0:aj->Option V
 |.none=>Y .dr|.bool b=>Y (.bl b)|.int i _=>Y (.int i)|.str x _=>Y (.str x)|.bytes b _=>Y (.J_ b)|.float b _=>Y (.Sy b)|.ref a=>Y (.ref a)|.type n=>Y (.ty n)|_=>M
def RelV.abs(r:RelV x u):ae0 u=Y x:=by
 cases x with
 |dr=>cases r;rfl|bl _=>cases r;rfl|ref _=>cases r;rfl|ty _=>cases r;rfl|_=>let⟨t,rfl⟩:=r;rfl
def RelV.inj{x:V}(r:RelV x u)(q:RelV y u):x=y:=cE (r.abs.symm.trans q.abs)
def b8.inj{xs ys:List V}{a:List aj}(h:b8 xs a)(g:b8 ys a):xs=ys:=by
 induction h generalizing ys with
 |nil=>cases g;rfl|cons r _ ih=>
  cases g with|cons c b=>rw[r.inj c,ih b]
section
variable {X:Cx}{s:ar}
def mh.of{K:aP}(h:H a=Y (.lst xs)):mh K H a xs :=.inl (.inl h)
def wN.of{K:aP}(h:H a=Y (.tup xs)):wN K H a xs :=.inl (.inl h)
def Inv.list(I:Inv X B U H s)(h:mh X.K H a xs):∃b:List aj,b8 xs b/\PlainL s.heap a b.toArray/\xs.length<=aU:=by
 rcases h with h|⟨o,b,n,f,k,g,c,l,r⟩
 .let⟨z,b,n,r,e⟩:=h.ok I.fQ;exact⟨b,r,⟨_,n,e,rfl,rfl,rfl⟩,z⟩
 .refine⟨_,r,⟨o,n,I.yj a o f,k,g,ž⟩,?_⟩;let e:=r.length
  simp_all
def Inv.tuple(I:Inv X B U H s)(h:wN X.K H a xs):∃b:List aj,b8 xs b/\IsTup s.heap a b.toArray/\xs.length<=aU:=by
 rcases h with h|⟨o,b,n,f,g,c,k,r⟩
 .let⟨z,b,r,p⟩:=h.ok I.fQ;exact⟨b,r,p.t,z⟩
 .refine⟨_,r,⟨o,I.yj a o f,g,n,ž⟩,?_⟩;let e:=r.length
  simp_all
def Inv.pU(I:Inv X B U H s)(h:mh X.K H a xs)(h':mh X.K H a ys):xs=ys:=by
 obtain⟨c,r,⟨o,n,e,_,_,d⟩,_⟩:=I.list h;obtain⟨b,k,⟨o',m,f,_,_,g⟩,_⟩:=I.list h';have:c=b:=by simp_all
 subst this;exact r.inj k
def Inv.MH(I:Inv X B U H s)(h:wN X.K H a xs)(h':wN X.K H a ys):xs=ys:=by
 obtain⟨c,r,⟨o,e,_,n,d⟩,_⟩:=I.tuple h;obtain⟨b,k,⟨o',f,_,m,g⟩,_⟩:=I.tuple h';have:c=b:=by simp_all
 subst this;exact r.inj k
end
noncomputable abbrev Cx.BJ(X:Cx)(E:aj->ar->Prop):Cx:={ X with xe:=E }
abbrev Cx.T8(X:Cx):Cx:=X.BJ λa a=>False
def Cx.Ok.BJ{X:Cx}(a:X.Ok)(E:aj->ar->Prop):(X.BJ E).Ok:=
 ⟨a.mod,a.kind,a.glob,a.blt,a.above,a.inj,a.has,a.cab,a.hd,a.frames,a.stk,a.exf,a.bs,a.Vd,a.P0,a.UM,a.yB,a.Ys⟩
def Cx.Ok.wY{X:Cx}(a:(X.BJ E).Ok):X.Ok:=
 ⟨a.mod,a.kind,a.glob,a.blt,a.above,a.inj,a.has,a.cab,a.hd,a.frames,a.stk,a.exf,a.bs,a.Vd,a.P0,a.UM,a.yB,a.Ys⟩
section
variable {X:Cx}{s:ar}
def Inv.BJ(I:Inv X B U H s)(E:aj->ar->Prop):Inv (X.BJ E) B U H s:=⟨I.ok.BJ E,I.os,I.bare,I.base,I.loc,I.cell,I.free,I.pW,I.pin,I.fQ,I.len⟩
def Inv.wY(I:Inv (X.BJ E) B U H s):Inv X B U H s:=⟨I.ok.wY,I.os,I.bare,I.base,I.loc,I.cell,I.free,I.pW,I.pin,I.fQ,I.len⟩
def SP.wY{D:Ends}{f:Flow}(h:SP (X.BJ E) B D f s'):SP X B D f s':=by
 cases f with
 |ret u=>let⟨v,a,H',I,r,q⟩:=h;exact⟨v,a,H',I.wY,r,q⟩
 |_=>let⟨a,H',I,q⟩:=h;exact⟨a,H',I.wY,q⟩
def rN.T8{st:List dh}(h:rN X.T8 st t):rN X st t:=λB s U H D I hw=>
 gJ (h B s U H D (I.BJ _) hw) (λa a q=>q.wY) λa a z=>False.elim z
end
section
variable {X:Cx}{st:dh}{Bt:List dh}
def VE:TS:=λD U H=>D.nx U H
def ade(t u:TS):TS:=λD U H=>t { D with nx:=u D } U H
def KO:rN X [] VE:=λa a U H a I h=>sP ⟨U,H,I,h⟩
def nG(J:PS X st t)(z:rN X Bt u):rN X (st::Bt) (ade t u):=by
 intro B s U H D I h;refine wpAny_execs_cons (fu (J B s U H _ I h) λf b q =>?_);cases f with
 |next=>
  let⟨a,H',c,q⟩:=q
  exact Ÿ
 |_=>exact q
def oE(J:PS X st t):rN X [st] t:=by
 intro B s U H D I h;refine wpAny_execs_cons (fu (J B s U H D I h) λf a q =>?_);cases f with
 |next=>exact sP q|_=>exact q
def Inv.quiet{s:ar}(I:Inv X B U H s):interactive X.env=false:=by simp[interactive,I.ok.kind]
def Z8(te:TE):TS:=λD U H=>te U H λ_ O=>D.nx U O
def mN(c:PE X e te)(b:autoParam (dy e M G.line X.env=cQ false) Ŭ):PS X (.Expr e G) (Z8 te):=by
 exact λB s U H D I h=>wpAny_Expr_any (fu (c B s U H _ I h) (by rintro v g ⟨x,O,f,k,a⟩;exact⟨U,O,f,a⟩)) I.quiet b
def adf(te:TE):TS:=λD U H=>te U H D.rt
def xq(c:PE X e te):PS X (.Return (Y e) G) (adf te):=by
 exact λB s U H D I h=>wpAny_Return_some (fu (c B s U H _ I h) (by rintro v g ⟨x,O,f,a,b⟩;exact⟨x,U,O,f,a,b⟩))
def Z6(c:TT)(t u:TS):TS:=λD U H=>c U H λb O=>if b=Z' then t D U O else u D U O
def KP(k:PT X c tc)(m:rN X a t)(l:rN X b u):PS X (.If c a b G) (Z6 tc t u):=by
 intro B s U H D I h;refine wpAny_If (fu (k B s U H _ I h) ?_);rintro d e ⟨O,g,f⟩;cases d with
 |true=>solve_by_elim|false=>solve_by_elim
def OQ:TS:=λa a a=>False
def Pd:PS X st OQ:=λa a a a a a h=>h.elim
end
abbrev TG:=V->St->Hp->(St->Hp->Prop)->Prop
abbrev TGs:=List V->St->Hp->(St->Hp->Prop)->Prop
def PG(X:Cx)(a:Expr)(t:TG):Prop:=
 ∀(B:List (aw×Obj)) (s:ar) (U:St) (H:Hp) (v:V) (u:aj) (Q:St->Hp->Prop),Inv X B U H s->RelV v u->t v U H Q ->
  aX (bc X.prog X.w) X.A (Za a X.env u) (λ_ s'=>∃b H',Inv X B b H' s'/\Q b H') X.xe s
def PGs(X:Cx)(e:List Expr)(t:TGs):Prop:=
 ∀(B:List (aw×Obj)) (s:ar) (U:St) (H:Hp) (b:List V) (c:List aj) (Q:St->Hp->Prop),Inv X B U H s->b8 b c->t b U H Q ->
  aX (bc X.prog X.w) X.A (assignInOrder ((vb e X.env).map (·.2)) c) (λ_ s'=>∃a H',Inv X B a H' s'/\Q a H') X.xe s
abbrev abM:=V->V->V->Hp->(Hp->Prop)->Prop
def abQ(X:Cx)(t:abM):Prop:=
 ∀(B:List (aw×Obj)) (s:ar) (U:St) (H:Hp) (o i v:V) (a b u:aj) (Q:Hp->Prop),Inv X B U H s->RelV o a->RelV i b->RelV v u->t o i v H Q ->
  aX (bc X.prog X.w) X.A (setItem a b u) (λ_ s'=>∃H',Inv X B U H' s'/\Q H') X.xe s
abbrev TIp:=V->V->Hp->VK->Prop
def PIp(X:Cx)(a:Operator)(t:TIp):Prop:=
 ∀(B:List (aw×Obj)) (s:ar) (U:St) (H:Hp) (x y:V) (v u:aj) (Q:VK),Inv X B U H s->RelV x v->RelV y u->t x y H Q ->
  aX (bc X.prog X.w) X.A (inplaceOp a v u) (EP X B U Q) X.xe s
section
variable {X:Cx}
def oK(i:Nat):TG:=λv U H Q=>Q (U.set i (Y v)) H
def e8{i:Nat}(c:X.N.Nodup)(L:X.N[i]?=Y x)(a:Loc X.env.scope x)(b:autoParam (X.fn x=Z'\/X.env.scope.names.lookup x=Y .local) ŧ):PG X (.Name x G) (oK i):=by
 exact λB s U H v u Q I r h=>wpAny_assign_Name (zD I c L a r (λs' e=>⟨_,H,e,h⟩) b)
def Yo:TGs:=λa U H Q=>a=[]/\Q U H
def Dh(t:TG)(u:TGs):TGs:=λb U H Q=>∃v r,b=v::r/\t v U H λa H'=>u r a H' Q
def TB:PGs X [] Yo:=by
 rintro B s U H a b Q I r ⟨e,h⟩;exact assignInOrder_nil ⟨U,H,I,h⟩
def vF(J:PG X e t)(z:PGs X es u)(g:autoParam ((vb (e::es) X.env).map (·.2)=Za e X.env::(vb es X.env).map (·.2)) Ŭ):PGs X (e::es) (Dh t u):=by
 rintro B s U H m p Q I r ⟨v,o,k,h⟩;subst k;cases r with
 |cons r c=>
  rw[g];refine assignInOrder_cons (fu (J B s U H _ _ _ I r h) ?_);rintro _ b ⟨a,O,l,f⟩
  exact Ÿ
def Yn(K:aP)(n:Nat)(t:TGs):TG:=λv U H Q=>∃a xs,v=.ref a/\wN K H a xs/\xs.length=n/\t xs U H Q
def IP(A:X.calm=Z')(h:PGs X es t)(w:autoParam ((vb es X.env).length=n) Ŭ)(c:autoParam ((vb es X.env).findIdx? (·.1)=none) Ŭ):PG X (.Tuple es k G) (Yn X.K n t):=by
 rintro B s U H v u Q I r ⟨a,xs,C,p,x,hw⟩;subst C;cases r;let⟨g,f,m,E⟩:=I.tuple p;refine assign_Tuple_tuple (I.ok.hd A) m (by simp[w,<- x,f.length]) c λh' l =>?_
 let D:=I.kept (t':=s.toks) λb o e=>l b o (bf (aD e)) e
 exact Ÿ
def abk(to a:TE)(t:abM):TG:=λv U H Q=>to U H λo O=>a U O λi d=>t o i v d λb=>Q U b
def Xi(A:PE X o to)(L:PE X i c)(w:abQ X t) (C:autoParam (∀v,Za (.Subscript o i G) X.env v=(do
   let a <- px [v] (eval o X.env);let b <- px [v,a] (eval i X.env)
   tY G
   px [v,a,b] (setItem a b v)
   release [v,a,b] [])) ũ):PG X (.Subscript o i G) (abk to c t):=by
 intro B s U H v u Q I r h;rw[C];refine af (jn (fu (A B s U H _ I h) ?_));rintro a f ⟨x,O,F,k,p⟩;refine af (jn (fu (L B f U O _ F p) ?_));rintro b e ⟨y,d,E,g,m⟩;refine af (wpAny_standAt (af (jn (fu (w B e U d x y v a b u _ E k g r m) ?_))));rintro _ j ⟨K,D,l⟩;exact wpAny_release ⟨U,K,D,l⟩
def WT(te:TE)(g:TG):TS:=λD U H=>te U H λx O=>g x U O D.nx
def Pe(l:PE X e te)(k:PG X tg g)(f:autoParam (swapsWithSole [tg] e G.line X.env=cQ false) Ŭ)(hw:autoParam (swappedStores [tg] e X.env=cQ none) Ŭ)(J:autoParam ((vb [tg] X.env).map (·.2)=[Za tg X.env]) Ŭ):PS X (.Assign [tg] e G) (WT te g):=by
 intro B s U H D I h;refine wpAny_Assign_stores (fu (l B s U H _ I h) ?_) f hw;rintro v a ⟨x,O,m,b,c⟩;rw[J]
 exact Ÿ
def uG{i:Nat}(l:X.N.Nodup)(L:X.N[i]?=Y x)(c:Loc X.env.scope x)(k:PE X e te)(f:autoParam (dy e (Y (.Name x Vp)) G.line X.env=cQ false) Ŭ)(g:autoParam (X.fn x=Z'\/X.env.scope.names.lookup x=Y .local) ŧ):
  PS X (.Assign [.Name x Vp] e G) (WT te (oK i)):=by
 intro B s U H D I h;refine wpAny_Assign_Name (fu (k B s U H _ I h) ?_) f;rintro v r ⟨y,O,o,a,b⟩;exact zD o l L c a (λp m=>⟨_,O,m,b⟩) g
def adk(i:Nat)(te:TE)(a:TIp):TS:=λD U H=>∃x,U[i]?=Y (Y x)/\te U H λy O=>a x y O λz d=>D.nx (U.set i (Y z)) d
def Xd{ti:TIp}(hN:X.N.Nodup)(L:X.N[i]?=Y x)(t:Loc X.env.scope x)(he:PE X e te)(P:PIp X p ti)(T:autoParam (X.fn x=Z'\/X.env.scope.names.lookup x=Y .local) ŧ):
  PS X (.AugAssign (.Name x Vp) p e G) (adk i te ti):=by
 rintro B s U H D I ⟨v,e1,h⟩;let⟨m,Q,S⟩:=I.loc;let o:YY X.env.scope x:=by rcases t with k|k;exact .inl k;exact .inr (.inl k)
 let⟨u,r,l⟩:=S i x v L e1 o;refine wpAny_AugAssign_Name ?_;have A:aX (bc X.prog X.w) X.A (eval e X.env) (λw g=>aX (bc X.prog X.w) X.A (inplaceOp p u w) (λr f=>aX (bc X.prog X.w) X.A (storeName X.env x r) (λ_=>SP X B D .next) X.xe f) X.xe g) X.xe s:=by refine fu (he B s U H _ I h) ?_;rintro w C ⟨y,O,I1,F,j⟩;refine fu (P B C U O v y u w _ I1 r F j) ?_;rintro z s2 ⟨zv,d,I2,E,K⟩;exact zD I2 hN L t E (λs3 I3=>⟨_,d,I3,K⟩) T
 rcases l with⟨a,R⟩|⟨a,c,hc,b⟩
 .exact wpAny_loadName_local I.ok.kind a Q R A
 .rcases a with a|a
  .exact wpAny_loadName_cell I.ok.kind a hc b A
  .rcases t with k|k
   .have:X.env.scope.names.lookup x=Y .free:=a
    simp_all
   .have:X.env.scope.names.lookup x=Y .free:=a
    simp_all
def WN(c:TT)(y:TS):TS:=λD U H=>∃W:Nat->St->Hp->Prop,(∃m,W m U H)/\∀m U H,W m U H ->
 c U H λb O=>if b=Z' then ∃N:St->Hp->Prop,(∀a H',N a H'->∃e,e<m/\W e a H')/\y { D with nx:=N,ct:=N,bk:=D.nx } U O else D.nx U O
def Pc(x:yJ (bc X.prog X.w) X.A X.env X.xe)(Q:PT X c tc)(R:rN X g y):PS X (.While c g [] G) (WN tc y):=by
 rintro B s U H D I ⟨W,⟨P,F⟩,k0⟩;refine wpAny_While (codeAny_whileLoop (λn s'=>∃k H',Inv X B k H' s'/\W n k H') ?_ P ⟨U,H,I,F⟩);rintro n h ⟨e,O,S,E⟩;refine dQ x (fu (Q B h e O _ S (k0 n e O E)) ?_);rintro b K ⟨d,C,o⟩;cases b with
 |true=>
  let⟨N,A,o⟩:=o;refine dQ x (fu (R B K e d _ C o) λf T m =>?_);cases f with
  |brk=>exact m|ret v=>exact m|_=>let⟨a,l,w,r⟩:=m;let⟨t,u,p⟩:=A a l r;exact⟨t,u,a,l,w,p⟩
 |false=>exact sP ⟨e,d,C,o⟩
end
structure It where
 go:Nat->Hp->Prop
 So:Nat->Hp->V->Hp->Prop
 stop:Nat->Hp->Prop
def Bo(X:Cx)(B:List (aw×Obj))(H:Hp)(b:aw):Prop:=
 H b=M/\b≠X.env.locals/\b∉X.fs/\(b∈X.ex\/X.s₀.heap.objs.size<=b)/\(∀x c,X.env.cells.lookup x=Y c->c≠b)/\∀p∈X.pn++B,p.1≠b
def Inv.uS{X:Cx}{s:ar}(I:Inv X B U H s)(a:s.heap.objs.size<=b)(g:H' b=M):Bo X B H' b:=by
 refine⟨g,gG (aY I.lt a),I.XD a,.inr (aV I.sz a),λx c e z =>?_,λp f z =>?_⟩
 .let⟨v,q⟩:=I.cell x c e;exact absurd (aY q.lt Ż) (t5 _)
 .exact absurd (aY (aD (I.pin p f).1) Ż) (t5 _)
structure Ca(P:aZ)(w:cH)(K:aP)(tg:Expr)(J:It)(fp:List aw)(it:aw)(tn:Nat->cF->Prop):Prop where
 mem:it∈fp
 obj:∀i h,tn i h->∀b∈fp,∃o,h.get? b=some o/\∀v,o.data ≠ .cell v
 keep:∀i h h',tn i h->(∀b∈fp,∀o,h.get? b=some o->h'.get? b=some o)->tn i h'
 item:∀(X:Cx),X.prog=P->X.w=w->X.K=K->X.calm=true->∀(i:Nat) (E9:List (aw×Obj)) (s:ar) (σ:St) (H:Hp) (E:aj->ar->Prop),Inv X E9 σ H s->(∀b∈fp,Bo X E9 H b)->tn i s.heap->J.go i H ->
  aX (bc P w) X.A (Si (.ref it)) (λr s1=>∃u,r=some u /\
   aX (bc P w) X.A (Vu tg (.ref it) u) (λ_ s2=>∃x H',Inv X E9 σ H' s2/\RelV x u/\J.So i H x H'/\tn (i+1) s2.heap/\∀b∈fp,H' b=none) E s1) E s
 done:∀(X:Cx),X.prog=P->X.w=w->X.K=K->X.calm=true->∀(i:Nat) (E9:List (aw×Obj)) (s:ar) (σ:St) (H:Hp) (E:aj->ar->Prop),Inv X E9 σ H s->(∀b∈fp,Bo X E9 H b)->tn i s.heap->J.stop i H ->
  aX (bc P w) X.A (Si (.ref it)) (λr s1=>r=none/\Inv X E9 σ H s1) E s
 self:∀(A:jq) (i:Nat) (s:ar) (Q:aj->ar->Prop) (E:aj->ar->Prop),tn i s.heap->Q (.ref it) s->aX (bc P w) A (pyIter (.ref it)) Q E s
abbrev TI:=St->Hp->(It->Hp->Prop)->Prop
def PIE(X:Cx)(B:List (aw×Obj))(U:St)(tg:Expr)(R:It->Hp->Prop)(a:aj)(e:ar):Prop:=
 ∃(f:aw) (g:List aw) (c:Nat->cF->Prop) (J:It) (H':Hp),a=.ref f/\Inv X B U H' e/\Ca X.prog X.w X.K tg J g f c/\c 0 e.heap/\(∀b∈g,Bo X B H' b)/\R J H'
def PI(X:Cx)(tg a:Expr)(b:TI):Prop:=
 ∀(B:List (aw×Obj)) (s:ar) (U:St) (H:Hp) (R:It->Hp->Prop),Inv X B U H s->b U H R ->
  aX (bc X.prog X.w) X.A (eval a X.env) (λv c=>aX (bc X.prog X.w) X.A (pyIter v) (PIE X B U tg R) X.xe c) X.xe s
def Df{d:Model}{s:ar}{n:String}(e:s.heap.get? c=Y o)(k:o.cls=.type n)(g:o.data=.fields b)(f:["enumerate","zip","dict_itemiterator","dict_reverseitemiterator","odict_iterator","itertools.zip_longest","itertools.pairwise"].contains n=Z_)(a:Q () s):aX d A (Vu tg (.ref c) u) Q E s:=by
 cases tg<;>first
  |exact ax a
  | (cases u<;>first
   |exact ax a
   | (refine af (wpAny_load e ?_);rw[k,g];show aX d A (if (_&&_)=Z' then _ else _) Q E s;rw[if_neg (by grind)];exact ax a))
noncomputable def Itl(K:aP)(a:aw):It:=
 ⟨λi H=>∃xs x,mh K H a xs/\xs[i]?=Y x,λi H x H'=>H'=H/\∀xs,mh K H a xs->xs[i]?=Y x,λi H=>∃xs,mh K H a xs/\xs.length<=i⟩
def Itt(K:aP)(a:aw):It:=
 ⟨λi H=>∃xs x,wN K H a xs/\xs[i]?=Y x,λi H x H'=>H'=H/\∀xs,wN K H a xs->xs[i]?=Y x,λi H=>∃xs,wN K H a xs/\xs.length<=i⟩
noncomputable def Itr(n:Int)(a:Nat):It:=⟨λi b=>i<a,λi H x H'=>H'=H/\x=.int (n+i),λi b=>a<=i⟩
def MD{P:aZ}{K:aP}(a f:aw):Ca P w K tg (Itl K a) [f] f (λi h=>h.IsListIter f a i) where
 mem:=by simp
 obj:=λi h st b g=>by
  let e:b=f:=by simpa using g
  subst e;let⟨o,e,c,d⟩:=st;exact⟨o,e,λv z=>by rw[d]at z;cases z⟩
 keep:=λi h h' st k=>st.at λo e=>k f ż o e
 item:=by
  intro X F hw j hc i B s U H E I r st D;subst F hw j;let⟨xs,x,m,C⟩:=D;let⟨A,t,p,hz⟩:=I.list m;let⟨u,hu,ru⟩:=t.get C;let⟨f0,T,f2,S,R,Q⟩:=r f ż;refine wpAny_pyNext_list_item st p.isList (x:=u) (by simpa using hu) λh' l sb =>?_
  let I1:Inv X B U H { s with heap:=h' }:=I.turned (t':=s.toks) (λb o g e=>(sb.2 b g).trans e) f0 T S R Q;let⟨o,e,c,d⟩:=id l;exact⟨u,rfl,Df (s:={ s with heap:=h' }) e c d ſ ⟨x,H,I1,ru,⟨rfl,λys hy=>by rw[I.pU hy m];exact C⟩,l,λb g=>(r b g).1⟩⟩
 done:=by intro X F hw j hc i B s U H E I r st D;subst F hw j;let⟨xs,m,C⟩:=D;let⟨A,t,p,hz⟩:=I.list m;let⟨f0,T,f2,S,R,Q⟩:=r f ż;let hl:=t.length;exact wpAny_pyNext_list_end (I.ok.hd hc) st p.isList (by simp;lia) λh' eb=>⟨rfl,I.turned (t':=s.toks) (λb o g e=>eb b o g e) f0 T S R Q⟩
 self:=λn n n n n st h=>wpAny_pyIter_listiter st h
def Ik{P:aZ}{K:aP}(a g:aw):Ca P w K tg (Itt K a) [g] g (λi h=>h.IsTupleIter g a i) where
 mem:=by simp
 obj:=λi h st b l=>by
  let e:b=g:=by simpa using l
  subst e;let⟨o,e,c,d⟩:=st;exact⟨o,e,λv z=>by rw[d]at z;cases z⟩
 keep:=λi h h' st k=>st.at λo e=>k g ż o e
 item:=by
  intro X F hw j hc i B s U H E I t st D;subst F hw j;let⟨xs,x,r,C⟩:=D;let⟨f,A,p,hz⟩:=I.tuple r;let⟨u,hu,ru⟩:=A.get C;let⟨f0,T,f2,S,R,Q⟩:=t g ż;refine wpAny_pyNext_tuple_item st (show s.heap.IsTuple a f.toArray from p) (x:=u) (by simpa using hu) λh' m sb =>?_
  let I1:Inv X B U H { s with heap:=h' }:=I.turned (t':=s.toks) (λb o l e=>(sb.2 b l).trans e) f0 T S R Q;let⟨o,e,c,d⟩:=id m;exact⟨u,rfl,Df (s:={ s with heap:=h' }) e c d ſ ⟨x,H,I1,ru,⟨rfl,λys hy=>by rw[I.MH hy r];exact C⟩,m,λb l=>(t b l).1⟩⟩
 done:=by intro X F hw j hc i B s U H E I t st D;subst F hw j;let⟨xs,r,C⟩:=D;let⟨f,A,p,hz⟩:=I.tuple r;let⟨f0,T,f2,S,R,Q⟩:=t g ż;let hl:=A.length;exact wpAny_pyNext_tuple_end (I.ok.hd hc) st (show s.heap.IsTuple a f.toArray from p) (by simp;lia) λh' eb=>⟨rfl,I.turned (t':=s.toks) (λb o l e=>eb b o l e) f0 T S R Q⟩
 self:=λn n n n n st h=>wpAny_pyIter_tupleiter st h
def Il{P:aZ}{K:aP}(c:aw)(n:Int)(a:Nat):Ca P w K tg (Itr n a) [c] c (λi h=>IsRangeIter h c (n+(i:Nat)*1) ((a:Int)-(i:Nat)) 1) where
 mem:=by simp
 obj:=λi h st b f=>by
  let e:b=c:=by simpa using f
  subst e;exact⟨_,st,λv z=>by let d:Data.fields _=Data.cell v:=z;cases d⟩
 keep:=λi h h' st k=>k c ż _ st
 item:=by
  intro X r hw u p i B s U H E I l st m;subst r hw u;let⟨F,D,S,C,A,x⟩:=l c ż;let W:=Walks.range (prog:=X.prog) (w:=X.w) (I.ok.hd p) c n 1 a;refine W.item i s _ _ m st λv h' tk R g Q =>?_
  let⟨t,rfl⟩:=R;let I1:Inv X B U H { s with heap:=h',toks:=tk }:=I.turned (λb o f e=>Q b o (by simpa using f) e) F D C A x;refine⟨_,rfl,Df (s:={ s with heap:=h',toks:=tk }) (n:= "range_iterator") g rfl rfl ſ ⟨.int (n+i),H,I1,⟨t,?_⟩,⟨rfl,rfl⟩,g,λb f=>(l b f).1⟩⟩;rw[Int.mul_one]
 done:=by intro X r hw u p i B s U H E I l st m;subst r hw u;let⟨F,D,S,C,A,x⟩:=l c ż;exact wpAny_pyNext_range_end (I.ok.hd p) st (by have:a<=i:=m;lia) λh' T=>⟨rfl,I.turned (t':=s.toks) (λb o f e=>T b o f e) F D C A x⟩
 self:=λj j j j j st h=>wpAny_pyIter_rangeiter st h
section
variable {X:Cx}
def aa3(K:aP)(tl:TE):TI:=λU H R=>tl U H λx O=>∃a,x=.ref a/\(∃xs,mh K O a xs)/\R (Itl K a) O
def adZ(K:aP)(tl:TE):TI:=λU H R=>tl U H λx O=>∃a,x=.ref a/\(∃xs,wN K O a xs)/\R (Itt K a) O
def KU(t:PE X l tl):PI X tg l (aa3 X.K tl):=by
 intro B s U H R I h;refine fu (t B s U H _ I h) ?_;rintro v c ⟨x,O,f,g,k⟩;obtain⟨a,e,⟨xs,r⟩,q⟩:=k;subst e;cases g;let⟨m,w,p,A⟩:=f.list r;refine iW p.isList ?_;refine⟨_,_,_,_,O,rfl,f.kept λb o e=>ae _ e,MD a _,⟨_,aF _ rfl,rfl,rfl⟩,λb u =>?_,q⟩;let e:=by simpa using u
 subst e;exact f.uS (av _) (f.fQ.fresh (av _))
def Xf(t:PE X l tl):PI X tg l (adZ X.K tl):=by
 intro B s U H R I h;refine fu (t B s U H _ I h) ?_;rintro v c ⟨x,O,f,k,m⟩;obtain⟨a,e,⟨xs,r⟩,q⟩:=m;subst e;cases k;let⟨g,w,p,A⟩:=f.tuple r;refine wpAny_pyIter_tuple p ?_;refine⟨_,_,_,_,O,rfl,f.kept λb o e=>ae _ e,Ik a _,⟨_,aF _ rfl,rfl,rfl⟩,λb u =>?_,q⟩;let e:=by simpa using u
 subst e;exact f.uS (av _) (f.fQ.fresh (av _))
def O_{s:ar}{R:It->Hp->Prop}{v:Tok}(I:Inv X B U H s)(J : -(2 ^ 62)<=n)(z:n<2 ^ 62)(g : -(2 ^ 62)<=L)(f:L<2 ^ 62)(q:R (Itr n (L-n).toNat) H):aX (bc X.prog X.w) X.A (pyIter (.ref s.heap.objs.size)) (PIE X B U tg R) E { s with heap:=s.heap.push { cls :=.type "range",data :=.fields #[.int n t,.int L u,.int 1 v] },toks:=tk }:=by
 refine wpAny_pyIter_range (IsRange.new ..) (small_one J z g f) ?_;have a:Inv X B U H { s with heap:=s.heap.push { cls :=.type "range",data :=.fields #[.int n t,.int L u,.int 1 v] },toks:=tk }:=I.kept λb o e=>ae _ e
 refine⟨_,_,_,_,H,rfl,
  a.kept λb o e=>ae _ e,Il _ n _,?_,λb c =>?_,q⟩
 .let k:n+(0:Nat)*1=n:=by simp
  let h:((L-n).toNat:Nat)-(0:Nat)=Builtin.Range.rangeSize n L 1:=by grind [rangeSize_one]
  rw[k,h];exact aF _ rfl
 .let e:b=(s.heap.push { cls :=.type "range",data :=.fields #[.int n t,.int L u,.int 1 v] }).objs.size:=by simpa using c
  subst e;exact a.uS (av _) (a.fQ.fresh (av _))
def aa0(N:TA):TI:=λU H R=>N U H λa O=>∃j:Int,a=[.int j] /\ -(2 ^ 62)<=j/\j<2 ^ 62/\R (Itr 0 j.toNat) O
def CG(m:Gl X "range")(l:X.mg "range" = M)(o:PA X [a] N)(k:autoParam (ak [a] X.env=[(Z_,eval a X.env)]) Ŭ):PI X tg (.Call (.Name "range" p) [a] [] G) (aa0 N):=by
 intro B s U H R I h;refine Call_ (qz I m l boot_range (eQ (fu (o G B s U H _ I h) ?_) k rfl));rintro w x ⟨v,O,u,f,b⟩;let⟨j,e,b,g,q⟩:=b;subst e;cases f with
 |cons r c=>cases c;let⟨t,rfl⟩:=r;exact call_range_1 (O_ u Ž Ž b g Ż)
def adi(e:TI)(g:TG)(y:TS):TS:=λD U H=>e U H λJ O=>∃W:Nat->Nat->St->Hp->Prop,(∃m,W 0 m U O)/\∀i m U H,W i m U H ->
 (J.stop i H/\D.nx U H)\/(J.go i H/\∃N:St->Hp->Prop,(∀a H',N a H'->∃c,c<m/\W (i+1) c a H')/\∀x H',J.So i H x H'->g x U H' λb d=>y { D with nx:=N,ct:=N,bk:=D.nx } b d)
noncomputable def uH(a:List aw)(h:cF):List (aw×Obj):=a.filterMap λb=>(h.get? b).map λo=>(b,o)
def j8(c:b∈a)(e:h.get? b=Y o):(b,o)∈uH a h:=List.mem_filterMap.mpr ⟨b,c,by rw[e];rfl⟩
def CJ(c:p∈uH a h):p.1∈a/\h.get? p.1=Y p.2:=by
 let⟨b,_⟩:=List.mem_filterMap.mp c;rcases q:h.get? b with _|o
 .simp_all
 grind
def Inv.pinned{s:ar}(I:Inv X B U H s)(k:∀b∈a,Bo X B H b)(h:∀b∈a,∃o,s.heap.get? b=Y o/\∀v,o.data ≠ .cell v):Inv X (B++uH a s.heap) U H s:=
 I.yU λp g=>(aA.mp g).elim (λz=>I.pin p Ż) λz=>by
  let⟨c,e⟩:=CJ z;let⟨r,m,l,_⟩:=k p.1 c
  grind
def Inv.m_{s:ar}(I:Inv X (B++a) U H s):Inv X B U H s:=I.yU λp b=>I.pin p Ż
def Xc{j:List dh}(hp:yJ (bc X.prog X.w) X.A X.env X.xe)(hc:X.calm=Z')(L:PI X tg w wi)(hg:PG X tg g)(A:rN X j y)(hs:autoParam (∀x,cb w X.env x=cQ x) ũ):PS X (.For tg w j [] G) (adi wi g y):=by
 intro B s U H D I h;refine wpAny_For (fu (L B s U H _ I h) λv s1 J=>fu J λitv s2 z =>?_) hs;obtain⟨it,fp,tn,a,d,e,I2,T,Sq,f2,W,⟨m0,w0⟩,k0⟩:=z;subst e;have t:∀ {H':Hp},(∀b∈fp,H' b=M)->∀b∈fp,Bo X B H' b:=λhn b A=>⟨hn b A,(f2 b A).2⟩
 refine codeAny_forLoop_any (λn s'=>∃i p H',Inv X B p H' s'/\tn i s'.heap/\(∀b∈fp,H' b=M)/\W i n p H') ?_ m0 ⟨0,U,d,I2,Sq,λb A=>(f2 b A).1,w0⟩;rintro n s3 ⟨i,l,H3,I3,R,fr3,w3⟩;rcases k0 i n l H3 w3 with⟨stop,qn⟩|⟨go,N,hN,Q⟩
 .refine dQ hp (fu (T.done X rfl rfl rfl hc i B s3 l H3 X.xe I3 (t fr3) R stop) ?_);rintro r s4 ⟨hr,I4⟩;subst hr;exact sP ⟨l,H3,I4,qn⟩
 .refine dQ hp (fu (T.item X rfl rfl rfl hc i B s3 l H3 X.xe I3 (t fr3) R go) ?_);rintro r s4 ⟨u,hr,h4⟩;subst hr;refine dQ hp (fu h4 ?_);rintro _ s5 ⟨x,H5,I5,r5,y5,P,ZF⟩;refine dQ hp (fu (hg _ s5 l H5 x u _ (I5.pinned (t ZF) (T.obj _ _ P)) r5 (Q x H5 y5)) ?_);rintro _ s6 ⟨σ6,H6,I6,q6⟩;refine dQ hp (fu (A _ s6 σ6 H6 _ I6 q6) λf s7 K =>?_);have C:∀ {k:St}{F:Hp},Inv X (B++uH fp s5.heap) k F s7->N k F->∃m,m<n/\∃i p H',Inv X B p H' s7/\tn i s7.heap/\(∀b∈fp,H' b=M)/\W i m p H':=fun {k F} E S=>by let⟨m',hm,w7⟩:=hN k F S;refine⟨m',hm,i+1,k,F,E.m_,T.keep _ _ _ P λb A o e=>(E.pin (b,o) (aQ _ (aQ _ (j8 A e)))).1,λb A =>?_,w7⟩;let⟨o,e,c⟩:=T.obj _ _ P b A;exact(E.pin (b,o) (aQ _ (aQ _ (j8 A e)))).2.1
  cases f with
  |brk=>let⟨k,F,E,K⟩:=K;exact⟨k,F,E.m_,K⟩
  |ret v=>let⟨x7,k,F,E,r7,K⟩:=K;exact⟨x7,k,F,E.m_,r7,K⟩
  |_=>let⟨k,F,E,S⟩:=K;exact C E S
end
abbrev R2:=V->V->Hp->VK->Prop
def mj(X:Cx)(f:aj->aj->Sem aj)(r:R2):Prop:=
 ∀(B:List (aw×Obj)) (s:ar) (U:St) (H:Hp) (x y:V) (v u:aj) (Q:VK),Inv X B U H s->RelV x v->RelV y u->r x y H Q ->
  aX (bc X.prog X.w) X.A (f v u) (EP X B U Q) X.xe s
def UnR(X:Cx)(f:aj->Sem aj)(r:V->Hp->VK->Prop):Prop:=
 ∀(B:List (aw×Obj)) (s:ar) (U:St) (H:Hp) (x:V) (v:aj) (Q:VK),Inv X B U H s->RelV x v->r x H Q ->
  aX (bc X.prog X.w) X.A (f v) (EP X B U Q) X.xe s
def lh(X:Cx)(f:aj)(r:List V->Hp->VK->Prop):Prop:=
 ∀(B:List (aw×Obj)) (s:ar) (U:St) (H:Hp) (xs:List V) (a:List aj) (Q:VK),Inv X B U H s->b8 xs a->r xs H Q ->
  aX (bc X.prog X.w) X.A (call f a) (EP X B U Q) X.xe s
def ae2(X:Cx)(r:V->Hp->(Bool->Hp->Prop)->Prop):Prop:=
 ∀(B:List (aw×Obj)) (s:ar) (U:St) (H:Hp) (x:V) (v:aj) (Q:Bool->Hp->Prop),Inv X B U H s->RelV x v->r x H Q ->
  aX (bc X.prog X.w) X.A (truthy v) (TP X B U Q) X.xe s
def VD(r:R2)(N y:TE):TE:=λU H Q=>N U H λx O=>y U O λa d=>r x a d Q
def tUn(r:V->Hp->VK->Prop)(N:TE):TE:=λU H Q=>N U H λx O=>r x O Q
def rI(C:Int->Int->Prop)(g:Int->Int->V):R2:=λx y H Q=>∃i j,x=.int i/\y=.int j/\C i j/\Q (g i j) H
def Ol(g:Int->Int->V):R2:=λx y H Q=>∃i j,x=.int i/\y=.int j/\Q (g i j) H
def rU(g:Int->V):V->Hp->VK->Prop:=λx H Q=>∃i,x=.int i/\Q (g i) H
section
variable {X:Cx}
def YW(A:PE X a N)(w:PE X b y){s:ar}{R:V->V->Hp->Prop}(I:Inv X B U H s)(h:N U H λx O=>y U O λc d=>R x c d){f:aj->aj->Sem aj}(t:∀v u k x c d,Inv X B U d k->RelV x v->RelV c u->R x c d->aX (bc X.prog X.w) X.A (f v u) Q X.xe k):
  aX (bc X.prog X.w) X.A (eval a X.env) (λv g=>aX (bc X.prog X.w) X.A (eval b X.env) (λu e=>aX (bc X.prog X.w) X.A (f v u) Q X.xe e) X.xe g) X.xe s:=by
 refine fu (A B s U H _ I h) ?_;rintro v l ⟨x,O,D,o,r⟩;refine fu (w B l U O _ D r) ?_;rintro u k ⟨c,d,C,m,p⟩;exact t v u k x c d C o m p
def Po(l:mj X (dt e) r)(o:PE X a N)(m:PE X b y):PE X (.BinOp a e b G) (VD r N y):=by
 exact λB s U H Q I h=>wpAny_BinOp (YW o m I h λv u f x c d p k g q=>l B f U d x c v u Q p k g q)
def Pm{b:UnaryOp}(g:UnR X (unaryOp b) r)(k:PE X a N):PE X (.UnaryOp b a G) (tUn r N):=by
 exact λB s U H Q I h=>UnaryOp_ (fu (k B s U H _ I h) (by rintro v c ⟨x,O,l,e,f⟩;exact Ÿ))
def opI{f:aj->aj->Sem aj}{g:Int->Int->Int}(a:∀(i j:Int) (t u:Tok) (s:ar) (Q:aj->ar->Prop) (E:aj->ar->Prop),C i j->Q (.int (g i j) s.toks) { s with toks:=s.toks+1 }->aX (bc X.prog X.w) X.A (f (.int i t) (.int j u)) Q E s):
  mj X f (rI C λi j =>.int (g i j)):=by
 rintro B s U H x y v u Q I e c ⟨i,j,rfl,rfl,k,q⟩;let⟨t,rfl⟩:=e;let⟨b,rfl⟩:=c;exact a i j t b s _ _ k ⟨.int _,H,I.tok _,⟨_,rfl⟩,q⟩
def TV{f:aj->aj->Sem aj}{g:Int->Int->Int}(a:∀(i j:Int) (t u:Tok) (s:ar) (Q:aj->ar->Prop) (E:aj->ar->Prop),Q (.int (g i j) s.toks) { s with toks:=s.toks+1 }->aX (bc X.prog X.w) X.A (f (.int i t) (.int j u)) Q E s):
  mj X f (Ol λi j =>.int (g i j)):=by
 rintro B s U H x y v u Q I e c ⟨i,j,rfl,rfl,q⟩;let⟨t,rfl⟩:=e;let⟨b,rfl⟩:=c;exact a i j t b s _ _ ⟨.int _,H,I.tok _,⟨_,rfl⟩,q⟩
def Xw{f:aj->aj->Sem aj}{g:Int->Int->Bool}(a:∀(i j:Int) (t u:Tok) (s:ar) (Q:aj->ar->Prop) (E:aj->ar->Prop),Q (.bool (g i j)) s->aX (bc X.prog X.w) X.A (f (.int i t) (.int j u)) Q E s):
  mj X f (Ol λi j =>.bl (g i j)):=by
 rintro B s U H x y v u Q I e c ⟨i,j,rfl,rfl,q⟩;let⟨t,rfl⟩:=e;let⟨b,rfl⟩:=c;exact a i j t b s _ _ ⟨.bl _,H,I,rfl,q⟩
def aff(i j:Int):Prop:=0<=j/\j<=1000000/\i.natAbs<2 ^ 64
def R9(i j:Int):Prop:=(-(2 ^ 64)<i/\i<2 ^ 64)\/(-(2 ^ 64)<j/\j<2 ^ 64)
def R9.ok{i:Int}(h:R9 i j):IntMulOk i j:=by
 rcases h with⟨J,z⟩|⟨J,z⟩
 .exact .of_left (intBits_le_64 J z)
 .exact .of_right (intBits_le_64 J z)
def Xv:mj X (dt .Add) (Ol λi j =>.int (i+j)):=TV λa a a a a a a q=>add_int q
def Xo:mj X (dt .Sub) (Ol λi j =>.int (i-j)):=TV λa a a a a a a q=>sub_int q
def Xr:mj X (dt .Mult) (rI R9 λi j =>.int (i*j)):=opI λb b b b b b b a q=>mul_int q a.ok
def Xs:mj X (dt .Mod) (rI (λb j=>0<j) λi j =>.int (i%j)):=opI λi j b b b b b a q=>by
 exact mod_int' Ž (by rw[Int.fmod_eq_emod_of_nonneg i (by lia)];exact q)
def Xp:mj X (dt .LShift) (rI aff λi j =>.int (i*2 ^ j.toNat)):=opI λb b b b b b b a q=>lshift_int_small a.1 a.2.1 a.2.2 q
def Xu:mj X (dt .BitAnd) (Ol λi j =>.int (Fj i j)):=TV λa a a a a a a q=>and_int q
def aaA:mj X (dt .BitOr) (Ol λi j =>.int (g_ i j)):=TV λa a a a a a a q=>or_int q
def unI{f:aj->Sem aj}{g:Int->Int}(a:∀(i:Int) (t:Tok) (s:ar) (Q:aj->ar->Prop) (E:aj->ar->Prop),Q (.int (g i) s.toks) { s with toks:=s.toks+1 }->aX (bc X.prog X.w) X.A (f (.int i t)) Q E s):
  UnR X f (rU λi =>.int (g i)):=by
 rintro B s U H x v Q I b ⟨i,rfl,q⟩;let⟨t,rfl⟩:=b;exact a i t s _ _ ⟨.int _,H,I.tok _,⟨_,rfl⟩,q⟩
def Ij:UnR X (unaryOp .USub) (rU λi =>.int (-i)):=unI λa a a a a q=>neg_int q
noncomputable def adm:V->V->Bool
 |.dr,.dr=>Z'|.dr,.int _=>Z'|.int _,.dr=>Z'|.dr,.bl _=>Z'|.bl _,.dr=>Z'|.dr,.str _=>Z'|.str _,.dr=>Z'|.int _,.int _=>Z'|.bl _,.bl _=>Z'|.str _,.str _=>Z'|.J_ _,.J_ _=>Z'|.int _,.str _=>Z'|.str _,.int _=>Z'|.bl _,.str _=>Z'|.str _,.bl _=>Z'|_,_=>Z_
def rEq:R2:=λx y H Q=>adm x y=Z'/\Q (.bl (decide (x=y))) H
def U0:decide (V.int i=V.int j)=(i==j):=by
 rw[ie];simp
def YK:decide (V.bl i=V.bl j)=(i==j):=by
 rw[ie];simp
def UZ:decide (V.str i=V.str j)=(i==j):=by
 rw[ie];simp
def U2:decide (V.J_ i=V.J_ j)=(i.toList==j.toList):=by
 rw[ie];cases i;cases j;simp
def iI{s:ar}{a:Bool}(I:Inv X B U H s)(q:Q (.bl k) H)(e:k=a):EP X B U Q (.bool a) s:=by
 subst e;exact⟨.bl k,H,I,rfl,q⟩
def VO:mj X (cR .Eq) rEq:=by
 intro B s U H x y v u Q I e a h;let⟨c,q⟩:=h;cases x with
 |dr=>
  cases e;cases y with
  |dr=>cases a;exact PySem.EqNone.eq_none_none (iI I q ż)
  |bl j=>cases a;exact PySem.EqNone.eq_none_bool (iI I q ż)
  |int j=>let⟨b,rfl⟩:=a;exact PySem.EqNone.eq_none_int (iI I q ż)
  |str j=>let⟨b,rfl⟩:=a;exact PySem.EqNone.eq_none_str (iI I q ż)
  |_=>exact absurd (show Z_=Z' from c) bU
 |bl i=>
  cases e;cases y with
  |dr=>cases a;exact PySem.EqNone.eq_bool_none (iI I q ż)
  |bl j=>cases a;exact eq_bool (iI I q YK)|str j=>let⟨b,rfl⟩:=a;exact PySem.EqMixed.eq_bool_str (iI I q ż)
  |_=>exact absurd (show Z_=Z' from c) bU
 |int i=>
  let⟨t,rfl⟩:=e;cases y with
  |dr=>cases a;exact PySem.EqNone.eq_int_none (iI I q ż)
  |int j=>let⟨b,rfl⟩:=a;exact eq_int (iI I q U0)
  |str j=>let⟨b,rfl⟩:=a;exact PySem.EqMixed.eq_int_str (iI I q ż)
  |_=>exact absurd (show Z_=Z' from c) bU
 |str i=>
  let⟨t,rfl⟩:=e;cases y with
  |dr=>cases a;exact PySem.EqNone.eq_str_none (iI I q ż)
  |bl j=>cases a;exact PySem.EqMixed.eq_str_bool (iI I q ż)
  |int j=>let⟨b,rfl⟩:=a;exact PySem.EqMixed.eq_str_int (iI I q ż)
  |str j=>let⟨b,rfl⟩:=a;exact eq_str (iI I q UZ)
  |_=>exact absurd (show Z_=Z' from c) bU
 |J_ i=>
  let⟨t,rfl⟩:=e;cases y with
  |J_ j=>let⟨b,rfl⟩:=a;exact PySem.W.eq_bytes (iI I q U2)
  |_=>exact absurd (show Z_=Z' from c) bU
 |_=>cases y<;>exact absurd (show Z_=Z' from c) bU
def aaB:mj X (cR .Lt) (Ol λi j =>.bl (decide (i<j))):=Xw λa a a a a a a q=>lt_int q
def Py:mj X (cR .Gt) (Ol λi j =>.bl (decide (j<i))):=Xw λa a a a a a a q=>gt_int q
def aaC:mj X (cR .GtE) (Ol λi j =>.bl (decide (j<=i))):=Xw λa a a a a a a q=>ge_int q
def Xt:mj X (cR .Is) (λx y H Q=>y=.dr/\Q (.bl (decide (x=.dr))) H):=by
 intro B s U H x y v u Q I a b h;let⟨rfl,q⟩:=h;cases b;refine is_none_gen (iI I q ?_);cases x<;>first
  |(cases a;rfl)
  |(let⟨t,rfl⟩:=a;rfl)
def TQ:mj X (cR .IsNot) (λx y H Q=>y=.dr/\Q (.bl (!decide (x=.dr))) H):=by
 intro B s U H x y v u Q I a b h;let⟨rfl,q⟩:=h;cases b;refine isnot_none_gen (iI I q ?_);cases x<;>first
  |(cases a;rfl)
  |(let⟨t,rfl⟩:=a;rfl)
def mj.or{f:aj->aj->Sem aj}{r c:R2}(h:mj X f r)(h':mj X f c):mj X f (λx y H Q=>r x y H Q\/c x y H Q):=by
 intro B s U H x y v u Q I b a q;rcases q with q|q
 .exact Ÿ
 exact Ÿ
def Aq(b:Expr)(h:autoParam (op ≠ .In) Ū)(z:autoParam (op ≠ .NotIn) Ū):g9 op b=false:=by
 let c:(op==CmpOp.In)=false:=by simp_all
 let a:(op==CmpOp.NotIn)=false:=by simp_all
 cases b<;>simp[g9,c,a]
def D6(l:mj X (cR e) r)(p:PE X a N)(o:PE X b y)(m:g9 e b=Z_):PE X (.Compare a [e] [b] G) (VD r N y):=by
 exact λB s U H Q I h=>wpAny_Compare1 (YW p o I h λv u f x c d t k g q=>l B f U d x c v u Q t k g q) m
def Z1(t:TE):TT:=λU H Q=>t U H λx H'=>∃k,x=.bl k/\Q k H'
def D3(D:mj X (cR g) r)(K:PE X a N)(F:PE X b y)(E:g9 g b=Z_):PT X (.Compare a [g] [b] G) (Z1 (VD r N y)):=by
 intro B s U H Q I h;refine wpAny_isTrue_Compare1 (fu (K B s U H _ I h) λv m ⟨x,O,R,t,C⟩=>fu (F B m U O _ R C) λu l ⟨f,d,P,p,A⟩=>fu (D B l U d x f v u _ P t p A) λc T ⟨z,S,i,o,k,e,w⟩ =>?_) E
 subst e;cases o;exact gI ⟨S,i,w⟩
def abL(K:aP)(x:V)(H:Hp)(k:Bool):Prop:=
 match x with
 |.dr=>k=Z_|.bl b=>k=b|.int i=>k=(i != 0)|.str y=>y.length<=aU/\k=((y.length:Int) != 0)|.J_ y=>y.size<=aU/\k=((y.size:Int) != 0)|.ref p=>(∃xs,mh K H p xs/\k = !xs.isEmpty)\/(∃xs,wN K H p xs/\k = !xs.isEmpty)\/∃a n,H p=Y (.dK a n)/\k = !a.isEmpty|_=>False
def JG{b:Type}{a:List (b×V)}{c:List (b×aj)}(r:KV a c):(!c.isEmpty) = !a.isEmpty:=by
 cases r<;>rfl
def AI{xs:List V}{a:List aj}(r:b8 xs a):(!a.toArray.isEmpty) = !xs.isEmpty:=by
 cases r<;>simp
def uP:(aU:Nat)<2 ^ 63:=by decide
def WK:ae2 X (λx H Q=>∃k,abL X.K x H k/\Q k H):=by
 intro B s U H x v Q I rx h;let⟨k,e,q⟩:=h;let hl:=uP;let hs:aU=16777216:=iX;cases x with
 |dr=>cases rx;let e':k=false:=e;subst e';exact truthy_none ⟨H,I,q⟩
 |bl b=>cases rx;let e':k=b:=e;subst e';exact gI ⟨H,I,q⟩
 |int i=>let⟨t,rfl⟩:=rx;let e':k=(i != 0):=e;subst e';exact PySem.P.truthy_int ⟨H,I,q⟩
 |str y=>let⟨t,rfl⟩:=rx;obtain⟨hy,e'⟩:y.length<=aU/\k=((y.length:Int) != 0):=e;subst e';exact PySem.P.truthy_str Ž ⟨H,I.tok _,q⟩
 |J_ y=>let⟨t,rfl⟩:=rx;obtain⟨hy,e'⟩:y.size<=aU/\k=((y.size:Int) != 0):=e;subst e';exact PySem.W.truthy_bytes Ž ⟨H,I.tok _,q⟩
 |ref p=>
  cases rx;let e':=e;rcases e' with⟨xs,hx,e'⟩|⟨xs,hx,e'⟩|⟨dN,n,hx,e'⟩
  .subst e';let⟨Fm,r,pl,hz⟩:=I.list hx;let HF:=r.length;exact wpAny_truthy_list pl.isList (by simp only[bT];lia) ⟨H,I.tok _,by rw[AI r];exact q⟩
  .subst e';let⟨Fm,r,pl,hz⟩:=I.tuple hx;let HF:=r.length;exact truthy_tuple pl (by simp only[bT];lia) ⟨H,I.tok _,by rw[AI r];exact q⟩
  .subst e';obtain⟨hz,hS,vs,r,m⟩:dN.length<=aU/\(p==jo)=Z_/\∃vs,KV dN vs/\s.heap.DictAt (fy X.prog X.w) p vs n:=I.fQ p _ hx;let HF:dN.length=vs.length:=Paired.length r;exact wpAny_truthy_dict hS m.dictOf Ž ⟨H,I.tok _,by rw[JG r];exact q⟩
 |_=>solve_by_elim
def Pa(l:PE X a N)(g:∀b,isTrue a X.env b=(do let v <- b;tY a.pos;px [v] (truthy v))):
  PT X a (λU H Q=>N U H λx H'=>∃k,abL X.K x H' k/\Q k H'):=by
 exact λB s U H Q I h=>isTrue_plain (fu (l B s U H _ I h) (by rintro v c ⟨x,O,m,e,f⟩;exact WK B c U O x v Q m e f)) (g _)
def IU:mj X (dt .Add) (λx y H Q=>∃i j,x=.str i/\y=.str j/\i.length+j.length<=aU/\Q (.str (i++j)) H):=by
 rintro B s U H x y v u Q I c b ⟨i,j,rfl,rfl,e,q⟩;let⟨t,rfl⟩:=c;let⟨a,rfl⟩:=b;exact add_str (λa tk=>⟨.str _,H,I.tok _,⟨_,rfl⟩,q⟩) e
def vals1{x:V}{a:List aj}(r:b8 [x] a):∃u,a=[u]/\RelV x u:=by
 cases r with|cons c b=>cases b;simp_all
end
structure Kh(h:cF)(x dx C:aw)(mA:aH->Option aj):Prop where
 obj:h.get? x=some (HV C dx)
 ns:h.Ns1 dx mA
 ne:dx≠x
def Nf{h:cF}{dx:aw}{mA:aH->Option aj}(n:h.Ns1 dx mA):∃c,h.get? dx=Y c/\∀name,lookIn name c=Y (mA name):=by
 let⟨o,es,r,g,m,l,_,k⟩:=n;refine⟨o,g,λname =>?_⟩;let e:=k name;unfold nsFind findBy at e;rw[<- Array.find?_toList]at e;unfold lookIn;rw[m];dsimp only;split
 .simp_all
 .let a:es.toList.any (·.refKey)=false:=by rw[tJ];intro y f;let⟨z,t,b⟩:=l y Ż;simp[DictEntry.refKey,b]
  simp_all
def Kh.look(I:Kh h x dx C mA):∃a,PySem.W.InstAt h x (HV C dx) C (Y a)/\∀name,lookIn name a=Y (mA name):=
 let⟨a,b,c⟩:=Nf I.ns
 ⟨a,⟨I.obj,rfl,rfl,b⟩,c⟩
section
variable {s:ar}{K:aP}{f:aw}{name:aH}{v:aj}
def Vs(X:K.In s.heap)(I:Kh s.heap x dx C mA)(g:plainGet K C name=Z')(f:hasDictIn K C=Z')(k:wG K (.ref C) name=Y M)(c:mA name=Y v)(b:PySem.W.handedIn v=Z')(h:Q v { s with toks:=s.toks+1 }):
  aX (bc prog w) A (getAttr (.ref x) name a) Q E s:=by
 let⟨l,J,e⟩:=I.look;exact PySem.W.get_value X J (PySem.W.plainGet_of g).1 (PySem.W.findObj_own f k rfl (by rw[e,c])) b h
def Q4(X:K.In s.heap)(I:Kh s.heap x dx C mA)(a:plainGet K C name=Z')(l:wG K (.ref C) name=Y (Y (.ref f)))(g:PySem.W.isFn K (.ref f)=Z')(e:mA name=M)(h:Q (.ref f,[.ref x]) s):
  aX (bc prog w) A (qT (.ref x) name b) Q E s:=by
 let⟨c,J,k⟩:=I.look;exact PySem.W.method_fn X J (PySem.W.plainGet_of a).1 (PySem.W.plainGet_of a).2 l (beq_iff_eq.mp g) (by show (lookIn _ c).map _=Y _;simp_all) h
def S9(X:K.In s.heap)(I:Kh s.heap x dx C mA)(r:wG K (.ref C) "__setattr__" = Y (Y (.builtin "object.__setattr__")))(t:plainOver K C=Z')(o:takerIn K C name=Y M)(u:hasDictIn K C=Z')(hw:PySem.Within mA l)(p:l.length<=aU)(h:∀h',Kh h' x dx C (λy=>if y=name then Y v else mA y)->fM dx s.heap h'->Q () { s with heap:=h',toks:=s.toks+2 }):
  aX (bc prog w) A (setAttr (.ref x) name v) Q E s:=by
 let⟨d,J,R⟩:=I.look;refine PySem.W.set_plain X J r (PySem.W.osa_open X J t o λb =>?_);let⟨S,D,g⟩:=PySem.W.any_some u;refine af (ax (af (af (wpAny_loadPart (I.obj) (af (PySem.W.Looks.here (s:={ s with toks:=s.toks+1 }) (PySem.W.looks_clsIn X D) ?_))))));rw[g];refine ax (a:=Y dx) (af (ax (af ?_)));refine wpAny_nsSet1 (s:={ s with toks:=s.toks+1 }) I.ns λh' c a =>?_
 let⟨P,F,H,e,_⟩:=c.count (PySem.Within.cons name v hw);refine af (wpAny_lookBehind e (by grind [pastItsLine_dict,aV,aJ]) ?_);exact ax (h _ ⟨(a.2 _ (bE I.ne)).trans I.obj,c,I.ne⟩ a)
def Qf{R:Zc->ar->Prop}(X:K.In s.heap)(c:makesIn K C=Z')(L:wG K (.ref C) "__init__" = Y (Y (.ref f)))(e:PySem.W.typeIn K (.ref f)=Y (.type "function")) (h:pA (bc prog w) (A.under (.builtin "type.__call__" ⟨.ref C::a,b⟩)) (.call (.ref f) ⟨.ref (s.heap.objs.size+1)::a,b⟩) (PySem.W.InitBack (s.heap.objs.size+1) R)
   { s with heap:=(s.heap.push HW).push (HV C s.heap.objs.size) }) :
  pA (bc prog w) A (.call (.ref C) ⟨a,b⟩) R s:=by
 exact PySem.W.make_core (PySem.W.makes_of X c) (PySem.W.looks_findIn X L) (λself=>PySem.W.bind_fn X _ e) (.inl rfl) h
end
noncomputable def nF(f:aH)(v:V):List (aH×V)->List (aH×V)
 |[]=>[(f,v)]|(g,x)::r=>if g=f then (g,v)::r else (g,x)::nF f v r
theorem so(f g:aH)(v:V):∀j:List (aH×V),(nF f v j).lookup g=if g=f then Y v else j.lookup g
 | []=>by
  show List.lookup g [(f,v)]=_
  grind
 | (k,x)::r=>by
  let ih:=so f g v r;rw[show nF f v _=if k=f then (k,v)::r else (k,x)::nF f v r from rfl]
  grind
theorem xF(f:aH)(v:V):∀j:List (aH×V),f∈(nF f v j).map (·.1)/\∀g,g∈j.map (·.1)->g∈(nF f v j).map (·.1)
 |[]=>⟨by simp[nF],λg h=>by simp at h⟩
 | (k,x)::r=>by
  obtain _:=xF f v r;rw[show nF f v _=if k=f then (k,v)::r else (k,x)::nF f v r from rfl]
  grind
theorem yi(f:aH)(v:V):∀j:List (aH×V),(nF f v j).length<=j.length+1
 |[]=>by simp[nF]
 | (k,x)::r=>by
  let ih:=yi f v r;rw[show nF f v _=if k=f then (k,v)::r else (k,x)::nF f v r from rfl]
  grind
def sM.some_of{v:V}{o:Option aj}(r:sM (Y v) o):∃u,o=Y u/\RelV v u:=by
 cases o with|none=>solve_by_elim|some u=>solve_by_elim
def sM.none_of(r:sM M o):o=none:=by
 cases o with|none=>rfl|some u=>solve_by_elim
def Nu{v:V}(r:RelV v u):PySem.W.handedIn u=true:=by
 cases v with
 |dr=>cases r;rfl|bl b=>cases r;rfl|int i=>let⟨t,e⟩:=r;cases e;rfl
 |str x=>let⟨t,e⟩:=r;cases e;rfl
 |J_ b=>let⟨t,e⟩:=r;cases e;rfl
 |Sy b=>let⟨t,e⟩:=r;cases e;rfl
 |ref a=>cases r;rfl|ty n=>cases r;rfl
section
variable {P:aZ}
def y_(b:pw P w H h)(e:H a=Y (.ins C dx j)):∃mA,Kh h a dx C mA/\(∀f,sM (j.lookup f) (mA f))/\PySem.Within mA (j.map (·.1))/\j.length<=1000/\H dx=Y (.Z a):=by
 let⟨d,z,g,c,mA,n,r,q⟩:=b a _ e;exact⟨mA,⟨c,n,g⟩,r,q,z,d⟩
end
structure Mu(K:aP)(C:aw):Prop where
 pg:plainGet K C Str.empty=true
 hd:hasDictIn K C=true
 po:plainOver K C=true
 sa:wG K (.ref C) "__setattr__" = some (some (.builtin "object.__setattr__"))
def Mu.get{K:aP}(c:Mu K C)(f:aH):plainGet K C f=true:=c.pg
def qS(K:aP)(C:aw)(f:aH):Prop:=wG K (.ref C) f=Y M
def qS.ZZ{K:aP}{f:aH}(n:qS K C f):takerIn K C f=Y none:=by
 unfold takerIn;rw[n];rfl
structure Vm(K:aP)(C:aw)(m:aH)(f:aw):Prop where
 at_:wG K (.ref C) m=some (some (.ref f))
 fn:PySem.W.isFn K (.ref f)=true
 kp:HI K (.ref f)=true
section
variable {X:Cx}{s:ar}{f:aH}{v:V}
def AO(I:Inv X B U H s)(e:H a=Y (.ins C dx j))(c:Mu X.K C)(n:qS X.K C f)(l:j.lookup f=Y v)(h:∀u s',Inv X B U H s'->RelV v u->Q u s'):aX (bc X.prog X.w) A (getAttr (.ref a) f b) Q E s:=by
 let⟨mA,O,_⟩:=y_ I.fQ e;let⟨u,k,g⟩:=sM.some_of (v:=v) (o:=mA f) ŷ;exact Vs I.yj O (c.get f) c.hd n k (Nu g) (h u _ (I.tok _) g)
def AN{m:aH}(I:Inv X B U H s)(e:H a=Y (.ins C dx j))(c:Mu X.K C)(k:Vm X.K C m g)(l:j.lookup m=M)(h:Q (.ref g,[.ref a]) s):aX (bc X.prog X.w) A (qT (.ref a) m b) Q E s:=by
 let⟨mA,O,_⟩:=y_ I.fQ e;exact Q4 I.yj O (c.get m) k.at_ k.fn (sM.none_of ŷ) h
def zQ(I:Inv X B U H s)(e:H a=Y (.ins C dx j))(c:Mu X.K C)(n:qS X.K C f)(K:j.length<1000)(t:RelV y u)(h:∀s',Inv X B U (dA H a (.ins C dx (nF f y j))) s'->Q () s'):aX (bc X.prog X.w) A (setAttr (.ref a) f u) Q E s:=by
 let⟨mA,O,r,l,_,m⟩:=y_ I.fQ e;let v:(j.map (·.1)).length<=aU:=by rw[aG,iX];lia
 refine S9 I.yj O c.sa c.po n.ZZ c.hd l v λh' k p=>h _ ?_
 refine I.write (by rw[e];exact Ÿ) (.inr m) (λb q D z=>(p.2 b D).trans z) (let⟨o,_,_,F,_⟩:=k.ns;⟨o,F⟩) ?_;refine⟨by rw[aR O.ne];exact m,?_,O.ne,k.obj,_,k.ns,λg =>?_,λg w =>?_⟩
 .grind [yi]
 .rw[so];by_cases q:g=f
  .rw[if_pos q,if_pos q];exact t
  simp_all
 .by_cases q:g=f
  .rw[q];exact(xF f y j).1
  .refine(xF f y j).2 g (l g λz=>w ?_)
   simp_all
def Inv.made(I:Inv X B U H s):Inv X B U (dA (dA H s.heap.objs.size (.Z (s.heap.objs.size+1))) (s.heap.objs.size+1) (.ins C s.heap.objs.size []))
  { s with heap:=(s.heap.push HW).push (HV C s.heap.objs.size) }:=by
 let c:(s.heap.push _).get? _=Y HW:=aF _ rfl;let k:((s.heap.push HW).push (HV C s.heap.objs.size)).get? (s.heap.objs.size+1)=Y (HV C s.heap.objs.size):=by
  have:=aF (s.heap.push HW) (o:=HV C s.heap.objs.size) rfl
  simp_all
 let l:=I.laid (o :=.Z (s.heap.objs.size+1)) (t':=s.toks) (λb u q=>ae _ q) (av _) ⟨_,c⟩;refine l.laid (λb u q=>ae _ q) Ż ?_;let a:s.heap.objs.size≠s.heap.objs.size+1:=bf Ż;refine⟨by rw[aR a,a_],d7 _,a,k,_,(Heap.Ns1.of_empty ⟨HW,#[],_,c,rfl,(λe g=>absurd g ż),λ_=>rfl⟩).at λo q=>ae _ q,λ_=>rK,λy f=>absurd rfl f⟩
def Vi{prog:aZ}{w:cH}{a:Env}{e:Expr}{f:aH}{G:Pos}{s:ar}{Q:aj->ar->Prop}(c:bS e f a (eval e a)=eval e a)(h:aX (bc prog w) A (eval e a) (λo b=>aX (bc prog w) A (getAttr o f Z') Q E b) E s):aX (bc prog w) A (eval (.Attribute e f G) a) Q E s:=
 Attribute_any_ h (by rw[arm_eval_Attribute,c])
end
def Z7(K:aP)(N:TE)(f:aH):TE:=λU H Q=>N U H λx O=>∃a C dx j v,x=.ref a/\O a=Y (.ins C dx j)/\Mu K C/\qS K C f/\j.lookup f=Y v/\Q v O
def adn(K:aP)(N tv:TE)(f:aH):TS:=λD U H=>tv U H λy O=>N U O λx d=>∃a C dx j,x=.ref a/\d a=Y (.ins C dx j)/\Mu K C/\qS K C f/\j.length<1000 /\
 D.nx U (dA d a (.ins C dx (nF f y j)))
def R7(X:Cx)(b:Operator)(a:V->V->Hp->VK->Prop):Prop:=
 ∀(B:List (aw×Obj)) (s:ar) (U:St) (H:Hp) (x y:V) (u v:aj) (Q:VK),Inv X B U H s->RelV x u->RelV y v->a x y H Q->aX (bc X.prog X.w) X.A (inplaceOp b u v) (EP X B U Q) X.xe s
def Te(K:aP)(N tv:TE)(e:V->V->Hp->VK->Prop)(f:aH):TS:=λD U H=>N U H λx O=>∃a C dx j v,x=.ref a/\O a=Y (.ins C dx j)/\Mu K C/\qS K C f/\j.lookup f=Y v /\
 tv U O λy d=>e v y d λz c=>∃b fs',c a=Y (.ins C b fs')/\fs'.length<1000/\D.nx U (dA c a (.ins C b (nF f z fs')))
section
variable {X:Cx}{f:aH}
def sg(k:PE X e N)(m:bS e f X.env (eval e X.env)=eval e X.env):PE X (.Attribute e f G) (Z7 X.K N f):=by
 intro B s U H Q I h;refine Vi m (fu (k B s U H _ I h) ?_);rintro u A ⟨x,O,r,b,a,C,dx,j,v,ex,o,c,n,l,q⟩;subst ex;obtain rfl:u=fm a:=b;exact AO r o c n l λt w p g=>⟨v,O,p,g,q⟩
def IK(t:PE X o N)(p:PE X uu tv)(r:dy uu (Y (.Attribute o f Vp)) G.line X.env=cQ Z_):PS X (.Assign [.Attribute o f Vp] uu G) (adn X.K N tv f):=by
 intro B s U H D I h;refine plainObj_wpAny_Assign_Attribute (fu (p B s U H _ I h) ?_) r;rintro u b ⟨y,O,E,e,q⟩;refine fu (t B b U O _ E q) ?_;rintro m K ⟨x,d,A,g,a,C,dx,j,ex,v,c,n,l,k⟩;subst ex;obtain rfl:m=fm a:=g;exact zQ A v c n l e λF w=>⟨U,_,w,k⟩
def MX(R:PE X o N)(Q:PE X uu tv)(b:R7 X k g):PS X (.AugAssign (.Attribute o f ZX) k uu G) (Te X.K N tv g f):=by
 intro B s U H D I h;refine wpAny_AugAssign_AttributeAny (fu (R B s U H _ I h) ?_);rintro i s1 ⟨x,O,I1,A,a,C,dx,j,v,ex,S,c,n,l,q⟩;subst ex;obtain rfl:i=fm a:=A;refine AO I1 S c n l λu r I2 E=>fu (Q B r U O _ I2 q) ?_
 rintro m p ⟨y,d,I3,w,K⟩;refine fu (b B p U d v y u m _ I3 E w K) ?_;rintro w4 s4 ⟨z,H3,I4,t,T,fs',e,P,F⟩;exact zQ I4 e c n P t λs5 I5=>⟨U,_,I5,F⟩
def adB:V->V->Hp->VK->Prop:=λx y H Q=>∃i j,x=.int i/\y=.int j/\Q (.int (i+j)) H
def adW:R7 X .Add adB:=by
 rintro B s U H x y u v Q I c b ⟨i,j,rfl,rfl,q⟩;let⟨t,rfl⟩:=c;let⟨a,rfl⟩:=b;exact PyProof.Rows.iadd_int ⟨.int _,H,I.tok _,⟨_,rfl⟩,q⟩
end
section
variable {X:Cx}{s:ar}
inductive yE (K:aP) (H:Hp):V->aj->Prop where
 |dr:yE K H .dr (.type "NoneType")
 |bl (x:Bool):yE K H (.bl x) (.type "bool")
 |int (i:Int):yE K H (.int i) (.type "int")
 |str (x:aH):yE K H (.str x) (.type "str")
 |Sy (x:UInt64):yE K H (.Sy x) (.type "float")
 |lst {a:aw}{xs:List V}(e:H a=some (.lst xs)):yE K H (.ref a) (.type "list")
 |Ov {a:aw}{o:Obj}{xs:List V}(e:H a=some (.Ov o (.lst xs))):yE K H (.ref a) (.type "list")
 |tup {a:aw}{xs:List V}(e:wN K H a xs):yE K H (.ref a) (.type "tuple")
 |dK {a:aw}{dN:List (iT×V)}{n:Nat}(e:H a=some (.dK dN n)):yE K H (.ref a) (.type "dict")
 |dT {a:aw}{dN:List (List iT×V)}(e:H a=some (.dT dN)):yE K H (.ref a) (.type "dict")
 | ins {a C dx:aw}{fs:List (aH×V)}(e:H a=some (.ins C dx fs)) (cl:Mu K C) (ha:wG K (.ref C) "__class__" = some (some (.builtin "object.__class__")))
   (hn:PySem.W.specialIn K (.builtin "object.__class__") "__get__" = some (some (.builtin "getset_descriptor.__get__"))) (htk:PySem.W.takesIn K (.builtin "object.__class__")=some true)
   (hm:PySem.W.mroIn K C (.type "object")=some true):yE K H (.ref a) (.ref C)
def m6(I:Inv X B U H s)(k:RelV x u)(v:yE X.K H x t)(e:kitOne X.K t c=Y b)(h:∀tk,Q (.bool b) { s with toks:=tk }):
  aX (bc X.prog X.w) A (call (.builtin "isinstance") [u,c]) Q E s:=by
 cases v with
 |dr=>cases (k);exact u_ PySem.W.kitx_none I.yj rK e (λg=>nomatch g) h
 |bl y=>cases (k);exact u_ PySem.W.kitx_bool I.yj rK e (λg=>nomatch g) h
 |int i=>let⟨t,q⟩:=(k);cases q;exact u_ PySem.W.kitx_int I.yj rK e (λg=>nomatch g) h
 |str y=>let⟨t,q⟩:=(k);cases q;exact u_ PySem.W.kitx_str I.yj rK e (λg=>nomatch g) h
 |Sy y=>let⟨t,q⟩:=(k);cases q;exact u_ PySem.W.kitx_float I.yj rK e (λg=>nomatch g) h
 |@lst a xs l=>cases (k);let⟨_,_,n,_,J⟩:=(I.fQ a _ l);exact u_ PySem.W.kitx_list I.yj ⟨_,J,rfl⟩ e (λg=>nomatch g) h
 |@Ov a w xs l=>cases (k);let⟨_,_,_,n,_,J⟩:=(I.fQ a _ l);exact u_ PySem.W.kitx_list I.yj ⟨_,J,rfl⟩ e (λg=>nomatch g) h
 |@tup a xs l=>cases (k);obtain⟨_,_,⟨o,J,z,_⟩,_⟩:=I.tuple l;exact u_ PySem.W.kitx_tuple I.yj ⟨o,J,z⟩ e (λg=>nomatch g) h
 |@dK a m n l=>cases (k);let⟨_,_,P,_,p⟩:=(I.fQ a _ l);let⟨o,es,J,z,_⟩:=p;exact u_ PySem.W.kitx_dict I.yj ⟨o,J,z.1⟩ e (λg=>nomatch g) h
 |@dT a m l=>cases (k);let⟨_,_,xs,_,o,es,d,J,z,_⟩:=(I.fQ a _ l);exact u_ PySem.W.kitx_dict I.yj ⟨o,J,z.1⟩ e (λg=>nomatch g) h
 |@ins a C dx j l cl K D r F=>cases (k);let⟨mA,O,_⟩:=y_ I.fQ l;let⟨R,f,_⟩:=O.look;exact u_ (PySem.W.kitx_own (cl.get _) cl.hd K D r F) I.yj f e (λg=>nomatch g) h
end
structure fT(k:Nat)(A:jq):Prop where
 hd:A.handled=none
 dp:A.depth+3*k+5<recursionLimit
 un:A.units+16*k+200<mY
def fT.mono(r:fT k A)(h:j<=k):fT j A:=⟨r.hd,by have:=r.dp;lia,by have:=r.un;lia⟩
def fT.deeper(r:fT (k+1) A)(a:Env):fT k (A.deeper a):=
 ⟨r.hd,by have:=r.dp;show A.depth+1+3*k+5<_;lia,by have:=r.un;show A.units+3+16*k+200<_;lia⟩
theorem Jr{A:jq}{C:aw}{a:List aj}{b:List (aH×aj)}:(A.under (.builtin "type.__call__" ⟨.ref C::a,b⟩)).depth=A.depth+1:=by
 exact Ÿ
theorem Jq{A:jq}{C:aw}{a:List aj}{b:List (aH×aj)}:(A.under (.builtin "type.__call__" ⟨.ref C::a,b⟩)).units=A.units+1:=by
 exact Ÿ
def fT.make(r:fT (k+1) A)(C:aw)(a:List aj)(b:List (aH×aj)):fT k (A.under (.builtin "type.__call__" ⟨.ref C::a,b⟩)):=
 ⟨r.hd,by have:=r.dp;grind [Jr],by have:=r.un;grind [Jq]⟩
def fT.depth(r:fT k A):A.depth<recursionLimit:=by have:=r.dp;lia
def fT.units{A:jq}(r:fT k A):A.units+64<mY:=by have:=r.un;lia
def OP:TA:=λ_ H Q=>Q [] H
def Cj(N:TE)(a:TA):TA:=λU H Q=>N U H λx O=>a U O λxs d=>Q (x::xs) d
section
variable {X:Cx}
def eC:PA X [] OP:=λa a a a H Q I h=>Oi ⟨[],H,I,.nil,h⟩
def bZ(m:PE X e te)(l:PA X es t)(k:autoParam (ak (e::es) X.env=(Z_,eval e X.env)::ak es X.env) Ŭ):PA X (e::es) (Cj te t):=by
 intro G B s U H Q I h;rw[k];refine vg (fu (m B s U H _ I h) ?_);rintro u a ⟨x,O,p,c,g⟩;exact fu (l G B a U O _ p g) <|by rintro r v ⟨xs,d,o,b,f⟩;exact⟨_,d,o,.cons c b,f⟩
def adb(t:TA):TE:=λU H Q=>t U H λxs O=>xs.length<=aU/\∀p,O p=M->Q (.ref p) (dA O p (.tup xs))
def adh(t:TA):TE:=λU H Q=>t U H λxs O=>xs.length<=aU/\∀p,O p=M->Q (.ref p) (dA O p (.lst xs))
def IQ{f}(h:PA X es t):PE X (.Tuple es f G) (adb t):=by
 intro B s U H Q I k;refine wpAny_Tuple_spliced (fu (h G B s U H _ I k) ?_);rintro g a ⟨xs,O,c,r,z,q⟩;refine⟨by rw[<- r.length];exact z,?_⟩;refine⟨.ref _,_,c.laid (λb u e=>ae _ e) (av _) ?_,rfl,q _ (c.fQ.fresh (av _))⟩;exact⟨z,g,r,⟨_,aF _ rfl,⟨rfl,rfl⟩,_,rfl⟩⟩
def D5(h:PA X es t):PE X (.List es G) (adh t):=by
 intro B s U H Q I g;refine wpAny_List_spliced (fu (h G B s U H _ I g) ?_);rintro f a ⟨xs,O,c,r,z,q⟩;refine⟨by rw[<- r.length];exact z,?_⟩;refine⟨.ref _,_,c.laid (λb u e=>ae _ e) (av _) ?_,rfl,q _ (c.fQ.fresh (av _))⟩;exact⟨z,f,0,r,aF _ rfl⟩
end
abbrev Sp:=List V->Hp->VK->XK->Prop
abbrev Y4:=List Env->Hp->ar->XK->aj->ar->Prop
structure N8(P:aZ)(w:cH)(K:aP)(mg:aH->Option aj)(base:cF)(A:jq)(outer:List Env)(s:ar)(H:Hp):Prop where
 frames:A.frames=some outer
 mod:Mod K mg base
 bs:∀b o,base.get? b=some o->s.heap.get? b=some o/\H b=none
 Vd:base.objs.size<=s.heap.objs.size
 yB:s.heap.FunFrames base outer
 Ys:∀b∈Ey outer,H b=none
 fQ:pw P w H s.heap
 bare:H_ s.gens
def CE(a:List Env)(P:aZ)(w:cH)(H:Hp)(s:ar)(Q:VK)(u:aj)(s':ar):Prop:=
 ∃v H',s'.os=s.os/\H_ s'.gens/\Un (Ey a) [] H H' s.heap s'.heap/\pw P w H' s'.heap/\RelV v u/\Q v H'
def CR(CX:Y4)(a:List Env)(P:aZ)(w:cH)(H:Hp)(s:ar)(Q:VK)(E:XK)(r:Zc)(s':ar):Prop:=
 match r with
 |.ok (.ret u)=>CE a P w H s Q u s'|.ok _=>False|.error e=>CX a H s E e s'
structure cy(P:aZ)(w:cH)(K:aP)(mg:aH->Option aj)(base:cF)(CX:Y4)(k:Nat)(f:aw)(fd:de)(ps:List aH)(sp:Sp):Prop where
 len:∀vs H Q E,sp vs H Q E->vs.length=ps.length
 run:∀(A:jq) (outer:List Env) (s:ar) (H:Hp) (args:Args) (us:List aj) (vs:List V) (Q:VK) (E:XK),fT k A->N8 P w K mg base A outer s H->Oj s fd args (ps.zip us)->b8 vs us->sp vs H Q E ->
  pA (bc P w) A (.call (.ref f) args) (CR CX outer P w H s Q E) s
def cy.mono{P:aZ}{K:aP}{i:aH->Option aj}{f:aw}(F:cy P w K i base CX j f I q sp)(h:j<=k):
  cy P w K i base CX k f I q sp:=⟨F.len,λA a s H args c b Q E e=>F.run A a s H _ c b Q E (e.mono h)⟩
def cy.imp{P:aZ}{K:aP}{i:aH->Option aj}{f:aw}(F:cy P w K i base CX k f I q sp)(h:∀vs H Q E,c vs H Q E->sp vs H Q E):cy P w K i base CX k f I q c:=
 ⟨λvs H Q E a=>F.len vs H Q E (h _ _ _ _ a),λA b s H args e vs Q E m o p g l=>F.run A b s H _ e vs Q E m o p g (h _ _ _ _ l)⟩
def N8.make{P:aZ}{K:aP}{s:ar}(e:N8 P w K i base A a s H)(C:aw)(b:List aj)(c:List (aH×aj)):
  N8 P w K i base (A.under (.builtin "type.__call__" ⟨.ref C::b,c⟩)) a s H:=⟨by first|exact e.frames|(simpa [Around.under] using e.frames),e.mod,e.bs,e.Vd,e.yB,e.Ys,e.fQ,e.bare⟩
section
variable {X:Cx}{s:ar}
def Inv.abw(I:Inv X B U H s):N8 X.prog X.w X.K X.mg X.base X.A X.stack s H:=
 ⟨I.ok.frames,I.ok.mod,I.bs,aV I.ok.Vd I.sz,I.stack,I.Kx,I.fQ,I.bare⟩
def Inv.after(I:Inv X B U H s)(h:CE X.stack X.prog X.w H s Q u s'):EP X B U Q u s':=by
 let⟨v,H',k,a,f,e,r,q⟩:=h;let⟨l,g,d,t,c⟩:=s';obtain rfl:c=s.os:=k;exact⟨v,H',I.call f e a λb z=>absurd z ż,r,q⟩
end
def VG(sp:Sp)(Fo:List V)(E:XK)(t:TA):TE:=λU H Q=>t U H λa O=>sp (a++Fo) O Q E
def FF(C:aw)(m:aH)(sp:Sp)(Fo:List V)(E:XK)(N:TE)(t:TA):TE:=λU H Q=>N U H λx O=>∃a dx j,x=.ref a/\O a=Y (.ins C dx j)/\j.lookup m=M /\
 t U O λb d=>sp (x::(b++Fo)) d Q E
def Z5(C:aw)(sp:Sp)(Fo:List V)(E:XK)(t:TA):TE:=λU H Q=>t U H λa O=>∀x dx,O x=M->O dx=M->dx≠x ->
 sp (.ref x::(a++Fo)) (dA (dA O dx (.Z x)) x (.ins C dx [])) (λv d=>v=.dr/\Q (.ref x) d) E
def Binds(K:aP)(I:de)(q:List aH)(ds:List aj):Prop:=
 ∀(s:ar) (a:List aj),K.In s.heap->(a++ds).length=q.length->Oj s I ⟨a,[]⟩ (q.zip (a++ds))
def Binds.all{K:aP}(h:∀a:List aj,a.length=q.length->bindArgs I ⟨a,[]⟩=cQ (q.zip a)):Binds K I q []:=λs a c b=>by
 rw[br]at b ⊢;exact .of_eq (h a b)
def u4(CX:Y4)(X:Cx)(E:XK):Prop:=∀(B:List (aw×Obj)) (U:St) (H:Hp) (s:ar) (e:aj) (s':ar),Inv X B U H s->CX X.stack H s E e s'->X.xe e s'
section
variable {X:Cx}{f:aw}{m:aH}
def IE{s:ar}{us:List aj}{vs:List V}(F:cy X.prog X.w X.K X.mg X.base CX k f I q sp)(l:fT k X.A)(p:Binds X.K I q ds)(o:b8 Fo ds)(g:u4 CX X E)(a:Inv X B U H s)(r:b8 vs us)(h:sp (vs++Fo) H Q E):aX (bc X.prog X.w) X.A (call (.ref f) us) (EP X B U Q) X.xe s:=by
 let c:=r.append o;let m:(us++ds).length=q.length:=by rw[<- c.length];exact F.len _ _ _ _ h
 refine wpAny_call (pz (F.run X.A _ s H _ _ _ Q E l a.abw (p s us a.yj m) c h) λr s' b =>?_);cases r with
 |error e=>solve_by_elim|ok t=>
  cases t with|ret u=>exact a.after b|_=>solve_by_elim
def mO(F:cy X.prog X.w X.K X.mg X.base CX k f I q sp)(o:fT k X.A)(w:Gl X x)(u:X.mg x=Y (.ref f))(v:HI X.K (.ref f)=Z')(D:Binds X.K I q ds)(C:b8 Fo ds)(m:u4 CX X E)(K:PA X (e::es) t)(g:autoParam ((x==("__debug__" : aH))=false) Ū)(A:autoParam (ak (e::es) X.env=(Z_,eval e X.env)::ak es X.env) Ŭ)(c:autoParam ((cP G (ak es X.env)).any (·.1)=false) Ŭ):
  PE X (.Call (.Name x p) (e::es) [] G) (VG sp Fo E t):=by
 intro B s U H Q a h;refine j' (Em a w u ?_ g);refine PySem.W.callWith_K a.ok.mod.V5 v (fu (K G B s U H _ a h) ?_) A c;rintro P R ⟨d,O,l,r,b⟩;exact⟨l.yj,IE F o D C m l r b⟩
def D4{pl:Sem Bool}(he:PE X o N)(c:Mu X.K C)(A:Vm X.K C m f)(F:cy X.prog X.w X.K X.mg X.base CX k f I q sp)(hr:fT k X.A)(hb:Binds X.K I q ds)(hd:b8 Fo ds)(hx:u4 CX X E)(ha:PA X (e::es) t)(p:autoParam (ak (e::es) X.env=(Z_,eval e X.env)::ak es X.env) Ŭ)(v:autoParam ((cP G (ak es X.env)).any (·.1)=false) Ŭ) (ht:autoParam (eval (.Call (.Attribute o m Bu) (e::es) [] G) X.env=(do
   let w <- eval o X.env
   tY Bu.atName
   let(f,first) <- px [w] (qT w m pl)
   Fb G f first (cP G (ak (e::es) X.env)) (jL G (fi [] X.env)))) Ŭ) :
  PE X (.Call (.Attribute o m Bu) (e::es) [] G) (FF C m sp Fo E N t):=by
 intro B s U H Q g h;refine PySem.W.methodCall_KW (fu (he B s U H _ g h) ?_) ht;rintro u R ⟨x,O,K,S,a,dx,j,ex,ea,l,b⟩;subst ex;obtain rfl:u=fm a:=S;refine AN K ea c A l ?_;refine PySem.W.callWith_K g.ok.mod.V5 A.kp (fu (ha G B R U O _ K b) ?_) p v;rintro P s2 ⟨i,d,D,r,T⟩;exact⟨D.yj,IE (vs :=.ref a::i) F hr hb hd hx D (.cons rfl r) T⟩
def F6{pl:Sem Bool}(D:PE X o N)(c:Mu X.K C)(r:Vm X.K C m f)(F:cy X.prog X.w X.K X.mg X.base CX k f I q sp)(A:fT k X.A)(d:Binds X.K I q ds)(K:b8 Fo ds)(v:u4 CX X E) (w:autoParam (eval (.Call (.Attribute o m Bu) [] [] G) X.env=(do
   let p <- eval o X.env
   tY Bu.atName
   let(f,first) <- px [p] (qT p m pl)
   Fb G f first (cP G (ak [] X.env)) (jL G (fi [] X.env)))) Ŭ) :
  PE X (.Call (.Attribute o m Bu) [] [] G) (FF C m sp Fo E N OP):=by
 intro B s U H Q e h;refine PySem.W.methodCall_KW (fu (D B s U H _ e h) ?_) w;rintro u R ⟨x,O,g,t,a,dx,j,ex,P,l,b⟩;subst ex;obtain rfl:u=fm a:=t;exact AN g P c r l (PySem.W.callWith_K0 g.yj r.kp (IE (vs:=[.ref a]) F A d K v g (.cons rfl .nil) b))
structure Mk(K:aP)(C f:aw):Prop where
 makes:makesIn K C=true
 init:wG K (.ref C) "__init__" = some (some (.ref f))
 fn:PySem.W.isFn K (.ref f)=true
 kp:HI K (.ref C)=true
theorem O7{s:ar}{us:List aj}(i:Mk X.K C f)(F:cy X.prog X.w X.K X.mg X.base CX k f I q sp)(w:fT (k+1) X.A)(K:Binds X.K I q ds)(D:b8 Fo ds)(t:u4 CX X E)(a:Inv X B U H s)(r:b8 g us)(h:∀x dx,H x=M->H dx=M->dx≠x->sp (.ref x::(g++Fo)) (dA (dA H dx (.Z x)) x (.ins C dx [])) (λv d=>v=.dr/\Q (.ref x) d) E):
  aX (bc X.prog X.w) X.A (call (.ref C) us) (EP X B U Q) X.xe s:=by
 have m:=h _ _ (a.fQ.fresh (ml _)) (a.fQ.fresh (av _)) Ż;let c:=Inv.made (C:=C) a;have l:b8 (V.ref (s.heap.objs.size+1)::(g++Fo)) _ :=.cons rfl (r.append D);let A:=by let e:=l.length;rw[F.len _ _ _ _ m]at e;exact e.symm
 refine wpAny_call (Qf a.yj i.makes i.init (beq_iff_eq.mp i.fn) (pz (F.run _ _ _ _ _ _ _ _ E (w.make C us [])
  (c.abw.make C us []) (K _ _ c.yj A) l m) λr s' b =>?_))
 cases r with
 |error e=>solve_by_elim|ok P=>
  cases P with
  |ret u=>let⟨v,H',S,o,R,p⟩:=c.after b;subst R;exact⟨o,⟨V.ref _,H',S,rfl,p⟩⟩
  |_=>solve_by_elim
def TC(d:Mk X.K C f)(F:cy X.prog X.w X.K X.mg X.base CX k f I q sp)(o:fT (k+1) X.A)(v:Gl X x)(u:X.mg x=Y (.ref C))(D:Binds X.K I q ds)(A:b8 Fo ds)(m:u4 CX X E)(K:PA X (e::es) t)(g:autoParam ((x==("__debug__" : aH))=false) Ū)(w:autoParam (ak (e::es) X.env=(Z_,eval e X.env)::ak es X.env) Ŭ)(c:autoParam ((cP G (ak es X.env)).any (·.1)=false) Ŭ):
  PE X (.Call (.Name x p) (e::es) [] G) (Z5 C sp Fo E t):=by
 intro B s U H Q a h;refine j' (Em a v u ?_ g);refine PySem.W.callWith_K a.ok.mod.V5 d.kp (fu (K G B s U H _ a h) ?_) w c;rintro R S ⟨P,O,l,r,b⟩;exact⟨l.yj,O7 d F o D A m l r b⟩
end
structure bu(N P:List aH)(sc:Scope):Prop where
 kind:sc.kind=.function
 co:sc.isCoroutine=false
 gen:sc.isGenerator=false
 nd:N.Nodup
 pre:N.take P.length=P
 par:∀x∈P,sc.names.lookup x=some .local\/sc.names.lookup x=some .cell
 XE:∀y∈sc.names,y.2 ≠ .free
theorem Dz:∀ {a:List (aH×aj)}{m:aH->Option aj},(∀v,(x,v)∉a)->bindL b a m x=m x
 |[],_,_=>rfl|(n,v)::r,m,h=>by unfold bindL;rw[Dz λw hw=>h w (aB _ hw)];split<;>grind
theorem DB:∀ {a:List (aH×aj)}{m:aH->Option aj},(∀v,(x,v)∉a)->bindC b a m x=m x
 |[],_,_=>rfl| (n,v)::r,m,h=>by
  unfold bindC;rw[DB λw hw=>h w (aB _ hw)];split
  .rfl
  grind
theorem DA{v:aj}:∀ {P:List aH}{b:List aj}{i:Nat}{m:aH->Option aj},P.Nodup->P[i]?=Y x->b[i]?=Y v->a x=Y .local ->
  bindL a (P.zip b) m x=Y v
 |[],_,_,_,_,h,_,_=>by simp at h
 |_::_,[],_,_,_,_,h,_=>by simp at h
 |p::P,w::b,0,m,c,J,z,e=>by simp at J z;subst J;subst z;show bindL a ((p,w)::P.zip b) m p=_;unfold bindL;rw[Dz λv f=>(cS.mp c).1 (Ko f).1,if_pos e];simp
 |p::P,w::b,i+1,m,c,J,z,e=>by unfold bindL;exact DA (i:=i) Ż Ż Ż e
theorem DC{v:aj}:∀ {P:List aH}{b:List aj}{i:Nat}{m:aH->Option aj},P.Nodup->P[i]?=Y x->b[i]?=Y v->a x≠Y .local ->
  bindC a (P.zip b) m x=Y v
 |[],_,_,_,_,h,_,_=>by simp at h
 |_::_,[],_,_,_,_,h,_=>by simp at h
 |p::P,w::b,0,m,c,J,z,e=>by simp at J z;subst J;subst z;show bindC a ((p,w)::P.zip b) m p=_;unfold bindC;rw[DB λv f=>(cS.mp c).1 (Ko f).1,if_neg e];simp
 |p::P,w::b,i+1,m,c,J,z,e=>by unfold bindC;exact DC (i:=i) Ż Ż Ż e
noncomputable def start(N:List aH)(a:List V):St:=a.map Y++bG (N.length-a.length) M
noncomputable def B2(CX:Y4)(P:aZ)(w:cH)(K:aP)(i:aH->Option aj)(base:cF)(N:List aH)(c:aH)(a:Scope)(f:aw)(h:aj)(A:jq)(b:List Env)(s:ar)(H:Hp)(E:XK):Cx where
 prog:=P
 w:=w
 K:=K
 mg:=i
 base:=base
 A:=A.deeper (wQ c a s.heap.objs.size f h)
 N:=N
 s₀:=s
 H₀:=H
 env:=wQ c a s.heap.objs.size f h
 outer:=b
 stack:=wQ c a s.heap.objs.size f h::b
 ex:=[]
 calm:=Z'
 fn:=λ_=>Z'
 pn:=[]
 xe:=λe s'=>aX (bc P w) (A.deeper (wQ c a s.heap.objs.size f h)) (leaving (wQ c a s.heap.objs.size f h) e) (λ_ g=>CX b H s E e g) (λk g=>CX b H s E k g) s'
def Be{sc:Scope}{n:Nat}(h:sc.names.lookup x=Y .cell):∃c,(fj n sc.names []).lookup x=Y c:=by
 exact Option.isSome_iff_exists.mp (PySem.W.cellsFrom_some _ n [] (.inl h))
def Nq{P:aZ}{K:aP}{f:aw}{X:aj}{s:ar}{F:List V}(S:bu N q o)(hd:A.handled=M)(D:N8 P w K i base A t s H)(hl:F.length=q.length)(r:b8 F us)(x:InCallC s s.heap.objs.size (bindL (wQ C o s.heap.objs.size f X).kindOf (q.zip us) λd=>M) (fj (s.heap.objs.size+1) o.names []) (bindC (wQ C o s.heap.objs.size f X).kindOf (q.zip us) λd=>M) s1):
  Inv (B2 CX P w K i base N C o f X A t s H E) [] (start N F) H s1:=by
 let hpl:q.length<=N.length:=by have:=congrArg List.length S.pre;grind
 let⟨J,tk,rfl,hk⟩:=x.done;have a:∀b,b∉(B2 CX P w K i base N C o f X A t s H E).ex:=λb m=>absurd (show b∈[] from m) ż
 refine⟨⟨D.mod,S.kind,rfl,rfl,av _,λy m c J z =>?_,λy Q =>?_,λy c d h =>?_,λd=>hd,Around.frames_deeper D.frames,.inr ⟨rfl,rfl⟩,λb m=>absurd m (a b),D.bs,D.Vd,λb d d=>a b,λb m=>absurd m (a b),D.yB,D.Ys⟩,
  rfl,D.bare,Un.kept hk,⟨_,x.toInCall.ns,λg y v J z h3 =>?_⟩,λy c h=>⟨_,x.cell y c h⟩,D.fQ.fresh (av _),λy c h =>?_,λp T=>absurd (show p∈[] from T) ż,D.fQ.kept hk,?_⟩
 .exact name_of_addr x.apart (PySem.mem_of_lookup J) (PySem.mem_of_lookup z)
 .rcases Q with Q|Q
  .exact Be Q
  .exact absurd rfl (S.XE _ (PySem.mem_of_lookup Q))
 .exact cx (x.above y c (PySem.mem_of_lookup h))
 .have L:g<F.length:=by
   unfold start at z;by_cases L:g<F.length
   .exact L
   .rw[Og (by simp_all)]at z;rw[SD]at z;split at z<;>cases z
  let ha:F[g]?=Y v:=by simp_all [start,hV,aT]
  let⟨u,hu,rv⟩:=r.get ha;have T:q[g]?=Y y:=by rw[<- S.pre,List.getElem?_take_of_lt (by lia)];exact J
  have R:q.Nodup:=by rw[<- S.pre];exact S.nd.sublist (List.take_sublist _ _)
  refine⟨u,rv,?_⟩;rcases S.par y (pB T) with k|k
  .exact .inl ⟨k,DA R T hu k⟩
  .let⟨c,e⟩:=Be k;refine .inr ⟨.inl k,c,e,?_⟩;let l:=x.cell y c e;rw[DC R T hu (by show o.names.lookup y≠_;simp_all)]at l;exact l
 .exact D.fQ.fresh (cx (x.above y c (PySem.mem_of_lookup h)))
 .unfold start;show _=N.length
  simp_all
theorem abo{P:aZ}{K:aP}{f:aw}{name:aH}{m:Arguments}{kV ct oc:aj}(lk:K.lookup f=Y ⟨oc,od,.func (fnOf name h m p c dV kV Ww pm an l ct),osl⟩)(hcd:codeIn K l h=Z')(S:bu N q c)(T:∀D H Q E,sp D H Q E->D.length=q.length) (d:∀(A:jq) (g:List Env) (s:ar) (H:Hp) (D:List V) (Q:VK) (E:XK),fT k (A.deeper (wQ h c s.heap.objs.size f l))->sp D H Q E ->
   ∃t,rN (B2 CX P w K i base N h c f l A g s H E) p t/\t { nx:=λ_ H'=>Q .dr H',rt:=Q } (start N D) H) :
  cy P w K i base CX (k+1) f (fnOf name h m p c dV kV Ww pm an l ct) q sp:=by
 refine⟨T,λA g s H args us D Q E hr e0 hb r X =>?_⟩;let hl:=T _ _ _ _ X;have KX:=e0.mod.V5.keeps λb o e=>(e0.bs b o e).1
 let lim:=e0.mod.nolimit.keeps λb o e=>(e0.bs b o e).1
 let F:∀y∈q.zip us,c.names.lookup y.1=Y _\/c.names.lookup y.1=Y .cell/\((fj (s.heap.objs.size+1) c.names []).lookup y.1).isSome=true:=λ⟨n,v⟩ hy=>by
  rcases S.par n (Ko hy).1 with a|a
  .exact .inl a
  simp_all [PySem.W.cellsFrom_some]
 refine codeAny_call_function hr.depth (KX _ _ lk) rfl S.co S.gen rfl (PySem.W.codeRec_of KX hcd) (hb _ _ _ _ ?_);refine wpAny_newFunctionEnv_cells S.kind F λenv he s1 x =>?_
 subst he;refine⟨lim.keeps x.toInCall.keep,codeAny_func ?_⟩;let⟨t,ht,hq⟩:=d A g s H D Q E (hr.deeper _) X;refine gJ (ht [] s1 (start N D) H _ (Nq S hr.hd e0 hl r x) hq) (λfl s' R =>?_) λe s' R=>R
 have lQ:∀ {C:St}{H':Hp}{v:V}{u:aj},Inv (B2 CX P w K i base N h c f l A g s H E) [] C H' s'->RelV v u->Q v H'->CE g P w H s Q u s':=
  fun {C H' v u} J rv a=>⟨v,H',J.os,J.bare,J.base,J.fQ,rv,a⟩
 cases fl with
 |ret u=>
  let⟨v,C,H',J,rv,a⟩:=R
  exact Ÿ
 |next=>let⟨C,H',J,a⟩:=R;exact lQ (v:=V.dr) (u:=qU) J rfl a
 |_=>let⟨_,_,_,a⟩:=R;exact False.elim a
section
variable {X:Cx}{id:String}
def tCB(r:List V->Hp->VK->Prop)(t:TA):TE:=λU H Q=>t U H λa O=>r a O Q
def vG(A:lh X (.builtin id) r)(v:Gl X x)(u:X.mg x=M)(m:d9 x=Y (.builtin id))(C:PA X (e::es) t)(o:autoParam (x ≠ "__name__") Ū)(b:autoParam ((x==("__debug__" : aH))=false) Ū)(w:autoParam (ak (e::es) X.env=(Z_,eval e X.env)::ak es X.env) Ŭ)(a:autoParam ((cP G (ak es X.env)).any (·.1)=false) Ŭ):PE X (.Call (.Name x p) (e::es) [] G) (tCB r t):=by
 exact λB s U H Q I h=>j' (qz I v u m (HJ (fu (C G B s U H _ I h) (by rintro f g ⟨c,O,D,k,l⟩;exact Ÿ)) w a) o b)
def CH(A:lh X (.type T) r)(v:Gl X x)(u:X.mg x=M)(m:d9 x=Y (.type T))(C:PA X (e::es) t)(o:autoParam (x ≠ "__name__") Ū)(b:autoParam ((x==("__debug__" : aH))=false) Ū)(w:autoParam (ak (e::es) X.env=(Z_,eval e X.env)::ak es X.env) Ŭ)(a:autoParam ((cP G (ak es X.env)).any (·.1)=false) Ŭ):PE X (.Call (.Name x p) (e::es) [] G) (tCB r t):=by
 exact λB s U H Q I h=>j' (qz I v u m (eQ (fu (C G B s U H _ I h) (by rintro f g ⟨c,O,D,k,l⟩;exact Ÿ)) w a) o b)
end
end L2
namespace HT
open PySem PyProof.Rows
section
open PySem.SeqAt
open PySem.AutoSeq1 (wpAny_loadPart')
open PySem.MeetsSeq PySem.MeetsSeq2 PySem.MeetsSeq3
end
section
variable {s:ar}
def Vb{f:List aj}(K:IsTup s.heap t f.toArray)(d:IsTup s.heap b a.toArray)(v:f≠[])(J:a=[]->Q (.ref t) s)(z:a≠[]->Q (.ref s.heap.objs.size) { s with heap:=s.heap.push { cls :=.type "tuple",data :=.seq (f++a).toArray } })(o:f.length+a.length<=aU):aX (bc prog w) A (dt .Add (.ref t) (.ref b)) Q E s:=by
 obtain⟨⟨P,D,F,r⟩,m,C,n,x⟩:=id K;obtain⟨⟨H,l,p,g⟩,c,k,u,h⟩:=id d;subst C x k h;let e:f.toArray++a.toArray=(f++a).toArray:=by simp
 by_cases hw:a=[]
 .exact concat_meets ⟨_,m,rfl⟩ ⟨_,c,rfl⟩ Sj seq_tuple_add PySem.F.slot_tuple_add PySem.F.entry_tuple_add (PySem.F.args_tuple_add_2 _ _)
   (tuple_addW1 t b _ _ n u D l r g Ż (by simp[hw])) ⟨m,c,J hw⟩
 .refine concat_meets ⟨_,m,rfl⟩ ⟨_,c,rfl⟩ Sj seq_tuple_add PySem.F.slot_tuple_add PySem.F.entry_tuple_add (PySem.F.args_tuple_add_2 _ _)
   (tuple_addW2 t b _ _ n u D l r g Ż Ż Ż) ⟨m,c,?_⟩
  rw[e];exact z hw
noncomputable def lI(n d:Nat):Option Int->Nat
 |none=>d|some v=>if v<0 then (v+(n:Int)).toNat else min v.toNat n
def FV(n d:Nat):lI n d M=d:=rfl
theorem Td(n d k:Nat):lI n d (Y (k:Int))=min k n:=by
 show (if (k:Int)<0 then ((k:Int)+(n:Int)).toNat else min (k:Int).toNat n)=min k n;rw[if_neg (by lia),cI]
def W5(n d:Nat)(b:d<=n)(o:Option Int):lI n d o<=n:=by
 cases o with
 |none=>exact b|some v=>
  show (if v<0 then (v+(n:Int)).toNat else min v.toNat n)<=n;by_cases a:v<0
  .rw[if_pos a];lia
  .rw[if_neg a];exact Nat.min_le_right _ _
def L9(v:Int)(n d:Nat):(if v<0 then max (v+(n:Int)) 0 else min v (n:Int))=((lI n d (Y v):Nat):Int):=by
 show (if v<0 then max (v+(n:Int)) 0 else min v (n:Int))=(((if v<0 then (v+(n:Int)).toNat else min v.toNat n):Nat):Int);by_cases a:v<0
 .simp only[if_pos a];lia
 .simp only[if_neg a];lia
def Kf(n L:Option Int)(a:Nat):wK n L 1 (a:Int)=(((lI a 0 n:Nat):Int),((lI a a L:Nat):Int)):=by
 let J:¬((1:Int)<0):=by lia
 unfold wK;simp only[J,if_false];refine Prod.ext ?_ ?_
 .cases n with|none=>rfl|some v=>exact L9 v a 0
 .cases L with|none=>rfl|some v=>exact L9 v a a
def IM(i j:Nat):mm (i:Int) (j:Int) 1=j-i:=by
 unfold mm;let J:(1:Int) > 0:=by lia
 simp only[J,if_true,Int.ediv_one];split<;>lia
def zP{v:aj}(p:Sm v o)(h:Q o s):aX (bc prog w) A (Builtin.Slice.slicePartIndex v) Q E s:=by
 cases p with|none=>exact slicePart_none h|int i t=>exact slicePart_int h
def xj{sl:aw}{vl vu:aj}{n L:Option Int}{a:Nat}{Q:Int×Int×Nat->ar->Prop}(hs:s.heap.IsSliceOf sl vl vu .none)(pl:Sm vl n)(pu:Sm vu L)
  (h:Q (((lI a 0 n:Nat):Int),1,lI a a L-lI a 0 n) s):aX (bc prog w) A (Zj (.ref sl) (cQ (a:Int))) Q E s:=by
 let⟨os,hos,hcs,hds⟩:=id hs;unfold Zj Builtin.Slice.sliceFields;refine af (af (rJ hos hds (x:=vl) rfl (af (rJ hos hds (x:=vu) rfl (af (rJ hos hds (x :=.none) rfl (ax ?_)))))));refine af (slicePart_none ?_);show aX _ _ (if ((1:Int)==0)=Z' then _ else _) _ _ s;rw[if_neg (by decide)];refine af (zP pl (af (zP pu (af (ax ?_)))));show aX _ _ (match wK n L 1 (a:Int) with|(n,L)=>cQ (n,(1:Int),mm n L 1)) _ _ s;rw[Kf n L a];show aX _ _ (cQ (((lI a 0 n:Nat):Int),(1:Int),mm ((lI a 0 n:Nat):Int) ((lI a a L:Nat):Int) 1)) _ _ s;rw[IM];exact ax h
def Pk(xs:Array aj)(i k:Nat):((cm k).filterMap λ(m:Nat)=>xs[((i:Int)+(m:Int)*1).toNat]?).toArray=((xs.toList.drop i).take k).toArray:=by
 let e:(λ(m:Nat)=>xs[((i:Int)+(m:Int)*1).toNat]?)=λm=>xs[i+m]? :=by
  funext m
  have:((i:Int)+(m:Int)*1).toNat=i+m:=by lia
  rw[this]
 rw[e];have:=pick_run xs i k;rw[List.filterMap_map]at this;let a:((λx=>xs[x]?) ∘ λx=>i+x)=λm=>xs[i+m]? :=rfl
 rw[a]at this;rw[this]
def v7(ht:IsTup s.heap t eM)(hs:s.heap.IsSliceOf sl vl vu .none)(pl:Sm vl n)(pu:Sm vu L)(hw:¬(lI eM.size 0 n=0/\lI eM.size eM.size L=eM.size))(h:Q (.ref s.heap.objs.size) { s with heap:=s.heap.push { cls :=.type "tuple",data :=.seq ((eM.toList.drop (lI eM.size 0 n)).take (lI eM.size eM.size L-lI eM.size 0 n)).toArray } })(hsz:eM.size<=aU):aX (bc prog w) A (Bw (.ref t) (.ref sl)) Q E s:=by
 let Lw:sizeOk (.seq ((eM.toList.drop (lI eM.size 0 n)).take (lI eM.size eM.size L-lI eM.size 0 n)).toArray):=by
  show ((eM.toList.drop (lI eM.size 0 n)).take (lI eM.size eM.size L-lI eM.size 0 n)).toArray.size<=aU;rw[bT,oq,ou,bW]
  lia
 let hj:lI eM.size eM.size L<=eM.size:=W5 _ _ (av _) L;let⟨os,hos,hcs,hds⟩:=id hs;let hTs:s.TypeIs (.ref sl) "slice" :=⟨os,hos,hcs⟩;unfold Bw
 try with_reducible refine jn ?_
 first|refine af (ax ?_)|skip
 refine af (wpAny_sequenceKey ht.typeIs ſ ?_);refine af (nY (name:=ab "__getitem__") ht.typeIs Fs
  (hU Fs ht.typeIs entry_tuple_getitem ?_ (args_tuple_getitem _ _)))
 show aX _ _ (Builtin.Tuple.tupleItemsOf (.ref t) >>= _) _ _ s;refine af (tupleItemsOf_ ht ?_);refine af (wpAny_typeOf hTs ?_);rw[if_pos (by decide)];refine af (xj hs pl pu ?_);let hno:¬((((lI eM.size 0 n:Nat):Int)==0&&(1:Int)==1&&(lI eM.size eM.size L-lI eM.size 0 n)==eM.size)=Z'):=by intro q;rw[aK,aK]at q;let q1:((lI eM.size 0 n:Nat):Int)=0:=eq_of_beq q.1.1;let q2:lI eM.size eM.size L-lI eM.size 0 n=eM.size:=eq_of_beq q.2;exact hw ⟨Ž,Ž⟩
 show aX _ _ (if (((lI eM.size 0 n:Nat):Int)==0&&(1:Int)==1&&(lI eM.size eM.size L-lI eM.size 0 n)==eM.size)=Z' then _ else _) _ _ s;rw[if_neg hno,Pk]
 first
  |exact af (m:=m3 _) (fK (ax ⟨_,rfl,ax h⟩) Lw)
  |exact af (m:=m3 _) (fK (af (ax (ax ⟨_,rfl,ax h⟩))) Lw)
  |exact af (af (m:=m3 _) (fK (ax (ax ⟨_,rfl,ax h⟩)) Lw))
  |exact af (af (m:=m3 _) (fK (ax ⟨_,rfl,ax h⟩) Lw))
end
end HT
namespace L2
open PySem PySem.Spec PyProof.Rows
abbrev TO:=St->Hp->(Option Int->Hp->Prop)->Prop
def PO(X:Cx)(e:Option Expr)(t:TO):Prop:=
 ∀(B:List (aw×Obj)) (s:ar) (U:St) (H:Hp) (Q:Option Int->Hp->Prop),Inv X B U H s->t U H Q ->
  aX (bc X.prog X.w) X.A (evalPart e X.env) (λu s'=>∃o H',Inv X B U H' s'/\Sm u o/\Q o H') X.xe s
def SV:TO:=λ_ H Q=>Q M H
def Z2(t:TE):TO:=λU H Q=>t U H λx O=>∃i,x=.int i/\Q (Y i) O
section
variable {X:Cx}
def Tv:PO X M SV:=by
 exact λB s U H Q I h=>ax ⟨_,H,I,.none,h⟩
def Tu(h:PE X e te):PO X (Y e) (Z2 te):=by
 intro B s U H Q I hw;refine fu (h B s U H _ I hw) ?_;rintro u f ⟨x,O,c,a,b⟩;let⟨i,rfl,q⟩:=b;let⟨t,rfl⟩:=a;exact⟨_,O,c,.int i t,q⟩
def SlR(X:Cx)(r:V->Option Int->Option Int->Hp->VK->Prop):Prop:=
 ∀(B:List (aw×Obj)) (s:ar) (U:St) (H:Hp) (x:V) (v b a:aj) (n L:Option Int) (c:aw) (Q:VK),Inv X B U H s->RelV x v->s.heap.IsSliceOf c b a .none->Sm b n->Sm a L->r x n L H Q ->
  ∃T id,typeLookup (.type T) "__getitem__" = cQ (Y (.builtin id))/\s.TypeIs v T/\aX (bc X.prog X.w) X.A (Bw v (.ref c)) (EP X B U Q) X.xe s
def tSl(r:V->Option Int->Option Int->Hp->VK->Prop)(te:TE)(tl th:TO):TE:=λU H Q=>te U H λx O=>tl U O λl d=>th U d λu a=>r x l u a Q
def Ae(F:SlR X r)(P:PE X e te)(K:PO X n tl)(D:PO X L th):PE X (.Subscript e (.Slice n L M p2) G) (tSl r te tl th):=by
 intro B s U H Q I h;refine Subscript_ (fu (P B s U H _ I h) ?_);rintro v m ⟨x,O,I1,o,w⟩;refine wpAny_Slice (fu (K B m U O _ I1 w) ?_);rintro f k ⟨l,d,I2,C,t⟩;refine fu (D B k U d _ I2 t) ?_;rintro c a ⟨u,g,I3,A,p⟩;refine ax ?_;let S:Inv X B U g { a with heap:=a.heap.push { cls :=.type "slice",data :=.fields #[f,c,.none] } }:=I3.kept λb ob q=>ae _ q
 let⟨T,id,R,E,i⟩:=F B _ U g x v f c l u a.heap.objs.size Q S o (Heap.IsSliceOf.new ..) C A p;exact tail_any E R i Ÿ
def Hm(xs:List V)(n L:Option Int):List V:=(xs.drop (HT.lI xs.length 0 n)).take (HT.lI xs.length xs.length L-HT.lI xs.length 0 n)
def yp(xs:List V)(n L:Option Int):(Hm xs n L).length<=xs.length:=by
 unfold Hm;rw[oq,ou]
 lia
def adw(K:aP):V->Option Int->Option Int->Hp->VK->Prop:=λx n L H Q=>∃a xs,x=.ref a/\wN K H a xs /\
 ¬(HT.lI xs.length 0 n=0/\HT.lI xs.length xs.length L=xs.length)/\∀p,H p=M->Q (.ref p) (dA H p (.tup (Hm xs n L)))
def WW:SlR X (adw X.K):=by
 intro B s U H x v u t n L w Q I k p m l h;let⟨a,xs,rfl,o,hw,q⟩:=h;cases k;let⟨e,r,g,f⟩:=I.tuple o;let c:e.toArray.size=xs.length:=r.length.symm;refine⟨_,_,PyProof.Rows.slot_tuple_getitem.lookup,g.typeIs,?_⟩;refine HT.v7 g p m l (by rw[c];exact hw) ?_ Ż;rw[c];refine⟨.ref _,_,I.laid (λb A q=>ae _ q) (av _) ?_,rfl,q _ (I.fQ.fresh (av _))⟩;exact⟨aV (yp xs n L) f,_,(r.drop _).take _,Kj.new _ _⟩
def aaq(K:aP):R2:=λx y H Q=>∃a b xs ys,x=.ref a/\y=.ref b/\wN K H a xs/\wN K H b ys/\xs≠[]/\xs.length+ys.length<=aU /\
 (ys=[]->Q (.ref a) H)/\(ys≠[]->∀p,H p=M->Q (.ref p) (dA H p (.tup (xs++ys))))
def b8.Ee(r:b8 xs a):a=[]↔xs=[]:=by
 cases r<;>simp_all
def TU:mj X (dt .Add) (aaq X.K):=by
 intro B s U H x y v u Q I l k h;let⟨a,b,xs,ys,rfl,rfl,C,A,t,g,o,m⟩:=h;cases l;cases k;let⟨r,e,p,_⟩:=I.tuple C;let⟨f,c,p2,_⟩:=I.tuple A;refine HT.Vb p p2 (λz=>t (e.Ee.mp z)) (λz=>⟨.ref a,H,I,rfl,o (c.Ee.mp z)⟩) (λz =>?_) (by rw[<- e.length,<- c.length];exact g);refine⟨.ref _,_,I.laid (λb D q=>ae _ q) (av _) ?_,rfl,m (λw=>z (c.Ee.mpr w)) _ (I.fQ.fresh (av _))⟩;exact⟨Ż,_,e.append c,Kj.new _ _⟩
end
noncomputable def Ou(n:Nat)(i:Int):Option Nat:=if 0<=i then (if i<n then Y i.toNat else M) else if -(n:Int)<=i then Y (i+n).toNat else M
def vk{a:Type}(xs:List a)(i:Int):Option a:=(Ou xs.length i).bind λj=>xs[j]?
def Lm{n:Nat}(h:Ou n i=Y j):seqIndex? i n=Y j/\j<n /\ -(n:Int)<=i/\i<n:=by
 unfold Ou at h;by_cases a:0<=i
 .rw[if_pos a]at h;by_cases J:i<n
  .rw[if_pos J]at h
   grind [cE,seqIndex_of]
  simp_all
 .rw[if_neg a]at h;by_cases J : -n<=i
  .rw[if_pos J]at h
   grind [cE,seqIndex_neg]
  simp_all
def EU{v:a}(h:vk xs i=Y v):∃j,seqIndex? i xs.length=Y j/\xs[j]?=Y v/\j<xs.length /\ -(xs.length:Int)<=i/\i<xs.length:=by
 let⟨j,e,h⟩:=aa.1 h;let⟨J,z,c,b⟩:=Lm e;exact⟨j,J,h,z,c,b⟩
theorem d6{xs:List a}{j:Nat}{v:a}(h:xs[j]?=Y v):vk xs (j:Int)=Y v:=by
 have b:=(au.mp h).1
 simp_all [Ou,if_pos,vk]
def Hw(xs:List a)(v:a):vk (xs++[v]) (-1)=Y v:=by
 let b:(xs++[v]).length=xs.length+1:=by simp
 let e:Ou (xs++[v]).length (-1)=Y xs.length:=by
  unfold Ou;rw[b,if_neg (by decide),if_pos (by lia)]
  congr 1
  lia
 unfold vk;rw[e];show (xs++[v])[xs.length]?=Y v;simp
def Mo(b:Expr):Prop:=∀o i,SA b Z_ o i=operate [o,i] (Bw o i)
def Mt(X:Cx)(r:R2):Prop:=
 ∀(uu a:Expr) (B:List (aw×Obj)) (s:ar) (U:St) (H:Hp) (x y:V) (v u:aj) (Q:VK),Inv X B U H s->RelV x v->RelV y u->r x y H Q ->
  SA a Z_ v u=operate [v,u] (Bw v u)->aX (bc X.prog X.w) X.A (subscriptTail uu a v u) (EP X B U Q) X.xe s
def MtR(X:Cx)(id:String)(r:V->List V->Hp->VK->Prop):Prop:=
 ∀(B:List (aw×Obj)) (s:ar) (U:St) (H:Hp) (x:V) (xs:List V) (v:aj) (a:List aj) (Q:VK),Inv X B U H s->RelV x v->b8 xs a->r x xs H Q ->
  aX (bc X.prog X.w) X.A (call (.builtin id) (v::a)) (EP X B U Q) X.xe s
section
variable {X:Cx}
def Mt.or(h:Mt X r)(h':Mt X e):Mt X (λx y H Q=>r x y H Q\/e x y H Q):=by
 intro uu a B s U H x y v u Q I c b q f;rcases q with q|q
 .exact h _ a B s U H x y v u Q I c b q f
 .exact h' _ a B s U H x y v u Q I c b q f
def ye(l:Mt X r)(o:PE X a N)(m:PE X b y)(k:Mo b):PE X (.Subscript a b G) (VD r N y):=by
 exact λB s U H Q I h=>Subscript_ (YW o m I h λv u e x c d p g f q=>l a b B e U d x c v u Q p g f q (k _ _))
def aap(K:aP):R2:=λx y H Q=>∃p xs i v,x=.ref p/\y=.int i/\mh K H p xs/\vk xs i=Y v/\Q v H
def aan(K:aP):R2:=λx y H Q=>∃p xs i v,x=.ref p/\y=.int i/\wN K H p xs/\vk xs i=Y v/\Q v H
def aao:R2:=λx y H Q=>∃z i c,x=.str z/\y=.int i/\z.length<=aU/\vk z.cps.toList i=Y c/\Q (.str ⟨#[c]⟩) H
def y0:Mt X (aap X.K):=by
 intro uu b B s U H x y v u Q I A o h k;let⟨p,xs,i,a,rfl,rfl,C,E,q⟩:=h;cases A;let⟨t,rfl⟩:=o;let⟨f,r,e,d⟩:=I.list C;let⟨j,J,z,R,K,F⟩:=EU E;let⟨w,m,c⟩:=r.get z;let D:=r.length;let P:=uP;let lQ:EP X B U Q w s:=⟨a,H,I,c,q⟩;by_cases l:0<=i
 .let g:=by rw[seqIndex_of l F]at J;exact cE J
  exact item_listR e.isList l Ž Ż lQ k
 .let g:(i+(f.toArray.size:Int)).toNat=j:=by rw[seqIndex_neg (by lia) K]at J;rw[bT,<- D];exact cE J
  exact subscriptTail_builtinR e.isList.typeIs slot_list_getitem.lookup
   (wpAny_getItem_list_neg e.isList Ž Ż Ž Ż ⟨rfl,lQ⟩) k
def AF:Mt X (aan X.K):=by
 intro uu b B s U H x y v u Q I g f h l;let⟨p,xs,i,a,rfl,rfl,m,A,q⟩:=h;cases g;let⟨t,rfl⟩:=f;let⟨k,r,e,D⟩:=I.tuple m;let⟨j,J,z,_⟩:=EU A;let⟨w,C,c⟩:=r.get z;let o:=r.length;let E:=uP;exact subscriptTail_builtinR e.typeIs slot_tuple_getitem.lookup
  (getItem_tuple (j:=j) e Ž Ž Ż Ż ⟨rfl,(⟨a,H,I,c,q⟩)⟩) l
def X6:Mt X aao:=by
 intro uu b B s U H x y v u Q I f e h g;let⟨a,i,c,rfl,rfl,A,l,q⟩:=h;let⟨t,rfl⟩:=f;let⟨w,rfl⟩:=e;let⟨j,J,z,D,o,m⟩:=EU l;let k:a.cps.toList.length=a.length:=by simp[Str.length]
 let C:=uP;exact tail_any (Y9 s a t) slot_str_getitem.lookup (getItem_str ŷ Ż ⟨.str _,H,I.tok _,⟨_,rfl⟩,q⟩) g
def rIx(K:aP):R2:=λx y H Q=>aap K x y H Q\/aan K x y H Q\/aao x y H Q
def X7:Mt X (rIx X.K):=y0.or (AF.or X6)
def Jp(a:List aj)(n j:Nat)(u:aj):nW (·.setIfInBounds j u) { cls :=.type "list",data :=.seq a.toArray n }={ cls :=.type "list",data :=.seq (a.set j u).toArray n }:=by
 simp[nW]
def Inv.lst{s:ar}{p:aw}{xs:List V}(I:Inv X B U H s)(h:H p=Y (.lst xs)):
  ∃(a:List aj) (n:Nat),b8 xs a/\s.heap.get? p=Y { cls :=.type "list",data :=.seq a.toArray n }/\xs.length<=aU:=by
 let⟨z,a,n,r,e⟩:=I.fQ p _ h;exact⟨a,n,r,e,z⟩
def Inv.XR{B:List (aw×Obj)}{U:St}{H:Hp}{s:ar}{p:aw}{xs ys:List V}{c a:List aj}{n g:Nat}{f:Obj->Obj}(I:Inv X B U H s)(h:H p=Y (.lst xs))(m:s.heap.get? p=Y { cls :=.type "list",data :=.seq c.toArray n })(k:f { cls :=.type "list",data :=.seq c.toArray n }={ cls :=.type "list",data :=.seq a.toArray g })(r:b8 ys a)(l:ys.length<=aU)(t:Nat):
  Inv X B U (dA H p (.lst ys)) { s with heap:=s.heap.update p f,toks:=t }:=by
 have e:(s.heap.update p f).get? p=Y { cls :=.type "list",data :=.seq a.toArray g }:=by rw[f_ f m (by rw[k]<;>rfl),k]
 refine I.write (by rw[h];trivial) (.inl rfl) (λb u o q=>(d_ _ _ (bE o)).trans q) ⟨_,e⟩ ?_;exact⟨l,a,g,r,e⟩
def VL:V->V->V->Hp->(Hp->Prop)->Prop:=λo i v H Q=>∃p xs k j,o=.ref p/\i=.int k/\H p=Y (.lst xs)/\Ou xs.length k=Y j/\Q (dA H p (.lst (xs.set j v)))
def R_:abQ X VL:=by
 rintro B s U H o i v F K u Q I A C x ⟨p,xs,k,j,rfl,rfl,f,E,q⟩;cases A;let⟨t,rfl⟩:=C;let⟨a,n,r,b,D⟩:=I.lst f;let⟨J,z,l,g⟩:=Lm E;let c:=r.length;let d:=uP;have w:=
  I.XR f b (Jp a n j u) (r.set x j) Ż s.toks
 by_cases m:0<=k
 .grind [seqIndex_of,cE,PySem.W.ki_setAt,bT]
 grind [seqIndex_neg,bT,cE,PySem.W.ki_setBack]
def DY(n L:Option Int)(a:Nat):(E_ n L M a).1=((HT.lI a 0 n:Nat):Int)/\(E_ n L M a).2.1=((HT.lI a a L:Nat):Int)/\(E_ n L M a).2.2=1:=by
 refine⟨?_,?_,rfl⟩
 .cases n with
  |none=>solve_by_elim|some i=>
   simp only[E_,HT.lI,HL,show (1:Int) > 0 by decide,if_true];by_cases h:i<0
   .simp only[h,if_true]<;>lia
   .simp only[h,if_false]<;>lia
 .cases L with
  |none=>solve_by_elim|some i=>
   simp only[E_,HT.lI,HL,show (1:Int) > 0 by decide,if_true];by_cases h:i<0
   .simp only[h,if_true]<;>lia
   .simp only[h,if_false]<;>lia
def BM(a:List aj)(n L:Option Int):slicePick a.toArray n L M=((a.drop (HT.lI a.length 0 n)).take (HT.lI a.length a.length L-HT.lI a.length 0 n)).toArray:=by
 let⟨J,z,b⟩:=DY n L _;unfold slicePick;rw[J,z,b];simp only[sliceRange_one,pick_run,bT]<;>rfl
def adx(K:aP):V->Option Int->Option Int->Hp->VK->Prop:=λx n L H Q=>∃a xs,x=.ref a/\mh K H a xs/\∀p,H p=M->Q (.ref p) (dA H p (.lst (Hm xs n L)))
def S5:SlR X (adx X.K):=by
 rintro B s U H x v u t n L w Q I f p k g ⟨a,xs,rfl,o,q⟩;cases f;let⟨l,r,e,m⟩:=I.list o;let c:=r.length;refine⟨_,_,slot_list_getitem.lookup,e.isList.typeIs,?_⟩;refine wpAny_getItem_list_slice e.isList p k g .none ż ?_ Ż;rw[BM,<- c];refine⟨.ref _,_,I.laid (λb A q=>ae _ q) (av _) ?_,rfl,q _ (I.fQ.fresh (av _))⟩;exact⟨aV (yp xs n L) m,_,0,(r.drop _).take _,aF _ rfl⟩
noncomputable def q_:V->Bool
 |.dr=>Z'|.bl _=>Z'|.int _=>Z'|.str _=>Z'|_=>Z_
noncomputable def UN:V->V->Bool
 |.dr,.dr=>Z'|.bl a,.bl b=>a==b|.bl a,.int b=>(if a then 1 else 0)==b
 |.int a,.bl b=>a==(if b then 1 else 0)
 |.int a,.int b=>a==b|.str a,.str b=>a==b|_,_=>Z_
def Yz{A:jq}{s:ar}{y x:V}{u v:aj}(f:RelV y u)(c:RelV x v)(h:q_ y=Z')(g:q_ x=Z'):SeqAt.EqAt A s u v (UN y x):=by
 cases y with
 |dr=>
  cases f;cases x with
  |dr=>cases c;exact SeqAt.EqAt.same _|bl b=>cases c;exact SeqAt.EqAt.none_bool b|int b=>let⟨t,rfl⟩:=c;exact SeqAt.EqAt.none_int b t
  |str b=>let⟨t,rfl⟩:=c;exact SeqAt.EqAt.none_str b t
  |_=>exact absurd (g) bU
 |bl a=>
  cases f;cases x with
  |dr=>cases c;exact SeqAt.EqAt.bool_none a|bl b=>cases c;exact SeqAt.EqAt.bool_bool a b|int b=>let⟨t,rfl⟩:=c;exact SeqAt.EqAt.bool_int a b t
  |str b=>let⟨t,rfl⟩:=c;exact SeqAt.EqAt.bool_str a b t
  |_=>exact absurd (g) bU
 |int a=>
  let⟨e,rfl⟩:=f;cases x with
  |dr=>cases c;exact SeqAt.EqAt.int_none a e|bl b=>cases c;exact SeqAt.EqAt.int_bool a e b|int b=>let⟨t,rfl⟩:=c;exact SeqAt.EqAt.int_int a e b t
  |str b=>let⟨t,rfl⟩:=c;exact SeqAt.EqAt.int_str a e b t
  |_=>exact absurd (g) bU
 |str a=>
  let⟨e,rfl⟩:=f;cases x with
  |dr=>cases c;exact SeqAt.EqAt.str_none a e|bl b=>cases c;exact SeqAt.EqAt.str_bool a e b|int b=>let⟨t,rfl⟩:=c;exact SeqAt.EqAt.str_int a e b t
  |str b=>let⟨t,rfl⟩:=c;exact SeqAt.EqAt.str_str a e b t
  |_=>exact absurd (g) bU
 |_=>exact absurd (h) bU
def Rl(x:V)(u:aj):Bool:=match u with
 |.none=>UN .dr x|.bool b=>UN (.bl b) x|.int i _=>UN (.int i) x|.str z _=>UN (.str z) x|_=>Z_
def Rk{x y:V}{u:aj}(r:RelV y u)(f:q_ y=Z'):Rl x u=UN y x:=by
 cases y with
 |dr=>cases r;rfl|bl b=>cases r;rfl|int i=>let⟨t,rfl⟩:=r;rfl
 |str z=>let⟨t,rfl⟩:=r;rfl
 |_=>exact absurd f bU
def zp{x:V}{xs:List V}{a:List aj}(h:b8 xs a)(f:xs.all q_=Z'):a.any (Rl x)=xs.any λy=>UN y x:=by
 induction h with|nil=>rfl|cons r _ ih=>rw[oY,aK]at f;rw[BI,BI,Rk r f.1,ih f.2]
def vR{A:jq}{s:ar}{x:V}{v:aj}(c:RelV x v)(e:q_ x=Z'){xs:List V}{b:List aj}(h:b8 xs b)(f:xs.all q_=Z'):∀u∈b,SeqAt.EqAt A s u v (Rl x u):=by
 induction h with
 |nil=>simp_all|cons r _ ih=>
  rw[oY,aK]at f;intro g a;rcases aq.mp a with rfl|a
  .rw[Rk r f.1];exact Yz r c f.1 e
  simp_all
def V8(x:V)(xs:List V):Bool:=xs.any λy=>UN y x
def rIn(K:aP)(a:Bool):R2:=λx y H Q=>∃p xs,y=.ref p/\(mh K H p xs\/wN K H p xs)/\q_ x=Z'/\xs.all q_=Z'/\Q (.bl (if a then !V8 x xs else V8 x xs)) H
def M1:mj X (cR .In) (rIn X.K Z_):=by
 rintro B s U H x y v u Q I e g ⟨p,xs,rfl,b,f,j,q⟩;cases g;rcases b with b|b
 .let⟨a,r,c,k⟩:=I.list b;refine SeqAt.in_listAt _ c.isList (λw hw=>vR e f r j w Ż) ⟨.bl _,H,I,rfl,?_⟩;rw[show a.toArray.any _=a.any (Rl x) by simp,zp r j];exact q
 .let⟨a,r,c,k⟩:=I.tuple b;refine SeqAt.in_tupleAt _ c (λw hw=>vR e f r j w Ż) ⟨.bl _,H,I,rfl,?_⟩;rw[show a.toArray.any _=a.any (Rl x) by simp,zp r j];exact q
def D9:mj X (cR .NotIn) (rIn X.K Z'):=by
 intro B s U H x y v u Q I e g h;let⟨p,xs,rfl,b,f,j,q⟩:=h;cases g;rcases b with b|b
 .let⟨a,r,c,k⟩:=I.list b;refine SeqAt.notIn_listAt (Rl x) c.isList (λw hw=>vR e f r j w (by simpa using hw)) ⟨.bl _,H,I,rfl,?_⟩;rw[show a.toArray.any (Rl x)=a.any (Rl x) by simp,zp r j];exact q
 .let⟨a,r,c,k⟩:=I.tuple b;refine SeqAt.notIn_tupleAt (Rl x) c (λw hw=>vR e f r j w (by simpa using hw)) ⟨.bl _,H,I,rfl,?_⟩;rw[show a.toArray.any (Rl x)=a.any (Rl x) by simp,zp r j];exact q
def qM:lh X (.builtin "len") (λxs H Q=>∃p ys,xs=[.ref p]/\(mh X.K H p ys\/wN X.K H p ys)/\Q (.int ys.length) H):=by
 rintro B s U H xs l Q I r ⟨p,ys,rfl,b,q⟩;let⟨u,rfl,g⟩:=vals1 r;cases g;let m:=uP;rcases b with b|b
 .let⟨f,c,e,k⟩:=I.list b;let a:=c.length;exact Calls.call_len_list e.isList (by simp only[bT]<;>lia) ⟨.int _,H,I.tok _,⟨_,by rw[bT,a]⟩,q⟩
 .let⟨f,c,e,k⟩:=I.tuple b;let a:=c.length;exact len_tuple e (by simp only[bT]<;>lia) ⟨.int _,H,I.tok _,⟨_,by rw[bT,a]⟩,q⟩
def EM:lh X (.builtin "len") (λxs H Q=>∃z,xs=[.str z]/\z.length<=aU/\Q (.int z.length) H):=by
 rintro B s U H xs a Q I r ⟨z,rfl,b,q⟩;let⟨u,rfl,t,rfl⟩:=vals1 r;let c:=uP;exact len_str Ž ⟨.int _,H,I.tok _,⟨_,rfl⟩,q⟩
def lh.or{f:aj}(h:lh X f r)(h':lh X f c):lh X f (λxs H Q=>r xs H Q\/c xs H Q):=by
 intro B s U H xs a Q I b q;rcases q with q|q
 .exact Ÿ
 exact Ÿ
def tyV(K:aP)(T:String)(x:V)(H:Hp):Prop:=match x with
 |.str _=>T = "str"|.int _=>T = "int"| .ref p=>(T = "list" /\ ∃xs,mh K H p xs)\/(T = "tuple" /\((∃xs,H p=Y (.tup xs))\/∃o,K.lookup p=Y o/\o.cls=.type "tuple" /\o.dict=M)) \/
   (T = "dict" /\((∃a n,H p=Y (.dK a n))\/∃a,H p=Y (.dT a)))\/(T = "set" /\ ∃S n,H p=Y (.set S n))
 |_=>False
theorem OH{s:ar}{v:aj}(I:Inv X B U H s)(r:RelV x v)(f:tyV X.K T x H):
  s.TypeIs v T/\∀a,v=.ref a->∃m,s.heap.get? a=Y m/\m.dict=none:=by
 cases x with
 |str z=>
  let⟨t,rfl⟩:=r;cases f
  simp_all [Y9]
 |int i=>
  let⟨t,rfl⟩:=r;cases f
  simp_all [typeIs_int]
 |ref p=>
  cases r;rcases f with⟨rfl,xs,w⟩|⟨rfl,⟨xs,w⟩|⟨o,b,A,h⟩⟩|⟨rfl,b⟩|⟨rfl,S,n,b⟩
  .let⟨u,_,l,_⟩:=I.list w;refine⟨l.isList.typeIs,λa e =>?_⟩;let⟨o,n,e,c,h,_⟩:=l
   simp_all
  .let⟨_,_,_,o,e,c,_⟩:=(I.fQ p _ w);refine⟨⟨o,e,c.1⟩,λa k =>?_⟩
   simp_all
  .refine⟨⟨o,I.yj p o b,A⟩,λa e =>?_⟩;cases e;exact⟨o,I.yj _ o b,h⟩
  .let z:∃o,s.heap.get? p=Y o/\o.ExactDict:=by
    rcases b with⟨g,m,b⟩|⟨g,b⟩
    .let⟨_,_,_,_,o,_,e,ex,_⟩:=I.fQ p _ b
     simp_all
    .let⟨_,_,_,_,o,_,_,e,ex,_⟩:=I.fQ p _ b
     simp_all
   let⟨o,e,ex⟩:=z;refine⟨⟨o,e,ex.1⟩,λa k =>?_⟩;cases k;exact⟨o,e,ex.2.1⟩
  .let⟨o,_,_,_,e,ex,_⟩:=I.fQ p _ b;refine⟨⟨o,e,ex.1⟩,λa k =>?_⟩;cases k;exact⟨o,e,ex.2.1⟩
 |_=>solve_by_elim
def aac(K:aP)(T:String)(r:V->List V->Hp->VK->Prop)(to:TE):TE:=λU H Q=>to U H λx O=>tyV K T x O/\r x [] O Q
def tBM(K:aP)(T:String)(r:V->List V->Hp->VK->Prop)(to:TE)(t:TA):TE:=λU H Q=>to U H λx O=>tyV K T x O/\t U O λxs d=>r x xs d Q
variable {name:aH}{id:String}
def Pu(p:PlainAttrs T)(c:Slot T name id)(e:typeOf (.builtin id)=cQ (.type "method_descriptor"))(u:MtR X id r)(t:PE X o to)(b:autoParam (bS o name X.env (eval o X.env)=eval o X.env) Ŭ)(a:autoParam ((Bu.endLine==yC.line)=true) Ŭ):PE X (.Call (.Attribute o name Bu) [] [] yC) (aac X.K T r to):=by
 intro B s U H Q I h;refine wpAny_Call_method0_late b a (fu (t B s U H _ I h) ?_);rintro v l ⟨x,O,g,f,k,m⟩;let⟨J,z⟩:=OH g f k;exact⟨T,id,p,c,e,J,z,pG rfl (PySem.evalArgs_none (u B l U O x [] v [] Q g f .nil m))⟩
def vH(i:PlainAttrs T)(f:Slot T name id)(k:typeOf (.builtin id)=cQ (.type "method_descriptor"))(S:MtR X id r)(R:PE X o to)(ha:PA X (e::es) t)(c:autoParam (bS o name X.env (eval o X.env)=eval o X.env) Ŭ) (g:autoParam (((cP yC (ak (e::es) X.env)).all (λx=> !x.1)&&(jL yC (fi [] X.env)).all (λx=>x.1.isSome)
   && decide ((e::es).length+([]:List kX).length+(if ([]:List kX).isEmpty then 0 else 1)<30))=true) Ŭ) (b:autoParam ((Bu.endLine==yC.line)=true) Ŭ) (P:autoParam (ak (e::es) X.env=(Z_,eval e X.env)::ak es X.env) Ŭ) (a:autoParam ((cP yC (ak es X.env)).any (·.1)=false) Ŭ) :
  PE X (.Call (.Attribute o name Bu) (e::es) [] yC) (tBM X.K T r to t):=by
 intro B s U H Q I h;refine wpAny_Call_method_late c g b rfl (fu (R B s U H _ I h) ?_);rintro v D ⟨x,O,p,l,A,K⟩;let⟨J,z⟩:=OH p l A;refine⟨T,id,i,f,k,J,z,?_⟩;let m:=ha yC B D U O _ p K;rw[P]at m ⊢;refine pG (by show (Z_||(cP _ _).any _)=Z_;rw[a]<;>rfl) (Calls.evalArgs_plain ?_);exact fu m <|by rintro w C ⟨u,d,I2,E,F⟩;exact Ÿ
end
def MtM(X:Cx)(id:String)(r:V->List V->Hp->VK->Prop):Prop:=
 ∀(B:List (aw×Obj)) (s:ar) (U:St) (H:Hp) (x:V) (xs:List V) (v:aj) (a:List aj) (Q:VK),Inv X B U H s->RelV x v->b8 xs a->r x xs H Q ->
  aX (bc X.prog X.w) X.A (call (.builtin id) (v::a)) (EP X B U Q) X.xe s
def b8.one{x:V}{a:List aj}(h:b8 [x] a):∃u,a=[u]/\RelV x u:=by
 rcases h with _|⟨r,_|_⟩;simp_all
def b8.two{x y:V}{a:List aj}(h:b8 [x,y] a):∃u v,a=[u,v]/\RelV x u/\RelV y v:=by
 rcases h with _|⟨r,_|⟨q,_|_⟩⟩;exact⟨_,_,rfl,r,q⟩
def b8.zero{a:List aj}(h:b8 [] a):a=[]:=by cases h;rfl
def b8.dropLast(h:b8 xs a):b8 xs.dropLast a.dropLast:=by
 induction h with
 |nil=>exact .nil|cons r t ih=>
  cases t with|nil=>exact .nil|cons q b=>solve_by_elim
theorem b8.rep(h:b8 xs a):∀k:Nat,b8 (bG k xs).flatten (bG k a).flatten
 |0 =>.nil|k+1=>by simp_all [Bx,tI,b8.append,b8.rep]
def Yy(l:List c):l.eraseIdx (l.length-1)=l.dropLast:=by
 simp_all
theorem foldl_rep(a:List aj):∀(k:Nat) (b:List aj),
  List.foldl (λf c=>f++c) b.toArray (bG k a.toArray)=(b++(bG k a).flatten).toArray
 |0,b=>by simp
 | k+1,b=>by
  let e:b.toArray++a.toArray=(b++a).toArray:=by simp
  let g:b++a++(bG k a).flatten=b++(bG (k+1) a).flatten:=by rw[Bx,tI,bD]
  rw[<- g,<- foldl_rep a k _,<- e,Bx,lS]
section
variable {X:Cx}{s:ar}
def Inv.XS{a QH:List aj}{n:Nat}{f:Array aj->Array aj}{t':Nat}(I:Inv X B U H s)(m:H l=Y (.lst xs))(e:s.heap.get? l=Y { cls :=.type "list",data :=.seq a.toArray n })(h:f a.toArray=QH.toArray)(c:b8 ys QH)(b:ys.length<=aU):
  Inv X B U (dA H l (.lst ys)) { s with heap:=s.heap.update l (nW f),toks:=t' }:=by
 let q:=PySem.IsL.update e f;rw[h]at q;refine I.write (by rw[m];exact trivial) (.inl rfl) (λo u k g=>(d_ _ _ (bE k)).trans g) ⟨_,q⟩ ?_;exact⟨b,_,_,c,q⟩
def Inv.aaN{t':Nat}(I:Inv X B U H s)(c:b8 ys a)(b:ys.length<=aU):
  Inv X B U (dA H s.heap.objs.size (.lst ys)) { s with heap:=s.heap.push { cls :=.type "list",data :=.seq a.toArray },toks:=t' }:=
 I.laid (λd d q=>ae _ q) (av _) ⟨b,a,0,c,aF _ rfl⟩
def Inv.fresh(I:Inv X B U H s):H s.heap.objs.size=none:=I.fQ.fresh (av _)
def Inv.Jv(I:Inv X B U H s)(b:H l=Y (.lst xs)):xs.length<=aU/\∃(a:List aj) (n:Nat),b8 xs a/\xs.length=a.length/\s.heap.get? l=Y { cls :=.type "list",data :=.seq a.toArray n }:=by
 let⟨z,a,n,r,e⟩:=I.fQ l _ b;exact⟨z,a,n,r,r.length,e⟩
def Gf(h:n<=aU):m4 n=false:=by
 simp_all [m4,decide_eq_false]
end
section
variable {X:Cx}
def Ti:V->List V->Hp->VK->Prop:=λx a H Q=>∃l xs y,x=.ref l/\a=[y]/\H l=Y (.lst xs)/\xs.length<aU/\Q .dr (dA H l (.lst (xs++[y])))
def lq:MtM X "list.append" Ti:=by
 rintro B s U H x k v m Q I c f ⟨l,xs,y,rfl,rfl,b,o,q⟩;cases c;let⟨u,rfl,g⟩:=f.one;let⟨z,a,n,r,p,e⟩:=I.Jv b;refine va F.slot_list_append ⟨_,e,rfl⟩ F.entry_list_append (F.args_list_append_2 _ _) (PySem.list_append l _ n u Ż) ⟨e,?_⟩;refine⟨.dr,_,I.XS b e ż (r.append (.cons g .nil)) ?_,rfl,q⟩
 grind
def Th:V->List V->Hp->VK->Prop:=λx a H Q=>∃l b xs zs,x=.ref l/\a=[.ref b]/\H l=Y (.lst xs)/\H b=Y (.lst zs)/\xs.length+zs.length<=aU/\Q .dr (dA H l (.lst (xs++zs)))
def M_:MtM X "list.extend" Th:=by
 rintro B s U H x K v d Q I m o ⟨l,b,xs,zs,rfl,rfl,k,C,P,q⟩;cases m;let⟨u,rfl,p⟩:=o.one;cases p;let⟨z,c,n,r,R,e⟩:=I.Jv k;let⟨E,a,w,t,A,D⟩:=I.Jv C;have g:c.toArray.size+a.toArray.size<=aU:=Ż
 let f:¬(!c.toArray.isEmpty&&m4 (c.toArray.size+a.toArray.size))=true:=by rw[Gf g,Bool.and_false];exact bU
 refine va F.slot_list_extend ⟨_,e,rfl⟩ F.entry_list_extend (F.args_list_extend_2 _ _)
  (AutoSeq1.list_extend_list_list_0 l _ n b _ w f Ż Ž) ⟨e,D,?_⟩
 refine⟨.dr,_,I.XS k e ż (r.append t) ?_,rfl,q⟩;rw[aI]
 lia
def aam:V->List V->Hp->VK->Prop:=λx a H Q=>∃l xs y,x=.ref l/\a=[]/\H l=Y (.lst xs)/\xs[xs.length-1]?=Y y/\Q y (dA H l (.lst xs.dropLast))
def Qa:MtM X "list.pop" aam:=by
 rintro B s U H x w v A Q I g k ⟨l,xs,y,rfl,rfl,f,o,q⟩;cases g;let c:=k.zero;subst c;let⟨z,a,n,r,t,e⟩:=I.Jv f;let⟨u,p,m⟩:=r.get o;let b:a.toArray[a.toArray.size-1]?=Y u:=by simp_all
 refine va F.slot_list_pop ⟨_,e,rfl⟩ F.entry_list_pop (F.args_list_pop_1 _) (MeetsSeq.list_pop_last l _ n u b Ż) ⟨e,?_⟩;refine⟨y,_,I.XS f e ?_ r.dropLast ?_,m,q⟩
 .simp_all
 .rw[List.length_dropLast]
  lia
def adA:R2:=λx y H Q=>∃l b xs zs,x=.ref l/\y=.ref b/\H l=Y (.lst xs)/\H b=Y (.lst zs)/\xs.length+zs.length<=aU/\∀p,H p=M->Q (.ref p) (dA H p (.lst (xs++zs)))
def PD:mj X (dt .Add) adA:=by
 rintro B s U H x y v u Q I g f ⟨l,b,xs,zs,rfl,rfl,o,p,D,q⟩;cases g;cases f;let⟨z,c,n,r,E,e⟩:=I.Jv o;let⟨A,a,C,k,m,w⟩:=I.Jv p;refine PySem.P.add_list e w ?_ Ż;let t:c.toArray++a.toArray=(c++a).toArray:=by simp
 rw[t];exact⟨.ref _,_,I.aaN (r.append k) Ż,rfl,q _ I.fresh⟩
def ady:R2:=λx y H Q=>∃l k xs,x=.ref l/\y=.int k/\H l=Y (.lst xs) /\ -(2 ^ 63)<=k/\k<2 ^ 63/\xs.length*k.toNat<=aU /\
 ∀p,H p=M->Q (.ref p) (dA H p (.lst (bG k.toNat xs).flatten))
def Vr(xs:List a)(k:Nat):(bG k xs).flatten.length=k*xs.length:=by
 simp_all
def Xq:mj X (dt .Mult) ady:=by
 rintro B s U H x y v u Q I rx ry ⟨l,k,xs,rfl,rfl,hH,J,z,hz,q⟩;cases rx;let⟨t,rfl⟩:=ry;let⟨c,Fm,n,r,hl,e⟩:=I.Jv hH;have HF:Fm.toArray.size*k.toNat<=aU:=Ż
 let aeo:¬Fm.toArray.size*k.toNat > (2 ^ 63-1)/8:=by grind [aU]
 let aek:¬(!Builtin.List.listFitsIndex k)=true:=by rw[fitsIndex_both J z];exact bU
 have abc:¬m4 (Fm.toArray.size*k.toNat)=true:=by rw[Gf HF];exact bU
 let aed:List.foldl (λx1 x2=>x1++x2) #[] (bG (if Fm.toArray.isEmpty=Z' then 0 else k.toNat) Fm.toArray)=(bG k.toNat Fm).flatten.toArray:=by
  have f0:∀m:Nat,List.foldl (λx1 x2=>x1++x2) #[] (bG m Fm.toArray)=(bG m Fm).flatten.toArray:=λm=>by simp_all [foldl_rep,bL]
  rw[f0];cases Fm<;>simp_all
 refine wpAny_binaryOp_repeat_ref (T:= "list") (U:= "int") ſ ⟨_,e,rfl⟩ (λs'=>typeIs_int s' k t) noFill_list_mul F.fills_int_mul F.slot_int_rmul repeat_list F.slot_int_index.lookup
  (va F.slot_int_rmul (typeIs_int s k t) F.entry_int_rmul (F.args_int_rmul_2 _ _) (int___rmul___int_list k t l Fm.toArray n)
   ⟨e,rfl,⟨_,e,rfl⟩,va F.slot_list_mul ⟨_,e,rfl⟩ F.entry_list_mul (F.args_list_mul_2 _ _) (AutoListH.list___mul___list_int_3 l Fm.toArray n k t aek aeo abc) ⟨e,?_⟩⟩)
 rw[aed];exact⟨.ref _,_,I.aaN (t':=s.toks) (r.rep k.toNat) (by rw[Vr,Nat.mul_comm];exact hz),rfl,q _ I.fresh⟩
end
section
variable {s:ar}
end
section
variable {X:Cx}
end
end L2
namespace Att
open PySem PySem.W PySem.Calls PyProof.Rows
def yz{P:Params}:∀(c:List Int) (e:List aj),WellAll P h e (c.map WData.int)->fU e c:=by
 intro c
 induction c with
 |nil=>intro e w;cases w;exact .nil
 |cons n c ih=>
  intro e w;cases w with
  |cons a b=>
   cases a
   exact Ÿ
theorem MR{l:OpenLaw}{n:Nat}(A:l.most=Y n){P:Params}{h:cF}{args:List WData}{c:List aj}(e:l.row.toRowW.claim.pre args=Z')(o:WellAll P h c args):
  ∃a s b,c=[fm a]/\args=[WData.list (b.map WData.int)]/\h.get? a=Y { cls :=.type "list",data :=.seq s.toArray }/\fU s b/\b.length<=n:=by
 let t:l.pre.holds [] _=true:=(pre_splitW e).2;let⟨d,r,rfl,J,z⟩:=hasAllW_cons (pre_splitW e).1;obtain rfl:=hasAllW_nil z;let⟨xs,rfl,C⟩:=hasW_list J;let⟨b,rfl⟩:=items_int C;let f:b.length<=n:=by
  let m:(WTm.not (.lt (.lit (.int n)) (.len (.arg 0)))).holds [] { args:=[.list (b.map .int)] }=true:=by
   let m:=(holds_andW t).1
   simp_all
  let k:=condW_of m (w_not (w_lt w_lit (w_len_list (w_arg rfl))))
  simp_all
 cases o with
 |cons v u=>
  cases u;cases v with|list x g=>exact⟨_,_,b,rfl,rfl,x,yz b _ g,f⟩
def MY(l:OpenLaw)(args:List WData):l.row.toRowW.claim.post args (.bool Z') args=true:=
 postW_of
  Ÿ
  (w_eq_bool (w_res rfl) w_lit) rfl
def Hv{l:OpenLaw}{n:Nat}{q:aZ}{e:List aH}{R:(aH->Option aj)->cF->Prop}{Q:cH->cF->Prop}{d:DefRec}(hn:l.most=Y n)(F:d.params.defaults=[]) (u:∀(w:cH) (c b:ar) (i C:aH->Option aj) (t:aw) (o:Obj) (A x h:aj) (a:aw) (k:List aj) (v:List Int),
   Ground q e [] R w c i C b.heap->Q w b.heap ->
   b.heap.get? t=Y o->o.data=.func (docDef d.name d.params d.body d.scope A x h)->b.heap.CodeRec x d.name->i d.name=Y (.ref t) ->
   b.heap.get? a=Y { cls :=.type "list",data :=.seq k.toArray }->fU k v->v.length<=n->b.gens=#[] ->
   pA (bc l.prog w) Od (.call (.ref t) ⟨[.ref a],[]⟩) (λr s'=>r=.ok (.ret (.bool Z'))/\OldK b.heap s'.heap/\s'.os=b.os/\H_ s'.gens) b) :
  WalkO q e R Q l.row.toRowW d [] (λf k=>PySem.call f k):=by
 intro w c b i C G j t o A x h dV S ho hd H P E hg args K as m y T D hlo;obtain rfl:dV=.none:=Dflts.none P F;obtain rfl:S=.none:=Dflts.noKw P;let⟨a,k,v,rfl,rfl,p,g,s⟩:=MR hn m D;refine enter_call (pz (u w c b i C t o A x h a k v G j ho (fd_plain hd) H E p g s hg) λr s' X =>?_);let⟨rfl,z,h3,h4⟩:=X;exact⟨.inl ⟨_,_,[],rfl,λ_=>rfl,.bool _,MY l _,λ_=>⟨List.Pairwise.nil,λ_ hm=>nomatch hm⟩⟩,z,h3,h4⟩
section
variable {s:ar}{K:aP}
end
end Att
namespace L2
open PySem PySem.Spec PyProof.Rows
def Mz{a:List aj}{b:List Int}(h:fU a b):b8 (b.map V.int) a:=by
 induction h with|nil=>exact .nil|cons n t h ih=>solve_by_elim
def R1(H:Hp):Prop:=∀b,H b=M\/∃o xs,H b=Y (.Ov o (.lst xs))
def QB{P:aZ}{K:aP}{f:ar}(KX:K.In f.heap)(S:f.heap.Ns bq i)(l:f.heap.Ns builtinsNs mb)(hbb:∀x:aH,x ≠ "__name__" ->mb x=d9 x)(T:f.heap.NoLimit)(hg:f.gens=#[])(ha:f.heap.get? a=Y { cls :=.type "list",data :=.seq A.toArray })(L:fU A E)(hl:E.length<=aU)(hr:fT k Od)(F:∀base:cF,K.In base->base.Ns bq i->cy P w K i base CX k fa I [x] sp)(C:∀(s:ar) (u:aj),Oj s I ⟨[u],[]⟩ [(x,u)])(hsp:∀H:Hp,R1 H->mh K H a (E.map V.int)->sp [.ref a] H (λv y=>v=.bl Z') λy y y=>False)(hCX:∀H e s',CX [] H f (λy y y=>False) e s'->False):
  pA (bc P w) Od (.call (.ref fa) ⟨[.ref a],[]⟩) (λr s'=>r=.ok (.ret (.bool Z'))/\OldK f.heap s'.heap/\s'.os=f.os/\H_ s'.gens) f:=by
 let rv:=Mz L;let j:=L.length;have t:∀H:Hp,R1 H->mh K H a (E.map V.int)->pw P w H f.heap->(∀b,H b≠M->b=a)->(H a≠M->K.lookup a=M) ->
   pA (bc P w) Od (.call (.ref fa) ⟨[.ref a],[]⟩) (λr s'=>r=.ok (.ret (.bool Z'))/\OldK f.heap s'.heap/\s'.os=f.os/\H_ s'.gens) f:=by
  intro H hO hS R hA hK;let g:∀ {b:aw}{o:Obj},f.heap.get? b=Y o->H b=M->(JJ f.heap H).get? b=Y o:=λe n=>QU e n
  let noA:∀ {b:aw}{o:Obj}{es:Array DictEntry}{ep:Nat},f.heap.get? b=Y o->o.data=.dict es ep->H b=none:=fun {b o es ep} e d=>by rcases q:H b with _|u<;>grind
  have p:∀ {b:aw}{m:aH->Option aj},f.heap.Ns b m->(JJ f.heap H).Ns b m:=fun {b m} ⟨o,es,ep,e,d,r⟩=>⟨o,es,ep,g e (noA e d),d,r⟩
  let X:=λb o e=>g (KX b o e) ŷ
  let hM:Mod K i (JJ f.heap H):=⟨X,p S,⟨mb,p l,hbb⟩,let⟨mc,J,z⟩:=T;⟨mc,p J,z⟩⟩;refine pz ((F _ X (p S)).run Od [] f H ⟨[.ref a],[]⟩ [.ref a] [.ref a] _ _ hr (⟨rfl,hM,λb o e=>T7 e,Nat.le_of_eq (Nt _ _),trivial,λb l=>absurd (show b∈([]:List aw) from l) ż,R,.of_eq hg⟩) (C f (.ref a)) (.cons rfl .nil) (hsp H hO hS)) λr s' h =>?_
  cases r with
  |error e=>exact(hCX H e s' h).elim|ok fl=>
   cases fl with
   |ret u=>
    let⟨v,H',os,bare,un,Q,r',q⟩:=h;let q':v=.bl true:=q;subst q';obtain rfl:u=Value.bool true:=r';refine⟨rfl,OldK.of_keep λb o e =>?_,os,bare⟩;cases q:H b with
    |none=>exact un.keep b o e q (by intro c;exact absurd (show b∈([]:List aw) from c) ż) ż
    |some u=>
     rcases hO b with c|⟨ob,xs,c⟩
     .rw[q]at c;cases c
     .let z2:=un.Ex b ob _ c;let⟨e1,_⟩:=R b _ c;let⟨e2,_⟩:=Q b _ z2;rw[e]at e1;cases e1;exact e2
   |_=>exact False.elim h
 cases hk:K.lookup a with
 |some o=>let e:=KX a o hk;rw[ha]at e;cases e;refine t _ (λy =>.inl rfl) (.inr ⟨_,A.toArray,_,hk,rfl,rfl,rfl,by rw[bT,j];exact hl,by simpa using rv⟩) (λb u c=>by cases (c)) (λb c=>absurd rfl c) λc=>absurd rfl c
 |none=>
  refine t (λb=>if b=a then Y _ else M) (λb =>?_) (.inl (.inr ⟨{ cls :=.type "list",data :=.seq A.toArray },if_pos rfl⟩)) (λb u c =>?_) (λb c =>?_) λy=>hk
  .grind
  .by_cases l:b=a
   .cases ((if_pos l).symm.trans c);subst l;exact⟨ha,Ż,A,_,rv,ha⟩
   simp_all
  simp_all
def SK{l:PySem.W.OpenLaw}{n k:Nat}{q:aZ}{c:List aH}{R:cH->cF->Prop}{d:DefRec}{K:Params->aP}{CX:cH->Y4}{sp:cH->Sp}{x:aH}(X:l.most=Y n)(C:n<=aU)(E:d.params.defaults=[])(T:fT k Od)(hY:∀(w:cH) (h:cF),R w h->(K w.params).In h) (F:∀(w:cH) (i:aH->Option aj) (t:aw) (h:cF),(K w.params).In h->h.Ns bq i->i d.name=Y (.ref t) ->
   ∃I:de,(∀(s:ar) (u:aj),Oj s I ⟨[u],[]⟩ [(x,u)]) /\
    ∀base:cF,(K w.params).In base->base.Ns bq i->cy l.prog w (K w.params) i base (CX w) k t I [x] (sp w)) (A:∀(w:cH) (H:Hp) (a:aw) (r:List Int),r.length<=n->R1 H->mh (K w.params) H a (r.map V.int)->sp w [.ref a] H (λv z=>v=.bl Z') λz z z=>False) (y:∀(w:cH) (H:Hp) (s:ar) (e:aj) (s':ar),CX w [] H s (λz z z=>False) e s'->False) :
  PySem.W.WalkO q c XP R l.row.toRowW d [] (λf P=>PySem.call f P):=by
 refine Att.Hv X E λw Q m i mb t o pm cd Ww a P r G j ho hd hcd D p g b hg =>?_
 let S:=hY w _ j;let⟨I,hb,hF⟩:=F w i t _ S G.T.g D;exact QB S G.T.g G.T.b G.T.builtins G.T.nolimit hg p g (aV b C) T hF hb (λH hO hS=>A w H a r b hO hS) λH e s'=>y w H m e s'
def OF{l:PySem.W.OpenLaw}{n k:Nat}{q:aZ}{b:List aH}{P:(aH->Option aj)->cF->Prop}{t:cH->cF->Prop}{d:DefRec}{K:Params->aP}{CX:Y4}{sp:aP->Sp}{x:aH}(D:l.most=Y n)(m:n<=aU)(o:d.params.defaults=[])(C:fT k Od)(E:∀(w:cH) (h:cF),t w h->(K w.params).In h) (F:∀(w:cH) (i:aH->Option aj) (r:aw) (h:cF),(K w.params).In h->h.Ns bq i->i d.name=Y (.ref r) ->
   ∃I:de,(∀(s:ar) (u:aj),Oj s I ⟨[u],[]⟩ [(x,u)]) /\
    ∀base:cF,(K w.params).In base->base.Ns bq i->cy l.prog w (K w.params) i base CX k r I [x] (sp (K w.params))) (g:∀(K:aP) (H:Hp) (a:aw) (c:List Int),c.length<=n->R1 H->mh K H a (c.map V.int)->sp K [.ref a] H (λv y=>v=.bl Z') λy y y=>False) (p:∀(H:Hp) (s:ar) (e:aj) (s':ar),CX [] H s (λy y y=>False) e s'->False) :
  PySem.W.WalkO q b P t l.row.toRowW d [] (λf A=>PySem.call f A):=
 SK D m o C E F (λw H a c J z j=>g _ H a c J z j) λy H s e s'=>p H s e s'
noncomputable def j5(s:dh)(j:Nat):dh:=match s with
 |.ClassDef _ _ _ a _ _ _ _ _ _ _=>a.getD j (.Pass ⟨0,0,0,0⟩)|_ =>.Pass ⟨0,0,0,0⟩
noncomputable def oM(s:dh):Arguments:=match s with
 |.FunctionDef _ a _ _ _ _ _ _ _ _=>a|_=>{ posonlyargs:=[],args:=[],vararg:=M,kwonlyargs:=[],kw_defaults:=[],kwarg:=M,defaults:=[] }
noncomputable def iQ(s:dh):List dh:=match s with
 |.FunctionDef _ _ b _ _ _ _ _ _ _=>b|_=>[]
noncomputable def aE(s:dh):Scope:=match s with
 |.FunctionDef _ _ _ _ _ _ a _ _ _=>a|_=>{ kind :=.function,names:=[],isGenerator:=Z_,isCoroutine:=Z_ }
abbrev ib:Y4:=λa a a a a a=>False
abbrev E0:XK:=λa a a=>False
def nI{X:Cx}:u4 ib X E0:=λa a a a a a a h=>h.elim
structure iV(K:aP)(x qual:aH)(st:dh)(f:aw)(fd:de):Prop where
 ex:∃(oc:aj) (od:Option aw) (kV Ww pm:aj) (an:Option aw) (kF ct:aj) (osl:Array (Option aj)),
  fd=fnOf x qual (oM st) (iQ st) (aE st) .none kV Ww pm an kF ct/\K.lookup f=some ⟨oc,od,.func fd,osl⟩/\codeIn K kF qual=true
 kp:HI K (.ref f)=true
section
variable {P:aZ}{K:aP}
def iV.ok{st:dh}{f:aw}(F:iV K x c st f I)(S:bu N q (aE st))(m:∀g H Q E,sp g H Q E->g.length=q.length) (l:∀(e:aj) (A:jq) (b:List Env) (s:ar) (H:Hp) (g:List V) (Q:VK) (E:XK),fT k (A.deeper (wQ c (aE st) s.heap.objs.size f e))->sp g H Q E ->
   ∃t,rN (B2 ib P w K i base N c (aE st) f e A b s H E).T8 (iQ st) t/\t { nx:=λ_ H'=>Q .dr H',rt:=Q } (start N g) H):cy P w K i base ib (k+1) f I q sp:=by
 let⟨d,D,R,v,C,X,e,T,r,rfl,lk,p⟩:=F.ex;refine abo lk p S m λA b s H g Q E u o =>?_
 let⟨t,h,a⟩:=l e A b s H g Q E u o;exact⟨t,h.T8,a⟩
def iV.binds{st:dh}{f:aw}(F:iV K x a st f I)(h:∀(k b g:aj) (m:Option aw) (c l:aj) (e:List aj),e.length=q.length->bindArgs (fnOf x a (oM st) (iQ st) (aE st) .none k b g m c l) ⟨e,[]⟩=cQ (q.zip e)):Binds K I q []:=by
 let⟨s,r,k,b,g,m,c,l,o,rfl,_⟩:=F.ex;exact .all (h k b g m c l)
def Q_{st:dh}{f:aw}{s:aj}{m:aj}(l:K.lookup f=Y ⟨s,r,.func (fnOf x a (oM st) (iQ st) (aE st) .none m e h p b o),g⟩)(c:codeIn K b a=Z')(k:HI K (.ref f)=Z'):iV K x a st f (fnOf x a (oM st) (iQ st) (aE st) .none m e h p b o):=⟨⟨s,r,m,e,h,p,b,o,g,rfl,l,c⟩,k⟩
end
def nL(a:fT k A):A.units+1<mY:=me Ż a.units
section
variable {X:Cx}
def pv(i:Nat)(e:autoParam (X.N[i]?=Y x) Ŭ)(b:autoParam (YY X.env.scope x) Ű)(c:autoParam ((x==("__debug__" : aH))=false) Ū)(a:autoParam ((x==("__classdict__" : aH))=false) Ū):PE X (.Name x G) (i5 i):=Xj e b c a
end
def JF{A B:Prop}(h:B):if Z_=Z' then A else B:=by
 simp_all
def BV{A B:Prop}(h:A):if Z'=Z' then A else B:=by
 simp_all
def QL{c A B:Prop}[Decidable c](J:c->A)(z:¬c->B):if c then A else B:=by
 by_cases h:c
 .rw[if_pos h];exact J h
 .rw[if_neg h];exact z h
def bz(H H':Hp):Prop:=∀b o,H b=Y o->H' b=Y o
def bz.refl(H:Hp):bz H H:=λa a h=>h
def bz.trans{d:Hp}(a:bz H O)(b:bz O d):bz H d:=λc o h=>b c o (a c o h)
def bz.free(e:bz H H')(h:H' l=Option.none):H l=Option.none:=by
 rcases q:H l with _|o
 .rfl
 rw[e l o q]at h;cases h
def bz.seq{K:aP}{a:aw}(e:bz H H')(h:mh K H a xs):mh K H' a xs:=by
 rcases h with (h|⟨o,h⟩)|h
 .exact Ÿ
 .exact .inl (.inr ⟨o,e _ _ h⟩)
 .exact .inr h
section
variable {P:aZ}
def pw.Ku(x:pw P w H h)(f:H a=M)(d:jF P w (dA H a o) h a o):pw P w (dA H a o) h:=λb u e=>by
 by_cases k:b=a
 .simp_all [a_]
 .rw[aR k]at e;exact(x b u e).zF (λc v c q=>q) (λc q=>by rw[aR (bp q f)];exact q) λc l q=>by rw[aR (bp q f)];exact q
def pw.DQ(x:pw P w (dA H a (.lst d)) h)(m:H a=M):pw P w H h:=λb u e=>by
 let n:=bp e m;have k:∀c v,dA H a (.lst d) c=Y v->v ≠ .lst d->H c=Y v:=λc v q l=>by
  by_cases f:c=a
  .subst f;rw[a_]at q;cases q<;>simp_all
  simp_all [aR]
 exact(x b u (by simp_all [aR])).zF (λc v g q=>q) (λc q=>k c _ q Ż) λc i q=>k c _ q Ż
end
noncomputable def lobj(g:List aj)(n:Nat):Obj:={ cls :=.type "list",data :=.seq g.toArray n }
section
variable {X:Cx}{s:ar}{D:aw}
def Inv.Ku(I:Inv X (j++[(D,lobj g n)]) t H s)(r:b8 i g)(A:i.length<=aU)(E:X.s₀.heap.objs.size<=D)(B:∀p∈X.pn++j,p.1≠D):Inv X j t (dA H D (.lst i)) s:=by
 let⟨e,d,C,_⟩:=I.pin (D,lobj g n) ż;let f:∀b o,X.s₀.heap.get? b=Y o->b≠D:=λb o q z=>by
  let l:=aD q
  grind
 refine⟨I.ok,I.os,I.bare,⟨I.base.keep,I.base.slot,λb o q m x =>?_,I.base.there,λb k q =>?_,λb o u q =>?_,λb w q =>?_⟩,I.loc,I.cell,?_,λx c q =>?_,λp q =>?_,I.fQ.Ku d ⟨A,g,n,r,e⟩,I.len⟩
 .rw[aR (f b o q)];exact I.base.free b o q m x
 .have:=I.base.FC b k q;rw[aR (bp this d)];exact this
 .have:=I.base.Ex b o u q;rw[aR (bp this d)];exact this
 .let⟨a,this⟩:=I.base.FD b w q;exact⟨a,by rw[aR (bp this d)];exact this⟩
 .rw[aR (bE C)];exact I.free
 .let y:c≠D:=λz=>by
   let⟨v,L,h,F⟩:=I.cell x c q
   simp_all
  rw[aR y];exact I.pW x c q
 .let⟨K,J,G⟩:=I.pin p (by rw[<- bD];exact aW _ q);exact⟨K,by rw[aR (B p q)];exact J,G⟩
def Inv.DQ(I:Inv X j t (dA H D (.lst i)) s)(h:H D=M)(B:D≠X.env.locals)(C:D∉X.fs):∃g n,b8 i g/\i.length<=aU/\Inv X (j++[(D,lobj g n)]) t H s:=by
 let⟨A,g,n,r,e⟩:=I.fQ D _ a_;have k:∀c v,dA H D (.lst i) c=Y v->v ≠ .lst i->H c=Y v:=λc v q y=>by
  by_cases d:c=D
  .subst d;rw[a_]at q;cases q<;>simp_all
  .rwa [aR d]at q
 let f:∀c,dA H D (.lst i) c=M->H c=none:=λc q=>by grind [aR]
 refine⟨g,n,r,A,I.ok,I.os,I.bare,⟨I.base.keep,I.base.slot,λb o q m x=>f _ (I.base.free b o q m x),I.base.there,λb l q=>k _ _ (I.base.FC b l q) Ż,λb o u q=>k _ _ (I.base.Ex b o u q) Ż,λb w q =>?_⟩,I.loc,I.cell,f _ I.free,λx c q=>f _ (I.pW x c q),λp q =>?_,I.fQ.DQ h,I.len⟩
 .obtain _:=I.base.FD b w q
  grind
 .rw[<- bD]at q;rcases aA.mp q with q|q
  .let⟨G,F,E⟩:=I.pin p q;exact⟨G,f _ F,E⟩
  simp_all [lobj]
end
theorem iG:∀(a:List (aH×vd)) (n:Nat) (zr:List (aH×aw)),fj n a zr=fj n a []++zr
 |[],n,zr=>rfl| (x,k)::r,n,zr=>by
  unfold fj;split
  .rw[iG r _ _,iG r _ [(x,n)],bD];rfl
  .exact iG r n zr
theorem kE:∀(a:List (aH×vd)) (n:Nat) (b:List (aH×aw)) (x:aH) (c:aw),(x,c)∈fj n a b->(x,c)∈b\/(x,HX)∈a
 |[],n,b,x,c,h =>.inl h| (y,k)::r,n,b,x,c,h=>by
  unfold fj at h;split at h
  .rcases kE r _ _ x c h with q|q
   .grind
   .exact .inr (aB _ q)
  .rcases kE r _ _ x c h with q|q<;>simp_all
noncomputable def nQ(a:List (aH×aw)):List (aH×vd)->List (aH×aw)->List (aH×aw)
 |[],b=>b|(x,k)::r,b=>if k == .free then nQ a r ((x,(a.lookup x).getD 0)::b) else nQ a r b
theorem sG{env:Env}(f:aH×vd->List (aH×aw)->Sem (ForInStep (List (aH×aw))))
  (hf:∀name kind cs,f (name,kind) cs=if kind == .free then (do let a <- cellOf env name;cQ (.yield ((name,a)::cs))) else cQ (.yield cs)) :
  ∀(names:List (aH×vd)) (zr:List (aH×aw)),(∀y∈names,y.2=.free->∃c,env.cells.lookup y.1=Y c)->(forIn names zr f:Sem _)=cQ (nQ env.cells names zr)
 |[],zr,_=>by solve_by_elim
 | (x,k)::r,zr,h=>by
  rw[List.forIn_cons,hf];unfold nQ;cases hk:k==rk with
  |false=>exact sG f hf r zr λy hy=>h y Ż
  |true=>
   let⟨c,e⟩:=h _ aM Ż;let e2:cellOf env x=cQ c:=by unfold cellOf;rw[e]
   rw[e2,e];exact sG f hf r _ λy hy=>h y (aB _ hy)
def B3{env:Env}(h:∀y∈a.names,y.2=.free->∃c,env.cells.lookup y.1=Y c):closureFor a env=cQ (nQ env.cells a.names []):=by
 simp only[closureFor];rw[sG _ λname b d=>by simp_all _ [] h];rfl
theorem xS:∀ {a:List (aH×vd)}{d:List (aH×aw)}{x:aH}{c:aw},(x,c)∈nQ b a d->(x,c)∈d\/((x,rk)∈a/\c=(b.lookup x).getD 0)
 |[],d,x,c,h =>.inl h| (y,k)::r,d,x,c,h=>by
  unfold nQ at h;split at h
  .rcases xS h with q|q
   .grind
   simp_all
  .rcases xS h with q|q<;>simp_all
theorem uZ:∀ {b:List (aH×vd)}{a:List (aH×aw)}{x:aH},(∃c,(x,c)∈a)->∃c,(x,c)∈nQ d b a
 |[],a,x,h=>h| (y,k)::r,a,x,⟨c,h⟩=>by
  unfold nQ;split
  .exact uZ ⟨c,aB _ h⟩
  .exact uZ ⟨c,h⟩
theorem xT{cells:List (aH×aw)}:∀ {a:List (aH×vd)}{zr:List (aH×aw)}{x:aH},(x,rk)∈a->∃c,(x,c)∈nQ cells a zr
 | (y,k)::r,zr,x,h=>by
  unfold nQ;rcases aq.mp h with e|h
  .simp_all [uZ,aM]
  .split
   .exact xT h
   .exact xT h
theorem uf:∀ {l:List (aH×a)}{x:aH}{c:a},(x,c)∈l->∃d,l.lookup x=Y d
 | (y,v)::r,x,c,h=>by
  rw[kQ];cases b:x==y with
  |true=>simp_all|false=>
   rcases aq.mp h with e|h
   .simp_all
   .exact uf h
theorem uO:∀ {l r:List (aH×a)}{x:aH},(l++r).lookup x=(l.lookup x).or (r.lookup x)
 |[],r,x=>by simp
 |(y,v)::l,r,x=>by grind
theorem nK{a:Env}:∀ {b:List (aH×vd)}{x:aH},(b.map λ(n,k)=>if (k==rk&&a.scope.kind == .function&&a.kindOf n==Y .cell) then (n,HX) else (n,k)).lookup x =
  (b.lookup x).map λk=>if (k==rk&&a.scope.kind == .function&&a.kindOf x==Y .cell) then HX else k
 |[],_=>rfl| (n,k)::r,x=>by
  let ih :=@nK a r x
  grind
def pT{a b:Nat}(h:a<b):a<b:=h
def aaJ{b:Nat}(h:a<=b):a<=b:=h
def CP{a b:Nat}(h:a=b):a=b:=h
abbrev nS(X:Cx)(f:Scope)(C:aw):Env:=
 { scope:=relabel f X.env,locals:=C,globals:=X.env.globals,cells:=fj (C+1) f.names (nQ X.env.cells f.names []),qual:=X.env.qual,func:=M,code:=X.env.code,frame:=X.env.frame,builtins:=X.env.builtins }
def Cx.rM(X:Cx)(N:List aH)(f:Scope)(C:aw)(s:ar)(H:Hp)(a:List aw):Cx:=
 { X with N:=N,s₀:=s,H₀:=H,env:=nS X f C,outer:=X.stack,stack:=X.stack,ex:=a,fn:=λx=>f.names.lookup x==Y .cell,pn:=[],xe:=λb b=>False }
noncomputable def nu(t:List (Option Nat))(w:St):St:=t.map λo=>match o with|some j=>(w[j]?).getD M|none=>M
structure eU(X:Cx)(N:List aH)(src:List (Option Nat))(scope:Scope):Prop where
 kind:scope.kind=.function
 uniq:∀y∈scope.names,scope.names.lookup y.1=some y.2
 free:∀y∈scope.names,y.2=.free->X.env.scope.names.lookup y.1=some .cell\/X.env.scope.names.lookup y.1=some .free
 len:src.length=N.length
 abl:∀(i j:Nat) (x:aH),src[i]?=some (some j)->N[i]?=some x->X.N[j]?=some x/\scope.names.lookup x=some .free
section
variable {X:Cx}{s:ar}{f:Scope}
def Jh{d:Model}(l:∀c,(∀b o,s.heap.get? b=Y o->c.get? b=Y o)->c.Ns s.heap.objs.size (λg=>M)->CellsOk c (s.heap.objs.size+1) (fj (s.heap.objs.size+1) f.names []) ->
   Q { scope:=f,locals:=s.heap.objs.size,globals:=X.env.globals,cells:=fj (s.heap.objs.size+1) f.names j,qual:=X.env.qual,func:=M,code:=X.env.code,frame:=X.env.frame,builtins:=X.env.builtins } { s with heap:=c }) :
  aX d A (newFunctionEnv f X.env.globals j [] X.env.qual M .none (Y X.env)) Q E s:=by
 refine af (wpAny_alloc ?_);refine af (wpAny_layCells _ λname a h=>by simp_all _ _ _ _ ?_);let i:=cellsFrom_ok f.names (s.heap.push { cls :=.type "dict",data :=.dict #[] }) (s.heap.objs.size+1) [] ⟨λg g k=>(nomatch k),List.Pairwise.nil⟩ Ż;rw[cM]at i;rw[cM ..];exact af (ax (ax (l _ (λb o e=>pushCells_keeps _ _ b o (ae _ e)) ((Heap.Ns.new _ _).keeps (pushCells_keeps _ _)) i)))
theorem l4(S:eU X N t f)(i:X.Ok)(h:(nS X f C).cells.lookup x=Y c):
  (f.names.lookup x=Y .cell/\(x,c)∈fj (C+1) f.names [])\/(f.names.lookup x=Y .free/\X.env.cells.lookup x=Y c):=by
 let h:(fj _ _ _).lookup x=Y c:=h;rw[iG,uO]at h;cases e:(fj _ _ []).lookup x with
 |some d=>
  rw[e]at h;have:=by simpa using h
  subst this;let q:=PySem.mem_of_lookup e;rcases kE _ _ _ _ _ q with z|z
  .simp at z
  .exact .inl ⟨S.uniq _ z,q⟩
 |none=>
  rw[e]at h;rcases xS (PySem.mem_of_lookup h) with z|⟨z,a⟩
  .simp at z
  .let⟨d,b⟩:=i.has x (S.free _ z rfl);exact .inr ⟨S.uniq _ z,Ż⟩
def Ve(S:eU X N t f)(h:f.names.lookup x=Y .cell):∃c,(nS X f C).cells.lookup x=Y c:=by
 let⟨c,e⟩:=Be h;refine⟨c,?_⟩;show (fj _ _ _).lookup x=Y c;rw[iG,uO,e];rfl
def Hr(S:eU X N t f)(a:X.Ok){C:aw}(h:f.names.lookup x=Y .free):∃c,(nS X f C).cells.lookup x=Y c/\X.env.cells.lookup x=Y c:=by
 let⟨d,i⟩:=xT (PySem.mem_of_lookup h);let⟨c,j⟩:=uf i;have e:=by
  show (fj (C+1) f.names (nQ X.env.cells f.names [])).lookup x=Y c;rw[iG,uO];rcases e:(fj _ _ []).lookup x with _|d
  .simpa using j
  rcases kE _ _ _ _ _ (PySem.mem_of_lookup e) with z|z
  .simp at z
  .have:=S.uniq _ z
   simp_all
 rcases l4 S a e with _|_
 .simp_all
 simp_all
def Hq(x:aH):(nS X f C).kindOf x=(f.names.lookup x).map λk=>if (k==rk&&X.env.scope.kind == .function&&X.env.kindOf x==Y .cell) then HX else k:=by
 exact nK
def FI{i:Nat}{v:V}(h:(nu t w)[i]?=Y (Y v)):∃j,t[i]?=Y (Y j)/\w[j]?=Y (Y v):=by
 unfold nu at h;rw[aT]at h;let⟨o,e,h⟩:=ai.1 h;rw[e];cases o with
 |none=>cases h|some j=>
  refine⟨j,rfl,?_⟩;let h:=by simpa using h
  rcases q:w[j]? with _|z<;>simp_all
def NX{ex:List aw}{h':cF}{D C:Nat}{o:Obj}(S:eU X N t f)(I:Inv X B w H g)(J:∀b∈ex,Bo X B H b)(P:∀b∈ex,∃o,g.heap.get? b=Y o)
  (hD:D=g.heap.objs.size) (hC:C=g.heap.objs.size+1) (G:∀b o,g.heap.get? b=Y o->h'.get? b=Y o) (T:h'.get? D=Y o) (R:∀v,o.data ≠ .cell v)
  (Q:h'.Ns C (λ_=>M)) (E:CellsOk h' (C+1) (fj (C+1) f.names [])) :
  Inv (X.rM N f C g H ex) (X.pn++B++[(D,o)]) (nu t w) H { g with heap:=h' }:=by
 let lt:∀ {b:Nat}{o:Obj},g.heap.get? b=Y o->b<g.heap.objs.size:=λe=>aD e
 have fr:∀a:Nat,g.heap.objs.size<=a->H a=none:=λa h=>I.fQ.fresh h
 have A:∀(x:aH) (c:Nat),X.env.cells.lookup x=Y c->c<g.heap.objs.size:=λx c e=>by let⟨v,z⟩:=I.cell x c e;exact z.lt
 have d:∀ {x:aH}{c:Nat},(x,c)∈fj (C+1) f.names []->C+1<=c:=λq=>(E.empty _ _ q).2
 refine⟨⟨I.mod,S.kind,I.ok.glob,I.ok.blt,?_,?_,?_,?_,I.ok.hd,I.ok.frames,.inl rfl,?_,I.bs,?_,?_,?_,I.stack,I.Kx⟩,rfl,I.bare,Un.kept G,⟨_,Q,?_⟩,?_,?_,?_,?_,I.fQ.kept G,?_⟩
 .show g.heap.objs.size<=C
  lia
 .intro x y c s U;rcases l4 S I.ok s with⟨_,a⟩|⟨_,a⟩<;>rcases l4 S I.ok U with⟨_,b⟩|⟨_,b⟩
  .exact name_of_addr E.apart a b
  .have:C+1<=(c:Nat):=d a;have:=pT (A _ _ b);lia
  .have:C+1<=(c:Nat):=d b;have:=pT (A _ _ a);lia
  .exact I.ok.inj x y c a b
 .intro x n;let n:(nS X f C).kindOf x=Y .cell\/(nS X f C).kindOf x=Y .free:=n;rw[Hq]at n;rcases e:f.names.lookup x with _|k
  .rw[e]at n;rcases n with z|z<;>cases z
  cases k with
  |cell=>exact Ve S e|free=>let⟨c,q,_⟩:=Hr S I.ok e;exact⟨c,q⟩
  |_=>rw[e]at n;exfalso;revert n;simp
 .intro x c n s;let n:f.names.lookup x=Y .cell:=by have:(f.names.lookup x==Y .cell)=true:=n;simpa using this
  show g.heap.objs.size<=c;rcases l4 S I.ok s with⟨_,a⟩|⟨z,_⟩<;>grind
 .intro b F;let⟨L,e⟩:=P b F;let l:=pT (lt e);refine⟨λz =>?_,λx c s z =>?_⟩
  .let z:=CP (a:=b) (b:=C) z
   lia
  .subst z;rcases l4 S I.ok s with⟨_,a⟩|⟨_,a⟩
   .have:C+1<=(c:Nat):=d a
    lia
   .exact(J c F).2.2.2.2.1 x c a rfl
 .show X.base.objs.size<=g.heap.objs.size;have:=I.ok.Vd;have:=I.sz
  lia
 .intro b L e F;rcases(J b F).2.2.2.1 with z|z
  .exact I.ok.P0 b L e z
  .let e:X.base.get? b=Y L:=e;let a:=pT (aD e);have:=I.ok.Vd;let z:X.s₀.heap.objs.size<=(b:Nat):=z
   lia
 .intro b F;intro z;let z:b∈Ey X.stack:=z;rcases aq.mp (I.ux b z) with q|q
  .exact(J b F).2.1 q
  .exact(J b F).2.2.1 q
 .intro i x v s U h3;let⟨j,e1,e2⟩:=FI U;let⟨e3,e4⟩:=S.abl i j x e1 s;let⟨m,hm,hl⟩:=I.loc;let W:=S.free _ (PySem.mem_of_lookup e4) rfl;let K:YY X.env.scope x :=.inr W;let⟨u,r,lk⟩:=hl j x v e3 e2 K;refine⟨u,r,?_⟩;rcases lk with⟨z,_⟩|⟨_,c,ec,cc⟩
  .exfalso;let z:X.env.scope.names.lookup x=Y .local:=z;rw[z]at W;rcases W with q|q<;>cases q
  .let⟨c',q1,q2⟩:=Hr (C:=C) S I.ok e4;rw[ec]at q2;cases q2;refine .inr ⟨?_,c,q1,cc.keeps G⟩;show (nS X f C).kindOf x=Y .cell\/(nS X f C).kindOf x=Y .free;rw[Hq,e4,da];split<;>grind
 .intro x c s;rcases l4 S I.ok s with⟨_,a⟩|⟨_,a⟩
  .exact⟨M,(E.empty _ _ a).1⟩
  .let⟨v,z⟩:=I.cell x c a;exact⟨v,z.keeps G⟩
 .exact fr C Ž
 .intro x c s;rcases l4 S I.ok s with⟨_,a⟩|⟨_,a⟩
  .have:C+1<=(c:Nat):=d a;exact fr c Ž
  .exact I.pW x c a
 .intro p O;have O:p∈X.pn++B++[(D,o)]:=by simpa [Cx.rM] using O
  rcases aA.mp O with q|q
  .let⟨a1,a2,a3,a4,a5⟩:=I.pin p q;refine⟨G _ _ a1,a2,λz =>?_,λz =>?_,a5⟩
   .let z:=CP (a:=p.1) (b:=C) z;let q:=pT (lt a1)
    lia
   .let z:p.1∈Ey X.stack:=z;rcases aq.mp (I.ux _ z) with q|q<;>grind
  .have:p=(D,o):=by simpa using q
   subst this;refine⟨T,fr D Ž,λz =>?_,λz =>?_,R⟩
   .let z:D=C:=z
    lia
   .let z:D∈Ey X.stack:=z;rcases aq.mp (I.ux _ z) with q|q
    .let l:=pT I.lt
     simp_all
    .exact I.XD (show g.heap.objs.size<=D by lia) q
 .show (nu t w).length=N.length;unfold nu;rw[aG];exact S.len
end
section
variable {R:Zc->ar->Prop}{s:ar}
theorem EJ{f:Scope}(I:Nat->ar->Prop) (k0:∀n s,I n s->aX (bc E w) A (Si J) (λr i=>match r with
   |none=>R (.ok .next) i| some v=>aX (bc E w) A (Vu b J v) (λa g=>aX (bc E w) A (Za b d v) (λa p=>
     aX (bc E w) A (forIn B Z' λc r=>if r=Z' then do let C <- isTrue c d (eval c d);cQ (wV C) else cQ (wV r)) (λC e=>
      if C=Z' then aX (bc E w) A (eval L d) (λx o=>aX (bc E w) A (call (.builtin "list.append") [z,x]) (λa k=>∃m,m<n/\I m k) (λa a=>False) o) (λa a=>False) e
      else ∃m,m<n/\I m e) (λa a=>False) p) (λa a=>False) g) (λa a=>False) i) (λa a=>False) s) (n:Nat) (h:I n s) :
  pA (bc E w) A (.compLoop (.ListComp L [⟨b,G,B,0⟩] f U) 0 J z d) R s:=by
 refine codeAny_loop rfl I (λn s K =>?_) n h;refine wpAny_noted ?_;rw[compTurn_list];refine af (wpAny_standAt (af (gJ (k0 n s K) (λr i t =>?_) λa a j=>j.elim)));cases r with
 |none=>solve_by_elim|some v=>
  refine af (gJ t (λa g y=>af (gJ y (λa p H=>af (gJ H (λC e q =>?_) λa a j=>j.elim)) λa a j=>j.elim)) λa a j=>j.elim);cases C with
  |false=>exact ax ⟨rfl,q⟩|true=>exact af (af (gJ q (λx o F=>af (gJ F (λa k D=>ax (ax ⟨rfl,D⟩)) λa a j=>j.elim)) λa a j=>j.elim))
end
def R8(Z:List Nat)(g:TG):Prop:=∀x c H (Q:St->Hp->Prop),g x c H Q->g x c H λb d=>(b.length=c.length/\∀i,i∉Z->b[i]?=c[i]?)/\Q b d
def gS(i:Nat):R8 [i] (oK i):=λx c H Q h=>⟨ŷ,h⟩
def HB(X:Cx)(B:List Expr)(t:TT):Prop:=
 ∀(b:List (aw×Obj)) (s:ar) (d:St) (H:Hp) (Q:Bool->Hp->Prop),Inv X b d H s->t d H Q ->
  aX (bc X.prog X.w) X.A (forIn B Z' λc r=>if r=Z' then do let e <- isTrue c X.env (eval c X.env);cQ (wV e) else cQ (wV r)) (TP X b d Q) X.xe s
def Z0:TT:=λ_ H Q=>Q Z' H
section
variable {X:Cx}
def Ts:HB X [] Z0:=λb s c H Q I h=>wpAny_tests_nil ⟨H,I,h⟩
def Tq(h:PT X c t):HB X [c] t:=λb s d H Q I q=>wpAny_tests_one (h b s d H Q I q)
end
def WQ(l:TI)(src:List (Option Nat))(g:TG)(u:TT)(O:TE):TE:=λk H Q=>l k H λJ r=>∃W:Nat->Nat->List V->Hp->Prop,(∃m,W 0 m [] r)/\∀i m e H,W i m e H ->
 (J.stop i H/\∀D,H D=M->Q (.ref D) (dA H D (.lst e))) \/
 (J.go i H/\e.length<aU/\∃j:List V->Hp->Prop,(∀d h,j d h->∃n,n<m/\W (i+1) n d h)/\∀x h,J.So i H x h ->
  g x (nu src k) h λc q=>u c q λb o=>if b=Z' then O c o λv p=>j (e++[v]) p else j e o)
section
variable {X:Cx}{f:Scope}
def Dw{s:ar}{F:List (aw×Obj)}{RR:aj->aw->Zc->ar->Prop}(S:eU X N src f)(hc:X.calm=Z')(hi:PI X a G l)(ag:R8 Z g)(ho:∀i∈Z,src[i]?=Y M)(E:∀C s H ex,PG (X.rM N f C s H ex) a g/\HB (X.rM N f C s H ex) B u/\PE (X.rM N f C s H ex) L O)(I:Inv X F σ H s)(h:WQ l src g u O σ H Q) (hRR:∀(D C:aw) (s':ar) (H':Hp),Inv X F σ H' s'->(∃m,s'.heap.Ns C m)->H' C=M->C≠X.env.locals->(C∈X.ex\/X.s₀.heap.objs.size<=C)->(∀x c,X.env.cells.lookup x=Y c->c≠C)->(∀p∈X.pn++F,p.1≠C) ->
   Q (.ref D) H'->RR (.ref D) C (.ok .next) s') :
  aX (bc X.prog X.w) X.A (eval G X.env) (λx s₁=>aX (bc X.prog X.w) X.A (pyIter x) (λit s₂=>aX (bc X.prog X.w) X.A (newList []) (λzr s₃=>
   aX (bc X.prog X.w) X.A (newFunctionEnv f X.env.globals (nQ X.env.cells f.names []) [] X.env.qual M .none (Y X.env)) (λabG s₄=>
    pA (bc X.prog X.w) X.A (.compStart (.ListComp L [⟨a,G,B,0⟩] f U) 0 it zr { abG with scope:=relabel f X.env }) (RR zr abG.locals) s₄) X.xe s₃) X.xe s₂) X.xe s₁) X.xe s:=by
 refine fu (hi F s σ H _ I h) λv s1 h1=>fu h1 λitv A h2 =>?_
 obtain⟨it,fp,tn,J,H2,e,I2,T,Sq,f2,W,⟨m0,w0⟩,k0⟩:=h2;subst e;refine fK ?_;generalize hs3:A.heap.push _=h3;have sz3:h3.objs.size=A.heap.objs.size+1:=by rw[<- hs3,cM]
 let k3:∀b o,A.heap.get? b=Y o->h3.get? b=Y o:=λb o e=>hs3 ▸ ae _ e
 let d3:h3.get? A.heap.objs.size=Y (lobj [] 0):=hs3 ▸ aF _ rfl;refine Jh (X:=X) λh4 k4 ns4 cs4 =>?_
 rw[sz3]at ns4 cs4 ⊢;let k4':=λb o e=>k4 b o (k3 b o e)
 have fob:∀b∈fp,∃o,A.heap.get? b=Y o:=λb E=>by let⟨o,e,_⟩:=T.obj _ _ Sq b E;exact⟨o,e⟩
 let I4:=NX (ex:=fp) (h':=h4) (D:=A.heap.objs.size) (C:=A.heap.objs.size+1) (o:=lobj [] 0) S I2 f2 fob rfl rfl k4' (k4 _ _ d3) (λv z=>by cases z) ns4 cs4;let I4:=I4;generalize hX:X.rM N f (A.heap.objs.size+1) A H2 fp=P at I4;let⟨pg,pt,pe⟩:=E (A.heap.objs.size+1) A H2 fp;rw[hX]at pg pt pe;have K:P.prog=X.prog:=by rw[<- hX];rfl
 have ew:P.w=X.w:=by rw[<- hX];rfl
 have eK:P.K=X.K:=by rw[<- hX];rfl
 have eA:P.A=X.A:=by rw[<- hX];rfl
 have Wg:P.calm=true:=by rw[<- hX];exact hc
 have exe:P.xe=λV V=>False:=by rw[<- hX];rfl
 have Rm:P.env=nS X f (A.heap.objs.size+1):=by rw[<- hX];rfl
 have YA:P.pn=[]:=by rw[<- hX];rfl
 have es0:P.s₀=A:=by rw[<- hX];rfl
 let eH0:P.H₀=H2:=by rw[<- hX];rfl
 have eex:P.ex=fp:=by rw[<- hX];rfl
 have efs:P.fs=Ey X.stack:=by rw[<- hX];rfl
 have hCl:P.env.locals=A.heap.objs.size+1:=by rw[Rm]
 let hDC:A.heap.objs.size≠P.env.locals:=by rw[hCl];exact bf (gK _)
 let hDF:A.heap.objs.size∉P.fs:=by
  rw[efs];intro z;rcases aq.mp (I2.ux _ z) with q|q
  .exact absurd (CP q) (gG (pT I2.lt))
  .exact I2.XD (av _) q
 have hpD:∀p∈P.pn++(X.pn++F),p.1≠A.heap.objs.size:=λp hp=>by rw[YA,bL]at hp;exact bf (pT (aD (I2.pin p hp).1))
 have fpD:∀b∈fp,b≠A.heap.objs.size:=λb E=>by let⟨o,e⟩:=fob b E;exact bf (pT (aD e))
 have Ir:∀ {P':List (aw×Obj)}{H':Hp},(∀p∈P',p∈X.pn++F\/p.1=A.heap.objs.size)->(∀b∈fp,H' b=M)->∀b∈fp,Bo P P' H' b:=fun {P' H'} hP hn b E=>by
  let⟨a1,a2,a3,a4,a5,a6⟩:=f2 b E;let⟨o,e⟩:=fob b E;let w:=pT (aD e);refine⟨hn b E,?_,?_,.inl (by rw[eex];exact E),λx c q z =>?_,λp hp z =>?_⟩
  .rw[hCl];exact bf (du w)
  .rw[efs];intro z;rcases aq.mp (I2.ux b z) with q|q
   .exact a2 q
   .exact a3 q
  .subst z;rw[Rm]at q;rcases l4 S I2.ok q with⟨_,r⟩|⟨_,r⟩
   .have:=aaJ (cs4.empty _ _ r).2
    lia
   .exact a5 x c r rfl
  .rw[YA,bL]at hp;rcases hP p hp with q|q
   .exact a6 p q z
   .exact fpD b E (z.symm.trans q)
 have ab4:pA (bc X.prog X.w) X.A (.compLoop (.ListComp L [⟨a,G,B,0⟩] f U) 0 (.ref it) (.ref A.heap.objs.size) (nS X f (A.heap.objs.size+1))) (RR (.ref A.heap.objs.size) (A.heap.objs.size+1)) { A with heap:=h4 }:=by
  refine EJ (λn s'=>∃i ys R nn H',Inv P (X.pn++F++[(A.heap.objs.size,lobj R nn)]) (nu src σ) H' s'/\b8 ys R/\ys.length<=aU/\tn i s'.heap/\(∀b∈fp,H' b=M)/\W i n ys H') ?_ m0
   ⟨0,[],[],0,H2,I4,.nil,d7 _,T.keep _ _ _ Sq (λb V o e=>k4' b o e),λb E=>(f2 b E).1,w0⟩
  rintro n s5 ⟨i,ys,R,nn,H5,I5,r5,z5,Zr,ZF,w5⟩;have pok:∀p∈X.pn++F++[(A.heap.objs.size,lobj R nn)],p∈X.pn++F\/p.1=A.heap.objs.size:=λp hp=>by
   rcases aA.mp hp with q|q
   .exact .inl q
   .exact .inr Ż
  rcases k0 i n ys H5 w5 with⟨stop,qn⟩|⟨go,lt5,Nx,hN,step⟩
  .let d:=T.done P K ew eK Wg i _ s5 (nu src σ) H5 (λV V=>False) I5 (Ir pok ZF) Zr stop;rw[eA]at d;refine fu d λr s6 hr6 =>?_
   let⟨hr,I6⟩:=hr6;subst hr;have ZM:=I6.Ku r5 z5 (by rw[es0];exact av _) hpD;let hD5:H5 A.heap.objs.size=none:=(I6.pin (A.heap.objs.size,lobj R nn) ż).2.1;let Un6:=ZM.base;rw[efs,eex,eH0,es0]at Un6;let os6:=ZM.os;rw[es0]at os6;let aba:=ZM.fQ;rw[K,ew]at aba;let J6:=I2.Ho os6 Un6 aba ZM.bare λb E=>⟨(f2 b E).2.2.2.1,(f2 b E).2.1,(f2 b E).2.2.2.2.1,(f2 b E).2.2.2.2.2⟩
   let⟨m,hm,_⟩:=ZM.loc;rw[hCl]at hm;let fC:=ZM.free;rw[hCl]at fC;refine hRR _ _ s6 _ J6 ⟨m,hm⟩ fC ?_ (.inr ?_) ?_ ?_ (qn _ hD5)
   .exact λz=>absurd (CP z) (gG (du (pT I2.lt)))
   .exact Nat.le_succ_of_le I2.sz
   .intro x c q z;let⟨v,cc⟩:=I2.cell x c q;have:=pT cc.lt;let z:=CP z
    lia
   .intro p hp z;have:=pT (aD (I2.pin p hp).1);let z:=CP z
    lia
  .let d:=T.item P K ew eK Wg i _ s5 (nu src σ) H5 (λV V=>False) I5 (Ir pok ZF) Zr go;rw[eA]at d;refine fu d λr s6 hr6 =>?_
   let⟨t,hr,h6⟩:=hr6;subst hr;refine fu h6 λV s7 h7 =>?_
   let⟨x,H7,I7,r7,y7,st7,fr7⟩:=h7;let I7':=I7.pinned (Ir pok fr7) (T.obj _ _ st7);let g7:=pg _ s7 (nu src σ) H7 x t _ I7' r7 (ag _ _ _ _ (step x H7 y7));rw[eA,exe,K,ew,Rm]at g7;refine fu g7 λV s8 h8 =>?_
   obtain⟨σ8,H8,I8,⟨l8,a8⟩,q8⟩:=h8;let t8:=pt _ s8 σ8 H8 _ I8 q8;rw[eA,exe,K,ew,Rm]at t8;refine fu t8 λok s9 h9 =>?_
   let⟨H9,I9,q9⟩:=h9;have weak:∀ {P':List (aw×Obj)}{H':Hp}{s':ar},Inv P P' σ8 H' s'->Inv P P' (nu src σ) H' s':=λJ=>J.weak l8.symm λj v hj=>by
    let⟨k,e1,_⟩:=FI hj;have:j∉Z:=λz=>by have:=ho j z;rw[e1]at this;cases this
    rw[a8 j this];exact hj
   cases ok with
   |false=>let⟨m',hm',w9⟩:=hN _ _ (q9);refine⟨m',hm',i+1,ys,R,nn,H9,(weak I9).m_,r5,z5,T.keep _ _ _ st7 λb E o e=>(I9.pin (b,o) (aQ _ (aQ _ (j8 E e)))).1,λb E =>?_,w9⟩;let⟨o,e,d⟩:=T.obj _ _ st7 b E;exact(I9.pin (b,o) (aQ _ (aQ _ (j8 E e)))).2.1
   |true=>
    let e9:=pe _ s9 σ8 H9 _ I9 (q9);rw[eA,exe,K,ew,Rm]at e9;refine fu e9 λxv s10 h10 =>?_
    let⟨y,ZO,I10,r10,q10⟩:=h10;have J10:Inv P (X.pn++F++uH fp s7.heap++[(A.heap.objs.size,lobj R nn)]) σ8 ZO s10:=I10.yU λp hp=>by refine I10.pin p ?_;rw[YA,bL];rcases aA.mp hp with q|q<;>grind
    let nD:∀p∈P.pn++(X.pn++F++uH fp s7.heap),p.1≠A.heap.objs.size:=λp hp=>by
     rw[YA,bL]at hp;rcases aA.mp hp with q|q
     .exact hpD p (by rw[YA,bL];exact q)
     .exact fpD _ (CJ q).1
    let aew:ZO A.heap.objs.size=none:=(J10.pin (A.heap.objs.size,lobj R nn) ż).2.1;let T10:=J10.Ku r5 z5 (by rw[es0];exact av _) nD;let ap:=lq (X:=P) _ s10 σ8 _ (.ref A.heap.objs.size) [y] (.ref A.heap.objs.size) [xv] (λv H'=>v=.dr/\H'=dA (dA ZO A.heap.objs.size (.lst ys)) A.heap.objs.size (.lst (ys++[y]))) T10 rfl (.cons r10 .nil) ⟨_,ys,y,rfl,rfl,a_,lt5,rfl,rfl⟩;rw[eA,exe,K,ew]at ap;refine fu ap λV s11 h11 =>?_
    let⟨v11,H11,I11,_,_,e11⟩:=h11;subst e11;rw[Ks]at I11;let⟨QH,nn',r11,z11,I12⟩:=I11.DQ aew hDC hDF;let⟨m',hm',w11⟩:=hN _ _ q10;let I13:Inv P (X.pn++F++[(A.heap.objs.size,lobj QH nn')]) (nu src σ) ZO s11:=(weak I12).yU λp hp=>by
     refine I12.pin p ?_;rw[YA,bL];rcases aA.mp hp with q|q
     .exact aW _ (aW _ q)
     .exact aQ _ q
    have aav:∀b∈fp,∀o,s7.heap.get? b=Y o->s11.heap.get? b=Y o/\ZO b=none:=λb E o e=>by have:=I12.pin (b,o) (by rw[YA,bL];exact aW _ (aQ _ (j8 E e)));exact⟨this.1,this.2.1⟩
    refine⟨m',hm',i+1,ys++[y],QH,nn',ZO,I13,r11,z11,T.keep _ _ _ st7 λb E o e=>(aav b E o e).1,λb E =>?_,w11⟩;let⟨o,e,d⟩:=T.obj _ _ st7 b E;exact(aav b E o e).2
 exact codeAny_compStart_list ab4 (T.self _ 0 _ _ _ (T.keep _ _ _ Sq λb V o e=>k4' b o e) ab4)
end
section
variable {X:Cx}{f:List (Option Nat)}
def Hs{s:ar}(S:eU X N f c)(I:Inv X a b H s):closureFor c X.env=cQ (nQ X.env.cells c.names []):=
 B3 λy d e=>I.ok.has y.1 (S.free y d e)
def Pp(S:eU X N f c)(P:X.calm=Z')(O:PI X r l w)(ag:R8 B g)(K:∀i∈B,f[i]?=Y M)(p:∀C s H v,PG (X.rM N c C s H v) r g/\HB (X.rM N c C s H v) u j/\PE (X.rM N c C s H v) t k)(G:autoParam (∀x,cb l X.env x=cQ x) ũ):PE X (.ListComp t [⟨r,l,u,0⟩] c A) (WQ w f g j k):=by
 intro a s z H Q I h;refine wpAny_comprehension_free rfl G (Hs S I) S.kind λx F y=>by rw[S.uniq x F,y] ?_
 refine Dw S P O ag K p I h ?_;intro D C E H' J n L R h1 U T q;let⟨m,n⟩:=n;exact⟨m,n,λh' d=>⟨.ref D,H',J.turned (λb o p e=>d.extBut b o p e) L R h1 U T,rfl,q⟩⟩
def vE{F:Pos}(S:eU X N f c)(hc:X.calm=Z')(hN:X.N.Nodup)(hy:X.N[i]?=Y y)(K:X.env.scope.names.lookup y=Y .local)(hi:PI X r l w)(ag:R8 B g)(ho:∀i∈B,f[i]?=Y M)(Q:∀C s H T,PG (X.rM N c C s H T) r g/\HB (X.rM N c C s H T) u j/\PE (X.rM N c C s H T) t k)(U:dy (.ListComp t [⟨r,l,u,0⟩] c A) (Y (.Name y F)) n.line X.env=cQ Z')(hs:autoParam (∀x,cb l X.env x=cQ x) ũ):
  PS X (.Assign [.Name y F] (.ListComp t [⟨r,l,u,0⟩] c A) n) (WT (WQ w f g j k) (oK i)):=by
 intro p s σ H D I h;rw[exec_Assign_Name_used _ _ _ _ U];refine af (wpAny_standAt (af ?_));refine af (gJ (wpAny_comprehension_free (use:=Y (Za (.Name y F) X.env)) (Q:=λV E=>SP X p D .next E) rfl hs (Hs S I) S.kind (λx hx K=>by rw[S.uniq x hx,K])
  (Dw S hc hi ag ho Q I h ?_))
  (λV E hq=>ax (ax hq)) λV V e=>e)
 intro d C E H' J P hn hL h1 h2 h3 q;let⟨m,P⟩:=P;refine wpAny_assign_Name (Ck J hN hy (.inl K) (v :=.ref d) rfl (λL J' G =>?_) (.inr K));let⟨a,sb,ha⟩:=G;let R:C≠a:=by
  rcases ha with z|z
  .rw[z];exact hL
  .exact λe=>h2 _ _ z e.symm
 exact⟨m,P.sameBut sb R,λh' O=>⟨_,H',J'.turned (h':=h') (t':=L.toks) (λb o Q e=>O.extBut b o Q e) hn hL h1 h2 h3,q⟩⟩
end
def Ml(K:aP)(G:Hp)(a:aw)(d:List V):Prop:=
 G a=Y (.tup d)\/∃(o:Obj) (b:Array aj) (n:Nat),K.lookup a=Y o/\o.cls=.type "tuple" /\o.dict=M/\o.data=.seq b n/\b.size<=aU/\b8 d b.toList
def Ml.mono{K:aP}{a:aw}(e:bz H H')(h:Ml K H a xs):Ml K H' a xs:=h.imp (e _ _) id
def Ml.sq{K:aP}{a:aw}(e:bz H H')(h:Ml K H a xs):wN K H' a xs:=h.imp (λz =>.inl (e _ _ z)) λ⟨o,b,n,c,d,_,r⟩=>⟨o,b,n,c,d,r⟩
inductive Sk where
 |lf
 |li (s:Sk)
 |fs (c:aH) (fk:List (aH×Sk))
 |di
inductive Pt where
 |fld (f:aH)
 |ix (k:Nat)
abbrev B7:=List Pt
inductive D where
 |dr|bl (b:Bool)|int (i:Int)|str (x:aH)|lst (xs:List D)|tup (xs:List D)|kT (ns:List Int)
 |ins (c:aH) (ks:List aH) (ds:List D)
 |fS (ks:List iT) (ds:List D)
 |obj (s:Sk) (t:D)
 |kh (r:Nat) (p:B7)
mutual
def cX(K:aP)(G:Hp):D->V->Prop
 |.dr,v=>v=.dr|.bl b,v=>v=.bl b|.int i,v=>v=.int i|.str x,v=>v=.str x|.lst e,v=>∃a d,v=.ref a/\G a=Y (.lst d)/\bh K G e d|.tup e,v=>∃a d,v=.ref a/\Ml K G a d/\bh K G e d|.kT g,v=>∃a,v=.ref a/\mh K G a (g.map V.int)|.ins c f e,v=>∃a C h d,v=.ref a/\wF K bq c=Y (Y (.ref C))/\G a=Y (.ins C h (f.zip d))/\f.length=e.length/\bh K G e d
 |.fS f e,v=>∃a d,v=.ref a/\(∃n,G a=Y (.dK (f.zip d) n))/\f.length=e.length/\bh K G e d|.obj _ t,v=>cX K G t v|.kh _ _,v=>∃a,v=.ref a
def bh(K:aP)(G:Hp):List D->List V->Prop
 |[],a=>a=[]|d::b,a=>∃v r,a=v::r/\cX K G d v/\bh K G b r
end
mutual
theorem cX.mono{K:aP}(s:bz G G'):∀(d:D){v:V},cX K G d v->cX K G' d v
 |.dr,v,h=>by solve_by_elim
 |.bl _,v,h=>by solve_by_elim
 |.int _,v,h=>by solve_by_elim
 |.str _,v,h=>by solve_by_elim
 |.lst f,v,h=>by let⟨a,b,e,q,r⟩:=h;exact⟨a,b,e,s _ _ q,bh.mono s f r⟩
 |.tup f,v,h=>by let⟨a,b,e,q,r⟩:=h;exact⟨a,b,e,q.mono s,bh.mono s f r⟩
 |.kT j,v,h=>by let⟨a,e,q⟩:=h;exact⟨a,e,s.seq q⟩
 |.ins c g f,v,h=>by simp only[cX]at h ⊢;let⟨a,C,i,b,e,n,q,l,r⟩:=h;exact⟨a,C,i,b,e,n,s _ _ q,l,bh.mono s f r⟩
 |.fS g f,v,h=>by obtain⟨a,b,e,⟨n,q⟩,l,r⟩:=h;exact⟨a,b,e,⟨n,s _ _ q⟩,l,bh.mono s f r⟩
 |.obj _ t,v,h=>by exact cX.mono s t h
 |.kh _ _,v,h=>by solve_by_elim
theorem bh.mono{K:aP}(s:bz G G'):∀(b:List D){a:List V},bh K G b a->bh K G' b a
 |[],a,h=>by solve_by_elim
 |d::b,a,h=>by simp only[bh]at h ⊢;let⟨v,r,e,q,t⟩:=h;exact⟨v,r,e,cX.mono s d q,bh.mono s b t⟩
end
section
variable {K:aP}
def iO{v:V}:cX K G .dr v↔v=.dr:=by solve_by_elim
def b_{v:V}:cX K G (.bl b) v↔v=.bl b:=by solve_by_elim
def cG{v:V}:cX K G (.int i) v↔v=.int i:=by solve_by_elim
def dI{v:V}:cX K G (.str x) v↔v=.str x:=by solve_by_elim
def cB{v:V}:cX K G (.lst c) v↔∃a b,v=.ref a/\G a=Y (.lst b)/\bh K G c b:=by solve_by_elim
def d5{v:V}:cX K G (.tup c) v↔∃a b,v=.ref a/\Ml K G a b/\bh K G c b:=by solve_by_elim
def lW{v:V}:(∃a b,v=.ref a/\G a=Y (.tup b)/\bh K G c b)->cX K G (.tup c) v:=λ⟨a,b,e,q,r⟩=>d5.mpr ⟨a,b,e,.inl q,r⟩
def KJ{v:V}:cX K G (.kT b) v↔∃a,v=.ref a/\mh K G a (b.map V.int):=by solve_by_elim
def mL{v:V}:cX K G (.ins c b d) v↔∃a C f e,v=.ref a/\wF K bq c=Y (Y (.ref C))/\G a=Y (.ins C f (b.zip e))/\b.length=d.length/\bh K G d e:=by solve_by_elim
def mM{v:V}:cX K G (.fS b c) v↔∃a d,v=.ref a/\(∃n,G a=Y (.dK (b.zip d) n))/\b.length=c.length/\bh K G c d:=by solve_by_elim
def qw{s:Sk}{v:V}:cX K G (.obj s t) v↔cX K G t v:=by solve_by_elim
def yR{v:V}:cX K G (.kh r p) v↔∃a,v=.ref a:=by solve_by_elim
def dU:bh K G [] a↔a=[]:=by solve_by_elim
def bH:bh K G (d::b) a↔∃v r,a=v::r/\cX K G d v/\bh K G b r:=by solve_by_elim
def bh.cons{d:D}{v:V}(h:cX K G d v)(t:bh K G b a):bh K G (d::b) (v::a):=bH.mpr ⟨v,a,rfl,h,t⟩
def bh.nil:bh K G [] []:=dU.mpr rfl
theorem bh.length:∀ {ds:List D}{a:List V},bh K G ds a->ds.length=a.length
 |[],a,h=>by rw[dU.mp h];rfl
 |d::ds,a,h=>by let⟨v,r,rfl,_,t⟩:=bH.mp h;simp[bh.length t]
theorem bh.get:∀ {b:List D}{a:List V}{i:Nat}{d:D},bh K G b a->b[i]?=Y d->∃v,a[i]?=Y v/\cX K G d v
 |[],a,i,d,h,e=>by simp at e
 | c::b,a,0,d,h,e=>by
  let⟨v,r,rfl,_⟩:=bH.mp h
  simp_all
 |c::b,a,i+1,d,h,e=>by let⟨v,r,rfl,q,t⟩:=bH.mp h;let⟨u,g,f⟩:=bh.get t (by simpa using e);exact⟨u,Ż,f⟩
def bh.gZ:∀ {a:List D}{b:List V}{i:Nat}{v:V},bh K G a b->b[i]?=Y v->∃d,a[i]?=Y d/\cX K G d v:=fun {a b i v} h e=>by
 let g:=h.length;have c:i<a.length:=by rw[g];exact(au.mp e).1
 let⟨u,f,j⟩:=h.get (aS c);rw[e]at f;cases f;exact⟨_,aS c,j⟩
theorem bh.append:∀ {e c:List D}{a b:List V},bh K G e a->bh K G c b->bh K G (e++c) (a++b)
 |[],c,a,b,h,k=>by rw[dU.mp h];exact k
 |d::e,c,a,b,h,k=>by let⟨v,r,rfl,q,t⟩:=bH.mp h;exact .cons q (bh.append t k)
theorem bh.take:∀ {b:List D}{a:List V}(n:Nat),bh K G b a->bh K G (b.take n) (a.take n)
 |[],a,n,h=>by rw[dU.mp h];simp;exact .nil
 |d::b,a,0,h=>by solve_by_elim
 |d::b,a,n+1,h=>by let⟨v,r,rfl,q,t⟩:=bH.mp h;exact .cons q (bh.take n t)
theorem bh.drop:∀ {ds:List D}{a:List V}(n:Nat),bh K G ds a->bh K G (ds.drop n) (a.drop n)
 |[],a,n,h=>by rw[dU.mp h];simp;exact .nil
 |d::ds,a,0,h=>by simpa using h
 |d::ds,a,n+1,h=>by let⟨v,r,rfl,q,t⟩:=bH.mp h;exact bh.drop n t
theorem bh.set:∀ {b:List D}{a:List V}{d:D}{v:V}(n:Nat),bh K G b a->cX K G d v->bh K G (b.set n d) (a.set n v)
 |[],a,d,v,n,h,q=>by rw[dU.mp h];exact Ÿ
 |c::b,a,d,v,0,h,q=>by let⟨u,r,rfl,_,t⟩:=bH.mp h;exact .cons q t
 |c::b,a,d,v,n+1,h,q=>by let⟨u,r,rfl,p,t⟩:=bH.mp h;exact .cons p (bh.set n t q)
def bh.dropLast(h:bh K G b a):bh K G b.dropLast a.dropLast:=by
 rw[n_,n_,h.length];exact h.take _
theorem bh.rep(h:bh K G b a):∀k:Nat,bh K G (bG k b).flatten (bG k a).flatten
 |0 =>.nil|k+1=>by exact h.append (bh.rep h k)
theorem bh.ints:∀(a:List Int),bh K G (a.map D.int) (a.map V.int)
 |[] =>.nil|n::a =>.cons (cG.mpr rfl) (bh.ints a)
end
structure gc(G H G' H':Hp):Prop where
 hh:bz H H'
 gg:bz G G'
 gh:bz G' H'
 fr:∀b o,G' b=some o->G b=some o\/H b=none
def gc.refl(s:bz G H):gc G H G H:=⟨bz.refl _,bz.refl _,s,λa a e =>.inl e⟩
def gc.trans{f:Hp}(a:gc G H h f)(b:gc h f g d):gc G H g d:=
 ⟨a.hh.trans b.hh,a.gg.trans b.gg,b.gh,λc o e=>by
  rcases b.fr c o e with q|q
  .exact a.fr c o q
  .exact .inr (a.hh.free q)⟩
def bz.alloc{p:aw}{o:HO}(h:H p=M):bz H (dA H p o):=λb u e=>by rw[aR (bp e h)];exact e
def bz.both(s:bz G H):bz (dA G p o) (dA H p o):=λb u e=>by
 by_cases a:b=p
 .simp_all [a_]
 .rw[aR a]at e ⊢;exact s _ _ e
def gc.alloc{p:aw}{o:HO}(s:bz G H)(h:H p=M):gc G H (dA G p o) (dA H p o):=
 ⟨.alloc h,.alloc (s.free h),s.both,λb u e=>by grind [aR]⟩
def gc.lay{p:aw}{o:HO}(s:bz G H)(h:H p=M):gc G H G (dA H p o):=
 ⟨.alloc h,bz.refl _,s.trans (.alloc h),λa a e =>.inl e⟩
def gc.freeze(E:gc G H G' c)(h:H p=M)(g:G' p=M)(e:c p=Y o):gc G H (dA G' p o) c:=
 ⟨E.hh,E.gg.trans (.alloc g),λb u q=>by
  by_cases a:b=p
  .simp_all [a_]
  .rw[aR a]at q;exact E.gh _ _ q,λb u q=>by
  by_cases a:b=p
  .simp_all
  .rw[aR a]at q;exact E.fr _ _ q⟩
def kj(K:aP)(G:Hp):D->HO->Prop
 |.lst b,o=>∃a,o=.lst a/\bh K G b a|.ins c d b,o=>∃C e a,o=.ins C e (d.zip a)/\wF K bq c=Y (Y (.ref C))/\d.length=b.length/\bh K G b a|.fS d b,o=>∃a,(∃n,o=.dK (d.zip a) n)/\d.length=b.length/\bh K G b a|_,_=>False
section
variable {K:aP}
def kj.mono(s:bz G G'){d:D}(h:kj K G d o):kj K G' d o:=by
 cases d with
 |lst b=>let⟨a,e,r⟩:=h;exact⟨a,e,bh.mono s b r⟩
 |ins c f b=>let⟨C,g,a,e,n,l,r⟩:=h;exact⟨C,g,a,e,n,l,bh.mono s b r⟩
 |fS f b=>let⟨a,e,l,r⟩:=h;exact⟨a,e,l,bh.mono s b r⟩
 |_=>exact h.elim
def kj.rep{d:D}(h:kj K G d o)(e:G a=Y o):cX K G d (.ref a):=by
 cases d with
 |lst f=>let⟨b,rfl,r⟩:=h;exact cB.mpr ⟨a,b,rfl,e,r⟩
 |ins c g f=>let⟨C,i,b,rfl,n,l,r⟩:=h;exact mL.mpr ⟨a,C,i,b,rfl,n,e,l,r⟩
 |fS g f=>obtain⟨b,⟨n,rfl⟩,l,r⟩:=h;exact mM.mpr ⟨a,b,rfl,⟨n,e⟩,l,r⟩
 |_=>exact h.elim
end
end L2
namespace L2
open PySem
noncomputable def eN(a:List (aH×Sk))(k:aH):Sk:=(a.lookup k).getD .lf
mutual
inductive dw (K:aP) (G H:Hp):Sk->D->V->List aw->Prop
 |leaf {d:D}{v:V}:cX K G d v->dw K G H .lf d v []
 |lst {s:Sk}{ds:List D}{a:aw}{vs:List V}{S:List aw}:H a=some (.lst vs)->jE K G H (bG ds.length s) ds vs S->dw K G H (.li s) (.lst ds) (.ref a) (a::S)
 | ins {c:aH}{ks:List aH}{fk:List (aH×Sk)}{ds:List D}{a C dx:aw}{vs:List V}{S:List aw}:wF K bq c=some (some (.ref C))->H a=some (.ins C dx (ks.zip vs))->ks.length=ds.length ->
   jE K G H (ks.map (eN fk)) ds vs S->dw K G H (.fs c fk) (.ins c ks ds) (.ref a) (a::S)
 |fS {ks:List iT}{ds:List D}{a:aw}{vs:List V}{n:Nat}:H a=some (.dK (ks.zip vs) n)->ks.length=ds.length->bh K G ds vs->dw K G H .di (.fS ks ds) (.ref a) [a]
inductive jE (K:aP) (G H:Hp):List Sk->List D->List V->List aw->Prop
 |nil:jE K G H [] [] [] []
 |cons {s:Sk}{ss:List Sk}{d:D}{ds:List D}{v:V}{vs:List V}{S T:List aw}:dw K G H s d v S->jE K G H ss ds vs T->jE K G H (s::ss) (d::ds) (v::vs) (S++T)
end
section
variable {K:aP}{f:Hp}
def dw.mono{d:D}{v:V}{S:List aw}(g:bz G f)(h:∀b∈S,∀o,H b=Y o->i b=Y o)(x:dw K G H c d v S):dw K f i c d v S:=by
 induction x using dw.rec (motive_2:=λe j d S m=>(∀b∈S,∀o,H b=Y o->i b=Y o)->jE K f i e j d S) with
 |leaf r=>exact .leaf (cX.mono g _ r)|lst e t j=>exact .lst (h _ aM _ e) Ż
 |ins n e l t j=>exact .ins n (h _ aM _ e) l Ż
 |fS e l t=>exact .fS (h _ aM _ e) l (bh.mono g _ t)|nil=>exact .nil|cons a t j k=>exact .cons Ż Ż
def jE.mono{d:List V}{S:List aw}(g:bz G f)(h:∀b∈S,∀o,H b=Y o->i b=Y o)(x:jE K G H e j d S):jE K f i e j d S:=by
 induction x using jE.rec (motive_1:=λl l l l l=>True) with
 |nil=>exact .nil|cons a t _ k=>exact .cons (dw.mono g (λb c=>h b Ż) a) Ż
 |_=>trivial
def IT(H:Hp)(b:aw):Prop:=∃o,H b=Y o/\∀a,o ≠ .tup a
def dw.here{v:V}{S:List aw}(x:dw K G H g d v S):∀b∈S,IT H b:=by
 induction x using dw.rec (motive_2:=λc c c S c=>∀b∈S,IT H b) with
 |lst e t j=>exact pE.2 ⟨⟨_,e,nofun⟩,j⟩
 |ins n e l t j=>exact pE.2 ⟨⟨_,e,nofun⟩,j⟩
 |fS e l t=>exact pE.2 ⟨⟨_,e,nofun⟩,nofun⟩
 |cons a t j k=>grind|leaf=>exact nofun
 |nil=>contradiction
def jE.length{ds:List D}{a:List V}{S:List aw}(h:jE K G H ss ds a S):ds.length=a.length/\ss.length=ds.length:=by
 induction ds generalizing ss a S with
 |nil=>cases h;simp_all| cons d ds ih=>cases h with
  |cons _ t=>have:=ih t;simp[this.1,this.2]
noncomputable def k_(G H:Hp)(S:List aw):Hp:=λb=>if b∈S then H b else G b
noncomputable def jS(G:Hp)(S:List aw):Hp:=λb=>if b∈S then M else G b
def qy{S:List aw}(h:b∈S):k_ G H S b=H b:=by simp[k_,h]
theorem nH{S:List aw}(h:b∉S):k_ G H S b=G b:=by simp[k_,h]
theorem mQ{S:List aw}(h:b∈S):jS G S b=none:=by simp[jS,h]
theorem dX{S:List aw}(h:b∉S):jS G S b=G b:=by simp[jS,h]
def pQ{S:List aw}(n:∀b∈S,G b=M):bz G (k_ G H S):=λb o e=>by
 grind [nH]
def pR{S:List aw}(s:bz G H):bz (k_ G H S) H:=λb o e=>by
 by_cases a:b∈S
 .simp_all [qy]
 .rw[nH a]at e;exact s b o e
def dw.frozen{d:D}{v:V}{S:List aw}(n:∀b∈T,G b=M)(a:∀b∈S,b∈T)(x:dw K G H g d v S):cX K (k_ G H T) d v:=by
 induction x using dw.rec (motive_2:=λc g e S c=>(∀b∈S,b∈T)->bh K (k_ G H T) g e) with
 |leaf r=>exact cX.mono (pQ n) _ r|lst e t j=>exact cB.mpr ⟨_,_,rfl,by rw[qy (by simp_all)];exact e,Ż⟩
 |ins h e l t j=>exact mL.mpr ⟨_,_,_,_,rfl,h,by rw[qy (by simp_all)];exact e,l,Ż⟩
 |fS e l t=>exact mM.mpr ⟨_,_,rfl,⟨_,by rw[qy (a _ aM)];exact e⟩,l,bh.mono (pQ n) _ t⟩
 |nil=>solve_by_elim|cons a t j k=>exact bH.mpr ⟨_,_,rfl,Ż,Ż⟩
mutual
def Ad:D->Bool
 |.dr=>Z'|.bl _=>Z'|.int _=>Z'|.str _=>Z'|.lst _=>Z_|.tup a=>yT a|.kT _=>Z_|.ins _ _ _=>Z_|.fS _ _=>Z_|.obj _ _=>Z_|.kh _ _=>Z_
def yT:List D->Bool
 |[]=>Z'|d::a=>Ad d&&yT a
end
mutual
theorem FY{S:List aw}{d:D}(n:∀b∈S,∀c,G b≠Y (.tup c)){v:V}(p:Ad d=Z')(r:cX K G d v):cX K (jS G S) d v:=by
 cases d with
 |tup h=>let⟨a,c,rfl,e,q⟩:=d5.mp r;exact d5.mpr ⟨a,c,rfl,e.imp λe=>by grind [dX] id,CC n (by simpa only [Ad] using p) q⟩
 |_=>first|cases p;done|simpa only [cX] using r
theorem CC{S:List aw}{c:List D}(n:∀b∈S,∀a,G b≠Y (.tup a)){a:List V}(p:yT c=Z')(r:bh K G c a):bh K (jS G S) c a:=by
 cases c with
 |nil=>solve_by_elim|cons d c=>let⟨v,t,rfl,g,e⟩:=bH.mp r;simp only[yT,aK]at p;exact bH.mpr ⟨v,t,rfl,FY n p.1 g,CC n p.2 e⟩
end
def G_{S:List aw}(s:bz G H)(n:∀b∈S,G b=M)(o:∀b∈S,IT H b)(E:gc (k_ G H S) H f i):gc G H (jS f S) i/\∀b∈S,∀c,f b≠Y (.tup c):=by
 refine⟨⟨E.hh,λb u e =>?_,λb u e =>?_,λb u e =>?_⟩,λb a c z =>?_⟩
 .have a:b∉S:=λz=>by simp_all
  rw[dX a];exact E.gg b u (by simp_all [nH])
 .by_cases a:b∈S
  .simp_all [mQ]
  .rw[dX a]at e;exact E.gh b u e
 .by_cases a:b∈S
  .simp_all [mQ]
  .rw[dX a]at e;rcases E.fr b u e with q|q
   .simp_all [nH]
   simp_all
 .let⟨u,_⟩:=o b a;have:=E.gg b u (by simp_all [qy])
  simp_all
end
noncomputable def DI(f:aH):List aH->Option Nat
 |[]=>M|k::ks=>if f==k then Y 0 else (DI f ks).map (· + 1)
set_option tactic.hygienic true in
theorem qA{f:aH}:∀ {a:List aH}{n:Nat},DI f a=Y n->a[n]?=Y f
 |[],n,h=>by cases h
 | k::a,n,h=>by
  unfold DI at h;split at h
  .rename_i e;cases h<;>simp_all
  .let⟨m,e,h⟩:=ai.1 h;cases h;simpa using qA e
theorem lL{f:aH}:∀ {a:List aH}{n:Nat}{xs:List b},DI f a=Y n->(a.zip xs).lookup f=xs[n]?
 |[],n,xs,h=>by cases h
 |k::a,n,[],h=>by simp
 | k::a,n,x::xs,h=>by
  unfold DI at h;simp only[eJ,kQ];cases e:f==k with
  |true=>rw[e]at h;simp at h;subst h;rfl|false=>
   rw[e]at h;rcases e2:DI f a with _|m
   .simp_all
   rw[e2]at h;simp at h;subst h;simpa using lL e2
noncomputable def sC:B7->D->Option D
 |[],d=>Y d|.fld f::p,.ins _ b a=>(DI f b).bind λn=>(a[n]?).bind (sC p)
 |.ix k::p,.lst a=>(a[k]?).bind (sC p)|_::_,_=>M
noncomputable def pI(x:D):B7->D->D
 |[],_=>x|.fld f::p,.ins c b a=>match DI f b with|none =>.ins c b a|some n=>match a[n]? with|none =>.ins c b a|some d =>.ins c b (a.set n (pI x p d))
 |.ix k::p,.lst a=>match a[k]? with|none =>.lst a|some d =>.lst (a.set k (pI x p d))
 |_::_,d=>d
noncomputable def rF:B7->Sk->Option Sk
 |[],s=>Y s|.fld f::p,.fs _ a=>rF p (eN a f)|.ix _::p,.li s=>rF p s|_::_,_=>M
noncomputable def gZ(H:Hp):B7->V->Option V
 |[],v=>Y v|.fld f::p,.ref a=>match H a with|some (.ins _ _ c)=>(c.lookup f).bind (gZ H p)|_=>M
 |.ix k::p,.ref a=>match H a with|some (.lst b)=>(b[k]?).bind (gZ H p)|_=>M
 |_::_,_=>M
section
variable {K:aP}
theorem jE.at{i:List Sk}{ds:List D}{vs:List V}{S:List aw}(h:jE K G H i ds vs S):∀ {n:Nat}{s:Sk}{d:D},i[n]?=Y s->ds[n]?=Y d->∃v T U,vs[n]?=Y v/\dw K G H s d v T/\S.Perm (T++U) /\
  ∀(G' H':Hp) (j:Sk) (x:D) (u:V) (f:List aw),bz G G'->(∀b∈U,∀o,H b=Y o->H' b=Y o)->dw K G' H' j x u f->∃S',jE K G' H' (i.set n j) (ds.set n x) (vs.set n u) S'/\S'.Perm (f++U):=by
 induction ds generalizing i vs S with
 |nil=>intro n s d _ e;simp at e
 |cons c ds ih=>
  intro n s d es e;cases h with
  |@cons C i _ _ v vs S1 p a t=>
   cases n with
   |zero=>simp at e es;subst e;subst es;exact⟨v,S1,p,rfl,a,.rfl,λG' H' j x u f g k l=>⟨f++p,.cons l (t.mono g k),.rfl⟩⟩
   |succ n=>
    let⟨w,T,U,B,z,r,A⟩:=ih t es e;refine⟨w,T,S1++U,by simpa using B,z,?_,λG' H' j x u f g k l =>?_⟩
    .exact((r.append_left S1).trans (cn S1 T U))
    .let⟨S',y,q⟩:=A G' H' j x u f g (λb m=>k b (aQ _ m)) l;exact⟨S1++S',.cons (a.mono g λb m=>k b (aW _ m)) y,(q.append_left S1).trans (cn S1 f U)⟩
theorem jP{a:Type}:∀ {l:List a}{n:Nat}{x:a},l[n]?=Y x->l.set n x=l
 |[],n,x,h=>by simp at h
 |y::l,0,x,h=>by simp_all
 |y::l,n+1,x,h=>by simp at h;simp[jP h]
theorem dw.focus:∀ {p:B7}{P k:Sk}{d O:D}{v:V}{S:List aw},dw K G H P d v S->rF p P=Y k->sC p d=Y O->∃v' T U,gZ H p v=Y v'/\dw K G H k O v' T/\S.Perm (T++U) /\
  ∀(J I:Hp) (x:D) (w:List aw),bz G J->(∀b∈U,∀o,H b=Y o->I b=Y o)->dw K J I k x v' w->∃S',dw K J I P (pI x p d) v S'/\S'.Perm (w++U)
 |[],P,k,d,O,v,S,h,u,z=>by cases u;cases z;exact⟨v,S,[],rfl,h,ż,λJ I x w g r ox=>⟨w,ox,ż⟩⟩
 | .fld f::p,P,k,d,O,v,S,h,u,z=>by
  cases h with
  |@ins c ks fk L a C dx vs S n e l t=>
   let u:rF p _=Y k:=u;let z:=z;let⟨m,ei,z⟩:=aa.1 z;have A:(ks.map (eN fk))[m]?=Y (eN fk f):=by rw[aT,qA ei];rfl
   generalize eN fk f=s1 at u A
   .let⟨d1,B,z⟩:=aa.1 z;let⟨v1,T1,i,X,o1,p1,k1⟩:=t.at A B;let⟨Q,F,j,q2,o2,p2,k2⟩:=dw.focus o1 u z;let hv:gZ H (.fld f::p) (.ref a)=Y Q:=by simp only[gZ,e];rw[lL ei,X];exact q2
    refine⟨Q,F,j++(a::i),hv,o2,?_,λJ I y w g r oy =>?_⟩
    .refine((p1.trans (p2.append_right i)).cons a).trans ?_;let q:(a::(F++j++i)).Perm ((F++j)++(a::i)):=by simpa using cn [a] (F++j) i
     exact q.trans (qm ż)
    .let⟨S1,o3,p3⟩:=k2 J I y w g (λb N=>r b (aW _ N)) oy;let⟨S2,R,p4⟩:=k1 J I s1 _ v1 S1 g (λb N=>r b (aQ _ (aB _ N))) o3;rw[jP A,jP X]at R;refine⟨a::S2,?_,?_⟩
     .let E:pI y (.fld f::p) (.ins c ks L)=.ins c ks (L.set m (pI y p d1)):=by simp only[pI,ei,B]
      rw[E];exact .ins n (r a (aQ _ aM) _ e) Ż R
     .refine((p4.trans (p3.append_right i)).cons a).trans ?_;let q:(a::(w++j++i)).Perm ((w++j)++(a::i)):=by simpa using cn [a] (w++j) i
      exact q.trans (qm ż)
  |_=>cases u
 | .ix m::p,P,k,d,O,v,S,h,u,z=>by
  cases h with
  |@lst s L a vs S e t=>
   let z:(L[m]?).bind (sC p)=Y O:=z;let⟨d1,B,z⟩:=aa.1 z;have hm:m<L.length:=(au.mp B).1;have A:(bG L.length s)[m]?=Y s:=by simp[hm]
   let⟨v1,T1,i,X,o1,p1,k1⟩:=t.at A B;let⟨Q,F,j,q2,o2,p2,k2⟩:=dw.focus o1 (u) z;let hv:gZ H (.ix m::p) (.ref a)=Y Q:=by simp only[gZ,e];rw[X];exact q2
   refine⟨Q,F,j++(a::i),hv,o2,?_,λJ I y w g r oy =>?_⟩
   .refine((p1.trans (p2.append_right i)).cons a).trans ?_;let q:(a::(F++j++i)).Perm ((F++j)++(a::i)):=by simpa using cn [a] (F++j) i
    exact q.trans (qm ż)
   .let⟨S1,o3,p3⟩:=k2 J I y w g (λb N=>r b (aW _ N)) oy;let⟨S2,R,p4⟩:=k1 J I s (pI y p d1) v1 S1 g (λb N=>r b (aQ _ (aB _ N))) o3;rw[jP A,jP X]at R;refine⟨a::S2,?_,?_⟩
    .let E:pI y (.ix m::p) (.lst L)=.lst (L.set m (pI y p d1)):=by simp only[pI,B]
     rw[E];exact .lst (r a (aQ _ aM) _ e) Ż
    .refine((p4.trans (p3.append_right i)).cons a).trans ?_;let q:(a::(w++j++i)).Perm ((w++j)++(a::i)):=by simpa using cn [a] (w++j) i
     exact q.trans (qm ż)
  |_=>cases u
theorem lu(s:bz H H'):∀ {p:B7}{v b:V},gZ H p v=Y b->gZ H' p v=Y b
 |[],v,b,h=>h| .fld f::p,.ref a,b,h=>by
  simp only[gZ]at h ⊢;rcases e:H a with _|o
  .rw[e]at h;cases h
  rw[e]at h;rw[s _ _ e];cases o<;>simp only at h ⊢<;>try (cases h)
  let⟨u,e2,h⟩:=aa.1 h;rw[e2];exact lu s h
 | .ix k::p,.ref a,b,h=>by
  simp only[gZ]at h ⊢;rcases e:H a with _|o
  .simp_all
  rw[e]at h;rw[s _ _ e];cases o<;>simp only at h ⊢<;>try (cases h)
  let⟨u,e2,h⟩:=aa.1 h;rw[e2];exact lu s h
 |.fld f::p,.dr,b,h=>by cases h
 |.fld f::p,.bl _,b,h=>by cases h
 |.fld f::p,.int _,b,h=>by cases h
 |.fld f::p,.str _,b,h=>by cases h
 |.fld f::p,.J_ _,b,h=>by cases h
 |.fld f::p,.Sy _,b,h=>by cases h
 |.fld f::p,.ty _,b,h=>by cases h
 |.ix f::p,.dr,b,h=>by cases h
 |.ix f::p,.bl _,b,h=>by cases h
 |.ix f::p,.int _,b,h=>by cases h
 |.ix f::p,.str _,b,h=>by cases h
 |.ix f::p,.J_ _,b,h=>by cases h
 |.ix f::p,.Sy _,b,h=>by cases h
 |.ix f::p,.ty _,b,h=>by cases h
theorem Aa(s:bz G H):∀ {p:B7}{d g:D}{v:V},cX K G d v->sC p d=Y g->∃y,gZ H p v=Y y/\cX K G g y
 |[],d,g,v,r,e=>by cases e;exact⟨v,rfl,r⟩
 | .fld f::p,d,g,v,r,e=>by
  cases d with
  |ins c A x=>let⟨a,C,F,z,rfl,n,j,l,i⟩:=mL.mp r;let⟨m,B,e⟩:=aa.1 e;let⟨E,t,e⟩:=aa.1 e;let⟨u,q,h⟩:=i.get t;let⟨w,o,b⟩:=Aa s h e;refine⟨w,?_,b⟩;simp only[gZ,s _ _ j];rw[lL B,q];exact o
  |_=>cases e
 | .ix k::p,d,g,v,r,e=>by
  cases d with
  |lst x=>
   let⟨a,z,rfl,j,i⟩:=cB.mp r;let⟨E,t,e⟩:=aa.1 e;let⟨u,q,h⟩:=i.get t;obtain _:=Aa s h e;simp only[gZ,s _ _ j]
   simp_all
  |_=>cases e
theorem zt{f:aH}:∀ {ks:List aH}{vs:List V}{u:V},(ks.zip vs).lookup f=Y u->∃m,DI f ks=Y m/\vs[m]?=Y u
 |[],vs,u,h=>by simp at h
 |k::ks,[],u,h=>by simp at h
 | k::ks,v::vs,u,h=>by
  simp only[eJ,kQ]at h;cases e:f==k with
  |true=>rw[e]at h;cases h;exact⟨0,by simp[DI,e],rfl⟩
  |false=>
   rw[e]at h;let⟨m,b,a⟩:=zt h
   simp_all [DI]
theorem dw.Et:∀ {p:B7}{y i:Sk}{d:D}{v x:V}{S:List aw},dw K G H y d v S->rF p y=Y i->(∀b∈S,∀o,H b=Y o->H' b=Y o)->gZ H p v=Y x->gZ H' p v=Y x
 |[],y,i,d,v,x,S,h,g,k,e=>e| .fld f::p,y,i,d,v,x,S,h,g,k,e=>by
  cases h with
  |@ins c N r E a C X F S n z l t=>
   simp only[gZ,z]at e;simp only[gZ,k a aM _ z];let⟨u,j,e⟩:=aa.1 e;rw[j];let⟨m,R,O⟩:=zt j;let w:(N.map (eN r))[m]?=Y (eN r f):=by rw[aT,qA R];rfl
   have B:m<E.length:=by rw[t.length.1];exact(au.mp O).1
   let⟨P,U,T,A,J,I,Q⟩:=t.at w (aS B);rw[O]at A;cases A;exact dw.Et J g (λb L o q=>k b (aB _ (I.symm.subset (aW _ L))) o q) e
  |_=>cases g
 | .ix m::p,y,i,d,v,x,S,h,g,k,e=>by
  cases h with
  |@lst s E a F S z t=>
   simp only[gZ,z]at e;simp only[gZ,k a aM _ z];let⟨u,j,e⟩:=aa.1 e;rw[j];have B:m<E.length:=by rw[t.length.1];exact(au.mp j).1
   let w:(bG E.length s)[m]?=Y s:=by simp[B]
   let⟨P,U,T,A,J,I,Q⟩:=t.at w (aS B);rw[j]at A;cases A;exact dw.Et J g (λb L o q=>k b (aB _ (I.symm.subset (aW _ L))) o q) e
  |_=>cases g
noncomputable def GY:B7->List aH
 |[]=>[]|.fld f::p=>f::GY p|.ix _::p=>GY p
set_option tactic.hygienic true in
theorem vZ{s m:List (aH×V)}(j:H x=Y (.ins C A s))(i:H' x=Y (.ins B t m))(l:∀b,b≠x->∀o,H b=Y o->H' b=Y o):∀ {p:B7}{v d:V},(∀g∈GY p,m.lookup g=s.lookup g)->gZ H p v=Y d->gZ H' p v=Y d
 |[],v,d,c,h=>h| .fld g::p,.ref a,d,c,h=>by
  simp only[gZ]at h ⊢;by_cases n:a=x
  .subst n;rw[j]at h;rw[i];simp only at h ⊢;rw[c g (by simp[GY])];let⟨u,e2,h⟩:=aa.1 h;rw[e2];exact vZ j i l (p:=p) (λg q=>c g (by simp[GY,q])) h
  .rcases e:H a with _|o
   .rw[e]at h;cases h
   rw[e]at h;rw[l a n _ e];cases o<;>simp only at h ⊢<;>try (cases h;done)
   rename_i D y r;let⟨u,e2,h⟩:=aa.1 h;rw[e2];exact vZ j i l (p:=p) (λg q=>c g (by simp[GY,q])) h
 | .ix k::p,.ref a,d,c,h=>by
  simp only[gZ]at h ⊢;rcases e:H a with _|o
  .simp_all
  rw[e]at h;cases o<;>simp only at h<;>try (cases h;done)
  rename_i w;let n:a≠x:=λz=>by simp_all
  rw[l a n _ e];simp only;let⟨u,e2,h⟩:=aa.1 h;rw[e2];exact vZ j i l (p:=p) c h
 |.fld f::p,.dr,d,c,h=>by cases h
 |.fld f::p,.bl _,d,c,h=>by cases h
 |.fld f::p,.int _,d,c,h=>by cases h
 |.fld f::p,.str _,d,c,h=>by cases h
 |.fld f::p,.J_ _,d,c,h=>by cases h
 |.fld f::p,.Sy _,d,c,h=>by cases h
 |.fld f::p,.ty _,d,c,h=>by cases h
 |.ix f::p,.dr,d,c,h=>by cases h
 |.ix f::p,.bl _,d,c,h=>by cases h
 |.ix f::p,.int _,d,c,h=>by cases h
 |.ix f::p,.str _,d,c,h=>by cases h
 |.ix f::p,.J_ _,d,c,h=>by cases h
 |.ix f::p,.Sy _,d,c,h=>by cases h
 |.ix f::p,.ty _,d,c,h=>by cases h
noncomputable def oj(f:aH)(d:D):List aH->List D->List aH×List D
 |k::a,x::b=>if k=f then (k::a,d::b) else (k::(oj f d a b).1,x::(oj f d a b).2)
 |_,_=>([f],[d])
theorem F4{f:aH}{v:V}{m:List aw}(s:dw K G H (eN j f) d v m):∀ {b:List aH}{c:List D}{i:List V}{S:List aw},b.length=c.length->jE K G H (b.map (eN j)) c i S ->
  ∃g o R,nF f v (b.zip i)=(oj f d b c).1.zip g/\(oj f d b c).1.length=(oj f d b c).2.length/\jE K G H ((oj f d b c).1.map (eN j)) (oj f d b c).2 g o/\o.Perm (m++R)/\R.Sublist S
 |[],[],i,S,h,r=>by cases r;exact⟨[v],_,[],rfl,rfl,.cons s .nil,.rfl,.slnil⟩
 |[],x::c,i,S,h,r=>by simp at h
 |k::b,[],i,S,h,r=>by simp at h
 | k::b,x::c,i,S,h,r=>by
  cases r with
  |@cons _ _ _ _ u n T U a t=>
   simp at h;unfold oj;rw[show nF f v _=if k=f then (k,v)::b.zip n else (k,u)::nF f v _ from rfl];by_cases w:k=f
   .subst w;rw[if_pos rfl,if_pos rfl];exact⟨_,_,U,rfl,by simp[h],.cons s t,.rfl,List.sublist_append_right T U⟩
   .rw[if_neg w,if_neg w];let⟨g,o,R,e,l,q,p,z⟩:=F4 s h t;exact⟨_,_,_,Ÿ,by simp[l],.cons a q,(p.append_left T).trans (cn T m R),z.append_left T⟩
theorem dw.put{p:B7}{s:Sk}{v:V}{S1:List aw}{f:aH}{d:D}{u:V}(h:dw K G H s t v T)(nd:T.Nodup)(es:rF p s=Y (.fs c L))(ep:sC p t=Y (.ins c j A))(g:bz G G')(k:∀b∈T,∀o,H b=Y o->B b=Y o)(ov:dw K G' B (eN L f) d u S1)(X:S1.Nodup)(dj:∀b∈S1,b∉T):
  ∃x C y r,gZ H p v=Y (.ref x)/\x∈T/\wF K bq c=Y (Y (.ref C))/\H x=Y (.ins C y (j.zip r))/\j.length=A.length/\j.length=r.length /\
   ∃F,dw K G' (dA B x (.ins C y (nF f u (j.zip r)))) s (pI (.ins c (oj f d j A).1 (oj f d j A).2) p t) v F/\F.Nodup/\∀b∈F,b∈T\/b∈S1:=by
 let⟨v',T1,U,e1,o1,E,k1⟩:=h.focus es ep;cases o1 with
 |@ins _ _ _ _ x C y r J n ex l tt=>
  let m:(x::J++U).Nodup:=E.nodup_iff.mp nd;let hxS:x∉J:=λz=>by simp at m;exact m.1.1 z
  have hxU:x∉U:=λz=>by simp at m;exact m.1.2 z
  have O:x∈T:=E.symm.subset ż;have I:∀b∈J,b∈T:=λb i=>E.symm.subset (by simp[i])
  have UT:∀b∈U,b∈T:=λb i=>E.symm.subset (by simp[i])
  let x1:x∉S1:=λz=>dj x z O
  refine⟨x,C,y,r,e1,O,n,ex,l,by rw[l,tt.length.1],?_⟩;let Q:=tt.mono g λb i o e=>k b (I b i) o e
  let⟨P,S',R,z1,z2,z3,N,W⟩:=F4 ov l Q;let hx':∀b∈S',b≠x:=λb i z=>by
   subst z;rcases aA.mp (N.subset i) with q|q
   .exact x1 q
   .exact hxS (W.subset q)
  let oo:dw K G' (dA B x (.ins C y (nF f u (j.zip r)))) (.fs c L) _ (.ref x) (x::S'):=
   .ins (dx:=y) (vs:=P) n (by rw[a_,z1]) z2 (z3.mono (bz.refl _) λb i o e=>by rw[aR (hx' b i)];exact e)
  let⟨F,o2,p2⟩:=k1 G' _ _ _ g (λb i o e=>by let hb2:b≠x:=λz=>hxU (z ▸ i);rw[aR hb2];exact k b (UT b i) o e) oo;refine⟨F,o2,?_,λb i =>?_⟩
  .rw[p2.nodup_iff];rw[(((N.cons x).append_right U)).nodup_iff];let w:(x::R++U).Sublist (x::J++U):=(W.cons_cons x).append_right U;let S:(x::R++U).Nodup:=m.sublist w;have:(x::(S1++R)++U).Perm (S1++(x::R++U)):=by simpa [bD] using cn [x] S1 (R++U)
   rw[this.nodup_iff,gm];refine⟨X,S,λa ha b i z =>?_⟩;subst z;exact dj a ha (E.symm.subset (w.subset i))
  .rcases aA.mp (p2.subset i) with q|q<;>grind
def jE.append{f:List D}{S:List aw}(h:jE K G H i f g S)(k:jE K G H c e b j):jE K G H (i++c) (f++e) (g++b) (S++j):=by
 induction f generalizing i g S with
 |nil=>cases h;exact k| cons d f ih=>cases h with
  |cons a t=>rw[bD];exact Ÿ
theorem dw.app{p:B7}{s:Sk}{v:V}{S1:List aw}{d:D}{u:V}{m:Hp}(h:dw K G H s t v T)(nd:T.Nodup)(es:rF p s=Y (.li n))(ep:sC p t=Y (.lst l))(g:bz G G')(k:∀b∈T,∀o,H b=Y o->m b=Y o)(R:dw K G' m n d u S1)(C:S1.Nodup)(O:∀b∈S1,b∉T):
  ∃x j,gZ H p v=Y (.ref x)/\x∈T/\H x=Y (.lst j)/\l.length=j.length /\
   ∃w,dw K G' (dA m x (.lst (j++[u]))) s (pI (.lst (l++[d])) p t) v w/\w.Nodup/\∀b∈w,b∈T\/b∈S1:=by
 let⟨v',T1,U,e1,o1,r,k1⟩:=h.focus es ep;cases o1 with
 |@lst _ _ x j i ex L=>
  let f:(x::i++U).Nodup:=r.nodup_iff.mp nd;let F:x∉i:=λz=>by simp at f;exact f.1.1 z
  have E:x∉U:=λz=>by simp at f;exact f.1.2 z
  have A:x∈T:=r.symm.subset ż;let y:∀b∈i,b∈T:=λb c=>r.symm.subset (by simp[c])
  have P:∀b∈U,b∈T:=λb c=>r.symm.subset (by simp[c])
  let Q:x∉S1:=λz=>O x z A
  refine⟨x,j,e1,A,ex,L.length.1,?_⟩;let B:jE K G' m (bG (l++[d]).length n) (l++[d]) (j++[u]) (i++(S1++[])):=by rw[aI,jY,List.replicate_succ'];exact(L.mono g λb c o e=>k b (y b c) o e).append (.cons R .nil)
  rw[br]at B;let I:∀b∈i++S1,b≠x:=λb c z=>by subst z;rcases aA.mp c with q|q<;>grind
  let S:dw K G' (dA m x (.lst (j++[u]))) (.li n) (.lst (l++[d])) (.ref x) (x::(i++S1)):=
   .lst a_ (B.mono (bz.refl _) λb c o e=>by rw[aR (I b c)];exact e)
  let⟨w,X,N⟩:=k1 G' (dA m x (.lst (j++[u]))) _ _ g (λb c o e=>by let J:b≠x:=λz=>E (z ▸ c);rw[aR J];exact k b (P b c) o e) S;refine⟨w,X,?_,λb c =>?_⟩
  .rw[N.nodup_iff];have:(x::(i++S1)++U).Perm (S1++(x::i++U)):=by simpa [bD] using cn (x::i) S1 U
   rw[this.nodup_iff,gm];refine⟨C,f,λa ha b c z =>?_⟩;subst z;exact O a ha (r.symm.subset c)
  grind
theorem dw.dput{p:B7}{s:Sk}{v:V}(h:dw K G H s t v T)(I:T.Nodup)(N:rF p s=Y .di)(O:sC p t=Y (.fS q y))(g:bz G G')(k:∀b∈T,∀o,H b=Y o->A b=Y o):
  ∃x m,gZ H p v=Y (.ref x)/\x∈T/\(∃n,H x=Y (.dK (q.zip m) n))/\q.length=y.length/\bh K G y m /\
   ∀(a:List iT) (c:List D) (d:List V) (n:Nat),a.length=c.length->bh K G' c d->∃j,dw K G' (dA A x (.dK (a.zip d) n)) s (pI (.fS a c) p t) v j/\j.Nodup/\∀b∈j,b∈T:=by
 let⟨R,S,U,P,F,n,L⟩:=h.focus N O;cases F with
 |@fS _ _ x m n0 f l r=>
  refine⟨x,m,P,n.symm.subset ż,⟨n0,f⟩,l,r,λa c d n1 J C =>?_⟩;let⟨j,E,B⟩:=L G' (dA A x _) _ [x] g λb i o e=>by grind [aR] (.fS a_ J C)
  exact⟨j,E,by rw[B.nodup_iff];exact(n.nodup_iff.mp I),λb i=>n.symm.subset (B.subset i)⟩
end
end L2
namespace L2
open PySem PySem.Spec PyProof.Rows
def abY(K:aP)(G H:Hp):D->aw->HO->Prop
 |.obj s t,a,_=>∃S,dw K G H s t (.ref a) S/\∀b∈S,G b=M|.kh _ _,_,_=>True|d,_,o=>kj K G d o
def iB(K:aP)(G H:Hp)(d:D)(v:V):Prop:=cX K G d v\/∃a o,v=.ref a/\H a=Y o/\abY K G H d a o
section
variable {K:aP}
def iB.ext{d:D}{v:V}(r:iB K G H d v)(E:gc G H G' H'):iB K G' H' d v:=by
 rcases r with r|⟨a,o,k,j,c⟩
 .exact .inl (cX.mono E.gg d r)
 .refine .inr ⟨a,o,k,E.hh _ _ j,?_⟩;cases d with
  |obj s t=>
   let⟨S,g,i⟩:=c;refine⟨S,g.mono E.gg λb f o e=>E.hh b o e,λb f =>?_⟩;let⟨u,h,_⟩:=g.here b f;rcases q:G' b with _|w
   .rfl
   rcases E.fr b w q with z|z<;>simp_all
  |kh=>trivial|lst=>exact kj.mono E.gg (d :=.lst _) c|ins=>exact kj.mono E.gg (d :=.ins _ _ _) c|fS=>exact kj.mono E.gg (d :=.fS _ _) c|_=>exact c
def iB.dr{v:V}(r:iB K G H .dr v):v=.dr:=by
 rcases r with r|⟨a,o,_,_,e⟩
 .exact Ÿ
 exact Ÿ
def iB.bl{v:V}(r:iB K G H (.bl b) v):v=.bl b:=by
 rcases r with r|⟨a,o,_,_,e⟩
 .exact Ÿ
 exact Ÿ
def iB.int{i:Int}{v:V}(r:iB K G H (.int i) v):v=.int i:=by
 rcases r with r|⟨a,o,_,_,e⟩
 .exact Ÿ
 exact Ÿ
def iB.str{v:V}(r:iB K G H (.str x) v):v=.str x:=by
 rcases r with r|⟨a,o,_,_,e⟩
 .exact Ÿ
 exact Ÿ
def iB.lst{ds:List D}{v:V}(s:bz G H)(r:iB K G H (.lst ds) v):∃a vs,v=.ref a/\H a=Y (.lst vs)/\bh K G ds vs:=by
 rcases r with r|⟨a,o,d,c,vs,rfl,b⟩
 .let⟨a,vs,e,q,t⟩:=cB.mp r;exact⟨a,vs,e,s _ _ q,t⟩
 .exact⟨a,vs,d,c,b⟩
def iB.tup{ds:List D}{v:V}(s:bz G H)(r:iB K G H (.tup ds) v):∃a b,v=.ref a/\wN K H a b/\bh K G ds b:=by
 rcases r with r|⟨a,o,_,_,e⟩
 .let⟨a,b,e,q,t⟩:=d5.mp r;exact⟨a,b,e,q.sq s,t⟩
 exact Ÿ
def iB.kT{v:V}(s:bz G H)(r:iB K G H (.kT ns) v):∃a,v=.ref a/\mh K H a (ns.map V.int):=by
 rcases r with r|⟨a,o,_,_,e⟩
 .let⟨a,e,q⟩:=KJ.mp r;exact⟨a,e,s.seq q⟩
 exact Ÿ
def iB.adV{f:List aH}{v:V}(s:bz G H)(r:iB K G H (.ins c f g) v):∃a C d b,v=.ref a/\H a=Y (.ins C d (f.zip b))/\wF K bq c=Y (Y (.ref C))/\f.length=g.length/\bh K G g b:=by
 rcases r with r|⟨a,o,j,i,C,d,b,rfl,n,l,h⟩
 .let⟨a,C,d,b,e,n,q,l,t⟩:=mL.mp r;exact⟨a,C,d,b,e,s _ _ q,n,l,t⟩
 .exact⟨a,C,d,b,j,i,n,l,h⟩
def iB.YJ{v:V}(s:bz G H)(r:iB K G H (.fS c d) v):∃a b,v=.ref a/\(∃n,H a=Y (.dK (c.zip b) n))/\c.length=d.length/\bh K G d b:=by
 rcases r with r|⟨a,o,h,g,b,⟨n,rfl⟩,l,f⟩
 .obtain⟨a,b,e,⟨n,q⟩,l,t⟩:=mM.mp r;exact⟨a,b,e,⟨n,s _ _ q⟩,l,t⟩
 .exact⟨a,b,h,⟨n,g⟩,l,f⟩
def iB.ins{ks:List aH}{d:List D}{v:V}(r:iB K G H (.ins c ks d) v):∃a,v=.ref a:=by
 rcases r with r|⟨a,o,b,_⟩
 .let⟨a,C,dx,vs,e,_⟩:=mL.mp r;exact⟨a,e⟩
 .exact⟨a,b⟩
def iB.fS{ks:List iT}{ds:List D}{v:V}(r:iB K G H (.fS ks ds) v):∃a,v=.ref a:=by
 rcases r with r|⟨a,o,b,_⟩
 .let⟨a,vs,e,_⟩:=mM.mp r;exact⟨a,e⟩
 .exact⟨a,b⟩
def iB.all{v:V}(s:bz G H)(r:iB K G H d v):cX K H d v:=by
 rcases r with r|⟨a,o,i,e,c⟩
 .exact cX.mono s d r
 .subst i;cases d with
  |obj k t=>let⟨S,h,g⟩:=c;exact qw.mpr (cX.mono (pR s) t (h.frozen g λb f=>f))
  |kh=>solve_by_elim|lst=>exact(kj.mono s (d :=.lst _) c).rep e|ins=>exact(kj.mono s (d :=.ins _ _ _) c).rep e|fS=>exact(kj.mono s (d :=.fS _ _) c).rep e|_=>exact c.elim
end
abbrev bP:=List (Option D)
abbrev DF:=bP->Option D
abbrev DT:=bP->Option Bool
abbrev DL:=bP->Option (List D)
noncomputable abbrev Jk(j:Nat):Nat:=j+1000000
noncomputable abbrev Qc(j:Nat):Nat:=j+2000000
noncomputable def N5:List aH:=["rows","coming"]
def HD(Z:List Nat)(H:Hp)(a:St)(c:bP)(j r:Nat)(p:B7):Prop:=r∈Z/\Qc r∈Z/\∃s t d v b,c[r]?=Y (Y (.obj s t))/\a[r]?=Y (Y v)/\a[j]?=Y (Y b)/\gZ H p v=Y b/\rF p s=Y d/\∀g∈GY p,g∈N5
structure ki(K:aP)(Z:List Nat)(G H:Hp)(σ:St)(ρ:bP):Prop where
 len:σ.length=ρ.length
 get:∀(i:Nat) (d:D),ρ[i]?=some (some d)->∃v,σ[i]?=some (some v)/\(if i∈Z then iB K G H d v else cX K G d v)
 kh:∀(j r:Nat) (p:B7),j∈Z->Jk j∈Z->ρ[j]?=some (some (.kh r p))->HD Z H σ ρ j r p
def HD.ext{H':Hp}{a:St}{r:Nat}(h:HD Z H a b j r p)(s:bz H H'):HD Z H' a b j r p:=by
 let⟨g,i,e,d,f,v,c,q,o,n,l,k⟩:=h;exact⟨g,i,e,d,f,v,c,q,o,n,lu s l,k⟩
def ki.ext{K:aP}{G' H':Hp}{a:St}(h:ki K Z G H a b)(E:gc G H G' H'):ki K Z G' H' a b:=⟨h.len,λi d e=>by
 let⟨v,q,r⟩:=h.get i d e;refine⟨v,q,?_⟩;by_cases c:i∈Z
 .rw[if_pos c]at r ⊢;exact r.ext E
 .rw[if_neg c]at r ⊢;exact cX.mono E.gg d r,λj r p g f e=>(h.kh j r p g f e).ext E.hh⟩
inductive tP (K:aP) (Z:List Nat) (f:DF) (b:St) (H:Hp) (Q:VK):Prop
 |mk G a d:bz G H->ki K Z G H b a->f a=some d->(∀v G' H',gc G H G' H'->cX K G' d v->Q v H')->tP K Z f b H Q
inductive tQ (K:aP) (Z:List Nat) (f:DF) (b:St) (H:Hp) (Q:VK):Prop
 |mk G a d:bz G H->ki K Z G H b a->f a=some d->(∀v G' H',gc G H G' H'->iB K G' H' d v->Q v H')->tQ K Z f b H Q
inductive tF (K:aP) (Z:List Nat) (f:DL) (d:St) (H:Hp) (Q:VK):Prop
 |mk G a c:bz G H->ki K Z G H d a->f a=some c->(∀p b G' H',gc G H G' H'->H p=none->G' p=none->H' p=some (.lst b)->bh K G' c b->Q (.ref p) H')->tF K Z f d H Q
inductive qW (K:aP) (Z:List Nat) (f:DT) (c:St) (H:Hp) (Q:Bool->Hp->Prop):Prop
 |mk G a b:bz G H->ki K Z G H c a->f a=some b->(∀G' H',gc G H G' H'->Q b H')->qW K Z f c H Q
inductive HP (K:aP) (Z:List Nat) (f:DL) (d:St) (H:Hp) (Q:List V->Hp->Prop):Prop
 |mk G a c:bz G H->ki K Z G H d a->f a=some c->(∀b G' H',gc G H G' H'->bh K G' c b->Q b H')->HP K Z f d H Q
def Mn(K:aP)(G H:Hp):List D->List V->Prop:=Paired (iB K G H)
inductive Zn (K:aP) (Z:List Nat) (f:DL) (d:St) (H:Hp) (Q:List V->Hp->Prop):Prop
 |mk G a c:bz G H->ki K Z G H d a->f a=some c->(∀b G' H',gc G H G' H'->Mn K G' H' c b->Q b H')->Zn K Z f d H Q
section
variable {X:Cx}
def PE.imp(h:PE X e t)(k:∀b H Q,c b H Q->t b H Q):PE X e c:=λa s b H Q I q=>h a s b H Q I (k _ _ _ q)
def PT.imp(h:PT X e t)(k:∀b H Q,c b H Q->t b H Q):PT X e c:=λa s b H Q I q=>h a s b H Q I (k _ _ _ q)
def PW.imp(h:PW X e t)(k:∀b H Q,c b H Q->t b H Q):PW X e c:=λw a s b H Q I q=>h w a s b H Q I (k _ _ _ q)
def PA.imp(h:PA X e t)(k:∀b H Q,c b H Q->t b H Q):PA X e c:=λm a s b H Q I q=>h m a s b H Q I (k _ _ _ q)
def PS.imp(h:PS X e t)(k:∀D b H,c D b H->t D b H):PS X e c:=λa s b H D I q=>h a s b H D I (k _ _ _ q)
def rN.imp(h:rN X e t)(k:∀D b H,c D b H->t D b H):rN X e c:=λa s b H D I q=>h a s b H D I (k _ _ _ q)
def mj.imp{f:aj->aj->Sem aj}(h:mj X f r)(k:∀x y H Q,b x y H Q->r x y H Q):mj X f b:=λa s c H x y v u Q I e d q=>h a s c H x y v u Q I e d (k _ _ _ _ q)
def dq{f:DF}(h:PE X e (tP X.K Z f)):PE X e (tQ X.K Z f):=h.imp <|by rintro i H Q ⟨G,b,d,c,a,g,k⟩;exact⟨G,b,d,c,a,g,λv G' H' E r=>k v G' H' E (.inl r)⟩
noncomputable def eF(f:DL):DF:=λρ=>(f ρ).map D.lst
def df{f:DL}(h:PE X e (tF X.K Z f)):PE X e (tP X.K Z (eF f)):=h.imp <|by
 rintro s H Q ⟨G,g,d,q,b,l,k⟩;rcases a:f g with _|c
 .simp_all [eF]
 have:d=.lst c:=by simp_all [eF]
 subst this;exact⟨G,g,c,q,b,a,λp i G' H' E o j n r=>k _ _ H' (E.freeze o j n) (cB.mpr ⟨p,i,rfl,a_,bh.mono (.alloc j) c r⟩)⟩
noncomputable def eV(i:Nat):DF:=λρ=>(ρ[i]?).join
noncomputable def eK(d:D):DF:=λ_=>Y d
def gR(h:eV i a=Y d):a[i]?=Y (Y d):=by
 grind [eV,cE]
def dv{m:Pos}(h:PE X (.Name x m) (i5 i))(b:autoParam (i∉Z) Ū):PE X (.Name x m) (tP X.K Z (eV i)):=h.imp <|by
 rintro f H Q ⟨G,g,d,c,a,e,k⟩;let⟨v,q,r⟩:=a.get i d (gR e);rw[if_neg b]at r;exact⟨v,q,k v G H (.refl c) r⟩
def dvo{i:Nat}{m:Pos}(h:PE X (.Name x m) (i5 i))(b:autoParam (i∈Z) Ū):PE X (.Name x m) (tQ X.K Z (eV i)):=h.imp <|by
 rintro f H Q ⟨G,g,d,c,a,e,k⟩;let⟨v,q,r⟩:=a.get i d (gR e);rw[if_pos b]at r;exact⟨v,q,k v G H (.refl c) r⟩
def sE{i j m}:PE X (.Constant (.int i) j m) (tP X.K Z (eK (.int i))):=o_.imp <|by
 rintro e H Q ⟨G,f,d,a,c,b,k⟩;cases b;exact k _ G H (.refl a) (cG.mpr rfl)
def agv{b j m}:PE X (.Constant (.bool b) j m) (tP X.K Z (eK (.bl b))):=aay.imp <|by
 rintro f H Q ⟨G,g,d,a,e,c,k⟩;cases c;exact k _ G H (.refl a) (b_.mpr rfl)
abbrev wT:=eK .dr
def aeR{j m}:PE X (.Constant .none j m) (tP X.K Z wT):=Xm.imp <|by
 rintro e H Q ⟨G,f,d,a,c,b,k⟩;cases b;exact k _ G H (.refl a) (iO.mpr rfl)
def EG{x j m}:PE X (.Constant (.str x) j m) (tP X.K Z (eK (.str x))):=IS.imp <|by
 rintro e H Q ⟨G,f,d,a,c,b,k⟩;cases b;exact k _ G H (.refl a) (dI.mpr rfl)
noncomputable def aN:DL:=λ_=>Y []
noncomputable def aC(f:DF)(g:DL):DL:=λa=>(f a).bind λx=>(g a).bind λb=>Y (x::b)
def Mj{f:DF}{e:List D}(h:aC f g a=Y e):∃x b,f a=Y x/\g a=Y b/\e=x::b:=by
 let⟨x,d,h⟩:=aa.1 h;rcases c:g a with _|b<;>simp_all
def mx:PA X [] (HP X.K Z aN):=eC.imp <|by
 rintro e H Q ⟨G,f,d,a,c,b,k⟩;cases b;exact k _ G H (.refl a) .nil
def fB{f:DF}{g:DL}(h:PE X e (tP X.K Z f))(t:PA X A (HP X.K Z g))(p:autoParam (ak (e::A) X.env=(Z_,eval e X.env)::ak A X.env) Ŭ):PA X (e::A) (HP X.K Z (aC f g)):=
 (bZ h t p).imp <|by rintro z H Q ⟨G,i,d,q,a,s,k⟩;let⟨x,l,r,b,rfl⟩:=Mj s;refine⟨G,i,x,q,a,r,λv y D c o=>⟨y,i,l,c.gh,a.ext c,b,λC w u j n=>k _ w u (c.trans j) (.cons (cX.mono j.gg x o) n)⟩⟩
def EF:PA X [] (Zn X.K Z aN):=eC.imp <|by
 rintro e H Q ⟨G,f,d,a,c,b,k⟩;cases b;exact k _ G H (.refl a) .nil
def A7{f:DF}(h:PE X e (tQ X.K Z f))(t:PA X A (Zn X.K Z g))(p:autoParam (ak (e::A) X.env=(Z_,eval e X.env)::ak A X.env) Ŭ):PA X (e::A) (Zn X.K Z (aC f g)):=
 (bZ h t p).imp <|by rintro z H Q ⟨G,i,d,q,a,s,k⟩;let⟨x,l,r,b,rfl⟩:=Mj s;refine⟨G,i,x,q,a,r,λv y D c o=>⟨y,i,l,c.gh,a.ext c,b,λC w u j n=>k _ w u (c.trans j) (.cons (o.ext j) n)⟩⟩
noncomputable def cW(g:DL):DF:=λb=>(g b).bind λa=>if a.length<=1000 then Y (.tup a) else M
def Ax:1000<=aU:=by decide
set_option tactic.hygienic true in
def uX{o m}{g:DL}(h:PA X A (HP X.K Z g)):PE X (.Tuple A o m) (tP X.K Z (cW g)):=(IQ h).imp <|by
 rintro s H Q ⟨G,i,d,r,c,a,k⟩;unfold cW at a;rw[aa]at a;let⟨b,e,a⟩:=a;split at a
 .cases a;rename_i q;refine⟨G,i,b,r,c,e,λj u t f l=>⟨?_,λp n=>k _ _ _ (f.trans (gc.alloc f.gh n)) ?_⟩⟩
  .rw[<- l.length];exact aV q Ax
  .exact lW ⟨p,j,rfl,a_,bh.mono (.alloc (f.gh.free n)) b l⟩
 .cases a
noncomputable def eO(g:DL):DL:=λb=>(g b).bind λa=>if a.length<=1000 then Y a else M
set_option tactic.hygienic true in
def J5{m}{g:DL}(h:PA X A (HP X.K Z g)):PE X (.List A m) (tF X.K Z (eO g)):=(D5 h).imp <|by
 rintro s H Q ⟨G,l,j,o,d,a,k⟩;let⟨e,q,a⟩:=aa.1 a;split at a
 .cases a;rename_i n;refine⟨G,l,j,o,d,q,λf r t b i=>⟨?_,λp c=>k p f r _ (b.trans (gc.lay b.gh c)) (b.hh.free c) (b.gh.free c) a_ i⟩⟩;rw[<- i.length];exact aV n Ax
 .cases a
noncomputable def e2(o:D->D->Option D)(a b:DF):DF:=λρ=>(a ρ).bind λx=>(b ρ).bind λy=>o x y
def zg(h:e2 o a b c=Y d):∃x y,a c=Y x/\b c=Y y/\o x y=Y d:=by
 let⟨x,f,h⟩:=aa.1 h;rw[f];rcases e:b c with _|y<;>simp_all
inductive rD (K:aP) (o:D->D->Option D) (x:V) (y:V) (H:Hp) (Q:VK):Prop
 |mk G b a d:bz G H->iB K G H b x->iB K G H a y->o b a=some d->(∀v G' H',gc G H G' H'->cX K G' d v->Q v H')->rD K o x y H Q
def yF(X:Cx)(f:aj->aj->Sem aj)(o:D->D->Option D):Prop:=mj X f (rD X.K o)
def KN{K:aP}{Z:List Nat}{fa fb:DF}{e:St}(h:tP K Z (e2 o fa fb) e H Q):VD (rD K o) (tQ K Z fa) (tQ K Z fb) e H Q:=by
 let⟨G,f,d,l,a,q,k⟩:=h;let⟨x,y,p,n,r⟩:=zg q;exact⟨G,f,x,l,a,p,λv C I c j=>⟨C,f,y,c.gh,a.ext c,n,λu z F b i=>⟨z,x,y,d,b.gh,j.ext b,i,r,λw t s E g=>k w t s ((c.trans b).trans E) g⟩⟩⟩
variable {m:Pos}
def RD{op:Operator}(c:yF X (dt op) o)(e:PE X a (tQ X.K Z fa))(d:PE X b (tQ X.K Z fb)):PE X (.BinOp a op b m) (tP X.K Z (e2 o fa fb)):=(Po c e d).imp λf H Q h=>KN h
def aeT{op:CmpOp}(c:yF X (cR op) o)(f:PE X a (tQ X.K Z fa))(e:PE X b (tQ X.K Z fb))(d:g9 op b=Z_):PE X (.Compare a [op] [b] m) (tP X.K Z (e2 o fa fb)):=(D6 c f e d).imp λg H Q h=>KN h
noncomputable def cz(f:DF):DT:=λa=>(f a).bind λd=>match d with|.bl b=>Y b|_=>M
def rR{f:DF}{a:bP}{b:Bool}(h:cz f a=Y b):f a=Y (.bl b):=by
 let⟨d,e,h⟩:=aa.1 h;rw[e];cases d<;>simp_all
def YE{op:CmpOp}(f:yF X (cR op) o)(i:PE X a (tQ X.K Z fa))(h:PE X b (tQ X.K Z fb))(g:g9 op b=Z_):PT X (.Compare a [op] [b] m) (qW X.K Z (cz (e2 o fa fb))):=
 (D3 f i h g).imp <|by rintro n H Q ⟨G,e,d,j,c,l,k⟩;exact KN ⟨G,e,_,j,c,rR l,λv G' H' E r=>⟨d,b_.mp r,k G' H' E⟩⟩
noncomputable def i7(f g:DT):DT:=λa=>(f a).bind λc=>if c=Z' then g a else Y Z_
noncomputable def DV(f g:DT):DT:=λa=>(f a).bind λc=>if c=Z' then Y Z' else g a
noncomputable def i6(f:DT):DT:=λa=>(f a).map λc=> !c
variable {f:DT}
def acG(b:PT X a (qW X.K Z f)):PW X (.BoolOp .And [a] m) (qW X.K Z f):=Tn b
def aeE(b:PT X a (qW X.K Z f)):PW X (.BoolOp .Or [a] m) (qW X.K Z f):=W9 b
def aeF(o:PT X a (qW X.K Z f))(n:PW X (.BoolOp .And (b::B) m) (qW X.K Z g)):PW X (.BoolOp .And (a::b::B) m) (qW X.K Z (i7 f g)):=(W_ o n).imp <|by
 rintro v H Q ⟨G,j,d,p,h,e,k⟩;let⟨c,q,e⟩:=aa.1 e;refine⟨G,j,c,p,h,q,λl s i =>?_⟩;cases c with
 |true=>exact BV ⟨l,j,d,i.gh,h.ext i,e,λt r u=>k t r (i.trans u)⟩
 |false=>grind
def agq(o : PT X a (qW X.K Z f))(n : PW X (.BoolOp .Or (b :: B) m) (qW X.K Z g)): PW X (.BoolOp .Or (a :: b :: B) m) (qW X.K Z (DV f g)) := (aas o n).imp <|by
  rintro v H Q ⟨G,j,d,p,h,e,k⟩
  let⟨c,q,e⟩:=aa.1 e
  refine⟨G,j,c,p,h,q,λl s i => ?_⟩
  cases c with
  |false => exact JF ⟨l,j,d,i.gh,h.ext i,e,λt r u => k t r (i.trans u)⟩
  |true => grind
def JY(i:PT X a (qW X.K Z f)):PT X (.UnaryOp .Not a m) (qW X.K Z (i6 f)):=(Pb i).imp <|by
 rintro p H Q ⟨G,h,d,j,e,b,k⟩;unfold i6 at b;rcases g:f h with _|c
 .simp_all
 have:d = !c:=(cE Ż).symm;subst this;exact⟨G,h,c,j,e,g,λn l o=>k n l o⟩
def EC(f g:DF):DF:=λa=>(cz f a).bind λc=>if c=Z' then g a else Y (.bl Z_)
def eOr(f g:DF):DF:=λa=>(cz f a).bind λc=>if c=Z' then Y (.bl Z') else g a
noncomputable def UP(f:DT):DF:=λa=>(f a).map λc =>.bl (!c)
def aeP{b}(h:PE X a (tP X.K Z fa)):PE X (.BoolOp b [a] m) (tP X.K Z fa):=Xk h
def aeU(o:PE X a (tP X.K Z fa))(n:PE X (.BoolOp .And (b::B) m) (tP X.K Z fb)):PE X (.BoolOp .And (a::b::B) m) (tP X.K Z (EC fa fb)):=(Xn o n).imp <|by
 rintro w H Q ⟨G,h,d,p,f,e,k⟩;let⟨c,q,e⟩:=aa.1 e;refine⟨G,h,_,p,f,rR q,λv i s g l=>⟨c,b_.mp l,?_⟩⟩;cases c with
 |true=>exact BV ⟨i,h,d,g.gh,f.ext g,e,λv t r u j=>k v t r (g.trans u) j⟩
 |false=>have:d=.bl false:=(cE Ż).symm;subst this;exact Ÿ
def agt(o : PE X a (tP X.K Z fa))(n : PE X (.BoolOp .Or (b :: B) m) (tP X.K Z fb)): PE X (.BoolOp .Or (a :: b :: B) m) (tP X.K Z (eOr fa fb)) := (aax o n).imp <|by
  rintro w H Q ⟨G,h,d,p,f,e,k⟩
  let⟨c,q,e⟩:=aa.1 e
  refine⟨G,h,_,p,f,rR q,λv i s g l => ⟨c,b_.mp l,?_⟩⟩
  cases c with
  |false => exact JF ⟨i,h,d,g.gh,f.ext g,e,λv t r u j => k v t r (g.trans u) j⟩
  | true => have : d = .bl Z' := (cE Ż).symm
            subst this; exact Ÿ
def aeQ(i:PE X a (tP X.K Z fa)):PE X (.UnaryOp .Not a m) (tP X.K Z (UP (cz fa))):=(Xl i).imp <|by
 rintro p H Q ⟨G,g,d,j,e,b,k⟩;unfold UP at b;rcases f:cz fa g with _|c
 .simp_all
 rw[f]at b;have:=(cE b).symm;subst this;exact⟨G,g,_,j,e,rR f,λv n l o h=>⟨c,b_.mp h,k _ n l o (b_.mpr rfl)⟩⟩
noncomputable def YC(c:DT)(f g:DF):DF:=λa=>(c a).bind λb=>if b=Z' then f a else g a
def agu(q:PT X c (qW X.K Z f))(s:PE X a (tP X.K Z fa))(r:PE X b (tP X.K Z fb)):PE X (.IfExp c a b m) (tP X.K Z (YC f fa fb)):=(F7 q s r).imp <|by
 rintro w H Q ⟨G,i,d,t,e,h,k⟩;let⟨c,u,h⟩:=aa.1 h;refine⟨G,i,c,t,e,u,λp x g =>?_⟩;cases c with
 |true=>exact BV ⟨p,i,d,g.gh,e.ext g,h,λv n l o j=>k v n l (g.trans o) j⟩
 |false=>exact JF ⟨p,i,d,g.gh,e.ext g,h,λv n l o j=>k v n l (g.trans o) j⟩
end
mutual
noncomputable def nO:D->D->Bool
 |.dr,.dr=>Z'|.bl a,.bl b=>a==b|.bl a,.int b=>(if a then 1 else 0)==b
 |.int a,.bl b=>a==(if b then 1 else 0)
 |.int a,.int b=>a==b|.str a,.str b=>a==b|.lst d,.lst c=>qH d c|.tup d,.tup c=>qH d c|_,_=>Z_
noncomputable def qH:List D->List D->Bool
 |[],[]=>Z'|x::b,y::a=>nO x y&&qH b a|_,_=>Z_
end
mutual
def jg:D->Nat->Bool
 |.lst a,n=>n != 0&&iA a (n-1)|.tup a,n=>n != 0&&iA a (n-1)|.kT _,_=>Z_|.ins _ _ _,_=>Z_|.fS _ _,_=>Z_|.obj _ _,_=>Z_|.kh _ _,_=>Z_|.dr,_=>Z'|.bl _,_=>Z'|.int _,_=>Z'|.str _,_=>Z'
def iA:List D->Nat->Bool
 |[],_=>Z'|x::a,n=>jg x n&&iA a n
end
theorem wm:∀ {a:List D}{n i:Nat}{d:D},iA a n=Z'->a[i]?=Y d->jg d n=Z'
 |[],n,i,d,h,e=>by simp at e
 |x::a,n,0,d,h,e=>by simp_all [iA,aK]
 |x::a,n,i+1,d,h,e=>by simp only[iA,aK]at h;exact wm (i:=i) h.2 Ż
theorem wj:∀(b a:List D),qH b a=((cm (min b.length a.length)).all (λj=>nO (b.getD j .dr) (a.getD j .dr))&&(b.length==a.length))
 |[],[]=>by simp[qH]
 |[],y::a=>by simp[qH]
 |x::b,[]=>by simp[qH]
 | x::b,y::a=>by
  let e:min (x::b).length (y::a).length=min b.length a.length+1:=by simp[Nat.add_min_add_right]
  rw[e,wJ,oY,Fi];simp only[qH,wj b a,bB,List.getD_cons_zero,List.getD_cons_succ,aJ];rw[Bool.and_assoc];simp
mutual
theorem RA:∀(d:D) (n:Nat),jg d n=Z'->nO d d=Z'
 |.dr,n,h=>rfl|.bl b,n,h=>beq_self_eq_true b|.int b,n,h=>beq_self_eq_true b|.str b,n,h=>beq_self_eq_true b|.lst a,n,h=>by simp only[jg,aK]at h;exact p_ a _ h.2
 |.tup a,n,h=>by simp only[jg,aK]at h;exact p_ a _ h.2
 |.kT a,n,h=>by solve_by_elim
 |.ins _ _ _,n,h=>by solve_by_elim
 |.fS _ _,n,h=>by solve_by_elim
 |.obj _ _,n,h=>by solve_by_elim
 |.kh _ _,n,h=>by solve_by_elim
theorem p_:∀(d:List D) (n:Nat),iA d n=Z'->qH d d=Z'
 |[],n,h=>by simp[qH]
 |x::a,n,h=>by simp only[iA,aK]at h;simp only[qH,RA x n h.1,p_ a n h.2,Bool.and_self]
end
section
variable {K:aP}
def Ml.inj{xs ys:List V}{a:aw}(W:∀a o,K.lookup a=Y o->H a=M)(l:Ml K H a xs)(j:Ml K H a ys):xs=ys:=by
 rcases l with l|⟨o,b,n,l,_,_,c,_,r⟩
 .rcases j with j|⟨o,_,_,j,_⟩
  .simp_all
  simp_all
 .rcases j with j|⟨o',b',n',j,_,_,c',_,r'⟩
  .simp_all
  .rw[l]at j;cases j;rw[c]at c';injection c' with e;subst e;exact r.inj r'
mutual
theorem cX.inj(W:∀a o,K.lookup a=Y o->H a=M):∀(u g:D) (n m:Nat){v:V},jg u n=Z'->jg g m=Z'->cX K H u v->cX K H g v->u=g
 |.dr,g,n,m,v,h,d,i,f=>by let e:=iO.mp i;subst e;cases g<;>simp[cX,jg]at f d ⊢
 |.bl b,g,n,m,v,h,d,i,f=>by let e:=b_.mp i;subst e;cases g<;>simp[cX,jg]at f d ⊢<;>exact f
 |.int b,g,n,m,v,h,d,i,f=>by let e:=cG.mp i;subst e;cases g<;>simp[cX,jg]at f d ⊢<;>exact f
 |.str b,g,n,m,v,h,d,i,f=>by let e:=dI.mp i;subst e;cases g<;>simp[cX,jg]at f d ⊢<;>exact f
 | .lst o,g,n,m,v,h,d,i,f=>by
  let⟨a,w,rfl,l,r⟩:=cB.mp i;cases g with
  |lst k=>let⟨b,s,e,j,q⟩:=cB.mp f;cases e;rw[l]at j;cases j;simp only[jg,aK]at h d;rw[bh.inj W o k _ _ h.2 d.2 r q]
  |tup k=>
   let⟨b,s,e,j,q⟩:=d5.mp f;cases e;rcases j with j|⟨o,_,_,j,_⟩
   .simp_all
   simp_all
  |kT k=>simp[jg]at d|ins c t p=>simp[jg]at d|fS t p=>simp[jg]at d|obj=>simp[jg]at d|kh=>simp[jg]at d|_=>simp[cX]at f
 | .tup o,g,n,m,v,h,d,i,f=>by
  let⟨a,w,rfl,l,r⟩:=d5.mp i;cases g with
  |tup k=>let⟨b,s,e,j,q⟩:=d5.mp f;cases e;let z:=l.inj W j;subst z;simp only[jg,aK]at h d;rw[bh.inj W o k _ _ h.2 d.2 r q]
  |lst k=>
   let⟨b,s,e,j,q⟩:=cB.mp f;cases e;rcases l with l|⟨o,_,_,l,_⟩
   .simp_all
   simp_all
  |kT k=>simp[jg]at d|ins c t p=>simp[jg]at d|fS t p=>simp[jg]at d|obj=>simp[jg]at d|kh=>simp[jg]at d|_=>simp[cX]at f
 |.kT o,g,n,m,v,h,d,i,f=>by simp[jg]at h
 |.ins _ _ _,g,n,m,v,h,d,i,f=>by simp[jg]at h
 |.fS _ _,g,n,m,v,h,d,i,f=>by simp[jg]at h
 |.obj _ _,g,n,m,v,h,d,i,f=>by simp[jg]at h
 |.kh _ _,g,n,m,v,h,d,i,f=>by simp[jg]at h
theorem bh.inj(W:∀a o,K.lookup a=Y o->H a=M):∀(b a:List D) (n m:Nat){d:List V},iA b n=Z'->iA a m=Z'->bh K H b d->bh K H a d->b=a
 | [],a,n,m,d,g,f,h,c=>by
  rw[dU.mp h]at c;cases a with
  |nil=>rfl|cons y a=>let⟨_,_,e,_⟩:=bH.mp c;cases e
 | x::b,a,n,m,d,g,f,h,c=>by
  let⟨v,r,rfl,q,t⟩:=bH.mp h;cases a with
  |nil=>have:=dU.mp c;cases this
  |cons y a=>let⟨k,l,e,j,i⟩:=bH.mp c;cases e;simp only[iA,aK]at g f;rw[cX.inj W x y _ _ g.1 f.1 q j,bh.inj W b a _ _ g.2 f.2 t i]
end
end
section
variable {P:aZ}{K:aP}{s:ar}
def Je(c:pw P w H s.heap)(e:H a=Y (.lst d)):∃b:List aj,b8 d b/\s.heap.IsList a b.toArray:=by
 let⟨z,b,n,r,q⟩:=c a _ e;exact⟨b,r,_,q,rfl,n,rfl⟩
structure HK(P:aZ)(w:cH)(K:aP)(H:Hp)(s:ar):Prop where
 ok:pw P w H s.heap
 V5:K.In s.heap
 wr:∀a o,K.lookup a=some o->H a=none
def Jd(c:HK P w K H s)(e:Ml K H a d):∃b:List aj,b8 d b/\s.heap.IsTuple a b.toArray:=by
 rcases e with e|⟨o,b,n,l,g,_,e,_,r⟩
 .let⟨z,b,r,q⟩:=c.ok a _ e;exact⟨b,r,q.t⟩
 .exact⟨_,r,o,c.V5 a o l,g,n,ž⟩
open SeqAt
structure Br(A:jq)(s:ar)(u1 u2:aj)(b:Bool):Prop where
 rc:RcAt A s u1 u2 b
 ne:RcNeAt A s u1 u2 (!b)
 eq:EqAt A s u1 u2 b
theorem LS(j:HK P w K H s)(g:A.units<mY){v:D}{m:Nat}{F:aj}(u:jg z 0=Z')(i:jg v m=Z')(y:cX K H z E)(h:cX K H v C)(x:RelV E G)(f:RelV C F):
  Br A s G F (nO z v):=by
 cases z with
 |dr=>
  have e:=iO.mp y;subst e;cases x;cases v with
  |dr=>have e:=iO.mp h;subst e;cases f;exact⟨.none_none,.none_none,.same _⟩
  |bl b=>have e:=b_.mp h;subst e;cases f;exact⟨.none_bool b,.none_bool b,.none_bool b⟩
  |int b=>have e:=cG.mp h;subst e;let⟨t,rfl⟩:=f;exact⟨.none_int b t,.none_int b t,.none_int b t⟩
  |str b=>have e:=dI.mp h;subst e;let⟨t,rfl⟩:=f;exact⟨.none_str b t,.none_str b t,.none_str b t⟩
  |lst n=>let⟨a,r,rfl,q,_⟩:=cB.mp h;cases f;let⟨k,_,l⟩:=Je j.ok q;exact⟨.none_list l g,.none_list l g,.none_list l g⟩
  |tup n=>let⟨a,r,rfl,q,_⟩:=d5.mp h;cases f;let⟨k,_,l⟩:=Jd j q;exact⟨.none_tuple l g,.none_tuple l g,.none_tuple l g⟩
  |_=>simp[jg]at i
 |bl c=>
  have e:=b_.mp y;subst e;cases x;cases v with
  |dr=>have e:=iO.mp h;subst e;cases f;exact⟨.bool_none c,.bool_none c,.bool_none c⟩
  |bl b=>have e:=b_.mp h;subst e;cases f;exact⟨.bool_bool c b,.bool_bool c b,.bool_bool c b⟩
  |int b=>have e:=cG.mp h;subst e;let⟨t,rfl⟩:=f;exact⟨.bool_int c b t,.bool_int c b t,.bool_int c b t⟩
  |str b=>have e:=dI.mp h;subst e;let⟨t,rfl⟩:=f;exact⟨.bool_str c b t,.bool_str c b t,.bool_str c b t⟩
  |lst n=>let⟨a,r,rfl,q,_⟩:=cB.mp h;cases f;let⟨k,_,l⟩:=Je j.ok q;exact⟨.bool_list c l g,.bool_list c l g,.bool_list c l g⟩
  |tup n=>let⟨a,r,rfl,q,_⟩:=d5.mp h;cases f;let⟨k,_,l⟩:=Jd j q;exact⟨.bool_tuple c l g,.bool_tuple c l g,.bool_tuple c l g⟩
  |_=>simp[jg]at i
 |int c=>
  have e:=cG.mp y;subst e;let⟨d,rfl⟩:=x;cases v with
  |dr=>have e:=iO.mp h;subst e;cases f;exact⟨.int_none c d,.int_none c d,.int_none c d⟩
  |bl b=>have e:=b_.mp h;subst e;cases f;exact⟨.int_bool c d b,.int_bool c d b,.int_bool c d b⟩
  |int b=>have e:=cG.mp h;subst e;let⟨t,rfl⟩:=f;exact⟨.int_int c d b t,.int_int c d b t,.int_int c d b t⟩
  |str b=>have e:=dI.mp h;subst e;let⟨t,rfl⟩:=f;exact⟨.int_str c d b t,.int_str c d b t,.int_str c d b t⟩
  |lst n=>let⟨a,r,rfl,q,_⟩:=cB.mp h;cases f;let⟨k,_,l⟩:=Je j.ok q;exact⟨.int_list c d l g,.int_list c d l g,.int_list c d l g⟩
  |tup n=>let⟨a,r,rfl,q,_⟩:=d5.mp h;cases f;let⟨k,_,l⟩:=Jd j q;exact⟨.int_tuple c d l g,.int_tuple c d l g,.int_tuple c d l g⟩
  |_=>simp[jg]at i
 |str c=>
  have e:=dI.mp y;subst e;let⟨d,rfl⟩:=x;cases v with
  |dr=>have e:=iO.mp h;subst e;cases f;exact⟨.str_none c d,.str_none c d,.str_none c d⟩
  |bl b=>have e:=b_.mp h;subst e;cases f;exact⟨.str_bool c d b,.str_bool c d b,.str_bool c d b⟩
  |int b=>have e:=cG.mp h;subst e;let⟨t,rfl⟩:=f;exact⟨.str_int c d b t,.str_int c d b t,.str_int c d b t⟩
  |str b=>have e:=dI.mp h;subst e;let⟨t,rfl⟩:=f;exact⟨.str_str c d b t,.str_str c d b t,.str_str c d b t⟩
  |lst n=>let⟨a,r,rfl,q,_⟩:=cB.mp h;cases f;let⟨k,_,l⟩:=Je j.ok q;exact⟨.str_list c d l g,.str_list c d l g,.str_list c d l g⟩
  |tup n=>let⟨a,r,rfl,q,_⟩:=d5.mp h;cases f;let⟨k,_,l⟩:=Jd j q;exact⟨.str_tuple c d l g,.str_tuple c d l g,.str_tuple c d l g⟩
  |_=>simp[jg]at i
 |_=>simp[jg]at u
def Br.refs(a:RcAt A s (.ref l) (.ref b) k)(c:RcNeAt A s (.ref l) (.ref b) (!k))(h:l=b->k=Z'):Br A s (.ref l) (.ref b) k:=by
 refine⟨a,c,?_⟩;by_cases e:l=b
 .subst e;rw[h rfl];exact .same _
 .exact .of_refs e a
def Rz(h:b.length≠a.length):qH b a=false:=by
 simp_all [wj,Bool.and_false]
def Ha{m:Nat}(ih:∀(h g:D) (l k:V) (t p:aj),jg h n=Z'->jg g m=Z'->cX K H h l->cX K H g k->RelV l t->RelV k p->Br A s t p (nO h g))(L:iA d n=Z')(J:iA c m=Z')(r:bh K H d i)(q:bh K H c o)(w:b8 i b)(x:b8 o a)(j:Nat)(P:j<b.toArray.size)(O:j<a.toArray.size):
  EqAt A s b.toArray[j] a.toArray[j] (nO (d.getD j .dr) (c.getD j .dr)):=by
 have X:=r.length.trans w.length;have U:=q.length.trans x.length;have f:=by simpa using P
 have e:=by simpa using O
 have z:d[j]?=Y (d.getD j .dr):=by rw[Oh,aS (by lia)];rfl
 have y:c[j]?=Y (c.getD j .dr):=by rw[Oh,aS (by lia)];rfl
 let⟨v,T,I⟩:=r.get z;let⟨u,S,G⟩:=q.get y;let⟨C,R,F⟩:=w.get T;let⟨B,Q,E⟩:=x.get S;have N:=by
  have:b[j]?=Y b.toArray[j]:=by simp[f]
  rw[R]at this;exact cE this.symm
 have W:=by
  have:a[j]?=Y a.toArray[j]:=by simp[e]
  rw[Q]at this;exact cE this.symm
 rw[N,W];exact(ih _ _ _ _ _ _ (wm L z) (wm J y) I G F E).eq
theorem JX(g:HK P w K H s):∀(n:Nat){A:jq}(_:A.units+n<mY) (J F:D) (m:Nat) (Q O:V) (S R:aj),jg J n=Z'->jg F m=Z'->cX K H J Q->cX K H F O->RelV Q S->RelV O R ->
  Br A s S R (nO J F):=by
 intro n
 induction n with
 |zero=>intro A hu J F m Q O S R C k I o G i;exact LS g Ž C k I o G i
 |succ n ih=>
  intro A hu J F m Q O S R C k I o G i;have d:A.units<mY:=Ž
  have ih':=λ(m':Nat)=>λ(J F:D) (Q O:V) (S R:aj)=>ih (A:=A.in1) (by show A.units+1+n<mY;lia) J F m' Q O S R
  cases J with
  |lst p=>
   let⟨a,vs,rfl,X,W⟩:=cB.mp I;cases G;let⟨r,U,l⟩:=Je g.ok X;cases F with
   |lst h=>
    let⟨b,us,rfl,x,z⟩:=cB.mp o;cases i;let⟨f,L,q⟩:=Je g.ok x;have B:=C;have N:=k;simp only[jg,aK,Nat.add_sub_cancel]at B N;have v:r.toArray.size=p.length:=by rw[bT];exact(W.length.trans U.length).symm
    have y:f.toArray.size=h.length:=by rw[bT];exact(z.length.trans L.length).symm
    have u:a=b->qH p h=true:=λe=>by subst e;rw[X]at x;cases x;rw[<- bh.inj g.wr p h _ _ B.2 N.2 W z];exact p_ p _ B.2
    show Br A s _ _ (qH p h);by_cases hl:p.length=h.length
    .have E:qH p h=(cm r.toArray.size).all (λj=>nO (p.getD j .dr) (h.getD j .dr)):=by rw[wj,<- hl,Vv,v];simp
     have it:=Ha (ih' _) B.2 N.2 W z U L;exact .refs (by rw[E];exact .lists l q Ž d it) (by rw[E];exact .lists l q Ž d it) u
    .have E:=Rz hl;have Yh:(r.toArray.size != f.toArray.size)=true:=by rw[v,y];simpa using hl
     refine .refs ?_ ?_ u
     .rw[E];exact .lists_lengths l q Yh d
     .rw[E];exact .lists_lengths l q Yh d
   |tup h=>let⟨b,us,rfl,x,z⟩:=d5.mp o;cases i;let⟨f,L,q⟩:=Jd g x;exact⟨.list_tuple l q d,.list_tuple l q d,.list_tuple l q d⟩
   |dr=>have e:=iO.mp o;subst e;cases i;exact⟨.list_none l d,.list_none l d,.list_none l d⟩
   |bl b=>have e:=b_.mp o;subst e;cases i;exact⟨.list_bool b l d,.list_bool b l d,.list_bool b l d⟩
   |int b=>have e:=cG.mp o;subst e;let⟨t,rfl⟩:=i;exact⟨.list_int b t l d,.list_int b t l d,.list_int b t l d⟩
   |str b=>have e:=dI.mp o;subst e;let⟨t,rfl⟩:=i;exact⟨.list_str b t l d,.list_str b t l d,.list_str b t l d⟩
   |_=>simp[jg]at k
  |tup p=>
   let⟨a,vs,rfl,X,W⟩:=d5.mp I;cases G;let⟨r,U,l⟩:=Jd g X;cases F with
   |tup h=>
    let⟨b,us,rfl,x,z⟩:=d5.mp o;cases i;let⟨f,L,q⟩:=Jd g x;have B:=C;have N:=k;simp only[jg,aK,Nat.add_sub_cancel]at B N;have v:r.toArray.size=p.length:=by rw[bT];exact(W.length.trans U.length).symm
    have y:f.toArray.size=h.length:=by rw[bT];exact(z.length.trans L.length).symm
    have u:a=b->qH p h=true:=λe=>by subst e;have y:=X.inj g.wr x;subst y;rw[<- bh.inj g.wr p h _ _ B.2 N.2 W z];exact p_ p _ B.2
    show Br A s _ _ (qH p h);have E:qH p h=((cm (min r.toArray.size f.toArray.size)).all (λj=>nO (p.getD j .dr) (h.getD j .dr))&&r.toArray.size==f.toArray.size):=by rw[wj,v,y]
    have it:=Ha (ih' _) B.2 N.2 W z U L;exact .refs (by rw[E];exact .tuples l q d it) (by rw[E];exact .tuples l q d it) u
   |lst h=>let⟨b,us,rfl,x,z⟩:=cB.mp o;cases i;let⟨f,L,q⟩:=Je g.ok x;exact⟨.tuple_list l q d,.tuple_list l q d,.tuple_list l q d⟩
   |dr=>have e:=iO.mp o;subst e;cases i;exact⟨.tuple_none l d,.tuple_none l d,.tuple_none l d⟩
   |bl b=>have e:=b_.mp o;subst e;cases i;exact⟨.tuple_bool b l d,.tuple_bool b l d,.tuple_bool b l d⟩
   |int b=>have e:=cG.mp o;subst e;let⟨t,rfl⟩:=i;exact⟨.tuple_int b t l d,.tuple_int b t l d,.tuple_int b t l d⟩
   |str b=>have e:=dI.mp o;subst e;let⟨t,rfl⟩:=i;exact⟨.tuple_str b t l d,.tuple_str b t l d,.tuple_str b t l d⟩
   |_=>simp[jg]at k
  |kT p=>simp[jg]at C|ins c ks T=>simp[jg]at C|fS ks T=>simp[jg]at C|obj=>simp[jg]at C|kh=>simp[jg]at C|_=>exact LS g d rfl k I o G i
end
def fF(x y:D):Option D:=if (jg x 180&&jg y 180)=Z' then Y (.bl (nO x y)) else M
def Gc(x y:D):Option D:=if (jg x 180&&jg y 180)=Z' then Y (.bl (!nO x y)) else M
section
variable {X:Cx}
def Inv.hk{s:ar}(I:Inv X B U H s):HK X.prog X.w X.K H s:=⟨I.fQ,I.yj,λa o e=>(I.bs a o (I.ok.mod.V5 a o e)).2⟩
set_option tactic.hygienic true
def afD(h:fT k X.A):yF X (cR .Eq) fF:=by
 intro e s n H x y v u Q I g f ⟨G,m,l,d,c,j,i,a,q⟩;unfold fF at a;split at a
 .rename_i b;rw[aK]at b;cases a;let o:=h.un;exact(JX I.hk 180 Ž m l 180 x y v u b.1 b.2 (j.all c) (i.all c) g f).rc _ _ _ _ ⟨.bl _,H,I,rfl,q _ G H (.refl c) (b_.mpr rfl)⟩
 .cases a
def aaH(h:fT k X.A):yF X (cR .NotEq) Gc:=by
 intro e s n H x y v u Q I g f ⟨G,m,l,d,c,j,i,a,q⟩;unfold Gc at a;split at a
 .rename_i b;rw[aK]at b;cases a;let o:=h.un;exact(JX I.hk 180 Ž m l 180 x y v u b.1 b.2 (j.all c) (i.all c) g f).ne _ _ _ _ ⟨.bl _,H,I,rfl,q _ G H (.refl c) (b_.mpr rfl)⟩
 .cases a
set_option tactic.hygienic false
noncomputable def Vq:D->D->Option D
 |.int i,.int j=>Y (.bl (decide (i<j)))|_,_=>M
noncomputable def yX:D->D->Option D
 |.int i,.int j=>Y (.bl (decide (j<i)))|_,_=>M
noncomputable def oGe:D->D->Option D
 |.int i,.int j=>Y (.bl (decide (j<=i)))|_,_=>M
def CK{f:aj->aj->Sem aj}{g':Int->Int->D}(h:mj X f (rI C g))(a:∀x y d,o x y=Y d->∃i j,x=.int i/\y=.int j/\C i j/\d=g' i j)(b:∀i j G,cX X.K G (g' i j) (g i j)):yF X f o:=
 mj.imp h <|by rintro x y H Q ⟨G,p,n,d,l,k,e,m,q⟩;let⟨i,j,rfl,rfl,c,rfl⟩:=a _ _ _ m;exact⟨i,j,k.int,e.int,c,q _ G H (.refl l) (b i j G)⟩
def K0{f:aj->aj->Sem aj}(h:mj X f (Ol g)):mj X f (rI (λc c=>True) g):=mj.imp h <|by rintro x y H Q ⟨i,j,b,a,_,q⟩;exact⟨i,j,b,a,q⟩
def afz:yF X (cR .Lt) Vq:=CK (K0 aaB) (λx y d h=>by unfold Vq at h;split at h<;>cases h<;>simp_all) λi j G=>b_.mpr rfl
def afB:yF X (cR .Gt) yX:=CK (K0 Py) (λx y d h=>by unfold yX at h;split at h<;>cases h<;>simp_all) λi j G=>b_.mpr rfl
def afC:yF X (cR .GtE) oGe:=CK (K0 aaC) (g':=λi j =>.bl (decide (j<=i))) (λx y d h=>by unfold oGe at h;split at h<;>cases h;exact⟨_,_,rfl,rfl,trivial,rfl⟩) λi j G=>b_.mpr rfl
noncomputable def mr:D->D->Option D
 |.int i,.int j=>Y (.int (i-j))|_,_=>M
def XB:yF X (dt .Sub) mr:=CK (K0 Xo) (λx y d h=>by unfold mr at h;split at h<;>cases h<;>simp_all) λi j G=>cG.mpr rfl
noncomputable def gM:D->D->Option D
 |.int i,.int j=>if 0<j then Y (.int (i%j)) else M
 |_,_=>M
def adG:yF X (dt .Mod) gM:=CK Xs λx y d h=>by
 unfold gM at h;split at h<;>try (cases h)
 simp_all λi j G=>cG.mpr rfl
noncomputable def ir:D->D->Option D
 |.int i,.int j=>if 0<j/\j<2 ^ 64 then Y (.int (i/j)) else M
 |_,_=>M
def Pz:mj X (dt .FloorDiv) (rI (λc j=>0<j/\j<2 ^ 64) λi j =>.int (i/j)):=opI λi j c c c c c a q=>by
 let b:j.natAbs<2 ^ 64:=by lia
 refine floordiv_int Ž (by rw[Int.fdiv_eq_ediv_of_nonneg i (by lia)];exact q) (.inl (PyProof.noPylong_of_log2 ?_));have:=(Nat.log2_lt Ž).mpr b
 lia
def ach:yF X (dt .FloorDiv) ir:=CK Pz λx y d h=>by
 unfold ir at h;split at h<;>try (cases h)
 simp_all λi j G=>cG.mpr rfl
noncomputable def cY:Nat:=1000000
def eE:cY<=aU:=by decide
def c6:D->D->Option D
 |.int i,.int j=>Y (.int (i+j))|.str x,.str y=>if x.length+y.length<=cY then Y (.str (x++y)) else M
 |.lst xs,.lst a=>if xs.length+a.length<=cY then Y (.lst (xs++a)) else M
 |_,_=>M
set_option tactic.hygienic true in
def adJ:yF X (dt .Add) c6:=by
 refine mj.imp (Xv.or (IU.or PD)) ?_;rintro x y H Q ⟨G,u,t,d,e,h,g,c,q⟩;unfold c6 at c;split at c<;>try (cases c;done)
 .cases c;exact .inl ⟨_,_,h.int,g.int,q _ G H (.refl e) (cG.mpr rfl)⟩
 .split at c
  .cases c;rename_i f;exact .inr (.inl ⟨_,_,h.str,g.str,aV f eE,q _ G H (.refl e) (dI.mpr rfl)⟩)
  .cases c
 .split at c
  .cases c;rename_i f;let⟨a,l,s,o,j⟩:=h.lst e;let⟨b,m,r,n,i⟩:=g.lst e;refine .inr (.inr ⟨a,b,l,m,s,r,o,n,?_,λp k=>q _ _ _ (gc.alloc e k) ?_⟩)
   .rw[<- j.length,<- i.length];exact aV f eE
   .exact cB.mpr ⟨p,_,rfl,a_,bh.mono (.alloc (e.free k)) _ (j.append i)⟩
  .cases c
instance:DecidablePred λp:Int×Int=>R9 p.1 p.2:=λp=>by unfold R9;infer_instance
def uL:D->D->Option D
 |.int i,.int j=>if (-(2 ^ 64)<i/\i<2 ^ 64)\/(-(2 ^ 64)<j/\j<2 ^ 64) then Y (.int (i*j)) else M
 |.lst a,.int k=>if (-(2 ^ 63)<=k/\k<2 ^ 63)/\a.length*k.toNat<=cY then Y (.lst (bG k.toNat a).flatten) else M
 |_,_=>M
set_option tactic.hygienic true in
def adF:yF X (dt .Mult) uL:=by
 refine mj.imp (Xr.or Xq) ?_;rintro x y H Q ⟨G,o,n,d,c,i,h,b,q⟩;unfold uL at b;split at b<;>try (cases b)
 .split at b
  .cases b;rename_i l;exact .inl ⟨_,_,i.int,h.int,l,q _ G H (.refl c) (cG.mpr rfl)⟩
  .cases b
 .split at b
  .cases b;rename_i e;let⟨a,j,m,k,f⟩:=i.lst c;refine .inr ⟨a,_,j,m,h.int,k,e.1.1,e.1.2,?_,λp g=>q _ _ _ (gc.alloc c g) ?_⟩
   .rw[<- f.length];exact aV e.2 eE
   .exact cB.mpr ⟨p,_,rfl,a_,bh.mono (.alloc (c.free g)) _ (f.rep _)⟩
  .cases b
noncomputable def e1(o:D->Option D)(a:DF):DF:=λρ=>(a ρ).bind o
def UQ(h:e1 o a b=Y d):∃x,a b=Y x/\o x=Y d:=by
 let⟨x,c,h⟩:=aa.1 h;rw[c];exact⟨x,rfl,h⟩
noncomputable def xu:D->Option D
 |.int i=>Y (.int (-i))|_=>M
def aeS{b:List Nat}{f:DF}{c:Pos}(j:PE X a (tQ X.K b f)):PE X (.UnaryOp .USub a c) (tP X.K b (e1 xu f)):=(Pm Ij j).imp <|by
 rintro r H Q ⟨G,h,d,l,e,n,k⟩;let⟨x,m,g⟩:=UQ n;cases x<;>simp[xu]at g
 subst g;exact⟨G,h,_,l,e,m,λv p o q i=>⟨_,i.int,k _ p o q (cG.mpr rfl)⟩⟩
end
inductive DO where
 |nx (ρ:bP)|rt (d:D)|ro (ds:List D)|bk (ρ:bP)|ct (ρ:bP)
 |rm (d:D) (ρ:bP)
 |rf (i:Nat) (ρ:bP)
 |ex (c:aH) (n:Int)
abbrev DG:=bP->Option DO
structure Bs where
 g:Hp
 h:Hp
 pin:List (Nat×aw)
 fly:aH->Int->Prop
def rH(K:aP)(G H:Hp):D->aw->List aw->Prop
 |.obj s t,a,S=>dw K G H s t (.ref a) S|.kh _ _,_,S=>S=[]|d,a,S=>(∃o,H a=Y o/\kj K G d o)/\S=[a]
noncomputable def BW:D->Bool
 |.lst _=>Z'|.ins _ _ _=>Z'|.fS _ _=>Z'|_=>Z_
def kj.BW{K:aP}(h:kj K G d o):BW d=true:=by
 cases d<;>first|rfl|exact h.elim
def rH.cell{K:aP}{d:D}{a:aw}{S:List aw}(b:BW d=Z'):rH K G H d a S↔(∃o,H a=Y o/\kj K G d o)/\S=[a]:=by
 cases d<;>first|exact Iff.rfl|cases b
def rH.here{K:aP}{a:aw}{S:List aw}(h:rH K G H d a S):∀b∈S,∃o,H b=Y o:=λb c=>by
 cases d with
 |obj s t=>let⟨o,h,_⟩:=dw.here h b c;simp_all
 |kh r p=>rw[h]at c;cases c|_=>obtain⟨⟨o,e,_⟩,rfl⟩:=h;simp_all
def rH.mono{K:aP}{d:D}{S:List aw}(g:bz G G')(k:∀b∈S,∀o,H b=Y o->H' b=Y o)(h:rH K G H d a S):rH K G' H' d a S:=by
 cases d with
 |obj s t=>exact dw.mono g k h|kh r p=>exact h|_=>obtain⟨⟨o,e,c⟩,rfl⟩:=h;exact⟨⟨o,k a ż o e,kj.mono g c⟩,rfl⟩
structure tW(K:aP)(B:Bs)(Z:List Nat)(G H:Hp)(σ:St)(ρ:bP)(F:Nat->List aw):Prop where
 it:∀(i:Nat) (d:D),i∈Z->ρ[i]?=some (some d)->∃a,σ[i]?=some (some (.ref a))/\rH K G H d a (F i)
 ok:∀(i:Nat) (d:D),i∈Z->ρ[i]?=some (some d)->(F i).Nodup/\∀b∈F i,G b=none/\B.2 b=none
 ap:∀(i j:Nat) (d c:D),i∈Z->j∈Z->ρ[i]?=some (some d)->ρ[j]?=some (some c)->i≠j->∀b∈F i,b∉F j
structure SR(K:aP)(B:Bs)(Z:List Nat)(G H:Hp)(σ:St)(ρ:bP):Prop where
 gh:bz G H
 g0:bz B.1 G
 h0:bz B.2 H
 fr:∀b o,G b=some o->B.1 b=some o\/B.2 b=none
 env:∀(i:Nat) (d:D),i∉Z->ρ[i]?=some (some d)->∃v,σ[i]?=some (some v)/\cX K G d v
 ow:∃F,tW K B Z G H σ ρ F
 len:σ.length=ρ.length
 pin:∀(i:Nat) (a:aw),(i,a)∈B.3->i∈Z/\σ[i]?=some (some (.ref a))
 kh:∀(j r:Nat) (p:B7),j∈Z->Jk j∈Z->ρ[j]?=some (some (.kh r p))->HD Z H σ ρ j r p
section
variable {K:aP}
def SR.pH(S:SR K B Z G H C A):gc B.1 B.2 G H:=⟨S.h0,S.g0,S.gh,S.fr⟩
def SR.TM(S:SR K B Z G H C A)(b:i∈Z)(e:A[i]?=Y (Y d))(c:BW d=Z'):∃a o,C[i]?=Y (Y (.ref a))/\H a=Y o/\kj K G d o/\G a=M/\B.2 a=none:=by
 let⟨F,W⟩:=S.ow;let⟨a,n,m⟩:=W.it i d b e;obtain _:=(rH.cell c).mp m;obtain _:=W.ok i d b e
 simp_all
def SR.iy(S:SR K B Z G H C A):ki K Z G H C A:=⟨S.len,λi d e=>by
 by_cases j:i∈Z
 .let⟨F,W⟩:=S.ow;let⟨a,q,f⟩:=W.it i d j e;refine⟨_,q,?_⟩;rw[if_pos j];let⟨_,m⟩:=W.ok i d j e;cases d with
  |obj s t=>
   generalize F i=u at f m;cases f with
   |leaf r=>solve_by_elim|lst e t=>exact .inr ⟨a,_,rfl,e,_,.lst e t,λb k=>(m b k).1⟩
   |ins n e l t=>exact .inr ⟨a,_,rfl,e,_,.ins n e l t,λb k=>(m b k).1⟩
   |fS e l t=>exact .inr ⟨a,_,rfl,e,_,.fS e l t,λb k=>(m b k).1⟩
  |kh r p=>solve_by_elim|lst=>obtain⟨⟨o,g,c⟩,h⟩:=f;exact .inr ⟨a,o,rfl,g,c⟩
  |ins=>obtain⟨⟨o,g,c⟩,h⟩:=f;exact .inr ⟨a,o,rfl,g,c⟩
  |fS=>obtain⟨⟨o,g,c⟩,h⟩:=f;exact .inr ⟨a,o,rfl,g,c⟩
  |_=>obtain⟨⟨o,g,c⟩,h⟩:=f;exact c.elim
 .let⟨v,q,f⟩:=S.env i d j e
  simp_all,S.kh⟩
def iM{l:List (Option b)}(h:(l.set i (Y x))[j]?=Y (Y y)):(i=j/\y=x/\i<l.length)\/(i≠j/\l[j]?=Y (Y y)):=by
 by_cases e:i=j
 .subst e;by_cases a:i<l.length<;>simp_all
 .rw[be e]at h;exact .inr ⟨e,h⟩
def wB{l:List (Option a)}(h:i<l.length):(l.set i (Y x))[i]?=Y (Y x):=by rw[cp h]
def tW.ext{F:Nat->List aw}(W:tW K B Z G H C A F)(E:gc G H G' H'):tW K B Z G' H' C A F:=by
 refine⟨λi d c e =>?_,λi d c e =>?_,W.ap⟩
 .let⟨a,h,g⟩:=W.it i d c e;exact⟨a,h,g.mono E.gg λb j o=>E.hh b o⟩
 .let⟨a,h,g⟩:=W.it i d c e;let⟨n,k⟩:=W.ok i d c e;refine⟨n,λb f=>⟨?_,(k b f).2⟩⟩;obtain _:=g.here b f;rcases q:G' b with _|u
  .rfl
  rcases E.fr b u q with z|z<;>simp_all
def SR.ext(S:SR K B Z G H C A)(E:gc G H G' H'):SR K B Z G' H' C A:=by
 refine⟨E.gh,S.g0.trans E.gg,S.h0.trans E.hh,λb o e =>?_,λi d a e =>?_,?_,S.len,S.pin,λj r p f c e=>(S.kh j r p f c e).ext E.hh⟩
 .rcases E.fr b o e with q|q
  .exact S.fr b o q
  .exact .inr (S.h0.free q)
 .let⟨v,h,g⟩:=S.env i d a e;exact⟨v,h,cX.mono E.gg d g⟩
 .let⟨F,W⟩:=S.ow;exact⟨F,W.ext E⟩
def SR.vz{v:V}(S:SR K B Z G H C A)(P:i∉Z)(r:cX K G d v):SR K B Z G H (C.set i (Y v)) (A.set i (Y d)):=by
 have f:∀j,j∈Z->i≠j:=λj b e=>P (e ▸ b)
 refine⟨S.gh,S.g0,S.h0,S.fr,λj c b e =>?_,?_,by simp[S.len],λj a h=>⟨(S.pin j a h).1,by rw[be (f j (S.pin j a h).1)];exact(S.pin j a h).2⟩,λj k p q R e =>?_⟩
 .rcases iM e with⟨rfl,rfl,u⟩|⟨n,e⟩
  .exact⟨v,wB (by rw[S.len];exact u),r⟩
  .obtain _:=S.env j c b e
   simp_all
 .let⟨F,W⟩:=S.ow;have m:∀j c,j∈Z->(A.set i (Y d))[j]?=Y (Y c)->A[j]?=Y (Y c):=λj c b e=>by simp_all
  refine⟨F,λj c b e =>?_,λj c b e=>W.ok j c b (m j c b e),λj k c t b s U T=>W.ap j k c t b s (m j c b U) (m k t s T)⟩;obtain _:=W.it j c b (m j c b e)
  simp_all
 .rw[be (f j q)]at e;let⟨o,Q,z,y,E,w,x,l,g,e3,X⟩:=S.kh j k p q R e;exact⟨o,Q,z,y,E,w,x,Ż,Ż,Ż,X⟩
def SR.abF{i:Nat}{a:aw}{d':D}{S' F0:List aw}{F:Nat->List aw}(S:SR K B Z G H C A)(W:tW K B Z G H C A F)(hi:i∈Z)(h0:∀b∈F0,b∈F i/\∃d,A[i]?=Y (Y d))(gg:bz G G')(gh:bz G' H')(fr:∀b o,G' b=Y o->G b=Y o\/H b=M\/b∈F0)(v:∀b o,b∉F0->H b=Y o->H' b=Y o)(nw:rH K G' H' d' a S')(nd:S'.Nodup)(nf:∀b∈S',G' b=M/\(b∈F0\/H b=M\/(B.2 b=M/\∀k c,k∈Z->A[k]?=Y (Y c)->k≠i->b∉F k)))(aea:∀b,(i,b)∈B.3->b=a)(hna:∀r p,d' ≠ .kh r p)(ha:∀j p,j∈Z->Jk j∈Z->j≠i->A[j]?=Y (Y (.kh i p))->∃s t s' v',d'=.obj s t/\C[j]?=Y (Y v')/\gZ H' p (.ref a)=Y v'/\rF p s=Y s'):
  SR K B Z G' H' (C.set i (Y (.ref a))) (A.set i (Y d'))/\tW K B Z G' H' (C.set i (Y (.ref a))) (A.set i (Y d')) (λj=>if j=i then S' else F j):=by
 have b0:∀b∈F0,G b=M/\B.2 b=none:=λb g=>by let⟨X,d,U⟩:=h0 b g;exact(W.ok i d hi U).2 b X
 have P:∀j c,j∈Z->A[j]?=Y (Y c)->i≠j->∀b∈F j,b∉F0:=λj c l ej f b g hb0=>by let⟨X,d,U⟩:=h0 b hb0;exact W.ap i j d c hi l U ej f b X g
 have W':tW K B Z G' H' (C.set i (Y (.ref a))) (A.set i (Y d')) (λj=>if j=i then S' else F j):=by
  refine⟨λj c l e =>?_,λj c l e =>?_,λj k c c' l hk ej ek hjk =>?_⟩
  .rcases iM e with⟨rfl,rfl,Q⟩|⟨f,e⟩
   .exact⟨a,wB (by rw[S.len];exact Q),by simpa using nw⟩
   .let⟨b,R,I⟩:=W.it j c l e;refine⟨b,by rw[be f];exact R,?_⟩;simp only[if_neg (bE f)];exact I.mono gg λx hx o=>v x o (P j c l e f x hx)
  .rcases iM e with⟨rfl,rfl,Q⟩|⟨f,e⟩
   .simp only[if_true];refine⟨nd,λb g=>⟨(nf b g).1,?_⟩⟩;rcases(nf b g).2 with z|z|z
    .exact(b0 b z).2
    .exact S.h0.free z
    .exact z.1
   .simp only[if_neg (bE f)];let⟨n,k⟩:=W.ok j c l e;let⟨x,R,I⟩:=W.it j c l e;refine⟨n,λb g=>⟨?_,(k b g).2⟩⟩;rcases q:G' b with _|u
    .rfl
    rcases fr b u q with z|z|z
    .rw[(k b g).1]at z;cases z
    .let⟨o,ho⟩:=I.here b g;rw[ho]at z;cases z
    .exact absurd z (P j c l e f b g)
  .have y:∀m c,m∈Z->A[m]?=Y (Y c)->i≠m->∀b∈S',b∉F m:=λm c hm em f b g T=>by
    rcases(nf b g).2 with z|z|z
    .exact P m c hm em f b T z
    .let⟨x,R,I⟩:=W.it m c hm em;let⟨o,ho⟩:=I.here b T;rw[ho]at z;cases z
    .exact z.2 m c hm em (bE f) T
   rcases iM ej with⟨rfl,rfl,Q⟩|⟨f,ej1⟩
   .rcases iM ek with⟨rfl,_,_⟩|⟨f,ek1⟩
    .exact absurd rfl hjk
    .simp only[if_true,if_neg (bE f)];exact y k c' hk ek1 f
   .rcases iM ek with⟨rfl,rfl,Q⟩|⟨aee,ek1⟩
    .simp only[if_true,if_neg (bE f)];exact λb g Wc=>y j c l ej1 f b Wc g
    .simp only[if_neg (bE f),if_neg (bE aee)];exact W.ap j k c c' l hk ej1 ek1 hjk
 refine⟨⟨gh,S.g0.trans gg,λb o e =>?_,λb o e =>?_,λj c l e =>?_,⟨_,W'⟩,by simp[S.len],λj b h =>?_,λj r p X U e =>?_⟩,W'⟩
 .refine v b o (λz =>?_) (S.h0 b o e);rw[(b0 b z).2]at e;cases e
 .rcases fr b o e with z|z|z
  .exact S.fr b o z
  .exact .inr (S.h0.free z)
  .exact .inr (b0 b z).2
 .let f:i≠j:=λz=>l (z ▸ hi)
  rw[be f]at e;let⟨u,R,I⟩:=S.env j c l e;exact⟨u,by rw[be f];exact R,cX.mono gg c I⟩
 .let⟨p1,p2⟩:=S.pin j b h;refine⟨p1,?_⟩;by_cases hij:i=j
  .subst hij;rw[aea b h,cp (au.mp p2).1]
  .rw[be hij];exact p2
 .rcases iM e with⟨rfl,z,Q⟩|⟨f,e'⟩
  .exact absurd z.symm (hna r p)
  .clear e;let e:=e';clear e';by_cases E:r=i
   .subst E;let⟨s,t,s',v',f1,f2,f3,f4⟩:=ha j p X U (bE f) e;let⟨g1,g0,s0,t0,s1,w,v1,g2,g3,g4,g5,g6,g7⟩:=S.kh j r p X U e;have Q:r<A.length:=(au.mp g2).1;refine⟨hi,g0,s,t,s',.ref a,v',?_,wB (by rw[S.len];exact Q),?_,f3,f4,g7⟩
    .rw[wB Q,f1]
    .rw[be f];exact f2
   .let⟨g1,g0,s0,t0,s1,w,v1,g2,g3,g4,g5,g6⟩:=S.kh j r p X U e;let⟨x,R,I⟩:=W.it r _ g1 g2;rw[g3]at R;cases R;refine⟨g1,g0,s0,t0,s1,.ref x,v1,by rw[be (bE E)];exact g2,by rw[be (bE E)];exact g3,by rw[be f];exact g4,?_,g6⟩;exact dw.Et (show dw K G H s0 t0 (.ref x) (F r) from I) g6.1 (λb g o=>v b o (P r _ g1 g2 (bE E) b g)) g5
def SR.chg{i:Nat}{a:aw}{d':D}{S' F0:List aw}{F:Nat->List aw}(S:SR K B Z G H C A)(W:tW K B Z G H C A F)(q:i∈Z)(v:∀b∈F0,b∈F i/\∃d,A[i]?=Y (Y d))(x:bz G G')(w:bz G' H')(y:∀b o,G' b=Y o->G b=Y o\/H b=M\/b∈F0)(c:∀b o,b∉F0->H b=Y o->H' b=Y o)(m:rH K G' H' d' a S')(n:S'.Nodup)(h:∀b∈S',G' b=M/\(b∈F0\/H b=M))(e:∀b,(i,b)∈B.3->b=a)(f:∀r p,d' ≠ .kh r p)(u:∀j p,j∈Z->Jk j∈Z->j≠i->A[j]?=Y (Y (.kh i p))->∃s t l g,d'=.obj s t/\C[j]?=Y (Y g)/\gZ H' p (.ref a)=Y g/\rF p s=Y l):
  SR K B Z G' H' (C.set i (Y (.ref a))) (A.set i (Y d')):=
 (S.abF W q v x w y c m n (λb k=>⟨(h b k).1,by rcases(h b k).2 with z|z;exact .inl z;exact .inr (.inl z)⟩) e f u).1
def SR.VR(S:SR K B Z G H C A)(b:A[i]?=Y (Y d))(c:BW d=Z'):∀j p,j∈Z->Jk j∈Z->A[j]?=Y (Y (.kh i p))->False:=λj p g f e=>by
 let⟨n,o,m,k,l,w,h,a,_⟩:=S.kh j i p g f e;rw[b]at a;cases a;cases c
def EX(a:BW d=Z'):∀r p,d ≠ .kh r p:=λr p e=>by subst e;cases a
def SR.setC(S:SR K B Z G H C A)(m:i∈Z)(E:gc G H G' H')(k:H p=M)(t:G' p=M)(g:H' p=Y o)(r:kj K G' d o)(c:∀a,(i,a)∉B.3)(l:Qc i∉Z):SR K B Z G' H' (C.set i (Y (.ref p))) (A.set i (Y d)):=by
 let⟨F,W⟩:=S.ow;exact S.chg (F0:=[]) W m (λb f=>by cases f) E.gg E.gh λb o e=>by rcases E.fr b o e with z|z<;>simp_all (λb o u e=>E.hh b o e)
  ((rH.cell r.BW).mpr ⟨⟨o,g,r⟩,rfl⟩) ż λb f=>by simp_all (λb h=>absurd h (c b)) (EX r.BW) λj q s n u e=>(l (S.kh j i q s n e).2.1).elim
def SR.aaK{f:HO}(S:SR K B Z G H C A)(m:i∈Z)(g:A[i]?=Y (Y d))(l:C[i]?=Y (Y (.ref a)))(r:kj K G p f)(s:autoParam (BW d=true) Ŭ):SR K B Z G (dA H a f) C (A.set i (Y p)):=by
 let⟨F,W⟩:=S.ow;let⟨z,v,y⟩:=W.it i d m g;rw[l]at v;cases v;obtain⟨⟨o,_⟩,u⟩:=(rH.cell s).mp y;let⟨n,k⟩:=W.ok i d m g;rw[u]at k;have t:=(k a ż).1;have:=S.chg (F0:=[a]) W m (λb c=>⟨Ż,d,g⟩) (bz.refl _) (λb o e=>by rw[aR (bp e t)];exact S.gh b o e) (λb o e =>.inl e)
  λb o c e=>by simp_all [aR] ((rH.cell r.BW).mpr ⟨⟨f,a_,r⟩,rfl⟩) ż λb c=>by simp_all
  λb h=>by have:=(S.pin i b h).2;simp_all (EX r.BW) λj q x w D e=>(S.VR g s j q x w e).elim
 simp_all [jP]
def SR.Tc{p:aw}(S:SR K B Z G H C A)(h:i∈Z)(E:gc G H G' H')(f:H p=M)(j:G' p=M)(e:H' p=Y (.lst c))(r:bh K G' d c)(b:∀a,(i,a)∉B.3)(g:Qc i∉Z):SR K B Z G' H' (C.set i (Y (.ref p))) (A.set i (Y (.lst d))):=
 S.setC h E f j e ⟨c,rfl,r⟩ b g
def SR.mut(S:SR K B Z G H C A)(e:i∈Z)(f:A[i]?=Y (Y (.lst g)))(d:C[i]?=Y (Y (.ref a)))(r:bh K G c b):SR K B Z G (dA H a (.lst b)) C (A.set i (Y (.lst c))):=
 S.aaK e f d ⟨b,rfl,r⟩
def SR.freeze{Ź:List Nat}(S:SR K B Z G H C A)(f:∀j∈Ź,j∈Z)(i:Nat)(Q:∀j∈Z,j∈Ź\/j=i)(hn:i∉Ź)(P:i∈Z)(U:∀a,(i,a)∉B.3)(T:Qc i∉Z)(GO:i<1000000):∃G',SR K B Ź G' H C A:=by
 let⟨F,W⟩:=S.ow;have I:∀(j:Nat) (a:aw),(j,a)∈B.3->j∈Ź/\C[j]?=Y (Y (.ref a)):=λj a h=>⟨by
  rcases Q j (S.pin j a h).1 with z|z
  .exact z
  .subst z;exact absurd h (U a),(S.pin j a h).2⟩
 by_cases R:∃d,A[i]?=Y (Y d)
 .let⟨d,R⟩:=R;let⟨a,e1,E⟩:=W.it i d P R;let⟨nd,k⟩:=W.ok i d P R;let n0:=λb D=>(k b D).1
  let l:bz G (k_ G H (F i)):=pQ n0;let rep:cX K (k_ G H (F i)) d (.ref a):=by
   cases d with
   |obj s t=>exact qw.mpr (dw.frozen n0 (λb D=>D) (E))
   |kh r p=>exact yR.mpr ⟨a,rfl⟩|dr=>obtain⟨⟨o,q,g⟩,x⟩:=E;exact g.elim
   |bl=>obtain⟨⟨o,q,g⟩,x⟩:=E;exact g.elim
   |int=>obtain⟨⟨o,q,g⟩,x⟩:=E;exact g.elim
   |str=>obtain⟨⟨o,q,g⟩,x⟩:=E;exact g.elim
   |tup=>obtain⟨⟨o,q,g⟩,x⟩:=E;exact g.elim
   |kT=>obtain⟨⟨o,q,g⟩,x⟩:=E;exact g.elim
   |_=>obtain⟨⟨o,q,g⟩,x⟩:=E;exact(kj.mono l g).rep (by rw[qy (by rw[x];simp)];exact q)
  refine⟨k_ G H (F i),pR S.gh,S.g0.trans l,S.h0,λb o e =>?_,λj c n e =>?_,⟨F,λj c n e =>?_,λj c n e =>?_,λj m c c' n T=>W.ap j m c c' (f j n) (f m T)⟩,S.len,I,λj r p h1 h2 e =>?_⟩
  .by_cases D:b∈F i
   .exact .inr (k b D).2
   .rw[nH D]at e;exact S.fr _ _ e
  .by_cases v:j∈Z
   .rcases Q j v with z|z<;>simp_all
   .let⟨u,q,g⟩:=S.env j c v e;exact⟨u,q,cX.mono l c g⟩
  .let⟨b,q,g⟩:=W.it j c (f j n) e;exact⟨b,q,g.mono l λJ J J z=>z⟩
  .let⟨nd',k'⟩:=W.ok j c (f j n) e;refine⟨nd',λb D=>⟨?_,(k' b D).2⟩⟩;rw[nH (λz=>W.ap i j d c P (f j n) R e (λz=>hn (z ▸ n)) b z D)];exact(k' b D).1
  .let⟨g1,X,s0,t0,s1,w,v1,g2,g3⟩:=S.kh j r p (f j h1) (f _ h2) e;rcases Q r g1 with z|z
   .rcases Q _ X with y|y
    .exact⟨z,y,s0,t0,s1,w,v1,g2,g3⟩
    .unfold Qc at y;lia
   simp_all
 .refine⟨G,S.gh,S.g0,S.h0,S.fr,λj c n e =>?_,⟨F,λj c n e=>W.it j c (f j n) e,λj c n e=>W.ok j c (f j n) e,λj m c c' n T=>W.ap j m c c' (f j n) (f m T)⟩,S.len,I,λj r p h1 h2 e =>?_⟩
  .by_cases v:j∈Z
   .grind
   .exact S.env j c v e
  .let⟨g1,X,s0,t0,s1,w,v1,g2,g3⟩:=S.kh j r p (f j h1) (f _ h2) e;rcases Q r g1 with z|z
   .rcases Q _ X with y|y
    .exact⟨z,y,s0,t0,s1,w,v1,g2,g3⟩
    .unfold Qc at y;lia
   simp_all
end
def afe(K:aP)(B:Bs)(I Z:List Nat)(e:Ends):DO->Prop
 |.nx A=>∀C G H,SR K B Z G H C A->e.nx C H|.rt d=>∀v G H,gc B.1 B.2 G H->cX K G d v->e.rt v H|.ro g=>∀a f G H,gc B.1 B.2 G H->B.2 a=M->G a=M->H a=Y (.lst f)->bh K G g f->e.rt (.ref a) H|.bk A=>∀C G H,SR K B I G H C A->e.bk C H|.ct A=>∀C G H,SR K B I G H C A->e.ct C H
 |.rm d A=>∀v C G H,(∃b,SR K B b G H C A)->cX K G d v->e.rt v H|.rf i A=>∀v C G H,(∃b,i∈b/\SR K B b G H C A)->C[i]?=Y (Y v)->e.rt v H|.ex c n=>B.fly c n
inductive kl (K:aP) (B:Bs) (I Z a:List Nat) (g:DG) (b:Ends) (C:St) (H:Hp):Prop
 |mk G A o:SR K B Z G H C A->g A=some o->afe K B I a b o->kl K B I Z a g b C H
section
variable {X:Cx}
noncomputable def cN:DG:=λA=>Y (.nx A)
def gE:rN X [] (kl X.K B I Z Z cN):=KO.imp <|by rintro D C H ⟨G,A,o,S,a,k⟩;cases a;exact Ÿ
noncomputable def ba(g h:DG):DG:=λA=>(g A).bind λo=>match o with|.nx a=>h a|o=>Y o
def W2{K:aP}{e:Ends}(q:kl K B I Z L (ba g h) e C H):kl K B I Z own1 g { e with nx:=λC H=>kl K B I own1 L h e C H } C H:=by
 let⟨G,A,o,S,a,k⟩:=q;let⟨f,l,a⟩:=aa.1 a;refine⟨G,A,f,S,l,?_⟩;cases f with
 |nx b=>exact λj G' H' m=>⟨G',b,o,m,a,k⟩
 |_=>cases a;exact k
def ay(b:PS X N (kl X.K B I Z own1 g))(a:rN X O (kl X.K B I own1 L h)):rN X (N::O) (kl X.K B I Z L (ba g h)):=(nG b a).imp λD C H q=>W2 q
def bK(a:PS X N (kl X.K B I Z own1 g)):rN X [N] (kl X.K B I Z own1 g):=oE a
def lx{b:List dh}(i:Nat)(n:rN X b (kl X.K B I own1 L g))(d:autoParam (∀j∈own1,j∈Z) Ū)(m:autoParam (∀j∈Z,j∈own1\/j=i) Ū)(h:autoParam (i∉own1) Ū)(f:autoParam (i∈Z) Ū)(c:autoParam (∀a,(i,a)∉B.3) ť)(l:autoParam (Qc i∉Z) Ū)(e:autoParam (i<1000000) Ū):rN X b (kl X.K B I Z L g):=
 n.imp <|by rintro D C H ⟨G,A,o,S,p,k⟩;let⟨G',q⟩:=S.freeze d i m h f c l e;exact⟨G',A,o,q,p,k⟩
noncomputable def d8(i:Nat)(f:DF):DG:=λA=>(f A).map λd =>.nx (A.set i (Y d))
def xO{i:Nat}{f:DF}(n:X.N.Nodup)(j:X.N[i]?=Y x)(c:Loc X.env.scope x)(m:PE X e (tP X.K Z f))(h:autoParam (i∉Z) Ū)(g:autoParam (dy e (Y (.Name x a)) J.line X.env=cQ false) Ŭ)(l:autoParam (X.fn x=Z'\/X.env.scope.names.lookup x=Y .local) ŧ):
  PS X (.Assign [.Name x a] e J) (kl X.K B I Z Z (d8 i f)):=(uG n j c m g l).imp <|by
 rintro D C H ⟨G,A,o,S,b,k⟩;let⟨d,p,b⟩:=ai.1 b;cases b;exact⟨G,A,d,S.gh,S.iy,p,λv G' H' E r=>k _ G' H' ((S.ext E).vz h r)⟩
noncomputable def jQ(i:Nat)(f:DL):DG:=λA=>(f A).map λa =>.nx (A.set i (Y (.lst a)))
def ED{i:Nat}{f:DL}(u:X.N.Nodup)(q:X.N[i]?=Y x)(g:Loc X.env.scope x)(t:PE X e (tF X.K Z f))(m:autoParam (i∈Z) Ū)(c:autoParam (∀a,(i,a)∉B.3) ť)(n:autoParam (Qc i∉Z) Ū)(j:autoParam (dy e (Y (.Name x b)) J.line X.env=cQ false) Ŭ)(s:autoParam (X.fn x=Z'\/X.env.scope.names.lookup x=Y .local) ŧ):
  PS X (.Assign [.Name x b] e J) (kl X.K B I Z Z (jQ i f)):=(uG u q g t j s).imp <|by
 rintro D C H ⟨G,A,o,S,d,k⟩;let⟨y,w,d⟩:=ai.1 d;cases d;exact⟨G,A,y,S.gh,S.iy,w,λp z G' H' E l v h r=>k _ G' H' (S.Tc m E l v h r c n)⟩
noncomputable def dM(f:DF):DG:=λA=>(f A).map .rt
def pj{f:DF}(b:PE X e (tP X.K Z f)):PS X (.Return (Y e) J) (kl X.K B I Z own1 (dM f)):=(xq b).imp <|by
 rintro D C H ⟨G,A,o,S,a,k⟩;let⟨d,c,a⟩:=ai.1 a;cases a;exact⟨G,A,d,S.gh,S.iy,c,λv G' H' E r=>k v G' H' (S.pH.trans E) r⟩
noncomputable def oD(f:DL):DG:=λA=>(f A).map .ro
def zi{f:DL}(h:PE X e (tF X.K Z f)):PS X (.Return (Y e) J) (kl X.K B I Z own1 (oD f)):=(xq h).imp <|by
 rintro D C H ⟨G,A,o,S,a,k⟩;let⟨d,j,a⟩:=ai.1 a;cases a;exact⟨G,A,d,S.gh,S.iy,j,λp b G' H' E g i c r=>k p b G' H' (S.pH.trans E) (S.h0.free g) i c r⟩
def pM(i:Nat):DG:=λA=>(eV i A).bind λd=>match d with|.lst a=>Y (.ro a)|_=>M
def acI{i:Nat}(h:PE X (.Name x p) (i5 i))(f:autoParam (i∈Z) Ū):PS X (.Return (Y (.Name x p)) J) (kl X.K B I Z own1 (pM i)):=(xq h).imp <|by
 rintro D C H ⟨G,A,o,S,b,k⟩;let⟨d,g,b⟩:=aa.1 b;cases d<;>simp at b<;>try (done)
 let⟨a,q,n,m,c,l,j⟩:=S.TM f (gR g) rfl;let⟨e,rfl,c⟩:=c;cases b;exact⟨_,n,k a e G H S.pH j l m c⟩
noncomputable def gq(f:DT)(g h:DG):DG:=λA=>(f A).bind λb=>if b=Z' then g A else h A
def kB{c:Expr}{b:List dh}{f:DT}(j:PT X c (qW X.K Z f))(m:rN X a (kl X.K B I Z own1 g))(l:rN X b (kl X.K B I Z own1 h)):PS X (.If c a b J) (kl X.K B I Z own1 (gq f g h)):=(KP j m l).imp <|by
 rintro D C H ⟨G,A,o,S,d,k⟩;let⟨c,n,d⟩:=aa.1 d;refine⟨G,A,c,S.gh,S.iy,n,λe p i =>?_⟩;cases c with
 |true=>exact BV ⟨e,A,o,S.ext i,d,k⟩|false=>exact JF ⟨e,A,o,S.ext i,d,k⟩
def dW(i:Nat)(A:bP):Option (List D):=(eV i A).bind λd=>match d with|.lst a=>Y a|_=>M
def cJ(h:dW i A=Y a):A[i]?=Y (Y (.lst a)):=by
 let⟨d,b,h⟩:=aa.1 h;cases d<;>first|(cases h;exact gR b)|cases h
def SR.ij{K:aP}(S:SR K B Z G H C A)(d:i∈Z)(h:A[i]?=Y (Y (.lst c))):∃a b,C[i]?=Y (Y (.ref a))/\H a=Y (.lst b)/\bh K G c b/\G a=M/\B.2 a=none:=by
 obtain⟨a,k,j,g,⟨b,rfl,f⟩,e⟩:=S.TM d h rfl;exact⟨a,b,j,g,f,e⟩
def sf(i:Nat)(f:DF):DG:=λA=>(dW i A).bind λa=>(f A).bind λd=>if a.length<cY then Y (.nx (A.set i (Y (.lst (a++[d]))))) else M
set_option tactic.hygienic true in
def aeJ{i:Nat}{c b:Pos}{f:DF}(h:PE X (.Name x p) (i5 i))(R:PE X e (tP X.K Z f))(t:autoParam (i∈Z) Ū)(m:autoParam (bS (.Name x p) "append" X.env (eval (.Name x p) X.env)=eval (.Name x p) X.env) Ŭ) (n:autoParam (((cP b (ak (e::[]) X.env)).all (λx=> !x.1)&&(jL b (fi [] X.env)).all (λx=>x.1.isSome)
   && decide ((e::[]).length+([]:List kX).length+(if ([]:List kX).isEmpty then 0 else 1)<30))=true) Ŭ) (l:autoParam ((c.endLine==b.line)=true) Ŭ) (z:autoParam (ak (e::[]) X.env=(Z_,eval e X.env)::ak [] X.env) Ŭ) (g:autoParam ((cP b (ak [] X.env)).any (·.1)=false) Ŭ) (s:autoParam (dy (.Call (.Attribute (.Name x p) "append" c) [e] [] b) M J.line X.env=cQ false) Ŭ) :
  PS X (.Expr (.Call (.Attribute (.Name x p) "append" c) [e] [] b) J) (kl X.K B I Z Z (sf i f)):=
 (mN (vH gO PySem.F.slot_list_append PySem.F.type_list_append lq h (bZ R eC z) m n l z g) s).imp <|by
  rintro D C H ⟨G,A,o,S,j,k⟩;let⟨ds,U,j⟩:=aa.1 j;rw[aa]at j;let⟨d,w,j⟩:=j;split at j
  .cases j;rename_i Q;let u:=cJ U;let⟨a,P,y,e3,_⟩:=S.ij t u;refine⟨_,y,.inl ⟨rfl,P,.of e3⟩,G,A,d,S.gh,S.iy,w,λv G' H' E r =>?_⟩;let L:=S.ext E;let⟨a',q,K,T,F,_⟩:=L.ij t u;rw[y]at K;cases K;refine⟨a,q,v,rfl,rfl,T,?_,k _ G' _ (L.mut t u y (F.append (.cons r .nil)))⟩;rw[<- F.length];exact aY Q eE
  .cases j
def Xe{K:aP}(S:SR K B Z G H C A)(f:j∈Z)(g:A[j]?=Y (Y (.lst b)))(n:b[b.length-1]?=Y d)(k:∀v H',SR K B Z G H' C (A.set j (Y (.lst b.dropLast)))->cX K G d v->Q v H'):aac K "list" aam (i5 j) C H Q:=by
 let⟨a,e,l,i,c,_⟩:=S.ij f g;let⟨v,h,m⟩:=c.get n;rw[c.length]at h;exact⟨_,l,.inl ⟨rfl,e,.of i⟩,a,e,v,rfl,rfl,i,h,k v _ (S.mut f g l c.dropLast) m⟩
def lJ(i:Nat)(f:DF):DG:=λA=>(dW i A).bind λb=>(f A).bind λd=>match d with|.lst a=>if b.length+a.length<=cY then Y (.nx (A.set i (Y (.lst (b++a))))) else M|_=>M
set_option tactic.hygienic true in
def pY{g:Pos}{f:DF}(h:PE X (.Name x p) (i5 i))(he:PE X e (tP X.K Z f))(u:autoParam (i∈Z) Ū)(n:autoParam (bS (.Name x p) "extend" X.env (eval (.Name x p) X.env)=eval (.Name x p) X.env) Ŭ) (q:autoParam (((cP c (ak (e::[]) X.env)).all (λx=> !x.1)&&(jL c (fi [] X.env)).all (λx=>x.1.isSome)
   && decide ((e::[]).length+([]:List kX).length+(if ([]:List kX).isEmpty then 0 else 1)<30))=true) Ŭ) (m:autoParam ((g.endLine==c.line)=true) Ŭ) (L:autoParam (ak (e::[]) X.env=(Z_,eval e X.env)::ak [] X.env) Ŭ) (l:autoParam ((cP c (ak [] X.env)).any (·.1)=false) Ŭ) (t:autoParam (dy (.Call (.Attribute (.Name x p) "extend" g) [e] [] c) M J.line X.env=cQ false) Ŭ) :
  PS X (.Expr (.Call (.Attribute (.Name x p) "extend" g) [e] [] c) J) (kl X.K B I Z Z (lJ i f)):=
 (mN (vH gO PySem.F.slot_list_extend PySem.F.type_list_extend M_ h (bZ he eC L) n q m L l) t).imp <|by
  rintro D C H ⟨G,A,o,S,j,k⟩;let⟨ds,el,j⟩:=aa.1 j;rw[aa]at j;let⟨d,y,j⟩:=j;cases d<;>simp only at j<;>try (cases j;done)
  split at j
  .cases j;rename_i es U;let w:=cJ el;let⟨a,R,z,e3,_⟩:=S.ij u w;refine⟨_,z,.inl ⟨rfl,R,.of e3⟩,G,A,_,S.gh,S.iy,y,λv G' H' E r =>?_⟩;let F:=S.ext E;let⟨a',s,Q,f3,P,_⟩:=F.ij u w;rw[z]at Q;cases Q;let⟨b,T,rfl,gb,K⟩:=cB.mp r;refine⟨a,b,s,T,rfl,rfl,f3,F.gh _ _ gb,?_,k _ G' _ (F.mut u w z (P.append K))⟩;rw[<- P.length,<- K.length];exact aV U eE
  .cases j
def sd(j:Nat)(b c:DF):DG:=λA=>(c A).bind λd=>(dW j A).bind λa=>(b A).bind λk=>match k with|.int k=>(Ou a.length k).map λn =>.nx (A.set j (Y (.lst (a.set n d))))|_=>M
set_option tactic.hygienic true
def acJ{g:Expr}{F P:DF}(h:PE X (.Name x p) (i5 j))(y:PE X g (tQ X.K Z F))(he:PE X e (tP X.K Z P))(w:autoParam (j∈Z) Ū)(hg:∀ {s t:TE},PE X (.Name x p) s->PE X g t->PG X (.Subscript (.Name x p) g b) (abk s t VL):=by intro s t h1 h2;exact Xi h1 h2 R_)(hs:autoParam (swapsWithSole [.Subscript (.Name x p) g b] e J.line X.env=cQ false) Ŭ)(hw:autoParam (swappedStores [.Subscript (.Name x p) g b] e X.env=cQ none) Ŭ):
  PS X (.Assign [.Subscript (.Name x p) g b] e J) (kl X.K B I Z Z (sd j F P)):=
 (Pe he (hg h y) hs hw).imp <|by
  rintro D C H ⟨G,A,o,S,c,k⟩;let⟨d,ef,c⟩:=aa.1 c;rcases l:dW j A with _|ds
  .simp[l]at c
  rcases f:F A with _|i
  .simp_all
  simp only[l,f,ah]at c;cases i<;>simp only at c<;>try (cases c;done)
  rename_i i;rcases K:Ou ds.length i with _|n
  .simp[K]at c
  simp only[K,da]at c;cases c;let z:=cJ l;refine⟨G,A,d,S.gh,S.iy,ef,λv G' H' E r =>?_⟩;let m:=S.ext E;let⟨a,vs,L,_⟩:=m.ij w z;refine⟨_,L,G',A,_,m.gh,m.iy,f,λu G2 H2 U r2 =>?_⟩;let T:=m.ext U;let⟨a',q,R,f3,Q,_⟩:=T.ij w z;rw[L]at R;cases R;exact⟨a,q,i,n,rfl,r2.int,f3,by rw[<- Q.length];exact K,k _ G2 _ (T.mut w z L (Q.set n (cX.mono U.gg d r)))⟩
end
section
variable {X:Cx}{f:DF}
def Mt.imp(h:Mt X r)(k:∀x y H Q,d x y H Q->r x y H Q):Mt X d:=λa b c s e H x y v u Q I g f q i=>h a b c s e H x y v u Q I g f (k _ _ _ _ q) i
def PO.imp{e:Option Expr}(h:PO X e t)(k:∀b H Q,c b H Q->t b H Q):PO X e c:=λa s b H Q I q=>h a s b H Q I (k _ _ _ q)
def lh.imp(h:lh X c r)(k:∀b H Q,d b H Q->r b H Q):lh X c d:=λa s e H b f Q I g q=>h a s e H b f Q I g (k _ _ _ q)
def bh.vk{K:aP}{a:List D}{b:List V}(r:bh K G a b)(h:vk a i=Y d):∃v,L2.vk b i=Y v/\cX K G d v:=by
 unfold L2.vk at h ⊢;rw[<- r.length];let⟨j,e,h⟩:=aa.1 h;rw[e];exact r.get h
def Mg{a b:Type}(g:a->b)(xs:List a)(i:Int):vk (xs.map g) i=(vk xs i).map g:=by
 unfold vk;rw[aG];cases Ou _ i<;>simp_all
def bF:D->D->Option D
 |.lst a,.int i=>vk a i|.tup a,.int i=>vk a i|.kT b,.int i=>(vk b i).map .int|.str x,.int i=>if x.length<=cY then (vk x.cps.toList i).map λc =>.str ⟨#[c]⟩ else M
 |_,_=>M
def WG:Mt X (rD X.K bF):=by
 refine Mt.imp X7 ?_;rintro x y H Q ⟨G,u,t,d,b,h,g,a,q⟩;unfold bF at a;split at a<;>try (cases a)
 .let⟨p,j,f,e,l⟩:=h.lst b;let⟨v,o,k⟩:=l.vk a;exact .inl ⟨p,j,_,v,f,g.int,.of e,o,q _ G H (.refl b) k⟩
 .let⟨p,j,f,e,l⟩:=h.tup b;let⟨v,o,k⟩:=l.vk a;exact .inr (.inl ⟨p,j,_,v,f,g.int,e,o,q _ G H (.refl b) k⟩)
 .let⟨p,f,e⟩:=h.kT b;let⟨c,r,a⟩:=ai.1 a;cases a;exact .inl ⟨p,_,_,_,f,g.int,e,by rw[Mg,r];rfl,q _ G H (.refl b) (cG.mpr rfl)⟩
 .split at a<;>try (cases a)
  let⟨c,r,a⟩:=ai.1 a;cases a;exact .inr (.inr ⟨_,_,c,h.str,g.int,aV (by assumption) eE,r,q _ G H (.refl b) (dI.mpr rfl)⟩)
def abE(e:PE X a (tQ X.K Z fa))(d:PE X b (tQ X.K Z fb))(c:autoParam (Mo b) Š):PE X (.Subscript a b w) (tP X.K Z (e2 bF fa fb)):=(ye WG e d c).imp λf H Q h=>KN h
abbrev DP:=bP->Option (Option Int)
noncomputable def pN:DP:=λ_=>Y M
noncomputable def pS(f:DF):DP:=λa=>(f a).bind λd=>match d with|.int i=>Y (Y i)|_=>M
def TK{f:DF}{a:bP}(h:pS f a=Y o):∃i,f a=Y (.int i)/\o=Y i:=by
 let⟨d,e,h⟩:=aa.1 h
 grind
inductive SU (K:aP) (Z:List Nat) (f:DP) (c:St) (H:Hp) (Q:Option Int->Hp->Prop):Prop
 |mk G a o:bz G H->ki K Z G H c a->f a=some o->(∀d b,gc G H d b->Q o b)->SU K Z f c H Q
def Rt:PO X M (SU X.K Z pN):=Tv.imp <|by rintro d H Q ⟨G,e,o,a,c,b,k⟩;cases b;exact k G H (.refl a)
def Rr(h:PE X e (tQ X.K Z f)):PO X (Y e) (SU X.K Z (pS f)):=(Tu h).imp <|by
 rintro r H Q ⟨G,b,o,d,a,g,k⟩;let⟨i,j,rfl⟩:=TK g;exact⟨G,b,_,d,a,j,λv p l q c=>⟨i,c.int,k p l q⟩⟩
def B_{a:Type}(xs:List a)(m n:Option Int):List a:=(xs.drop (HT.lI xs.length 0 m)).take (HT.lI xs.length xs.length n-HT.lI xs.length 0 m)
def bh.cut{K:aP}{b:List D}{a:List V}(r:bh K G b a)(m n:Option Int):bh K G (B_ b m n) (Hm a m n):=by
 unfold Hm;rw[<- r.length];exact(r.drop _).take _
def lY(f:DF)(m n:DP):DL:=λa=>(f a).bind λd=>(m a).bind λl=>(n a).bind λh=>match d with|.lst b=>Y (B_ b l h)|.kT c=>Y ((B_ c l h).map D.int)|_=>M
variable {m:Option Expr}
set_option tactic.hygienic true in
def aeO(K:PE X e (tQ X.K Z f))(J:PO X m (SU X.K Z l))(I:PO X n (SU X.K Z h)):PE X (.Subscript e (.Slice m n M B) w) (tF X.K Z (lY f l h)):=(Ae S5 K J I).imp <|by
 rintro O H Q ⟨G,i,P,L,g,a,k⟩;unfold lY at a;rcases ef:f i with _|d
 .simp_all
 rcases el:l i with _|s
 .simp_all
 rcases eh:h i with _|t
 .simp_all
 simp only[ef,el,eh,ah]at a;refine⟨G,i,d,L,g,ef,λv N T o F=>⟨N,i,s,o.gh,g.ext o,el,λA S j=>⟨A,i,t,j.gh,(g.ext o).ext j,eh,λz R b =>?_⟩⟩⟩;let E:=(o.trans j).trans b;let x:=F.ext (j.trans b);cases d<;>simp only at a<;>try simp_all
 .cases a;let⟨p,C,u,r,D⟩:=x.lst b.gh;exact⟨p,C,u,.of r,λq c=>k q _ z _ (E.trans (gc.lay b.gh c)) (E.hh.free c) (b.gh.free c) a_ (D.cut _ _)⟩
 .cases a;rename_i y;let⟨p,u,r⟩:=x.kT b.gh;refine⟨p,_,u,r,λq c=>k q _ z _ (E.trans (gc.lay b.gh c)) (E.hh.free c) (b.gh.free c) a_ ?_⟩;have:Hm (y.map V.int) s t=(B_ y s t).map V.int:=by unfold Hm B_;rw[aG,<- List.map_drop,<- List.map_take]
  simp_all [bh.ints]
def WX:SlR X (λx m n H Q=>∃z,x=.str z/\z.length<=aU/\Q (.str (Fq z m n)) H):=by
 intro a s d H x v f e m n g Q I h r o c ⟨z,y,p,q⟩;subst y;let⟨t,rfl⟩:=h;refine⟨_,_,F.slot_str_getitem.lookup,Y9 _ _ _,?_⟩;have lQ:∀(l u:Option _),f=partValue l->e=partValue u->l.map (·.1)=m->u.map (·.1)=n->aX (bc X.prog X.w) X.A (Bw (.str z t) _) (EP X a d Q) X.xe s:=λl u G E D C=>by subst G E D C;exact wpAny_getItem_str_slice (st:=M) r rfl (post_val_or_str ⟨aV (Txt.slice_le z _ _) p,λJ k=>⟨.str _,H,I.tok _,⟨_,rfl⟩,q⟩⟩)
 cases o with
 |none=>
  cases c with
  |none=>exact lQ M M rfl rfl rfl rfl|int j u=>exact lQ M (Y (j,u)) rfl rfl rfl rfl
 |int i b=>
  cases c with|none=>exact lQ (Y (i,b)) M rfl rfl rfl rfl|int j u=>exact lQ (Y (i,b)) (Y (j,u)) rfl rfl rfl rfl
def He(f:DF)(m n:DP):DF:=λa=>(f a).bind λd=>(m a).bind λl=>(n a).bind λh=>match d with|.str x=>if x.length<=cY then Y (.str (Fq x l h)) else M|_=>M
set_option tactic.hygienic true in
def aeN(y:PE X e (tQ X.K Z f))(x:PO X m (SU X.K Z l))(u:PO X n (SU X.K Z h)):PE X (.Subscript e (.Slice m n M B) w) (tP X.K Z (He f l h)):=(Ae WX y x u).imp <|by
 rintro K H Q ⟨G,c,L,z,b,a,k⟩;unfold He at a;rcases g:f c with _|d
 .simp_all
 rcases i:l c with _|r
 .simp_all
 rcases o:h c with _|t
 .simp_all
 simp only[g,i,o,ah]at a;refine⟨G,c,d,z,b,g,λv I N j q=>⟨I,c,r,j.gh,b.ext j,i,λF A p=>⟨F,c,t,p.gh,(b.ext j).ext p,o,λD C J =>?_⟩⟩⟩;cases d<;>simp only at a<;>try (cases a)
 split at a
 .cases a;rename_i s;exact⟨_,q.str,aV s eE,k _ D C ((j.trans p).trans J) (dI.mpr rfl)⟩
 .cases a
noncomputable def aO(o:List D->Option D)(g:DL):DF:=λa=>(g a).bind o
def A5{g:DL}{a:bP}(h:aO o g a=Y d):∃b,g a=Y b/\o b=Y d:=by
 let⟨x,c,h⟩:=aa.1 h;rw[c];exact⟨x,rfl,h⟩
inductive rC (K:aP) (o:List D->Option D) (e:List V) (H:Hp) (Q:VK):Prop
 |mk G a d:bz G H->Mn K G H a e->o a=some d->(∀v c b,gc G H c b->cX K c d v->Q v b)->rC K o e H Q
def aal{K:aP}{g:DL}{b:St}(h:tP K Z (aO o g) b H Q):tCB (rC K o) (Zn K Z g) b H Q:=by
 let⟨G,f,d,l,a,q,k⟩:=h;let⟨c,p,r⟩:=A5 q;exact⟨G,f,c,l,a,p,λy u z e j=>⟨u,c,d,e.gh,j,r,λv t s x i=>k v t s (e.trans x) i⟩⟩
def Mn.one{K:aP}{a:List V}(r:Mn K G H [d] a):∃v,a=[v]/\iB K G H d v:=by
 cases r with|cons r t=>cases t;simp_all
def eW:List D->Option D
 |[.lst a]=>Y (.int a.length)|[.tup a]=>Y (.int a.length)|[.kT a]=>Y (.int a.length)|[.str x]=>if x.length<=cY then Y (.int x.length) else M
 |_=>M
set_option tactic.hygienic true in
def YU:lh X (.builtin "len") (rC X.K eW):=by
 refine lh.imp (qM.or EM) ?_;rintro i H Q ⟨G,j,d,c,r,a,q⟩;unfold eW at a;split at a
 .cases a;let⟨v,rfl,b⟩:=r.one;let⟨p,f,rfl,e,g⟩:=b.lst c;refine .inl ⟨p,f,rfl,.inl (.of e),?_⟩;rw[<- g.length];exact q _ G H (.refl c) (cG.mpr rfl)
 .cases a;let⟨v,rfl,b⟩:=r.one;let⟨p,f,rfl,e,g⟩:=b.tup c;refine .inl ⟨p,f,rfl,.inr e,?_⟩;rw[<- g.length];exact q _ G H (.refl c) (cG.mpr rfl)
 .cases a;let⟨v,rfl,b⟩:=r.one;let⟨p,rfl,e⟩:=b.kT c;refine .inl ⟨p,_,rfl,.inl e,?_⟩;rw[aG];exact q _ G H (.refl c) (cG.mpr rfl)
 .split at a
  .cases a;rename_i h;let⟨v,rfl,b⟩:=r.one;exact .inr ⟨_,by rw[b.str],aV h eE,q _ G H (.refl c) (cG.mpr rfl)⟩
  .cases a
 .cases a
def Bb(l:lh X (.builtin c) (rC X.K o))(j:Gl X x)(i:X.mg x=M)(d:d9 x=Y (.builtin c))(q:PA X (e::A) (Zn X.K Z g))(f:autoParam (x ≠ "__name__") Ū)(b:autoParam ((x==("__debug__" : aH))=false) Ū)(k:autoParam (ak (e::A) X.env=(Z_,eval e X.env)::ak A X.env) Ŭ)(a:autoParam ((cP w (ak A X.env)).any (·.1)=false) Ŭ):PE X (.Call (.Name x p) (e::A) [] w) (tP X.K Z (aO o g)):=
 (vG l j i d q f b k a).imp λr H Q h=>aal h
def YM(c:Gl X "len")(b:X.mg "len" = M)(h:PE X e (tQ X.K Z f))(a:autoParam (ak (e::[]) X.env=(Z_,eval e X.env)::ak [] X.env) Ŭ):PE X (.Call (.Name "len" p) [e] [] w) (tP X.K Z (aO eW (aC f aN))):=
 Bb YU c b PySem.boot_len (A7 h EF a) ſ ſ a rfl
noncomputable def Sr(T:String):D->Bool
 |.dr=>T == "NoneType"|.bl _=>T == "bool" || T == "int"
 |.int _=>T == "int"|.str _=>T == "str"|.lst _=>T == "list"|.kT _=>T == "list"|.tup _=>T == "tuple"|.ins _ _ _=>Z_|.fS _ _=>T == "dict"|.obj _ _=>Z_|.kh _ _=>Z_
noncomputable def Mw:List String:=["bool","int","str","list","tuple"]
def Ow(T:String)(f:DF):DF:=λa=>(f a).bind λd=>match d with|.kT _=>M|.ins _ _ _=>M|.fS _ _=>M|.obj _ _=>M|.kh _ _=>M|d=>Y (.bl (Sr T d))
def Um:∀T∈Mw,∀(K:aP),kitOne K (.type "NoneType") (.type T)=Y (Sr T .dr)/\kitOne K (.type "bool") (.type T)=Y (Sr T (.bl Z'))/\kitOne K (.type "int") (.type T)=Y (Sr T (.int 0)) /\
  kitOne K (.type "str") (.type T)=Y (Sr T (.str Str.empty))/\kitOne K (.type "list") (.type T)=Y (Sr T (.lst []))/\kitOne K (.type "tuple") (.type T)=Y (Sr T (.tup [])):=by
 intro T a K;simp only[Mw,aq,eP,or_false]at a;rcases a with rfl|rfl|rfl|rfl|rfl<;>exact⟨ź,ź,ź,ź,ź,ź⟩
def NU(T:String)(S:T∈Mw):lh X (.builtin "isinstance") (λy H Q=>∃G d v,bz G H/\y=[v,.ty T]/\iB X.K G H d v/\(∀o,d ≠ .kT o)/\(∀c g f,d ≠ .ins c g f)/\(∀g f,d ≠ .fS g f)/\((∀s t,d ≠ .obj s t)/\∀s t,d ≠ .kh s t)/\Q (.bl (Sr T d)) H):=by
 intro j s D H y us Q I F ⟨G,d,v,C,e,r,R,p,x,k,q⟩;subst e;let⟨u,c,rfl,h,J⟩:=b8.two F;cases J;let⟨P,O,N,m,L,K⟩:=Um T S X.K;have lQ:∀z,EP X j D Q _ { s with toks:=z }:=λz=>⟨.bl _,H,I.tok _,rfl,q⟩
 cases d with
 |dr=>have:=r.dr;subst this;exact m6 I h .dr P lQ
 |bl b=>have:=r.bl;subst this;exact m6 I h (.bl b) O lQ
 |int i=>have:=r.int;subst this;exact m6 I h (.int i) N lQ
 |str i=>have:=r.str;subst this;exact m6 I h (.str i) m lQ
 |lst U=>let⟨a,E,rfl,l,_⟩:=r.lst C;exact m6 I h (.lst l) L lQ
 |tup U=>let⟨a,E,rfl,l,_⟩:=r.tup C;exact m6 I h (.tup l) K lQ
 |kT o=>simp_all|ins c g f=>exact absurd rfl (p c g f)|fS g f=>simp_all|obj s t=>exact absurd rfl (k.1 s t)|kh s t=>exact absurd rfl (k.2 s t)
def xP{b:Pos}(U:T∈Mw)(S:Gl X "isinstance")(R:X.mg "isinstance" = M)(D:Gl X y)(C:X.mg y=M)(j:d9 y=Y (.type T))(h:PE X e (tQ X.K Z f))(x:autoParam (y ≠ "__name__") Ū)(E:autoParam ((y==("__debug__" : aH))=false) Ū)(J:autoParam (ak (e::[.Name y b]) X.env=(Z_,eval e X.env)::ak [.Name y b] X.env) Ŭ)(l:autoParam (ak [.Name y b] X.env=(Z_,eval (.Name y b) X.env)::ak [] X.env) Ŭ)(o:autoParam ((cP w (ak [.Name y b] X.env)).any (·.1)=false) Ŭ):
  PE X (.Call (.Name "isinstance" p) [e,.Name y b] [] w) (tP X.K Z (Ow T f)):=
 (vG (NU T U) S R PyProof.Rows.boot_isinstance (bZ h (bZ (TJ (v :=.ty T) D C j rfl x E) eC l) J) ſ ſ J o).imp <|by
  rintro σ H Q ⟨G,N,d,gh,F,a,k⟩;let⟨c,ef,a⟩:=aa.1 a;have P:∀I,c ≠ .kT I:=λI z=>by subst z;cases a
  have r:∀K i g,c ≠ .ins K i g:=λK i g z=>by subst z;cases a
  have u:∀i g,c ≠ .fS i g:=λi g z=>by subst z;cases a
  let ed:d=.bl (Sr T c):=by cases c<;>first|(cases a;rfl)|cases a
  subst ed;exact⟨G,N,c,gh,F,ef,λv L H1 m O=>⟨L,c,v,m.gh,rfl,O,P,r,u,(⟨λs t z=>(by subst z;cases a),λs t z=>(by subst z;cases a)⟩),k _ L H1 m (b_.mpr rfl)⟩⟩
def Jf:D->D->Option D
 |.obj _ _,_=>M|.kh _ _,_=>M|.dr,.dr=>Y (.bl Z')|_,.dr=>Y (.bl Z_)|_,_=>M
def adH:yF X (cR .Is) Jf:=mj.imp Xt <|by
 rintro x y H Q ⟨G,h,o,d,f,g,l,e,q⟩;cases o<;>simp only[Jf]at e<;>try (cases h<;>cases e;done)
 refine⟨l.dr,?_⟩;cases h with
 |dr=>cases e;rw[g.dr];exact q _ G H (.refl f) (b_.mpr rfl)|bl b=>cases e;rw[g.bl];exact q _ G H (.refl f) (b_.mpr ż)
 |int b=>cases e;rw[g.int];exact q _ G H (.refl f) (b_.mpr ż)
 |str b=>cases e;rw[g.str];exact q _ G H (.refl f) (b_.mpr ż)
 |lst b=>cases e;let⟨a,j,rfl,_⟩:=g.lst f;exact q _ G H (.refl f) (b_.mpr ż)
 |tup b=>cases e;let⟨a,j,rfl,_⟩:=g.tup f;exact q _ G H (.refl f) (b_.mpr ż)
 |kT b=>cases e;let⟨a,rfl,_⟩:=g.kT f;exact q _ G H (.refl f) (b_.mpr ż)
 |ins c k i=>cases e;let⟨a,rfl⟩:=g.ins;exact q _ G H (.refl f) (b_.mpr ż)
 |fS k i=>cases e;let⟨a,rfl⟩:=g.fS;exact q _ G H (.refl f) (b_.mpr ż)
 |_=>cases e
def vL:D->D->Option D
 |.obj _ _,_=>M|.kh _ _,_=>M|.dr,.dr=>Y (.bl Z_)|_,.dr=>Y (.bl Z')|_,_=>M
def acf:yF X (cR .IsNot) vL:=mj.imp TQ <|by
 rintro x y H Q ⟨G,h,o,d,f,g,l,e,q⟩;let z:o=.dr:=by unfold vL at e;split at e<;>first|rfl|cases e
 subst z;refine⟨l.dr,?_⟩;cases h with
 |dr=>cases e;rw[g.dr];exact q _ G H (.refl f) (b_.mpr rfl)|bl b=>cases e;rw[g.bl];exact q _ G H (.refl f) (b_.mpr ż)
 |int b=>cases e;rw[g.int];exact q _ G H (.refl f) (b_.mpr ż)
 |str b=>cases e;rw[g.str];exact q _ G H (.refl f) (b_.mpr ż)
 |lst b=>cases e;let⟨a,j,rfl,_⟩:=g.lst f;exact q _ G H (.refl f) (b_.mpr ż)
 |tup b=>cases e;let⟨a,j,rfl,_⟩:=g.tup f;exact q _ G H (.refl f) (b_.mpr ż)
 |kT b=>cases e;let⟨a,rfl,_⟩:=g.kT f;exact q _ G H (.refl f) (b_.mpr ż)
 |ins c k i=>cases e;let⟨a,rfl⟩:=g.ins;exact q _ G H (.refl f) (b_.mpr ż)
 |fS k i=>cases e;let⟨a,rfl⟩:=g.fS;exact q _ G H (.refl f) (b_.mpr ż)
 |_=>cases e
def eS(f:DF):DT:=λc=>(f c).bind λd=>match d with
 |.dr=>Y Z_|.bl b=>Y b|.int i=>Y (i != 0)|.str y=>if y.length<=cY then Y ((y.length:Int) != 0) else M
 |.lst a=>Y (!a.isEmpty)|.tup a=>Y (!a.isEmpty)|.kT a=>Y (!a.isEmpty)|.ins _ _ _=>M|.fS _ _=>M|.obj _ _=>M|.kh _ _=>M
def bh.empty{K:aP}{b:List D}{a:List V}(r:bh K G b a):b.isEmpty=a.isEmpty:=by
 have:=r.length;cases b<;>cases a<;>simp at this ⊢
set_option tactic.hygienic true
def we(h:PE X e (tQ X.K Z f))(C:autoParam (∀g,isTrue e X.env g=(do let v <- g;tY e.pos;px [v] (truthy v))) ũ):PT X e (qW X.K Z (eS f)):=(Pa h C).imp <|by
 rintro I H Q ⟨G,s,b,D,q,d,k⟩;unfold eS at d;rw[aa]at d;let⟨c,r,d⟩:=d;refine⟨G,s,c,D,q,r,λv F E l i=>⟨b,?_,k F E l⟩⟩;cases c with
 |dr=>cases d;rw[i.dr];rfl|bl b=>cases d;rw[i.bl];rfl|int b=>cases d;rw[i.int];rfl|str y=>
  rw[i.str];let d:(if y.length<=cY then Y _ else M)=Y b:=d;split at d
  .cases d;rename_i z;exact⟨aV z eE,rfl⟩
  .cases d
 |lst t=>cases d;let⟨a,o,rfl,j,p⟩:=i.lst l.gh;exact .inl ⟨o,.of j,by rw[p.empty]⟩
 |tup t=>cases d;let⟨a,o,rfl,j,p⟩:=i.tup l.gh;exact .inr (.inl ⟨o,j,by rw[p.empty]⟩)
 |kT t=>cases d;let⟨a,rfl,j⟩:=i.kT l.gh;exact .inl ⟨_,j,ż⟩
 |_=>cases d
end
structure yG(K:aP)(G0:Hp)(J:It)(ds:List D):Prop where
 go:∀i H,bz G0 H->i<ds.length->J.go i H
 stop:∀i H,bz G0 H->ds.length<=i->J.stop i H
 So:∀(i:Nat) (H:Hp) (x:V) (H' G:Hp) (d:D),bz G0 G->bz G H->J.So i H x H'->ds[i]?=some d->∃G',gc G H G' H'/\cX K G' d x
inductive yM (K:aP) (Z:List Nat) (f:DL) (l:St) (H:Hp) (R:It->Hp->Prop):Prop
 |mk G ρ a:bz G H->ki K Z G H l ρ->f ρ=some a->(∀J c b,gc G H c b->yG K c J a->R J b)->yM K Z f l H R
section
variable {X:Cx}{f:DF}
def PI.imp{t:TI}(h:PI X L O t)(k:∀l H R,b l H R->t l H R):PI X L O b:=λa s l H R I q=>h a s l H R I (k _ _ _ q)
noncomputable def iL(f:DF):DL:=λρ=>(f ρ).bind λd=>match d with|.lst a=>Y a|_=>M
def Es{f:DF}(h:iL f ρ=Y a):f ρ=Y (.lst a):=by
 let⟨d,e,h⟩:=aa.1 h;rw[e];cases d<;>first|(cases h;rfl)|cases h
def C7{K:aP}(g:G a=Y (.lst b))(r:bh K G n b):yG K G (Itl K a) n:=by
 refine⟨λi H s f =>?_,λi H s f=>⟨b,.of (s _ _ g),by rw[<- r.length];exact f⟩,λi H x B A d j h ⟨e,y⟩ z =>?_⟩
 .have c:i<b.length:=by rw[<- r.length];exact f
  exact⟨b,b[i],.of (s _ _ g),by simp[c]⟩
 .subst e;let⟨v,k,o⟩:=r.get z;rw[y b (.of (h _ _ (j _ _ g)))]at k;cases k;exact⟨A,.refl h,cX.mono j d o⟩
def qG(h:PE X e (tP X.K Z f)):PI X L e (yM X.K Z (iL f)):=(KU h).imp <|by
 rintro l H R ⟨G,ρ,p,n,b,o,k⟩;refine⟨G,ρ,_,n,b,Es o,λv A w d j =>?_⟩;let⟨a,g,rfl,c,i⟩:=cB.mp j;exact⟨a,rfl,⟨g,.of (d.gh _ _ c)⟩,k _ A w d (C7 c i)⟩
noncomputable def fx(a:Int)(n:Nat):List D:=(cm n).map λ(k:Nat) =>.int (a+(k:Int))
def AH{K:aP}(c:Int)(n:Nat):yG K G (Itr c n) (fx c n):=by
 have f:(fx c n).length=n:=by simp[fx]
 refine⟨λi H s a=>by rw[f]at a;exact a,λi H s a=>by rw[f]at a;exact a,λi H x p A d k g ⟨e,y⟩ b =>?_⟩;subst e;refine⟨A,.refl g,?_⟩;unfold fx at b;rw[aT]at b;let⟨j,q,b⟩:=ai.1 b;cases b;have:j=i:=by let⟨o,h⟩:=au.mp q;simpa using h.symm
 subst this
 exact Ÿ
def wM(f:DF):DL:=λρ=>(f ρ).bind λd=>match d with|.int j=>if -(2 ^ 62)<=j/\j<2 ^ 62 then Y (fx 0 j.toNat) else M|_=>M
set_option tactic.hygienic true in
def ZI(r:Gl X "range")(o:X.mg "range" = M)(h:PE X e (tQ X.K Z f))(n:autoParam (ak [e] X.env=(Z_,eval e X.env)::ak [] X.env) Ŭ)(b:autoParam (ak [e] X.env=[(Z_,eval e X.env)]) Ŭ):PI X L (.Call (.Name "range" p) [e] [] u) (yM X.K Z (wM f)):=
 (CG r o (bZ h eC n) b).imp <|by
  rintro l H R ⟨G,ρ,z,s,c,a,k⟩;let⟨d,x,a⟩:=aa.1 a;cases d<;>simp only[ah]at a<;>try (cases a)
  split at a
  .cases a;rename_i j g;exact⟨G,ρ,_,s,c,x,λv A w y i=>⟨j,by rw[i.int],g.1,g.2,k _ A w y (AH 0 _)⟩⟩
  .cases a
def iR2(f g:DF):DL:=λρ=>(f ρ).bind λd=>(g ρ).bind λc=>match d,c with|.int i,.int j=>if -(2 ^ 62)<=i/\i<2 ^ 62 /\ -(2 ^ 62)<=j/\j<2 ^ 62 then Y (fx i (j-i).toNat) else M|_,_=>M
end
abbrev BF:=D->bP->Option bP
inductive Fk (K:aP) (B:Bs) (Z:List Nat) (τ:BF) (v:V) (l:St) (H:Hp) (Q:St->Hp->Prop):Prop
 |mk G ρ d b:SR K B Z G H l ρ->cX K G d v->τ d ρ=some b->(∀a e c,SR K B Z e c a b->Q a c)->Fk K B Z τ v l H Q
inductive Zm (K:aP) (Z:List Nat) (τ:BF) (v:V) (l:St) (H:Hp) (Q:St->Hp->Prop):Prop
 |mk G ρ d b:bz G H->ki K Z G H l ρ->cX K G d v->τ d ρ=some b->(∀a e c,gc G H e c->ki K Z e c a b->Q a c)->Zm K Z τ v l H Q
section
variable {X:Cx}
def PG.imp{L:Expr}{t:TG}(h:PG X L t)(k:∀v l H Q,b v l H Q->t v l H Q):PG X L b:=λa s l H v u Q I r q=>h a s l H v u Q I r (k _ _ _ _ q)
noncomputable def gN(i:Nat):BF:=λd ρ=>Y (ρ.set i (Y d))
def UY{i:Nat}(h:PG X L (oK i))(b:autoParam (i∉Z) Ū):PG X L (Fk X.K B Z (gN i)):=h.imp <|by
 rintro v l H Q ⟨G,ρ,d,a,S,r,c,k⟩;cases c;exact k _ G H (S.vz b r)
def ki.set{K:aP}{i:Nat}{d:D}{v:V}(h:ki K Z G H l ρ)(s:i∉Z)(r:cX K G d v):ki K Z G H (l.set i (Y v)) (ρ.set i (Y d)):=
 ⟨by simp[h.len],λj c e=>by
  rcases iM e with⟨rfl,rfl,C⟩|⟨b,e⟩
  .exact⟨v,wB (by rw[h.len];exact C),Ż⟩
  .obtain _:=h.get j c e
   simp_all,λj k p g N e=>by
  have a:∀j,j∈Z->i≠j:=λj F e=>s (e ▸ F)
  rw[be (a j g)]at e;let⟨f,m,z,y,B,w,x,o,n,Q,P⟩:=h.kh j k p g N e;exact⟨f,m,z,y,B,w,x,Ż,Ż,Ż,P⟩⟩
noncomputable def yA(i j:Nat):BF:=λd ρ=>match d with|.tup [a,b]=>Y ((ρ.set i (Y a)).set j (Y b))|_=>M
def Q9(h:yA i j d ρ=Y c):∃a b,d=.tup [a,b]/\c=(ρ.set i (Y a)).set j (Y b):=by
 unfold yA at h;split at h<;>grind
def Tf{K:aP}{v:V}(r:cX K G (.tup [a,b]) v):∃p x y,v=.ref p/\Ml K G p [x,y]/\cX K G a x/\cX K G b y:=by
 let⟨p,h,e,g,f⟩:=d5.mp r;let⟨x,j,rfl,d,t⟩:=bH.mp f;let⟨y,i,rfl,c,t⟩:=bH.mp t;rw[dU.mp t]at g;exact⟨p,x,y,e,g,d,c⟩
def Ry{i:Nat}(h:PG X L (Yn X.K 2 (Dh (oK i) (Dh (oK j) Yo))))(o:autoParam (i∉Z) Ū)(n:autoParam (j∉Z) Ū):PG X L (Fk X.K B Z (yA i j)):=h.imp <|by
 rintro v l H Q ⟨G,ρ,d,c,S,r,s,k⟩;let⟨a,b,rfl,rfl⟩:=Q9 s;let⟨p,x,y,rfl,g,f,e⟩:=Tf r;exact⟨p,_,rfl,g.sq S.gh,rfl,x,_,rfl,y,_,rfl,rfl,k _ G H ((S.vz o f).vz n e)⟩
end
noncomputable def dz(τ:BF)(g:DG):List D->bP->Option DO
 |[],ρ=>Y (.nx ρ)| d::b,ρ=>(τ d ρ).bind λρ1=>(g ρ1).bind λo=>match o with
  |.nx a=>dz τ g b a|.ct a=>dz τ g b a|.bk a=>Y (.nx a)|.rt d=>Y (.rt d)|.ro d=>Y (.ro d)|.rm d ρ=>Y (.rm d ρ)|.rf i ρ=>Y (.rf i ρ)|.ex c n=>Y (.ex c n)
def gW(f:DL)(τ:BF)(g:DG):DG:=λρ=>(f ρ).bind λa=>dz τ g a ρ
section
variable {K:aP}
def tW.base{F:Nat->List aw}(W:tW K B Z G H l ρ F)(h:a.2=B.2):tW K a Z G H l ρ F:=⟨W.it,λi d b e=>by rw[h];exact W.ok i d b e,W.ap⟩
def SR.rebase(a:SR K B Z A w q ρ1)(S:SR K B Z G H l ρ)(s:bz A G):SR K ⟨A,B.2,B.3,B.4⟩ Z G H l ρ:=
 ⟨S.gh,s,S.h0,λb o e=>by
  rcases S.fr b o e with z|z
  .exact .inl (a.g0 b o z)
  .exact .inr z,S.env,by let⟨F,W⟩:=S.ow;exact⟨F,W.base rfl⟩,S.len,S.pin,S.kh⟩
def SR.DR(c:SR K B Z A w q ρ1)(S:SR K ⟨A,B.2,B.3,B.4⟩ a G H l ρ):SR K B a G H l ρ:=
 ⟨S.gh,c.g0.trans S.g0,S.h0,λb o e=>by
  rcases S.fr b o e with z|z
  .exact c.fr b o z
  .exact .inr z,S.env,by let⟨F,W⟩:=S.ow;exact⟨F,W.base rfl⟩,S.len,S.pin,S.kh⟩
def SR.zx(a:SR K B Z A w q ρ1)(S:SR K ⟨A,B.2,B.3,B.4⟩ Z G H l ρ):SR K B Z G H l ρ:=a.DR S
def gc.zx(a:SR K B Z A w q ρ1)(E:gc A B.2 G H):gc B.1 B.2 G H:=
 ⟨E.hh,a.g0.trans E.gg,E.gh,λb o e=>by
  rcases E.fr b o e with z|z
  .exact a.fr b o z
  .exact .inr z⟩
end
section
variable {X:Cx}{f:DL}
inductive tMI (K:aP) (B:Bs) (Z:List Nat) (f:bP->Option (List D×bP)) (l:St) (H:Hp) (R:It->Hp->Prop):Prop
 |mk G ρ b a:SR K B Z G H l ρ->f ρ=some (b,a)->(∀J d c,SR K B Z d c l a->yG K d J b->R J c)->tMI K B Z f l H R
def FW(f:bP->Option (List D×bP))(τ:BF)(g:DG):DG:=λρ=>(f ρ).bind λp=>dz τ g p.1 p.2
def Hf{f:bP->Option (List D×bP)}(hp:yJ (bc X.prog X.w) X.A X.env X.xe)(hc:X.calm=Z')(hi:PI X L O (tMI X.K B Z f))(hg:∀C:Bs,C.3=B.3->PG X L (Fk X.K C Z τ))(hb:∀C:Bs,C.3=B.3->C.2=B.2/\C.4=B.4->rN X I (kl X.K C Z Z Z g))(hs:autoParam (∀x,cb O X.env x=cQ x) ũ):PS X (.For L O I [] u) (kl X.K B t Z Z (FW f τ g)):=by
 intro Q s l H D' j ⟨G,ρ,o,S,eq,k⟩;obtain⟨⟨R,ρ0⟩,ef,eq⟩:=aa.1 eq;let eq:=eq;refine wpAny_For (fu (hi Q s l H (λJ w=>∃A,SR X.K B Z A w l ρ0/\yG X.K A J R) j ⟨G,ρ,R,ρ0,S,ef,λJ A w S1 ok=>⟨A,S1,ok⟩⟩) λv s1 h1=>fu h1 λitv s2 h2 =>?_) hs;let⟨it,fp,tn,J,H2,e,I2,T,Sq,f2,A,S1,ok⟩:=h2;subst e;have Ir:∀ {H':Hp},(∀b∈fp,H' b=M)->∀b∈fp,Bo X Q H' b:=λhn b hb=>⟨hn b hb,(f2 b hb).2⟩
 refine codeAny_forLoop_any (λn s'=>∃i σ' H' G' ρ',Inv X Q σ' H' s'/\tn i s'.heap/\(∀b∈fp,H' b=M)/\n=R.length-i/\i<=R.length/\SR X.K _ Z G' H' σ' ρ'/\dz τ g (R.drop i) ρ'=Y o) ?_ R.length
  ⟨0,l,H2,A,ρ0,I2,Sq,λb hb=>(f2 b hb).1,rfl,d7 _,S1.rebase S1 (bz.refl _),eq⟩
 rintro n s3 ⟨i,σ3,H3,G3,ρ3,I3,st3,fr3,rfl,hil,S3,F⟩;let aaf:=S3.g0.trans S3.gh;by_cases GO:i<R.length
 .rw[(cZ GO)]at F;unfold dz at F;let⟨P,et,F⟩:=aa.1 F;let⟨o4,eg,F⟩:=aa.1 F;refine dQ hp (fu (T.item X rfl rfl rfl hc i Q s3 σ3 H3 X.xe I3 (Ir fr3) st3 (ok.go i H3 aaf GO)) ?_);rintro r s4 ⟨h,hr,h4⟩;subst hr;refine dQ hp (fu h4 ?_);rintro _ s5 ⟨x,H5,I5,r5,y5,Zr,ZF⟩;let I5':=I5.pinned (Ir ZF) (T.obj _ _ Zr);let⟨G5,E5,adu⟩:=ok.So i H3 x H5 G3 R[i] S3.g0 S3.gh y5 (aS GO);refine dQ hp (fu (hg ⟨A,B.2,B.3,B.4⟩ rfl _ s5 σ3 H5 x h (λN H6=>∃G6,SR X.K ⟨A,B.2,B.3,B.4⟩ Z G6 H6 N P) I5' r5 ⟨G5,ρ3,R[i],P,S3.ext E5,adu,et,λN G6 H6 S6=>⟨G6,S6⟩⟩) ?_);rintro _ s6 ⟨N,H6,I6,G6,S6⟩;have again:∀ {p:St}{K q:Hp}{ρ7:bP}{s7:ar},Inv X (Q++uH fp s5.heap) p K s7->SR X.K ⟨A,B.2,B.3,B.4⟩ Z q K p ρ7->dz τ g (R.drop (i+1)) ρ7=Y o ->
    ∃m,m<R.length-i/\∃i σ' H' G' ρ',Inv X Q σ' H' s7/\tn i s7.heap/\(∀b∈fp,H' b=M)/\m=R.length-i/\i<=R.length/\SR X.K ⟨A,B.2,B.3,B.4⟩ Z G' H' σ' ρ'/\dz τ g (R.drop i) ρ'=Y o:=fun {p K q ρ7 s7} I7 S7 e7=>by
   refine⟨R.length-(i+1),Ž,i+1,p,K,q,ρ7,I7.m_,T.keep _ _ _ Zr λb hb o e=>(I7.pin (b,o) (aQ _ (aQ _ (j8 hb e)))).1,λb hb =>?_,rfl,GO,S7,e7⟩;let⟨o,e,d⟩:=T.obj _ _ Zr b hb;exact(I7.pin (b,o) (aQ _ (aQ _ (j8 hb e)))).2.1
  refine dQ hp (fu (hb ⟨A,B.2,B.3,B.4⟩ rfl ⟨rfl,rfl⟩ _ s6 N H6 { nx:=λp K=>∃q r,SR X.K ⟨A,B.2,B.3,B.4⟩ Z q K p r/\dz τ g (R.drop (i+1)) r=Y o,ct:=λp K=>∃q r,SR X.K ⟨A,B.2,B.3,B.4⟩ Z q K p r/\dz τ g (R.drop (i+1)) r=Y o,bk:=D'.nx,rt:=D'.rt } I6 ⟨G6,P,o4,S6,eg,?_⟩) λfl s7 y =>?_)
  .cases o4 with
   |nx r=>exact λp q K S7=>⟨q,r,S7,F⟩
   |ct r=>exact λp q K S7=>⟨q,r,S7,F⟩
   |bk r=>cases F;exact λp q K S7=>k _ q K (S1.zx S7)
   |rt d=>cases F;exact λv q K E7 r7=>k v q K (gc.zx S1 E7) r7
   |ro d=>cases F;exact λa vs q K E7 h1 h2 h3 r7=>k a vs q K (gc.zx S1 E7) h1 h2 h3 r7
   |rm d r=>cases F;exact λv p q K ⟨o7,S7⟩ r7=>k v p q K ⟨o7,S1.DR S7⟩ r7
   |rf j r=>cases F;exact λv p q K ⟨o7,ho7,S7⟩ r7=>k v p q K ⟨o7,ho7,S1.DR S7⟩ r7
   |ex c n=>cases F;exact k
  cases fl with
  |ret v=>let⟨x7,p,K,I7,r7,y⟩:=y;exact⟨x7,p,K,I7.m_,r7,y⟩
  |brk=>let⟨p,K,I7,y⟩:=y;exact⟨p,K,I7.m_,y⟩
  |_=>let⟨p,K,I7,q,r,S7,F⟩:=y;exact again I7 S7 F
 .let e:i=R.length:=by lia
  subst e;rw[kR]at F;cases F;refine dQ hp (fu (T.done X rfl rfl rfl hc _ Q s3 σ3 H3 X.xe I3 (Ir fr3) st3 (ok.stop _ H3 aaf (av _))) ?_);rintro r s4 ⟨hr,I4⟩;subst hr;exact sP ⟨σ3,H3,I4,k σ3 G3 H3 (S1.zx S3)⟩
def UR(i:yJ (bc X.prog X.w) X.A X.env X.xe)(o:X.calm=Z')(j:PI X L O (yM X.K Z f))(n:∀C:Bs,C.3=B.3->PG X L (Fk X.K C Z τ))(p:∀C:Bs,C.3=B.3->C.2=B.2/\C.4=B.4->rN X I (kl X.K C Z Z Z g))(h:autoParam (∀x,cb O X.env x=cQ x) ũ):PS X (.For L O I [] u) (kl X.K B t Z Z (gW f τ g)):=by
 let e:gW f τ g=FW _ τ g:=funext λρ=>by show (f ρ).bind _=(Option.map (λa=>(a,ρ)) (f ρ)).bind _;cases f ρ<;>rfl
 rw[e];refine Hf i o (j.imp ?_) n p h;rintro l H R ⟨G,ρ,a,c,S,b,k⟩;let⟨s,r,b⟩:=ai.1 b;cases b;exact⟨G,ρ,a,S.gh,S.iy,r,λJ A w E d=>k J A w (S.ext E) d⟩
def US{f:bP->Option (List D×bP)}(b:yJ (bc X.prog X.w) X.A X.env X.xe)(e:X.calm=Z')(c:PI X L O (tMI X.K B Z f))(d:∀C:Bs,C.3=B.3->PG X L (Fk X.K C Z τ))(i:∀C:Bs,C.3=B.3->rN X I (kl X.K C Z Z Z g))(a:autoParam (∀x,cb O X.env x=cQ x) ũ):PS X (.For L O I [] u) (kl X.K B t Z Z (FW f τ g)):=Hf b e c d (λC h j=>i C h) a
def mv(b:yJ (bc X.prog X.w) X.A X.env X.xe)(e:X.calm=Z')(c:PI X L O (yM X.K Z f))(d:∀C:Bs,C.3=B.3->PG X L (Fk X.K C Z τ))(i:∀C:Bs,C.3=B.3->rN X I (kl X.K C Z Z Z g))(a:autoParam (∀x,cb O X.env x=cQ x) ũ):PS X (.For L O I [] u) (kl X.K B t Z Z (gW f τ g)):=UR b e c d (λC h j=>i C h) a
noncomputable def uv(f:DT)(g:DG):Nat->bP->Option DO
 |0,_=>M| n+1,ρ=>(f ρ).bind λb=>if b=Z' then (g ρ).bind λo=>match o with
   |.nx a=>uv f g n a|.ct a=>uv f g n a|.bk a=>Y (.nx a)|.rt d=>Y (.rt d)|.ro d=>Y (.ro d)|.rm d ρ=>Y (.rm d ρ)|.rf i ρ=>Y (.rf i ρ)|.ex c n=>Y (.ex c n) else Y (.nx ρ)
def ID(n:Nat)(f:DT)(g:DG):DG:=λρ=>uv f g n ρ
def Rn{c:Expr}{f:DT}(n:Nat)(C:yJ (bc X.prog X.w) X.A X.env X.xe)(D:PT X c (qW X.K Z f))(F:rN X I (kl X.K B Z Z Z g)):PS X (.While c I [] u) (kl X.K B t Z Z (ID n f g)):=(Pc C D F).imp <|by
 rintro R l H ⟨G,ρ,o,S,K,k⟩;refine⟨λm l H=>∃G ρ,SR X.K B Z G H l ρ/\uv f g m ρ=Y o,⟨n,G,ρ,S,K⟩,?_⟩;rintro m q w ⟨A,ρ1,v,e⟩;cases m with
 |zero=>cases e|succ m=>
  unfold uv at e;let⟨b,N,e⟩:=aa.1 e;refine⟨A,ρ1,b,v.gh,v.iy,N,λz P Q =>?_⟩;let y:=v.ext Q;cases b with
  |false=>cases e;solve_by_elim|true=>
   refine BV ⟨_,λh p a=>⟨m,gK m,a⟩,?_⟩;let⟨x,d,e⟩:=aa.1 e;refine⟨z,ρ1,x,y,d,?_⟩;cases x with
   |nx i=>exact λh j p s=>⟨j,i,s,e⟩
   |ct i=>exact λh j p s=>⟨j,i,s,e⟩
   |bk i=>cases e;solve_by_elim|_=>cases e;exact k
end
noncomputable def iU(src:List (Option Nat))(ρ:bP):bP:=src.map λo=>match o with|some j=>(ρ[j]?).getD M|none=>M
noncomputable def oh(ρ:bP)(τ:BF)(U:DT)(fe:DF):List D->Option (List D)
 |[]=>Y []|d::a=>(τ d ρ).bind λρ1=>(U ρ1).bind λb=>if b=Z' then (fe ρ1).bind λx=>(oh ρ τ U fe a).map (x :: ·) else oh ρ τ U fe a
def jN(f:DL)(src:List (Option Nat))(τ:BF)(U:DT)(fe:DF):DL:=λρ=>(f ρ).bind λa=>if a.length<=cY then oh (iU src ρ) τ U fe a else M
noncomputable def dC:DT:=λ_=>Y Z'
def gX(Z Ź:List Nat)(src:List (Option Nat)):Bool:=(Ź.all λj=> !Ź.contains (Jk j))&&(cm src.length).all λi=>match src[i]? with|some (Y j)=>decide (i∈Ź)==decide (j∈Z)|_=>Z'
def fH(h:gX Z Ź src=Z')(e:src[i]?=Y (Y j)):(i∈Ź↔j∈Z):=by
 unfold gX at h;rw[aK]at h;let h:=h.2;rw[iY]at h;have:=h i (by simpa using (au.mp e).1);rw[e]at this;simpa using this
def M0(h:gX Z Ź src=Z')(b:j∈Ź)(a:Jk j∈Ź):False:=by
 unfold gX at h;rw[aK,iY]at h;have:=h.1 j b;simp[a]at this
def ki.src{K:aP}{Z Ź:List Nat}{src:List (Option Nat)}(h:ki K Z G H l ρ)(f:gX Z Ź src=Z'):ki K Ź G H (nu src l) (iU src ρ):=by
 refine⟨by simp[nu,iU],λi d e =>?_,λj r p k g a=>(M0 f k g).elim⟩;unfold iU at e;rw[aT]at e;let⟨o,c,e⟩:=ai.1 e;cases o with
 |none=>cases e|some j=>
  let e:=by simpa using e
  let s:ρ[j]?=Y (Y d):=by rcases q:ρ[j]? with _|z<;>simp_all
  let⟨v,_⟩:=h.get j d s;refine⟨v,?_,?_⟩
  .simp_all [nu,aT]
  .have:=fH f c
   simp_all
section
variable {X:Cx}{m:Expr}{f:DL}
def HB.imp{t:TT}(h:HB X E t)(k:∀l H Q,b l H Q->t l H Q):HB X E b:=λa s l H Q I q=>h a s l H Q I (k _ _ _ q)
def lN:HB X [] (qW X.K Z dC):=Ts.imp <|by rintro l H Q ⟨G,ρ,b,a,d,c,k⟩;cases c;exact k G H (.refl a)
def tb(h:PT X c (qW X.K Z U)):HB X [c] (qW X.K Z U):=Tq h
set_option tactic.hygienic true in
def Qv{K:aP}(ho:gX Z Ź src=Z')(hg:∀v l H Q,Zm K Ź τ v l H Q->g v l H Q)(q:tF K Z (jN f src τ U fe) l H Q):WQ (yM K Z f) src g (qW K Ź U) (tP K Ź fe) l H Q:=by
 let⟨G,ρ,rs,gh,P,s,k⟩:=q;unfold jN at s;let⟨h,ef,s⟩:=aa.1 s;split at s
 .rename_i hz;refine⟨G,ρ,h,gh,P,ef,λJ A w E1 ok =>?_⟩;refine⟨λi m ys D=>m=h.length-i/\i<=h.length/\ys.length<=i/\∃R r c,gc A w R D/\bh K R r ys/\oh (iU src ρ) τ U fe (h.drop i)=Y c/\r++c=rs,
   ⟨h.length,rfl,d7 _,av _,A,[],rs,.refl E1.gh,.nil,s,rfl⟩,?_⟩
  rintro i m ys D ⟨rfl,hil,hyl,R,r,c,o,rx,d,rfl⟩;let t:bz A D:=o.gg.trans o.gh;by_cases n:i<h.length
  .refine .inr ⟨ok.go i D t n,?_,_,
    λC H' z=>⟨h.length-(i+1),Ž,rfl,n,z⟩,λx H3 y =>?_⟩
   .have:=eE
    lia
   .let⟨G3,X,N⟩:=ok.So i D x H3 R h[i] o.gg o.gh y (aS n);rw[cZ n]at d;unfold oh at d;let⟨j,et,d⟩:=aa.1 d;let⟨b,eb,d⟩:=aa.1 d;let E13:=E1.trans (o.trans X);refine hg _ _ _ _ ⟨G3,iU src ρ,h[i],j,X.gh,(P.ext E13).src ho,N,et,λσ4 G4 H4 E4 B=>⟨G4,j,b,E4.gh,B,eb,λG5 H5 S =>?_⟩⟩;let E15:=(o.trans X).trans (E4.trans S);cases b with
    |false=>exact JF ⟨Ž,G5,r,c,E15,bh.mono ((X.trans (E4.trans S)).gg) r rx,d,rfl⟩
    |true=>
     refine BV ?_;simp only[if_true]at d;let⟨x4,ee,d⟩:=aa.1 d;rcases el:oh (iU src ρ) τ U fe (h.drop (i+1)) with _|a
     .simp[el]at d
     simp only[el,ah,da]at d;cases d;refine⟨G5,j,x4,S.gh,B.ext S,ee,λv G6 H6 E6 r6=>⟨by simp;lia,G6,r++[x4],a,E15.trans E6,(bh.mono ((X.trans ((E4.trans S).trans E6)).gg) r rx).append (.cons r6 .nil),rfl,ż⟩⟩
  .let e:i=h.length:=by lia
   subst e;rw[kR]at d;unfold oh at d;cases d;refine .inl ⟨ok.stop _ D t (av _),λp hp =>?_⟩;let E12:=E1.trans o;refine k p ys R _ (E12.trans (gc.lay (p:=p) o.gh hp)) (E12.hh.free hp) (o.gh.free hp) a_ ?_
   simp_all
 .cases s
def Du(S:eU X N src T)(j:X.calm=Z')(e:PI X L O (yM X.K Z f))(n:R8 J g)(a:∀i∈J,src[i]?=Y M)(h:∀v l H Q,Zm X.K Ź τ v l H Q->g v l H Q)(k:∀C s H b,PG (X.rM N T C s H b) L g/\HB (X.rM N T C s H b) E (qW X.K Ź U)/\PE (X.rM N T C s H b) m (tP X.K Ź fe))(d:autoParam (gX Z Ź src=true) Ū)(c:autoParam (∀x,cb O X.env x=cQ x) ũ):PE X (.ListComp m [⟨L,O,E,0⟩] T u) (tF X.K Z (jN f src τ U fe)):=
 (Pp S j e n a k c).imp λl H Q q=>Qv d h q
def NK{i:Nat}{c D:Pos}(S:eU X N src T)(hc:X.calm=Z')(hN:X.N.Nodup)(F:X.N[i]?=Y y)(hl:X.env.scope.names.lookup y=Y .local)(hi:PI X L O (yM X.K Z f))(ag:R8 J g)(j:∀i∈J,src[i]?=Y M)(hg:∀v l H Q,Zm X.K Ź τ v l H Q->g v l H Q)(hb:∀C s H z,PG (X.rM N T C s H z) L g/\HB (X.rM N T C s H z) E (qW X.K Ź U)/\PE (X.rM N T C s H z) m (tP X.K Ź fe))(R:autoParam (gX Z Ź src=true) Ū)(n:autoParam (i∈Z) Ū)(d:autoParam (∀a,(i,a)∉B.3) ť)(hm:autoParam (Qc i∉Z) Ū)(h:autoParam (dy (.ListComp m [⟨L,O,E,0⟩] T u) (Y (.Name y D)) c.line X.env=cQ true) Ŭ)(q:autoParam (∀x,cb O X.env x=cQ x) ũ):PS X (.Assign [.Name y D] (.ListComp m [⟨L,O,E,0⟩] T u) c) (kl X.K B t Z Z (jQ i (jN f src τ U fe))):=
 (vE S hc hN F hl hi ag j hb h q).imp λD' l H ⟨G,ρ,o,S,e,k⟩=>Qv R hg (by let⟨ds,ef,e⟩:=ai.1 e;cases e;exact⟨G,ρ,ds,S.gh,S.iy,ef,λp vs G' H' b P gp K r=>k _ G' H' (S.Tc n b P gp K r d hm)⟩)
def A6{B:Bs}{D:Pos}(S:eU X N src T)(hc:X.calm=Z')(hN:X.N.Nodup)(q:X.N[i]?=Y y)(hl:X.env.scope.names.lookup y=Y .local)(hi:PI X L O (yM X.K Z f))(ag:R8 J g)(e:∀i∈J,src[i]?=Y M)(hg:∀v l H Q,Zm X.K Ź τ v l H Q->g v l H Q)(hb:∀C s H j,PG (X.rM N T C s H j) L g/\HB (X.rM N T C s H j) E (qW X.K Ź U)/\PE (X.rM N T C s H j) m (tP X.K Ź fe))(ho:autoParam (gX Z Ź src=true) Ū)(h:autoParam (i∉Z) Ū)(d:autoParam (dy (.ListComp m [⟨L,O,E,0⟩] T u) (Y (.Name y D)) b.line X.env=cQ true) Ŭ)(R:autoParam (∀x,cb O X.env x=cQ x) ũ):PS X (.Assign [.Name y D] (.ListComp m [⟨L,O,E,0⟩] T u) b) (kl X.K B t Z Z (d8 i (eF (jN f src τ U fe)))):=
 (vE S hc hN q hl hi ag e hb d R).imp λD' l H ⟨G,ρ,o,S,c,k⟩=>Qv ho hg (by
  unfold d8 eF at c;rcases n:jN f src τ U fe ρ with _|K
  .simp_all
  rw[n]at c;cases c;exact⟨G,ρ,K,S.gh,S.iy,n,λp z G' H' a hp F P r=>k _ _ H' ((S.ext (a.freeze hp F P)).vz h (cB.mpr ⟨p,z,rfl,a_,bh.mono (.alloc F) K r⟩))⟩)
end
inductive fw (K:aP) (F:List D->Option D) (e:List V) (H:Hp) (Q:VK) (_x:XK):Prop
 |mk G a d:bz G H->bh K G a e->F a=some d->(∀v c b,gc G H c b->cX K c d v->Q v b)->fw K F e H Q _x
inductive rp (K:aP) (F:List D->Option (List D)) (g:List V) (H:Hp) (Q:VK) (_x:XK):Prop
 |mk G f e:bz G H->bh K G f g->F f=some e->(∀a d c b,gc G H c b->H a=none->c a=none->b a=some (.lst d)->bh K c e d->Q (.ref a) b)->rp K F g H Q _x
noncomputable def gA(N:Nat)(a:List D):bP:=a.map Y++bG (N-a.length) M
noncomputable def mW:DO->Option D
 |.rt d=>Y d|.ro a=>Y (.lst a)|.nx _=>Y .dr|_=>M
noncomputable def Ah:DO->Option (List D)
 |.ro a=>Y a|_=>M
def gu(n N:Nat)(g:DG)(a:List D):Option D:=if a.length=n then (g (gA N a)).bind mW else M
def rq(n N:Nat)(g:DG)(a:List D):Option (List D):=if a.length=n then (g (gA N a)).bind Ah else M
def kd{i:Nat}(h:(gA N b)[i]?=Y (Y d)):b[i]?=Y d:=by
 unfold gA at h;by_cases c:i<b.length
 .rw[hV (by simp_all),aT]at h;let⟨a,e,h⟩:=ai.1 h;rw[e];cases h;rfl
 .rw[Og (by simp_all),SD]at h;split at h<;>cases h
def FH{K:aP}{H:Hp}{m:List V}(s:bz G H)(r:bh K G k m)(t:∀i∈Z,k.length<=i):SR K ⟨G,H,[],x⟩ Z G H (start N m) (gA N.length k):=by
 have g:∀i d,i∈Z->(gA N.length k)[i]?=Y (Y d)->False:=λi d f e=>by
  have:=(au.mp (kd e)).1
  grind
 refine⟨s,bz.refl _,bz.refl _,λb o e =>.inl e,λi d f e =>?_,⟨λ_=>[],λi d f e=>(g i d f e).elim,λi d f e=>(g i d f e).elim,λi j d c f z e=>(g i d f e).elim⟩,by simp[start,gA,r.length],λi a h=>(by cases h),λj r p w A e=>(g j _ w e).elim⟩;let⟨v,n,q⟩:=r.get (kd e);refine⟨v,?_,q⟩;let f:=(au.mp n).1;unfold start;rw[hV (by simp_all),aT,n];rfl
section
variable {P:aZ}{K:aP}
def iV.vh{m:dh}{f:aw}{N:List aH}(F:iV K x e m f O)(S:bu N I (aE m)){Z Ź:List Nat}{g:DG}(p:∀i∈Z,I.length<=i) (hb:∀(j:aj) (A:jq) (outer:List Env) (s:ar) (H:Hp) (E:XK),fT k (A.deeper (wQ e (aE m) s.heap.objs.size f j))->∀B:Bs,B.3=[] ->
   rN (B2 ib P w K u y N e (aE m) f j A outer s H E).T8 (iQ m) (kl K B [] Z Ź g)):cy P w K u y ib (k+1) f O I (fw K (gu I.length N.length g)):=by
 refine F.ok S (λR H Q E h =>?_) λj A outer s H R Q E U h =>?_
 .let⟨G,ds,d,c,r,b,_⟩:=h;unfold gu at b;split at b
  .rw[<- r.length];assumption
  .cases b
 .let⟨G,ds,d,c,r,b,q⟩:=h;unfold gu at b;split at b
  .refine⟨_,hb j A _ s H E U ⟨G,H,[],λl l=>False⟩ rfl,?_⟩;let⟨o,eg,b⟩:=aa.1 b;refine⟨G,_,o,FH c r Ż,eg,?_⟩;cases o with
   |rt d'=>cases b;solve_by_elim|ro T=>cases b;exact λa J z t E h1 L h3 r=>q _ _ t (E.freeze h1 L h3) (cB.mpr ⟨a,J,rfl,a_,bh.mono (.alloc L) T r⟩)
   |nx D=>cases b;exact λσ z t S=>q _ z t S.pH (iO.mpr rfl)
   |_=>cases b
  .cases b
def iV.T5{f:aw}(F:iV K x j p f I)(S:bu N z (aE p)){Z Ź:List Nat}{g:DG}(t:∀i∈Z,z.length<=i) (R:∀(m:aj) (A:jq) (e:List Env) (s:ar) (H:Hp) (E:XK),fT k (A.deeper (wQ j (aE p) s.heap.objs.size f m))->∀B:Bs,B.3=[] ->
   rN (B2 ib P w K u y N j (aE p) f m A e s H E).T8 (iQ p) (kl K B [] Z Ź g)):cy P w K u y ib (k+1) f I z (rp K (rq z.length N.length g)):=by
 refine F.ok S (λJ H Q E h =>?_) λm A e s H J Q E a h =>?_
 .let⟨G,ds,d,D,r,b,_⟩:=h;unfold rq at b;split at b
  .rw[<- r.length];assumption
  .cases b
 .let⟨G,ds,d,D,r,b,q⟩:=h;unfold rq at b;split at b
  .refine⟨_,R m A e s H E a ⟨G,H,[],λc c=>False⟩ rfl,?_⟩;let⟨o,eg,b⟩:=aa.1 b;refine⟨G,_,o,FH D r Ż,eg,?_⟩;cases o with
   |ro rs=>cases b;solve_by_elim|_=>cases b
  .cases b
structure eL(P:aZ)(w:cH)(K:aP)(mg:aH->Option aj)(base:cF)(x:aH)(k:Nat)(sp:Sp):Prop where
 ex:∃f fd ps,cy P w K mg base ib k f fd ps sp/\mg x=some (.ref f)/\HI K (.ref f)=true/\Binds K fd ps []
def eL.mono(h:eL P w K u y x j a)(c:j<=k):eL P w K u y x k a:=by
 let⟨f,g,b,e,d⟩:=h.ex;exact⟨f,g,b,e.mono c,d⟩
def eL.toF{F:List D->Option (List D)}(h:eL P w K u y x k (rp K F)):eL P w K u y x k (fw K λe=>(F e).map .lst):=by
 let⟨f,p,m,g,c⟩:=h.ex;refine⟨f,p,m,g.imp λz H Q E ⟨G,e,d,o,r,b,q⟩ =>?_,c⟩;let b:Option.map D.lst (F e)=Y d:=b;let⟨j,s,b⟩:=ai.1 b;cases b;exact⟨G,e,j,o,r,s,λa i v t E g c n r=>q _ (dA v a (.lst i)) t (E.freeze g c n) (cB.mpr ⟨a,i,rfl,a_,bh.mono (.alloc c) j r⟩)⟩
end
section
variable {X:Cx}
def zm{F:List D->Option D}(h:eL X.prog X.w X.K X.mg X.base x k (fw X.K F))(s:fT k X.A)(z:Gl X x)(E:PA X (e::l) (HP X.K Z g))(b:autoParam ((x==("__debug__" : aH))=false) Ū)(A:autoParam (ak (e::l) X.env=(Z_,eval e X.env)::ak l X.env) Ŭ)(a:autoParam ((cP C (ak l X.env)).any (·.1)=false) Ŭ):PE X (.Call (.Name x p) (e::l) [] C) (tP X.K Z (aO F g)):=by
 let⟨f,fd,U,I,t,w,B⟩:=h.ex;refine(mO I s z t w B .nil nI E b A a).imp ?_;rintro T H Q ⟨G,m,d,J,c,L,q⟩;let⟨i,K,u⟩:=A5 L;exact⟨G,m,i,J,c,K,λn R O j r=>by rw[br];exact⟨R,i,d,j.gh,r,u,λv P N S o=>q v P N (j.trans S) o⟩⟩
noncomputable def dG(F:List D->Option (List D))(g:DL):DL:=λa=>(g a).bind F
def RH{F:List D->Option (List D)}(h:eL X.prog X.w X.K X.mg X.base x k (rp X.K F))(w:fT k X.A)(B:Gl X x)(J:PA X (e::l) (HP X.K Z g))(d:autoParam ((x==("__debug__" : aH))=false) Ū)(E:autoParam (ak (e::l) X.env=(Z_,eval e X.env)::ak l X.env) Ŭ)(c:autoParam ((cP C (ak l X.env)).any (·.1)=false) Ŭ):PE X (.Call (.Name x p) (e::l) [] C) (tF X.K Z (dG F g)):=by
 let⟨f,fd,ps,i,z,A,I⟩:=h.ex;refine(mO i w B z A I .nil nI J d E c).imp ?_;rintro σ H Q ⟨G,o,O,u,j,b,q⟩;let⟨n,N,b⟩:=aa.1 b;exact⟨G,o,n,u,j,N,λr T R m v=>by rw[br];exact⟨T,n,O,m.gh,v,b,λa s S P U i L K t=>q a s S P (m.trans U) (m.hh.free i) L K t⟩⟩
noncomputable def x_:D->Bool
 |.dr=>Z'|.bl _=>Z'|.int _=>Z'|.str _=>Z'|_=>Z_
end
def XZ{F:List D->Option D}{m:Nat}(e:∀b:List Int,b.length<=m->F [.kT b]=Y (.bl Z'))(K:aP)(H:Hp)(a:aw)(b:List Int)(c:b.length<=m)(f:R1 H)(d:mh K H a (b.map V.int)):
  fw K F [.ref a] H (λv i=>v=.bl Z') λi i i=>False:=
 ⟨H,_,_,bz.refl _,.cons (KJ.mpr ⟨a,rfl,d⟩) .nil,e b c,λv h g E r=>b_.mp r⟩
noncomputable def Ite(K:aP)(a:aw):It:=
 ⟨λi H=>∃b x,mh K H a b/\b[i]?=Y x,λi H v c=>∃x p,(∀b,mh K H a b->b[i]?=Y x)/\H p=M/\v=.ref p/\c=dA H p (.tup [.int i,x]),λi H=>∃b,mh K H a b/\b.length<=i⟩
def MG{P:aZ}{K:aP}{x1}(a e t:aw)(T:e≠t):Ca P w K (.Tuple ab5 x1 N) (Ite K a) [e,t] e (λi h=>(∃l,IsEnum h e t (i:Int) l)/\h.IsListIter t a i) where
 mem:=by simp
 obj:=λi h D b g=>by
  obtain⟨⟨l,f⟩,j⟩:=D;rcases aq.mp g with rfl|g
  .exact⟨_,f,λv z=>by cases z⟩
  .let e:b=t:=by simpa using g
   subst e;let⟨o,e,c,d⟩:=j;exact⟨o,e,λv z=>by rw[d]at z;cases z⟩
 keep:=λi h h' D k=>by obtain⟨⟨l,f⟩,j⟩:=D;exact⟨⟨l,k e ż _ f⟩,j.at λo q=>k t ż o q⟩
 item:=by
  intro X hP hw hK hc i J s σ H E I R D hg;subst hP hw hK;obtain⟨⟨l,f⟩,j⟩:=D;let⟨xs,x,hq,B⟩:=hg;let⟨Fm,rv,p,hz⟩:=I.list hq;let⟨u,hu,ru⟩:=rv.get B;have fe:=R e ż;have U:=R t ż;refine wpAny_pyNext_enum_item f j p.isList (x:=u) (by simpa using hu) T λh1 eo it1 t1 z1 k1 =>?_
  refine⟨_,rfl,?_⟩;refine wpAny_letOwnedTupleGo_enum (s:={ s with heap:=h1,toks:=s.toks+1 }) eo λG e2 s2 =>?_
  have S:e<s.heap.objs.size:=aD f;let W:H s.heap.objs.size=none:=I.fQ.fresh (av _);let L:fM e h1 G:=s2;have m:∀b o,b≠e->b≠t->s.heap.get? b=Y o->G.get? b=Y o:=λb o h3 h4 q=>(L.2 b h3).trans (k1 b o h3 h4 q)
  let tup:G.get? s.heap.objs.size=Y { cls :=.type "tuple",data :=.seq #[.int i s.toks,u] }:=(L.2 _ (gG S)).trans t1;have C:∀b o,H b=Y o->b≠e/\b≠t:=λb o q=>⟨λz=>by(rw[z,fe.1]at q;cases q),λz=>by(rw[z,U.1]at q;cases q)⟩
  let new:jF X.prog X.w (dA H s.heap.objs.size (.tup [.int i,x])) G s.heap.objs.size (.tup [.int i,x]):=
   ⟨by show 2<=aU;rw[iX];decide,[.int i s.toks,u],.cons ⟨_,rfl⟩ (.cons ru .nil),_,tup,⟨rfl,rfl⟩,_,rfl⟩
  let O:pw X.prog X.w (dA H s.heap.objs.size (.tup [.int i,x])) G:=λb o q=>by
   by_cases g:b=s.heap.objs.size
   .subst g;rw[a_]at q;cases q;exact new
   .rw[aR g]at q;refine(I.fQ b o q).zF (λc v F r =>?_) (λc r=>by rw[aR (bp r W)];exact r) λc ys r=>by rw[aR (bp r W)];exact r
    rcases F with rfl|F
    .exact m _ _ (C _ _ q).1 (C _ _ q).2 r
    .exact m _ _ (C _ _ F).1 (C _ _ F).2 r
  have un:Un (Ey X.stack) [e,t] H (dA H s.heap.objs.size (.tup [.int i,x])) s.heap G:=by
   have y:∀b,b∉[e,t]->b≠e/\b≠t:=λb g=>⟨λz=>g (by simp[z]),λz=>g (by simp[z])⟩
   let l:∀b o,s.heap.get? b=Y o->b≠s.heap.objs.size:=λb o q=>bf (aD q)
   refine⟨λb o q n A B=>m b o (y b B).1 (y b B).2 q,λb o q n A B=>⟨o.slots,m b o (y b B).1 (y b B).2 q⟩,λb o q n B=>by rw[aR (l b o q)];exact n,
    λb o q B=>⟨o,m b o (y b B).1 (y b B).2 q⟩,λb ys q=>by rw[aR (bp q W)];exact q,λb o u q=>by rw[aR (bp q W)];exact q,λb ps q=>⟨#[],by rw[aR (bp q W)];simpa using q⟩⟩
  let I2:Inv X J σ (dA H s.heap.objs.size (.tup [.int i,x])) { s with heap:=G,toks:=s.toks+1 }:=I.Ho (s':={ s with heap:=G,toks:=s.toks+1 }) rfl un O I.bare λb g=>by
   rcases aq.mp g with rfl|g
   .exact⟨fe.2.2.2.1,fe.2.1,fe.2.2.2.2.1,fe.2.2.2.2.2⟩
   .let z:b=t:=by simpa using g
    subst z;exact⟨U.2.2.2.1,U.2.1,U.2.2.2.2.1,U.2.2.2.2.2⟩
  have st3:G.IsListIter t a (i+1):=it1.at λo q=>(L.2 t (bE T)).trans q
  refine⟨.ref s.heap.objs.size,_,I2,rfl,⟨x,s.heap.objs.size,λys hy=>by rw[I.pU hy hq];exact B,W,rfl,rfl⟩,⟨⟨u,by exact_mod_cast e2⟩,st3⟩,λb g =>?_⟩;have:b≠s.heap.objs.size:=by
   rcases aq.mp g with rfl|g
   .exact bf S
   .let z:b=t:=by simpa using g
    subst z;let⟨o,q,_⟩:=j;exact bf (aD q)
  rw[aR this];exact(R b g).1
 done:=by intro X hP hw hK hc i J s σ H E I R D hg;subst hP hw hK;obtain⟨⟨l,f⟩,j⟩:=D;let⟨xs,hq,B⟩:=hg;let⟨Fm,rv,p,hz⟩:=I.list hq;let⟨f0,f1,f2,f3,f4,f5⟩:=R t ż;let hl:=rv.length;exact wpAny_pyNext_enum_end (I.ok.hd hc) f j p.isList (by simp;lia) λh' eb=>⟨rfl,I.turned (t':=s.toks) (λb o g q=>eb b o g q) f0 f1 f3 f4 f5⟩
 self:=λA i s Q E D h=>by obtain⟨⟨l,f⟩,j⟩:=D;exact wpAny_pyIter_enum f h
section
variable {X:Cx}{f:DF}
def Ye(K:aP)(e:TE):TI:=λc H R=>e c H λx b=>∃a,x=.ref a/\(∃d,mh K b a d)/\R (Ite K a) b
def KW{A}{v:TE}(Q:Gl X "enumerate")(O:X.mg "enumerate" = M)(P:PE X e v)(E:autoParam (ak [e] X.env=[(Z_,eval e X.env)]) Ŭ)(n:autoParam (ak [e] X.env=(Z_,eval e X.env)::ak [] X.env) Ŭ)(L:autoParam (d9 "enumerate" = Y (.type "enumerate")) ţ):PI X (.Tuple k A g) (.Call (.Name "enumerate" p) [e] [] i) (Ye X.K v):=by
 intro j s y H R I h;refine Call_ (qz I Q O L (eQ (fu (bZ P eC n i j s y H (λl f=>match l with|[x]=>∃a,x=.ref a/\(∃r,mh X.K f a r)/\R (Ite X.K a) f|_=>False) I h) ?_) E rfl));rintro U c ⟨l,f,d,C,m⟩;cases l with
 |nil=>exact m.elim|cons x t=>
  cases t with
  |cons _ _=>exact m.elim|nil=>
  obtain⟨a,rfl,⟨r,N⟩,q⟩:=m;let⟨u,rfl,B⟩:=b8.one C;cases B;let⟨K,rv,D,hz⟩:=d.list N;refine call_enumerate_list D.isList λS w G T J =>?_
  refine wpAny_pyIter_enum w ?_;let F:f c.heap.objs.size=none:=d.fQ.fresh (av _);refine⟨c.heap.objs.size+1,[c.heap.objs.size+1,c.heap.objs.size],_,_,f,rfl,d.kept (t':=c.toks) J,MG a (c.heap.objs.size+1) c.heap.objs.size (gG (gK _)),⟨⟨_,w⟩,G⟩,λb o =>?_,q⟩;rcases aq.mp o with rfl|o
  .exact d.uS (ml _) (d.fQ.fresh (ml _))
  .let z:b=c.heap.objs.size:=by simpa using o
   subst z;exact d.uS (av _) F
noncomputable def Dq(a:List D):List D:=a.zipIdx.map λp =>.tup [.int (p.2:Nat),p.1]
def NI{i:Nat}(h:(Dq a)[i]?=Y d):∃x,a[i]?=Y x/\d=.tup [.int i,x]:=by
 unfold Dq at h;rw[aT,List.getElem?_zipIdx]at h;rcases e:a[i]? with _|x<;>simp_all
def Dp(a:List D):(Dq a).length=a.length:=by simp[Dq]
def Nn{K:aP}{a:aw}(k:G a=Y (.lst b))(r:bh K G n b):yG K G (Ite K a) (Dq n):=by
 refine⟨λi H s e =>?_,λi H s e=>⟨b,.of (s _ _ k),by rw[Dp]at e;rw[<- r.length];exact e⟩,λi H x B A d l h ⟨y,p,f,m,u,w⟩ t =>?_⟩
 .rw[Dp]at e;have j:i<b.length:=by rw[<- r.length];exact e
  exact⟨b,b[i],.of (s _ _ k),by simp[j]⟩
 .let⟨c,z,rfl⟩:=NI t;let⟨v,g,o⟩:=r.get z;rw[(f b (.of (h _ _ (l _ _ k))))]at g;cases g;subst u w;refine⟨_,gc.alloc h m,lW ⟨p,_,rfl,a_,.cons (cG.mpr rfl) (.cons (cX.mono (l.trans (.alloc (h.free m))) c o) .nil)⟩⟩
def iE(f:DF):DL:=λa=>(iL f a).map Dq
def acN{c:List Expr}{o}(w:Gl X "enumerate")(u:X.mg "enumerate" = M)(h:PE X e (tP X.K Z f))(t:autoParam (ak [e] X.env=[(Z_,eval e X.env)]) Ŭ)(i:autoParam (ak [e] X.env=(Z_,eval e X.env)::ak [] X.env) Ŭ):
  PI X (.Tuple c o b) (.Call (.Name "enumerate" p) [e] [] g) (yM X.K Z (iE f)):=(KW w u h t i).imp <|by
 rintro B H R ⟨G,n,D,x,j,d,k⟩;let⟨C,y,d⟩:=ai.1 d;cases d;refine⟨G,n,_,x,j,Es y,λv A z m s =>?_⟩;let⟨a,q,rfl,l,r⟩:=cB.mp s;exact⟨a,rfl,⟨q,.of (m.gh _ _ l)⟩,k _ A z m (Nn l r)⟩
noncomputable def Its(x:aH):It:=⟨λi b=>i<x.cps.size,λi H v a=>a=H/\∃c,x.cps[i]?=Y c/\v=.str ⟨#[c]⟩,λi b=>x.cps.size<=i⟩
def OI{P:aZ}{K:aP}(x:aH)(t:Tok)(j:aw):Ca P w K G (Its x) [j] j (λi h=>h.IsStrIter j "str_ascii_iterator" x t i) where
 mem:=by simp
 obj:=λi h a b l=>by
  let e:b=j:=by simpa using l
  subst e;let⟨o,e,c,d⟩:=a;exact⟨o,e,λv z=>by rw[d]at z;cases z⟩
 keep:=λi h p a k=>by let⟨o,e,c,d⟩:=a;exact⟨o,k j ż o e,c,d⟩
 item:=by
  intro X q hw r F i f s D H E I n a g;subst q hw r;let⟨C,B,L,A,y,u⟩:=n j ż;let g:i<x.cps.size:=g;refine wpAny_pyNext_ascii_item a (c:=x.cps[i]) (by simp[g]) λp m J =>?_
  let N:Inv X f D H { s with heap:=p,toks:=s.toks+1 }:=I.turned (λb o l e=>(J.2 b l).trans e) C B A y u;let⟨o,e,c,d⟩:=id m;exact⟨_,rfl,Df (s:={ s with heap:=p,toks:=s.toks+1 }) e c d ſ ⟨.str ⟨#[x.cps[i]]⟩,H,N,⟨_,rfl⟩,⟨rfl,_,by simp[g],rfl⟩,m,λb l=>(n b l).1⟩⟩
 done:=by intro X q hw r F i f s D H E I n a g;subst q hw r;let⟨C,B,L,A,y,u⟩:=n j ż;let g:x.cps.size<=i:=g;exact wpAny_pyNext_ascii_end (I.ok.hd F) a (by simp[g]) λp O=>⟨rfl,I.turned (t':=s.toks) (λb o l e=>O b o l e) C B A y u⟩
 self:=λv v v v v a h=>wpAny_pyIter_striter_ascii a h
def aaZ(b:TE):TI:=λa H R=>b a H λv c=>∃x,v=.str x/\x.cps.all (· < 128)=Z'/\R (Its x) c
def Xg{f:TE}(m:PE X l f):PI X i l (aaZ f):=by
 intro a s g H R I h;refine fu (m a s g H _ I h) ?_;rintro v c ⟨x,r,d,j,k⟩;let⟨z,e,p,q⟩:=k;subst e;let⟨t,rfl⟩:=j;refine wpAny_pyIter_ascii p ?_;refine⟨_,_,_,_,r,rfl,d.kept λb o e=>ae _ e,OI z t _,⟨_,aF _ rfl,rfl,rfl⟩,λb n =>?_,q⟩;let e:=by simpa using n
 subst e;exact d.uS (av _) (d.fQ.fresh (av _))
noncomputable def xk(x:aH):List D:=x.cps.toList.map λc =>.str ⟨#[c]⟩
def iS(f:DF):DL:=λa=>(f a).bind λd=>match d with|.str x=>if x.cps.all (· < 128)=Z' then Y (xk x) else M|_=>M
def QJ{K:aP}(x:aH):yG K G (Its x) (xk x):=by
 have f:(xk x).length=x.cps.size:=by simp[xk]
 refine⟨λi H s a=>by rw[f]at a;exact a,λi H s a=>by rw[f]at a;exact a,λi H v m k d l g ⟨e,c,j,h⟩ b =>?_⟩;subst e h;refine⟨k,.refl g,?_⟩;unfold xk at b;rw[aT,j2,j]at b;cases b
 exact Ÿ
set_option tactic.hygienic true
def Rx{g:Expr}(h:PE X e (tP X.K Z f)):PI X g e (yM X.K Z (iS f)):=(Xg h).imp <|by
 rintro q H R ⟨G,c,r,l,b,a,k⟩;let⟨d,m,a⟩:=aa.1 a;cases d<;>simp only[ah]at a<;>try (cases a)
 split at a
 .cases a;rename_i x j;exact⟨G,c,_,l,b,m,λv o n p i=>⟨x,dI.mp i,j,k _ o n p (QJ x)⟩⟩
 .cases a
end
def jT{K:aP}{Z:List Nat}(i:Nat)(e:autoParam (i∉Z) Ū):∀v a H Q,Zm K Z (gN i) v a H Q->oK i v a H Q:=λv a H Q ⟨G,h,d,c,f,b,r,g,k⟩=>by
 cases g;exact k _ G H (.refl f) (b.set e r)
noncomputable def wq(b:Scope)(d N:List aH)(c:List (Option Nat))(a:Scope):Bool:=
 (a.names.all λy=>a.names.lookup y.1==Y y.2)&&(a.names.all λy=>y.2 != .free||(b.names.lookup y.1==Y .cell||b.names.lookup y.1==Y .free))&&(c.length==N.length) &&
 ((cm c.length).all λi=>match c[i]?,N[i]? with|some (Y j),Y x=>d[j]? == Y x&&a.names.lookup x==Y .free|_,_=>Z')
def jK{X:Cx}{outer:Scope}{oN N:List aH}{src:List (Option Nat)}(d:a.kind=.function)(h:wq outer oN N src a=Z')(p:X.env.scope=outer)(o:X.N=oN):eU X N src a:=by
 unfold wq at h;simp only[aK,iY,beq_iff_eq,jM]at h;obtain⟨⟨⟨n,m⟩,l⟩,k⟩:=h;refine⟨d,λy b=>n y b,λy b f =>?_,l,λi j x c g =>?_⟩
 .grind
 .let e:=(au.mp c).1;have:=k i Ż;rw[c,g]at this;simp at this;rw[o];exact this
section
variable {m:aZ}{s:ar}{R:Zc->ar->Prop}
variable {P:Nat->aj->Prop}
end
section
variable {m:aZ}{s:ar}
variable {P:Nat->aj->Prop}
end
section
variable {X:Cx}{f:DF}
def Yx(f:DF):DL:=λa=>(f a).bind λd=>match d with|.lst b=>Y b.reverse|_=>M
end
abbrev DM:=bP->Option (D×bP)
abbrev N_:=bP->Option (List D×bP)
inductive tM (K:aP) (B:Bs) (Z:List Nat) (f:DM) (c:St) (H:Hp) (Q:VK):Prop
 |mk G e d a:SR K B Z G H c e->f e=some (d,a)->(∀v b g,SR K B Z b g c a->bz G b->cX K b d v->Q v g)->tM K B Z f c H Q
inductive VF (K:aP) (B:Bs) (Z:List Nat) (f:N_) (c:St) (H:Hp) (Q:List V->Hp->Prop):Prop
 |mk G d g a:SR K B Z G H c d->f d=some (g,a)->(∀e b h,SR K B Z b h c a->bz G b->bh K b g e->Q e h)->VF K B Z f c H Q
noncomputable def vm(H:Hp)(a:aw):Hp:=λb=>if b=a then M else H b
theorem jV:vm H a a=none:=by simp[vm]
theorem jf(h:b≠a):vm H a b=H b:=by simp[vm,h]
def s_:bz (vm H a) H:=λb o e=>by
 grind [jV,jf]
section
variable {X:Cx}{m:Pos}
noncomputable def mP(f:DF):DM:=λρ=>(f ρ).map λd=>(d,ρ)
def Ug{f:DF}(h:mP f b=Y (d,a)):f b=Y d/\a=b:=by
 let⟨c,e,h⟩:=ai.1 h
 simp_all
def qF{f:DF}(h:PE X e (tP X.K Z f)):PE X e (tM X.K B Z (mP f)):=h.imp <|by
 rintro j H Q ⟨G,n,d,a,S,b,k⟩;let⟨c,rfl⟩:=Ug b;exact⟨G,a,d,S.gh,S.iy,c,λv i g E r=>k v i g (S.ext E) E.gg r⟩
noncomputable def mE:N_:=λρ=>Y ([],ρ)
noncomputable def jd(f:DM)(g:N_):N_:=λρ=>(f ρ).bind λp=>(g p.2).bind λq=>Y (p.1::q.1,q.2)
def Qg{f:DM}(h:jd f g d=Y (j,b)):∃x a c,f d=Y (x,a)/\g a=Y (c,b)/\j=x::c:=by
 obtain⟨⟨x,a⟩,i,h⟩:=aa.1 h;rcases e:g a with _|_
 .simp_all
 grind
def zj:PA X [] (VF X.K B Z mE):=eC.imp <|by
 rintro c H Q ⟨G,e,d,a,S,b,k⟩;cases b;exact k _ G H S (bz.refl _) .nil
def kC{f:DM}{g:N_}(h:PE X e (tM X.K B Z f))(t:PA X l (VF X.K B Z g))(r:autoParam (ak (e::l) X.env=(Z_,eval e X.env)::ak l X.env) Ŭ):PA X (e::l) (VF X.K B Z (jd f g)):=
 (bZ h t r).imp <|by rintro F H Q ⟨G,j,d,b,S,w,k⟩;let⟨x,a,n,u,c,rfl⟩:=Qg w;exact⟨G,j,x,a,S,u,λv E J z o q=>⟨E,a,n,b,z,c,λI D C y i p=>k _ D C y (o.trans i) (.cons (cX.mono i x q) p)⟩⟩
noncomputable def sj(g:N_):DM:=λa=>(g a).bind λq=>if q.1.length<=1000 then Y (.tup q.1,q.2) else M
set_option tactic.hygienic true in
def J0{q}{g:N_}(h:PA X l (VF X.K B Z g)):PE X (.Tuple l q m) (tM X.K B Z (sj g)):=(IQ h).imp <|by
 rintro v H Q ⟨G,i,d,b,S,a,k⟩;unfold sj at a;rw[aa]at a;obtain⟨⟨c,e⟩,f,a⟩:=a;let a:(if c.length<=1000 then Y (D.tup c,e) else M)=Y _:=a;split at a
 .cases a;rename_i t;refine⟨G,i,c,b,S,f,λj x w o r n=>⟨?_,λp u =>?_⟩⟩
  .rw[<- n.length];exact aV t Ax
  .let E:=gc.alloc (o :=.tup j) o.gh u;exact k _ _ _ (o.ext E) (r.trans E.gg) (lW ⟨p,j,rfl,a_,bh.mono E.gg c n⟩)
 .cases a
noncomputable def m2(o:D->D->Option D)(a b:DM):DM:=λc=>(a c).bind λp=>(b p.2).bind λq=>(o p.1 q.1).map λd=>(d,q.2)
def Uh{f:bP}(h:m2 o a b g=Y (d,f)):∃x e y,a g=Y (x,e)/\b e=Y (y,f)/\o x y=Y d:=by
 obtain⟨⟨x,e⟩,k,h⟩:=aa.1 h;rcases j:b e with _|⟨y,n⟩
 .simp_all
 rcases i:o x y with _|c
 .simp_all
 grind
def aak{K:aP}{s:DM}(h:tM K B Z (m2 o s A) c H Q):VD (rD K o) (tM K B Z s) (tM K B Z A) c H Q:=by
 let⟨G,i,d,b,S,z,k⟩:=h;let⟨x,a,y,t,r,C⟩:=Uh z;exact⟨G,i,x,a,S,t,λv L N E j q=>⟨L,a,y,b,E,r,λu J l f e p=>⟨J,x,y,d,f.gh,.inl (cX.mono e x q),.inl p,C,λw I F g n=>k w I F (f.ext g) ((j.trans e).trans g.gg) n⟩⟩⟩
variable {s:DM}
def ags(d:yF X (dt c) o)(f:PE X a (tM X.K B Z s))(e:PE X b (tM X.K B Z A)):PE X (.BinOp a c b m) (tM X.K B Z (m2 o s A)):=(Po d f e).imp λg H Q h=>aak h
def Ue(j:Nat):DM:=λb=>(dW j b).bind λa=>(a[a.length-1]?).map λd=>(d,b.set j (Y (.lst a.dropLast)))
def YH{b a:Pos}(h:PE X (.Name y p) (i5 j))(q:autoParam (j∈Z) Ū)(f:autoParam (bS (.Name y p) "pop" X.env (eval (.Name y p) X.env)=eval (.Name y p) X.env) Ŭ)(e:autoParam ((b.endLine==a.line)=true) Ŭ):
  PE X (.Call (.Attribute (.Name y p) "pop" b) [] [] a) (tM X.K B Z (Ue j)):=
 (Pu gO PySem.F.slot_list_pop PySem.F.type_list_pop Qa h f e).imp <|by
  rintro x H Q ⟨G,z,d,o,S,g,k⟩;let⟨n,t,g⟩:=aa.1 g;rcases i:n[n.length-1]? with _|c
  .simp[i]at g
  simp only[i,ah,da]at g;cases g;exact Xe S q (cJ t) i λv w u r=>k v G w u (bz.refl _) r
inductive Fl (K:aP) (p:Nat) (F:List D->Option (D×List D)) (h:List V) (H:Hp) (Q:VK) (_x:XK):Prop
 |mk G f d b a n k:bz G H->f[p]?=some (.lst k)->h[p]?=some (.ref a)->H a=some (.lst n)->bh K G k n->G a=none->(∀(i:Nat) c,i≠p->f[i]?=some c->∃v,h[i]?=some v/\cX K G c v)->f.length=h.length->F f=some (d,b)->(∀v e g j,gc G (vm H a) g j->g a=none->j a=some (.lst e)->bh K g b e->cX K g d v->Q v j)->Fl K p F h H Q _x
def aaz(p:Nat):DO->Option (D×List D)
 |.rm d a=>(dW p a).map λb=>(d,b)
 |.nx a=>(dW p a).map λb=>(.dr,b)
 |_=>M
def O8(n N p:Nat)(g:DG)(a:List D):Option (D×List D):=if a.length=n then (g (gA N a)).bind (aaz p) else M
def SR.Vc{K:aP}{f v:Hp}{a:aw}(S:SR K B Z G H g i)(w:j∈Z)(t:i[j]?=Y (Y d))(p:g[j]?=Y (Y (.ref a)))(E:gc G (vm H a) f v)(L:f a=M)(C:v a=Y n)(r:kj K f u n)(x:autoParam (BW d=true) Ŭ):SR K B Z f v g (i.set j (Y u)):=by
 let⟨F,W⟩:=S.ow;let⟨Q,y,N⟩:=W.it j d w t;obtain⟨⟨o,_⟩,l⟩:=(rH.cell x).mp N;have:=S.chg (F0:=[a]) W w (λb c=>⟨Ż,d,t⟩) E.gg E.gh λb o e=>by
   rcases E.fr b o e with z|z
   .exact .inl z
   .by_cases c:b=a
    .exact .inr ŷ
    .rw[jf c]at z;exact .inr (.inl z)
  (λb o c e=>E.hh b o (by simp_all [jf])) ((rH.cell r.BW).mpr ⟨⟨n,C,r⟩,rfl⟩) ż λb c=>by simp_all
  λb h=>by have:=(S.pin j b h).2;simp_all (EX r.BW) λk q J I m e=>(S.VR t x k q J I e).elim
 simp_all [jP]
def SR.called{K:aP}{f:Hp}{e:bP}{a:aw}{xs':List D}{b:List V}(S:SR K B Z G H d e)(i:j∈Z)(k:e[j]?=Y (Y (.lst g)))(h:d[j]?=Y (Y (.ref a)))(E:gc G (vm H a) c f)(o:c a=M)(n:f a=Y (.lst b))(r:bh K c xs' b):SR K B Z c f d (e.set j (Y (.lst xs'))):=
 S.Vc i k h E o n ⟨b,rfl,r⟩
def ue(F:List D->Option (D×List D))(j:Nat)(g:DL):DM:=λa=>(dW j a).bind λb=>(g a).bind λds=>(F (.lst b::ds)).map λq=>(q.1,a.set j (Y (.lst q.2)))
def acM{F:List D->Option (D×List D)}{e:Pos}{g:DL}(h:eL X.prog X.w X.K X.mg X.base x k (Fl X.K 0 F))(hr:fT k X.A)(hg:Gl X x)(hy:PE X (.Name y e) (i5 j))(ha:PA X l (HP X.K Z g))(w:autoParam (j∈Z) Ū)(z:autoParam ((x==("__debug__" : aH))=false) Ū)(O:autoParam (ak (.Name y e::l) X.env=(Z_,eval (.Name y e) X.env)::ak l X.env) Ŭ)(u:autoParam ((cP m (ak l X.env)).any (·.1)=false) Ŭ):PE X (.Call (.Name x p) (.Name y e::l) [] m) (tM X.K B Z (ue F j g)):=by
 let⟨f,fd,ps,h1,hm,hk,hb⟩:=h.ex;refine(mO h1 hr hg hm hk hb .nil nI (bZ hy ha O) z O u).imp ?_;rintro σ H Q ⟨G,n,d,U,S,b,q⟩;let⟨r,E,b⟩:=aa.1 b;let⟨L,I,b⟩:=aa.1 b;obtain⟨⟨d',o⟩,J,b⟩:=ai.1 b;cases b;let C:=cJ E;let⟨a,vs,K,_⟩:=S.ij w C;refine⟨_,K,G,n,L,S.gh,S.iy,I,λus G1 H1 s N =>?_⟩;let R:=S.ext s;let⟨a',t,P,f3,f4,f5,f6⟩:=R.ij w C;rw[K]at P;cases P;show Fl X.K 0 F _ H1 Q E0;rw[br];refine⟨G1,_,d',o,a,t,r,s.gh,rfl,rfl,f3,f4,f5,λi c hi ec =>?_,by simp[N.length],J,λv ws' G2 H2 T g2 h2 r2 r3 =>?_⟩
 .cases i with
  |zero=>simp_all|succ i=>exact N.get Ż
 .exact q v G2 H2 (R.called w C K T g2 h2 r2) (s.gg.trans T.gg) r3
def sk(F:List D->Option D)(g:N_):DM:=λa=>(g a).bind λq=>(F q.1).map λd=>(d,q.2)
def Hj{F:List D->Option D}(h:eL X.prog X.w X.K X.mg X.base x k (fw X.K F))(J:fT k X.A)(s:Gl X x)(P:PA X (e::l) (VF X.K B Z g))(n:autoParam ((x==("__debug__" : aH))=false) Ū)(N:autoParam (ak (e::l) X.env=(Z_,eval e X.env)::ak l X.env) Ŭ)(j:autoParam ((cP m (ak l X.env)).any (·.1)=false) Ŭ):PE X (.Call (.Name x p) (e::l) [] m) (tM X.K B Z (sk F g)):=by
 let⟨f,fd,ps,R,K,L,O⟩:=h.ex;refine(mO R J s K L O .nil nI P n N j).imp ?_;rintro σ H Q ⟨G,t,d,b,S,a,q⟩;unfold sk at a;rcases o:g t with _|⟨i,y⟩
 .rw[o]at a;cases a
 rw[o]at a;simp only[ah]at a;rcases r:F i with _|c
 .rw[r]at a;cases a
 rw[r]at a;cases a;exact⟨G,t,i,b,S,o,λz G1 U u C I=>by show fw X.K F (z++[]) U Q E0;rw[br];exact⟨G1,i,d,u.gh,I,r,λv G2 T w E=>q v G2 T (u.ext w) (C.trans w.gg) E⟩⟩
end
section
variable {X:Cx}{m:List Nat}{f:DM}
noncomputable def iN(i:Nat)(f:DM):DG:=λa=>(f a).map λq =>.nx (q.2.set i (Y q.1))
def LV{i:Nat}(w:X.N.Nodup)(p:X.N[i]?=Y x)(h:Loc X.env.scope x)(s:PE X e (tM X.K B Z f))(n:autoParam (i∉Z) Ū)(j:autoParam (dy e (Y (.Name x a)) l.line X.env=cQ false) Ŭ)(q:autoParam (X.fn x=Z'\/X.env.scope.names.lookup x=Y .local) ŧ):
  PS X (.Assign [.Name x a] e l) (kl X.K B m Z Z (iN i f)):=(uG w p h s j q).imp <|by
 rintro D F H ⟨G,g,o,S,b,k⟩;obtain⟨⟨d,c⟩,z,b⟩:=ai.1 b;cases b;exact⟨G,g,d,c,S,z,λv E C A t r=>k _ E C (A.vz n r)⟩
noncomputable def eZ(f:DM):DG:=λa=>(f a).map λq =>.rm q.1 q.2
def wg(h:PE X e (tM X.K B Z f)):PS X (.Return (Y e) l) (kl X.K B m Z t (eZ f)):=(xq h).imp <|by
 rintro D c H ⟨G,g,o,S,a,k⟩;obtain⟨⟨d,b⟩,i,a⟩:=ai.1 a;cases a;exact⟨G,g,d,b,S,i,λv p n j q r=>k v c p n ⟨Z,j⟩ r⟩
def O4(i:Nat):DG:=λa=>(dW i a).map λb =>.rm (.lst b) a
def Ro(h:PE X (.Name x p) (i5 i))(g:autoParam (i∈Z) Ū)(b:autoParam (∀a,(i,a)∉B.3) ť)(s:autoParam (Qc i∉Z) Ū)(e:autoParam (i<1000000) Ū):PS X (.Return (Y (.Name x p)) l) (kl X.K B m Z t (O4 i)):=(xq h).imp <|by
 rintro D r H ⟨G,F,o,S,d,k⟩;let⟨O,C,d⟩:=ai.1 d;cases d;let⟨E,q⟩:=S.freeze (Ź:=Z.filter (· != i)) (λj f=>(wU.mp f).1) i (λj f=>by by_cases c:j=i<;>simp_all) λz=>by simp_all g b s e
 let⟨v,A,w⟩:=q.env i _ λz=>by simp_all (cJ C)
 exact⟨v,A,k v r E H ⟨_,q⟩ w⟩
def O6(i:Nat)(f:DM):DG:=λa=>(dW i a).bind λ_=>(f a).bind λq=>(dW i q.2).bind λb=>if b.length<cY then Y (.nx (q.2.set i (Y (.lst (b++[q.1]))))) else M
set_option tactic.hygienic true in
def UU(h:PE X (.Name x p) (i5 i))(T:PE X e (tM X.K B Z f))(F:autoParam (i∈Z) Ū)(q:autoParam (bS (.Name x p) "append" X.env (eval (.Name x p) X.env)=eval (.Name x p) X.env) Ŭ) (z:autoParam (((cP b (ak (e::[]) X.env)).all (λx=> !x.1)&&(jL b (fi [] X.env)).all (λx=>x.1.isSome)
   && decide ((e::[]).length+([]:List kX).length+(if ([]:List kX).isEmpty then 0 else 1)<30))=true) Ŭ) (n:autoParam ((g.endLine==b.line)=true) Ŭ) (L:autoParam (ak (e::[]) X.env=(Z_,eval e X.env)::ak [] X.env) Ŭ) (j:autoParam ((cP b (ak [] X.env)).any (·.1)=false) Ŭ) (E:autoParam (dy (.Call (.Attribute (.Name x p) "append" g) [e] [] b) M l.line X.env=cQ false) Ŭ) :
  PS X (.Expr (.Call (.Attribute (.Name x p) "append" g) [e] [] b) l) (kl X.K B m Z Z (O6 i f)):=
 (mN (vH gO PySem.F.slot_list_append PySem.F.type_list_append lq h (bZ T eC L) q z n L j) E).imp <|by
  rintro D σ H ⟨G,A,o,S,c,k⟩;let⟨ds0,I,c⟩:=aa.1 c;rw[aa]at c;obtain⟨⟨d,w⟩,J,c⟩:=c;rcases s:dW i w with _|ds
  .simp_all
  rw[s]at c;simp only[ah]at c;split at c
  .cases c;rename_i R;let⟨a,Q,K,e3,_⟩:=S.ij F (cJ I);refine⟨_,K,.inl ⟨rfl,Q,.of e3⟩,G,A,d,w,S,J,λv G' H' P s' r =>?_⟩;let t:=cJ s;let⟨a',C,O,U,N,_⟩:=P.ij F t;rw[K]at O;cases O;refine⟨a,C,v,rfl,rfl,U,?_,k _ G' _ (P.mut F t K (N.append (.cons r .nil)))⟩;rw[<- N.length];exact aY R eE
  .cases c
def iRM(f:DM):N_:=λa=>(f a).bind λq=>match q.1 with|.int j=>if -(2 ^ 62)<=j/\j<2 ^ 62 then Y (fx 0 j.toNat,q.2) else M|_=>M
set_option tactic.hygienic true
def J4(w:Gl X "range")(s:X.mg "range" = M)(h:PE X e (tM X.K B Z f))(r:autoParam (ak [e] X.env=(Z_,eval e X.env)::ak [] X.env) Ŭ)(b:autoParam (ak [e] X.env=[(Z_,eval e X.env)]) Ŭ):PI X o (.Call (.Name "range" p) [e] [] l) (tMI X.K B Z (iRM f)):=
 (CG w s (bZ h eC r) b).imp <|by
  rintro D H R ⟨G,n,F,i,S,a,k⟩;obtain⟨⟨d,g⟩,x,a⟩:=aa.1 a;cases d<;>simp only[ah]at a<;>try (cases a)
  split at a
  .cases a;rename_i j c;exact⟨G,n,_,_,S,x,λv C A z E q=>⟨j,Ÿ,c.1,c.2,k _ C A z (AH 0 _)⟩⟩
  .cases a
end
def Cn{K:aP}{c:D}{T:List aw}(s:bz G H)(L:bz E H)(I:p∈Z)(J:x[p]?=Y c)(F:w[p]?=Y (.ref a))(r:rH K G H c a T)(P:T.Nodup)(X:∀b∈T,G b=M/\E b=M)(C:∀r q,c ≠ .kh r q)(O:∀(i:Nat) c,i≠p->x[i]?=Y c->∃v,w[i]?=Y v/\cX K G c v)(R:x.length=w.length)(Q:∀i∈Z,i=p\/x.length<=i):SR K ⟨G,E,[(p,a)],fl⟩ Z G H (start N w) (gA N.length x):=by
 have f:∀(i:Nat) v,w[i]?=Y v->(start N w)[i]?=Y (Y v):=λi v e=>by let g:i<w.length:=(au.mp e).1;unfold start;rw[hV (by simpa using g),aT,e];rfl
 have n:∀i∈Z,(∃d,(gA N.length x)[i]?=Y (Y d))->i=p:=λi g ⟨d,e⟩=>by have:=(au.mp (kd e)).1;rcases Q i g with z|z<;>grind
 refine⟨s,bz.refl _,L,λb o e =>.inl e,λi d g e =>?_,⟨λ_=>T,λi d g e =>?_,λi d g e=>⟨P,X⟩,λi j d c g S ei ej B=>absurd ((n i g ⟨d,ei⟩).trans (n j S ⟨c,ej⟩).symm) B⟩,by simp[start,gA,R],λi b h =>?_,λj k q U h2 e =>?_⟩
 .let⟨v,ev,l⟩:=O i d (λz=>g (z ▸ I)) (kd e);exact⟨v,f i v ev,l⟩
 .have z:=n i g ⟨d,e⟩;subst z;let A:=kd e;rw[J]at A;cases A;exact⟨a,f _ _ F,r⟩
 .have z:(i,b)=(p,a):=by simpa using h
  cases z;exact⟨I,f _ _ F⟩
 .have z:=n j U ⟨_,e⟩;subst z;let A:=kd e
  grind
def ML{K:aP}(s:bz G H)(j:p∈Z)(q:d[p]?=Y c)(h:e[p]?=Y (.ref a))(w:H a=Y o)(r:kj K G c o)(x:G a=M)(g:∀(i:Nat) c,i≠p->d[i]?=Y c->∃v,e[i]?=Y v/\cX K G c v)(n:d.length=e.length)(k:∀i∈Z,i=p\/d.length<=i):SR K ⟨G,vm H a,[(p,a)],z⟩ Z G H (start N e) (gA N.length d):=
 Cn s s_ j q h ((rH.cell r.BW).mpr ⟨⟨o,w,r⟩,rfl⟩) ż λb f=>by simp_all [jV] (EX r.BW) g n k
def MK{K:aP}{f:List D}(s:bz G H)(j:p∈Z)(o:b[p]?=Y (.lst f))(h:e[p]?=Y (.ref a))(q:H a=Y (.lst d))(r:bh K G f d)(w:G a=M)(g:∀(i:Nat) c,i≠p->b[i]?=Y c->∃v,e[i]?=Y v/\cX K G c v)(n:b.length=e.length)(k:∀i∈Z,i=p\/b.length<=i):SR K ⟨G,vm H a,[(p,a)],x⟩ Z G H (start N e) (gA N.length b):=
 ML s j o h q ⟨d,rfl,r⟩ w g n k
section
variable {P:aZ}{K:aP}
set_option tactic.hygienic true
def iV.Jc{st:dh}{f:aw}(F:iV K x I st f fd)(S:bu N ps (aE st))(p:Nat){Z Ź:List Nat}{g:DG}(hp:p∈Z)(Yg:∀i∈Z,i=p\/ps.length<=i) (hb:∀(L:aj) (A:jq) (j:List Env) (s:ar) (H:Hp) (E:XK),fT k (A.deeper (wQ I (aE st) s.heap.objs.size f L))->∀(B:Bs) (a:aw),B.3=[(p,a)] ->
   rN (B2 ib P w K u y N I (aE st) f L A j s H E).T8 (iQ st) (kl K B [] Z Ź g)):cy P w K u y ib (k+1) f fd ps (Fl K p (O8 ps.length N.length p g)):=by
 refine F.ok S (λvs H Q E h =>?_) λL A j s H vs Q E hr h =>?_
 .let⟨G,ds,d,R,a,ws,X,gh,hd,hv,ha,r,ga,ro,hl,e,_⟩:=h;unfold O8 at e;split at e<;>grind
 .let⟨G,ds,d,R,a,ws,X,gh,hd,hv,ha,r,ga,ro,hl,e,q⟩:=h;unfold O8 at e;split at e
  .rename_i hn;refine⟨_,hb L A j s H E hr ⟨G,vm H a,_,λl l=>False⟩ a rfl,?_⟩;let⟨o,eg,e⟩:=aa.1 e;have lQ:∀ {σ:St}{C:bP}{O T:Hp}{o':List Nat}{U:List D},SR K ⟨G,vm H a,[(p,a)],λl l=>False⟩ o' O T σ C->dW p C=Y U->∃z,T a=Y _/\bh K O U z/\O a=none:=fun {σ C O T o' U} c J=>by let⟨Uu,hσ⟩:=c.pin p a ż;let⟨b,ZV,f2,f3,f4,f5,_⟩:=c.ij Uu (cJ J);rw[hσ]at f2;cases f2;exact⟨ZV,f3,f4,f5⟩
   refine⟨G,_,o,MK gh hp hd hv ha r ga ro hl (by rw[hn];exact Yg),eg,?_⟩;cases o with
   |rm d' C=>let⟨U,J,e⟩:=ai.1 e;cases e;intro v σ O T ⟨o',c⟩ rv;let⟨z,f3,f4,f5⟩:=lQ c J;exact q v z O T c.pH f5 f3 f4 rv
   |nx C=>let⟨U,J,e⟩:=ai.1 e;cases e;intro σ O T c;let⟨z,f3,f4,f5⟩:=lQ c J;exact q _ z O T c.pH f5 f3 f4 (iO.mpr rfl)
   |_=>cases e
  .cases e
end
def V3(n:bP)(w:BF)(u:DM)(i0:Nat):List D->List D->Option (List D×List D)
 |[],c=>Y ([],c)|d::e,c=>(w d (n.set i0 (Y (.lst c)))).bind λa=>(u a).bind λp=>(dW i0 p.2).bind λb=>(V3 n w u i0 e b).map λq=>(p.1::q.1,q.2)
def Zw(f:DL)(src:List (Option Nat))(w:BF)(u:DM)(i0 j0:Nat):DM:=λn=>(f n).bind λa=>if a.length<=cY then (dW j0 n).bind λb=>(V3 (iU src n) w u i0 a b).map λq=>(.lst q.1,n.set j0 (Y (.lst q.2))) else M
def Zo(K:aP)(i0:Nat)(u:DM):TE:=λt H Q=>∃(B:Bs) (a:aw),B.3=[(i0,a)]/\tM K B [i0] u t H Q
def dmx{X:Cx}(h:∀(B:Bs) (a:aw),B.3=[(i0,a)]->PE X e (tM X.K B [i0] u)):PE X e (Zo X.K i0 u):=by rintro b s t H Q I ⟨B,a,c,q⟩;exact Ÿ
theorem ql:∀ {l:List a}{i:Nat}{x:a},l[i]?=Y x->l.set i x=l
 |[],i,x,h=>by simp at h
 |y::l,0,x,h=>by simp_all
 |y::l,i+1,x,h=>by simp at h;simp[ql h]
section
variable {K:aP}
def zN{i:Nat}(e:(iU src n)[i]?=Y (Y d)):∃j,src[i]?=Y (Y j)/\n[j]?=Y (Y d):=by
 unfold iU at e;rw[aT]at e;let⟨o,a,e⟩:=ai.1 e;rw[a];cases o with
 |none=>cases e|some j=>
  let e:=by simpa using e
  refine⟨j,rfl,?_⟩;rcases q:n[j]? with _|z<;>simp_all
def i_{i:Nat}{v:V}(b:src[i]?=Y (Y j))(a:t[j]?=Y (Y v)):(nu src t)[i]?=Y (Y v):=by
 simp_all [nu,aT]
def SR.inner{fl:aH->Int->Prop}{i0:Nat}(S:SR K B Z G H t (n.set j0 (Y (.lst q))))(y:gX Z [i0] src=Z')(x:src[i0]?=Y (Y j0))(k:∃d,n[j0]?=Y d)(s:t[j0]?=Y (Y (.ref a))):
  SR K ⟨G,vm H a,[(i0,a)],fl⟩ [i0] G H (nu src t) ((iU src n).set i0 (Y (.lst q))):=by
 have l:=(fH y x).mp ż;let⟨d0,k⟩:=k;let P:(n.set j0 (Y (D.lst q)))[j0]?=Y (Y (.lst q)):=by rw[cp ((au.mp k).1)]
 let⟨b,J,I,e3,e4,_⟩:=S.ij l P;rw[s]at I;cases I;refine⟨S.gh,bz.refl _,s_,λb o e =>.inl e,λi d g e =>?_,⟨λu=>[a],λi d g e =>?_,λi d g e=>⟨ż,λb C =>?_⟩,λi j d c g m u u f =>?_⟩,by simp[nu,iU],λi b h =>?_,λj r p R Q e =>?_⟩
 .rcases iM e with⟨rfl,_⟩|⟨f,e⟩
  .simp_all
  .let⟨j,F,ej⟩:=zN e;let m:j∉Z:=λz=>g ((fH y F).mpr z)
   have:j0≠j:=λz=>m (z ▸ l)
   let⟨v,f1,X⟩:=S.env j d m Ż;exact⟨v,i_ F f1,X⟩
 .let z:i=i0:=by simpa using g
  subst z;rcases iM e with⟨_,rfl,_⟩|_
  .exact⟨a,i_ x s,⟨_,e3,J,rfl,e4⟩,rfl⟩
  simp_all
 .simp_all [jV]
 .simp_all
 .simp_all [i_]
 simp_all
end
section
variable {X:Cx}{f:DL}
inductive LcI {α:Type}(K:aP) (B:Bs) (Z:List Nat) (t:St) (e:α->bP) (F:Nat->α->Option (List D×α)) (G:Hp) (z:α) (r:List D) (i:Nat) (y:List V) (H:Hp):Prop
 |mk g l x o:y.length<=i->SR K B Z g H t (e x)->bz G g->bh K g l y->F i x=some (o,z)->l++o=r->LcI K B Z t e F G z r i y H
set_option tactic.hygienic true in
def XX{K:aP}(ho:gX Z [i0] src=Z')(h0:src[i0]?=Y (Y j0))(hg:∀(B:Bs) v t H Q,Fk K B [i0] w v t H Q->g v t H Q)(q:tM K B Z (Zw f src w u i0 j0) t H Q):
  WQ (yM K Z f) src g (qW K [i0] dC) (Zo K i0 u) t H Q:=by
 let⟨G,n,d,ρ',S,h,k⟩:=q;have Zz:j0∈Z:=(fH ho h0).mp ż;unfold Zw at h;let⟨j,ef,h⟩:=aa.1 h;split at h
 .rename_i hz;let⟨xs0,el,h⟩:=aa.1 h;obtain⟨⟨rs,xsF⟩,em,h⟩:=ai.1 h;cases h;let F:=cJ el;let⟨a,vs0,e2,_⟩:=S.ij Zz F;refine⟨G,n,j,S.gh,S.iy,ef,λJ G1 H1 E1 ok =>?_⟩;let S1:=S.ext E1;rw[<- ql F]at S1;refine⟨λi m ys H2=>m=j.length-i/\i<=j.length/\LcI K B Z t (λb=>n.set j0 (Y (.lst b))) (λi=>V3 (iU src n) w u i0 (j.drop i)) G1 xsF rs i ys H2,
   ⟨j.length,rfl,d7 _,G1,[],xs0,rs,av _,S1,bz.refl _,.nil,em,rfl⟩,?_⟩
  rintro i m ys H2 ⟨rfl,hil,G2,l,xs,o,hyl,S2,s2,rx,c,rfl⟩;let sub:bz G1 H2:=s2.trans S2.gh;by_cases C:i<j.length
  .refine .inr ⟨ok.go i H2 sub C,?_,_,
    λr H' z=>⟨j.length-(i+1),Ž,rfl,C,z⟩,λx H3 y =>?_⟩
   .have:=eE
    lia
   .let⟨G3,E3,Sa⟩:=ok.So i H2 x H3 G2 j[i] s2 S2.gh y (aS C);let S3:=S2.ext E3;rw[cZ C]at c;unfold V3 at c;let⟨s,et,c⟩:=aa.1 c;obtain⟨⟨x4,ρ5⟩,ee,c⟩:=aa.1 c;let⟨N,X,c⟩:=aa.1 c;obtain⟨⟨P,xsE⟩,R,c⟩:=ai.1 c;cases c;let SI:=S3.inner (fl:=λr r=>False) ho h0 ⟨_,F⟩ e2;refine hg _ _ _ _ _ ⟨G3,_,j[i],s,SI,Sa,et,λσ4 G4 H4 S4=>⟨G4,s,Z',S4.gh,S4.iy,rfl,λG5 H5 E5=>BV ?_⟩⟩;refine⟨_,a,rfl,G5,s,x4,ρ5,S4.ext E5,ee,λv G6 H6 S6 s6 r6=>⟨G6,l++[x4],N,P,by simp;lia,?_,?_,?_,R,ż⟩⟩
    .let⟨Uu,hσ⟩:=S6.pin i0 a ż;let⟨b,ws,f2,f3,f4,f5,_⟩:=S6.ij Uu (cJ X);rw[hσ]at f2;cases f2;let hl:j0<n.length:=(au.mp F).1;have:=S3.called (xs':=N) Zz (by rw[cp hl]) e2 S6.pH f5 f3 f4;rw[Fd]at this;exact this
    .exact s2.trans (E3.gg.trans S6.g0)
    .exact(bh.mono (E3.gg.trans S6.g0) l rx).append (.cons r6 .nil)
  .let e:i=j.length:=by lia
   subst e;rw[kR]at c;unfold V3 at c;cases c;refine .inl ⟨ok.stop _ H2 sub (av _),λp hp =>?_⟩;have EA:=gc.alloc (p:=p) (o :=.lst ys) S2.gh hp;refine k _ _ _ (S2.ext EA) (E1.gg.trans (s2.trans EA.gg)) ?_;rw[br];exact cB.mpr ⟨p,ys,rfl,a_,bh.mono EA.gg l rx⟩
 .cases h
def NL{m:Pos}(S:eU X N src A)(K:X.calm=Z')(P:X.N.Nodup)(q:X.N[i]?=Y y)(F:X.env.scope.names.lookup y=Y .local)(I:PI X E L (yM X.K Z f))(ag:R8 T g)(h:∀i∈T,src[i]?=Y M)(J:∀(B:Bs) v t H Q,Fk X.K B [i0] w v t H Q->g v t H Q)(W:∀C s H l,PG (X.rM N A C s H l) E g/\HB (X.rM N A C s H l) [] (qW X.K [i0] dC)/\PE (X.rM N A C s H l) O (Zo X.K i0 u))(R:autoParam (src[i0]?=Y (Y j0)) Ŭ)(D:autoParam (gX Z [i0] src=true) Ū)(j:autoParam (i∉Z) Ū)(e:autoParam (dy (.ListComp O [⟨E,L,[],0⟩] A U) (Y (.Name y m)) a.line X.env=cQ true) Ŭ)(z:autoParam (∀x,cb L X.env x=cQ x) ũ):PS X (.Assign [.Name y m] (.ListComp O [⟨E,L,[],0⟩] A U) a) (kl X.K B p Z Z (iN i (Zw f src w u i0 j0))):=
 (vE S K P q F I ag h W e z).imp λD' t H ⟨G,n,o,S,b,k⟩=>XX D R J (by unfold iN at b;obtain⟨⟨d,c⟩,ef,b⟩:=ai.1 b;cases b;exact⟨G,n,d,c,S,ef,λv G' H' S' V r=>k _ G' H' (S'.vz j r)⟩)
def sA(K:aP)(i i0:Nat)(b:autoParam (i∉[i0]) Ū):∀(B:Bs) v t H Q,Fk K B [i0] (gN i) v t H Q->oK i v t H Q:=λB v t H Q ⟨G,n,d,a,S,r,c,k⟩=>by
 cases c;exact k _ G H (S.vz b r)
end
section
variable {X:Cx}
noncomputable def eT(c f:aH)(g:DF):DF:=λa=>(g a).bind λd=>match d with|.ins h b e=>if h=c then (b.zip e).lookup f else M|_=>M
theorem LL{K:aP}{f:aH}:∀ {b:List aH}{g:List D}{a:List V}{d:D},bh K G g a->(b.zip g).lookup f=Y d->∃v,(b.zip a).lookup f=Y v/\cX K G d v
 |[],g,a,d,r,e=>by simp at e
 |k::b,[],a,d,r,e=>by simp at e
 | k::b,c::g,a,d,r,e=>by
  let⟨v,t,rfl,i,l⟩:=bH.mp r;simp only[eJ,kQ]at e ⊢;cases h:f==k with
  |true=>simp_all|false=>rw[h]at e;exact LL l e
noncomputable def SM:D->V
 |.bl b =>.bl b|.int i =>.int i|.str x =>.str x|_ =>.dr
theorem Kr{K:aP}{v:V}(h:x_ d=Z')(r:cX K G d v):v=SM d/\q_ v=true:=by
 cases d<;>first|(simp[x_]at h;done)|(subst r;exact Ÿ)
theorem Fz{K:aP}:∀ {b:List D}{a:List V},b.all x_=Z'->bh K G b a->a=b.map SM/\a.all q_=Z'
 |[],a,h,r=>by rw[dU.mp r];simp_all
 | d::b,a,h,r=>by
  rw[oY,aK]at h;let⟨v,t,rfl,c,e⟩:=bH.mp r;let⟨k,g⟩:=Kr h.1 c;let⟨i,f⟩:=Fz h.2 e
  simp_all
def ZP(b:Bool)(x:D)(a:List D):Option D:=if (x_ x&&a.all x_)=Z' then Y (.bl (if b then !V8 (SM x) (a.map SM) else V8 (SM x) (a.map SM))) else M
def vi(a:Bool):D->D->Option D
 |x,.lst b=>ZP a x b|x,.tup b=>ZP a x b|_,_=>M
set_option tactic.hygienic true in
def Wv{K:aP}(h:rD K (vi c) x y H Q):rIn K c x y H Q:=by
 let⟨G,t,C,d,k,w,u,l,q⟩:=h;have lQ:∀(m:List D) (b:List V),ZP c t m=Y d->bh K G m b->q_ x=Z'/\b.all q_=Z'/\d=.bl (if c then !V8 x b else V8 x b):=λm b e r=>by
  unfold ZP at e;split at e
  .rename_i i;let v:cX K G t x:=by
    rcases w with z|⟨a,o,_,_,z⟩
    .exact z
    .cases t<;>first|exact z.elim|grind [x_]
   grind [Kr,Fz]
  .cases e
 unfold vi at l;split at l<;>try (cases l)
 .let⟨p,b,rfl,s,n⟩:=u.lst k;let⟨g,f,rfl⟩:=lQ _ _ l n;exact⟨p,b,rfl,.inl (.of s),g,f,q _ G H (.refl k) (b_.mpr rfl)⟩
 .let⟨p,b,rfl,s,n⟩:=u.tup k;let⟨g,f,rfl⟩:=lQ _ _ l n;exact⟨p,b,rfl,.inr s,g,f,q _ G H (.refl k) (b_.mpr rfl)⟩
abbrev IR:=vi Z_
def afA:yF X (cR .In) IR:=mj.imp M1 λx y H Q h=>Wv h
def aaG:yF X (cR .NotIn) (vi Z'):=mj.imp D9 λx y H Q h=>Wv h
noncomputable def Up:D->Bool
 |.bl _=>Z'|_=>Z_
noncomputable def yD:D->Bool
 |.bl b=>b|_=>Z_
def iP(b:Bool):List D->Option D
 |[.lst a]=>if a.all Up=Z' then Y (.bl (if b then a.all yD else a.any yD)) else M
 |_=>M
def YV{K:aP}{f:List aj}(h:a.all Up=Z')(r:bh K G a l)(m:b8 l f){i:Nat}{u:aj}(e:f[i]?=Y u):∃b,u=.bool b/\(a[i]?).map yD=Y b:=by
 have d:i<a.length:=by rw[r.length,m.length];exact((au.mp e).1)
 let k:=aS d;let⟨v,s,c⟩:=r.get k;let⟨w,p,g⟩:=m.get s;rw[e]at p;cases p;have o:=iY.mp h _ (HM d);cases n:a[i] with
 |bl b=>rw[n]at c k;have:=b_.mp c;subst this;exact⟨b,g,by rw[k];rfl⟩
 |_=>rw[n]at o;cases o
def Oa{ys:List D}{tr:Nat->Bool}(h:∀i,i<ys.length->(ys[i]?).map yD=Y (tr i)):(cm ys.length).all tr=ys.all yD/\(cm ys.length).any tr=ys.any yD:=by
 have:(cm ys.length).map tr=ys.map yD:=by apply Fg;intro i;by_cases a:i<ys.length<;>simp_all
 constructor
 .simpa [Fi] using congrArg (λl=>l.all id) this
 .simpa [Fh] using congrArg (λl=>l.any id) this
set_option tactic.hygienic true in
def Dy(l:X.calm=Z')(h:Bool):lh X (.builtin (if h then "all" else "any")) (rC X.K (iP h)):=by
 intro A s P H xs us Q I R ⟨G,ds,d,O,r,t,q⟩;unfold iP at t;split at t
 .rename_i m;split at t
  .cases t;rename_i hb;let⟨v,rfl,T⟩:=r.one;let⟨a,vs,rfl,U,L⟩:=T.lst O;let⟨u,rfl,S⟩:=b8.one R;cases S;let⟨g,y,J,hz⟩:=I.list (.of U);let⟨o,j,hc,n0,hd⟩:=J.isList;have D:a≠s.heap.objs.size:=bf (aD j);have k:g.toArray.size=m.length:=by simp[L.length,y.length]
   obtain⟨w,ew⟩:∃w:Nat->Bool,∀i,w i=((m[i]?).map yD).getD false:=⟨_,λ_=>rfl⟩;have C:TruthOf X.prog X.w X.A.in1 (λi v=>g.toArray[i]?=Y v) w:=λi v s Q E hP N=>by
    let⟨b,rfl,K⟩:=YV hb L y (i:=i) (u:=v) (by simpa using hP);have:w i=b:=by rw[ew,K];rfl
    rw[this]at N;exact gI N
   have f:=Oa (ys:=m) (tr:=w) λi hi=>by rw[ew,aS hi];rfl
   have lQ:∀(b:Bool) (p:cF) (n:Nat),(∀c F,c∉[s.heap.objs.size]->(s.heap.push { cls :=.type "list_iterator",data :=.fields #[.ref a,.int 0 0] }).get? c=Y F->p.get? c=Y F)->b=(if h then m.all yD else m.any yD) ->
     EP X A P Q (.bool b) { s with heap:=p,toks:=n }:=λb p n B K=>
    ⟨.bl b,H,I.kept (t':=n) λc F e=>B c F (λz=>by
     have z:c=s.heap.objs.size:=by simpa using z
     exact absurd (aD e) (by rw[z];exact t5 _)) (ae _ e),rfl,by
     rw[K];exact q _ G H (.refl O) (b_.mpr rfl)⟩
   have x:(s.heap.push { cls :=.type "list_iterator",data :=.fields #[.ref a,.int 0 0] }).IsListIter s.heap.objs.size a 0/\(s.heap.push { cls :=.type "list_iterator",data :=.fields #[.ref a,.int 0 0] }).IsList a g.toArray:=
    ⟨⟨_,aF _ rfl,rfl,rfl⟩,⟨o,ae _ j,hc,n0,hd⟩⟩
   cases h with
   |true=>refine call_all_walk (iW J.isList ⟨s.heap.objs.size,_,_,_,_,_,w,rfl,Walks.list (A:=X.A.in1) (I.ok.hd l) _ a D g.toArray,x,C,λp n B =>?_⟩);rw[k,f.1];exact lQ _ p n B rfl
   |false=>refine call_any_walk (iW J.isList ⟨s.heap.objs.size,_,_,_,_,_,w,rfl,Walks.list (A:=X.A.in1) (I.ok.hd l) _ a D g.toArray,x,C,λp n B =>?_⟩);rw[k,f.2];exact lQ _ p n B rfl
  .cases t
 .cases t
variable {f:DF}
def YQ(a:X.calm=Z')(d:Gl X "all")(c:X.mg "all" = M)(h:PE X e (tQ X.K Z f))(b:autoParam (ak (e::[]) X.env=(Z_,eval e X.env)::ak [] X.env) Ŭ):PE X (.Call (.Name "all" p) [e] [] j) (tP X.K Z (aO (iP Z') (aC f aN))):=
 Bb (Dy a _) d c PyProof.Rows.boot_all (A7 h EF b) ſ ſ b rfl
def RI(a:X.calm=Z')(d:Gl X "any")(c:X.mg "any" = M)(h:PE X e (tQ X.K Z f))(b:autoParam (ak (e::[]) X.env=(Z_,eval e X.env)::ak [] X.env) Ŭ):PE X (.Call (.Name "any" p) [e] [] j) (tP X.K Z (aO (iP Z_) (aC f aN))):=
 Bb (Dy a _) d c PyProof.Rows.boot_any (A7 h EF b) ſ ſ b rfl
end
section
variable {X:Cx}{f:DF}
end
def Itv(K:aP)(a:aw)(n:Nat):It:=
 ⟨λi H=>∃b x,mh K H a b/\b.length=n/\i<n/\b[n-1-i]?=Y x,λi H x c=>c=H/\∀b,mh K H a b->b[n-1-i]?=Y x,λi H=>n<=i⟩
def OJ{P:aZ}{K:aP}(a r:aw)(n:Nat):Ca P w K A (Itv K a n) [r] r (λi h=>i<=n/\h.IsRevIter r a ((n:Int)-1-(i:Int))) where
 mem:=by simp
 obj:=λi h j b t=>by
  let e:b=r:=by simpa using t
  subst e;let⟨_,o,e,c,d⟩:=j;exact⟨o,e,λv z=>by rw[d]at z;cases z⟩
 keep:=λi h F j k=>⟨j.1,j.2.at λo e=>k r ż o e⟩
 item:=by
  intro X G hw J hc i l s S H E I D j y;subst G hw J;let⟨xs,x,U,hn,hi,T⟩:=y;let⟨Fm,rv,p,hz⟩:=I.list U;let⟨u,hu,ru⟩:=rv.get T;let⟨Q,O,f2,N,g,L⟩:=D r ż;let R:(n:Int)-1-(i:Int)=((n-1-i:Nat):Int):=by lia
  let f:=j.2;rw[R]at f;refine wpAny_pyNext_rev_item f p.isList (x:=u) (by simpa using hu) λF q sb =>?_
  let I1:Inv X l S H { s with heap:=F }:=I.turned (t':=s.toks) (λb o t e=>(sb.2 b t).trans e) Q O N g L;let e2:((n-1-i:Nat):Int)-1=(n:Int)-1-((i+1:Nat):Int):=by lia
  rw[e2]at q;let⟨o,e,c,d⟩:=id q;exact⟨u,rfl,Df (s:={ s with heap:=F }) e c d ſ ⟨x,H,I1,ru,⟨rfl,λys hy=>by rw[I.pU hy U];exact T⟩,⟨hi,q⟩,λb t=>(D b t).1⟩⟩
 done:=by
  intro X G hw J hc i l s S H E I D j y;subst G hw J;let y:n<=i:=y;let⟨Q,O,f2,N,g,L⟩:=D r ż;let R:(n:Int)-1-(i:Int) = -1:=by have:=j.1;lia
  let f:=j.2;rw[R]at f;exact wpAny_pyNext_rev_end (I.ok.hd hc) f λF eb=>⟨rfl,I.turned (t':=s.toks) (λb o t e=>eb b o t e) Q O N g L⟩
 self:=λm m m m m j h=>wpAny_pyIter_revIter j.2 h
section
variable {X:Cx}{m:List Nat}{f:DF}
def aa1(K:aP)(e:TE):TI:=λd H R=>e d H λx c=>∃a b,x=.ref a/\mh K c a b/\R (Itv K a b.length) c
def Xh(P:Gl X "reversed")(N:X.mg "reversed" = M)(O:PE X e w)(L:autoParam (ak [e] X.env=[(Z_,eval e X.env)]) Ŭ)(v:autoParam (ak [e] X.env=(Z_,eval e X.env)::ak [] X.env) Ŭ)(K:autoParam (d9 "reversed" = Y (.type "reversed")) ţ):PI X A (.Call (.Name "reversed" p) [e] [] g) (aa1 X.K w):=by
 intro i s y H R I h;refine Call_ (qz I P N K (eQ (fu (bZ O eC v g i s y H (λn k=>match n with|[x]=>∃a d,x=.ref a/\mh X.K k a d/\R (Itv X.K a d.length) k|_=>False) I h) ?_) L rfl));rintro S c ⟨n,k,l,F,r⟩;cases n with
 |nil=>exact r.elim|cons x t=>
  cases t with
  |cons _ _=>exact r.elim|nil=>
  let⟨a,d,rfl,m,q⟩:=r;let⟨u,rfl,E⟩:=b8.one F;cases E;let⟨j,D,G,T⟩:=l.list m;refine call_reversed_list G.isList ?_;let J:k c.heap.objs.size=none:=l.fQ.fresh (av _);have f:(c.heap.push (revObj a ((j.toArray.size:Int)-1))).IsRevIter c.heap.objs.size a ((d.length:Int)-1-((0:Nat):Int)):=by refine⟨_,aF _ rfl,rfl,?_⟩;simp[revObj,D.length]
  refine wpAny_pyIter_revIter (s:={ c with heap:=c.heap.push (revObj a ((j.toArray.size:Int)-1)) }) f ?_;refine⟨c.heap.objs.size,[c.heap.objs.size],_,_,k,rfl,l.kept (t':=c.toks) λb o e=>ae _ e,OJ a c.heap.objs.size d.length,⟨d7 _,f⟩,λb Q =>?_,q⟩;let z:b=c.heap.objs.size:=by simpa using Q
  subst z;exact l.uS (av _) J
def QK{K:aP}(l:G a=Y (.lst b))(r:bh K G h b):yG K G (Itv K a b.length) h.reverse:=by
 let e:=r.length;refine⟨λi H s c =>?_,λi H s c =>?_,λi H x u t d k j ⟨q,y⟩ f =>?_⟩
 .rw[Bz,e]at c;have o:b.length-1-i<b.length:=Ž
  exact⟨b,b[b.length-1-i],.of (s _ _ l),rfl,c,by simp[o]⟩
 .show b.length<=i;rw[Bz,e]at c;exact c
 .subst q;let c:i<h.length:=by have:=(au.mp f).1;rwa [Bz]at this
  rw[List.getElem?_reverse c,e]at f;let⟨v,p,n⟩:=r.get f;have:=y b (.of (j _ _ (k _ _ l)));rw[p]at this;cases this;exact⟨t,.refl j,cX.mono k d n⟩
def aeL(u:Gl X "reversed")(t:X.mg "reversed" = M)(h:PE X e (tP X.K m f))(s:autoParam (ak [e] X.env=[(Z_,eval e X.env)]) Ŭ)(d:autoParam (ak [e] X.env=(Z_,eval e X.env)::ak [] X.env) Ŭ):
  PI X A (.Call (.Name "reversed" p) [e] [] g) (yM X.K m (Yx f)):=(Xh u t h s d).imp <|by
 rintro D H R ⟨G,n,E,w,i,b,k⟩;unfold Yx at b;let⟨c,x,b⟩:=aa.1 b;refine⟨G,n,c,w,i,x,λv z y l r =>?_⟩;cases c<;>simp only[ah]at b<;>try (cases b;done)
 cases b;let⟨a,o,rfl,j,q⟩:=cB.mp r;exact⟨a,o,rfl,.of (l.gh _ _ j),k _ z y l (QK j q)⟩
end
def Vf{X:Cx}{g:List aH}{s:ar}(k:b.kind=.function)(h:wq a g N d b=Z'):eU (X.rM g a C s H t) N d b:=by
 unfold wq at h;simp only[aK,iY,beq_iff_eq,jM]at h;obtain⟨⟨⟨r,q⟩,p⟩,o⟩:=h;refine⟨k,λy e=>r y e,λy e m =>?_,p,λi j x f n =>?_⟩
 .show (relabel a X.env).names.lookup y.1=Y .cell\/(relabel a X.env).names.lookup y.1=Y .free;unfold relabel;rw[nK];rcases q y e with z|z<;>grind
 .let l:=(au.mp f).1;have:=o i Ż;rw[f,n]at this;simp at this;exact this
section
variable {X:Cx}{f:DF}
theorem Cg:∀ {b:List aH}{a:List aj},b8 (b.map V.str) a->∃l:List (aH×Tok),a=strValues l/\l.map (·.1)=b
 |[],a,r=>by cases r;exact⟨[],rfl,rfl⟩
 | x::b,a,r=>by
  cases r with
  |cons r t=>let⟨k,rfl⟩:=r;let⟨l,rfl,e⟩:=Cg t;exact⟨(x,k)::l,rfl,by simp[e]⟩
def uQ(b:aH)(d:List aH):Nat:=d.foldl (λa x=>a+x.length+b.length) 0
def ab1(K:aP):V->List V->Hp->VK->Prop:=λx d H Q=>∃a p b,x=.str a/\d=[.ref p]/\mh K H p (b.map V.str)/\uQ a b<=cY/\(iZ a b).length<=cY/\Q (.str (iZ a b)) H
set_option tactic.hygienic true in
def Ub:MtR X "str.join" (ab1 X.K):=by
 intro i s D H x E v F Q I k m ⟨a,p,j,B,C,z,J,A,q⟩;subst B C;let⟨t,rfl⟩:=k;let⟨u,rfl,n⟩:=b8.one m;cases n;let⟨y,r,w,G⟩:=I.list z;let⟨l,rfl,f⟩:=Cg r;have d:Builtin.Str.tooLong ((l.map (·.1)).toArray.foldl (· + ·.length+a.length) 0)=false:=by
  have:((l.map (·.1)).toArray.foldl (· + ·.length+a.length) 0)=uQ a j:=by rw[f];simp[uQ]
  rw[this];unfold Builtin.Str.tooLong;have:=eE;simp;lia
 refine va PySem.F.slot_str_join (Y9 _ _ _) PySem.F.entry_str_join (PySem.F.args_str_join_2 _ _) (meets_str_join_list a t p l d) ⟨w.isList,?_⟩;let g:=aV A eE;unfold joinMade;split
 .rename_i h;rw[<- f]at q;exact⟨.str h.1,H,I,⟨h.2,rfl⟩,q⟩
 .refine⟨by rw[f];exact g,.str (iZ a j),H,I.kept (t':=s.toks+1) λb o e=>e,⟨s.toks,by rw[f]⟩,q⟩
def En:D->Bool
 |.str _=>Z'|_=>Z_
def yu:D->aH
 |.str x=>x|_=>Str.empty
def CN:D->D->Option D
 |.str a,.lst b=>if (b.all En&&decide (uQ a (b.map yu)<=cY)&&decide ((iZ a (b.map yu)).length<=cY))=Z' then Y (.str (iZ a (b.map yu))) else M
 |_,_=>M
theorem CA{K:aP}:∀ {b:List D}{a:List V},b.all En=Z'->bh K G b a->a=(b.map yu).map V.str
 |[],a,h,r=>dU.mp r|d::b,a,h,r=>by rw[oY,aK]at h;let⟨v,t,rfl,e,f⟩:=bH.mp r;rw[CA h.2 f];cases d<;>first|(simp[En]at h;done)|(rw[dI.mp e];rfl)
set_option tactic.hygienic true
def U3(E:PE X o (tQ X.K Z f))(F:PE X e (tQ X.K Z g))(l:autoParam (bS o "join" X.env (eval o X.env)=eval o X.env) Ŭ) (n:autoParam (((cP b (ak (e::[]) X.env)).all (λx=> !x.1)&&(jL b (fi [] X.env)).all (λx=>x.1.isSome)
   && decide ((e::[]).length+([]:List kX).length+(if ([]:List kX).isEmpty then 0 else 1)<30))=true) Ŭ) (j:autoParam ((i.endLine==b.line)=true) Ŭ) (w:autoParam (ak (e::[]) X.env=(Z_,eval e X.env)::ak [] X.env) Ŭ) (h:autoParam ((cP b (ak [] X.env)).any (·.1)=false) Ŭ) :
  PE X (.Call (.Attribute o "join" i) [e] [] b) (tP X.K Z (e2 CN f g)):=
 (vH PySem.F.plainAttrs_str PySem.F.slot_str_join PySem.F.type_str_join Ub E (bZ F eC w) l n j w h).imp <|by
  rintro P H Q ⟨G,t,d,I,p,L,k⟩;let⟨x,y,K,J,m⟩:=zg L;refine⟨G,t,x,I,p,K,λv O T s C =>?_⟩;unfold CN at m;split at m
  .split at m
   .cases m;rename_i r S q;simp only[aK,decide_eq_true_eq]at q;have:=C.str;subst this;refine⟨rfl,O,t,_,s.gh,p.ext s,J,λu N c z B =>?_⟩;let⟨a,R,rfl,D,A⟩:=B.lst z.gh;let e:=CA q.1.1 A;subst e;exact⟨r,a,_,rfl,rfl,.of D,q.1.2,q.2,k _ N c (s.trans z) (dI.mpr rfl)⟩
   .cases m
  .cases m
end
noncomputable def LI(i j l:Nat):BF:=λd e=>match d with|.tup [a,b,c]=>Y (((e.set i (Y a)).set j (Y b)).set l (Y c))|_=>M
def Q8{f:bP}(h:LI i j l d f=Y e):∃a b c,d=.tup [a,b,c]/\e=((f.set i (Y a)).set j (Y b)).set l (Y c):=by
 unfold LI at h;split at h<;>grind
def MT{K:aP}{v:V}(r:cX K G (.tup [a,b,c]) v):∃p x y z,v=.ref p/\Ml K G p [x,y,z]/\cX K G a x/\cX K G b y/\cX K G c z:=by
 let⟨p,j,e,g,i⟩:=d5.mp r;let⟨x,n,rfl,h,t⟩:=bH.mp i;let⟨y,l,rfl,f,t⟩:=bH.mp t;let⟨z,k,rfl,d,t⟩:=bH.mp t;rw[dU.mp t]at g;exact⟨p,x,y,z,e,g,h,f,d⟩
section
variable {X:Cx}{m:List Nat}
def abC{i:Nat}(h:PG X e (Yn X.K 3 (Dh (oK i) (Dh (oK j) (Dh (oK l) Yo)))))(u:autoParam (i∉Z) Ū)(t:autoParam (j∉Z) Ū)(s:autoParam (l∉Z) Ū):PG X e (Fk X.K B Z (LI i j l)):=h.imp <|by
 rintro v A H Q ⟨G,C,d,f,S,r,w,k⟩;let⟨a,b,c,rfl,rfl⟩:=Q8 w;let⟨p,x,y,z,rfl,g,q,o,n⟩:=MT r;exact⟨p,_,rfl,g.sq S.gh,rfl,x,_,rfl,y,_,rfl,z,_,rfl,rfl,k _ G H (((S.vz u q).vz t o).vz s n)⟩
def BO(b:BF)(f:DF):DG:=λa=>(f a).bind λd=>(b d a).map .nx
def aeI{f:DF}(s:PE X e (tP X.K Z f))(q:PG X b (Fk X.K B Z h))(p:autoParam (swapsWithSole [b] e g.line X.env=cQ false) Ŭ)(hw:autoParam (swappedStores [b] e X.env=cQ none) Ŭ)(t:autoParam ((vb [b] X.env).map (·.2)=[Za b X.env]) Ŭ):PS X (.Assign [b] e g) (kl X.K B m Z Z (BO h f)):=(Pe s q p hw t).imp <|by
 rintro D z H ⟨G,c,o,S,a,k⟩;unfold BO at a;let⟨d,l,a⟩:=aa.1 a;let a:(h d c).map DO.nx=Y o:=a;let⟨i,j,a⟩:=ai.1 a;cases a;exact⟨G,c,d,S.gh,S.iy,l,λv y A E r=>⟨y,c,d,i,S.ext E,r,j,λn x w u=>k _ x w u⟩⟩
open Classical in
def QO(a:List aj)(b:List D)(x:D)(u:aj):Bool:=decide (∃(i:Nat) (d:D),a[i]?=Y u/\b[i]?=Y d/\nO d x=Z')
def Ge(b:Bool):D->D->Option D
 |x,.lst a=>if (jg x 170&&iA a 170)=Z' then Y (.bl (if b then !(a.any λy=>nO y x) else (a.any λy=>nO y x))) else M
 |x,.tup a=>if (jg x 170&&iA a 170)=Z' then Y (.bl (if b then !(a.any λy=>nO y x) else (a.any λy=>nO y x))) else M
 |_,_=>M
def Ep{P:aZ}{K:aP}{s:ar}{A:jq}(L:HK P w K H s)(hu:A.units+170<mY){v:V}(ox:jg x 170=Z')(X:iA c 170=Z')(T:cX K H x v)(U:RelV v u)(N:bh K H c k)(B:b8 k a):
  (∀z∈a,SeqAt.EqAt A s z u (QO a c x z))/\(a.any (QO a c x)=c.any λy=>nO y x)/\∀(i:Nat) (z:aj) (d:D),a[i]?=Y z->c[i]?=Y d->QO a c x z=nO d x:=by
 have f:∀(i:Nat) (z:aj),a[i]?=Y z->∃d w,c[i]?=Y d/\cX K H d w/\RelV w z/\jg d 170=true:=λi z e=>by
  have hi:i<k.length:=by rw[B.length];exact(au.mp e).1
  let R:=aS hi;let⟨z',l,t⟩:=B.get R;rw[e]at l;cases l;let⟨d,b,F⟩:=N.gZ R;exact⟨d,_,b,F,t,wm X b⟩
 have g:∀(i:Nat) (z:aj) (d:D),a[i]?=Y z->c[i]?=Y d->QO a c x z=nO d x:=λi z d e b=>by
  let⟨d',h,o,E,r,I⟩:=f i z e;rw[b]at o;cases o;unfold QO;cases p:nO d x with
  |true=>simp only[decide_eq_true_eq];exact⟨i,d,e,b,p⟩|false=>simp only[decide_eq_false_iff_not];rintro⟨j,d2,e2,m,Q⟩;let⟨d3,S,n,C,q,G⟩:=f j z e2;rw[m]at n;cases n;have:=RelV.inj r q;subst this;have:=cX.inj L.wr d d2 170 170 I G E C;subst this;rw[p]at Q;cases Q
 refine⟨λz J =>?_,?_,g⟩
 .let⟨i,e⟩:=jX.mp J;let⟨d,h,b,F,t,od⟩:=f i z e;rw[g i z d e b];exact(JX L 170 Ž d x 170 h v z u od ox F T t U).eq
 .cases O:c.any _ with
  |true=>let⟨d,p,he⟩:=oz.mp O;let⟨i,b⟩:=jX.mp p;let⟨h,ew,_⟩:=N.get b;let⟨z,l,_⟩:=B.get ew;rw[oz];exact⟨z,pB l,by rw[g i z d l b];exact he⟩
  |false=>rw[tJ];intro z J;let⟨i,e⟩:=jX.mp J;let⟨d,h,b,_⟩:=f i z e;rw[g i z d e b];exact tJ.mp O d (pB b)
set_option tactic.hygienic true
def adI(E:fT k X.A):yF X (cR .In) (Ge Z_):=by
 intro z s J H x y v u Q I t r ⟨G,h,F,d,g,B,A,c,q⟩;let K:=E.un;cases F with
 |lst e=>
  simp only[Ge]at c;split at c
  .rename_i f;rw[aK]at f;cases c;let⟨a,C,rfl,p,n⟩:=cB.mp (A.all g);cases r;let⟨b,l,o,D⟩:=I.list (.of p);let⟨j,i,_⟩:=Ep (K:=X.K) I.hk (A:=X.A.in1) (by show X.A.units+1+170<mY;lia) f.1 f.2 (B.all g) t n l;refine SeqAt.in_listAt (QO b e h) o.isList (λw hw=>j w (by simpa using hw)) ⟨.bl _,H,I,rfl,?_⟩;rw[show b.toArray.any (QO b e h)=b.any (QO b e h) by simp,i];exact q _ G H (.refl g) (b_.mpr rfl)
  .cases c
 |tup e=>
  simp only[Ge]at c;split at c
  .rename_i f;rw[aK]at f;cases c;let⟨a,C,rfl,p,n⟩:=d5.mp (A.all g);cases r;let⟨b,l,o,D⟩:=I.tuple (p.sq (bz.refl _));let⟨j,i,_⟩:=Ep (K:=X.K) I.hk (A:=X.A.in1) (by show X.A.units+1+170<mY;lia) f.1 f.2 (B.all g) t n l;refine SeqAt.in_tupleAt (QO b e h) o (λw hw=>j w Ż) ⟨.bl _,H,I,rfl,?_⟩;rw[show b.toArray.any (QO b e h)=b.any (QO b e h) by simp,i];exact q _ G H (.refl g) (b_.mpr rfl)
  .cases c
 |_=>simp_all [Ge]
end
section
variable [DecidableEq G]
noncomputable def tK(dN:List (G×V))(k:G):Option V:=(dN.find? λa=>decide (a.1=k)).map (·.2)
noncomputable def sN(dN:List (G×V))(k:G)(v:V):List (G×V):=
 if (dN.any λa=>decide (a.1=k))=Z' then dN.map (λa=>if a.1=k then (a.1,v) else a) else dN++[(k,v)]
def vp{p:G×V}(e:p.1=k):tK (p::r) k=Y p.2:=by simp[tK,lT,e]
def rQ{p:G×V}(e:¬p.1=k):tK (p::r) k=tK r k:=by simp[tK,lT,e]
theorem Fy(k:G):∀dN:List (G×V),(dN.any λa=>decide (a.1=k))=(tK dN k).isSome
 |[]=>rfl| p::r=>by
  rw[BI];by_cases e:p.1=k
  .simp_all [vp,decide_eq_true,Bool.true_or,Option.isSome_some]
  .rw[rQ e,decide_eq_false e];exact Fy k r
theorem su(dN:List (G×V))(k:G)(v:V):(sN dN k v).length<=dN.length+1:=by
 grind [sN,aG,aI,aJ,eH]
def sM.xG(r:sM o u):o.isSome=u.isSome:=by
 cases o with
 | none=>cases u with
  |none=>rfl|some _=>solve_by_elim
 | some _=>cases u with
  |none=>solve_by_elim|some _=>rfl
def sM.getD{u:Option aj}(r:sM o u)(b:RelV d a):RelV (o.getD d) (u.getD a):=by
 cases o with
 | none=>cases u with
  |none=>exact b|some _=>solve_by_elim
 | some _=>cases u with
  |none=>solve_by_elim|some _=>exact r
def KV.val{f:List (G×aj)}(r:KV dN f)(k:G):sM (tK dN k) (valueAt f k):=by
 induction r with
 |nil=>solve_by_elim|@cons p q l a h t ih=>
  let⟨g,i⟩:=h;by_cases e:p.1=k
  .let b:valueAt (q::a) k=Y q.2:=by simp[valueAt,lT,g.symm.trans e]
   rw[vp e,b];exact i
  simp_all [valueAt,lT,rQ]
def KV.any(r:KV dN b)(k:G):(dN.any λa=>decide (a.1=k))=b.any λa=>decide (a.1=k):=by
 induction r<;>simp_all
theorem KV.W7(r:KV dN d)(k:G)(f:RelV y u):
  KV (dN.map λa=>if a.1=k then (a.1,y) else a) (d.map λa=>if a.1=k then (a.1,u) else a):=by
 induction r with
 |nil=>exact .nil|@cons p q l i h t ih=>
  refine .cons ?_ ih
  grind
def KV.put(r:KV dN a)(k:G){u:aj}(b:RelV y u):KV (sN dN k y) (stored a k u):=by
 unfold sN stored;rw[r.any k];by_cases e:(a.any λd=>decide (d.1=k))=Z'
 .rw[if_pos e,if_pos e];exact r.W7 k b
 .rw[if_neg e,if_neg e];exact Paired.snoc r ⟨rfl,b⟩
def KV.length{a:List (G×aj)}(r:KV dN a):dN.length=a.length:=Paired.length r
end
def C4{P:aZ}{k:iT}(r:RelV (kV k) u):(fy P w).is k u=true:=by
 cases k with
 |inl i=>let⟨t,e⟩:=r;simp_all [Gn]
 |inr x=>let⟨t,e⟩:=r;simp_all [Gm]
theorem C8{P:aZ}:∀ {a:List iT}{b:List aj},b8 (a.map kV) b->ItemsAre (fy P w) a b
 |[],_,r=>by cases r;exact .nil
 | k::a,_,r=>by
  cases r with|cons h t=>exact .cons (C4 h) (C8 t)
abbrev KT(H:Hp):List (List iT×V)->List (List iT×aw×aj)->Prop:=Paired λp q=>p.1=q.1/\H q.2.1=Y (.tup (p.1.map kV))/\RelV p.2 q.2.2
def KT.val{f:List (List iT×aw×aj)}(r:KT H dN f)(k:List iT):sM (tK dN k) ((atKey f k).map (·.2)):=by
 induction r with
 |nil=>solve_by_elim|@cons p q l a h t ih=>
  let⟨g,_,i⟩:=h;by_cases e:p.1=k
  .let b:atKey (q::a) k=Y q.2:=by simp[atKey,lT,g.symm.trans e]
   rw[vp e,b];exact i
  simp_all [atKey,lT,rQ]
theorem KT.W7(r:KT H dN d)(k:List iT)(g:RelV y u):
  KT H (dN.map λb=>if b.1=k then (b.1,y) else b) (d.map (putAt k u)):=by
 induction r with
 |nil=>exact .nil|@cons p q o l h t ih=>rw[a9];refine .cons ?_ ih;obtain _:=h;unfold putAt;by_cases e:p.1=k<;>simp_all
def KT.put(r:KT H dN a)(k:List iT){u:aj}(g:H b=Y (.tup (k.map kV)))(d:RelV y u):
  KT H (sN dN k y) (storedH a k b u):=by
 let e:(dN.any λf=>decide (f.1=k))=(atKey a k).isSome:=by rw[Fy,(r.val k).xG,Fc]
 unfold sN storedH;rw[e];by_cases q:(atKey a k).isSome=Z'
 .rw[if_pos q,if_pos q];exact r.W7 k d
 .rw[if_neg q,if_neg q];exact Paired.snoc r ⟨rfl,g,d⟩
def KT.keeps(r:KT H dN d)(f:∀b a,H b=Y (.tup a)->e b=Y (.tup a)):KT e dN d:=
 Paired.aaL r λc c z=>⟨z.1,f _ _ z.2.1,z.2.2⟩
section
variable {P:aZ}
def O9(b:pw P w H h)(e:Rd H a u):jF P w H h a u:=e.ok b
def A_(d:pw P w H h)(e:Rd H a (.dK dN n)):dN.length<=aU/\(a==jo)=Z_/\∃b,KV dN b/\h.DictAt (fy P w) a b n:=
 O9 d e
def A9(d:pw P w H h)(e:∃n,Rd H a (.dK dN n)):dN.length<=aU/\(a==jo)=Z_/\∃b,KV dN b/\h.DictOf (fy P w) a b:=by
 let⟨n,e⟩:=e;let⟨z,y,b,k,f⟩:=A_ d e;exact⟨z,y,b,k,f.dictOf⟩
def Wk(d:pw P w H h)(e:H a=Y (.dK dN n)):dN.length<=aU/\(a==jo)=Z_/\∃b,KV dN b/\h.DictOf (fy P w) a b:=A9 d ⟨_,.inl e⟩
theorem AD(f:pw P w H h)(e:H a=Y (.tup (b.map kV))):(Sh (fy P w)).is h b a:=by
 obtain⟨_,d,r,o,k,⟨i,_⟩,n,g⟩:=f a _ e;exact⟨o,_,n,k,i,g,by simpa using C8 r⟩
def Dt(g:pw P w H h)(e:Rd H a (.dT dN)):dN.length<=aU/\(a==jo)=Z_ /\
  ∃d,KT H dN d/\h.DictOfH (Sh (fy P w)) a d:=by
 let⟨z,y,d,r,o,D,E,A,v,u,s,k⟩:=O9 g e;refine⟨z,y,d,r,o,D,E,A,v,u,s,λx b =>?_,k⟩;let f:∀ {l:List _}{m:List _},KT H l m->∀x∈m,(Sh (fy P w)).is h x.1 x.2.1:=by
  intro l m q
  induction q with|nil=>simp_all|@cons p q I F i t ih=>grind [AD]
 exact f r x b
def abx(d:pw P w H h)(e:H a=Y (.dT dN)):dN.length<=aU/\(a==jo)=Z_ /\
  ∃b,KT H dN b/\h.DictOfH (Sh (fy P w)) a b:=Dt d (.inl e)
end
def yH(H:Hp)(a:aw)(y:V)(r:Option V):Prop:=
 (∃dN k,(∃n,Rd H a (.dK dN n))/\y=kV k/\r=tK dN k)\/∃dN k b,Rd H a (.dT dN)/\y=.ref b/\H b=Y (.tup (k.map kV))/\r=tK dN k
def N9(H:Hp)(a:aw)(y v:V)(d:Nat->Hp):Prop:=
 (∃dN k n,H a=Y (.dK dN n)/\y=kV k/\dN.length<aU/\d=λn=>dA H a (.dK (sN dN k v) n)) \/
 ∃dN k b,H a=Y (.dT dN)/\y=.ref b/\H b=Y (.tup (k.map kV))/\dN.length<aU/\d=λ_=>dA H a (.dT (sN dN k v))
def yH.k{a:aw}{k:iT}(e:H a=Y (.dK dN n)):yH H a (kV k) (tK dN k) :=.inl ⟨dN,k,⟨_,.inl e⟩,rfl,rfl⟩
def N9.k{a:aw}{k:iT}{v:V}(e:H a=Y (.dK dN n))(b:dN.length<aU):N9 H a (kV k) v (λn=>dA H a (.dK (sN dN k v) n)) :=.inl ⟨dN,k,n,e,rfl,b,rfl⟩
section
variable {X:Cx}{s:ar}{v:V}
def Inv.big(I:Inv X C B H s):jo<s.heap.objs.size:=by
 exact Vw ſ (I.mod.glob.keeps I.bk).lt
def NQ(F:A.units+1<mY)(I:Inv X C B H s)(g:yH H a y (Y v))(w:RelV y u)(h:∀i t,Inv X C B H t->RelV v i->Q i t):
  aX (bc X.prog X.w) A (Bw (.ref a) u) Q E s:=by
 rcases g with⟨dN,k,e,q,l⟩|⟨dN,k,b,e,q,P,l⟩
 .subst q;let⟨z,c,D,f,r⟩:=A9 I.fQ e;let⟨i,hw,d⟩:=sM.some_of (by rw[l];exact f.val k);exact wpAny_getItem_of (C4 w) r.mapOf hw (h i _ (I.tok _) d)
 .subst q;cases w;let⟨z,c,x,f,r⟩:=Dt I.fQ e;let⟨i,hw,d⟩:=sM.some_of (by rw[l];exact f.val k);let⟨p,K,o⟩:=ai.mp hw;refine wpAny_getItem_heap (u7 F) (AD I.fQ P) r K ?_;rw[o];exact h i _ (I.tok _) d
def U7(v:A.units+1<mY)(I:Inv X C B H s)(g:yH H a y o)(t:RelV y u)(h:∀r,Inv X C B H r->Q (.bool (!o.isSome)) r):
  aX (bc X.prog X.w) A (cR .NotIn u (.ref a)) Q E s:=by
 rcases g with⟨dN,k,e,i,l⟩|⟨dN,k,b,e,i,w,l⟩
 .subst i;let⟨z,f,D,d,p⟩:=A9 I.fQ e;refine wpAny_notIn_of (C4 t) f p.mapOf ?_;rw[<- (d.val k).xG,<- l];exact h _ (I.tok _)
 .subst i;cases t;let⟨z,f,x,d,p⟩:=Dt I.fQ e;refine wpAny_notIn_heap (u7 v) (AD I.fQ w) f p ?_;let q:=(d.val k).xG;rw[Fc]at q;rw[<- q,<- l];exact h _ (I.tok _)
def EI{t':Nat}{e:HO}(I:Inv X C B H s)(g:Mut (H a))(h:fM a s.heap d)(i:∃q,d.get? a=Y q)(f:jF X.prog X.w (dA H a e) d a e):
  Inv X C B (dA H a e) { s with heap:=d,toks:=t' }:=
 I.write g (.inl rfl) (λb q k z=>(h.2 b k).trans z) i f
def J3{P:aZ}(z:dN.length<=aU)(f:(a==jo)=Z_)(d:KV dN b)(g:e.DictAt (fy P w) a b n):
  jF P w h e a (.dK dN n):=⟨z,f,b,d,g⟩
def NP(hu:A.units+1<mY)(I:Inv X C B H s)(g:N9 H a y v H')(j:RelV y u)(P:RelV v r)(h:∀n K,Inv X C B (H' n) K->Q () K):
  aX (bc X.prog X.w) A (setItem (.ref a) u r) Q E s:=by
 rcases g with⟨dN,k,n,e,x,l,D⟩|⟨dN,k,b,e,x,eb,l,D⟩
 .subst x D;let⟨z,w,vs,d,F⟩:=Wk I.fQ e;let o:vs.length<=aU:=by rw[<- d.length];exact z
  let t:(sN dN k v).length<=aU:=by grind [su]
  refine wpAny_setItem_pairs (hsz:=o) (C4 j) F λR f p =>?_
  let he:∃q,R.get? a=Y q:=let⟨q,_,_,i,_⟩:=f;⟨q,i⟩;let⟨n,f⟩:=f.dictAt;exact h n _ (EI I (by rw[e];exact Ÿ) p he (J3 t w (d.put k P) f))
 .subst x D;cases (j);let⟨z,w,xs,d,F⟩:=abx I.fQ e;let o:xs.length<=aU:=by rw[<- Paired.length d];exact z
  let t:(sN dN k v).length<=aU:=by grind [su]
  refine wpAny_setItem_heap (hsz:=o) (u7 hu) (AD I.fQ eb) F λR f p=>h 0 _ ?_
  let⟨q,es,ep,i,h2,h3,h4,_,h5⟩:=f;refine EI I (by rw[e];exact Ÿ) p ⟨q,i⟩ ⟨t,w,_,(d.put k eb P).keeps λc ys S =>?_,q,es,ep,i,h2,h3,h4,h5⟩;rw[aR (by grind)];exact S
end
section
variable {X:Cx}{s:ar}
end
def Y0(i:Expr):Prop:=∀a b,SA i Z_ a b=operate [a,b] (Bw a b)
def SX{s:ar}(y:typeLookup (.type a) "__getitem__" = cQ (Y (.builtin u)))(v:Y0 d)(h:aX (bc b w) A (eval T l) (λo k=>aX (bc b w) A (eval d l) (λi e=>e.TypeIs o a/\aX (bc b w) A (Bw o i) Q E e) E k) E s):
  aX (bc b w) A (eval (.Subscript T d N) l) Q E s:=by
 refine Subscript_ (gJ h (λo k q=>gJ q (λi e f =>?_) λc c x=>x) λc c x=>x);let⟨t,f⟩:=f;refine af ?_;refine af (wpAny_specialOf t y ?_);let lQ:aX (bc b w) A (SA d Z_ o i) (λr g=>aX (bc b w) A (letTemporaryGo T o r >>= λc=>cQ r) Q E g) E e:=by rw[v o i];exact wpAny_operating (gJ f (λr g p=>af (wpAny_letTemporaryGo (ax p))) λc c x=>x)
 simp_all [ax,af]
def Hl{X:Cx}{s:ar}(I:Inv X C B H s)(g:yH H a y o):s.TypeIs (.ref a) "dict" :=by
 rcases g with⟨dN,k,e,_⟩|⟨dN,k,b,e,_⟩
 .let⟨_,_,h,_,d⟩:=A9 I.fQ e;exact d.typeIs
 .let⟨_,_,f,_,d⟩:=Dt I.fQ e;exact d.typeIs
def aaa(J L:TE):TE:=λB H Q=>J B H λx d=>L B d λy b=>∃a v,x=.ref a/\yH b a y (Y v)/\Q v b
def SW(L J:TE):TE:=λB H Q=>L B H λy d=>J B d λx b=>∃a o,x=.ref a/\yH b a y o/\Q (.bl (!o.isSome)) b
def aah(J L U:TE):TS:=λD B H=>U B H λv f=>J B f λx e=>L B e λy d=>∃a b,x=.ref a/\N9 d a y v b/\∀n,D.nx B (b n)
section
variable {X:Cx}{m:Pos}
def TH(q:X.A.units+1<mY)(t:PE X o J)(w:PE X i L)(r:Y0 i):PE X (.Subscript o i N) (aaa J L):=by
 intro C s B H Q I h;refine SX PySem.F.slot_dict_getitem.lookup r (fu (t C s B H _ I h) ?_);rintro u e ⟨x,F,D,k,p⟩;refine fu (w C e B F _ D p) ?_;rintro R P ⟨y,E,d,f,a,v,z,g,l⟩;subst z;obtain rfl:u=fm a:=k;exact⟨Hl d g,NQ q d g f λK c A b=>⟨v,E,A,b,l⟩⟩
def MZ(p:X.A.units+1<mY)(r:PE X i L)(q:PE X o J):PC X .NotIn i o (SW L J):=by
 intro C s B H Q I h;refine fu (r C s B H _ I h) ?_;rintro K b ⟨y,D,z,d,k⟩;refine fu (q C b B D _ z k) ?_;rintro u F ⟨x,A,w,e,a,l,t,g,f⟩;subst t;obtain rfl:u=fm a:=e;exact U7 p w g d λE v=>⟨.bl _,A,v,rfl,f⟩
def KQ(w:X.A.units+1<mY)(A:PE X o J)(E:PE X i L)(t:PE X T U)(z:dy T (Y (.Subscript o i j)) N.line X.env=cQ Z_):
  PS X (.Assign [.Subscript o i j] T N) (aah J L U):=by
 intro C s B H D I h;refine wpAny_Assign_Subscript (fu (t C s B H _ I h) ?_) z;rintro r d ⟨v,H1,Q,k,q⟩;refine fu (A C d B H1 _ Q q) ?_;rintro u b ⟨x,S,P,f,p⟩;refine fu (E C b B S _ P p) ?_;rintro iv s3 ⟨y,H3,c,e,a,R,F,g,l⟩;subst F;obtain rfl:u=fm a:=f;exact NP w c g e k λn s4 K=>⟨B,R n,K,l n⟩
end
def Kl{P:aZ}{w:cH}(h:cF):(h.push { cls :=.type "dict",data :=.dict #[] }).DictAt (fy P w) h.objs.size [] 0:=by
 let⟨o,es,ep,a,b,c,d⟩:=Heap.DictOf.new (knd:=fy P w) h;have e:=aF h (o:={ cls :=.type "dict",data :=.dict #[] }) rfl;rw[a]at e;cases e;cases c;exact⟨_,_,a,b,rfl,d⟩
def Hk{P:aZ}{w:cH}(h:cF)(a:jo<h.objs.size):jF P w H (h.push { cls :=.type "dict",data :=.dict #[] }) h.objs.size (.dK [] 0):=
 ⟨d7 _,beq_eq_false_iff_ne.mpr (bE (bf a)),[],.nil,Kl h⟩
def WR:TE:=λ_ H Q=>∀p,H p=M->Q (.ref p) (dA H p (.dK [] 0))
section
variable {X:Cx}
def F8:PE X (.Dict [] [] N) WR:=λC s B H Q I h=>
 wpAny_Dict_empty ⟨.ref _,_,I.laid (λa a q=>ae _ q) (av _) (Hk _ I.big),rfl,h _ (I.fQ.fresh (av _))⟩
end
def Io:List (TE×TE)->St->Hp->(List (V×V)->Hp->Prop)->Prop
 |[],_,H,Q=>Q [] H|(a,U)::r,B,H,Q=>a B H λx f=>U B f λy e=>Io r B e λb d=>Q ((x,y)::b) d
abbrev VV:List (V×V)->List (aj×aj)->Prop:=Paired λp q=>RelV p.1 q.1/\RelV p.2 q.2
def PPs(X:Cx)(N:Pos)(b:List (Option Expr))(a:List Expr)(d:List (TE×TE)):Prop:=
 ∀(C:List (aw×Obj)) (s:ar) (B:St) (H:Hp) (Q:List (V×V)->Hp->Prop),Inv X C B H s->Io d B H Q ->
  aX (bc X.prog X.w) X.A (evalPairs (pairTrees b a X.env N)) (λg h=>∃e f,Inv X C B f h/\VV e g/\Q e f) X.xe s
def Tt{X:Cx}:PPs X N [] [] []:=λC s B H Q I h=>pairTrees_nil_walk ⟨[],H,I,.nil,h⟩
def Pg{X:Cx}{v:Expr}{f:List (Option Expr)}(A:PE X k e)(w:PE X v U)(z:PPs X N f d a):
  PPs X N (Y k::f) (v::d) ((e,U)::a):=λC s B H Q I h=>
 pairTrees_cons_walk (fu (A C s B H _ I h) λu i ⟨x,P,F,o,r⟩=>fu (w C i B P _ F r) λS g ⟨y,c,E,l,q⟩=>fu (z C g B c _ E q) (by rintro R s3 ⟨t,K,D,b,p⟩;exact⟨(x,y)::t,K,D,.cons ⟨o,l⟩ b,p⟩))
def xy(dN a:List (iT×V)):List (iT×V):=a.foldl (λb d=>sN b d.1 d.2) dN
def KV.merge:∀ {a:List (iT×V)}{d:List (iT×aj)}{dN:List (iT×V)}{b:List (iT×aj)},KV a d->KV dN b->KV (xy dN a) (merged b d):=by
 intro a d dN b r;unfold KV at r
 induction r generalizing dN b with
 |nil=>intro q;exact q
 |@cons p q i g h t ih=>
  intro f;let e:KV (sN dN p.1 p.2) (stored b q.1 q.2):=by have:=f.put p.1 h.2;rw[<- h.1];exact this
  exact ih e
theorem ug:∀(a dN:List (iT×V)),(xy dN a).length<=dN.length+a.length
 |[],dN=>by show dN.length<=dN.length+0;lia
 |p::r,dN=>by let d:=ug r (sN dN p.1 p.2);let b:=su dN p.1 p.2;show (xy (sN dN p.1 p.2) r).length<=_;rw[aJ];lia
theorem Bf{P:aZ}{w:cH}:∀ {dN:List (iT×V)}{e:List (aj×aj)},VV (dN.map λf=>(kV f.1,f.2)) e->∃d,Carries (fy P w) e d/\KV dN d
 |[],_,r=>by rw[Fe]at r;cases r;exact⟨[],rK,.nil⟩
 | p::dN,_,r=>by
  rw[a9]at r;cases r with
  |@cons a b l i h t=>let⟨d,c,q⟩:=Bf (P:=P) (w:=w) t;let⟨k,g⟩:=b;exact⟨(p.1,g)::d,⟨C4 h.1,rfl,c⟩,.cons ⟨rfl,h.2⟩ q⟩
def Z9(a:List (TE×TE)):TE:=λB H Q=>∀p,H p=M->Io a B (dA H p (.dK [] 0)) λe d=>d p=Y (.dK [] 0)/\∃dN:List (iT×V),e=dN.map (λb=>(kV b.1,b.2))/\dN.length<=15/\∀n,Q (.ref p) (dA d p (.dK (xy [] dN) n))
def TF{X:Cx}{a:List (Option Expr)}(h:PPs X N a b d)(f:a.all (·.isSome)=Z')(A:a.length=b.length)(K:a≠[])(k:a.length<=15):PE X (.Dict a b N) (Z9 d):=by
 intro C s B H Q I q;let S:=I.laid (t':=s.toks) (λm m q=>ae _ q) (av _) (Hk _ I.big);refine wpAny_Dict_walk (knd:=fy _ X.w) f A K k (fu (h C _ B _ _ S (q _ (I.fQ.fresh (av _)))) ?_);rintro ws s2 ⟨ps,H2,l,i,e,dN,P,lk,u⟩;subst P;let⟨p,c,r⟩:=Bf i;let⟨z,E,o,t,R⟩:=Wk l.fQ e;cases t;refine⟨p,c,R,λj g w =>?_⟩;let v:(xy [] dN).length<=aU:=by grind [ug,eH,iX]
 let D:∃q,j.get? _=Y q:=let⟨q,_,_,x,_⟩:=g;⟨q,x⟩;let⟨n,g⟩:=g.dictAt;exact⟨.ref _,_,EI l (by rw[e];exact Ÿ) w D (J3 v E (r.merge .nil) g),rfl,u n⟩
structure M2(X:Cx)(o:Expr)(m:aH)(Bu:Pos)(e f:Expr)(yC:Pos):Prop where
 base:bS o m X.env (eval o X.env)=eval o X.env
 few:((cP yC (ak [e,f] X.env)).all (λx=> !x.1)&&(jL yC (fi [] X.env)).all (λx=>x.1.isSome)
  && decide (([e,f]:List Expr).length+([]:List kX).length+(if ([]:List kX).isEmpty then 0 else 1)<30))=true
 line:(Bu.endLine==yC.line)=true
 trees:cP yC (ak [e,f] X.env)=[(false,eval e X.env),(false,eval f X.env)]
def IsD(H:Hp)(a:aw):Prop:=(∃dN n,Rd H a (.dK dN n))\/∃dN,Rd H a (.dT dN)
def X_{X:Cx}{s:ar}(I:Inv X C B H s)(d:IsD H a):
  s.TypeIs (.ref a) "dict" /\(∀b,fm a=.ref b->∃f,s.heap.get? b=Y f/\f.dict=M)/\(a==jo)=false:=by
 rcases d with⟨dN,e⟩|⟨dN,e⟩
 .let⟨_,h,o,_,g⟩:=A9 I.fQ e;refine⟨g.typeIs,λb q =>?_,h⟩;cases q;let⟨f,_,_,k,i,_⟩:=g;exact⟨f,k,i.2.1⟩
 .let⟨_,h,l,_,g⟩:=Dt I.fQ e;refine⟨g.typeIs,λb q =>?_,h⟩;cases q;let⟨f,_,_,k,i,_⟩:=g;exact⟨f,k,i.2.1⟩
section
variable {X:Cx}{s:ar}
def YR(F:A.units+1<mY)(I:Inv X C B H s)(g:yH H a y o)(w:RelV y u)(x:RelV d r)(h:∀t v,Inv X C B H v->RelV (o.getD d) t->Q t v):
  aX (bc X.prog X.w) A (call (.builtin "dict.get") [.ref a,u,r]) Q E s:=by
 rcases g with⟨dN,k,e,q,l⟩|⟨dN,k,b,e,q,K,l⟩
 .subst q;let⟨z,p,c,f,i⟩:=A9 I.fQ e;refine call_meetsIn PySem.F.slot_dict_get i.typeIs PySem.F.entry_dict_get (PySem.F.args_dict_get_3 _ _ _) (meets_dict_get_default _ a (C4 w) p r) ⟨_,i.mapOf,h _ _ (I.tok _) ?_⟩;rw[l];exact(f.val k).getD x
 .subst q;cases (w);let⟨z,p,D,f,i⟩:=Dt I.fQ e;refine call_meetsIn PySem.F.slot_dict_get i.typeIs PySem.F.entry_dict_get (PySem.F.args_dict_get_3 _ _ _) (meetsH_dict_get_default _ a b p r) ⟨u7 F,k,D,AD I.fQ K,i,h _ _ (I.tok _) ?_⟩;rw[l];exact(f.val k).getD x
end
def WS(J L c:TE):TE:=λB H Q=>J B H λx d=>∃a,x=.ref a/\IsD d a/\L B d λy e=>c B e λz b=>∃o,yH b a y o/\Q (o.getD z) b
section
variable {X:Cx}{f:Expr}
def Pq(E:X.A.units+1<mY)(F:PE X o J)(j:PE X e L)(K:PE X f c)(m:M2 X o "get" n e f O):PE X (.Call (.Attribute o "get" n) [e,f] [] O) (WS J L c):=by
 intro C s B H Q I h;refine wpAny_Call_method m.base m.few m.line PySem.F.plainAttrs_dict PySem.F.slot_dict_get PySem.F.type_dict_get (fu (F C s B H _ I h) ?_);rintro u q ⟨x,H1,i,v,a,P,d,D⟩;subst P;obtain rfl:u=fm a:=v;let⟨l,k,_⟩:=X_ i d;refine⟨l,k,?_⟩;rw[m.trees];exact pG rfl (Calls.evalArgs_plain (vg (fu (j C q B H1 _ i D) λiv p ⟨y,H2,I2,t,A⟩=>vg (fu (K C p B H2 _ I2 A) λfv s3 ⟨z,H3,S,r,ov,g,w⟩=>Oi (YR E S g t r λw' s4 R b=>⟨_,H3,R,b,w⟩)))))
end
section
variable {X:Cx}{s:ar}
def RJ(I:Inv X C B H s)(e:∃n,Rd H a (.dK dN n))(h:∀p g n,H p=M->Inv X C B (dA H p (.dK dN n)) g->Q (.ref p) g):aX (bc X.prog X.w) A (call (.type "dict") [.ref a]) Q E s:=by
 let⟨z,l,r,d,o⟩:=A9 I.fQ e;refine kt_call_dict l o (by rw[<- d.length];exact z) λt f k =>?_
 let⟨n,f⟩:=f.dictAt;exact h _ _ n (I.fQ.fresh (av _)) (I.laid (λb q i=>(k.2 b (bf (aD i))).trans (ae _ i)) (av _) (J3 z (beq_eq_false_iff_ne.mpr (bE (bf I.big))) d f))
end
def Itm(a:aw)(b:List (iT×V))(n:Nat):It:=
 ⟨λi H=>H a=Y (.dK b n)/\∃q,b[i]?=Y q,λi H v c=>∃q p,b[i]?=Y q/\H p=M/\v=.ref p/\c=dA H p (.tup [kV q.1,q.2]),λi H=>H a=Y (.dK b n)/\b.length<=i⟩
def Itk(a:aw)(b:List (iT×V))(n:Nat):It:=
 ⟨λi H=>H a=Y (.dK b n)/\∃q,b[i]?=Y q,λi H v c=>c=H/\∃q,b[i]?=Y q/\v=kV q.1,λi H=>H a=Y (.dK b n)/\b.length<=i⟩
def V7{P:aZ}(r:(fy P w).is k u=Z'):RelV (kV k) u:=by
 rcases fY r with⟨i,t,rfl,rfl⟩|⟨x,t,rfl,rfl⟩
 .exact Ÿ
 exact Ÿ
theorem KV.get:∀ {c:List (iT×V)}{l:List (iT×aj)}{i:Nat}{q:iT×V},KV c l->c[i]?=Y q->∃v,l[i]?=Y (q.1,v)/\RelV q.2 v
 |_,_,_,_,.nil,e=>by simp at e
 |_,_,0,_,@Paired.cons _ _ _ p r _ _ h _,e=>by grind
 | _,_,i+1,q,.cons _ t,e=>by
  obtain _:=KV.get t (by simpa using e)
  simp_all
def A0:PySem.entryFor PySem.table "dict_itemiterator.__iter__" = Y Builtin.«dict_keyiterator.__iter__»:=
 PySem.entryFor_alias (id':= "dict_keyiterator.__iter__") ź rfl Ų ź
def Im{P:aZ}{K:aP}{x1}(a g:aw)(y:List (iT×V))(n:Nat):
  Ca P w K (.Tuple ab5 x1 ZX) (Itm a y n) [g] g (λi h=>∃c d,IsItemIter h g a i y.length n c d) where
 mem:=by simp
 obj:=λi h S c x=>by
  let⟨u,v,S⟩:=S;let z:c=g:=by simpa using x
  subst z;exact⟨_,S,λv z=>by cases z⟩
 keep:=λi h h' S k=>by let⟨u,v,S⟩:=S;exact⟨u,v,k g ż _ S⟩
 item:=by
  intro X hP hw hK x i J s σ H E I hf S hg;subst hP hw hK;let⟨c1,c2,S⟩:=S;let⟨e,q,hq⟩:=hg;let⟨hz,hs,l,D,p⟩:=A_ I.fQ (.inl e);let⟨u,hu,ru⟩:=KV.get D hq;let hl:=D.length;rw[hl]at S ⊢;have N:=hf g ż;refine wpAny_pyNext_items_item S p hu λB h1 hk eo t1 z1 k1 =>?_
  refine⟨_,rfl,?_⟩;refine wpAny_letOwnedTupleGo_items (s:={ s with heap:=h1 }) eo λW e2 w2 =>?_
  have C:g<s.heap.objs.size:=aD S;let t:H s.heap.objs.size=none:=I.fQ.fresh (av _);let L:fM g h1 W:=w2;have f:∀b o,b≠g->s.heap.get? b=Y o->W.get? b=Y o:=λb o j q=>(L.2 b j).trans (k1 b o j q)
  let U:W.get? s.heap.objs.size=Y { cls :=.type "tuple",data :=.seq #[B,u] }:=(L.2 _ (gG C)).trans t1;have O:∀b o,H b=Y o->b≠g:=λb o q j=>by rw[j,N.1]at q;cases q
  let new:jF X.prog X.w (dA H s.heap.objs.size (.tup [kV q.1,q.2])) W s.heap.objs.size (.tup [kV q.1,q.2]):=
   ⟨by show 2<=aU;rw[iX];decide,[B,u],.cons (V7 hk) (.cons ru .nil),_,U,⟨rfl,rfl⟩,_,rfl⟩
  let R:pw X.prog X.w (dA H s.heap.objs.size (.tup [kV q.1,q.2])) W:=λb o q=>by
   by_cases j:b=s.heap.objs.size
   .subst j;rw[a_]at q;cases q;exact new
   .rw[aR j]at q;refine(I.fQ b o q).zF (λc v G r =>?_) (λc r=>by rw[aR (bp r t)];exact r) λc ys r=>by rw[aR (bp r t)];exact r
    rcases G with rfl|G
    .exact f _ _ (O _ _ q) r
    .exact f _ _ (O _ _ G) r
  let old:∀b o,s.heap.get? b=Y o->b≠s.heap.objs.size:=λb o q=>bf (aD q)
  have un:Un (Ey X.stack) [g] H (dA H s.heap.objs.size (.tup [kV q.1,q.2])) s.heap W:=
   ⟨λb o q n A m=>f b o (by simpa using m) q,λb o q n A m=>⟨o.slots,f b o (by simpa using m) q⟩,λb o q n m=>by rw[aR (old b o q)];exact n,
    λb o q m=>⟨o,f b o (by simpa using m) q⟩,λb ys q=>by rw[aR (bp q t)];exact q,λb o u q=>by rw[aR (bp q t)];exact q,λb ps q=>⟨#[],by rw[aR (bp q t)];simpa using q⟩⟩
  let I2:Inv X J σ (dA H s.heap.objs.size (.tup [kV q.1,q.2])) { s with heap:=W }:=I.Ho (s':={ s with heap:=W }) rfl un R I.bare λb j=>by
   let z:b=g:=by simpa using j
   subst z;exact⟨N.2.2.2.1,N.2.1,N.2.2.2.2.1,N.2.2.2.2.2⟩
  refine⟨.ref s.heap.objs.size,_,I2,rfl,⟨q,s.heap.objs.size,hq,t,rfl,rfl⟩,⟨_,_,e2⟩,λc x =>?_⟩;let z:c=g:=by simpa using x
  subst z;rw[aR (bf C)];exact N.1
 done:=by intro X hP hw hK x i J s σ H E I hf S hg;subst hP hw hK;let⟨c1,c2,S⟩:=S;let⟨e,hq⟩:=hg;let⟨hz,hs,l,D,p⟩:=A_ I.fQ (.inl e);let hl:=D.length;rw[hl]at S;let⟨f0,T,f2,S',R,Q⟩:=hf g ż;exact wpAny_pyNext_items_end (I.ok.hd x) S p (jZ Ž) λh' eb=>⟨rfl,I.turned (t':=s.toks) (λb o l e=>eb b o l e) f0 T S' R Q⟩
 self:=λA i s Q E S h=>by let⟨u,v,S⟩:=S;have F:s.TypeIs (.ref g) "dict_itemiterator" :=⟨_,S,rfl⟩;refine Ob F PySem.F.slot_dict_itemiterator_iter (hU PySem.F.slot_dict_itemiterator_iter F A0 ?_ (PySem.F.args_dict_itemiterator_iter_1 _));show aX _ _ (ret (.ref g)) _ _ s;exact ax ⟨_,rfl, "dict_itemiterator",_,F,PySem.F.slot_dict_itemiterator_next.lookup,h⟩
def MF{P:aZ}{K:aP}(a f:aw)(m:List (iT×V))(n:Nat):Ca P w K tg (Itk a m n) [f] f (λi h=>h.IsKeyIter f a i m.length n) where
 mem:=by simp
 obj:=λi h S c t=>by
  let z:c=f:=by simpa using t
  subst z;let⟨o,e,c,d⟩:=S;exact⟨o,e,λv z=>by rw[d]at z;cases z⟩
 keep:=λi h h' S k=>S.at λo e=>k f ż o e
 item:=by
  intro X B hw C t i J s G H E I r S A;subst B hw C;let⟨e,q,y⟩:=A;let⟨O,hs,l,p,j⟩:=A_ I.fQ (.inl e);let⟨u,U,ru⟩:=KV.get p y;rw[p.length]at S ⊢;let⟨D,T,f2,F,R,Q⟩:=r f ż;refine wpAny_pyNext_dict_item S j U λx W hk L N =>?_
  let I1:Inv X J G H { s with heap:=W }:=I.turned (t':=s.toks) (λb o g e=>(N.2 b g).trans e) D T F R Q;let⟨o,e,c,d⟩:=id L;exact⟨x,rfl,Df (s:={ s with heap:=W }) e c d ſ ⟨kV q.1,H,I1,V7 hk,⟨rfl,q,y,rfl⟩,L,λb g=>(r b g).1⟩⟩
 done:=by intro X B hw C t i J s G H E I r S A;subst B hw C;let⟨e,y⟩:=A;let⟨O,hs,l,p,j⟩:=A_ I.fQ (.inl e);let hl:=p.length;rw[hl]at S;let⟨D,T,f2,F,R,Q⟩:=r f ż;exact wpAny_pyNext_dict_end (I.ok.hd t) S j (jZ Ž) λh' eb=>⟨rfl,I.turned (t':=s.toks) (λb o l e=>eb b o l e) D T F R Q⟩
 self:=λv v v v v S h=>wpAny_pyIter_keyiter S h
section
variable {X:Cx}{f:DF}
def V9(j:aw->List (iT×V)->Nat->It)(t:TE):TI:=λb H R=>t b H λx d=>∃a c n,x=.ref a/\d a=Y (.dK c n)/\R (j a c n) d
def Pl{U}{i g:Pos}(t:PE X e c)(b:autoParam (bS e "items" X.env (eval e X.env)=eval e X.env) Ŭ)(l:autoParam ((i.endLine==g.line)=true) Ŭ):PI X (.Tuple y U o) (.Call (.Attribute e "items" i) [] [] g) (V9 Itm c):=by
 intro B s O H R I h;refine wpAny_Call_method0_late b l (fu (t B s O H _ I h) ?_);rintro v m ⟨x,K,j,r,a,p,n,rfl,e,q⟩;cases r;let⟨L,F,k,C,f⟩:=A_ j.fQ (.inl e);let u:=f.dictOf.typeIs;let A:∀b,fm a=.ref b->∃d,m.heap.get? b=Y d/\d.dict=none:=λb q=>by cases q;let⟨o,N,G,J,_⟩:=f;exact⟨o,G,J.2.1⟩
 refine⟨_,_,PySem.F.plainAttrs_dict,PySem.F.slot_dict_items,PySem.F.type_dict_items,u,A,pG rfl (PySem.evalArgs_none ?_)⟩;refine call_meetsIn PySem.F.slot_dict_items u PySem.F.entry_dict_items (PySem.F.args_dict_items_1 _) (meets_dict_items _ a F) ⟨⟨k,f.dictOf⟩,?_⟩;let E:(m.heap.push { cls :=.type _,data :=.fields _ }).IsItemsView _ a:=⟨_,aF _ rfl,rfl,rfl⟩;refine wpAny_pyIter_items E (f.push _) ?_;let D:∀b o,m.heap.get? b=Y o->((m.heap.push { cls :=.type "dict_items",data :=.fields #[.ref a] }).push { cls :=.type "dict_itemiterator",data :=.fields #[.none,.bool Z_,.ref a,.int 0 0,.int k.length 0,.int n 0,.none,.none] }).get? b=Y o:=λb o e=>ae _ (ae _ e)
 have w:m.heap.objs.size<=(m.heap.push { cls :=.type "dict_items",data :=.fields #[.ref a] }).objs.size:=by simp_all
 refine⟨_,[_],_,_,K,rfl,j.kept D,Im a _ p n,⟨.none,.none,?_⟩,λb P =>?_,q⟩
 .rw[C.length];exact aF _ rfl
 .let z:b=(m.heap.push { cls :=.type "dict_items",data :=.fields #[.ref a] }).objs.size:=by simp_all
  subst z;exact j.uS w (j.fQ.fresh w)
def Tz(t:PE X e c):PI X p e (V9 Itk c):=by
 intro B s O H R I h;refine fu (t B s O H _ I h) ?_;rintro v m ⟨x,l,d,r,a,f,n,rfl,e,q⟩;cases r;let⟨u,j,k,i,g⟩:=A_ d.fQ (.inl e);refine wpAny_pyIter_dict j g ?_;refine⟨_,[_],_,_,l,rfl,d.kept λb o e=>ae _ e,MF a _ f n,⟨_,aF _ rfl,rfl,by rw[i.length];rfl⟩,λb w =>?_,q⟩;let z:b=m.heap.objs.size:=by simp_all
 subst z;exact d.uS (av _) (d.fQ.fresh (av _))
def kD:iT->D
 |.inl i =>.int i|.inr x =>.str x
def QE{K:aP}:cX K G (kD k) (kV k):=by cases k;exact cG.mpr rfl;exact Ÿ
def X8(a:List iT)(b:List D):List D:=(a.zip b).map λp =>.tup [kD p.1,p.2]
def OC{K:aP}{b:List iT}{c:List D}{a:List V}{i:Nat}{q:iT×D}(r:bh K G c a)(h:(b.zip c)[i]?=Y q):∃v,(b.zip a)[i]?=Y (q.1,v)/\cX K G q.2 v:=by
 rw[sQ]at h;let⟨v,e,f⟩:=r.get h.2;exact⟨v,sQ.mpr ⟨h.1,e⟩,f⟩
def JE{K:aP}{k:List iT}{w:List D}{t:List V}(g:G a=Y (.dK (k.zip t) n))(l:k.length=w.length)(r:bh K G w t):yG K G (Itm a (k.zip t) n) (X8 k w):=by
 have B:(X8 k w).length=(k.zip t).length:=by simp[X8,r.length]
 refine⟨λi H s f=>⟨s _ _ g,?_⟩,λi H s f=>⟨s _ _ g,Ž⟩,λi H x C A d j h ⟨q,p,e,f,y,z⟩ o =>?_⟩
 .rw[B]at f;exact⟨_,aS f⟩
 .subst y z;unfold X8 at o;rw[aT]at o;let⟨u,m,o⟩:=ai.1 o;cases o;let⟨v,b,c⟩:=OC r m;rw[e]at b;cases b;exact⟨_,gc.alloc h f,lW ⟨p,_,rfl,a_,.cons QE (.cons (cX.mono (j.trans (.alloc (o :=.tup [kV u.1,v]) (h.free f))) _ c) .nil)⟩⟩
def Nm{K:aP}{b:List iT}{k:List D}(g:G a=Y (.dK (b.zip c) n))(l:b.length=k.length)(r:bh K G k c):yG K G (Itk a (b.zip c) n) (b.map kD):=by
 have p:(b.map kD).length=(b.zip c).length:=by simp[<- r.length,l]
 refine⟨λi H s f=>⟨s _ _ g,?_⟩,λi H s f=>⟨s _ _ g,Ž⟩,λi H x t A d j h ⟨y,q,e,z⟩ o =>?_⟩
 .rw[p]at f;exact⟨_,aS f⟩
 .subst y z;rw[aT]at o;let⟨u,m,o⟩:=ai.1 o;cases o;rw[sQ]at e;rw[e.1]at m;cases m;exact⟨A,.refl h,QE⟩
def ku(f:DF):DL:=λa=>(f a).bind λd=>match d with|.fS k e=>Y (X8 k e)|_=>M
def GN(f:DF):DL:=λa=>(f a).bind λd=>match d with|.fS k e=>Y (k.map kD)|_=>M
def pZ{U}{g c:Pos}(h:PE X e (tP X.K Z f))(b:autoParam (bS e "items" X.env (eval e X.env)=eval e X.env) Ŭ)(l:autoParam ((g.endLine==c.line)=true) Ŭ):PI X (.Tuple y U o) (.Call (.Attribute e "items" g) [] [] c) (yM X.K Z (ku f)):=(Pl h b l).imp <|by
 rintro j H R ⟨G,i,u,s,w,e,k⟩;let⟨d,m,e⟩:=aa.1 e;cases d<;>simp only at e<;>try (cases e;done)
 cases e;refine⟨G,i,_,s,w,m,λv A B E r =>?_⟩;obtain⟨a,p,rfl,⟨n,q⟩,l,t⟩:=mM.mp r;exact⟨a,_,n,rfl,E.gh _ _ q,k _ A B E (JE q l t)⟩
def UX(h:PE X e (tP X.K Z f)):PI X i e (yM X.K Z (GN f)):=(Tz h).imp <|by
 rintro c H R ⟨G,b,j,s,w,e,k⟩;let⟨d,m,e⟩:=aa.1 e;cases d<;>simp only at e<;>try (cases e;done)
 cases e;refine⟨G,b,_,s,w,m,λv A B E r =>?_⟩;obtain⟨a,g,rfl,⟨n,q⟩,l,t⟩:=mM.mp r;exact⟨a,_,n,rfl,E.gh _ _ q,k _ A B E (Nm q l t)⟩
end
end L2
namespace L2
open PySem
structure mI(b:Bool)(t:Zb):Prop where
 lead:t.led=b
 none:t.dummies=#[]
 rise:t.place.toList.Pairwise (· < ·)
def yQ{l:List Nat}(r:l.Pairwise (· < ·)){i k:Nat}(b:i<l.length)(a:k<l.length)(h:i<k):l[i]<l[k]:=
 List.pairwise_iff_getElem.mp r i k b a h
set_option tactic.hygienic true in
theorem Bi{c:Array Nat}(r:c.toList.Pairwise (· < ·)):∀(f g d:Nat),d-g<=f->g<=d->d<=c.size ->
  (∀k (h:k<c.size),k<g->c[k]<j)->(∀k (h:k<c.size),d<=k->j<=c[k]) ->
  wR c j f g d<=c.size/\(∀k (h:k<c.size),k<wR c j f g d->c[k]<j)/\(∀k (h:k<c.size),wR c j f g d<=k->j<=c[k])
 | 0,g,d,v,t,o,a,b=>by
  let e:g=d:=by lia
  subst e;exact⟨o,a,b⟩
 | f+1,g,d,v,t,o,a,b=>by
  unfold wR;by_cases h:g<d
  .rw[if_pos h];let l:(g+d)/2<c.size:=by lia
   let u:c.getD ((g+d)/2) j=c[(g+d)/2]:=by simp[Array.getD,l]
   dsimp only;rw[u];have n:∀i (h:i<c.size),c[i]=c.toList[i]'(by simpa using h):=λi h=>by simp
   split
   .rename_i p;refine Bi r f _ _ Ž Ž o (λk m q =>?_) b;by_cases e:k=(g+d)/2
    .subst e;exact p
    .have:=yQ r (i:=k) (k:=(g+d)/2) (by simpa using m) (by simpa using l) Ž;rw[n k m];rw[n _ l]at p;lia
   .rename_i p;refine Bi r f _ _ Ž Ž Ž a λk m s =>?_
    by_cases e:k=(g+d)/2
    .subst e;lia
    .have:=yQ r (i:=(g+d)/2) (k:=k) (by simpa using l) (by simpa using m) Ž;rw[n k m];rw[n _ l]at p;lia
  .rw[if_neg h];let e:g=d:=by lia
   subst e;exact⟨o,a,b⟩
def wC(r:a.toList.Pairwise (· < ·))(j:Nat):bV a j<=a.size/\(∀k (h:k<a.size),k<bV a j->a[k]<j)/\(∀k (h:k<a.size),bV a j<=k->j<=a[k]):=
 Bi r a.size 0 a.size Ž Ž Ž (λk c h=>Ž) λk h b=>by lia
def NY{a:Array Nat}(r:a.toList.Pairwise (· < ·))(b:k<a.size)(e:a[k]=j):bV a j=k:=by
 let⟨m,l,g⟩:=wC r j;let d:∀i (h:i<a.size),a[i]=a.toList[i]'(by simpa using h):=λi h=>by simp
 rcases Nat.lt_trichotomy (bV a j) k with h|h|h
 .let c:bV a j<a.size:=by lia
  have:=yQ r (i:=bV a j) (k:=k) (by simpa using c) (by simpa using b) h;let f:=g _ c (av _);rw[d _ c]at f;rw[d _ b]at e
  lia
 .exact h
 .have:=l k b h
  lia
def Kb{a:Array Nat}(r:a.toList.Pairwise (· < ·))(b:k<a.size):bV a (a[k]+1)=k+1:=by
 let⟨g,f,e⟩:=wC r (a[k]+1);let c:∀i (h:i<a.size),a[i]=a.toList[i]'(by simpa using h):=λi h=>by simp
 rcases Nat.lt_trichotomy (bV a (a[k]+1)) (k+1) with h|h|h
 .have:=e k b Ž
  lia
 .exact h
 .let d:=f (k+1) Ž h;have:=yQ r (i:=k) (k:=k+1) (by simpa using b) (by simp;lia) Ž;rw[c _ (by lia)]at d;rw[c k b]at d
  lia
def Ht(r:a.toList.Pairwise (· < ·)):bV a 0=0:=by
 let⟨d,b,c⟩:=wC r 0;rcases Nat.eq_zero_or_pos (bV a 0) with h|h
 .exact h
 .have:=b 0 Ž h
  lia
def F2(g:mI b t)(h:t.slot j=.empty):mI b (t.put j).1:=by
 have d:∀k (l:k<t.place.size),t.place[k]≠j:=by
  intro k l e;let s:=NY g.rise l e;unfold SetTable.slot at h;rw[s]at h;have:(t.place[k]? == Y j)=true:=by rw[fG l,e];simp
  simp[this]at h
 let⟨w,v,p⟩:=wC g.rise j;refine⟨g.lead,?_,?_⟩
 .show (if SetTable.has t.dummies j then _ else t.dummies)=#[];rw[g.none];simp[SetTable.has]
 .show (SetTable.insertAt t.place (bV t.place j) j).toList.Pairwise (· < ·);rw[SetTable.toList_insertAt,List.pairwise_append];refine⟨g.rise.sublist (List.take_sublist _ _),?_,?_⟩
  .rw[List.pairwise_cons];refine⟨λy c =>?_,g.rise.sublist (List.drop_sublist _ _)⟩;let⟨i,n,e⟩:=pC.mp c;rw[ou,bW]at n;have f:bV t.place j+i<t.place.size:=Ž
   let q:t.place[bV t.place j+i]=y:=by rw[<- e,List.getElem_drop];simp
   have:=p _ f Ž;have:=d _ f
   lia
  .intro a u y c;let⟨i,n,e⟩:=pC.mp u;rw[oq,bW]at n;have x:t.place[i]=a:=by rw[<- e,List.getElem_take];simp
   have r:=v i Ž Ž;rcases aq.mp c with rfl|c
   .lia
   .let⟨o,m,q⟩:=pC.mp c;rw[ou,bW]at m;have f:bV t.place j+o<t.place.size:=Ž
    let z:t.place[bV t.place j+o]=y:=by rw[<- q,List.getElem_drop];simp
    have:=p _ f Ž
    lia
def qp(g:mI b t)(n:Nat):mI b (t.standIn n):=by
 refine⟨g.lead,rfl,?_⟩;show (Array.range n).toList.Pairwise (· < ·);rw[Array.toList_range];exact List.pairwise_lt_range
def BL(g:mI b t)(j:Nat):t.slot j ≠ .dummy:=by
 unfold SetTable.slot;rw[g.none];simp only[SetTable.has];split
 .simp
 .simp
theorem F5(g:mI b t){f:Nat->Int}:∀(n:Nat) (p:SetTable.Probe),p.dummy=M->∀j d,Oe t f h n p=Y (.empty j d)->d=M/\t.slot j=.empty
 |0,_,_,_,_,e=>by simp[Oe]at e
 | n+1,p,c,j,d,e=>by
  unfold Oe at e;cases a:t.slot p.j with
  |empty=>rw[a]at e;simp only[tH,SetTable.Met.empty.injEq]at e;let⟨rfl,rfl⟩:=e;exact⟨c,a⟩
  |dummy=>exact absurd a (BL g _)|live i=>
   rw[a]at e;simp only at e;split at e
   .cases e
   .refine F5 g n _ ?_ j d e;unfold SetTable.advance;split
    .exact c
    .exact c
set_option tactic.hygienic true
def Di(g:mI b t)(e:t.freeSlot h=Y (j,a)):t.slot j=.empty:=by
 unfold SetTable.freeSlot SetTable.probe at e;split at e
 .rename_i f i c;let⟨rfl,d⟩:=F5 g _ _ rfl _ _ c;simp only[HL,tH,Sl]at e;rw[<- e.1];exact d
 .cases e
def Qx(g:mI b t)(c:Array (Int×aj))(h:Int)(x:aj):mI b (layNew t c h x).2.1:=by
 unfold layNew;split
 .rename_i j a e;show mI b (SetTable.orStandIn _ _);unfold SetTable.orStandIn;split
  .exact F2 g (Di g e)
  .exact qp (F2 g (Di g e)) _
 .exact qp g _
set_option tactic.hygienic false
def Nh{m:Nat}(e:SetTable.laid b m i c h k=Y (t,o)):mI c t:=by
 unfold SetTable.laid at e;simp only[Option.bind_eq_bind,aa,Option.pure_def,tH,Sl]at e;let⟨d,_,n,_⟩:=e;rw[<- n];refine⟨rfl,rfl,?_⟩;show (((cm (b+1)).filterMap λj=>(d.getD j M).map (j,·)).map (·.1)).toArray.toList.Pairwise (· < ·);rw[List.toList_toArray];let f:∀l:List Nat,((l.filterMap λj=>(d.getD j M).map (j,·)).map (·.1)).Sublist l:=by
  intro l
  induction l with
  |nil=>exact .slnil|cons a r ih=>
   rw[qo];rcases g:(d.getD a M).map (a,·) with _|q
   .exact ih.cons _
   have:q.1=a:=by let⟨z,p,g⟩:=ai.1 g;cases g;rfl
   simp only[a9];rw[this];exact ih.cons_cons _
 exact List.pairwise_lt_range.sublist (f _)
set_option tactic.hygienic true
def IF(g:mI b t)(a:Array (Int×aj))(n:Nat):mI b (mX t a n).2.1:=by
 unfold mX;split
 .rename_i c o e;dsimp only;split
  .have:=Nh e;rw[g.lead]at this;exact this
  .exact qp g _
 .exact qp g _
end L2
namespace L2
open PySem PyProof.Rows
def ji(prog:aZ)(w:cH)(h:cF)(a:aw)(c:List Int):Prop:=
 ∃o b d t,h.get? a=Y o/\o.ExactSet/\o.data=.set b d t/\ElemsOf (wO prog w) b.toList/\fU (b.toList.map (·.2)) c/\t.fits b.size=Z'
  /\mI (!w.params.followText "set-order") t
def mR{f:List aj}(p:List.Perm f e):∀ {a:List Int},fU e a->∃b,fU f b/\b.Perm a:=by
 induction p with
 |nil=>intro a h;exact⟨a,h,.rfl⟩
 |cons x _ ih=>
  intro a h;cases h with
  |cons n t h=>let⟨b,d,c⟩:=ih h;exact⟨n::b,.cons n t d,c.cons n⟩
 |swap x y l=>
  intro a h;cases h with
  | cons n t h=>cases h with
   |cons s o h=>exact⟨_,.cons _ _ (.cons _ _ h),.swap _ _ _⟩
 |trans r q j i=>intro a h;let⟨b,d,c⟩:=i h;let⟨g,m,k⟩:=j d;exact⟨g,m,k.trans c⟩
def GK(h:fU a c)(e:fU b d):fU (a++b) (c++d):=by
 induction h with|nil=>exact e|cons n t _ ih=>exact .cons n t ih
theorem vY{k:Int}:∀ {c:List (Int×aj)}{b:List Int},fU (c.map (·.2)) b->(c.findIdx? (λe=>n9 k e.2)).isSome=decide (k∈b)
 |[],b,h=>by cases h;simp
 | e::r,b,h=>by
  let⟨a,v⟩:=e;cases h with
  |cons n t h=>
   let ih:=vY (k:=k) h;rw[List.findIdx?_cons];by_cases e:k=n
   .subst e;simp[n9]
   .let d:n9 k (.int n t)=false:=by simp[n9];lia
    simp only[d,fV,if_false,Fc,ih,aq,e,false_or]
def ke(h:fU a b):a.length=b.length:=by
 induction h<;>simp_all
section
variable {s:ar}
def lX(I:ji prog w h a b)(k:∀o,h.get? a=Y o->c.get? a=Y o):ji prog w c a b:=
 let⟨o,e,f,t,d,r⟩:=I;⟨o,e,f,t,k o d,r⟩
def RY{k:Int}{tk:Tok}{R:Option Bool->ar->Prop}(ho:s.heap.get? a=Y o)(hx:o.ExactSet)(hd:o.data=.set es ep t)(ZC:ElemsOf (wO prog w) es.toList)(hi:fU (es.toList.map (·.2)) ms)(g:mI (!w.params.followText "set-order") t)(ex:x=.int k tk)(V_:ms.length+1<nZ)(h:∀h' BC,fM a s.heap h'->ji prog w h' a BC->BC.Perm (ms++[k])->R (Y Z') { s with heap:=h' }){gw:Bool->Sem Unit}(hgw:∀b s1 (Q1:Unit->ar->Prop),Q1 () s1->aX (bc prog w) A (gw b) Q1 E s1)(hL:layNew t es (Bv k) x=(rg,t1,was,abj)){t2:Zb}(ht2:t2=t1\/t2={ t1 with plain:=Z_ }):
  aX (bc prog w) A (do
   Oc a rg t2
   if (!was&&t2.tooFull)=Z' then do
    gw (mX t2 rg (dP rg.size)).2.2
    Oc a (mX t2 rg (dP rg.size)).1 (mX t2 rg (dP rg.size)).2.1
    cQ (Y Z')
   else cQ (Y Z')) R E s:=by
 let hp:=layNew_perm t es (Bv k) x;let hf:=layNew_fits t es (Bv k) x;let g1:=Qx g es (Bv k) x;rw[hL]at hp hf g1;dsimp only at hp hf g1;have hf2:t2.fits rg.size=true:=by rcases ht2 with rfl|rfl;exact hf;exact SetTable.fits_plain_off hf
 have g2:mI (!w.params.followText "set-order") t2:=by
  rcases ht2 with rfl|rfl
  .exact g1
  .exact⟨g1.lead,g1.none,g1.rise⟩
 rw[Array.toList_push]at hp;let hk:(wO prog w).is k x=true:=by rw[ex];exact intKind_is _ _ _ _
 have abf:ElemsOf (wO prog w) rg.toList:=(ZC.push (knd:=wO prog w) hk (by rw[ex];rfl)).perm hp;obtain⟨ms1,hi1,Sv⟩:∃ms1,fU (rg.toList.map (·.2)) ms1/\ms1.Perm (ms++[k]):=by refine mR (hp.map (·.2)) ?_;rw[gx];refine GK hi ?_;show fU [x] [k];rw[ex];exact .cons k tk .nil
 have hz1:rg.size<nZ:=by
  let q:=ke hi1;rw[aG,bW,Sv.length_eq,aI]at q;simp only[aJ,eH]at q
  lia
 have aa8:∀(hp:cF) (o':Obj) (e':Array (Int×aj)) (t':Zb) (n':Nat) (en:Array (Int×aj)) (tn:Zb),hp.get? a=Y o'->o'.data=.set e' n' t' ->
   (hp.update a (Obj.putSet en tn)).get? a=Y { o' with data :=.set en (n'+1) tn }:=by
  intro hp o' e' t' n' en tn q qd;let z:=f_ (Obj.putSet en tn) q (by rw[putSet_of en tn qd];rfl);rw[putSet_of en tn qd]at z;exact z
 let c1:=aa8 _ _ _ _ _ rg t2 ho hd;refine af (wpAny_storeSet_of ho hd ?_ (fits_of_scanBound hz1));split
 .refine af (hgw _ _ _ ?_);let HR:=relayAll_perm t2 rg (dP rg.size);let hf3:=relayAll_fits t2 rg (dP rg.size);let g3:=IF g2 rg (dP rg.size);generalize mX t2 rg (dP rg.size)=L2 at HR hf3 g3 ⊢;let⟨es2,t3,gv⟩:=L2;dsimp only at HR hf3 g3 ⊢;let hz2:es2.size<nZ:=by rw[<- bW,HR.length_eq,bW];exact hz1
  let⟨ms2,hi2,Zy⟩:=mR (HR.map (·.2)) hi1;refine af (wpAny_storeSet_of c1 rfl ?_ (fits_of_scanBound hz2));let c2:=aa8 _ _ _ _ _ es2 t3 c1 rfl;exact ax (h _ ms2 ((mB s.heap a _).trans (mB _ a _)) ⟨_,es2,_,t3,c2,hx,rfl,abf.perm HR,hi2,hf3,g3⟩ (Zy.trans Sv))
 .exact ax (h _ ms1 (mB s.heap a _) ⟨_,rg,_,t2,c1,hx,rfl,abf,hi1,hf2,g2⟩ Sv)
def Ta(I:ji prog w s.heap a ms)(V_:ms.length+1<nZ)(h:∀b h' BC,fM a s.heap h'->ji prog w h' a BC->BC.Perm (if k∈ms then ms else ms++[k])->Q b { s with heap:=h' }):
  aX (bc prog w) A (setAddHashed a (.int k tk) (Bv k)) Q E s:=by
 let⟨o,es,ep,t,ho,hx,hd,ZC,hi,hf,g⟩:=id I;let hz:es.size<nZ:=by
  have q:=ke hi;rw[aG,bW]at q
  lia
 unfold setAddHashed Y_;refine jn (af (kU ho hd hf ?_));dsimp only;rw[byScan_of (knd:=wO prog w) (x :=.int k tk) rfl hz ZC,if_pos rfl];unfold setAddByScan;refine af (af (Km (af (wpAny_setScan_of (knd:=wO prog w) (k:=k) (intKind_is _ _ _ _) ho hd hf ZC ?_))));let hfi:=vY (k:=k) hi;let hkd:(λe:Int×aj=>(wO prog w).is k e.2)=λe=>n9 k e.2:=rfl
 rw[hkd];cases hr:List.findIdx? (λe:Int×aj=>n9 k e.2) es.toList with
 |some j=>
  rw[hr]at hfi;let hm:k∈ms:=by simpa using hfi
  dsimp only;refine ax (ax ?_);have q:=h Z_ s.heap ms (Heap.SameBut.refl a s.heap) I (by rw[if_pos hm]);let es':({ s with heap:=s.heap }:ar)=s:=by cases s;rfl
  rw[es']at q;exact q
 |none=>
  rw[hr]at hfi;let hm:k∉ms:=by simpa using hfi
  rw[if_neg hm]at h;dsimp only;generalize hL:layNew t es (Bv k) (.int k tk)=L;let⟨rg,t1,was,abj⟩:=L;dsimp only;let done:∀h' BC,fM a s.heap h'->ji prog w h' a BC->BC.Perm (ms++[k])->aX (bc prog w) A (cQ Z') Q E { s with heap:=h' }:=
   λh' BC a b c=>ax (h Z' h' BC a b c)
  have tail:=λbv:Bool=>RY (A:=A) (E:=E) (k:=k) (tk:=tk) (gw:=λb=>match b with|true=>rule "set.scan.the-table-gave-way"|false=>cQ ()) ho hx hd ZC hi g rfl V_
   (R:=λr s'=>aX (bc prog w) A (match r with|some Se=>cQ Se|none=>Y_ a (.int k tk) (Bv k) 99999) Q E s') done
   (λb s1 Q1 q=>by cases b<;>first|exact ax q|exact Km q) hL (t2:=if bv then t1 else { t1 with plain:=Z_ }) (by cases bv;exact .inr rfl;exact .inl rfl)
  have go:aX (bc prog w) A (if t1.plain=Z' then hashByValue 8 (.int k tk) >>= λbv=>(do
    Oc a rg (if bv=Z' then t1 else { t1 with plain:=Z_ })
    if (!was&&(if bv=Z' then t1 else { t1 with plain:=Z_ }).tooFull)=Z' then do
     (match (mX (if bv=Z' then t1 else { t1 with plain:=Z_ }) rg (dP rg.size)).2.2 with|true=>rule "set.scan.the-table-gave-way"|false=>cQ ())
     Oc a (mX (if bv=Z' then t1 else { t1 with plain:=Z_ }) rg (dP rg.size)).1 (mX (if bv=Z' then t1 else { t1 with plain:=Z_ }) rg (dP rg.size)).2.1
     cQ (Y Z')
    else cQ (Y Z'))
   else cQ Z' >>= λbv=>(do
    Oc a rg (if bv=Z' then t1 else { t1 with plain:=Z_ })
    if (!was&&(if bv=Z' then t1 else { t1 with plain:=Z_ }).tooFull)=Z' then do
     (match (mX (if bv=Z' then t1 else { t1 with plain:=Z_ }) rg (dP rg.size)).2.2 with|true=>rule "set.scan.the-table-gave-way"|false=>cQ ())
     Oc a (mX (if bv=Z' then t1 else { t1 with plain:=Z_ }) rg (dP rg.size)).1 (mX (if bv=Z' then t1 else { t1 with plain:=Z_ }) rg (dP rg.size)).2.1
     cQ (Y Z')
    else cQ (Y Z'))) (λr s'=>aX (bc prog w) A (match r with|some Se=>cQ Se|none=>Y_ a (.int k tk) (Bv k) 99999) Q E s') E s:=by
   split
   .exact af (ax (tail _))
   .exact af (ax (tail _))
  refine af ?_;cases abj
  .exact ax go
  .exact Km go
end
end L2
namespace L2
open PySem PyProof.Rows PySem.Spec
def gB(b:List Int):List Int:=b.foldl (λa k=>if k∈a then a else a++[k]) []
def GZ(a:List Int)(k:Int):gB (a++[k])=if k∈gB a then gB a else gB a++[k]:=by
 unfold gB;rw[Ff];rfl
def uU(c:List Int):(gB c).length<=c.length:=by
 let d:∀(l b:List Int),(l.foldl (λb k=>if k∈b then b else b++[k]) b).length<=b.length+l.length:=by
  intro l
  induction l with
  |nil=>intro b;simp
  |cons a r ih=>
   intro b;rw[lS];have:=ih (if a∈b then b else b++[a]);by_cases q:a∈b
   .rw[if_pos q]at this ⊢;simp only[aJ];lia
   .rw[if_neg q]at this ⊢;simp only[aJ,aI,eH]at this ⊢;lia
 have:=d c [];simpa [gB] using this
section
variable {R:Zc->ar->Prop}{f:List aw}{P:Nat->aj->Prop}{m:Nat->ar->Prop}
theorem NB(a:List Int)(W:WalksS prog w A.in1 I j f G a.length P m)(S:aw)(T:S∉j)(X:∀i v,P i v->∃t,v=.int (a.getD i 0) t)(hb:a.length+1<nZ):
  ∀(d i:Nat) (k:List Int) (s:ar),a.length-i=d->i<=a.length->m i s->ji prog w s.heap S k->k.Perm (gB (a.take i)) ->
   (∀h g,Moved (S::f) G s h->ji prog w h.heap S g->g.Perm (gB a)->R (.ok (.ret .none)) h) ->
   pA (bc prog w) A (.builtin "set.update.loop" ⟨[.ref S,.ref I],[]⟩) R s:=by
 let hw:S∉f:=λz=>T (W.sub _ z)
 let Q:∀b∈f,b∈S::f:=λb z =>.tail _ z
 intro d
 induction d with
 |zero=>
  intro i k s hd hi x L p N;let e:i=a.length:=by lia
  subst e;refine m8 F.entry_set_update_loop ?_;rw[lE Ft _];refine af (W.done s _ _ x λh r =>?_);refine ax (N h k (r.mono Q) (lX L λo q=>r.heap S _ hw q) ?_);rw[List.take_length]at p;exact p
 |succ d ih=>
  intro i k s hd hi x L p N;let l:i<a.length:=by lia
  refine m8 F.entry_set_update_loop ?_;rw[lE Ft _];refine af (W.item i s _ _ l x λv h hP u r =>?_);let⟨t,rfl⟩:=X i v hP;let K:ji prog w h.heap S k:=lX L λo q=>r.heap S _ hw q
  refine af (jn ?_);unfold setAdd;refine jn (af ((wO prog w).pyHash (k:=a.getD i 0) (intKind_is _ _ _ _) ?_));let hl:k.length+1<nZ:=by
   let q:=uU (a.take i);rw[<- p.length_eq,oq]at q
   lia
  refine Ta (s:={ h with toks:=h.toks+1 }) K hl λb h' g O J E =>?_
  let e2:a.take (i+1)=a.take i++[a.getD i 0]:=by
   rw[List.take_succ_eq_append_getElem l]
   congr 2
   simp[List.getD,l]
  let D:g.Perm (gB (a.take (i+1))):=by
   rw[e2,GZ];refine E.trans ?_;let n:a.getD i 0∈k↔a.getD i 0∈gB (a.take i):=p.mem_iff;by_cases q:a.getD i 0∈k
   .rw[if_pos q,if_pos (n.mp q)];exact p
   .rw[if_neg q,if_neg (λz=>q (n.mpr z))];exact p.append_right _
  refine ax ⟨xY Ft _,ih (i+1) g _ Ž l (W.frame _ h _ _ u (ml _) λc Z o q =>?_) J D λU B y H C =>?_⟩
  .rw[O.2 c (λz:c=S=>T (z ▸ Z))];exact q
  .refine N U B (Moved.trans W.gtrans ((r.mono Q).then_heap (ml _) λc o Z q =>?_) y) H C;rw[O.2 c (λz:c=S=>Z (z ▸ aM))];exact q
end
section
variable {s:ar}
def je(w:cH):Obj:={ cls :=.type "set",dict:=M,data :=.set #[] 0 (.fresh 0 0 (!w.params.followText "set-order")) }
def Eo{h:cF}:ji prog w (h.push (je w)) h.objs.size []:=
 ⟨je w,#[],0,_,aF _ rfl,⟨rfl,rfl,rfl⟩,rfl,λe a=>by simp at a,.nil,by rfl,⟨rfl,rfl,by simp[SetTable.fresh]⟩⟩
def S8(a:aj){Q:aj->ar->Prop}(h:Q (.ref s.heap.objs.size) { s with heap:=s.heap.push (je w) }):
  pA (bc prog w) A (.call (.builtin "set.__new__") ⟨[.type "set",a],[]⟩) (wants Q E) s:=by
 refine codeAny_of_tree ?_;show aX _ A.in1 (checkBuiltinCall "set.__new__" ⟨[.type "set",a],[]⟩ >>= λ_=>again (.builtin "set.__new__" ⟨[.type "set",a],[]⟩)) _ _ s;refine af (wpAny_of_eq (PySem.F.newCall_set_1 a) (ax ⟨xY PySem.F.plain_set_new _,m8 PySem.F.entry_set_new ?_⟩));rw[lE PySem.F.plain_set_new _];unfold Builtin.«set.__new__» Builtin.Frozenset.newClass;let b:=sub_set_self;let⟨i,g,d,c,e⟩:=s;dsimp only
 wp_walk
 refine Sg (ax ?_);dsimp only;simp only[newObj];exact af (wpAny_alloc (ax (ax h)))
set_option maxHeartbeats 3200000 in
def OZ(hh:A.handled=M)(hl:s.heap.IsList l n)(hi:fU n.toList g)(H:g.length+1<nZ)(h:∀a D d,ji prog w a s.heap.objs.size d->d.Perm (gB g)->(∀b o,s.heap.get? b=Y o->a.get? b=Y o)->Q (.ref s.heap.objs.size) { s with heap:=a,toks:=D }):
  aX (bc prog w) A (call (.type "set") [.ref l]) Q E s:=by
 let⟨c,tl,ahS⟩:=PySem.F.called_set.mro;let S:=PySem.F.called_set.made;let ahH:=PySem.F.called_set.sub;refine wpAny_call (codeAny_of_tree ?_);show aX _ _ (callAny (.type "set") _) _ _ _;refine ax ⟨Code.quiet_builtin _ Ų,m8 PySem.F.entry_type_call ?_⟩;rw[Around.under_plain (weight_type_call_type "set" [.ref l] []) rfl];let nt:=PySem.F.called_set.notType;let cc:=PySem.F.called_set.canCreate;let ct:=PySem.F.typeCall_set_1 (.ref l)
 repeat (any_goals (first|assumption|wp_step))
 refine pz (S8 (.ref l) (E:=E) (Q:=λp K=>p=.ref s.heap.objs.size/\K={ s with heap:=s.heap.push (je w) }) ⟨rfl,rfl⟩) λr K O =>?_
 cases r with
 |error e=>exact O|ok fl=>
  cases fl with
  |ret p=>
   let⟨rfl,rfl⟩:=O;let hg:(s.heap.push (je w)).get? s.heap.objs.size=Y (je w):=aF _ rfl;have hT:Shared.TypeIs { s with heap:=s.heap.push (je w) } (.ref s.heap.objs.size) "set" :=⟨_,hg,rfl⟩;let li:=PySem.F.called_set.init.lookup;let bi:=PySem.F.called_set.init.bind (.ref s.heap.objs.size)
   repeat (any_goals (first|assumption|wp_step))
   refine pz (codeAny_call_builtin (R:=wants (λr J=>r=.none/\∃a D d,J={ s with heap:=a,toks:=D }/\ji prog w a s.heap.objs.size d/\d.Perm (gB g) /\
    (∀b o,s.heap.get? b=Y o->a.get? b=Y o)) E) PySem.F.called_set.init.plain PySem.F.entry_set_init (check_set_init_1 hT ?_)) λr2 J k =>?_
   .let⟨ol,u,C,nl,B⟩:=hl;let⟨ahc,f,N,F⟩:=ol;simp only at C B;subst C;subst B;let t:=ae (je w) u;let K:=PySem.F.sub_list_set;let J:=PySem.F.sub_list_frozenset;let s3:(ka "list" == ka "dict")=false:=by decide
    have z:(s.heap.push (je w)).IsList l n:=⟨_,t,rfl,nl,rfl⟩;let x:l<s.heap.objs.size:=aD u;let R:l≠(s.heap.push (je w)).objs.size:=by rw[cM];exact bf (du x)
    unfold Builtin.«set.__init__» noKeywords Builtin.Frozenset.updateFrom;generalize U:pyIter=PI
    wp_walk
    subst U;refine iW z (af (wpAny_runValue ?_));let h3:A.in1.in1.in1.handled=none:=by simp[hh]
    let y:n.size=g.length:=by rw[<- bW];exact ke hi
    let W:=(Walks.list h3 (s.heap.push (je w)).objs.size l R n).toS (prog:=prog) (w:=w);rw[y]at W;refine NB g W s.heap.objs.size ?_ (λi v hv=>IntsAre.int_at hi i v (by rw[j2];exact hv)) H (g.length-0) 0 [] _ rfl (d7 _)
     ⟨⟨_,aF _ rfl,rfl,rfl⟩,z.push _⟩ (lX Eo λo q=>ae _ q) (by rw[List.take_zero];exact .rfl) ?_
    .rw[cM];simp only[aq,eP,or_false,not_or];exact⟨bf (gK _),gG x⟩
    .intro s' d G T P;let⟨a,g',d',I,L⟩:=s';let e1:g'=s.gens:=G.gens;let e2:d'=s.drawn:=G.drawn;let e3:L=s.os:=G.os;subst e1;subst e2;subst e3;show aX _ _ _ _ _ _;refine ax ?_;show aX _ _ (ret qU) _ _ _;refine ax ⟨rfl,a,I,d,rfl,T,P,λb o q =>?_⟩;let H:=aD q;refine G.heap b o ?_ (ae _ (ae _ q));rw[cM];simp only[aq,eP,or_false,not_or];exact⟨bf H,bf (du H)⟩
   .cases r2 with
    |error e=>exact k|ok X=>
     cases X with
     |ret r=>
      let⟨rfl,a,D,d,rfl,T,P,hk⟩:=k
      repeat (any_goals (first|assumption|wp_step))
      exact h _ _ _ T P hk
     |_=>exact k.elim
  |_=>exact O.elim
end
def OV:Manifest.owners.lookup (String.ofList ['r','o','t','a','r','e','t','i','_','t','e','s'].reverse)=Y Manifest.sig_set_iterator:=by kernel_rfl
def sT:Slot "set_iterator" "__next__" "set_iterator.__next__":=
 .of (owner:= "set_iterator") (n:= "__next__") (by rw[typeLookup_type,builtinLookup_eq_fast];exact ź) Ų Ų
  Ų (by first|exact .inl Ų|exact .inr Ų) (by rw[Y'];exact ź)
def KC:Slot "set_iterator" "__iter__" "set_iterator.__iter__":=
 .of (owner:= "set_iterator") (n:= "__iter__") (by rw[typeLookup_type,builtinLookup_eq_fast];exact ź) Ų Ų
  Ų (by first|exact .inl Ų|exact .inr Ų) (by rw[Y'];exact ź)
def Cq:entryFor table "set_iterator.__next__" = Y Builtin.«set_iterator.__next__» :=entryFor_of_tree ź
def MM:entryFor table "set_iterator.__iter__" = Y Builtin.«dict_keyiterator.__iter__»:=
 entryFor_alias (id':= "dict_keyiterator.__iter__") ź rfl Ų ź
def O3:entryFor table "set.__iter__" = Y Builtin.«frozenset.__iter__»:=
 entryFor_alias (id':= "frozenset.__iter__") ź rfl Ų ź
def Cr(a:aj):argsOk "set_iterator.__next__" ⟨[a],[]⟩:=by
 unfold argsOk;rw[signature?_of (id:= "set_iterator.__next__") (n:=['_','_','t','x','e','n','_','_']) (o:=['r','o','t','a','r','e','t','i','_','t','e','s']) (by kernel_rfl) OV];exact ź
def MN(a:aj):argsOk "set_iterator.__iter__" ⟨[a],[]⟩:=by
 unfold argsOk;rw[signature?_of (id:= "set_iterator.__iter__") (n:=['_','_','r','e','t','i','_','_']) (o:=['r','o','t','a','r','e','t','i','_','t','e','s']) (by kernel_rfl) OV];exact ź
section
variable {s:ar}
def tm(h:Q (w.params.followText "set-order") s):aX (bc d w) A setsByText Q E s:=
 af (Sg (ax h))
def CO{sl i:Nat}(f:s.heap.get? a=Y o)(j:o.data=.set b c t)(g:t.fits b.size=Z')(k:w.params.followText "set-order" = Z')(h:Q (((yI (w.params.setOrder a c) b)[i]?).map λe=>(e.2,sl)) s):aX (bc d w) A (setNext a sl i c) Q E s:=by
 unfold setNext;refine af (kU f j g ?_);refine af (tm ?_);rw[k,if_pos rfl,if_neg (by simp)];refine af ?_;unfold setWalk;refine af (kU f j g ?_);refine af (tm ?_);rw[k,if_pos rfl];refine af (Sg (ax ?_));exact ax h
def Gh{sl i:Nat}(f:s.heap.get? a=Y o)(m:o.data=.set b c t)(l:t.fits b.size=Z')(n:w.params.followText "set-order" = Z_)(g:(!t.plain&&decide (b.size > 1))=Z_)(k:t.led=Z')(h:Q (match b[bV t.place sl]?,t.place[bV t.place sl]? with|some (_,x),Y j=>Y (x,j+1)|_,_=>M) s):aX (bc d w) A (setNext a sl i c) Q E s:=by
 unfold setNext;refine af (kU f m l ?_);refine af (tm ?_);rw[n,if_neg (by simp)];refine BG (λz =>?_) λ_ =>?_
 .let e:(!t.plain&&decide (b.size > 1))=true:=z;rw[g]at e;cases e
 .refine af ?_;show aX _ _ (if !t.led && !b.isEmpty then unsupported "set:maker-not-led" else cQ ()) _ _ _;rw[k];exact ax (ax h)
def wt(w:cH)(I a T:aw)(b:Array (Int×aj))(c:Nat)(t:Zb)(vs:List aj)(i:Nat)(h:cF):Prop:=
 ∃first oi os,h.get? I=Y oi/\oi.cls=.type "set_iterator" /\oi.data=.fields #[first,.int i 0,.ref a,.int b.size 0,.int c 0] /\
  h.get? a=Y os/\os.data=.set b c t /\
  ((w.params.followText "set-order" = Z'/\(∃sl:Nat,first=.int sl 0)/\vs=(yI (w.params.setOrder a c) b).toList.map (·.2)) \/
   (w.params.followText "set-order" = Z_/\(!t.plain&&decide (b.size > 1))=Z_/\t.led=Z'/\(∃sl:Nat,first=.int sl 0/\bV t.place sl=i)/\vs=b.toList.map (·.2)) \/
   (first=.ref T/\∃ps:List Nat,h.IsTuple T (ps.map λn:Nat=>Fp n 0).toArray/\(∀n∈ps,n<b.size)/\vs=ps.map λn=>((b[n]?).map (·.2)).getD .none))
def wt.typeIs(x:wt w I a T es ep t vs i s.heap):s.TypeIs (.ref I) "set_iterator":=
 let⟨_,b,_,d,c,_⟩:=x;⟨b,d,c⟩
def GH{h:cF}{a:Obj}{f f':aj}{j:aj}(e:h.get? I=Y a)(d:a.cls=.type "set_iterator")(c:a.data=.fields #[f,x,y,z,u]):
  ∃b,(h.update I (Obj.mapFields (·.setIfInBounds 1 j))).get? I=Y b/\b.cls=.type "set_iterator" /\b.data=.fields #[f,j,y,z,u]:=
 ⟨_,f_ _ e (Obj.isFreed_of_fields (vc c _)),(Obj.cls_mapFields ..).trans d,by rw[vc c];simp⟩
def C9{h:cF}{a:Obj}{f:aj}{j:aj}(e:h.get? I=Y a)(d:a.cls=.type "set_iterator")(c:a.data=.fields #[f,x,y,z,u]):
  ∃b,(h.update I (Obj.mapFields (·.setIfInBounds 0 j))).get? I=Y b/\b.cls=.type "set_iterator" /\b.data=.fields #[j,x,y,z,u]:=
 ⟨_,f_ _ e (Obj.isFreed_of_fields (vc c _)),(Obj.cls_mapFields ..).trans d,by rw[vc c];simp⟩
def OX{Q:Option aj->ar->Prop}{v:aj}(x:wt w I a T es ep t vs i s.heap)(hf:t.fits es.size=Z')(hr:t.place.toList.Pairwise (· < ·))(ha:a≠I)(hT:T≠I)(hv:vs[i]?=Y v)
  (hQ:∀h',wt w I a T es ep t vs (i+1) h'->(∀b o,b≠I->s.heap.get? b=Y o->h'.get? b=Y o)->Q (Y v) { s with heap:=h' }) :
  aX (bc prog w) A (Si (.ref I)) Q E s:=by
 let hty:=x.typeIs;let⟨f,oi,os,h1,h2,h3,h4,h5,hm⟩:=x;unfold Si;refine af (wpAny_attempt (nY (name:=ab "__next__") hty sT (hU sT hty Cq ?_ (Cr _))));refine af (ax ?_);refine af (wpAny_fieldsOf h1 h3 ?_);show aX _ _ (setEntries a >>= _) _ _ _;refine af (HH h4 h5 hf ?_);rw[if_neg (by simp)];let hi:i<vs.length:=(au.mp hv).1;have rj:∀(h:cF) (b:aw) (o:Obj) (g:Obj->Obj),b≠I->h.get? b=Y o->(h.update I g).get? b=Y o:=λh b o g hb q=>(d_ _ _ (bE hb)).trans q
 let ci:((i:Int)+1)=((i+1:Nat):Int):=by lia
 have two:∀nx:Nat,(∀h' XA,h'.get? I=Y XA->XA.cls=.type "set_iterator" ->XA.data=.fields #[.int nx 0,.int (i+1:Nat) 0,.ref a,.int es.size 0,.int ep 0]->h'.get? a=Y os ->
   wt w I a T es ep t vs (i+1) h')->(f=.int 0 0\/True) ->
   aX (bc prog w) A.in1 (do setField (.ref I) 0 (u9 nx);setField (.ref I) 1 (u9 ((i:Int)+1));ret v)
    (λlQ s'=>∃v,lQ=Fin.done (Flow.ret v)/\aX (bc prog w) A (cQ (Y v)) Q E s') (λe s'=>aX (bc prog w) A (isInstance e (ka "StopIteration") >>= λb=>if b=Z' then cQ M else throw e) Q E s') s:=by
  intro nx hx _;let⟨o2,k1,k2,k3⟩:=C9 (j:=u9 nx) h1 h2 h3;refine af (lD h1 h3 ż (af (lD k1 k3 ż ?_)));let⟨o3,l1,l2,l3⟩:=GH (f' :=.none) (j:=u9 ((i:Int)+1)) k1 k2 k3;refine ax ⟨_,rfl,ax (hQ _ (hx _ o3 l1 l2 ?_ (rj _ _ _ _ ha (rj _ _ _ _ ha h4))) λb o hb q=>rj _ _ _ _ hb (rj _ _ _ _ hb q))⟩;rw[l3,ci];rfl
 rcases hm with⟨c1,⟨sl,rfl⟩,c3⟩|⟨c1,c2,c3,⟨sl,rfl,c4⟩,c5⟩|⟨rfl,ps,c1,c2,c3⟩
 .refine af (CO (sl:=sl) (i:=i) h4 h5 hf c1 ?_);obtain⟨e,he,rfl⟩:∃e,(yI (w.params.setOrder a ep) es)[i]?=Y e/\e.2=v:=by rw[c3,aT,j2]at hv;let⟨e,q,hv⟩:=ai.1 hv;rw[q];cases hv;exact⟨e,rfl,rfl⟩
  rw[cI,he];exact two sl (λh' XA q1 q2 q3 q4=>⟨_,XA,os,q1,q2,q3,q4,h5,.inl ⟨c1,⟨sl,rfl⟩,c3⟩⟩) (.inr trivial)
 .refine af (Gh (sl:=sl) (i:=i) h4 h5 hf c1 c2 c3 ?_);obtain⟨e,he,rfl⟩:∃e,es[i]?=Y e/\e.2=v:=by rw[c5,aT,j2]at hv;let⟨e,q,hv⟩:=ai.1 hv;rw[q];cases hv;exact⟨e,rfl,rfl⟩
  have GO:i<t.place.size:=by
   let z:t.place.size=es.size:=by simp only[SetTable.fits,aK,beq_iff_eq]at hf;exact hf.1
   rw[z];exact(Array.getElem?_eq_some_iff.mp he).1
  rw[c4,he,fG GO];exact two (t.place[i]+1) (λh' XA q1 q2 q3 q4=>⟨_,XA,os,q1,q2,q3,q4,h5,.inr (.inl ⟨c1,c2,c3,⟨_,rfl,Kb hr GO⟩,c5⟩)⟩) (.inr trivial)
 .let⟨ot,t1,t2,nt,t3⟩:=c1;refine af (u6 t1 t3 ?_);obtain⟨n,hn,hv2⟩:∃n,ps[i]?=Y n/\((es[n]?).map (·.2)).getD .none=v:=by rw[c3,aT]at hv;let⟨n,q,hv⟩:=ai.1 hv;rw[q];cases hv;exact⟨n,rfl,rfl⟩
  let Yh:=c2 n (pB hn);let hen:es[n]?=Y es[n]:=fG Yh;rw[hen]at hv2;let hp:(ps.map λn:Nat=>Fp n 0).toArray[i]?=Y (.int n 0):=by rw[List.getElem?_toArray,aT,hn];rfl
  simp only[cI,hp];refine af ?_;unfold setNextDrawn;refine af (kU h4 h5 hf ?_);dsimp only;rw[if_neg (by simp)];simp only[hen];refine ax (af (lD h1 h3 ż ?_));let⟨o3,l1,l2,l3⟩:=GH (f' :=.none) (j:=u9 ((i:Int)+1)) h1 h2 h3;let hv3:es[n].2=v:=hv2;rw[hv3];refine ax ⟨_,rfl,ax (hQ _ ⟨_,o3,os,l1,l2,?_,rj _ _ _ _ ha h4,h5,.inr (.inr ⟨rfl,ps,⟨ot,rj _ _ _ _ hT t1,t2,nt,t3⟩,c2,c3⟩)⟩ λb o hb q=>rj _ _ _ _ hb q)⟩;rw[l3,ci];rfl
def S_{Q:Option aj->ar->Prop}(hh:A.handled=M)(x:wt w I a T es ep t vs i s.heap)(hf:t.fits es.size=Z')(hv:vs[i]?=M)(hl:vs.length=es.size)
  (hQ:∀h',(∀b o,b≠I->s.heap.get? b=Y o->h'.get? b=Y o)->Q M { s with heap:=h' }) :
  aX (bc prog w) A (Si (.ref I)) Q E s:=by
 let hty:=x.typeIs;let⟨f,oi,os,h1,h2,h3,h4,h5,hm⟩:=x;have hi:vs.length<=i:=kW.mp hv;have rj:∀(h:cF) (b:aw) (o:Obj) (g:Obj->Obj),b≠I->h.get? b=Y o->(h.update I g).get? b=Y o:=λh b o g hb q=>(d_ _ _ (bE hb)).trans q
 have stop:∀s1:ar,(∀b o,b≠I->s.heap.get? b=Y o->s1.heap.get? b=Y o)->s1={ s with heap:=s1.heap } ->
   aX (bc prog w) A.in1 (newExc (ka "StopIteration") [] >>= λe=>(raiseNew e:Sem Fin))
    (λlQ s'=>∃v,lQ=Fin.done (Flow.ret v)/\aX (bc prog w) A (cQ (Y v)) Q E s') (λe s'=>aX (bc prog w) A (isInstance e (ka "StopIteration") >>= λb=>if b=Z' then cQ M else throw e) Q E s') s1:=by
  intro s1 hk rg;rw[rg];refine af ?_;simp only[newExc,newTuple];refine af (fK ?_ (by size_fits));refine af (m:=firstArgMember _ _) (wpAny_of_eq (a:=qU) (by first|rfl|(simp only[firstArgMember];rfl)) ?_);refine fK ?_ (by size_fits);simp only[raiseNew];refine af (wpAny_handled ?_);rw[show A.in1.handled=M from hh];refine af (ax (wpAny_throw ?_));refine af (Sf (T:= "StopIteration") (b:=Z') ⟨_,aF _ rfl,rfl⟩ isSubtype_stop ?_);exact ax (hQ _ λb o hb q=>ae _ (ae _ (hk b o hb q)))
 unfold Si;refine af (wpAny_attempt (nY (name:=ab "__next__") hty sT (hU sT hty Cq ?_ (Cr _))));refine af (ax ?_);refine af (wpAny_fieldsOf h1 h3 ?_);show aX _ _ (setEntries a >>= _) _ _ _;refine af (HH h4 h5 hf ?_);rw[if_neg (by simp)];rcases hm with⟨c1,⟨sl,rfl⟩,c3⟩|⟨c1,c2,c3,⟨sl,rfl,c4⟩,c5⟩|⟨rfl,ps,c1,c2,c3⟩
 .refine af (CO (sl:=sl) (i:=i) h4 h5 hf c1 ?_);let he:(yI (w.params.setOrder a ep) es)[i]?=none:=by rw[c3,aG,bW]at hi;exact jC hi
  rw[cI,he];refine af (lD h1 h3 ż (stop _ (λb o hb q=>rj _ _ _ _ hb q) rfl))
 .refine af (Gh (sl:=sl) (i:=i) h4 h5 hf c1 c2 c3 ?_);let he:es[i]?=none:=jC Ž;rw[c4,he];refine af (lD h1 h3 ż (stop _ (λb o hb q=>rj _ _ _ _ hb q) rfl))
 .let⟨ot,t1,t2,nt,t3⟩:=c1;refine af (u6 t1 t3 ?_);let hp:(ps.map λn:Nat=>Fp n 0).toArray[i]?=none:=by rw[c3,aG]at hi;exact jC (by simpa using hi)
  simp only[cI,hp];let⟨o2,k1,k2,k3⟩:=C9 (j:=u9 0) h1 h2 h3;refine af (lD h1 h3 ż (af (lD k1 k3 ż (stop _ (λb o hb q=>rj _ _ _ _ hb (rj _ _ _ _ hb q)) rfl))))
def MO(K:A.handled=M)(L:a≠I)(U:T≠I)(n:t.fits es.size=Z')(G:t.place.toList.Pairwise (· < ·))(J:vs.length=es.size):
  Walks prog w A I [I,a,T] [I] vs.length (λi v=>vs[i]?=Y v) (wt w I a T es ep t vs) where
 sub:=λb e=>by simp at e;simp[e]
 frame:=λi h j c l=>by
  let⟨f,F,D,S,R,P,O,N,H⟩:=c;refine⟨f,F,D,l I ż _ S,R,P,l a ż _ O,N,?_⟩;rcases H with z|z|⟨y,B,⟨C,u,r⟩,p⟩
  .exact .inl z
  .exact .inr (.inl z)
  .exact .inr (.inr ⟨y,B,⟨C,l T ż _ u,r⟩,p⟩)
 item:=λi s Q E m c g=>OX c n G L U (aS m) λj x k=>g _ j s.toks (aS m) x λb o e q=>k b o (by simpa using e) q
 done:=λs Q E c g=>S_ K c n (jZ (av _)) J λj k=>g j s.toks λb o e q=>k b o (by simpa using e) q
 self:=λi s Q E c g=>by let d:=c.typeIs;refine Ob d KC (hU KC d MM ?_ (MN _));show aX _ _ (ret (.ref I)) _ _ s;exact ax ⟨_,rfl, "set_iterator",_,d,sT.lookup,g⟩
def AZ{a:Type}{l:List a}(h:i<l.length):(l[i]::l.eraseIdx i).Perm l:=by
 rw[List.eraseIdx_eq_take_drop_succ];refine(List.perm_middle (a:=l[i])).symm.trans ?_;rw[<- cZ h,List.take_append_drop]
theorem CF(b:Nat->Nat):∀(f k:Nat) (l:List e) (a:Array e),l.length<=f->(pickOrder.go b f k l a).toList.Perm (a.toList++l)
 |0,k,l,a,h=>by have:l=[]:=ve.mp Ž;subst this;unfold pickOrder.go;simp
 | f+1,k,l,a,h=>by
  unfold pickOrder.go;by_cases g:l=[]
  .subst g;simp
  .let i:0<l.length:=ZT.mpr g;let d:b k%l.length<l.length:=Nat.mod_lt _ i;rw[aS d];dsimp only;refine(CF b f (k+1) _ _ (by rw[Of d];lia)).trans ?_;rw[Array.toList_push,bD];exact(List.Perm.append_left _ (AZ d))
def NS{a:Source}(b:n≠0)(h:∀i d,i<n->Q i { s with drawn:=d }):aX (bc c w) A (choose a n) Q E s:=
 λe e e=>⟨b,h _ _ (Nat.mod_lt _ (Nat.pos_of_ne_zero b))⟩
theorem LW{f:Type}:∀(n:Nat) (l:List f) (s:ar) (Q:List f->ar->Prop),l.length=n->(∀b d,b.Perm l->Q b { s with drawn:=d })->aX (bc c w) A (drawOrder n l) Q E s
 |0,l,s,Q,a,h=>by have:l=[]:=ve.mp a;subst this;exact ax (h [] s.drawn .rfl)
 |n+1,[],s,Q,a,h=>by cases a
 |n+1,x::r,s,Q,a,h=>by unfold drawOrder;refine af (NS ż λi d e =>?_);rw[aS e];dsimp only;refine af (LW n _ _ _ (by rw[Of e];simp at a ⊢;lia) λb j g =>?_);exact ax (h _ j ((g.cons _).trans (AZ e)))
def sy(x:ji c w s.heap a b):s.TypeIs (.ref a) "set" :=let⟨o,_,_,_,e,d,_⟩:=x;⟨o,e,d.1⟩
def OY(e:s.TypeIs (.ref a) "set")(h:Q Z_ s):aX (bc c w) A (WC (.ref a)) Q E s:=by
 unfold WC;refine af (wpAny_specialOf e PySem.F.slot_set_len.lookup ?_);generalize b:("set.__len__" : String)=d
 wp_delta
 rw[show splitId d=Y ("set","__len__") from by subst b;decide +kernel];subst b;refine af (Sf (T:= "set") (b:=Z') e (by rw[Y'];exact ź) ?_);refine BG (λz=>absurd z ſ) (λ_ =>?_);refine BG (λ_ =>?_) (λz=>absurd Ų z);exact af (wpAny_typeOf e (ax h))
def OW{ms:List Int}{Q:aj->ar->Prop}(x:ji c w s.heap a ms)(hz:ms.length<=aU)
  (hQ:∀I T es ep t vs BC h' d,wt w I a T es ep t vs 0 h'->t.fits es.size=Z'->t.place.toList.Pairwise (· < ·)->vs.length=es.size->a≠I->T≠I->s.heap.objs.size<=I->I<h'.objs.size->T<h'.objs.size->(T=a\/s.heap.objs.size<=T) ->
   (∀b o,s.heap.get? b=Y o->h'.get? b=Y o)->fU vs BC->BC.Perm ms->Q (.ref I) { s with heap:=h',drawn:=d }):aX (bc c w) A (pyIter (.ref a)) Q E s:=by
 let hT:=sy x;let⟨o,es,ep,t,ho,hx,hd,ZC,hi,hf,g⟩:=x;let HF:es.size=ms.length:=by rw[<- bW,<- aG (f:=(·.2))];exact ke hi
 let GO:a<s.heap.objs.size:=aD ho;refine Ob hT PySem.F.slot_set_iter (hU PySem.F.slot_set_iter hT O3 ?_ (PySem.F.args_set_iter_1 _));unfold Builtin.«frozenset.__iter__»;show aX _ _ (cQ a >>= _) _ _ _;refine af (ax (af ?_));unfold Builtin.Frozenset.sizeOf;refine af (HH ho hd hf (ax ?_));refine af ?_;unfold setDrawn;refine af (kU ho hd hf ?_);refine af (tm ?_);show aX _ _ (cQ (!w.params.followText "set-order" && (!t.plain&&decide (es.size > 1)))) _ _ _;refine ax ?_;dsimp only;have lQ:∀(s1:ar) (first:aj) (T:aw) (vs:List aj) (BC:List Int) (d:Drawn),s1={ s with heap:=s1.heap,drawn:=d }->(∀b o,s.heap.get? b=Y o->s1.heap.get? b=Y o)->s.heap.objs.size<=s1.heap.objs.size->T<s1.heap.objs.size->(T=a\/s.heap.objs.size<=T) ->
   (∀h':cF,(∀b o,s1.heap.get? b=Y o->h'.get? b=Y o) ->
   ((w.params.followText "set-order" = Z'/\(∃sl:Nat,first=.int sl 0)/\vs=(yI (w.params.setOrder a ep) es).toList.map (·.2)) \/
   (w.params.followText "set-order" = Z_/\(!t.plain&&decide (es.size > 1))=Z_/\t.led=Z'/\(∃sl:Nat,first=.int sl 0/\bV t.place sl=0)/\vs=es.toList.map (·.2)) \/
   (first=.ref T/\∃ps:List Nat,h'.IsTuple T (ps.map λn:Nat=>Fp n 0).toArray/\(∀n∈ps,n<es.size)/\vs=ps.map λn=>((es[n]?).map (·.2)).getD .none))) ->
   vs.length=es.size->fU vs BC->BC.Perm ms ->
   aX (bc c w) A.in1 (setEpoch a >>= λe=>newFields "set_iterator" [first,u9 0,fm a,u9 es.size,u9 e] >>= λv=>(ret v:Sem Fin))
   (λlQ s'=>∃v,lQ=Fin.done (Flow.ret v)/\∃T' r,s'.TypeIs v T'/\typeLookup (ka T') (ab "__next__")=cQ (Y r)/\Q v s') E s1:=by
  intro s1 first T vs BC d e1 k1 k2 k3 k8 k4 k5 k6 k7;refine af (wpAny_setEpoch_of (k1 _ _ ho) hd hf ?_);unfold newFields;refine af (fK (ax ⟨_,rfl, "set_iterator",_,⟨_,aF _ rfl,rfl⟩,sT.lookup,?_⟩) (by size_fits));let q:=hQ s1.heap.objs.size T es ep t vs BC (s1.heap.push { cls :=.type "set_iterator",data :=.fields #[first,.int 0 0,.ref a,.int es.size 0,.int ep 0] }) d
   ⟨first,_,o,aF _ rfl,rfl,rfl,ae _ (k1 _ _ ho),hd,k4 _ λb o z=>ae _ z⟩ hf g.rise k5 (bf (aY GO k2)) (bf k3) k2 (by rw[cM];exact gK _) (by rw[cM];exact du k3) k8
   (λb o z=>ae _ (k1 b o z)) k6 k7
  rw[e1];exact q
 by_cases hb:w.params.followText "set-order" = Z'
 .rw[if_neg (by rw[hb];simp)];refine af (ax ?_);have hp:(yI (w.params.setOrder a ep) es).toList.Perm es.toList:=by have:=CF (w.params.setOrder a ep) es.size 0 es.toList #[] ż;simpa [yI] using this
  let⟨BC,i1,i2⟩:=mR (hp.map (·.2)) hi;refine lQ s (u9 0) a _ BC s.drawn (by cases s;rfl) (λh h z=>z) (av _) GO (.inl rfl) (λh' h =>.inl ⟨hb,⟨0,rfl⟩,rfl⟩) ?_ i1 i2;rw[aG,hp.length_eq,bW]
 .let Wc:w.params.followText "set-order" = false:=by simpa using hb
  by_cases hdr:(!t.plain&&decide (es.size > 1))=Z'
  .rw[if_pos (by rw[Wc,hdr];rfl)];refine af (LW es.size (cm es.size) _ _ ż λps d hp =>?_);let aef:∀n∈ps,n<es.size:=λn hn=>by simpa using hp.mem_iff.mp hn
   have hpl:ps.length=es.size:=by rw[hp.length_eq];simp
   refine af (wpAny_newTuple ?_ (by rw[aG,hpl,HF];exact hz));let hvp:(ps.map λn=>((es[n]?).map (·.2)).getD qU).Perm (es.toList.map (·.2)):=by
    let q:=hp.map λn=>((es[n]?).map (·.2)).getD qU
    refine q.trans (qm ?_);refine List.ext_getElem ż λn h1 h2 =>?_
    simp at h1;simp[h1]
   let⟨BC,i1,i2⟩:=mR hvp hi;refine lQ _ (.ref s.heap.objs.size) s.heap.objs.size _ BC d rfl (λb o z=>ae _ z) (by rw[cM];exact ml _) (by rw[cM];exact gK _) (.inr (av _)) (λh' k =>.inr (.inr ⟨rfl,ps,⟨_,k _ _ (aF _ rfl),rfl,0,?_⟩,aef,rfl⟩)) ?_ i1 i2
   .rfl
   .rw[aG];exact hpl
  .rw[if_neg (by rw[Wc];simpa using hdr)];refine af (ax ?_);refine lQ s (u9 0) a _ ms s.drawn (by cases s;rfl) (λh h z=>z) (av _) GO (.inl rfl) (λh' h =>.inr (.inl ⟨Wc,by simpa using hdr,by rw[g.lead,Wc];rfl,⟨0,rfl,Ht g.rise⟩,rfl⟩)) ?_ hi .rfl;rw[aG,bW]
def IA{R:Zc->ar->Prop}{S:aw}{res:aj}(hh:A.handled=M)(x:ji g w s.heap a H)(hz:H.length<=aU)(P:s.heap.get? S=Y { cls :=.type "list",data :=.seq #[] p })(m:S≠a) (hR:∀U d tk h c l,(∀b o,b≠S->s.heap.get? b=Y o->U.get? b=Y o)->U.get? S=Y { cls :=.type "list",dict:=M,data :=.seq h c,slots :=#[] }->fU h.toList l->l.Perm H ->
   R (.ok (.ret res)) { s with heap:=U,drawn:=d,toks:=tk }) :
  aX (bc g w) A.in1 (WD (.ref S) (.ref a) res)
   (λlQ u=>match lQ with|.done f=>R (.ok f) u|.again G=>G.quiet=Z'/\pA (bc g w) A G R u) (λe u=>R (.error e) u) s:=by
 have n1:Builtin.List.listSameRef (.ref S) (.ref a)=false:=by simp[Builtin.List.listSameRef,m]
 let n2:(ka "set" == ka "list")=false:=by decide
 let n3:(ka "set" == ka "tuple")=false:=by decide
 unfold WD;refine af (wpAny_typeOf (T:= "set") (sy x) ?_);simp only[n1,n2,n3,Bool.or_false,fV,if_false];refine af (OW x hz λI T es ep t r l Q d it hf hr hl ha hT hI hI2 hT2 Z B hi hp =>?_);refine af (jn (OY (sy (s:={ s with heap:=Q,drawn:=d }) (lX x λo q=>B _ _ q)) ?_));let y:S<s.heap.objs.size:=aD P;let D:S≠I:=bf (aY y hI);have C:S≠T:=by
  rcases Z with e|e
  .rw[e];exact m
  .exact bf (aY y e)
 let W:=MO (prog:=g) (w:=w) (A:=A.in1) (I:=I) (a:=a) (T:=T) (es:=es) (ep:=ep) (t:=t) (vs:=r) hh ha hT hf hr hl;have n:∀(E:cF) (c:Nat),wt w I a T es ep t r 0 E->(∀b o,b≠S->s.heap.get? b=Y o->E.get? b=Y o)->E.get? S=Y { cls :=.type "list",data :=.seq #[] c } ->
   pA (bc g w) A (.builtin "list.extend.loop" ⟨[.ref S,.ref I,res],[]⟩) R { s with heap:=E,drawn:=d }:=by
  intro E c J L N;let K:r.length<=aU:=by rw[ke hi,hp.length_eq];exact hz
  refine codeAny_extend_loopS W.toS K S ?_ res r.length 0 _ #[] c rfl (d7 _) J N (ItemsOf.nil _) λu h G F O j =>?_
  .simp only[aq,eP,or_false,not_or];exact⟨D,m,C⟩
  .let ea:h.toList=r:=by
    refine Fg λi =>?_
    by_cases q:i<r.length
    .have X:i<h.size:=by rw[j.1];exact q
     have:=j.2 i h[i] (fG X);rw[this,j2,fG X]
    .rw[jZ (by rw[bW,j.1];lia),jZ (by lia)]
   let⟨h3,g3,d3,t3,o3⟩:=u;let eg:g3=s.gens:=F.gens;let ed:d3=d:=F.drawn;let eo:o3=s.os:=F.os;subst eg;subst ed;subst eo;refine hR h3 d3 t3 h G l (λb o k q=>F.heap b o (λz =>?_) (L b o k q)) O (by rw[ea];exact hi) hp;rcases aq.mp z with e|z
   .exact k e
   .let e:=bI.mp z;subst e;exact absurd (aD q) (Nat.not_lt_of_le hI)
 refine BG (λV =>?_) (λV=>ax ⟨xY PySem.F.plain_extend_loop _,n _ p it (λb o V q=>B b o q) (B _ _ P)⟩);refine af (Km (af ?_));show aX _ _ (updateSeq S (·.push .none) >>= λV=>updateSeq S (·.pop)) _ _ _;let k1:=B _ _ P;refine af (Vt k1 rfl ?_);have k2:=f_ (nW (·.push qU)) k1 rfl;refine Vt (hz:=by seq_fits) k2 rfl ?_;have k3:=f_ (nW (·.pop)) k2 rfl;have v:∀b o,b≠S->Q.get? b=Y o->((Q.update S (nW (·.push qU))).update S (nW (·.pop))).get? b=Y o:=
  λb o k q=>(d_ _ _ (bE k)).trans ((d_ _ _ (bE k)).trans q)
 refine ax ⟨xY PySem.F.plain_extend_loop _,n _ _ (W.frame 0 _ _ it λb k o q=>v b o (λz =>?_) q) (λb o k q=>v b o k (B b o q)) k3⟩;subst z;simp only[aq,eP,or_false]at k;rcases k with z|z|z
 .exact D z
 .exact m z
 .exact C z
def FK{R:List aj->ar->Prop}(H:A.handled=M)(x:ji g w s.heap a u)(G:u.length<=aU)(h:∀j d m D i,s.heap.objs.size<=j.objs.size->(∀b o,s.heap.get? b=Y o->j.get? b=Y o)->fU D i->i.Perm u->R D { s with heap:=j,drawn:=d,toks:=m }):
  aX (bc g w) A (collect (.ref a)) R E s:=by
 let C:a<s.heap.objs.size:=let⟨_,_,_,_,q,_⟩:=x;aD q;unfold collect;refine af (wpAny_runValue (m8 entry_proto_collect' ?_));rw[lE PySem.F.plain_proto_collect _];show aX _ A.in1 (newList [] >>= λl=>again (.builtin "list.__iadd__" ⟨[l,.ref a],[]⟩)) _ _ s;refine af (fK (ax ⟨xY PySem.F.plain_list_iadd _,m8 entry_list_iadd' ?_⟩));rw[lE PySem.F.plain_list_iadd _];let F:(s.heap.push { cls :=.type "list",data :=.seq ([]:List aj).toArray }).get? s.heap.objs.size=Y { cls :=.type "list",data :=.seq #[] }:=aF _ rfl;let B:=IA (A:=A) (s:={ s with heap:=s.heap.push { cls :=.type "list",data :=.seq ([]:List aj).toArray } })
  (R:=λq v=>∃j d m k c i,q=.ok (.ret (.ref s.heap.objs.size))/\v={ s with heap:=j,drawn:=d,toks:=m }/\(∀b o,s.heap.get? b=Y o->j.get? b=Y o) /\
   j.get? s.heap.objs.size=Y { cls :=.type "list",dict:=M,data :=.seq k c,slots :=#[] }/\fU k.toList i/\i.Perm u)
  (res :=.ref s.heap.objs.size) H (lX x λo q=>ae _ q) G F (gG C)
  (λj d m k c i t n r p=>⟨j,d,m,k,c,i,rfl,rfl,λb o q=>t b o (bf (aD q)) (ae _ q),n,r,p⟩)
 refine gJ B (λlQ v z =>?_) λe v z =>?_
 .cases lQ with
  |done f=>let⟨j,d,m,k,c,i,e,rfl,t,n,r,p⟩:=z;cases e;show aX _ A (load s.heap.objs.size >>= _) _ _ _;exact af (wpAny_load n (ax (h j d m _ i (cx (aD n)) t r p)))
  |again K=>refine⟨z.1,pz z.2 λq J y =>?_⟩;let⟨j,d,m,k,c,i,rfl,rfl,t,n,r,p⟩:=y;show aX _ A (load s.heap.objs.size >>= _) _ _ _;exact af (wpAny_load n (ax (h j d m _ i (cx (aD n)) t r p)))
 .let⟨_,_,_,_,_,_,I,_⟩:=z;cases I
def Iz{m:List Int}(G:A.handled=M)(x:ji g w s.heap a m)(r:m.length<64) (h:∀D t d l c n j,s.heap.objs.size<=D->(∀b o,s.heap.get? b=Y o->t.get? b=Y o)->t.get? D=Y (seqObj "list" c n)->fU c.toList j->j.Perm m->j.Pairwise (· <= ·) ->
   Q (.ref D) { s with heap:=t,drawn:=d,toks:=l }) :
  aX (bc g w) A (call (.builtin "sorted") [.ref a]) Q E s:=by
 refine Calls.call_function_entry kind_sorted plain_sorted entry_sorted (args_sorted1 _) ?_;unfold Builtin.«sorted»;refine af (m:=checkCount "sorted" 1 1 _) (ax ?_);refine af (FK (A:=A.in1) G x (by rw[iX];lia) λk d l i B e C v u =>?_);have F:i.length<64:=by rw[ke v,u.length_eq];exact r
 refine af (wpAny_newList ?_ (by rw[iX];lia));let p:(k.push (seqObj "list" i.toArray 0)).get? k.objs.size=Y (seqObj "list" i.toArray 0):=aF _ rfl;show aX _ _ _ _ _ { s with heap:=k.push (seqObj "list" i.toArray 0),drawn:=d,toks:=l };refine af (jn (hU slot_list_sort ⟨_,p,rfl⟩ entry_list_sort (list_sort_tree p v F λc j J I H=>⟨_,rfl,?_⟩) (args_list_sort _)));let z:=get?_update_seq p (λ_ =>#[]);let f:=get?_update_seq (ae (seqObj "list" #[] 0) (ae (seqObj "tuple" i.toArray 0) z)) (λ_=>c);refine ax ⟨_,rfl,h k.objs.size _ d l c _ j e (λb o q =>?_) f J (I.trans u) H⟩;let y:b≠k.objs.size:=bf (aY (aD q) e);unfold sortedHeap;rw[d_ _ _ (bE y)];refine ae _ (ae _ ?_);rw[d_ _ _ (bE y)];exact ae _ (C b o q)
end
end L2
namespace L2
open PySem PySem.Spec PyProof.Rows
def Inv.Tg{X:Cx}{s:ar}(I:Inv X a c H s)(d:Drawn):Inv X a c H { s with drawn:=d }:=
 I.step (h':=s.heap) (g':=s.gens) (d':=d) (t':=s.toks) (ch:=[]) (λb z=>nomatch z) (λb o b b b e b=>e) (λb o b b b e b=>⟨o.slots,e⟩) (λb o b b n=>n) (λb o b e=>⟨o,e⟩)
  (λb b e=>e) (λb b b e=>e) (λb h e=>⟨#[],by rw[e];simp⟩) (λm f=>f) I.fQ I.bare
noncomputable def OU(c:List Int):List Int:=c.mergeSort (λa b=>decide (a<=b))
def zM(a:List Int):(OU a).Perm a:=List.mergeSort_perm a _
def Iw(ns:List Int):(OU ns).Pairwise (· <= ·):=by
 exact(List.pairwise_mergeSort (le:=λa b=>decide (a<=b)) λa b c h1 h2=>by grind λa b=>by simp;lia ns).imp λh=>by simpa using h
def WV(p:a.Perm b)(h:a.Pairwise (· <= ·)):a=OU b:=PySem.W.ksm_same (p.trans (zM b).symm) h (Iw b)
theorem vX:∀ {b:List Int}{a:List aj},b8 (b.map V.int) a->fU a b
 |[],a,h=>by cases h;exact .nil
 | n::r,a,h=>by
  cases h with
  |cons d c=>let⟨t,rfl⟩:=d;exact .cons n t (vX c)
def DN(h:fU a b):b8 (b.map V.int) a:=by
 induction h with|nil=>exact .nil|cons n t _ ih=>solve_by_elim
section
variable {X:Cx}{f:DF}
def tSS(K:aP)(j:TE):TE:=λd H Q=>j d H λx c=>∃a b,x=.ref a/\mh K c a (b.map V.int)/\b.length<64/\∀l,c l=M->Q (.ref l) (dA c l (.lst ((OU (gB b)).map V.int)))
def Pn(f:X.calm=Z')(hg:Gl X "sorted")(hm:X.mg "sorted" = M)(hg':Gl X "set")(R:X.mg "set" = M)(hl:PE X e j)(hs:autoParam (ak [e] X.env=(Z_,eval e X.env)::ak [] X.env) Ŭ)(v:autoParam (ak [.Call (.Name "set" q) [e] [] g] X.env=(Z_,eval (.Call (.Name "set" q) [e] [] g) X.env)::ak [] X.env) Ŭ)(hv:autoParam (d9 "set" = Y (.type "set")) ţ)(y:autoParam (d9 "sorted" = Y (.builtin "sorted")) ţ):PE X (.Call (.Name "sorted" p) [.Call (.Name "set" q) [e] [] g] [] w) (tSS X.K j):=by
 intro k s σ H Q I h;refine j' (qz I hg hm y ?_);refine HJ ?_ v rfl;rw[v];show aX _ _ (spliced ((Z_,eval _ X.env)::cP w (ak [] X.env))) _ _ s;refine vg ?_;refine j' (qz I hg' R hv ?_);refine eQ ?_ hs rfl;refine fu (bZ hl eC hs g k s σ H (λF E=>match F with|[x]=>∃a c,x=.ref a/\mh X.K E a (c.map V.int)/\c.length<64/\∀l,E l=M->Q (.ref l) (dA E l (.lst ((OU (gB c)).map V.int)))|_=>False) I h) ?_;rintro us J ⟨F,E,C,r1,i⟩;cases F with
 |nil=>exact i.elim|cons x t=>
  cases t with
  |cons _ _=>exact i.elim|nil=>
  let⟨a,c,rfl,hq,h64,q⟩:=i;let⟨u,rfl,ru⟩:=b8.one r1;cases ru;let⟨L,rv,pl,hz⟩:=C.list hq;let hi:fU L c:=vX rv;let O:c.length+1<nZ:=by let e:nZ=4096:=rfl;lia
  refine OZ (C.ok.hd f) pl.isList (by simpa using hi) O λh2 tk ms B A U =>?_
  let S:ms.length<64:=by rw[A.length_eq];exact me (uU c) h64
  refine Oi ?_;refine Iz (s:={ J with heap:=h2,toks:=tk }) (C.ok.hd f) B S λD h3 d G K n os hD T hL hio P N =>?_
  let eo:os=OU (gB c):=WV (P.trans A) N;subst eo;have r:J.heap.objs.size<=D:=by let⟨o,_,_,_,i,_⟩:=B;exact aV (cx (aD i)) hD
  let kp:∀b m,J.heap.get? b=Y m->h3.get? b=Y m:=λb m z=>T b m (U b m z)
  refine⟨.ref D,_,(C.Tg d).laid (t':=G) kp r (show jF X.prog X.w _ h3 _ (.lst ((OU (gB c)).map V.int)) from⟨?_,K.toList,n,DN hio,?_⟩),rfl,q _ (C.fQ.fresh r)⟩
  .rw[aG,(zM _).length_eq];have:=uU c;let e:aU ≥ 64:=by decide
   lia
  .rw[Array.toArray_toList];exact hL
noncomputable def yk:List D->Option (List Int)
 |[]=>Y []|.int i::r=>(yk r).map (i :: ·)|_::_=>M
theorem AJ:∀ {b:List D}{a:List Int},yk b=Y a->b=a.map D.int
 |[],a,h=>by cases h;rfl
 | d::r,a,h=>by
  cases d<;>simp only[yk]at h<;>try (cases h)
  let⟨c,e,h⟩:=ai.1 h;cases h;rw[AJ e];rfl
theorem sU{K:aP}:∀ {b:List Int}{a:List V},bh K G (b.map D.int) a↔a=b.map V.int
 |[],a=>by simp[bh]
 | n::r,a=>by
  simp;constructor
  .rintro⟨v,t,rfl,rfl,h⟩;rw[sU.mp h]
  .rintro rfl;exact⟨_,_,rfl,rfl,sU.mpr rfl⟩
def ZG(f:DF):DL:=λb=>(f b).bind λd=>match d with|.lst c=>(yk c).bind λa=>if a.length<64 then Y ((OU (gB a)).map D.int) else M|_=>M
set_option tactic.hygienic true
def RC(d:X.calm=Z')(I:Gl X "sorted")(F:X.mg "sorted" = M)(o:Gl X "set")(n:X.mg "set" = M)(h:PE X e (tQ X.K y f))(E:autoParam (ak [e] X.env=(Z_,eval e X.env)::ak [] X.env) Ŭ)(l:autoParam (ak [.Call (.Name "set" q) [e] [] g] X.env=(Z_,eval (.Call (.Name "set" q) [e] [] g) X.env)::ak [] X.env) Ŭ):
  PE X (.Call (.Name "sorted" p) [.Call (.Name "set" q) [e] [] g] [] w) (tF X.K y (ZG f)):=
 (Pn d I F o n h E l).imp <|by
  rintro L H Q ⟨G,u,N,J,r,b,k⟩;unfold ZG at b;let⟨c,t,b⟩:=aa.1 b;refine⟨G,u,c,J,r,t,λv K O i x =>?_⟩;cases c<;>simp only[ah]at b<;>try (cases b;done)
  rename_i A;rw[aa]at b;let⟨C,s,b⟩:=b;split at b
  .cases b;rename_i D;rw[AJ s]at x;let⟨a,j,rfl,z,B⟩:=x.lst i.gh;rw[sU.mp B]at z;exact⟨a,C,rfl,.of z,D,λq m=>k q _ K _ (i.trans (gc.lay (p:=q) i.gh m)) (i.hh.free m) (i.gh.free m) a_ (sU.mpr rfl)⟩
  .cases b
end
section
variable {X:Cx}{m:List Nat}
def Ri(r n:DF):DL:=λa=>(r a).bind λx=>(n a).bind λy=>match x,y with|.lst c,.lst b=>if c.length+b.length<=cY then Y (c++b) else M|_,_=>M
set_option tactic.hygienic true in
def U6(I:PE X a (tQ X.K m r))(F:PE X b (tQ X.K m n)):PE X (.BinOp a .Add b w) (tF X.K m (Ri r n)):=
 (Po PD I F).imp <|by
  rintro P H Q ⟨G,h,R,J,f,c,k⟩;unfold Ri at c;let⟨x,L,c⟩:=aa.1 c;rw[aa]at c;let⟨y,q,c⟩:=c;refine⟨G,h,x,J,f,L,λv N T g B=>⟨N,h,y,g.gh,f.ext g,q,λu U S d A =>?_⟩⟩;split at c<;>try (cases c;done)
  split at c
  .cases c;rename_i E;let⟨p,s,K,C,z⟩:=(B.ext d).lst d.gh;let⟨D,t,o,i,e⟩:=A.lst d.gh;refine⟨p,D,s,t,K,o,C,i,?_,λl j =>?_⟩
   .rw[<- z.length,<- e.length];exact aV E eE
   .let O:=gc.lay (p:=l) (o :=.lst (s++t)) d.gh j;exact k l _ U _ ((g.trans d).trans O) (g.hh.free (d.hh.free j)) (d.gh.free j) a_ (z.append e)
  .cases c
def XO(f:DT)(r n:DM):DM:=λa=>(f a).bind λc=>if c=Z' then r a else n a
def abB{f:DT}(t:PT X c (qW X.K m f))(x:PE X a (tM X.K B m r))(u:PE X b (tM X.K B m n)):PE X (.IfExp c a b w) (tM X.K B m (XO f r n)):=
 (F7 t x u).imp <|by
  rintro z H Q ⟨G,i,d,e,S,g,k⟩;unfold XO at g;let⟨c,y,g⟩:=aa.1 g;refine⟨G,i,c,S.gh,S.iy,y,λs A h =>?_⟩;cases c with
  |true=>exact BV ⟨s,i,d,e,S.ext h,g,λv q p o j l=>k v q p o (h.gg.trans j) l⟩
  |false=>exact JF ⟨s,i,d,e,S.ext h,g,λv q p o j l=>k v q p o (h.gg.trans j) l⟩
def xD(F:List D->Option (D×List D))(f:DF)(j:Nat):DM:=λa=>(f a).bind λd=>(dW j a).bind λb=>(F [d,.lst b]).map λq=>(q.1,a.set j (Y (.lst q.2)))
def Rv{F:List D->Option (D×List D)}{b:Pos}(h:eL X.prog X.w X.K X.mg X.base x k (Fl X.K 1 F))(hr:fT k X.A)(hg:Gl X x)(ha:PE X e (tP X.K m C))(hy:PE X (.Name y b) (i5 j))(n:autoParam (j∈m) Ū)(A:autoParam ((x==("__debug__" : aH))=false) Ū)(N:autoParam (ak [e,.Name y b] X.env=(Z_,eval e X.env)::ak [.Name y b] X.env) Ŭ)(z:autoParam (ak [.Name y b] X.env=(Z_,eval (.Name y b) X.env)::ak [] X.env) Ŭ)(t:autoParam ((cP w (ak [.Name y b] X.env)).any (·.1)=false) Ŭ):PE X (.Call (.Name x p) [e,.Name y b] [] w) (tM X.K B m (xD F C j)):=by
 let⟨f,fd,ps,h1,hm,hk,hb⟩:=h.ex;refine(mO h1 hr hg hm hk hb .nil nI (bZ ha (bZ hy eC z) N) A N t).imp ?_;rintro σ H Q ⟨G,g,d,ρ',S,a,q⟩;unfold xD at a;let⟨J,I,a⟩:=aa.1 a;let⟨o,E,a⟩:=aa.1 a;obtain⟨⟨d',l⟩,eF,a⟩:=ai.1 a;cases a;let O:=cJ E;refine⟨G,g,J,S.gh,S.iy,I,λL G1 H1 K r1 =>?_⟩;let U:=S.ext K;let⟨T,s,P,f3,f4,f5,f6⟩:=U.ij n O;refine⟨_,P,?_⟩;show Fl X.K 1 F ([L,.ref T]++[]) H1 Q E0;rw[br];refine⟨G1,[J,.lst o],d',l,T,s,o,K.gh,rfl,rfl,f3,f4,f5,λi c u R =>?_,rfl,eF,λv ws' G2 H2 E2 g2 h2 r2 r3 =>?_⟩
 .match i,u with
  |0,_=>cases R;exact⟨L,rfl,r1⟩|1,u=>exact absurd rfl u|i+2,_=>cases R
 .exact q v G2 H2 (U.called n O P E2 g2 h2 r2) (K.gg.trans E2.gg) r3
def xN(F:List D->Option (D×List D))(f:DF)(g:DL):DF:=λa=>(f a).bind λd=>(g a).bind λb=>(F [d,.lst b]).map λq=>q.1
def RG{F:List D->Option (D×List D)}(h:eL X.prog X.w X.K X.mg X.base x k (Fl X.K 1 F))(hr:fT k X.A)(hg:Gl X x)(ha:PE X e (tP X.K m L))(hl:PE X b (tF X.K m g))(K:autoParam ((x==("__debug__" : aH))=false) Ū)(T:autoParam (ak [e,b] X.env=(Z_,eval e X.env)::ak [b] X.env) Ŭ)(J:autoParam (ak [b] X.env=(Z_,eval b X.env)::ak [] X.env) Ŭ)(C:autoParam ((cP w (ak [b] X.env)).any (·.1)=false) Ŭ):PE X (.Call (.Name x p) [e,b] [] w) (tP X.K m (xN F L g)):=by
 let⟨f,fd,ps,h1,hm,hk,j⟩:=h.ex;refine(mO h1 hr hg hm hk j .nil nI (bZ ha (bZ hl eC J) T) K T C).imp ?_;rintro σ H Q ⟨G,u,d,gh,t,a,q⟩;unfold xN at a;let⟨O,N,a⟩:=aa.1 a;let⟨y,n,a⟩:=aa.1 a;obtain⟨⟨d',B⟩,eF,a⟩:=ai.1 a;cases a;refine⟨G,u,O,gh,t,N,λR G1 H1 P r1=>⟨G1,u,y,P.gh,t.ext P,n,λl vs G2 H2 s S gn E rl =>?_⟩⟩;show Fl X.K 1 F ([R,.ref l]++[]) H2 Q E0;rw[br];refine⟨G2,[O,.lst y],d',B,l,vs,y,s.gh,rfl,rfl,E,rl,gn,λi c I U =>?_,rfl,eF,λv ws' G3 H3 A g3 h3 r2 r3 =>?_⟩
 .match i,I with
  |0,_=>cases U;exact⟨R,rfl,cX.mono s.gg _ r1⟩|1,I=>exact absurd rfl I|i+2,_=>cases U
 .refine q v G3 H3 (P.trans ⟨λb o e=>A.hh b o ?_,s.gg.trans A.gg,A.gh,λb o e =>?_⟩) r3
  .let j:b≠l:=λz=>by rw[z,S]at e;cases e
   rw[jf j];exact s.hh b o e
  .rcases A.fr b o e with z|z
   .exact s.fr b o z
   .by_cases j:b=l
    .subst j;exact .inr S
    .rw[jf j]at z;refine .inr ?_;rcases qq:H1 b with _|o'
     .rfl
     rw[s.hh b o' qq]at z;cases z
end
end L2
namespace L2
open PySem
section
variable {X:Cx}
def vP(i:Nat)(f:autoParam (X.N[i]?=Y x) Ŭ)(c:autoParam (YY X.env.scope x) Ű)(e:autoParam ((x==("__debug__" : aH))=false) Ū)(b:autoParam ((x==("__classdict__" : aH))=false) Ū)(d:autoParam (i∉Z) Ū):PE X (.Name x a) (tP X.K Z (eV i)):=dv (pv i f c e b) d
def vQ(i:Nat)(f:autoParam (X.N[i]?=Y x) Ŭ)(c:autoParam (YY X.env.scope x) Ű)(e:autoParam ((x==("__debug__" : aH))=false) Ū)(b:autoParam ((x==("__classdict__" : aH))=false) Ū)(d:autoParam (i∉Z) Ū):PE X (.Name x a) (tQ X.K Z (eV i)):=dq (vP i f c e b d)
end
end L2
namespace L2
open PySem PySem.Spec PyProof.Rows
abbrev tX(K:aP)(c f:aH):Prop:=∀C,wF K bq c=Y (Y (.ref C))->Mu K C/\qS K C f
def yL{a:List d}(h:a.length=b.length):(a.zip b).length=a.length:=by simp[h]
theorem sW{K:aP}{G:Hp}{f:aH}:∀ {a:List aH}{b:List V},f∉a->(a.zip b).lookup f=M
 |[],b,h=>by simp
 |k::a,[],h=>by simp
 |k::a,v::b,h=>by simp at h;rw[eJ,kQ,beq_eq_false_iff_ne.mpr h.1];exact sW (K:=K) (G:=G) h.2
section
variable {X:Cx}
set_option tactic.hygienic true
def acP{c f:aH}(h:PE X e (tQ X.K Z g))(p:tX X.K c f)(x:autoParam (bS e f X.env (eval e X.env)=eval e X.env) Ŭ):
  PE X (.Attribute e f I) (tP X.K Z (eT c f g)):=(sg h x).imp <|by
 rintro F H Q ⟨G,m,d,z,j,b,k⟩;unfold eT at b;rw[aa]at b;let⟨o,l,b⟩:=b;refine⟨G,m,o,z,j,l,λv E D q w =>?_⟩;cases o<;>simp only[ah]at b<;>try (cases b)
 split at b
 .rename_i i;subst i;let⟨a,C,B,K,rfl,y,n,_,t⟩:=w.adV q.gh;let⟨u,A,r⟩:=LL t b;exact⟨a,C,B,_,u,rfl,y,(p C n).1,(p C n).2,A,k u E D q r⟩
 .cases b
end
section
variable {X:Cx}{s:List Nat}
abbrev W8(a:Int->Int->Int):V->V->Hp->VK->Prop:=λx y H Q=>∃i j,x=.int i/\y=.int j/\Q (.int (a i j)) H
noncomputable def o9(f:DM):DG:=λa=>(f a).map λq =>.nx q.2
def Hh{f:DM}(i:PE X e (tM X.K B Z f))(h:autoParam (dy e M I.line X.env=cQ false) Ŭ):PS X (.Expr e I) (kl X.K B s Z Z (o9 f)):=(mN i h).imp <|by
 rintro D c H ⟨G,g,o,S,a,k⟩;obtain⟨⟨d,b⟩,j,a⟩:=ai.1 a;cases a;exact⟨G,g,d,b,S,j,λv n m l p r=>k c n m l⟩
end
section
variable {P:aZ}{K:aP}
structure jy(P:aZ)(w:cH)(K:aP)(mg:aH->Option aj)(base:cF)(c m:aH)(k:Nat)(sp:Sp):Prop where
 ex:∃C f fd ps,wF K bq c=some (some (.ref C))/\Mu K C/\Vm K C m f/\cy P w K mg base ib k f fd ps sp/\Binds K fd ps []
def jy.mono{m:aH}(h:jy P w K O U c m j a)(d:j<=k):jy P w K O U c m k a:=by
 let⟨C,f,o,b,n,l,i,g,e⟩:=h.ex;exact⟨C,f,o,b,n,l,i,g.mono d,e⟩
structure B8(P:aZ)(w:cH)(K:aP)(mg:aH->Option aj)(base:cF)(c:aH)(k:Nat)(sp:Sp):Prop where
 ex:∃C f fd ps,wF K bq c=some (some (.ref C))/\mg c=some (.ref C)/\Mk K C f/\cy P w K mg base ib k f fd ps sp/\Binds K fd ps []
end
section
variable {X:Cx}
end
section
variable {X:Cx}{m:Pos}{f:DF}
def Ba(b:Gl X x)(a:X.mg x=Y (.str i t))(c:autoParam ((x==("__debug__" : aH))=false) Ū):PE X (.Name x m) (tP X.K Z (eK (.str i))):=
 (KY (v :=.str i) b a ⟨t,rfl⟩ c).imp <|by rintro h H Q ⟨G,j,d,e,g,f,k⟩;cases f;exact k _ G H (.refl e) (dI.mpr rfl)
end
section
variable {X:Cx}{f:Expr}
noncomputable def bM(ks:List iT)(c:List D)(k:iT):Option D:=((ks.zip c).find? λa=>decide (a.1=k)).map (·.2)
theorem qJ{K:aP}:∀ {c:List iT}{f:List D}{a:List V}{d:D},bh K G f a->bM c f k=Y d->∃v,tK (c.zip a) k=Y v/\cX K G d v
 |[],f,a,d,r,h=>by simp[bM]at h
 |x::c,[],a,d,r,h=>by simp[bM]at h
 | x::c,y::f,a,d,r,h=>by
  let⟨v,t,rfl,i,l⟩:=bH.mp r;by_cases g:x=k
  .subst g;have:=by simpa [bM] using h
   subst this;exact⟨v,vp rfl,i⟩
  .let m:bM c f k=Y d:=by simp_all [bM]
   obtain _:=qJ l m
   simp_all [eJ,rQ]
theorem uY{K:aP}:∀ {c:List iT}{d:List D}{a:List V},bh K G d a->bM c d k=M->tK (c.zip a) k=M
 |[],d,a,r,h=>by simp[tK]
 |x::c,[],a,r,h=>by rw[dU.mp r];simp[tK]
 | x::c,y::d,a,r,h=>by
  let⟨v,t,rfl,i,f⟩:=bH.mp r;by_cases e:x=k
  .simp_all [bM]
  .let g:bM c d k=none:=by simpa [bM,e] using h
   rw[eJ,rQ e];exact uY f g
noncomputable def AE:D->Option iT
 |.int i=>Y (lR i)|.str x=>Y (bw x)|_=>M
def pV{K:aP}{v:V}(h:AE d=Y k)(r:iB K G H d v):v=kV k:=by
 cases d<;>simp only[AE]at h<;>try simp_all
 .cases h;exact r.int
 .cases h;exact r.str
def yo(f g e:DF):DF:=λa=>(f a).bind λd=>(g a).bind λk=>(e a).bind λx=>match d with|.fS c h=>(AE k).map λk=>(bM c h k).getD x|_=>M
set_option tactic.hygienic true
def EH{D F:DF}{i:Pos}(hu:X.A.units+1<mY)(ho:PE X o (tQ X.K Z D))(he:PE X e (tQ X.K Z F))(hf:PE X f (tP X.K Z C))(m:M2 X o "get" j e f i):PE X (.Call (.Attribute o "get" j) [e,f] [] i) (tP X.K Z (yo D F C)):=
 (Pq hu ho he hf m).imp <|by
  rintro σ H Q ⟨G,r,d,gh,n,c,q⟩;unfold yo at c;rcases g:D r with _|dd
  .simp_all
  rcases h:F r with _|N
  .simp_all
  rcases p:C r with _|L
  .simp_all
  simp only[g,h,p,ah]at c;cases dd<;>simp only at c<;>try (cases c)
  rename_i b J;rcases I:AE N with _|k
  .simp_all
  rw[I]at c;refine⟨G,r,_,gh,n,g,λv G1 H1 x r1 =>?_⟩;obtain⟨a,vs,rfl,⟨_,O⟩,l,S⟩:=r1.YJ x.gh;refine⟨a,rfl,.inl ⟨_,_,.of O⟩,G1,r,N,x.gh,n.ext x,h,λu G2 H2 t U=>⟨G2,r,L,t.gh,(n.ext x).ext t,p,λz R P K T =>?_⟩⟩;let B:=K.hh _ _ (t.hh _ _ O);refine⟨_,by rw[(pV I U)];exact yH.k B,?_⟩;let E:=(x.trans t).trans K;have c:Y ((bM b J k).getD L)=Y d:=c;rcases y:bM b J k with _|dv
  .grind [uY]
  rw[y]at c;cases c;let⟨w,ew,A⟩:=qJ (bh.mono (t.gg.trans K.gg) J S) y;rw[ew];exact q _ R P E A
end
noncomputable def K2:D->D->Option D
 |.int i,.int j=>Y (.int (g_ i j))|_,_=>M
noncomputable def nJ:D->D->Option D
 |.int i,.int j=>Y (.int (Fj i j))|_,_=>M
noncomputable def tU:D->D->Option D
 |.int i,.int j=>if 0<=j/\j<=1000/\i.natAbs<2 ^ 64 then Y (.int (i*2 ^ j.toNat)) else M
 |_,_=>M
section
variable {X:Cx}{f:Pos}
def VQ:yF X (dt .BitOr) K2:=mj.imp aaA <|by
 rintro x y H Q ⟨G,k,j,d,i,e,b,a,q⟩;unfold K2 at a;split at a<;>try (cases a;done)
 cases a;exact⟨_,_,e.int,b.int,q _ G H (.refl i) (cG.mpr rfl)⟩
def aci:yF X (dt .BitAnd) nJ:=mj.imp Xu <|by
 rintro x y H Q ⟨G,k,j,d,i,e,b,a,q⟩;unfold nJ at a;split at a<;>try (cases a;done)
 cases a;exact⟨_,_,e.int,b.int,q _ G H (.refl i) (cG.mpr rfl)⟩
set_option tactic.hygienic true in
def adE:yF X (dt .LShift) tU:=mj.imp Xp <|by
 rintro x y H Q ⟨G,l,k,d,j,i,e,a,q⟩;unfold tU at a;split at a<;>try (cases a)
 split at a
 .rename_i b;cases a;exact⟨_,_,i.int,e.int,⟨b.1,Ž,b.2.2⟩,q _ G H (.refl j) (cG.mpr rfl)⟩
 .cases a
def afP:R7 X .BitOr (W8 g_):=by
 rintro b s k H x y u v Q I e d ⟨i,j,rfl,rfl,q⟩;let⟨t,rfl⟩:=e;let⟨a,rfl⟩:=d;exact ior_int ⟨.int _,H,I.tok _,⟨_,rfl⟩,q⟩
def KE(i:Nat)(e:Int->Int->Int)(j:DF):DG:=λd=>(eV i d).bind λx=>(j d).bind λy=>match x,y with|.int a,.int b=>Y (.nx (d.set i (Y (.int (e a b)))))|_,_=>M
def aeH{i:Nat}{op:Int->Int->Int}(b:R7 X o (W8 op))(w:X.N.Nodup)(q:X.N[i]?=Y x)(p:Loc X.env.scope x)(t:PE X e (tP X.K Z j))(n:autoParam (i∉Z) Ū)(s:autoParam (X.fn x=Z'\/X.env.scope.names.lookup x=Y .local) ŧ):
  PS X (.AugAssign (.Name x g) o e f) (kl X.K B h Z Z (KE i op j)):=(Xd w q p t b s).imp <|by
 rintro D I H ⟨G,m,J,S,a,k⟩;let⟨c,y,a⟩:=aa.1 a;let⟨d,l,a⟩:=aa.1 a;split at a
 .cases a;let⟨v,A,z⟩:=S.env i _ n (gR y);cases cG.mp z;refine⟨_,A,G,m,_,S.gh,S.iy,l,λu F C E r =>?_⟩;cases cG.mp r;exact⟨_,_,rfl,rfl,k _ F C ((S.ext E).vz n (cG.mpr rfl))⟩
 .cases a
end
section
variable {K:aP}{f:List Nat}
def SR.tree{s:Sk}(S:SR K B f G H y l)(c:i∈f)(e:l[i]?=Y (Y (.obj s t))):∃a T,y[i]?=Y (Y (.ref a))/\dw K G H s t (.ref a) T/\T.Nodup/\(∀b∈T,G b=M/\B.2 b=M)/\∃F,tW K B f G H y l F/\F i=T:=by
 let⟨F,W⟩:=S.ow;let⟨a,g,d⟩:=W.it i _ c e;let⟨n,k⟩:=W.ok i _ c e;exact⟨a,F i,g,d,n,k,F,W,rfl⟩
noncomputable def gf(r:Nat)(l:bP):bP:=l.map λo=>match o with|some (.kh k p)=>if k=r then M else Y (.kh k p)|o=>o
def dS{r i:Nat}(h:(gf r l)[i]?=Y (Y d)):l[i]?=Y (Y d)/\∀p,d ≠ .kh r p:=by
 unfold gf at h;rw[aT]at h;let⟨o,e,h⟩:=ai.1 h;rw[e];cases o<;>grind
def sR{r i:Nat}(h:l[i]?=Y (Y d))(a:∀p,d ≠ .kh r p):(gf r l)[i]?=Y (Y d):=by
 unfold gf;rw[aT,h];cases d<;>simp_all
def SR.WI{r:Nat}(S:SR K B f G H y l):SR K B f G H y (gf r l):=by
 refine⟨S.gh,S.g0,S.h0,S.fr,λi d a e=>S.env i d a (dS e).1,?_,by rw[S.len];simp[L2.gf],S.pin,λj k p s o e =>?_⟩
 .let⟨F,W⟩:=S.ow;exact⟨F,λi d a e=>W.it i d a (dS e).1,λi d a e=>W.ok i d a (dS e).1,λi j d c a n C A=>W.ap i j d c a n (dS C).1 (dS A).1⟩
 .let⟨v,x,m,g,h,w,b,u,t⟩:=S.kh j k p s o (dS e).1;exact⟨v,x,m,g,h,w,b,sR u (λq z=>by cases z),t⟩
def SR.EL{s:Sk}{t':D}{m:List aw}{F:Nat->List aw}(S:SR K B f G H y l)(W:tW K B f G H y l F)(J:F i=T)(g:i∈f)(I:l[i]?=Y (Y (.obj s t)))(u:y[i]?=Y (Y (.ref a)))(E:gc G (jS H T) G' H')(v:dw K G' H' n t' (.ref a) m)(x:m.Nodup)(w:∀b∈m,G' b=M/\(b∈T\/H b=M)):SR K B f G' H' y ((gf i l).set i (Y (.obj n t'))):=by
 have:=(S.WI (r:=i)).chg (i:=i) (a:=a) (d' :=.obj n t') (F0:=T) (S':=m) (⟨λi d g e=>W.it i d g (dS e).1,λi d g e=>W.ok i d g (dS e).1,λi j d c g C A L=>W.ap i j d c g C (dS A).1 (dS L).1⟩) g (λb k=>⟨Ż,_,(sR (r:=i) I λq z=>by cases z)⟩) E.gg E.gh (λb o e=>by
   rcases E.fr b o e with z|z
   .exact .inl z
   .by_cases k:b∈T
    .exact .inr (.inr k)
    .rw[dX k]at z;exact .inr (.inl z))
  (λb o k e=>E.hh b o (by simp_all [dX])) v x w (λb h=>by have:=(S.pin i b h).2;simp_all) (λr p z=>by cases z)
  (λj p q q q e=>absurd rfl ((dS e).2 p))
 simp_all [jP]
def SR.W6{i:Nat}{a:aw}{s:Sk}{F:Nat->List aw}(S:SR K B f G H y l)(W:tW K B f G H y l F)(O:F i=T)(N:i∈f)(v:l[i]?=Y (Y (.obj s t)))(m:y[i]?=Y (Y (.ref a)))(E:gc G (jS H T) G' H')(I:dw K G' H' s d (.ref a) k)(L:k.Nodup)(J:∀b∈k,G' b=M/\(b∈T\/H b=M))(Z:∀(q:B7) u,(∀g∈GY q,g∈N5)->gZ H q (.ref a)=Y u->gZ H' q (.ref a)=Y u):SR K B f G' H' y (l.set i (Y (.obj s d))):=by
 have:=S.chg (d' :=.obj s d) W N (λb c=>⟨Ż,_,v⟩) E.gg E.gh λb o e=>by
   rcases E.fr b o e with z|z
   .exact .inl z
   .by_cases c:b∈T
    .exact .inr (.inr c)
    .rw[dX c]at z;exact .inr (.inl z)
  (λb o c e=>E.hh b o (by simp_all [dX])) I L J λb h=>by have:=(S.pin i b h).2;simp_all λr p z=>by cases z
  λj p Q P r e=>by
   let⟨g1,g0,s0,t0,C,w,n,A,x,g4,X,U,R⟩:=S.kh j i p Q P e
   simp_all
 simp_all [jP]
noncomputable def unO:Option D->Option D
 |some (.obj _ t)=>Y t|some (.lst d)=>Y (.lst d)|some (.ins c a b)=>Y (.ins c a b)|some (.fS a b)=>Y (.fS a b)|_=>M
def OG(h:unO o=Y d):(∃s t,o=Y (.obj s t)/\d=t)\/(o=Y d/\BW d=Z'):=by
 unfold unO at h;split at h
 .simp_all
 .cases h;exact .inr ⟨rfl,rfl⟩
 .cases h;exact .inr ⟨rfl,rfl⟩
 .cases h;exact .inr ⟨rfl,rfl⟩
 .cases h
def unA(l:bP):Option D->Option D
 |some (.kh r p)=>match l[r]? with|some (Y (.obj _ t))=>sC p t|_=>M
 |_=>M
def res(a b:List Nat)(l:bP):bP:=l.mapIdx λi o=>if i∈a then unO o else if i∈b then unA l o else o
theorem ki.trees(n:ki K f G H y l):∀(x:List Nat),∃T:List aw,(∀b∈T,G b=M/\IT H b)/\∀i∈x,i∈f->∀s t,l[i]?=Y (Y (.obj s t))->∃v,y[i]?=Y (Y v)/\(cX K G t v\/∃S,dw K G H s t v S/\∀b∈S,b∈T)
 |[]=>⟨[],λb g=>(by cases g),λi d=>by cases d⟩
 | k::x=>by
  let⟨T,w,u⟩:=ki.trees n x;by_cases p:k∈f/\∃s t,l[k]?=Y (Y (.obj s t))
  .let⟨p,s,t,e⟩:=p;let⟨v,C,B⟩:=n.get k _ e;rw[if_pos p]at B;rcases B with r|⟨a,o,rfl,N,S,A,J⟩
   .refine⟨T,w,λi d m j h c =>?_⟩;rcases aq.mp d with z|z
    .subst z;rw[e]at c;cases c;exact⟨v,C,.inl (qw.mp r)⟩
    simp_all
   .refine⟨S++T,λb g =>?_,λi d m j h c =>?_⟩
    .rcases aA.mp g with q|q
     .exact⟨J b q,A.here b q⟩
     .exact w b q
    .rcases aq.mp d with z|z
     .subst z;rw[e]at c;cases c;exact⟨_,C,.inr ⟨S,A,λb g=>aW _ g⟩⟩
     .let⟨v,I,F⟩:=u i z m j h c;refine⟨v,I,?_⟩;rcases F with r|⟨L,E,D⟩
      .exact .inl r
      .exact .inr ⟨L,E,λb g=>aQ _ (D b g)⟩
  .refine⟨T,w,λi d m j h c =>?_⟩;rcases aq.mp d with z|z<;>simp_all
theorem ki.cells(C:bz G H)(env:ki K f G H y l):∀(t:List Nat),∃T:List aw,(∀b∈T,G b=M/\IT H b)/\∀i∈t,i∈f->∀d,l[i]?=Y (Y d)->BW d=Z'->∃v,y[i]?=Y (Y v)/\(cX K G d v\/∃a o,v=.ref a/\a∈T/\H a=Y o/\kj K G d o)
 |[]=>⟨[],λb h=>(by cases h),λi x=>by cases x⟩
 | k::t=>by
  let⟨T,s,R⟩:=ki.cells C env t;have g:∀u:List aw,(∀b∈T,b∈u)->(∀d,l[k]?=Y (Y d)->k∈f->BW d=Z'->∃v,y[k]?=Y (Y v)/\(cX K G d v\/∃a o,v=.ref a/\a∈u/\H a=Y o/\kj K G d o)) ->
    ∀i∈k::t,i∈f->∀d,l[i]?=Y (Y d)->BW d=Z'->∃v,y[i]?=Y (Y v)/\(cX K G d v\/∃a o,v=.ref a/\a∈u/\H a=Y o/\kj K G d o):=λu w n i x p d e m=>by
   rcases aq.mp x with z|z
   .subst z;exact n d e p m
   .let⟨v,O,N⟩:=R i z p d e m;refine⟨v,O,?_⟩;rcases N with r|⟨a,o,J,I,F⟩
    .exact .inl r
    .exact .inr ⟨a,o,J,w a I,F⟩
  by_cases n:k∈f/\∃d,l[k]?=Y (Y d)/\BW d=Z'
  .let⟨n,d,e,m⟩:=n;let⟨v,B,D⟩:=env.get k _ e;rw[if_pos n]at D;rcases D with r|⟨a,o,rfl,A,P⟩
   .exact⟨T,s,g T (λb h=>h) λE j E E=>by rw[e]at j;cases j;exact⟨v,B,.inl r⟩⟩
   .have c:kj K G d o:=by cases d<;>first|exact P|cases m
    cases q:G a with
    |some L=>have:=C a L q;rw[A]at this;cases this;exact⟨T,s,g T (λb h=>h) λE j E E=>by rw[e]at j;cases j;exact⟨_,B,.inl (c.rep q)⟩⟩
    |none=>
     refine⟨a::T,λb h =>?_,g (a::T) (λb h=>aB _ h) λE j E E=>by rw[e]at j;cases j;exact⟨_,B,.inr ⟨a,o,rfl,aM,A,c⟩⟩⟩;rcases aq.mp h with z|z
     .subst z;refine⟨q,o,A,λQ z =>?_⟩;subst z;cases d with
      |lst=>let⟨_,z,_⟩:=c;cases z
      |ins=>let⟨_,_,_,z,_⟩:=c;cases z
      |fS=>obtain⟨_,⟨_,z⟩,_⟩:=c;cases z
      |_=>cases m
     .exact s b z
  .exact⟨T,s,g T (λb h=>h) λd e p m=>absurd ⟨p,d,e,m⟩ n⟩
def ij(f a b c:List Nat):Bool:=(a.all λi=>f.contains i && !a.contains (Jk i) && !b.contains i && !c.contains i)&&(f.all λi=>a.contains i||b.contains i||c.contains i)&&(c.all λj=>f.contains j&&f.contains (Jk j) && !b.contains j)
def TN{f:List Nat}(h:ij f e g k=Z'):(∀i∈e,i∈f/\Jk i∉e/\i∉g/\i∉k)/\(∀i∈f,i∈e\/i∈g\/i∈k)/\(∀j∈k,j∈f/\Jk j∈f/\j∉g):=by
 simp only[ij,aK,iY,List.contains_eq_mem,jM,Bool.not_eq_true',decide_eq_true_eq,decide_eq_false_iff_not]at h
 grind
set_option tactic.hygienic true
def ki.ZY(s:bz G H)(m:ki K f G H y l)(Q:ij f C dp al=Z'):∃T:List aw,(∀b∈T,G b=M/\IT H b)/\ki K C (k_ G H T) H y (res dp al l):=by
 let⟨o1,o2,o3⟩:=TN Q;let⟨T1,h11,h21⟩:=m.trees f;let⟨T2,h12,X⟩:=m.cells s f;generalize U:T1++T2=T;have h1:∀b∈T,G b=M/\IT H b:=λb I=>by
  rw[<- U]at I;rcases aA.mp I with z|z
  .exact h11 b z
  .exact h12 b z
 have h2:∀i∈f,i∈f->∀s t,l[i]?=Y _->∃v,y[i]?=Y (Y v)/\(cX K G t v\/∃S,dw K G H s t v S/\∀b∈S,b∈T):=λi x Q s t e=>by
  let⟨v,k,c⟩:=h21 i x Q s t e;refine⟨v,k,?_⟩;rcases c with r|⟨S,J,W⟩
  .exact .inl r
  .exact .inr ⟨S,J,λb I=>by rw[<- U];exact aW _ (W b I)⟩
 have n:=λb I=>(h1 b I).1
 let g:bz G (k_ G H T):=pQ n;have fz:∀(i:Nat) (E:Sk) (t:D),l[i]?=Y _->∃v,y[i]?=Y (Y v)/\cX K (k_ G H T) t v:=λi E t e=>by
  by_cases x:i∈f
  .let⟨v,k,c⟩:=h2 i x x E t e;refine⟨v,k,?_⟩;rcases c with r|⟨S,J,W⟩
   .exact cX.mono g t r
   .exact dw.frozen n W J
  .let⟨v,k,c⟩:=m.get i _ e;rw[if_neg x]at c;exact⟨v,k,cX.mono g t (qw.mp c)⟩
 refine⟨T,h1,by rw[m.len];simp[res],λi d e =>?_,λj r p hj hm e=>absurd hm (o1 j hj).2.1⟩;unfold res at e;rw[List.getElem?_mapIdx]at e;rcases L:l[i]? with _|o
 .rw[L]at e;cases e
 rw[L]at e;simp at e;by_cases R:i∈dp
 .rw[if_pos R]at e;rcases OG e with⟨E,t,rfl,rfl⟩|⟨rfl,hc⟩
  .let⟨v,k,c⟩:=fz i E _ L;exact⟨v,k,by split;exact .inl c;exact c⟩
  .by_cases x:i∈f
   .let⟨v,k,c⟩:=X i x x d L hc;have F:cX K (k_ G H T) d v:=by
     rcases c with r|⟨a,o,rfl,A,h,q4⟩
     .exact cX.mono g d r
     .exact(q4.mono g).rep (by rw[qy (by grind)];exact h)
    exact⟨v,k,by split;exact .inl F;exact F⟩
   .let⟨v,k,c⟩:=m.get i _ L;rw[if_neg x]at c;have F:=cX.mono g d c;exact⟨v,k,by split;exact .inl F;exact F⟩
 .rw[if_neg R]at e;by_cases O:i∈al
  .rw[if_pos O]at e;unfold unA at e;split at e
   .rename_i r p;split at e
    .rename_i E t er;let⟨g1,g0,s1,t1,s',v,v',g2,g3,g4,g5,g6,g7⟩:=m.kh i r p (o3 i O).1 (o3 i O).2.1 L;rw[er]at g2;cases g2;let⟨w,k,c⟩:=h2 r g1 g1 E t er;rw[g3]at k;cases k;have F:cX K (k_ G H T) d v':=by
      rcases c with q|⟨S,J,W⟩
      .let⟨u,P,f4⟩:=Aa s q e;rw[g5]at P;cases P;exact cX.mono g d f4
      .let⟨u,T1,U1,P,f4,f5,_⟩:=J.focus g6 e;rw[g5]at P;cases P;exact dw.frozen n (λb I=>W b (f5.symm.subset (aW _ I))) f4
     exact⟨v',g4,by split;exact .inl F;exact F⟩
    .cases e
   .cases e
  .rw[if_neg O]at e;subst e;let⟨v,k,c⟩:=m.get i d L;refine⟨v,k,?_⟩;by_cases x:i∈C
   .rw[if_pos x];rw[if_pos (o1 i x).1]at c;cases d with
    |obj E t=>let⟨u,J,W⟩:=fz i E t L;rw[k]at J;cases J;exact .inl (qw.mpr W)
    |kh r p=>
     rcases c with q|⟨a,o,rfl,_⟩
     .exact .inl (yR.mpr (yR.mp q))
     .exact .inl (yR.mpr ⟨a,rfl⟩)
    |lst=>rcases c with q|⟨a,o,B,A,h⟩;exact .inl (cX.mono g _ q);exact .inr ⟨a,o,B,A,kj.mono g (d :=.lst _) h⟩
    |ins=>rcases c with q|⟨a,o,B,A,h⟩;exact .inl (cX.mono g _ q);exact .inr ⟨a,o,B,A,kj.mono g (d :=.ins _ _ _) h⟩
    |fS=>rcases c with q|⟨a,o,B,A,h⟩;exact .inl (cX.mono g _ q);exact .inr ⟨a,o,B,A,kj.mono g (d :=.fS _ _) h⟩
    |_=>rcases c with q|⟨a,o,B,A,h⟩;exact .inl (cX.mono g _ q);exact h.elim
   .rw[if_neg x];by_cases N:i∈f
    .rcases o2 i N with z|z|z
     .exact absurd z x
     .exact absurd z R
     .exact absurd z O
    .rw[if_neg N]at c;exact cX.mono g d c
end
section
variable {X:Cx}{m:Pos}
def Ds(A I:List Nat)(f:DF):DF:=λρ=>(f (res A I ρ)).bind λd=>if Ad d=Z' then Y d else M
set_option tactic.hygienic true in
def RB{f:DF}(O A I:List Nat)(h:PE X e (tP X.K O f))(s:autoParam (ij Z O A I=true) Ū):PE X e (tP X.K Z (Ds A I f)):=h.imp <|by
 rintro J H Q ⟨G,ρ,d,j,n,a,k⟩;let⟨c,t,a⟩:=aa.1 a;split at a
 .rename_i q;cases a;let⟨T,o,g⟩:=n.ZY j s;refine⟨_,_,d,pR j,g,t,λv N L E r =>?_⟩;let⟨u,p⟩:=G_ j (λb i=>(o b i).1) (λb i=>(o b i).2) E;exact k v _ L u (FY p q r)
 .cases a
def SS(A I:List Nat)(f:DT):DT:=λρ=>f (res A I ρ)
def Wj{f:DT}(O A I:List Nat)(h:PT X e (qW X.K O f))(n:autoParam (ij Z O A I=true) Ū):PT X e (qW X.K Z (SS A I f)):=h.imp <|by
 rintro J H Q ⟨G,ρ,d,g,i,o,k⟩;let⟨T,j,a⟩:=i.ZY g n;refine⟨_,_,d,pR g,a,o,λN L E =>?_⟩;let⟨p,q⟩:=G_ g (λb c=>(j b c).1) (λb c=>(j b c).2) E;exact k _ L p
noncomputable def GJ:Sk->Bool
 |.lf=>Z'|_=>Z_
def y9{s:Sk}(h:GJ s=Z'):s=.lf:=by cases s<;>first|rfl|cases h
def yn(i:Nat)(c f:aH):DF:=λρ=>(eV i ρ).bind λd=>match d with
 |.obj (.fs g e) (.ins a b ds)=>if (g=c/\a=c)/\GJ (eN e f)=Z' then (DI f b).bind λn=>ds[n]? else M
 |_=>M
set_option tactic.hygienic true
def acO{i:Nat}{c f:aH}(h:PE X (.Name x p) (i5 i))(j:tX X.K c f)(hi:autoParam (i∈Z) Ū)(hb:autoParam (bS (.Name x p) f X.env (eval (.Name x p) X.env)=eval (.Name x p) X.env) Ŭ):PE X (.Attribute (.Name x p) f l) (tP X.K Z (yn i c f)):=
 (sg h hb).imp <|by
  rintro J H Q ⟨G,ρ,d,q,y,e,k⟩;unfold yn at e;rw[aa]at e;let⟨o,z,e⟩:=e;split at e
  .rename_i c' fk c'' E ds;split at e
   .rename_i U;obtain⟨⟨rfl,rfl⟩,hl⟩:=U;rcases g:DI f E with _|m
    .simp_all
    rw[g]at e;let⟨v,K,F⟩:=y.get i _ (gR z);rw[if_pos hi]at F;rcases F with r|⟨a,o,rfl,e3,S,e4,e5⟩
    .let⟨a,C,B,w,rfl,n,ha,b,R⟩:=mL.mp (qw.mp r);let⟨u,eu,P⟩:=R.get e;exact⟨_,K,a,C,B,_,u,rfl,q _ _ ha,(j C n).1,(j C n).2,by rw[lL g];exact eu,k u G H (.refl q) P⟩
    .cases e4 with
     |@ins _ _ _ _ _ C B w S n ea b t=>
      let s:(E.map (eN fk))[m]?=Y .lf:=by rw[aT,qA g,<- y9 hl];rfl
      let⟨D,T1,U1,f1,T,_⟩:=t.at s e;cases T with
      |leaf r=>exact⟨_,K,a,C,B,_,D,rfl,ea,(j C n).1,(j C n).2,by rw[lL g];exact f1,k D G H (.refl q) r⟩
   .cases e
  .cases e
end
def Oo(b:Bool)(j:Nat)(ρ:bP):Option (Nat×B7):=match b,eV j ρ with
 |false,Y (.obj _ _)=>Y (j,[])|true,Y (.kh r p)=>Y (r,p)|_,_=>M
def DU(r:Nat)(ρ:bP):Option (Sk×D):=match eV r ρ with|some (.obj s t)=>Y (s,t)|_=>M
set_option tactic.hygienic true in
theorem nc{s:Sk}(h:DU r ρ=Y (s,t)):ρ[r]?=Y (Y (.obj s t)):=by
 unfold DU at h;split at h
 .rename_i e;cases h;exact gR e
 .cases h
section
variable {K:aP}
set_option tactic.hygienic true in
def SR.Oo(S:SR K B Z G H J ρ)(h:Oo b j ρ=Y (r,p))(d:j∈Z)(u:b=Z'->Jk j∈Z):r∈Z/\∃s t a f,ρ[r]?=Y (Y (.obj s t))/\J[r]?=Y (Y (.ref a))/\J[j]?=Y (Y f)/\gZ H p (.ref a)=Y f:=by
 unfold L2.Oo at h;split at h
 .rename_i e;cases h;let e:=gR e;let⟨a,T,c,_⟩:=S.tree d e;exact⟨d,_,_,a,_,e,c,c,rfl⟩
 .rename_i e;cases h;let⟨k,C,q,o,y,w,n,i,g,x,v,z⟩:=S.kh j r p d (u rfl) (gR e);let⟨a,T,c,_⟩:=S.tree k i;rw[c]at g;cases g;exact⟨k,q,o,a,n,i,c,x,v⟩
 .cases h
def Az(d:x∈T):bz (jS H T) (dA H x o):=λb u e=>by
 grind [mQ,dX,aR]
def SR.Yu{s:Sk}{f:aH}{l:List D}{d:D}{v:V}(S:SR K B Z G H J ρ)(Q:r∈Z)(R:ρ[r]?=Y (Y (.obj s t)))(w:rF p s=Y (.fs c fk))(ep:sC p t=Y (.ins c h l))(hf:GJ (eN fk f)=Z')(ha:f∉N5)(rv:cX K G d v):
  ∃a x C k i,J[r]?=Y (Y (.ref a))/\gZ H p (.ref a)=Y (.ref x)/\wF K bq c=Y (Y (.ref C))/\H x=Y (.ins C k (h.zip i))/\h.length=i.length /\
   SR K B Z G (dA H x (.ins C k (nF f v (h.zip i)))) J (ρ.set r (Y (.obj s (pI (.ins c (oj f d h l).1 (oj f d h l).2) p t)))):=by
 let⟨a,T,e1,o1,nd,P,F,W,hF⟩:=S.tree Q R;let⟨x,C,k,i,h1,X,h3,U,h5,h6,T',o2,u,n⟩:=o1.put nd w ep (bz.refl G) (λm m m e=>e) (by rw[y9 hf];exact Ÿ) ż λb j=>by cases j
 refine⟨a,x,C,k,i,e1,h1,h3,U,h6,S.W6 W hF Q R e1 ⟨Az X,bz.refl _,λb o e =>?_,λb o e =>.inl e⟩ o2 u (λb j =>?_) λq v' hq hv =>?_⟩
 .rw[aR (λz=>by simp_all)];exact S.gh b o e
 .simp_all
 .refine vZ U a_ (λb j o e=>by rw[aR j];exact e) (λg hg =>?_) hv;let y:g≠f:=λz=>ha (z ▸ hq g hg)
  rw[so,if_neg y]
def SR.J9{s:Sk}{X:D}(S:SR K B Z G H J ρ)(hr:r∈Z)(hd:ρ[r]?=Y (Y (.obj s t)))(w:rF p s=Y u)(ep:sC p t=Y X):
  ∃a x i,J[r]?=Y (Y (.ref a))/\gZ H p (.ref a)=Y x/\dw K G H u X x i/\i.Nodup/\(∀b∈i,G b=M) /\
   ∀(g:D) (f:List aw) (N L:Hp),gc G (jS H i) N L->dw K N L u g x f->f.Nodup->(∀b∈f,N b=M/\(b∈i\/H b=M))->SR K B Z N L J ((gf r ρ).set r (Y (.obj s (pI g p t)))):=by
 let⟨a,T,e1,C,nd,nf,F,W,hF⟩:=S.tree hr hd;let⟨x,i,U,h1,o2,v,k1⟩:=C.focus w ep;let k:=v.nodup_iff.mp nd;rw[gm]at k;let⟨n1,n2,n3⟩:=k;have h:∀b∈i,b∈T:=λb d=>v.symm.subset (aW _ d)
 have n:∀b∈U,b∈T:=λb d=>v.symm.subset (aQ _ d)
 let R:∀b∈U,b∉i:=λb d Q=>n3 b Q b d rfl
 refine⟨a,x,i,e1,h1,o2,n1,λb d=>(nf b (h b d)).1,λg f N L E nw l j =>?_⟩;let⟨T',o3,p3⟩:=k1 N L g f E.gg (λb d o e=>E.hh b o (by rw[dX (R b d)];exact e)) nw;refine S.EL W hF hr hd e1 ⟨λb o e =>?_,E.gg,E.gh,λb o e =>?_⟩ o3 ?_ λb d =>?_
 .by_cases d:b∈T
  .rw[mQ d]at e;cases e
  .rw[dX d]at e;exact E.hh b o (by rw[dX (λz=>d (h b z))];exact e)
 .rcases E.fr b o e with z|z
  .exact .inl z
  .refine .inr ?_;by_cases d:b∈T
   .rw[mQ d]
   .rw[dX d];rw[dX (λz=>d (h b z))]at z;exact z
 .rw[p3.nodup_iff,gm];refine⟨l,n2,λb d c hc z =>?_⟩;subst z;rcases(j b d).2 with z|z
  .exact R b hc z
  .let⟨o,P,_⟩:=C.here b (n b hc);rw[P]at z;cases z
 .rcases aA.mp (p3.subset d) with q|q
  .refine⟨(j b q).1,?_⟩;rcases(j b q).2 with z|z<;>simp_all
  .refine⟨?_,.inl (n b q)⟩;rcases z:N b with _|o
   .rfl
   rcases E.fr b o z with y|y
   .rw[(nf b (n b q)).1]at y;cases y
   .let⟨o,P,_⟩:=C.here b (n b q);rw[dX (R b q),P]at y;cases y
end
mutual
def Sk.BE:Sk->Sk->Bool
 |.lf,.lf=>Z'|.li s,.li t=>Sk.BE s t|.fs c k,.fs d l=>decide (c=d)&&Sk.NH k l|.di,.di=>Z'|_,_=>Z_
def Sk.NH:List (aH×Sk)->List (aH×Sk)->Bool
 |[],[]=>Z'|(c,s)::k,(d,t)::l=>decide (c=d)&&(Sk.BE s t&&Sk.NH k l)|_,_=>Z_
end
mutual
theorem Sk.uW:∀ {s t:Sk},Sk.BE s t=Z'->s=t
 |.lf,.lf,_=>rfl|.di,.di,_=>rfl|.li s,.li t,h=>by rw[Sk.uW (s:=s) (by simpa only [Sk.BE] using h)]
 |.fs c k,.fs d l,h=>by simp only[Sk.BE,aK,decide_eq_true_eq]at h;rw[h.1,Sk.LR h.2]
 |.lf,.li _,h=>by simp[Sk.BE]at h
 |.lf,.fs _ _,h=>by simp[Sk.BE]at h
 |.lf,.di,h=>by simp[Sk.BE]at h
 |.li _,.lf,h=>by simp[Sk.BE]at h
 |.li _,.fs _ _,h=>by simp[Sk.BE]at h
 |.li _,.di,h=>by simp[Sk.BE]at h
 |.fs _ _,.lf,h=>by simp[Sk.BE]at h
 |.fs _ _,.li _,h=>by simp[Sk.BE]at h
 |.fs _ _,.di,h=>by simp[Sk.BE]at h
 |.di,.lf,h=>by simp[Sk.BE]at h
 |.di,.li _,h=>by simp[Sk.BE]at h
 |.di,.fs _ _,h=>by simp[Sk.BE]at h
theorem Sk.LR:∀ {k l:List (aH×Sk)},Sk.NH k l=Z'->k=l
 |[],[],_=>rfl|(c,s)::k,(d,t)::l,h=>by simp only[Sk.NH,aK,decide_eq_true_eq]at h;rw[h.1,Sk.uW h.2.1,Sk.LR h.2.2]
 |[],_::_,h=>by simp[Sk.NH]at h
 |_::_,[],h=>by simp[Sk.NH]at h
end
def GL(c:aH)(s:Sk)(t:D)(p:B7):Option (List (aH×Sk)×List aH×List D):=match rF p s,sC p t with
 |some (.fs f d),Y (.ins a b e)=>if f=c/\a=c then Y (d,b,e) else M
 |_,_=>M
def xH{s:Sk}(h:GL c s t p=Y (b,a,d)):rF p s=Y (.fs c b)/\sC p t=Y (.ins c a d):=by
 unfold GL at h;split at h<;>grind
section
variable {X:Cx}
def lV(b:Bool)(j:Nat)(c f:aH)(h:DF):DG:=λa=>(h a).bind λd=>(Oo b j a).bind λq=>(DU q.1 a).bind λe=>(GL c e.1 e.2 q.2).bind λz=>
 if GJ (eN z.1 f)=Z'/\z.2.1.length<999 then Y (.nx (a.set q.1 (Y (.obj e.1 (pI (.ins c (oj f d z.2.1 z.2.2).1 (oj f d z.2.1 z.2.2).2) q.2 e.2))))) else M
set_option tactic.hygienic true in
def acK{b:Bool}{c f:aH}(h:PE X (.Name x p) (i5 j))(he:PE X e (tP X.K Z y))(w:tX X.K c f)(hj:autoParam (j∈Z) Ū)(hb:autoParam (b=Z'->Jk j∈Z) Ū)(ha:autoParam (f∉N5) Ū)(hs:autoParam (dy e (Y (.Attribute (.Name x p) f A)) g.line X.env=cQ false) Ŭ):PS X (.Assign [.Attribute (.Name x p) f A] e g) (kl X.K B I Z Z (lV b j c f y)):=(IK h he hs).imp <|by
 rintro D σ H ⟨G,q,o,S,i,k⟩;let⟨d,ef,i⟩:=aa.1 i;rcases l:Oo b j q with _|⟨r,T⟩
 .simp[l]at i
 rcases n:DU r q with _|⟨s,t⟩
 .simp[l,n]at i
 rcases u:GL c s t T with _|⟨fk,ks,ds⟩
 .simp[l,n,u]at i
 simp only[l,n,u,ah]at i;split at i
 .rename_i hz;cases i;let⟨i1,U⟩:=xH u;refine⟨G,q,d,S.gh,S.iy,ef,λv G' H' E R =>?_⟩;let P:=S.ext E;let⟨hr,s',t',a,v',J,e2,e3,e4⟩:=P.Oo l hj hb;let m:=nc n;rw[m]at J;let⟨a',Q,C,dx,vs,K,F,z,f4,f5,f6⟩:=P.Yu hr m i1 U hz.1 ha R;rw[e2]at K;cases K;rw[e4]at F;cases F;refine⟨_,e3,Q,C,dx,_,rfl,f4,(w C z).1,(w C z).2,?_,k _ G' _ f6⟩;rw[yL f5];lia
 .cases i
def pO(b:Bool)(j:Nat)(c f:aH)(h:Int->Int->Int)(i:DF):DG:=λa=>(i a).bind λd=>(Oo b j a).bind λq=>(DU q.1 a).bind λe=>(GL c e.1 e.2 q.2).bind λz=>match (z.2.1.zip z.2.2).lookup f,d with
 |some (.int m),.int n=>if GJ (eN z.1 f)=Z'/\z.2.1.length<999 then Y (.nx (a.set q.1 (Y (.obj e.1 (pI (.ins c (oj f (.int (h m n)) z.2.1 z.2.2).1 (oj f (.int (h m n)) z.2.1 z.2.2).2) q.2 e.2))))) else M
 |_,_=>M
theorem xZ{f:aH}:∀ {ks:List aH}{ds:List D}{u:D},(ks.zip ds).lookup f=Y u->∃m,DI f ks=Y m/\ds[m]?=Y u
 |[],a,u,h=>by simp at h
 |k::ks,[],u,h=>by simp at h
 | k::ks,v::a,u,h=>by
  simp only[eJ,kQ]at h;cases e:f==k with
  |true=>rw[e]at h;cases h;exact⟨0,by simp[DI,e],rfl⟩
  |false=>
   rw[e]at h;let⟨m,c,b⟩:=xZ h
   simp_all [DI]
theorem SR.aez{K:aP}{o:bP}{s:Sk}{f:aH}{v:List D}(S:SR K B Z G H k o)(Q:r∈Z)(hd:o[r]?=Y (Y (.obj s t)))(J:rF q s=Y (.fs c h))(ep:sC q t=Y (.ins c b v))(X:GJ (eN h f)=Z')(R:(b.zip v).lookup f=Y d):
  ∃a x C j e u,k[r]?=Y (Y (.ref a))/\gZ H q (.ref a)=Y (.ref x)/\wF K bq c=Y (Y (.ref C))/\H x=Y (.ins C j (b.zip e))/\(b.zip e).lookup f=Y u/\cX K G d u:=by
 let⟨a,T,e1,P,_⟩:=S.tree Q hd;let⟨x,T1,U,h1,g,_⟩:=P.focus J ep;cases g with
 |@ins _ _ _ _ w C j e S0 n ex l z=>
  let⟨m,p,e2⟩:=xZ R;let i:(b.map (eN h))[m]?=Y .lf:=by rw[aT,qA p,<- y9 X];rfl
  let⟨y,T1,U1,f1,E,_⟩:=z.at i e2;cases E with
  |leaf r=>exact⟨a,w,C,j,e,y,e1,h1,n,ex,by rw[lL p];exact f1,r⟩
set_option tactic.hygienic true in
def YF{b:Bool}{c f:aH}{op:Int->Int->Int}{o:Operator}(y:R7 X o (W8 op))(h:PE X (.Name x p) (i5 j))(he:PE X e (tP X.K Z fe))(hc:tX X.K c f)(hj:autoParam (j∈Z) Ū)(hb:autoParam (b=Z'->Jk j∈Z) Ū)(ha:autoParam (f∉N5) Ū):
  PS X (.AugAssign (.Attribute (.Name x p) f A) o e g) (kl X.K B I Z Z (pO b j c f op fe)):=(MX h he y).imp <|by
 rintro D σ H ⟨G,w,o,S,i,k⟩;let⟨d,ef,i⟩:=aa.1 i;rcases q:Oo b j w with _|⟨r,pt⟩
 .simp[q]at i
 rcases u:DU r w with _|⟨s,t⟩
 .simp[q,u]at i
 rcases K:GL c s t pt with _|⟨fk,ks,ds⟩
 .simp[q,u,K]at i
 simp only[q,u,K,ah]at i;split at i
 .rename_i m n z;split at i
  .rename_i T;cases i;let⟨R,Q⟩:=xH K;let⟨U,s',t',a,v',e1,e2,e3,e4⟩:=S.Oo q hj hb;let l:=nc u;let⟨a1,x1,P,J,vs1,u1,g1,g2,F,g4,g5,g6⟩:=S.aez U l R Q T.1 z;rw[e2]at g1;cases g1;rw[e4]at g2;cases g2;cases cG.mp g6;refine⟨_,e3,x1,P,J,_,_,rfl,g4,(hc P F).1,(hc P F).2,g5,G,w,_,S.gh,S.iy,ef,λv G' H' E r =>?_⟩;cases cG.mp r;let⟨a',x',C,dx,vs,f1,f2,f3,f4,f5,f6⟩:=(S.ext E).Yu U l R Q T.1 ha (cG.mpr rfl);rw[e2]at f1;cases f1;rw[lu E.hh e4]at f2;cases f2;rw[F]at f3;cases f3;refine⟨_,_,rfl,rfl,dx,_,f4,?_,k _ G' _ f6⟩;rw[yL f5];lia
  .cases i
 .cases i
inductive Zp (K:aP) (Z:List Nat) (s:Sk) (f:DF) (i:St) (H:Hp) (Q:VK):Prop
 |mk G h d:bz G H->ki K Z G H i h->f h=some d->(∀v a e c,gc G H e c->dw K e c s d v a->a.Nodup->(∀b∈a,e b=none/\H b=none)->Q v c)->Zp K Z s f i H Q
def aeV{s:Sk}:PE X (.List [] g) (Zp X.K Z (.li s) (eK (.lst []))):=(J5 mx).imp <|by
 rintro o H Q ⟨G,f,d,j,a,l,k⟩;cases l;refine⟨G,f,[],j,a,rfl,λq p n m E i h e r =>?_⟩;rw[dU.mp r]at e;exact k _ [q] n m E (.lst e .nil) ż λb c=>by simp_all
abbrev À:=eK (.fS [] [])
def aeW:PE X (.Dict [] [] g) (Zp X.K Z .di À):=F8.imp <|by
 rintro i H Q ⟨G,j,d,e,h,f,k⟩;cases f;exact λq a=>k _ [q] G _ (gc.lay e a) (.fS a_ rfl .nil) ż λb c=>by simp at c;subst c;exact⟨e.free a,a⟩
def YO{s:Sk}{f:DF}(h:PE X e (Zp X.K Z s f)):PE X e (tP X.K Z f):=h.imp <|by
 rintro t H Q ⟨G,m,d,p,i,q,k⟩;refine⟨G,m,d,p,i,q,λv j r l E n u c=>k v (k_ r l j) l ⟨E.hh,E.gg.trans (pQ λb a=>(c b a).1),pR E.gh,λb o e =>?_⟩ (n.frozen (λb a=>(c b a).1) λb a=>a)⟩;by_cases a:b∈j
 .exact .inr (c b a).2
 .rw[nH a]at e;exact E.fr b o e
def o8(j:Nat)(c f:aH)(l:Sk)(m:DF):DG:=λa=>(m a).bind λd=>(DU j a).bind λh=>match h.1,h.2 with
 |.fs n i,.ins e b k=>if (n=c/\e=c)/\Sk.BE (eN i f) l=Z'/\b.length<999 then Y (.nx ((gf j a).set j (Y (.obj (.fs c i) (.ins c (oj f d b k).1 (oj f d b k).2))))) else M
 |_,_=>M
def SR.To{K:aP}{v g:Hp}{X:St}{f:aH}(S:SR K B Z G H X ρ)(hr:r∈Z)(hd:ρ[r]?=Y (Y (.obj (.fs c fk) (.ins c n U))))(E:gc G H v g)(o1:dw K v g (eN fk f) d u S1)(nd1:S1.Nodup)(m:∀b∈S1,v b=M/\H b=M):
  ∃x C Q w,X[r]?=Y (Y (.ref x))/\wF K bq c=Y (Y (.ref C))/\g x=Y (.ins C Q (n.zip w))/\n.length=w.length /\
   SR K B Z v (dA g x (.ins C Q (nF f u (n.zip w)))) X ((gf r ρ).set r (Y (.obj (.fs c fk) (.ins c (oj f d n U).1 (oj f d n U).2)))):=by
 let⟨a,T,e1,ot,nd,nf,F,W,hF⟩:=S.tree hr hd;let inH:∀b∈T,∃o,H b=Y o:=λb l=>by let⟨o,s,_⟩:=ot.here b l;exact⟨o,s⟩
 let dj:∀b∈S1,b∉T:=λb l Wc=>by let⟨o,s⟩:=inH b Wc;rw[(m b l).2]at s;cases s
 let⟨x,C,Q,w,h1,h2,h3,h4,h5,h6,T',o2,XM,sub⟩:=ot.put (p:=[]) (f:=f) nd rfl rfl E.gg (λb q o e=>E.hh b o e) o1 nd1 dj;cases h1;let hu:=sR (r:=r) hd (λq z=>by cases z);let S':=(S.ext E).WI (r:=r);let Wx:=W.ext E;let W':tW K B Z v g X (gf r ρ) F:=⟨λi d P e=>Wx.it i d P (dS e).1,λi d P e=>Wx.ok i d P (dS e).1,λi j d c P hj ei ej=>Wx.ap i j d c P hj (dS ei).1 (dS ej).1⟩;have gT:∀b∈T,v b=none:=λb l=>by rw[<- hF]at l;exact((Wx.ok r _ hr hd).2 b l).1
 let R:=S'.abF (i:=r) (a:=a) (d' :=.obj (.fs c fk) _) (F0:=T) (S':=T') (G':=v) W' hr (λb l=>⟨by rw[hF];exact l,_,hu⟩) (bz.refl _) (λb o e=>by
   let t:b≠a:=λz=>by rw[z,gT a h2]at e;cases e
   rw[aR t];exact E.gh b o e) (λb o e =>.inl e) (λb o l e=>by
   let t:b≠a:=λz=>l (z ▸ h2)
   rw[aR t];exact e) o2 XM (λb l=>by
   rcases sub b l with z|z
   .exact⟨gT b z,.inl z⟩
   .refine⟨(m b z).1,.inr (.inr ⟨S.h0.free (m b z).2,λk c hk ek Yh hbk =>?_⟩)⟩;let⟨y,f1,f2⟩:=W.it k c hk (dS ek).1;let⟨o,s⟩:=f2.here b hbk;rw[(m b z).2]at s;cases s) (λb h=>by have:=(S.pin r b h).2;simp_all) (λr p z=>by cases z)
  (λj p q q q e=>absurd rfl ((dS e).2 p))
 let R:=R.1;rw[jP e1]at R;exact⟨a,C,Q,w,e1,h3,E.hh _ _ h4,h6,R⟩
set_option tactic.hygienic true
def abz{c f:aH}{s1:Sk}(h:PE X (.Name x p) (i5 j))(P:PE X e (Zp X.K Z s1 q))(n:tX X.K c f)(J:autoParam (j∈Z) Ū)(K:autoParam (dy e (Y (.Attribute (.Name x p) f A)) g.line X.env=cQ false) Ŭ):PS X (.Assign [.Attribute (.Name x p) f A] e g) (kl X.K B I Z Z (o8 j c f s1 q)):=(IK h P K).imp <|by
 rintro D σ H ⟨G,l,o,S,a,k⟩;let⟨d,ef,a⟩:=aa.1 a;rcases i:DU j l with _|⟨s,t⟩
 .simp[i]at a
 simp only[i,ah]at a;split at a
 .split at a
  .rename_i F;obtain⟨⟨rfl,rfl⟩,b,z⟩:=F;cases a;refine⟨G,l,d,S.gh,S.iy,ef,λv S1 G' H' E m y w =>?_⟩;rw[<- Sk.uW b]at m;let⟨u,C,dx,vs,f1,r,U,T,R⟩:=S.To J (nc i) E m y w;refine⟨_,f1,u,C,dx,_,rfl,U,(n C r).1,(n C r).2,?_,k _ G' _ R⟩;rw[yL T];lia
  .cases a
 .cases a
end
def zy(c f:aH)(j:Nat)(A:bP):Option (List (aH×Sk)×List aH×List D×D):=(DU j A).bind λb=>match b.1,b.2 with
 |.fs k i,.ins a d e=>if k=c/\a=c then (DI f d).bind λn=>(e[n]?).map λh=>(i,d,e,h) else M
 |_,_=>M
set_option tactic.hygienic true in
def wZ{f:aH}{m:List D}(h:zy c f j A=Y (a,e,m,o)):A[j]?=Y (Y (.obj (.fs c a) (.ins c e m)))/\rF [.fld f] (.fs c a)=Y (eN a f)/\sC [.fld f] (.ins c e m)=Y o:=by
 unfold zy at h;rcases i:DU j A with _|⟨s,t⟩
 .simp_all
 rw[i]at h;simp at h;split at h
 .rename_i u q r d l;split at h
  .rename_i p;let⟨rfl,rfl⟩:=p;rcases b:DI f d with _|n
   .simp[b]at h
   rcases k:l[n]? with _|y
   .simp_all
   simp only[b,k,ah,da,tH,Sl]at h;let⟨rfl,rfl,rfl,rfl⟩:=h;exact⟨nc i,rfl,by simp[sC,b,k]⟩
  .cases h
 .cases h
abbrev Tp(c f:aH)(b:List (aH×Sk))(a:List aH)(d:List D)(x:D):D :=.obj (.fs c b) (pI x [.fld f] (.ins c a d))
section
variable {K:aP}
theorem SR.Yt{f:aH}{s:List (aH×Sk)}{v:List D}(S:SR K B Z G H J A)(p:r∈Z)(q:A[r]?=Y (Y (.obj (.fs c s) (.ins c e v))))(t:J[r]?=Y (Y (.ref a)))(b:gZ H [.fld f] (.ref a)=Y x):
  ∃C d h,wF K bq c=Y (Y (.ref C))/\H a=Y (.ins C d h)/\h.lookup f=Y x:=by
 let⟨y,T,k,o,_⟩:=S.tree p q;rw[t]at k;cases k;cases o with
 |@ins _ _ _ _ _ C d m z n i l w=>refine⟨C,d,_,n,i,?_⟩;simp only[gZ,i]at b;let⟨u,j,b⟩:=aa.1 b;rw[j,b]
def SR.Kt{p:B7}{s:Sk}(S:SR K B Z G H J A)(E:r∈Z)(F:A[r]?=Y (Y (.obj s t)))(g:rF p s=Y j)(I:sC p t=Y n):
  ∃a x f,J[r]?=Y (Y (.ref a))/\gZ H p (.ref a)=Y x/\dw K G H j n x f/\f.Nodup /\
   ∀(l:aw) (o:HO) (d:D) (c:List aw),l∈f->dw K G (dA H l o) j d x c->c.Nodup->(∀b∈c,b∈f)->SR K B Z G (dA H l o) J ((gf r A).set r (Y (.obj s (pI d p t)))):=by
 let⟨a,x,f,R,P,w,C,q,k⟩:=S.J9 E F g I;refine⟨a,x,f,R,P,w,C,λl o d c v y m h=>k d c G _ ⟨Az v,bz.refl _,λb u e =>?_,λb u e =>.inl e⟩ y m λb i=>⟨q b (h b i),.inl (h b i)⟩⟩;rw[aR λz=>by simp_all];exact S.gh b u e
end
section
variable {X:Cx}
def KG(j:Nat)(c f:aH)(b:DF):DG:=λA=>(zy c f j A).bind λq=>(b A).bind λd=>match q.2.2.2 with
 |.lst a=>if Sk.BE (eN q.1 f) (.li .lf)=Z'/\a.length<cY then Y (.nx ((gf j A).set j (Y (Tp c f q.1 q.2.1 q.2.2.1 (.lst (a++[d])))))) else M
 |_=>M
set_option tactic.hygienic true in
def acL{c f:aH}(h:PE X (.Name x p) (i5 j))(he:PE X e (tP X.K Z fe))(hc:tX X.K c f)(hj:autoParam (j∈Z) Ū)(hb0:autoParam (bS (.Name x p) f X.env (eval (.Name x p) X.env)=eval (.Name x p) X.env) Ŭ)(s:autoParam (bS (.Attribute (.Name x p) f I) "append" X.env (eval (.Attribute (.Name x p) f I) X.env)=eval (.Attribute (.Name x p) f I) X.env) Ŭ) (u:autoParam (((cP N (ak (e::[]) X.env)).all (λx=> !x.1)&&(jL N (fi [] X.env)).all (λx=>x.1.isSome)
   && decide ((e::[]).length+([]:List kX).length+(if ([]:List kX).isEmpty then 0 else 1)<30))=true) Ŭ) (q:autoParam ((U.endLine==N.line)=true) Ŭ) (hs:autoParam (ak (e::[]) X.env=(Z_,eval e X.env)::ak [] X.env) Ŭ) (m:autoParam ((cP N (ak [] X.env)).any (·.1)=false) Ŭ) (hsw:autoParam (dy (.Call (.Attribute (.Attribute (.Name x p) f I) "append" U) [e] [] N) M L.line X.env=cQ false) Ŭ) :
  PS X (.Expr (.Call (.Attribute (.Attribute (.Name x p) f I) "append" U) [e] [] N) L) (kl X.K B Q Z Z (KG j c f fe)):=
 (mN (vH gO PySem.F.slot_list_append PySem.F.type_list_append lq (sg h hb0) (bZ he eC hs) s u q hs m) hsw).imp <|by
  rintro D J H ⟨G,A,o,S,i,k⟩;obtain⟨⟨fk,ks,ds,t1⟩,et,i⟩:=aa.1 i;rcases ef:fe A with _|d
  .simp[ef]at i
  simp only[ef,ah]at i;split at i
  .split at i
   .rename_i hz;cases i;let⟨hd,i1,i2⟩:=wZ et;rw[Sk.uW hz.1]at i1;let⟨a,y,T1,e1,e2,o1,_⟩:=S.Kt hj hd i1 i2;let⟨C,dx,fs,n,f1,f2⟩:=S.Yt hj hd e1 e2;cases o1 with
    |@lst _ _ l vs S0 hl tt=>
     refine⟨_,e1,a,C,dx,fs,_,rfl,f1,(hc C n).1,(hc C n).2,f2,.inl ⟨rfl,vs,.of hl⟩,G,A,d,S.gh,S.iy,ef,λv G' H' E r =>?_⟩;let⟨a',y',T1',F,w,g,R,k'⟩:=(S.ext E).Kt hj hd i1 i2;rw[e1]at F;cases F;rw[lu E.hh e2]at w;cases w;let⟨x',K,g1,g2,g3,g4,T2,o2,P,t⟩:=g.app (p:=[]) R rfl rfl (bz.refl _) (λO O O z=>z) (.leaf r) ż λb hb=>by cases hb
     cases g1;refine⟨l,K,v,rfl,rfl,g3,?_,k _ G' _ (k' l _ _ T2 g2 o2 P λb hb =>?_)⟩
     .rw[<- g4];exact aY hz.2 eE
     .rcases t b hb with z|z<;>grind
   .cases i
  .cases i
noncomputable def kg(k:iT)(d:D)(a:List iT)(b:List D):List iT×List D:=if (a.any λq=>decide (q=k))=Z' then (a,wH (λq x=>if q=k then d else x) a b) else (a++[k],b++[d])
theorem Mh:∀ {ks:List iT}{a:List V},ks.length=a.length->((ks.zip a).any λb=>decide (b.1=k))=ks.any λq=>decide (q=k)
 |[],a,h=>by simp
 |q::ks,[],h=>by simp at h
 |q::ks,v::a,h=>by simp;rw[Mh (by simp_all)]
theorem K9{v:V}:∀ {ks:List iT}{a:List V},(ks.zip a).map (λb=>if b.1=k then (b.1,v) else b)=ks.zip (wH (λq x=>if q=k then v else x) ks a)
 |[],a=>by simp
 |q::ks,[]=>by simp
 | q::ks,u::a=>by
  simp only[eJ,a9,Vy,K9]
  grind
theorem vD{K:aP}{v:V}(r:cX K G d v):∀ {b:List iT}{e:List D}{a:List V},bh K G e a->bh K G (wH (λq x=>if q=k then d else x) b e) (wH (λq x=>if q=k then v else x) b a)
 |[],e,a,h=>by solve_by_elim
 |q::b,[],a,h=>by rw[dU.mp h];exact Ÿ
 | q::b,x::e,a,h=>by
  let⟨u,j,rfl,i,f⟩:=bH.mp h;refine .cons ?_ (vD r f)
  grind
def L3{K:aP}{k:iT}{v:V}{f:List V}(r:cX K G d v)(j:a.length=b.length)(i:bh K G b f):∃c,sN (a.zip f) k v=(kg k d a b).1.zip c/\(kg k d a b).1.length=(kg k d a b).2.length/\bh K G (kg k d a b).2 c:=by
 have e:a.length=f.length:=by rw[j,i.length]
 unfold sN kg;rw[Mh e];by_cases h:(a.any λq=>decide (q=k))=Z'
 .rw[if_pos h,if_pos h];exact⟨_,K9,by simp[j],vD r i⟩
 .rw[if_neg h,if_neg h];refine⟨_,?_,by simp[j],i.append (.cons r .nil)⟩;rw[List.zip_append e];rfl
def qu(j:Nat)(c f:aH)(e:DF)(h:DM):DG:=λA=>(h A).bind λw=>(zy c f j w.2).bind λq=>(e w.2).bind λy=>(AE y).bind λb=>match q.2.2.2 with
 |.fS a d=>if Sk.BE (eN q.1 f) .di=Z'/\a.length<cY then Y (.nx ((gf j w.2).set j (Y (Tp c f q.1 q.2.1 q.2.2.1 (.fS (kg b w.1 a d).1 (kg b w.1 a d).2))))) else M
 |_=>M
set_option tactic.hygienic true
def Hi{c f:aH}(P:X.A.units+1<mY)(h:PE X (.Name x p) (i5 j))(hi:PE X i (tP X.K Z fk))(he:PE X e (tM X.K B Z fe))(hc:tX X.K c f)(R:autoParam (j∈Z) Ū)(hb0:autoParam (bS (.Name x p) f X.env (eval (.Name x p) X.env)=eval (.Name x p) X.env) Ŭ)(hs:autoParam (dy e (Y (.Subscript (.Attribute (.Name x p) f I) i O)) L.line X.env=cQ false) Ŭ):
  PS X (.Assign [.Subscript (.Attribute (.Name x p) f I) i O] e L) (kl X.K B Q Z Z (qu j c f fk fe)):=(KQ P (sg h hb0) hi he hs).imp <|by
 rintro D J H ⟨G,A,o,S,b,k⟩;unfold qu at b;obtain⟨⟨d,l⟩,ef,b⟩:=aa.1 b;obtain⟨⟨fk',ks0,ds0,t1⟩,et,b⟩:=aa.1 b;rcases w:fk l with _|y
 .simp[w]at b
 rcases m:AE y with _|ky
 .simp[w,m]at b
 simp only[w,m,ah]at b;split at b
 .rename_i ks ds;split at b
  .rename_i hz;cases b;let⟨hd,g,i2⟩:=wZ et;rw[Sk.uW hz.1]at g;refine⟨G,A,d,l,S,ef,λv G1 H1 t s1 rv =>?_⟩;let⟨a,y',T1,e1,e2,o1,nd,_⟩:=t.Kt R hd g i2;let⟨C,dx,fs,n,f1,f2⟩:=t.Yt R hd e1 e2;refine⟨_,e1,a,C,dx,fs,_,rfl,f1,(hc C n).1,(hc C n).2,f2,G1,l,y,t.gh,t.iy,w,λu G2 H2 E2 ru =>?_⟩;let P:=pV m (.inl ru:iB X.K G2 H2 y u);let S2:=t.ext E2;let⟨a',y2,T2,s,r,o2,K,k2⟩:=S2.Kt R hd g i2;rw[e1]at s;cases s;rw[lu E2.hh e2]at r;cases r;obtain⟨x',vs,g1,g2,⟨n0,g3⟩,g4,g5,g6⟩:=o2.dput (p:=[]) K rfl rfl (bz.refl _) (λv v v z=>z);cases g1;let⟨E,z1,z2,z3⟩:=L3 (k:=ky) (cX.mono E2.gg d rv) g4 g5;refine⟨x',_,rfl,?_,λn1=>by let⟨T3,o3,F,q⟩:=g6 _ _ E n1 z2 z3;exact k _ G2 _ (k2 x' _ _ T3 g2 o3 F q)⟩
   rw[P];simp only[<- z1];refine N9.k g3 ?_;rw[List.length_zip,g4,g5.length,Vv,<- g5.length,<- g4];exact aY hz.2 eE
  .cases b
 .cases b
end
section
variable {X:Cx}{f g:DF}
def FU(i:Nat):DG:=λA=>Y (.nx (A.set i (Y (.fS [] []))))
def zh{i:Nat}(u:X.N.Nodup)(q:X.N[i]?=Y x)(l:Loc X.env.scope x)(m:autoParam (i∈Z) Ū)(c:autoParam (∀a,(i,a)∉B.3) ť)(n:autoParam (Qc i∉Z) Ū)(j:autoParam (dy (.Dict [] [] N) (Y (.Name x b)) J.line X.env=cQ false) Ŭ)(s:autoParam (X.fn x=Z'\/X.env.scope.names.lookup x=Y .local) ŧ):
  PS X (.Assign [.Name x b] (.Dict [] [] N) J) (kl X.K B I Z Z (FU i)):=(uG u q l F8 j s).imp <|by
 rintro D C H ⟨G,A,o,S,d,k⟩;cases d;exact λp e=>k _ G _ (S.setC m (gc.lay S.gh e) e (S.gh.free e) a_ ⟨[],⟨0,rfl⟩,rfl,.nil⟩ c n)
def se(j:Nat)(f g:DF):DG:=λA=>(g A).bind λv=>(f A).bind λy=>(AE y).bind λk=>(eV j A).bind λd=>match d with
 |.fS a e=>if a.length<cY then Y (.nx (A.set j (Y (.fS (kg k v a e).1 (kg k v a e).2)))) else M
 |_=>M
set_option tactic.hygienic true in
def wh(P:X.A.units+1<mY)(h:PE X (.Name x p) (i5 j))(hi:PE X i (tP X.K Z f))(he:PE X e (tP X.K Z g))(R:autoParam (j∈Z) Ū)(hs:autoParam (dy e (Y (.Subscript (.Name x p) i O)) L.line X.env=cQ false) Ŭ):
  PS X (.Assign [.Subscript (.Name x p) i O] e L) (kl X.K B Q Z Z (se j f g)):=(KQ P h hi he hs).imp <|by
 rintro D J H ⟨G,A,o,S,b,k⟩;let⟨v,ev,b⟩:=aa.1 b;let⟨y,ey,b⟩:=aa.1 b;let⟨ky,ek,b⟩:=aa.1 b;let⟨d,t,b⟩:=aa.1 b;cases d<;>simp only at b<;>try (cases b;done)
 split at b
 .rename_i hz;cases b;refine⟨G,A,v,S.gh,S.iy,ev,λu G1 H1 E1 T =>?_⟩;let m:=S.ext E1;let⟨a,o,q,l,c,_⟩:=m.TM R (gR t) rfl;refine⟨_,q,G1,A,y,m.gh,m.iy,ey,λw E H2 F N =>?_⟩;let C:=m.ext F;obtain⟨a',o',z,U,⟨vs,⟨n,rfl⟩,s,r⟩,_⟩:=C.TM R (gR t) rfl;rw[q]at z;cases z;let⟨c,W,K,I⟩:=L3 (k:=ky) (cX.mono F.gg v T) s r;refine⟨a,_,rfl,by rw[pV ek (.inl N:iB X.K E H2 y w)];exact N9.k U (by rw[List.length_zip,s,r.length,Vv,<- r.length,<- s];exact aY hz eE),λn=>k _ E _ ?_⟩;rw[W];exact C.aaK R (gR t) q ⟨c,⟨n,rfl⟩,K,I⟩
 .cases b
def um(f g:DF):DF:=λa=>(f a).bind λy=>(g a).bind λv=>(AE y).map λk =>.fS [k] [v]
def wk(h:PE X e (tP X.K i f))(w:PE X v (tP X.K i g)):PE X (.Dict [Y e] [v] N) (tP X.K i (um f g)):=(TF (Pg h w Tt) rfl rfl ż ż).imp <|by
 rintro b H Q ⟨G,a,d,S,W,e,k⟩;let⟨y,F,e⟩:=aa.1 e;let⟨v,ev,e⟩:=aa.1 e;let⟨l,I,e⟩:=ai.1 e;cases e;intro p j;let A:=gc.lay (o :=.dK [] 0) S j;refine⟨G,a,y,A.gh,W.ext A,F,λu B K x D=>⟨B,a,v,x.gh,(W.ext A).ext x,ev,λt s J O C =>?_⟩⟩;let E:=pV I (.inl D:iB X.K B K y u);subst E;let c:=x.trans O;have r:s p=none:=by
  rcases q:s p with _|o
  .rfl
  rcases c.fr p o q with z|z
  .rw[S.free j]at z;cases z
  simp_all [a_]
 refine⟨(c.hh _ _ a_),[(l,t)],rfl,ż,λn =>?_⟩;let m:xy [] [(l,t)]=[(l,t)]:=by solve_by_elim
 rw[m];let L:gc G H s (dA J p (.dK [(l,t)] n)):=⟨λb o e=>by rw[aR (bp e j)];exact c.hh _ _ (by rw[aR (bp e j)];exact e),c.gg,λb o e=>by rw[aR (bp e r)];exact c.gh _ _ e,λb o e=>by
  rcases c.fr b o e with z|z
  .exact .inl z
  grind [aR]⟩
 refine k _ _ _ (L.freeze j r a_) (mM.mpr ⟨p,[t],rfl,⟨n,a_⟩,rfl,.cons (cX.mono (.alloc r) _ C) .nil⟩)
def EO:lh X (.type "dict") (λb H Q=>∃p a n,b=[.ref p]/\H p=Y (.dK a n)/\∀l n,H l=M->Q (.ref l) (dA H l (.dK a n))):=by
 rintro B s U H b D Q I r ⟨p,d,n,rfl,m,q⟩;let⟨u,rfl,C⟩:=b8.one r;cases C;exact RJ I ⟨n,.inl m⟩ λl g n c J=>⟨.ref l,_,J,rfl,q l n c⟩
def Wh(f:DF):DF:=λa=>(f a).bind λd=>match d with|.fS k e=>Y (.fS k e)|_=>M
def U5(z:Gl X "dict")(y:X.mg "dict" = M)(h:PE X e (tP X.K i f))(x:d9 "dict" = Y (.type "dict"):=by exact PyProof.Rows.boot_dict)(t:autoParam (ak (e::[]) X.env=(Z_,eval e X.env)::ak [] X.env) Ŭ):PE X (.Call (.Name "dict" p) [e] [] w) (tP X.K i (Wh f)):=
 (CH EO z y x (bZ h eC t) ſ ſ t rfl).imp <|by
  rintro E H Q ⟨G,u,F,C,r,g,k⟩;let⟨c,D,g⟩:=aa.1 g;cases c<;>simp only at g<;>try (cases g;done)
  cases g;refine⟨G,u,_,C,r,D,λv s I b o =>?_⟩;obtain⟨a,j,rfl,⟨n,e⟩,l,t⟩:=mM.mp o;exact⟨a,_,n,rfl,b.gh _ _ e,λq m d=>k _ _ _ (b.trans (gc.alloc b.gh d)) (mM.mpr ⟨q,j,rfl,⟨m,a_⟩,l,bh.mono (.alloc (b.gh.free d)) _ t⟩)⟩
end
def Ut(f:DF):DL:=λρ=>(f ρ).bind λd=>match d with|.lst a=>Y a|.tup a=>Y a|_=>M
def QP{f:DF}(h:Ut f ρ=Y a):f ρ=Y (.lst a)\/f ρ=Y (.tup a):=by
 let⟨d,e,h⟩:=aa.1 h;rw[e];cases d<;>first|(cases h;exact .inl rfl)|(cases h;exact .inr rfl)|cases h
def QI{K:aP}(g:Ml K G a b)(r:bh K G n b):yG K G (Itt K a) n:=by
 refine⟨λi H s f =>?_,λi H s f=>⟨b,g.sq s,by rw[<- r.length];exact f⟩,λi H x B A d j h ⟨e,y⟩ z =>?_⟩
 .have c:i<b.length:=by rw[<- r.length];exact f
  exact⟨b,b[i],g.sq s,by simp[c]⟩
 .subst e;let⟨v,k,o⟩:=r.get z;rw[y b ((g.mono j).sq h)]at k;cases k;exact⟨A,.refl h,cX.mono j d o⟩
section
variable {X:Cx}
def RO{prog:aZ}{w:cH}{A:jq}{E:aj->ar->Prop}{Q:aj->ar->Prop}{s:ar}{t b:aw}{a:List aj}(K:IsTup s.heap t #[])(d:IsTup s.heap b a.toArray)(J:Q (.ref b) s):aX (bc prog w) A (dt .Add (.ref t) (.ref b)) Q E s:=by
 obtain⟨⟨P,D,F,r⟩,m,C,n,x⟩:=id K;obtain⟨⟨H,l,p,g⟩,c,k,u,h⟩:=id d;subst C x k h;exact concat_meets ⟨_,m,rfl⟩ ⟨_,c,rfl⟩ Sj seq_tuple_add PySem.F.slot_tuple_add PySem.F.entry_tuple_add (PySem.F.args_tuple_add_2 _ _)
  (tuple_addW0 t b #[] _ n u D l r g rfl) ⟨m,c,J⟩
def aar(K:aP):R2:=λx y H Q=>∃a b ys,x=.ref a/\y=.ref b/\wN K H a []/\wN K H b ys/\Q (.ref b) H
def PB:mj X (dt .Add) (aar X.K):=by
 rintro B s U H x y v u Q I l k ⟨a,b,ys,rfl,rfl,C,A,q⟩;cases l;cases k;let⟨r,e,p,_⟩:=I.tuple C;let⟨f,c,p2,_⟩:=I.tuple A;let z:=b8.zero e;subst z;exact RO p p2 ⟨.ref b,H,I,rfl,q⟩
def Ap:D->D->Option D
 |.tup a,.tup b=>if a.length+b.length<=cY then Y (.tup (a++b)) else M
 |_,_=>M
set_option tactic.hygienic true
def acj:yF X (dt .Add) Ap:=by
 refine mj.imp (TU.or PB) ?_;rintro x y H Q ⟨G,u,t,d,e,h,g,c,q⟩;unfold Ap at c;split at c<;>try (cases c)
 rename_i xs ys;split at c<;>cases c
 rename_i f;let hr:cX X.K G (.tup xs) x:=by
  rcases h with h|⟨_,_,_,_,c⟩
  .exact h
  exact Ÿ
 let gr:cX X.K G (.tup ys) y:=by
  rcases g with h|⟨_,_,_,_,c⟩
  .exact h
  exact Ÿ
 let⟨a,l,s,o,j⟩:=h.tup e;let⟨b,m,r,n,i⟩:=g.tup e;subst s r;by_cases z:l=[]
 .subst z;let w:=HZ (by rw[j.length];rfl);subst w;exact .inr ⟨a,b,m,rfl,rfl,o,n,q _ G H (.refl e) gr⟩
 .refine .inl ⟨a,b,l,m,rfl,rfl,o,n,z,?_,λy =>?_,λ_ p k=>q _ _ _ (gc.alloc e k) ?_⟩
  .rw[<- j.length,<- i.length];exact aV f eE
  .subst y;let w:=HZ (by rw[i.length];rfl);subst w;rw[br]at q;exact q _ G H (.refl e) hr
  .exact lW ⟨p,_,rfl,a_,bh.mono (.alloc (e.free k)) _ (j.append i)⟩
end
section
variable {X:Cx}{e:Expr}{f:DF}{Z:List Nat}{p j:Pos}
def Wl{L:Expr}(h:PE X e (tP X.K Z f)):PI X L e (yM X.K Z (Ut f)):=by
 rintro B s l H R I ⟨G,ρ,p,n,b,o,k⟩;rcases QP o with o|o
 .refine KU h B s l H R I ⟨G,ρ,_,n,b,o,λv A w d j =>?_⟩;let⟨a,g,rfl,c,i⟩:=cB.mp j;exact⟨a,rfl,⟨g,.of (d.gh _ _ c)⟩,k _ A w d (C7 c i)⟩
 .refine Xf h B s l H R I ⟨G,ρ,_,n,b,o,λv A w d j =>?_⟩;let⟨a,g,rfl,c,i⟩:=d5.mp j;exact⟨a,rfl,⟨g,c.sq d.gh⟩,k _ A w d (QI c i)⟩
end
end L2
namespace L2
open PySem PySem.MeetsSeq PySem.MeetsSeq2 PySem.SeqAt
def yt{g:Model}{s:ar}{r:Std.Legacy.Range}(f:Nat->c->Sem (ForInStep c))(I:List Nat->c->ar->Prop)(Q:c->ar->Prop)(k0:∀x a b s,I (x::a) b s->aX g A (f x b) (λr e=>match r with|.yield d=>I a d e|.done d=>Q d e) E s)(lQ:∀b s,I [] b s->Q b s)(b:c)(h:I (HY r.start r.size r.step) b s):aX g A (forIn r b f) Q E s:=by
 rw[Std.Legacy.Range.forIn_eq_forIn_range'];exact wpAny_forIn_list f I Q k0 lQ _ b h
def BK(l:aw)(a:Array aj)(n:Nat)(E:Option aw)(t:Array (Option aj))(x:aj)(e:aj->Bool)(j:Nat)(G:j<a.size)(B:e a[j]=Z')(k:∀m (F:m<a.size),m<j->e a[m]=Z_):
  Meets (Builtin.«tuple.index» ⟨[.ref l,x],[]⟩)
   (λA R s=>s.heap.get? l=Y { cls :=.type "tuple",dict:=E,data :=.seq a n,slots:=t }/\(∀y,y∈a->EqAt A.in1 s y x (e y))/\R (.ok (.ret (.int j s.toks))) { s with toks:=s.toks+1 }):=
 .of_wp λp w A R s h=>by
  let⟨v,g,d,r,u⟩:=s;let⟨z,D,h⟩:=h
  wp_walk using wpAny_loadPart' z,yt _ (λc b o=>b.1=M/\o=⟨v,g,d,r,u⟩/\∃i,i<=j/\c=HY i (a.size-i)) _
  case k0=>
   rintro y c b o ⟨I,rfl,i,H,q⟩;let f:i<a.size:=by lia
   rw[show a.size-i=a.size-(i+1)+1 by lia]at q;cases q;rw[fG f];refine af (D _ Ż _ w _ _ ?_);by_cases C:y=j
   .wp_walk
    simp_all
   .rw[k y f (by lia)]
    wp_walk
    grind
  case lQ=>grind
  case h=>exact⟨rfl,rfl,0,d7 _,ż⟩
end L2
namespace L2
open PySem PySem.Spec PyProof.Rows
section
variable {X:Cx}{f g:DF}
def UO(f:DF)(m n:DP):DF:=λa=>(f a).bind λd=>(m a).bind λl=>(n a).bind λh=>match d with|.tup b=>if HT.lI b.length 0 l=0/\HT.lI b.length b.length h=b.length then M else Y (.tup (B_ b l h))|_=>M
set_option tactic.hygienic true in
def YL{m:Option Expr}(K:PE X e (tQ X.K Z f))(J:PO X m (SU X.K Z l))(I:PO X n (SU X.K Z h)):PE X (.Subscript e (.Slice m n M B) w) (tP X.K Z (UO f l h)):=(Ae WW K J I).imp <|by
 rintro O H Q ⟨G,i,P,L,g,a,k⟩;let⟨d,A,a⟩:=aa.1 a;let⟨s,x,a⟩:=aa.1 a;let⟨t,y,a⟩:=aa.1 a;refine⟨G,i,d,L,g,A,λv N T o F=>⟨N,i,s,o.gh,g.ext o,x,λE S j=>⟨E,i,t,j.gh,(g.ext o).ext j,y,λz R b =>?_⟩⟩⟩;cases d<;>simp only at a<;>try (cases a;done)
 split at a
 .cases a
 .rename_i c;cases a;let⟨p,C,u,r,D⟩:=(F.ext (j.trans b)).tup b.gh;refine⟨p,C,u,r,by rw[<- D.length];exact c,λq c=>k _ _ _ (((o.trans j).trans b).trans (gc.alloc (p:=q) b.gh c)) (lW ⟨q,_,rfl,a_,bh.mono (.alloc (b.gh.free c)) _ (D.cut _ _)⟩)⟩
def Qb(E:fT k X.A):MtR X "tuple.index" (λx o H Q=>∃G c d y i,bz G H/\cX X.K G (.tup c) x/\o=[y]/\cX X.K G d y/\(jg d 170&&iA c 170)=Z'/\c.findIdx? (λz=>nO z d)=Y i/\Q (.int (i:Nat)) H):=by
 rintro B s U H x o v a Q I N P ⟨G,c,d,y,i,g,r,rfl,h,f,F,q⟩;let K:=E.un;rw[aK]at f;let⟨p,vs,rfl,t,A⟩:=d5.mp r;cases N;let⟨u,rfl,O⟩:=b8.one P;obtain⟨b,l,⟨⟨cls,dd,J,L⟩,C,hc,n,T⟩,D⟩:=I.tuple (t.sq g);subst hc T;let⟨j,_,e⟩:=Ep (K:=X.K) I.hk (A:=X.A.in1) ŷ f.1 f.2 (cX.mono g _ h) O (bh.mono g _ A) l;rw[List.findIdx?_eq_some_iff_getElem]at F;let⟨S,f1,f2⟩:=F;let hl:c.length=b.length:=A.length.trans l.length;refine va PySem.F.slot_tuple_index ⟨_,C,rfl⟩ PySem.F.entry_tuple_index (PySem.F.args_tuple_index_2 _ _) (BK p b.toArray n dd L u _ i ŷ ?_ ?_) ⟨C,λw hw=>j w Ż,?_⟩
 .rw[e i _ c[i] (by simp) (aS S)];exact f1
 .intro m hm R;let h2:m<b.length:=by simp_all
  rw[e m _ _ (by simp[h2]) (aS (by lia))]
  simp_all
 .exact⟨.int _,H,I.tok _,⟨_,rfl⟩,q⟩
def NJ(f g:DF):DF:=λa=>(f a).bind λd=>(g a).bind λx=>match d with|.tup b=>if (jg x 170&&iA b 170)=Z' then (b.findIdx? λy=>nO y x).map λ(i:Nat) =>.int i else M|_=>M
set_option tactic.hygienic true in
def YN{l j:Pos}(E:fT k X.A)(h:PE X o (tP X.K Z f))(w:PE X e (tP X.K Z g))(c:autoParam (bS o "index" X.env (eval o X.env)=eval o X.env) Ŭ) (n:autoParam (((cP j (ak (e::[]) X.env)).all (λx=> !x.1)&&(jL j (fi [] X.env)).all (λx=>x.1.isSome)
   && decide ((e::[]).length+([]:List kX).length+(if ([]:List kX).isEmpty then 0 else 1)<30))=true) Ŭ) (b:autoParam ((l.endLine==j.line)=true) Ŭ) (P:autoParam (ak (e::[]) X.env=(Z_,eval e X.env)::ak [] X.env) Ŭ) (a:autoParam ((cP j (ak [] X.env)).any (·.1)=false) Ŭ) :
  PE X (.Call (.Attribute o "index" l) [e] [] j) (tP X.K Z (NJ f g)):=(vH PySem.F.plainAttrs_tuple PySem.F.slot_tuple_index PySem.F.type_tuple_index (Qb E) h (bZ w eC P) c n b P a).imp <|by
 rintro O H Q ⟨G,i,d,L,g,a,k⟩;let⟨d,D,a⟩:=aa.1 a;let⟨x,B,a⟩:=aa.1 a;cases d<;>simp only at a<;>try (cases a)
 split at a
 .rename_i A;let⟨m,C,a⟩:=ai.1 a;cases a;refine⟨G,i,_,L,g,D,λv I K q s=>⟨?_,I,i,x,q.gh,g.ext q,B,λu y F r z =>?_⟩⟩
  .let⟨p,J,rfl,t,_⟩:=d5.mp s;refine .inr (.inl ⟨rfl,?_⟩);rcases t with t|⟨o,_,_,t,c,e,_⟩
   .exact .inl ⟨_,q.gh _ _ t⟩
   .exact .inr ⟨o,t,c,e⟩
  .exact⟨y,_,x,u,m,r.gh,cX.mono r.gg _ s,rfl,z,A,C,k _ y F (q.trans r) (cG.mpr rfl)⟩
 .cases a
structure Vk(K:aP)(mg:aH->Option aj)(x:aH)(l:List aH):Prop where
 ex:∃(a:aw) (o:Obj) (b:Array aj) (n:Nat),mg x=some (.ref a)/\K.lookup a=some o/\o.cls=.type "tuple" /\o.dict=none/\o.data=.seq b n/\b.size<=aU/\b8 (l.map V.str) b.toList
theorem CB{K:aP}:∀l:List aH,bh K G (l.map D.str) (l.map V.str)
 |[] =>.nil|_::l =>.cons (dI.mpr rfl) (CB l)
def A'{l:List aH}{m:Pos}(T:Vk X.K X.mg x l)(b:Gl X x)(c:autoParam ((x==("__debug__" : aH))=false) Ū):PE X (.Name x m) (tP X.K Z (eK (.tup (l.map D.str)))):=by
 let⟨a,o,v,n,e,r⟩:=T.ex;exact(KY (v :=.ref a) b e rfl c).imp <|by rintro h H Q ⟨G,j,d,e,g,f,k⟩;cases f;exact k _ G H (.refl e) (d5.mpr ⟨a,_,rfl,.inr ⟨o,v,n,r⟩,CB l⟩)
end
inductive tN (K:aP) (p r:Nat) (F:List D->Option (D×List D×List D)) (h:List V) (H:Hp) (Q:VK) (_x:XK):Prop
 |mk G f d b c a e n m k l:bz G H->f[p]?=some (.lst k)->h[p]?=some (.ref a)->H a=some (.lst n)->bh K G k n->G a=none->f[r]?=some (.lst l)->h[r]?=some (.ref e)->H e=some (.lst m)->bh K G l m->G e=none->a≠e->(∀(i:Nat) c,i≠p->i≠r->f[i]?=some c->∃v,h[i]?=some v/\cX K G c v)->f.length=h.length->F f=some (d,b,c)->(∀v x y g j,gc G (vm (vm H a) e) g j->g a=none->g e=none->j a=some (.lst x)->j e=some (.lst y)->bh K g b x->bh K g c y->cX K g d v->Q v j)->tN K p r F h H Q _x
def VN(p r:Nat):DO->Option (D×List D×List D)
 |.rm d a=>(dW p a).bind λb=>(dW r a).map λc=>(d,b,c)
 |.nx a=>(dW p a).bind λb=>(dW r a).map λc=>(.dr,b,c)
 |_=>M
def vB(n N p r:Nat)(g:DG)(a:List D):Option (D×List D×List D):=if a.length=n then (g (gA N a)).bind (VN p r) else M
section
variable {K:aP}
def SR.L_{f:Hp}{e:bP}{xs ys:List D}{v:List V}(S:SR K B l G H d e)(i:j∈l)(w:p∈l)(k:e[j]?=Y (Y (.lst g)))(C:e[p]?=Y (Y (.lst I)))(h:d[j]?=Y (Y (.ref a)))(x:d[p]?=Y (Y (.ref b)))(O:a≠b)(E:gc G (vm (vm H a) b) q f)(o:q a=M)(t:q b=M)(n:f a=Y (.lst u))(A:f b=Y (.lst v))(r:bh K q xs u)(y:bh K q ys v):SR K B l q f d ((e.set j (Y (.lst xs))).set p (Y (.lst ys))):=by
 let P:j≠p:=λz=>by simp_all
 let⟨T,m,F,_⟩:=S.ij w C;rw[x]at F;have N:gc G (vm H a) q (dA f b (.lst m)):=by
  refine⟨λc o e =>?_,E.gg,λc o e=>by rw[aR (bp e t)];exact E.gh c o e,λc o e =>?_⟩
  .by_cases z:c=b
   .simp_all [jf,bE,a_]
   .rw[aR z];exact E.hh c o (by simp_all [jf])
  .rcases E.fr c o e with z|z
   .exact .inl z
   .let s:c≠b:=bp e t
    simp_all [jf]
 have L:=S.called i k h N o (by simp_all [aR]) r;have J:=L.mut (g:=I) (c:=ys) (b:=v) w Ż x y;let z:dA (dA f b (.lst m)) b (.lst v)=f:=by
  rw[Ks];funext c;by_cases s:c=b
  .subst s;rw[a_,A]
  .rw[aR s]
 rwa [z]at J
def Iu{f:List D}(s:bz G H)(J:p∈t)(I:r∈t)(E:p≠r)(o:b[p]?=Y (.lst f))(h:e[p]?=Y (.ref a))(q:H a=Y (.lst d))(R:bh K G f d)(w:G a=M)(Q:b[r]?=Y (.lst l))(L:e[r]?=Y (.ref c))(P:H c=Y (.lst O))(R':bh K G l O)(w':G c=M)(F:a≠c)(g:∀(i:Nat) c,i≠p->i≠r->b[i]?=Y c->∃v,e[i]?=Y v/\cX K G c v)(n:b.length=e.length)(k:∀i∈t,i=p\/i=r\/b.length<=i):SR K ⟨G,vm (vm H a) c,[(p,a),(r,c)],x⟩ t G H (start N e) (gA N.length b):=by
 have ff:∀(i:Nat) v,e[i]?=Y v->(start N e)[i]?=Y (Y v):=λi v m=>by let T:i<e.length:=(au.mp m).1;unfold start;rw[hV (by simpa using T),aT,m];rfl
 have y:∀i∈t,∀D,(gA N.length b)[i]?=Y (Y D)->(i=p/\D=.lst f)\/(i=r/\D=.lst l):=λi g D m=>by let A:=kd m;rcases k i g with z|z|z<;>grind
 refine⟨s,bz.refl _,s_.trans s_,λb o e =>.inl e,λi d u m =>?_,⟨λi=>if i=p then [a] else [c],λi D u m =>?_,λi D u m =>?_,λi j D C u S ei X B z Z =>?_⟩,by simp[start,gA,n],λi b h =>?_,λj k q U h2 m =>?_⟩
 .let⟨v,ev,W⟩:=g i d (λz=>u (z ▸ J)) (λz=>u (z ▸ I)) (kd m);exact⟨v,ff i v ev,W⟩
 .rcases y i u D m with⟨rfl,rfl⟩|⟨rfl,rfl⟩
  .exact⟨a,ff _ _ h,by rw[if_pos rfl];exact⟨⟨_,q,d,rfl,R⟩,rfl⟩⟩
  .exact⟨c,ff _ _ L,by rw[if_neg (bE E)];exact⟨⟨_,P,O,rfl,R'⟩,rfl⟩⟩
 .rcases y i u D m with⟨rfl,rfl⟩|⟨rfl,rfl⟩
  .rw[if_pos rfl];exact⟨ż,λb f=>by simp at f;subst f;exact⟨w,by show vm (vm H _) c _=M;rw[jf F,jV]⟩⟩
  simp_all [if_neg,bE,jV]
 .rcases y i u D ei with⟨rfl,rfl⟩|⟨rfl,rfl⟩<;>rcases y j S C X with⟨rfl,rfl⟩|⟨rfl,rfl⟩
  .exact absurd rfl B
  .rw[if_pos rfl]at Z;rw[if_neg (bE E)];simp at Z ⊢;rw[Z];exact F
  .rw[if_neg (bE E)]at Z;rw[if_pos rfl];simp at Z ⊢;rw[Z];exact bE F
  .exact absurd rfl B
 .let z:(i,b)=(p,a)\/(i,b)=(r,c):=by simpa using h
  rcases z with z|z<;>cases z<;>simp_all
 .rcases y j U _ m with⟨_,z⟩|⟨_,z⟩<;>cases z
end
section
variable {P:aZ}{K:aP}
set_option tactic.hygienic true
def iV.aaF{st:dh}{f:aw}(F:iV K x I st f fd)(S:bu N ps (aE st))(p r:Nat){Z Ź:List Nat}{g:DG}(hp:p∈Z)(hr0:r∈Z)(pr:p≠r)(Yg:∀i∈Z,i=p\/i=r\/ps.length<=i) (hb:∀(L:aj) (A:jq) (j:List Env) (s:ar) (H:Hp) (E:XK),fT k (A.deeper (wQ I (aE st) s.heap.objs.size f L))->∀(B:Bs) (a c:aw),B.3=[(p,a),(r,c)] ->
   rN (B2 ib P w K u y N I (aE st) f L A j s H E).T8 (iQ st) (kl K B [] Z Ź g)):cy P w K u y ib (k+1) f fd ps (tN K p r (vB ps.length N.length p r g)):=by
 refine F.ok S (λvs H Q E h =>?_) (λL A j s H vs Q E hr h =>?_)
 .let⟨G,ds,d,b,c,a,e,n,m,k,l,gh,hd,hv,ha,r1,ga,hd',hv',Wd,r1',ga',ne,ro,hl,e,_⟩:=h;unfold vB at e;split at e<;>grind
 .let⟨G,ds,d,b,c,a,R,n,m,k,l,gh,hd,hv,ha,r1,ga,hd',hv',Wd,r1',ga',ne,ro,hl,e,q⟩:=h;unfold vB at e;split at e
  .rename_i hn;refine⟨_,hb L A j s H E hr ⟨G,vm (vm H a) R,[(p,a),(r,R)],λV V=>False⟩ a R rfl,?_⟩;let⟨o,eg,e⟩:=aa.1 e;have lQ:∀ {σ:St}{C:bP}{O T:Hp}{o':List Nat}{U:List D}{z:Nat}{t:aw},(z,t)∈[(p,a),(r,R)]->SR K ⟨G,vm (vm H a) R,[(p,a),(r,R)],λV V=>False⟩ o' O T σ C->dW z C=Y U->∃y,T t=Y (.lst y)/\bh K O U y/\O t=none:=fun {σ C O T o' U z t} hz W J=>by let⟨Uu,hσ⟩:=W.pin z t hz;let⟨b,ZV,f2,_⟩:=W.ij Uu (cJ J);rw[hσ]at f2;cases f2<;>simp_all
   refine⟨G,_,o,Iu gh hp hr0 pr hd hv ha r1 ga hd' hv' Wd r1' ga' ne ro hl (by rw[hn];exact Yg),eg,?_⟩;cases o with
   |rm d' C=>let⟨U,J,e⟩:=aa.1 (e);let⟨U',J',e⟩:=ai.1 e;cases e;intro v σ O T ⟨o',W⟩ rv;let⟨z,f3,f4,f5⟩:=lQ (z:=p) (t:=a) ż W J;let⟨z',f3',f4',X⟩:=lQ (z:=r) (t:=R) ż W J';exact q v z z' O T W.pH f5 X f3 f3' f4 f4' rv
   |nx C=>let⟨U,J,e⟩:=aa.1 (show (dW p C).bind _=_ from e);let⟨U',J',e⟩:=ai.1 e;cases e;intro σ O T W;let⟨z,f3,f4,f5⟩:=lQ (z:=p) (t:=a) ż W J;let⟨z',f3',f4',X⟩:=lQ (z:=r) (t:=R) ż W J';exact q _ z z' O T W.pH f5 X f3 f3' f4 f4' (iO.mpr rfl)
   |_=>cases e
  .cases e
end
section
variable {X:Cx}
def j9(F:List D->Option (D×List D×List D))(j:Nat)(f:DF)(i:Nat)(g:DL):DM:=λa=>(dW j a).bind λb=>(f a).bind λd=>(dW i a).bind λc=>(g a).bind λe=>(F (.lst b::d :: .lst c::e)).map λq=>(q.1,(a.set j (Y (.lst q.2.1))).set i (Y (.lst q.2.2)))
def SR.apart{K:aP}(S:SR K B c G H d e)(i:j∈c)(m:f∈c)(n:j≠f)(k:e[j]?=Y (Y (.lst g)))(l:e[f]?=Y (Y (.lst p)))(h:d[j]?=Y (Y (.ref a)))(o:d[f]?=Y (Y (.ref b))):a≠b:=by
 let⟨F,W⟩:=S.ow;obtain⟨x,t,⟨_,r⟩⟩:=W.it j _ i k;obtain⟨y,s,⟨_,q⟩⟩:=W.it f _ m l;exact λz=>W.ap j f _ _ i m k l n a Ż Ż
def A8{F:List D->Option (D×List D×List D)}{m1 s:Pos}{f:DF}{g:DL}(h:eL X.prog X.w X.K X.mg X.base x k (tN X.K 0 2 F))(hr:fT k X.A)(hg:Gl X x)(hy:PE X (.Name y m1) (i5 j))(hf:PE X e (tP X.K Z f))(hz:PE X (.Name z s) (i5 i))(ha:PA X l (HP X.K Z g))(w:autoParam (j∈Z) Ū)(w':autoParam (i∈Z) Ū)(jj:autoParam (j≠i) Ū)(N:autoParam ((x==("__debug__" : aH))=false) Ū)(O:autoParam (ak (.Name y m1::e :: .Name z s::l) X.env=(Z_,eval (.Name y m1) X.env)::ak (e :: .Name z s::l) X.env) Ŭ)(O1:autoParam (ak (e :: .Name z s::l) X.env=(Z_,eval e X.env)::ak (.Name z s::l) X.env) Ŭ)(O2:autoParam (ak (.Name z s::l) X.env=(Z_,eval (.Name z s) X.env)::ak l X.env) Ŭ)(u:autoParam ((cP m (ak (e :: .Name z s::l) X.env)).any (·.1)=false) Ŭ):PE X (.Call (.Name x p) (.Name y m1::e :: .Name z s::l) [] m) (tM X.K B Z (j9 F j f i g)):=by
 let⟨fa,fd,ps,h1,hm,hk,hb⟩:=h.ex;refine(mO h1 hr hg hm hk hb .nil nI (bZ hy (bZ hf (bZ hz ha O2) O1) O) N O u).imp ?_;rintro σ H Q ⟨G,n,d,U,S,b,q⟩;unfold j9 at b;let⟨r,E,b⟩:=aa.1 b;let⟨d1,ef,b⟩:=aa.1 b;let⟨r',E',b⟩:=aa.1 b;let⟨L,I,b⟩:=aa.1 b;obtain⟨⟨d',o,o'⟩,J,b⟩:=ai.1 b;cases b;let C:=cJ E;let C':=cJ E';let⟨a,vs,K,_⟩:=S.ij w C;refine⟨_,K,G,n,d1,S.gh,S.iy,ef,λv1 G0 H0 E0' R0 =>?_⟩;let S0:=S.ext E0';let⟨a',ZV,K',_⟩:=S0.ij w' C';refine⟨_,K',G0,n,L,S0.gh,S0.iy,I,λus G1 H1 W N =>?_⟩;let R:=S0.ext W;let⟨b1,t,P,f3,f4,f5,f6⟩:=R.ij w C;rw[K]at P;cases P;let⟨b2,t',P,f3',f4',f5',f6'⟩:=R.ij w' C';rw[K']at P;cases P;let ne:=R.apart w w' jj C C' K K';show tN X.K 0 2 F _ H1 Q E0;rw[br];refine⟨G1,.lst r::d1 :: .lst r'::L,d',o,o',a,a',t,t',r,r',W.gh,rfl,rfl,f3,f4,f5,rfl,rfl,f3',f4',f5',ne,λi c hi hi' A =>?_,by simp[N.length],J,λv x y G2 H2 T g2 g2' h2 h2' r2 r2' r3 =>?_⟩
 .match i,hi,hi',A with
  |0,hi,_,_=>exact absurd rfl hi|1,_,_,A=>simp at A;subst A;exact⟨v1,rfl,cX.mono W.gg _ R0⟩|2,_,hi,_=>exact absurd rfl hi|i+3,_,_,A=>exact N.get (i:=i) (by simpa using A)
 .exact q v G2 H2 (R.L_ w w' C C' K K' ne T g2 g2' h2 h2' r2 r2') ((E0'.gg.trans W.gg).trans T.gg) r3
end
def JC(n:bP)(w:BF)(u:DM)(g f:Nat):List D->List D×List D->Option (List D×(List D×List D))
 |[],c=>Y ([],c)|d::e,c=>(w d ((n.set g (Y (.lst c.1))).set f (Y (.lst c.2)))).bind λa=>(u a).bind λp=>(dW g p.2).bind λb=>(dW f p.2).bind λh=>(JC n w u g f e (b,h)).map λq=>(p.1::q.1,q.2)
def Js(f:DL)(c:List (Option Nat))(w:BF)(u:DM)(h e g d:Nat):DM:=λn=>(f n).bind λa=>if a.length<=cY then (dW e n).bind λb=>(dW d n).bind λi=>(JC (iU c n) w u h g a (b,i)).map λq=>(.lst q.1,(n.set e (Y (.lst q.2.1))).set d (Y (.lst q.2.2))) else M
def WO(K:aP)(d b:Nat)(u:DM):TE:=λt H Q=>∃(B:Bs) (a c:aw),B.3=[(d,a),(b,c)]/\tM K B [d,b] u t H Q
def aeK{X:Cx}(h:∀(B:Bs) (a c:aw),B.3=[(f,a),(d,c)]->PE X e (tM X.K B [f,d] u)):PE X e (WO X.K f d u):=by rintro b s t H Q I ⟨B,a,c,e,q⟩;exact Ÿ
section
variable {K:aP}
def SR.Yb{fl:aH->Int->Prop}(S:SR K B A G H t ((n.set L (Y (.lst q))).set E (Y (.lst W))))(y:gX A [k,u] w=Z')(x:w[k]?=Y (Y L))(U:w[u]?=Y (Y E))(jj:L≠E)(T:k≠u)(lt:L<n.length)(lt':E<n.length)(s:t[L]?=Y (Y (.ref a)))(O:t[E]?=Y (Y (.ref c))):
  SR K ⟨G,vm (vm H a) c,[(k,a),(u,c)],fl⟩ [k,u] G H (nu w t) (((iU w n).set k (Y (.lst q))).set u (Y (.lst W))):=by
 have l:L∈A:=(fH y x).mp ż;have l':E∈A:=(fH y U).mp ż;have P:((n.set L (Y (D.lst q))).set E (Y (.lst W)))[L]?=Y (Y (.lst q)):=by rw[be (bE jj),cp lt]
 have P':((n.set L (Y (D.lst q))).set E (Y (.lst W)))[E]?=Y (Y (.lst W)):=by rw[cp (by simpa using lt')]
 let⟨b,J,I,e3,e4,e5,e6⟩:=S.ij l P;rw[s]at I;cases I;let⟨b,J',I,e3',e4',_⟩:=S.ij l' P';rw[O]at I;cases I;have ne:=S.apart l l' jj P P' s O;have N:∀i∈[k,u],∀d,(((iU w n).set k (Y (D.lst q))).set u (Y (.lst W)))[i]?=Y (Y d)->(i=k/\d=.lst q)\/(i=u/\d=.lst W):=λi hi d e=>by
  have z:i=k\/i=u:=by simpa using hi
  rcases z with z|z
  .subst z;rw[be (bE T)]at e;rcases iM e with⟨_,rfl,_⟩|_<;>grind
  .subst z;rcases iM e with⟨_,rfl,_⟩|⟨f,_⟩<;>grind
 refine⟨S.gh,bz.refl _,s_.trans s_,λb o e =>.inl e,λi d g e =>?_,⟨λi=>if i=k then [a] else [c],λi d g e =>?_,λi d g e =>?_,λi j d C g m ei ej B z Z =>?_⟩,by simp[nu,iU],λi b h =>?_,λj r p R Q e =>?_⟩
 .have z:i≠k/\i≠u:=by simpa using g
  rw[be (bE z.2),be (bE z.1)]at e;let⟨j,F,ej⟩:=zN e;have m:j∉A:=λz=>g ((fH y F).mpr z)
  let m0:L≠j:=λz=>m (z ▸ l)
  let m1:E≠j:=λz=>m (z ▸ l')
  let⟨v,f1,X⟩:=S.env j d m (by rw[be m1,be m0];exact ej);exact⟨v,i_ F f1,X⟩
 .rcases N i g d e with⟨rfl,rfl⟩|⟨rfl,rfl⟩
  .exact⟨a,i_ x s,by rw[if_pos rfl];exact⟨⟨_,e3,J,rfl,e4⟩,rfl⟩⟩
  .exact⟨c,i_ U O,by rw[if_neg (bE T)];exact⟨⟨_,e3',J',rfl,e4'⟩,rfl⟩⟩
 .rcases N i g d e with⟨rfl,rfl⟩|⟨rfl,rfl⟩
  .rw[if_pos rfl];exact⟨ż,λb f=>by simp at f;subst f;exact⟨e5,by show vm (vm H _) c _=M;rw[jf ne,jV]⟩⟩
  simp_all [if_neg,bE,jV]
 .rcases N i g d ei with⟨rfl,rfl⟩|⟨rfl,rfl⟩<;>rcases N j m C ej with⟨rfl,rfl⟩|⟨rfl,rfl⟩
  .exact absurd rfl B
  .rw[if_pos rfl]at Z;rw[if_neg (bE T)];simp at Z ⊢;rw[Z];exact ne
  .rw[if_neg (bE T)]at Z;rw[if_pos rfl];simp at Z ⊢;rw[Z];exact bE ne
  .exact absurd rfl B
 .have z:(i,b)=(k,a)\/(i,b)=(u,c):=by simpa using h
  rcases z with z|z<;>cases z
  .exact⟨ż,i_ x s⟩
  .exact⟨ż,i_ U O⟩
 .rcases N j R _ e with⟨_,z⟩|⟨_,z⟩<;>cases z
end
section
variable {X:Cx}{f:DL}
set_option tactic.hygienic true in
def Ul{K:aP}(ho:gX Z [i0,i1] src=Z')(h0:src[i0]?=Y (Y j0))(h1:src[i1]?=Y (Y j1))(jj:j0≠j1)(ii:i0≠i1)(hg:∀(B:Bs) v t H Q,Fk K B [i0,i1] w v t H Q->g v t H Q)(q:tM K B Z (Js f src w u i0 j0 i1 j1) t H Q):
  WQ (yM K Z f) src g (qW K [i0,i1] dC) (WO K i0 i1 u) t H Q:=by
 let⟨G,n,d,ρ',S,h,k⟩:=q;have Zz:j0∈Z:=(fH ho h0).mp ż;have hj1:j1∈Z:=(fH ho h1).mp ż;unfold Js at h;let⟨j,ef,h⟩:=aa.1 h;split at h
 .rename_i hz;let⟨xs0,el,h⟩:=aa.1 h;let⟨xs1,el',h⟩:=aa.1 h;obtain⟨⟨rs,xsF⟩,em,h⟩:=ai.1 h;cases h;let F:=cJ el;let F':=cJ el';have hl:j0<n.length:=(au.mp F).1;have hl':j1<n.length:=(au.mp F').1;let⟨a,vs0,e2,_⟩:=S.ij Zz F;let⟨c,vs1,YD,_⟩:=S.ij hj1 F';let ne:=S.apart Zz hj1 jj F F' e2 YD;refine⟨G,n,j,S.gh,S.iy,ef,λJ G1 H1 E1 ok =>?_⟩;let S1:=S.ext E1;rw[<- ql F,<- ql (l:=n.set j0 (Y (.lst xs0))) (i:=j1) (by rw[be jj];exact F')]at S1;refine⟨λi m ys H2=>m=j.length-i/\i<=j.length/\LcI K B Z t (λb:List D×List D=>(n.set j0 (Y (.lst b.1))).set j1 (Y (.lst b.2))) (λi=>JC (iU src n) w u i0 i1 (j.drop i)) G1 xsF rs i ys H2,
   ⟨j.length,rfl,d7 _,G1,[],(xs0,xs1),rs,av _,S1,bz.refl _,.nil,em,rfl⟩,?_⟩
  rintro i m ys H2 ⟨rfl,hil,G2,l,⟨xs,xt⟩,o,hyl,S2,s2,rx,cc,rfl⟩;have sub:bz G1 H2:=s2.trans S2.gh;by_cases C:i<j.length
  .refine .inr ⟨ok.go i H2 sub C,?_,_,
    λr H' z=>⟨j.length-(i+1),Ž,rfl,C,z⟩,λx H3 y =>?_⟩
   .have:=eE
    lia
   .let⟨G3,E3,Sa⟩:=ok.So i H2 x H3 G2 j[i] s2 S2.gh y (aS C);let S3:=S2.ext E3;rw[cZ C]at cc;unfold JC at cc;let⟨s,et,cc⟩:=aa.1 cc;obtain⟨⟨x4,ρ5⟩,ee,cc⟩:=aa.1 cc;let⟨N,X,cc⟩:=aa.1 cc;let⟨N',X',cc⟩:=aa.1 cc;obtain⟨⟨P,xsE⟩,R,cc⟩:=ai.1 cc;cases cc;let SI:=S3.Yb (fl:=λr r=>False) ho h0 h1 jj ii hl hl' e2 YD;refine hg _ _ _ _ _ ⟨G3,_,j[i],s,SI,Sa,et,λσ4 G4 H4 S4=>⟨G4,s,Z',S4.gh,S4.iy,rfl,λG5 H5 E5=>BV ?_⟩⟩;refine⟨_,a,c,rfl,G5,s,x4,ρ5,S4.ext E5,ee,λv G6 H6 S6 s6 r6=>⟨G6,l++[x4],(N,N'),P,by simp;lia,?_,?_,?_,R,ż⟩⟩
    .let⟨Uu,hσ⟩:=S6.pin i0 a ż;let⟨b,ws,f2,f3,f4,f5,_⟩:=S6.ij Uu (cJ X);rw[hσ]at f2;cases f2;let⟨HR,hσ2⟩:=S6.pin i1 c ż;let⟨b,ws2,f2,g3,g4,g5,_⟩:=S6.ij HR (cJ X');rw[hσ2]at f2;cases f2;have:=S3.L_ (xs:=N) (ys:=N') Zz hj1 (by rw[be (bE jj),cp hl]) (by rw[cp (by simpa using hl')]) e2 YD ne S6.pH f5 g5 f3 g3 f4 g4;rw[List.set_comm (i:=j1) (j:=j0) _ _ (bE jj),Fd,Fd]at this;exact this
    .exact s2.trans (E3.gg.trans S6.g0)
    .exact(bh.mono (E3.gg.trans S6.g0) l rx).append (.cons r6 .nil)
  .let e:i=j.length:=by lia
   subst e;rw[kR]at cc;unfold JC at cc;cases cc;refine .inl ⟨ok.stop _ H2 sub (av _),λp hp =>?_⟩;have EA:=gc.alloc (p:=p) (o :=.lst ys) S2.gh hp;refine k _ _ _ (S2.ext EA) (E1.gg.trans (s2.trans EA.gg)) ?_;rw[br];exact cB.mpr ⟨p,ys,rfl,a_,bh.mono EA.gg l rx⟩
 .cases h
def YI(S:eU X N src A)(j:X.calm=Z')(e:PI X E L (yM X.K Z f))(m:R8 T g)(a:∀i∈T,src[i]?=Y M)(h:∀(B:Bs) v t H Q,Fk X.K B [i0,i1] w v t H Q->g v t H Q)(k:∀C s H b,PG (X.rM N A C s H b) E g/\HB (X.rM N A C s H b) [] (qW X.K [i0,i1] dC)/\PE (X.rM N A C s H b) O (WO X.K i0 i1 u))(l:autoParam (src[i0]?=Y (Y j0)) Ŭ)(n:autoParam (src[i1]?=Y (Y j1)) Ŭ)(o:autoParam (j0≠j1) Ū)(p:autoParam (i0≠i1) Ū)(d:autoParam (gX Z [i0,i1] src=true) Ū)(c:autoParam (∀x,cb L X.env x=cQ x) ũ):PE X (.ListComp O [⟨E,L,[],0⟩] A U) (tM X.K B Z (Js f src w u i0 j0 i1 j1)):=
 (Pp S j e m a k c).imp λt H Q q=>Ul d l n o p h q
def Nr(K:aP)(i f e:Nat)(b:autoParam (i∉[f,e]) Ū):∀(B:Bs) v t H Q,Fk K B [f,e] (gN i) v t H Q->oK i v t H Q:=λB v t H Q ⟨G,n,d,a,S,r,c,k⟩=>by
 cases c;exact k _ G H (S.vz b r)
end
theorem Ag{R:j->g->Prop}:∀ {l:List j}{m:List g},l.length=m.length->(∀(i:Nat) a b,l[i]?=Y a->m[i]?=Y b->R a b)->Paired R l m
 |[],[],_,_ =>.nil|[],_::_,h,_=>by simp at h
 |_::_,[],h,_=>by simp at h
 |a::l,b::m,h,k =>.cons (k 0 a b rfl rfl) (Ag Ż λi c d e f=>k (i+1) c d Ż Ż)
section
variable {X:Cx}{f:DF}
def B4(c:X.calm=Z'):lh X (.type "list") (λg H Q=>∃x:aH,g=[.str x]/\x.cps.size<=cY/\∀l,H l=M->Q (.ref l) (dA H l (.lst (x.cps.toList.map λc=>V.str ⟨#[c]⟩)))):=by
 rintro B s U H g D Q I r ⟨x,rfl,j,q⟩;let⟨u,rfl,t,rfl⟩:=b8.one r;refine call_list_str (I.ok.hd c) x t (λv y f w o n d =>?_) (aV j eE);let k:b8 (x.cps.toList.map λc=>V.str ⟨#[c]⟩) f.toList:=by
  let⟨m,p⟩:=d;refine Ag (by simp[m]) λi a b d z =>?_
  let⟨c,t,e,rfl⟩:=p i b Ż;rw[aT,show x.cps.toList[i]?=Y c by simpa using e]at d;cases d
  exact Ÿ
 exact⟨.ref _,_,I.laid o (av _) (show jF _ X.w _ v _ (.lst _) from⟨by simpa using aV j eE,_,w,k,by rw[n]⟩),rfl,q _ (I.fQ.fresh (av _))⟩
def JV(f:DF):DL:=λb=>(f b).bind λd=>match d with|.str x=>if x.cps.size<=cY then Y (xk x) else M|_=>M
theorem z_{K:aP}:∀l:List Nat,bh K G (l.map λc=>D.str ⟨#[c]⟩) (l.map λc=>V.str ⟨#[c]⟩)
 |[] =>.nil|_::l =>.cons (dI.mpr rfl) (z_ l)
set_option tactic.hygienic true
def RE(c:X.calm=Z')(z:Gl X "list")(y:X.mg "list" = M)(h:PE X e (tQ X.K Z f))(x:d9 "list" = Y (.type "list"):=by exact PyProof.Rows.boot_list)(t:autoParam (ak (e::[]) X.env=(Z_,eval e X.env)::ak [] X.env) Ŭ):PE X (.Call (.Name "list" p) [e] [] w) (tF X.K Z (JV f)):=
 (CH (B4 c) z y x (bZ h eC t) ſ ſ t rfl).imp <|by
  rintro E H Q ⟨G,u,F,C,r,g,k⟩;let⟨c,D,g⟩:=aa.1 g;refine⟨G,u,c,C,r,D,λv s I b o =>?_⟩;cases c<;>simp only[ah]at g<;>try (cases g)
  split at g<;>cases g
  rename_i a;exact⟨_,by rw[o.str],a,λq d=>k q _ s _ (b.trans (gc.lay b.gh d)) (b.hh.free d) (b.gh.free d) a_ (z_ _)⟩
end
section
variable {K:aP}{m:St}{g:bP}
end
section
variable {X:Cx}{s v:Pos}
end
inductive spT (K:aP) (s:Sk) (F:List D->Option (D×D)) (j:List V) (H:Hp) (Q:VK) (_x:XK):Prop
 |mk G t g d i a T h:bz G H->j=.ref a::h->dw K G H s t (.ref a) T->T.Nodup->(∀b∈T,G b=none)->bh K G g h->F (t::g)=some (d,i)->(∀v e c f,gc G (jS H T) c f->dw K c f s i (.ref a) e->e.Nodup->(∀b∈e,c b=none/\(b∈T\/H b=none))->cX K c d v->Q v f)->spT K s F j H Q _x
def tL(s:Sk)(j:Nat)(b:bP):Option D:=(DU j b).bind λa=>if Sk.BE a.1 s=Z' then Y a.2 else M
def sS{s:Sk}(h:tL s j a=Y t):a[j]?=Y (Y (.obj s t)):=by
 grind [tL,aa,Sk.uW,nc]
def D8(s:Sk):DO->Option (D×D)
 |.rm d a=>(tL s 0 a).map λt=>(d,t)
 |.nx a=>(tL s 0 a).map λt=>(.dr,t)
 |_=>M
def qv(n N:Nat)(s:Sk)(g:DG)(b:List D):Option (D×D):=match b with
 |t::a=>if a.length+1=n then (g (gA N (.obj s t::a))).bind (D8 s) else M
 |[]=>M
section
variable {P:aZ}{K:aP}
def MJ{s:Sk}{f:List D}{T:List aw}(w:bz G H)(m:0∈Z)(h:dw K G H s t (.ref a) T)(k:T.Nodup)(j:∀b∈T,G b=M)(r:bh K G f g)(n:∀i∈Z,i=0\/f.length+1<=i):
  SR K ⟨G,jS H T,[(0,a)],x⟩ Z G H (start N (.ref a::g)) (gA N.length (.obj s t::f)):=
 Cn w λb o e=>by
  grind [mQ,dX] m rfl rfl h k (λb d=>⟨j b d,mQ d⟩) (λr q z=>by cases z) (λi c p e=>by
   cases i with
   |zero=>simp_all| succ i=>exact r.get Ż) (by simp[r.length]) ž
def SR.abp{m:List Nat}{s:Sk}(r:SR K ⟨G,jS H T,[(0,a)],p⟩ m d i j e)(y:tL s 0 e=Y k):
  ∃c,dw K d i s k (.ref a) c/\c.Nodup/\(∀b∈c,d b=M/\(b∈T\/H b=M))/\∃F,tW K ⟨G,jS H T,[(0,a)],p⟩ m d i j e F/\F 0=c:=by
 let⟨g,f⟩:=r.pin 0 a ż;obtain _:=r.tree g (sS y)
 grind [dX]
set_option tactic.hygienic true
def iV.T4{f:aw}{N R:List aH}(F:iV K x e p f fd)(S:bu N R (aE p))(s:Sk){Z Ź:List Nat}{g:DG}(hp:0∈Z)(C:∀i∈Z,i=0\/R.length<=i) (hb:∀(j:aj) (A:jq) (outer:List Env) (s:ar) (H:Hp) (E:XK),fT k (A.deeper (wQ e (aE p) s.heap.objs.size f j))->∀(B:Bs) (a:aw),B.3=[(0,a)] ->
   rN (B2 ib P w K O U N e (aE p) f j A outer s H E).T8 (iQ p) (kl K B [] Z Ź g)):cy P w K O U ib (k+1) f fd R (spT K s (qv R.length N.length s g)):=by
 refine F.ok S (λvs H Q E h =>?_) λj A outer s1 H vs Q E hr h =>?_
 .let⟨G,t,xs,d,X,a,T,us,gh,rfl,ot,nd,nf,r,b,_⟩:=h;simp only[qv]at b;split at b
  .rename_i z;simp[<- r.length,z]
  .cases b
 .let⟨G,t,xs,d,X,a,T,us,gh,rfl,ot,nd,nf,r,b,q⟩:=h;simp only[qv]at b;split at b
  .refine⟨_,hb j A _ s1 H E hr ⟨G,jS H T,_,λl l=>False⟩ a rfl,?_⟩;let⟨oo,eg,b⟩:=aa.1 b;refine⟨G,_,oo,MJ gh hp ot nd nf r Ż,eg,?_⟩;cases oo with
   |rm d' m=>let⟨y,o,b⟩:=ai.1 b;cases b;intro v σ G' H' ⟨o',c⟩ rv;let⟨T',f1,f2,f3,_⟩:=c.abp o;exact q v T' G' H' c.pH f1 f2 f3 rv
   |nx m=>let⟨y,o,b⟩:=ai.1 b;cases b;intro σ G' H' c;let⟨T',f1,f2,f3,_⟩:=c.abp o;exact q _ T' G' H' c.pH f1 f2 f3 (iO.mpr rfl)
   |_=>cases b
  .cases b
end
section
variable {X:Cx}{v:Pos}
def cv(c m:aH)(s:Sk)(F:List D->Option (D×D))(j:Nat)(g:N_):DM:=λb=>(DU j b).bind λd=>match d.1,d.2 with
 |.fs f _,.ins a e _=>if (f=c/\a=c)/\m∉e then (g b).bind λq=>(tL s j q.2).bind λt=>(F (t::q.1)).map λr=>(r.1,(gf j q.2).set j (Y (.obj s r.2))) else M
 |_,_=>M
set_option tactic.hygienic true in
def Gp{m:aH}{s:Sk}{F:List D->Option (D×D)}{f:St}(n:wF X.K bq c=Y (Y (.ref C)))(r:j∈Z)(ht:∀f H Q,VF X.K B Z g f H Q->t f H Q)(h:tM X.K B Z (cv c m s F j g) f H Q):FF C m (spT X.K s F) [] E0 (i5 j) t f H Q:=by
 let⟨G,o,d,R,S,e,q⟩:=h;unfold cv at e;rcases x:DU j o with _|⟨s0,t0⟩
 .simp_all
 rw[x]at e;simp at e;split at e
 .split at e
  .rename_i hz;obtain⟨⟨rfl,rfl⟩,hm⟩:=hz;rcases y:g o with _|⟨p,i⟩
   .simp_all
   rw[y]at e;simp at e;rcases I:tL s j i with _|u
   .simp_all
   rw[I]at e;obtain⟨⟨d',t'⟩,eF,e⟩:=ai.1 e;cases e;let hd:=nc x;let⟨a,T,z,ot,_⟩:=S.tree r hd;cases ot with
   |@ins _ _ _ _ _ C' dx vs S0 N ex l tt=>rw[n]at N;cases N;refine⟨_,z,a,dx,_,rfl,ex,sW (K:=X.K) (G:=G) hm,ht _ _ _ ⟨G,o,p,i,S,y,λK G1 H1 A s1 r1 =>?_⟩⟩;rw[br];let k:=sS I;let⟨a1,T1,P,f2,f3,f4,F1,W1,w⟩:=A.tree r k;rw[z]at P;cases P;exact⟨G1,u,p,d',t',a,T1,K,A.gh,rfl,f2,f3,λb hb=>(f4 b hb).1,r1,eF,λv T' G' H' E nw nd nf rv=>q v G' H' (A.EL W1 w r k z E nw nd nf) (s1.trans E.gg) rv⟩
  .cases e
 .cases e
def ZH{c m:aH}{s:Sk}{F:List D->Option (D×D)}(h:jy X.prog X.w X.K X.mg X.base c m k (spT X.K s F))(g:fT k X.A)(i:PE X (.Name y p) (i5 j))(r:autoParam (j∈Z) Ū) (e:autoParam (eval (.Call (.Attribute (.Name y p) m L) [] [] J) X.env=(do
   let a <- eval (.Name y p) X.env
   tY L.atName
   let(f,first) <- px [a] (qT a m pl)
   Fb J f first (cP J (ak [] X.env)) (jL J (fi [] X.env)))) Ŭ):PE X (.Call (.Attribute (.Name y p) m L) [] [] J) (tM X.K B Z (cv c m s F j mE)):=by
 let⟨C,f,K,E,n,t,o,x,w⟩:=h.ex;exact(F6 i t o x g w .nil nI e).imp λb H Q q=>Gp n r (by rintro b H Q ⟨G,A,l,d,S,z,k⟩;cases z;exact k _ G H S (bz.refl _) .nil) q
def Ru{c m:aH}{s:Sk}{F:List D->Option (D×D)}{g:N_}(h:jy X.prog X.w X.K X.mg X.base c m k (spT X.K s F))(o:fT k X.A)(r:PE X (.Name y p) (i5 j))(E:PA X (e::I) (VF X.K B Z g))(w:autoParam (j∈Z) Ū)(a:autoParam (ak (e::I) X.env=(Z_,eval e X.env)::ak I X.env) Ŭ)(b:autoParam ((cP J (ak I X.env)).any (·.1)=false) Ŭ) (i:autoParam (eval (.Call (.Attribute (.Name y p) m L) (e::I) [] J) X.env=(do
   let d <- eval (.Name y p) X.env
   tY L.atName
   let(f,first) <- px [d] (qT d m pl)
   Fb J f first (cP J (ak (e::I) X.env)) (jL J (fi [] X.env)))) Ŭ):PE X (.Call (.Attribute (.Name y p) m L) (e::I) [] J) (tM X.K B Z (cv c m s F j g)):=by
 let⟨C,f,N,l,n,x,t,G,A⟩:=h.ex;exact(D4 r x t G o A .nil nI E a b i).imp λK H Q q=>Gp n w (λu u u z=>z) q
def j3(c f k m:aH)(h:Sk)(F:List D->Option (D×D))(j:Nat)(g:DL):DM:=λb=>(zy c f j b).bind λz=>match z.2.2.2 with
 |.ins a d i=>if (Sk.BE (eN z.1 f) h=Z'/\a=k)/\m∉d then (g b).bind λe=>(F (.ins a d i::e)).map λr=>(r.1,(gf j b).set j (Y (Tp c f z.1 z.2.1 z.2.2.1 r.2))) else M
 |_=>M
set_option tactic.hygienic true in
def CQ{f o m:aH}{e:List (aH×Sk)}{F:List D->Option (D×D)}(n:wF X.K bq o=Y (Y (.ref C1)))(hc:tX X.K c f)(z:j∈Z)(ht:∀i H Q,HP X.K Z g i H Q->t i H Q)(h:tM X.K B Z (j3 c f o m (.fs o e) F j g) i H Q):FF C1 m (spT X.K (.fs o e) F) [] E0 (Z7 X.K (i5 j) f) t i H Q:=by
 let⟨G,p,d,ρ',S,b,q⟩:=h;unfold j3 at b;rcases K:zy c f j p with _|⟨fk,ks0,ds0,t0⟩
 .rw[K]at b;cases b
 rw[K]at b;simp at b;split at b
 .split at b
  .rename_i hz;obtain⟨⟨y,rfl⟩,hm⟩:=hz;rcases k:g p with _|r
   .rw[k]at b;cases b
   rw[k]at b;simp only[ah]at b;rcases eF:F _ with _|⟨d',t'⟩
   .rw[eF]at b;cases b
   rw[eF]at b;cases b;let⟨A,w,i2⟩:=wZ K;rw[Sk.uW y]at w;let⟨a,x,T1,N,e2,o1,_⟩:=S.J9 z A w i2;let⟨C,dx,fs,nn,f1,f2⟩:=S.Yt z A N e2;cases o1 with
   |@ins _ _ _ _ s C' P vs S0 n' ex l tt=>rw[n]at n';cases n';refine⟨_,N,a,C,dx,fs,_,rfl,f1,(hc C nn).1,(hc C nn).2,f2,s,P,_,rfl,ex,sW (K:=X.K) (G:=G) hm,ht _ _ _ ⟨G,p,r,S.gh,S.iy,k,λT G1 H1 R r1 =>?_⟩⟩;rw[br];let S1:=S.ext R;let⟨a1,x1,T2,g1,g2,g3,g4,g5,g6⟩:=S1.J9 z A w i2;rw[N]at g1;cases g1;rw[lu R.hh e2]at g2;cases g2;exact⟨G1,_,r,d',t',s,T2,T,S1.gh,rfl,g3,g4,g5,r1,eF,λv T' G' H' E nw nd nf rv=>q v G' H' (g6 t' T' G' H' E nw nd nf) (R.gg.trans E.gg) rv⟩
  .cases b
 .cases b
def NM{c f m:aH}{fk1:List (aH×Sk)}{F:List D->Option (D×D)}(h:jy X.prog X.w X.K X.mg X.base a m k (spT X.K (.fs a fk1) F))(t:fT k X.A)(i:tX X.K c f)(w:PE X (.Name y p) (i5 j))(K:PA X (e::I) (HP X.K Z g))(A:autoParam (j∈Z) Ū)(o:autoParam (bS (.Name y p) f X.env (eval (.Name y p) X.env)=eval (.Name y p) X.env) Ŭ)(b:autoParam (ak (e::I) X.env=(Z_,eval e X.env)::ak I X.env) Ŭ)(d:autoParam ((cP J (ak I X.env)).any (·.1)=false) Ŭ) (s:autoParam (eval (.Call (.Attribute (.Attribute (.Name y p) f l) m L) (e::I) [] J) X.env=(do
   let r <- eval (.Attribute (.Name y p) f l) X.env
   tY L.atName
   let(f,first) <- px [r] (qT r m pl)
   Fb J f first (cP J (ak (e::I) X.env)) (jL J (fi [] X.env)))) Ŭ):PE X (.Call (.Attribute (.Attribute (.Name y p) f l) m L) (e::I) [] J) (tM X.K B Z (j3 c f a m (.fs a fk1) F j g)):=by
 let⟨C,S,R,P,n,E,x,u,G⟩:=h.ex;exact(D4 (sg w o) E x u t G .nil nI K b d s).imp λN H Q q=>CQ n i A (λv v v z=>z) q
noncomputable def ph(c:aH)(F:List D->Option (D×D))(g:DL):DF:=λa=>(g a).bind λb=>(F (.ins c [] []::b)).bind λr=>match r.1 with|.dr=>Y r.2|_=>M
def acQ{c:aH}{fk:List (aH×Sk)}{F:List D->Option (D×D)}{g:DL}(h:B8 X.prog X.w X.K X.mg X.base c k (spT X.K (.fs c fk) F))(hr:fT (k+1) X.A)(hg:Gl X c)(ha:PA X (e::I) (HP X.K Z g))(B:autoParam ((c==("__debug__" : aH))=false) Ū)(he:autoParam (ak (e::I) X.env=(Z_,eval e X.env)::ak I X.env) Ŭ)(A:autoParam ((cP J (ak I X.env)).any (·.1)=false) Ŭ):PE X (.Call (.Name c p) (e::I) [] J) (Zp X.K Z (.fs c fk) (ph c F g)):=by
 let⟨C,f,fd,ps,n,hm,hk,h1,a⟩:=h.ex;refine(TC hk h1 hr hg hm a .nil nI ha B he A).imp ?_;rintro σ H Q ⟨G,ρ,d,gh,l,i,q⟩;unfold ph at i;let⟨P,eg,i⟩:=aa.1 i;obtain⟨⟨d',c'⟩,eF,i⟩:=aa.1 i;cases d'<;>simp only[ah]at i<;>try (cases i;done)
 cases i;refine⟨G,ρ,P,gh,l,eg,λR N r w r1 x s m j ne =>?_⟩;show spT X.K (.fs c fk) F (.ref x::(R++[])) _ _ E0;rw[br];let K:N x=none:=w.gh.free m;have s2:bz N (dA (dA r s (.Z x)) x (.ins C s [])):=w.gh.trans ((bz.alloc j).trans (.alloc (by rw[aR (bE ne)];exact m)));refine⟨N,.ins c [] [],P,.dr,_,x,[x],R,s2,rfl,.ins (ks:=[]) (vs:=[]) (S:=[]) n a_ rfl .nil,ż,(λb a=>by simp at a;subst a;exact K),r1,eF,λv T' G2 H2 t nw nd T rv=>⟨iO.mp rv,?_⟩⟩;have S:∀b o,r b=Y o->jS (dA (dA r s (.Z x)) x (.ins C s [])) [x] b=Y o:=λb o e=>by let a:b≠x:=bp e m;rw[dX (by simpa using a),aR a,aR (bp e j)];exact e
 refine q (.ref x) T' G2 H2 (w.trans ⟨λb o e=>t.hh b o (S b o e),t.gg,t.gh,λb o e =>?_⟩) nw nd λb a=>⟨(T b a).1,?_⟩
 .rcases t.fr b o e with z|z
  .exact .inl z
  .refine .inr ?_;rcases y:r b with _|u
   .rfl
   rw[S b u y]at z;cases z
 .refine w.hh.free ?_;rcases(T b a).2 with z|z
  .simp at z;subst z;exact m
  .rcases y:r b with _|u
   .rfl
   let E:b≠x:=bp y m;rw[aR E,aR (bp y j),y]at z;cases z
end
def vW(l:bP)(u:BF)(w:DM)(i0:Nat)(s:Sk):List D->D->Option (List D×D)
 |[],t=>Y ([],t)|d::b,t=>(u d (l.set i0 (Y (.obj s t)))).bind λρ1=>(w ρ1).bind λp=>(tL s i0 p.2).bind λa=>(vW l u w i0 s b a).map λq=>(p.1::q.1,q.2)
def rA(f:DL)(src:List (Option Nat))(u:BF)(w:DM)(i0 j0:Nat)(s:Sk):DM:=λl=>(f l).bind λa=>if a.length<=cY then (tL s j0 l).bind λt=>(vW (iU src (gf j0 l)) u w i0 s a t).map λq=>(.lst q.1,(gf j0 l).set j0 (Y (.obj s q.2))) else M
section
variable {K:aP}
def SR.Ya{fl:aH->Int->Prop}{s:Sk}(S:SR K B Z G H n (l.set j0 (Y (.obj s t))))(C:gX Z [i0] src=Z')(x:src[i0]?=Y (Y j0))(y:n[j0]?=Y (Y (.ref a)))(q:dw K G H s t (.ref a) T)(P:T.Nodup)(N:∀b∈T,G b=M):
  SR K ⟨G,jS H T,[(i0,a)],fl⟩ [i0] G H (nu src n) ((iU src l).set i0 (Y (.obj s t))):=by
 refine⟨S.gh,bz.refl _,λb o e =>?_,λb o e =>.inl e,λi d g e =>?_,⟨λu=>T,λi d g e =>?_,λi d g e=>⟨P,λb m=>⟨N b m,mQ m⟩⟩,λi j d c g k u u f =>?_⟩,by simp[nu,iU],λi b h =>?_,λj r p R Q e =>?_⟩
 .simp_all [jS,mQ,dX]
 .rcases iM e with⟨rfl,_⟩|⟨f,e⟩
  .simp_all
  .let⟨j,F,ej⟩:=zN e;let k:j∉Z:=λz=>g ((fH C F).mpr z)
   have:j0≠j:=λz=>k (z ▸ ((fH C x).mp ż))
   let⟨v,f1,X⟩:=S.env j d k Ż;exact⟨v,i_ F f1,X⟩
 .let z:i=i0:=by simpa using g
  subst z;rcases iM e with⟨_,rfl,_⟩|_
  .exact⟨a,i_ x y,q⟩
  simp_all
 .simp_all
 .simp_all [i_]
 simp_all
end
def MB{s:Sk}:gf j ((gf j l).set j (Y (.obj s t)))=(gf j l).set j (Y (.obj s t)):=by
 apply Fg;intro i;unfold gf;rw[aT];by_cases h:j=i
 .subst h;by_cases b:j<l.length<;>simp_all
 .rw[be h,aT];rcases e:l[i]? with _|o
  .rfl
  cases o with
  |none=>rfl|some d=>
   cases d with|kh r p=>by_cases a:r=j<;>simp_all|_=>rfl
section
variable {X:Cx}{f:DL}{s:Sk}
set_option tactic.hygienic true in
def Lh{K:aP}(ho:gX Z [i0] src=Z')(h0:src[i0]?=Y (Y j0))(hg:∀(B:Bs) v n H Q,Fk K B [i0] u v n H Q->g v n H Q)(q:tM K B Z (rA f src u w i0 j0 s) n H Q):
  WQ (yM K Z f) src g (qW K [i0] dC) (Zo K i0 w) n H Q:=by
 let⟨G,l,d,ρ',S,j,k⟩:=q;have X:j0∈Z:=(fH ho h0).mp ż;unfold rA at j;let⟨C,ef,j⟩:=aa.1 j;split at j
 .rename_i hz;let⟨t0,el,j⟩:=aa.1 j;obtain⟨⟨rs,tF⟩,em,j⟩:=ai.1 j;cases j;let hd0:=sS el;have hu0:=sR (r:=j0) hd0 (λq z=>by cases z);let Yi:j0<(gf j0 l).length:=(au.mp hu0).1;let⟨a,T0,e2,_⟩:=S.tree X hd0;refine⟨G,l,C,S.gh,S.iy,ef,λJ G1 H1 E1 ok =>?_⟩;let S1:=(S.ext E1).WI (r:=j0);rw[<- ql hu0]at S1;refine⟨λi m ys H2=>m=C.length-i/\i<=C.length/\LcI K B Z n (λt=>(gf j0 l).set j0 (Y (.obj s t))) (λi=>vW (iU src (gf j0 l)) u w i0 s (C.drop i)) G1 tF rs i ys H2,
   ⟨C.length,rfl,d7 _,G1,[],t0,rs,av _,S1,bz.refl _,.nil,em,rfl⟩,?_⟩
  rintro i m ys H2 ⟨rfl,hil,G2,o,t,r,hyl,S2,s2,rx,c,rfl⟩;let sub:bz G1 H2:=s2.trans S2.gh;by_cases N:i<C.length
  .refine .inr ⟨ok.go i H2 sub N,?_,_,
    λR H' z=>⟨C.length-(i+1),Ž,rfl,N,z⟩,λx H3 y =>?_⟩
   .have:=eE
    lia
   .let⟨G3,E3,Sa⟩:=ok.So i H2 x H3 G2 C[i] s2 S2.gh y (aS N);have S3:=S2.ext E3;rw[cZ N]at c;unfold vW at c;let⟨A,et,c⟩:=aa.1 c;obtain⟨⟨x4,ρ5⟩,ee,c⟩:=aa.1 c;let⟨t4,el4,c⟩:=aa.1 c;obtain⟨⟨T,tE⟩,em4,c⟩:=ai.1 c;cases c;have hd3:((gf j0 l).set j0 (Y (D.obj s t)))[j0]?=Y (Y (.obj s t)):=by rw[cp Yi]
    let⟨a3,T3,f1,ot,nd,nf,F3,W3,hF3⟩:=S3.tree X hd3;rw[e2]at f1;cases f1;let SI:=S3.Ya (fl:=λE E=>False) ho h0 e2 ot nd λb hb=>(nf b hb).1
    refine hg ⟨G3,jS H3 T3,[(i0,a)],λE E=>False⟩ _ _ _ _ ⟨G3,_,C[i],A,SI,Sa,et,λσ4 G4 H4 S4=>⟨G4,A,Z',S4.gh,S4.iy,rfl,λG5 H5 E5=>BV ?_⟩⟩;refine⟨⟨G3,jS H3 T3,[(i0,a)],λE E=>False⟩,a,rfl,G5,A,x4,ρ5,S4.ext E5,ee,λv G6 H6 S6 s6 r6=>⟨G6,o++[x4],t4,T,by simp;lia,?_,?_,?_,em4,ż⟩⟩
    .let⟨Uu,hσ⟩:=S6.pin i0 a ż;let⟨a6,T6,g1,g2,g3,g4,_⟩:=S6.tree Uu (sS el4);rw[hσ]at g1;cases g1;have:=S3.EL (t':=t4) W3 hF3 X hd3 e2 S6.pH g2 g3 (λb hb=>⟨(g4 b hb).1,by
      by_cases h:b∈T3
      .exact .inl h
      .exact .inr (by simpa [dX h] using (g4 b hb).2)⟩)
     rw[MB,Fd]at this;exact this
    .exact s2.trans (E3.gg.trans S6.g0)
    .exact(bh.mono (E3.gg.trans S6.g0) o rx).append (.cons r6 .nil)
  .let e:i=C.length:=by lia
   subst e;rw[kR]at c;unfold vW at c;cases c;refine .inl ⟨ok.stop _ H2 sub (av _),λp hp =>?_⟩;have EA:=gc.alloc (p:=p) (o :=.lst ys) S2.gh hp;refine k _ _ _ (S2.ext EA) (E1.gg.trans (s2.trans EA.gg)) ?_;rw[br];exact cB.mpr ⟨p,ys,rfl,a_,bh.mono EA.gg o rx⟩
 .cases j
def J2(S:eU X N src A)(j:X.calm=Z')(e:PI X E I (yM X.K Z f))(o:R8 O g)(a:∀i∈O,src[i]?=Y M)(h:∀(B:Bs) v n H Q,Fk X.K B [i0] u v n H Q->g v n H Q)(k:∀C s H b,PG (X.rM N A C s H b) E g/\HB (X.rM N A C s H b) [] (qW X.K [i0] dC)/\PE (X.rM N A C s H b) L (Zo X.K i0 w))(m:autoParam (src[i0]?=Y (Y j0)) Ŭ)(d:autoParam (gX Z [i0] src=true) Ū)(c:autoParam (∀x,cb I X.env x=cQ x) ũ):PE X (.ListComp L [⟨E,I,[],0⟩] A U) (tM X.K B Z (rA f src u w i0 j0 s)):=
 (Pp S j e o a k c).imp λn H Q q=>Lh d m h q
def JZ{i:Nat}(S:eU X N src A)(W:X.calm=Z')(R:X.N.Nodup)(t:X.N[i]?=Y y)(F:X.env.scope.names.lookup y=Y .local)(J:PI X E I (yM X.K Z f))(ag:R8 O g)(h:∀i∈O,src[i]?=Y M)(K:∀(B:Bs) v n H Q,Fk X.K B [i0] u v n H Q->g v n H Q)(P:∀C s H m,PG (X.rM N A C s H m) E g/\HB (X.rM N A C s H m) [] (qW X.K [i0] dC)/\PE (X.rM N A C s H m) L (Zo X.K i0 w))(T:autoParam (src[i0]?=Y (Y j0)) Ŭ)(D:autoParam (gX Z [i0] src=true) Ū)(j:autoParam (i∉Z) Ū)(e:autoParam (dy (.ListComp L [⟨E,I,[],0⟩] A U) (Y (.Name y p)) a.line X.env=cQ true) Ŭ)(z:autoParam (∀x,cb I X.env x=cQ x) ũ):PS X (.Assign [.Name y p] (.ListComp L [⟨E,I,[],0⟩] A U) a) (kl X.K B q Z Z (iN i (rA f src u w i0 j0 s))):=
 (vE S W R t F J ag h P e z).imp λD' n H ⟨G,l,o,S,b,k⟩=>Lh D T K (by obtain⟨⟨d,c⟩,ef,b⟩:=ai.1 b;cases b;exact⟨G,l,d,c,S,ef,λv G' H' S' V r=>k _ G' H' (S'.vz j r)⟩)
end
abbrev TupAt(h:cF)(T:aw)(a:Array aj):Prop:=h.get? T=Y { cls :=.type "tuple",data :=.seq a }
structure ZN(h:cF)(z TI TO:aw)(n:Nat)(it l:Nat->aw)(xs:Nat->Array aj)(pl:Nat->Nat)(f0:aj)(out:Array aj):Prop where
 zz:IsZip h z TI TO f0
 ti:TupAt h TI ((cm n).map λj=>fm (it j)).toArray
 to:TupAt h TO out
 sz:out.size=n
 iter:∀j,j<n->h.IsListIter (it j) (l j) (pl j)
 lst:∀j,j<n->h.IsList (l j) (xs j)
structure ZA(z TI TO:aw)(n:Nat)(it l:Nat->aw):Prop where
 tiz:TI≠z
 toz:TO≠z
 ac9:TI≠TO
 iz:∀j,j<n->it j≠z/\it j≠TI/\it j≠TO
 ii:∀j k,j<n->k<n->j≠k->it j≠it k
 lz:∀j,j<n->l j≠z/\l j≠TO/\∀k,k<n->l j≠it k
section
variable {f:aw}
def ZN.adv(N:ZN h z i f n d l p t u r)(A:ZA z i f n d l)(c:k<n)(m:g.IsListIter (d k) (l k) (t k+1))(b:fM (d k) h g):ZN g z i f n d l p (λj=>if j=k then t j+1 else t j) u r:=by
 let⟨s,q,o⟩:=A.iz k c;refine⟨b.extBut _ _ (bE s) N.zz,b.extBut _ _ (bE q) N.ti,b.extBut _ _ (bE o) N.to,N.sz,λj a =>?_,λj a =>?_⟩
 .by_cases e:j=k
  .simp_all
  .simp only[if_neg e];exact(N.iter j a).extBut b.extBut (A.ii j k a c e)
 .exact(N.lst j a).extBut b.extBut ((A.lz j a).2.2 k c)
def ZN.Tc(N:ZN h z i f n d l p t u r)(A:ZA z i f n d l)(k:TupAt g f a)(e:a.size=n)(c:fM f h g):ZN g z i f n d l p t u a:=
 ⟨c.extBut _ _ (bE A.toz) N.zz,c.extBut _ _ A.ac9 N.ti,k,e,λj b=>(N.iter j b).extBut c.extBut (A.iz j b).2.2,λj b=>(N.lst j b).extBut c.extBut (A.lz j b).2.1⟩
def ZN.Tb(N:ZN h z i f n d l p t u r)(A:ZA z i f n d l)(e:IsZip g z i f c)(b:fM z h g):ZN g z i f n d l p t c r:=
 ⟨e,b.extBut _ _ A.tiz N.ti,b.extBut _ _ A.toz N.to,N.sz,λj a=>(N.iter j a).extBut b.extBut (A.iz j a).1,λj a=>(N.lst j a).extBut b.extBut (A.lz j a).1⟩
end
def HA(z f:aw)(n:Nat)(d:Nat->aw)(h g:cF):Prop:=∀c o,c≠z->c≠f->(∀j,j<n->c≠d j)->h.get? c=Y o->g.get? c=Y o
section
variable {E:aj->ar->Prop}{s:ar}
variable {f:aw}{d:Nat->aw}{m:Nat}
def CD(h:a=(cm n).map λj=>fm (d j))(c:k<n):(a.zipIdx).drop k=(fm (d k),k)::(a.zipIdx).drop (k+1):=by
 simp_all [cZ]
def Mx{Q:aj->ar->Prop}(hh:A.handled=M)(hn:0<n)(hn2:n<=100)(D:ZA z i f n d l)(N:ZN s.heap z i f n d l p (λu=>m) .none r) (hQ:∀g x,(∀j,j<n->(p j)[m]?=Y (x j))->ZN g z i f n d l p (λu=>m+1) (u9 s.heap.objs.size) ((cm n).map x).toArray->TupAt g s.heap.objs.size ((cm n).map x).toArray->g.objs.size=s.heap.objs.size+1 ->
   HA z f n d s.heap g->Q (.ref s.heap.objs.size) { s with heap:=g }) (hE:(∃j,j<n/\(p j)[m]?=M)->∀g e,HA z f n d s.heap g->(∃o,g.get? e=Y o/\o.cls=.type "StopIteration")->E (.ref e) { s with heap:=g }) :
  aX (bc B w) A (Builtin.«zip.__next__» ⟨[.ref z],[]⟩) (λlQ s'=>∃v,lQ=.done (.ret v)/\Q v s') E s:=by
 unfold Builtin.«zip.__next__»;show aX _ _ (field (.ref z) 2 >>= _) _ _ _;refine af (rJ N.zz rfl (x :=.bool Z_) rfl ?_);refine af (rJ N.zz rfl rfl ?_);refine af (u6 N.ti rfl ?_);have Yh:((cm n).map λj=>fm (d j)).toArray.isEmpty=false:=by cases n<;>simp_all
 simp only[Yh,fV,if_false];refine af ?_;unfold Builtin.SmallTypes.ownedTupleIsFree;refine af (rJ N.zz rfl (x :=.none) rfl (ax ?_));simp only[if_true];refine af (Km ?_);refine af (rJ N.zz rfl rfl ?_);refine af (u5 N.zz ż λh1 z1 k1 =>?_);let N1:=N.Tb D z1 k1;refine af ?_;refine wpAny_forIn_list _ (λL b s1=>b=(M,())/\∃k F C x,k<=n/\L=(((cm n).map λj=>fm (d j)).zipIdx).drop k/\s1={ s with heap:=F }/\ZN F z i f n d l p (λj=>if j<k then m+1 else m) .ellipsis C /\
   (∀j,j<k->(p j)[m]?=Y (x j)/\C[j]?=Y (x j))/\F.objs.size=s.heap.objs.size/\HA z f n d s.heap F) _ ?_ ?_ _ _ ⟨rfl,0,h1,r,λu =>.none,d7 _,rfl,rfl,by simpa using N1,λj H=>Ž,k1.1,λc o I u u e=>k1.extBut _ _ I e⟩
 .rintro x L b s1 ⟨rfl,k,F,C,J,hk,R,rfl,G,ho,hs,kp⟩;have h:k<n:=by
   rcases Nat.lt_or_ge k n with z|z
   .exact z
   .rw[Vz (by simpa using z)]at R;cases R
  rw[CD rfl h]at R;let⟨rfl,P⟩:=List.cons.inj R;refine af (wpAny_onRaise ?_);show aX _ _ (Builtin.SmallTypes.nextOf (.ref (d k)) >>= _) _ _ _;have O:=G.iter k h;simp only[t5,if_false]at O;cases hx:(p k)[m]? with
  |none=>
   refine af (wpAny_nextOf_list_end hh O (G.lst k h) hx λh3 e X he =>?_);let⟨oe,S,hce⟩:=he;have zz3:IsZip h3 z i f .ellipsis:=X _ _ (bE (D.iz k h).1) G.zz;let hez:e≠z:=λq=>by subst q;rw[zz3]at S;cases S<;>grind
   refine u5 zz3 ż λh4 u t=>hE ⟨k,h,hx⟩ h4 e (λc o I c2 T q=>t.extBut _ _ I (X _ _ (T k h) (kp c o I c2 T q))) ⟨oe,t.extBut _ _ hez S,hce⟩
  |some y=>
   refine af (wpAny_nextOf_list_item O (G.lst k h) hx λh3 i3 X=>ax ?_);have K:=G.adv D h (by simpa using i3) X;dsimp only;refine af (u6 K.to rfl ?_);dsimp only;have hsz:C.size<=aU:=by rw[K.sz,iX];lia
   refine af (Vt K.to rfl ?_ hsz (by simp;lia));have up:TupAt (h3.update f (nW λq=>q.setIfInBounds k y)) f (C.setIfInBounds k y):=by show Heap.get? _ _=_;rw[f_ _ K.to rfl];simp[nW]
   have N4:=K.Tc D up (by simpa using K.sz) (mB ..);refine af (wpAny_letGo (ax ?_));refine⟨rfl,k+1,_,C.setIfInBounds k y,λj=>if j=k then y else J j,h,P,rfl,?_,λj H =>?_,?_,λc o I c2 T q =>?_⟩
   .have:(λj=>if j=k then (if j<k then m+1 else m)+1 else if j<k then m+1 else m)=λj=>if j<k+1 then m+1 else m:=by
     funext j
     by_cases e:j=k<;>grind
    rw[this]at N4;exact N4
   .by_cases e:j=k
    .subst e;simp only[if_true];exact⟨hx,by rw[Array.getElem?_setIfInBounds_self_of_lt];rw[G.sz];exact h⟩
    .simp only[if_neg e];let⟨a,b⟩:=ho j Ž;exact⟨a,by rw[Array.getElem?_setIfInBounds_ne (by lia)];exact b⟩
   .rw[Heap.size_update,X.1,hs]
   .exact(mB h3 f _).extBut _ _ c2 (X.extBut _ _ (T k h) (kp c o I c2 T q))
 .rintro b s1 ⟨rfl,k,F,C,J,hk,R,rfl,G,ho,hs,kp⟩;have h:k=n:=by
   rcases Nat.lt_or_ge k n with z|z
   .rw[CD rfl z]at R;cases R
   .lia
  subst h;let aeb:C=((cm k).map J).toArray:=by
   apply Array.ext_getElem?;intro j;by_cases H:j<k
   .rw[(ho j H).2];simp[H]
   .rw[jC (by rw[G.sz];lia)]
    symm
    apply jC;simp;lia
  subst aeb;dsimp only;refine af (u6 G.to rfl ?_);dsimp only;refine af (wpAny_newTuple ?_ (by simp;rw[iX];lia));have zlt:z<F.objs.size:=aD G.zz;have ext:∀c o,F.get? c=Y o->(F.push { cls :=.type "tuple",data :=.seq ((cm k).map J).toArray }).get? c=Y o:=λc o q=>ae _ q
  have K:ZN _ z i f k d l p _ .ellipsis ((cm k).map J).toArray:=
   ⟨ext _ _ G.zz,ext _ _ G.ti,ext _ _ G.to,G.sz,λj H=>(G.iter j H).at (λo q=>ext _ _ q),λj H=>(G.lst j H).at (λo q=>ext _ _ q)⟩
  refine af ?_;unfold Builtin.SmallTypes.ownedTupleHandOut;refine af (u5 K.zz ż λh4 z4 t =>?_);have N4:=K.Tb D z4 t;refine u5 N4.zz ż λh5 z5 k5 =>?_
  have U:=N4.Tb D z5 k5;let tup:TupAt h5 F.objs.size ((cm k).map J).toArray:=k5.extBut _ _ (gG zlt) (t.extBut _ _ (gG zlt) (aF _ rfl));let sz5:h5.objs.size=F.objs.size+1:=by rw[k5.1,t.1,cM]
  refine ax ⟨_,rfl,?_⟩;rw[hs]at U tup sz5;show Q (.ref F.objs.size) _;rw[hs];refine hQ h5 J (λj H=>(ho j H).1) ⟨U.zz,U.ti,U.to,U.sz,λj H=>by simpa [H] using U.iter j H,U.lst⟩ tup sz5 λc o I c2 T q=>(λc o I q=>k5.extBut _ _ I (t.extBut _ _ I (ext c o q))) c o I (kp c o I c2 T q)
def x3(v:A.handled=M)(k:0<n)(a:n<=100)(D:ZA z i f n d l)(N:ZN s.heap z i f n d l p (λ_=>m) .none r) (F:∀g x,(∀j,j<n->(p j)[m]?=Y (x j))->ZN g z i f n d l p (λ_=>m+1) (u9 s.heap.objs.size) ((cm n).map x).toArray->TupAt g s.heap.objs.size ((cm n).map x).toArray->g.objs.size=s.heap.objs.size+1 ->
   HA z f n d s.heap g->Q (Y (.ref s.heap.objs.size)) { s with heap:=g }) (G:(∃j,j<n/\(p j)[m]?=M)->∀g,HA z f n d s.heap g->Q M { s with heap:=g }):aX (bc B w) A (Si (.ref z)) Q E s:=by
 have b:s.TypeIs (.ref z) _:=⟨_,N.zz,rfl⟩;refine af (wpAny_attempt (nY b PySem.F.slot_zip_next
  (hU PySem.F.slot_zip_next b PySem.F.entry_zip_next (Mx v k a D N (λg x L K J I H=>ax (F g x L K J I H)) λq g e c y =>?_) (PySem.F.args_zip_next_1 _))))
 let⟨o,h,C⟩:=y;exact af (Sf ⟨o,h,C⟩ isSubtype_stop (ax (G q _ c)))
end
noncomputable def lC{d:Type}(a b c:d):Nat->d
 |0=>a|1=>b|_=>c
def My(a b c:aj):checkTypeCall "zip" ⟨[a,b,c],[]⟩=cQ ():=by kernel_rfl
def OD(a b c:aj):checkBuiltinCall "zip.__new__" ⟨[.type "zip",a,b,c],[]⟩=cQ ():=by kernel_rfl
def aaW(a b c d:aj):argsOk "object.__init__" ⟨[a,b,c,d],[]⟩:=by
 exact ź
noncomputable abbrev itO(l:aw):Obj:={ cls :=.type "list_iterator",data :=.fields #[.ref l,.int 0 0] }
section
variable (h:cF)(a b c:aw)
abbrev zA:cF:=h.push (itO a)
abbrev zB:cF:=(zA h a).push (itO b)
abbrev zC:cF:=(zB h a b).push (itO c)
abbrev zT:cF:=(zC h a b c).push { cls :=.type "tuple",data :=.seq #[.ref h.objs.size,.ref (zA h a).objs.size,.ref (zB h a b).objs.size] }
abbrev zO:cF:=(zT h a b c).push { cls :=.type "tuple",data :=.seq #[.none,.none,.none] }
abbrev zZ:cF:=(zO h a b c).push { cls :=.type "zip",data :=.fields #[.none,.bool Z_,.bool Z_,.ref (zC h a b c).objs.size,.ref (zT h a b c).objs.size] }
end
def Ib(a b c:aw)(m l k:Array aj):
  Meets (Builtin.«zip.__new__» ⟨[.type "zip",.ref a,.ref b,.ref c],[]⟩) (λ_ R s=>s.heap.IsList a m/\s.heap.IsList b l/\s.heap.IsList c k/\R (.ok (.ret (.ref (zO s.heap a b c).objs.size))) { s with heap:=zZ s.heap a b c }):=
 .of_wp λf w A R s h=>by
  let⟨q,p,o,h⟩:=h;let n:=sub_zip
  wp_walk using iW q,iW (Sn p _),iW (Sn (Sn o _) _)
  exact⟨_,rfl,h⟩
section
variable {f:aZ}{s:ar}
def NW{m:Array aj}(B:s.heap.IsList a p)(z:s.heap.IsList b n)(y:s.heap.IsList c m) (h:∀d,IsZip d (s.heap.objs.size+5) (s.heap.objs.size+3) (s.heap.objs.size+4) .none->TupAt d (s.heap.objs.size+3) #[.ref s.heap.objs.size,.ref (s.heap.objs.size+1),.ref (s.heap.objs.size+2)] ->
   TupAt d (s.heap.objs.size+4) #[.none,.none,.none]->d.IsListIter s.heap.objs.size a 0->d.IsListIter (s.heap.objs.size+1) b 0->d.IsListIter (s.heap.objs.size+2) c 0 ->
   (∀c o,s.heap.get? c=Y o->d.get? c=Y o)->Q (.ref (s.heap.objs.size+5)) { s with heap:=d }) :
  aX (bc f w) A (call (.type "zip") [.ref a,.ref b,.ref c]) Q E s:=by
 refine callType_new PySem.F.called_zip ſ (My _ _ _) (OD _ _ _) (λk=>aaW k _ _ _) PySem.F.entry_zip_new (Ib a b c p n m) ⟨B,z,y,?_⟩;let j:(zA s.heap a).objs.size=s.heap.objs.size+1:=cM ..;have i:(zB s.heap a b).objs.size=s.heap.objs.size+2:=by rw[cM,j]
 have g:(zC s.heap a b c).objs.size=s.heap.objs.size+3:=by rw[cM,i]
 have e:(zT s.heap a b c).objs.size=s.heap.objs.size+4:=by rw[cM,g]
 have q:(zO s.heap a b c).objs.size=s.heap.objs.size+5:=by rw[cM,e]
 have l:(zZ s.heap a b c).get? _=Y _:=aF _ rfl;let r:(zZ s.heap a b c).get? _=Y _:=ae _ (aF _ rfl);let t:(zZ s.heap a b c).get? _=Y _:=ae _ (ae _ (aF _ rfl));let u:(zZ s.heap a b c).get? _=Y _:=ae _ (ae _ (ae _ (aF _ rfl)));let v:(zZ s.heap a b c).get? _=Y _:=ae _ (ae _ (ae _ (ae _ (aF _ rfl))));show _/\_;rw[g,e,q]at l;rw[e]at r;rw[g,j,i]at t;rw[i]at u;rw[j]at v;rw[q];exact⟨⟨_,l,rfl⟩,h _ l t r ⟨_,(ae _ (ae _ (ae _ (ae _ (ae _ (aF _ rfl)))))),rfl,rfl⟩ ⟨_,v,rfl,rfl⟩ ⟨_,u,rfl,rfl⟩ λc o x=>ae _ (ae _ (ae _ (ae _ (ae _ (ae _ x)))))⟩
end
noncomputable def Y3(K:aP)(a b c:aw):It:=
 ⟨λi H=>∃g e d x y z,mh K H a g/\mh K H b e/\mh K H c d/\g[i]?=Y x/\e[i]?=Y y/\d[i]?=Y z,
  λi H v h=>∃x y z p,(∀g,mh K H a g->g[i]?=Y x)/\(∀e,mh K H b e->e[i]?=Y y)/\(∀d,mh K H c d->d[i]?=Y z)/\H p=M/\v=.ref p/\h=dA H p (.tup [x,y,z]),
  λi H=>∃g e d,mh K H a g/\mh K H b e/\mh K H c d/\(g.length<=i\/e.length<=i\/d.length<=i)⟩
def ZSt(z l k j g e a b c:aw)(i:Nat)(h:cF):Prop:=∃d:Array aj,d.size=3/\IsZip h z l k .none/\TupAt h l #[.ref j,.ref g,.ref e]/\TupAt h k d/\h.IsListIter j a i/\h.IsListIter g b i/\h.IsListIter e c i
theorem ri{P:Nat->Prop}(c:P 0)(b:P 1)(a:P 2):∀j,j<3->P j
 |0,_=>c|1,_=>b|2,_=>a
def MC{P:aZ}{K:aP}{x1}(a b c z L C J G F:aw)(Z:ZA z L C 3 (lC J G F) (lC a b c)):
  Ca P w K (.Tuple ab5 x1 ZX) (Y3 K a b c) [z,L,C,J,G,F] z (ZSt z L C J G F a b c) where
 mem:=by simp
 obj:=λi h st d hc=>by
  let⟨p,s0,s1,s2,s3,s4,s5,s6⟩:=st;simp only[aq,eP,or_false]at hc;rcases hc with rfl|rfl|rfl|rfl|rfl|rfl
  .exact⟨_,s1,λv z=>by cases z⟩
  .exact⟨_,s2,λv z=>by cases z⟩
  .exact⟨_,s3,λv z=>by cases z⟩
  .let⟨o,e,c,d⟩:=s4;exact⟨o,e,λv z=>by rw[d]at z;cases z⟩
  .let⟨o,e,c,d⟩:=s5;exact⟨o,e,λv z=>by rw[d]at z;cases z⟩
  .let⟨o,e,c,d⟩:=s6;exact⟨o,e,λv z=>by rw[d]at z;cases z⟩
 keep:=λi h h' st k=>by let⟨p,s0,s1,s2,s3,s4,s5,s6⟩:=st;exact⟨p,s0,k z ż _ s1,k L ż _ s2,k C ż _ s3,s4.at λo q=>k J ż o q,s5.at λo q=>k G ż o q,s6.at λo q=>k F ż o q⟩
 item:=by
  intro X hP hw hK hc i D s σ H E I hf st hg;subst hP hw hK;let⟨p,s0,s1,s2,s3,s4,s5,s6⟩:=st;let⟨xs,ys,zs,x,y,zz,hq1,Zy,hq3,m,hy,hzz⟩:=hg;let⟨T,rv1,p1,hz1⟩:=I.list hq1;let⟨S,rv2,p2,hz2⟩:=I.list Zy;let⟨R,rv3,p3,hz3⟩:=I.list hq3;let⟨u1,hu1,ru1⟩:=rv1.get m;let⟨u2,hu2,ru2⟩:=rv2.get hy;let⟨u3,hu3,ru3⟩:=rv3.get hzz;let f:∀d∈[z,L,C,J,G,F],Bo X D H d:=hf;have N:ZN s.heap z L C 3 (lC J G F) (lC a b c) (lC T.toArray S.toArray R.toArray) (λA=>i) .none p:=⟨s1,s2,s3,s0,ri s4 s5 s6,ri p1.isList p2.isList p3.isList⟩;refine x3 (I.ok.hd hc) ſ ſ Z N (λh1 xx t N1 t1 z1 k1 =>?_) λhe =>?_
  .let e1:xx 0=u1:=by have:=t 0 ſ;simp[lC]at this;rw[hu1]at this;cases this;rfl
   let e2:xx 1=u2:=by have:=t 1 ſ;simp[lC]at this;rw[hu2]at this;cases this;rfl
   let e3:xx 2=u3:=by have:=t 2 ſ;simp[lC]at this;rw[hu3]at this;cases this;rfl
   let t1:TupAt h1 s.heap.objs.size #[u1,u2,u3]:=by have:=t1;simpa [List.range_succ,e1,e2,e3] using this
   refine⟨_,rfl,?_⟩;refine wpAny_letOwnedTupleGo_zip (s:={ s with heap:=h1 }) N1.zz λh2 YD w2 =>?_
   let hzp:z<s.heap.objs.size:=aD s1;let hn:H s.heap.objs.size=none:=I.fQ.fresh (av _);let w2':fM z h1 h2:=w2;have N2:=N1.Tb Z YD w2';have g:∀d o,d∉[z,L,C,J,G,F]->s.heap.get? d=Y o->h2.get? d=Y o:=λd o l q=>by
    have n1:d≠z:=λe=>l (by simp[e])
    let n2:d≠C:=λe=>l (by simp[e])
    exact(w2'.2 d n1).trans (k1 d o n1 n2 (ri (λe=>l (by simp[e,lC])) (λe=>l (by simp[e,lC])) (λe=>l (by simp[e,lC]))) q)
   let tup:h2.get? s.heap.objs.size=Y { cls :=.type "tuple",data :=.seq #[u1,u2,u3] }:=(w2'.2 _ (gG hzp)).trans t1;have O:∀d o,H d=Y o->d∉[z,L,C,J,G,F]:=λd o q l=>by have:=(f d l).1;rw[this]at q;cases q
   let new:jF X.prog X.w (dA H s.heap.objs.size (.tup [x,y,zz])) h2 s.heap.objs.size (.tup [x,y,zz]):=
    ⟨by show 3<=aU;rw[iX];decide,[u1,u2,u3],.cons ru1 (.cons ru2 (.cons ru3 .nil)),_,tup,⟨rfl,rfl⟩,_,rfl⟩
   let U:pw X.prog X.w (dA H s.heap.objs.size (.tup [x,y,zz])) h2:=λd o q=>by
    by_cases l:d=s.heap.objs.size
    .subst l;rw[a_]at q;cases q;exact new
    .rw[aR l]at q;refine(I.fQ d o q).zF (λc v B r =>?_) (λc r=>by rw[aR (bp r hn)];exact r) λc ys r=>by rw[aR (bp r hn)];exact r
     rcases B with rfl|B
     .exact g _ _ (O _ _ q) r
     .exact g _ _ (O _ _ B) r
   have un:Un (Ey X.stack) [z,L,C,J,G,F] H (dA H s.heap.objs.size (.tup [x,y,zz])) s.heap h2:=by
    let old:∀b o,s.heap.get? b=Y o->b≠s.heap.objs.size:=λb o q=>bf (aD q)
    exact⟨λb o q n A m=>g b o m q,λb o q n A m=>⟨o.slots,g b o m q⟩,λb o q n m=>by rw[aR (old b o q)];exact n,
     λb o q m=>⟨o,g b o m q⟩,λb ys q=>by rw[aR (bp q hn)];exact q,λb o u q=>by rw[aR (bp q hn)];exact q,λb ps q=>⟨#[],by rw[aR (bp q hn)];simpa using q⟩⟩
   let I2:Inv X D σ (dA H s.heap.objs.size (.tup [x,y,zz])) { s with heap:=h2 }:=I.Ho (s':={ s with heap:=h2 }) rfl un U I.bare λb l=>⟨(f b l).2.2.2.1,(f b l).2.1,(f b l).2.2.2.2.1,(f b l).2.2.2.2.2⟩
   refine⟨.ref s.heap.objs.size,_,I2,rfl,⟨x,y,zz,s.heap.objs.size,λq hq=>by rw[I.pU hq hq1];exact m,λq hq=>by rw[I.pU hq Zy];exact hy,λq hq=>by rw[I.pU hq hq3];exact hzz,hn,rfl,rfl⟩,⟨_,N2.sz,N2.zz,N2.ti,N2.to,N2.iter 0 ſ,N2.iter 1 ſ,N2.iter 2 ſ⟩,λd hd =>?_⟩;have:d≠s.heap.objs.size:=by
    simp only[aq,eP,or_false]at hd;rcases hd with rfl|rfl|rfl|rfl|rfl|rfl
    .exact bf hzp
    .exact bf (aD s2)
    .exact bf (aD s3)
    .let⟨o,q,_⟩:=s4;exact bf (aD q)
    .let⟨o,q,_⟩:=s5;exact bf (aD q)
    .let⟨o,q,_⟩:=s6;exact bf (aD q)
   rw[aR this];exact(f d hd).1
  .exfalso;let⟨j,hj,q⟩:=he
   match j,hj,q with
   |0,_,q=>simp[lC]at q;rw[kW.mpr q]at hu1;cases hu1|1,_,q=>simp[lC]at q;rw[kW.mpr q]at hu2;cases hu2|2,_,q=>simp[lC]at q;rw[kW.mpr q]at hu3;cases hu3
 done:=by
  intro X hP hw hK hc i D s σ H E I hf st hg;subst hP hw hK;let⟨p,s0,s1,s2,s3,s4,s5,s6⟩:=st;let⟨xs,ys,zs,hq1,Zy,hq3,m⟩:=hg;let⟨T,rv1,p1,hz1⟩:=I.list hq1;let⟨S,rv2,p2,hz2⟩:=I.list Zy;let⟨R,rv3,p3,hz3⟩:=I.list hq3;let l1:=rv1.length;let l2:=rv2.length;let l3:=rv3.length;let f:∀d∈[z,L,C,J,G,F],Bo X D H d:=hf;have N:ZN s.heap z L C 3 (lC J G F) (lC a b c) (lC T.toArray S.toArray R.toArray) (λA=>i) .none p:=⟨s1,s2,s3,s0,ri s4 s5 s6,ri p1.isList p2.isList p3.isList⟩;refine x3 (I.ok.hd hc) ſ ſ Z N (λh1 xx t =>?_) λA h' eb=>⟨rfl,?_⟩
  .exfalso;let q1:=t 0 ſ;let q2:=t 1 ſ;let q3:=t 2 ſ;simp[lC]at q1 q2 q3;have:=(au.mp q1).1;have:=(au.mp q2).1;have:=(au.mp q3).1
   lia
  .have O:∀b o,H b=Y o->b∉[z,L,C,J,G,F]:=λb o q l=>by
    have:=(f b l).1
    simp_all
   have g:∀d o,d∉[z,L,C,J,G,F]->s.heap.get? d=Y o->h'.get? d=Y o:=λd o l q=>eb d o (λe=>l (by simp[e])) (λe=>l (by simp[e])) (ri (λe=>l (by simp[e,lC])) (λe=>l (by simp[e,lC])) (λe=>l (by simp[e,lC]))) q
   let U:pw X.prog X.w H h':=λb o q=>by
    refine(I.fQ b o q).zF (λc v B r =>?_) (λc r=>r) λc ys r=>r
    grind
   have un:Un (Ey X.stack) [z,L,C,J,G,F] H H s.heap h':=
    ⟨λb o q n A m=>g b o m q,λb o q n A m=>⟨o.slots,g b o m q⟩,λb o q n m=>n,λb o q m=>⟨o,g b o m q⟩,λb ys q=>q,λb o u q=>q,λb ps q=>⟨#[],by simpa using q⟩⟩
   exact I.Ho (s':={ s with heap:=h' }) rfl un U I.bare λb l=>⟨(f b l).2.2.2.1,(f b l).2.1,(f b l).2.2.2.2.1,(f b l).2.2.2.2.2⟩
 self:=λA i s Q E st h=>by let⟨p,s0,s1,_⟩:=st;exact wpAny_pyIter_zip s1 h
section
variable {X:Cx}{f:DF}
def Yc(K:aP)(k:TA):TI:=λe H R=>k e H λj d=>∃a b c,j=[.ref a,.ref b,.ref c]/\(∃i,mh K d a i)/\(∃h,mh K d b h)/\(∃f,mh K d c f)/\R (Y3 K a b c) d
def b8.three(r:b8 [x,y,z] a):∃u v w,a=[u,v,w]/\RelV x u/\RelV y v/\RelV z w:=by
 cases r with
 | cons d t=>cases t with
  | cons c t=>cases t with
   |cons b t=>cases t;exact⟨_,_,_,rfl,d,c,b⟩
def Tx{x1}(hg:Gl X "zip")(hm:X.mg "zip" = M)(ha:PA X [e,l,g] ta)(hs:autoParam (ak [e,l,g] X.env=[(Z_,eval e X.env),(Z_,eval l X.env),(Z_,eval g X.env)]) Ŭ)(K:autoParam (ak [l,g] X.env=[(Z_,eval l X.env),(Z_,eval g X.env)]) Ŭ)(hv:autoParam (d9 "zip" = Y (.type "zip")) ţ):PI X (.Tuple L x1 t) (.Call (.Name "zip" p) [e,l,g] [] x) (Yc X.K ta):=by
 intro D s σ H R I h;refine Call_ (qz I hg hm hv (eQ (fu (ha x D s σ H _ I h) ?_) (by rw[hs,K]) (by rw[K];rfl)));rintro us f ⟨vs,H1,r,r1,q1⟩;obtain⟨a,b,c,rfl,⟨xs,P⟩,⟨ys,O⟩,⟨zs,N⟩,q⟩:=q1;let⟨u,v,w,rfl,ru,rv,n⟩:=b8.three r1;cases ru;cases rv;cases n;let⟨ahw,rx1,C,hz1⟩:=r.list P;let⟨ahv,rx2,B,hz2⟩:=r.list O;let⟨ahu,rx3,y,hz3⟩:=r.list N;let⟨oa,T,_⟩:=C.isList;let⟨ob,S,_⟩:=B.isList;let⟨oc,Q,_⟩:=y.isList;let J:=aD T;let G:=aD S;let F:=aD Q;refine NW C.isList B.isList y.isList λh' z1 z2 z3 z4 z5 z6 k1 =>?_
 refine wpAny_pyIter_zip z1 ?_;have i:∀k:Nat,H1 (f.heap.objs.size+k)=none:=λk=>r.fQ.fresh (gL _ _)
 have m:∀ {d:aw}(k:Nat),d<f.heap.objs.size->d≠f.heap.objs.size+k:=fun {d} k h z=>by rw[z]at h;exact absurd h (Nat.not_lt.mpr (gL _ _))
 have o:∀j k:Nat,j≠k->f.heap.objs.size+j≠f.heap.objs.size+k:=λj k h z=>h (Nat.add_left_cancel z)
 let Z:ZA (f.heap.objs.size+5) (f.heap.objs.size+3) (f.heap.objs.size+4) 3 (lC (f.heap.objs.size+0) (f.heap.objs.size+1) (f.heap.objs.size+2)) (lC a b c):=by
  refine⟨o 3 5 ſ,o 4 5 ſ,o 3 4 ſ,ri ⟨o 0 5 ſ,o 0 3 ſ,o 0 4 ſ⟩ ⟨o 1 5 ſ,o 1 3 ſ,o 1 4 ſ⟩ ⟨o 2 5 ſ,o 2 3 ſ,o 2 4 ſ⟩,λj k hj hk U =>?_,?_⟩
  .have E:∀j,j<3->lC (f.heap.objs.size+0) (f.heap.objs.size+1) (f.heap.objs.size+2) j=f.heap.objs.size+j:=ri rfl rfl rfl;rw[E j hj,E k hk];exact o j k U
  .exact ri ⟨m 5 J,m 4 J,ri (m 0 J) (m 1 J) (m 2 J)⟩ ⟨m 5 G,m 4 G,ri (m 0 G) (m 1 G) (m 2 G)⟩ ⟨m 5 F,m 4 F,ri (m 0 F) (m 1 F) (m 2 F)⟩
 refine⟨f.heap.objs.size+5,_,_,_,H1,rfl,r.kept k1,
  MC a b c (f.heap.objs.size+5) (f.heap.objs.size+3) (f.heap.objs.size+4) (f.heap.objs.size+0) (f.heap.objs.size+1) (f.heap.objs.size+2) Z,⟨_,rfl,z1,z2,z3,z4,z5,z6⟩,λd hd =>?_,q⟩
 simp only[aq,eP,or_false]at hd;rcases hd with rfl|rfl|rfl|rfl|rfl|rfl
 .exact r.uS (gL _ _) (i 5)
 .exact r.uS (gL _ _) (i 3)
 .exact r.uS (gL _ _) (i 4)
 .exact r.uS (gL _ _) (i 0)
 .exact r.uS (gL _ _) (i 1)
 .exact r.uS (gL _ _) (i 2)
noncomputable def hZ:List D->List D->List D->List D
 |x::c,y::b,z::a =>.tup [x,y,z]::hZ c b a|_,_,_=>[]
theorem wX:∀(c b a:List D),(hZ c b a).length=min c.length (min b.length a.length)
 |[],b,a=>by simp[hZ]
 |x::c,[],a=>by simp[hZ]
 |x::c,y::b,[]=>by simp[hZ]
 |x::c,y::b,z::a=>by simp[hZ,wX c b a]
theorem Ce:∀ {c b a:List D}{i:Nat}{d:D},(hZ c b a)[i]?=Y d->∃x y z,c[i]?=Y x/\b[i]?=Y y/\a[i]?=Y z/\d=.tup [x,y,z]
 |[],b,a,i,d,h=>by simp[hZ]at h
 |x::c,[],a,i,d,h=>by simp[hZ]at h
 |x::c,y::b,[],i,d,h=>by simp[hZ]at h
 |x::c,y::b,z::a,0,d,h=>by simp[hZ]at h;exact⟨x,y,z,rfl,rfl,rfl,h.symm⟩
 |x::c,y::b,z::a,i+1,d,h=>by simp only[hZ,vf]at h ⊢;exact Ce h
def Nl{K:aP}{f e:List V}(g:G a=Y (.lst f))(L:G b=Y (.lst h))(J:G c=Y (.lst e))(r:bh K G ds f)(U:bh K G es h)(o:bh K G fs e):yG K G (Y3 K a b c) (hZ ds es fs):=by
 let l1:=r.length;let l2:=U.length;let l3:=o.length;refine⟨λi H s I =>?_,λi H s I=>⟨f,h,e,.of (s _ _ g),.of (s _ _ L),.of (s _ _ J),by grind [wX]⟩,λi H x H' G1 d v k ⟨y,T,j,p,P,O,N,X,ev,eh⟩ hd =>?_⟩
 .rw[wX]at I;have P:i<f.length:=Ž
  have O:i<h.length:=Ž
  have N:i<e.length:=Ž
  exact⟨f,h,e,f[i],h[i],e[i],.of (s _ _ g),.of (s _ _ L),.of (s _ _ J),by simp[P],by simp[O],by simp[N]⟩
 .let⟨c1,c2,c3,S,R,Q,rfl⟩:=Ce hd;let F:=P f (.of (k _ _ (v _ _ g)));let E:=O h (.of (k _ _ (v _ _ L)));let C:=N e (.of (k _ _ (v _ _ J)));let⟨v1,u,B⟩:=r.get S;let⟨v2,t,z⟩:=U.get R;let⟨v3,q,w⟩:=o.get Q;rw[F]at u;cases u;rw[E]at t;cases t;rw[C]at q;cases q;subst ev eh;have m:=v.trans (.alloc (o :=.tup [y,T,j]) (k.free X));exact⟨_,gc.alloc k X,lW ⟨p,_,rfl,a_,.cons (cX.mono m c1 B) (.cons (cX.mono m c2 z) (.cons (cX.mono m c3 w) .nil))⟩⟩
def iZ3(f n A:DF):DL:=λa=>(iL f a).bind λd=>(iL n a).bind λc=>(iL A a).map λb=>hZ d c b
def UW{O}{m:Pos}(hg:Gl X "zip")(hm:X.mg "zip" = M)(h:PE X e (tP X.K Z f))(h':PE X l (tP X.K Z n))(E:PE X g (tP X.K Z A))(hs:autoParam (ak [e,l,g] X.env=[(Z_,eval e X.env),(Z_,eval l X.env),(Z_,eval g X.env)]) Ŭ)(C:autoParam (ak [l,g] X.env=[(Z_,eval l X.env),(Z_,eval g X.env)]) Ŭ)(D:autoParam (ak [e,l,g] X.env=(Z_,eval e X.env)::ak [l,g] X.env) Ŭ)(B:autoParam (ak [l,g] X.env=(Z_,eval l X.env)::ak [g] X.env) Ŭ)(z:autoParam (ak [g] X.env=(Z_,eval g X.env)::ak [] X.env) Ŭ):
  PI X (.Tuple r O m) (.Call (.Name "zip" p) [e,l,g] [] y) (yM X.K Z (iZ3 f n A)):=(Tx hg hm (fB h (fB h' (fB E mx z) B) D) hs C).imp <|by
 rintro σ H R ⟨G,u,ds,gh,F,j,k⟩;let⟨N,ef,j⟩:=aa.1 j;rcases i:iL n u with _|W
 .simp[i]at j
 rcases d:iL A u with _|L
 .simp_all
 simp only[i,d,ah,da]at j;cases j;refine⟨G,u,[.lst N,.lst W,.lst L],gh,F,?_,λvs G1 H1 s r1 =>?_⟩
 .simp_all [aC,aN,Es,ah]
 .let⟨v,t,rfl,rv,rt⟩:=bH.mp r1;let⟨v',t',rfl,w,x⟩:=bH.mp rt;let⟨T,U,rfl,o,q⟩:=bH.mp x;have:=dU.mp q;subst this;let⟨a,S,rfl,K,ra⟩:=cB.mp rv;let⟨b,Q,rfl,J,rb⟩:=cB.mp w;let⟨c,P,rfl,I,rc⟩:=cB.mp o;exact⟨a,b,c,rfl,⟨S,.of (s.gh _ _ K)⟩,⟨Q,.of (s.gh _ _ J)⟩,⟨P,.of (s.gh _ _ I)⟩,k _ G1 H1 s (Nl K J I ra rb rc)⟩
end
section
variable {X:Cx}
noncomputable def pf(c m:aH)(F:List D->Option D)(f:DF)(g:DL):DF:=λa=>(f a).bind λx=>match x with
 |.ins d b h=>if d=c/\m∉b then (g a).bind λe=>F (.ins d b h::e) else M
 |_=>M
set_option tactic.hygienic true in
def Qd{m:aH}{F:List D->Option D}{e:St}(n:wF X.K bq c=Y (Y (.ref C)))(l:∀e H Q,HP X.K Z g e H Q->t e H Q)(h:tP X.K Z (pf c m F k g) e H Q):FF C m (fw X.K F) [] E0 (tP X.K Z k) t e H Q:=by
 let⟨G,i,d,T,f,b,q⟩:=h;unfold pf at b;rw[aa]at b;let⟨x,p,b⟩:=b;split at b
 .split at b
  .rename_i R;let⟨rfl,P⟩:=R;rcases o:g i with _|z
   .simp_all
   rw[o]at b;refine⟨G,i,_,T,f,p,λv y H1 j s =>?_⟩;let⟨a,C',dx,vs,rfl,w,S,_⟩:=mL.mp s;rw[n]at w;cases w;refine⟨a,dx,_,rfl,j.gh _ _ S,sW (K:=X.K) (G:=y) P,l _ _ _ ⟨y,i,z,j.gh,f.ext j,o,λB G2 H2 r K =>?_⟩⟩;rw[br];exact⟨G2,_,d,r.gh,.cons (cX.mono r.gg _ s) K,b,λv G3 H3 E3 E=>q v G3 H3 ((j.trans r).trans E3) E⟩
  .cases b
 .cases b
def abD{c m:aH}{F:List D->Option D}{i:DF}{g:DL}(h:jy X.prog X.w X.K X.mg X.base c m k (fw X.K F))(l:fT k X.A)(p:PE X o (tP X.K Z i))(v:PA X (e::J) (HP X.K Z g))(a:autoParam (ak (e::J) X.env=(Z_,eval e X.env)::ak J X.env) Ŭ)(b:autoParam ((cP A (ak J X.env)).any (·.1)=false) Ŭ) (j:autoParam (eval (.Call (.Attribute o m I) (e::J) [] A) X.env=(do
   let d <- eval o X.env
   tY I.atName
   let(f,first) <- px [d] (qT d m pl)
   Fb A f first (cP A (ak (e::J) X.env)) (jL A (fi [] X.env)))) Ŭ):PE X (.Call (.Attribute o m I) (e::J) [] A) (tP X.K Z (pf c m F i g)):=by
 let⟨C,f,B,y,n,s,r,w,t⟩:=h.ex;exact(D4 p s r w l t .nil nI v a b j).imp λx H Q q=>Qd n (λu u u z=>z) q
def rz(a:Bool):D->D->Option D
 |y,.fS b c=>(AE y).map λk =>.bl (if a then !(bM b c k).isSome else (bM b c k).isSome)
 |_,_=>M
def Qi{K:aP}(r:bh K G b c):(tK (a.zip c) k).isSome=(bM a b k).isSome:=by
 rcases e:bM a b k with _|d
 .rw[uY r e];rfl
 let⟨v,f,_⟩:=qJ r e;rw[f];rfl
abbrev wS:=rz Z'
def pX(n:X.A.units+1<mY)(s:PE X e (tQ X.K Z L))(r:PE X o (tQ X.K Z N))(t:autoParam (g9 .NotIn o=false) Ŭ):PT X (.Compare e [.NotIn] [o] A) (qW X.K Z (cz (e2 wS L N))):=
 (Xb (MZ n s r) t).imp <|by
  rintro I H Q ⟨G,h,d,w,c,C,q⟩;let⟨x,y,B,z,b⟩:=zg (rR C);cases y<;>simp only[rz]at b<;>try (cases b)
  let⟨S,D,b⟩:=ai.1 b;cases b;refine⟨G,h,x,w,c,B,λv K H1 g k=>⟨K,h,_,g.gh,c.ext g,z,λu F E f j =>?_⟩⟩;obtain⟨a,P,rfl,⟨_,p⟩,l,i⟩:=j.YJ f.gh;let m:=pV D (k.ext f);subst m;exact⟨a,_,rfl,yH.k p,_,rfl,by rw[Qi i];exact q F E (g.trans f)⟩
def K3:D->D->Option D
 |.fS a b,y=>(AE y).bind λk=>bM a b k
 |_,_=>M
def U4(p:X.A.units+1<mY)(z:PE X o (tQ X.K Z L))(t:PE X e (tQ X.K Z N))(r:autoParam (Y0 e) Š):PE X (.Subscript o e A) (tP X.K Z (e2 K3 L N)):=
 (TH p z t r).imp <|by
  rintro S H Q ⟨G,i,d,B,c,F,q⟩;let⟨x,y,D,C,b⟩:=zg F;cases x<;>simp only[K3]at b<;>try simp_all
  let⟨kk,K,b⟩:=aa.1 b;refine⟨G,i,_,B,c,D,λv R H1 h m=>⟨R,i,y,h.gh,c.ext h,C,λu P I g k =>?_⟩⟩;obtain⟨a,T,rfl,⟨_,s⟩,l,j⟩:=(m.ext g).YJ g.gh;let n:=pV K k;subst n;let⟨w,E,f⟩:=qJ j b;exact⟨a,w,rfl,by rw[<- E];exact yH.k s,q w P I (h.trans g) f⟩
end
section
variable {X:Cx}{m:Pos}
end
section
variable {X:Cx}
def xn(b:Bool)(j:Nat)(c f:aH)(e:DM):DG:=λd=>(e d).bind λw=>(Oo b j w.2).bind λq=>(DU q.1 w.2).bind λa=>(GL c a.1 a.2 q.2).bind λz=>
 if GJ (eN z.1 f)=Z'/\z.2.1.length<999 then Y (.nx (w.2.set q.1 (Y (.obj a.1 (pI (.ins c (oj f w.1 z.2.1 z.2.2).1 (oj f w.1 z.2.1 z.2.2).2) q.2 a.2))))) else M
set_option tactic.hygienic true
def Hg{b:Bool}{c f:aH}{K:DM}(h:PE X (.Name x p) (i5 j))(he:PE X e (tM X.K B Z K))(J:tX X.K c f)(hj:autoParam (j∈Z) Ū)(hb:autoParam (b=Z'->Jk j∈Z) Ū)(ha:autoParam (f∉N5) Ū)(hs:autoParam (dy e (Y (.Attribute (.Name x p) f u)) n.line X.env=cQ false) Ŭ):PS X (.Assign [.Attribute (.Name x p) f u] e n) (kl X.K B y Z Z (xn b j c f K)):=(IK h he hs).imp <|by
 rintro D σ H ⟨G,E,o,S,i,k⟩;obtain⟨⟨d,F⟩,ef,i⟩:=aa.1 i;rcases q:Oo b j F with _|⟨r,T⟩
 .simp[q]at i
 rcases z:DU r F with _|⟨s,t⟩
 .simp[q,z]at i
 rcases I:GL c s t T with _|⟨fk,ks,ds⟩
 .simp[q,z,I]at i
 simp only[q,z,I,ah]at i;split at i
 .rename_i hz;cases i;let⟨i1,U⟩:=xH I;refine⟨G,E,d,F,S,ef,λv G' H' P s' R =>?_⟩;let⟨hr,s1,t',a,v',O,e2,e3,e4⟩:=P.Oo q hj hb;let w:=nc z;rw[w]at O;let⟨a',Q,C,dx,vs,N,g,L,f4,f5,f6⟩:=P.Yu hr w i1 U hz.1 ha R;rw[e2]at N;cases N;rw[e4]at g;cases g;refine⟨_,e3,Q,C,dx,_,rfl,f4,(J C L).1,(J C L).2,?_,k _ G' _ f6⟩;rw[yL f5];lia
 .cases i
end
section
variable {X:Cx}{m:List Nat}
end
def B8.mono{P:aZ}{K:aP}{d:Sp}(h:B8 P w K e b c j d)(i:j<=k):B8 P w K e b c k d:=by
 let⟨C,f,s,g,r,q,p,o,l⟩:=h.ex;exact⟨C,f,s,g,r,q,p,o.mono i,l⟩
section
variable {X:Cx}
def J1{c f m:aH}{fk1:List (aH×Sk)}{F:List D->Option (D×D)}(h:jy X.prog X.w X.K X.mg X.base a m k (spT X.K (.fs a fk1) F))(t:fT k X.A)(i:tX X.K c f)(w:PE X (.Name y p) (i5 j))(A:autoParam (j∈d) Ū)(o:autoParam (bS (.Name y p) f X.env (eval (.Name y p) X.env)=eval (.Name y p) X.env) Ŭ) (s:autoParam (eval (.Call (.Attribute (.Attribute (.Name y p) f l) m L) [] [] J) X.env=(do
   let r <- eval (.Attribute (.Name y p) f l) X.env
   tY L.atName
   let(f,first) <- px [r] (qT r m g)
   Fb J f first (cP J (ak [] X.env)) (jL J (fi [] X.env)))) Ŭ):PE X (.Call (.Attribute (.Attribute (.Name y p) f l) m L) [] [] J) (tM X.K B d (j3 c f a m (.fs a fk1) F j aN)):=by
 let⟨C,S,R,P,n,E,x,u,G⟩:=h.ex;exact(F6 (sg w o) E x u t G .nil nI s).imp λN H Q q=>CQ n i A (by rintro b H Q ⟨G,a,c,s,e,f,k⟩;cases f;exact k _ G H (.refl s) .nil) q
def A4(i:Nat)(c f j g:aH):DF:=λl=>(eV i l).bind λd=>match d with
 | .obj (.fs k e) (.ins a b p)=>if k=c/\a=c then (DI f b).bind λn=>(p[n]?).bind λq=>match eN e f,q with
  |.fs o e2,.ins s r h=>if (o=j/\s=j)/\GJ (eN e2 g)=Z' then (DI g r).bind λm=>h[m]? else M
  |_,_=>M
  else M
 |_=>M
set_option tactic.hygienic true in
def RF{c f c2:aH}(h:PE X (.Name x p) (i5 i))(j:tX X.K c f)(E:tX X.K c2 g)(hi:autoParam (i∈I) Ū)(hb:autoParam (bS (.Name x p) f X.env (eval (.Name x p) X.env)=eval (.Name x p) X.env) Ŭ)(L:autoParam (bS (.Attribute (.Name x p) f l) g X.env (eval (.Attribute (.Name x p) f l) X.env)=eval (.Attribute (.Name x p) f l) X.env) Ŭ):PE X (.Attribute (.Attribute (.Name x p) f l) g l2) (tP X.K I (A4 i c f c2 g)):=
 (sg (sg h hb) L).imp <|by
  rintro J H Q ⟨G,ρ,d,q,y,e,k⟩;unfold A4 at e;rw[aa]at e;let⟨o,z,e⟩:=e;split at e
  .split at e
   .rename_i U;let⟨rfl,rfl⟩:=U;rw[aa]at e;let⟨m,g1,e⟩:=e;rw[aa]at e;let⟨d2,ed,e⟩:=e;split at e
    .rename_i k2 e2 a2 b2 ds2 hs;split at e
     .rename_i U;obtain⟨⟨rfl,rfl⟩,hl⟩:=U;let⟨m2,O,e⟩:=aa.1 e;let⟨v,K,F⟩:=y.get i _ (gR z);rw[if_pos hi]at F;rcases F with r|⟨a,o,rfl,e3,S,e4,e5⟩
      .let⟨a,C,B,W,rfl,n,ha,b,R⟩:=mL.mp (qw.mp r);let⟨u,eu,P⟩:=R.get ed;let⟨a',w,B',M',rfl,A,N,b',R'⟩:=mL.mp P;let⟨u',eu',P'⟩:=R'.get e;exact⟨_,K,a,C,B,_,_,rfl,q _ _ ha,(j C n).1,(j C n).2,by rw[lL g1];exact eu,a',w,B',_,u',rfl,q _ _ N,(E w A).1,(E w A).2,by rw[lL O];exact eu',k u' G H (.refl q) P'⟩
      .cases e4 with
       |@ins _ _ _ _ _ C B W S n ea b t=>
        let⟨D,T1,U1,f1,T,_⟩:=t.at (by rw[aT,qA g1];rfl) ed;rw[hs]at T;cases T with
        |@ins _ _ _ _ a' w B' M' S' A ea' b' t'=>
         let s:(b2.map (eN e2))[m2]?=Y .lf:=by rw[aT,qA O,<- y9 hl];rfl
         let⟨D',T1',U1',f1',T',_⟩:=t'.at s e;cases T' with
         |leaf r=>exact⟨_,K,a,C,B,_,_,rfl,ea,(j C n).1,(j C n).2,by rw[lL g1];exact f1,a',w,B',_,D',rfl,ea',(E w A).1,(E w A).2,by rw[lL O];exact f1',k D' G H (.refl q) r⟩
     .cases e
    .cases e
   .cases e
  .cases e
def sV(F:List D->Option (D×List D×List D))(j:Nat)(f:DF)(c:DL)(g:DL):DM:=λa=>(dW j a).bind λb=>(f a).bind λd=>(c a).bind λc=>(g a).bind λe=>(F (.lst b::d :: .lst c::e)).map λq=>(q.1,a.set j (Y (.lst q.2.1)))
def NN{F:List D->Option (D×List D×List D)}{m1:Pos}{f:DF}(h:eL X.prog X.w X.K X.mg X.base x k (tN X.K 0 2 F))(hr:fT k X.A)(hg:Gl X x)(hy:PE X (.Name y m1) (i5 j))(hf:PE X e (tP X.K s f))(hz:PE X z (tF X.K s c))(ha:PA X l (HP X.K s g))(w:autoParam (j∈s) Ū)(N:autoParam ((x==("__debug__" : aH))=false) Ū)(O:autoParam (ak (.Name y m1::e::z::l) X.env=(Z_,eval (.Name y m1) X.env)::ak (e::z::l) X.env) Ŭ)(O1:autoParam (ak (e::z::l) X.env=(Z_,eval e X.env)::ak (z::l) X.env) Ŭ)(O2:autoParam (ak (z::l) X.env=(Z_,eval z X.env)::ak l X.env) Ŭ)(u:autoParam ((cP m (ak (e::z::l) X.env)).any (·.1)=false) Ŭ):PE X (.Call (.Name x p) (.Name y m1::e::z::l) [] m) (tM X.K B s (sV F j f c g)):=by
 let⟨fa,fd,ps,h1,hm,hk,hb⟩:=h.ex;refine(mO h1 hr hg hm hk hb .nil nI (bZ hy (bZ hf (bZ hz ha O2) O1) O) N O u).imp ?_;rintro σ H Q ⟨G,n,d,U,S,b,q⟩;unfold sV at b;let⟨r,E,b⟩:=aa.1 b;let⟨d1,ef,b⟩:=aa.1 b;let⟨r',E',b⟩:=aa.1 b;let⟨L,I,b⟩:=aa.1 b;obtain⟨⟨d',o,o'⟩,J,b⟩:=ai.1 b;cases b;let C:=cJ E;let⟨a,vs,K,_⟩:=S.ij w C;refine⟨_,K,G,n,d1,S.gh,S.iy,ef,λv1 G0 H0 E0' R0 =>?_⟩;let S0:=S.ext E0';refine⟨G0,n,r',S0.gh,S0.iy,E',λa' ZV G1 H1 W hn gn hl rl =>?_⟩;let S1:=S0.ext W;refine⟨G1,n,L,S1.gh,S1.iy,I,λus G2 H2 M2 N =>?_⟩;let R:=S1.ext M2;let⟨b1,t,P,f3,f4,f5,f6⟩:=R.ij w C;rw[K]at P;cases P;let⟨b0,t0,P,k3,_⟩:=S0.ij w C;rw[K]at P;cases P;let ne:a≠a':=bp k3 hn;have g2:G2 a'=none:=by
  rcases z:G2 a' with _|o
  .rfl
  rcases M2.fr a' o z with y|y<;>grind
 show tN X.K 0 2 F ((.ref a::v1 :: .ref a'::us)++[]) H2 Q E0;rw[br];refine⟨G2,.lst r::d1 :: .lst r'::L,d',o,o',a,a',t,ZV,r,r',M2.gh,rfl,rfl,f3,f4,f5,rfl,rfl,M2.hh _ _ hl,bh.mono M2.gg _ rl,g2,ne,λi c hi hi' ec =>?_,by simp[N.length],J,λv x y G3 H3 T g3 g3' h3 h3' r3 r3' r4 =>?_⟩
 .match i,hi,hi',ec with
  |0,hi,_,_=>exact absurd rfl hi|1,_,_,ec=>simp at ec;subst ec;exact⟨v1,rfl,cX.mono (W.gg.trans M2.gg) _ R0⟩|2,_,hi,_=>exact absurd rfl hi|i+3,_,_,ec=>exact N.get (i:=i) (by simpa using ec)
 .let B:=W.trans M2;refine q v G3 H3 (S0.called w C K ⟨λb o e=>T.hh b o ?_,B.gg.trans T.gg,T.gh,λb o e =>?_⟩ g3 h3 r3) ((E0'.gg.trans B.gg).trans T.gg) r4
  .have A:b≠a:=λz=>by subst z;rw[jV]at e;cases e
   rw[jf A]at e;let c2:b≠a':=λz=>by rw[z,hn]at e;cases e
   rw[jf c2,jf A];exact B.hh b o e
  .rcases T.fr b o e with z|z
   .rcases B.fr b o z with y|y
    .exact .inl y
    .refine .inr ?_;by_cases A:b=a
     .subst A;exact jV
     .rw[jf A];exact y
   .refine .inr ?_;by_cases A:b=a
    .subst A;exact jV
    rw[jf A];by_cases c2:b=a'
    .subst c2;exact hn
    rw[jf c2,jf A]at z;rcases qq:H0 b with _|o'
    .rfl
    rw[B.hh b o' qq]at z;cases z
end
variable {X:Cx}
def CM:D->D->Option D
 |.bl i,.bl j=>Y (.bl (!(i==j)))|_,_=>M
def TR:mj X (cR .IsNot) (λx y H Q=>∃i j,x=.bl i/\y=.bl j/\Q (.bl (!(i==j))) H):=by
 rintro a s d H x y v u Q I c b ⟨i,j,rfl,rfl,q⟩;cases c;cases b;exact isnot_bool (iI I q rfl)
def acg:yF X (cR .IsNot) CM:=mj.imp TR λx y H Q ⟨G,i,h,d,g,c,b,a,q⟩=>by
 unfold CM at a;split at a
 .cases a;exact⟨_,_,c.bl,b.bl,q _ G H (.refl g) (b_.mpr rfl)⟩
 .cases a
end L2
namespace L2
open PySem PySem.Spec PyProof.Rows
def Lev(K:aP)(G H:Hp)(l:aw)(a:List D)(tail:List V):Prop:=∃b,H l=Y (.lst (b++tail))/\bh K G a b
abbrev Zs:=List (aH×List D)
def iC(K:aP)(f G H:Hp):Zs->List aw->List D->aw->List V->Prop
 |[],a,d,b,tail=>a=[]/\Lev K G H b d tail|(e,c)::st,a,d,b,tail=>∃l r t,a=l::r/\Lev K G H l c tail/\H t=Y (.tup [.str e,.ref l])/\G t=M/\f t=M/\iC K f G H st r d b [.ref t]
section
variable {K:aP}{f:Hp}
def gc.nil{a:aw}(E:gc G H G' H')(h:H a=Y o)(g:G a=M):G' a=none:=by
 rcases q:G' a with _|u
 .rfl
 rcases E.fr a u q with z|z<;>grind
def Lev.ext{a:List D}{tail:List V}(E:gc G H G' H')(h:Lev K G H l a tail):Lev K G' H' l a tail:=by
 let⟨b,e,r⟩:=h;exact⟨b,E.hh _ _ e,bh.mono E.gg a r⟩
theorem iC.ext(E:gc G H G' H'):∀ {d:Zs}{a:List aw}{c:List D}{b:aw}{tail:List V},iC K f G H d a c b tail->iC K f G' H' d a c b tail
 |[],a,c,b,tail,h=>⟨h.1,h.2.ext E⟩|(o,i)::d,a,c,b,tail,h=>by let⟨l,r,t,e,k,g,n,m,j⟩:=h;exact⟨l,r,t,e,k.ext E,E.hh _ _ g,E.nil g n,m,j.ext E⟩
theorem iC.upd{a:aw}{o:List V}(m:H a=Y (.lst n)):∀ {g:Zs}{b:List aw}{d:List D}{c:aw}{tail:List V},a∉b->a≠c->iC K f G H g b d c tail->iC K f G (L2.dA H a (.lst o)) g b d c tail
 |[],b,d,c,tail,j,i,h=>by let⟨e,vs,q,r⟩:=h;exact⟨e,vs,by rw[aR (bE i)];exact q,r⟩
 | (A,v)::g,b,d,c,tail,j,i,h=>by
  obtain⟨l,r,t,rfl,⟨vs,q,p⟩,k,y,x,w⟩:=h;let u:l≠a:=λz=>j (by rw[z];exact aM)
  let s:t≠a:=K5 k m (by intro z;cases z);exact⟨l,r,t,rfl,⟨vs,by rw[aR u];exact q,p⟩,by rw[aR s];exact k,y,x,w.upd m (λz=>j (aB _ z)) i⟩
def iC.lay{p:aw}{o:HO}(s:bz G H)(e:H p=M){tail:List V}(h:iC K f G H a b d c tail):iC K f G (L2.dA H p o) a b d c tail:=h.ext (gc.lay s e)
def inner:Zs->List D->List D
 |[],b=>b|(_,a)::_,_=>a
def uE:Zs->List D->List D->Zs×List D
 |[],_,d=>([],d)|(a,_)::st,L0,d=>((a,d)::st,L0)
theorem iC.inner:∀ {e:Zs}{b:List aw}{d:List D}{c:aw}{tail:List V},iC K f G H e b d c tail->∃a,H (b.headD c)=Y (.lst (a++tail))/\bh K G (L2.inner e d) a
 |[],b,d,c,tail,h=>by let⟨rfl,a,q,r⟩:=h;exact⟨a,q,r⟩
 |(j,i)::e,b,d,c,tail,h=>by obtain⟨l,r,t,rfl,⟨a,q,g⟩,_⟩:=h;exact⟨a,q,g⟩
theorem iC.set{a:List V}(k:bh K G b c):∀ {j:Zs}{e:List aw}{i:List D}{d:aw}{tail:List V},(e++[d]).Nodup->iC K f G H j e i d tail ->
  iC K f G (L2.dA H (e.headD d) (.lst (c++a))) (uE j i b).1 e (uE j i b).2 d a
 |[],e,i,d,tail,m,h=>by let⟨rfl,o,q,r⟩:=h;exact⟨rfl,c,a_,k⟩
 |(y,s)::j,e,i,d,tail,m,h=>by obtain⟨l,r,t,rfl,⟨o,q,x⟩,n,w,v,u⟩:=h;let p:t≠l:=K5 n q (by intro z;cases z);let g:=cS.mp m;refine⟨l,r,t,rfl,⟨c,a_,k⟩,by rw[aR (show t≠(l::r).headD d from p)];exact n,w,v,iC.upd (a:=l) q (λz=>g.1 (aW _ z)) (λz=>g.1 (by rw[z];simp)) u⟩
def iC.close{m:aw}(s:bz G H)(nd:(O++[m]).Nodup)(gl:∀a∈O++[m],G a=M/\f a=M)(h:iC K f G H ((w,j)::d) O B m []):
  ∃l r G',O=l::r/\bz G G'/\bz G' H/\(∀b o,G' b=Y o->G b=Y o\/f b=M)/\(∀a∈r++[m],G' a=M)/\(∀a o,H a=Y (.lst o)->a∉O->G a=M->G' a=M) /\
   iC K f G' H (uE d B (L2.inner d B++[.tup [.str w,.lst j]])).1 r (uE d B (L2.inner d B++[.tup [.str w,.lst j]])).2 m []:=by
 obtain⟨l,r,t,rfl,⟨p,q,rr⟩,Q,gt,h0,hp⟩:=h;rw[br]at q;have L:=K5 Q q ż;have N:=cS.mp nd;have gl0:=gl l ż;let s1:bz G (L2.dA G l (.lst p)) :=.alloc gl0.1;have gt1:L2.dA G l (.lst p) t=none:=by rw[aR L];exact gt
 let s2:bz _ (L2.dA _ t (.tup [.str w,.ref l])) :=.alloc gt1;have sub:bz (L2.dA (L2.dA G l (.lst p)) t _) H:=λb o e=>by
  by_cases T:b=t
  .subst T;rw[a_]at e;cases e;exact Q
  .rw[aR T]at e;by_cases S:b=l
   .subst S;rw[a_]at e;cases e;exact q
   .rw[aR S]at e;exact s _ _ e
 have J:=
  lW ⟨t,_,rfl,a_,.cons (dI.mpr rfl) (.cons (cB.mpr ⟨l,p,rfl,by rw[aR (bE L),a_],bh.mono (s1.trans s2) j rr⟩) .nil)⟩
 have C:∀a o,H a=Y (.lst o)->a≠l->G a=M->L2.dA (L2.dA G l (.lst p)) t (.tup [.str w,.ref l]) a=none:=λa o e n g=>by
  have:a≠t:=λz=>by subst z;rw[Q]at e;cases e
  rw[aR this,aR n];exact g
 have afi:∀ {d:Zs}{r:List aw}{tail:List V},l∉r->iC K f G H d r B m tail->iC K f _ H d r B m tail:=fun {d}=>by
  induction d with
  |nil=>intro r tail _ h;let⟨e,u,i,y⟩:=h;exact⟨e,u,i,bh.mono (s1.trans s2) _ y⟩
  |cons c d ih=>
   intro r tail nl h;obtain⟨P,y,F,rfl,⟨u,i,v⟩,k,X,U,E⟩:=h;let n2:F≠t:=λz=>by
    subst z;rw[Q]at k;have:l=P:=by injection k with z;injection z with z;injection z with _ z;injection z with z;injection z
    exact nl (by rw[this];exact aM)
   exact⟨P,y,F,rfl,⟨u,i,bh.mono (s1.trans s2) _ v⟩,k,by rw[aR n2,aR (K5 k q (by intro z;cases z))];exact X,U,ih (λz=>nl (aB _ z)) E⟩
 have R:=afi (λz=>N.1 (aW _ z)) hp;refine⟨l,r,_,rfl,s1.trans s2,sub,λb o e =>?_,λa x =>?_,λa o e n g=>C a o e (λz=>n ŷ) g,?_⟩
 .by_cases T:b=t
  .subst T;exact .inr h0
  .rw[aR T]at e;by_cases S:b=l
   .subst S;exact .inr gl0.2
   .rw[aR S]at e;exact .inl e
 .let nal:a≠l:=λz=>N.1 (z ▸ x)
  have:a≠t:=λz=>by
   subst z;let X9:∀ {d:Zs}{r:List aw}{tail:List V},iC K f G H d r B m tail->∀a∈r++[m],∃o,H a=Y (.lst o):=fun {d}=>by
    induction d with
    |nil=>
     intro r tail h a x;let⟨rfl,u,i,_⟩:=h;have:a=m:=by simpa using x
     subst this;exact⟨_,i⟩
    |cons c d ih=>
     intro r tail h a x;obtain⟨P,y,F,rfl,⟨u,i,v⟩,k,X,U,E⟩:=h;rcases aq.mp x with rfl|x
     .exact⟨_,i⟩
     .exact ih E a x
   let⟨o,z⟩:=X9 hp a x;rw[Q]at z;cases z
  rw[aR this,aR nal];exact(gl a (aB _ x)).1
 .cases d with
  |nil=>let⟨e,u,i,y⟩:=R;exact⟨e,u++[.ref t],by rw[br];exact i,y.append (.cons J .nil)⟩
  |cons c d=>obtain⟨P,y,F,rfl,⟨u,i,v⟩,I⟩:=R;exact⟨P,y,F,rfl,⟨u++[.ref t],Ż,v.append (.cons J .nil)⟩,I⟩
end
def part(nm:aH)(a:List D):D :=.tup [.str nm,.lst a]
def wW(d:D)(st:Zs)(L0:List D):Zs×List D:=uE st L0 (inner st L0++[d])
noncomputable def ua:aH:=ab "open"
noncomputable def Cy:aH:=ab "text"
noncomputable def xo:aH:=ab "close"
def vn(z:Zs×List D)(s:D):Option (Zs×List D):=match s with
 |.tup [.str k,.str x]=>
  if k=ua then (if z.1=[]/\z.2≠[] then M else Y ((x,[])::z.1,z.2))
  else if k=Cy then (if z.1=[] then M else Y (wW (.str x) z.1 z.2)) else M
 |.tup [.str k]=>if k=xo then (match z.1 with|[]=>M|(b,a)::r=>Y (wW (part b a) r z.2)) else M
 |_=>M
def wA:List D->Zs×List D->Option (Zs×List D)
 |[],z=>Y z|s::a,z=>(vn z s).bind (wA a)
def L8(d:D):Zs->List D->List D
 |[],b=>b++[d]|(c,a)::st,b=>L8 (part c (a++[d])) st b
def zu:Zs->List D->List D
 |[],b=>b|(c,a)::st,b=>L8 (part c a) st b
def Ic(g:aH)(d:List D)(e:Zs)(h:List D):zu ((g,d)::e) h=zu (wW (part g d) e h).1 (wW (part g d) e h).2:=by
 cases e with
 |nil=>rfl|cons c e=>let⟨a,b⟩:=c;rfl
def oU(b:List D):Option D:=match b with
 |[.lst a]=>if a.length<=100000 then (wA a ([],[])).bind λz=>(zu z.1 z.2)[0]? else M
 |_=>M
theorem iC.Hn{K:aP}{f:Hp}{m:aw}:∀(n:Nat){G:Hp}{d:Zs}{j:List aw}{i:List D},d.length=n->bz G H->(j++[m]).Nodup->(∀a∈j++[m],G a=M/\f a=M)->iC K f G H d j i m [] ->
  ∃G' g,bz G G'/\bz G' H/\(∀b o,G' b=Y o->G b=Y o\/f b=M)/\H m=Y (.lst g)/\bh K G' (zu d i) g
 |0,G,d,j,i,k,s,p,v,h=>by have:d=[]:=ve.mp k;subst this;let⟨e,g,q,r⟩:=h;exact⟨G,g,bz.refl _,s,λO O e =>.inl e,by rw[<- br g];exact q,r⟩
 | n+1,G,d,j,i,k,s,p,v,h=>by
  cases d with
  |nil=>cases k|cons c d=>
   let⟨F,u⟩:=c;let⟨l,r,G',rfl,C,B,L,J,_,I⟩:=h.close s p v;let t:(uE d i (L2.inner d i++[.tup [.str F,.lst u]])).1.length=n:=by
    cases d with
    |nil=>simp[uE]at k ⊢;lia|cons c d=>let⟨a,b⟩:=c;simpa [uE] using k
   let⟨N,g,A,y,w,e,E⟩:=iC.Hn n t B (cS.mp p).2 (λa x=>⟨J a x,(v a (aB _ x)).2⟩) I;refine⟨N,g,C.trans A,y,λb o q =>?_,e,?_⟩
   .rcases w b o q with z|z
    .exact L b o z
    .exact .inr z
   .rw[Ic];exact E
structure B6(i:Nat)(z:Zs×List D):Prop where
 st:z.1.length<=i
 l0:z.2.length<=i
 all:∀p∈z.1,p.2.length<=i
def B6.inner(h:B6 i z):(L2.inner z.1 z.2).length<=i:=by
 let⟨a,b⟩:=z;cases a with
 |nil=>exact h.l0|cons c a=>exact h.all c aM
def B6.put(h:B6 i (g,j))(d:D):B6 (i+1) (wW d g j):=by
 let l:=h.inner;let k:g.length<=i:=h.st;let m:j.length<=i:=h.l0;cases g with
 |nil=>exact⟨by simp[wW,uE],by simp[wW,uE,L2.inner];lia,λp e=>by simp[wW,uE]at e⟩
 |cons c g=>
  let⟨a,b⟩:=c;refine⟨by simp[wW,uE]at k ⊢;lia,by simp[wW,uE];lia,λp e =>?_⟩;simp only[wW,uE,L2.inner]at e;rcases aq.mp e with rfl|e
  .have:=h.all (a,b) aM;simp at this ⊢;lia
  .have:=h.all p (aB _ e);lia
set_option tactic.hygienic true
def B6.step{s:D}(h:B6 i z)(e:vn z s=Y d):B6 (i+1) d:=by
 let⟨g,k⟩:=z;unfold vn at e;split at e
 .split at e
  .split at e
   .cases e
   .cases e;refine⟨by have:=h.st;simp at this ⊢;lia,by have:=h.l0;simp at this ⊢;lia,λp a =>?_⟩;rcases aq.mp a with rfl|a
    .simp
    .have:=h.all p a;lia
  .split at e
   .split at e
    .cases e
    .cases e;exact h.put _
   .cases e
 .split at e
  .split at e
   .cases e
   .cases e;rename_i j b r c;let c:g=(j,b)::r:=c;subst c;have:B6 i (r,k):=⟨by have:=h.st;simp at this ⊢;lia,h.l0,λp a=>h.all p (aB _ a)⟩;exact this.put _
  .cases e
 .cases e
def Fu{s:D}(e:vn z s=Y c):(∃x,s=.tup [.str ua,.str x]/\¬(z.1=[]/\z.2≠[])/\c=((x,[])::z.1,z.2)) \/
  (∃x,s=.tup [.str Cy,.str x]/\z.1≠[]/\c=wW (.str x) z.1 z.2)\/(∃d a r,s=.tup [.str xo]/\z.1=(d,a)::r/\c=wW (part d a) r z.2):=by
 unfold vn at e;split at e
 .split at e
  .rename_i k x b;subst b;split at e
   .cases e
   .cases e;rename_i h;exact .inl ⟨x,rfl,h,rfl⟩
  .split at e
   .rename_i k x _ b;subst b;split at e
    .cases e
    .cases e;rename_i h;exact .inr (.inl ⟨x,rfl,h,rfl⟩)
   .cases e
 .split at e
  .rename_i k b;subst b;split at e
   .cases e
   .cases e;rename_i d a r h;exact .inr (.inr ⟨d,a,r,rfl,h,rfl⟩)
  .cases e
 .cases e
set_option tactic.hygienic false
theorem iC.len{K:aP}{f:Hp}:∀ {b:Zs}{a:List aw}{d:List D}{c:aw}{tail:List V},iC K f G H b a d c tail->a.length=b.length
 |[],a,d,c,tail,h=>by rw[h.1];rfl
 |(i,e)::b,a,d,c,tail,h=>by let⟨l,r,t,rfl,_,_,_,_,g⟩:=h;simp[iC.len g]
def sOT:¬(ua=Cy):=by decide +kernel
def sOC:¬(ua=xo):=by decide +kernel
def sTC:¬(Cy=xo):=by decide +kernel
def GF(b:List aw)(a:aw):vk ((b++[a]).reverse.map V.ref) (-1)=Y (.ref (b.headD a)):=by
 cases b with
 |nil=>exact Hw [] _|cons l r=>
  have:((l::r++[a]).reverse.map V.ref)=((r++[a]).reverse.map V.ref)++[.ref l]:=by simp
  rw[this];exact Hw _ _
theorem iC.top{K:aP}{f:Hp}:∀ {i:Zs}{j:List aw}{d:List D}{g:aw}{tail:List V},iC K f G H i j d g tail->∃c,H g=Y (.lst c)/\(decide ((0:Int)<(c.length:Int))=decide (¬(d=[]/\i=[]/\tail=[])))
 | [],j,d,g,tail,h=>by
  let⟨_,c,q,r⟩:=h;refine⟨_,q,?_⟩;have n:(c++tail).length=d.length+tail.length:=by rw[aI,r.length]
  rw[n];cases d with
  | nil=>cases tail with
   |nil=>rfl|cons a b=>exact decide_eq_decide.mpr ⟨λ_ z=>by simp at z,λ_=>by simp only[aJ];lia⟩
  |cons a b=>exact decide_eq_decide.mpr ⟨λ_ z=>by simp at z,λ_=>by simp only[aJ];lia⟩
 |(o,k)::i,j,d,g,tail,h=>by let⟨l,r,t,rfl,_,_,_,_,m⟩:=h;let⟨c,q,e⟩:=iC.top m;exact⟨c,q,by rw[e];simp⟩
theorem iC.X9{K:aP}{f:Hp}:∀ {i:Zs}{r:List aw}{g:List D}{b:aw}{tail:List V},iC K f G H i r g b tail->∀a∈r++[b],∃o,H a=Y (.lst o)
 | [],r,g,b,tail,h,a,c=>by
  let⟨rfl,j,d,_⟩:=h;have:a=b:=by simpa using c
  subst this;exact⟨_,d⟩
 | (t,l)::i,r,g,b,tail,h,a,c=>by
  obtain⟨u,s,q,rfl,⟨j,d,k⟩,m,p,n,e⟩:=h;rcases aq.mp c with rfl|c
  .exact⟨_,d⟩
  .exact iC.X9 e a c
def sO(a:List aw)(b:aw):a.headD b∈a++[b]:=by cases a<;>simp
end L2
namespace K21
open PySem L2
local macro_rules | `(tactic|walk_at "s") => `(tactic|exact⟨rfl,rfl,rfl,Ų,rfl,Ų,Ų⟩)
theorem ű{p:Prop}(h:p:=by walk_at "s"):p:=h
noncomputable def U8(c y G:List Nat):List Nat:=c.filter λi=> !(y.contains i||G.contains i)
section
variable {X:Cx}{c y G:List Nat}{e:Expr}
def aby(b:PS X N (kl X.K B I c c g))(a:rN X O (kl X.K B I c L h)):rN X (N::O) (kl X.K B I c L (ba g h)):=ay b a
def aeM{f:DF}(h:PE X e (tP X.K (U8 c y G) f))(a:autoParam (ij c (U8 c y G) y G=true) Ū):PE X e (tP X.K c (Ds y G f)):=RB _ y G h a
def aeG{f:DT}(h:PT X e (qW X.K (U8 c y G) f))(a:autoParam (ij c (U8 c y G) y G=true) Ū):PT X e (qW X.K c (SS y G f)):=Wj _ y G h a
def mw{Z:List Nat}{f:DL}(N:List aH)(src:List (Option Nat))(e:PI X (.Name x l) O (yM X.K Z f))(k:∀C s H b,PE (X.rM N T C s H b) m (tP X.K [] fe))(S:eU X N src T:=by first|exact jK rfl rfl rfl rfl|exact Vf rfl rfl)(j:autoParam (X.calm=true) Ŭ)(a:autoParam (∀i∈[0],src[i]?=Y none) Ū)(n:autoParam (N.Nodup) ţ)(p:N.Nodup->∀C s H b,PG (X.rM N T C s H b) (.Name x l) (oK 0):=by exact λn g g g g=>e8 n rfl (.inl rfl))(d:autoParam (gX Z [] src=true) Ū)(c:autoParam (∀x,cb O X.env x=cQ x) ũ):PE X (.ListComp m [⟨.Name x l,O,[],0⟩] T u) (tF X.K Z (jN f src (gN 0) dC fe)):=
 Du S j e (gS 0) a (jT 0) (λC s H b=>⟨p n C s H b,lN,k C s H b⟩) d c
end
noncomputable abbrev KL:List (aH×aH):=[("Facts","asks"),("Facts","bits"),("Facts","by_name"),("Facts","by_text"),("Facts","inner"),("Facts","leads"),("Facts","question"),("Facts","starred"),("Facts","stars"),("Judge","facts"),("Judge","fresh"),("Judge","longest"),("Judge","mark")]
noncomputable abbrev ZL:List aH:=["all","any","dict","enumerate","isinstance","len","list","range","reversed","set","sorted","str","zip"]
structure KS(K:aP)(mg:aH->Option aj):Prop where
 c:∀p∈KL,tX K p.1 p.2
 z:∀x∈ZL,mg x=none
def KS.q{K:aP}{t:aH->Option aj}{c f:aH}(k:KS K t:=by assumption)(h:autoParam ((c,f)∈KL) Ū):tX K c f:=k.c _ h
def KS.y{K:aP}{t:aH->Option aj}{x:aH}(k:KS K t:=by assumption)(h:autoParam (x∈ZL) Ū):t x=none:=k.z _ h
def asm{p:Prop}(h:p:=by assumption):p:=h
local macro_rules | `(tactic|walk_at "o") => do
 let o ← `(_)
 let f : String → Lean.Term → Lean.MacroM Lean.Term := fun s x=>do
  let a ← ((s.splitOn ":").getLastD "").toList.toArray.mapM fun c=>match c with
   | '?'=>`(?_)
   | 'a'=>return Lean.mkIdent `asm
   | 'r'=>return Lean.mkIdent `rfl
   | 'i'=>`(.inl rfl)
   | 'q'=>return Lean.mkIdent `KS.q
   | 'y'=>return Lean.mkIdent `KS.y
   | 'n'=>`(Aq _)
   | 'p'=>`(pv _)
   | 'v'=>return Lean.mkIdent `cK
   | 'f'=>`(fun _ _=>?_)
   | 'x'=>return x
   | _=>return o
  `($(Lean.mkIdent ((s.splitOn ":").headD "").toName) $a*)
 let t ← ("PE:__x tP:__x Ds:___|aeM:?/PE:__x tF:__x fTh:___|df_thA:?/PT:__x qW:__x SS:___|aeG:?/rN:___|gE: bK:? aby:??/PS:___|xO:ari? kB:??? pj:? wg:? acK:??q ED:ari? aeJ:?? Hh:? LV:ari? zi:? acI:? YF:???q abz:??q aeH:?ari? acL:??q mv:vr?ff pY:?? aeI:?? acJ:???/PE:__x tQ:___|vQ:_ dvo:p dq:?/PE:__x tP:___|vP:_ sE: EG: acP:?q abE:?? RD:??? uX:? df:? zm:aar? agv: YM:ry? abD:aa?? aeT:???n aeT:???r aeR: aeS:? acO:?q aeU:?? agt:?? aeP:? aeQ:? agu:??? aeN:???/PE:__x tF:___|J5:? RH:aar? aeO:??? U6:??/PE:__x tM:____|Ru:aa?? qF:? J0:? ZH:aa? ags:??? acM:aar?? Hj:aar? abB:???/PA:__x HP:___|fB:?? mx:/PA:__x VF:____|kC:?? zj:/PT:___|YE:???n YE:???r JY:? we:? PW.pt:?/PW:___|acG:? aeF:?? aeE:? agq:??/PI:____|qG:? ZI:ry? acN:ry? pZ:? Wl:? UX:? aeL:ry?/PE:__x Zp:____|acQ:aar? aeV: aeW:/R7:___|adW: afP: in_sub:/PO:___|Rr:? Rt:/PE:__x i5:_|pv:_/PG:__x Fk:____|UY:? Ry:? abC:?/PGs:___|vF:?? TB:/yF:___|afA: aci: adJ: XB: adG: adF: ach: VQ: afz: afB: afC: adE: acg: adH: acf: aaG: acj:|/yF:___|afD:a aaH:a adI:a/PG:___|e8:ari IP:r?".splitOn "/").toArray.mapM fun s=>do
  let p := s.splitOn "|"
  let h ← ((p.headD "").splitOn " ").foldrM f o
  let a ← ((p.getD 1 "").splitOn " ").toArray.mapM fun s=>do `(tacticSeq| refine $(← f s o))
  if p.length < 3 then `(tacticSeq| (with_reducible show $h); first $[| $a]*) else `(tacticSeq| with_reducible (show $h; first $[| $a]*))
 `(tactic| repeat' first $[| $t]*)
theorem Ŷ{p:Prop}(h:p:=by walk_at "o"):p:=h
noncomputable def l_(i:Nat):dh:=PySem.Challenge.pw_earlysift_k29_whole_nothing_more_goes.main.body.getD i (.Pass ⟨0,0,0,0⟩)
noncomputable abbrev nN:List (aH×Sk):=[("by_name",.di),("by_text",.di),("leads",.li .lf)]
abbrev ao:Sk :=.fs "Facts" nN
abbrev AV:List (aH×Sk):=[("facts",ao)]
abbrev ny:Sk :=.fs "Judge" AV
def gV:List aH:=[ab "mark"]
abbrev v6:=eK (.int 1)
abbrev f8:=eK (.int 0)
def gC:DG:=(ba (KE 1 g_ (e2 bF (eV 3) f8)) (lJ 2 (e2 bF (eV 3) v6)))
abbrev pc:=aC (eV 2) aN
abbrev Å:=eO aN
def lM:DG:=(ba (d8 1 f8) (ba (jQ 2 Å) (ba (gW (iL (eV 0)) (gN 3) gC) (dM (cW (aC (eV 1) pc))))))
def iH:List D->Option D:=gu 1 4 lM
abbrev ni:dh:=l_ 3
def rX:bu ["asks","need","choices","ask"] ["asks"] (aE ni):=ű
abbrev na:=eK (.int 2)
abbrev Ñ:=aC (e2 bF (eV 0) na) aN
def AS(kN:List D->Option D)(lP:List D->Option D):DG:=(oD (jN (iL (eV 0)) [M] (gN 0) dC (cW (aC (e2 bF (eV 0) f8) (aC (e2 bF (eV 0) v6) (aC (aO lP Ñ) aN))))))
abbrev xh:dh:=l_ 5
def Cw:bu ["steps"] ["steps"] (aE xh):=ű
abbrev ca:=aC (eV 0) aN
abbrev nb:=eK (.str (ab "has"))
abbrev AT:=eK (.str (ab "one"))
abbrev Ø:=eK (.str (ab "both"))
abbrev Db:=cW (aC Ø (aC AT aN))
abbrev Uf:=aC (e2 bF (eV 0) v6) aN
abbrev cr:=e2 fF (e2 bF (eV 0) f8) nb
abbrev AC:=cz (e2 IR (e2 bF (eV 0) f8) Db)
def dE(kN:List D->Option D)(lP:List D->Option D):DG:=(ba (gq (cz cr) (dM (cW (aC nb (aC (aO kN Uf) aN)))) cN) (ba (gq AC (dM (cW (aC (e2 bF (eV 0) f8) (aC (eF (jN (iL (e2 bF (eV 0) v6)) [M] (gN 0) dC (aO lP ca))) aN)))) cN) (dM (eV 0))))
abbrev nq:dh:=l_ 6
def rZ:bu ["wish"] ["wish"] (aE nq):=ű
abbrev u8:=aC (eV 1) aN
abbrev io:=aC (eV 0) u8
abbrev jp:=e2 Gc (e2 nJ (eV 1) (e2 bF (eV 0) f8)) (e2 bF (eV 0) f8)
abbrev kw:=eK (.bl Z_)
def zc(tw:List D->Option D):DG:=(ba (gq (cz jp) (dM kw) cN) (dM (aO (iP Z') (aC (eF (jN (iL (e2 bF (eV 0) v6)) [M,Y 1] (gN 0) dC (aO (iP Z_) (aC (eF (jN (iL (eV 0)) [M,Y 1] (gN 0) dC (aO tw io))) aN)))) aN))))
abbrev zI:dh:=l_ 4
def FO:bu ["ask","atoms"] ["ask","atoms"] (aE zI):=ű
abbrev am:=cz (e2 fF (e2 bF (eV 0) f8) (eK (.str (ab "open"))))
def AU:DG:=(ba (gq am (dM (eOr (eV 1) (UP (cz (eV 2))))) cN) (dM (eV 1)))
def nV:List D->Option D:=gu 3 3 AU
abbrev rT:dh:=l_ 24
def yb:bu ["sign","within","begun"] ["sign","within","begun"] (aE rT):=ű
mutual
noncomputable def jz:Nat->List D->Option D
 |0=>λ_=>M
 |n+1=>gu 1 1 (AS (jz n) (cw n))
noncomputable def cw:Nat->List D->Option D
 |0=>λ_=>M
 |n+1=>gu 1 1 (dE (jz n) (cw n))
end
noncomputable def iF:Nat->List D->Option D
 |0=>λ_=>M
 |n+1=>gu 2 2 (zc (iF n))
def kN:List D->Option D:=jz 12
def lP:List D->Option D:=cw 12
def tw:List D->Option D:=iF 12
section
variable {P:aZ}{w:cH}{K:aP}{mg:aH->Option aj}{base:cF}{f:aw}{fd:de}
def Aj(F:iV K "joined_asks" "joined_asks" ni f fd):cy P w K mg base ib 1 f fd ["asks"] (fw K iH):=
 F.vh (Z:=[2]) (Ź:=[2]) (g:=lM) rX ſ λkF A outer s H E hr B hB=>
  let nd:=rX.nd
  (ay Ŷ (ay Ŷ (ay Ŷ (lx (own1:=[]) 2 Ŷ))))
def M8{n:Nat}(F:iV K "copied" "copied" xh f fd)(BX:eL P w K mg base "copied_wish" (n+0) (fw K (cw n))):cy P w K mg base ib (n+0+1) f fd ["steps"] (fw K (jz (n+1))):=
 F.vh (Z:=[]) (Ź:=[]) Cw ſ λkF A outer s H E hr B hB=>
  let nd:=Cw.nd
  (bK (zi (mw ["step"] _ (qG (vP 0)) λC s H ex=>Ŷ)))
def Am{n:Nat}(F:iV K "copied_wish" "copied_wish" nq f fd)(GQ:eL P w K mg base "copied" (n+0) (fw K (jz n)))(BX:eL P w K mg base "copied_wish" (n+0) (fw K (cw n))):cy P w K mg base ib (n+0+1) f fd ["wish"] (fw K (cw (n+1))):=
 F.vh (Z:=[]) (Ź:=[]) (g:=(dE (jz n) (cw n))) rZ ſ λkF A outer s H E hr B hB=>
  let nd:=rZ.nd
  (ay Ŷ (ay (kB Ŷ (bK (pj (uX (fB Ŷ (fB (df (mw ["other"] [M] Ŷ λC s H ex=>Ŷ)) mx))))) gE) Ŷ))
def PN{n:Nat}(F:iV K "meets" "meets" zI f fd)(kk:KS K mg)(Ux:eL P w K mg base "meets" (n+0) (fw K (iF n))):cy P w K mg base ib (n+0+1) f fd ["ask","atoms"] (fw K (iF (n+1))):=
 F.vh (Z:=[]) (Ź:=[]) (g:=(zc (iF n))) FO ſ λkF A outer s H E hr B hB=>
  let nd:=FO.nd
  (ay Ŷ (bK (pj (YQ rfl rfl kk.y (dq (df (mw ["choice","atoms"] [M,Y 1] Ŷ λC s H ex=>(RI rfl rfl kk.y (dq (df (mw ["other","atoms"] [M,Y 1] (qG (vP 0)) λC s H ex=>Ŷ)))))))))))
def Gb(F:iV K "can_come" "can_come" rT f fd):cy P w K mg base ib 1 f fd ["sign","within","begun"] (fw K nV):=
 F.vh (Z:=[]) (Ź:=[]) yb ſ λkF A outer s H E hr B hB=>
  let nd:=yb.nd
  by walk_at "o"
abbrev im:=e2 mr (eT "Facts" "bits" (eV 0)) v6
def iw:DG:=(ba (pO Z_ 0 "Facts" "bits" (λi j=>i+j) v6) (eZ (mP (Ds [0] [] (e2 tU v6 im)))))
noncomputable def bN:List D->Option (D×D):=qv 1 1 ao iw
abbrev Ý:=l_ 2
abbrev lj:dh:=j5 Ý 1
def pL:bu ["self"] ["self"] (aE lj):=ű
abbrev ge:=eK (.str (ab "*"))
abbrev Op:=yo (eT "Facts" "by_name" (eV 0)) (e2 bF (eV 1) v6) f8
abbrev Ó:=eK (.str (ab "inner"))
abbrev wv:=e2 fF (e2 bF (eV 1) f8) Ó
abbrev py:=e2 fF (e2 bF (eV 1) v6) ge
def ip:DG:=(ba (iN 2 (cv "Facts" "new_bit" ao bN 0 mE)) (ba (gq (cz wv) (pO Z_ 0 "Facts" "inner" g_ (eV 2)) cN) (ba (gq (cz py) (ba (pO Z_ 0 "Facts" "starred" g_ (eV 2)) (pO Z_ 0 "Facts" "stars" (λi j=>i+j) v6)) (qu 0 "Facts" "by_name" (e2 bF (eV 1) v6) (mP (Ds [0] [] (e2 K2 Op (eV 2)))))) (eZ (mP (eV 2))))))
def dg:List D->Option (D×D):=qv 2 3 ao ip
abbrev jH:dh:=j5 Ý 3
def mD:bu ["self","step","bit"] ["self","step"] (aE jH):=ű
abbrev Re:=jd (mP (eV 0)) mE
def pd:DG:=(eZ (rA (iL (eV 1)) [M,Y 0] (gN 0) (cv "Facts" "enter_step" ao dg 1 Re) 1 0 ao))
def fh:List D->Option (D×D):=qv 2 2 ao pd
abbrev nr:dh:=j5 Ý 2
def r_:bu ["self","steps"] ["self","steps"] (aE nr):=ű
abbrev Â:=e2 wS (eV 1) (eT "Facts" "by_text" (eV 0))
abbrev Ps:=cz Â
abbrev FM:=qu 0 "Facts" "by_text" (eV 1) (cv "Facts" "new_bit" ao bN 0 mE)
def eY:DG:=(ba (gq (SS [0] [] Ps) FM cN) (eZ (mP (Ds [0] [] (e2 K3 (eT "Facts" "by_text" (eV 0)) (eV 1))))))
def cO:List D->Option (D×D):=qv 2 2 ao eY
abbrev jG:dh:=j5 Ý 4
def mC:bu ["self","text"] ["self","text"] (aE jG):=ű
abbrev on:=cW (aC (e2 K2 (e2 bF (eV 5) f8) (eV 7)) (aC (e2 bF (eV 5) v6) aN))
abbrev ã:=aC (eV 6) (aC on aN)
def cf:DG:=(KG 0 "Facts" "leads" (cW ã))
abbrev Sc:=aC (eV 3) aN
abbrev At:=eF (lY (eV 2) (pS v6) pN)
abbrev Æ:=iZ3 (eV 1) (eV 2) (eV 4)
abbrev Ì:=LI 5 6 7
abbrev Û:=e2 c6 At (eF (eO Sc))
def kA:DG:=(ba (d8 4 Û) (gW Æ Ì cf))
def eG:List D->Option (D×D):=qv 4 8 ao kA
abbrev o6:dh:=j5 Ý 6
def t_:bu ["self","asks","bits","end","follows","ask","bit","follow"] ["self","asks","bits","end"] (aE o6):=ű
def xr(F:iV K "new_bit" "Facts.new_bit" lj f fd)(kk:KS K mg):cy P w K mg base ib 1 f fd ["self"] (spT K ao bN):=
 F.T4 (Z:=[0]) (Ź:=[0]) pL _ ſ ſ λkF A outer s H E hr B a hB=>
  let nd:=pL.nd
  by walk_at "o"
def tT(F:iV K "enter_step" "Facts.enter_step" jH f fd)(kk:KS K mg)(mu:jy P w K mg base "Facts" "new_bit" 1 (spT K ao bN)):cy P w K mg base ib 2 f fd ["self","step"] (spT K ao dg):=
 F.T4 (Z:=[0]) (Ź:=[0]) (g:=ip) mD ao ſ ſ λkF A outer s H E hr B a hB=>
  let nd:=mD.nd
  (ay Ŷ (ay Ŷ (ay (kB Ŷ Ŷ (bK (Hi (c:= "Facts") (nL hr) (pv 0) Ŷ (qF (RB [] [0] [] (RD VQ (dq (EH (nL hr) Ŷ Ŷ sE ⟨rfl,rfl,rfl,rfl⟩)) (vQ 2)))) kk.q))) Ŷ)))
def An(F:iV K "enter" "Facts.enter" nr f fd)(JN:jy P w K mg base "Facts" "enter_step" 2 (spT K ao dg)):cy P w K mg base ib 3 f fd ["self","steps"] (spT K ao fh):=
 F.T4 (Z:=[0]) (Ź:=[0]) r_ _ ſ ſ λkF A outer s H E hr B a hB=>
  let nd:=r_.nd
  (bK (wg (J2 (jK rfl Ÿ rfl rfl) rfl (qG (vP 1)) (gS 0) ſ (sA _ 0 1) (λC s H ex=>⟨e8 (show [("step" : aH),("self" : aH)].Nodup by decide +kernel) rfl (md rfl),lN,dmx λB a hB=>Ŷ⟩))))
def tS(F:iV K "enter_text" "Facts.enter_text" jG f fd)(kk:KS K mg)(mu:jy P w K mg base "Facts" "new_bit" 1 (spT K ao bN)):cy P w K mg base ib 2 f fd ["self","text"] (spT K ao cO):=
 F.T4 (Z:=[0]) (Ź:=[0]) (g:=eY) mC ao ſ ſ λkF A outer s H E hr B a hB=>
  let nd:=mC.nd
  (ay (kB (Wj [] [0] [] (pX (nL hr) (vQ 1) Ŷ)) (bK (Hi (c:= "Facts") (nL hr) (pv 0) (vP 1) Ŷ kk.q)) gE) (bK (wg (qF (RB [] [0] [] (U4 (nL hr) Ŷ (vQ 1)))))))
def BS(F:iV K "lead" "Facts.lead" o6 f fd)(kk:KS K mg):cy P w K mg base ib 1 f fd ["self","asks","bits","end"] (spT K ao eG):=
 F.T4 (Z:=[0]) t_ ao ſ ſ λkF A outer s H E hr B a hB=>
  let nd:=t_.nd
  (ay Ŷ (bK (mv cK rfl (UW rfl kk.y (vP 1) (vP 2) (vP 4)) (λB hB=>Ŷ) (λB hB=>Ŷ))))
end
abbrev wf:=eK (.str (ab "any"))
abbrev bm:=jd (mP (e2 bF (eV 1) v6)) mE
abbrev sn:=eK (.str (ab "text"))
abbrev pp:=eF Å
abbrev kt:=cz (e2 fF (e2 bF (eV 1) f8) AT)
abbrev IN:=cz (e2 fF (e2 bF (eV 1) f8) wf)
abbrev wP:=cz (e2 fF (e2 bF (eV 1) f8) sn)
abbrev PP:=cz (e2 fF (e2 bF (eV 1) f8) nb)
abbrev ä:=jd (mP pp) mE
def cL(f7:List D->Option (D×D))(kP:List D->Option (D×D)):DG:=(ba (gq IN (eZ (mP (cW (aC f8 (aC pp aN))))) cN) (ba (gq wP (eZ (sj (jd (cv "Facts" "enter_text" ao cO 0 bm) ä))) cN) (ba (gq PP (eZ (sj (jd (cv "Facts" "enter_has" ao kP 0 bm) ä))) cN) (ba (iN 2 (rA (iL (e2 bF (eV 1) v6)) [M,Y 0] (gN 0) (cv "Facts" "asked" ao f7 1 Re) 1 0 ao)) (ba (gq kt (eZ (mP (cW (aC f8 (aC (eF (eO pc)) aN))))) cN) (eZ (mP (aO iH pc))))))))
abbrev km:dh:=j5 Ý 7
noncomputable abbrev ur:List aH:=["self","wish","asks"]
def nE:bu ur ["self","wish"] (aE km):=ű
abbrev sw:=jd (mP (e2 bF (eV 0) na)) mE
abbrev FS:=jd (mP (eV 2)) (jd (mP f8) mE)
def gD(f7:List D->Option (D×D))(kP:List D->Option (D×D)):DG:=(ba (iN 2 (cv "Facts" "enter" ao fh 0 (jd (mP (eV 1)) mE))) (ba (o9 (cv "Facts" "lead" ao eG 0 (jd (rA (iL (eV 1)) [M,Y 0] (gN 0) (cv "Facts" "asked" ao f7 1 sw) 1 0 ao) FS))) (eZ (mP (e2 bF (eV 2) f8)))))
abbrev ig:dh:=j5 Ý 5
noncomputable abbrev oT:List aH:=["self","steps","bits"]
def nC:bu oT ["self","steps"] (aE ig):=ű
mutual
noncomputable def cj:Nat->List D->Option (D×D)
 |0=>λ_=>M
 |n+1=>qv 2 3 ao (cL (cj n) (cg n))
noncomputable def cg:Nat->List D->Option (D×D)
 |0=>λ_=>M
 |n+1=>qv 2 3 ao (gD (cj n) (cg n))
end
def f7:List D->Option (D×D):=cj 12
def kP:List D->Option (D×D):=cg 12
section
variable {P:aZ}{w:cH}{K:aP}{mg:aH->Option aj}{base:cF}{f:aw}{fd:de}
def Ao{n:Nat}(F:iV K "asked" "Facts.asked" km f fd)(JM:jy P w K mg base "Facts" "enter_text" (n+3) (spT K ao cO))(LF:jy P w K mg base "Facts" "enter_has" (n+3) (spT K ao (cg n)))(ui:jy P w K mg base "Facts" "asked" (n+3) (spT K ao (cj n)))(Sw:eL P w K mg base "joined_asks" (n+3) (fw K iH)):cy P w K mg base ib (n+3+1) f fd ["self","wish"] (spT K ao (cj (n+1))):=
 F.T4 (Z:=[0]) (Ź:=[0]) (g:=(cL (cj n) (cg n))) nE ao ſ ſ λkF A outer s H E hr B a hB=>
  let nd:=nE.nd
  (ay Ŷ (ay Ŷ (ay Ŷ (ay (JZ (i:=2) (i0:=1) (j0:=0) (s:=ao) (N:=[("other" : aH),("self" : aH)]) (src:=[M,Y 0]) (jK (outer:=aE km) (oN:=ur) rfl Ÿ rfl rfl) rfl nE.nd rfl rfl Ŷ (gS 0) ſ (sA _ 0 1) (λC s H ex=>⟨e8 (i:=0) (show ([("other" : aH),("self" : aH)]:List aH).Nodup by decide +kernel) rfl (md rfl),lN,dmx λB a hB=>Ŷ⟩)) Ŷ))))
def uK{n:Nat}(F:iV K "enter_has" "Facts.enter_has" ig f fd)(BY:jy P w K mg base "Facts" "enter" (n+3) (spT K ao fh))(qD:jy P w K mg base "Facts" "lead" (n+3) (spT K ao eG))(ui:jy P w K mg base "Facts" "asked" (n+3) (spT K ao (cj n))):cy P w K mg base ib (n+3+1) f fd ["self","steps"] (spT K ao (cg (n+1))):=
 F.T4 (Z:=[0]) (Ź:=[0]) (g:=(gD (cj n) (cg n))) nC ao ſ ſ λkF A outer s H E hr B a hB=>
  let nd:=nC.nd
  (ay Ŷ (ay (Hh (Ru qD hr (pv 0) (kC (J2 (i0:=1) (j0:=0) (s:=ao) (src:=[M,Y 0]) (jK (outer:=aE ig) (oN:=oT) rfl Ÿ rfl rfl) rfl (qG (vP 1)) (gS 0) ſ (sA _ 0 1) (λC s H ex=>⟨e8 (i:=0) (show ([("step" : aH),("self" : aH)]:List aH).Nodup by decide +kernel) rfl (md rfl),lN,dmx λB a hB=>Ŷ⟩)) Ŷ))) Ŷ))
abbrev Do:=yn 0 "Facts" "question"
def jv:DG:=(ba (lV Z_ 0 "Facts" "question" (aO kN u8)) (ba (lV Z_ 0 "Facts" "bits" f8) (ba (o8 0 "Facts" "by_name" .di À) (ba (o8 0 "Facts" "by_text" .di À) (ba (lV Z_ 0 "Facts" "starred" f8) (ba (lV Z_ 0 "Facts" "stars" f8) (ba (lV Z_ 0 "Facts" "inner" f8) (ba (o8 0 "Facts" "leads" (.li .lf) (eK (.lst []))) (ba (o9 (cv "Facts" "enter" ao fh 0 (jd (mP Do) mE))) (xn Z_ 0 "Facts" "asks" (rA (iL Do) [M,Y 0] (gN 0) (cv "Facts" "asked" ao f7 1 sw) 1 0 ao)))))))))))
def d4:List D->Option (D×D):=qv 2 2 ao jv
abbrev iK:dh:=j5 Ý 0
noncomputable abbrev qc:List aH:=["self","question"]
def oC:bu qc ["self","question"] (aE iK):=ű
def wb:DG:=(dM (e2 K2 (eT "Facts" "starred" (eV 0)) (yo (eT "Facts" "by_name" (eV 0)) (eV 1) f8)))
def iR:List D->Option D:=gu 2 2 wb
abbrev j7:dh:=j5 Ý 8
def nB:bu ["self","name"] ["self","name"] (aE j7):=ű
def wa:DG:=(dM (yo (eT "Facts" "by_text" (eV 0)) (eV 1) f8))
def fE:List D->Option D:=gu 2 2 wa
abbrev j6:dh:=j5 Ý 9
def nA:bu ["self","text"] ["self","text"] (aE j6):=ű
def jx:DG:=(gq (i7 (eS (e2 nJ (eV 1) (eV 4))) (eS (aO tw (aC (eV 5) pc)))) (KE 3 g_ (eV 4)) cN)
def nM:DG:=(ba (d8 3 (e2 nJ (eV 2) (eT "Facts" "inner" (eV 0)))) (ba (gW (iL (eT "Facts" "leads" (eV 0))) (yA 4 5) jx) (dM (eV 3))))
def kO:List D->Option D:=gu 3 6 nM
abbrev mq:dh:=j5 Ý 10
def qY:bu ["self","named","atoms","up","bit","ask"] ["self","named","atoms"] (aE mq):=ű
def vK(F:iV K "__init__" "Facts.__init__" iK f fd)(kk:KS K mg)(GQ:eL P w K mg base "copied" 59 (fw K kN))(BY:jy P w K mg base "Facts" "enter" 59 (spT K ao fh))(ui:jy P w K mg base "Facts" "asked" 59 (spT K ao f7)):cy P w K mg base ib 60 f fd ["self","question"] (spT K ao d4):=
 F.T4 (Z:=[0]) (Ź:=[0]) (g:=jv) oC ao ſ ſ λkF A outer s H E hr B a hB=>
  let nd:=oC.nd
  (ay Ŷ (ay Ŷ (ay Ŷ (ay Ŷ (ay Ŷ (ay Ŷ (ay Ŷ (ay Ŷ (ay Ŷ (bK (Hg (b:=Z_) (c:= "Facts") (pv 0) (J2 (i0:=1) (j0:=0) (s:=ao) (N:=[("step" : aH),("self" : aH)]) (src:=[M,Y 0]) (jK (outer:=aE iK) (oN:=qc) rfl Ÿ rfl rfl) rfl Ŷ (gS 0) ſ (sA _ 0 1) (λC s H ex=>⟨e8 (i:=0) (show ([("step" : aH),("self" : aH)]:List aH).Nodup by decide +kernel) rfl (md rfl),lN,dmx λB a hB=>Ŷ⟩)) kk.q)))))))))))
def uJ(F:iV K "steps_for" "Facts.steps_for" j7 f fd)(kk:KS K mg):cy P w K mg base ib 1 f fd ["self","name"] (fw K iR):=
 F.vh (Z:=[]) (Ź:=[]) nB ſ λkF A outer s H E hr B hB=>
  let nd:=nB.nd
  bK (pj (RD VQ Ŷ (dq (EH (nL hr) Ŷ (vQ 1) sE ⟨rfl,rfl,rfl,rfl⟩))))
def uI(F:iV K "text_fact" "Facts.text_fact" j6 f fd)(kk:KS K mg):cy P w K mg base ib 1 f fd ["self","text"] (fw K fE):=
 F.vh (Z:=[]) (Ź:=[]) nA ſ λkF A outer s H E hr B hB=>
  let nd:=nA.nd
  bK (pj (EH (nL hr) Ŷ (vQ 1) sE ⟨rfl,rfl,rfl,rfl⟩))
def yx(F:iV K "lifted" "Facts.lifted" mq f fd)(kk:KS K mg)(Ux:eL P w K mg base "meets" 59 (fw K tw)):cy P w K mg base ib 60 f fd ["self","named","atoms"] (fw K kO):=
 F.vh (Z:=[]) (Ź:=[]) qY ſ λkF A outer s H E hr B hB=>
  let nd:=qY.nd
  by walk_at "o"
abbrev ce:=eK (.str (ab "abcdefghijklmnopqrstuvwxyz"))
def sJ:DG:=(lJ 1 (eF (jN (iS ce) [M,Y 2] (gN 0) dC (e2 c6 (eV 1) (eV 0)))))
abbrev Ú:=e2 wS (eV 0) (eT "Facts" "by_name" (eV 1))
abbrev Rs:=cz Ú
def mT:DG:=(ba (jQ 1 (JV ce)) (ba (gW (iS ce) (gN 2) sJ) (dM (e2 bF (eF (jN (iL (eV 1)) [M,Y 0] (gN 0) Rs (eV 0))) f8))))
def gF:List D->Option D:=gu 1 3 mT
abbrev lG:dh:=l_ 11
abbrev wx:List aH:=["facts","names","first"]
def lH:bu wx ["facts"] (aE lG):=ű
abbrev np:=aC (eV 2) (aC (Ds [0] [] (eT "Judge" "mark" (eV 0))) aN)
abbrev lw:=aC (A4 0 "Judge" "facts" "Facts" "asks") np
abbrev dL:=aC (eT "Judge" "facts" (eV 0)) aN
abbrev UV:=e2 tU v6 (eV 0)
abbrev TW:=e2 c6 (eT "Facts" "stars" (eT "Judge" "facts" (eV 0))) v6
def ju:DG:=(ba (o8 0 "Judge" "facts" ao (ph "Facts" d4 u8)) (ba (xn Z_ 0 "Judge" "mark" (j3 "Judge" "facts" "Facts" "new_bit" ao bN 0 aN)) (ba (d8 2 (eF (jN (wM (aO eW u8)) [M] (gN 0) dC UV))) (ba (o9 (j3 "Judge" "facts" "Facts" "lead" ao eG 0 lw)) (ba (lV Z_ 0 "Judge" "fresh" (Ds [0] [] (aO gF dL))) (lV Z_ 0 "Judge" "longest" (Ds [0] [] TW)))))))
def dZ:List D->Option (D×D):=qv 2 3 ny ju
abbrev iJ:dh:=j5 (l_ 10) 0
abbrev qb:List aH:=["self","question","bits"]
def ko:bu qb ["self","question"] (aE iJ):=ű
def BR(F:iV K "fresh_name" "fresh_name" lG f fd)(kk:KS K mg){MI:Tok}(xU:mg "LETTERS" = Y (.str (ab "abcdefghijklmnopqrstuvwxyz") MI)):cy P w K mg base ib 1 f fd ["facts"] (fw K gF):=
 F.vh (Z:=[1]) (Ź:=[1]) (g:=mT) lH ſ λkF A outer s H E hr B hB=>
  let nd:=lH.nd
  (ay (ED (i:=1) lH.nd rfl (.inl rfl) (RE rfl rfl kk.y (dq (Ba rfl xU)))) (ay (mv cK rfl (Rx (Ba rfl xU)) (λB hB=>(UY (e8 (i:=2) lH.nd rfl (.inr rfl)))) (λB hB=>(bK (pY (pv 1) (df (mw ["second","first"] [M,Y 2] (Rx (Ba rfl xU)) λC s H ex=>Ŷ)))))) (lx (own1:=[]) 1 (bK (pj (abE (dq (df (Du (Ź:=[]) (N:=[("name" : aH),("facts" : aH)]) (src:=[M,Y 0]) (jK (outer:=aE lG) (oN:=wx) rfl Ÿ rfl rfl) rfl (qG (vP 1)) (gS 0) ſ (jT 0) (λC s H ex=>⟨e8 (i:=0) (show ([("name" : aH),("facts" : aH)]:List aH).Nodup by decide +kernel) rfl (.inl rfl),(tb (pX (nL hr) (vQ 0) Ŷ)),(vP 0)⟩)))) (dq sE)))))))
def vJ(F:iV K "__init__" "Judge.__init__" iJ f fd)(kk:KS K mg)(acB:B8 P w K mg base "Facts" 62 (spT K ao d4))(mu:jy P w K mg base "Facts" "new_bit" 63 (spT K ao bN))(qD:jy P w K mg base "Facts" "lead" 63 (spT K ao eG))(Uz:eL P w K mg base "fresh_name" 63 (fw K gF)):cy P w K mg base ib 64 f fd ["self","question"] (spT K ny dZ):=
 F.T4 (Z:=[0]) (Ź:=[0]) (g:=ju) ko ny ſ ſ λkF A outer s H E hr B a hB=>
  let nd:=ko.nd
  (ay Ŷ (ay (Hg (b:=Z_) (c:= "Judge") (pv 0) (J1 (c:= "Judge") (fk1:=nN) mu hr kk.q (pv 0)) kk.q) (ay (A6 (i:=2) (Ź:=[]) (N:=[("place" : aH)]) (src:=[M]) (jK (outer:=aE iJ) (oN:=qb) rfl Ÿ rfl rfl) rfl ko.nd rfl rfl Ŷ (gS 0) ſ (jT 0) (λC s H ex=>⟨e8 (i:=0) (show ([("place" : aH)]:List aH).Nodup by decide +kernel) rfl (.inl rfl),lN,Ŷ⟩)) (ay (Hh (NM (c:= "Judge") (fk1:=nN) qD hr kk.q (pv 0) (fB (RF (c:= "Judge") (c2:= "Facts") (pv 0) kk.q kk.q) Ŷ))) Ŷ))))
abbrev å:=e2 nJ (eV 0) (eV 1)
abbrev ut:=eF (jN (GN (eV 0)) [M,Y 2] (gN 0) dC (EC (e2 Gc (eV 0) (eV 1)) (e2 fF å (eV 0))))
def m7:DG:=(gq (i6 (eS (aO (iP Z_) (aC ut aN)))) (se 1 (eV 2) (eV 3)) cN)
def zd:DG:=(ba (FU 1) (ba (gW (ku (eV 0)) (yA 2 3) m7) (dM (eV 1))))
def oW:List D->Option D:=gu 1 4 zd
abbrev zJ:dh:=l_ 19
def vA:bu ["ways","kept","atoms","signs"] ["ways"] (aE zJ):=ű
def qP:DG:=(gq (cz (e2 wS (eV 3) (eV 1))) (se 1 (eV 3) (eV 4)) cN)
def qO:DG:=(gW (ku (eV 2)) (yA 3 4) qP)
def v8:DG:=(ba (FU 1) (ba (gW (iL (eV 0)) (gN 2) qO) (dM (aO oW u8))))
def l9:List D->Option D:=gu 1 5 v8
abbrev xc:dh:=l_ 17
def xl:bu ["rows","ways","row","atoms","signs"] ["rows"] (aE xc):=ű
def qR:DG:=(gq (cz (e2 wS (e2 K2 (eV 3) (eV 5)) (eV 2))) (se 2 (e2 K2 (eV 3) (eV 5)) (e2 Ap (eV 4) (eV 6))) cN)
def qQ:DG:=(gW (ku (eV 1)) (yA 5 6) qR)
def v_:DG:=(ba (FU 2) (ba (gW (ku (eV 0)) (yA 3 4) qQ) (dM (aO oW pc))))
def qh:List D->Option D:=gu 2 7 v_
abbrev xg:dh:=l_ 18
def xm:bu ["ones","others","ways","one","signs","other","further"] ["ones","others"] (aE xg):=ű
abbrev É:=aC (eV 5) aN
abbrev Í:=cW (aC (cW (aC (eK (.str (ab "open"))) u8)) aN)
def oO:DG:=(ba (d8 7 (pf "Facts" "lifted" kO (eT "Judge" "facts" (eV 0)) (aC (eV 3) É))) (gq (cz (e2 wS (eV 7) (eV 4))) (se 4 (eV 7) (e2 Ap (e2 Ap Í (eV 6)) (cW (aC (cW (aC (eK (.str (ab "close"))) aN)) aN)))) cN))
abbrev bd:=aC (eV 4) aN
def sY:DG:=(ba (d8 3 (pf "Facts" "steps_for" iR (eT "Judge" "facts" (eV 0)) u8)) (ba (FU 4) (ba (gW (ku (eV 2)) (yA 5 6) oO) (dM (aO oW bd)))))
def qe:List D->Option D:=gu 3 8 sY
abbrev uy:dh:=l_ 15
def uF:bu ["judge","name","inside","named","ways","atoms","signs","up"] ["judge","name","inside"] (aE uy):=ű
abbrev é:=aC (eV 5) bd
def lO:DG:=(ba (d8 4 (aO qe (aC (eV 0) (aC (eT "Judge" "fresh" (eV 0)) bd)))) (d8 5 (aO l9 (aC (eF (eO é)) aN))))
abbrev Ix:=eK (.str (ab "own"))
def oJ:DG:=(ba (d8 3 (YC (cz py) (eT "Judge" "fresh" (eV 0)) (e2 bF (eV 1) v6))) (ba (d8 4 (aO qe (aC (eV 0) (aC (eV 3) pc)))) (ba (gq (cz (e2 fF (e2 bF (eV 1) f8) Ix)) (dM (eV 4)) cN) (ba (d8 5 (Wh (eV 4))) (ba (gW (wM (eT "Judge" "longest" (eV 0))) (gN 6) lO) (dM (eV 5)))))))
def oV:List D->Option D:=gu 3 7 oJ
abbrev qr:dh:=l_ 14
def qt:bu ["judge","step","inside","name","layer","found","turn"] ["judge","step","inside"] (aE qr):=ű
def PQ(F:iV K "least" "least" zJ f fd)(kk:KS K mg):cy P w K mg base ib 1 f fd ["ways"] (fw K oW):=
 F.vh (Z:=[1]) (Ź:=[1]) (g:=zd) vA ſ λkF A outer s H E hr B hB=>
  let nd:=vA.nd
  (ay (zh (i:=1) vA.nd rfl (.inl rfl)) (ay (mv cK rfl (pZ (vP 0)) (λB hB=>(Ry (IP rfl (vF (e8 (i:=2) vA.nd rfl (.inr rfl)) Ŷ)))) (λB hB=>(bK (kB (JY (we (dq (RI rfl rfl kk.y (dq (df (mw ["other","atoms"] [M,Y 2] (UX (vP 0)) λC s H ex=>Ŷ))))))) (bK (wh (nL hr) (pv 1) (vP 2) (vP 3))) gE)))) (lx (own1:=[]) 1 Ŷ)))
def M6(F:iV K "merged" "merged" xc f fd)(LA:eL P w K mg base "least" 1 (fw K oW)):cy P w K mg base ib 2 f fd ["rows"] (fw K l9):=
 F.vh (Z:=[1]) (Ź:=[1]) (g:=v8) xl ſ λkF A outer s H E hr B hB=>
  let nd:=xl.nd
  (ay (zh (i:=1) xl.nd rfl (.inl rfl)) (ay (mv cK rfl (qG (vP 0)) (λB hB=>Ŷ) (λB hB=>(bK (mv cK rfl (pZ (vP 2)) (λB hB=>Ŷ) (λB hB=>(bK (kB (pX (nL hr) (vQ 3) (dvo (pv 1))) (bK (wh (nL hr) (pv 1) (vP 3) (vP 4))) gE))))))) (lx (own1:=[]) 1 Ŷ)))
def M7(F:iV K "joined" "joined" xg f fd)(LA:eL P w K mg base "least" 1 (fw K oW)):cy P w K mg base ib 2 f fd ["ones","others"] (fw K qh):=
 F.vh (Z:=[2]) (Ź:=[2]) (g:=v_) xm ſ λkF A outer s H E hr B hB=>
  let nd:=xm.nd
  (ay (zh (i:=2) xm.nd rfl (.inl rfl)) (ay (mv cK rfl (pZ (vP 0)) (λB hB=>Ŷ) (λB hB=>(bK (mv cK rfl (pZ (vP 1)) (λB hB=>Ŷ) (λB hB=>(bK (kB (pX (nL hr) Ŷ (dvo (pv 2))) (bK (wh (nL hr) (pv 2) Ŷ Ŷ)) gE))))))) (lx (own1:=[]) 2 Ŷ)))
def IW(F:iV K "wrapped" "wrapped" uy f fd)(kk:KS K mg)(LD:jy P w K mg base "Facts" "steps_for" 61 (fw K iR))(Q3:jy P w K mg base "Facts" "lifted" 61 (fw K kO))(LA:eL P w K mg base "least" 61 (fw K oW)):cy P w K mg base ib 62 f fd ["judge","name","inside"] (fw K qe):=
 F.vh (Z:=[4]) (Ź:=[4]) (g:=sY) uF ſ λkF A outer s H E hr B hB=>
  let nd:=uF.nd
  (ay Ŷ (ay (zh (i:=4) uF.nd rfl (.inl rfl)) (ay (mv cK rfl (pZ (vP 2)) (λB hB=>Ŷ) (λB hB=>(ay Ŷ (bK (kB (pX (nL hr) (vQ 7) (dvo (pv 4))) (bK (wh (nL hr) (pv 4) (vP 7) Ŷ)) gE))))) (lx (own1:=[]) 4 Ŷ))))
def Ec(F:iV K "step_ways" "step_ways" qr f fd)(kk:KS K mg)(ZD:eL P w K mg base "wrapped" 62 (fw K qe))(QZ:eL P w K mg base "merged" 62 (fw K l9)):cy P w K mg base ib 63 f fd ["judge","step","inside"] (fw K oV):=
 F.vh (Z:=[]) (Ź:=[]) (g:=oJ) qt ſ λkF A outer s H E hr B hB=>
  let nd:=qt.nd
  (ay Ŷ (ay Ŷ (ay Ŷ (ay (xO (i:=5) qt.nd rfl (.inl rfl) (U5 rfl kk.y (vP 4))) Ŷ))))
end
def kH(e_:List D->Option D)(ia:List D->Option D):DG:=(ba (d8 5 (aO qh (aC (eV 3) (aC (aO ia (aC (eV 0) (aC (e2 bF (eV 4) na) aN))) aN)))) (d8 3 (aO oV (aC (eV 0) (aC (eV 4) É)))))
def mS(e_:List D->Option D)(ia:List D->Option D):DG:=(ba (d8 3 (eV 2)) (ba (gW (Yx (eV 1)) (gN 4) (kH e_ ia)) (dM (eV 3))))
abbrev oZ:dh:=l_ 13
def t7:bu ["judge","steps","inmost","ways","step","inside"] ["judge","steps","inmost"] (aE oZ):=ű
abbrev NE:=aC (eV 3) bd
def pq(e_:List D->Option D)(ia:List D->Option D):DG:=(d8 3 (aO qh NE))
abbrev Tk:=aC (eV 1) ca
abbrev Tl:=aC (e2 bF (eV 1) v6) aN
abbrev Á:=aC (eV 0) (aC (e2 bF (eV 1) v6) (aC (um f8 (cW aN)) aN))
abbrev Ü:=aC (cW (aC sn Tl)) aN
def fZ(e_:List D->Option D)(ia:List D->Option D):DG:=(ba (gq IN (dM (um f8 (cW aN))) cN) (ba (gq wP (dM (um (pf "Facts" "text_fact" fE (eT "Judge" "facts" (eV 0)) Tl) (cW Ü))) cN) (ba (gq PP (dM (aO e_ Á)) cN) (ba (d8 2 (eF (jN (iL (e2 bF (eV 1) v6)) [M,Y 0] (gN 0) dC (aO ia Tk)))) (ba (gq kt (dM (aO l9 pc)) cN) (ba (d8 3 (um f8 (cW aN))) (ba (gW (iL (eV 2)) (gN 4) (pq e_ ia)) (dM (eV 3)))))))))
abbrev mJ:dh:=l_ 16
abbrev yq:List aH:=["judge","wish","rows","ways","row"]
def mK:bu yq ["judge","wish"] (aE mJ):=ű
mutual
def bY:Nat->List D->Option D
 |0=>λ_=>M
 |n+1=>gu 3 6 (mS (bY n) (bX n))
def bX:Nat->List D->Option D
 |0=>λ_=>M
 |n+1=>gu 2 5 (fZ (bY n) (bX n))
end
def e_:List D->Option D:=bY 12
def ia:List D->Option D:=bX 12
section
variable {P:aZ}{w:cH}{K:aP}{mg:aH->Option aj}{base:cF}{f:aw}{fd:de}
def BP{n:Nat}(F:iV K "steps_ways" "steps_ways" oZ f fd)(kk:KS K mg)(Q0:eL P w K mg base "joined" (n+63) (fw K qh))(GP:eL P w K mg base "wish_ways" (n+63) (fw K (bX n)))(We:eL P w K mg base "step_ways" (n+63) (fw K oV)):cy P w K mg base ib (n+63+1) f fd ["judge","steps","inmost"] (fw K (bY (n+1))):=
 F.vh (Z:=[]) (Ź:=[]) (g:=(mS (bY n) (bX n))) t7 ſ λkF A outer s H E hr B hB=>
  let nd:=t7.nd
  by walk_at "o"
def Eb{n:Nat}(F:iV K "wish_ways" "wish_ways" mJ f fd)(kk:KS K mg)(LC:jy P w K mg base "Facts" "text_fact" (n+63) (fw K fE))(qB:eL P w K mg base "steps_ways" (n+63) (fw K (bY n)))(GP:eL P w K mg base "wish_ways" (n+63) (fw K (bX n)))(QZ:eL P w K mg base "merged" (n+63) (fw K l9))(Q0:eL P w K mg base "joined" (n+63) (fw K qh)):cy P w K mg base ib (n+63+1) f fd ["judge","wish"] (fw K (bX (n+1))):=
 F.vh (Z:=[]) (Ź:=[]) (g:=(fZ (bY n) (bX n))) mK ſ λkF A outer s H E hr B hB=>
  let nd:=mK.nd
  (ay (kB Ŷ (bK (pj (wk sE (uX mx)))) gE) (ay (kB Ŷ (bK (pj (wk Ŷ Ŷ))) gE) (ay (kB Ŷ (bK (pj (zm qB hr rfl (fB (vP 0) (fB Ŷ (fB (wk sE (uX mx)) mx)))))) gE) (ay (A6 (i:=2) (Ź:=[]) (N:=[("other" : aH),("judge" : aH)]) (src:=[M,Y 0]) (jK (outer:=aE mJ) (oN:=yq) rfl Ų rfl rfl) rfl mK.nd rfl rfl Ŷ (gS 0) ſ (jT 0) (λC s H ex=>⟨e8 (i:=0) (show ([("other" : aH),("judge" : aH)]:List aH).Nodup by decide +kernel) rfl (.inl rfl),lN,Ŷ⟩)) (ay Ŷ (ay (xO (i:=3) mK.nd rfl (.inl rfl) (wk sE (uX mx))) Ŷ))))))
def GR:DG:=(dM (aO e_ (aC (eV 0) (aC (eV 1) (aC (um (eT "Judge" "mark" (eV 0)) (cW (aC (eK (.tup (gV.map D.str))) aN))) aN)))))
def qg:List D->Option D:=gu 2 2 GR
abbrev xb:dh:=l_ 12
def Cv:bu ["judge","question"] ["judge","question"] (aE xb):=ű
def M5(F:iV K "models" "models" xb f fd)(kk:KS K mg)(EY:Vk K mg "MARK" gV)(qB:eL P w K mg base "steps_ways" 79 (fw K e_)):cy P w K mg base ib 80 f fd ["judge","question"] (fw K qg):=
 F.vh (Z:=[]) (Ź:=[]) (g:=GR) Cv ſ λkF A outer s H E hr B hB=>
  let nd:=Cv.nd
  (bK (pj (zm qB hr rfl (fB (vP 0) (fB (vP 1) (fB (wk Ŷ (uX (fB (A' EY rfl) mx))) mx))))))
abbrev Þ:=eK (.int 2147483587)
def tq:DG:=(ba (d8 7 (e2 gM (eV 6) (aO eW É))) (ba (gq (cz (e2 oGe (eV 6) (eV 1))) (sf 4 (e2 gM (e2 bF (eV 5) (eV 7)) Þ)) cN) (sd 5 (eV 7) (e2 ir (e2 bF (eV 5) (eV 7)) Þ))))
def xW:DG:=(ba (d8 8 (e2 c6 (e2 uL (e2 uL (e2 c6 (eV 6) (eV 1)) (e2 c6 (eV 6) (eV 1))) (eK (.int 7919))) (eK (.int 104729)))) (ba (d8 9 (e2 gM (e2 uL (e2 c6 (e2 gM (e2 bF (eV 3) (e2 gM (eV 6) (aO eW Sc))) (eK (.int 2147483647))) (eV 8)) (eK (.int 48271))) (eK (.int 2147483647)))) (ba (d8 9 (e2 gM (e2 c6 (e2 uL (eV 9) (eV 9)) (e2 uL (eK (.int 69621)) (eV 6))) (eK (.int 2147483629)))) (sf 4 (e2 gM (e2 uL (eV 9) (eV 9)) Þ)))))
def Ew:DG:=(ba (d8 3 (e2 c6 (eF (lY (eV 0) pN (pS (eK (.int 63))))) (eF (eO u8)))) (ba (jQ 4 Å) (ba (gq (cz (e2 fF (e2 gM (e2 ir (e2 bF (eV 3) f8) (eK (.int 50000))) na) v6)) (ba (jQ 5 (jN (iL (eV 3)) [M] (gN 0) dC (e2 ir (eV 0) (eK (.int 100000))))) (ba (gW (wM (e2 c6 (eV 1) (eV 2))) (gN 6) tq) (pM 4))) cN) (ba (gW (wM (eV 2)) (gN 6) xW) (pM 4)))))
def tD:List D->Option (List D):=rq 3 10 Ew
abbrev vt:dh:=l_ 38
abbrev Mq:List aH:=["_law_script","_law_turn","_law_many","_law_cells","_law_found","_law_left","_law_k","_law_at","_law_place","_law_number"]
def zY:bu Mq ["_law_script","_law_turn","_law_many"] (aE vt):=ű
def Q5:DG:=(ba (gq (cz (e2 fF (eV 0) pp)) (eZ (mP f8)) cN) (eZ (Ue 0)))
def rh:List D->Option (D×List D):=O8 1 1 0 Q5
abbrev Iv:dh:=l_ 39
def O0:bu ["_law_draws_here"] ["_law_draws_here"] (aE Iv):=ű
abbrev ww:=e2 gM (e2 c6 (e2 ir (eV 2) (eK (.int 150))) (e2 uL (eV 0) (eV 0))) (eK (.int 26))
abbrev re:=d8 3 (e2 CN (eK (.str (ab ""))) (eF (jN (wM (e2 gM (eV 1) (eK (.int 11)))) [M,Y 2,Y 1] (gN 0) dC (e2 bF (eV 1) ww))))
abbrev bn:=dM (e2 c6 (e2 c6 (He (eV 3) pN (pS (eV 4))) (e2 bF (eV 2) (e2 gM (e2 c6 (eV 0) (eV 1)) (eK (.int 26))))) (He (eV 3) (pS (eV 4)) pN))
abbrev xL:=d8 4 (e2 gM (e2 ir (eV 1) (eK (.int 11))) (e2 c6 (aO eW Sc) v6))
def Q6:DG:=(ba (d8 2 ce) (ba re (ba xL bn)))
def Bp:List D->Option D:=gu 2 5 Q6
abbrev DX:dh:=l_ 40
def yO:bu ["_law_k","_law_draw","_law_letters","_law_base","_law_at"] ["_law_k","_law_draw"] (aE DX):=ű
def LH:DG:=(oD (jN (wM (e2 c6 v6 (e2 gM (e2 ir (eV 0) (eK (.int 7))) na))) [M,Y 0] (gN 0) dC (aO Bp io)))
def tu:List D->Option (List D):=rq 1 1 LH
abbrev zH:dh:=l_ 41
def FN:bu ["_law_draw"] ["_law_draw"] (aE zH):=ű
def PV(F:iV K "_law_draws" "_law_draws" vt f fd)(kk:KS K mg):cy P w K mg base ib 1 f fd ["_law_script","_law_turn","_law_many"] (rp K tD):=
 F.T5 (Z:=[4,5]) (Ź:=[4,5]) (g:=Ew) zY ſ λkF A outer s H E hr B hB=>
  let nd:=zY.nd
  (ay Ŷ (ay Ŷ (ay (kB Ŷ (ay (NK (i:=5) (Ź:=[]) (N:=[("_law_cell" : aH)]) (src:=[M]) (jK (outer:=aE vt) (oN:=Mq) rfl Ÿ rfl rfl) rfl zY.nd rfl rfl (qG (vP 3)) (gS 0) ſ (jT 0) (λC s H ex=>⟨e8 (i:=0) (show ([("_law_cell" : aH)]:List aH).Nodup by decide +kernel) rfl (.inl rfl),lN,Ŷ⟩)) Ŷ) gE) Ŷ)))
def Xx(F:iV K "_law_pop" "_law_pop" Iv f fd):cy P w K mg base ib 1 f fd ["_law_draws_here"] (Fl K 0 rh):=
 F.Jc (Z:=[0]) (Ź:=[0]) O0 0 ſ ſ λkF A outer s H E hr B a hB=>
  let nd:=O0.nd
  ay Ŷ (bK (wg (YH (pv 0))))
def TY(F:iV K "_law_name" "_law_name" DX f fd)(kk:KS K mg):cy P w K mg base ib 1 f fd ["_law_k","_law_draw"] (fw K Bp):=
 F.vh (Z:=[]) (Ź:=[]) (g:=Q6) yO ſ λkF A outer s H E hr B hB=>
  let nd:=yO.nd
  (ay (xO (i:=2) yO.nd rfl (.inr rfl) EG) (ay (xO (i:=3) yO.nd rfl (.inl rfl) (U3 (dq EG) (dq (df (mw ["_law_j","_law_letters","_law_draw"] [M,Y 2,Y 1] Ŷ λC s H ex=>Ŷ))))) Ŷ))
def PM(F:iV K "_law_names" "_law_names" zH f fd)(kk:KS K mg)(aes:eL P w K mg base "_law_name" 1 (fw K Bp)):cy P w K mg base ib 2 f fd ["_law_draw"] (rp K tu):=
 F.T5 (Z:=[]) (Ź:=[]) FN ſ λkF A outer s H E hr B hB=>
  let nd:=FN.nd
  (bK (zi (mw ["_law_k","_law_draw"] _ Ŷ λC s H ex=>Ŷ)))
end
abbrev No:=aC (e2 mr (eV 4) v6) aN
abbrev UF:=eK (.int 8)
abbrev sK:=eK (.int 3)
abbrev Ä:=e2 Vq (eV 5) (eK (.int 6))
abbrev Ï:=aC (e2 mr (eV 3) v6) aN
abbrev Ù:=eF (eO (aC na (aC v6 (aC f8 (aC na aN)))))
abbrev ß:=cz (e2 fF (eV 5) sK)
abbrev à:=cz (e2 fF (eV 5) na)
abbrev á:=cz (e2 fF (eV 3) f8)
abbrev â:=cz (e2 Vq (eV 5) na)
abbrev ç:=sd 2 na (e2 mr (e2 bF (eV 2) na) v6)
def jt(jA:List D->Option (D×List D×List D))(eB:List D->Option (D×List D×List D)):DG:=(ba (iN 4 (ue rh 0 aN)) (ba (d8 5 (e2 gM (eV 4) UF)) (ba (gq (DV à ß) (eZ (mP (cW (aC sn (aC (e2 bF (eF (eO (aC (eK (.str (ab "x"))) (aC (eK (.str (ab ""))) aN)))) (e2 gM (e2 ir (eV 4) UF) na)) aN))))) cN) (ba (gq (DV â á) (eZ (mP (cW (aC wf aN)))) cN) (ba (gq (cz Ä) (eZ (sj (jd (mP nb) (jd (j9 eB 0 (eV 1) 2 Ï) mE)))) cN) (ba (d8 6 Ø) (ba (gq (i7 (cz (e2 fF (eV 5) (eK (.int 7)))) (cz (e2 yX (e2 bF (eV 2) na) f8))) (ba (d8 6 AT) ç) cN) (ba (d8 7 (e2 bF Ù (e2 gM (e2 ir (eV 4) UF) (eK (.int 4))))) (eZ (sj (jd (mP (eV 6)) (jd (Js (wM (eV 7)) [M,Y 0,Y 1,Y 2,Y 3] (gN 0) (j9 jA 1 (eV 2) 3 No) 1 0 3 2) mE))))))))))))
abbrev lF:dh:=l_ 42
abbrev wu:List aH:=["_law_draws_here","_law_names_here","_law_left","_law_deep","_law_number","_law_kind","_law_word","_law_many"]
def t9:bu wu ["_law_draws_here","_law_names_here","_law_left","_law_deep"] (aE lF):=ű
abbrev æ:=sd 2 v6 (e2 mr (e2 bF (eV 2) v6) v6)
abbrev è:=sd 2 f8 (e2 mr (e2 bF (eV 2) f8) v6)
def my(jA:List D->Option (D×List D×List D))(eB:List D->Option (D×List D×List D)):DG:=(ba (iN 6 (ue rh 0 aN)) (ba (d8 7 Ix) (ba (d8 8 (e2 bF (eV 1) (e2 gM (e2 ir (eV 6) (eK (.int 12))) (aO eW u8)))) (ba (gq (i7 (cz (e2 fF (e2 gM (eV 6) sK) f8)) (cz (e2 yX (e2 bF (eV 2) f8) f8))) (ba (d8 7 Ó) è) cN) (ba (gq (i7 (cz (e2 fF (e2 gM (e2 ir (eV 6) sK) (eK (.int 4))) f8)) (cz (e2 yX (e2 bF (eV 2) v6) f8))) (ba (d8 8 ge) æ) cN) (O6 4 (sj (jd (mP (eV 7)) (jd (mP (eV 8)) (jd (j9 jA 0 (eV 1) 2 Sc) mE))))))))))
def jU(jA:List D->Option (D×List D×List D))(eB:List D->Option (D×List D×List D)):DG:=(ba (jQ 4 Å) (ba (FW (iRM (m2 c6 (mP v6) (m2 gM (ue rh 0 aN) (mP na)))) (gN 5) (my jA eB)) (O4 4)))
abbrev nh:dh:=l_ 43
def rV:bu ["_law_draws_here","_law_names_here","_law_left","_law_deep","_law_found","_law_k","_law_number","_law_way","_law_name_here"] ["_law_draws_here","_law_names_here","_law_left","_law_deep"] (aE nh):=ű
mutual
def cA:Nat->List D->Option (D×List D×List D)
 |0=>λ_=>M
 |n+1=>vB 4 8 0 2 (jt (cA n) (cU n))
def cU:Nat->List D->Option (D×List D×List D)
 |0=>λ_=>M
 |n+1=>vB 4 9 0 2 (jU (cA n) (cU n))
end
def jA:List D->Option (D×List D×List D):=cA 12
def eB:List D->Option (D×List D×List D):=cU 12
section
variable {P:aZ}{w:cH}{K:aP}{mg:aH->Option aj}{base:cF}{f:aw}{fd:de}
def BQ{n:Nat}(F:iV K "_law_small_wish" "_law_small_wish" lF f fd)(kk:KS K mg)(Wf:eL P w K mg base "_law_pop" (n+1) (Fl K 0 rh))(pa:eL P w K mg base "_law_small_steps" (n+1) (tN K 0 2 (cU n)))(qC:eL P w K mg base "_law_small_wish" (n+1) (tN K 0 2 (cA n))):cy P w K mg base ib (n+1+1) f fd ["_law_draws_here","_law_names_here","_law_left","_law_deep"] (tN K 0 2 (cA (n+1))):=
 F.aaF (Z:=[0,2]) (Ź:=[0,2]) (g:=(jt (cA n) (cU n))) t9 0 2 ſ ſ ſ ſ λkF A outer s H E hr B a c hB=>
  let nd:=t9.nd
  (ay Ŷ (ay Ŷ (ay Ŷ (ay Ŷ (ay (kB Ŷ (bK (wg (J0 (kC (qF EG) (kC (A8 pa hr rfl (pv 0) (vP 1) (pv 2) Ŷ) zj))))) gE) (ay Ŷ (ay Ŷ (ay Ŷ (bK (wg (J0 (kC (qF (vP 6)) (kC (YI (i0:=1) (j0:=0) (i1:=3) (j1:=2) (N:=[("_law_k" : aH),("_law_draws_here" : aH),("_law_names_here" : aH),("_law_left" : aH),("_law_deep" : aH)]) (src:=[M,Y 0,Y 1,Y 2,Y 3]) (jK (outer:=aE lF) (oN:=wu) rfl Ÿ rfl rfl) rfl Ŷ (gS 0) ſ (Nr _ 0 1 3) (λC s H ex=>⟨e8 (i:=0) (show ([("_law_k" : aH),("_law_draws_here" : aH),("_law_names_here" : aH),("_law_left" : aH),("_law_deep" : aH)]:List aH).Nodup by decide +kernel) rfl (md rfl),lN,aeK λB a c hB=>(A8 qC hr rfl (pv 1) (vP 2) (pv 3) Ŷ)⟩)) zj)))))))))))))
def Ai{n:Nat}(F:iV K "_law_small_steps" "_law_small_steps" nh f fd)(kk:KS K mg)(Wf:eL P w K mg base "_law_pop" (n+1) (Fl K 0 rh))(qC:eL P w K mg base "_law_small_wish" (n+1) (tN K 0 2 (cA n))):cy P w K mg base ib (n+1+1) f fd ["_law_draws_here","_law_names_here","_law_left","_law_deep"] (tN K 0 2 (cU (n+1))):=
 F.aaF (Z:=[0,2,4]) (Ź:=[0,2,4]) (g:=(jU (cA n) (cU n))) rV 0 2 ſ ſ ſ ſ λkF A outer s H E hr B a c hB=>
  let nd:=rV.nd
  (ay Ŷ (ay (US cK rfl (J4 rfl kk.y Ŷ) (λB hB=>Ŷ) (λB hB=>(ay Ŷ (ay Ŷ (ay Ŷ (ay Ŷ (ay Ŷ (bK (UU (pv 4) (J0 (kC (qF (vP 7)) (kC (qF (vP 8)) (kC (A8 qC hr rfl (pv 0) (vP 1) (pv 2) Ŷ) zj))))))))))))) (bK (Ro (pv 4)))))
end
def oS(dB:List D->Option (List D))(fD:List D->Option (List D)):DG:=(sf 1 (e2 c6 (e2 c6 (eF (lY (eV 0) pN (pS (eV 2)))) (eF (eO (aC (cW (aC (eV 3) (aC (eV 4) (aC (eV 6) aN)))) aN)))) (eF (lY (eV 0) (pS (e2 c6 (eV 2) v6)) pN))))
def oR(dB:List D->Option (List D))(fD:List D->Option (List D)):DG:=(ba (BO (LI 3 4 5) (e2 bF (eV 0) (eV 2))) (gW (iL (eF (dG fD É))) (gN 6) (oS dB fD)))
def xK(dB:List D->Option (List D))(fD:List D->Option (List D)):DG:=(ba (jQ 1 Å) (ba (gW (wM (aO eW ca)) (gN 2) (oR dB fD)) (pM 1)))
abbrev uC:dh:=l_ 44
def zW:bu ["_law_steps","_law_found","_law_k","_law_way","_law_name_here","_law_wish","_law_left"] ["_law_steps"] (aE uC):=ű
def l5(dB:List D->Option (List D))(fD:List D->Option (List D)):DG:=(sf 1 (cW (aC nb pc)))
abbrev Õ:=eF (eO (aC (eV 6) aN))
def oQ(dB:List D->Option (List D))(fD:List D->Option (List D)):DG:=(sf 1 (cW (aC (e2 bF (eV 0) f8) (aC (e2 c6 (e2 c6 (eV 4) Õ) (eV 5)) aN))))
abbrev wp:=e2 yX (aO eW Uf) v6
abbrev Î:=lY (e2 bF (eV 0) v6) (pS (e2 c6 (eV 3) v6)) pN
def oP(dB:List D->Option (List D))(fD:List D->Option (List D)):DG:=(ba (d8 4 (eF (lY (e2 bF (eV 0) v6) pN (pS (eV 3))))) (ba (d8 5 (eF Î)) (ba (gW (iL (eF (dG fD (aC (e2 bF (e2 bF (eV 0) v6) (eV 3)) aN)))) (gN 6) (oQ dB fD)) (gq (cz wp) (sf 1 (cW (aC (e2 bF (eV 0) f8) (aC (e2 c6 (eV 4) (eV 5)) aN)))) cN))))
abbrev pi:=lY (e2 bF (eV 0) v6) pN (pS (e1 xu v6))
abbrev xz:=cW (aC nb (aC (eF pi) aN))
def xJ(dB:List D->Option (List D))(fD:List D->Option (List D)):DG:=(ba (gq (cz (e2 fF (e2 bF (eV 0) f8) wf)) (oD Å) cN) (ba (jQ 1 (eO (aC (cW (aC wf aN)) aN))) (ba (gq (cz cr) (ba (gW (iL (eF (dG dB Uf))) (gN 2) (l5 dB fD)) (gq (cz wp) (sf 1 xz) cN)) cN) (ba (gq AC (gW (wM (aO eW Uf)) (gN 3) (oP dB fD)) cN) (pM 1)))))
abbrev uB:dh:=l_ 45
def zV:bu ["_law_wish","_law_found","_law_steps","_law_k","_law_ahead","_law_behind","_law_left"] ["_law_wish"] (aE uB):=ű
mutual
def gj:Nat->List D->Option (List D)
 |0=>λ_=>M
 |n+1=>rq 1 7 (xK (gj n) (fJ n))
def fJ:Nat->List D->Option (List D)
 |0=>λ_=>M
 |n+1=>rq 1 7 (xJ (gj n) (fJ n))
end
def dB:List D->Option (List D):=gj 12
def fD:List D->Option (List D):=fJ 12
section
variable {P:aZ}{w:cH}{K:aP}{mg:aH->Option aj}{base:cF}{f:aw}{fd:de}
def I'{n:Nat}(F:iV K "_law_left_in" "_law_left_in" uC f fd)(kk:KS K mg)(Ny:eL P w K mg base "_law_left_of" (n+0) (rp K (fJ n))):cy P w K mg base ib (n+0+1) f fd ["_law_steps"] (rp K (gj (n+1))):=
 F.T5 (Z:=[1]) (Ź:=[1]) zW ſ λkF A outer s H E hr B hB=>
  let nd:=zW.nd
  by walk_at "o"
def I_{n:Nat}(F:iV K "_law_left_of" "_law_left_of" uB f fd)(kk:KS K mg)(Nz:eL P w K mg base "_law_left_in" (n+0) (rp K (gj n)))(Ny:eL P w K mg base "_law_left_of" (n+0) (rp K (fJ n))):cy P w K mg base ib (n+0+1) f fd ["_law_wish"] (rp K (fJ (n+1))):=
 F.T5 (Z:=[1]) (Ź:=[1]) zV ſ λkF A outer s H E hr B hB=>
  let nd:=zV.nd
  by walk_at "o"
end
abbrev zG:dh:=l_ 25
def pK:bu ["signs","top","rows","at","sign","own"] ["signs"] (aE zG):=ű
def Va(k:aH)(r:List D)(a b:Bool)(d:iA r 179=Z'):nV [.tup (.str k::r),.bl a,.bl b]=Y (.bl (if k=ua then a || !b else a)):=by
 let c:vk (D.str k::r) 0=Y _:=d6 rfl;simp only[nV,gu,AU,gA,ba,gq,cz,e2,eV,eK,bF,a9,Fe,aJ,eH];simp[c,fF,jg,nO,dM,eOr,cz,eV,UP,cN,mW,ua];by_cases h:k=ab "open"
 .grind [mW]
 simp_all [ab,mW]
structure Wo(K:aP)(G0 H0:Hp)(ss:List D)(zf:Zs×List D)(a0 l0 R:aw)(i:Nat)(σ:St)(H:Hp):Prop where
 ex:∃G st ls L0 v3 v4 v5,σ=[some (.ref a0),some (.ref l0),some (.ref R),v3,v4,v5]/\gc G0 H0 G H/\iC K H0 G H st ls L0 l0 []/\(R::(ls++[l0])).Nodup/\(∀a∈R::(ls++[l0]),G a=none/\H0 a=none) /\
  H R=some (.lst ((ls++[l0]).reverse.map V.ref))/\B6 i (st,L0)/\wA (ss.drop i) (st,L0)=some zf
set_option tactic.hygienic true in
def PL{P:aZ}{K:aP}{f:aw}(F:iV K "stump" "stump" zG f fd)(VA:mg "len" = M)(S:mg "enumerate" = M)(aet:eL P w K mg base "can_come" 1 (fw K nV)):
  cy P w K mg base ib 2 f fd ["signs"] (fw K oU):=by
 let⟨fc,fdc,psc,hC,hmC,hkC,hbC⟩:=aet.ex
 have inv:∀ds d,oU ds=Y d->∃L zf,ds=[.lst L]/\L.length<=100000/\wA L ([],[])=Y zf/\(zu zf.1 zf.2)[0]?=Y d:=λds d eq=>by
  unfold oU at eq
  split at eq
  .split at eq
   .rename_i L hz
    cases ez:wA L ([],[]) with|none=>rw[ez]at eq;cases eq|some zf=>rw[ez]at eq;exact⟨L,zf,rfl,hz,ez,eq⟩
   .cases eq
  .cases eq
 refine F.ok pK (λvs H Q E h =>?_) (λkF A outer s H vs Q E hr h =>?_)
 .let⟨G,ds,d,gh,r,eq,_⟩:=h
  let⟨L,zf,rfl,_⟩:=inv ds d eq
  exact r.length.symm
 .let⟨G0,ds,d,gh,r,eq,q⟩:=h
  let⟨L,zf,rfl,hz,ez,ed⟩:=inv ds d eq
  let⟨v0,r0,rfl,rs,rn⟩:=bH.mp r
  have:=dU.mp rn;subst this
  let⟨a0,us,rfl,ga0,ru⟩:=cB.mp rs
  have big:100000<aU:=by rw[iX];decide
  refine⟨_,nG (uG (i:=1) pK.nd rfl (md rfl) (D5 eC))
   (nG (uG (i:=2) pK.nd rfl (md rfl) (D5 (bZ (pv 1) eC)))
   (nG (Xc cK rfl (KW rfl S (pv 0)) (IP rfl (vF (e8 (i:=3) pK.nd rfl (md rfl)) (vF (e8 (i:=4) pK.nd rfl (md rfl)) TB)))
    (nG (KP (Pb (Xa (mO hC hr rfl hmC hkC hbC .nil nI (bZ (pv 4) (bZ (D6 Py (vG qM rfl VA PySem.boot_len (bZ (pv 2) eC)) o_ (Aq _)) (bZ (D6 Py (vG qM rfl VA PySem.boot_len (bZ (pv 1) eC)) o_ (Aq _)) eC)))))) (oE Pd) KO)
    (oE (KP (D3 VO (ye AF (pv 4) o_ (λ_ _=>rfl)) IS (Aq _))
     (nG (uG (i:=5) pK.nd rfl (md rfl) (D5 eC))
     (nG (mN (vH gO PySem.F.slot_list_append PySem.F.type_list_append lq (ye y0 (pv 2) (Pm Ij o_) (λ_ _=>rfl)) (bZ (IQ (bZ (ye AF (pv 4) o_ (λ_ _=>rfl)) (bZ (pv 5) eC))) eC)))
     (oE (mN (vH gO PySem.F.slot_list_append PySem.F.type_list_append lq (pv 2) (bZ (pv 5) eC))))))
     (oE (KP (D3 VO (ye AF (pv 4) o_ (λ_ _=>rfl)) IS (Aq _))
      (oE (mN (vH gO PySem.F.slot_list_append PySem.F.type_list_append lq (ye y0 (pv 2) (Pm Ij o_) (λ_ _=>rfl)) (bZ (ye AF (pv 4) o_ (λ_ _=>rfl)) eC))))
      (oE (mN (Pu gO PySem.F.slot_list_pop PySem.F.type_list_pop Qa (pv 2))))))))))
   (oE (xq (ye y0 (pv 1) o_ (λ_ _=>rfl)))))),?_⟩
  refine⟨d7 _,λe Yi =>?_⟩
  refine⟨_,rfl,(by show 1<=aU;lia),λR hR =>?_⟩
  have nRl:R≠e:=λz=>by rw[z,a_]at hR;cases hR
  have hR0:H R=none:=by rw[aR nRl]at hR;exact hR
  let hH0:bz H (dA (dA H e (.lst [])) R (.lst [.ref e])):=(bz.alloc Yi).trans (.alloc hR)
  have sqs:∀ {G H':Hp},gc G0 H G H'->mh K H' a0 us:=λE =>.of (E.gh _ _ (E.gg _ _ ga0))
  have EE0:gc G0 H G0 (dA (dA H e (.lst [])) R (.lst [.ref e])):=(gc.lay (p:=e) gh Yi).trans (gc.lay (p:=R) (gh.trans (.alloc Yi)) hR)
  refine⟨_,rfl,a0,rfl,⟨us,sqs EE0⟩,?_⟩
  refine⟨λi m σ H'=>m=L.length-i/\i<=L.length/\Wo K G0 H L zf a0 e R i σ H',⟨L.length,rfl,d7 _,⟨G0,[],[],[],M,M,M,rfl,EE0,?_,?_,?_,a_,⟨av _,av _,λp hp=>by cases hp⟩,ez⟩⟩,?_⟩
  .exact⟨rfl,[],by rw[aR nRl.symm,a_];rfl,.nil⟩
  .simp;exact nRl
  .intro a n
   rcases aq.mp n with rfl|n
   .exact⟨gh.free hR0,hR0⟩
   .let z:a=e:=by simpa using n
    subst z;exact⟨gh.free Yi,Yi⟩
  rintro i m σ H1 ⟨rfl,hil,⟨G1,W,u,L0,v3,v4,v5,rfl,E1,hp,nd,fr,hR1,zl,I⟩⟩
  by_cases GO:i<L.length
  .
   have hlu:i<us.length:=by rw[<- ru.length];exact GO
   refine .inr ⟨⟨us,us[i],sqs E1,by simp[hlu]⟩,Wo K G0 H L zf a0 e R (i+1),λσ' H' p'=>⟨L.length-(i+1),Ž,rfl,GO,p'⟩,λx H2 y =>?_⟩
   let⟨y,p,hy,hpn,rfl,rfl⟩:=y
   let hy:us[i]?=Y y:=hy us (sqs E1)
   refine⟨p,_,rfl,.of a_,rfl,_,_,rfl,_,_,rfl,rfl,?_⟩
   rw[cZ GO]at I
   have I:(vn (W,L0) L[i]).bind (wA (L.drop (i+1)))=Y zf:=I
   cases es:vn (W,L0) L[i] with
   |none=>rw[es]at I;cases I|some U=>
    rw[es]at I
    have I:wA (L.drop (i+1)) U=Y zf:=I
    have zl':=zl.step es
    let⟨y',hy',ry⟩:=ru.get (aS GO)
    rw[hy]at hy';cases hy'
    have E2:gc G0 H G1 (dA H1 p (.tup [.int i,y])):=E1.trans (gc.lay (p:=p) E1.gh hpn)
    have HR:=hp.lay (o :=.tup [.int i,y]) E1.gh hpn
    have Yk:dA H1 p (.tup [.int i,y]) R=Y (.lst ((u++[e]).reverse.map V.ref)):=by rw[aR (bp hR1 hpn)];exact hR1
    let⟨ts,ht2,ad4⟩:=HR.top
    have HF:=HR.len
    have aaP:((u++[e]).reverse.map V.ref).length=W.length+1:=by simp[HF]
    generalize hH2:dA H1 p (.tup [.int i,y])=H2 at *
    have hb1:decide ((1:Int)<(((u++[e]).reverse.map V.ref).length:Int))=decide (W≠[]):=by
     rw[aaP];cases W<;>simp;lia
    have hb2:decide ((0:Int)<(ts.length:Int))=decide (¬(L0=[]/\W=[])):=by rw[ad4];simp
    have Y6:∀(k:aH) (rd:List D) (D':Ends) (σ':St),L[i]=.tup (.str k::rd)->iA rd 179=Z'->(if k=ua then decide (W≠[]) || !decide (¬(L0=[]/\W=[])) else decide (W≠[]))=Z'->σ'[4]?=Y (Y y)->σ'[2]?=Y (Y (.ref R))->σ'[1]?=Y (Y (.ref e)) ->
      (∀G3 H3,gc G1 H2 G3 H3->D'.nx σ' H3) ->
      Z6 (Z4 (tB (VG (fw K nV) [] E0 (Cj (i5 4) (Cj (VD (Ol λi j=>V.bl (decide (j<i))) (tCB (λxs H Q=>∃p ys,xs=[.ref p]/\(mh K H p ys\/wN K H p ys)/\Q (.int ys.length) H) (Cj (i5 2) OP)) (tC (.int 1)))
       (Cj (VD (Ol λi j=>V.bl (decide (j<i))) (tCB (λxs H Q=>∃p ys,xs=[.ref p]/\(mh K H p ys\/wN K H p ys)/\Q (.int ys.length) H) (Cj (i5 1) OP)) (tC (.int 0))) OP)))))) OQ VE D' σ' H2:=by
     intro k rd D' σ' ek fQ hc e4 e2 e1 kk
     refine⟨_,e4,_,e2,R,_,rfl,.inl (.of Yk),_,_,rfl,rfl,_,e1,e,_,rfl,.inl (.of ht2),_,_,rfl,rfl,?_⟩
     refine⟨G1,[L[i],.bl (decide ((1:Int)<(((u++[e]).reverse.map V.ref).length:Int))),.bl (decide ((0:Int)<(ts.length:Int)))],.bl Z',E2.gh,.cons (cX.mono E2.gg _ ry) (.cons (b_.mpr rfl) (.cons (b_.mpr rfl) .nil)),?_,λv' G3 H3 O r3=>⟨Z',b_.mp r3,JF (kk G3 H3 O)⟩⟩
     rw[ek,Va _ _ _ _ fQ,hb1,hb2,hc]
    have XM:=(cS.mp nd).2
    have nR:=(cS.mp nd).1
    rcases Fu es with⟨x,ek,QQ,rfl⟩|⟨x,ek,Yf,rfl⟩|⟨nm,Fm,r',ek,Yf,rfl⟩
    .
     let QQ:¬(W=[]/\L0≠[]):=QQ
     rw[ek]at ry
     let⟨b,ws,rfl,gb,C⟩:=d5.mp ry
     let⟨w1,q1,rfl,rw1,C⟩:=bH.mp C
     let⟨w2,q2,rfl,rw2,C⟩:=bH.mp C
     have:=dU.mp C;subst this
     have:=dI.mp rw1;subst this
     have:=dI.mp rw2;subst this
     refine Y6 ua [.str x] _ _ ek rfl (by
      rw[if_pos rfl]
      by_cases h1:W=[]
      .by_cases h2:L0=[]
       .simp[h1,h2]
       .exact absurd ⟨h1,h2⟩ QQ
      .simp[h1]) rfl rfl rfl λG3 H3 O =>?_
     have g:=E2.trans O
     have V':=HR.ext O
     have J:=O.hh _ _ Yk
     have Wb:wN K H3 b [.str ua,.str x]:=(gb.mono g.gg).sq g.gh
     refine⟨_,rfl,b,_,_,_,rfl,rfl,Wb,d6 (j:=0) rfl,rfl,_,rfl,?_⟩
     refine QL (λ_ =>?_) (λhn=>absurd (decide_eq_true rfl) hn)
     refine⟨d7 _,λT Sv =>?_⟩
     have E4:=gc.lay (o :=.lst []) O.gh Sv
     let hp4:=V'.ext E4
     let⟨vs,B,X⟩:=hp4.inner
     rw[br]at B
     have hR4:=E4.hh _ _ J
     let hb4:wN K _ b [.str ua,.str x]:=(gb.mono (g.gg.trans E4.gg)).sq E4.gh
     let np1:dA H3 T (.lst []) T=Y (.lst []):=a_
     generalize hH4:dA H3 T (.lst [])=H4 at *
     refine⟨_,rfl,_,rfl,R,_,-1,_,rfl,rfl,.of hR4,GF u e,.inl ⟨rfl,_,.of B⟩,_,rfl,b,_,_,_,rfl,rfl,hb4,d6 (j:=1) rfl,_,rfl,(by show 2<=aU;lia),λt ht =>?_⟩
     have E5:=gc.lay (o :=.tup [.str x,.ref T]) E4.gh ht
     have hp5:=hp4.ext E5
     have hR5:=E5.hh _ _ hR4
     have abg:=E5.hh _ _ B
     let np5:=E5.hh _ _ np1
     let nt5:dA H4 t (.tup [.str x,.ref T]) t=Y (.tup [.str x,.ref T]):=a_
     generalize hH5:dA H4 t (.tup [.str x,.ref T])=H5 at *
     let hvl:vs.length<=i:=by rw[<- X.length];exact zl.inner
     refine⟨_,vs,_,rfl,rfl,abg,Ž,?_⟩
     have npc:T≠u.headD e:=λz=>by
      let⟨vs3,hc3,_⟩:=V'.inner
      rw[<- z]at hc3;rw[Sv]at hc3;cases hc3
     have ad7:∀a∈R::(u++[e]),a≠T:=λa n z=>by
      subst z
      rcases aq.mp n with rfl|n
      .rw[Sv]at J;cases J
      .let⟨o,z⟩:=V'.X9 a n
       rw[Sv]at z;cases z
     have hcR:u.headD e≠R:=λz=>nR (by rw[<- z];cases u<;>simp)
     have hR6:dA H5 (u.headD e) (.lst (vs++[.ref t])) R=Y (.lst ((u++[e]).reverse.map V.ref)):=by rw[aR hcR.symm];exact hR5
     let hlR:((u++[e]).reverse.map V.ref).length<aU:=by have:=zl.st;simp at this;rw[aaP];lia
     refine⟨_,rfl,.inl ⟨rfl,_,.of hR6⟩,_,rfl,R,_,_,rfl,rfl,hR6,hlR,?_⟩
     have E06:gc G0 H G3 H5:=g.trans (E4.trans E5)
     let ada:t≠u.headD e:=λz=>by rw[<- z]at B;rw[ht]at B;cases B
     have tR:t≠R:=λz=>by rw[z]at ht;rw[hR4]at ht;cases ht
     let h0t:H t=none:=(g.hh.trans E4.hh).free ht
     let h0p:H T=none:=g.hh.free Sv
     let g3p:G3 T=none:=O.gh.free Sv
     let g3t:G3 t=none:=E4.gh.free ht
     have N:∀a∈R::(u++[e]),G3 a=M/\H a=none:=λa n=>by
      refine⟨?_,(fr a n).2⟩
      rcases aq.mp n with rfl|Wd
      .exact O.nil Yk (fr _ n).1
      .let⟨o,z⟩:=HR.X9 a Wd
       exact O.nil z (fr _ n).1
     have ps:=hp5.set (b:=L2.inner W L0) (c:=vs) (a:=[.ref t]) X XM
     let yl:uE W L0 (L2.inner W L0)=(W,L0):=by cases W with
      |nil=>rfl|cons c W=>let⟨a,b⟩:=c;rfl
     rw[yl]at ps
     have pu:=iC.upd (a:=R) (o:=(u++[e]).reverse.map V.ref++[.ref T]) hR6 (λz=>nR (aW _ z)) (λz=>nR (by rw[z];simp)) ps
     have ndp:T∉R::(u++[e]):=λz=>ad7 _ z rfl
     have np6:dA (dA H5 (u.headD e) (.lst (vs++[.ref t]))) R (.lst ((u++[e]).reverse.map V.ref++[.ref T])) T=Y (.lst []):=by
      rw[aR (λz=>ndp (by rw[z];exact aM)),aR npc];exact np5
     refine⟨G3,(x,[])::W,T::u,L0,_,_,_,rfl,⟨λb' o z =>?_,E06.gg,λb' o z =>?_,E06.fr⟩,⟨T,u,t,rfl,⟨[],np6,.nil⟩,?_,g3t,h0t,pu⟩,?_,λa n =>?_,?_,zl',I⟩
     .let n1:b'≠R:=λU=>by rw[U,(fr R aM).2]at z;cases z
      let n2:b'≠u.headD e:=λU=>by rw[U,(fr _ (aB _ (sO u e))).2]at z;cases z
      rw[aR n1,aR n2];exact E06.hh _ _ z
     .let n1:b'≠R:=λU=>by rw[U,(N R aM).1]at z;cases z
      let n2:b'≠u.headD e:=λU=>by rw[U,(N _ (aB _ (sO u e))).1]at z;cases z
      rw[aR n1,aR n2];exact E06.gh _ _ z
     .rw[aR tR,aR ada];exact nt5
     .show (R::T::(u++[e])).Nodup
      refine cS.mpr ⟨λz =>?_,cS.mpr ⟨λz=>ndp (aB _ z),XM⟩⟩
      rcases aq.mp z with z|z
      .exact ndp (by rw[z];exact aM)
      .exact nR z
     .rcases aq.mp n with rfl|n
      .exact N _ aM
      .rcases aq.mp n with rfl|n
       .exact⟨g3p,h0p⟩
       .exact N a (aB _ n)
     .rw[a_];simp
    .
     let Yf:W≠[]:=Yf
     rw[ek]at ry
     let⟨b,ws,rfl,gb,C⟩:=d5.mp ry
     let⟨w1,q1,rfl,rw1,C⟩:=bH.mp C
     let⟨w2,q2,rfl,rw2,C⟩:=bH.mp C
     have:=dU.mp C;subst this
     have:=dI.mp rw1;subst this
     have:=dI.mp rw2;subst this
     refine Y6 Cy [.str x] _ _ ek rfl (by rw[if_neg (λz=>sOT z.symm)];simp[Yf]) rfl rfl rfl λG3 H3 O =>?_
     have g:=E2.trans O
     have V':=HR.ext O
     have J:=O.hh _ _ Yk
     have Wb:wN K H3 b [.str Cy,.str x]:=(gb.mono g.gg).sq g.gh
     refine⟨_,rfl,b,_,_,_,rfl,rfl,Wb,d6 (j:=0) rfl,rfl,_,rfl,?_⟩
     refine QL (λhn=>absurd (V.str.inj (of_decide_eq_true hn)) (λz=>sOT z.symm)) (λ_ =>?_)
     refine⟨_,rfl,b,_,_,_,rfl,rfl,Wb,d6 (j:=0) rfl,rfl,_,rfl,?_⟩
     refine QL (λ_ =>?_) (λhn=>absurd (decide_eq_true rfl) hn)
     let⟨vs,B,X⟩:=V'.inner
     rw[br]at B
     let hvl:vs.length<=i:=by rw[<- X.length];exact zl.inner
     refine⟨_,rfl,_,rfl,R,_,-1,_,rfl,rfl,.of J,GF u e,.inl ⟨rfl,_,.of B⟩,_,rfl,b,_,_,_,rfl,rfl,Wb,d6 (j:=1) rfl,_,vs,_,rfl,rfl,B,Ž,?_⟩
     have N:∀a∈R::(u++[e]),G3 a=M/\H a=none:=λa n=>by
      refine⟨?_,(fr a n).2⟩
      rcases aq.mp n with rfl|Wd
      .exact O.nil Yk (fr _ n).1
      .let⟨o,z⟩:=HR.X9 a Wd
       exact O.nil z (fr _ n).1
     have hcR:u.headD e≠R:=λz=>nR (by rw[<- z];exact sO u e)
     have ps:=V'.set (b:=L2.inner W L0++[.str x]) (c:=vs++[.str x]) (a:=[]) (X.append (.cons (dI.mpr rfl) .nil)) XM
     rw[br]at ps
     refine⟨G3,_,u,_,_,_,_,rfl,⟨λb' o z =>?_,g.gg,λb' o z =>?_,g.fr⟩,ps,nd,N,?_,zl',I⟩
     .let n2:b'≠u.headD e:=λU=>by rw[U,(fr _ (aB _ (sO u e))).2]at z;cases z
      rw[aR n2];exact g.hh _ _ z
     .let n2:b'≠u.headD e:=λU=>by rw[U,(N _ (aB _ (sO u e))).1]at z;cases z
      rw[aR n2];exact g.gh _ _ z
     .rw[aR hcR.symm];exact J
    .
     let Yf:W=(nm,Fm)::r':=Yf
     subst Yf
     rw[ek]at ry
     let⟨b,ws,rfl,gb,C⟩:=d5.mp ry
     let⟨w1,q1,rfl,rw1,C⟩:=bH.mp C
     have:=dU.mp C;subst this
     have:=dI.mp rw1;subst this
     refine Y6 xo [] _ _ ek rfl (by rw[if_neg (λz=>sOC z.symm)];simp) rfl rfl rfl λG3 H3 O =>?_
     have g:=E2.trans O
     have V':=HR.ext O
     have J:=O.hh _ _ Yk
     have Wb:wN K H3 b [.str xo]:=(gb.mono g.gg).sq g.gh
     refine⟨_,rfl,b,_,_,_,rfl,rfl,Wb,d6 (j:=0) rfl,rfl,_,rfl,?_⟩
     refine QL (λhn=>absurd (V.str.inj (of_decide_eq_true hn)) (λz=>sOC z.symm)) (λ_ =>?_)
     refine⟨_,rfl,b,_,_,_,rfl,rfl,Wb,d6 (j:=0) rfl,rfl,_,rfl,?_⟩
     refine QL (λhn=>absurd (V.str.inj (of_decide_eq_true hn)) (λz=>sTC z.symm)) (λ_ =>?_)
     have N:∀a∈R::(u++[e]),G3 a=M/\H a=none:=λa n=>by
      refine⟨?_,(fr a n).2⟩
      rcases aq.mp n with rfl|Wd
      .exact O.nil Yk (fr _ n).1
      .let⟨o,z⟩:=HR.X9 a Wd
       exact O.nil z (fr _ n).1
     let⟨l,lr,G4,rfl,s1,s2,f2,g4,g4',hp4⟩:=V'.close g.gh XM (λa n=>N a (aB _ n))
     have eR:(l::lr++[e]).reverse.map V.ref=(lr++[e]).reverse.map V.ref++[.ref l]:=ż
     rw[eR]at J
     refine⟨_,rfl,.inl ⟨rfl,_,.of J⟩,R,_,.ref l,rfl,rfl,J,ż,?_⟩
     rw[List.dropLast_concat]
     have g4R:G4 R=none:=g4' R _ J (λz=>nR (aW _ z)) (N R aM).1
     have nR':R∉lr++[e]:=λz=>nR (aB _ z)
     refine⟨G4,_,lr,_,_,_,_,rfl,⟨λb' o z =>?_,g.gg.trans s1,λb' o z =>?_,λb' o z =>?_⟩,iC.upd (a:=R) J (λz=>nR' (aW _ z)) (λz=>nR' (by rw[z];simp)) hp4,cS.mpr ⟨nR',(cS.mp XM).2⟩,λa n =>?_,a_,zl',I⟩
     .let n1:b'≠R:=λU=>by rw[U,(fr R aM).2]at z;cases z
      rw[aR n1];exact g.hh _ _ z
     .let n1:b'≠R:=λU=>by rw[U,g4R]at z;cases z
      rw[aR n1];exact s2 _ _ z
     .rcases f2 b' o z with z|z
      .exact g.fr b' o z
      .exact .inr z
     .rcases aq.mp n with rfl|n
      .exact⟨g4R,(fr _ aM).2⟩
      .exact⟨g4 a n,(fr a (aB _ (aB _ n))).2⟩
  .
   let ei:i=L.length:=by lia
   subst ei
   rw[kR]at I
   cases I
   refine .inl ⟨⟨us,sqs E1,by rw[ru.length];exact av _⟩,?_⟩
   let⟨G2,vs,s1,s2,f2,hl,rl⟩:=iC.Hn _ rfl E1.gh (cS.mp nd).2 (λa n=>fr a (aB _ n)) hp
   let⟨v,ev,rv⟩:=rl.get ed
   refine⟨_,rfl,e,vs,0,v,rfl,rfl,.of hl,d6 (j:=0) ev,q v G2 H1 ⟨E1.hh,E1.gg.trans s1,s2,λb o z =>?_⟩ rv⟩
   rcases f2 b o z with z|z
   .exact E1.fr b o z
   simp_all
abbrev Ë:=aC (eF (jN (Ut (eV 1)) [M] (gN 0) am (eV 0))) aN
def ik:DG:=(ba (d8 1 (UO (eV 0) pN (pS (NJ (eV 0) (eK (.tup (gV.map D.str))))))) (ba (d8 2 (e2 mr (aO eW Ë) v6)) (dM (cW (aC (aO oU (aC (eF (jN (Ut (eV 0)) [M] (gN 0) (cz (e2 Gc (eV 0) (eK (.tup (gV.map D.str))))) (eV 0))) aN)) pc)))))
def dO:List D->Option D:=gu 1 3 ik
abbrev fO:dh:=l_ 28
abbrev j_:List aH:=["signs","ahead","number"]
def gQ:bu j_ ["signs"] (aE fO):=ű
def jh:DG:=(gq (i6 (eS (e2 nJ (eV 2) v6))) (dM (aO dO Sc)) cN)
abbrev È:=aC (ph "Judge" dZ u8) ca
def xI:DG:=(ba (gW (ku (aO qg È)) (yA 2 3) jh) (dM wT))
def f9:List D->Option D:=gu 2 4 xI
abbrev uA:dh:=l_ 27
def zU:bu ["one","other","facts","signs"] ["one","other"] (aE uA):=ű
section
variable {P:aZ}{w:cH}{K:aP}{mg:aH->Option aj}{base:cF}{f:aw}{fd:de}
def tO(F:iV K "paper_and_number" "paper_and_number" fO f fd)(kk:KS K mg)(EY:Vk K mg "MARK" gV)(Uv:eL P w K mg base "stump" 3 (fw K oU)):cy P w K mg base ib 4 f fd ["signs"] (fw K dO):=
 F.vh (Z:=[]) (Ź:=[]) (g:=ik) gQ ſ λkF A outer s H E hr B hB=>
  let nd:=gQ.nd
  (ay (xO (i:=1) gQ.nd rfl (.inl rfl) (YL (vQ 0) Rt (Rr (dq (YN hr (vP 0) (A' EY rfl)))))) (ay (xO (i:=2) gQ.nd rfl (.inl rfl) (RD XB (dq (YM rfl kk.y (dq (df (Du (Ź:=[]) (N:=[("sign" : aH)]) (src:=[M]) (jK (outer:=aE fO) (oN:=j_) rfl Ÿ rfl rfl) rfl (Wl (vP 1)) (gS 0) ſ (jT 0) (λC s H ex=>⟨e8 (i:=0) (show ([("sign" : aH)]:List aH).Nodup by decide +kernel) rfl (.inl rfl),(tb Ŷ),(vP 0)⟩)))))) (dq sE))) (bK (pj (uX (fB (zm Uv hr rfl (fB (df (Du (Ź:=[]) (N:=[("sign" : aH)]) (src:=[M]) (jK (outer:=aE fO) (oN:=j_) rfl Ÿ rfl rfl) rfl (Wl (vP 0)) (gS 0) ſ (jT 0) (λC s H ex=>⟨e8 (i:=0) (show ([("sign" : aH)]:List aH).Nodup by grind) rfl (.inl rfl),(tb (YE (aaH hr) (vQ 0) (dq (A' EY rfl)) (Aq _))),(vP 0)⟩))) mx)) Ŷ))))))
def IZ(F:iV K "parting" "parting" uA f fd)(acA:B8 P w K mg base "Judge" 80 (spT K ny dZ))(QY:eL P w K mg base "models" 81 (fw K qg))(JL:eL P w K mg base "paper_and_number" 81 (fw K dO)):cy P w K mg base ib 82 f fd ["one","other"] (fw K f9):=
 F.vh (Z:=[]) (Ź:=[]) zU ſ λkF A outer s H E hr B hB=>
  let nd:=zU.nd
  (ay (mv cK rfl (pZ (zm QY hr rfl (fB (YO Ŷ) Ŷ))) (λB hB=>Ŷ) (λB hB=>Ŷ)) Ŷ)
end
def JQ:DG:=(dM (e2 c6 (e2 c6 (eF (lY (eV 0) pN (pS (eV 1)))) (eF (eO pc))) (eF (lY (eV 0) (pS (e2 c6 (eV 1) v6)) pN))))
def jl:List D->Option D:=gu 3 3 JQ
abbrev rS:dh:=l_ 36
def ya:bu ["row","place","one"] ["row","place","one"] (aE rS):=ű
abbrev no:=aC (cW (aC (e2 bF (eV 3) f8) (aC (e2 bF (eV 3) v6) bd))) aN
abbrev Ê:=aC (eV 0) (aC (eV 2) no)
def jw(ck:List D->Option (List D))(b9:List D->Option (List D))(cu:List D->Option (List D)):DG:=(sf 1 (aO jl Ê))
abbrev Ð:=aC (e2 bF (eV 3) na) aN
def ly(ck:List D->Option (List D))(b9:List D->Option (List D))(cu:List D->Option (List D)):DG:=(gW (iL (eF (dG b9 Ð))) (gN 4) (jw ck b9 cu))
def kx(ck:List D->Option (List D))(b9:List D->Option (List D))(cu:List D->Option (List D)):DG:=(ba (jQ 1 Å) (ba (gW (iE (eV 0)) (yA 2 3) (ly ck b9 cu)) (pM 1)))
abbrev mo:dh:=l_ 33
def qX:bu ["steps","found","place","step","wish"] ["steps"] (aE mo):=ű
def cq(ck:List D->Option (List D))(b9:List D->Option (List D))(cu:List D->Option (List D)):DG:=(ba (gq (cz (e2 fF (e2 bF (eV 0) f8) wf)) (oD Å) cN) (ba (jQ 1 (eO (aC (cW (aC wf aN)) aN))) (ba (gq (cz cr) (ba (gq (cz wp) (sf 1 xz) cN) (lJ 1 (eF (jN (iL (eF (dG ck Uf))) [M] (gN 0) dC (cW (aC nb ca)))))) cN) (ba (gq AC (lJ 1 (eF (jN (iL (eF (dG cu Uf))) [M,Y 0] (gN 0) dC (cW (aC (e2 bF (eV 1) f8) ca))))) cN) (pM 1)))))
abbrev i8:dh:=l_ 34
def lU:bu ["wish","found"] ["wish"] (aE i8):=ű
def gk(ck:List D->Option (List D))(b9:List D->Option (List D))(cu:List D->Option (List D)):DG:=(lJ 1 (eF (jN (iL (eF (dG b9 Sc))) [M,Y 0,Y 2] (gN 0) dC (aO jl (aC (eV 1) (aC (eV 2) ca))))))
abbrev Ch:=e2 c6 (eF (lY (eV 1) pN (pS (eV 0)))) (eF (lY (eV 1) (pS (e2 c6 (eV 0) v6)) pN))
abbrev Ô:=eF (jN (wM (aO eW ca)) [M,Y 0] (gN 0) dC Ch)
def fR(ck:List D->Option (List D))(b9:List D->Option (List D))(cu:List D->Option (List D)):DG:=(ba (jQ 1 Å) (ba (gq (cz (e2 yX (aO eW ca) v6)) (lJ 1 Ô) cN) (ba (gW (iE (eV 0)) (yA 2 3) (gk ck b9 cu)) (pM 1))))
abbrev i9:dh:=l_ 35
def jc:bu ["wishes","found","place","wish"] ["wishes"] (aE i9):=ű
mutual
def cV:Nat->List D->Option (List D)
 |0=>λ_=>M
 |n+1=>rq 1 5 (kx (cV n) (bC n) (bR n))
def bC:Nat->List D->Option (List D)
 |0=>λ_=>M
 |n+1=>rq 1 2 (cq (cV n) (bC n) (bR n))
def bR:Nat->List D->Option (List D)
 |0=>λ_=>M
 |n+1=>rq 1 4 (fR (cV n) (bC n) (bR n))
end
noncomputable def ck:List D->Option (List D):=cV 14
def b9:List D->Option (List D):=bC 14
def cu:List D->Option (List D):=bR 14
section
variable {P:aZ}{w:cH}{K:aP}{mg:aH->Option aj}{base:cF}{f:aw}{fd:de}
def F_(F:iV K "with_one" "with_one" rS f fd):cy P w K mg base ib 1 f fd ["row","place","one"] (fw K jl):=
 F.vh (Z:=[]) (Ź:=[]) ya ſ λkF A outer s H E hr B hB=>
  let nd:=ya.nd
  by walk_at "o"
def yw{n:Nat}(F:iV K "leaving_outs" "leaving_outs" mo f fd)(kk:KS K mg)(JK:eL P w K mg base "with_one" (n+1) (fw K jl))(tV:eL P w K mg base "wish_leaving_outs" (n+1) (rp K (bC n))):cy P w K mg base ib (n+1+1) f fd ["steps"] (rp K (cV (n+1))):=
 F.T5 (Z:=[1]) (Ź:=[1]) qX ſ λkF A outer s H E hr B hB=>
  let nd:=qX.nd
  by walk_at "o"
def sh{n:Nat}(F:iV K "wish_leaving_outs" "wish_leaving_outs" i8 f fd)(kk:KS K mg)(AM:eL P w K mg base "leaving_outs" (n+1) (rp K (cV n)))(HS:eL P w K mg base "list_leaving_outs" (n+1) (rp K (bR n))):cy P w K mg base ib (n+1+1) f fd ["wish"] (rp K (bC (n+1))):=
 F.T5 (Z:=[1]) (Ź:=[1]) (g:=(cq (cV n) (bC n) (bR n))) lU ſ λkF A outer s H E hr B hB=>
  let nd:=lU.nd
  (ay Ŷ (ay Ŷ (ay (kB Ŷ (ay Ŷ (bK (pY (pv 1) (df (mw ["steps"] [M] Ŷ λC s H ex=>Ŷ))))) gE) (ay (kB Ŷ (bK (pY (pv 1) (df (mw ["wishes","wish"] [M,Y 0] Ŷ λC s H ex=>Ŷ)))) gE) Ŷ))))
def si{n:Nat}(F:iV K "list_leaving_outs" "list_leaving_outs" i9 f fd)(kk:KS K mg)(JK:eL P w K mg base "with_one" (n+1) (fw K jl))(tV:eL P w K mg base "wish_leaving_outs" (n+1) (rp K (bC n))):cy P w K mg base ib (n+1+1) f fd ["wishes"] (rp K (bR (n+1))):=
 F.T5 (Z:=[1]) (Ź:=[1]) (g:=(fR (cV n) (bC n) (bR n))) jc ſ λkF A outer s H E hr B hB=>
  let nd:=jc.nd
  (ay Ŷ (ay (kB Ŷ (bK (pY (pv 1) (df (mw ["place","wishes"] [M,Y 0] Ŷ λC s H ex=>Ŷ)))) gE) (ay (mv cK rfl Ŷ (λB hB=>(Ry (IP rfl (vF (e8 (i:=2) jc.nd rfl (.inr rfl)) Ŷ)))) (λB hB=>(bK (pY (pv 1) (df (mw ["other","wishes","place"] [M,Y 0,Y 2] Ŷ λC s H ex=>Ŷ)))))) Ŷ)))
def UE:DG:=(dM (EC (e2 Jf (aO f9 io) wT) (e2 Jf (aO f9 Tk) wT)))
def j4:List D->Option D:=gu 2 2 UE
abbrev zL:dh:=l_ 30
def FT:bu ["one","other"] ["one","other"] (aE zL):=ű
def fI:DG:=(gq (eS (aO j4 Tk)) (dM (eV 1)) cN)
def pb:DG:=(ba (gW (iL (eF (dG ck ca))) (gN 1) fI) (dM wT))
def dm:List D->Option D:=gu 1 2 pb
abbrev nj:dh:=l_ 32
def rY:bu ["question","fewer"] ["question"] (aE nj):=ű
def sI:DG:=(ba (d8 1 (eV 2)) (d8 2 (aO dm u8)))
def sZ:DG:=(ba (d8 1 (eV 0)) (ba (d8 2 (aO dm u8)) (ba (ID 1000000 (cz (e2 vL (eV 2) wT)) sI) (dM (aO kN u8)))))
def qf:List D->Option D:=gu 1 3 sZ
abbrev uz:dh:=l_ 31
def zS:bu ["question","plain","fewer"] ["question"] (aE uz):=ű
def PY(F:iV K "alike" "alike" zL f fd)(Nw:eL P w K mg base "parting" 82 (fw K f9)):cy P w K mg base ib 83 f fd ["one","other"] (fw K j4):=
 F.vh (Z:=[]) (Ź:=[]) FT ſ λkF A outer s H E hr B hB=>
  let nd:=FT.nd
  by walk_at "o"
def Al(F:iV K "first_alike" "first_alike" nj f fd)(AM:eL P w K mg base "leaving_outs" 83 (rp K ck))(UB:eL P w K mg base "alike" 83 (fw K j4)):cy P w K mg base ib 84 f fd ["question"] (fw K dm):=
 F.vh (Z:=[]) (Ź:=[]) rY ſ λkF A outer s H E hr B hB=>
  let nd:=rY.nd
  by walk_at "o"
def IY(F:iV K "plainer" "plainer" uz f fd)(Sx:eL P w K mg base "first_alike" 84 (fw K dm))(GQ:eL P w K mg base "copied" 84 (fw K kN)):cy P w K mg base ib 85 f fd ["question"] (fw K qf):=
 F.vh (Z:=[]) (Ź:=[]) (g:=sZ) zS ſ λkF A outer s H E hr B hB=>
  let nd:=zS.nd
  (ay Ŷ (ay Ŷ (ay (Rn 1000000 cK Ŷ Ŷ) Ŷ)))
def qN(l7:List D->Option D):DG:=(gq (i6 (eS (Ow "str" (eV 2)))) (d8 1 (e2 c6 (e2 c6 (eV 1) (eF (eO pc))) (aO l7 pc))) cN)
def AQ(l7:List D->Option D):DG:=(ba (d8 1 pp) (ba (gW (iL (e2 bF (eV 0) v6)) (gN 2) (qN l7)) (dM (eV 1))))
abbrev w_:dh:=l_ 46
def Ct:bu ["_law_part","_law_found","_law_one"] ["_law_part"] (aE w_):=ű
def lB:Nat->List D->Option D
 |0=>λ_=>M
 |n+1=>gu 1 3 (AQ (lB n))
def l7:List D->Option D:=lB 66
def M3{n:Nat}(F:iV K "_law_within" "_law_within" w_ f fd)(kk:KS K mg)(QX:eL P w K mg base "_law_within" (n+0) (fw K (lB n))):cy P w K mg base ib (n+0+1) f fd ["_law_part"] (fw K (lB (n+1))):=
 F.vh (Z:=[]) (Ź:=[]) Ct ſ λkF A outer s H E hr B hB=>
  let nd:=Ct.nd
  (ay Ŷ (ay (mv cK rfl Ŷ (λB hB=>Ŷ) (λB hB=>(bK (kB (JY (we (dq (xP (T:= "str") ſ rfl kk.y rfl kk.y Ų (vQ 2))))) Ŷ gE)))) Ŷ))
abbrev Ev:=Ow "str" (eV 0)
abbrev EQ:=oD (jN (iL (e2 bF (eV 0) v6)) [M] (gN 0) (i6 (eS Ev)) (eV 0))
def ze:DG:=(ba (gq (cz (e2 fF (eV 1) Ix)) EQ cN) (dM (aO l7 ca)))
def oX:List D->Option D:=gu 2 2 ze
abbrev vv:dh:=l_ 47
abbrev Mr:List aH:=["_law_part","_law_way"]
def FQ:bu Mr ["_law_part","_law_way"] (aE vv):=ű
def PX(F:iV K "_law_below" "_law_below" vv f fd)(kk:KS K mg)(QX:eL P w K mg base "_law_within" 66 (fw K l7)):cy P w K mg base ib 67 f fd ["_law_part","_law_way"] (fw K oX):=
 F.vh (Z:=[]) (Ź:=[]) (g:=ze) FQ ſ λkF A outer s H E hr B hB=>
  let nd:=FQ.nd
  (ay (kB Ŷ (bK (zi (Du (Ź:=[]) (N:=[("_law_one" : aH)]) (src:=[M]) (jK (outer:=aE vv) (oN:=Mr) rfl Ÿ rfl rfl) rfl Ŷ (gS 0) ſ (jT 0) (λC s H ex=>⟨e8 (i:=0) (show ([("_law_one" : aH)]:List aH).Nodup by decide +kernel) rfl (.inl rfl),(tb (JY (we (dq (xP (T:= "str") ſ rfl kk.y rfl kk.y Ų (vQ 0)))))),(vP 0)⟩)))) gE) Ŷ)
end
abbrev Ç:=dM (eK (.bl Z'))
def kz(gU:List D->Option D)(tz:List D->Option D):DG:=(ba (gq IN Ç cN) (ba (gq wP (dM (e2 (Ge Z_) (e2 bF (eV 1) v6) (e2 bF (eV 0) v6))) cN) (ba (gq PP (dM (aO tz (aC (eV 0) Tl))) cN) (ba (d8 2 (eF (jN (iL (e2 bF (eV 1) v6)) [M,Y 0] (gN 0) (eS (aO gU Tk)) (eV 0)))) (ba (gq (cz (e2 fF (e2 bF (eV 1) f8) Ø)) (dM (e2 fF (aO eW pc) (aO eW Tl))) cN) (dM (e2 yX (aO eW pc) f8)))))))
abbrev vr:dh:=l_ 48
abbrev Mp:List aH:=["_law_part","_law_wish","_law_found"]
def zX:bu Mp ["_law_part","_law_wish"] (aE vr):=ű
abbrev ul:=aC (eF (lY (eV 1) (pS v6) pN)) aN
abbrev wE:=cW (aC ge (aC (e2 bF (eV 5) f8) aN))
def lA(gU:List D->Option D)(tz:List D->Option D):DG:=(gq (i7 (cz (e2 IR (eV 3) wE)) (i7 (eS (aO gU é)) (eS (aO tz (aC (eV 5) ul))))) Ç cN)
abbrev ê:=aC (eV 0) pc
def v9(gU:List D->Option D)(tz:List D->Option D):DG:=(ba (gq (cz (e2 fF (eV 1) pp)) Ç cN) (ba (BO (LI 2 3 4) (e2 bF (eV 1) f8)) (ba (gW (iL (aO oX ê)) (gN 5) (lA gU tz)) (dM kw))))
abbrev zK:dh:=l_ 49
def FP:bu ["_law_part","_law_steps","_law_way","_law_name_here","_law_wish","_law_one"] ["_law_part","_law_steps"] (aE zK):=ű
mutual
def kK:Nat->List D->Option D
 |0=>λ_=>M
 |n+1=>gu 2 3 (kz (kK n) (kJ n))
def kJ:Nat->List D->Option D
 |0=>λ_=>M
 |n+1=>gu 2 6 (v9 (kK n) (kJ n))
end
def gU:List D->Option D:=kK 30
def tz:List D->Option D:=kJ 30
section
variable {P:aZ}{w:cH}{K:aP}{mg:aH->Option aj}{base:cF}{f:aw}{fd:de}
def PU{n:Nat}(F:iV K "_law_holds" "_law_holds" vr f fd)(kk:KS K mg)(LB:eL P w K mg base "_law_holds" (n+67) (fw K (kK n)))(Uy:eL P w K mg base "_law_leads" (n+67) (fw K (kJ n))):cy P w K mg base ib (n+67+1) f fd ["_law_part","_law_wish"] (fw K (kK (n+1))):=
 F.vh (Z:=[]) (Ź:=[]) (g:=(kz (kK n) (kJ n))) zX ſ λkF A outer s H E hr B hB=>
  let nd:=zX.nd
  (ay Ŷ (ay Ŷ (ay Ŷ (ay (A6 (i:=2) (Ź:=[]) (N:=[("_law_one" : aH),("_law_part" : aH)]) (src:=[M,Y 0]) (jK (outer:=aE vr) (oN:=Mp) rfl Ÿ rfl rfl) rfl zX.nd rfl rfl Ŷ (gS 0) ſ (jT 0) (λC s H ex=>⟨e8 (i:=0) (show ([("_law_one" : aH),("_law_part" : aH)]:List aH).Nodup by decide +kernel) rfl (.inl rfl),(tb Ŷ),(vP 0)⟩)) Ŷ))))
def PR{n:Nat}(F:iV K "_law_leads" "_law_leads" zK f fd)(UA:eL P w K mg base "_law_below" (n+67) (fw K oX))(LB:eL P w K mg base "_law_holds" (n+67) (fw K (kK n)))(Uy:eL P w K mg base "_law_leads" (n+67) (fw K (kJ n))):cy P w K mg base ib (n+67+1) f fd ["_law_part","_law_steps"] (fw K (kJ (n+1))):=
 F.vh (Z:=[]) (Ź:=[]) FP ſ λkF A outer s H E hr B hB=>
  let nd:=FP.nd
  by walk_at "o"
def qE(jm:List D->Option (D×List D)):DG:=(ba (d8 2 (e2 bF (eV 1) f8)) (ba (sd 1 f8 (e2 c6 (e2 bF (eV 1) f8) v6)) (ba (iN 3 (Zw (iL (e2 bF (eV 0) v6)) [M,Y 1] (gN 0) (XO (eS Ev) (mP (eV 0)) (xD jm (eV 0) 1)) 1 1)) (eZ (mP (cW (aC (e2 bF (eV 0) f8) (aC (eV 3) pc))))))))
abbrev oB:dh:=l_ 50
abbrev Bm:List aH:=["_law_part","_law_count","_law_number","_law_parts"]
def rW:bu Bm ["_law_part","_law_count"] (aE oB):=ű
abbrev TD:=cW (aC ge (aC (e2 bF (eV 6) f8) aN))
def kI(nU:List D->Option (List D)):DG:=(gq (i7 (cz (e2 IR (eV 3) TD)) (eS (aO gU (aC (eV 6) bd)))) (gq (cz (e2 fF (aO eW u8) v6)) (sf 5 (e2 bF (eV 6) na)) (jQ 5 (Ri (eV 5) (eF (jN (iL (eF (dG nU (aC (eV 6) ul)))) [M,Y 5] (gN 0) (cz (e2 (vi Z') (eV 0) (eV 1))) (eV 0)))))) cN)
def Eu(nU:List D->Option (List D)):DG:=(ba (BO (LI 2 3 4) (e2 bF (eV 1) f8)) (ba (jQ 5 Å) (ba (gW (iL (aO oX ê)) (gN 6) (kI nU)) (pM 5))))
abbrev yN:dh:=l_ 51
abbrev R5:List aH:=["_law_part","_law_steps","_law_way","_law_name_here","_law_wish","_law_found","_law_one"]
def yP:bu R5 ["_law_part","_law_steps"] (aE yN):=ű
def ft:Nat->List D->Option (D×List D)
 |0=>λ_=>M
 |n+1=>O8 2 4 1 (qE (ft n))
def kL:Nat->List D->Option (List D)
 |0=>λ_=>M
 |n+1=>rq 2 7 (Eu (kL n))
def jm:List D->Option (D×List D):=ft 66
def nU:List D->Option (List D):=kL 20
def Ga{n:Nat}(F:iV K "_law_numbered" "_law_numbered" oB f fd)(kk:KS K mg)(uR:eL P w K mg base "_law_numbered" (n+0) (Fl K 1 (ft n))):cy P w K mg base ib (n+0+1) f fd ["_law_part","_law_count"] (Fl K 1 (ft (n+1))):=
 F.Jc (Z:=[1]) (Ź:=[1]) (g:=(qE (ft n))) rW 1 ſ ſ λkF A outer s H E hr B a hB=>
  let nd:=rW.nd
  (ay Ŷ (ay Ŷ (ay (NL (i:=3) (i0:=1) (j0:=1) (N:=[("_law_one" : aH),("_law_count" : aH)]) (src:=[M,Y 1]) (jK (outer:=aE oB) (oN:=Bm) rfl Ÿ rfl rfl) rfl rW.nd rfl rfl Ŷ (gS 0) ſ (sA _ 0 1) (λC s H ex=>⟨e8 (i:=0) (show ([("_law_one" : aH),("_law_count" : aH)]:List aH).Nodup by decide +kernel) rfl (md rfl),lN,dmx λB a hB=>(abB (we (dq (xP (T:= "str") ſ rfl kk.y rfl kk.y Ų (vQ 0)))) (qF (vP 0)) (Rv uR hr rfl (vP 0) (pv 1)))⟩)) Ŷ)))
def TZ{n:Nat}(F:iV K "_law_ends" "_law_ends" yN f fd)(kk:KS K mg)(UA:eL P w K mg base "_law_below" (n+97) (fw K oX))(LB:eL P w K mg base "_law_holds" (n+97) (fw K gU))(Q2:eL P w K mg base "_law_ends" (n+97) (rp K (kL n))):cy P w K mg base ib (n+97+1) f fd ["_law_part","_law_steps"] (rp K (kL (n+1))):=
 F.T5 (Z:=[5]) (Ź:=[5]) (g:=(Eu (kL n))) yP ſ λkF A outer s H E hr B hB=>
  let nd:=yP.nd
  (ay Ŷ (ay (ED (i:=5) yP.nd rfl (.inr rfl) (J5 mx)) (ay (mv cK rfl Ŷ (λB hB=>Ŷ) (λB hB=>(bK (kB Ŷ (bK (kB Ŷ Ŷ (bK (ED (i:=5) yP.nd rfl (.inr rfl) (U6 (dvo (pv 5)) (dq (df (Du (Ź:=[1]) (N:=[("_law_number" : aH),("_law_found" : aH)]) (src:=[M,Y 5]) (jK (outer:=aE yN) (oN:=R5) rfl Ÿ rfl rfl) rfl Ŷ (gS 0) ſ (jT 0) (λC s H ex=>⟨e8 (i:=0) (show ([("_law_number" : aH),("_law_found" : aH)]:List aH).Nodup by decide +kernel) rfl (.inl rfl),(tb Ŷ),(vP 0)⟩))))))))) gE)))) Ŷ)))
abbrev zn:=eF (dG nU (aC (cW (aC (eK (.str (ab ""))) (aC (eF (eO (aC (xN jm (eV 0) (eO (aC f8 aN))) aN))) (aC (e1 xu v6) aN)))) u8))
def Dg:DG:=(oD (ZG zn))
def qj:List D->Option (List D):=rq 2 2 Dg
abbrev uD:dh:=l_ 52
def z0:bu ["_law_paper","_law_question"] ["_law_paper","_law_question"] (aE uD):=ű
def Jb(F:iV K "_law_answers" "_law_answers" uD f fd)(kk:KS K mg)(uR:eL P w K mg base "_law_numbered" 117 (Fl K 1 jm))(Q2:eL P w K mg base "_law_ends" 117 (rp K nU)):cy P w K mg base ib 118 f fd ["_law_paper","_law_question"] (rp K qj):=
 F.T5 (Z:=[]) (Ź:=[]) (g:=Dg) z0 ſ λkF A outer s H E hr B hB=>
  let nd:=z0.nd
  (bK (zi (RC rfl rfl kk.y rfl kk.y (dq (df (RH Q2 hr rfl (fB (uX (fB EG (fB (df (J5 (fB (RG uR hr rfl (vP 0) Ŷ) mx))) Ŷ))) Ŷ)))))))
def AR:DG:=(ba (d8 2 (aO f9 io)) (ba (gq (cz (e2 Jf (eV 2) wT)) (dM kw) cN) (ba (BO (yA 3 4) (eV 2)) (dM (EC (e2 IR (eV 4) (eF (dG qj (aC (eV 3) ca)))) (e2 (vi Z') (eV 4) (eF (dG qj (aC (eV 3) u8)))))))))
def kM:List D->Option D:=gu 2 5 AR
abbrev xa:dh:=l_ 53
def Cu:bu ["_law_one","_law_other","_law_found","_law_paper","_law_number"] ["_law_one","_law_other"] (aE xa):=ű
def zo:DG:=(ba (gq (i7 (i6 (eS (aO kM (aC (eV 4) Sc)))) (i6 (eS (aO kM NE)))) (dM kw) cN) (gq (cz (e2 CM (aO j4 NE) kw)) (dM kw) cN))
abbrev XV:=eO (aC v6 (aC v6 (aC v6 aN)))
abbrev Ã:=aC (eV 0) (aC (eK (.int 200)) (aC (eK (.int 14)) aN))
def Q7:DG:=(ba (jQ 1 (dG tD Ã)) (ba (iN 2 (sk (λds=>(tu ds).map D.lst) (jd (ue rh 1 aN) mE))) (ba (iN 3 (sk qf (jd (sV eB 1 (eV 2) XV (aC na aN)) mE))) (ba (gW (iL (eF (dG dB Sc))) (gN 4) zo) Ç))))
def Bq:List D->Option D:=gu 1 5 Q7
abbrev xf:dh:=l_ 54
def DZ:bu ["_law_script","_law_draws_here","_law_names_here","_law_found","_law_left"] ["_law_script"] (aE xf):=ű
def M4(F:iV K "_law_parted" "_law_parted" xa f fd)(Nw:eL P w K mg base "parting" 118 (fw K f9))(ZE:eL P w K mg base "_law_answers" 118 (rp K qj)):cy P w K mg base ib 119 f fd ["_law_one","_law_other"] (fw K kM):=
 F.vh (Z:=[]) (Ź:=[]) Cu ſ λkF A outer s H E hr B hB=>
  let nd:=Cu.nd
  by walk_at "o"
def Xz(F:iV K "law" "law" xf f fd)(acz:eL P w K mg base "_law_draws" 119 (rp K tD))(Uw:eL P w K mg base "_law_names" 119 (rp K tu))(Wf:eL P w K mg base "_law_pop" 119 (Fl K 0 rh))(pa:eL P w K mg base "_law_small_steps" 119 (tN K 0 2 eB))(Nz:eL P w K mg base "_law_left_in" 119 (rp K dB))(Nv:eL P w K mg base "plainer" 119 (fw K qf))(UB:eL P w K mg base "alike" 119 (fw K j4))(abi:eL P w K mg base "_law_parted" 119 (fw K kM)):cy P w K mg base ib 120 f fd ["_law_script"] (fw K Bq):=
 F.vh (Z:=[1]) (Ź:=[1]) (g:=Q7) DZ ſ λkF A outer s H E hr B hB=>
  let nd:=DZ.nd
  (ay Ŷ (ay (LV (i:=2) DZ.nd rfl (.inl rfl) (Hj Uw.toF hr rfl Ŷ)) (ay (LV (i:=3) DZ.nd rfl (.inl rfl) (Hj Nv hr rfl (kC (NN pa hr rfl (pv 1) (vP 2) Ŷ Ŷ) zj))) Ŷ)))
end
end K21
namespace K30
open PySem L2
mutual
inductive Ak where
 |mk (ai8:Nat) (cs:Cs)
inductive Cs where
 |nil
 |cons (c:As) (r:Cs)
inductive As where
 |nil
 |cons (x:Ak) (r:As)
end
def Sb(a b:Nat):Prop:=∀i,a.testBit i=Z'->b.testBit i=Z'
def Sb.refl(a:Nat):Sb a a:=λ_ h=>h
def Sb.trans{a:Nat}(h:Sb a b)(g:Sb b c):Sb a c:=λi e=>g i (h i e)
def Sb.or(h:Sb a c)(g:Sb b c):Sb (a ||| b) c:=λi e=>by
 rw[rL,jM]at e;exact e.elim (h i) (g i)
def Sb.inl(a b:Nat):Sb a (a ||| b):=λi e=>by simp_all
def Sb.inr(a b:Nat):Sb b (a ||| b):=λi e=>by simp_all
def Sb.zero(a:Nat):Sb 0 a:=λi e=>by simp at e
mutual
def Cb(a:Nat):Ak->Prop
 |.mk n b=>Sb n a/\Bn a b
def Bn(a:Nat):Cs->Prop
 |.nil=>True|.cons c r=>B9 a c/\Bn a r
def B9(a:Nat):As->Prop
 |.nil=>False|.cons x r=>Cb a x\/B9 a r
end
mutual
def In1(i:Nat):Ak->Prop
 |.mk n a=>n.testBit i=Z'\/InC i a
def InC(i:Nat):Cs->Prop
 |.nil=>False|.cons c r=>InS i c\/InC i r
def InS(i:Nat):As->Prop
 |.nil=>False|.cons x r=>In1 i x\/InS i r
end
mutual
theorem Cb.mono{a b:Nat}:∀(k:Ak),(∀i,In1 i k->a.testBit i=Z'->b.testBit i=Z')->Cb a k->Cb b k
 |.mk n c,g,h=>⟨λi e=>g i (.inl e) (h.1 i e),Bn.mono c (λi e=>g i (.inr e)) h.2⟩
theorem Bn.mono{a b:Nat}:∀(k:Cs),(∀i,InC i k->a.testBit i=Z'->b.testBit i=Z')->Bn a k->Bn b k
 |.nil,_,_=>trivial|.cons c r,g,h=>⟨B9.mono c (λi e=>g i (.inl e)) h.1,Bn.mono r (λi e=>g i (.inr e)) h.2⟩
theorem B9.mono{a b:Nat}:∀(k:As),(∀i,InS i k->a.testBit i=Z'->b.testBit i=Z')->B9 a k->B9 b k
 |.nil,_,h=>h.elim|.cons x r,g,h=>h.imp (Cb.mono x λi e=>g i (.inl e)) (B9.mono r λi e=>g i (.inr e))
end
def Cb.sb(h:Cb a k)(s:Sb a b):Cb b k:=Cb.mono k (λi c=>s i) h
structure Fa where
 inner:Nat
 star:Nat
 named:aH->Nat
 text:aH->Nat
 mark:Nat
 bJ:List (Nat×Ak)
 fresh:aH
 long:Nat
open Classical in
def lift(F:Fa)(b a:Nat):Nat:=F.bJ.foldl (λu l=>if b.testBit l.1=Z'/\Cb a l.2 then u ||| 2 ^ l.1 else u) (a &&& F.inner)
open Classical in
theorem GX(c a i:Nat):∀(L:List (Nat×Ak)) (u:Nat),(L.foldl (λu l=>if c.testBit l.1=Z'/\Cb a l.2 then u ||| 2 ^ l.1 else u) u).testBit i=Z'↔u.testBit i=Z'\/∃l∈L,l.1=i/\c.testBit i=Z'/\Cb a l.2
 |[],u=>by simp
 | l::L,u=>by
  rw[lS,GX c a i L];by_cases h:c.testBit l.1=Z'/\Cb a l.2
  .rw[if_pos h,rL,jM,Nat.testBit_two_pow,decide_eq_true_eq];constructor
   .rintro((z|z)|⟨m,b,r⟩)
    .exact .inl z
    .subst z;exact .inr ⟨l,ż,rfl,h⟩
    .exact .inr ⟨m,by simp[b],r⟩
   .rintro(z|⟨m,b,e,r⟩)
    .exact .inl (.inl z)
    .rcases aq.mp b with rfl|b
     .exact .inl (.inr e)
     .exact .inr ⟨m,b,e,r⟩
  .rw[if_neg h];constructor
   .rintro(z|⟨m,b,r⟩)
    .exact .inl z
    .exact .inr ⟨m,by simp[b],r⟩
   .rintro(z|⟨m,b,e,r⟩)
    .exact .inl z
    .rcases aq.mp b with rfl|b
     .subst e;exact absurd r h
     .exact .inr ⟨m,b,e,r⟩
def Ay{F:Fa}{b a:Nat}:(lift F b a).testBit i=Z'↔(a.testBit i=Z'/\F.inner.testBit i=Z')\/∃l∈F.bJ,l.1=i/\b.testBit i=Z'/\Cb a l.2:=by
 unfold lift;rw[GX,Kn,aK]
inductive Tr where
 |txt (t:aH)
 |mk
 |nd (n:aH) (f:List Tr)
mutual
def tA(F:Fa):Tr->Nat
 |.txt t=>F.text t|.mk=>F.mark|.nd n f=>lift F (F.named n) (fA F f)
def fA(F:Fa):List Tr->Nat
 |[]=>0|t::f=>tA F t ||| fA F f
end
theorem AY{F:Fa}:∀ {f:List Tr},t∈f->Sb (tA F t) (fA F f)
 | s::f,h=>by
  rw[fA];rcases aq.mp h with rfl|h
  .exact .inl _ _
  .exact(AY h).trans (.inr _ _)
def Rj{F:Fa}(f g:List Tr):fA F (f++g)=fA F f ||| fA F g:=by
 induction f with|nil=>simp[fA]|cons t f ih=>rw[cT,fA,fA,ih,Nat.or_assoc]
set_option genSizeOfSpec true in
mutual
inductive Wi where
 |any
 |txt (t:aH)
 |has (s:Ss)
 |both (w:Ws)
 |one (w:Ws)
inductive Ws where
 |nil
 |cons (w:Wi) (r:Ws)
inductive Ss where
 |nil
 |cons (yl:Bool) (nm:Option aH) (w:Wi) (r:Ss)
end
def kq:Option aH->aH->Prop
 |none,_=>True|some a,b=>a=b
inductive OA:Bool->aH->List Tr->List Tr->Prop
 |Z {b:Bool}{n:aH}{g f:List Tr}:Tr.nd n g∈f->OA b n g f
 |yl {n m:aH}{g h f:List Tr}:Tr.nd m h∈f->OA true n g h->OA true n g f
mutual
def jW:Wi->List Tr->Prop
 |.any,_=>True|.txt t,f=>Tr.txt t∈f|.has s,f=>kZ (λ_=>True) s f
 |.both w,f=>kf w f|.one w,f=>lg w f
def kf:Ws->List Tr->Prop
 |.nil,_=>True|.cons w r,f=>jW w f/\kf r f
def lg:Ws->List Tr->Prop
 |.nil,_=>False|.cons w r,f=>jW w f\/lg r f
def kZ(E:List Tr->Prop):Ss->List Tr->Prop
 |.nil,f=>E f|.cons b a w r,f=>∃n g,OA b n g f/\kq a n/\jW w g/\kZ E r g
end
abbrev Mk(f:List Tr):Prop:=Tr.mk∈f
def OA.mono{f:List Tr}(h:OA b n g f)(s:∀t∈f,t∈a):OA b n g a:=by
 cases h with|Z m=>solve_by_elim|yl m k=>exact .yl (s _ m) k
mutual
theorem jW.mono:∀(w:Wi){f a:List Tr},(∀t∈f,t∈a)->jW w f->jW w a
 |.any,_,_,_,_=>trivial|.txt t,_,_,s,h=>s _ h|.has r,_,_,s,h=>kZ.mono r (λb b b h=>h) s h
 |.both w,_,_,s,h=>kf.mono w s h|.one w,_,_,s,h=>lg.mono w s h
theorem kf.mono:∀(w:Ws){f a:List Tr},(∀t∈f,t∈a)->kf w f->kf w a
 |.nil,_,_,_,_=>trivial|.cons w r,_,_,s,h=>⟨jW.mono w s h.1,kf.mono r s h.2⟩
theorem lg.mono:∀(w:Ws){f a:List Tr},(∀t∈f,t∈a)->lg w f->lg w a
 |.nil,_,_,_,h=>h.elim|.cons w r,_,_,s,h=>h.imp (jW.mono w s) (lg.mono r s)
theorem kZ.mono:∀(r:Ss){f a:List Tr},(∀f a:List Tr,(∀t∈f,t∈a)->E f->E a)->(∀t∈f,t∈a)->kZ E r f->kZ E r a
 |.nil,f,a,e,s,h=>e f a s h|.cons b c w r,_,_,e,s,⟨n,g,k,l⟩=>⟨n,g,k.mono s,l⟩
end
def mV(F:Fa):Nat->Tr->Tr
 |0,t=>t|k+1,t =>.nd F.fresh [mV F k t]
def eX(F:Fa):Option aH->aH
 |none=>F.fresh|some n=>n
mutual
def MW(F:Fa):Wi->List Tr->Prop
 |.any,f=>f=[]|.txt t,f=>f=[.txt t]|.has s,f=>MS F [] s f|.both w,f=>MA F w f|.one w,f=>ME F w f
def MA(F:Fa):Ws->List Tr->Prop
 |.nil,f=>f=[]|.cons w r,f=>∃g h,MW F w g/\MA F r h/\f=g++h
def ME(F:Fa):Ws->List Tr->Prop
 |.nil,_=>False|.cons w r,f=>MW F w f\/ME F r f
def MS(F:Fa)(g0:List Tr):Ss->List Tr->Prop
 |.nil,f=>f=g0|.cons b a w r,f=>∃g h k,MS F g0 r g/\MW F w h/\k<=(if b=Z' then F.long else 0)/\f=[mV F k (.nd (eX F a) (g++h))]
end
theorem Fx{F:Fa}:∀k,OA Z' n g [mV F k (.nd n g)]
 |0 =>.Z (by simp[mV])
 |k+1 =>.yl (m:=F.fresh) (h:=[mV F k _]) (by simp[mV]) (Fx k)
mutual
theorem MW.hold{F:Fa}:∀(w:Wi){f:List Tr},MW F w f->jW w f
 |.any,_,_=>trivial|.txt t,f,h=>by let h:f=[.txt t]:=h;simp_all [jW]
 |.has s,_,h=>MS.lead s (λa a a a=>trivial) (λa=>trivial) h
 |.both w,_,h=>MA.hold w h|.one w,_,h=>ME.hold w h
theorem MA.hold{F:Fa}:∀(w:Ws){f:List Tr},MA F w f->kf w f
 |.nil,_,_=>trivial|.cons w r,f,⟨g,h,a,b,e⟩=>by exact⟨jW.mono w Ż (MW.hold w a),kf.mono r ŷ (MA.hold r b)⟩
theorem ME.hold{F:Fa}:∀(w:Ws){f:List Tr},ME F w f->lg w f
 |.nil,_,h=>h.elim|.cons w r,_,h=>h.imp (MW.hold w) (ME.hold r)
theorem MS.lead{F:Fa}:∀(r:Ss){f:List Tr},(∀f j:List Tr,(∀t∈f,t∈j)->E f->E j)->(True->E i)->MS F i r f->kZ E r f
 |.nil,f,_,e,h=>by subst h;exact Ÿ
 | .cons b d w r,f,m,e,⟨g,h,k,a,c,l,q⟩=>by
  subst q;refine⟨eX F d,g++h,?_,?_,jW.mono w Ż (MW.hold w c),kZ.mono r m ŷ (MS.lead r m e a)⟩
  .cases b with
   |true=>exact Fx k|false=>
    let z:k=0:=by simpa using l
    subst z;exact Ÿ
  .cases d<;>simp[kq,eX]
end
def Cs.app:Cs->Cs->Cs
 |.nil,b=>b|.cons c r,b =>.cons c (r.app b)
def iu:As->Ak
 |.nil =>.mk 0 .nil|.cons (.mk n c) r=>match iu r with|.mk m d =>.mk (n ||| m) (c.app d)
structure DD(F G:Fa):Prop where
 i:Sb F.inner G.inner
 n:∀n,Sb (F.named n) (G.named n)
 t:∀t,Sb (F.text t) (G.text t)
 l:∀x∈F.bJ,x∈G.bJ
def DD.refl(F:Fa):DD F F:=⟨.refl _,λ_ =>.refl _,λ_ =>.refl _,λ_ h=>h⟩
def DD.trans{F G:Fa}(a:DD F G)(b:DD G H):DD F H:=⟨a.i.trans b.i,λn=>(a.n n).trans (b.n n),λn=>(a.t n).trans (b.t n),λx h=>b.l x (a.l x h)⟩
def DE(F:Fa)(b:Bool)(a:Option aH)(j:Nat):Prop:=(b=Z'->F.inner.testBit j=Z')/\∀n,kq a n->(F.named n).testBit j=Z'
def DE.up{F:Fa}(h:DE F b a j)(u:DD F G):DE G b a j:=⟨λe=>u.i _ (h.1 e),λn e=>u.n n _ (h.2 n e)⟩
mutual
def wz(F:Fa):Wi->Ak->Prop
 |.any,k=>k=.mk 0 .nil|.txt t,k=>∃j,k=.mk (2 ^ j) .nil/\(F.text t).testBit j=Z'|.has s,k=>∃j,k=.mk (2 ^ j) .nil/\nT F 0 s j|.both w,k=>∃a,qk F w a/\k=iu a|.one w,k=>∃a,qk F w a/\k=.mk 0 (.cons a .nil)
def qk(F:Fa):Ws->As->Prop
 |.nil,k=>k=.nil|.cons w r,k=>∃x y,wz F w x/\qk F r y/\k=.cons x y
def nT(F:Fa)(e:Nat):Ss->Nat->Prop
 |.nil,_=>False|.cons b f w r,j=>∃a d c,wz F w (.mk a d)/\DE F b f j/\(j,Ak.mk (a ||| c) d)∈F.bJ/\(r=.nil/\c=e\/nT F e r (j+1)/\c=2 ^ (j+1))
end
mutual
theorem wz.up{F:Fa}(u:DD F G):∀(w:Wi) (k:Ak),wz F w k->wz G w k
 |.any,k,h=>h|.txt t,k,⟨j,e,h⟩=>⟨j,e,u.t t _ h⟩|.has s,k,⟨j,e,h⟩=>⟨j,e,nT.up u s j h⟩|.both w,k,⟨a,h,e⟩=>⟨a,qk.up u w a h,e⟩|.one w,k,⟨a,h,e⟩=>⟨a,qk.up u w a h,e⟩
theorem qk.up{F:Fa}(u:DD F G):∀(w:Ws) (k:As),qk F w k->qk G w k
 |.nil,k,h=>h|.cons w r,k,⟨x,y,a,b,e⟩=>⟨x,y,wz.up u w x a,qk.up u r y b,e⟩
theorem nT.up{F:Fa}(u:DD F G):∀(s:Ss) (j:Nat),nT F e s j->nT G e s j
 |.nil,j,h=>h|.cons b d w r,j,⟨n,c,f,a,t,l,h⟩=>⟨n,c,f,wz.up u w _ a,t.up u,u.l _ l,h.imp id λ⟨x,y⟩=>⟨nT.up u r _ x,y⟩⟩
end
def IC{a:Nat}(h:a.testBit j=Z'):Sb (2 ^ j) a:=λi e=>by
 grind
theorem Gu:∀ {c d:Cs},Bn a c->Bn a d->Bn a (c.app d)
 |.nil,d,_,h=>h|.cons _ r,d,g,h=>⟨g.1,Gu g.2 h⟩
def Vh{F:Fa}{f:List Tr}(a:b=Z'->F.inner.testBit j=Z')(h:OA b n g f)(t:(tA F (.nd n g)).testBit j=Z'):(fA F f).testBit j=true:=by
 induction h with|Z m=>exact AY m j t|yl m _ ih=>refine AY m j ?_;rw[tA,Ay];exact .inl ⟨ih a t,a rfl⟩
mutual
theorem AL{F:Fa}:∀(w:Wi) (k:Ak) (f:List Tr),wz F w k->jW w f->Cb (fA F f) k
 |.any,_,f,h,_=>by cases h;exact⟨.zero _,trivial⟩
 |.txt t,_,f,⟨j,e,b⟩,h=>by subst e;exact⟨IC (AY h j b),trivial⟩
 |.has s,_,f,⟨j,e,b⟩,h=>by subst e;exact⟨IC (AB (λd d =>.zero _) s j f b h),trivial⟩
 |.both w,_,f,⟨c,a,e⟩,h=>by subst e;exact De w c f a h
 |.one w,_,f,⟨c,a,e⟩,h=>by subst e;exact⟨.zero _,Dd w c f a h,trivial⟩
theorem De{F:Fa}:∀(w:Ws) (g:As) (f:List Tr),qk F w g->kf w f->Cb (fA F f) (iu g)
 |.nil,_,f,h,_=>by cases h;exact⟨.zero _,trivial⟩
 |.cons w r,_,f,⟨⟨n,c⟩,y,a,b,e⟩,h=>by subst e;let p:=AL w _ f a h.1;let q:=De r y f b h.2;rw[iu];rcases z:iu y with⟨m,d⟩;rw[z]at q;exact⟨p.1.or q.1,Gu p.2 q.2⟩
theorem Dd{F:Fa}:∀(w:Ws) (c:As) (f:List Tr),qk F w c->lg w f->B9 (fA F f) c
 |.nil,_,f,_,h=>h.elim|.cons w r,_,f,⟨x,y,a,b,e⟩,h=>by subst e;exact h.imp (AL w x f a) (Dd r y f b)
theorem AB{F:Fa}{E:List Tr->Prop}(k:∀f,E f->Sb e (fA F f)):∀(s:Ss) (j:Nat) (f:List Tr),nT F e s j->kZ E s f->(fA F f).testBit j=Z'
 |.nil,_,_,h,_=>h.elim| .cons b u w r,j,f,⟨d,v,c,a,t,l,h⟩,⟨n,g,o,m,hw,i⟩=>by
  let p:=AL w _ g a hw;let q:Sb c (fA F g):=by
   rcases h with⟨z,y⟩|⟨z,y⟩
   .subst y;subst z;exact k g i
   .subst y;exact IC (AB k r _ g z i)
  refine Vh t.1 o ?_;rw[tA,Ay];exact .inr ⟨_,l,rfl,t.2 n m,p.1.or q,p.2⟩
end
abbrev Wy:=List (Nat×List D)
def qx(W:Wy)(p:Nat×List D):Wy:=if W.any (λq=>q.1==p.1) then W else W++[p]
def Jy(W:Wy):Wy:=W.filter λp=> !(W.any λq=>q.1 != p.1&&(q.1 &&& p.1)==q.1)
def cC(L:Wy):Wy:=Jy (L.foldl qx [])
theorem fold_snd:∀(L:Wy) (W:Wy),∀p∈L.foldl qx W,p∈W\/p∈L
 |[],W,p,h =>.inl h| x::L,W,p,h=>by
  rcases fold_snd L _ p h with z|z
  .grind [qx]
  simp_all
def MV{W:Wy}(h:(W.map (·.1)).Nodup):((qx W p).map (·.1)).Nodup:=by
 grind [qx]
def Ng{W:Wy}(h:p∈Jy W):p∈W:=(wU.mp h).1
def JP(h:p∈cC L):p∈L:=(fold_snd L [] p (Ng h)).resolve_left ż
def wL(n:aH):D :=.tup [.str (ab "open"),.str n]
def Zt(t:aH):D :=.tup [.str (ab "text"),.str t]
def O5:D :=.tup [.str (ab "close")]
def Cz:D :=.tup [.str (ab "mark")]
mutual
def BN:Tr->List D
 |.txt t=>[Zt t]|.mk=>[Cz]|.nd n f=>wL n::(jr f++[O5])
def jr:List Tr->List D
 |[]=>[]|t::f=>BN t++jr f
end
theorem vy(f g:List Tr):jr (f++g)=jr f++jr g:=by
 induction f with|nil=>simp[jr]|cons t f ih=>rw[cT,jr,jr,ih,bD]
def JW{F:Fa}:fA F [t]=tA F t:=by simp[fA]
structure mz(F:Fa)(M:List Tr->Prop)(W:Wy):Prop where
 snd:∀p∈W,∃f,M f/\fA F f=p.1/\jr f=p.2
def mz.one{F:Fa}{f:List Tr}:mz F (λg=>g=f) [(fA F f,jr f)]:=⟨λp h=>⟨f,rfl,Ż,Ż⟩⟩
def fN(F:Fa)(n:aH)(W:Wy):Wy:=W.map λp=>(lift F (F.named n) p.1,wL n::(p.2++[O5]))
def sx(A B:Wy):Wy:=A.flatMap λp=>B.map λq=>(p.1 ||| q.1,p.2++q.2)
def mz.gather{F:Fa}{b:List Tr->Prop}{W:Wy}(h:mz F b W):mz F b (cC W):=⟨λp a=>h.snd p (JP a)⟩
def mz.imp{F:Fa}{b N:List Tr->Prop}{W:Wy}(h:mz F b W)(e:∀f,b f->N f):mz F N W:=⟨λp a=>let⟨f,m,r⟩:=h.snd p a;⟨f,e f m,r⟩⟩
def mz.wrap{F:Fa}{e:List Tr->Prop}{W:Wy}(h:mz F e W)(n:aH):mz F (λf=>∃g,e g/\f=[.nd n g]) (K30.cC (fN F n W)):=mz.gather ⟨λp d=>by
 let⟨q,c,rfl⟩:=a7.mp d;let⟨g,m,a,b⟩:=h.snd q c;exact⟨_,⟨g,m,rfl⟩,by simp[fA,tA,a],by simp[jr,BN,b]⟩⟩
def mz.join{F:Fa}{o N:List Tr->Prop}{A B:Wy}(h:mz F o A)(k:mz F N B):mz F (λf=>∃g h,o g/\N h/\f=g++h) (K30.cC (sx A B)):=mz.gather ⟨λp e=>by
 let⟨q,j,e⟩:=List.mem_flatMap.mp e;let⟨r,i,rfl⟩:=a7.mp e;let⟨g,m,a,b⟩:=h.snd q j;let⟨l,n,c,d⟩:=k.snd r i;exact⟨_,⟨g,l,m,n,rfl⟩,by rw[Rj,a,c],by rw[vy,b,d]⟩⟩
def mz.append{F:Fa}{b:List Tr->Prop}(h:mz F b A)(k:mz F N B):mz F (λf=>b f\/N f) (A++B):=⟨λp a=>by
 rcases aA.mp a with z|z
 .let⟨f,m,r⟩:=h.snd p z;exact⟨f,.inl m,r⟩
 .let⟨f,m,r⟩:=k.snd p z;exact⟨f,.inr m,r⟩⟩
def layW(F:Fa):Nat->Wy×Wy->Wy×Wy
 |0,p=>p|k+1,p=>layW F k (cC (fN F F.fresh p.1),cC (p.2++cC (fN F F.fresh p.1)))
def Ky(F:Fa)(b:Bool)(a:Option aH)(W:Wy):Wy:=if b=Z' then (layW F F.long (cC (fN F (eX F a) W),cC (fN F (eX F a) W))).2 else cC (fN F (eX F a) W)
mutual
def rP(F:Fa):Wi->Wy
 |.any=>[(0,[])]|.txt t=>[(F.text t,[Zt t])]|.has s=>ng F [(0,[])] s|.both w=>HG F [(0,[])] w|.one w=>cC (NV F w)
def HG(F:Fa)(W:Wy):Ws->Wy
 |.nil=>W|.cons w r=>HG F (cC (sx W (rP F w))) r
def NV(F:Fa):Ws->Wy
 |.nil=>[]|.cons w r=>rP F w++NV F r
def ng(F:Fa)(W:Wy):Ss->Wy
 |.nil=>W|.cons b a w r=>Ky F b a (cC (sx (ng F W r) (rP F w)))
end
theorem Qy{F:Fa}{d:List Tr->Prop}(n:aH):∀(k j:Nat) (p:Wy×Wy),mz F (λf=>∃g,d g/\f=[mV F j (.nd n g)]) p.1->mz F (λf=>∃g i,d g/\i<=j/\f=[mV F i (.nd n g)]) p.2 ->
  mz F (λf=>∃g i,d g/\i<=j+k/\f=[mV F i (.nd n g)]) (layW F k p).2
 |0,j,p,a,b=>b| k+1,j,p,a,b=>by
  rw[layW,show j+(k+1)=j+1+k by lia];have c:mz F (λf=>∃g,d g/\f=[mV F (j+1) (.nd n g)]) _:=(a.wrap _).imp λf=>by rintro⟨_,⟨g,m,rfl⟩,rfl⟩;exact Ÿ
  refine Qy n k _ _ c ((b.append c).gather.imp λf =>?_)
  grind
def SY{F:Fa}{j:List Tr->Prop}{W:Wy}(h:mz F j W)(b:Bool)(c:Option aH):mz F (λf=>∃g k,j g/\k<=(if b=Z' then F.long else 0)/\f=[mV F k (.nd (eX F c) g)]) (Ky F b c W):=by
 let a:=h.wrap (eX F c);have d:=a.imp (N:=λf=>∃g i,j g/\i<=0/\f=[mV F i _]) λf ⟨g,m,e⟩=>⟨g,0,m,av _,e⟩
 cases b with
 |false=>exact d|true=>have:=Qy _ F.long 0 (K30.cC _,K30.cC _) a d;rw[qV]at this;exact this
mutual
theorem oA(F:Fa):∀w,mz F (MW F w) (rP F w)
 |.any=>mz.one.imp λf h=>h
 | .txt t=>by
  have:=mz.one (F:=F) (f:=[.txt t]);rw[JW]at this
  exact Ÿ
 |.has s=>vq F s (mz.one.imp λf h=>h)
 |.both w=>(Ma F w (mz.one (f:=[]).imp λf h=>h)).imp λf=>by rintro⟨a,b,c,d,e⟩;subst c;subst e;exact d
 |.one w=>(RP F w).gather
theorem Ma(F:Fa){d:List Tr->Prop}:∀(w:Ws){W:Wy},mz F d W->mz F (λf=>∃a b,d a/\MA F w b/\f=a++b) (HG F W w)
 |.nil,W,h=>h.imp λf m=>⟨f,[],m,rfl,ż⟩
 |.cons w r,W,h=>(Ma F r (h.join (oA F w))).imp λf=>by rintro⟨_,b,⟨g,c,m,n,rfl⟩,k,rfl⟩;exact⟨g,_,m,⟨c,b,n,k,rfl⟩,ż⟩
theorem RP(F:Fa):∀w,mz F (ME F w) (NV F w)
 |.nil=>⟨λp h=>by simp[NV]at h⟩
 |.cons w r=>((oA F w).append (RP F r)).imp λf h=>h
theorem vq(F:Fa){g0:List Tr}:∀(s:Ss){W:Wy},mz F (λf=>f=g0) W->mz F (MS F g0 s) (ng F W s)
 |.nil,W,h=>h|.cons b a w r,W,h=>(SY ((vq F r h).join (oA F w)) b a).imp λf=>by rintro⟨_,k,⟨g,d,m,n,rfl⟩,c,rfl⟩;exact⟨g,d,k,m,n,c,rfl⟩
end
def lZ:Ws->List Ws
 |.nil=>[]|.cons w r=>r::(lZ r).map (.cons w)
def fX:Ws->Nat
 |.nil=>0|.cons _ r=>fX r+1
def hJ:Ss->Nat
 |.nil=>0|.cons _ _ _ r=>hJ r+1
def fP:Ss->Ss
 |.nil =>.nil|.cons _ _ _ .nil =>.nil|.cons b d w (.cons e a c r) =>.cons b d w (fP (.cons e a c r))
mutual
def lK:Wi->List Wi
 |.any=>[]|.txt _=>[.any]|.has s =>.any::((rB s).map .has++if 1<hJ s then [.has (fP s)] else [])
 |.both w =>.any::(vj (decide (1<fX w)) w).map .both|.one w =>.any::(vj (decide (1<fX w)) w).map .one
def vj(a:Bool):Ws->List Ws
 |.nil=>[]|.cons w r=>(lK w).map (.cons · r)++(if a then [r] else [])++(vj a r).map (.cons w)
def rB:Ss->List Ss
 |.nil=>[]|.cons b a w r=>(lK w).map (.cons b a · r)++(rB r).map (.cons b a w)
end
mutual
def vI:Wi->Nat
 |.any=>0|.txt _=>0|.has s=>uc s|.both w=>yv w|.one w=>100+fX w+yv w
def yv:Ws->Nat
 |.nil=>0|.cons w r=>vI w+yv r
def uc:Ss->Nat
 |.nil=>0|.cons _ _ w r=>vI w+uc r
end
theorem C0:∀(s:Ss){f:List Tr},kZ E s f->kZ (λ_=>True) (fP s) f
 |.nil,f,_=>trivial|.cons b j w .nil,f,_=>trivial|.cons b j w (.cons k h i r),f,⟨n,g,a,c,d,e⟩=>⟨n,g,a,c,d,C0 (.cons k h i r) e⟩
theorem D_:∀s:Ss,uc (fP s)<=uc s
 |.nil=>av _|.cons b d w .nil=>by simp[fP,uc]
 | .cons b d w (.cons e a c r)=>by
  have:=D_ (.cons e a c r);rw[fP,uc,uc]
  lia
mutual
theorem VX:∀(w c:Wi),vI w=0->c∈lK w->vI c=0/\∀f,jW w f->jW c f
 |.any,c,_,h=>by simp[lK]at h
 |.txt t,c,_,h=>by simp only[lK,bI]at h;subst h;exact⟨rfl,λg g=>trivial⟩
 | .has s,c,o,h=>by
  simp only[vI]at o;simp only[lK,aq,aA,a7]at h;rcases h with rfl|⟨d,e,rfl⟩|h
  .exact⟨rfl,λg g=>trivial⟩
  .let⟨a,b⟩:=VY s d o e;exact⟨a,λf k=>b _ f k⟩
  .split at h
   .simp only[bI]at h;subst h;refine⟨?_,λf k=>C0 s k⟩;have:=D_ s;simp only[vI];lia
   .simp at h
 | .both w,c,o,h=>by
  simp only[vI]at o;simp only[lK,aq,a7]at h;rcases h with rfl|⟨d,e,rfl⟩
  .exact⟨rfl,λg g=>trivial⟩
  .let⟨a,b⟩:=VZ _ w d o e;exact⟨a,b⟩
 |.one w,c,o,h=>by simp only[vI]at o;lia
theorem VZ(d:Bool):∀(w c:Ws),yv w=0->c∈vj d w->yv c=0/\∀f,kf w f->kf c f
 |.nil,c,_,h=>by simp[vj]at h
 | .cons w r,c,o,h=>by
  simp only[yv]at o;simp only[vj,aA,a7]at h;rcases h with (⟨x,e,rfl⟩|h)|⟨x,e,rfl⟩
  .let⟨a,b⟩:=VX w x Ž e;exact⟨by simp only[yv];lia,λf k=>⟨b f k.1,k.2⟩⟩
  .split at h
   .simp only[bI]at h;subst h;exact⟨Ž,λf k=>k.2⟩
   .simp at h
  .let⟨a,b⟩:=VZ d r x Ž e;exact⟨by simp only[yv];lia,λf k=>⟨k.1,b f k.2⟩⟩
theorem VY:∀(s i:Ss),uc s=0->i∈rB s->uc i=0/\∀(E:List Tr->Prop) f,kZ E s f->kZ E i f
 |.nil,i,_,h=>by simp[rB]at h
 | .cons b k w r,i,o,h=>by
  simp only[uc]at o;simp only[rB,aA,a7]at h;rcases h with⟨x,j,rfl⟩|⟨x,j,rfl⟩
  .let⟨p,q⟩:=VX w x Ž j;exact⟨by simp only[uc];lia,λE f ⟨n,g,a,c,d,e⟩=>⟨n,g,a,c,q g d,e⟩⟩
  .let⟨p,q⟩:=VY r x Ž j;exact⟨by simp only[uc];lia,λE f ⟨n,g,a,c,d,e⟩=>⟨n,g,a,c,d,q E g e⟩⟩
end
mutual
theorem yV:∀w:Wi,vI w=0\/100<=vI w
 |.any =>.inl rfl|.txt _ =>.inl rfl|.has s=>Ea s|.both w=>yW w|.one w =>.inr (by simp only[vI];lia)
theorem yW:∀w:Ws,yv w=0\/100<=yv w
 |.nil =>.inl rfl|.cons w r=>by have:=yV w;have:=yW r;simp only[yv];lia
theorem Ea:∀w:Ss,uc w=0\/100<=uc w
 |.nil =>.inl rfl|.cons _ _ w r=>by have:=yV w;have:=Ea r;simp only[uc];lia
end
theorem yg:∀s:Ss,uc (fP s)=uc s\/uc (fP s)+100<=uc s
 |.nil =>.inl rfl|.cons b d w .nil=>by have:=yV w;simp only[fP,uc];lia
 | .cons b d w (.cons e a c r)=>by
  have:=yg (.cons e a c r);rw[fP,uc,uc]
  lia
theorem Ek:∀(a:Bool) (w b:Ws),b∈vj a w->(fX b=fX w)\/(fX b+1=fX w)
 |a,.nil,b,h=>by simp[vj]at h
 | a,.cons w r,b,h=>by
  simp only[vj,aA,a7]at h;rcases h with (⟨x,c,rfl⟩|h)|⟨x,c,rfl⟩
  .exact .inl rfl
  .split at h
   .simp only[bI]at h;subst h;exact .inr rfl
   .simp at h
  .have:=Ek a r x c;simp only[fX];lia
theorem aaD:∀(a:Bool) (w b:Ws),yv w=0->b∈vj a w->fX b+1=fX w->∀f,lg b f->lg w f
 |a,.nil,b,_,h=>by simp[vj]at h
 | a,.cons w r,b,o,h=>by
  simp only[yv]at o;simp only[vj,aA,a7]at h;rcases h with (⟨x,c,rfl⟩|h)|⟨x,c,rfl⟩
  .intro l;simp only[fX]at l;lia
  .split at h
   .simp only[bI]at h;subst h;exact λ_ f k =>.inr k
   .simp at h
  .intro l f k;simp only[fX]at l;exact k.imp id (aaD a r x Ž c Ž f)
mutual
theorem OM:∀(w a:Wi),vI w<200->a∈lK w->vI a+1=vI w->∀f,jW a f->jW w f
 |.any,a,_,h,_=>by simp[lK]at h
 |.txt t,a,_,h,l=>by simp only[vI]at l;lia
 | .has s,a,o,h,l=>by
  let d:=Ea s;simp only[vI]at o l;simp only[lK,aq,aA,a7]at h;rcases h with rfl|⟨b,c,rfl⟩|h
  .simp only[vI]at l;lia
  .exact λf k=>ON s b o c l _ f k
  .split at h
   .simp only[bI]at h;subst h;have:=yg s;simp only[vI]at l
    lia
   .simp at h
 | .both w,a,o,h,l=>by
  let d:=yW w;simp only[vI]at o l;simp only[lK,aq,a7]at h;rcases h with rfl|⟨b,c,rfl⟩
  .simp only[vI]at l;lia
  .exact OO _ w b o c l
 | .one w,a,o,h,l=>by
  let d:=yW w;simp only[vI]at o l;simp only[lK,aq,a7]at h;rcases h with rfl|⟨b,c,rfl⟩
  .simp only[vI]at l;lia
  .let i:=Ek _ w b c;let e:yv w=0:=by lia
   let g:=K1 _ w b c;simp only[vI]at l;exact aaD _ w b e c Ž
theorem OO(b:Bool):∀(w a:Ws),yv w<200->a∈vj b w->yv a+1=yv w->∀f,kf a f->kf w f
 |.nil,a,_,h,_=>by simp[vj]at h
 | .cons w r,a,o,h,l=>by
  let d:=yV w;simp only[yv]at o l;simp only[vj,aA,a7]at h;rcases h with (⟨x,c,rfl⟩|h)|⟨x,c,rfl⟩
  .simp only[yv]at l;exact λf k=>⟨OM w x Ž c Ž f k.1,k.2⟩
  .split at h
   .simp only[bI]at h;subst h;lia
   .simp at h
  .simp only[yv]at l;exact λf k=>⟨k.1,OO b r x Ž c Ž f k.2⟩
theorem ON:∀(s i:Ss),uc s<200->i∈rB s->uc i+1=uc s->∀(E:List Tr->Prop) f,kZ E i f->kZ E s f
 |.nil,i,_,h,_=>by simp[rB]at h
 | .cons b k w r,i,o,h,l=>by
  simp only[uc]at o l;simp only[rB,aA,a7]at h;rcases h with⟨x,j,rfl⟩|⟨x,j,rfl⟩
  .simp only[uc]at l;exact λE f ⟨n,g,a,c,d,e⟩=>⟨n,g,a,c,OM w x Ž j Ž g d,e⟩
  .simp only[uc]at l;exact λE f ⟨n,g,a,c,d,e⟩=>⟨n,g,a,c,d,ON r x Ž j Ž E g e⟩
theorem PH:∀(w a:Wi),a∈lK w->vI a<=vI w
 |.any,a,h=>by simp[lK]at h
 |.txt t,a,h=>by simp only[lK,bI]at h;subst h;exact av _
 | .has s,a,h=>by
  simp only[lK,aq,aA,a7]at h;rcases h with rfl|⟨b,c,rfl⟩|h
  .simp[vI]
  .exact PJ s b c
  .split at h
   .simp only[bI]at h;subst h;exact D_ s
   .simp at h
 | .both w,a,h=>by
  simp only[lK,aq,a7]at h;rcases h with rfl|⟨b,c,rfl⟩
  .simp[vI]
  .exact K1 _ w b c
 | .one w,a,h=>by
  simp only[lK,aq,a7]at h;rcases h with rfl|⟨b,c,rfl⟩
  .simp[vI]
  .have:=K1 _ w b c;have:=Ek _ w b c;simp only[vI];lia
theorem K1(a:Bool):∀(w b:Ws),b∈vj a w->yv b<=yv w
 |.nil,b,h=>by simp[vj]at h
 | .cons w r,b,h=>by
  simp only[vj,aA,a7]at h;rcases h with (⟨x,c,rfl⟩|h)|⟨x,c,rfl⟩
  .have:=PH w x c;simp only[yv];lia
  .split at h
   .simp only[bI]at h;subst h;simp only[yv];lia
   .simp at h
  .have:=K1 a r x c;simp only[yv];lia
theorem PJ:∀(s a:Ss),a∈rB s->uc a<=uc s
 |.nil,a,h=>by simp[rB]at h
 | .cons b d w r,a,h=>by
  simp only[rB,aA,a7]at h;rcases h with⟨x,c,rfl⟩|⟨x,c,rfl⟩
  .have:=PH w x c;simp only[uc];lia
  .have:=PJ r x c;simp only[uc];lia
end
mutual
def Su:Wi->Nat
 |.any=>0|.txt _=>0|.has s=>Fn s|.both w=>JI w|.one w=>JI w
def JI:Ws->Nat
 |.nil=>0|.cons w r=>Su w+JI r
def Fn:Ss->Nat
 |.nil=>0|.cons b _ w r=>b.toNat+Su w+Fn r
end
mutual
def M9:Wi->Nat
 |.any=>0|.txt _=>1|.has s=>1+K7 s|.both w=>1+P_ w|.one w=>1+P_ w
def P_:Ws->Nat
 |.nil=>0|.cons w r=>1+M9 w+P_ r
def K7:Ss->Nat
 |.nil=>0|.cons _ _ w r=>1+M9 w+K7 r
end
mutual
def yS:Wi->List Wi
 |.any=>[]|.txt _=>[.any]|.has s =>.any::((if 1<hJ s then [.has (fP s)] else [])++(Om s).map .has)
 |.both w =>.any::((if 1<fX w then lZ w else [])++MU w).map .both
 |.one w =>.any::((if 1<fX w then lZ w else [])++MU w).map .one
def MU:Ws->List Ws
 |.nil=>[]|.cons w r=>(yS w).map (.cons · r)++(MU r).map (.cons w)
def Om:Ss->List Ss
 |.nil=>[]|.cons b a w r=>(yS w).map (.cons b a · r)++(Om r).map (.cons b a w)
end
mutual
theorem IH:∀(w c:Wi),c∈yS w↔c∈lK w
 |.any,c=>by solve_by_elim
 |.txt t,c=>by solve_by_elim
 | .has s,c=>by
  simp only[yS,lK,aq,aA,a7];constructor
  .rintro(h|h|⟨x,h,e⟩)
   .exact .inl h
   .exact .inr (.inr h)
   .exact .inr (.inl ⟨x,(xp s x).1 h,e⟩)
  .rintro(h|⟨x,h,e⟩|h)
   .exact .inl h
   .exact .inr (.inr ⟨x,(xp s x).2 h,e⟩)
   .exact .inr (.inl h)
 |.both w,c=>by simp only[yS,lK,aq,a7,aA,II _ w,decide_eq_true_eq];by_cases h:1<fX w<;>simp[h,or_comm]
 |.one w,c=>by simp only[yS,lK,aq,a7,aA,II _ w,decide_eq_true_eq];by_cases h:1<fX w<;>simp[h,or_comm]
theorem II(a:Bool):∀(w c:Ws),c∈vj a w↔c∈MU w\/a=Z'/\c∈lZ w
 |.nil,c=>by simp[vj,MU,lZ]
 | .cons w r,c=>by
  simp only[vj,MU,lZ,aA,a7,aq,II a r];constructor
  .rintro((⟨x,h,e⟩|h)|⟨x,h|⟨z,h⟩,e⟩)
   .exact .inl (.inl ⟨x,(IH w x).2 h,e⟩)
   .simp_all
   .exact .inl (.inr ⟨x,h,e⟩)
   .exact .inr ⟨z,.inr ⟨x,h,e⟩⟩
  .rintro((⟨x,h,e⟩|⟨x,h,e⟩)|⟨z,h|⟨x,h,e⟩⟩)
   .exact .inl (.inl ⟨x,(IH w x).1 h,e⟩)
   .exact .inr ⟨x,.inl h,e⟩
   .simp_all
   .exact .inr ⟨x,.inr ⟨z,h⟩,e⟩
theorem xp:∀(s c:Ss),c∈Om s↔c∈rB s
 |.nil,c=>by solve_by_elim
 |.cons b a w r,c=>by simp only[Om,rB,aA,a7,IH w,xp r]
end
inductive NT where
 |txt (t:aH)
 |nd (n:aH) (k:Nat) (f:List NT)
mutual
def HN:NT->List NT
 |.txt _=>[]|.nd n k f =>.nd n k f::m9 f
def m9:List NT->List NT
 |[]=>[]|t::f=>HN t++m9 f
end
def Np:NT->Bool
 |.txt _=>Z_|_=>Z'
def rG(b:Bool)(f:List NT):List NT:=if b then m9 f else f.filter Np
mutual
def Nc(p:Nat->Bool):NT->Tr
 |.txt t =>.txt t|.nd n k f =>.nd n ((if p k then [.mk] else [])++BD p f)
def BD(p:Nat->Bool):List NT->List Tr
 |[]=>[]|t::f=>Nc p t::BD p f
end
abbrev Pf(p:Nat->Bool)(e:Bool)(f:List NT):List Tr:=(if e then [.mk] else [])++BD p f
theorem yY:∀ {f:List NT},t∈BD p f↔∃x∈f,t=Nc p x
 |[]=>by simp[BD]
 |x::f=>by simp[BD,yY]
def RZ{f:List NT}:Tr.nd n G∈Pf p e f↔∃k g,NT.nd n k g∈f/\G=Pf p (p k) g:=by
 have:Tr.nd n G∈Pf p e f↔Tr.nd n G∈BD p f:=by simp_all
 rw[this,yY];constructor
 .rintro⟨x,h,q⟩;cases x with
  |txt t=>simp[Nc]at q|nd m k g=>simp only[Nc,Tr.nd.injEq]at q;grind
 .rintro⟨k,g,h,rfl⟩;exact⟨_,h,by simp[Nc]⟩
def Kg{e:Bool}{f:List NT}:Tr.txt t∈Pf p e f↔NT.txt t∈f:=by
 have:Tr.txt t∈Pf p e f↔Tr.txt t∈BD p f:=by simp_all
 rw[this,yY];constructor
 .rintro⟨x,h,q⟩;cases x with
  |txt t=>simp_all [Nc,Tr.txt.injEq]|nd m k g=>simp[Nc]at q
 grind [Nc]
def Wp{f:List NT}:Tr.mk∈Pf p e f↔e=true:=by
 have:Tr.mk∉BD p f:=by rw[yY];rintro⟨x,_,q⟩;cases x<;>simp[Nc]at q
 simp_all
theorem Ie:∀ {f:List NT},NT.nd n k g∈f->NT.nd n k g∈m9 f
 | t::f,h=>by
  rw[m9];rcases aq.mp h with rfl|h
  .simp[HN]
  .exact aQ _ (Ie h)
theorem VC{m:aH}:∀ {f:List NT},NT.nd m i h∈f->NT.nd n k g∈m9 h->NT.nd n k g∈m9 f
 | t::f,a,b=>by
  rcases aq.mp a with rfl|a
  .exact aW _ (aB _ b)
  .exact aQ _ (VC a b)
mutual
theorem SH:∀(t:NT){F:List Tr},NT.nd n k g∈HN t->Nc p t∈F->OA Z' n (Pf p (p k) g) F
 |.txt t,F,h,_=>by simp[HN]at h
 | .nd m i f,F,h,a=>by
  rcases aq.mp h with e|h
  .cases e;exact Ÿ
  .exact .yl Ÿ (DK f h)
theorem DK{e:Bool}:∀(f:List NT),NT.nd n k g∈m9 f->OA Z' n (Pf p (p k) g) (Pf p e f)
 |[],h=>by simp[m9]at h
 | t::f,h=>by
  rcases aA.mp h with h|h
  .exact SH t h (by simp[BD])
  .exact(DK (e:=e) f h).mono λx a=>by grind [aW,aQ,BD,aB]
end
def sH{e:Bool}{f:List NT}:OA b n G (Pf p e f)↔∃k g,NT.nd n k g∈rG b f/\G=Pf p (p k) g:=by
 constructor
 .intro h;generalize d:Pf p e f=F at h
  induction h generalizing e f with
  |@Z b n g F m=>
   subst d;let⟨k,g,h,q⟩:=RZ.1 m;refine⟨k,g,?_,q⟩;cases b
   .simp[rG,h,Np]
   .exact Ie h
  |@yl n m g h F a _ ih=>subst d;let⟨i,l,a,q⟩:=RZ.1 a;let⟨k,j,c,r⟩:=ih q.symm;exact⟨k,j,VC a c,r⟩
 .rintro⟨k,g,h,rfl⟩;cases b
  .exact .Z (RZ.2 ⟨k,g,by simp_all [rG,Np],rfl⟩)
  .exact DK f h
mutual
theorem AK:∀(w:Wi) (e d:Bool) (f:List NT),jW w (Pf p e f)->jW w (Pf q d f)
 |.any,_,_,_,_=>trivial|.txt t,_,_,_,h=>Kg.2 (Kg.1 h)|.has s,e,d,f,h=>Qt s e d f h|.both w,e,d,f,h=>Lz w e d f h|.one w,e,d,f,h=>Ly w e d f h
theorem Lz:∀(w:Ws) (e d:Bool) (f:List NT),kf w (Pf p e f)->kf w (Pf q d f)
 |.nil,_,_,_,_=>trivial|.cons w r,e,d,f,h=>⟨AK w e d f h.1,Lz r e d f h.2⟩
theorem Ly:∀(w:Ws) (e d:Bool) (f:List NT),lg w (Pf p e f)->lg w (Pf q d f)
 |.nil,_,_,_,h=>h|.cons w r,e,d,f,h=>h.imp (AK w e d f) (Ly r e d f)
theorem Qt:∀(s:Ss) (e d:Bool) (f:List NT),kZ (λ_=>True) s (Pf p e f)->kZ (λ_=>True) s (Pf q d f)
 |.nil,_,_,_,_=>trivial|.cons b j w r,e,d,f,⟨n,G,i,h,c,a⟩=>by let⟨k,g,m,rfl⟩:=sH.1 i;exact⟨n,_,sH.2 ⟨k,g,m,rfl⟩,h,AK w _ _ g c,Qt r _ _ g a⟩
end
abbrev fg(f:List NT):List Tr:=BD (λ_=>Z_) f
def za{f:List NT}:jW w (Pf p e f)↔jW w (fg f):=⟨AK w e Z_ f,AK w Z_ e f⟩
def Le{e:Option aH}{f:List NT}:kZ (λ_=>True) (.cons b e w r) (fg f)↔∃n k g,NT.nd n k g∈rG b f/\kq e n/\jW w (fg g)/\kZ (λ_=>True) r (fg g):=by
 constructor
 .rintro⟨n,G,h,d,c,a⟩;let⟨k,g,m,rfl⟩:=sH (e:=Z_).1 h;exact⟨n,k,g,m,d,c,a⟩
 .rintro⟨n,k,g,m,d,c,a⟩;exact⟨n,_,sH (e:=Z_).2 ⟨k,g,m,rfl⟩,d,c,a⟩
def HC(j:Nat):Ss->List NT->Prop
 |.nil,_=>False|.cons b c w .nil,f=>∃n g,NT.nd n j g∈rG b f/\kq c n/\jW w (fg g)|.cons b c w (.cons e a d r),f=>∃n k g,NT.nd n k g∈rG b f/\kq c n/\jW w (fg g)/\HC j (.cons e a d r) g
theorem xM:∀(s:Ss){e:Bool}{f:List NT},s ≠ .nil->(kZ Mk s (Pf (· == j) e f)↔HC j s f)
 |.nil,e,f,h=>absurd rfl h| .cons b o w .nil,e,f,_=>by
  constructor
  .rintro⟨n,G,i,c,a,d⟩;let⟨k,g,m,rfl⟩:=sH.1 i;have:=Wp.1 d;simp at this;subst this;exact⟨n,g,m,c,za.1 a⟩
  .rintro⟨n,g,m,c,a⟩;exact⟨n,_,sH.2 ⟨j,g,m,rfl⟩,c,za.2 a,Wp.2 ż⟩
 | .cons b o w (.cons q l p r),e,f,_=>by
  constructor
  .rintro⟨n,G,i,c,a,d⟩;let⟨k,g,m,rfl⟩:=sH.1 i;exact⟨n,k,g,m,c,za.1 a,(xM _ λz=>by cases z).1 d⟩
  .rintro⟨n,k,g,m,c,a,d⟩;exact⟨n,_,sH.2 ⟨k,g,m,rfl⟩,c,za.2 a,(xM _ λz=>by cases z).2 d⟩
mutual
def Dx:Tr->Nat
 |.txt _=>0|.mk=>0|.nd _ f=>1+nX f
def nX:List Tr->Nat
 |[]=>0|t::f=>Dx t+nX f
end
mutual
def Oq:Tr->Nat->List NT
 |.txt t,_=>[.txt t]|.mk,_=>[]|.nd n f,c=>[.nd n c (vM f (c+1))]
def vM:List Tr->Nat->List NT
 |[],_=>[]|t::f,c=>Oq t c++vM f (c+Dx t)
end
def Uc(f g:List NT):BD p (f++g)=BD p f++BD p g:=by
 induction f with|nil=>simp[BD]|cons t f ih=>simp[BD,ih]
def L7(f g:List Tr):nX (f++g)=nX f+nX g:=by
 induction f with|nil=>simp[nX]|cons t f ih=>simp[nX,ih,BH]
mutual
def NoT:Tr->Prop
 |.txt _=>True|.mk=>False|.nd _ f=>Ki f
def Ki:List Tr->Prop
 |[]=>True|t::f=>NoT t/\Ki f
end
theorem Ki.app:∀ {f g:List Tr},Ki f->Ki g->Ki (f++g)
 |[],g,_,h=>h|t::f,g,a,h=>⟨a.1,Ki.app a.2 h⟩
mutual
theorem ac6:∀(t:Tr) (c:Nat),NoT t->(∀k,c<=k->k<c+Dx t->p k=Z_)->BD p (Oq t c)=[t]
 |.txt t,c,_,_=>by solve_by_elim
 | .nd n f,c,h,q=>by
  rw[Dx]at q;have:=SN f (c+1) h λk a b=>q k Ž Ž
  grind [Oq,BD,Nc]
theorem SN{p:Nat->Bool}:∀(f:List Tr) (c:Nat),Ki f->(∀k,c<=k->k<c+nX f->p k=Z_)->BD p (vM f c)=f
 |[],c,_,_=>by solve_by_elim
 |t::f,c,h,q=>by rw[nX]at q;rw[vM,Uc,ac6 t c h.1 λk a b=>q k (by lia) (by lia),SN f _ h.2 λk a b=>q k (by lia) (by lia)];rfl
end
inductive E8:Nat->List Tr->Prop
 |here {h:List Tr}:Ki h->E8 0 (.mk::h)
 |deep {j:Nat}{n:aH}{g h:List Tr}:E8 j g->Ki h->E8 (j+1) (.nd n g::h)
def E8.le{f:List Tr}(m:E8 j f):j<=nX f:=by
 induction m with|here=>lia|deep _ _ ih=>grind [nX,Dx]
def E8.app{f:List Tr}(m:E8 j f)(h:Ki g):E8 j (f++g):=by
 cases m with|here a=>exact .here (a.app h)|deep a b=>exact .deep a (b.app h)
def E8.at{j:Nat}{f:List Tr}(m:E8 j f):∀p,Pf (· == p+j) (j==0) (vM f (p+1))=f:=by
 induction m with
 |@here h a=>
  intro p;have:=SN (p:=(· == p+0)) h (p+1) a λk x y=>by simp;lia
  simp_all [Vx,Pf,vM,Oq,Dx]
 |@deep j n g h a b ih=>
  intro p;let l:=a.le;let d:=SN (p:=(· == p+(j+1))) h (p+1+(1+nX g)) b λk x y=>by simp;lia
  simp only[vM,Oq,Dx,cT,bL];let c:(p+1==p+(j+1))=(j==0):=by rw[ie];simp
  rw[show p+(j+1)=p+1+j by lia]at c d ⊢
  simp_all [Pf,BD,Nc]
def WZ{f:List Tr}(m:E8 j f):∃(c:List aH) (R:List D),jr f=c.map wL++Cz::R/\c.length=j:=by
 induction m with
 |@here h a=>exact⟨[],jr h,by simp[jr,BN],rfl⟩
 |@deep j n g h a b ih=>let⟨c,R,e,l⟩:=ih;exact⟨n::c,R++O5::jr h,by simp[jr,BN,e],by simp[l]⟩
theorem K4{F:Fa}{t:Tr}(h:NoT t):∀k,NoT (mV F k t)
 |0=>h|k+1=>⟨K4 h k,trivial⟩
mutual
theorem Ms{F:Fa}:∀(w:Wi){f:List Tr},MW F w f->Ki f
 |.any,f,h=>by subst h;trivial
 |.txt t,f,h=>by subst h;exact Ÿ
 |.has s,f,h=>Wr s h|.both w,f,h=>Wu w h|.one w,f,h=>Wt w h
theorem Wu{F:Fa}:∀(w:Ws){f:List Tr},MA F w f->Ki f
 |.nil,f,h=>by subst h;trivial
 |.cons w r,f,⟨g,h,a,b,e⟩=>by subst e;exact(Ms w a).app (Wu r b)
theorem Wt{F:Fa}:∀(w:Ws){f:List Tr},ME F w f->Ki f
 |.nil,_,h=>h.elim|.cons w r,_,h=>h.elim (Ms w) (Wt r)
theorem Wr{F:Fa}:∀(s:Ss){f:List Tr},MS F [] s f->Ki f
 |.nil,f,h=>by subst h;trivial
 |.cons b d w r,f,⟨g,h,k,a,c,_,e⟩=>by subst e;exact⟨K4 (t :=.nd _ _) ((Wr r a).app (Ms w c)) k,trivial⟩
end
theorem Fv{F:Fa}(m:E8 j g):∀k,∃i,E8 (i+1) [mV F k (.nd n g)]
 |0=>⟨j,.deep m trivial⟩|k+1=>by let⟨i,h⟩:=Fv m k;exact⟨_,.deep h trivial⟩
theorem R6{F:Fa}:∀(s:Ss){f:List Tr},MS F [.mk] s f->∃j,E8 j f/\(s ≠ .nil->0<j)
 |.nil,f,h=>by subst h;exact⟨0,.here trivial,λz=>absurd rfl z⟩
 |.cons b d w r,f,⟨g,h,k,a,c,_,e⟩=>by subst e;let⟨j,m,_⟩:=R6 r a;let⟨i,z⟩:=Fv (m.app (Ms w c)) k;exact⟨_,z,λ_=>Nat.succ_pos _⟩
def num:NT->Nat
 |.txt _=>0|.nd _ k _=>k
mutual
def Zu:NT->Nat
 |.txt _=>1|.nd _ _ f=>1+FZ f
def FZ:List NT->Nat
 |[]=>0|t::f=>Zu t+FZ f
end
structure Gd(f:List NT):Prop where
 u:((m9 f).map num).Nodup
 b:∀t∈m9 f,num t<63
 l:(m9 f).length<=63
 z:FZ f<=10000
def SJ(f g:List NT):m9 (f++g)=m9 f++m9 g:=by
 induction f with|nil=>simp[m9]|cons t f ih=>simp[m9,ih]
theorem Tj(f g:List NT):FZ (f++g)=FZ f+FZ g:=by
 induction f with|nil=>simp[FZ]|cons t f ih=>simp[FZ,ih,BH]
mutual
theorem adK:∀(t:Tr) (c:Nat),(m9 (Oq t c)).map num=HY c (Dx t)/\FZ (Oq t c)<=(BN t).length
 |.txt t,c=>by solve_by_elim
 |.mk,c=>by solve_by_elim
 | .nd n f,c=>by
  have:=XC f (c+1);refine⟨?_,?_⟩
  .simp only[Oq,m9,HN,Dx,br,a9,num,this.1,Nat.add_comm 1,List.range'_succ]
  .simp only[Oq,FZ,Zu,BN,aJ,aI];lia
theorem XC:∀(f:List Tr) (c:Nat),(m9 (vM f c)).map num=HY c (nX f)/\FZ (vM f c)<=(jr f).length
 |[],c=>by solve_by_elim
 | t::f,c=>by
  let a:=adK t c;let b:=XC f (c+Dx t);refine⟨?_,?_⟩
  .rw[vM,SJ,nX]
   simp_all
  grind [vM,Tj,jr,aI]
end
def aaI{f:List Tr}{c:Nat}(h:c+nX f<=63)(z:(jr f).length<=10000):Gd (vM f c):=by
 let⟨a,b⟩:=XC f c;refine⟨by rw[a];exact List.nodup_range',λt d =>?_,?_,Ž⟩
 .grind [num,m9,vM,By,List.mem_range'_1]
 .have:=congrArg List.length a
  grind
mutual
theorem SG:∀(t:NT),NT.nd n k g∈HN t->(NT.nd n k g::m9 g).Sublist (HN t)/\1+FZ g<=Zu t
 |.txt t,h=>by simp[HN]at h
 | .nd m i f,h=>by
  rw[HN]at h ⊢;rw[Zu];rcases aq.mp h with e|h
  .simp_all
  .obtain _:=DJ f h
   grind
theorem DJ:∀(f:List NT),NT.nd n k g∈m9 f->(NT.nd n k g::m9 g).Sublist (m9 f)/\1+FZ g<=FZ f
 |[],h=>by simp[m9]at h
 | t::f,h=>by
  rw[m9]at h ⊢;rw[FZ];rcases aA.mp h with h|h
  .obtain _:=SG t h
   grind
  .obtain _:=DJ f h
   grind
end
def Gd.sub{f:List NT}(G:Gd f)(h:NT.nd n k g∈m9 f):Gd g/\(m9 g).length<(m9 f).length:=by
 let⟨a,b⟩:=DJ f h;let c:=(List.sublist_cons_self _ _).trans a;have:=a.length_le;have:=G.l;have:=G.z;simp at *
 exact⟨⟨G.u.sublist (c.map num),λt d=>G.b t (c.subset d),Ž,Ž⟩,Ž⟩
def Bj{f:List NT}:(rG b f).Sublist (m9 f):=by
 cases b
 .simp only[rG,fV,if_false]
  induction f with
  |nil=>exact List.Sublist.refl _|cons t f ih=>
   cases t with
   |txt t=>solve_by_elim|nd n k g=>
    simp only[dJ,Np,if_true,m9,HN,cT]
    simp_all
 .exact List.Sublist.refl _
theorem pig:∀(n:Nat) (l:List Nat),l.Nodup->(∀x∈l,x<n)->l.length<=n
 |0,[],_,_=>av _|0,a::l,_,h=>absurd (h a ż) Ž
 | n+1,l,d,h=>by
  have:=pig n _ (d.erase n) λx b=>by grind
  grind
end K30
namespace L2
open PySem PySem.Spec PyProof.Rows
section
variable {K:aP}{v:Hp}
end
theorem LK{τ:BF}{g:DG}(I:Nat->bP->Prop):∀(k:List D) (i:Nat) (a:bP),I i a->(∀j d a,k[j]?=Y d->I (i+j) a->∃f b,τ d a=Y f/\g f=Y (.nx b)/\I (i+j+1) b) ->
  ∃c,dz τ g k a=Y (.nx c)/\I (i+k.length) c
 |[],i,a,h,_=>⟨a,rfl,h⟩| d::k,i,a,h,st=>by
  let⟨f,b,q,p,n⟩:=st 0 d a rfl h;obtain _:=LK I k (i+1) b n λj d a l m=>by have:=st (j+1) d a Ż ŷ;rw[show i+(j+1)+1=i+1+j+1 by lia]at this;exact this
  grind [dz,ah]
def GU{τ:BF}{g:DG}(I:Nat->bP->Prop){ds:List D}{ρ:bP}(i:I 0 ρ)(f:∀j d ρ,ds[j]?=Y d->I j ρ->∃b a,τ d ρ=Y b/\g b=Y (.nx a)/\I (j+1) a):∃c,dz τ g ds ρ=Y (.nx c)/\I ds.length c:=by
 have:=LK I ds 0 ρ i λj d ρ h e=>by rw[qV]at e ⊢;exact f j d ρ h e
 simp_all
def Mf{xs:List b}{z:Int}(d:0<=z)(c:z<xs.length):∃v,vk xs z=Y v/\v∈xs:=by
 let a:z.toNat<xs.length:=by lia
 refine⟨_,?_,HM a⟩
 grind [d6]
def ET{xs:List Int}{z:Int}(h0:0<=z)(h1:z<xs.length):∃v,vk (xs.map D.int) z=Y (.int v):=by
 let⟨v,e,hm⟩:=Mf h0 h1
 simp_all [Mg]
def Ln{n:Nat}{z:Int}(b:0<=z)(a:z<n):Ou n z=Y z.toNat:=by unfold Ou;rw[if_pos b,if_pos a]
def vC(h:(fx a n)[j]?=Y d):j<n/\d=.int (a+j):=by
 unfold fx at h;rw[aT]at h;let⟨k,q,h⟩:=ai.1 h;cases h;let⟨c,b⟩:=au.mp q;have:=by simpa using b.symm
 subst this;exact⟨by simpa using c,rfl⟩
theorem pP(a:Int)(n:Nat):(fx a n).length=n:=by simp[fx]
theorem JB{h:D->D}:∀ {b:List D},(∀d∈b,∃a,c d e=Y a/\g a=Y (h d))->oh e c dC g b=Y (b.map h)
 |[],_=>rfl|d::b,f=>by let⟨a,j,i⟩:=f d aM;unfold oh;rw[j];simp only[dC,ah,if_true,i];rw[JB λd h=>f d (by simp_all)];rfl
theorem kG:cY=1000000:=rfl
def YT(a:List b)(l h:Option Int):(B_ a l h).length<=a.length:=by
 unfold B_;rw[oq,ou];lia
def RK(a:List b)(c:0<=k):B_ a M (Y k)=a.take k.toNat:=by
 unfold B_ HT.lI
 grind
def Bc(xs:List a)(b:0<=k):B_ xs (Y k) M=xs.drop k.toNat:=by
 unfold B_ HT.lI;simp only[if_neg (show ¬k<0 by lia)];by_cases h:k.toNat<=xs.length
 .rw[Nat.min_eq_left h,List.take_of_length_le (by simp)]
 .rw[Nat.min_eq_right (by lia),Nat.sub_self,List.take_zero,Vz (by lia)]
end L2
namespace L2
open PySem
theorem Er{f:DF}(e:f ρ=Y (.int z))(h : -(2 ^ 62)<=z/\z<2 ^ 62):wM f ρ=Y (fx 0 z.toNat):=by
 simp only[wM,e,ah];rw[if_pos h]
end L2
namespace K21
open PySem L2 K30
noncomputable abbrev bA:=Fj
noncomputable abbrev bO:=g_
def Bk(a b:Nat):bA (a:Int) (b:Int)=((a &&& b:Nat):Int):=by
 exact Ÿ
def u0(a b:Nat):bO (a:Int) (b:Int)=((a ||| b:Nat):Int):=by
 unfold bO;rw[PyProof.Rows.bitOr_and,show Fj a _=_ from Bk a b]
 grind [PyProof.Rows.nat_or_add_and]
def az{ρ':bP}(e:g ρ=Y (.nx ρ')):ba g h ρ=h ρ':=by unfold ba;rw[e];rfl
def dD{f:DF}{a:bP}{d:D}(e:f a=Y d):d8 i f a=Y (.nx (a.set i (Y d))):=by simp_all [d8]
def eD{f:DL}(e:f a=Y c):gW f b g a=dz b g c a:=by simp_all [gW]
def dF{ρ1:bP}(h:b d c=Y ρ1)(f:g ρ1=Y (.nx a)):dz b g (d::e) c=dz b g e a:=by
 rw[dz,h];show (g ρ1).bind _=_;rw[f];rfl
def gy(h:t a=Y Z'):gq t g k a=g a:=by simp_all [gq]
def fq(h:t a=Y Z_):gq t g k a=k a:=by simp_all [gq]
def jI{f:DF}(e:f a=Y d):(dM f a).bind mW=Y d:=by unfold dM;rw[e];rfl
theorem V4:∀(b:List D),(∀d∈b,∃a,w d c=Y a/\e a=Y (g d))->oh c w dC e b=Y (b.map g)
 |[],_=>rfl|d::b,h=>by let⟨a,j,i⟩:=h d aM ..;rw[oh,j];simp only[ah,dC,if_true,i];rw[V4 b λx f=>h x (by simp_all)];rfl
def RW{a:List b}{f:b->Bool}:iP Z_ [.lst (a.map λd =>.bl (f d))]=Y (.bl (a.any f)):=by
 simp only[iP];rw[if_pos (by simp[Fi,bB,Up])];simp[Fh,bB,yD]
def J8{f:DL}(e:f a=Y b):aO G (aC (eF f) aN) a=G [.lst b]:=by
 unfold aO aC eF;rw[e];rfl
def mH{f:DF}(e:f a=Y d):aO G (aC f aN) a=G [d]:=by unfold aO aC;rw[e];rfl
def wD(W:Wy):D :=.fS (W.map λp=>lR (p.1:Int)) (W.map λp =>.tup p.2)
def wI(p:Nat×List D):D :=.tup [.int (p.1:Nat),.tup p.2]
def C_(W:Wy):X8 (W.map λp=>lR (p.1:Int)) (W.map λp =>.tup p.2)=W.map wI:=by
 unfold X8
 induction W with|nil=>rfl|cons p W ih=>simp only[a9,eJ,ih];rfl
def XT(W:Wy)(m:Nat):(bM (W.map λp=>lR (p.1:Int)) (W.map λp=>D.tup p.2) (lR (m:Int))).isSome=W.any λq=>q.1==m:=by
 unfold bM
 grind
def aat{W:Wy}{m:Nat}(s:List D)(h:(W.any λq=>q.1==m)=Z_):kg (lR (m:Int)) (.tup s) (W.map λp=>lR (p.1:Int)) (W.map λp=>D.tup p.2)=(((W++[(m,s)]).map λp=>lR (p.1:Int)),((W++[(m,s)]).map λp=>D.tup p.2)):=by
 unfold kg
 grind
structure WB(W:Wy):Prop where
 nd:(W.map (·.1)).Nodup
 lt:∀p∈W,p.1<2 ^ 19/\p.2.length<=10000
theorem Ar:∀(n:Nat) (l:List Nat),l.Nodup->(∀x∈l,x<n)->l.length<=n
 | 0,l,h,g=>by
  cases l with
  |nil=>simp|cons x l=>exact absurd (g x ż) Ž
 | n+1,l,h,g=>by
  by_cases m:n∈l
  .have:=Ar n _ (h.erase n) λx a=>by grind
   simp_all
  .have:=Ar n l h λx a=>by grind
   lia
def WB.len{W:Wy}(h:WB W):W.length<cY:=by
 have:=Ar _ _ h.nd λx a=>by let⟨p,b,e⟩:=a7.mp a;subst e;exact(h.lt p b).1
 rw[aG]at this;exact me this ſ
def qI(x y:Int):nO (.int x) (.int y)=(x==y):=by simp[nO]
abbrev Bd(p:Nat×List D):Prop:=p.1<2 ^ 19/\p.2.length<=10000
def X5(m:Nat):AE (.int (m:Int))=Y (lR (m:Int)):=rfl
def PZ{f:DF}{W:Wy}{m:Nat}(c:f a=Y (.int (m:Int)))(b:eV j a=Y (wD W)):cz (e2 wS f (eV j)) a=Y (!(W.any λq=>q.1==m)):=by
 unfold cz e2;rw[c,b];show Y (!(bM _ _ _).isSome)=_;rw[XT]
def LX{f:DF}{a:bP}{W:Wy}{m:Nat}{s:List D}(d:f a=Y (.int (m:Int)))(c:g a=Y (.tup s))(b:eV j a=Y (wD W))(e:W.length<cY)(h:(W.any λq=>q.1==m)=Z_):se j f g a=Y (.nx (a.set j (Y (wD (W++[(m,s)]))))):=by
 unfold se;rw[c,d];simp only[ah,X5,b];show (if (W.map _).length<cY then _ else M)=_;rw[if_pos (by simp_all),aat s h];rfl
def Jx(W:Wy)(f:W.length<cY)(m:Nat)(a b:Option D):i6 (eS (aO (iP Z_) (aC ut aN))) [Y (wD W),a,Y (.int (m:Int)),b]
  = Y (!(W.any λq=>q.1 != m&&(q.1 &&& m)==q.1)):=by
 let e:jN (GN (eV 0)) [M,Y 2] (gN 0) dC (EC (e2 Gc (eV 0) (eV 1)) (e2 fF å (eV 0))) [Y (wD W),a,Y (.int (m:Int)),b]=Y (W.map λq =>.bl (q.1 != m&&(q.1 &&& m)==q.1)):=by
  unfold jN;let g:GN (eV 0) [Y (wD W),a,Y (.int (m:Int)),b]=Y (W.map λq=>D.int (q.1:Int)):=by show Y _=_;rw[iq];rfl
  rw[g];show (if (W.map _).length<=cY then oh _ (gN 0) dC _ _ else M)=_;rw[if_pos (by simpa using cx f)];rw[V4 (g:=λd=>match d with|.int i =>.bl (i.toNat != m&&(i.toNat &&& m)==i.toNat)|_ =>.dr) _ λd h =>?_]
  .rw[iq]
   congr 1
  .let⟨q,_,rfl⟩:=a7.mp h;refine⟨[Y _,Y _],rfl,?_⟩;let l:e2 Gc (eV 0) (eV 1) [Y (.int q.1),Y (.int (m:Int))]=Y _:=rfl;let c:e2 fF å (eV 0) [Y (.int (q.1:Int)),Y (.int (m:Int))]=Y _:=rfl;unfold EC cz;rw[l,c];simp only[ah,qI,Bk,cI];let k:((q.1:Int)==(m:Int))=(q.1==m):=by rw[ie];simp;exact Int.natCast_inj
   let j:(((q.1 &&& m:Nat):Int)==(q.1:Int))=((q.1 &&& m)==q.1):=by rw[ie];simp;exact Int.natCast_inj
   rw[k,j];unfold bne;cases (q.1==m)<;>rfl
 unfold i6 eS;rw[J8 e,RW];rfl
theorem xE(W:Wy)(h:W.length<cY):∀(L a:Wy) (x y:Option D),((a++L).map (·.1)).Nodup->(a++L).length<cY->∃d c,
  dz (yA 2 3) m7 (L.map wI) [Y (wD W),Y (wD a),x,y]=Y (.nx [Y (wD W),Y (wD (a++L.filter λp=> !(W.any λq=>q.1 != p.1&&(q.1 &&& p.1)==q.1))),d,c])
 |[],a,x,y,_,_=>⟨x,y,by simp[dz]⟩
 | p::L,a,x,y,f,k=>by
  let g:yA 2 3 (wI p) [Y (wD W),Y (wD a),x,y]=Y _:=rfl;let t:=Jx W h p.1 (Y (wD a)) (Y (.tup p.2));rw[a9];cases e:W.any _ with
  |true=>
   rw[e]at t;let b:m7 [Y (wD W),Y (wD a),Y (.int (p.1:Int)),Y (.tup p.2)]=Y (.nx [Y (wD W),Y (wD a),Y (.int (p.1:Int)),Y (.tup p.2)]):=by unfold m7;rw[fq t];rfl
   rw[dF g b];let⟨d,c,q⟩:=xE W h L a _ _ (f.sublist Ż) ŷ;exact⟨d,c,by rw[q,dJ,e];rfl⟩
  |false=>
   rw[e]at t;let i:(a.any λq=>q.1==p.1)=false:=by rw[tJ];intro q j z;rw[gx,gm]at f;exact f.2.2 _ (a7.mpr ⟨q,j,rfl⟩) p.1 ż (by simpa using z)
   let b:m7 [Y (wD W),Y (wD a),Y (.int (p.1:Int)),Y (.tup p.2)]=Y (.nx [Y (wD W),Y (wD (a++[p])),Y (.int (p.1:Int)),Y (.tup p.2)]):=by unfold m7;rw[gy t,LX (m:=p.1) (W:=a) rfl rfl rfl (by grind) i];rfl
   rw[dF g b];let⟨d,c,q⟩:=xE W h L (a++[p]) (Y (.int (p.1:Int))) (Y (.tup p.2)) (by simpa using f) (by simpa using k);exact⟨d,c,by rw[q,dJ,e];simp⟩
def AA{W:Wy}(h:WB W):oW [wD W]=Y (wD (Jy W)):=by
 show (zd _).bind _=_;unfold zd;rw[az (ρ':=[Y _,Y (wD []),M,M]) rfl];let⟨x,y,q⟩:=xE W h.len W [] _ _ (by simpa using h.nd) (by simpa using h.len);let i:ku (eV 0) [Y (wD W),Y (wD []),M,M]=Y (W.map wI):=by rw[<- C_];rfl
 rw[az ((eD i).trans q)];rfl
def any_put{W:Wy}{p:Nat×List D}:qx W p=if W.any (λq=>q.1==p.1)=Z' then W else W++[p]:=rfl
def WB.put{W:Wy}{p:Nat×List D}(h:WB W)(b:Bd p):WB (qx W p):=⟨MV h.nd,λq a=>by
 rw[any_put]at a;split at a
 .exact h.lt q a
 .rcases aA.mp a with z|z
  .exact h.lt q z
  simp_all⟩
theorem WB.fold:∀(L:Wy){W:Wy},WB W->(∀p∈L,Bd p)->WB (L.foldl qx W)
 |[],_,h,_=>h|p::L,_,h,b=>WB.fold L (h.put (b p ż)) λq a=>b q (by simp[a])
def WB.nil:WB []:=⟨ż,λp h=>by cases h⟩
def IJ{f:DF}{a:bP}{W:Wy}{p:Nat×List D}(h:WB W)(c:f a=Y (.int (p.1:Int)))(d:g a=Y (.tup p.2))(b:eV j a=Y (wD W)):gq (cz (e2 wS f (eV j))) (se j f g) cN a=Y (.nx (a.set j (Y (wD (qx W p))))):=by
 let t:=PZ c b;rw[any_put];cases e:W.any _ with
 |true=>rw[e]at t;rw[fq t];simp;show Y _=_;rw[ql (gR b)]
 |false=>rw[e]at t;rw[gy t,LX c d b h.len e];simp
theorem Gv:∀(L a:Wy) (x y:Option D),WB a->(∀p∈L,Bd p)->∃f e,dz (yA 3 4) qP (L.map wI) [d,Y (wD a),c,x,y]=Y (.nx [d,Y (wD (L.foldl qx a)),c,f,e])
 |[],a,x,y,_,_=>⟨x,y,rfl⟩| p::L,a,x,y,h,b=>by
  let i:qP [d,Y (wD a),c,Y (.int p.1),Y (.tup p.2)]=Y (.nx [d,Y (wD (qx a p)),c,Y (.int p.1),Y (.tup p.2)]):=by unfold qP;rw[IJ h rfl rfl rfl];rfl
  rw[a9,dF rfl i];exact Gv L _ _ _ (h.put (b p ż)) λq g=>b q (by simp[g])
theorem CU:∀(R:List Wy) (a:Wy) (x y z:Option D),WB a->(∀W∈R,∀p∈W,Bd p)->∃f e d,dz (gN 2) qO (R.map wD) [c,Y (wD a),x,y,z]=Y (.nx [c,Y (wD (R.flatten.foldl qx a)),f,e,d])
 |[],a,x,y,z,_,_=>⟨x,y,z,rfl⟩| W::R,a,x,y,z,h,b=>by
  let⟨l,k,q⟩:=Gv W a y z h (b W ż);let j:qO [c,Y (wD a),Y (wD W),y,z]=Y (.nx [c,Y (wD (W.foldl qx a)),Y (wD W),l,k]):=by
   unfold qO;let i:ku (eV 2) [c,Y (wD a),Y (wD W),y,z]=Y (W.map wI):=by rw[<- C_];rfl
   rw[eD i,q]
  rw[a9,dF rfl j,tI,Ff];exact CU R _ _ _ _ (h.fold W (b W ż)) λV g=>b V (by simp[g])
def CT{R:List Wy}(b:∀W∈R,∀p∈W,Bd p):l9 [.lst (R.map wD)]=Y (wD (cC R.flatten)):=by
 show (v8 _).bind _=_;unfold v8;rw[az (ρ':=[Y _,Y (wD []),M,M,M]) rfl];let⟨x,y,z,q⟩:=CU R [] _ _ _ .nil b;rw[az ((eD rfl).trans q)];refine jI ?_;rw[mH rfl,AA (WB.nil.fold _ λp a =>?_)]
 .rfl
 .let⟨W,c,h⟩:=List.mem_flatten.mp a;exact b W c p h
theorem Ll(p:Nat×List D):∀(B a:Wy) (x y:Option D),WB a->(∀q∈B,Bd (p.1 ||| q.1,p.2++q.2))->∃g f,dz (yA 5 6) qR (B.map wI) [d,c,Y (wD a),Y (.int (p.1:Int)),Y (.tup p.2),x,y]=Y (.nx [d,c,Y (wD ((B.map λq=>(p.1 ||| q.1,p.2++q.2)).foldl qx a)),Y (.int (p.1:Int)),Y (.tup p.2),g,f])
 |[],a,x,y,_,_=>⟨x,y,rfl⟩| q::B,a,x,y,h,b=>by
  have e:=b q ż;let j:qR [d,c,Y (wD a),Y (.int p.1),Y (.tup p.2),Y (.int q.1),Y (.tup q.2)]=Y (.nx [d,c,Y (wD (qx a (p.1 ||| q.1,p.2++q.2))),Y (.int p.1),Y (.tup p.2),Y (.int q.1),Y (.tup q.2)]):=by
   unfold qR;rw[IJ h ?_ ?_ rfl]
   .rfl
   .show Y (D.int (bO _ _))=_;rw[u0]
   .show (if p.2.length+q.2.length<=cY then Y _ else M)=_;rw[if_pos];have:=e.2;simp at this;exact aV this ſ
  rw[a9,dF rfl j];exact Ll p B _ _ _ (h.put e) λr i=>b r (by simp[i])
theorem GG(B:Wy):∀(A c:Wy) (a b x y:Option D),WB c->(∀p∈sx A B,Bd p)->∃s o g f,dz (yA 3 4) qQ (A.map wI) [d,Y (wD B),Y (wD c),a,b,x,y]=Y (.nx [d,Y (wD B),Y (wD ((sx A B).foldl qx c)),s,o,g,f])
 |[],c,a,b,x,y,_,_=>⟨a,b,x,y,rfl⟩| p::A,c,a,b,x,y,h,k=>by
  let e:sx (p::A) B=(B.map _)++sx A B:=rfl;let n:=λq l=>k _ (aW _ (a7.mpr ⟨q,l,rfl⟩))
  let⟨g,f,q⟩:=Ll p B c x y h n;let m:qQ [d,Y (wD B),Y (wD c),Y (.int p.1),Y (.tup p.2),x,y]=Y (.nx [d,Y (wD B),Y (wD ((B.map λq=>(p.1 ||| q.1,p.2++q.2)).foldl qx c)),Y (.int p.1),Y (.tup p.2),g,f]):=by
   unfold qQ;let i:ku (eV 1) [d,Y (wD B),Y (wD c),Y (.int p.1),Y (.tup p.2),x,y]=Y (B.map wI):=by rw[<- C_];rfl
   rw[eD i,q]
  rw[a9,dF rfl m,e,Ff];exact GG B A _ _ _ _ _ (h.fold _ λr j=>k r (aW _ j)) λr j=>k r (aQ _ j)
def C5(b:∀p∈sx A B,Bd p):qh [wD A,wD B]=Y (wD (cC (sx A B))):=by
 show (v_ _).bind _=_;unfold v_;rw[az (ρ':=[Y _,Y _,Y (wD []),M,M,M,M]) rfl];let⟨x,y,z,u,q⟩:=GG B A [] _ _ _ _ .nil b;let i:ku (eV 0) [Y (wD A),Y (wD B),Y (wD []),M,M,M,M]=Y (A.map wI):=by rw[<- C_];rfl
 rw[az ((eD i).trans q)];refine jI ?_;rw[mH rfl,AA (WB.nil.fold _ b)];rfl
abbrev JS:List aH:=["question","bits","by_name","by_text","starred","stars","inner","leads","asks"]
structure FR(F:Fa)(ds:List D):Prop where
 steps:∀n,iR [.ins "Facts" JS ds,.str n]=some (.int (F.named n:Nat))
 text:∀t,fE [.ins "Facts" JS ds,.str t]=some (.int (F.text t:Nat))
 lift:∀a b:Nat,kO [.ins "Facts" JS ds,.int (a:Int),.int (b:Int)]=some (.int (lift F a b:Nat))
abbrev jk:List aH:=["facts","mark","fresh","longest"]
def jD(F:Fa)(a:List D):D :=.ins "Judge" jk [.ins "Facts" JS a,.int (F.mark:Nat),.str F.fresh,.int (F.long:Nat)]
def Dj{F:Fa}(h:eV 0 a=Y (jD F b)):eT "Judge" "facts" (eV 0) a=Y (.ins "Facts" JS b):=by unfold eT;rw[h];rfl
def K8{m:aH}{f:DF}{args:List D}(c:m∉JS)(e:f a=Y (.ins "Facts" JS b))(d:g a=Y args):pf "Facts" m G f g a=G (.ins "Facts" JS b::args):=by
 unfold pf;rw[e,d];show (if _ then _ else _)=_;rw[if_pos ⟨rfl,c⟩];rfl
theorem Fw{F:Fa}(R:FR F c)(n:aH):∀(L a:Wy) (x y z:Option D),WB a->(∀p∈fN F n L,Bd p)->∃j i g,dz (yA 5 6) oO (L.map wI) [Y (jD F c),Y (.str n),d,Y (.int (F.named n:Nat)),Y (wD a),x,y,z]=Y (.nx [Y (jD F c),Y (.str n),d,Y (.int (F.named n:Nat)),Y (wD ((fN F n L).foldl qx a)),j,i,g])
 |[],a,x,y,z,_,_=>⟨x,y,z,rfl⟩| p::L,a,x,y,z,h,b=>by
  let e:fN F n (p::L)=(lift F (F.named n) p.1,wL n::(p.2++[O5]))::fN F n L:=rfl;rw[e]at b;have m:=b _ (aM ..);let l:oO [Y (jD F c),Y (.str n),d,Y (.int (F.named n:Nat)),Y (wD a),Y (.int (p.1:Int)),Y (.tup p.2),z]=Y (.nx [Y (jD F c),Y (.str n),d,Y (.int (F.named n:Nat)),Y (wD (qx a (lift F (F.named n) p.1,wL n::(p.2++[O5])))),Y (.int (p.1:Int)),Y (.tup p.2),Y (.int (lift F (F.named n) p.1:Nat))]):=by
   unfold oO;rw[az (dD (d :=.int (lift F (F.named n) p.1:Nat)) ?_)]
   .simp only[bj,bo];rw[IJ (p:=(lift F (F.named n) p.1,wL n::(p.2++[O5]))) h rfl ?_ rfl]
    .rfl
    .let o:p.2.length+2<=10000:=by grind
     let f:e2 Ap Í (eV 6) [Y (jD F c),Y (.str n),d,Y (.int (F.named n:Nat)),Y (wD a),Y (.int (p.1:Int)),Y (.tup p.2),Y (.int (lift F (F.named n) p.1:Nat))]=Y (.tup ([wL n]++p.2)):=by show (if 1+p.2.length<=cY then Y (D.tup ([wL n]++p.2)) else M)=_;rw[if_pos (aV (show 1+p.2.length<=10000 by lia) (by decide))]
     show (e2 Ap _ _ _)=_;unfold e2 at f ⊢;rw[f];show (if ([wL n]++p.2).length+1<=cY then Y (D.tup (([wL n]++p.2)++[O5])) else M)=_;rw[if_pos (aV (show _<=10000 by simp;lia) (by decide))];simp
   .rw[K8 (by decide) (Dj rfl) rfl];exact R.lift _ _
  rw[a9,dF rfl l,e,lS];exact Fw R n L _ _ _ _ (h.put m) λr k=>b r (aB _ k)
def zw{F:Fa}(R:FR F a)(n:aH){W:Wy}(b:∀p∈fN F n W,Bd p):qe [jD F a,.str n,wD W]=Y (wD (cC (fN F n W))):=by
 show (sY [Y _,Y _,Y _,M,M,M,M,M]).bind _=_;unfold sY;rw[az (dD (by exact R.steps n))];rw[az (ρ':=[Y _,Y _,Y _,Y _,Y (wD []),M,M,M]) rfl];let⟨x,y,z,q⟩:=Fw R n W [] _ _ _ .nil b;let i:ku (eV 2) [Y (jD F a),Y (.str n),Y (wD W),Y (.int (F.named n)),Y (wD []),M,M,M]=Y (W.map wI):=by rw[<- C_];rfl
 rw[az ((eD i).trans q)];refine jI ?_;rw[mH rfl,AA (WB.nil.fold _ b)];rfl
noncomputable abbrev kS(x:String):D :=.str (ab x)
def dR(b:Bool):aH:=if b then ab "inner" else ab "own"
def bx:Option aH->aH
 |none=>ab "*"|some n=>n
mutual
def bQ:Wi->D
 |.any =>.tup [kS "any"]|.txt t =>.tup [kS "text",.str t]|.has s =>.tup [kS "has",.lst (dH s)]|.both w =>.tup [kS "both",.lst (i4 w)]|.one w =>.tup [kS "one",.lst (i4 w)]
def i4:Ws->List D
 |.nil=>[]|.cons w r=>bQ w::i4 r
def dH:Ss->List D
 |.nil=>[]|.cons b a w r =>.tup [.str (dR b),.str (bx a),bQ w]::dH r
end
def RQ{F:Fa}{e:List Tr->Prop}{W:Wy}(d:∀f,fA F f<2 ^ 19)(h:mz F e W)(l:∀f,e f->(jr f).length<=10000):∀p∈W,Bd p:=λp c=>by
 let⟨f,m,a,b⟩:=h.snd p c;exact⟨a ▸ d f,b ▸ l f m⟩
def Md{F:Fa}{a:List Tr->Prop}{W:Wy}(e:∀f,fA F f<2 ^ 19)(h:mz F a W)(n:aH)(l:∀f,a f->(jr f).length+2<=10000):∀p∈fN F n W,Bd p:=λp d=>by
 let⟨q,c,rfl⟩:=a7.mp d;let⟨f,_⟩:=h.snd q c;refine⟨?_,?_⟩
 .have:=e [.nd n f]
  simp_all [JW,tA]
 grind
def Me{F:Fa}{t:List Tr->Prop}(s:∀f,fA F f<2 ^ 19)(h:mz F t A)(k:mz F N B)(l:∀f g,t f->N g->(jr f).length+(jr g).length<=10000):∀p∈sx A B,Bd p:=λp o=>by
 let⟨q,j,e⟩:=List.mem_flatMap.mp o;let⟨r,i,rfl⟩:=a7.mp e;let⟨f,m,a,b⟩:=h.snd q j;let⟨g,n,c,d⟩:=k.snd r i;refine⟨?_,?_⟩
 .have:=s (f++g)
  simp_all [Rj]
 .have:=l f g m n;rw[b,d]at this;simpa using this
theorem vx{F:Fa}{n:aH}{g:List Tr}:∀k,(jr [mV F k (.nd n g)]).length=(jr g).length+2+2*k
 |0=>by simp[mV,jr,K30.BN]
 | k+1=>by
  have:=vx (F:=F) (n:=n) (g:=g) k;simp only[mV,jr,K30.BN,aI,aJ,eH]at this ⊢
  lia
theorem Li{F:Fa}{c:List D}(R:FR F c)(e:∀f,fA F f<2 ^ 19){z:List Tr->Prop}(n:aH){r1 r2 r3:Option D}:∀(L:List D) (j:Nat) (p:Wy×Wy) (x:Option D),(∀g,z g->(jr g).length+2+2*(j+L.length)<=10000) ->
  mz F (λf=>∃g,z g/\f=[mV F j (.nd n g)]) p.1->mz F (λf=>∃g i,z g/\i<=j/\f=[mV F i (.nd n g)]) p.2 ->
  ∃a h,dz (gN 6) lO L [Y (jD F c),r1,r2,r3,Y (wD p.1),Y (wD p.2),x]=Y (.nx [Y (jD F c),r1,r2,r3,a,Y (wD (layW F L.length p).2),h])
 |[],j,p,x,_,_,_=>⟨_,x,rfl⟩| d::L,j,p,x,l,a,b=>by
  simp only[aJ]at l;have o:mz F (λf=>∃g,z g/\f=[mV F (j+1) (.nd n g)]) (K30.cC (fN F F.fresh p.1)):=(a.wrap F.fresh).imp λf=>by rintro⟨_,⟨g,m,rfl⟩,rfl⟩;exact Ÿ
  let k:∀r∈K30.cC (fN F F.fresh p.1),Bd r:=RQ e o (by rintro f ⟨g,m,rfl⟩;rw[vx];have:=l g m;lia)
  let w:=zw R F.fresh (Md e a F.fresh (by rintro f ⟨g,m,rfl⟩;grind [vx]));let s:=CT (R:=[p.2,K30.cC (fN F F.fresh p.1)]) (by
   intro W t;simp at t;rcases t with rfl|rfl
   .exact RQ e b (by rintro f ⟨g,i,m,y,rfl⟩;grind [vx])
   .exact k)
  let u:lO [Y (jD F c),r1,r2,r3,Y (wD p.1),Y (wD p.2),Y d]=Y (.nx [Y (jD F c),r1,r2,r3,Y (wD (K30.cC (fN F F.fresh p.1))),Y (wD (K30.cC (p.2++K30.cC (fN F F.fresh p.1)))),Y d]):=by
   unfold lO;rw[az (dD (d:=wD (K30.cC (fN F F.fresh p.1))) w)];simp only[bj,bo];rw[dD (d:=wD (K30.cC (p.2++K30.cC (fN F F.fresh p.1))))]
   .rfl
   .have:[p.2,K30.cC (fN F F.fresh p.1)].flatten=p.2++K30.cC (fN F F.fresh p.1):=by simp
    rw[this]at s;exact s
  rw[dF rfl u];let⟨v,h,q⟩:=Li R e n (r1:=r1) (r2:=r2) (r3:=r3) L (j+1) (K30.cC (fN F F.fresh p.1),K30.cC (p.2++K30.cC (fN F F.fresh p.1))) (Y d) (λg m=>ŷ) o ((b.append o).gather.imp λf=>ŷ)
  exact⟨v,h,q⟩
def zk(x y:aH):nO (.str x) (.str y)=(x==y):=by simp[nO]
theorem DW{F:Fa}{d:List D}(R:FR F d)(j:∀f,fA F f<2 ^ 19){v:List Tr->Prop}{W:Wy}(h:mz F v W)(b:Bool)(c:Option aH)(w:D)(o:c≠Y (ab "*"))(p:∀g,v g->(jr g).length+2+2*F.long<=10000)(r:F.long<=1000):
  oV [jD F d,.tup [.str (dR b),.str (bx c),w],wD W]=Y (wD (Ky F b c W)):=by
 show (oJ [Y (jD F d),Y (.tup [.str (dR b),.str (bx c),w]),Y (wD W),M,M,M,M]).bind mW=_;unfold oJ;rw[az (dD (d :=.str (eX F c)) ?nm0)]
 case nm0=>
  have e:cz py [Y (jD F d),Y (.tup [.str (dR b),.str (bx c),w]),Y (wD W),M,M,M,M]=Y (nO (.str (bx c)) (.str (ab "*"))):=rfl;unfold YC;rw[e,zk];cases c with
  |none=>rfl|some n=>
   have:(bx (Y n)==ab "*")=false:=by rw[beq_eq_false_iff_ne];exact Ÿ
   rw[this];rfl
 simp only[bj,bo];let a:=h.wrap (eX F c);rw[az (dD (d:=wD (K30.cC (fN F (eX F c) W))) (zw R (eX F c) (Md j h (eX F c) λf m=>by grind)))];simp only[bj,bo];have e:cz (e2 fF (e2 bF (eV 1) f8) Ix) [Y (jD F d),Y (.tup [.str (dR b),.str (bx c),w]),Y (wD W),Y (.str (eX F c)),Y (wD (K30.cC (fN F (eX F c) W))),M,M]=Y (nO (.str (dR b)) (.str (ab "own"))):=rfl;cases b with
 |false=>solve_by_elim|true=>
  let t:nO (.str (dR Z')) (.str (ab "own"))=false:=by solve_by_elim
  rw[t]at e;rw[az (by solve_by_elim)];rw[az (dD (d:=wD (K30.cC (fN F (eX F c) W))) rfl)];simp only[bj,bo];have k:(fx 0 F.long).length=F.long:=by simp[fx]
  let⟨u,l,q⟩:=Li R j (eX F c) (r1:=Y (.tup [.str (dR Z'),.str (bx c),w])) (r2:=Y (wD W)) (r3:=Y (.str (eX F c))) (fx 0 F.long) 0 (K30.cC (fN F (eX F c) W),K30.cC (fN F (eX F c) W)) M (λg m=>Ż) a (a.imp λf=>by rintro⟨g,m,e⟩;exact⟨g,0,m,av _,e⟩)
  rw[k]at q;let i:wM (eT "Judge" "longest" (eV 0)) [Y (jD F d),Y (.tup [.str (dR Z'),.str (bx c),w]),Y (wD W),Y (.str (eX F c)),Y (wD (K30.cC (fN F (eX F c) W))),Y (wD (K30.cC (fN F (eX F c) W))),M]=Y (fx 0 F.long):=by
   let s:eT "Judge" "longest" (eV 0) [Y (jD F d),Y (.tup [.str (dR Z'),.str (bx c),w]),Y (wD W),Y (.str (eX F c)),Y (wD (K30.cC (fN F (eX F c) W))),Y (wD (K30.cC (fN F (eX F c) W))),M]=Y (.int (F.long:Nat)):=rfl
   grind [Er,mZ,jB,cI]
  rw[az ((eD i).trans q)];unfold Ky;rw[if_pos rfl];rfl
mutual
def N7:Wi->Prop
 |.any=>True|.txt _=>True|.has s=>EZ s|.both w=>R4 w|.one w=>R4 w
def R4:Ws->Prop
 |.nil=>True|.cons w r=>N7 w/\R4 r
def EZ:Ss->Prop
 |.nil=>True|.cons _ a w r=>a≠Y (ab "*")/\N7 w/\EZ r
end
mutual
def h_:Wi->Nat
 |.any=>1|.txt _=>1|.has s=>1+mU s|.both w=>1+uo w|.one w=>1+uo w
def uo:Ws->Nat
 |.nil=>0|.cons w r=>max (h_ w) (uo r)
def mU:Ss->Nat
 |.nil=>1|.cons _ _ w r=>max (1+h_ w) (mU r)
end
mutual
def Ot(F:Fa):Wi->Nat
 |.any=>0|.txt _=>1|.has s=>Uj F 0 s|.both w=>HQ F w|.one w=>HQ F w
def HQ(F:Fa):Ws->Nat
 |.nil=>0|.cons w r=>Ot F w+HQ F r
def Uj(F:Fa)(e:Nat):Ss->Nat
 |.nil=>e|.cons _ _ w r=>Uj F e r+Ot F w+2+2*F.long
end
mutual
theorem sv{F:Fa}:∀(w:Wi){f:List Tr},MW F w f->(jr f).length<=Ot F w
 |.any,f,h=>by let h:f=[]:=h;simp_all [jr]
 |.txt t,f,h=>by let h:f=[.txt t]:=h;simp_all [jr,K30.BN,Ot]
 |.has s,f,h=>El (by simp[jr]) s h
 |.both w,f,h=>Qr w h|.one w,f,h=>Qq w h
theorem Qr{F:Fa}:∀(w:Ws){f:List Tr},MA F w f->(jr f).length<=HQ F w
 |.nil,f,h=>by let h:f=[]:=h;simp_all [jr]
 | .cons w r,f,⟨g,h,a,b,e⟩=>by
  have:=sv w a;have:=Qr r b
  grind [vy,aI,HQ]
theorem Qq{F:Fa}:∀(w:Ws){f:List Tr},ME F w f->(jr f).length<=HQ F w
 |.nil,f,h=>h.elim| .cons w r,f,h=>by
  rw[HQ];rcases h with h|h
  .have:=sv w h;lia
  .have:=Qq r h;lia
theorem El{F:Fa}{e:Nat}(d:(jr i).length<=e):∀(s:Ss){f:List Tr},MS F i s f->(jr f).length<=Uj F e s
 |.nil,f,h=>by subst h;exact d
 | .cons b j w r,f,⟨g,h,k,a,c,l,q⟩=>by
  have:=El d r a;have:=sv w c
  grind [vx,vy,aI,Uj]
end
def qZ(F:Fa):Ws->List Wy
 |.nil=>[]|.cons w r=>rP F w::qZ F r
theorem FX(F:Fa):∀w:Ws,(qZ F w).flatten=NV F w
 |.nil=>by solve_by_elim
 |.cons w r=>by rw[qZ,tI,FX F r,NV]
inductive Runs (τ:BF) (g:DG):List D->bP->bP->Prop
 |nil {ρ}:Runs τ g [] ρ ρ
 |cons {d b ρ ρ1 ρ2 ρ3}:τ d ρ=some ρ1->g ρ1=some (.nx ρ2)->Runs τ g b ρ2 ρ3->Runs τ g (d::b) ρ ρ3
def Runs.ev{d:BF}{g:DG}{l:List D}{ρ c:bP}(h:Runs d g l ρ c):dz d g l ρ=Y (.nx c):=by
 induction h with|nil=>rfl|cons a b _ ih=>rw[dF a b,ih]
def Runs.app{f:bP}(h:Runs e g a f c)(k:Runs e g b c d):Runs e g (a++b) f d:=by
 induction h with|nil=>exact k|cons x y _ ih=>exact .cons x y (ih k)
def uq{f:DF}{d:D}(h:f a=Y d)(k:g a=Y e):aO G (aC f (aC g aN)) a=G [d,e]:=by unfold aO aC;rw[h,k];rfl
def wD0:um f8 (cW aN) a=Y (wD [(0,[])]):=rfl
def QD{F:Fa}:cz (e2 fF (e2 bF (eV 1) f8) (eK (kS k))) [Y (jD F d),Y (.tup (kS x::r)),a,b,c]=cz (λ_=>fF (kS x) (kS k)) []:=by
 let e:e2 bF (eV 1) f8 [Y (jD F d),Y (.tup (kS x::r)),a,b,c]=Y (kS x):=by exact d6 rfl
 unfold cz e2 at *
 rw[e];rfl
def ix1(h:eV 1 a=Y (.tup (x::y::r))):e2 bF (eV 1) v6 a=Y y:=by
 unfold e2;rw[h];exact d6 rfl
structure JO(F:Fa)(ds:List D):Prop where
 fr:FR F ds
 hA:∀f,fA F f<2 ^ 19
 hk:F.long<=1000
def aaE{F:Fa}:mz F (λf=>f=[]) [(0,[])]:=mz.one.imp λf h=>h
mutual
def SzW:Wi->Prop
 |.any=>True|.txt _=>True|.has s=>SzS s|.both w=>YZ w|.one w=>YZ w
def YZ:Ws->Prop
 |.nil=>True|.cons w r=>((i4 r).length<1000/\SzW w)/\YZ r
def SzS:Ss->Prop
 |.nil=>True|.cons _ _ w r=>SzW w/\SzS r
end
theorem OE:∀(w:Ws),YZ w->(i4 w).length<=1000
 |.nil,_=>by simp[i4]
 |.cons w r,h=>by have:=h.1.1;exact Ÿ
theorem tf:∀s:Ss,1<=mU s
 |.nil=>by simp[mU]
 |.cons _ _ w r=>by grind [mU]
theorem KI{F:Fa}(J:JO F a):∀(w:Ws),HQ F w<=10000->∀W∈qZ F w,∀p∈W,Bd p
 |.nil,_,W,h=>by simp[qZ]at h
 | .cons w r,l,W,h=>by
  rw[HQ]at l;rcases aq.mp h with rfl|h
  .exact RQ J.hA (oA F w) λf m=>by have:=sv w m;lia
  .exact KI J r Ž W h
theorem Mb{F:Fa}(J:JO F c){A B:List D->Option D}:∀(w:Ws){j:List Tr->Prop}{W:Wy}{k:Nat}{x:Option D},mz F j W->(∀f,j f->(jr f).length<=k)->k+HQ F w<=10000->∃a,Runs (gN 4) (pq A B) ((qZ F w).map wD) [Y (jD F c),e,d,Y (wD W),x] [Y (jD F c),e,d,Y (wD (HG F W w)),a]
 |.nil,j,W,k,x,_,_,_=>⟨x,Ÿ⟩
 | .cons w r,j,W,k,x,h,l,b=>by
  rw[HQ]at b;let⟨a,q⟩:=Mb J r (k:=k+Ot F w) (h.join (oA F w)) (by
   rintro f ⟨g,i,m,n,rfl⟩;have:=sv w n
   grind [vy,aI]) Ž
  refine⟨a,?_⟩;rw[HG];refine .cons rfl ?_ q;unfold pq;rw[dD (C5 (Me J.hA h (oA F w) λf g m n=>by have:=l f m;have:=sv w n;lia))];rfl
def KH{F:Fa}(c:(i4 w).length<=1000)(h:oh [M,Y (jD F b)] (gN 0) dC (aO G Tk) (i4 w)=Y ((qZ F w).map wD))(e:eV 0 a=Y (jD F b))(d:e2 bF (eV 1) v6 a=Y (.lst (i4 w))):eF (jN (iL (e2 bF (eV 1) v6)) [M,Y 0] (gN 0) dC (aO G Tk)) a=Y (.lst ((qZ F w).map wD)):=by
 unfold eF jN iL;rw[d];let s:iU [M,Y 0] a=[M,Y (jD F b)]:=by show [M,a[0]?.getD _]=_;rw[gR e];rfl
 rw[s];show (if (i4 w).length<=cY then oh _ _ _ _ _ else M).map _=_;rw[if_pos (aV c (by decide)),h];rfl
def Cm{F:Fa}{s:Ss}{W V:Wy}{m:Nat}(h:Runs (gN 4) (kH (bY m) (bX m)) (dH s).reverse [Y (jD F a),Y (.lst (dH s)),Y (wD W),Y (wD W),M,M] [Y (jD F a),Y (.lst (dH s)),Y (wD W),Y (wD V),x,y]):bY (m+1) [jD F a,.lst (dH s),wD W]=Y (wD V):=by
 show (mS _ _ [Y _,Y _,Y _,M,M,M]).bind _=_;unfold mS;rw[az (dD rfl)];simp;rw[az ((eD rfl).trans h.ev)];rfl
mutual
theorem Kq{F:Fa}(J:JO F a):∀(w:Wi) (m:Nat),h_ w<=m->N7 w->SzW w->Ot F w<=10000->bX m [jD F a,bQ w]=Y (wD (rP F w))
 |.any,0,h,_,z,_=>by simp[h_]at h
 |.any,m+1,h,_,z,_=>by solve_by_elim
 |.txt t,0,h,_,z,_=>by simp[h_]at h
 | .txt t,m+1,h,_,z,_=>by
  show (fZ (bY m) (bX m) [Y (jD F a),Y (.tup [kS "text",.str t]),M,M,M]).bind mW=_;unfold fZ;rw[az (by solve_by_elim)];unfold ba;rw[gy (QD.trans (by solve_by_elim))];let d:pf "Facts" "text_fact" fE (eT "Judge" "facts" (eV 0)) Tl [Y (jD F a),Y (.tup [kS "text",.str t]),M,M,M]=Y (.int (F.text t:Nat)):=by rw[K8 (by decide) (Dj rfl) rfl];exact J.fr.text t
  let b:cW Ü [Y (jD F a),Y (.tup [kS "text",.str t]),M,M,M]=Y (.tup [Zt t]):=rfl;have:um (pf "Facts" "text_fact" fE (eT "Judge" "facts" (eV 0)) Tl) (cW Ü) [Y (jD F a),Y (.tup [kS "text",.str t]),M,M,M]=Y (wD [(F.text t,[Zt t])]):=by unfold um;rw[d,b];rfl
  unfold dM;rw[this];rfl
 |.has s,0,h,_,z,_=>by simp[h_]at h
 | .has s,m+1,h,n,z,l=>by
  show (fZ (bY m) (bX m) [Y (jD F a),Y (.tup [kS "has",.lst (dH s)]),M,M,M]).bind mW=_;unfold fZ;rw[az (by solve_by_elim)];rw[az (by solve_by_elim)];unfold ba;rw[gy (QD.trans (by solve_by_elim))];have:aO (bY m) Á [Y (jD F a),Y (.tup [kS "has",.lst (dH s)]),M,M,M]=Y (wD (rP F (.has s))):=by
   show bY m _=_;rw[rP];let c:mU s<=m:=by grind [h_]
   let g:=tf s;obtain⟨m,rfl⟩:∃k,m=k+1:=⟨m-1,Ž⟩;let⟨x,y,q⟩:=w6 J s (x:=M) (y:=M) (g0:=[]) (e:=0) (by simp[jr]) aaE m c n (by simp only[SzW]at z;exact z) l;exact Cm q
  unfold dM;rw[this];rfl
 |.one w,0,h,_,z,_=>by simp[h_]at h
 | .one w,m+1,h,n,z,l=>by
  show (fZ (bY m) (bX m) [Y (jD F a),Y (.tup [kS "one",.lst (i4 w)]),M,M,M]).bind mW=_;unfold fZ;rw[az (by solve_by_elim)];rw[az (by solve_by_elim)];rw[az (by solve_by_elim)];rw[az (dD (KH (OE w (by solve_by_elim)) (D0 J w m (by simp only[h_]at h;lia) n (by solve_by_elim) l) rfl (ix1 rfl)))];simp only[bj,bo];unfold ba;rw[gy (QD.trans (by solve_by_elim))];have:aO l9 pc [Y (jD F a),Y (.tup [kS "one",.lst (i4 w)]),Y (.lst ((qZ F w).map wD)),M,M]=Y (wD (rP F (.one w))):=by show l9 [.lst ((qZ F w).map wD)]=_;rw[CT (KI J w l),FX,rP]
  unfold dM;rw[this];rfl
 |.both w,0,h,_,z,_=>by simp[h_]at h
 | .both w,m+1,h,n,z,l=>by
  show (fZ (bY m) (bX m) [Y (jD F a),Y (.tup [kS "both",.lst (i4 w)]),M,M,M]).bind mW=_;unfold fZ;rw[az (by solve_by_elim)];rw[az (by solve_by_elim)];rw[az (by solve_by_elim)];rw[az (dD (KH (OE w (by solve_by_elim)) (D0 J w m (by simp only[h_]at h;lia) n (by solve_by_elim) l) rfl (ix1 rfl)))];simp only[bj,bo];rw[az (by solve_by_elim),az (dD wD0)];simp only[bj,bo];let⟨x,q⟩:=Mb J (A:=bY m) (B:=bX m) w aaE (k:=0) (x:=M) (λf e=>by simp_all [jr]) (by simp_all [Ot]);rw[az ((eD rfl).trans q.ev)]
  exact Ÿ
theorem D0{F:Fa}(J:JO F a):∀(w:Ws) (m:Nat),uo w<=m->R4 w->YZ w->HQ F w<=10000->oh [M,Y (jD F a)] (gN 0) dC (aO (bX m) Tk) (i4 w)=Y ((qZ F w).map wD)
 |.nil,m,_,_,_,_=>rfl| .cons w r,m,h,n,z,l=>by
  simp only[uo]at h;rw[HQ]at l;let e:=Kq J w m Ž n.1 z.1.2 Ž;let q:=D0 J r m Ž n.2 z.2 Ž;rw[i4,oh,show gN 0 (bQ w) [M,Y (jD F a)]=Y [Y (bQ w),Y (jD F a)] from rfl];simp only[ah,dC,if_true];rw[show aO (bX m) Tk [Y (bQ w),Y (jD F a)]=bX m [jD F a,bQ w] from rfl,e]
  simp_all [ah,qZ]
theorem w6{F:Fa}{d:List D}(J:JO F d):∀(s:Ss){r1 r2 x y:Option D}{g0:List Tr}{e:Nat}{W:Wy},(jr g0).length<=e->mz F (λf=>f=g0) W->∀(m:Nat),mU s<=m+1->EZ s->SzS s->Uj F e s<=10000->∃j i,Runs (gN 4) (kH (bY m) (bX m)) (dH s).reverse [Y (jD F d),r1,r2,Y (wD W),x,y] [Y (jD F d),r1,r2,Y (wD (ng F W s)),j,i]
 |.nil,r1,r2,x,y,g0,e,W,_,_,m,_,_,_,_=>⟨x,y,Ÿ⟩
 | .cons b o w r,r1,r2,x,y,g0,e,W,t,h,m,B,n,z,l=>by
  simp only[mU]at B;rw[Uj]at l;let⟨j,i,q⟩:=w6 J r (r1:=r1) (r2:=r2) (x:=x) (y:=y) t h m Ž n.2.2 z.2 Ž;let k:=vq F r h;let p:∀f,MS F g0 r f->(jr f).length<=Uj F e r:=λf a=>El t r a
  let u:=Kq J w m Ž n.2.1 z.1 Ž;let A:=C5 (Me J.hA k (oA F w) λf g a c=>by have:=p f a;have:=sv w c;lia);let v:=DW J.fr J.hA (k.join (oA F w)) b o (bQ w) n.1 (by
   rintro f ⟨g,C,a,c,rfl⟩;have:=p g a;have:=sv w c
   grind [vy,aI]) J.hk
  refine⟨Y (.tup [.str (dR b),.str (bx o),bQ w]),Y (wD (K30.cC (sx (ng F W r) (rP F w)))),?_⟩;rw[dH,List.reverse_cons];refine q.app (.cons rfl ?_ .nil);unfold kH;rw[az (dD ?ev)]
  case ev=>rw[uq (d:=wD (ng F W r)) rfl (u)];exact A
  simp only[bj,bo];rw[dD v,ng];rfl
end
def Ci{f:DF}{ρ':bP}(r:res b c a=ρ')(e:f ρ'=Y d)(p:Ad d=Z'):Ds b c f a=Y d:=by simp_all [Ds]
def OK{f:DT}{ρ':bP}(r:res c d a=ρ')(e:f ρ'=Y b):SS c d f a=Y b:=by simp_all [SS]
def ES:1000000<=cY:=by unfold cY;decide
def jJ(h:n<2000):n<cY:=aY (Vw h ſ) ES
theorem WY{p:Nat}(h:p<=1000):tU (.int 1) (.int (p:Int))=Y (.int (2 ^ p)):=by
 simp only[tU]
 grind
structure FB where
 q:List D
 bits:Nat
 nk:List iT
 nv:List D
 tk:List iT
 tv:List D
 fW:Int
 jO:Int
 inner:Int
 bJ:List D
noncomputable abbrev fbk:List aH:=["question","bits","by_name","by_text","starred","stars","inner","leads"]
def c_(s:FB):D :=.ins "Facts" fbk [.lst s.q,.int (s.bits:Nat),.fS s.nk s.nv,.fS s.tk s.tv,.int s.fW,.int s.jO,.int s.inner,.lst s.bJ]
abbrev oF(s:FB):Option D:=Y (.obj ao (c_ s))
def Au(s:FB)(h:s.bits<=999):bN [c_ s]=Y (.int (2 ^ s.bits),c_ { s with bits:=s.bits+1 }):=by
 show (iw _).bind _=_;unfold iw;rw[az ?b]
 case b=>kernel_rfl
 let a:Ds [0] [] (e2 tU v6 im) [oF { s with bits:=s.bits+1 }]=Y (.int (2 ^ s.bits)):=by
  refine Ci (ρ':=[Y _]) rfl ?_ rfl;have:e2 tU v6 im [Y (c_ { s with bits:=s.bits+1 })]=tU (.int 1) (.int _):=rfl
  grind [WY]
 unfold eZ mP;rw[a];exact ź
def kr{F:List D->Option (D×D)}{m:aH}{ρ1:bP}{s s1 b:FB}{args:List D}(c:m∉fbk)(i:eV j a=oF s)(e:g a=Y (args,ρ1))(f:eV j ρ1=oF s1)(h:F (c_ s1::args)=Y (d,c_ b)):
  cv "Facts" m ao F j g a=Y (d,(gf j ρ1).set j (oF b)):=by
 let l:DU j a=Y (ao,c_ s):=by unfold DU;rw[i]
 let k:tL ao j ρ1=Y (c_ s1):=by unfold tL DU;rw[f];exact ź
 unfold cv;rw[l];show (if _ then _ else _)=_;rw[if_pos ⟨⟨rfl,rfl⟩,c⟩,e];simp only[ah,k,h];rfl
noncomputable abbrev lp(a b:aH)(w:D):D :=.tup [.str a,.str b,w]
def O'{s:FB}(hi:(bM s.nk s.nv (bw nm)).getD (.int 0)=.int i)(hl:s.nk.length<cY):
  qu 0 "Facts" "by_name" (e2 bF (eV 1) v6) (mP (Ds [0] [] (e2 K2 Op (eV 2)))) [oF s,Y (lp way nm w),Y (.int b)]=Y (.nx [oF { s with nk:=(kg (bw nm) (.int (bO i b)) s.nk s.nv).1,nv:=(kg (bw nm) (.int (bO i b)) s.nk s.nv).2 },Y (lp way nm w),Y (.int b)]):=by
 let e1:Ds [0] [] (e2 K2 Op (eV 2)) [oF s,Y (lp way nm w),Y (.int b)]=Y (.int (bO i b)):=by refine Ci (ρ':=[Y (c_ s),Y _,Y (.int b)]) rfl ?_ rfl;have:e2 K2 (yo (eT "Facts" "by_name" (eV 0)) (e2 bF (eV 1) v6) (eK _)) (eV 2) [Y (c_ s),Y (lp way nm w),Y (.int b)]=K2 ((bM s.nk s.nv _).getD (.int 0)) (.int b):=rfl;rw[this,hi];rfl
 unfold qu mP;rw[e1];simp;let e2:zy "Facts" "by_name" 0 [oF s,Y (lp way nm w),Y (.int b)]=Y (nN,fbk,[.lst s.q,.int (s.bits:Nat),.fS s.nk s.nv,.fS s.tk s.tv,.int s.fW,.int s.jO,.int s.inner,.lst s.bJ],.fS s.nk s.nv):=by kernel_rfl
 rw[e2];simp;show (if _/\s.nk.length<cY then _ else M)=_;rw[if_pos ⟨by decide,hl⟩];exact ź
def mn(s:FB)(a c:aH)(i:Int):FB:=
 let b:Int:=2 ^ s.bits
 let d:FB:={ s with bits:=s.bits+1,inner:=if a=ab "inner" then bO s.inner b else s.inner }
 if c=ab "*" then { d with fW:=bO s.fW b,jO:=s.jO+1 } else { d with nk:=(kg (bw c) (.int (bO i b)) s.nk s.nv).1,nv:=(kg (bw c) (.int (bO i b)) s.nk s.nv).2 }
def B1{s:FB}(h:s.bits<=999)(hk:s.nk.length<=s.bits)(way nm:aH)(w:D){i:Int}(hi:(bM s.nk s.nv (bw nm)).getD (.int 0)=.int i):dg [c_ s,lp way nm w]=Y (.int (2 ^ s.bits),c_ (mn s way nm i)):=by
 let e0:dg [c_ s,lp way nm w]=(ip [oF s,Y (lp way nm w),M]).bind (D8 ao):=rfl;rw[e0];unfold ip;rw[az (ρ':=[oF { s with bits:=s.bits+1 },Y (lp way nm w),Y (.int (2 ^ s.bits))]) ?q0]
 case q0=>unfold iN;rw[kr (by decide) rfl rfl rfl (Au s h)];rfl
 unfold mn;generalize hb:(2:Int) ^ s.bits=b at *
 let q1:gq (cz wv) (pO Z_ 0 "Facts" "inner" g_ (eV 2)) cN [oF { s with bits:=s.bits+1 },Y (lp way nm w),Y (.int b)]=Y (.nx [oF { s with bits:=s.bits+1,inner:=if way=ab "inner" then bO s.inner b else s.inner },Y (lp way nm w),Y (.int b)]):=by
  have e1:cz wv [oF { s with bits:=s.bits+1 },Y (lp way nm w),Y (.int b)]=Y (nO (.str way) (.str (ab "inner"))):=by kernel_rfl
  unfold gq;rw[e1,zk];by_cases z:way=ab "inner"
  .rw[if_pos z,beq_iff_eq.mpr z];exact ź
  .rw[if_neg z,beq_eq_false_iff_ne.mpr z];rfl
 rw[az q1];have e1:∀s:FB,cz py [oF s,Y (lp way nm w),Y (.int b)]=Y (nO (.str nm) (.str (ab "*"))):=λs=>by kernel_rfl
 by_cases z:nm=ab "*"
 .rw[az (ρ':=[oF { s with bits:=s.bits+1,inner:=if way=ab "inner" then bO s.inner b else s.inner,fW:=bO s.fW b,jO:=s.jO+1 },Y (lp way nm w),Y (.int b)]) ?q2]
  case q2=>unfold gq;rw[e1,zk,beq_iff_eq.mpr z];exact ź
  simp only[if_pos z];exact ź
 .let pn:=O' (s:={ s with bits:=s.bits+1,inner:=if way=ab "inner" then bO s.inner b else s.inner }) (way:=way) (w:=w) (b:=b) hi (jJ ŷ);rw[az (ρ':=[oF { s with bits:=s.bits+1,inner:=if way=ab "inner" then bO s.inner b else s.inner,nk:=(kg (bw nm) (.int (bO i b)) s.nk s.nv).1,nv:=(kg (bw nm) (.int (bO i b)) s.nk s.nv).2 },Y (lp way nm w),Y (.int b)]) ?q2]
  case q2=>simp_all [gq,zk]
  simp only[if_neg z];exact ź
mutual
def xX:Ak->D
 |.mk n a =>.tup [.int (n:Nat),.lst (xQ a)]
def xQ:Cs->List D
 |.nil=>[]|.cons c r =>.lst (l6 c)::xQ r
def l6:As->List D
 |.nil=>[]|.cons x r=>xX x::l6 r
end
def ldK(l:Nat×Ak):D :=.tup [.int ((2:Int) ^ l.1),xX l.2]
def m5:bM (c::a) (x::b) k=if c=k then Y x else bM a b k:=by
 unfold bM;by_cases h:c=k<;>simp_all
theorem K_:∀ {a:List iT}{b:List D},a.length=b.length->bM a (wH (λq x=>if q=k then d else x) a b) c=(bM a b c).map λx=>if c=k then d else x
 |[],[],_=>by simp[bM]
 |q::a,[],h=>by simp at h
 |[],x::b,h=>by simp at h
 | q::a,x::b,h=>by
  rw[Vy,m5,m5];by_cases e:q=c
  .subst e;simp
  .simp only[if_neg e];exact K_ Ż
theorem vU:∀ {a:List iT}{b:List D},a.length=b.length->bM (a++[k]) (b++[d]) c=match bM a b c with|some x=>Y x|none=>if k=c then Y d else M
 |[],[],_=>by simp_all [bL,m5,bM]
 |q::a,[],h=>by simp at h
 |[],x::b,h=>by simp at h
 | q::a,x::b,h=>by
  rw[cT,cT,m5,m5];by_cases e:q=c
  .simp[e]
  .simp only[if_neg e];exact vU Ż
theorem sr:∀ {a:List iT}{b:List D},a.length=b.length->(bM a b k=M↔k∉a)
 |[],[],_=>by simp[bM]
 |q::a,[],h=>by simp at h
 |[],x::b,h=>by simp at h
 | q::a,x::b,h=>by
  rw[m5];by_cases e:q=k
  .subst e;simp
  .rw[if_neg e,sr (by simp_all)];simp[bE e]
def Nd{a:List iT}{b:List D}(h:a.length=b.length):bM (kg k d a b).1 (kg k d a b).2 c=if c=k then Y d else bM a b c:=by
 unfold kg;by_cases z:(a.any λq=>decide (q=k))=Z'
 .rw[if_pos z,K_ h];let f:=by simpa using z
  by_cases e:c=k
  .subst e;cases q:bM a b c with
   |none=>exact absurd f ((sr h).mp q)|some x=>simp
  simp_all
 .rw[if_neg z,vU h]
  grind [sr]
def Rq{k:iT}{d:D}{a:List iT}{b:List D}(h:a.length=b.length):(kg k d a b).1.length=(kg k d a b).2.length/\(kg k d a b).1.length<=a.length+1:=by
 unfold kg;split<;>simp[h]
def oH(n:Nat):(2:Int) ^ n=((2 ^ n:Nat):Int):=by simp
def Ii(b:Bool):dR b=ab "inner" ↔b=true:=by cases b<;>decide +kernel
def vO:D->Nat
 |.int i=>i.toNat|_=>0
def Vo(s:FB)(L:List (Nat×Ak))(b:Nat)(a:aH):Fa where
 inner:=s.inner.toNat
 star:=s.fW.toNat
 named:=λn=>s.fW.toNat ||| vO ((bM s.nk s.nv (bw n)).getD (.int 0))
 text:=λt=>vO ((bM s.tk s.tv (bw t)).getD (.int 0))
 mark:=2 ^ b
 bJ:=L
 fresh:=a
 long:=s.jO.toNat+1
abbrev fa(s:FB)(L:List (Nat×Ak)):Fa:=Vo s L 0 ⟨#[]⟩
structure GI(TL:List aH)(c:Nat)(s:FB)(L:List (Nat×Ak)):Prop where
 yl:∃m:Nat,s.inner=(m:Int)/\m<2 ^ s.bits
 str:∃m:Nat,s.fW=(m:Int)/\m<2 ^ s.bits
 Zq:∃m:Nat,s.jO=(m:Int)/\m<=c
 Ua:∀n,∃m:Nat,(bM s.nk s.nv (bw n)).getD (.int 0)=.int (m:Int)/\m<2 ^ s.bits
 txt:∀t,bM s.tk s.tv (bw t)=none\/∃j,bM s.tk s.tv (bw t)=some (.int (2 ^ j))/\j<s.bits
 VS:s.nk.length=s.nv.length
 OL:s.tk.length=s.tv.length
 Zv:s.nk.length<=c/\s.nk.length<=s.bits
 Zl:s.tk.length<=s.bits
 WL:s.tk.Nodup
 WJ:∀k∈s.tk,∃t∈TL,k=bw t
 bts:s.bits<=c+s.tk.length
 led:s.bJ=L.map ldK
 XY:∀l∈L,l.1<s.bits
def sm{m:Nat}(h:m<2 ^ k):m<2 ^ (k+1):=Vw h (ZR ſ)
def Px{m:Nat}(h:m<2 ^ k):(m ||| 2 ^ k)<2 ^ (k+1):=Nat.or_lt_two_pow (sm h) (ZR ſ)
def Ka{m:Nat}:(m ||| 2 ^ k).testBit k=true:=by simp[rL]
def RS{m k:Nat}:bO (m:Int) (2 ^ k)=((m ||| 2 ^ k:Nat):Int):=by rw[oH,u0]
def W4(h:Sb a b):Sb a (c ||| b):=h.trans (.inr _ _)
set_option tactic.hygienic true in
def UD{TL:List aH}{c:Nat}{s:FB}{L:List (Nat×Ak)}(I:GI TL c s L)(b:Bool)(nm:Option aH)(hn:nm≠Y (ab "*")){i:Int}(hi:(bM s.nk s.nv (bw (bx nm))).getD (.int 0)=.int i):GI TL (c+1) (mn s (dR b) (bx nm) i) L/\DD (fa s L) (fa (mn s (dR b) (bx nm) i) L)/\DE (fa (mn s (dR b) (bx nm) i) L) b nm s.bits/\(mn s (dR b) (bx nm) i).bits=s.bits+1/\(mn s (dR b) (bx nm) i).q=s.q:=by
 let⟨mi,ei,li⟩:=I.yl;let⟨ms,es,ls⟩:=I.str;let⟨mc,ec,lc⟩:=I.Zq;obtain⟨yl,abd,lin,bin,ub⟩:∃yl:Nat,(if dR b=ab "inner" then bO s.inner (2 ^ s.bits) else s.inner)=(yl:Int)/\yl<2 ^ (s.bits+1)/\Sb mi yl/\(b=Z'->yl.testBit s.bits=Z'):=by
  cases b with
  |true=>exact⟨mi ||| 2 ^ s.bits,(if_pos rfl).trans (by rw[ei,RS]),Px li,.inl _ _,λa=>Ka⟩
  |false=>exact⟨mi,(if_neg λy=>by cases (Ii Z_).mp y).trans ei,sm li,.refl _,λz=>by cases z⟩
 have tx:∀t,bM s.tk s.tv (bw t)=M\/∃j,bM s.tk s.tv (bw t)=Y (.int (2 ^ j))/\j<s.bits+1:=λt=>(I.txt t).imp id λ⟨j,e,l⟩=>⟨j,e,Ž⟩
 let n2:=I.Zv;let n3:=I.Zl;let n4:=I.bts;cases nm with
 |none=>
  have e:mn s (dR b) (bx M) i={ s with bits:=s.bits+1,inner:=yl,fW:=((ms ||| 2 ^ s.bits:Nat):Int),jO:=((mc+1:Nat):Int) }:=by unfold mn;simp only[abd,es,RS,ec];exact if_pos rfl
  rw[e];refine⟨⟨⟨yl,rfl,lin⟩,⟨_,rfl,Px ls⟩,⟨_,rfl,Ž⟩,λn =>?_,tx,I.VS,I.OL,by dsimp only;lia,by dsimp only;lia,I.WL,I.WJ,by dsimp only;lia,I.led,λl hl=>du (I.XY l hl)⟩,⟨?_,λn =>?_,λt =>.refl _,λx h=>h⟩,⟨λz=>ub z,λn a =>?_⟩,rfl,rfl⟩
  .let⟨m,em,lm⟩:=I.Ua n;exact⟨m,em,sm lm⟩
  .show Sb s.inner.toNat _;rw[ei];exact bin
  .show Sb (s.fW.toNat ||| _) (_ ||| _);rw[es];exact((Sb.inl ms _).trans (.inl _ _)).or (.inr _ _)
  .show (((ms ||| 2 ^ s.bits:Nat):Int).toNat ||| _).testBit _=Z';rw[cI,rL,Ka];rfl
 |some n0=>
  let nz:bx (Y n0)≠ab "*" :=λz=>hn Ÿ
  let⟨m0,em0,lm0⟩:=I.Ua n0;have:i=(m0:Int):=by
   let hi:(bM s.nk s.nv (bw n0)).getD (.int 0)=.int i:=hi
   simp_all
  subst this;have e:mn s (dR b) (bx (Y n0)) m0={ s with bits:=s.bits+1,inner:=yl,nk:=(kg (bw n0) (.int ((m0 ||| 2 ^ s.bits:Nat):Int)) s.nk s.nv).1,nv:=(kg (bw n0) (.int ((m0 ||| 2 ^ s.bits:Nat):Int)) s.nk s.nv).2 }:=by unfold mn;simp only[abd,RS];exact if_neg nz
  rw[e];have dl:=Rq (k:=bw n0) (d :=.int ((m0 ||| 2 ^ s.bits:Nat):Int)) I.VS;have lk:∀n,(bM (kg (bw n0) (.int ((m0 ||| 2 ^ s.bits:Nat):Int)) s.nk s.nv).1 (kg (bw n0) (.int ((m0 ||| 2 ^ s.bits:Nat):Int)) s.nk s.nv).2 (bw n)).getD (.int 0)=if n=n0 then .int ((m0 ||| 2 ^ s.bits:Nat):Int) else (bM s.nk s.nv (bw n)).getD (.int 0):=λn=>by
   rw[Nd I.VS]
   grind
  refine⟨⟨⟨yl,rfl,lin⟩,⟨ms,es,sm ls⟩,⟨mc,ec,Ž⟩,λn =>?_,tx,dl.1,I.OL,ŷ,by dsimp only;lia,I.WL,I.WJ,by dsimp only;lia,I.led,λl hl=>du (I.XY l hl)⟩,⟨?_,λn =>?_,λt =>.refl _,λx h=>h⟩,⟨λz=>ub z,λn z =>?_⟩,rfl,rfl⟩
  .let⟨m,em,lm⟩:=I.Ua n;rw[lk];split
   .exact⟨_,rfl,Px lm0⟩
   .exact⟨m,em,sm lm⟩
  .show Sb s.inner.toNat _;rw[ei];exact bin
  .show Sb (_ ||| vO _) (_ ||| vO _);refine(Sb.inl _ _).or (W4 ?_);rw[lk];split
   .rename_i z;subst z;rw[em0];exact .inl _ _
   exact Ÿ
  .show (_ ||| vO _).testBit _=Z';let z:n0=n:=z;rw[lk,if_pos z.symm,rL];show (_||(m0 ||| 2 ^ s.bits).testBit _)=Z';rw[Ka,Bool.or_true]
noncomputable def dY:Nat->Nat->List Int
 |_,0=>[]|n,k+1=>2 ^ n::dY (n+1) k
theorem xV:∀n k,(dY n k).length=k
 |_,0=>rfl|n,k+1=>by simp[dY,xV _ k]
def gY:Ss->Nat
 |.nil=>0|.cons _ _ _ r=>gY r+1
theorem xi:∀s,(dH s).length=gY s
 |.nil=>rfl|.cons _ _ _ r=>by rw[dH,aJ,xi r];rfl
def Oy(F:Fa):Ss->Nat->Prop
 |.nil,_=>True|.cons b a _ r,j=>DE F b a j/\Oy F r (j+1)
theorem Oy.up{F:Fa}(u:DD F G):∀(a:Ss) (j:Nat),Oy F a j->Oy G a j
 |.nil,_,_=>trivial|.cons b c _ r,j,h=>⟨h.1.up u,Oy.up u r _ h.2⟩
theorem Hb:∀(a:Ss) (s:FB) (c:Nat) (x:Option D),GI t c s L->EZ a->s.bits+gY a<=1000->∃f,vW [M,x] (gN 0) (cv "Facts" "enter_step" ao dg 1 Re) 1 ao (dH a) (c_ s)=Y ((dY s.bits (gY a)).map D.int,c_ f)/\GI t (c+gY a) f L/\DD (fa s L) (fa f L)/\Oy (fa f L) a s.bits/\f.bits=s.bits+gY a/\f.q=s.q
 |.nil,s,c,x,I,_,_=>⟨s,rfl,I,.refl _,trivial,rfl,rfl⟩| .cons b l w r,s,c,x,I,n,h=>by
  simp only[gY]at h;let⟨i,q,_⟩:=I.Ua _;let k:=B1 Ž I.Zv.2 (dR b) _ (bQ w) q;let⟨G,u,A,z,v⟩:=UD I b l n.1 q;generalize mn s _ _ i=d at *
  let⟨f,e,B,o,p,m,y⟩:=Hb r d (c+1) x G n.2.2 Ž;rw[z]at e p m;refine⟨f,?_,by grind [gY],u.trans o,⟨A.up o,p⟩,by simp only[gY];lia,y.trans v⟩;rw[dH,vW];let j:gN 0 _ ([M,x].set 1 _)=Y [Y (lp (dR b) (bx l) (bQ w)),oF s]:=rfl;let i:cv "Facts" "enter_step" ao dg 1 Re [Y (lp (dR b) (bx l) (bQ w)),oF s]=Y (.int (2 ^ s.bits),[Y (lp (dR b) (bx l) (bQ w)),oF d]):=by rw[kr (by decide) rfl rfl rfl k];rfl
  let g:tL ao 1 [Y (lp (dR b) (bx l) (bQ w)),oF d]=Y (c_ d):=by kernel_rfl
  rw[j];simp only[ah,i,g,e];rfl
def Hc{s:FB}(I:GI i c s L)(a:Ss)(n:EZ a)(h:s.bits+gY a<=1000):∃b,fh [c_ s,.lst (dH a)]=Y (.lst ((dY s.bits (gY a)).map D.int),c_ b)/\GI i (c+gY a) b L/\DD (fa s L) (fa b L)/\Oy (fa b L) a s.bits/\b.bits=s.bits+gY a/\b.q=s.q:=by
 let⟨b,e,r⟩:=Hb a s c _ I n h;refine⟨b,?_,r⟩;show (pd [oF s,Y _]).bind _=_;let g:rA (iL (eV 1)) [M,Y 0] (gN 0) (cv "Facts" "enter_step" ao dg 1 Re) 1 0 ao [oF s,Y (.lst (dH a))]=Y (.lst ((dY s.bits (gY a)).map D.int),[oF b,Y (.lst (dH a))]):=by
  unfold rA;let f:iL (eV 1) [oF s,Y (.lst (dH a))]=Y _:=rfl;let d:tL ao 0 [oF s,Y (.lst (dH a))]=Y (c_ s):=by kernel_rfl
  let c:iU [M,Y 0] (gf 0 [oF s,Y (.lst (dH a))])=[M,Y _]:=rfl;rw[f];simp only[ah];rw[if_pos (cx (jJ (by grind [xi]))),d];simp only[ah];rw[c,e];rfl
 unfold pd eZ;rw[g];exact ź
def Dv{d:D}{a:List iT}{b:List D}(m:a.length=b.length)(h:bM a b k=M):kg k d a b=(a++[k],b++[d])/\bM (a++[k]) (b++[d]) k=Y d:=by
 have c:=by unfold bM at h;simp only[Option.map_eq_none_iff,List.find?_eq_none,decide_eq_true_eq]at h;exact h
 let n:¬(a.any λq=>decide (q=k))=true:=by intro f;simp only[oz,decide_eq_true_eq]at f;let⟨q,j,rfl⟩:=f;let⟨i,o,e⟩:=List.getElem_of_mem j;exact c (q,b[i]' Ž) (by rw[<- e];exact pC.mpr ⟨i,by simp;lia,ż⟩) rfl
 refine⟨by unfold kg;rw[if_neg n],?_⟩;unfold bM;rw[List.zip_append m,List.find?_append];have:(a.zip b).find? (λg=>decide (g.1=k))=none:=by grind
 rw[this];simp
def A2{s:FB}{t:aH}(hb:s.bits<=999)(hl:s.tk.length<=s.bits)(hkv:s.tk.length=s.tv.length)(h:bM s.tk s.tv (bw t)=M):
  cO [c_ s,.str t]=Y (.int (2 ^ s.bits),c_ { s with bits:=s.bits+1,tk:=s.tk++[bw t],tv:=s.tv++[.int (2 ^ s.bits)] }):=by
 show (eY [oF s,Y (.str t)]).bind (D8 ao)=_;unfold eY;let⟨hp,hlk⟩:=Dv (d :=.int (2 ^ s.bits)) hkv h;let e1:SS [0] [] Ps [oF s,Y (.str t)]=Y true:=by
  refine OK (ρ':=[Y (c_ s),Y (.str t)]) rfl ?_;have:cz Â [Y (c_ s),Y (.str t)]=Y (!(bM s.tk s.tv (bw t)).isSome):=rfl
  simp_all
 let e2:qu 0 "Facts" "by_text" (eV 1) (cv "Facts" "new_bit" ao bN 0 mE) [oF s,Y (.str t)]=Y (.nx [oF { s with bits:=s.bits+1,tk:=s.tk++[bw t],tv:=s.tv++[.int (2 ^ s.bits)] },Y (.str t)]):=by
  let m1:cv "Facts" "new_bit" ao bN 0 mE [oF s,Y (.str t)]=Y (.int (2 ^ s.bits),[oF { s with bits:=s.bits+1 },Y (.str t)]):=by rw[kr (by decide) rfl rfl rfl (Au s hb)];rfl
  unfold qu;rw[m1];simp only[ah];let e3:zy "Facts" "by_text" 0 [oF { s with bits:=s.bits+1 },Y (.str t)]=Y (nN,fbk,[.lst s.q,.int ((s.bits+1:Nat):Int),.fS s.nk s.nv,.fS s.tk s.tv,.int s.fW,.int s.jO,.int s.inner,.lst s.bJ],.fS s.tk s.tv):=by kernel_rfl
  rw[e3];simp only[ah];show (if _/\s.tk.length<cY then _ else M)=_;rw[if_pos ⟨by decide,jJ (by lia)⟩];rw[hp]
  exact Ÿ
 let e4:gq (SS [0] [] (cz (L2.e2 wS (eV 1) (eT "Facts" "by_text" (eV 0))))) FM cN [oF s,Y (.str t)]=Y (.nx [oF { s with bits:=s.bits+1,tk:=s.tk++[bw t],tv:=s.tv++[.int (2 ^ s.bits)] },Y (.str t)]):=by simp_all [gq]
 rw[az e4];let e5:Ds [0] [] (L2.e2 K3 (eT "Facts" "by_text" (eV 0)) (eV 1)) [oF { s with bits:=s.bits+1,tk:=s.tk++[bw t],tv:=s.tv++[.int (2 ^ s.bits)] },Y (.str t)]=Y (.int (2 ^ s.bits)):=by refine Ci (ρ':=[Y (c_ { s with bits:=s.bits+1,tk:=s.tk++[bw t],tv:=s.tv++[.int (2 ^ s.bits)] }),Y (.str t)]) rfl ?_ rfl;exact hlk
 unfold eZ mP;rw[e5]
 exact Ÿ
def A1{s:FB}(h:bM s.tk s.tv (bw t)=Y (.int i)):cO [c_ s,.str t]=Y (.int i,c_ s):=by
 show (eY [oF s,Y _]).bind _=_;unfold eY;let c:SS [0] [] Ps [oF s,Y (.str t)]=Y false:=by
  refine OK (ρ':=[Y _,Y _]) rfl ?_;have:cz Â [Y (c_ s),Y (.str t)]=Y _:=rfl
  simp_all
 let b:∀g,gq (SS [0] [] (cz (L2.e2 wS (eV 1) (eT "Facts" "by_text" (eV 0))))) g cN [oF s,Y (.str t)]=Y (.nx [oF s,Y (.str t)]):=by intro g;unfold gq;rw[c];rfl
 rw[az (b _)];unfold eZ mP;rw[(Ci rfl h rfl)];exact ź
def UC{f:List aH}{s:FB}(I:GI f c s L)(v:t∈f)(h:bM s.tk s.tv (bw t)=M):GI f c { s with bits:=s.bits+1,tk:=s.tk++[bw t],tv:=s.tv++[.int (2 ^ s.bits)] } L/\DD (fa s L) (fa { s with bits:=s.bits+1,tk:=s.tk++[bw t],tv:=s.tv++[.int (2 ^ s.bits)] } L):=by
 let⟨p,C,u⟩:=I.yl;let⟨o,A,q⟩:=I.str;let F:=I.Zv;let E:=I.Zl;let D:=I.bts;let i:=(sr I.OL).mp h;refine⟨⟨⟨p,C,sm u⟩,⟨o,A,sm q⟩,I.Zq,λn =>?_,λe =>?_,I.VS,by simp[I.OL],by dsimp only;lia,by simp;lia,?_,?_,by simp;lia,I.led,λl w=>du (I.XY l w)⟩,.refl _,λn =>.refl _,λe =>?_,λx h=>h⟩
 .let⟨m,B,r⟩:=I.Ua n;exact⟨m,B,sm r⟩
 .dsimp only;rw[vU I.OL];rcases I.txt e with a|⟨j,a,l⟩
  .rw[a];dsimp only;split
   .exact .inr ⟨_,rfl,gK _⟩
   .exact .inl rfl
  .rw[a];exact .inr ⟨j,rfl,du l⟩
 .rw[gm];exact⟨I.WL,ż,λa y b g z=>by simp at g;subst g;exact i (z ▸ y)⟩
 .intro k d;rcases aA.mp d with d|d
  .exact I.WJ k d
  .simp at d;exact⟨t,v,d⟩
 .show Sb (vO _) (vO ((bM (s.tk++[bw t]) (s.tv++[.int (2 ^ s.bits)]) (bw e)).getD _));rw[vU I.OL];cases bM s.tk s.tv (bw e) with
  |none=>exact .zero _|some x=>exact .refl _
def Ac(j:Nat):vO (.int (2 ^ j))=2 ^ j:=by solve_by_elim
def SQ{c:Nat}{s:FB}(I:GI b c s L)(u:s.bits<=999)(t:aH)(e:t∈b):∃j f,cO [c_ s,.str t]=Y (.int (2 ^ j),c_ f)/\GI b c f L/\DD (fa s L) (fa f L)/\((fa f L).text t).testBit j=Z'/\s.bits<=f.bits/\f.bits<=s.bits+1/\f.q=s.q:=by
 rcases I.txt t with a|⟨j,a,_⟩
 .let⟨G,d⟩:=UC I e a;refine⟨_,_,A2 u I.Zl I.OL a,G,d,?_,ml _,av _,rfl⟩;show (vO _).testBit _=Z';rw[(Dv I.OL a).2,om,Ac,tZ]
 .refine⟨j,s,A1 a,I,.refl _,?_,av _,ml _,rfl⟩;show (vO _).testBit _=Z';rw[a,om,Ac,tZ]
noncomputable abbrev qa(a:Int)(b:List D):D :=.tup [.int a,.lst b]
def eI:As->Nat
 |.nil=>0|.cons _ r=>eI r+1
theorem RU:∀s,(l6 s).length=eI s
 |.nil=>rfl|.cons _ r=>by rw[l6,aJ,RU r];rfl
def uT:Nat->Nat->Int->List Int
 |_,0,_=>[]|_,1,e=>[e]|n,k+2,e=>2 ^ (n+1)::uT (n+1) (k+1) e
theorem JR:∀(k n:Nat) (e:Int),dY (n+1) k++[e]=uT n (k+1) e
 |0,n,e=>rfl|k+1,n,e=>by rw[dY,uT,cT,JR k _ e]
def js:As->Nat->Nat->List (Nat×Ak)
 |.nil,_,_=>[]|.cons (.mk n c) .nil,j,e=>[(j,.mk (n ||| e) c)]
 |.cons (.mk n c) (.cons x r),j,e=>(j,.mk (n ||| 2 ^ (j+1)) c)::js (.cons x r) (j+1) e
theorem Gi:∀(k:As) (j e:Nat),(js k j e).length=eI k
 |.nil,_,_=>rfl|.cons (.mk _ _) .nil,_,_=>rfl|.cons (.mk _ _) (.cons x r),j,e=>by rw[js,aJ,Gi (.cons x r)];rfl
def GB{y1 y2 y4:List D}{y3:Int}{s:FB}{n f j:Nat}{c:Cs}(h:s.bJ.length<cY):cf [oF s,Y (.lst y1),Y (.lst y2),Y (.int y3),Y (.lst y4),Y (xX (.mk n c)),Y (.int (2 ^ j)),Y (.int (f:Int))]=Y (.nx [oF { s with bJ:=s.bJ++[ldK (j,.mk (n ||| f) c)] },Y (.lst y1),Y (.lst y2),Y (.int y3),Y (.lst y4),Y (xX (.mk n c)),Y (.int (2 ^ j)),Y (.int (f:Int))]):=by
 let q:∀(b a g:Int) (d:List D),cf _=Y (.nx [oF { s with bJ:=s.bJ++[.tup [.int b,qa (bO a g) d]] },Y (.lst y1),Y (.lst y2),Y (.int y3),Y (.lst y4),Y (qa a d),Y (.int b),Y (.int g)]):=λb a g d=>by
  unfold cf KG;let u:zy "Facts" "leads" 0 [oF s,Y (.lst y1),Y (.lst y2),Y (.int y3),Y (.lst y4),Y (qa a d),Y (.int b),Y (.int g)]=Y (nN,fbk,[.lst s.q,.int s.bits,.fS s.nk s.nv,.fS s.tk s.tv,.int s.fW,.int s.jO,.int s.inner,.lst s.bJ],.lst s.bJ):=by kernel_rfl
  let v:cW ã [oF s,Y (.lst y1),Y (.lst y2),Y (.int y3),Y (.lst y4),Y (qa a d),Y (.int b),Y (.int g)]=Y (.tup [.int b,qa (bO a g) d]):=by kernel_rfl
  rw[u];rw[v];simp only[ah];rw[if_pos ⟨by decide,by lia⟩];exact ź
 let e:ldK (j,.mk (n ||| f) c)=.tup [.int (2 ^ j),qa (bO n f) (xQ c)]:=by rw[u0];rfl
 rw[e]
 exact Ÿ
theorem GC{y1 y2 y4:List D}{y3:Int}:∀(f:As) (j e:Nat) (s:FB) (a b c:Option D),s.bJ.length+eI f<cY->∃o n m,
  dz Ì cf (hZ (l6 f) ((dY j (eI f)).map D.int) ((uT j (eI f) (e:Int)).map D.int)) [oF s,Y (.lst y1),Y (.lst y2),Y (.int y3),Y (.lst y4),a,b,c]=Y (.nx [oF { s with bJ:=s.bJ++(js f j e).map ldK },Y (.lst y1),Y (.lst y2),Y (.int y3),Y (.lst y4),o,n,m])
 |.nil,j,e,s,a,b,c,_=>⟨a,b,c,by simp[l6,hZ,dz,js]⟩
 | .cons (.mk n c) .nil,j,e,s,a,b,d,h=>by
  simp only[eI]at h;refine⟨Y (xX (.mk n c)),Y (.int (2 ^ j)),Y (.int (e:Int)),?_⟩;show dz Ì cf (hZ [xX (.mk n c)] [.int (2 ^ j)] [.int (e:Int)]) _=_;rw[hZ,dF rfl (GB (by lia))]
  exact Ÿ
 | .cons (.mk n c) (.cons x r),j,e,s,a,b,d,h=>by
  simp only[eI]at h;let t:=GB (y1:=y1) (y2:=y2) (y3:=y3) (y4:=y4) (s:=s) (n:=n) (f:=2 ^ (j+1)) (j:=j) (c:=c) Ž;let⟨o,p,m,q⟩:=GC (y1:=y1) (y2:=y2) (y3:=y3) (y4:=y4) (.cons x r) (j+1) e { s with bJ:=s.bJ++[ldK _] } (Y (xX (.mk n c))) (Y (.int (2 ^ j))) _ (by simp only[eI,aI,jY];lia);refine⟨o,p,m,?_⟩;let g:hZ (l6 (.cons (.mk n c) (.cons x r))) ((dY j (eI (.cons (.mk n c) (.cons x r)))).map D.int) ((uT j (eI (.cons (.mk n c) (.cons x r))) (e:Int)).map D.int)=.tup [xX (.mk n c),.int (2 ^ j),.int ((2 ^ (j+1):Nat):Int)]::hZ (l6 (.cons x r)) ((dY (j+1) (eI (.cons x r))).map D.int) ((uT (j+1) (eI (.cons x r)) (e:Int)).map D.int):=by solve_by_elim
  rw[g,dF rfl t,q];simp only[js,a9,bD,Wz]
def Uk{s:FB}{ks:As}{j e:Nat}(hn:ks ≠ .nil)(hl:s.bJ.length+eI ks<2000):eG [c_ s,.lst (l6 ks),.lst ((dY j (eI ks)).map D.int),.int (e:Int)]=Y (.dr,c_ { s with bJ:=s.bJ++(js ks j e).map ldK }):=by
 obtain⟨k,hk⟩:∃k,eI ks=k+1:=by
  cases ks with|nil=>simp_all|cons x r=>exact⟨_,rfl⟩
 show (kA [oF s,Y _,Y _,Y _,M,M,M,M]).bind _=_;unfold kA;let q0:d8 4 Û [oF s,Y (.lst (l6 ks)),Y (.lst ((dY j (eI ks)).map D.int)),Y (.int e),M,M,M,M]=Y (.nx [oF s,Y (.lst (l6 ks)),Y (.lst ((dY j (eI ks)).map D.int)),Y (.int e),Y (.lst ((uT j (eI ks) e).map D.int)),M,M,M]):=by
  let e1:e2 c6 At (eF (eO Sc)) [oF s,Y (.lst (l6 ks)),Y (.lst ((dY j (eI ks)).map D.int)),Y _,M,M,M,M]=c6 (.lst _) (.lst [.int e]):=rfl;let e2:B_ ((dY j (eI ks)).map D.int) (Y 1) M=(dY (j+1) k).map D.int:=by rw[hk,Bc _ (by decide)];rfl
  rw[e2]at e1;let e3:c6 (.lst ((dY (j+1) k).map D.int)) (.lst [.int e])=Y (.lst ((uT j (eI ks) e).map D.int)):=by simp only[c6];rw[if_pos (cx (jJ (by rw[aG,jY,xV];lia))),hk,<- JR];simp
  rw[dD (e1.trans e3)];rfl
 rw[az q0];let⟨b5,b6,b7,q⟩:=GC ks j e s M M M (jJ hl);let q2:gW Æ Ì cf [oF s,Y (.lst (l6 ks)),Y (.lst ((dY j (eI ks)).map D.int)),Y (.int e),Y (.lst ((uT j (eI ks) e).map D.int)),M,M,M]=dz _ cf _ _:=rfl;rw[q2,q]
 exact Ÿ
def ned:Ak->Nat|.mk n _=>n
noncomputable def Ox:Ak->Cs|.mk _ c=>c
def XJ(n:Nat)(c:Cs):ned (.mk n c)=n:=rfl
def qL(n:Nat)(c:Cs):Ox (.mk n c)=c:=rfl
theorem J7:∀a b:Cs,xQ (a.app b)=xQ a++xQ b
 |.nil,b=>rfl|.cons c r,b=>by rw[Cs.app,xQ,J7 r b];rfl
def tG(n:Nat)(c:Cs)(r:As):iu (.cons (.mk n c) r)=.mk (n ||| ned (iu r)) (c.app (Ox (iu r))):=by
 rw[iu];rcases iu r with⟨m,d⟩;rfl
theorem C6:∀(f:As) (n:Nat) (d:List D) (g:Option D),d.length+(xQ (Ox (iu f))).length<cY->∃i,
  dz (gN 3) gC (l6 f) [Y (.lst a),Y (.int (n:Int)),Y (.lst d),g]=Y (.nx [Y (.lst a),Y (.int ((n ||| ned (iu f):Nat):Int)),Y (.lst (d++xQ (Ox (iu f)))),i])
 |.nil,n,d,g,_=>⟨g,by simp[l6,dz,iu,ned,Ox,xQ]⟩
 | .cons (.mk b c) f,n,d,g,k=>by
  rw[tG]at k ⊢;simp only[XJ,qL,J7,aI]at k ⊢;let l:gC [Y (.lst a),Y (.int n),Y (.lst d),Y (xX (.mk b c))]=Y (.nx [Y (.lst a),Y (.int (n ||| b:Nat)),Y (.lst (d++xQ c)),Y (xX (.mk b c))]):=by
   have:∀(n b:Int) (c:List D),d.length+c.length<=cY->gC _=Y (.nx [Y (.lst a),Y (.int (bO n b)),Y (.lst (d++c)),Y (qa b c)]):=λn b c k=>by
    unfold gC;let m:KE 1 g_ (e2 bF (eV 3) f8) [Y (.lst a),Y (.int n),Y (.lst d),Y (qa b c)]=Y (.nx [Y (.lst a),Y (.int (bO n b)),Y (.lst d),Y (qa b c)]):=by kernel_rfl
    rw[az m];show (if d.length+c.length<=cY then _ else M)=_
    simp_all
   rw[<- u0];exact this _ _ _ Ž
  rw[l6,dF rfl l];let⟨i,q⟩:=C6 f _ (d++xQ c) _ ŷ;refine⟨i,q.trans ?_⟩;rw[Nat.or_assoc,bD]
def QG(f:(xQ (Ox (iu a))).length<cY):iH [.lst (l6 a)]=Y (xX (iu a)):=by
 show (lM [Y _,M,M,M]).bind _=_;unfold lM;rw[az (dD rfl)];simp;let d:jQ 2 Å [Y _,Y _,M,M]=Y (.nx [Y (.lst (l6 a)),Y (.int 0),Y _,M]):=rfl;rw[az d];let⟨g,q⟩:=C6 a 0 [] _ Ż;let c:gW (iL (eV 0)) _ _ [Y (.lst (l6 a)),Y (.int 0),Y (.lst []),M]=dz (gN 3) gC _ _:=rfl;rw[az (c.trans q)];rcases iu a with⟨n,k⟩;simp;rfl
mutual
def gH:Wi->Nat
 |.any=>1|.txt _=>1|.has s=>1+k9 s|.both w=>1+mf w|.one w=>1+mf w
def mf:Ws->Nat
 |.nil=>0|.cons w r=>gH w+mf r
def k9:Ss->Nat
 |.nil=>0|.cons _ _ w r=>1+gH w+k9 r
end
mutual
def BA:Wi->Nat
 |.any=>0|.txt _=>0|.has s=>vw s|.both w=>Co w|.one w=>Co w
def Co:Ws->Nat
 |.nil=>0|.cons w r=>BA w+Co r
def vw:Ss->Nat
 |.nil=>0|.cons _ _ w r=>1+BA w+vw r
end
mutual
def ZK(T:aH->Prop):Wi->Prop
 |.any=>True|.txt t=>T t|.has s=>s ≠ .nil/\R3 T s|.both w=>Wq T w|.one w=>Wq T w
def Wq(T:aH->Prop):Ws->Prop
 |.nil=>True|.cons w r=>ZK T w/\Wq T r
def R3(T:aH->Prop):Ss->Prop
 |.nil=>True|.cons _ _ w r=>ZK T w/\R3 T r
end
def NR(k:Ak):Nat:=(xQ (Ox k)).length
def U_:As->Nat
 |.nil=>0|.cons x r=>NR x+U_ r
theorem EK:∀k:As,NR (iu k)=U_ k
 |.nil=>rfl|.cons (.mk n c) r=>by rw[tG,NR,qL,J7,aI,U_,<- EK r];rfl
mutual
def dk:Ak->Nat
 |.mk _ a=>1+LZ a
def LZ:Cs->Nat
 |.nil=>0|.cons c r=>max (HU c) (LZ r)
def HU:As->Nat
 |.nil=>0|.cons x r=>max (dk x) (HU r)
end
mutual
def Y2:Ak->Prop
 |.mk _ a=>(xQ a).length<=1000/\Oz a
def Oz:Cs->Prop
 |.nil=>True|.cons c r=>((l6 c).length<=1000/\Vn c)/\Oz r
def Vn:As->Prop
 |.nil=>True|.cons x r=>Y2 x/\Vn r
end
theorem Rw:∀a b:Cs,LZ (a.app b)=max (LZ a) (LZ b)
 |.nil,b=>by solve_by_elim
 |.cons c r,b=>by simp only[Cs.app,LZ,Rw r b];lia
theorem Qm:∀a b:Cs,Oz (a.app b)↔Oz a/\Oz b
 |.nil,b=>by simp[Cs.app,Oz]
 |.cons c r,b=>by simp only[Cs.app,Oz,Qm r b,and_assoc]
theorem LY:∀k:As,LZ (Ox (iu k))+1<=HU k\/LZ (Ox (iu k))=0
 |.nil =>.inr rfl| .cons (.mk n c) r=>by
  rw[tG,qL,Rw];simp only[HU,dk];have:=LY r
  lia
theorem Lb:∀k:As,Vn k->Oz (Ox (iu k))
 |.nil,_=>trivial|.cons (.mk n c) r,h=>by rw[tG,qL,Qm];exact⟨h.1.2,Lb r h.2⟩
mutual
theorem RT{F:Fa}:∀(w:Wi) (k:Ak),wz F w k->gH w<=900->dk k<=h_ w/\Y2 k/\NR k<=gH w
 |.any,k,h,b=>by subst h;simp[dk,LZ,h_,Y2,Oz,xQ,NR,qL]
 |.txt t,k,⟨j,e,_⟩,b=>by subst e;simp[dk,LZ,h_,Y2,Oz,xQ,NR,qL]
 |.has s,k,⟨j,e,_⟩,b=>by subst e;simp[dk,LZ,h_,Y2,Oz,xQ,NR,qL]
 |.one w,k,⟨a,h,e⟩,b=>by subst e;simp only[gH]at b;let⟨x,y,_⟩:=EV w a h Ž;refine⟨by simp_all [dk,LZ,h_],⟨by simp[xQ],⟨⟨by grind [RU],y⟩,trivial⟩⟩,by simp[NR,qL,xQ,gH]⟩
 |.both w,k,⟨a,h,e⟩,b=>by subst e;simp only[gH]at b;let⟨x,y,z,u⟩:=EV w a h Ž;let c:=EK a;let d:=LY a;let l:=Lb a y;rcases e:iu a with⟨n,f⟩;rw[e]at c d l;simp only[NR,qL]at c d l ⊢;refine⟨by grind [dk,h_],⟨Ž,l⟩,by grind [gH]⟩
theorem EV{F:Fa}:∀(w:Ws) (k:As),qk F w k->mf w<=900->HU k<=uo w/\Vn k/\U_ k<=mf w/\eI k<=mf w
 |.nil,k,h,b=>by subst h;simp[HU,Vn,U_,eI]
 | .cons w r,k,⟨x,y,h,g,e⟩,b=>by
  subst e;simp only[mf]at b;have p:1<=gH w:=by cases w<;>simp[gH]<;>lia
  let⟨l,c,j⟩:=RT w x h Ž;let⟨i,a,f,d⟩:=EV r y g Ž;refine⟨by grind [HU,uo],⟨c,a⟩,by grind [U_,mf],by grind [eI,mf]⟩
end
def ae6(k:Ak):Prop:=dk k<=12/\Y2 k
def yr(L:List (Nat×Ak)):Prop:=∀l∈L,ae6 l.2
theorem Eg:∀(k:As) (j e:Nat),HU k<=12->Vn k->yr (js k j e)
 |.nil,j,e,_,_=>λl h=>by simp[js]at h
 |.cons (.mk n c) .nil,j,e,d,h=>λl a=>by simp only[js,bI]at a;subst a;simp only[HU,dk]at d;exact⟨by simp_all [dk],h.1⟩
 | .cons (.mk n c) (.cons x r),j,e,d,h=>λl a=>by
  simp only[HU,dk]at d;rcases aq.mp a with rfl|a
  .exact⟨by grind [dk],h.1⟩
  .exact Eg _ _ e (by grind [HU]) h.2 l a
def DH(F:Fa):Ss->As->Prop
 |.nil,k=>k=.nil|.cons _ _ w r,k=>∃x y,wz F w x/\DH F r y/\k=.cons x y
theorem DH.up{F:Fa}(u:DD F G):∀(s:Ss) (k:As),DH F s k->DH G s k
 |.nil,k,h=>h|.cons b d w r,k,⟨x,y,a,c,e⟩=>⟨x,y,wz.up u w x a,DH.up u r y c,e⟩
theorem DH.ln{F:Fa}:∀(s:Ss) (k:As),DH F s k->k9 s<=900->HU k+1<=mU s/\Vn k
 |.nil,k,h,_=>by let h:k=.nil:=h;simp_all [HU,Vn,mU]
 |.cons b g w r,k,⟨x,y,a,c,e⟩,z=>by subst e;simp only[k9]at z;let⟨l,f,j⟩:=RT w x a Ž;let⟨i,d⟩:=DH.ln r y c Ž;exact⟨by grind [HU,mU],f,d⟩
theorem DH.len{F:Fa}:∀(s:Ss) (k:As),DH F s k->eI k=gY s
 |.nil,k,h=>by subst h;rfl
 |.cons b d w r,k,⟨x,y,a,c,e⟩=>by subst e;rw[eI,gY,DH.len r y c]
theorem w8{F:Fa}:∀(a:Ss) (d:As) (j:Nat),a ≠ .nil->DH F a d->Oy F a j->(∀l∈js d j e,l∈F.bJ)->nT F e a j
 |.nil,d,j,h,_,_,_=>absurd rfl h|.cons b p w .nil,d,j,_,⟨⟨n,c⟩,y,m,f,q⟩,g,i=>by subst f;subst q;exact⟨n,c,e,m,g.1,i _ (by simp[js]),Ż⟩
 |.cons b p w (.cons t o s r),d,j,_,⟨⟨n,c⟩,y,m,f,q⟩,g,i=>by subst q;let k:=f;let⟨x,z,_,_,q⟩:=f;subst q;exact⟨n,c,_,m,g.1,i _ (by simp[js]),.inr ⟨w8 _ _ _ ż k g.2 λl h=>i l (aB _ h),rfl⟩⟩
structure Go(TL:List aH)(c st sz:Nat)(s:FB)(L:List (Nat×Ak))(s':FB)(L':List (Nat×Ak)):Prop where
 gi:GI TL (c+st) s' L'
 q:s'.q=s.q
 up:DD (fa s L) (fa s' L')
 bl:s.bits<=s'.bits/\s'.bits<=s.bits+sz
 ll:L'.length<=L.length+sz
 lk:yr L->yr L'
def GI.mono{d:Nat}{s:FB}(I:GI a c s L)(h:c<=d):GI a d s L:=by
 let⟨m,e,l⟩:=I.Zq;have:=I.Zv;have:=I.bts;exact⟨I.yl,I.str,⟨m,e,Ž⟩,I.Ua,I.txt,I.VS,I.OL,Ž,I.Zl,I.WL,I.WJ,Ž,I.led,I.XY⟩
def Go.refl{s:FB}(I:GI a c s L):Go a c d b s L s L:=⟨I.mono Ž,rfl,.refl _,Ž,Ž,id⟩
def Go.trans{i:List aH}{f j a:Nat}{s d:FB}{l e:List (Nat×Ak)}(h:Go i c f j s L k l)(g:Go i (c+f) b a k l d e):Go i c (f+b) (j+a) s L d e:=by
 have:=h.bl;have:=g.bl;have:=h.ll;have:=g.ll;exact⟨by rw[<- BH];exact g.gi,g.q.trans h.q,h.up.trans g.up,Ž,Ž,λz=>g.lk (h.lk z)⟩
def Go.le{f:Nat}{s:FB}(h:Go j c g f s L i k)(a:g<=e)(b:f<=d):Go j c e d s L i k:=by
 have:=h.bl;have:=h.ll;exact⟨h.gi.mono Ž,h.q,h.up,Ž,Ž,h.lk⟩
theorem Ef:∀(k:As) (j e:Nat),∀l∈js k j e,l.1<j+eI k
 |.nil,j,e,l,h=>by simp[js]at h
 |.cons (.mk n c) .nil,j,e,l,h=>by simp_all [js,bI,eI]
 | .cons (.mk n c) (.cons x r),j,e,l,h=>by
  simp only[eI];rcases aq.mp h with rfl|h
  .simp_all
  .have:=Ef _ _ e l h;grind [eI]
def LG{s:FB}{N:List (Nat×Ak)}(I:GI a c s L)(h:∀l∈N,l.1<s.bits):GI a c { s with bJ:=s.bJ++N.map ldK } (L++N)/\DD (fa s L) (fa { s with bJ:=s.bJ++N.map ldK } (L++N)):=
 ⟨⟨I.yl,I.str,I.Zq,I.Ua,I.txt,I.VS,I.OL,I.Zv,I.Zl,I.WL,I.WJ,I.bts,by rw[I.led,gx],λl b=>(aA.mp b).elim (I.XY l) (h l)⟩,.refl _,λn =>.refl _,λt =>.refl _,λx h=>aW _ h⟩
def ifB{b:Bool}(h:t a=Y b):gq t g cN a=if b=Z' then g a else Y (.nx a):=by
 unfold gq;rw[h]
 exact Ÿ
def KD(e:g b=Y (.rm d a)):ba g h b=Y (.rm d a):=by unfold ba;rw[e];rfl
def kq'{s:FB}(h:fF (kS x) (kS k)=Y (.bl b)):cz (e2 fF (e2 bF (eV 1) f8) (eK (kS k))) [oF s,Y (.tup (kS x::r)),y]=Y b:=by
 let e:e2 bF (eV 1) f8 [oF s,Y (.tup (kS x::r)),y]=Y (kS x):=by exact d6 rfl
 let c:e2 fF (e2 bF (eV 1) f8) (eK (kS k)) [oF s,Y (.tup (kS x::r)),y]=fF (kS x) (kS k):=by show (e2 bF _ _ _).bind _=_;rw[e];rfl
 unfold cz;rw[c,h];rfl
def D7{s:FB}:(Y (DO.rm d [oF s,x,y])).bind (D8 ao)=Y (d,c_ s):=by kernel_rfl
def N3{F:List D->Option (D×D)}{s:FB}:qv 2 3 ao (cL F a) [c_ s,.tup [kS "any"]]=Y (qa 0 [],c_ s):=by
 exact Ÿ
abbrev Ò:=cz (e2 fF (e2 bF (eV 1) f8) (eK (kS "text")))
abbrev Ö:=cz (e2 fF (e2 bF (eV 1) f8) (eK (kS "any")))
def Kd{F:List D->Option (D×D)}{s:FB}(h:cO [c_ s,.str t]=Y (.int i,c_ a)):qv 2 3 ao (cL F c) [c_ s,.tup [kS "text",.str t]]=Y (qa i [],c_ a):=by
 show (cL F c [oF s,Y (.tup [kS "text",.str t]),M]).bind (D8 ao)=_;unfold cL;let d:∀g,gq Ö g cN [oF s,Y (.tup [kS "text",.str t]),M]=Y (.nx [oF s,Y (.tup [kS "text",.str t]),M]):=λg=>by solve_by_elim
 rw[az (d _)];let m:cv "Facts" "enter_text" ao cO 0 bm [oF s,Y (.tup [kS "text",.str t]),M]=Y (.int i,[oF a,Y (.tup [kS "text",.str t]),M]):=by rw[kr (ρ1:=[oF s,Y (.tup [kS "text",.str t]),M]) (args:=[.str t]) (by decide) rfl rfl rfl h];rfl
 let q:gq Ò (eZ (sj (jd (cv "Facts" "enter_text" ao cO 0 bm) ä))) cN [oF s,Y (.tup [kS "text",.str t]),M]=Y (.rm (qa i []) [oF a,Y (.tup [kS "text",.str t]),M]):=by rw[ifB (b:=Z') (kq' (by kernel_rfl)),if_pos rfl];unfold eZ sj;rw[show ∀f g b,jd f g b=(f b).bind λp=>(g p.2).bind λq=>Y (p.1::q.1,q.2) from λe e e=>rfl,m];rfl
 rw[KD q,D7]
def N0{F:List D->Option (D×D)}{s:FB}(h:a [c_ s,.lst x]=Y (.int i,c_ b)):qv 2 3 ao (cL F a) [c_ s,.tup [kS "has",.lst x]]=Y (qa i [],c_ b):=by
 show (cL F a [oF s,Y (.tup [kS "has",.lst x]),M]).bind (D8 ao)=_;unfold cL;have e:∀g,gq Ö g cN [oF s,Y (.tup [kS "has",.lst x]),M]=Y _:=λg=>by solve_by_elim
 let d:∀g,gq Ò g cN [oF s,Y (.tup [kS "has",.lst x]),M]=Y _:=λg=>by solve_by_elim
 rw[az (e _),az (d _)];let m:cv "Facts" "enter_has" ao a 0 bm [oF s,Y (.tup [kS "has",.lst x]),M]=Y (.int i,[oF b,Y (.tup [kS "has",.lst x]),M]):=by rw[kr (args:=[.lst x]) (by decide) rfl rfl rfl h];rfl
 let q:gq (cz (e2 fF (e2 bF (eV 1) f8) (eK (kS "has")))) (eZ (sj (jd (cv "Facts" "enter_has" ao a 0 bm) ä))) cN [oF s,Y (.tup [kS "has",.lst x]),M]=Y (.rm (qa i []) [oF b,Y (.tup [kS "has",.lst x]),M]):=by rw[ifB (b:=Z') (kq' (by kernel_rfl)),if_pos rfl];unfold eZ sj;rw[show ∀f g c,jd f g c=(f c).bind _ from λj j j=>rfl,m];rfl
 rw[KD q,D7]
def Hx{r x}{s:FB}{F:List D->Option (D×D)}(j:fF (kS k) (kS "any")=Y (.bl Z_))(i:fF (kS k) (kS "text")=Y (.bl Z_))(f:fF (kS k) (kS "has")=Y (.bl Z_))(m:rA (iL (e2 bF (eV 1) v6)) [M,Y 0] (gN 0) (cv "Facts" "asked" ao F 1 Re) 1 0 ao [oF s,Y (.tup [kS k,.lst x]),M]=Y (.lst (l6 c),[oF b,Y (.tup [kS k,.lst x]),M]))(e:(ba (gq kt (eZ (mP (cW (aC f8 (aC (eF (eO pc)) aN))))) cN) (eZ (mP (aO iH pc)))) [oF b,Y (.tup [kS k,.lst x]),Y (.lst (l6 c))]=Y (.rm r [oF b,Y (.tup [kS k,.lst x]),Y (.lst (l6 c))])):qv 2 3 ao (cL F a) [c_ s,.tup [kS k,.lst x]]=Y (r,c_ b):=by
 show (cL F a [oF s,Y _,M]).bind _=_;unfold cL;have d:∀(n:String) g,fF _ (kS n)=Y (.bl Z_)->gq _ g _ [oF s,Y (.tup [kS k,.lst x]),M]=Y _:=λn g h=>by rw[ifB (kq' h)];rfl
 rw[az (d _ _ j),az (d _ _ i),az (d _ _ f)];let q:iN 2 (rA (iL (e2 bF (eV 1) v6)) [M,Y 0] (gN 0) (cv "Facts" "asked" ao F 1 Re) 1 0 ao) [oF s,Y (.tup [kS k,.lst x]),M]=Y (.nx [oF b,Y (.tup [kS k,.lst x]),Y (.lst (l6 c))]):=by simp_all [iN]
 rw[az q,e,D7]
def NZ{x}{s:FB}{F:List D->Option (D×D)}(m:rA (iL (e2 bF (eV 1) v6)) [M,Y 0] (gN 0) (cv "Facts" "asked" ao F 1 Re) 1 0 ao [oF s,Y (.tup [kS "one",.lst x]),M]=Y (.lst (l6 c),[oF b,Y (.tup [kS "one",.lst x]),M])):qv 2 3 ao (cL F a) [c_ s,.tup [kS "one",.lst x]]=Y (xX (.mk 0 (.cons c .nil)),c_ b):=by
 refine Hx ź ź ź m ?_
 exact Ÿ
def Ke{x}{s:FB}{F:List D->Option (D×D)}(c:NR (iu d)<2000)(m:rA (iL (e2 bF (eV 1) v6)) [M,Y 0] (gN 0) (cv "Facts" "asked" ao F 1 Re) 1 0 ao [oF s,Y (.tup [kS "both",.lst x]),M]=Y (.lst (l6 d),[oF b,Y (.tup [kS "both",.lst x]),M])):qv 2 3 ao (cL F a) [c_ s,.tup [kS "both",.lst x]]=Y (xX (iu d),c_ b):=by
 refine Hx ź ź ź m ?_;rw[az (by solve_by_elim)];let e:aO iH pc [oF b,Y (.tup [kS "both",.lst x]),Y _]=Y _:=QG (jJ c)
 simp_all [eZ,mP]
def Eh{F:List D->Option (D×D)}{f:DL}{ρ:bP}{ds:List D}{s:FB}(k:f ρ=Y ds)(i:eV 0 ρ=oF s)(j:gf 0 ρ=ρ)(t:ds.length<=1000)(e:vW [M,oF s] (gN 0) (cv "Facts" "asked" ao F 1 g) 1 ao ds (c_ s)=Y (r,c_ c)):rA f [M,Y 0] (gN 0) (cv "Facts" "asked" ao F 1 g) 1 0 ao ρ=Y (.lst r,ρ.set 0 (oF c)):=by
 unfold rA;let q:tL ao 0 ρ=Y (c_ s):=by unfold tL DU;rw[i];exact ź
 let p:iU [M,Y 0] ρ=[M,oF s]:=by
  have:ρ[0]?.getD M=oF s:=by rw[gR i];rfl
  show [M,ρ[0]?.getD _]=_;rw[this]
 rw[k];simp only[ah];rw[if_pos (cx (jJ (by lia)))]
 simp_all
def Lg{F:List D->Option (D×D)}{s:FB}{v:D}(m:∀s,g [Y d,oF s]=Y ([v],[Y d,oF s]))(h:F [c_ s,v]=Y (a,c_ b))(k:vW [M,x] (gN 0) (cv "Facts" "asked" ao F 1 g) 1 ao e (c_ b)=Y (r,c_ c)):vW [M,x] (gN 0) (cv "Facts" "asked" ao F 1 g) 1 ao (d::e) (c_ s)=Y (a::r,c_ c):=by
 rw[vW];let w:gN 0 d ([M,x].set 1 _)=Y [Y d,oF s]:=rfl;let v:cv _ "asked" _ F 1 g _=Y _:=kr ſ rfl (m s) rfl h;let u:tL ao 1 ((gf 1 [Y d,oF s]).set 1 (oF b))=Y (c_ b):=by solve_by_elim
 simp_all
def Yj{F G:List D->Option (D×D)}{s b:FB}(o:a ≠ .nil)(k:eI d=gY a)(u:fh [c_ s,.lst (dH a)]=Y (.lst ((dY s.bits (gY a)).map D.int),c_ c))(i:vW [M,oF c] (gN 0) (cv "Facts" "asked" ao F 1 sw) 1 ao (dH a) (c_ c)=Y (l6 d,c_ b))(v:gY a<=1000)(h:b.bJ.length+eI d<2000):
  qv 2 3 ao (gD F G) [c_ s,.lst (dH a)]=Y (.int (2 ^ s.bits),c_ { b with bJ:=b.bJ++(js d s.bits 0).map ldK }):=by
 let n:d ≠ .nil:=by
  intro z;subst z;cases a with
  |nil=>exact o rfl|cons _ _ _ r=>simp[eI,gY]at k
 let l:=Uk (s:=b) (ks:=d) (j:=s.bits) (e:=0) n h;rw[k]at l;show (gD F G [oF s,Y (.lst (dH a)),M]).bind (D8 ao)=_;unfold gD;have q0:iN 2 (cv "Facts" "enter" ao fh 0 (jd (mP (eV 1)) mE)) [oF s,Y (.lst (dH a)),M]=Y (.nx [oF c,Y (.lst (dH a)),Y (.lst ((dY s.bits (gY a)).map D.int))]):=by unfold iN;rw[kr (ρ1:=[oF s,Y (.lst (dH a)),M]) (args:=[.lst (dH a)]) (by decide) rfl rfl rfl u];rfl
 rw[az q0];have t:=Eh (f:=iL (eV 1)) (ρ:=[oF c,Y (.lst (dH a)),Y (.lst ((dY s.bits (gY a)).map D.int))]) rfl rfl rfl (by simp_all [xi]) i;have e:jd (rA (iL (eV 1)) [M,Y 0] (gN 0) (cv "Facts" "asked" ao F 1 (jd (mP (L2.e2 bF (eV 0) na)) mE)) 1 0 ao) FS [oF c,Y (.lst (dH a)),Y (.lst ((dY s.bits (gY a)).map D.int))]=Y ([.lst (l6 d),.lst ((dY s.bits (gY a)).map D.int),.int 0],[oF b,Y (.lst (dH a)),Y (.lst ((dY s.bits (gY a)).map D.int))]):=by rw[show ∀f g j,jd f g j=(f j).bind λp=>(g p.2).bind λq=>Y (p.1::q.1,q.2) from λx x x=>rfl,t];rfl
 generalize w:(js d s.bits 0).map ldK=N at *
 have m:o9 (cv "Facts" "lead" ao eG 0 (jd (rA (iL (eV 1)) [M,Y 0] (gN 0) (cv "Facts" "asked" ao F 1 (jd (mP (L2.e2 bF (eV 0) na)) mE)) 1 0 ao) FS)) [oF c,Y (.lst (dH a)),Y (.lst ((dY s.bits (gY a)).map D.int))]=Y (.nx [oF { b with bJ:=b.bJ++N },Y (.lst (dH a)),Y (.lst ((dY s.bits (gY a)).map D.int))]):=by unfold o9;rw[kr (s:=c) (s1:=b) (by decide) rfl e rfl l];rfl
 rw[az m];let q2:L2.e2 bF (eV 2) f8 [oF { b with bJ:=b.bJ++N },Y (.lst (dH a)),Y (.lst ((dY s.bits (gY a)).map D.int))]=Y (.int (2 ^ s.bits)):=by
  show vk ((dY s.bits (gY a)).map D.int) ((0:Nat):Int)=_;cases a with
  |nil=>simp_all|cons _ _ _ r=>exact d6 (j:=0) rfl
 unfold eZ mP;rw[q2];exact D7
def WU:Ss->Nat
 |.nil=>0|.cons _ _ w r=>gH w+WU r
def tvS:Ss->Nat
 |.nil=>0|.cons _ _ w r=>BA w+tvS r
theorem Kv:∀s,k9 s=gY s+WU s
 |.nil=>rfl|.cons _ _ w r=>by rw[k9,gY,WU,Kv r];lia
theorem OT:∀s,vw s=gY s+tvS s
 |.nil=>rfl|.cons _ _ w r=>by rw[vw,gY,tvS,OT r];lia
theorem t6:∀w:Ws,(i4 w).length<=mf w
 |.nil=>by simp[i4]
 | .cons w r=>by
  have:=t6 r;have:1<=gH w:=by cases w<;>simp[gH]<;>lia
  grind [i4,mf,aJ]
def ab0(b:List aH)(m:Nat)(w:Wi):Prop:=∀c s L,GI b c s L->s.bits+gH w<=900->L.length+gH w<=900->∃k a d,cj m [c_ s,bQ w]=Y (xX k,c_ a)/\Go b c (BA w) (gH w) s L a d/\wz (fa a d) w k/\NR k<=gH w
def Y5(d:List aH)(m:Nat)(w:Ws):Prop:=∀c s L x,GI d c s L->s.bits+mf w<=900->L.length+mf w<=900->∃b a e,vW [M,x] (gN 0) (cv "Facts" "asked" ao (cj m) 1 Re) 1 ao (i4 w) (c_ s)=Y (l6 b,c_ a)/\Go d c (Co w) (mf w) s L a e/\qk (fa a e) w b/\U_ b<=mf w
def Mm(e:List aH)(m:Nat)(a:Ss):Prop:=∀c s L x,GI e c s L->s.bits+WU a<=900->L.length+WU a<=900->∃d b f,vW [M,x] (gN 0) (cv "Facts" "asked" ao (cj m) 1 sw) 1 ao (dH a) (c_ s)=Y (l6 d,c_ b)/\Go e c (tvS a) (WU a) s L b f/\DH (fa b f) a d
def abV(d:List aH)(m:Nat)(a:Ss):Prop:=∀c s L,GI d c s L->s.bits+k9 a<=900->L.length+k9 a<=900->∃b e,cg m [c_ s,.lst (dH a)]=Y (.int (2 ^ s.bits),c_ b)/\Go d c (vw a) (k9 a) s L b e/\nT (fa b e) 0 a s.bits
def QV{m:Nat}(G:mU a<=12)(n:EZ a)(k:a ≠ .nil)(h:Mm o m a):abV o (m+1) a:=by
 intro c s L I b K;let D:=Kv a;let q:=OT a;let⟨j,w,C,p,r,H,t⟩:=Hc I a n Ž;let⟨e,E,A,v,d,i⟩:=h _ j L _ C Ž Ž;let g:=DH.len a e i;let F:=d.ll;let J:=d.bl;let u:=Yj (G:=cg m) k g w v Ž (by rw[d.gi.led,aG];lia);let⟨B,f⟩:=LG d.gi λl h=>by have:=Ef e s.bits 0 l h;lia
 let⟨x,y⟩:=DH.ln a e i Ž;refine⟨_,_,u,⟨by rw[q,<- BH];exact B,d.q.trans t,p.trans (d.up.trans f),ŷ,by rw[aI,Gi];lia,λz l g=>(aA.mp g).elim (d.lk z l) (Eg e _ 0 Ž y l)⟩,w8 a e s.bits k (DH.up f a e i) (Oy.up (d.up.trans f) a _ r) λl h=>aQ _ h⟩
mutual
theorem Hy:∀(w:Wi) (m:Nat),h_ w<=m->m<=13->N7 w->ZK (· ∈ x) w->ab0 x m w
 |.any,0,h,_,_,_=>by simp[h_]at h
 |.any,m+1,h,_,_,_=>λc s L I b H=>⟨.mk 0 .nil,s,L,N3,Go.refl I,rfl,Ÿ⟩
 |.txt t,0,h,_,_,_=>by simp[h_]at h
 |.txt t,m+1,h,r,_,o=>λc s L I b H=>by simp only[gH]at b;let⟨j,f,e,G,u,A,E,D,q⟩:=SQ I Ž t o;have:=Kd (F:=cj m) (c:=cg m) e;rw[oH]at this;exact⟨.mk (2 ^ j) .nil,f,L,this,⟨G.mono Ž,q,u,Ÿ,Ž,id⟩,⟨j,rfl,A⟩,Ÿ⟩
 |.has a,0,h,_,_,_=>by simp[h_]at h
 |.has a,m+1,h,r,n,o=>λc s L I b l=>by simp only[h_]at h;simp only[gH]at b l;let B:=tf a;obtain⟨m,rfl⟩:∃k,m=k+1:=⟨m-1,Ž⟩;let⟨i,p,e,g,z⟩:=QV Ž n o.1 (zE a m Ž Ž n o.2) c s L I Ž Ž;have:=N0 (F:=cj (m+1)) e;rw[oH]at this;exact⟨.mk (2 ^ s.bits) .nil,i,p,this,g.le (by simp[BA]) (by simp[gH]),⟨_,rfl,z⟩,by simp[NR,Ox,xQ]⟩
 |.one w,0,h,_,_,_=>by simp[h_]at h
 |.one w,m+1,h,r,n,o=>λc s L I b l=>by simp only[h_]at h;simp only[gH]at b l;let⟨d,i,p,e,g,v,k⟩:=EW w m Ž Ž n o c s L (oF s) I Ž Ž;let y:=t6 w;exact⟨.mk 0 (.cons d .nil),i,p,NZ (Eh (f:=iL (e2 bF (eV 1) v6)) (ρ:=[oF s,Y (.tup [kS "one",.lst (i4 w)]),M]) (ds:=i4 w) rfl rfl rfl Ž e),g.le (by simp[BA]) (by simp[gH]),⟨d,v,rfl⟩,by simp[NR,Ox,xQ,gH]⟩
 |.both w,0,h,_,_,_=>by simp[h_]at h
 |.both w,m+1,h,r,n,o=>λc s L I b l=>by simp only[h_]at h;simp only[gH]at b l;let⟨d,i,p,e,g,v,k⟩:=EW w m Ž Ž n o c s L (oF s) I Ž Ž;let y:=t6 w;let C:=EK d;exact⟨iu d,i,p,Ke Ž (Eh (f:=iL (e2 bF (eV 1) v6)) (ρ:=[oF s,Y (.tup [kS "both",.lst (i4 w)]),M]) (ds:=i4 w) rfl rfl rfl Ž e),g.le (by simp[BA]) (by simp[gH]),⟨d,v,rfl⟩,by simp only[gH];lia⟩
theorem EW:∀(w:Ws) (m:Nat),uo w<=m->m<=13->R4 w->Wq (· ∈ i) w->Y5 i m w
 |.nil,m,_,_,_,_=>λc s L x I b D=>⟨.nil,s,L,rfl,Go.refl I,rfl,by simp[U_]⟩
 |.cons w r,m,h,f,n,o=>λc s L x I b t=>by simp only[uo]at h;simp only[mf]at b t;let⟨k,l,y,q,a,v,C⟩:=Hy w m Ž f n.1 o.1 c s L I Ž Ž;let A:=a.bl;let z:=a.ll;let⟨e,j,d,p,g,u,B⟩:=EW r m Ž f n.2 o.2 _ l y x a.gi Ž Ž;exact⟨.cons k e,j,d,Lg (λs=>rfl) q p,a.trans g,⟨k,e,wz.up g.up w k v,u,rfl⟩,by simp only[U_,mf];lia⟩
theorem zE:∀(a:Ss) (m:Nat),mU a<=m+1->m<=13->EZ a->R3 (· ∈ j) a->Mm j m a
 |.nil,m,_,_,_,_=>λc s L x I b F=>⟨.nil,s,L,rfl,Go.refl I,rfl⟩
 |.cons E A w r,m,h,g,n,o=>λc s L x I b u=>by simp only[mU]at h;simp only[WU]at b u;let⟨k,p,z,t,d,y,D⟩:=Hy w m Ž g n.2.1 o.1 c s L I Ž Ž;let C:=d.bl;let B:=d.ll;let⟨f,l,e,q,i,v⟩:=zE r m Ž g n.2.2 o.2 _ p z x d.gi Ž Ž;exact⟨.cons k f,l,e,Lg (v:=bQ w) (λs=>ź) t q,d.trans i,⟨k,f,wz.up i.up w k y,v,rfl⟩⟩
end
mutual
def Jm(a:Nat):Ak->Bool
 |.mk n b=>(a &&& n==n)&&(Jl a b).all id
def Jl(a:Nat):Cs->List Bool
 |.nil=>[]|.cons c r=>(Gr a c).any id::Jl a r
def Gr(a:Nat):As->List Bool
 |.nil=>[]|.cons x r=>Jm a x::Gr a r
end
def Vj:(a &&& n==n)=Z'↔Sb n a:=by
 rw[beq_iff_eq];constructor
 .intro h i e
  grind
 .intro h;apply Zh;intro i;rw[Kn];cases e:n.testBit i with
  |true=>rw[h i e];rfl|false=>simp
mutual
theorem Av:∀k,Jm a k=Z'↔Cb a k
 |.mk n b=>by rw[Jm,aK,Vj,Gs b];rfl
theorem Gs:∀k,(Jl a k).all id=Z'↔Bn a k
 |.nil=>by solve_by_elim
 |.cons c r=>by rw[Jl,oY,aK,Gs r];exact and_congr (Gq c) Iff.rfl
theorem Gq:∀k,(Gr a k).any id=Z'↔B9 a k
 |.nil=>by simp[Gr,B9]
 |.cons x r=>by rw[Gr,BI,jM,Gq r];exact or_congr (Av x) Iff.rfl
end
def YX{a:List b}{f:b->Bool}:iP Z' [.lst (a.map λd =>.bl (f d))]=Y (.bl (a.all f)):=by
 simp only[iP]
 simp_all [if_pos,Fi,bB,Up,yD]
def sX{ρ:bP}(h:a d c=Y ρ)(g:e ρ=Y x)(k:oh c a dC e b=Y r):oh c a dC e (d::b)=Y (x::r):=by
 simp_all [oh,ah,dC,if_true]
mutual
theorem Gw{a:Nat}:∀(k:Ak) (m:Nat),dk k<=m->Y2 k->iF m [xX k,.int (a:Int)]=Y (.bl (Jm a k))
 |.mk n cs,0,h,_=>by simp[dk]at h
 | .mk n cs,m+1,h,l=>by
  let ih:=CW (a:=a) cs m (by grind [dk]) l.2;let ln:=l.1;rw[Jm];show (zc (iF m) [Y (.tup [.int (n:Nat),.lst (xQ cs)]),Y (.int (a:Int))]).bind mW=_;unfold zc;generalize xQ cs=C at *
  generalize Jl a cs=B at *
  generalize iF m=F at *
  have e1:cz jp [Y (.tup [.int (n:Nat),.lst C]),Y (.int (a:Int))]=Y (!(a &&& n==n)):=by
   let q:∀a n:Int,cz jp [Y (.tup [.int n,.lst C]),Y (.int a)]=Y (!nO (.int (bA a n)) (.int n)):=λa n=>by kernel_rfl
   rw[q,qI,Bk]
   congr 2
   grind
  cases hx:(a &&& n==n) with
  |false=>rw[hx]at e1;unfold ba;rw[gy e1];rfl|true=>
   rw[hx]at e1;rw[az (ρ':=[Y (.tup [.int (n:Nat),.lst C]),Y (.int (a:Int))]) (by rw[fq e1];rfl)];let e2:jN (iL (e2 bF (eV 0) v6)) [M,Y 1] (gN 0) dC (aO (iP Z_) (aC (eF (jN (iL (eV 0)) [M,Y 1] (gN 0) dC (aO F io))) aN)) [Y (.tup [.int (n:Nat),.lst C]),Y (.int (a:Int))]=Y (B.map λb =>.bl (id b)):=by unfold jN;show (if C.length<=cY then oh [M,Y (.int (a:Int))] (gN 0) dC _ C else M)=_;rw[if_pos (cx (jJ (by lia)))];exact ih
   refine jI ?_;rw[J8 e2,YX];simp
theorem CW{a:Nat}:∀(k:Cs) (m:Nat),LZ k<=m->Oz k->oh [M,Y (.int (a:Int))] (gN 0) dC (aO (iP Z_) (aC (eF (jN (iL (eV 0)) [M,Y 1] (gN 0) dC (aO (iF m) io))) aN)) (xQ k)=Y ((Jl a k).map λb =>.bl (id b))
 |.nil,m,_,_=>rfl| .cons c r,m,h,l=>by
  simp only[LZ]at h;let f:=CV (a:=a) c m Ž l.1.2;let d:=CW (a:=a) r m Ž l.2;let e:jN (iL (eV 0)) [M,Y 1] (gN 0) dC (aO (iF m) io) [Y (.lst (l6 c)),Y (.int (a:Int))]=Y ((Gr a c).map λb =>.bl (id b)):=by unfold jN;show (if (l6 c).length<=cY then oh [M,Y (.int (a:Int))] (gN 0) dC _ (l6 c) else M)=_;rw[if_pos (cx (jJ (by have:=l.1.1;lia)))];exact f
  rw[xQ,Jl];refine sX (ρ:=[Y (.lst (l6 c)),Y (.int (a:Int))]) rfl ?_ d;rw[J8 e,RW];rfl
theorem CV{a:Nat}:∀(k:As) (m:Nat),HU k<=m->Vn k->oh [M,Y (.int (a:Int))] (gN 0) dC (aO (iF m) io) (l6 k)=Y ((Gr a k).map λb =>.bl (id b))
 |.nil,m,_,_=>rfl|.cons x r,m,h,l=>by simp only[HU]at h;let d:=Gw (a:=a) x m Ž l.1;let c:=CV (a:=a) r m Ž l.2;rw[l6,Gr];exact sX (ρ:=[Y (xX x),Y (.int (a:Int))]) rfl d c
end
def U9{F:List D->Option D}{x:Int}{d:D}{a:Int}{f:DF}(k:eS e c=Y (x != 0))(i:f c=Y d)(h:g c=Y (.int a))(j:F [d,.int a]=Y (.bl b)):i7 (eS e) (eS (aO F (aC f (aC g aN)))) c=Y (x != 0&&b):=by
 let l:eS (aO F (aC f (aC g aN))) c=Y b:=by unfold eS aO aC;rw[i,h];show (F _).bind _=_;rw[j];rfl
 unfold i7;rw[k,l];cases x != 0<;>rfl
def Mi{n:Nat}:(bA (n:Int) (2 ^ j) != 0)=n.testBit j:=by
 rw[oH,Bk];cases e:n.testBit j with
 |true=>
  have:n &&& 2 ^ j≠0:=λz=>by
   have:(n &&& 2 ^ j).testBit j=true:=by rw[Kn,e,tZ];rfl
   simp_all
  simp;lia
 |false=>
  have:n &&& 2 ^ j=0:=by
   apply Zh
   grind
  simp_all
open Classical in
theorem GA(self:D)(b a:Nat):∀(L:List (Nat×Ak)) (d:Nat) (g f:Option D),yr L->∃j i,
  dz (yA 4 5) jx (L.map ldK) [Y self,Y (.int (b:Int)),Y (.int (a:Int)),Y (.int (d:Int)),g,f]=Y (.nx [Y self,Y (.int (b:Int)),Y (.int (a:Int)),Y (.int ((L.foldl (λu l=>if b.testBit l.1=Z'/\Cb a l.2 then u ||| 2 ^ l.1 else u) d:Nat):Int)),j,i])
 |[],d,g,f,_=>⟨g,f,rfl⟩| (c,k)::L,d,g,f,h=>by
  let e:=h (c,k) (aM ..);let m:=Gw (a:=a) k 12 e.1 e.2;let o:jx [Y self,Y (.int (b:Int)),Y (.int (a:Int)),Y (.int (d:Int)),Y (.int (2 ^ c)),Y (xX k)]=Y (.nx [Y self,Y (.int (b:Int)),Y (.int (a:Int)),Y (.int ((if b.testBit c=Z'/\Cb a k then d ||| 2 ^ c else d:Nat):Int)),Y (.int (2 ^ c)),Y (xX k)]):=by
   unfold jx gq;rw[U9 (F:=tw) (x:=bA (b:Int) (2 ^ c)) (d:=xX k) (a:=(a:Int)) rfl rfl rfl m,Mi];simp only[ah];by_cases z:b.testBit c=Z'/\Cb a k
   .rw[if_pos z,z.1,(Av k).mpr z.2,<- u0,<- oH];rfl
   .rw[if_neg z];have:(b.testBit c&&Jm a k)=false:=by
     cases y:(b.testBit c&&Jm a k) with|false=>rfl|true=>rw[aK,Av]at y;exact absurd y z
    rw[this];rfl
  rw[a9,dF (ρ1:=[Y self,Y (.int (b:Int)),Y (.int (a:Int)),Y (.int (d:Int)),Y (.int (2 ^ c)),Y (xX k)]) rfl o];let⟨j,i,q⟩:=GA self b a L (if b.testBit c=Z'/\Cb a k then d ||| 2 ^ c else d) (Y (.int (2 ^ c))) (Y (xX k)) (λp l=>h p (aB _ l));exact⟨j,i,q⟩
def YG(s:FB)(a:List D):List D:=[.lst s.q,.int (s.bits:Nat),.fS s.nk s.nv,.fS s.tk s.tv,.int s.fW,.int s.jO,.int s.inner,.lst s.bJ,.lst a]
section
variable {k:List aH}{c:Nat}{s:FB}{L:List (Nat×Ak)}{o:Nat}{p:aH}
def Yr(I:GI k c s L):s.inner=(s.inner.toNat:Int)/\s.inner.toNat<2 ^ s.bits:=by
 let⟨m,e,h⟩:=I.yl
 simp_all
def Yp(I:GI k c s L):s.fW=(s.fW.toNat:Int)/\s.fW.toNat<2 ^ s.bits:=by
 let⟨m,e,h⟩:=I.str
 simp_all
def Yq(I:GI k c s L)(n:aH):(bM s.nk s.nv (bw n)).getD (.int 0)=.int (vO ((bM s.nk s.nv (bw n)).getD (.int 0)):Nat)/\vO ((bM s.nk s.nv (bw n)).getD (.int 0))<2 ^ s.bits:=by
 let⟨m,e,h⟩:=I.Ua n;rw[e];exact Ÿ
def Q'(I:GI k c s L)(t:aH):(bM s.tk s.tv (bw t)).getD (.int 0)=.int (vO ((bM s.tk s.tv (bw t)).getD (.int 0)):Nat)/\vO ((bM s.tk s.tv (bw t)).getD (.int 0))<2 ^ s.bits:=by
 rcases I.txt t with a|⟨j,a,l⟩
 .rw[a];exact⟨rfl,Nat.two_pow_pos _⟩
 .rw[a,om,Ac];exact⟨by rw[oH],Zd ſ l⟩
def abm(I:GI k c s L)(lk:yr L)(e:List D):FR (Vo s L o p) (YG s e):=by
 refine⟨λn =>?_,λt =>?_,λa b =>?_⟩
 .let h:=(Yq I n).1;let g:=(Yp I).1;refine jI ?_;show K2 (.int s.fW) ((bM s.nk s.nv (bw n)).getD (.int 0))=Y _;rw[h,g];show Y (D.int (bO _ _))=_;rw[u0];rfl
 .let h:=(Q' I t).1;show Y _=_
  exact Ÿ
 .let g:=(Yr I).1;show (nM [Y _,Y _,Y _,M,M,M]).bind mW=_;unfold nM;let f:e2 nJ (eV 2) (eT "Facts" "inner" (eV 0)) [Y (.ins "Facts" JS (YG s e)),Y (.int (a:Int)),Y (.int (b:Int)),M,M,M]=Y (.int ((b &&& s.inner.toNat:Nat):Int)):=by rw[<- Bk,<- g];exact ź
  rw[az (dD f)];simp;let⟨j,i,q⟩:=GA _ a b L (b &&& s.inner.toNat) M M lk;let d:iL (eT "Facts" "leads" (eV 0)) [Y (.ins "Facts" JS (YG s e)),Y (.int (a:Int)),Y (.int (b:Int)),Y (.int ((b &&& s.inner.toNat:Nat):Int)),M,M]=Y (L.map ldK):=by rw[<- I.led];exact ź
  rw[az ((eD d).trans q)];rfl
mutual
theorem Vg(I:GI k c s L)(a:o<s.bits):∀(t:Tr),tA (Vo s L o p) t<2 ^ s.bits
 |.txt t=>(Q' I t).2|.mk=>Zd ſ a
 | .nd n f=>by
  refine Nat.lt_pow_two_of_testBit _ λi d=>Bool.eq_false_iff.2 λh =>?_
  rw[tA,Ay]at h;rcases h with⟨h,_⟩|⟨l,b,e,_⟩
  .rw[Nat.testBit_lt_two_pow (aY (ER I a f) (Ze (by decide) d))]at h;cases h
  .have:=I.XY l b;lia
theorem ER(I:GI k c s L)(a:o<s.bits):∀(f:List Tr),fA (Vo s L o p) f<2 ^ s.bits
 |[]=>Nat.two_pow_pos _|t::f=>Nat.or_lt_two_pow (Vg I a t) (ER I a f)
end
def aaV(I:GI k c s L)(d:o<s.bits)(lk:yr L)(a:List D)(b:s.bits<=19)(g:c<=19):JO (Vo s L o p) (YG s a):=by
 refine⟨abm I lk _,λf=>aY (ER I d f) (Ze ſ b),?_⟩;obtain _:=I.Zq;show s.jO.toNat+1<=1000;lia
end
theorem VI:∀s:Ss,(dH s).length<=k9 s
 |.nil=>by simp[dH]
 | .cons b a w r=>by
  have:=VI r
  grind [dH,k9,aJ]
def DS{f:DF}{a:bP}{x:D}(h:f a=Y x)(k:g a=Y y):cW (aC f (aC g aN)) a=Y (.tup [x,y]):=by unfold cW aC;rw[h,k];rfl
def ZW{f g e:DF}{x z:D}(h:f a=Y x)(k:g a=Y y)(l:e a=Y z):cW (aC f (aC g (aC e aN))) a=Y (.tup [x,y,z]):=by unfold cW aC;rw[h,k,l];rfl
def zR{f:DF}{d:D}(e:t a=Y Z')(k:f a=Y d):ba (gq t (dM f) cN) h a=Y (.rt d):=by
 unfold ba;rw[gy e];unfold dM;rw[k];rfl
def YS(h:A [.lst x]=Y (.lst y)):gu 1 1 (dE A B) [.tup [kS "has",.lst x]]=Y (.tup [kS "has",.lst y]):=by
 show (dE A B _).bind _=_;unfold dE;rw[zR (by kernel_rfl) (DS rfl ((show _=A _ by rfl).trans h))];rfl
def L5(b:cz cr [Y w]=Y Z_)(a:cz (e2 IR (e2 bF (eV 0) f8) Db) [Y w]=Y Z_):gu 1 1 (dE A B) [w]=Y w:=by
 show (dE A B [Y w]).bind _=_;unfold dE;rw[az (by rw[fq b];rfl),az (by rw[fq a];rfl)];rfl
def L4{x:List D}(c:x.length<=1000)(b:cz cr [Y (.tup [kS k,.lst x])]=Y Z_)(a:cz (e2 IR (e2 bF (eV 0) f8) Db) [Y (.tup [kS k,.lst x])]=Y Z')(h:oh [M] (gN 0) dC (aO B ca) x=Y y):gu 1 1 (dE A B) [.tup [kS k,.lst x]]=Y (.tup [kS k,.lst y]):=by
 show (dE A B [Y _]).bind _=_;unfold dE;rw[az (by rw[fq b];rfl)];have:eF (jN (iL (e2 bF (eV 0) v6)) [M] (gN 0) dC (aO B ca)) [Y (.tup [kS k,.lst x])]=Y (.lst y):=by show (if x.length<=cY then oh [M] _ _ _ x else M).map _=_;rw[if_pos (cx (jJ (by lia))),h];rfl
 rw[zR a (DS rfl this)];rfl
mutual
theorem sF:∀(w:Wi) (m:Nat),h_ w<=m->gH w<=900->cw m [bQ w]=Y (bQ w)
 |.any,0,h,_=>by simp[h_]at h
 |.any,m+1,h,_=>L5 ź ź
 |.txt t,0,h,_=>by simp[h_]at h
 |.txt t,m+1,h,_=>L5 ź ź
 |.has s,0,h,_=>by simp[h_]at h
 |.has s,m+1,h,b=>by simp only[h_]at h;simp only[gH]at b;exact YS (xR s m Ž Ž)
 |.both w,0,h,_=>by simp[h_]at h
 |.both w,m+1,h,b=>by simp only[h_]at h;simp only[gH]at b;exact L4 (by have:=t6 w;lia) ź ź (qK w m Ž Ž)
 |.one w,0,h,_=>by simp[h_]at h
 |.one w,m+1,h,b=>by simp only[h_]at h;simp only[gH]at b;exact L4 (by have:=t6 w;lia) ź ź (qK w m Ž Ž)
theorem qK:∀(w:Ws) (m:Nat),uo w<=m->mf w<=900->oh [M] (gN 0) dC (aO (cw m) ca) (i4 w)=Y (i4 w)
 |.nil,m,_,_=>rfl|.cons w r,m,h,b=>by simp only[uo]at h;simp only[mf]at b;rw[i4];exact sX rfl (sF w m Ž Ž) (qK r m Ž Ž)
theorem wo:∀(s:Ss) (m:Nat),mU s<=m+1->k9 s<=900->oh [M] (gN 0) dC (cW (aC (e2 bF (eV 0) f8) (aC (e2 bF (eV 0) v6) (aC (aO (cw m) Ñ) aN)))) (dH s)=Y (dH s)
 |.nil,m,_,_=>rfl|.cons b a w r,m,h,z=>by simp only[mU]at h;simp only[k9]at z;have i:=sF w m Ž Ž;rw[dH];refine sX rfl ?_ (wo r m Ž Ž);exact ZW rfl rfl ((show _=cw m [bQ w] by rfl).trans i)
theorem xR:∀(s:Ss) (m:Nat),mU s<=m->k9 s<=900->jz m [.lst (dH s)]=Y (.lst (dH s))
 |s,0,h,_=>by grind [tf]
 | s,m+1,h,z=>by
  show (AS (jz m) (cw m) [Y (.lst (dH s))]).bind mW=_;unfold AS;have:jN (iL (eV 0)) [M] (gN 0) dC (cW (aC (e2 bF (eV 0) f8) (aC (e2 bF (eV 0) v6) (aC (aO (cw m) Ñ) aN)))) [Y (.lst (dH s))]=Y (dH s):=by unfold jN;show (if (dH s).length<=cY then oh [M] (gN 0) dC _ (dH s) else M)=_;rw[if_pos (cx (jJ (by grind [VI]))),(wo s m h z)]
  unfold oD;rw[this];rfl
end
abbrev pF(a:List aH)(b:List D):Option D:=Y (.obj ao (.ins "Facts" a b))
def aau{F:List D->Option D}(h:F [q]=Y d):lV Z_ 0 "Facts" "question" (aO F u8) [pF [] [],Y q]=Y (.nx [pF ["question"] [d],Y q]):=by
 let e:aO F u8 [pF [] [],Y q]=Y d:=rfl.trans h;unfold lV;rw[e]
 exact Ÿ
noncomputable def VJ(q:List D):FB:=⟨q,0,[],[],[],[],0,0,0,[]⟩
def aai(a:List aH)(q:List D):GI a 0 (VJ q) []:=⟨⟨0,rfl,Zf⟩,⟨0,rfl,Zf⟩,⟨0,rfl,av _⟩,λn=>⟨0,rfl,Zf⟩,λt =>.inl rfl,rfl,rfl,⟨av _,av _⟩,av _,by simp[VJ],by simp[VJ],av _,rfl,ż⟩
def Ur(a:Ss)(n:EZ a)(o:R3 (· ∈ g) a)(B:mU a<=12)(z:k9 a<=900):
  ∃d s L,d4 [.ins "Facts" [] [],.lst (dH a)]=Y (.dr,.ins "Facts" JS (YG s (l6 d)))/\GI g (vw a) s L/\yr L/\DH (fa s L) a d/\Oy (fa s L) a 0/\L.length<=900/\gY a<=s.bits:=by
 let C:kN [.lst (dH a)]=Y (.lst (dH a)):=xR a 12 B z;let H:=Kv a;let⟨b,F,G,I,j,i,w⟩:=Hc (aai g (dH a)) a n (by show 0+gY a<=1000;lia);let i:b.bits=0+gY a:=i;let⟨d,s,L,E,e,D⟩:=zE a 12 Ž Ž n o _ b [] (oF b) G Ž (by simp;lia);let f:b.q=dH a:=w;let x:=e.ll;let J:=e.bl;refine⟨d,s,L,?_,by have:=e.gi;rwa [qV,<- OT]at this,e.lk λl y=>by simp at y,D,Oy.up e.up a _ j,by simp at x;lia,Ž⟩;let c:iL Do [oF b,Y (.lst (dH a))]=Y (dH a):=by
  have:iL Do [oF b,Y (.lst (dH a))]=Y b.q:=by kernel_rfl
  rw[this,f]
 let h:=Eh (f:=iL Do) (ρ:=[oF b,Y (.lst (dH a))]) c rfl rfl (by rw[xi];lia) E;generalize (l6 d)=A at *
 show (jv [pF [] [],Y (.lst (dH a))]).bind (D8 ao)=_;unfold jv;rw[az (aau C)];generalize dH a=q at *
 let q2:lV Z_ 0 "Facts" "bits" f8 [pF ["question"] [.lst q],Y (.lst q)]=Y (.nx [pF ["question","bits"] [.lst q,.int 0],Y (.lst q)]):=by kernel_rfl
 let v:o8 0 "Facts" "by_name" .di À [pF ["question","bits"] [.lst q,.int 0],Y (.lst q)]=Y (.nx [pF ["question","bits","by_name"] [.lst q,.int 0,.fS [] []],Y (.lst q)]):=by kernel_rfl
 let u:o8 0 "Facts" "by_text" .di À [pF ["question","bits","by_name"] [.lst q,.int 0,.fS [] []],Y (.lst q)]=Y (.nx [pF ["question","bits","by_name","by_text"] [.lst q,.int 0,.fS [] [],.fS [] []],Y (.lst q)]):=by kernel_rfl
 let t:lV Z_ 0 "Facts" "starred" f8 [pF ["question","bits","by_name","by_text"] [.lst q,.int 0,.fS [] [],.fS [] []],Y (.lst q)]=Y (.nx [pF ["question","bits","by_name","by_text","starred"] [.lst q,.int 0,.fS [] [],.fS [] [],.int 0],Y (.lst q)]):=by kernel_rfl
 let r:lV Z_ 0 "Facts" "stars" f8 [pF ["question","bits","by_name","by_text","starred"] [.lst q,.int 0,.fS [] [],.fS [] [],.int 0],Y (.lst q)]=Y (.nx [pF ["question","bits","by_name","by_text","starred","stars"] [.lst q,.int 0,.fS [] [],.fS [] [],.int 0,.int 0],Y (.lst q)]):=by kernel_rfl
 let p:lV Z_ 0 "Facts" "inner" f8 [pF ["question","bits","by_name","by_text","starred","stars"] [.lst q,.int 0,.fS [] [],.fS [] [],.int 0,.int 0],Y (.lst q)]=Y (.nx [pF ["question","bits","by_name","by_text","starred","stars","inner"] [.lst q,.int 0,.fS [] [],.fS [] [],.int 0,.int 0,.int 0],Y (.lst q)]):=by kernel_rfl
 let m:o8 0 "Facts" "leads" (.li .lf) (eK (.lst [])) [pF ["question","bits","by_name","by_text","starred","stars","inner"] [.lst q,.int 0,.fS [] [],.fS [] [],.int 0,.int 0,.int 0],Y (.lst q)]=Y (.nx [oF (VJ q),Y (.lst q)]):=by kernel_rfl
 rw[az q2,az v,az u,az t,az r,az p,az m];let k:o9 (cv "Facts" "enter" ao fh 0 (jd (mP Do) mE)) [oF (VJ q),Y (.lst q)]=Y (.nx [oF b,Y (.lst q)]):=by unfold o9;rw[kr (s:=(VJ q)) (s1:=(VJ q)) (ρ1:=[oF (VJ q),Y (.lst q)]) (args:=[.lst q]) (by decide) rfl (by kernel_rfl) rfl F];rfl
 rw[az k];unfold xn;rw[show cj 12=f7 from rfl]at h;rw[h];exact ź
def g8(A:List D)(s:FB):D :=.ins "Facts" JS (YG s A)
abbrev oG(A:List D)(s:FB):Option D:=Y (.obj ao (g8 A s))
def P2(A:List D)(s:FB)(h:s.bits<=999):bN [g8 A s]=Y (.int (2 ^ s.bits),g8 A { s with bits:=s.bits+1 }):=by
 show (iw _).bind _=_;unfold iw;rw[az ?b]
 case b=>kernel_rfl
 let a:Ds [0] [] (e2 tU v6 im) [oG A { s with bits:=s.bits+1 }]=Y (.int (2 ^ s.bits)):=by
  refine Ci (ρ':=[Y _]) rfl ?_ rfl;have:e2 tU v6 im [Y (g8 A { s with bits:=s.bits+1 })]=tU (.int 1) (.int _):=rfl
  grind [WY]
 unfold eZ mP;rw[a];exact ź
def CZ{A:List D}{y1 y2 y4:List D}{y3:Int}{s:FB}{n f j:Nat}{c:Cs}(h:s.bJ.length<cY):cf [oG A s,Y (.lst y1),Y (.lst y2),Y (.int y3),Y (.lst y4),Y (xX (.mk n c)),Y (.int (2 ^ j)),Y (.int (f:Int))]=Y (.nx [oG A { s with bJ:=s.bJ++[ldK (j,.mk (n ||| f) c)] },Y (.lst y1),Y (.lst y2),Y (.int y3),Y (.lst y4),Y (xX (.mk n c)),Y (.int (2 ^ j)),Y (.int (f:Int))]):=by
 let q:∀(b a g:Int) (d:List D),cf _=Y (.nx [oG A { s with bJ:=s.bJ++[.tup [.int b,qa (bO a g) d]] },Y (.lst y1),Y (.lst y2),Y (.int y3),Y (.lst y4),Y (qa a d),Y (.int b),Y (.int g)]):=λb a g d=>by
  unfold cf KG;let u:zy "Facts" "leads" 0 [oG A s,Y (.lst y1),Y (.lst y2),Y (.int y3),Y (.lst y4),Y (qa a d),Y (.int b),Y (.int g)]=Y (nN,JS,[.lst s.q,.int s.bits,.fS s.nk s.nv,.fS s.tk s.tv,.int s.fW,.int s.jO,.int s.inner,.lst s.bJ,.lst A],.lst s.bJ):=by kernel_rfl
  let v:cW ã [oG A s,Y (.lst y1),Y (.lst y2),Y (.int y3),Y (.lst y4),Y (qa a d),Y (.int b),Y (.int g)]=Y (.tup [.int b,qa (bO a g) d]):=by kernel_rfl
  rw[u];rw[v];simp only[ah];rw[if_pos ⟨by decide,by lia⟩];exact ź
 let e:ldK (j,.mk (n ||| f) c)=.tup [.int (2 ^ j),qa (bO n f) (xQ c)]:=by rw[u0];rfl
 rw[e]
 exact Ÿ
theorem C2{A:List D}{y1 y2 y4:List D}{y3:Int}:∀(f:As) (j e:Nat) (s:FB) (a b c:Option D),s.bJ.length+eI f<cY->∃o n m,
  dz Ì cf (hZ (l6 f) ((dY j (eI f)).map D.int) ((uT j (eI f) (e:Int)).map D.int)) [oG A s,Y (.lst y1),Y (.lst y2),Y (.int y3),Y (.lst y4),a,b,c]=Y (.nx [oG A { s with bJ:=s.bJ++(js f j e).map ldK },Y (.lst y1),Y (.lst y2),Y (.int y3),Y (.lst y4),o,n,m])
 |.nil,j,e,s,a,b,c,_=>⟨a,b,c,by simp[l6,hZ,dz,js]⟩
 | .cons (.mk n c) .nil,j,e,s,a,b,d,h=>by
  simp only[eI]at h;refine⟨Y (xX (.mk n c)),Y (.int (2 ^ j)),Y (.int (e:Int)),?_⟩;show dz Ì cf (hZ [xX (.mk n c)] [.int (2 ^ j)] [.int (e:Int)]) _=_;rw[hZ,dF rfl (CZ (by lia))]
  exact Ÿ
 | .cons (.mk n c) (.cons x r),j,e,s,a,b,d,h=>by
  simp only[eI]at h;let t:=CZ (A:=A) (y1:=y1) (y2:=y2) (y3:=y3) (y4:=y4) (s:=s) (n:=n) (f:=2 ^ (j+1)) (j:=j) (c:=c) Ž;let⟨o,p,m,q⟩:=C2 (A:=A) (y1:=y1) (y2:=y2) (y3:=y3) (y4:=y4) (.cons x r) (j+1) e { s with bJ:=s.bJ++[ldK (j,.mk (n ||| 2 ^ (j+1)) c)] } (Y (xX (.mk n c))) (Y (.int (2 ^ j))) (Y (.int ((2 ^ (j+1):Nat):Int))) (by simp only[eI,aI,jY];lia);refine⟨o,p,m,?_⟩;let g:hZ (l6 (.cons (.mk n c) (.cons x r))) ((dY j (eI (.cons (.mk n c) (.cons x r)))).map D.int) ((uT j (eI (.cons (.mk n c) (.cons x r))) (e:Int)).map D.int)=.tup [xX (.mk n c),.int (2 ^ j),.int ((2 ^ (j+1):Nat):Int)]::hZ (l6 (.cons x r)) ((dY (j+1) (eI (.cons x r))).map D.int) ((uT (j+1) (eI (.cons x r)) (e:Int)).map D.int):=by solve_by_elim
  rw[g,dF rfl t,q];simp only[js,a9,bD,Wz]
def aaU{A:List D}{s:FB}{ks:As}{j e:Nat}(hn:ks ≠ .nil)(hl:s.bJ.length+eI ks<2000):eG [g8 A s,.lst (l6 ks),.lst ((dY j (eI ks)).map D.int),.int (e:Int)]=Y (.dr,g8 A { s with bJ:=s.bJ++(js ks j e).map ldK }):=by
 obtain⟨k,hk⟩:∃k,eI ks=k+1:=by
  cases ks with|nil=>simp_all|cons x r=>exact⟨_,rfl⟩
 show (kA [oG A s,Y _,Y _,Y _,M,M,M,M]).bind _=_;unfold kA;let q0:d8 4 Û [oG A s,Y (.lst (l6 ks)),Y (.lst ((dY j (eI ks)).map D.int)),Y (.int e),M,M,M,M]=Y (.nx [oG A s,Y (.lst (l6 ks)),Y (.lst ((dY j (eI ks)).map D.int)),Y (.int e),Y (.lst ((uT j (eI ks) e).map D.int)),M,M,M]):=by
  let e1:e2 c6 At (eF (eO Sc)) [oG A s,Y (.lst (l6 ks)),Y (.lst ((dY j (eI ks)).map D.int)),Y _,M,M,M,M]=c6 (.lst _) (.lst [.int e]):=rfl;let e2:B_ ((dY j (eI ks)).map D.int) (Y 1) M=(dY (j+1) k).map D.int:=by rw[hk,Bc _ (by decide)];rfl
  rw[e2]at e1;let e3:c6 (.lst ((dY (j+1) k).map D.int)) (.lst [.int e])=Y (.lst ((uT j (eI ks) e).map D.int)):=by simp only[c6];rw[if_pos (cx (jJ (by rw[aG,jY,xV];lia))),hk,<- JR];simp
  rw[dD (e1.trans e3)];rfl
 rw[az q0];let⟨b5,b6,b7,q⟩:=C2 ks j e s M M M (jJ hl);let q2:gW Æ _ cf [oG A s,Y (.lst (l6 ks)),Y (.lst ((dY j (eI ks)).map D.int)),Y (.int e),Y (.lst ((uT j (eI ks) e).map D.int)),M,M,M]=dz Ì cf _ _:=rfl;rw[q2,q]
 exact Ÿ
abbrev Zx:List aH:=(cm 26).map λi=>(⟨#[97+i]⟩:aH)
def XF:List aH:=Zx++Zx.flatMap λa=>Zx.map λb=>a++b
def P5{x:Option D}:(ba (jQ 1 (JV ce)) (gW (iS ce) (gN 2) sJ)) [x,M,M]=Y (.nx [x,Y (.lst (XF.map D.str)),Y (.str ⟨#[122]⟩)]):=by kernel_rfl
theorem GD(h:eT "Facts" "by_name" (eV 1)=eT "Facts" "by_name" (eV 1))(e:∀n,cz Ú [Y (.str n),Y x]=Y (!(bM b a (bw n)).isSome)):∀l:List aH,oh [M,Y x] (gN 0) Rs (eV 0) (l.map D.str)=Y ((l.filter λn=> !(bM b a (bw n)).isSome).map D.str)
 |[]=>rfl|n::l=>by rw[a9,oh,show gN 0 _ _=Y [Y _,Y x] from rfl];simp only[ah,e n,GD h e l,dJ];cases !(bM b a _).isSome<;>rfl
def XQ:Zx.Nodup:=by decide +kernel
theorem uw[DecidableEq c]:∀(a b:List c),a.Nodup->(∀x∈a,x∈b)->a.length<=b.length
 |[],b,_,_=>by simp
 | x::a,b,d,h=>by
  rw[cS]at d;have:=uw a (b.erase x) d.2 λy e=>by grind
  grind
def Ra{A:List D}{s:FB}(kv:s.nk.length=s.nv.length)(h:s.nk.length<=19):∃f:aH,gF [g8 A s]=Y (.str f)/\bw f∉s.nk:=by
 let ne:∃n∈Zx,bw n∉s.nk:=by
  apply OB;intro z;let h1:∀x∈Zx.map (λn=>bw n),x∈s.nk:=λx hx=>by let⟨n,hn,rfl⟩:=a7.mp hx;exact OB λy=>z ⟨n,hn,y⟩
  have:=uw _ _ (XQ.map _ λa b hab e=>hab (Sum.inr.inj e)) h1
  grind
 let⟨n,hn,hk⟩:=ne;have inb:∀m,(!(bM _ _ _).isSome)=Z'↔bw m∉s.nk:=λm=>by rw[<- sr kv];cases bM _ _ _<;>simp
 obtain⟨f,r,e⟩:∃f r,(XF.filter λn=> !(bM s.nk s.nv (bw n)).isSome)=f::r:=by
  cases q:(XF.filter _) with
  |nil=>rw[List.filter_eq_nil_iff]at q;exact absurd ((inb n).mpr hk) (q n (by exact aW _ hn))
  |cons f r=>simp_all
 let hf:f∈XF.filter λn=> !(bM s.nk s.nv (bw n)).isSome:=by rw[e];simp
 refine⟨f,?_,(inb f).mp (wU.mp hf).2⟩;show (mT [Y _,M,M]).bind _=_;unfold mT;let n1:=P5 (x:=Y (g8 A s));let n2:∀h:DG,ba _ _ _=h _:=λh=>by
  let as:∀(a b c:DG) ρ,ba a (ba b c) ρ=ba (ba a b) c ρ:=λa b c ρ=>by
   unfold ba;cases a ρ with
   |none=>rfl|some o=>cases o<;>rfl
  rw[as,az n1]
 rw[n2];refine jI ?_;let n3:eF (jN (iL (eV 1)) [M,Y 0] (gN 0) Rs (eV 0)) [Y (g8 A s),Y (.lst (XF.map D.str)),Y (.str ⟨#[122]⟩)]=Y (.lst ((f::r).map D.str)):=by unfold jN;show ((if (XF.map D.str).length<=cY then oh [M,Y _] _ _ _ _ else M).map _)=_;rw[GD rfl (λn=>rfl) XF,e];rfl
 let n4:∀(g:DF) ρ a b,g ρ=Y (.lst (a::b))->e2 bF g f8 ρ=Y a:=λg ρ a b h=>by unfold e2;rw[h];exact d6 rfl
 exact n4 _ _ _ _ n3
abbrev pJ(a:List aH)(b:List D):Option D:=Y (.obj ny (.ins "Judge" a b))
def CS{F:List D->Option (D×D)}{m:aH}{f:List D}{args:List D}{s:FB}(i:m∉JS)(h:zy "Judge" "facts" 0 (pJ a b::r)=Y (AV,a,b,g8 A s))(l:g (pJ a b::r)=Y args)(n:F (g8 A s::args)=Y (d,g8 A c))(j:gf 0 (pJ a b::r)=pJ a b::r)(k:Tp "Judge" "facts" AV a b (g8 A c)=.obj ny (.ins "Judge" a f)):j3 "Judge" "facts" "Facts" m ao F 0 g (pJ a b::r)=Y (d,pJ a f::r):=by
 unfold j3;rw[h];show (if (_/\_)/\m∉JS then (g _).bind λe=>(F (g8 A s::e)).map _ else M)=_;rw[if_pos ⟨⟨by solve_by_elim,rfl⟩,i⟩]
 simp_all
theorem Mc:∀(n k:Nat),k+n<=1000->oh [M] (gN 0) dC UV (fx k n)=Y ((dY k n).map D.int)
 |0,k,_=>by solve_by_elim
 | n+1,k,h=>by
  let e:fx k (n+1)=.int k::fx (k+1) n:=by grind [fx,wJ,bB,ZS,ZQ]
  rw[e];exact sX rfl (rfl.trans (WY Ž)) (Mc n _ Ž)
def Nk{q:List D}{s:FB}{P:Int}{f:aH}(c:d4 [.ins "Facts" [] [],.lst q]=Y (.dr,g8 A s))(o:bN [g8 A s]=Y (.int P,g8 A { s with bits:=s.bits+1 }))(k:eG [g8 A { s with bits:=s.bits+1 },.lst A,.lst B,.int P]=Y (.dr,g8 A { s with bits:=s.bits+1,bJ:=s.bJ++N }))(a:q.length=n)(z:n<=900)(b:oh [M] (gN 0) dC UV (fx 0 n)=Y B)(y:gF [g8 A { s with bits:=s.bits+1,bJ:=s.bJ++N }]=Y (.str f)):dZ [.ins "Judge" [] [],.lst q]=Y (D.dr,D.ins "Judge" jk [g8 A { s with bits:=s.bits+1,bJ:=s.bJ++N },.int P,.str f,.int (s.jO+1)]):=by
 show (ju [pJ [] [],Y (.lst q),M]).bind (D8 ny)=_;unfold ju;let m:o8 0 "Judge" "facts" ao (ph "Facts" d4 u8) [pJ [] [],Y (.lst q),M]=Y (.nx [pJ ["facts"] [g8 A s],Y (.lst q),M]):=by
  let e:ph "Facts" d4 u8 [pJ [] [],Y (.lst q),M]=Y (g8 A s):=by show ((d4 [.ins "Facts" [] [],.lst q]).bind λr=>match r.1 with|.dr=>Y r.2|_=>M)=_;rw[c];rfl
  unfold o8;rw[e]
  exact Ÿ
 rw[az m];let v:j3 "Judge" "facts" "Facts" "new_bit" ao bN 0 aN [pJ ["facts"] [g8 A s],Y (.lst q),M]=Y (.int P,[pJ ["facts"] [g8 A { s with bits:=s.bits+1 }],Y (.lst q),M]):=CS ſ ź rfl o rfl ź;let q2:xn Z_ 0 "Judge" "mark" (j3 "Judge" "facts" "Facts" "new_bit" ao bN 0 aN) [pJ ["facts"] [g8 A s],Y (.lst q),M]=Y (.nx [pJ ["facts","mark"] [g8 A { s with bits:=s.bits+1 },.int P],Y (.lst q),M]):=by unfold xn;rw[v];simp only[ah];exact ź
 rw[az q2];let u:eF (jN (wM (aO eW u8)) [M] (gN 0) dC UV) [pJ ["facts","mark"] [g8 A { s with bits:=s.bits+1 },.int P],Y (.lst q),M]=Y (.lst (B)):=by
  let i:wM (aO eW u8) [pJ ["facts","mark"] [g8 A { s with bits:=s.bits+1 },.int P],Y (.lst q),M]=Y (fx 0 n):=by
   let c:aO eW u8 [pJ ["facts","mark"] [g8 A { s with bits:=s.bits+1 },.int P],Y (.lst q),M]=Y (.int (n:Nat)):=by rw[<- a];rfl
   grind [Er,mZ,jB,cI]
  unfold eF jN;rw[i];simp only[ah];rw[if_pos (cx (jJ (by simp[fx];lia)))];show (oh [M] (gN 0) dC UV (fx 0 n)).map D.lst=_;rw[b];rfl
 rw[az (dD u)];simp only[bj,bo];let h:j3 "Judge" "facts" "Facts" "lead" ao eG 0 lw [pJ ["facts","mark"] [g8 A { s with bits:=s.bits+1 },.int P],Y (.lst q),Y (.lst (B))]=Y (.dr,[pJ ["facts","mark"] [g8 A { s with bits:=s.bits+1,bJ:=s.bJ++N },.int P],Y (.lst q),Y (.lst (B))]):=CS (args:=[.lst A,.lst (B),.int P]) ſ ź ź k rfl ź;let g:o9 (j3 "Judge" "facts" "Facts" "lead" ao eG 0 lw) [pJ ["facts","mark"] [g8 A { s with bits:=s.bits+1 },.int P],Y (.lst q),Y (.lst (B))]=Y (.nx [pJ ["facts","mark"] [g8 A { s with bits:=s.bits+1,bJ:=s.bJ++N },.int P],Y (.lst q),Y (.lst (B))]):=by simp_all [o9]
 rw[az g];generalize j:({ s with bits:=s.bits+1,bJ:=s.bJ++N }:FB)=S at *
 let d:S.jO=s.jO:=by rw[<- j]
 rw[<- d];clear j d h g k;let t:Ds [0] [] (aO gF dL) [pJ ["facts","mark"] [g8 A S,.int P],Y (.lst q),Y (.lst B)]=Y (.str f):=by refine Ci (ρ':=[Y (.ins "Judge" ["facts","mark"] [g8 A S,.int P]),Y (.lst q),Y (.lst B)]) rfl ?_ rfl;exact((λF=>rfl) gF).trans y
 let l:lV Z_ 0 "Judge" "fresh" (Ds [0] [] (aO gF dL)) [pJ ["facts","mark"] [g8 A S,.int P],Y (.lst q),Y (.lst B)]=Y (.nx [pJ ["facts","mark","fresh"] [g8 A S,.int P,.str f],Y (.lst q),Y (.lst B)]):=by unfold lV;rw[t];simp only[ah];exact ź
 rw[az l];let p:Ds [0] [] TW [pJ ["facts","mark","fresh"] [g8 A S,.int P,.str f],Y (.lst q),Y (.lst B)]=Y (.int (S.jO+1)):=by kernel_rfl
 unfold lV;rw[p];simp only[ah];exact ź
def QF{i:List aH}(a:Ss)(n:EZ a)(o:R3 (· ∈ i) a)(e:a ≠ .nil)(S:mU a<=12)(z:k9 a<=900)(T:vw a+i.length<=18):
  ∃F G,dZ [.ins "Judge" [] [],.lst (dH a)]=Y (.dr,jD F G)/\JO F G/\F.long<=20/\nT F F.mark a 0:=by
 let⟨b,s,L,e0,I,lk,A,H,fl,lb⟩:=Ur a n o S z;let zz:=Kv a;let D:=DH.len a b A;have tl:s.tk.length<=i.length:=by
  have:=uw s.tk (i.map bw) I.WL λk R=>by let⟨t,Q,rfl⟩:=I.WJ k R;exact By Q
  simp_all
 let bt:=I.bts;let nk:=I.Zv;let⟨m,B,lm⟩:=I.Zq;let⟨W,X,O⟩:=I.yl;let⟨K,U,N⟩:=I.str;let tk:=I.Zl;have I2:GI i (vw a+1) { s with bits:=s.bits+1 } L:=⟨⟨W,X,sm O⟩,⟨K,U,sm N⟩,⟨m,B,Ž⟩,λn=>by let⟨x,y,w⟩:=I.Ua n;exact⟨x,y,sm w⟩,λt=>(I.txt t).imp id λ⟨j,x,y⟩=>⟨j,x,du y⟩,I.VS,I.OL,by dsimp only;lia,by dsimp only;lia,I.WL,I.WJ,by dsimp only;lia,I.led,λl h=>du (I.XY l h)⟩;let⟨I3,_⟩:=LG I2 (N:=js b 0 (2 ^ s.bits)) λl h=>by have:=Ef b 0 _ l h;grind
 let⟨x,y⟩:=DH.ln a b A z;have p:yr (L++js b 0 (2 ^ s.bits)):=λl u=>(aA.mp u).elim (lk l) (Eg b _ _ Ž y l)
 let⟨f,ef,_⟩:=Ra (A:=l6 b) (s:={ s with bits:=s.bits+1,bJ:=s.bJ++(js b 0 (2 ^ s.bits)).map ldK }) I.VS ŷ;have C:DD (fa s L) (Vo { s with bits:=s.bits+1,bJ:=s.bJ++(js b 0 (2 ^ s.bits)).map ldK } (L++js b 0 (2 ^ s.bits)) s.bits f):=⟨.refl _,λ_ =>.refl _,λ_ =>.refl _,λ_ h=>aW _ h⟩;refine⟨Vo { s with bits:=s.bits+1,bJ:=s.bJ++(js b 0 (2 ^ s.bits)).map ldK } (L++js b 0 (2 ^ s.bits)) s.bits f,YG { s with bits:=s.bits+1,bJ:=s.bJ++(js b 0 (2 ^ s.bits)).map ldK } (l6 b),?_,aaV I3 (gK _) p _ ŷ Ž,?_,w8 a b 0 e (DH.up C a b A) (Oy.up C a 0 H) λl h=>aQ _ h⟩
 rotate_left
 .show s.jO.toNat+1<=20;rw[B];lia
 let P:b ≠ .nil:=by
  intro y;subst y;cases a with
  |nil=>exact e rfl|cons _ _ _ r=>simp[eI,gY]at D
 let E:=aaU (A:=l6 b) (s:={ s with bits:=s.bits+1 }) (ks:=b) (j:=0) (e:=2 ^ s.bits) P (by show s.bJ.length+_<2000;rw[I.led,aG];lia);rw[D,<- oH]at E;let J:bN [g8 (l6 b) s]=Y (.int (2 ^ s.bits),g8 (l6 b) { s with bits:=s.bits+1 }):=P2 (l6 b) s Ž;let g:(dH a).length=gY a:=xi a;let q:gY a<=900:=by lia
 let v:=Mc (gY a) 0 Ž;let d:(Vo { s with bits:=s.bits+1,bJ:=s.bJ++(js b 0 (2 ^ s.bits)).map ldK } (L++js b 0 (2 ^ s.bits)) s.bits f).mark=2 ^ s.bits:=rfl;let c:(((Vo { s with bits:=s.bits+1,bJ:=s.bJ++(js b 0 (2 ^ s.bits)).map ldK } (L++js b 0 (2 ^ s.bits)) s.bits f).long:Nat):Int)=s.jO+1:=by show ((s.jO.toNat+1:Nat):Int)=_;rw[B];rfl
 unfold jD;rw[d,c,<- oH];exact Nk e0 J E g q v ef
mutual
theorem OR:∀w:Wi,gH w<=900->SzW w
 |.any,_=>by solve_by_elim
 |.txt _,_=>by solve_by_elim
 |.has s,h=>by rw[gH]at h;exact Ip s Ž
 |.both w,h=>by rw[gH]at h;exact Iq w Ž
 |.one w,h=>by rw[gH]at h;exact Iq w Ž
theorem Iq:∀w:Ws,mf w<=900->YZ w
 |.nil,_=>by solve_by_elim
 |.cons w r,h=>by rw[mf]at h;have:=t6 r;rw[YZ];exact⟨⟨Ž,OR w Ž⟩,Iq r Ž⟩
theorem Ip:∀s:Ss,k9 s<=900->SzS s
 |.nil,_=>by solve_by_elim
 |.cons b a w r,h=>by rw[k9]at h;rw[SzS];exact⟨OR w Ž,Ip r Ž⟩
end
mutual
theorem aaO{F:Fa}(a:F.long<=20):∀w:Wi,Ot F w<=BA w*42+gH w
 |.any=>by simp[Ot]
 |.txt _=>by solve_by_elim
 |.has s=>by have:=Ui a 0 s;grind [Ot,BA,gH]
 |.both w=>by have:=XU a w;simp only[Ot,BA,gH];lia
 |.one w=>by have:=XU a w;simp only[Ot,BA,gH];lia
theorem XU{F:Fa}(a:F.long<=20):∀w:Ws,HQ F w<=Co w*42+mf w
 |.nil=>by simp[HQ]
 |.cons w r=>by have:=aaO a w;have:=XU a r;grind [HQ,Co,mf,yK]
theorem Ui{F:Fa}(a:F.long<=20)(e:Nat):∀s:Ss,Uj F e s<=e+vw s*42+k9 s
 |.nil=>by solve_by_elim
 |.cons b c w r=>by have:=aaO a w;have:=Ui a e r;grind [Uj,vw,k9,yK]
end
def Qe{F:Fa}:mz F (λf=>f=[.mk]) [(F.mark,[Cz])]:=by
 have:=mz.one (F:=F) (f:=[.mk]);rw[JW]at this;exact this
def Nb{F:Fa}(J:JO F b)(c:F.long<=20)(a:Ss)(n:EZ a)(d:mU a<=12)(z:k9 a<=900)(e:vw a<=18):qg [jD F b,.lst (dH a)]=Y (wD (ng F [(F.mark,[Cz])] a)):=by
 let f:=Ui c 1 a;let⟨x,y,q⟩:=w6 J a (e:=1) Ÿ Qe 11 d n (Ip a z) Ž;let h:=Cm q;refine jI ?_
 exact Ÿ
def N6(d:D):Prop:=(∃n,d=wL n)\/(∃t,d=Zt t)\/d=O5\/d=Cz
mutual
theorem W0:∀(t:Tr),∀d∈K30.BN t,N6 d
 |.txt t,d,h=>by rw[K30.BN]at h;simp at h;exact .inr (.inl ⟨t,h⟩)
 |.mk,d,h=>by rw[K30.BN]at h;simp at h;exact .inr (.inr (.inr h))
 | .nd n f,d,h=>by
  rcases aq.mp h with h|h
  .exact Ÿ
  .rcases aA.mp h with h|h
   .exact Iy f d h
   .simp at h;exact .inr (.inr (.inl h))
theorem Iy:∀(f:List Tr),∀d∈jr f,N6 d
 |[],d,h=>by simp[jr]at h
 |t::f,d,h=>by exact(aA.mp h).elim (W0 t d) (Iy f d)
end
def Ja(h:N6 d)(n:Nat):jg d (n+2)=true:=by
 rcases h with⟨x,rfl⟩|⟨x,rfl⟩|rfl|rfl<;>simp[wL,Zt,O5,Cz,jg,iA]
theorem F9{n:Nat}:∀ {l:List D},(∀d∈l,N6 d)->iA l (n+2)=Z'
 |[],_=>rfl|d::l,h=>by rw[iA,Ja (h d (by simp)),F9 λx a=>h x (by simp[a])];rfl
theorem JA{p:D->Bool}:∀ {l:List D},(∀d∈l,U [Y d]=Y (p d))->oh [M] (gN 0) U (eV 0) l=Y (l.filter p)
 |[],_=>rfl|d::l,h=>by rw[oh,show gN 0 d _=Y [Y d] from rfl];simp only[ah,h d (by simp),(JA (l:=l) λx a=>h x (by simp[a])),dJ];cases p d<;>rfl
abbrev P8(d:D):Bool:= !nO d Cz
def XG(n:aH):P8 (wL n)=true:=by solve_by_elim
def XI:P8 O5=true:=by kernel_rfl
def XH:P8 Cz=false:=by kernel_rfl
mutual
def V6:Tr->List D
 |.txt t=>[.str t]|.mk=>[]|.nd n f=>[L2.part n (rE f)]
def rE:List Tr->List D
 |[]=>[]|t::f=>V6 t++rE f
end
mutual
theorem WE:∀(t:Tr) (x:aH) (a:List D) (c:Zs) (b r:List D),wA ((K30.BN t).filter P8++r) ((x,a)::c,b)=wA r ((x,a++V6 t)::c,b)
 |.txt t,x,a,c,b,r=>by solve_by_elim
 |.mk,x,a,c,b,r=>by rw[K30.BN,dJ,XH,V6];simp
 | .nd n f,x,a,c,b,r=>by
  rw[K30.BN,dJ,XG,Cd];simp only[if_true,dJ,XI,List.filter_nil,cT,bD,bL,wA];let d:vn ((x,a)::c,b) (wL n)=Y ((n,[])::(x,a)::c,b):=by solve_by_elim
  rw[d,ah,Ia f n [] _ b _]
  exact Ÿ
theorem Ia:∀(f:List Tr) (x:aH) (a:List D) (b:Zs) (c r:List D),wA ((jr f).filter P8++r) ((x,a)::b,c)=wA r ((x,a++rE f)::b,c)
 |[],x,a,b,c,r=>by simp[jr,rE]
 |t::f,x,a,b,c,r=>by rw[jr,rE,Cd,bD,WE t,Ia f,bD]
end
def OS{n:aH}{f:List Tr}(h:(jr [.nd n f]).length<=100000):oU [.lst ((jr [.nd n f]).filter P8)]=Y (L2.part n (rE f)):=by
 let e:(jr [.nd n f]).filter P8=wL n::((jr f).filter P8++[O5]):=by
  rw[jr,jr,K30.BN,br,dJ,Cd]
  exact Ÿ
 let r:wA ((jr [.nd n f]).filter P8) ([],[])=Y ([],[L2.part n (rE f)]):=by
  rw[e,wA];let a:vn ([],[]) (wL n)=Y ([(n,[])],[]):=by solve_by_elim
  rw[a,ah,Ia f n [] [] [] _]
  exact Ÿ
 unfold oU;simp only;rw[if_pos (aV (WA ..) h),r];rfl
theorem SF{F:Fa}:∀k,∃m h,mV F k (.nd n g)=.nd m h
 |0=>⟨n,g,rfl⟩|k+1=>⟨_,_,rfl⟩
def Y1{F:Fa}{s:Ss}(c:s ≠ .nil){f:List Tr}(h:MS F [.mk] s f):∃n g,f=[.nd n g]:=by
 cases s with
 |nil=>simp_all|cons b a w r=>
  let⟨g,h,k,_,_,_,e⟩:=h
  simp_all [SF,eX]
def Lf{f:DF}{l:List D}(h:f a=Y (.tup l))(c:l.length<=10000)(b:iU [M] a=[M])(k:∀d∈l,U [Y d]=Y (p d)):eF (jN (Ut f) [M] (gN 0) U (eV 0)) a=Y (.lst (l.filter p)):=by
 unfold eF jN Ut;rw[h];simp only[ah];rw[if_pos (aV c (by decide)),b,JA k];rfl
def T9(h:N6 d):cz (e2 Gc (eV 0) (eK (.tup (gV.map D.str)))) [Y d]=Y (P8 d):=by
 have:e2 Gc (eV 0) (eK (.tup (gV.map _))) [Y d]=Gc d Cz:=rfl;unfold cz;rw[this];unfold Gc;rw[if_pos (by rw[Ja h 178];rfl)];rfl
theorem LM(R:List D):∀a:List aH,(a.map wL++Cz::R).findIdx? (λy=>nO y Cz)=Y a.length
 |[]=>by solve_by_elim
 |n::a=>by rw[a9,cT,List.findIdx?_cons,LM R a];rfl
def Pw{n:aH}{f:List Tr}{j:Nat}(p:E8 (j+1) [.nd n f])(k:(jr [.nd n f]).length<=10000):dO [.tup (jr [.nd n f])]=Y (.tup [L2.part n (rE f),.int (j:Nat)]):=by
 let g:=Iy [.nd n f];let i:=OS (n:=n) (f:=f) Ž;let⟨c,R,u,v⟩:=WZ p;rw[u]at g i k ⊢;let t:=LM R c;let m:(c.map wL++Cz::R).take c.length=c.map wL:=by simp
 have B:c.length<(c.map wL++Cz::R).length:=ż
 generalize c.map wL++Cz::R=e at *
 let r:∀a b:Option D,NJ (eV 0) (eK (.tup (gV.map D.str))) [Y (.tup e),a,b]=Y (.int (c.length:Nat)):=λa b=>by unfold NJ;rw[show eV 0 [Y (D.tup e),a,b]=Y (.tup e) from rfl,show eK (D.tup (gV.map D.str)) [Y (D.tup e),a,b]=Y Cz from rfl];simp only[ah];rw[if_pos (by rw[Ja (.inr (.inr (.inr rfl)):N6 Cz) 168,F9 (n:=168) g];rfl),t];rfl
 let o:∀a b:Option D,UO (eV 0) pN (pS (NJ (eV 0) (eK (.tup (gV.map D.str))))) [Y (.tup e),a,b]=Y (.tup (c.map wL)):=λa b=>by
  unfold UO;rw[show eV 0 [Y (D.tup e),a,b]=Y (.tup e) from rfl,show pN [Y (D.tup e),a,b]=Y M from rfl];have:pS (NJ (eV 0) (eK (.tup (gV.map D.str)))) [Y (.tup e),a,b]=Y (Y (c.length:Int)):=by unfold pS;rw[r];rfl
  rw[this];simp only[ah];rw[if_neg (λz=>by grind [HT.Td]),RK _ (by lia),cI,m]
 show (ik [Y (.tup e),M,M]).bind mW=_;unfold ik;rw[az (dD (o M M))];simp only[bj,bo];let A:eF (jN (Ut (eV 1)) [M] (gN 0) am (eV 0)) [Y (.tup e),Y (.tup (c.map wL)),M]=Y (.lst ((c.map wL).filter λz=>Z')):=by
  refine Lf rfl (by simp;lia) rfl λd h =>?_
  let⟨x,_,rfl⟩:=a7.1 h
  exact Ÿ
 let s:e2 mr (aO eW Ë) v6 [Y (.tup e),Y (.tup (c.map wL)),M]=Y (.int (j:Nat)):=by
  let l:=mH (G:=eW) A;unfold e2 at l ⊢;rw[l];let q:((c.map wL).filter λz=>Z').length=j+1:=by rw[List.filter_eq_self.2 λz z=>rfl,aG,v]
  show Y (D.int (((((c.map wL).filter λz=>Z').length:Nat):Int)-1))=_
  simp_all
 rw[az (dD s)];simp only[bj,bo];let y:eF (jN (Ut (eV 0)) [M] (gN 0) (cz (e2 Gc (eV 0) (eK (.tup (gV.map D.str))))) (eV 0)) [Y (.tup e),Y (.tup (c.map wL)),Y (.int (j:Nat))]=Y (.lst (e.filter P8)):=Lf rfl k rfl λd h=>T9 (g d h)
 let w:=(mH (G:=oU) y).trans i;exact jI (DS w rfl)
theorem yf{a b:Option D}:∀(W:Wy) (x y:Option D),(∀p∈W,∃d,dO [.tup p.2]=Y (.tup d))->((∀p∈W,p.1.testBit 0=Z')/\∃k j,dz (yA 2 3) jh (W.map wI) [a,b,x,y]=Y (.nx [a,b,k,j]))\/(∃p∈W,p.1.testBit 0=Z_/\∃d,dO [.tup p.2]=Y (.tup d)/\dz (yA 2 3) jh (W.map wI) [a,b,x,y]=Y (.rt (.tup d)))
 |[],x,y,_ =>.inl ⟨ż,x,y,rfl⟩
 | p::W,x,y,h=>by
  have f:i6 (eS (e2 nJ (eV 2) v6)) [a,b,Y (.int (p.1:Int)),Y (.tup p.2)]=Y (!p.1.testBit 0):=by have:eS (e2 nJ (eV 2) v6) [a,b,Y (.int (p.1:Int)),Y (.tup p.2)]=Y (bA _ (2 ^ 0) != 0):=rfl;unfold i6;rw[this,Mi];rfl
  cases i:p.1.testBit 0 with
  |true=>
   rw[i]at f;have g:jh [a,b,Y (.int p.1),Y (.tup p.2)]=Y (.nx [a,b,Y (.int (p.1:Int)),Y (.tup p.2)]):=by unfold jh;rw[fq f];rfl
   rw[a9,dF rfl g];rcases yf W _ _ (λq c=>h q (by simp[c])) with⟨u,v⟩|⟨q,m,v⟩
   .refine .inl ⟨λq c =>?_,v⟩;rcases aq.mp c with rfl|c
    .exact i
    .exact u q c
   .exact .inr ⟨q,by simp[m],v⟩
  |false=>
   rw[i]at f;let⟨d,e⟩:=h p ż;refine .inr ⟨p,ż,i,d,e,?_⟩;have g:jh [a,b,Y (.int (p.1:Int)),Y (.tup p.2)]=Y (.rt (.tup d)):=by
    unfold jh;rw[gy f];let l:∀F,aO F Sc [a,b,Y (.int (p.1:Int)),Y _]=F [.tup p.2]:=λF=>rfl
    simp_all [dM]
   rw[a9,dz,show yA 2 3 (wI p) _=Y _ from rfl]
   simp_all
structure ZJ(TL:List aH)(a:Ss):Prop where
 n:EZ a
 o:R3 (· ∈ TL) a
 ne:a ≠ .nil
 d:mU a<=12
 z:k9 a<=900
 s:vw a+TL.length<=18
theorem L6{F:Fa}{t:Tr}:∀k,nX [mV F k t]=k+Dx t
 |0=>by simp[mV,nX]
 |k+1=>by have:=L6 (F:=F) (t:=t) k;grind [nX,mV,Dx]
def kb{b:Bool}(h:k<=if b=Z' then l else 0):k<=b.toNat*l:=by cases b<;>simp_all
mutual
theorem RM{F:Fa}:∀(w:Wi){f:List Tr},MW F w f->nX f<=BA w+Su w*F.long
 |.any,f,h=>by let h:f=[]:=h;simp_all [nX]
 |.txt t,f,h=>by let h:f=[.txt t]:=h;simp_all [nX,Dx]
 |.has s,f,h=>by have:=RN s h;simp_all [nX,BA,Su]
 |.both w,f,h=>Wn w h|.one w,f,h=>Wm w h
theorem Wn{F:Fa}:∀(w:Ws){f:List Tr},MA F w f->nX f<=Co w+JI w*F.long
 |.nil,f,h=>by let h:f=[]:=h;simp_all [nX]
 |.cons w r,f,⟨g,h,a,b,e⟩=>by subst e;have:=RM w a;have:=Wn r b;simp only[L7,Co,JI,yK];lia
theorem Wm{F:Fa}:∀(w:Ws){f:List Tr},ME F w f->nX f<=Co w+JI w*F.long
 |.nil,_,h=>h.elim| .cons w r,_,h=>by
  simp only[Co,JI,yK];rcases h with h|h
  .have:=RM w h;lia
  .have:=Wm r h;lia
theorem RN{F:Fa}:∀(s:Ss){f:List Tr},MS F d s f->nX f<=nX d+vw s+Fn s*F.long
 |.nil,f,h=>by let h:f=d:=h;grind
 |.cons b i w r,f,⟨g,h,k,a,c,l,e⟩=>by subst e;have:=RN r a;have:=RM w c;have:=kb l;rw[L6];simp only[Dx,L7,vw,Fn,yK];lia
end
abbrev Within(a b:Ss):Prop:=f9 [.lst (dH a),.lst (dH b)]=Y .dr
def Af{H:List aH}{a b:Ss}(c:ZJ H a)(r:ZJ H b):Within a b\/(∃n g j,f9 [.lst (dH a),.lst (dH b)]=Y (.tup [L2.part n (rE g),.int (j:Nat)])/\E8 (j+1) [.nd n g]/\kZ Mk a [.nd n g]/\¬kZ Mk b [.nd n g]/\nX [.nd n g]<=vw a+Fn a*20/\(jr [.nd n g]).length<=10000):=by
 let⟨F,P,O,J,o,R⟩:=QF b r.n r.o r.ne r.d r.z r.s;let N:=Nb J o a c.n c.d c.z (by have:=c.s;lia);let I:=vq F (g0:=[.mk]) a (W:=[(F.mark,[Cz])]) Qe;let S:=Ui o 1 a;let T:=c.z;let U:=c.s;have A:∀p∈ng F [(F.mark,[Cz])] a,∃f n g j,f=[Tr.nd n g]/\MS F [.mk] a f/\p.1=fA F f/\p.2=jr f/\E8 (j+1) f/\(jr f).length<=10000/\dO [.tup p.2]=Y (.tup [L2.part n (rE g),.int (j:Nat)]):=λp t=>by
  let⟨f,m,v,e⟩:=I.snd p t;let⟨n,g,rfl⟩:=Y1 c.ne m;let⟨j,k,q⟩:=R6 a m;obtain⟨j,rfl⟩:∃i,j=i+1:=⟨j-1,by have:=q c.ne;lia⟩;have o:(jr [.nd n g]).length<=10000:=by have:=El (e:=1) (by simp[jr,K30.BN]) a m;lia
  refine⟨_,n,g,j,rfl,m,v.symm,e.symm,k,o,?_⟩;rw[<- e];exact Pw k o
 have B:ku (aO qg È) [Y (.lst (dH a)),Y (.lst (dH b)),M,M]=Y ((ng F [(F.mark,[Cz])] a).map wI):=by
  let v:ph "Judge" dZ u8 [Y (.lst (dH a)),Y (.lst (dH b)),M,M]=Y (jD F P):=by
   let K:∀G:List D->Option (D×D),ph "Judge" G u8 [Y (.lst (dH a)),Y (.lst (dH b)),M,M]=(G _).bind _:=λG=>rfl
   rw[K,O];rfl
  let E:aO qg È [Y (.lst (dH a)),Y (.lst (dH b)),M,M]=Y (wD (ng F [(F.mark,[Cz])] a)):=by rw[uq v rfl];exact N
  unfold ku;rw[E,<- C_];rfl
 let w:f9 [.lst (dH a),.lst (dH b)]=(xI [Y (.lst (dH a)),Y (.lst (dH b)),M,M]).bind mW:=rfl;unfold Within;rw[w];unfold xI;rcases yf (a:=Y (.lst (dH a))) (b:=Y (.lst (dH b))) _ M M (λp t=>by let⟨_,_,_,_,_,_,_,_,_,_,e⟩:=A p t;exact⟨_,e⟩) with⟨u,x,y,q⟩|⟨p,t,u,d,e,q⟩
 .refine .inl ?_;rw[az ((eD B).trans q)];rfl
 .let⟨f,n,g,j,rfl,m,v,E,k,l,C⟩:=A p t;let Q:=RN a m;have:Fn a*F.long<=Fn a*20:=Nat.mul_le_mul_left _ o;refine .inr ⟨n,g,j,?_,k,MS.lead a (λL L s h=>s _ h) (λL=>ż) m,λz =>?_,by simp only[nX,Dx]at Q ⊢;lia,l⟩
  .rw[e]at C;cases C;unfold ba;rw[eD B,q];rfl
  .have:=AB (E:=Mk) (λf m=>AY m) b 0 _ R z
   simp_all
theorem rO:∀w:Ws,(i4 w).length=fX w
 |.nil=>rfl|.cons _ r=>by rw[i4,aJ,rO r];rfl
def zq{f:DF}{b:Nat}(h:f c=Y (.int (a:Nat)))(k:g c=Y (.int (b:Nat))):e2 c6 f g c=Y (.int ((a+b:Nat):Int)):=by
 unfold e2;rw[h,k]
 exact Ÿ
def uh{x:String}(h:eV 0 a=Y (.tup (kS x::r))):cz (e2 fF (e2 bF (eV 0) f8) (eK (kS k))) a=cz (λ_=>fF (kS x) (kS k)) []:=by
 let e:e2 bF (eV 0) f8 a=Y (kS x):=by unfold e2;rw[h];exact d6 rfl
 unfold cz e2 at *
 rw[e];rfl
def Gx{x:String}(h:eV 0 a=Y (.tup (kS x::r))):cz (e2 IR (e2 bF (eV 0) f8) Db) a=cz (λ_=>vi Z_ (kS x) (.tup [kS "both",kS "one"])) []:=by
 let e:e2 bF (eV 0) f8 a=Y (kS x):=by unfold e2;rw[h];exact d6 rfl
 unfold cz e2 at *
 rw[e];rfl
def AG{x y:D}{r:List D}{ρ:bP}(h:eV 0 ρ=Y (.tup (x::y::r))):e2 bF (eV 0) v6 ρ=Y y:=by
 unfold e2;rw[h];exact d6 rfl
mutual
theorem Ej:∀w:Wi,(lK w).length+1<=2*gH w
 |.any=>by solve_by_elim
 |.txt _=>by solve_by_elim
 | .has s=>by
  have:=Jt s
  grind [lK,gH,aJ,aI,aG]
 |.both w=>by have:=Ju (decide (1<fX w)) w;simp only[lK,gH,aJ,aG];lia
 |.one w=>by have:=Ju (decide (1<fX w)) w;simp only[lK,gH,aJ,aG];lia
theorem Ju(a:Bool):∀w:Ws,(vj a w).length<=2*mf w
 |.nil=>by simp[vj]
 | .cons w r=>by
  have:=Ej w;have:=Ju a r
  grind [vj,mf,aI,aG]
theorem Jt:∀s:Ss,(rB s).length+3*hJ s<=2*k9 s
 |.nil=>by solve_by_elim
 | .cons b a w r=>by
  have:=Ej w;have:=Jt r
  grind [rB,k9,hJ,aI,aG]
end
def z9(k n:Nat):fx (k:Nat) (n+1)=.int (k:Nat)::fx ((k+1:Nat):Int) n:=by
 unfold fx;rw[wJ]
 grind [bB,ZS,ZQ]
def sL{f:DF}{a:bP}{l:List D}(h:eV i a=Y (.lst l))(k:f a=Y d)(b:l.length<cY):sf i f a=Y (.nx (a.set i (Y (.lst (l++[d]))))):=by
 simp_all [sf,dW,ah,if_pos]
def B5{f g:DF}{ρ:bP}{a b:List D}(h:f ρ=Y (.lst a))(k:g ρ=Y (.lst b))(l:a.length+b.length<=cY):e2 c6 f g ρ=Y (.lst (a++b)):=by
 simp_all [e2,ah,c6,if_pos]
def tj{f:DF}{a:List D}(h:f b=Y (.lst a))(i:g b=Y (.int (k:Nat))):eF (lY f pN (pS g)) b=Y (.lst (a.take k)):=by
 unfold eF lY pS pN
 simp_all [ah,da,RK]
def nP{f:DF}{b:bP}{a:List D}(h:f b=Y (.lst a))(i:g b=Y (.int (k:Nat))):eF (lY f (pS g) pN) b=Y (.lst (a.drop k)):=by
 unfold eF lY pS pN
 simp_all [ah,da,Bc]
def yZ{f:DF}{a:List D}(h:f c=Y (.lst a))(b:a.length<=2000):wM (aO eW (aC f aN)) c=Y (fx ((0:Nat):Int) a.length):=by
 let d:aO eW (aC f aN) c=Y (.int a.length):=by rw[mH h];rfl
 grind [Er,mZ,jB,cI]
theorem La{x:String}{P R:List D}(f:P.length+R.length+1<=2000):∀(L:List Wi) (a:List D) (e:Option D),a.length+L.length<=4000->∃b,dz (gN 6) (oQ A B) (L.map bQ) [Y (.tup [kS x,.lst l]),Y (.lst a),c,d,Y (.lst P),Y (.lst R),e]=Y (.nx [Y (.tup [kS x,.lst l]),Y (.lst (a++L.map λw =>.tup [kS x,.lst (P++bQ w::R)])),c,d,Y (.lst P),Y (.lst R),b])
 |[],a,e,_=>⟨e,by simp[dz]⟩
 | w::L,a,e,h=>by
  simp at h;let⟨b,ih⟩:=La f L (a++[.tup _]) _ (by simp;lia);refine⟨b,?_⟩;let i:e2 c6 (e2 c6 (eV 4) Õ) (eV 5) [Y (.tup [kS x,.lst l]),Y (.lst a),c,d,Y (.lst P),Y (.lst R),Y (bQ w)]=Y (.lst (P++bQ w::R)):=by
   have:=B5 (f:=e2 c6 (eV 4) Õ) (g:=eV 5) (ρ:=[Y (.tup [kS x,.lst l]),Y (.lst a),c,d,Y (.lst P),Y (.lst R),Y (bQ w)]) (B5 rfl rfl (aV (show _<=2000 by simp;lia) ſ)) rfl (aV (show _<=2000 by simp;lia) ſ)
   simp_all
  let g:oQ A B [Y (.tup [kS x,.lst l]),Y (.lst a),c,d,Y (.lst P),Y (.lst R),Y (bQ w)]=Y (.nx [Y (.tup [kS x,.lst l]),Y (.lst (a++[.tup [kS x,.lst (P++bQ w::R)]])),c,d,Y (.lst P),Y (.lst R),Y (bQ w)]):=by unfold oQ;rw[sL rfl (DS rfl i) (me (show a.length<=4000 by lia) (aY (by decide) ES))];rfl
  rw[a9,dF rfl g,ih];simp
abbrev dn(s:Ss):D :=.lst (dH s)
def Bh(h:n<=4000):n<cY:=me h (aY ſ ES)
def Qj{bg:Bool}{P R fd:List D}(h:B [bQ w]=Y ((lK w).map bQ))(l:P.length+R.length+1<=2000)(p:fd.length+(lK w).length+1<=4000)(f:decide (1<(P++bQ w::R).length)=bg):∃a,oP A B [Y (.tup [kS x,.lst (P++bQ w::R)]),Y (.lst fd),b,Y (.int (P.length:Nat)),g,e,c]=Y (.nx [Y (.tup [kS x,.lst (P++bQ w::R)]),Y (.lst ((fd++(lK w).map λq =>.tup [kS x,.lst (P++bQ q::R)])++if bg=Z' then [.tup [kS x,.lst (P++R)]] else [])),b,Y (.int (P.length:Nat)),Y (.lst P),Y (.lst R),a]):=by
 unfold oP;let o:eF (lY (e2 bF (eV 0) v6) pN (pS (eV 3))) [Y (.tup [kS x,.lst (P++bQ w::R)]),Y (.lst fd),b,Y (.int (P.length:Nat)),g,e,c]=Y (.lst P):=by rw[tj (AG rfl) rfl];simp
 rw[az (dD o)];simp only[bj,bo];let n:eF Î [Y (.tup [kS x,.lst (P++bQ w::R)]),Y (.lst fd),b,Y (.int (P.length:Nat)),Y (.lst P),e,c]=Y (.lst R):=by rw[nP (AG rfl) (zq (b:=1) rfl rfl)];simp
 rw[az (dD n)];simp only[bj,bo];let⟨a,m⟩:=La (x:=x) (P:=P) l (lK w) fd c Ž;let i:iL (eF (dG B (aC (e2 bF (e2 bF (eV 0) v6) (eV 3)) aN))) [Y (.tup [kS x,.lst (P++bQ w::R)]),Y (.lst fd),b,Y (.int (P.length:Nat)),Y (.lst P),Y (.lst R),c]=Y ((lK w).map bQ):=by
  let k:e2 bF (e2 bF (eV 0) v6) (eV 3) [Y (.tup [kS x,.lst (P++bQ w::R)]),Y (.lst fd),b,Y (.int (P.length:Nat)),Y (.lst P),Y (.lst R),c]=Y (bQ w):=by
   have:=AG (ρ:=[Y (.tup [kS x,.lst (P++bQ w::R)]),Y (.lst fd),b,Y (.int (P.length:Nat)),Y (.lst P),Y (.lst R),c]) rfl;show vk (P++bQ w::R) ((P.length:Nat):Int)=_
   simp_all [d6]
  let j:dG B (aC (e2 bF (e2 bF (eV 0) v6) (eV 3)) aN) [Y (.tup [kS x,.lst (P++bQ w::R)]),Y (.lst fd),b,Y (.int (P.length:Nat)),Y (.lst P),Y (.lst R),c]=Y ((lK w).map bQ):=by unfold dG aC;rw[k];exact h
  unfold iL eF;rw[j];rfl
 rw[az ((eD i).trans m)];refine⟨a,?_⟩;have d:cz wp [Y (.tup [kS x,.lst (P++bQ w::R)]),Y (.lst (fd++(lK w).map λq =>.tup [kS x,.lst (P++bQ q::R)])),b,Y (.int (P.length:Nat)),Y (.lst P),Y (.lst R),a]=Y (decide (1<(P++bQ w::R).length)):=by
  let r:=mH (G:=eW) (AG (ρ:=[Y (.tup [kS x,.lst (P++bQ w::R)]),Y (.lst (fd++(lK w).map λq =>.tup [kS x,.lst (P++bQ q::R)])),b,Y (.int (P.length:Nat)),Y (.lst P),Y (.lst R),a]) rfl);unfold cz;show Y _=_
  congr 1
  rw[decide_eq_decide]
  lia
 rw[f]at d;clear f;cases bg with
 |true=>rw[gy d,sL rfl (DS rfl (B5 (a:=P) (b:=R) rfl rfl (aV (show _<=2000 by lia) (by decide)))) (Bh (by simp;lia))];rfl
 |false=>rw[fq d];simp;rfl
theorem Jw{bg:Bool}{x:String}{A B:List D->Option (List D)}{n:Nat}{s2:Option D}:∀(r:Ws) (P a:List D) (e d c b:Option D),(∀w,h_ w<=n->gH w<=900->B [bQ w]=Y ((lK w).map bQ))->uo r<=n->mf r<=900->P.length+fX r<=1000->a.length+2*mf r<=3900->decide (1<(P++i4 r).length)=bg->∃i h g f,dz (gN 3) (oP A B) (fx ((P.length:Nat):Int) (fX r)) [Y (.tup [kS x,.lst (P++i4 r)]),Y (.lst a),s2,e,d,c,b]=Y (.nx [Y (.tup [kS x,.lst (P++i4 r)]),Y (.lst (a++(vj bg r).map λq =>.tup [kS x,.lst (P++i4 q)])),s2,i,h,g,f])
 |.nil,P,a,e,d,c,b,_,_,_,_,_,_=>⟨e,d,c,b,by simp[fX,fx,dz,vj]⟩
 | .cons w r,P,a,e,d,c,b,k,s,m,u,p,t=>by
  simp only[uo]at s;simp only[mf]at m p;simp only[fX]at u;let y:=Ej w;let o:=rO r;let⟨j,l⟩:=Qj (fd:=a) (k w Ž Ž) Ž Ž t;have v:P++[bQ w]++i4 r=P++i4 (.cons w r):=by simp[i4]
  let⟨i,h,g,f,ih⟩:=Jw (bg:=bg) r (P++[bQ w]) (a++(lK w).map _++if bg=Z' then [.tup _] else []) _ _ _ j k Ž Ž (by simp;lia) ŷ Ż;refine⟨i,h,g,f,?_⟩;rw[fX,z9,dF rfl l];rw[v,show (P++[bQ w]).length=P.length+1 by simp]at ih;refine ih.trans ?_;simp only[vj,gx,iq,bB,bD,i4]
  grind
theorem Lc{A B:List D->Option (List D)}{P R:List D}{a b:aH}{s5:D}(i:P.length+R.length+1<=2000):∀(L:List Wi) (c:List D) (e:Option D),c.length+L.length<=4000->∃d,dz (gN 6) (oS A B) (L.map bQ) [Y (.lst (P++x::R)),Y (.lst c),Y (.int (P.length:Nat)),Y (.str a),Y (.str b),Y s5,e]=Y (.nx [Y (.lst (P++x::R)),Y (.lst (c++L.map λw =>.lst (P++lp a b (bQ w)::R))),Y (.int (P.length:Nat)),Y (.str a),Y (.str b),Y s5,d])
 |[],c,e,_=>⟨e,by simp[dz]⟩
 | w::L,c,e,h=>by
  simp at h;let⟨d,ih⟩:=Lc i L (c++[.lst _]) _ (by simp;lia);refine⟨d,?_⟩;let j:eF (lY (eV 0) pN (pS (eV 2))) [Y (.lst (P++x::R)),Y (.lst c),Y (.int P.length),Y (.str a),Y (.str b),Y s5,Y (bQ w)]=Y (.lst P):=by rw[tj rfl rfl];simp
  let f:eF (lY (eV 0) (pS (e2 c6 (eV 2) v6)) pN) [Y (.lst (P++x::R)),Y (.lst c),Y (.int P.length),Y (.str a),Y (.str b),Y s5,Y (bQ w)]=Y (.lst R):=by rw[nP rfl (zq rfl rfl)];simp
  let g:oS A B [Y (.lst (P++x::R)),Y (.lst c),Y (.int (P.length:Nat)),Y (.str a),Y (.str b),Y s5,Y (bQ w)]=Y (.nx [Y (.lst (P++x::R)),Y (.lst (c++[.lst (P++lp a b (bQ w)::R)])),Y (.int (P.length:Nat)),Y (.str a),Y (.str b),Y s5,Y (bQ w)]):=by unfold oS;rw[sL rfl (B5 (B5 j (rfl) (aV (show _<=2000 by simp;lia) (by decide))) f (aV (show _<=2000 by simp;lia) (by decide))) (Bh (by lia))];simp
  rw[a9,dF rfl g,ih];simp
def Qn{A B:List D->Option (List D)}{a b:aH}{P R fd:List D}{a3 a4 a5 a6:Option D}(h:B [bQ w]=Y ((lK w).map bQ))(e:P.length+R.length+1<=2000)(f:fd.length+(lK w).length<=4000):∃c,oR A B [Y (.lst (P++lp a b (bQ w)::R)),Y (.lst fd),Y (.int (P.length:Nat)),a3,a4,a5,a6]=Y (.nx [Y (.lst (P++lp a b (bQ w)::R)),Y (.lst (fd++(lK w).map λq =>.lst (P++lp a b (bQ q)::R))),Y (.int (P.length:Nat)),Y (.str a),Y (.str b),Y (bQ w),c]):=by
 unfold oR;let i:e2 bF (eV 0) (eV 2) [Y (.lst (P++lp a b (bQ w)::R)),Y (.lst fd),Y (.int (P.length:Nat)),a3,a4,a5,a6]=Y (lp a b (bQ w)):=by
  show vk _ ((P.length:Nat):Int)=_
  simp_all [d6]
 let d:BO (LI 3 4 5) (e2 bF (eV 0) (eV 2)) [Y (.lst (P++lp a b (bQ w)::R)),Y (.lst fd),Y (.int (P.length:Nat)),a3,a4,a5,a6]=Y (.nx [Y (.lst (P++lp a b (bQ w)::R)),Y (.lst fd),Y (.int (P.length:Nat)),Y (.str a),Y (.str b),Y (bQ w),a6]):=by unfold BO;rw[i];rfl
 rw[az d];let⟨c,g⟩:=Lc (A:=A) (B:=B) (P:=P) (R:=R) (a:=a) (b:=b) (s5:=bQ w) e (lK w) fd a6 f;refine⟨c,(eD ?_).trans g⟩;have:∀G:List D->Option (List D),iL (eF (dG G É)) [Y (.lst (P++lp a b (bQ w)::R)),Y (.lst fd),Y (.int (P.length:Nat)),Y (.str a),Y (.str b),Y (bQ w),a6]=((G [bQ w]).map D.lst).bind _:=λG=>rfl
 rw[this,h];rfl
theorem Qo{A B:List D->Option (List D)}{n:Nat}:∀(r:Ss) (P a:List D) (h g f e d:Option D),(∀w,h_ w<=n->gH w<=900->B [bQ w]=Y ((lK w).map bQ))->mU r<=n+1->k9 r<=900->P.length+hJ r<=1000->a.length+2*k9 r<=3900->∃m l k j i,dz (gN 2) (oR A B) (fx ((P.length:Nat):Int) (hJ r)) [Y (.lst (P++dH r)),Y (.lst a),h,g,f,e,d]=Y (.nx [Y (.lst (P++dH r)),Y (.lst (a++(rB r).map λq =>.lst (P++dH q))),m,l,k,j,i])
 |.nil,P,a,h,g,f,e,d,_,_,_,_,_=>⟨h,g,f,e,d,by simp[hJ,fx,dz,rB]⟩
 | .cons b c w r,P,a,h,g,f,e,d,p,y,u,z,x=>by
  simp only[mU]at y;simp only[k9]at u x;simp only[hJ]at z;let E:=Ej w;let v:(dH r).length=hJ r:=by
   have:∀s:Ss,gY s=hJ s:=by
    intro s
    induction s using Ss.rec (motive_1:=λ_=>True) (motive_2:=λ_=>True)<;>first|trivial|rfl|solve_by_elim
   rw[xi,this]
  let⟨o,t⟩:=Qn (A:=A) (a:=dR b) (b:=bx c) (a3:=g) (a4:=f) (a5:=e) (a6:=d) (P:=P) (R:=dH r) (fd:=a) (p w Ž Ž) Ž Ž;let C:P++[lp (dR b) (bx c) (bQ w)]++dH r=P++dH (.cons b c w r):=by simp[dH]
  let⟨m,l,k,j,i,ih⟩:=Qo (A:=A) (B:=B) (n:=n) r (P++[lp (dR b) (bx c) (bQ w)]) (a++(lK w).map _) (Y (.int (P.length:Nat))) (Y (.str (dR b))) (Y (.str (bx c))) (Y (bQ w)) o p Ž Ž (by simp;lia) (by simp;lia);refine⟨m,l,k,j,i,?_⟩;rw[hJ,z9,dF rfl t];rw[C,show ((P++[lp (dR b) (bx c) (bQ w)]).length:Nat)=P.length+1 by simp]at ih;refine ih.trans ?_;simp only[rB,gx,iq,bB,bD,dH];simp
theorem CY:∀s:Ss,(dH s).length=hJ s
 |.nil=>rfl|.cons _ _ _ r=>by rw[dH,aJ,CY r];rfl
theorem Ql:∀s:Ss,hJ s<=k9 s
 |.nil=>by simp[hJ]
 |.cons _ _ w r=>by have:=Ql r;grind [hJ,k9]
theorem JH:∀s:Ss,dH (fP s)=(dH s).dropLast
 |.nil=>rfl|.cons _ _ _ .nil=>rfl| .cons b e w (.cons d a c r)=>by
  have:=JH (.cons d a c r)
  simp_all [fP,dH]
theorem Gz{A B:List D->Option (List D)}{r3 r4 r5 r6:Option D}:∀(L:List Ss) (a:List D) (b:Option D),a.length+L.length<=4000->∃c,dz (gN 2) (l5 A B) (L.map dn) [x,Y (.lst a),b,r3,r4,r5,r6]=Y (.nx [x,Y (.lst (a++L.map λs=>bQ (.has s))),c,r3,r4,r5,r6])
 |[],a,b,_=>⟨b,by simp[dz]⟩
 | s::L,a,b,h=>by
  let⟨c,ih⟩:=Gz L (a++[bQ _]) _ ŷ;refine⟨c,?_⟩;let g:l5 A B [x,Y (.lst a),Y (dn s),r3,r4,r5,r6]=Y (.nx [x,Y (.lst (a++[bQ (.has s)])),Y (dn s),r3,r4,r5,r6]):=by unfold l5;rw[sL rfl (DS rfl rfl) (Bh (by lia))];rfl
  rw[a9,dF rfl g,ih];simp
def yc(h:eV 1 a=Y (.lst l)):(pM 1 a).bind Ah=Y l:=by unfold pM;rw[h];rfl
theorem Ld:∀m,(∀w,h_ w<=m->gH w<=900->fJ m [bQ w]=Y ((lK w).map bQ))/\∀s,mU s<=m->k9 s<=900->gj m [dn s]=Y ((rB s).map dn)
 |0=>⟨λw h=>by cases w<;>simp[h_]at h<;>lia,λs h=>by have:=tf s;lia⟩
 | m+1=>by
  let⟨ihW,ihS⟩:=Ld m;refine⟨λw h z =>?_,λs h z =>?_⟩
  .show (xJ (gj m) (fJ m) [Y (bQ w),M,M,M,M,M,M]).bind Ah=_;generalize gj m=A at *
   generalize fJ m=B at *
   unfold xJ;cases w with
   |any=>unfold ba;rw[gy ((uh (x:= "any") rfl).trans (by kernel_rfl))];rfl
   |txt t=>rw[az (by rw[fq ((uh (x:= "text") rfl).trans (by kernel_rfl))];rfl)];rw[az rfl];rw[az (by rw[fq ((uh (x:= "text") rfl).trans (by kernel_rfl))];rfl)];rw[az (by rw[fq ((Gx (x:= "text") rfl).trans (by kernel_rfl))];rfl)];rw[yc rfl];rfl
   |has s=>
    simp only[h_]at h;simp only[gH]at z;let ih:=ihS s Ž Ž;let lz:=Jt s;rw[az (by rw[fq ((uh (x:= "has") rfl).trans (by kernel_rfl))];rfl)];rw[az rfl];let⟨b2,fo⟩:=Gz (A:=A) (B:=B) (r3:=M) (r4:=M) (r5:=M) (r6:=M) (rB s) [bQ .any] M (by simp;lia);let it:iL (eF (dG A Uf)) [Y (bQ (.has s)),Y (.lst [bQ .any]),M,M,M,M,M]=Y ((rB s).map dn):=by
     have:∀G:List D->Option (List D),iL (eF (dG G Uf)) [Y (bQ (.has s)),Y (.lst [bQ .any]),M,M,M,M,M]=((G [dn s]).map D.lst).bind λd=>match d with|.lst a=>Y a|_=>none:=λG=>rfl
     rw[this,ih];rfl
    have t1:cz wp [Y (bQ (.has s)),Y (.lst ([bQ .any]++(rB s).map λs=>bQ (.has s))),b2,M,M,M,M]=Y (decide (1<hJ s)):=by
     have:cz wp [Y (bQ (.has s)),Y (.lst ([bQ .any]++(rB s).map λs=>bQ (.has s))),b2,M,M,M,M]=Y (decide ((1:Int)<(((dH s).length:Nat):Int))):=rfl;rw[this,CY]
     congr 1
     rw[decide_eq_decide]
     lia
    let q:∃ρ',(ba (gW (iL (eF (dG A Uf))) (gN 2) (l5 A B)) (gq (cz wp) (sf 1 xz) cN)) [Y (bQ (.has s)),Y (.lst [bQ .any]),M,M,M,M,M]=Y (.nx ρ')/\ρ'=[Y (bQ (.has s)),Y (.lst ((lK (.has s)).map bQ)),b2,M,M,M,M]:=by
     rw[az ((eD it).trans fo)];by_cases hb:1<hJ s
     .rw[decide_eq_true hb]at t1;rw[gy t1];let e1:eF pi [Y (bQ (.has s)),Y (.lst ([bQ .any]++(rB s).map λs=>bQ (.has s))),b2,M,M,M,M]=Y (.lst (dH (fP s))):=by
       have:eF pi [Y (bQ (.has s)),Y (.lst ([bQ .any]++(rB s).map λs=>bQ (.has s))),b2,M,M,M,M]=Y (.lst (B_ (dH s) M (Y (-1)))):=rfl;rw[this,JH]
       congr 2
       let hl:=CY s;unfold B_;rw[HT.FV,Nat.sub_zero,List.drop_zero,n_]
       congr 1
       unfold HT.lI;simp only;rw[if_pos (by decide)]
       lia
      refine⟨_,sL rfl (DS (x:=kS "has") rfl e1) (Bh (by simp;lia)),?_⟩;simp only[lK,if_pos hb,a9,gx,iq,bB];simp[bQ]
     .rw[decide_eq_false hb]at t1;rw[fq t1];refine⟨_,rfl,?_⟩;simp only[lK,if_neg hb,a9,gx,iq,bB];simp
    let⟨ρ',q,e⟩:=q;subst e;rw[az (by rw[gy ((uh (x:= "has") rfl).trans (by kernel_rfl))];exact q)];rw[az (by rw[fq ((Gx (x:= "has") rfl).trans (by kernel_rfl))];rfl)];rw[yc rfl]
   |both w=>simp only[h_]at h;simp only[gH]at z;let wl:=t6 w;let wn:=rO w;rw[az (by rw[fq ((uh (x:= "both") rfl).trans (by kernel_rfl))];rfl)];rw[az rfl];rw[az (by rw[fq ((uh (x:= "both") rfl).trans (by kernel_rfl))];rfl)];let⟨b3,b4,b5,b6,fo⟩:=Jw (bg:=decide (1<fX w)) (x:= "both") (A:=A) (B:=B) (n:=m) (s2:=M) w [] [bQ .any] M M M M ihW Ž Ž (by simp;lia) (by simp;lia) (by simp[wn]);let it:wM (aO eW Uf) [Y (bQ (.both w)),Y (.lst [bQ .any]),M,M,M,M,M]=Y (fx ((0:Nat):Int) (i4 w).length):=yZ (AG rfl) Ž;rw[wn]at it;rw[az (by rw[gy ((Gx (x:= "both") rfl).trans (by kernel_rfl))];exact(eD it).trans fo)];rw[yc rfl];simp only[lK,a9,iq,bB,bL];rfl
   |one w=>simp only[h_]at h;simp only[gH]at z;let wl:=t6 w;let wn:=rO w;rw[az (by solve_by_elim)];rw[az rfl];rw[az (by solve_by_elim)];let⟨b3,b4,b5,b6,fo⟩:=Jw (bg:=decide (1<fX w)) (x:= "one") (A:=A) (B:=B) (n:=m) (s2:=M) w [] [bQ .any] M M M M ihW Ž Ž (by simp;lia) (by simp;lia) (by simp[wn]);let it:wM (aO eW Uf) [Y (bQ (.one w)),Y (.lst [bQ .any]),M,M,M,M,M]=Y (fx ((0:Nat):Int) (i4 w).length):=yZ (AG rfl) Ž;rw[wn]at it;rw[az (by rw[gy ((Gx (x:= "one") rfl).trans (by kernel_rfl))];exact(eD it).trans fo)];rw[yc rfl];simp only[lK,a9,iq,bB,bL];rfl
  .show (xK (gj m) (fJ m) [Y (dn s),M,M,M,M,M,M]).bind Ah=_;generalize gj m=A at *
   generalize fJ m=B at *
   unfold xK;let ls:=Ql s;let le:=CY s;rw[az (ρ':=[Y (dn s),Y (.lst []),M,M,M,M,M]) rfl];let⟨b2,b3,b4,b5,b6,fo⟩:=Qo (A:=A) (B:=B) (n:=m) s [] [] M M M M M ihW h z (by simp;lia) (by simp;lia);let it:wM (aO eW ca) [Y (dn s),Y (.lst []),M,M,M,M,M]=Y (fx ((0:Nat):Int) (dH s).length):=yZ rfl Ž;rw[le]at it;rw[az ((eD it).trans fo)];rw[yc rfl];rfl
theorem Lu:∀s:Ss,mU (fP s)<=mU s
 |.nil=>av _|.cons b d w .nil=>by simp_all [fP,mU]
 |.cons b d w (.cons e a c r)=>by have:=Lu (.cons e a c r);grind [fP,mU]
theorem Lp:∀s:Ss,k9 (fP s)<=k9 s/\vw (fP s)<=vw s/\Fn (fP s)<=Fn s
 |.nil=>⟨av _,av _,av _⟩|.cons b d w .nil=>by simp[fP,k9,vw,Fn]
 |.cons b d w (.cons e a c r)=>by have:=Lp (.cons e a c r);simp_all [fP,k9,vw,Fn]
theorem Ls:∀s:Ss,1<hJ s->K7 (fP s)<K7 s
 |.nil,h=>by simp[hJ]at h
 |.cons b e w .nil,h=>by simp[hJ]at h
 |.cons b e w (.cons f a d .nil),_=>by simp[fP,K7];lia
 |.cons b e w (.cons f a d (.cons i c g r)),_=>by have:=Ls (.cons f a d (.cons i c g r)) (by simp[hJ]);simp_all [fP,K7]
theorem Lr:∀s:Ss,EZ s->EZ (fP s)
 |.nil,h=>h|.cons b c w .nil,h=>trivial|.cons b c w (.cons e a d r),h=>⟨h.1,h.2.1,Lr _ h.2.2⟩
theorem Lq:∀s:Ss,R3 T s->R3 T (fP s)
 |.nil,h=>h|.cons b c w .nil,h=>trivial|.cons b c w (.cons e a d r),h=>⟨h.1,Lq _ h.2⟩
theorem Uq:∀s:Ss,1<hJ s->fP s ≠ .nil
 |.nil,h=>by simp[hJ]at h
 |.cons b c w .nil,h=>by simp[hJ]at h
 |.cons b c w (.cons e a d r),h=>by simp_all [fP]
structure QW(T:aH->Prop)(a b:Wi):Prop where
 n:N7 a->N7 b
 o:ZK T a->ZK T b
 d:h_ b<=h_ a
 z:gH b<=gH a
 s:BA b<=BA a
 i:Su b<=Su a
 m:M9 b<M9 a
def D1{T:aH->Prop}(w:Wi)(h:w ≠ .any):QW T w .any:=⟨λ_=>trivial,λ_=>trivial,by cases w<;>simp[h_],by cases w<;>simp[gH],by simp[BA],by simp[Su],by cases w<;>simp_all [M9]<;>lia⟩
structure QA(T:aH->Prop)(a b:Ws):Prop where
 n:R4 a->R4 b
 o:Wq T a->Wq T b
 d:uo b<=uo a
 z:mf b<=mf a
 s:Co b<=Co a
 i:JI b<=JI a
 m:P_ b<P_ a
structure QS(T:aH->Prop)(a b:Ss):Prop where
 n:EZ a->EZ b
 o:R3 T a->R3 T b
 d:mU b<=mU a
 z:k9 b<=k9 a
 s:vw b<=vw a
 i:Fn b<=Fn a
 m:K7 b<K7 a
 e:b ≠ .nil
set_option tactic.hygienic true in
mutual
theorem VW{T:aH->Prop}:∀(w a:Wi),a∈lK w->QW T w a
 |.any,a,h=>by simp[lK]at h
 |.txt t,a,h=>by simp_all [lK,bI,D1]
 | .has s,a,h=>by
  simp only[lK,aq,aA,a7]at h;rcases h with rfl|⟨b,c,rfl⟩|h
  .simp_all [D1]
  .let q:=Gy (T:=T) s b c;have:=q.d;have:=q.z;have:=q.s;have:=q.i;have:=q.m;exact⟨q.n,λo=>⟨q.e,q.o o.2⟩,by simp_all [h_],by simp_all [gH],Ÿ,Ÿ,by simp_all [M9]⟩
  .split at h
   .rename_i d;simp at h;subst h;have:=Lu s;have:=Lp s;have:=Ls s d;exact⟨Lr s,λo=>⟨Uq s d,Lq s o.2⟩,by simp_all [h_],by simp_all [gH],by simp_all [BA],by simp_all [Su],by simp_all [M9]⟩
   .simp at h
 | .both w,a,h=>by
  simp only[lK,aq,a7]at h;rcases h with rfl|⟨b,c,rfl⟩
  .simp_all [D1]
  .let q:=Qh (T:=T) _ w b c;have:=q.d;have:=q.z;have:=q.s;have:=q.i;have:=q.m;exact⟨q.n,q.o,by simp_all [h_],by simp_all [gH],Ÿ,Ÿ,by simp_all [M9]⟩
 | .one w,a,h=>by
  simp only[lK,aq,a7]at h;rcases h with rfl|⟨b,c,rfl⟩
  .simp_all [D1]
  .let q:=Qh (T:=T) _ w b c;have:=q.d;have:=q.z;have:=q.s;have:=q.i;have:=q.m;exact⟨q.n,q.o,by simp_all [h_],by simp_all [gH],Ÿ,Ÿ,by simp_all [M9]⟩
theorem Qh{T:aH->Prop}(a:Bool):∀(w b:Ws),b∈vj a w->QA T w b
 |.nil,b,h=>by simp[vj]at h
 | .cons w r,b,h=>by
  simp only[vj,aA,a7]at h;rcases h with (⟨x,c,rfl⟩|h)|⟨x,c,rfl⟩
  .let q:=VW (T:=T) w x c;have:=q.d;have:=q.z;have:=q.s;have:=q.i;have:=q.m;exact⟨λn=>⟨q.n n.1,n.2⟩,λn=>⟨q.o n.1,n.2⟩,by grind [uo],by simp_all [mf],by simp_all [Co],by simp_all [JI],by simp_all [P_]⟩
  .split at h
   .simp at h;subst h;exact⟨λn=>n.2,λn=>n.2,by grind [uo],by simp_all [mf],by simp_all [Co],by simp_all [JI],by grind [P_]⟩
   .simp at h
  .let q:=Qh (T:=T) a r x c;have:=q.d;have:=q.z;have:=q.s;have:=q.i;have:=q.m;exact⟨λn=>⟨n.1,q.n n.2⟩,λn=>⟨n.1,q.o n.2⟩,by grind [uo],by simp_all [mf],by simp_all [Co],by simp_all [JI],by simp_all [P_]⟩
theorem Gy{T:aH->Prop}:∀(s a:Ss),a∈rB s->QS T s a
 |.nil,a,h=>by simp[rB]at h
 | .cons b d w r,a,h=>by
  simp only[rB,aA,a7]at h;rcases h with⟨x,c,rfl⟩|⟨x,c,rfl⟩
  .let q:=VW (T:=T) w x c;have:=q.d;have:=q.z;have:=q.s;have:=q.i;have:=q.m;exact⟨λn=>⟨n.1,q.n n.2.1,n.2.2⟩,λn=>⟨q.o n.1,n.2⟩,by simp only[mU];lia,by simp_all [k9],by simp_all [vw],by simp_all [Fn],by simp_all [K7],λz=>by cases z⟩
  .let q:=Gy (T:=T) r x c;have:=q.d;have:=q.z;have:=q.s;have:=q.i;have:=q.m;exact⟨λn=>⟨n.1,n.2.1,q.n n.2.2⟩,λn=>⟨n.1,q.o n.2⟩,by simp only[mU];lia,by simp_all [k9],by simp_all [vw],by simp_all [Fn],by simp_all [K7],λz=>by cases z⟩
end
def ZJ.lv(h:ZJ c a)(m:b∈rB a):ZJ c b:=by
 let q:=Gy (T:=(· ∈ c)) a b m;have:=q.d;have:=q.z;have:=q.s;have:=h.d;have:=h.z;have:=h.s;exact⟨q.n h.n,q.o h.o,q.e,Ž,Ž,Ž⟩
mutual
theorem PK:∀(w:Wi) (n:Nat),3*h_ w<=n->jg (bQ w) n=Z'
 |.any,n,h=>by simp only[h_]at h;obtain⟨n,rfl⟩:∃k,n=k+1:=⟨n-1,Ž⟩;exact Ÿ
 |.txt t,n,h=>by simp only[h_]at h;obtain⟨n,rfl⟩:∃k,n=k+1:=⟨n-1,Ž⟩;exact Ÿ
 | .has s,n,h=>by
  simp only[h_]at h
  obtain⟨n,rfl⟩:∃k,n=k+3:=⟨n-3,Ž⟩
  simp[bQ,jg,iA,IX s (n+1) (by lia)]
 | .both w,n,h=>by
  simp only[h_]at h
  obtain⟨n,rfl⟩:∃k,n=k+3:=⟨n-3,Ž⟩
  simp[bQ,jg,iA,IV w (n+1) (by lia)]
 | .one w,n,h=>by
  simp only[h_]at h
  obtain⟨n,rfl⟩:∃k,n=k+3:=⟨n-3,Ž⟩
  simp[bQ,jg,iA,IV w (n+1) (by lia)]
theorem IV:∀(w:Ws) (n:Nat),3*uo w<=n->iA (i4 w) n=Z'
 |.nil,n,h=>rfl| .cons w r,n,h=>by
  simp only[uo]at h
  rw[i4,iA,PK w n (by lia),IV r n (by lia)];rfl
theorem IX:∀(s:Ss) (n:Nat),3*mU s<=n+1->iA (dH s) n=Z'
 |.nil,n,h=>rfl| .cons b a w r,n,h=>by
  simp only[mU]at h
  obtain⟨n,rfl⟩:∃k,n=k+1:=⟨n-1,Ž⟩
  rw[dH,iA,IX r _ (by lia)]
  simp[jg,iA,PK w n (by lia)]
end
def L1{l:List D}:nO (.lst l) (.lst [])=l.isEmpty:=by
 cases l<;>simp[nO,qH]
abbrev iD(l:List Nat):List D:=l.map λn =>.int (n:Nat)
theorem VP:∀(l:List Nat) (n:Nat),iA (iD l) n=Z'
 |[],n=>rfl| x::l,n=>by
  have:=VP l n
  exact Ÿ
def Ph(l:List Nat):∃k a,rh [.lst (iD l)]=Y (.int (k:Nat),iD a):=by
 show ∃k a,(Q5 [Y _]).bind _=Y _;unfold Q5;have t:cz (e2 fF (eV 0) pp) [Y (.lst (iD l))]=Y (iD l).isEmpty:=by have:e2 fF (eV 0) pp [Y _]=fF (.lst (iD l)) _:=rfl;unfold cz;rw[this];unfold fF;rw[if_pos (by simp[jg,iA,VP]),L1];rfl
 cases l with
 |nil=>solve_by_elim|cons x r=>
  rw[az (by rw[fq t];rfl)];refine⟨(x::r).getLast ż,(x::r).dropLast,?_⟩;have:Ue 0 [Y (.lst (iD (x::r)))]=Y (.int ((x::r).getLast ż),[Y (.lst (iD (x::r).dropLast))]):=by
   let e:Ue 0 [Y (.lst _)]=(iD _)[(iD (x::r)).length-1]?.map _:=rfl;rw[e];have:(iD (x::r))[(iD (x::r)).length-1]?=Y (.int ((x::r).getLast ż)):=by rw[aG,aT,<- List.getLast?_eq_getElem?];rfl
   rw[this];simp[iD,List.map_dropLast]
  unfold eZ;rw[this];rfl
abbrev cD(a b c:Int):List D:=[.int a,.int b,.int c]
def zB:Nat->Nat
 |0=>1|1=>5|_=>13
def sB:Nat->Nat
 |0=>0|1=>2|_=>6
abbrev TX:List aH:=[ab "x",ab ""]
abbrev In(n:Nat)(a b:Int):Prop:=0<=a->0<=b/\(n:Int)+b<=a
def In.zero(a:Int):In 0 a a:=λh=>⟨h,Ž⟩
structure GW(k:Nat)(w:Wi):Prop where
 n:N7 w
 o:ZK (· ∈ TX) w
 d:h_ w<=1+2*k
 z:gH w<=zB k
 s:BA w<=sB k
structure GS(k j:Nat)(s:Ss):Prop where
 n:EZ s
 o:R3 (· ∈ TX) s
 d:mU s<=2+2*k
 z:k9 s<=j*(1+zB k)
 s:vw s<=j*(1+sB k)
structure NO(ns:List aH):Prop where
 ne:ns≠[]
 st:∀n∈ns,n≠ab "*"
 l:ns.length<=1000
abbrev nD(a:List aH):D :=.lst (a.map D.str)
def Vl(F:List D->Option (D×List D×List D))(e:List aH)(k:Nat):Prop:=∀l a b c,∃w f d h g,F [.lst (iD l),nD e,.lst (cD a b c),.int (k:Nat)]=Y (bQ w,iD f,cD d h g)/\GW k w/\In (Su w) a d
def SSk(F:List D->Option (D×List D×List D))(e:List aH)(k:Nat):Prop:=∀l a b c,∃s f d h g,F [.lst (iD l),nD e,.lst (cD a b c),.int (k:Nat)]=Y (.lst (dH s),iD f,cD d h g)/\GS k 2 s/\s ≠ .nil/\In (Fn s) a d
def xA{l:List Nat}{r:List (Option D)}:∃k a,ue rh 0 aN (Y (.lst (iD l))::r)=Y (.int (k:Nat),Y (.lst (iD a))::r):=by
 let⟨k,a,e⟩:=Ph l;refine⟨k,a,?_⟩;have:∀F,ue F 0 aN (Y (.lst (iD l))::r)=(F _).map _:=λF=>rfl
 simp_all
theorem VH{f:List aH}(v:Vl A f k){x y:Option D}:∀(j:List D) (l:List Nat) (a b c:Int),∃e H B L J,JC [M,x,Y (nD f),y,Y (.int ((k+1:Nat):Int))] (gN 0) (j9 A 1 (eV 2) 3 No) 1 3 j (iD l,cD a b c)=Y (i4 e,(iD H,cD B L J))/\R4 e/\Wq (· ∈ TX) e/\uo e<=1+2*k/\mf e<=j.length*zB k/\Co e<=j.length*sB k/\In (JI e) a B
 |[],l,a,b,c=>⟨.nil,l,a,b,c,rfl,trivial,trivial,by simp[uo],by simp[mf],by simp[Co],In.zero a⟩
 | d::j,l,a,b,c=>by
  let⟨w,i,q,p,m,S,g,Q⟩:=v l a b c;let⟨e,G,U,K,I,u,n,o,T,z,s,N⟩:=VH v (x:=x) (y:=y) j i q p m;let R:=g.d;let O:=g.z;let P:=g.s;refine⟨.cons w e,G,U,K,I,?_,⟨g.n,n⟩,⟨g.o,o⟩,by grind [uo],by simp only[mf,aJ,Nat.succ_mul];lia,by simp only[Co,aJ,Nat.succ_mul];lia,λh=>by grind [JI]⟩;rw[JC];let C:gN 0 d (([M,x,Y (nD f),y,Y (.int ((k+1:Nat):Int))].set 1 _).set 3 _)=Y [Y d,Y (.lst (iD l)),Y (nD f),Y (.lst (cD a b c)),Y (.int ((k+1:Nat):Int))]:=rfl;let E:j9 A 1 (eV 2) 3 No [Y d,Y (.lst (iD l)),Y (nD f),Y (.lst (cD a b c)),Y (.int ((k+1:Nat):Int))]=Y (bQ w,[Y d,Y (.lst (iD i)),Y (nD f),Y (.lst (cD q p m)),Y (.int ((k+1:Nat):Int))]):=by
   have:∀F,j9 F 1 (eV 2) 3 No [Y d,Y (.lst (iD l)),Y (nD f),Y (.lst (cD a b c)),Y (.int ((k+1:Nat):Int))]=(F _).map _:=λF=>rfl
   simp_all
  rw[C];simp only[ah,E];let t:dW 1 [Y d,Y (.lst (iD i)),Y (nD f),Y (.lst (cD q p m)),Y (.int ((k+1:Nat):Int))]=Y (iD i):=rfl;let r:dW 3 [Y d,Y (.lst (iD i)),Y (nD f),Y (.lst (cD q p m)),Y (.int ((k+1:Nat):Int))]=Y (cD q p m):=rfl;simp only[t,r,ah,u];rfl
def Ym(k:Nat):GW k .any:=⟨trivial,trivial,by simp_all [h_],by rcases k with _|_|k<;>simp[gH,zB],by simp[BA]⟩
def Yl(k:Nat)(h:t∈TX):GW k (.txt t):=⟨trivial,h,by simp_all [h_],by rcases k with _|_|k<;>simp[gH,zB],by simp[BA]⟩
def IB{ρ':bP}{d:D}(e:t a=Y Z')(k:g a=Y (.rm d ρ')):ba (gq t g cN) h a=Y (.rm d ρ'):=by
 unfold ba;rw[gy e,k];rfl
def lC{f:DF}{ρ:bP}{v n:Nat}(h:f ρ=Y (.int (v:Nat)))(a:0<n):e2 gM (e2 ir f UF) (eK (.int (n:Nat))) ρ=Y (.int ((v/8%n:Nat):Int)):=by
 unfold e2;rw[h];show (if (0:Int)<n then Y _ else M)=_
 simp_all
def VU{f:DM}{ρ1:bP}{x:D}(h:f b=Y (x,ρ1))(k:g ρ1=Y (y,a)):sj (jd f (jd g mE)) b=Y (.tup [x,y],a):=by
 unfold sj jd;rw[h];simp;rw[k];rfl
def XN{f:DF}(e:f a=Y (.int (n:Nat)))(b:n<=2):wM f a=Y (fx 0 n):=by
 grind [Er,mZ,jB,cI]
def Ud{f:List aH}(s:Vl A f j){kn:String}(n:Nat)(o:n<=2){l:List Nat}{a b c:Int}{x4 x5:Option D}:∃d h g k i,sj (jd (mP (eV 6)) (jd (Js (wM (eV 7)) [M,Y 0,Y 1,Y 2,Y 3] (gN 0) (j9 A 1 (eV 2) 3 No) 1 0 3 2) mE)) [Y (.lst (iD l)),Y (nD f),Y (.lst (cD a b c)),Y (.int ((j+1:Nat):Int)),x4,x5,Y (kS kn),Y (.int (n:Nat))]=Y (.tup [kS kn,.lst (i4 d)],[Y (.lst (iD h)),Y (nD f),Y (.lst (cD g k i)),Y (.int ((j+1:Nat):Int)),x4,x5,Y (kS kn),Y (.int (n:Nat))])/\R4 d/\Wq (· ∈ TX) d/\uo d<=1+2*j/\mf d<=2*zB j/\Co d<=2*sB j/\In (JI d) a g:=by
 let⟨d,h,g,k,i,e,w,v,u,r,q,t⟩:=VH s (fx 0 n) l a b c;have p:(fx 0 n).length=n:=by simp[fx]
 rw[p]at r q;refine⟨d,h,g,k,i,?_,w,v,u,aV r (Zg _ o),aV q (Zg _ o),t⟩;let m:Js (wM (eV 7)) [M,Y 0,Y 1,Y 2,Y 3] (gN 0) (j9 A 1 (eV 2) 3 No) 1 0 3 2 [Y (.lst (iD l)),Y (nD f),Y (.lst (cD a b c)),Y (.int ((j+1:Nat):Int)),x4,x5,Y (kS kn),Y (.int (n:Nat))]=Y (.lst (i4 d),[Y (.lst (iD h)),Y (nD f),Y (.lst (cD g k i)),Y (.int ((j+1:Nat):Int)),x4,x5,Y (kS kn),Y (.int (n:Nat))]):=by unfold Js;rw[XN rfl o];simp only[ah];rw[if_pos (by rw[p];exact cx (jJ (by lia)))];rw[show dW 0 _=Y (iD l) from rfl,show dW 2 _=Y _ from rfl];simp only[ah];rw[show iU _ _=[M,Y _,Y (nD f),Y _,Y _] from rfl,e];rfl
 exact VU rfl m
theorem Kw{A B:List D->Option (D×List D×List D)}{ns:List aH}{k:Nat}(h:∀j,k=j+1->Vl A ns j/\SSk B ns j)(hk:k<=2):Vl (vB 4 8 0 2 (jt A B)) ns k:=by
 intro l a b c;let⟨v,l1,ep⟩:=xA (l:=l);let run:vB 4 8 0 2 (jt A B) [.lst (iD l),nD ns,.lst (cD a b c),.int (k:Nat)]=(jt A B [Y (.lst (iD l)),Y (nD ns),Y (.lst (cD a b c)),Y (.int (k:Nat)),M,M,M,M]).bind (VN 0 2):=rfl;rw[run];clear run;unfold jt;rw[az (ρ':=[Y (.lst (iD l1)),Y (nD ns),Y (.lst (cD a b c)),Y (.int (k:Nat)),Y (.int (v:Nat)),M,M,M]) (by unfold iN;rw[ep];rfl)];obtain⟨q,hq,lt⟩:∃q:Nat,(v:Int)%8=(q:Nat)/\q<8:=⟨v%8,Ž,Ž⟩;have m1:e2 gM (eV 4) UF [Y (.lst (iD l1)),Y (nD ns),Y (.lst (cD a b c)),Y (.int (k:Nat)),Y (.int (v:Nat)),M,M,M]=Y (.int (q:Nat)):=by show (if (0:Int)<8 then Y (D.int ((v:Int)%8)) else M)=_;rw[if_pos (by decide),hq]
 rw[az (dD m1)];simp only[bj,bo];generalize hρ:([Y (.lst (iD l1)),Y (nD ns),Y (.lst (cD a b c)),Y (.int (k:Nat)),Y (.int (v:Nat)),Y (.int (q:Nat)),M,M]:bP)=ρ;have t1:DV à ß ρ=Y (decide (q=2\/q=3)):=by
  subst hρ;have:DV à ß [Y (.lst (iD l1)),Y (nD ns),Y (.lst (cD a b c)),Y (.int (k:Nat)),Y (.int (v:Nat)),Y (.int (q:Nat)),M,M]=(if nO (.int (q:Nat)) (.int 2)=Z' then Y Z' else Y (nO (.int (q:Nat)) (.int 3))):=by rfl
  rw[this,qI,qI];by_cases h2:q=2
  .subst h2;rfl
  .by_cases h3:q=3
   .subst h3;rfl
   .let a1:(((q:Nat):Int)==2)=false:=by simp<;>lia
    let a2:(((q:Nat):Int)==3)=false:=by simp<;>lia
    rw[a1,a2];simp[h2,h3]
 by_cases h23:q=2\/q=3
 .rw[decide_eq_true h23]at t1;obtain⟨t,ht,ev⟩:∃t,t∈TX/\e2 bF _ (e2 gM (e2 ir (eV 4) UF) na) ρ=Y (.str t):=by
   have pk:=lC (f:=eV 4) (ρ:=ρ) (v:=v) (n:=2) (by subst hρ;rfl) ſ;have:v/8%2=0\/v/8%2=1:=by lia
   rcases this with z|z
   .rw[z]at pk;exact⟨ab "x",ż,by unfold e2 at pk ⊢;rw[show (eK (D.int ((2:Nat):Int)):DF)=eK (D.int 2) from rfl]at pk;rw[pk];kernel_rfl⟩
   .rw[z]at pk;exact⟨ab "",ż,by unfold e2 at pk ⊢;rw[show (eK (D.int ((2:Nat):Int)):DF)=eK (D.int 2) from rfl]at pk;rw[pk];kernel_rfl⟩
  refine⟨.txt t,l1,a,b,c,?_,Yl k ht,In.zero a⟩;rw[IB (d:=bQ (.txt t)) (ρ':=ρ) t1 (by unfold eZ mP;rw[DS (x:=kS "text") rfl ev];rfl)];subst hρ;rfl
 rw[decide_eq_false h23]at t1;rw[az (ρ':=ρ) (by rw[fq t1];rfl)];have t2:DV â á ρ=Y (decide (q<2\/k=0)):=by
  subst hρ;have:DV â á [Y (.lst (iD l1)),Y (nD ns),Y (.lst (cD a b c)),Y (.int (k:Nat)),Y (.int (v:Nat)),Y (.int (q:Nat)),M,M]=(if decide (((q:Nat):Int)<2)=Z' then Y Z' else Y (nO (.int (k:Nat)) (.int 0))):=by rfl
  rw[this,qI];by_cases h2:q<2
  .rw[if_pos (by simp;lia),decide_eq_true (.inl h2)]
  .rw[if_neg (by simp;lia)];by_cases h3:k=0
   .subst h3;rw[decide_eq_true (.inr rfl)];rfl
   .let a1:(((k:Nat):Int)==0)=false:=by simp<;>lia
    rw[a1,decide_eq_false (by rintro(z|z)<;>lia)]
 by_cases h20:q<2\/k=0
 .rw[decide_eq_true h20]at t2;refine⟨.any,l1,a,b,c,?_,Ym k,In.zero a⟩;rw[IB (d:=bQ .any) (ρ':=ρ) t2 rfl];subst hρ;rfl
 rw[decide_eq_false h20]at t2;rw[az (ρ':=ρ) (by rw[fq t2];rfl)];obtain⟨j,rfl⟩:∃j,k=j+1:=⟨k-1,Ž⟩;let⟨hA,hB⟩:=h j rfl;have t3:cz Ä ρ=Y (decide (q<6)):=by
  subst hρ;have:cz Ä [Y (.lst (iD l1)),Y (nD ns),Y (.lst (cD a b c)),Y (.int ((j+1:Nat):Int)),Y (.int (v:Nat)),Y (.int (q:Nat)),M,M]=Y (decide (((q:Nat):Int)<6)):=rfl;rw[this]
  congr 1
  rw[decide_eq_decide];lia
 by_cases h6:q<6
 .rw[decide_eq_true h6]at t3;let⟨s,l2,a2,b2,c2,e,g,ne,gi⟩:=hB l1 a b c;let gd:=g.d;let gz:=g.z;let gs:=g.s;refine⟨.has s,l2,a2,b2,c2,?_,⟨g.n,⟨ne,g.o⟩,by simp only[h_];lia,?_,?_⟩,gi⟩
  .let m:j9 B 0 (eV 1) 2 Ï ρ=Y (.lst (dH s),[Y (.lst (iD l2)),Y (nD ns),Y (.lst (cD a2 b2 c2)),Y (.int ((j+1:Nat):Int)),Y (.int (v:Nat)),Y (.int (q:Nat)),M,M]):=by
    subst hρ;have:∀F:List D->Option (D×List D×List D),j9 F 0 (eV 1) 2 Ï [Y (.lst (iD l1)),Y (nD ns),Y (.lst (cD a b c)),Y (.int ((j+1:Nat):Int)),Y (.int (v:Nat)),Y (.int (q:Nat)),M,M]=(F _).map _:=λF=>rfl
    rw[this,show ((j+1:Nat):Int)-1=(j:Nat) by lia,e];rfl
   rw[IB (d:=bQ (.has s)) (ρ':=[Y (.lst (iD l2)),Y (nD ns),Y (.lst (cD a2 b2 c2)),Y (.int ((j+1:Nat):Int)),Y (.int (v:Nat)),Y (.int (q:Nat)),M,M]) t3 ?_]
   .rfl
   .unfold eZ;rw[VU (x:=kS "has") (ρ1:=ρ) rfl m];rfl
  .rcases j with _|_|j
   .simp only[gH,zB]at gz ⊢;lia
   .simp only[gH,zB]at gz ⊢;lia
   .lia
  .rcases j with _|_|j
   .simp only[BA,sB]at gs ⊢;lia
   .simp only[BA,sB]at gs ⊢;lia
   .lia
 rw[decide_eq_false h6]at t3;rw[az (ρ':=ρ) (by rw[fq t3];rfl)];subst hρ;rw[az (ρ':=[Y (.lst (iD l1)),Y (nD ns),Y (.lst (cD a b c)),Y (.int ((j+1:Nat):Int)),Y (.int (v:Nat)),Y (.int (q:Nat)),Y (kS "both"),M]) rfl];obtain⟨one,c1,st⟩:∃(one:Bool) (c1:Int),gq _ (ba (d8 6 AT) ç) cN _=Y (.nx [Y (.lst (iD l1)),Y (nD ns),Y (.lst (cD a b c1)),Y (.int ((j+1:Nat):Int)),Y (.int (v:Nat)),Y (.int (q:Nat)),Y (kS (if one then "one" else "both")),M]):=by
  have t4:i7 (cz (e2 fF (eV 5) (eK (.int 7)))) (cz (e2 yX (e2 bF (eV 2) na) f8)) [Y (.lst (iD l1)),Y (nD ns),Y (.lst (cD a b c)),Y (.int ((j+1:Nat):Int)),Y (.int (v:Nat)),Y (.int (q:Nat)),Y (kS "both"),M]=(if nO (.int (q:Nat)) (.int 7)=Z' then Y (decide ((0:Int)<c)) else Y Z_):=by rfl
  obtain⟨bb,hb⟩:∃bb:Bool,(if nO (.int (q:Nat)) (.int 7)=Z' then Y (decide ((0:Int)<c)) else Y Z_)=Y bb:=by
   split
   .exact⟨_,rfl⟩
   .exact⟨_,rfl⟩
  rw[hb]at t4;cases bb with
  |true=>exact⟨Z',c-1,by rw[gy t4];rfl⟩
  |false=>exact⟨Z_,c,by rw[fq t4];rfl⟩
 rw[az st];obtain⟨n,hn,ev⟩:∃n:Nat,n<=2/\e2 bF Ù (e2 gM (e2 ir (eV 4) UF) (eK (.int 4))) [Y (.lst (iD l1)),Y (nD ns),Y (.lst (cD a b c1)),Y (.int ((j+1:Nat):Int)),Y (.int (v:Nat)),Y (.int (q:Nat)),Y (kS (if one then "one" else "both")),M]=Y (.int (n:Nat)):=by
  have pk:=lC (f:=eV 4) (ρ:=[Y (.lst (iD l1)),Y (nD ns),Y (.lst (cD a b c1)),Y (.int ((j+1:Nat):Int)),Y (.int (v:Nat)),Y (.int (q:Nat)),Y (kS (if one then "one" else "both")),M]) (v:=v) (n:=4) rfl ſ;rw[show (eK (D.int ((4:Nat):Int)):DF)=eK (D.int 4) from rfl]at pk;have:v/8%4=0\/v/8%4=1\/v/8%4=2\/v/8%4=3:=by lia
  let ex:∀(f g:DF) (ρ:bP),e2 bF f g ρ=(f ρ).bind λa=>(g ρ).bind λb=>bF a b:=λi i i=>rfl
  rw[ex,pk];rcases this with z|z|z|z<;>rw[z]
  .exact⟨2,ſ,ź⟩
  .exact⟨1,ſ,ź⟩
  .exact⟨0,ſ,ź⟩
  .exact⟨2,ſ,ź⟩
 rw[az (dD ev)];simp only[bj,bo];let⟨ws,l2,a2,b2,c2,e,g1,g2,g3,g4,g5,g6⟩:=Ud hA (kn:=if one then "one" else "both") n hn (l:=l1) (a:=a) (b:=b) (c:=c1) (x4:=Y (.int (v:Nat))) (x5:=Y (.int (q:Nat)));have zz:1+mf ws<=zB (j+1):=by
  rcases j with _|_|j
  .simp only[zB]at g4 ⊢;lia
  .simp only[zB]at g4 ⊢;lia
  .lia
 have ss:Co ws<=sB (j+1):=by
  rcases j with _|_|j
  .simp only[sB]at g5 ⊢;lia
  .simp only[sB]at g5 ⊢;lia
  .lia
 cases one with
 |true=>refine⟨.one ws,l2,a2,b2,c2,?_,⟨g1,g2,by simp only[h_];lia,zz,ss⟩,g6⟩;unfold eZ;rw[e];rfl
 |false=>refine⟨.both ws,l2,a2,b2,c2,?_,⟨g1,g2,by simp only[h_];lia,zz,ss⟩,g6⟩;unfold eZ;rw[e];rfl
def RX{f g:DF}{ρ:bP}{x y:Int}(h:f ρ=Y (.int x))(k:g ρ=Y (.int y)):∃c,i7 (cz (e2 fF f f8)) (cz (e2 yX g f8)) ρ=Y c/\(c=Z'->0<y):=by
 let a:cz (e2 fF f f8) ρ=Y (nO (.int x) (.int 0)):=by unfold cz e2;rw[h];rfl
 let b:cz (e2 yX g f8) ρ=Y (decide (0<y)):=by unfold cz e2;rw[k];rfl
 unfold i7
 grind
def Mv{f:DF}{n:Nat}(h:f a=Y (.int x))(b:0<n):e2 gM f (eK (.int (n:Nat))) a=Y (.int (x%(n:Nat))):=by
 unfold e2;rw[h];show (if (0:Int)<n then Y _ else M)=_
 simp_all
def abq(v:Nat):ir (.int (v:Nat)) (.int 3)=Y (.int ((v/3:Nat):Int)):=by
 exact Ÿ
def Yv(v:Nat):ir (.int (v:Nat)) (.int 12)=Y (.int ((v/12:Nat):Int)):=by
 exact Ÿ
def KA{A B:List D->Option (D×List D×List D)}{ns:List aH}{k:Nat}(hn:NO ns)(hA:Vl A ns k){l:List Nat}{a b c:Int}{fd:List D}{x5 x6 x7 x8:Option D}(hf:fd.length<=10):
  ∃(i:Bool) (nm:Option aH) (w:Wi) (l':List Nat) (a' b' c':Int) (y6 y7 y8:Option D),my A B [Y (.lst (iD l)),Y (nD ns),Y (.lst (cD a b c)),Y (.int (k:Nat)),Y (.lst fd),x5,x6,x7,x8]=Y (.nx [Y (.lst (iD l')),Y (nD ns),Y (.lst (cD a' b' c')),Y (.int (k:Nat)),Y (.lst (fd++[lp (dR i) (bx nm) (bQ w)])),x5,y6,y7,y8])/\nm≠Y (ab "*")/\GW k w/\In (i.toNat+Su w) a a':=by
 let⟨v,l1,ep⟩:=xA;unfold my;rw[az (by unfold iN;rw[ep];rfl),az (ρ':=[Y _,Y (nD ns),Y _,Y _,Y (.lst fd),x5,Y _,Y (kS "own"),x8]) rfl];let ex:∀(o:D->D->Option D) (f g:DF) (ρ:bP),e2 o f g ρ=(f ρ).bind _:=λd d d d=>rfl
 obtain⟨n0,hn0,ev⟩:∃n0,n0∈ns/\e2 bF (eV 1) (e2 gM _ _) _=Y (.str n0):=by
  let f1:e2 ir (eV 6) (eK (.int 12)) [Y (.lst (iD l1)),Y (nD ns),Y (.lst (cD a b c)),Y (.int (k:Nat)),Y (.lst fd),x5,Y (.int (v:Nat)),Y (kS "own"),x8]=Y _:=Yv v;let pos:0<ns.length:=ZT.mpr hn.ne;let f2:e2 gM (e2 ir (eV 6) (eK (.int 12))) (aO eW u8) [Y (.lst (iD l1)),Y (nD ns),Y (.lst (cD a b c)),Y (.int (k:Nat)),Y (.lst fd),x5,Y (.int (v:Nat)),Y (kS "own"),x8]=Y (.int ((v/12%ns.length:Nat):Int)):=by rw[ex,f1];show (if (0:Int)<(((ns.map D.str).length:Nat):Int) then Y _ else M)=_;rw[aG,if_pos (by lia)];rfl
  let lt:v/12%ns.length<ns.length:=Nat.mod_lt _ pos;refine⟨ns[v/12%ns.length],HM lt,?_⟩;rw[ex,f2];exact d6 Ż
 rw[az (dD ev)];simp only[bj,bo];obtain⟨i,a1,ii,st1⟩:∃(i:Bool) (a1:Int),In i.toNat a a1/\gq _ (ba (d8 7 Ó) è) cN _=Y (.nx [Y _,Y (nD ns),Y (.lst (cD a1 b c)),Y _,Y (.lst fd),x5,Y _,Y (.str (dR i)),Y (.str n0)]):=by
  let⟨bb,t,tp⟩:=RX (f:=e2 gM (eV 6) sK) (g:=e2 bF (eV 2) f8) (ρ:=[Y (.lst (iD l1)),Y (nD ns),Y (.lst (cD a b c)),Y (.int (k:Nat)),Y (.lst fd),x5,Y _,Y (kS "own"),Y (.str n0)]) (Mv rfl ſ) rfl;cases bb with
  |true=>exact⟨Z',a-1,λh=>by have:=tp rfl;simp;lia,by rw[gy t];rfl⟩
  |false=>exact⟨Z_,a,In.zero a,by rw[fq t];rfl⟩
 rw[az st1];obtain⟨nm,b1,hnm,Sq⟩:∃(nm:Option aH) (b1:Int),nm≠Y (ab "*")/\gq _ (ba (d8 8 ge) æ) cN _=Y (.nx [Y _,Y (nD ns),Y (.lst (cD a1 b1 c)),Y (.int (k:Nat)),Y (.lst fd),x5,Y (.int (v:Nat)),Y _,Y (.str (bx nm))]):=by
  let⟨bb,t,_⟩:=RX (f:=e2 gM (e2 ir (eV 6) sK) (eK (.int 4))) (g:=e2 bF (eV 2) v6) (ρ:=[Y (.lst (iD l1)),Y (nD ns),Y (.lst (cD a1 b c)),Y _,Y (.lst fd),x5,Y (.int (v:Nat)),Y (.str (dR i)),Y (.str n0)]) (Mv (abq v) ſ) rfl;cases bb with
  |true=>exact⟨M,b-1,ż,by rw[gy t];rfl⟩
  |false=>exact⟨Y n0,b,λz=>hn.st n0 hn0 ŷ,by rw[fq t];rfl⟩
 rw[az Sq];let⟨w,l2,a2,b2,c2,e,g,gi⟩:=hA l1 a1 b1 c;refine⟨i,nm,w,l2,a2,b2,c2,Y (.int (v:Nat)),Y (.str (dR i)),Y (.str (bx nm)),?_,hnm,g,λh=>by have:=gi (ii h).1;lia⟩;let m:j9 A 0 (eV 1) 2 Sc [Y (.lst (iD l1)),Y (nD ns),Y (.lst (cD a1 b1 c)),Y (.int (k:Nat)),Y (.lst fd),x5,Y (.int (v:Nat)),Y (.str (dR i)),Y (.str (bx nm))]=Y (bQ w,[Y (.lst (iD l2)),Y (nD ns),Y (.lst (cD a2 b2 c2)),Y (.int (k:Nat)),Y (.lst fd),x5,Y (.int (v:Nat)),Y (.str (dR i)),Y (.str (bx nm))]):=by
  have:∀F,j9 F 0 (eV 1) 2 Sc [Y (.lst (iD l1)),Y (nD ns),Y (.lst (cD a1 b1 c)),Y (.int (k:Nat)),Y (.lst fd),x5,Y (.int (v:Nat)),Y (.str (dR i)),Y (.str (bx nm))]=(F _).map _:=λF=>rfl
  rw[this,e];rfl
 let tp:sj (jd (mP (eV 7)) (jd (mP (eV 8)) (jd (j9 A 0 (eV 1) 2 Sc) mE))) [Y (.lst (iD l1)),Y (nD ns),Y (.lst (cD a1 b1 c)),Y (.int (k:Nat)),Y (.lst fd),x5,Y (.int (v:Nat)),Y (.str (dR i)),Y (.str (bx nm))]=Y (lp (dR i) (bx nm) (bQ w),[Y (.lst (iD l2)),Y (nD ns),Y (.lst (cD a2 b2 c2)),Y (.int (k:Nat)),Y (.lst fd),x5,Y (.int (v:Nat)),Y (.str (dR i)),Y (.str (bx nm))]):=by
  let mt3:∀ {f g h:DM}{ρ ρ1 ρ2 ρ3:bP}{x y z:D},f ρ=Y (x,ρ1)->g ρ1=Y (y,ρ2)->h ρ2=Y (z,ρ3)->sj (jd f (jd g (jd h mE))) ρ=Y (.tup [x,y,z],ρ3):=by intro f g h ρ ρ1 ρ2 ρ3 x y z e1 e2 e3;unfold sj jd;rw[e1];simp;rw[e2];simp;rw[e3];rfl
  exact mt3 rfl rfl m
 unfold O6;rw[tp];show (if fd.length<cY then _ else M)=_;rw[if_pos (jJ (by lia))];rfl
theorem Yd{f:DM}{j:Int}(e:f b=Y (.int j,a))(h : -(2 ^ 62)<=j/\j<2 ^ 62):iRM f b=Y (fx 0 j.toNat,a):=by
 simp_all [iRM,ah,if_pos]
def Us{f:DM}{b a:bP}(c:n=1\/n=2)(h:f b=Y (.int (n:Nat),a)):iRM f b=Y (fx 0 n,a):=by
 grind [Yd,mZ,jB,cI]
def Kz{A B:List D->Option (D×List D×List D)}{ns:List aH}{k:Nat}(hn:NO ns)(hA:Vl A ns k):SSk (vB 4 9 0 2 (jU A B)) ns k:=by
 intro l a b c;let⟨v,l1,ep⟩:=xA;let run:vB 4 9 0 2 _ [.lst (iD l),nD ns,.lst (cD a b c),.int k]=(jU A B _).bind _:=rfl;rw[run];unfold jU;rw[az (ρ':=[Y _,Y _,Y _,Y _,Y (.lst []),M,M,M,M]) rfl];obtain⟨n,abb,ev⟩:∃n:Nat,(n=1\/n=2)/\m2 c6 (mP _) (m2 gM _ _) _=Y (.int n,[Y _,Y _,Y _,Y _,Y _,M,M,M,M]):=by
  refine⟨1+v%2,Ž,?_⟩;let e1:m2 gM (ue rh 0 aN) (mP na) [Y (.lst (iD l)),Y (nD ns),Y (.lst (cD a b c)),Y (.int k),Y (.lst []),M,M,M,M]=Y (.int (v%2:Nat),[Y (.lst (iD l1)),Y (nD ns),Y (.lst (cD a b c)),Y (.int k),Y (.lst []),M,M,M,M]):=by unfold m2;rw[ep];rfl
  let m2e:∀(o:D->D->Option D) (f g:DM) (ρ:bP),m2 o f g ρ=(f ρ).bind _:=λe e e e=>rfl
  rw[m2e,show ∀ρ,mP v6 ρ=Y _ from λe=>rfl];simp;rw[e1]
  exact Ÿ
 unfold ba FW;rw[Us abb ev];simp only[ah];let⟨i1,nm1,w1,l2,a2,b2,c2,y6,y7,y8,s1,h1,g1,i1'⟩:=KA (B:=B) hn hA (l:=l1) (a:=a) (b:=b) (c:=c) (fd:=[]) (x5:=Y (.int 0)) (x6:=M) (x7:=M) (x8:=M) ż;let d1:=g1.d;let z1:=g1.z;let st1:=g1.s;rcases abb with rfl|rfl
 .refine⟨.cons i1 nm1 w1 .nil,l2,a2,b2,c2,?_,⟨⟨h1,g1.n,trivial⟩,⟨g1.o,trivial⟩,by grind [mU],by grind [k9],by grind [vw]⟩,λz=>(by cases z),λh=>Ÿ⟩;rw[show fx 0 1=[.int 0] from rfl,dF rfl s1];rfl
 .let⟨i2,nm2,w2,l3,a3,b3,c3,z6,z7,z8,s2,h2,g2,i2'⟩:=KA hn hA (a:=a2) (fd:=[]++[lp _ _ _]) ż;let d2:=g2.d;let z2:=g2.z;let Sq:=g2.s;refine⟨.cons i1 nm1 w1 (.cons i2 nm2 w2 .nil),l3,a3,b3,c3,?_,⟨⟨h1,g1.n,h2,g2.n,trivial⟩,⟨g1.o,g2.o,trivial⟩,by grind [mU],by grind [k9],by grind [vw]⟩,λz=>(by cases z),λh=>by grind [Fn]⟩;rw[show fx 0 2=[.int 0,.int 1] from rfl,dF rfl s1,dF rfl s2];rfl
theorem FJ{a:List aH}(b:NO a):∀(k:Nat),k<=2->∀m,(1+2*k<=m->Vl (cA m) a k)/\(2+2*k<=m->SSk (cU m) a k)
 | 0,c,m=>by
  have w:∀m,1+2*0<=m->Vl (cA m) a 0:=λm h=>by
   obtain⟨m,rfl⟩:∃j,m=j+1:=⟨m-1,Ž⟩
   simp_all [Kw,cA,cU]
  refine⟨w m,λh =>?_⟩;obtain⟨m,rfl⟩:∃j,m=j+1:=⟨m-1,Ž⟩
  simp_all [Kz,cA,cU]
 | k+1,c,m=>by
  let ih:=FJ b k Ž;have w:∀m,1+2*(k+1)<=m->Vl (cA m) a (k+1):=λm h=>by
   obtain⟨m,rfl⟩:∃j,m=j+1:=⟨m-1,Ž⟩
   grind [Kw,cA,cU]
  refine⟨w m,λh =>?_⟩;obtain⟨m,rfl⟩:∃j,m=j+1:=⟨m-1,Ž⟩;exact Kz b ŷ
structure QT(a:Ss):Prop where
 q:ZJ TX a
 i:Fn a<=1
 z:k9 a<=28
 d:mU a<=6
def QT.lv(h:QT a)(m:b∈rB a):QT b:=by
 let q:=Gy (T:=λ_=>True) a b m;have:=q.d;have:=q.z;have:=q.i;have:=h.d;have:=h.z;have:=h.i;exact⟨h.q.lv m,Ž,Ž,Ž⟩
def FG{i:List aH}(k:NO i)(l:List Nat)(b c:Int):∃s a h f d,eB [.lst (iD l),nD i,.lst (cD 1 b c),.int 2]=Y (.lst (dH s),iD a,cD h f d)/\QT s:=by
 let⟨s,a,h,f,d,e,g,j,o⟩:=(FJ k 2 Ž 12).2 Ž l 1 b c;let p:=g.d;let m:=g.z;let n:=g.s;simp only[zB,sB]at m n;exact⟨s,a,h,f,d,e,⟨g.n,g.o,j,Ž,Ž,by simp;lia⟩,Ž,Ž,Ž⟩
end K21
namespace L2
open PySem
def ab2{i j:Int}(h : -(2 ^ 64)<j/\j<2 ^ 64):uL (.int i) (.int j)=Y (.int (i*j)):=by simp only[uL];rw[if_pos (.inr h)]
def Sd{i j:Int}(h : -(2 ^ 64)<i/\i<2 ^ 64):uL (.int i) (.int j)=Y (.int (i*j)):=by simp only[uL];rw[if_pos (.inl h)]
def xw{i j:Int}(h:0<j):gM (.int i) (.int j)=Y (.int (i%j)):=by simp only[gM];rw[if_pos h]
def Dl{i j:Int}(h:0<j/\j<2 ^ 64):ir (.int i) (.int j)=Y (.int (i/j)):=by simp only[ir];rw[if_pos h]
def abK{i j:Int}:c6 (.int i) (.int j)=Y (.int (i+j)):=rfl
def aae{i j:Int}:mr (.int i) (.int j)=Y (.int (i-j)):=rfl
def eqI{i j:Int}:fF (.int i) (.int j)=Y (.bl (i==j)):=rfl
def eqB{i j:Bool}:fF (.bl i) (.bl j)=Y (.bl (i==j)):=rfl
def eqS{i j:aH}:fF (.str i) (.str j)=Y (.bl (i==j)):=rfl
def neI{i j:Int}:Gc (.int i) (.int j)=Y (.bl (!(i==j))):=rfl
def neS{i j:aH}:Gc (.str i) (.str j)=Y (.bl (!(i==j))):=rfl
def ltI{i j:Int}:Vq (.int i) (.int j)=Y (.bl (decide (i<j))):=rfl
def gtI{i j:Int}:yX (.int i) (.int j)=Y (.bl (decide (j<i))):=rfl
def ixL{xs:List D}{i:Int}:bF (.lst xs) (.int i)=vk xs i:=rfl
def ixT{xs:List D}{i:Int}:bF (.tup xs) (.int i)=vk xs i:=rfl
def aaS{xs:List D}:eW [.lst xs]=Y (.int xs.length):=rfl
def aaQ{xs:List D}:eW [.tup xs]=Y (.int xs.length):=rfl
def geI{i j:Int}:oGe (.int i) (.int j)=Y (.bl (decide (j<=i))):=rfl
def x9(xs:List Int)(n:Nat)(v:Int):(xs.map D.int).set n (.int v)=(xs.set n v).map D.int:=by rw[List.map_set]
end L2
namespace K21
open PySem L2
local macro_rules | `(tactic|walk_at "v")=>do
 let a←("gu rq gA ba d8 jQ dM oD pM gq cN gW sf sd dW e2 eV eK eF eO cW aO dG aC aN cz i7 DV i6 jN iL iE wM iR2 pN pS lY He iS iU eS Ow aJ eH a9 Fe cT bL bG SE vf List.getElem?_nil Option.join_some Option.join_none ah da om abK aae eqI eqB eqS neI neS ltI gtI geI ixL ixT aaS aaQ bj bo if_true if_false fV mW Ah Nat.reduceAdd Nat.reduceSub Nat.reduceLeDiff".splitOn " ").toArray.mapM fun s=>`(Lean.Parser.Tactic.simpLemma|$(Lean.mkIdent s.toName):term)
 `(tactic|simp only[$a,*])
def Rp(l:List Int)(J:l.length<=63)(k0 a:Int)(t0:0<=k0)(t1:k0<=1000)(m0:0<=a)(m1:a<=1000):∃B:List Int,tD [.kT l,.int k0,.int a]=Y (B.map D.int)/\B.length=a.toNat/\∀x∈B,0<=x:=by
 let X:(B_ l M (Y 63)).length<=63:=aV (YT _ _ _) J;generalize r:B_ l M (Y 63)++[k0]=e;have Q:1<=e.length:=by rw[<- r];simp
 let P:e.length<=64:=by rw[<- r];simp;lia
 let e1:c6 (.lst ((B_ l M (Y 63)).map D.int)) (.lst [.int k0])=Y (.lst (e.map D.int)):=by simp only[c6];rw[if_pos (by simp[kG];lia),<- r];simp
 let⟨S,O⟩:=ET (xs:=e) (z:=0) ſ Ž;unfold tD Ew;walk_at "v";rw[e1];walk_at "v";rw[O];walk_at "v";rw[Dl ⟨by decide,by decide⟩];walk_at "v";rw[xw (by decide)];walk_at "v";by_cases R:(S/50000%2==1)=Z'
 .rw[R];walk_at "v";let T:(e.map D.int).length<=cY:=by simp[kG];lia
  rw[if_pos T,JB (h:=λd=>match d with|.int i =>.int (i/100000)|d=>d) (λd z=>by let⟨i,_,rfl⟩:=a7.mp z;exact⟨_,rfl,by walk_at "v";rw[Dl ⟨by decide,by decide⟩]⟩)]
  let el:(e.map D.int).map (λd=>match d with|.int i =>.int (i/100000)|d=>d)=(e.map (· / 100000)).map D.int:=by simp
  rw[el];walk_at "v";rw[if_pos (⟨by lia,by lia⟩)];walk_at "v";let L:(e.map (· / 100000)).length=e.length:=by simp
  obtain⟨A,N,⟨f,g,p,F,rfl,c,q,b⟩⟩:=GU (τ:=gN 6) (g:=tq) (ds:=fx 0 (k0+a).toNat) (λi s=>∃(f g:List Int) (p F:Option D),s=[Y (.kT l),Y (.int k0),Y (.int a),Y (.lst (e.map D.int)),Y (.lst (f.map D.int)),Y (.lst (g.map D.int)),p,F,M,M]/\f.length=i-k0.toNat/\g.length=e.length/\∀x∈f,0<=x)
   (ρ:=[Y (.kT l),Y (.int k0),Y (.int a),Y (.lst (e.map D.int)),Y (.lst []),Y (.lst ((e.map (· / 100000)).map D.int)),M,M,M,M]) ⟨[],e.map (· / 100000),M,M,rfl,ż,L,λx h=>by cases h⟩ (by
   rintro j d s z ⟨f,g,p,F,rfl,c,q,b⟩;let⟨U,rfl⟩:=vC z;have k:(0:Int)<(g.length:Int):=Ž
   have u:=ic (0+(j:Int)) (show (g.length:Int)≠0 by lia);let t:=gP (0+(j:Int)) k;let⟨v,ev⟩:=ET (xs:=g) u t;by_cases y:k0<=0+(j:Int)
   .refine⟨_,[Y (.kT l),Y (.int k0),Y (.int a),Y (.lst (e.map D.int)),Y (.lst ((f++[v%2147483587]).map D.int)),Y (.lst ((g.set ((0+(j:Int))%(g.length:Int)).toNat (v/2147483587)).map D.int)),Y (.int (0+(j:Int))),Y (.int ((0+(j:Int))%(g.length:Int))),M,M],rfl,?_,⟨_,_,_,_,rfl,by simp[c];lia,by simp[q],λx G =>?_⟩⟩
    .unfold tq;walk_at "v";rw[aG,xw k];walk_at "v";rw[decide_eq_true y];walk_at "v";rw[ev];walk_at "v";rw[xw (by decide)];walk_at "v";rw[if_pos (by rw[aG,kG];lia)];walk_at "v";rw[ev];walk_at "v";rw[Dl ⟨by decide,by decide⟩];walk_at "v";rw[aG,Ln u t];walk_at "v";rw[x9];simp
    .rcases aA.mp G with h|h
     .exact b x h
     .rw[bI.mp h];exact ic _ ſ
   .refine⟨_,[Y (.kT l),Y (.int k0),Y (.int a),Y (.lst (e.map D.int)),Y (.lst (f.map D.int)),Y (.lst ((g.set ((0+(j:Int))%(g.length:Int)).toNat (v/2147483587)).map D.int)),Y (.int (0+(j:Int))),Y (.int ((0+(j:Int))%(g.length:Int))),M,M],rfl,?_,⟨_,_,_,_,rfl,by rw[c];lia,by simp[q],b⟩⟩;unfold tq;walk_at "v";rw[aG,xw k];walk_at "v";rw[decide_eq_false y];walk_at "v";rw[ev];walk_at "v";rw[Dl ⟨by decide,by decide⟩];walk_at "v";rw[aG,Ln u t];walk_at "v";rw[x9])
  rw[N];walk_at "v";rw[(pP _ _)]at c;exact⟨f,rfl,by rw[c];lia,b⟩
 .let W:(S/50000%2==1)=false:=by simpa using R
  rw[W];walk_at "v";rw[if_pos (⟨by lia,by lia⟩)];walk_at "v";let H:(fx 0 a.toNat).length=a.toNat:=pP _ _;obtain⟨A,N,⟨f,p,E,C,rfl,c,b⟩⟩:=GU (τ:=gN 6) (g:=xW) (ds:=fx 0 a.toNat) (λi s=>∃(f:List Int) (p E C:Option D),s=[Y (.kT l),Y (.int k0),Y (.int a),Y (.lst (e.map D.int)),Y (.lst (f.map D.int)),M,p,M,E,C]/\f.length=i/\∀x∈f,0<=x)
   (ρ:=[Y (.kT l),Y (.int k0),Y (.int a),Y (.lst (e.map D.int)),Y (.lst []),M,M,M,M,M]) ⟨[],M,M,M,rfl,rfl,λx h=>by cases h⟩ (by
   rintro j d s z ⟨f,p,E,C,rfl,c,b⟩;let⟨U,rfl⟩:=vC z;have k:(0:Int)<(e.length:Int):=Ž
   have u:=ic (0+(j:Int)) (show (e.length:Int)≠0 by lia);let t:=gP (0+(j:Int)) k;let⟨v,ev⟩:=ET u t;generalize I:(0+(j:Int)+k0)*(0+(j:Int)+k0)*7919+104729=m;generalize w:(v%2147483647+m)*48271%2147483647=o;let n1:o<2147483647:=by rw[<- w];exact gP _ ſ
   generalize K:(o*o+69621*(0+(j:Int)))%2147483629=n;refine⟨_,[Y (.kT l),Y (.int k0),Y (.int a),Y (.lst (e.map D.int)),Y (.lst ((f++[n*n%2147483587]).map D.int)),M,Y (.int (0+(j:Int))),M,Y (.int m),Y (.int n)],rfl,?_,⟨_,_,_,_,rfl,by simp[c],λx G =>?_⟩⟩
   .unfold xW;walk_at "v";rw[Sd ⟨by lia,by lia⟩];walk_at "v";rw[ab2 ⟨by decide,by decide⟩];walk_at "v";rw[I,aG,xw k];walk_at "v";rw[ev];walk_at "v";rw[xw (by decide)];walk_at "v";rw[ab2 ⟨by decide,by decide⟩];walk_at "v";rw[xw (by decide),w];walk_at "v";rw[Sd ⟨by lia,by lia⟩];walk_at "v";rw[Sd ⟨by decide,by decide⟩];walk_at "v";rw[xw (by decide),K];walk_at "v";rw[Sd ⟨by lia,by lia⟩];walk_at "v";rw[xw (by decide)];walk_at "v";rw[if_pos (by rw[aG,kG];lia)];simp
   .rcases aA.mp G with h|h
    .exact b x h
    .rw[bI.mp h];exact ic _ ſ)
  rw[N];walk_at "v";rw[H]at c;exact⟨f,rfl,c,b⟩
end K21
namespace K21
open PySem L2 K30
theorem td:∀w:Ws,(lZ w).length=fX w
 |.nil=>rfl|.cons w r=>by rw[lZ,aJ,aG,td r];rfl
mutual
theorem D2:∀w:Wi,(yS w).length+1<=2*gH w
 |.any=>by solve_by_elim
 |.txt _=>by solve_by_elim
 | .has s=>by
  have:=IG s
  grind [yS,gH,aJ,aI,aG]
 |.both w=>by have:=Ab w;have:=td w;simp only[yS,gH,aJ,aG,aI];split<;>simp<;>lia
 |.one w=>by have:=Ab w;have:=td w;simp only[yS,gH,aJ,aG,aI];split<;>simp<;>lia
theorem Ab:∀w:Ws,(MU w).length+fX w<=2*mf w
 |.nil=>by solve_by_elim
 | .cons w r=>by
  have:=D2 w;have:=Ab r
  grind [MU,mf,fX,aI,aG]
theorem IG:∀s:Ss,(Om s).length+3*hJ s<=2*k9 s
 |.nil=>by solve_by_elim
 | .cons b a w r=>by
  have:=D2 w;have:=IG r
  grind [Om,k9,hJ,aI,aG]
end
def Kp{P R:List D}(c:P.length+R.length+1<=2000):jl [.lst (P++x::R),.int (P.length:Nat),y]=Y (.lst (P++y::R)):=by
 let b:eF (lY (eV 0) pN (pS (eV 1))) [Y (.lst (P++x::R)),Y (.int P.length),Y y]=Y (.lst P):=by rw[tj rfl rfl];simp
 let a:eF (lY (eV 0) (pS (e2 c6 (eV 1) v6)) pN) [Y (.lst (P++x::R)),Y (.int P.length),Y y]=Y (.lst R):=by rw[nP rfl (zq rfl rfl)];simp
 refine jI ((B5 (B5 b (rfl) (aV (show _<=2000 by simp;lia) ſ)) a (aV (show _<=2000 by simp;lia) ſ)).trans ?_);simp
def YB(n:Nat)(l:List D):List D:=(l.zipIdx n).map λp =>.tup [.int (p.2:Nat),p.1]
def Hd(n:Nat)(d:D)(l:List D):YB n (d::l)=.tup [.int (n:Nat),d]::YB (n+1) l:=by solve_by_elim
theorem Qk{P R:List D}{s:D}(f:P.length+R.length+1<=2000):∀(L:List Wi) (c:List D) (d:Option D),c.length+L.length<=4000->∃e,dz (gN 4) (jw A B C) (L.map bQ) [Y (.lst (P++x::R)),Y (.lst c),Y (.int (P.length:Nat)),Y (lp a b s),d]=Y (.nx [Y (.lst (P++x::R)),Y (.lst (c++L.map λw =>.lst (P++lp a b (bQ w)::R))),Y (.int (P.length:Nat)),Y (lp a b s),e])
 |[],c,d,_=>⟨d,by simp[dz]⟩
 | w::L,c,d,h=>by
  simp at h;let⟨e,ih⟩:=Qk f L (c++[.lst _]) _ (by simp;lia);refine⟨e,?_⟩;let j:aO jl Ê [Y (.lst (P++x::R)),Y (.lst c),Y (.int P.length),Y (lp a b s),Y (bQ w)]=Y (.lst (P++lp a b (bQ w)::R)):=by
   let i:∀F,aO F Ê [Y (.lst (P++x::R)),Y (.lst c),Y (.int P.length),Y (lp a b s),Y (bQ w)]=F _:=λF=>rfl
   rw[i,Kp f]
  let g:jw A B C [Y (.lst (P++x::R)),Y (.lst c),Y (.int P.length),Y (lp a b s),Y (bQ w)]=Y (.nx [Y (.lst (P++x::R)),Y (.lst (c++[.lst (P++lp a b (bQ w)::R)])),Y (.int P.length),Y (lp a b s),Y (bQ w)]):=by unfold jw;rw[sL rfl j (Bh (by lia))];simp
  rw[a9,dF rfl g,ih];simp
theorem V0:∀(r:Ss) (P c:List D) (f e d:Option D),(∀w,h_ w<=n->gH w<=900->B [bQ w]=Y ((yS w).map bQ))->mU r<=n+1->k9 r<=900->P.length+hJ r<=1000->c.length+2*k9 r<=3900->∃z y g,dz (yA 2 3) (ly A B C) (YB P.length (dH r)) [Y (.lst (P++dH r)),Y (.lst c),f,e,d]=Y (.nx [Y (.lst (P++dH r)),Y (.lst (c++(Om r).map λq =>.lst (P++dH q))),z,y,g])
 |.nil,P,c,f,e,d,_,_,_,_,_=>⟨f,e,d,by simp[YB,dH,dz,Om]⟩
 | .cons b a w r,P,c,f,e,d,h,o,k,p,m=>by
  simp only[mU]at o;simp only[k9]at k m;simp only[hJ]at p;let E:=D2 w;let l:=CY r;let t:P++[lp (dR b) (bx a) (bQ w)]++dH r=P++dH (.cons b a w r):=by simp[dH]
  let⟨g,s⟩:=Qk (P:=P) (R:=dH r) Ž (yS w) c d Ž;let j:iL (eF (dG B Ð)) [Y (.lst (P++lp (dR b) (bx a) (bQ w)::dH r)),Y (.lst c),Y (.int P.length),Y (lp (dR b) (bx a) (bQ w)),d]=Y ((yS w).map bQ):=by
   have:∀G,iL (eF (dG G Ð)) [Y (.lst (P++lp (dR b) (bx a) (bQ w)::dH r)),Y (.lst c),Y (.int P.length),Y (lp (dR b) (bx a) _),d]=((G [bQ w]).map _).bind _:=λG=>rfl
   rw[this,h w (by lia) (by lia)];rfl
  let i:=(eD j).trans s;let⟨x,v,u,ih⟩:=V0 r (P++[lp _ _ _]) (c++(yS w).map _) _ _ g h Ž Ž (by simp;lia) (by simp;lia);refine⟨x,v,u,?_⟩;rw[dH,Hd,dF (g:=ly A B C) rfl i];rw[t,show (P++[lp (dR b) (bx a) (bQ w)]).length=P.length+1 by simp]at ih;refine ih.trans ?_;simp only[Om,gx,iq,bB,bD,dH];simp
def EB{f:DF}{c:bP}{l a:List D}(h:eV i c=Y (.lst l))(k:f c=Y (.lst a))(b:l.length+a.length<=4000):lJ i f c=Y (.nx (c.set i (Y (.lst (l++a))))):=by
 have:=Bh b
 grind [lJ,dW,ah]
def Jz{f:DL}{src:List (Option Nat)}{e:DF}{l:List D}(i:f c=Y l)(s:iU src c=M::a)(b:l.length<=4000)(k:∀d∈l,e (Y d::a)=Y (h d)):eF (jN f src (gN 0) dC e) c=Y (.lst (l.map h)):=by
 unfold eF jN;rw[i,ah,if_pos (cx (Bh b)),s,JB λd g=>⟨Y d::a,rfl,k d g⟩];rfl
theorem V1{A B C:List D->Option (List D)}{n:Nat}:∀(r:Ws) (P b:List D) (f e:Option D),(∀w,h_ w<=n->gH w<=900->B [bQ w]=Y ((yS w).map bQ))->uo r<=n->mf r<=900->P.length+fX r<=1000->b.length+2*mf r<=3900->∃v u,dz (yA 2 3) (gk A B C) (YB P.length (i4 r)) [Y (.lst (P++i4 r)),Y (.lst b),f,e]=Y (.nx [Y (.lst (P++i4 r)),Y (.lst (b++(MU r).map λq =>.lst (P++i4 q))),v,u])
 |.nil,P,b,f,e,_,_,_,_,_=>⟨f,e,by simp[YB,i4,dz,MU]⟩
 | .cons w r,P,b,f,e,h,m,j,o,l=>by
  simp only[uo]at m;simp only[mf]at j l;simp only[fX]at o;let x:=D2 w;let k:=rO r;let p:P++[bQ w]++i4 r=P++i4 (.cons w r):=by simp[i4]
  let c:∀G,iL (eF (dG G Sc)) [Y (.lst (P++bQ w::i4 r)),Y (.lst b),Y (.int P.length),Y (bQ w)]=((G _).map D.lst).bind _:=λG=>rfl
  let c:=c B;rw[h w (by lia) (by lia)]at c;let g:=Jz (src:=[M,Y 0,Y 2]) (e:=aO jl (aC (eV 1) (aC (eV 2) ca))) c rfl (by simp;lia) λd a=>Kp Ž
  let i:gk A B C [Y (.lst (P++bQ w::i4 r)),Y (.lst b),Y (.int P.length),Y (bQ w)]=Y (.nx [Y (.lst (P++bQ w::i4 r)),Y (.lst (b++(yS w).map λq =>.lst (P++bQ q::i4 r))),Y (.int P.length),Y (bQ w)]):=by unfold gk;rw[EB rfl g (by simp;lia)];simp[bB]
  let⟨t,s,ih⟩:=V1 r (P++[bQ w]) (b++(yS w).map _) _ _ h Ž Ž (by simp;lia) (by simp;lia);refine⟨t,s,?_⟩;rw[i4,Hd,dF rfl i];rw[p,show (P++[bQ w]).length=P.length+1 by simp]at ih;refine ih.trans ?_;simp only[MU,gx,iq,bB,bD,i4];simp
theorem V2:∀(r:Ws) (P:List D),P.length+fX r<=1000->oh [M,Y (.lst (P++i4 r))] (gN 0) dC Ch (fx ((P.length:Nat):Int) (fX r))=Y ((lZ r).map λq =>.lst (P++i4 q))
 |.nil,P,_=>by solve_by_elim
 | .cons w r,P,h=>by
  simp only[fX]at h;let b:=rO r;let ih:=V2 r (P++[bQ w]) ŷ;let c:eF (lY (eV 1) pN (pS (eV 0))) [Y (.int P.length),Y (.lst (P++bQ w::i4 r))]=Y (.lst P):=by rw[tj rfl rfl];simp
  let a:eF (lY (eV 1) (pS (e2 c6 (eV 0) v6)) pN) [Y (.int P.length),Y (.lst (P++bQ w::i4 r))]=Y (.lst (i4 r)):=by rw[nP rfl (zq rfl rfl)];simp
  rw[show P++[bQ w]++i4 r=P++bQ w::i4 r by simp,show ((P++[bQ w]).length:Nat)=P.length+1 by simp]at ih;rw[fX,z9,i4,sX rfl (B5 c a (aV (show _<=2000 by lia) (by decide))) ih];simp[lZ,bB,i4]
abbrev vo(w:Ws):D :=.lst (i4 w)
def kno(e:eV 0 a=Y (.tup (kS x::r)))(n:cz (λ_=>fF (kS x) (kS k)) []=Y Z_):ba (gq (cz (e2 fF (e2 bF (eV 0) f8) (eK (kS k)))) g cN) h a=h a:=az (by rw[fq ((uh e).trans n)];rfl)
def QN{f:DF}{b:bP}{s:Ss}(e:f b=Y (dn s))(c:1<hJ s):eF (lY f pN (pS (e1 xu v6))) b=Y (dn (fP s)):=by
 have:eF (lY f pN (pS (e1 xu v6))) b=(f b).bind λd=>match d with|.lst a=>Y (.lst (B_ a M (Y (-1))))|_=>none:=by unfold eF lY;rw[e];rfl
 rw[this,e];show Y _=_;rw[dn,JH]
 congr 2
 unfold B_;rw[HT.FV,Nat.sub_zero,n_]
 congr 1
 unfold HT.lI;simp only;rw[if_pos (by decide)]
 lia
def Qp{f:DF}{ρ:bP}{l:List D}(e:f ρ=Y (.lst l))(h:l.length=n):cz (e2 yX (aO eW (aC f aN)) v6) ρ=Y (decide (1<n)):=by
 unfold cz;rw[show ∀(f g:DF) (ρ:bP),e2 yX f g ρ=(f ρ).bind _ from λa a a=>rfl,(mH (G:=eW) e)];show Y _=_
 congr 1
 rw[decide_eq_decide]
 lia
def Tw(k:∀w,h_ w<=n->gH w<=900->B [bQ w]=Y ((yS w).map bQ))(j:uo w<=n)(i:mf w<=900):rq 1 4 (fR A B C) [vo w]=Y (((if 1<fX w then lZ w else [])++MU w).map vo):=by
 show (fR A B C [Y (vo w),M,M,M]).bind Ah=_;let p:=t6 w;let g:=rO w;let s:=td w;unfold fR;rw[az (ρ':=[Y (vo w),Y (.lst []),M,M]) rfl];let b:=Qp (f:=eV 0) (ρ:=[Y (vo w),Y (.lst []),M,M]) rfl g;let q:gq (cz (e2 yX (aO eW ca) v6)) (lJ 1 Ô) cN [Y (vo w),Y (.lst []),M,M]=Y (.nx [Y (vo w),Y (.lst ((if 1<fX w then lZ w else []).map vo)),M,M]):=by
  by_cases c:1<fX w
  .rw[decide_eq_true c]at b;rw[gy b,if_pos c];let o:eF (jN (wM (aO eW ca)) [M,Y 0] (gN 0) dC Ch) [Y (vo w),Y (.lst []),M,M]=Y (.lst ((lZ w).map vo)):=by
    let l:∀(f:DL) (e:DF) (d:bP),eF (jN f [M,Y 0] (gN 0) dC e) d=((f d).bind λa=>if a.length<=cY then oh (iU [M,Y 0] d) (gN 0) dC e a else M).map D.lst:=λv v v=>rfl
    rw[l,(yZ rfl (by lia)),ah,if_pos (by simp[fx];exact cx (Bh (by lia))),g];have:=V2 w [] (by simp;lia);rw[show iU [M,Y 0] [Y (vo w),Y (.lst []),M,M]=[M,Y (.lst ([]++i4 w))] from rfl];rw[show ((([]:List D).length:Nat):Int)=((0:Nat):Int) from rfl]at this;rw[this];rfl
   rw[EB rfl o (by simp;lia)];rfl
  .rw[decide_eq_false c]at b;rw[fq b,if_neg c];rfl
 rw[az q];let r:((if 1<fX w then lZ w else []).map vo).length<=900:=by grind
 let⟨u,t,m⟩:=V1 (A:=A) (B:=B) (C:=C) (n:=n) w [] ((if 1<fX w then lZ w else []).map vo) M M k j i (by simp;lia) Ž;let h:iE (eV 0) [Y (vo w),Y (.lst ((if 1<fX w then lZ w else []).map vo)),M,M]=Y (YB 0 (i4 w)):=rfl;rw[az ((eD h).trans m),yc rfl];simp
def Pj{n:Nat}{s:Ss}(d:∀w,h_ w<=n->gH w<=900->B [bQ w]=Y ((yS w).map bQ))(c:mU s<=n+1)(b:k9 s<=900):rq 1 5 (kx A B C) [dn s]=Y ((Om s).map dn):=by
 show (kx A B C _).bind _=_;let f:=Ql s;unfold kx;rw[az (ρ':=[Y _,Y _,M,M,M]) rfl];let⟨i,h,g,e⟩:=V0 s [] [] _ _ _ d c b ŷ ŷ;let a:iE (eV 0) [Y (dn s),Y (.lst []),M,M,M]=Y _:=rfl;rw[az ((eD a).trans e)];rfl
def KR{L:List Ws}(b:x = "both" \/x = "one")(g:C [vo w]=Y (L.map vo))(i:L.length<=3000):rq 1 2 (cq A B C) [.tup [kS x,vo w]]=Y (bQ .any::L.map λq =>.tup [kS x,vo q]):=by
 show (cq A B C _).bind _=_;unfold cq;have f:cz (λd=>fF (kS x) (kS "any")) []=Y false:=by rcases b with rfl|rfl<;>kernel_rfl
 have e:cz (λd=>fF (kS x) (kS "has")) []=Y false:=by rcases b with rfl|rfl<;>kernel_rfl
 let c:cz (λd=>vi Z_ (kS x) (.tup [kS "both",kS "one"])) []=Y true:=by rcases b with rfl|rfl<;>kernel_rfl
 rw[kno rfl f,az (ρ':=[Y _,Y (.lst [bQ .any])]) rfl,kno rfl e];let a:∀G,iL (eF (dG G Uf)) [Y (.tup [kS x,vo w]),Y (.lst [bQ .any])]=((G _).map _).bind _:=λG=>rfl
 let a:=a C;rw[g]at a;let h:=Jz (src:=[M,Y 0]) (e:=cW (aC (e2 bF (eV 1) f8) ca)) a rfl (by simp;lia) λd d=>rfl
 rw[az (by rw[gy ((Gx rfl).trans c)];exact EB rfl h (by simp;lia)),yc rfl];simp[bB]
theorem VM:∀m,(∀w,2*h_ w<=m->gH w<=900->bC m [bQ w]=Y ((yS w).map bQ))/\(∀s,2*mU s<=m+1->k9 s<=900->cV m [dn s]=Y ((Om s).map dn))/\∀w,2*uo w+1<=m->mf w<=900->bR m [vo w]=Y (((if 1<fX w then lZ w else [])++MU w).map vo)
 |0=>⟨λw h=>by cases w<;>simp[h_]at h<;>lia,λs h=>by have:=tf s;lia,λw h=>Ž⟩
 | m+1=>by
  let⟨ihW,ihS,ihA⟩:=VM m;let hW:∀k,2*k<=m->∀w,h_ w<=k->gH w<=900->bC m [bQ w]=Y ((yS w).map bQ):=λk hk w h=>ihW w Ž
  refine⟨λw h z =>?_,λs h z =>?_,λw h z =>?_⟩
  .let fr:bC (m+1)=rq 1 2 _:=rfl;rw[fr];generalize cV m=A at *
   generalize bC m=B at *
   generalize bR m=C at *
   cases w with
   |any=>show (cq A B C [Y (.tup [kS "any"]),M]).bind Ah=_;unfold cq ba;rw[gy ((uh rfl).trans (by kernel_rfl))];rfl
   |txt t=>unfold cq;rfl|has s=>
    simp only[h_]at h;simp only[gH]at z;let ih:=ihS s Ž Ž;let lz:=IG s;show (cq A B C _).bind Ah=_;unfold cq;rw[kno rfl (by kernel_rfl),az (ρ':=[Y (.tup [kS "has",dn s]),Y (.lst [bQ .any])]) rfl];have t1:=Qp (ρ:=[Y (.tup [kS "has",dn s]),Y (.lst [bQ .any])]) (AG rfl) (CY s);let q1:gq (cz wp) (sf 1 xz) cN [Y (.tup [kS "has",dn s]),Y (.lst [bQ .any])]=Y (.nx [Y (.tup [kS "has",dn s]),Y (.lst (bQ .any::(if 1<hJ s then [Wi.has (fP s)] else []).map bQ))]):=by
     by_cases hb:1<hJ s
     .rw[decide_eq_true hb]at t1;rw[gy t1,if_pos hb,sL rfl (DS rfl (QN (AG rfl) hb)) (Bh (by simp))];rfl
     .rw[decide_eq_false hb]at t1;rw[fq t1,if_neg hb];rfl
    let it:∀(G:List D->Option (List D)) (l:List D),iL (eF (dG G Uf)) [Y (.tup [kS "has",dn s]),Y (.lst l)]=((G [dn s]).map D.lst).bind _:=λG l=>rfl
    let it:=it A (bQ .any::(if 1<hJ s then [Wi.has (fP s)] else []).map bQ);rw[ih]at it;let e1:=Jz (src:=[M]) (e:=cW (aC nb ca)) it rfl (by simp;lia) λd a=>rfl
    let l1:((if 1<hJ s then [Wi.has (fP s)] else []).map bQ).length<=1:=by split<;>simp
    rw[az (by rw[gy ((uh rfl).trans (by kernel_rfl)),az q1];exact EB rfl e1 (by simp at l1 ⊢;lia)),az (by solve_by_elim),yc rfl];simp[yS,bB,bQ]
   |both w=>simp only[h_]at h;simp only[gH]at z;have:=Ab w;have:=td w;refine(KR (.inl rfl) (ihA w Ž Ž) (by rw[aI];split<;>(try rw[eH])<;>lia)).trans ?_;simp[yS,bB,bQ]
   |one w=>simp only[h_]at h;simp only[gH]at z;have:=Ab w;have:=td w;refine(KR (.inr rfl) (ihA w Ž Ž) (by rw[aI];split<;>(try rw[eH])<;>lia)).trans ?_;simp[yS,bB,bQ]
  .have:=tf s;exact Pj (n:=mU s-1) (hW _ Ž) Ž z
  .exact Tw (hW _ Ž) (av _) z
abbrev Sz(a b:Ss):Prop:=Within a b/\Within b a
def KZ(i:QT a)(f:QT b):(Within a b/\f9 [dn a,dn b]=Y .dr)\/(¬Within a b/\∃x y,f9 [dn a,dn b]=Y (.tup [x,y])):=by
 rcases Af i.q f.q with h|⟨n,g,j,e,_⟩
 .exact .inl ⟨h,h⟩
 simp_all
theorem Hz(j:QT a)(i:QT b):(Sz a b/\j4 [dn a,dn b]=Y (.bl Z'))\/(¬Sz a b/\j4 [dn a,dn b]=Y (.bl Z_)):=by
 have g:∀F,EC (e2 Jf (aO F io) wT) (e2 Jf (aO F Tk) wT) [Y (dn a),Y (dn b)]=(((F _).bind _).bind _).bind λc=>if c=Z' then (F _).bind _ else Y _:=λF=>rfl
 let f:j4 [dn a,dn b]=(dM _ [Y _,Y _]).bind _:=rfl;rw[f];rcases KZ j i with⟨w,e⟩|⟨w,x,y,e⟩
 .rcases KZ i j with⟨d,h⟩|⟨d,x,y,h⟩
  .exact .inl ⟨⟨w,d⟩,jI (by rw[g,e,h];rfl)⟩
  .exact .inr ⟨λz=>d z.2,jI (by rw[g,e,h];rfl)⟩
 .exact .inr ⟨λz=>w z.1,jI (by rw[g,e];rfl)⟩
theorem Dk(f:QT a):∀(L:List Ss) (x:Option D),(∀b∈L,QT b)->((∀b∈L,¬Sz b a)/\∃y,dz (gN 1) fI (L.map dn) [Y (dn a),x]=Y (.nx [Y (dn a),y]))\/∃b∈L,Sz b a/\dz (gN 1) fI (L.map dn) [Y (dn a),x]=Y (.rt (dn b))
 |[],x,_ =>.inl ⟨ż,x,rfl⟩
 | b::L,x,h=>by
  let i:∀F,eS (aO F Tk) [Y (dn a),Y (dn b)]=(eS (λ_=>F _)) []:=λF=>rfl
  rcases Hz (h b ż) f with⟨w,e⟩|⟨w,e⟩
  .refine .inr ⟨b,ż,w,?_⟩;let t:eS (aO j4 Tk) [Y (dn a),Y (dn b)]=Y true:=by rw[i,e];rfl
   let g:fI [Y (dn a),Y (dn b)]=Y (.rt (dn b)):=by unfold fI;rw[gy t];rfl
   rw[a9,dz,show gN 1 _ _=Y [Y _,Y _] from rfl,ah,g];rfl
  .let t:eS (aO j4 Tk) [Y (dn a),Y (dn b)]=Y false:=by rw[i,e];rfl
   let g:fI [Y (dn a),Y (dn b)]=Y (.nx [Y (dn a),Y (dn b)]):=by unfold fI;rw[fq t];rfl
   rw[a9,dF rfl g];rcases Dk f L _ λc d=>h c (by simp[d]) with⟨u,v⟩|⟨c,m,u,v⟩
   .refine .inl ⟨λc d =>?_,v⟩
    grind
   .exact .inr ⟨c,by simp[m],u,v⟩
theorem AW(c:QT a):((∀b∈rB a,¬Sz b a)/\dm [dn a]=Y .dr)\/∃b∈rB a,Sz b a/\dm [dn a]=Y (dn b):=by
 let h:=c.z;let i:=c.d;let g:ck _=Y _:=(VM 14).2.1 a Ž Ž;have f:iL (eF (dG ck ca)) [Y (dn a),M]=Y ((Om a).map dn):=by
  have:∀G,iL (eF (dG G ca)) [Y (dn a),M]=((G _).map _).bind _:=λG=>rfl
  rw[this,g];rfl
 let d:dm [dn a]=(pb [Y _,M]).bind _:=rfl;rw[d];unfold pb;rcases Dk c _ _ λb e=>c.lv ((xp a b).1 e) with⟨u,y,v⟩|⟨b,m,u,v⟩
 .refine .inl ⟨λb e=>u b ((xp a b).2 e),?_⟩;rw[az ((eD f).trans v)];rfl
 .refine .inr ⟨b,(xp a b).1 m,u,?_⟩;unfold ba;rw[eD f,v];rfl
def LN:aO dm u8 [q,Y (dn a),x]=dm [dn a]:=mH rfl
def aaM{s:Ss}:cz (e2 vL (eV 2) wT) [q,p,Y (dn s)]=Y true:=rfl
theorem yd{q:Option D}:∀(n:Nat) (a:Ss) (x:D),QT a->K7 a<n->dm [dn a]=Y x->∃b,QT b/\(∀c∈rB b,¬Sz c b)/\uv (cz (e2 vL (eV 2) wT)) sI n [q,Y (dn a),Y x]=Y (.nx [q,Y (dn b),Y .dr])
 |0,a,x,_,h,_=>by lia
 | n+1,a,x,ha,hn,e=>by
  rcases AW ha with⟨u,e'⟩|⟨b,m,u,e'⟩
  .rw[e]at e';cases e';exact⟨a,ha,u,rfl⟩
  .rw[e]at e';cases e';let hb:=ha.lv m;have:=(Gy (T:=λ_=>True) a b m).m;obtain⟨y,ey⟩:∃y,dm [dn b]=Y y:=by grind [AW]
   let⟨c,hc,k,w⟩:=yd n b y hb Ž ey;refine⟨c,hc,k,?_⟩
   .let g:sI [q,Y (dn a),Y (dn b)]=Y (.nx [q,Y (dn b),Y y]):=by exact dD (LN.trans ey)
    rw[uv,g];exact w
mutual
theorem P9:∀w:Wi,M9 w+2<=3*gH w
 |.any=>by solve_by_elim
 |.txt _=>by solve_by_elim
 |.has s=>by have:=Ji s;grind [M9,gH]
 |.both w=>by have:=Jj w;simp only[M9,gH];lia
 |.one w=>by have:=Jj w;simp only[M9,gH];lia
theorem Jj:∀w:Ws,P_ w<=3*mf w
 |.nil=>by simp[P_]
 |.cons w r=>by have:=P9 w;have:=Jj r;grind [P_,mf]
theorem Ji:∀s:Ss,K7 s<=3*k9 s
 |.nil=>by simp[K7]
 |.cons _ _ w r=>by have:=P9 w;have:=Ji r;grind [K7,k9]
end
def IL{a:Ss}(ha:QT a):∃b,QT b/\(∀c∈rB b,¬Sz c b)/\qf [dn a]=Y (dn b):=by
 obtain⟨x,ex⟩:∃y,dm [dn a]=Y y:=by rcases AW ha with⟨_,e⟩|⟨c,_,_,e⟩<;>simp_all
 let hz:=ha.z;have:=Ji a;let⟨b,hb,k,w⟩:=yd 1000000 a x ha Ž ex;refine⟨b,hb,k,?_⟩;let run:qf [dn a]=(sZ _).bind _:=rfl;rw[run];unfold sZ;rw[az (ρ':=[Y _,Y _,M]) rfl,az (dD (LN.trans ex))];simp;unfold ID;rw[az w];let zb:=hb.z;let db:=hb.d;exact jI ((mH rfl).trans (xR b 12 Ž Ž))
mutual
def jR:NT->D
 |.txt t =>.str t|.nd n k f =>.tup [.str n,.lst (og f),.int (k:Nat)]
def og:List NT->List D
 |[]=>[]|t::f=>jR t::og f
end
theorem vN:∀f:List NT,og f=f.map jR
 |[]=>rfl|t::f=>by rw[og,vN f];rfl
abbrev pD(x:D)(f:List NT)(r:List D):D :=.tup (x :: .lst (og f)::r)
def Jg(n:aH)(k:Nat)(f:List NT):jR (.nd n k f)=pD (.str n) f [.int (k:Nat)]:=by rw[jR]
def Bg(h:n<=4000):n<=cY:=cx (Bh h)
theorem Ig{W:List D->Option D}{p:Option D}:∀(f a:List NT) (x:Option D),(∀n k g,NT.nd n k g∈f->W [jR (.nd n k g)]=Y (.lst ((m9 g).map jR)))->a.length+(m9 f).length<=4000->∃y,dz (gN 2) (qN W) (og f) [p,Y (.lst (a.map jR)),x]=Y (.nx [p,Y (.lst ((a++m9 f).map jR)),y])
 |[],a,x,_,_=>⟨x,by simp[og,dz,m9]⟩
 | .txt t::f,a,x,h,b=>by
  obtain _:=Ig (p:=p) f a (Y (.str t)) (λn k g m=>h n k g (by simp[m])) b
  exact Ÿ
 | .nd n k g::f,a,x,h,b=>by
  simp only[m9,HN,aI,aJ]at b;let⟨y,ih⟩:=Ig (p:=p) f (a ++ .nd n k g::m9 g) _ (λn k g m=>h n k g (by simp[m])) (by simp;lia);refine⟨y,?_⟩;let t:i6 (eS (Ow "str" (eV 2))) [p,Y (.lst (a.map jR)),Y (jR (.nd n k g))]=Y true:=by rw[jR];rfl
  let e:=B5 (B5 (f:=eV 1) (g:=eF (eO pc)) (ρ:=[p,Y (.lst (a.map jR)),Y _]) (a:=a.map jR) rfl rfl (Bg ŷ)) ((mH (G:=W) (f:=eV 2) rfl).trans (h n k g ż)) (Bg (by simp;lia));rw[og,dF rfl (show qN W _=Y (.nx [p,Y (.lst ((a ++ .nd n k g::m9 g).map jR)),Y (jR (.nd n k g))]) from by simp_all [qN,gy,dD]),ih]
  simp[m9,HN]
theorem Cf:∀(m:Nat){f:List NT}{x:D}{r:List D},Gd f->(m9 f).length<=m->lB (m+1) [pD x f r]=Y (.lst ((m9 f).map jR))
 | m,f,x,r,G,h=>by
  let i:=G.l;let c:∀n k g,NT.nd n k g∈f->lB m [jR (.nd n k g)]=Y (.lst ((m9 g).map jR)):=λn k g b=>by let⟨e,l⟩:=G.sub (Ie b);obtain⟨m,rfl⟩:∃j,m=j+1:=⟨m-1,Ž⟩;exact Cf m e Ž
  show (AQ _ _).bind _=_;unfold AQ;rw[az (ρ':=[Y _,Y _,M]) rfl];let⟨y,d⟩:=Ig f [] _ c ŷ;let a:iL (e2 bF (eV 0) v6) [Y (pD x f r),Y (.lst []),M]=Y (og f):=by unfold iL;rw[AG rfl];rfl
  rw[az ((eD a).trans d)];rfl
 termination_by m=>m
def Hu{f:List NT}{r:List D}(G:Gd f):oX [pD x f r,.str (dR b)]=Y (.lst ((rG b f).map jR)):=by
 let i:=G.l;show (ze [Y (pD x f r),Y (.str (dR b))]).bind mW=_;unfold ze;cases b with
 |true=>refine jI ((mH (G:=l7) (f:=eV 0) rfl).trans ?_);exact Cf 65 G Ž
 |false=>
  let c:iL (e2 bF (eV 0) v6) [Y (pD x f r),Y (.str (dR Z_))]=Y (og f):=by unfold iL;rw[AG rfl];rfl
  let h:=G.z;let a:(og f).length<=FZ f:=by
   rw[vN,aG];clear c h i G
   induction f with
   |nil=>simp|cons t f ih=>
    have:1<=Zu t:=by cases t<;>simp[Zu]<;>lia
    grind [aJ,FZ]
  let l:(og f).filter (λd=> !Sr "str" d)=(rG Z_ f).map jR:=by
   rw[vN];clear c h i G a
   induction f with
   |nil=>rfl|cons t f ih=>
    cases t with|txt t=>solve_by_elim|nd n k g=>rw[a9,dJ,ih];rfl
  let e:jN (iL (e2 bF (eV 0) v6)) [M] (gN 0) (i6 (eS Ev)) (eV 0) [Y (pD x f r),Y (.str (dR Z_))]=Y ((rG Z_ f).map jR):=by
   unfold jN;rw[c,ah,if_pos (aV (show _<=10000 by lia) (by decide)),<- l];refine JA λd j =>?_
   rw[vN]at j;let⟨t,_,rfl⟩:=a7.1 j;cases t<;>rw[jR]<;>rfl
  let g:gq (cz (e2 fF (eV 1) Ix)) EQ cN [Y (pD x f r),Y (.str (dR Z_))]=Y (.ro ((rG Z_ f).map jR)):=by
   rw[gy (by kernel_rfl)]
   simp_all [oD]
  unfold ba;rw[g];rfl
mutual
theorem Xy:∀(t:NT) (n:Nat),2*(HN t).length<=n->jg (jR t) n=Z'
 |.txt t,n,h=>by solve_by_elim
 | .nd m k f,n,h=>by
  simp only[HN,aJ]at h
  obtain⟨n,rfl⟩:∃j,n=j+2:=⟨n-2,Ž⟩
  simp[jR,jg,iA,I0 f n (by lia)]
theorem I0:∀(f:List NT) (n:Nat),2*(m9 f).length<=n->iA (og f) n=Z'
 |[],n,_=>rfl| t::f,n,h=>by
  simp only[m9,aI]at h
  rw[og,iA,Xy t n (by lia),I0 f n (by lia)];rfl
end
def SO{f:List NT}{t:aH}(G:Gd f):∃b,Ge Z_ (.str t) (.lst (og f))=Y (.bl b)/\(b=Z'↔NT.txt t∈f):=by
 let h:=G.l;refine⟨(og f).any λy=>nO y (.str t),?_,?_⟩
 .have:Ge Z_ _ (.lst _)=if (jg (.str t) 170&&iA _ 170)=Z' then Y (.bl ((og f).any _)) else none:=rfl
  rw[this,if_pos (by rw[I0 f 170 (by lia)];rfl)]
 .rw[vN,oz];constructor
  .rintro⟨d,a,e⟩;let⟨y,c,rfl⟩:=a7.1 a;cases y with
   |txt s=>simp_all [jR,nO]|nd n k g=>simp[jR,nO]at e
  grind [jR,By,nO]
def K6(h:b≠Y (ab "*")):((ab "*" == bx b)||((n==bx b)||false))=Z'↔kq b n:=by
 cases b with
 |none=>solve_by_elim|some a=>
  simp only[bx,kq,jM,beq_iff_eq,fV,or_false]
  grind
def Lk{x:String}(h:eV 1 a=Y (.tup (kS x::r))):cz (e2 fF (e2 bF (eV 1) f8) (eK (kS k))) a=cz (λ_=>fF (kS x) (kS k)) []:=by
 let e:e2 bF (eV 1) f8 a=Y (kS x):=by unfold e2;rw[h];exact d6 rfl
 unfold cz e2 at *
 rw[e];rfl
def JD{x:String}(e:eV 1 a=Y (.tup (kS x::r)))(n:cz (λ_=>fF (kS x) (kS k)) []=Y Z_):ba (gq (cz (e2 fF (e2 bF (eV 1) f8) (eK (kS k)))) g cN) h a=h a:=az (by rw[fq ((Lk e).trans n)];rfl)
def HE(H:List D->Option D)(f:List NT)(w:Wi):Prop:=∀x r,∃b,H [pD x f r,bQ w]=Y (.bl b)/\(b=Z'↔jW w (fg f))
def LE(L:List D->Option D)(f:List NT)(s:Ss):Prop:=∀x r,∃b,L [pD x f r,dn s]=Y (.bl b)/\(b=Z'↔kZ (λ_=>True) s (fg f))
theorem Lx{H:List D->Option D}{p:D}{f:List NT}{x:D}{r:List D}(g:p=pD x f r):∀a:Ws,R4 a->(∀w,gH w<=mf a->N7 w->h_ w<=uo a->HE H f w)->∃l:List D,oh [M,Y p] (gN 0) (eS (aO H Tk)) (eV 0) (i4 a)=Y l/\l.length<=fX a/\(l.length=fX a↔kf a (fg f))/\(0<l.length↔lg a (fg f))
 |.nil,_,_=>⟨[],Ÿ,by simp[fX],Ÿ,by simp[lg]⟩
 | .cons w j,c,h=>by
  let⟨b,e,q⟩:=h w (by simp_all [mf]) c.1 (by grind [uo]) x r;let⟨l,k,s,o,m⟩:=Lx g j c.2 λi hw n d=>h i (by grind [mf]) n (by simp only[uo];lia)
  have t:eS (aO H Tk) [Y (bQ w),Y p]=Y b:=by unfold eS;rw[uq rfl rfl,g,e];rfl
  rw[i4,oh,show gN 0 _ _=Y [Y _,Y p] from rfl,ah,t,k];cases b with
  |true=>
   refine⟨_,rfl,by simp[fX];lia,?_,?_⟩
   .simp_all [aJ,fX,kf]
   simp_all [aJ,lg]
  |false=>
   refine⟨l,rfl,Ÿ,?_,?_⟩
   .grind [fX,kf,absurd]
   simp_all [lg]
def Y7{f:DF}{a b:List D}(e:f c=Y (.lst a))(k:g c=Y (.lst b)):e2 fF (aO eW (aC f aN)) (aO eW (aC g aN)) c=Y (.bl (decide (a.length=b.length))):=by
 let d:=mH (G:=eW) k;rw[show ∀(f g:DF) (c:bP),e2 fF f g c=(f c).bind _ from λh h h=>rfl,(mH (G:=eW) e),d];show fF (.int _) (.int _)=_;have:fF (.int a.length) (.int b.length)=Y _:=rfl;rw[this,qI]
 congr 2
 grind
def len_pos{f:DF}{l:List D}(e:f a=Y (.lst l)):e2 yX (aO eW (aC f aN)) f8 a=Y (.bl (decide (0<l.length))):=by
 rw[show ∀(f g:DF) (a:bP),e2 yX f g a=(f a).bind _ from λb b b=>rfl,(mH (G:=eW) e)];show Y _=_
 simp_all
def Dc{one:Bool}{H L:List D->Option D}{f:List NT}{x:D}{r:List D}(g:R4 a)(h:∀w,gH w<=mf a->N7 w->h_ w<=uo a->HE H f w)(s:mf a<=900):∃b,gu 2 3 (kz H L) [pD x f r,.tup [kS (if one then "one" else "both"),vo a]]=Y (.bl b)/\(b=Z'↔if one=Z' then lg a (fg f) else kf a (fg f)):=by
 let⟨l,n,u,t,k⟩:=Lx (H:=H) (p:=pD x f r) (x:=x) (r:=r) rfl a g h;let p:=rO a;let q:=t6 a;have c:gu 2 3 (kz H L) [pD x f r,.tup [kS (if one then "one" else "both"),vo a]]=(kz H L [Y (pD x f r),Y _,M]).bind mW:=rfl;rw[c];unfold kz;rw[JD rfl (by cases one<;>kernel_rfl),JD rfl (by cases one<;>kernel_rfl),JD rfl (by cases one<;>kernel_rfl)];have i:∀z:Option D,e2 bF (eV 1) v6 [Y (pD x f r),Y (.tup [kS (if one then "one" else "both"),vo a]),z]=Y (vo a):=λz=>rfl
 have o:eF (jN (iL (e2 bF (eV 1) v6)) [M,Y 0] (gN 0) (eS (aO H Tk)) (eV 0)) [Y (pD x f r),Y (.tup [kS (if one then "one" else "both"),vo a]),M]=Y (.lst l):=by
  let m:∀(f:DL) (U:DT) (e:DF) (d:bP),eF (jN f [M,Y 0] (gN 0) U e) d=((f d).bind _).map D.lst:=λv v v v=>rfl
  let j:iL (e2 bF (eV 1) v6) [Y (pD x f r),Y (.tup [kS (if one then "one" else "both"),vo a]),M]=Y (i4 a):=by solve_by_elim
  rw[m,j,ah,if_pos (Bg (by lia))];have:iU [M,Y 0] [Y (pD x f r),Y (.tup [kS (if one then "one" else "both"),vo a]),M]=[M,Y (pD x f r)]:=rfl;rw[this,n];rfl
 rw[az (dD o)];simp only[bj,bo];cases one with
 |true=>rw[JD (x:= "one") rfl (by kernel_rfl)];exact⟨_,jI (len_pos rfl),by simp[<- k]⟩
 |false=>
  rw[zR ((Lk (x:= "both") rfl).trans (by kernel_rfl)) (Y7 rfl (i _))];refine⟨_,rfl,?_⟩
  simp_all
def QR{f:List NT}(G:Gd f)(j:gH w<=900)(c:∀v,gH v<gH w->N7 v->h_ v<=h_ w->HE H f v)(l:∀s,w=.has s->LE L f s)(i:N7 w):HE (gu 2 3 (kz H L)) f w:=by
 intro x r;cases w with
 |any=>
  refine⟨Z',?_,by simp[jW]⟩
  exact Ÿ
 |txt t=>let⟨b,e,q⟩:=SO (t:=t) G;refine⟨b,?_,q.trans (Kg (e:=Z_)).symm⟩;show (kz H L _).bind mW=_;unfold kz;rw[JD rfl (by kernel_rfl),zR (d :=.bl b) ((Lk rfl).trans (by kernel_rfl)) (by rw[show ∀(f g:DF) (h:bP),e2 (Ge Z_) f g h=(f h).bind _ from λm m m=>rfl,AG rfl];exact e)];rfl
 |has s=>let⟨b,e,q⟩:=l s rfl x r;refine⟨b,?_,q⟩;show (kz H L _).bind mW=_;unfold kz;rw[JD rfl (by kernel_rfl),JD rfl (by kernel_rfl),zR (d :=.bl b) ((Lk rfl).trans (by kernel_rfl)) ((uq rfl rfl).trans e)];rfl
 |both k=>
  simp only[gH]at j c;obtain _:=Dc (one:=Z_) (L:=L) (x:=x) (r:=r) i (λv a n d=>c v Ž n (by simp only[h_];lia)) Ž
  exact Ÿ
 |one k=>
  simp only[gH]at j c;obtain _:=Dc (one:=Z') (L:=L) (x:=x) (r:=r) i (λv a n d=>c v Ž n (by simp only[h_];lia)) Ž
  exact Ÿ
theorem Qu{H L:List D->Option D}{p:Option D}{st:List D}{wy:Option D}{w:Wi}{r:Ss}(B:a≠Y (ab "*"))(E:∀x y,eF (lY (eV 1) (pS v6) pN) [p,Y (.lst st),wy,Y (.str (bx a)),x,y]=Y (dn r)):∀(l:List NT) (y:Option D),(∀t∈l,∃n k g,t=NT.nd n k g/\HE H g w/\LE L g r)->((¬ ∃n k g,NT.nd n k g∈l/\kq a n/\jW w (fg g)/\kZ (λ_=>True) r (fg g))/\∃z,dz (gN 5) (lA H L) (l.map jR) [p,Y (.lst st),wy,Y (.str (bx a)),Y (bQ w),y]=Y (.nx [p,Y (.lst st),wy,Y (.str (bx a)),Y (bQ w),z]))\/((∃n k g,NT.nd n k g∈l/\kq a n/\jW w (fg g)/\kZ (λ_=>True) r (fg g))/\dz (gN 5) (lA H L) (l.map jR) [p,Y (.lst st),wy,Y (.str (bx a)),Y (bQ w),y]=Y (.rt (.bl Z')))
 |[],y,_ =>.inl ⟨ż,y,rfl⟩
 | t::l,y,h=>by
  let⟨n,k,g,rfl,N,O⟩:=h t ż;let⟨f,C,J⟩:=N (.str n) [.int (k:Nat)];let⟨i,d,q2⟩:=O (.str n) [.int (k:Nat)];rw[<- Jg]at C d;let I:cz (e2 IR (eV 3) wE) [p,Y (.lst st),wy,Y (.str (bx a)),Y (bQ w),Y (jR (.nd n k g))]=Y ((ab "*" == bx a)||((n==bx a)||false)):=by rw[jR];rfl
  have G:eS (aO H é) [p,Y (.lst st),wy,Y (.str (bx a)),Y (bQ w),Y (jR (.nd n k g))]=Y f:=by unfold eS;rw[uq rfl rfl,C];rfl
  let F:eS (aO L (aC (eV 5) ul)) [p,Y (.lst st),wy,Y (.str (bx a)),Y (bQ w),Y (jR (.nd n k g))]=Y i:=by unfold eS;rw[uq rfl (E _ _),d];rfl
  have j:i7 (cz (e2 IR (eV 3) wE)) (i7 (eS (aO H é)) (eS (aO L (aC (eV 5) ul)))) [p,Y (.lst st),wy,Y (.str (bx a)),Y (bQ w),Y (jR (.nd n k g))]=Y (((ab "*" == bx a)||((n==bx a)||false))&&(f&&i)):=by unfold i7;rw[I,ah,G,ah,F];cases ((ab "*" == bx a)||((n==bx a)||false))<;>cases f<;>rfl
  have b:(((ab "*" == bx a)||((n==bx a)||false))&&(f&&i))=Z'↔kq a n/\jW w (fg g)/\kZ (λ_=>True) r (fg g):=by rw[aK,aK,K6 B,J,q2]
  generalize (((ab "*" == bx a)||((n==bx a)||false))&&(f&&i))=c at j b;cases c with
  |true=>
   refine .inr ⟨⟨n,k,g,ż,b.1 rfl⟩,?_⟩;let A:lA H L [p,Y (.lst st),wy,Y (.str (bx a)),Y (bQ w),Y (jR (.nd n k g))]=Y (.rt (.bl Z')):=by unfold lA;rw[gy j];rfl
   rw[a9,dz,show gN 5 (jR (.nd n k g)) [p,Y (.lst st),wy,Y (.str (bx a)),Y (bQ w),y]=Y [p,Y (.lst st),wy,Y (.str (bx a)),Y (bQ w),Y (jR (.nd n k g))] from rfl,ah,A];rfl
  |false=>
   let A:lA H L [p,Y (.lst st),wy,Y (.str (bx a)),Y (bQ w),Y (jR (.nd n k g))]=Y (.nx [p,Y (.lst st),wy,Y (.str (bx a)),Y (bQ w),Y (jR (.nd n k g))]):=by unfold lA;rw[fq j];rfl
   rw[a9,dF rfl A];rcases Qu B E l (Y (jR (.nd n k g))) (λt K=>h t (by simp[K])) with⟨u,v⟩|⟨⟨o,q,s,m,u⟩,v⟩
   .refine .inl ⟨?_,v⟩;rintro⟨o,q,s,m,z⟩;rcases aq.mp m with e|m
    .cases e;cases b.2 z
    .exact u ⟨o,q,s,m,z⟩
   .exact .inr ⟨⟨o,q,s,by simp[m],u⟩,v⟩
mutual
theorem WH:∀(t x:NT),x∈HN t->Np x=Z'
 |.txt s,x,h=>by simp[HN]at h
 | .nd n k f,x,h=>by
  rcases aq.mp h with rfl|h
  .rfl
  .exact Ih f x h
theorem Ih:∀(f:List NT) (x:NT),x∈m9 f->Np x=Z'
 |[],x,h=>by simp[m9]at h
 |t::f,x,h=>by exact(aA.mp h).elim (WH t x) (Ih f x)
end
def Kc{f:List NT}(h:t∈rG b f):∃n k g,t=NT.nd n k g:=by
 have:=Ih f t (Bj.subset h);cases t with
 |nd n k g=>exact⟨n,k,g,rfl⟩|txt s=>cases this
def FE{ρ:bP}{f:DF}{d:D}{l:List D}(e:f ρ=Y (.lst (d::l))):eF (lY f (pS v6) pN) ρ=Y (.lst l):=by
 rw[nP e rfl];rfl
def Qs{f:List NT}{s:Ss}(G:Gd f)(o:mU s<=12)(h:EZ s)(i:∀b a w r,s=.cons b a w r->∀g,Gd g->HE H g w/\LE L g r):LE (gu 2 6 (v9 H L)) f s:=by
 intro x r;cases s with
 |nil=>exact⟨Z',rfl,by simp[kZ]⟩
 |cons b a w s=>
  let c:gu 2 6 (v9 H L) [pD x f r,dn (.cons b a w s)]=(v9 H L [Y (pD x f r),Y (dn (.cons b a w s)),M,M,M,M]).bind mW:=rfl;let t:cz (e2 fF (eV 1) pp) [Y (pD x f r),Y (dn (.cons b a w s)),M,M,M,M]=Y false:=by have:e2 fF (eV 1) pp [Y (pD x f r),Y (dn (.cons b a w s)),M,M,M,M]=fF (dn (.cons b a w s)) (.lst []):=rfl;unfold cz;rw[this];unfold fF;rw[if_pos (by simp[jg,iA,IX _ 179 (show 3*mU (.cons b a w s)<=179+1 by lia)]),L1];rfl
  rw[c];unfold v9;rw[az (by rw[fq t];rfl)];let m:e2 bF (eV 1) f8 [Y (pD x f r),Y (dn (.cons b a w s)),M,M,M,M]=Y (lp (dR b) (bx a) (bQ w)):=by exact d6 (j:=0) rfl
  rw[az (ρ':=[Y (pD x f r),Y (dn (.cons b a w s)),Y (.str (dR b)),Y (.str (bx a)),Y (bQ w),M]) (by unfold BO;rw[m];rfl)];have d:iL (aO oX ê) [Y (pD x f r),Y (dn (.cons b a w s)),Y (.str (dR b)),Y (.str (bx a)),Y (bQ w),M]=Y ((rG b f).map jR):=by unfold iL;rw[uq rfl rfl,Hu G];rfl
  rcases Qu (H:=H) (L:=L) (p:=Y (pD x f r)) (wy:=Y (.str (dR b))) (w:=w) (r:=s) (st:=dH (.cons b a w s)) h.1 (λx y=>FE rfl) (rG b f) M (λt e=>by let⟨n,k,g,rfl⟩:=Kc e;let⟨l,j⟩:=i b a w s rfl g (G.sub (Bj.subset e)).1;exact⟨n,k,g,rfl,l,j⟩) with⟨u,z,v⟩|⟨u,v⟩
  .refine⟨Z_,?_,?_⟩
   .rw[az ((eD d).trans v)];rfl
   .rw[Le];exact⟨λz=>(by cases z),λz=>absurd z u⟩
  .refine⟨Z',?_,?_⟩
   .unfold ba;rw[eD d,v];rfl
   .rw[Le];exact⟨λ_=>u,λ_=>rfl⟩
theorem Wa:∀m,(∀w f,gH w+1<=m->Gd f->N7 w->h_ w<=12->gH w<=900->HE (kK m) f w)/\(∀s f,k9 s+1<=m->Gd f->EZ s->mU s<=12->k9 s<=900->LE (kJ m) f s)
 |0=>⟨λw f h=>Ž,λs f h=>Ž⟩
 | m+1=>by
  let⟨i,c⟩:=Wa m;refine⟨λw f h G n d z=>QR G z (λv a k l=>i v f Ž G k Ž Ž) (λs e =>?_) n,λs f h G n d z=>Qs G d n λb a w r e g j =>?_⟩
  .subst e;simp only[gH,h_]at h d z;exact c s f Ž G n Ž Ž
  .subst e;simp only[k9,mU]at h d z;exact⟨i w g Ž j n.2.1 Ž Ž,c r g Ž j n.2.2 Ž Ž⟩
def Kk{f:List NT}(G:Gd f)(z:gH w<=28)(n:N7 w)(d:h_ w<=12):HE gU f w:=(Wa 30).1 w f Ž G n d Ž
theorem Ed{N:List D->Option (D×List D)}{x:Option D}:∀(f:List Tr) (c:Nat),(∀n g,Tr.nd n g∈f->∀c:Nat,N [L2.part n (rE g),.lst [.int (c:Nat)]]=Y (jR (.nd n c (vM g (c+1))),[.int ((c+1+nX g:Nat):Int)]))->V3 [M,x] (gN 0) (XO (eS Ev) (mP (eV 0)) (xD N (eV 0) 1)) 1 (rE f) [.int (c:Nat)]=Y (og (vM f c),[.int ((c+nX f:Nat):Int)])
 |[],c,_=>by solve_by_elim
 | .mk::f,c,h=>by
  let ih:=Ed (x:=x) f c λn g m=>h n g (by simp[m])
  simp only[rE,V6,vM,Oq,nX,Dx,bL,Vx,qV];exact ih
 | .txt t::f,c,h=>by
  let ih:=Ed (N:=N) (x:=x) f c λn g m=>h n g (by simp[m])
  simp only[rE,V6,vM,Oq,nX,Dx,cT,bL,Vx,qV,og,jR];rw[V3,show gN 0 (.str t) _=Y [Y (.str t),Y _] from rfl];simp only[ah];rw[show XO _ (mP (eV 0)) _ _=Y _ from rfl];simp only[ah];rw[show dW 1 _=Y [.int (c:Nat)] from rfl]
  simp_all
 | .nd n g::f,c,h=>by
  let ih:=Ed (N:=N) (x:=x) f (c+(1+nX g)) λn g m=>h n g (by simp[m])
  let e:=h n g ż c;simp only[rE,V6,vM,Oq,nX,Dx,cT,bL,og];rw[V3,show gN 0 (L2.part n (rE g)) _=Y [Y _,Y _] from rfl];simp only[ah];let fr:∀N,XO (eS Ev) (mP (eV 0)) (xD N (eV 0) 1) [Y (L2.part n (rE g)),Y (.lst [.int (c:Nat)])]=(N _).map _:=λN=>rfl
  rw[fr,e];simp only[da,ah];rw[show dW 1 _=Y _ from rfl]
  grind
theorem QM:∀f:List Tr,(rE f).length<=(jr f).length
 |[]=>by simp[rE]
 | t::f=>by
  have:=QM f;have:(V6 t).length<=(K30.BN t).length:=by cases t<;>simp[V6,K30.BN]
  grind [rE,jr,aI]
theorem RL{n:aH}{g:List Tr}:∀ {f:List Tr},Tr.nd n g∈f->1+nX g<=nX f/\(jr g).length<=(jr f).length
 | t::f,h=>by
  simp only[nX,jr,aI];rcases aq.mp h with rfl|h
  .grind [Dx,K30.BN,aJ,aI]
  .have:=RL h;lia
theorem yh:∀(m:Nat) (n:aH) (f:List Tr) (c:Nat),nX f+1<=m->(jr f).length<=10000->ft m [L2.part n (rE f),.lst [.int (c:Nat)]]=Y (jR (.nd n c (vM f (c+1))),[.int ((c+1+nX f:Nat):Int)])
 |0,n,f,c,h,_=>by lia
 | m+1,n,f,c,h,z=>by
  let hN:∀n g,Tr.nd n g∈f->∀c:Nat,ft m _=Y _:=λn g hm c=>by have:=RL hm;exact yh m n g c Ž Ž
  let lc:=Ed (N:=ft m) (x:=Y (.lst [.int ((c+1:Nat):Int)])) f (c+1) hN;let il:=QM f;show (qE (ft m) [Y (L2.part n (rE f)),Y (.lst [.int (c:Nat)]),M,M]).bind (aaz 1)=_;generalize ft m=N at lc;unfold qE;rw[az rfl];rw[az rfl];let e:Zw (iL (e2 bF (eV 0) v6)) [M,Y 1] (gN 0) (XO (eS Ev) (mP (eV 0)) (xD N (eV 0) 1)) 1 1 [Y (L2.part n (rE f)),Y (.lst [.int ((c+1:Nat):Int)]),Y (.int (c:Nat)),M]=Y (.lst (og (vM f (c+1))),[Y (L2.part n (rE f)),Y (.lst [.int ((c+1+nX f:Nat):Int)]),Y (.int (c:Nat)),M]):=by unfold Zw;rw[show iL _ _=Y (rE f) from rfl,ah,if_pos (aV (show _<=10000 by lia) (by decide)),show dW 1 _=Y [.int ((c+1:Nat):Int)] from rfl,ah,show iU [M,Y 1] _=[M,Y _] from rfl,lc];rfl
  rw[az (ρ':=[Y (L2.part n (rE f)),Y (.lst [.int ((c+1+nX f:Nat):Int)]),Y (.int (c:Nat)),Y (.lst (og (vM f (c+1))))]) (by simp_all [iN]),jR];rfl
def Lv(a:Bool)(j:Int)(l:List Int):vi a (.int j) (.lst (l.map D.int))=Y (.bl (if a then !decide (j∈l) else decide (j∈l))):=by
 let c:(l.map D.int).all x_=true:=by simp[x_]
 let b:V8 (.int j) ((l.map D.int).map SM)=decide (j∈l):=by
  unfold V8;rw[Fh,Fh,ie,oz]
  simp_all [SM,UN]
 show ZP a _ _=_;unfold ZP;rw[c,show SM _=.int j from rfl,b];rfl
def aa5(l:List Nat):iD l=(l.map λn:Nat=>(n:Int)).map D.int:=by simp[iD]
def aaX(a:Bool)(j:Nat)(l:List Nat):vi a (.int (j:Nat)) (.lst (iD l))=Y (.bl (if a then !decide (j∈l) else decide (j∈l))):=by
 have:decide ((j:Int)∈l.map λn:Nat=>(n:Int))=decide (j∈l):=by grind
 rw[aa5,Lv,this]
theorem VT(a:List Nat):∀b:List Nat,oh [M,Y (.lst (iD a))] (gN 0) (cz (e2 (vi Z') (eV 0) (eV 1))) (eV 0) (iD b)=Y (iD (b.filter λj=> !decide (j∈a)))
 |[]=>rfl| j::b=>by
  let t:cz (e2 (vi Z') (eV 0) (eV 1)) [Y (.int j),Y (.lst (iD a))]=Y !decide (j∈a):=by have:e2 (vi Z') (eV 0) (eV 1) [Y (.int j),Y (.lst _)]=vi _ _ (.lst (iD a)):=rfl;unfold cz;rw[this,aaX];rfl
  rw[show iD (j::b)=.int _::iD b from rfl,oh,show gN 0 _ _=Y [Y _,Y _] from rfl,ah,t,VT a b,dJ];cases !decide (j∈a)<;>rfl
theorem A3{E:List D->Option (List D)}{p d wy a w:Option D}{e:List NT->List Nat->Prop}{R:NT->Nat->Prop}(h:∀t l c,e (t::l) c->∃b,kI E [p,d,wy,a,w,Y (.lst (iD c)),Y (jR t)]=Y (.nx [p,d,wy,a,w,Y (.lst (iD b)),Y (jR t)])/\e l b/\∀j,j∈b↔j∈c\/R t j):∀(l:List NT) (c:List Nat) (y:Option D),e l c->∃b z,dz (gN 6) (kI E) (l.map jR) [p,d,wy,a,w,Y (.lst (iD c)),y]=Y (.nx [p,d,wy,a,w,Y (.lst (iD b)),z])/\e [] b/\∀j,j∈b↔j∈c\/∃t∈l,R t j
 |[],c,y,i=>⟨c,y,rfl,i,ż⟩
 | t::l,c,y,i=>by
  let⟨k,r,q,n⟩:=h t l c i;let⟨g,z,f,o,m⟩:=A3 h l _ _ q;refine⟨_,z,?_,o,λj =>?_⟩
  .rw[a9,dF rfl r,f]
  .rw[m,n];simp[or_assoc]
def Dr{p st wy:Option D}{n:aH}{k:Nat}{fd:Option D}(i:a≠Y (ab "*"))(j:HE gU g w):∃c,i7 (cz (e2 IR (eV 3) TD)) (eS (aO gU (aC (eV 6) bd))) [p,st,wy,Y (.str (bx a)),Y (bQ w),fd,Y (jR (.nd n k g))]=Y c/\(c=Z'↔kq a n/\jW w (fg g)):=by
 let⟨d,b,h⟩:=j _ _;rw[<- Jg]at b;let f:cz (e2 IR (eV 3) TD) [p,st,wy,Y (.str (bx a)),Y (bQ w),fd,Y (jR (.nd n k g))]=Y (ab "*" == bx a||(n==bx a||false)):=by rfl
 let e:eS (aO gU (aC (eV 6) bd)) [p,st,wy,Y (.str (bx a)),Y (bQ w),fd,Y (jR (.nd n k g))]=Y d:=by unfold eS;rw[uq rfl rfl,b];rfl
 refine⟨(ab "*" == bx a||(n==bx a||false))&&d,?_,by rw[aK,K6 i,h]⟩;unfold i7;rw[f,e];cases ab "*" == bx a||(n==bx a||false)<;>rfl
def aaT{f:DF}{l:List D}(e:f a=Y (.lst l)):cz (e2 fF (aO eW (aC f aN)) v6) a=Y (decide (l.length=1)):=by
 unfold cz;rw[show ∀(f g:DF) (a:bP),e2 fF f g a=(f a).bind _ from λb b b=>rfl,(mH (G:=eW) e)];show Y _=_;rw[qI]
 congr 1
 grind
def EE(E:List D->Option (List D))(s:Ss)(f:List NT):Prop:=∀x r,∃a:List Nat,E [pD x f r,dn s]=Y (iD a)/\a.Nodup/\(∀j∈a,j<63)/\∀j,j∈a↔HC j s f
structure I1(w:Wi)(l:List NT)(zr:List Nat):Prop where
 g:∀t∈l,∃n k g,t=NT.nd n k g/\HE gU g w/\k<63/\k∉zr
 u:(l.map num).Nodup
 a:zr.Nodup
 b:∀j∈zr,j<63
structure I2(E:List D->Option (List D))(w:Wi)(s:Ss)(l:List NT)(zr:List Nat):Prop where
 g:∀t∈l,∃n k g,t=NT.nd n k g/\HE gU g w/\EE E s g
 a:zr.Nodup
 b:∀j∈zr,j<63
def aa4{f:DL}(h:f a=Y l):iL (eF f) a=Y l:=by
 unfold iL eF;rw[h];rfl
def PF{p wy:Option D}{m:Option aH}{d:D}(x:m≠Y (ab "*"))(t:NT)(l:List NT)(f:List Nat)(i:I1 w (t::l) f):∃h,kI E [p,Y (.lst [d]),wy,Y (.str (bx m)),Y (bQ w),Y (.lst (iD f)),Y (jR t)]=Y (.nx [p,Y (.lst [d]),wy,Y (.str (bx m)),Y (bQ w),Y (.lst (iD h)),Y (jR t)])/\I1 w l h/\∀j,j∈h↔j∈f\/∃n g,t=NT.nd n j g/\kq m n/\jW w (fg g):=by
 let⟨n,k,g,rfl,A,I,y⟩:=i.g t ż;let⟨c,e,q⟩:=Dr (p:=p) (wy:=wy) (n:=n) (k:=k) x A;let H:=pig 63 f i.a i.b;let u:=i.u;rw[a9,cS]at u;cases c with
 |true=>
  refine⟨f++[k],?_,⟨λt o =>?_,u.2,?_,?_⟩,λj =>?_⟩
  .unfold kI;rw[gy e,gy ((aaT (l:=[d]) rfl).trans (by rfl)),sL (l:=iD f) rfl (by rw[jR];rfl) (Bh (by grind))];simp
  .let⟨s,v,G,rfl,F,C,B⟩:=i.g t (by simp[o]);refine⟨s,v,G,rfl,F,C,λz =>?_⟩;rcases aA.mp z with z|z
   .exact B z
   .simp only[bI]at z;subst z;exact u.1 (a7.2 ⟨_,o,rfl⟩)
  .rw[gm];exact⟨i.a,ż,λa K b J=>ŷ⟩
  .intro j r;rcases aA.mp r with r|r
   .exact i.b j r
   simp_all
  grind
 |false=>
  refine⟨f,?_,⟨λt o=>i.g t (by simp[o]),u.2,i.a,i.b⟩,λj =>?_⟩
  .unfold kI;rw[fq e];rfl
  simp_all
def Na{p wy:Option D}{d:D}{s:Ss}(L:(dH s).length≠0)(B:o≠Y (ab "*"))(t:NT)(l:List NT)(h:List Nat)(i:I2 E w s (t::l) h):∃m,kI E [p,Y (.lst (d::dH s)),wy,Y (.str (bx o)),Y (bQ w),Y (.lst (iD h)),Y (jR t)]=Y (.nx [p,Y (.lst (d::dH s)),wy,Y (.str (bx o)),Y (bQ w),Y (.lst (iD m)),Y (jR t)])/\I2 E w s l m/\∀j,j∈m↔j∈h\/∃n k g,t=NT.nd n k g/\kq o n/\jW w (fg g)/\HC j s g:=by
 let⟨n,k,g,rfl,F,G⟩:=i.g t ż;let⟨c,e,q⟩:=Dr (p:=p) (st:=Y (.lst (d::dH s))) (wy:=wy) (n:=n) (k:=k) (fd:=Y (.lst (iD h))) B F;let R:=pig 63 h i.a i.b;let⟨r,z,y,H,P⟩:=G (.str n) [.int (k:Nat)];rw[<- Jg]at z;let C:=pig 63 r y H;cases c with
 |true=>
  let q:=q.1 rfl;refine⟨h++r.filter λj=> !decide (j∈h),?_,⟨λt x=>i.g t (by simp[x]),?_,?_⟩,λj =>?_⟩
  .let K:=WA (λj=> !decide (j∈h)) r;let A:=by
    let J:dG E (aC (eV 6) ul) [p,Y (.lst (d::dH s)),wy,Y (.str (bx o)),Y (bQ w),Y (.lst (iD h)),Y (jR (.nd n k g))]=Y (iD r):=by unfold dG ul aC;rw[FE (f:=eV 1) (ρ:=[p,Y (.lst (d::dH s)),wy,Y (.str (bx o)),Y (bQ w),Y (.lst (iD h)),Y (jR (.nd n k g))]) (d:=d) (l:=dH s) rfl];exact z
    exact aa4 J
   let Q:Ri (eV 5) (eF (jN (iL (eF (dG E (aC (eV 6) ul)))) [M,Y 5] (gN 0) (cz (e2 (vi Z') (eV 0) (eV 1))) (eV 0))) [p,Y (.lst (d::dH s)),wy,Y (.str (bx o)),Y (bQ w),Y (.lst (iD h)),Y (jR (.nd n k g))]=Y (iD h++iD (r.filter λj=> !decide (j∈h))):=by
    let I:∀(f:DL) (U:DT) (e:DF) (v:bP),eF (jN f [M,Y 5] (gN 0) U e) v=((f v).bind λa=>if a.length<=cY then oh (iU [M,Y 5] v) (gN 0) U e a else M).map D.lst:=λS S S S=>rfl
    unfold Ri;rw[I,A,ah,if_pos (Bg (by simp;lia)),show iU [M,Y 5] [p,Y (.lst (d::dH s)),wy,Y (.str (bx o)),Y (bQ w),Y (.lst (iD h)),Y (jR (.nd n k g))]=[M,Y (.lst (iD h))] from rfl,VT];show (if (iD h).length+(iD (r.filter λj=> !decide (j∈h))).length<=cY then _ else _)=_;rw[if_pos (Bg (by simp;lia))]
   unfold kI;rw[gy e,fq ((aaT (l:=d::dH s) rfl).trans (by simp_all))]
   simp_all [jQ]
  .rw[gm];refine⟨i.a,y.filter _,λa O b N =>?_⟩
   grind
  .intro j u;rcases aA.mp u with u|u
   .exact i.b j u
   simp_all
  grind
 |false=>
  refine⟨h,?_,⟨λt x=>i.g t (by simp[x]),i.a,i.b⟩,λj =>?_⟩
  .unfold kI;rw[fq e];rfl
  simp_all
theorem LU:∀(s:Ss) (m:Nat){f:List NT},s ≠ .nil->hJ s<=m->Gd f->EZ s->k9 s<=28->mU s<=12->EE (kL m) s f
 |.nil,_,_,h,_,_,_,_,_=>absurd rfl h|.cons b a w s,0,_,_,h,_,_,_,_=>by simp[hJ]at h
 | .cons b a w s,m+1,f,_,H,G,l,F,A=>by
  intro x r;simp only[k9]at F;let I:=A;simp only[mU]at A;simp only[hJ]at H;have o:kL (m+1) [pD x f r,dn (.cons b a w s)]=(Eu (kL m) [Y (pD x f r),Y (dn (.cons b a w s)),M,M,M,M,M]).bind Ah:=rfl;have J:e2 bF (eV 1) f8 [Y (pD x f r),Y (dn (.cons b a w s)),M,M,M,M,M]=Y (lp (dR b) (bx a) (bQ w)):=by exact d6 (j:=0) rfl
  have y:iL (aO oX ê) [Y (pD x f r),Y (dn (.cons b a w s)),Y (.str (dR b)),Y (.str (bx a)),Y (bQ w),Y (.lst (iD [])),M]=Y ((rG b f).map jR):=by unfold iL;rw[uq rfl rfl,Hu G];rfl
  have c:s ≠ .nil->∀g,Gd g->EE (kL m) s g:=λz g d=>LU s m z Ž d l.2.2 Ž Ž
  let B:∀g,Gd g->HE gU g w:=λg d=>Kk d Ž l.2.1 Ž
  rw[o];generalize kL m=E at c;unfold Eu;rw[az (by unfold BO;rw[J];rfl)];rw[az (ρ':=[Y (pD x f r),Y (dn (.cons b a w s)),Y (.str (dR b)),Y (.str (bx a)),Y (bQ w),Y (.lst (iD [])),M]) rfl];cases s with
  |nil=>
   let⟨p,z,v,i,u⟩:=A3 (E:=E) (p:=Y (pD x f r)) (wy:=Y (.str (dR b))) (PF (d:=lp (dR b) (bx a) (bQ w)) l.1) (rG b f) [] M ⟨λt e=>by let⟨n,k,g,rfl⟩:=Kc e;have:=Bj.subset e;exact⟨n,k,g,rfl,B g (G.sub this).1,G.b _ this,ż⟩,G.u.sublist (Bj.map num),ż,ż⟩
   refine⟨p,?_,i.a,i.b,λj =>?_⟩
   .rw[az ((eD y).trans v)];rfl
   .rw[u];simp only[eP,false_or,HC]
    grind
  |cons K q C D=>
   have c:=c (λz=>by cases z);let⟨p,z,v,i,u⟩:=A3 (E:=E) (p:=Y (pD x f r)) (wy:=Y (.str (dR b))) (Na (d:=lp (dR b) (bx a) (bQ w)) (s :=.cons K q C D) (by simp[dH]) l.1) (rG b f) [] M ⟨λt e=>by let⟨n,k,g,rfl⟩:=Kc e;let d:=(G.sub (Bj.subset e)).1;exact⟨n,k,g,rfl,B g d,c g d⟩,ż,ż⟩
   refine⟨p,?_,i.a,i.b,λj =>?_⟩
   .rw[az ((eD y).trans v)];rfl
   .rw[u];simp only[eP,false_or];rw[HC]
    grind
theorem Lo:∀l:List Nat,yk (iD l)=Y (l.map λn:Nat=>(n:Int))
 |[]=>rfl|x::l=>by rw[show iD _=.int _::iD l from rfl,yk,Lo l];rfl
def Jn(l:List Int)(j:Int):j∈gB l↔j∈l:=by
 have:∀(l b:List Int),j∈l.foldl (λa k=>if k∈a then a else a++[k]) b↔j∈b\/j∈l:=by
  intro l
  induction l<;>grind
 have:=this l [];simp at this;exact this
def fc2{E:List D->Option (List D)}{f g:DF}{e:D}(h:f a=Y d)(k:g a=Y e):dG E (aC f (aC g aN)) a=E [d,e]:=by unfold dG aC;rw[h,k];rfl
def adP{f:DF}(a:f b=Y x):eF (eO (aC f aN)) b=Y (.lst [x]):=by unfold eF eO aC;rw[a];rfl
def Bl{n:aH}{g:List Tr}{q:Ss}(hq:QT q)(hc:nX [.nd n g]<=63)(hl:(jr [.nd n g]).length<=10000):∃l:List Int,qj [L2.part n (rE g),dn q]=Y (l.map D.int)/\∀j:Nat,(j:Int)∈l↔HC j q [.nd n 0 (vM g 1)]:=by
 let hG:=aaI (f:=[.nd n g]) (c:=0) Ž hl;let hc':=hc;simp only[nX,Dx]at hc';let hl':=hl;simp only[jr,K30.BN,aI,aJ,eH]at hl';let e0:jm [L2.part n (rE g),.lst [.int ((0:Nat):Int)]]=Y (jR (.nd n 0 (vM g 1)),[.int ((0+1+nX g:Nat):Int)]):=yh 66 n g 0 Ž Ž;let qs:=hq.q.s;let st:hJ q<=vw q:=by
  have:∀s:Ss,hJ s<=vw s:=λs=>by induction s using Ss.rec (motive_1:=λb=>True) (motive_2:=λb=>True)<;>first|trivial|grind [hJ,vw]
  exact this q
 let hz:=hq.z;let hd:=hq.d;let⟨ns,en,h1,h2,h3⟩:=LU q 20 hq.q.ne ŷ hG hq.q.n Ž Ž (.str (ab "")) [.int (-1)];let en':nU [.tup [.str (ab ""),.lst [jR (.nd n 0 (vM g 1))],.int (-1)],dn q]=Y (iD ns):=by solve_by_elim
 let hp:=pig 63 ns h1 h2;refine⟨OU (gB (ns.map λn:Nat=>(n:Int))),?_,λj =>?_⟩
 .let ec:xN jm (eV 0) (eO (aC f8 aN)) [Y (L2.part n (rE g)),Y (dn q)]=Y (jR (.nd n 0 (vM g 1))):=by
   have:∀N:List D->Option (D×List D),xN N (eV 0) (eO (aC f8 aN)) [Y (L2.part n (rE g)),Y (dn q)]=(N [L2.part n (rE g),.lst [.int ((0:Nat):Int)]]).map λq=>q.1:=λN=>rfl
   rw[this,e0];rfl
  let ef:=(fc2 (E:=nU) (ZW (f:=eK (.str (ab ""))) (e:=L2.e1 xu v6) (x :=.str (ab "")) (z :=.int (-1)) rfl (adP ec) rfl) (g:=eV 1) rfl).trans en';show (oD (ZG (eF (dG nU _))) [Y (L2.part n (rE g)),Y (dn q)]).bind Ah=_;let YD:ZG zn [Y (L2.part n (rE g)),Y (dn q)]=Y ((OU (gB (ns.map λn:Nat=>(n:Int)))).map D.int):=by
   let f2:∀f:DL,∀ρ,ZG (eF f) ρ=((f ρ).map D.lst).bind λd=>match d with|.lst c=>(yk c).bind λa=>if a.length<64 then Y ((OU (gB a)).map D.int) else M|_=>none:=λb b=>rfl
   rw[f2,ef];show (yk (iD ns)).bind _=_;rw[Lo,ah,if_pos (by simp;lia)]
  unfold oD;rw[YD];rfl
 .rw[(zM _).mem_iff,Jn,a7];have:vM [.nd n g] 0=[.nd n 0 (vM g 1)]:=by solve_by_elim
  grind
def Gk(m:E8 (j+1) [.nd n g])(b:q ≠ .nil):kZ Mk q [.nd n g]↔HC j q [.nd n 0 (vM g 1)]:=by
 let a:E8 j g:=by cases m;assumption
 let e:Pf (· == j) Z_ [.nd n 0 (vM g 1)]=[.nd n g]:=by
  have:=a.at 0;rw[qV]at this;let c:(0==j)=(j==0):=by grind
  simp only[Pf,BD,Nc,fV,if_false,bL,c];simp only[Pf]at this;rw[this]
 rw[<- xM q b,e]
def CI{a b:Ss}(ha:QT a)(hb:QT b):(Within a b/\kM [dn a,dn b]=Y (.bl Z_))\/(¬Within a b/\kM [dn a,dn b]=Y (.bl Z')):=by
 let run:kM [dn a,dn b]=(AR [Y (dn a),Y (dn b),M,M,M]).bind mW:=rfl;rw[run];unfold AR;let c1:aO f9 io [Y (dn a),Y (dn b),M,M,M]=f9 [dn a,dn b]:=uq rfl rfl;rcases Af ha.q hb.q with e|⟨n,g,j,e,m,l1,l2,co,sl⟩
 .refine .inl ⟨e,?_⟩;rw[az (dD (c1.trans e))];simp only[bj,bo];rfl
 .refine .inr ⟨λz=>Ż,?_⟩;let qs:=ha.q.s;let qi:=ha.i;simp at qs;have hc:nX [.nd n g]<=63:=ŷ
  let⟨la,ea,ma⟩:=Bl ha hc sl;let⟨lb,eb,mb⟩:=Bl hb hc sl;let ja:=(ma j).2 ((Gk m ha.q.ne).1 l1);let jb:(j:Int)∉lb:=λz=>l2 ((Gk m hb.q.ne).2 ((mb j).1 z))
  rw[az (dD (c1.trans e))];simp only[bj,bo];refine jI ?_;let fr:∀A:List D->Option (List D),EC (e2 IR (eV 4) (eF (dG A (aC (eV 3) ca)))) (e2 (vi Z') (eV 4) (eF (dG A (aC (eV 3) u8)))) [Y (dn a),Y (dn b),Y (.tup [L2.part n (rE g),.int (j:Nat)]),Y (L2.part n (rE g)),Y (.int (j:Nat))]=((((A [L2.part n (rE g),dn a]).map D.lst).bind _).bind _).bind λc=>if c=Z' then ((A [L2.part n (rE g),dn b]).map D.lst).bind _ else Y (.bl Z_):=λA=>rfl
  simp_all [da,ah,Lv]
def Jo{l:List Nat}{x:Option D}{r:List (Option D)}:∃k a,ue rh 1 aN (x::Y (.lst (iD l))::r)=Y (.int (k:Nat),x::Y (.lst (iD a))::r):=by
 let⟨k,a,e⟩:=Ph l;refine⟨k,a,?_⟩;have:∀F,ue F 1 aN (x::Y (.lst (iD l))::r)=(F _).map _:=λF=>rfl
 simp_all
def MP{G:List D->Option (List D)}{X:N_}{b a:bP}{d:D}{r:List D}(h:X b=Y ([d],a))(k:G [d]=Y r):iN 2 (sk (λc=>(G c).map D.lst) X) b=Y (.nx (a.set 2 (Y (.lst r)))):=by
 simp_all [iN,sk,ah]
def MQ{X:N_}{b:bP}(h:X c=Y (a,b))(k:G a=Y r):iN i (sk G X) c=Y (.nx (b.set i (Y r))):=by
 simp_all [iN,sk,ah]
def QC{f:Option D}(l:QT b)(k:QT c)(h:¬Sz c b):zo [f,d,a,Y (dn b),Y (dn c)]=Y (.nx [f,d,a,Y (dn b),Y (dn c)]):=by
 let p:∀(F:List D->Option D),i6 (eS (aO F (aC (eV 4) Sc))) [f,d,a,Y (dn b),Y (dn c)]=i6 (eS (λ_=>F _)) []:=λF=>rfl
 let g:∀(F:List D->Option D),i6 (eS (aO F NE)) [f,d,a,Y (dn b),Y (dn c)]=i6 (eS (λ_=>F _)) []:=λF=>rfl
 let o:i7 (i6 (eS (aO kM (aC (eV 4) Sc)))) (i6 (eS (aO kM NE))) [f,d,a,Y (dn b),Y (dn c)]=Y false:=by
  unfold i7;rw[p,g];rcases CI k l with⟨w,e⟩|⟨w,e⟩
  .rcases CI l k with⟨j,m⟩|⟨j,m⟩
   .exact absurd ⟨w,j⟩ h
   .rw[e,m];rfl
  .rw[e];rfl
 let i:j4 [dn b,dn c]=Y (.bl Z_):=by grind [Hz,absurd]
 let n:cz (e2 CM (aO j4 NE) kw) [f,d,a,Y (dn b),Y (dn c)]=Y false:=by
  have:∀(F:List D->Option D),cz (e2 CM (aO F NE) kw) [f,d,a,Y (dn b),Y (dn c)]=cz (e2 CM (λ_=>F _) kw) []:=λF=>rfl
  rw[this];rw[i];rfl
 unfold zo;rw[az (by rw[fq o];rfl),fq n];rfl
theorem Lj{x0 x1 x2:Option D}(a:QT b):∀(L:List Ss) (y:Option D),(∀c∈L,QT c/\¬Sz c b)->∃z,dz (gN 4) zo (L.map dn) [x0,x1,x2,Y (dn b),y]=Y (.nx [x0,x1,x2,Y (dn b),z])
 |[],y,_=>⟨y,rfl⟩| c::L,y,h=>by
  let⟨q,n⟩:=h c ż;let⟨z,ih⟩:=Lj a L _ λc d=>h c (by simp[d])
  exact⟨z,by rw[a9,dF rfl (QC a q n),ih]⟩
def X0{e:List Int}{l:List Nat}(L:tD [.kT e,.int 200,.int 14]=Y (iD l))(C:∀v:Nat,∃i,tu [.int (v:Nat)]=Y (i.map D.str)/\NO i):Bq [.kT e]=Y (.bl Z'):=by
 let x:∀g:DG,gu 1 5 g [.kT e]=(g [Y (.kT e),M,M,M,M]).bind mW:=λg=>rfl
 unfold Bq;rw[x];unfold Q7;rw[az (ρ':=[Y (.kT e),Y (.lst (iD l)),M,M,M]) (by
  have:∀F:List D->Option (List D),jQ 1 (dG F Ã) [Y (.kT e),M,M,M,M]=(F [.kT e,.int 200,.int 14]).map λa =>.nx [Y (.kT e),Y (.lst a),M,M,M]:=λF=>rfl
  simp_all)]
 let⟨v,n,J⟩:=Jo (l:=l) (x:=Y (.kT e)) (r:=[M,M,M]);let⟨i,u,t⟩:=C v;have o:∀(f:DM) (r j:bP) (d:D),f r=Y (d,j)->jd f mE r=Y ([d],j):=λf r j d h=>by unfold jd;rw[h];rfl
 rw[az (MP (o _ _ _ _ J) u)];let⟨s,m,_,_,_,O,y⟩:=FG t n 1 1;let⟨b,p,k,I⟩:=IL y;let A:sV eB 1 (eV 2) XV (aC na aN) [Y (.kT e),Y (.lst (iD n)),Y (nD i),M,M]=Y (dn s,[Y (.kT e),Y (.lst (iD m)),Y (nD i),M,M]):=by
  have:∀F:List D->Option (D×List D×List D),sV F 1 (eV 2) XV (aC na aN) [Y (.kT e),Y (.lst (iD n)),Y (nD i),M,M]=(F [.lst (iD n),nD i,.lst (cD 1 1 1),.int 2]).map λq=>(q.1,[Y (.kT e),Y (.lst q.2.1),Y (nD i),M,M]):=λF=>by
   unfold sV;show (F [.lst (iD n),nD i,.lst (cD 1 1 1),.int 2]).map _=_
   simp_all
  simp_all
 rw[az (ρ':=[Y (.kT e),Y (.lst (iD m)),Y (nD i),Y (dn b),M]) (MQ (o _ _ _ _ A) I)];let K:=p.z;let N:=p.d;let H:dB [dn b]=Y ((rB b).map dn):=(Ld 12).2 b Ž Ž;let B:iL (eF (dG dB Sc)) [Y (.kT e),Y (.lst (iD m)),Y (nD i),Y (dn b),M]=Y ((rB b).map dn):=by
  have:∀G:List D->Option (List D),iL (eF (dG G Sc)) [Y (.kT e),Y (.lst (iD m)),Y (nD i),Y (dn b),M]=((G [dn b]).map D.lst).bind _:=λG=>rfl
  rw[this,H];rfl
 let⟨z,E⟩:=Lj (x0:=Y (.kT e)) (x1:=Y (.lst (iD m))) (x2:=Y (nD i)) p (rB b) M λc w=>⟨p.lv w,k c w⟩
 rw[az ((eD B).trans E)];rfl
local macro_rules | `(tactic| walk_at "v") => `(tactic| simp only [gu,rq,gA,ba,d8,jQ,dM,oD,pM,gq,cN,gW,sf,sd,dW,e2,eV,eK,eF,eO,cW,aO,dG,aC,aN,cz,i7,DV,i6,jN,iL,iE,wM,iR2,pN,pS,lY,He,iS,iU,eS,Ow,
  aJ,eH,a9,Fe,cT,bL,bG,SE,vf,List.getElem?_nil,Option.join_some,Option.join_none,ah,da,om,abK,aae,eqI,eqB,eqS,neI,neS,ltI,gtI,geI,ixL,ixT,aaS,aaQ,
  bj,bo,if_true,if_false,fV,mW,Ah,Nat.reduceAdd,Nat.reduceSub,Nat.reduceLeDiff])
theorem Qw{ρ:bP}{τ:BF}{fe:DF}{Pr:D->Prop}:∀ {ds:List D},(∀d∈ds,∃a x,τ d ρ=Y a/\fe a=Y x/\Pr x)->∃b,oh ρ τ dC fe ds=Y b/\b.length=ds.length/\∀x∈b,Pr x
 |[],_=>⟨[],rfl,rfl,λx h=>by cases h⟩
 | d::ds,h=>by
  let⟨a,x,k,j,e⟩:=h d aM;let⟨b,i,g,f⟩:=Qw λd c=>h d (aB _ c)
  simp_all [oh,ah,dC,if_true,da]
def aaR{x:aH}(h:x.length<=cY):eW [.str x]=Y (.int x.length):=by simp[eW,h]
def abJ{x y:aH}(h:x.length+y.length<=cY):c6 (.str x) (.str y)=Y (.str (x++y)):=by simp[c6,h]
abbrev vV:aH:=ab "abcdefghijklmnopqrstuvwxyz"
def XW(i:Int)(b:0<=i)(f:i<26):∃c,bF (.str vV) (.int i)=Y (.str ⟨#[c]⟩)/\97<=c:=by
 let d:vV.length<=cY:=by decide +kernel
 let a:vV.cps.toList.length=26:=by solve_by_elim
 let⟨c,g,e⟩:=Mf (xs:=vV.cps.toList) b Ż;let h:∀x∈vV.cps.toList,97<=x:=by decide +kernel
 simp_all [bF,if_pos]
theorem Cp(g:Array Nat)(d:g.size=0):∀(c:List aH) (b:Array Nat),(∀x∈c,x.cps.size=1)->(c.foldl (λa (p:aH)=>a++g++p.cps) b).size=b.size+c.length
 |[],b,_=>by simp
 | x::c,b,h=>by
  rw[lS,Cp g d c _ λy e=>h y (by simp_all)]
  grind
theorem GV(b:aH)(d:b.length=0):∀(c:List aH) (k:Nat),(∀x∈c,x.length=1)->c.foldl (λa x=>a+x.length+b.length) k=k+c.length
 |[],k,_=>rfl|x::c,k,h=>by rw[lS,GV b d c _ λy e=>h y (by simp_all),h x aM,d];simp;lia
def Uo{a:List D}(h:∀x∈a,∃c,x=.str ⟨#[c]⟩)(g:a.length<=100):∃x:aH,CN (.str (ab "")) (.lst a)=Y (.str x)/\x.length<=100:=by
 have l:a.all En=true:=by rw[iY];intro x b;let⟨c,rfl⟩:=h x b;rfl
 have e:∀x∈a.map yu,x.length=1:=λx b=>by let⟨d,i,rfl⟩:=a7.mp b;let⟨c,rfl⟩:=h d i;rfl
 let f:(ab "").length=0:=by solve_by_elim
 have k:uQ (ab "") (a.map yu)=a.length:=by unfold uQ;rw[GV _ f _ _ e];simp
 have j:(iZ (ab "") (a.map yu)).length<=100:=by
  show ((List.drop 1 _).foldl _ ((a.map yu).headD _).cps).size<=100;rw[Cp _ f _ _ λx b=>e x (List.mem_of_mem_drop b)];cases a with
  |nil=>decide|cons d o=>have:=e (yu d) ż;let this:(yu d).cps.size=1:=this;simp[this];simp at g;lia
 let n:uQ (ab "") (a.map yu)<=cY:=by grind [kG]
 let m:(iZ (ab "") (a.map yu)).length<=cY:=by grind [kG]
 simp_all [CN,if_pos,decide_eq_true]
def LJ(L:aH):DG:=(ba (d8 2 (eK (.str L))) (ba re (ba xL bn)))
def P7(L:aH)(b:∀i:Int,0<=i->i<26->∃c,bF (.str L) (.int i)=Y (.str ⟨#[c]⟩)/\97<=c)(a z:Int)(e:0<=z)(d:z<=11):∃c,e2 bF (eV 1) ww [Y (.int z),Y (.str L),Y (.int a)]=Y (.str ⟨#[c]⟩):=by
 let⟨c,f,_⟩:=b _ (ic _ ſ) (gP _ ſ);walk_at "v";rw[Sd (by lia)]
 exact Ÿ
def RV(a:aH)(c:Nat):(a++(⟨#[c]⟩:aH)).length=a.length+1:=by
 show (a.cps ++ #[c]).size=a.cps.size+1;simp
def P6(L:aH)(s:∀i:Int,0<=i->i<26->∃c,bF (.str L) (.int i)=Y (.str ⟨#[c]⟩)/\97<=c)(k a:Int):∃x:aH,gu 2 5 (LJ L) [.int k,.int a]=Y (.str x)/\x≠ab "*" :=by
 let w:=ic a (show 11≠0 by decide);have v:=gP a (show 0<11 by decide);let p:gM (.int a) (.int 11)=Y _:=xw ſ;generalize a%11=q at *
 let⟨J,C,h,g⟩:=Qw (ρ:=[M,Y _,Y _]) (τ:=gN 0) (Pr:=λx=>∃c,x=.str ⟨#[c]⟩) (ds:=fx 0 q.toNat) λd A=>by
  let⟨j,r⟩:=jX.mp A;let⟨r,rfl⟩:=vC r;let u:0<=0+(j:Int):=by lia
  let t:0+(j:Int)<=11:=by lia
  generalize 0+(j:Int)=z at u t;let⟨c,o⟩:=P7 L s a z u t;exact⟨_,_,rfl,o,c,rfl⟩
 rw[pP]at h;let⟨b,D,B⟩:=Uo g Ž;let⟨c,o,E⟩:=s _ (ic _ ſ) (gP _ ſ);have f:b.length<=cY:=by rw[kG];lia
 let n:0<=(b.length:Int):=Int.natCast_nonneg _;let l:(fx 0 q.toNat).length<=cY:=by rw[pP,kG];lia
 unfold LJ;walk_at "v";rw[p];walk_at "v";rw[if_pos ⟨mZ (by decide) w,Int.lt_trans v (by decide)⟩];walk_at "v";rw[if_pos l,C];walk_at "v";rw[D];walk_at "v";rw[aaR f];generalize b.length=F at n;rw[Dl ⟨by decide,by decide⟩];walk_at "v";rw[xw (by lia)];walk_at "v";generalize a/11%(F+1)=e;have I:=Txt.slice_le b M (Y e);let H:=Txt.slice_le b (Y e) M;let y:(⟨#[c]⟩:aH).length=1:=rfl;rw[if_pos f,xw (by decide)];walk_at "v";rw[o];walk_at "v";rw[abJ (by rw[y,kG];lia)];rw[if_pos f];walk_at "v";rw[abJ (by rw[RV,kG];lia)];refine⟨_,rfl,λz =>?_⟩;let m:c∈(Fq b M (Y e)++⟨#[c]⟩++Fq b (Y e) M).cps.toList:=by show c∈(((Fq b M _).cps ++ #[c])++(Fq b _ M).cps).toList;simp
 rw[z]at m;let G:∀x∈(ab "*").cps.toList,x<97:=by decide +kernel
 have:=G c m
 lia
def T_(k a:Int):∃x:aH,Bp [.int k,.int a]=Y (.str x)/\x≠ab "*" :=by
 exact P6 _ XW k _
def P4(a:Int):∃b:List aH,tu [.int a]=Y (b.map D.str)/\1<=b.length/\b.length<=4/\∀x∈b,x≠ab "*" :=by
 have u:=ic (a/7) (show (2:Int)≠0 by decide);have t:=gP (a/7) (show (0:Int)<2 by decide);let s:gM (.int (a/7)) (.int 2)=Y (.int (a/7%2)):=xw ſ;generalize a/7%2=g at *
 let⟨l,o,f,e⟩:=Qw (ρ:=[M,Y (.int a)]) (τ:=gN 0) (fe:=aO Bp io) (Pr:=λx=>∃c,x=.str c/\c≠ab "*") (ds:=fx 0 (1+g).toNat) λd r=>by
  let⟨j,n⟩:=jX.mp r;let⟨n,rfl⟩:=vC n;generalize (0:Int)+(j:Int)=z;let⟨x,w,p⟩:=T_ z a;refine⟨_,.str x,rfl,?_,x,rfl,p⟩
  exact Ÿ
 rw[pP]at f;let k:(fx 0 (1+g).toNat).length<=cY:=by grind [pP,kG]
 let q:∃b:List aH,l=b.map D.str/\∀x∈b,x≠ab "*" :=by
  clear o f
  induction l with
  |nil=>simp_all|cons d y ih=>
   let⟨c,rfl,v⟩:=e d aM;let⟨b,rfl,h⟩:=ih λx m=>e x (aB _ m)
   exact⟨c::b,rfl,λx m=>ŷ⟩
 let⟨b,rfl,i⟩:=q;refine⟨b,?_,ŷ,ŷ,i⟩;unfold tu LH;walk_at "v";rw[Dl ⟨by decide,by decide⟩];walk_at "v";rw[s];walk_at "v";rw[if_pos (⟨mZ (by decide) (show 0<=1+g by lia),jB (show 1+g<=4 by lia) (by decide)⟩)];walk_at "v";rw[if_pos k,o];rfl
theorem Gj:∀(a:List Int),(∀x∈a,0<=x)->∃l:List Nat,a.map D.int=iD l
 |[],_=>⟨[],rfl⟩| x::a,h=>by
  let⟨l,e⟩:=Gj a λy b=>h y Ż
  let⟨n,c⟩:=Int.eq_ofNat_of_zero_le (h x aM);exact⟨n::l,Ż⟩
def Qz(a:List Int)(h:a.length<=63):Bq [.kT a]=Y (.bl Z'):=by
 let⟨b,e,_,d⟩:=Rp a h 200 14 ſ ſ ſ ſ;let⟨l,i⟩:=Gj b d;rw[i]at e;refine X0 e λv =>?_
 let⟨c,g,k,j,f⟩:=P4 v;exact⟨c,g,ŷ,f,Ž⟩
end K21
namespace L2
open PySem PySem.Spec PyProof.Rows
section
variable {P:aZ}{w:cH}{K:aP}{mg:aH->Option aj}{base:cF}{x c:aH}{sp:Sp}{f:aw}{fd:de}{ps:List aH}{n k:Nat}
def eL.m(h:eL P w K mg base x n sp)(hk:autoParam (n<=k) Ū):eL P w K mg base x k sp:=h.mono hk
def jy.m(h:jy P w K mg base c x n sp)(hk:autoParam (n<=k) Ū):jy P w K mg base c x k sp:=h.mono hk
def B8.m(h:B8 P w K mg base c n sp)(hk:autoParam (n<=k) Ū):B8 P w K mg base c k sp:=h.mono hk
def eL.o(h:eL P w K mg base x n sp)(hk:n<=k:=by lia):eL P w K mg base x k sp:=h.mono hk
def jy.o(h:jy P w K mg base c x n sp)(hk:n<=k:=by lia):jy P w K mg base c x k sp:=h.mono hk
def Zk{F:List D->Option (List D)}(e:∀ds,F ds=M):cy P w K mg base ib n f fd ps (rp K F):=by
 constructor
 .intro vs H Q E h;cases h;simp_all
 .intro A o s H args us vs Q E hr he hb hv h;cases h;simp_all
def ZU{F:List D->Option (D×List D×List D)}(e:∀ds,F ds=M):cy P w K mg base ib n f fd ps (tN K 0 2 F):=by
 constructor
 .intro vs H Q E h;cases h;simp_all
 .intro A o s H args us vs Q E hr he hb hv h;cases h;simp_all
def ac3{F:List D->Option (D×List D)}(e:∀ds,F ds=M):cy P w K mg base ib n f fd ps (Fl K 1 F):=by
 constructor
 .intro vs H Q E h;cases h;simp_all
 .intro A o s H args us vs Q E hr he hb hv h;cases h;simp_all
def VB{F:List D->Option D}(e:∀ds,F ds=M):cy P w K mg base ib n f fd ps (fw K F):=by
 constructor
 .rintro vs H Q E ⟨G,ds,d,gh,r,eq,_⟩;rw[e]at eq;cases eq
 .rintro A o s H args us vs Q E hr he hb hv ⟨G,ds,d,gh,r,eq,_⟩;rw[e]at eq;cases eq
def z0T{s:Sk}{F:List D->Option (D×D)}(e:∀ds,F ds=M):cy P w K mg base ib n f fd ps (spT K s F):=by
 constructor
 .rintro vs H Q E ⟨G,t,xs,d,t',a,T,us,_,_,_,_,_,_,eq,_⟩;rw[e]at eq;cases eq
 .rintro A o s H args us vs Q E hr he hb hv ⟨G,t,xs,d,t',a,T,us,_,_,_,_,_,_,eq,_⟩;rw[e]at eq;cases eq
end
end L2
namespace K21
open PySem L2
def ac{α:Type}{P:α->Prop}{a:α}{l:List α}(h:P a)(t:∀x∈l,P x):∀x∈a::l,P x:=pE.mpr ⟨h,t⟩
abbrev FA(K:aP)(x:aH)(st:dh):Prop:=∃f fd,wF K bq x=Y (Y (.ref f))/\iV K x x st f fd
def abW{K:aP}{x:aH}{st:dh}{f:aw}{od an:Option aw}{sl:Array (Option aj)}{oc kV dc pm cd ct:aj}(a:wF K bq x=Y (Y (.ref f)))(l:K.lookup f=Y ⟨oc,od,.func (fnOf x x (oM st) (iQ st) (aE st) .none kV dc pm an cd ct),sl⟩)(c:codeIn K cd x=Z')(k:HI K (.ref f)=Z'):FA K x st:=⟨f,_,a,Q_ l c k⟩
abbrev MA(K:aP)(c m qual:aH)(st:dh):Prop:=∃C f fd,wF K bq c=Y (Y (.ref C))/\wG K (.ref C) m=Y (Y (.ref f))/\PySem.W.isFn K (.ref f)=Z'/\iV K m qual st f fd
def abT{K:aP}{x:aH}{st:dh}{f:aw}{od an:Option aw}{sl:Array (Option aj)}{oc kV dc pm cd ct:aj}{c0 qual:aH}{C:aw}(aC:wF K bq c0=Y (Y (.ref C)))(a:wG K (.ref C) x=Y (Y (.ref f)))(i:PySem.W.isFn K (.ref f)=Z')(l:K.lookup f=Y ⟨oc,od,.func (fnOf x qual (oM st) (iQ st) (aE st) .none kV dc pm an cd ct),sl⟩)(c:codeIn K cd qual=Z')(k:HI K (.ref f)=Z'):MA K c0 x qual st:=⟨C,f,_,aC,a,i,Q_ l c k⟩
def bk0{us:List aj}(e:us.length=0):us=[]:=by
 rcases us with _|_<;>first|rfl|simp at e
def bk1{us:List aj}(e:us.length=1):∃a,us=[a]:=by
 rcases us with _|⟨_,_|_⟩<;>first|exact⟨_,rfl⟩|simp at e
def bk2{us:List aj}(e:us.length=2):∃a b,us=[a,b]:=by
 rcases us with _|⟨_,_|⟨_,_|_⟩⟩<;>first|exact⟨_,_,rfl⟩|simp at e
def bk3{us:List aj}(e:us.length=3):∃a b c,us=[a,b,c]:=by
 rcases us with _|⟨_,_|⟨_,_|⟨_,_|_⟩⟩⟩<;>first|exact⟨_,_,_,rfl⟩|simp at e
def bk4{us:List aj}(e:us.length=4):∃a b c d,us=[a,b,c,d]:=by
 rcases us with _|⟨_,_|⟨_,_|⟨_,_|⟨_,_|_⟩⟩⟩⟩<;>first|exact⟨_,_,_,_,rfl⟩|simp at e
local macro_rules | `(tactic|walk_at "b") => `(tactic|(intro _ _ _ _ _ _ us hl; (first |let⟨_,e⟩:=bk1 hl |let⟨_,_,e⟩:=bk2 hl |let⟨_,_,_,e⟩:=bk3 hl |let⟨_,_,_,_,e⟩:=bk4 hl |have e := bk0 hl); subst e; rfl))
section
variable {P:aZ}{w:cH}{K:aP}{h base:cF}{mg:aH->Option aj}{x c q:aH}{st:dh}{sp:Sp}{ps:List aH}{n:Nat}{C:aw}
structure EN(P:aZ)(w:cH)(K:aP)(mg:aH->Option aj)(base h:cF):Prop where
 X:K.In h
 G:h.Ns bq mg
abbrev CL(K:aP)(c:aH):Prop:=∃C,wF K bq c=Y (Y (.ref C))/\Mu K C/\makesIn K C=Z'/\HI K (.ref C)=Z'
abbrev NA(K:aP)(c f:aH):Prop:=∃C,wF K bq c=Y (Y (.ref C))/\qS K C f
def abZ(a:wF K bq c=Y (Y (.ref C)))(pg:plainGet K C Str.empty=Z')(hd:hasDictIn K C=Z')(po:plainOver K C=Z')(sa:wG K (.ref C) "__setattr__" = Y (Y (.builtin "object.__setattr__")))(mk:makesIn K C=Z')(kc:HI K (.ref C)=Z'):CL K c:=⟨C,a,⟨pg,hd,po,sa⟩,mk,kc⟩
def abR(a:wF K bq c=Y (Y (.ref C)))(n:wG K (.ref C) x=Y M):NA K c x:=⟨C,a,n⟩
def aeZ(h:CL K c)(n:NA K c x):tX K c x:=by
 let⟨C,a,cl,_,_⟩:=h;let⟨C',a',n⟩:=n;intro D e;rw[a]at e a';cases e;cases a';exact⟨cl,n⟩
abbrev BB(x q:aH)(st:dh)(ps:List aH):Prop:=∀(kV Ww pm:aj) (an:Option aw) (kF ct:aj) (us:List aj),us.length=ps.length->bindArgs (fnOf x q (oM st) (iQ st) (aE st) .none kV Ww pm an kF ct) ⟨us,[]⟩=cQ (ps.zip us)
def FA.kY(q:FA K x st)(e:EN P w K mg base h)(o:∀f fd,iV K x x st f fd->cy P w K mg base ib n f fd ps sp)(hb:autoParam (BB x x st ps) Ů):eL P w K mg base x n sp:=by
 let⟨f,fd,a,F⟩:=q;exact⟨f,fd,ps,o f fd F,mg_of e.X e.G a,F.kp,F.binds hb⟩
def MA.Jc(r:MA K c x q st)(_:EN P w K mg base h)(h:CL K c)(o:∀f fd,iV K x q st f fd->cy P w K mg base ib n f fd ps sp)(hb:autoParam (BB x q st ps) Ů):jy P w K mg base c x n sp:=by
 let⟨C',f,fd,a',i,j,F⟩:=r;let⟨C,a,cl,_,_⟩:=h;rw[a]at a';cases a';exact⟨_,f,fd,ps,a,cl,⟨i,j,F.kp⟩,o f fd F,F.binds hb⟩
def MA.okK(r:MA K c "__init__" q st)(e:EN P w K mg base h)(k:CL K c)(o:∀f fd,iV K "__init__" q st f fd->cy P w K mg base ib n f fd ps sp)(hb:autoParam (BB "__init__" q st ps) Ů):B8 P w K mg base c n sp:=by
 let⟨C',f,fd,a',i,j,F⟩:=r;let⟨C,a,cl,m,y⟩:=k;rw[a]at a';cases a';exact⟨_,f,fd,ps,a,mg_of e.X e.G a,⟨m,i,j,y⟩,o f fd F,F.binds hb⟩
end
def Y8{l:PySem.W.OpenLaw}{w:cH}{K:aP}{h:cF}{mg:aH->Option aj}{fa:aw}(X:K.In h)(G:h.Ns bq mg)(hfa:mg "law" = Y (.ref fa))(c:CL K "Facts" /\CL K "Judge")(n:∀p∈KL,NA K p.1 p.2)(z:∀x∈ZL,wF K bq x=Y M)(q:FA K "joined_asks" ni/\FA K "copied" xh/\FA K "copied_wish" nq/\FA K "meets" zI/\FA K "fresh_name" lG/\FA K "least" zJ/\FA K "merged" xc/\FA K "joined" xg/\FA K "wrapped" uy/\FA K "step_ways" qr/\FA K "steps_ways" oZ/\FA K "wish_ways" mJ/\FA K "models" xb/\FA K "can_come" rT/\FA K "stump" zG/\FA K "paper_and_number" fO/\FA K "parting" uA/\FA K "alike" zL/\FA K "plainer" uz/\FA K "first_alike" nj/\FA K "leaving_outs" mo/\FA K "wish_leaving_outs" i8/\FA K "list_leaving_outs" i9/\FA K "with_one" rS/\FA K "_law_draws" vt/\FA K "_law_pop" Iv/\FA K "_law_name" DX/\FA K "_law_names" zH/\FA K "_law_small_wish" lF/\FA K "_law_small_steps" nh/\FA K "_law_left_in" uC/\FA K "_law_left_of" uB/\FA K "_law_within" w_/\FA K "_law_below" vv/\FA K "_law_holds" vr/\FA K "_law_leads" zK/\FA K "_law_numbered" oB/\FA K "_law_ends" yN/\FA K "_law_answers" uD/\FA K "_law_parted" xa/\FA K "law" xf)(r:MA K "Facts" "new_bit" "Facts.new_bit" lj/\MA K "Facts" "enter_step" "Facts.enter_step" jH/\MA K "Facts" "enter" "Facts.enter" nr/\MA K "Facts" "enter_text" "Facts.enter_text" jG/\MA K "Facts" "lead" "Facts.lead" o6/\MA K "Facts" "asked" "Facts.asked" km/\MA K "Facts" "enter_has" "Facts.enter_has" ig/\MA K "Facts" "__init__" "Facts.__init__" iK/\MA K "Facts" "steps_for" "Facts.steps_for" j7/\MA K "Facts" "text_fact" "Facts.text_fact" j6/\MA K "Facts" "lifted" "Facts.lifted" mq/\MA K "Judge" "__init__" "Judge.__init__" iJ)(lt:∃t:Tok,mg "LETTERS" = Y (.str (ab "abcdefghijklmnopqrstuvwxyz") t))(mk:Vk K mg "MARK" gV):
  ∃fd:de,(∀(s:ar) (v:aj),Oj s fd ⟨[v],[]⟩ [("_law_script",v)])/\∀base:cF,K.In base->base.Ns bq mg->cy l.prog w K mg base ib 130 fa fd ["_law_script"] (fw K Bq):=by
 let⟨a0,a1⟩:=c;obtain⟨BZ,G9,uk,LO,Ez,UI,Rf,Rg,NC,G8,wc,ym,Rc,JU,UG,uV,NF,UL,ND,B0,sD,mF,mG,JT,UJ,abt,Yw,UH,wd,uj,Dn,Dm,G7,UK,LQ,LP,AX,Rh,NG,Rb,⟨fL,fdL,aL,FL⟩⟩:=q;let⟨yy,uN,BU,uM,Ei,ud,oI,xC,vT,vS,Aw,xB⟩:=r;let⟨tk,lt⟩:=lt;have e:=hfa.symm.trans (mg_of X G aL);cases e;have k:KS K mg:=⟨λp h=>aeZ (by rcases(show ∀p∈KL,p.1 = "Facts" \/p.1 = "Judge" by decide +kernel) p h with e|e<;>rw[e]<;>assumption) (n p h),λx h=>mg_none_of X G (z x h)⟩
 let⟨oc,od,kV,Ww,pm,an,kF,ct,osl,rfl,_⟩:=FL.ex;refine⟨fnOf "law" "law" (oM xf) (iQ xf) (aE xf) .none kV Ww pm an kF ct,λs v =>.of_eq rfl,λbase a a =>?_⟩;have e:EN l.prog w K mg base h:=⟨X,G⟩;have n1:=BZ.kY e λa a F=>Aj F
 have n2:∀n,eL l.prog w K mg base "copied" (n+0) (fw K (jz n))/\eL l.prog w K mg base "copied_wish" (n+0) (fw K (cw n)):=λn=>by
  induction n with
  |zero=>exact⟨G9.kY (ps:=["steps"]) e λa a a=>VB λa=>rfl,uk.kY (ps:=["wish"]) e λa a a=>VB λa=>rfl⟩
  |succ n ih=>let⟨b2,c7⟩:=ih;exact⟨G9.kY e λa a F=>(M8 F c7).mono Ž,uk.kY e λa a F=>(Am F b2 c7).mono Ž⟩
 have b2:eL _ _ _ _ _ "copied" 12 (fw K kN):=(n2 12).1;have n3:∀n,eL l.prog w K mg base "meets" (n+0) (fw K (iF n)):=λn=>by
  induction n with
  |zero=>exact LO.kY (ps:=["ask","atoms"]) e λa a a=>VB λa=>rfl
  |succ n b0=>exact LO.kY e λa a F=>(PN F k b0).mono Ž
 have b0:eL _ _ _ _ _ "meets" 12 (fw K tw):=(n3 12);have c8:=JU.kY e λa a F=>Gb F
 have c9:=yy.Jc e a0 λa a F=>xr F k
 have n5:=uN.Jc e a0 λa a F=>tT F k c9.m
 have d0:=BU.Jc e a0 λa a F=>An F n5.m
 have n6:=uM.Jc e a0 λa a F=>tS F k c9.m
 have n7:=Ei.Jc e a0 λa a F=>BS F k
 have n8:∀n,jy l.prog w K mg base "Facts" "asked" (n+3) (spT K ao (cj n))/\jy l.prog w K mg base "Facts" "enter_has" (n+3) (spT K ao (cg n)):=λn=>by
  induction n with
  |zero=>exact⟨ud.Jc (ps:=["self","wish"]) e a0 λa a a=>z0T λa=>rfl,oI.Jc (ps:=["self","steps"]) e a0 λa a a=>z0T λa=>rfl⟩
  |succ n ih=>let⟨b1,o1⟩:=ih;exact⟨ud.Jc e a0 λa a F=>(Ao F n6.o o1 b1 n1.o).mono Ž,oI.Jc e a0 λa a F=>(uK F d0.o n7.o b1).mono Ž⟩
 have b1:jy _ _ _ _ _ "Facts" "asked" 15 (spT K ao f7):=(n8 12).1;have o0:=xC.okK e a0 λa a F=>vK F k b2.m d0.m b1.m
 have o1:=vT.Jc e a0 λa a F=>uJ F k
 have o2:=vS.Jc e a0 λa a F=>uI F k
 have o3:=Aw.Jc e a0 λa a F=>yx F k b0.m
 have o4:=Ez.kY e λa a F=>BR F k lt
 have o5:=xB.okK e a1 λa a F=>vJ F k o0.m c9.m n7.m o4.m
 have p0:=UI.kY e λa a F=>PQ F k
 have p1:=Rf.kY e λa a F=>M6 F p0.m
 have p2:=Rg.kY e λa a F=>M7 F p0.m
 have p3:=NC.kY e λa a F=>IW F k o1.m o3.m p0.m
 have p4:=G8.kY e λa a F=>Ec F k p3.m p1.m
 have p5:∀n,eL l.prog w K mg base "steps_ways" (n+63) (fw K (bY n))/\eL l.prog w K mg base "wish_ways" (n+63) (fw K (bX n)):=λn=>by
  induction n with
  |zero=>exact⟨wc.kY (ps:=["judge","steps","inmost"]) e λa a a=>VB λa=>rfl,ym.kY (ps:=["judge","wish"]) e λa a a=>VB λa=>rfl⟩
  |succ n ih=>let⟨s,t⟩:=ih;exact⟨wc.kY e λa a F=>(BP F k p2.o t p4.o).mono Ž,ym.kY e λa a F=>(Eb F k o2.o s t p1.o p2.o).mono Ž⟩
 have p6:eL _ _ _ _ _ "steps_ways" 75 (fw K e_):=(p5 12).1;have p7:=Rc.kY e λa a F=>M5 F k mk p6.m
 have p8:=UG.kY e λa a F=>PL F k.y k.y c8.m
 have p9:=uV.kY e λa a F=>tO F k mk p8.m
 have q0:=NF.kY e λa a F=>IZ F o5.m p7.m p9.m
 have q1:=UJ.kY e λa a F=>PV F k
 have q2:=abt.kY e λa a F=>Xx F
 have q3:=Yw.kY e λa a F=>TY F k
 have q4:=UH.kY e λa a F=>PM F k q3.m
 have q5:∀n,eL l.prog w K mg base "_law_small_wish" (n+1) (tN K 0 2 (cA n))/\eL l.prog w K mg base "_law_small_steps" (n+1) (tN K 0 2 (cU n)):=λn=>by
  induction n with
  |zero=>exact⟨wd.kY (ps:=["_law_draws_here","_law_names_here","_law_left","_law_deep"]) e λa a a=>ZU λa=>rfl,uj.kY (ps:=["_law_draws_here","_law_names_here","_law_left","_law_deep"]) e λa a a=>ZU λa=>rfl⟩
  |succ n ih=>let⟨s,t⟩:=ih;exact⟨wd.kY e λa a F=>(BQ F k q2.o t s).mono Ž,uj.kY e λa a F=>(Ai F k q2.o s).mono Ž⟩
 have q6:eL _ _ _ _ _ "_law_small_steps" 13 (tN K 0 2 eB):=(q5 12).2;have q7:∀n,eL l.prog w K mg base "_law_left_in" (n+0) (rp K (gj n))/\eL l.prog w K mg base "_law_left_of" (n+0) (rp K (fJ n)):=λn=>by
  induction n with
  |zero=>exact⟨Dn.kY (ps:=["_law_steps"]) e λa a a=>Zk λa=>rfl,Dm.kY (ps:=["_law_wish"]) e λa a a=>Zk λa=>rfl⟩
  |succ n ih=>let⟨s,t⟩:=ih;exact⟨Dn.kY e λa a F=>(I' F k t).mono Ž,Dm.kY e λa a F=>(I_ F k s t).mono Ž⟩
 have q8:eL _ _ _ _ _ "_law_left_in" 12 (rp K dB):=(q7 12).1;have r2:=JT.kY e λa a F=>F_ F
 have r3:∀n,eL l.prog w K mg base "leaving_outs" (n+1) (rp K (cV n))/\eL l.prog w K mg base "wish_leaving_outs" (n+1) (rp K (bC n))/\eL l.prog w K mg base "list_leaving_outs" (n+1) (rp K (bR n)):=λn=>by
  induction n with
  |zero=>exact⟨sD.kY (ps:=["steps"]) e λa a a=>Zk λa=>rfl,mF.kY (ps:=["wish"]) e λa a a=>Zk λa=>rfl,mG.kY (ps:=["wishes"]) e λa a a=>Zk λa=>rfl⟩
  |succ n ih=>let⟨s,t,u⟩:=ih;exact⟨sD.kY e λa a F=>(yw F k r2.o t).mono Ž,mF.kY e λa a F=>(sh F k s u).mono Ž,mG.kY e λa a F=>(si F k r2.o t).mono Ž⟩
 have r4:eL _ _ _ _ _ "leaving_outs" 15 (rp K ck):=(r3 14).1;have r5:=UL.kY e λa a F=>PY F q0.m
 have r6:=B0.kY e λa a F=>Al F r4.m r5.m
 have r7:=ND.kY e λa a F=>IY F r6.m b2.m
 have r8:∀n,eL l.prog w K mg base "_law_within" (n+0) (fw K (lB n)):=λn=>by
  induction n with
  |zero=>exact G7.kY (ps:=["_law_part"]) e λa a a=>VB λa=>rfl
  |succ n ih=>exact G7.kY e λa a F=>(M3 F k ih).mono Ž
 have r9:eL _ _ _ _ _ "_law_within" 66 (fw K l7):=r8 66;have s0:=UK.kY e λa a F=>PX F k r9.m
 have s1:∀n,eL l.prog w K mg base "_law_holds" (n+67) (fw K (kK n))/\eL l.prog w K mg base "_law_leads" (n+67) (fw K (kJ n)):=λn=>by
  induction n with
  |zero=>exact⟨LQ.kY (ps:=["_law_part","_law_wish"]) e λa a a=>VB λa=>rfl,LP.kY (ps:=["_law_part","_law_steps"]) e λa a a=>VB λa=>rfl⟩
  |succ n ih=>let⟨s,t⟩:=ih;exact⟨LQ.kY e λa a F=>(PU F k s t).mono Ž,LP.kY e λa a F=>(PR F s0.o s t).mono Ž⟩
 have s2:eL _ _ _ _ _ "_law_holds" 97 (fw K gU):=(s1 30).1;have s3:∀n,eL l.prog w K mg base "_law_numbered" (n+0) (Fl K 1 (ft n)):=λn=>by
  induction n with
  |zero=>exact AX.kY (ps:=["_law_part","_law_count"]) e λa a a=>ac3 λa=>rfl
  |succ n ih=>exact AX.kY e λa a F=>(Ga F k ih).mono Ž
 have s4:eL _ _ _ _ _ "_law_numbered" 66 (Fl K 1 jm):=s3 66;have s5:∀n,eL l.prog w K mg base "_law_ends" (n+97) (rp K (kL n)):=λn=>by
  induction n with
  |zero=>exact Rh.kY (ps:=["_law_part","_law_steps"]) e λa a a=>Zk λa=>rfl
  |succ n ih=>exact Rh.kY e λa a F=>(TZ F k s0.o s2.o ih).mono Ž
 have s6:eL _ _ _ _ _ "_law_ends" 117 (rp K nU):=s5 20;have s7:=NG.kY e λa a F=>Jb F k s4.m s6.m
 have s8:=Rb.kY e λa a F=>M4 F q0.m s7.m
 exact(Xz FL q1.m q4.m q2.m q6.m q8.m r7.m r5.m s8.m).mono ſ
def walk{l:PySem.W.OpenLaw}{q:aZ}{ab3:List aH}{XP:(aH->Option aj)->cF->Prop}{YP:cH->cF->Prop}{d:DefRec}{K:Params->aP}(hn:l.most=Y 63)(hdf:d.params.defaults=[])
  (hY:∀(w:cH) (h:cF),YP w h->(K w.params).In h)
  (F:∀(w:cH) (mg:aH->Option aj) (fa:aw) (h:cF),(K w.params).In h->h.Ns bq mg->mg d.name=Y (.ref fa) ->
   ∃fd:de,(∀(s:ar) (u:aj),Oj s fd ⟨[u],[]⟩ [("_law_script",u)])/\∀base:cF,(K w.params).In base->base.Ns bq mg->cy l.prog w (K w.params) mg base ib 130 fa fd ["_law_script"] (fw (K w.params) Bq)) :
  PySem.W.WalkO q ab3 XP YP l.row.toRowW d [] (λf vs=>PySem.call f vs):=
 L2.OF (n:=63) (k:=130) (x:= "_law_script") (CX:=ib) (sp:=λK=>fw K Bq) hn ſ hdf ⟨rfl,ſ,ſ⟩ hY F (λK H a ns hl hO hS=>XZ Qz K H a ns hl hO hS) λb b b b z=>z
end K21
open PySem PySem.W PyProof.Rows
local macro_rules | `(command|#where) => do return Lean.mkNullNode (←((List.range' 43 425).map (s!"o_{·}")++"heap_39 heap_46 heap_468 sts_150 sts_199 sts_253 sts_268 sts_316 sts_397 sts_49 sts_58 tree_149 tree_198 tree_252 tree_267 tree_315 tree_396 tree_467 tree_57 view_39".splitOn " ").toArray.mapM fun x=>let n:=Lean.mkIdent (.str `PySem.W.Fast s!"tw{Lean.Name.hash (.str `PySem.Challenge.cw_earlysift_k29_whole_nothing_more_goes_holds x)}");`(command|theorem $n : True:=⟨⟩))
#where
theorem PySem.W.Fast.tw9811350266471815925:True:=⟨⟩
set_option tactic.hygienic true
set_option maxRecDepth 100000 in
set_option maxHeartbeats 0 in
theorem PySem.Challenge.cw_earlysift_k29_whole_nothing_more_goes_holds : PySem.Challenge.rw_earlysift_k29_whole_nothing_more_goes.Holds := by
  w_on; o_law; k_head; (case hw => w_witness2)
  k_fill
  refine K21.walk (l := PySem.Challenge.rw_earlysift_k29_whole_nothing_more_goes) rfl rfl (λw h y => PySem.W.kIn_of y) ?F
  case F =>
    intro w mg fa h KX G hmg
    refine' K21.Y8 KX G hmg ?p1 ?p2 ?p3 ?p4 ?p5 ?p7 ?p8
    (case p1 => and_intros <;> exact K21.abZ (by k_is) (by k_is) (by k_is) (by k_is) (by k_is) (by k_is) (by k_is))
    (case p2 => repeat' first |refine K21.ac (by dsimp only; exact K21.abR (by k_is) (by k_is)) ?_ |exact nofun)
    (case p3 => repeat' first |refine K21.ac (by k_is) ?_ |exact nofun)
    (case p4 => and_intros <;> exact K21.abW (by k_is) (by k_is) (by k_is) (by k_is))
    (case p5 => and_intros <;> exact K21.abT (by k_is) (by k_is) (by k_is) (by k_is) (by k_is) (by k_is))
    (case p7 => exact⟨_,PySem.W.mg_of KX G (by k_is)⟩)
    (case p8 => exact⟨_,_,_,_,PySem.W.mg_of KX G (by k_is),by k_is,rfl,rfl,rfl,by decide,.cons ⟨_,rfl⟩ .nil⟩)
