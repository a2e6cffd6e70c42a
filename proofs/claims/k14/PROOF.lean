import PyProof.Rows.All
import Wide.All
import OpenK.AllK
import Wide.FinOn
import Lean
import PyProof.EqAt
import PyProof.EqKinds
import PyProof.TupleCall
import PyProof.NeKinds
import PyProof.StrCalls6
import PyProof.FString5
import PyProof.Rows.StrClose
import PyProof.Rows.BitMore
import PyProof.Rows.SortWalk
import PyProof.ListStr
import PyProof.Rows.SeqCalls
import PyProof.DictItems
import PyProof.SumWalk
import PyProof.Rows.SumGenD
import PySem.Challenge.RW_earlysift_k14_trays
open Option renaming some->Y,none->M,bind_eq_some_iff->ae,map_eq_some_iff->aj,bind_some->av,map_some->gy,map->lu,isSome_map->EG,elim->Hq,bind->Hr
open Bool renaming true->Z',false->Z_,and_eq_true->bh,false_ne_true->d9,false_eq_true->jo,or_eq_true->vC,and_eq_true_iff->yb,and_false->NY
open Classical renaming byContradiction->ah
open PySem renaming wpAny_bind->ai,starEach->ak,Value->au,Shared->az,Addr->aD,wpAny_pure->aJ,Str->aM,mainGlobals->aW,model->aZ,sizeLine->be,Program->bj,wpAny->bx,attributeBase->bJ,foldedSetIterable->bW,backTo->b9,swapsWith->cm,keywordEach->cD,Heap->cG,World->cQ,Stmt->cS,wpAny_Call_Name_kw->c8,wpAny_mono->dE,binaryOp->dF,wpAny_passesOwn->dG,FuncData->dU,compareOp->d_,backToKw->ey,cellsFrom->eQ,wpAny_holding->fx,behindInMarks->fB,bootBuiltins->fG,Around->fJ,wpAny_truthy_bool->gI,Keyword->gJ,wpAny_ite_false->gL,holding->iy,getMethod->iV,wpAny_loadPart_at->iZ,wpAny_field->i4,sizeLine_eq->i5,sysModules->je,standAt->jJ,wpAny_pyIter_list->kh,wpAny_standAt->l6,callWith->l7,cLine->l9,wpAny_execs_nil->mi,codeAny->ml,tupleKind_room_in1->mX,rawInt->mY,wpAny_setField->nT,codeAny_mono->nU,wpAny_call->pR,PassesOwn->pT,ExcBaseFacts->se,wpAny_setField_rec->t5,wpAny_loadPart->t6,call_meets->AK,assignEach->AL,setFlight->ET,wpAny_attempt->Hk,typeOf->Jp,call->Jq,wpAny_newObj_type->NT,getItem->NU,callerA->NV,BindsTo->NZ,plainObj_wpAny_Assign_Attribute->N_,wpAny_execs_cons->RW,wpAny_call_entry->RX,tupleKind->RY,Result->R5,subscripted->Sg,excClassObj->Sh,letOwnedTupleGo->VL,wpAny_seqItems->Z9
open PySem.Heap renaming get?_push_of_some->ao,lt_size->aO,get?_push_size->bo,get?_update_other->bH,get?_update_self->cR,size_push->eC,SameBut->eE,size_update->ya
open List renaming getElem?_eq_some_iff->aq,getElem?_set_ne->aw,mem_cons_of_mem->ax,mem_cons_self->ay,getElem?_eq_getElem->aE,length_map->aF,mem_append_right->aG,replicate->aH,mem_cons->aT,mem_append->aX,getElem?_map->aY,length_append->bf,mem_append_left->br,getElem?_set_self->bG,length_cons->bK,map_cons->bR,map_append->bS,append_nil->bT,append_assoc->bU,perm_append_comm_assoc->bV,nodup_append->b8,range->cg,size_toArray->cp,getElem?_append_left->cw,drop_eq_getElem_cons->cU,length_singleton->c_,zip_cons_cons->d7,mem_singleton->d8,all_eq_true->eB,nil_append->e_,getElem?_eq_none->fH,lookup_cons->fO,map_congr_left->gA,getElem?_zip_eq_some->ie,find?_cons->jq,forall_mem_cons->jV,set_set->ke,not_mem_nil->kf,mem_map->kg,getElem?_take_of_lt->kQ,nodup_cons->kY,length_nil->kZ,drop_eq_nil_of_le->ma,length_take->nh,drop_length->ni,cons_append->nj,all_cons->nK,length_zip->oZ,filterMap_cons->o9,pairwise_cons->qu,getElem?_append_right->qv,pairwise_iff_getElem->rp,getElem?_eq_none_iff->rA,take_sublist->rQ,ext_getElem?->rR,zipWith->vv,all_map->vw,of_mem_zip->vz,mem_filter->vA,mem_iff_getElem?->wK,replicate_succ'->x8,mem_of_getElem?->x9,dropLast_concat->x_,replicate_succ->AM,map_set->EI,map_map->EJ,find?_append->EK,zipIdx_cons->Hb,getElem_mem->Hc,lookup->Ht,zip_append->Jt,foldl_cons->Ju,map->NW,getD_eq_getElem?_getD->NX,getLast?_eq_some_iff->Oa,getLast?_eq_getElem?->Ob,set_comm->R6,any_cons->R7,getElem?_replicate->Si,zipWith_cons_cons->VM,take_of_length_le->VN,range_succ_eq_map->VO,map_nil->VP,eq_nil_or_concat->WZ,dropLast_eq_take->W2
open PySem.Str renaming ofString->ar
open PySem.Value renaming ref->aQ,none->aU,type->cA,bool->t7,int->R0
open PySem.W renaming Frag->aS,findIn->ic,nsIn->jf,kitOne->jA,keepIn->jU,hasDictIn->nJ,kia_one->qy,mg_of->AJ,instObj->Hn,emptyDict->Ho,takerIn->RZ
open Nat renaming le_refl->aV,lt_of_lt_of_le->bp,ne_of_lt->bI,le_trans->bM,zero_le->dr,le_add_right->ez,ne_of_gt->eR,lt_irrefl->iF,le_succ->jg,le_of_lt->kb,le_succ_of_le->l_,le_of_eq->pU,zero_add->vu,eq_of_testBit_eq->x6,min_self->EH,lt_succ_self->Ha,testBit_and->Js
open Sum renaming inr->bw,inl->LS
open Ne renaming symm->bz
open Option.some renaming inj->cu,injEq->rP
open Int renaming emod_lt_of_pos->cv,natCast_nonneg->cJ,emod_nonneg->cN,eq_ofNat_of_zero_le->gn,fdiv_eq_ediv_of_nonneg->qw,lt_of_le_of_lt->Bv,toNat_natCast->EL,lt_trans->EM,le_trans->EO,zero_add->VQ,ofNat_le->VR
open PyProof.Rows renaming wpS_bind->c7,arrOf->da,wpS_pure->gD,callWith_type1->gH,envOfC->mj,callWith_builtin1->ng,wpS_forRange->xo,pairsOf->xp,AllBare->Bx,pendingOf->EU,seqObj->Hl,pairsOf_size->Hm,IntsAre->Hu,boot_isinstance->Jr,nat_or_add_and->LU
open Pure renaming pure->c9
open PySem.PassesOwn renaming never->dH
open False renaming elim->dN
open PySem.Builtin renaming bitOr->fD,bitAnd->t9,bitNot->ER
open PySem.Data renaming fields->fP,dict->R9
open PySem.F renaming plainAttrs_list->fX
open Function renaming comp_def->iw
open PySem.Builtin.Str renaming glued->i6
open Or renaming inl->jB,inr->sd
open Array renaming getElem?_eq_some_iff->jW,find?_toList->lB,getElem?_setIfInBounds_ne->mZ,perm_iff_toList_perm->qx,findIdx?_eq_some_iff_getElem->Bw,getElem?_eq_none->VS
open List.Sublist renaming refl->me
open PySem.Builtin.List renaming listTooLong->mf
open True renaming intro->nc
open PySem.Calls renaming callWith_builtin->nV,spliced_cons->Jw
open PySem.NameKind renaming free->qf,cell->Hs
open ForInStep renaming yield->vB
open Prod.mk renaming injEq->AV
open List.Perm renaming of_eq->Jv
open Prod renaming mk->LV
open PySem.Txt renaming slice->R4
open PySem.Heap.IsList renaming push->R8
set_option bootstrap.genMatcherCode false
set_option compiler.extract_closed false
set_option genSizeOfSpec false
local macro_rules|`(($a,$b,*))=>`(⟨$a,$b,*⟩)
local macro_rules|`(tactic|omega)=>`(tactic|first|with_reducible(first|assumption|exact Nat.le_succ_of_le (by assumption)|exact Nat.lt_succ_of_lt (by assumption)|exact Nat.le_of_lt (by assumption)|exact Nat.zero_le _|exact Nat.ne_of_lt (by assumption)|exact Nat.lt_succ_self _|exact Nat.le_trans (by assumption) (by assumption)|exact Nat.lt_of_lt_of_le (by assumption) (by assumption)|exact Nat.lt_of_lt_of_eq (by assumption) (by assumption)|exact Nat.lt_of_le_of_lt (by assumption) (by assumption))|omega (config:={})|lia)
section
variable{g:Prop}
theorem fE1{p:α→Prop}(k:∀a,p a→g):(∃a,p a)→g:=λ⟨a,h⟩=>k a h
theorem fE2{p:α→β→Prop}(k:∀a b,p a b→g):(∃a b,p a b)→g:=λ⟨a,b,h⟩=>k a b h
theorem fE3{p:α→β→γ→Prop}(k:∀a b c,p a b c→g):(∃a b c,p a b c)→g:=λ⟨a,b,c,h⟩=>k a b c h
theorem fE4{p:α→β→γ→δ→Prop}(k:∀a b c d,p a b c d→g):(∃a b c d,p a b c d)→g:=λ⟨a,b,c,d,h⟩=>k a b c d h
theorem fE5{p:α→β→γ→δ→ε→Prop}(k:∀a b c d e,p a b c d e→g):(∃a b c d e,p a b c d e)→g:=λ⟨a,b,c,d,e,h⟩=>k a b c d e h
theorem fA1{p q:Prop}(k:p→q→g)(h:p∧q):g:=k h.1 h.2
theorem fA2{p q r:Prop}(k:p→q→r→g)(h:p∧q∧r):g:=k h.1 h.2.1 h.2.2
theorem fA3{p q r s:Prop}(k:p→q→r→s→g)(h:p∧q∧r∧s):g:=k h.1 h.2.1 h.2.2.1 h.2.2.2
theorem fA4{p q r s t:Prop}(k:p→q→r→s→t→g)(h:p∧q∧r∧s∧t):g:=k h.1 h.2.1 h.2.2.1 h.2.2.2.1 h.2.2.2.2
theorem fA5{p q r s t u:Prop}(k:p→q→r→s→t→u→g)(h:p∧q∧r∧s∧t∧u):g:=k h.1 h.2.1 h.2.2.1 h.2.2.2.1 h.2.2.2.2.1 h.2.2.2.2.2
theorem fA6{p q r s t u v:Prop}(k:p→q→r→s→t→u→v→g)(h:p∧q∧r∧s∧t∧u∧v):g:=k h.1 h.2.1 h.2.2.1 h.2.2.2.1 h.2.2.2.2.1 h.2.2.2.2.2.1 h.2.2.2.2.2.2
theorem fA7{p q r s t u v w:Prop}(k:p→q→r→s→t→u→v→w→g)(h:p∧q∧r∧s∧t∧u∧v∧w):g:=k h.1 h.2.1 h.2.2.1 h.2.2.2.1 h.2.2.2.2.1 h.2.2.2.2.2.1 h.2.2.2.2.2.2.1 h.2.2.2.2.2.2.2
end
open Lean in
def sx0(v:Array Syntax)(s:List String)(a:Array Syntax)(p:List (Name×Array Syntax)):Syntax:=match s with
 |[]=>a.getD 0 .missing
 |w::s=>
  let c:=w.front
  let r:=(w.drop 1).toString
  if w=="" then sx0 v s a p else if c=='(' then sx0 v s #[] ((r.toName,a)::p) else if c==')' then sx0 v s ((p.headD (.anonymous,#[])).2.push (mkNode (p.headD (.anonymous,#[])).1 a)) p.tail else sx0 v s (a.push (if c=='$' then v.getD (w.back.toNat-48) .missing else if c=='%' then mkIdent r.toName else mkAtom (if c=='[' then "(" else if c==']' then ")" else w))) p
def mk0(s:String)(v:Array Lean.Syntax):=sx0 v (((s.replace "T!" "Lean.Parser.Tactic.").replace "M!" "Lean.Parser.Term.").splitOn " ") #[] []
open Lean in
def fx0(A:Array Syntax):Syntax:=
 let n:=(A.size+1)/2
 let d(k:Nat):="$"++(Char.ofNat (48+k)).toString
 let h(k:Nat):="(T!rintroPat.one (T!rcasesPat.paren [ "++d k++" ] ) ) "
 mk0 ("(T!first first (null "++String.join (("fE5 fE4 fE3 fE2 fE1 fA7 fA6 fA5 fA4 fA3 fA2 fA1".splitOn " ").map fun f=>
  let i:=f.back.toNat-48
  if n<=i then "" else "(group | (T!tacticSeq (T!tacticSeq1Indented (null (T!refine refine (M!app %"++f++" (null (M!syntheticHole ? _ ) ) ) ) ; (T!«tactic_<;>_» (T!rintro rintro (null "++String.join ((List.range i).map h)++") (null ) ) <;> (T!rintro rintro (null "++(if n=i+1 then h i else "(T!rintroPat.one (T!rcasesPat.tuple ⟨ (null "++String.join (((List.range n).drop i).map (d ·++" , "))++") ⟩ ) )")++" ) (null ) ) ) ) ) ) ) ")++") )") ((Array.range n).map fun k=>A.getD (2*k) .missing)
def rx0(t e x:Lean.Syntax):=mk0 "(T!paren [ (T!tacticSeq (T!tacticSeq1Indented (null (T!refine refine (M!noImplicitLambda no_implicit_lambda% (M!app (M!typeAscription (M!hygienicLParen [ (hygieneInfo % ) ) (M!syntheticHole ? _ ) : (null (M!arrow $0 → (M!hole _ ) ) ) ] ) (null $1 ) ) ) ) ; $2 ) ) ) ] )" #[t,e,x]
open Lean in
local macro_rules(kind:=Lean.Parser.Tactic.obtain)
|s=>
 let p:=s[1][0][0][0]
 let e:=s[3][1][0]
 if s[1][0][0].getNumArgs !=1||!p.isOfKind `Lean.Parser.Tactic.rcasesPat.tuple||p[1].getNumArgs<3||!s[2].isNone then Macro.throwUnsupported else return rx0 (mk0 "(M!hole _ )" #[]) e (mk0 (if e.isIdent then "(T!paren [ (T!tacticSeq (T!tacticSeq1Indented (null (T!tacticTry_ try (T!tacticSeq (T!tacticSeq1Indented (null (T!clear clear (null $1 ) ) ) ) ) ) ; $0 ) ) ) ] )" else "$0") #[fx0 p[1].getArgs,e])
open Lean in
local macro_rules(kind:=Lean.Parser.Tactic.tacticLet__)
|s=>
 let d:=s[2][0]
 if !d[1].isNone then Macro.throwUnsupported else if d.isOfKind `Lean.Parser.Term.letIdDecl then return rx0 (if d[2].isNone then mk0 "(M!hole _ )" #[] else d[2][0][1]) d[4] (mk0 "(T!intro intro (null $0 ) )" #[d[0][0]])
 else if !d[0].isOfKind `Lean.Parser.Term.tuple&&!d[0].isOfKind `Lean.Parser.Term.anonymousCtor then Macro.throwUnsupported else do
  let z:=mkIdent (←Macro.addMacroScope `z)
  return mk0 "(T!obtain obtain (null (T!rcasesPatMed (null (T!rcasesPat.tuple ⟨ $0 ⟩ ) ) ) ) (null ) (null := (null $1 ) ) )" #[mkNullNode ((if d[0].getNumArgs==3&&d[0][0].isAtom then d[0][1].getArgs else #[d[0][1][0],d[0][1][1]]++d[0][1][2].getArgs).map fun x=>if x.isAtom then x else mk0 "(T!rcasesPatLo (T!rcasesPatMed (null (T!rcasesPat.one $0 ) ) ) (null ) )" #[if x.isIdent then x else z]),d[4]]
open Lean in
local macro_rules(kind:=Lean.Parser.Tactic.rintro)
|s=>
 let q:=s[1].getArgs
 match q.findIdx? fun x=>x[0].isOfKind `Lean.Parser.Tactic.rcasesPat.tuple&&x[0][1].getNumArgs>2 with
 |none=>Macro.throwUnsupported
 |some i=>return if q.size<2 then fx0 q[i]![0][1].getArgs else mk0 "(T!«tactic_<;>_» (T!«tactic_<;>_» (T!rintro rintro $0 (null ) ) <;> (T!rintro rintro (null $1 ) (null ) ) ) <;> (T!rintro rintro $2 (null ) ) )" #[mkNullNode (q.extract 0 i),q[i]!,mkNullNode (q.extract (i+1) q.size)]
noncomputable section
set_option maxRecDepth 100000
set_option maxHeartbeats 4000000
open PySem.W (Frag mg_of nsIn mg_none_of findIn kia_one fnOf emptyDict keepIn instObj kitOne codeIn plainGet hasDictIn plainOver takerIn makesIn methodObj lookIn)
open PySem.F (plainAttrs_list)
set_option Elab.async false
set_option tactic.hygienic false
set_option linter.all false
def tq0(s:String):=mk0 ("(T!tacticSeq (T!tacticSeq1Indented (null "++s++" ) ) )") #[]
def Ū:=tq0 "(T!decide decide (T!optConfig (null ) ) )"
def š:=tq0 "(T!omega omega (T!optConfig (null ) ) )"
def ŝ:=tq0 "(T!lia lia (T!optConfig (null ) ) )"
def Ŝ:=tq0 "(T!simp simp (T!optConfig (null ) ) (null ) (null ) (null ) (null ) )"
def ś:=tq0 "(T!simpAll simp_all (T!optConfig (null ) ) (null ) (null ) (null ) )"
def Ś:=tq0 "(tacticKernel_rfl kernel_rfl )"
def ř:=tq0 "(T!solveByElim solve_by_elim (null ) (T!optConfig (null ) ) (null ) (null ) (null ) )"
def Ř:=tq0 "(T!grind grind (T!optConfig (null ) ) (null ) (null ) (null ) )"
def ţ:=tq0 "(T!decide decide (T!optConfig (null (T!configItem (T!posConfigItem + %kernel ) ) ) ) )"
def Ű:=tq0 "(T!first first (null (group | (T!tacticSeq (T!tacticSeq1Indented (null (T!exact exact (M!app %jB (null %rfl ) ) ) ) ) ) ) (group | (T!tacticSeq (T!tacticSeq1Indented (null (T!exact exact (M!app %sd (null (M!paren (M!hygienicLParen [ (hygieneInfo % ) ) (M!app %jB (null %rfl ) ) ] ) ) ) ) ) ) ) ) (group | (T!tacticSeq (T!tacticSeq1Indented (null (T!exact exact (M!app %sd (null (M!paren (M!hygienicLParen [ (hygieneInfo % ) ) (M!app %sd (null %rfl ) ) ] ) ) ) ) ) ) ) ) ) )"
def Ů:=tq0 "(PyProof.Rows.tacticWalk_at_ walk_at (str \"b\" ) )"
def Ŭ:=tq0 "(T!tacticRfl rfl )"
def ũ:=tq0 "(T!intro intro (null (M!hole _ ) ) ) ; (T!tacticRfl rfl )"
def ŧ:=tq0 "(T!first first (null (group | (T!tacticSeq (T!tacticSeq1Indented (null (T!exact exact (M!app (M!dotIdent . %inl ) (null %rfl ) ) ) ) ) ) ) (group | (T!tacticSeq (T!tacticSeq1Indented (null (T!exact exact (M!app (M!dotIdent . %inr ) (null %rfl ) ) ) ) ) ) ) (group | (T!tacticSeq (T!tacticSeq1Indented (null (T!assumption assumption ) ) ) ) ) ) )"
def ť:=tq0 "(T!intro intro (null %a ) ) ; (T!simpAll simp_all (T!optConfig (null ) ) (null ) (null ) (null ) )"
def Š:=tq0 "(T!exact exact (M!fun λ (M!basicFun (null %a %a ) (null ) => %rfl ) ) )"
def ŗ:=tq0 "(PyProof.Rows.tacticWalk_at_ walk_at (str \"s\" ) )"
def Ŗ:=tq0 "(PyProof.Rows.tacticWalk_at_ walk_at (str \"o\" ) )"
def ŕ:=tq0 "(T!first first (null (group | (T!tacticSeq (T!tacticSeq1Indented (null (T!exact exact (M!app %PU (null (M!hole _ ) %ſ %ſ ) ) ) ) ) ) ) (group | (T!tacticSeq (T!tacticSeq1Indented (null (T!tacticRfl rfl ) ) ) ) ) ) )"
def Ŕ:=tq0 "(T!intro intro (null (M!hole _ ) ) ) ; (T!tacticRfl rfl )"
def œ:=tq0 "(T!intro intro (null %s %t %h1 %h2 ) ) ; (T!exact exact (M!app %Yd (null %h1 %h2 %RU ) ) )"
def Œ:=tq0 "(T!exact exact %PyProof.Rows.boot_list )"
def ő:=tq0 "(T!first first (null (group | (T!tacticSeq (T!tacticSeq1Indented (null (T!exact exact (M!app %kN (null %rfl %rfl %rfl %rfl ) ) ) ) ) ) ) (group | (T!tacticSeq (T!tacticSeq1Indented (null (T!exact exact (M!app %Vx (null %rfl %rfl ) ) ) ) ) ) ) ) )"
def Ő:=tq0 "(T!exact exact (M!fun λ (M!basicFun (null %n %g %g %g %g ) (null ) => (M!app %gR (null %n %rfl (M!paren (M!hygienicLParen [ (hygieneInfo % ) ) (M!app (M!dotIdent . %inl ) (null %rfl ) ) ] ) ) ) ) ) )"
def ŏ:=tq0 "(T!assumption assumption )"
local macro_rules|`(@&$x)=>`(autoParam $x Ŭ)
local macro_rules|`(‹$x›)=>`(autoParam $x Ū)
local macro_rules|`(!$x)=>`(List $x)
local macro_rules|`(↑$x)=>`(Option $x)
def W{p:Sort u}{a:p}:a=a:=rfl
theorem ſ{p:Prop}(h:‹p›):p:=h
theorem ž{p:Prop}(h:autoParam p š):p:=h
theorem Ž{p:Prop}(h:autoParam p ŝ):p:=h
theorem ż{p:Prop}(h:autoParam p Ŝ):p:=h
theorem Ż{p:Prop}(h:autoParam p ś):p:=h
theorem ź{p:Prop}(h:autoParam p Ś):p:=h
theorem Ÿ{p:Prop}(h:autoParam p ř):p:=h
theorem ŷ{p:Prop}(h:autoParam p Ř):p:=h
theorem Ų{p:Prop}(h:autoParam p ţ):p:=h
namespace L2
open PySem PySem.Spec PyProof.Rows
abbrev hW:=Sum Int aM
noncomputable def B6:hW->au->Bool
 |.inl k,v=>Value.isInt k v|.inr x,v=>Value.isStrOf x v
noncomputable def ae9(w:cQ):hW->Int
 |.inl k=>hashInt k|.inr x=>hashStr w x
theorem fU:∀ {k:hW}{v:au},B6 k v=Z'->(∃i t,k=LS i/\v=R0 i t)\/(∃x t,k=bw x/\v=Value.str x t)
 |.inl i,v,h=>by let(t,e):=Value.isInt_shape h;exact .inl (i,t,W,e)
 |.inr x,v,h=>by let(t,e):=Value.isStrOf_shape h;exact .inr (x,t,W,e)
def MQ(i:Int)(t:Tok):B6 (.inl i) (.int i t)=true:=by simp[B6,Value.isInt]
def MP(x:aM)(t:Tok):B6 (.inr x) (.str x t)=true:=by simp[B6,Value.isStrOf]
def YU(a b:Int):decide ((LS a:hW)=LS b)=(a==b):=by
 lia
def YR(a b:aM):decide ((bw a:hW)=bw b)=decide (a=b):=by
 simp_all
def YT(a:Int)(b:aM):decide ((LS a:hW)=bw b)=false:=decide_eq_false λq=>nomatch q
def YS(a:aM)(b:Int):decide ((bw a:hW)=LS b)=false:=decide_eq_false λq=>nomatch q
def fg(prog:bj)(w:cQ):PySem.KeyKind prog w hW where
 is:=B6
 hash:=ae9 w
 inj:=λv a b l f=>by
  obtain⟨i,t,rfl,rfl⟩|⟨x,t,rfl,rfl⟩:=fU l
  .obtain⟨j,u,rfl,e⟩|⟨y,u,rfl,e⟩:=fU f
   .injection e with e1 _;rw[e1]
   .exact nomatch e
  .obtain⟨j,u,rfl,e⟩|⟨y,u,rfl,e⟩:=fU f
   .exact nomatch e
   .injection e with e1 _;rw[e1]
 byValue:=λk v h=>by
  obtain⟨i,t,rfl,rfl⟩|⟨x,t,rfl,rfl⟩:=fU h<;>rfl
 pyHash:=λc h=>by
  obtain⟨i,t,rfl,rfl⟩|⟨x,t,rfl,rfl⟩:=fU c
  .exact wpAny_pyHash_int h
  .exact wpAny_pyHash_str h
 eqBool:=λg c h=>by
  obtain⟨i,t,rfl,rfl⟩|⟨x,t,rfl,rfl⟩:=fU g
  .obtain⟨j,u,rfl,rfl⟩|⟨y,u,rfl,rfl⟩:=fU c
   .rw[YU]at h;exact wpAny_eqBool_int h
   .rw[YT]at h;exact SeqAt.EqAt.int_str i t y u _ _ _ _ h
  .obtain⟨j,u,rfl,rfl⟩|⟨y,u,rfl,rfl⟩:=fU c
   .rw[YS]at h;exact SeqAt.EqAt.str_int x t j u _ _ _ _ h
   .rw[YR]at h;exact wpAny_eqBool_str h
 «strs» :=λk x t v h=>by
  obtain⟨i,u,rfl,e⟩|⟨y,u,rfl,e⟩:=fU h
  .exact nomatch e
  .injection e with e1 _
   subst e1
   cases v<;>rfl
def Ga(prog:bj)(w:cQ)(i:Int)(t:Tok):(fg prog w).is (.inl i) (.int i t)=true:=MQ i t
def F_(prog:bj)(w:cQ)(x:aM)(t:Tok):(fg prog w).is (.inr x) (.str x t)=true:=MP x t
inductive V where
 |cT|bl (b:Bool)|int (i:Int)|str (x:aM)|Vv (b:Array UInt8)|Se (b:UInt64)|ref (a:aD)|ty (n:String)
 deriving DecidableEq
def RelV:V->au->Prop
 |.cT,u=>u=aU|.bl b,u=>u=t7 b|.int i,u=>∃t,u=R0 i t|.str x,u=>∃t,u=Value.str x t|.Vv b,u=>∃t,u=Value.bytes b t|.Se b,u=>∃t,u=Value.float b t|.ref a,u=>u=aQ a|.ty n,u=>u=cA n
abbrev cx:!V->!au->Prop:=Paired RelV
def cx.length{xs:!V}{a:!au}(r:cx xs a):xs.length=a.length:=Paired.length r
theorem cx.get:∀ {xs:!V}{a:!au}{i:Nat}{x:V},cx xs a->xs[i]?=Y x->∃u,a[i]?=Y u/\RelV x u
 |_,_,_,_,.nil,e=>by simp at e
 |_,_,0,_,.cons r _,e=>by simp_all
 |_,_,i+1,x,.cons _ t,e=>by let(u,J,z):=cx.get (i:=i) (x:=x) t Ż;exact(u,Ż,z)
theorem cx.set{u:au}(r:RelV x u):∀ {xs:!V}{a:!au}(i:Nat),cx xs a->cx (xs.set i x) (a.set i u)
 |_,_,_,.nil =>.nil|_,_,0,.cons _ t =>.cons r t|_,_,i+1,.cons q t =>.cons q<|cx.set r i t
def cx.append{xs ys:!V}{b a:!au}(h:cx xs b)(s:cx ys a):cx (xs++ys)<|b++a:=by
 induction h with|nil=>exact s|cons r _ ih=>solve_by_elim
theorem cx.take:∀ {xs:!V}{a:!au}(n:Nat),cx xs a->cx (xs.take n) (a.take n)
 |_,_,0,_ =>.nil|_,_,_+1,.nil =>.nil|_,_,n+1,.cons r t =>.cons r<|cx.take n t
theorem cx.drop:∀ {xs:!V}{a:!au}(n:Nat),cx xs a->cx (xs.drop n) (a.drop n)
 |_,_,0,r=>r|_,_,_+1,.nil =>.nil|_,_,n+1,.cons _ t=>cx.drop n t
def oX:↑V->↑au->Prop
 |some v,Y u=>RelV v u|none,M=>True|_,_=>False
def KV{a:Type}:!(a×V)->!(a×au)->Prop:=Paired λ(p:a×V) (q:a×au)=>p.1=q.1/\RelV p.2 q.2
noncomputable def kV:hW->V
 |.inl i =>.int i|.inr x =>.str x
inductive HO where
 |lst (xs:!V)
 |tup (xs:!V)
 |dK (kvs:!(hW×V)) (n:Nat)|dT (kvs:!(!hW×V))
 |set (S:Int->Bool) (n:Nat)
 |ins (C dx:aD) (fs:!(aM×V))
 |Z (x:aD)
 |xd (fs:!(aM×V))
 |met (f x:aD)
 |rng (lo hi:Int)
 |KU (o:Obj) (u:HO)
 |V2 (ps:Array au)
 |ext (φ:cG->Prop)
abbrev Hp:=aD->↑HO
noncomputable def cO(H:Hp)(a:aD)(o:HO):Hp:=λb=>if b=a then Y o else H b
theorem aP{a:aD}{o:HO}:cO H a o a=Y o:=by unfold cO;rw[if_pos W]
theorem aI{a:aD}{o:HO}(h:b≠a):cO H a o b=H b:=by unfold cO;rw[if_neg h]
def yc{o:HO}:cO (cO H a o) a u=cO H a u:=by
 grind [cO]
def bc{H:Hp}(h:H a=Y o)(h':H b=M):a≠b:=by
 lia
section
variable (P:bj)(w:cQ)
def hR(H:Hp)(h:cG)(a:aD):HO->Prop
 |.lst xs=>xs.length<=be/\∃(g:!au) (b:Nat),cx xs g/\h.get? a=Y { cls :=.type "list",data :=.seq g.toArray b }|.tup xs=>xs.length<=be/\∃g:!au,cx xs g/\IsTup h a g.toArray|.dK e n=>e.length<=be/\(a==je)=Z_/\∃l,KV e l/\h.DictAt (fg P w) a l n| .dT e=>e.length<=be/\(a==je)=Z_/\∃xs:!(!hW×aD×au),
   Paired (λ(p:!hW×V) (c:!hW×aD×au)=>p.1=c.1/\H c.2.1=Y (.tup<|p.1.map kV)/\RelV p.2 c.2.2) e xs /\
   ∃o es m,h.get? a=Y o/\o.ExactDict/\o.data=.dict es m/\es.toList=xs.map (entryOfKey<|RY<|fg P w)/\(xs.map (·.1)).Nodup
 |.set S b=>h.SetOf (intKind P w) a S b| .ins C dx j=>H dx=Y (.Z a)/\j.length<=1000/\dx≠a/\h.get? a=Y (Hn C dx) /\
   ∃mA,h.Ns1 dx mA/\(∀f,oX (j.lookup f)<|mA f)/\PySem.Within mA (j.map (·.1))
 |.Z _=>∃o,h.get? a=Y o|.xd j=>∃mA,h.Ns1 a mA/\∀f,oX (j.lookup f) (mA f)|.rng n L=>∃t u v,h.get? a=Y { cls :=.type "range",data :=.fields #[.int n t,.int L u,.int 1 v] }|.KU o u=>h.get? a=Y o/\hR H h a u|.V2 q=>h.get? a=Y { cls :=.none,data :=.fields q }|.met f x=>h.get? a=Y (methodObj (.ref f)<|.ref x)
 |.ext k=>k h/\(∃o,h.get? a=Y o)/\∀J z:cG,k J->(∀o,J.get? a=Y o->z.get? a=Y o)->k z
def lT(H:Hp)(h:cG):Prop:=∀a o,H a=Y o->hR P w H h a o
end
section
variable {P:bj}
def hR.lt(x:hR P w H h a o):a<h.objs.size:=by
 cases o with
 |lst xs=>let(_,_,_,_,e):=x;exact aO e
 |tup xs=>let(_,_,_,p):=x;exact p.lt
 |dK E n=>let(_,_,_,_,o,_,e,_):=x;exact aO e
 |set S b=>let(o,_,_,_,e,_):=x;exact aO e
 |ins C dx j=>let(_,_,_,e,_):=x;exact aO e
 |Z y=>let(_,e):=x;exact aO e
 |xd j=>obtain⟨_,⟨_,_,_,e,_⟩,_⟩:=x;exact aO e
 |rng n L=>let(_,_,_,e):=x;exact aO e
 |KU k u=>let(e,_):=x;exact aO e
 |V2 q=>exact aO x|met f y=>exact aO x|ext g=>obtain⟨_,⟨_,e⟩,_⟩:=x;exact aO e
 |_=>let(_,_,_,_,o,_,_,e,_):=x;exact aO e
def Paired.abT{h g:Type}{F G:h->g->Prop}{e:!h}{c:!g}(p:Paired F e c)(f:∀a b,F a b->G a b):Paired G e c:=by
 induction p with|nil=>exact .nil|cons r _ ih=>solve_by_elim
def hR.uk(x:hR P w H h a o)(k:∀b u,(b=a\/H b=Y (.Z a))->h.get? b=Y u->h'.get? b=Y u)(Q:∀b,H b=Y (.Z a)->H' b=Y (.Z a))(i:∀b xs,H b=Y (.tup xs)->H' b=Y (.tup xs)):hR P w H' h' a o:=by
 induction o with
 |lst xs=>let(z,A,g,r,e):=x;exact(z,A,g,r,k _ _ (.inl W) e)
 |tup xs=>let(z,A,r,m,e,c):=x;exact(z,A,r,m,k _ _ (.inl W) e,c)
 |dK E n=>let(z,y,F,r,m,es,e,c):=x;exact(z,y,F,r,m,es,k _ _ (.inl W) e,c)
 |dT E=>let(z,y,xs,r,m,es,s,e,c):=x;exact(z,y,xs,Paired.abT r λp l z=>(z.1,i _ _ z.2.1,z.2.2),m,es,s,k _ _ (.inl W) e,c)
 |set S g=>let(m,es,s,t,e,c):=x;exact(m,es,s,t,k _ _ (.inl W) e,c)
 |ins C dx j=>obtain⟨d,z,K,e,mA,⟨D,es,s,R,c⟩,r⟩:=x;exact(Q _ d,z,K,k _ _ (.inl W) e,mA,(D,es,s,k _ _ (.inr d) R,c),r)
 |Z y=>let(m,e):=x;exact(m,k _ _ (.inl W) e)
 |xd j=>obtain⟨mA,⟨D,es,s,e,c⟩,r⟩:=x;exact(mA,(D,es,s,k _ _ (.inl W) e,c),r)
 |rng n L=>let(t,u,v,e):=x;exact(t,u,v,Ÿ)
 |KU m u ih=>let(e,l):=x;exact(k _ _ (.inl W) e,ih l)
 |V2 q=>solve_by_elim|met f y=>solve_by_elim|ext T=>obtain⟨p,⟨o,e⟩,st⟩:=x;exact(st _ _ p λo l=>k _ _ (.inl W) l,Ż,st)
def lT.lt(x:lT P w H h)(e:H a=Y o):a<h.objs.size:=(x a o e).lt
def lT.fresh(x:lT P w H h)(e:h.objs.size<=a):H a=none:=by
 rcases q:H a with _|u
 .rfl
 exact absurd (bp (x.lt q) e) Ż
def lT.kept(x:lT P w H h)(k:∀b u,h.get? b=Y u->h'.get? b=Y u):lT P w H h':=λa o e=>
 (x a o e).uk (λb u c q=>k b u q) (λc q=>q) λc c q=>q
def lT.laid(x:lT P w H h)(k:∀b u,h.get? b=Y u->h'.get? b=Y u)(m:h.objs.size<=a)(f:hR P w (cO H a o) h' a o):lT P w (cO H a o) h':=λb u e=>by
 let g:=x.fresh m;by_cases l:b=a
 .simp_all [aP]
 .rw[aI l]at e;exact(x b u e).uk (λc v d q=>k c v q) (λc q=>by rw[aI<|bc q g];exact q) λc xs q=>by rw[aI<|bc q g];exact q
end
def Rd(H:Hp)(a:aD)(u:HO):Prop:=H a=Y u\/∃o,H a=Y (.KU o u)
def Rd.of(h:H a=Y u):Rd H a u :=.inl h
theorem Rd.ok{P:bj}{a:aD}(r:Rd H a u)(x:lT P w H h):hR P w H h a u:=by
 obtain r|⟨o,r⟩:=r
 .exact x a u r
 .let(_,q):=x a _ r;exact q
def Mut:↑HO->Prop
 |some (.lst _)=>True|some (.dK _ _)=>True|some (.dT _)=>True|some (.set _ _)=>True|some (.ins _ _ _)=>True|some (.ext _)=>True|_=>False
section
variable {P:bj}
def lT.write(C:lT P w H h)(l:Mut<|H x)(A:e=x\/H e=Y (.Z x))(k:∀b u,b≠e->h.get? b=Y u->h'.get? b=Y u)(s:∃u,h'.get? e=Y u)(p:hR P w (cO H x o') h' x o'):lT P w (cO H x o') h':=λb u q=>by
 have f:∀c y,H c=Y (.Z y)->c≠x:=λc y r z=>by subst z;rw[r]at l;exact l
 have g:∀c xs,H c=Y (.tup xs)->c≠x:=λc xs r z=>by subst z;rw[r]at l;exact l
 by_cases o:b=x
 .subst o;rw[aP]at q;cases q;exact p
 .rw[aI o]at q;by_cases a:b=e
  .let t:H b=Y (.Z x):=by lia
   rw[q]at t;cases t;let(v,D):=s;exact(v,Ż)
  .refine(C b u q).uk (λc v m r=>k c v ?_ r) λc r=>by simp_all [aI] λc xs r=>by simp_all [aI]
   grind
end
structure Un(fs ex:!aD)(H H':Hp)(h h':cG):Prop where
 keep:∀b o,h.get? b=some o->H b=none->b∉fs->b∉ex->h'.get? b=some o
 slot:∀b o,h.get? b=some o->H b=none->b∈fs->b∉ex->∃sl,h'.get? b=some { o with slots:=sl }
 free:∀b o,h.get? b=some o->H b=none->b∉ex->H' b=none
 there:∀b o,h.get? b=some o->b∉ex->∃o',h'.get? b=some o'
 CP:∀b xs,H b=some (.tup xs)->H' b=some (.tup xs)
 Bk:∀b o u,H b=some (.KU o u)->H' b=some (.KU o u)
 CQ:∀b ps,H b=some (.V2 ps)->∃more,H' b=some (.V2<|ps++more)
def Un.any(u:Un j ex H O h J){a:Obj}(q:h.get? b=Y a)(n:H b=M)(c:b∉ex):∃f,J.get? b=Y { a with slots:=f }:=by
 by_cases e:b∈j
 .exact u.slot b a q n e c
 .exact(_,u.keep b a q n e c)
def Un.kept(k:∀b u,h.get? b=Y u->h'.get? b=Y u):Un j ex H H h h':=
 (λb c a d d d=>k b c a,λb c a d d d=>(_,k b c a),λd d d n d=>n,λb c a d=>(c,k b c a),λd d a=>a,λd d d a=>a,λd q a=>(#[],by rw[a];simp))
def Un.refl:Un j ex H H h h:=Un.kept λa a q=>q
def Un.laid(k:∀b u,h.get? b=Y u->h'.get? b=Y u)(f:h.objs.size<=a)(e:H a=M):Un j ex H (cO H a o) h h' where
 keep:=λb u c d d d=>k b u c
 slot:=λb u c d d d=>(u.slots,k b u c)
 free:=λb u c n d=>by rw[aI<|bI<|bp (aO c) f];exact n
 there:=λb u c d=>(u,k b u c)
 CP:=λb xs c=>by rw[aI<|bc c e];exact c
 Bk:=λb u xs c=>by rw[aI<|bc c e];exact c
 CQ:=λb q c=>(#[],by rw[aI<|bc c e,c];simp)
def Un.write(f:Mut<|H x)(s:e=x\/H e=Y (.Z x))(k:∀b u,b≠e->h.get? b=Y u->h'.get? b=Y u)(l:∃u,h'.get? e=Y u):Un j ex H (cO H x o) h h':=by
 have m:∀b,H b=M->b≠x:=λb n z=>by subst z;rw[n]at f;exact f
 have p:∀b,H b=M->b≠e:=λb n z=>by simp_all
 have g:∀b u,H b=Y u->¬Mut (Y u)->b≠x:=λb u a nm z=>by simp_all
 refine(λb u a n c c=>k b u (p b n) a,λb u a n c c=>(_,k b u (p b n) a),λb u a n c=>by simp_all [aI],λb u a c =>?_,
  λb xs a=>by rw[aI<|g b _ a λz=>z];exact a,λb u xs a=>by rw[aI<|g b _ a λz=>z];exact a,λb q a=>(#[],by rw[aI<|g b _ a λz=>z,a];simp))
 grind
noncomputable def trk(h:cG)(H:Hp):!aD:=(cg h.objs.size).filter λa=>(H a).isSome
def IB(h:cG)(H:Hp):cG:=PySem.W.hideAll h<|trk h H
def MX(h:cG)(H:Hp):(IB h H).objs.size=h.objs.size:=PySem.W.hideAll_size _ _
def Qw(e:h.get? b=Y o)(n:H b=M):(IB h H).get? b=Y o:=
 PySem.W.hideAll_get _ e λa=>by
  let q:=(vA.mp a).2
  simp_all
def T7(e:(IB h H).get? b=Y o):h.get? b=Y o/\H b=none:=by
 let a:=PySem.W.of_hideAll _ e;refine(a,?_);rcases q:H b with _|x
 .rfl
 simp_all [trk,aO,IB,PySem.W.hideAll_none]
structure Mod(K:aS)(mg:aM->↑au)(base:cG):Prop where
 YQ:K.In base
 glob:base.Ns aW mg
 blt:∃mb,base.Ns builtinsNs mb/\∀x:aM,x ≠ "__name__" ->mb x=fG x
 nolimit:base.NoLimit
structure Cx where
 prog:bj
 w:cQ
 K:aS
 mg:aM->↑au
 base:cG
 A:fJ
 N:!aM
 s₀:az
 H₀:Hp
 env:Env
 outer:!Env
 stack:!Env
 ex:!aD
 fn:aM->Bool
 calm:Bool
 pn:!(aD×Obj)
 xe:au->az->Prop
noncomputable def yv(l:!Env):!aD:=l.filterMap (·.frame)
abbrev Cx.fs(X:Cx):!aD:=yv X.outer
def WV(a:Scope)(x:aM):Prop:=a.names.lookup x=Y .local\/a.names.lookup x=Y .cell\/a.names.lookup x=Y .free
def Loc(a:Scope)(x:aM):Prop:=a.names.lookup x=Y .local\/a.names.lookup x=Y .cell
def Look(a:Env)(h:cG)(m:aM->↑au)(x:aM)(u:au):Prop:=
 (a.kindOf x=Y .local/\m x=Y u)\/((a.kindOf x=Y .cell\/a.kindOf x=Y .free)/\∃c,a.cells.lookup x=Y c/\h.IsCell c (Y u))
structure Cx.Ok(X:Cx):Prop where
 mod:Mod X.K X.mg X.base
 kind:X.env.scope.kind=.function
 glob:X.env.globals=aW
 blt:X.env.builtins=builtinsNs
 above:X.s₀.heap.objs.size<=X.env.locals
 inj:∀x y c,X.env.cells.lookup x=some c->X.env.cells.lookup y=some c->x=y
 has:∀x,(X.env.kindOf x=some .cell\/X.env.kindOf x=some .free)->∃c,X.env.cells.lookup x=some c
 cab:∀x c,X.fn x=true->X.env.cells.lookup x=some c->X.s₀.heap.objs.size<=c
 hd:X.calm=true->X.A.handled=none
 frames:X.A.frames=some X.stack
 stk:X.stack=X.outer\/(X.stack=X.env::X.outer/\X.env.frame=some X.env.locals)
 exf:∀b∈X.ex,b≠X.env.locals/\∀x c,X.env.cells.lookup x=some c->c≠b
 bs:∀b o,X.base.get? b=some o->X.s₀.heap.get? b=some o/\X.H₀ b=none
 Sf:X.base.objs.size<=X.s₀.heap.objs.size
 MH:∀b o,X.base.get? b=some o->b∉X.ex
 QS:∀b∈X.ex,b∉X.fs
 wo:X.s₀.heap.FunFrames X.base X.outer
 WI:∀b∈X.fs,X.H₀ b=none
structure Inv(X:Cx)(Bu:!(aD×Obj))(σ:!(↑V))(H:Hp)(s:az):Prop where
 ok:X.Ok
 os:s.os=X.s₀.os
 bare:Bx s.gens
 base:Un X.fs X.ex X.H₀ H X.s₀.heap s.heap
 loc:∃m,s.heap.Ns X.env.locals m/\∀(i:Nat) (x:aM) (v:V),X.N[i]?=some x->σ[i]?=some (some v)->WV X.env.scope x->∃u,RelV v u/\Look X.env s.heap m x u
 cell:∀x c,X.env.cells.lookup x=some c->∃v,s.heap.IsCell c v
 free:H X.env.locals=none
 lQ:∀x c,X.env.cells.lookup x=some c->H c=none
 pin:∀p∈X.pn++Bu,s.heap.get? p.1=some p.2/\H p.1=none/\p.1≠X.env.locals/\p.1∉X.fs/\∀v,p.2.data ≠ .cell v
 dS:lT X.prog X.w H s.heap
 len:σ.length=X.N.length
section
variable {X:Cx}{s:az}
def Cx.Ok.ae4(a:X.Ok)(e:X.base.get? b=Y o):b∉X.fs:=λc=>by
 have:=(a.wo.mem c).1
 simp_all
def Inv.bs(I:Inv X B U H s):∀b o,X.base.get? b=Y o->s.heap.get? b=Y o/\H b=none:=λb o e=>
 (I.base.keep b o (I.ok.bs b o e).1 (I.ok.bs b o e).2 (I.ok.ae4 e)<|I.ok.MH b o e,I.base.free b o (I.ok.bs b o e).1 (I.ok.bs b o e).2<|I.ok.MH b o e)
def Inv.bk(I:Inv X B U H s):∀b o,X.base.get? b=Y o->s.heap.get? b=Y o:=λb o e=>(I.bs b o e).1
def Inv.mod(I:Inv X B U H s):Mod X.K X.mg X.base:=I.ok.mod
def Inv.nW(I:Inv X B U H s):X.K.In s.heap:=I.ok.mod.YQ.keeps I.bk
def Inv.lt(I:Inv X B U H s):X.env.locals<s.heap.objs.size:=let(_,a,_):=I.loc;a.lt
def Inv.sz(I:Inv X B U H s):X.s₀.heap.objs.size<=s.heap.objs.size:=bM I.ok.above<|kb I.lt
def Inv.Yy(I:Inv X B U H s)(h:s.heap.objs.size<=a):a∉X.fs:=λc=>by
 let(_,o,b,_):=I.ok.wo.mem c;exact absurd (bp (aO b)<|bM I.sz h) Ż
def Inv.cne(I:Inv X B U H s):∀x c,X.env.cells.lookup x=Y c->c≠X.env.locals:=λx c e z=>by
 let(v,o,f,g):=I.cell x c e;obtain⟨m,⟨o',es,h,a,b,_⟩,_⟩:=I.loc
 simp_all
def Inv.wo(I:Inv X B U H s):s.heap.FunFrames X.base X.outer:=by
 let g:∀(l:!Env),(∀b∈yv l,b∈X.fs)->X.s₀.heap.FunFrames X.base l->s.heap.FunFrames X.base l:=by
  intro l
  induction l with
  |nil=>solve_by_elim|cons w r ih=>
   rintro h ⟨u,⟨L,o,a,p,m,v⟩,k⟩;have f:=h L (by unfold yv;rw[o9,a];exact ay);let(x,e):=I.base.slot L o m (I.ok.WI L f) f λz=>I.ok.QS L z f
   exact(u,(L,_,a,p,e,v),ih (λb c=>h b<|by unfold yv;rw[o9,a];exact ax _ c) k)
 exact g _ (λ_ c=>c) I.ok.wo
def Inv.stack(I:Inv X B U H s):s.heap.FunFrames X.base X.stack:=by
 obtain e|⟨e,b⟩:=I.ok.stk
 .rw[e];exact I.wo
 .rw[e];let(m,a,_):=I.loc;exact .cons (by rw[I.ok.kind];decide) b a (Heap.get?_none_of_le<|bM I.ok.Sf I.ok.above) I.wo
def Inv.sR(I:Inv X B U H s):∀b∈yv X.stack,b∈X.env.locals::X.fs:=λb a=>by
 obtain e|_:=I.ok.stk
 .simp_all
 simp_all [yv,o9]
def Inv.ye(I:Inv X B U H s):∀b∈yv X.stack,H b=none:=λb a=>by
 obtain e|a:=aT.mp<|I.sR b a
 .rw[e];exact I.free
 .let(_,o,c,_):=I.ok.wo.mem a;exact I.base.free b o c (I.ok.WI b a) λz=>I.ok.QS b z a
def Inv.step{g':Array GenState}{t':Nat}{d':Drawn}{ch:!aD}(I:Inv X B U H s)(w:∀b∈ch,(b∈X.ex\/X.s₀.heap.objs.size<=b)/\b≠X.env.locals/\(∀x c,X.env.cells.lookup x=Y c->c≠b)/\∀p∈X.pn++B,p.1≠b)(t:∀b o,b≠X.env.locals->b∉X.fs->b∉ch->s.heap.get? b=Y o->H b=M->h'.get? b=Y o)(E:∀b o,b≠X.env.locals->b∈X.fs->b∉ch->s.heap.get? b=Y o->H b=M->∃sl,h'.get? b=Y { o with slots:=sl })(g:∀b o,b∉ch->s.heap.get? b=Y o->H b=M->H' b=M)(F:∀b o,b∉ch->s.heap.get? b=Y o->∃o',h'.get? b=Y o')(P:∀b xs,H b=Y (.tup xs)->H' b=Y (.tup xs))(T:∀b o u,H b=Y (.KU o u)->H' b=Y (.KU o u))(Q:∀b q,H b=Y (.V2 q)->∃S,H' b=Y (.V2<|q++S))(ns:∀m,s.heap.Ns X.env.locals m->h'.Ns X.env.locals m)(dS:lT X.prog X.w H' h')(hg:Bx g'):
  Inv X B U H' { s with heap:=h',gens:=g',drawn:=d',toks:=t' }:=by
 have R:∀b o,X.s₀.heap.get? b=Y o->b≠X.env.locals:=λb o e=>bI<|bp (aO e) I.ok.above
 have C:∀b o,X.s₀.heap.get? b=Y o->b∉X.ex->b∉ch:=λb o e f K=>by
  rcases(w b K).1 with z|z
  .exact f z
  .exact absurd (bp (aO e) z)<|iF _
 have A:∀x c,X.env.cells.lookup x=Y c->∀v,s.heap.IsCell c v->h'.IsCell c v:=λx c e v (o,j,hd)=>by
  have h:c∉ch:=λz=>(w c z).2.2.1 x c e W
  by_cases hc:c∈X.fs
  .let(sl,a):=E c o (I.cne x c e) hc h j<|I.lQ x c e;exact(_,a,hd)
  .exact(o,t c o (I.cne x c e) hc h j<|I.lQ x c e,hd)
 refine(I.ok,I.os,hg,(λb o e n K f =>?_,λb o e n K f =>?_,λb o e n f =>?_,λb o e f =>?_,λb xs e=>P b xs<|I.base.CP b xs e,λb o xs e=>T b o xs<|I.base.Bk b o xs e,λb q e =>?_),?_,λx c e =>?_,?_,λx c e =>?_,λp hp =>?_,dS,I.len)
 .exact t b o (R b o e) K (C b o e f) (I.base.keep b o e n K f)<|I.base.free b o e n f
 .let(sl,D):=I.base.slot b o e n K f;let(sl',e2):=E b _ (R b o e) K (C b o e f) D<|I.base.free b o e n f;exact(sl',e2)
 .let(o',D):=I.base.there b o e f;exact g b o' (C b o e f) D<|I.base.free b o e n f
 .let(o',D):=I.base.there b o e f;exact F b o' (C b o e f) D
 .let(m1,D):=I.base.CQ b q e;let(m2,e2):=Q b _ D;exact(m1++m2,by rw[e2,Array.append_assoc])
 .let(m,hn,hl):=I.loc;refine(m,ns m hn,λi x v D e2 e3 =>?_);let(u,r,l):=hl i x v D e2 e3;refine(u,r,?_);obtain l|⟨k,c,e,z⟩:=l
  .exact .inl l
  .exact .inr (k,c,e,A x c e _ z)
 .let(v,z):=I.cell x c e;exact(v,A x c e v z)
 .obtain⟨m,⟨o,_,_,j,_⟩,_⟩:=I.loc;exact g _ o (λz=>(w _ z).2.1 W) j I.free
 .let(v,o,j,hd):=I.cell x c e;exact g c o (λz=>(w c z).2.2.1 x c e W) j<|I.lQ x c e
 .let(e,n,ne,nf,d):=I.pin p hp;have h:p.1∉ch:=λz=>(w p.1 z).2.2.2 p hp W
  exact(t p.1 p.2 ne nf h e n,g p.1 p.2 h e n,ne,nf,d)
def Inv.un{t':Nat}(I:Inv X B U H s)(u:Un X.fs [] H H' s.heap h')(c:lT X.prog X.w H' h'):Inv X B U H' { s with heap:=h',toks:=t' }:=by
 obtain⟨m,⟨o,es,x,k,r⟩,_⟩:=id I.loc;let(v,t):=u.any k I.free ż;exact I.step (ch:=[]) (λd z=>nomatch z) (λb o d f d e n=>u.keep b o e n f Ÿ) (λb o d f d e n=>u.slot b o e n f Ÿ) (λb o d e n=>u.free b o e n Ÿ) (λb o d e=>u.there b o e Ÿ) u.CP u.Bk u.CQ (λw p=>by let(o',g,h,a,l):=p;rw[k]at a;cases a;exact(_,g,h,t,l)) c I.bare
def Inv.call{g':Array GenState}{t':Nat}{d':Drawn}{ch:!aD}(I:Inv X B U H s)(u:Un (yv X.stack) ch H H' s.heap h')(h:lT X.prog X.w H' h')(C:Bx g')(g:∀b∈ch,(b∈X.ex\/X.s₀.heap.objs.size<=b)/\b≠X.env.locals/\(∀x c,X.env.cells.lookup x=Y c->c≠b)/\∀p∈X.pn++B,p.1≠b):
  Inv X B U H' { s with heap:=h',gens:=g',drawn:=d',toks:=t' }:=by
 obtain⟨m,⟨o,es,K,v,r⟩,_⟩:=id I.loc;let(E,k):=u.any v I.free λz=>(g _ z).2.1 W
 exact I.step g (λb o k D a e n=>u.keep b o e n (λz=>(aT.mp<|I.sR b z).elim k D) a) (λb o d d a e n=>u.any e n a) (λb o a e n=>u.free b o e n a) (λb o a e=>u.there b o e a) u.CP u.Bk u.CQ (λF A=>by let(o',l,t,f,w):=A;rw[v]at f;cases f;exact(_,l,t,k,w)) h C
def Inv.turned{t':Nat}(I:Inv X B U H s)(k:∀b o,b≠g->s.heap.get? b=Y o->h'.get? b=Y o)(A:H g=M)(t:g≠X.env.locals)(J:g∈X.ex\/X.s₀.heap.objs.size<=g)(z:∀x c,X.env.cells.lookup x=Y c->c≠g)(E:∀p∈X.pn++B,p.1≠g):Inv X B U H { s with heap:=h',toks:=t' }:=by
 refine I.step (ch:=[g]) (λb D =>?_) (λb o d d h e d=>k b o (λf=>h<|by simp[f]) e) (λb o d d h e d=>(o.slots,Ż)) (λd d d d n=>n)
  (λb o h e=>(o,Ż)) (λd d e=>e) (λd d d e=>e) (λb q e=>(#[],by rw[e];solve_by_elim)) (λm C =>?_) (λb u e =>?_) I.bare
 .let e:=by simpa using D
  subst e;exact(J,t,z,E)
 .let(o,es,F,w,r):=C;exact(o,es,F,k _ o (bz t) w,r)
 .refine(I.dS b u e).uk (λc v h a=>k c v ?_ a) (λd a=>a) λd d a=>a
  lia
def Inv.tok(I:Inv X B U H s)(t:Nat):Inv X B U H { s with toks:=t }:=I.un Un.refl I.dS
def Inv.kept{t':Nat}(I:Inv X B U H s)(k:∀b u,s.heap.get? b=Y u->h'.get? b=Y u):Inv X B U H { s with heap:=h',toks:=t' }:=I.un (Un.kept k)<|I.dS.kept k
def Inv.laid{a:aD}{o:HO}{t':Nat}(I:Inv X B U H s)(k:∀b u,s.heap.get? b=Y u->h'.get? b=Y u)(e:s.heap.objs.size<=a)(c:hR X.prog X.w (cO H a o) h' a o):
  Inv X B U (cO H a o) { s with heap:=h',toks:=t' }:=I.un (Un.laid k e<|I.dS.fresh e)<|I.dS.laid k e c
def Inv.write{x e:aD}{h:Nat}(I:Inv X B U H s)(f:Mut<|H x)(g:e=x\/H e=Y (.Z x))(k:∀b u,b≠e->s.heap.get? b=Y u->h'.get? b=Y u)(a:∃u,h'.get? e=Y u)(c:hR X.prog X.w (cO H x o) h' x o):Inv X B U (cO H x o) { s with heap:=h',toks:=h }:=I.un (Un.write f g k a)<|I.dS.write f g k a c
def Inv.weak(I:Inv X B U H s)(e:a.length=U.length)(w:∀(i:Nat) v,a[i]?=Y (Y v)->U[i]?=Y (Y v)):Inv X B a H s:=
 (I.ok,I.os,I.bare,I.base,let(m,c,b):=I.loc;(m,c,λi x v h g f=>b i x v h (w i v g) f),I.cell,I.free,I.lQ,I.pin,I.dS,e.trans I.len)
def Inv.yk(I:Inv X B U H s)(h:∀p∈a,s.heap.get? p.1=Y p.2/\H p.1=M/\p.1≠X.env.locals/\p.1∉X.fs/\∀v,p.2.data ≠ .cell v):Inv X a U H s:=
 (I.ok,I.os,I.bare,I.base,I.loc,I.cell,I.free,I.lQ,λp b=>(aX.mp b).elim (λz=>I.pin p<|br _ z)<|h p,I.dS,I.len)
def zt{N:!aM}(c:N.Nodup){j:Nat}(a:N[i]?=Y x)(b:N[j]?=Y x):i=j:=by
 let(J,f):=aq.mp a;let(z,e):=aq.mp b;exact(List.getElem_inj c).mp<|f.trans e.symm
def BF{G:Model}{A:fJ}{i:Nat}{v:V}(I:Inv X B U H s)(hN:X.N.Nodup)(L:X.N[i]?=Y x)(w:Loc X.env.scope x)(r:RelV v u)(h:∀s',Inv X B (U.set i<|Y v) H s'->(∃a,eE a s.heap s'.heap/\(a=X.env.locals\/X.env.cells.lookup x=Y a))->Q () s')(hf:autoParam (X.fn x=Z'\/X.env.scope.names.lookup x=Y .local) ŧ):bx G A (storeName X.env x u) Q E s:=by
 let(m,hn,hl):=id I.loc;let afF:(X.env.scope.kind == .class||(X.env.scope.kind == .module&&X.env.locals != X.env.globals))=false:=by rw[I.ok.kind];exact Ÿ
 have K:i<U.length:=by rw[I.len];exact(aq.mp L).1
 let T:=I.cne;have g:∀ {a:aD}{h':cG},(∃o,s.heap.get? a=Y o/\H a=M)->eE a s.heap h'->lT X.prog X.w H h':=fun {a h'} ha f b ob e=>by
  let(_,_,C):=ha;refine(I.dS b ob e).uk (λc w' t q=>(f.2 c ?_).trans q) (λJ q=>q) λJ J q=>q
  rintro rfl;obtain rfl|t:=t<;>lia
 obtain F|F:=w
 .refine wpAny_storeName_local F hn (λh' hn' f =>?_) afF;refine ah λkk =>?_
  let(oL,_,_,hoL,_):=id hn;refine kk<|h _ (I.ok,I.os,I.bare,(λb o e n S w =>?_,λb o e n S w =>?_,I.base.free,λb o e w =>?_,I.base.CP,I.base.Bk,I.base.CQ),(_,hn',λj y v' l D e3 =>?_),λy c e =>?_,I.free,I.lQ,λp hp =>?_,g (oL,hoL,I.free) f,by simpa using I.len) (_,f,.inl W)
  .exact(f.2 b<|bI<|bp (aO e) I.ok.above).trans<|I.base.keep b o e n S w
  .let(sl,l):=I.base.slot b o e n S w;exact(sl,(f.2 b<|bI<|bp (aO e) I.ok.above).trans l)
  .let(o',l):=I.base.there b o e w;exact(o',(f.2 b<|bI<|bp (aO e) I.ok.above).trans l)
  .by_cases P:j=i
   .subst P;rw[L]at l;cases l;rw[bG K]at D;cases D;exact(u,r,.inl (F,ż))
   .rw[aw<|bz P]at D;let(u',r',q):=hl j y v' l D e3;refine(u',r',?_);obtain⟨k,e⟩|⟨k,c,e,z⟩:=q
    .refine .inl (k,?_);have:y≠x:=λe=>P (zt hN l<|e ▸ L)
     simp[this,e]
    .exact .inr (k,c,e,z.sameBut f<|T y c e)
  .let(w',z):=I.cell y c e;exact(w',z.sameBut f<|T y c e)
  .let(e,n,ne,nf,d):=I.pin p hp;exact((f.2 p.1 ne).trans e,n,ne,nf,d)
 .have R:X.fn x=true:=by
   obtain z|z:=hf
   .exact z
   .rw[z]at F;cases F
  let(c,t):=I.ok.has x<|.inl F;let(w',z):=I.cell x c t;refine wpAny_storeName_cell I.ok.kind F t z<|λh' hc' f =>?_;let(oc,hoc,afu):=id z;refine h { s with heap:=h' } (I.ok,I.os,I.bare,(λb o e n S w =>?_,λb o e n S w =>?_,I.base.free,λb o e w =>?_,I.base.CP,I.base.Bk,I.base.CQ),(m,hn.sameBut f<|bz<|T x c t,λj y v' l D e3 =>?_),λy c' e =>?_,I.free,I.lQ,λp hp =>?_,g (oc,hoc,I.lQ x c t) f,by simpa using I.len) (c,f,.inr t)
  .exact(f.2 b<|bI<|bp (aO e)<|I.ok.cab x c R t).trans<|I.base.keep b o e n S w
  .let(sl,l):=I.base.slot b o e n S w;exact(sl,(f.2 b<|bI<|bp (aO e)<|I.ok.cab x c R t).trans l)
  .let(o',l):=I.base.there b o e w;exact(o',(f.2 b<|bI<|bp (aO e)<|I.ok.cab x c R t).trans l)
  .by_cases P:j=i
   .subst P;rw[L]at l;cases l;rw[bG K]at D;cases D;exact(u,r,.inr (.inl F,c,t,hc'))
   .rw[aw<|bz P]at D;let(u',r',q):=hl j y v' l D e3;refine(u',r',?_);obtain q|⟨k,c',e,z'⟩:=q
    .exact .inl q
    .refine .inr (k,c',e,z'.sameBut f ?_);rintro rfl;exact P<|zt hN l<|I.ok.inj _ _ _ e t ▸ L
  .by_cases hcc:c'=c
   .subst hcc;exact(_,hc')
   .let(w2,z2):=I.cell y c' e;exact(w2,z2.sameBut f hcc)
  .let(e,n,ne,nf,d):=I.pin p hp;refine((f.2 p.1 ?_).trans e,n,ne,nf,d);intro q;rw[q,hoc]at e;exact d w' (by rw[<- (cu e)];exact afu)
def uj{d:Model}{v:V}(I:Inv X B U H s)(c:X.N.Nodup)(L:X.N[i]?=Y x)(a:Loc X.env.scope x)(r:RelV v u)(h:∀s',Inv X B (U.set i<|Y v) H s'->Q () s')(b:autoParam (X.fn x=Z'\/X.env.scope.names.lookup x=Y .local) ŧ):bx d A (storeName X.env x u) Q E s:=
 BF I c L a r (λs' e f=>h s' e) b
def Inv.xk{s':az}{g:!aD}(I:Inv X B U H s)(k:s'.os=s.os)(u:Un (yv X.stack) g H H' s.heap s'.heap)(a:lT X.prog X.w H' s'.heap)(l:Bx s'.gens)(f:∀b∈g,(b∈X.ex\/X.s₀.heap.objs.size<=b)/\b≠X.env.locals/\(∀x c,X.env.cells.lookup x=Y c->c≠b)/\∀p∈X.pn++B,p.1≠b):Inv X B U H' s':=by
 let(h',m,o,h,o'):=s';subst k;exact I.call u a l f
end
abbrev XK:=au->↑aD->Hp->Prop
abbrev St:=!(↑V)
abbrev VK:=V->Hp->Prop
abbrev TE:=St->Hp->VK->Prop
abbrev TT:=St->Hp->(Bool->Hp->Prop)->Prop
abbrev TA:=St->Hp->(!V->Hp->Prop)->Prop
structure Ends where
 nx:St->Hp->Prop
 rt:VK
 bk:St->Hp->Prop:=λ_ _=>False
 ct:St->Hp->Prop:=λ_ _=>False
abbrev TS:=Ends->St->Hp->Prop
inductive EP (X:Cx) (B:!(aD×Obj)) (U:St) (Q:VK) (u:au) (s':az):Prop
 |mk v H':Inv X B U H' s'->RelV v u->Q v H'->EP X B U Q u s'
inductive TP (X:Cx) (B:!(aD×Obj)) (U:St) (Q:Bool->Hp->Prop) (b:Bool) (s':az):Prop
 |mk H':Inv X B U H' s'->Q b H'->TP X B U Q b s'
inductive AP (X:Cx) (B:!(aD×Obj)) (U:St) (Q:!V->Hp->Prop) (b:!au) (s':az):Prop
 |mk a H':Inv X B U H' s'->cx a b->Q a H'->AP X B U Q b s'
def SP(X:Cx)(B:!(aD×Obj))(D:Ends)(f:Flow)(s':az):Prop:=
 match f with
 |.next=>∃a H',Inv X B a H' s'/\D.nx a H'|.brk=>∃a H',Inv X B a H' s'/\D.bk a H'|.cont=>∃a H',Inv X B a H' s'/\D.ct a H'|.ret u=>∃v a H',Inv X B a H' s'/\RelV v u/\D.rt v H'
def PE(X:Cx)(e:Expr)(t:TE):Prop:=
 ∀(B:!(aD×Obj)) (s:az) (U:St) (H:Hp) (Q:VK),Inv X B U H s->t U H Q->bx (aZ X.prog X.w) X.A (eval e X.env) (EP X B U Q) X.xe s
def PT(X:Cx)(e:Expr)(t:TT):Prop:=
 ∀(B:!(aD×Obj)) (s:az) (U:St) (H:Hp) (Q:Bool->Hp->Prop),Inv X B U H s->t U H Q->bx (aZ X.prog X.w) X.A (isTrue e X.env<|eval e X.env) (TP X B U Q) X.xe s
def PW(X:Cx)(e:Expr)(t:TT):Prop:=
 ∀(a:Sem au) (B:!(aD×Obj)) (s:az) (U:St) (H:Hp) (Q:Bool->Hp->Prop),Inv X B U H s->t U H Q->bx (aZ X.prog X.w) X.A (isTrue e X.env a) (TP X B U Q) X.xe s
def PW.pt{X:Cx}(h:PW X e t):PT X e t:=h _
def PA(X:Cx)(es:!Expr)(t:TA):Prop:=
 ∀(G:Pos) (B:!(aD×Obj)) (s:az) (U:St) (H:Hp) (Q:!V->Hp->Prop),Inv X B U H s->t U H Q->bx (aZ X.prog X.w) X.A (spliced<|b9 G<|ak es X.env) (AP X B U Q) X.xe s
def PS(X:Cx)(st:cS)(t:TS):Prop:=
 ∀(B:!(aD×Obj)) (s:az) (U:St) (H:Hp) (D:Ends),Inv X B U H s->t D U H->bx (aZ X.prog X.w) X.A (exec st X.env) (SP X B D) X.xe s
def mh(X:Cx)(st:!cS)(t:TS):Prop:=
 ∀(B:!(aD×Obj)) (s:az) (U:St) (H:Hp) (D:Ends),Inv X B U H s->t D U H->bx (aZ X.prog X.w) X.A (execs st X.env) (SP X B D) X.xe s
def eG{b:Model}{s:az}(h:bx b A t Q E s)(e:∀a s,Q a s->c a s):bx b A t c E s:=dE h e λd d x=>x
section
variable {X:Cx}
def eS(i:Nat):TE:=λU H Q=>∃v,U[i]?=Y (Y v)/\Q v H
def tC(v:V):TE:=λ_ H Q=>Q v H
def Ye(A:X.N[i]?=Y x)(o:WV X.env.scope x)(f:‹(x==("__debug__" : aM))=false›)(g:‹(x==("__classdict__" : aM))=false›):PE X (.Name x G)<|eS i:=by
 rintro B s U H Q I ⟨v,e,h⟩;let(m,p,w):=I.loc;let(u,r,l):=w i x v A e o;let ku:EP X B U Q u s:=(v,H,I,r,h);obtain⟨b,t⟩|⟨b,c,k,a⟩:=l
 .exact wpAny_Name (wpAny_loadName_local I.ok.kind b p t ku) f
 .obtain b|b:=b
  .exact wpAny_Name (wpAny_loadName_cell I.ok.kind b k a ku) f
  .exact wpAny_Name (wpAny_loadName_free I.ok.kind b k a ku g) f
def Pk{i j G}:PE X (.Constant (.int i) j G)<|tC<|.int i:=λa a a H a I h=>wpAny_Constant_int (.int i,H,I.tok _,(_,W),h)
def abz{b j G}:PE X (.Constant (.bool b) j G)<|tC<|.bl b:=λa a a H a I h=>Constant_bool (.bl b,H,I,W,h)
def Dm{j G}:PE X (.Constant .none j G)<|tC .cT:=λa a a H a I h=>Constant_none (.cT,H,I,W,h)
def pq{x j G}:PE X (.Constant (.str x) j G)<|tC<|.str x:=λa a a H a I h=>Calls.Constant_str (.str x,H,I.tok _,(_,W),h)
def Gl(X:Cx)(x:aM):Prop:=X.env.kindOf x=Y .globalImplicit
def lW{s:az}(I:Inv X B U H s)(b:Gl X x)(a:X.mg x=Y u)(h:Q u s)(c:‹(x==("__debug__" : aM))=false›):bx (aZ X.prog X.w) X.A (eval (.Name x G) X.env) Q E s:=
 Calls.Name_function_global I.ok.kind b (Calls.loadGlobal_global (by rw[I.ok.glob];exact I.mod.glob.keeps I.bk) a h) c
def pz{s:az}(I:Inv X B U H s)(e:Gl X x)(c:X.mg x=M)(a:fG x=Y u)(h:Q u s)(b:‹x ≠ "__name__"›)(f:‹(x==("__debug__" : aM))=false›):bx (aZ X.prog X.w) X.A (eval (.Name x G) X.env) Q E s:=by
 let(g,J,z):=I.mod.blt;exact Calls.Name_function_global I.ok.kind e (Calls.loadGlobal_builtin (by rw[I.ok.glob];exact I.mod.glob.keeps I.bk) c (by rw[I.ok.blt];exact J.keeps I.bk) Ż h) f
def uH{v:V}(b:Gl X x)(a:X.mg x=Y u)(r:RelV v u)(c:‹(x==("__debug__" : aM))=false›):PE X (.Name x G)<|tC v:=
 λd d d H d I h=>lW I b a (v,H,I,r,h) c
def Kf{v:V}(e:Gl X x)(c:X.mg x=M)(a:fG x=Y u)(r:RelV v u)(b:‹x ≠ "__name__"›)(f:‹(x==("__debug__" : aM))=false›):PE X (.Name x G)<|tC v:=
 λd d d H d I h=>pz I e c a (v,H,I,r,h) b f
def PC(X:Cx)(f:CmpOp)(a b:Expr)(t:TE):Prop:=
 ∀(B:!(aD×Obj)) (s:az) (U:St) (H:Hp) (Q:VK),Inv X B U H s->t U H Q ->
  bx (aZ X.prog X.w) X.A (eval a X.env) (λv e=>bx (aZ X.prog X.w) X.A (eval b X.env) (λu c=>bx (aZ X.prog X.w) X.A (d_ f v u) (EP X B U Q) X.xe c) X.xe e) X.xe s
def PU(b:Expr){a:CmpOp}(h:a ≠ .In)(z:a ≠ .NotIn):fB a b=false:=by
 have e:(a==CmpOp.In)=false:=by cases a<;>first|rfl|exact absurd W h
 let c:(a==CmpOp.NotIn)=false:=by cases a<;>first|rfl|exact absurd W z
 cases b<;>simp[fB,e,c]
def tB(t:TE):TT:=λU H Q=>t U H λx O=>∃c,x=.bl c/\Q c O
def O_(h:PC X e a b t)(J:autoParam (fB e b=false) ŕ):PT X (.Compare a [e] [b] G)<|tB t:=by
 intro B s U H Q I hw;refine wpAny_isTrue_Compare1 (eG (h B s U H _ I hw) λv o J=>eG J λu m z=>eG z ?_) J;rintro c l ⟨x,O,k,f,g⟩;let(d,rfl,q):=g;cases f;exact gI (O,k,q)
def sV(h:PE X e t)(f:autoParam (∀a,isTrue e X.env a=(do let v <- a;jJ e.pos;iy [v]<|truthy v)) ũ):PT X e<|tB t:=by
 intro B s U H Q I hw;refine isTrue_plain (eG (h B s U H _ I hw) ?_)<|f _;rintro v k ⟨x,O,g,b,c⟩;let(d,rfl,q):=c;cases b;exact gI (O,g,q)
variable {AG:!Expr}
def aeC(t u:TT):TT:=λU H Q=>t U H λc O=>if c=Z' then u U O Q else Q Z_ O
def tOr(t u:TT):TT:=λU H Q=>t U H λc O=>if c=Z' then Q Z' O else u U O Q
def aev(t:TT):TT:=λU H Q=>t U H λc O=>Q (not c) O
def J1(b:PT X a tA):PW X (.BoolOp .And [a] G) tA:=by
 intro f B s U H Q I h;refine isTrue_and<|eG (b B s U H Q I h) λc g e =>?_
 grind [isTrue_and_nil]
def O6(b:PT X a tA):PW X (.BoolOp .Or [a] G) tA:=by
 intro f B s U H Q I h;refine isTrue_or<|eG (b B s U H Q I h) λc g e =>?_
 grind [isTrue_or_nil]
def O7(m:PT X a tA)(l:PW X (.BoolOp .And (b::AG) G) tB'):PW X (.BoolOp .And (a::b::AG) G)<|aeC tA tB':=by
 intro g B s U H Q I h;refine isTrue_and<|eG (m B s U H _ I h) ?_;rintro c k ⟨O,f,e⟩;cases c with
 |true=>solve_by_elim|false=>solve_by_elim
def Wf(m:PT X a tA)(l:PW X (.BoolOp .Or (b::AG) G) tB'):PW X (.BoolOp .Or (a::b::AG) G)<|tOr tA tB':=by
 intro g B s U H Q I h;refine isTrue_or<|eG (m B s U H _ I h) ?_;rintro c k ⟨O,f,e⟩;cases c with
 |true=>solve_by_elim|false=>solve_by_elim
def HV(b:PT X a tA):PT X (.UnaryOp .Not a G)<|aev tA:=by
 exact λB s U H Q I h=>isTrue_not<|eG (b B s U H _ I h) (by rintro c k ⟨O,f,e⟩;exact Ÿ)
def aa3(N y:TE):TE:=λU H Q=>N U H λx O=>∃c,x=.bl c/\if c=Z' then y U O Q else Q (.bl Z_) O
def aeu(N y:TE):TE:=λU H Q=>N U H λx O=>∃c,x=.bl c/\if c=Z' then Q (.bl Z') O else y U O Q
def aaW(N:TE):TE:=λU H Q=>N U H λx O=>∃c,x=.bl c/\Q (.bl<|not c) O
def Yf{b}(h:PE X a t):PE X (.BoolOp b [a] G) t:=λB s U H Q I hw=>BoolOp_one<|h B s U H Q I hw
def Yh(m:PE X a N)(l:PE X (.BoolOp .And (b::AG) G) y):PE X (.BoolOp .And (a::b::AG) G)<|aa3 N y:=by
 intro B s U H Q I h;refine BoolOp_and<|eG (m B s U H _ I h) ?_;rintro v g ⟨x,O,f,k,e⟩;let(c,rfl,e):=e;cases k;refine gI ?_;cases c with
 |true=>solve_by_elim|false=>exact(.bl _,O,f,W,e)
def aby(m:PE X a N)(l:PE X (.BoolOp .Or (b::AG) G) y):PE X (.BoolOp .Or (a::b::AG) G)<|aeu N y:=by
 intro B s U H Q I h;refine BoolOp_or<|eG (m B s U H _ I h) ?_;rintro v g ⟨x,O,f,k,e⟩;let(c,rfl,e):=e;cases k;refine gI ?_;cases c with
 |false=>solve_by_elim|true=>exact(.bl _,O,f,W,e)
def Yg(f:PE X a N):PE X (.UnaryOp .Not a G)<|aaW N:=by
 intro B s U H Q I h;refine UnaryOp_<|eG (f B s U H _ I h) ?_;rintro v k ⟨x,O,g,e,b⟩;let(c,rfl,b):=b;cases e;exact not_of<|gI (.bl _,O,g,W,b)
def tIf(t:TT)(N y:TE):TE:=λU H Q=>t U H λc O=>if c=Z' then N U O Q else y U O Q
def Pl(k:PT X c tA)(m:PE X a N)(l:PE X b y):PE X (.IfExp c a b G)<|tIf tA N y:=by
 intro B s U H Q I h;refine wpAny_IfExp<|eG (k B s U H _ I h) ?_;rintro d e ⟨O,g,f⟩;cases d with
 |true=>solve_by_elim|false=>solve_by_elim
end
def lZ(K:aS)(H:Hp)(a:aD)(xs:!V):Prop:=
 Rd H a (.lst xs) \/
  ∃(o:Obj) (b:Array au) (n:Nat),K.lookup a=Y o/\o.cls=.type "list" /\o.dict=M/\o.data=.seq b n/\b.size<=be/\cx xs b.toList
def VB(K:aS)(H:Hp)(a:aD)(xs:!V):Prop:=
 Rd H a (.tup xs) \/
  ∃(o:Obj) (b:Array au) (n:Nat),K.lookup a=Y o/\o.cls=.type "tuple" /\o.data=.seq b n/\b.size<=be/\cx xs b.toList
noncomputable def agc:au->↑V
 |.none=>Y .cT|.bool b=>Y (.bl b)|.int i _=>Y (.int i)|.str x _=>Y (.str x)|.bytes b _=>Y (.Vv b)|.float b _=>Y (.Se b)|.ref a=>Y (.ref a)|.type n=>Y (.ty n)|_=>M
def RelV.abs(r:RelV x u):agc u=Y x:=by
 cases x with
 |cT=>cases r;rfl|bl _=>cases r;rfl|ref _=>cases r;rfl|ty _=>cases r;rfl|_=>let(t,rfl):=r;rfl
def RelV.inj{x:V}(r:RelV x u)(q:RelV y u):x=y:=cu<|r.abs.symm.trans q.abs
def cx.inj{xs ys:!V}{a:!au}(h:cx xs a)(g:cx ys a):xs=ys:=by
 induction h generalizing ys with
 |nil=>cases g;rfl|cons r _ ih=>
  cases g with|cons c b=>rw[r.inj c,ih b]
section
variable {X:Cx}{s:az}
def lZ.of{K:aS}(h:H a=Y (.lst xs)):lZ K H a xs :=.inl<|.inl h
def VB.of{K:aS}(h:H a=Y (.tup xs)):VB K H a xs :=.inl<|.inl h
def Inv.list(I:Inv X B U H s)(h:lZ X.K H a xs):∃b:!au,cx xs b/\PlainL s.heap a b.toArray/\xs.length<=be:=by
 obtain h|⟨o,b,n,f,k,g,c,l,r⟩:=h
 .let(z,b,n,r,e):=h.ok I.dS;exact(b,r,(_,n,e,W,W,W),z)
 .refine(_,r,(o,n,I.nW a o f,k,g,ž),?_);let e:=r.length
  simp_all
def Inv.tuple(I:Inv X B U H s)(h:VB X.K H a xs):∃b:!au,cx xs b/\IsTup s.heap a b.toArray/\xs.length<=be:=by
 obtain h|⟨o,b,n,f,g,c,k,r⟩:=h
 .let(z,b,r,p):=h.ok I.dS;exact(b,r,p,z)
 .refine(_,r,(o,I.nW a o f,g,n,ž),?_);let e:=r.length
  simp_all
def Inv.qT(I:Inv X B U H s)(h:lZ X.K H a xs)(h':lZ X.K H a ys):xs=ys:=by
 obtain⟨c,r,⟨o,n,e,_,_,d⟩,_⟩:=I.list h;obtain⟨b,k,⟨o',m,f,_,_,g⟩,_⟩:=I.list h';have:c=b:=by simp_all
 subst this;exact r.inj k
end
noncomputable abbrev Cx.xq(X:Cx)(E:au->az->Prop):Cx:={ X with xe:=E }
abbrev Cx.Ig(X:Cx):Cx:=X.xq λa a=>False
def Cx.Ok.xq{X:Cx}(a:X.Ok)(E:au->az->Prop):(X.xq E).Ok:=
 (a.mod,a.kind,a.glob,a.blt,a.above,a.inj,a.has,a.cab,a.hd,a.frames,a.stk,a.exf,a.bs,a.Sf,a.MH,a.QS,a.wo,a.WI)
def Cx.Ok.mn{X:Cx}(a:(X.xq E).Ok):X.Ok:=
 (a.mod,a.kind,a.glob,a.blt,a.above,a.inj,a.has,a.cab,a.hd,a.frames,a.stk,a.exf,a.bs,a.Sf,a.MH,a.QS,a.wo,a.WI)
section
variable {X:Cx}{s:az}
def Inv.xq(I:Inv X B U H s)(E:au->az->Prop):Inv (X.xq E) B U H s:=(I.ok.xq E,I.os,I.bare,I.base,I.loc,I.cell,I.free,I.lQ,I.pin,I.dS,I.len)
def Inv.mn(I:Inv (X.xq E) B U H s):Inv X B U H s:=(I.ok.mn,I.os,I.bare,I.base,I.loc,I.cell,I.free,I.lQ,I.pin,I.dS,I.len)
def SP.mn{D:Ends}{f:Flow}(h:SP (X.xq E) B D f s'):SP X B D f s':=by
 cases f with
 |ret u=>let(v,a,H',I,r,q):=h;exact(v,a,H',I.mn,r,q)
 |_=>let(a,H',I,q):=h;exact(a,H',I.mn,q)
def mh.Ig{st:!cS}(h:mh X.Ig st t):mh X st t:=λB s U H D I hw=>
 dE (h B s U H D (I.xq _) hw) (λa a q=>q.mn) λa a z=>dN z
end
section
variable {X:Cx}{st:cS}{AG:!cS}
def aaX:TS:=λD U H=>D.nx U H
def aes(t u:TS):TS:=λD U H=>t { D with nx:=u D } U H
def nB:mh X [] aaX:=λa a U H a I h=>mi (U,H,I,h)
def iA(J:PS X st t)(z:mh X AG u):mh X (st::AG)<|aes t u:=by
 intro B s U H D I h;refine RW<|eG (J B s U H _ I h) λf b q =>?_;cases f with
 |next=>
  let(a,H',c,q):=q
  exact Ÿ
 |_=>exact q
def ji(J:PS X st t):mh X [st] t:=by
 intro B s U H D I h;refine RW<|eG (J B s U H D I h) λf a q =>?_;cases f with
 |next=>exact mi q|_=>exact q
def Inv.quiet{s:az}(I:Inv X B U H s):interactive X.env=false:=by simp[interactive,I.ok.kind]
def V6(te:TE):TS:=λD U H=>te U H λ_ O=>D.nx U O
def lV(c:PE X e te)(b:@&(cm e M G.line X.env=c9 false)):PS X (.Expr e G)<|V6 te:=by
 exact λB s U H D I h=>wpAny_Expr_any (eG (c B s U H _ I h)<|by rintro v g ⟨x,O,f,k,a⟩;exact(U,O,f,a)) I.quiet b
def aet(te:TE):TS:=λD U H=>te U H D.rt
def mE(c:PE X e te):PS X (.Return (Y e) G)<|aet te:=by
 exact λB s U H D I h=>wpAny_Return_some<|eG (c B s U H _ I h) (by rintro v g ⟨x,O,f,a,b⟩;exact(x,U,O,f,a,b))
def aex(c:TT)(t u:TS):TS:=λD U H=>c U H λb O=>if b=Z' then t D U O else u D U O
def uG(k:PT X c tc)(m:mh X a t)(l:mh X b u):PS X (.If c a b G)<|aex tc t u:=by
 intro B s U H D I h;refine wpAny_If<|eG (k B s U H _ I h) ?_;rintro d e ⟨O,g,f⟩;cases d with
 |true=>solve_by_elim|false=>solve_by_elim
def OB:TS:=λa a a=>False
def uF:PS X st OB:=λa a a a a a h=>h.elim
def Mq:mh X a OB:=λb b b b b b h=>h.elim
end
abbrev TG:=V->St->Hp->(St->Hp->Prop)->Prop
abbrev TGs:=!V->St->Hp->(St->Hp->Prop)->Prop
def PG(X:Cx)(a:Expr)(t:TG):Prop:=
 ∀(B:!(aD×Obj)) (s:az) (U:St) (H:Hp) (v:V) (u:au) (Q:St->Hp->Prop),Inv X B U H s->RelV v u->t v U H Q ->
  bx (aZ X.prog X.w) X.A (assign a X.env u) (λ_ s'=>∃b H',Inv X B b H' s'/\Q b H') X.xe s
def PGs(X:Cx)(e:!Expr)(t:TGs):Prop:=
 ∀(B:!(aD×Obj)) (s:az) (U:St) (H:Hp) (b:!V) (c:!au) (Q:St->Hp->Prop),Inv X B U H s->cx b c->t b U H Q ->
  bx (aZ X.prog X.w) X.A (assignInOrder ((AL e X.env).map (·.2)) c) (λ_ s'=>∃a H',Inv X B a H' s'/\Q a H') X.xe s
abbrev ac0:=V->V->V->Hp->(Hp->Prop)->Prop
def ac4(X:Cx)(t:ac0):Prop:=
 ∀(B:!(aD×Obj)) (s:az) (U:St) (H:Hp) (o i v:V) (a b u:au) (Q:Hp->Prop),Inv X B U H s->RelV o a->RelV i b->RelV v u->t o i v H Q ->
  bx (aZ X.prog X.w) X.A (setItem a b u) (λ_ s'=>∃H',Inv X B U H' s'/\Q H') X.xe s
abbrev TIp:=V->V->Hp->VK->Prop
def PIp(X:Cx)(a:Operator)(t:TIp):Prop:=
 ∀(B:!(aD×Obj)) (s:az) (U:St) (H:Hp) (x y:V) (v u:au) (Q:VK),Inv X B U H s->RelV x v->RelV y u->t x y H Q ->
  bx (aZ X.prog X.w) X.A (inplaceOp a v u) (EP X B U Q) X.xe s
section
variable {X:Cx}
def g_(i:Nat):TG:=λv U H Q=>Q (U.set i<|Y v) H
def gR{i:Nat}(c:X.N.Nodup)(L:X.N[i]?=Y x)(a:Loc X.env.scope x)(b:autoParam (X.fn x=Z'\/X.env.scope.names.lookup x=Y .local) ŧ):PG X (.Name x G)<|g_ i:=by
 exact λB s U H v u Q I r h=>wpAny_assign_Name<|uj I c L a r (λs' e=>(_,H,e,h)) b
def DY:TGs:=λa U H Q=>a=[]/\Q U H
def jP(t:TG)(u:TGs):TGs:=λb U H Q=>∃v r,b=v::r/\t v U H λa H'=>u r a H' Q
def Kb:PGs X [] DY:=by
 rintro B s U H a b Q I r ⟨e,h⟩;exact assignInOrder_nil (U,H,I,h)
def qO(J:PG X e t)(z:PGs X es u)(g:@&((AL (e::es) X.env).map (·.2)=assign e X.env::(AL es X.env).map (·.2))):PGs X (e::es)<|jP t u:=by
 rintro B s U H m p Q I r ⟨v,o,k,h⟩;subst k;cases r with
 |cons r c=>
  rw[g];refine assignInOrder_cons<|eG (J B s U H _ _ _ I r h) ?_;rintro _ b ⟨a,O,l,f⟩
  exact Ÿ
def DW(K:aS)(n:Nat)(t:TGs):TG:=λv U H Q=>∃a xs,v=.ref a/\VB K H a xs/\xs.length=n/\t xs U H Q
def Pd(A:X.calm=Z')(h:PGs X es t)(w:@&((AL es X.env).length=n))(c:@&((AL es X.env).findIdx? (·.1)=none)):PG X (.Tuple es k G)<|DW X.K n t:=by
 refine λB s U H v u Q I r xx=>ah λkk =>?_
 let(a,xs,C,p,x,hw):=xx;subst C;cases r;let(g,f,m,E):=I.tuple p;refine kk<|assign_Tuple_tuple (I.ok.hd A) m (by simp[w,<- x,f.length]) c λh' l =>?_;let D:=I.kept (t':=s.toks) λb o e=>l b o (bI<|aO e) e
 exact Ÿ
def acm(to a:TE)(t:ac0):TG:=λv U H Q=>to U H λo O=>a U O λi d=>t o i v d λb=>Q U b
def Yd(A:PE X o to)(L:PE X i c)(w:ac4 X t) (C:autoParam (∀v,assign (.Subscript o i G) X.env v=(do
   let a <- iy [v] (eval o X.env);let b <- iy [v,a] (eval i X.env)
   jJ G
   iy [v,a,b] (setItem a b v)
   release [v,a,b] [])) ũ):PG X (.Subscript o i G)<|acm to c t:=by
 intro B s U H v u Q I r h;rw[C];refine ai<|fx<|eG (A B s U H _ I h) ?_;rintro a f ⟨x,O,F,k,p⟩;refine ai<|fx<|eG (L B f U O _ F p) ?_;rintro b e ⟨y,d,E,g,m⟩;refine ai<|l6<|ai<|fx<|eG (w B e U d x y v a b u _ E k g r m) ?_;rintro _ j ⟨K,D,l⟩;exact wpAny_release (U,K,D,l)
def XB(te:TE)(g:TG):TS:=λD U H=>te U H λx O=>g x U O D.nx
def X9(l:PE X e te)(k:PG X tg g)(f:@&(swapsWithSole [tg] e G.line X.env=c9 false))(hw:@&(swappedStores [tg] e X.env=c9 none))(J:@&((AL [tg] X.env).map (·.2)=[assign tg X.env])):PS X (.Assign [tg] e G)<|XB te g:=by
 intro B s U H D I h;refine wpAny_Assign_stores (eG (l B s U H _ I h) ?_) f hw;rintro v a ⟨x,O,m,b,c⟩;rw[J]
 exact Ÿ
def jZ{i:Nat}(l:X.N.Nodup)(L:X.N[i]?=Y x)(c:Loc X.env.scope x)(k:PE X e te)(f:@&(cm e (Y<|.Name x VF) G.line X.env=c9 false))(g:autoParam (X.fn x=Z'\/X.env.scope.names.lookup x=Y .local) ŧ):
  PS X (.Assign [.Name x VF] e G) (XB te<|g_ i):=by
 intro B s U H D I h;refine wpAny_Assign_Name (eG (k B s U H _ I h) ?_) f;rintro v r ⟨y,O,o,a,b⟩;exact uj o l L c a (λp m=>(_,O,m,b)) g
def aeB(i:Nat)(te:TE)(a:TIp):TS:=λD U H=>∃x,U[i]?=Y (Y x)/\te U H λy O=>a x y O λz d=>D.nx (U.set i<|Y z) d
def X8{ti:TIp}(hN:X.N.Nodup)(L:X.N[i]?=Y x)(t:Loc X.env.scope x)(he:PE X e te)(P:PIp X p ti)(T:autoParam (X.fn x=Z'\/X.env.scope.names.lookup x=Y .local) ŧ):
  PS X (.AugAssign (.Name x VF) p e G) (aeB i te ti):=by
 rintro B s U H D I ⟨v,e1,h⟩;let(m,Q,S):=I.loc;let o:WV X.env.scope x:=by obtain k|k:=t;exact .inl k;exact .inr<|.inl k
 let(u,r,l):=S i x v L e1 o;refine wpAny_AugAssign_Name ?_;have A:bx (aZ X.prog X.w) X.A (eval e X.env) (λw g=>bx (aZ X.prog X.w) X.A (inplaceOp p u w) (λr f=>bx (aZ X.prog X.w) X.A (storeName X.env x r) (λ_=>SP X B D .next) X.xe f) X.xe g) X.xe s:=by refine eG (he B s U H _ I h) ?_;rintro w C ⟨y,O,I1,F,j⟩;refine eG (P B C U O v y u w _ I1 r F j) ?_;rintro z s2 ⟨zv,d,I2,E,K⟩;exact uj I2 hN L t E (λs3 I3=>(_,d,I3,K)) T
 obtain⟨a,R⟩|⟨a,c,hc,b⟩:=l
 .exact wpAny_loadName_local I.ok.kind a Q R A
 .obtain a|a:=a
  .exact wpAny_loadName_cell I.ok.kind a hc b A
  .obtain k|k:=t
   .have:X.env.scope.names.lookup x=Y .free:=a
    simp_all
   .have:X.env.scope.names.lookup x=Y .free:=a
    simp_all
def Xq(c:TT)(y:TS):TS:=λD U H=>∃Da:Nat->St->Hp->Prop,(∃m,Da m U H)/\∀m U H,Da m U H ->
 c U H λb O=>if b=Z' then ∃N:St->Hp->Prop,(∀a H',N a H'->∃e,e<m/\Da e a H')/\y { D with nx:=N,ct:=N,bk:=D.nx } U O else D.nx U O
def O'(x:pT (aZ X.prog X.w) X.A X.env X.xe)(Q:PT X c tc)(R:mh X g y):PS X (.While c g [] G)<|Xq tc y:=by
 rintro B s U H D I ⟨Da,⟨P,F⟩,ka⟩;refine wpAny_While<|codeAny_whileLoop (λn s'=>∃k H',Inv X B k H' s'/\Da n k H') ?_ P (U,H,I,F);rintro n h ⟨e,O,S,E⟩;refine dG x<|eG (Q B h e O _ S<|ka n e O E) ?_;rintro b K ⟨d,C,o⟩;cases b with
 |true=>
  let(N,A,o):=o;refine dG x<|eG (R B K e d _ C o) λf T m =>?_;cases f with
  |brk=>exact m|ret v=>exact m|_=>
   refine ah λkk =>?_
   let(a,l,w,r):=m;let(t,u,p):=A a l r;exact kk<|(t,u,a,l,w,p)
 |false=>exact mi (e,d,C,o)
end
structure It where
 go:Nat->Hp->Prop
 Jx:Nat->Hp->V->Hp->Prop
 stop:Nat->Hp->Prop
def AB(X:Cx)(B:!(aD×Obj))(H:Hp)(b:aD):Prop:=
 H b=M/\b≠X.env.locals/\b∉X.fs/\(b∈X.ex\/X.s₀.heap.objs.size<=b)/\(∀x c,X.env.cells.lookup x=Y c->c≠b)/\∀p∈X.pn++B,p.1≠b
def Inv.zY{X:Cx}{s:az}(I:Inv X B U H s)(a:s.heap.objs.size<=b)(g:H' b=M):AB X B H' b:=by
 refine(g,eR<|bp I.lt a,I.Yy a,.inr<|bM I.sz a,λx c e z =>?_,λp f z =>?_)
 .let(v,q):=I.cell x c e;exact absurd (bp q.lt Ż)<|iF _
 .exact absurd (bp (aO (I.pin p f).1) Ż)<|iF _
structure NS(P:bj)(w:cQ)(K:aS)(tg:Expr)(J:It)(fp:!aD)(it:aD)(tn:Nat->cG->Prop):Prop where
 mem:it∈fp
 obj:∀i h,tn i h->∀b∈fp,∃o,h.get? b=some o/\∀v,o.data ≠ .cell v
 keep:∀i h h',tn i h->(∀b∈fp,∀o,h.get? b=some o->h'.get? b=some o)->tn i h'
 item:∀(X:Cx),X.prog=P->X.w=w->X.K=K->X.calm=true->∀(i:Nat) (Bu:!(aD×Obj)) (s:az) (σ:St) (H:Hp) (E:au->az->Prop),Inv X Bu σ H s->(∀b∈fp,AB X Bu H b)->tn i s.heap->J.go i H ->
  bx (aZ P w) X.A (pyNext<|.ref it) (λr s1=>∃u,r=some u /\
   bx (aZ P w) X.A (VL tg (.ref it) u) (λ_ s2=>∃x H',Inv X Bu σ H' s2/\RelV x u/\J.Jx i H x H'/\tn (i+1) s2.heap/\∀b∈fp,H' b=none) E s1) E s
 done:∀(X:Cx),X.prog=P->X.w=w->X.K=K->X.calm=true->∀(i:Nat) (Bu:!(aD×Obj)) (s:az) (σ:St) (H:Hp) (E:au->az->Prop),Inv X Bu σ H s->(∀b∈fp,AB X Bu H b)->tn i s.heap->J.stop i H ->
  bx (aZ P w) X.A (pyNext<|.ref it) (λr s1=>r=none/\Inv X Bu σ H s1) E s
 self:∀(A:fJ) (i:Nat) (s:az) (Q:au->az->Prop) (E:au->az->Prop),tn i s.heap->Q (.ref it) s->bx (aZ P w) A (pyIter<|.ref it) Q E s
abbrev TI:=St->Hp->(It->Hp->Prop)->Prop
def PIE(X:Cx)(B:!(aD×Obj))(U:St)(tg:Expr)(R:It->Hp->Prop)(a:au)(e:az):Prop:=
 ∃(f:aD) (g:!aD) (c:Nat->cG->Prop) (J:It) (H':Hp),a=.ref f/\Inv X B U H' e/\NS X.prog X.w X.K tg J g f c/\c 0 e.heap/\(∀b∈g,AB X B H' b)/\R J H'
def PI(X:Cx)(tg a:Expr)(b:TI):Prop:=
 ∀(B:!(aD×Obj)) (s:az) (U:St) (H:Hp) (R:It->Hp->Prop),Inv X B U H s->b U H R ->
  bx (aZ X.prog X.w) X.A (eval a X.env) (λv c=>bx (aZ X.prog X.w) X.A (pyIter v) (PIE X B U tg R) X.xe c) X.xe s
def WE{d : Model}{s : az}{n : String}(e : s.heap.get? c = Y o)(k : o.cls = .type n)(g : o.data = .fields b)(f : ["enumerate","zip","dict_itemiterator","dict_reverseitemiterator","odict_iterator","itertools.zip_longest","itertools.pairwise"].contains n = Z_)(a : Q () s): bx d A (VL tg (.ref c) u) Q E s := by
  cases tg <;> first
    |exact aJ a
    | (cases u <;> first
        |exact aJ a
        | (refine ai (wpAny_load e ?_)
           rw [k,g]
           show bx d A (if (["enumerate","zip","dict_itemiterator","dict_reverseitemiterator","odict_iterator","itertools.zip_longest","itertools.pairwise"].contains n && b[0]? == Y _) = Z' then _ else _) Q E s
           rw [if_neg<|by lia]
           exact aJ a))
noncomputable def Itl(K:aS)(a:aD):It:=
 (λi H=>∃xs x,lZ K H a xs/\xs[i]?=Y x,λi H x H'=>H'=H/\∀xs,lZ K H a xs->xs[i]?=Y x,λi H=>∃xs,lZ K H a xs/\xs.length<=i)
noncomputable def Itr(n:Int)(a:Nat):It:=(λi b=>i<a,λi H x H'=>H'=H/\x=.int (n+i),λi b=>a<=i)
def L8{P:bj}{K:aS}(a f:aD):NS P w K tg (Itl K a) [f] f (λi h=>h.IsListIter f a i) where
 mem:=by simp
 obj:=λi h st b g=>by
  let e:b=f:=by simpa using g
  subst e;let(o,e,c,d):=st;exact(o,e,λv z=>by rw[d]at z;cases z)
 keep:=λi h h' st k=>st.at λo e=>k f ż o e
 item:=by
  intro X F hw j hc i B s U H E I r st D;subst F hw j;let(xs,x,m,C):=D;let(A,t,p,hz):=I.list m;let(u,hu,ru):=t.get C;let(f0,T,f2,S,R,Q):=r f ż;refine wpAny_pyNext_list_item st p.isList (x:=u) (by simpa using hu) λh' l sb =>?_
  let I1:Inv X B U H { s with heap:=h' }:=I.turned (t':=s.toks) (λb o g e=>(sb.2 b g).trans e) f0 T S R Q;let(o,e,c,d):=id l;exact(u,W,WE (s:={ s with heap:=h' }) e c d ſ (x,H,I1,ru,(W,λys hy=>by rw[I.qT hy m];exact C),l,λb g=>(r b g).1))
 done:=by intro X F hw j hc i B s U H E I r st D;subst F hw j;let(xs,m,C):=D;let(A,t,p,hz):=I.list m;let(f0,T,f2,S,R,Q):=r f ż;let hl:=t.length;exact wpAny_pyNext_list_end (I.ok.hd hc) st p.isList (by simp;lia) λh' eb=>(W,I.turned (t':=s.toks) (λb o g e=>eb b o g e) f0 T S R Q)
 self:=λn n n n n st h=>wpAny_pyIter_listiter st h
def HC{P:bj}{K:aS}(c:aD)(n:Int)(a:Nat):NS P w K tg (Itr n a) [c] c (λi h=>IsRangeIter h c (n+(i:Nat)*1) ((a:Int)-(i:Nat)) 1) where
 mem:=by simp
 obj:=λi h st b f=>by
  let e:b=c:=by simpa using f
  subst e;exact(_,st,λv z=>by let d:fP _=Data.cell v:=z;cases d)
 keep:=λi h h' st k=>k c ż _ st
 item:=by
  intro X r hw u p i B s U H E I l st m;subst r hw u;let(F,D,S,C,A,x):=l c ż;let Da:=Walks.range (prog:=X.prog) (w:=X.w) (I.ok.hd p) c n 1 a;refine Da.item i s _ _ m st λv h' tk R g Q =>?_
  let(t,rfl):=R;let I1:Inv X B U H { s with heap:=h',toks:=tk }:=I.turned (λb o f e=>Q b o (by simpa using f) e) F D C A x;refine(_,W,WE (s:={ s with heap:=h',toks:=tk }) (n:= "range_iterator") g W W ſ (.int<|n+i,H,I1,(t,?_),(W,W),g,λb f=>(l b f).1));rw[Int.mul_one]
 done:=by intro X r hw u p i B s U H E I l st m;subst r hw u;let(F,D,S,C,A,x):=l c ż;exact wpAny_pyNext_range_end (I.ok.hd p) st (by have:a<=i:=m;lia) λh' T=>(W,I.turned (t':=s.toks) (λb o f e=>T b o f e) F D C A x)
 self:=λj j j j j st h=>wpAny_pyIter_rangeiter st h
section
variable {X:Cx}
def ab6(K:aS)(tl:TE):TI:=λU H R=>tl U H λx O=>∃a,x=.ref a/\(∃xs,lZ K O a xs)/\R (Itl K a) O
def Ka(t:PE X l tl):PI X tg l<|ab6 X.K tl:=by
 intro B s U H R I h;refine eG (t B s U H _ I h) ?_;rintro v c ⟨x,O,f,g,k⟩;obtain⟨a,e,⟨xs,r⟩,q⟩:=k;subst e;cases g;let(m,w,p,A):=f.list r;refine kh p.isList ?_;refine(_,_,_,_,O,W,f.kept λb o e=>ao _ e,L8 a _,(_,bo _ W,W,W),λb u =>?_,q);let e:=by simpa using u
 subst e;exact f.zY (aV _)<|f.dS.fresh<|aV _
def FG{s:az}{R:It->Hp->Prop}{v:Tok}(I:Inv X B U H s)(J : -(2 ^ 62)<=n)(z:n<2 ^ 62)(g : -(2 ^ 62)<=L)(f:L<2 ^ 62)(q:R (Itr n (L-n).toNat) H):bx (aZ X.prog X.w) X.A (pyIter<|.ref s.heap.objs.size) (PIE X B U tg R) E { s with heap:=s.heap.push { cls :=.type "range",data :=.fields #[.int n t,.int L u,.int 1 v] },toks:=tk }:=by
 refine wpAny_pyIter_range (IsRange.new ..) (small_one J z g f) ?_;have a:Inv X B U H { s with heap:=s.heap.push { cls :=.type "range",data :=.fields #[.int n t,.int L u,.int 1 v] },toks:=tk }:=I.kept λb o e=>ao _ e
 refine(_,_,_,_,H,W,
  a.kept λb o e=>ao _ e,HC _ n _,?_,λb c =>?_,q)
 .let k:n+(0:Nat)*1=n:=by simp
  let h:((L-n).toNat:Nat)-(0:Nat)=Builtin.Range.rangeSize n L 1:=by grind [rangeSize_one]
  rw[k,h];exact bo _ W
 .let e:b=(s.heap.push { cls :=.type "range",data :=.fields #[.int n t,.int L u,.int 1 v] }).objs.size:=by simpa using c
  subst e;exact a.zY (aV _)<|a.dS.fresh<|aV _
def ab4(N:TA):TI:=λU H R=>N U H λa O=>∃j:Int,a=[.int j] /\ -(2 ^ 62)<=j/\j<2 ^ 62/\R (Itr 0 j.toNat) O
def ab3(N:TA):TI:=λU H R=>N U H λa O=>∃i j:Int,a=[.int i,.int j]/\(-(2 ^ 62)<=i/\i<2 ^ 62 /\ -(2 ^ 62)<=j/\j<2 ^ 62)/\R (Itr i (j-i).toNat) O
def BS(m:Gl X "range")(l:X.mg "range" = M)(o:PA X [a] N)(k:@&(ak [a] X.env=[(Z_,eval a X.env)])):PI X tg (.Call (.Name "range" p) [a] [] G)<|ab4 N:=by
 intro B s U H R I h;refine Call_<|pz I m l boot_range<|gH (eG (o G B s U H _ I h) ?_) k W;rintro w x ⟨v,O,u,f,b⟩;let(j,e,b,g,q):=b;subst e;cases f with
 |cons r c=>cases c;let(t,rfl):=r;exact call_range_1<|FG u ż ż b g Ż
def Mu(x:Gl X "range")(w:X.mg "range" = M)(A:PA X [a,b] N)(v:@&(ak [a,b] X.env=[(Z_,eval a X.env),(Z_,eval b X.env)]))(c:@&(ak [b] X.env=[(Z_,eval b X.env)])):
  PI X tg (.Call (.Name "range" p) [a,b] [] G) (ab3 N):=by
 intro B s U H R I h;refine Call_<|pz I x w boot_range<|gH (eG (A G B s U H _ I h) ?_) (by rw[v,c]) (by rw[c];exact Ÿ);rintro E K ⟨D,O,C,k,g⟩;obtain⟨i,j,e,⟨g,u,o,m⟩,q⟩:=g;subst e;cases k with
 |cons r f=>
  cases f with
  |cons l f=>cases f;let(t,rfl):=r;let(F,rfl):=l;exact call_range_2<|FG C g u o m q
def aey(e:TI)(g:TG)(y:TS):TS:=λD U H=>e U H λJ O=>∃Da:Nat->Nat->St->Hp->Prop,(∃m,Da 0 m U O)/\∀i m U H,Da i m U H ->
 (J.stop i H/\D.nx U H)\/(J.go i H/\∃N:St->Hp->Prop,(∀a H',N a H'->∃c,c<m/\Da (i+1) c a H')/\∀x H',J.Jx i H x H'->g x U H' λb d=>y { D with nx:=N,ct:=N,bk:=D.nx } b d)
noncomputable def sX(a:!aD)(h:cG):!(aD×Obj):=a.filterMap λb=>(h.get? b).map λo=>(b,o)
def jF(c:b∈a)(e:h.get? b=Y o):(b,o)∈sX a h:=List.mem_filterMap.mpr (b,c,by rw[e];rfl)
def BU(c:p∈sX a h):p.1∈a/\h.get? p.1=Y p.2:=by
 let(b,_):=List.mem_filterMap.mp c;rcases q:h.get? b with _|o
 .simp_all
 grind
def Inv.pinned{s:az}(I:Inv X B U H s)(k:∀b∈a,AB X B H b)(h:∀b∈a,∃o,s.heap.get? b=Y o/\∀v,o.data ≠ .cell v):Inv X (B++sX a s.heap) U H s:=
 I.yk λp g=>(aX.mp g).elim (λz=>I.pin p Ż) λz=>by
  let(c,e):=BU z;let(r,m,l,_):=k p.1 c
  grind
def Inv.mo{s:az}(I:Inv X (B++a) U H s):Inv X B U H s:=I.yk λp b=>I.pin p Ż
def X7{j : !cS}(hp : pT (aZ X.prog X.w) X.A X.env X.xe)(hc : X.calm = Z')(L : PI X tg w wi)(hg : PG X tg g)(A : mh X j y)(hs:autoParam (∀x,bW w X.env x = c9 x) Ŕ): PS X (.For tg w j [] G) (aey wi g y) := by
  intro B s U H D I h
  refine wpAny_For (eG (L B s U H _ I h) λv s1 J => eG J λitv s2 z => ?_) hs
  refine ah λkk => ?_
  obtain ⟨it,fp,tn,a,d,e,I2,T,XE,f2,Da,⟨m0,w0⟩,ka⟩ := z
  subst e
  have t : ∀ {H' : Hp},(∀b ∈ fp,H' b = M) -> ∀b ∈ fp,AB X B H' b := λhn b A => (hn b A,(f2 b A).2)
  refine kk<|codeAny_forLoop_any (λn s' => ∃i p H',Inv X B p H' s' /\ tn i s'.heap /\ (∀b ∈ fp,H' b = M) /\ Da i n p H') ?_ m0 (0,U,d,I2,XE,λb A => (f2 b A).1,w0)
  refine λn s3 xx => ah λkk => ?_
  let(i,l,H3,I3,R,fr3,w3):=xx
  refine kk ?_
  obtain⟨stop,qn⟩ | ⟨go,N,hN,Q⟩:=ka i n l H3 w3
  . refine dG hp (eG (T.done X W W W hc i B s3 l H3 X.xe I3 (t fr3) R stop) ?_)
    rintro r s4 ⟨hr,I4⟩
    subst hr
    exact mi (l,H3,I4,qn)
  . refine dG hp (eG (T.item X W W W hc i B s3 l H3 X.xe I3 (t fr3) R go) ?_)
    rintro r s4 ⟨u,hr,h4⟩
    subst hr
    refine dG hp<|eG h4 ?_
    refine λ_ s5 xx => ah λkk => ?_
    let(x,H5,I5,r5,y5,P,fr5):=xx
    refine kk<|dG hp<|eG (hg _ s5 l H5 x u _ (I5.pinned (t fr5)<|T.obj _ _ P) r5<|Q x H5 y5) ?_
    refine λ_ s6 xx => ah λkk => ?_
    let(σ6,H6,I6,q6):=xx
    refine kk<|dG hp<|eG (A _ s6 σ6 H6 _ I6 q6) λf s7 K => ?_
    have C : ∀ {k : St} {F : Hp},Inv X (B ++ sX fp s5.heap) k F s7 -> N k F -> ∃m,m < n /\ ∃i p H',Inv X B p H' s7 /\ tn i s7.heap /\ (∀b ∈ fp,H' b = M) /\ Da i m p H' := fun {k F} E S => by
      let(m',hm,w7):=hN k F S
      refine(m',hm,i + 1,k,F,E.mo,T.keep _ _ _ P λb A o e => (E.pin (b,o)<|aG _<|aG _<|jF A e).1,λb A => ?_,w7)
      let(o,e,c):=T.obj _ _ P b A
      exact (E.pin (b,o)<|aG _<|aG _<|jF A e).2.1
    cases f with
    |brk => let(k,F,E,K):=K; exact(k,F,E.mo,K)
    | ret v => refine ah λkk => ?_
               let(x7,k,F,E,r7,K):=K; exact kk<|(x7,k,F,E.mo,r7,K)
    |_ => let(k,F,E,S):=K; exact C E S
end
def QK{K:aS}{g:TG}{y:TS}{D:Ends}(c:Nat->St->Hp->Prop)(u:c 0 U H)(s:∀i U H,i<=xs.length->c i U H->lZ K H a xs)(r:∀i x U H,xs[i]?=Y x->c i U H->g x U H λf d=>y { D with nx:=c<|i+1,ct:=c<|i+1,bk:=D.nx } f d)(t:∀U H,c xs.length U H->D.nx U H):
  ∃Da:Nat->Nat->St->Hp->Prop,(∃m,Da 0 m U H)/\∀i m U H,Da i m U H ->
   ((Itl K a).stop i H/\D.nx U H)\/((Itl K a).go i H/\∃N:St->Hp->Prop,(∀h H',N h H'->∃l,l<m/\Da (i+1) l h H')/\∀x H',(Itl K a).Jx i H x H'->g x U H' λf d=>y { D with nx:=N,ct:=N,bk:=D.nx } f d):=by
 refine(λi m U H=>m=xs.length-i/\i<=xs.length/\c i U H,(xs.length,ż,dr _,u),?_);rintro i m U H ⟨rfl,L,p⟩;let q:=s i U H L p;by_cases k:i<xs.length
 .refine .inr ((xs,xs[i],q,by simp[k]),c<|i+1,λh H' o=>(xs.length-(i+1),ž,W,k,o),λx H' b =>?_);let(e,b):=b;subst e;exact r i x U _ (b xs q) p
 .let e:i=xs.length:=by lia
  subst e;exact .inl ((xs,q,aV _),t U H p)
abbrev R2:=V->V->Hp->VK->Prop
def m_(X:Cx)(f:au->au->Sem au)(r:R2):Prop:=
 ∀(B:!(aD×Obj)) (s:az) (U:St) (H:Hp) (x y:V) (v u:au) (Q:VK),Inv X B U H s->RelV x v->RelV y u->r x y H Q ->
  bx (aZ X.prog X.w) X.A (f v u) (EP X B U Q) X.xe s
def UnR(X:Cx)(f:au->Sem au)(r:V->Hp->VK->Prop):Prop:=
 ∀(B:!(aD×Obj)) (s:az) (U:St) (H:Hp) (x:V) (v:au) (Q:VK),Inv X B U H s->RelV x v->r x H Q ->
  bx (aZ X.prog X.w) X.A (f v) (EP X B U Q) X.xe s
def kF(X:Cx)(f:au)(r:!V->Hp->VK->Prop):Prop:=
 ∀(B:!(aD×Obj)) (s:az) (U:St) (H:Hp) (xs:!V) (a:!au) (Q:VK),Inv X B U H s->cx xs a->r xs H Q ->
  bx (aZ X.prog X.w) X.A (Jq f a) (EP X B U Q) X.xe s
def age(X:Cx)(r:V->Hp->(Bool->Hp->Prop)->Prop):Prop:=
 ∀(B:!(aD×Obj)) (s:az) (U:St) (H:Hp) (x:V) (v:au) (Q:Bool->Hp->Prop),Inv X B U H s->RelV x v->r x H Q ->
  bx (aZ X.prog X.w) X.A (truthy v) (TP X B U Q) X.xe s
def tOp(r:R2)(N y:TE):TE:=λU H Q=>N U H λx O=>y U O λa d=>r x a d Q
def tUn(r:V->Hp->VK->Prop)(N:TE):TE:=λU H Q=>N U H λx O=>r x O Q
def rI(C:Int->Int->Prop)(g:Int->Int->V):R2:=λx y H Q=>∃i j,x=.int i/\y=.int j/\C i j/\Q (g i j) H
def R'(g:Int->Int->V):R2:=λx y H Q=>∃i j,x=.int i/\y=.int j/\Q (g i j) H
def rU(g:Int->V):V->Hp->VK->Prop:=λx H Q=>∃i,x=.int i/\Q (g i) H
section
variable {X:Cx}
def ZR(A:PE X a N)(w:PE X b y){s:az}{R:V->V->Hp->Prop}(I:Inv X B U H s)(h:N U H λx O=>y U O λc d=>R x c d){f:au->au->Sem au}(t:∀v u k x c d,Inv X B U d k->RelV x v->RelV c u->R x c d->bx (aZ X.prog X.w) X.A (f v u) Q X.xe k):
  bx (aZ X.prog X.w) X.A (eval a X.env) (λv g=>bx (aZ X.prog X.w) X.A (eval b X.env) (λu e=>bx (aZ X.prog X.w) X.A (f v u) Q X.xe e) X.xe g) X.xe s:=by
 refine eG (A B s U H _ I h) ?_;rintro v l ⟨x,O,D,o,r⟩;refine eG (w B l U O _ D r) ?_;rintro u k ⟨c,d,C,m,p⟩;exact t v u k x c d C o m p
def Ph(l:m_ X (dF e) r)(o:PE X a N)(m:PE X b y):PE X (.BinOp a e b G)<|tOp r N y:=by
 exact λB s U H Q I h=>wpAny_BinOp<|ZR o m I h λv u f x c d p k g q=>l B f U d x c v u Q p k g q
def Wg{b:UnaryOp}(g:UnR X (unaryOp b) r)(k:PE X a N):PE X (.UnaryOp b a G)<|tUn r N:=by
 exact λB s U H Q I h=>UnaryOp_<|eG (k B s U H _ I h) (by rintro v c ⟨x,O,l,e,f⟩;exact Ÿ)
def opI{f:au->au->Sem au}{g:Int->Int->Int}(a:∀(i j:Int) (t u:Tok) (s:az) (Q:au->az->Prop) (E:au->az->Prop),C i j->Q (.int (g i j) s.toks) { s with toks:=s.toks+1 }->bx (aZ X.prog X.w) X.A (f (.int i t)<|.int j u) Q E s):
  m_ X f (rI C λi j =>.int<|g i j):=by
 rintro B s U H x y v u Q I e c ⟨i,j,rfl,rfl,k,q⟩;let(t,rfl):=e;let(b,rfl):=c;exact a i j t b s _ _ k (.int _,H,I.tok _,(_,W),q)
def TQ{f:au->au->Sem au}{g:Int->Int->Int}(a:∀(i j:Int) (t u:Tok) (s:az) (Q:au->az->Prop) (E:au->az->Prop),Q (.int (g i j) s.toks) { s with toks:=s.toks+1 }->bx (aZ X.prog X.w) X.A (f (.int i t)<|.int j u) Q E s):
  m_ X f (R' λi j =>.int<|g i j):=by
 rintro B s U H x y v u Q I e c ⟨i,j,rfl,rfl,q⟩;let(t,rfl):=e;let(b,rfl):=c;exact a i j t b s _ _ (.int _,H,I.tok _,(_,W),q)
def Yr{f:au->au->Sem au}{g:Int->Int->Bool}(a:∀(i j:Int) (t u:Tok) (s:az) (Q:au->az->Prop) (E:au->az->Prop),Q (.bool<|g i j) s->bx (aZ X.prog X.w) X.A (f (.int i t)<|.int j u) Q E s):
  m_ X f (R' λi j =>.bl<|g i j):=by
 rintro B s U H x y v u Q I e c ⟨i,j,rfl,rfl,q⟩;let(t,rfl):=e;let(b,rfl):=c;exact a i j t b s _ _ (.bl _,H,I,W,q)
def agv(i j:Int):Prop:=0<j/\j<1073741824
def agu(i j:Int):Prop:=0<=j/\j<=1000000/\i.natAbs<2 ^ 64
def RT(i j:Int):Prop:=(-(2 ^ 64)<i/\i<2 ^ 64)\/(-(2 ^ 64)<j/\j<2 ^ 64)
theorem RT.ok{i:Int}(h:RT i j):IntMulOk i j:=by
 obtain⟨J,z⟩|⟨J,z⟩:=h
 .exact .of_left<|intBits_le_64 J z
 .exact .of_right<|intBits_le_64 J z
def HA(k:Nat):(0:Int)<=2 ^ k:=by
 exact cJ _
def Yq:m_ X (dF .Add)<|R' λi j =>.int<|i+j:=TQ λa a a a a a a q=>add_int q
def Yj:m_ X (dF .Sub)<|R' λi j =>.int<|i-j:=TQ λa a a a a a a q=>sub_int q
def Yn:m_ X (dF .Mult)<|rI RT λi j =>.int<|i*j:=opI λb b b b b b b a q=>mul_int q a.ok
def adA:m_ X (dF .FloorDiv)<|rI agv λi j =>.int<|i/j:=opI λi j b b b b b a q=>by
 let J:(0:Int)<j:=a.1;let z:j<1073741824:=a.2;exact floordiv_int Ž (by rw[qw i<|by omega];exact q)<|.inl<|PyProof.noPylong_small ž
def Yo:m_ X (dF .Mod)<|rI (λb j=>0<j) λi j =>.int<|i%j:=opI λi j b b b b b a q=>by
 exact mod_int' Ž (by rw[Int.fmod_eq_emod_of_nonneg i<|by lia];exact q)
def Yl:m_ X (dF .LShift)<|rI agu λi j =>.int<|i*2 ^ j.toNat:=opI λb b b b b b b a q=>lshift_int_small a.1 a.2.1 a.2.2 q
def Yk:m_ X (dF .RShift)<|rI (λb j=>0<=j) λi j =>.int<|i/2 ^ j.toNat:=opI λi j b b b b b a q=>
 rshift_int a (by rw[qw i<|HA _];exact q)
def Yp:m_ X (dF .BitAnd)<|R' λi j =>.int<|t9 i j:=TQ λa a a a a a a q=>and_int q
def abF:m_ X (dF .BitOr)<|R' λi j =>.int<|fD i j:=TQ λa a a a a a a q=>or_int q
def unI{f:au->Sem au}{g:Int->Int}(a:∀(i:Int) (t:Tok) (s:az) (Q:au->az->Prop) (E:au->az->Prop),Q (.int (g i) s.toks) { s with toks:=s.toks+1 }->bx (aZ X.prog X.w) X.A (f<|.int i t) Q E s):
  UnR X f (rU λi =>.int<|g i):=by
 rintro B s U H x v Q I b ⟨i,rfl,q⟩;let(t,rfl):=b;exact a i t s _ _ (.int _,H,I.tok _,(_,W),q)
def Xf:UnR X (unaryOp .USub)<|rU λi =>.int<|-i:=unI λa a a a a q=>neg_int q
def Xg:UnR X (unaryOp .Invert)<|rU λi =>.int<|ER i:=unI λa a a a a q=>invert_int q
def Zl{s:az}{a:Bool}(I:Inv X B U H s)(q:Q (.bl k) H)(e:k=a):EP X B U Q (.bool a) s:=by
 subst e;exact(.bl k,H,I,W,q)
def abG:m_ X (d_ .Lt)<|R' λi j =>.bl<|decide (i<j):=Yr λa a a a a a a q=>lt_int q
def abH:m_ X (d_ .Gt)<|R' λi j =>.bl<|decide (j<i):=Yr λa a a a a a a q=>gt_int q
def abI:m_ X (d_ .GtE)<|R' λi j =>.bl<|decide (j<=i):=Yr λa a a a a a a q=>ge_int q
def Kg:m_ X (d_ .IsNot)<|λx y H Q=>y=.cT/\Q (.bl<|not<|decide (x=.cT)) H:=by
 intro B s U H x y v u Q I a b h;let(rfl,q):=h;cases b;refine isnot_none_gen<|Zl I q ?_;cases x<;>first
  |(cases a;rfl)
  |(let(t,rfl):=a;rfl)
def m_.or{f:au->au->Sem au}{r c:R2}(h:m_ X f r)(h':m_ X f c):m_ X f<|λx y H Q=>r x y H Q\/c x y H Q:=by
 intro B s U H x y v u Q I b a q;obtain q|q:=q
 .exact Ÿ
 exact Ÿ
def kJ(b:Expr)(h:‹op ≠ .In›)(z:‹op ≠ .NotIn›):fB op b=false:=by
 let c:(op==CmpOp.In)=false:=by simp_all
 let a:(op==CmpOp.NotIn)=false:=by simp_all
 cases b<;>simp[fB,c,a]
def TC(l:m_ X (d_ e) r)(p:PE X a N)(o:PE X b y)(m:fB e b=Z_):PE X (.Compare a [e] [b] G)<|tOp r N y:=by
 exact λB s U H Q I h=>wpAny_Compare1 (ZR p o I h λv u f x c d t k g q=>l B f U d x c v u Q t k g q) m
def aaU(t:TE):TT:=λU H Q=>t U H λx H'=>∃k,x=.bl k/\Q k H'
def Di(D:m_ X (d_ g) r)(K:PE X a N)(F:PE X b y)(E:fB g b=Z_):PT X (.Compare a [g] [b] G)<|aaU<|tOp r N y:=by
 intro B s U H Q I h;refine wpAny_isTrue_Compare1 (eG (K B s U H _ I h) λv m (x,O,R,t,C)=>eG (F B m U O _ R C) λu l (f,d,P,p,A)=>eG (D B l U d x f v u _ P t p A) λc T (z,S,i,o,k,e,w) =>?_) E
 subst e;cases o;exact gI (S,i,w)
def acZ(K:aS)(x:V)(H:Hp)(k:Bool):Prop:=
 match x with
 |.cT=>k=Z_|.bl b=>k=b|.int i=>k=(i != 0)|.str y=>y.length<=be/\k=((y.length:Int) != 0)|.Vv y=>y.size<=be/\k=((y.size:Int) != 0)|.ref p=>(∃xs,lZ K H p xs/\k = (not xs.isEmpty))\/(∃xs,VB K H p xs/\k = (not xs.isEmpty))\/∃a n,H p=Y (.dK a n)/\k = (not a.isEmpty)|_=>False
def Iv{b:Type}{a:!(b×V)}{c:!(b×au)}(r:KV a c):(not c.isEmpty) = (not a.isEmpty):=by
 cases r<;>rfl
def zM{xs:!V}{a:!au}(r:cx xs a):(not a.toArray.isEmpty) = (not xs.isEmpty):=by
 cases r<;>simp
def wa:(be:Nat)<2 ^ 63:=by decide
def Xk:age X (λx H Q=>∃k,acZ X.K x H k/\Q k H):=by
 rintro B s U H x v Q I rx ⟨k,e,q⟩;let hs:=i5;cases x with
 |cT=>cases rx;subst (e);exact truthy_none (H,I,q)|bl b=>cases rx;subst (e);exact gI (H,I,q)|int i=>let(t,rfl):=rx;subst (e);exact PySem.P.truthy_int (H,I,q)
 |str y=>let(t,rfl):=rx;obtain⟨hy,e'⟩:y.length<=be/\k=((y.length:Int) != 0):=e;subst e';exact PySem.P.truthy_str Ž (H,I.tok _,q)
 |Vv y=>let(t,rfl):=rx;obtain⟨hy,e'⟩:y.size<=be/\k=((y.size:Int) != 0):=e;subst e';exact PySem.W.truthy_bytes Ž (H,I.tok _,q)
 |ref p=>
  cases rx;let e':=e;obtain⟨xs,hx,e'⟩|⟨xs,hx,e'⟩|⟨kvs,n,hx,e'⟩:=e'
  .subst e';let(Iu,r,pl,hz):=I.list hx;let VH:=r.length;exact wpAny_truthy_list pl.isList (by simp only[cp];lia) (H,I.tok _,by rw[zM r];exact q)
  .subst e';let(Iu,r,pl,hz):=I.tuple hx;let VH:=r.length;exact truthy_tuple pl (by simp only[cp];lia) (H,I.tok _,by rw[zM r];exact q)
  .subst e';obtain⟨hz,hS,vs,r,m⟩:kvs.length<=be/\(p==je)=Z_/\∃vs,KV kvs vs/\s.heap.DictAt (fg X.prog X.w) p vs n:=I.dS p _ hx;let VH:=Paired.length r;exact wpAny_truthy_dict hS m.dictOf Ž (H,I.tok _,by rw[Iv r];exact q)
 |_=>solve_by_elim
def O9(l:PE X a N)(g:∀b,isTrue a X.env b=(do let v <- b;jJ a.pos;iy [v]<|truthy v)):
  PT X a (λU H Q=>N U H λx H'=>∃k,acZ X.K x H' k/\Q k H'):=by
 exact λB s U H Q I h=>isTrue_plain (eG (l B s U H _ I h)<|by rintro v c ⟨x,O,m,e,f⟩;exact Xk B c U O x v Q m e f)<|g _
def HY:m_ X (dF .Add) (λx y H Q=>∃i j,x=.str i/\y=.str j/\i.length+j.length<=be/\Q (.str<|i++j) H):=by
 rintro B s U H x y v u Q I c b ⟨i,j,rfl,rfl,e,q⟩;let(t,rfl):=c;let(a,rfl):=b;exact add_str (λa tk=>(.str _,H,I.tok _,(_,W),q)) e
def vals1{x:V}{a:!au}(r:cx [x] a):∃u,a=[u]/\RelV x u:=by
 cases r with|cons c b=>cases b;simp_all
end
structure Jl(h:cG)(x dx C:aD)(mA:aM->↑au):Prop where
 obj:h.get? x=some (Hn C dx)
 ns:h.Ns1 dx mA
 ne:dx≠x
def B5{h:cG}{dx:aD}{mA:aM->↑au}(n:h.Ns1 dx mA):∃c,h.get? dx=Y c/\∀name,lookIn name c=Y (mA name):=by
 let(o,es,r,g,m,l,_,k):=n;refine(o,g,λname =>?_);let e:=k name;unfold nsFind findBy at e;rw[<- lB]at e;unfold lookIn;rw[m];dsimp only;split
 .simp_all
 .let a:es.toList.any (·.refKey)=false:=by rw[List.any_eq_false];intro y f;let(z,t,b):=l y Ż;simp[DictEntry.refKey,b]
  simp_all
def Jl.look(I:Jl h x dx C mA):∃a,PySem.W.InstAt h x (Hn C dx) C (Y a)/\∀name,lookIn name a=Y (mA name):=
 let(a,b,c):=B5 I.ns
 (a,(I.obj,W,W,b),c)
section
variable {s:az}{K:aS}{f:aD}{name:aM}{v:au}
def VI(X:K.In s.heap)(I:Jl s.heap x dx C mA)(g:plainGet K C name=Z')(f:nJ K C=Z')(k:ic K (.ref C) name=Y M)(c:mA name=Y v)(b:PySem.W.handedIn v=Z')(h:Q v { s with toks:=s.toks+1 }):
  bx (aZ prog w) A (getAttr (.ref x) name a) Q E s:=by
 let(l,J,e):=I.look;exact PySem.W.get_value X J (PySem.W.plainGet_of g).1 (PySem.W.findObj_own f k W<|by rw[e,c]) b h
def QF(X:K.In s.heap)(I:Jl s.heap x dx C mA)(a:plainGet K C name=Z')(l:ic K (.ref C) name=Y (Y<|.ref f))(g:PySem.W.isFn K (.ref f)=Z')(e:mA name=M)(h:Q (.ref f,[.ref x]) s):
  bx (aZ prog w) A (iV (.ref x) name b) Q E s:=by
 let(c,J,k):=I.look;exact PySem.W.method_fn X J (PySem.W.plainGet_of a).1 (PySem.W.plainGet_of a).2 l (beq_iff_eq.mp g) (by show (lookIn _ c).map _=Y _;simp_all) h
def SW(X:K.In s.heap)(I:Jl s.heap x dx C mA)(r:ic K (.ref C) "__setattr__" = Y (Y<|.builtin "object.__setattr__"))(t:plainOver K C=Z')(o:RZ K C name=Y M)(u:nJ K C=Z')(hw:PySem.Within mA l)(p:l.length<=be)(h:∀h',Jl h' x dx C (λy=>if y=name then Y v else mA y)->eE dx s.heap h'->Q () { s with heap:=h',toks:=s.toks+2 }):
  bx (aZ prog w) A (setAttr (.ref x) name v) Q E s:=by
 let(d,J,R):=I.look;refine PySem.W.set_plain X J r<|PySem.W.osa_open X J t o λb =>?_;let(S,D,g):=PySem.W.any_some u;refine ai<|aJ<|ai<|ai<|t6 (I.obj)<|ai<|PySem.W.Looks.here (s:={ s with toks:=s.toks+1 }) (PySem.W.looks_clsIn X D) ?_;rw[g];refine aJ (a:=Y dx) (ai<|aJ<|ai ?_);refine wpAny_nsSet1 (s:={ s with toks:=s.toks+1 }) I.ns λh' c a =>?_
 let(P,F,H,e,_):=c.count<|PySem.Within.cons name v hw;refine ai<|wpAny_lookBehind e (by grind [pastItsLine_dict,bM,bK]) ?_;exact aJ<|h _ ((a.2 _<|bz I.ne).trans I.obj,c,I.ne) a
def P6{R:R5->az->Prop}(X:K.In s.heap)(c:makesIn K C=Z')(L:ic K (.ref C) "__init__" = Y (Y<|.ref f))(e:PySem.W.typeIn K (.ref f)=Y (.type "function")) (h:ml (aZ prog w) (A.under<|.builtin "type.__call__" (.ref C::a,b)) (.call (.ref f) (.ref (s.heap.objs.size+1)::a,b)) (PySem.W.InitBack (s.heap.objs.size+1) R)
   { s with heap:=(s.heap.push Ho).push (Hn C s.heap.objs.size) }) :
  ml (aZ prog w) A (.call (.ref C) (a,b)) R s:=by
 exact PySem.W.make_core (PySem.W.makes_of X c) (PySem.W.looks_findIn X L) (λself=>PySem.W.bind_fn X _ e) (.inl W) h
end
noncomputable def lg(f:aM)(v:V):!(aM×V)->!(aM×V)
 |[]=>[(f,v)]|(g,x)::r=>if g=f then (g,v)::r else (g,x)::lg f v r
theorem qS(f g:aM)(v:V):∀j:!(aM×V),(lg f v j).lookup g=if g=f then Y v else j.lookup g
 | []=>by
  show Ht g [(f,v)]=_
  grind
 | (k,x)::r=>by
  let ih:=qS f g v r;rw[show lg f v _=if k=f then (k,v)::r else (k,x)::lg f v r from W]
  grind
theorem wc(f:aM)(v:V):∀j:!(aM×V),f∈(lg f v j).map (·.1)/\∀g,g∈j.map (·.1)->g∈(lg f v j).map (·.1)
 |[]=>(by simp[lg],λg h=>by simp at h)
 | (k,x)::r=>by
  obtain _:=wc f v r;rw[show lg f v _=if k=f then (k,v)::r else (k,x)::lg f v r from W]
  grind
theorem w8(f:aM)(v:V):∀j:!(aM×V),(lg f v j).length<=j.length+1
 |[]=>by simp[lg]
 | (k,x)::r=>by
  let ih:=w8 f v r;rw[show lg f v _=if k=f then (k,v)::r else (k,x)::lg f v r from W]
  grind
def oX.some_of{v:V}{o:↑au}(r:oX (Y v) o):∃u,o=Y u/\RelV v u:=by
 cases o with|none=>solve_by_elim|some u=>solve_by_elim
def oX.none_of(r:oX M o):o=none:=by
 cases o with|none=>rfl|some u=>solve_by_elim
def Cb{v:V}(r:RelV v u):PySem.W.handedIn u=true:=by
 cases v with
 |cT=>cases r;rfl|bl b=>cases r;rfl|int i=>let(t,e):=r;cases e;rfl
 |str x=>let(t,e):=r;cases e;rfl
 |Vv b=>let(t,e):=r;cases e;rfl
 |Se b=>let(t,e):=r;cases e;rfl
 |ref a=>cases r;rfl|ty n=>cases r;rfl
section
variable {P:bj}
def yq(b:lT P w H h)(e:H a=Y (.ins C dx j)):∃mA,Jl h a dx C mA/\(∀f,oX (j.lookup f)<|mA f)/\PySem.Within mA (j.map (·.1))/\j.length<=1000/\H dx=Y (.Z a):=by
 let(d,z,g,c,mA,n,r,q):=b a _ e;exact(mA,(c,n,g),r,q,z,d)
end
structure Jn(K:aS)(C:aD):Prop where
 pg:plainGet K C Str.empty=true
 hd:nJ K C=true
 po:plainOver K C=true
 sa:ic K (.ref C) "__setattr__" = some (some<|.builtin "object.__setattr__")
def Jn.get{K:aS}(c:Jn K C)(f:aM):plainGet K C f=true:=c.pg
def pM(K:aS)(C:aD)(f:aM):Prop:=ic K (.ref C) f=Y M
def pM.aaS{K:aS}{f:aM}(n:pM K C f):RZ K C f=Y none:=by
 unfold RZ;rw[n];rfl
structure RQ(K:aS)(C:aD)(m:aM)(f:aD):Prop where
 at_:ic K (.ref C) m=some (some<|.ref f)
 fn:PySem.W.isFn K (.ref f)=true
 kp:jU K (.ref f)=true
section
variable {X:Cx}{s:az}{f:aM}{v:V}
def zS(I:Inv X B U H s)(e:H a=Y (.ins C dx j))(c:Jn X.K C)(n:pM X.K C f)(l:j.lookup f=Y v)(h:∀u s',Inv X B U H s'->RelV v u->Q u s'):bx (aZ X.prog X.w) A (getAttr (.ref a) f b) Q E s:=by
 let(mA,O,_):=yq I.dS e;let(u,k,g):=oX.some_of (v:=v) (o:=mA f) ŷ;exact VI I.nW O (c.get f) c.hd n k (Cb g)<|h u _ (I.tok _) g
def zR{m:aM}(I:Inv X B U H s)(e:H a=Y (.ins C dx j))(c:Jn X.K C)(k:RQ X.K C m g)(l:j.lookup m=M)(h:Q (.ref g,[.ref a]) s):bx (aZ X.prog X.w) A (iV (.ref a) m b) Q E s:=by
 let(mA,O,_):=yq I.dS e;exact QF I.nW O (c.get m) k.at_ k.fn (oX.none_of ŷ) h
def yX(I:Inv X B U H s)(e:H a=Y (.ins C dx j))(c:Jn X.K C)(n:pM X.K C f)(K:j.length<1000)(t:RelV y u)(h:∀s',Inv X B U (cO H a<|.ins C dx<|lg f y j) s'->Q () s'):bx (aZ X.prog X.w) A (setAttr (.ref a) f u) Q E s:=by
 let(mA,O,r,l,_,m):=yq I.dS e;let v:(j.map (·.1)).length<=be:=by rw[aF,i5];lia
 refine SW I.nW O c.sa c.po n.aaS c.hd l v λh' k p=>h _ ?_
 refine I.write (by rw[e];exact Ÿ) (.inr m) (λb q D z=>(p.2 b D).trans z) (let(o,_,_,F,_):=k.ns;(o,F)) ?_;refine(by rw[aI O.ne];exact m,?_,O.ne,k.obj,_,k.ns,λg =>?_,λg w =>?_)
 .grind [w8]
 .rw[qS];by_cases q:g=f
  .rw[if_pos q,if_pos q];exact t
  simp_all
 .by_cases q:g=f
  .rw[q];exact(wc f y j).1
  .refine(wc f y j).2 g (l g λz=>w ?_)
   simp_all
def Inv.made(I:Inv X B U H s):Inv X B U (cO (cO H s.heap.objs.size<|.Z<|s.heap.objs.size+1) (s.heap.objs.size+1)<|.ins C s.heap.objs.size [])
  { s with heap:=(s.heap.push Ho).push (Hn C s.heap.objs.size) }:=by
 let c:(s.heap.push _).get? _=Y Ho:=bo _ W;let k:((s.heap.push Ho).push<|Hn C s.heap.objs.size).get? (s.heap.objs.size+1)=Y (Hn C s.heap.objs.size):=by
  have:=bo (s.heap.push Ho) (o:=Hn C s.heap.objs.size) W
  simp_all
 let l:=I.laid (o :=.Z<|s.heap.objs.size+1) (t':=s.toks) (λb u q=>ao _ q) (aV _) (_,c);refine l.laid (λb u q=>ao _ q) Ż ?_;let a:s.heap.objs.size≠s.heap.objs.size+1:=bI Ż;refine(by rw[aI a,aP],dr _,a,k,_,(Heap.Ns1.of_empty (Ho,#[],_,c,W,(λe g=>absurd g ż),λ_=>rfl)).at λo q=>ao _ q,λ_=>nc,λy f=>absurd W f)
def Lx{prog:bj}{w:cQ}{a:Env}{e:Expr}{f:aM}{G:Pos}{s:az}{Q:au->az->Prop}(c:bJ e f a (eval e a)=eval e a)(h:bx (aZ prog w) A (eval e a) (λo b=>bx (aZ prog w) A (getAttr o f Z') Q E b) E s):bx (aZ prog w) A (eval (.Attribute e f G) a) Q E s:=
 Attribute_any_ h (by rw[arm_eval_Attribute,c])
end
def aaY(K:aS)(N:TE)(f:aM):TE:=λU H Q=>N U H λx O=>∃a C dx j v,x=.ref a/\O a=Y (.ins C dx j)/\Jn K C/\pM K C f/\j.lookup f=Y v/\Q v O
def aeE(K:aS)(N tv:TE)(f:aM):TS:=λD U H=>tv U H λy O=>N U O λx d=>∃a C dx j,x=.ref a/\d a=Y (.ins C dx j)/\Jn K C/\pM K C f/\j.length<1000 /\
 D.nx U (cO d a<|.ins C dx<|lg f y j)
def NL(X:Cx)(b:Operator)(a:V->V->Hp->VK->Prop):Prop:=
 ∀(B:!(aD×Obj)) (s:az) (U:St) (H:Hp) (x y:V) (u v:au) (Q:VK),Inv X B U H s->RelV x u->RelV y v->a x y H Q->bx (aZ X.prog X.w) X.A (inplaceOp b u v) (EP X B U Q) X.xe s
def Ta(K:aS)(N tv:TE)(e:V->V->Hp->VK->Prop)(f:aM):TS:=λD U H=>N U H λx O=>∃a C dx j v,x=.ref a/\O a=Y (.ins C dx j)/\Jn K C/\pM K C f/\j.lookup f=Y v /\
 tv U O λy d=>e v y d λz c=>∃b fs',c a=Y (.ins C b fs')/\fs'.length<1000/\D.nx U (cO c a<|.ins C b<|lg f z fs')
section
variable {X:Cx}{f:aM}
def nO(k:PE X e N)(m:bJ e f X.env (eval e X.env)=eval e X.env):PE X (.Attribute e f G)<|aaY X.K N f:=by
 intro B s U H Q I h;refine Lx m<|eG (k B s U H _ I h) ?_;rintro u A ⟨x,O,r,b,a,C,dx,j,v,ex,o,c,n,l,q⟩;subst ex;obtain rfl:u=aQ a:=b;exact zS r o c n l λt w p g=>(v,O,p,g,q)
def Dj(t:PE X o N)(p:PE X value tv)(r:cm value (Y<|.Attribute o f VF) G.line X.env=c9 Z_):PS X (.Assign [.Attribute o f VF] value G)<|aeE X.K N tv f:=by
 intro B s U H D I h;refine N_ (eG (p B s U H _ I h) ?_) r;rintro u b ⟨y,O,E,e,q⟩;refine eG (t B b U O _ E q) ?_;rintro m K ⟨x,d,A,g,a,C,dx,j,ex,v,c,n,l,k⟩;subst ex;obtain rfl:m=aQ a:=g;exact yX A v c n l e λF w=>(U,_,w,k)
def Ms(R:PE X o N)(Q:PE X value tv)(b:NL X k g):PS X (.AugAssign (.Attribute o f aaO) k value G)<|Ta X.K N tv g f:=by
 intro B s U H D I h;refine wpAny_AugAssign_AttributeAny<|eG (R B s U H _ I h) ?_;refine λi s1 xx=>ah λkk =>?_
 let(x,O,I1,A,a,C,dx,j,v,ex,S,c,n,l,q):=xx;subst ex;obtain rfl:i=aQ a:=A;refine kk<|zS I1 S c n l λu r I2 E=>eG (Q B r U O _ I2 q) ?_;rintro m p ⟨y,d,I3,w,K⟩;refine eG (b B p U d v y u m _ I3 E w K) ?_;rintro w4 s4 ⟨z,H3,I4,t,T,fs',e,P,F⟩;exact yX I4 e c n P t λs5 I5=>(U,_,I5,F)
def aeQ:V->V->Hp->VK->Prop:=λx y H Q=>∃i j,x=.int i/\y=.int j/\Q (.int<|i+j) H
def aeM:V->V->Hp->VK->Prop:=λx y H Q=>∃i j,x=.int i/\y=.int j/\Q (.int<|i-j) H
def afg:NL X .Add aeQ:=by
 rintro B s U H x y u v Q I c b ⟨i,j,rfl,rfl,q⟩;let(t,rfl):=c;let(a,rfl):=b;exact PyProof.Rows.iadd_int (.int _,H,I.tok _,(_,W),q)
def aff:NL X .Sub aeM:=by
 rintro B s U H x y u v Q I c b ⟨i,j,rfl,rfl,q⟩;let(t,rfl):=c;let(a,rfl):=b;exact PyProof.Rows.isub_int (.int _,H,I.tok _,(_,W),q)
end
section
variable {X:Cx}{s:az}
inductive x5 (K:aS) (H:Hp):V->au->Prop where
 |cT:x5 K H .cT<|.type "NoneType"
 |bl (x:Bool):x5 K H (.bl x)<|.type "bool"
 |int (i:Int):x5 K H (.int i)<|.type "int"
 |str (x:aM):x5 K H (.str x)<|.type "str"
 |Se (x:UInt64):x5 K H (.Se x)<|.type "float"
 |lst {a:aD}{xs:!V}(e:H a=some (.lst xs)):x5 K H (.ref a)<|.type "list"
 |KU {a:aD}{o:Obj}{xs:!V}(e:H a=some (.KU o<|.lst xs)):x5 K H (.ref a)<|.type "list"
 |tup {a:aD}{xs:!V}(e:H a=some (.tup xs)):x5 K H (.ref a)<|.type "tuple"
 |dK {a:aD}{kvs:!(hW×V)}{n:Nat}(e:H a=some (.dK kvs n)):x5 K H (.ref a)<|.type "dict"
 |dT {a:aD}{kvs:!(!hW×V)}(e:H a=some (.dT kvs)):x5 K H (.ref a)<|.type "dict"
 | ins {a C dx:aD}{fs:!(aM×V)}(e:H a=some (.ins C dx fs)) (cl:Jn K C) (ha:ic K (.ref C) "__class__" = some (some<|.builtin "object.__class__"))
   (hn:PySem.W.specialIn K (.builtin "object.__class__") "__get__" = some (some<|.builtin "getset_descriptor.__get__")) (htk:PySem.W.takesIn K (.builtin "object.__class__")=some true)
   (hm:PySem.W.mroIn K C (.type "object")=some true):x5 K H (.ref a)<|.ref C
def kK(I:Inv X B U H s)(k:RelV x u)(v:x5 X.K H x t)(e:jA X.K t c=Y b)(h:∀tk,Q (.bool b) { s with toks:=tk }):
  bx (aZ X.prog X.w) A (Jq (.builtin "isinstance") [u,c]) Q E s:=by
 cases v with
 |cT=>cases (show u=aU from k);exact qy PySem.W.kitx_none I.nW nc e (λg=>nomatch g) h
 |bl y=>cases (k);exact qy PySem.W.kitx_bool I.nW nc e (λg=>nomatch g) h
 |int i=>let(t,q):=(k);cases q;exact qy PySem.W.kitx_int I.nW nc e (λg=>nomatch g) h
 |str y=>let(t,q):=(k);cases q;exact qy PySem.W.kitx_str I.nW nc e (λg=>nomatch g) h
 |Se y=>let(t,q):=(k);cases q;exact qy PySem.W.kitx_float I.nW nc e (λg=>nomatch g) h
 |@lst a xs l=>cases (k);let(_,_,n,_,J):=(I.dS a _ l);exact qy PySem.W.kitx_list I.nW (_,J,W) e (λg=>nomatch g) h
 |@KU a w xs l=>cases (show u=aQ a from k);let(_,_,_,n,_,J):=(I.dS a _ l);exact qy PySem.W.kitx_list I.nW (_,J,W) e (λg=>nomatch g) h
 |@tup a xs l=>cases (k);let(_,_,_,p):=(I.dS a _ l);let(o,J,z,_):=p;exact qy PySem.W.kitx_tuple I.nW (o,J,z) e (λg=>nomatch g) h
 |@dK a m n l=>cases (k);let(_,_,P,_,p):=(I.dS a _ l);let(o,es,J,z,_):=p;exact qy PySem.W.kitx_dict I.nW (o,J,z.1) e (λg=>nomatch g) h
 |@dT a m l=>cases (k);let(_,_,xs,_,o,es,d,J,z,_):=(I.dS a _ l);exact qy PySem.W.kitx_dict I.nW (o,J,z.1) e (λg=>nomatch g) h
 |@ins a C dx j l cl K D r F=>cases (show u=aQ a from k);let(mA,O,_):=yq I.dS l;let(R,f,_):=O.look;exact qy (PySem.W.kitx_own (cl.get _) cl.hd K D r F) I.nW f e (λg=>nomatch g) h
end
structure dn(k:Nat)(A:fJ):Prop where
 hd:A.handled=none
 dp:A.depth+3*k+5<recursionLimit
 un:A.units+16*k+200<l9
def dn.mono(r:dn k A)(h:j<=k):dn j A:=(r.hd,by have:=r.dp;lia,by have:=r.un;lia)
def dn.deeper(r:dn (k+1) A)(a:Env):dn k<|A.deeper a:=
 (r.hd,by have:=r.dp;show A.depth+1+3*k+5<_;lia,by have:=r.un;show A.units+3+16*k+200<_;lia)
theorem Il{A:fJ}{C:aD}{a:!au}{b:!(aM×au)}:(A.under<|.builtin "type.__call__" (.ref C::a,b)).depth=A.depth+1:=by
 exact Ÿ
theorem Ik{A:fJ}{C:aD}{a:!au}{b:!(aM×au)}:(A.under<|.builtin "type.__call__" (.ref C::a,b)).units=A.units+1:=by
 exact Ÿ
def dn.make(r:dn (k+1) A)(C:aD)(a:!au)(b:!(aM×au)):dn k<|A.under<|.builtin "type.__call__" (.ref C::a,b):=
 (r.hd,by have:=r.dp;grind [Il],by have:=r.un;grind [Ik])
def dn.depth(r:dn k A):A.depth<recursionLimit:=by have:=r.dp;lia
def dn.units{A:fJ}(r:dn k A):A.units+64<l9:=by have:=r.un;lia
def xy:TA:=λ_ H Q=>Q [] H
def nt(N:TE)(a:TA):TA:=λU H Q=>N U H λx O=>a U O λxs d=>Q (x::xs) d
section
variable {X:Cx}
def dw:PA X [] xy:=λa a a a H Q I h=>Calls.spliced_nil ([],H,I,.nil,h)
def bZ(m:PE X e te)(l:PA X es t)(k:@&(ak (e::es) X.env=(Z_,eval e X.env)::ak es X.env)):PA X (e::es)<|nt te t:=by
 intro G B s U H Q I h;rw[k];refine Jw<|eG (m B s U H _ I h) ?_;rintro u a ⟨x,O,p,c,g⟩;exact eG (l G B a U O _ p g) <|by rintro r v ⟨xs,d,o,b,f⟩;exact(_,d,o,.cons c b,f)
def Xr(t:TA):TE:=λU H Q=>t U H λxs O=>xs.length<=be/\∀p,O p=M->Q (.ref p) (cO O p<|.tup xs)
def aew(t:TA):TE:=λU H Q=>t U H λxs O=>xs.length<=be/\∀p,O p=M->Q (.ref p) (cO O p<|.lst xs)
def Dl{f}(h:PA X es t):PE X (.Tuple es f G)<|Xr t:=by
 intro B s U H Q I k;refine wpAny_Tuple_spliced<|eG (h G B s U H _ I k) ?_;rintro g a ⟨xs,O,c,r,z,q⟩;refine(by rw[<- r.length];exact z,?_);refine(.ref _,_,c.laid (λb u e=>ao _ e) (aV _) ?_,W,q _<|c.dS.fresh<|aV _);exact(z,g,r,(_,bo _ W,W,_,W))
def zh(h:PA X es t):PE X (.List es G)<|aew t:=by
 intro B s U H Q I g;refine wpAny_List_spliced<|eG (h G B s U H _ I g) ?_;rintro f a ⟨xs,O,c,r,z,q⟩;refine(by rw[<- r.length];exact z,?_);refine(.ref _,_,c.laid (λb u e=>ao _ e) (aV _) ?_,W,q _<|c.dS.fresh<|aV _);exact(z,f,0,r,bo _ W)
end
abbrev Sp:=!V->Hp->VK->XK->Prop
abbrev WX:=!Env->Hp->az->XK->au->az->Prop
structure NN(P:bj)(w:cQ)(K:aS)(mg:aM->↑au)(base:cG)(A:fJ)(outer:!Env)(s:az)(H:Hp):Prop where
 frames:A.frames=some outer
 mod:Mod K mg base
 bs:∀b o,base.get? b=some o->s.heap.get? b=some o/\H b=none
 Sf:base.objs.size<=s.heap.objs.size
 wo:s.heap.FunFrames base outer
 WI:∀b∈yv outer,H b=none
 dS:lT P w H s.heap
 bare:Bx s.gens
def CE(a:!Env)(P:bj)(w:cQ)(H:Hp)(s:az)(Q:VK)(u:au)(s':az):Prop:=
 ∃v H',s'.os=s.os/\Bx s'.gens/\Un (yv a) [] H H' s.heap s'.heap/\lT P w H' s'.heap/\RelV v u/\Q v H'
def CR(CX:WX)(a:!Env)(P:bj)(w:cQ)(H:Hp)(s:az)(Q:VK)(E:XK)(r:R5)(s':az):Prop:=
 match r with
 |.ok (.ret u)=>CE a P w H s Q u s'|.ok _=>False|.error e=>CX a H s E e s'
structure b_(P:bj)(w:cQ)(K:aS)(mg:aM->↑au)(base:cG)(CX:WX)(k:Nat)(f:aD)(fd:dU)(ps:!aM)(sp:Sp):Prop where
 len:∀vs H Q E,sp vs H Q E->vs.length=ps.length
 run:∀(A:fJ) (outer:!Env) (s:az) (H:Hp) (args:Args) (us:!au) (vs:!V) (Q:VK) (E:XK),dn k A->NN P w K mg base A outer s H->NZ s fd args (ps.zip us)->cx vs us->sp vs H Q E ->
  ml (aZ P w) A (.call (.ref f) args) (CR CX outer P w H s Q E) s
def b_.mono{P:bj}{K:aS}{i:aM->↑au}{f:aD}(F:b_ P w K i base CX j f I q sp)(h:j<=k):
  b_ P w K i base CX k f I q sp:=(F.len,λA a s H args c b Q E e=>F.run A a s H _ c b Q E<|e.mono h)
def b_.imp{P:bj}{K:aS}{i:aM->↑au}{f:aD}(F:b_ P w K i base CX k f I q sp)(h:∀vs H Q E,c vs H Q E->sp vs H Q E):b_ P w K i base CX k f I q c:=
 (λvs H Q E a=>F.len vs H Q E<|h _ _ _ _ a,λA b s H args e vs Q E m o p g l=>F.run A b s H _ e vs Q E m o p g<|h _ _ _ _ l)
def NN.make{P:bj}{K:aS}{s:az}(e:NN P w K i base A a s H)(C:aD)(b:!au)(c:!(aM×au)):
  NN P w K i base (A.under<|.builtin "type.__call__" (.ref C::b,c)) a s H:=(by first|exact e.frames|(simpa [Around.under] using e.frames),e.mod,e.bs,e.Sf,e.wo,e.WI,e.dS,e.bare)
section
variable {X:Cx}{s:az}
def Inv.U8(I:Inv X B U H s):NN X.prog X.w X.K X.mg X.base X.A X.stack s H:=
 (I.ok.frames,I.ok.mod,I.bs,bM I.ok.Sf I.sz,I.stack,I.ye,I.dS,I.bare)
def Inv.after(I:Inv X B U H s)(h:CE X.stack X.prog X.w H s Q u s'):EP X B U Q u s':=by
 let(v,H',k,a,f,e,r,q):=h;let(l,g,d,t,c):=s';obtain rfl:c=s.os:=k;exact(v,H',I.call f e a λb z=>absurd z ż,r,q)
end
def V7(sp:Sp)(AR:!V)(E:XK)(t:TA):TE:=λU H Q=>t U H λa O=>sp (a++AR) O Q E
def wQ(C:aD)(m:aM)(sp:Sp)(AR:!V)(E:XK)(N:TE)(t:TA):TE:=λU H Q=>N U H λx O=>∃a dx j,x=.ref a/\O a=Y (.ins C dx j)/\j.lookup m=M /\
 t U O λb d=>sp (x::(b++AR)) d Q E
def V4(C:aD)(sp:Sp)(AR:!V)(E:XK)(t:TA):TE:=λU H Q=>t U H λa O=>∀x dx,O x=M->O dx=M->dx≠x ->
 sp (.ref x::(a++AR)) (cO (cO O dx<|.Z x) x<|.ins C dx []) (λv d=>v=.cT/\Q (.ref x) d) E
def Binds(K:aS)(I:dU)(q:!aM)(ds:!au):Prop:=
 ∀(s:az) (a:!au),K.In s.heap->(a++ds).length=q.length->NZ s I (a,[]) (q.zip<|a++ds)
def Binds.all{K:aS}(h:∀a:!au,a.length=q.length->bindArgs I (a,[])=c9 (q.zip a)):Binds K I q []:=λs a c b=>by
 rw[bT]at b ⊢;exact .of_eq<|h a b
def nR(CX:WX)(X:Cx)(E:XK):Prop:=∀(B:!(aD×Obj)) (U:St) (H:Hp) (s:az) (e:au) (s':az),Inv X B U H s->CX X.stack H s E e s'->X.xe e s'
section
variable {X:Cx}{f:aD}{m:aM}
def C8{s:az}{us:!au}{vs:!V}(F:b_ X.prog X.w X.K X.mg X.base CX k f I q sp)(l:dn k X.A)(p:Binds X.K I q ds)(o:cx AR ds)(g:nR CX X E)(a:Inv X B U H s)(r:cx vs us)(h:sp (vs++AR) H Q E):bx (aZ X.prog X.w) X.A (Jq (.ref f) us) (EP X B U Q) X.xe s:=by
 let c:=r.append o;let m:(us++ds).length=q.length:=by rw[<- c.length];exact F.len _ _ _ _ h
 refine pR<|nU (F.run X.A _ s H _ _ _ Q E l a.U8 (p s us a.nW m) c h) λr s' b =>?_;cases r with
 |error e=>solve_by_elim|ok t=>
  cases t with|ret u=>exact a.after b|_=>solve_by_elim
def pw(F:b_ X.prog X.w X.K X.mg X.base CX k f I q sp)(o:dn k X.A)(w:Gl X x)(u:X.mg x=Y (.ref f))(v:jU X.K (.ref f)=Z')(D:Binds X.K I q ds)(C:cx AR ds)(m:nR CX X E)(K:PA X (e::es) t)(g:‹(x==("__debug__" : aM))=false›)(A:@&(ak (e::es) X.env=(Z_,eval e X.env)::ak es X.env))(c:@&((b9 G<|ak es X.env).any (·.1)=false)):
  PE X (.Call (.Name x p) (e::es) [] G) (V7 sp AR E t):=by
 intro B s U H Q a h;refine c8<|lW a w u ?_ g;refine PySem.W.callWith_K a.ok.mod.YQ v (eG (K G B s U H _ a h) ?_) A c;rintro P R ⟨d,O,l,r,b⟩;exact(l.nW,C8 F o D C m l r b)
def Pn(F:b_ X.prog X.w X.K X.mg X.base CX k f I q sp)(e:dn k X.A)(m:Gl X x)(g:X.mg x=Y (.ref f))(l:jU X.K (.ref f)=Z')(r:Binds X.K I q ds)(o:cx AR ds)(c:nR CX X E)(b:‹(x==("__debug__" : aM))=false›):PE X (.Call (.Name x p) [] [] G)<|V7 sp AR E xy:=by
 intro B s U H Q a h;exact c8<|lW a m g (PySem.W.callWith_K0 a.nW l<|C8 F e r o c a .nil h) b
def nC{pl:Sem Bool}(he:PE X o N)(c:Jn X.K C)(A:RQ X.K C m f)(F:b_ X.prog X.w X.K X.mg X.base CX k f I q sp)(hr:dn k X.A)(hb:Binds X.K I q ds)(hd:cx AR ds)(hx:nR CX X E)(ha:PA X (e::es) t)(p:@&(ak (e::es) X.env=(Z_,eval e X.env)::ak es X.env))(v:@&((b9 G<|ak es X.env).any (·.1)=false)) (ht:@&(eval (.Call (.Attribute o m AI) (e::es) [] G) X.env=(do
   let w <- eval o X.env
   jJ AI.atName
   let(f,first) <- iy [w] (iV w m pl)
   l7 G f first (b9 G<|ak (e::es) X.env) (ey G<|cD [] X.env)))) :
  PE X (.Call (.Attribute o m AI) (e::es) [] G) (wQ C m sp AR E N t):=by
 intro B s U H Q g h;refine PySem.W.methodCall_KW (eG (he B s U H _ g h) ?_) ht;refine λu R xx=>ah λkk =>?_
 let(x,O,K,S,a,dx,j,ex,ea,l,b):=xx;subst ex;obtain rfl:u=aQ a:=S;refine kk<|zR K ea c A l ?_;refine PySem.W.callWith_K g.ok.mod.YQ A.kp (eG (ha G B R U O _ K b) ?_) p v;rintro P s2 ⟨i,d,D,r,T⟩;exact(D.nW,C8 (vs :=.ref a::i) F hr hb hd hx D (.cons W r) T)
def zg{pl:Sem Bool}(D:PE X o N)(c:Jn X.K C)(r:RQ X.K C m f)(F:b_ X.prog X.w X.K X.mg X.base CX k f I q sp)(A:dn k X.A)(d:Binds X.K I q ds)(K:cx AR ds)(v:nR CX X E) (w:@&(eval (.Call (.Attribute o m AI) [] [] G) X.env=(do
   let p <- eval o X.env
   jJ AI.atName
   let(f,first) <- iy [p] (iV p m pl)
   l7 G f first (b9 G<|ak [] X.env) (ey G<|cD [] X.env)))) :
  PE X (.Call (.Attribute o m AI) [] [] G) (wQ C m sp AR E N xy):=by
 intro B s U H Q e h;refine PySem.W.methodCall_KW (eG (D B s U H _ e h) ?_) w;refine λu R xx=>ah λkk =>?_
 let(x,O,g,t,a,dx,j,ex,P,l,b):=xx;subst ex;obtain rfl:u=aQ a:=t;exact kk<|zR g P c r l<|PySem.W.callWith_K0 g.nW r.kp<|C8 (vs:=[.ref a]) F A d K v g (.cons W .nil) b
structure Mk(K:aS)(C f:aD):Prop where
 makes:makesIn K C=true
 init:ic K (.ref C) "__init__" = some (some<|.ref f)
 fn:PySem.W.isFn K (.ref f)=true
 kp:jU K (.ref C)=true
theorem Fx{s:az}{us:!au}(i:Mk X.K C f)(F:b_ X.prog X.w X.K X.mg X.base CX k f I q sp)(w:dn (k+1) X.A)(K:Binds X.K I q ds)(D:cx AR ds)(t:nR CX X E)(a:Inv X B U H s)(r:cx g us)(h:∀x dx,H x=M->H dx=M->dx≠x->sp (.ref x::(g++AR)) (cO (cO H dx<|.Z x) x<|.ins C dx []) (λv d=>v=.cT/\Q (.ref x) d) E):
  bx (aZ X.prog X.w) X.A (Jq (.ref C) us) (EP X B U Q) X.xe s:=by
 have m:=h _ _ (a.dS.fresh<|jg _) (a.dS.fresh<|aV _) ż;let c:=Inv.made (C:=C) a;have l:cx (V.ref (s.heap.objs.size+1)::(g++AR)) _ :=.cons W<|r.append D;let A:=by let e:=l.length;rw[F.len _ _ _ _ m]at e;exact e.symm
 refine pR (P6 a.nW i.makes i.init (beq_iff_eq.mp i.fn) (nU (F.run _ _ _ _ _ _ _ _ E (w.make C us [])
  (c.U8.make C us []) (K _ _ c.nW A) l m) λr s' b =>?_))
 cases r with
 |error e=>solve_by_elim|ok P=>
  cases P with
  |ret u=>let(v,H',S,o,R,p):=c.after b;subst R;exact(o,(V.ref _,H',S,W,p))
  |_=>solve_by_elim
def Kd(d:Mk X.K C f)(F:b_ X.prog X.w X.K X.mg X.base CX k f I q sp)(o:dn (k+1) X.A)(v:Gl X x)(u:X.mg x=Y (.ref C))(D:Binds X.K I q ds)(A:cx AR ds)(m:nR CX X E)(K:PA X (e::es) t)(g:‹(x==("__debug__" : aM))=false›)(w:@&(ak (e::es) X.env=(Z_,eval e X.env)::ak es X.env))(c:@&((b9 G<|ak es X.env).any (·.1)=false)):
  PE X (.Call (.Name x p) (e::es) [] G) (V4 C sp AR E t):=by
 intro B s U H Q a h;refine c8<|lW a v u ?_ g;refine PySem.W.callWith_K a.ok.mod.YQ d.kp (eG (K G B s U H _ a h) ?_) w c;rintro R S ⟨P,O,l,r,b⟩;exact(l.nW,Fx d F o D A m l r b)
def Pj(d:Mk X.K C f)(F:b_ X.prog X.w X.K X.mg X.base CX k f I q sp)(e:dn (k+1) X.A)(l:Gl X x)(g:X.mg x=Y (.ref C))(o:Binds X.K I q ds)(m:cx AR ds)(c:nR CX X E)(b:‹(x==("__debug__" : aM))=false›):PE X (.Call (.Name x p) [] [] G)<|V4 C sp AR E xy:=by
 intro B s U H Q a h;refine c8<|lW a l g ?_ b;exact PySem.W.callWith_K0 a.nW d.kp<|Fx (us:=[]) d F e o m c a .nil h
end
structure fo(N P:!aM)(sc:Scope):Prop where
 kind:sc.kind=.function
 co:sc.isCoroutine=false
 gen:sc.isGenerator=false
 nd:N.Nodup
 pre:N.take P.length=P
 par:∀x∈P,sc.names.lookup x=some .local\/sc.names.lookup x=some .cell
 Yz:∀y∈sc.names,y.2 ≠ .free
theorem Cr:∀ {a:!(aM×au)}{m:aM->↑au},(∀v,(x,v)∉a)->bindL b a m x=m x
 |[],_,_=>rfl|(n,v)::r,m,h=>by unfold bindL;rw[Cr λw hw=>h w<|ax _ hw];split<;>grind
theorem Ct:∀ {a:!(aM×au)}{m:aM->↑au},(∀v,(x,v)∉a)->bindC b a m x=m x
 |[],_,_=>rfl| (n,v)::r,m,h=>by
  unfold bindC;rw[Ct λw hw=>h w<|ax _ hw];split
  .rfl
  grind
theorem Cs{v:au}:∀ {P:!aM}{b:!au}{i:Nat}{m:aM->↑au},P.Nodup->P[i]?=Y x->b[i]?=Y v->a x=Y .local ->
  bindL a (P.zip b) m x=Y v
 |[],_,_,_,_,h,_,_=>by simp at h
 |_::_,[],_,_,_,_,h,_=>by simp at h
 |p::P,w::b,0,m,c,J,z,e=>by simp at J z;subst J;subst z;show bindL a ((p,w)::P.zip b) m p=_;unfold bindL;rw[Cr λv f=>(kY.mp c).1 (vz f).1,if_pos e];simp
 |p::P,w::b,i+1,m,c,J,z,e=>by unfold bindL;exact Cs (i:=i) Ż (by trivial) (by trivial) e
theorem Cu{v:au}:∀ {P:!aM}{b:!au}{i:Nat}{m:aM->↑au},P.Nodup->P[i]?=Y x->b[i]?=Y v->a x≠Y .local ->
  bindC a (P.zip b) m x=Y v
 |[],_,_,_,_,h,_,_=>by simp at h
 |_::_,[],_,_,_,_,h,_=>by simp at h
 |p::P,w::b,0,m,c,J,z,e=>by simp at J z;subst J;subst z;show bindC a ((p,w)::P.zip b) m p=_;unfold bindC;rw[Ct λv f=>(kY.mp c).1 (vz f).1,if_neg e];simp
 |p::P,w::b,i+1,m,c,J,z,e=>by unfold bindC;exact Cu (i:=i) Ż (by trivial) (by trivial) e
noncomputable def start(N:!aM)(a:!V):St:=a.map Y++aH (N.length-a.length) M
noncomputable def pJ(CX:WX)(P:bj)(w:cQ)(K:aS)(i:aM->↑au)(base:cG)(N:!aM)(c:aM)(a:Scope)(f:aD)(h:au)(A:fJ)(b:!Env)(s:az)(H:Hp)(E:XK):Cx where
 prog:=P
 w:=w
 K:=K
 mg:=i
 base:=base
 A:=A.deeper<|mj c a s.heap.objs.size f h
 N:=N
 s₀:=s
 H₀:=H
 env:=mj c a s.heap.objs.size f h
 outer:=b
 stack:=mj c a s.heap.objs.size f h::b
 ex:=[]
 calm:=Z'
 fn:=λ_=>Z'
 pn:=[]
 xe:=λe s'=>bx (aZ P w) (A.deeper<|mj c a s.heap.objs.size f h) (leaving (mj c a s.heap.objs.size f h) e) (λ_ g=>CX b H s E e g) (λk g=>CX b H s E k g) s'
def Ap{sc:Scope}{n:Nat}(h:sc.names.lookup x=Y .cell):∃c,(eQ n sc.names []).lookup x=Y c:=by
 exact Option.isSome_iff_exists.mp<|PySem.W.cellsFrom_some _ n []<|.inl h
def MU{P:bj}{K:aS}{f:aD}{X:au}{s:az}{F:!V}(S:fo N q o)(hd:A.handled=M)(D:NN P w K i base A t s H)(hl:F.length=q.length)(r:cx F us)(x:InCallC s s.heap.objs.size (bindL (mj C o s.heap.objs.size f X).kindOf (q.zip us) λd=>M) (eQ (s.heap.objs.size+1) o.names []) (bindC (mj C o s.heap.objs.size f X).kindOf (q.zip us) λd=>M) s1):
  Inv (pJ CX P w K i base N C o f X A t s H E) [] (start N F) H s1:=by
 let hpl:q.length<=N.length:=by have:=congrArg List.length S.pre;grind
 let(J,tk,rfl,hk):=x.done;have a:∀b,b∉(pJ CX P w K i base N C o f X A t s H E).ex:=λb m=>absurd (show b∈[] from m) ż
 refine((D.mod,S.kind,W,W,aV _,λy m c J z =>?_,λy Q =>?_,λy c d h =>?_,λd=>hd,Around.frames_deeper D.frames,.inr (W,W),λb m=>absurd m<|a b,D.bs,D.Sf,λb d d=>a b,λb m=>absurd m<|a b,D.wo,D.WI),
  rfl,D.bare,Un.kept hk,(_,x.toInCall.ns,λg y v J z h3 =>?_),λy c h=>(_,x.cell y c h),D.dS.fresh<|aV _,λy c h =>?_,λp T=>absurd (show p∈[] from T) ż,D.dS.kept hk,?_)
 .exact name_of_addr x.apart (PySem.mem_of_lookup J)<|PySem.mem_of_lookup z
 .obtain Q|Q:=Q
  .exact Ap Q
  .exact absurd W<|S.Yz _<|PySem.mem_of_lookup Q
 .exact kb<|x.above y c<|PySem.mem_of_lookup h
 .have L:g<F.length:=by
   unfold start at z;by_cases L:g<F.length
   .exact L
   .rw[qv<|by simp_all]at z;rw[Si]at z;split at z<;>cases z
  let ha:F[g]?=Y v:=by simp_all [start,cw,aY]
  let(u,hu,rv):=r.get ha;have T:q[g]?=Y y:=by rw[<- S.pre,kQ<|by omega];exact J
  have R:q.Nodup:=by rw[<- S.pre];exact S.nd.sublist<|rQ _ _
  refine(u,rv,?_);obtain k|k:=S.par y<|x9 T
  .exact .inl (k,Cs R T hu k)
  .let(c,e):=Ap k;refine .inr (.inl k,c,e,?_);let l:=x.cell y c e;rw[Cu R T hu<|by show o.names.lookup y≠_;lia]at l;exact l
 .exact D.dS.fresh<|kb<|x.above y c<|PySem.mem_of_lookup h
 .unfold start;show _=N.length
  simp_all
theorem WK{P:bj}{K:aS}{f:aD}{name:aM}{m:Arguments}{kV ct oc:au}(lk:K.lookup f=Y (oc,od,.func<|fnOf name h m p c dV kV VJ pm an l ct,osl))(hcd:codeIn K l h=Z')(S:fo N q c)(T:∀D H Q E,sp D H Q E->D.length=q.length) (d:∀(A:fJ) (g:!Env) (s:az) (H:Hp) (D:!V) (Q:VK) (E:XK),dn k (A.deeper<|mj h c s.heap.objs.size f l)->sp D H Q E ->
   ∃t,mh (pJ CX P w K i base N h c f l A g s H E) p t/\t { nx:=λ_ H'=>Q .cT H',rt:=Q } (start N D) H) :
  b_ P w K i base CX (k+1) f (fnOf name h m p c dV kV VJ pm an l ct) q sp:=by
 refine(T,λA g s H args us D Q E hr e0 hb r X =>?_);let hl:=T _ _ _ _ X;have KX:=e0.mod.YQ.keeps λb o e=>(e0.bs b o e).1
 let lim:=e0.mod.nolimit.keeps λb o e=>(e0.bs b o e).1
 let F:∀y∈q.zip us,c.names.lookup y.1=Y _\/c.names.lookup y.1=Y .cell/\((eQ (s.heap.objs.size+1) c.names []).lookup y.1).isSome=true:=λ(n,v) hy=>by
  obtain a|a:=S.par n (vz hy).1
  .exact .inl a
  simp_all [PySem.W.cellsFrom_some]
 refine codeAny_call_function hr.depth (KX _ _ lk) W S.co S.gen W (PySem.W.codeRec_of KX hcd)<|hb _ _ _ _ ?_;refine wpAny_newFunctionEnv_cells S.kind F λenv he s1 x =>?_
 subst he;refine(lim.keeps x.toInCall.keep,codeAny_func ?_);let(t,ht,hq):=d A g s H D Q E (hr.deeper _) X;refine dE (ht [] s1 (start N D) H _ (MU S hr.hd e0 hl r x) hq) (λfl s' R =>?_) λe s' R=>R
 have ku:∀ {C:St}{H':Hp}{v:V}{u:au},Inv (pJ CX P w K i base N h c f l A g s H E) [] C H' s'->RelV v u->Q v H'->CE g P w H s Q u s':=
  fun {C H' v u} J rv a=>(v,H',J.os,J.bare,J.base,J.dS,rv,a)
 cases fl with
 |ret u=>
  let(v,C,H',J,rv,a):=R
  exact Ÿ
 |next=>let(C,H',J,a):=R;exact ku (v:=V.cT) (u:=aU) J W a
 |_=>let(_,_,_,a):=R;exact dN a
section
variable {X:Cx}{id:String}
def tCB(r:!V->Hp->VK->Prop)(t:TA):TE:=λU H Q=>t U H λa O=>r a O Q
def zi(A:kF X (.builtin id) r)(v:Gl X x)(u:X.mg x=M)(m:fG x=Y (.builtin id))(C:PA X (e::es) t)(o:‹x ≠ "__name__"›)(b:‹(x==("__debug__" : aM))=false›)(w:@&(ak (e::es) X.env=(Z_,eval e X.env)::ak es X.env))(a:@&((b9 G<|ak es X.env).any (·.1)=false)):PE X (.Call (.Name x p) (e::es) [] G)<|tCB r t:=by
 exact λB s U H Q I h=>c8<|pz I v u m (ng (eG (C G B s U H _ I h)<|by rintro f g ⟨c,O,D,k,l⟩;exact Ÿ) w a) o b
def Mw(A:kF X (.type T) r)(v:Gl X x)(u:X.mg x=M)(m:fG x=Y (.type T))(C:PA X (e::es) t)(o:‹x ≠ "__name__"›)(b:‹(x==("__debug__" : aM))=false›)(w:@&(ak (e::es) X.env=(Z_,eval e X.env)::ak es X.env))(a:@&((b9 G<|ak es X.env).any (·.1)=false)):PE X (.Call (.Name x p) (e::es) [] G)<|tCB r t:=by
 exact λB s U H Q I h=>c8<|pz I v u m (gH (eG (C G B s U H _ I h)<|by rintro f g ⟨c,O,D,k,l⟩;exact Ÿ) w a) o b
end
end L2
namespace HT
open PySem PyProof.Rows
section
open PySem.SeqAt
open PySem.AutoSeq1 (wpAny_loadPart')
open PySem.MeetsSeq PySem.MeetsSeq2 PySem.MeetsSeq3
end
section
variable {s:az}
noncomputable def JP(n d:Nat):↑Int->Nat
 |none=>d|some v=>if v<0 then (v+(n:Int)).toNat else min v.toNat n
set_option tactic.hygienic true
def Vt(v:Int)(n d:Nat):(if v<0 then max (v+(n:Int)) 0 else min v (n:Int))=((JP n d (Y v):Nat):Int):=by
 show _=((if v<0 then (v+(n:Int)).toNat else min v.toNat n:Nat):Int);split
 .exact(Int.ofNat_toNat _).symm
 .rename_i a;let(k,e):=gn<|Int.not_lt.mp a;rw[e,EL];obtain q|q:=Nat.le_total k n
  .rw[Int.min_eq_left<|VR.mpr q,Nat.min_eq_left q]
  .rw[Int.min_eq_right<|VR.mpr q,Nat.min_eq_right q]
end
end HT
namespace L2
open PySem PySem.Spec PyProof.Rows
abbrev TO:=St->Hp->(↑Int->Hp->Prop)->Prop
def PO(X:Cx)(e:↑Expr)(t:TO):Prop:=
 ∀(B:!(aD×Obj)) (s:az) (U:St) (H:Hp) (Q:↑Int->Hp->Prop),Inv X B U H s->t U H Q ->
  bx (aZ X.prog X.w) X.A (evalPart e X.env) (λu s'=>∃o H',Inv X B U H' s'/\IsPart u o/\Q o H') X.xe s
def SM:TO:=λ_ H Q=>Q M H
def aaV(t:TE):TO:=λU H Q=>t U H λx O=>∃i,x=.int i/\Q (Y i) O
section
variable {X:Cx}
def Tr:PO X M SM:=by
 exact λB s U H Q I h=>aJ (_,H,I,.none,h)
def Tq(h:PE X e te):PO X (Y e)<|aaV te:=by
 intro B s U H Q I hw;refine eG (h B s U H _ I hw) ?_;rintro u f ⟨x,O,c,a,b⟩;let(i,rfl,q):=b;let(t,rfl):=a;exact(_,O,c,.int i t,q)
def SlR(X:Cx)(r:V->↑Int->↑Int->Hp->VK->Prop):Prop:=
 ∀(B:!(aD×Obj)) (s:az) (U:St) (H:Hp) (x:V) (v b a:au) (n L:↑Int) (c:aD) (Q:VK),Inv X B U H s->RelV x v->s.heap.IsSliceOf c b a .none->IsPart b n->IsPart a L->r x n L H Q ->
  ∃T id,typeLookup (.type T) "__getitem__" = c9 (Y<|.builtin id)/\s.TypeIs v T/\bx (aZ X.prog X.w) X.A (NU v<|.ref c) (EP X B U Q) X.xe s
def tSl(r:V->↑Int->↑Int->Hp->VK->Prop)(te:TE)(tl th:TO):TE:=λU H Q=>te U H λx O=>tl U O λl d=>th U d λu a=>r x l u a Q
def FJ(F:SlR X r)(P:PE X e te)(K:PO X n tl)(D:PO X L th):PE X (.Subscript e (.Slice n L M p2) G)<|tSl r te tl th:=by
 intro B s U H Q I h;refine Subscript_<|eG (P B s U H _ I h) ?_;rintro v m ⟨x,O,I1,o,w⟩;refine wpAny_Slice<|eG (K B m U O _ I1 w) ?_;rintro f k ⟨l,d,I2,C,t⟩;refine eG (D B k U d _ I2 t) ?_;rintro c a ⟨u,g,I3,A,p⟩;refine aJ ?_;let S:Inv X B U g { a with heap:=a.heap.push { cls :=.type "slice",data :=.fields #[f,c,.none] } }:=I3.kept λb ob q=>ao _ q
 let(T,id,R,E,i):=F B _ U g x v f c l u a.heap.objs.size Q S o (Heap.IsSliceOf.new ..) C A p;exact tail_any E R i Ÿ
def Jb(xs:!V)(n L:↑Int):!V:=(xs.drop<|HT.JP xs.length 0 n).take<|HT.JP xs.length xs.length L-HT.JP xs.length 0 n
def GN(xs:!V)(n L:↑Int):(Jb xs n L).length<=xs.length:=by
 unfold Jb;rw[nh,List.length_drop]
 lia
end
noncomputable def Be(n:Nat)(i:Int):↑Nat:=if 0<=i then (if i<n then Y i.toNat else M) else if -(n:Int)<=i then Y (i+n).toNat else M
def qt{a:Type}(xs:!a)(i:Int):↑a:=(Be xs.length i).bind λj=>xs[j]?
def DH{n:Nat}(h:Be n i=Y j):seqIndex? i n=Y j/\j<n /\ -(n:Int)<=i/\i<n:=by
 unfold Be at h;by_cases a:0<=i
 .rw[if_pos a]at h;by_cases J:i<n
  .rw[if_pos J]at h
   grind [cu,seqIndex_of]
  simp_all
 .rw[if_neg a]at h;by_cases J : -n<=i
  .rw[if_pos J]at h
   grind [cu,seqIndex_neg]
  simp_all
def Et{v:a}(h:qt xs i=Y v):∃j,seqIndex? i xs.length=Y j/\xs[j]?=Y v/\j<xs.length /\ -(xs.length:Int)<=i/\i<xs.length:=by
 let(j,e,h):=ae.1 h;let(J,z,c,b):=DH e;exact(j,J,h,z,c,b)
theorem iT{xs:!a}{j:Nat}{v:a}(h:xs[j]?=Y v):qt xs (j:Int)=Y v:=by
 have b:=(aq.mp h).1
 simp_all [Be,if_pos,qt]
def vm(b:Expr):Prop:=∀o i,Sg b Z_ o i=operate [o,i] (NU o i)
def LO(X:Cx)(r:R2):Prop:=
 ∀(value a:Expr) (B:!(aD×Obj)) (s:az) (U:St) (H:Hp) (x y:V) (v u:au) (Q:VK),Inv X B U H s->RelV x v->RelV y u->r x y H Q ->
  Sg a Z_ v u=operate [v,u] (NU v u)->bx (aZ X.prog X.w) X.A (subscriptTail value a v u) (EP X B U Q) X.xe s
def MtR(X:Cx)(id:String)(r:V->!V->Hp->VK->Prop):Prop:=
 ∀(B:!(aD×Obj)) (s:az) (U:St) (H:Hp) (x:V) (xs:!V) (v:au) (a:!au) (Q:VK),Inv X B U H s->RelV x v->cx xs a->r x xs H Q ->
  bx (aZ X.prog X.w) X.A (Jq (.builtin id)<|v::a) (EP X B U Q) X.xe s
section
variable {X:Cx}
def LO.or(h:LO X r)(h':LO X e):LO X<|λx y H Q=>r x y H Q\/e x y H Q:=by
 intro value a B s U H x y v u Q I c b q f;obtain q|q:=q
 .exact h _ a B s U H x y v u Q I c b q f
 .exact h' _ a B s U H x y v u Q I c b q f
def Ke(l:LO X r)(o:PE X a N)(m:PE X b y)(k:vm b):PE X (.Subscript a b G)<|tOp r N y:=by
 exact λB s U H Q I h=>Subscript_<|ZR o m I h λv u e x c d p g f q=>l a b B e U d x c v u Q p g f q<|k _ _
def abq(K:aS):R2:=λx y H Q=>∃p xs i v,x=.ref p/\y=.int i/\lZ K H p xs/\qt xs i=Y v/\Q v H
def abo(K:aS):R2:=λx y H Q=>∃p xs i v,x=.ref p/\y=.int i/\VB K H p xs/\qt xs i=Y v/\Q v H
def abp:R2:=λx y H Q=>∃z i c,x=.str z/\y=.int i/\z.length<=be/\qt z.cps.toList i=Y c/\Q (.str ⟨#[c]⟩) H
def DE:LO X<|abq X.K:=by
 intro value b B s U H x y v u Q I A o h k;refine ah λkk =>?_
 let(p,xs,i,a,rfl,rfl,C,E,q):=h;cases A;let(t,rfl):=o;let(f,r,e,d):=I.list C;let(j,J,z,R,K,F):=Et E;let(w,m,c):=r.get z;let D:=r.length;let P:=wa;refine kk ?_;let ku:EP X B U Q w s:=(a,H,I,c,q);by_cases l:0<=i
 .let g:=by rw[seqIndex_of l F]at J;exact cu J
  exact item_listR e.isList l Ž Ż ku k
 .let g:(i+(f.toArray.size:Int)).toNat=j:=by rw[seqIndex_neg (by lia) K]at J;rw[cp,<- D];exact cu J
  exact subscriptTail_builtinR e.isList.typeIs slot_list_getitem.lookup
   (wpAny_getItem_list_neg e.isList Ž Ż Ž Ż (W,ku)) k
def YZ:LO X<|abo X.K:=by
 intro value b B s U H x y v u Q I g f h l;refine ah λkk =>?_
 let(p,xs,i,a,rfl,rfl,m,A,q):=h;cases g;let(t,rfl):=f;let(k,r,e,D):=I.tuple m;let(j,J,z,_):=Et A;let(w,C,c):=r.get z;let o:=r.length;let E:=wa;exact kk (subscriptTail_builtinR e.typeIs slot_tuple_getitem.lookup
  (getItem_tuple (j:=j) e Ž Ž Ż Ż (W,((a,H,I,c,q)))) l)
def Y0:LO X abp:=by
 intro value b B s U H x y v u Q I f e h g;refine ah λkk =>?_
 let(a,i,c,rfl,rfl,A,l,q):=h;let(t,rfl):=f;let(w,rfl):=e;let(j,J,z,D,o,m):=Et l;let k:a.cps.toList.length=a.length:=by simp[Str.length]
 let C:=wa;exact kk<|tail_any (typeIs_str s a t) slot_str_getitem.lookup (getItem_str Ž Ż (.str _,H,I.tok _,(_,W),q)) g
def rIx(K:aS):R2:=λx y H Q=>abq K x y H Q\/abo K x y H Q\/abp x y H Q
def Y1:LO X<|rIx X.K:=DE.or<|YZ.or Y0
def Ij(a:!au)(n j:Nat)(u:au):Obj.mapSeq (·.setIfInBounds j u) { cls :=.type "list",data :=.seq a.toArray n }={ cls :=.type "list",data :=.seq (a.set j u).toArray n }:=by
 simp[Obj.mapSeq]
def Inv.lst{s:az}{p:aD}{xs:!V}(I:Inv X B U H s)(h:H p=Y (.lst xs)):
  ∃(a:!au) (n:Nat),cx xs a/\s.heap.get? p=Y { cls :=.type "list",data :=.seq a.toArray n }/\xs.length<=be:=by
 let(z,a,n,r,e):=I.dS p _ h;exact(a,n,r,e,z)
def Inv.YG{B:!(aD×Obj)}{U:St}{H:Hp}{s:az}{p:aD}{xs ys:!V}{c a:!au}{n g:Nat}{f:Obj->Obj}(I:Inv X B U H s)(h:H p=Y (.lst xs))(m:s.heap.get? p=Y { cls :=.type "list",data :=.seq c.toArray n })(k:f { cls :=.type "list",data :=.seq c.toArray n }={ cls :=.type "list",data :=.seq a.toArray g })(r:cx ys a)(l:ys.length<=be)(t:Nat):
  Inv X B U (cO H p<|.lst ys) { s with heap:=s.heap.update p f,toks:=t }:=by
 have e:(s.heap.update p f).get? p=Y { cls :=.type "list",data :=.seq a.toArray g }:=by rw[cR f m (by rw[k]<;>rfl),k]
 refine I.write (by rw[h];trivial) (.inl W) (λb u o q=>(bH _ _<|bz o).trans q) (_,e) ?_;exact(l,a,g,r,e)
def Wd:V->V->V->Hp->(Hp->Prop)->Prop:=λo i v H Q=>∃p xs k j,o=.ref p/\i=.int k/\H p=Y (.lst xs)/\Be xs.length k=Y j/\Q (cO H p<|.lst<|xs.set j v)
def RU:ac4 X Wd:=by
 refine λB s U H o i v F K u Q I A C x xx=>ah λkk =>?_
 let(p,xs,k,j,rfl,rfl,f,E,q):=xx;cases A;let(t,rfl):=C;let(a,n,r,b,D):=I.lst f;let(J,z,l,g):=DH E;let c:=r.length;let d:=wa;have w:=
  I.YG f b (Ij a n j u) (r.set x j) Ż s.toks
 refine kk ?_;by_cases m:0<=k
 .grind [seqIndex_of,cu,PySem.W.ki_setAt,cp]
 grind [seqIndex_neg,cp,cu,PySem.W.ki_setBack]
set_option tactic.hygienic true in
def CY(n L:↑Int)(a:Nat):(sliceBounds n L M a).1=((HT.JP a 0 n:Nat):Int)/\(sliceBounds n L M a).2.1=((HT.JP a a L:Nat):Int)/\(sliceBounds n L M a).2.2=1:=by
 have key:∀i:Int,max 0 (min (if i<0 then i+a else i) a)=((HT.JP a 0 (Y i):Nat):Int):=λi=>by
  rw[<- HT.Vt];split
  .rename_i h;rw[Int.min_eq_left<|EO (Int.add_le_add_right (Int.le_of_lt h) a)<|Int.le_of_eq<|VQ _,Int.max_comm]
  .rename_i h;exact Int.max_eq_right<|Int.le_min.mpr (Int.not_lt.mp h,cJ _)
 exact(match n with|none=>rfl|some i=>key i,match L with|none=>rfl|some i=>key i,W)
def A2(a:!au)(n L:↑Int):slicePick a.toArray n L M=((a.drop<|HT.JP a.length 0 n).take<|HT.JP a.length a.length L-HT.JP a.length 0 n).toArray:=by
 let(J,z,b):=CY n L _;unfold slicePick;rw[J,z,b];simp only[sliceRange_one,pick_run,cp]<;>rfl
def aeN(K:aS):V->↑Int->↑Int->Hp->VK->Prop:=λx n L H Q=>∃a xs,x=.ref a/\lZ K H a xs/\∀p,H p=M->Q (.ref p) (cO H p<|.lst<|Jb xs n L)
def SU:SlR X<|aeN X.K:=by
 rintro B s U H x v u t n L w Q I f p k g ⟨a,xs,rfl,o,q⟩;cases f;let(l,r,e,m):=I.list o;let c:=r.length;refine(_,_,slot_list_getitem.lookup,e.isList.typeIs,?_);refine wpAny_getItem_list_slice e.isList p k g .none ż ?_ Ż;rw[A2,<- c];refine(.ref _,_,I.laid (λb A q=>ao _ q) (aV _) ?_,W,q _<|I.dS.fresh<|aV _);exact(bM (GN xs n L) m,_,0,(r.drop _).take _,bo _ W)
noncomputable def qc:V->Bool
 |.cT=>Z'|.bl _=>Z'|.int _=>Z'|.str _=>Z'|_=>Z_
noncomputable def WL:V->V->Bool
 |.cT,.cT=>Z'|.bl a,.bl b=>a==b|.bl a,.int b=>(if a then 1 else 0)==b
 |.int a,.bl b=>a==(if b then 1 else 0)
 |.int a,.int b=>a==b|.str a,.str b=>a==b|_,_=>Z_
def Zr{A:fJ}{s:az}{y x:V}{u v:au}(f:RelV y u)(c:RelV x v)(h:qc y=Z')(g:qc x=Z'):SeqAt.EqAt A s u v<|WL y x:=by
 cases y with
 |cT=>
  cases f;cases x with
  |cT=>cases c;exact SeqAt.EqAt.same _|bl b=>cases c;exact SeqAt.EqAt.none_bool b|int b=>let(t,rfl):=c;exact SeqAt.EqAt.none_int b t
  |str b=>let(t,rfl):=c;exact SeqAt.EqAt.none_str b t
  |_=>exact absurd (g) d9
 |bl a=>
  cases f;cases x with
  |cT=>cases c;exact SeqAt.EqAt.bool_none a|bl b=>cases c;exact SeqAt.EqAt.bool_bool a b|int b=>let(t,rfl):=c;exact SeqAt.EqAt.bool_int a b t
  |str b=>let(t,rfl):=c;exact SeqAt.EqAt.bool_str a b t
  |_=>exact absurd (g) d9
 |int a=>
  let(e,rfl):=f;cases x with
  |cT=>cases c;exact SeqAt.EqAt.int_none a e|bl b=>cases c;exact SeqAt.EqAt.int_bool a e b|int b=>let(t,rfl):=c;exact SeqAt.EqAt.int_int a e b t
  |str b=>let(t,rfl):=c;exact SeqAt.EqAt.int_str a e b t
  |_=>exact absurd (g) d9
 |str a=>
  let(e,rfl):=f;cases x with
  |cT=>cases c;exact SeqAt.EqAt.str_none a e|bl b=>cases c;exact SeqAt.EqAt.str_bool a e b|int b=>let(t,rfl):=c;exact SeqAt.EqAt.str_int a e b t
  |str b=>let(t,rfl):=c;exact SeqAt.EqAt.str_str a e b t
  |_=>exact absurd (g) d9
 |_=>exact absurd (h) d9
def eqU(x:V)(u:au):Bool:=match u with
 |.none=>WL .cT x|.bool b=>WL (.bl b) x|.int i _=>WL (.int i) x|.str z _=>WL (.str z) x|_=>Z_
def QU{x y:V}{u:au}(r:RelV y u)(f:qc y=Z'):eqU x u=WL y x:=by
 cases y with
 |cT=>cases r;rfl|bl b=>cases r;rfl|int i=>let(t,rfl):=r;rfl
 |str z=>let(t,rfl):=r;rfl
 |_=>exact absurd f d9
def LC{x:V}{xs:!V}{a:!au}(h:cx xs a)(f:xs.all qc=Z'):a.any (eqU x)=xs.any λy=>WL y x:=by
 induction h with|nil=>rfl|cons r _ ih=>rw[nK,bh]at f;rw[R7,R7,QU r f.1,ih f.2]
def Gc{A:fJ}{s:az}{x:V}{v:au}(c:RelV x v)(e:qc x=Z'){xs:!V}{b:!au}(h:cx xs b)(f:xs.all qc=Z'):∀u∈b,SeqAt.EqAt A s u v<|eqU x u:=by
 induction h with
 |nil=>simp_all|cons r _ ih=>
  rw[nK,bh]at f;intro g a;obtain rfl|a:=aT.mp a
  .rw[QU r f.1];exact Zr r c f.1 e
  simp_all
def inV(x:V)(xs:!V):Bool:=xs.any λy=>WL y x
def rIn(K:aS)(a:Bool):R2:=λx y H Q=>∃p xs,y=.ref p/\(lZ K H p xs\/VB K H p xs)/\qc x=Z'/\xs.all qc=Z'/\Q (.bl<|if a then (not<|inV x xs) else inV x xs) H
def MC:m_ X (d_ .In)<|rIn X.K Z_:=by
 rintro B s U H x y v u Q I e g ⟨p,xs,rfl,b,f,j,q⟩;cases g;obtain b|b:=b
 .let(a,r,c,k):=I.list b;refine SeqAt.in_listAt _ c.isList (λw hw=>Gc e f r j w Ż) (.bl _,H,I,W,?_);rw[show a.toArray.any _=a.any (eqU x) by simp,LC r j];exact q
 .let(a,r,c,k):=I.tuple b;refine SeqAt.in_tupleAt _ c (λw hw=>Gc e f r j w Ż) (.bl _,H,I,W,?_);rw[show a.toArray.any _=a.any (eqU x) by simp,LC r j];exact q
def Ei:kF X (.builtin "len") (λxs H Q=>∃p ys,xs=[.ref p]/\(lZ X.K H p ys\/VB X.K H p ys)/\Q (.int ys.length) H):=by
 rintro B s U H xs l Q I r ⟨p,ys,rfl,b,q⟩;let(u,rfl,g):=vals1 r;cases g;let m:=wa;obtain b|b:=b
 .let(f,c,e,k):=I.list b;let a:=c.length;exact Calls.call_len_list e.isList (by simp only[cp]<;>lia) (.int _,H,I.tok _,(_,by rw[cp,a]),q)
 .let(f,c,e,k):=I.tuple b;let a:=c.length;exact len_tuple e (by simp only[cp]<;>lia) (.int _,H,I.tok _,(_,by rw[cp,a]),q)
def Eh:kF X (.builtin "len") (λxs H Q=>∃z,xs=[.str z]/\z.length<=be/\Q (.int z.length) H):=by
 rintro B s U H xs a Q I r ⟨z,rfl,b,q⟩;let(u,rfl,t,rfl):=vals1 r;let c:=wa;exact len_str Ž (.int _,H,I.tok _,(_,W),q)
def kF.or{f:au}(h:kF X f r)(h':kF X f c):kF X f<|λxs H Q=>r xs H Q\/c xs H Q:=by
 intro B s U H xs a Q I b q;obtain q|q:=q
 .exact Ÿ
 exact Ÿ
def Eg:kF X (.type "list") (λxs H Q=>∃p ys,xs=[.ref p]/\(lZ X.K H p ys\/VB X.K H p ys)/\∀l,H l=M->Q (.ref l) (cO H l<|.lst ys)):=by
 rintro B s U H xs D Q I r ⟨p,ys,rfl,m,q⟩;let(u,rfl,C):=vals1 r;cases C;have ku:∀(a:!_),cx ys a->ys.length<=be->∀(h':cG) (f:Nat),(∀b o',s.heap.get? b=Y o'->h'.get? b=Y o') ->
   h'.get? _=Y _->EP X B U Q _ _:=λa c k h' f g e=>
  (.ref _,_,I.laid (t':=s.toks) g (aV _) (show hR _ X.w _ h' _<|.lst ys from(k,a,f,c,e)),W,q _<|I.dS.fresh<|aV _)
 obtain m|m:=m
 .let(a,c,v,k):=I.list m;let t:=c.length;let(o,w,A,n,x):=v.isList;exact call_list_seq p (.inl W) w A x (λh' f g e=>ku a c k h' f g e) Ż
 .let(a,c,v,k):=I.tuple m;let t:=c.length;let(o,w,A,n,x):=v;exact call_list_seq p (.inr W) w A x (λh' f g e=>ku a c k h' f g e) Ż
def tyV(K:aS)(T:String)(x:V)(H:Hp):Prop:=match x with
 |.str _=>T = "str"|.int _=>T = "int"| .ref p=>(T = "list" /\ ∃xs,lZ K H p xs)\/(T = "tuple" /\ ∃o,K.lookup p=Y o/\o.cls=.type "tuple" /\o.dict=M) \/
   (T = "dict" /\((∃a n,H p=Y (.dK a n))\/∃a,H p=Y (.dT a)))\/(T = "set" /\ ∃S n,H p=Y (.set S n))
 |_=>False
theorem Ox{s:az}{v:au}(I:Inv X B U H s)(r:RelV x v)(f:tyV X.K T x H):
  s.TypeIs v T/\∀a,v=.ref a->∃m,s.heap.get? a=Y m/\m.dict=none:=by
 cases x with
 |str z=>let(t,rfl):=r;cases f;simp[typeIs_str]
 |int i=>let(t,rfl):=r;cases f;simp[typeIs_int]
 |ref p=>
  cases r;obtain⟨rfl,xs,w⟩|⟨rfl,o,b,A,h⟩|⟨rfl,b⟩|⟨rfl,S,n,b⟩:=f
  .let(u,_,l,_):=I.list w;refine(l.isList.typeIs,λa e =>?_);let(o,n,e,c,h,_):=l
   simp_all
  .refine((o,I.nW p o b,A),λa e =>?_);cases e;exact(o,I.nW _ o b,h)
  .let z:∃o,s.heap.get? p=Y o/\o.ExactDict:=by
    obtain⟨g,m,b⟩|⟨g,b⟩:=b
    .let(_,_,_,_,o,_,e,ex,_):=I.dS p _ b
     simp_all
    .let(_,_,_,_,o,_,_,e,ex,_):=I.dS p _ b
     simp_all
   let(o,e,ex):=z;refine((o,e,ex.1),λa k =>?_);cases k;exact(o,e,ex.2.1)
  .let(o,_,_,_,e,ex,_):=I.dS p _ b;refine((o,e,ex.1),λa k =>?_);cases k;exact(o,e,ex.2.1)
 |_=>solve_by_elim
def aa2(K:aS)(T:String)(r:V->!V->Hp->VK->Prop)(to:TE):TE:=λU H Q=>to U H λx O=>tyV K T x O/\r x [] O Q
def tBM(K:aS)(T:String)(r:V->!V->Hp->VK->Prop)(to:TE)(t:TA):TE:=λU H Q=>to U H λx O=>tyV K T x O/\t U O λxs d=>r x xs d Q
variable {name:aM}{id:String}
def Po(p:PlainAttrs T)(c:Slot T name id)(e:Jp (.builtin id)=c9 (.type "method_descriptor"))(u:MtR X id r)(t:PE X o to)(b:@&(bJ o name X.env (eval o X.env)=eval o X.env))(a:@&((AI.endLine==xX.line)=true)):PE X (.Call (.Attribute o name AI) [] [] xX)<|aa2 X.K T r to:=by
 intro B s U H Q I h;refine wpAny_Call_method0_late b a<|eG (t B s U H _ I h) ?_;rintro v l ⟨x,O,g,f,k,m⟩;let(J,z):=Ox g f k;exact(T,id,p,c,e,J,z,nV W<|PySem.evalArgs_none<|u B l U O x [] v [] Q g f .nil m)
def uI(i:PlainAttrs T)(f:Slot T name id)(k:Jp (.builtin id)=c9 (.type "method_descriptor"))(S:MtR X id r)(R:PE X o to)(ha:PA X (e::es) t)(c:@&(bJ o name X.env (eval o X.env)=eval o X.env)) (g:@&(((b9 xX<|ak (e::es) X.env).all (λx=> (not x.1))&&(ey xX<|cD [] X.env).all (λx=>x.1.isSome)
   && decide ((e::es).length+([]:!gJ).length+(if ([]:!gJ).isEmpty then 0 else 1)<30))=true)) (b:@&((AI.endLine==xX.line)=true)) (P:@&(ak (e::es) X.env=(Z_,eval e X.env)::ak es X.env)) (a:@&((b9 xX<|ak es X.env).any (·.1)=false)) :
  PE X (.Call (.Attribute o name AI) (e::es) [] xX) (tBM X.K T r to t):=by
 intro B s U H Q I h;refine wpAny_Call_method_late c g b W<|eG (R B s U H _ I h) ?_;rintro v D ⟨x,O,p,l,A,K⟩;let(J,z):=Ox p l A;refine(T,id,i,f,k,J,z,?_);let m:=ha xX B D U O _ p K;rw[P]at m ⊢;refine nV (by show (Z_||(b9 _ _).any _)=Z_;rw[a]<;>solve_by_elim)<|Calls.evalArgs_plain ?_;exact eG m <|by rintro w C ⟨u,d,I2,E,F⟩;exact Ÿ
end
def MtM(X:Cx)(id:String)(r:V->!V->Hp->VK->Prop):Prop:=
 ∀(B:!(aD×Obj)) (s:az) (U:St) (H:Hp) (x:V) (xs:!V) (v:au) (a:!au) (Q:VK),Inv X B U H s->RelV x v->cx xs a->r x xs H Q ->
  bx (aZ X.prog X.w) X.A (Jq (.builtin id)<|v::a) (EP X B U Q) X.xe s
def cx.one{x:V}{a:!au}(h:cx [x] a):∃u,a=[u]/\RelV x u:=by
 obtain _|⟨r,_|_⟩:=h;simp_all
def cx.two{x y:V}{a:!au}(h:cx [x,y] a):∃u v,a=[u,v]/\RelV x u/\RelV y v:=by
 obtain _|⟨r,_|⟨q,_|_⟩⟩:=h;exact(_,_,W,r,q)
def cx.zero{a:!au}(h:cx [] a):a=[]:=by cases h;rfl
def cx.dropLast(h:cx xs a):cx xs.dropLast a.dropLast:=by
 induction h with
 |nil=>exact .nil|cons r t ih=>
  cases t with|nil=>exact .nil|cons q b=>solve_by_elim
theorem cx.rep(h:cx xs a):∀k:Nat,cx (aH k xs).flatten (aH k a).flatten
 |0 =>.nil|k+1=>by simp_all [AM,List.flatten_cons,cx.append,cx.rep]
theorem foldl_rep(a:!au):∀(k:Nat) (b:!au),
  List.foldl (λf c=>f++c) b.toArray (aH k a.toArray)=(b++(aH k a).flatten).toArray
 |0,b=>by simp
 | k+1,b=>by
  let e:b.toArray++a.toArray=(b++a).toArray:=by simp
  let g:b++a++(aH k a).flatten=b++(aH (k+1) a).flatten:=by rw[AM,List.flatten_cons,bU]
  rw[<- g,<- foldl_rep a k _,<- e,AM,Ju]
section
variable {X:Cx}{s:az}
def Inv.YH{a Qo:!au}{n:Nat}{f:Array au->Array au}{t':Nat}(I:Inv X B U H s)(m:H l=Y (.lst xs))(e:s.heap.get? l=Y { cls :=.type "list",data :=.seq a.toArray n })(h:f a.toArray=Qo.toArray)(c:cx ys Qo)(b:ys.length<=be):
  Inv X B U (cO H l<|.lst ys) { s with heap:=s.heap.update l<|Obj.mapSeq f,toks:=t' }:=by
 let q:=PySem.IsL.update e f;rw[h]at q;refine I.write (by rw[m];exact trivial) (.inl W) (λo u k g=>(bH _ _<|bz k).trans g) (_,q) ?_;exact(b,_,_,c,q)
def Inv.abV{t':Nat}(I:Inv X B U H s)(c:cx ys a)(b:ys.length<=be):
  Inv X B U (cO H s.heap.objs.size<|.lst ys) { s with heap:=s.heap.push { cls :=.type "list",data :=.seq a.toArray },toks:=t' }:=
 I.laid (λd d q=>ao _ q) (aV _) (b,a,0,c,bo _ W)
def Inv.fresh(I:Inv X B U H s):H s.heap.objs.size=none:=I.dS.fresh<|aV _
def Inv.Ip(I:Inv X B U H s)(b:H l=Y (.lst xs)):xs.length<=be/\∃(a:!au) (n:Nat),cx xs a/\xs.length=a.length/\s.heap.get? l=Y { cls :=.type "list",data :=.seq a.toArray n }:=by
 let(z,a,n,r,e):=I.dS l _ b;exact(z,a,n,r,r.length,e)
def F5(h:n<=be):mf n=false:=by
 simp_all [mf,decide_eq_false]
end
section
variable {X:Cx}
def JZ:V->!V->Hp->VK->Prop:=λx a H Q=>∃l xs y,x=.ref l/\a=[y]/\H l=Y (.lst xs)/\xs.length<be/\Q .cT (cO H l<|.lst<|xs++[y])
def jM:MtM X "list.append" JZ:=by
 rintro B s U H x k v m Q I c f ⟨l,xs,y,rfl,rfl,b,o,q⟩;cases c;let(u,rfl,g):=f.one;let(z,a,n,r,p,e):=I.Ip b;refine AK F.slot_list_append (_,e,W) F.entry_list_append (F.args_list_append_2 _ _) (PySem.list_append l _ n u Ż) (e,?_);refine(.cT,_,I.YH b e ż (r.append<|.cons g .nil) ?_,W,q)
 grind
def Td:V->!V->Hp->VK->Prop:=λx a H Q=>∃l b xs zs,x=.ref l/\a=[.ref b]/\H l=Y (.lst xs)/\H b=Y (.lst zs)/\xs.length+zs.length<=be/\Q .cT (cO H l<|.lst<|xs++zs)
def MI:MtM X "list.extend" Td:=by
 refine λB s U H x K v d Q I m o xx=>ah λkk =>?_
 let(l,b,xs,zs,rfl,rfl,k,C,P,q):=xx;cases m;let(u,rfl,p):=o.one;cases p;let(z,c,n,r,R,e):=I.Ip k;let(E,a,w,t,A,D):=I.Ip C;have g:c.toArray.size+a.toArray.size<=be:=Ż
 let f:¬((not c.toArray.isEmpty)&&mf (c.toArray.size+a.toArray.size))=true:=by rw[F5 g,NY];exact d9
 refine kk (AK F.slot_list_extend (_,e,W) F.entry_list_extend (F.args_list_extend_2 _ _)
  (AutoSeq1.list_extend_list_list_0 l _ n b _ w f Ż ž) (e,D,?_))
 refine(.cT,_,I.YH k e ż (r.append t) ?_,W,q);rw[bf];omega
def abn:V->!V->Hp->VK->Prop:=λx a H Q=>∃l xs y,x=.ref l/\a=[]/\H l=Y (.lst xs)/\xs[xs.length-1]?=Y y/\Q y (cO H l<|.lst xs.dropLast)
def PX:MtM X "list.pop" abn:=by
 refine λB s U H x w v A Q I g k xx=>ah λkk =>?_
 let(l,xs,y,rfl,rfl,f,o,q):=xx;cases g;let c:=k.zero;subst c;let(z,a,n,r,t,e):=I.Ip f;let(u,p,m):=r.get o;let b:a.toArray[a.toArray.size-1]?=Y u:=by simp_all
 refine kk<|AK F.slot_list_pop (_,e,W) F.entry_list_pop (F.args_list_pop_1 _) (MeetsSeq.list_pop_last l _ n u b Ż) (e,?_);refine(y,_,I.YH f e ?_ r.dropLast ?_,m,q)
 .simp
 .rw[List.length_dropLast]
  grind
def aeP:R2:=λx y H Q=>∃l b xs zs,x=.ref l/\y=.ref b/\H l=Y (.lst xs)/\H b=Y (.lst zs)/\xs.length+zs.length<=be/\∀p,H p=M->Q (.ref p) (cO H p<|.lst<|xs++zs)
def Py:m_ X (dF .Add) aeP:=by
 refine λB s U H x y v u Q I g f xx=>ah λkk =>?_
 let(l,b,xs,zs,rfl,rfl,o,p,D,q):=xx;cases g;cases f;let(z,c,n,r,E,e):=I.Ip o;let(A,a,C,k,m,w):=I.Ip p;refine kk<|PySem.P.add_list e w ?_ Ż;let t:c.toArray++a.toArray=(c++a).toArray:=by simp
 rw[t];exact(.ref _,_,I.abV (r.append k) Ż,W,q _ I.fresh)
def aeO:R2:=λx y H Q=>∃l k xs,x=.ref l/\y=.int k/\H l=Y (.lst xs) /\ -(2 ^ 63)<=k/\k<2 ^ 63/\xs.length*k.toNat<=be /\
 ∀p,H p=M->Q (.ref p) (cO H p<|.lst (aH k.toNat xs).flatten)
def VG(xs:!a)(k:Nat):(aH k xs).flatten.length=k*xs.length:=by
 simp_all
def Ym:m_ X (dF .Mult) aeO:=by
 rintro B s U H x y v u Q I rx ry ⟨l,k,xs,rfl,rfl,hH,J,z,hz,q⟩;cases rx;let(t,rfl):=ry;let(c,Iu,n,r,hl,e):=I.Ip hH;have VH:Iu.toArray.size*k.toNat<=be:=Ż
 let afG:¬Iu.toArray.size*k.toNat > (2 ^ 63-1)/8:=by grind [be]
 let afD:¬(not<|Builtin.List.listFitsIndex k)=true:=by rw[fitsIndex_both J z];exact d9
 have acb:¬mf (Iu.toArray.size*k.toNat)=true:=by rw[F5 VH];exact d9
 let afv:List.foldl (λx1 x2=>x1++x2) #[] (aH (if Iu.toArray.isEmpty=Z' then 0 else k.toNat) Iu.toArray)=(aH k.toNat Iu).flatten.toArray:=by
  have f0:∀m:Nat,List.foldl (λx1 x2=>x1++x2) #[] (aH m Iu.toArray)=(aH m Iu).flatten.toArray:=λm=>by simp_all [foldl_rep,e_]
  rw[f0];cases Iu<;>simp_all
 refine wpAny_binaryOp_repeat_ref (T:= "list") (U:= "int") ſ (_,e,W) (λs'=>typeIs_int s' k t) noFill_list_mul F.fills_int_mul F.slot_int_rmul repeat_list F.slot_int_index.lookup
  (AK F.slot_int_rmul (typeIs_int s k t) F.entry_int_rmul (F.args_int_rmul_2 _ _) (int___rmul___int_list k t l Iu.toArray n)
   (e,W,(_,e,W),AK F.slot_list_mul (_,e,W) F.entry_list_mul (F.args_list_mul_2 _ _) (AutoListH.list___mul___list_int_3 l Iu.toArray n k t afD afG acb) (e,?_)))
 rw[afv];exact(.ref _,_,I.abV (t':=s.toks) (r.rep k.toNat) (by rw[VG,Nat.mul_comm];exact hz),W,q _ I.fresh)
end
section
variable {s:az}
end
section
variable {X:Cx}
end
end L2
namespace Att
open PySem PySem.W PySem.Calls PyProof.Rows
def xO{P:Params}:∀(c:!Int) (e:!au),WellAll P h e (c.map WData.int)->Hu e c:=by
 intro c
 induction c with
 |nil=>intro e w;cases w;exact .nil
 |cons n c ih=>
  intro e w;cases w with
  |cons a b=>
   cases a
   exact Ÿ
theorem Mi{l:OpenLaw}{n:Nat}(A:l.most=Y n){P:Params}{h:cG}{args:!WData}{c:!au}(e:l.row.toRowW.claim.pre args=Z')(o:WellAll P h c args):
  ∃a s b,c=[aQ a]/\args=[WData.list<|b.map WData.int]/\h.get? a=Y { cls :=.type "list",data :=.seq s.toArray }/\Hu s b/\b.length<=n:=by
 let t:l.pre.holds [] _=true:=(pre_splitW e).2;let(d,r,rfl,J,z):=hasAllW_cons (pre_splitW e).1;obtain rfl:=hasAllW_nil z;let(xs,rfl,C):=hasW_list J;let(b,rfl):=items_int C;let f:b.length<=n:=by
  let m:(WTm.not<|.lt (.lit<|.int n)<|.len<|.arg 0).holds [] { args:=[.list<|b.map .int] }=true:=by
   let m:=(holds_andW t).1
   simp_all
  let k:=condW_of m<|w_not<|w_lt w_lit<|w_len_list<|w_arg W
  simp_all
 cases o with
 |cons v u=>
  cases u;cases v with|list x g=>exact(_,_,b,W,W,x,xO b _ g,f)
def Mt(l:OpenLaw)(args:!WData):l.row.toRowW.claim.post args (.bool Z') args=true:=
 postW_of
  Ÿ
  (w_eq_bool (w_res W) w_lit) W
def GU{l:OpenLaw}{n:Nat}{q:bj}{e:!aM}{R:(aM->↑au)->cG->Prop}{Q:cQ->cG->Prop}{d:DefRec}(hn:l.most=Y n)(F:d.params.defaults=[]) (u:∀(w:cQ) (c b:az) (i C:aM->↑au) (t:aD) (o:Obj) (A x h:au) (a:aD) (k:!au) (v:!Int),
   Ground q e [] R w c i C b.heap->Q w b.heap ->
   b.heap.get? t=Y o->o.data=.func (docDef d.name d.params d.body d.scope A x h)->b.heap.CodeRec x d.name->i d.name=Y (.ref t) ->
   b.heap.get? a=Y { cls :=.type "list",data :=.seq k.toArray }->Hu k v->v.length<=n->b.gens=#[] ->
   ml (aZ l.prog w) NV (.call (.ref t) ([.ref a],[])) (λr s'=>r=.ok (.ret<|.bool Z')/\OldK b.heap s'.heap/\s'.os=b.os/\Bx s'.gens) b) :
  WalkO q e R Q l.row.toRowW d [] (λf k=>PySem.call f k):=by
 intro w c b i C G j t o A x h dV S ho hd H P E hg args K as m y T D hlo;obtain rfl:dV=.none:=Dflts.none P F;obtain rfl:S=.none:=Dflts.noKw P;let(a,k,v,rfl,trivial,p,g,s):=Mi hn m D;refine enter_call<|nU (u w c b i C t o A x h a k v G j ho (fd_plain hd) H E p g s hg) λr s' X =>?_;let(rfl,z,h3,h4):=X;exact(.inl (_,_,[],W,λ_=>rfl,.bool _,Mt l _,λ_=>(List.Pairwise.nil,λ_ hm=>nomatch hm)),z,h3,h4)
section
variable {s:az}{K:aS}
end
end Att
namespace L2
open PySem PySem.Spec PyProof.Rows
def L1{a:!au}{b:!Int}(h:Hu a b):cx (b.map V.int) a:=by
 induction h with|nil=>exact .nil|cons n t h ih=>solve_by_elim
def RM(H:Hp):Prop:=∀b,H b=M\/∃o xs,H b=Y (.KU o<|.lst xs)
def Qh{P:bj}{K:aS}{f:az}(KX:K.In f.heap)(S:f.heap.Ns aW i)(l:f.heap.Ns builtinsNs mb)(hbb:∀x:aM,x ≠ "__name__" ->mb x=fG x)(T:f.heap.NoLimit)(hg:f.gens=#[])(ha:f.heap.get? a=Y { cls :=.type "list",data :=.seq A.toArray })(L:Hu A E)(hl:E.length<=be)(hr:dn k NV)(F:∀base:cG,K.In base->base.Ns aW i->b_ P w K i base CX k fa I [x] sp)(C:∀(s:az) (u:au),NZ s I ([u],[]) [(x,u)])(hsp:∀H:Hp,RM H->lZ K H a (E.map V.int)->sp [.ref a] H (λv y=>v=.bl Z') λy y y=>False)(hCX:∀H e s',CX [] H f (λy y y=>False) e s'->False):
  ml (aZ P w) NV (.call (.ref fa) ([.ref a],[])) (λr s'=>r=.ok (.ret<|.bool Z')/\OldK f.heap s'.heap/\s'.os=f.os/\Bx s'.gens) f:=by
 let rv:=L1 L;let j:=L.length;have t:∀H:Hp,RM H->lZ K H a (E.map V.int)->lT P w H f.heap->(∀b,H b≠M->b=a)->(H a≠M->K.lookup a=M) ->
   ml (aZ P w) NV (.call (.ref fa) ([.ref a],[])) (λr s'=>r=.ok (.ret<|.bool Z')/\OldK f.heap s'.heap/\s'.os=f.os/\Bx s'.gens) f:=by
  intro H hO hS R hA hK;let g:∀ {b:aD}{o:Obj},f.heap.get? b=Y o->H b=M->(IB f.heap H).get? b=Y o:=λe n=>Qw e n
  let noA:∀ {b:aD}{o:Obj}{es:Array DictEntry}{ep:Nat},f.heap.get? b=Y o->o.data=.dict es ep->H b=none:=fun {b o es ep} e d=>by rcases q:H b with _|u<;>grind
  have p:∀ {b:aD}{m:aM->↑au},f.heap.Ns b m->(IB f.heap H).Ns b m:=fun {b m} (o,es,ep,e,d,r)=>(o,es,ep,g e<|noA e d,d,r)
  let X:=λb o e=>g (KX b o e) ŷ
  let hM:Mod K i<|IB f.heap H:=(X,p S,(mb,p l,hbb),let(mc,J,z):=T;(mc,p J,z));refine nU ((F _ X<|p S).run NV [] f H ([.ref a],[]) [.ref a] [.ref a] _ _ hr ((W,hM,λb o e=>T7 e,pU<|MX _ _,trivial,λb l=>absurd (show b∈([]:!aD) from l) ż,R,.of_eq hg)) (C f<|.ref a) (.cons W .nil)<|hsp H hO hS) λr s' h =>?_
  cases r with
  |error e=>exact(hCX H e s' h).elim|ok fl=>
   cases fl with
   |ret u=>
    let(v,H',os,bare,un,Q,r',q):=h;let q':v=.bl true:=q;subst q';obtain rfl:u=t7 true:=r';refine(W,OldK.of_keep λb o e =>?_,os,bare);cases q:H b with
    |none=>exact un.keep b o e q (by intro c;exact absurd (show b∈([]:!aD) from c) ż) ż
    |some u=>
     obtain c|⟨ob,xs,c⟩:=hO b
     .rw[q]at c;cases c
     .let z2:=un.Bk b ob _ c;let(e1,_):=R b _ c;let(e2,_):=Q b _ z2;rw[e]at e1;cases e1;exact e2
   |_=>exact dN h
 cases hk:K.lookup a with
 |some o=>let e:=KX a o hk;rw[ha]at e;cases e;refine t _ (λy =>.inl W) (.inr (_,A.toArray,_,hk,W,W,W,by rw[cp,j];exact hl,by simpa using rv)) (λb u c=>by cases (c)) (λb c=>absurd W c) λc=>absurd W c
 |none=>
  refine t (λb=>if b=a then Y _ else M) (λb =>?_) (.inl<|.inr ({ cls :=.type "list",data :=.seq A.toArray },if_pos W)) (λb u c =>?_) (λb c =>?_) λy=>hk
  .grind
  .by_cases l:b=a
   .cases ((if_pos l).symm.trans c);subst l;exact(ha,Ż,A,_,rv,ha)
   simp_all
  simp_all
def So{l:PySem.W.OpenLaw}{n k:Nat}{q:bj}{c:!aM}{R:cQ->cG->Prop}{d:DefRec}{K:Params->aS}{CX:cQ->WX}{sp:cQ->Sp}{x:aM}(X:l.most=Y n)(C:n<=be)(E:d.params.defaults=[])(T:dn k NV)(hY:∀(w:cQ) (h:cG),R w h->(K w.params).In h) (F:∀(w:cQ) (i:aM->↑au) (t:aD) (h:cG),(K w.params).In h->h.Ns aW i->i d.name=Y (.ref t) ->
   ∃I:dU,(∀(s:az) (u:au),NZ s I ([u],[]) [(x,u)]) /\
    ∀base:cG,(K w.params).In base->base.Ns aW i->b_ l.prog w (K w.params) i base (CX w) k t I [x] (sp w)) (A:∀(w:cQ) (H:Hp) (a:aD) (r:!Int),r.length<=n->RM H->lZ (K w.params) H a (r.map V.int)->sp w [.ref a] H (λv z=>v=.bl Z') λz z z=>False) (y:∀(w:cQ) (H:Hp) (s:az) (e:au) (s':az),CX w [] H s (λz z z=>False) e s'->False) :
  PySem.W.WalkO q c XP R l.row.toRowW d [] (λf P=>PySem.call f P):=by
 refine Att.GU X E λw Q m i mb t o pm cd VJ a P r G j ho hd hcd D p g b hg =>?_
 let S:=hY w _ j;let(I,hb,hF):=F w i t _ S G.T.g D;exact Qh S G.T.g G.T.b G.T.builtins G.T.nolimit hg p g (bM b C) T hF hb (λH hO hS=>A w H a r b hO hS) λH e s'=>y w H m e s'
def Oj{l:PySem.W.OpenLaw}{n k:Nat}{q:bj}{b:!aM}{P:(aM->↑au)->cG->Prop}{t:cQ->cG->Prop}{d:DefRec}{K:Params->aS}{CX:WX}{sp:aS->Sp}{x:aM}(D:l.most=Y n)(m:n<=be)(o:d.params.defaults=[])(C:dn k NV)(E:∀(w:cQ) (h:cG),t w h->(K w.params).In h) (F:∀(w:cQ) (i:aM->↑au) (r:aD) (h:cG),(K w.params).In h->h.Ns aW i->i d.name=Y (.ref r) ->
   ∃I:dU,(∀(s:az) (u:au),NZ s I ([u],[]) [(x,u)]) /\
    ∀base:cG,(K w.params).In base->base.Ns aW i->b_ l.prog w (K w.params) i base CX k r I [x] (sp<|K w.params)) (g:∀(K:aS) (H:Hp) (a:aD) (c:!Int),c.length<=n->RM H->lZ K H a (c.map V.int)->sp K [.ref a] H (λv y=>v=.bl Z') λy y y=>False) (p:∀(H:Hp) (s:az) (e:au) (s':az),CX [] H s (λy y y=>False) e s'->False) :
  PySem.W.WalkO q b P t l.row.toRowW d [] (λf A=>PySem.call f A):=
 So D m o C E F (λw H a c J z j=>g _ H a c J z j) λy H s e s'=>p H s e s'
noncomputable def cL(s:cS)(j:Nat):cS:=match s with
 |.ClassDef _ _ _ a _ _ _ _ _ _ _=>a.getD j (.Pass (0,0,0,0))|_ =>.Pass (0,0,0,0)
noncomputable def lY(s:cS):Arguments:=match s with
 |.FunctionDef _ a _ _ _ _ _ _ _ _=>a|_=>{ posonlyargs:=[],args:=[],vararg:=M,kwonlyargs:=[],kw_defaults:=[],kwarg:=M,defaults:=[] }
noncomputable def fm(s:cS):!cS:=match s with
 |.FunctionDef _ _ b _ _ _ _ _ _ _=>b|_=>[]
noncomputable def bu(s:cS):Scope:=match s with
 |.FunctionDef _ _ _ _ _ _ a _ _ _=>a|_=>{ kind :=.function,names:=[],isGenerator:=Z_,isCoroutine:=Z_ }
abbrev gk:WX:=λa a a a a a=>False
abbrev E0:XK:=λa a a=>False
def ju{X:Cx}:nR gk X E0:=λa a a a a a a h=>h.elim
structure gx(K:aS)(x qual:aM)(st:cS)(f:aD)(fd:dU):Prop where
 ex:∃(oc:au) (od:↑aD) (kV VJ pm:au) (an:↑aD) (WS ct:au) (osl:Array<|↑au),
  fd=fnOf x qual (lY st) (fm st) (bu st) .none kV VJ pm an WS ct/\K.lookup f=some (oc,od,.func fd,osl)/\codeIn K WS qual=true
 kp:jU K (.ref f)=true
section
variable {P:bj}{K:aS}
theorem gx.ok{st:cS}{f:aD}(F:gx K x c st f I)(S:fo N q<|bu st)(m:∀g H Q E,sp g H Q E->g.length=q.length) (l:∀(e:au) (A:fJ) (b:!Env) (s:az) (H:Hp) (g:!V) (Q:VK) (E:XK),dn k (A.deeper<|mj c (bu st) s.heap.objs.size f e)->sp g H Q E ->
   ∃t,mh (pJ gk P w K i base N c (bu st) f e A b s H E).Ig (fm st) t/\t { nx:=λ_ H'=>Q .cT H',rt:=Q } (start N g) H):b_ P w K i base gk (k+1) f I q sp:=by
 let(d,D,R,v,C,X,e,T,r,rfl,lk,p):=F.ex;refine WK lk p S m λA b s H g Q E u o =>?_
 let(t,h,a):=l e A b s H g Q E u o;exact(t,h.Ig,a)
def gx.binds{st:cS}{f:aD}(F:gx K x a st f I)(h:∀(k b g:au) (m:↑aD) (c l:au) (e:!au),e.length=q.length->bindArgs (fnOf x a (lY st) (fm st) (bu st) .none k b g m c l) (e,[])=c9 (q.zip e)):Binds K I q []:=by
 let(s,r,k,b,g,m,c,l,o,rfl,_):=F.ex;exact .all<|h k b g m c l
def IM{st:cS}{f:aD}{s:au}{m:au}(l:K.lookup f=Y (s,r,.func<|fnOf x a (lY st) (fm st) (bu st) .none m e h p b o,g))(c:codeIn K b a=Z')(k:jU K (.ref f)=Z'):gx K x a st f<|fnOf x a (lY st) (fm st) (bu st) .none m e h p b o:=((s,r,m,e,h,p,b,o,g,W,l,c),k)
end
def nG(a:dn k A):A.units+1<l9:=Nat.lt_of_le_of_lt Ż a.units
def Mf{n:Nat}(h:n<=1000):n<be:=Nat.lt_of_le_of_lt h ſ
section
variable {X:Cx}
def pv(i:Nat)(e:@&(X.N[i]?=Y x))(b:autoParam (WV X.env.scope x) Ű)(c:‹(x==("__debug__" : aM))=false›)(a:‹(x==("__classdict__" : aM))=false›):PE X (.Name x G)<|eS i:=Ye e b c a
end
def i9{A B:Prop}(h:B):if Z_=Z' then A else B:=by
 simp_all
def qm{A B:Prop}(h:A):if Z'=Z' then A else B:=by
 simp_all
def bD(H H':Hp):Prop:=∀b o,H b=Y o->H' b=Y o
def bD.refl(H:Hp):bD H H:=λa a h=>h
def bD.trans{d:Hp}(a:bD H O)(b:bD O d):bD H d:=λc o h=>b c o<|a c o h
def bD.free(e:bD H H')(h:H' l=Option.none):H l=Option.none:=by
 rcases q:H l with _|o
 .rfl
 rw[e l o q]at h;cases h
def bD.seq{K:aS}{a:aD}(e:bD H H')(h:lZ K H a xs):lZ K H' a xs:=by
 obtain(h|⟨o,h⟩)|h:=h
 .exact Ÿ
 .exact .inl<|.inr (o,e _ _ h)
 .exact .inr h
end L2
namespace L2
open PySem
end L2
namespace L2
open PySem PyProof.Rows
def Gm(h:Hu a b):a.length=b.length:=by
 induction h<;>simp_all
section
variable {s:az}
end
end L2
namespace L2
open PySem PyProof.Rows PySem.Spec
section
variable {R:R5->az->Prop}{f:!aD}{P:Nat->au->Prop}{m:Nat->az->Prop}
end
section
variable {s:az}
end
end L2
namespace L2
open PySem PySem.Spec PyProof.Rows
section
variable {P:bj}
def lT.JD(x:lT P w H h)(f:H a=M)(d:hR P w (cO H a o) h a o):lT P w (cO H a o) h:=λb u e=>by
 by_cases k:b=a
 .simp_all [aP]
 .rw[aI k]at e;exact(x b u e).uk (λc v c q=>q) (λc q=>by rw[aI<|bc q f];exact q) λc l q=>by rw[aI<|bc q f];exact q
def lT.CN(x:lT P w (cO H a<|.lst d) h)(m:H a=M):lT P w H h:=λb u e=>by
 let n:=bc e m;have k:∀c v,cO H a (.lst d) c=Y v->v ≠ .lst d->H c=Y v:=λc v q l=>by
  by_cases f:c=a
  .subst f;rw[aP]at q;cases q<;>trivial
  simp_all [aI]
 exact(x b u<|by simp_all [aI]).uk (λc v g q=>q) (λc q=>k c _ q Ż) λc i q=>k c _ q Ż
end
noncomputable def lobj(g:!au)(n:Nat):Obj:={ cls :=.type "list",data :=.seq g.toArray n }
section
variable {X:Cx}{s:az}{D:aD}
def Inv.JD(I:Inv X (j++[(D,lobj g n)]) t H s)(r:cx i g)(A:i.length<=be)(E:X.s₀.heap.objs.size<=D)(B:∀p∈X.pn++j,p.1≠D):Inv X j t (cO H D<|.lst i) s:=by
 let(e,d,C,_):=I.pin (D,lobj g n) ż;let f:∀b o,X.s₀.heap.get? b=Y o->b≠D:=λb o q z=>by
  let l:=aO q
  lia
 refine(I.ok,I.os,I.bare,(I.base.keep,I.base.slot,λb o q m x =>?_,I.base.there,λb k q =>?_,λb o u q =>?_,λb w q =>?_),I.loc,I.cell,?_,λx c q =>?_,λp q =>?_,I.dS.JD d (A,g,n,r,e),I.len)
 .rw[aI<|f b o q];exact I.base.free b o q m x
 .have:=I.base.CP b k q;rw[aI<|bc this d];exact this
 .have:=I.base.Bk b o u q;rw[aI<|bc this d];exact this
 .let(a,this):=I.base.CQ b w q;exact(a,by rw[aI<|bc this d];exact this)
 .rw[aI<|bz C];exact I.free
 .let y:c≠D:=λz=>by
   let(v,L,h,F):=I.cell x c q
   simp_all
  rw[aI y];exact I.lQ x c q
 .let(K,J,G):=I.pin p (by rw[<- bU];exact br _ q);exact(K,by rw[aI<|B p q];exact J,G)
def Inv.CN(I:Inv X j t (cO H D<|.lst i) s)(h:H D=M)(B:D≠X.env.locals)(C:D∉X.fs):∃g n,cx i g/\i.length<=be/\Inv X (j++[(D,lobj g n)]) t H s:=by
 let(A,g,n,r,e):=I.dS D _ aP;have k:∀c v,cO H D (.lst i) c=Y v->v ≠ .lst i->H c=Y v:=λc v q y=>by
  by_cases d:c=D
  .subst d;rw[aP]at q;cases q<;>solve_by_elim
  .rwa [aI d]at q
 let f:∀c,cO H D (.lst i) c=M->H c=none:=λc q=>by grind [aI]
 refine(g,n,r,A,I.ok,I.os,I.bare,(I.base.keep,I.base.slot,λb o q m x=>f _<|I.base.free b o q m x,I.base.there,λb l q=>k _ _ (I.base.CP b l q) ż,λb o u q=>k _ _ (I.base.Bk b o u q) ż,λb w q =>?_),I.loc,I.cell,f _ I.free,λx c q=>f _<|I.lQ x c q,λp q =>?_,I.dS.CN h,I.len)
 .obtain _:=I.base.CQ b w q
  grind
 .rw[<- bU]at q;obtain q|q:=aX.mp q
  .let(G,F,E):=I.pin p q;exact(G,f _ F,E)
  simp_all [lobj]
end
theorem iH:∀a n G_,eQ n a G_=eQ n a []++G_
 |[],n,G_=>rfl| (x,k)::r,n,G_=>by
  unfold eQ;split
  .rw[iH r _ _,iH r _ [(x,n)],bU];rfl
  .exact iH r n G_
theorem j6:∀a n b x c,(x,c)∈eQ n a b->(x,c)∈b\/(x,Hs)∈a
 |[],n,b,x,c,h =>.inl h| (y,k)::r,n,b,x,c,h=>by
  unfold eQ at h;split at h
  .obtain q|q:=j6 r _ _ x c h
   .grind
   .exact .inr<|ax _ q
  .obtain q|q:=j6 r _ _ x c h<;>simp_all
noncomputable def mS(a:!(aM×aD)):!(aM×NameKind)->!(aM×aD)->!(aM×aD)
 |[],b=>b|(x,k)::r,b=>if k == .free then mS a r ((x,(a.lookup x).getD 0)::b) else mS a r b
theorem q_{env}(f)
  (hf:∀name kind cs,f (name,kind) cs=if kind == .free then (do let a <- cellOf env name;c9<|.yield<|(name,a)::cs) else c9 (.yield cs)) :
  ∀names G_,(∀y∈names,y.2=.free->∃c,env.cells.lookup y.1=Y c)->(forIn names G_ f:Sem _)=c9 (mS env.cells names G_)
 |[],G_,_=>by solve_by_elim
 | (x,k)::r,G_,h=>by
  rw[List.forIn_cons,hf];unfold mS;cases hk:k==qf with
  |false=>exact q_ f hf r G_ λy hy=>h y Ÿ
  |true=>
   let(c,e):=h _ ay Ż;let e2:cellOf env x=c9 c:=by unfold cellOf;rw[e]
   rw[e2,e];exact q_ f hf r _ λy hy=>h y<|ax _ hy
def Bp{env}(h:∀y∈a.names,y.2=.free->∃c,env.cells.lookup y.1=Y c):closureFor a env=c9 (mS env.cells a.names []):=by
 simp only[closureFor];rw[q_ _ λname b d=>by simp_all _ [] h];rfl
theorem wD:∀ {a:!(aM×NameKind)}{d:!(aM×aD)}{x:aM}{c:aD},(x,c)∈mS b a d->(x,c)∈d\/((x,qf)∈a/\c=(b.lookup x).getD 0)
 |[],d,x,c,h =>.inl h| (y,k)::r,d,x,c,h=>by
  unfold mS at h;split at h
  .obtain q|q:=wD h
   .grind
   simp_all
  .obtain q|q:=wD h<;>simp_all
theorem tT:∀ {b:!(aM×NameKind)}{a:!(aM×aD)}{x:aM},(∃c,(x,c)∈a)->∃c,(x,c)∈mS d b a
 |[],a,x,h=>h| (y,k)::r,a,x,(c,h)=>by
  unfold mS;split
  .exact tT (c,ax _ h)
  .exact tT (c,h)
theorem wF{cells:!(aM×aD)}:∀ {a:!(aM×NameKind)}{G_:!(aM×aD)}{x:aM},(x,qf)∈a->∃c,(x,c)∈mS cells a G_
 | (y,k)::r,G_,x,h=>by
  unfold mS;obtain e|h:=aT.mp h
  .simp_all [tT,ay]
  .split
   .exact wF h
   .exact wF h
theorem sx:∀ {l:!(aM×a)}{x:aM}{c:a},(x,c)∈l->∃d,l.lookup x=Y d
 | (y,v)::r,x,c,h=>by
  rw[fO];cases b:x==y with
  |true=>solve_by_elim|false=>
   obtain e|h:=aT.mp h
   .simp_all
   .exact sx h
theorem tu:∀ {l r:!(aM×a)}{x:aM},(l++r).lookup x=(l.lookup x).or (r.lookup x)
 |[],r,x=>by simp
 |(y,v)::l,r,x=>by grind
theorem mG{a:Env}:∀ {b:!(aM×NameKind)}{x:aM},(b.map λ(n,k)=>if (k==qf&&a.scope.kind == .function&&a.kindOf n==Y .cell) then (n,Hs) else (n,k)).lookup x =
  (b.lookup x).map λk=>if (k==qf&&a.scope.kind == .function&&a.kindOf x==Y .cell) then Hs else k
 |[],_=>rfl|(n,k)::r,x=>by show Ht x ((if _ then (n,_) else (n,k))::_)=_;split<;>rw[fO,fO]<;>cases e:x==n<;>first|exact mG|(cases eq_of_beq e;simp_all)
def oG{a b:Nat}(h:a<b):a<b:=h
def abN{b:Nat}(h:a<=b):a<=b:=h
def BY{a b:Nat}(h:a=b):a=b:=h
abbrev mT(X:Cx)(f:Scope)(C:aD):Env:=
 { scope:=relabel f X.env,locals:=C,globals:=X.env.globals,cells:=eQ (C+1) f.names<|mS X.env.cells f.names [],qual:=X.env.qual,func:=M,code:=X.env.code,frame:=X.env.frame,builtins:=X.env.builtins }
def Cx.qr(X:Cx)(N:!aM)(f:Scope)(C:aD)(s:az)(H:Hp)(a:!aD):Cx:=
 { X with N:=N,s₀:=s,H₀:=H,env:=mT X f C,outer:=X.stack,stack:=X.stack,ex:=a,fn:=λx=>f.names.lookup x==Y .cell,pn:=[],xe:=λb b=>False }
noncomputable def mB(t:!(↑Nat))(w:St):St:=t.map λo=>match o with|some j=>(w[j]?).getD M|none=>M
structure d6(X:Cx)(N:!aM)(src:!(↑Nat))(scope:Scope):Prop where
 kind:scope.kind=.function
 uniq:∀y∈scope.names,scope.names.lookup y.1=some y.2
 free:∀y∈scope.names,y.2=.free->X.env.scope.names.lookup y.1=some .cell\/X.env.scope.names.lookup y.1=some .free
 len:src.length=N.length
 acn:∀(i j:Nat) (x:aM),src[i]?=some (some j)->N[i]?=some x->X.N[j]?=some x/\scope.names.lookup x=some .free
section
variable {X:Cx}{s:az}{f:Scope}
def Ih{d} (l:∀c,(∀b o,s.heap.get? b=Y o->c.get? b=Y o)->c.Ns s.heap.objs.size (λg=>M)->CellsOk c (s.heap.objs.size+1) (eQ (s.heap.objs.size+1) f.names []) ->
   Q { scope:=f,locals:=s.heap.objs.size,globals:=X.env.globals,cells:=eQ (s.heap.objs.size+1) f.names j,qual:=X.env.qual,func:=M,code:=X.env.code,frame:=X.env.frame,builtins:=X.env.builtins } { s with heap:=c }) :
  bx d A (newFunctionEnv f X.env.globals j [] X.env.qual M .none<|Y X.env) Q E s:=by
 refine ai<|wpAny_alloc ?_;refine ai (wpAny_layCells _ λname a h=>by simp_all _ _ _ _ ?_);let i:=cellsFrom_ok f.names (s.heap.push { cls :=.type "dict",data :=.dict #[] }) (s.heap.objs.size+1) [] (λg g k=>(nomatch k),List.Pairwise.nil) Ż;rw[eC]at i;rw[eC ..];exact ai<|aJ<|aJ<|l _ (λb o e=>pushCells_keeps _ _ b o<|ao _ e) ((Heap.Ns.new _ _).keeps<|pushCells_keeps _ _) i
theorem lp(S:d6 X N t f)(i:X.Ok)(h:(mT X f C).cells.lookup x=Y c):
  (f.names.lookup x=Y .cell/\(x,c)∈eQ (C+1) f.names [])\/(f.names.lookup x=Y .free/\X.env.cells.lookup x=Y c):=by
 let h:(eQ _ _ _).lookup x=Y c:=h;rw[iH,tu]at h;cases e:(eQ _ _ []).lookup x with
 |some d=>
  rw[e]at h;have:=by simpa using h
  subst this;let q:=PySem.mem_of_lookup e;obtain z|z:=j6 _ _ _ _ _ q
  .simp at z
  .exact .inl (S.uniq _ z,q)
 |none=>
  rw[e]at h;obtain z|⟨z,a⟩:=wD<|PySem.mem_of_lookup h
  .simp at z
  .let(d,b):=i.has x<|S.free _ z W;exact .inr (S.uniq _ z,Ż)
def Vw(S:d6 X N t f)(h:f.names.lookup x=Y .cell):∃c,(mT X f C).cells.lookup x=Y c:=by
 let(c,e):=Ap h;refine(c,?_);show (eQ _ _ _).lookup x=Y c;rw[iH,tu,e];rfl
def GQ(S:d6 X N t f)(a:X.Ok){C}(h:f.names.lookup x=Y .free):∃c,(mT X f C).cells.lookup x=Y c/\X.env.cells.lookup x=Y c:=by
 let(d,i):=wF<|PySem.mem_of_lookup h;let(c,j):=sx i;have e:=by
  show (eQ (C+1) f.names<|mS X.env.cells f.names []).lookup x=Y c;rw[iH,tu];rcases e:(eQ _ _ []).lookup x with _|d
  .simpa using j
  obtain z|z:=j6 _ _ _ _ _<|PySem.mem_of_lookup e
  .simp at z
  .have:=S.uniq _ z
   simp_all
 obtain _|_:=lp S a e
 .simp_all
 simp_all
def GP(x:aM):(mT X f C).kindOf x=(f.names.lookup x).map λk=>if (k==qf&&X.env.scope.kind == .function&&X.env.kindOf x==Y .cell) then Hs else k:=by
 exact mG
def Fo{i:Nat}{v}(h:(mB t w)[i]?=Y (Y v)):∃j,t[i]?=Y (Y j)/\w[j]?=Y (Y v):=by
 unfold mB at h;rw[aY]at h;let(o,e,h):=aj.1 h;rw[e];cases o with
 |none=>cases h|some j=>
  refine(j,W,?_);let h:=by simpa using h
  rcases q:w[j]? with _|z<;>simp_all
def Nz{ex:!aD}{h'}{D C}{o}(S:d6 X N t f)(I:Inv X B w H g)(J:∀b∈ex,AB X B H b)(P:∀b∈ex,∃o,g.heap.get? b=Y o)
  (hD:D=g.heap.objs.size) (hC:C=g.heap.objs.size+1) (G:∀b o,g.heap.get? b=Y o->h'.get? b=Y o) (T:h'.get? D=Y o) (R:∀v,o.data ≠ .cell v)
  (Q:h'.Ns C<|λ_=>M) (E:CellsOk h' (C+1)<|eQ (C+1) f.names []) :
  Inv (X.qr N f C g H ex) (X.pn++B++[(D,o)]) (mB t w) H { g with heap:=h' }:=by
 let lt:∀ {b:Nat}{o:Obj},g.heap.get? b=Y o->b<g.heap.objs.size:=λe=>aO e
 have fr:∀a:Nat,g.heap.objs.size<=a->H a=none:=λa h=>I.dS.fresh h
 have A:∀(x:aM) (c:Nat),X.env.cells.lookup x=Y c->c<g.heap.objs.size:=λx c e=>by let(v,z):=I.cell x c e;exact z.lt
 have d:∀ {x:aM}{c:Nat},(x,c)∈eQ (C+1) f.names []->C+1<=c:=λq=>(E.empty _ _ q).2
 refine((I.mod,S.kind,I.ok.glob,I.ok.blt,?_,?_,?_,?_,I.ok.hd,I.ok.frames,.inl W,?_,I.bs,?_,?_,?_,I.stack,I.ye),W,I.bare,Un.kept G,(_,Q,?_),?_,?_,?_,?_,I.dS.kept G,?_)
 .show g.heap.objs.size<=C
  simp_all
 .intro x y c s U;obtain⟨_,a⟩|⟨_,a⟩:=lp S I.ok s<;>obtain⟨_,b⟩|⟨_,b⟩:=lp S I.ok U
  .exact name_of_addr E.apart a b
  .have:C+1<=(c:Nat):=d a;have:=oG<|A _ _ b;lia
  .have:C+1<=(c:Nat):=d b;have:=oG<|A _ _ a;lia
  .exact I.ok.inj x y c a b
 .intro x n;let n:(mT X f C).kindOf x=Y .cell\/(mT X f C).kindOf x=Y .free:=n;rw[GP]at n;rcases e:f.names.lookup x with _|k
  .rw[e]at n;obtain z|z:=n<;>cases z
  cases k with
  |cell=>exact Vw S e|free=>let(c,q,_):=GQ S I.ok e;exact(c,q)
  |_=>rw[e]at n;exfalso;revert n;simp
 .intro x c n s;let n:f.names.lookup x=Y .cell:=by have:(f.names.lookup x==Y .cell)=true:=n;simpa using this
  show g.heap.objs.size<=c;obtain⟨_,a⟩|⟨z,_⟩:=lp S I.ok s<;>grind
 .intro b F;let(L,e):=P b F;let l:=oG<|lt e;refine(λz =>?_,λx c s z =>?_)
  .let z:=BY (a:=b) (b:=C) z
   lia
  .subst z;obtain⟨_,a⟩|⟨_,a⟩:=lp S I.ok s
   .have:C+1<=(c:Nat):=d a
    lia
   .exact(J c F).2.2.2.2.1 x c a W
 .show X.base.objs.size<=g.heap.objs.size;have:=I.ok.Sf;have:=I.sz;omega
 .intro b L e F;rcases(J b F).2.2.2.1 with z|z
  .exact I.ok.MH b L e z
  .let e:X.base.get? b=Y L:=e;let a:=oG<|aO e;have:=I.ok.Sf;let z:X.s₀.heap.objs.size<=(b:Nat):=z
   lia
 .intro b F;intro z;let z:b∈yv X.stack:=z;obtain q|q:=aT.mp (I.sR b z)
  .exact(J b F).2.1 q
  .exact(J b F).2.2.1 q
 .intro i x v s U h3;let(j,e1,e2):=Fo U;let(e3,e4):=S.acn i j x e1 s;let(m,hm,hl):=I.loc;let Da:=S.free _ (PySem.mem_of_lookup e4) W;let K:WV X.env.scope x :=.inr Da;let(u,r,lk):=hl j x v e3 e2 K;refine(u,r,?_);obtain⟨z,_⟩|⟨_,c,ec,cc⟩:=lk
  .exfalso;let z:X.env.scope.names.lookup x=Y .local:=z;rw[z]at Da;obtain q|q:=Da<;>cases q
  .let(c',q1,q2):=GQ (C:=C) S I.ok e4;rw[ec]at q2;cases q2;refine .inr (?_,c,q1,cc.keeps G);show (mT X f C).kindOf x=Y .cell\/(mT X f C).kindOf x=Y .free;rw[GP,e4,gy];split<;>trivial
 .intro x c s;obtain⟨_,a⟩|⟨_,a⟩:=lp S I.ok s
  .exact(M,(E.empty _ _ a).1)
  .let(v,z):=I.cell x c a;exact(v,z.keeps G)
 .exact fr C Ž
 .intro x c s;obtain⟨_,a⟩|⟨_,a⟩:=lp S I.ok s
  .have:C+1<=(c:Nat):=d a;exact fr c Ž
  .exact I.lQ x c a
 .intro p O;have O:p∈X.pn++B++[(D,o)]:=by simpa [Cx.qr] using O
  obtain q|q:=aX.mp O
  .let(a1,a2,a3,a4,a5):=I.pin p q;refine(G _ _ a1,a2,λz =>?_,λz =>?_,a5)
   .let z:=BY (a:=p.1) (b:=C) z;let q:=oG (lt a1)
    lia
   .let z:p.1∈yv X.stack:=z;obtain q|q:=aT.mp<|I.sR _ z<;>trivial
  .have:p=(D,o):=by simpa using q
   subst this;refine(T,fr D Ż,λz =>?_,λz =>?_,R)
   .let z:D=C:=z
    simp_all
   .let z:D∈yv X.stack:=z;obtain q|q:=aT.mp (I.sR _ z)
    .let l:=oG I.lt
     simp_all
    .exact I.Yy (show g.heap.objs.size<=D by lia) q
 .show (mB t w).length=N.length;unfold mB;rw[aF];exact S.len
end
section
variable {R:R5->az->Prop}{s:az}
theorem Ed{f}(I:Nat->az->Prop) (ka:∀n s,I n s->bx (aZ E w) A (pyNext J) (λr i=>match r with
   |none=>R (.ok .next) i| some v=>bx (aZ E w) A (VL b J v) (λa g=>bx (aZ E w) A (assign b d v) (λa p=>
     bx (aZ E w) A (forIn B Z' λc r=>if r=Z' then do let C <- isTrue c d (eval c d);c9<|vB C else c9 (vB r)) (λC e=>
      if C=Z' then bx (aZ E w) A (eval L d) (λx o=>bx (aZ E w) A (Jq (.builtin "list.append") [z,x]) (λa k=>∃m,m<n/\I m k) (λa a=>False) o) (λa a=>False) e
      else ∃m,m<n/\I m e) (λa a=>False) p) (λa a=>False) g) (λa a=>False) i) (λa a=>False) s) (n) (h:I n s) :
  ml (aZ E w) A (.compLoop (.ListComp L [(b,G,B,0)] f U) 0 J z d) R s:=by
 refine codeAny_loop W I (λn s K =>?_) n h;refine wpAny_noted ?_;rw[compTurn_list];refine ai<|l6<|ai<|dE (ka n s K) (λr i t =>?_) λa a j=>j.elim;cases r with
 |none=>solve_by_elim|some v=>
  refine ai<|dE t (λa g y=>ai<|dE y (λa p H=>ai<|dE H (λC e q =>?_) λa a j=>j.elim) λa a j=>j.elim) λa a j=>j.elim;cases C with
  |false=>exact aJ (W,q)|true=>exact ai<|ai<|dE q (λx o F=>ai<|dE F (λa k D=>aJ<|aJ (W,D)) λa a j=>j.elim) λa a j=>j.elim
end
def NM(Z:!Nat)(g:TG):Prop:=∀x c H Q,g x c H Q->g x c H λb d=>(b.length=c.length/\∀i,i∉Z->b[i]?=c[i]?)/\Q b d
def j9(i:Nat):NM [i]<|g_ i:=λx c H Q h=>(ŷ,h)
def ZY(K:aS)(i j:Nat):NM [i,j]<|DW K 2<|jP (g_ i)<|jP (g_ j) DY:=by
 rintro x n H Q ⟨a,o,rfl,d,g,v,r,rfl,c,p,rfl,rfl,q⟩;refine(a,_,W,d,g,v,_,W,c,_,W,W,(ż,λk b =>?_),q);let m:i≠k:=λe=>b (by simp[e])
 let h:j≠k:=λe=>b (by simp[e])
 rw[aw h,aw m]
def Hh(X:Cx)(B:!Expr)(t:TT):Prop:=
 ∀(b:!(aD×Obj)) (s:az) (d:St) (H:Hp) (Q:Bool->Hp->Prop),Inv X b d H s->t d H Q ->
  bx (aZ X.prog X.w) X.A (forIn B Z' λc r=>if r=Z' then do let e <- isTrue c X.env (eval c X.env);c9<|vB e else c9 (vB r)) (TP X b d Q) X.xe s
def OA:TT:=λ_ H Q=>Q Z' H
section
variable {X:Cx}
def J3:Hh X [] OA:=λb s c H Q I h=>wpAny_tests_nil (H,I,h)
def Th(h:PT X c t):Hh X [c] t:=λb s d H Q I q=>wpAny_tests_one<|h b s d H Q I q
end
def V5(l:TI)(src:!(↑Nat))(g:TG)(u:TT)(O:TE):TE:=λk H Q=>l k H λJ r=>∃Da:Nat->Nat->!V->Hp->Prop,(∃m,Da 0 m [] r)/\∀i m e H,Da i m e H ->
 (J.stop i H/\∀D,H D=M->Q (.ref D) (cO H D<|.lst e)) \/
 (J.go i H/\e.length<be/\∃j:!V->Hp->Prop,(∀d h,j d h->∃n,n<m/\Da (i+1) n d h)/\∀x h,J.Jx i H x h ->
  g x (mB src k) h λc q=>u c q λb o=>if b=Z' then O c o λv p=>j (e++[v]) p else j e o)
section
variable {X:Cx}{f:Scope}
def Co{s:az}{F:!(aD×Obj)}{RR:au->aD->R5->az->Prop}(S:d6 X N src f)(hc:X.calm=Z')(hi:PI X a G l)(ag:NM Z g)(ho:∀i∈Z,src[i]?=Y M)(E:∀C s H ex,PG (X.qr N f C s H ex) a g/\Hh (X.qr N f C s H ex) B u/\PE (X.qr N f C s H ex) L O)(I:Inv X F σ H s)(h:V5 l src g u O σ H Q) (hRR:∀(D C:aD) (s':az) (H':Hp),Inv X F σ H' s'->(∃m,s'.heap.Ns C m)->H' C=M->C≠X.env.locals->(C∈X.ex\/X.s₀.heap.objs.size<=C)->(∀x c,X.env.cells.lookup x=Y c->c≠C)->(∀p∈X.pn++F,p.1≠C) ->
   Q (.ref D) H'->RR (.ref D) C (.ok .next) s') :
  bx (aZ X.prog X.w) X.A (eval G X.env) (λx s₁=>bx (aZ X.prog X.w) X.A (pyIter x) (λit s₂=>bx (aZ X.prog X.w) X.A (newList []) (λG_ s₃=>
   bx (aZ X.prog X.w) X.A (newFunctionEnv f X.env.globals (mS X.env.cells f.names []) [] X.env.qual M .none<|Y X.env) (λacR s₄=>
    ml (aZ X.prog X.w) X.A (.compStart (.ListComp L [(a,G,B,0)] f U) 0 it G_ { acR with scope:=relabel f X.env }) (RR G_ acR.locals) s₄) X.xe s₃) X.xe s₂) X.xe s₁) X.xe s:=by
 refine eG (hi F s σ H _ I h) λv s1 h1=>eG h1 λitv A h2 =>?_
 obtain⟨it,fp,tn,J,H2,e,I2,T,XE,f2,Da,⟨m0,w0⟩,ka⟩:=h2;subst e;refine NT ?_;generalize hs3:A.heap.push _=h3;have sz3:h3.objs.size=A.heap.objs.size+1:=by rw[<- hs3,eC]
 let k3:∀b o,A.heap.get? b=Y o->h3.get? b=Y o:=λb o e=>hs3 ▸ ao _ e
 let d3:h3.get? A.heap.objs.size=Y (lobj [] 0):=hs3 ▸ bo _ W;refine Ih (X:=X) λh4 k4 ns4 cs4 =>?_
 rw[sz3]at ns4 cs4 ⊢;let k4':=λb o e=>k4 b o<|k3 b o e
 have fob:∀b∈fp,∃o,A.heap.get? b=Y o:=λb E=>by let(o,e,_):=T.obj _ _ XE b E;exact(o,e)
 let I4:=Nz (ex:=fp) (h':=h4) (D:=A.heap.objs.size) (C:=A.heap.objs.size+1) (o:=lobj [] 0) S I2 f2 fob W W k4' (k4 _ _ d3) (λv z=>by cases z) ns4 cs4;let I4:=I4;generalize hX:X.qr N f (A.heap.objs.size+1) A H2 fp=P at I4;let(pg,pt,pe):=E (A.heap.objs.size+1) A H2 fp;rw[hX]at pg pt pe;have K:P.prog=X.prog:=by rw[<- hX];rfl
 have ew:P.w=X.w:=by rw[<- hX];rfl
 have eK:P.K=X.K:=by rw[<- hX];rfl
 have eA:P.A=X.A:=by rw[<- hX];rfl
 have WM:P.calm=true:=by rw[<- hX];exact hc
 have exe:P.xe=λV V=>False:=by rw[<- hX];rfl
 have QW:P.env=mT X f (A.heap.objs.size+1):=by rw[<- hX];rfl
 have Zs:P.pn=[]:=by rw[<- hX];rfl
 have es0:P.s₀=A:=by rw[<- hX];rfl
 let eH0:P.H₀=H2:=by rw[<- hX];rfl
 have eex:P.ex=fp:=by rw[<- hX];rfl
 have efs:P.fs=yv X.stack:=by rw[<- hX];rfl
 have hCl:P.env.locals=A.heap.objs.size+1:=by rw[QW]
 let hDC:A.heap.objs.size≠P.env.locals:=by rw[hCl];exact bI<|Ha _
 let hDF:A.heap.objs.size∉P.fs:=by
  rw[efs];intro z;obtain q|q:=aT.mp<|I2.sR _ z
  .exact absurd (BY q)<|eR<|oG I2.lt
  .exact I2.Yy (aV _) q
 have hpD:∀p∈P.pn++(X.pn++F),p.1≠A.heap.objs.size:=λp hp=>by rw[Zs,e_]at hp;exact bI<|oG<|aO (I2.pin p hp).1
 have fpD:∀b∈fp,b≠A.heap.objs.size:=λb E=>by let(o,e):=fob b E;exact bI<|oG<|aO e
 have HH:∀ {P':!(aD×Obj)}{H':Hp},(∀p∈P',p∈X.pn++F\/p.1=A.heap.objs.size)->(∀b∈fp,H' b=M)->∀b∈fp,AB P P' H' b:=fun {P' H'} hP hn b E=>by
  let(a1,a2,a3,a4,a5,a6):=f2 b E;let(o,e):=fob b E;let w:=oG<|aO e;refine(hn b E,?_,?_,.inl (by rw[eex];exact E),λx c q z =>?_,λp hp z =>?_)
  .rw[hCl];exact bI<|Nat.lt_succ_of_lt w
  .rw[efs];intro z;obtain q|q:=aT.mp (I2.sR b z)
   .exact a2 q
   .exact a3 q
  .subst z;rw[QW]at q;obtain⟨_,r⟩|⟨_,r⟩:=lp S I2.ok q
   .have:=abN (cs4.empty _ _ r).2
    lia
   .exact a5 x c r W
  .rw[Zs,e_]at hp;obtain q|q:=hP p hp
   .exact a6 p q z
   .exact fpD b E<|z.symm.trans q
 have adp:ml (aZ X.prog X.w) X.A (.compLoop (.ListComp L [(a,G,B,0)] f U) 0 (.ref it) (.ref A.heap.objs.size)<|mT X f<|A.heap.objs.size+1) (RR (.ref A.heap.objs.size)<|A.heap.objs.size+1) { A with heap:=h4 }:=by
  refine Ed (λn s'=>∃i ys R nn H',Inv P (X.pn++F++[(A.heap.objs.size,lobj R nn)]) (mB src σ) H' s'/\cx ys R/\ys.length<=be/\tn i s'.heap/\(∀b∈fp,H' b=M)/\Da i n ys H') ?_ m0
   (0,[],[],0,H2,I4,.nil,dr _,T.keep _ _ _ XE<|λb V o e=>k4' b o e,λb E=>(f2 b E).1,w0)
  refine λn s5 xx=>ah λkk =>?_
  let(i,ys,R,nn,H5,I5,r5,z5,st5,fr5,w5):=xx;refine kk ?_;have pok:∀p∈X.pn++F++[(A.heap.objs.size,lobj R nn)],p∈X.pn++F\/p.1=A.heap.objs.size:=λp hp=>by
   obtain q|q:=aX.mp hp
   .exact .inl q
   .exact .inr Ż
  obtain⟨stop,qn⟩|⟨go,lt5,Nx,hN,step⟩:=ka i n ys H5 w5
  .let d:=T.done P K ew eK WM i _ s5 (mB src σ) H5 (λV V=>False) I5 (HH pok fr5) st5 stop;rw[eA]at d;refine eG d λr s6 hr6 =>?_
   let(hr,I6):=hr6;subst hr;have I6':=I6.JD r5 z5 (by rw[es0];exact aV _) hpD;let hD5:H5 A.heap.objs.size=none:=(I6.pin (A.heap.objs.size,lobj R nn) ż).2.1;let Un6:=I6'.base;rw[efs,eex,eH0,es0]at Un6;let os6:=I6'.os;rw[es0]at os6;let aca:=I6'.dS;rw[K,ew]at aca;let J6:=I2.xk os6 Un6 aca I6'.bare λb E=>((f2 b E).2.2.2.1,(f2 b E).2.1,(f2 b E).2.2.2.2.1,(f2 b E).2.2.2.2.2)
   let(m,hm,_):=I6'.loc;rw[hCl]at hm;let fC:=I6'.free;rw[hCl]at fC;refine hRR _ _ s6 _ J6 (m,hm) fC ?_ (.inr ?_) ?_ ?_<|qn _ hD5
   .exact λz=>absurd (BY z)<|eR<|Nat.lt_succ_of_lt<|oG I2.lt
   .exact l_ I2.sz
   .intro x c q z;let(v,cc):=I2.cell x c q;have:=oG cc.lt;let z:=BY z
    lia
   .intro p hp z;have:=oG<|aO (I2.pin p hp).1;let z:=BY z
    lia
  .let d:=T.item P K ew eK WM i _ s5 (mB src σ) H5 (λV V=>False) I5 (HH pok fr5) st5 go;rw[eA]at d;refine eG d λr s6 hr6 =>?_
   let(t,hr,h6):=hr6;subst hr;refine eG h6 λV s7 h7 =>?_
   let(x,H7,I7,r7,y7,st7,fr7):=h7;let I7':=I7.pinned (HH pok fr7)<|T.obj _ _ st7;let g7:=pg _ s7 (mB src σ) H7 x t _ I7' r7<|ag _ _ _ _<|step x H7 y7;rw[eA,exe,K,ew,QW]at g7;refine eG g7 λV s8 h8 =>?_
   obtain⟨σ8,H8,I8,⟨l8,a8⟩,q8⟩:=h8;let t8:=pt _ s8 σ8 H8 _ I8 q8;rw[eA,exe,K,ew,QW]at t8;refine eG t8 λok s9 h9 =>?_
   let(H9,I9,q9):=h9;have weak:∀ {P':!(aD×Obj)}{H':Hp}{s':az},Inv P P' σ8 H' s'->Inv P P' (mB src σ) H' s':=λJ=>J.weak l8.symm λj v hj=>by
    let(k,e1,_):=Fo hj;have:j∉Z:=λz=>by have:=ho j z;rw[e1]at this;cases this
    rw[a8 j this];exact hj
   cases ok with
   |false=>let(m',hm',w9):=hN _ _<|q9;refine(m',hm',i+1,ys,R,nn,H9,(weak I9).mo,r5,z5,T.keep _ _ _ st7 λb E o e=>(I9.pin (b,o)<|aG _<|aG _<|jF E e).1,λb E =>?_,w9);let(o,e,d):=T.obj _ _ st7 b E;exact(I9.pin (b,o)<|aG _<|aG _<|jF E e).2.1
   |true=>
    let e9:=pe _ s9 σ8 H9 _ I9<|q9;rw[eA,exe,K,ew,QW]at e9;refine eG e9 λxv s10 h10 =>?_
    let(y,H10,I10,r10,q10):=h10;have J10:Inv P (X.pn++F++sX fp s7.heap++[(A.heap.objs.size,lobj R nn)]) σ8 H10 s10:=I10.yk λp hp=>by refine I10.pin p ?_;rw[Zs,e_];obtain q|q:=aX.mp hp<;>grind
    let nD:∀p∈P.pn++(X.pn++F++sX fp s7.heap),p.1≠A.heap.objs.size:=λp hp=>by
     rw[Zs,e_]at hp;obtain q|q:=aX.mp hp
     .exact hpD p (by rw[Zs,e_];exact q)
     .exact fpD _ (BU q).1
    let afJ:H10 A.heap.objs.size=none:=(J10.pin (A.heap.objs.size,lobj R nn) ż).2.1;let T10:=J10.JD r5 z5 (by rw[es0];exact aV _) nD;let ap:=jM (X:=P) _ s10 σ8 _ (.ref A.heap.objs.size) [y] (.ref A.heap.objs.size) [xv] (λv H'=>v=.cT/\H'=cO (cO H10 A.heap.objs.size<|.lst ys) A.heap.objs.size (.lst<|ys++[y])) T10 W (.cons r10 .nil) (_,ys,y,W,W,aP,lt5,W,W);rw[eA,exe,K,ew]at ap;refine eG ap λV s11 h11 =>?_
    let(v11,H11,I11,_,_,e11):=h11;subst e11;rw[yc]at I11;let(Qo,nn',r11,z11,I12):=I11.CN afJ hDC hDF;let(m',hm',w11):=hN _ _ q10;let I13:Inv P (X.pn++F++[(A.heap.objs.size,lobj Qo nn')]) (mB src σ) H10 s11:=(weak I12).yk λp hp=>by
     refine I12.pin p ?_;rw[Zs,e_];obtain q|q:=aX.mp hp
     .exact br _<|br _ q
     .exact aG _ q
    have abx:∀b∈fp,∀o,s7.heap.get? b=Y o->s11.heap.get? b=Y o/\H10 b=none:=λb E o e=>by have:=I12.pin (b,o) (by rw[Zs,e_];exact br _<|aG _<|jF E e);exact(this.1,this.2.1)
    refine(m',hm',i+1,ys++[y],Qo,nn',H10,I13,r11,z11,T.keep _ _ _ st7 λb E o e=>(abx b E o e).1,λb E =>?_,w11);let(o,e,d):=T.obj _ _ st7 b E;exact(abx b E o e).2
 exact codeAny_compStart_list adp<|T.self _ 0 _ _ _ (T.keep _ _ _ XE λb V o e=>k4' b o e) adp
end
section
variable {X:Cx}{f:!(↑Nat)}
def GR{s}(S:d6 X N f c)(I:Inv X a b H s):closureFor c X.env=c9 (mS X.env.cells c.names []):=
 Bp λy d e=>I.ok.has y.1<|S.free y d e
def FO(S:d6 X N f c)(P:X.calm=Z')(O:PI X r l w)(ag:NM B g)(K:∀i∈B,f[i]?=Y M)(p:∀C s H v,PG (X.qr N c C s H v) r g/\Hh (X.qr N c C s H v) u j/\PE (X.qr N c C s H v) t k)(G:autoParam (∀x,bW l X.env x=c9 x) ũ):PE X (.ListComp t [(r,l,u,0)] c A)<|V5 w f g j k:=by
 intro a s z H Q I h;refine wpAny_comprehension_free W G (GR S I) S.kind λx F y=>by rw[S.uniq x F,y] ?_
 refine Co S P O ag K p I h ?_;intro D C E H' J n L R h1 U T q;let(m,n):=n;exact(m,n,λh' d=>(.ref D,H',J.turned (λb o p e=>d.extBut b o p e) L R h1 U T,W,q))
def zd{F:Pos}(S:d6 X N f c)(hc:X.calm=Z')(hN:X.N.Nodup)(hy:X.N[i]?=Y y)(K:X.env.scope.names.lookup y=Y .local)(hi:PI X r l w)(ag:NM B g)(ho:∀i∈B,f[i]?=Y M)(Q:∀C s H T,PG (X.qr N c C s H T) r g/\Hh (X.qr N c C s H T) u j/\PE (X.qr N c C s H T) t k)(U:cm (.ListComp t [(r,l,u,0)] c A) (Y<|.Name y F) n.line X.env=c9 Z')(hs:autoParam (∀x,bW l X.env x=c9 x) ũ):
  PS X (.Assign [.Name y F] (.ListComp t [(r,l,u,0)] c A) n) (XB (V5 w f g j k)<|g_ i):=by
 intro p s σ H D I h;rw[exec_Assign_Name_used _ _ _ _ U];refine ai<|l6<|ai ?_;refine ai (dE (wpAny_comprehension_free (use:=Y<|assign (.Name y F) X.env) (Q:=λV E=>SP X p D .next E) W hs (GR S I) S.kind (λx hx K=>by rw[S.uniq x hx,K])
  (Co S hc hi ag ho Q I h ?_))
  (λV E hq=>aJ<|aJ hq) λV V e=>e)
 intro d C E H' J P hn hL h1 h2 h3 q;let(m,P):=P;refine wpAny_assign_Name<|BF J hN hy (.inl K) (v :=.ref d) W (λL J' G =>?_) (.inr K);let(a,sb,ha):=G;let R:C≠a:=by
  obtain z|z:=ha
  .rw[z];exact hL
  .exact λe=>h2 _ _ z e.symm
 exact(m,P.sameBut sb R,λh' O=>(_,H',J'.turned (h':=h') (t':=L.toks) (λb o Q e=>O.extBut b o Q e) hn hL h1 h2 h3,q))
end
inductive Sk where
 |lf
 |li (s:Sk)
 |fs (c:aM) (fk:!(aM×Sk))
 |di
 |pr (s:Sk)
 |dt (s:Sk)
inductive Pt where
 |fld (f:aM)
 |ix (k:Nat)
abbrev Br:=!Pt
inductive D where
 |cT|bl (b:Bool)|int (i:Int)|str (x:aM)|lst (xs:!D)|tup (xs:!D)|oE (ns:!Int)
 |ins (c:aM) (ks:!aM) (ds:!D)
 |fM (ks:!hW) (ds:!D)
 |obj (s:Sk) (t:D)
 |dP (r:Nat) (p:Br)
mutual
def cM(K:aS)(G:Hp):D->V->Prop
 |.cT,v=>v=.cT|.bl b,v=>v=.bl b|.int i,v=>v=.int i|.str x,v=>v=.str x|.lst e,v=>∃a d,v=.ref a/\G a=Y (.lst d)/\bB K G e d|.tup e,v=>∃a d,v=.ref a/\G a=Y (.tup d)/\bB K G e d|.oE g,v=>∃a,v=.ref a/\lZ K G a (g.map V.int)|.ins c f e,v=>∃a C h d,v=.ref a/\jf K aW c=Y (Y<|.ref C)/\G a=Y (.ins C h<|f.zip d)/\f.length=e.length/\bB K G e d
 |.fM f e,v=>∃a d,v=.ref a/\(∃n,G a=Y (.dK (f.zip d) n))/\f.length=e.length/\bB K G e d|.obj _ t,v=>cM K G t v|.dP _ _,v=>∃a,v=.ref a
def bB(K:aS)(G:Hp):!D->!V->Prop
 |[],a=>a=[]|d::b,a=>∃v r,a=v::r/\cM K G d v/\bB K G b r
end
mutual
theorem cM.mono{K}(s:bD G G'):∀d {v:V},cM K G d v->cM K G' d v
 |.cT,v,h=>by solve_by_elim
 |.bl _,v,h=>by solve_by_elim
 |.int _,v,h=>by solve_by_elim
 |.str _,v,h=>by solve_by_elim
 |.lst f,v,h=>by let(a,b,e,q,r):=h;exact(a,b,e,s _ _ q,bB.mono s f r)
 |.tup f,v,h=>by let(a,b,e,q,r):=h;exact(a,b,e,s _ _ q,bB.mono s f r)
 |.oE j,v,h=>by let(a,e,q):=h;exact(a,e,s.seq q)
 |.ins c g f,v,h=>by let(a,C,i,b,e,n,q,l,r):=h;exact(a,C,i,b,e,n,s _ _ q,l,bB.mono s f r)
 |.fM g f,v,h=>by obtain⟨a,b,e,⟨n,q⟩,l,r⟩:=h;exact(a,b,e,(n,s _ _ q),l,bB.mono s f r)
 |.obj _ t,v,h=>by simp only[cM]at h ⊢;exact cM.mono s t h
 |.dP _ _,v,h=>by solve_by_elim
theorem bB.mono{K}(s:bD G G'):∀b {a:!V},bB K G b a->bB K G' b a
 |[],a,h=>by solve_by_elim
 |d::b,a,h=>by simp only[bB]at h ⊢;let(v,r,e,q,t):=h;exact(v,r,e,cM.mono s d q,bB.mono s b t)
end
section
variable {K:aS}
def fc{v}:cM K G .cT v↔v=.cT:=by solve_by_elim
def cY{v}:cM K G (.bl b) v↔v=.bl b:=by solve_by_elim
def bY{v}:cM K G (.int i) v↔v=.int i:=by solve_by_elim
def eL{v}:cM K G (.str x) v↔v=.str x:=by solve_by_elim
def cH{v}:cM K G (.lst c) v↔∃a b,v=.ref a/\G a=Y (.lst b)/\bB K G c b:=by solve_by_elim
def dA{v}:cM K G (.tup c) v↔∃a b,v=.ref a/\G a=Y (.tup b)/\bB K G c b:=by solve_by_elim
def Dh{v}:cM K G (.oE b) v↔∃a,v=.ref a/\lZ K G a (b.map V.int):=by solve_by_elim
def jh{v}:cM K G (.ins c b d) v↔∃a C f e,v=.ref a/\jf K aW c=Y (Y<|.ref C)/\G a=Y (.ins C f<|b.zip e)/\b.length=d.length/\bB K G d e:=by solve_by_elim
def kR{v}:cM K G (.fM b c) v↔∃a d,v=.ref a/\(∃n,G a=Y (.dK (b.zip d) n))/\b.length=c.length/\bB K G c d:=by solve_by_elim
def lU{s}{v}:cM K G (.obj s t) v↔cM K G t v:=by solve_by_elim
def uD{v}:cM K G (.dP r p) v↔∃a,v=.ref a:=by solve_by_elim
def cF:bB K G [] a↔a=[]:=by solve_by_elim
def bt:bB K G (d::b) a↔∃v r,a=v::r/\cM K G d v/\bB K G b r:=by solve_by_elim
def bB.cons{d}{v}(h:cM K G d v)(t:bB K G b a):bB K G (d::b)<|v::a:=bt.mpr (v,a,W,h,t)
def bB.nil:bB K G [] []:=cF.mpr W
theorem bB.length:∀ {ds:!D}{a:!V},bB K G ds a->ds.length=a.length
 |[],a,h=>by rw[cF.mp h];rfl
 |d::ds,a,h=>by let(v,r,rfl,_,t):=bt.mp h;simp[bB.length t]
theorem bB.get:∀ {b:!D}{a:!V}{i:Nat}{d:D},bB K G b a->b[i]?=Y d->∃v,a[i]?=Y v/\cM K G d v
 |[],a,i,d,h,e=>by simp at e
 | c::b,a,0,d,h,e=>by
  let(v,r,rfl,_):=bt.mp h
  simp_all
 |c::b,a,i+1,d,h,e=>by let(v,r,rfl,q,t):=bt.mp h;let(u,g,f):=bB.get t (by simpa using e);exact(u,Ż,f)
theorem bB.append:∀ {e c:!D}{a b:!V},bB K G e a->bB K G c b->bB K G (e++c) (a++b)
 |[],c,a,b,h,k=>by rw[cF.mp h];exact k
 |d::e,c,a,b,h,k=>by let(v,r,rfl,q,t):=bt.mp h;exact .cons q<|bB.append t k
theorem bB.take:∀ {b:!D}{a:!V}(n:Nat),bB K G b a->bB K G (b.take n) (a.take n)
 |[],a,n,h=>by rw[cF.mp h];simp;exact .nil
 |d::b,a,0,h=>by solve_by_elim
 |d::b,a,n+1,h=>by let(v,r,rfl,q,t):=bt.mp h;exact .cons q<|bB.take n t
theorem bB.drop:∀ {ds:!D}{a:!V}(n:Nat),bB K G ds a->bB K G (ds.drop n) (a.drop n)
 |[],a,n,h=>by rw[cF.mp h];simp;exact .nil
 |d::ds,a,0,h=>by simpa using h
 |d::ds,a,n+1,h=>by let(v,r,rfl,q,t):=bt.mp h;exact bB.drop n t
theorem bB.set:∀ {b:!D}{a:!V}{d:D}{v:V}(n:Nat),bB K G b a->cM K G d v->bB K G (b.set n d) (a.set n v)
 |[],a,d,v,n,h,q=>by rw[cF.mp h];exact Ÿ
 |c::b,a,d,v,0,h,q=>by let(u,r,rfl,_,t):=bt.mp h;exact .cons q t
 |c::b,a,d,v,n+1,h,q=>by let(u,r,rfl,p,t):=bt.mp h;exact .cons p<|bB.set n t q
def bB.dropLast(h:bB K G b a):bB K G b.dropLast a.dropLast:=by
 rw[W2,W2,h.length];exact h.take _
theorem bB.rep(h:bB K G b a):∀k,bB K G (aH k b).flatten (aH k a).flatten
 |0 =>.nil|k+1=>by exact h.append<|bB.rep h k
theorem bB.ints:∀(a:!Int),bB K G (a.map D.int) (a.map V.int)
 |[] =>.nil|n::a =>.cons (bY.mpr W)<|bB.ints a
end
structure f_(G H G' H':Hp):Prop where
 hh:bD H H'
 gg:bD G G'
 gh:bD G' H'
 fr:∀b o,G' b=some o->G b=some o\/H b=none
def f_.refl(s:bD G H):f_ G H G H:=(bD.refl _,bD.refl _,s,λa a e =>.inl e)
def f_.trans{f}(a:f_ G H h f)(b:f_ h f g d):f_ G H g d:=
 (a.hh.trans b.hh,a.gg.trans b.gg,b.gh,λc o e=>by
  obtain q|q:=b.fr c o e
  .exact a.fr c o q
  .exact .inr<|a.hh.free q)
def bD.alloc{p}{o}(h:H p=M):bD H<|cO H p o:=λb u e=>by rw[aI<|bc e h];exact e
def bD.both(s:bD G H):bD (cO G p o)<|cO H p o:=λb u e=>by
 by_cases a:b=p
 .simp_all [aP]
 .rw[aI a]at e ⊢;exact s _ _ e
def f_.alloc{p}{o}(s:bD G H)(h:H p=M):f_ G H (cO G p o)<|cO H p o:=
 (.alloc h,.alloc<|s.free h,s.both,λb u e=>by grind [aI])
def f_.lay{p}{o}(s:bD G H)(h:H p=M):f_ G H G<|cO H p o:=
 (.alloc h,bD.refl _,s.trans<|.alloc h,λa a e =>.inl e)
def f_.freeze(E:f_ G H G' c)(h:H p=M)(g:G' p=M)(e:c p=Y o):f_ G H (cO G' p o) c:=
 (E.hh,E.gg.trans<|.alloc g,λb u q=>by
  by_cases a:b=p
  .simp_all [aP]
  .rw[aI a]at q;exact E.gh _ _ q,λb u q=>by
  by_cases a:b=p
  .simp_all
  .rw[aI a]at q;exact E.fr _ _ q)
def iY(K:aS)(G:Hp):D->HO->Prop
 |.lst b,o=>∃a,o=.lst a/\bB K G b a|.ins c d b,o=>∃C e a,o=.ins C e (d.zip a)/\jf K aW c=Y (Y<|.ref C)/\d.length=b.length/\bB K G b a|.fM d b,o=>∃a,(∃n,o=.dK (d.zip a) n)/\d.length=b.length/\bB K G b a|_,_=>False
section
variable {K:aS}
def iY.mono(s:bD G G'){d:D}(h:iY K G d o):iY K G' d o:=by
 cases d with
 |lst b=>let(a,e,r):=h;exact(a,e,bB.mono s b r)
 |ins c f b=>let(C,g,a,e,n,l,r):=h;exact(C,g,a,e,n,l,bB.mono s b r)
 |fM f b=>let(a,e,l,r):=h;exact(a,e,l,bB.mono s b r)
 |_=>exact h.elim
def iY.rep{d}(h:iY K G d o)(e:G a=Y o):cM K G d<|.ref a:=by
 cases d with
 |lst f=>let(b,rfl,r):=h;exact cH.mpr (a,b,W,e,r)
 |ins c g f=>let(C,i,b,rfl,n,l,r):=h;exact jh.mpr (a,C,i,b,W,n,e,l,r)
 |fM g f=>obtain⟨b,⟨n,rfl⟩,l,r⟩:=h;exact kR.mpr (a,b,W,(n,e),l,r)
 |_=>exact h.elim
end
end L2
namespace L2
open PySem
noncomputable def cZ(a:!(aM×Sk))(k:aM):Sk:=(a.lookup k).getD .lf
mutual
inductive bQ (K:aS) (G H:Hp):Sk->D->V->!aD->Prop
 |leaf {d:D}{v:V}:cM K G d v->bQ K G H .lf d v []
 |lst {s:Sk}{ds:!D}{a:aD}{vs:!V}{S:!aD}:H a=some (.lst vs)->dy K G H (aH ds.length s) ds vs S->bQ K G H (.li s) (.lst ds) (.ref a) (a::S)
 | ins {c:aM}{ks:!aM}{fk:!(aM×Sk)}{ds:!D}{a C dx:aD}{vs:!V}{S:!aD}:jf K aW c=some (some<|.ref C)->H a=some (.ins C dx<|ks.zip vs)->ks.length=ds.length ->
   dy K G H (ks.map<|cZ fk) ds vs S->bQ K G H (.fs c fk) (.ins c ks ds) (.ref a) (a::S)
 |fM {ks:!hW}{ds:!D}{a:aD}{vs:!V}{n:Nat}:H a=some (.dK (ks.zip vs) n)->ks.length=ds.length->bB K G ds vs->bQ K G H .di (.fM ks ds) (.ref a) [a]
 |pr {s:Sk}{d e:D}{t:aD}{v w:V}{S:!aD}:G t=some (.tup [v,w])->cM K G d v->bQ K G H s e w S->bQ K G H (.pr s) (.tup [d,e]) (.ref t) S
 |dt {s:Sk}{ks:!hW}{ds:!D}{a:aD}{vs:!V}{S:!aD}{n:Nat}:H a=some (.dK (ks.zip vs) n)->ks.length=ds.length->dy K G H (aH ds.length s) ds vs S->bQ K G H (.dt s) (.fM ks ds) (.ref a) (a::S)
inductive dy (K:aS) (G H:Hp):!Sk->!D->!V->!aD->Prop
 |nil:dy K G H [] [] [] []
 |cons {s:Sk}{ss:!Sk}{d:D}{ds:!D}{v:V}{vs:!V}{S T:!aD}:bQ K G H s d v S->dy K G H ss ds vs T->dy K G H (s::ss) (d::ds) (v::vs) (S++T)
end
section
variable {K:aS}{f:Hp}
set_option tactic.hygienic true in
def bQ.mono{d}{v}{S}(g:bD G f)(h:∀b∈S,∀o,H b=Y o->i b=Y o)(x:bQ K G H c d v S):bQ K f i c d v S:=by
 induction x using bQ.rec (motive_2:=λe j d S m=>(∀b∈S,∀o,H b=Y o->i b=Y o)->dy K f i e j d S) with
 |leaf r=>exact .leaf (cM.mono g _ r)|lst e t j=>exact .lst (h _ ay _ e) Ż
 |ins n e l t j=>exact .ins n (h _ ay _ e) l Ż
 |fM e l t=>exact .fM (h _ ay _ e) l (bB.mono g _ t)|pr e r t j=>exact .pr (g _ _ e) (cM.mono g _ r) (j h)|dt e l t j=>exact .dt (h _ ay _ e) l Ż
 |nil=>exact .nil|cons a t j k=>rename_i h;exact .cons Ż Ż
def dy.mono{d}{S:!aD}(g:bD G f)(h:∀b∈S,∀o,H b=Y o->i b=Y o)(x:dy K G H e j d S):dy K f i e j d S:=by
 induction x using dy.rec (motive_1:=λl l l l l=>True) with
 |nil=>exact .nil|cons a t _ k=>exact .cons (bQ.mono g (λb c=>h b Ż) a) Ż
 |_=>trivial
def HX(H:Hp)(b:aD):Prop:=∃o,H b=Y o/\∀a,o ≠ .tup a
def bQ.here{v:V}{S}(x:bQ K G H g d v S):∀b∈S,HX H b:=by
 induction x using bQ.rec (motive_2:=λc c c S c=>∀b∈S,HX H b) with
 |lst e t j=>exact jV.2 ((_,e,nofun),j)
 |ins n e l t j=>exact jV.2 ((_,e,nofun),j)
 |fM e l t=>exact jV.2 ((_,e,nofun),nofun)
 |cons a t j k=>grind|pr e r t j=>exact j|dt e l t j=>exact jV.2 ((_,e,nofun),j)
 |leaf=>exact nofun
 |nil=>contradiction
def dy.length{ds}{a}{S}(h:dy K G H ss ds a S):ds.length=a.length/\ss.length=ds.length:=by
 induction ds generalizing ss a S with
 |nil=>cases h;simp_all| cons d ds ih=>cases h with
  |cons _ t=>have:=ih t;simp[this.1,this.2]
noncomputable def iP(G H:Hp)(S:!aD):Hp:=λb=>if b∈S then H b else G b
noncomputable def dg(G:Hp)(S:!aD):Hp:=λb=>if b∈S then M else G b
def j1{S:!aD}(h:b∈S):iP G H S b=H b:=by simp[iP,h]
theorem iB{S:!aD}(h:b∉S):iP G H S b=G b:=by simp[iP,h]
theorem dW{S:!aD}(h:b∈S):dg G S b=none:=by simp[dg,h]
theorem bC{S:!aD}(h:b∉S):dg G S b=G b:=by simp[dg,h]
def iG{S:!aD}(n:∀b∈S,G b=M):bD G<|iP G H S:=λb o e=>by
 grind [iB]
def jL{S:!aD}(s:bD G H):bD (iP G H S) H:=λb o e=>by
 by_cases a:b∈S
 .simp_all [j1]
 .rw[iB a]at e;exact s b o e
set_option tactic.hygienic true in
def bQ.frozen{d:D}{v}{S}(n:∀b∈T,G b=M)(a:∀b∈S,b∈T)(x:bQ K G H g d v S):cM K (iP G H T) d v:=by
 induction x using bQ.rec (motive_2:=λf g e S f=>(∀b∈S,b∈T)->bB K (iP G H T) g e) with
 |leaf r=>exact cM.mono (iG n) _ r|lst e t j=>exact cH.mpr (_,_,W,by rw[j1<|a _ ay];exact e,Ż)
 |ins h e l t j=>exact jh.mpr (_,_,_,_,W,h,by rw[j1<|a _ ay];exact e,l,Ż)
 |fM e l t=>exact kR.mpr (_,_,W,(_,by rw[j1<|a _ ay];exact e),l,bB.mono (iG n) _ t)
 |pr e r t j=>exact dA.mpr (_,_,W,iG n _ _ e,.cons (cM.mono (iG n) _ r)<|.cons (j a) .nil)|dt e l t j=>exact kR.mpr (_,_,W,(_,by rw[j1<|a _ ay];exact e),l,j λb m=>a b<|ax _ m)
 |nil=>solve_by_elim|cons a t j k=>rename_i c;exact bt.mpr (_,_,W,Ż,Ż)
mutual
noncomputable def qN:D->Bool
 |.cT=>Z'|.bl _=>Z'|.int _=>Z'|.str _=>Z'|.lst _=>Z_|.tup a=>pj a|.oE _=>Z_|.ins _ _ _=>Z_|.fM _ _=>Z_|.obj _ _=>Z_|.dP _ _=>Z_
noncomputable def pj:!D->Bool
 |[]=>Z'|d::a=>qN d&&pj a
end
mutual
theorem FE{S:!aD}{d}(n:∀b∈S,∀c,G b≠Y (.tup c)){v:V}(p:qN d=Z')(r:cM K G d v):cM K (dg G S) d v:=by
 cases d with
 |tup h=>
  let(a,c,rfl,e,q):=dA.mp r;let g:=λz=>n a z c e
  exact dA.mpr (a,c,W,by simp_all [bC],vN n (by simpa only [qN] using p) q)
 |_=>first|cases p;done|simpa only [cM] using r
theorem vN{S:!aD}{c}(n:∀b∈S,∀a,G b≠Y (.tup a)){a:!V}(p:pj c=Z')(r:bB K G c a):bB K (dg G S) c a:=by
 cases c with
 |nil=>solve_by_elim|cons d c=>let(v,t,rfl,g,e):=bt.mp r;simp only[pj,bh]at p;exact bt.mpr (v,t,W,FE n p.1 g,vN n p.2 e)
end
def vc{S:!aD}(s:bD G H)(n:∀b∈S,G b=M)(o:∀b∈S,HX H b)(E:f_ (iP G H S) H f i):f_ G H (dg f S) i/\∀b∈S,∀c,f b≠Y (.tup c):=by
 refine((E.hh,λb u e =>?_,λb u e =>?_,λb u e =>?_),λb a c z =>?_)
 .have a:b∉S:=λz=>by simp_all
  rw[bC a];exact E.gg b u (by simp_all [iB])
 .by_cases a:b∈S
  .simp_all [dW]
  .rw[bC a]at e;exact E.gh b u e
 .by_cases a:b∈S
  .simp_all [dW]
  .rw[bC a]at e;obtain q|q:=E.fr b u e
   .simp_all [iB]
   simp_all
 .let(u,_):=o b a;have:=E.gg b u (by simp_all [j1])
  simp_all
end
noncomputable def EF(f:aM):!aM->↑Nat
 |[]=>M|k::ks=>if f==k then Y 0 else (EF f ks).map (· + 1)
set_option tactic.hygienic true in
theorem uW{f}:∀ {a:!aM}{n:Nat},EF f a=Y n->a[n]?=Y f
 |[],n,h=>by cases h
 | k::a,n,h=>by
  unfold EF at h;split at h
  .rename_i e;cases h<;>simp_all
  .let(m,e,h):=aj.1 h;cases h;simpa using uW e
theorem pA{f}:∀ {a:!aM}{n:Nat}{xs:!b},EF f a=Y n->(a.zip xs).lookup f=xs[n]?
 |[],n,xs,h=>by cases h
 |k::a,n,[],h=>by solve_by_elim
 | k::a,n,x::xs,h=>by
  unfold EF at h;simp only[d7,fO];cases e:f==k with
  |true=>rw[e]at h;simp at h;subst h;solve_by_elim|false=>
   rw[e]at h;rcases e2:EF f a with _|m
   .simp_all
   rw[e2]at h;simp at h;subst h;simpa using pA e2
noncomputable def gZ:Br->D->↑D
 |[],d=>Y d|.fld f::p,.ins _ b a=>(EF f b).bind λn=>(a[n]?).bind<|gZ p
 |.ix k::p,.lst a=>(a[k]?).bind (gZ p)|.ix k::p,.fM _ a=>(a[k]?).bind (gZ p)|_::_,_=>M
noncomputable def gX(x:D):Br->D->D
 |[],_=>x|.fld f::p,.ins c b a=>match EF f b with|none =>.ins c b a|some n=>match a[n]? with|none =>.ins c b a|some d =>.ins c b<|a.set n<|gX x p d
 |.ix k::p,.lst a=>match a[k]? with|none =>.lst a|some d =>.lst<|a.set k<|gX x p d
 |.ix k::p,.fM c a=>match a[k]? with|none =>.fM c a|some d =>.fM c<|a.set k<|gX x p d
 |_::_,d=>d
noncomputable def jG:Br->Sk->↑Sk
 |[],s=>Y s|.fld f::p,.fs _ a=>jG p (cZ a f)|.ix _::p,.li s=>jG p s|.ix _::p,.dt s=>jG p s|_::_,_=>M
noncomputable def dm(H:Hp):Br->V->↑V
 |[],v=>Y v|.fld f::p,.ref a=>match H a with|some (.ins _ _ c)=>(c.lookup f).bind (dm H p)|_=>M
 |.ix k::p,.ref a=>match H a with|some (.lst b)=>(b[k]?).bind (dm H p)|some (.dK b _)=>(b[k]?).bind λq=>dm H p q.2|_=>M
 |_::_,_=>M
section
variable {K:aS}
theorem dy.at{i}{ds}{vs}{S}(h:dy K G H i ds vs S):∀ {n:Nat}{s:Sk}{d:D},i[n]?=Y s->ds[n]?=Y d->∃v T U,vs[n]?=Y v/\bQ K G H s d v T/\S.Perm (T++U) /\
  ∀G' H' j x u f,bD G G'->(∀b∈U,∀o,H b=Y o->H' b=Y o)->bQ K G' H' j x u f->∃S',dy K G' H' (i.set n j) (ds.set n x) (vs.set n u) S'/\S'.Perm (f++U):=by
 induction ds generalizing i vs S with
 |nil=>intro n s d _ e;simp at e
 |cons c ds ih=>
  intro n s d es e;cases h with
  |@cons C i _ _ v vs S1 p a t=>
   cases n with
   |zero=>simp at e es;subst e;subst es;exact(v,S1,p,W,a,.rfl,λG' H' j x u f g k l=>(f++p,.cons l<|t.mono g k,.rfl))
   |succ n=>
    refine ah λkk =>?_
    let(w,T,U,B,z,r,A):=ih t es e;refine kk<|(w,T,S1++U,by simpa using B,z,?_,λG' H' j x u f g k l =>?_)
    .exact((r.append_left S1).trans<|bV S1 T U)
    .let(S',y,q):=A G' H' j x u f g (λb m=>k b<|aG _ m) l;exact(S1++S',.cons (a.mono g λb m=>k b<|br _ m) y,(q.append_left S1).trans<|bV S1 f U)
theorem de{a:Type}:∀ {l:!a}{n:Nat}{x:a},l[n]?=Y x->l.set n x=l
 |[],n,x,h=>by simp at h
 |y::l,0,x,h=>by simp_all
 |y::l,n+1,x,h=>by simp at h;simp[de h]
def Kc{S T1 i F j:!aD}{a:aD}(p1:S.Perm<|T1++i)(p2:T1.Perm<|F++j):(a::S).Perm<|F++(j++a::i):=by
 refine((p1.trans<|p2.append_right i).cons a).trans ?_;let q:(a::(F++j++i)).Perm<|(F++j)++(a::i):=by simpa using bV [a] (F++j) i
 exact q.trans<|Jv ż
theorem bQ.focus:∀ {p:Br}{P k:Sk}{d O:D}{v:V}{S:!aD},bQ K G H P d v S->jG p P=Y k->gZ p d=Y O->∃v' T U,dm H p v=Y v'/\bQ K G H k O v' T/\S.Perm (T++U) /\
  ∀(J I:Hp) x w,bD G J->(∀b∈U,∀o,H b=Y o->I b=Y o)->bQ K J I k x v' w->dm I p v=Y v'/\∃S',bQ K J I P (gX x p d) v S'/\S'.Perm (w++U)
 |[],P,k,d,O,v,S,h,u,z=>by cases u;cases z;exact(v,S,[],W,h,ż,λJ I x w g r ox=>(W,w,ox,ż))
 | .fld f::p,P,k,d,O,v,S,h,u,z=>by
  cases h with
  |@ins c ks fk L a C dx vs S n e l t=>
   let u:jG p (cZ fk f)=Y k:=u;let z:=z;let(m,ei,z):=ae.1 z;have A:(ks.map<|cZ fk)[m]?=Y (cZ fk f):=by rw[aY,uW ei];rfl
   generalize cZ fk f=s1 at u A
   .let(d1,B,z):=ae.1 z;let(v1,T1,i,X,o1,p1,k1):=t.at A B;let(Q,F,j,q2,o2,p2,k2):=bQ.focus o1 u z;let hv:dm H (.fld f::p) (.ref a)=Y Q:=by simp only[dm,e];rw[pA ei,X];exact q2
    refine(Q,F,j++(a::i),hv,o2,?_,λJ I y w g r oy =>?_)
    .have:=(p1.trans<|p2.append_right i).cons a;refine this.trans ?_;let q:(a::(F++j++i)).Perm<|(F++j)++(a::i):=by simpa using bV [a] (F++j) i
     exact q.trans<|Jv ż
    .let(gv,S1,o3,p3):=k2 J I y w g (λb N=>r b<|br _ N) oy;let(S2,R,p4):=k1 J I s1 _ v1 S1 g (λb N=>r b<|aG _<|ax _ N) o3;rw[de A,de X]at R;refine(by simp only[dm,r a (aG _ ay) _ e];rw[pA ei,X];exact gv,a::S2,?_,?_)
     .let E:gX y (.fld f::p) (.ins c ks L)=.ins c ks (L.set m<|gX y p d1):=by simp only[gX,ei,B]
      rw[E];exact .ins n (r a (aG _ ay) _ e) Ż R
     .have:=(p4.trans<|p3.append_right i).cons a;refine this.trans ?_;let q:(a::(w++j++i)).Perm<|(w++j)++(a::i):=by simpa using bV [a] (w++j) i
      exact q.trans<|Jv ż
  |_=>cases u
 | .ix m::p,P,k,d,O,v,S,h,u,z=>by
  cases h with
  |@lst s L a vs S e t=>
   let z:(L[m]?).bind (gZ p)=Y O:=z;let(d1,B,z):=ae.1 z;have hm:m<L.length:=(aq.mp B).1;have A:(aH L.length s)[m]?=Y s:=by simp[hm]
   let(v1,T1,i,X,o1,p1,k1):=t.at A B;let(Q,F,j,q2,o2,p2,k2):=bQ.focus o1 (u) z;let hv:dm H (.ix m::p) (.ref a)=Y Q:=by simp_all [dm]
   refine(Q,F,j++(a::i),hv,o2,Kc p1 p2,λJ I y w g r oy =>?_);let(gv,S1,o3,p3):=k2 J I y w g (λb N=>r b<|br _ N) oy;let(S2,R,p4):=k1 J I s (gX y p d1) v1 S1 g (λb N=>r b<|aG _<|ax _ N) o3;rw[de A,de X]at R;refine(by simp only[dm,r a (aG _ ay) _ e];rw[X];exact gv,a::S2,?_,Kc p4 p3);let E:gX y (.ix m::p) (.lst L)=.lst (L.set m<|gX y p d1):=by simp only[gX,B]
   rw[E];exact .lst (r a (aG _ ay) _ e) Ż
  |@dt s ks L a vs S n e l t=>
   let z:(L[m]?).bind (gZ p)=Y O:=z;let(d1,B,z):=ae.1 z;have hm:m<L.length:=(aq.mp B).1;have A:(aH L.length s)[m]?=Y s:=by simp[hm]
   let(v1,T1,i,X,o1,p1,k1):=t.at A B;let(Q,F,j,q2,o2,p2,k2):=bQ.focus o1 (u) z;have XZ:(ks.zip vs)[m]?=Y (ks[m]' ž,v1):=by rw[ie];exact(aE _,X)
   let hv:dm H (.ix m::p) (.ref a)=Y Q:=by simp only[dm,e,XZ,av,q2]
   refine(Q,F,j++(a::i),hv,o2,Kc p1 p2,λJ I y w g r oy =>?_);let(gv,S1,o3,p3):=k2 J I y w g (λb N=>r b<|br _ N) oy;let(S2,R,p4):=k1 J I s (gX y p d1) v1 S1 g (λb N=>r b<|aG _<|ax _ N) o3;rw[de A,de X]at R;refine(by simp only[dm,r a (aG _ ay) _ e];rw[XZ];exact gv,a::S2,?_,Kc p4 p3);let E:gX y (.ix m::p) (.fM ks L)=.fM ks (L.set m<|gX y p d1):=by simp only[gX,B]
   rw[E];exact .dt (r a (aG _ ay) _ e) (by simp[l]) Ż
  |_=>cases u
theorem fZ(s:bD H H'):∀ {p:Br}{v b:V},dm H p v=Y b->dm H' p v=Y b
 |[],v,b,h=>h| .fld f::p,.ref a,b,h=>by
  simp only[dm]at h ⊢;rcases e:H a with _|o
  .rw[e]at h;cases h
  rw[e]at h;rw[s _ _ e];cases o<;>simp only at h ⊢<;>try (cases h)
  let(u,e2,h):=ae.1 h;rw[e2];exact fZ s h
 | .ix k::p,.ref a,b,h=>by
  simp only[dm]at h ⊢;rcases e:H a with _|o
  .simp_all
  rw[e]at h;rw[s _ _ e];cases o<;>simp only at h ⊢<;>try (cases h;done)
  all_goals
   let(u,e2,h):=ae.1 h;rw[e2];exact fZ s h
 |.fld f::p,.cT,b,h=>by cases h
 |.fld f::p,.bl _,b,h=>by cases h
 |.fld f::p,.int _,b,h=>by cases h
 |.fld f::p,.str _,b,h=>by cases h
 |.fld f::p,.Vv _,b,h=>by cases h
 |.fld f::p,.Se _,b,h=>by cases h
 |.fld f::p,.ty _,b,h=>by cases h
 |.ix f::p,.cT,b,h=>by cases h
 |.ix f::p,.bl _,b,h=>by cases h
 |.ix f::p,.int _,b,h=>by cases h
 |.ix f::p,.str _,b,h=>by cases h
 |.ix f::p,.Vv _,b,h=>by cases h
 |.ix f::p,.Se _,b,h=>by cases h
 |.ix f::p,.ty _,b,h=>by cases h
theorem uC(s:bD G H):∀ {p:Br}{d g:D}{v:V},cM K G d v->gZ p d=Y g->∃y,dm H p v=Y y/\cM K G g y
 |[],d,g,v,r,e=>by cases e;exact(v,W,r)
 | .fld f::p,d,g,v,r,e=>by
  cases d with
  |ins c A x=>
   refine ah λkk =>?_
   let(a,C,F,z,rfl,n,j,l,i):=jh.mp r;let(m,B,e):=ae.1 e;let(E,t,e):=ae.1 e;let(u,q,h):=i.get t;let(w,o,b):=uC s h e;refine kk<|(w,?_,b);simp only[dm,s _ _ j];rw[pA B,q];exact o
  |_=>cases e
 | .ix k::p,d,g,v,r,e=>by
  cases d with
  |lst x=>
   let(a,z,rfl,j,i):=cH.mp r;let(E,t,e):=ae.1 e;let(u,q,h):=i.get t;obtain _:=uC s h e;simp only[dm,s _ _ j]
   simp_all
  |fM ks x=>
   obtain⟨a,z,rfl,⟨n,j⟩,l,i⟩:=kR.mp r;let(E,t,e):=ae.1 e;let(u,q,h):=i.get t;let(w,o,b):=uC s h e;refine(w,?_,b);have XZ:(ks.zip z)[k]?=Y (ks[k]'(by have:=(aq.mp t).1;omega),u):=by rw[ie];exact(aE _,q)
   simp only[dm,s _ _ j,XZ,av,o]
  |_=>cases e
theorem yI{f}:∀ {ks:!aM}{vs:!V}{u:V},(ks.zip vs).lookup f=Y u->∃m,EF f ks=Y m/\vs[m]?=Y u
 |[],vs,u,h=>by simp at h
 |k::ks,[],u,h=>by simp at h
 | k::ks,v::vs,u,h=>by
  simp only[d7,fO]at h;cases e:f==k with
  |true=>rw[e]at h;cases h;exact(0,by simp[EF,e],W)
  |false=>
   rw[e]at h;let(m,b,a):=yI h
   simp_all [EF]
theorem bQ.u4:∀ {p:Br}{y i:Sk}{d:D}{v x:V}{S:!aD},bQ K G H y d v S->jG p y=Y i->(∀b∈S,∀o,H b=Y o->H' b=Y o)->dm H p v=Y x->dm H' p v=Y x
 |[],y,i,d,v,x,S,h,g,k,e=>e| .fld f::p,y,i,d,v,x,S,h,g,k,e=>by
  cases h with
  |@ins c N r E a C X F S n z l t=>
   simp only[dm,z]at e;simp only[dm,k a ay _ z];let(u,j,e):=ae.1 e;rw[j];let(m,R,O):=yI j;let w:(N.map<|cZ r)[m]?=Y (cZ r f):=by rw[aY,uW R];exact Ÿ
   have B:m<E.length:=by rw[t.length.1];exact(aq.mp O).1
   let(P,U,T,A,J,I,Q):=t.at w<|aE B;rw[O]at A;cases A;exact bQ.u4 J g (λb L o q=>k b (ax _<|I.symm.subset<|br _ L) o q) e
  |_=>cases g
 | .ix m::p,y,i,d,v,x,S,h,g,k,e=>by
  cases h with
  |@lst s E a F S z t=>
   simp only[dm,z]at e;simp only[dm,k a ay _ z];let(u,j,e):=ae.1 e;rw[j];have B:m<E.length:=by rw[t.length.1];exact(aq.mp j).1
   let w:(aH E.length s)[m]?=Y s:=by simp[B]
   let(P,U,T,A,J,I,Q):=t.at w<|aE B;rw[j]at A;cases A;exact bQ.u4 J g (λb L o q=>k b (ax _<|I.symm.subset<|br _ L) o q) e
  |@dt s ks E a F S n z l t=>
   simp only[dm,z]at e;simp only[dm,k a ay _ z];obtain⟨⟨kk,u⟩,j,e⟩:=ae.1 e;rw[j];rw[ie]at j;have B:m<E.length:=by rw[t.length.1];exact(aq.mp j.2).1
   let w:(aH E.length s)[m]?=Y s:=by simp[B]
   let(P,U,T,A,J,I,Q):=t.at w<|aE B;rw[j.2]at A;cases A;exact bQ.u4 J g (λb L o q=>k b (ax _<|I.symm.subset<|br _ L) o q) e
  |_=>cases g
noncomputable def Bl:Br->!aM
 |[]=>[]|.fld f::p=>f::Bl p|.ix _::p=>Bl p
set_option tactic.hygienic true in
theorem u0{s m}(j:H x=Y (.ins C A s))(i:H' x=Y (.ins B t m))(l:∀b,b≠x->∀o,H b=Y o->H' b=Y o):∀ {p:Br}{v d:V},(∀g∈Bl p,m.lookup g=s.lookup g)->dm H p v=Y d->dm H' p v=Y d
 |[],v,d,c,h=>h| .fld g::p,.ref a,d,c,h=>by
  simp only[dm]at h ⊢;by_cases n:a=x
  .subst n;rw[j]at h;rw[i];simp only at h ⊢;rw[c g<|by simp[Bl]];let(u,e2,h):=ae.1 h;rw[e2];exact u0 j i l (p:=p) (λg q=>c g<|by simp[Bl,q]) h
  .rcases e:H a with _|o
   .rw[e]at h;cases h
   rw[e]at h;rw[l a n _ e];cases o<;>simp only at h ⊢<;>try (cases h;done)
   rename_i D y r;let(u,e2,h):=ae.1 h;rw[e2];exact u0 j i l (p:=p) (λg q=>c g<|by simp[Bl,q]) h
 | .ix k::p,.ref a,d,c,h=>by
  simp only[dm]at h ⊢;rcases e:H a with _|o
  .simp_all
  rw[e]at h;have n:a≠x:=λz=>by subst z;rw[j]at e;cases e;cases h
  rw[l a n _ e];cases o<;>simp only at h<;>try (cases h;done)
  all_goals
   simp only;let(u,e2,h):=ae.1 h;rw[e2];exact u0 j i l (p:=p) c h
 |.fld f::p,.cT,d,c,h=>by cases h
 |.fld f::p,.bl _,d,c,h=>by cases h
 |.fld f::p,.int _,d,c,h=>by cases h
 |.fld f::p,.str _,d,c,h=>by cases h
 |.fld f::p,.Vv _,d,c,h=>by cases h
 |.fld f::p,.Se _,d,c,h=>by cases h
 |.fld f::p,.ty _,d,c,h=>by cases h
 |.ix f::p,.cT,d,c,h=>by cases h
 |.ix f::p,.bl _,d,c,h=>by cases h
 |.ix f::p,.int _,d,c,h=>by cases h
 |.ix f::p,.str _,d,c,h=>by cases h
 |.ix f::p,.Vv _,d,c,h=>by cases h
 |.ix f::p,.Se _,d,c,h=>by cases h
 |.ix f::p,.ty _,d,c,h=>by cases h
def bQ.root{s}{v}{S}(h:bQ K G H s t v S)(b:s ≠ .lf)(c:∀r,s ≠ .pr r):∃a o,v=.ref a/\H a=Y o/\a∈S:=by
 cases h<;>simp_all
def bQ.isRef{s}{v}{S}(h:bQ K G H s t v S)(b:s ≠ .lf):∃a,v=.ref a:=by
 cases h<;>first|trivial|solve_by_elim
noncomputable def jd(f:aM)(d:D):!aM->!D->!aM×!D
 |k::a,x::b=>if k=f then (k::a,d::b) else (k::(jd f d a b).1,x::(jd f d a b).2)
 |_,_=>([f],[d])
theorem FH{f}{v}{m}(s:bQ K G H (cZ j f) d v m):∀ {b:!aM}{c:!D}{i:!V}{S:!aD},b.length=c.length->dy K G H (b.map<|cZ j) c i S ->
  ∃g o R,lg f v (b.zip i)=(jd f d b c).1.zip g/\(jd f d b c).1.length=(jd f d b c).2.length/\dy K G H ((jd f d b c).1.map<|cZ j) (jd f d b c).2 g o/\o.Perm (m++R)/\R.Sublist S
 |[],[],i,S,h,r=>by cases r;exact([v],_,[],W,W,.cons s .nil,.rfl,.slnil)
 |[],x::c,i,S,h,r=>by simp at h
 |k::b,[],i,S,h,r=>by simp at h
 | k::b,x::c,i,S,h,r=>by
  cases r with
  |@cons _ _ _ _ u n T U a t=>
   simp at h;unfold jd;rw[show lg f v _=if k=f then (k,v)::b.zip n else (k,u)::lg f v _ from W];by_cases w:k=f
   .subst w;rw[if_pos W,if_pos W];exact(_,_,U,W,by simp[h],.cons s t,.rfl,List.sublist_append_right T U)
   .rw[if_neg w,if_neg w];refine ah λkk =>?_
    let(g,o,R,e,l,q,p,z):=FH s h t;exact kk<|(_,_,_,Ÿ,by simp[l],.cons a q,(p.append_left T).trans<|bV T m R,z.append_left T)
theorem bQ.put{p}{s}{v}{S1}{f}{d}{u}(h:bQ K G H s t v T)(nd:T.Nodup)(es:jG p s=Y (.fs c L))(ep:gZ p t=Y (.ins c j A))(g:bD G G')(k:∀b∈T,∀o,H b=Y o->B b=Y o)(ov:bQ K G' B (cZ L f) d u S1)(X:S1.Nodup)(dj:∀b∈S1,b∉T):
  ∃x C y r,dm H p v=Y (.ref x)/\x∈T/\jf K aW c=Y (Y<|.ref C)/\H x=Y (.ins C y<|j.zip r)/\j.length=A.length/\j.length=r.length /\
   ∃F,bQ K G' (cO B x<|.ins C y<|lg f u<|j.zip r) s (gX (.ins c (jd f d j A).1 (jd f d j A).2) p t) v F/\F.Nodup/\∀b∈F,b∈T\/b∈S1:=by
 let(v',T1,U,e1,o1,E,k1):=h.focus es ep;cases o1 with
 |@ins _ _ _ _ x C y r J n ex l tt=>
  let m:(x::J++U).Nodup:=E.nodup_iff.mp nd;let hxS:x∉J:=λz=>by simp at m;exact m.1.1 z
  have hxU:x∉U:=λz=>by simp at m;exact m.1.2 z
  have O:x∈T:=E.symm.subset ż;have I:∀b∈J,b∈T:=λb i=>E.symm.subset (by simp[i])
  have UT:∀b∈U,b∈T:=λb i=>E.symm.subset (by simp[i])
  let x1:x∉S1:=λz=>dj x z O
  refine(x,C,y,r,e1,O,n,ex,l,by rw[l,tt.length.1],?_);let Q:=tt.mono g λb i o e=>k b (I b i) o e
  let(P,S',R,z1,z2,z3,N,Da):=FH ov l Q;let hx':∀b∈S',b≠x:=λb i z=>by
   subst z;obtain q|q:=aX.mp<|N.subset i
   .exact x1 q
   .exact hxS<|Da.subset q
  let oo:bQ K G' (cO B x<|.ins C y<|lg f u<|j.zip r) (.fs c L) _ (.ref x)<|x::S':=
   .ins (dx:=y) (vs:=P) n (by rw[aP,z1]) z2 (z3.mono (bD.refl _) λb i o e=>by rw[aI<|hx' b i];exact e)
  let(_,F,o2,p2):=k1 G' _ _ _ g (λb i o e=>by let hb2:b≠x:=λz=>hxU<|z ▸ i;rw[aI hb2];exact k b (UT b i) o e) oo;refine(F,o2,?_,λb i =>?_)
  .rw[p2.nodup_iff];rw[(((N.cons x).append_right U)).nodup_iff];let w:(x::R++U).Sublist<|x::J++U:=(Da.cons_cons x).append_right U;let S:(x::R++U).Nodup:=m.sublist w;have:(x::(S1++R)++U).Perm<|S1++(x::R++U):=by simpa [bU] using bV [x] S1 (R++U)
   rw[this.nodup_iff,b8];refine(X,S,λa ha b i z =>?_);subst z;exact dj a ha<|E.symm.subset<|w.subset i
  .obtain q|q:=aX.mp<|p2.subset i<;>grind
def dy.append{f}{S}(h:dy K G H i f g S)(k:dy K G H c e b j):dy K G H (i++c) (f++e) (g++b)<|S++j:=by
 induction f generalizing i g S with
 |nil=>cases h;exact k| cons d f ih=>cases h with
  |cons a t=>rw[bU];exact Ÿ
theorem bQ.app{p:Br}{s}{v}{S1}{d:D}{u:V}{m:Hp}(h:bQ K G H s t v T)(nd:T.Nodup)(es:jG p s=Y (.li n))(ep:gZ p t=Y (.lst l))(g:bD G G')(k:∀b∈T,∀o,H b=Y o->m b=Y o)(R:bQ K G' m n d u S1)(C:S1.Nodup)(O:∀b∈S1,b∉T):
  ∃x j,dm H p v=Y (.ref x)/\x∈T/\H x=Y (.lst j)/\l.length=j.length /\
   ∃w,bQ K G' (cO m x<|.lst<|j++[u]) s (gX (.lst<|l++[d]) p t) v w/\w.Nodup/\∀b∈w,b∈T\/b∈S1:=by
 let(v',T1,U,e1,o1,r,k1):=h.focus es ep;cases o1 with
 |@lst _ _ x j i ex L=>
  let f:(x::i++U).Nodup:=r.nodup_iff.mp nd;let F:x∉i:=λz=>by simp at f;exact f.1.1 z
  have E:x∉U:=λz=>by simp at f;exact f.1.2 z
  have A:x∈T:=r.symm.subset ż;let y:∀b∈i,b∈T:=λb c=>r.symm.subset (by simp[c])
  have P:∀b∈U,b∈T:=λb c=>r.symm.subset (by simp[c])
  let Q:x∉S1:=λz=>O x z A
  refine(x,j,e1,A,ex,L.length.1,?_);let B:dy K G' m (aH (l++[d]).length n) (l++[d]) (j++[u])<|i++(S1++[]):=by rw[bf,c_,x8];exact(L.mono g λb c o e=>k b (y b c) o e).append<|.cons R .nil
  rw[bT]at B;let I:∀b∈i++S1,b≠x:=λb c z=>by subst z;obtain q|q:=aX.mp c<;>lia
  let S:bQ K G' (cO m x<|.lst<|j++[u]) (.li n) (.lst<|l++[d]) (.ref x)<|x::(i++S1):=
   .lst aP (B.mono (bD.refl _) λb c o e=>by rw[aI<|I b c];exact e)
  let(_,w,X,N):=k1 G' (cO m x<|.lst<|j++[u]) _ _ g (λb c o e=>by let J:b≠x:=λz=>E<|z ▸ c;rw[aI J];exact k b (P b c) o e) S;refine(w,X,?_,λb c =>?_)
  .rw[N.nodup_iff];have:(x::(i++S1)++U).Perm<|S1++(x::i++U):=by simpa [bU] using bV (x::i) S1 U
   rw[this.nodup_iff,b8];refine(C,f,λa ha b c z =>?_);subst z;exact O a ha<|r.symm.subset c
  grind
def dy.last{f}{S}(h:dy K G H (b++[k]) (f++[d]) e S)(l:b.length=f.length):∃g u j i,e=g++[u]/\S=j++i/\dy K G H b f g j/\bQ K G H k d u i:=by
 induction f generalizing b e S with
 |nil=>
  cases b with
  | nil=>cases h with
   |@cons _ _ _ _ v e S T a t=>cases t;exact([],v,[],S,W,ż,.nil,a)
  |cons=>simp at l
 |cons c f ih=>
  cases b with
  |nil=>simp at l|cons m b=>
   cases h with
   |@cons _ _ _ _ v e S T a t=>let(g,u,j,i,rfl,rfl,o,n):=ih t Ż;exact(_,u,_,i,W,by rw[bU],.cons a o,n)
theorem bQ.aeR{p}{s}{v}(h:bQ K G H s t v T)(J:T.Nodup)(N:jG p s=Y (.li l))(O:gZ p t=Y (.lst<|j++[d])):
  ∃x f u,dm H p v=Y (.ref x)/\x∈T/\H x=Y (.lst<|f++[u])/\j.length=f.length /\
   ∃k g,bQ K G (cO H x<|.lst f) s (gX (.lst j) p t) v k/\bQ K G (cO H x<|.lst f) l d u g/\(k++g).Perm T:=by
 let(R,S,U,P,I,m,L):=h.focus N O;cases I with
 |@lst _ _ x Q X c w=>
  rw[bf,c_,x8]at w;let(f,u,A,g,rfl,rfl,y,B):=w.last ż;have a:=m.nodup_iff.mp J;refine(x,f,u,P,m.symm.subset ż,c,y.length.1,?_);let E:bQ K G _ _ _ _ _:=
   .lst aP (y.mono (bD.refl _) λb i o e=>by rw[aI<|λz=>(λz=>by simp at a;exact a.1.1 z)<|z ▸ i];exact e)
  let(_,k,F,C):=L G _ _ _ (bD.refl _) λb i o e=>by grind [aI] E
  refine(k,g,F,B.mono (bD.refl _) λb i o e=>by grind [aI],?_)
  grind
def zj{f}{S}:bQ K G H (.fs c []) (.ins c f b) (.ref x) S↔(∃o,H x=Y o/\iY K G (.ins c f b) o)/\S=[x]:=by
 let p:∀ {f:!aM}{b:!D}{g:!V}{S:!_},dy K G H (f.map<|cZ []) b g S->bB K G b g/\S=[]:=by
  intro f
  induction f with
  |nil=>intro b g S h;cases h;exact Ÿ
  |cons k f ih=>
   intro b g S h;cases h with
   |cons a t=>
    cases a with
    |leaf r=>let(m,rfl):=ih t;exact(.cons r m,W)
 let i:∀ {f:!aM}{b:!D}{g:!V},f.length=b.length->bB K G b g->dy K G H (f.map<|cZ []) b g []:=by
  intro f
  induction f with
  |nil=>
   intro b g j r;cases b with
   |nil=>rw[cF.mp r];exact .nil|cons=>simp at j
  |cons k f ih=>
   intro b g j r;cases b with
   |nil=>simp at j|cons d b=>let(v,u,rfl,s,q):=bt.mp r;exact .cons (.leaf s) Ż
 constructor
 .intro h;cases h with
  |ins n e l t=>let(m,rfl):=p t;exact((_,e,_,_,_,W,n,l,m),W)
 .rintro⟨⟨o,e,C,w,g,rfl,n,l,r⟩,rfl⟩;exact .ins n e l<|i l r
theorem bQ.dput{p}{s}{v}(h:bQ K G H s t v T)(I:T.Nodup)(N:jG p s=Y .di)(O:gZ p t=Y (.fM q y))(g:bD G G')(k:∀b∈T,∀o,H b=Y o->A b=Y o):
  ∃x m,dm H p v=Y (.ref x)/\x∈T/\(∃n,H x=Y (.dK (q.zip m) n))/\q.length=y.length/\bB K G y m /\
   ∀(a:!hW) (c:!D) (d:!V) (n:Nat),a.length=c.length->bB K G' c d->∃j,bQ K G' (cO A x<|.dK (a.zip d) n) s (gX (.fM a c) p t) v j/\j.Nodup/\∀b∈j,b∈T:=by
 let(R,S,U,P,F,n,L):=h.focus N O;cases F with
 |@fM _ _ x m _ f l r=>
  refine(x,m,P,n.symm.subset ż,(_,f),l,r,λa c d i0 J C =>?_);let(_,j,E,B):=L G' (cO A x _) _ [x] g λb i o e=>by grind [aI] (.fM aP J C)
  exact(j,E,by rw[B.nodup_iff];exact(n.nodup_iff.mp I),λb i=>n.symm.subset<|B.subset i)
theorem bQ.acE{p}{s}{v}{S1}{k:hW}{d:D}{u:V}{m:Hp}(h:bQ K G H s t v T)(nd:T.Nodup)(es:jG p s=Y (.dt n))(ep:gZ p t=Y (.fM q y))(g:bD G G')(kk:∀b∈T,∀o,H b=Y o->m b=Y o)(R:bQ K G' m n d u S1)(C:S1.Nodup)(O:∀b∈S1,b∉T):
  ∃x j N,dm H p v=Y (.ref x)/\x∈T/\H x=Y (.dK (q.zip j) N)/\q.length=j.length/\q.length=y.length /\
   ∀N',∃w,bQ K G' (cO m x<|.dK ((q++[k]).zip<|j++[u]) N') s (gX (.fM (q++[k])<|y++[d]) p t) v w/\w.Nodup/\∀b∈w,b∈T\/b∈S1:=by
 let(v',T1,U,e1,o1,r,k1):=h.focus es ep;cases o1 with
 |@dt _ _ _ x j i N ex lq L=>
  let f:(x::i++U).Nodup:=r.nodup_iff.mp nd;let F:x∉i:=λz=>by simp at f;exact f.1.1 z
  have E:x∉U:=λz=>by simp at f;exact f.1.2 z
  have A:x∈T:=r.symm.subset ż;let l:∀b∈i,b∈T:=λb c=>r.symm.subset (by simp[c])
  have P:∀b∈U,b∈T:=λb c=>r.symm.subset (by simp[c])
  let Q:x∉S1:=λz=>O x z A
  refine(x,j,N,e1,A,ex,by rw[lq,L.length.1],lq,λN' =>?_);let B:dy K G' m (aH (y++[d]).length n) (y++[d]) (j++[u])<|i++(S1++[]):=by rw[bf,c_,x8];exact(L.mono g λb c o e=>kk b (l b c) o e).append<|.cons R .nil
  rw[bT]at B;let I:∀b∈i++S1,b≠x:=λb c z=>by
   subst z;obtain q|q:=aX.mp c
   .exact F q
   .exact Q q
  let S:bQ K G' (cO m x<|.dK ((q++[k]).zip<|j++[u]) N') (.dt n) (.fM (q++[k])<|y++[d]) (.ref x)<|x::(i++S1):=
   .dt aP (by simp[lq]) (B.mono (bD.refl _) λb c o e=>by rw[aI<|I b c];exact e)
  let(_,w,X,N):=k1 G' (cO m x<|.dK ((q++[k]).zip<|j++[u]) N') _ _ g (λb c o e=>by let J:b≠x:=λz=>E<|z ▸ c;rw[aI J];exact kk b (P b c) o e) S;refine(w,X,?_,λb c =>?_)
  .rw[N.nodup_iff];have:(x::(i++S1)++U).Perm<|S1++(x::i++U):=by simpa [bU] using bV (x::i) S1 U
   rw[this.nodup_iff,b8];refine(C,f,λa ha b c z =>?_);subst z;exact O a ha<|r.symm.subset c
  .obtain z|z:=aX.mp (N.subset c)
   .obtain z|z:=aT.mp z
    .exact .inl<|z ▸ A
    .obtain z|z:=aX.mp z
     .exact .inl<|l b z
     .exact .inr z
   .exact .inl<|P b z
end
end L2
namespace L2
open PySem PySem.Spec PyProof.Rows
def adk(K:aS)(G H:Hp):D->aD->HO->Prop
 |.obj s t,a,_=>∃S,bQ K G H s t (.ref a) S/\∀b∈S,G b=M|.dP _ _,_,_=>True|d,_,o=>iY K G d o
def iN(K:aS)(G H:Hp)(d:D)(v:V):Prop:=cM K G d v\/∃a o,v=.ref a/\H a=Y o/\adk K G H d a o
section
variable {K:aS}
def iN.ext{d:D}{v}(r:iN K G H d v)(E:f_ G H G' H'):iN K G' H' d v:=by
 obtain r|⟨a,o,k,j,c⟩:=r
 .exact .inl<|cM.mono E.gg d r
 .refine .inr (a,o,k,E.hh _ _ j,?_);cases d with
  |obj s t=>
   let(S,g,i):=c;refine(S,g.mono E.gg λb f o e=>E.hh b o e,λb f =>?_);let(u,h,_):=g.here b f;rcases q:G' b with _|w
   .rfl
   obtain z|z:=E.fr b w q<;>simp_all
  |dP=>trivial|lst=>exact iY.mono E.gg (d :=.lst _) c|ins=>exact iY.mono E.gg (d :=.ins _ _ _) c|fM=>exact iY.mono E.gg (d :=.fM _ _) c|_=>exact c
def iN.cT{v:V}(r:iN K G H .cT v):v=.cT:=by
 obtain r|⟨a,o,_,_,e⟩:=r
 .exact Ÿ
 exact Ÿ
def iN.bl{v:V}(r:iN K G H (.bl b) v):v=.bl b:=by
 obtain r|⟨a,o,_,_,e⟩:=r
 .exact Ÿ
 exact Ÿ
def iN.int{i:Int}{v:V}(r:iN K G H (.int i) v):v=.int i:=by
 obtain r|⟨a,o,_,_,e⟩:=r
 .exact Ÿ
 exact Ÿ
def iN.str{v:V}(r:iN K G H (.str x) v):v=.str x:=by
 obtain r|⟨a,o,_,_,e⟩:=r
 .exact Ÿ
 exact Ÿ
def iN.lst{ds:!D}{v}(s:bD G H)(r:iN K G H (.lst ds) v):∃a vs,v=.ref a/\H a=Y (.lst vs)/\bB K G ds vs:=by
 obtain r|⟨a,o,d,c,vs,rfl,b⟩:=r
 .let(a,vs,e,q,t):=cH.mp r;exact(a,vs,e,s _ _ q,t)
 .exact(a,vs,d,c,b)
def iN.tup{ds:!D}{v}(s:bD G H)(r:iN K G H (.tup ds) v):∃a b,v=.ref a/\H a=Y (.tup b)/\bB K G ds b:=by
 obtain r|⟨a,o,_,_,e⟩:=r
 .let(a,b,e,q,t):=dA.mp r;exact(a,b,e,s _ _ q,t)
 exact Ÿ
def iN.oE{v:V}(s:bD G H)(r:iN K G H (.oE ns) v):∃a,v=.ref a/\lZ K H a (ns.map V.int):=by
 obtain r|⟨a,o,_,_,e⟩:=r
 .let(a,e,q):=Dh.mp r;exact(a,e,s.seq q)
 exact Ÿ
def iN.afe{f:!aM}{v}(s:bD G H)(r:iN K G H (.ins c f g) v):∃a C d b,v=.ref a/\H a=Y (.ins C d<|f.zip b)/\jf K aW c=Y (Y<|.ref C)/\f.length=g.length/\bB K G g b:=by
 obtain r|⟨a,o,j,i,C,d,b,rfl,n,l,h⟩:=r
 .let(a,C,d,b,e,n,q,l,t):=jh.mp r;exact(a,C,d,b,e,s _ _ q,n,l,t)
 .exact(a,C,d,b,j,i,n,l,h)
def iN.Vj{v:V}(s:bD G H)(r:iN K G H (.fM c d) v):∃a b,v=.ref a/\(∃n,H a=Y (.dK (c.zip b) n))/\c.length=d.length/\bB K G d b:=by
 obtain r|⟨a,o,h,g,b,⟨n,rfl⟩,l,f⟩:=r
 .obtain⟨a,b,e,⟨n,q⟩,l,t⟩:=kR.mp r;exact(a,b,e,(n,s _ _ q),l,t)
 .exact(a,b,h,(n,g),l,f)
def iN.ins{ks:!aM}{d}{v}(r:iN K G H (.ins c ks d) v):∃a,v=.ref a:=by
 obtain r|⟨a,o,b,_⟩:=r
 .let(a,C,dx,vs,e,_):=jh.mp r;exact(a,e)
 .exact(a,b)
def iN.fM{ks:!hW}{ds}{v}(r:iN K G H (.fM ks ds) v):∃a,v=.ref a:=by
 obtain r|⟨a,o,b,_⟩:=r
 .let(a,vs,e,_):=kR.mp r;exact(a,e)
 .exact(a,b)
def iN.all{v:V}(s:bD G H)(r:iN K G H d v):cM K H d v:=by
 obtain r|⟨a,o,i,e,c⟩:=r
 .exact cM.mono s d r
 .subst i;cases d with
  |obj k t=>let(S,h,g):=c;exact lU.mpr<|cM.mono (jL s) t<|h.frozen g λb f=>f
  |dP=>solve_by_elim|lst=>exact(iY.mono s (d :=.lst _) c).rep e|ins=>exact(iY.mono s (d :=.ins _ _ _) c).rep e|fM=>exact(iY.mono s (d :=.fM _ _) c).rep e|_=>exact c.elim
end
abbrev cf:=!(↑D)
abbrev DF:=cf->↑D
abbrev DT:=cf->↑Bool
abbrev DL:=cf->↑(!D)
noncomputable abbrev Ii(j:Nat):Nat:=j+1000000
noncomputable abbrev A9(j:Nat):Nat:=j+2000000
noncomputable def GW:!aM:=["rows","coming"]
def G9(Z:!Nat)(H:Hp)(a:St)(c:cf)(j r:Nat)(p:Br):Prop:=r∈Z/\A9 r∈Z/\∃s t d v b,c[r]?=Y (Y<|.obj s t)/\a[r]?=Y (Y v)/\a[j]?=Y (Y b)/\dm H p v=Y b/\jG p s=Y d/\∀g∈Bl p,g∈GW
structure jz(K:aS)(Z:!Nat)(G H:Hp)(σ:St)(ρ:cf):Prop where
 len:σ.length=ρ.length
 get:∀(i:Nat) (d:D),ρ[i]?=some (some d)->∃v,σ[i]?=some (some v)/\(if i∈Z then iN K G H d v else cM K G d v)
 dP:∀(j r:Nat) (p:Br),j∈Z->Ii j∈Z->ρ[j]?=some (some<|.dP r p)->G9 Z H σ ρ j r p
def G9.ext{H':Hp}{a}{r:Nat}(h:G9 Z H a b j r p)(s:bD H H'):G9 Z H' a b j r p:=by
 let(g,i,e,d,f,v,c,q,o,n,l,k):=h;exact(g,i,e,d,f,v,c,q,o,n,fZ s l,k)
def jz.ext{K:aS}{G' H':Hp}{a:St}(h:jz K Z G H a b)(E:f_ G H G' H'):jz K Z G' H' a b:=(h.len,λi d e=>by
 let(v,q,r):=h.get i d e;refine(v,q,?_);by_cases c:i∈Z
 .rw[if_pos c]at r ⊢;exact r.ext E
 .rw[if_neg c]at r ⊢;exact cM.mono E.gg d r,λj r p g f e=>(h.dP j r p g f e).ext E.hh)
inductive tP (K:aS) (Z:!Nat) (f:DF) (b:St) (H:Hp) (Q:VK):Prop
 |mk G a d:bD G H->jz K Z G H b a->f a=some d->(∀v G' H',f_ G H G' H'->cM K G' d v->Q v H')->tP K Z f b H Q
inductive tQ (K:aS) (Z:!Nat) (f:DF) (b:St) (H:Hp) (Q:VK):Prop
 |mk G a d:bD G H->jz K Z G H b a->f a=some d->(∀v G' H',f_ G H G' H'->iN K G' H' d v->Q v H')->tQ K Z f b H Q
inductive tF (K:aS) (Z:!Nat) (f:DL) (d:St) (H:Hp) (Q:VK):Prop
 |mk G a c:bD G H->jz K Z G H d a->f a=some c->(∀p b G' H',f_ G H G' H'->H p=none->G' p=none->H' p=some (.lst b)->bB K G' c b->Q (.ref p) H')->tF K Z f d H Q
inductive qg (K:aS) (Z:!Nat) (f:DT) (c:St) (H:Hp) (Q:Bool->Hp->Prop):Prop
 |mk G a b:bD G H->jz K Z G H c a->f a=some b->(∀G' H',f_ G H G' H'->Q b H')->qg K Z f c H Q
inductive AO (K:aS) (Z:!Nat) (f:DL) (d:St) (H:Hp) (Q:!V->Hp->Prop):Prop
 |mk G a c:bD G H->jz K Z G H d a->f a=some c->(∀b G' H',f_ G H G' H'->bB K G' c b->Q b H')->AO K Z f d H Q
def LK(K:aS)(G H:Hp):!D->!V->Prop:=Paired<|iN K G H
inductive tQA (K:aS) (Z:!Nat) (f:DL) (d:St) (H:Hp) (Q:!V->Hp->Prop):Prop
 |mk G a c:bD G H->jz K Z G H d a->f a=some c->(∀b G' H',f_ G H G' H'->LK K G' H' c b->Q b H')->tQA K Z f d H Q
section
variable {X:Cx}
def PE.imp(h:PE X e t)(k:∀b H Q,c b H Q->t b H Q):PE X e c:=λa s b H Q I q=>h a s b H Q I<|k _ _ _ q
def PT.imp(h:PT X e t)(k:∀b H Q,c b H Q->t b H Q):PT X e c:=λa s b H Q I q=>h a s b H Q I<|k _ _ _ q
def PW.imp(h:PW X e t)(k:∀b H Q,c b H Q->t b H Q):PW X e c:=λw a s b H Q I q=>h w a s b H Q I<|k _ _ _ q
def PA.imp(h:PA X e t)(k:∀b H Q,c b H Q->t b H Q):PA X e c:=λm a s b H Q I q=>h m a s b H Q I<|k _ _ _ q
def PS.imp(h:PS X e t)(k:∀D b H,c D b H->t D b H):PS X e c:=λa s b H D I q=>h a s b H D I<|k _ _ _ q
def mh.imp(h:mh X e t)(k:∀D b H,c D b H->t D b H):mh X e c:=λa s b H D I q=>h a s b H D I<|k _ _ _ q
def m_.imp{f:au->au->Sem au}(h:m_ X f r)(k:∀x y H Q,b x y H Q->r x y H Q):m_ X f b:=λa s c H x y v u Q I e d q=>h a s c H x y v u Q I e d<|k _ _ _ _ q
def dq{f:DF}(h:PE X e<|tP X.K Z f):PE X e<|tQ X.K Z f:=h.imp <|by rintro i H Q ⟨G,b,d,c,a,g,k⟩;exact(G,b,d,c,a,g,λv G' H' E r=>k v G' H' E<|.inl r)
noncomputable def eF(f:DL):DF:=λρ=>(f ρ).map D.lst
def df{f:DL}(h:PE X e<|tF X.K Z f):PE X e<|tP X.K Z<|eF f:=h.imp <|by
 rintro s H Q ⟨G,g,d,q,b,l,k⟩;rcases a:f g with _|c
 .simp_all [eF]
 have:d=.lst c:=by simp_all [eF]
 subst this;exact(G,g,c,q,b,a,λp i G' H' E o j n r=>k _ _ H' (E.freeze o j n)<|cH.mpr (p,i,W,aP,bB.mono (.alloc j) c r))
noncomputable def eV(i:Nat):DF:=λρ=>(ρ[i]?).join
noncomputable def eK(d:D):DF:=λ_=>Y d
def gS(h:eV i a=Y d):a[i]?=Y (Y d):=by
 grind [eV,cu]
def dv{m:Pos}(h:PE X (.Name x m)<|eS i)(b:‹i∉Z›):PE X (.Name x m)<|tP X.K Z<|eV i:=h.imp <|by
 rintro f H Q ⟨G,g,d,c,a,e,k⟩;let(v,q,r):=a.get i d<|gS e;rw[if_neg b]at r;exact(v,q,k v G H (.refl c) r)
def dvo{i:Nat}{m:Pos}(h:PE X (.Name x m)<|eS i)(b:‹i∈Z›):PE X (.Name x m)<|tQ X.K Z<|eV i:=h.imp <|by
 rintro f H Q ⟨G,g,d,c,a,e,k⟩;let(v,q,r):=a.get i d<|gS e;rw[if_pos b]at r;exact(v,q,k v G H (.refl c) r)
def nQ{i j m}:PE X (.Constant (.int i) j m)<|tP X.K Z<|eK<|.int i:=Pk.imp <|by
 rintro e H Q ⟨G,f,d,a,c,b,k⟩;cases b;exact k _ G H (.refl a)<|bY.mpr W
def ahE{b j m}:PE X (.Constant (.bool b) j m)<|tP X.K Z<|eK<|.bl b:=abz.imp <|by
 rintro f H Q ⟨G,g,d,a,e,c,k⟩;cases c;exact k _ G H (.refl a)<|cY.mpr W
def ZD{j m}:PE X (.Constant .none j m)<|tP X.K Z<|eK .cT:=Dm.imp <|by
 rintro e H Q ⟨G,f,d,a,c,b,k⟩;cases b;exact k _ G H (.refl a)<|fc.mpr W
def wC{x j m}:PE X (.Constant (.str x) j m)<|tP X.K Z<|eK<|.str x:=pq.imp <|by
 rintro e H Q ⟨G,f,d,a,c,b,k⟩;cases b;exact k _ G H (.refl a)<|eL.mpr W
noncomputable def aN:DL:=λ_=>Y []
noncomputable def aC(f:DF)(g:DL):DL:=λa=>(f a).bind λx=>(g a).bind λb=>Y<|x::b
def LF{f:DF}{e:!D}(h:aC f g a=Y e):∃x b,f a=Y x/\g a=Y b/\e=x::b:=by
 let(x,d,h):=ae.1 h;rcases c:g a with _|b<;>simp_all
def mR:PA X []<|AO X.K Z aN:=dw.imp <|by
 rintro e H Q ⟨G,f,d,a,c,b,k⟩;cases b;exact k _ G H (.refl a) .nil
def gm{f:DF}{g:DL}(h:PE X e<|tP X.K Z f)(t:PA X A<|AO X.K Z g)(p:@&(ak (e::A) X.env=(Z_,eval e X.env)::ak A X.env)):PA X (e::A)<|AO X.K Z<|aC f g:=
 (bZ h t p).imp <|by rintro z H Q ⟨G,i,d,q,a,s,k⟩;let(x,l,r,b,rfl):=LF s;refine(G,i,x,q,a,r,λv y D c o=>(y,i,l,c.gh,a.ext c,b,λC w u j n=>k _ w u (c.trans j)<|.cons (cM.mono j.gg x o) n))
def D7:PA X []<|tQA X.K Z aN:=dw.imp <|by
 rintro e H Q ⟨G,f,d,a,c,b,k⟩;cases b;exact k _ G H (.refl a) .nil
def Ak{f:DF}(h:PE X e<|tQ X.K Z f)(t:PA X A<|tQA X.K Z g)(p:@&(ak (e::A) X.env=(Z_,eval e X.env)::ak A X.env)):PA X (e::A)<|tQA X.K Z<|aC f g:=
 (bZ h t p).imp <|by rintro z H Q ⟨G,i,d,q,a,s,k⟩;let(x,l,r,b,rfl):=LF s;refine(G,i,x,q,a,r,λv y D c o=>(y,i,l,c.gh,a.ext c,b,λC w u j n=>k _ w u (c.trans j)<|.cons (o.ext j) n))
noncomputable def gQ(g:DL):DF:=λb=>(g b).bind λa=>if a.length<=1000 then Y (.tup a) else M
def uU:1000<=be:=by decide
set_option tactic.hygienic true in
def Rj{o m}{g:DL}(h:PA X A<|AO X.K Z g):PE X (.Tuple A o m)<|tP X.K Z<|gQ g:=(Dl h).imp <|by
 rintro s H Q ⟨G,i,d,r,c,a,k⟩;unfold gQ at a;rw[ae]at a;let(b,e,a):=a;split at a
 .cases a;rename_i q;refine(G,i,b,r,c,e,λj u t f l=>(?_,λp n=>k _ _ _ (f.trans<|f_.alloc f.gh n) ?_))
  .rw[<- l.length];exact bM q uU
  .exact dA.mpr (p,j,W,aP,bB.mono (.alloc<|f.gh.free n) b l)
 .cases a
noncomputable def f7(g:DL):DL:=λb=>(g b).bind λa=>if a.length<=1000 then Y a else M
set_option tactic.hygienic true in
def Rn{m}{g:DL}(h:PA X A<|AO X.K Z g):PE X (.List A m)<|tF X.K Z<|f7 g:=(zh h).imp <|by
 rintro s H Q ⟨G,l,j,o,d,a,k⟩;let(e,q,a):=ae.1 a;split at a
 .cases a;rename_i n;refine(G,l,j,o,d,q,λf r t b i=>(?_,λp c=>k p f r _ (b.trans<|f_.lay b.gh c) (b.hh.free c) (b.gh.free c) aP i));rw[<- i.length];exact bM n uU
 .cases a
noncomputable def e2(o:D->D->↑D)(a b:DF):DF:=λρ=>(a ρ).bind λx=>(b ρ).bind λy=>o x y
def ve(h:e2 o a b c=Y d):∃x y,a c=Y x/\b c=Y y/\o x y=Y d:=by
 let(x,f,h):=ae.1 h;rw[f];rcases e:b c with _|y<;>simp_all
inductive rD (K:aS) (o:D->D->↑D) (x:V) (y:V) (H:Hp) (Q:VK):Prop
 |mk G b a d:bD G H->iN K G H b x->iN K G H a y->o b a=some d->(∀v G' H',f_ G H G' H'->cM K G' d v->Q v H')->rD K o x y H Q
def AS(X:Cx)(f:au->au->Sem au)(o:D->D->↑D):Prop:=m_ X f<|rD X.K o
def JY{K:aS}{Z:!Nat}{fa fb:DF}{e:St}(h:tP K Z (e2 o fa fb) e H Q):tOp (rD K o) (tQ K Z fa) (tQ K Z fb) e H Q:=by
 let(G,f,d,l,a,q,k):=h;let(x,y,p,n,r):=ve q;exact(G,f,x,l,a,p,λv C I c j=>(C,f,y,c.gh,a.ext c,n,λu z F b i=>(z,x,y,d,b.gh,j.ext b,i,r,λw t s E g=>k w t s ((c.trans b).trans E) g)))
variable {m:Pos}
def Rm{op:Operator}(c:AS X (dF op) o)(e:PE X a<|tQ X.K Z fa)(d:PE X b<|tQ X.K Z fb):PE X (.BinOp a op b m)<|tP X.K Z<|e2 o fa fb:=(Ph c e d).imp λf H Q h=>JY h
def I_{op:CmpOp}(c:AS X (d_ op) o)(f:PE X a<|tQ X.K Z fa)(e:PE X b<|tQ X.K Z fb)(d:fB op b=Z_):PE X (.Compare a [op] [b] m)<|tP X.K Z<|e2 o fa fb:=(TC c f e d).imp λg H Q h=>JY h
noncomputable def gP(f:DF):DT:=λa=>(f a).bind λd=>match d with|.bl b=>Y b|_=>M
def n7{f:DF}{a}{b}(h:gP f a=Y b):f a=Y (.bl b):=by
 let(d,e,h):=ae.1 h;rw[e];cases d<;>simp_all
def tO{op:CmpOp}(f:AS X (d_ op) o)(i:PE X a<|tQ X.K Z fa)(h:PE X b<|tQ X.K Z fb)(g:fB op b=Z_):PT X (.Compare a [op] [b] m)<|qg X.K Z<|gP<|e2 o fa fb:=
 (Di f i h g).imp <|by rintro n H Q ⟨G,e,d,j,c,l,k⟩;exact JY (G,e,_,j,c,n7 l,λv G' H' E r=>(d,cY.mp r,k G' H' E))
noncomputable def mr(f g:DT):DT:=λa=>(f a).bind λc=>if c=Z' then g a else Y Z_
noncomputable def xw(f g:DT):DT:=λa=>(f a).bind λc=>if c=Z' then Y Z' else g a
noncomputable def lI(f:DT):DT:=λa=>(f a).map λc=> (not c)
variable {f:DT}
def Lb(b:PT X a<|qg X.K Z f):PW X (.BoolOp .And [a] m)<|qg X.K Z f:=J1 b
def afQ(b:PT X a<|qg X.K Z f):PW X (.BoolOp .Or [a] m)<|qg X.K Z f:=O6 b
def Q0(o:PT X a<|qg X.K Z f)(n:PW X (.BoolOp .And (b::B) m)<|qg X.K Z g):PW X (.BoolOp .And (a::b::B) m)<|qg X.K Z<|mr f g:=(O7 o n).imp <|by
 rintro v H Q ⟨G,j,d,p,h,e,k⟩;let(c,q,e):=ae.1 e;refine(G,j,c,p,h,q,λl s i =>?_);cases c with
 |true=>exact qm (l,j,d,i.gh,h.ext i,e,λt r u=>k t r<|i.trans u)
 |false=>grind
def ahA(o : PT X a<|qg X.K Z f)(n : PW X (.BoolOp .Or (b :: B) m)<|qg X.K Z g): PW X (.BoolOp .Or (a :: b :: B) m) (qg X.K Z<|xw f g) := (Wf o n).imp <|by
  rintro v H Q ⟨G,j,d,p,h,e,k⟩
  let(c,q,e):=ae.1 e
  refine(G,j,c,p,h,q,λl s i => ?_)
  cases c with
  |false => exact i9 (l,j,d,i.gh,h.ext i,e,λt r u => k t r<|i.trans u)
  |true => grind
def D2(i:PT X a<|qg X.K Z f):PT X (.UnaryOp .Not a m)<|qg X.K Z<|lI f:=(HV i).imp <|by
 rintro p H Q ⟨G,h,d,j,e,b,k⟩;unfold lI at b;rcases g:f h with _|c
 .simp_all
 have:d = (not c):=(cu Ż).symm;subst this;exact(G,h,c,j,e,g,λn l o=>k n l o)
def U_(f g:DF):DF:=λa=>(gP f a).bind λc=>if c=Z' then g a else Y (.bl Z_)
def eOr(f g:DF):DF:=λa=>(gP f a).bind λc=>if c=Z' then Y (.bl Z') else g a
noncomputable def U9(f:DT):DF:=λa=>(f a).map λc =>.bl<|not c
def af0{b}(h:PE X a<|tP X.K Z fa):PE X (.BoolOp b [a] m)<|tP X.K Z fa:=Yf h
def I'(o : PE X a<|tP X.K Z fa)(n : PE X (.BoolOp .And (b :: B) m)<|tP X.K Z fb): PE X (.BoolOp .And (a :: b :: B) m) (tP X.K Z<|U_ fa fb) := (Yh o n).imp <|by
  rintro w H Q ⟨G,h,d,p,f,e,k⟩
  let(c,q,e):=ae.1 e
  refine(G,h,_,p,f,n7 q,λv i s g l => (c,cY.mp l,?_))
  cases c with
  |true => exact qm (i,h,d,g.gh,f.ext g,e,λv t r u j => k v t r (g.trans u) j)
  | false => have : d = .bl Z_ := (cu Ż).symm
             subst this; exact Ÿ
def ahC(o : PE X a<|tP X.K Z fa)(n : PE X (.BoolOp .Or (b :: B) m)<|tP X.K Z fb): PE X (.BoolOp .Or (a :: b :: B) m) (tP X.K Z<|eOr fa fb) := (aby o n).imp <|by
  rintro w H Q ⟨G,h,d,p,f,e,k⟩
  let(c,q,e):=ae.1 e
  refine(G,h,_,p,f,n7 q,λv i s g l => (c,cY.mp l,?_))
  cases c with
  |false => exact i9 (i,h,d,g.gh,f.ext g,e,λv t r u j => k v t r (g.trans u) j)
  | true => have : d = .bl Z' := (cu Ż).symm
            subst this; exact Ÿ
def ZC(i:PE X a<|tP X.K Z fa):PE X (.UnaryOp .Not a m)<|tP X.K Z<|U9<|gP fa:=(Yg i).imp <|by
 rintro p H Q ⟨G,g,d,j,e,b,k⟩;unfold U9 at b;rcases f:gP fa g with _|c
 .simp_all
 rw[f]at b;have:=(cu b).symm;subst this;exact(G,g,_,j,e,n7 f,λv n l o h=>(c,cY.mp h,k _ n l o<|cY.mpr W))
noncomputable def acz(c:DT)(f g:DF):DF:=λa=>(c a).bind λb=>if b=Z' then f a else g a
def ahD(q:PT X c<|qg X.K Z f)(s:PE X a<|tP X.K Z fa)(r:PE X b<|tP X.K Z fb):PE X (.IfExp c a b m)<|tP X.K Z<|acz f fa fb:=(Pl q s r).imp <|by
 rintro w H Q ⟨G,i,d,t,e,h,k⟩;let(c,u,h):=ae.1 h;refine(G,i,c,t,e,u,λp x g =>?_);cases c with
 |true=>exact qm (p,i,d,g.gh,e.ext g,h,λv n l o j=>k v n l (g.trans o) j)
 |false=>exact i9 (p,i,d,g.gh,e.ext g,h,λv n l o j=>k v n l (g.trans o) j)
end
mutual
noncomputable def Ri:D->D->Bool
 |.cT,.cT=>Z'|.bl a,.bl b=>a==b|.bl a,.int b=>(if a then 1 else 0)==b
 |.int a,.bl b=>a==(if b then 1 else 0)
 |.int a,.int b=>a==b|.str a,.str b=>a==b|.lst d,.lst c=>tR d c|.tup d,.tup c=>tR d c|_,_=>Z_
noncomputable def tR:!D->!D->Bool
 |[],[]=>Z'|x::b,y::a=>Ri x y&&tR b a|_,_=>Z_
end
mutual
noncomputable def ko:D->Nat->Bool
 |.lst a,n=>n != 0&&qp a (n-1)|.tup a,n=>n != 0&&qp a (n-1)|.oE _,_=>Z_|.ins _ _ _,_=>Z_|.fM _ _,_=>Z_|.obj _ _,_=>Z_|.dP _ _,_=>Z_|.cT,_=>Z'|.bl _,_=>Z'|.int _,_=>Z'|.str _,_=>Z'
noncomputable def qp:!D->Nat->Bool
 |[],_=>Z'|x::a,n=>ko x n&&qp a n
end
theorem Ao:∀ {a:!D}{n i:Nat}{d:D},qp a n=Z'->a[i]?=Y d->ko d n=Z'
 |[],n,i,d,h,e=>by simp at e
 |x::a,n,0,d,h,e=>by simp_all [qp,bh]
 |x::a,n,i+1,d,h,e=>by simp only[qp,bh]at h;exact Ao (i:=i) h.2 (by trivial)
theorem vg:∀b a,tR b a=((cg<|min b.length a.length).all (λj=>Ri (b.getD j .cT)<|a.getD j .cT)&&(b.length==a.length))
 |[],[]=>by solve_by_elim
 |[],y::a=>by trivial
 |x::b,[]=>by trivial
 | x::b,y::a=>by
  let e:min (x::b).length (y::a).length=min b.length a.length+1:=by simp[Nat.add_min_add_right]
  rw[e,VO,nK,vw];simp only[tR,vg b a,iw,List.getD_cons_zero,List.getD_cons_succ,bK];rw[Bool.and_assoc]
  lia
mutual
theorem GK:∀d n,ko d n=Z'->Ri d d=Z'
 |.cT,n,h=>rfl|.bl b,n,h=>beq_self_eq_true b|.int b,n,h=>beq_self_eq_true b|.str b,n,h=>beq_self_eq_true b|.lst a,n,h=>by simp only[ko,bh]at h;exact oQ a _ h.2
 |.tup a,n,h=>by simp only[ko,bh]at h;exact oQ a _ h.2
 |.oE a,n,h=>by solve_by_elim
 |.ins _ _ _,n,h=>by solve_by_elim
 |.fM _ _,n,h=>by solve_by_elim
 |.obj _ _,n,h=>by solve_by_elim
 |.dP _ _,n,h=>by solve_by_elim
theorem oQ:∀d n,qp d n=Z'->tR d d=Z'
 |[],n,h=>by simp[tR]
 |x::a,n,h=>by simp only[qp,bh]at h;simp only[tR,GK x n h.1,oQ a n h.2,Bool.and_self]
end
section
variable {K:aS}
mutual
theorem cM.inj:∀u g n m {v:V},ko u n=Z'->ko g m=Z'->cM K H u v->cM K H g v->u=g
 |.cT,g,n,m,v,h,d,i,f=>by let e:=fc.mp i;subst e;cases g<;>simp[cM,ko]at f d ⊢
 |.bl b,g,n,m,v,h,d,i,f=>by let e:=cY.mp i;subst e;cases g<;>simp[cM,ko]at f d ⊢<;>exact f
 |.int b,g,n,m,v,h,d,i,f=>by let e:=bY.mp i;subst e;cases g<;>simp[cM,ko]at f d ⊢<;>exact f
 |.str b,g,n,m,v,h,d,i,f=>by let e:=eL.mp i;subst e;cases g<;>simp[cM,ko]at f d ⊢<;>exact f
 | .lst o,g,n,m,v,h,d,i,f=>by
  let(a,w,rfl,l,r):=cH.mp i;cases g with
  |lst k=>let(b,s,e,j,q):=cH.mp f;cases e;rw[l]at j;cases j;simp only[ko,bh]at h d;rw[bB.inj o k _ _ h.2 d.2 r q]
  |tup k=>
   obtain _:=dA.mp f
   simp_all
  |oE k=>simp[ko]at d|ins c t p=>simp[ko]at d|fM t p=>simp[ko]at d|obj=>simp[ko]at d|dP=>simp[ko]at d|_=>simp[cM]at f
 | .tup o,g,n,m,v,h,d,i,f=>by
  let(a,w,rfl,l,r):=dA.mp i;cases g with
  |tup k=>let(b,s,e,j,q):=dA.mp f;cases e;rw[l]at j;cases j;simp only[ko,bh]at h d;rw[bB.inj o k _ _ h.2 d.2 r q]
  |lst k=>
   obtain _:=cH.mp f
   simp_all
  |oE k=>simp[ko]at d|ins c t p=>simp[ko]at d|fM t p=>simp[ko]at d|obj=>simp[ko]at d|dP=>simp[ko]at d|_=>simp[cM]at f
 |.oE o,g,n,m,v,h,d,i,f=>by simp[ko]at h
 |.ins _ _ _,g,n,m,v,h,d,i,f=>by simp[ko]at h
 |.fM _ _,g,n,m,v,h,d,i,f=>by simp[ko]at h
 |.obj _ _,g,n,m,v,h,d,i,f=>by simp[ko]at h
 |.dP _ _,g,n,m,v,h,d,i,f=>by simp[ko]at h
theorem bB.inj:∀b a n m {d:!V},qp b n=Z'->qp a m=Z'->bB K H b d->bB K H a d->b=a
 | [],a,n,m,d,g,f,h,c=>by
  rw[cF.mp h]at c;cases a with
  |nil=>rfl|cons y a=>let(_,_,e,_):=bt.mp c;cases e
 | x::b,a,n,m,d,g,f,h,c=>by
  let(v,r,rfl,q,t):=bt.mp h;cases a with
  |nil=>cases cF.mp c|cons y a=>let(k,l,e,j,i):=bt.mp c;cases e;simp only[qp,bh]at g f;rw[cM.inj x y _ _ g.1 f.1 q j,bB.inj b a _ _ g.2 f.2 t i]
end
end
section
variable {P:bj}{K:aS}{s:az}
def Ib(c:lT P w H s.heap)(e:H a=Y (.lst d)):∃b,cx d b/\s.heap.IsList a b.toArray:=by
 let(z,b,n,r,q):=c a _ e;exact(b,r,_,q,W,n,W)
def Ia(c:lT P w H s.heap)(e:H a=Y (.tup d)):∃b,cx d b/\s.heap.IsTuple a b.toArray:=by
 let(z,b,r,q):=c a _ e
 exact Ÿ
open SeqAt
structure AF(A:fJ)(s:az)(u1 u2:au)(b:Bool):Prop where
 rc:RcAt A s u1 u2 b
 ne:RcNeAt A s u1 u2<|not b
 eq:EqAt A s u1 u2 b
theorem K9(j:lT P w H s.heap)(g:A.units<l9){v:D}{m:Nat}{F:au}(u:ko z 0=Z')(i:ko v m=Z')(y:cM K H z E)(h:cM K H v C)(x:RelV E G)(f:RelV C F):
  AF A s G F (Ri z v):=by
 cases z with
 |cT=>
  have e:=fc.mp y;subst e;cases x;cases v with
  |cT=>have e:=fc.mp h;subst e;cases f;exact(.none_none,.none_none,.same _)
  |bl b=>have e:=cY.mp h;subst e;cases f;exact(.none_bool b,.none_bool b,.none_bool b)
  |int b=>have e:=bY.mp h;subst e;let(t,rfl):=f;exact(.none_int b t,.none_int b t,.none_int b t)
  |str b=>have e:=eL.mp h;subst e;let(t,rfl):=f;exact(.none_str b t,.none_str b t,.none_str b t)
  |lst n=>let(a,r,rfl,q,_):=cH.mp h;cases f;let(k,_,l):=Ib j q;exact(.none_list l g,.none_list l g,.none_list l g)
  |tup n=>let(a,r,rfl,q,_):=dA.mp h;cases f;let(k,_,l):=Ia j q;exact(.none_tuple l g,.none_tuple l g,.none_tuple l g)
  |_=>simp[ko]at i
 |bl c=>
  have e:=cY.mp y;subst e;cases x;cases v with
  |cT=>have e:=fc.mp h;subst e;cases f;exact(.bool_none c,.bool_none c,.bool_none c)
  |bl b=>have e:=cY.mp h;subst e;cases f;exact(.bool_bool c b,.bool_bool c b,.bool_bool c b)
  |int b=>have e:=bY.mp h;subst e;let(t,rfl):=f;exact(.bool_int c b t,.bool_int c b t,.bool_int c b t)
  |str b=>have e:=eL.mp h;subst e;let(t,rfl):=f;exact(.bool_str c b t,.bool_str c b t,.bool_str c b t)
  |lst n=>let(a,r,rfl,q,_):=cH.mp h;cases f;let(k,_,l):=Ib j q;exact(.bool_list c l g,.bool_list c l g,.bool_list c l g)
  |tup n=>let(a,r,rfl,q,_):=dA.mp h;cases f;let(k,_,l):=Ia j q;exact(.bool_tuple c l g,.bool_tuple c l g,.bool_tuple c l g)
  |_=>simp[ko]at i
 |int c=>
  have e:=bY.mp y;subst e;let(d,rfl):=x;cases v with
  |cT=>have e:=fc.mp h;subst e;cases f;exact(.int_none c d,.int_none c d,.int_none c d)
  |bl b=>have e:=cY.mp h;subst e;cases f;exact(.int_bool c d b,.int_bool c d b,.int_bool c d b)
  |int b=>have e:=bY.mp h;subst e;let(t,rfl):=f;exact(.int_int c d b t,.int_int c d b t,.int_int c d b t)
  |str b=>have e:=eL.mp h;subst e;let(t,rfl):=f;exact(.int_str c d b t,.int_str c d b t,.int_str c d b t)
  |lst n=>let(a,r,rfl,q,_):=cH.mp h;cases f;let(k,_,l):=Ib j q;exact(.int_list c d l g,.int_list c d l g,.int_list c d l g)
  |tup n=>let(a,r,rfl,q,_):=dA.mp h;cases f;let(k,_,l):=Ia j q;exact(.int_tuple c d l g,.int_tuple c d l g,.int_tuple c d l g)
  |_=>simp[ko]at i
 |str c=>
  have e:=eL.mp y;subst e;let(d,rfl):=x;cases v with
  |cT=>have e:=fc.mp h;subst e;cases f;exact(.str_none c d,.str_none c d,.str_none c d)
  |bl b=>have e:=cY.mp h;subst e;cases f;exact(.str_bool c d b,.str_bool c d b,.str_bool c d b)
  |int b=>have e:=bY.mp h;subst e;let(t,rfl):=f;exact(.str_int c d b t,.str_int c d b t,.str_int c d b t)
  |str b=>have e:=eL.mp h;subst e;let(t,rfl):=f;exact(.str_str c d b t,.str_str c d b t,.str_str c d b t)
  |lst n=>let(a,r,rfl,q,_):=cH.mp h;cases f;let(k,_,l):=Ib j q;exact(.str_list c d l g,.str_list c d l g,.str_list c d l g)
  |tup n=>let(a,r,rfl,q,_):=dA.mp h;cases f;let(k,_,l):=Ia j q;exact(.str_tuple c d l g,.str_tuple c d l g,.str_tuple c d l g)
  |_=>simp[ko]at i
 |_=>simp[ko]at u
def AF.refs(a:RcAt A s (.ref l) (.ref b) k)(c:RcNeAt A s (.ref l) (.ref b)<|not k)(h:l=b->k=Z'):AF A s (.ref l) (.ref b) k:=by
 refine(a,c,?_);by_cases e:l=b
 .subst e;rw[h W];exact .same _
 .exact .of_refs e a
def Rh(h:b.length≠a.length):tR b a=false:=by
 simp_all [vg,NY]
def Gw{m}(ih:∀(h g:D) (l k:V) (t p:au),ko h n=Z'->ko g m=Z'->cM K H h l->cM K H g k->RelV l t->RelV k p->AF A s t p (Ri h g))(L:qp d n=Z')(J:qp c m=Z')(r:bB K H d i)(q:bB K H c o)(w:cx i b)(x:cx o a)(j:Nat)(P:j<b.toArray.size)(O:j<a.toArray.size):
  EqAt A s b.toArray[j] a.toArray[j] (Ri (d.getD j .cT)<|c.getD j .cT):=by
 have X:=r.length.trans w.length;have U:=q.length.trans x.length;have f:=by simpa using P
 have e:=by simpa using O
 have z:d[j]?=Y (d.getD j .cT):=by rw[NX,aE<|by simp_all];exact Ÿ
 have y:c[j]?=Y (c.getD j .cT):=by rw[NX,aE<|by lia];exact Ÿ
 let(v,T,I):=r.get z;let(u,S,G):=q.get y;let(C,R,F):=w.get T;let(B,Q,E):=x.get S;have N:=by
  have:b[j]?=Y b.toArray[j]:=by simp
  rw[R]at this;exact cu this.symm
 have Da:=by
  have:a[j]?=Y a.toArray[j]:=by simp
  rw[Q]at this;exact cu this.symm
 rw[N,Da];exact(ih _ _ _ _ _ _ (Ao L z) (Ao J y) I G F E).eq
theorem QT(g:lT P w H s.heap):∀(n:Nat){A:fJ}(_:A.units+n<l9) (J F:D) (m:Nat) (Q O:V) (S R:au),ko J n=Z'->ko F m=Z'->cM K H J Q->cM K H F O->RelV Q S->RelV O R ->
  AF A s S R (Ri J F):=by
 intro n
 induction n with
 |zero=>intro A hu J F m Q O S R C k I o G i;exact K9 g ž C k I o G i
 |succ n ih=>
  intro A hu J F m Q O S R C k I o G i;have d:A.units<l9:=Ž
  have ih':=λ(m':Nat)=>λ(J F:D) (Q O:V) (S R:au)=>ih (A:=A.in1) (by show A.units+1+n<l9;lia) J F m' Q O S R
  cases J with
  |lst p=>
   let(a,vs,rfl,X,Da):=cH.mp I;cases G;let(r,U,l):=Ib g X;cases F with
   |lst h=>
    let(b,us,rfl,x,z):=cH.mp o;cases i;let(f,L,q):=Ib g x;have B:=C;have N:=k;simp only[ko,bh,Nat.add_sub_cancel]at B N;have v:r.toArray.size=p.length:=by rw[cp];exact(Da.length.trans U.length).symm
    have y:f.toArray.size=h.length:=by rw[cp];exact(z.length.trans L.length).symm
    have u:a=b->tR p h=true:=λe=>by subst e;rw[X]at x;cases x;rw[<- bB.inj p h _ _ B.2 N.2 Da z];exact oQ p _ B.2
    show AF A s _ _<|tR p h;by_cases hl:p.length=h.length
    .have E:tR p h=(cg r.toArray.size).all (λj=>Ri (p.getD j .cT)<|h.getD j .cT):=by rw[vg,<- hl,EH,v];simp
     have it:=Gw (ih' _) B.2 N.2 Da z U L;exact .refs (by rw[E];exact .lists l q Ž d it) (by rw[E];exact .lists l q Ž d it) u
    .have E:=Rh hl;have UH:(r.toArray.size != f.toArray.size)=true:=by rw[v,y];simpa using hl
     refine .refs ?_ ?_ u
     .rw[E];exact .lists_lengths l q UH d
     .rw[E];exact .lists_lengths l q UH d
   |tup h=>let(b,us,rfl,x,z):=dA.mp o;cases i;let(f,L,q):=Ia g x;exact(.list_tuple l q d,.list_tuple l q d,.list_tuple l q d)
   |cT=>have e:=fc.mp o;subst e;cases i;exact(.list_none l d,.list_none l d,.list_none l d)
   |bl b=>have e:=cY.mp o;subst e;cases i;exact(.list_bool b l d,.list_bool b l d,.list_bool b l d)
   |int b=>have e:=bY.mp o;subst e;let(t,rfl):=i;exact(.list_int b t l d,.list_int b t l d,.list_int b t l d)
   |str b=>have e:=eL.mp o;subst e;let(t,rfl):=i;exact(.list_str b t l d,.list_str b t l d,.list_str b t l d)
   |_=>simp[ko]at k
  |tup p=>
   let(a,vs,rfl,X,Da):=dA.mp I;cases G;let(r,U,l):=Ia g X;cases F with
   |tup h=>
    let(b,us,rfl,x,z):=dA.mp o;cases i;let(f,L,q):=Ia g x;have B:=C;have N:=k;simp only[ko,bh,Nat.add_sub_cancel]at B N;have v:r.toArray.size=p.length:=by rw[cp];exact(Da.length.trans U.length).symm
    have y:f.toArray.size=h.length:=by rw[cp];exact(z.length.trans L.length).symm
    have u:a=b->tR p h=true:=λe=>by subst e;rw[X]at x;cases x;rw[<- bB.inj p h _ _ B.2 N.2 Da z];exact oQ p _ B.2
    show AF A s _ _<|tR p h;have E:tR p h=((cg<|min r.toArray.size f.toArray.size).all (λj=>Ri (p.getD j .cT)<|h.getD j .cT)&&r.toArray.size==f.toArray.size):=by rw[vg,v,y]
    have it:=Gw (ih' _) B.2 N.2 Da z U L;exact .refs (by rw[E];exact .tuples l q d it) (by rw[E];exact .tuples l q d it) u
   |lst h=>let(b,us,rfl,x,z):=cH.mp o;cases i;let(f,L,q):=Ib g x;exact(.tuple_list l q d,.tuple_list l q d,.tuple_list l q d)
   |cT=>have e:=fc.mp o;subst e;cases i;exact(.tuple_none l d,.tuple_none l d,.tuple_none l d)
   |bl b=>have e:=cY.mp o;subst e;cases i;exact(.tuple_bool b l d,.tuple_bool b l d,.tuple_bool b l d)
   |int b=>have e:=bY.mp o;subst e;let(t,rfl):=i;exact(.tuple_int b t l d,.tuple_int b t l d,.tuple_int b t l d)
   |str b=>have e:=eL.mp o;subst e;let(t,rfl):=i;exact(.tuple_str b t l d,.tuple_str b t l d,.tuple_str b t l d)
   |_=>simp[ko]at k
  |oE p=>simp[ko]at C|ins c ks T=>simp[ko]at C|fM ks T=>simp[ko]at C|obj=>simp[ko]at C|dP=>simp[ko]at C|_=>exact K9 g d W k I o G i
end
def nX(x y:D):↑D:=if (ko x 180&&ko y 180)=Z' then Y (.bl<|Ri x y) else M
def F2(x y:D):↑D:=if (ko x 180&&ko y 180)=Z' then Y (.bl<|not<|Ri x y) else M
section
variable {X:Cx}
set_option tactic.hygienic true
def Kl(h:dn k X.A):AS X (d_ .Eq) nX:=by
 intro e s n H x y v u Q I g f (G,m,l,d,c,j,i,a,q);unfold nX at a;split at a
 .rename_i b;rw[bh]at b;cases a;let o:=h.un;exact(QT I.dS 180 Ž m l 180 x y v u b.1 b.2 (j.all c) (i.all c) g f).rc _ _ _ _ (.bl _,H,I,W,q _ G H (.refl c)<|cY.mpr W)
 .cases a
def Kk(h:dn k X.A):AS X (d_ .NotEq) F2:=by
 intro e s n H x y v u Q I g f (G,m,l,d,c,j,i,a,q);unfold F2 at a;split at a
 .rename_i b;rw[bh]at b;cases a;let o:=h.un;exact(QT I.dS 180 Ž m l 180 x y v u b.1 b.2 (j.all c) (i.all c) g f).ne _ _ _ _ (.bl _,H,I,W,q _ G H (.refl c)<|cY.mpr W)
 .cases a
set_option tactic.hygienic false
noncomputable def NR:D->D->↑D
 |.int i,.int j=>Y (.bl<|decide (i<j))|_,_=>M
noncomputable def Km:D->D->↑D
 |.int i,.int j=>Y (.bl<|decide (j<i))|_,_=>M
noncomputable def oGe:D->D->↑D
 |.int i,.int j=>Y (.bl<|decide (j<=i))|_,_=>M
def BV{f}{g':Int->Int->D}(h:m_ X f<|rI C g)(a:∀x y d,o x y=Y d->∃i j,x=.int i/\y=.int j/\C i j/\d=g' i j)(b:∀i j G,cM X.K G (g' i j)<|g i j):AS X f o:=
 m_.imp h <|by rintro x y H Q ⟨G,p,n,d,l,k,e,m,q⟩;let(i,j,rfl,rfl,c,rfl):=a _ _ _ m;exact(i,j,k.int,e.int,c,q _ G H (.refl l)<|b i j G)
def Kh{f}(h:m_ X f<|R' g):m_ X f<|rI (λc c=>True) g:=m_.imp h <|by rintro x y H Q ⟨i,j,b,a,_,q⟩;exact(i,j,b,a,q)
def agU:AS X (d_ .Lt) NR:=BV (Kh abG) (λx y d h=>by unfold NR at h;split at h<;>cases h<;>simp) λi j G=>cY.mpr W
def PR:AS X (d_ .Gt) Km:=BV (Kh abH) (λx y d h=>by unfold Km at h;split at h<;>cases h<;>simp_all) λi j G=>cY.mpr W
def agW:AS X (d_ .GtE) oGe:=BV (Kh abI) (g':=λi j =>.bl<|decide (j<=i)) (λx y d h=>by unfold oGe at h;split at h<;>cases h;exact(_,_,W,W,trivial,W)) λi j G=>cY.mpr W
noncomputable def xG:D->D->↑D
 |.int i,.int j=>Y (.int<|i-j)|_,_=>M
def aeZ:AS X (dF .Sub) xG:=BV (Kh Yj) (λx y d h=>by unfold xG at h;split at h<;>cases h<;>simp_all) λi j G=>bY.mpr W
noncomputable def h_:D->D->↑D
 |.int i,.int j=>if 0<j then Y (.int<|i%j) else M
 |_,_=>M
def ae3:AS X (dF .Mod) h_:=BV Yo λx y d h=>by
 unfold h_ at h;split at h<;>try (cases h)
 simp_all λi j G=>bY.mpr W
noncomputable def i8:D->D->↑D
 |.int i,.int j=>if 0<j/\j<2 ^ 64 then Y (.int<|i/j) else M
 |_,_=>M
def Px:m_ X (dF .FloorDiv)<|rI (λc j=>0<j/\j<2 ^ 64) λi j =>.int<|i/j:=opI λi j c c c c c a q=>by
 let b:j.natAbs<2 ^ 64:=by omega
 refine floordiv_int Ž (by rw[qw i<|by lia];exact q)<|.inl<|PyProof.noPylong_of_log2 ?_;have:=(Nat.log2_lt ŷ).mpr b
 lia
def adB:AS X (dF .FloorDiv) i8:=BV Px λx y d h=>by
 unfold i8 at h;split at h<;>try (cases h)
 simp_all λi j G=>bY.mpr W
noncomputable def dZ:Nat:=1000000
def dY:dZ<=be:=by decide
def ik:D->D->↑D
 |.int i,.int j=>Y (.int<|i+j)|.str x,.str y=>if x.length+y.length<=dZ then Y (.str<|x++y) else M
 |.lst xs,.lst a=>if xs.length+a.length<=dZ then Y (.lst<|xs++a) else M
 |_,_=>M
set_option tactic.hygienic true in
def Yw:AS X (dF .Add) ik:=by
 refine m_.imp (Yq.or<|HY.or Py) ?_;rintro x y H Q ⟨G,u,t,d,e,h,g,c,q⟩;unfold ik at c;split at c<;>try (cases c;done)
 .cases c;exact .inl (_,_,h.int,g.int,q _ G H (.refl e)<|bY.mpr W)
 .split at c
  .cases c;rename_i f;exact .inr<|.inl (_,_,h.str,g.str,bM f dY,q _ G H (.refl e)<|eL.mpr W)
  .cases c
 .split at c
  .cases c;rename_i f;let(a,l,s,o,j):=h.lst e;let(b,m,r,n,i):=g.lst e;refine .inr (.inr (a,b,l,m,s,r,o,n,?_,λp k=>q _ _ _ (f_.alloc e k) ?_))
   .rw[<- j.length,<- i.length];exact bM f dY
   .exact cH.mpr (p,_,W,aP,bB.mono (.alloc<|e.free k) _<|j.append i)
  .cases c
instance:DecidablePred λp:Int×Int=>RT p.1 p.2:=λp=>by unfold RT;infer_instance
def qQ:D->D->↑D
 |.int i,.int j=>if (-(2 ^ 64)<i/\i<2 ^ 64)\/(-(2 ^ 64)<j/\j<2 ^ 64) then Y (.int<|i*j) else M
 |.lst a,.int k=>if (-(2 ^ 63)<=k/\k<2 ^ 63)/\a.length*k.toNat<=dZ then Y (.lst (aH k.toNat a).flatten) else M
 |_,_=>M
set_option tactic.hygienic true in
def ae2:AS X (dF .Mult) qQ:=by
 refine m_.imp (Yn.or Ym) ?_;rintro x y H Q ⟨G,o,n,d,c,i,h,b,q⟩;unfold qQ at b;split at b<;>try (cases b)
 .split at b
  .cases b;rename_i l;exact .inl (_,_,i.int,h.int,l,q _ G H (.refl c)<|bY.mpr W)
  .cases b
 .split at b
  .cases b;rename_i e;let(a,j,m,k,f):=i.lst c;refine .inr (a,_,j,m,h.int,k,e.1.1,e.1.2,?_,λp g=>q _ _ _ (f_.alloc c g) ?_)
   .rw[<- f.length];exact bM e.2 dY
   .exact cH.mpr (p,_,W,aP,bB.mono (.alloc<|c.free g) _<|f.rep _)
  .cases b
noncomputable def e1(o:D->↑D)(a:DF):DF:=λρ=>(a ρ).bind o
def La(h:e1 o a b=Y d):∃x,a b=Y x/\o x=Y d:=by
 let(x,c,h):=ae.1 h;rw[c];exact(x,W,h)
noncomputable def MG:D->↑D
 |.int i=>Y (.int<|-i)|_=>M
def ZE{b}{f}{c}(j:PE X a<|tQ X.K b f):PE X (.UnaryOp .USub a c)<|tP X.K b<|e1 MG f:=(Wg Xf j).imp <|by
 rintro r H Q ⟨G,h,d,l,e,n,k⟩;let(x,m,g):=La n;cases x<;>simp[MG]at g
 subst g;exact(G,h,_,l,e,m,λv p o q i=>(_,i.int,k _ p o q<|bY.mpr W))
end
inductive DO where
 |nx (ρ:cf)|rt (d:D)|ro (ds:!D)|bk (ρ:cf)|ct (ρ:cf)
 |rm (d:D) (ρ:cf)
 |rf (i:Nat) (ρ:cf)
 |ex (c:aM) (n:Int)
abbrev DG:=cf->↑DO
structure Bs where
 g:Hp
 h:Hp
 pin:!(Nat×aD)
 fly:aM->Int->Prop
def jy(K:aS)(G H:Hp):D->aD->!aD->Prop
 |.obj s t,a,S=>bQ K G H s t (.ref a) S|.dP _ _,_,S=>S=[]|d,a,S=>(∃o,H a=Y o/\iY K G d o)/\S=[a]
noncomputable def we:D->Bool
 |.lst _=>Z'|.ins _ _ _=>Z'|.fM _ _=>Z'|_=>Z_
def iY.we{K:aS}(h:iY K G d o):we d=true:=by
 cases d<;>first|rfl|exact h.elim
def jy.cell{K:aS}{d}{a}{S:!aD}(b:we d=Z'):jy K G H d a S↔(∃o,H a=Y o/\iY K G d o)/\S=[a]:=by
 cases d<;>first|exact Iff.rfl|cases b
def jy.here{K:aS}{a:aD}{S:!aD}(h:jy K G H d a S):∀b∈S,∃o,H b=Y o:=λb c=>by
 cases d with
 |obj s t=>let(o,h,_):=bQ.here h b c;exact Ÿ
 |dP r p=>rw[h]at c;cases c|_=>obtain⟨⟨o,e,_⟩,omega⟩:=h;grind
def jy.mono{K:aS}{d}{S}(g:bD G G')(k:∀b∈S,∀o,H b=Y o->H' b=Y o)(h:jy K G H d a S):jy K G' H' d a S:=by
 cases d with
 |obj s t=>exact bQ.mono g k h|dP r p=>exact h|_=>obtain⟨⟨o,e,c⟩,rfl⟩:=h;exact((o,k a Ÿ o e,iY.mono g c),W)
structure jT(K:aS)(B:Bs)(Z:!Nat)(G H:Hp)(σ:St)(ρ:cf)(F:Nat->!aD):Prop where
 it:∀(i:Nat) (d:D),i∈Z->ρ[i]?=some (some d)->∃a,σ[i]?=some (some<|.ref a)/\jy K G H d a (F i)
 ok:∀(i:Nat) (d:D),i∈Z->ρ[i]?=some (some d)->(F i).Nodup/\∀b∈F i,G b=none/\B.2 b=none
 ap:∀(i j:Nat) (d c:D),i∈Z->j∈Z->ρ[i]?=some (some d)->ρ[j]?=some (some c)->i≠j->∀b∈F i,b∉F j
structure SR(K:aS)(B:Bs)(Z:!Nat)(G H:Hp)(σ:St)(ρ:cf):Prop where
 gh:bD G H
 g0:bD B.1 G
 h0:bD B.2 H
 fr:∀b o,G b=some o->B.1 b=some o\/B.2 b=none
 env:∀(i:Nat) (d:D),i∉Z->ρ[i]?=some (some d)->∃v,σ[i]?=some (some v)/\cM K G d v
 ow:∃F,jT K B Z G H σ ρ F
 len:σ.length=ρ.length
 pin:∀(i:Nat) (a:aD),(i,a)∈B.3->i∈Z/\σ[i]?=some (some<|.ref a)
 dP:∀(j r:Nat) (p:Br),j∈Z->Ii j∈Z->ρ[j]?=some (some<|.dP r p)->G9 Z H σ ρ j r p
section
variable {K:aS}
def SR.kz(S:SR K B Z G H C A):f_ B.1 B.2 G H:=(S.h0,S.g0,S.gh,S.fr)
def SR.Pp(S:SR K B Z G H C A)(b:i∈Z)(e:A[i]?=Y (Y d))(c:we d=Z'):∃a o,C[i]?=Y (Y<|.ref a)/\H a=Y o/\iY K G d o/\G a=M/\B.2 a=none:=by
 refine ah λkk =>?_
 let(F,Da):=S.ow;let(a,n,m):=Da.it i d b e;obtain _:=(jy.cell c).mp m;obtain _:=Da.ok i d b e;refine kk ?_
 simp_all
def SR.hI(S:SR K B Z G H C A):jz K Z G H C A:=(S.len,λi d e=>by
 by_cases j:i∈Z
 .let(F,Da):=S.ow;let(a,q,f):=Da.it i d j e;refine(_,q,?_);rw[if_pos j];let(_,m):=Da.ok i d j e;cases d with
  |obj s t=>
   generalize F i=u at f m;cases f with
   |leaf r=>solve_by_elim|lst e t=>exact .inr (a,_,W,e,_,.lst e t,λb k=>(m b k).1)
   |ins n e l t=>exact .inr (a,_,W,e,_,.ins n e l t,λb k=>(m b k).1)
   |fM e l t=>exact .inr (a,_,W,e,_,.fM e l t,λb k=>(m b k).1)
   |pr e r s=>exact .inr (a,_,W,S.gh _ _ e,_,.pr e r s,λb k=>(m b k).1)
   |dt e l t=>exact .inr (a,_,W,e,_,.dt e l t,λb k=>(m b k).1)
  |dP r p=>solve_by_elim|lst=>obtain⟨⟨o,g,c⟩,h⟩:=f;exact .inr (a,o,W,g,c)
  |ins=>obtain⟨⟨o,g,c⟩,h⟩:=f;exact .inr (a,o,W,g,c)
  |fM=>obtain⟨⟨o,g,c⟩,h⟩:=f;exact .inr (a,o,W,g,c)
  |_=>obtain⟨⟨o,g,c⟩,h⟩:=f;exact c.elim
 .obtain _:=S.env i d j e
  simp_all,S.dP)
def fR{l:!(↑b)}(h:(l.set i<|Y x)[j]?=Y (Y y)):(i=j/\y=x/\i<l.length)\/(i≠j/\l[j]?=Y (Y y)):=by
 by_cases e:i=j
 .subst e;by_cases a:i<l.length<;>simp_all
 .rw[aw e]at h;exact .inr (e,h)
def pQ{l:!(↑a)}(h:i<l.length):(l.set i<|Y x)[i]?=Y (Y x):=by rw[bG h]
def jT.ext{F:Nat->!aD}(Da:jT K B Z G H C A F)(E:f_ G H G' H'):jT K B Z G' H' C A F:=by
 refine(λi d c e =>?_,λi d c e =>?_,Da.ap)
 .let(a,h,g):=Da.it i d c e;exact(a,h,g.mono E.gg λb j o=>E.hh b o)
 .let(a,h,g):=Da.it i d c e;let(n,k):=Da.ok i d c e;refine(n,λb f=>(?_,(k b f).2));obtain _:=g.here b f;rcases q:G' b with _|u
  .rfl
  obtain z|z:=E.fr b u q<;>simp_all
def SR.ext(S:SR K B Z G H C A)(E:f_ G H G' H'):SR K B Z G' H' C A:=by
 refine(E.gh,S.g0.trans E.gg,S.h0.trans E.hh,λb o e =>?_,λi d a e =>?_,?_,S.len,S.pin,λj r p f c e=>(S.dP j r p f c e).ext E.hh)
 .obtain q|q:=E.fr b o e
  .exact S.fr b o q
  .exact .inr<|S.h0.free q
 .let(v,h,g):=S.env i d a e;exact(v,h,cM.mono E.gg d g)
 .let(F,Da):=S.ow;exact(F,Da.ext E)
def SR.uy{v:V}(S:SR K B Z G H C A)(P:i∉Z)(r:cM K G d v):SR K B Z G H (C.set i<|Y v)<|A.set i<|Y d:=by
 have f:∀j,j∈Z->i≠j:=λj b e=>P<|e ▸ b
 refine(S.gh,S.g0,S.h0,S.fr,λj c b e =>?_,?_,by simp[S.len],λj a h=>((S.pin j a h).1,by rw[aw<|f j (S.pin j a h).1];exact(S.pin j a h).2),λj k p q R e =>?_)
 .obtain⟨rfl,rfl,u⟩|⟨n,e⟩:=fR e
  .exact(v,pQ (by rw[S.len];exact u),r)
  .obtain _:=S.env j c b e
   simp_all
 .let(F,Da):=S.ow;have m:∀j c,j∈Z->(A.set i<|Y d)[j]?=Y (Y c)->A[j]?=Y (Y c):=λj c b e=>by simp_all
  refine(F,λj c b e =>?_,λj c b e=>Da.ok j c b<|m j c b e,λj k c t b s U T=>Da.ap j k c t b s (m j c b U)<|m k t s T);obtain _:=Da.it j c b<|m j c b e
  simp_all
 .rw[aw<|f j q]at e;let(o,Q,z,y,E,w,x,l,g,e3,X):=S.dP j k p q R e;exact(o,Q,z,y,E,w,x,Ż,Ż,Ż,X)
def SR.Ee{i:Nat}{a}{d'}{S' F0:!aD}{F:Nat->!aD}(S:SR K B Z G H C A)(Da:jT K B Z G H C A F)(hi:i∈Z)(h0:∀b∈F0,b∈F i/\∃d,A[i]?=Y (Y d))(gg:bD G G')(gh:bD G' H')(fr:∀b o,G' b=Y o->G b=Y o\/H b=M\/b∈F0)(v:∀b o,b∉F0->H b=Y o->H' b=Y o)(nw:jy K G' H' d' a S')(nd:S'.Nodup)(nf:∀b∈S',G' b=M/\(b∈F0\/H b=M\/(B.2 b=M/\∀k c,k∈Z->A[k]?=Y (Y c)->k≠i->b∉F k)))(afr:∀b,(i,b)∈B.3->b=a)(hna:∀r p,d' ≠ .dP r p)(ha:∀j p,j∈Z->Ii j∈Z->j≠i->A[j]?=Y (Y<|.dP i p)->∃s t s' v',d'=.obj s t/\C[j]?=Y (Y v')/\dm H' p (.ref a)=Y v'/\jG p s=Y s'):
  SR K B Z G' H' (C.set i<|Y<|.ref a) (A.set i<|Y d')/\jT K B Z G' H' (C.set i<|Y<|.ref a) (A.set i<|Y d') (λj=>if j=i then S' else F j):=by
 have b0:∀b∈F0,G b=M/\B.2 b=none:=λb g=>by let(X,d,U):=h0 b g;exact(Da.ok i d hi U).2 b X
 have P:∀j c,j∈Z->A[j]?=Y (Y c)->i≠j->∀b∈F j,b∉F0:=λj c l ej f b g Y'=>by let(X,d,U):=h0 b Y';exact Da.ap i j d c hi l U ej f b X g
 have W':jT K B Z G' H' (C.set i<|Y<|.ref a) (A.set i<|Y d')<|λj=>if j=i then S' else F j:=by
  refine(λj c l e =>?_,λj c l e =>?_,λj k c c' l hk ej ek hjk =>?_)
  .obtain⟨rfl,rfl,Q⟩|⟨f,e⟩:=fR e
   .exact(a,pQ (by rw[S.len];exact Q),by simpa using nw)
   .let(b,R,I):=Da.it j c l e;refine(b,by rw[aw f];exact R,?_);simp only[if_neg<|bz f];exact I.mono gg λx hx o=>v x o<|P j c l e f x hx
  .obtain⟨rfl,rfl,Q⟩|⟨f,e⟩:=fR e
   .simp only[if_true];refine(nd,λb g=>((nf b g).1,?_));rcases(nf b g).2 with z|z|z
    .exact(b0 b z).2
    .exact S.h0.free z
    .exact z.1
   .simp only[if_neg<|bz f];let(n,k):=Da.ok j c l e;let(x,R,I):=Da.it j c l e;refine(n,λb g=>(?_,(k b g).2));rcases q:G' b with _|u
    .rfl
    obtain z|z|z:=fr b u q
    .rw[(k b g).1]at z;cases z
    .let(o,ho):=I.here b g;rw[ho]at z;cases z
    .exact absurd z<|P j c l e f b g
  .have y:∀m c,m∈Z->A[m]?=Y (Y c)->i≠m->∀b∈S',b∉F m:=λm c hm em f b g T=>by
    rcases(nf b g).2 with z|z|z
    .exact P m c hm em f b T z
    .let(x,R,I):=Da.it m c hm em;let(o,ho):=I.here b T;rw[ho]at z;cases z
    .exact z.2 m c hm em (bz f) T
   obtain⟨rfl,rfl,Q⟩|⟨f,ej1⟩:=fR ej
   .obtain⟨rfl,_,_⟩|⟨f,ek1⟩:=fR ek
    .exact absurd W hjk
    .simp only[if_true,if_neg<|bz f];exact y k c' hk ek1 f
   .obtain⟨rfl,rfl,Q⟩|⟨afw,ek1⟩:=fR ek
    .simp only[if_true,if_neg<|bz f];exact λb g hb'=>y j c l ej1 f b hb' g
    .simp only[if_neg<|bz f,if_neg<|bz afw];exact Da.ap j k c c' l hk ej1 ek1 hjk
 refine((gh,S.g0.trans gg,λb o e =>?_,λb o e =>?_,λj c l e =>?_,(_,W'),by simp[S.len],λj b h =>?_,λj r p X U e =>?_),W')
 .refine v b o (λz =>?_)<|S.h0 b o e;rw[(b0 b z).2]at e;cases e
 .obtain z|z|z:=fr b o e
  .exact S.fr b o z
  .exact .inr<|S.h0.free z
  .exact .inr (b0 b z).2
 .let f:i≠j:=λz=>l (z ▸ hi)
  rw[aw f]at e;let(u,R,I):=S.env j c l e;exact(u,by rw[aw f];exact R,cM.mono gg c I)
 .let(p1,p2):=S.pin j b h;refine(p1,?_);by_cases hij:i=j
  .subst hij;rw[afr b h,bG (aq.mp p2).1]
  .rw[aw hij];exact p2
 .obtain⟨rfl,z,Q⟩|⟨f,e'⟩:=fR e
  .exact absurd z.symm<|hna r p
  .clear e;let e:=e';clear e';by_cases E:r=i
   .refine ah λkk =>?_
    subst E;let(s,t,s',v',f1,f2,f3,f4):=ha j p X U (bz f) e;let(g1,g0,s0,t0,s1,w,v1,g2,g3,g4,g5,g6,g7):=S.dP j r p X U e;have Q:r<A.length:=(aq.mp g2).1;refine kk<|(hi,g0,s,t,s',.ref a,v',?_,pQ (by rw[S.len];exact Q),?_,f3,f4,g7)
    .rw[pQ Q,f1]
    .rw[aw f];exact f2
   .refine ah λkk =>?_
    let(g1,g0,s0,t0,s1,w,v1,g2,g3,g4,g5,g6):=S.dP j r p X U e;let(x,R,I):=Da.it r _ g1 g2;rw[g3]at R;cases R;refine kk<|(g1,g0,s0,t0,s1,.ref x,v1,by rw[aw<|bz E];exact g2,by rw[aw<|bz E];exact g3,by rw[aw f];exact g4,?_,g6);exact bQ.u4 (show bQ K G H s0 t0 (.ref x)<|F r from I) g6.1 (λb g o=>v b o<|P r _ g1 g2 (bz E) b g) g5
def SR.chg{i:Nat}{a}{d'}{S' F0:!aD}{F:Nat->!aD}(S:SR K B Z G H C A)(Da:jT K B Z G H C A F)(q:i∈Z)(v:∀b∈F0,b∈F i/\∃d,A[i]?=Y (Y d))(x:bD G G')(w:bD G' H')(y:∀b o,G' b=Y o->G b=Y o\/H b=M\/b∈F0)(c:∀b o,b∉F0->H b=Y o->H' b=Y o)(m:jy K G' H' d' a S')(n:S'.Nodup)(h:∀b∈S',G' b=M/\(b∈F0\/H b=M))(e:∀b,(i,b)∈B.3->b=a)(f:∀r p,d' ≠ .dP r p)(u:∀j p,j∈Z->Ii j∈Z->j≠i->A[j]?=Y (Y<|.dP i p)->∃s t l g,d'=.obj s t/\C[j]?=Y (Y g)/\dm H' p (.ref a)=Y g/\jG p s=Y l):
  SR K B Z G' H' (C.set i<|Y<|.ref a) (A.set i<|Y d'):=
 (S.Ee Da q v x w y c m n (λb k=>((h b k).1,by rcases(h b k).2 with z|z;exact .inl z;exact .inr<|.inl z)) e f u).1
def SR.Wl(S:SR K B Z G H C A)(b:A[i]?=Y (Y d))(c:we d=Z'):∀j p,j∈Z->Ii j∈Z->A[j]?=Y (Y<|.dP i p)->False:=λj p g f e=>by
 let(n,o,m,k,l,w,h,a,_):=S.dP j i p g f e;rw[b]at a;cases a;cases c
def Ez(a:we d=Z'):∀r p,d ≠ .dP r p:=λr p e=>by subst e;cases a
def SR.setC(S:SR K B Z G H C A)(m:i∈Z)(E:f_ G H G' H')(k:H p=M)(t:G' p=M)(g:H' p=Y o)(r:iY K G' d o)(c:∀a,(i,a)∉B.3)(l:A9 i∉Z):SR K B Z G' H' (C.set i<|Y<|.ref p)<|A.set i<|Y d:=by
 let(F,Da):=S.ow;exact S.chg (F0:=[]) Da m (λb f=>by cases f) E.gg E.gh λb o e=>by obtain z|z:=E.fr b o e<;>simp_all (λb o u e=>E.hh b o e)
  ((jy.cell r.we).mpr ((o,g,r),W)) ż λb f=>by simp_all (λb h=>absurd h<|c b) (Ez r.we) λj q s n u e=>(l (S.dP j i q s n e).2.1).elim
def SR.abP{f:HO}(S:SR K B Z G H C A)(m:i∈Z)(g:A[i]?=Y (Y d))(l:C[i]?=Y (Y<|.ref a))(r:iY K G p f)(s:@&(we d=true)):SR K B Z G (cO H a f) C<|A.set i<|Y p:=by
 let(F,Da):=S.ow;let(z,v,y):=Da.it i d m g;rw[l]at v;cases v;obtain⟨⟨o,_⟩,u⟩:=(jy.cell s).mp y;let(n,k):=Da.ok i d m g;rw[u]at k;have t:=(k a Ÿ).1;have:=S.chg (F0:=[a]) Da m (λb c=>(Ż,d,g)) (bD.refl _) (λb o e=>by rw[aI<|bc e t];exact S.gh b o e) (λb o e =>.inl e)
  λb o c e=>by simp_all [aI] ((jy.cell r.we).mpr ((f,aP,r),W)) ż λb c=>by simp_all
  λb h=>by have:=(S.pin i b h).2;simp_all (Ez r.we) λj q x w D e=>(S.Wl g s j q x w e).elim
 simp_all [de]
def SR.SY{p:aD}(S:SR K B Z G H C A)(h:i∈Z)(E:f_ G H G' H')(f:H p=M)(j:G' p=M)(e:H' p=Y (.lst c))(r:bB K G' d c)(b:∀a,(i,a)∉B.3)(g:A9 i∉Z):SR K B Z G' H' (C.set i<|Y<|.ref p)<|A.set i<|Y<|.lst d:=
 S.setC h E f j e (c,W,r) b g
def SR.mut(S:SR K B Z G H C A)(e:i∈Z)(f:A[i]?=Y (Y<|.lst g))(d:C[i]?=Y (Y<|.ref a))(r:bB K G c b):SR K B Z G (cO H a<|.lst b) C<|A.set i<|Y<|.lst c:=
 S.abP e f d (b,W,r)
def SR.freeze{Ź:!Nat}(S:SR K B Z G H C A)(f:∀j∈Ź,j∈Z)(i:Nat)(Q:∀j∈Z,j∈Ź\/j=i)(hn:i∉Ź)(P:i∈Z)(U:∀a,(i,a)∉B.3)(T:A9 i∉Z)(WD:i<1000000):∃G',SR K B Ź G' H C A:=by
 let(F,Da):=S.ow;have I:∀(j:Nat) (a:aD),(j,a)∈B.3->j∈Ź/\C[j]?=Y (Y<|.ref a):=λj a h=>(by
  obtain z|z:=Q j (S.pin j a h).1
  .exact z
  .subst z;exact absurd h<|U a,(S.pin j a h).2)
 by_cases R:∃d,A[i]?=Y (Y d)
 .let(d,R):=R;let(a,e1,E):=Da.it i d P R;let(nd,k):=Da.ok i d P R;let n0:=λb D=>(k b D).1
  let l:bD G<|iP G H<|F i:=iG n0;let rep:cM K (iP G H<|F i) d<|.ref a:=by
   cases d with
   |obj s t=>exact lU.mpr<|bQ.frozen n0 (λb D=>D)<|E
   |dP r p=>exact uD.mpr (a,W)|cT=>obtain⟨⟨o,q,g⟩,x⟩:=E;exact g.elim
   |bl=>obtain⟨⟨o,q,g⟩,x⟩:=E;exact g.elim
   |int=>obtain⟨⟨o,q,g⟩,x⟩:=E;exact g.elim
   |str=>obtain⟨⟨o,q,g⟩,x⟩:=E;exact g.elim
   |tup=>obtain⟨⟨o,q,g⟩,x⟩:=E;exact g.elim
   |oE=>obtain⟨⟨o,q,g⟩,x⟩:=E;exact g.elim
   |_=>obtain⟨⟨o,q,g⟩,x⟩:=E;exact(iY.mono l g).rep (by rw[j1<|by rw[x];solve_by_elim];exact q)
  refine(iP G H<|F i,jL S.gh,S.g0.trans l,S.h0,λb o e =>?_,λj c n e =>?_,(F,λj c n e =>?_,λj c n e =>?_,λj m c c' n T=>Da.ap j m c c' (f j n)<|f m T),S.len,I,λj r p h1 h2 e =>?_)
  .by_cases D:b∈F i
   .exact .inr (k b D).2
   .rw[iB D]at e;exact S.fr _ _ e
  .by_cases v:j∈Z
   .obtain z|z:=Q j v<;>simp_all
   .let(u,q,g):=S.env j c v e;exact(u,q,cM.mono l c g)
  .let(b,q,g):=Da.it j c (f j n) e;exact(b,q,g.mono l λJ J J z=>z)
  .let(nd',k'):=Da.ok j c (f j n) e;refine(nd',λb D=>(?_,(k' b D).2));rw[iB<|λz=>Da.ap i j d c P (f j n) R e (λz=>hn<|z ▸ n) b z D];exact(k' b D).1
  .let(g1,X,s0,t0,s1,w,v1,g2,g3):=S.dP j r p (f j h1) (f _ h2) e;obtain z|z:=Q r g1
   .obtain y|y:=Q _ X
    .exact(z,y,s0,t0,s1,w,v1,g2,g3)
    .unfold A9 at y;lia
   simp_all
 .refine(G,S.gh,S.g0,S.h0,S.fr,λj c n e =>?_,(F,λj c n e=>Da.it j c (f j n) e,λj c n e=>Da.ok j c (f j n) e,λj m c c' n T=>Da.ap j m c c' (f j n)<|f m T),S.len,I,λj r p h1 h2 e =>?_)
  .by_cases v:j∈Z
   .grind
   .exact S.env j c v e
  .let(g1,X,s0,t0,s1,w,v1,g2,g3):=S.dP j r p (f j h1) (f _ h2) e;obtain z|z:=Q r g1
   .obtain y|y:=Q _ X
    .exact(z,y,s0,t0,s1,w,v1,g2,g3)
    .unfold A9 at y;lia
   simp_all
end
def agt(K:aS)(B:Bs)(I Z:!Nat)(e:Ends):DO->Prop
 |.nx A=>∀C G H,SR K B Z G H C A->e.nx C H|.rt d=>∀v G H,f_ B.1 B.2 G H->cM K G d v->e.rt v H|.ro g=>∀a f G H,f_ B.1 B.2 G H->B.2 a=M->G a=M->H a=Y (.lst f)->bB K G g f->e.rt (.ref a) H|.bk A=>∀C G H,SR K B I G H C A->e.bk C H|.ct A=>∀C G H,SR K B I G H C A->e.ct C H
 |.rm d A=>∀v C G H,(∃b,SR K B b G H C A)->cM K G d v->e.rt v H|.rf i A=>∀v C G H,(∃b,i∈b/\SR K B b G H C A)->C[i]?=Y (Y v)->e.rt v H|.ex c n=>B.fly c n
inductive gO (K:aS) (B:Bs) (I Z a:!Nat) (g:DG) (b:Ends) (C:St) (H:Hp):Prop
 |mk G A o:SR K B Z G H C A->g A=some o->agt K B I a b o->gO K B I Z a g b C H
section
variable {X:Cx}
noncomputable def cX:DG:=λA=>Y<|.nx A
def dO:mh X []<|gO X.K B I Z Z cX:=nB.imp <|by rintro D C H ⟨G,A,o,S,a,k⟩;cases a;exact Ÿ
noncomputable def a_(g h:DG):DG:=λA=>(g A).bind λo=>match o with|.nx a=>h a|o=>Y o
def XW{K:aS}{e:Ends}(q:gO K B I Z L (a_ g h) e C H):gO K B I Z own1 g { e with nx:=λC H=>gO K B I own1 L h e C H } C H:=by
 let(G,A,o,S,a,k):=q;let(f,l,a):=ae.1 a;refine(G,A,f,S,l,?_);cases f with
 |nx b=>exact λj G' H' m=>(G',b,o,m,a,k)
 |_=>cases a;exact k
def aB(b:PS X N<|gO X.K B I Z own1 g)(a:mh X O<|gO X.K B I own1 L h):mh X (N::O)<|gO X.K B I Z L<|a_ g h:=(iA b a).imp λD C H q=>XW q
def b7(a:PS X N<|gO X.K B I Z own1 g):mh X [N]<|gO X.K B I Z own1 g:=ji a
def kM{b:!cS}(i:Nat)(n:mh X b<|gO X.K B I own1 L g)(d:‹∀j∈own1,j∈Z›)(m:‹∀j∈Z,j∈own1\/j=i›)(h:‹i∉own1›)(f:‹i∈Z›)(c:autoParam (∀a,(i,a)∉B.3) ť)(l:‹A9 i∉Z›)(e:‹i<1000000›):mh X b<|gO X.K B I Z L g:=
 n.imp <|by rintro D C H ⟨G,A,o,S,p,k⟩;let(G',q):=S.freeze d i m h f c l e;exact(G',A,o,q,p,k)
noncomputable def eY(i:Nat)(f:DF):DG:=λA=>(f A).map λd =>.nx<|A.set i<|Y d
def wA{i:Nat}{f:DF}(n:X.N.Nodup)(j:X.N[i]?=Y x)(c:Loc X.env.scope x)(m:PE X e<|tP X.K Z f)(h:‹i∉Z›)(g:@&(cm e (Y<|.Name x a) J.line X.env=c9 false))(l:autoParam (X.fn x=Z'\/X.env.scope.names.lookup x=Y .local) ŧ):
  PS X (.Assign [.Name x a] e J) (gO X.K B I Z Z<|eY i f):=(jZ n j c m g l).imp <|by
 rintro D C H ⟨G,A,o,S,b,k⟩;let(d,p,b):=aj.1 b;cases b;exact(G,A,d,S.gh,S.hI,p,λv G' H' E r=>k _ G' H'<|(S.ext E).uy h r)
noncomputable def lO(i:Nat)(f:DL):DG:=λA=>(f A).map λa =>.nx<|A.set i<|Y<|.lst a
def Ld{i:Nat}{f:DL}(u:X.N.Nodup)(q:X.N[i]?=Y x)(g:Loc X.env.scope x)(t:PE X e<|tF X.K Z f)(m:‹i∈Z›)(c:autoParam (∀a,(i,a)∉B.3) ť)(n:‹A9 i∉Z›)(j:@&(cm e (Y<|.Name x b) J.line X.env=c9 false))(s:autoParam (X.fn x=Z'\/X.env.scope.names.lookup x=Y .local) ŧ):
  PS X (.Assign [.Name x b] e J) (gO X.K B I Z Z<|lO i f):=(jZ u q g t j s).imp <|by
 rintro D C H ⟨G,A,o,S,d,k⟩;let(y,w,d):=aj.1 d;cases d;exact(G,A,y,S.gh,S.hI,w,λp z G' H' E l v h r=>k _ G' H'<|S.SY m E l v h r c n)
noncomputable def gc(f:DF):DG:=λA=>(f A).map .rt
def mO{f:DF}(b:PE X e<|tP X.K Z f):PS X (.Return (Y e) J)<|gO X.K B I Z own1<|gc f:=(mE b).imp <|by
 rintro D C H ⟨G,A,o,S,a,k⟩;let(d,c,a):=aj.1 a;cases a;exact(G,A,d,S.gh,S.hI,c,λv G' H' E r=>k v G' H' (S.kz.trans E) r)
noncomputable def wX(f:DL):DG:=λA=>(f A).map .ro
def yy{f:DL}(h:PE X e<|tF X.K Z f):PS X (.Return (Y e) J)<|gO X.K B I Z own1<|wX f:=(mE h).imp <|by
 rintro D C H ⟨G,A,o,S,a,k⟩;let(d,j,a):=aj.1 a;cases a;exact(G,A,d,S.gh,S.hI,j,λp b G' H' E g i c r=>k p b G' H' (S.kz.trans E) (S.h0.free g) i c r)
def JM(i:Nat):DG:=λA=>(eV i A).bind λd=>match d with|.lst a=>Y (.ro a)|_=>M
def ad0{i:Nat}(h:PE X (.Name x p)<|eS i)(f:‹i∈Z›):PS X (.Return (Y<|.Name x p) J)<|gO X.K B I Z own1<|JM i:=(mE h).imp <|by
 rintro D C H ⟨G,A,o,S,b,k⟩;let(d,g,b):=ae.1 b;cases d<;>simp at b<;>try (done)
 let(a,q,n,m,c,l,j):=S.Pp f (gS g) W;let(e,rfl,c):=c;cases b;exact(_,n,k a e G H S.kz j l m c)
def JL(i:Nat):DG:=λA=>(eV i A).map λ_ =>.rf i A
def adZ{i:Nat}(h:PE X (.Name x p)<|eS i)(c:‹i∈Z›):PS X (.Return (Y<|.Name x p) J)<|gO X.K B I Z own1<|JL i:=(mE h).imp <|by
 rintro D C H ⟨G,A,o,S,b,k⟩;let(d,f,b):=aj.1 b;cases b;let(F,Da):=S.ow;let(a,e,_):=Da.it i d c<|gS f;exact(_,e,k _ C G H (Z,c,S) e)
noncomputable def hZ(f:DT)(g h:DG):DG:=λA=>(f A).bind λb=>if b=Z' then g A else h A
def ja{c:Expr}{b:!cS}{f}(j:PT X c<|qg X.K Z f)(m:mh X a<|gO X.K B I Z own1 g)(l:mh X b<|gO X.K B I Z own1 h):PS X (.If c a b J)<|gO X.K B I Z own1<|hZ f g h:=(uG j m l).imp <|by
 rintro D C H ⟨G,A,o,S,d,k⟩;let(c,n,d):=ae.1 d;refine(G,A,c,S.gh,S.hI,n,λe p i =>?_);cases c with
 |true=>exact qm (e,A,o,S.ext i,d,k)|false=>exact i9 (e,A,o,S.ext i,d,k)
def gM(i:Nat)(A:cf):↑(!D):=(eV i A).bind λd=>match d with|.lst a=>Y a|_=>M
def dB(h:gM i A=Y a):A[i]?=Y (Y<|.lst a):=by
 let(d,b,h):=ae.1 h;cases d<;>first|(cases h;exact gS b)|cases h
def SR.lE{K:aS}(S:SR K B Z G H C A)(d:i∈Z)(h:A[i]?=Y (Y<|.lst c)):∃a b,C[i]?=Y (Y<|.ref a)/\H a=Y (.lst b)/\bB K G c b/\G a=M/\B.2 a=none:=by
 obtain⟨a,k,j,g,⟨b,rfl,f⟩,e⟩:=S.Pp d h W;exact(a,b,j,g,f,e)
def qh(i:Nat)(f:DF):DG:=λA=>(gM i A).bind λa=>(f A).bind λd=>if a.length<dZ then Y (.nx<|A.set i<|Y<|.lst<|a++[d]) else M
set_option tactic.hygienic true in
def afU{i:Nat}{c b:Pos}{f:DF}(h:PE X (.Name x p)<|eS i)(R:PE X e<|tP X.K Z f)(t:‹i∈Z›)(m:@&(bJ (.Name x p) "append" X.env (eval (.Name x p) X.env)=eval (.Name x p) X.env)) (n:@&(((b9 b<|ak (e::[]) X.env).all (λx=> (not x.1))&&(ey b<|cD [] X.env).all (λx=>x.1.isSome)
   && decide ((e::[]).length+([]:!gJ).length+(if ([]:!gJ).isEmpty then 0 else 1)<30))=true)) (l:@&((c.endLine==b.line)=true)) (z:@&(ak (e::[]) X.env=(Z_,eval e X.env)::ak [] X.env)) (g:@&((b9 b<|ak [] X.env).any (·.1)=false)) (s:@&(cm (.Call (.Attribute (.Name x p) "append" c) [e] [] b) M J.line X.env=c9 false)) :
  PS X (.Expr (.Call (.Attribute (.Name x p) "append" c) [e] [] b) J) (gO X.K B I Z Z<|qh i f):=
 (lV (uI fX PySem.F.slot_list_append PySem.F.type_list_append jM h (bZ R dw z) m n l z g) s).imp <|by
  rintro D C H ⟨G,A,o,S,j,k⟩;let(ds,U,j):=ae.1 j;rw[ae]at j;let(d,w,j):=j;split at j
  .cases j;rename_i Q;let u:=dB U;let(a,P,y,e3,_):=S.lE t u;refine(_,y,.inl (W,P,.of e3),G,A,d,S.gh,S.hI,w,λv G' H' E r =>?_);let L:=S.ext E;refine ah λkk =>?_
   let(a',q,K,T,F,_):=L.lE t u;rw[y]at K;cases K;refine kk<|(a,q,v,W,W,T,?_,k _ G' _<|L.mut t u y<|F.append<|.cons r .nil);rw[<- F.length];exact bp Q dY
  .cases j
def Yb{K:aS}(S:SR K B Z G H C A)(f:j∈Z)(g:A[j]?=Y (Y<|.lst b))(n:b[b.length-1]?=Y d)(k:∀v H',SR K B Z G H' C (A.set j<|Y<|.lst b.dropLast)->cM K G d v->Q v H'):aa2 K "list" abn (eS j) C H Q:=by
 let(a,e,l,i,c,_):=S.lE f g;let(v,h,m):=c.get n;rw[c.length]at h;exact(_,l,.inl (W,e,.of i),a,e,v,W,W,i,h,k v _ (S.mut f g l c.dropLast) m)
def JR(i:Nat)(f:DF):DG:=λA=>(gM i A).bind λb=>(f A).bind λd=>match d with|.lst a=>if b.length+a.length<=dZ then Y (.nx<|A.set i<|Y<|.lst<|b++a) else M|_=>M
set_option tactic.hygienic true in
def aau{g:Pos}{f:DF}(h:PE X (.Name x p)<|eS i)(he:PE X e<|tP X.K Z f)(u:‹i∈Z›)(n:@&(bJ (.Name x p) "extend" X.env (eval (.Name x p) X.env)=eval (.Name x p) X.env)) (q:@&(((b9 c<|ak (e::[]) X.env).all (λx=> (not x.1))&&(ey c<|cD [] X.env).all (λx=>x.1.isSome)
   && decide ((e::[]).length+([]:!gJ).length+(if ([]:!gJ).isEmpty then 0 else 1)<30))=true)) (m:@&((g.endLine==c.line)=true)) (L:@&(ak (e::[]) X.env=(Z_,eval e X.env)::ak [] X.env)) (l:@&((b9 c<|ak [] X.env).any (·.1)=false)) (t:@&(cm (.Call (.Attribute (.Name x p) "extend" g) [e] [] c) M J.line X.env=c9 false)) :
  PS X (.Expr (.Call (.Attribute (.Name x p) "extend" g) [e] [] c) J) (gO X.K B I Z Z<|JR i f):=
 (lV (uI fX PySem.F.slot_list_extend PySem.F.type_list_extend MI h (bZ he dw L) n q m L l) t).imp <|by
  rintro D C H ⟨G,A,o,S,j,k⟩;let(ds,el,j):=ae.1 j;rw[ae]at j;let(d,y,j):=j;cases d<;>simp only at j<;>try (cases j;done)
  split at j
  .cases j;rename_i es U;let w:=dB el;let(a,R,z,e3,_):=S.lE u w;refine(_,z,.inl (W,R,.of e3),G,A,_,S.gh,S.hI,y,λv G' H' E r =>?_);let F:=S.ext E;refine ah λkk =>?_
   let(a',s,Q,f3,P,_):=F.lE u w;rw[z]at Q;cases Q;let(b,T,rfl,gb,K):=cH.mp r;refine kk<|(a,b,s,T,W,W,f3,F.gh _ _ gb,?_,k _ G' _<|F.mut u w z<|P.append K);rw[<- P.length,<- K.length];exact bM U dY
  .cases j
def JQ(j:Nat)(b c:DF):DG:=λA=>(c A).bind λd=>(gM j A).bind λa=>(b A).bind λk=>match k with|.int k=>(Be a.length k).map λn =>.nx (A.set j<|Y<|.lst<|a.set n d)|_=>M
set_option tactic.hygienic true
def ad1{g:Expr}{F P:DF}(h:PE X (.Name x p)<|eS j)(y:PE X g<|tQ X.K Z F)(he:PE X e<|tP X.K Z P)(w:‹j∈Z›)(hg:autoParam (∀ {s t:TE},PE X (.Name x p) s->PE X g t->PG X (.Subscript (.Name x p) g b) (acm s t Wd)) œ)(hs:@&(swapsWithSole [.Subscript (.Name x p) g b] e J.line X.env=c9 false))(hw:@&(swappedStores [.Subscript (.Name x p) g b] e X.env=c9 none)):
  PS X (.Assign [.Subscript (.Name x p) g b] e J) (gO X.K B I Z Z<|JQ j F P):=
 (X9 he (hg h y) hs hw).imp <|by
  rintro D C H ⟨G,A,o,S,c,k⟩;let(d,ef,c):=ae.1 c;rcases l:gM j A with _|ds
  .simp[l]at c
  rcases f:F A with _|i
  .simp_all
  simp only[l,f,av]at c;cases i<;>simp only at c<;>try (cases c;done)
  rename_i i;rcases K:Be ds.length i with _|n
  .simp[K]at c
  simp only[K,gy]at c;cases c;let z:=dB l;refine(G,A,d,S.gh,S.hI,ef,λv G' H' E r =>?_);let m:=S.ext E;let(a,vs,L,_):=m.lE w z;refine(_,L,G',A,_,m.gh,m.hI,f,λu G2 H2 U r2 =>?_);let T:=m.ext U;let(a',q,R,f3,Q,_):=T.lE w z;rw[L]at R;cases R;exact(a,q,i,n,W,r2.int,f3,by rw[<- Q.length];exact K,k _ G2 _<|T.mut w z L<|Q.set n<|cM.mono U.gg d r)
end
section
variable {X:Cx}{f:DF}
def LO.imp(h:LO X r)(k:∀x y H Q,d x y H Q->r x y H Q):LO X d:=λa b c s e H x y v u Q I g f q i=>h a b c s e H x y v u Q I g f (k _ _ _ _ q) i
def PO.imp{e}(h:PO X e t)(k:∀b H Q,c b H Q->t b H Q):PO X e c:=λa s b H Q I q=>h a s b H Q I<|k _ _ _ q
def kF.imp(h:kF X c r)(k:∀b H Q,d b H Q->r b H Q):kF X c d:=λa s e H b f Q I g q=>h a s e H b f Q I g<|k _ _ _ q
def bB.qt{K}{a}{b}(r:bB K G a b)(h:qt a i=Y d):∃v,L2.qt b i=Y v/\cM K G d v:=by
 unfold L2.qt at h ⊢;rw[<- r.length];let(j,e,h):=ae.1 h;rw[e];exact r.get h
def Er{a b}(g:a->b)(xs)(i):qt (xs.map g) i=(qt xs i).map g:=by
 unfold qt;rw[aF];cases Be _ i<;>simp_all
def dh:D->D->↑D
 |.lst a,.int i=>qt a i|.tup a,.int i=>qt a i|.oE b,.int i=>(qt b i).map .int|.str x,.int i=>if x.length<=dZ then (qt x.cps.toList i).map λc =>.str ⟨#[c]⟩ else M
 |_,_=>M
def Og:LO X<|rD X.K dh:=by
 refine LO.imp Y1 ?_;rintro x y H Q ⟨G,u,t,d,b,h,g,a,q⟩;unfold dh at a;split at a<;>try (cases a)
 .let(p,j,f,e,l):=h.lst b;let(v,o,k):=l.qt a;exact .inl (p,j,_,v,f,g.int,.of e,o,q _ G H (.refl b) k)
 .let(p,j,f,e,l):=h.tup b;let(v,o,k):=l.qt a;exact .inr<|.inl (p,j,_,v,f,g.int,.of e,o,q _ G H (.refl b) k)
 .let(p,f,e):=h.oE b;let(c,r,a):=aj.1 a;cases a;exact .inl (p,_,_,_,f,g.int,e,by rw[Er,r];solve_by_elim,q _ G H (.refl b)<|bY.mpr W)
 .split at a<;>try (cases a)
  let(c,r,a):=aj.1 a;cases a;exact .inr<|.inr (_,_,c,h.str,g.int,bM ž dY,r,q _ G H (.refl b)<|eL.mpr W)
def acN(e:PE X a<|tQ X.K Z fa)(d:PE X b<|tQ X.K Z fb)(c:autoParam (vm b) Š):PE X (.Subscript a b w)<|tP X.K Z<|e2 dh fa fb:=(Ke Og e d c).imp λf H Q h=>JY h
abbrev DP:=cf->↑(↑Int)
noncomputable def pN:DP:=λ_=>Y M
noncomputable def pS(f:DF):DP:=λa=>(f a).bind λd=>match d with|.int i=>Y (Y i)|_=>M
def TJ{f}{a}(h:pS f a=Y o):∃i,f a=Y (.int i)/\o=Y i:=by
 let(d,e,h):=ae.1 h
 grind
inductive Xu (K:aS) (Z:!Nat) (f:DP) (c:St) (H:Hp) (Q:↑Int->Hp->Prop):Prop
 |mk G a o:bD G H->jz K Z G H c a->f a=some o->(∀d b,f_ G H d b->Q o b)->Xu K Z f c H Q
def acG:PO X M<|Xu X.K Z pN:=Tr.imp <|by rintro d H Q ⟨G,e,o,a,c,b,k⟩;cases b;exact k G H<|.refl a
def acF(h:PE X e<|tQ X.K Z f):PO X (Y e)<|Xu X.K Z<|pS f:=(Tq h).imp <|by
 rintro r H Q ⟨G,b,o,d,a,g,k⟩;let(i,j,rfl):=TJ g;exact(G,b,_,d,a,j,λv p l q c=>(i,c.int,k p l q))
def LR{a:Type}(xs:!a)(m n:↑Int):!a:=(xs.drop<|HT.JP xs.length 0 m).take<|HT.JP xs.length xs.length n-HT.JP xs.length 0 m
def bB.cut{K:aS}{b}{a}(r:bB K G b a)(m n):bB K G (LR b m n)<|Jb a m n:=by
 unfold Jb;rw[<- r.length];exact(r.drop _).take _
def fSl(f:DF)(m n:DP):DL:=λa=>(f a).bind λd=>(m a).bind λl=>(n a).bind λh=>match d with|.lst b=>Y (LR b l h)|.oE c=>Y ((LR c l h).map D.int)|_=>M
variable {m:↑Expr}
set_option tactic.hygienic true in
def afZ(K:PE X e<|tQ X.K Z f)(J:PO X m<|Xu X.K Z l)(I:PO X n<|Xu X.K Z h):PE X (.Subscript e (.Slice m n M B) w)<|tF X.K Z<|fSl f l h:=(FJ SU K J I).imp <|by
 rintro O H Q ⟨G,i,P,L,g,a,k⟩;unfold fSl at a;rcases ef:f i with _|d
 .simp_all
 rcases el:l i with _|s
 .simp_all
 rcases eh:h i with _|t
 .simp_all
 simp only[ef,el,eh,av]at a;refine(G,i,d,L,g,ef,λv N T o F=>(N,i,s,o.gh,g.ext o,el,λA S j=>(A,i,t,j.gh,(g.ext o).ext j,eh,λz R b =>?_)));let E:=(o.trans j).trans b;let x:=F.ext<|j.trans b;cases d<;>simp only at a<;>try trivial
 .cases a;let(p,C,u,r,D):=x.lst b.gh;exact(p,C,u,.of r,λq c=>k q _ z _ (E.trans<|f_.lay b.gh c) (E.hh.free c) (b.gh.free c) aP<|D.cut _ _)
 .cases a;rename_i y;let(p,u,r):=x.oE b.gh;refine(p,_,u,r,λq c=>k q _ z _ (E.trans<|f_.lay b.gh c) (E.hh.free c) (b.gh.free c) aP ?_);have:Jb (y.map V.int) s t=(LR y s t).map V.int:=by unfold Jb LR;rw[aF,<- List.map_drop,<- List.map_take]
  simp_all [bB.ints]
def XJ:SlR X (λx m n H Q=>∃z,x=.str z/\z.length<=be/\Q (.str<|R4 z m n) H):=by
 intro a s d H x v f e m n g Q I h r o c (z,y,p,q);subst y;let(t,rfl):=h;refine(_,_,F.slot_str_getitem.lookup,typeIs_str _ _ _,?_);have ku:∀(l u:↑_),f=partValue l->e=partValue u->l.map (·.1)=m->u.map (·.1)=n->bx (aZ X.prog X.w) X.A (NU (.str z t) _) (EP X a d Q) X.xe s:=λl u G E D C=>by subst G E D C;exact wpAny_getItem_str_slice (st:=M) r W (post_val_or_str (bM (Txt.slice_le z _ _) p,λJ k=>(.str _,H,I.tok _,(_,W),q)))
 cases o with
 |none=>
  cases c with
  |none=>exact ku M M W W W W|int j u=>exact ku M (Y (j,u)) W W W W
 |int i b=>
  cases c with|none=>exact ku (Y (i,b)) M W W W W|int j u=>exact ku (Y (i,b)) (Y (j,u)) W W W W
def Gz(f:DF)(m n:DP):DF:=λa=>(f a).bind λd=>(m a).bind λl=>(n a).bind λh=>match d with|.str x=>if x.length<=dZ then Y (.str<|R4 x l h) else M|_=>M
set_option tactic.hygienic true in
def afY(y:PE X e<|tQ X.K Z f)(x:PO X m<|Xu X.K Z l)(u:PO X n<|Xu X.K Z h):PE X (.Subscript e (.Slice m n M B) w)<|tP X.K Z<|Gz f l h:=(FJ XJ y x u).imp <|by
 rintro K H Q ⟨G,c,L,z,b,a,k⟩;unfold Gz at a;rcases g:f c with _|d
 .simp_all
 rcases i:l c with _|r
 .simp_all
 rcases o:h c with _|t
 .simp_all
 simp only[g,i,o,av]at a;refine(G,c,d,z,b,g,λv I N j q=>(I,c,r,j.gh,b.ext j,i,λF A p=>(F,c,t,p.gh,(b.ext j).ext p,o,λD C J =>?_)));cases d<;>simp only at a<;>try (cases a)
 split at a
 .cases a;rename_i s;exact(_,q.str,bM s dY,k _ D C ((j.trans p).trans J)<|eL.mpr W)
 .cases a
noncomputable def bF(o:!D->↑D)(g:DL):DF:=λa=>(g a).bind o
def Ad{g}{a}(h:bF o g a=Y d):∃b,g a=Y b/\o b=Y d:=by
 let(x,c,h):=ae.1 h;rw[c];exact(x,W,h)
inductive rC (K:aS) (o:!D->↑D) (e:!V) (H:Hp) (Q:VK):Prop
 |mk G a d:bD G H->LK K G H a e->o a=some d->(∀v c b,f_ G H c b->cM K c d v->Q v b)->rC K o e H Q
def abm{K}{g}{b}(h:tP K Z (bF o g) b H Q):tCB (rC K o) (tQA K Z g) b H Q:=by
 let(G,f,d,l,a,q,k):=h;let(c,p,r):=Ad q;exact(G,f,c,l,a,p,λy u z e j=>(u,c,d,e.gh,j,r,λv t s x i=>k v t s (e.trans x) i))
def LK.one{K}{a}(r:LK K G H [d] a):∃v,a=[v]/\iN K G H d v:=by
 cases r with|cons r t=>cases t;exact Ÿ
def iX:!D->↑D
 |[.lst a]=>Y (.int a.length)|[.tup a]=>Y (.int a.length)|[.oE a]=>Y (.int a.length)|[.str x]=>if x.length<=dZ then Y (.int x.length) else M
 |_=>M
set_option tactic.hygienic true in
def ZO:kF X (.builtin "len")<|rC X.K iX:=by
 refine kF.imp (Ei.or Eh) ?_;rintro i H Q ⟨G,j,d,c,r,a,q⟩;unfold iX at a;split at a
 .cases a;let(v,rfl,b):=r.one;let(p,f,rfl,e,g):=b.lst c;refine .inl (p,f,W,.inl<|.of e,?_);rw[<- g.length];exact q _ G H (.refl c)<|bY.mpr W
 .cases a;let(v,rfl,b):=r.one;let(p,f,rfl,e,g):=b.tup c;refine .inl (p,f,W,.inr<|.of e,?_);rw[<- g.length];exact q _ G H (.refl c)<|bY.mpr W
 .cases a;let(v,rfl,b):=r.one;let(p,rfl,e):=b.oE c;refine .inl (p,_,W,.inl e,?_);rw[aF];exact q _ G H (.refl c)<|bY.mpr W
 .split at a
  .cases a;rename_i h;let(v,rfl,b):=r.one;exact .inr (_,by rw[b.str],bM h dY,q _ G H (.refl c)<|bY.mpr W)
  .cases a
 .cases a
def Am(l:kF X (.builtin c)<|rC X.K o)(j:Gl X x)(i:X.mg x=M)(d:fG x=Y (.builtin c))(q:PA X (e::A)<|tQA X.K Z g)(f:‹x ≠ "__name__"›)(b:‹(x==("__debug__" : aM))=false›)(k:@&(ak (e::A) X.env=(Z_,eval e X.env)::ak A X.env))(a:@&((b9 w<|ak A X.env).any (·.1)=false)):PE X (.Call (.Name x p) (e::A) [] w)<|tP X.K Z<|bF o g:=
 (zi l j i d q f b k a).imp λr H Q h=>abm h
def ZF(c:Gl X "len")(b:X.mg "len" = M)(h:PE X e<|tQ X.K Z f)(a:@&(ak (e::[]) X.env=(Z_,eval e X.env)::ak [] X.env)):PE X (.Call (.Name "len" p) [e] [] w)<|tP X.K Z<|bF iX<|aC f aN:=
 Am ZO c b PySem.boot_len (Ak h D7 a) ſ ſ a W
noncomputable def Ux(T:String):D->Bool
 |.cT=>T == "NoneType"|.bl _=>T == "bool" || T == "int"
 |.int _=>T == "int"|.str _=>T == "str"|.lst _=>T == "list"|.oE _=>T == "list"|.tup _=>T == "tuple"|.ins _ _ _=>Z_|.fM _ _=>T == "dict"|.obj _ _=>Z_|.dP _ _=>Z_
noncomputable def LQ:!String:=["bool","int","str","list","tuple"]
def K'(T:String)(f:DF):DF:=λa=>(f a).bind λd=>match d with|.oE _=>M|.ins _ _ _=>M|.fM _ _=>M|.obj _ _=>M|.dP _ _=>M|d=>Y<|.bl<|Ux T d
def Uu:∀T∈LQ,∀(K:aS),jA K (.type "NoneType") (.type T)=Y (Ux T .cT)/\jA K (.type "bool") (.type T)=Y (Ux T<|.bl Z')/\jA K (.type "int") (.type T)=Y (Ux T<|.int 0) /\
  jA K (.type "str") (.type T)=Y (Ux T<|.str Str.empty)/\jA K (.type "list") (.type T)=Y (Ux T<|.lst [])/\jA K (.type "tuple") (.type T)=Y (Ux T<|.tup []):=by
 intro T a K;simp only[LQ,aT,kf,or_false]at a;obtain rfl|rfl|rfl|rfl|rfl:=a<;>exact(ź,ź,ź,ź,ź,ź)
def Nw(T)(S:T∈LQ):kF X (.builtin "isinstance") (λy H Q=>∃G d v,bD G H/\y=[v,.ty T]/\iN X.K G H d v/\(∀o,d ≠ .oE o)/\(∀c g f,d ≠ .ins c g f)/\(∀g f,d ≠ .fM g f)/\((∀s t,d ≠ .obj s t)/\∀s t,d ≠ .dP s t)/\Q (.bl<|Ux T d) H):=by
 intro j s D H y us Q I F (G,d,v,C,e,r,R,p,x,k,q);subst e;let(u,c,rfl,h,J):=cx.two F;cases J;let(P,O,N,m,L,K):=Uu T S X.K;have ku:∀z,EP X j D Q _ { s with toks:=z }:=λz=>(.bl _,H,I.tok _,W,q)
 cases d with
 |cT=>have:=r.cT;subst this;exact kK I h .cT P ku
 |bl b=>have:=r.bl;subst this;exact kK I h (.bl b) O ku
 |int i=>have:=r.int;subst this;exact kK I h (.int i) N ku
 |str i=>have:=r.str;subst this;exact kK I h (.str i) m ku
 |lst U=>let(a,E,rfl,l,_):=r.lst C;exact kK I h (.lst l) L ku
 |tup U=>let(a,E,rfl,l,_):=r.tup C;exact kK I h (.tup l) K ku
 |oE o=>solve_by_elim|ins c g f=>exact absurd W (p c g f)|fM g f=>solve_by_elim|obj s t=>exact absurd W (k.1 s t)|dP s t=>exact absurd W<|k.2 s t
def jQ{b}(U:T∈LQ)(S:Gl X "isinstance")(R:X.mg "isinstance" = M)(D:Gl X y)(C:X.mg y=M)(j:fG y=Y (.type T))(h:PE X e<|tQ X.K Z f)(x:‹y ≠ "__name__"›)(E:‹(y==("__debug__" : aM))=false›)(J:@&(ak (e::[.Name y b]) X.env=(Z_,eval e X.env)::ak [.Name y b] X.env))(l:@&(ak [.Name y b] X.env=(Z_,eval (.Name y b) X.env)::ak [] X.env))(o:@&((b9 w<|ak [.Name y b] X.env).any (·.1)=false)):
  PE X (.Call (.Name "isinstance" p) [e,.Name y b] [] w) (tP X.K Z<|K' T f):=
 (zi (Nw T U) S R Jr (bZ h (bZ (Kf (v :=.ty T) D C j W x E) dw l) J) ſ Ÿ J o).imp <|by
  rintro σ H Q ⟨G,N,d,gh,F,a,k⟩;let(c,ef,a):=ae.1 a;have P:∀I,c ≠ .oE I:=λI z=>by subst z;cases a
  have r:∀K i g,c ≠ .ins K i g:=λK i g z=>by subst z;cases a
  have u:∀i g,c ≠ .fM i g:=λi g z=>by subst z;cases a
  let ed:d=.bl (Ux T c):=by cases c<;>first|(cases a;exact Ÿ)|cases a
  subst ed;exact(G,N,c,gh,F,ef,λv L H1 m O=>(L,c,v,m.gh,W,O,P,r,u,((λs t z=>(by subst z;cases a),λs t z=>(by subst z;cases a))),k _ L H1 m<|cY.mpr W))
noncomputable def QR(f:DF):DL:=λb=>(f b).bind λd=>match d with|.lst a=>Y a|.tup a=>Y a|.oE c=>Y (c.map D.int)|_=>M
def ad6(z:Gl X "list")(y:X.mg "list" = M)(h:PE X e<|tQ X.K Z f)(x:autoParam (fG "list" = Y (.type "list")) Œ)(t:@&(ak (e::[]) X.env=(Z_,eval e X.env)::ak [] X.env)):PE X (.Call (.Name "list" p) [e] [] w)<|tF X.K Z<|QR f:=
 (Mw Eg z y x (bZ h dw t) ſ (by rfl) t W).imp <|by
  rintro E H Q ⟨G,u,F,C,r,g,k⟩;let(c,D,g):=ae.1 g;refine(G,u,c,C,r,D,λv s I b o =>?_);cases c<;>simp at g<;>try (done)
  .cases g;let(a,j,rfl,i,l):=o.lst b.gh;exact(a,j,W,.inl<|.of i,λq d=>k q _ s _ (b.trans<|f_.lay b.gh d) (b.hh.free d) (b.gh.free d) aP l)
  .cases g;let(a,j,rfl,i,l):=o.tup b.gh;exact(a,j,W,.inr<|.of i,λq d=>k q _ s _ (b.trans<|f_.lay b.gh d) (b.hh.free d) (b.gh.free d) aP l)
  .cases g;let(a,rfl,i):=o.oE b.gh;exact(a,_,W,.inl i,λq d=>k q _ s _ (b.trans<|f_.lay b.gh d) (b.hh.free d) (b.gh.free d) aP<|bB.ints _)
def aim:D->D->↑D
 |.obj _ _,_=>M|.dP _ _,_=>M|.cT,.cT=>Y (.bl Z')|_,.cT=>Y (.bl Z_)|_,_=>M
def Dt:D->D->↑D
 |.obj _ _,_=>M|.dP _ _,_=>M|.cT,.cT=>Y (.bl Z_)|_,.cT=>Y (.bl Z')|_,_=>M
def T8:AS X (d_ .IsNot) Dt:=m_.imp Kg <|by
 rintro x y H Q ⟨G,h,o,d,f,g,l,e,q⟩;let z:o=.cT:=by unfold Dt at e;split at e<;>first|rfl|cases e
 subst z;refine(l.cT,?_);cases h with
 |cT=>cases e;rw[g.cT];exact q _ G H (.refl f) (cY.mpr W)|bl b=>cases e;rw[g.bl];exact q _ G H (.refl f)<|cY.mpr (by trivial)
 |int b=>cases e;rw[g.int];exact q _ G H (.refl f)<|cY.mpr (by trivial)
 |str b=>cases e;rw[g.str];exact q _ G H (.refl f)<|cY.mpr (by trivial)
 |lst b=>cases e;let(a,j,rfl,_):=g.lst f;exact q _ G H (.refl f)<|cY.mpr (by trivial)
 |tup b=>cases e;let(a,j,rfl,_):=g.tup f;exact q _ G H (.refl f)<|cY.mpr (by trivial)
 |oE b=>cases e;let(a,rfl,_):=g.oE f;exact q _ G H (.refl f)<|cY.mpr (by trivial)
 |ins c k i=>cases e;let(a,rfl):=g.ins;exact q _ G H (.refl f)<|cY.mpr (by trivial)
 |fM k i=>cases e;let(a,rfl):=g.fM;exact q _ G H (.refl f)<|cY.mpr (by trivial)
 |_=>cases e
def gw(f:DF):DT:=λc=>(f c).bind λd=>match d with
 |.cT=>Y Z_|.bl b=>Y b|.int i=>Y (i != 0)|.str y=>if y.length<=dZ then Y ((y.length:Int) != 0) else M
 |.lst a=>Y (not a.isEmpty)|.tup a=>Y (not a.isEmpty)|.oE a=>Y (not a.isEmpty)|.ins _ _ _=>M|.fM _ _=>M|.obj _ _=>M|.dP _ _=>M
def bB.empty{K}{b}{a}(r:bB K G b a):b.isEmpty=a.isEmpty:=by
 have:=r.length;cases b<;>cases a<;>simp at this ⊢
set_option tactic.hygienic true
def mM(h:PE X e<|tQ X.K Z f)(C:autoParam (∀g,isTrue e X.env g=(do let v <- g;jJ e.pos;iy [v]<|truthy v)) ũ):PT X e<|qg X.K Z<|gw f:=(O9 h C).imp <|by
 rintro I H Q ⟨G,s,b,D,q,d,k⟩;unfold gw at d;rw[ae]at d;let(c,r,d):=d;refine(G,s,c,D,q,r,λv F E l i=>(b,?_,k F E l));cases c with
 |cT=>cases d;rw[i.cT];solve_by_elim|bl b=>cases d;rw[i.bl];solve_by_elim|int b=>cases d;rw[i.int];solve_by_elim|str y=>
  rw[i.str];let d:(if y.length<=dZ then Y _ else M)=Y b:=d;split at d
  .cases d;rename_i z;exact(bM z dY,W)
  .cases d
 |lst t=>cases d;let(a,o,rfl,j,p):=i.lst l.gh;exact .inl (o,.of j,by rw[p.empty])
 |tup t=>cases d;let(a,o,rfl,j,p):=i.tup l.gh;exact .inr<|.inl (o,.of j,by rw[p.empty])
 |oE t=>cases d;let(a,rfl,j):=i.oE l.gh;exact .inl (_,j,ż)
 |_=>cases d
end
structure NK(K:aS)(G0:Hp)(J:It)(ds:!D):Prop where
 go:∀i H,bD G0 H->i<ds.length->J.go i H
 stop:∀i H,bD G0 H->ds.length<=i->J.stop i H
 Jx:∀(i:Nat) (H:Hp) (x:V) (H' G:Hp) (d:D),bD G0 G->bD G H->J.Jx i H x H'->ds[i]?=some d->∃G',f_ G H G' H'/\cM K G' d x
inductive BE (K:aS) (Z:!Nat) (f:DL) (l:St) (H:Hp) (R:It->Hp->Prop):Prop
 |mk G ρ a:bD G H->jz K Z G H l ρ->f ρ=some a->(∀J c b,f_ G H c b->NK K c J a->R J b)->BE K Z f l H R
section
variable {X:Cx}{f:DF}
def PI.imp{t}(h:PI X L O t)(k:∀l H R,b l H R->t l H R):PI X L O b:=λa s l H R I q=>h a s l H R I<|k _ _ _ q
noncomputable def iL(f:DF):DL:=λρ=>(f ρ).bind λd=>match d with|.lst a=>Y a|_=>M
def DN{f}(h:iL f ρ=Y a):f ρ=Y (.lst a):=by
 let(d,e,h):=ae.1 h;rw[e];cases d<;>first|(cases h;rfl)|cases h
def MS{K}(g:G a=Y (.lst b))(r:bB K G n b):NK K G (Itl K a) n:=by
 refine(λi H s f =>?_,λi H s f=>(b,.of<|s _ _ g,by rw[<- r.length];exact f),λi H x B A d j h (e,y) z =>?_)
 .have c:i<b.length:=by rw[<- r.length];exact f
  exact(b,b[i],.of<|s _ _ g,ż)
 .subst e;let(v,k,o):=r.get z;rw[y b<|.of<|h _ _<|j _ _ g]at k;cases k;exact(A,.refl h,cM.mono j d o)
def kU(h:PE X e<|tP X.K Z f):PI X L e<|BE X.K Z<|iL f:=(Ka h).imp <|by
 rintro l H R ⟨G,ρ,p,n,b,o,k⟩;refine(G,ρ,_,n,b,DN o,λv A w d j =>?_);let(a,g,rfl,c,i):=cH.mp j;exact(a,W,(g,.of<|d.gh _ _ c),k _ A w d<|MS c i)
noncomputable def iJ(a:Int)(n:Nat):!D:=(cg n).map λ(k:Nat) =>.int<|a+(k:Int)
def tH{K}(c:Int)(n:Nat):NK K G (Itr c n)<|iJ c n:=by
 have f:(iJ c n).length=n:=by simp[iJ]
 refine(λi H s a=>by rw[f]at a;exact a,λi H s a=>by rw[f]at a;exact a,λi H x p A d k g (e,y) b =>?_);subst e;refine(A,.refl g,?_);unfold iJ at b;rw[aY]at b;let(j,q,b):=aj.1 b;cases b;have:j=i:=by let(o,h):=aq.mp q;simpa using h.symm
 subst this
 exact Ÿ
def AQ(f:DF):DL:=λρ=>(f ρ).bind λd=>match d with|.int j=>if -(2 ^ 62)<=j/\j<2 ^ 62 then Y (iJ 0 j.toNat) else M|_=>M
set_option tactic.hygienic true in
def Nn(r:Gl X "range")(o:X.mg "range" = M)(h:PE X e<|tQ X.K Z f)(n:@&(ak [e] X.env=(Z_,eval e X.env)::ak [] X.env))(b:@&(ak [e] X.env=[(Z_,eval e X.env)])):PI X L (.Call (.Name "range" p) [e] [] u)<|BE X.K Z<|AQ f:=
 (BS r o (bZ h dw n) b).imp <|by
  rintro l H R ⟨G,ρ,z,s,c,a,k⟩;let(d,x,a):=ae.1 a;cases d<;>simp only[av]at a<;>try (cases a)
  split at a
  .cases a;rename_i j g;exact(G,ρ,_,s,c,x,λv A w y i=>(j,by rw[i.int],g.1,g.2,k _ A w y<|tH 0 _))
  .cases a
def iR2(f g:DF):DL:=λρ=>(f ρ).bind λd=>(g ρ).bind λc=>match d,c with|.int i,.int j=>if -(2 ^ 62)<=i/\i<2 ^ 62 /\ -(2 ^ 62)<=j/\j<2 ^ 62 then Y (iJ i (j-i).toNat) else M|_,_=>M
set_option tactic.hygienic true
def Nm{g:DF}(N:Gl X "range")(m:X.mg "range" = M)(h:PE X e<|tQ X.K Z f)(P:PE X n<|tQ X.K Z g)(K:@&(ak [e,n] X.env=(Z_,eval e X.env)::ak [n] X.env))(z:@&(ak [n] X.env=(Z_,eval n X.env)::ak [] X.env))(y:@&(ak [e,n] X.env=[(Z_,eval e X.env),(Z_,eval n X.env)]))(x:@&(ak [n] X.env=[(Z_,eval n X.env)])):PI X L (.Call (.Name "range" p) [e,n] [] u)<|BE X.K Z<|iR2 f g:=
 (Mu N m (bZ h (bZ P dw z) K) y x).imp <|by
  rintro l H R ⟨G,ρ,ds,Q,o,b,k⟩;unfold iR2 at b;rcases s:f ρ with _|d
  .simp_all
  rcases B:g ρ with _|c
  .simp_all
  simp only[s,B,av]at b;split at b<;>try (cases b)
  split at b
  .cases b;rename_i i j r;exact(G,ρ,_,Q,o,s,λv A w C F=>(A,ρ,_,C.gh,o.ext C,B,λa G2 S E2 D=>(i,j,by rw[F.int,D.int],Ÿ,k _ G2 S (C.trans E2)<|tH i _)))
  .cases b
end
abbrev AU:=D->cf->↑cf
inductive Hd (K:aS) (B:Bs) (Z:!Nat) (τ:AU) (v:V) (l:St) (H:Hp) (Q:St->Hp->Prop):Prop
 |mk G ρ d b:SR K B Z G H l ρ->cM K G d v->τ d ρ=some b->(∀a e c,SR K B Z e c a b->Q a c)->Hd K B Z τ v l H Q
inductive V3 (K:aS) (Z:!Nat) (τ:AU) (v:V) (l:St) (H:Hp) (Q:St->Hp->Prop):Prop
 |mk G ρ d b:bD G H->jz K Z G H l ρ->cM K G d v->τ d ρ=some b->(∀a e c,f_ G H e c->jz K Z e c a b->Q a c)->V3 K Z τ v l H Q
section
variable {X:Cx}
def PG.imp{L}{t}(h:PG X L t)(k:∀v l H Q,b v l H Q->t v l H Q):PG X L b:=λa s l H v u Q I r q=>h a s l H v u Q I r<|k _ _ _ _ q
noncomputable def gN(i:Nat):AU:=λd ρ=>Y<|ρ.set i<|Y d
def ad5{i}(h:PG X L<|g_ i)(b:‹i∉Z›):PG X L<|Hd X.K B Z<|gN i:=h.imp <|by
 rintro v l H Q ⟨G,ρ,d,a,S,r,c,k⟩;cases c;exact k _ G H<|S.uy b r
def jz.set{K}{i}{d}{v:V}(h:jz K Z G H l ρ)(s:i∉Z)(r:cM K G d v):jz K Z G H (l.set i<|Y v)<|ρ.set i<|Y d:=
 (by simp[h.len],λj c e=>by
  obtain⟨rfl,simp,C⟩|⟨b,e⟩:=fR e
  .exact(v,pQ (by rw[h.len];exact C),Ż)
  .obtain _:=h.get j c e
   simp_all,λj k p g N e=>by
  have a:∀j,j∈Z->i≠j:=λj F e=>s (e ▸ F)
  rw[aw<|a j g]at e;let(f,m,z,y,B,w,x,o,n,Q,P):=h.dP j k p g N e;exact(f,m,z,y,B,w,x,Ż,Ż,Ż,P))
noncomputable def UX(i j:Nat):AU:=λd ρ=>match d with|.tup [a,b]=>Y ((ρ.set i<|Y a).set j<|Y b)|_=>M
def QI(h:UX i j d ρ=Y c):∃a b,d=.tup [a,b]/\c=(ρ.set i<|Y a).set j (Y b):=by
 unfold UX at h;split at h<;>lia
def Tb{K}{v:V}(r:cM K G (.tup [a,b]) v):∃p x y,v=.ref p/\G p=Y (.tup [x,y])/\cM K G a x/\cM K G b y:=by
 let(p,h,e,g,f):=dA.mp r;let(x,j,rfl,d,t):=bt.mp f;let(y,i,rfl,c,t):=bt.mp t;rw[cF.mp t]at g;exact(p,x,y,e,g,d,c)
def afV{i}(h:PG X L<|DW X.K 2<|jP (g_ i)<|jP (g_ j) DY)(o:‹i∉Z›)(n:‹j∉Z›):PG X L<|Hd X.K B Z<|UX i j:=h.imp <|by
 rintro v l H Q ⟨G,ρ,d,c,S,r,s,k⟩;let(a,b,rfl,rfl):=QI s;let(p,x,y,rfl,g,f,e):=Tb r;exact(p,_,W,.of<|S.gh _ _ g,W,x,_,W,y,_,W,W,k _ G H<|(S.uy o f).uy n e)
end
noncomputable def jw(τ:AU)(g:DG):!D->cf->↑DO
 |[],ρ=>Y (.nx ρ)| d::b,ρ=>(τ d ρ).bind λρ1=>(g ρ1).bind λo=>match o with
  |.nx a=>jw τ g b a|.ct a=>jw τ g b a|.bk a=>Y (.nx a)|.rt d=>Y (.rt d)|.ro d=>Y (.ro d)|.rm d ρ=>Y (.rm d ρ)|.rf i ρ=>Y (.rf i ρ)|.ex c n=>Y<|.ex c n
def kI(f:DL)(τ:AU)(g:DG):DG:=λρ=>(f ρ).bind λa=>jw τ g a ρ
section
variable {K:aS}
def jT.base{F}(Da:jT K B Z G H l ρ F)(h:a.2=B.2):jT K a Z G H l ρ F:=(Da.it,λi d b e=>by rw[h];exact Da.ok i d b e,Da.ap)
def SR.rebase(a:SR K B Z A w q ρ1)(S:SR K B Z G H l ρ)(s:bD A G):SR K (A,B.2,B.3,B.4) Z G H l ρ:=
 (S.gh,s,S.h0,λb o e=>by
  obtain z|z:=S.fr b o e
  .exact .inl (a.g0 b o z)
  .exact .inr z,S.env,by let(F,Da):=S.ow;exact(F,Da.base W),S.len,S.pin,S.dP)
def SR.CO(c:SR K B Z A w q ρ1)(S:SR K (A,B.2,B.3,B.4) a G H l ρ):SR K B a G H l ρ:=
 (S.gh,c.g0.trans S.g0,S.h0,λb o e=>by
  obtain z|z:=S.fr b o e
  .exact c.fr b o z
  .exact .inr z,S.env,by let(F,Da):=S.ow;exact(F,Da.base W),S.len,S.pin,S.dP)
def SR.yL(a:SR K B Z A w q ρ1)(S:SR K (A,B.2,B.3,B.4) Z G H l ρ):SR K B Z G H l ρ:=a.CO S
def f_.yL(a:SR K B Z A w q ρ1)(E:f_ A B.2 G H):f_ B.1 B.2 G H:=
 (E.hh,a.g0.trans E.gg,E.gh,λb o e=>by
  obtain z|z:=E.fr b o e
  .exact a.fr b o z
  .exact .inr z)
end
section
variable {X:Cx}{f:DL}
inductive tMI (K:aS) (B:Bs) (Z:!Nat) (f:cf->↑(!D×cf)) (l:St) (H:Hp) (R:It->Hp->Prop):Prop
 |mk G ρ b a:SR K B Z G H l ρ->f ρ=some (b,a)->(∀J d c,SR K B Z d c l a->NK K d J b->R J c)->tMI K B Z f l H R
def y4(f:cf->↑(!D×cf))(τ:AU)(g:DG):DG:=λρ=>(f ρ).bind λp=>jw τ g p.1 p.2
structure ItW(K:aS)(G0 B0:Hp)(J:It)(ds:!D):Prop where
 go:∀i H,bD G0 H->bD B0 H->i<ds.length->J.go i H
 stop:∀i H,bD G0 H->bD B0 H->ds.length<=i->J.stop i H
 Jx:∀(i:Nat) (H:Hp) (x:V) (H' G:Hp) (d:D),bD G0 G->bD B0 H->bD G H->J.Jx i H x H'->ds[i]?=some d->∃G',f_ G H G' H'/\cM K G' d x
inductive tWI (K:aS) (B:Bs) (Z:!Nat) (f:cf->↑(!D×cf)) (l:St) (H:Hp) (R:It->Hp->Prop):Prop
 |mk G ρ b a:SR K B Z G H l ρ->f ρ=some (b,a)->(∀J d c,SR K B Z d c l a->ItW K d B.2 J b->R J c)->tWI K B Z f l H R
abbrev FI(X:Cx)(Q:!(aD×Obj))(tn:Nat->cG->Prop)(fp:!aD)(R:!D)(C:Bs)(Z:!Nat)(τ:AU)(g:DG)(o:DO)(n:Nat)(s:az):Prop:=∃i σ' H' G' ρ',Inv X Q σ' H' s/\tn i s.heap/\(∀b∈fp,H' b=M)/\n=R.length-i/\i<=R.length/\SR X.K C Z G' H' σ' ρ'/\jw τ g (R.drop i) ρ'=Y o
def Ve{f:cf->↑(!D×cf)}(hp:pT (aZ X.prog X.w) X.A X.env X.xe)(hc:X.calm=Z')(hi:PI X L O<|tWI X.K B Z f)(hg:∀C:Bs,C.3=B.3->PG X L (Hd X.K C Z τ))(hb:∀C:Bs,C.3=B.3->C.2=B.2/\C.4=B.4->mh X I (gO X.K C Z Z Z g))(hs:autoParam (∀x,bW O X.env x=c9 x) ũ):PS X (.For L O I [] u)<|gO X.K B t Z Z<|y4 f τ g:=by
 intro Q s l H D' j (G,ρ,o,S,eq,k);obtain⟨⟨R,ρ0⟩,ef,eq⟩:=ae.1 eq;let eq:=eq;refine wpAny_For (eG (hi Q s l H (λJ w=>∃A,SR X.K B Z A w l ρ0/\ItW X.K A B.2 J R) j (G,ρ,R,ρ0,S,ef,λJ A w S1 ok=>(A,S1,ok))) λv s1 h1=>eG h1 λitv s2 h2 =>?_) hs;let(it,fp,tn,J,H2,e,I2,T,XE,f2,A,S1,ok):=h2;subst e;have HH:∀ {H':Hp},(∀b∈fp,H' b=M)->∀b∈fp,AB X Q H' b:=λhn b hb=>(hn b hb,(f2 b hb).2)
 refine codeAny_forLoop_any (FI X Q tn fp R (A,B.2,B.3,B.4) Z τ g o) ?_ R.length
  (0,l,H2,A,ρ0,I2,XE,λb hb=>(f2 b hb).1,W,dr _,S1.rebase S1<|bD.refl _,eq)
 rintro n s3 ⟨i,σ3,H3,G3,ρ3,I3,st3,fr3,rfl,hil,S3,F⟩;let aa5:=S3.g0.trans S3.gh;by_cases WD:i<R.length
 .rw[(cU WD)]at F;unfold jw at F;let(P,et,F):=ae.1 F;let(o4,eg,F):=ae.1 F;refine dG hp<|eG (T.item X W W W hc i Q s3 σ3 H3 X.xe I3 (HH fr3) st3<|ok.go i H3 aa5 S3.h0 WD) ?_;rintro r s4 ⟨h,hr,h4⟩;subst hr;refine dG hp<|eG h4 ?_;rintro _ s5 ⟨x,H5,I5,r5,y5,st5,fr5⟩;let I5':=I5.pinned (HH fr5)<|T.obj _ _ st5;let(G5,E5,aeL):=ok.Jx i H3 x H5 G3 R[i] S3.g0 S3.h0 S3.gh y5<|aE WD;refine dG hp<|eG (hg (A,B.2,B.3,B.4) W _ s5 σ3 H5 x h (λN H6=>∃G6,SR X.K (A,B.2,B.3,B.4) Z G6 H6 N P) I5' r5 (G5,ρ3,R[i],P,S3.ext E5,aeL,et,λN G6 H6 S6=>(G6,S6))) ?_;rintro _ s6 ⟨N,H6,I6,G6,S6⟩;have again:∀ {p:St}{K q:Hp}{ρ7:cf}{s7:az},Inv X (Q++sX fp s5.heap) p K s7->SR X.K (A,B.2,B.3,B.4) Z q K p ρ7->jw τ g (R.drop<|i+1) ρ7=Y o ->
    ∃m,m<R.length-i/\FI X Q tn fp R (A,B.2,B.3,B.4) Z τ g o m s7:=fun {p K q ρ7 s7} I7 S7 e7=>by
   refine(R.length-(i+1),ž,i+1,p,K,q,ρ7,I7.mo,T.keep _ _ _ st5 λb hb o e=>(I7.pin (b,o)<|aG _<|aG _<|jF hb e).1,λb hb =>?_,W,WD,S7,e7);let(o,e,d):=T.obj _ _ st5 b hb;exact(I7.pin (b,o)<|aG _<|aG _<|jF hb e).2.1
  refine dG hp<|eG (hb (A,B.2,B.3,B.4) W (W,W) _ s6 N H6 { nx:=λp K=>∃q r,SR X.K (A,B.2,B.3,B.4) Z q K p r/\jw τ g (R.drop<|i+1) r=Y o,ct:=λp K=>∃q r,SR X.K (A,B.2,B.3,B.4) Z q K p r/\jw τ g (R.drop<|i+1) r=Y o,bk:=D'.nx,rt:=D'.rt } I6 (G6,P,o4,S6,eg,?_)) λfl s7 y =>?_
  .cases o4 with
   |nx r=>exact λp q K S7=>(q,r,S7,F)
   |ct r=>exact λp q K S7=>(q,r,S7,F)
   |bk r=>cases F;exact λp q K S7=>k _ q K<|S1.yL S7
   |rt d=>cases F;exact λv q K E7 r7=>k v q K (f_.yL S1 E7) r7
   |ro d=>cases F;exact λa vs q K E7 h1 h2 h3 r7=>k a vs q K (f_.yL S1 E7) h1 h2 h3 r7
   |rm d r=>cases F;exact λv p q K (o7,S7) r7=>k v p q K (o7,S1.CO S7) r7
   |rf j r=>cases F;exact λv p q K (o7,ho7,S7) r7=>k v p q K (o7,ho7,S1.CO S7) r7
   |ex c n=>cases F;exact k
  cases fl with
  |ret v=>let(x7,p,K,I7,r7,y):=y;exact(x7,p,K,I7.mo,r7,y)
  |brk=>let(p,K,I7,y):=y;exact(p,K,I7.mo,y)
  |_=>let(p,K,I7,q,r,S7,F):=y;exact again I7 S7 F
 .let e:i=R.length:=by lia
  subst e;rw[ni]at F;cases F;refine dG hp<|eG (T.done X W W W hc _ Q s3 σ3 H3 X.xe I3 (HH fr3) st3<|ok.stop _ H3 aa5 S3.h0<|aV _) ?_;rintro r s4 ⟨hr,I4⟩;subst hr;exact mi (σ3,H3,I4,k σ3 G3 H3<|S1.yL S3)
def GC{f:cf->↑(!D×cf)}(hp:pT (aZ X.prog X.w) X.A X.env X.xe)(hc:X.calm=Z')(hi:PI X L O<|tMI X.K B Z f)(hg:∀C:Bs,C.3=B.3->PG X L (Hd X.K C Z τ))(hb:∀C:Bs,C.3=B.3->C.2=B.2/\C.4=B.4->mh X I (gO X.K C Z Z Z g))(hs:autoParam (∀x,bW O X.env x=c9 x) ũ):PS X (.For L O I [] u)<|gO X.K B t Z Z<|y4 f τ g:=Ve hp hc (hi.imp λl H R (G,ρ,b,a,S,e,k)=>(G,ρ,b,a,S,e,λJ d c s o=>k J d c s (λi H a h=>o.go i H a,λi H a h=>o.stop i H a,λi H x H' G d a h=>o.Jx i H x H' G d a))) hg hb hs
def Vd(i:pT (aZ X.prog X.w) X.A X.env X.xe)(o:X.calm=Z')(j:PI X L O<|BE X.K Z f)(n:∀C:Bs,C.3=B.3->PG X L (Hd X.K C Z τ))(p:∀C:Bs,C.3=B.3->C.2=B.2/\C.4=B.4->mh X I (gO X.K C Z Z Z g))(h:autoParam (∀x,bW O X.env x=c9 x) ũ):PS X (.For L O I [] u)<|gO X.K B t Z Z<|kI f τ g:=by
 let e:kI f τ g=y4 _ τ g:=funext λρ=>by show (f ρ).bind _=(lu (λa=>(a,ρ))<|f ρ).bind _;cases f ρ<;>rfl
 rw[e];refine GC i o (j.imp ?_) n p h;rintro l H R ⟨G,ρ,a,c,S,b,k⟩;let(s,r,b):=aj.1 b;cases b;exact(G,ρ,a,S.gh,S.hI,r,λJ A w E d=>k J A w (S.ext E) d)
def Vf{f:cf->↑(!D×cf)}(b:pT (aZ X.prog X.w) X.A X.env X.xe)(e:X.calm=Z')(c:PI X L O<|tMI X.K B Z f)(d:∀C:Bs,C.3=B.3->PG X L (Hd X.K C Z τ))(i:∀C:Bs,C.3=B.3->mh X I (gO X.K C Z Z Z g))(a:autoParam (∀x,bW O X.env x=c9 x) ũ):PS X (.For L O I [] u)<|gO X.K B t Z Z<|y4 f τ g:=GC b e c d (λC h j=>i C h) a
def pH(b:pT (aZ X.prog X.w) X.A X.env X.xe)(e:X.calm=Z')(c:PI X L O<|BE X.K Z f)(d:∀C:Bs,C.3=B.3->PG X L (Hd X.K C Z τ))(i:∀C:Bs,C.3=B.3->mh X I (gO X.K C Z Z Z g))(a:autoParam (∀x,bW O X.env x=c9 x) ũ):PS X (.For L O I [] u)<|gO X.K B t Z Z<|kI f τ g:=Vd b e c d (λC h j=>i C h) a
noncomputable def sL(f:DT)(g:DG):Nat->cf->↑DO
 |0,_=>M| n+1,ρ=>(f ρ).bind λb=>if b=Z' then (g ρ).bind λo=>match o with
   |.nx a=>sL f g n a|.ct a=>sL f g n a|.bk a=>Y (.nx a)|.rt d=>Y (.rt d)|.ro d=>Y (.ro d)|.rm d ρ=>Y (.rm d ρ)|.rf i ρ=>Y (.rf i ρ)|.ex c n=>Y<|.ex c n else Y (.nx ρ)
def OX(n:Nat)(f:DT)(g:DG):DG:=λρ=>sL f g n ρ
def Q2{c:Expr}{f}(n)(C:pT (aZ X.prog X.w) X.A X.env X.xe)(D:PT X c<|qg X.K Z f)(F:mh X I<|gO X.K B Z Z Z g):PS X (.While c I [] u)<|gO X.K B t Z Z<|OX n f g:=(O' C D F).imp <|by
 rintro R l H ⟨G,ρ,o,S,K,k⟩;refine(λm l H=>∃G ρ,SR X.K B Z G H l ρ/\sL f g m ρ=Y o,(n,G,ρ,S,K),?_);rintro m q w ⟨A,ρ1,v,e⟩;cases m with
 |zero=>cases e|succ m=>
  unfold sL at e;let(b,N,e):=ae.1 e;refine(A,ρ1,b,v.gh,v.hI,N,λz P Q =>?_);let y:=v.ext Q;cases b with
  |false=>cases e;solve_by_elim|true=>
   refine qm (_,λh p a=>(m,Ha m,a),?_);let(x,d,e):=ae.1 e;refine(z,ρ1,x,y,d,?_);cases x with
   |nx i=>exact λh j p s=>(j,i,s,e)
   |ct i=>exact λh j p s=>(j,i,s,e)
   |bk i=>cases e;solve_by_elim|_=>cases e;exact k
end
noncomputable def mC(src:!(↑Nat))(ρ:cf):cf:=src.map λo=>match o with|some j=>(ρ[j]?).getD M|none=>M
noncomputable def tD(ρ:cf)(τ:AU)(U:DT)(fe:DF):!D->↑(!D)
 |[]=>Y []|d::a=>(τ d ρ).bind λρ1=>(U ρ1).bind λb=>if b=Z' then (fe ρ1).bind λx=>(tD ρ τ U fe a).map (x :: ·) else tD ρ τ U fe a
def wu(f:DL)(src:!(↑Nat))(τ:AU)(U:DT)(fe:DF):DL:=λρ=>(f ρ).bind λa=>if a.length<=dZ then tD (mC src ρ) τ U fe a else M
noncomputable def gu:DT:=λ_=>Y Z'
def ig(Z Ź:!Nat)(src:!(↑Nat)):Bool:=(Ź.all λj=> (not<|Ź.contains (Ii j)))&&(cg src.length).all λi=>match src[i]? with|some (Y j)=>decide (i∈Ź)==decide (j∈Z)|_=>Z'
def jE(h:ig Z Ź src=Z')(e:src[i]?=Y (Y j)):(i∈Ź↔j∈Z):=by
 unfold ig at h;rw[bh]at h;let h:=h.2;rw[eB]at h;have:=h i (by simpa using (aq.mp e).1);rw[e]at this;simpa using this
def MB(h:ig Z Ź src=Z')(b:j∈Ź)(a:Ii j∈Ź):False:=by
 unfold ig at h;rw[bh,eB]at h;have:=h.1 j b;simp[a]at this
def jz.src{K:aS}{Z Ź}{src}(h:jz K Z G H l ρ)(f:ig Z Ź src=Z'):jz K Ź G H (mB src l)<|mC src ρ:=by
 refine(by simp[mB,mC],λi d e =>?_,λj r p k g a=>(MB f k g).elim);unfold mC at e;rw[aY]at e;let(o,c,e):=aj.1 e;cases o with
 |none=>cases e|some j=>
  let e:=by simpa using e
  let s:ρ[j]?=Y (Y d):=by rcases q:ρ[j]? with _|z<;>simp_all
  let(v,_):=h.get j d s;refine(v,?_,?_)
  .simp_all [mB,aY]
  .have:=jE f c
   simp_all
section
variable {X:Cx}{m:Expr}{f:DL}
def Hh.imp{t}(h:Hh X E t)(k:∀l H Q,b l H Q->t l H Q):Hh X E b:=λa s l H Q I q=>h a s l H Q I<|k _ _ _ q
def j5:Hh X []<|qg X.K Z gu:=J3.imp <|by rintro l H Q ⟨G,ρ,b,a,d,c,k⟩;cases c;exact k G H<|.refl a
def Vb(h:PT X c<|qg X.K Z U):Hh X [c]<|qg X.K Z U:=Th h
abbrev LI(K:aS)(A w:Hp)(h:!D)(e:cf)(τ:AU)(U:DT)(fe:DF)(rs:!D)(i m:Nat)(ys:!V)(H:Hp):Prop:=m=h.length-i/\i<=h.length/\ys.length<=i/\∃R r c,f_ A w R H/\bB K R r ys/\tD e τ U fe (h.drop i)=Y c/\r++c=rs
set_option tactic.hygienic true in
def Wq{K:aS}(ho:ig Z Ź src=Z')(hg:∀v l H Q,V3 K Ź τ v l H Q->g v l H Q)(q:tF K Z (wu f src τ U fe) l H Q):V5 (BE K Z f) src g (qg K Ź U) (tP K Ź fe) l H Q:=by
 let(G,ρ,rs,gh,P,s,k):=q;unfold wu at s;let(h,ef,s):=ae.1 s;split at s
 .rename_i hz;refine(G,ρ,h,gh,P,ef,λJ A w E1 ok =>?_);refine(LI K A w h (mC src ρ) τ U fe rs,
   (h.length,W,dr _,aV _,A,[],rs,.refl E1.gh,.nil,s,W),?_)
  rintro i m ys D ⟨rfl,hil,hyl,R,r,c,o,rx,d,rfl⟩;let t:bD A D:=o.gg.trans o.gh;by_cases n:i<h.length
  .refine .inr (ok.go i D t n,?_,_,
    λC H' z=>(h.length-(i+1),ŷ,W,n,z),λx H3 y =>?_)
   .have:=dY
    lia
   .let(G3,X,N):=ok.Jx i D x H3 R h[i] o.gg o.gh y<|aE n;rw[cU n]at d;unfold tD at d;let(j,et,d):=ae.1 d;let(b,eb,d):=ae.1 d;let E13:=E1.trans<|o.trans X;refine hg _ _ _ _ (G3,mC src ρ,h[i],j,X.gh,(P.ext E13).src ho,N,et,λσ4 G4 H4 E4 B=>(G4,j,b,E4.gh,B,eb,λG5 H5 S =>?_));let E15:=(o.trans X).trans<|E4.trans S;cases b with
    |false=>exact i9 (ž,G5,r,c,E15,bB.mono ((X.trans<|E4.trans S).gg) r rx,d,W)
    |true=>
     refine qm ?_;simp only[if_true]at d;let(x4,ee,d):=ae.1 d;rcases el:tD (mC src ρ) τ U fe<|h.drop<|i+1 with _|a
     .simp[el]at d
     simp only[el,av,gy]at d;cases d;refine(G5,j,x4,S.gh,B.ext S,ee,λv G6 H6 E6 r6=>(by simp;omega,G6,r++[x4],a,E15.trans E6,(bB.mono ((X.trans<|(E4.trans S).trans E6).gg) r rx).append<|.cons r6 .nil,W,ż))
  .let e:i=h.length:=by lia
   subst e;rw[ni]at d;unfold tD at d;cases d;refine .inl (ok.stop _ D t<|aV _,λp hp =>?_);let E12:=E1.trans o;refine k p ys R _ (E12.trans<|f_.lay (p:=p) o.gh hp) (E12.hh.free hp) (o.gh.free hp) aP ?_
   simp_all
 .cases s
def Ro(S:d6 X N src T)(j:X.calm=Z')(e:PI X L O<|BE X.K Z f)(n:NM J g)(a:∀i∈J,src[i]?=Y M)(h:∀v l H Q,V3 X.K Ź τ v l H Q->g v l H Q)(k:∀C s H b,PG (X.qr N T C s H b) L g/\Hh (X.qr N T C s H b) E (qg X.K Ź U)/\PE (X.qr N T C s H b) m (tP X.K Ź fe))(d:‹ig Z Ź src=true›)(c:autoParam (∀x,bW O X.env x=c9 x) ũ):PE X (.ListComp m [(L,O,E,0)] T u)<|tF X.K Z<|wu f src τ U fe:=
 (FO S j e n a k c).imp λl H Q q=>Wq d h q
def Nf{i:Nat}{c D:Pos}(S:d6 X N src T)(hc:X.calm=Z')(hN:X.N.Nodup)(F:X.N[i]?=Y y)(hl:X.env.scope.names.lookup y=Y .local)(hi:PI X L O<|BE X.K Z f)(ag:NM J g)(j:∀i∈J,src[i]?=Y M)(hg:∀v l H Q,V3 X.K Ź τ v l H Q->g v l H Q)(hb:∀C s H z,PG (X.qr N T C s H z) L g/\Hh (X.qr N T C s H z) E (qg X.K Ź U)/\PE (X.qr N T C s H z) m (tP X.K Ź fe))(R:‹ig Z Ź src=true›)(n:‹i∈Z›)(d:autoParam (∀a,(i,a)∉B.3) ť)(hm:‹A9 i∉Z›)(h:@&(cm (.ListComp m [(L,O,E,0)] T u) (Y<|.Name y D) c.line X.env=c9 true))(q:autoParam (∀x,bW O X.env x=c9 x) ũ):PS X (.Assign [.Name y D] (.ListComp m [(L,O,E,0)] T u) c)<|gO X.K B t Z Z<|lO i<|wu f src τ U fe:=
 (zd S hc hN F hl hi ag j hb h q).imp λD' l H (G,ρ,o,S,e,k)=>Wq R hg (by let(ds,ef,e):=aj.1 e;cases e;exact(G,ρ,ds,S.gh,S.hI,ef,λp vs G' H' b P gp K r=>k _ G' H'<|S.SY n b P gp K r d hm))
end
inductive iW (K:aS) (F:!D->↑D) (e:!V) (H:Hp) (Q:VK) (_x:XK):Prop
 |mk G a d:bD G H->bB K G a e->F a=some d->(∀v c b,f_ G H c b->cM K c d v->Q v b)->iW K F e H Q _x
inductive wW (K:aS) (F:!D->↑(!D)) (g:!V) (H:Hp) (Q:VK) (_x:XK):Prop
 |mk G f e:bD G H->bB K G f g->F f=some e->(∀a d c b,f_ G H c b->H a=none->c a=none->b a=some (.lst d)->bB K c e d->Q (.ref a) b)->wW K F g H Q _x
noncomputable def fQ(N:Nat)(a:!D):cf:=a.map Y++aH (N-a.length) M
noncomputable def RV:DO->↑D
 |.rt d=>Y d|.ro a=>Y (.lst a)|.nx _=>Y .cT|_=>M
noncomputable def abC:DO->↑(!D)
 |.ro a=>Y a|_=>M
def la(n N:Nat)(g:DG)(a:!D):↑D:=if a.length=n then (g<|fQ N a).bind RV else M
def C_(n N:Nat)(g:DG)(a:!D):↑(!D):=if a.length=n then (g<|fQ N a).bind abC else M
def jK{i:Nat}(h:(fQ N b)[i]?=Y (Y d)):b[i]?=Y d:=by
 unfold fQ at h;by_cases c:i<b.length
 .rw[cw (by simp_all),aY]at h;let(a,e,h):=aj.1 h;rw[e];cases h;rfl
 .rw[qv (by simp_all),Si]at h;split at h<;>cases h
def um{K:aS}{H:Hp}{m:!V}(s:bD G H)(r:bB K G k m)(t:∀i∈Z,k.length<=i):SR K (G,H,[],x) Z G H (start N m)<|fQ N.length k:=by
 have g:∀i d,i∈Z->(fQ N.length k)[i]?=Y (Y d)->False:=λi d f e=>by
  have:=(aq.mp<|jK e).1
  grind
 refine(s,bD.refl _,bD.refl _,λb o e =>.inl e,λi d f e =>?_,(λ_=>[],λi d f e=>(g i d f e).elim,λi d f e=>(g i d f e).elim,λi j d c f z e=>(g i d f e).elim),by simp[start,fQ,r.length],λi a h=>(by cases h),λj r p w A e=>(g j _ w e).elim);let(v,n,q):=r.get<|jK e;refine(v,?_,q);let f:=(aq.mp n).1;unfold start;rw[cw (by simp_all),aY,n];exact Ÿ
section
variable {P:bj}{K:aS}
def gx.ES{m:cS}{f:aD}(F:gx K x e m f O)(N:!aM)(Z Ź:!Nat){g:DG}(S:fo N I<|bu m) (hb:N.Nodup->∀(j:au) (A:fJ) (outer:!Env) (s:az) (H:Hp) (E:XK),dn k (A.deeper<|mj e (bu m) s.heap.objs.size f j)->∀B:Bs,B.3=[] ->
   mh (pJ gk P w K u y N e (bu m) f j A outer s H E).Ig (fm m) (gO K B [] Z Ź g)) (p:‹∀i∈Z,I.length<=i›):b_ P w K u y gk (k+1) f O I<|iW K<|la I.length N.length g:=by
 refine F.ok S (λR H Q E h =>?_) λj A outer s H R Q E U h =>?_
 .let(G,ds,d,c,r,b,_):=h;unfold la at b;split at b
  .rw[<- r.length];omega
  .cases b
 .let(G,ds,d,c,r,b,q):=h;unfold la at b;split at b
  .refine(_,hb S.nd j A _ s H E U (G,H,[],λl l=>False) W,?_);let(o,eg,b):=ae.1 b;refine(G,_,o,um c r Ż,eg,?_);cases o with
   |rt d'=>cases b;solve_by_elim|ro T=>cases b;exact λa J z t E h1 L h3 r=>q _ _ t (E.freeze h1 L h3)<|cH.mpr (a,J,W,aP,bB.mono (.alloc L) T r)
   |nx D=>cases b;exact λσ z t S=>q _ z t S.kz<|fc.mpr W
   |_=>cases b
  .cases b
def gx.okO{f:aD}(F:gx K x j p f I)(N:!aM)(Z Ź:!Nat){g:DG}(S:fo N z<|bu p) (R:N.Nodup->∀(m:au) (A:fJ) (e:!Env) (s:az) (H:Hp) (E:XK),dn k (A.deeper<|mj j (bu p) s.heap.objs.size f m)->∀B:Bs,B.3=[] ->
   mh (pJ gk P w K u y N j (bu p) f m A e s H E).Ig (fm p) (gO K B [] Z Ź g)) (t:‹∀i∈Z,z.length<=i›):b_ P w K u y gk (k+1) f I z<|wW K<|C_ z.length N.length g:=by
 refine F.ok S (λJ H Q E h =>?_) λm A e s H J Q E a h =>?_
 .let(G,ds,d,D,r,b,_):=h;unfold C_ at b;split at b
  .rw[<- r.length];omega
  .cases b
 .let(G,ds,d,D,r,b,q):=h;unfold C_ at b;split at b
  .refine(_,R S.nd m A e s H E a (G,H,[],λc c=>False) W,?_);let(o,eg,b):=ae.1 b;refine(G,_,o,um D r Ż,eg,?_);cases o with
   |ro rs=>cases b;solve_by_elim|_=>cases b
  .cases b
structure iC(P:bj)(w:cQ)(K:aS)(mg:aM->↑au)(base:cG)(x:aM)(k:Nat)(sp:Sp):Prop where
 ex:∃f fd ps,b_ P w K mg base gk k f fd ps sp/\mg x=some (.ref f)/\jU K (.ref f)=true/\Binds K fd ps []
def iC.mono(h:iC P w K u y x j a)(c:j<=k):iC P w K u y x k a:=by
 let(f,g,b,e,d):=h.ex;exact(f,g,b,e.mono c,d)
end
section
variable {X:Cx}
def yB{F:!D->↑D}(h:iC X.prog X.w X.K X.mg X.base x k<|iW X.K F)(s:dn k X.A)(z:Gl X x)(E:PA X (e::l)<|AO X.K Z g)(b:‹(x==("__debug__" : aM))=false›)(A:@&(ak (e::l) X.env=(Z_,eval e X.env)::ak l X.env))(a:@&((b9 C<|ak l X.env).any (·.1)=false)):PE X (.Call (.Name x p) (e::l) [] C)<|tP X.K Z<|bF F g:=by
 let(f,fd,U,I,t,w,B):=h.ex;refine(pw I s z t w B .nil ju E b A a).imp ?_;rintro T H Q ⟨G,m,d,J,c,L,q⟩;let(i,K,u):=Ad L;exact(G,m,i,J,c,K,λn R O j r=>by rw[bT];exact(R,i,d,j.gh,r,u,λv P N S o=>q v P N (j.trans S) o))
noncomputable def sF(F:!D->↑(!D))(g:DL):DL:=λa=>(g a).bind F
def qY{F:!D->↑(!D)}(h:iC X.prog X.w X.K X.mg X.base x k<|wW X.K F)(w:dn k X.A)(B:Gl X x)(J:PA X (e::l)<|AO X.K Z g)(d:‹(x==("__debug__" : aM))=false›)(E:@&(ak (e::l) X.env=(Z_,eval e X.env)::ak l X.env))(c:@&((b9 C<|ak l X.env).any (·.1)=false)):PE X (.Call (.Name x p) (e::l) [] C)<|tF X.K Z<|sF F g:=by
 let(f,fd,ps,i,z,A,I):=h.ex;refine(pw i w B z A I .nil ju J d E c).imp ?_;rintro σ H Q ⟨G,o,O,u,j,b,q⟩;let(n,N,b):=ae.1 b;exact(G,o,n,u,j,N,λr T R m v=>by rw[bT];exact(T,n,O,m.gh,v,b,λa s S P U i L K t=>q a s S P (m.trans U) (m.hh.free i) L K t))
noncomputable def BN:D->Bool
 |.cT=>Z'|.bl _=>Z'|.int _=>Z'|.str _=>Z'|_=>Z_
end
def YM{F:!D->↑D}{m:Nat}(e:∀b:!Int,b.length<=m->F [.oE b]=Y (.bl Z'))(K:aS)(H:Hp)(a:aD)(b:!Int)(c:b.length<=m)(f:RM H)(d:lZ K H a<|b.map V.int):
  iW K F [.ref a] H (λv i=>v=.bl Z') λi i i=>False:=
 (H,_,_,bD.refl _,.cons (Dh.mpr (a,W,d)) .nil,e b c,λv h g E r=>cY.mp r)
noncomputable def Ite(K:aS)(a:aD):It:=
 (λi H=>∃b x,lZ K H a b/\b[i]?=Y x,λi H v c=>∃x p,(∀b,lZ K H a b->b[i]?=Y x)/\H p=M/\v=.ref p/\c=cO H p (.tup [.int i,x]),λi H=>∃b,lZ K H a b/\b.length<=i)
def L9{P}{K}{x1}(a e t)(T:e≠t):NS P w K (.Tuple ads x1 N) (Ite K a) [e,t] e (λi h=>(∃l,IsEnum h e t (i:Int) l)/\h.IsListIter t a i) where
 mem:=by solve_by_elim
 obj:=λi h D b g=>by
  obtain⟨⟨l,f⟩,j⟩:=D;obtain rfl|g:=aT.mp g
  .exact(_,f,λv z=>by cases z)
  .let e:b=t:=by simpa using g
   subst e;let(o,e,c,d):=j;exact(o,e,λv z=>by rw[d]at z;cases z)
 keep:=λi h h' D k=>by obtain⟨⟨l,f⟩,j⟩:=D;exact((l,k e Ÿ _ f),j.at λo q=>k t Ÿ o q)
 item:=by
  intro X hP hw hK hc i J s σ H E I R D hg;subst hP hw hK;obtain⟨⟨l,f⟩,j⟩:=D;let(xs,x,hq,B):=hg;let(Iu,rv,p,hz):=I.list hq;let(u,hu,ru):=rv.get B;have fe:=R e Ÿ;have U:=R t Ÿ;refine wpAny_pyNext_enum_item f j p.isList (x:=u) (by simpa using hu) T λh1 eo it1 t1 z1 k1 =>?_
  refine(_,W,?_);refine wpAny_letOwnedTupleGo_enum (s:={ s with heap:=h1,toks:=s.toks+1 }) eo λG e2 s2 =>?_
  have S:e<s.heap.objs.size:=aO f;let Da:H s.heap.objs.size=none:=I.dS.fresh<|aV _;let L:eE e h1 G:=s2;have m:∀b o,b≠e->b≠t->s.heap.get? b=Y o->G.get? b=Y o:=λb o h3 h4 q=>(L.2 b h3).trans<|k1 b o h3 h4 q
  let tup:G.get? s.heap.objs.size=Y { cls :=.type "tuple",data :=.seq #[.int i s.toks,u] }:=(L.2 _<|eR S).trans t1;have C:∀b o,H b=Y o->b≠e/\b≠t:=λb o q=>(λz=>by(rw[z,fe.1]at q;cases q),λz=>by(rw[z,U.1]at q;cases q))
  let new:hR X.prog X.w (cO H s.heap.objs.size<|.tup [.int i,x]) G s.heap.objs.size<|.tup [.int i,x]:=
   (by show 2<=be;rw[i5];decide,[.int i s.toks,u],.cons (_,W)<|.cons ru .nil,_,tup,W,_,W)
  let O:lT X.prog X.w (cO H s.heap.objs.size<|.tup [.int i,x]) G:=λb o q=>by
   by_cases g:b=s.heap.objs.size
   .subst g;rw[aP]at q;cases q;exact new
   .rw[aI g]at q;refine(I.dS b o q).uk (λc v F r =>?_) (λc r=>by rw[aI<|bc r Da];exact r) λc ys r=>by rw[aI<|bc r Da];exact r
    obtain rfl|F:=F
    .exact m _ _ (C _ _ q).1 (C _ _ q).2 r
    .exact m _ _ (C _ _ F).1 (C _ _ F).2 r
  have un:Un (yv X.stack) [e,t] H (cO H s.heap.objs.size<|.tup [.int i,x]) s.heap G:=by
   have y:∀b,b∉[e,t]->b≠e/\b≠t:=λb g=>(λz=>g (by simp[z]),λz=>g<|by simp[z])
   let l:∀b o,s.heap.get? b=Y o->b≠s.heap.objs.size:=λb o q=>bI<|aO q
   refine(λb o q n A B=>m b o (y b B).1 (y b B).2 q,λb o q n A B=>(o.slots,m b o (y b B).1 (y b B).2 q),λb o q n B=>by rw[aI<|l b o q];exact n,
    λb o q B=>(o,m b o (y b B).1 (y b B).2 q),λb ys q=>by rw[aI<|bc q Da];exact q,λb o u q=>by rw[aI<|bc q Da];exact q,λb ps q=>(#[],by rw[aI<|bc q Da];simpa using q))
  let I2:Inv X J σ (cO H s.heap.objs.size<|.tup [.int i,x]) { s with heap:=G,toks:=s.toks+1 }:=I.xk (s':={ s with heap:=G,toks:=s.toks+1 }) W un O I.bare λb g=>by
   obtain rfl|g:=aT.mp g
   .exact(fe.2.2.2.1,fe.2.1,fe.2.2.2.2.1,fe.2.2.2.2.2)
   .let z:b=t:=by simpa using g
    subst z;exact(U.2.2.2.1,U.2.1,U.2.2.2.2.1,U.2.2.2.2.2)
  have st3:G.IsListIter t a<|i+1:=it1.at λo q=>(L.2 t<|bz T).trans q
  refine(.ref s.heap.objs.size,_,I2,W,(x,s.heap.objs.size,λys hy=>by rw[I.qT hy hq];exact B,Da,W,W),((u,by exact_mod_cast e2),st3),λb g =>?_);have:b≠s.heap.objs.size:=by
   obtain rfl|g:=aT.mp g
   .exact bI S
   .let z:b=t:=by simpa using g
    subst z;let(o,q,_):=j;exact bI<|aO q
  rw[aI this];exact(R b g).1
 done:=by intro X hP hw hK hc i J s σ H E I R D hg;subst hP hw hK;obtain⟨⟨l,f⟩,j⟩:=D;let(xs,hq,B):=hg;let(Iu,rv,p,hz):=I.list hq;let(f0,f1,f2,f3,f4,f5):=R t Ÿ;let hl:=rv.length;exact wpAny_pyNext_enum_end (I.ok.hd hc) f j p.isList (by simp;simp_all) λh' eb=>(W,I.turned (t':=s.toks) (λb o g q=>eb b o g q) f0 f1 f3 f4 f5)
 self:=λA i s Q E D h=>by obtain⟨⟨l,f⟩,j⟩:=D;exact wpAny_pyIter_enum f h
section
variable {X:Cx}{f:DF}
def Y9(K:aS)(e:TE):TI:=λc H R=>e c H λx b=>∃a,x=.ref a/\(∃d,lZ K b a d)/\R (Ite K a) b
def Tu{A}{v:TE}(Q:Gl X "enumerate")(O:X.mg "enumerate" = M)(P:PE X e v)(E:@&(ak [e] X.env=[(Z_,eval e X.env)]))(n:@&(ak [e] X.env=(Z_,eval e X.env)::ak [] X.env))(L:autoParam (fG "enumerate" = Y (.type "enumerate")) ţ):PI X (.Tuple k A g) (.Call (.Name "enumerate" p) [e] [] i)<|Y9 X.K v:=by
 intro j s y H R I h;refine Call_ (pz I Q O L (gH (eG (bZ P dw n i j s y H (λl f=>match l with|[x]=>∃a,x=.ref a/\(∃r,lZ X.K f a r)/\R (Ite X.K a) f|_=>False) I h) ?_) E W));rintro U c ⟨l,f,d,C,m⟩;cases l with
 |nil=>exact m.elim|cons x t=>
  cases t with
  |cons _ _=>exact m.elim|nil=>
  obtain⟨a,rfl,⟨r,N⟩,q⟩:=m;let(u,rfl,B):=cx.one C;cases B;let(K,rv,D,hz):=d.list N;refine call_enumerate_list D.isList λS w G T J =>?_
  refine wpAny_pyIter_enum w ?_;let F:f c.heap.objs.size=none:=d.dS.fresh<|aV _;refine(c.heap.objs.size+1,[c.heap.objs.size+1,c.heap.objs.size],_,_,f,W,d.kept (t':=c.toks) J,L9 a (c.heap.objs.size+1) c.heap.objs.size<|eR<|Ha _,((_,w),G),λb o =>?_,q);obtain rfl|o:=aT.mp o
  .exact d.zY (jg _)<|d.dS.fresh<|jg _
  .let z:b=c.heap.objs.size:=by simpa using o
   subst z;exact d.zY (aV _) F
noncomputable def Cg(a:!D):!D:=a.zipIdx.map λp =>.tup [.int (p.2:Nat),p.1]
def Nc{i:Nat}(h:(Cg a)[i]?=Y d):∃x,a[i]?=Y x/\d=.tup [.int i,x]:=by
 unfold Cg at h;rw[aY,List.getElem?_zipIdx]at h;rcases e:a[i]? with _|x<;>simp_all
def Cf(a:!D):(Cg a).length=a.length:=by simp[Cg]
def MT{K:aS}{a}(k:G a=Y (.lst b))(r:bB K G n b):NK K G (Ite K a)<|Cg n:=by
 refine(λi H s e =>?_,λi H s e=>(b,.of<|s _ _ k,by rw[Cf]at e;rw[<- r.length];exact e),λi H x B A d l h (y,p,f,m,u,w) t =>?_)
 .rw[Cf]at e;have j:i<b.length:=by rw[<- r.length];exact e
  exact(b,b[i],.of<|s _ _ k,ż)
 .let(c,z,rfl):=Nc t;let(v,g,o):=r.get z;rw[(f b<|.of<|h _ _<|l _ _ k)]at g;cases g;subst u w;refine(_,f_.alloc h m,dA.mpr (p,_,W,aP,.cons (bY.mpr W)<|.cons (cM.mono (l.trans<|.alloc<|h.free m) c o) .nil))
def iE(f:DF):DL:=λa=>(iL f a).map Cg
def ad4{c:!Expr}{o}(w:Gl X "enumerate")(u:X.mg "enumerate" = M)(h:PE X e<|tP X.K Z f)(t:@&(ak [e] X.env=[(Z_,eval e X.env)]))(i:@&(ak [e] X.env=(Z_,eval e X.env)::ak [] X.env)):
  PI X (.Tuple c o b) (.Call (.Name "enumerate" p) [e] [] g) (BE X.K Z<|iE f):=(Tu w u h t i).imp <|by
 rintro B H R ⟨G,n,D,x,j,d,k⟩;let(C,y,d):=aj.1 d;cases d;refine(G,n,_,x,j,DN y,λv A z m s =>?_);let(a,q,rfl,l,r):=cH.mp s;exact(a,W,(q,.of<|m.gh _ _ l),k _ A z m<|MT l r)
end
def uY{K}{Z}(i)(e:‹i∉Z›):∀v a H Q,V3 K Z (gN i) v a H Q->g_ i v a H Q:=λv a H Q (G,h,d,c,f,b,r,g,k)=>by
 cases g;exact k _ G H (.refl f)<|b.set e r
noncomputable def vj(b:Scope)(d N:!aM)(c:!(↑Nat))(a:Scope):Bool:=
 (a.names.all λy=>a.names.lookup y.1==Y y.2)&&(a.names.all λy=>y.2 != .free||(b.names.lookup y.1==Y .cell||b.names.lookup y.1==Y .free))&&(c.length==N.length) &&
 ((cg c.length).all λi=>match c[i]?,N[i]? with|some (Y j),Y x=>d[j]? == Y x&&a.names.lookup x==Y .free|_,_=>Z')
def kN{X:Cx}{outer:Scope}{oN N}{src:!(↑Nat)}(d:a.kind=.function)(h:vj outer oN N src a=Z')(p:X.env.scope=outer)(o:X.N=oN):d6 X N src a:=by
 unfold vj at h;simp only[bh,eB,beq_iff_eq,vC]at h;obtain⟨⟨⟨n,m⟩,l⟩,k⟩:=h;refine(d,λy b=>n y b,λy b f =>?_,l,λi j x c g =>?_)
 .grind
 .let e:=(aq.mp c).1;have:=k i Ż;rw[c,g]at this;simp at this;rw[o];exact this
section
variable {m:bj}{s:az}{R:R5->az->Prop}
variable {P:Nat->au->Prop}
end
section
variable {m:bj}{s:az}
variable {P:Nat->au->Prop}
end
section
variable {X:Cx}{f:DF}
end
abbrev DM:=cf->↑(D×cf)
abbrev VD:=cf->↑(!D×cf)
inductive tM (K:aS) (B:Bs) (Z:!Nat) (f:DM) (c:St) (H:Hp) (Q:VK):Prop
 |mk G e d a:SR K B Z G H c e->f e=some (d,a)->(∀v b g,SR K B Z b g c a->bD G b->cM K b d v->Q v g)->tM K B Z f c H Q
inductive Xx (K:aS) (B:Bs) (Z:!Nat) (f:VD) (c:St) (H:Hp) (Q:!V->Hp->Prop):Prop
 |mk G d g a:SR K B Z G H c d->f d=some (g,a)->(∀e b h,SR K B Z b h c a->bD G b->bB K b g e->Q e h)->Xx K B Z f c H Q
noncomputable def Hj(H:Hp)(a:aD):Hp:=λb=>if b=a then M else H b
theorem z9:Hj H a a=none:=by simp[Hj]
theorem z_(h:b≠a):Hj H a b=H b:=by simp[Hj,h]
def K6:bD (Hj H a) H:=λb o e=>by
 grind [z9,z_]
section
variable {X:Cx}{m:Pos}
noncomputable def mP(f:DF):DM:=λρ=>(f ρ).map λd=>(d,ρ)
def Uh{f}(h:mP f b=Y (d,a)):f b=Y d/\a=b:=by
 let(c,e,h):=aj.1 h
 simp_all
def D9{f}(h:PE X e<|tP X.K Z f):PE X e<|tM X.K B Z<|mP f:=h.imp <|by
 rintro j H Q ⟨G,n,d,a,S,b,k⟩;let(c,rfl):=Uh b;exact(G,a,d,S.gh,S.hI,c,λv i g E r=>k v i g (S.ext E) E.gg r)
noncomputable def oH:VD:=λρ=>Y ([],ρ)
noncomputable def km(f:DM)(g:VD):VD:=λρ=>(f ρ).bind λp=>(g p.2).bind λq=>Y (p.1::q.1,q.2)
def P9{f:DM}(h:km f g d=Y (j,b)):∃x a c,f d=Y (x,a)/\g a=Y (c,b)/\j=x::c:=by
 obtain⟨⟨x,a⟩,i,h⟩:=ae.1 h;rcases e:g a with _|_
 .simp_all
 grind
def Li:PA X []<|Xx X.K B Z oH:=dw.imp <|by
 rintro c H Q ⟨G,e,d,a,S,b,k⟩;cases b;exact k _ G H S (bD.refl _) .nil
def qW{f:DM}{g}(h:PE X e<|tM X.K B Z f)(t:PA X l<|Xx X.K B Z g)(r:@&(ak (e::l) X.env=(Z_,eval e X.env)::ak l X.env)):PA X (e::l)<|Xx X.K B Z<|km f g:=
 (bZ h t r).imp <|by rintro F H Q ⟨G,j,d,b,S,w,k⟩;let(x,a,n,u,c,rfl):=P9 w;exact(G,j,x,a,S,u,λv E J z o q=>(E,a,n,b,z,c,λI D C y i p=>k _ D C y (o.trans i)<|.cons (cM.mono i x q) p))
noncomputable def tq(g:VD):DM:=λa=>(g a).bind λq=>if q.1.length<=1000 then Y (.tup q.1,q.2) else M
set_option tactic.hygienic true in
def Rc{q}{g}(h:PA X l<|Xx X.K B Z g):PE X (.Tuple l q m)<|tM X.K B Z<|tq g:=(Dl h).imp <|by
 rintro v H Q ⟨G,i,d,b,S,a,k⟩;unfold tq at a;rw[ae]at a;obtain⟨⟨c,e⟩,f,a⟩:=a;let a:(if c.length<=1000 then Y (Prod.mk (D.tup c) e) else M)=Y _:=a;split at a
 .cases a;rename_i t;refine(G,i,c,b,S,f,λj x w o r n=>(?_,λp u =>?_))
  .rw[<- n.length];exact bM t uU
  .let E:=f_.alloc (o :=.tup j) o.gh u;exact k _ _ _ (o.ext E) (r.trans E.gg)<|dA.mpr (p,j,W,aP,bB.mono E.gg c n)
 .cases a
noncomputable def m2(o:D->D->↑D)(a b:DM):DM:=λc=>(a c).bind λp=>(b p.2).bind λq=>(o p.1 q.1).map λd=>(d,q.2)
def Ui{f:cf}(h:m2 o a b g=Y (d,f)):∃x e y,a g=Y (x,e)/\b e=Y (y,f)/\o x y=Y d:=by
 obtain⟨⟨x,e⟩,k,h⟩:=ae.1 h;rcases j:b e with _|⟨y,n⟩
 .simp_all
 rcases i:o x y with _|c
 .simp_all
 grind
def O4{K:aS}{s}(h:tM K B Z (m2 o s A) c H Q):tOp (rD K o) (tM K B Z s) (tM K B Z A) c H Q:=by
 let(G,i,d,b,S,z,k):=h;let(x,a,y,t,r,C):=Ui z;exact(G,i,x,a,S,t,λv L N E j q=>(L,a,y,b,E,r,λu J l f e p=>(J,x,y,d,f.gh,.inl<|cM.mono e x q,.inl p,C,λw I F g n=>k w I F (f.ext g) ((j.trans e).trans g.gg) n)))
variable {s:DM}
def ahB(d:AS X (dF c) o)(f:PE X a<|tM X.K B Z s)(e:PE X b<|tM X.K B Z A):PE X (.BinOp a c b m)<|tM X.K B Z<|m2 o s A:=(Ph d f e).imp λg H Q h=>O4 h
def acJ(e:PE X a<|tM X.K B Z s)(d:PE X b<|tM X.K B Z A)(c:autoParam (vm b) Š):PE X (.Subscript a b m)<|tM X.K B Z<|m2 dh s A:=(Ke Og e d c).imp λf H Q h=>O4 h
def Ug(j:Nat):DM:=λb=>(gM j b).bind λa=>(a[a.length-1]?).map λd=>(d,b.set j<|Y<|.lst a.dropLast)
def Zy{b a}(h:PE X (.Name y p)<|eS j)(q:‹j∈Z›)(f:@&(bJ (.Name y p) "pop" X.env (eval (.Name y p) X.env)=eval (.Name y p) X.env))(e:@&((b.endLine==a.line)=true)):
  PE X (.Call (.Attribute (.Name y p) "pop" b) [] [] a) (tM X.K B Z<|Ug j):=
 (Po fX PySem.F.slot_list_pop PySem.F.type_list_pop PX h f e).imp <|by
  rintro x H Q ⟨G,z,d,o,S,g,k⟩;let(n,t,g):=ae.1 g;rcases i:n[n.length-1]? with _|c
  .simp[i]at g
  simp only[i,av,gy]at g;cases g;exact Yb S q (dB t) i λv w u r=>k v G w u (bD.refl _) r
inductive CW (K:aS) (p:Nat) (F:!D->↑(D×!D)) (h:!V) (H:Hp) (Q:VK) (_x:XK):Prop
 |mk G f d b a n k:bD G H->f[p]?=some (.lst k)->h[p]?=some (.ref a)->H a=some (.lst n)->bB K G k n->G a=none->(∀(i:Nat) c,i≠p->f[i]?=some c->∃v,h[i]?=some v/\cM K G c v)->f.length=h.length->F f=some (d,b)->(∀v e g j,f_ G (Hj H a) g j->g a=none->j a=some (.lst e)->bB K g b e->cM K g d v->Q v j)->CW K p F h H Q _x
def TM(p:Nat):DO->↑(D×!D)
 |.rm d a=>(gM p a).map λb=>(d,b)
 |.nx a=>(gM p a).map λb=>(.cT,b)
 |_=>M
def Fy(n N p:Nat)(g:DG)(a:!D):↑(D×!D):=if a.length=n then (g<|fQ N a).bind (TM p) else M
def SR.Vu{K}{f v}{a}(S:SR K B Z G H g i)(w:j∈Z)(t:i[j]?=Y (Y d))(p:g[j]?=Y (Y<|.ref a))(E:f_ G (Hj H a) f v)(L:f a=M)(C:v a=Y n)(r:iY K f u n)(x:@&(we d=true)):SR K B Z f v g<|i.set j<|Y u:=by
 let(F,Da):=S.ow;let(Q,y,N):=Da.it j d w t;obtain⟨⟨o,_⟩,l⟩:=(jy.cell x).mp N;have:=S.chg (F0:=[a]) Da w (λb c=>(Ž,d,t)) E.gg E.gh λb o e=>by
   obtain z|z:=E.fr b o e
   .exact .inl z
   .by_cases c:b=a
    .exact .inr Ż
    .rw[z_ c]at z;exact .inr<|.inl z
  (λb o c e=>E.hh b o<|by simp_all [z_]) ((jy.cell r.we).mpr ((n,C,r),W)) ż λb c=>by simp_all
  λb h=>by have:=(S.pin j b h).2;simp_all (Ez r.we) λk q J I m e=>(S.Wl t x k q J I e).elim
 simp_all [de]
def SR.called{K}{f}{e}{a}{xs':!D}{b:!V}(S:SR K B Z G H d e)(i:j∈Z)(k:e[j]?=Y (Y<|.lst g))(h:d[j]?=Y (Y<|.ref a))(E:f_ G (Hj H a) c f)(o:c a=M)(n:f a=Y (.lst b))(r:bB K c xs' b):SR K B Z c f d<|e.set j<|Y<|.lst xs':=
 S.Vu i k h E o n (b,W,r)
def nF(F:!D->↑(D×!D))(j:Nat)(g:DL):DM:=λa=>(gM j a).bind λb=>(g a).bind λds=>(F<|.lst b::ds).map λq=>(q.1,a.set j<|Y<|.lst q.2)
def D_{F:!D->↑(D×!D)}{e}{g}(h:iC X.prog X.w X.K X.mg X.base x k<|CW X.K 0 F)(hr:dn k X.A)(hg:Gl X x)(hy:PE X (.Name y e)<|eS j)(ha:PA X l<|AO X.K Z g)(w:‹j∈Z›)(z:‹(x==("__debug__" : aM))=false›)(O:@&(ak (.Name y e::l) X.env=(Z_,eval (.Name y e) X.env)::ak l X.env))(u:@&((b9 m<|ak l X.env).any (·.1)=false)):PE X (.Call (.Name x p) (.Name y e::l) [] m)<|tM X.K B Z<|nF F j g:=by
 let(f,fd,ps,h1,hm,hk,hb):=h.ex;refine(pw h1 hr hg hm hk hb .nil ju (bZ hy ha O) z O u).imp ?_;rintro σ H Q ⟨G,n,d,U,S,b,q⟩;let(r,E,b):=ae.1 b;let(L,I,b):=ae.1 b;obtain⟨⟨d',o⟩,J,b⟩:=aj.1 b;cases b;let C:=dB E;let(a,vs,K,_):=S.lE w C;refine(_,K,G,n,L,S.gh,S.hI,I,λus G1 H1 s N =>?_);let R:=S.ext s;let(a',t,P,f3,f4,f5,f6):=R.lE w C;rw[K]at P;cases P;show CW X.K 0 F _ H1 Q E0;rw[bT];refine(G1,_,d',o,a,t,r,s.gh,W,W,f3,f4,f5,λi c hi ec =>?_,by simp[N.length],J,λv ws' G2 H2 T g2 h2 r2 r3 =>?_)
 .cases i with
  |zero=>solve_by_elim|succ i=>exact N.get (by trivial)
 .exact q v G2 H2 (R.called w C K T g2 h2 r2) (s.gg.trans T.gg) r3
end
section
variable {X:Cx}{m:!Nat}{f:DM}
noncomputable def k_(i:Nat)(f:DM):DG:=λa=>(f a).map λq =>.nx<|q.2.set i<|Y q.1
def D4{i:Nat}(w:X.N.Nodup)(p:X.N[i]?=Y x)(h:Loc X.env.scope x)(s:PE X e<|tM X.K B Z f)(n:‹i∉Z›)(j:@&(cm e (Y<|.Name x a) l.line X.env=c9 false))(q:autoParam (X.fn x=Z'\/X.env.scope.names.lookup x=Y .local) ŧ):
  PS X (.Assign [.Name x a] e l) (gO X.K B m Z Z<|k_ i f):=(jZ w p h s j q).imp <|by
 rintro D F H ⟨G,g,o,S,b,k⟩;obtain⟨⟨d,c⟩,z,b⟩:=aj.1 b;cases b;exact(G,g,d,c,S,z,λv E C A t r=>k _ E C<|A.uy n r)
noncomputable def fS(f:DM):DG:=λa=>(f a).map λq =>.rm q.1 q.2
def vf(h:PE X e<|tM X.K B Z f):PS X (.Return (Y e) l)<|gO X.K B m Z t<|fS f:=(mE h).imp <|by
 rintro D c H ⟨G,g,o,S,a,k⟩;obtain⟨⟨d,b⟩,i,a⟩:=aj.1 a;cases a;exact(G,g,d,b,S,i,λv p n j q r=>k v c p n (Z,j) r)
def OY(i:Nat):DG:=λa=>(gM i a).map λb =>.rm (.lst b) a
def Q5(h:PE X (.Name x p)<|eS i)(g:‹i∈Z›)(b:autoParam (∀a,(i,a)∉B.3) ť)(s:‹A9 i∉Z›)(e:‹i<1000000›):PS X (.Return (Y<|.Name x p) l)<|gO X.K B m Z t<|OY i:=(mE h).imp <|by
 rintro D r H ⟨G,F,o,S,d,k⟩;let(O,C,d):=aj.1 d;cases d;let(E,q):=S.freeze (Ź:=Z.filter (· != i)) (λj f=>(vA.mp f).1) i (λj f=>by by_cases c:j=i<;>simp_all) λz=>by simp_all g b s e
 let(v,A,w):=q.env i _ λz=>by simp_all (dB C)
 exact(v,A,k v r E H (_,q) w)
def JS(i:Nat)(f:DM):DG:=λa=>(gM i a).bind λ_=>(f a).bind λq=>(gM i q.2).bind λb=>if b.length<dZ then Y (.nx<|q.2.set i<|Y<|.lst<|b++[q.1]) else M
set_option tactic.hygienic true in
def Vh(h:PE X (.Name x p)<|eS i)(T:PE X e<|tM X.K B Z f)(F:‹i∈Z›)(q:@&(bJ (.Name x p) "append" X.env (eval (.Name x p) X.env)=eval (.Name x p) X.env)) (z:@&(((b9 b<|ak (e::[]) X.env).all (λx=> (not x.1))&&(ey b<|cD [] X.env).all (λx=>x.1.isSome)
   && decide ((e::[]).length+([]:!gJ).length+(if ([]:!gJ).isEmpty then 0 else 1)<30))=true)) (n:@&((g.endLine==b.line)=true)) (L:@&(ak (e::[]) X.env=(Z_,eval e X.env)::ak [] X.env)) (j:@&((b9 b<|ak [] X.env).any (·.1)=false)) (E:@&(cm (.Call (.Attribute (.Name x p) "append" g) [e] [] b) M l.line X.env=c9 false)) :
  PS X (.Expr (.Call (.Attribute (.Name x p) "append" g) [e] [] b) l) (gO X.K B m Z Z<|JS i f):=
 (lV (uI fX PySem.F.slot_list_append PySem.F.type_list_append jM h (bZ T dw L) q z n L j) E).imp <|by
  rintro D σ H ⟨G,A,o,S,c,k⟩;let(Vi,I,c):=ae.1 c;rw[ae]at c;obtain⟨⟨d,w⟩,J,c⟩:=c;rcases s:gM i w with _|ds
  .simp_all
  rw[s]at c;simp only[av]at c;split at c
  .cases c;rename_i R;let(a,Q,K,e3,_):=S.lE F<|dB I;refine(_,K,.inl (W,Q,.of e3),G,A,d,w,S,J,λv G' H' P s' r =>?_);let t:=dB s;refine ah λkk =>?_
   let(a',C,O,U,N,_):=P.lE F t;rw[K]at O;cases O;refine kk<|(a,C,v,W,W,U,?_,k _ G' _<|P.mut F t K<|N.append<|.cons r .nil);rw[<- N.length];exact bp R dY
  .cases c
def iRM(f:DM):VD:=λa=>(f a).bind λq=>match q.1 with|.int j=>if -(2 ^ 62)<=j/\j<2 ^ 62 then Y (iJ 0 j.toNat,q.2) else M|_=>M
set_option tactic.hygienic true
def I0(w:Gl X "range")(s:X.mg "range" = M)(h:PE X e<|tM X.K B Z f)(r:@&(ak [e] X.env=(Z_,eval e X.env)::ak [] X.env))(b:@&(ak [e] X.env=[(Z_,eval e X.env)])):PI X o (.Call (.Name "range" p) [e] [] l)<|tMI X.K B Z<|iRM f:=
 (BS w s (bZ h dw r) b).imp <|by
  rintro D H R ⟨G,n,F,i,S,a,k⟩;obtain⟨⟨d,g⟩,x,a⟩:=ae.1 a;cases d<;>simp only[av]at a<;>try (cases a)
  split at a
  .cases a;rename_i j c;exact(G,n,_,_,S,x,λv C A z E q=>(j,Ÿ,c.1,c.2,k _ C A z<|tH 0 _))
  .cases a
end
def BG{K:aS}{c:D}{T:!aD}(s:bD G H)(L:bD E H)(I:p∈Z)(J:x[p]?=Y c)(F:w[p]?=Y (.ref a))(r:jy K G H c a T)(P:T.Nodup)(X:∀b∈T,G b=M/\E b=M)(C:∀r q,c ≠ .dP r q)(O:∀(i:Nat) c,i≠p->x[i]?=Y c->∃v,w[i]?=Y v/\cM K G c v)(R:x.length=w.length)(Q:∀i∈Z,i=p\/x.length<=i):SR K (G,E,[(p,a)],fl) Z G H (start N w)<|fQ N.length x:=by
 have f:∀(i:Nat) v,w[i]?=Y v->(start N w)[i]?=Y (Y v):=λi v e=>by let g:i<w.length:=(aq.mp e).1;unfold start;rw[cw (by simpa using g),aY,e];exact Ÿ
 have n:∀i∈Z,(∃d,(fQ N.length x)[i]?=Y (Y d))->i=p:=λi g (d,e)=>by have:=(aq.mp<|jK e).1;obtain z|z:=Q i g<;>lia
 refine(s,bD.refl _,L,λb o e =>.inl e,λi d g e =>?_,(λ_=>T,λi d g e =>?_,λi d g e=>(P,X),λi j d c g S ei ej B=>absurd ((n i g (d,ei)).trans (n j S (c,ej)).symm) B),by simp[start,fQ,R],λi b h =>?_,λj k q U h2 e =>?_)
 .let(v,ev,l):=O i d (λz=>g<|z ▸ I)<|jK e;exact(v,f i v ev,l)
 .have z:=n i g (d,e);subst z;let A:=jK e;rw[J]at A;cases A;exact(a,f _ _ F,r)
 .have z:Prod.mk i b=⟨p,a⟩:=by simpa using h
  cases z;exact(I,f _ _ F)
 .have z:=n j U (_,e);subst z;let A:=jK e
  grind
def BH{K:aS}(s:bD G H)(j:p∈Z)(q:d[p]?=Y c)(h:e[p]?=Y (.ref a))(w:H a=Y o)(r:iY K G c o)(x:G a=M)(g:∀(i:Nat) c,i≠p->d[i]?=Y c->∃v,e[i]?=Y v/\cM K G c v)(n:d.length=e.length)(k:∀i∈Z,i=p\/d.length<=i):SR K (G,Hj H a,[(p,a)],z) Z G H (start N e)<|fQ N.length d:=
 BG s K6 j q h ((jy.cell r.we).mpr ((o,w,r),W)) ż λb f=>by simp_all [z9] (Ez r.we) g n k
def Ma{K:aS}{f:!D}(s:bD G H)(j:p∈Z)(o:b[p]?=Y (.lst f))(h:e[p]?=Y (.ref a))(q:H a=Y (.lst d))(r:bB K G f d)(w:G a=M)(g:∀(i:Nat) c,i≠p->b[i]?=Y c->∃v,e[i]?=Y v/\cM K G c v)(n:b.length=e.length)(k:∀i∈Z,i=p\/b.length<=i):SR K (G,Hj H a,[(p,a)],x) Z G H (start N e)<|fQ N.length b:=
 BH s j o h q (d,W,r) w g n k
section
variable {P:bj}{K:aS}
set_option tactic.hygienic true
def gx.r4{st:cS}{f:aD}(F:gx K x I st f fd){p:Nat}(N:!aM)(Z Ź:!Nat){g:DG}(S:fo N ps<|bu st) (hb:N.Nodup->∀(L:au) (A:fJ) (j:!Env) (s:az) (H:Hp) (E:XK),dn k (A.deeper<|mj I (bu st) s.heap.objs.size f L)->∀(B:Bs) (a:aD),B.3=[(p,a)] ->
   mh (pJ gk P w K u y N I (bu st) f L A j s H E).Ig (fm st) (gO K B [] Z Ź g)) (hp:‹p∈Z›) (Y_:‹∀i∈Z,i=p\/ps.length<=i›):b_ P w K u y gk (k+1) f fd ps<|CW K p<|Fy ps.length N.length p g:=by
 refine F.ok S (λvs H Q E h =>?_) λL A j s H vs Q E hr h =>?_
 .let(G,ds,d,R,a,ws,X,gh,hd,hv,ha,r,ga,ro,hl,e,_):=h;unfold Fy at e;split at e<;>simp_all
 .let(G,ds,d,R,a,ws,X,gh,hd,hv,ha,r,ga,ro,hl,e,q):=h;unfold Fy at e;split at e
  .rename_i hn;refine(_,hb S.nd L A j s H E hr (G,Hj H a,_,λl l=>False) a W,?_);let(o,eg,e):=ae.1 e;have ku:∀ {σ:St}{C:cf}{O T:Hp}{o':!Nat}{U:!D},SR K (G,Hj H a,[(p,a)],λl l=>False) o' O T σ C->gM p C=Y U->∃z,T a=Y _/\bB K O U z/\O a=none:=fun {σ C O T o' U} c J=>by
    refine ah λkk =>?_
    let(UG,hσ):=c.pin p a Ÿ;let(b,vs',f2,f3,f4,f5,_):=c.lE UG<|dB J;rw[hσ]at f2;cases f2;exact kk<|(vs',f3,f4,f5)
   refine(G,_,o,Ma gh hp hd hv ha r ga ro hl (by rw[hn];exact Y_),eg,?_);cases o with
   |rm d' C=>let(U,J,e):=aj.1 e;cases e;intro v σ O T (o',c) rv;let(z,f3,f4,f5):=ku c J;exact q v z O T c.kz f5 f3 f4 rv
   |nx C=>let(U,J,e):=aj.1 e;cases e;intro σ O T c;let(z,f3,f4,f5):=ku c J;exact q _ z O T c.kz f5 f3 f4<|fc.mpr W
   |_=>cases e
  .cases e
end
def Wu(n:cf)(w:AU)(u:DM)(i0:Nat):!D->!D->↑(!D×!D)
 |[],c=>Y ([],c)|d::e,c=>(w d<|n.set i0<|Y<|.lst c).bind λa=>(u a).bind λp=>(gM i0 p.2).bind λb=>(Wu n w u i0 e b).map λq=>(p.1::q.1,q.2)
def Wo(f:DL)(src:!(↑Nat))(w:AU)(u:DM)(i0 j0:Nat):DM:=λn=>(f n).bind λa=>if a.length<=dZ then (gM j0 n).bind λb=>(Wu (mC src n) w u i0 a b).map λq=>(.lst q.1,n.set j0<|Y<|.lst q.2) else M
def Xv(K:aS)(i0:Nat)(u:DM):TE:=λt H Q=>∃B a,B.3=[(i0,a)]/\tM K B [i0] u t H Q
def Zx{X}(h:∀(B:Bs) (a:aD),B.3=[(i0,a)]->PE X e (tM X.K B [i0] u)):PE X e<|Xv X.K i0 u:=by rintro b s t H Q I ⟨B,a,c,q⟩;exact Ÿ
theorem rj:∀ {l:!a}{i:Nat}{x:a},l[i]?=Y x->l.set i x=l
 |[],i,x,h=>by simp at h
 |y::l,0,x,h=>by simp_all
 |y::l,i+1,x,h=>by simp at h;simp[rj h]
section
variable {K:aS}
def Fp{i:Nat}(e:(mC src n)[i]?=Y (Y d)):∃j,src[i]?=Y (Y j)/\n[j]?=Y (Y d):=by
 unfold mC at e;rw[aY]at e;let(o,a,e):=aj.1 e;rw[a];cases o with
 |none=>cases e|some j=>
  let e:=by simpa using e
  refine(j,W,?_);rcases q:n[j]? with _|z<;>simp_all
def oB{i:Nat}{v}(b:src[i]?=Y (Y j))(a:t[j]?=Y (Y v)):(mB src t)[i]?=Y (Y v):=by
 simp_all [mB,aY]
def SR.inner{fl:aM->Int->Prop}{i0:Nat}(S:SR K B Z G H t<|n.set j0<|Y<|.lst q)(y:ig Z [i0] src=Z')(x:src[i0]?=Y (Y j0))(k:∃d,n[j0]?=Y d)(s:t[j0]?=Y (Y<|.ref a)):
  SR K (G,Hj H a,[(i0,a)],fl) [i0] G H (mB src t) ((mC src n).set i0<|Y<|.lst q):=by
 let l:=(jE y x).mp Ÿ;refine ah λkk =>?_
 let(d0,k):=k;let P:(n.set j0<|Y<|D.lst q)[j0]?=Y (Y<|.lst q):=by rw[bG<|(aq.mp k).1]
 let(b,J,I,e3,e4,_):=S.lE l P;rw[s]at I;cases I;refine kk<|(S.gh,bD.refl _,K6,λb o e =>.inl e,λi d g e =>?_,(λu=>[a],λi d g e =>?_,λi d g e=>(ż,λb C =>?_),λi j d c g m u u f =>?_),by simp[mB,mC],λi b h =>?_,λj r p R Q e =>?_)
 .obtain⟨omega,_⟩|⟨f,e⟩:=fR e
  .simp_all
  .let(j,F,ej):=Fp e;let m:j∉Z:=λz=>g ((jE y F).mpr z)
   have:j0≠j:=λz=>m<|z ▸ l
   let(v,f1,X):=S.env j d m Ż;exact(v,oB F f1,X)
 .let z:i=i0:=by simpa using g
  subst z;obtain⟨_,rfl,_⟩|_:=fR e
  .exact(a,oB x s,(_,e3,J,W,e4),W)
  simp_all
 .simp_all [z9]
 .simp_all
 .simp_all [oB]
 simp_all
end
section
variable {X:Cx}{f:DL}
inductive LcI {α:Type}(K:aS) (B:Bs) (Z:!Nat) (t:St) (e:α->cf) (F:Nat->α->↑(!D×α)) (G:Hp) (z:α) (r:!D) (i:Nat) (y:!V) (H:Hp):Prop
 |mk g l x o:y.length<=i->SR K B Z g H t (e x)->bD G g->bB K g l y->F i x=some (o,z)->l++o=r->LcI K B Z t e F G z r i y H
set_option tactic.hygienic true in
def Qe{K:aS}(ho:ig Z [i0] src=Z')(h0:src[i0]?=Y (Y j0))(hg:∀(B:Bs) v t H Q,Hd K B [i0] w v t H Q->g v t H Q)(q:tM K B Z (Wo f src w u i0 j0) t H Q):
  V5 (BE K Z f) src g (qg K [i0] gu) (Xv K i0 u) t H Q:=by
 let(G,n,d,ρ',S,h,k):=q;let hj0:j0∈Z:=(jE ho h0).mp Ÿ;unfold Wo at h;let(j,ef,h):=ae.1 h;split at h
 .rename_i hz;let(xs0,el,h):=ae.1 h;obtain⟨⟨rs,xsF⟩,em,h⟩:=aj.1 h;cases h;let F:=dB el;let(a,vs0,e2,_):=S.lE hj0 F;refine(G,n,j,S.gh,S.hI,ef,λJ G1 H1 E1 ok =>?_);let S1:=S.ext E1;rw[<- rj F]at S1;refine(λi m ys H2=>m=j.length-i/\i<=j.length/\LcI K B Z t (λb=>n.set j0<|Y<|.lst b) (λi=>Wu (mC src n) w u i0<|j.drop i) G1 xsF rs i ys H2,
   (j.length,W,dr _,G1,[],xs0,rs,aV _,S1,bD.refl _,.nil,em,W),?_)
  rintro i m ys H2 ⟨rfl,hil,G2,l,xs,o,hyl,S2,s2,rx,c,rfl⟩;let sub:bD G1 H2:=s2.trans S2.gh;by_cases C:i<j.length
  .refine .inr (ok.go i H2 sub C,?_,_,
    λr H' z=>(j.length-(i+1),ŷ,W,C,z),λx H3 y =>?_)
   .have:=dY
    lia
   .refine ah λkk =>?_
    let(G3,E3,Z7):=ok.Jx i H2 x H3 G2 j[i] s2 S2.gh y<|aE C;let S3:=S2.ext E3;rw[cU C]at c;unfold Wu at c;let(s,et,c):=ae.1 c;obtain⟨⟨x4,ρ5⟩,ee,c⟩:=ae.1 c;let(N,X,c):=ae.1 c;obtain⟨⟨P,xsE⟩,R,c⟩:=aj.1 c;cases c;let SI:=S3.inner (fl:=λr r=>False) ho h0 (_,F) e2;refine kk<|hg _ _ _ _ _ (G3,_,j[i],s,SI,Z7,et,λσ4 G4 H4 S4=>(G4,s,Z',S4.gh,S4.hI,W,λG5 H5 E5=>qm ?_));refine(_,a,W,G5,s,x4,ρ5,S4.ext E5,ee,λv G6 H6 S6 s6 r6=>(G6,l++[x4],N,P,by simp;omega,?_,?_,?_,R,ż))
    .let(UG,hσ):=S6.pin i0 a Ÿ;let(b,ws,f2,f3,f4,f5,_):=S6.lE UG<|dB X;rw[hσ]at f2;cases f2;let hl:j0<n.length:=(aq.mp F).1;have:=S3.called (xs':=N) hj0 (by rw[bG hl]) e2 S6.kz f5 f3 f4;rw[ke]at this;exact this
    .exact s2.trans<|E3.gg.trans S6.g0
    .exact(bB.mono (E3.gg.trans S6.g0) l rx).append<|.cons r6 .nil
  .let e:i=j.length:=by lia
   subst e;rw[ni]at c;unfold Wu at c;refine ah λkk =>?_
   cases c;refine kk<|.inl (ok.stop _ H2 sub<|aV _,λp hp =>?_);have EA:=f_.alloc (p:=p) (o :=.lst ys) S2.gh hp;refine k _ _ _ (S2.ext EA) (E1.gg.trans<|s2.trans EA.gg) ?_;rw[bT];exact cH.mpr (p,ys,W,aP,bB.mono EA.gg l rx)
 .cases h
def acI(S:d6 X N src A)(j:X.calm=Z')(e:PI X E L<|BE X.K Z f)(m:NM T g)(a:∀i∈T,src[i]?=Y M)(h:∀(B:Bs) v t H Q,Hd X.K B [i0] w v t H Q->g v t H Q)(k:∀C s H b,PG (X.qr N A C s H b) E g/\Hh (X.qr N A C s H b) [] (qg X.K [i0] gu)/\PE (X.qr N A C s H b) O (Xv X.K i0 u))(l:@&(src[i0]?=Y (Y j0)))(d:‹ig Z [i0] src=true›)(c:autoParam (∀x,bW L X.env x=c9 x) ũ):PE X (.ListComp O [(E,L,[],0)] A U)<|tM X.K B Z<|Wo f src w u i0 j0:=
 (FO S j e m a k c).imp λt H Q q=>Qe d l h q
def Ng{m:Pos}(S:d6 X N src A)(K:X.calm=Z')(P:X.N.Nodup)(q:X.N[i]?=Y y)(F:X.env.scope.names.lookup y=Y .local)(I:PI X E L<|BE X.K Z f)(ag:NM T g)(h:∀i∈T,src[i]?=Y M)(J:∀(B:Bs) v t H Q,Hd X.K B [i0] w v t H Q->g v t H Q)(Da:∀C s H l,PG (X.qr N A C s H l) E g/\Hh (X.qr N A C s H l) [] (qg X.K [i0] gu)/\PE (X.qr N A C s H l) O (Xv X.K i0 u))(R:@&(src[i0]?=Y (Y j0)))(D:‹ig Z [i0] src=true›)(j:‹i∉Z›)(e:@&(cm (.ListComp O [(E,L,[],0)] A U) (Y<|.Name y m) a.line X.env=c9 true))(z:autoParam (∀x,bW L X.env x=c9 x) ũ):PS X (.Assign [.Name y m] (.ListComp O [(E,L,[],0)] A U) a)<|gO X.K B p Z Z<|k_ i<|Wo f src w u i0 j0:=
 (zd S K P q F I ag h Da e z).imp λD' t H (G,n,o,S,b,k)=>Qe D R J (by unfold k_ at b;obtain⟨⟨d,c⟩,ef,b⟩:=aj.1 b;cases b;exact(G,n,d,c,S,ef,λv G' H' S' V r=>k _ G' H'<|S'.uy j r))
def mJ(K)(i i0)(b:‹i∉[i0]›):∀B v t H Q,Hd K B [i0] (gN i) v t H Q->g_ i v t H Q:=λB v t H Q (G,n,d,a,S,r,c,k)=>by
 cases c;exact k _ G H<|S.uy b r
end
section
variable {X:Cx}
noncomputable def cz(c f:aM)(g:DF):DF:=λa=>(g a).bind λd=>match d with|.ins h b e=>if h=c then (b.zip e).lookup f else M|_=>M
theorem KZ{K}{f}:∀ {b:!aM}{g:!D}{a:!V}{d:D},bB K G g a->(b.zip g).lookup f=Y d->∃v,(b.zip a).lookup f=Y v/\cM K G d v
 |[],g,a,d,r,e=>by simp at e
 |k::b,[],a,d,r,e=>by simp at e
 | k::b,c::g,a,d,r,e=>by
  let(v,t,rfl,i,l):=bt.mp r;simp only[d7,fO]at e ⊢;cases h:f==k with
  |true=>simp_all|false=>rw[h]at e;exact KZ l e
noncomputable def vOf:D->V
 |.bl b =>.bl b|.int i =>.int i|.str x =>.str x|_ =>.cT
theorem JB{K}{v}(h:BN d=Z')(r:cM K G d v):v=vOf d/\qc v=true:=by
 cases d<;>first|(simp[BN]at h;done)|(subst r;exact Ÿ)
theorem EZ{K:aS}:∀ {b:!D}{a:!V},b.all BN=Z'->bB K G b a->a=b.map vOf/\a.all qc=Z'
 |[],a,h,r=>by rw[cF.mp r];trivial
 | d::b,a,h,r=>by
  rw[nK,bh]at h;let(v,t,rfl,c,e):=bt.mp r;let(k,g):=JB h.1 c;let(i,f):=EZ h.2 e
  grind
def inD(b:Bool)(x:D)(a:!D):↑D:=if (BN x&&a.all BN)=Z' then Y (.bl<|if b then (not<|inV (vOf x) (a.map vOf)) else inV (vOf x) (a.map vOf)) else M
def T9(a:Bool):D->D->↑D
 |x,.lst b=>inD a x b|x,.tup b=>inD a x b|_,_=>M
set_option tactic.hygienic true in
def adq{K}(h:rD K (T9 c) x y H Q):rIn K c x y H Q:=by
 let(G,t,C,d,k,w,u,l,q):=h;have ku:∀(m:!D) (b:!V),inD c t m=Y d->bB K G m b->qc x=Z'/\b.all qc=Z'/\d=.bl (if c then (not<|inV x b) else inV x b):=λm b e r=>by
  unfold inD at e;split at e
  .rename_i i;let v:cM K G t x:=by
    obtain z|⟨a,o,_,_,z⟩:=w
    .exact z
    .cases t<;>first|exact z.elim|simp_all [BN]
   grind [JB,EZ]
  .cases e
 unfold T9 at l;split at l<;>try (cases l)
 .let(p,b,rfl,s,n):=u.lst k;let(g,f,rfl):=ku _ _ l n;exact(p,b,W,.inl<|.of s,g,f,q _ G H (.refl k)<|cY.mpr W)
 .let(p,b,rfl,s,n):=u.tup k;let(g,f,rfl):=ku _ _ l n;exact(p,b,W,.inr<|.of s,g,f,q _ G H (.refl k)<|cY.mpr W)
def agV:AS X (d_ .In)<|T9 Z_:=m_.imp MC λx y H Q h=>adq h
noncomputable def Uy:D->Bool
 |.bl _=>Z'|_=>Z_
noncomputable def xZ:D->Bool
 |.bl b=>b|_=>Z_
def iR(b:Bool):!D->↑D
 |[.lst a]=>if a.all Uy=Z' then Y (.bl<|if b then a.all xZ else a.any xZ) else M
 |_=>M
def ZQ{K}{f}(h:a.all Uy=Z')(r:bB K G a l)(m:cx l f){i:Nat}{u:au}(e:f[i]?=Y u):∃b,u=.bool b/\(a[i]?).map xZ=Y b:=by
 have d:i<a.length:=by rw[r.length,m.length];exact((aq.mp e).1)
 let k:=aE d;let(v,s,c):=r.get k;let(w,p,g):=m.get s;rw[e]at p;cases p;have o:=eB.mp h _<|Hc d;cases n:a[i] with
 |bl b=>rw[n]at c k;have:=cY.mp c;subst this;exact(b,g,by rw[k];solve_by_elim)
 |_=>rw[n]at o;cases o
def NQ{ys:!D}{tr}(h:∀i,i<ys.length->(ys[i]?).map xZ=Y (tr i)):(cg ys.length).all tr=ys.all xZ/\(cg ys.length).any tr=ys.any xZ:=by
 have:(cg ys.length).map tr=ys.map xZ:=by apply rR;intro i;by_cases a:i<ys.length<;>simp_all
 constructor
 .simpa [vw] using congrArg (λl=>l.all id) this
 .simpa [List.any_map] using congrArg (λl=>l.any id) this
set_option tactic.hygienic true in
def Cp(l:X.calm=Z')(h:Bool):kF X (.builtin<|if h then "all" else "any")<|rC X.K<|iR h:=by
 intro A s P H xs us Q I R (G,ds,d,O,r,t,q);unfold iR at t;split at t
 .rename_i m;split at t
  .cases t;rename_i hb;let(v,rfl,T):=r.one;let(a,vs,rfl,U,L):=T.lst O;let(u,rfl,S):=cx.one R;cases S;let(g,y,J,hz):=I.list<|.of U;let(o,j,hc,n0,hd):=J.isList;have D:a≠s.heap.objs.size:=bI<|aO j;have k:g.toArray.size=m.length:=by simp[L.length,y.length]
   obtain⟨w,ew⟩:∃w:Nat->Bool,∀i,w i=((m[i]?).map xZ).getD false:=(_,λ_=>rfl);have C:TruthOf X.prog X.w X.A.in1 (λi v=>g.toArray[i]?=Y v) w:=λi v s Q E hP N=>by
    let(b,rfl,K):=ZQ hb L y (i:=i) (u:=v) (by simpa using hP);have:w i=b:=by rw[ew,K];simp
    rw[this]at N;exact gI N
   have f:=NQ (ys:=m) (tr:=w) λi hi=>by rw[ew,aE hi];exact Ÿ
   have ku:∀(b:Bool) (p:cG) (n:Nat),(∀c F,c∉[s.heap.objs.size]->(s.heap.push { cls :=.type "list_iterator",data :=.fields #[.ref a,.int 0 0] }).get? c=Y F->p.get? c=Y F)->b=(if h then m.all xZ else m.any xZ) ->
     EP X A P Q (.bool b) { s with heap:=p,toks:=n }:=λb p n B K=>
    (.bl b,H,I.kept (t':=n) λc F e=>B c F (λz=>by
     have z:c=s.heap.objs.size:=by simpa using z
     exact absurd (aO e)<|by rw[z];exact iF _) (ao _ e),W,by
     rw[K];exact q _ G H (.refl O)<|cY.mpr W)
   have x:(s.heap.push { cls :=.type "list_iterator",data :=.fields #[.ref a,.int 0 0] }).IsListIter s.heap.objs.size a 0/\(s.heap.push { cls :=.type "list_iterator",data :=.fields #[.ref a,.int 0 0] }).IsList a g.toArray:=
    ((_,bo _ W,W,W),(o,ao _ j,hc,n0,hd))
   cases h with
   |true=>refine call_all_walk<|kh J.isList (s.heap.objs.size,_,_,_,_,_,w,W,Walks.list (A:=X.A.in1) (I.ok.hd l) _ a D g.toArray,x,C,λp n B =>?_);rw[k,f.1];exact ku _ p n B W
   |false=>refine call_any_walk<|kh J.isList (s.heap.objs.size,_,_,_,_,_,w,W,Walks.list (A:=X.A.in1) (I.ok.hd l) _ a D g.toArray,x,C,λp n B =>?_);rw[k,f.2];exact ku _ p n B W
  .cases t
 .cases t
variable {f:DF}
def Ja(a:X.calm=Z')(d:Gl X "all")(c:X.mg "all" = M)(h:PE X e<|tQ X.K Z f)(b:@&(ak (e::[]) X.env=(Z_,eval e X.env)::ak [] X.env)):PE X (.Call (.Name "all" p) [e] [] j)<|tP X.K Z<|bF (iR Z')<|aC f aN:=
 Am (Cp a _) d c PyProof.Rows.boot_all (Ak h D7 b) ſ ſ b W
def Rp(a:X.calm=Z')(d:Gl X "any")(c:X.mg "any" = M)(h:PE X e<|tQ X.K Z f)(b:@&(ak (e::[]) X.env=(Z_,eval e X.env)::ak [] X.env)):PE X (.Call (.Name "any" p) [e] [] j)<|tP X.K Z<|bF (iR Z_)<|aC f aN:=
 Am (Cp a _) d c PyProof.Rows.boot_any (Ak h D7 b) ſ ſ b W
end
section
variable {X:Cx}{f:DF}
end
section
variable {X:Cx}{m:!Nat}{f:DF}
end
def Vx{X:Cx}{g:!aM}{s:az}(k:b.kind=.function)(h:vj a g N d b=Z'):d6 (X.qr g a C s H t) N d b:=by
 unfold vj at h;simp only[bh,eB,beq_iff_eq,vC]at h;obtain⟨⟨⟨r,q⟩,p⟩,o⟩:=h;refine(k,λy e=>r y e,λy e m =>?_,p,λi j x f n =>?_)
 .show (relabel a X.env).names.lookup y.1=Y .cell\/(relabel a X.env).names.lookup y.1=Y .free;unfold relabel;rw[mG];obtain z|z:=q y e<;>grind
 .let l:=(aq.mp f).1;have:=o i Ż;rw[f,n]at this;simp at this;exact this
section
variable {X:Cx}{f:DF}
theorem BC:∀ {b:!aM}{a:!au},cx (b.map V.str) a->∃l:!(aM×Tok),a=strValues l/\l.map (·.1)=b
 |[],a,r=>by cases r;exact([],W,W)
 | x::b,a,r=>by
  cases r with
  |cons r t=>let(k,rfl):=r;let(l,rfl,e):=BC t;exact((x,k)::l,W,by simp[e])
def tG(b:aM)(d:!aM):Nat:=d.foldl (λa x=>a+x.length+b.length) 0
def adn(K:aS):V->!V->Hp->VK->Prop:=λx d H Q=>∃a p b,x=.str a/\d=[.ref p]/\lZ K H p (b.map V.str)/\tG a b<=dZ/\(i6 a b).length<=dZ/\Q (.str<|i6 a b) H
set_option tactic.hygienic true in
def T_:MtR X "str.join"<|adn X.K:=by
 intro i s D H x E v F Q I k m (a,p,j,B,C,z,J,A,q);subst B C;let(t,rfl):=k;let(u,rfl,n):=cx.one m;cases n;let(y,r,w,G):=I.list z;let(l,rfl,f):=BC r;have d:Builtin.Str.tooLong ((l.map (·.1)).toArray.foldl (· + ·.length+a.length) 0)=false:=by
  have:((l.map (·.1)).toArray.foldl (· + ·.length+a.length) 0)=tG a j:=by rw[f];simp[tG]
  rw[this];unfold Builtin.Str.tooLong;have:=dY;simp;omega
 refine AK PySem.F.slot_str_join (typeIs_str _ _ _) PySem.F.entry_str_join (PySem.F.args_str_join_2 _ _) (meets_str_join_list a t p l d) (w.isList,?_);let g:=bM A dY;unfold joinMade;split
 .rename_i h;rw[<- f]at q;exact(.str h.1,H,I,(h.2,W),q)
 .refine(by rw[f];exact g,.str<|i6 a j,H,I.kept (t':=s.toks+1) λb o e=>e,(s.toks,by rw[f]),q)
def DI:D->Bool
 |.str _=>Z'|_=>Z_
def xB:D->aM
 |.str x=>x|_=>Str.empty
def BW:D->D->↑D
 |.str a,.lst b=>if (b.all DI&&decide (tG a (b.map xB)<=dZ)&&decide ((i6 a<|b.map xB).length<=dZ))=Z' then Y (.str<|i6 a<|b.map xB) else M
 |_,_=>M
theorem BP{K:aS}:∀ {b:!D}{a:!V},b.all DI=Z'->bB K G b a->a=(b.map xB).map V.str
 |[],a,h,r=>cF.mp r|d::b,a,h,r=>by rw[nK,bh]at h;let(v,t,rfl,e,f):=bt.mp r;rw[BP h.2 f];cases d<;>first|(simp[DI]at h;done)|(rw[eL.mp e];rfl)
set_option tactic.hygienic true
def Vl(E:PE X o<|tQ X.K Z f)(F:PE X e<|tQ X.K Z g)(l:@&(bJ o "join" X.env (eval o X.env)=eval o X.env)) (n:@&(((b9 b<|ak (e::[]) X.env).all (λx=> (not x.1))&&(ey b<|cD [] X.env).all (λx=>x.1.isSome)
   && decide ((e::[]).length+([]:!gJ).length+(if ([]:!gJ).isEmpty then 0 else 1)<30))=true)) (j:@&((i.endLine==b.line)=true)) (w:@&(ak (e::[]) X.env=(Z_,eval e X.env)::ak [] X.env)) (h:@&((b9 b<|ak [] X.env).any (·.1)=false)) :
  PE X (.Call (.Attribute o "join" i) [e] [] b) (tP X.K Z<|e2 BW f g):=
 (uI PySem.F.plainAttrs_str PySem.F.slot_str_join PySem.F.type_str_join T_ E (bZ F dw w) l n j w h).imp <|by
  rintro P H Q ⟨G,t,d,I,p,L,k⟩;let(x,y,K,J,m):=ve L;refine(G,t,x,I,p,K,λv O T s C =>?_);unfold BW at m;split at m
  .split at m
   .cases m;rename_i r S q;simp only[bh,decide_eq_true_eq]at q;have:=C.str;subst this;refine(W,O,t,_,s.gh,p.ext s,J,λu N c z B =>?_);let(a,R,rfl,D,A):=B.lst z.gh;let e:=BP q.1.1 A;subst e;exact(r,a,_,W,W,.of D,q.1.2,q.2,k _ N c (s.trans z)<|eL.mpr W)
   .cases m
  .cases m
end
noncomputable def WH(i j l:Nat):AU:=λd e=>match d with|.tup [a,b,c]=>Y (((e.set i<|Y a).set j<|Y b).set l<|Y c)|_=>M
def Gr{f:cf}(h:WH i j l d f=Y e):∃a b c,d=.tup [a,b,c]/\e=((f.set i<|Y a).set j<|Y b).set l (Y c):=by
 unfold WH at h;split at h<;>lia
def BQ{K:aS}{v:V}(r:cM K G (.tup [a,b,c]) v):∃p x y z,v=.ref p/\G p=Y (.tup [x,y,z])/\cM K G a x/\cM K G b y/\cM K G c z:=by
 refine ah λkk =>?_
 let(p,j,e,g,i):=dA.mp r;let(x,n,rfl,h,t):=bt.mp i;let(y,l,rfl,f,t):=bt.mp t;let(z,k,rfl,d,t):=bt.mp t;rw[cF.mp t]at g;exact kk<|(p,x,y,z,e,g,h,f,d)
section
variable {X:Cx}{m:!Nat}
def acK{i:Nat}(h:PG X e<|DW X.K 3<|jP (g_ i)<|jP (g_ j)<|jP (g_ l) DY)(u:‹i∉Z›)(t:‹j∉Z›)(s:‹l∉Z›):PG X e<|Hd X.K B Z<|WH i j l:=h.imp <|by
 rintro v A H Q ⟨G,C,d,f,S,r,w,k⟩;let(a,b,c,rfl,rfl):=Gr w;let(p,x,y,z,rfl,g,q,o,n):=BQ r;exact(p,_,W,.of<|S.gh _ _ g,W,x,_,W,y,_,W,z,_,W,W,k _ G H<|((S.uy u q).uy t o).uy s n)
def MW{K:aS}(i j l:Nat)(w:‹i∉Z›)(u:‹j∉Z›)(t:‹l∉Z›):∀v e H Q,V3 K Z (WH i j l) v e H Q->DW K 3 (jP (g_ i)<|jP (g_ j)<|jP (g_ l) DY) v e H Q:=λv e H Q (G,B,d,n,h,f,r,A,k)=>by
 let(a,b,c,rfl,rfl):=Gr A;let(p,x,y,z,rfl,g,s,q,o):=BQ r;exact(p,_,W,.of<|h _ _ g,W,x,_,W,y,_,W,z,_,W,W,k _ G H (.refl h)<|((f.set w s).set u q).set t o)
def RH(K:aS)(i j l:Nat):NM [i,j,l]<|DW K 3<|jP (g_ i)<|jP (g_ j)<|jP (g_ l) DY:=by
 rintro x p H Q ⟨a,s,rfl,f,g,v,r,rfl,d,u,rfl,c,t,rfl,rfl,q⟩;refine(a,_,W,f,g,v,_,W,d,_,W,c,_,W,W,(ż,λk b =>?_),q);let o:i≠k:=λe=>b ŷ
 let n:j≠k:=λe=>b (by simp[e])
 let h:l≠k:=λe=>b (by simp[e])
 rw[aw h,aw n,aw o]
end
end L2
namespace L2
open PySem PyProof.Rows PySem.Spec
section
variable {s:az}
end
end L2
namespace L2
open PySem PySem.Spec PyProof.Rows
noncomputable def He(c:!Int):!Int:=c.mergeSort<|λa b=>decide (a<=b)
def qJ(a:!Int):(He a).Perm a:=List.mergeSort_perm a _
def HJ(ns:!Int):(He ns).Pairwise (· <= ·):=by
 exact(List.pairwise_mergeSort (le:=λa b=>decide (a<=b)) λa b c h1 h2=>by lia λa b=>by simp;lia ns).imp λh=>by simpa using h
def XG(p:a.Perm b)(h:a.Pairwise (· <= ·)):a=He b:=PySem.W.ksm_same (p.trans (qJ b).symm) h<|HJ b
theorem uV:∀ {b:!Int}{a:!au},cx (b.map V.int) a->Hu a b
 |[],a,h=>by cases h;exact .nil
 | n::r,a,h=>by
  cases h with
  |cons d c=>let(t,rfl):=d;exact .cons n t<|uV c
def CI(h:Hu a b):cx (b.map V.int) a:=by
 induction h with|nil=>exact .nil|cons n t _ ih=>solve_by_elim
section
variable {X:Cx}{f:DF}
noncomputable def B_:!D->↑(!Int)
 |[]=>Y []|.int i::r=>(B_ r).map (i :: ·)|_::_=>M
theorem zN:∀ {b:!D}{a:!Int},B_ b=Y a->b=a.map D.int
 |[],a,h=>by cases h;exact Ÿ
 | d::r,a,h=>by
  cases d<;>simp only[B_]at h<;>try (cases h)
  let(c,e,h):=aj.1 h;cases h;rw[zN e];exact Ÿ
theorem vR{K}:∀ {b:!Int}{a:!V},bB K G (b.map D.int) a↔a=b.map V.int
 |[],a=>by trivial
 | n::r,a=>by
  simp;constructor
  .rintro⟨v,t,rfl,rfl,h⟩;rw[vR.mp h]
  .rintro rfl;exact(_,_,W,W,vR.mpr W)
end
section
variable {X:Cx}{m:!Nat}
end
end L2
namespace L2
open PySem
section
variable {X:Cx}
def vP(i:Nat)(f:@&(X.N[i]?=Y x))(c:autoParam (WV X.env.scope x) Ű)(e:‹(x==("__debug__" : aM))=false›)(b:‹(x==("__classdict__" : aM))=false›)(d:‹i∉Z›):PE X (.Name x a)<|tP X.K Z<|eV i:=dv (pv i f c e b) d
def vQ(i:Nat)(f:@&(X.N[i]?=Y x))(c:autoParam (WV X.env.scope x) Ű)(e:‹(x==("__debug__" : aM))=false›)(b:‹(x==("__classdict__" : aM))=false›)(d:‹i∉Z›):PE X (.Name x a)<|tQ X.K Z<|eV i:=dq<|vP i f c e b d
end
end L2
namespace L2
open PySem PySem.Spec PyProof.Rows
section
variable [DecidableEq G]
noncomputable def qz(kvs:!(G×V))(k:G):↑V:=(kvs.find? λa=>decide (a.1=k)).map (·.2)
noncomputable def kP(kvs:!(G×V))(k:G)(v:V):!(G×V):=
 if (kvs.any λa=>decide (a.1=k))=Z' then kvs.map (λa=>if a.1=k then (a.1,v) else a) else kvs++[(k,v)]
def ud{p:G×V}(e:p.1=k):qz (p::r) k=Y p.2:=by simp[qz,jq,e]
def k6{p:G×V}(e:¬p.1=k):qz (p::r) k=qz r k:=by simp[qz,jq,e]
theorem yJ(k:G):∀kvs:!(G×V),(kvs.any λa=>decide (a.1=k))=(qz kvs k).isSome
 |[]=>rfl| p::r=>by
  rw[R7];by_cases e:p.1=k
  .simp_all [ud,decide_eq_true,Bool.true_or,Option.isSome_some]
  .rw[k6 e,decide_eq_false e];exact yJ k r
theorem qU(kvs:!(G×V))(k:G)(v:V):(kP kvs k v).length<=kvs.length+1:=by
 grind [kP,aF,bf,bK,kZ]
def zc{kvs:!(G×V)}(v:V)(h:qz kvs k=M):kP kvs k v=kvs++[(k,v)]:=by
 unfold kP;rw[yJ,h];exact if_neg ſ
def oX.oK(r:oX o u):o.isSome=u.isSome:=by
 cases o with
 | none=>cases u with
  |none=>rfl|some _=>solve_by_elim
 | some _=>cases u with
  |none=>solve_by_elim|some _=>rfl
def oX.getD{u:↑au}(r:oX o u)(b:RelV d a):RelV (o.getD d)<|u.getD a:=by
 cases o with
 | none=>cases u with
  |none=>exact b|some _=>solve_by_elim
 | some _=>cases u with
  |none=>solve_by_elim|some _=>exact r
def KV.val{f:!(G×au)}(r:KV kvs f)(k:G):oX (qz kvs k)<|valueAt f k:=by
 induction r with
 |nil=>solve_by_elim|@cons p q l a h t ih=>
  let(g,i):=h;by_cases e:p.1=k
  .let b:valueAt (q::a) k=Y q.2:=by simp[valueAt,jq,g.symm.trans e]
   rw[ud e,b];exact i
  simp_all [valueAt,jq,k6]
def KV.any(r:KV kvs b)(k:G):(kvs.any λa=>decide (a.1=k))=b.any λa=>decide (a.1=k):=by
 induction r<;>simp_all
theorem KV.X1(r:KV kvs d)(k:G)(f:RelV y u):
  KV (kvs.map λa=>if a.1=k then (a.1,y) else a) (d.map λa=>if a.1=k then (a.1,u) else a):=by
 induction r with
 |nil=>exact .nil|@cons p q l i h t ih=>
  refine .cons ?_ ih
  grind
def KV.put(r:KV kvs a)(k:G){u:au}(b:RelV y u):KV (kP kvs k y)<|stored a k u:=by
 unfold kP stored;rw[r.any k];by_cases e:(a.any λd=>decide (d.1=k))=Z'
 .rw[if_pos e,if_pos e];exact r.X1 k b
 .rw[if_neg e,if_neg e];exact Paired.snoc r (W,b)
def KV.length{a:!(G×au)}(r:KV kvs a):kvs.length=a.length:=Paired.length r
end
def zI{P:bj}{k:hW}(r:RelV (kV k) u):(fg P w).is k u=true:=by
 cases k with
 |inl i=>let(t,e):=r;simp_all [Ga]
 |inr x=>let(t,e):=r;simp_all [F_]
theorem B8{P:bj}:∀ {a:!hW}{b:!au},cx (a.map kV) b->ItemsAre (fg P w) a b
 |[],_,r=>by cases r;exact .nil
 | k::a,_,r=>by
  cases r with|cons h t=>exact .cons (zI h)<|B8 t
abbrev KT(H:Hp):!(!hW×V)->!(!hW×aD×au)->Prop:=Paired λp q=>p.1=q.1/\H q.2.1=Y (.tup<|p.1.map kV)/\RelV p.2 q.2.2
def KT.val{f:!(!hW×aD×au)}(r:KT H kvs f)(k:!hW):oX (qz kvs k) ((atKey f k).map (·.2)):=by
 induction r with
 |nil=>solve_by_elim|@cons p q l a h t ih=>
  let(g,_,i):=h;by_cases e:p.1=k
  .let b:atKey (q::a) k=Y q.2:=by simp[atKey,jq,g.symm.trans e]
   rw[ud e,b];exact i
  simp_all [atKey,jq,k6]
theorem KT.X1(r:KT H kvs d)(k:!hW)(g:RelV y u):
  KT H (kvs.map λb=>if b.1=k then (b.1,y) else b) (d.map<|putAt k u):=by
 induction r with
 |nil=>exact .nil|@cons p q o l h t ih=>rw[bR];refine .cons ?_ ih;obtain _:=h;unfold putAt;by_cases e:p.1=k<;>simp_all
def KT.put(r:KT H kvs a)(k:!hW){u:au}(g:H b=Y (.tup<|k.map kV))(d:RelV y u):
  KT H (kP kvs k y) (storedH a k b u):=by
 let e:(kvs.any λf=>decide (f.1=k))=(atKey a k).isSome:=by rw[yJ,(r.val k).oK,EG]
 unfold kP storedH;rw[e];by_cases q:(atKey a k).isSome=Z'
 .rw[if_pos q,if_pos q];exact r.X1 k d
 .rw[if_neg q,if_neg q];exact Paired.snoc r (W,g,d)
def KT.keeps(r:KT H kvs d)(f:∀b a,H b=Y (.tup a)->e b=Y (.tup a)):KT e kvs d:=
 Paired.abT r λc c z=>(z.1,f _ _ z.2.1,z.2.2)
section
variable {P:bj}
def O5(b:lT P w H h)(e:Rd H a u):hR P w H h a u:=e.ok b
def Lj(d:lT P w H h)(e:Rd H a<|.dK kvs n):kvs.length<=be/\(a==je)=Z_/\∃b,KV kvs b/\h.DictAt (fg P w) a b n:=
 O5 d e
def Al(d:lT P w H h)(e:∃n,Rd H a<|.dK kvs n):kvs.length<=be/\(a==je)=Z_/\∃b,KV kvs b/\h.DictOf (fg P w) a b:=by
 let(n,e):=e;let(z,y,b,k,f):=Lj d e;exact(z,y,b,k,f.dictOf)
def WO(d:lT P w H h)(e:H a=Y (.dK kvs n)):kvs.length<=be/\(a==je)=Z_/\∃b,KV kvs b/\h.DictOf (fg P w) a b:=Al d (_,.inl e)
theorem wd(f:lT P w H h)(e:H a=Y (.tup<|b.map kV)):(RY<|fg P w).is h b a:=by
 let(_,d,r,o,k,i,n,g):=f a _ e;exact(o,_,n,k,i,g,by simpa using B8 r)
def Af(g:lT P w H h)(e:Rd H a<|.dT kvs):kvs.length<=be/\(a==je)=Z_ /\
  ∃d,KT H kvs d/\h.DictOfH (RY<|fg P w) a d:=by
 let(z,y,d,r,o,D,E,A,v,u,s,k):=O5 g e;refine(z,y,d,r,o,D,E,A,v,u,s,λx b =>?_,k);let f:∀ {l:!_}{m:!_},KT H l m->∀x∈m,(RY<|fg P w).is h x.1 x.2.1:=by
  intro l m q
  induction q with|nil=>simp_all|@cons p q I F i t ih=>grind [wd]
 exact f r x b
def acA(d:lT P w H h)(e:H a=Y (.dT kvs)):kvs.length<=be/\(a==je)=Z_ /\
  ∃b,KT H kvs b/\h.DictOfH (RY<|fg P w) a b:=Af d<|.inl e
end
def tZ(H:Hp)(a:aD)(y:V)(r:↑V):Prop:=
 (∃kvs k,(∃n,Rd H a<|.dK kvs n)/\y=kV k/\r=qz kvs k)\/∃kvs k b,Rd H a (.dT kvs)/\y=.ref b/\H b=Y (.tup<|k.map kV)/\r=qz kvs k
def NP(H:Hp)(a:aD)(y v:V)(d:Nat->Hp):Prop:=
 (∃kvs k n,H a=Y (.dK kvs n)/\y=kV k/\kvs.length<be/\d=λn=>cO H a<|.dK (kP kvs k v) n) \/
 ∃kvs k b,H a=Y (.dT kvs)/\y=.ref b/\H b=Y (.tup<|k.map kV)/\kvs.length<be/\d=λ_=>cO H a<|.dT<|kP kvs k v
def tZ.k{a:aD}{k:hW}(e:H a=Y (.dK kvs n)):tZ H a (kV k) (qz kvs k) :=.inl (kvs,k,(_,.inl e),W,W)
def NP.k{a:aD}{k:hW}{v:V}(e:H a=Y (.dK kvs n))(b:kvs.length<be):NP H a (kV k) v (λn=>cO H a<|.dK (kP kvs k v) n) :=.inl (kvs,k,n,e,W,b,W)
section
variable {X:Cx}{s:az}{v:V}
def Inv.big(I:Inv X C B H s):je<s.heap.objs.size:=by
 exact Nat.lt_trans ſ (I.mod.glob.keeps I.bk).lt
def Nr(F:A.units+1<l9)(I:Inv X C B H s)(g:tZ H a y<|Y v)(w:RelV y u)(h:∀i t,Inv X C B H t->RelV v i->Q i t):
  bx (aZ X.prog X.w) A (NU (.ref a) u) Q E s:=by
 obtain⟨kvs,k,e,q,l⟩|⟨kvs,k,b,e,q,P,l⟩:=g
 .subst q;let(z,c,D,f,r):=Al I.dS e;let(i,hw,d):=oX.some_of (by rw[l];exact f.val k);exact wpAny_getItem_of (zI w) r.mapOf hw<|h i _ (I.tok _) d
 .subst q;cases w;let(z,c,x,f,r):=Af I.dS e;let(i,hw,d):=oX.some_of (by rw[l];exact f.val k);let(p,K,o):=aj.mp hw;refine wpAny_getItem_heap (mX F) (wd I.dS P) r K ?_;rw[o];exact h i _ (I.tok _) d
def af2(v:A.units+1<l9)(I:Inv X C B H s)(g:tZ H a y o)(t:RelV y u)(h:∀r,Inv X C B H r->Q (.bool o.isSome) r):
  bx (aZ X.prog X.w) A (d_ .In u<|.ref a) Q E s:=by
 obtain⟨kvs,k,e,i,l⟩|⟨kvs,k,b,e,i,w,l⟩:=g
 .subst i;let(z,f,D,d,p):=Al I.dS e;refine wpAny_in_of (zI t) f p.mapOf ?_;rw[<- (d.val k).oK,<- l];exact h _<|I.tok _
 .subst i;cases (show u=aQ b from t);let(z,f,x,d,p):=Af I.dS e;refine wpAny_in_heap (mX v) (wd I.dS w) f p ?_;let q:=(d.val k).oK;rw[EG]at q;rw[<- q,<- l];exact h _<|I.tok _
def Vn(v:A.units+1<l9)(I:Inv X C B H s)(g:tZ H a y o)(t:RelV y u)(h:∀r,Inv X C B H r->Q (.bool<|not o.isSome) r):
  bx (aZ X.prog X.w) A (d_ .NotIn u<|.ref a) Q E s:=by
 obtain⟨kvs,k,e,i,l⟩|⟨kvs,k,b,e,i,w,l⟩:=g
 .subst i;let(z,f,D,d,p):=Al I.dS e;refine wpAny_notIn_of (zI t) f p.mapOf ?_;rw[<- (d.val k).oK,<- l];exact h _<|I.tok _
 .subst i;cases t;let(z,f,x,d,p):=Af I.dS e;refine wpAny_notIn_heap (mX v) (wd I.dS w) f p ?_;let q:=(d.val k).oK;rw[EG]at q;rw[<- q,<- l];exact h _<|I.tok _
def Ec{t':Nat}{e:HO}(I:Inv X C B H s)(g:Mut<|H a)(h:eE a s.heap d)(i:∃q,d.get? a=Y q)(f:hR X.prog X.w (cO H a e) d a e):
  Inv X C B (cO H a e) { s with heap:=d,toks:=t' }:=
 I.write g (.inl W) (λb q k z=>(h.2 b k).trans z) i f
def Rg{P:bj}(z:kvs.length<=be)(f:(a==je)=Z_)(d:KV kvs b)(g:e.DictAt (fg P w) a b n):
  hR P w h e a (.dK kvs n):=(z,f,b,d,g)
def Nq(hu:A.units+1<l9)(I:Inv X C B H s)(g:NP H a y v H')(j:RelV y u)(P:RelV v r)(h:∀n K,Inv X C B (H' n) K->Q () K):
  bx (aZ X.prog X.w) A (setItem (.ref a) u r) Q E s:=by
 obtain⟨kvs,k,n,e,x,l,D⟩|⟨kvs,k,b,e,x,eb,l,D⟩:=g
 .subst x D;let(z,w,vs,d,F):=WO I.dS e;let o:vs.length<=be:=by rw[<- d.length];exact z
  let t:(kP kvs k v).length<=be:=by grind [qU]
  refine wpAny_setItem_pairs (hsz:=o) (zI j) F λR f p =>?_
  let he:∃q,R.get? a=Y q:=let(q,_,_,i,_):=f;(q,i);let(n,f):=f.dictAt;exact h n _<|Ec I (by rw[e];exact Ÿ) p he<|Rg t w (d.put k P) f
 .subst x D;cases (j);let(z,w,xs,d,F):=acA I.dS e;let o:xs.length<=be:=by rw[<- Paired.length d];exact z
  let t:(kP kvs k v).length<=be:=by grind [qU]
  refine wpAny_setItem_heap (hsz:=o) (mX hu) (wd I.dS eb) F λR f p=>h 0 _ ?_
  let(q,es,ep,i,h2,h3,h4,_,h5):=f;refine Ec I (by rw[e];exact Ÿ) p (q,i) (t,w,_,(d.put k eb P).keeps λc ys S =>?_,q,es,ep,i,h2,h3,h4,h5);rw[aI<|by grind];exact S
end
section
variable {X:Cx}{s:az}
end
def Z4(i:Expr):Prop:=∀a b,Sg i Z_ a b=operate [a,b] (NU a b)
def SO{s:az}(y:typeLookup (.type a) "__getitem__" = c9 (Y<|.builtin u))(v:Z4 d)(h:bx (aZ b w) A (eval T l) (λo k=>bx (aZ b w) A (eval d l) (λi e=>e.TypeIs o a/\bx (aZ b w) A (NU o i) Q E e) E k) E s):
  bx (aZ b w) A (eval (.Subscript T d N) l) Q E s:=by
 refine Subscript_<|dE h (λo k q=>dE q (λi e f =>?_) λc c x=>x) λc c x=>x;let(t,f):=f;refine ai ?_;refine ai<|wpAny_specialOf t y ?_;let ku:bx (aZ b w) A (Sg d Z_ o i) (λr g=>bx (aZ b w) A (letTemporaryGo T o r >>= λc=>c9 r) Q E g) E e:=by rw[v o i];exact wpAny_operating<|dE f (λr g p=>ai<|wpAny_letTemporaryGo<|aJ p) λc c x=>x
 simp_all [aJ,ai]
def GJ{X:Cx}{s:az}(I:Inv X C B H s)(g:tZ H a y o):s.TypeIs (.ref a) "dict" :=by
 obtain⟨kvs,k,e,_⟩|⟨kvs,k,b,e,_⟩:=g
 .let(_,_,h,_,d):=Al I.dS e;exact d.typeIs
 .let(_,_,f,_,d):=Af I.dS e;exact d.typeIs
def aa1(J L:TE):TE:=λB H Q=>J B H λx d=>L B d λy b=>∃a v,x=.ref a/\tZ b a y (Y v)/\Q v b
def aez(L J:TE):TE:=λB H Q=>L B H λy d=>J B d λx b=>∃a o,x=.ref a/\tZ b a y o/\Q (.bl o.isSome) b
def SN(L J:TE):TE:=λB H Q=>L B H λy d=>J B d λx b=>∃a o,x=.ref a/\tZ b a y o/\Q (.bl<|not o.isSome) b
def abi(J L U:TE):TS:=λD B H=>U B H λv f=>J B f λx e=>L B e λy d=>∃a b,x=.ref a/\NP d a y v b/\∀n,D.nx B<|b n
section
variable {X:Cx}{m:Pos}
def Tz(q:X.A.units+1<l9)(t:PE X o J)(w:PE X i L)(r:Z4 i):PE X (.Subscript o i N)<|aa1 J L:=by
 intro C s B H Q I h;refine SO PySem.F.slot_dict_getitem.lookup r<|eG (t C s B H _ I h) ?_;rintro u e ⟨x,F,D,k,p⟩;refine eG (w C e B F _ D p) ?_;rintro R P ⟨y,E,d,f,a,v,z,g,l⟩;subst z;obtain rfl:u=aQ a:=k;exact(GJ d g,Nr q d g f λK c A b=>(v,E,A,b,l))
def Yi(p:X.A.units+1<l9)(r:PE X i L)(q:PE X o J):PC X .In i o<|aez L J:=by
 intro C s B H Q I h;refine eG (r C s B H _ I h) ?_;rintro K b ⟨y,D,z,d,k⟩;refine eG (q C b B D _ z k) ?_;rintro u F ⟨x,A,w,e,a,l,t,g,f⟩;subst t;obtain rfl:u=aQ a:=e;exact af2 p w g d λE v=>(.bl l.isSome,A,v,W,f)
def Mx(p:X.A.units+1<l9)(r:PE X i L)(q:PE X o J):PC X .NotIn i o<|SN L J:=by
 intro C s B H Q I h;refine eG (r C s B H _ I h) ?_;rintro K b ⟨y,D,z,d,k⟩;refine eG (q C b B D _ z k) ?_;rintro u F ⟨x,A,w,e,a,l,t,g,f⟩;subst t;obtain rfl:u=aQ a:=e;exact Vn p w g d λE v=>(.bl _,A,v,W,f)
def J8(w:X.A.units+1<l9)(A:PE X o J)(E:PE X i L)(t:PE X T U)(z:cm T (Y<|.Subscript o i j) N.line X.env=c9 Z_):
  PS X (.Assign [.Subscript o i j] T N) (abi J L U):=by
 intro C s B H D I h;refine wpAny_Assign_Subscript (eG (t C s B H _ I h) ?_) z;rintro r d ⟨v,H1,Q,k,q⟩;refine eG (A C d B H1 _ Q q) ?_;rintro u b ⟨x,S,P,f,p⟩;refine eG (E C b B S _ P p) ?_;rintro iv s3 ⟨y,H3,c,e,a,R,F,g,l⟩;subst F;obtain rfl:u=aQ a:=f;exact Nq w c g e k λn s4 K=>(B,R n,K,l n)
end
def Jm{P:bj}{w:cQ}(h:cG):(h.push { cls :=.type "dict",data :=.dict #[] }).DictAt (fg P w) h.objs.size [] 0:=by
 let(o,es,ep,a,b,c,d):=Heap.DictOf.new (knd:=fg P w) h;have e:=bo h (o:={ cls :=.type "dict",data :=.dict #[] }) W;rw[a]at e;cases e;cases c;exact(_,_,a,b,W,d)
def GH{P:bj}{w:cQ}(h:cG)(a:je<h.objs.size):hR P w H (h.push { cls :=.type "dict",data :=.dict #[] }) h.objs.size (.dK [] 0):=
 (dr _,beq_eq_false_iff_ne.mpr<|bz<|bI a,[],.nil,Jm h)
def Xy:TE:=λ_ H Q=>∀p,H p=M->Q (.ref p) (cO H p<|.dK [] 0)
section
variable {X:Cx}
def FP:PE X (.Dict [] [] N) Xy:=λC s B H Q I h=>
 wpAny_Dict_empty (.ref _,_,I.laid (λa a q=>ao _ q) (aV _)<|GH _ I.big,W,h _<|I.dS.fresh<|aV _)
end
def HF:!(TE×TE)->St->Hp->(!(V×V)->Hp->Prop)->Prop
 |[],_,H,Q=>Q [] H|(a,U)::r,B,H,Q=>a B H λx f=>U B f λy e=>HF r B e λb d=>Q ((x,y)::b) d
abbrev VV:!(V×V)->!(au×au)->Prop:=Paired λp q=>RelV p.1 q.1/\RelV p.2 q.2
def PPs(X:Cx)(N:Pos)(b:!(↑Expr))(a:!Expr)(d:!(TE×TE)):Prop:=
 ∀(C:!(aD×Obj)) (s:az) (B:St) (H:Hp) (Q:!(V×V)->Hp->Prop),Inv X C B H s->HF d B H Q ->
  bx (aZ X.prog X.w) X.A (evalPairs<|pairTrees b a X.env N) (λg h=>∃e f,Inv X C B f h/\VV e g/\Q e f) X.xe s
def To{X:Cx}:PPs X N [] [] []:=λC s B H Q I h=>pairTrees_nil_walk ([],H,I,.nil,h)
def ze{X:Cx}{v:Expr}{f:!(↑Expr)}(A:PE X k e)(w:PE X v U)(z:PPs X N f d a):
  PPs X N (Y k::f) (v::d) ((e,U)::a):=λC s B H Q I h=>
 pairTrees_cons_walk (eG (A C s B H _ I h) λu i (x,P,F,o,r)=>eG (w C i B P _ F r) λS g (y,c,E,l,q)=>eG (z C g B c _ E q)<|by rintro R s3 ⟨t,K,D,b,p⟩;exact((x,y)::t,K,D,.cons (o,l) b,p))
def vZ(kvs a:!(hW×V)):!(hW×V):=a.foldl (λb d=>kP b d.1 d.2) kvs
def KV.merge:∀ {a:!(hW×V)}{d:!(hW×au)}{kvs:!(hW×V)}{b:!(hW×au)},KV a d->KV kvs b->KV (vZ kvs a) (merged b d):=by
 intro a d kvs b r;unfold KV at r
 induction r generalizing kvs b with
 |nil=>intro q;exact q
 |@cons p q i g h t ih=>
  intro f;let e:KV (kP kvs p.1 p.2)<|stored b q.1 q.2:=by have:=f.put p.1 h.2;rw[<- h.1];exact this
  exact ih e
theorem sy:∀(a kvs:!(hW×V)),(vZ kvs a).length<=kvs.length+a.length
 |[],kvs=>by show kvs.length<=kvs.length+0;lia
 |p::r,kvs=>by let d:=sy r<|kP kvs p.1 p.2;let b:=qU kvs p.1 p.2;show (vZ (kP kvs p.1 p.2) r).length<=_;rw[bK];lia
theorem Aq{P:bj}{w:cQ}:∀ {kvs:!(hW×V)}{e:!(au×au)},VV (kvs.map λf=>(kV f.1,f.2)) e->∃d,Carries (fg P w) e d/\KV kvs d
 |[],_,r=>by rw[VP]at r;cases r;exact([],nc,.nil)
 | p::kvs,_,r=>by
  rw[bR]at r;cases r with
  |@cons a b l i h t=>let(d,c,q):=Aq (P:=P) (w:=w) t;let(k,g):=b;exact((p.1,g)::d,(zI h.1,W,c),.cons (W,h.2) q)
def aa0(a:!(TE×TE)):TE:=λB H Q=>∀p,H p=M->HF a B (cO H p<|.dK [] 0) λe d=>d p=Y (.dK [] 0)/\∃kvs:!(hW×V),e=kvs.map (λb=>(kV b.1,b.2))/\kvs.length<=15/\∀n,Q (.ref p)<|cO d p<|.dK (vZ [] kvs) n
def Tw{X:Cx}{a:!(↑Expr)}(h:PPs X N a b d)(f:a.all (·.isSome)=Z')(A:a.length=b.length)(K:a≠[])(k:a.length<=15):PE X (.Dict a b N)<|aa0 d:=by
 intro C s B H Q I q;let S:=I.laid (t':=s.toks) (λm m q=>ao _ q) (aV _) (GH _ I.big);refine wpAny_Dict_walk (knd:=fg _ X.w) f A K k (eG (h C _ B _ _ S<|q _<|I.dS.fresh<|aV _) ?_);rintro ws s2 ⟨ps,H2,l,i,e,kvs,P,lk,u⟩;subst P;let(p,c,r):=Aq i;let(z,E,o,t,R):=WO l.dS e;cases t;refine(p,c,R,λj g w =>?_);let v:(vZ [] kvs).length<=be:=by grind [sy,kZ,i5]
 let D:∃q,j.get? _=Y q:=let(q,_,_,x,_):=g;(q,x);let(n,g):=g.dictAt;exact(.ref _,_,Ec l (by rw[e];exact Ÿ) w D<|Rg v E (r.merge .nil) g,W,u n)
structure M2(X:Cx)(o:Expr)(m:aM)(AI:Pos)(e f:Expr)(xX:Pos):Prop where
 base:bJ o m X.env (eval o X.env)=eval o X.env
 few:((b9 xX<|ak [e,f] X.env).all (λx=> (not x.1))&&(ey xX<|cD [] X.env).all (λx=>x.1.isSome)
  && decide (([e,f]:!Expr).length+([]:!gJ).length+(if ([]:!gJ).isEmpty then 0 else 1)<30))=true
 line:(AI.endLine==xX.line)=true
 trees:b9 xX (ak [e,f] X.env)=[(false,eval e X.env),(false,eval f X.env)]
def IsD(H:Hp)(a:aD):Prop:=(∃kvs n,Rd H a<|.dK kvs n)\/∃kvs,Rd H a<|.dT kvs
def Y3{X:Cx}{s:az}(I:Inv X C B H s)(d:IsD H a):
  s.TypeIs (.ref a) "dict" /\(∀b,aQ a=.ref b->∃f,s.heap.get? b=Y f/\f.dict=M)/\(a==je)=false:=by
 obtain⟨kvs,e⟩|⟨kvs,e⟩:=d
 .let(_,h,o,_,g):=Al I.dS e;refine(g.typeIs,λb q =>?_,h);cases q;let(f,_,_,k,i,_):=g;exact(f,k,i.2.1)
 .let(_,h,l,_,g):=Af I.dS e;refine(g.typeIs,λb q =>?_,h);cases q;let(f,_,_,k,i,_):=g;exact(f,k,i.2.1)
section
variable {X:Cx}{s:az}
def ZH(F:A.units+1<l9)(I:Inv X C B H s)(g:tZ H a y o)(w:RelV y u)(x:RelV d r)(h:∀t v,Inv X C B H v->RelV (o.getD d) t->Q t v):
  bx (aZ X.prog X.w) A (Jq (.builtin "dict.get") [.ref a,u,r]) Q E s:=by
 obtain⟨kvs,k,e,q,l⟩|⟨kvs,k,b,e,q,K,l⟩:=g
 .subst q;let(z,p,c,f,i):=Al I.dS e;refine call_meetsIn PySem.F.slot_dict_get i.typeIs PySem.F.entry_dict_get (PySem.F.args_dict_get_3 _ _ _) (meets_dict_get_default _ a (zI w) p r) (_,i.mapOf,h _ _ (I.tok _) ?_);rw[l];exact(f.val k).getD x
 .subst q;cases (w);let(z,p,D,f,i):=Af I.dS e;refine call_meetsIn PySem.F.slot_dict_get i.typeIs PySem.F.entry_dict_get (PySem.F.args_dict_get_3 _ _ _) (meetsH_dict_get_default _ a b p r) (mX F,k,D,wd I.dS K,i,h _ _ (I.tok _) ?_);rw[l];exact(f.val k).getD x
end
def Xz(J L c:TE):TE:=λB H Q=>J B H λx d=>∃a,x=.ref a/\IsD d a/\L B d λy e=>c B e λz b=>∃o,tZ b a y o/\Q (o.getD z) b
section
variable {X:Cx}{f:Expr}
def Pm(E:X.A.units+1<l9)(F:PE X o J)(j:PE X e L)(K:PE X f c)(m:M2 X o "get" n e f O):PE X (.Call (.Attribute o "get" n) [e,f] [] O)<|Xz J L c:=by
 intro C s B H Q I h;refine wpAny_Call_method m.base m.few m.line PySem.F.plainAttrs_dict PySem.F.slot_dict_get PySem.F.type_dict_get<|eG (F C s B H _ I h) ?_;rintro u q ⟨x,H1,i,v,a,P,d,D⟩;subst P;obtain rfl:u=aQ a:=v;let(l,k,_):=Y3 i d;refine(l,k,?_);rw[m.trees];exact nV W<|Calls.evalArgs_plain<|Jw<|eG (j C q B H1 _ i D) λiv p (y,H2,I2,t,A)=>Jw<|eG (K C p B H2 _ I2 A) λfv s3 (z,H3,S,r,ov,g,w)=>Calls.spliced_nil<|ZH E S g t r λw' s4 R b=>(_,H3,R,b,w)
end
section
variable {X:Cx}{s:az}
end
abbrev pP(K:aS)(c f:aM):Prop:=∀C,jf K aW c=Y (Y<|.ref C)->Jn K C/\pM K C f
theorem J2{K:aS}{f:aM}{d:D}{v:V}(m:cM K G d v):∀ {a:!aM}{g:!D}{h:!V},a.length=g.length->bB K G g h->∃b,lg f v (a.zip h)=(jd f d a g).1.zip b/\(jd f d a g).1.length=(jd f d a g).2.length/\bB K G (jd f d a g).2 b
 |[],[],h,c,r=>([v],W,W,.cons m .nil)|[],x::g,h,c,r=>by simp at c
 |k::a,[],h,c,r=>by simp at c
 | k::a,x::g,h,c,r=>by
  let(u,i,rfl,o,n):=bt.mp r;simp at c;unfold jd;rw[show lg f v _=if k=f then (k,v)::a.zip i else (k,u)::lg f v _ from W];by_cases j:k=f
  .rw[if_pos j,if_pos j];exact(_,W,by simp[c],.cons m n)
  .rw[if_neg j,if_neg j];let(b,e,l,q):=J2 m c n;exact(_,Ÿ,by simp[l],.cons o q)
def t_{a:!d}(h:a.length=b.length):(a.zip b).length=a.length:=by simp[h]
theorem fh{K:aS}{G:Hp}{f:aM}:∀ {a:!aM}{b:!V},f∉a->(a.zip b).lookup f=M
 |[],b,h=>by simp
 |k::a,[],h=>by trivial
 |k::a,v::b,h=>by simp at h;rw[d7,fO,beq_eq_false_iff_ne.mpr h.1];exact fh (K:=K) (G:=G) h.2
section
variable {X:Cx}
set_option tactic.hygienic true
def rJ{c f:aM}(h:PE X e<|tQ X.K Z g)(p:pP X.K c f)(x:@&(bJ e f X.env (eval e X.env)=eval e X.env)):
  PE X (.Attribute e f I) (tP X.K Z<|cz c f g):=(nO h x).imp <|by
 rintro F H Q ⟨G,m,d,z,j,b,k⟩;unfold cz at b;rw[ae]at b;let(o,l,b):=b;refine(G,m,o,z,j,l,λv E D q w =>?_);cases o<;>simp only[av]at b<;>try (cases b)
 split at b
 .rename_i i;refine ah λkk =>?_
  subst i;let(a,C,B,K,rfl,y,n,_,t):=w.afe q.gh;let(u,A,r):=KZ t b;exact kk<|(a,C,B,_,u,W,y,(p C n).1,(p C n).2,A,k u E D q r)
 .cases b
end
section
variable {X:Cx}{s:!Nat}
noncomputable def sU:DG:=λ_=>M
def Ah:PS X a<|gO X.K B s Z own1 sU:=uF.imp <|by rintro D c H ⟨G,d,o,S,b,k⟩;cases b
def Gp(c:aM)(i:Nat)(a:cf):↑(!aM×!D):=(eV i a).bind λd=>match d with|.ins f b e=>if f=c then Y (b,e) else M|_=>M
set_option tactic.hygienic true in
def Iy{e:!D}(h:Gp c i a=Y (b,e)):a[i]?=Y (Y<|.ins c b e):=by
 let(d,g,h):=ae.1 h;cases d<;>simp only[av]at h<;>try (cases h)
 split at h
 .rename_i f;cases h;subst f;exact gS g
 .cases h
def SR.aeT{K:aS}{G:Hp}{d:!aM}{f:!D}(S:SR K B Z G H g j)(k:i∈Z)(h:j[i]?=Y (Y<|.ins c d f)):
  ∃a C e b,g[i]?=Y (Y<|.ref a)/\H a=Y (.ins C e<|d.zip b)/\jf K aW c=Y (Y<|.ref C)/\d.length=f.length/\bB K G f b/\G a=M/\B.2 a=none:=by
 refine ah λkk =>?_
 obtain⟨a,q,p,o,⟨C,e,b,rfl,n,l,r⟩,m⟩:=S.Pp k h W;exact kk<|(a,C,e,b,p,o,n,l,r,m)
def kC(i:Nat)(c f:aM)(b:DF):DG:=λa=>(b a).bind λd=>(Gp c i a).bind λq=>if q.1.length<999 then Y (.nx<|a.set i<|Y<|.ins c (jd f d q.1 q.2).1 (jd f d q.1 q.2).2) else M
def afS{i:Nat}{c f:aM}{w:DF}(h:PE X (.Name x p)<|eS i)(P:PE X e<|tP X.K Z w)(u:pP X.K c f)(q:‹i∈Z›)(N:@&(cm e (Y<|.Attribute (.Name x p) f T) I.line X.env=c9 false)):
  PS X (.Assign [.Attribute (.Name x p) f T] e I) (gO X.K B s Z Z<|kC i c f w):=(Dj h P N).imp <|by
 rintro D σ H ⟨G,m,o,S,b,k⟩;let(d,R,b):=ae.1 b;rcases j:Gp c i m with _|_
 .simp[j]at b
 simp only[j,av]at b;split at b
 .cases b;let t:=Iy j;refine(G,m,d,S.gh,S.hI,R,λv G' H' E r =>?_);let F:=S.ext E;refine ah λkk =>?_
  let(a,C,A,vs,z,e3,n,l,y,_):=F.aeT q t;let(g,Q,J,K):=J2 r l y;refine kk<|(_,z,a,C,A,_,W,e3,(u C n).1,(u C n).2,?_,?_)
  .rw[t_<|by rw[l,y.length]];exact Ÿ
  .rw[Q];exact k _ G' _<|F.abP q t z (C,A,g,W,n,J,K)
 .cases b
abbrev X4(a:Int->Int->Int):V->V->Hp->VK->Prop:=λx y H Q=>∃i j,x=.int i/\y=.int j/\Q (.int<|a i j) H
noncomputable def jY(f:DM):DG:=λa=>(f a).map λq =>.nx q.2
def Q9{f:DM}(i:PE X e<|tM X.K B Z f)(h:@&(cm e M I.line X.env=c9 false)):PS X (.Expr e I)<|gO X.K B s Z Z<|jY f:=(lV i h).imp <|by
 rintro D c H ⟨G,g,o,S,a,k⟩;obtain⟨⟨d,b⟩,j,a⟩:=aj.1 a;cases a;exact(G,g,d,b,S,j,λv n m l p r=>k c n m l)
end
inductive spC (K:aS) (p:Nat) (F:!D->↑(D×D)) (f:!V) (H:Hp) (Q:VK) (_x:XK):Prop
 |mk G b d j a o c:bD G H->b[p]?=some c->f[p]?=some (.ref a)->H a=some o->iY K G c o->G a=none->(∀(i:Nat) c,i≠p->b[i]?=some c->∃v,f[i]?=some v/\cM K G c v)->b.length=f.length->F b=some (d,j)->(∀v h e g,f_ G (Hj H a) e g->e a=none->g a=some h->iY K e j h->cM K e d v->Q v g)->spC K p F f H Q _x
def aeV(p:Nat):DO->↑(D×D)
 |.rm d a=>(eV p a).bind λc=>if we c=Z' then Y (d,c) else M
 |.nx a=>(eV p a).bind λc=>if we c=Z' then Y (.cT,c) else M
 |_=>M
def runC(n N p:Nat)(g:DG)(a:!D):↑(D×D):=if a.length=n then (g<|fQ N a).bind (aeV p) else M
section
variable {P:bj}{K:aS}
set_option tactic.hygienic true in
def gx.okC{R:cS}{f:aD}(F:gx K x l R f fd){p:Nat}(N:!aM)(Z Ź:!Nat){g:DG}(S:fo N ps<|bu R) (hb:N.Nodup->∀(t:au) (A:fJ) (j:!Env) (s:az) (H:Hp) (E:XK),dn k (A.deeper<|mj l (bu R) s.heap.objs.size f t)->∀(B:Bs) (a:aD),B.3=[(p,a)] ->
   mh (pJ gk P w K O U N l (bu R) f t A j s H E).Ig (fm R) (gO K B [] Z Ź g)) (hp:‹p∈Z›) (Y_:‹∀i∈Z,i=p\/ps.length<=i›):b_ P w K O U gk (k+1) f fd ps<|spC K p<|runC ps.length N.length p g:=by
 refine F.ok S (λvs H Q E h =>?_)<|λt A j s H vs Q E hr h =>?_
 .let(G,ds,d,c',a,o,c,gh,hd,hv,ha,r,ga,ro,hl,e,_):=h;unfold runC at e;split at e<;>simp_all
 .let(G,ds,d,c',a,o,c,gh,hd,hv,ha,r,ga,ro,hl,e,q):=h;unfold runC at e;split at e
  .rename_i hn;refine(_,hb S.nd t A j s H E hr (G,Hj H a,_,λI I=>False) a W,?_);let(oo,eg,e):=ae.1 e;have ku:∀ {σ:St}{m:cf}{C n:Hp}{o':!Nat}{y:D},SR K (G,Hj H a,[(p,a)],λI I=>False) o' C n σ m->eV p m=Y y->we y=Z'->∃u,n a=Y u/\iY K C y u/\C a=none:=fun {σ m C n o' y} z el X=>by let(UG,hσ):=z.pin p a Ÿ;let(b,u,f2,f3,f4,f5,_):=z.Pp UG (gS el) X;rw[hσ]at f2;cases f2<;>simp_all
   refine(G,_,oo,BH gh hp hd hv ha r ga ro hl (by rw[hn];exact Y_),eg,?_);cases oo with
   |rm d' m=>
    let(y,el,e):=ae.1 e;split at e
    .rename_i X;cases e;intro v σ C n (o',z) rv;let(u,f3,f4,f5):=ku z el X;exact q v u C n z.kz f5 f3 f4 rv
    .cases e
   |nx m=>
    let(y,el,e):=ae.1 e;split at e
    .rename_i X;cases e;intro σ C n z;let(u,f3,f4,f5):=ku z el X;exact q _ u C n z.kz f5 f3 f4<|fc.mpr W
    .cases e
   |_=>cases e
  .cases e
structure dQ(P:bj)(w:cQ)(K:aS)(mg:aM->↑au)(base:cG)(c m:aM)(k:Nat)(sp:Sp):Prop where
 ex:∃C f fd ps,jf K aW c=some (some<|.ref C)/\Jn K C/\RQ K C m f/\b_ P w K mg base gk k f fd ps sp/\Binds K fd ps []
def dQ.mono{m:aM}(h:dQ P w K O U c m j a)(d:j<=k):dQ P w K O U c m k a:=by
 let(C,f,o,b,n,l,i,g,e):=h.ex;exact(C,f,o,b,n,l,i,g.mono d,e)
structure rg(P:bj)(w:cQ)(K:aS)(mg:aM->↑au)(base:cG)(c:aM)(k:Nat)(sp:Sp):Prop where
 ex:∃C f fd ps,jf K aW c=some (some<|.ref C)/\mg c=some (.ref C)/\Mk K C f/\b_ P w K mg base gk k f fd ps sp/\Binds K fd ps []
end
section
variable {X:Cx}
inductive tFC (K:aS) (Z:!Nat) (f:DF) (e:St) (H:Hp) (Q:VK):Prop
 |mk G c d:bD G H->jz K Z G H e c->f c=some d->(∀p o b a,f_ G H b a->H p=none->b p=none->a p=some o->iY K b d o->Q (.ref p) a)->tFC K Z f e H Q
noncomputable def QY(c:aM)(F:!D->↑(D×D))(g:DL):DF:=λa=>(g a).bind λb=>(F<|.ins c [] []::b).bind λr=>match r.1 with|.cT=>Y r.2|_=>M
def Lk{c:aM}{F:!D->↑(D×D)}(h:rg X.prog X.w X.K X.mg X.base c k<|spC X.K 0 F)(hr:dn (k+1) X.A)(hg:Gl X c)(ha:PA X (e::J)<|AO X.K Z g)(B:‹(c==("__debug__" : aM))=false›)(he:@&(ak (e::J) X.env=(Z_,eval e X.env)::ak J X.env))(A:@&((b9 I<|ak J X.env).any (·.1)=false)):PE X (.Call (.Name c p) (e::J) [] I)<|tFC X.K Z<|QY c F g:=by
 let(C,f,fd,ps,n,hm,hk,h1,a):=h.ex;refine(Kd hk h1 hr hg hm a .nil ju ha B he A).imp ?_;rintro σ H Q ⟨G,R,d,gh,K,j,q⟩;refine ah λkk =>?_
 let(N,eg,j):=ae.1 j;obtain⟨⟨d',c'⟩,eF,j⟩:=ae.1 j;cases d'<;>simp only[av]at j<;>try (cases j;done)
 cases j;refine kk<|(G,R,N,gh,K,eg,λS s H1 w P x t m l ne =>?_);rw[bT];let E:=w.gh.free m;refine(s,.ins c [] []::N,.cT,_,x,_,.ins c [] [],(w.gh.trans<|(bD.alloc l).trans<|.alloc<|by rw[aI<|bz ne];exact m),W,W,aP,(C,t,[],W,n,W,.nil),E,λi y hi ec =>?_,by simp[P.length],eF,λv o' G2 H2 u g2 h2 r2 r3=>(fc.mp r3,?_))
 .cases i with
  |zero=>exact absurd W hi|succ i=>exact P.get (i:=i) (by simpa using ec)
 .refine q x o' G2 H2 (w.trans (λb o e=>u.hh b o ?_,u.gg,u.gh,λb o e =>?_)) (w.hh.free m) g2 h2 r2
  .let a:b≠x:=bc e m;rw[z_ a,aI a,aI<|bc e l];exact e
  .obtain z|z:=u.fr b o e
   .exact .inl z
   .refine .inr ?_;by_cases a:b=x
    .subst a;exact m
    .by_cases r:b=t
     .subst r;exact l
     .rw[z_ a,aI a,aI r]at z;exact z
def Lf{s:!Nat}{i:Nat}{f:DF}(w:X.N.Nodup)(t:X.N[i]?=Y x)(h:Loc X.env.scope x)(v:PE X e<|tFC X.K Z f)(n:‹i∈Z›)(b:autoParam (∀a,(i,a)∉B.3) ť)(q:‹A9 i∉Z›)(l:@&(cm e (Y<|.Name x T) I.line X.env=c9 false))(u:autoParam (X.fn x=Z'\/X.env.scope.names.lookup x=Y .local) ŧ):
  PS X (.Assign [.Name x T] e I) (gO X.K B s Z Z<|eY i f):=(jZ w t h v l u).imp <|by
 rintro D F H ⟨G,g,o,S,c,k⟩;let(d,z,c):=aj.1 c;cases c;exact(G,g,d,S.gh,S.hI,z,λp K C A E m y j r=>k _ C A<|S.setC n E m y j r b q)
end
section
variable {X:Cx}{m:Pos}{f:DF}
end
section
variable {X:Cx}{f:Expr}
noncomputable def cq(ks:!hW)(c:!D)(k:hW):↑D:=((ks.zip c).find? λa=>decide (a.1=k)).map (·.2)
theorem pI{K:aS}:∀ {c:!hW}{f:!D}{a:!V}{d:D},bB K G f a->cq c f k=Y d->∃v,qz (c.zip a) k=Y v/\cM K G d v
 |[],f,a,d,r,h=>by simp[cq]at h
 |x::c,[],a,d,r,h=>by simp[cq]at h
 | x::c,y::f,a,d,r,h=>by
  let(v,t,rfl,i,l):=bt.mp r;by_cases g:x=k
  .subst g;have:=by simpa [cq] using h
   subst this;exact(v,ud W,i)
  .let m:cq c f k=Y d:=by simp_all [cq]
   obtain _:=pI l m
   simp_all [d7,k6]
theorem tS{K:aS}:∀ {c:!hW}{d:!D}{a:!V},bB K G d a->cq c d k=M->qz (c.zip a) k=M
 |[],d,a,r,h=>by simp[qz]
 |x::c,[],a,r,h=>by rw[cF.mp r];simp[qz]
 | x::c,y::d,a,r,h=>by
  let(v,t,rfl,i,f):=bt.mp r;by_cases e:x=k
  .simp_all [cq]
  .let g:cq c d k=none:=by simpa [cq,e] using h
   rw[d7,k6 e];exact tS f g
noncomputable def Bc:D->↑hW
 |.int i=>Y (LS i)|.str x=>Y (bw x)|_=>M
def oJ{K}{v}(h:Bc d=Y k)(r:iN K G H d v):v=kV k:=by
 cases d<;>simp only[Bc]at h<;>try trivial
 .cases h;exact r.int
 .cases h;exact r.str
def GB(f g e:DF):DF:=λa=>(f a).bind λd=>(g a).bind λk=>(e a).bind λx=>match d with|.fM c h=>(Bc k).map λk=>(cq c h k).getD x|_=>M
set_option tactic.hygienic true
def Eb{D F:DF}{i}(hu:X.A.units+1<l9)(ho:PE X o<|tQ X.K Z D)(he:PE X e<|tQ X.K Z F)(hf:PE X f<|tP X.K Z C)(m:M2 X o "get" j e f i):PE X (.Call (.Attribute o "get" j) [e,f] [] i)<|tP X.K Z<|GB D F C:=
 (Pm hu ho he hf m).imp <|by
  rintro σ H Q ⟨G,r,d,gh,n,c,q⟩;unfold GB at c;rcases g:D r with _|dd
  .rw[g]at c;cases c
  rcases h:F r with _|N
  .simp[g,h]at c
  rcases p:C r with _|L
  .simp[g,h,p]at c
  simp only[g,h,p,av]at c;cases dd<;>simp only at c<;>try (cases c)
  rename_i b J;rcases I:Bc N with _|k
  .rw[I]at c;cases c
  rw[I]at c;refine(G,r,_,gh,n,g,λv G1 H1 x r1 =>?_);obtain⟨a,vs,rfl,⟨_,O⟩,l,S⟩:=r1.Vj x.gh;refine(a,W,.inl (_,_,.of O),G1,r,N,x.gh,n.ext x,h,λu G2 H2 t U=>(G2,r,L,t.gh,(n.ext x).ext t,p,λz R P K T =>?_));let B:=K.hh _ _<|t.hh _ _ O;let s:=bB.mono (t.gg.trans K.gg) J S;refine(_,by rw[(oJ I U)];exact tZ.k B,?_);let E:=(x.trans t).trans K;have c:Y ((cq b J k).getD L)=Y d:=c;rcases y:cq b J k with _|dv
  .grind [tS]
  rw[y]at c;cases c;let(w,ew,A):=pI s y;rw[ew];exact q _ R P E A
end
noncomputable def N0:D->D->↑D
 |.int i,.int j=>Y (.int<|fD i j)|_,_=>M
noncomputable def iQ:D->D->↑D
 |.int i,.int j=>Y (.int<|t9 i j)|_,_=>M
noncomputable def r8:D->D->↑D
 |.int i,.int j=>if 0<=j/\j<=1000/\i.natAbs<2 ^ 64 then Y (.int<|i*2 ^ j.toNat) else M
 |_,_=>M
noncomputable def Yx:D->D->↑D
 |.int i,.int j=>if 0<=j then Y (.int<|i/2 ^ j.toNat) else M
 |_,_=>M
noncomputable def Ic:D->↑D
 |.int i=>Y (.int<|ER i)|_=>M
section
variable {X:Cx}{f:Pos}
def Wk:AS X (dF .BitOr) N0:=m_.imp abF <|by
 rintro x y H Q ⟨G,k,j,d,i,e,b,a,q⟩;unfold N0 at a;split at a<;>try (cases a;done)
 cases a;exact(_,_,e.int,b.int,q _ G H (.refl i)<|bY.mpr W)
def adC:AS X (dF .BitAnd) iQ:=m_.imp Yp <|by
 rintro x y H Q ⟨G,k,j,d,i,e,b,a,q⟩;unfold iQ at a;split at a<;>try (cases a;done)
 cases a;exact(_,_,e.int,b.int,q _ G H (.refl i)<|bY.mpr W)
set_option tactic.hygienic true
def ae1:AS X (dF .LShift) r8:=m_.imp Yl <|by
 rintro x y H Q ⟨G,l,k,d,j,i,e,a,q⟩;unfold r8 at a;split at a<;>try (cases a)
 split at a
 .rename_i b;cases a;exact(_,_,i.int,e.int,(b.1,ž,b.2.2),q _ G H (.refl j)<|bY.mpr W)
 .cases a
def ae0:AS X (dF .RShift) Yx:=m_.imp Yk <|by
 rintro x y H Q ⟨G,l,k,d,j,i,e,a,q⟩;unfold Yx at a;split at a<;>try (cases a)
 split at a
 .rename_i b;cases a;exact(_,_,i.int,e.int,b,q _ G H (.refl j)<|bY.mpr W)
 .cases a
set_option tactic.hygienic false
def af1(l:PE X a<|tQ X.K Z c):PE X (.UnaryOp .Invert a f)<|tP X.K Z<|e1 Ic c:=(Wg Xg l).imp <|by
 rintro s H Q ⟨G,i,d,m,b,o,k⟩;let(x,n,e):=La o;cases x<;>simp[Ic]at e
 subst e;exact(G,i,_,m,b,n,λv q p r j=>(_,j.int,k _ q p r<|bY.mpr W))
def ag4:NL X .BitOr<|X4 fD:=by
 rintro b s k H x y u v Q I e d ⟨i,j,rfl,rfl,q⟩;let(t,rfl):=e;let(a,rfl):=d;exact ior_int (.int _,H,I.tok _,(_,W),q)
def wY(i:Nat)(e:Int->Int->Int)(j:DF):DG:=λd=>(eV i d).bind λx=>(j d).bind λy=>match x,y with|.int a,.int b=>Y (.nx<|d.set i<|Y<|.int<|e a b)|_,_=>M
def afT{i:Nat}{op}(b:NL X o<|X4 op)(w:X.N.Nodup)(q:X.N[i]?=Y x)(p:Loc X.env.scope x)(t:PE X e<|tP X.K Z j)(n:‹i∉Z›)(s:autoParam (X.fn x=Z'\/X.env.scope.names.lookup x=Y .local) ŧ):
  PS X (.AugAssign (.Name x g) o e f) (gO X.K B h Z Z<|wY i op j):=(X8 w q p t b s).imp <|by
 rintro D I H ⟨G,m,J,S,a,k⟩;let(c,y,a):=ae.1 a;let(d,l,a):=ae.1 a;split at a
 .cases a;let(v,A,z):=S.env i _ n<|gS y;cases bY.mp z;refine(_,A,G,m,_,S.gh,S.hI,l,λu F C E r =>?_);cases bY.mp r;exact(_,_,W,W,k _ F C<|(S.ext E).uy n<|bY.mpr W)
 .cases a
end
section
variable {K:aS}{f:!Nat}
def SR.tree{s}(S:SR K B f G H y l)(c:i∈f)(e:l[i]?=Y (Y<|.obj s t)):∃a T,y[i]?=Y (Y<|.ref a)/\bQ K G H s t (.ref a) T/\T.Nodup/\(∀b∈T,G b=M/\B.2 b=M)/\∃F,jT K B f G H y l F/\F i=T:=by
 let(F,Da):=S.ow;let(a,g,d):=Da.it i _ c e;let(n,k):=Da.ok i _ c e;exact(a,F i,g,d,n,k,F,Da,W)
noncomputable def bP(r:Nat)(l:cf):cf:=l.map λo=>match o with|some (.dP k p)=>if k=r then M else Y (.dP k p)|o=>o
def bE{r i:Nat}(h:(bP r l)[i]?=Y (Y d)):l[i]?=Y (Y d)/\∀p,d ≠ .dP r p:=by
 unfold bP at h;rw[aY]at h;let(o,e,h):=aj.1 h;rw[e];cases o<;>lia
def fY{r i:Nat}(h:l[i]?=Y (Y d))(a:∀p,d ≠ .dP r p):(bP r l)[i]?=Y (Y d):=by
 unfold bP;rw[aY,h];cases d<;>simp_all
def SR.yN{r:Nat}(S:SR K B f G H y l):SR K B f G H y<|bP r l:=by
 refine(S.gh,S.g0,S.h0,S.fr,λi d a e=>S.env i d a (bE e).1,?_,by rw[S.len];simp[L2.bP],S.pin,λj k p s o e =>?_)
 .let(F,Da):=S.ow;exact(F,λi d a e=>Da.it i d a (bE e).1,λi d a e=>Da.ok i d a (bE e).1,λi j d c a n C A=>Da.ap i j d c a n (bE C).1 (bE A).1)
 .let(v,x,m,g,h,w,b,u,t):=S.dP j k p s o (bE e).1;exact(v,x,m,g,h,w,b,fY u (λq z=>by cases z),t)
def SR.vi{s:Sk}{t'}{m}{F}(S:SR K B f G H y l)(Da:jT K B f G H y l F)(J:F i=T)(g:i∈f)(I:l[i]?=Y (Y<|.obj s t))(u:y[i]?=Y (Y<|.ref a))(E:f_ G (dg H T) G' H')(v:bQ K G' H' n t' (.ref a) m)(x:m.Nodup)(w:∀b∈m,G' b=M/\(b∈T\/H b=M)):SR K B f G' H' y<|(bP i l).set i<|Y<|.obj n t':=by
 have:=(S.yN (r:=i)).chg (i:=i) (a:=a) (d' :=.obj n t') (F0:=T) (S':=m) ((λi d g e=>Da.it i d g (bE e).1,λi d g e=>Da.ok i d g (bE e).1,λi j d c g C A L=>Da.ap i j d c g C (bE A).1 (bE L).1)) g (λb k=>(Ż,_,(fY (r:=i) I λq z=>by cases z))) E.gg E.gh (λb o e=>by
   obtain z|z:=E.fr b o e
   .exact .inl z
   .by_cases k:b∈T
    .exact .inr (.inr k)
    .rw[bC k]at z;exact .inr<|.inl z)
  (λb o k e=>E.hh b o<|by simp_all [bC]) v x w (λb h=>by have:=(S.pin i b h).2;simp_all) (λr p z=>by cases z)
  (λj p q q q e=>absurd W<|(bE e).2 p)
 simp_all [de]
def SR.XR{p}{s s'}{v}(S:SR K B f G H y l)(hi:i∈f)(N:A9 i∈f)(hj:j∈f)(J:i≠j)(Z:A9 j∉f)(C:∀a,(j,a)∉B.3)(hd:l[i]?=Y (Y<|.obj s t))(hs:y[i]?=Y (Y v))(hv:dm H p v=Y (.ref b))(es:jG p s=Y s')(ef:∀g∈Bl p,g∈GW):SR K B f G H (y.set j<|Y<|.ref b)<|l.set j<|Y<|.dP i p:=by
 let(F,Da):=S.ow;refine(S.gh,S.g0,S.h0,S.fr,λk c o e =>?_,(λk=>if k=j then [] else F k,λk c o e =>?_,λk c o e =>?_,λk m c c' o hm ek em L =>?_),by simp[S.len],λk x h =>?_,λk r q h1 h2 e =>?_)
 .let d:j≠k:=λz=>o (z ▸ hj)
  rw[aw d]at e;let(u,n,O):=S.env k c o e;exact(u,by rw[aw d];exact n,O)
 .obtain⟨rfl,rfl,A⟩|⟨d,n⟩:=fR e
  .exact(b,pQ (by rw[S.len];exact A),by simp[jy])
  .let(x,f1,f2):=Da.it k c o n;exact(x,by rw[aw d];exact f1,Ž)
 .obtain⟨rfl,rfl,A⟩|⟨d,n⟩:=fR e
  .simp
  .simp only[if_neg<|bz d];exact Da.ok k c o n
 .obtain⟨rfl,rfl,A⟩|⟨d,n⟩:=fR ek
  .simp
  .obtain⟨rfl,rfl,A⟩|⟨E,O⟩:=fR em
   .simp
   .simp only[if_neg<|bz d,if_neg<|bz E];exact Da.ap k m c c' o hm n O L
 .let(p1,X):=S.pin k x h;have:j≠k:=λz=>by subst z;exact C x h
  exact(p1,Ż)
 .obtain⟨rfl,z,A⟩|⟨d,n⟩:=fR e
  .cases z;exact(hi,N,s,t,s',v,.ref b,by rw[aw<|bz J];exact hd,by rw[aw<|bz J];exact hs,pQ (by rw[S.len];exact A),hv,es,ef)
  .let(g1,P,U,R,T,w,Q,g2,g3,g4,g5):=S.dP k r q h1 h2 n;let I:j≠r:=λz=>Z (z ▸ P)
   exact(g1,P,U,R,T,w,Q,Ż,Ż,Ż,g5)
def SR.X0{i}{a}{s}{F}(S:SR K B f G H y l)(Da:jT K B f G H y l F)(O:F i=T)(N:i∈f)(v:l[i]?=Y (Y<|.obj s t))(m:y[i]?=Y (Y<|.ref a))(E:f_ G (dg H T) G' H')(I:bQ K G' H' s d (.ref a) k)(L:k.Nodup)(J:∀b∈k,G' b=M/\(b∈T\/H b=M))(Z:∀(q:Br) u,(∀g∈Bl q,g∈GW)->dm H q (.ref a)=Y u->dm H' q (.ref a)=Y u):SR K B f G' H' y<|l.set i<|Y<|.obj s d:=by
 have:=S.chg (d' :=.obj s d) Da N (λb c=>(Ż,_,v)) E.gg E.gh λb o e=>by
   obtain z|z:=E.fr b o e
   .exact .inl z
   .by_cases c:b∈T
    .exact .inr<|.inr c
    .rw[bC c]at z;exact .inr<|.inl z
  (λb o c e=>E.hh b o<|by simp_all [bC]) I L J λb h=>by have:=(S.pin i b h).2;simp_all λr p z=>by cases z
  λj p Q P r e=>by
   refine ah λkk =>?_
   let(g1,g0,s0,t0,C,w,n,A,x,g4,X,U,R):=S.dP j i p Q P e;refine kk ?_
   simp_all
 simp_all [de]
noncomputable def unO:↑D->↑D
 |some (.obj _ t)=>Y t|some (.lst d)=>Y (.lst d)|some (.ins c a b)=>Y (.ins c a b)|some (.fM a b)=>Y (.fM a b)|_=>M
def Ot(h:unO o=Y d):(∃s t,o=Y (.obj s t)/\d=t)\/(o=Y d/\we d=Z'):=by
 unfold unO at h;split at h
 .simp_all
 .cases h;exact .inr (W,W)
 .cases h;exact .inr (W,W)
 .cases h;exact .inr (W,W)
 .cases h
def unA(l:cf):↑D->↑D
 |some (.dP r p)=>match l[r]? with|some (Y<|.obj _ t)=>gZ p t|_=>M
 |_=>M
def Bt(a b:!Nat)(l:cf):cf:=l.mapIdx λi o=>if i∈a then unO o else if i∈b then unA l o else o
theorem jz.trees(n:jz K f G H y l):∀(x:!Nat),∃T:!aD,(∀b∈T,G b=M/\HX H b)/\∀i∈x,i∈f->∀s t,l[i]?=Y (Y<|.obj s t)->∃v,y[i]?=Y (Y v)/\(cM K G t v\/∃S,bQ K G H s t v S/\∀b∈S,b∈T)
 |[]=>([],λb g=>(by cases g),λi d=>by cases d)
 | k::x=>by
  let(T,w,u):=jz.trees n x;by_cases p:k∈f/\∃s t,l[k]?=Y (Y<|.obj s t)
  .let(p,s,t,e):=p;let(v,C,B):=n.get k _ e;rw[if_pos p]at B;obtain r|⟨a,o,rfl,N,S,A,J⟩:=B
   .refine(T,w,λi d m j h c =>?_);obtain z|z:=aT.mp d
    .subst z;rw[e]at c;cases c;exact(v,C,.inl<|lU.mp r)
    exact Ÿ
   .refine(S++T,λb g =>?_,λi d m j h c =>?_)
    .obtain q|q:=aX.mp g
     .exact(J b q,A.here b q)
     .exact w b q
    .obtain z|z:=aT.mp d
     .subst z;rw[e]at c;cases c;exact(_,C,.inr (S,A,λb g=>br _ g))
     .let(v,I,F):=u i z m j h c;refine(v,I,?_);obtain r|⟨L,E,D⟩:=F
      .exact .inl r
      .exact .inr (L,E,λb g=>aG _<|D b g)
  .refine(T,w,λi d m j h c =>?_);obtain z|z:=aT.mp d<;>simp_all
theorem jz.cells(C:bD G H)(env:jz K f G H y l):∀(t:!Nat),∃T:!aD,(∀b∈T,G b=M/\HX H b)/\∀i∈t,i∈f->∀d,l[i]?=Y (Y d)->we d=Z'->∃v,y[i]?=Y (Y v)/\(cM K G d v\/∃a o,v=.ref a/\a∈T/\H a=Y o/\iY K G d o)
 |[]=>([],λb h=>(by cases h),λi x=>by cases x)
 | k::t=>by
  let(T,s,R):=jz.cells C env t;have g:∀u:!aD,(∀b∈T,b∈u)->(∀d,l[k]?=Y (Y d)->k∈f->we d=Z'->∃v,y[k]?=Y (Y v)/\(cM K G d v\/∃a o,v=.ref a/\a∈u/\H a=Y o/\iY K G d o)) ->
    ∀i∈k::t,i∈f->∀d,l[i]?=Y (Y d)->we d=Z'->∃v,y[i]?=Y (Y v)/\(cM K G d v\/∃a o,v=.ref a/\a∈u/\H a=Y o/\iY K G d o):=λu w n i x p d e m=>by
   obtain z|z:=aT.mp x
   .subst z;exact n d e p m
   .let(v,O,N):=R i z p d e m;refine(v,O,?_);obtain r|⟨a,o,J,I,F⟩:=N
    .exact .inl r
    .exact .inr (a,o,J,w a I,F)
  by_cases n:k∈f/\∃d,l[k]?=Y (Y d)/\we d=Z'
  .refine ah λkk =>?_
   let(n,d,e,m):=n;let(v,B,D):=env.get k _ e;rw[if_pos n]at D;refine kk ?_;obtain r|⟨a,o,rfl,A,P⟩:=D
   .exact(T,s,g T (λb h=>h) λE j E E=>by rw[e]at j;cases j;exact(v,B,.inl r))
   .have c:iY K G d o:=by cases d<;>first|exact P|cases m
    cases q:G a with
    |some L=>have:=C a L q;rw[A]at this;cases this;exact(T,s,g T (λb h=>h) λE j E E=>by rw[e]at j;cases j;exact(_,B,.inl<|c.rep q))
    |none=>
     refine(a::T,λb h =>?_,g (a::T) (λb h=>ax _ h) λE j E E=>by rw[e]at j;cases j;exact(_,B,.inr (a,o,W,ay,A,c)));obtain z|z:=aT.mp h
     .subst z;refine(q,o,A,λQ z =>?_);subst z;cases d with
      |lst=>let(_,z,_):=c;cases z
      |ins=>let(_,_,_,z,_):=c;cases z
      |fM=>obtain⟨_,⟨_,z⟩,_⟩:=c;cases z
      |_=>cases m
     .exact s b z
  .exact(T,s,g T (λb h=>h) λd e p m=>absurd (p,d,e,m) n)
def lE(f a b c:!Nat):Bool:=(a.all λi=>f.contains i && (not<|a.contains (Ii i)) && (not<|b.contains i) && (not<|c.contains i))&&(f.all λi=>a.contains i||b.contains i||c.contains i)&&(c.all λj=>f.contains j&&f.contains (Ii j) && (not<|b.contains j))
def TL{f}(h:lE f e g k=Z'):(∀i∈e,i∈f/\Ii i∉e/\i∉g/\i∉k)/\(∀i∈f,i∈e\/i∈g\/i∈k)/\(∀j∈k,j∈f/\Ii j∈f/\j∉g):=by
 simp only[lE,bh,eB,List.contains_eq_mem,vC,Bool.not_eq_true',decide_eq_true_eq,decide_eq_false_iff_not]at h
 lia
set_option tactic.hygienic true
def jz.Xm(s:bD G H)(m:jz K f G H y l)(Q:lE f C dp al=Z'):∃T:!aD,(∀b∈T,G b=M/\HX H b)/\jz K C (iP G H T) H y (Bt dp al l):=by
 let(o1,o2,o3):=TL Q;let(T1,h11,h21):=m.trees f;let(T2,h12,X):=m.cells s f;generalize U:T1++T2=T;have h1:∀b∈T,G b=M/\HX H b:=λb I=>by
  rw[<- U]at I;obtain z|z:=aX.mp I
  .exact h11 b z
  .exact h12 b z
 have h2:∀i∈f,i∈f->∀s t,l[i]?=Y _->∃v,y[i]?=Y (Y v)/\(cM K G t v\/∃S,bQ K G H s t v S/\∀b∈S,b∈T):=λi x Q s t e=>by
  let(v,k,c):=h21 i x Q s t e;refine(v,k,?_);obtain r|⟨S,J,Da⟩:=c
  .exact .inl r
  .exact .inr (S,J,λb I=>by rw[<- U];exact br _<|Da b I)
 have n:=λb I=>(h1 b I).1
 let g:bD G<|iP G H T:=iG n;have fz:∀(i:Nat) (E:Sk) (t:D),l[i]?=Y _->∃v,y[i]?=Y (Y v)/\cM K (iP G H T) t v:=λi E t e=>by
  by_cases x:i∈f
  .let(v,k,c):=h2 i x x E t e;refine(v,k,?_);obtain r|⟨S,J,Da⟩:=c
   .exact cM.mono g t r
   .exact bQ.frozen n Da J
  .let(v,k,c):=m.get i _ e;rw[if_neg x]at c;exact(v,k,cM.mono g t<|lU.mp c)
 refine(T,h1,by rw[m.len];simp[Bt],λi d e =>?_,λj r p hj hm e=>absurd hm (o1 j hj).2.1);unfold Bt at e;rw[List.getElem?_mapIdx]at e;rcases L:l[i]? with _|o
 .rw[L]at e;cases e
 rw[L]at e;simp at e;by_cases R:i∈dp
 .rw[if_pos R]at e;obtain⟨E,t,rfl,rfl⟩|⟨rfl,hc⟩:=Ot e
  .let(v,k,c):=fz i E _ L;exact(v,k,by split;exact .inl c;exact c)
  .by_cases x:i∈f
   .let(v,k,c):=X i x x d L hc;have F:cM K (iP G H T) d v:=by
     obtain r|⟨a,o,rfl,A,h,q4⟩:=c
     .exact cM.mono g d r
     .exact(q4.mono g).rep (by rw[j1<|by grind];exact h)
    exact(v,k,by split;exact .inl F;exact F)
   .let(v,k,c):=m.get i _ L;rw[if_neg x]at c;have F:=cM.mono g d c;exact(v,k,by split;exact .inl F;exact F)
 .rw[if_neg R]at e;by_cases O:i∈al
  .rw[if_pos O]at e;unfold unA at e;split at e
   .rename_i r p;split at e
    .rename_i E t er;refine ah λkk =>?_
     let(g1,g0,s1,t1,s',v,v',g2,g3,g4,g5,g6,g7):=m.dP i r p (o3 i O).1 (o3 i O).2.1 L;rw[er]at g2;cases g2;let(w,k,c):=h2 r g1 g1 E t er;rw[g3]at k;cases k;have F:cM K (iP G H T) d v':=by
      obtain q|⟨S,J,Da⟩:=c
      .let(u,P,f4):=uC s q e;rw[g5]at P;cases P;exact cM.mono g d f4
      .let(u,T1,U1,P,f4,f5,_):=J.focus g6 e;rw[g5]at P;cases P;exact bQ.frozen n (λb I=>Da b<|f5.symm.subset<|br _ I) f4
     exact kk<|(v',g4,by split;exact .inl F;exact F)
    .cases e
   .cases e
  .rw[if_neg O]at e;subst e;let(v,k,c):=m.get i d L;refine(v,k,?_);by_cases x:i∈C
   .rw[if_pos x];rw[if_pos (o1 i x).1]at c;cases d with
    |obj E t=>let(u,J,Da):=fz i E t L;rw[k]at J;cases J;exact .inl<|lU.mpr Da
    |dP r p=>
     obtain q|⟨a,o,rfl,_⟩:=c
     .exact .inl<|uD.mpr<|uD.mp q
     .exact .inl<|uD.mpr (a,W)
    |lst=>obtain q|⟨a,o,B,A,h⟩:=c;exact .inl<|cM.mono g _ q;exact .inr (a,o,B,A,iY.mono g (d :=.lst _) h)
    |ins=>obtain q|⟨a,o,B,A,h⟩:=c;exact .inl<|cM.mono g _ q;exact .inr (a,o,B,A,iY.mono g (d :=.ins _ _ _) h)
    |fM=>obtain q|⟨a,o,B,A,h⟩:=c;exact .inl<|cM.mono g _ q;exact .inr (a,o,B,A,iY.mono g (d :=.fM _ _) h)
    |_=>obtain q|⟨a,o,B,A,h⟩:=c;exact .inl<|cM.mono g _ q;exact h.elim
   .rw[if_neg x];by_cases N:i∈f
    .obtain z|z|z:=o2 i N
     .exact absurd z x
     .exact absurd z R
     .exact absurd z O
    .rw[if_neg N]at c;exact cM.mono g d c
end
section
variable {X:Cx}{m:Pos}
def qo(A I:!Nat)(f:DF):DF:=λρ=>(f<|Bt A I ρ).bind λd=>if qN d=Z' then Y d else M
set_option tactic.hygienic true in
def Rk{f}(O A I)(h:PE X e<|tP X.K O f)(s:‹lE Z O A I=true›):PE X e<|tP X.K Z<|qo A I f:=h.imp <|by
 rintro J H Q ⟨G,ρ,d,j,n,a,k⟩;let(c,t,a):=ae.1 a;split at a
 .rename_i q;cases a;let(T,o,g):=n.Xm j s;refine(_,_,d,jL j,g,t,λv N L E r =>?_);let(u,p):=vc j (λb i=>(o b i).1) (λb i=>(o b i).2) E;exact k v _ L u<|FE p q r
 .cases a
def wO(A I:!Nat)(f:DT):DT:=λρ=>f<|Bt A I ρ
def Lc{f}(O A I)(h:PT X e<|qg X.K O f)(n:‹lE Z O A I=true›):PT X e<|qg X.K Z<|wO A I f:=h.imp <|by
 rintro J H Q ⟨G,ρ,d,g,i,o,k⟩;let(T,j,a):=i.Xm g n;refine(_,_,d,jL g,a,o,λN L E =>?_);let(p,q):=vc g (λb c=>(j b c).1) (λb c=>(j b c).2) E;exact k _ L p
def U6(A I:!Nat)(f:DL):DL:=λρ=>(f<|Bt A I ρ).bind λd=>if pj d=Z' then Y d else M
set_option tactic.hygienic true in
def WQ{f}(O A I)(h:PE X e<|tF X.K O f)(i:‹lE Z O A I=true›):PE X e<|tF X.K Z<|U6 A I f:=h.imp <|by
 rintro J H Q ⟨G,ρ,d,p,s,a,k⟩;unfold U6 at a;let(c,D,a):=ae.1 a;split at a
 .rename_i y;cases a;let(T,n,g):=s.Xm p i;refine(iP G H T,Bt A I ρ,d,jL p,g,D,λq u N L E t C B r =>?_);let(F,v):=vc p (λb j=>(n b j).1) (λb j=>(n b j).2) E;let x:q∉T:=λz=>by let(o,i,_):=(n q z).2;rw[t]at i;cases i
  exact k q u _ L F t (by rw[bC x];exact C) B<|vN v y r
 .cases a
noncomputable def Gk:Sk->Bool
 |.lf=>Z'|_=>Z_
def DJ{s}(h:Gk s=Z'):s=.lf:=by cases s<;>first|rfl|cases h
def vd(i:Nat)(c f:aM):DF:=λρ=>(eV i ρ).bind λd=>match d with
 |.obj (.fs g e) (.ins a b ds)=>if (g=c/\a=c)/\Gk (cZ e f)=Z' then (EF f b).bind λn=>ds[n]? else M
 |_=>M
set_option tactic.hygienic true
def ad7{i}{c f}(h:PE X (.Name x p)<|eS i)(j:pP X.K c f)(hi:‹i∈Z›)(hb:@&(bJ (.Name x p) f X.env (eval (.Name x p) X.env)=eval (.Name x p) X.env)):PE X (.Attribute (.Name x p) f l)<|tP X.K Z<|vd i c f:=
 (nO h hb).imp <|by
  rintro J H Q ⟨G,ρ,d,q,y,e,k⟩;unfold vd at e;rw[ae]at e;let(o,z,e):=e;split at e
  .rename_i c' fk c'' E ds;split at e
   .rename_i U;obtain⟨⟨rfl,rfl⟩,hl⟩:=U;rcases g:EF f E with _|m
    .simp_all
    rw[g]at e;let(v,K,F):=y.get i _<|gS z;rw[if_pos hi]at F;obtain r|⟨a,o,rfl,e3,S,e4,e5⟩:=F
    .let(a,C,B,w,rfl,n,ha,b,R):=jh.mp<|lU.mp r;let(u,eu,P):=R.get e;exact(_,K,a,C,B,_,u,W,q _ _ ha,(j C n).1,(j C n).2,by rw[pA g];exact eu,k u G H (.refl q) P)
    .cases e4 with
     |@ins _ _ _ _ _ C B w S n ea b t=>
      let s:(E.map<|cZ fk)[m]?=Y .lf:=by rw[aY,uW g,<- DJ hl];exact Ÿ
      let(D,T1,U1,f1,T,_):=t.at s e;cases T with
      |leaf r=>exact(_,K,a,C,B,_,D,W,ea,(j C n).1,(j C n).2,by rw[pA g];exact f1,k D G H (.refl q) r)
   .cases e
  .cases e
end
def J_(b:Bool)(j:Nat)(ρ:cf):↑(Nat×Br):=match b,eV j ρ with
 |false,Y (.obj _ _)=>Y (j,[])|true,Y (.dP r p)=>Y (r,p)|_,_=>M
def AN(r:Nat)(ρ:cf):↑(Sk×D):=match eV r ρ with|some (.obj s t)=>Y (s,t)|_=>M
set_option tactic.hygienic true in
theorem mq{s}(h:AN r ρ=Y (s,t)):ρ[r]?=Y (Y<|.obj s t):=by
 unfold AN at h;split at h
 .rename_i e;cases h;exact gS e
 .cases h
section
variable {K:aS}
set_option tactic.hygienic true in
def SR.J_(S:SR K B Z G H J ρ)(h:J_ b j ρ=Y (r,p))(d:j∈Z)(u:b=Z'->Ii j∈Z):r∈Z/\∃s t a f,ρ[r]?=Y (Y<|.obj s t)/\J[r]?=Y (Y<|.ref a)/\J[j]?=Y (Y f)/\dm H p (.ref a)=Y f:=by
 unfold L2.J_ at h;split at h
 .rename_i e;cases h;let e:=gS e;let(a,T,c,_):=S.tree d e;exact(d,_,_,a,_,e,c,c,W)
 .rename_i e;refine ah λkk =>?_
  cases h;let(k,C,q,o,y,w,n,i,g,x,v,z):=S.dP j r p d (u W)<|gS e;let(a,T,c,_):=S.tree k i;rw[c]at g;cases g;exact kk<|(k,q,o,a,n,i,c,x,v)
 .cases h
def zH(d:x∈T):bD (dg H T)<|cO H x o:=λb u e=>by
 grind [dW,bC,aI]
def SR.Zk{s}{f}{l}{d}{v:V}(S:SR K B Z G H J ρ)(Q:r∈Z)(R:ρ[r]?=Y (Y<|.obj s t))(w:jG p s=Y (.fs c fk))(ep:gZ p t=Y (.ins c h l))(hf:Gk (cZ fk f)=Z')(ha:f∉GW)(rv:cM K G d v):
  ∃a x C k i,J[r]?=Y (Y<|.ref a)/\dm H p (.ref a)=Y (.ref x)/\jf K aW c=Y (Y<|.ref C)/\H x=Y (.ins C k<|h.zip i)/\h.length=i.length /\
   SR K B Z G (cO H x<|.ins C k<|lg f v<|h.zip i) J (ρ.set r<|Y<|.obj s<|gX (.ins c (jd f d h l).1 (jd f d h l).2) p t):=by
 refine ah λkk =>?_
 let(a,T,e1,o1,nd,P,F,Da,hF):=S.tree Q R;let(x,C,k,i,h1,X,h3,U,h5,h6,T',o2,u,n):=o1.put nd w ep (bD.refl G) (λm m m e=>e) (by rw[DJ hf];exact Ÿ) Ÿ λb j=>by cases j
 refine kk<|(a,x,C,k,i,e1,h1,h3,U,h6,S.X0 Da hF Q R e1 (zH X,bD.refl _,λb o e =>?_,λb o e =>.inl e) o2 u (λb j =>?_) λq v' hq hv =>?_)
 .rw[aI<|λz=>by simp_all];exact S.gh b o e
 .simp_all
 .refine u0 U aP (λb j o e=>by rw[aI j];exact e) (λg hg =>?_) hv;let y:g≠f:=λz=>ha (z ▸ hq g hg)
  rw[qS,if_neg y]
def SR.Ej{s}{X}(S:SR K B Z G H J ρ)(hr:r∈Z)(hd:ρ[r]?=Y (Y<|.obj s t))(w:jG p s=Y u)(ep:gZ p t=Y X):
  ∃a x i,J[r]?=Y (Y<|.ref a)/\dm H p (.ref a)=Y x/\bQ K G H u X x i/\i.Nodup/\(∀b∈i,G b=M) /\
   ∀(g:D) (f:!aD) (N L:Hp),f_ G (dg H i) N L->bQ K N L u g x f->f.Nodup->(∀b∈f,N b=M/\(b∈i\/H b=M))->dm L p (.ref a)=Y x/\SR K B Z N L J ((bP r ρ).set r<|Y<|.obj s<|gX g p t):=by
 let(a,T,e1,C,nd,nf,F,Da,hF):=S.tree hr hd;let(x,i,U,h1,o2,v,k1):=C.focus w ep;let k:=v.nodup_iff.mp nd;rw[b8]at k;let(n1,n2,n3):=k;have h:∀b∈i,b∈T:=λb d=>v.symm.subset<|br _ d
 have n:∀b∈U,b∈T:=λb d=>v.symm.subset<|aG _ d
 let R:=λb d Q=>n3 b Q b d W
 refine(a,x,i,e1,h1,o2,n1,λb d=>(nf b<|h b d).1,λg f N L E nw l j =>?_);let(gv,T',o3,p3):=k1 N L g f E.gg (λb d o e=>E.hh b o<|by rw[bC<|R b d];exact e) nw;refine(gv,?_);refine S.vi Da hF hr hd e1 (λb o e =>?_,E.gg,E.gh,λb o e =>?_) o3 ?_ λb d =>?_
 .by_cases d:b∈T
  .rw[dW d]at e;cases e
  .rw[bC d]at e;exact E.hh b o (by rw[bC<|λz=>d<|h b z];exact e)
 .obtain z|z:=E.fr b o e
  .exact .inl z
  .refine .inr ?_;by_cases d:b∈T
   .rw[dW d]
   .rw[bC d];rw[bC<|λz=>d<|h b z]at z;exact z
 .rw[p3.nodup_iff,b8];refine(l,n2,λb d c hc z =>?_);subst z;rcases(j b d).2 with z|z
  .exact R b hc z
  .let(o,P,_):=C.here b<|n b hc;rw[P]at z;cases z
 .obtain q|q:=aX.mp (p3.subset d)
  .refine((j b q).1,?_);rcases(j b q).2 with z|z<;>simp_all
  .refine(?_,.inl<|n b q);rcases z:N b with _|o
   .rfl
   obtain y|y:=E.fr b o z
   .rw[(nf b<|n b q).1]at y;cases y
   .let(o,P,_):=C.here b<|n b q;rw[bC<|R b q,P]at y;cases y
end
mutual
noncomputable def Sk.K8:Sk->Sk->Bool
 |.lf,.lf=>Z'|.li s,.li t=>Sk.K8 s t|.fs c k,.fs d l=>decide (c=d)&&Sk.Zp k l|.di,.di=>Z'|.pr s,.pr t=>Sk.K8 s t|.dt s,.dt t=>Sk.K8 s t|_,_=>Z_
noncomputable def Sk.Zp:!(aM×Sk)->!(aM×Sk)->Bool
 |[],[]=>Z'|(c,s)::k,(d,t)::l=>decide (c=d)&&(Sk.K8 s t&&Sk.Zp k l)|_,_=>Z_
end
mutual
theorem Sk.kL:∀ {s t:Sk},Sk.K8 s t=Z'->s=t
 |.li s,t,h=>by cases t with|li t=>exact congrArg Sk.li (Sk.kL h)|_=>cases h
 |.pr s,t,h=>by cases t with|pr t=>exact congrArg Sk.pr (Sk.kL h)|_=>cases h
 |.dt s,t,h=>by cases t with|dt t=>exact congrArg Sk.dt (Sk.kL h)|_=>cases h
 | .fs c k,t,h=>by
  cases t with
  |fs d l=>let(a,b):=yb.mp h;rw[of_decide_eq_true a,Sk.K7 b]
  |_=>cases h
 |.lf,t,h|.di,t,h=>by cases t<;>first|rfl|cases h
theorem Sk.K7:∀ {k l:!(aM×Sk)},Sk.Zp k l=Z'->k=l
 |[],l,h=>by cases l<;>first|rfl|cases h
 | (c,s)::k,l,h=>by
  cases l with
  |nil=>cases h|cons d l=>let(a,b):=yb.mp h;let(x,y):=yb.mp b;rw[Sk.K7 y,Sk.kL x,of_decide_eq_true a]
end
def Bf(c:aM)(s:Sk)(t:D)(p:Br):↑(!(aM×Sk)×!aM×!D):=match jG p s,gZ p t with
 |some (.fs f d),Y (.ins a b e)=>if f=c/\a=c then Y (d,b,e) else M
 |_,_=>M
def wg{s}(h:Bf c s t p=Y (b,a,d)):jG p s=Y (.fs c b)/\gZ p t=Y (.ins c a d):=by
 unfold Bf at h;split at h<;>simp_all
section
variable {X:Cx}
def eZ(b:Bool)(j:Nat)(c f:aM)(h:DF):DG:=λa=>(h a).bind λd=>(J_ b j a).bind λq=>(AN q.1 a).bind λe=>(Bf c e.1 e.2 q.2).bind λz=>
 if Gk (cZ z.1 f)=Z'/\z.2.1.length<999 then Y (.nx<|a.set q.1<|Y<|.obj e.1<|gX (.ins c (jd f d z.2.1 z.2.2).1 (jd f d z.2.1 z.2.2).2) q.2 e.2) else M
set_option tactic.hygienic true in
def Vg{b}{c f}(h:PE X (.Name x p)<|eS j)(he:PE X e<|tP X.K Z y)(w:pP X.K c f)(hj:‹j∈Z›)(hb:‹b=Z'->Ii j∈Z›)(ha:‹f∉GW›)(hs:@&(cm e (Y<|.Attribute (.Name x p) f A) g.line X.env=c9 false)):PS X (.Assign [.Attribute (.Name x p) f A] e g)<|gO X.K B I Z Z<|eZ b j c f y:=(Dj h he hs).imp <|by
 rintro D σ H ⟨G,q,o,S,i,k⟩;let(d,ef,i):=ae.1 i;rcases l:J_ b j q with _|⟨r,T⟩
 .simp[l]at i
 rcases n:AN r q with _|⟨s,t⟩
 .simp[l,n]at i
 rcases u:Bf c s t T with _|⟨fk,ks,ds⟩
 .simp[l,n,u]at i
 simp only[l,n,u,av]at i;split at i
 .rename_i hz;cases i;let(i1,U):=wg u;refine(G,q,d,S.gh,S.hI,ef,λv G' H' E R =>?_);let P:=S.ext E;refine ah λkk =>?_
  let(hr,s',t',a,v',J,e2,e3,e4):=P.J_ l hj hb;let m:=mq n;rw[m]at J;let(a',Q,C,dx,vs,K,F,z,f4,f5,f6):=P.Zk hr m i1 U hz.1 ha R;rw[e2]at K;cases K;rw[e4]at F;cases F;refine kk<|(_,e3,Q,C,dx,_,W,f4,(w C z).1,(w C z).2,?_,k _ G' _ f6);rw[t_ f5];lia
 .cases i
def gd(b:Bool)(j:Nat)(c f:aM)(h:Int->Int->Int)(i:DF):DG:=λa=>(i a).bind λd=>(J_ b j a).bind λq=>(AN q.1 a).bind λe=>(Bf c e.1 e.2 q.2).bind λz=>match (z.2.1.zip z.2.2).lookup f,d with
 |some (.int m),.int n=>if Gk (cZ z.1 f)=Z'/\z.2.1.length<999 then Y (.nx<|a.set q.1<|Y<|.obj e.1<|gX (.ins c (jd f (.int<|h m n) z.2.1 z.2.2).1 (jd f (.int<|h m n) z.2.1 z.2.2).2) q.2 e.2) else M
 |_,_=>M
theorem wL{f}:∀ {ks:!aM}{ds:!D}{u:D},(ks.zip ds).lookup f=Y u->∃m,EF f ks=Y m/\ds[m]?=Y u
 |[],a,u,h=>by simp at h
 |k::ks,[],u,h=>by simp at h
 | k::ks,v::a,u,h=>by
  simp only[d7,fO]at h;cases e:f==k with
  |true=>rw[e]at h;cases h;exact(0,by simp[EF,e],W)
  |false=>
   rw[e]at h;let(m,c,b):=wL h
   simp_all [EF]
theorem SR.afM{K}{o}{s}{f}{v}(S:SR K B Z G H k o)(Q:r∈Z)(hd:o[r]?=Y (Y<|.obj s t))(J:jG q s=Y (.fs c h))(ep:gZ q t=Y (.ins c b v))(X:Gk (cZ h f)=Z')(R:(b.zip v).lookup f=Y d):
  ∃a x C j e u,k[r]?=Y (Y<|.ref a)/\dm H q (.ref a)=Y (.ref x)/\jf K aW c=Y (Y<|.ref C)/\H x=Y (.ins C j<|b.zip e)/\(b.zip e).lookup f=Y u/\cM K G d u:=by
 refine ah λkk =>?_
 let(a,T,e1,P,_):=S.tree Q hd;let(x,T1,U,h1,g,_):=P.focus J ep;refine kk ?_;cases g with
 |@ins _ _ _ _ w C j e S0 n ex l z=>
  let(m,p,e2):=wL R;let i:(b.map<|cZ h)[m]?=Y .lf:=by rw[aY,uW p,<- DJ X];exact Ÿ
  let(y,T1,U1,f1,E,_):=z.at i e2;cases E with
  |leaf r=>exact(a,w,C,j,e,y,e1,h1,n,ex,by rw[pA p];exact f1,r)
set_option tactic.hygienic true in
def Zw{b:Bool}{c f}{op}{o}(y:NL X o<|X4 op)(h:PE X (.Name x p)<|eS j)(he:PE X e<|tP X.K Z fe)(hc:pP X.K c f)(hj:‹j∈Z›)(hb:‹b=Z'->Ii j∈Z›)(ha:‹f∉GW›):
  PS X (.AugAssign (.Attribute (.Name x p) f A) o e g) (gO X.K B I Z Z<|gd b j c f op fe):=(Ms h he y).imp <|by
 rintro D σ H ⟨G,w,o,S,i,k⟩;let(d,ef,i):=ae.1 i;rcases q:J_ b j w with _|⟨r,pt⟩
 .simp[q]at i
 rcases u:AN r w with _|⟨s,t⟩
 .simp[q,u]at i
 rcases K:Bf c s t pt with _|⟨fk,ks,ds⟩
 .simp[q,u,K]at i
 simp only[q,u,K,av]at i;split at i
 .rename_i m n z;split at i
  .rename_i T;cases i;let(R,Q):=wg K;let(U,s',t',a,v',e1,e2,e3,e4):=S.J_ q hj hb;let l:=mq u;let(a1,x1,P,J,Xa,u1,g1,g2,F,g4,g5,g6):=S.afM U l R Q T.1 z;rw[e2]at g1;cases g1;rw[e4]at g2;cases g2;cases bY.mp g6;refine(_,e3,x1,P,J,_,_,W,g4,(hc P F).1,(hc P F).2,g5,G,w,_,S.gh,S.hI,ef,λv G' H' E r =>?_);refine ah λkk =>?_
   cases bY.mp r;let(a',x',C,dx,vs,f1,f2,f3,f4,f5,f6):=(S.ext E).Zk U l R Q T.1 ha<|bY.mpr W;rw[e2]at f1;cases f1;rw[fZ E.hh e4]at f2;cases f2;rw[F]at f3;cases f3;refine kk<|(_,_,W,W,dx,_,f4,?_,k _ G' _ f6);rw[t_ f5];lia
  .cases i
 .cases i
inductive Fe (K:aS) (Z:!Nat) (s:Sk) (f:DF) (i:St) (H:Hp) (Q:VK):Prop
 |mk G h d:bD G H->jz K Z G H i h->f h=some d->(∀v a e c,f_ G H e c->bQ K e c s d v a->a.Nodup->(∀b∈a,e b=none/\H b=none)->Q v c)->Fe K Z s f i H Q
def af3{s}:PE X (.List [] g)<|Fe X.K Z (.li s)<|eK<|.lst []:=(Rn mR).imp <|by
 rintro o H Q ⟨G,f,d,j,a,l,k⟩;cases l;refine(G,f,[],j,a,W,λq p n m E i h e r =>?_);rw[cF.mp r]at e;exact k _ [q] n m E (.lst e .nil) ż λb c=>by simp_all
abbrev Op:=eK<|.fM [] []
def af4:PE X (.Dict [] [] g)<|Fe X.K Z .di Op:=FP.imp <|by
 rintro i H Q ⟨G,j,d,e,h,f,k⟩;cases f;exact λq a=>k _ [q] G _ (f_.lay e a) (.fM aP W .nil) ż λb c=>by simp at c;subst c;exact(e.free a,a)
noncomputable def QZ(c:aM)(f:DF):DF:=λb=>(f b).bind λd=>match d with|.ins a e h=>if a=c then Y (.ins a e h) else M|_=>M
set_option tactic.hygienic true in
def Vp{c}{f}(h:PE X e<|tFC X.K Z f):PE X e<|Fe X.K Z (.fs c [])<|QZ c f:=h.imp <|by
 rintro x H Q ⟨G,l,d,t,i,a,k⟩;let(y,u,a):=ae.1 a;split at a
 .split at a
  .rename_i m;cases a;subst m;exact(G,l,_,t,i,u,λq o w v E s p n r=>k _ [q] w v E (zj.mpr ((o,n,r),W)) ż λb j=>Ż)
  .cases a
 .cases a
noncomputable def Zt(f:DF):DF:=λa=>(f a).map λd =>.lst [d]
def ZJ{s}{f}(h:PE X e<|Fe X.K Z s f)(x:@&(ak (e::[]) X.env=(Z_,eval e X.env)::ak [] X.env)):PE X (.List [e] g)<|Fe X.K Z (.li s)<|Zt f:=(zh<|bZ h dw x).imp <|by
 rintro F H Q ⟨G,t,d,B,m,i,k⟩;let(y,C,i):=aj.1 i;cases i;refine(G,t,y,B,m,C,λv r D K E n w u=>(by simp;exact bM ż uU,λq c =>?_));have a:q∉r:=λz=>by let(o,p,_):=n.here q z;lia
 refine k _ _ D _ (E.trans<|f_.lay E.gh c) (.lst aP<|.cons (n.mono (bD.refl _) λb l o e =>?_) .nil) ?_ λb l =>?_
 .grind [aI]
 .simp[a,w]
 .obtain z|z:=aT.mp l
  .subst z;exact(E.gh.free c,E.hh.free c)
  simp_all
def ZG{s}{f}(h:PE X e<|Fe X.K Z s f):PE X e<|tP X.K Z f:=h.imp <|by
 rintro t H Q ⟨G,m,d,p,i,q,k⟩;refine(G,m,d,p,i,q,λv j r l E n u c=>k v (iP r l j) l (E.hh,E.gg.trans<|iG λb a=>(c b a).1,jL E.gh,λb o e =>?_)<|n.frozen (λb a=>(c b a).1) λb a=>a);by_cases a:b∈j
 .exact .inr (c b a).2
 .rw[iB a]at e;exact E.fr b o e
noncomputable def yY(i:Nat)(s:Sk)(f:DF):DG:=λa=>(f a).map λd =>.nx<|a.set i<|Y<|.obj s d
def SR.aeD{K}{m}{s}(S:SR K B Z G H t m)(C:i∈Z)(E:f_ G H l n)(v:bQ K l n s d (.ref a) k)(x:k.Nodup)(u:∀b∈k,l b=M/\H b=M)(c:∀a,(i,a)∉B.3)(y:A9 i∉Z\/∀d,m[i]? ≠ Y (Y d)):SR K B Z l n (t.set i<|Y<|.ref a)<|m.set i<|Y<|.obj s d:=by
 let(F,Da):=S.ow;exact S.chg (F0:=[]) Da C (λb f=>by cases f) E.gg E.gh λb o e=>by obtain z|z:=E.fr b o e<;>simp_all (λb o r e=>E.hh b o e)
  v x (λb f=>((u b f).1,.inr (u b f).2)) (λb h=>absurd h<|c b) (λr p z=>by cases z) λj q P g r e=>by
   let(_,R,s0,U,X,w,T,Q,_):=S.dP j i q P g e
   simp_all
def D3{i:Nat}{s:Sk}{f:DF}(C:X.N.Nodup)(u:X.N[i]?=Y x)(p:Loc X.env.scope x)(y:PE X e<|Fe X.K Z s f)(r:‹i∈Z›)(c:autoParam (∀a,(i,a)∉B.3) ť)(t:‹A9 i∉Z›)(b:@&(Gk s=false))(q:@&(cm e (Y<|.Name x A) g.line X.env=c9 false))(w:autoParam (X.fn x=Z'\/X.env.scope.names.lookup x=Y .local) ŧ):
  PS X (.Assign [.Name x A] e g) (gO X.K B I Z Z<|yY i s f):=(jZ C u p y q w).imp <|by
 rintro D P H ⟨G,l,o,S,h,k⟩;unfold yY at h;let(d,F,h):=aj.1 h;cases h;refine(G,l,d,S.gh,S.hI,F,λv Q J K E j n m =>?_);let(a,rfl):=j.isRef (λz=>by rw[z]at b;cases b);exact k _ J K<|S.aeD r E j n m c<|.inl t
def ph(j:Nat)(c f:aM)(l:Sk)(m:DF):DG:=λa=>(m a).bind λd=>(AN j a).bind λh=>match h.1,h.2 with
 |.fs n i,.ins e b k=>if (n=c/\e=c)/\Sk.K8 (cZ i f) l=Z'/\b.length<999 then Y (.nx<|(bP j a).set j<|Y<|.obj (.fs c i)<|.ins c (jd f d b k).1 (jd f d b k).2) else M
 |_,_=>M
def SR.Tf{K}{v g}{X}{f}(S:SR K B Z G H X ρ)(hr:r∈Z)(hd:ρ[r]?=Y (Y<|.obj (.fs c fk)<|.ins c n U))(E:f_ G H v g)(o1:bQ K v g (cZ fk f) d u S1)(nd1:S1.Nodup)(m:∀b∈S1,v b=M/\H b=M):
  ∃x C Q w,X[r]?=Y (Y<|.ref x)/\jf K aW c=Y (Y<|.ref C)/\g x=Y (.ins C Q<|n.zip w)/\n.length=w.length /\
   SR K B Z v (cO g x<|.ins C Q<|lg f u<|n.zip w) X ((bP r ρ).set r<|Y<|.obj (.fs c fk)<|.ins c (jd f d n U).1 (jd f d n U).2):=by
 refine ah λkk =>?_
 let(a,T,e1,ot,nd,nf,F,Da,hF):=S.tree hr hd;let inH:∀b∈T,∃o,H b=Y o:=λb l=>by let(o,s,_):=ot.here b l;exact(o,s)
 let dj:∀b∈S1,b∉T:=λb l hb'=>by let(o,s):=inH b hb';rw[(m b l).2]at s;cases s
 let(x,C,Q,w,h1,h2,h3,h4,h5,h6,T',o2,nd2,sub):=ot.put (p:=[]) (f:=f) nd W W E.gg (λb q o e=>E.hh b o e) o1 nd1 dj;cases h1;let hu:=fY (r:=r) hd (λq z=>by cases z);let S':=(S.ext E).yN (r:=r);let Wx:=Da.ext E;let W':jT K B Z v g X (bP r ρ) F:=(λi d P e=>Wx.it i d P (bE e).1,λi d P e=>Wx.ok i d P (bE e).1,λi j d c P hj ei ej=>Wx.ap i j d c P hj (bE ei).1 (bE ej).1);have gT:∀b∈T,v b=none:=λb l=>by rw[<- hF]at l;exact((Wx.ok r _ hr hd).2 b l).1
 let R:=S'.Ee (i:=r) (a:=a) (d' :=.obj (.fs c fk) _) (F0:=T) (S':=T') (G':=v) W' hr (λb l=>(by rw[hF];exact l,_,hu)) (bD.refl _) (λb o e=>by
   let t:b≠a:=λz=>by rw[z,gT a h2]at e;cases e
   rw[aI t];exact E.gh b o e) (λb o e =>.inl e) (λb o l e=>by
   let t:b≠a:=λz=>l (z ▸ h2)
   rw[aI t];exact e) o2 nd2 (λb l=>by
   obtain z|z:=sub b l
   .exact(gT b z,.inl z)
   .refine((m b z).1,.inr<|.inr (S.h0.free (m b z).2,λk c hk ek UH hbk =>?_));let(y,f1,f2):=Da.it k c hk (bE ek).1;let(o,s):=f2.here b hbk;rw[(m b z).2]at s;cases s) (λb h=>by have:=(S.pin r b h).2;simp_all) (λr p z=>by cases z)
  (λj p q q q e=>absurd W<|(bE e).2 p)
 let R:=R.1;rw[de e1]at R;exact kk<|(a,C,Q,w,e1,h3,E.hh _ _ h4,h6,R)
set_option tactic.hygienic true
def Q7{c f}{s1:Sk}(h:PE X (.Name x p)<|eS j)(P:PE X e<|Fe X.K Z s1 q)(n:pP X.K c f)(J:‹j∈Z›)(K:@&(cm e (Y<|.Attribute (.Name x p) f A) g.line X.env=c9 false)):PS X (.Assign [.Attribute (.Name x p) f A] e g)<|gO X.K B I Z Z<|ph j c f s1 q:=(Dj h P K).imp <|by
 rintro D σ H ⟨G,l,o,S,a,k⟩;let(d,ef,a):=ae.1 a;rcases i:AN j l with _|⟨s,t⟩
 .simp[i]at a
 simp only[i,av]at a;split at a
 .split at a
  .rename_i F;obtain⟨⟨rfl,rfl⟩,b,z⟩:=F;cases a;refine(G,l,d,S.gh,S.hI,ef,λv S1 G' H' E m y w =>?_);rw[<- Sk.kL b]at m;let(u,C,dx,vs,f1,r,U,T,R):=S.Tf J (mq i) E m y w;refine(_,f1,u,C,dx,_,W,U,(n C r).1,(n C r).2,?_,k _ G' _ R);rw[t_ T];omega
  .cases a
 .cases a
end
def rT(c f:aM)(j:Nat)(A:cf):↑(!(aM×Sk)×!aM×!D×D):=(AN j A).bind λb=>match b.1,b.2 with
 |.fs k i,.ins a d e=>if k=c/\a=c then (EF f d).bind λn=>(e[n]?).map λh=>(i,d,e,h) else M
 |_,_=>M
set_option tactic.hygienic true in
def kH{f}{m}(h:rT c f j A=Y (a,e,m,o)):A[j]?=Y (Y<|.obj (.fs c a)<|.ins c e m)/\jG [.fld f] (.fs c a)=Y (cZ a f)/\gZ [.fld f] (.ins c e m)=Y o:=by
 unfold rT at h;rcases i:AN j A with _|⟨s,t⟩
 .simp_all
 rw[i]at h;simp at h;split at h
 .rename_i u q r d l;split at h
  .rename_i p;let(rfl,rfl):=p;rcases b:EF f d with _|n
   .simp[b]at h
   rcases k:l[n]? with _|y
   .simp_all
   simp only[b,k,av,gy,rP,AV]at h;let(rfl,rfl,rfl,rfl):=h;exact(mq i,W,by simp[gZ,b,k])
  .cases h
 .cases h
abbrev zb(c f:aM)(b:!(aM×Sk))(a:!aM)(d:!D)(x:D):D :=.obj (.fs c b)<|gX x [.fld f]<|.ins c a d
section
variable {K:aS}
theorem SR.Gu{f}{s}{v}(S:SR K B Z G H J A)(p:r∈Z)(q:A[r]?=Y (Y<|.obj (.fs c s)<|.ins c e v))(t:J[r]?=Y (Y<|.ref a))(b:dm H [.fld f] (.ref a)=Y x):
  ∃C d h,jf K aW c=Y (Y<|.ref C)/\H a=Y (.ins C d h)/\h.lookup f=Y x:=by
 refine ah λkk =>?_
 let(y,T,k,o,_):=S.tree p q;rw[t]at k;cases k;refine kk ?_;cases o with
 |@ins _ _ _ _ _ C d m z n i l w=>refine(C,d,_,n,i,?_);simp only[dm,i]at b;let(u,j,b):=ae.1 b;rw[j,b]
def SR.uh{p}{s}(S:SR K B Z G H J A)(E:r∈Z)(F:A[r]?=Y (Y<|.obj s t))(g:jG p s=Y j)(I:gZ p t=Y n):
  ∃a x f,J[r]?=Y (Y<|.ref a)/\dm H p (.ref a)=Y x/\bQ K G H j n x f/\f.Nodup /\
   ∀(l:aD) (o:HO) (d:D) (c:!aD),l∈f->bQ K G (cO H l o) j d x c->c.Nodup->(∀b∈c,b∈f)->SR K B Z G (cO H l o) J ((bP r A).set r<|Y<|.obj s<|gX d p t):=by
 let(a,x,f,R,P,w,C,q,k):=S.Ej E F g I;refine(a,x,f,R,P,w,C,λl o d c v y m h=>(k d c G _ (zH v,bD.refl _,λb u e =>?_,λb u e =>.inl e) y m λb i=>(q b<|h b i,.inl<|h b i)).2);rw[aI λz=>by simp_all];exact S.gh b u e
end
section
variable {X:Cx}
def Wb(j:Nat)(c f:aM)(b:DF):DG:=λA=>(rT c f j A).bind λq=>(b A).bind λd=>match q.2.2.2 with
 |.lst a=>if Sk.K8 (cZ q.1 f) (.li .lf)=Z'/\a.length<dZ then Y (.nx<|(bP j A).set j<|Y<|zb c f q.1 q.2.1 q.2.2.1<|.lst<|a++[d]) else M
 |_=>M
set_option tactic.hygienic true in
def ad2{c f:aM}(h:PE X (.Name x p)<|eS j)(he:PE X e<|tP X.K Z fe)(hc:pP X.K c f)(hj:‹j∈Z›)(Y':@&(bJ (.Name x p) f X.env (eval (.Name x p) X.env)=eval (.Name x p) X.env))(s:@&(bJ (.Attribute (.Name x p) f I) "append" X.env (eval (.Attribute (.Name x p) f I) X.env)=eval (.Attribute (.Name x p) f I) X.env)) (u:@&(((b9 N<|ak (e::[]) X.env).all (λx=> (not x.1))&&(ey N<|cD [] X.env).all (λx=>x.1.isSome)
   && decide ((e::[]).length+([]:!gJ).length+(if ([]:!gJ).isEmpty then 0 else 1)<30))=true)) (q:@&((U.endLine==N.line)=true)) (hs:@&(ak (e::[]) X.env=(Z_,eval e X.env)::ak [] X.env)) (m:@&((b9 N<|ak [] X.env).any (·.1)=false)) (hsw:@&(cm (.Call (.Attribute (.Attribute (.Name x p) f I) "append" U) [e] [] N) M L.line X.env=c9 false)) :
  PS X (.Expr (.Call (.Attribute (.Attribute (.Name x p) f I) "append" U) [e] [] N) L) (gO X.K B Q Z Z<|Wb j c f fe):=
 (lV (uI fX PySem.F.slot_list_append PySem.F.type_list_append jM (nO h Y') (bZ he dw hs) s u q hs m) hsw).imp <|by
  rintro D J H ⟨G,A,o,S,i,k⟩;obtain⟨⟨fk,ks,ds,t1⟩,et,i⟩:=ae.1 i;rcases ef:fe A with _|d
  .simp[ef]at i
  simp only[ef,av]at i;split at i
  .split at i
   .rename_i hz;refine ah λkk =>?_
    cases i;let(hd,i1,i2):=kH et;rw[Sk.kL hz.1]at i1;let(a,y,T1,e1,e2,o1,_):=S.uh hj hd i1 i2;let(C,dx,fs,n,f1,f2):=S.Gu hj hd e1 e2;refine kk ?_;cases o1 with
    |@lst _ _ l vs S0 hl tt=>
     refine(_,e1,a,C,dx,fs,_,W,f1,(hc C n).1,(hc C n).2,f2,.inl (W,vs,.of hl),G,A,d,S.gh,S.hI,ef,λv G' H' E r =>?_);refine ah λkk =>?_
     let(a',y',T1',F,w,g,R,k'):=(S.ext E).uh hj hd i1 i2;rw[e1]at F;cases F;rw[fZ E.hh e2]at w;cases w;let(x',K,g1,g2,g3,g4,T2,o2,P,t):=g.app (p:=[]) R W W (bD.refl _) (λO O O z=>z) (.leaf r) Ÿ λb hb=>by cases hb
     cases g1;refine kk<|(l,K,v,W,W,g3,?_,k _ G' _<|k' l _ _ T2 g2 o2 P λb hb =>?_)
     .rw[<- g4];exact bp hz.2 dY
     .obtain z|z:=t b hb<;>trivial
   .cases i
  .cases i
noncomputable def oU(k:hW)(d:D)(a:!hW)(b:!D):!hW×!D:=if (a.any λq=>decide (q=k))=Z' then (a,vv (λq x=>if q=k then d else x) a b) else (a++[k],b++[d])
theorem Ex:∀ {ks:!hW}{a:!V},ks.length=a.length->((ks.zip a).any λb=>decide (b.1=k))=ks.any λq=>decide (q=k)
 |[],a,h=>by simp
 |q::ks,[],h=>by simp at h
 |q::ks,v::a,h=>by simp;rw[Ex<|by simp_all]
theorem Ku{v}:∀ {ks:!hW}{a:!V},(ks.zip a).map (λb=>if b.1=k then (b.1,v) else b)=ks.zip (vv (λq x=>if q=k then v else x) ks a)
 |[],a=>by simp
 |q::ks,[]=>by simp
 | q::ks,u::a=>by
  simp only[d7,bR,VM,Ku]
  lia
theorem uA{K}{v}(r:cM K G d v):∀ {b:!hW}{e:!D}{a:!V},bB K G e a->bB K G (vv (λq x=>if q=k then d else x) b e) (vv (λq x=>if q=k then v else x) b a)
 |[],e,a,h=>by solve_by_elim
 |q::b,[],a,h=>by rw[cF.mp h];exact Ÿ
 | q::b,x::e,a,h=>by
  let(u,j,rfl,i,f):=bt.mp h;refine .cons ?_<|uA r f
  lia
def Vq{K}{k}{v}{f:!V}(r:cM K G d v)(j:a.length=b.length)(i:bB K G b f):∃c,kP (a.zip f) k v=(oU k d a b).1.zip c/\(oU k d a b).1.length=(oU k d a b).2.length/\bB K G (oU k d a b).2 c:=by
 have e:a.length=f.length:=by rw[j,i.length]
 unfold kP oU;rw[Ex e];by_cases h:(a.any λq=>decide (q=k))=Z'
 .rw[if_pos h,if_pos h];exact(_,Ku,by simp[j],uA r i)
 .rw[if_neg h,if_neg h];refine(_,?_,by simp[j],i.append<|.cons r .nil);rw[Jt e];rfl
def y6(j:Nat)(c f:aM)(e:DF)(h:DM):DG:=λA=>(h A).bind λw=>(rT c f j w.2).bind λq=>(e w.2).bind λy=>(Bc y).bind λb=>match q.2.2.2 with
 |.fM a d=>if Sk.K8 (cZ q.1 f) .di=Z'/\a.length<dZ then Y (.nx<|(bP j w.2).set j<|Y<|zb c f q.1 q.2.1 q.2.2.1<|.fM (oU b w.1 a d).1 (oU b w.1 a d).2) else M
 |_=>M
set_option tactic.hygienic true in
def GD{c f:aM}(P:X.A.units+1<l9)(h:PE X (.Name x p)<|eS j)(hi:PE X i<|tP X.K Z fk)(he:PE X e<|tM X.K B Z fe)(hc:pP X.K c f)(R:‹j∈Z›)(Y':@&(bJ (.Name x p) f X.env (eval (.Name x p) X.env)=eval (.Name x p) X.env))(hs:@&(cm e (Y<|.Subscript (.Attribute (.Name x p) f I) i O) L.line X.env=c9 false)):
  PS X (.Assign [.Subscript (.Attribute (.Name x p) f I) i O] e L) (gO X.K B Q Z Z<|y6 j c f fk fe):=(J8 P (nO h Y') hi he hs).imp <|by
 rintro D J H ⟨G,A,o,S,b,k⟩;obtain⟨⟨d,l⟩,ef,b⟩:=ae.1 b;obtain⟨⟨fk',YO,Vi,t1⟩,et,b⟩:=ae.1 b;rcases w:fk l with _|y
 .simp[w]at b
 rcases m:Bc y with _|ky
 .simp[w,m]at b
 simp only[w,m,av]at b;split at b
 .split at b
  .rename_i hz;cases b;let(hd,g,i2):=kH et;rw[Sk.kL hz.1]at g;refine(G,A,d,l,S,ef,λv G1 H1 t s1 rv =>?_);let(a,y',T1,e1,e2,_):=t.uh R hd g i2;let(C,dx,fs,n,f1,f2):=t.Gu R hd e1 e2;refine(_,e1,a,C,dx,fs,_,W,f1,(hc C n).1,(hc C n).2,f2,G1,l,y,t.gh,t.hI,w,λu G2 H2 E2 ru =>?_);let P:=oJ m (.inl ru:iN X.K G2 H2 y u);refine ah λkk =>?_
   let(a',y2,T2,s,r,o2,K,k2):=(t.ext E2).uh R hd g i2;rw[e1]at s;cases s;rw[fZ E2.hh e2]at r;cases r;obtain⟨x',vs,g1,g2,⟨n0,g3⟩,g4,g5,g6⟩:=o2.dput (p:=[]) K W W (bD.refl _) λv v v z=>z
   cases g1;let(E,z1,z2,z3):=Vq (cM.mono E2.gg d rv) g4 g5;refine kk<|(x',_,W,?_,λn1=>by let(T3,o3,F,q):=g6 _ _ E n1 z2 z3;exact k _ G2 _<|k2 x' _ _ T3 g2 o3 F q)
   rw[P];simp only[<- z1];refine NP.k g3 ?_;rw[oZ,g4,g5.length,EH,<- g5.length,<- g4];exact bp hz.2 dY
  .cases b
 .cases b
def sr(i j:Nat)(c f:aM)(b:DF):DG:=λA=>(rT c f j A).bind λq=>(b A).bind λy=>match cZ q.1 f,q.2.2.2,y with
 |.li (.fs _ _),.lst a,.int n=>(Be a.length n).map λk =>.nx<|A.set i<|Y<|.dP j [.fld f,.ix k]
 |_,_,_=>M
set_option tactic.hygienic true
def ad3{i:Nat}{c f:aM}{b:Expr}(hN:X.N.Nodup)(hy:X.N[i]?=Y y)(hly:Loc X.env.scope y)(h:PE X (.Name x p)<|eS j)(he:PE X b<|tP X.K Z fe)(hc:pP X.K c f)(N:‹j∈Z›)(hj2:‹A9 j∈Z›)(hi:‹i∈Z›)(hi2:‹A9 i∉Z›)(hij:‹j≠i›)(s:autoParam (∀a,(i,a)∉B.3) ť)(hal:‹f∈GW›)(Y':@&(bJ (.Name x p) f X.env (eval (.Name x p) X.env)=eval (.Name x p) X.env))(hpi:autoParam (vm b) Š)(hs:@&(cm (.Subscript (.Attribute (.Name x p) f I) b q) (Y<|.Name y O) L.line X.env=c9 false))(hf:autoParam (X.fn y=Z'\/X.env.scope.names.lookup y=Y .local) ŧ):
  PS X (.Assign [.Name y O] (.Subscript (.Attribute (.Name x p) f I) b q) L) (gO X.K B Q Z Z<|sr i j c f fe):=(jZ hN hy hly (Ke DE (nO h Y') he hpi) hs hf).imp <|by
 rintro D J H ⟨G,A,o,S,e,k⟩;obtain⟨⟨fk,ks,ds,t1⟩,et,e⟩:=ae.1 e;rcases ef:fe A with _|d
 .simp[ef]at e
 simp only[ef,av]at e;split at e
 .rename_i c2 t xs n w;rcases R:Be xs.length n with _|m
  .rw[R]at e;cases e
  rw[R]at e;cases e;let(P,i1,i2):=kH et;rw[w]at i1;let(a,y',T1,e1,e2,_):=S.uh N P i1 i2;let(C,dx,fs,nn,f1,f2):=S.Gu N P e1 e2;refine(_,e1,a,C,dx,fs,_,W,f1,(hc C nn).1,(hc C nn).2,f2,G,A,_,S.gh,S.hI,ef,λv G' H' E r =>?_);cases bY.mp r;let S':=S.ext E;let(a',y2,T2,K,F,o2,_):=S'.uh N P i1 i2;rw[e1]at K;cases K;rw[fZ E.hh e2]at F;cases F;cases o2 with
  |@lst _ _ l vs S0 hl tt=>
   have hm:=(DH R).2.1;let(v1,T3,U3,g1,g2,_):=tt.at (s :=.fs c2 t) (by simp[hm]) (aE hm);let(b',o',rfl,_):=g2.root (λz=>by cases z) (λ_ z=>by cases z);refine(l,vs,n,.ref b',W,W,.of hl,?_,k _ G' H' ?_)
   .unfold qt;rw[<- tt.length.1,R];exact g1
   .refine S'.XR N hj2 hi hij hi2 s P e1 (s' :=.fs c2 t) ?_ ?_ λg hg =>?_
    .have:=fZ E.hh e2;simp only[dm]at this ⊢;rcases ea:H' a with _|ob
     .rw[ea]at this;cases this
     rw[ea]at this;cases ob<;>simp only at this ⊢<;>try (cases this;done)
     let(u,el,this):=ae.1 this;rw[el];simp at this;subst this;simp only[av,dm,hl,g1]
    .simp only[jG,w]
    .simp[Bl]at hg;subst hg;exact hal
 .cases e
end
section
variable {K:aS}{m:St}{g:cf}
def cP{i}(h:(g.set j M)[i]?=Y (Y d)):j≠i/\g[i]?=Y (Y d):=by
 by_cases e:j=i
 .subst e;by_cases a:j<g.length<;>simp_all
 .rw[aw e]at h;exact(e,h)
def SR.blank(S:SR K B Z G H m g)(q:g[j]?=Y (Y d))(u:we d=Z'):SR K B Z G H m<|g.set j M:=by
 refine(S.gh,S.g0,S.h0,S.fr,λi c a e=>S.env i c a (cP e).2,?_,by simp[S.len],S.pin,λi r p y x e =>?_)
 .let(F,Da):=S.ow;exact(F,λi d a e=>Da.it i d a (cP e).2,λi d a e=>Da.ok i d a (cP e).2,λi j d c a o Q P=>Da.ap i j d c a o (cP Q).2 (cP P).2)
 .let(s,O,n,k,l,w,h,f,C):=S.dP i r p y x (cP e).2;let b:j≠r:=λz=>by subst z;rw[q]at f;cases f;cases u
  exact(s,O,n,k,l,w,h,Ż,C)
def SR.YB{f:aM}{X s}(S:SR K B Z G H m g)(hr:r∈Z)(P:j∈Z)(hrj:r≠j)(hd:g[r]?=Y (Y<|.obj (.fs c Q)<|.ins c O U))(E:jG [.fld f] (.fs c Q)=Y (.li<|.fs n []))(ep:gZ [.fld f] (.ins c O U)=Y (.lst X))(h2:g[j]?=Y (Y<|.ins n x s)):
  ∃a l y w,m[r]?=Y (Y<|.ref a)/\dm H [.fld f] (.ref a)=Y (.ref l)/\m[j]?=Y (Y<|.ref y)/\H l=Y (.lst w)/\X.length=w.length/\SR K B Z G (cO H l<|.lst<|w++[.ref y]) m (((bP r g).set j M).set r<|Y<|zb c f Q O U<|.lst<|X++[.ins n x s]):=by
 let(a,T,e1,o1,nd,nf,F,Da,hF):=S.tree hr hd;let(y,e2,oc):=Da.it j _ P h2;obtain⟨⟨ob,oh,cell⟩,fj⟩:=(jy.cell W).mp oc;let(_,fjn):=Da.ok j _ P h2;have yF:y∈F j:=by rw[fj];exact Ÿ
 have yT:y∉T:=λz=>by rw[<- hF]at z;exact Da.ap r j _ _ hr P hd h2 hrj y z yF
 let(l,w,g1,g2,g3,g4,T',o2,nd2,sub):=o1.app nd E ep (bD.refl G) (λq q q z=>z) (zj.mpr ((ob,oh,cell),W)) ż (λb u=>by simp at u;subst u;exact yT);refine(a,l,y,w,e1,g1,e2,g3,g4,?_);let hu:=fY (r:=r) hd (λq z=>by cases z);let WC:=fY (r:=r) h2 (λq z=>by cases z);let S0:=(S.yN).blank WC W;let hr0:((bP r g).set j M)[r]?=Y (Y<|.obj (.fs c Q)<|.ins c O U):=by rw[aw<|bz hrj];exact hu
 let R:=(S0.Ee (i:=r) (a:=a) (d':=zb c f Q O U<|.lst<|X++[D.ins n x s]) (F0:=T) (S':=T') (G':=G) (H':=cO H l<|.lst<|w++[V.ref y]) ((λi d hi e=>Da.it i d hi (bE (cP e).2).1,λi d hi e=>Da.ok i d hi (bE (cP e).2).1,λi j d c hi P ei ej=>Da.ap i j d c hi P (bE (cP ei).2).1 (bE (cP ej).2).1)) hr (λb u=>(by rw[hF];exact u,_,hr0)) (bD.refl _) (λb o e=>by
   let C:b≠l:=λz=>by rw[z,(nf l g2).1]at e;cases e
   rw[aI C];exact S.gh b o e) (λb o e =>.inl e) (λb o u e=>by
   let C:b≠l:=λz=>u (z ▸ g2)
   rw[aI C];exact e) (o2) nd2 (λb u=>by
   obtain z|z:=sub b u
   .exact((nf b z).1,.inl z)
   .simp at z;subst z;refine((fjn b yF).1,.inr<|.inr ((fjn b yF).2,λk c hk ek UH hbk =>?_));let(hjk,ek):=cP ek;exact Da.ap j k _ c P hk h2 (bE ek).1 hjk b yF hbk) (λb h=>by have:=(S.pin r b h).2;simp_all) (λr p z=>by cases z)
  (λj' p q q q e=>absurd W<|(bE (cP e).2).2 p)).1
 simp_all [de]
def SR.Ub{f}(S:SR K B Z G H m g)(hr:r∈Z)(hj:j∈Z)(hrj:r≠j)(hd:g[r]?=Y (Y<|.obj (.fs c fk)<|.ins c ks ds))(E:jG [.fld f] (.fs c fk)=Y (.li<|.fs c2 []))(ep:gZ [.fld f] (.ins c ks ds)=Y (.lst<|xs++[.ins c2 k2 d2]))(U:∀a,(j,a)∉B.3)(hm:A9 j∉Z):
  ∃a l y P,m[r]?=Y (Y<|.ref a)/\dm H [.fld f] (.ref a)=Y (.ref l)/\H l=Y (.lst<|P++[.ref y])/\SR K B Z G (cO H l<|.lst P) (m.set j<|Y<|.ref y) (((bP r g).set r<|Y<|zb c f fk ks ds<|.lst xs).set j<|Y<|.ins c2 k2 d2):=by
 refine ah λkk =>?_
 let(a,T,e1,o1,nd,nf,F,Da,hF):=S.tree hr hd;let(l,P,u,g1,g2,g3,g4,T',S1,o2,o3,pm):=o1.aeR nd E ep;have hu:=fY (r:=r) hd λq z=>by cases z
 let Q:=pm.nodup_iff.mpr nd;rw[b8]at Q;let(n1,n2,n3):=Q;let T'T:∀b∈T',b∈T:=λb n=>pm.subset<|br _ n
 let O:∀b∈S1,b∈T:=λb n=>pm.subset<|aG _ n
 let R:=(S.yN (r:=r)).Ee (i:=r) (a:=a) (d':=zb c f fk ks ds<|.lst xs) ((λi d X e=>Da.it i d X (bE e).1,λi d X e=>Da.ok i d X (bE e).1,λi j d c X hj ei ej=>Da.ap i j d c X hj (bE ei).1 (bE ej).1)) hr (λb n=>(by rw[hF];exact n,_,hu)) (bD.refl _) (λb o e=>by
   rw[aI (λz=>by rw[z,(nf l g2).1]at e;cases e)];exact S.gh b o e) (λb o e =>.inl e) (λb o n e=>by
   let s:b≠l:=λz=>n (z ▸ g2)
   rw[aI s];exact e) o2 n1 (λb n=>((nf b<|T'T b n).1,.inl<|T'T b n)) (λb h=>by have:=(S.pin r b h).2;rw[e1]at this;cases this;exact Ÿ) (λr p z=>by cases z)
  (λj' p q q q e=>absurd W<|(bE e).2 p)
 rw[de e1]at R;let(Sr,Wr):=R;let(y,ob,rfl,_):=o3.root (λz=>by cases z) (λq z=>by cases z);obtain⟨⟨o4,oh,cell⟩,s1⟩:=zj.mp o3;subst s1;let R2:=(Sr.Ee (i:=j) (a:=y) (F0:=[]) Wr hj (λb n=>by cases n) (bD.refl _) Sr.gh (λb o e =>.inl e) (λb o q e=>e)
  ((jy.cell W).mpr ((o4,oh,cell),W)) ż (λb n=>by
   let C:=n;simp at n;subst n;refine((nf b<|O b C).1,.inr<|.inr ((nf b<|O b C).2,λk cc hk ek UH x =>?_));by_cases w:k=r
   .subst w;simp only[if_true]at x;exact n3 b x b C W
   .simp only[if_neg w]at x;rw[aw<|bz w]at ek;exact Da.ap r k _ cc hr hk hd (bE ek).1 (bz w) b (by rw[hF];exact O b C) x) (λb h=>absurd h<|U b) (λr p z=>by cases z)
  (λj' p h1 h2 q e=>by
   let(_,g0,_):=Sr.dP j' j p h1 h2 e
   simp_all)).1
 exact kk<|(a,l,y,P,e1,g1,g3,R2)
end
section
variable {X:Cx}{s v:Pos}
def C6(j i:Nat)(c f:aM):DG:=λg=>(rT c f j g).bind λq=>(eV i g).bind λd=>match q.2.2.2,d with
 |.lst a,.ins b e h=>if Sk.K8 (cZ q.1 f) (.li<|.fs b [])=Z'/\a.length<dZ then Y (.nx<|((bP j g).set i M).set j<|Y<|zb c f q.1 q.2.1 q.2.2.1<|.lst<|a++[.ins b e h]) else M
 |_,_=>M
set_option tactic.hygienic true in
def Q6{i}{c f:aM}(h:PE X (.Name x p)<|eS j)(hy:PE X (.Name y v)<|eS i)(U:pP X.K c f)(R:‹j∈Z›)(hi:‹i∈Z›)(z:‹j≠i›)(F:@&(bJ (.Name x p) f X.env (eval (.Name x p) X.env)=eval (.Name x p) X.env))(r:@&(bJ (.Attribute (.Name x p) f s) "append" X.env (eval (.Attribute (.Name x p) f s) X.env)=eval (.Attribute (.Name x p) f s) X.env)) (u:@&(((b9 t<|ak ((.Name y v)::[]) X.env).all (λx=> (not x.1))&&(ey t<|cD [] X.env).all (λx=>x.1.isSome)
   && decide (((.Name y v:Expr)::[]).length+([]:!gJ).length+(if ([]:!gJ).isEmpty then 0 else 1)<30))=true)) (q:@&((A.endLine==t.line)=true)) (Q:@&(ak ((.Name y v)::[]) X.env=(Z_,eval (.Name y v) X.env)::ak [] X.env)) (e:@&((b9 t<|ak [] X.env).any (·.1)=false)) (w:@&(cm (.Call (.Attribute (.Attribute (.Name x p) f s) "append" A) [.Name y v] [] t) M I.line X.env=c9 false)) :
  PS X (.Expr (.Call (.Attribute (.Attribute (.Name x p) f s) "append" A) [.Name y v] [] t) I) (gO X.K B J Z Z<|C6 j i c f):=
 (lV (uI fX PySem.F.slot_list_append PySem.F.type_list_append jM (nO h F) (bZ hy dw Q) r u q Q e) w).imp <|by
  rintro D m H ⟨G,g,o,S,b,k⟩;obtain⟨⟨fk,ks,ds,t1⟩,et,b⟩:=ae.1 b;rcases K:eV i g with _|d
  .simp[K]at b
  simp only[K,av]at b;split at b
  .split at b
   .rename_i P;refine ah λkk =>?_
    cases b;let(T,O,i2):=kH et;rw[Sk.kL P.1]at O;let(a,l,y,E,e1,e2,e3,e4,e5,S'):=S.YB R hi z T O i2<|gS K;let(C,dx,fs,n,f1,f2):=S.Gu R T e1 e2;refine kk<|(_,e1,a,C,dx,fs,_,W,f1,(U C n).1,(U C n).2,f2,.inl (W,E,.of e4),_,e3,l,E,_,W,W,e4,?_,k _ G _ S');rw[<- e5];exact bp P.2 dY
   .cases b
  .cases b
def Fw(i j:Nat)(c f:aM):DG:=λg=>(rT c f j g).bind λq=>match q.2.2.2 with
 | .lst a=>(a.getLast?).bind λd=>match d with
  |.ins b e h=>if Sk.K8 (cZ q.1 f) (.li<|.fs b [])=Z' then Y (.nx<|((bP j g).set j<|Y<|zb c f q.1 q.2.1 q.2.2.1<|.lst a.dropLast).set i<|Y<|.ins b e h) else M
  |_=>M
 |_=>M
set_option tactic.hygienic true
def Vc{i:Nat}{c f:aM}(hN:X.N.Nodup)(hy:X.N[i]?=Y y)(w:Loc X.env.scope y)(h:PE X (.Name x p)<|eS j)(T:pP X.K c f)(Q:‹j∈Z›)(hi:‹i∈Z›)(z:‹j≠i›)(r:autoParam (∀a,(i,a)∉B.3) ť)(hm:‹A9 i∉Z›)(F:@&(bJ (.Name x p) f X.env (eval (.Name x p) X.env)=eval (.Name x p) X.env))(q:@&(bJ (.Attribute (.Name x p) f s) "pop" X.env (eval (.Attribute (.Name x p) f s) X.env)=eval (.Attribute (.Name x p) f s) X.env))(e:@&((A.endLine==t.line)=true))(hs:@&(cm (.Call (.Attribute (.Attribute (.Name x p) f s) "pop" A) [] [] t) (Y<|.Name y L) I.line X.env=c9 false))(hf:autoParam (X.fn y=Z'\/X.env.scope.names.lookup y=Y .local) ŧ):
  PS X (.Assign [.Name y L] (.Call (.Attribute (.Attribute (.Name x p) f s) "pop" A) [] [] t) I) (gO X.K B J Z Z<|Fw i j c f):=
 (jZ hN hy w (Po fX PySem.F.slot_list_pop PySem.F.type_list_pop PX (nO h F) q e) hs hf).imp <|by
  rintro D m H ⟨G,g,o,S,b,k⟩;unfold Fw at b;rcases K:rT c f j g with _|⟨fk,ks,ds,t1⟩
  .simp_all
  rw[K]at b;simp at b;split at b
  .rename_i u;rcases v:u.getLast? with _|d
   .simp_all
   rw[v]at b;simp at b;split at b
   .rename_i c2 k2 d2;split at b
    .rename_i hz;refine ah λkk =>?_
     cases b;let(R,P,O):=kH K;rw[Sk.kL hz]at P;let hx:u=u.dropLast++[.ins c2 k2 d2]:=by let(ys,rfl):=Oa.mp v;simp
     rw[hx]at O;let(a,l,y,us,e1,e2,U,S'):=S.Ub Q hi z R P O r hm;let(C,dx,fs,n,f1,f2):=S.Gu Q R e1 e2;refine kk<|(_,e1,a,C,dx,fs,_,W,f1,(T C n).1,(T C n).2,f2,.inl (W,_,.of U),l,_,.ref y,W,W,U,ż,?_);rw[x_]
     exact Ÿ
    .cases b
   .cases b
  .cases b
end
inductive spT (K:aS) (s:Sk) (F:!D->↑(D×D)) (j:!V) (H:Hp) (Q:VK) (_x:XK):Prop
 |mk G t g d i a T h:bD G H->j=.ref a::h->bQ K G H s t (.ref a) T->T.Nodup->(∀b∈T,G b=none)->bB K G g h->F (t::g)=some (d,i)->(∀v e c f,f_ G (dg H T) c f->bQ K c f s i (.ref a) e->e.Nodup->(∀b∈e,c b=none/\(b∈T\/H b=none))->cM K c d v->Q v f)->spT K s F j H Q _x
inductive qK (K:aS) (s:Sk) (F:!D->↑(!D×D)) (k:!V) (H:Hp) (Q:VK) (_x:XK):Prop
 |mk G t f j i a T h:bD G H->k=.ref a::h->bQ K G H s t (.ref a) T->T.Nodup->(∀b∈T,G b=none)->bB K G f h->F (t::f)=some (j,i)->(∀q g d c e,f_ G (dg H T) c e->bQ K c e s i (.ref a) d->d.Nodup->(∀b∈d,c b=none/\(b∈T\/H b=none))->c q=none->(q∈T\/H q=none)->q∉d->e q=some (.lst g)->bB K c j g->Q (.ref q) e)->qK K s F k H Q _x
inductive spK (K:aS) (F:!D->↑D) (e:!V) (H:Hp) (Q:VK) (_x:XK):Prop
 |mk G c d:bD G H->bB K G c e->F c=some d->(∀q o b a,f_ G H b a->H q=none->b q=none->a q=some o->iY K b d o->Q (.ref q) a)->spK K F e H Q _x
def gr(s:Sk)(j:Nat)(b:cf):↑D:=(AN j b).bind λa=>if Sk.K8 a.1 s=Z' then Y a.2 else M
def bX{s:Sk}(h:gr s j a=Y t):a[j]?=Y (Y<|.obj s t):=by
 grind [gr,ae,Sk.kL,mq]
def HW(s:Sk):DO->↑(D×D)
 |.rm d a=>(gr s 0 a).map λt=>(d,t)
 |.nx a=>(gr s 0 a).map λt=>(.cT,t)
 |_=>M
def zk(s:Sk):DO->↑(!D×D)
 |.rf i a=>(gr s 0 a).bind λt=>(gM i a).map λb=>(b,t)
 |_=>M
def aeU:DO->↑D
 |.rf i a=>(eV i a).bind λd=>if we d=Z' then Y d else M
 |_=>M
def kj(n N:Nat)(s:Sk)(g:DG)(b:!D):↑(D×D):=match b with
 |t::a=>if a.length+1=n then (g<|fQ N<|.obj s t::a).bind (HW s) else M
 |[]=>M
def y8(n N:Nat)(s:Sk)(g:DG)(b:!D):↑(!D×D):=match b with
 |t::a=>if a.length+1=n then (g<|fQ N<|.obj s t::a).bind (zk s) else M
 |[]=>M
def VE(n N:Nat)(g:DG)(a:!D):↑D:=if a.length=n then (g<|fQ N a).bind aeU else M
section
variable {P:bj}{K:aS}
def vI{s:Sk}{f:!D}{T:!aD}(w:bD G H)(m:0∈Z)(h:bQ K G H s t (.ref a) T)(k:T.Nodup)(j:∀b∈T,G b=M)(r:bB K G f g)(n:∀i∈Z,i=0\/f.length+1<=i):
  SR K (G,dg H T,[(0,a)],x) Z G H (start N<|.ref a::g) (fQ N.length<|.obj s t::f):=
 BG w λb o e=>by
  grind [dW,bC] m W W h k (λb d=>(j b d,dW d)) (λr q z=>by cases z) (λi c p e=>by
   cases i with
   |zero=>trivial| succ i=>exact r.get<|by trivial) (by simp[r.length]) ž
def SR.UZ{m:!Nat}{s:Sk}(r:SR K (G,dg H T,[(0,a)],p) m d i j e)(y:gr s 0 e=Y k):
  ∃c,bQ K d i s k (.ref a) c/\c.Nodup/\(∀b∈c,d b=M/\(b∈T\/H b=M))/\∃F,jT K (G,dg H T,[(0,a)],p) m d i j e F/\F 0=c:=by
 let(g,f):=r.pin 0 a Ÿ;let(_,c,h,o,n,q,F):=r.tree g<|bX y;cases h.symm.trans f;exact(c,o,n,λb m=>((q b m).1,(Classical.em<|b∈T).imp_right λz=>(bC z).symm.trans (q b m).2),F)
set_option tactic.hygienic true
def gx.Dr{f:aD}{R:!aM}(F:gx K x e p f fd){s:Sk}(N:!aM)(Z Ź:!Nat){g:DG}(S:fo N R<|bu p) (hb:N.Nodup->∀(j:au) (A:fJ) (outer:!Env) (s:az) (H:Hp) (E:XK),dn k (A.deeper<|mj e (bu p) s.heap.objs.size f j)->∀(B:Bs) (a:aD),B.3=[(0,a)] ->
   mh (pJ gk P w K O U N e (bu p) f j A outer s H E).Ig (fm p) (gO K B [] Z Ź g)) (hp:‹0∈Z›) (C:‹∀i∈Z,i=0\/R.length<=i›):b_ P w K O U gk (k+1) f fd R<|spT K s<|kj R.length N.length s g:=by
 refine F.ok S (λvs H Q E h =>?_) λj A outer s1 H vs Q E hr h =>?_
 .let(G,t,xs,d,X,a,T,us,gh,rfl,ot,nd,nf,r,b,_):=h;simp only[kj]at b;split at b
  .rename_i z;simp[<- r.length,z]
  .cases b
 .let(G,t,xs,d,X,a,T,us,gh,rfl,ot,nd,nf,r,b,q):=h;simp only[kj]at b;split at b
  .refine(_,hb S.nd j A _ s1 H E hr (G,dg H T,_,λl l=>False) a W,?_);let(oo,eg,b):=ae.1 b;refine(G,_,oo,vI gh hp ot nd nf r Ż,eg,?_);cases oo with
   |rm d' m=>let(y,o,b):=aj.1 b;cases b;intro v σ G' H' (o',c) rv;let(T',f1,f2,f3,_):=c.UZ o;exact q v T' G' H' c.kz f1 f2 f3 rv
   |nx m=>let(y,o,b):=aj.1 b;cases b;intro σ G' H' c;let(T',f1,f2,f3,_):=c.UZ o;exact q _ T' G' H' c.kz f1 f2 f3<|fc.mpr W
   |_=>cases b
  .cases b
def gx.T4{c:cS}{f:aD}(F:gx K x j c f fd){s:Sk}(N:!aM)(Z Ź:!Nat){g:DG}(S:fo N ps<|bu c) (hb:N.Nodup->∀(o:au) (A:fJ) (e:!Env) (s:az) (H:Hp) (E:XK),dn k (A.deeper<|mj j (bu c) s.heap.objs.size f o)->∀(B:Bs) (a:aD),B.3=[(0,a)] ->
   mh (pJ gk P w K O U N j (bu c) f o A e s H E).Ig (fm c) (gO K B [] Z Ź g)) (hp:‹0∈Z›) (R:‹∀i∈Z,i=0\/ps.length<=i›):b_ P w K O U gk (k+1) f fd ps<|qK K s<|y8 ps.length N.length s g:=by
 refine F.ok S (λvs H Q E h =>?_)<|λo A e s1 H vs Q E hr h =>?_
 .let(G,t,xs,d,t',a,T,us,gh,rfl,ot,nd,nf,r,b,_):=h;simp only[y8]at b;split at b
  .rename_i z;simp[<- r.length,z]
  .cases b
 .let(G,t,xs,d,t',a,T,us,gh,rfl,ot,nd,nf,r,b,q):=h;simp only[y8]at b;split at b
  .rename_i hn;refine(_,hb S.nd o A e s1 H E hr (G,dg H T,[(0,a)],λl l=>False) a W,?_);let(oo,eg,b):=ae.1 b;refine(G,_,oo,vI gh hp ot nd nf r Ż,eg,?_);cases oo with
   |rf i p=>
    let(y,X,b):=ae.1 b;let(ds,C,b):=aj.1 b;cases b;intro v σ G' H' (o',hi,S') hv;let(T',f1,f2,f3,F',Da,hF):=S'.UZ X;let m:=dB C;let(D,e1,oc):=Da.it i _ hi m;rw[hv]at e1;cases e1;obtain⟨⟨ob,oh,ws,rfl,rr⟩,fi⟩:=(jy.cell (d :=.lst d) W).mp oc;let(_,ku):=Da.ok i _ hi m;have qi:D∈F' i:=by rw[fi];exact Ÿ
    refine q D ws T' G' H' S'.kz f1 f2 f3 (ku D qi).1 ?_ ?_ oh rr
    .by_cases h:D∈T
     .exact .inl h
     .exact .inr (by simpa [bC h] using (ku D qi).2)
    .intro z;rw[<- hF]at z;exact Da.ap i 0 _ _ hi (S'.pin 0 a Ÿ).1 m (bX X) (λz=>by subst z;rw[bX X]at m;cases m) D qi z
   |_=>cases b
  .cases b
def gx.Yv{f:aD}{c:dU}(F:gx K x j t f c)(N:!aM)(Z Ź:!Nat){g:DG}(S:fo N C<|bu t) (hb:N.Nodup->∀(m:au) (A:fJ) (e:!Env) (s:az) (H:Hp) (E:XK),dn k (A.deeper<|mj j (bu t) s.heap.objs.size f m)->∀B:Bs,B.3=[] ->
   mh (pJ gk P w K O U N j (bu t) f m A e s H E).Ig (fm t) (gO K B [] Z Ź g)) (z:‹∀i∈Z,C.length<=i›):b_ P w K O U gk (k+1) f c C<|spK K<|VE C.length N.length g:=by
 refine F.ok S (λX H Q E h =>?_) λm A e s H X Q E hr h =>?_
 .let(G,ds,d,D,r,b,_):=h;unfold VE at b;split at b
  .rw[<- r.length];omega
  .cases b
 .let(G,ds,d,D,r,b,q):=h;unfold VE at b;split at b
  .refine(_,hb S.nd m A e s H E hr (G,H,[],λl l=>False) W,?_);let(o,eg,b):=ae.1 b;refine(G,_,o,um D r Ż,eg,?_);cases o with
   |rf i p=>
    let(y,el,b):=ae.1 b;split at b
    .rename_i hy;cases b;intro v σ G' H' (o',hi,T) hv;let(a,ob,R,e2,e3,e4,e5):=T.Pp hi (gS el) hy;rw[hv]at R;cases R;exact q a ob G' H' T.kz e5 e4 e2 e3
    .cases b
   |_=>cases b
  .cases b
end
section
variable {X:Cx}{v:Pos}
def cI(c m:aM)(s:Sk)(F:!D->↑(D×D))(j:Nat)(g:VD):DM:=λb=>(AN j b).bind λd=>match d.1,d.2 with
 |.fs f _,.ins a e _=>if (f=c/\a=c)/\m∉e then (g b).bind λq=>(gr s j q.2).bind λt=>(F<|t::q.1).map λr=>(r.1,(bP j q.2).set j<|Y<|.obj s r.2) else M
 |_,_=>M
set_option tactic.hygienic true in
def Gb{m:aM}{s:Sk}{F:!D->↑(D×D)}{f:St}(n:jf X.K aW c=Y (Y<|.ref C))(r:j∈Z)(ht:∀f H Q,Xx X.K B Z g f H Q->t f H Q)(h:tM X.K B Z (cI c m s F j g) f H Q):wQ C m (spT X.K s F) [] E0 (eS j) t f H Q:=by
 let(G,o,d,R,S,e,q):=h;unfold cI at e;rcases x:AN j o with _|⟨s0,t0⟩
 .simp_all
 rw[x]at e;simp at e;split at e
 .split at e
  .rename_i hz;obtain⟨⟨rfl,rfl⟩,hm⟩:=hz;rcases y:g o with _|⟨p,i⟩
   .simp_all
   rw[y]at e;simp at e;rcases I:gr s j i with _|u
   .simp_all
   rw[I]at e;obtain⟨⟨d',t'⟩,eF,e⟩:=aj.1 e;cases e;let hd:=mq x;let(a,T,z,ot,_):=S.tree r hd;cases ot with
   |@ins _ _ _ _ _ C' dx vs S0 N ex l tt=>rw[n]at N;cases N;refine(_,z,a,dx,_,W,ex,fh (K:=X.K) (G:=G) hm,ht _ _ _ (G,o,p,i,S,y,λK G1 H1 A s1 r1 =>?_));rw[bT];let k:=bX I;let(a1,T1,P,f2,f3,f4,F1,W1,w):=A.tree r k;rw[z]at P;cases P;exact(G1,u,p,d',t',a,T1,K,A.gh,W,f2,f3,λb hb=>(f4 b hb).1,r1,eF,λv T' G' H' E nw nd nf rv=>q v G' H' (A.vi W1 w r k z E nw nd nf) (s1.trans E.gg) rv)
  .cases e
 .cases e
def aax{c m:aM}{s:Sk}{F:!D->↑(D×D)}(h:dQ X.prog X.w X.K X.mg X.base c m k<|spT X.K s F)(g:dn k X.A)(i:PE X (.Name y p)<|eS j)(r:‹j∈Z›) (e:@&(eval (.Call (.Attribute (.Name y p) m L) [] [] J) X.env=(do
   let a <- eval (.Name y p) X.env
   jJ L.atName
   let(f,first) <- iy [a] (iV a m pl)
   l7 J f first (b9 J<|ak [] X.env) (ey J<|cD [] X.env)))):PE X (.Call (.Attribute (.Name y p) m L) [] [] J)<|tM X.K B Z<|cI c m s F j oH:=by
 let(C,f,K,E,n,t,o,x,w):=h.ex;exact(zg i t o x g w .nil ju e).imp λb H Q q=>Gb n r (by rintro b H Q ⟨G,A,l,d,S,z,k⟩;cases z;exact k _ G H S (bD.refl _) .nil) q
def GG{c m:aM}{s:Sk}{F:!D->↑(D×D)}{g:VD}(h:dQ X.prog X.w X.K X.mg X.base c m k<|spT X.K s F)(o:dn k X.A)(r:PE X (.Name y p)<|eS j)(E:PA X (e::I)<|Xx X.K B Z g)(w:‹j∈Z›)(a:@&(ak (e::I) X.env=(Z_,eval e X.env)::ak I X.env))(b:@&((b9 J<|ak I X.env).any (·.1)=false)) (i:@&(eval (.Call (.Attribute (.Name y p) m L) (e::I) [] J) X.env=(do
   let d <- eval (.Name y p) X.env
   jJ L.atName
   let(f,first) <- iy [d] (iV d m pl)
   l7 J f first (b9 J<|ak (e::I) X.env) (ey J<|cD [] X.env)))):PE X (.Call (.Attribute (.Name y p) m L) (e::I) [] J)<|tM X.K B Z<|cI c m s F j g:=by
 let(C,f,N,l,n,x,t,G,A):=h.ex;exact(nC r x t G o A .nil ju E a b i).imp λK H Q q=>Gb n w (λu u u z=>z) q
noncomputable def hJ(c:aM)(F:!D->↑(D×D))(g:DL):DF:=λa=>(g a).bind λb=>(F<|.ins c [] []::b).bind λr=>match r.1 with|.cT=>Y r.2|_=>M
def Vo{c:aM}{fk:!(aM×Sk)}{F:!D->↑(D×D)}{g:DL}(h:rg X.prog X.w X.K X.mg X.base c k<|spT X.K (.fs c fk) F)(hr:dn (k+1) X.A)(hg:Gl X c)(ha:PA X (e::I)<|AO X.K Z g)(B:‹(c==("__debug__" : aM))=false›)(he:@&(ak (e::I) X.env=(Z_,eval e X.env)::ak I X.env))(A:@&((b9 J<|ak I X.env).any (·.1)=false)):PE X (.Call (.Name c p) (e::I) [] J)<|Fe X.K Z (.fs c fk)<|hJ c F g:=by
 let(C,f,fd,ps,n,hm,hk,h1,a):=h.ex;refine(Kd hk h1 hr hg hm a .nil ju ha B he A).imp ?_;rintro σ H Q ⟨G,ρ,d,gh,l,i,q⟩;unfold hJ at i;let(P,eg,i):=ae.1 i;obtain⟨⟨d',c'⟩,eF,i⟩:=ae.1 i;cases d'<;>simp only[av]at i<;>try (cases i;done)
 cases i;refine(G,ρ,P,gh,l,eg,λR N r w r1 x s m j ne =>?_);show spT X.K (.fs c fk) F (.ref x::(R++[])) _ _ E0;rw[bT];let K:N x=none:=w.gh.free m;have s2:bD N<|cO (cO r s<|.Z x) x<|.ins C s []:=w.gh.trans<|(bD.alloc j).trans<|.alloc (by rw[aI<|bz ne];exact m);refine(N,.ins c [] [],P,.cT,_,x,[x],R,s2,W,.ins (ks:=[]) (vs:=[]) (S:=[]) n aP W .nil,ż,(λb a=>by simp at a;subst a;exact K),r1,eF,λv T' G2 H2 t nw nd T rv=>(fc.mp rv,?_));have S:∀b o,r b=Y o->dg (cO (cO r s<|.Z x) x<|.ins C s []) [x] b=Y o:=λb o e=>by let a:b≠x:=bc e m;rw[bC (by simpa using a),aI a,aI<|bc e j];exact e
 refine q (.ref x) T' G2 H2 (w.trans (λb o e=>t.hh b o<|S b o e,t.gg,t.gh,λb o e =>?_)) nw nd λb a=>((T b a).1,?_)
 .obtain z|z:=t.fr b o e
  .exact .inl z
  .refine .inr ?_;rcases y:r b with _|u
   .rfl
   rw[S b u y]at z;cases z
 .refine w.hh.free ?_;rcases(T b a).2 with z|z
  .simp at z;subst z;exact m
  .rcases y:r b with _|u
   .rfl
   let E:b≠x:=bc y m;rw[aI E,aI<|bc y j,y]at z;cases z
def Rq{F:!D->↑D}(h:iC X.prog X.w X.K X.mg X.base x k<|spK X.K F)(e:dn k X.A)(j:Gl X x)(b:‹(x==("__debug__" : aM))=false›):PE X (.Call (.Name x p) [] [] J)<|tFC X.K Z<|λ_=>F []:=by
 let(f,l,K,c,g,i,m):=h.ex;exact(Pn c e j g i m .nil ju b).imp <|by rintro B H Q ⟨G,C,d,t,y,w,q⟩;exact(G,[],d,t,.nil,w,λa o A z E c s n r=>q a o A z E c s n r)
end
def r_(l:cf)(u:AU)(w:DM)(i0:Nat)(s:Sk):!D->D->↑(!D×D)
 |[],t=>Y ([],t)|d::b,t=>(u d<|l.set i0<|Y<|.obj s t).bind λρ1=>(w ρ1).bind λp=>(gr s i0 p.2).bind λa=>(r_ l u w i0 s b a).map λq=>(p.1::q.1,q.2)
def uS(f:DL)(src:!(↑Nat))(u:AU)(w:DM)(i0 j0:Nat)(s:Sk):DM:=λl=>(f l).bind λa=>if a.length<=dZ then (gr s j0 l).bind λt=>(r_ (mC src<|bP j0 l) u w i0 s a t).map λq=>(.lst q.1,(bP j0 l).set j0<|Y<|.obj s q.2) else M
section
variable {K:aS}
def SR.Y4{fl}{s}(S:SR K B Z G H n<|l.set j0<|Y<|.obj s t)(C:ig Z [i0] src=Z')(x:src[i0]?=Y (Y j0))(y:n[j0]?=Y (Y<|.ref a))(q:bQ K G H s t (.ref a) T)(P:T.Nodup)(N:∀b∈T,G b=M):
  SR K (G,dg H T,[(i0,a)],fl) [i0] G H (mB src n) ((mC src l).set i0<|Y<|.obj s t):=by
 refine(S.gh,bD.refl _,λb o e =>?_,λb o e =>.inl e,λi d g e =>?_,(λu=>T,λi d g e =>?_,λi d g e=>(P,λb m=>(N b m,dW m)),λi j d c g k u u f =>?_),by simp[mB,mC],λi b h =>?_,λj r p R Q e =>?_)
 .simp_all [dg,dW,bC]
 .obtain⟨omega,_⟩|⟨f,e⟩:=fR e
  .simp_all
  .let(j,F,ej):=Fp e;let k:j∉Z:=λz=>g ((jE C F).mpr z)
   have:j0≠j:=λz=>k<|z ▸ ((jE C x).mp Ÿ)
   let(v,f1,X):=S.env j d k Ż;exact(v,oB F f1,X)
 .let z:i=i0:=by simpa using g
  subst z;obtain⟨_,rfl,_⟩|_:=fR e
  .exact(a,oB x y,q)
  simp_all
 .simp_all
 .simp_all [oB]
 simp_all
end
def BD{s}:bP j ((bP j l).set j<|Y<|.obj s t)=(bP j l).set j (Y<|.obj s t):=by
 apply rR;intro i;unfold bP;rw[aY];by_cases h:j=i
 .subst h;by_cases b:j<l.length<;>simp_all
 .rw[aw h,aY];rcases e:l[i]? with _|o
  .simp
  cases o with
  |none=>simp|some d=>
   cases d with|dP r p=>by_cases a:r=j<;>simp_all|_=>simp
section
variable {X:Cx}{f:DL}{s:Sk}
set_option tactic.hygienic true in
def KA{K:aS}(ho:ig Z [i0] src=Z')(h0:src[i0]?=Y (Y j0))(hg:∀(B:Bs) v n H Q,Hd K B [i0] u v n H Q->g v n H Q)(q:tM K B Z (uS f src u w i0 j0 s) n H Q):
  V5 (BE K Z f) src g (qg K [i0] gu) (Xv K i0 w) n H Q:=by
 let(G,l,d,ρ',S,j,k):=q;have X:j0∈Z:=(jE ho h0).mp Ÿ;unfold uS at j;let(C,ef,j):=ae.1 j;split at j
 .rename_i hz;let(t0,el,j):=ae.1 j;obtain⟨⟨rs,tF⟩,em,j⟩:=aj.1 j;cases j;let hd0:=bX el;have hu0:=fY (r:=j0) hd0 (λq z=>by cases z);let hl0:j0<(bP j0 l).length:=(aq.mp hu0).1;let(a,T0,e2,_):=S.tree X hd0;refine(G,l,C,S.gh,S.hI,ef,λJ G1 H1 E1 ok =>?_);let S1:=(S.ext E1).yN (r:=j0);rw[<- rj hu0]at S1;refine(λi m ys H2=>m=C.length-i/\i<=C.length/\LcI K B Z n (λt=>(bP j0 l).set j0<|Y<|.obj s t) (λi=>r_ (mC src<|bP j0 l) u w i0 s<|C.drop i) G1 tF rs i ys H2,
   (C.length,W,dr _,G1,[],t0,rs,aV _,S1,bD.refl _,.nil,em,W),?_)
  rintro i m ys H2 ⟨rfl,hil,G2,o,t,r,hyl,S2,s2,rx,c,rfl⟩;let sub:bD G1 H2:=s2.trans S2.gh;by_cases N:i<C.length
  .refine .inr (ok.go i H2 sub N,?_,_,
    λR H' z=>(C.length-(i+1),ŷ,W,N,z),λx H3 y =>?_)
   .have:=dY
    lia
   .refine ah λkk =>?_
    let(G3,E3,Z7):=ok.Jx i H2 x H3 G2 C[i] s2 S2.gh y<|aE N;have S3:=S2.ext E3;rw[cU N]at c;unfold r_ at c;let(A,et,c):=ae.1 c;obtain⟨⟨x4,ρ5⟩,ee,c⟩:=ae.1 c;let(t4,el4,c):=ae.1 c;obtain⟨⟨T,tE⟩,em4,c⟩:=aj.1 c;cases c;have hd3:((bP j0 l).set j0<|Y<|D.obj s t)[j0]?=Y (Y<|.obj s t):=by rw[bG hl0]
    let(a3,T3,f1,ot,nd,nf,F3,W3,hF3):=S3.tree X hd3;rw[e2]at f1;cases f1;let SI:=S3.Y4 (fl:=λE E=>False) ho h0 e2 ot nd λb hb=>(nf b hb).1
    refine kk<|hg (G3,dg H3 T3,[(i0,a)],λE E=>False) _ _ _ _ (G3,_,C[i],A,SI,Z7,et,λσ4 G4 H4 S4=>(G4,A,Z',S4.gh,S4.hI,W,λG5 H5 E5=>qm ?_));refine((G3,dg H3 T3,[(i0,a)],λE E=>False),a,W,G5,A,x4,ρ5,S4.ext E5,ee,λv G6 H6 S6 s6 r6=>(G6,o++[x4],t4,T,by simp;omega,?_,?_,?_,em4,ż))
    .let(UG,hσ):=S6.pin i0 a Ÿ;let(a6,T6,g1,g2,g3,g4,_):=S6.tree UG<|bX el4;rw[hσ]at g1;cases g1;have:=S3.vi (t':=t4) W3 hF3 X hd3 e2 S6.kz g2 g3 (λb hb=>((g4 b hb).1,by
      by_cases h:b∈T3
      .exact .inl h
      .exact .inr<|by simpa [bC h] using (g4 b hb).2))
     rw[BD,ke]at this;exact this
    .exact s2.trans<|E3.gg.trans S6.g0
    .exact(bB.mono (E3.gg.trans S6.g0) o rx).append<|.cons r6 .nil
  .let e:i=C.length:=by lia
   subst e;rw[ni]at c;unfold r_ at c;refine ah λkk =>?_
   cases c;refine kk<|.inl (ok.stop _ H2 sub<|aV _,λp hp =>?_);have EA:=f_.alloc (p:=p) (o :=.lst ys) S2.gh hp;refine k _ _ _ (S2.ext EA) (E1.gg.trans<|s2.trans EA.gg) ?_;rw[bT];exact cH.mpr (p,ys,W,aP,bB.mono EA.gg o rx)
 .cases j
def IZ(S:d6 X N src A)(j:X.calm=Z')(e:PI X E I<|BE X.K Z f)(o:NM O g)(a:∀i∈O,src[i]?=Y M)(h:∀(B:Bs) v n H Q,Hd X.K B [i0] u v n H Q->g v n H Q)(k:∀C s H b,PG (X.qr N A C s H b) E g/\Hh (X.qr N A C s H b) [] (qg X.K [i0] gu)/\PE (X.qr N A C s H b) L (Xv X.K i0 w))(m:@&(src[i0]?=Y (Y j0)))(d:‹ig Z [i0] src=true›)(c:autoParam (∀x,bW I X.env x=c9 x) ũ):PE X (.ListComp L [(E,I,[],0)] A U)<|tM X.K B Z<|uS f src u w i0 j0 s:=
 (FO S j e o a k c).imp λn H Q q=>KA d m h q
def Ai{i:Nat}(S:d6 X N src A)(Da:X.calm=Z')(R:X.N.Nodup)(t:X.N[i]?=Y y)(F:X.env.scope.names.lookup y=Y .local)(J:PI X E I<|BE X.K Z f)(ag:NM O g)(h:∀i∈O,src[i]?=Y M)(K:∀(B:Bs) v n H Q,Hd X.K B [i0] u v n H Q->g v n H Q)(P:∀C s H m,PG (X.qr N A C s H m) E g/\Hh (X.qr N A C s H m) [] (qg X.K [i0] gu)/\PE (X.qr N A C s H m) L (Xv X.K i0 w))(T:@&(src[i0]?=Y (Y j0)))(D:‹ig Z [i0] src=true›)(j:‹i∉Z›)(e:@&(cm (.ListComp L [(E,I,[],0)] A U) (Y<|.Name y p) a.line X.env=c9 true))(z:autoParam (∀x,bW I X.env x=c9 x) ũ):PS X (.Assign [.Name y p] (.ListComp L [(E,I,[],0)] A U) a)<|gO X.K B q Z Z<|k_ i<|uS f src u w i0 j0 s:=
 (zd S Da R t F J ag h P e z).imp λD' n H (G,l,o,S,b,k)=>KA D T K (by obtain⟨⟨d,c⟩,ef,b⟩:=aj.1 b;cases b;exact(G,l,d,c,S,ef,λv G' H' S' V r=>k _ G' H'<|S'.uy j r))
end
abbrev TupAt(h:cG)(T:aD)(a:Array au):Prop:=h.get? T=Y { cls :=.type "tuple",data :=.seq a }
structure ZN(h:cG)(z TI TO:aD)(n:Nat)(it l:Nat->aD)(xs:Nat->Array au)(pl:Nat->Nat)(f0:au)(out:Array au):Prop where
 zz:IsZip h z TI TO f0
 ti:TupAt h TI ((cg n).map λj=>aQ<|it j).toArray
 to:TupAt h TO out
 sz:out.size=n
 iter:∀j,j<n->h.IsListIter (it j) (l j) (pl j)
 lst:∀j,j<n->h.IsList (l j) (xs j)
structure ZA(z TI TO:aD)(n:Nat)(it l:Nat->aD):Prop where
 tiz:TI≠z
 toz:TO≠z
 aer:TI≠TO
 iz:∀j,j<n->it j≠z/\it j≠TI/\it j≠TO
 ii:∀j k,j<n->k<n->j≠k->it j≠it k
 lz:∀j,j<n->l j≠z/\l j≠TO/\∀k,k<n->l j≠it k
section
variable {f:aD}
def ZN.adv(N:ZN h z i f n d l p t u r)(A:ZA z i f n d l)(c:k<n)(m:g.IsListIter (d k) (l k)<|t k+1)(b:eE (d k) h g):ZN g z i f n d l p (λj=>if j=k then t j+1 else t j) u r:=by
 let(s,q,o):=A.iz k c;refine(b.extBut _ _ (bz s) N.zz,b.extBut _ _ (bz q) N.ti,b.extBut _ _ (bz o) N.to,N.sz,λj a =>?_,λj a =>?_)
 .by_cases e:j=k
  .simp_all
  .simp only[if_neg e];exact(N.iter j a).extBut b.extBut<|A.ii j k a c e
 .exact(N.lst j a).extBut b.extBut<|(A.lz j a).2.2 k c
def ZN.SY(N:ZN h z i f n d l p t u r)(A:ZA z i f n d l)(k:TupAt g f a)(e:a.size=n)(c:eE f h g):ZN g z i f n d l p t u a:=
 (c.extBut _ _ (bz A.toz) N.zz,c.extBut _ _ A.aer N.ti,k,e,λj b=>(N.iter j b).extBut c.extBut (A.iz j b).2.2,λj b=>(N.lst j b).extBut c.extBut (A.lz j b).2.1)
def ZN.SX(N:ZN h z i f n d l p t u r)(A:ZA z i f n d l)(e:IsZip g z i f c)(b:eE z h g):ZN g z i f n d l p t c r:=
 (e,b.extBut _ _ A.tiz N.ti,b.extBut _ _ A.toz N.to,N.sz,λj a=>(N.iter j a).extBut b.extBut (A.iz j a).1,λj a=>(N.lst j a).extBut b.extBut (A.lz j a).1)
end
def GX(z f:aD)(n:Nat)(d:Nat->aD)(h g:cG):Prop:=∀c o,c≠z->c≠f->(∀j,j<n->c≠d j)->h.get? c=Y o->g.get? c=Y o
section
variable {E:au->az->Prop}{s:az}
variable {f:aD}{d:Nat->aD}{m:Nat}
def BR(h:a=(cg n).map λj=>aQ<|d j)(c:k<n):(a.zipIdx).drop k=(aQ<|d k,k)::(a.zipIdx).drop (k+1):=by
 simp_all [cU]
abbrev ZI(s:az)(z i f:aD)(n:Nat)(d:Nat->aD)(l:Nat->aD)(p:Nat->Array au)(m:Nat)(L:!(au×Nat))(b:↑PySem.Fin×Unit)(s1:az):Prop:=b=(M,())/\∃(k:Nat) (F:cG) (C:Array au) (x:Nat->au),k<=n/\L=(((cg n).map λj=>aQ<|d j).zipIdx).drop k/\s1={ s with heap:=F }/\ZN F z i f n d l p (λj=>if j<k then m+1 else m) .ellipsis C /\
   (∀j,j<k->(p j)[m]?=Y (x j)/\C[j]?=Y (x j))/\F.objs.size=s.heap.objs.size/\GX z f n d s.heap F
def LW{Q:au->az->Prop}(hh:A.handled=M)(hn:0<n)(hn2:n<=100)(D:ZA z i f n d l)(N:ZN s.heap z i f n d l p (λu=>m) .none r) (hQ:∀g x,(∀j,j<n->(p j)[m]?=Y (x j))->ZN g z i f n d l p (λu=>m+1) (mY s.heap.objs.size) ((cg n).map x).toArray->TupAt g s.heap.objs.size ((cg n).map x).toArray->g.objs.size=s.heap.objs.size+1 ->
   GX z f n d s.heap g->Q (.ref s.heap.objs.size) { s with heap:=g }) (hE:(∃j,j<n/\(p j)[m]?=M)->∀g e,GX z f n d s.heap g->(∃o,g.get? e=Y o/\o.cls=.type "StopIteration")->E (.ref e) { s with heap:=g }) :
  bx (aZ B w) A (Builtin.«zip.__next__» ([.ref z],[])) (λku s'=>∃v,ku=.done (.ret v)/\Q v s') E s:=by
 unfold Builtin.«zip.__next__»;show bx _ _ (field (.ref z) 2 >>= _) _ _ _;refine ai<|i4 N.zz W (x :=.bool Z_) W ?_;refine ai<|i4 N.zz W W ?_;refine ai<|Z9 N.ti W ?_;have UH:((cg n).map λj=>aQ<|d j).toArray.isEmpty=false:=by cases n<;>simp_all
 simp only[UH,jo,if_false];refine ai ?_;unfold Builtin.SmallTypes.ownedTupleIsFree;refine ai<|i4 N.zz W (x :=.none) W (aJ ?_);simp only[if_true];refine ai<|wpAny_rule ?_;refine ai<|i4 N.zz W W ?_;refine ai<|t5 N.zz Ÿ λh1 z1 k1 =>?_;let N1:=N.SX D z1 k1;refine ai ?_;refine wpAny_forIn_list _ (ZI s z i f n d l p m) _ ?_ ?_ _ _ (W,0,h1,r,λu =>.none,dr _,W,W,by simpa using N1,λj H=>Ż,k1.1,λc o I u u e=>k1.extBut _ _ I e)
 .rintro x L b s1 ⟨rfl,k,F,C,J,hk,R,rfl,G,ho,hs,kp⟩;have h:k<n:=by
   obtain z|z:=Nat.lt_or_ge k n
   .exact z
   .rw[ma<|by simpa using z]at R;cases R
  rw[BR W h]at R;let(rfl,P):=List.cons.inj R;refine ai<|wpAny_onRaise ?_;show bx _ _ (Builtin.SmallTypes.nextOf (.ref<|d k) >>= _) _ _ _;have O:=G.iter k h;simp only[iF,if_false]at O;cases hx:(p k)[m]? with
  |none=>
   refine ai<|wpAny_nextOf_list_end hh O (G.lst k h) hx λh3 e X he =>?_;let(oe,S,hce):=he;have zz3:IsZip h3 z i f .ellipsis:=X _ _ (bz (D.iz k h).1) G.zz;let hez:e≠z:=λq=>by subst q;rw[zz3]at S;cases S<;>lia
   refine t5 zz3 Ÿ λh4 u t=>hE (k,h,hx) h4 e (λc o I c2 T q=>t.extBut _ _ I<|X _ _ (T k h)<|kp c o I c2 T q) (oe,t.extBut _ _ hez S,hce)
  |some y=>
   refine ai<|wpAny_nextOf_list_item O (G.lst k h) hx λh3 i3 X=>aJ ?_;have K:=G.adv D h (by simpa using i3) X;dsimp only;refine ai<|Z9 K.to W ?_;dsimp only;have hsz:C.size<=be:=by rw[K.sz,i5];lia
   refine ai<|wpAny_updateSeq K.to W ?_ hsz (by simp;omega);have up:TupAt (h3.update f<|Obj.mapSeq λq=>q.setIfInBounds k y) f<|C.setIfInBounds k y:=by show Heap.get? _ _=_;rw[cR _ K.to W];simp[Obj.mapSeq]
   have N4:=K.SY D up (by simpa using K.sz)<|Heap.SameBut.update ..;refine ai<|wpAny_letGo<|aJ ?_;refine(W,k+1,_,C.setIfInBounds k y,λj=>if j=k then y else J j,h,P,W,?_,λj H =>?_,?_,λc o I c2 T q =>?_)
   .have:(λj=>if j=k then (if j<k then m+1 else m)+1 else if j<k then m+1 else m)=λj=>if j<k+1 then m+1 else m:=by
     funext j
     by_cases e:j=k<;>lia
    rw[this]at N4;exact N4
   .by_cases e:j=k
    .subst e;simp only[if_true];exact(hx,by rw[Array.getElem?_setIfInBounds_self_of_lt];rw[G.sz];exact h)
    .simp only[if_neg e];let(a,b):=ho j Ž;exact(a,by rw[mZ<|by solve_by_elim];exact b)
   .rw[ya,X.1,hs]
   .exact(Heap.SameBut.update h3 f _).extBut _ _ c2<|X.extBut _ _ (T k h)<|kp c o I c2 T q
 .refine λb s1 xx=>ah λkk =>?_
  let(rfl,k,F,C,J,hk,R,rfl,G,ho,hs,kp):=xx;refine kk ?_;have h:k=n:=by
   obtain z|z:=Nat.lt_or_ge k n
   .rw[BR W z]at R;cases R
   .lia
  subst h;let aft:C=((cg k).map J).toArray:=by
   apply Array.ext_getElem?;intro j;by_cases H:j<k
   .rw[(ho j H).2];simp[H]
   .rw[VS<|by rw[G.sz];simp_all]
    symm
    apply VS;simp;lia
  subst aft;dsimp only;refine ai<|Z9 G.to W ?_;dsimp only;refine ai<|wpAny_newTuple ?_ (by simp;rw[i5];lia);have zlt:z<F.objs.size:=aO G.zz;have ext:∀c o,F.get? c=Y o->(F.push { cls :=.type "tuple",data :=.seq ((cg k).map J).toArray }).get? c=Y o:=λc o q=>ao _ q
  have K:ZN _ z i f k d l p _ .ellipsis ((cg k).map J).toArray:=
   (ext _ _ G.zz,ext _ _ G.ti,ext _ _ G.to,G.sz,λj H=>(G.iter j H).at<|λo q=>ext _ _ q,λj H=>(G.lst j H).at<|λo q=>ext _ _ q)
  refine ai ?_;unfold Builtin.SmallTypes.ownedTupleHandOut;refine ai<|t5 K.zz Ÿ λh4 z4 t =>?_;have N4:=K.SX D z4 t;refine t5 N4.zz Ÿ λh5 z5 k5 =>?_
  have U:=N4.SX D z5 k5;let tup:TupAt h5 F.objs.size ((cg k).map J).toArray:=k5.extBut _ _ (eR zlt)<|t.extBut _ _ (eR zlt)<|bo _ W;let sz5:h5.objs.size=F.objs.size+1:=by rw[k5.1,t.1,eC]
  refine aJ (_,W,?_);rw[hs]at U tup sz5;show Q (.ref F.objs.size) _;rw[hs];refine hQ h5 J (λj H=>(ho j H).1) (U.zz,U.ti,U.to,U.sz,λj H=>by simpa [H] using U.iter j H,U.lst) tup sz5 λc o I c2 T q=>(λc o I q=>k5.extBut _ _ I<|t.extBut _ _ I<|ext c o q) c o I<|kp c o I c2 T q
def wM(v:A.handled=M)(k:0<n)(a:n<=100)(D:ZA z i f n d l)(N:ZN s.heap z i f n d l p (λ_=>m) .none r) (F:∀g x,(∀j,j<n->(p j)[m]?=Y (x j))->ZN g z i f n d l p (λ_=>m+1) (mY s.heap.objs.size) ((cg n).map x).toArray->TupAt g s.heap.objs.size ((cg n).map x).toArray->g.objs.size=s.heap.objs.size+1 ->
   GX z f n d s.heap g->Q (Y<|.ref s.heap.objs.size) { s with heap:=g }) (G:(∃j,j<n/\(p j)[m]?=M)->∀g,GX z f n d s.heap g->Q M { s with heap:=g }):bx (aZ B w) A (pyNext<|.ref z) Q E s:=by
 have b:s.TypeIs (.ref z) _:=(_,N.zz,W);refine ai (Hk (wpAny_callSpecial?_slot b PySem.F.slot_zip_next
  (RX PySem.F.slot_zip_next b PySem.F.entry_zip_next (LW v k a D N (λg x L K J I H=>aJ<|F g x L K J I H) λq g e c y =>?_)<|PySem.F.args_zip_next_1 _)))
 let(o,h,C):=y;exact ai<|wpAny_isInstance (o,h,C) isSubtype_stop<|aJ<|G q _ c
end
noncomputable def l5{d:Type}(a b c:d):Nat->d
 |0=>a|1=>b|_=>c
def LX(a b c):checkTypeCall "zip" ([a,b,c],[])=c9 ():=by kernel_rfl
def Oc(a b c):checkBuiltinCall "zip.__new__" ([.type "zip",a,b,c],[])=c9 ():=by kernel_rfl
def ab2(a b c d):argsOk "object.__init__" ([a,b,c,d],[]):=by
 exact ź
noncomputable abbrev itO(l:aD):Obj:={ cls :=.type "list_iterator",data :=.fields #[.ref l,.int 0 0] }
section
variable (h:cG)(a b c:aD)
abbrev zA:cG:=h.push<|itO a
abbrev zB:cG:=(zA h a).push<|itO b
abbrev zC:cG:=(zB h a b).push<|itO c
abbrev zT:cG:=(zC h a b c).push { cls :=.type "tuple",data :=.seq #[.ref h.objs.size,.ref (zA h a).objs.size,.ref (zB h a b).objs.size] }
abbrev zO:cG:=(zT h a b c).push { cls :=.type "tuple",data :=.seq #[.none,.none,.none] }
abbrev zZ:cG:=(zO h a b c).push { cls :=.type "zip",data :=.fields #[.none,.bool Z_,.bool Z_,.ref (zC h a b c).objs.size,.ref (zT h a b c).objs.size] }
end
def Hv(a b c)(m l k):
  Meets (Builtin.«zip.__new__» ([.type "zip",.ref a,.ref b,.ref c],[])) (λ_ R s=>s.heap.IsList a m/\s.heap.IsList b l/\s.heap.IsList c k/\R (.ok<|.ret<|.ref (zO s.heap a b c).objs.size) { s with heap:=zZ s.heap a b c }):=
 .of_wp λf w A R s h=>by
  let(q,p,o,h):=h;let n:=sub_zip
  wp_walk using kh q,kh<|R8 p _,kh<|R8 (R8 o _) _
  exact(_,W,h)
section
variable {f:bj}{s:az}
def Ny{m}(B:s.heap.IsList a p)(z:s.heap.IsList b n)(y:s.heap.IsList c m) (h:∀d,IsZip d (s.heap.objs.size+5) (s.heap.objs.size+3) (s.heap.objs.size+4) .none->TupAt d (s.heap.objs.size+3) #[.ref s.heap.objs.size,.ref<|s.heap.objs.size+1,.ref<|s.heap.objs.size+2] ->
   TupAt d (s.heap.objs.size+4) #[.none,.none,.none]->d.IsListIter s.heap.objs.size a 0->d.IsListIter (s.heap.objs.size+1) b 0->d.IsListIter (s.heap.objs.size+2) c 0 ->
   (∀c o,s.heap.get? c=Y o->d.get? c=Y o)->Q (.ref<|s.heap.objs.size+5) { s with heap:=d }) :
  bx (aZ f w) A (Jq (.type "zip") [.ref a,.ref b,.ref c]) Q E s:=by
 refine callType_new PySem.F.called_zip Ÿ (LX _ _ _) (Oc _ _ _) (λk=>ab2 k _ _ _) PySem.F.entry_zip_new (Hv a b c p n m) (B,z,y,?_);let j:(zA s.heap a).objs.size=s.heap.objs.size+1:=eC ..;have i:(zB s.heap a b).objs.size=s.heap.objs.size+2:=by rw[eC,j]
 have g:(zC s.heap a b c).objs.size=s.heap.objs.size+3:=by rw[eC,i]
 have e:(zT s.heap a b c).objs.size=s.heap.objs.size+4:=by rw[eC,g]
 have q:(zO s.heap a b c).objs.size=s.heap.objs.size+5:=by rw[eC,e]
 have l:(zZ s.heap a b c).get? _=Y _:=bo _ W;let r:(zZ s.heap a b c).get? _=Y _:=ao _<|bo _ W;let t:(zZ s.heap a b c).get? _=Y _:=ao _<|ao _<|bo _ W;let u:(zZ s.heap a b c).get? _=Y _:=ao _<|ao _<|ao _<|bo _ W;let v:(zZ s.heap a b c).get? _=Y _:=ao _<|ao _<|ao _<|ao _<|bo _ W;show _/\_;rw[g,e,q]at l;rw[e]at r;rw[g,j,i]at t;rw[i]at u;rw[j]at v;rw[q];exact((_,l,W),h _ l t r (_,(ao _<|ao _<|ao _<|ao _<|ao _<|bo _ W),W,W) (_,v,W,W) (_,u,W,W) λc o x=>ao _<|ao _<|ao _<|ao _<|ao _<|ao _ x)
end
noncomputable def Z5(K : PySem.W.Frag)(a b c : aD): It :=
  (λi H => ∃g e d x y z,lZ K H a g /\ lZ K H b e /\ lZ K H c d /\ g[i]? = Y x /\ e[i]? = Y y /\ d[i]? = Y z,
   λi H v h => ∃x y z p,(∀g,lZ K H a g -> g[i]? = Y x) /\ (∀e,lZ K H b e -> e[i]? = Y y) /\ (∀d,lZ K H c d -> d[i]? = Y z) /\ H p = M /\ v = .ref p /\ h = cO H p (.tup [x,y,z]),
   λi H => ∃g e d,lZ K H a g /\ lZ K H b e /\ lZ K H c d /\ (g.length <= i \/ e.length <= i \/ d.length <= i))
def ZSt(z l k j g e a b c:aD)(i:Nat)(h:cG):Prop:=∃d,d.size=3/\IsZip h z l k .none/\TupAt h l #[.ref j,.ref g,.ref e]/\TupAt h k d/\h.IsListIter j a i/\h.IsListIter g b i/\h.IsListIter e c i
theorem qe{P:Nat->Prop}(c:P 0)(b:P 1)(a:P 2):∀j,j<3->P j
 |0,_=>c|1,_=>b|2,_=>a
def L7{P:bj}{K}{x1}(a b c z L C J G F)(Z:ZA z L C 3 (l5 J G F)<|l5 a b c):
  NS P w K (.Tuple ads x1 aaO) (Z5 K a b c) [z,L,C,J,G,F] z (ZSt z L C J G F a b c) where
 mem:=by solve_by_elim
 obj:=λi h st d hc=>by
  let(p,s0,s1,s2,s3,s4,s5,s6):=st;simp only[aT,kf,or_false]at hc;obtain rfl|rfl|rfl|rfl|rfl|rfl:=hc
  .exact(_,s1,λv z=>by cases z)
  .exact(_,s2,λv z=>by cases z)
  .exact(_,s3,λv z=>by cases z)
  .let(o,e,c,d):=s4;exact(o,e,λv z=>by rw[d]at z;cases z)
  .let(o,e,c,d):=s5;exact(o,e,λv z=>by rw[d]at z;cases z)
  .let(o,e,c,d):=s6;exact(o,e,λv z=>by rw[d]at z;cases z)
 keep:=λi h h' st k=>by let(p,s0,s1,s2,s3,s4,s5,s6):=st;exact(p,s0,k z Ÿ _ s1,k L Ÿ _ s2,k C Ÿ _ s3,s4.at λo q=>k J Ÿ o q,s5.at λo q=>k G Ÿ o q,s6.at λo q=>k F ż o q)
 item:=by
  intro X hP hw hK hc i D s σ H E I hf st hg;subst hP hw hK;let(p,s0,s1,s2,s3,s4,s5,s6):=st;let(xs,ys,zs,x,y,zz,hq1,hq2,hq3,m,hy,hzz):=hg;let(T,rv1,p1,hz1):=I.list hq1;let(S,rv2,p2,hz2):=I.list hq2;let(R,rv3,p3,hz3):=I.list hq3;let(u1,hu1,ru1):=rv1.get m;let(u2,WC,ru2):=rv2.get hy;let(u3,hu3,ru3):=rv3.get hzz;let f:∀d∈[z,L,C,J,G,F],AB X D H d:=hf;have N:ZN s.heap z L C 3 (l5 J G F) (l5 a b c) (l5 T.toArray S.toArray R.toArray) (λA=>i) .none p:=(s1,s2,s3,s0,qe s4 s5 s6,qe p1.isList p2.isList p3.isList);refine wM (I.ok.hd hc) ſ ſ Z N (λh1 xx t N1 t1 z1 k1 =>?_) λhe =>?_
  .let e1:xx 0=u1:=by have:=t 0 ſ;simp[l5]at this;rw[hu1]at this;cases this;rfl
   let e2:xx 1=u2:=by have:=t 1 ſ;simp[l5]at this;rw[WC]at this;cases this;rfl
   let e3:xx 2=u3:=by have:=t 2 ſ;simp[l5]at this;rw[hu3]at this;cases this;rfl
   let t1:TupAt h1 s.heap.objs.size #[u1,u2,u3]:=by have:=t1;simpa [List.range_succ,e1,e2,e3] using this
   refine(_,W,?_);refine wpAny_letOwnedTupleGo_zip (s:={ s with heap:=h1 }) N1.zz λh2 e2' w2 =>?_
   let hzp:z<s.heap.objs.size:=aO s1;let hn:H s.heap.objs.size=none:=I.dS.fresh<|aV _;let w2':eE z h1 h2:=w2;have N2:=N1.SX Z e2' w2';have g:∀d o,d∉[z,L,C,J,G,F]->s.heap.get? d=Y o->h2.get? d=Y o:=λd o l q=>by
    have n1:d≠z:=λe=>l (by simp[e])
    let n2:d≠C:=λe=>l (by simp[e])
    exact(w2'.2 d n1).trans<|k1 d o n1 n2 (qe (λe=>l<|by simp[e,l5]) (λe=>l<|by simp[e,l5])<|λe=>l<|by simp[e,l5]) q
   let tup:h2.get? s.heap.objs.size=Y { cls :=.type "tuple",data :=.seq #[u1,u2,u3] }:=(w2'.2 _<|eR hzp).trans t1;have O:∀d o,H d=Y o->d∉[z,L,C,J,G,F]:=λd o q l=>by have:=(f d l).1;rw[this]at q;cases q
   let new:hR X.prog X.w (cO H s.heap.objs.size<|.tup [x,y,zz]) h2 s.heap.objs.size<|.tup [x,y,zz]:=
    (by show 3<=be;rw[i5];decide,[u1,u2,u3],.cons ru1<|.cons ru2<|.cons ru3 .nil,_,tup,W,_,W)
   let U:lT X.prog X.w (cO H s.heap.objs.size<|.tup [x,y,zz]) h2:=λd o q=>by
    by_cases l:d=s.heap.objs.size
    .subst l;rw[aP]at q;cases q;exact new
    .rw[aI l]at q;refine(I.dS d o q).uk (λc v B r =>?_) (λc r=>by rw[aI<|bc r hn];exact r) λc ys r=>by rw[aI<|bc r hn];exact r
     obtain rfl|B:=B
     .exact g _ _ (O _ _ q) r
     .exact g _ _ (O _ _ B) r
   have un:Un (yv X.stack) [z,L,C,J,G,F] H (cO H s.heap.objs.size<|.tup [x,y,zz]) s.heap h2:=by
    let old:∀b o,s.heap.get? b=Y o->b≠s.heap.objs.size:=λb o q=>bI<|aO q
    exact(λb o q n A m=>g b o m q,λb o q n A m=>(o.slots,g b o m q),λb o q n m=>by rw[aI<|old b o q];exact n,
     λb o q m=>(o,g b o m q),λb ys q=>by rw[aI<|bc q hn];exact q,λb o u q=>by rw[aI<|bc q hn];exact q,λb ps q=>(#[],by rw[aI<|bc q hn];simpa using q))
   let I2:Inv X D σ (cO H s.heap.objs.size<|.tup [x,y,zz]) { s with heap:=h2 }:=I.xk (s':={ s with heap:=h2 }) W un U I.bare λb l=>((f b l).2.2.2.1,(f b l).2.1,(f b l).2.2.2.2.1,(f b l).2.2.2.2.2)
   refine(.ref s.heap.objs.size,_,I2,W,(x,y,zz,s.heap.objs.size,λq hq=>by rw[I.qT hq hq1];exact m,λq hq=>by rw[I.qT hq hq2];exact hy,λq hq=>by rw[I.qT hq hq3];exact hzz,hn,W,W),(_,N2.sz,N2.zz,N2.ti,N2.to,N2.iter 0 ſ,N2.iter 1 ſ,N2.iter 2 ſ),λd hd =>?_);have:d≠s.heap.objs.size:=by
    simp only[aT,kf,or_false]at hd;obtain rfl|rfl|rfl|rfl|rfl|rfl:=hd
    .exact bI hzp
    .exact bI<|aO s2
    .exact bI<|aO s3
    .let(o,q,_):=s4;exact bI<|aO q
    .let(o,q,_):=s5;exact bI<|aO q
    .let(o,q,_):=s6;exact bI<|aO q
   rw[aI this];exact(f d hd).1
  .exfalso;let(j,hj,q):=he
   match j,hj,q with
   |0,_,q=>simp[l5]at q;rw[rA.mpr q]at hu1;cases hu1|1,_,q=>simp[l5]at q;rw[rA.mpr q]at WC;cases WC|2,_,q=>simp[l5]at q;rw[rA.mpr q]at hu3;cases hu3
 done:=by
  intro X hP hw hK hc i D s σ H E I hf st hg;subst hP hw hK;let(p,s0,s1,s2,s3,s4,s5,s6):=st;let(xs,ys,zs,hq1,hq2,hq3,m):=hg;let(T,rv1,p1,hz1):=I.list hq1;let(S,rv2,p2,hz2):=I.list hq2;let(R,rv3,p3,hz3):=I.list hq3;let l1:=rv1.length;let l2:=rv2.length;let l3:=rv3.length;let f:∀d∈[z,L,C,J,G,F],AB X D H d:=hf;have N:ZN s.heap z L C 3 (l5 J G F) (l5 a b c) (l5 T.toArray S.toArray R.toArray) (λA=>i) .none p:=(s1,s2,s3,s0,qe s4 s5 s6,qe p1.isList p2.isList p3.isList);refine wM (I.ok.hd hc) ſ ſ Z N (λh1 xx t =>?_) λA h' eb=>(W,?_)
  .exfalso;let q1:=t 0 ſ;let q2:=t 1 ſ;let q3:=t 2 ſ;simp[l5]at q1 q2 q3;have:=(aq.mp q1).1;have:=(aq.mp q2).1;have:=(aq.mp q3).1
   lia
  .have O:∀b o,H b=Y o->b∉[z,L,C,J,G,F]:=λb o q l=>by have:=(f b l).1;rw[this]at q;cases q
   have g:∀d o,d∉[z,L,C,J,G,F]->s.heap.get? d=Y o->h'.get? d=Y o:=λd o l q=>eb d o (λe=>l<|by simp[e]) (λe=>l<|by simp[e]) (qe (λe=>l<|by simp[e,l5]) (λe=>l<|by simp[e,l5])<|λe=>l<|by simp[e,l5]) q
   let U:lT X.prog X.w H h':=λb o q=>by
    refine(I.dS b o q).uk (λc v B r =>?_) (λc r=>r) λc ys r=>r
    obtain rfl|B:=B
    .exact g _ _ (O _ _ q) r
    .exact g _ _ (O _ _ B) r
   have un:Un (yv X.stack) [z,L,C,J,G,F] H H s.heap h':=
    (λb o q n A m=>g b o m q,λb o q n A m=>(o.slots,g b o m q),λb o q n m=>n,λb o q m=>(o,g b o m q),λb ys q=>q,λb o u q=>q,λb ps q=>(#[],by simpa using q))
   exact I.xk (s':={ s with heap:=h' }) W un U I.bare λb l=>((f b l).2.2.2.1,(f b l).2.1,(f b l).2.2.2.2.1,(f b l).2.2.2.2.2)
 self:=λA i s Q E st h=>by let(p,s0,s1,_):=st;exact wpAny_pyIter_zip s1 h
section
variable {X:Cx}{f:DF}
def Y6(K:aS)(k:TA):TI:=λe H R=>k e H λj d=>∃a b c,j=[.ref a,.ref b,.ref c]/\(∃i,lZ K d a i)/\(∃h,lZ K d b h)/\(∃f,lZ K d c f)/\R (Z5 K a b c) d
def cx.three(r:cx [x,y,z] a):∃u v w,a=[u,v,w]/\RelV x u/\RelV y v/\RelV z w:=by
 cases r with
 | cons d t=>cases t with
  | cons c t=>cases t with
   |cons b t=>cases t;exact(_,_,_,W,d,c,b)
def Tt{x1}(hg:Gl X "zip")(hm:X.mg "zip" = M)(ha:PA X [e,l,g] ta)(hs:@&(ak [e,l,g] X.env=[(Z_,eval e X.env),(Z_,eval l X.env),(Z_,eval g X.env)]))(K:@&(ak [l,g] X.env=[(Z_,eval l X.env),(Z_,eval g X.env)]))(hv:autoParam (fG "zip" = Y (.type "zip")) ţ):PI X (.Tuple L x1 t) (.Call (.Name "zip" p) [e,l,g] [] x)<|Y6 X.K ta:=by
 intro D s σ H R I h;refine Call_<|pz I hg hm hv<|gH (eG (ha x D s σ H _ I h) ?_) (by rw[hs,K]) (by rw[K];exact Ÿ);rintro us f ⟨vs,H1,r,r1,q1⟩;obtain⟨a,b,c,rfl,⟨xs,P⟩,⟨ys,O⟩,⟨zs,N⟩,q⟩:=q1;let(u,v,w,rfl,ru,rv,n):=cx.three r1;cases ru;cases rv;cases n;let(aix,rx1,C,hz1):=r.list P;let(aiw,rx2,B,hz2):=r.list O;let(aiv,rx3,y,hz3):=r.list N;let(oa,T,_):=C.isList;let(ob,S,_):=B.isList;let(oc,Q,_):=y.isList;let J:=aO T;let G:=aO S;let F:=aO Q;refine Ny C.isList B.isList y.isList λh' z1 z2 z3 z4 z5 z6 k1 =>?_
 refine wpAny_pyIter_zip z1 ?_;have i:∀k:Nat,H1 (f.heap.objs.size+k)=none:=λk=>r.dS.fresh<|ez _ _
 have m:∀ {d:aD}(k:Nat),d<f.heap.objs.size->d≠f.heap.objs.size+k:=fun {d} k h z=>by rw[z]at h;exact absurd h<|Nat.not_lt.mpr<|ez _ _
 have o:∀j k:Nat,j≠k->f.heap.objs.size+j≠f.heap.objs.size+k:=λj k h z=>h<|Nat.add_left_cancel z
 let Z:ZA (f.heap.objs.size+5) (f.heap.objs.size+3) (f.heap.objs.size+4) 3 (l5 (f.heap.objs.size+0) (f.heap.objs.size+1)<|f.heap.objs.size+2)<|l5 a b c:=by
  refine(o 3 5 ſ,o 4 5 ſ,o 3 4 ſ,qe (o 0 5 ſ,o 0 3 ſ,o 0 4 ſ) (o 1 5 ſ,o 1 3 ſ,o 1 4 ſ) (o 2 5 ſ,o 2 3 ſ,o 2 4 ſ),λj k hj hk U =>?_,?_)
  .have E:∀j,j<3->l5 (f.heap.objs.size+0) (f.heap.objs.size+1) (f.heap.objs.size+2) j=f.heap.objs.size+j:=qe W W W;rw[E j hj,E k hk];exact o j k U
  .exact qe (m 5 J,m 4 J,qe (m 0 J) (m 1 J)<|m 2 J) (m 5 G,m 4 G,qe (m 0 G) (m 1 G)<|m 2 G) (m 5 F,m 4 F,qe (m 0 F) (m 1 F)<|m 2 F)
 refine(f.heap.objs.size+5,_,_,_,H1,W,r.kept k1,
  L7 a b c (f.heap.objs.size+5) (f.heap.objs.size+3) (f.heap.objs.size+4) (f.heap.objs.size+0) (f.heap.objs.size+1) (f.heap.objs.size+2) Z,(_,W,z1,z2,z3,z4,z5,z6),λd hd =>?_,q)
 simp only[aT,kf,or_false]at hd;obtain rfl|rfl|rfl|rfl|rfl|rfl:=hd
 .exact r.zY (ez _ _)<|i 5
 .exact r.zY (ez _ _)<|i 3
 .exact r.zY (ez _ _)<|i 4
 .exact r.zY (ez _ _)<|i 0
 .exact r.zY (ez _ _)<|i 1
 .exact r.zY (ez _ _)<|i 2
noncomputable def nY:!D->!D->!D->!D
 |x::c,y::b,z::a =>.tup [x,y,z]::nY c b a|_,_,_=>[]
theorem vD:∀c b a,(nY c b a).length=min c.length (min b.length a.length)
 |[],b,a=>by trivial
 |x::c,[],a=>by trivial
 |x::c,y::b,[]=>by trivial
 |x::c,y::b,z::a=>by simp[nY,vD c b a]
theorem By:∀ {c b a:!D}{i:Nat}{d:D},(nY c b a)[i]?=Y d->∃x y z,c[i]?=Y x/\b[i]?=Y y/\a[i]?=Y z/\d=.tup [x,y,z]
 |[],b,a,i,d,h=>by simp[nY]at h
 |x::c,[],a,i,d,h=>by simp[nY]at h
 |x::c,y::b,[],i,d,h=>by simp[nY]at h
 |x::c,y::b,z::a,0,d,h=>by simp[nY]at h;exact(x,y,z,W,W,W,h.symm)
 |x::c,y::b,z::a,i+1,d,h=>by simp only[nY,List.getElem?_cons_succ]at h ⊢;exact By h
def MR{K}{f e}(g:G a=Y (.lst f))(L:G b=Y (.lst h))(J:G c=Y (.lst e))(r:bB K G ds f)(U:bB K G es h)(o:bB K G fs e):NK K G (Z5 K a b c)<|nY ds es fs:=by
 let l1:=r.length;let l2:=U.length;let l3:=o.length;refine(λi H s I =>?_,λi H s I=>(f,h,e,.of<|s _ _ g,.of<|s _ _ L,.of<|s _ _ J,by rw[vD]at I;lia),λi H x H' G1 d v k (y,T,j,p,P,O,N,X,ev,eh) hd =>?_)
 .rw[vD]at I;have P:i<f.length:=ŷ
  have O:i<h.length:=ŷ
  have N:i<e.length:=ŷ
  exact(f,h,e,f[i],h[i],e[i],.of<|s _ _ g,.of<|s _ _ L,.of<|s _ _ J,ż,ż,ż)
 .let(c1,c2,c3,S,R,Q,rfl):=By hd;let F:=P f<|.of<|k _ _<|v _ _ g;let E:=O h<|.of<|k _ _<|v _ _ L;let C:=N e<|.of<|k _ _<|v _ _ J;let(v1,u,B):=r.get S;let(v2,t,z):=U.get R;let(v3,q,w):=o.get Q;rw[F]at u;cases u;rw[E]at t;cases t;rw[C]at q;cases q;subst ev eh;have m:=v.trans<|.alloc (o :=.tup [y,T,j]) (k.free X);exact(cO G1 p<|.tup [y,T,j],f_.alloc k X,dA.mpr (p,_,W,aP,.cons (cM.mono m c1 B)<|.cons (cM.mono m c2 z)<|.cons (cM.mono m c3 w) .nil))
def iZ3(f n A:DF):DL:=λa=>(iL f a).bind λd=>(iL n a).bind λc=>(iL A a).map λb=>nY d c b
def Vk{O}{m:Pos}(hg:Gl X "zip")(hm:X.mg "zip" = M)(h:PE X e<|tP X.K Z f)(h':PE X l<|tP X.K Z n)(E:PE X g<|tP X.K Z A)(hs:@&(ak [e,l,g] X.env=[(Z_,eval e X.env),(Z_,eval l X.env),(Z_,eval g X.env)]))(C:@&(ak [l,g] X.env=[(Z_,eval l X.env),(Z_,eval g X.env)]))(D:@&(ak [e,l,g] X.env=(Z_,eval e X.env)::ak [l,g] X.env))(B:@&(ak [l,g] X.env=(Z_,eval l X.env)::ak [g] X.env))(z:@&(ak [g] X.env=(Z_,eval g X.env)::ak [] X.env)):
  PI X (.Tuple r O m) (.Call (.Name "zip" p) [e,l,g] [] y) (BE X.K Z<|iZ3 f n A):=(Tt hg hm (gm h (gm h' (gm E mR z) B) D) hs C).imp <|by
 rintro σ H R ⟨G,u,ds,gh,F,j,k⟩;let(N,ef,j):=ae.1 j;rcases i:iL n u with _|Da
 .simp[i]at j
 rcases d:iL A u with _|L
 .simp_all
 simp only[i,d,av,gy]at j;cases j;refine(G,u,[.lst N,.lst Da,.lst L],gh,F,?_,λvs G1 H1 s r1 =>?_)
 .simp_all [aC,aN,DN,av]
 .refine ah λkk =>?_
  let(v,t,rfl,rv,rt):=bt.mp r1;let(v',t',rfl,w,x):=bt.mp rt;let(T,U,rfl,o,q):=bt.mp x;have:=cF.mp q;subst this;let(a,S,rfl,K,ra):=cH.mp rv;let(b,Q,rfl,J,rb):=cH.mp w;let(c,P,rfl,I,rc):=cH.mp o;exact kk<|(a,b,c,W,(S,.of<|s.gh _ _ K),(Q,.of<|s.gh _ _ J),(P,.of<|s.gh _ _ I),k _ G1 H1 s<|MR K J I ra rb rc)
end
structure TB(kd:SortKind)(a0:Array Keyed)(st:SortSt):Prop where
 pm:(da st).Perm a0
 kn:kindOf st=kd
 fl:failedOf st=none
 pd:EU st=#[]
noncomputable def kx(o:au->Int)(a:Array Keyed)(i:Nat):Int:=((a[i]?).map λp=>o p.1).getD 0
def Up(o:au->Int)(a:Array Keyed)(k:Nat):Prop:=∀i j,i<j->j<k->kx o a i<kx o a j
def Dn(o:au->Int)(a:Array Keyed)(k:Nat):Prop:=∀i j,i<j->j<k->kx o a j<kx o a i
def Df(o:au->Int)(a:Array Keyed):Prop:=(a.toList.map λp=>o p.1).Nodup
def Df.perm(h:Df o a)(p:b.Perm a):Df o b:=by
 let q:=(qx.mp p).map λp=>o p.1
 exact q.nodup_iff.mpr h
def Df.ne(h:Df o a){i j}(d:i<a.size)(c:j<a.size)(b:i≠j):kx o a i≠kx o a j:=by
 intro e;have g:kx o a i=(a.toList.map λp=>o p.1)[i]'(by simpa using d):=by simp[kx,d]
 have f:kx o a j=(a.toList.map λp=>o p.1)[j]'(by simpa using c):=by simp[kx,c]
 rw[g,f]at e;obtain z|z:=Nat.lt_or_gt_of_ne b
 .exact rp.mp h i j _ _ z e
 .exact rp.mp h j i _ _ z e.symm
section
variable {s:az}
def TB.size{a}(h:TB kd a0 a):(da a).size=a0.size:=h.pm.size_eq
def TB.arr(h:TB kd a0 a)(p:b.Perm<|da a):TB kd a0<|setArr a b:=(p.trans h.pm,h.kn,h.fl,h.pd)
def TB.ne(h:TB kd a0 a)(d:Df o a0){i j}(e:i<a0.size)(c:j<a0.size)(b:i≠j):kx o (da a) i≠kx o (da a) j:=
 (d.perm h.pm).ne (by rw[h.size];exact e) (by rw[h.size];exact c) b
def Cmp(prog:bj)(w:cQ)(A:fJ)(E:au->az->Prop)(s:az)(a0:Array Keyed)(kd:SortKind)(o:au->Int):Prop:=
 ∀(a:SortSt) (i j:Nat) (Q:↑Bool->SortSt->Prop),TB kd a0 a->i<a0.size->j<a0.size->i≠j->Q (Y<|decide (kx o (da a) i<kx o (da a) j)) a->wpS (aZ prog w) A E s (ltAt' i j) Q a
def Up.more{i:Nat}(u:Up o c i)(g:1<=i)(h:kx o c (i-1)<kx o c i):Up o c<|i+1:=λa b d j=>by
 by_cases e:b=i
 .subst e;by_cases f:a=b-1
  .simp_all
  .exact EM (u a _ Ž ž) h
 .exact u a b d Ž
def Dn.more{i:Nat}(u:Dn o c i)(g:1<=i)(h:kx o c i<kx o c (i-1)):Dn o c<|i+1:=λa b d j=>by
 by_cases e:b=i
 .subst e;by_cases f:a=b-1
  .simp_all
  .exact EM h<|u a _ Ž ž
 .exact u a b d Ž
def Jy{m:Nat}(C:Cmp prog w A E s a0 kd o)(d:Df o a0)(B:TB kd a0 b)(n:m<=a0.size)(p:1<=a)(j:a<=m)(u:Up o (da b) a)(h:∀i,a<=i->i<=m->Up o (da b) i->(i=m\/kx o (da b) i<kx o (da b) (i-1))->Q (M,i) b):wpS (aZ prog w) A E s (ascLoop a m) Q b:=by
 refine xo (I:=λi c t=>c=(M,i)/\t=b/\Up o (da b) i) (λi c t g l k =>?_) (λc t k =>?_) (W,W,u)
 .let(rfl,rfl,f):=k;refine c7<|C _ i (i-1) _ B ž Ž Ž ?_;dsimp only;by_cases e:kx o (da t) i<kx o (da t) (i-1)
  .rw[decide_eq_true e,if_pos W];exact gD<|h i g ž f<|.inr e
  .rw[decide_eq_false e];have:=B.ne d (i:=i-1) (j:=i) Ž Ž Ž;exact gD (W,W,f.more ž Ž)
 simp_all
def L0{m:Nat}(C:Cmp prog w A E s a0 kd o)(d:Df o a0)(B:TB kd a0 b)(n:m<=a0.size)(p:1<=a)(j:a<=m)(u:Dn o (da b) a)(h:∀i,a<=i->i<=m->Dn o (da b) i->Q (M,i,0) b):wpS (aZ prog w) A E s (descLoop a m) Q b:=by
 refine xo (I:=λi c t=>c=(M,i,0)/\t=b/\Dn o (da b) i) (λi c t g l k =>?_) (λc t k =>?_) (W,W,u)
 .let(rfl,rfl,f):=k;refine c7<|C _ i (i-1) _ B Ž Ž Ž ?_;dsimp only;by_cases e:kx o (da t) i<kx o (da t) (i-1)
  .rw[decide_eq_true e];exact gD (W,W,f.more Ž e)
  .rw[decide_eq_false e];refine c7<|C _ (i-1) i _ B Ž Ž Ž ?_;have:=B.ne d (i:=i-1) (j:=i) Ž Ž Ž;dsimp only;rw[decide_eq_true<|by lia];exact gD<|h i g ž f
 simp_all
def Hx(b:n<=a.size)(u:Dn o a n):Up o (mirror a 0 n<|(n-0)/2) n:=λi j e d=>by
 have g:∀k,k<n->kx o _ k=kx o a _:=λk c=>by unfold kx;rw[getElem?_mirror_all b k,if_pos (dr _,c),vu]
 rw[g i (by lia),g j d];exact u _ _ ž ž
def C9{m:Nat}(C:Cmp prog w A E s a0 kd o)(d:Df o a0)(B:TB kd a0 c)(I:m=a0.size)(G:1<=m)(h:∀i t,TB kd a0 t->1<=i->i<=m->Up o (da t) i->Q (Y i) t):wpS (aZ prog w) A E s (countRun' 0 m) Q c:=by
 rw[countRun0_eq];refine c7<|Jy C d B Ż (aV 1) G (λi j D J=>Ż) λi g f l q =>?_;dsimp only;by_cases e:i=m
 .subst e;rw[if_pos<|by simp];exact gD<|h i c B g f l
 .rw[if_neg<|by simpa using e];let q:kx o (da c) i<kx o (da c) (i-1):=by obtain z|z:=q<;>trivial
  by_cases r:i > 1
  .rw[if_pos r];refine c7<|C _ _ _ _ B Ž ž (by show 0≠i-1;lia) ?_;dsimp only;rw[decide_eq_true<|l 0 (i-1) (by lia) (by omega),if_pos W];exact gD<|h i c B g f l
  .rw[if_neg r];have:i=1:=by lia
   subst this;unfold descPart;refine c7<|wpS_lift<|wpAny_rule (W,?_);refine c7<|L0 C d B Ž ž Ž (Dn.more (i:=1) (λa b F K=>Ż) (aV 1) q) λj y p H =>?_;dsimp only;rw[if_neg<|by decide];unfold tail3;rw[reverseSlice'_eq];refine c7<|wpS_modify ?_;have u:TB kd a0<|setArr c<|mirror (da c) 0 j<|(j-0)/2:=B.arr<|mirror_perm _ _ _ _;refine c7<|Jy C d u Ž Ž p (Hx (by rw[B.size];simp_all) H) λk x n v a =>?_;exact gD<|h k _ u Ž n v
def Xe(f:k<a.size)(n:l<=k)(u:Up o a k)(e:∀i,i<l->kx o a i<kx o a k)(h:∀i,l<=i->i<k->kx o a k<kx o a i):Up o (bubble a k<|k-l)<|k+1:=λi j b p=>by
 have g:∀q,kx o (bubble a k<|k-l) q=if q=l then kx o a k else if l<q/\q<=k then kx o a (q-1) else kx o a q:=λq=>by
  unfold kx;rw[getElem?_bubble f (k-l) (by simp) q,show k-(k-l)=l by lia];split
  .exact Ÿ
  .split<;>solve_by_elim
 rw[g i,g j];by_cases d:i=l
 .rw[if_pos d,if_neg (by lia),if_pos<|by lia];exact h _ Ž ž
 .rw[if_neg d];by_cases c:j=l
  .rw[if_pos c,if_neg<|by lia];exact e _ ž
  .rw[if_neg c];by_cases s:l<i
   .rw[if_pos (by lia),if_pos<|by lia];exact u _ _ ž ž
   .rw[if_neg<|by lia];by_cases r:l<j
    .grind
    .rw[if_neg<|by lia];exact u _ _ b Ž
def Te{m:Nat}(C:Cmp prog w A E s a0 kd o)(d:Df o a0)(B:TB kd a0 y)(T:n=a0.size)(K:1<=m)(U:m<=n)(u:Up o (da y) m)(h:∀t,TB kd a0 t->Up o (da t) n->Q Z' t):wpS (aZ prog w) A E s (binarySort' 0 n m) Q y:=by
 rw[binarySort'_eq];simp only[vu];let z:max m 1=m:=by simp_all
 rw[z];refine c7<|wpS_mono (xo (I:=λk c t=>c=(M,())/\TB kd a0 t/\Up o (da t) k) (Q:=λc t=>c=(M,())/\TB kd a0 t/\Up o (da t) n) (λk c t Da L D =>?_) (λc t D =>?_) (W,B,u)) λc t J =>?_
 .let(rfl,g,a):=D;refine c7 (wpS_mono (xo (I:=λq c b=>b=t/\∃l r,c=(M,l,r)/\l<=r/\r<=k/\r-l<=k-q/\(∀i,i<l->kx o (da t) i<kx o (da t) k)/\(∀i,r<=i->i<k->kx o (da t) k<kx o (da t) i))
   (Q:=λc b=>b=t/\∃l,c=(M,l,l)/\l<=k/\(∀i,i<l->kx o (da t) i<kx o (da t) k)/\(∀i,l<=i->i<k->kx o (da t) k<kx o (da t) i)) (λq c b I H p =>?_) (λc b p =>?_) (W,0,k,W,dr _,aV _,ż,λi f=>Ż,λi f N=>ŷ)) λc b p =>?_)
  .refine ah λkk =>?_
   let(rfl,l,r,rfl,G,v,R,j,f):=p;refine kk ?_;dsimp only;by_cases e:l ≥ r
   .rw[if_pos e];have:l=r:=by lia
    subst this;exact gD (W,l,W,v,j,f)
   .rw[if_neg e];obtain⟨p,hp,p0,p1⟩:∃p,(l+r)/2=p/\l<=p/\p<r:=(_,W,Ž,Ž);rw[hp];refine c7<|C _ _ _ _ g ž ŷ ŷ ?_;dsimp only;by_cases x:kx o (da b) k<kx o (da b) (p)
    .rw[decide_eq_true x,if_pos W];refine gD (W,l,p,W,ž,ŷ,ŷ,j,λi P O =>?_);by_cases F:i=p
     .subst F;exact x
     .exact EM x<|a _ _ Ž O
    .rw[decide_eq_false x,if_neg<|by decide];have S:=g.ne d (i:=k) (j:=p) Ż ŷ ŷ;refine gD (W,p+1,r,W,by trivial,v,ŷ,λi P =>?_,f);by_cases F:i=p
     .subst F;lia
     .have:=a i (p) Ž ž
      lia
  .let(rfl,l,r,rfl,G,v,R,j,f):=p;have:l=r:=by grind
   simp_all
  .let(rfl,l,rfl,lk,j,f):=p;dsimp only;rw[moveDown'_eq];exact c7<|wpS_modify<|gD (W,g.arr<|bubble_perm _ _ _,Xe (by rw[g.size];lia) lk a j f)
 .simp_all
 .let(rfl,g,a):=J;exact gD<|h t g a
def OM{st:SortSt}{Q:Unit->SortSt->Prop}(C:Cmp prog w A E s a0 kd o)(d:Df o a0)(B:TB kd a0 st)(P:2<=a0.size)(m:a0.size<64)(h:∀t,(da t).Perm a0->failedOf t=M->Up o (da t) a0.size->Q () t):wpS (aZ prog w) A E s sortRuns' Q st:=by
 rw[sortRuns'_eq];refine c7<|wpS_get ?_;dsimp only;have I:=by
  have:∀n,0<n->n<64->minRun' n n 0=n:=λn R N=>by
   cases n with|zero=>rfl|succ f=>rw[minRun'_succ,if_pos N,Nat.add_zero]
  exact this _ Ž m
 rw[B.size,I];refine c7 (wpS_mono (xo (I:=λx c t=>if x=0 then c=(M,0)/\TB kd a0 t else c=(M,a0.size)/\(da t).Perm a0/\failedOf t=M/\(EU t).size=1/\Up o (da t) a0.size)
  (Q:=λc t=>c=(M,a0.size)/\(da t).Perm a0/\failedOf t=M/\(EU t).size=1/\Up o (da t) a0.size) (λx c t K J g =>?_) (λc t g =>?_) (by trivial)) λc t S =>?_)
 .by_cases e:x=0
  .subst e;simp only[if_true]at g;let(rfl,O):=g;dsimp only;rw[if_neg (by lia),Nat.sub_zero];have ku:∀a,TB kd a0 a->Up o (da a) a0.size->(da _).Perm a0/\failedOf _=M/\(EU<|setPending a<|(EU a).push (0,a0.size,0)).size=1/\Up o _ a0.size:=λa b u=>(b.pm,b.fl,by rw[b.pd];rfl,u)
   refine c7<|C9 C d O W (by trivial) λi D r k j v =>?_;dsimp only;by_cases F:i<a0.size
   .rw[if_pos F];refine c7<|wpS_lift<|wpAny_rule (W,?_);rw[EH];refine c7<|Te C d r W k j v λy G H =>?_;simp only[Bool.not_true,jo,if_false];refine c7<|wpS_get ?_;rw[show (EU y).back? = M by rw[G.pd];rfl];dsimp only;refine c7<|wpS_modify<|gD ?_;simp only[vu];exact(ż,ku y G H)
   .rw[if_neg F];have:i=a0.size:=by lia
    subst this;refine c7<|wpS_get ?_;rw[show (EU D).back? = M by rw[r.pd];rfl];dsimp only;refine c7<|wpS_modify<|gD ?_;simp only[vu];exact(ż,ku D r v)
  .simp only[if_neg e]at g;let(rfl,L):=g;dsimp only;rw[if_pos<|aV _];exact gD (W,L)
 .have:max 0 a0.size≠0:=by lia
  rw[if_neg this]at g;exact g
 .let(rfl,p,f,q,u):=S;dsimp only;refine c7 (wpS_mono (xo (I:=λT c a=>a=t/\c=(M,())) (λx c a T T l =>?_) (λT T z=>z) (W,W)) λc a l =>?_)
  .let(rfl,rfl):=l;refine c7<|wpS_get ?_;rw[if_pos<|by simp_all];exact gD (W,W)
  .let(rfl,rfl):=l;exact gD<|h a p f u
def lH(h:cG)(v:au)(n:Int):Prop:=∃a o b k t,v=.ref a/\h.get? a=Y o/\o.cls=.type "tuple" /\o.data=.seq b k/\b[0]?=Y (.int n t)
noncomputable def oI(h:cG):au->Int
 | .ref a=>match h.get? a with
  | some o=>match o.data with
   | .seq (b:Array au) _=>match (b[0]? : ↑au) with
    |some (R0 n _)=>n|_=>0
   |_=>0
  |none=>0
 |_=>0
def lH.key{v:au}(x:lH h v n):oI h v=n:=by
 let(a,o,b,k,t,rfl,_):=x
 simp_all [oI]
def lH.keep{v:au}(x:lH h v n)(k:∀a o,h.get? a=Y o->c.get? a=Y o):lH c v n:=by
 let(a,o,b,e,t,rfl,f,d):=x;exact(a,o,b,e,t,W,k a o f,d)
def Qk{m:Int}(q:lH s.heap x m)(p:lH s.heap y n)(g:m≠n)(h:Q (decide (m<n)) s):bx (aZ prog w) A (keyLt' (tuples' Z') x y) Q E s:=by
 let(a,o,d,k,t,rfl,v,J,u,r):=q;let(b,H,c,I,l,rfl,D,K,C,B):=p;refine ai<|listItems_at v u<|ai<|listItems_at D C ?_;obtain⟨j,G⟩:∃j,d.toList=.int m t::j:=by
  have:d.toList[0]?=Y (.int m t):=by simpa using r
  cases e:d.toList<;>simp_all
 obtain⟨i,F⟩:∃i,c.toList=.int n l::i:=by
  have:c.toList[0]?=Y (.int n l):=by simpa using B
  cases e:c.toList<;>simp_all
 rw[G,F];simp only[d7,Hb,List.forIn_cons];refine ai<|ai<|ai<|wpAny_eqBool_int ?_;have:(m==n)=false:=by simpa using g
 rw[this];simp;exact ai<|oneLt_int<|aJ<|aJ<|aJ h
def IU{v:au}(d:lH s.heap v n)(h:∀t,Q (Y<|.int n t) s):bx (aZ prog w) A (firstOfTuple' v) Q E s:=by
 let(a,o,b,k,t,rfl,c,g,f,e):=d;refine ai<|wpAny_typeOf (o,c,g) ?_;refine ai<|listItems_at c f<|aJ ?_;rw[e];exact h t
def M6{s:az}{Q:!(↑au)->az->Prop}(q:Paired (lH s.heap) b c)(h:∀a,Paired (λf n=>∃t,f=Y (R0 n t)) a c->Q a s):bx (aZ prog w) A (b.mapM firstOfTuple') Q E s:=by
 induction q generalizing Q with
 |nil=>solve_by_elim|cons r t i=>rw[List.mapM_cons];exact ai<|IU r λd=>ai<|i λa e=>aJ<|h _<|.cons (d,W) e
def Ow{a}(q:Paired (λf n=>∃t,f=Y (R0 n t)) a c):(a.filterMap id).mapM Jp=c9 (c.map λ_=>cA "int")/\a.all (·.isSome)=true:=by
 induction q with
 |nil=>trivial|cons x r i=>
  let(g,d):=i;let(t,rfl):=x;rw[o9];simp only[id,List.mapM_cons,g]
  exact Ÿ
def Uv{Q:SortKind->az->Prop}(f:Paired (lH s.heap) c d)(k:c≠[])(h:Q (tuples' Z') s):bx (aZ prog w) A (keyKind' c.toArray) Q E s:=by
 rw[keyKind'_eq,List.mapM_toArray];refine ai ?_;refine ai<|M6 f λe j=>aJ ?_;let(i,g):=Ow j;rw[if_pos<|by grind];rw[oneTypeOnly'_eq];have m:(e.toArray.filterMap id).mapM Jp=c9 (d.map λ_=>cA "int").toArray:=by
  have:e.toArray.filterMap id=(e.filterMap id).toArray:=by grind
  rw[this,List.mapM_toArray,i];exact Ÿ
 rw[m];simp only[pure_bind];obtain⟨n,a,rfl⟩:∃n a,d=n::a:=by cases f<;>solve_by_elim
 let l:(NW (λ_=>cA "int")<|n::a).toArray[0]?=Y (cA "int"):=by rfl
 rw[l];let b:((NW (λ_=>cA "int")<|n::a).toArray.all λx=>x==cA "int")=true:=by simp
 simp only[b,if_true,pure_bind]
 exact Ÿ
def Mz(h:p∈(xp a).toList):p.1=p.2/\p.1∈a:=by
 rw[pairsOf_toList]at h;exact mem_zip_self h
def px(h:Paired (lH b) c d):∀v∈c,lH b v<|oI b v:=by
 induction h with
 |nil=>simp_all|cons r t ih=>
  intro v a;obtain rfl|a:=aT.mp a
  .rw[r.key];exact r
  simp_all
def FT(h:Paired (lH s.heap) a b):a.map (oI s.heap)=b:=by
 induction h with|nil=>rfl|cons r t ih=>rw[bR,r.key,ih]
def Vs{f:!Int}(g:Paired (lH s.heap) a f)(o:f.Nodup):Cmp prog w A E s (xp a) (tuples' Z') (oI s.heap)/\Df (oI s.heap) (xp a):=by
 have l:Df (oI s.heap)<|xp a:=by
  unfold Df;rw[pairsOf_toList];have:((a.zip a).map λp=>oI s.heap p.1)=a.map (oI s.heap):=by have:=congrArg (NW<|oI s.heap)<|List.map_fst_zip (l₁:=a) (l₂:=a) (aV _);rw[EJ]at this;exact this
  rw[this,FT g];exact o
 refine(λst i j Q B d k e h =>?_,l);have c:∀i,i<(xp a).size->∃x p,(da st)[i]?=Y (x,p)/\lH s.heap x (kx (oI s.heap) (da st) i):=λi d=>by
  have b:i<(da st).size:=by rw[B.size];exact d
  let r:(da st)[i]∈(xp a).toList:=(qx.mp B.pm).mem_iff.mp ż;refine((da st)[i].1,(da st)[i].2,getElem?_pos _ i b,?_);simpa [kx,b] using px g _ (Mz r).2
 let(x,p,u,n):=c i d;let(y,q,t,m):=c j k;rw[ltAt'_eq];refine c7<|wpS_get ?_;show wpS _ _ _ _ (do let x <- elem' (da st) i;let y <- elem' (da st) j;lt' x y) Q st;rw[elem'_eq,elem'_eq,u,t];refine c7<|gD<|c7<|gD ?_;rw[lt'_eq];refine c7<|wpS_get ?_;rw[B.kn];refine c7<|wpS_lift<|Hk<|Qk n m (B.ne l d k e) (W,?_);exact gD h
def GZ(h:cG)(b:!au)(a:Array au):Prop:=a.toList.Perm b/\(a.toList.map<|oI h).Pairwise (· < ·)
def Pq{xs}(g:xs.Perm<|xp a)(u:Up (oI s.heap) xs (xp a).size):GZ s.heap a (xs.map (·.2)):=by
 have h:xs.toList.Perm<|a.zip a:=by rw[<- pairsOf_toList];exact qx.mp g
 have e:(xs.map (·.2)).toList=xs.toList.map (·.1):=by rw[Array.toList_map];exact gA λp c=>(mem_zip_self<|h.mem_iff.mp c).1.symm
 refine(?_,?_)
 .rw[e];have:=h.map (·.1)
  simp_all [List.map_fst_zip,aV]
 .rw[e,EJ,rp];intro i j l k d;have f:=by simpa using l
  have b:=by simpa using k
  have:=u i j d (by rw[<- g.size_eq];exact b)
  simp_all [kx]
def FU(f:Paired (lH h) b d)(k:∀a o,h.get? a=Y o->e.get? a=Y o):Paired (lH e) b d:=by
 induction f with|nil=>exact .nil|cons r t ih=>exact .cons (r.keep k) ih
def MO{v}(x:lH h v n)(k:∀a o,h.get? a=Y o->b.get? a=Y o):oI b v=oI h v:=by rw[x.key,(x.keep k).key]
def GZ.back{f:cG}(i:Paired (lH h) d g)(k:∀a o,h.get? a=Y o->f.get? a=Y o)(o:GZ f d b):GZ h d b:=by
 refine(o.1,?_);let e:=gA λv j=>by exact(MO (px i v<|o.1.mem_iff.mp j) k).symm
 rw[e];exact o.2
def OL{P}(K:s.heap.get? a=Y (Hl "list" g.toArray n))(F:Paired (lH s.heap) g I)(R:∀v∈g,v ≠ .ref a)(hn:I.Nodup)(Da:g.length<64)(h:∀f,GZ s.heap g f->P (.done<|.ret .none) { s with heap:=sortedHeap s.heap a g f }):bx (aZ c w) A (Builtin.«list.sort» ([.ref a],[])) P E s:=by
 rw[list_sort_plain];refine ai<|listItems_at K W ?_;refine ai<|listUpdate_at K W ?_;let T:=get?_update_seq K<|λi =>#[];refine ai<|seqEpoch_at T W ?_;refine ai<|wpAny_newTuple ?_;refine ai<|wpAny_newList ?_;refine fx ?_;have y:=ao (Hl "list" #[] 0)<|ao (Hl "tuple" g.toArray 0) T;generalize S:(((s.heap.update a<|Obj.mapSeq λi =>#[]).push<|Hl "tuple" g.toArray 0).push<|Hl "list" #[] 0)=l at y;have O:∀b o,b≠a->s.heap.get? b=Y o->l.get? b=Y o:=λb o L q=>by rw[<- S];refine ao _<|ao _ ?_;rw[bH _ _<|bz L];exact q
 have x:Paired (lH l) g I:=by
  have:∀ {D:!au}{J:!Int},Paired (lH s.heap) D J->(∀v∈D,v ≠ .ref a)->Paired (lH l) D J:=by
   intro D J G
   induction G with
   |nil=>intro _;exact .nil
   |cons r t ih=>intro Q;refine .cons ?_<|ih λv F=>Q v<|ax _ F;let(b,o,m,k,N,rfl,H,p):=r;exact(b,o,m,k,N,W,O b o (λz=>Q _ ay<|by rw[z]) H,p)
  exact this F R
 let B:∀f,GZ l g f->GZ s.heap g f:=λf o=>by
  refine(o.1,?_);let e:f.toList.map (oI s.heap)=f.toList.map (oI l):=gA λv hm=>by have u:=o.1.mem_iff.mp hm;let U:=px F v u;let(b,X,m,k,N,rfl,H,p):=U;simp only[oI,H,O b X (λz=>R _ u<|by rw[z]) H]
  rw[e];exact o.2
 show bx (aZ c w) A _ P E { s with heap:=l };dsimp only;have sz:g.toArray.size=g.length:=by trivial
 have ku:=λf o=>by have:=h f<|B f o;unfold sortedHeap at this;rw[S]at this;exact this
 by_cases p:g.toArray.size<2
 .rw[if_pos p,if_pos p];refine ai<|aJ ?_;rw[StateT.run_pure];refine ai<|aJ ?_;dsimp only;refine ai<|seqEpoch_at y W ?_;refine ai<|listUpdate_at y W ?_ (hsz2:=by rw[Array.size_map];show (xp g).size<=_;rw[Hm,i5];lia);simp only[bne_self_eq_false,jo,if_false];refine aJ<|ku _<|Pq (s:={ s with heap:=l }) (Array.Perm.refl _) λi j hij hj =>?_;rw[Hm]at hj;lia
 .rw[if_neg p,if_neg p];refine ai<|Uv x (λz=>p<|by rw[z];decide) ?_;let(C,d):=Vs (prog:=c) (w:=w) (A:=A) (E:=E) (s:={ s with heap:=l }) x hn;refine ai<|dE (OM (Q:=λi t=>(da t).Perm (xp g)/\failedOf t=M/\Up (oI l) (da t) (xp g).size) C d (Array.Perm.refl _,W,W,W) (by rw[Hm];simp_all) (by rw[Hm];exact Da) λt a1 a2 a3=>(a1,a2,a3)) ?_ λi i e=>e;rintro⟨⟨⟩,t⟩ s' ⟨rfl,G,hf,hu⟩;dsimp only;refine ai<|seqEpoch_at y W ?_;refine ai<|listUpdate_at y W ?_ (hsz2:=by refine bM (pU<|(Array.size_map ..).trans<|G.size_eq.trans<|Hm _) ?_;rw[i5];lia);rw[hf];simp only[bne_self_eq_false,jo,if_false];exact aJ<|ku _<|Pq (s:={ s with heap:=l }) G hu
def HM(F:s.heap.IsList l a.toArray)(m:Paired (lH s.heap) a x)(C:x.Nodup)(r:a.length<64)(h:∀d,GZ s.heap a d->Q (.ref<|s.heap.objs.size+1) { s with heap:=sortedAll s.heap a d }):bx (aZ c w) A (Jq (.builtin "sorted") [.ref l]) Q E s:=by
 refine Calls.call_function_entry kind_sorted plain_sorted entry_sorted (args_sorted1 _) ?_;unfold Builtin.«sorted»;refine ai (m:=checkCount "sorted" 1 1 _) (aJ ?_);refine ai<|collect_list F ?_;refine ai<|wpAny_newList ?_;generalize p:(s.heap.push<|Hl "list" #[] 0).update s.heap.objs.size (Obj.mapSeq (· ++ a.toArray))=g;have u:g.objs.size=s.heap.objs.size+1:=by rw[<- p,ya,size_push']
 have y:∀b o,s.heap.get? b=Y o->(g.push<|Hl "list" a.toArray 0).get? b=Y o:=λb o q=>by refine ao _ ?_;rw[<- p,bH _ _ (λz=>by have:=aO q;rw[<- z]at this;exact iF _ this)];exact ao _ q
 have f:(g.push<|Hl "list" a.toArray 0).get? (s.heap.objs.size+1)=Y (Hl "list" a.toArray 0):=by rw[<- u];exact bo _ W
 let j:=FU m y;let n:∀v∈a,v ≠ .ref (s.heap.objs.size+1):=λv D z=>by
  let(b,o,i,k,t,rfl,G,_):=px m v D;let e:b=s.heap.objs.size+1:=by cases z;exact Ÿ
  have:=aO G;rw[e]at this;exact absurd this ż
 show bx _ _ _ _ _ { s with heap:=g.push (Hl "list" a.toArray 0) };rw[u];refine ai<|fx<|RX slot_list_sort (_,f,W) entry_list_sort (OL (s:={ s with heap:=g.push (Hl "list" a.toArray 0) }) f j n C r λd B=>(_,W,?_)) (args_list_sort _);refine aJ (_,W,?_);have:=h d<|B.back m y;unfold sortedAll at this;rw[p]at this;exact this
end
def FR{m}{R}(p:o.Perm n):∀ {a:!m},Paired R a o->∃b,b.Perm a/\Paired R b n:=by
 induction p with
 |nil=>intro a h;cases h;exact Ÿ
 |cons u _ ih=>
  intro a h;cases h with
  |cons r t=>let(b,e,d):=ih t;exact(_,e.cons _,.cons r d)
 |swap u v l=>
  intro a h;cases h with
  | cons r t=>cases t with
   |cons w s=>exact(_,.swap _ _ _,.cons w<|.cons r s)
 |trans _ _ j f=>intro a h;let(b,e,d):=j h;let(q,y,x):=f d;exact(q,y.trans e,x)
def Mn{K}{s:!V}(p:s.Perm q):∀ {a:!D},bB K G a s->∃f,f.Perm a/\bB K G f q:=by
 induction p with
 | nil=>intro a h;cases a with
  |nil=>solve_by_elim|cons d a=>let(_,_,e,_):=bt.mp h;cases e
 |cons u _ ih=>
  intro a h;cases a with
  |nil=>cases cF.mp h|cons d a=>let(v,r,e,j,b):=bt.mp h;cases e;let(f,m,k):=ih b;exact(_,m.cons _,.cons j k)
 |swap u v l=>
  intro a h;cases a with
  |nil=>cases cF.mp h|cons d a=>
   let(_,_,e,j,b):=bt.mp h;cases e;cases a with
   |nil=>cases cF.mp b|cons A a=>let(_,_,e,x,w):=bt.mp b;cases e;exact(_,.swap _ _ _,.cons x<|.cons j w)
 |trans _ _ o n=>intro a h;let(B,m,k):=o h;let(t,z,y):=n k;exact(t,z.trans m,y)
theorem FC{d:j->Int}:∀ {l m:!j},l.Perm m->(l.map d).Pairwise (· < ·)->(m.map d).Pairwise (· < ·)->l=m
 |[],m,p,_,_=>by rw[List.Perm.nil_eq p]
 |a::l,[],p,_,_=>by simp_all
 | a::l,b::m,p,h,f=>by
  simp only[bR,qu]at h f;let e:a=b:=by grind [ay,List.mem_map_of_mem]
  subst e;rw[FC (by simp_all) h.2 f.2]
noncomputable def Gn(a:D->Int)(d:D):!D->!D
 |[]=>[d]|x::b=>if a d<a x then d::x::b else x::Gn a d b
noncomputable def Mb(a:D->Int):!D->!D
 |[]=>[]|d::b=>Gn a d<|Mb a b
theorem wh(a:D->Int)(d):∀l,(Gn a d l).Perm (d::l)
 |[] =>.rfl| x::b=>by
  unfold Gn;split
  .exact .rfl
  .exact((wh a d b).cons x).trans<|.swap _ _ _
theorem vK(a:D->Int):∀l,(Mb a l).Perm l
 |[] =>.rfl|d::b=>(wh a d _).trans<|(vK a b).cons d
set_option tactic.hygienic true in
theorem Ca:∀ {l:!D},(l.map a).Pairwise (· < ·)->a d∉l.map a->((Gn a d l).map a).Pairwise (· < ·)
 |[],_,_=>by simp[Gn]
 | x::f,h,j=>by
  simp only[bR,qu,aT,not_or]at h j;unfold Gn;split
  .rename_i b;simp only[bR,qu,aT];refine(?_,h);rintro k (rfl|e)
   .exact b
   .exact EM b<|h.1 k e
  .simp only[bR,qu];refine(λk e =>?_,Ca h.2 j.2)
   grind [wh]
theorem BK:∀ {l:!D},(l.map a).Nodup->((Mb a l).map a).Pairwise (· < ·)
 |[],_ =>.nil|d::b,h=>by simp only[bR,kY]at h;exact Ca (BK h.2) λz=>h.1<|((vK a b).map a).subset z
noncomputable def YY:D->Int
 |.tup (.int n::_)=>n|_=>0
noncomputable def Wy:D->Bool
 |.tup (.int _::_)=>Z'|_=>Z_
section
variable {X:Cx}{f:DF}
def Xt(K:aS)(c:TE):TE:=λe H Q=>c e H λx d=>∃a b,x=.ref a/\lZ K d a (b.map V.int)/\b.length<64/\∀l,d l=M->Q (.ref l) (cO d l<|.lst<|(He b).map V.int)
def Pg(R:Gl X "sorted")(N:X.mg "sorted" = M)(O:PE X e c)(D:@&(ak [e] X.env=(Z_,eval e X.env)::ak [] X.env))(y:autoParam (fG "sorted" = Y (.builtin "sorted")) ţ):PE X (.Call (.Name "sorted" p) [e] [] g)<|Xt X.K c:=by
 intro f s F H Q I h;refine c8<|pz I R N y ?_;refine ng ?_ D W;refine eG (bZ O dw D g f s F H (λr n=>match r with|[x]=>∃a d,x=.ref a/\lZ X.K n a (d.map V.int)/\d.length<64/\∀l,n l=M->Q (.ref l) (cO n l<|.lst<|(He d).map V.int)|_=>False) I h) ?_;rintro us C ⟨r,n,B,K,v⟩;cases r with
 |nil=>exact v.elim|cons x t=>
  cases t with
  |cons _ _=>exact v.elim|nil=>
   let(a,d,rfl,i,A,q):=v;let(u,rfl,J):=cx.one K;cases J;let(m,G,L,hz):=B.list i;let E:Hu m d:=uV G;refine sorted_ints L.isList E (by rw[Gm E];exact A) λj w a1 U T =>?_
   let S:w=He d:=XG U T;subst S;let(k,P):=sortedAll_at C.heap m j;refine(.ref _,_,B.laid (t':=C.toks) (λb o z=>sortedAll_old z) (jg _) (show hR X.prog X.w _ _ _<|.lst<|(He d).map V.int from(?_,j.toList,k,CI a1,?_)),W,q _<|B.dS.fresh<|jg _)
   .rw[aF,(qJ _).length_eq]
    simp_all
   simp_all
def wt(f:DF):DL:=λb=>(f b).bind λd=>match d with|.lst e=>(B_ e).bind λa=>if a.length<64 then Y ((He a).map D.int) else M|_=>M
set_option tactic.hygienic true in
def acL(x:Gl X "sorted")(w:X.mg "sorted" = M)(h:PE X e<|tQ X.K Z f)(u:@&(ak [e] X.env=(Z_,eval e X.env)::ak [] X.env)):PE X (.Call (.Name "sorted" p) [e] [] g)<|tF X.K Z<|wt f:=
 (Pg x w h u).imp <|by
  rintro D H Q ⟨G,q,I,z,n,b,k⟩;let(d,B,b):=ae.1 b;split at b
  .let(s,A,b):=ae.1 b;split at b
   .rename_i t;cases b;refine(G,q,_,z,n,B,λv C J j r =>?_);let(a,F,rfl,y,o):=r.lst j.gh;rw[zN A]at o;have:=vR.mp o;subst this;exact(a,s,W,.of y,t,λl m=>k l _ C _ (j.trans<|f_.lay j.gh m) (j.hh.free m) (j.gh.free m) aP<|bB.ints _)
   .cases b
  .cases b
def N8(H:Hp)(v:V)(n:Int):Prop:=∃b a,v=.ref b/\H b=Y (.tup<|.int n::a)
def Xs(K:aS)(c:TE):TE:=λj H Q=>c j H λx b=>∃a d f,x=.ref a/\lZ K b a d/\Paired (N8 b) d f/\f.Nodup/\d.length<64/\∀l e h,b l=M->e.Perm d->Paired (N8 b) e h->h.Pairwise (· < ·)->Q (.ref l) (cO b l<|.lst e)
def Qi{s:az}{a}(I:Inv X d j H s)(p:Paired (N8 H) l h)(q:cx l a):Paired (lH s.heap) a h:=by
 induction p generalizing a with
 |nil=>cases q;exact .nil|cons g t i=>
  let(b,x,rfl,w):=g;obtain _|⟨r,m⟩:=q;cases r;let(y,a,n,o,q,v,k,u):=I.dS b _ w;cases n with
  |cons p _=>let(l,rfl):=p;exact .cons (b,o,_,k,l,W,q,v,u,Ÿ)<|i m
def Ut{f:St}{s}(I:Inv X a f H s)(q:cx b d)(h:∀y∈b,∃n,N8 H y n):Paired (N8 H) b<|d.map<|oI s.heap:=by
 induction q with
 |nil=>exact .nil|cons r k i=>
  let(n,e):=h _ ay;have t:=Qi I (.cons e .nil)<|.cons r .nil;cases t with
  |cons j _=>refine .cons ?_ Ż;rw[j.key];exact e
def YN(h:Paired (N8 H) b d):∀y∈b,∃n,N8 H y n:=by
 induction h<;>grind
def Pf(hg:Gl X "sorted")(hm:X.mg "sorted" = M)(hl:PE X e c)(i:@&(ak [e] X.env=(Z_,eval e X.env)::ak [] X.env))(E:autoParam (fG "sorted" = Y (.builtin "sorted")) ţ):PE X (.Call (.Name "sorted" p) [e] [] g)<|Xs X.K c:=by
 intro m s P H Q I h;refine c8<|pz I hg hm E ?_;refine ng ?_ i W;refine eG (bZ hl dw i g m s P H (λv f=>match v with|[x]=>∃a j C,x=.ref a/\lZ X.K f a j/\Paired (N8 f) j C/\C.Nodup/\j.length<64/\∀l d L,f l=M->d.Perm j->Paired (N8 f) d L->L.Pairwise (· < ·)->Q (.ref l) (cO f l<|.lst d)|_=>False) I h) ?_;rintro us J ⟨v,f,r,S,A⟩;cases v with
 |nil=>exact A.elim|cons x t=>
  cases t with
  |cons _ _=>exact A.elim|nil=>
   let(a,j,C,rfl,hq,O,hn,G,q):=A;let(u,rfl,R):=cx.one S;cases R;let(D,w,T,hz):=r.list hq;refine HM T.isList (Qi r O w) hn (by rw[<- w.length];exact G) λn N =>?_
   let(d,B,K):=FR N.1.symm w;let(k,F):=sortedAll_at J.heap D n;refine(.ref _,_,r.laid (λb o z=>sortedAll_old z) (jg _)<|show hR X.prog X.w _ _ _<|.lst d from(?_,n.toList,k,K,?_),W,q _ d _ (r.dS.fresh<|jg _) B (Ut r K λy U=>YN O y<|B.subset U) N.2)
   .rw[B.length_eq]
    simp_all
   simp_all
def z8(f:DF):DL:=λρ=>(f ρ).bind λd=>match d with|.lst a=>if (a.all Wy=Z'/\(a.map YY).Nodup)/\a.length<64 then Y (Mb YY a) else M|_=>M
def Qq(h:Wy d=Z'):∃b,d=.tup (.int (YY d)::b):=by
 cases d with
 |tup a=>
  cases a with
  |nil=>cases h|cons x a=>cases x<;>first|exact(a,W)|cases h
 |_=>cases h
theorem DD{K:aS}(s:bD G H):∀ {f:!D}{a:!V},f.all Wy=Z'->bB K G f a->Paired (N8 H) a (f.map YY)
 |[],a,_,r=>by rw[cF.mp r];exact .nil
 |d::f,a,h,r=>by let(v,t,rfl,l,o):=bt.mp r;simp only[nK,bh]at h;refine .cons ?_<|DD s h.2 o;let(p,e):=Qq h.1;rw[e]at l;let(b,q,rfl,m,n):=dA.mp l;let(w,j,rfl,k,_):=bt.mp n;rw[bY.mp k]at m;exact(b,j,W,s _ _ m)
def Us{g h:!Int}(p:Paired (N8 H) d g)(q:Paired (N8 H) d h):g=h:=by
 induction p generalizing h with
 |nil=>cases q;rfl|cons r t i=>
  let(b,n,rfl,l):=r;obtain _|⟨⟨o,j,m,a⟩,k⟩:=q
  grind
set_option tactic.hygienic true
def Rl(hg:Gl X "sorted")(hm:X.mg "sorted" = M)(h:PE X e<|tQ X.K Z f)(hs:@&(ak [e] X.env=(Z_,eval e X.env)::ak [] X.env)):PE X (.Call (.Name "sorted" p) [e] [] g)<|tF X.K Z<|z8 f:=
 (Pf hg hm h hs).imp <|by
  rintro σ H Q ⟨G,ρ,ds,gh,env,eq,k⟩;let(d,ef,eq):=ae.1 eq;split at eq
  .rename_i xs;split at eq
   .rename_i hz;cases eq;refine(G,ρ,_,gh,env,ef,λv G1 H1 E1 r1 =>?_);let(a,vs,rfl,ha,rs):=r1.lst E1.gh;refine(a,vs,_,W,.of ha,DD E1.gh hz.1.1 rs,hz.1.2,by rw[<- rs.length];exact hz.2,λl ys ms hl p1 q1 q2 =>?_);let(zs,p2,rz):=Mn p1.symm rs;let afH:zs.all Wy=true:=by rw[eB];exact λz hz'=>eB.mp hz.1.1 z (p2.subset hz')
    let e1:=Us q1<|DD E1.gh afH rz;rw[e1]at q2;rw[(FC (p2.trans (vK YY xs).symm) q2<|BK hz.1.2)]at rz;exact k l ys G1 _ (E1.trans<|f_.lay (p:=l) E1.gh hl) (E1.hh.free hl) (E1.gh.free hl) aP rz
   .cases eq
  .cases eq
end
section
variable {X:Cx}
noncomputable def j4(c m:aM)(F:!D->↑D)(f:DF)(g:DL):DF:=λa=>(f a).bind λx=>match x with
 |.ins d b h=>if d=c/\m∉b then (g a).bind λe=>F<|.ins d b h::e else M
 |_=>M
set_option tactic.hygienic true in
def P0{m}{F:!D->↑D}{e}(n:jf X.K aW c=Y (Y<|.ref C))(l:∀e H Q,AO X.K Z g e H Q->t e H Q)(h:tP X.K Z (j4 c m F k g) e H Q):wQ C m (iW X.K F) [] E0 (tP X.K Z k) t e H Q:=by
 let(G,i,d,T,f,b,q):=h;unfold j4 at b;rw[ae]at b;let(x,p,b):=b;split at b
 .split at b
  .rename_i R;let(rfl,P):=R;rcases o:g i with _|z
   .simp_all
   rw[o]at b;refine(G,i,_,T,f,p,λv y H1 j s =>?_);refine ah λkk =>?_
   let(a,C',dx,vs,rfl,w,S,_):=jh.mp s;rw[n]at w;cases w;refine kk<|(a,dx,_,W,j.gh _ _ S,fh (K:=X.K) (G:=y) P,l _ _ _ (y,i,z,j.gh,f.ext j,o,λB G2 H2 r K =>?_));rw[bT];exact(G2,_,d,r.gh,.cons (cM.mono r.gg _ s) K,b,λv G3 H3 E3 E=>q v G3 H3 ((j.trans r).trans E3) E)
  .cases b
 .cases b
def acM{c m}{F}{i:DF}{g}(h:dQ X.prog X.w X.K X.mg X.base c m k<|iW X.K F)(l:dn k X.A)(p:PE X o<|tP X.K Z i)(v:PA X (e::J)<|AO X.K Z g)(a:@&(ak (e::J) X.env=(Z_,eval e X.env)::ak J X.env))(b:@&((b9 A<|ak J X.env).any (·.1)=false)) (j:@&(eval (.Call (.Attribute o m I) (e::J) [] A) X.env=(do
   let d <- eval o X.env
   jJ I.atName
   let(f,first) <- iy [d] (iV d m pl)
   l7 A f first (b9 A<|ak (e::J) X.env) (ey A<|cD [] X.env)))):PE X (.Call (.Attribute o m I) (e::J) [] A)<|tP X.K Z<|j4 c m F i g:=by
 refine ah λkk =>?_
 let(C,f,B,y,n,s,r,w,t):=h.ex;exact kk<|(nC p s r w l t .nil ju v a b j).imp λx H Q q=>P0 n (λu u u z=>z) q
noncomputable def qV(c m:aM)(F:!D->↑(!D))(e:DF):DL:=λd=>(e d).bind λx=>match x with
 |.ins b a f=>if b=c/\m∉a then F [.ins b a f] else M
 |_=>M
set_option tactic.hygienic true in
def Cm{m}{F}{p}(h:dQ X.prog X.w X.K X.mg X.base c m k<|wW X.K F)(R:dn k X.A)(S:PE X o<|tP X.K Z p) (P:@&(eval (.Call (.Attribute o m I) [] [] A) X.env=(do
   let y <- eval o X.env
   jJ I.atName
   let(f,first) <- iy [y] (iV y m pl)
   l7 A f first (b9 A<|ak [] X.env) (ey A<|cD [] X.env)))):PE X (.Call (.Attribute o m I) [] [] A)<|tF X.K Z<|qV c m F p:=by
 let(C,f,fd,ps,n,i,g,j,T):=h.ex;refine(zg (pl:=pl) S i g j R T .nil ju P).imp ?_;rintro σ H Q ⟨G,t,d,gh,r,b,q⟩;unfold qV at b;rw[ae]at b;let(x,s,b):=b;split at b
 .rename_i c' ks ds;split at b
  .rename_i i;let(rfl,g):=i;refine(G,t,_,gh,r,s,λv B H1 e w =>?_);let(a,C',dx,vs,rfl,z,ha,l,rs):=jh.mp w;rw[n]at z;cases z;refine(a,dx,_,W,e.gh _ _ ha,fh (K:=X.K) (G:=B) g,?_);exact(B,_,d,e.gh,.cons w .nil,b,λu E G3 H3 E3 j h2 h3 K=>q u E G3 H3 (e.trans E3) (e.hh.free j) h2 h3 K)
  .cases b
 .cases b
def Ie(a:Bool):D->D->↑D
 |y,.fM b c=>(Bc y).map λk =>.bl<|if a then (not<|(cq b c k).isSome) else (cq b c k).isSome
 |_,_=>M
def Gf{K}(r:bB K G b c):(qz (a.zip c) k).isSome=(cq a b k).isSome:=by
 rcases e:cq a b k with _|d
 .rw[tS r e];rfl
 let(v,f,_):=pI r e;rw[f];rfl
set_option tactic.hygienic true in
def Q1(n:X.A.units+1<l9)(s:PE X e<|tQ X.K Z L)(r:PE X o<|tQ X.K Z N)(t:@&(fB .In o=false)):PT X (.Compare e [.In] [o] A)<|qg X.K Z<|gP<|e2 (Ie Z_) L N:=
 (O_ (Yi n s r) t).imp <|by
  rintro I H Q ⟨G,h,d,w,c,C,q⟩;let(x,y,B,z,b):=ve<|n7 C;cases y<;>simp only[Ie]at b<;>try (cases b;done)
  rename_i R T;let(S,D,b):=aj.1 b;simp only[gy,jo,if_false]at b;cases b;refine(G,h,x,w,c,B,λv K H1 g k=>(K,h,_,g.gh,c.ext g,z,λu F E f j =>?_));obtain⟨a,P,rfl,⟨_,p⟩,l,i⟩:=j.Vj f.gh;let m:=oJ D<|k.ext f;subst m;exact(a,_,W,tZ.k p,_,W,by rw[Gf i];exact q F E<|g.trans f)
def wy(n:X.A.units+1<l9)(s:PE X e<|tQ X.K Z L)(r:PE X o<|tQ X.K Z N)(t:@&(fB .NotIn o=false)):PT X (.Compare e [.NotIn] [o] A)<|qg X.K Z<|gP<|e2 (Ie Z') L N:=
 (O_ (Mx n s r) t).imp <|by
  rintro I H Q ⟨G,h,d,w,c,C,q⟩;refine ah λkk =>?_
  let(x,y,B,z,b):=ve<|n7 C;cases y<;>simp only[Ie]at b<;>try (cases b)
  let(S,D,b):=aj.1 b;cases b;refine kk<|(G,h,x,w,c,B,λv K H1 g k=>(K,h,_,g.gh,c.ext g,z,λu F E f j =>?_));obtain⟨a,P,rfl,⟨_,p⟩,l,i⟩:=j.Vj f.gh;let m:=oJ D<|k.ext f;subst m;exact(a,_,W,tZ.k p,_,W,by rw[Gf i];exact q F E<|g.trans f)
def BX:D->D->↑D
 |.fM a b,y=>(Bc y).bind λk=>cq a b k
 |_,_=>M
def Ea(p:X.A.units+1<l9)(z:PE X o<|tQ X.K Z L)(t:PE X e<|tQ X.K Z N)(r:autoParam (Z4 e) Š):PE X (.Subscript o e A)<|tP X.K Z<|e2 BX L N:=
 (Tz p z t r).imp <|by
  rintro S H Q ⟨G,i,d,B,c,F,q⟩;let(x,y,D,C,b):=ve F;cases x<;>simp only[BX]at b<;>try trivial
  let(kk,K,b):=ae.1 b;refine(G,i,_,B,c,D,λv R H1 h m=>(R,i,y,h.gh,c.ext h,C,λu P I g k =>?_));obtain⟨a,T,rfl,⟨_,s⟩,l,j⟩:=(m.ext g).Vj g.gh;let n:=oJ K k;subst n;let(w,E,f):=pI j b;exact(a,w,W,by rw[<- E];exact tZ.k s,q w P I (h.trans g) f)
end
section
variable {X:Cx}{m:Pos}
end
section
variable {X:Cx}
def HR(b:Bool)(j:Nat)(c f:aM)(e:DM):DG:=λd=>(e d).bind λw=>(J_ b j w.2).bind λq=>(AN q.1 w.2).bind λa=>(Bf c a.1 a.2 q.2).bind λz=>
 if Gk (cZ z.1 f)=Z'/\z.2.1.length<999 then Y (.nx<|w.2.set q.1<|Y<|.obj a.1<|gX (.ins c (jd f w.1 z.2.1 z.2.2).1 (jd f w.1 z.2.1 z.2.2).2) q.2 a.2) else M
set_option tactic.hygienic true
def Q8{b}{c f}{K}(h:PE X (.Name x p)<|eS j)(he:PE X e<|tM X.K B Z K)(J:pP X.K c f)(hj:‹j∈Z›)(hb:‹b=Z'->Ii j∈Z›)(ha:‹f∉GW›)(hs:@&(cm e (Y<|.Attribute (.Name x p) f u) n.line X.env=c9 false)):PS X (.Assign [.Attribute (.Name x p) f u] e n)<|gO X.K B y Z Z<|HR b j c f K:=(Dj h he hs).imp <|by
 rintro D σ H ⟨G,E,o,S,i,k⟩;obtain⟨⟨d,F⟩,ef,i⟩:=ae.1 i;rcases q:J_ b j F with _|⟨r,T⟩
 .simp[q]at i
 rcases z:AN r F with _|⟨s,t⟩
 .simp[q,z]at i
 rcases I:Bf c s t T with _|⟨fk,ks,ds⟩
 .simp[q,z,I]at i
 simp only[q,z,I,av]at i;split at i
 .rename_i hz;cases i;let(i1,U):=wg I;refine(G,E,d,F,S,ef,λv G' H' P s' R =>?_);refine ah λkk =>?_
  let(hr,s1,t',a,v',O,e2,e3,e4):=P.J_ q hj hb;let w:=mq z;rw[w]at O;let(a',Q,C,dx,vs,N,g,L,f4,f5,f6):=P.Zk hr w i1 U hz.1 ha R;rw[e2]at N;cases N;rw[e4]at g;cases g;refine kk<|(_,e3,Q,C,dx,_,W,f4,(J C L).1,(J C L).2,?_,k _ G' _ f6);rw[t_ f5];lia
 .cases i
end
section
variable {X:Cx}{m:!Nat}
end
def rg.mono{P:bj}{K:aS}{d:Sp}(h:rg P w K e b c j d)(i:j<=k):rg P w K e b c k d:=by
 let(C,f,s,g,r,q,p,o,l):=h.ex;exact(C,f,s,g,r,q,p,o.mono i,l)
section
variable {K:aS}
def SR.KU{j}(S:SR K B Z G H C A)(hj:j∈Z)(q:A[j]?=Y (Y d))(u:we d=Z'):∃a G',C[j]?=Y (Y<|.ref a)/\cM K G' d (.ref a)/\SR K B Z G' H C (A.set j M):=by
 let(F,Da):=S.ow;let(a,e,oc):=Da.it j d hj q;obtain⟨⟨o,ha,cl⟩,fs⟩:=(jy.cell u).mp oc;let(ga,ba):=(Da.ok j d hj q).2 a Ż;let sg:bD G (cO G a o) :=.alloc ga;refine(a,_,e,(cl.mono sg).rep aP,λb w z =>?_,S.g0.trans sg,S.h0,λb w z =>?_,λi c x z =>?_,(F,λi c x z =>?_,λi c x z =>?_,λi k c1 c2 x y z1 z2=>Da.ap i k c1 c2 x y (cP z1).2 (cP z2).2),by simp[S.len],S.pin,(S.blank q u).dP)
 .by_cases h:b=a
  .simp_all [aP]
  .rw[aI h]at z;exact S.gh _ _ z
 .by_cases h:b=a
  .simp_all
  .rw[aI h]at z;exact S.fr _ _ z
 .let(v,y,r):=S.env i c x (cP z).2;exact(v,y,cM.mono sg _ r)
 .let(b,y,r):=Da.it i c x (cP z).2;exact(b,y,jy.mono sg (λf f f h=>h) r)
 .let(y,r):=Da.ok i c x (cP z).2;refine(y,λb m=>(?_,(r b m).2));rw[aI λh =>?_]
  .simp_all
  .exact Da.ap i j c d x hj (cP z).2 q (bz (cP z).1) b m Ż
end
end L2
section
set_option maxHeartbeats 400000
namespace L2
open PySem PySem.Spec PyProof.Rows
abbrev DMF:=cf->↑(!D×cf)
inductive Xw (K:aS) (B:Bs) (Z:!Nat) (f:DMF) (c:St) (H:Hp) (Q:VK):Prop
 |mk G e d a:SR K B Z G H c e->f e=some (d,a)->(∀q b g,SR K B (c.length::Z) b g (c++[some<|.ref q]) (a++[some<|.lst d])->Q (.ref q) g)->Xw K B Z f c H Q
section
variable {K:aS}
def eU{l}{x:a}(h:(l++[Y x])[i]?=Y (Y y)):(i=l.length/\y=x)\/(i≠l.length/\l[i]?=Y (Y y)):=by
 by_cases z:i<l.length
 .rw[cw z]at h;exact .inr (ž,h)
 .have:=(aq.mp h).1;simp at this;have e:i=l.length:=Ž
  subst e;simp at h;exact .inl (W,h.symm)
def cW{a:Type}{l m:!a}{x}{i:Nat}(h:l[i]?=Y x):(l++m)[i]?=Y x:=by rw[cw (aq.mp h).1];exact h
def SR.snoc{F:Nat->!aD}{q}(S:SR K B Z G H C A)(Da:jT K B Z G H C A F)(n:A.length<1000)(g:G q=M)(b:B.2 q=M)(w:∀k d,k∈Z->A[k]?=Y (Y d)->q∉F k)(h:H q=Y (.lst ws))(r:bB K G ds ws):SR K B (C.length::Z) G H (C++[Y<|.ref q])<|A++[Y<|.lst ds]:=by
 have l:=S.len;have t:∀ {i d},i∈C.length::Z->A[i]?=Y (Y d)->i∈Z/\i≠C.length:=fun {i d} o e=>by
  have:=(aq.mp e).1;have z:i≠C.length:=Ž
  exact((aT.mp o).resolve_left z,z)
 refine(S.gh,S.g0,S.h0,S.fr,λi d o e =>?_,(λi=>if i=C.length then [q] else F i,λi d o e =>?_,λi d o e =>?_,λi j d c o p x y z =>?_),by simp[l],λi a h =>?_,λj r p o m e =>?_)
 .obtain⟨z,_⟩|⟨_,e⟩:=eU e
  .exact absurd (by rw[z,l];exact ay) o
  .let(v,x,y):=S.env i d (λz=>o<|ax _ z) e;exact(v,cW x,y)
 .obtain⟨rfl,rfl⟩|⟨z,e⟩:=eU e
  .rw[if_pos l.symm];exact(q,by rw[<- l];grind,(jy.cell W).mpr ((_,h,ws,W,r),W))
  .let(x,y,w):=Da.it i d (t o e).1 e;exact(x,cW y,by rw[if_neg (t o e).2];exact w)
 .obtain⟨rfl,rfl⟩|⟨z,e⟩:=eU e
  .simp_all
  .rw[if_neg (t o e).2];exact Da.ok i d (t o e).1 e
 .obtain⟨rfl,rfl⟩|⟨_,x⟩:=eU x
  .obtain⟨rfl,rfl⟩|⟨_,y⟩:=eU y
   .exact absurd W z
   .rw[if_pos l.symm,if_neg (t p y).2];intro b v;simp at v;subst v;exact w j c (t p y).1 y
  .obtain⟨rfl,rfl⟩|⟨_,y⟩:=eU y
   .rw[if_neg (t o x).2,if_pos l.symm];intro b v u;simp at u;subst u;exact w i d (t o x).1 x v
   .rw[if_neg (t o x).2,if_neg (t p y).2];exact Da.ap i j d c (t o x).1 (t p y).1 x y z
 .let(x,y):=S.pin i a h;exact(ax _ x,cW y)
 .obtain⟨_,z⟩|⟨_,e⟩:=eU e
  .cases z
  .let(x,y,a,b,c,d,f,u,v,w,k):=S.dP j r p (t o e).1 ((aT.mp m).resolve_left Ž) e;exact(ax _ x,ax _ y,a,b,c,d,f,cW u,cW v,cW w,k)
def SR.pull{q:aD}{i:Nat}(S:SR K B (C.length::Z) G H (C++[Y<|.ref q])<|A++[Y<|.lst ds])(n:A.length<1000)(p:∀(i:Nat) (a:aD),(i,a)∈B.3->i∈Z/\C[i]?=Y (Y<|.ref a))(hi:i∈Z)(b:∀a,(i,a)∉B.3)(m:A9 i∉Z):SR K B Z G H (C.set i<|Y<|.ref q)<|A.set i<|Y<|.lst ds:=by
 have l:C.length=A.length:=by simpa using S.len
 let(F,Da):=S.ow;have t:∀ {i d},A[i]?=Y (Y d)->i≠C.length:=fun {i d} e=>by grind
 have u:∀ {i v},i≠C.length->(C++[Y<|V.ref q])[i]?=Y (Y v)->C[i]?=Y (Y v):=fun {i v} z e=>by
  obtain⟨x,_⟩|⟨_,e⟩:=eU e
  .exact absurd x z
  .exact e
 have R:SR K B Z G H C A:=(S.gh,S.g0,S.h0,S.fr,λi d o e=>by
   let(v,x,y):=S.env i d (λz=>(aT.mp z).elim (t e) o)<|cW e;exact(v,u (t e) x,y),(F,λi d o e=>by
   let(x,y,w):=Da.it i d (ax _ o)<|cW e;exact(x,u (t e) y,w),λi d o e=>Da.ok i d (ax _ o)<|cW e,λi j d c o p x y z=>Da.ap i j d c (ax _ o) (ax _ p) (cW x) (cW y) z),l,p,λj r p o m e=>by
   let(x,y,a,b,c,d,f,k,v,w,z):=S.dP j r p (ax _ o) (ax _ m)<|cW e;obtain⟨_,g⟩|⟨g,k⟩:=eU k
   .cases g
   .exact((aT.mp x).resolve_left Ÿ,(aT.mp y).resolve_left Ž,a,b,c,d,f,k,u (t k) v,u (t e) w,z))
 have V:jT K B Z G H C A F:=(λi d o e=>by let(x,y,w):=Da.it i d (ax _ o)<|cW e;exact(x,u (t e) y,w),λi d o e=>Da.ok i d (ax _ o)<|cW e,λi j d c o p x y z=>Da.ap i j d c (ax _ o) (ax _ p) (cW x) (cW y) z)
 have e0:(A++[Y<|D.lst ds])[C.length]?=Y (Y<|.lst ds):=by rw[l];simp
 let(x,y,w):=Da.it C.length _ ay e0;let(_,k):=Da.ok C.length _ ay e0;simp at y;subst y;let(w0,w1):=(jy.cell (d :=.lst ds) W).mp w;have kq:=k q (by rw[w1];exact Ÿ);refine(R.Ee (i:=i) (a:=q) (d' :=.lst ds) (F0:=[]) (S':=[q]) V hi (λb g=>by cases g) (bD.refl _) S.gh (λb o e =>.inl e) (λb o s e=>e) ((jy.cell W).mpr (w0,W)) ż (λc g =>?_) (λa h=>absurd h<|b a) (λr p z=>by cases z) λj p o o1 hj e =>?_).1
 .simp at g;subst g;refine(kq.1,.inr<|.inr (kq.2,λk c' hk ek s v =>?_));exact Da.ap k C.length _ _ (ax _ hk) ay (cW ek) e0 (t ek) c v (by rw[w1];exact Ÿ)
 .let(_,z,_):=R.dP j i p o o1 e;trivial
end
section
variable {X:Cx}
def mfP(f:DL):DMF:=λa=>if a.length<1000 then (f a).map λd=>(d,a) else M
set_option tactic.hygienic true in
def acH{f:DL}(h:PE X e<|tF X.K Z f):PE X e<|Xw X.K B Z<|mfP f:=h.imp <|by
 rintro C H Q ⟨G,A,d,a,S,w,k⟩;unfold mfP at w;split at w
 .rename_i n;let(d',w',z):=aj.1 w;cases z;refine(G,A,_,S.gh,S.hI,w',λp ws G' H' E u g h r =>?_);let(F,Da):=S.ow;refine k p G' H'<|(S.ext E).snoc (Da.ext E) n g (S.h0.free u) (λk c o e z =>?_) h r;let(x,_,y):=Da.it k c o e;let(b,v):=y.here p z
  simp_all
 .cases w
def sT(f:DMF):DG:=λA=>(f A).map λp =>.rf p.2.length<|p.2++[Y<|.lst p.1]
def acD(h:PE X e<|Xw X.K B Z f):PS X (.Return (Y e) J)<|gO X.K B I Z own1<|sT f:=(mE h).imp <|by
 rintro D C H ⟨G,A,o,S,w,k⟩;obtain⟨⟨d,a⟩,w',z⟩:=aj.1 w;cases z;refine(G,A,d,a,S,w',λq b g R =>?_);have l:=by simpa using R.len
 exact k _ _ b g (_,Ż,R) Ż
def vM(i:Nat)(f:DMF):DG:=λA=>(f A).bind λp=>if p.2.length<1000 then Y (.nx<|p.2.set i<|Y<|.lst p.1) else M
set_option tactic.hygienic true
def acC{i:Nat}{f:DMF}(C:X.N.Nodup)(u:X.N[i]?=Y x)(p:Loc X.env.scope x)(y:PE X e<|Xw X.K B Z f)(r:‹i∈Z›)(c:autoParam (∀a,(i,a)∉B.3) ť)(t:‹A9 i∉Z›)(q:@&(cm e (Y<|.Name x A) g.line X.env=c9 false))(w:autoParam (X.fn x=Z'\/X.env.scope.names.lookup x=Y .local) ŧ):
  PS X (.Assign [.Name x A] e g) (gO X.K B I Z Z<|vM i f):=(jZ C u p y q w).imp <|by
 rintro D C H ⟨G,A,o,S,w,k⟩;obtain⟨⟨d,a⟩,w',z⟩:=ae.1 w;split at z
 .rename_i n;cases z;exact(G,A,d,a,S,w',λq b g R=>k _ b g<|R.pull n S.pin r c t)
 .cases z
end
end L2
end
section
set_option maxHeartbeats 400000
namespace L2
open PySem PySem.Spec PyProof.Rows
section
variable {K:aS}{f:!Nat}
def SR.As{s}{t'}{m}{F}(S:SR K B f G H y l)(Da:jT K B f G H y l F)(J:F i=T)(g:i∈f)(I:l[i]?=Y (Y<|.obj s t))(u:y[i]?=Y (Y<|.ref a))(E:f_ G (dg H T) G' H')(v:bQ K G' H' n t' (.ref a) m)(x:m.Nodup)(w:∀b∈m,G' b=M/\(b∈T\/H b=M)):SR K B f G' H' y ((bP i l).set i<|Y<|.obj n t')/\jT K B f G' H' y ((bP i l).set i<|Y<|.obj n t') (λj=>if j=i then m else F j):=by
 have:=S.yN.Ee (d' :=.obj n t') (λi d g e=>Da.it i d g (bE e).1,λi d g e=>Da.ok i d g (bE e).1,λi j d c g C A L=>Da.ap i j d c g C (bE A).1 (bE L).1) g (λb k=>(Ż,_,fY I λq z=>by cases z)) E.gg E.gh λb o e=>by
   obtain z|z:=E.fr b o e
   .exact .inl z
   .by_cases k:b∈T
    .exact .inr<|.inr k
    .rw[bC k]at z;exact .inr<|.inl z
  (λb o k e=>E.hh b o<|by simp_all [bC]) v x (λb k=>((w b k).1,(w b k).2.imp id .inl)) λb h=>by have:=(S.pin i b h).2;simp_all λr p z=>by cases z
  λj p q q q e=>absurd W<|(bE e).2 p
 rwa [de u]at this
def SR.Lu{s}{X}(S:SR K B Z G H J ρ)(hr:r∈Z)(hd:ρ[r]?=Y (Y<|.obj s t))(w:jG p s=Y u)(ep:gZ p t=Y X):
  ∃a x i,J[r]?=Y (Y<|.ref a)/\dm H p (.ref a)=Y x/\bQ K G H u X x i/\i.Nodup/\(∀b∈i,G b=M) /\
   ∀(g:D) (f:!aD) (N L:Hp),f_ G (dg H i) N L->bQ K N L u g x f->f.Nodup->(∀b∈f,N b=M/\(b∈i\/H b=M))->dm L p (.ref a)=Y x/\SR K B Z N L J ((bP r ρ).set r<|Y<|.obj s<|gX g p t) /\
    ∀q ws ds,ρ.length<1000->N q=M->(q∈i\/H q=M)->q∉f->L q=Y (.lst ws)->bB K N ds ws->SR K B (J.length::Z) N L (J++[Y<|.ref q]) ((bP r ρ).set r (Y<|.obj s<|gX g p t)++[Y<|.lst ds]):=by
 let(a,T,e1,C,nd,nf,F,Da,hF):=S.tree hr hd;let(x,i,U,h1,o2,v,k1):=C.focus w ep;let k:=v.nodup_iff.mp nd;rw[b8]at k;let(n1,n2,n3):=k;have h:∀b∈i,b∈T:=λb d=>v.symm.subset<|br _ d
 have n:∀b∈U,b∈T:=λb d=>v.symm.subset<|aG _ d
 let R:=λb d Q=>n3 b Q b d W
 refine(a,x,i,e1,h1,o2,n1,λb d=>(nf b<|h b d).1,λg f N L E nw m j =>?_);let(gv,T',o3,p3):=k1 N L g f E.gg (λb d o e=>E.hh b o<|by rw[bC<|R b d];exact e) nw;refine(gv,?_);have A:=S.As Da hF hr hd e1 (λb o e =>?_,E.gg,E.gh,λb o e =>?_) o3 ?_ λb d =>?_
 .refine(A.1,λq ws ds l gq fq nq hq rq=>A.1.snoc A.2 (by simpa [bP] using l) gq ?_ (λk c o e z =>?_) hq rq)
  .exact fq.elim (λz=>(nf q<|h q z).2) λz=>S.h0.free z
  .by_cases y:k=r
   .subst y;rw[if_pos W]at z;obtain z|z:=aX.mp (p3.subset z)
    .exact nq z
    .obtain y|y:=fq
     .exact R q z y
     .let(o,P,_):=C.here q<|n q z;rw[P]at y;cases y
   .rw[if_neg y]at z;rw[aw<|bz y]at e;have e:=(bE e).1;obtain y'|y':=fq
    .exact Da.ap r k _ c hr o hd e (bz y) q (by rw[hF];exact h q y') z
    .let(_,_,b):=Da.it k c o e;let(o,P):=b.here q z;rw[P]at y';cases y'
 .by_cases d:b∈T
  .rw[dW d]at e;cases e
  .rw[bC d]at e;exact E.hh b o (by rw[bC<|λz=>d<|h b z];exact e)
 .obtain z|z:=E.fr b o e
  .exact .inl z
  .refine .inr ?_;by_cases d:b∈T
   .rw[dW d]
   .rw[bC d];rw[bC<|λz=>d<|h b z]at z;exact z
 .rw[p3.nodup_iff,b8];refine(m,n2,λb d c hc z =>?_);subst z;rcases(j b d).2 with z|z
  .exact R b hc z
  .let(o,P,_):=C.here b<|n b hc;rw[P]at z;cases z
 .obtain q|q:=aX.mp (p3.subset d)
  .refine((j b q).1,?_);rcases(j b q).2 with z|z<;>simp_all
  .refine(?_,.inl<|n b q);rcases z:N b with _|o
   .rfl
   obtain y|y:=E.fr b o z
   .simp_all
   .let(o,P,_):=C.here b (n b q)
    simp_all [bC]
end
section
variable {X:Cx}
def PZ(c m:aM)(s:Sk)(F:!D->↑(!D×D))(j:Nat)(p:Br)(g:DL):DMF:=λb=>(gr s j b).bind λw=>match gZ p w with
 |some (.ins a d i)=>if a=c/\m∉d/\b.length<1000 then (g b).bind λe=>(F<|.ins a d i::e).map λr=>(r.1,(bP j b).set j<|Y<|.obj s<|gX r.2 p w) else M
 |_=>M
set_option tactic.hygienic true
def PY{c m}{k}{F:!D->↑(!D×D)}{p:Br}{s:Sk}(n:jf X.K aW c=Y (Y<|.ref C))(z:j∈Z)(y:jG p s=Y (.fs c k))(ht:∀i H Q,AO X.K Z g i H Q->t i H Q)(rc:∀G ρ Q d a x,SR X.K B Z G H i ρ->ρ[j]?=Y (Y<|.obj s d)->i[j]?=Y (Y<|.ref a)->dm H p (.ref a)=Y x->Q x H->T0 i H Q)(h:Xw X.K B Z (PZ c m s F j p g) i H Q):wQ C m (qK X.K (.fs c k) F) [] E0 T0 t i H Q:=by
 let(G,ρ,d,a,S,b,q):=h;let(w,b1,c1):=ae.1 b;split at c1
 .rename_i a1 d1 i1 b3;split at c1
  .rename_i hz;let(rfl,hm,l):=hz;let(e,b4,c2):=ae.1 c1;obtain⟨⟨r1,r2⟩,b5,c3⟩:=aj.1 c2;cases c3;let hd:=bX b1;let(x,v,T,f1,f2,f3,f4,f5,f6):=S.Lu z hd y b3;refine rc G ρ _ w x v S hd f1 f2 ?_;cases f3 with
   |@ins _ _ _ _ x' C' P vs S0 n' ex l' tt=>rw[n]at n';cases n';refine(x',P,_,W,ex,fh (K:=X.K) (G:=G) hm,ht _ _ _ (G,ρ,e,S.gh,S.hI,b4,λA G1 H1 R r1 =>?_));rw[bT];let S1:=S.ext R;let(x2,v2,T2,g1,g2,g3,g4,g5,g6):=S1.Lu z hd y b3;rw[f1]at g1;cases g1;rw[fZ R.hh f2]at g2;cases g2;exact(G1,_,e,_,_,x',T2,A,S1.gh,W,g3,g4,g5,r1,b5,λq' ws T' G' H' E nw nd nf gq fq nq hq rq=>q q' G' H'<|(g6 _ T' G' H' E nw nd nf).2.2 q' ws _ l gq fq nq hq rq)
  .cases c1
 .cases c1
end
end L2
end
section
set_option maxHeartbeats 400000
namespace L2
open PySem PySem.Spec PyProof.Rows
section
variable {X:Cx}
def X3{K}{i}{G H}{ρ}{Q}{s}{d}{a}{x}(_:SR K B Z G H i ρ)(_:ρ[j]?=Y (Y<|.obj s d))(e:i[j]?=Y (Y<|.ref a))(v:dm H [] (.ref a)=Y x)(q:Q x H):eS j i H Q:=by
 cases v;exact(_,e,q)
def aaw{c m}{s}{F}(h:dQ X.prog X.w X.K X.mg X.base c m k<|qK X.K (.fs c s) F)(g:dn k X.A)(i:PE X (.Name y p)<|eS j)(r:‹j∈Z›) (e:@&(eval (.Call (.Attribute (.Name y p) m L) [] [] J) X.env=(do
   let a <- eval (.Name y p) X.env
   jJ L.atName
   let(f,first) <- iy [a] (iV a m pl)
   l7 J f first (b9 J<|ak [] X.env) (ey J<|cD [] X.env)))):PE X (.Call (.Attribute (.Name y p) m L) [] [] J)<|Xw X.K B Z<|PZ c m (.fs c s) F j [] aN:=by
 let(C,f,K,E,n,t,o,x,w):=h.ex;exact(zg i t o x g w .nil ju e).imp λb H Q q=>PY n r W (by rintro b H Q ⟨G,A,l,S,d,z,k⟩;cases z;exact k [] G H (.refl S) .nil) (λG ρ Q d a x=>X3) q
def aav{c f m}{s fk:!(aM×Sk)}{F}(h:dQ X.prog X.w X.K X.mg X.base a m k<|qK X.K (.fs a s) F)(t:dn k X.A)(i:pP X.K c f)(w:PE X (.Name y p)<|eS j)(K:PA X (e::I)<|AO X.K Z g)(A:‹j∈Z›)(z:@&(jG [.fld f] (.fs c fk)=Y (.fs a s)))(o:@&(bJ (.Name y p) f X.env (eval (.Name y p) X.env)=eval (.Name y p) X.env))(b:@&(ak (e::I) X.env=(Z_,eval e X.env)::ak I X.env))(d:@&((b9 J<|ak I X.env).any (·.1)=false)) (u:@&(eval (.Call (.Attribute (.Attribute (.Name y p) f l) m L) (e::I) [] J) X.env=(do
   let r <- eval (.Attribute (.Name y p) f l) X.env
   jJ L.atName
   let(f,first) <- iy [r] (iV r m pl)
   l7 J f first (b9 J<|ak (e::I) X.env) (ey J<|cD [] X.env)))):PE X (.Call (.Attribute (.Attribute (.Name y p) f l) m L) (e::I) [] J)<|Xw X.K B Z<|PZ a m (.fs c fk) F j [.fld f] g:=by
 let(C,S,R,P,n,E,x,v,G):=h.ex;refine(nC (nO w o) E x v t G .nil ju K b d u).imp λN H Q q=>PY n A z (λD D D z=>z) (λG ρ Q d a x S e1 e2 e3 q =>?_) q
 let(a',T,e4,o1,_):=S.tree A e1;cases o1 with
 |ins=>let(C,dx,fs,nn,f1,f2):=S.Gu A e1 e2 e3;exact(_,e2,a,C,dx,fs,_,W,f1,(i C nn).1,(i C nn).2,f2,q)
end
end L2
end
section
set_option maxHeartbeats 400000
namespace L2
open PySem PySem.Spec PyProof.Rows
inductive GA (K:aS) (G H:Hp):Nat->!D->!V->!aD->Prop
 |nil:bB K G c b->GA K G H 0 c b []
 |cons:H a=some (.lst w)->bB K G k w->G a=none->a∉S->GA K G H n c b S->GA K G H (n+1) (.lst k::c) (.ref a::b) (a::S)
section
variable {K:aS}
def GA.nd{S:!aD}(h:GA K G H n c b S):S.Nodup:=by
 induction h with|nil=>exact .nil|cons _ _ _ m _ ih=>simp_all
end
section
variable {X:Cx}
end
end L2
end
section
set_option maxHeartbeats 400000
namespace L2
open PySem PySem.Spec PyProof.Rows
def Ue:D->Bool
 |.str _=>Z'|.obj _ _=>Z'|_=>Z_
def MJ:D->Bool
 |.tup (a::b::_::_)=>Ue a&&Ue b|.obj _ _=>Z'|.dP _ _=>Z'|.oE _=>Z'|_=>Z_
def hdQ:!D->Bool
 |d::_=>MJ d|[]=>Z_
mutual
def o5:D->D
 |.lst e=>if hdQ e=Z' then .dP 0 [] else .lst (nL e)
 |.tup e =>.tup (nL e)|.ins c k e =>.ins c k (nL e)|.fM k e =>.fM k (nL e)|.obj s t =>.obj s (o5 t)|.cT =>.cT|.bl b =>.bl b|.int i =>.int i|.str x =>.str x|.oE _ =>.dP 0 []|.dP r p =>.dP r p
def nL:!D->!D
 |[]=>[]|d::e=>o5 d::nL e
end
theorem i7:∀e,nL e=e.map o5
 |[]=>by simp[nL]
 |d::e=>by simp[nL,i7 e]
def LkA(G:Hp)(b:aD):Prop:=∃a f x y z r,G b=Y (.lst<|.ref a::f)/\G a=Y (.tup<|.str x :: .str y::z::r)
section
variable {K:aS}
theorem Ud{d}(r:cM K G d<|.str x):Ue d=true:=by
 cases d<;>simp[cM,Ue]at *
def Uc{d}(r:cM K G d<|.ref a)(h:G a=Y (.tup<|.str x :: .str y::z::f)):MJ d=true:=by
 cases d with
 |tup e=>
  let(a',v,w,g,s):=dA.mp r;cases w;rw[h]at g;cases g;obtain _|⟨e1,_|⟨e2,_|⟨e3,e⟩⟩⟩:=e
  .cases cF.mp s
  .let(_,_,q,_,t):=bt.mp s;cases q;cases cF.mp t
  .let(_,_,q,_,t):=bt.mp s;cases q;let(_,_,q,_,t):=bt.mp t;cases q;cases cF.mp t
  .let(_,_,q,u,t):=bt.mp s;let(_,_,q,w,_):=bt.mp t
   grind [MJ,Ud]
 |obj=>rfl|dP=>rfl|lst=>let(a',v,w,g,s):=cH.mp r;simp_all
 |ins=>let(a',_,_,_,w,_,g,_):=jh.mp r;simp_all
 |fM=>obtain⟨a',_,w,⟨_,g⟩,_⟩:=kR.mp r;cases w;rw[h]at g;cases g
 |oE=>rfl|_=>simp[cM]at r
set_option tactic.hygienic true in
mutual
theorem Dg{S:!aD}(n:∀b∈S,LkA G b):∀(d:D){v:V},cM K G d v->cM K (dg G S) (o5 d) v
 |.cT,v,h=>by solve_by_elim
 |.bl _,v,h=>by solve_by_elim
 |.int _,v,h=>by solve_by_elim
 |.str _,v,h=>by solve_by_elim
 |.dP _ _,v,h=>by solve_by_elim
 | .lst e,v,h=>by
  let(a,f,w,g,r):=cH.mp h;subst w;unfold o5;split
  .exact Ÿ
  .rename_i k;refine cH.mpr (a,f,W,?_,uB n e r);rw[bC λz =>?_]
   .exact g
   .let(b,f',x,y,z',r',p,q):=n a z;rw[g]at p;cases p;cases e with
    |nil=>cases cF.mp r|cons d e=>let(_,_,q',u,_):=bt.mp r;cases q';exact k<|Uc u q
 | .tup e,v,h=>by
  let(a,f,w,g,r):=dA.mp h;subst w;rw[o5];refine dA.mpr (a,f,W,?_,uB n e r);rw[bC λz =>?_]
  .exact g
  .let(b,f',x,y,z',r',p,q):=n a z
   simp_all
 | .ins c k e,v,h=>by
  let(a,C,i,f,w,m,g,l,r):=jh.mp h;subst w;rw[o5];refine jh.mpr (a,C,i,f,W,m,?_,by rw[i7,aF];exact l,uB n e r);rw[bC λz =>?_]
  .exact g
  .let(b,f',x,y,z',r',p,q):=n a z
   simp_all
 | .fM k e,v,h=>by
  obtain⟨a,f,w,⟨m,g⟩,l,r⟩:=kR.mp h;subst w;rw[o5];refine kR.mpr (a,f,W,(m,?_),by rw[i7,aF];exact l,uB n e r);rw[bC λz =>?_]
  .exact g
  .let(b,f',x,y,z',r',p,q):=n a z
   simp_all
 |.obj s t,v,h=>by rw[o5];exact lU.mpr<|Dg n t<|lU.mp h
 | .oE g,v,h=>by
  let(a,w,_):=Dh.mp h
  exact Ÿ
theorem uB{S:!aD}(n:∀b∈S,LkA G b):∀e {a:!V},bB K G e a->bB K (dg G S) (nL e) a
 |[],a,h=>by solve_by_elim
 |d::e,a,h=>by let(v,r,w,q,t):=bt.mp h;subst w;rw[nL];exact .cons (Dg n d q)<|uB n e t
end
mutual
def MF:Sk->Bool
 |.lf=>Z'|.li (.fs _ k)=>PQ k|.fs _ k=>PQ k|.dt s=>MF s|_=>Z_
def PQ:!(aM×Sk)->Bool
 |[]=>Z'|(_,s)::k=>MF s&&PQ k
end
theorem Wj{f}:∀ {k},PQ k=Z'->MF (cZ k f)=Z'
 |[],_=>by simp[cZ,MF]
 | (g,s)::k,h=>by
  rw[PQ,bh]at h;unfold cZ;rw[fO];split
  .exact h.1
  .exact Wj h.2
set_option tactic.hygienic true
def bQ.tw{S T:!aD}{d}{v}{s}(n:∀b∈S,LkA G b)(x:bQ K G H s d v T)(o:MF s=Z'):bQ K (dg G S) H s (o5 d) v T:=by
 induction x using bQ.rec (motive_2:=λss ds vs T f=>(∀s∈ss,MF s=Z')->dy K (dg G S) H ss (nL ds) vs T) with
 |leaf r=>exact .leaf (Dg n _ r)|@lst s ds a vs T e t j=>
  cases s with
  |fs c k=>
   have z:hdQ ds=false:=by
    cases ds with
    |nil=>rfl|cons d ds=>
     cases t with|cons u _=>cases u;rfl
   rw[o5,if_neg<|by simp_all];refine .lst e ?_
   simp_all [nL,i7,aF,MF]
  |_=>simp[MF]at o
 |@ins c ks fk ds a C dx vs T m e l t j=>
  refine .ins m e (by rw[i7,aF];exact l)<|j λs h =>?_
  grind [Wj,MF]
 |fM e l t=>simp[MF]at o|pr=>simp[MF]at o|@dt s ks ds a vs S n e l t j=>
  rw[o5];refine .dt e (by rw[i7,aF];exact l) ?_;have:=j λs' h=>by rw[(List.mem_replicate.mp h).2];simpa [MF] using o
  rwa [show ds.length=(nL ds).length by rw[i7,aF]]at this
 |nil=>solve_by_elim|cons a t j k=>rename_i h;exact .cons (j<|h _ ay) Ż
end
section
variable {X:Cx}
def OE:!D->Bool
 |.tup (.str _ :: .str _::_::_)::_=>Z'|_=>Z_
def abW{K}{b}(h:OE b=Z')(g:G L=Y (.lst f))(r:bB K G b f):LkA G L:=by
 unfold OE at h;split at h
 .let(v,_,w,q,_):=bt.mp r;subst w;let(a,_,w,z,s):=dA.mp q;subst w;let(_,_,w1,q1,s1):=bt.mp s;subst w1;cases eL.mp q1;let(_,_,w2,q2,s2):=bt.mp s1;subst w2;cases eL.mp q2;let(_,_,w3,q3,s3):=bt.mp s2;subst w3;exact(_,_,_,_,_,_,g,z)
 .cases h
end
end L2
end
section
set_option maxHeartbeats 400000
namespace L2
open PySem PySem.Spec PyProof.Rows
section
variable {K:aS}
theorem dy.snoc{v}{d}{s}{T}(h:bQ K G H s d v T):∀ {ds:!D}{vs:!V}{S:!aD},dy K G H (aH ds.length s) ds vs S->dy K G H (aH (ds++[d]).length s) (ds++[d]) (vs++[v]) (S++T)
 | [],vs,S,t=>by
  cases t;have:=dy.cons h .nil
  simp_all
 | c::ds,vs,S,t=>by
  cases t with|cons a t=>rw[bU];exact .cons a<|dy.snoc h t
abbrev LT(K:aS)(A w:Hp)(s:Sk)(h:!D)(e:cf)(τ:AU)(fe:DF)(rs:!D)(i m:Nat)(ys:!V)(H:Hp):Prop:=m=h.length-i/\i<=h.length/\ys.length<=i/\∃R r c S,f_ A w R H/\dy K R H (aH r.length s) r ys S/\S.Nodup/\(∀b∈S,R b=M/\w b=M/\∃o,H b=Y o)/\tD e τ gu fe (h.drop i)=Y c/\r++c=rs
set_option tactic.hygienic true
def YK{s:Sk}(ho:ig Z Ź src=Z')(hg:∀v l H Q,V3 K Ź τ v l H Q->g v l H Q)(q:Fe K Z (.li s) (eF<|wu f src τ gu fe) l H Q):V5 (BE K Z f) src g (qg K Ź gu) (Fe K Ź s fe) l H Q:=by
 let(G,ρ,d0,gh,P,s0,k):=q;let(rs,s1,s2):=aj.1 s0;subst s2;unfold wu at s1;let(h,ef,s3):=ae.1 s1;split at s3
 .rename_i hz;refine(G,ρ,h,gh,P,ef,λJ A w E1 ok =>?_);refine(LT K A w s h (mC src ρ) τ fe rs,
   (h.length,W,dr _,aV _,A,[],rs,[],.refl E1.gh,.nil,.nil,nofun,s3,W),?_)
  rintro i m ys D ⟨rfl,hil,hyl,R,r,c,S,o,rx,sn,sf,d,rfl⟩;let t:bD A D:=o.gg.trans o.gh;by_cases n:i<h.length
  .refine .inr (ok.go i D t n,?_,_,
    λC H' z=>(h.length-(i+1),ŷ,W,n,z),λx H3 y =>?_)
   .have:=dY
    lia
   .let(G3,X,N):=ok.Jx i D x H3 R h[i] o.gg o.gh y<|aE n;rw[cU n]at d;unfold tD at d;let(j,et,d1):=ae.1 d;let(b,eb,d2):=ae.1 d1;cases eb;let E13:=E1.trans<|o.trans X;refine hg _ _ _ _ (G3,mC src ρ,h[i],j,X.gh,(P.ext E13).src ho,N,et,λσ4 G4 H4 E4 B=>(G4,j,Z',E4.gh,B,W,λG5 H5 T =>?_));let E15:=(o.trans X).trans<|E4.trans T;refine qm ?_;simp only[if_true]at d2;let(x4,ee,d3):=ae.1 d2;let(a,el,d4):=aj.1 d3;subst d4;refine(G5,j,x4,T.gh,B.ext T,ee,λv S' G6 H6 E6 o6 n6 f6=>(by simp;omega,G6,r++[x4],a,S++S',E15.trans E6,?_,?_,?_,el,ż))
    .let E35:=(X.trans<|E4.trans T).trans E6;exact dy.snoc o6<|rx.mono E35.gg λb u o=>E35.hh b o
    .refine b8.mpr (sn,n6,λb hb c hc z =>?_);subst z;have:=(f6 b hc).2;let(_,_,o,h):=sf b hb;rw[(X.trans<|E4.trans T).hh _ _ h]at this;cases this
    .intro b hb;let E35:=(X.trans<|E4.trans T).trans E6;obtain hb|hb:=aX.mp hb
     .let(f1,f2,o,h):=sf b hb;refine(?_,f2,o,E35.hh _ _ h);rcases z:G6 b with _|o
      .rfl
      .obtain y|y:=E35.fr _ _ z
       .rw[f1]at y;cases y
       .rw[h]at y;cases y
     .let(o,h,_):=o6.here b hb;exact((f6 b hb).1,E15.hh.free (f6 b hb).2,o,h)
  .let e:i=h.length:=by lia
   subst e;rw[ni]at d;unfold tD at d;cases d;refine .inl (ok.stop _ D t<|aV _,λp hp =>?_);let E12:=E1.trans o;refine k (.ref p) (p::S) R _ (E12.trans<|f_.lay (p:=p) o.gh hp) ?_ ?_ λb hb =>?_
   .simp only[bT];refine .lst aP (rx.mono (bD.refl _) λb hb o e =>?_)
    grind [aI]
   .grind
   .obtain rfl|hb:=aT.mp hb
    .exact(o.gh.free hp,E12.hh.free hp)
    .exact((sf b hb).1,E1.hh.free (sf b hb).2.1)
 .cases s3
end
section
variable {X:Cx}
def acO{s}{f}(S:d6 X N src T)(j:X.calm=Z')(e:PI X L O<|BE X.K Z f)(n:NM J g)(a:∀i∈J,src[i]?=Y M)(h:∀v l H Q,V3 X.K Ź τ v l H Q->g v l H Q)(k:∀C s' H b,PG (X.qr N T C s' H b) L g/\PE (X.qr N T C s' H b) m (Fe X.K Ź s fe))(d:‹ig Z Ź src=true›)(c:autoParam (∀x,bW O X.env x=c9 x) ũ):PE X (.ListComp m [(L,O,[],0)] T u)<|Fe X.K Z (.li s)<|eF<|wu f src τ gu fe:=
 (FO S j e n a (λC s' H b=>((k C s' H b).1,j5,(k C s' H b).2)) c).imp λl H Q q=>YK d h q
end
end L2
end
section
set_option maxHeartbeats 400000
namespace L2
open PySem PySem.Spec PyProof.Rows
section
variable {X:Cx}{f:!Nat}{m:Pos}
end
end L2
end
namespace L2
open PySem PySem.Spec PyProof.Rows
section
variable {K:aS}
def k9{A:cf}(h:((A.set i<|Y d).set j<|Y g)[k]?=Y (Y c)):(k=j/\c=g)\/(k≠j/\k=i/\c=d)\/(k≠j/\k≠i/\A[k]?=Y (Y c)):=by
 obtain⟨a,b,_⟩|⟨a,b⟩:=fR h
 .exact .inl (a.symm,b)
 .obtain⟨e,f,_⟩|⟨e,f⟩:=fR b
  .exact .inr<|.inl (bz a,e.symm,f)
  .exact .inr<|.inr (bz a,bz e,f)
def SR.af8{i j:Nat}{a b}{d d':D}{m I T:!aD}{F:Nat->!aD}(S:SR K B h G H C A)(wz:jT K B h G H C A F)(hi:i∈h)(hj:j∈h)(ij:i≠j)
  (h0:∀x∈T,(x∈F i/\∃d,A[i]?=Y (Y d))\/(x∈F j/\∃d,A[j]?=Y (Y d))) (gg:bD G t) (gh:bD t H') (fr:∀b o,t b=Y o->G b=Y o\/H b=M\/b∈T) (v:∀b o,b∉T->H b=Y o->H' b=Y o)
  (n1:jy K t H' d a m) (n2:jy K t H' d' b I) (nd:m.Nodup) (nd':I.Nodup) (ap:∀x∈m,x∉I) (L:∀x,x∈m\/x∈I->t x=M/\(x∈T\/H x=M))
  (c1:C[i]?=Y (Y<|.ref a)) (c2:C[j]?=Y (Y<|.ref b)) (na:∀(k r:Nat) (p:Br),A[k]?=Y (Y<|D.dP r p)->r≠i/\r≠j) (hn:∀r p,d ≠ .dP r p) (hn':∀r p,d' ≠ .dP r p) :
  SR K B h t H' C ((A.set i<|Y d).set j<|Y d'):=by
 have b0:∀x∈T,G x=M/\B.2 x=none:=λx g=>by
  obtain⟨X,d,U⟩|⟨X,d,U⟩:=h0 x g
  .exact(wz.ok i d hi U).2 x X
  .exact(wz.ok j d hj U).2 x X
 have P:∀k c,k∈h->A[k]?=Y (Y c)->k≠j->k≠i->∀x∈F k,x∉T:=λk c l ek e f x g hb=>by
  obtain⟨X,d,U⟩|⟨X,d,U⟩:=h0 x hb
  .exact wz.ap i k d c hi l U ek (bz f) x X g
  .exact wz.ap j k d c hj l U ek (bz e) x X g
 have Q:∀k c,k∈h->A[k]?=Y (Y c)->k≠j->k≠i->∀x∈F k,¬(x∈m\/x∈I):=λk c l ek e f x g hb=>by
  rcases(L x hb).2 with z|z
  .exact P k c l ek e f x g z
  .let(_,_,mz):=wz.it k c l ek;let(o,ho):=mz.here x g;rw[ho]at z;cases z
 have W':jT K B h t H' C ((A.set i<|Y d).set j<|Y d')<|λk=>if k=j then I else if k=i then m else F k:=by
  refine(λk c l e =>?_,λk c l e =>?_,λk k2 c c' l l2 e e2 n x g =>?_)
  .obtain⟨rfl,rfl⟩|⟨n,rfl,rfl⟩|⟨n,N,e⟩:=k9 e
   .exact(b,c2,by rw[if_pos W];exact n2)
   .exact(a,c1,by rw[if_neg n,if_pos W];exact n1)
   .let(x,R,mz):=wz.it k c l e;exact(x,R,by rw[if_neg n,if_neg N];exact mz.mono gg λy hy o=>v y o<|P k c l e n N y hy)
  .obtain⟨rfl,rfl⟩|⟨n,rfl,rfl⟩|⟨n,N,e⟩:=k9 e
   .rw[if_pos W];refine(nd',λx g=>((L x<|.inr g).1,?_));rcases(L x<|.inr g).2 with z|z
    .exact(b0 x z).2
    .exact S.h0.free z
   .rw[if_neg n,if_pos W];refine(nd,λx g=>((L x<|.inl g).1,?_));rcases(L x<|.inl g).2 with z|z
    .exact(b0 x z).2
    .exact S.h0.free z
   .rw[if_neg n,if_neg N];let(nn,kk):=wz.ok k c l e;let(_,_,mz):=wz.it k c l e;refine(nn,λx g=>(?_,(kk x g).2));rcases q:t x with _|u
    .rfl
    obtain z|z|z:=fr x u q
    .rw[(kk x g).1]at z;cases z
    .let(o,ho):=mz.here x g;rw[ho]at z;cases z
    .exact absurd z<|P k c l e n N x g
  .obtain⟨rfl,rfl⟩|⟨J,rfl,rfl⟩|⟨J,q1,f1⟩:=k9 e
   .rw[if_pos W]at g;obtain⟨rfl,_⟩|⟨s,rfl,rfl⟩|⟨s,E,O⟩:=k9 e2
    .exact absurd W n
    .rw[if_neg s,if_pos W];exact λz=>ap x z g
    .rw[if_neg s,if_neg E];exact λz=>Q k2 c' l2 O s E x z<|.inr g
   .rw[if_neg J,if_pos W]at g;obtain⟨rfl,rfl⟩|⟨s,rfl,_⟩|⟨s,E,O⟩:=k9 e2
    .rw[if_pos W];exact ap x g
    .exact absurd W n
    .rw[if_neg s,if_neg E];exact λz=>Q k2 c' l2 O s E x z<|.inl g
   .rw[if_neg J,if_neg q1]at g;obtain⟨rfl,rfl⟩|⟨s,rfl,rfl⟩|⟨s,E,O⟩:=k9 e2
    .rw[if_pos W];exact λz=>Q k c l f1 J q1 x g<|.inr z
    .rw[if_neg s,if_pos W];exact λz=>Q k c l f1 J q1 x g<|.inl z
    .rw[if_neg s,if_neg E];exact wz.ap k k2 c c' l l2 f1 O n x g
 refine(gh,S.g0.trans gg,λx o e =>?_,λx o e =>?_,λk c l e =>?_,(_,W'),by simp[S.len],S.pin,λk r p X U e =>?_)
 .refine v x o (λz =>?_)<|S.h0 x o e;rw[(b0 x z).2]at e;cases e
 .obtain z|z|z:=fr x o e
  .exact S.fr x o z
  .exact .inr<|S.h0.free z
  .exact .inr (b0 x z).2
 .obtain⟨rfl,_⟩|⟨_,rfl,_⟩|⟨_,_,e⟩:=k9 e
  .exact absurd hj l
  .exact absurd hi l
  .let(u,R,mz):=S.env k c l e;exact(u,R,cM.mono gg c mz)
 .obtain⟨_,z⟩|⟨_,_,z⟩|⟨n1,n2,e⟩:=k9 e
  .exact absurd z.symm<|hn' r p
  .exact absurd z.symm<|hn r p
  .let(r1,r2):=na k r p e;let(g1,g0,s0,t0,s1,w,v1,g2,g3,g4,g5,g6):=S.dP k r p X U e;let(x,R,mz):=wz.it r _ g1 g2;rw[g3]at R;cases R;refine(g1,g0,s0,t0,s1,.ref x,v1,by rw[aw<|bz r2,aw<|bz r1];exact g2,g3,g4,?_,g6);exact bQ.u4 (show bQ K G H s0 t0 (.ref x)<|F r from mz) g6.1 (λb g o=>v b o<|P r _ g1 g2 r2 r1 b g) g5
def SR.Ry{i j:Nat}{s X n Q:Sk}{t U u P:D}{m q:!aD}{F}(S:SR K B f G H y l)(wz:jT K B f G H y l F)(gi:i∈f)(gj:j∈f)(ij:i≠j)(I:l[i]?=Y (Y<|.obj s t))(J:l[j]?=Y (Y<|.obj X U))(ca:y[i]?=Y (Y<|.ref a))(cb:y[j]?=Y (Y<|.ref b))
  (E:f_ G (dg H<|F i++F j) A N) (v:bQ K A N n u (.ref a) m) (T:bQ K A N Q P (.ref b) q) (x:m.Nodup) (R:q.Nodup) (ap:∀z∈m,z∉q) (w:∀z,z∈m\/z∈q->A z=M/\(z∈F i++F j\/H z=M)) :
  SR K B f A N y (((bP j<|bP i l).set i<|Y<|.obj n u).set j<|Y<|.obj Q P):=by
 have h:∀ {k:Nat}{d:D},(bP j _)[k]?=Y _->l[k]?=Y _/\∀p,d≠D.dP i p/\d≠D.dP j p:=fun {k d} e=>by let(e1,h1):=bE e;let(e2,h2):=bE e1;exact(e2,λp=>(h2 p,h1 p))
 have O:∀ {k:Nat}{s:Sk}{t:D},l[k]?=Y (Y<|D.obj s t)->(bP j<|bP i l)[k]?=Y _:=fun {k s t} e=>fY (fY e λp z=>by cases z) λp z=>by cases z
 refine(S.yN (r:=i).yN (r:=j)).af8 ((λk d g e=>wz.it k d g (h e).1,λk d g e=>wz.ok k d g (h e).1,λk k2 d c g C mz L=>wz.ap k k2 d c g C (h mz).1 (h L).1)) gi gj ij (λz hz =>?_) E.gg E.gh (λb o e =>?_) (λb o k e=>E.hh b o<|by rw[bC k];exact e) v T x R ap w ca cb (λk r p e =>?_) (λr p z=>by cases z) λr p z=>by cases z
 .obtain z|z:=aX.mp hz
  .exact .inl (z,_,O I)
  .exact .inr (z,_,O J)
 .obtain z|z:=E.fr b o e
  .exact .inl z
  .by_cases k:b∈F i++F j
   .exact .inr<|.inr k
   .rw[bC k]at z;exact .inr<|.inl z
 .have:=(h e).2 p;exact(λz=>this.1 (by rw[z]),λz=>this.2<|by rw[z])
end
inductive OK (K:aS) (s s':Sk) (F:!D->↑(D×D×D)) (j:!V) (H:Hp) (Q:VK) (_x:XK):Prop
 | mk G t t' g d i i' a b T T' h:bD G H->j=.ref a :: .ref b::h->bQ K G H s t (.ref a) T->bQ K G H s' t' (.ref b) T'->T.Nodup->T'.Nodup->(∀x∈T,x∉T')->(∀x∈T++T',G x=none)->bB K G g h->F (t::t'::g)=some (d,i,i') ->
  (∀v e e' c f,f_ G (dg H<|T++T') c f->bQ K c f s i (.ref a) e->bQ K c f s' i' (.ref b) e'->e.Nodup->e'.Nodup->(∀x∈e,x∉e')->(∀x,x∈e\/x∈e'->c x=none/\(x∈T++T'\/H x=none))->cM K c d v->Q v f)->OK K s s' F j H Q _x
def Wh(s c:Sk):DO->↑(D×D×D)
 |.rm d a=>(gr s 0 a).bind λt=>(gr c 1 a).map λb=>(d,t,b)
 |.nx a=>(gr s 0 a).bind λt=>(gr c 1 a).map λb=>(.cT,t,b)
 |_=>M
def JT(n N:Nat)(s c:Sk)(g:DG)(b:!D):↑(D×D×D):=match b with
 |t::d::a=>if a.length+2=n then (g<|fQ N<|.obj s t :: .obj c d::a).bind (Wh s c) else M
 |_=>M
section
variable {P:bj}{K:aS}
def HI{s:Sk}{f:!D}{T u:!aD}(w:bD G H)(m:0∈l)(I:1∈l)(h:bQ K G H s t (.ref a) T)(L:bQ K G H B C (.ref b) u)(k:T.Nodup)(J:u.Nodup)(F:∀x∈T,x∉u)(j:∀x∈T++u,G x=M)(r:bB K G f g)(n:∀i∈l,i=0\/i=1\/f.length+2<=i):
  SR K (G,dg H<|T++u,[(0,a),(1,b)],x) l G H (start N<|.ref a :: .ref b::g) (fQ N.length<|.obj s t :: .obj B C::f):=by
 have E:∀ {i:Nat}{v:V},(V.ref a :: .ref b::g)[i]?=Y v->(start N<|.ref a :: .ref b::g)[i]?=Y (Y v):=fun {i v} n=>by let f:=(aq.mp n).1;unfold start;rw[cw (by simp_all),aY,n];rfl
 have o:∀ {i d},i∈l->(fQ N.length<|.obj s t :: .obj B C::f)[i]?=Y (Y d)->(i=0/\d=.obj s t)\/(i=1/\d=.obj B C):=fun {i d} h e=>by
  have e:=jK e;obtain z|z|z:=n i h
  .subst z;cases e;exact .inl (W,W)
  .subst z;cases e;exact .inr (W,W)
  .have:=(aq.mp e).1;simp at this;grind
 refine(w,bD.refl _,λb o e =>?_,λb o e =>.inl e,λi d f e =>?_,(λi=>if i=0 then T else u,λi d f e =>?_,λi d f e =>?_,λi j d c f h e z y =>?_),by simp[start,fQ,r.length],λi c h =>?_,λj r p w A e =>?_)
 .grind [dW,bC]
 .have e:=jK e
  match i,e with
  |0,e=>trivial|1,e=>trivial|i+2,e=>
   let(v,O,R):=r.get (i:=i) (by simpa using e)
   simp_all
 .obtain⟨rfl,rfl⟩|⟨rfl,rfl⟩:=o f e
  .exact Ÿ
  exact Ÿ
 .obtain⟨rfl,rfl⟩|⟨rfl,rfl⟩:=o f e
  .simp_all [br,dW]
  simp_all [aG,dW]
 .obtain⟨rfl,rfl⟩|⟨rfl,rfl⟩:=o f e<;>obtain⟨rfl,rfl⟩|⟨rfl,rfl⟩:=o h z
  .exact absurd W y
  .exact F
  .exact λx p q=>F x q p
  .exact absurd W y
 .simp at h;obtain⟨rfl,rfl⟩|⟨rfl,rfl⟩:=h
  .exact(m,E W)
  .exact(I,E W)
 grind
def SR.acq{m:!Nat}{s D:Sk}(r:SR K (G,dg H<|T++C,[(0,a),(1,b)],p) m d i j e)(y:gr s 0 e=Y k)(E:gr D 1 e=Y R):
  ∃c l,bQ K d i s k (.ref a) c/\bQ K d i D R (.ref b) l/\c.Nodup/\l.Nodup/\(∀x∈c,x∉l)/\(∀x,x∈c\/x∈l->d x=M/\(x∈T++C\/H x=M)):=by
 let(g,f):=r.pin 0 a ż;let(t,O):=r.pin 1 b ż;let(F,S):=r.ow;have B:=bX y;have A:=bX E;let(Q,h,o):=S.it 0 _ g B;let(P,N,J):=S.it 1 _ t A;cases h.symm.trans f;cases N.symm.trans O;let(n,q):=S.ok 0 _ g B;let(L,I):=S.ok 1 _ t A;have w:∀x,d x=M/\dg H _ x=M->d x=M/\(x∈T++C\/H x=M):=λx (u,v)=>(u,(Classical.em _).imp_right λz=>(bC z).symm.trans v)
 exact(F 0,F 1,o,J,n,L,S.ap 0 1 _ _ g t B A ſ,λx z=>z.elim (λz=>w x<|q x z) λz=>w x<|I x z)
set_option tactic.hygienic true
def gx.aeX{f:aD}{R:!aM}(F:gx K x e p f fd){s:Sk}(N:!aM)(l D:!Nat)(S:fo N R<|bu p) (hb:N.Nodup->∀(j:au) (A:fJ) (outer:!Env) (s:az) (H:Hp) (E:XK),dn k (A.deeper<|mj e (bu p) s.heap.objs.size f j)->∀(B:Bs) (a b:aD),B.3=[(0,a),(1,b)] ->
   mh (pJ gk P w K O U N e (bu p) f j A outer s H E).Ig (fm p) (gO K B [] l D g)) (hp:‹0∈l›) (UG:‹1∈l›) (C:‹∀i∈l,i=0\/i=1\/R.length<=i›):b_ P w K O U gk (k+1) f fd R<|OK K s s'<|JT R.length N.length s s' g:=by
 refine F.ok S (λvs H Q E h =>?_) λj A outer s1 H vs Q E hr h =>?_
 .let(G,t,t',xs,d,X,X',a,b',T,T',us,gh,e1,ot,I,nd,J,ap,nf,r,b,_):=h;subst e1;simp only[JT]at b;split at b
  .rename_i z;simp[<- r.length,z]
  .cases b
 .let(G,t,t',xs,d,X,X',a,b',T,T',us,gh,e1,ot,I,nd,J,ap,nf,r,b,q):=h;subst e1;simp only[JT]at b;split at b
  .refine(_,hb S.nd j A _ s1 H E hr (G,dg H<|T++T',_,λV V=>False) a b' W,?_);let(oo,eg,b):=ae.1 b;refine(G,_,oo,HI gh hp UG ot I nd J ap nf r Ż,eg,?_);have ku:∀ {v L u n d' m},(∃b,SR K (G,dg H<|T++T',[LV 0 a,LV 1 b'],λV V=>False) b u n L m)->cM K u d' v->((gr s 0 m).bind λt=>(gr s' 1 m).map λt'=>LV d'<|LV t t')=Y (d,X,X')->Q v n:=fun {v L u n d' m} (o',mz) rv b=>by let(y,o,b):=ae.1 b;let(y',o2,b):=aj.1 b;cases b;let(c,c',f1,f2,f3,f4,f5,f6):=mz.acq o o2;exact q v c c' u n mz.kz f1 f2 f3 f4 f5 f6 rv
   cases oo with
   |rm d' m=>exact λv L u n mz rv=>ku mz rv b
   |nx m=>exact λL u n mz=>ku (_,mz) (fc.mpr W) b
   |_=>cases b
  .cases b
end
section
variable {X:Cx}
def yn(s c:Sk)(F:!D->↑(D×D×D))(i j:Nat)(g:DL):DM:=λb=>(gr s i b).bind λt=>(gr c j b).bind λd=>(g b).bind λa=>(F<|t::d::a).map λr=>(r.1,((bP j<|bP i b).set i<|Y<|.obj s r.2.1).set j<|Y<|.obj c r.2.2)
def Nl{s:Sk}{F:!D->↑(D×D×D)}(ho:iC X.prog X.w X.K X.mg X.base x k<|OK X.K s U F)(hr:dn k X.A)(hg:Gl X x)(h1:PE X (.Name y p)<|eS i)(h2:PE X (.Name z q)<|eS j)(ha:PA X a<|AO X.K b g)(C:‹i∈b›)(l:‹j∈b›)(ij:‹i≠j›)(J:‹(x==("__debug__" : aM))=false›)(S:@&(ak (.Name y p :: .Name z q::a) X.env=(Z_,eval (.Name y p) X.env)::ak (.Name z q::a) X.env))(S2:@&(ak (.Name z q::a) X.env=(Z_,eval (.Name z q) X.env)::ak a X.env))(I:@&((b9 n<|ak (.Name z q::a) X.env).any (·.1)=false)):
  PE X (.Call (.Name x u) (.Name y p :: .Name z q::a) [] n) (tM X.K B b<|yn s U F i j g):=by
 let(f,fd,ps,hm,hk,hh,r):=ho.ex;refine(pw hm hr hg hk hh r .nil ju (bZ h1 (bZ h2 ha S2) S) J S I).imp ?_;rintro σ H Q ⟨G,A,d,A',R,e,c⟩;let(t,e1,e):=ae.1 e;let(t',e2,e):=ae.1 e;let(mz,e3,e):=ae.1 e;obtain⟨⟨d',v,v'⟩,e4,e⟩:=aj.1 e;cases e;let(va,T,O,_):=R.tree C<|bX e1;let(vb,T',N,_):=R.tree l<|bX e2;refine(_,O,_,N,G,A,mz,R.gh,R.hI,e3,λus G1 H1 E1 r1 =>?_);have P:=R.ext E1;let(F1,wz):=P.ow;let(a1,L,oa):=wz.it i _ C<|bX e1;let(b1,K,ob):=wz.it j _ l<|bX e2;rw[O]at L;cases L;rw[N]at K;cases K;let(n1,k1):=wz.ok i _ C<|bX e1;let(n2,k2):=wz.ok j _ l<|bX e2;refine(G1,t,t',mz,d',v,v',va,vb,F1 i,F1 j,us,P.gh,ż,oa,ob,n1,n2,wz.ap i j _ _ C l (bX e1) (bX e2) ij,λx h =>?_,r1,e4,λw m m' G2 H2 E o o' n n' ap f rv =>?_)
 .obtain h|h:=aX.mp h
  .exact(k1 x h).1
  .exact(k2 x h).1
 .exact c w G2 H2 (P.Ry wz C l ij (bX e1) (bX e2) O N E o o' n n' ap f) (E1.gg.trans E.gg) rv
end
section
variable {K:aS}
def SR.V8{F:Nat->!aD}{q}{c:D}{S':!aD}(S:SR K B s G H C A)(O:jT K B s G H C A F)(n:A.length<1000)(g:∀b∈S',G b=M/\B.2 b=M)(w:∀k d,k∈s->A[k]?=Y (Y d)->∀b∈S',b∉F k)(h:jy K G H c q S')(L:S'.Nodup)(N:∀r p,c ≠ .dP r p):SR K B (C.length::s) G H (C++[Y<|.ref q])<|A++[Y c]:=by
 have l:=S.len;have t:∀ {i:Nat}{d:D},i∈C.length::s->A[i]?=Y (Y d)->i∈s/\i≠C.length:=fun {i d} o e=>by
  have:=(aq.mp e).1;have z:i≠C.length:=Ž
  exact((aT.mp o).resolve_left z,z)
 refine(S.gh,S.g0,S.h0,S.fr,λi d o e =>?_,(λi=>if i=C.length then S' else F i,λi d o e =>?_,λi d o e =>?_,λi j d J o p x y z =>?_),by simp[l],λi a h =>?_,λj r p o m e =>?_)
 .obtain⟨z,_⟩|⟨_,e⟩:=eU e
  .exact absurd (by rw[z,l];exact ay) o
  .let(v,x,y):=S.env i d (λz=>o<|ax _ z) e;exact(v,cW x,y)
 .obtain⟨rfl,rfl⟩|⟨z,e⟩:=eU e
  .simp_all
  .let(x,y,w):=O.it i d (t o e).1 e;exact(x,cW y,by rw[if_neg (t o e).2];exact w)
 .obtain⟨rfl,rfl⟩|⟨z,e⟩:=eU e
  .rw[if_pos l.symm];exact(L,g)
  .rw[if_neg (t o e).2];exact O.ok i d (t o e).1 e
 .obtain⟨rfl,rfl⟩|⟨_,I⟩:=eU x
  .obtain⟨rfl,rfl⟩|⟨_,E⟩:=eU y
   .exact absurd W z
   .rw[if_pos l.symm,if_neg (t p E).2];exact w j J (t p E).1 E
  .obtain⟨rfl,rfl⟩|⟨_,E⟩:=eU y
   .grind
   .rw[if_neg (t o I).2,if_neg (t p E).2];exact O.ap i j d J (t o I).1 (t p E).1 I E z
 .let(x,y):=S.pin i a h;exact(ax _ x,cW y)
 .obtain⟨_,z⟩|⟨_,e⟩:=eU e
  .exact absurd z.symm<|N r p
  .let(x,y,a,b,c,d,f,u,v,w,k):=S.dP j r p (t o e).1 ((aT.mp m).resolve_left Ž) e;exact(ax _ x,ax _ y,a,b,c,d,f,cW u,cW v,cW w,k)
def SR.drop(J:∀i∈f,i<1000000)(S:SR K B (C.length::f) G H (C++[Y<|.ref q])<|A++[Y c])(n:A.length<1000)(p:∀(i:Nat) (a:aD),(i,a)∈B.3->i∈f/\C[i]?=Y (Y<|.ref a)):
  SR K B f G H C A/\∃F g,jT K B f G H C A F/\jy K G H c q g/\g.Nodup/\(∀b∈g,G b=M/\B.2 b=M)/\∀k d,k∈f->A[k]?=Y (Y d)->∀b∈g,b∉F k:=by
 have l:=by simpa using S.len
 let(F,N):=S.ow;have t:∀ {i:Nat}{d:D},A[i]?=Y (Y d)->i≠C.length:=fun {i d} e=>by grind
 have u:∀ {i v},i≠C.length->(C++[Y<|V.ref q])[i]?=Y (Y v)->C[i]?=Y _:=fun {i v} z e=>by
  obtain⟨x,_⟩|⟨_,e⟩:=eU e
  .exact absurd x z
  .exact e
 have V:jT K B f G H C A F:=(λi d o e=>by let(x,y,w):=N.it i d (ax _ o)<|cW e;exact(x,u (t e) y,w),λi d o e=>N.ok i d (ax _ o)<|cW e,λi j d c o p x y z=>N.ap i j d c (ax _ o) (ax _ p) (cW x) (cW y) z)
 have R:SR K B f G H C A:=(S.gh,S.g0,S.h0,S.fr,λi d o e=>by
   let(v,x,y):=S.env i d (λz=>(aT.mp z).elim (t e) o)<|cW e;exact(v,u (t e) x,y),(F,V),l,p,λj r p o m e=>by
   grind)
 have s:(A++[Y c])[C.length]?=Y (Y c):=by rw[l];grind
 let(x,y,w):=N.it C.length _ ay s;let(E,k):=N.ok C.length _ ay s;simp at y;subst y;exact(R,F,_,V,w,E,k,λk d I e b h=>N.ap C.length k _ d ay (ax _ I) s (cW e) (bz<|t e) b h)
def SR.abt(l:∀i∈f,i<1000000)(S:SR K B (C.length::f) G H (C++[Y<|.ref q])<|A++[Y c])(n:A.length<1000)(p:∀(i:Nat) (a:aD),(i,a)∈B.3->i∈f/\C[i]?=Y (Y<|.ref a))(u:i∈f)(b:∀a,(i,a)∉B.3)(t:∀r p,c ≠ .dP r p):SR K B f G H (C.set i<|Y<|.ref q)<|A.set i<|Y c:=by
 let(R,F,x,V,w,s,k,d):=S.drop l n p;refine(R.Ee (F0:=[]) V u (λb g=>by cases g) (bD.refl _) S.gh (λb o e =>.inl e) (λb o j e=>e) w s (λc g=>((k c g).1,Ż)) (λa h=>absurd h<|b a) t λj p o m v e =>?_).1;have:=l _ m;omega
end
inductive tMT (K:aS) (B:Bs) (Z:!Nat) (s:Sk) (f:DM) (c:St) (H:Hp) (Q:VK):Prop
 |mk G e d a:SR K B Z G H c e->f e=some (d,a)->(∀q b g,SR K B (c.length::Z) b g (c++[some<|.ref q]) (a++[some<|.obj s d])->Q (.ref q) g)->tMT K B Z s f c H Q
inductive Me (K:aS) (s s2:Sk) (F:!D->↑(D×D)) (k:!V) (H:Hp) (Q:VK) (_x:XK):Prop
 |mk G t f j i a T h:bD G H->k=.ref a::h->bQ K G H s t (.ref a) T->T.Nodup->(∀b∈T,G b=none)->bB K G f h->F (t::f)=some (j,i)->(∀q S d c e,f_ G (dg H T) c e->bQ K c e s i (.ref a) d->d.Nodup->(∀b∈d,c b=none/\(b∈T\/H b=none))->bQ K c e s2 j (.ref q) S->S.Nodup->(∀b∈S,c b=none/\(b∈T\/H b=none)/\b∉d)->Q (.ref q) e)->Me K s s2 F k H Q _x
def abB(s c:Sk):DO->↑(D×D)
 |.rf i a=>(gr s 0 a).bind λt=>if i=0 then M else (gr c i a).map λb=>(b,t)
 |_=>M
def JU(n N:Nat)(s c:Sk)(g:DG)(b:!D):↑(D×D):=match b with
 |t::a=>if a.length+1=n then (g<|fQ N<|.obj s t::a).bind (abB s c) else M
 |[]=>M
section
variable {P:bj}{K:aS}
set_option tactic.hygienic true
def gx.aeY{mz:cS}{f:aD}(F:gx K x j mz f fd){s s2:Sk}(N:!aM)(Z Ź:!Nat){g:DG}(S:fo N l<|bu mz) (c:N.Nodup->∀(o:au) (A:fJ) (e:!Env) (s:az) (H:Hp) (E:XK),dn k (A.deeper<|mj j (bu mz) s.heap.objs.size f o)->∀(B:Bs) (a:aD),B.3=[(0,a)] ->
   mh (pJ gk P w K O U N j (bu mz) f o A e s H E).Ig (fm mz) (gO K B [] Z Ź g)) (hp:‹0∈Z›) (R:‹∀i∈Z,i=0\/l.length<=i›):b_ P w K O U gk (k+1) f fd l<|Me K s s2<|JU l.length N.length s s2 g:=by
 refine F.ok S (λvs H Q E h =>?_) λo A e s1 H vs Q E hr h =>?_
 .let(G,t,xs,d,t',a,T,us,L,e1,ot,J,I,r,b,_):=h;subst e1;simp only[JU]at b;split at b
  .rename_i z;simp[<- r.length,z]
  .cases b
 .let(G,t,xs,d,t',a,T,us,L,e1,ot,J,I,r,b,q):=h;subst e1;simp only[JU]at b;split at b
  .refine(_,c S.nd o A e s1 H E hr (G,dg H T,_,λV V=>False) a W,?_);let(oo,eg,b):=ae.1 b;refine(G,_,oo,vI L hp ot J I r Ż,eg,?_);cases oo with
   |rf i p=>
    let(y,X,b):=ae.1 b;split at b
    .cases b
    .rename_i i0;let(ds,C,b):=aj.1 b;cases b;intro v σ G' H' (o',n,u) hv;let(T',f1,f2,f3,F',wz,hF):=u.UZ X;let m:=bX C;let(D,e1,oc):=wz.it i _ n m;rw[hv]at e1;cases e1;let(n2,ku):=wz.ok i _ n m;refine q D _ T' G' H' u.kz f1 f2 f3 oc n2 λb c=>((ku b c).1,?_,λz =>?_)
     .by_cases h:b∈T
      .exact .inl h
      .exact .inr (by simpa [bC h] using (ku b c).2)
     .rw[<- hF]at z;exact wz.ap i 0 _ _ n (u.pin 0 a ż).1 m (bX X) i0 b c z
   |_=>cases b
  .cases b
end
section
variable {X:Cx}
def C5(s:Sk)(f:DM):DG:=λA=>(f A).map λp =>.rf p.2.length<|p.2++[Y<|.obj s p.1]
def Q4{s:Sk}{f:DM}(h:PE X e<|tMT X.K B Z s f):PS X (.Return (Y e) J)<|gO X.K B I Z c<|C5 s f:=(mE h).imp <|by
 rintro D C H ⟨G,A,o,S,w,k⟩;obtain⟨⟨d,a⟩,i,z⟩:=aj.1 w;cases z;refine(G,A,d,a,S,i,λq b g R =>?_);have l:=by simpa using R.len
 exact k _ _ b g (_,Ż,R) Ż
def C4(i:Nat)(s:Sk)(f:DM):DG:=λA=>(f A).bind λp=>if p.2.length<1000 then Y (.nx<|p.2.set i<|Y<|.obj s p.1) else M
set_option tactic.hygienic true in
def Q3{i:Nat}{s:Sk}{f:DM}(C:X.N.Nodup)(u:X.N[i]?=Y x)(p:Loc X.env.scope x)(y:PE X e<|tMT X.K B h s f)(r:‹i∈h›)(c:autoParam (∀a,(i,a)∉B.3) ť)(t:‹∀i∈h,i<1000000›)(q:@&(cm e (Y<|.Name x A) g.line X.env=c9 false))(w:autoParam (X.fn x=Z'\/X.env.scope.names.lookup x=Y .local) ŧ):
  PS X (.Assign [.Name x A] e g) (gO X.K B I h h<|C4 i s f):=(jZ C u p y q w).imp <|by
 rintro D C H ⟨G,A,o,S,w,k⟩;obtain⟨⟨d,a⟩,j,z⟩:=ae.1 w;split at z
 .rename_i n;cases z;exact(G,A,d,a,S,j,λq b g R=>k _ b g<|R.abt t n S.pin r c λr p z=>by cases z)
 .cases z
def zD(c m:aM)(s f:Sk)(F:!D->↑(D×D))(j:Nat)(g:DL):DM:=λb=>(gr s j b).bind λw=>match w with
 |.ins a d i=>if a=c/\m∉d/\b.length<1000 then (g b).bind λe=>(F<|.ins a d i::e).map λr=>(r.1,(bP j b).set j<|Y<|.obj s r.2) else M
 |_=>M
set_option tactic.hygienic true
def Rb{c m:aM}{s:!(aM×Sk)}{s2:Sk}{F}{g}(h:dQ X.prog X.w X.K X.mg X.base c m k<|Me X.K (.fs c s) s2 F)(o:dn k X.A)(r:PE X (.Name y p)<|eS j)(E:PA X (e::I)<|AO X.K Z g)(w:‹j∈Z›)(a:@&(ak (e::I) X.env=(Z_,eval e X.env)::ak I X.env))(b:@&((b9 J<|ak I X.env).any (·.1)=false)) (i:@&(eval (.Call (.Attribute (.Name y p) m L) (e::I) [] J) X.env=(do
   let d <- eval (.Name y p) X.env
   jJ L.atName
   let(f,first) <- iy [d] (iV d m pl)
   l7 J f first (b9 J<|ak (e::I) X.env) (ey J<|cD [] X.env)))):PE X (.Call (.Attribute (.Name y p) m L) (e::I) [] J)<|tMT X.K B Z s2<|zD c m (.fs c s) s2 F j g:=by
 let(C,f,N,mz,n,x,t,G,A):=h.ex;refine(nC r x t G o A .nil ju E a b i).imp ?_;rintro σ H Q ⟨G0,ρ,d,a,S,b,q⟩;let(w1,b1,c1):=ae.1 b;split at c1
 .rename_i a1 d1 i1;split at c1
  .rename_i hz;let(rfl,hm,l):=hz;let(e,b4,c2):=ae.1 c1;obtain⟨⟨r1,r2⟩,b5,c3⟩:=aj.1 c2;cases c3;let O:=bX b1;let(x,T,f1,f3,_):=S.tree w O;cases f3 with
   |@ins _ _ _ _ _ C' P vs S0 n' ex l' tt=>
    rw[n]at n';cases n';refine(_,f1,x,P,_,W,ex,fh (K:=X.K) (G:=G0) hm,(G0,ρ,e,S.gh,S.hI,b4,λus G1 H1 R r1 =>?_));rw[bT];have U:=S.ext R;let(x1,T1,g1,g3,g4,g5,F1,W1,hF):=U.tree w O;rw[f1]at g1;cases g1;refine(G1,_,e,_,_,x,T1,us,U.gh,W,g3,g4,λb v=>(g5 b v).1,r1,b5,λq' S' T' G' H' E nw nd nf o2 n2 K=>q q' G' H' ?_);have yz:=U.As W1 hF w O f1 E nw nd nf;refine yz.1.V8 yz.2 (by simpa [bP] using l) (λb v=>((K b v).1,?_)) (λkk cc hk D b v u =>?_) o2 n2 λr p z=>by cases z
    .rcases(K b v).2.1 with z|z
     .exact(g5 b z).2
     .exact U.h0.free z
    .by_cases z:kk=j
     .rw[if_pos z]at u;exact(K b v).2.2 u
     .rw[if_neg z]at u;rw[aw<|bz z]at D;have D:=(bE D).1;rcases(K b v).2.1 with y|y
      .exact W1.ap j kk _ cc w hk O D (bz z) b (by rw[hF];exact y) u
      .let(_,_,mz):=W1.it kk cc hk D;let(o,ho):=mz.here b u;rw[ho]at y;cases y
  .cases c1
 .cases c1
end
section
variable {K:aS}
def SR.Ra{s:Sk}{v mz:Hp}{w:!aD}(L:hW)(S:SR K B f G H X A)(Q:r∈f)(U:A[r]?=Y (Y<|.obj s t))(es:jG p s=Y (.dt n))(ep:gZ p t=Y (.fM q y))(E:f_ G H v mz)(o1:bQ K v mz n d u w)(I:w.Nodup)(m:∀b∈w,v b=M/\H b=M):
  ∃a x j N,X[r]?=Y (Y<|.ref a)/\dm H p (.ref a)=Y (.ref x)/\H x=Y (.dK (q.zip j) N)/\q.length=j.length /\
   ∀N',SR K B f v (cO mz x<|.dK ((q++[L]).zip<|j++[u]) N') X<|(bP r A).set r<|Y<|.obj s<|gX (.fM (q++[L])<|y++[d]) p t:=by
 refine ah λJ =>?_
 let(a,T,e1,ot,nd,nf,F,wz,hF):=S.tree Q U;let O:∀b∈T,∃o,H b=Y o:=λb l=>by let(o,s,_):=ot.here b l;exact(o,s)
 let dj:∀b∈w,b∉T:=λb l hb'=>by let(o,s):=O b hb';rw[(m b l).2]at s;cases s
 let(x,j,N,h1,h2,h3,h4,h5,h6):=ot.acE (k:=L) nd es ep E.gg (λb D o e=>E.hh b o e) o1 I dj;let hu:=fY (r:=r) U (λq z=>by cases z);let S':=(S.ext E).yN (r:=r);let g:=wz.ext E;let W':jT K B f v mz X (bP r A) F:=(λi d P e=>g.it i d P (bE e).1,λi d P e=>g.ok i d P (bE e).1,λi j d c P hj ei ej=>g.ap i j d c P hj (bE ei).1 (bE ej).1);have gT:∀b∈T,v b=none:=λb l=>by rw[<- hF]at l;exact((g.ok r _ Q U).2 b l).1
 refine J (a,x,j,N,e1,h1,h3,h4,λN' =>?_);let(T',o2,C,sub):=h6 N';let R:=S'.Ee (i:=r) (a:=a) (d' :=.obj s _) (F0:=T) (S':=T') (G':=v) W' Q (λb l=>(by rw[hF];exact l,_,hu)) (bD.refl _) (λb o e=>by
   let t:b≠x:=λz=>by rw[z,gT x h2]at e;cases e
   rw[aI t];exact E.gh b o e) (λb o e =>.inl e) (λb o l e=>by
   let t:b≠x:=λz=>l (z ▸ h2)
   rw[aI t];exact e) o2 C (λb l=>by
   obtain z|z:=sub b l
   .exact Ÿ
   .refine((m b z).1,.inr<|.inr (S.h0.free (m b z).2,λk c hk ek UH hbk =>?_));let(y,f1,f2):=wz.it k c hk (bE ek).1;let(o,s):=f2.here b hbk
    simp_all) (λb h=>by have:=(S.pin r b h).2;simp_all) (λr p z=>by cases z)
  (λj p D D D e=>absurd W<|(bE e).2 p)
 let R:=R.1;rw[de e1]at R;exact R
end
section
variable {X:Cx}
def yj(j:Nat)(c f:aM)(n:Sk)(e g:DF):DG:=λA=>(g A).bind λd=>(rT c f j A).bind λq=>(e A).bind λy=>(Bc y).bind λb=>match q.2.2.2 with
 |.fM a h=>if (Sk.K8 (cZ q.1 f) (.dt n)=Z'/\a.length<dZ)/\(a.any λq=>decide (q=b))=Z_ then Y (.nx<|(bP j A).set j<|Y<|zb c f q.1 q.2.1 q.2.2.1<|.fM (a++[b])<|h++[d]) else M
 |_=>M
set_option tactic.hygienic true in
def Ni{c f:aM}(P:X.A.units+1<l9)(h:PE X (.Name x p)<|eS j)(hi:PE X i<|tP X.K Z fk)(he:PE X e<|Fe X.K Z n fe)(hc:pP X.K c f)(R:‹j∈Z›)(T:@&(bJ (.Name x p) f X.env (eval (.Name x p) X.env)=eval (.Name x p) X.env))(hs:@&(cm e (Y<|.Subscript (.Attribute (.Name x p) f I) i O) L.line X.env=c9 false)):
  PS X (.Assign [.Subscript (.Attribute (.Name x p) f I) i O] e L) (gO X.K B Q Z Z<|yj j c f n fk fe):=(J8 P (nO h T) hi he hs).imp <|by
 rintro D J H ⟨G,A,o,S,b,k⟩;let(d,ef,b):=ae.1 b;obtain⟨⟨fk',YO,Vi,t1⟩,et,b⟩:=ae.1 b;let(y,w,b):=ae.1 b;let(t,m,b):=ae.1 b;split at b
 .rename_i a ds ht;split at b
  .rename_i F;cases b;simp only at ht;subst ht;let(K,mz,i2):=kH et;have sk:=Sk.kL F.1.1;rw[sk]at mz;refine(G,A,d,S.gh,S.hI,ef,λv S1 G1 H1 E o1 s fr =>?_);have q:=S.ext E;let(a1,y',T1,e1,e2,_):=q.uh R K mz i2;let(C,dx,fs,nn,f1,f2):=q.Gu R K e1 e2;refine(_,e1,a1,C,dx,fs,_,W,f1,(hc C nn).1,(hc C nn).2,f2,G1,A,y,q.gh,q.hI,w,λu r H2 l ru =>?_);have kr:=oJ m (.inl ru:iN X.K r H2 y u);have m2:∀b∈S1,r b=M/\H b=none:=λb U=>by
    refine(?_,(fr b U).2);rcases z:r b with _|o
    .rfl
    .let(o',h,_):=o1.here b U;obtain z|z:=l.fr b o z
     .rw[(fr b U).1]at z;cases z
     .rw[h]at z;cases z
   let(a2,x,jj,N,g1,g2,g3,g4,g5):=S.Ra t R K mz i2 (E.trans l) (o1.mono l.gg λb V o e=>l.hh b o e) s m2;rw[e1]at g1;cases g1;rw[fZ E.hh g2]at e2;cases e2;refine(x,_,W,?_,λg=>k _ r _<|g5 g);rw[kr];have hp:∀g,cO H2 x (.dK ((a++[t]).zip<|jj++[v]) g)=cO H2 x (.dK (kP (a.zip jj) t v) g):=λg=>by unfold kP;rw[Ex g4,F.2,if_neg (by simp),Jt g4];rfl
   simp only[hp];refine NP.k ((E.trans l).hh _ _ g3) ?_;rw[oZ,<- g4,EH];exact bp F.1.2 dY
  .cases b
 .cases b
def uR(c m:aM)(h:!(aM×Sk))(F:!D->↑(D×D))(j:Nat)(l:DF)(g:DL):DM:=λb=>(gr (.li<|.fs c h) j b).bind λw=>(l b).bind λn=>match w,n with
 | .lst f,.int n=>(Be f.length n).bind λk=>match f[k]? with
  |some (.ins a d i)=>if a=c/\m∉d then (g b).bind λe=>(F<|.ins a d i::e).map λr=>(r.1,(bP j b).set j<|Y<|.obj (.li<|.fs c h)<|.lst<|f.set k r.2) else M
  |_=>M
 |_,_=>M
set_option tactic.hygienic true
def Nk{c m:aM}{fk:!(aM×Sk)}{F:!D->↑(D×D)}{ix:DF}{g:DL}(h:dQ X.prog X.w X.K X.mg X.base c m k<|spT X.K (.fs c fk) F)(o:dn k X.A)(r:PE X (.Name y p)<|eS j)(hi:PE X b<|tP X.K Z ix)(E:PA X (e::I)<|AO X.K Z g)(w:‹j∈Z›)(hpi:autoParam (vm b) Š)(a:@&(ak (e::I) X.env=(Z_,eval e X.env)::ak I X.env))(bb:@&((b9 J<|ak I X.env).any (·.1)=false)) (i:@&(eval (.Call (.Attribute (.Subscript (.Name y p) b l) m L) (e::I) [] J) X.env=(do
   let d <- eval (.Subscript (.Name y p) b l) X.env
   jJ L.atName
   let(f,first) <- iy [d] (iV d m pl)
   l7 J f first (b9 J<|ak (e::I) X.env) (ey J<|cD [] X.env)))):PE X (.Call (.Attribute (.Subscript (.Name y p) b l) m L) (e::I) [] J)<|tM X.K B Z<|uR c m fk F j ix g:=by
 let(C,f,N,mz,n,x,t,G,A):=h.ex;refine(nC (Ke DE r hi hpi) x t G o A .nil ju E a bb i).imp ?_;rintro σ H Q ⟨G0,ρ,d,ρ',S,b1,q⟩;let(w1,e1,b2):=ae.1 b1;let(nv,e2,b3):=ae.1 b2;split at b3
 .rename_i O nn;let(k0,e3,b4):=ae.1 b3;split at b4
  .rename_i a1 d1 i1 e4;split at b4
   .rename_i hz;let(rfl,hm):=hz;let(ee,e5,b5):=ae.1 b4;obtain⟨⟨r1,r2⟩,e6,b6⟩:=aj.1 b5;cases b6;have hd:=bX e1;have gp:gZ [.ix k0] (.lst O)=Y (.ins a1 d1 i1):=by simp[gZ,e4]
    have gs:jG [.ix k0] (.li<|.fs a1 fk)=Y (.fs a1 fk):=rfl;have s:∀ {G H},SR X.K B Z G H σ ρ->∃a U,σ[j]?=Y (Y<|.ref a)/\H a=Y (.lst U)/\O.length=U.length:=fun {G H} S=>by
     let(a,T,h1,h2,_):=S.tree w hd;cases h2 with
     |lst hl tt=>exact(a,_,h1,hl,tt.length.1)
    let(a,U,r1',_,_):=s S;refine(_,r1',G0,ρ,_,S.gh,S.hI,e2,λu G1 H1 E1 ru =>?_);cases bY.mp ru;have K:=S.ext E1;let(a',Xa,q1,q2,q3):=s K;rw[r1']at q1;cases q1;let(a2,v2,T2,f1,f2,f3,f4,f5,f6):=K.Ej w hd gs gp;rw[r1']at f1;cases f1;have at1:Xa[k0]?=Y v2:=by
     simp only[dm,q2]at f2;rcases z:Xa[k0]? with _|v
     .rw[z]at f2;cases f2
     .rw[z]at f2;cases f2;rfl
    refine(a,Xa,nn,v2,W,W,.of q2,by unfold qt;rw[<- q3,e3];exact at1,?_);cases f3 with
    |@ins _ _ _ _ x' C' P U S0 n' ex l' tt=>rw[n]at n';cases n';refine(x',P,_,W,ex,fh (K:=X.K) (G:=G1) hm,G1,ρ,ee,K.gh,K.hI,e5,λus G2 H2 R rr =>?_);rw[bT];have S2:=K.ext R;let(a3,v3,T3,g1,g2,g3,g4,g5,g6):=S2.Ej w hd gs gp;rw[r1']at g1;cases g1;rw[fZ R.hh f2]at g2;cases g2;refine(G2,_,ee,r1,r2,x',T3,us,S2.gh,W,g3,g4,g5,rr,e6,λv T' G' H' E nw nd nf rv=>q v G' H' ?_ ((E1.gg.trans R.gg).trans E.gg) rv);have:=(g6 r2 T' G' H' E nw nd nf).2;rwa [show gX r2 [.ix k0] (.lst O)=.lst (O.set k0 r2) by simp[gX,e4]]at this
   .cases b4
  .cases b4
 .cases b3
end
def XI{K:aS}{s:Sk}{F:!D->↑(!D×D)}(h:spT K s (λa=>(F a).map λr=>(.lst r.1,r.2)) l H Q E):qK K s F l H Q E:=by
 let(G,t,n,d,N,a,T,v,I,e1,ot,A,y,r,b,q):=h;obtain⟨⟨j,i⟩,R,L⟩:=aj.1 b;cases L;refine(G,t,n,j,i,a,T,v,I,e1,ot,A,y,r,R,λp u d c e E x f k g J O C w =>?_);have B:dg H T p=none:=J.elim dW λz=>by grind [dW,bC]
 exact q _ d _ e (E.freeze B g C) (x.mono (.alloc g) λb m o h=>h) f (λb m=>(by grind [aI],(k b m).2))<|cH.mpr (p,u,W,aP,bB.mono (.alloc g) _ w)
def Itm(a:aD)(b:!(hW×V))(n:Nat):It:=
 (λi H=>H a=Y (.dK b n)/\∃q,b[i]?=Y q,λi H v c=>∃q p,b[i]?=Y q/\H p=M/\v=.ref p/\c=cO H p (.tup [kV q.1,q.2]),λi H=>H a=Y (.dK b n)/\b.length<=i)
def ab1{P:bj}(r:(fg P w).is k u=Z'):RelV (kV k) u:=by
 obtain⟨i,t,rfl,rfl⟩|⟨x,t,rfl,rfl⟩:=fU r
 .exact Ÿ
 exact Ÿ
theorem KV.get:∀ {c:!(hW×V)}{l:!(hW×au)}{i:Nat}{q:hW×V},KV c l->c[i]?=Y q->∃v,l[i]?=Y (q.1,v)/\RelV q.2 v
 |_,_,_,_,.nil,e=>by simp at e
 |_,_,0,_,@Paired.cons _ _ _ p r _ _ h _,e=>by grind
 | _,_,i+1,q,.cons _ t,e=>by
  obtain _:=KV.get t (by simpa using e)
  simp_all
def Aa:PySem.entryFor PySem.table "dict_itemiterator.__iter__" = Y Builtin.«dict_keyiterator.__iter__»:=
 PySem.entryFor_alias (id':= "dict_keyiterator.__iter__") ź W Ų ź
def HD{P:bj}{K:aS}{x1}(a g:aD)(y:!(hW×V))(n:Nat):
  NS P w K (.Tuple ads x1 aaO) (Itm a y n) [g] g (λi h=>∃c d,IsItemIter h g a i y.length n c d) where
 mem:=by simp
 obj:=λi h S c x=>by
  let(u,v,S):=S;let z:c=g:=by simpa using x
  subst z;exact(_,S,λv z=>by cases z)
 keep:=λi h h' S k=>by let(u,v,S):=S;exact(u,v,k g ż _ S)
 item:=by
  intro X hP hw hK x i J s σ H E I hf S hg;subst hP hw hK;let(c1,c2,S):=S;let(e,q,hq):=hg;let(hz,hs,l,D,p):=Lj I.dS<|.inl e;let(u,hu,ru):=KV.get D hq;let hl:=D.length;rw[hl]at S ⊢;have N:=hf g ż;refine wpAny_pyNext_items_item S p hu λB h1 hk eo t1 z1 k1 =>?_
  refine(_,W,?_);refine wpAny_letOwnedTupleGo_items (s:={ s with heap:=h1 }) eo λmz e2 w2 =>?_
  have C:g<s.heap.objs.size:=aO S;let t:H s.heap.objs.size=none:=I.dS.fresh<|aV _;let L:eE g h1 mz:=w2;have f:∀b o,b≠g->s.heap.get? b=Y o->mz.get? b=Y o:=λb o j q=>(L.2 b j).trans<|k1 b o j q
  let U:mz.get? s.heap.objs.size=Y { cls :=.type "tuple",data :=.seq #[B,u] }:=(L.2 _<|eR C).trans t1;have O:∀b o,H b=Y o->b≠g:=λb o q j=>by rw[j,N.1]at q;cases q
  let new:hR X.prog X.w (cO H s.heap.objs.size<|.tup [kV q.1,q.2]) mz s.heap.objs.size<|.tup [kV q.1,q.2]:=
   (by show 2<=be;rw[i5];decide,[B,u],.cons (ab1 hk)<|.cons ru .nil,_,U,W,_,W)
  let R:lT X.prog X.w (cO H s.heap.objs.size<|.tup [kV q.1,q.2]) mz:=λb o q=>by
   by_cases j:b=s.heap.objs.size
   .subst j;rw[aP]at q;cases q;exact new
   .rw[aI j]at q;refine(I.dS b o q).uk (λc v G r =>?_) (λc r=>by rw[aI<|bc r t];exact r) λc ys r=>by rw[aI<|bc r t];exact r
    obtain rfl|G:=G
    .exact f _ _ (O _ _ q) r
    .exact f _ _ (O _ _ G) r
  let old:∀b o,s.heap.get? b=Y o->b≠s.heap.objs.size:=λb o q=>bI<|aO q
  have un:Un (yv X.stack) [g] H (cO H s.heap.objs.size<|.tup [kV q.1,q.2]) s.heap mz:=
   (λb o q n A m=>f b o (by simpa using m) q,λb o q n A m=>(o.slots,f b o (by simpa using m) q),λb o q n m=>by rw[aI<|old b o q];exact n,
    λb o q m=>(o,f b o (by simpa using m) q),λb ys q=>by rw[aI<|bc q t];exact q,λb o u q=>by rw[aI<|bc q t];exact q,λb ps q=>(#[],by rw[aI<|bc q t];simpa using q))
  let I2:Inv X J σ (cO H s.heap.objs.size<|.tup [kV q.1,q.2]) { s with heap:=mz }:=I.xk (s':={ s with heap:=mz }) W un R I.bare λb j=>by
   let z:b=g:=by simpa using j
   subst z;exact(N.2.2.2.1,N.2.1,N.2.2.2.2.1,N.2.2.2.2.2)
  refine(.ref s.heap.objs.size,_,I2,W,(q,s.heap.objs.size,hq,t,W,W),(_,_,e2),λc x =>?_);let z:c=g:=by simpa using x
  subst z;rw[aI<|bI C];exact N.1
 done:=by intro X hP hw hK x i J s σ H E I hf S hg;subst hP hw hK;let(c1,c2,S):=S;let(e,hq):=hg;let(hz,hs,l,D,p):=Lj I.dS<|.inl e;let hl:=D.length;rw[hl]at S;let(f0,T,f2,S',R,Q):=hf g ż;exact wpAny_pyNext_items_end (I.ok.hd x) S p (fH Ż) λh' eb=>(W,I.turned (t':=s.toks) (λb o l e=>eb b o l e) f0 T S' R Q)
 self:=λA i s Q E S h=>by let(u,v,S):=S;have F:s.TypeIs (.ref g) "dict_itemiterator" :=(_,S,W);refine wpAny_pyIter_slot F PySem.F.slot_dict_itemiterator_iter<|RX PySem.F.slot_dict_itemiterator_iter F Aa ?_<|PySem.F.args_dict_itemiterator_iter_1 _;show bx _ _ (ret<|.ref g) _ _ s;exact aJ (_,W, "dict_itemiterator",_,F,PySem.F.slot_dict_itemiterator_next.lookup,h)
section
variable {X:Cx}{f:DF}
def WA(j:aD->!(hW×V)->Nat->It)(t:TE):TI:=λb H R=>t b H λx d=>∃a c n,x=.ref a/\d a=Y (.dK c n)/\R (j a c n) d
def Pc{U}{i g:Pos}(t:PE X e c)(b:@&(bJ e "items" X.env (eval e X.env)=eval e X.env))(l:@&((i.endLine==g.line)=true)):PI X (.Tuple y U o) (.Call (.Attribute e "items" i) [] [] g)<|WA Itm c:=by
 intro B s O H R I h;refine wpAny_Call_method0_late b l<|eG (t B s O H _ I h) ?_;rintro v m ⟨x,K,j,r,a,p,n,rfl,e,q⟩;cases r;let(L,F,k,C,f):=Lj j.dS<|.inl e;let u:=f.dictOf.typeIs;let A:∀b,aQ a=.ref b->∃d,m.heap.get? b=Y d/\d.dict=none:=λb q=>by cases q;let(o,N,G,J,_):=f;exact(o,G,J.2.1)
 refine(_,_,PySem.F.plainAttrs_dict,PySem.F.slot_dict_items,PySem.F.type_dict_items,u,A,nV W<|PySem.evalArgs_none ?_);refine call_meetsIn PySem.F.slot_dict_items u PySem.F.entry_dict_items (PySem.F.args_dict_items_1 _) (meets_dict_items _ a F) ((k,f.dictOf),?_);let E:(m.heap.push { cls :=.type _,data :=.fields _ }).IsItemsView _ a:=(_,bo _ W,W,W);refine wpAny_pyIter_items E (f.push _) ?_;let D:∀b o,m.heap.get? b=Y o->((m.heap.push { cls :=.type "dict_items",data :=.fields #[.ref a] }).push { cls :=.type "dict_itemiterator",data :=.fields #[.none,.bool Z_,.ref a,.int 0 0,.int k.length 0,.int n 0,.none,.none] }).get? b=Y o:=λb o e=>ao _<|ao _ e
 have w:m.heap.objs.size<=(m.heap.push { cls :=.type "dict_items",data :=.fields #[.ref a] }).objs.size:=by simp_all
 refine(_,[_],_,_,K,W,j.kept D,HD a _ p n,(.none,.none,?_),λb S =>?_,q)
 .rw[C.length];exact bo _ W
 .let z:b=(m.heap.push { cls :=.type "dict_items",data :=.fields #[.ref a] }).objs.size:=by simp_all
  subst z;exact j.zY w<|j.dS.fresh w
def kD:hW->D
 |.inl i =>.int i|.inr x =>.str x
def YX{K:aS}:cM K G (kD k)<|kV k:=by cases k;exact bY.mpr W;exact Ÿ
end
section
variable {K:aS}{f:!Nat}
theorem bQ.Zi{s:Sk}{t X:D}{j:!hW}{c:!D}{i:Nat}{v:V}{S:!aD}(h:bQ K G H s t v S)(es:jG p s=Y (.dt u))(ep:gZ p t=Y (.fM j c))(r:c[i]?=Y X):∃a d N w T U,dm H p v=Y (.ref a)/\H a=Y (.dK (j.zip d) N)/\j.length=c.length/\d.length=c.length/\d[i]?=Y w/\bQ K G H u X w T/\S.Perm (T++U)/\a∈U /\
  ∀J I g f,bD G J->(∀b∈U,∀o,H b=Y o->I b=Y o)->bQ K J I u g w f->dm I p v=Y (.ref a)/\∃y,bQ K J I s (gX (.fM j<|c.set i g) p t) v y/\y.Perm (f++U):=by
 let(v',T1,U,e1,mz,z,k1):=h.focus es ep;cases mz with
 |@dt _ _ _ a d S1 N e l t=>
  have hm:=(aq.mp r).1;have A:(aH c.length u)[i]?=Y u:=by simp[hm]
  let(w,T,n,x,o,E,Q):=t.at A r;have P:(a::S1++U).Perm<|T++(a::n++U):=by
   have:=(E.cons a).append_right U;refine this.trans ?_;have:=by simpa using bV [a] T (n++U)
   simpa using this
  refine(a,d,N,w,T,_,e1,e,l,t.length.1.symm,x,o,z.trans P,ż,λJ I g f q k F =>?_);have O:=k a ż _ e;let(S2,R,C):=Q J I u g w f q (λb m=>k b<|by simp[m]) F;rw[de x]at R;let(gv,S3,L,B):=k1 J I (.fM j<|c.set i g) (a::S2) q (λb m=>k b<|by simp[m])<|.dt O (by simp[l]) Ż;refine(gv,S3,L,B.trans ?_);refine((C.cons a).append_right U).trans ?_;have:=by simpa using bV [a] f (n++U)
  simpa using this
def SR.acS{s:Sk}{t':D->D}{F:Nat->!aD}(S:SR K B l G H J p)(wz:jT K B l G H J p F)(X:r∈l)(hd:p[r]?=Y (Y<|.obj s t))(e1:J[r]?=Y (Y<|.ref a))(C:bQ K G H s t (.ref a)<|F r)(v:(F r).Perm<|i++U)(k1:∀N L g f,bD G N->(∀b∈U,∀o,H b=Y o->L b=Y o)->bQ K N L u g x f->∃T,bQ K N L s (t' g) (.ref a) T/\T.Perm (f++U))(g:D)(f:!aD)(N L:Hp)(E:f_ G (dg H i) N L)(nw:bQ K N L u g x f)(mz:f.Nodup)(j:∀b∈f,N b=M/\(b∈i\/H b=M)):SR K B l N L J ((bP r p).set r<|Y<|.obj s<|t' g)/\∃F',jT K B l N L J ((bP r p).set r<|Y<|.obj s<|t' g) F' /\
    (∀k b,b∈F' k->b∈F k\/H b=M)/\∀q,q∉f->(q∈i\/H q=M)->∀k d,k∈l->p[k]?=Y (Y d)->q∉F' k:=by
 let(nd,nf):=wz.ok r _ X hd;let k:=v.nodup_iff.mp nd;rw[b8]at k;let(n1,n2,n3):=k;have h:∀b∈i,b∈F r:=λb d=>v.symm.subset<|br _ d
 have n:∀b∈U,b∈F r:=λb d=>v.symm.subset<|aG _ d
 let R:=λb d Q=>n3 b Q b d W
 let(T,o3,O):=k1 N L g f E.gg (λb d o e=>E.hh b o<|by rw[bC<|R b d];exact e) nw;have w:∀b∈T,b∈F r\/H b=none:=λb d=>by
  obtain q|q:=aX.mp<|O.subset d
  .exact(j b q).2.imp (h b) id
  .exact .inl<|n b q
 have A:=S.As wz W X hd e1 (λb o e =>?_,E.gg,E.gh,λb o e =>?_) o3 ?_ λb d =>?_
 .refine(A.1,_,A.2,λk b m =>?_,λq nq fq k d hk ek m =>?_)
  .by_cases z:k=r
   .subst z;rw[if_pos W]at m;exact w b m
   .rw[if_neg z]at m;exact .inl m
  .by_cases y:k=r
   .subst y;rw[if_pos W]at m;obtain z|z:=aX.mp (O.subset m)
    .exact nq z
    .obtain y|y:=fq
     .exact R q z y
     .let(o,P,_):=C.here q<|n q z;rw[P]at y;cases y
   .rw[if_neg y]at m;obtain I|I:=fq
    .exact wz.ap r k _ d X hk hd ek (bz y) q (h q I) m
    .let(_,_,b):=wz.it k d hk ek;let(o,P):=b.here q m;rw[P]at I;cases I
 .by_cases d:b∈F r
  .rw[dW d]at e;cases e
  .rw[bC d]at e;exact E.hh b o (by rw[bC<|λz=>d<|h b z];exact e)
 .obtain z|z:=E.fr b o e
  .exact .inl z
  .refine .inr ?_;by_cases d:b∈F r
   .rw[dW d]
   .rw[bC d];rw[bC<|λz=>d<|h b z]at z;exact z
 .rw[O.nodup_iff,b8];refine(mz,n2,λb d c hc z =>?_);subst z;rcases(j b d).2 with z|z
  .simp_all
  .let(o,P,_):=C.here b (n b hc)
   simp_all
 .obtain q|q:=aX.mp (O.subset d)
  .simp_all
  .refine(?_,.inl<|n b q);rcases z:N b with _|o
   .rfl
   obtain y|y:=E.fr b o z
   .simp_all
   .let(o,P,_):=C.here b (n b q)
    simp_all [bC]
end
def Sa(c m:aM)(F:!D->↑(!D×D))(a:!D):!hW->!D->↑(!D×!D)
 |k::e,.ins b d i::f=>if b=c/\m∉d then (F<|.ins b d i::a).bind λr=>(Sa c m F a e f).map λq=>(.tup [kD k,.lst r.1]::q.1,r.2::q.2) else M
 |[],[]=>Y ([],[])|_,_=>M
def v_(c f e m:aM)(h:!(aM×Sk))(F:!D->↑(!D×D))(j i:Nat):DM:=λa=>(rT c f j a).bind λq=>(eV i a).bind λg=>match q.2.2.2 with
 |.fM b d=>if Sk.K8 (cZ q.1 f) (.dt<|.fs e h)=Z'/\d.length<=dZ/\a.length<1000 then (Sa e m F [g] b d).map λr=>(.lst r.1,(bP j a).set j<|Y<|zb c f q.1 q.2.1 q.2.2.1<|.fM b r.2) else M
 |_=>M
section
variable {K:aS}
inductive ItI (K:aS) (B:Bs) (Z:!Nat) (J:St) (A:!D->cf) (c1 m:aM) (F:!D->↑(!D×D)) (sg:D) (v0:V) (x0:aD) (f:aM) (a:aD) (ks:!hW) (vs:!V) (N:Nat) (G0:Hp) (Rs Ds:!D) (i:Nat) (ys:!V) (H:Hp):Prop
 |mk G F1 Sy rs xs r' d':SR K B Z G H J (A xs)->jT K B Z G H J (A xs) F1->bD G0 G->dm H [.fld f] (.ref a)=some (.ref x0)->H x0=some (.dK (ks.zip vs) N)->cM K G sg v0->xs.length=ks.length->dy K G H (aH rs.length<|.pr<|.li .lf) rs ys Sy->Sy.Nodup->(∀b∈Sy,G b=none/\B.2 b=none/\∀k d,k∈Z->(A xs)[k]?=some (some d)->b∉F1 k)->Sa c1 m F [sg] (ks.drop i) (xs.drop i)=some (r',d')->rs++r'=Rs->xs.take i++d'=Ds->ys.length<=i->ItI K B Z J A c1 m F sg v0 x0 f a ks vs N G0 Rs Ds i ys H
theorem wb:∀ {b:!D}{a:!V},bB K G b a->dy K G H (aH b.length .lf) b a []
 |[],a,r=>by rw[cF.mp r];exact .nil
 |d::b,a,r=>by let(v,w,e,p,t):=bt.mp r;subst e;exact .cons (.leaf p)<|wb t
def Az{f c e S}(x:dy K G H f c e S):∀b∈S,∃o,H b=Y o:=by
 induction c generalizing f e S with
 |nil=>cases x;exact nofun
 | cons d c ih=>cases x with
  |cons a t=>
   intro b g;obtain z|z:=aX.mp g
   .obtain⟨o,h,_⟩:=a.here b z;simp_all
   .exact ih t b z
def AZ{l:!D}(h:i<l.length):(l.set i g).take (i+1)=l.take i++[g]:=by
 simp_all [List.take_succ_eq_append_getElem,List.take_set_of_le]
set_option tactic.hygienic true
def Qp{c f c1 m:aM}{k1:!(aM×Sk)}{F:!D->↑(!D×D)}{j js:Nat}{C1:aD}(hj:j∈Z)(hs:js∉Z)(n1:jf K aW c1=Y (Y<|.ref C1))(hc:pP K c f)(h:tMT K B Z (.li<|.pr<|.li .lf) (v_ c f c1 m k1 F j js) σ H Q):
  V5 (WA Itm<|aaY K (eS j) f) [M,M,Y js] (DW K 2<|jP (g_ 0)<|jP (g_ 1) DY) OA (Xr<|nt (eS 0)<|nt (wQ C1 m (qK K (.fs c1 k1) F) [] E0 (eS 1)<|nt (eS 2) xy) xy) σ H Q:=by
 refine ah λkk =>?_
 let(G,ρ,d,a',S,e,q):=h;unfold v_ at e;obtain⟨⟨fk,YO,Vi,t1⟩,et,e⟩:=ae.1 e;let(sg,esg,e):=ae.1 e;split at e
 .rename_i ks ds ht;simp only at ht;subst ht;split at e
  .rename_i hz;obtain⟨⟨Rs,Ds⟩,ei,e⟩:=aj.1 e;cases e;let(hd,I,i2):=kH et;rw[Sk.kL hz.1]at I;let(a,x,T1,e1,e2,o1,_):=S.uh hj hd I i2;let(C,dx,fs,nn,f1,f2):=S.Gu hj hd e1 e2;cases o1 with
   |@dt _ _ _ x0 vs S1 N ex l tt=>
    let(v0,hv0,rv0):=S.env js sg hs<|gS esg;have hix:∃n0,EF f YO=Y n0/\Vi[n0]?=Y (.fM ks ds):=by let(n0,h1,h2):=ae.1 i2;let(d0,h3,h4):=ae.1 h2;cases h4;exact(n0,h1,h3)
    let(n0,hn0,hd0):=hix;have Teq:∀xs,gX (.fM ks xs) [.fld f] (.ins c YO Vi)=.ins c YO (Vi.set n0<|.fM ks xs):=λxs=>by simp[gX,hn0,hd0]
    have n0l:n0<Vi.length:=(aq.mp hd0).1;obtain⟨T,Tx⟩:∃T:!D->D,∀xs,T xs=.ins c YO (Vi.set n0 (.fM ks xs)):=(_,λ_=>rfl);have Tg:∀xs,gZ [.fld f] (T xs)=Y (.fM ks xs):=λxs=>by rw[Tx];simp[gZ,hn0,n0l]
    have Ts:∀xs ys,gX (.fM ks ys) [.fld f] (T xs)=T ys:=λxs ys=>by rw[Tx,Tx];simp[gX,hn0,n0l,ke]
    have T0:T ds=.ins c YO Vi:=by rw[Tx,de hd0]
    have hu:=fY (r:=j) hd λq z=>by cases z
    have hl:j<(bP j ρ).length:=(aq.mp hu).1;obtain⟨A,Ax⟩:∃A:!D->cf,∀xs,A xs=(bP j ρ).set j (Y (.obj (.fs c fk) (T xs))):=(_,λ_=>rfl);have A0:A ds=bP j ρ:=by rw[Ax,T0];exact rj hu
    have Aj:∀xs,(A xs)[j]?=Y (Y<|.obj (.fs c fk)<|T xs):=λxs=>by rw[Ax,bG hl]
    have An:∀xs ys (k:Nat) (d:D),(A ys)[k]?=Y (Y d)->∃d',(A xs)[k]?=Y (Y d'):=λxs ys k d e=>by
     by_cases z:j=k
     .subst z;exact(_,Aj xs)
     .rw[Ax,aw z]at e;exact(d,by rw[Ax,aw z];exact e)
    have Au:∀xs ys,(bP j<|A xs).set j (Y<|.obj (.fs c fk)<|T ys)=A ys:=λxs ys=>by rw[Ax,BD,ke,<- Ax]
    refine kk (_,e1,a,C,dx,fs,_,W,f1,(hc C nn).1,(hc C nn).2,f2,x0,_,N,W,ex,?_);refine(λi mm ys H1=>mm=ds.length-i/\i<=ds.length/\ItI K B Z σ A c1 m F sg v0 x0 f a ks vs N G Rs Ds i ys H1,(ds.length,W,dr _,?_),?_)
    .obtain⟨F0,W0⟩:=S.ow;exact(G,F0,[],[],ds,Rs,Ds,by rw[A0];exact S.yN,by rw[A0];exact(λi d g e=>W0.it i d g (bE e).1,λi d g e=>W0.ok i d g (bE e).1,λi j d c g C I L=>W0.ap i j d c g C (bE I).1 (bE L).1),bD.refl _,e2,ex,rv0,l.symm,.nil,.nil,nofun,ei,W,ż,aV _)
    refine λi mm ys H1 J0=>ah λkk =>?_
    let(rfl,hil,G1,F1,Sy,rs,xs,r',d',R,J,g01,gv,hx,rv,lx,oy,ny,fy,it,er,ed,ly):=J0;have vl:vs.length=ds.length:=tt.length.1.symm;by_cases n:i<ds.length
    .have hk:i<ks.length:=Ż
     have hxs:i<xs.length:=Ż
     have hq0:(ks.zip vs)[i]?=Y (ks[i],vs[i]' Ż):=by rw[ie];exact(aE _,aE _)
     refine kk<|.inr ((hx,_,hq0),?_,_,λys' H' z=>(ds.length-(i+1),by clear kk;grind,W,n,z),λx H3 y=>ah λkk =>?_)
     .have:=dY;have:=hz.2.1
      lia
     let(qk,p,hq,hp,rfl,eH):=y;have E3:f_ G1 H1 G1 H3:=eH ▸ f_.lay R.gh hp;have ht3:H3 p=Y (.tup [kV qk.1,qk.2]):=eH ▸ aP;have R3:=R.ext E3;have W3:=J.ext E3;have hx3:=E3.hh _ _ hx;have gv3:=fZ E3.hh gv;let(a2,ea2,OC):=W3.it j _ hj<|Aj xs;rw[e1]at ea2;cases ea2;let(x1,Xa,N1,w,T2,U2,q1,q2,q3,q4,q5,q6,q7,q8,q9):=bQ.Zi (t:=T xs) (i:=i) OC I (Tg xs) (aE hxs);rw[gv3]at q1;cases q1;rw[hx3]at q2;have hz2:ks.zip Xa=ks.zip vs:=by injection q2 with q2;injection q2 with q2 _;exact q2.symm
     have hw:qk=(ks[i],w):=by
      have:(ks.zip Xa)[i]?=Y (ks[i],w):=by rw[ie];exact(aE _,q5)
      rw[hz2,hq]at this;exact cu this
     subst hw;simp only at ht3 ⊢;rw[cU hxs,cU hk]at it;cases hxi:xs[i] with
     |ins c' aa ii=>
      rw[hxi]at it q6;unfold Sa at it;split at it
      .rename_i hcm;let(rfl,hm):=hcm;obtain⟨⟨r1,g1⟩,eF,it⟩:=ae.1 it;obtain⟨⟨r2,d2⟩,it3,it⟩:=aj.1 it;cases it;have ndF:=(W3.ok j _ hj<|Aj xs).1;have okF:=(W3.ok j _ hj<|Aj xs).2;have nd3:=q7.nodup_iff.mp ndF;rw[b8]at nd3;have T2F:∀b∈T2,b∈F1 j:=λb hb=>q7.symm.subset (br _ hb)
       have x0T:x0∉T2:=λhb=>nd3.2.2 x0 hb x0 q8 W
       have ai4:=q9;cases q6 with
       |@ins _ _ _ _ xr C' P ws S0 n' exx ll ttt=>
        rw[n1]at n';cases n';have hσ2:(((mB [M,M,Y js] σ).set 0<|Y<|kV ks[i]).set 1<|Y<|V.ref xr)[2]?=Y (Y v0):=by simp[mB,hv0]
        refine kk (p,_,W,.of ht3,W,_,_,W,_,_,W,W,?_);simp only[OA,if_true];refine(_,W,_,W,xr,P,_,W,exx,fh (K:=K) (G:=G1) hm,v0,hσ2,?_);refine(G1,_,[sg],r1,g1,xr,_,[v0],R3.gh,W,.ins n1 exx ll ttt,nd3.1,λb hb=>(okF b<|T2F b hb).1,.cons rv .nil,eF,λq' wl T' G4 H4 E nw nd nf gq fq nq hq' rq=>(by show 2<=be;decide,λpt hpt=>ah λkk =>?_));let(SR4,F4,W4,sub,out):=R3.acS (t':=λg=>T<|xs.set i g) W3 hj (Aj xs) e1 OC q7 (λN L g f gg kk og=>by let(_,S',o,p):=q9 N L g f gg kk og;rw[Ts]at o;exact(S',o,p)) g1 T' G4 H4 E nw nd nf
        rw[Au]at SR4 W4;let(gv4,_):=q9 G4 H4 g1 T' E.gg (λb hb o e=>E.hh b o<|by rw[bC λz=>nd3.2.2 b z b hb W];exact e) nw;obtain⟨G5,E5,hp5,Gpt⟩:∃G5,f_ G4 H4 G5 (cO H4 pt (.tup [kV ks[i],.ref q']))/\G5 pt=Y (.tup [kV ks[i],.ref q'])/\∀b,b≠pt->G5 b=G4 b:=(_,f_.alloc SR4.gh hpt,aP,λb z=>aI z);have hq5:=E5.hh _ _ hq';have qpt:q'≠pt:=λz=>by rw[z,hpt]at hq';cases hq'
        have Sk:∀b∈Sy,∃o,H1 b=Y o:=λb hb=>by let(o,h):=Az oy b hb;exact(o,h)
        have ST:∀b∈Sy,b∉xr::S0:=λb hb z=>(fy b hb).2.2 j _ hj (Aj xs)<|T2F b z
        have Wv:∀b∈Sy,∀o,H1 b=Y o->H4 b=Y o:=λb hb o e=>E.hh b o (by rw[bC<|ST b hb];exact E3.hh b o e)
        have ek:∀k d,(A<|xs.set i g1)[k]?=Y (Y d)->∃d',(A xs)[k]?=Y (Y d'):=λk d=>An xs _ k d
        refine kk (G5,F4,Sy++[q'],rs++[.tup [kD ks[i],.lst r1]],xs.set i g1,r2,d2,SR4.ext E5,W4.ext E5,(g01.trans E3.gg).trans<|E.gg.trans E5.gg,fZ E5.hh gv4,E5.hh _ _<|E.hh _ _ (by rw[bC x0T];exact hx3),cM.mono (E.gg.trans E5.gg) _ rv,by simp[lx],?_,?_,?_,?_,by simpa using er,?_,by simp;omega)
        .refine dy.snoc (.pr hp5 (cM.mono (E.gg.trans E5.gg) _<|YX (K:=K) (G:=G1)) (.lst hq5<|wb<|bB.mono E5.gg _ rq)) ?_;exact oy.mono (E.gg.trans E5.gg) λb hb o e=>E5.hh b o<|Wv b hb o e
        .refine b8.mpr (ny,ż,λb hb c hc z =>?_);simp at hc;subst hc;subst z;obtain y|y:=fq
         .exact ST _ hb y
         .obtain⟨o,ho⟩:=Sk _ hb;rw[E3.hh _ _ ho]at y;cases y
        .intro b hb;obtain hb|hb:=aX.mp hb
         .obtain⟨o,ho⟩:=Sk b hb;have h4:=Wv b hb o ho;have bpt:b≠pt:=λz=>by rw[z,hpt]at h4;cases h4
          refine(?_,(fy b hb).2.1,λk d hk e z =>?_)
          .rw[Gpt b bpt];rcases y:G4 b with _|u
           .rfl
           obtain y|y:=E.fr b u y
           .rw[(fy b hb).1]at y;cases y
           .rw[bC<|ST b hb,E3.hh _ _ ho]at y;cases y
          .obtain⟨d',e⟩:=ek k d e;obtain y|y:=sub k b z
           .exact(fy b hb).2.2 k d' hk e y
           .rw[E3.hh _ _ ho]at y;cases y
         .simp at hb;subst hb;refine(by rw[Gpt _ qpt];exact gq,?_,λk d hk e =>?_)
          .obtain y|y:=fq
           .exact(okF _<|T2F _ y).2
           .exact R3.h0.free y
          .obtain⟨d',e⟩:=ek k d e;exact out _ nq fq k d' hk e
        .rw[List.drop_set_of_lt<|by omega];exact it3
        .rw[AZ hxs];simpa using ed
      .cases it
     |_=>rw[hxi]at it;simp[Sa]at it
    .have hi:i=ds.length:=Ž
     subst hi;rw[ma (by simp_all),ma<|by simp_all]at it;simp[Sa]at it;let(rfl,rfl):=it;simp at er;subst er;rw[VN<|by omega]at ed;simp at ed;subst ed;refine kk<|.inl ((hx,by clear kk;rw[oZ];simp_all),λDd hD =>?_);have E:=f_.lay (p:=Dd) (o :=.lst ys) R.gh hD;have X:=(R.ext E).V8 (q:=Dd) (c :=.obj (.li<|.pr<|.li .lf)<|.lst rs) (S':=Dd::Sy) (J.ext E) (by rw[Ax];simpa [bP] using hz.2.2) (λb hb =>?_) (λk d hk e b hb z =>?_) (.lst aP<|oy.mono (bD.refl _) λb hb o e=>E.hh b o e) ?_ λr p z=>by cases z
     .rw[Ax]at X;have X':=X;rw[Tx,<- Teq]at X';exact q Dd _ _ X'
     .obtain rfl|hb:=aT.mp hb
      .exact(R.gh.free hD,R.h0.free hD)
      .exact((fy b hb).1,(fy b hb).2.1)
     .obtain rfl|hb:=aT.mp hb
      .obtain⟨_,_,I⟩:=J.it k d hk e;let(o,ho):=I.here b z;rw[hD]at ho;cases ho
      .exact(fy b hb).2.2 k d hk e z
     .refine kY.mpr (λz =>?_,ny);let(o,ho):=Az oy _ z;rw[hD]at ho;cases ho
  .cases e
 .cases e
end
section
variable {X:Cx}
def Nj{c f m:aM}{F:!D->↑(!D×D)}{v:Nat}{i g mz K:Pos}(h:dQ X.prog X.w X.K X.mg X.base e m k<|qK X.K (.fs e t) F)(hr:dn k X.A)(T:pP X.K c f)(S:d6 X [d,a,n] [M,M,Y v] A)(z:X.calm=Z')(r:PE X (.Name y p)<|eS j)(N:∀C s H b,PG (X.qr [d,a,n] A C s H b) (.Tuple [.Name d u,.Name a mz] U g) (DW X.K 2<|jP (g_ 0)<|jP (g_ 1) DY)/\PE (X.qr [d,a,n] A C s H b) (.Tuple [.Name d L,.Call (.Attribute (.Name a K) m J) [.Name n I] [] G] O E) (Xr<|nt (eS 0)<|nt (wQ C1 m (qK X.K (.fs e t) F) [] E0 (eS 1)<|nt (eS 2) xy) xy))(hC:jf X.K aW e=Y (Y<|.ref C1))(w:‹j∈Z›)(P:‹v∉Z›)(o:@&(bJ (.Name y p) f X.env (eval (.Name y p) X.env)=eval (.Name y p) X.env))(b:@&(bJ (.Attribute (.Name y p) f l) "items" X.env (eval (.Attribute (.Name y p) f l) X.env)=eval (.Attribute (.Name y p) f l) X.env))(R:@&((i.endLine==q.line)=true))(cc:autoParam (∀x,bW (.Call (.Attribute (.Attribute (.Name y p) f l) "items" i) [] [] q) X.env x=c9 x) ũ):
  PE X (.ListComp (.Tuple [.Name d L,.Call (.Attribute (.Name a K) m J) [.Name n I] [] G] O E) [(.Tuple [.Name d u,.Name a mz] U g,.Call (.Attribute (.Attribute (.Name y p) f l) "items" i) [] [] q,[],0)] A zz) (tMT X.K B Z (.li<|.pr<|.li .lf)<|v_ c f e m t F j v):=
 (FO S z (Pc (nO r o) b R) (ZY X.K 0 1) λi h=>by simp at h;obtain rfl|rfl:=h<;>rfl (λC s H b=>((N C s H b).1,J3,(N C s H b).2)) cc).imp λσ H Q q=>Qp w P hC T q
end
abbrev o8:Sk :=.li<|.pr<|.li .lf
section
variable {K:aS}
def SR.Ek(S:SR K B b G H C A)(g:i∉b):SR K B b G H C<|A.set i M:=by
 refine(S.gh,S.g0,S.h0,S.fr,λk c a e=>S.env k c a (cP e).2,?_,by simp[S.len],S.pin,λk r p y x e =>?_)
 .let(F,J):=S.ow;exact(F,λi d a e=>J.it i d a (cP e).2,λi d a e=>J.ok i d a (cP e).2,λi j d c a o Q P=>J.ap i j d c a o (cP Q).2 (cP P).2)
 .let(I,O,n,k,l,w,h,f,C):=S.dP k r p y x (cP e).2;exact(I,O,n,k,l,w,h,by rw[aw<|by omega];exact f,C)
theorem bQ.TH{T:!aD}{g y:!D}{v:V}(h:bQ K G H o8 (.lst g) (.ref a) T)(nd:T.Nodup)(N:g[k]?=Y (.tup [d,.lst y]))(r:cM K G x v):
  ∃f t m b j,H a=Y (.lst f)/\f.length=g.length/\f[k]?=Y (.ref t)/\G t=Y (.tup [m,.ref b])/\b∈T/\b≠a/\H b=Y (.lst j)/\y.length=j.length/\cM K G d m /\
   ∃E,bQ K G (cO H b<|.lst<|j++[v]) o8 (.lst<|g.set k<|.tup [d,.lst<|y++[x]]) (.ref a) E/\E.Nodup/\∀c∈E,c∈T:=by
 cases h with
 |@lst _ _ _ f S e t=>
  have hl:=(aq.mp N).1;have A:(aH g.length<|Sk.pr<|.li .lf)[k]?=Y (.pr<|.li .lf):=by simp[hl]
  let(w,T1,U1,Q,o1,p,k1):=t.at A N;cases o1 with
  |@pr _ _ _ U m w0 S1 R J X=>
   cases X with
   |@lst _ _ b j S2 e2 I=>
    have l:=nd;rw[kY,p.nodup_iff,b8]at l;let(mz,n1,n2,n3):=l;have O:b∈S:=p.symm.subset ż;have C:b≠a:=λz=>mz<|z ▸ O
    have P:∀c∈U1,c≠b:=λc i z=>n3 b ż c i z.symm
    have hS2:=by
     have:∀ {n g f S},dy K G H (aH n .lf) g f S->S=[]:=fun {n}=>by
      induction n with
      |zero=>intro g f S x;cases x;rfl
      |succ n ih=>intro g f S x;cases x with|cons u w=>cases u;rw[ih w];rfl
     exact this I
    have F:=by
     have:∀ {n g f S},dy K G H (aH n .lf) g f S->bB K G g f:=fun {n}=>by
      induction n with
      |zero=>intro g f S x;cases x;exact .nil
      |succ n ih=>intro g f S x;cases x with|cons u w=>cases u with|leaf q=>exact .cons q<|ih w
     exact this I
    let(S',L,s):=k1 G (cO H b<|.lst<|j++[v]) (.pr<|.li .lf) _ _ [b] (bD.refl _) (λc i o e=>by rw[aI<|P c i];exact e)<|.pr R J<|.lst aP<|wb<|F.append<|.cons r .nil;rw[de A,de Q]at L;refine(f,U,m,b,j,e,t.length.1.symm,Q,R,ax _ O,C,e2,F.length,J,a::S',?_,?_,λc i =>?_)
    .exact .lst (by rw[aI<|bz C];exact e) (by simpa using L)
    .refine kY.mpr (λz =>?_,?_)
     .obtain z|z:=aX.mp (s.subset z)
      .simp at z;exact C z.symm
      .exact mz<|p.symm.subset<|aG _ z
     .rw[s.nodup_iff];exact b8.mpr (ż,n2,λc i c' B z=>by simp at i;subst i;exact P c' B z.symm)
    .obtain z|z:=aT.mp i
     .exact z ▸ ay
     .refine ax _<|p.symm.subset ?_;obtain z|z:=aX.mp (s.subset z)
      .simp at z;subst z;simp
      .exact aG _ z
end
def Ew(n:Int):!D->↑(!D)
 |.tup [d,.lst a]::b=>if a.length<dZ then (Ew n b).map λq =>.tup [d,.lst<|a++[.int n]]::q else M
 |[]=>Y []|_=>M
def yi(r c b:Nat)(n:Int):DG:=λa=>(gr o8 r a).bind λt=>match t with
 |.lst d=>if b<a.length then (Ew n d).map λq =>.nx<|(((bP r a).set c M).set b M).set r<|Y<|.obj o8<|.lst q else M
 |_=>M
set_option tactic.hygienic true
theorem xm:∀ {b q:!D},Ew n b=Y q->q.length=b.length
 |[],q,h=>by cases h;rfl
 | d::b,q,h=>by
  unfold Ew at h;split at h
  .rename_i a;cases a;split at h
   .obtain⟨f,e,c⟩:=aj.1 h;cases c;simp[xm e]
   .cases h
  .trivial
  .cases h
theorem LA:∀ {b q:!D}{i:Nat},Ew n b=Y q->i<b.length->∃d a,b[i]?=Y (.tup [d,.lst a])/\a.length<dZ/\q[i]?=Y (.tup [d,.lst<|a++[.int n]])
 |[],q,i,h,l=>by simp at l
 | d::b,q,i,h,l=>by
  unfold Ew at h;split at h
  .rename_i k a j c;cases c;split at h
   .rename_i e;let(m,g,f):=aj.1 h;cases f;cases i with
    |zero=>exact(k,a,W,e,W)|succ i=>simpa using LA g Ż
   .cases h
  .trivial
  .cases h
set_option tactic.hygienic false
def Hy{f:Nat}{s:Sk}:(bP r<|(((bP r l).set f M).set c M).set r<|Y<|.obj s t).set r (Y<|.obj s g)=(((bP r l).set f M).set c M).set r (Y<|.obj s g):=by
 apply rR;intro i;by_cases h:r=i
 .subst h;by_cases b:r<l.length
  .rw[bG (by simpa [bP] using b),bG<|by simpa [bP] using b]
  .rw[fH (by simp[bP];simp_all),fH<|by simp[bP];omega]
 .rw[aw h,aw h];unfold bP;rw[aY,aw h];by_cases j:c=i
  .subst j;by_cases b:c<l.length<;>simp[b]
  .rw[aw j];by_cases k:f=i
   .subst k;by_cases b:f<l.length<;>simp[b]
   .rw[aw k,aY];rcases e:l[i]? with _|o
    .rfl
    obtain _|d:=o
    .rfl
    cases d with|dP q p=>by_cases a:q=r<;>simp[a]|_=>rfl
section
variable {X:Cx}
set_option tactic.hygienic true in
def Nh{r ia ib:Nat}{n:Int}{x na nb:aM}{U p6:Nat}{l g u u2 p3 p4 p5 p7 p8 p9:Pos}(hp:pT (aZ X.prog X.w) X.A X.env X.xe)(hc:X.calm=Z')(h:PE X (.Name x l)<|eS r)(hg:PG X (.Tuple [.Name na u,.Name nb u2] U g)<|DW X.K 2<|jP (g_ ia)<|jP (g_ ib) DY)(hb:PE X (.Name nb p3)<|eS ib)(hr:‹r∈Z›)(ha:‹ia∉Z›)(hbn:‹ib∉Z›)(hab:‹ia≠ib›)
  (s:@&(bJ (.Name nb p3) "append" X.env (eval (.Name nb p3) X.env)=eval (.Name nb p3) X.env)) (uu:@&(((b9 p5<|ak (.Constant (.int n) p6 p7::[]) X.env).all (λx=> (not x.1))&&(ey p5<|cD [] X.env).all (λx=>x.1.isSome)
   && decide ((.Constant (.int n) p6 p7::[]:!Expr).length+([]:!gJ).length+(if ([]:!gJ).isEmpty then 0 else 1)<30))=true)) (q:@&((p4.endLine==p5.line)=true)) (hs:@&(ak (.Constant (.int n) p6 p7::[]) X.env=(Z_,eval (.Constant (.int n) p6 p7) X.env)::ak [] X.env)) (m:@&((b9 p5<|ak [] X.env).any (·.1)=false)) (hsw:@&(cm (.Call (.Attribute (.Name nb p3) "append" p4) [.Constant (.int n) p6 p7] [] p5) M p8.line X.env=c9 false)) (cc:autoParam (∀z,bW (.Name x l) X.env z=c9 z) ũ) :
  PS X (.For (.Tuple [.Name na u,.Name nb u2] U g) (.Name x l) [.Expr (.Call (.Attribute (.Name nb p3) "append" p4) [.Constant (.int n) p6 p7] [] p5) p8] [] p9) (gO X.K B I Z Z<|yi r ia ib n):=
 (X7 hp hc (Ka h) hg (ji<|lV (uI fX PySem.F.slot_list_append PySem.F.type_list_append jM hb (bZ Pk dw hs) s uu q hs m) hsw) cc).imp <|by
  rintro D' σ H ⟨G,ρ,o,S,e,k⟩;let(t,et,e):=ae.1 e;split at e
  .rename_i ds;by_cases hib:ib<ρ.length
   case neg=>rw[if_neg hib]at e;cases e
   rw[if_pos hib]at e;let(qs,ea,e):=aj.1 e;cases e;have hd:=bX et;let(a,T,e1,o1,_):=S.tree hr hd;have ql:=xm ea;have rn:∀ {i},i∉Z->r≠i:=λh z=>h<|z ▸ hr
   generalize hA:(λxs:!D=>(((bP r ρ).set ia M).set ib M).set r<|Y<|D.obj o8<|.lst xs)=A at *
   have Ax:∀xs,A xs=(((bP r ρ).set ia M).set ib M).set r (Y<|.obj o8<|.lst xs):=λxs=>by rw[<- hA]
   have hu:=fY (r:=r) hd λq z=>by cases z
   have WC:(((bP r ρ).set ia M).set ib M)[r]?=Y (Y<|.obj o8<|.lst ds):=by rw[aw<|bz<|rn hbn,aw<|bz<|rn ha];exact hu
   have hl:r<(((bP r ρ).set ia M).set ib M).length:=(aq.mp WC).1;have Ar:∀xs,(A xs)[r]?=Y (Y<|.obj o8<|.lst xs):=λxs=>by rw[Ax,bG hl]
   cases o1 with
   |@lst _ _ _ vs S1 ex tt=>
    refine(_,e1,a,W,(vs,.of ex),QK (xs:=vs) (λi σ H=>∃G xs,SR X.K B Z G H σ (A xs)/\xs.length=ds.length/\H a=Y (.lst vs)/\σ[r]?=Y (Y<|.ref a)/\(∀k,k<i->xs[k]?=qs[k]?)/\∀k,i<=k->xs[k]?=ds[k]?) ?_ (λi σ H _ (_,_,_,_,h,_) =>.of h) ?_ ?_)
    .refine(G,ds,?_,W,ex,e1,λk h=>absurd h<|Nat.not_lt_zero _,λk c=>rfl);have:=((S.yN (r:=r)).Ek ha).Ek hbn;rw[Ax,rj WC];exact this
    .rintro i x σ1 H1 hx ⟨G1,xs,R,xl,hv,er,pre,post⟩;have vl:vs.length=ds.length:=tt.length.1.symm;have hi:i<ds.length:=by rw[<- vl];exact(aq.mp hx).1
     let(d,ns,h1,h2,h3):=LA ea hi;have hxi:xs[i]?=Y (.tup [d,.lst ns]):=by rw[post i<|aV _];exact h1
     let(a2,x2,f2,q1,q2,q3,q4,q5):=R.uh (p:=[]) hr (Ar xs) W W;rw[er]at q1;cases q1;cases q2;let(vs2,t2,v0,b,ws,g1,g2,g3,g4,g5,g6,g7,g8,g9,T',g10,g11,g12):=q3.TH q4 hxi (bY.mpr W:cM X.K G1 (.int n)<|.int n);rw[hv]at g1;cases g1;rw[hx]at g3;cases g3;refine(t2,_,W,.of<|R.gh _ _ g4,W,v0,_,W,.ref b,_,W,W,?_);have len:σ1.length=(A xs).length:=R.len;have lA:(A xs).length=(bP r ρ).length:=by rw[Ax];simp
     by_cases lib:ib<σ1.length
     .refine(_,bG (by simpa using lib),.inl (W,ws,.of g7),b,ws,_,W,W,g7,by rw[<- g8];exact bp h2 dY,?_);have C:=q5 b (.lst<|ws++[.int n]) _ T' g5 g10 g11 g12;have e9:(bP r<|A xs).set r (Y<|.obj o8<|gX (.lst<|xs.set i<|.tup [d,.lst<|ns++[.int n]]) []<|.lst xs)=A (xs.set i<|.tup [d,.lst<|ns++[.int n]]):=by rw[Ax,Hy,Ax];rfl
      rw[e9]at C;have Z1:=(C.uy (i:=ia) ha (d:=d) g9).Ek ha;have Z2:=(Z1.uy (i:=ib) hbn (d :=.dP 0 []) (v :=.ref b) (uD.mpr (b,W))).Ek hbn;have e10:(((((A<|xs.set i<|.tup [d,.lst<|ns++[.int n]]).set ia<|Y d).set ia M).set ib<|Y<|.dP 0 []).set ib M)=A (xs.set i<|.tup [d,.lst<|ns++[.int n]]):=by
       rw[ke,ke,Ax];have h1:∀l:cf,((l.set ia M).set ib M).set ia M=(l.set ia M).set ib none:=λl=>by rw[R6 (i:=ib) _ _ (bz hab),ke]
       rw[R6 (i:=r) (j:=ia) _ _ (rn ha),h1,R6 (i:=r) (j:=ib) _ _ (rn hbn),ke]
      rw[e10]at Z2;refine(G1,_,Z2,by simpa using xl,?_,?_,λk hk =>?_,λk hk =>?_)
      .rw[aI<|bz g6];exact hv
      .rw[aw<|bz<|rn hbn,aw<|bz<|rn ha];exact er
      .by_cases z:k=i
       .subst z;rw[bG (by simp_all),h3]
       .rw[aw<|bz z];exact pre k Ž
      .rw[aw<|by lia];exact post k Ž
     .exact absurd (by rw[len,lA];simpa [bP] using hib) lib
    .rintro σ1 H1 ⟨G1,xs,R,xl,hv,er,pre,_⟩;have vl:vs.length=ds.length:=tt.length.1.symm;have:xs=qs:=by
      apply rR;intro k;by_cases z:k<vs.length
      .exact pre k z
      .rw[fH (by simp_all),fH<|by simp_all]
     subst this;refine k σ1 G1 H1 ?_
     simp_all
  .cases e
def C7(r:Nat)(y:aM):DG:=λa=>(gr o8 r a).bind λt=>match t with
 |.lst b=>if b.length<dZ then Y (.nx<|(bP r a).set r<|Y<|.obj o8<|.lst<|b++[.tup [.str y,.lst []]]) else M
 |_=>M
set_option tactic.hygienic true
def Q_{r:Nat}{x:aM}{Q C i p8:Pos}(h:PE X (.Name x l)<|eS r)(hr:‹r∈E›)(s:@&(bJ (.Name x l) "append" X.env (eval (.Name x l) X.env)=eval (.Name x l) X.env)) (uu:@&(((b9 C<|ak (.Tuple [.Constant (.str y) n i,.List [] u] U g::[]) X.env).all (λx=> (not x.1))&&(ey C<|cD [] X.env).all (λx=>x.1.isSome)
   && decide ((.Tuple [.Constant (.str y) n i,.List [] u] U g::[]:!Expr).length+([]:!gJ).length+(if ([]:!gJ).isEmpty then 0 else 1)<30))=true)) (q:@&((Q.endLine==C.line)=true)) (hs:@&(ak (.Tuple [.Constant (.str y) n i,.List [] u] U g::[]) X.env=(Z_,eval (.Tuple [.Constant (.str y) n i,.List [] u] U g) X.env)::ak [] X.env)) (hs2:@&(ak (.Constant (.str y) n i::[.List [] u]) X.env=(Z_,eval (.Constant (.str y) n i) X.env)::ak [.List [] u] X.env)) (hs3:@&(ak (.List [] u::[]) X.env=(Z_,eval (.List [] u) X.env)::ak [] X.env)) (m:@&((b9 C<|ak [] X.env).any (·.1)=false)) (T:@&(cm (.Call (.Attribute (.Name x l) "append" Q) [.Tuple [.Constant (.str y) n i,.List [] u] U g] [] C) M p8.line X.env=c9 false)) :
  PS X (.Expr (.Call (.Attribute (.Name x l) "append" Q) [.Tuple [.Constant (.str y) n i,.List [] u] U g] [] C) p8) (gO X.K B I E E<|C7 r y):=
 (lV (uI fX PySem.F.slot_list_append PySem.F.type_list_append jM h (bZ (Dl<|bZ pq (bZ (zh dw) dw hs3) hs2) dw hs) s uu q hs m) T).imp <|by
  rintro D' σ H ⟨G,ρ,o,S,e,k⟩;let(t,et,e):=ae.1 e;split at e
  .rename_i ds;split at e
   .rename_i D;cases e;have hd:=bX et;let(a,x1,f,e1,e2,L,nd,fr,k1):=S.Ej (p:=[]) hr hd W W;cases e2;have R:=L;cases R with
    |@lst _ _ _ vs S1 J tt=>
     refine(_,e1,.inl (W,vs,.of J),by show 0<=be;decide,λp F=>(by show 2<=be;decide,λt mz =>?_));have P:t≠p:=λz=>by rw[z,aP]at mz;cases mz
     have c:H t=none:=by rw[aI P]at mz;exact mz
     have ap:a≠p:=bc J F;have K:a≠t:=bc J c;generalize A:cO (cO H p<|.lst []) t (.tup [.str y,.ref p])=O at *
     have d:∀b,b≠t->b≠p->O b=H b:=λb h1 h2=>by rw[<- A,aI h1,aI h2]
     have H2p:O p=Y (.lst []):=by rw[<- A,aI<|bz P,aP]
     have H2t:O t=Y (.tup [.str y,.ref p]):=by rw[<- A,aP]
     have v:∀b o,H b=Y o->b≠t/\b≠p:=λb o e=>(bc e c,bc e F)
     have gN:bD G (cO G t<|.tup [.str y,.ref p]) :=.alloc<|S.gh.free c;have af:a∈a::S1:=ay;let(x2,j,h1,h2,h3,h4,w,h5,h6,h7):=L.app (p:=[]) (n :=.pr<|.li .lf) (l:=ds) (G':=cO G t<|.tup [.str y,.ref p]) (m:=O) (d :=.tup [.str y,.lst []]) (u :=.ref t) (S1:=[p]) nd W W gN (λb V o e=>by rw[d b (v b o e).1 (v b o e).2];exact e) (.pr aP (eL.mpr W)<|.lst H2p .nil) ż (λb D hc=>by simp at D;subst D;let(o,N,_):=L.here b hc;rw[F]at N;cases N)
     cases h1;rw[J]at h3;cases h3;refine(a,vs,_,W,W,by rw[d a K ap];exact J,by rw[<- h4];exact bp D dY,?_);refine k _ _ _ (k1 _ w _ _ (λb o e =>?_,gN,λb o e =>?_,λb o e =>?_) h5 h6 λb D =>?_).2
     .by_cases z:b∈a::S1
      .rw[dW z]at e;cases e
      .rw[bC z]at e;rw[aI<|show b≠a from λy=>z<|y ▸ af,d b (v b o e).1 (v b o e).2];exact e
     .by_cases z:b=t
      .subst z;rw[aP]at e;rw[aI<|bz K,H2t];exact e
      .rw[aI z]at e;have:=S.gh b o e;rw[aI (λy=>by rw[y,fr a af]at e;cases e),d b (v b o this).1 (v b o this).2];exact this
     .by_cases z:b=t
      .subst z;refine .inr ?_;by_cases y:b∈a::S1
       .exact dW y
       .rw[bC y];exact c
      .rw[aI z]at e;exact .inl e
     .obtain z|z:=h7 b D
      .obtain⟨o,N,_⟩:=L.here b z;exact(by rw[aI (v b o N).1];exact fr b z,.inl z)
      .simp at z;subst z;exact(by rw[aI<|bz P];exact S.gh.free F,.inr F)
   .cases e
  .cases e
end
def adg(h:cG)(e:aD)(b:au)(l:↑aD)(j f:au)(T:aD):Prop:=
 ∃g a d c,h.get? e=Y g/\g.cls=b/\g.dict=l/\g.data=.fields a/\a[0]?=Y j/\a[1]?=Y (.ref T)/\T≠e/\h.get? T=Y d/\d.data=.fields c/\c[3]?=Y f
structure RS(fs:!aD)(e:aD)(h h':cG):Prop where
 keep:∀b o,b≠e->b∉fs->h.get? b=some o->h'.get? b=some o
 slot:∀b o,b≠e->b∈fs->h.get? b=some o->∃sl,h'.get? b=some { o with slots:=sl }
def Obj.qX(o:Obj)(f:Array au->Array au):(Obj.mapFields f o).dict=o.dict:=by
 let(c,d,b,s):=o;cases b<;>rfl
section
variable {V:Model}{s:az}
def EW(O:A.frames=Y (i::k))(X:s.heap.FunFrames base<|i::k)(hf:i.frame=Y L)(P:s.heap.get? e=Y g)(I:g.data=.fields a)(h1:a[1]?=Y .none)(h0:a[0]?=Y j)(h:∀S T,RS (yv<|i::k) e s.heap S->adg S e g.cls g.dict j .none T->T=s.heap.objs.size->Q () { s with heap:=S }):bx V A (leaving i<|.ref e) Q E s:=by
 have F:e∉yv (i::k):=λhm=>by let(_,o,U,N):=X.mem hm;rw[P]at U;cases U;exact N a I
 have D:1<a.size:=(jW.mp h1).1;unfold leaving;refine ai ?_;unfold noteFrame;rw[hf];refine ai<|i4 P I h1 ?_;rw[if_neg<|by decide];refine ai<|wpAny_frameOf_fun O X hf λc d =>?_;refine ai<|wpAny_entryPlaceOf λw K =>?_;refine ai ?_;unfold EntryCells.newEntry;refine NT ?_<|IsPlace.sizeOk5 K _ _ _ _ _;have t:c.get? e=Y g:=(d.2.1 e F).trans P;have r:=ao { cls:=cA "traceback",data:=fP ([aU,aQ L,aU,mY (L:Int),aU]++if w.isEmpty=Z' then aH 6 aU else w).toArray } t;refine nT r I D ?_;have B:c.objs.size≠e:=eR<|aO t;have l:=Obj.data_mapFields I λx=>x.setIfInBounds 1<|aQ c.objs.size
 have p:=cR (Obj.mapFields λx=>x.setIfInBounds 1<|aQ c.objs.size) r<|Obj.isFreed_of_fields l;have v:=(bH (c.push { cls:=cA "traceback",data:=fP ([aU,aQ L,aU,mY (L:Int),aU]++if w.isEmpty=Z' then aH 6 aU else w).toArray }) (Obj.mapFields λx=>x.setIfInBounds 1<|aQ c.objs.size) (bz B)).trans (bo c W);have g1:(a.setIfInBounds 1<|aQ c.objs.size)[1]?=Y (aQ c.objs.size):=by simp[D]
 have g0:(a.setIfInBounds 1<|aQ c.objs.size)[0]?=Y j:=by rw[mZ<|by decide];exact h0
 unfold ET;refine ai<|i4 p l g1 ?_;rw[if_pos<|by trivial];have C:3<([aU,aQ L,aU,mY (L:Int),aU]++if w.isEmpty=Z' then aH 6 aU else w).toArray.size:=ż
 refine nT v W C ?_;have n:s.heap.get? c.objs.size=none:=by
  rw[d.1];rcases q:s.heap.get? s.heap.objs.size with _|o
  .rfl
  exact absurd (aO q)<|iF _
 have m:∀b o,b≠e->b≠c.objs.size->c.get? b=Y o->((Heap.update (c.push { cls:=cA "traceback",data:=fP ([aU,aQ L,aU,mY (L:Int),aU]++if w.isEmpty=Z' then aH 6 aU else w).toArray }) e (Obj.mapFields λx=>x.setIfInBounds 1<|aQ c.objs.size)).update c.objs.size (Obj.mapFields λx=>x.setIfInBounds 3<|Hq M aU λf=>mY (f:Int))).get? b=Y o:=λb o u R y=>by rw[bH _ _<|bz R,bH _ _<|bz u];exact ao _ y
 refine h _ c.objs.size (λb o u H y =>?_,λb o u H y =>?_) ?_ d.1
 .refine m b o u ?_<|(d.2.1 b H).trans y;intro z;rw[z,n]at y;cases y
 .obtain⟨sl,J⟩:=d.2.2 b o y;refine(sl,m b _ u ?_ J);intro z;rw[z,n]at y;cases y
 .have G:=Obj.data_mapFields (o:={ cls:=cA "traceback",data:=fP ([aU,aQ L,aU,mY (L:Int),aU]++if w.isEmpty=Z' then aH 6 aU else w).toArray }) W λx=>x.setIfInBounds 3 (Hq M aU λf=>mY (f:Int))
  refine(_,_,_,_,(bH _ _ B).trans p,Obj.cls_mapFields _ _,Obj.qX _ _,l,g0,g1,B,cR _ v<|Obj.isFreed_of_fields G,G,?_);trivial
end
section
variable {m:aM}{v:!au}
noncomputable abbrev pG(h:cG)(C:aD)(d:!au):cG:=(h.push { cls:=cA "tuple",data:=Data.seq d.toArray }).push { cls:=aQ C,data:=fP #[aQ h.objs.size,aU,aU,aU,t7 Z_,aU] }
def LZ(Fn:se k l z o)(hBn:i.contains (cA k)=Z')(F:se B U b i)(T:OwnTail h i j){R:!au}{f:aD}(hC:h.get? C=Y (Sh m q C N n j p u v x y G H I J L O l))(hn:h.Ns N mN)(hni:mN (ar "__init__")=Y (.ref f))(ab9:R.length<=be)(hf:∀(s:az) (P:au->az->Prop),s.heap=pG h C R->P (.type "function") s->bx (aZ a w) A (Jp<|.ref f) P E s)(hq:bx (aZ a w) A (Jq (.ref f)<|.ref (h.objs.size+1)::R) (λr s'=>r=.none/\Q (Fin.done<|Flow.ret<|aQ<|h.objs.size+1) s') E { heap:=pG h C R,gens:=g,drawn:=d,toks:=t,os:=c }):
  bx (aZ a w) A (Builtin.«type.__call__» { pos:=aQ C::R }) Q E { heap:=h,gens:=g,drawn:=d,toks:=t,os:=c }:=by
 unfold Builtin.«type.__call__»;refine gL W ?_;refine ai ?_;refine ai (M:=aZ a w) ?_;refine ai (M:=aZ a w) ?_;refine wpAny_load' hC ?_;refine aJ<|aJ ?_;refine gL W ?_;refine ai<|wpAny_madeBy_exc hC ?_;refine ai<|aJ ?_;refine ai<|fx<|pR<|codeAny_call_builtin_code (Code.quiet_builtin { pos:=aQ C::R } Fn.quiet) (wpAny_check_new_subU Fn hBn T hC<|codeAny_exc_new_subU Fn hBn F T hC ?_ ab9);have S:=ao { cls:=aQ C,data:=fP #[aQ h.objs.size,aU,aU,aU,t7 Z_,aU] } (ao { cls:=cA "tuple",data:=Data.seq R.toArray } hC);have hn₁:(pG h C R).Ns N mN:=by let(D,es,ep,e,r):=hn;exact(D,es,ep,ao _<|ao _ e,r)
 have X:(pG h C R).get? (h.objs.size+1)=Y { cls:=aQ C,data:=fP #[aQ h.objs.size,aU,aU,aU,t7 Z_,aU] }:=Heap.get?_push_at (by simp[eC]) W;have T₁:OwnTail (pG h C R) i j:=T.keeps λK D e=>ao _<|ao _ e
 have hcC:(aQ C::j).contains (aQ C)=true:=ż
 refine ai ?_;refine ai (M:=aZ a w) ?_;refine ai (M:=aZ a w) ?_;refine iZ X ?_;refine aJ ?_;refine wpAny_isSubtype_exc S ?_;rw[hcC];refine gL W ?_;refine ai<|fx ?_;unfold callSpecial?;refine ai ?_;unfold specialOf;refine ai (M:=aZ a w) ?_;refine ai (M:=aZ a w) ?_;refine iZ X ?_;refine aJ ?_;refine wpAny_typeLookup_tail S hn₁ T₁ F.mroIs F.init.lookup ?_;rw[hni];refine fx ?_;refine ai ?_;unfold bindSpecial;refine ai<|hf _ _ W ?_;rw[if_pos<|by decide];refine aJ ?_;refine ai ?_;refine dE hq (λr s' hr =>?_)<|λK K Da=>Da;let(rfl,hr):=hr;refine aJ ?_;refine gL W ?_;exact aJ hr
def EY(Fn:se k l z o)(S:i.contains (cA k)=Z')(F:se B U b i)(T:OwnTail h i j){X:aM->↑au}{D:!au}{f:aD}(Da:h.get? C=Y (Sh m q C N n j p u v x y G H I J L O l))(hn:h.Ns N X)(R:X (ar "__init__")=Y (.ref f))(K:D.length<=be)(hf:∀(A:fJ) (E:au->az->Prop) (s:az) (P:au->az->Prop),s.heap=pG h C D->P (.type "function") s->bx (aZ a w) A (Jp<|.ref f) P E s)(hq:bx (aZ a w) (A.under<|.builtin "type.__call__" (.ref C::D,[])) (Jq (.ref f)<|.ref (h.objs.size+1)::D) (λr s'=>r=.none/\Q (aQ<|h.objs.size+1) s') E { heap:=pG h C D,gens:=g,drawn:=d,toks:=t,os:=c }):
  bx (aZ a w) A (Jq (.ref C) D) Q E { heap:=h,gens:=g,drawn:=d,toks:=t,os:=c }:=by
 have hT:({ heap:=h,gens:=g,drawn:=d,toks:=t,os:=c }:az).TypeIs (aQ C) "type" :=(_,Da,W);refine pR<|codeAny_of_tree ?_;refine ai (M:=aZ a w) (wpAny_load' Da ?_);refine ai (M:=aZ a w) (wpAny_specialOf hT tc_lookup ?_);refine ai (M:=aZ a w) (wpAny_of_eq (tc_bind<|aQ C) ?_);refine ai (M:=aZ a w) ?_;refine aJ<|wpAny_ite_true W<|aJ (W,?_);refine codeAny_call_builtin_at (args:=(aQ C::D,[])) (Code.quiet_builtin _ Ų) entry_typeCall (wpAny_check_type_call_sub Da ?_);exact LZ Fn S F T Da hn R K (λs P e q=>hf _ _ s P e q) hq
end
end L2
namespace L2
open PySem PySem.Spec PyProof.Rows PySem.W
section
variable {s:az}{K:aS}{name:aM}
structure XGa(K:aS)(C:aD):Prop where
 ga:ic K (.ref C) "__getattribute__" = some (some<|.builtin "BaseException.__getattribute__")
 gt:ic K (.ref C) "__getattr__" = some none
 mb:mroIn K C (.type "BaseException")=some true
def Of{m:Bool}(X:K.In s.heap)(I:InstAt s.heap x c C b)(g:XGa K C) (h:∀R:R5->az->Prop,(∀v j,bx (aZ a w) A (handedOut v) Q E j->R (.ok<|.ret v) j)->bx (aZ a w) A.in1 (Builtin.«object.__getattribute__» ([.ref x,.str name i],[]))
   (λku j=>match ku with|.done f=>R (.ok f) j|.again F=>F.quiet=Z'/\ml (aZ a w) A F R j) (λe j=>R (.error e) j) s) :
  bx (aZ a w) A (getAttrBy (.ref x) (.str name i) m k) Q E s:=by
 let(y,D,d,t,B):=s;have G:=I.type (M:=aZ a w);have n:=looks_findIn (M:=aZ a w) X g.ga;have L:=looks_findIn (M:=aZ a w) X g.gt;have J:=PySem.F.attr_ValueError.ga.bind<|.ref x;have u:(k&&onTheHeap (Value.builtin "BaseException.__getattribute__"))=false:=by cases k<;>solve_by_elim
 have q:(onTheHeap (aQ C)&&Value.builtin "BaseException.__getattribute__" == Value.builtin "object.__getattribute__")=false:=Ÿ
 have H:builtinKind "BaseException.__getattribute__" = Y .slot:=Ų
 have l:splitId "BaseException.__getattribute__" = Y ("BaseException","__getattribute__"):=Ų
 unfold getAttrBy;refine fx<|ai<|G.at<|ai<|n.at ?_;dsimp only;unfold getAttrByItsOwn hookBefore;refine ai ?_;refine L.at<|ai<|Hk<|fx ?_;unfold callGetattribute;rw[if_neg<|by rw[u];simp];unfold boundAndCalled;rw[J];have o:ml (aZ a w) A _ (λr j=>match r with|.ok (.ret v)=>bx (aZ a w) A (handedOut v) Q E j|_=>False) (y,D,d,t,B):=
  codeAny_call_builtin PySem.F.attr_ValueError.ga.plain PySem.F.entry_bexc_ga (@check_slot (aZ a w) _ _ (y,D,d,t,B) _ "BaseException" _ (.ref x) [.str name i] [] _ H l (G.andThen<|looks_mroIn X g.mb) (PySem.F.args_bexc_ga (.ref x)<|.str name i) (h (λr j=>match r with|.ok (.ret v)=>bx (aZ a w) A (handedOut v) Q E j|_=>False) λv j z=>z))
 refine ai<|aJ<|pR<|nU o λr j z =>?_;obtain e|(v|_|_|_):=r
 .exact dN z
 .exact dN z
 .exact dN z
 .exact dN z
 .exact z
def Od{v:au}(X:K.In s.heap)(I:InstAt s.heap x c C b)(g:XGa K C)(k:findObj K C b name=Y (.value v))(j:handedIn v=Z')(h:Q v { s with toks:=s.toks+1 }):
  bx (aZ a w) A (getAttr (.ref x) name e) Q E s:=by
 refine ai<|wpAny_mkText<|Of X I g λR l =>?_;have n:=I.type (M:=aZ a w);have m:=looks_find (M:=aZ a w) X I k;refine ai<|aJ ?_;refine ai<|aJ<|ai<|n.at<|ai<|m.at ?_;refine aJ<|l v _ ?_;rw[handedOut_of j];exact aJ h
def Oe(X:K.In s.heap)(I:InstAt s.heap x c C b)(g:XGa K C)(k:findObj K C b "__class__" = Y (.bind (.builtin "getset_descriptor.__get__")<|.builtin "object.__class__"))(j:mroIn K C (.type "object")=Y Z')(h:Q (Y<|.ref C) { s with toks:=s.toks+1 }):
  bx (aZ a w) A (getAttr? (.ref x) "__class__") Q E s:=by
 unfold getAttr? getAttrBy?;refine ai<|wpAny_mkText<|ai<|Hk<|Of (s:={ s with toks:=s.toks+1 }) X I g λR l =>?_;let(e,m,d,t,f):=s;have o:=I.type (M:=aZ a w);have n:=looks_find (M:=aZ a w) X I k;unfold Builtin.«object.__getattribute__»;refine ai<|aJ ?_;refine ai<|aJ<|ai<|o.at<|ai<|n.at ?_;show bx _ _ (iy _ (Jq _ _) >>= ret) _ _ _;refine ai<|fx<|pR<|class_get (ox:=c) (od:=b) (s:=(e,m,d,t+1,f)) X I j ?_;refine aJ<|l _ _ ?_;rw[handedOut_of W];exact aJ<|aJ h
set_option tactic.hygienic true
def Qj{b:↑Obj}(g:XGa K C)(f:nJ K C=Z')(y:ic K (.ref C) "__class__" = Y (Y<|.builtin "object.__class__"))(u:specialIn K (.builtin "object.__class__") "__get__" = Y (Y<|.builtin "getset_descriptor.__get__"))(m:takesIn K (.builtin "object.__class__")=Y Z')(v:mroIn K C (.type "object")=Y Z'):
  KitX K (.ref x) (.ref C) (λh=>InstAt h x c C b) where
 ty:=λa a a I=>I.type
 it:=λa a X a=>by
  let(p,d,_):=any_some f;unfold clsIn at d;split at d
  .rename_i B A r j o;intro L H J E k q;unfold isType loadHead;exact ai<|t6 (k _ _<|X _ _ o)<|aJ q
  .cases d
 ne:=λh s F t n D X l=>by
  let(p,d,_):=any_some f;refine Bool.eq_false_iff.mpr λq =>?_
  have e:C=s:=Value.ref.inj<|beq_iff_eq.mp q;subst e;unfold clsIn at d;split at d
  .rename_i B A r j o;have z:=(X _ _ o).symm.trans l;cases z
  .cases d
 ca:=λX I k=>Oe X I g (by let(G,w,_):=any_some f;unfold findObj;rw[w];simp only[av,y,u,m]) v k
end
end L2
namespace L2
open PySem PySem.Spec PyProof.Rows
section
variable {s:az}{K:aS}{name:aM}{v:au}
noncomputable def yl:!au->Bool
 |.ref _::r=>yl r|l=>l==[.type "ValueError",.type "Exception",.type "BaseException",.type "object"]
theorem za(self:au):∀ {l:!au},yl l=Z'->refuseLoop self "__setattr__" l=c9 ()
 |.ref c::r,e=>by rw[refuseLoop_ref];exact za _ e
 |[],e=>by cases e
 |.type n::r,e=>by rw[beq_iff_eq.mp e];exact PySem.F.store_ValueError.passes _
 |.none::r,e=>by cases e
 |.bool b::r,e=>by cases e
 |.int i t::r,e=>by cases e
 |.float i t::r,e=>by cases e
 |.str i t::r,e=>by cases e
 |.bytes i t::r,e=>by cases e
 |.builtin i::r,e=>by cases e
 |.ellipsis::r,e=>by cases e
 |.notImplemented::r,e=>by cases e
theorem K5:∀ {l:!au},yl l=Z'->l.contains (.type "object")=Z'
 |.ref c::r,e=>by rw[List.contains_cons,K5 (l:=r) e,Bool.or_true]
 |[],e=>by cases e
 |.type n::r,e=>by rw[beq_iff_eq.mp e];decide
 |.none::r,e=>by cases e
 |.bool b::r,e=>by cases e
 |.int i t::r,e=>by cases e
 |.float i t::r,e=>by cases e
 |.str i t::r,e=>by cases e
 |.bytes i t::r,e=>by cases e
 |.builtin i::r,e=>by cases e
 |.ellipsis::r,e=>by cases e
 |.notImplemented::r,e=>by cases e
def yx(K:aS)(C:aD):Bool:=(PySem.W.clsIn K C).any λa=>yl a.mro
def TN{R:R5->az->Prop}{r:↑au}(X:K.In s.heap)(I:PySem.W.InstAt s.heap x u C y)(D:yx K C=Z')(B:RZ K C name=Y r) (h:∀b,bx (aZ d w) A.in1 (match r with|some a=>Builtin.ObjectAttr.setByDescriptor a (.ref x) v|none=>Builtin.ObjectAttr.storeInOwnDict (.ref x) (.ref C) (.str name j) name v b)
   (λku k=>match ku with|.done f=>R (.ok f) k|.again t=>t.quiet=Z'/\ml (aZ d w) A t R k) (λe k=>R (.error e) k) s) :
  ml (aZ d w) A (.call (.builtin "object.__setattr__") ([.ref x,.str name j,v],[])) R s:=by
 have i:=PySem.F.store_object;let(n,p,l):=PySem.W.any_some D;have z:n.mro.isEmpty=false:=by cases q:n.mro with|nil=>rw[q]at l;cases l|cons _ _=>simp
 refine codeAny_call_builtin i.slot.plain i.entry<|@PySem.W.check_slot (aZ d w) _ _ s "object.__setattr__" "object" "__setattr__" (.ref x) [.str name j,v] [] _ i.kind i.split (I.type.andThen<|PySem.W.looks_mroIn X<|by unfold PySem.W.mroIn;rw[p,av,if_neg (by rw[z];simp),K5 l]) (i.args (.ref x) (.str name j) v) ?_;let(c,G,o):=ae.mp B;have E:PySem.W.Looks (aZ d w) s.heap (mroOf<|.ref C) n.mro:=(PySem.W.looks_clsIn X p).andThen .now;have H:PySem.W.Looks (aZ d w) s.heap (Builtin.ObjectAttr.storeTaker? c) r:=by
  cases c with
  |none=>cases o;exact .now|some a=>let(b,F,rfl):=aj.mp o;refine(PySem.W.looks_takesIn X F).andThen ?_;cases b<;>exact .now
 rw[PySem.W.osa_eq,refuse_eq];refine ai<|ai<|I.type.here<|ai<|E.here ?_;rw[za _ l];refine aJ<|ai<|I.type.here<|ai<|(PySem.W.looks_findIn X G).here<|ai<|H.here ?_;exact h _
def U7(X:K.In s.heap)(hx:s.heap.get? x=Y (.ref C,M,.fields g,#[]))(hs:ic K (.ref C) "__setattr__" = Y (Y<|.builtin "object.__setattr__"))(hp:yx K C=Z')(ht:RZ K C name=Y M)(hh:nJ K C=Z')(h:∀h',h'.get? x=Y (.ref C,Y s.heap.objs.size,.fields g,#[])->h'.Ns1 s.heap.objs.size (λy=>if y=name then Y v else M)->(∀b o,b≠x->s.heap.get? b=Y o->h'.get? b=Y o)->Q () { s with heap:=h',toks:=s.toks+2 }):
  bx (aZ d w) A (setAttr (.ref x) name v) Q E s:=by
 have J:PySem.W.InstAt s.heap x (.ref C,M,.fields g,#[]) C none:=(hx,W,W,trivial);refine PySem.W.set_plain X J hs<|TN (s:={ s with toks:=s.toks+1 }) (r:=M) X J hp ht λb =>?_;let(cd,hc,hd'):=PySem.W.any_some hh;refine ai<|aJ<|ai ?_;refine ai (M:=aZ d w) ?_;refine t6 hx ?_;refine ai<|PySem.W.Looks.here (s:={ s with toks:=s.toks+1 }) (PySem.W.looks_clsIn X hc) ?_;rw[hd'];refine gL W ?_;refine gL W ?_;refine ai<|wpAny_alloc ?_;have hx1:(s.heap.push { cls:=cA "dict",data:=R9 #[] }).get? x=Y (.ref C,M,.fields g,#[]):=ao _ hx;refine ai<|wpAny_update hx1 ?_;refine aJ (a:=Y s.heap.objs.size) (ai<|aJ<|ai ?_);have hxd:s.heap.objs.size≠x:=eR<|aO hx;have hx2:=cR (λo:Obj=>{ cls:=o.cls,dict:=Y s.heap.objs.size,data:=o.data,slots:=o.slots }) hx1 W;have hd2:((s.heap.push { cls:=cA "dict",data:=R9 #[] }).update x λo=>{ cls:=o.cls,dict:=Y s.heap.objs.size,data:=o.data,slots:=o.slots }).get? s.heap.objs.size=Y { cls:=cA "dict",data:=R9 #[] }:=
  (bH _ _<|bz hxd).trans (bo s.heap W)
 have hns:=
  Heap.Ns1.of_empty (_,#[],_,hd2,W,(λe he=>absurd he ż),λ_=>rfl)
 refine wpAny_nsSet1 hns λh' hn2 hs2 =>?_
 have hw:PySem.Within (λ_:aM=>(M:↑au)) []:=λy hy=>absurd W hy
 let(oD,esD,epD,hoD,hdD,hcD):=hn2.count<|PySem.Within.cons name v hw;refine ai<|wpAny_lookBehind hoD (by rw[hdD];exact pastItsLine_dict<|bM hcD<|by rw[bK];exact Nat.le_add_left _ _) ?_;refine aJ<|h h' ((hs2.2 _<|bz hxd).trans hx2) hn2 λb o hb e =>?_;have hbd:b≠s.heap.objs.size:=bI<|aO e;refine(hs2.2 b hbd).trans ?_;refine(bH _ _<|bz hb).trans ?_;exact ao _ e
end
section
variable {sub:!au}{s:az}
def ub(i:a.contains (cA "BaseException")=Z')(t:A.handled=M)(h:bx U A x (λv f=>∃e j m,v=.ref e/\f.heap.get? C=Y (Sh nm q C N bs a hdct sn sub ab col dd k0 k1 k2 k3 k5 newId)/\f.heap.get? e=Y j/\j.cls=.ref C/\j.data=.fields m/\m[1]?=Y .none/\E (.ref e) f) E s):
  bx U A (raiseStmt b (Y x) M) Q E s:=by
 unfold raiseStmt;refine ai<|dE h ?_ λc c z=>z;rintro v f ⟨e,j,m,y,r,k,p,l,w,u⟩;subst y;have n:(aQ C::a).contains (cA "BaseException")=true:=by rw[List.contains_cons,i];simp
 refine ai<|aJ<|ai<|fx ?_;unfold excFromValue;refine ai ?_;unfold isExcClass;refine ai (M:=U) ?_;unfold isType;refine ai (M:=U) ?_;refine iZ k ?_;refine aJ ?_;rw[l];refine gL W<|aJ<|gL W ?_;refine ai ?_;unfold isInstance Jp;refine ai (M:=U) ?_;refine ai (M:=U) ?_;refine iZ k ?_;refine aJ ?_;rw[p];refine wpAny_isSubtype_exc r ?_;rw[n];refine wpAny_ite_true W<|aJ ?_;refine ai (M:=U) ?_;refine ai (M:=U) ?_;refine iZ k ?_;refine aJ ?_;rw[l];refine gL W ?_;refine ai ?_;unfold raisedInstance Jp;refine ai (M:=U) ?_;refine ai (M:=U) ?_;refine iZ k ?_;refine aJ ?_;rw[p];refine ai (M:=U) ?_;refine ai (M:=U) ?_;refine iZ r ?_;refine aJ ?_;refine wpAny_ite_true W<|aJ ?_;refine ai ?_;unfold ET;refine ai<|i4 k l w ?_;refine aJ ?_;exact wpAny_raiseNew_none t u
end
noncomputable def dI(a:aD)(o:Obj):HO :=.ext λh=>h.get? a=Y o
theorem dI.ok{P:bj}{H:Hp}{h:cG}{a:aD}(e:h.get? a=Y o):hR P w H h a<|dI a o:=
 (e,(o,e),λb b p k=>k o p)
def dI.get{P:bj}{H:Hp}{h:cG}{a:aD}(b:lT P w H h)(e:H a=Y (dI a o)):h.get? a=Y o:=(b a _ e).1
noncomputable abbrev vE(C t:aD):Obj:={ cls:=aQ C,data:=fP #[aQ t,aU,aU,aU,t7 Z_,aU] }
noncomputable abbrev xAt(C t a:aD):Obj:={ cls:=aQ C,dict:=Y a,data:=fP #[aQ t,aU,aU,aU,t7 Z_,aU] }
structure VA(K:aS)(C:aD)(f:aM):Prop where
 sa:ic K (.ref C) "__setattr__" = some (some<|.builtin "object.__setattr__")
 po:yx K C=true
 tk:RZ K C f=some none
 hd:nJ K C=true
section
variable {X:Cx}{d:!(aD×Obj)}{i:St}{H:Hp}{s:az}{A:fJ}{E:au->az->Prop}{C a t:aD}{f:aM}
def Sj(I:Inv X d i H s)(e:H a=Y (dI a<|vE C t))(c:VA X.K C f)(Da:RelV y u)(h:∀p F,H p=M->p≠a->Inv X d i (cO (cO H p<|.xd [(f,y)]) a<|dI a<|xAt C t p) F->Q () F):bx (aZ X.prog X.w) A (setAttr (.ref a) f u) Q E s:=by
 have G:=dI.get I.dS e;refine U7 I.nW G c.sa c.po c.tk c.hd λR l B N =>?_
 have O:=I.dS.fresh<|aV s.heap.objs.size;have m:=eR<|aO G;let(j,J,K,z,n,x,w,r):=id B;have D:j.isFreed=false:=by let(c1,d1,T,sl):=j;subst n;exact Ÿ
 have L:=bo s.heap D;have k:∀g,oX ([(f,y)].lookup g)<|if g=f then Y u else M:=λg=>by
  by_cases q:g=f
  .rw[if_pos q,q];simp[Ht];exact Da
  .rw[if_neg q];have:(g==f)=false:=by simp[q]
   simp[Ht,this]
   exact Ÿ
 have U:=I.laid (o :=.xd _) (t':=s.toks+2) (λb v q=>ao _ q) (aV _) (_,(j,J,K,L,n,x,w,r),k);have S:cO H s.heap.objs.size (.xd [(f,y)]) a=Y (dI a<|vE C t):=by rw[aI<|bz m];exact e
 refine h s.heap.objs.size _ O m<|U.write (x:=a) (e:=a) (by rw[S];exact Ÿ) (.inl W) (λb v P q =>?_) (_,l) (dI.ok l)
 grind [Heap.get?_push_ne]
end
section
variable {X:Cx}{m:TE}{f:aM}
def abg(K:aS)(j l:TE)(f:aM):TS:=λD c H=>l c H λy e=>j c e λx d=>∃a C t,x=.ref a/\d a=Y (dI a<|vE C t)/\VA K C f/\∀b,d b=M->b≠a->D.nx c (cO (cO d b<|.xd [(f,y)]) a<|dI a<|xAt C t b)
def Ti(E:PE X o j)(r:PE X z l)(v:cm z (Y<|.Attribute o f A) i.line X.env=c9 Z_):PS X (.Assign [.Attribute o f A] z i)<|abg X.K j l f:=by
 intro b s d H D I h;refine N_ (eG (r b s d H _ I h) ?_) v;rintro u e ⟨y,N,m,g,q⟩;refine eG (E b e d N _ m q) ?_;rintro p P ⟨x,Q,L,k,a,C,t,F,G,c,n⟩;subst F;obtain rfl:p=aQ a:=k;exact Sj L G c g λJ O B w K=>(d,_,K,n J B w)
def yg(C:aD)(f:aM):Sp:=λc H Q d=>∃a t v,c=[.ref a,v]/\H a=Y (dI a<|vE C t)/\∀b,H b=M->b≠a->Q .cT (cO (cO H b<|.xd [(f,v)]) a<|dI a<|xAt C t b)
def XM(K:aS)(C:aD)(v:↑au):Prop:=∃(nm q:aM) (N:aD) (bs bm bmB:!au) (sn:!aM) (sub:!au) (ab:Bool) (col:↑Bool) (dd:↑aD) (k0 k1 k2 k3 k5:↑au) (B Bn newId nid Y5 inN:String) (bmN:!au) (mN:aM->↑au),
  se Bn newId inN bmN/\bmB.contains (cA Bn)=Z'/\se B nid Y5 bmB/\bm.contains (cA "BaseException")=Z' /\
  K.lookup C=Y (Sh nm q C N bs bm Z' sn sub ab col dd k0 k1 k2 k3 k5 newId)/\(∀h:cG,K.In h->OwnTail h bmB bm/\h.Ns N mN)/\mN (ar "__init__")=v
structure XMk(K:aS)(C fI:aD):Prop where
 cl:XM K C<|some<|.ref fI
 fn:PySem.W.typeIn K (.ref fI)=some (.type "function")
 kp:jU K (.ref C)=true
def LN{K:aS}(X:K.In h){o:Obj}(e:K.lookup a=Y o):h.get? a=Y o:=X a o e
def Mj{s:az}{v:V}(d:XMk X.K C fI)(F:b_ X.prog X.w X.K X.mg X.base gk k fI fd ["self",f]<|yg C f)(hr:dn (k+1) X.A)(hb:Binds X.K fd ["self",f] [])(I:Inv X n U H s)(r:RelV v u)(h:∀a t D,H a=M->H D=M->D≠a->Q (.ref a) (cO (cO (cO H a<|dI a<|vE C t) D<|.xd [(f,v)]) a<|dI a<|xAt C t D)):
  bx (aZ X.prog X.w) X.A (Jq (.ref C) [u]) (EP X n U Q) X.xe s:=by
 refine ah λkk =>?_
 let(nm,q,N,bs,bm,bmB,sn,sub,ab,col,dd,k0,k1,k2,k3,k5,B,Bn,L,nid,J,inN,bmN,mN,Fn,R,FB,hbm,lk,hT,O):=d.cl;have hC:=LN I.nW lk;let(T,K):=hT _ I.nW;have I1:=I.kept (h':=s.heap.push { cls:=cA "tuple",data:=Data.seq [u].toArray }) (t':=s.toks) λb o e=>ao _ e
 have E:(pG s.heap C [u]).get? (s.heap.objs.size+1)=Y (vE C s.heap.objs.size):=Heap.get?_push_at (by simp[eC]) W;have S:=I1.laid (a:=s.heap.objs.size+1) (o:=dI (s.heap.objs.size+1)<|vE C s.heap.objs.size) (h':=pG s.heap C [u]) (t':=s.toks) (λb o e=>ao _ e) (pU<|eC _ _) (dI.ok E);have x:=S.nW;have G:=S.U8;let(y,_):=s;refine kk<|EY Fn R FB T hC K O (show [u].length<=be from kb (Mf (n:=1) ż)) (λA' E' s1 P' e p =>?_) ?_
 .have:X.K.In s1.heap:=by rw[e];exact x
  exact PySem.W.Looks.here (PySem.W.looks_typeIn this d.fn) p
 .refine pR (nU (F.run _ X.stack _ _ ([aQ<|y.objs.size+1,u],[]) [aQ<|y.objs.size+1,u] [V.ref<|y.objs.size+1,v] (λw H2=>w=.cT/\Q (.ref<|y.objs.size+1) H2) E0 (hr.make C [u] []) (G.make C [u] []) (hb _ [aQ<|y.objs.size+1,u] x W) (.cons W<|.cons r .nil) (y.objs.size+1,y.objs.size,v,W,aP,λD hd K=>(W,?_))) λr s' c =>?_)
  .have P:H D=none:=by rw[aI K]at hd;exact hd
   exact h _ _ D (I.dS.fresh<|jg _) P K
  .cases r with
   |error e=>exact dN c|ok fl=>
    cases fl with
    |ret u'=>let(v',H',I3,rv,ev,q3):=S.after c;subst ev;exact(rv,(V.ref<|y.objs.size+1,H',I3,W,q3))
    |next=>exact dN c|brk=>exact dN c|cont=>exact dN c
def Xp(C:aD)(f:aM)(t:TA):TE:=λd H Q=>t d H λe c=>∃v,e=[v]/\∀a t b,c a=M->c b=M->b≠a->Q (.ref a) (cO (cO (cO c a<|dI a<|vE C t) b<|.xd [(f,v)]) a<|dI a<|xAt C t b)
def Pe(j:XMk X.K C g)(F:b_ X.prog X.w X.K X.mg X.base gk k g d ["self",f]<|yg C f)(y:dn (k+1) X.A)(D:Gl X x)(B:X.mg x=Y (.ref C))(G:Binds X.K d ["self",f] [])(J:PA X [e] t)(c:‹(x==("__debug__" : aM))=false›)(E:@&(ak [e] X.env=(Z_,eval e X.env)::ak [] X.env))(b:@&((b9 i<|ak [] X.env).any (·.1)=false)):
  PE X (.Call (.Name x p) [e] [] i) (Xp C f t):=by
 intro a s o H Q I h;refine c8<|lW I D B ?_ c;refine PySem.W.callWith_K I.ok.mod.YQ j.kp (eG (J i a s o H _ I h) ?_) E b;rintro N O ⟨L,P,n,r,v,K,q⟩;refine(n.nW,?_);subst K;let(u,rfl,w):=vals1 r;exact Mj j F y G n w q
def XY(X:Cx)(C:aD)(m:TE):TS:=λ_ c H=>m c H λv e=>∃a t f,v=.ref a/\e a=Y (dI a<|xAt C t f)/\∀b d,Inv X b c e d->X.xe (.ref a) d
def Pa(j:XMk X.K C T)(R:X.calm=Z')(Q:PE X e m):PS X (.Raise (Y e) M i)<|XY X C m:=by
 intro b s o H D I h;refine ah λkk =>?_
 let(y,q,N,bs,bm,bmB,p,f,ab,k,dd,L,K,J,G,F,B,Bn,c,E,d,O,bmN,mN,Fn,S,FB,g,lk,_):=j.cl;refine kk<|ai<|l6 ?_;refine ub (C:=C) (nm:=y) (q:=q) (N:=N) (bs:=bs) (hdct:=Z') (sn:=p) (sub:=f) (ab:=ab) (col:=k) (dd:=dd) (k0:=L) (k1:=K) (k2:=J) (k3:=G) (k5:=F) (newId:=c) g (I.ok.hd R) ?_;refine ai<|eG (Q b s o H _ I h) ?_;rintro u r ⟨v,H1,n,x,a,t,dx,U,ea,w⟩;subst U;obtain rfl:u=aQ a:=x;exact ai<|l6<|aJ (a,_,_,W,LN n.nW lk,dI.get n.dS ea,W,W,W,w b r n)
end
structure XT(H:Hp)(a C:aD)(dx:↑aD)(T:aD)(oe oT:Obj):Prop where
 ea:H a=some (dI a oe)
 cls:oe.cls=.ref C
 dict:oe.dict=dx
 fl:∃vs,oe.data=.fields vs/\vs[1]?=some (.ref T)/\∃a0,vs[0]?=some a0
 ne:T≠a
 eT:H T=some (dI T oT)
 tr:∃ts,oT.data=.fields ts/\ts[3]?=some .none
section
variable {P:bj}{w:cQ}{K:aS}{m:aM->↑au}{l:cG}{N:!aM}{i:aM}{j:Scope}{f:aD}{k:au}{A:fJ}{g:!Env}{d s:az}{p H:Hp}{E:XK}{x:!(aD×Obj)}{y:St}{a C t h:aD}
end
section
variable {V:Model}{s:az}{m:Obj}
def Oi(hfr:A.frames=Y (a::j))(hl:s.heap.FunFrames base<|a::j)(hf:a.frame=Y L)(he:s.heap.get? e=Y k)(hd:k.data=.fields g)(h1:g[1]?=Y (.ref T))(h0:g[0]?=Y n)(hT:s.heap.get? T=Y m)(t:m.data=.fields l)(h3:l[3]?=Y .none)(UH:T≠e)(h:∀h' T',RS (yv<|a::j) e s.heap h'->adg h' e k.cls k.dict n .none T'->T'=s.heap.objs.size->Q () { s with heap:=h' }):
  bx V A (noteFrame (.ref e) a) (λDa s2=>bx V A (ET (.ref e) M) Q E s2) E s:=by
 have afE:e∉yv _:=λhm=>by let(_,o,U,N):=hl.mem hm;rw[he]at U;cases U<;>solve_by_elim
 have S:=(jW.mp h1).1;have P:=(jW.mp h3).1;have X:Obj.mapFields (λx=>x.setIfInBounds 3 aU) m=m:=by
  let(c,d,dt,sl):=m;subst t;show ((c,d,_,sl):Obj)=_
  congr 2
  apply Array.ext
  .simp
  .intro i h1 h2;by_cases hi:3=i<;>simp_all
 have w:∀b o,s.heap.get? b=Y o->(s.heap.update T _).get? b=Y o:=λb o v=>by
  by_cases J:b=T
  .subst J;rw[hT]at v;cases v;have hh:=cR (Obj.mapFields _) hT (by rw[X];exact Obj.isFreed_of_fields t);rw[X]at hh;exact hh
  .rw[bH _ _<|bz J];exact v
 have he2:=w e k he;unfold noteFrame;rw[hf];refine ai<|i4 he hd h1 ?_;rw[if_pos<|by trivial];refine ai<|i4 hT t h3 ?_;rw[if_neg<|by simp[mY]];refine ai<|nT hT t P ?_;refine ai<|wpAny_frameOf_fun hfr (Heap.FunFrames.of_keeps (λb o v Da=>(o,w b o v,W)) hl) hf λp r =>?_;refine ai<|wpAny_entryPlaceOf λI hpl =>?_;refine ai ?_;unfold EntryCells.newEntry;refine NT ?_<|IsPlace.sizeOk5 hpl _ _ _ _ _;have F:p.get? e=Y k:=(r.2.1 e afE).trans he2;have D:=ao { cls:=cA "traceback",data:=fP ([aQ T,aQ L,aU,mY (L:Int),aU]++if I.isEmpty=Z' then aH 6 aU else I).toArray } F;refine nT D hd S ?_;have O:p.objs.size≠e:=eR<|aO F;have u:=Obj.data_mapFields hd λx=>x.setIfInBounds 1<|aQ p.objs.size
 have C:=cR (Obj.mapFields λx=>x.setIfInBounds 1<|aQ p.objs.size) D<|Obj.isFreed_of_fields u;have H:=(bH (p.push { cls:=cA "traceback",data:=fP ([aQ T,aQ L,aU,mY (L:Int),aU]++if I.isEmpty=Z' then aH 6 aU else I).toArray }) (Obj.mapFields λx=>x.setIfInBounds 1<|aQ p.objs.size) (bz O)).trans (bo p W);have g1:(g.setIfInBounds 1<|aQ p.objs.size)[1]?=Y (aQ p.objs.size):=by simp[S]
 have g0:(g.setIfInBounds 1<|aQ p.objs.size)[0]?=Y n:=by rw[mZ<|by decide];exact h0
 unfold ET;refine ai<|i4 C u g1 ?_;rw[if_pos<|by trivial];have R:3<([aQ T,aQ L,aU,mY (L:Int),aU]++if I.isEmpty=Z' then aH 6 aU else I).toArray.size:=ż
 refine nT H W R ?_;have K:p.objs.size=s.heap.objs.size:=r.1.trans<|ya _ _ _;have B:s.heap.get? p.objs.size=none:=by
  rw[K];rcases q:s.heap.get? s.heap.objs.size with _|o
  .rfl
  exact absurd (aO q)<|iF _
 have y:∀b o,b≠e->b≠p.objs.size->p.get? b=Y o->((Heap.update (p.push { cls:=cA "traceback",data:=fP ([aQ T,aQ L,aU,mY (L:Int),aU]++if I.isEmpty=Z' then aH 6 aU else I).toArray }) e (Obj.mapFields λx=>x.setIfInBounds 1<|aQ p.objs.size)).update p.objs.size (Obj.mapFields λx=>x.setIfInBounds 3<|Hq M aU λf=>mY (f:Int))).get? b=Y o:=λb o G J v=>by rw[bH _ _<|bz J,bH _ _<|bz G];exact ao _ v
 refine h _ p.objs.size (λb o G hbf v =>?_,λb o G hbf v =>?_) ?_ K
 .refine y b o G ?_<|(r.2.1 b hbf).trans<|w b o v;intro z;rw[z,B]at v;cases v
 .obtain⟨sl,hsl⟩:=r.2.2 b o<|w b o v;refine(sl,y b _ G ?_ hsl);intro z;rw[z,B]at v;cases v
 .have t:=Obj.data_mapFields (o:={ cls:=cA "traceback",data:=fP ([aQ T,aQ L,aU,mY (L:Int),aU]++if I.isEmpty=Z' then aH 6 aU else I).toArray }) W λx=>x.setIfInBounds 3 (Hq M aU λf=>mY (f:Int))
  refine(_,_,_,_,(bH _ _ O).trans C,Obj.cls_mapFields _ _,Obj.qX _ _,u,g0,g1,O,cR _ H<|Obj.isFreed_of_fields t,t,?_);trivial
end
def Ky{P:bj}{H:Hp}{h B:cG}{a T:aD}{d f:Obj}(E:lT P w H h)(x:∀b∈I,H b=M)(A:H a=Y (dI a o))(D:RS I a h B)(K:B.get? a=Y d)(Q:B.get? T=Y f)(L:T=h.objs.size):
  Un I [] H (cO (cO H T<|dI T f) a<|dI a d) h B/\lT P w (cO (cO H T<|dI T f) a<|dI a d) B:=by
 have J:H T=none:=E.fresh<|pU L.symm;have m:∀b,H b=M->b≠a:=λb s z=>by rw[z,A]at s;cases s
 have C:∀b o,h.get? b=Y o->b≠T:=λb o e z=>by have:=aO e;rw[z,L]at this;exact iF _ this
 have k:∀b u,b≠a->H b=Y u->cO (cO H T<|dI T f) a (dI a d) b=Y u:=λb u s e=>by rw[aI s,aI<|bc e J];exact e
 have p:∀c v,c≠a->H c≠M->h.get? c=Y v->B.get? c=Y v:=λc v y N e=>D.keep c v y (λG=>N<|x c G) e
 refine((λb o e n s t=>D.keep b o (m b n) s e,λb o e n s t=>D.slot b o (m b n) s e,λb o e n t =>?_,λb o e t =>?_,λb g e=>k b _ (λz=>by rw[z,A]at e;cases e) e,λb o u e=>k b _ (λz=>by rw[z,A]at e;cases e) e,λb S e=>(#[],by rw[k b _ (λz=>by rw[z,A]at e;cases e) e];solve_by_elim)),λb u e =>?_)
 .rw[aI<|m b n,aI<|C b o e];exact n
 .by_cases l:b=a
  .exact(d,by rw[l];exact K)
  .by_cases G:b∈I
   .obtain⟨R,O⟩:=D.slot b o l G e;exact(_,O)
   .exact(o,D.keep b o l G e)
 .by_cases l:b=a
  .subst l;rw[aP]at e;cases e;exact dI.ok K
  .rw[aI l]at e;by_cases F:b=T
   .grind [aP,dI.ok]
   .rw[aI F]at e;refine(E b u e).uk (λc v y q =>?_) (λc r =>?_) λc g r =>?_
    .obtain lia|y:=y
     .simp_all
     .exact p c v (λz=>by rw[z,A]at y;cases y) (by rw[y];simp) q
    .exact k c _ (λz=>by rw[z,A]at r;cases r) r
    .exact k c _ (λz=>by rw[z,A]at r;cases r) r
section
variable {X:Cx}{i:!(aD×Obj)}{j:St}{H:Hp}{s:az}{E:au->az->Prop}{a C T L:aD}{g:↑aD}{d f:Obj}
def KD(n:X.stack=X.env::X.outer)(K:X.env.frame=Y L)(I:Inv X i j H s)(x:XT H a C g T d f)(h:∀A y p c k,Inv X i j y A->XT y a C g p c k->(∀b o,b≠a->H b=Y o->y b=Y o)->Q () A):
  bx (aZ X.prog X.w) X.A (noteFrame (.ref a) X.env) (λ_ J=>bx (aZ X.prog X.w) X.A (ET (.ref a) M) Q E J) E s:=by
 let(vs,v,P,a0,R):=x.fl;let(ts,u,O):=x.tr;have m:=I.ok.frames;rw[n]at m;have l:=I.stack;rw[n]at l;refine Oi m l K (dI.get I.dS x.ea) v P R (dI.get I.dS x.eT) u O x.ne λS p B ext F =>?_
 let(c,q,k,r,g1,g2,g3,g4,g5,g6,D,g8,U,w):=ext;rw[<- n]at B;let(G,t):=Ky I.dS I.ye x.ea B g1 g8 F;refine h _ _ p c k (I.xk W G t I.bare λb z=>absurd z ż) (aP,g2.trans x.cls,g3.trans x.dict,(q,g4,g6,_,g5),D,by rw[aI D,aP],(r,U,w)) λb o N e =>?_
 rw[aI N,aI<|bc e<|I.dS.fresh<|pU F.symm];exact e
end
def find_erase{l:!a}(h:∀x,l[i]?=Y x->p x=Z_):(l.eraseIdx i).find? p=l.find? p:=by
 by_cases b:i<l.length
 .have e:l=l.take i++l[i]::l.drop (i+1):=Ż
  rw[List.eraseIdx_eq_take_drop_succ]
  conv=>rhs;rw[e]
  rw[EK,EK,jq,h _<|aE b]
 simp_all [List.eraseIdx_of_length_le]
def nsFind_erase{a:Array DictEntry}(h:StrKeys a)(e:a.findIdx? (λy=>y.key.isStr n)=Y i)(g:x≠n):nsFind (a.eraseIdxIfInBounds i) x=nsFind a x:=by
 let(b,c,_):=Bw.mp e;have j:a.eraseIdxIfInBounds i=a.eraseIdx i b:=by unfold Array.eraseIdxIfInBounds;rw[dif_pos b]
 have:(a.eraseIdx i b).find? (λy=>y.key.isStr x)=a.find? λy=>y.key.isStr x:=by
  rw[<- lB,<- lB,Array.toList_eraseIdx];refine find_erase λy f =>?_
  rw[Array.getElem?_toList,Array.getElem?_eq_getElem b]at f;cases f;let(m,t,d):=h a[i] ż;rw[d]at c ⊢;have c:(m==n)=true:=c;show (m==x)=Z_
  lia
 rw[j];show lu _ _=lu _ _;rw[this]
def A1(c:StrKeys b):StrKeys<|b.eraseIdxIfInBounds i:=λe a=>by
 refine c e ?_
 grind
section
variable {s:az}
def Oh{m:aM->↑au}{name:aM}(I:s.heap.Ns a m)(l:∃v,m name=Y v)(K:∀w C,w.Ns a C->(∀x,x≠name->C x=m x)->eE a s.heap w->Q Z' { s with heap:=w }):bx U A (nsDel a name) Q E s:=by
 let(o,f,z,n,H,F,D):=id I;let(v,l):=l;have u:∃i,f.findIdx? (λy=>y.key.isStr name)=Y i:=by
  cases q:f.findIdx? _ with
  |some i=>exact(i,W)|none=>
   have j:=D name;rw[l]at j;have j:lu _ _=Y v:=j;have:f.find? (λy=>y.key.isStr name)=none:=by rw[Array.find?_eq_none];intro x k G;rw[Array.findIdx?_eq_none_iff.mp q x k]at G;cases G
   rw[this]at j;cases j
 let(i,t):=u;let(r,p,_):=Bw.mp t;have h:nsHas name o=c9 true:=by rw[nsHas_eq];unfold nsHasByArray;rw[H];show (if (f.any _)=Z' then _ else _)=_;rw[if_pos<|Array.any_eq_true.mpr (i,r,p)]
 refine ai<|t6 n ?_;rw[h];refine ai<|aJ ?_;refine ai<|wpAny_updatePart n<|aJ ?_;let(c,d,L,B):=o;subst H;have e:Obj.dropName name { cls:=c,dict:=d,data:=R9 f z,slots:=B }={ cls:=c,dict:=d,data:=R9 (f.eraseIdxIfInBounds i)<|z+1,slots:=B }:=by rw[Obj.dropName_eq,Obj.dropNameByArray.eq_1,t]
 have g:=cR (Obj.dropName name) n (by rw[e];exact Ÿ);rw[e]at g;refine K _ _ (_,_,_,g,W,A1 F,λ_=>rfl) (λx k=>by rw[nsFind_erase F t k];exact D x) (ya _ _ _,λb J=>bH _ _<|bz J)
def EV{m:aM->↑au}(q:a.kindOf n=Y .local)(r:s.heap.Ns a.locals m)(p:(a.scope.kind == .class||a.scope.kind == .module&&a.locals != a.globals)=Z_)(h:∀j k,j.Ns a.locals k->(∀x,x≠n->k x=m x)->eE a.locals s.heap j->Q () { s with heap:=j,toks:=s.toks+1 }):
  bx U A (do bindName a n aU;unbindBehindTheSuite a n i) Q E s:=by
 refine ai<|wpAny_bindName<|wpAny_storeName_local q r (λl e c =>?_) p;refine wpAny_onRaise ?_;refine ai<|wpAny_point<|ai ?_;unfold deleteName;simp only[q];rw[if_neg<|by rw[p];simp];refine ai<|Oh e (_,if_pos W) λg f d t b =>?_;refine aJ<|wpAny_point<|h g f d (λx o =>?_)<|eE.trans c b;rw[t x o,if_neg o]
end
structure tW(o:Obj)(C:aD)(dx:↑aD):Prop where
 cls:o.cls=.ref C
 dict:o.dict=dx
 no:PySem.W.notCls o=true
noncomputable abbrev Cx.mark(X:Cx)(e:au):Cx:={ X with A:=X.A.mark<|Y e,calm:=Z_,xe:=λa a=>False }
section
variable {X:Cx}{s:az}
def Cx.Ok.mark{X:Cx}(a:X.Ok)(e:au):(X.mark e).Ok:=
 (a.mod,a.kind,a.glob,a.blt,a.above,a.inj,a.has,a.cab,λh=>(nomatch h),a.frames,a.stk,a.exf,a.bs,a.Sf,a.MH,a.QS,a.wo,a.WI)
def Inv.mark(I:Inv X B t H s)(e:au):Inv (X.mark e) B t H s:=(I.ok.mark e,I.os,I.bare,I.base,I.loc,I.cell,I.free,I.lQ,I.pin,I.dS,I.len)
def Inv.unmark(a:X.Ok)(I:Inv (X.mark e) B t H s):Inv X B t H s:=(a,I.os,I.bare,I.base,I.loc,I.cell,I.free,I.lQ,I.pin,I.dS,I.len)
def UP{g:Model}{L:Pos}(I:Inv X B t H s)(hN:X.N.Nodup)(hi:X.N[i]?=Y x)(hk:X.env.scope.names.lookup x=Y .local)(h:∀U,Inv X B (t.set i M) H U->Q () U):bx g A (do bindName X.env x aU;unbindBehindTheSuite X.env x L) Q E s:=by
 let(m,hn,hl):=id I.loc;have C:(X.env.scope.kind == .class||(X.env.scope.kind == .module&&X.env.locals != X.env.globals))=false:=by rw[I.ok.kind];exact Ÿ
 have v:i<t.length:=by rw[I.len];exact(aq.mp hi).1
 have D:=I.cne;have f:∀ {a:aD}{J:cG},(∃o,s.heap.get? a=Y o/\H a=M)->eE a s.heap J->lT X.prog X.w H J:=fun {a J} ha l b ob e=>by
  obtain _:=ha;refine(I.dS b ob e).uk (λc T F q=>(l.2 c ?_).trans q) (λG q=>q) λG G q=>q
  rintro rfl;obtain rfl|F:=F<;>lia
 refine EV hk hn C<|λJ m' P hm l =>?_;let(oL,_,_,O,_):=id hn;refine h _ (I.ok,I.os,I.bare,(λb o e n S u =>?_,λb o e n S u =>?_,I.base.free,λb o e u =>?_,I.base.CP,I.base.Bk,I.base.CQ),(_,P,λj y v' r K e3 =>?_),λy c e =>?_,I.free,I.lQ,λp hp =>?_,f (oL,O,I.free) l,by simpa using I.len)
 .exact(l.2 b<|bI<|bp (aO e) I.ok.above).trans<|I.base.keep b o e n S u
 .obtain⟨sl,r⟩:=I.base.slot b o e n S u;exact(sl,(l.2 b<|bI<|bp (aO e) I.ok.above).trans r)
 .obtain⟨o',r⟩:=I.base.there b o e u;exact(o',(l.2 b<|bI<|bp (aO e) I.ok.above).trans r)
 .by_cases R:j=i
  .subst R;rw[bG v]at K;cases K
  .rw[aw<|bz R]at K;let(u',r',q):=hl j y v' r K e3;refine(u',r',?_);obtain⟨k,e⟩|⟨k,c,e,z⟩:=q
   .refine .inl (k,?_);rw[hm y λe=>R<|zt hN r<|e ▸ hi];exact e
   .exact .inr (k,c,e,z.sameBut l<|D y c e)
 .obtain⟨T,z⟩:=I.cell y c e;exact(T,z.sameBut l<|D y c e)
 .obtain⟨e,n,ne,nf,d⟩:=I.pin p hp;exact((l.2 p.1 ne).trans e,n,ne,nf,d)
def M5{K:Model}(I:Inv X B t H s)(x:XT H a C w T G N)(h:∀n,Inv X B t H n->Q () n):bx K A (ET (.ref a) M) Q E s:=by
 let(J,z,u,_):=x.fl;let(k,e,r):=x.tr;have y:=dI.get I.dS x.ea;have m:=dI.get I.dS x.eT;have f:3<k.size:=(jW.mp r).1;have g:Obj.mapFields (λx=>x.setIfInBounds 3 aU) N=N:=by
  let(c,d,F,v):=N;subst e;show ((c,d,_,v):Obj)=_
  congr 2
  apply Array.ext
  .simp
  .intro i u D;by_cases p:3=i<;>simp_all
 refine ai<|i4 y z u ?_;refine nT m e f ?_;refine h _<|I.kept (t':=s.toks) λb o l =>?_;by_cases j:b=T
 .subst j;rw[m]at l;cases l;have q:=cR (Obj.mapFields _) m (by rw[g];exact Obj.isFreed_of_fields e);rw[g]at q;exact q
 simp_all [bH,bz]
def XT.aa9(x:XT H a C w T G N):tW G C w:=(x.cls,x.dict,by
 let(c,b,_):=x.fl;unfold PySem.W.notCls;rw[b])
def VU(I:Inv X B t H s)(k:H a=Y (dI a G))(d:tW G C<|Y w)(j:H w=Y (.xd e)):∃(b:Obj) (c:aM->↑au),PySem.W.InstAt s.heap a G C (Y b)/\(∀name,lookIn name b=Y (c name))/\∀f,oX (e.lookup f)<|c f:=by
 let(c,g,r):=I.dS w _ j;let(b,h,i):=B5 g;exact(b,c,(dI.get I.dS k,d.cls,d.no,by rw[d.dict];exact h),i,r)
structure Vz(K:aS)(C:aD)(f:aM):Prop where
 pg:XGa K C
 hd:nJ K C=true
 na:ic K (.ref C) f=some none
def aaT(K:aS)(d:TE)(f:aM):TE:=λt H Q=>d t H λx b=>∃a C w G c v,x=.ref a/\b a=Y (dI a G)/\tW G C (Y w)/\b w=Y (.xd c)/\Vz K C f/\c.lookup f=Y v/\Q v b
def Tv{f:aM}(p:PE X e d)(y:bJ e f X.env (eval e X.env)=eval e X.env):PE X (.Attribute e f b)<|aaT X.K d f:=by
 intro B s t H Q I h;refine Lx y<|eG (p B s t H _ I h) ?_;rintro u F ⟨x,E,c,k,a,C,w,G,L,v,z,D,j,A,g,l,q⟩;subst z;obtain rfl:u=aQ a:=k;let(K,m,J,o,r):=VU c D j A;let(u,n,i):=oX.some_of (v:=v) (o:=m f) ŷ;exact Od c.nW J g.pg (PySem.W.findObj_own g.hd g.na W<|by rw[o,n]) (Cb i) (v,E,c.tok _,i,q)
structure XIs(K:aS)(C:aD):Prop where
 pg:XGa K C
 hd:nJ K C=true
 ha:ic K (.ref C) "__class__" = some (some<|.builtin "object.__class__")
 hn:PySem.W.specialIn K (.builtin "object.__class__") "__get__" = some (some<|.builtin "getset_descriptor.__get__")
 htk:PySem.W.takesIn K (.builtin "object.__class__")=some true
 hm:PySem.W.mroIn K C (.type "object")=some true
def W8{wq:cQ}(I:Inv X B t H s)(k:H a=Y (dI a G))(g:tW G C w)(j:∀x,w=Y x->∃i,H x=Y (.xd i))(d:XIs X.K C)(e:jA X.K (.ref C) c=Y b)(h:∀f,Inv X B t H f->Q (.bool b) f):
  bx (aZ X.prog X.w) A (Jq (.builtin "isinstance") [.ref a,c]) Q E s:=by
 have J:∃m,PySem.W.InstAt s.heap a G C m:=by
  obtain _|w:=w
  .exact(M,dI.get I.dS k,g.cls,g.no,by rw[g.dict];trivial)
  .obtain⟨i,j⟩:=j w W;let(m,n,J,_):=VU I k g j;exact(_,J)
 let(m,J):=J;exact qy (Qj d.pg d.hd d.ha d.hn d.htk d.hm) I.nW J e (λz=>nomatch z) λl=>h _<|I.tok _
end
end L2
namespace L2
open PySem PySem.Spec PyProof.Rows
section
variable {X:Cx}{f:DF}
end
def XIn(H:Hp)(a C:aD)(d:↑aD):Prop:=(∃t,H a=Y (dI a { vE C t with dict:=d }))\/∃T b c,XT H a C d T b c
def Hi(P:bj)(w:cQ):WX:=λk H s E e b=>∃a C d T f h c,e=.ref a/\b.os=s.os/\Bx b.gens/\Un (yv k) [] H c s.heap b.heap/\lT P w c b.heap/\XT c a C d T f h/\E (.ref a) d c
section
variable {P:bj}{w:cQ}{K:aS}{l:aM->↑au}{base:cG}{N:!aM}{m:aM}{p:Scope}{f:aD}{r:au}{A:fJ}{k:!Env}{u s:az}{v H:Hp}{E:XK}{g:!(aD×Obj)}{j:St}{a C:aD}{d:↑aD}
def YJ(I:Inv (pJ (Hi P w) P w K l base N m p f r A k u v E) g j H s)(x:XIn H a C d)(G:∀i D,(∀b o,b≠a->H b=Y o->i b=Y o)->i a=Y (dI a D)->D.cls=.ref C->E (.ref a) d i):(pJ (Hi P w) P w K l base N m p f r A k u v E).xe (.ref a) s:=by
 obtain⟨t,R⟩|⟨T,D,oT,x⟩:=x
 .have hx:=dI.get I.dS R;refine EW I.ok.frames I.stack W hx W W W λh' T X ext S =>?_
  let(c,y,h,B,g1,Q,g3,g4,g5,g6,O,g8,g9,L):=ext;let(U,F):=Ky I.dS I.ye R X g1 g8 S;have J:=I.xk (s':={ s with heap:=h' }) (g:=[]) W U F I.bare (λb z=>absurd z ż);refine(a,C,d,T,c,h,_,W,J.os,J.bare,J.base,J.dS,(aP,Q,g3,(y,g4,g6,_,g5),O,by rw[aI O,aP],(B,g9,L)),G _ c (λb o hb e =>?_) aP Q);rw[aI hb,aI<|bc e<|I.dS.fresh<|pU S.symm];exact e
 .exact ai<|KD W W I x λs' i T' c h J q n=>(a,C,d,T',c,h,i,W,J.os,J.bare,J.base,J.dS,q,G i c n q.ea q.cls)
end
section
variable {X:Cx}{g:!(aD×Obj)}{j:St}{H:Hp}{s:az}
def Inv.Ls{w:XK}(I:Inv X g j H s)(c:Hi X.prog X.w X.stack H s w e t):∃a C d T i n h,e=.ref a/\Inv X g j h t/\XT h a C d T i n/\w (.ref a) d h:=by
 refine ah λkk =>?_
 let(a,C,d,T,i,n,h,rfl,A,f,y,o,x,q):=c;exact kk<|(a,C,d,T,i,n,h,W,I.xk A y o f λb z=>absurd z ż,x,q)
end
def XD(H:Hp)(n:Int)(a:aD):↑aD->Prop
 |some x=>x≠a/\H x=Y (.xd [("at",.int n)])|none=>True
structure XF(K:aS)(hb:Hp)(c:aM)(n:Int)(H:Hp)(a:aD)(dx:↑aD):Prop where
 cl:∃C oe,jf K aW c=some (some<|.ref C)/\H a=some (dI a oe)/\oe.cls=.ref C
 has:c = "NoSign" ->dx≠none
 dx:XD H n a dx
 same:bD hb H
 fr:hb a=none
def XF.step{K:aS}{H:Hp}{a:aD}{d:↑aD}{f:Obj}{C:aD}(x:XF K i c n H a d)(t:jf K aW c=Y (Y<|.ref C))(q:∀b o,b≠a->H b=Y o->h b=Y o)(y:h a=Y (dI a f))(w:f.cls=.ref C):XF K i c n h a d:=by
 refine((C,f,t,y,w),x.has,?_,λb o e=>q b o (λz =>?_)<|x.same b o e,x.fr)
 .have:=x.dx;cases d with
  |none=>trivial|some d=>exact(this.1,q _ _ this.1 this.2)
 .rw[z,x.fr]at e;cases e
structure Fl(X:Cx)(B:Bs)(c:aM)(n:Int)(H:Hp)(a:aD)(dx:↑aD):Prop where
 xf:XF X.K B.2 c n H a dx
 pin:∀i b,(i,b)∈B.3->b≠a
 xin:∃C,jf X.K aW c=some (some<|.ref C)/\XIn H a C dx
def CC(X:Cx)(B:Bs):Prop:=∀c n,B.4 c n->∀g j H s a d,Inv X g j H s->Fl X B c n H a d->X.xe (.ref a) s
inductive Xo (α:Type) where
 |ok (a:α)|er (c:aM) (n:Int)
structure OkX(P:bj)(w:cQ)(K:aS)(mg:aM->↑au)(base:cG)(c:aM)(k:Nat):Prop where
 ex:∃C fI fdI,jf K aW c=some (some<|.ref C)/\mg c=some (.ref C)/\XMk K C fI/\b_ P w K mg base gk k fI fdI ["self","at"] (yg C "at")/\Binds K fdI ["self","at"] []
section
variable {X:Cx}
noncomputable def JN(c:aM)(f:DF):DG:=λa=>(f a).bind λd=>match d with|.int n=>Y (.ex c n)|_=>M
set_option tactic.hygienic true in
def Nd{c:aM}{f:DF}(hx:OkX X.prog X.w X.K X.mg X.base c k)(hr:dn (k+1) X.A)(x:CC X B)(hg:Gl X c)(he:PE X e<|tP X.K Z f)(hp:B.3=[])(hc:@&(X.calm=true))(A:‹(c==("__debug__" : aM))=false›)(q:@&(ak [e] X.env=(Z_,eval e X.env)::ak [] X.env))(s:@&((b9 u<|ak [] X.env).any (·.1)=false)):
  PS X (.Raise (Y<|.Call (.Name c p) [e] [] u) M j) (gO X.K B l Z T<|JN c f):=by
 refine ah λkk =>?_
 let(C,fI,fdI,K,hm,y,F,hb):=hx.ex;refine kk<|(Pa y hc<|Pe y F hr hg hm hb (bZ he dw q) A q s).imp ?_;rintro D σ H ⟨G,ρ,o,S,g,k⟩;let(d,ef,g):=ae.1 g;split at g
 .rename_i n;cases g;refine(G,ρ,.int n,S.gh,S.hI,ef,λv G' H' E r =>?_);have R:=S.ext E;cases bY.mp r;refine(.int n,W,λa t Q N z w=>(a,t,Q,W,aP,λm s' I =>?_));refine x c n k m σ _ s' a (Y Q) I (((C,_,K,aP,W),λ_ z=>(nomatch z),(w,by rw[aI w,aP]),λb o e =>?_,R.h0.free N),λi b h=>Ż,C,K,.inl (t,aP));have J:=R.h0 b o e;have P:=bc J N;rw[aI P,aI<|bc J z,aI P];exact J
 .cases g
abbrev DX:=cf->↑(Xo D)
def agd(K:aS)(B:Bs)(G H:Hp)(Q:VK):Xo D->Prop
 |.ok d=>∀v b a,f_ G H b a->cM K b d v->Q v a|.er c n=>B.4 c n
inductive tX (K:aS) (B:Bs) (Z:!Nat) (f:DX) (b:St) (H:Hp) (Q:VK):Prop
 |mk G a o:SR K B Z G H b a->f a=some o->agd K B G H Q o->tX K B Z f b H Q
def yZ(f:DX):DG:=λa=>(f a).map λr=>match r with|.ok d =>.rt d|.er c n =>.ex c n
def D5{f:DX}(d:PE X e<|tX X.K B Z f):PS X (.Return (Y e) u)<|gO X.K B l Z T<|yZ f:=(mE d).imp λD m H (G,b,o,S,a,k)=>by
 let(r,g,a):=aj.1 a;refine(G,b,r,S,g,?_);cases r with
 |er c n=>cases a;exact k|ok q=>cases a;exact λv i h E r=>k v i h (S.kz.trans E) r
end
def agr(K:aS)(G H:Hp)(Q:VK)(E:XK):Xo D->Prop
 |.ok d=>∀v e a,f_ G H e a->cM K e d v->Q v a|.er c n=>∀x b a,XF K H c n a x b->E (.ref x) b a
inductive xC (K:aS) (F:!D->↑(Xo D)) (b:!V) (H:Hp) (Q:VK) (E:XK):Prop
 |mk G a r:bD G H->bB K G a b->F a=some r->agr K G H Q E r->xC K F b H Q E
noncomputable def Pu:DO->↑(Xo D)
 |.rt d=>Y (.ok d)|.ro a=>Y (.ok<|.lst a)|.nx _=>Y (.ok .cT)|.ex c n=>Y (.er c n)|_=>M
def y9(n N:Nat)(g:DG)(a:!D):↑(Xo D):=if a.length=n then (g<|fQ N a).bind Pu else M
section
variable {P:bj}{K:aS}
def gx.T5{f:aD}{R:!aM}(F:gx K x e z f fd)(S:fo N R<|bu z){Z Ź:!Nat}{g:DG}(D:∀i∈Z,R.length<=i) (hb:∀(p:au) (A:fJ) (b:!Env) (s:az) (H:Hp) (E:XK),dn k (A.deeper<|mj e (bu z) s.heap.objs.size f p)->∀(B:Bs),B.3=[]->CC (pJ (Hi P w) P w K y L N e (bu z) f p A b s H E) B ->
   mh (pJ (Hi P w) P w K y L N e (bu z) f p A b s H E) (fm z) (gO K B [] Z Ź g)):b_ P w K y L (Hi P w) (k+1) f fd R<|xC K<|y9 R.length N.length g:=by
 let(oc,od,kV,VJ,pm,an,p,ct,osl,rfl,lk,hcd):=F.ex;refine WK lk hcd S (λvs H Q E h =>?_)<|λA b s H vs Q E hr h =>?_
 .obtain⟨G,ds,r,gh,rr,m,_⟩:=h;unfold y9 at m;split at m
  .rw[<- rr.length];omega
  .cases m
 .obtain⟨G,ds,r,gh,rr,m,q⟩:=h;unfold y9 at m;split at m
  .have N5:CC (pJ _ P w K y L N e (bu z) f p A b s H E) (G,H,[],λc n=>∀x dx t,XF K H c n t x dx->E (.ref x) dx t):=λc n hf Bu σ H1 s1 x dx I fl=>by let(C,hC,xi):=fl.xin;exact YJ I xi λt oe h1 X h3=>hf x dx t (fl.xf.step hC h1 X h3)
   refine(_,hb p A b s H E hr _ W N5,?_);let(o,eg,m):=ae.1 m;refine(G,_,o,um gh rr Ż,eg,?_);cases o with
   |rt d'=>cases m;solve_by_elim|ro rs=>cases m;exact λa us J t E h1 X h3 r=>q _ _ t (E.freeze h1 X h3)<|cH.mpr (a,us,W,aP,bB.mono (.alloc X) rs r)
   |nx j=>cases m;exact λσ J t S=>q _ J t S.kz<|fc.mpr W
   |ex c n=>cases m;exact q|rm d j=>cases m|rf i j=>cases m|bk j=>cases m|ct j=>cases m
  .cases m
structure RN(P:bj)(w:cQ)(K:aS)(mg:aM->↑au)(base:cG)(c m:aM)(k:Nat)(sp:Sp):Prop where
 ex:∃C f fd ps,jf K aW c=some (some<|.ref C)/\Jn K C/\RQ K C m f/\b_ P w K mg base (Hi P w) k f fd ps sp/\Binds K fd ps []
end
section
variable {X:Cx}
inductive EX (K:aS) (B:Bs) (f:au) (d:↑aD) (H:Hp):Prop
 |mk a e c n:f=.ref a->d=e->XF K B.2 c n H a e->(∀i b,(i,b)∈B.3->b≠a)->B.4 c n->EX K B f d H
def abA(f:CC X B):nR (Hi X.prog X.w) X<|EX X.K B:=λb i H s e k I c=>by
 let(a,C,E,T,p,q,F,rfl,J,d,K,D,c,n,x,w,g,r,v):=I.Ls c;cases x;cases w;let(G,o,t,A,z):=g.cl;have h:=dI.get J.dS A;rw[dI.get J.dS d.ea]at h;cases h;have:C=G:=by have:=d.cls.symm.trans z;lia
 subst this;exact f c n v b i F k a E J (g,r,C,t,.inr (T,p,q,d))
noncomputable def o_(c m:aM)(F:!D->↑(Xo D))(f:DF)(g:DL):DX:=λa=>(f a).bind λx=>match x with
 |.ins d b h=>if d=c/\m∉b then (g a).bind λe=>F<|.ins d b h::e else M
 |_=>M
set_option tactic.hygienic true in
def LY{m:aM}{F:!D->↑(Xo D)}{f:St}(n:jf X.K aW c=Y (Y<|.ref C))(hp:B.3=[])(ht:∀f H Q,AO X.K Z g f H Q->t f H Q)(h:tX X.K B Z (o_ c m F A g) f H Q):wQ C m (xC X.K F) [] (EX X.K B) (tP X.K Z A) t f H Q:=by
 let(G,r,d,S,e,q):=h;have gh:=S.gh;have k:=S.hI;unfold o_ at e;rw[ae]at e;let(x,I,e):=e;split at e
 .split at e
  .rename_i hc;let(rfl,hm):=hc;rcases E:g r with _|xs
   .simp_all
   rw[E]at e;refine(G,r,_,gh,k,I,λv G1 H1 w N =>?_);refine ah λkk =>?_
   let(a,C',dx,vs,rfl,P,ha,_):=jh.mp N;rw[n]at P;cases P;refine kk<|(a,dx,_,W,w.gh _ _ ha,fh (K:=X.K) (G:=G1) hm,ht _ _ _ (G1,r,xs,w.gh,k.ext w,E,λus G2 H2 K r2 =>?_));rw[bT];refine(G2,_,d,K.gh,.cons (cM.mono K.gg _ N) r2,e,?_);have p:=w.trans K;cases d with
   |ok d'=>exact λv G3 H3 E3 r3=>q v G3 H3 (p.trans E3) r3
   |er c2 n2=>
    intro x J H' s;have j:=λb o z=>p.hh _ _<|S.h0 b o z
    refine(x,J,c2,n2,W,W,(s.cl,s.has,s.dx,λb o z=>s.same b o<|j b o z,?_),λi b R=>Ż,q);rcases z:B.2 x with _|o
    .exact Ÿ
    have:=j x o z;rw[s.fr]at this;cases this
  .cases e
 .cases e
def Ae{c m:aM}{F:!D->↑(Xo D)}{p:DF}{g:DL}(h:RN X.prog X.w X.K X.mg X.base c m k<|xC X.K F)(s:dn k X.A)(d:CC X B)(t:B.3=[])(v:PE X o<|tP X.K Z p)(E:PA X (e::O)<|AO X.K Z g)(a:@&(ak (e::O) X.env=(Z_,eval e X.env)::ak O X.env))(b:@&((b9 u<|ak O X.env).any (·.1)=false)) (r:@&(eval (.Call (.Attribute o m U) (e::O) [] u) X.env=(do
   let i <- eval o X.env
   jJ U.atName
   let(f,first) <- iy [i] (iV i m pl)
   l7 u f first (b9 u<|ak (e::O) X.env) (ey u<|cD [] X.env)))):PE X (.Call (.Attribute o m U) (e::O) [] u)<|tX X.K B Z<|o_ c m F p g:=by
 refine ah λkk =>?_
 let(C,f,K,J,n,x,w,G,A):=h.ex;exact kk<|(nC v x w G s A .nil (abA d) E a b r).imp λI H Q q=>LY n t (λj j j z=>z) q
end
section
variable {X:Cx}{f:aD}{m:aM}{s:Pos}
def MK{b:Model}(e:h.get? a=Y o)(c:o.cls=v):PySem.W.Looks b h (Jp<|.ref a) v:=by
 exact λA Q E s k q=>ai<|t6 (k _ _ e)<|aJ<|c ▸ q
def abl{s:az}{P R:au->az->Prop}(F:b_ X.prog X.w X.K X.mg X.base (Hi X.prog X.w) k f O J w)(m:dn k X.A)(v:Binds X.K O J [])(I:Inv X B y H s)(r:cx j c)(q:w j H Q E)(p:∀u b,EP X B y Q u b->P u b)(g:∀a C d T o n h b,Inv X B y h b->XT h a C d T o n->E (.ref a) d h->R (.ref a) b):bx (aZ X.prog X.w) X.A (Jq (.ref f) c) P R s:=by
 have t:(c++[]).length=J.length:=by rw[bT,<- r.length];exact F.len _ _ _ _ q
 have i:=v s c I.nW t;rw[bT]at i;refine pR<|nU (F.run X.A _ s H _ c j _ _ m I.U8 i r q) λr l e =>?_;cases r with
 |ok z=>
  cases z with
  |ret u=>exact p _ _ (I.after e)|next=>solve_by_elim|brk=>solve_by_elim|cont=>solve_by_elim
 |error D=>let(a,C,d,T,o,n,h,rfl,A,x,q2):=I.Ls e;exact g a C d T o n h l A x q2
end
end L2
namespace L2
open PySem PySem.Spec PyProof.Rows
section
variable {X:Cx}{m:Pos}
def Ag:mh X a<|gO X.K B l Z own1 λ_=>M:=Mq.imp <|by rintro D b H ⟨_,_,_,_,e,_⟩;cases e
end
open PySem.W in
noncomputable def wx(K:aS)(C:aD)(d:↑au):Bool:=match K.lookup C with
 |some (t,_,.cls a,c)=>t == .type "type" && a.mro.head? == Y (.ref C)&&c.size==6&&c[4]? == Y (Y<|.builtin "ValueError.__new__") && (not a.hasDel)&&a.hasDict&&tailIn K [.type "ValueError",.type "Exception",.type "BaseException",.type "object"] a.mro.tail&&a.mro.tail.contains (.type "BaseException")&&nsOkIn K a.ns&&jf K a.ns "__init__" == Y d
 |_=>Z_
set_option tactic.hygienic true
def abJ{K:aS}{v:↑au}(e:PySem.W.nsOkIn K N=Z')(q:jf K N x=Y v):∃b:aM->↑au,(∀h:cG,K.In h->h.Ns N b)/\b x=v:=by
 unfold PySem.W.nsOkIn at e;split at e
 .rename_i c d g n l f;refine(_,λh X=>(_,g,n,X _ _ f,W,λi a =>?_,λ_=>rfl),?_)
  .have:=Array.all_eq_true'.mp e i a;split at this<;>simp_all
  .unfold jf at q;rw[f]at q;simp only at q;split at q
   .rename_i i k;cases q;unfold nsFind findBy;rw[<- lB,k];simp
   .rename_i k;split at q<;>cases q
    unfold nsFind findBy;rw[<- lB,k];simp
 .cases e
def VT{K:aS}(q:wx K C i=Z'):XM K C i:=by
 unfold wx at q;split at q
 .rename_i t J L k E;simp only[bh,beq_iff_eq,Bool.not_eq_true']at q;obtain⟨⟨⟨⟨⟨⟨⟨⟨⟨rfl,h⟩,l⟩,f⟩,a⟩,b⟩,D⟩,g⟩,c⟩,d⟩:=q;let(y,u,z,x,w,P,v,e,O,j,I):=L;obtain _|⟨s,_|⟨r,_|⟨p,_|⟨o,_|⟨n,_|⟨m,_|_⟩⟩⟩⟩⟩⟩:=k<;>try cases l
  cases f;dsimp only at h a c d b D g;obtain _|⟨_,N⟩:=z<;>cases h
  subst a b;let(A,G,F):=abJ c d;exact(y,w,x,u,N,_,v,e,O,j,J,s,r,p,o,m,_,_,_,_,_,_,_,A,PySem.F.excBase_ValueError,Ÿ,PySem.F.excBase_ValueError,g,E,λh X=>(PySem.W.tail_of_in X D,G h X),F)
 .cases q
set_option tactic.hygienic false
def W7{K:aS}(q:wx K C (Y<|.ref i)=Z')(H:PySem.W.typeIn K (.ref i)=Y (.type "function"))(B:jU K (.ref C)=Z'):XMk K C i:=(VT q,H,B)
def hR.get{P:bj}(x:hR P w H h a o):∃u,h.get? a=Y u:=by
 cases o with
 |lst c=>let(_,_,_,_,e):=x;exact(_,e)
 |tup c=>let(_,_,_,o,e,_):=x;exact(_,e)
 |dK b n=>let(_,_,_,_,o,_,e,_):=x;exact(_,e)
 |dT b=>let(_,_,_,_,o,_,_,e,_):=x;exact(_,e)
 |set S n=>let(o,_,_,_,e,_):=x;exact(_,e)
 |ins C l d=>let(_,_,_,e,_):=x;exact(_,e)
 |Z y=>exact x|xd d=>obtain⟨_,⟨_,_,_,e,_⟩,_⟩:=x;exact(_,e)
 |rng lo k=>let(_,_,_,e):=x;exact(_,e)
 |KU j u=>let(e,_):=x;exact(_,e)
 |V2 i=>exact(_,x)|met f y=>exact(_,x)|ext g=>exact x.2.1
section
variable {X:Cx}
def Inv.abY{a:aD}{o:HO}{t:Nat}{h:cG}{s:az}(I:Inv X B y H s)(k:∀b u,s.heap.get? b=Y u->h.get? b=Y u)(e:s.heap.get? a=M)(d:hR X.prog X.w (cO H a o) h a o):H a=M/\Inv X B y (cO H a o) { s with heap:=h,toks:=t }:=by
 have n:H a=none:=by
  rcases q:H a with _|u
  .rfl
  .obtain⟨v,r⟩:=(I.dS a u q).get;rw[e]at r;cases r
 refine(n,I.un (λb u q i i i=>k b u q,λb u q i i i=>(u.slots,k b u q),λb u q m i =>?_,λb u q i=>(u,k b u q),λb f q=>by rw[aI<|bc q n];exact q,λb u f q=>by rw[aI<|bc q n];exact q,λb g q=>(#[],by rw[aI<|bc q n,q];trivial)) λb u q =>?_)
 .rw[aI λz=>by rw[z,e]at q;cases q];exact m
 .by_cases z:b=a
  .subst z;rw[aP]at q;cases q;exact d
  .rw[aI z]at q;exact(I.dS b u q).uk (λc v i q=>k c v q) (λc q=>by rw[aI<|bc q n];exact q) λc f q=>by rw[aI<|bc q n];exact q
structure GY(K:aS)(C:aD):Prop where
 cl:XM K C none
 kp:jU K (.ref C)=true
def Sl{K:aS}(q:wx K C M=Z')(B:jU K (.ref C)=Z'):GY K C:=(VT q,B)
def JH(C:aD):TE:=λ_ H Q=>∀a t,H a=M->Q (.ref a) (cO H a<|dI a<|vE C t)
def Mv(Da:GY X.K C)(w:Gl X x)(v:X.mg x=Y (.ref C))(A:‹(x==("__debug__" : aM))=false›):PE X (.Call (.Name x p) [] [] u)<|JH C:=by
 intro B s t H Q I h;let(U,q,N,bs,bm,L,R,k,ab,G,dd,k0,k1,k2,k3,k5,Bb,Bn,b,l,a,o,K,mN,O,f,P,y,lk,z,c):=Da.cl;refine c8<|lW I w v ?_ A;refine PySem.W.callWith_K0 I.nW Da.kp ?_;let(T,r):=z _ I.nW;have D:=LN I.nW lk;let(hh,g,d,j,S):=s;refine wpAny_call_exc_subU O f P T D r c (λE e m =>?_)<|dr _;let(i,F,_,_):=m.there;let(n,J):=I.abY (a:=e) (o:=dI e<|vE C i) (h:=E) (t:=j) m.keeps m.new (dI.ok F);exact(.ref e,_,J,W,h e i n)
def Mr(Da:GY X.K C)(L:X.calm=Z')(K:PE X e<|JH C):PS X (.Raise (Y e) M u) (λ_ y H=>∀a t,H a=M->∀B s,Inv X B y (cO H a<|dI a<|vE C t) s->X.xe (.ref a) s):=by
 intro B s y H D I h;let(p,q,N,R,bm,T,l,d,U,g,Q,F,E,A,z,x,Bb,Bn,b,r,c,G,S,mN,Fn,O,FB,f,lk,hT,J):=Da.cl;rw[arm_exec_Raise];refine ai<|l6 ?_;refine ub (C:=C) (nm:=p) (q:=q) (N:=N) (bs:=R) (hdct:=Z') (sn:=l) (sub:=d) (ab:=U) (col:=g) (dd:=Q) (k0:=F) (k1:=E) (k2:=A) (k3:=z) (k5:=x) (newId:=b) f (I.ok.hd L) ?_;refine ai<|eG (K B s y H (λv j=>∃a t,v=.ref a/\j a=Y (dI a<|vE C t)/\∀B s,Inv X B y j s->X.xe (.ref a) s) I λa t n=>(a,t,W,aP,h a t n)) ?_;rintro k m ⟨v,j,i,o,a,t,rfl,P,w⟩;obtain rfl:k=aQ a:=o;refine ai<|l6<|aJ ?_;exact(a,_,_,W,LN i.nW lk,dI.get i.dS P,W,W,W,w _ m i)
structure Jk(K:aS)(mg:aM->↑au)(c:aM):Prop where
 ex:∃C,jf K aW c=some (some<|.ref C)/\mg c=some (.ref C)/\GY K C
noncomputable def yh(c:aM):DG:=λ_=>Y<|.ex c 0
def wB(f:Jk X.K X.mg c)(x:CC X B)(v:Gl X c)(q:B.3=[])(n:‹c ≠ "NoSign"›)(w:@&(X.calm=true))(A:‹(c==("__debug__" : aM))=false›):PS X (.Raise (Y<|.Call (.Name c p) [] [] u) M j)<|gO X.K B l Z T<|yh c:=by
 let(C,K,r,E):=f.ex;refine(Mr E w<|Mv E v r A).imp ?_;rintro D d H ⟨G,y,o,S,g,k⟩;cases g;intro a t N m s I;refine x c 0 k m d _ s a M I (((C,_,K,aP,W),λz=>absurd z n,nc,λb o e =>?_,S.h0.free N),λi b h=>(by rw[q]at h;cases h),C,K,.inl (t,aP));have J:=S.h0 b o e;rw[aI<|bc J N];exact J
def rF(s:Sk)(F:!D->↑(D×D))(i:Nat)(g:DL):DM:=λb=>(gr s i b).bind λt=>(g b).bind λa=>(F<|t::a).map λr=>(r.1,(bP i b).set i<|Y<|.obj s r.2)
def Cj{s:Sk}{F:!D->↑(D×D)}(ho:iC X.prog X.w X.K X.mg X.base x k<|spT X.K s F)(hr:dn k X.A)(hg:Gl X x)(h1:PE X (.Name y p)<|eS i)(ha:PA X a<|AO X.K b g)(l:‹i∈b›)(J:‹(x==("__debug__" : aM))=false›)(S:@&(ak (.Name y p::a) X.env=(Z_,eval (.Name y p) X.env)::ak a X.env))(I:@&((b9 n<|ak a X.env).any (·.1)=false)):
  PE X (.Call (.Name x u) (.Name y p::a) [] n) (tM X.K B b<|rF s F i g):=by
 let(f,fd,ps,hm,hk,hh,r):=ho.ex;refine(pw hm hr hg hk hh r .nil ju (bZ h1 ha S) J S I).imp ?_;rintro σ H Q ⟨G,A,d,A',R,e,c⟩;let(t,e1,e):=ae.1 e;let(mz,e3,e):=ae.1 e;obtain⟨⟨d',v⟩,e4,e⟩:=aj.1 e;cases e;let(K,T,q,_):=R.tree l<|bX e1;refine(_,q,G,A,mz,R.gh,R.hI,e3,λL G1 H1 C O =>?_);have z:=R.ext C;let(a1,T1,j,P,U,k1,F1,wz,hF):=z.tree l<|bX e1;rw[q]at j;cases j;exact(G1,t,mz,d',v,K,T1,L,z.gh,ż,P,U,λx h=>(k1 x h).1,O,e4,λw m G2 H2 E o n f N=>c w G2 H2 (z.vi wz hF l (bX e1) q E o n f) (C.gg.trans E.gg) N)
def zE(s:Sk)(F:!D->↑(D×D))(j l:Nat)(c a:DF):DM:=λb=>(gr s j b).bind λt=>(c b).bind λe=>(a b).bind λd=>(gM l b).bind λq=>if OE q=Z' then (F [t,e,d,.lst q]).map λr=>(o5 r.1,(bP j b).set j<|Y<|.obj s<|o5 r.2) else M
set_option tactic.hygienic true in
def Rf{s:Sk}{F:!D->↑(D×D)}{mz:Expr}(ho:iC X.prog X.w X.K X.mg X.base x k<|spT X.K s F)(hr:dn k X.A)(hg:Gl X x)(h1:PE X (.Name y p)<|eS i)(h2:PE X mz<|tP X.K g f1)(h3:PE X j<|tP X.K g f2)(h4:PE X (.Name z q)<|eS l)(P:‹i∈g›)(gl:‹l∈g›)(il:‹i≠l›)(ok:@&(MF s=true))(J:‹(x==("__debug__" : aM))=false›)(S:@&(ak (.Name y p::[mz,j,.Name z q]) X.env=(Z_,eval (.Name y p) X.env)::ak [mz,j,.Name z q] X.env))(S1:@&(ak (mz::[j,.Name z q]) X.env=(Z_,eval mz X.env)::ak [j,.Name z q] X.env))(S2:@&(ak (j::[.Name z q]) X.env=(Z_,eval j X.env)::ak [.Name z q] X.env))(S3:@&(ak (.Name z q::[]) X.env=(Z_,eval (.Name z q) X.env)::ak [] X.env))(I:@&((b9 n<|ak [mz,j,.Name z q] X.env).any (·.1)=false)):
  PE X (.Call (.Name x u) [.Name y p,mz,j,.Name z q] [] n) (tM X.K B g<|zE s F i l f1 f2):=by
 let(f,fd,ps,hm,hk,hh,r):=ho.ex;refine(pw hm hr hg hk hh r .nil ju (bZ h1 (bZ h2 (bZ h3 (bZ h4 dw S3) S2) S1) S) J S I).imp ?_;rintro σ H Q ⟨G,A,d,A',R,e,c⟩;unfold zE at e;let(t,e1,e):=ae.1 e;let(d1,e2,e):=ae.1 e;let(d2,e3,e):=ae.1 e;let(ql,e4,e):=ae.1 e;split at e
 .rename_i sq;obtain⟨⟨d',v⟩,e5,e⟩:=aj.1 e;cases e;let(va,T,ca,_):=R.tree P<|bX e1;refine(_,ca,G,A,d1,R.gh,R.hI,e2,λv1 G1 H1 E1 r1 =>?_);have R1:=R.ext E1;refine(G1,A,d2,R1.gh,R1.hI,e3,λv2 K C E2 r2 =>?_);have R2:=R1.ext E2;let(N,wz):=R2.ow;let(L,cl,oc):=wz.it l _ gl<|dB e4;obtain⟨⟨ob,hL,vs,rfl,rr⟩,fl⟩:=(jy.cell (d :=.lst ql) W).mp oc;let(_,kl):=wz.ok l _ gl<|dB e4;let(a1,U,oa):=wz.it i _ P<|bX e1;rw[ca]at U;cases U;let(n1,k1):=wz.ok i _ P<|bX e1;have Ln:K L=none:=(kl L<|by rw[fl];simp).1;have LT:L∉N i:=λz=>wz.ap i l _ _ P gl (bX e1) (dB e4) il L z (by rw[fl];simp)
  refine(_,cl,?_);show spT X.K s F _ C Q E0;have sn:∀b∈[L],K b=none:=λb h=>by simp at h;rw[h];exact Ln
  have O:=iG (H:=C) sn;have s3:iP K C [L] L=Y (.lst vs):=by rw[j1<|by simp];exact hL
  have pn:∀b∈N i,iP K C [L] b=none:=λb h=>by rw[iB<|by simp;exact λz=>LT<|z ▸ h];exact(k1 b h).1
  refine(iP K C [L],t,[d1,d2,.lst ql],d',v,va,N i,[v1,v2,.ref L],jL R2.gh,W,oa.mono O λa a a h=>h,n1,pn,.cons (cM.mono (E2.gg.trans O) _ r1)<|.cons (cM.mono O _ r2)<|.cons (cH.mpr (L,vs,W,s3,bB.mono O _ rr)) .nil,e5,λw m G3 H3 E o n f rv =>?_);have ep:iP K C [L]=iP K (dg C<|N i) [L]:=funext λb=>by
   by_cases z:b∈[L]
   .rw[j1 z,j1 z];simp at z;subst z;rw[bC LT]
   .rw[iB z,iB z]
  rw[ep]at E;have sl:bD K<|dg C<|N i:=λb o e=>by rw[bC λz=>by rw[(k1 b z).1]at e;cases e];exact R2.gh b o e
  let(E',_):=vc sl sn (λb h=>by simp at h;subst h;exact(.lst vs,by rw[bC LT];exact hL,λa z=>by cases z)) E;have lk:∀b∈[L],LkA G3 b:=λb h=>by simp at h;subst h;rw[ep]at s3;refine abW sq (E.gg _ _ s3)<|bB.mono ?_ _ rr;rw[ep]at O;exact O.trans E.gg
  have hF:N i=N i:=rfl;refine c w (dg G3 [L]) H3 (R2.vi wz hF P (bX e1) ca E' (bQ.tw lk o ok) n λb h=>(?_,(f b h).2)) ((E1.gg.trans E2.gg).trans E'.gg)<|Dg lk _ rv;by_cases z:b∈[L]
  .exact dW z
  .rw[bC z];exact(f b h).1
 .cases e
def Tj(i:mh X.Ig b t):PS X (.Try b (h::e) [] [] p) t:=λB s U H D I q=>by
 refine wpAny_Try_except<|dE (i B s U H D (I.xq _) q) (λf j g =>?_) λk k z=>dN z;cases f with
 |next=>let(a,d,c,n):=g;exact mi (a,d,c.mn,n)
 |brk=>let(a,d,c,n):=g;exact(a,d,c.mn,n)
 |cont=>let(a,d,c,n):=g;exact(a,d,c.mn,n)
 |ret u=>let(v,a,d,c,r,n):=g;exact(v,a,d,c.mn,r,n)
def abh(K:aS)(N:aD)(h:Sp)(j:Nat)(t:TA)(g:TS):TS:=λD c H=>t c H λd i=>h d i (λk k=>False) λA I f=>∃a C,A=.ref a/\PySem.W.exmOne K (.ref C) (.ref N)=Y Z'/\(∃e,f a=Y (dI a e)/\e.cls=.ref C) /\
 ∀p e z,f a=Y (dI a p)->(∀b o,b≠a->f b=Y o->z b=Y o)->z a=Y (dI a e)->tW e C I->g { nx:=λn P=>D.nx (n.set j M) P,rt:=λk k=>False } (c.set j<|Y<|.ref a) z
def Tn{cn:aM}{f N:aD}{v:Pos}{j:Nat}(F:b_ X.prog X.w X.K X.mg X.base (Hi X.prog X.w) k f fd ps sp)(hr:dn k X.A)(hg:Gl X g)(hm:X.mg g=Y (.ref f))(hk:jU X.K (.ref f)=Z')(hbi:Binds X.K fd ps [])(ha:PA X.Ig (e::Q) t)(S:X.N.Nodup)(R:X.N[j]?=Y n)(E:X.env.scope.names.lookup n=Y .local)(J:Gl X cn)(FN:X.mg cn=Y (.ref N))(A:X.stack=X.env::X.outer)(hf:X.env.frame=Y L)(x:∀a,mh (X.mark<|.ref a) (U::BB) G)(hdb:‹(g==("__debug__" : aM))=false›)(K:‹(cn==("__debug__" : aM))=false›)(he:@&(ak (e::Q) X.env=(Z_,eval e X.env)::ak Q X.env))(hpl:@&((b9 c<|ak Q X.env).any (·.1)=false))(w:@&(cm (.Call (.Name g p) (e::Q) [] c) (Y<|.Name y p1) v.line X.env=c9 false)):
  PS X (.Try [.Assign [.Name y p1] (.Call (.Name g p) (e::Q) [] c) v] (.ExceptHandler (Y<|.Name cn T) (Y n) (U::BB) pc::l) [] [] h) (abh X.K N sp j t G):=by
 intro B s σ H D I q;refine wpAny_Try_except<|RW<|wpAny_Assign_Name ?_ w;refine c8<|lW I hg hm ?_ hdb;refine PySem.W.callWith_K (h₀:=X.base) I.ok.mod.YQ hk (dE (ha c B s σ H _ (I.xq _) q) (λus s1 g =>?_) λV V z=>dN z) he hpl;let(vs,H1,I1',r,q):=g;refine(I1'.nW,?_);refine abl F hr hbi I1'.mn r q (λu b z =>?_) ?_
 .obtain⟨_,_,_,_,z⟩:=z;exact dN z
 rintro a C' dx P oe oT H2 s' o q ⟨a2,C,ec,mz,⟨oe2,k,m⟩,q2⟩;cases ec;have O:=dI.get o.dS k;rw[(dI.get o.dS q.ea)]at O;cases O;have:C'=C:=by cases q.cls.symm.trans m;rfl
 subst this;refine KD A hf o q λs3 H3 T3 t oT3 r d i =>?_
 refine wpAny_handleBy_cons ?_ λz=>nomatch z
 refine codeAny_handlers_test<|lW (r.mark<|.ref a) J FN ?_ K;refine(PySem.W.exm_one r.nW (MK (dI.get r.dS d.ea) d.cls) mz).here ?_;show ml _ _ _ _ _;refine codeAny_handlers_suite_as<|M5 r d λs4 I4 =>?_;refine uj I4 S R (.inl E) (show RelV (.ref a) _ from W) (λs5 I5 =>?_)<|.inr E;refine dE (x a B s5 _ _ _ (I5.mark<|.ref a)<|q2 oe t H3 q.ea i d.ea d.aa9) (λfl s6 f =>?_) λV V z=>dN z
 cases fl with
 |next=>let(σ',H6,I6,q6):=f;exact UP (I6.unmark I.ok) S R E λs7 I7=>(_,_,I7,q6)
 |brk=>let(_,_,_,z):=f;exact dN z
 |cont=>let(_,_,_,z):=f;exact dN z
 |ret u=>let(_,_,_,_,_,z):=f;exact dN z
abbrev NO:=cf->↑(Bool×cf)
inductive SJ (K:aS) (B:Bs) (Z:!Nat) (f:NO) (c:St) (H:Hp) (Q:Bool->Hp->Prop):Prop
 |mk G e b a:SR K B Z G H c e->f e=some (b,a)->(∀g h,SR K B Z g h c a->Q b h)->SJ K B Z f c H Q
def Ff(o:D->D->↑D)(d b:DM):NO:=λa=>(m2 o d b a).bind λp=>match p.1 with|.bl c=>Y (c,p.2)|_=>M
def J7{s:DM}{m:Pos}(z:AS X (d_ q) o)(I:PE X a<|tM X.K B e t)(F:PE X b<|tM X.K B e s)(E:fB q b=Z_):PT X (.Compare a [q] [b] m)<|SJ X.K B e<|Ff o t s:=(Di z I F E).imp λA H Q (G,x,c,i,S,L,k)=>by
 obtain⟨⟨d,j⟩,g,f⟩:=ae.1 L;cases d with
 |bl h=>cases f;exact O4 (G,x,_,_,S,g,λv w O u N y=>(_,cY.mp y,k w O u))
 |_=>cases f
def Fc(f:DM):NO:=λa=>(f a).bind λp=>match p.1 with|.bl c=>Y (c,p.2)|_=>M
def J4{f:DM}{b}(h:PE X e<|tM X.K B b f)(g:autoParam (∀a,isTrue e X.env a=(do let v <- a;jJ e.pos;iy [v]<|truthy v)) ũ):PT X e<|SJ X.K B b<|Fc f:=(sV h g).imp λA H Q (G,x,c,i,S,L,k)=>by
 obtain⟨⟨d,j⟩,m,l⟩:=ae.1 L;cases d with
 |bl n=>cases l;exact(G,x,_,_,S,m,λv w O u N y=>(_,cY.mp y,k w O u))
 |_=>cases l
def Fd(f:NO):NO:=λa=>(f a).map λp=>((not p.1),p.2)
def J5{f:NO}{m:Pos}{b}(i:PT X a<|SJ X.K B b f):PT X (.UnaryOp .Not a m)<|SJ X.K B b<|Fd f:=(HV i).imp λA H Q (G,x,c,i,S,L,k)=>by
 obtain⟨⟨d,j⟩,g,e⟩:=aj.1 L;cases e;exact(G,x,_,_,S,g,k)
def SK(f g:NO):NO:=λa=>(f a).bind λp=>if p.1=Z' then Y (Z',p.2) else g p.2
def X6{f:NO}{m:Pos}{e}(o:PT X a<|SJ X.K B e f)(n:PT X b<|SJ X.K B e g):PT X (.BoolOp .Or [a,b] m)<|SJ X.K B e<|SK f g:=(PW.pt<|Wf o<|O6 n).imp λA H Q (G,x,c,i,S,L,k)=>by
 obtain⟨⟨d,j⟩,q,p⟩:=ae.1 L;refine(G,x,d,j,S,q,λg h l =>?_);cases d with
 |true=>grind|false=>exact i9 (g,j,c,i,l,p,k)
def BO(c:NO)(g h:DG):DG:=λa=>(c a).bind λp=>if p.1=Z' then g p.2 else h p.2
def D6{f:NO}{e}(j:PT X c<|SJ X.K B e f)(m:mh X a<|gO X.K B I e own1 g)(l:mh X b<|gO X.K B I e own1 h):PS X (.If c a b J)<|gO X.K B I e own1<|BO f g h:=(uG j m l).imp λD C H (G,A,o,S,d,k)=>by
 obtain⟨⟨c,n⟩,q,i⟩:=ae.1 d;refine(G,A,c,n,S,q,λg h p =>?_);cases c with
 |true=>exact qm (g,n,o,p,i,k)|false=>exact i9 (g,n,o,p,i,k)
def XH{K:aS}{s v:Sk}{F:!D->↑(D×D)}(h:spT K s F l H Q E):Me K s v F l H Q E:=by
 let(G,t,m,d,u,a,T,n,B,e1,ot,A,y,r,b,q):=h;refine(G,t,m,d,u,a,T,n,B,e1,ot,A,y,r,b,λp S C c e E w i k x I j =>?_);have g:=λb f=>(j b f).1
 have J:∀b∈S,dg H T b=none:=λb f=>(j b f).2.1.elim dW λz=>by grind [dW,bC]
 refine q _ C _ e (E.hh,E.gg.trans<|iG g,jL E.gh,λb o h =>?_) (w.mono (iG g) λb f o h=>h) i (λb f=>(?_,(k b f).2))<|x.frozen g λb h=>h
 .by_cases z:b∈S
  .simp_all
  .rw[iB z]at h;exact E.fr b o h
 .rw[iB λz=>(j b z).2.2 f];exact(k b f).1
def ad8{s:Sk}:PE X (.Dict [] [] g)<|Fe X.K l (.dt s) Op:=FP.imp <|by
 rintro i H Q ⟨G,j,d,e,h,f,k⟩;cases f;exact λq a=>k _ [q] G _ (f_.lay e a) (.dt aP W .nil) ż λb c=>by simp at c;subst c;exact(e.free a,a)
def Vm{f:aM}{F:Expr}{i k:Int}{q r t:Nat}{S R P:Pos}(c1:PE X J<|tP X.K a<|eK<|.int i)(c2:PE X I<|tP X.K a<|eK<|.int j)(c3:PE X F<|tP X.K a<|eK<|.int k)(s:‹g≠f›)(L:‹g≠h›)(K:‹f≠h›):
  PE X (.Dict [Y<|.Constant (.str g) l S,Y<|.Constant (.str f) o R,Y<|.Constant (.str h) n P] [J,I,F] b) (tP X.K a<|eK<|.fM [bw g,bw f,bw h] [.int i,.int j,.int k]):=
 (Tw (ze pq c1<|ze pq c2<|ze pq c3 To) W W ż ż).imp <|by
  rintro w H Q ⟨G,x,d,t,v,u,T⟩;cases u;intro q p;have S0:bD G<|cO H q<|.dK [] 0:=t.trans<|.alloc p;have D:f_ G H G<|cO H q<|.dK [] 0:=f_.lay t p;refine(G,x,_,S0,v.ext D,W,λv1 G1 H1 A O=>(G1,x,_,A.gh,(v.ext D).ext A,W,λv2 G2 H2 C N=>(G2,x,_,C.gh,((v.ext D).ext A).ext C,W,λv3 B H3 E3 mz =>?_)));cases bY.mp O;cases bY.mp N;cases bY.mp mz;have E:=(A.trans C).trans E3;refine(E.hh _ _ aP,[(bw g,.int i),(bw f,.int j),(bw h,.int k)],W,ż,λm =>?_);have e:vZ [] [((bw g:hW),V.int i),(bw f,V.int j),(bw h,V.int k)]=[(bw g,.int i),(bw f,.int j),(bw h,.int k)]:=by
   show kP (kP (kP [] (bw g)<|V.int i) (bw f)<|V.int j) (bw h) (V.int k)=_;have h1:kP [] (bw g:hW) (V.int i)=[(bw g,V.int i)]:=zc (kvs:=[]) _ W;have h2:kP [((bw g:hW),V.int i)] (bw f) (V.int j)=[(bw g,V.int i),(bw f,V.int j)]:=zc _ (by rw[k6<|λz=>s<|Sum.inr.inj z];rfl);have h3:kP [((bw g:hW),V.int i),(bw f,V.int j)] (bw h) (V.int k)=[(bw g,V.int i),(bw f,V.int j),(bw h,V.int k)]:=zc _ (by rw[k6<|λz=>L<|Sum.inr.inj z,k6<|λz=>K<|Sum.inr.inj z];rfl)
   simp_all
  rw[e];have U:B q=none:=by
   rcases z:B q with _|o
   .rfl
   .obtain y|y:=E.fr _ _ z
    .rw[t.free p]at y;cases y
    simp_all [aP]
  refine T _ (cO B q<|.dK [(bw g,.int i),(bw f,.int j),(bw h,.int k)] m) _ (λb o y =>?_,E.gg.trans<|.alloc U,λb o y =>?_,λb o y =>?_)<|kR.mpr (q,[.int i,.int j,.int k],W,(m,aP),W,.cons (bY.mpr W)<|.cons (bY.mpr W)<|.cons (bY.mpr W) .nil)
  .have c:=bc y p;rw[aI c];exact E.hh _ _ (by simp_all [aI])
  .by_cases c:b=q
   .simp_all [aP]
   .rw[aI c]at y ⊢;exact E.gh _ _ y
  .by_cases c:b=q
   .simp_all
   .rw[aI c]at y;obtain z|z:=E.fr _ _ y
    .exact .inl z
    simp_all [aI]
def rH(c m:aM)(F:!D->↑(!D))(e:DF)(g:DL):DL:=λd=>(e d).bind λx=>match x with
 |.ins b a f=>if b=c/\m∉a then (g d).bind λq=>F<|.ins b a f::q else M
 |_=>M
set_option tactic.hygienic true in
def Ck{m}{F}{p}(h:dQ X.prog X.w X.K X.mg X.base c m k<|wW X.K F)(R:dn k X.A)(S:PE X o<|tP X.K u p)(L:PA X (e::J)<|AO X.K u g)(he:@&(ak (e::J) X.env=(Z_,eval e X.env)::ak J X.env))(bb:@&((b9 A<|ak J X.env).any (·.1)=false)) (P:@&(eval (.Call (.Attribute o m I) (e::J) [] A) X.env=(do
   let y <- eval o X.env
   jJ I.atName
   let(f,first) <- iy [y] (iV y m pl)
   l7 A f first (b9 A<|ak (e::J) X.env) (ey A<|cD [] X.env)))):PE X (.Call (.Attribute o m I) (e::J) [] A)<|tF X.K u<|rH c m F p g:=by
 let(C,f,fd,ps,n,i,gg,j,T):=h.ex;refine(nC S i gg j R T .nil ju L he bb P).imp ?_;rintro σ H Q ⟨G,t,d,gh,r,b,q⟩;let(x,s,D):=ae.1 b;split at D
 .split at D
  .rename_i i;let(rfl,g0):=i;let(qq,U,b3):=ae.1 D;refine(G,t,_,gh,r,s,λv B H1 e w =>?_);let(a,C',dx,vs,rfl,z,L,l,rs):=jh.mp w;rw[n]at z;cases z;refine(a,dx,_,W,e.gh _ _ L,fh (K:=X.K) (G:=B) g0,B,t,qq,e.gh,r.ext e,U,λus B2 H2 N r2 =>?_);rw[bT];have O:=e.trans N;exact(B2,_,d,N.gh,.cons (cM.mono N.gg _ w) r2,b3,λmz E G3 H3 E3 j h2 h3 K=>q mz E G3 H3 (O.trans E3) (O.hh.free j) h2 h3 K)
  .cases D
 .cases D
def eO(i:Nat):DF:=λa=>(eV i a).bind λd=>match d with
 |.obj _ t=>Y t|_=>M
def vO(i:Nat)(f:@&(X.N[i]?=Y x))(c:autoParam (WV X.env.scope x) Ű)(e:‹(x==("__debug__" : aM))=false›)(b:‹(x==("__classdict__" : aM))=false›)(d:‹i∉g›):PE X (.Name x a)<|tP X.K g<|eO i:=(vP i f c e b d).imp <|by
 rintro w H Q ⟨G,x,d,t,v,u,k⟩;let(m,j,h):=ae.1 u;split at h
 .cases h;exact(G,x,_,t,v,j,λl o n e r=>k _ _ _ e<|lU.mp r)
 .cases h
def GL{fk:!(aM×Sk)}{F:!D->↑(D×D)}(h:rg X.prog X.w X.K X.mg X.base c k<|spT X.K (.fs c fk) F)(I:dn (k+1) X.A)(O:Gl X c)(B:‹(c==("__debug__" : aM))=false›):PE X (.Call (.Name c p) [] [] J)<|Fe X.K r (.fs c fk)<|hJ c F aN:=by
 let(C,f,fd,ps,n,L,N,P,a):=h.ex;refine(Pj N P I O L a .nil ju B).imp ?_;rintro σ H Q ⟨G,ρ,d,g,mz,i,q⟩;unfold hJ aN at i;rw[av]at i;obtain⟨⟨U,c'⟩,R,i⟩:=ae.1 i;cases U<;>simp only[]at i<;>try (cases i;done)
 cases i;intro x s m j A;have K:=g.free m;refine(G,_,[],.cT,_,x,[x],[],(g.trans<|(bD.alloc j).trans<|.alloc<|by rw[aI<|bz A];exact m),W,.ins n aP W .nil,ż,λb a=>by simp at a;subst a;exact K,.nil,R,λv T' G2 H2 t w E T l=>(fc.mp l,?_));have S:∀b o,H b=Y o->dg (cO (cO H s<|.Z x) x<|.ins C s []) [x] b=Y o:=λb o e=>by have a:=bc e m;rw[bC (by simpa using a),aI a,aI<|bc e j];exact e
 refine q _ T' G2 H2 (λb o e=>t.hh b o<|S b o e,t.gg,t.gh,λb o e =>?_) w E λb a=>((T b a).1,?_)
 .obtain z|z:=t.fr b o e
  .exact .inl z
  .refine .inr ?_;rcases y:H b with _|u
   .rfl
   rw[S b u y]at z;cases z
 .rcases(T b a).2 with z|z
  .simp at z;subst z;exact m
  .rcases y:H b with _|u
   .rfl
   rw[aI<|bc y m,aI<|bc y j,y]at z;cases z
end
end L2
namespace K21
open PySem L2
local macro_rules | `(tactic|walk_at "s") =>return mk0 "(T!exact exact (M!anonymousCtor ⟨ (null %rfl , %rfl , %rfl , %Ų , %rfl , %Ų , %Ų ) ⟩ ) )" #[]
theorem ű{p:Prop}(h:autoParam p ŗ):p:=h
noncomputable def Nu(c y G:!Nat):!Nat:=c.filter λi=> (not (y.contains i||G.contains i))
section
variable {X:Cx}{c y G:!Nat}{e:Expr}
def acB(b:PS X N<|gO X.K B I c c g)(a:mh X O<|gO X.K B I c L h):mh X (N::O)<|gO X.K B I c L<|a_ g h:=aB b a
def afX{f:DF}(h:PE X e<|tP X.K (Nu c y G) f)(a:‹lE c (Nu c y G) y G=true›):PE X e<|tP X.K c<|qo y G f:=Rk _ y G h a
def afR{f:DT}(h:PT X e<|qg X.K (Nu c y G) f)(a:‹lE c (Nu c y G) y G=true›):PT X e<|qg X.K c<|wO y G f:=Lc _ y G h a
def afW{f:DL}(h:PE X e<|tF X.K (Nu c y G) f)(a:‹lE c (Nu c y G) y G=true›):PE X e<|tF X.K c<|U6 y G f:=WQ _ y G h a
def mQ{Z:!Nat}{f:DL}(N:!aM)(src:!(↑Nat))(e:PI X (.Name x l) O<|BE X.K Z f)(k:∀C s H b,PE (X.qr N T C s H b) m<|tP X.K [] fe)(S:autoParam (d6 X N src T) ő)(j:@&(X.calm=true))(a:‹∀i∈[0],src[i]?=Y none›)(n:autoParam (N.Nodup) ţ)(p:autoParam (N.Nodup->∀C s H b,PG (X.qr N T C s H b) (.Name x l)<|g_ 0) Ő)(d:‹ig Z [] src=true›)(c:autoParam (∀x,bW O X.env x=c9 x) ũ):PE X (.ListComp m [(.Name x l,O,[],0)] T u)<|tF X.K Z<|wu f src (gN 0) gu fe:=
 Ro S j e (j9 0) a (uY 0) (λC s H b=>(p n C s H b,j5,k C s H b)) d c
end
noncomputable abbrev KL:!(aM×aM):=[("Coming","able"),("Coming","facts"),("Coming","full"),("Coming","opened"),("Coming","rests"),("Coming","rows"),("Coming","taken"),("Facts","asks"),("Facts","bits"),("Facts","by_name"),("Facts","by_text"),("Facts","inner"),("Facts","leads"),("Facts","question"),("Facts","starred"),("Facts","stars"),("Row","atoms"),("Row","fits"),("Row","hoped"),("Row","hoped_around"),("Row","named"),("Row","number"),("Row","reached"),("Row","reached_around"),("Sift","coming"),("Sift","numbers"),("Tray","depth"),("Tray","sifts"),("Tray","taken")]
noncomputable abbrev ZL:!aM:=["ValueError","all","any","bool","enumerate","int","isinstance","len","list","range","sorted","str","tuple","zip"]
structure KS(K:aS)(mg:aM->↑au):Prop where
 c:∀p∈KL,pP K p.1 p.2
 z:∀x∈ZL,mg x=none
def KS.q{K:aS}{t:aM->↑au}{c f:aM}(k:autoParam (KS K t) ŏ)(h:‹(c,f)∈KL›):pP K c f:=k.c _ h
def KS.y{K:aS}{t:aM->↑au}{x:aM}(k:autoParam (KS K t) ŏ)(h:‹x∈ZL›):t x=none:=k.z _ h
def asm{p:Prop}(h:autoParam (p) ŏ):p:=h
local macro_rules
|`(tactic|walk_at "o") =>
 let f(s x:String):="(M!app %"++(s.splitOn ":").headD ""++" (null "++String.join (((s.splitOn ":").getLastD "").toList.map fun c=>if c=='x' then x else (("?ariqynpvf".toList.zip ("(M!syntheticHole ? _ ) /%asm /%rfl /(M!app (M!dotIdent . %inl ) (null %rfl ) ) /%KS.q /%KS.y /(M!app %kJ (null (M!hole _ ) ) ) /(M!app %pv (null (M!hole _ ) ) ) /%dH /(M!fun fun (M!basicFun (null (M!hole _ ) (M!hole _ ) ) (null ) => (M!syntheticHole ? _ ) ) ) ".splitOn "/")).lookup c).getD "(M!hole _ ) ")++") ) "
 let q(s:String):="(T!tacticSeq (T!tacticSeq1Indented (null "++s++") ) ) "
 return mk0 ("(T!repeat' repeat' "++q ("(T!first first (null "++String.join (("PE:__x tP:__x qo:___|afX:?/PE:__x tF:__x U6:___|afW:?/PT:__x qg:__x wO:___|afR:?/mh:___|dO: b7:? acB:?? Ag:/PS:___|wA:ari? ja:??? mO:? vf:? Vg:??q Ld:ari? afU:?? Q9:? D4:ari? yy:? ad0:? Zw:???q Q7:??q afT:?ari? ad2:??q pH:vr?ff aau:?? ds_asg:?? ad1:??? ds_frz:ari? afS:??q adZ:? Lf:ari? ad3:ari??q D3:ari? Ah: acC:ari? acD:?/PE:__x tQ:___|vQ:_ dvo:p dq:?/PE:__x tP:___|vP:_ nQ: wC: rJ:?q acN:?? Rm:??? Rj:? df:? yB:aar? ahE: ZF:ry? acM:aa?? I_:???n I_:???r ZD: ZE:? ad7:?q I':?? ahC:?? af0:? ZC:? ahD:??? afY:??? de_methF0:aa? de_max:rry?? af1:?/PE:__x tF:___|Rn:? qY:aar? afZ:??? de_addF:?? Cm:aa? acL:ry? ad6:ry?/PE:__x tM:____|GG:aa?? D9:? Rc:? aax:aa? ahB:??? D_:aar?? dm_callP:aar? dm_if:???/PE:__x Xw:____|aaw:aa? aav:aaq?? dmf_meth:aa?? acH:?/PA:__x AO:___|gm:?? mR:/PA:__x Xx:____|qW:?? Li:/PT:___|tO:???n tO:???r D2:? mM:? PW.pt:?/PW:___|Lb:? Q0:?? afQ:? ahA:??/PI:____|kU:? Nn:ry? ad4:ry? di_items:? di_lt:? di_keys:? di_rev:ry?/PE:__x Fe:____|Vo:aar? af3: af4: ad8:/NL:___|afg: ag4: aff:/PO:___|acF:? acG:/PE:__x eS:_|pv:_/PG:__x Hd:____|ad5:? afV:? acK:?/PGs:___|qO:?? Kb:/AS:___|agV: adC: Yw: aeZ: ae3: ae2: adB: Wk: agU: PR: agW: ae1: ae0: od_notB: od_isN: T8: od_notin: od_addT:|/AS:___|Kl:a Kk:a od_inD:a/PG:___|gR:ari Pd:r?".splitOn "/").map fun s=>
  let p:=s.splitOn "|"
  let h:="(T!show show "++((p.headD "").splitOn " ").foldr f "(M!hole _ ) "++") "
  let a:="(T!first first (null "++String.join (((p.getD 1 "").splitOn " ").map fun s=>"(group | "++q ("(T!refine refine "++f s "(M!hole _ ) "++") ")++") ")++") ) "
  let w(s:String):="(T!withReducible with_reducible "++q s++") "
  "(group | "++q (if p.length<3 then w h++"; "++a else w (h++"; "++a))++") ")++") ) ")++")") #[]
theorem Ŷ{p:Prop}(h:autoParam p Ŗ):p:=h
noncomputable def kG(i:Nat):cS:=PySem.Challenge.pw_earlysift_k14_trays.main.body.getD i<|.Pass (0,0,0,0)
noncomputable abbrev u9:!(aM×Sk):=[("by_name",.di),("by_text",.di),("leads",.li .lf)]
abbrev aR:Sk :=.fs "Facts" u9
noncomputable abbrev rG:!(aM×Sk):=[("rows",.li<|.fs "Row" [])]
abbrev bg:Sk :=.fs "Coming" rG
abbrev pD:!(aM×Sk):=[("coming",bg)]
abbrev cy:Sk :=.fs "Sift" pD
abbrev yw:!(aM×Sk):=[("sifts",.dt cy)]
abbrev cj:Sk :=.fs "Tray" yw
abbrev t3:=eK<|.int 1
def xU:DG:=(a_ (gd Z_ 0 "Facts" "bits" (λi j=>i+j) t3)<|fS<|mP<|qo [0] []<|e2 r8 t3<|e2 xG (cz "Facts" "bits"<|eV 0) t3)
def gB:!D->↑(D×D):=kj 1 1 aR xU
abbrev cr:=kG 11
abbrev om:cS:=cL cr 1
abbrev o0:=eK<|.int 0
def tK:DG:=(a_ (k_ 2<|cI "Facts" "new_bit" aR gB 0 oH)<|a_ (hZ (gP<|e2 nX (e2 dh (eV 1) o0)<|eK<|.str<|ar "inner") (gd Z_ 0 "Facts" "inner" fD<|eV 2) cX)<|a_ (hZ (gP<|e2 nX (e2 dh (eV 1) t3)<|eK<|.str<|ar "*") (a_ (gd Z_ 0 "Facts" "starred" fD<|eV 2)<|gd Z_ 0 "Facts" "stars" (λi j=>i+j) t3)<|y6 0 "Facts" "by_name" (e2 dh (eV 1) t3)<|mP<|qo [0] []<|e2 N0 (GB (cz "Facts" "by_name"<|eV 0) (e2 dh (eV 1) t3) o0)<|eV 2)<|fS<|mP<|eV 2)
def gf:!D->↑(D×D):=kj 2 3 aR tK
abbrev lK:cS:=cL cr 3
abbrev pi:=km (mP<|eV 0) oH
def Bj:DG:=(fS<|uS (iL<|eV 1) [M,Y 0] (gN 0) (cI "Facts" "enter_step" aR gf 1 pi) 1 0 aR)
def gK:!D->↑(D×D):=kj 2 2 aR Bj
abbrev mw:cS:=cL cr 2
noncomputable abbrev sG:!aM:=["self","steps"]
abbrev ut:=gP<|e2 (Ie Z') (eV 1)<|cz "Facts" "by_text"<|eV 0
def tJ:DG:=(a_ (hZ (wO [0] [] ut) (y6 0 "Facts" "by_text" (eV 1)<|cI "Facts" "new_bit" aR gB 0 oH) cX)<|fS<|mP<|qo [0] []<|e2 BX (cz "Facts" "by_text"<|eV 0)<|eV 1)
def dD:!D->↑(D×D):=kj 2 2 aR tJ
abbrev lJ:cS:=cL cr 4
def mV:DG:=(Wb 0 "Facts" "leads"<|gQ<|aC (eV 6)<|aC (gQ<|aC (e2 N0 (e2 dh (eV 5) o0)<|eV 7)<|aC (e2 dh (eV 5) t3) aN) aN)
abbrev db:=aC (eV 3) aN
def DV:DG:=(a_ (eY 4<|e2 ik (eF<|fSl (eV 2) (pS t3) pN)<|eF<|f7 db)<|kI (iZ3 (eV 1) (eV 2)<|eV 4) (WH 5 6 7) mV)
def l4:!D->↑(D×D):=kj 4 8 aR DV
abbrev so:cS:=cL cr 6
def lG:DG:=(a_ (wY 1 fD<|e2 dh (eV 3) o0)<|JR 2<|e2 dh (eV 3) t3)
abbrev Db:=aC (eV 2) aN
abbrev sB:=f7 aN
def Bi:DG:=(a_ (eY 1 o0)<|a_ (lO 2 sB)<|a_ (kI (iL<|eV 0) (gN 3) lG)<|gc<|gQ<|aC (eV 1) Db)
def kX:!D->↑D:=la 1 4 Bi
abbrev qG:cS:=kG 12
section
variable {P:bj}{w:cQ}{K:aS}{mg:aM->↑au}{base:cG}{f:aD}{fd:dU}
def vV(F:gx K "new_bit" "Facts.new_bit" om f fd)(kk:KS K mg):b_ P w K mg base gk 1 f fd ["self"]<|spT K aR gB:=
 F.Dr ["self"] [0] [0] (by walk_at "s") λa a a a a a a a a a a=>
  by walk_at "o"
def rW(F:gx K "enter_step" "Facts.enter_step" lK f fd)(kk:KS K mg)(xQ:dQ P w K mg base "Facts" "new_bit" 1<|spT K aR gB):b_ P w K mg base gk 2 f fd ["self","step"]<|spT K aR gf:=
 F.Dr ["self","step","bit"] [0] [0] (by walk_at "s") λa a a a a a a hr a a a=>
  (aB Ŷ<|aB Ŷ<|aB (ja Ŷ Ŷ<|b7<|GD (c:= "Facts") (nG hr) (pv 0) Ŷ (D9<|Rk [] [0] []<|Rm Wk (dq<|Eb (nG hr) Ŷ Ŷ nQ (W,W,W,W))<|vQ 2) kk.q) Ŷ)
def zo(F:gx K "enter" "Facts.enter" mw f fd)(IG:dQ P w K mg base "Facts" "enter_step" 2<|spT K aR gf):b_ P w K mg base gk 3 f fd ["self","steps"]<|spT K aR gK:=
 F.Dr sG [0] [0] (by walk_at "s") λb b b outer s H b b B a hB=>
  (b7<|vf<|IZ (i0:=1) (j0:=0) (s:=aR) (N:=[("step" : aM),("self" : aM)]) (src:=[M,Y 0]) (kN (outer:=bu mw) (oN:=sG) W Ų W W) W (kU<|vP 1) (j9 0) ſ (mJ _ 0 1) (λC s H ex=>(gR (i:=0) (show ([("step" : aM),("self" : aM)]:!aM).Nodup by decide +kernel) W (jB W),j5,Zx λB a hB=>Ŷ)))
def rV(F:gx K "enter_text" "Facts.enter_text" lJ f fd)(kk:KS K mg)(xQ:dQ P w K mg base "Facts" "new_bit" 1<|spT K aR gB):b_ P w K mg base gk 2 f fd ["self","text"]<|spT K aR dD:=
 F.Dr ["self","text"] [0] [0] (by walk_at "s") λa a a a a a a hr a a a=>
  (aB (ja (Lc [] [0] []<|wy (nG hr) (vQ 1) Ŷ) (b7<|GD (c:= "Facts") (nG hr) (pv 0) (vP 1) Ŷ kk.q) dO) (b7<|vf<|D9<|Rk [] [0] []<|Ea (nG hr) Ŷ<|vQ 1))
def A6(F:gx K "lead" "Facts.lead" so f fd)(kk:KS K mg):b_ P w K mg base gk 1 f fd ["self","asks","bits","end"]<|spT K aR l4:=
 F.Dr ["self","asks","bits","end","follows","ask","bit","follow"] [0] [0] (by walk_at "s") λa a a a a a a a B a hB=>
  (aB Ŷ<|b7<|pH dH W (Vk W kk.y (vP 1) (vP 2)<|vP 4) (λB hB=>Ŷ)<|λB hB=>Ŷ)
def zl(F:gx K "joined_asks" "joined_asks" qG f fd):b_ P w K mg base gk 1 f fd ["asks"]<|iW K kX:=
 F.ES ["asks","need","choices","ask"] [2] [2] (by walk_at "s") λa a a a a a a a a a=>
  (aB Ŷ<|aB Ŷ<|aB Ŷ<|kM (own1:=[]) 2 Ŷ)
end
abbrev Re:=eF sB
abbrev Uf:=eK<|.str<|ar "has"
abbrev lw:=eK<|.str<|ar "text"
abbrev AC:=eK<|.str<|ar "one"
abbrev TD:=eK<|.str<|ar "any"
def eM(p:!D->↑(D×D))(q:!D->↑(D×D)):DG:=(a_ (hZ (gP<|e2 nX (e2 dh (eV 1) o0) TD) (fS<|mP<|gQ<|aC o0<|aC Re aN) cX)<|a_ (hZ (gP<|e2 nX (e2 dh (eV 1) o0) lw) (fS<|tq<|km (cI "Facts" "enter_text" aR dD 0<|km (mP<|e2 dh (eV 1) t3) oH)<|km (mP Re) oH) cX)<|a_ (hZ (gP<|e2 nX (e2 dh (eV 1) o0) Uf) (fS<|tq<|km (cI "Facts" "enter_has" aR q 0<|km (mP<|e2 dh (eV 1) t3) oH)<|km (mP Re) oH) cX)<|a_ (k_ 2<|uS (iL<|e2 dh (eV 1) t3) [M,Y 0] (gN 0) (cI "Facts" "asked" aR p 1 pi) 1 0 aR)<|a_ (hZ (gP<|e2 nX (e2 dh (eV 1) o0) AC) (fS<|mP<|gQ<|aC o0<|aC (eF<|f7 Db) aN) cX)<|fS<|mP<|bF kX Db)
abbrev mx:cS:=cL cr 7
noncomputable abbrev sI:!aM:=["self","wish","asks"]
abbrev f8:=eK<|.int 2
abbrev ul:=km (mP<|e2 dh (eV 0) f8) oH
def nH(p:!D->↑(D×D))(q:!D->↑(D×D)):DG:=(a_ (k_ 2<|cI "Facts" "enter" aR gK 0<|km (mP<|eV 1) oH)<|a_ (jY<|cI "Facts" "lead" aR l4 0<|km (uS (iL<|eV 1) [M,Y 0] (gN 0) (cI "Facts" "asked" aR p 1 ul) 1 0 aR)<|km (mP<|eV 2)<|km (mP o0) oH)<|fS<|mP<|e2 dh (eV 2) o0)
abbrev jD:cS:=cL cr 5
noncomputable abbrev nI:!aM:=["self","steps","bits"]
abbrev bn:=aC (e2 dh (eV 0) f8) aN
def u5(p:!D->↑D)(q:!D->↑D):DG:=(wX<|wu (iL<|eV 0) [M] (gN 0) gu<|gQ<|aC (e2 dh (eV 0) o0)<|aC (e2 dh (eV 0) t3)<|aC (bF q bn) aN)
abbrev BI:cS:=kG 15
abbrev Sc:=aC (eV 0) aN
abbrev Ch:=aC (eK<|.str<|ar "both")<|aC AC aN
abbrev No:=gP<|e2 nX (e2 dh (eV 0) o0) Uf
abbrev sw:=gP<|e2 (T9 Z_) (e2 dh (eV 0) o0)<|gQ Ch
def nP(p:!D->↑D)(q:!D->↑D):DG:=(a_ (hZ No (gc<|gQ<|aC Uf<|aC (bF p<|aC (e2 dh (eV 0) t3) aN) aN) cX)<|a_ (hZ sw (gc<|gQ<|aC (e2 dh (eV 0) o0)<|aC (eF<|wu (iL<|e2 dh (eV 0) t3) [M] (gN 0) gu<|bF q Sc) aN) cX)<|gc<|eV 0)
abbrev qH:cS:=kG 16
abbrev v6:=aC (eV 1) aN
abbrev Ev:=eK<|.bl Z_
abbrev Fa:=gc Ev
def yu(p:!D->↑D):DG:=(a_ (hZ (gP<|e2 F2 (e2 iQ (eV 1)<|e2 dh (eV 0) o0)<|e2 dh (eV 0) o0) Fa cX)<|gc<|bF (iR Z')<|aC (eF<|wu (iL<|e2 dh (eV 0) t3) [M,Y 1] (gN 0) gu<|bF (iR Z_)<|aC (eF<|wu (iL<|eV 0) [M,Y 1] (gN 0) gu<|bF p<|aC (eV 0) v6) aN) aN)
abbrev Fj:cS:=kG 13
abbrev kw:=eK<|.bl Z'
def tI(p:!D->↑D):DG:=(a_ (hZ No (gc<|bF (iR Z')<|aC (eF<|wu (iL<|e2 dh (eV 0) t3) [M] (gN 0) gu<|bF p bn) aN) cX)<|a_ (hZ (gP<|e2 nX (e2 dh (eV 0) o0)<|eK<|.str<|ar "both") (gc<|bF (iR Z')<|aC (eF<|wu (iL<|e2 dh (eV 0) t3) [M] (gN 0) gu<|bF p Sc) aN) cX)<|a_ (hZ (gP<|e2 nX (e2 dh (eV 0) o0) AC) (gc<|bF (iR Z_)<|aC (eF<|wu (iL<|e2 dh (eV 0) t3) [M] (gN 0) gu<|bF p Sc) aN) cX)<|gc kw)
abbrev wU:cS:=kG 14
mutual
noncomputable def cE:Nat->!D->↑(D×D)
 |0=>λ_=>M
 |n+1=>kj 2 3 aR<|eM (cE n)<|cK n
noncomputable def cK:Nat->!D->↑(D×D)
 |0=>λ_=>M
 |n+1=>kj 2 3 aR<|nH (cE n)<|cK n
end
mutual
noncomputable def jR:Nat->!D->↑D
 |0=>λ_=>M
 |n+1=>la 1 1<|u5 (jR n)<|dz n
noncomputable def dz:Nat->!D->↑D
 |0=>λ_=>M
 |n+1=>la 1 1<|nP (jR n)<|dz n
end
noncomputable def j_:Nat->!D->↑D
 |0=>λ_=>M
 |n+1=>la 2 2<|yu<|j_ n
noncomputable def gE:Nat->!D->↑D
 |0=>λ_=>M
 |n+1=>la 1 1<|tI<|gE n
section
variable {P:bj}{w:cQ}{K:aS}{mg:aM->↑au}{base:cG}{f:aD}{fd:dU}
def zq{n:Nat}(F:gx K "asked" "Facts.asked" mx f fd)(IF:dQ P w K mg base "Facts" "enter_text" (n+3)<|spT K aR dD)(KP:dQ P w K mg base "Facts" "enter_has" (n+3)<|spT K aR<|cK n)(sD:dQ P w K mg base "Facts" "asked" (n+3)<|spT K aR<|cE n)(Sb:iC P w K mg base "joined_asks" (n+3)<|iW K kX):b_ P w K mg base gk (n+3+1) f fd ["self","wish"]<|spT K aR<|cE<|n+1:=
 F.Dr sI [0] [0] (by walk_at "s") λnd b b outer s H b b B a hB=>
  (aB Ŷ<|aB Ŷ<|aB Ŷ<|aB (Ai (i:=2) (i0:=1) (j0:=0) (s:=aR) (N:=[("other" : aM),("self" : aM)]) (src:=[M,Y 0]) (kN (outer:=bu mx) (oN:=sI) W Ų W W) W nd W W Ŷ (j9 0) ſ (mJ _ 0 1) (λC s H ex=>(gR (i:=0) (show ([("other" : aM),("self" : aM)]:!aM).Nodup by decide +kernel) W (jB W),j5,Zx λB a hB=>Ŷ))) Ŷ)
def s_{n:Nat}(F:gx K "enter_has" "Facts.enter_has" jD f fd)(Bh:dQ P w K mg base "Facts" "enter" (n+3)<|spT K aR gK)(DQ:dQ P w K mg base "Facts" "lead" (n+3)<|spT K aR l4)(sD:dQ P w K mg base "Facts" "asked" (n+3)<|spT K aR<|cE n):b_ P w K mg base gk (n+3+1) f fd ["self","steps"]<|spT K aR<|cK<|n+1:=
 F.Dr nI [0] [0] (by walk_at "s") λb b b outer s H b hr B a hB=>
  (aB Ŷ<|aB (Q9<|GG DQ hr (pv 0)<|qW (IZ (i0:=1) (j0:=0) (s:=aR) (N:=[("step" : aM),("self" : aM)]) (src:=[M,Y 0]) (kN (outer:=bu jD) (oN:=nI) W Ų W W) W (kU<|vP 1) (j9 0) ſ (mJ _ 0 1) (λC s H ex=>(gR (i:=0) (show ([("step" : aM),("self" : aM)]:!aM).Nodup by decide +kernel) W (jB W),j5,Zx λB a hB=>Ŷ))) Ŷ) Ŷ)
def MD{n:Nat}(F:gx K "copied" "copied" BI f fd)(Bg:iC P w K mg base "copied_wish" (n+0)<|iW K<|dz n):b_ P w K mg base gk (n+0+1) f fd ["steps"]<|iW K<|jR<|n+1:=
 F.ES ["steps"] [] [] (by walk_at "s") λa a a a s H a a a a=>
  (b7<|yy<|mQ ["step"] [M] (kU<|vP 0) λC s H ex=>Ŷ)
def zm{n:Nat}(F:gx K "copied_wish" "copied_wish" qH f fd)(Qz:iC P w K mg base "copied" (n+0)<|iW K<|jR n)(Bg:iC P w K mg base "copied_wish" (n+0)<|iW K<|dz n):b_ P w K mg base gk (n+0+1) f fd ["wish"]<|iW K<|dz<|n+1:=
 F.ES ["wish"] [] [] (by walk_at "s") λa a a a s H a a a a=>
  (aB Ŷ<|aB (ja Ŷ (b7<|mO<|Rj<|gm Ŷ<|gm (df<|mQ ["other"] [M] Ŷ λC s H ex=>Ŷ) mR) dO) Ŷ)
def PK{n:Nat}(F:gx K "meets" "meets" Fj f fd)(kk:KS K mg)(KH:iC P w K mg base "meets" (n+0)<|iW K<|j_ n):b_ P w K mg base gk (n+0+1) f fd ["ask","atoms"]<|iW K<|j_<|n+1:=
 F.ES ["ask","atoms"] [] [] (by walk_at "s") λa a a a s H a a a a=>
  (aB Ŷ<|b7<|mO<|Ja W W kk.y<|dq<|df<|mQ ["choice","atoms"] [M,Y 1] Ŷ λC s H ex=>(Rp W W kk.y<|dq<|df<|mQ ["other","atoms"] [M,Y 1] (kU<|vP 0) λC s H ex=>Ŷ))
def FY{n:Nat}(F:gx K "can_hold" "can_hold" wU f fd)(kk:KS K mg)(IE:iC P w K mg base "can_hold" (n+0)<|iW K<|gE n):b_ P w K mg base gk (n+0+1) f fd ["wish"]<|iW K<|gE<|n+1:=
 F.ES ["wish"] [] [] (by walk_at "s") λa a a a s H a a a a=>
  (aB (ja Ŷ (b7<|mO<|Ja W W kk.y<|dq<|df<|mQ ["step"] [M] Ŷ λC s H ex=>Ŷ) dO)<|aB (ja Ŷ (b7<|mO<|Ja W W kk.y<|dq<|df<|mQ ["other"] [M] Ŷ λC s H ex=>Ŷ) dO)<|aB (ja Ŷ (b7<|mO<|Rp W W kk.y<|dq<|df<|mQ ["other"] [M] Ŷ λC s H ex=>Ŷ) dO) Ŷ)
def AD:=jR 12
def vp:=j_ 12
def AE:=gE 12
def nS:=cE 12
abbrev ci:=vd 0 "Facts" "question"
def oM:DG:=(a_ (eZ Z_ 0 "Facts" "question"<|bF AD v6)<|a_ (eZ Z_ 0 "Facts" "bits" o0)<|a_ (ph 0 "Facts" "by_name" .di Op)<|a_ (ph 0 "Facts" "by_text" .di Op)<|a_ (eZ Z_ 0 "Facts" "starred" o0)<|a_ (eZ Z_ 0 "Facts" "stars" o0)<|a_ (eZ Z_ 0 "Facts" "inner" o0)<|a_ (ph 0 "Facts" "leads" (.li .lf)<|eK<|.lst [])<|a_ (jY<|cI "Facts" "enter" aR gK 0<|km (mP ci) oH)<|HR Z_ 0 "Facts" "asks"<|uS (iL ci) [M,Y 0] (gN 0) (cI "Facts" "asked" aR nS 1 ul) 1 0 aR)
def f9:!D->↑(D×D):=kj 2 2 aR oM
abbrev jX:cS:=cL cr 0
noncomputable abbrev oY:!aM:=["self","question"]
def u7:DG:=(gc<|e2 N0 (cz "Facts" "starred"<|eV 0)<|GB (cz "Facts" "by_name"<|eV 0) (eV 1) o0)
def gG:!D->↑D:=la 2 2 u7
abbrev mv:cS:=cL cr 8
def u6:DG:=(gc<|GB (cz "Facts" "by_text"<|eV 0) (eV 1) o0)
def gF:!D->↑D:=la 2 2 u6
abbrev mu:cS:=cL cr 9
def jk:DG:=(hZ (mr (gw<|e2 iQ (eV 1)<|eV 4)<|gw<|bF vp<|aC (eV 5) Db) (wY 3 fD<|eV 4) cX)
def zX:DG:=(a_ (eY 3<|e2 iQ (eV 2)<|cz "Facts" "inner"<|eV 0)<|a_ (kI (iL<|cz "Facts" "leads"<|eV 0) (UX 4 5) jk)<|gc<|eV 3)
def hV:!D->↑D:=la 3 6 zX
abbrev p':cS:=cL cr 10
def j7:DG:=(a_ (eY 6<|e2 r8 t3<|eV 4)<|hZ (mr (gw<|e2 iQ (eV 1)<|eV 6)<|gw<|bF vp<|aC (eV 5) Db) (wY 3 fD<|eV 6) cX)
def xV:DG:=(a_ (eY 3 o0)<|a_ (kI (iE<|cz "Facts" "asks"<|eV 0) (UX 4 5) j7)<|gc<|eV 3)
def fF:!D->↑D:=la 3 7 xV
abbrev oq:cS:=cL cr 11
abbrev io:=eK<|.str<|ar "open"
def IL:DG:=(a_ (hZ (gP<|e2 nX (e2 dh (eV 0) o0) io) (gc<|eOr (eV 1)<|U9<|gP<|eV 2) cX)<|gc<|eV 1)
def jb:!D->↑D:=la 3 3 IL
abbrev wV:cS:=kG 9
def zV:DG:=(a_ (kC 0 "Row" "number"<|eV 1)<|a_ (kC 0 "Row" "named"<|eV 2)<|a_ (kC 0 "Row" "atoms"<|eV 3)<|a_ (kC 0 "Row" "fits" o0)<|a_ (kC 0 "Row" "reached" o0)<|a_ (kC 0 "Row" "reached_around" o0)<|a_ (kC 0 "Row" "hoped" o0)<|kC 0 "Row" "hoped_around" o0)
def jc:!D->↑(D×D):=runC 4 4 0 zV
abbrev p_:cS:=cL (kG 18) 0
def mU:DG:=(hZ (gw<|bF AE<|aC (e2 dh (eV 3) f8) aN) (wY 1 fD<|e2 r8 t3<|eV 2) cX)
def DU:DG:=(a_ (eY 1 o0)<|a_ (kI (iE<|eV 0) (UX 2 3) mU)<|gc<|eV 1)
def jl:!D->↑D:=la 1 4 DU
abbrev sj:cS:=kG 21
def uK(F:gx K "__init__" "Facts.__init__" jX f fd)(kk:KS K mg)(Qz:iC P w K mg base "copied" 59<|iW K AD)(Bh:dQ P w K mg base "Facts" "enter" 59<|spT K aR gK)(sD:dQ P w K mg base "Facts" "asked" 59<|spT K aR nS):b_ P w K mg base gk 60 f fd ["self","question"]<|spT K aR f9:=
 F.Dr oY [0] [0] (by walk_at "s") λd d d outer s H d d B a hB=>
  (aB Ŷ<|aB Ŷ<|aB Ŷ<|aB Ŷ<|aB Ŷ<|aB Ŷ<|aB Ŷ<|aB Ŷ<|aB Ŷ<|b7<|Q8 (b:=Z_) (c:= "Facts") (pv 0) (IZ (i0:=1) (j0:=0) (s:=aR) (N:=[("step" : aM),("self" : aM)]) (src:=[M,Y 0]) (kN (outer:=bu jX) (oN:=oY) W Ų W W) W Ŷ (j9 0) ſ (mJ _ 0 1) (λC s H ex=>(gR (i:=0) (show ([("step" : aM),("self" : aM)]:!aM).Nodup by decide +kernel) W (jB W),j5,Zx λB a hB=>Ŷ))) kk.q)
def sZ(F:gx K "steps_for" "Facts.steps_for" mv f fd)(kk:KS K mg):b_ P w K mg base gk 1 f fd ["self","name"]<|iW K gG:=
 F.ES ["self","name"] [] [] (by walk_at "s") λa a a a a a a hr a a=>
  (b7<|mO<|Rm Wk Ŷ<|dq<|Eb (nG hr) Ŷ (vQ 1) nQ (W,W,W,W))
def sY(F:gx K "text_fact" "Facts.text_fact" mu f fd)(kk:KS K mg):b_ P w K mg base gk 1 f fd ["self","text"]<|iW K gF:=
 F.ES ["self","text"] [] [] (by walk_at "s") λa a a a a a a hr a a=>
  (b7<|mO<|Eb (nG hr) Ŷ (vQ 1) nQ (W,W,W,W))
def xF(F:gx K "lifted" "Facts.lifted" p' f fd)(kk:KS K mg)(KH:iC P w K mg base "meets" 59<|iW K vp):b_ P w K mg base gk 60 f fd ["self","named","atoms"]<|iW K hV:=
 F.ES ["self","named","atoms","up","bit","ask"] [] [] (by walk_at "s") λa a a a a a a a a a=>
  by walk_at "o"
def vW(F:gx K "fitting" "Facts.fitting" oq f fd)(kk:KS K mg)(KH:iC P w K mg base "meets" 59<|iW K vp):b_ P w K mg base gk 60 f fd ["self","named","atoms"]<|iW K fF:=
 F.ES ["self","named","atoms","fits","place","ask","bit"] [] [] (by walk_at "s") λa a a a a a a a a a=>
  by walk_at "o"
def FZ(F:gx K "can_come" "can_come" wV f fd):b_ P w K mg base gk 1 f fd ["sign","within","begun"]<|iW K jb:=
 F.ES ["sign","within","begun"] [] [] (by walk_at "s") λa a a a a a a a a a=>
  by walk_at "o"
def xE(F:gx K "__init__" "Row.__init__" p_ f fd)(kk:KS K mg):b_ P w K mg base gk 1 f fd ["self","number","named","atoms"]<|spC K 0 jc:=
 F.okC ["self","number","named","atoms"] [0] [0] (by walk_at "s") λa a a a a a a a a a a=>
  by walk_at "o"
def A5(F:gx K "able_steps" "able_steps" sj f fd)(kk:KS K mg)(IE:iC P w K mg base "can_hold" 59<|iW K AE):b_ P w K mg base gk 60 f fd ["question"]<|iW K jl:=
 F.ES ["question","able","place","step"] [] [] (by walk_at "s") λa a a a a a a a a a=>
  by walk_at "o"
def M1:DG:=(a_ (eY 0<|QY "Row" jc<|aC (e1 MG t3)<|aC o0<|aC o0 aN)<|a_ (kC 0 "Row" "reached" t3)<|a_ (kC 0 "Row" "reached_around" t3)<|a_ (kC 0 "Row" "hoped" t3)<|a_ (kC 0 "Row" "hoped_around" t3)<|JL 0)
def rK:!D->↑D:=VE 0 1 M1
abbrev yR:cS:=kG 20
def wm:DG:=(gc<|e2 r8 (e2 iQ (e2 N0 (eV 1)<|e2 iQ (eV 2)<|cz "Facts" "inner"<|cz "Coming" "facts"<|eV 0)<|eV 3) t3)
def eJ:!D->↑D:=la 4 4 wm
abbrev lv:=kG 19
abbrev nz:cS:=cL lv 4
abbrev wf:=eK<|.int 3
def tL:DG:=(a_ (eY 3<|e2 dh (cz "Coming" "rows"<|eV 0)<|e1 MG t3)<|a_ (eY 4<|e2 iQ (e2 Yx (e2 N0 (e2 dh (eV 1) f8)<|e2 dh (eV 1) wf) t3)<|cz "Row" "fits"<|eV 2)<|a_ (eY 5<|e2 iQ (e2 iQ (eV 4)<|e1 Ic<|cz "Facts" "inner"<|cz "Coming" "facts"<|eV 0)<|cz "Row" "hoped"<|eV 3)<|a_ (eY 6<|e2 iQ (e2 N0 (e2 iQ (eV 4)<|cz "Facts" "inner"<|cz "Coming" "facts"<|eV 0)<|e2 dh (eV 1) wf)<|cz "Row" "hoped_around"<|eV 3)<|gc<|gQ<|aC (e2 dh (eV 1) o0)<|aC (e2 xG (e2 dh (eV 1) t3) t3)<|aC (eV 5)<|aC (eV 6) aN)
def iq:!D->↑D:=la 3 7 tL
abbrev lL:cS:=cL lv 10
def HZ(F:gx K "top_row" "top_row" yR f fd)(kk:KS K mg)(QC:rg P w K mg base "Row" 1<|spC K 0 jc):b_ P w K mg base gk 3 f fd []<|spK K rK:=
 F.Yv ["row"] [0] [0] (by walk_at "s") λnd a a a a a a hr a a=>
  (aB (Lf (i:=0) nd W (.inl W) (Lk QC hr W Ŷ)) Ŷ)
def uL(F:gx K "gone_on" "Coming.gone_on" nz f fd)(kk:KS K mg):b_ P w K mg base gk 1 f fd ["self","parent","around","fits"]<|iW K eJ:=
 F.ES ["self","parent","around","fits"] [] [] (by walk_at "s") λa a a a a a a a a a=>
  by walk_at "o"
def rX(F:gx K "moved_out" "Coming.moved_out" lL f fd)(kk:KS K mg):b_ P w K mg base gk 1 f fd ["self","rest","row"]<|iW K iq:=
 F.ES ["self","rest","row","parent","steps","own","around"] [] [] (by walk_at "s") λa a a a a a a a a a=>
  by walk_at "o"
abbrev v4:=aC (cz "Facts" "question"<|cz "Coming" "facts"<|eV 0) aN
abbrev UF:=e2 r8 t3<|bF iX v4
def j3:DG:=(a_ (eZ Z_ 0 "Coming" "facts"<|hJ "Facts" f9 v6)<|a_ (eZ Z_ 0 "Coming" "full"<|qo [0] [] UF)<|a_ (eZ Z_ 0 "Coming" "able"<|qo [0] []<|bF jl v4)<|a_ (eZ Z_ 0 "Coming" "taken" o0)<|a_ (eZ Z_ 0 "Coming" "opened" o0)<|a_ (ph 0 "Coming" "rows" (.li<|.fs "Row" [])<|Zt<|QZ "Row"<|λ_=>rK [])<|eZ Z_ 0 "Coming" "rests" Re)
def fw:!D->↑(D×D):=kj 2 2 bg j3
abbrev my:cS:=cL lv 0
abbrev np:=aC (eV 2) db
def mK:DG:=(a_ (eY 4<|QY "Row" jc<|aC (eV 1) np)<|a_ (sr 5 0 "Coming" "rows"<|e1 MG t3)<|a_ (kC 4 "Row" "fits"<|qo [0] [5]<|j4 "Facts" "fitting" fF (cz "Coming" "facts"<|eV 0) np)<|a_ (kC 4 "Row" "hoped"<|qo [0] [5]<|j4 "Coming" "gone_on" eJ (eV 0)<|aC (cz "Row" "hoped"<|eV 5)<|aC (cz "Row" "hoped_around"<|eV 5)<|aC (e2 iQ (eV 2)<|cz "Coming" "able"<|eV 0) aN)<|a_ (kC 4 "Row" "hoped_around"<|qo [0] [5]<|e2 N0 (cz "Row" "hoped_around"<|eV 5)<|cz "Row" "hoped"<|eV 4)<|C6 0 4 "Coming" "rows")
def ir:!D->↑(D×D):=kj 4 6 bg mK
abbrev lM:cS:=cL lv 3
def iS:DG:=(a_ (sr 3 0 "Coming" "rows"<|eV 1)<|a_ (eZ Z' 3 "Row" "fits"<|qo [0] [3,5]<|j4 "Facts" "fitting" fF (cz "Coming" "facts"<|eV 0)<|aC (cz "Row" "named"<|eV 3)<|aC (cz "Row" "atoms"<|eV 3) aN)<|a_ (eY 4<|qo [0] [3,5]<|j4 "Facts" "lifted" hV (cz "Coming" "facts"<|eV 0)<|aC (cz "Row" "named"<|eV 3)<|aC (cz "Row" "atoms"<|eV 3) aN)<|a_ (wY 1 (λi j=>i-j) t3)<|a_ (sr 5 0 "Coming" "rows"<|eV 1)<|a_ (eY 2<|qo [0] [3,5]<|e2 F2 (e2 iQ (eV 4)<|e1 Ic<|cz "Row" "atoms"<|eV 5) o0)<|gd Z' 5 "Row" "atoms" fD<|eV 4)
abbrev bi:=aC (cz "Coming" "rows"<|eV 0) aN
abbrev xz:=gP<|e2 Km (eV 1) o0
def xW:DG:=(a_ (eY 1<|qo [0] [3,5]<|e2 xG (bF iX bi) t3)<|a_ (eY 2 kw)<|OX 1000000 (mr (gw<|eV 2) xz) iS)
def gC:!D->↑(D×D):=kj 1 6 bg xW
abbrev ou:cS:=cL lv 6
abbrev bv:=e2 iQ (eV 1)<|e1 Ic<|cz "Row" "atoms"<|eV 2
def tN:DG:=(a_ (sr 2 0 "Coming" "rows"<|e1 MG t3)<|hZ (wO [0] [2]<|gw bv) (a_ (gd Z' 2 "Row" "atoms" fD<|eV 1)<|jY<|cI "Coming" "spread" bg gC 0 oH) cX)
def iu:!D->↑(D×D):=kj 2 3 bg tN
abbrev lN:cS:=cL lv 5
def tb(F:gx K "__init__" "Coming.__init__" my f fd)(kk:KS K mg)(adT:rg P w K mg base "Facts" 88<|spT K aR f9)(UO:iC P w K mg base "able_steps" 89<|iW K jl)(MY:iC P w K mg base "top_row" 89<|spK K rK):b_ P w K mg base gk 90 f fd ["self","question"]<|spT K bg fw:=
 F.Dr ["self","question"] [0] [0] (by walk_at "s") λa a a a a a a hr a a a=>
  (aB (Vg (b:=Z_) (c:= "Coming") (pv 0) (ZG Ŷ) kk.q) (aB Ŷ<|aB Ŷ<|aB Ŷ<|aB Ŷ<|aB (Q7 (c:= "Coming") (s1:=(.li<|.fs "Row" [])) (pv 0) (ZJ<|Vp (c:= "Row") (Rq MY hr W)) kk.q) Ŷ))
def rY(F:gx K "begin_row" "Coming.begin_row" lM f fd)(kk:KS K mg)(QC:rg P w K mg base "Row" 60<|spC K 0 jc)(xR:dQ P w K mg base "Facts" "fitting" 61<|iW K fF)(wj:dQ P w K mg base "Coming" "gone_on" 61<|iW K eJ):b_ P w K mg base gk 62 f fd ["self","number","named","atoms"]<|spT K bg ir:=
 F.Dr ["self","number","named","atoms","row","parent"] [0,4,5,1000005,2000000] [0,4,5,1000005,2000000] (by walk_at "s") λnd a a a a a a hr a a a=>
  (aB (Lf (i:=4) nd W (.inl W) (Lk QC hr W Ŷ)) (aB Ŷ<|aB Ŷ<|aB Ŷ<|aB Ŷ<|b7<|Q6 (c:= "Coming") (pv 0) (pv 4) kk.q))
def vX(F:gx K "spread" "Coming.spread" ou f fd)(kk:KS K mg)(xR:dQ P w K mg base "Facts" "fitting" 61<|iW K fF)(QD:dQ P w K mg base "Facts" "lifted" 61<|iW K hV):b_ P w K mg base gk 62 f fd ["self"]<|spT K bg gC:=
 F.Dr ["self","place","changed","row","up","parent"] [0,3,5,1000003,1000005,2000000] [0,3,5,1000003,1000005,2000000] (by walk_at "s") λa a a a a a a a a a a=>
  (aB Ŷ<|aB Ŷ<|b7<|Q2 1000000 dH Ŷ Ŷ)
def rZ(F:gx K "add_atoms" "Coming.add_atoms" lN f fd)(kk:KS K mg)(xS:dQ P w K mg base "Coming" "spread" 62<|spT K bg gC):b_ P w K mg base gk 63 f fd ["self","atoms"]<|spT K bg iu:=
 F.Dr ["self","atoms","row"] [0,2,1000002,2000000] [0,2,1000002,2000000] (by walk_at "s") λa a a a a a a a a a a=>
  by walk_at "o"
def j8:DG:=(a_ (sr 3 0 "Coming" "rows"<|e2 xG (eV 2) t3)<|a_ (sr 4 0 "Coming" "rows"<|eV 2)<|a_ (eY 5<|qo [0] [4,3]<|cz "Row" "reached"<|eV 4)<|a_ (eZ Z' 4 "Row" "reached"<|qo [0] [4,3]<|j4 "Coming" "gone_on" eJ (eV 0)<|aC (cz "Row" "reached"<|eV 3)<|aC (cz "Row" "reached_around"<|eV 3)<|aC (cz "Row" "fits"<|eV 4) aN)<|a_ (eZ Z' 4 "Row" "reached_around"<|qo [0] [4,3]<|e2 N0 (cz "Row" "reached_around"<|eV 3)<|cz "Row" "reached"<|eV 4)<|hZ (wO [0] [4,3]<|gw<|e2 iQ (e2 iQ (cz "Row" "reached"<|eV 4)<|e1 Ic<|eV 5)<|cz "Coming" "full"<|eV 0) (qh 1<|qo [0] [4,3]<|cz "Row" "number"<|eV 4) cX)
def qb:DG:=(a_ (lO 1 sB)<|a_ (kI (iR2 t3<|qo [0] [4,3]<|bF iX bi) (gN 2) j8)<|JL 1)
def jC:!D->↑(!D×D):=y8 1 6 bg qb
abbrev oz:cS:=cL lv 7
abbrev pp:=e2 iQ (cz "Row" "reached_around"<|eV 4)<|e2 dh (eV 3) wf
abbrev At:=e2 iQ (cz "Row" "reached"<|eV 4)<|e2 dh (eV 3) f8
def iM:DG:=(a_ (sr 4 0 "Coming" "rows"<|e2 dh (eV 3) t3)<|hZ (wO [0] [4]<|xw (gw At)<|gw pp) (qh 1<|e2 dh (eV 3) o0)<|qh 2<|eV 3)
def lP:DG:=(a_ (vM 1<|PZ "Coming" "settle" bg jC 0 [] aN)<|a_ (lO 2 sB)<|a_ (kI (iL<|vd 0 "Coming" "rests") (gN 3) iM)<|a_ (eZ Z_ 0 "Coming" "rests"<|eV 2)<|sT<|mfP<|wt<|eV 1)
def cB:!D->↑(!D×D):=y8 1 5 bg lP
abbrev k8:cS:=cL lv 8
def ip:DG:=(a_ (eY 6<|qo [0,1] []<|acz (gP<|e2 nX (e2 dh (eV 5) t3)<|eV 2) (j4 "Coming" "moved_out" iq (eV 0)<|aC (eV 5) v6)<|eV 5)<|hZ (xw (gw<|e2 dh (eV 6) f8)<|gw<|e2 dh (eV 6) wf) (qh 4<|eV 6) cX)
def oO:DG:=(a_ (Fw 1 0 "Coming" "rows")<|a_ (eY 2<|qo [0] []<|bF iX bi)<|a_ (lO 3<|QR<|vd 0 "Coming" "rests")<|a_ (hZ (wO [0] []<|lI<|gw<|e2 iQ (cz "Row" "reached"<|eV 1)<|cz "Coming" "full"<|eV 0) (qh 3<|qo [0] []<|gQ<|aC (cz "Row" "number"<|eV 1)<|aC (eV 2)<|aC (cz "Coming" "full"<|eV 0)<|aC o0 aN) cX)<|a_ (lO 4 sB)<|a_ (kI (iL<|eF<|z8<|eV 3) (gN 5) ip)<|eZ Z_ 0 "Coming" "rests"<|eV 4)
def jm:!D->↑(D×D):=kj 1 7 bg oO
abbrev nA:cS:=cL lv 9
def vY(F:gx K "settle" "Coming.settle" oz f fd)(kk:KS K mg)(wj:dQ P w K mg base "Coming" "gone_on" 61<|iW K eJ):b_ P w K mg base gk 62 f fd ["self"]<|qK K bg jC:=
 F.T4 ["self","found","place","parent","row","ahead"] [0,1,4,3,1000004,1000003,2000000] [0,1,4,3,1000004,1000003,2000000] (by walk_at "s") λa a a a a a a a B a hB=>
  (aB Ŷ<|aB (pH dH W (Nm W kk.y (dq nQ) Ŷ) (λB hB=>Ŷ)<|λB hB=>Ŷ) Ŷ)
def qP(F:gx K "newly_told" "Coming.newly_told" k8 f fd)(kk:KS K mg)(N6:dQ P w K mg base "Coming" "settle" 62<|qK K bg jC):b_ P w K mg base gk 63 f fd ["self"]<|qK K bg cB:=
 F.T4 ["self","found","kept","rest","row"] [0,1,2,4,1000004,2000000] [0,1,2,4,1000004,2000000] (by walk_at "s") λa a a a a a a a a a a=>
  (aB Ŷ<|aB Ŷ<|aB Ŷ<|kM (own1:=[0,1,4,1000004,2000000]) 2 Ŷ)
def uM(F:gx K "end_row" "Coming.end_row" nA f fd)(kk:KS K mg)(IH:dQ P w K mg base "Coming" "moved_out" 61<|iW K iq):b_ P w K mg base gk 62 f fd ["self"]<|spT K bg jm:=
 F.Dr ["self","row","place","rests","kept","rest","moved"] [0,1,3,4] [0,1,3] (by walk_at "s") λnd a a a a a a a B a hB=>
  (aB (Vc (i:=1) (c:= "Coming") nd W (.inl W) (pv 0) kk.q) (aB Ŷ<|aB Ŷ<|aB Ŷ<|aB Ŷ<|aB (pH dH W (kU<|df<|Rl W kk.y<|dvo<|pv 3) (λB hB=>Ŷ)<|λB hB=>Ŷ)<|kM (own1:=[0,1,3]) 4 Ŷ))
abbrev lm:=aC (e2 dh (eV 1) t3) aN
abbrev ln:=eK<|.str<|ar "close"
def kT:DG:=(a_ (hZ (wO [0] []<|lI<|gw<|bF jb<|aC (eV 1)<|aC (e2 Km (bF iX bi) t3)<|aC (e2 Km (cz "Coming" "opened"<|eV 0) o0) aN) sU cX)<|a_ (gd Z_ 0 "Coming" "taken" (λi j=>i+j) t3)<|a_ (hZ (gP<|e2 nX (e2 dh (eV 1) o0) ln) (a_ (jY<|cI "Coming" "end_row" bg jm 0 oH)<|sT<|mfP sB) cX)<|a_ (hZ (gP<|e2 nX (e2 dh (eV 1) o0) io) (a_ (jY<|cI "Coming" "begin_row" bg ir 0<|km (mP<|qo [0] []<|cz "Coming" "opened"<|eV 0)<|km (mP<|qo [0] []<|j4 "Facts" "steps_for" gG (cz "Coming" "facts"<|eV 0) lm)<|km (mP o0) oH)<|a_ (gd Z_ 0 "Coming" "opened" (λi j=>i+j) t3)<|jY<|cI "Coming" "spread" bg gC 0 oH)<|jY<|cI "Coming" "add_atoms" bg iu 0<|km (mP<|qo [0] []<|j4 "Facts" "text_fact" gF (cz "Coming" "facts"<|eV 0) lm) oH)<|sT<|PZ "Coming" "newly_told" bg cB 0 [] aN)
def fW:!D->↑(!D×D):=y8 2 2 bg kT
abbrev qI:cS:=cL lv 1
def lF:DG:=(a_ (ph 0 "Sift" "coming" bg<|hJ "Coming" fw v6)<|eZ Z_ 0 "Sift" "numbers" Re)
def cC:!D->↑(D×D):=kj 2 2 cy lF
abbrev oj:cS:=cL (kG 23) 0
abbrev pu:=wt<|e2 ik (cz "Sift" "numbers"<|eV 0)<|eV 2
def xh:DG:=(a_ (vM 2<|PZ "Coming" "feed" cy fW 0 [.fld "coming"] v6)<|a_ (eZ Z_ 0 "Sift" "numbers"<|eF<|U6 [0] [] pu)<|JL 2)
def dJ:!D->↑(!D×D):=y8 2 3 cy xh
abbrev uw:cS:=cL (kG 23) 1
def xc:DG:=(wX<|QR<|cz "Sift" "numbers"<|eV 0)
noncomputable def dk:!D->↑(!D):=C_ 1 1 xc
abbrev uv:cS:=cL (kG 23) 2
def zr(F:gx K "feed" "Coming.feed" qI f fd)(kk:KS K mg)(pB:iC P w K mg base "can_come" 63<|iW K jb)(M0:dQ P w K mg base "Coming" "end_row" 63<|spT K bg jm)(II:dQ P w K mg base "Coming" "begin_row" 63<|spT K bg ir)(xS:dQ P w K mg base "Coming" "spread" 63<|spT K bg gC)(IJ:dQ P w K mg base "Coming" "add_atoms" 63<|spT K bg iu)(Hg:dQ P w K mg base "Coming" "newly_told" 63<|qK K bg cB)(KO:dQ P w K mg base "Facts" "steps_for" 63<|iW K gG)(KN:dQ P w K mg base "Facts" "text_fact" 63<|iW K gF):b_ P w K mg base gk 64 f fd ["self","sign"]<|qK K bg fW:=
 F.T4 ["self","sign"] [0] [0] (by walk_at "s") λa a a a a a a a a a a=>
  by walk_at "o"
def vU(F:gx K "__init__" "Sift.__init__" oj f fd)(kk:KS K mg)(ach:rg P w K mg base "Coming" 90<|spT K bg fw):b_ P w K mg base gk 92 f fd ["self","question"]<|spT K cy cC:=
 F.Dr ["self","question"] [0] [0] (by walk_at "s") λa a a a a a a a a a a=>
  by walk_at "o"
def uJ(F:gx K "take" "Sift.take" uw f fd)(kk:KS K mg)(Sd:dQ P w K mg base "Coming" "feed" 64<|qK K bg fW):b_ P w K mg base gk 65 f fd ["self","sign"]<|qK K cy dJ:=
 F.T4 ["self","sign","fresh"] [0,2] [0,2] (by walk_at "s") λa a a a a a a a a a a=>
  by walk_at "o"
def Dq(F:gx K "told" "Sift.told" uv f fd)(kk:KS K mg):b_ P w K mg base gk 1 f fd ["self"]<|wW K dk:=
 F.okO ["self"] [] [] (by walk_at "s") λa a a a a a a a a a=>
  by walk_at "o"
abbrev jp:=eK<|.int 2147483587
abbrev wE:=e2 oGe (eV 6)<|eV 1
abbrev xL:=aC (eV 5) aN
def CA:DG:=(a_ (eY 7<|e2 h_ (eV 6)<|bF iX xL)<|a_ (hZ (gP wE) (qh 4<|e2 h_ (e2 dh (eV 5)<|eV 7) jp) cX)<|JQ 5 (eV 7)<|e2 i8 (e2 dh (eV 5)<|eV 7) jp)
def Cz:DG:=(a_ (eY 8<|e2 ik (e2 qQ (e2 qQ (e2 ik (eV 6)<|eV 1)<|e2 ik (eV 6)<|eV 1)<|eK<|.int 7919)<|eK<|.int 104729)<|a_ (eY 9<|e2 h_ (e2 qQ (e2 ik (e2 h_ (e2 dh (eV 3)<|e2 h_ (eV 6)<|bF iX db)<|eK<|.int 2147483647)<|eV 8)<|eK<|.int 48271)<|eK<|.int 2147483647)<|a_ (eY 9<|e2 h_ (e2 ik (e2 qQ (eV 9)<|eV 9)<|e2 qQ (eK<|.int 69621)<|eV 6)<|eK<|.int 2147483629)<|qh 4<|e2 h_ (e2 qQ (eV 9)<|eV 9) jp)
abbrev Do:=e2 nX (e2 h_ (e2 i8 (e2 dh (eV 3) o0)<|eK<|.int 50000) f8) t3
abbrev NE:=eF<|fSl (eV 0) pN<|pS<|eK<|.int 63
def UU:DG:=(a_ (eY 3<|e2 ik NE<|eF<|f7 v6)<|a_ (lO 4 sB)<|a_ (hZ (gP Do) (a_ (lO 5<|wu (iL<|eV 3) [M] (gN 0) gu<|e2 i8 (eV 0)<|eK<|.int 100000)<|a_ (kI (AQ<|e2 ik (eV 1)<|eV 2) (gN 6) CA)<|JM 4) cX)<|a_ (kI (AQ<|eV 2) (gN 6) Cz)<|JM 4)
def vq:!D->↑(!D):=C_ 3 10 UU
abbrev yU:cS:=kG 27
abbrev LM:!aM:=["_law_script","_law_turn","_law_many","_law_cells","_law_found","_law_left","_law_k","_law_at","_law_place","_law_number"]
def acj:DG:=(a_ (hZ (gP<|e2 nX (eV 0) Re) (fS<|mP o0) cX)<|fS<|Ug 0)
def sJ:!D->↑(D×!D):=Fy 1 1 0 acj
abbrev OG:cS:=kG 28
def wG(p:!D->↑D):DG:=(hZ (lI<|gw<|bF p<|aC (e2 dh (eV 0)<|eV 2)<|aC (e2 dh (eV 1)<|eV 2) aN) Fa cX)
def DS(p:!D->↑D):DG:=(a_ (hZ (gw<|K' "str"<|eV 1) (gc<|U_ (K' "str"<|eV 0)<|e2 nX (eV 0)<|eV 1) cX)<|a_ (hZ (gw<|K' "int"<|eV 1) (gc<|U_ (K' "int"<|eV 0)<|U_ (U9<|gP<|K' "bool"<|eV 0)<|e2 nX (eV 0)<|eV 1) cX)<|a_ (hZ (gw<|K' "list"<|eV 1) (hZ (lI<|gw<|K' "list"<|eV 0) Fa cX)<|hZ (lI<|gw<|K' "tuple"<|eV 0) Fa cX)<|a_ (hZ (gP<|e2 F2 (bF iX Sc)<|bF iX v6) Fa cX)<|a_ (kI (AQ<|bF iX v6) (gN 2)<|wG p)<|gc kw)
abbrev Fk:cS:=kG 29
abbrev Tl:=e2 h_ (e2 ik (e2 i8 (eV 2)<|eK<|.int 150)<|e2 qQ (eV 0)<|eV 0)<|eK<|.int 26
abbrev u8:=eY 3<|e2 BW (eK<|.str<|ar "")<|eF<|wu (AQ<|e2 h_ (eV 1)<|eK<|.int 11) [M,Y 2,Y 1] (gN 0) gu<|e2 dh (eV 1) Tl
abbrev ge:=gc<|e2 ik (e2 ik (Gz (eV 3) pN<|pS<|eV 4)<|e2 dh (eV 2)<|e2 h_ (e2 ik (eV 0)<|eV 1)<|eK<|.int 26)<|Gz (eV 3) (pS<|eV 4) pN
abbrev zn:=eY 4<|e2 h_ (e2 i8 (eV 1)<|eK<|.int 11)<|e2 ik (bF iX db) t3
def Zh:DG:=(a_ (eY 2<|eK<|.str<|ar "abcdefghijklmnopqrstuvwxyz")<|a_ u8<|a_ zn ge)
def wJ:!D->↑D:=la 2 5 Zh
abbrev JJ:cS:=kG 30
abbrev on:=eK<|.int 4
def US:DG:=(wX<|wu (AQ<|e2 ik t3<|e2 h_ (e2 i8 (eV 0)<|eK<|.int 7) on) [M,Y 0] (gN 0) gu<|bF wJ<|aC (eV 0) v6)
def yE:!D->↑(!D):=C_ 1 1 US
abbrev Fi:cS:=kG 31
def Zf:DG:=(a_ (eY 1<|eF<|f7<|aC (eK<|.str<|ar "")<|aC (eK<|.str<|ar "x")<|aC TD<|aC (eK<|.str<|ar "\"")<|aC (eK<|.str<|ar "\\")<|aC (eK<|.str<|ar "\\q")<|aC (eK<|.str<|ar "a b")<|aC (eK<|.str<|ar "]") aN)<|gc<|e2 dh (eV 1)<|e2 h_ (eV 0)<|bF iX v6)
def wI:!D->↑D:=la 1 2 Zf
abbrev JI:cS:=kG 32
abbrev Is:=eK<|.int 8
abbrev kt:=mr (gP<|e2 NR (eV 6) on)<|gP<|e2 NR (eV 4)<|eV 2
abbrev py:=gP<|e2 NR (eV 4) f8
def Cw:DG:=(a_ (eY 6<|e2 h_ (eV 5) Is)<|hZ (xw (gP<|e2 nX (eV 3) Re) kt) (a_ (qh 3<|gQ<|aC io<|aC (e2 dh (eV 1)<|e2 h_ (e2 i8 (eV 5) Is)<|bF iX v6) aN)<|eY 4<|e2 ik (eV 4) t3)<|hZ (xw (gP<|e2 NR (eV 6)<|eK<|.int 6) py) (qh 3<|gQ<|aC lw<|aC (bF wI<|aC (e2 h_ (e2 i8 (eV 5) Is) wf) aN) aN)<|a_ (qh 3<|gQ<|aC ln aN)<|eY 4<|e2 xG (eV 4) t3)
def UR:DG:=(a_ (lO 3 sB)<|a_ (eY 4 o0)<|a_ (kI (iL<|eV 0) (gN 5) Cw)<|JM 3)
def yD:!D->↑(!D):=C_ 3 7 UR
abbrev Fh:cS:=kG 33
def lr:Nat->!D->↑D
 |0=>λ_=>M
 |n+1=>la 2 3<|DS<|lr n
def PL(F:gx K "_law_draws" "_law_draws" yU f fd)(kk:KS K mg):b_ P w K mg base gk 1 f fd ["_law_script","_law_turn","_law_many"]<|wW K vq:=
 F.okO LM [4,5] [4,5] (by walk_at "s") λnd a a outer s H a a a a=>
  (aB Ŷ<|aB Ŷ<|aB (ja Ŷ (aB (Nf (i:=5) (Ź:=[]) (N:=[("_law_cell" : aM)]) (src:=[M]) (kN (outer:=bu yU) (oN:=LM) W Ų W W) W nd W W (kU<|vP 3) (j9 0) ſ (uY 0) (λC s H ex=>(gR (i:=0) (show ([("_law_cell" : aM)]:!aM).Nodup by decide +kernel) W (.inl W),j5,Ŷ))) Ŷ) dO) Ŷ)
def Yt(F:gx K "_law_pop" "_law_pop" OG f fd):b_ P w K mg base gk 1 f fd ["_law_draws_here"]<|CW K 0 sJ:=
 F.r4 ["_law_draws_here"] [0] [0] (by walk_at "s") λa a a a a a a a a a a=>
  (aB Ŷ<|b7<|vf<|Zy<|pv 0)
def PN{n:Nat}(F:gx K "_law_alike" "_law_alike" Fk f fd)(kk:KS K mg)(UN:iC P w K mg base "_law_alike" (n+0)<|iW K<|lr n):b_ P w K mg base gk (n+0+1) f fd ["_law_found","_law_due"]<|iW K<|lr<|n+1:=
 F.ES ["_law_found","_law_due","_law_k"] [] [] (by walk_at "s") λa a a a a a a a a a=>
  (aB (ja (mM<|dq<|jQ (T:= "str") ſ W kk.y W kk.y Ų (vQ 1)) (b7<|mO<|I' (jQ (T:= "str") ſ W kk.y W kk.y Ų (vQ 0)) Ŷ) dO) (aB (ja (mM<|dq<|jQ (T:= "int") ſ W kk.y W kk.y Ų (vQ 1)) (b7<|mO<|I' (jQ (T:= "int") ſ W kk.y W kk.y Ų (vQ 0)) (I' (ZC<|jQ (T:= "bool") ſ W kk.y W kk.y Ų (vQ 0)) Ŷ)) dO) (aB (ja (mM<|dq<|jQ (T:= "list") ſ W kk.y W kk.y Ų (vQ 1)) (b7<|ja (D2<|mM<|dq<|jQ (T:= "list") ſ W kk.y W kk.y Ų (vQ 0)) Ŷ dO) (b7<|ja (D2<|mM<|dq<|jQ (T:= "tuple") ſ W kk.y W kk.y Ų (vQ 0)) Ŷ dO)) Ŷ)))
def TZ(F:gx K "_law_name" "_law_name" JJ f fd)(kk:KS K mg):b_ P w K mg base gk 1 f fd ["_law_k","_law_draw"]<|iW K wJ:=
 F.ES ["_law_k","_law_draw","_law_letters","_law_base","_law_at"] [] [] (by walk_at "s") λnd a a a s H a a a a=>
  (aB (wA (i:=2) nd W (.inr W) wC) (aB (wA (i:=3) nd W (.inl W) (Vl (dq wC)<|dq<|df<|mQ ["_law_j","_law_letters","_law_draw"] [M,Y 2,Y 1] Ŷ λC s H ex=>Ŷ)) Ŷ))
def PJ(F:gx K "_law_names" "_law_names" Fi f fd)(kk:KS K mg)(Qy:iC P w K mg base "_law_name" 1<|iW K wJ):b_ P w K mg base gk 2 f fd ["_law_draw"]<|wW K yE:=
 F.okO ["_law_draw"] [] [] (by walk_at "s") λa a a a s H a a a a=>
  (b7<|yy<|mQ ["_law_k","_law_draw"] [M,Y 0] Ŷ λC s H ex=>Ŷ)
def TV(F:gx K "_law_text" "_law_text" JI f fd)(kk:KS K mg):b_ P w K mg base gk 1 f fd ["_law_number"]<|iW K wI:=
 F.ES ["_law_number","_law_some"] [] [] (by walk_at "s") λa a a a a a a a a a=>
  by walk_at "o"
def PF(F:gx K "_law_signs" "_law_signs" Fh f fd)(kk:KS K mg)(Zc:iC P w K mg base "_law_text" 1<|iW K wI):b_ P w K mg base gk 2 f fd ["_law_draws_here","_law_names_here","_law_deep"]<|wW K yD:=
 F.okO ["_law_draws_here","_law_names_here","_law_deep","_law_found","_law_depth","_law_number","_law_kind_here"] [3] [3] (by walk_at "s") λa a a a a a a a a a=>
  by walk_at "o"
end
def zU(p:!D->↑(D×!D))(q:!D->↑(D×!D)):DG:=(a_ (k_ 3<|nF sJ 0 aN)<|a_ (eY 4<|e2 h_ (eV 3) Is)<|a_ (hZ (xw (gP<|e2 nX (eV 4) f8)<|gP<|e2 nX (eV 4) wf) (fS<|mP<|gQ<|aC lw<|aC (bF wI<|aC (e2 i8 (eV 3) Is) aN) aN) cX)<|a_ (hZ (xw py<|gP<|e2 nX (eV 2) o0) (fS<|mP<|gQ<|aC TD aN) cX)<|a_ (hZ (gP<|e2 NR (eV 4)<|eK<|.int 6) (fS<|tq<|km (mP Uf)<|km (nF q 0<|aC (eV 1)<|aC (e2 xG (eV 2) t3) aN) oH) cX)<|a_ (eY 5<|e2 dh (eF<|f7<|aC f8<|aC t3<|aC o0<|aC wf aN)<|e2 h_ (e2 i8 (eV 3) Is) on)<|fS<|tq<|km (mP<|e2 dh (eF<|f7 Ch)<|e2 xG (eV 4)<|eK<|.int 6)<|km (Wo (AQ<|eV 5) [M,Y 0,Y 1,Y 2] (gN 0) (nF p 1<|aC (eV 2)<|aC (e2 xG (eV 3) t3) aN) 1 0) oH)
abbrev CS:cS:=kG 34
noncomputable abbrev RO:!aM:=["_law_draws_here","_law_names_here","_law_deep","_law_number","_law_kind_here","_law_many"]
def Cv(p:!D->↑(D×!D))(q:!D->↑(D×!D)):DG:=(a_ (k_ 5<|nF sJ 0 aN)<|a_ (eY 6<|e2 dh (e2 ik (eV 1)<|eF<|f7<|aC (eK<|.str<|ar "*") aN)<|e2 h_ (e2 i8 (eV 5) f8)<|e2 ik (bF iX v6) t3)<|JS 3<|tq<|km (mP<|e2 dh (eF<|f7<|aC (eK<|.str<|ar "inner")<|aC (eK<|.str<|ar "own") aN)<|e2 h_ (eV 5) f8)<|km (mP<|eV 6)<|km (nF p 0<|aC (eV 1) Db) oH)
abbrev sK:=f7<|aC t3<|aC t3<|aC f8<|aC wf aN
def KQ(p:!D->↑(D×!D))(q:!D->↑(D×!D)):DG:=(a_ (lO 3 sB)<|a_ (y4 (iRM<|m2 dh (mP<|eF sK)<|m2 h_ (nF sJ 0 aN)<|mP on) (gN 4)<|Cv p q)<|OY 3)
abbrev Fg:cS:=kG 35
def jO(p:!D->↑D)(q:!D->↑(!D)):DG:=(a_ (hZ No (gc<|gQ<|aC Uf<|aC (eF<|sF q<|aC (e2 dh (eV 0) t3) aN) aN) cX)<|a_ (hZ sw (gc<|gQ<|aC (e2 dh (eV 0) o0)<|aC (eF<|wu (iL<|e2 dh (eV 0) t3) [M] (gN 0) gu<|bF p Sc) aN) cX)<|gc<|eV 0)
abbrev uq:cS:=kG 36
def DR(p:!D->↑D)(q:!D->↑(!D)):DG:=(wX<|wu (iL<|eV 0) [M,M,M] (WH 0 1 2) gu<|gQ<|aC (eV 0)<|aC (eV 1)<|aC (bF p Db) aN)
abbrev nN:cS:=kG 37
abbrev vn:!aM:=["_law_steps_here"]
mutual
noncomputable def gV:Nat->!D->↑(D×!D)
 |0=>λ_=>M
 |n+1=>Fy 3 6 0<|zU (gV n)<|hU n
noncomputable def hU:Nat->!D->↑(D×!D)
 |0=>λ_=>M
 |n+1=>Fy 3 7 0<|KQ (gV n)<|hU n
end
mutual
def eN:Nat->!D->↑D
 |0=>λ_=>M
 |n+1=>la 1 1<|jO (eN n)<|fV n
def fV:Nat->!D->↑(!D)
 |0=>λ_=>M
 |n+1=>C_ 1 1<|DR (eN n)<|fV n
end
section
variable {P:bj}{w:cQ}{K:aS}{mg:aM->↑au}{base:cG}{f:aD}{fd:dU}
def TR{n:Nat}(F:gx K "_law_wish" "_law_wish" CS f fd)(kk:KS K mg)(KG:iC P w K mg base "_law_pop" (n+1)<|CW K 0 sJ)(Zc:iC P w K mg base "_law_text" (n+1)<|iW K wI)(KE:iC P w K mg base "_law_steps" (n+1)<|CW K 0<|hU n)(Zb:iC P w K mg base "_law_wish" (n+1)<|CW K 0<|gV n):b_ P w K mg base gk (n+1+1) f fd ["_law_draws_here","_law_names_here","_law_deep"]<|CW K 0<|gV<|n+1:=
 F.r4 RO [0] [0] (by walk_at "s") λb b b outer s H b b B a hB=>
  (aB Ŷ<|aB Ŷ<|aB Ŷ<|aB Ŷ<|aB Ŷ<|aB Ŷ<|b7<|vf<|Rc<|qW Ŷ<|qW (acI (i0:=1) (j0:=0) (N:=[("_law_k" : aM),("_law_draws_here" : aM),("_law_names_here" : aM),("_law_deep" : aM)]) (src:=[M,Y 0,Y 1,Y 2]) (kN (outer:=bu CS) (oN:=RO) W Ų W W) W Ŷ (j9 0) ſ (mJ _ 0 1) (λC s H ex=>(gR (i:=0) (show ([("_law_k" : aM),("_law_draws_here" : aM),("_law_names_here" : aM),("_law_deep" : aM)]:!aM).Nodup by decide +kernel) W (jB W),j5,Zx λB a hB=>Ŷ))) Li)
def PD{n:Nat}(F:gx K "_law_steps" "_law_steps" Fg f fd)(kk:KS K mg)(KG:iC P w K mg base "_law_pop" (n+1)<|CW K 0 sJ)(Zb:iC P w K mg base "_law_wish" (n+1)<|CW K 0<|gV n):b_ P w K mg base gk (n+1+1) f fd ["_law_draws_here","_law_names_here","_law_deep"]<|CW K 0<|hU<|n+1:=
 F.r4 ["_law_draws_here","_law_names_here","_law_deep","_law_found","_law_k","_law_number","_law_name_here"] [0,3] [0,3] (by walk_at "s") λa a a a a a a a B a hB=>
  (aB Ŷ<|aB (Vf dH W (I0 W kk.y<|acJ Ŷ Ŷ) (λB hB=>Ŷ)<|λB hB=>(aB Ŷ<|aB Ŷ<|b7<|Vh (pv 3) Ŷ))<|b7<|Q5<|pv 3)
def Dp{n:Nat}(F:gx K "_law_copy_wish" "_law_copy_wish" uq f fd)(Gq:iC P w K mg base "_law_copy_wish" (n+0)<|iW K<|eN n)(UM:iC P w K mg base "_law_copy_steps" (n+0)<|wW K<|fV n):b_ P w K mg base gk (n+0+1) f fd ["_law_wish_here"]<|iW K<|eN<|n+1:=
 F.ES ["_law_wish_here"] [] [] (by walk_at "s") λa a a a s H a a a a=>
  (aB Ŷ<|aB (ja Ŷ (b7<|mO<|Rj<|gm Ŷ<|gm (df<|mQ ["_law_one"] [M] Ŷ λC s H ex=>Ŷ) mR) dO) Ŷ)
def A4{n:Nat}(F:gx K "_law_copy_steps" "_law_copy_steps" nN f fd)(Gq:iC P w K mg base "_law_copy_wish" (n+0)<|iW K<|eN n):b_ P w K mg base gk (n+0+1) f fd ["_law_steps_here"]<|wW K<|fV<|n+1:=
 F.okO vn [] [] (by walk_at "s") λa a a outer s H a a a a=>
  (b7<|yy<|Ro (Ź:=[]) (N:=[("_law_way" : aM),("_law_name_here" : aM),("_law_wish_here" : aM)]) (src:=[M,M,M]) (kN (outer:=bu nN) (oN:=vn) W Ų W W) W (kU<|vP 0) (RH _ 0 1 2) ſ (MW 0 1 2) (λC s H ex=>(Pd W<|qO (gR (i:=0) (show ([("_law_way" : aM),("_law_name_here" : aM),("_law_wish_here" : aM)]:!aM).Nodup by decide +kernel) W (.inl W)) (qO (gR (i:=1) (show ([("_law_way" : aM),("_law_name_here" : aM),("_law_wish_here" : aM)]:!aM).Nodup by decide +kernel) W (.inl W)) (qO (gR (i:=2) (show ([("_law_way" : aM),("_law_name_here" : aM),("_law_wish_here" : aM)]:!aM).Nodup by decide +kernel) W (.inl W)) Kb)),j5,Ŷ)))
abbrev cn(s:String):DF:=eK<|.str<|ar s
def xT:DG:=a_ (ph 0 "Tray" "sifts" (.dt cy) Op)<|a_ (eZ Z_ 0 "Tray" "taken" o0)<|eZ Z_ 0 "Tray" "depth" o0
def iD:!D->↑(D×D):=kj 1 1 cj xT
abbrev oi:cS:=cL (kG 25) 0
abbrev ol:=e2 Km (cz "Tray" "taken"<|eV 0) o0
abbrev SF:DT:=gP ol
abbrev UB(b:Bool):DT:=gP<|e2 (Ie b) (eV 1)<|cz "Tray" "sifts"<|eV 0
def aci:DG:=a_ (hZ (wO [0] [] SF) sU cX)<|a_ (hZ (wO [0] []<|UB Z_) sU cX)<|yj 0 "Tray" "sifts" cy (eV 1)<|hJ "Sift" cC Db
def CD:!D->↑(D×D):=kj 3 3 cj aci
def wk:DG:=a_ (hZ SF (yh "Late") cX)<|a_ (hZ (UB Z_) (yh "Taken") cX) λ_=>M
def ri:!D->↑(Xo D):=y9 3 3 wk
abbrev CU:cS:=cL (kG 25) 1
abbrev G7:!aM:=["self","name","question"]
def XX:fo G7 G7<|bu CU:=ű
abbrev im:=e2 Km (cz "Tray" "depth"<|eV 0) o0
abbrev wr:=aC (eV 1)<|aC im<|aC ol aN
abbrev ccT:DT:=lI<|gw<|bF jb wr
abbrev Wy(s:String):DT:=gP<|e2 nX (e2 dh (eV 1) o0)<|cn s
def Zg:DG:=a_ (hZ (wO [0] [] ccT) sU cX)<|a_ (gd Z_ 0 "Tray" "taken" (λi j=>i+j) t3)<|a_ (hZ (Wy "open") (gd Z_ 0 "Tray" "depth" (λi j=>i+j) t3) cX)<|a_ (hZ (Wy "close") (gd Z_ 0 "Tray" "depth" (λi j=>i-j) t3) cX)<|C5 o8<|v_ "Tray" "sifts" "Sift" "take" pD dJ 0 1
def rh:!D->↑(D×D):=JU 2 2 cj o8 Zg
def yt:DG:=a_ (hZ ccT (JN "NoSign"<|cz "Tray" "taken"<|eV 0) cX) λ_=>M
def rM:!D->↑(Xo D):=y9 2 2 yt
abbrev uo:cS:=cL (kG 25) 2
abbrev wH:!aM:=["self","sign"]
def S9:fo wH wH<|bu uo:=ű
def QG:DG:=a_ (hZ (UB Z') sU cX)<|wX<|qV "Sift" "told" dk<|e2 BX (cz "Tray" "sifts"<|eV 0)<|eV 1
def tY:!D->↑(!D):=C_ 2 2 QG
def yr:DG:=a_ (hZ (UB Z') (yh "NoPart") cX) λ_=>M
def rL:!D->↑(Xo D):=y9 2 2 yr
abbrev yf:cS:=cL (kG 25) 3
abbrev AA:!aM:=["self","name"]
def S8:fo AA AA<|bu yf:=ű
abbrev ur:cS:=kG 39
abbrev kW:!aM:=["_law_tray","_law_deed","_law_name_here","_law_thing"]
def OW:fo kW kW<|bu ur:=ű
abbrev Zz(s:String):DT:=gP<|e2 nX (eV 1)<|cn s
def UW:DG:=a_ (hZ (Zz "put") (fS<|cI "Tray" "put" cj CD 0<|km (mP<|eV 2)<|km (mP<|eV 3) oH) cX) λ_=>M
def yH:!D->↑(D×D):=kj 4 4 cj UW
def lj:DG:=a_ (hZ (Zz "put") (yZ<|o_ "Tray" "put" ri (eV 0) np) cX)<|a_ (hZ (Zz "take") (yZ<|o_ "Tray" "take" rM (eV 0) db) cX)<|yZ<|o_ "Tray" "told" rL (eV 0) Db
def mW:!D->↑(Xo D):=y9 4 4 lj
def vT(F:gx K "__init__" "Tray.__init__" oi f fd)(kk:KS K mg):b_ P w K mg base gk 90 f fd ["self"]<|spT K cj iD:=
 F.Dr ["self"] [0] [0] (by walk_at "s") λa a a a a a a a a a a=>
  by walk_at "o"
def Ys(F:gx K "put" "Tray.put" CU f fd)(kk:KS K mg)(QB:rg P w K mg base "Sift" 94<|spT K cy cC):b_ P w K mg base gk 96 f fd G7<|spT K cj CD:=
 F.Dr G7 [0] [0] (by walk_at "s") λa a a a a a a hr a a a=>
  (aB Ŷ<|aB (ja (Lc [] [0] []<|Q1 (nG hr) (vQ 1) Ŷ) (b7 Ah) dO)<|b7<|Ni (c:= "Tray") (nG hr) (pv 0) (vP 1) Ŷ kk.q)
def TY(F:gx K "put" "Tray.put" CU f fd)(kk:KS K mg)(x1:Jk K mg "Late")(x2:Jk K mg "Taken"):b_ P w K mg base (Hi P w) 90 f fd G7<|xC K ri:=
 F.T5 (Z:=[]) (Ź:=[]) (g:=wk) XX ſ λi A c s H E hr B hB N5=>
  (aB (ja (tO PR (dq<|rJ (c:= "Tray") (vQ 0) kk.q) (dq nQ) (kJ _)) (b7<|wB x1 N5 W hB) dO)
  (aB (ja (Q1 (nG hr) (vQ 1)<|dq<|rJ (c:= "Tray") (vQ 0) kk.q) (b7<|wB x2 N5 W hB) dO) Ag))
def Ki(F:gx K "take" "Tray.take" uo f fd)(kk:KS K mg)(pB:iC P w K mg base "can_come" 63<|iW K jb)(h:dQ P w K mg base "Sift" "take" 65<|qK K cy dJ):b_ P w K mg base gk 96 f fd wH<|Me K cj o8 rh:=by
 let(C,f',fd',ps,n,c,m,F',b):=h.ex
 exact F.aeY (s2:=o8) wH [0] [0] (by walk_at "s") λa a a outer s H a hr a a a=>
  (aB (ja (Lc [] [0] []<|D2<|mM<|dq<|yB pB (hr.mono ſ) W Ŷ) (b7 Ah) dO)<|aB Ŷ<|aB Ŷ<|aB Ŷ<|b7<|Q4<|Nj h (hr.mono ſ) kk.q (kN (outer:=bu uo) (oN:=wH) W Ų W W) W (pv 0) (λC s H b'=>(Pd W<|qO (gR (i:=0) (show (["name","sift","sign"]:!aM).Nodup by decide +kernel) W (.inl W)) (qO (gR (i:=1) (show (["name","sift","sign"]:!aM).Nodup by decide +kernel) W (.inl W)) Kb),Dl<|bZ (pv 0)<|bZ (nC (pl:=_) (pv 1) c m F' (hr.mono ſ) b .nil ju (bZ (pv 2) dw)) dw)) n)
def PB(F:gx K "take" "Tray.take" uo f fd)(kk:KS K mg)(pB:iC P w K mg base "can_come" 63<|iW K jb)(x:OkX P w K mg base "NoSign" 60):b_ P w K mg base (Hi P w) 90 f fd wH<|xC K rM:=
 F.T5 (Z:=[]) (Ź:=[]) (g:=yt) S9 ſ λi A c s H E hr B hB N5=>
  (aB (ja (D2<|mM<|dq<|yB pB (hr.mono ſ) W<|gm (vP 1)<|gm (I_ PR (dq<|rJ (c:= "Tray") (vQ 0) kk.q) (dq nQ) (kJ _)) (gm (I_ PR (dq<|rJ (c:= "Tray") (vQ 0) kk.q) (dq nQ) (kJ _)) mR)) (b7<|Nd x (hr.mono ſ) N5 W (rJ (c:= "Tray") (vQ 0) kk.q) hB) dO) Ag)
def TU(F:gx K "told" "Tray.told" yf f fd)(kk:KS K mg)(h:dQ P w K mg base "Sift" "told" 1<|wW K dk):b_ P w K mg base gk 3 f fd AA<|wW K tY:=
 F.okO AA [] [] (by walk_at "s") λa a a a a a a hr a a=>
  (aB (ja (wy (nG hr) (vQ 1) Ŷ) (b7 Ah) dO)<|b7<|yy<|Cm h (hr.mono ſ)<|Ea (nG hr) Ŷ<|vQ 1)
def Pz(F:gx K "told" "Tray.told" yf f fd)(kk:KS K mg)(x:Jk K mg "NoPart"):b_ P w K mg base (Hi P w) 90 f fd AA<|xC K rL:=
 F.T5 (Z:=[]) (Ź:=[]) (g:=yr) S8 ſ λi A c s H E hr B hB N5=>
  (aB (ja (wy (nG hr) (vQ 1)<|dq<|rJ (c:= "Tray") (vQ 0) kk.q) (b7<|wB x N5 W hB) dO) Ag)
def PM(F:gx K "_law_asked" "_law_asked" ur f fd)(kk:KS K mg)(h:dQ P w K mg base "Tray" "put" 96<|spT K cj CD):b_ P w K mg base gk 97 f fd kW<|spT K cj yH:=
 F.Dr kW [0] [0] (by walk_at "s") λa a a a a a a a a a a=>
  by walk_at "o"
def ME(F:gx K "_law_asked" "_law_asked" ur f fd)(kk:KS K mg)(h1:RN P w K mg base "Tray" "put" 90<|xC K ri)(h2:RN P w K mg base "Tray" "take" 90<|xC K rM)(h3:RN P w K mg base "Tray" "told" 90<|xC K rL):b_ P w K mg base (Hi P w) 91 f fd kW<|xC K mW:=
 F.T5 (Z:=[]) (Ź:=[]) (g:=lj) OW ſ λi A c s H E hr B hB N5=>
  (aB (ja (tO (Kl hr) (vQ 1) (dq wC)<|kJ _) (b7<|D5<|Ae h1 hr N5 hB (vP 0)<|gm (vP 2)<|gm (vP 3) mR) dO)
  (aB (ja (tO (Kl hr) (vQ 1) (dq wC)<|kJ _) (b7<|D5<|Ae h2 hr N5 hB (vP 0)<|gm (vP 3) mR) dO)
  (b7<|D5<|Ae h3 hr N5 hB (vP 0)<|gm (vP 2) mR)))
end
structure Z0(H:Hp)(a C:aD):Prop where
 ex:∃dx oe,H a=some (dI a oe)/\tW oe C dx/\∀x,dx=some x->∃i,H x=some (.xd i)
def Z0.same{b:Hp}(x:Z0 H a C)(s:bD H b):Z0 b a C:=by
 let(g,c,f,e,d):=x.ex;exact(g,c,s _ _ f,e,λy z=>(d y z).imp λ_ q=>s _ _ q)
structure XAt(H:Hp)(a C:aD)(n:Int):Prop where
 ex:∃x oe c,H a=some (dI a oe)/\tW oe C (some x)/\H x=some (.xd c)/\c.lookup ("at" : aM)=some (V.int n)
def XAt.same{b:Hp}(x:XAt H a C n)(s:bD H b):XAt b a C n:=by
 let(g,c,i,f,e,d,l):=x.ex;exact(g,c,i,s _ _ f,e,s _ _ d,l)
def IsZ(K:aS)(C:aD)(H:Hp)(v:V)(c:au)(b:Bool):Prop:=(v=.cT/\jA K (.type "NoneType") c=Y b)\/∃a,v=.ref a/\Z0 H a C/\jA K (.ref C) c=Y b
def Tc(K:aS)(C:aD):!V->Hp->VK->Prop:=λd H Q=>∃v a c b,d=[v,a]/\(∀u,RelV a u->u=c)/\IsZ K C H v c b/\Q (.bl b) H
section
variable {X:Cx}{p B j:Pos}{x y:aM}{C:aD}{G N:TE}{e:Expr}
set_option tactic.hygienic true in
def ZP(g:XIs X.K C):kF X (.builtin "isinstance")<|Tc X.K C:=by
 intro f s w H x z Q I r (v,y,c,b,e,n,m,q);subst e;cases r with
 |cons d r=>
  cases r with
  |cons l r=>
   cases r;rename_i h A;obtain rfl:=n _ l;obtain⟨rfl,k⟩|⟨a,rfl,i,k⟩:=m
   .exact kK I d .cT k λD=>(.bl b,H,I.tok _,W,q)
   .obtain⟨J,F,t,p,o⟩:=i.ex;obtain rfl:h=aQ a:=d;exact W8 (wq:=X.w) I t p o g k λE u=>(.bl b,H,u,W,q)
def vS{v:V}(d:XIs X.K C)(g:Gl X "isinstance")(f:X.mg "isinstance" = M)(h:PE X e G)(i:PE X (.Name y j)<|tC v)(c:@&(ak (e::[.Name y j]) X.env=(Z_,eval e X.env)::ak [.Name y j] X.env))(a:@&(ak (.Name y j::[]) X.env=(Z_,eval (.Name y j) X.env)::ak [] X.env))(b:@&((b9 B<|ak [.Name y j] X.env).any (·.1)=false)):
  PE X (.Call (.Name "isinstance" p) [e,.Name y j] [] B) (tCB (Tc X.K C)<|nt G<|nt (tC v) xy):=
 zi (ZP d) g f Jr (bZ h (bZ i dw a) c) ſ ſ c b
def gz{K:aS}{v:V}{c:aD}{b:Bool}(e:a[i]?=Y (Y v))(x:IsZ K C H v (.ref c) b)(q:Q (.bl b) H):tCB (Tc K C) (nt (eS i)<|nt (tC<|.ref c) xy) a H Q:=
 (_,e,v,_,_,b,W,λu r=>r,x,q)
def yp{K:aS}{v:V}{b:Bool}(e:a[i]?=Y (Y v))(x:IsZ K C H v (.type T) b)(q:Q (.bl b) H):tCB (Tc K C) (nt (eS i)<|nt (tC<|.ty T) xy) a H Q:=
 (_,e,v,_,_,b,W,λu r=>r,x,q)
end
section
variable {X:Cx}{c b p J:Pos}{x:aM}{e:Expr}{t L:TE}
def Dk(h:PE X (.Name x p) t)(R:PE X e L)(m:@&(bJ (.Name x p) "append" X.env (eval (.Name x p) X.env)=eval (.Name x p) X.env)) (n:@&(((b9 b<|ak (e::[]) X.env).all (λx=> (not x.1))&&(ey b<|cD [] X.env).all (λx=>x.1.isSome)
   && decide ((e::[]).length+([]:!gJ).length+(if ([]:!gJ).isEmpty then 0 else 1)<30))=true)) (l:@&((c.endLine==b.line)=true)) (z:@&(ak (e::[]) X.env=(Z_,eval e X.env)::ak [] X.env)) (g:@&((b9 b<|ak [] X.env).any (·.1)=false)) (s:@&(cm (.Call (.Attribute (.Name x p) "append" c) [e] [] b) M J.line X.env=c9 false)) :
  PS X (.Expr (.Call (.Attribute (.Name x p) "append" c) [e] [] b) J) (V6<|tBM X.K "list" JZ t<|nt L xy):=
 lV (uI fX PySem.F.slot_list_append PySem.F.type_list_append jM h (bZ R dw z) m n l z g) s
end
def CF(K:aS)(a:aM->↑au)(C:aD)(x:aM)(b:Bool):Prop:=∃c,a x=Y (.ref c)/\jA K (.ref C) (.ref c)=Y b/\jA K (.type "NoneType") (.ref c)=Y Z_
structure NI(K:aS)(mg:aM->↑au)(C:aD)(k:Nat):Prop where
 xi:XIs K C
 xg:k=0->Vz K C "at"
 m1:CF K mg C "NoSign"<|k==0
 m2:CF K mg C "NoText" false
 m3:CF K mg C "NoPart"<|k==1
 m4:CF K mg C "Taken"<|k==2
 m5:CF K mg C "Late"<|k==3
 m6:jA K (.ref C) (.type "ValueError")=some true
def kds:Nat->Int->!V
 |0,n=>[.str "sign",.int n]|1,_=>[.str "part"]|2,_=>[.str "taken"]|_,_=>[.str "late"]
def ada(K:aS)(c:aM->↑au)(H:Hp)(v:V)(b:!V):Prop:=(v=.cT/\b=[])\/∃a C k n,v=.ref a/\k<4/\NI K c C k/\Z0 H a C/\(k=0->XAt H a C n)/\b=kds k n
def HL(K:aS)(d:aM->↑au):Sp:=λc H Q e=>∃v b,c=[v]/\ada K d H v b/\∀p a,bD H a->H p=M->a p=Y (.lst b)->Q (.ref p) a
abbrev CV:cS:=kG 38
def CZ:fo ["_law_error","_law_found"] ["_law_error"]<|bu CV:=ű
def Kj{P:bj}{w:cQ}{K:aS}{mg:aM->↑au}{base:cG}{f C0:aD}{fd:dU}(F:gx K "_law_kind" "_law_kind" CV f fd)(kk:KS K mg)(A0:NI K mg C0 0):
  b_ P w K mg base gk 2 f fd ["_law_error"] (HL K mg):=by
 let(c1,m1,_,n1):=A0.m1
 let(c2,m2,_,n2):=A0.m2
 let(c3,m3,_,n3):=A0.m3
 let(c4,m4,_,n4):=A0.m4
 let(c5,m5,_,n5):=A0.m5
 have z1:mg "isinstance" = none:=kk.y
 have z2:mg "ValueError" = none:=kk.y
 have big:100000<be:=by rw[i5];decide
 refine F.ok CZ (λvs H Q E h =>?_)<|λWS A outer s H vs Q E hr h =>?_
 .obtain⟨v,ds,rfl,_⟩:=h
  rfl
 .obtain⟨v,ds,rfl,kv,q⟩:=h
  obtain⟨C,xi,kv⟩:∃C,XIs K C/\((v=.cT/\ds=[])\/∃a k n,v=.ref a/\k<4/\NI K mg C k/\Z0 H a C/\(k=0->XAt H a C n)/\ds=kds k n):=by
   obtain h|⟨a,C,k,n,h1,h2,h3,h4⟩:=kv
   .exact(C0,A0.xi,.inl h)
   .exact(C,h3.xi,.inr (a,k,n,h1,h2,h3,h4))
  refine(_,iA (jZ (i:=1) CZ.nd W (jB W) (zh dw))
   (iA (uG (sV<|vS (v :=.ref c1) xi W z1 (pv 0) (uH W m1 W)) (ji<|jZ (i:=1) CZ.nd W (jB W) (Ph Py (pv 1)<|zh<|bZ pq<|bZ (Tv (pv 0) W) dw)) nB)
   (iA (uG (sV<|vS (v :=.ref c2) xi W z1 (pv 0) (uH W m2 W)) (ji uF) nB)
   (iA (uG (sV<|vS (v :=.ref c3) xi W z1 (pv 0) (uH W m3 W)) (ji<|Dk (pv 1) pq) nB)
   (iA (uG (sV<|vS (v :=.ref c4) xi W z1 (pv 0) (uH W m4 W)) (ji<|Dk (pv 1) pq) nB)
   (iA (uG (sV<|vS (v :=.ref c5) xi W z1 (pv 0) (uH W m5 W)) (ji<|Dk (pv 1) pq) nB)
   (iA (uG (PW.pt<|O7 (Di Kg (pv 0) Dm<|kJ _)<|J1<|HV<|sV<|vS (v :=.ty "ValueError") xi W z1 (pv 0) (Kf W z2 Ų W)) (ji uF) nB)
   (ji<|mE<|pv 1))))))),?_)
  refine(dr _,λl1 Hf =>?_)
  have s1:bD H (cO H l1<|.lst []) :=.alloc Hf
  obtain⟨rfl,rfl⟩|⟨a,k,n,rfl,hk,A,xs,xa,rfl⟩:=kv
  .have z:∀ {c:au}{b:Bool},jA K (.type "NoneType") c=Y b->IsZ K C (cO H l1<|.lst []) .cT c b:=λe =>.inl (W,e)
   refine gz W (z n1) (Z_,W,i9 ?_)
   refine gz W (z n2) (Z_,W,i9 ?_)
   refine gz W (z n3) (Z_,W,i9 ?_)
   refine gz W (z n4) (Z_,W,i9 ?_)
   refine gz W (z n5) (Z_,W,i9 ?_)
   refine(_,W,W,Z_,W,i9<|i9 ?_)
   exact(_,W,q l1 _ s1 Hf aP)
  .have g:∀ {x:aM}{b:Bool}{c:aD},CF K mg C x b->mg x=Y (.ref c)->jA K (.ref C) (.ref c)=Y b:=λ(c',m',k',_) m=>by rw[m]at m';cases m';exact k'
   have k1:=g A.m1 m1
   have k2:=g A.m2 m2
   have k3:=g A.m3 m3
   have k4:=g A.m4 m4
   have k5:=g A.m5 m5
   have z:∀ {H':Hp}{c:au}{b:Bool},bD H H'->jA K (.ref C) c=Y b->IsZ K C H' (.ref a) c b:=λs e =>.inr (a,W,xs.same s,e)
   refine gz W (z s1 k1) ?_
   match k,hk,k1,k3,k4,k5,xa,A with
   |0,_,k1,k3,k4,k5,xa,A=>
    refine(Z',W,qm ?_)
    let(dx,oe,cc,e1,e2,e3,e4):=((xa W).same s1).ex
    refine(_,W,_,W,a,C,dx,oe,_,.int n,W,e1,e2,e3,A.xg W,e4,(by show 2<=be;trivial,λl2 hl2 =>?_))
    have s2:=s1.trans<|.alloc (o :=.lst [.str "sign",.int n]) hl2
    have n21:l1≠l2:=λz=>by rw[z,aP]at hl2;cases hl2
    refine(l1,l2,_,_,W,W,by rw[aI n21];exact aP,aP,by show 2<=be;omega,λl3 hl3 =>?_)
    have s3:=s2.trans<|.alloc (o :=.lst [.str "sign",.int n]) hl3
    refine gz W (z s3 k2) (Z_,W,i9 ?_)
    refine gz W (z s3 k3) (Z_,W,i9 ?_)
    refine gz W (z s3 k4) (Z_,W,i9 ?_)
    refine gz W (z s3 k5) (Z_,W,i9 ?_)
    refine(_,W,W,Z',W,qm ?_)
    refine yp W (z s3 A.m6) (Z',W,i9 ?_)
    exact(_,W,q l3 _ s3 (s2.free hl3) aP)
   |1,_,k1,k3,k4,k5,_,A=>
    refine(Z_,W,i9 ?_)
    refine gz W (z s1 k2) (Z_,W,i9 ?_)
    refine gz W (z s1 k3) (Z',W,qm ?_)
    refine(_,W,.inl (W,[],.of aP),l1,[],_,W,W,aP,by show 0<be;trivial,?_)
    rw[yc]
    have s2:bD H (cO H l1<|.lst [.str "part"]) :=.alloc Hf
    refine gz W (z s2 k4) (Z_,W,i9 ?_)
    refine gz W (z s2 k5) (Z_,W,i9 ?_)
    refine(_,W,W,Z',W,qm ?_)
    refine yp W (z s2 A.m6) (Z',W,i9 ?_)
    exact(_,W,q l1 _ s2 Hf aP)
   |2,_,k1,k3,k4,k5,_,A=>
    refine(Z_,W,i9 ?_)
    refine gz W (z s1 k2) (Z_,W,i9 ?_)
    refine gz W (z s1 k3) (Z_,W,i9 ?_)
    refine gz W (z s1 k4) (Z',W,qm ?_)
    refine(_,W,.inl (W,[],.of aP),l1,[],_,W,W,aP,by show 0<be;omega,?_)
    rw[yc]
    have s2:bD H (cO H l1<|.lst [.str "taken"]) :=.alloc Hf
    refine gz W (z s2 k5) (Z_,W,i9 ?_)
    refine(_,W,W,Z',W,qm ?_)
    refine yp W (z s2 A.m6) (Z',W,i9 ?_)
    exact(_,W,q l1 _ s2 Hf aP)
   |3,_,k1,k3,k4,k5,_,A=>
    refine(Z_,W,i9 ?_)
    refine gz W (z s1 k2) (Z_,W,i9 ?_)
    refine gz W (z s1 k3) (Z_,W,i9 ?_)
    refine gz W (z s1 k4) (Z_,W,i9 ?_)
    refine gz W (z s1 k5) (Z',W,qm ?_)
    refine(_,W,.inl (W,[],.of aP),l1,[],_,W,W,aP,by show 0<be;omega,?_)
    rw[yc]
    have s2:bD H (cO H l1<|.lst [.str "late"]) :=.alloc Hf
    refine(_,W,W,Z',W,qm ?_)
    refine yp W (z s2 A.m6) (Z',W,i9 ?_)
    exact(_,W,q l1 _ s2 Hf aP)
   |k+4,hk,_,_,_,_,_,_=>exact absurd hk ż
def Ww(c:aM):↑Nat:=if c = "NoSign" then Y 0 else if c = "NoPart" then Y 1 else if c = "Taken" then Y 2 else if c = "Late" then Y 3 else M
def YW(h:Ww c=Y k):k<4/\(k=0->c = "NoSign"):=by
 grind [Ww]
def kdD:Nat->Int->!D
 |0,n=>[.str "sign",.int n]|1,_=>[.str "part"]|2,_=>[.str "taken"]|_,_=>[.str "late"]
theorem YV{K:aS}:∀ {k:Nat}{n:Int},bB K G (kdD k n) (kds k n)
 |0,n =>.cons (eL.mpr W) (.cons (bY.mpr W) .nil)|1,n =>.cons (eL.mpr W) .nil|2,n =>.cons (eL.mpr W) .nil|k+3,n =>.cons (eL.mpr W) .nil
abbrev rfT:DT:=mr (gP<|e2 nX (eV 1)<|cn "put")<|gP<|e2 Dt (eV 5)<|eK .cT
def dC(a:!D):↑D:=match a with
 | [f,e,d,b]=>(mW a).bind λr=>match r with
  |.er c n=>if rfT [Y f,Y e,Y d,Y b,M,Y .cT,M]=Y Z_ then (Ww c).map λk =>.lst<|kdD k n else M
  |.ok _=>M
 |_=>M
abbrev pf:cS:=kG 40
abbrev CB:!aM:=["_law_tray","_law_deed","_law_name_here","_law_thing","_law_caught","_law_told","e"]
def mD:fo CB kW<|bu pf:=ű
set_option tactic.hygienic true in
def FX{P:bj}{K:aS}{f:aD}{D:dU}(F:gx K "_law_refused" "_law_refused" pf f fd)(FA:b_ P w K t l (Hi P w) 91 fA I kW<|xC K mW)(hmA:t "_law_asked" = Y (.ref fA))(hkA:jU K (.ref fA)=Z')(hbA:Binds K I kW [])(FK:b_ P w K t l gk 2 fK D ["_law_error"]<|HL K t)(X:t "_law_kind" = Y (.ref fK))(hkK:jU K (.ref fK)=Z')(hbK:Binds K D ["_law_error"] [])(xs:∀c k,Ww c=Y k->∃C,jf K aW c=Y (Y<|.ref C)/\NI K t C k/\PySem.W.exmOne K (.ref C) (.ref N)=Y Z')(U:t "SiftError" = Y (.ref N)):
  b_ P w K t l gk 98 f fd kW (iW K dC):=by
 refine F.ok mD (λvs H Q E h =>?_)<|λWS A mz s H vs Q E S h =>?_
 .obtain⟨G,ds,d,J,r,g,_⟩:=h
  rw[<- r.length]
  unfold dC at g
  split at g
  .rfl
  .cases g
 .obtain⟨G,ds,d,J,r,g,q⟩:=h
  unfold dC at g
  split at g
  .rename_i d0 d1 d2 d3
   let(x,ef,g):=ae.1 g
   let(v0,_,rfl,r0,r):=bt.mp r
   let(v1,_,rfl,r1,r):=bt.mp r
   let(v2,_,rfl,r2,r):=bt.mp r
   let(v3,_,rfl,r3,r):=bt.mp r
   obtain rfl:=cF.mp r
   refine(_,iA (jZ (i:=4) mD.nd W (jB W) Dm)
    (iA (jZ (i:=5) mD.nd W (jB W) Dm)
    (iA (Tn (j:=6) (N:=N) FA (S.mono ſ) W hmA hkA hbA (bZ (pv 0)<|bZ (pv 1)<|bZ (pv 2)<|bZ (pv 3) dw) mD.nd W W W U W W (λa=>ji<|jZ (i:=4) mD.nd W (jB W) (pv 6)))
    (iA (uG (PW.pt<|Q0 (Z:=[]) (tO (Kl S) (vQ 1) (dq wC)<|kJ _) (Lb<|tO T8 (vQ 5) (dq ZD)<|kJ _)) (ji uF) nB)
    (ji<|mE<|pw FK (S.mono ſ) W X hkK hbK .nil ju<|bZ (pv 4) dw)))),?_)
   cases x with
   |ok d'=>cases g|er c n=>
    simp only at g
    split at g
    .rename_i ht
     let(k,hk,g):=aj.1 g
     cases g
     let(C,hC,XA,hM):=xs c k hk
     have rr:bB K G [d0,d1,d2,d3] [v0,v1,v2,v3] :=.cons r0<|.cons r1<|.cons r2<|.cons r3 .nil
     refine(_,W,_,W,_,W,_,W,(G,_,_,J,rr,ef,?_))
     intro x dx H2 u
     let(C',O,n',e1,e2):=u.cl
     rw[hC]at n';cases n'
     refine(x,C,W,hM,(O,e1,e2),λoe0 oe H3 h2 m h3 st =>?_)
     have sH:bD H H3:=λb o e=>m b o (λz=>by rw[z,u.fr]at e;cases e)<|u.same b o e
     refine(_,W,?_)
     have env:jz K [] G H3 [Y v0,Y v1,Y v2,Y v3,Y<|.ref x,Y .cT,M] [Y d0,Y d1,Y d2,Y d3,M,Y .cT,M]:=by
      refine(W,λi d e =>?_,λj r p h=>by cases h)
      match i,e with
      |0,e=>simp_all|1,e=>simp_all|2,e=>simp_all|3,e=>simp_all|4,e=>cases e|5,e=>cases e;exact(_,W,by simpa using (fc.mpr W:cM K G .cT .cT))
      |6,e=>cases e|i+7,e=>simp at e
     refine(G,_,Z_,J.trans sH,env,ht,λG4 H4 L=>i9 ?_)
     have s4:bD H H4:=sH.trans L.hh
     have v:∀y,dx=Y y->H4 y=Y (.xd [("at",.int n)]):=λy R=>by
      have:=u.dx
      rw[R]at this
      exact L.hh _ _<|m y _ this.1 this.2
     have XS:Z0 H4 x C:=(dx,oe,L.hh _ _ h3,st,λy R=>(_,v y R))
     have hl:=YW hk
     refine(_,W,_,kds k n,W,.inr (x,C,k,n,W,hl.1,XA,XS,λz =>?_,W),λp H5 s5 hp h5 =>?_)
     .rcases B:dx with _|y
      .exact absurd B<|u.has<|hl.2 z
      .exact(y,oe,_,L.hh _ _ h3,Ż,v y B,W)
     .have s:=s4.trans s5
      have T:=s4.free hp
      refine q (.ref p) (cO G p<|.lst<|kds k n) H5 (s,.alloc<|J.free T,λb o e =>?_,λb o e =>?_)<|cH.mpr (p,_,W,aP,YV)
      .by_cases hb:b=p
       .simp_all [aP]
       .rw[aI hb]at e;exact Ÿ
      grind [aI]
    .cases g
  .cases g
def yG:!D->↑(!D)
 |[.cT]=>Y []|_=>M
def abZ{K:aS}{mg:aM->↑au}{vs:!V}{H:Hp}{Q:VK}{E:XK}(h:wW K yG vs H Q E):HL K mg vs H Q E:=by
 let(G,ds,d,gh,r,e,q):=h;unfold yG at e;split at e
 .cases e;let(v,_,rfl,r0,r):=bt.mp r;obtain rfl:=cF.mp r;exact(v,[],W,.inl (fc.mp r0,W),λp H' s hp h=>q p [] G H' (s,bD.refl _,gh.trans s,λb o e =>.inl e) hp (gh.free hp) h .nil)
 .cases e
def vo(a:!D):↑(D×D):=(dJ a).map λr=>(.lst r.1,r.2)
def M3:DG:=a_ (eY 4<|eK .cT)<|a_ (eY 5<|eK .cT)<|a_ (k_ 5<|rF cj yH 0<|aC (eV 1) np)<|a_ (hZ rfT sU cX)<|fS<|mP<|eF<|sF yG<|aC (eV 4) aN
def rN:!D->↑(D×D):=kj 4 7 cj M3
abbrev vr:!D->↑D:=lr 40
abbrev pO:!D->↑(!D):=fV 40
abbrev yS:cS:=kG 41
abbrev wn:=gQ<|aC (cn "own")<|aC (cn "a")<|aC (gQ<|aC (cn "any") aN) aN
def Cy:DG:=a_ (lO 4<|sF pO<|aC (e2 dh (eV 2)<|eV 3) aN)
  (a_ (BO (Ff F2 (zE cj rN 0 4 (cn "put")<|e2 dh (eV 1)<|eV 3)<|mP Re) (fS<|mP Ev) cX)
  (a_ (qh 4 wn)
  (hZ (wO [0] []<|gP<|e2 F2 (bF dC<|aC (eV 0)<|aC (cn "put")<|aC (e2 dh (eV 1)<|eV 3)<|aC (e2 dh (eV 2) o0) aN)<|eF<|f7<|aC (cn "taken") aN) (fS<|mP Ev) cX)))
def Cc:DG:=a_ (kI (AQ<|bF iX Db) (gN 3) Cy)<|fS<|mP kw
def rO:!D->↑(D×D):=kj 3 5 cj Cc
abbrev CT:cS:=kG 42
abbrev RP:!aM:=["_law_tray","_law_sifts","_law_names_here","_law_sign","_law_due","_law_found","_law_name_here","_law_numbers","_law_k","_law_told"]
abbrev wp:=rH "Tray" "told" tY (eV 0)<|aC (e2 dh (eV 2)<|eV 8) aN
abbrev Ps:=aC (eF<|qV "Sift" "told" dk<|e2 dh (eV 1)<|eV 8) aN
def Je:DG:=a_ (lO 9<|U6 [0] [] wp)
  (a_ (hZ (wO [1,9] []<|lI<|gw<|bF vr<|aC (eV 9) Ps) (fS<|mP Ev) cX)
  (qh 9 o0))
abbrev am:=km (mP<|e2 dh (eV 1)<|eV 0)<|km (uR "Sift" "take" pD vo 2 (eV 0) db) oH
abbrev ww:=qo [1] []<|bF iX v6
def P8:DM:=uS (AQ ww) [M,Y 2,Y 1,Y 3] (gN 0) (tq am) 2 1<|.li cy
def QH:DG:=a_ (k_ 4 P8)
  (a_ (C4 5 o8<|zD "Tray" "take" cj o8 rh 0 db)
  (a_ (hZ (wO [5] []<|lI<|gw<|bF vr<|aC (eV 5)<|aC (eV 4) aN) (fS<|mP Ev) cX)
  (a_ (yi 5 6 7 0)
  (a_ (C7 5 "a")
  (a_ (kI (AQ ww) (gN 8) Je)
  (fS<|mP kw))))))
def EE:!D->↑(D×D×D):=JT 4 10 cj (.li cy) QH
section
variable {P:bj}{w:cQ}{K:aS}{mg:aM->↑au}{base:cG}{f:aD}{fd:dU}
def H0(F:gx K "_law_refused" "_law_refused" pf f fd)(kk:KS K mg)(h:iC P w K mg base "_law_asked" 97<|spT K cj yH)(Ze:iC P w K mg base "_law_kind" 2<|wW K yG):b_ P w K mg base gk 98 f fd kW<|spT K cj rN:=
 F.Dr CB [0] [0] (by walk_at "s") λnd a a a a a a hr a a a=>
  (aB Ŷ<|aB Ŷ<|aB (Tj<|b7<|D4 (i:=5) nd W (.inl W) (Cj h hr W (pv 0) Ŷ)) (aB Ŷ<|b7<|vf<|D9<|df<|qY Ze (hr.mono ſ) W Ŷ))
def H_(F:gx K "_law_put_all" "_law_put_all" yS f fd)(kk:KS K mg)(afI:iC P w K mg base "_law_copy_steps" 98<|wW K pO)(h:iC P w K mg base "_law_refused" 98<|spT K cj rN)(hx:iC P w K mg base "_law_refused" 98<|iW K dC):b_ P w K mg base gk 99 f fd ["_law_tray","_law_names_here","_law_questions"]<|spT K cj rO:=
 F.Dr ["_law_tray","_law_names_here","_law_questions","_law_k","_law_handed"] [0,4] [0,4] (by walk_at "s") λa a a a a a a hr B a hB=>
  (aB (pH dH W Ŷ (λB hB=>Ŷ)<|λB hB=>(aB Ŷ<|aB (D6 (J7 (Kk hr) (Rf h hr W (pv 0) wC Ŷ<|pv 4) Ŷ<|kJ _) Ŷ dO) Ŷ)) Ŷ)
def TX(F:gx K "_law_step" "_law_step" CT f fd)(kk:KS K mg)(UN:iC P w K mg base "_law_alike" 98<|iW K vr)(UJ:dQ P w K mg base "Sift" "take" 98<|spT K cy vo)(ID:dQ P w K mg base "Tray" "take" 98<|Me K cj o8 rh)(IC:dQ P w K mg base "Tray" "told" 98<|wW K tY)(KJ:dQ P w K mg base "Sift" "told" 98<|wW K dk):b_ P w K mg base gk 99 f fd ["_law_tray","_law_sifts","_law_names_here","_law_sign"]<|OK K cj (.li cy) EE:=
 F.aeX RP [0,1,5,9] [0,1,5,9] (by walk_at "s") λnd b b outer s H b hr B a b hB=>
  (aB (Ai (i:=4) (i0:=2) (j0:=1) (s :=.li cy) (N:=[("_law_k" : aM),("_law_names_here" : aM),("_law_sifts" : aM),("_law_sign" : aM)]) (src:=[M,Y 2,Y 1,Y 3]) (kN (outer:=bu CT) (oN:=RP) W Ų W W) W nd W W Ŷ (j9 0) ſ (mJ _ 0 2) (λC s H ex=>(gR (i:=0) (show ([("_law_k" : aM),("_law_names_here" : aM),("_law_sifts" : aM),("_law_sign" : aM)]:!aM).Nodup by decide +kernel) W (jB W),j5,Zx λB a hB=>Rc<|qW Ŷ<|qW (Nk UJ hr (pv 2) (vP 0) Ŷ) Li))) (aB (Q3 (i:=5) nd W (.inl W) (Rb ID hr (pv 0) Ŷ)) (aB Ŷ<|aB (Nh (r:=5) (ia:=6) (ib:=7) dH W (pv 5) Ŷ (pv 7)) (aB (Q_ (r:=5) (pv 5)) (aB (pH dH W Ŷ (λB hB=>Ŷ)<|λB hB=>(aB (Ld (i:=9) nd W (.inl W) (WQ [1,5,9] [0] []<|Ck IC hr (vP 0) Ŷ)) Ŷ)) Ŷ)))))
abbrev ED:!D->↑(D×!D):=hU 12
def Ep:DG:=eY 8<|e2 ik (eV 8)<|e2 BX (eK<|.fM [bw "open",bw "text",bw "close"] [.int 1,.int 0,.int<|-1])<|e2 dh (eV 9) o0
abbrev wv:=eK<|.int 5
def Eo:DG:=a_ (BO (SK (Fd<|Fc<|yn cj (.li cy) EE 10 12<|aC (eV 6)<|aC (e2 dh (eV 7)<|eV 13) aN)<|Ff F2 (cI "Tray" "take" cj rh 11<|km (mP<|e2 dh (eV 7)<|eV 13) oH)<|mP Re) Fa cX)
  (hZ (wO [10] []<|gP<|e2 F2 (bF dC<|aC (eV 10)<|aC (cn "put")<|aC (e2 dh (eV 6)<|e2 h_ (e2 i8 (eV 4)<|eK<|.int 7) wv)<|aC (eF<|f7<|aC wn aN) aN)<|eF<|f7<|aC (cn "late") aN) Fa cX)
def En:DG:=hZ (gP<|e2 F2 (bF dC<|aC (eV 15)<|aC (cn "take")<|aC (cn "")<|aC (eV 14) aN)<|eF<|f7<|aC (cn "sign")<|aC (bF iX<|aC (eV 7) aN) aN) Fa cX
def Em:DG:=hZ (mr (gP<|e2 oGe (eV 13)<|bF iX xL)<|gP<|e2 F2 (bF dC<|aC (eO 10)<|aC (cn "told")<|aC (e2 dh (eV 6)<|eV 13)<|aC (eK .cT) aN)<|eF<|f7<|aC (cn "part") aN) Fa cX
def QX:DF:=e2 nX (eF<|wu (AQ<|bF iX<|aC (eO 12) aN) [M,Y 10,Y 6,Y 12] (gN 0) (gP<|e2 F2 (eF<|rH "Tray" "told" tY (eO 1)<|aC (e2 dh (eV 2)<|eV 0) aN)<|eF<|qV "Sift" "told" dk<|e2 dh (eO 3)<|eV 0)<|eV 0) Re
abbrev Tk:=eF<|f7<|aC (eO 10)<|aC (eO 11) aN
def ack:DG:=(a_ (lO 1<|sF vq<|aC (eV 0)<|aC (eK<|.int 200)<|aC (eK<|.int 34) aN)<|a_ (k_ 2<|nF sJ 1 aN)<|a_ (eY 3<|eF<|sF yE Db)<|a_ (k_ 4<|nF sJ 1 aN)<|a_ (k_ 5<|Wo (AQ<|e2 h_ (eV 4) on) [M,Y 1,Y 3] (gN 0) (nF ED 1<|aC (eV 2)<|aC f8 aN) 1 1)<|a_ (eY 6<|eF<|wu (AQ wv) [M,Y 2] (gN 0) gu<|bF wJ<|aC (eV 0)<|aC (e2 i8 (eV 1) wf) aN)<|a_ (eY 7<|eF<|sF yD<|aC (eF<|sF vq<|aC (eV 0)<|aC f8<|aC (e2 ik t3<|e2 h_ (e2 i8 (eV 4) on)<|eK<|.int 28) aN)<|aC (eV 3)<|aC wv aN)<|a_ (eY 8 o0)<|a_ (kI (iL<|eV 7) (gN 9) Ep)<|a_ (eY 7<|e2 ik (eV 7)<|e2 qQ (eF<|f7<|aC (gQ<|aC ln aN) aN)<|eV 8)<|a_ (yY 10 cj<|hJ "Tray" iD aN)<|a_ (yY 11 cj<|hJ "Tray" iD aN)<|a_ (hZ (wO [10] []<|gP<|e2 F2 (bF dC<|aC (eV 10)<|aC (cn "take")<|aC (cn "")<|aC (e2 dh (eF<|f7<|aC (gQ<|aC (cn "close") aN)<|aC (gQ<|aC (cn "text")<|aC (cn "x") aN) aN)<|e2 h_ (e2 i8 (eV 4)<|eK<|.int 112) f8) aN)<|eF<|f7<|aC (cn "sign")<|aC o0 aN) Fa cX)<|a_ (BO (Fd<|Fc<|rF cj rO 10<|aC (eV 6) xL) Fa cX)<|a_ (yY 12 (.li cy)<|eF<|wu (iL<|eV 5) [M] (gN 0) gu<|hJ "Sift" cC Sc)<|a_ (kI (AQ<|bF iX<|aC (eV 7) aN) (gN 13) Eo)<|a_ (eY 14<|e2 dh (eF<|f7<|aC (gQ<|aC (cn "open")<|aC (cn "a") aN)<|aC (gQ<|aC (cn "close") aN)<|aC (gQ<|aC (cn "text")<|aC (cn "") aN) aN)<|e2 h_ (e2 i8 (eV 4) wv) wf)<|a_ (kI (iL Tk) (gN 15) En)<|a_ (kI (AQ wv) (gN 13) Em)<|gc QX)
def G8:!D->↑D:=la 1 16 ack
abbrev qF:cS:=kG 43
noncomputable abbrev LL:!aM:=["_law_script","_law_draws_here","_law_first","_law_names_here","_law_some","_law_questions","_law_labels","_law_signs_here","_law_depth","_law_sign","_law_tray","_law_beside","_law_sifts","_law_k","_law_bad","_law_one"]
def Yu(F:gx K "law" "law" qF f fd)(kk:KS K mg)(KI:iC P w K mg base "_law_draws" 98<|wW K vq)(KG:iC P w K mg base "_law_pop" 98<|CW K 0 sJ)(UL:iC P w K mg base "_law_names" 98<|wW K yE)(KE:iC P w K mg base "_law_steps" 98<|CW K 0 ED)(Qy:iC P w K mg base "_law_name" 98<|iW K wJ)(UK:iC P w K mg base "_law_signs" 98<|wW K yD)
  (QA:rg P w K mg base "Tray" 98<|spT K cj iD) (QB:rg P w K mg base "Sift" 98<|spT K cy cC) (hx:iC P w K mg base "_law_refused" 99<|iW K dC) (MZ:iC P w K mg base "_law_put_all" 99<|spT K cj rO) (Zd:iC P w K mg base "_law_step" 99<|OK K cj (.li cy) EE) (ID:dQ P w K mg base "Tray" "take" 98<|spT K cj rh) (IC:dQ P w K mg base "Tray" "told" 98<|wW K tY) (KJ:dQ P w K mg base "Sift" "told" 98<|wW K dk):b_ P w K mg base gk 100 f fd ["_law_script"]<|iW K G8:=
 F.ES LL [1,10,11,12] [1] (by walk_at "s") λnd b b outer s H b hr B hB=>
  (aB (Ld (i:=1) nd W (.inr W) (qY KI (hr.mono ſ) W Ŷ)) (aB (D4 (i:=2) nd W (.inr W) (D_ KG (hr.mono ſ) W (pv 1) mR)) (aB (wA (i:=3) nd W (.inr W) (df<|qY UL (hr.mono ſ) W Ŷ)) (aB (D4 (i:=4) nd W (.inl W) (D_ KG (hr.mono ſ) W (pv 1) mR)) (aB (Ng (i:=5) (i0:=1) (j0:=1) (N:=[("_law_k" : aM),("_law_draws_here" : aM),("_law_names_here" : aM)]) (src:=[M,Y 1,Y 3]) (kN (outer:=bu qF) (oN:=LL) W Ų W W) W nd W W Ŷ (j9 0) ſ (mJ _ 0 1) (λC s H ex=>(gR (i:=0) (show ([("_law_k" : aM),("_law_draws_here" : aM),("_law_names_here" : aM)]:!aM).Nodup by decide +kernel) W (jB W),j5,Zx λB a hB=>(D_ KE (hr.mono ſ) W (pv 1) Ŷ)))) (aB (wA (i:=6) nd W (.inr W) (df<|mQ ["_law_k","_law_first"] [M,Y 2] Ŷ λC s H ex=>(yB Qy (hr.mono ſ) W Ŷ))) (aB (wA (i:=7) nd W (.inl W) (df<|qY UK (hr.mono ſ) W<|gm (df<|qY KI (hr.mono ſ) W Ŷ) Ŷ)) (aB Ŷ<|aB (pH dH W (kU<|vP 7) (λB hB=>Ŷ)<|λB hB=>(b7<|wA (i:=8) nd W (.inl W) (Rm Yw (vQ 8)<|dq<|Ea (nG hr) (dq<|Vm (q:=0) (r:=0) (t:=0) nQ nQ (k:= -1) (ZE<|dq nQ)) Ŷ))) (aB Ŷ<|aB (D3 (i:=10) (s:=cj) nd W (.inr W) (GL (fk:=yw) QA hr W)) (aB (D3 (i:=11) (s:=cj) nd W (.inl W) (GL (fk:=yw) QA hr W)) (aB Ŷ<|aB (D6 (J5<|J4<|Cj MZ hr W (pv 10) Ŷ) Ŷ dO)<|aB (D3 (i:=12) (s :=.li cy) nd W (.inr W) (acO (Ź:=[]) (N:=[("_law_question" : aM)]) (src:=[M]) (kN (outer:=bu qF) (oN:=LL) W Ų W W) W (kU<|vP 5) (j9 0) ſ (uY 0) (λC s H ex=>(gR (i:=0) (show ([("_law_question" : aM)]:!aM).Nodup by decide +kernel) W (.inl W),Vo (fk:=pD) QB hr W Ŷ)))) (aB (pH dH W Ŷ (λB hB=>Ŷ)<|λB hB=>(aB (D6 (X6 (J5<|J4<|Nl Zd hr W (pv 10) (pv 12) Ŷ)<|J7 (Kk hr) (GG ID (hr.mono ſ) (pv 11) Ŷ) Ŷ<|kJ _) Ŷ dO) Ŷ))<|aB Ŷ<|kM (own1:=[1,11,12]) 10 (kM (own1:=[1,12]) 11 (kM (own1:=[1]) 12 (aB (pH dH W (kU<|df<|Rn<|gm (vO 10)<|gm (vO 11) mR) (λB hB=>Ŷ)<|λB hB=>Ŷ)<|aB (pH dH W Ŷ (λB hB=>Ŷ)<|λB hB=>(b7<|ja (PW.pt<|Q0 Ŷ<|Lb<|tO (Kk hr) (dq<|yB hx hr W<|gm (vO 10) Ŷ) Ŷ<|kJ _) Ŷ dO))<|b7<|mO<|I_ (Kl hr) (dq<|df<|Ro (Ź:=[]) (N:=[("_law_k" : aM),("_law_tray" : aM),("_law_labels" : aM),("_law_sifts" : aM)]) (src:=[M,Y 10,Y 6,Y 12]) (kN (outer:=bu qF) (oN:=LL) W Ų W W) W (Nn W kk.y<|dq<|ZF W kk.y<|dq<|vO 12) (j9 0) ſ (uY 0) (λC s H ex=>(gR (i:=0) (show ([("_law_k" : aM),("_law_tray" : aM),("_law_labels" : aM),("_law_sifts" : aM)]:!aM).Nodup by decide +kernel) W (.inl W),Vb<|tO (Kk hr) (dq<|df<|Ck IC (hr.mono ſ) (vO 1) Ŷ) (dq<|df<|Cm KJ (hr.mono ſ)<|acN (dq<|vO 3)<|vQ 0)<|kJ _,vP 0))) Ŷ (kJ _))))))))))))))))
end
abbrev n_:cS:=cL (kG 3) 0
def OV:fo ["self","at"] ["self","at"]<|bu n_:=ű
def PH{P:bj}{K:aS}{f:aD}(F:gx K "__init__" "NoSign.__init__" n_ f d)(T:VA K C "at"):b_ P w K g b gk 1 f d ["self","at"]<|yg C "at":=by
 refine F.ok OV (λe H Q E h =>?_)<|λn A c s H e Q E o h =>?_
 .obtain⟨a,t,v,rfl,_⟩:=h
  rfl
 .obtain⟨a,t,v,rfl,l,k⟩:=h
  refine(_,ji<|Ti (pv 0) (pv 1) W,?_)
  exact(_,W,_,W,a,C,t,W,l,T,λm j i=>k m j i)
end K21
namespace K21
open PySem L2
structure vy where
 q:!D
 qd:D
 bits:Int
 nk:!hW
 nv:!D
 tk:!hW
 tv:!D
 iO:Int
 wR:Int
 inner:Int
 cV:!D
 asks:!D
noncomputable def iK(f:vy):D :=.ins "Facts" ["question","bits","by_name","by_text","starred","stars","inner","leads","asks"] [f.qd,.int f.bits,.fM f.nk f.nv,.fM f.tk f.tv,.int f.iO,.int f.wR,.int f.inner,.lst f.cV,.lst f.asks]
structure jr where
 number:Int
 named:Int
 atoms:Int
 fits:Int
 bL:Int
 ra:Int
 uZ:Int
 ha:Int
noncomputable abbrev rk:!aM:=["number","named","atoms","fits","reached","reached_around","hoped","hoped_around"]
noncomputable abbrev rl(r:jr):!D:=[.int r.number,.int r.named,.int r.atoms,.int r.fits,.int r.bL,.int r.ra,.int r.uZ,.int r.ha]
def eD(r:jr):D :=.ins "Row" rk<|rl r
structure vk where
 num:Int
 place:Int
 Z:Int
 around:Int
noncomputable def iI(r:vk):D :=.tup [.int r.num,.int r.place,.int r.Z,.int r.around]
structure lC where
 f:vy
 full:Int
 tV:Int
 taken:Int
 opened:Int
 rows:!jr
 rests:!vk
noncomputable abbrev ck:!aM:=["facts","full","able","taken","opened","rows","rests"]
abbrev cl(c:lC):!D:=[iK c.f,.int c.full,.int c.tV,.int c.taken,.int c.opened,.lst<|c.rows.map eD,.lst<|c.rests.map iI]
def c6(c:lC):D :=.ins "Coming" ck<|cl c
noncomputable abbrev bA:=t9
noncomputable abbrev bO:=fD
noncomputable abbrev bN:=ER
def zQ(c:lC)(p a f:Int)(h:(bA (bO p<|bA a c.f.inner) f).natAbs<2 ^ 64):eJ [c6 c,.int p,.int a,.int f]=Y (.int<|bA (bO p<|bA a c.f.inner) f*2):=by
 let e:eJ [c6 c,.int p,.int a,.int f]=((r8 (.int<|bA (bO p<|bA a c.f.inner) f)<|.int 1).map DO.rt).bind RV:=by kernel_rfl
 rw[e];simp only[r8];rw[if_pos (by solve_by_elim,by solve_by_elim,h)]
 exact Ÿ
def zJ(h:0<n):Be n (-1)=Y (n-1):=by
 unfold Be
 grind
def zK{n k:Nat}(h:k<n):Be n (k:Int)=Y k:=by
 simp_all [Be,if_pos]
def RC(b:!a)(x:a):qt (b++[x]) (-1)=Y x:=by
 simp_all [qt,zJ]
def lD{ρ':cf}(e:g a=Y (.nx ρ')):a_ g h a=h ρ':=by unfold a_;rw[e];rfl
def HQ{f:DF}{a:cf}{d:D}(e:f a=Y d):eY i f a=Y (.nx<|a.set i<|Y d):=by simp_all [eY]
def sq{ρ':cf}(e:g a=Y (.nx ρ'))(k:h ρ'=r):a_ g h a=r:=(lD e).trans k
def qa{f:DF}{d:D}(e:f a=Y d)(k:h (a.set i<|Y d)=r):a_ (eY i f) h a=r:=sq (HQ e) k
def Mc{f:DL}{l:!D}(e:f a=Y l)(k:h (a.set i<|Y<|.lst l)=r):a_ (lO i f) h a=r:=sq (by unfold lO;rw[e];rfl) k
def bq{o:α->↑β}{x y:↑α}(e:y=x)(k:x.bind o=r):y.bind o=r:=e ▸ k
def nr{f:DF}{b:Bool}(h:f a=Y (.bl b)):gP f a=Y b:=by unfold gP;rw[h];rfl
def jH{f:DL}(e:f a=Y c):kI f b g a=jw b g c a:=by simp_all [kI]
def i_{t:DT}(h:t a=Y Z'):hZ t g k a=g a:=by simp_all [hZ]
def w_{t:DT}(h:t a=Y Z_):hZ t g k a=k a:=by simp_all [hZ]
def mI{g:DG}(h:t a=Y Z_):hZ t g cX a=Y (.nx a):=w_ h
def m8{g:DG}(e:t a=Y Z_)(k:h a=r):a_ (hZ t g cX) h a=r:=sq (mI e) k
def Rz{f g h:DF}{G:!D->↑D}(a:f ρ=Y x)(b:g ρ=Y y)(c:h ρ=Y z):bF G (aC f<|aC g<|aC h aN) ρ=G [x,y,z]:=by unfold bF aC;rw[a,b,c];rfl
def oP{g:DL}{ρ:cf}{l:!D}(h:g ρ=Y l):eF g ρ=Y (.lst l):=by simp_all [eF]
def fN{f:DF}(a:f c=Y x)(b:g c=Y y):e2 o f g c=o x y:=by simp_all [e2]
def aeq{f:DF}{b:Bool}(h:f ρ=Y (.bl b)):gw f ρ=Y b:=by
 simp[gw,h]
def S5{f:DF}{x y:aM}(h:f ρ=Y (.str x)):gP (e2 nX f<|eK<|.str y) ρ=Y (x==y):=nr<|(fN h W).trans ź
def Fz{f:DF}{d:D}(e:f ρ=Y d):fS (mP f) ρ=Y (.rm d ρ):=by unfold fS mP;rw[e];rfl
def y_{f:DM}{d:D}(e:f ρ=Y (d,σ)):fS f ρ=Y (.rm d σ):=by unfold fS;rw[e];rfl
def JW{f:DL}{l:!D}(e:f ρ=Y l):wX f ρ=Y (.ro l):=by unfold wX;rw[e];rfl
def qL{f:DM}{d:D}(e:f ρ=Y (d,σ)):k_ i f ρ=Y (.nx<|σ.set i<|Y d):=by unfold k_;rw[e];rfl
def aaK{f:DM}{d:D}(e:f ρ=Y (d,σ)):jY f ρ=Y (.nx σ):=by unfold jY;rw[e];rfl
def Fb{f:DF}{b:Bool}(h:f ρ=Y (.bl b)):lI (gw f) ρ=Y (not b):=by
 simp[lI,gw,h]
def De{f:DF}{d:D}(e:f a=Y d):(gc f a).bind RV=Y d:=by unfold gc;rw[e];rfl
def qM{t:DT}{f:DF}{d:D}{h:DG}(e:t a=Y Z')(k:f a=Y d):a_ (hZ t (gc f) cX) h a=Y (.rt d):=by
 unfold a_;rw[i_ e];unfold gc;rw[k];rfl
def FV{t u:DT}{x y:Bool}(h:t a=Y x)(g:u a=Y y):xw t u a=Y (x||y):=by
 unfold xw;rw[h,g];cases x<;>rfl
theorem Lw:1000000<=dZ:=by unfold dZ;decide
def j2{n:Nat}(h:n<2000):n<dZ:=bp (Nat.lt_trans h ſ) Lw
def pL{f:DF}{l:!D}{d:D}(b:eV i a=Y (.lst l))(n:l.length<dZ)(e:f a=Y d):qh i f a=Y (.nx<|a.set i<|Y<|.lst<|l++[d]):=by
 unfold qh gM;rw[b,e];exact if_pos n
def Qt{f:DF}{l:!D}{d:D}{b:Bool}(h:t a=Y b)(v:eV i a=Y (.lst l))(n:l.length<dZ)(e:b=Z'->f a=Y d):hZ t (qh i f) cX a=Y (.nx<|a.set i<|Y<|.lst<|l++if b then [d] else []):=by
 cases b with
 |true=>exact(i_ h).trans (pL v n<|e W)|false=>rw[mI h];have:a[i]?=Y (Y<|.lst l):=Option.join_eq_some_iff.1 v;let(j,w):=aq.1 this;simp[<- w]
def kA{f:DF}{ρ':cf}{d:D}(r:Bt b c a=ρ')(e:f ρ'=Y d)(p:qN d=Z'):qo b c f a=Y d:=by simp_all [qo]
def nM{f:DT}{ρ':cf}(r:Bt c d a=ρ')(e:f ρ'=Y b):wO c d f a=Y b:=by simp_all [wO]
def jI{f:DL}{l r:!D}(e:f ρ=Y l)(n:l.length<=1000)(h:tD (mC s ρ) τ U g l=Y r):wu f s τ U g ρ=Y r:=by
 unfold wu;rw[e];exact(if_pos<|kb<|j2 Ž).trans h
abbrev oC(c:lC):↑D:=Y<|.obj bg<|c6 c
noncomputable abbrev dP(k:Nat):↑D:=Y<|.dP 0 [.fld "rows",.ix k]
def YC(c:lC)(b:vk)(r d:jr):vk:=
 let a:=bA (bO b.Z b.around/2) r.fits
 (b.num,b.place-1,bA (bA a<|bN c.f.inner) d.uZ,bA (bO (bA a c.f.inner) b.around) d.ha)
def Ml{c:lC}(h:c.rows.getLast? = Y a):qt (c.rows.map eD) (-1)=Y (eD a):=by
 let(b,e):=Oa.mp h
 simp_all [bS,RC]
def Dw(c:lC)(b:vk)(r a:jr)(h:c.rows.getLast? = Y a):iq [c6 c,iI b,eD r]=Y (iI<|YC c b r a):=bq (qa (Ml h) W) ź
def vt{c:lC}{k:Nat}{r:jr}(a:c.rows[k]?=Y r):(c.rows.map eD)[k]?=Y (eD r):=by simp_all
abbrev Ix:=gZ []
def O2{c:lC}{k:Nat}(h:c.rows[k]?=Y r):Bf "Row" bg (c6 c) [.fld "rows",.ix k]=Y ([],rk,rl r):=by
 unfold Bf;rw[show gZ [.fld "rows",.ix k] (c6 c)=((c.rows.map eD)[k]?).bind Ix by kernel_rfl,vt h];exact ź
def O1{c:lC}{k:Nat}{q:jr}(h:c.rows[k]?=Y r):gX (eD q) [.fld "rows",.ix k] (c6 c)=c6 { c with rows:=c.rows.set k q }:=by
 have:gX (eD q) [.fld "rows",.ix k] (c6 c)=D.ins "Coming" ck [iK c.f,D.int c.full,D.int c.tV,D.int c.taken,D.int c.opened,(match (c.rows.map eD)[k]? with|none=>D.lst (c.rows.map eD)|some _=>D.lst<|(c.rows.map eD).set k<|eD q),D.lst<|c.rests.map iI]:=by kernel_rfl
 simp_all [c6,EI]
def Dc{c:lC}{k:Nat}{r:jr}{f:aM}{d:D}(h:c.rows[k]?=Y r)(m:eV 0 a=oC c)(i:eV j a=dP k)(l:e a=Y d)(g:D.ins "Row" (jd f d rk<|rl r).1 (jd f d rk<|rl r).2=eD q):
  eZ Z' j "Row" f e a=Y (.nx<|a.set 0<|oC { c with rows:=c.rows.set k q }):=by
 unfold eZ J_ AN;rw[l,i];simp;rw[m];simp;rw[O2 h];simp only[av];rw[if_pos (W,by decide),g,O1 h]
def JV{c:lC}{k:Nat}{r q:jr}{f:aM}{m n:Int}(i:c.rows[k]?=Y r)(p:eV 0 a=oC c)(l:eV j a=dP k)(o:e a=Y (.int n))(h:(rk.zip<|rl r).lookup f=Y (.int m))(g:D.ins "Row" (jd f (.int<|b m n) rk<|rl r).1 (jd f (.int<|b m n) rk<|rl r).2=eD q):
  gd Z' j "Row" f b e a=Y (.nx<|a.set 0<|oC { c with rows:=c.rows.set k q }):=by
 unfold gd J_ AN;rw[o,l];simp;rw[p];simp;rw[O2 i];simp only[av,h];rw[if_pos (W,by decide),g,O1 i]
def tU{c:lC}{n:Int}{k:Nat}(g:eV 0 a=oC c)(f:b a=Y (.int n))(d:Be c.rows.length n=Y k):sr i 0 "Coming" "rows" b a=Y (.nx<|a.set i<|dP k):=by
 let e:rT "Coming" "rows" 0 a=Y (rG,ck,cl c,D.lst<|c.rows.map eD):=by unfold rT AN;rw[g];exact ź
 unfold sr;rw[e,f];show (Be _ n).map _=_
 simp_all
structure WW(f:vy)(pE lift:Int->Int->Int):Prop where
 pE:∀n a,fF [iK f,.int n,.int a]=some (.int<|pE n a)
 lift:∀n a,hV [iK f,.int n,.int a]=some (.int<|lift n a)
def OJ(c b:Int->Int->Int)(p:Nat)(r d:jr)(a:!jr):!jr:=
 (a.set (p+1) { r with fits:=c r.named r.atoms }).set p { d with atoms:=bO d.atoms (b r.named r.atoms) }
def Wc{q:Nat}{x d l g:↑D}(n:c.rows[q]?=Y r):Bt [0] [3,5] [oC c,x,d,dP q,l,g]=[Y<|c6 c,x,d,Y<|eD r,l,unA [oC c,x,d,dP q,l,g] g]:=by
 let s:Bt [0] [3,5] [oC c,x,d,dP q,l,g]=[Y<|c6 c,x,d,((c.rows.map eD)[q]?).bind Ix,l,unA [oC c,x,d,dP q,l,g] g]:=by kernel_rfl
 rw[s,vt n];rfl
def Fq(w:WW c.f e a){p:Nat}{f:jr}(s:c.rows[p+1]?=Y r)(z:c.rows[p]?=Y f)(d A l g:↑D):
  iS [oC c,Y<|.int<|(p:Int)+1,d,A,l,g]=Y (.nx [oC { c with rows:=OJ e a p r f c.rows },Y<|.int p,Y<|.bl<|bA (a r.named r.atoms) (bN f.atoms) != 0,dP<|p+1,Y<|.int<|a r.named r.atoms,dP p]):=by
 have v:p+1<c.rows.length:=(aq.mp s).1;refine sq (tU W W<|zK v)<|sq (Dc (q:={ r with fits:=e r.named r.atoms }) s W W (kA (Wc s) (w.pE _ _) W) ź) ?_;generalize h:({ c with rows:=c.rows.set (p+1) { r with fits:=e r.named r.atoms } }:lC)=b;have u:b.f=c.f:=by rw[<- h]
 have m:b.rows[p+1]?=Y { r with fits:=e r.named r.atoms }:=by rw[<- h];simp[v]
 have k:b.rows[p]?=Y f:=by rw[<- h];simp only;rw[aw<|by simp];exact z
 have t:p<b.rows.length:=(aq.mp k).1;refine qa (kA (Wc m) (show hV [iK b.f,.int r.named,.int r.atoms]=_ from by rw[u];exact w.lift _ _) W)<|sq (ρ':=[oC b,Y<|.int p,d,dP<|p+1,Y<|.int<|a r.named r.atoms,g]) ?_ (sq (tU W W<|zK t)<|qa (kA (ρ':=[Y<|c6 b,Y<|.int p,d,Y<|eD { r with fits:=e r.named r.atoms },Y<|.int<|a r.named r.atoms,Y<|eD f]) ?_ (show F2 (.int<|bA (a r.named r.atoms)<|bN f.atoms) (.int 0)=_ from W) W) ?_)
 .show Y (DO.nx [_,Y<|.int<|(p:Int)+1-1,_,_,_,_])=_;rw[Int.add_sub_cancel]
 .rw[show Bt [0] [3,5] _=[_,_,_,((b.rows.map eD)[p+1]?).bind Ix,_,((b.rows.map eD)[p]?).bind Ix] by kernel_rfl,vt m,vt k];rfl
 .rw[<- h]at k ⊢;exact(JV k W W W W ź).trans W
def Fs(pE lift:Int->Int->Int):Bool->Nat->!jr->!jr
 | true,p+1,a=>match a[p+1]?,a[p]? with
  |some r,Y b=>Fs pE lift (bA (lift r.named r.atoms) (bN b.atoms) != 0) p (OJ pE lift p r b a)|_,_=>a
 |_,_,a=>a
def OI:(OJ pE lift p r b a).length=a.length:=by unfold OJ;simp
theorem ux:∀(p n:Nat) (c:lC) (f:Bool) (d b a:↑D),WW c.f pE lift->p<n->p<c.rows.length->∃v u j i g,
  sL (mr (gw<|eV 2) xz) iS n [oC c,Y<|.int p,Y<|.bl f,d,b,a]=Y (.nx [oC { c with rows:=Fs pE lift f p c.rows },v,u,j,i,g])
 |p,0,c,f,d,b,a,_,h,_=>by simp_all
 |0,n+1,c,f,d,b,a,k,h,o=>(Y<|.int 0,Y<|.bl f,d,b,a,by cases f<;>rfl)
 | p+1,n+1,c,f,d,b,a,k,h,o=>by
  cases f with
  |false=>exact(_,Y<|.bl Z_,d,b,a,W)|true=>let l:c.rows[p+1]?=Y c.rows[p+1]:=aE o;let m:c.rows[p]?=Y (c.rows[p]' Ž):=aE Ž;let(t,s,j,i,g,q):=ux p n { c with rows:=OJ pE lift p c.rows[p+1] (c.rows[p]' Ž) c.rows } _ (dP<|p+1) _ (dP p) k Ż (by simp only[OI];lia);refine(t,s,j,i,g,?_);rw[sL,show mr (gw<|eV 2) xz [oC c,Y<|.int ((p+1:Nat):Int),Y<|.bl Z',d,b,a]=Y Z' from congrArg Y (decide_eq_true<|show (p:Int)+1 > 0 by simp)];refine Eq.trans (show (iS [oC c,Y<|.int<|(p:Int)+1,Y<|.bl Z',d,b,a]).bind _=_ from bq (Fq k l m _ _ _ _) q) ?_;simp only[Fs,l,m]
def BL{c:lC}(b:WW c.f pE lift)(e:0<c.rows.length)(d:c.rows.length<1000000):gC [c6 c]=Y (.cT,c6 { c with rows:=Fs pE lift Z' (c.rows.length-1) c.rows }):=by
 let(j,i,h,g,f,q):=ux (c.rows.length-1) 1000000 c Z' M M M b ž ž;refine bq (qa (show _=Y (.int (c.rows.length-1:Nat)) from (show _=Y (D.int<|(c.rows.map eD).length-1) by kernel_rfl).trans ŷ)<|qa W q) ź
def Ay(pE lift:Int->Int->Int)(c:lC)(atoms:Int)(r:jr):lC:=if bA atoms (bN r.atoms) != 0 then { c with rows:=Fs pE lift Z' (c.rows.length-1) (c.rows.set (c.rows.length-1) { r with atoms:=bO r.atoms atoms }) } else c
set_option tactic.hygienic true in
def EB{c:lC}(j:WW c.f pE lift){r:jr}(b:c.rows[c.rows.length-1]?=Y r)(i:c.rows.length<1000000)(atoms:Int):iu [c6 c,.int atoms]=Y (.cT,c6<|Ay pE lift c atoms r):=by
 have f:0<c.rows.length:=by have:=(aq.mp b).1;lia
 refine bq (sq (tU W W<|zJ f) W) ?_;have a:Bt [0] [2] [oC c,Y<|.int atoms,dP<|c.rows.length-1]=[Y<|c6 c,Y<|.int atoms,(c.rows.map eD)[c.rows.length-1]?.bind Ix]:=ź
 rw[vt b]at a;have t:=nM (f:=gw bv) (b:=bA atoms (bN r.atoms) != 0) a ź;unfold Ay;split
 .rename_i e;have d:=BL (c:={ c with rows:=c.rows.set (c.rows.length-1) { r with atoms:=bO r.atoms atoms } }) j (by simpa using f) (by simpa using i);simp only[List.length_set]at d;refine bq ((i_<|t.trans<|by rw[e]).trans<|sq (JV (q:={ r with atoms:=bO r.atoms atoms }) b W W W W ź) W) ?_;unfold jY;have g:∀G,cI "Coming" "spread" bg G 0 oH [oC { c with rows:=c.rows.set (c.rows.length-1) { r with atoms:=bO r.atoms atoms } },Y<|.int atoms,dP<|c.rows.length-1]=(G [c6 { c with rows:=c.rows.set (c.rows.length-1) { r with atoms:=bO r.atoms atoms } }]).map λq=>(q.1,[Y<|.obj bg q.2,Y<|.int atoms,M]):=by intro G;exact ź
  exact bq (congrArg (lu _)<|(g _).trans<|by rw[d]) ź
 .rename_i e;exact bq (w_<|t.trans<|by simpa using e) ź
def IK(b p a f:Int):Int:=bA (bO p<|bA a b) f*2
def n8(a:Int)(b r:jr):jr:={ r with bL:=IK a b.bL b.ra r.fits,ra:=bO b.ra (IK a b.bL b.ra r.fits) }
abbrev IP(a b:Int)(c r:jr):Bool:=bA (bA (IK a c.bL c.ra r.fits)<|bN r.bL) b != 0
def FD{p q:Nat}{x y l:↑D}(n:c.rows[q]?=Y r)(v:c.rows[p]?=Y a):Bt [0] [4,3] [oC c,x,y,dP p,dP q,l]=[Y<|c6 c,x,y,Y<|eD a,Y<|eD r,l]:=by
 let s:Bt [0] [4,3] [oC c,x,y,dP p,dP q,l]=[Y<|c6 c,x,y,((c.rows.map eD)[p]?).bind Ix,((c.rows.map eD)[q]?).bind Ix,l]:=by kernel_rfl
 rw[s,vt n,vt v];rfl
def Fu{p:Nat}(n:c.rows[p+1]?=Y r)(v:c.rows[p]?=Y a)(F:(bA (bO a.bL<|bA a.ra c.f.inner) r.fits).natAbs<2 ^ 64)(b:!D)(y:b.length<dZ)(A z l:↑D):
  j8 [oC c,Y<|.lst b,Y<|.int<|(p:Int)+1,A,z,l]=Y (.nx [oC { c with rows:=c.rows.set (p+1) (n8 c.f.inner a r) },Y<|.lst<|b++if IP c.f.inner c.full a r then [.int r.number] else [],Y<|.int<|(p:Int)+1,dP p,dP<|p+1,Y<|.int r.bL]):=by
 have w:p+1<c.rows.length:=(aq.mp n).1;refine sq (tU W (show Y (D.int<|(p:Int)+1-1)=Y (.int p) by rw[Int.add_sub_cancel])<|zK Ž)<|sq (tU W W<|zK w)<|qa (d :=.int r.bL) (kA (FD n v) ź W) (sq (Dc (q:={ r with bL:=IK c.f.inner a.bL a.ra r.fits }) n W W (kA (FD n v) (zQ _ _ _ _ F) W) ź) ?_);generalize f:({ c with rows:=c.rows.set (p+1) { r with bL:=IK c.f.inner a.bL a.ra r.fits } }:lC)=g;have i:g.rows[p+1]?=Y { r with bL:=IK c.f.inner a.bL a.ra r.fits }:=by rw[<- f];simp[w]
 have j:g.rows[p]?=Y a:=by rw[<- f];simp only;rw[aw<|by simp];exact v
 refine sq (Dc (q:=n8 c.f.inner a r) (d :=.int<|bO a.ra<|IK c.f.inner a.bL a.ra r.fits) i W W (kA (FD i j) ź W) ź) ?_;rw[show ({ g with rows:=g.rows.set (p+1) (n8 c.f.inner a r) }:lC)={ c with rows:=c.rows.set (p+1) (n8 c.f.inner a r) } by rw[<- f];simp];generalize h:({ c with rows:=c.rows.set (p+1) (n8 c.f.inner a r) }:lC)=d;have t:d.rows[p+1]?=Y (n8 c.f.inner a r):=by rw[<- h];simp[w]
 have u:d.rows[p]?=Y a:=by rw[<- h];simp only;rw[aw<|by lia];exact v
 have x:c.full=d.full:=by rw[<- h]
 rw[x];exact Qt (nM (FD t u) ź) W y λ_=>kA (FD t u) ź W
def jS(a:Int):jr->!jr->!jr
 |_,[]=>[]|pr,r::b=>n8 a pr r::jS a (n8 a pr r) b
def uN(a b:Int):jr->!jr->!Int
 |_,[]=>[]|pr,r::c=>(if IP a b pr r then [r.number] else [])++uN a b (n8 a pr r) c
def SmL(a:Int):jr->!jr->Prop
 |_,[]=>True|pr,r::b=>(bA (bO pr.bL<|bA pr.ra a) r.fits).natAbs<2 ^ 64/\SmL a (n8 a pr r) b
theorem Fv(a:Int):∀(c:jr) (b:!jr),(jS a c b).length=b.length
 |_,[]=>rfl|c,r::b=>by simp[jS,Fv a _ b]
theorem F6(a b:Int):∀(d:jr) (c:!jr),(uN a b d c).length<=c.length
 |_,[]=>aV _|d,r::c=>by have:=F6 a b (n8 a d r) c;unfold uN;split<;>simp<;>solve_by_elim
def Mm(b:Int)(n:Nat):iJ b (n+1)=.int b::iJ (b+1) n:=by
 grind [iJ,VO,iw]
def mL{ρ1:cf}(h:b d c=Y ρ1)(f:g ρ1=Y (.nx a)):jw b g (d::e) c=jw b g e a:=by
 simp_all [jw,av]
theorem yW:∀(rs pre:!jr) (pr:jr) (c:lC) (ds:!D) (a2 a3 a4 a5:↑D),c.rows=pre++pr::rs->SmL c.f.inner pr rs->ds.length+rs.length<dZ->∃b2 b3 b4 b5,
  jw (gN 2) j8 (iJ ((pre.length:Int)+1) rs.length) [oC c,Y<|.lst ds,a2,a3,a4,a5]=Y (.nx [oC { c with rows:=pre++pr::jS c.f.inner pr rs },Y<|.lst<|ds++(uN c.f.inner c.full pr rs).map D.int,b2,b3,b4,b5])
 |[],pre,pr,c,ds,a2,a3,a4,a5,e,h,hd=>by refine(a2,a3,a4,a5,?_);show Y (DO.nx _)=_;simp only[jS,uN,VP,bT,<- e]
 | r::rs,pre,pr,c,ds,a2,a3,a4,a5,e,h,hd=>by
  let hr:c.rows[pre.length+1]?=Y r:=by simp_all
  let hp:c.rows[pre.length]?=Y pr:=by simp_all
  simp only[bK]at hd ⊢;let hb:=Fu hr hp h.1 ds Ž a3 a4 a5;rw[Mm,mL W hb];let(b2,b3,b4,b5,q):=yW rs (pre++[pr]) (n8 c.f.inner pr r) { c with rows:=c.rows.set (pre.length+1) (n8 c.f.inner pr r) } (ds++if IP c.f.inner c.full pr r then [.int r.number] else []) (Y<|.int<|(pre.length:Int)+1) (dP pre.length) (dP<|pre.length+1) (Y<|.int r.bL) Ż h.2 (by split<;>simp<;>lia);refine(b2,b3,b4,b5,?_);simp only[bf,bK,kZ,Int.natCast_add,Int.natCast_one,Int.natCast_zero,VQ]at q;rw[q];rw[jS,uN];simp only[bU,nj,e_,bS];have:(if IP c.f.inner c.full pr r=Z' then [D.int r.number] else [])=NW D.int (if IP c.f.inner c.full pr r=Z' then [r.number] else []):=by split<;>solve_by_elim
  rw[this]
def Y7{f:DF}{i:Int}(c:f a=Y (.int i))(b:g a=Y (.int j))(h : -(2 ^ 62)<=i/\i<2 ^ 62 /\ -(2 ^ 62)<=j/\j<2 ^ 62):iR2 f g a=Y (iJ i (j-i).toNat):=by
 simp_all [iR2,av,if_pos]
def Mh(e:c.rows=t::a)(h:SmL c.f.inner t a)(m:a.length<1000000):jC [c6 c]=Y ((uN c.f.inner c.full t a).map D.int,c6 { c with rows:=t::jS c.f.inner t a }):=by
 let(l,k,j,i,q):=yW a [] t c [] M M M M (by simpa using e) h (by grind [Lw,kZ]);show (qb [oC c,M,M,M,M,M]).bind (zk bg)=_;refine bq (Mc (l:=[]) W (sq (ρ':=[oC { c with rows:=t::jS c.f.inner t a },Y<|.lst<|(uN c.f.inner c.full t a).map D.int,l,k,j,i]) ?_ W)) ź;unfold kI;rw[Y7 (i:=1) (j:=a.length+1) W ((show _=Y (D.int ((c.rows.map eD).length:Int)) by kernel_rfl).trans<|by simp_all) (by decide,by decide,by solve_by_elim,by lia)]
 simp_all
abbrev UI(r:jr)(a:vk):Bool:=bA r.bL a.Z != 0||bA r.ra a.around != 0
def m9(a:!jr)(b:vk):Bool:=match a[b.place.toNat]? with|some r=>UI r b|none=>Z_
abbrev PlO(a:!jr)(b:vk):Prop:=0<=b.place/\b.place<a.length
theorem L'(h:PlO c.rows rs)(fs ks:!D)(hf:fs.length<dZ)(hk:ks.length<dZ)(a4:↑D):
  ∃b4,iM [oC c,Y<|.lst fs,Y<|.lst ks,Y<|iI rs,a4]=Y (.nx [oC c,Y<|.lst<|fs++if m9 c.rows rs then [.int rs.num] else [],Y<|.lst<|ks++if m9 c.rows rs then [] else [iI rs],Y<|iI rs,b4]):=by
 obtain⟨k,hk'⟩:∃k:Nat,rs.place=k:=(rs.place.toNat,Ž);have hl:k<c.rows.length:=by have:=h.2;simp_all
 let hr:=aE hl;generalize c.rows[k]=r at hr;rw[show m9 c.rows rs=UI r rs by unfold m9;rw[hk',EL,hr]];refine(dP k,sq (tU W (show Y (D.int rs.place)=Y (.int k) by rw[hk'])<|zK hl) ?_);have q1:Bt [0] [4] [oC c,Y<|.lst fs,Y<|.lst ks,Y<|iI rs,dP k]=[Y<|c6 c,Y<|.lst fs,Y<|.lst ks,Y<|iI rs,((c.rows.map eD)[k]?).bind Ix]:=ź
 rw[vt hr]at q1;have q2:=nM (b:=UI r rs) (f:=xw (gw At)<|gw pp) q1 (FV ź ź);cases y:UI r rs with
 |true=>exact((i_<|q2.trans<|by rw[y]).trans<|pL W hf W).trans ż
 |false=>exact((w_<|q2.trans<|by rw[y]).trans<|pL W hk W).trans ż
theorem E_:∀(d:!vk) (c:lC) (g f:!D) (j i:↑D),(∀a∈d,PlO c.rows a)->g.length+d.length<dZ->f.length+d.length<dZ->∃l k,
  jw (gN 3) iM (d.map iI) [oC c,Y<|.lst g,Y<|.lst f,j,i]=Y (.nx [oC c,Y<|.lst<|g++(d.filter<|m9 c.rows).map λa=>D.int a.num,Y<|.lst<|f++(d.filter λa=> (not<|m9 c.rows a)).map iI,l,k])
 |[],c,g,f,j,i,h,n,m=>(j,i,by simp[jw])
 |a::d,c,g,f,j,i,h,n,m=>by let(b,p):=L' (h a<|ay ..) g f Ž Ž i;rw[bR,mL W p];let(l,k,q):=E_ d c (g++if m9 c.rows a then [.int a.num] else []) (f++if m9 c.rows a then [] else [iI a]) _ b (λy o=>h y<|ax _ o) ŷ ŷ;refine(l,k,q.trans ?_);cases e:m9 c.rows a<;>simp[e]
theorem zP:∀(a:!Int),B_ (a.map D.int)=Y a
 |[]=>rfl|n::a=>by simp[B_,zP a]
def Ft{f:DF}(e:f b=Y (.lst<|a.map D.int))(h:a.length<64):wt f b=Y ((He a).map D.int):=by
 simp_all [wt,av,zP,if_pos]
def Xl(c:lC)(rows:!jr):lC:={ c with rows:=rows,rests:=c.rests.filter λa=> (not<|m9 rows a) }
def OU{F:!D->↑(!D×D)}(d:F [c6 c]=Y (a,c6 b)):vM 1 (PZ "Coming" "settle" bg F 0 [] aN) [oC c,M,M,M,M]=Y (.nx [oC b,Y<|.lst a,M,M,M]):=by
 have:PZ "Coming" "settle" bg F 0 [] aN [oC c,M,M,M,M]=(F [c6 c]).map λr=>(r.1,[Y<|.obj bg r.2,M,M,M,M]):=by kernel_rfl
 unfold vM;rw[this,d];rfl
def A7{c:lC}(e:c.rows=t::a)(h:SmL c.f.inner t a)(A:∀y∈c.rests,PlO c.rows y)(B:(uN c.f.inner c.full t a++(c.rests.filter<|m9<|t::jS c.f.inner t a).map (·.num)).length<64)(F:a.length<64)(G:c.rests.length<1000):
  cB [c6 c]=Y ((He (uN c.f.inner c.full t a++(c.rests.filter<|m9<|t::jS c.f.inner t a).map (·.num))).map D.int,c6<|Xl c<|t::jS c.f.inner t a):=by
 let z:=Mh e h Ž;let C:=F6 c.f.inner c.full t a;generalize uN c.f.inner c.full t a=i at *
 generalize n:t::jS c.f.inner t a=rows at *
 have o:rows.length=c.rows.length:=by rw[<- n,e];simp[Fv]
 let(m,l,v):=E_ c.rests { c with rows:=rows } (i.map D.int) [] M M (λy x=>by have:=A y x;exact(this.1,by rw[o];exact this.2)) (j2<|by rw[aF];lia) (j2<|by rw[kZ];lia);show (lP [oC c,M,M,M,M]).bind (zk bg)=_;refine bq (sq (OU z) (Mc (l:=[]) W (sq v (sq (ρ':=[oC<|Xl c rows,Y (.lst ((i++(c.rests.filter<|m9 rows).map (·.num)).map D.int)),Y<|.lst<|(c.rests.filter λa=> (not<|m9 rows a)).map iI,m,l]) ?_ W)))) ?_
 .rw[show (i++(c.rests.filter<|m9 rows).map (·.num)).map D.int=i.map D.int++(c.rests.filter<|m9 rows).map λa=>D.int a.num by simp[iw]];exact ź
 .unfold sT mfP;rw[Ft W B];exact ź
def IQ{r':jr}{f:aM}{d:D}(h:eV i a=Y (eD r))(g:b a=Y d)(c:D.ins "Row" (jd f d rk<|rl r).1 (jd f d rk<|rl r).2=eD r'):kC i "Row" f b a=Y (.nx<|a.set i<|Y<|eD r'):=by
 let e:Gp "Row" i a=Y (rk,rl r):=by unfold Gp;rw[h];exact ź
 simp_all [kC,av,if_pos]
def NB(f:Int->Int->Int)(c:lC)(d a b:Int)(e:jr):jr:=(d,a,b,f a b,0,0,IK c.f.inner e.uZ e.ha<|bA a c.tV,bO e.ha<|IK c.f.inner e.uZ e.ha<|bA a c.tV)
def Ua{m:Int}(h:c.rows.length<dZ):C6 0 4 "Coming" "rows" [oC c,Y<|.int n,Y<|.int m,Y<|.int k,Y<|eD r,dP j]=Y (.nx [oC { c with rows:=c.rows++[r] },Y<|.int n,Y<|.int m,Y<|.int k,M,M]):=by
 let e:rT "Coming" "rows" 0 [oC c,Y<|.int n,Y<|.int m,Y<|.int k,Y<|eD r,dP j]=Y (rG,ck,cl c,D.lst<|c.rows.map eD):=by kernel_rfl
 unfold C6;rw[e];let b:eV 4 [oC c,Y<|.int n,Y<|.int m,Y<|.int k,Y<|eD r,dP j]=Y (.ins _ rk _):=rfl;rw[b];simp only[av];rw[if_pos (by solve_by_elim,by simp_all)];let a:c.rows.map eD++[D.ins "Row" rk<|rl r]=(c.rows++[r]).map eD:=by rw[bS];exact Ÿ
 rw[a];exact ź
def El{c:lC}(l:WW c.f n lift){m:jr}(g:c.rows.getLast? = Y m)(d a b:Int)(j:(bA (bO m.uZ<|bA m.ha c.f.inner)<|bA a c.tV).natAbs<2 ^ 64)(i:c.rows.length<dZ):
  ir [c6 c,.int d,.int a,.int b]=Y (.cT,c6 { c with rows:=c.rows++[NB n c d a b m] }):=by
 let k:0<c.rows.length:=by cases h:c.rows<;>simp_all
 let f:c.rows[c.rows.length-1]?=Y m:=by rw[<- Ob];exact g
 have e:∀x,Bt [0] [5] [oC c,Y<|.int d,Y<|.int a,Y<|.int b,Y<|eD x,dP<|c.rows.length-1]=[Y<|c6 c,Y<|.int d,Y<|.int a,Y<|.int b,Y<|eD x,Y<|eD m]:=λx=>by rw[show Bt [0] [5] [oC c,Y<|.int d,Y<|.int a,Y<|.int b,Y<|eD x,dP<|c.rows.length-1]=[Y<|c6 c,Y<|.int d,Y<|.int a,Y<|.int b,Y<|eD x,((c.rows.map eD)[c.rows.length-1]?).bind Ix] by kernel_rfl,vt f];rfl
 show (mK [oC c,Y<|.int d,Y<|.int a,Y<|.int b,M,M]).bind (HW bg)=_;exact bq (qa (d:=eD (d,a,b,0,0,0,0,0)) ź (sq (tU W W<|zJ k)<|sq (IQ (r':=(d,a,b,n a b,0,0,0,0)) W (kA (e _) (l.pE _ _) W) ź) (sq (IQ (r':=(d,a,b,n a b,0,0,IK c.f.inner m.uZ m.ha<|bA a c.tV,0)) W (kA (e _) (zQ _ _ _ _ j) W) ź) (sq (IQ (r':=NB n c d a b m) (d :=.int<|bO m.ha<|IK c.f.inner m.uZ m.ha<|bA a c.tV) W (kA (e _) ź W) ź) (Ua i))))) ź
def XO{p:Nat}(h:p<=1000):r8 (.int 1) (.int (p:Int))=Y (.int<|2 ^ p):=by
 simp only[r8]
 grind
noncomputable def MV(x:vk):!vk->!vk
 |[]=>[x]|y::b=>if x.num<y.num then x::y::b else y::MV x b
noncomputable def yV:!vk->!vk
 |[]=>[]|x::b=>MV x<|yV b
theorem B'(x:vk):∀l,(MV x l).Perm (x::l)
 |[] =>.rfl| y::b=>by
  unfold MV;split
  .exact .rfl
  .exact((B' x b).cons y).trans<|.swap x y b
theorem oA:∀l,(yV l).Perm l
 |[] =>.rfl|x::b=>(B' x _).trans<|(oA b).cons x
theorem Qr(x:vk):∀l:!vk,Gn YY (iI x) (l.map iI)=(MV x l).map iI
 |[]=>rfl| y::b=>by
  unfold MV;show (if x.num<y.num then _ else _)=_;split
  .rfl
  .rw[Qr x b];rfl
theorem OH:∀l:!vk,Mb YY (l.map iI)=(yV l).map iI
 |[]=>rfl|x::b=>by rw[bR,Mb,OH b,Qr];rfl
abbrev oR(r:jr):↑D:=Y<|eD r
noncomputable abbrev w6(m:vk):Bool:=m.Z != 0||m.around != 0
def F9(c:lC)(b:Nat)(r a:jr)(m:vk):vk:=if m.place=b then YC c m r a else m
set_option tactic.hygienic true in
def QV(g:c.rows.getLast? = Y b)(m:vk)(a:Nat)(e d:!D)(i:d.length<dZ)(f:↑D):∃j,
  ip [oC c,oR r,Y<|.int a,Y<|.lst e,Y<|.lst d,Y<|iI m,f]=Y (.nx [oC c,oR r,Y<|.int a,Y<|.lst e,Y<|.lst<|d++if w6 (F9 c a r b m) then [iI<|F9 c a r b m] else [],Y<|iI m,j]):=by
 refine(Y<|iI<|F9 c a r b m,qa (d:=iI<|F9 c a r b m) (kA (ρ':=[Y<|c6 c,oR r,Y<|.int a,Y<|.lst e,Y<|.lst d,Y<|iI m,f]) ź ?_ ź) (Qt (FV ź ź) W i λ_=>rfl));have q:∀G,j4 "Coming" "moved_out" G (eV 0) (aC (eV 5) v6) [Y<|c6 c,oR r,Y<|.int a,Y<|.lst e,Y<|.lst d,Y<|iI m,f]=G [c6 c,iI m,eD r]:=λG=>by kernel_rfl
 show (if decide (m.place=a)=Z' then _ else Y (iI m))=_;unfold F9;split
 .rename_i h;rw[if_pos<|of_decide_eq_true h];exact(q _).trans<|Dw c m r b g
 .rename_i h;rw[if_neg<|by simpa using h]
theorem K_{r:jr}(s:c.rows.getLast? = Y k)(f:Nat)(j:!D):∀(l:!vk) (g:!D) (n i:↑D),g.length+l.length<dZ->∃p o,
  jw (gN 5) ip (l.map iI) [oC c,oR r,Y<|.int f,Y<|.lst j,Y<|.lst g,n,i]=Y (.nx [oC c,oR r,Y<|.int f,Y<|.lst j,Y<|.lst<|g++((l.map<|F9 c f r k).filter w6).map iI,p,o])
 |[],g,n,i,h=>(n,i,by simp[jw])
 |m::l,g,n,i,h=>by simp at h;let(b,t):=QV s m f j g Ž i;rw[bR,mL W t];let(p,o,q):=K_ s f j l (g++if w6 _ then [iI _] else []) _ b (by split<;>simp<;>lia);refine(p,o,q.trans ?_);cases e:w6 _<;>simp[List.filter,e]
noncomputable def fE(c:lC):lC:={ c with rows:=c.rows.dropLast }
def oW(b:lC)(r:jr):!vk:=b.rests++if bA r.bL b.full != 0 then [] else [vk.mk r.number (b.rows.length:Int) b.full 0]
def D0(c:lC)(r b:jr):lC:={ fE c with rests:=((yV<|oW (fE c) r).map<|F9 (fE c) (fE c).rows.length r b).filter w6 }
def ON{f:DF}(e:f a=Y (.lst<|b.map iI))(c:(b.map (·.num)).Nodup)(g:b.length<64):z8 f a=Y ((yV b).map iI):=by
 unfold z8;rw[e];simp only[av];rw[if_pos ((by simp[vw,iw,L2.Wy,iI],by rw[EJ];exact c),by simp_all),OH]
def Yc(b:c.rows.getLast? = Y r):Fw 1 0 "Coming" "rows" [oC c,M,M,M,M,M,M]=Y (.nx [oC { c with rows:=c.rows.dropLast },oR r,M,M,M,M,M]):=by
 let e:rT "Coming" "rows" 0 [oC c,M,M,M,M,M,M]=Y (rG,ck,cl c,D.lst<|c.rows.map eD):=by kernel_rfl
 unfold Fw;rw[e];simp only[av];let f:(c.rows.map eD).getLast? = Y (.ins "Row" rk<|rl r):=by rw[List.getLast?_map,b];exact Ÿ
 rw[f,<- List.map_dropLast];exact ź
def IY{c:lC}(e:c.rows.getLast? = Y r)(f:(fE c).rows.getLast? = Y d)(g:((oW (fE c) r).map (·.num)).Nodup)(a:(oW (fE c) r).length<64):
  jm [c6 c]=Y (.cT,c6<|D0 c r d):=by
 have h:(fE c).rests.length<64:=by unfold oW at a;rw[bf]at a;omega
 let(j,i,b):=K_ (r:=r) f (fE c).rows.length ((oW (fE c) r).map iI) (yV<|oW (fE c) r) [] M M (j2<|by rw[(oA _).length_eq];simp;lia);show (oO [oC c,M,M,M,M,M,M]).bind (HW bg)=_;refine bq (sq (ρ':=[oC<|fE c,oR r,M,M,M,M,M]) (Yc e) (qa (d :=.int (fE c).rows.length) ((show _=Y (D.int (((fE c).rows.map eD).length:Int)) by kernel_rfl).trans<|by rw[aF]) (Mc (l:=(fE c).rests.map iI) ź (sq (ρ':=[oC<|fE c,oR r,Y<|.int ((fE c).rows.length:Int),Y<|.lst<|(oW (fE c) r).map iI,M,M,M]) ?_ (Mc (l:=[]) W (sq ((show kI (iL<|eF<|z8<|eV 3) (gN 5) ip _=_ by unfold kI iL eF;rw[ON W g a];rfl).trans b) W)))))) ź;refine(Qt (b:= (not (bA r.bL (fE c).full != 0))) (d:=iI<|vk.mk r.number ((fE c).rows.length:Int) (fE c).full 0) ź W (j2<|by rw[aF];lia) λ_=>ź).trans ?_;unfold oW;cases bA r.bL (fE c).full != 0<;>simp
inductive m7
 |op (n:aM)
 |tx (t:aM)
 |cl
noncomputable def eI:m7->D
 |.op n =>.tup [.str<|ar "open",.str n]|.tx t =>.tup [.str<|ar "text",.str t]|.cl =>.tup [.str<|ar "close"]
noncomputable def xY(s:m7)(w b:Bool):Bool:=match s with|.op _=>w || (not b)|_=>w
def Jd(s:m7)(w b:Bool):jb [eI s,.bl w,.bl b]=Y (.bl<|xY s w b):=by
 cases s<;>cases w<;>cases b<;>kernel_rfl
abbrev QE(c:lC)(s:m7):Bool:=xY s (decide (1<c.rows.length))<|decide (0<c.opened)
def z0{s:m7}(h:QE c s=Z'):jb [eI s,.bl<|decide (((c.rows.map eD).length:Int) > 1),.bl<|decide (c.opened > 0)]=Y (.bl Z'):=by
 rw[Jd,show decide (((c.rows.map eD).length:Int) > 1)=decide (1<c.rows.length) by grind];exact congrArg (Y ∘ D.bl) h
noncomputable def pZ(c:lC):lC:={ c with taken:=c.taken+1 }
def Dy{f:DF}{d:D}{l:!D}(h:f ρ=Y d)(k:g ρ=Y (l,ρ)):km (mP f) g ρ=Y (d::l,ρ):=by
 unfold km mP;rw[h];simp[k]
def ym{F:!D->↑(D×D)}{m:aM}{s:m7}{l:!D}(b:m∉ck)(e:g [oC c,Y<|eI s]=Y (l,[oC c,Y<|eI s]))(h:F (c6 c::l)=Y (d,c6 a)):jY (cI "Coming" m bg F 0 g) [oC c,Y<|eI s]=Y (.nx [oC a,Y<|eI s]):=by
 have:cI "Coming" m bg F 0 g [oC c,Y<|eI s]=if (("Coming" : aM) = "Coming" /\("Coming" : aM) = "Coming")/\m∉ck then (g [oC c,Y<|eI s]).bind _ else none:=rfl
 unfold jY;rw[this,if_pos ((W,W),b),e];simp only[av];rw[show gr bg 0 [oC c,Y<|eI s]=Y (c6 c) by kernel_rfl];simp only[av,h];cases s<;>rfl
noncomputable def afc:m7->Bool|.op _=>Z'|_=>Z_
noncomputable def afd:m7->Bool|.cl=>Z'|_=>Z_
def ZM{f:DF}{s:m7}(h:f ρ=Y (eI s)):gP (e2 nX (e2 dh f o0) ln) ρ=Y (afd s):=by
 unfold gP e2;rw[h];cases s<;>kernel_rfl
def abE{f:DF}{s:m7}(h:f ρ=Y (eI s)):gP (e2 nX (e2 dh f o0) io) ρ=Y (afc s):=by
 unfold gP e2;rw[h];cases s<;>kernel_rfl
def XU(e:g b=Y (.rf d a)):a_ g h b=Y (.rf d a):=by unfold a_;rw[e];rfl
def IV(h:QE c .cl=Z')(d:c.rows.getLast? = Y r)(e:(fE c).rows.getLast? = Y pr)(f:((oW (fE c) r).map (·.num)).Nodup)(g:(oW (fE c) r).length<64):
  fW [c6 c,eI .cl]=Y ([],c6<|D0 (pZ c) r pr):=by
 show (kT [oC c,Y _]).bind _=_;exact bq (m8 (nM W<|Fb (b:=Z') ((Rz W W W).trans<|z0 h)) (sq (ρ':=[oC<|pZ c,Y<|eI .cl]) W (XU<|(i_<|ZM (s :=.cl) W).trans (sq (ym ſ W<|IY (c:=pZ c) d e f g) W)))) ź
structure FSt(f:vy)(stp txt:aM->Int):Prop where
 stp:∀n,gG [iK f,.str n]=some (.int<|stp n)
 txt:∀t,gF [iK f,.str t]=some (.int<|txt t)
def SQ{F:!D->↑D}:qo [0] [] (j4 "Facts" "steps_for" F (cz "Coming" "facts"<|eV 0) lm) [oC c,Y<|eI<|.op n]=(F [iK c.f,.str n]).bind λd=>if qN d=Z' then Y d else none:=by kernel_rfl
def SA{F:!D->↑D}:qo [0] [] (j4 "Facts" "text_fact" F (cz "Coming" "facts"<|eV 0) lm) [oC c,Y<|eI<|.tx n]=(F [iK c.f,.str n]).bind λd=>if qN d=Z' then Y d else none:=by kernel_rfl
def Cd{F:!D->↑(!D×D)}{s:m7}(h:F [c6 c]=Y (d,c6 a)):(sT (PZ "Coming" "newly_told" bg F 0 [] aN) [oC c,Y<|eI s]).bind (zk bg)=Y (d,c6 a):=by
 have:PZ "Coming" "newly_told" bg F 0 [] aN [oC c,Y<|eI s]=(F [c6 c]).map λr=>(r.1,[Y<|.obj bg r.2,Y<|eI s]):=by cases s<;>kernel_rfl
 unfold sT;rw[this,h];exact ź
def Pw(pE lift:Int->Int->Int)(c:lC)(b:Int)(pr:jr):lC:=
 let a:=c.rows++[NB pE c c.opened b 0 pr]
 { c with opened:=c.opened+1,rows:=Fs pE lift Z' (a.length-1) a }
def M8{f:aM->Int}(q:WW c.f pE lift)(v:FSt c.f a f)(t:QE c (.op n)=Z')(s:c.rows.getLast? = Y pr)(u:(bA (bO pr.uZ<|bA pr.ha c.f.inner)<|bA (a n) c.tV).natAbs<2 ^ 64)(w:c.rows.length<1000)(r:cB [c6<|Pw pE lift (pZ c) (a n) pr]=Y (d,c6 p)):fW [c6 c,eI<|.op n]=Y (d,c6 p):=by
 show (kT [oC c,Y<|eI<|.op n]).bind (zk bg)=_;exact bq (m8 (nM W<|Fb (b:=Z') ((Rz W W W).trans<|z0 t)) (sq (ρ':=[oC<|pZ c,Y<|eI<|.op n]) W (m8 (ZM (s :=.op n) W) (sq ((i_<|abE (s :=.op n) W).trans (sq (ym ſ (Dy W<|Dy (SQ.trans<|by rw[show gG [iK (pZ c).f,.str n]=_ from v.stp n];rfl)<|Dy W W)<|El (c:=pZ c) (lift:=lift) q s c.opened (a n) 0 u (j2<|by show c.rows.length<2000;lia)) (sq (ρ':=[oC { pZ c with opened:=(pZ c).opened+1,rows:=(pZ c).rows++[NB pE (pZ c) c.opened (a n) 0 pr] },Y<|eI<|.op n]) ź (ym ſ W<|BL q ż<|by simp[pZ];lia)))) W)))) (Cd r)
def M7{f:aM->Int}(o:WW c.f pE lift)(n:FSt c.f f a)(m:QE c (.tx t)=Z')(l:c.rows[c.rows.length-1]?=Y r)(p:c.rows.length<1000)(k:cB [c6<|Ay pE lift (pZ c) (a t) r]=Y (d,c6 j)):fW [c6 c,eI<|.tx t]=Y (d,c6 j):=by
 show (kT [oC c,Y _]).bind (zk bg)=_;exact bq (m8 (nM W<|Fb (b:=Z') ((Rz W W W).trans<|z0 m)) (sq (ρ':=[oC<|pZ c,Y<|eI<|.tx t]) W (m8 (ZM (s :=.tx t) W) (sq ((w_<|abE (s :=.tx t) W).trans (ym ſ (Dy (SA.trans<|by rw[show gF [iK (pZ c).f,.str t]=_ from n.txt t];rfl) W)<|EB (c:=pZ c) o l (by show c.rows.length<1000000;lia) (a t))) W)))) (Cd k)
def vL(c:lC)(a:!Int):D :=.ins "Sift" ["coming","numbers"] [c6 c,.lst<|a.map D.int]
abbrev oS(c:lC)(a:!Int):↑D:=Y<|.obj cy<|vL c a
theorem sW:∀a:!Int,pj (a.map D.int)=Z'
 |[]=>rfl|n::a=>by rw[bR,pj,sW a];rfl
def JG{s:m7}(h:fW [c6 c,eI s]=Y (b.map D.int,c6 d))(e:(a++b).length<64):
  dJ [vL c a,eI s]=Y (b.map D.int,vL d<|He<|a++b):=by
 have f:∀F:!D->↑(!D×D),PZ "Coming" "feed" cy F 0 [.fld "coming"] v6 [oS c a,Y<|eI s,M]=(F [c6 c,eI s]).map λr=>(r.1,[Y<|.obj cy<|.ins "Sift" ["coming","numbers"] [r.2,.lst<|a.map D.int],Y<|eI s,M]):=λF=>by cases s<;>kernel_rfl
 have j:e2 ik (cz "Sift" "numbers"<|eV 0) (eV 2) [Y<|vL d a,Y<|eI s,Y<|.lst<|b.map D.int]=Y (.lst<|(a++b).map D.int):=by
  have:e2 ik (cz "Sift" "numbers"<|eV 0) (eV 2) [Y<|vL d a,Y<|eI s,Y<|.lst<|b.map D.int]=ik (.lst<|a.map D.int) (.lst<|b.map D.int):=by kernel_rfl
  rw[this];simp only[ik];rw[if_pos (by have:=j2 (n:=(a.map D.int).length+(b.map D.int).length) (by simp only[aF];rw[bf]at e;omega);omega),bS]
 have g:U6 [0] [] pu [oS d a,Y<|eI s,Y<|.lst<|b.map D.int]=Y ((He<|a++b).map D.int):=by unfold U6;rw[show Bt [0] [] [oS d a,Y<|eI s,Y<|.lst<|b.map D.int]=[Y<|vL d a,Y<|eI s,Y<|.lst<|b.map D.int] from W];exact(congrArg (Hr · _)<|Ft j e).trans<|if_pos<|sW _
 show (xh [oS c a,Y<|eI s,M]).bind (zk cy)=_;refine bq (sq (ρ':=[oS d a,Y<|eI s,Y<|.lst<|b.map D.int]) ?_ (sq (ρ':=[oS d<|He<|a++b,Y<|eI s,Y<|.lst<|b.map D.int]) ?_ W)) ?_
 .unfold vM;rw[f,h];rfl
 .unfold eZ eF;rw[g];exact ź
 .exact ź
def OF(c:lC)(a:!Int):dk [vL c a]=Y (a.map D.int):=by
 show (xc [Y<|vL c a]).bind abC=_;exact ź
end K21
namespace L2
open PySem PySem.Spec PyProof.Rows
section
variable {K:aS}{f:Hp}
end
section
variable {K:aS}{v:Hp}
end
theorem KY{τ:AU}{g:DG}(I:Nat->cf->Prop):∀(k:!D) (i:Nat) (a:cf),I i a->(∀j d a,k[j]?=Y d->I (i+j) a->∃f b,τ d a=Y f/\g f=Y (.nx b)/\I (i+j+1) b) ->
  ∃c,jw τ g k a=Y (.nx c)/\I (i+k.length) c
 |[],i,a,h,_=>(a,W,h)| d::k,i,a,h,st=>by
  let(f,b,q,p,n):=st 0 d a W h;obtain _:=KY I k (i+1) b n λj d a l m=>by have:=st (j+1) d a (by trivial) Ž;rw[show i+(j+1)+1=i+1+j+1 by lia]at this;exact this
  grind [jw,av]
def jv{τ:AU}{g:DG}(I:Nat->cf->Prop){ds:!D}{ρ:cf}(i:I 0 ρ)(f:∀j d ρ,ds[j]?=Y d->I j ρ->∃b a,τ d ρ=Y b/\g b=Y (.nx a)/\I (j+1) a):∃c,jw τ g ds ρ=Y (.nx c)/\I ds.length c:=by
 have:=KY I ds 0 ρ i λj d ρ h e=>by rw[vu]at e ⊢;exact f j d ρ h e
 simp_all
def Ly{xs:!b}{z:Int}(d:0<=z)(c:z<xs.length):∃v,qt xs z=Y v/\v∈xs:=by
 let a:z.toNat<xs.length:=by simp_all
 refine(_,?_,Hc a)
 grind [iT]
def Es{xs:!Int}{z:Int}(h0:0<=z)(h1:z<xs.length):∃v,qt (xs.map D.int) z=Y (.int v):=by
 let(v,e,hm):=Ly h0 h1
 simp_all [Er]
def yC{xs:!aM}{z:Int}(h0:0<=z)(h1:z<xs.length):∃v,qt (xs.map D.str) z=Y (.str v)/\v∈xs:=by
 simp_all [Ly,Er]
def yo{n:Nat}{z:Int}(b:0<=z)(a:z<n):Be n z=Y z.toNat:=by unfold Be;rw[if_pos b,if_pos a]
def jt(h:(iJ a n)[j]?=Y d):j<n/\d=.int (a+j):=by
 unfold iJ at h;rw[aY]at h;let(k,q,h):=aj.1 h;cases h;let(c,b):=aq.mp q;have:=by simpa using b.symm
 subst this;exact(by simpa using c,W)
theorem e8(a:Int)(n:Nat):(iJ a n).length=n:=by simp[iJ]
theorem Iq{h:D->D}:∀ {b:!D},(∀d∈b,∃a,c d e=Y a/\g a=Y (h d))->tD e c gu g b=Y (b.map h)
 |[],_=>rfl|d::b,f=>by let(a,j,i):=f d ay;unfold tD;rw[j];simp only[gu,av,if_true,i];rw[Iq λd h=>f d<|by solve_by_elim];rfl
theorem gU:dZ=1000000:=rfl
def ZK(a:!b)(l h:↑Int):(LR a l h).length<=a.length:=by
 unfold LR;rw[nh,List.length_drop];lia
def Rr(xs:!a)(b:0<=k):LR xs (Y k) M=xs.drop k.toNat:=by
 unfold LR HT.JP;simp only[if_neg<|show ¬k<0 by simp_all];by_cases h:k.toNat<=xs.length
 .rw[Nat.min_eq_left h,VN<|by simp]
 .rw[Nat.min_eq_right (by lia),Nat.sub_self,List.take_zero,ma<|by lia]
end L2
namespace K21
open PySem L2
def kO:Nat->D->Prop
 |0,_=>False|n+1,d=>∃a e,d=.tup [.int a,.lst e]/\0<=a/\e.length<=1000/\∀c∈e,∃b,c=.lst b/\b.length<=1000/\∀x∈b,kO n x
def qR:Nat->D->Int->Bool
 |n+1,.tup [.int b,.lst e],a=>(bA a b==b)&&e.all λc=>match c with|.lst d=>d.any λx=>qR n x a|_=>Z_
 |_,_,_=>Z_
def P4:qR (n+1) (.tup [.int b,.lst e]) a=((bA a b==b)&&e.all λc=>match c with|.lst d=>d.any λx=>qR n x a|_=>Z_):=rfl
def Ji{a:!i}{f:i->Bool}:iR Z' [.lst<|a.map λd =>.bl<|f d]=Y (.bl<|a.all f):=by
 simp only[iR];simp[if_pos,vw,iw,Uy,xZ]
def RG{a:!i}{f:i->Bool}:iR Z_ [.lst<|a.map λd =>.bl<|f d]=Y (.bl<|a.any f):=by
 simp only[iR];rw[if_pos<|by simp[vw,iw,Uy]];simp[List.any_map,iw,xZ]
def Av{f:DL}(e:f a=Y b):bF G (aC (eF f) aN) a=G [.lst b]:=by
 unfold bF aC eF;rw[e];rfl
def P5{F:!D->↑D}(f:b.length<=1000)(h:∀x∈b,F [x,.int a]=Y (.bl<|g x)):
  bF (iR Z_) (aC (eF<|wu (iL<|eV 0) [M,Y 1] (gN 0) gu<|bF F<|aC (eV 0) v6) aN) [Y<|.lst b,Y<|.int a]=Y (.bl<|b.any g):=by
 refine(Av (b:=b.map λx =>.bl<|g x) ?_).trans RG;exact jI W f<|Iq λd c=>(_,W,h d c)
theorem Gd:∀(n m:Nat) (d:D) (a:Int),n<=m->kO n d->j_ m [d,.int a]=Y (.bl<|qR n d a)
 |0,_,_,_,_,h=>h.elim|n+1,0,_,_,hm,_=>by trivial
 | n+1,m+1,d,a,hm,h=>by
  let(Jo,cs,rfl,hn,hl,hc):=h;show (yu (j_ m) [Y<|.tup [.int Jo,.lst cs],Y<|.int a]).bind RV=_;let ih:=λx hx=>Gd n m x a Ż hx
  generalize j_ m=F at *
  simp only[P4];cases hx:(bA a Jo==Jo) with
  |false=>exact bq (qM (show Y (not (bA a Jo==Jo))=_ by rw[hx];rfl) W) W
  |true=>refine bq (m8 (show Y (not (bA a Jo==Jo))=_ by rw[hx];rfl) W) (De ((Av (b:=cs.map λc =>.bl (match c with|.lst xs=>xs.any λx=>qR n x a|_=>Z_)) ?_).trans Ji));refine jI W hl<|Iq λc hcc=>([Y c,Y<|.int a],W,?_);let(xs,rfl,hxl,hxs):=hc c hcc;exact P5 hxl λx hx=>ih x<|hxs x hx
def Uk(n:Nat)(named atoms:Int)(b:Int):!(Int×D)->Int
 |[]=>b|(a,ask)::r=>Uk n named atoms (if bA named a != 0&&qR n ask atoms then bO b a else b) r
noncomputable def Uo(p:Int×D):D :=.tup [.int p.1,p.2]
def Kt{d:D}{a:Int}(b:n<=12)(h:kO n d):vp [d,.int a]=Y (.bl<|qR n d a):=Gd n 12 d a b h
def Lr{F:!D->↑D}{x:Int}{d:D}{a:Int}{f:DF}(k:gw e c=Y (x != 0))(i:f c=Y d)(h:g c=Y (.int a))(j:F [d,.int a]=Y (.bl b)):mr (gw e) (gw<|bF F<|aC f<|aC g aN) c=Y (x != 0&&b):=by
 let l:gw (bF F<|aC f<|aC g aN) c=Y b:=by unfold gw bF aC;rw[i,h];show (F _).bind _=_;rw[j];rfl
 unfold mr;rw[k,l];cases x != 0<;>rfl
theorem Gh(k:n<=12)(self:D)(b a:Int):∀(e:!(Int×D)) (d:Int) (g f:↑D),(∀p∈e,kO n p.2)->∃j i,
  jw (UX 4 5) jk (e.map Uo) [Y self,Y<|.int b,Y<|.int a,Y<|.int d,g,f]=Y (.nx [Y self,Y<|.int b,Y<|.int a,Y<|.int<|Uk n b a d e,j,i])
 |[],d,g,f,_=>(g,f,W)| (c,ask)::e,d,g,f,h=>by
  let o:jk [Y self,Y<|.int b,Y<|.int a,Y<|.int d,Y<|.int c,Y ask]=Y (.nx [Y self,Y<|.int b,Y<|.int a,Y<|.int<|if bA b c != 0&&qR n ask a then bO d c else d,Y<|.int c,Y ask]):=by unfold jk hZ;rw[Lr W W W<|Kt (a:=a) k (h _ ay ..)];cases bA b c != 0&&qR n ask a<;>solve_by_elim
  rw[bR,mL W o];obtain _:=Gh k _ b a e _ _ _<|λp l=>h p Ÿ
  exact Ÿ
def MM{f:vy}{n:Nat}(g:n<=12)(e:f.cV=c.map Uo)(h:∀p∈c,kO n p.2)(b a:Int):hV [iK f,.int b,.int a]=Y (.int<|Uk n b a (bA a f.inner) c):=by
 let(j,i,q):=Gh g (iK f) b a c (bA a f.inner) M M h;exact bq (qa ź<|sq ((jH<|(show _=Y f.cV by kernel_rfl).trans<|congrArg Y e).trans q) W) W
def IT(n:Nat)(named atoms:Int):Nat->Int->!D->Int
 |_,a,[]=>a|k,a,ask::r=>IT n named atoms (k+1) (if bA named (2 ^ k) != 0&&qR n ask atoms then bO a (2 ^ k) else a) r
theorem K0(m:n<=12)(self:D)(b a:Int):∀(e:!D) (k:Nat) (c:Int) (g f d:↑D),(∀p∈e,kO n p)->k+e.length<=1000->∃l j i,
  jw (UX 4 5) j7 ((e.zipIdx k).map λp =>.tup [.int (p.2:Nat),p.1]) [Y self,Y<|.int b,Y<|.int a,Y<|.int c,g,f,d]=Y (.nx [Y self,Y<|.int b,Y<|.int a,Y<|.int<|IT n b a k c e,l,j,i])
 |[],k,c,g,f,d,_,_=>(g,f,d,W)| ask::e,k,c,g,f,d,h,s=>by
  simp at s;let r:=Kt (a:=a) m (h _<|ay ..);let t:j7 [Y self,Y<|.int b,Y<|.int a,Y<|.int c,Y<|.int k,Y ask,d]=Y (.nx [Y self,Y<|.int b,Y<|.int a,Y<|.int<|if bA b (2 ^ k) != 0&&qR n ask a then bO c (2 ^ k) else c,Y<|.int k,Y ask,Y<|.int<|2 ^ k]):=by refine qa (XO Ž) ?_;unfold hZ;rw[Lr W W W r];cases (bA b _ != 0&&qR n ask a)<;>rfl
  rw[Hb,bR,mL W t];let(l,j,i,q):=K0 m self b a e (k+1) _ _ _ _ (λp o=>h p Ÿ) Ž;exact(l,j,i,q.trans W)
def IS{f:vy}{n:Nat}(d:n<=12)(h:∀p∈f.asks,kO n p)(e:f.asks.length<=1000)(a b:Int):fF [iK f,.int a,.int b]=Y (.int<|IT n a b 0 0 f.asks):=by
 let(j,i,g,q):=K0 d (iK f) a b _ 0 0 M M M h Ż;exact bq (qa W<|sq ((jH W).trans q) W) W
end K21
namespace K30
open PySem L2
set_option genSizeOfSpec true in
mutual
inductive Wi where
 |any
 |txt (t:aM)
 |has (s:Ss)
 |both (w:Ws)
 |one (w:Ws)
inductive Ws where
 |nil
 |cons (w:Wi) (r:Ws)
inductive Ss where
 |nil
 |cons (inn:Bool) (nm:↑aM) (w:Wi) (r:Ss)
end
end K30
namespace L2
open PySem
def Y8{f:DF}(e:f ρ=Y (.int z))(h : -(2 ^ 62)<=z/\z<2 ^ 62):AQ f ρ=Y (iJ 0 z.toNat):=by
 simp only[AQ,e,av];rw[if_pos h]
def Ll(h:qp a 179=Z'):ko (.lst a) 180=true:=by solve_by_elim
end L2
namespace K21
open PySem L2 K30
def ZU(a b:Nat):bA (a:Int) (b:Int)=((a &&& b:Nat):Int):=by
 exact Ÿ
def Jf(a b:Nat):bO (a:Int) (b:Int)=((a ||| b:Nat):Int):=by
 unfold bO;rw[PyProof.Rows.bitOr_and,show t9 a _=_ from ZU a b]
 grind [LU]
def kE{f:DF}{d:D}(e:f a=Y d):bF G (aC f aN) a=G [d]:=by unfold bF aC;rw[e];rfl
noncomputable abbrev kS(x:String):D :=.str<|ar x
noncomputable def CH(b:Bool):aM:=if b then ar "inner" else ar "own"
noncomputable def su:↑aM->aM
 |none=>ar "*"|some n=>n
mutual
def uc:Wi->D
 |.any =>.tup [kS "any"]|.txt t =>.tup [kS "text",.str t]|.has s =>.tup [kS "has",.lst<|kB s]|.both w =>.tup [kS "both",.lst<|CG w]|.one w =>.tup [kS "one",.lst<|CG w]
def CG:Ws->!D
 |.nil=>[]|.cons w r=>uc w::CG r
def kB:Ss->!D
 |.nil=>[]|.cons b nm w r =>.tup [.str<|CH b,.str<|su nm,uc w]::kB r
end
mutual
def NmW:Wi->Prop
 |.any=>True|.txt _=>True|.has s=>NmS s|.both w=>NmA w|.one w=>NmA w
def NmA:Ws->Prop
 |.nil=>True|.cons w r=>NmW w/\NmA r
def NmS:Ss->Prop
 |.nil=>True|.cons _ nm w r=>nm≠Y (ar "*")/\NmW w/\NmS r
end
mutual
noncomputable def vx:Wi->Nat
 |.any=>1|.txt _=>1|.has s=>1+yA s|.both w=>1+Lh w|.one w=>1+Lh w
noncomputable def Lh:Ws->Nat
 |.nil=>0|.cons w r=>max (vx w)<|Lh r
noncomputable def yA:Ss->Nat
 |.nil=>1|.cons _ _ w r=>max (1+vx w)<|yA r
end
def GO{f g:DF}{d e:D}(h:f a=Y d)(k:g a=Y e):bF G (aC f<|aC g aN) a=G [d,e]:=by unfold bF aC;rw[h,k];rfl
theorem D8:∀s:Ss,1<=yA s
 |.nil=>by simp[yA]
 |.cons _ _ w r=>by grind [yA]
def abf{n:Nat}{p:Int}(e:p=n)(h:n<=1000):r8 (.int 1) (.int p)=Y (.int<|2 ^ n):=by
 subst e;simp only[r8]
 grind
structure FB where
 q:!D
 bits:Nat
 nk:!hW
 nv:!D
 tk:!hW
 tv:!D
 iO:Int
 wR:Int
 inner:Int
 cV:!D
noncomputable abbrev fbk:!aM:=["question","bits","by_name","by_text","starred","stars","inner","leads"]
def dX(s:FB):D :=.ins "Facts" fbk [.lst s.q,.int (s.bits:Nat),.fM s.nk s.nv,.fM s.tk s.tv,.int s.iO,.int s.wR,.int s.inner,.lst s.cV]
abbrev oF(s:FB):↑D:=Y<|.obj aR<|dX s
def zu(s:FB)(h:s.bits<=999):gB [dX s]=Y (.int<|2 ^ s.bits,dX { s with bits:=s.bits+1 }):=
 bq (sq (ρ':=[oF { s with bits:=s.bits+1 }]) ź (Fz<|kA W ((fN W W).trans<|abf (n:=s.bits) ż ž) W)) ź
def lh{F:!D->↑(D×D)}{m:aM}{ρ1:cf}{s s1 b:FB}{args:!D}(c:m∉fbk)(i:eV j a=oF s)(e:g a=Y (args,ρ1))(f:eV j ρ1=oF s1)(h:F (dX s1::args)=Y (d,dX b)):
  cI "Facts" m aR F j g a=Y (d,(bP j ρ1).set j<|oF b):=by
 let l:AN j a=Y (aR,dX s):=by unfold AN;rw[i]
 let k:gr aR j ρ1=Y (dX s1):=by unfold gr AN;rw[f];exact ź
 unfold cI;rw[l];show (if _ then _ else _)=_;rw[if_pos ((W,W),c),e];simp only[av,k,h];rfl
noncomputable abbrev stD(a b:aM)(w:D):D :=.tup [.str a,.str b,w]
def Lg{f:aM}{h:DM}{e:DF}{d y:D}{k:hW}{ρ σ:cf}{ks:!hW}{vs l:!D}(a:h ρ=Y (d,σ))(q:rT "Facts" f 0 σ=Y (u9,fbk,l,.fM ks vs))(b:e σ=Y y)(c:Bc y=Y k)(n:ks.length<dZ)(z:Sk.K8 (cZ u9 f) .di=Z'):y6 0 "Facts" f e h ρ=Y (.nx<|(bP 0 σ).set 0<|Y<|zb "Facts" f u9 fbk l<|.fM (oU k d ks vs).1 (oU k d ks vs).2):=by
 simp only[y6,a,q,b,c,av];exact if_pos (z,n)
def pb(s:FB)(N9 nm:aM)(i:Int):FB:=
 let b:Int:=2 ^ s.bits
 let s1:FB:={ s with bits:=s.bits+1,inner:=if N9=ar "inner" then bO s.inner b else s.inner }
 if nm=ar "*" then { s1 with iO:=bO s.iO b,wR:=s.wR+1 } else { s1 with nk:=(oU (bw nm) (.int<|bO i b) s.nk s.nv).1,nv:=(oU (bw nm) (.int<|bO i b) s.nk s.nv).2 }
def Bo{s:FB}(h:s.bits<=999)(hk:s.nk.length<=s.bits)(N9 nm:aM)(w:D){i:Int}(hi:(cq s.nk s.nv<|bw nm).getD (.int 0)=.int i):gf [dX s,stD N9 nm w]=Y (.int<|2 ^ s.bits,dX<|pb s N9 nm i):=by
 refine bq (sq (qL<|lh ſ W W W<|zu s h)<|sq (ρ':=[oF { s with bits:=s.bits+1,inner:=if N9=ar "inner" then bO s.inner (2 ^ s.bits) else s.inner },Y<|stD N9 nm w,Y<|.int<|2 ^ s.bits]) ?_ (sq (ρ':=[oF<|pb s N9 nm i,Y<|stD N9 nm w,Y<|.int<|2 ^ s.bits]) ?_ W)) ź
 .have e:=S5 (f:=e2 dh (eV 1) o0) (ρ:=[oF { s with bits:=s.bits+1 },Y<|stD N9 nm w,Y<|.int<|2 ^ s.bits]) (y:=ar "inner") W;by_cases z:N9=ar "inner"
  .rw[if_pos z];exact(i_<|e.trans<|by simp[z]).trans ź
  .rw[if_neg z];exact mI<|e.trans (by simp[z])
 .have e:=S5 (f:=e2 dh (eV 1) t3) (ρ:=[oF { s with bits:=s.bits+1,inner:=if N9=ar "inner" then bO s.inner (2 ^ s.bits) else s.inner },Y<|stD N9 nm w,Y<|.int<|2 ^ s.bits]) (y:=ar "*") W;unfold pb;by_cases z:nm=ar "*"
  .refine(i_<|e.trans<|by simp[z]).trans ?_;simp only[if_pos z];exact ź
  .refine(w_<|e.trans<|by simp[z]).trans ((Lg (ks:=s.nk) (d :=.int<|bO i<|2 ^ s.bits) (congrArg (lu λd=>LV d _)<|kA W ?_ W) W W W (j2 Ž) W).trans ?_)
   .exact(show _=N0 ((cq s.nk s.nv _).getD<|.int 0) _ from W).trans (by rw[hi];rfl)
   .simp only[if_neg z];exact ź
def gY:cq (c::a) (x::b) k=if c=k then Y x else cq a b k:=by
 unfold cq;by_cases h:c=k
 .simp[h]
 .simp[h]
theorem Kw:∀ {a:!hW}{b:!D},a.length=b.length->cq a (vv (λq x=>if q=k then d else x) a b) c=(cq a b c).map λx=>if c=k then d else x
 |[],[],_=>by trivial
 |q::a,[],h=>by simp at h
 |[],x::b,h=>by simp at h
 | q::a,x::b,h=>by
  rw[VM,gY,gY];by_cases e:q=c
  .subst e;simp
  .simp only[if_neg e];exact Kw Ż
theorem zG:∀ {a:!hW}{b:!D},a.length=b.length->cq (a++[k]) (b++[d]) c=match cq a b c with|some x=>Y x|none=>if k=c then Y d else M
 |[],[],_=>by simp[e_,gY,cq]
 |q::a,[],h=>by simp at h
 |[],x::b,h=>by simp at h
 | q::a,x::b,h=>by
  rw[nj,nj,gY,gY];by_cases e:q=c
  .simp[e]
  .simp only[if_neg e];exact zG Ż
theorem zF:∀ {a:!hW}{b:!D},a.length=b.length->(cq a b k=M↔k∉a)
 |[],[],_=>by simp[cq]
 |q::a,[],h=>by simp at h
 |[],x::b,h=>by simp at h
 | q::a,x::b,h=>by
  rw[gY];by_cases e:q=k
  .subst e;simp
  .rw[if_neg e,zF<|by simp_all];simp[bz e]
def ML{a:!hW}{b:!D}(h:a.length=b.length):cq (oU k d a b).1 (oU k d a b).2 c=if c=k then Y d else cq a b c:=by
 unfold oU;by_cases z:(a.any λq=>decide (q=k))=Z'
 .rw[if_pos z,Kw h];let f:=by simpa using z
  by_cases e:c=k
  .subst e;cases q:cq a b c with
   |none=>exact absurd f ((zF h).mp q)|some x=>simp
  simp_all
 .rw[if_neg z,zG h];let f:=by simpa using z
  by_cases e:c=k
  .subst e;simp[(zF h).mpr f]
  lia
def Q'{k:hW}{d:D}{a:!hW}{b:!D}(h:a.length=b.length):(oU k d a b).1.length=(oU k d a b).2.length/\(oU k d a b).1.length<=a.length+1:=by
 unfold oU;split<;>simp[h]
def J9(n:Nat):(2:Int) ^ n=((2 ^ n:Nat):Int):=by simp
noncomputable abbrev Bq(a:Int)(b:!D):D :=.tup [.int a,.lst b]
structure GI(s:FB):Prop where
 name:∀n,∃m:Int,(cq s.nk s.nv<|bw n).getD (.int 0)=.int m
 nkv:s.nk.length=s.nv.length
 nkl:s.nk.length<=s.bits
 text:∀t,cq s.tk s.tv (bw t)=none\/∃m:Nat,cq s.tk s.tv (bw t)=some (.int m)
 tkv:s.tk.length=s.tv.length
 tkl:s.tk.length<=s.bits
 cV:∃L:!(Int×D),s.cV=L.map Uo/\∀l∈L,kO 12 l.2
def UQ{s:FB}(I:GI s)(a b:aM)(i:Int):GI (pb s a b i)/\(pb s a b i).bits=s.bits+1/\(pb s a b i).q=s.q/\(pb s a b i).cV=s.cV:=by
 unfold pb;by_cases z:b=ar "*"
 .simp only[if_pos z];exact((I.name,I.nkv,l_ I.nkl,I.text,I.tkv,l_ I.tkl,I.cV),trivial,trivial,trivial)
 .simp only[if_neg z];have c:=Q' (k:=bw b) (d :=.int<|bO i<|2 ^ s.bits) I.nkv;refine((λn =>?_,c.1,bM c.2<|Nat.succ_le_succ I.nkl,I.text,I.tkv,l_ I.tkl,I.cV),trivial,trivial,trivial);rw[ML I.nkv];split
  .exact(_,W)
  .exact I.name n
structure Go(n:Nat)(s s':FB):Prop where
 gi:GI s'
 q:s'.q=s.q
 hi:s'.bits<=s.bits+n
 ld:s'.cV.length<=s.cV.length+n
def Go.refl{s:FB}(h:GI s)(n:Nat):Go n s s:=(h,W,ez _ _,ez _ _)
def Go.trans{a b c:FB}(h:Go n a b)(g:Go m b c):Go (n+m) a c:=(g.gi,g.q.trans h.q,by have:=h.hi;have:=g.hi;lia,by have:=h.ld;have:=g.ld;lia)
def Go.le(h:Go n a b)(k:n<=m):Go m a b:=(h.gi,h.q,bM h.hi<|Nat.add_le_add_left k _,bM h.ld<|Nat.add_le_add_left k _)
abbrev Bd(s:FB)(n:Nat):Prop:=s.bits+n<=900/\s.cV.length+n<=900
def Go.bd(h:Go n a b)(k:Bd a<|n+m):Bd b m:=(by have:=h.hi;have:=k.1;lia,by have:=h.ld;have:=k.2;lia)
noncomputable def lS:Nat->Nat->!Int
 |_,0=>[]|n,k+1=>2 ^ n::lS (n+1) k
theorem Cq:∀n k,(lS n k).length=k
 |_,0=>rfl|n,k+1=>by simp[lS,Cq _ k]
noncomputable def fT:Ss->Nat
 |.nil=>0|.cons _ _ _ r=>fT r+1
theorem vJ:∀s,(kB s).length=fT s
 |.nil=>rfl|.cons _ _ _ r=>by rw[kB,bK,vJ r];rfl
def zw{m:aM}{F:!D->↑(D×D)}{f:DL}{ρ:cf}{ds:!D}{s:FB}(k:f ρ=Y ds)(i:eV 0 ρ=oF s)(j:bP 0 ρ=ρ)(t:ds.length<=1000)(e:r_ [M,oF s] (gN 0) (cI "Facts" m aR F 1 g) 1 aR ds (dX s)=Y (r,dX c)):uS f [M,Y 0] (gN 0) (cI "Facts" m aR F 1 g) 1 0 aR ρ=Y (.lst r,ρ.set 0<|oF c):=by
 let q:gr aR 0 ρ=Y (dX s):=by unfold gr AN;rw[i];exact ź
 let p:mC [M,Y 0] ρ=[M,oF s]:=by show [M,ρ[0]?.getD _]=_;rw[gS i];rfl
 simp only[uS,k,j,q,p,e,av];exact if_pos<|kb<|j2 Ž
def DB{m:aM}{F:!D->↑(D×D)}{s:FB}{v:D}(n:m∉fbk)(l:∀s,g [Y d,oF s]=Y ([v],[Y d,oF s]))(h:F [dX s,v]=Y (a,dX b))(k:r_ [M,x] (gN 0) (cI "Facts" m aR F 1 g) 1 aR e (dX b)=Y (r,dX c)):r_ [M,x] (gN 0) (cI "Facts" m aR F 1 g) 1 aR (d::e) (dX s)=Y (a::r,dX c):=by
 rw[r_];let w:gN 0 d ([M,x].set 1 _)=Y [Y d,oF s]:=rfl;let v:cI _ m _ F 1 g _=Y _:=lh n W (l s) W h;let u:gr aR 1 ((bP 1 [Y d,oF s]).set 1<|oF b)=Y (dX b):=by solve_by_elim
 simp_all
theorem Gx:∀(a:Ss) (s:FB) (x:↑D),GI s->s.bits+fT a<=1000->∃c,r_ [M,x] (gN 0) (cI "Facts" "enter_step" aR gf 1 pi) 1 aR (kB a) (dX s)=Y ((lS s.bits<|fT a).map D.int,dX c)/\GI c/\c.q=s.q/\c.bits=s.bits+fT a/\c.cV=s.cV
 |.nil,s,x,I,_=>(s,W,I,W,W,W)|.cons b e w r,s,x,I,h=>by simp only[fT]at h;let(i,j):=I.name<|su e;let(G,k,q,l):=UQ I (CH b) (su e) i;let(f,d,g,o,p,y):=Gx r (pb s (CH b) (su e) i) x G Ž;rw[k]at d p;exact(f,DB ſ (λs=>rfl) (Bo (s:=s) Ž I.nkl (CH b) (su e) (uc w) j) d,g,o.trans q,by rw[p,fT];lia,y.trans l)
def Gy{s:FB}(I:GI s)(a:Ss)(h:s.bits+fT a<=1000):∃b,gK [dX s,.lst<|kB a]=Y (.lst<|(lS s.bits<|fT a).map D.int,dX b)/\GI b/\b.q=s.q/\b.bits=s.bits+fT a/\b.cV=s.cV:=by
 let(b,e,r):=Gx a s _ I h;exact(b,bq (y_<|zw (ρ:=[oF s,Y<|.lst<|kB a]) W W W (by grind [vJ]) e) ź,r)
def Nt{d:D}{a:!hW}{b:!D}(m:a.length=b.length)(h:cq a b k=M):oU k d a b=(a++[k],b++[d])/\cq (a++[k]) (b++[d]) k=Y d:=by
 have c:=by unfold cq at h;simp only[Option.map_eq_none_iff,List.find?_eq_none,decide_eq_true_eq]at h;exact h
 let n:¬(a.any λq=>decide (q=k))=true:=by intro f;simp only[List.any_eq_true,decide_eq_true_eq]at f;let(q,j,rfl):=f;let(i,o,e):=List.getElem_of_mem j;exact c (q,b[i]' ž) (by rw[<- e];exact List.mem_iff_getElem.mpr (i,by simp;lia,ż)) W
 refine(by unfold oU;rw[if_neg n],?_);unfold cq;rw[Jt m,EK];have:(a.zip b).find? (λg=>decide (g.1=k))=none:=by grind
 rw[this];simp
abbrev txB(s:FB)(t:aM):FB:={ s with bits:=s.bits+1,tk:=s.tk++[bw t],tv:=s.tv++[.int<|2 ^ s.bits] }
def Wz(s:FB)(t:aM):wO [0] [] ut [oF s,Y<|.str t]=Y (not<|(cq s.tk s.tv<|bw t).isSome):=rfl
def Ac{s:FB}(d:s.bits<=999)(e:s.tk.length<=s.bits)(b:s.tk.length=s.tv.length)(h:cq s.tk s.tv (bw t)=M):dD [dX s,.str t]=Y (.int<|2 ^ s.bits,dX<|txB s t):=by
 let(c,a):=Nt (d :=.int<|2 ^ s.bits) b h;refine bq (sq (ρ':=[oF<|txB s t,Y<|.str t]) ((i_<|(Wz s t).trans<|by rw[h];rfl).trans<|(Lg (ks:=s.tk) (vs:=s.tv) (lh ſ W W W<|zu s d) W W W (j2 Ž) W).trans (by rw[c];exact ź)) (Fz<|kA W a W)) ź
def Ab{s:FB}(h:cq s.tk s.tv (bw t)=Y (.int i)):dD [dX s,.str t]=Y (.int i,dX s):=
 bq (m8 ((Wz s t).trans<|by rw[h];rfl)<|Fz<|kA W h W) ź
def SH{s:FB}(I:GI s)(u:s.bits<=999)(t:aM):∃(m:Nat) (f:FB),dD [dX s,.str t]=Y (.int m,dX f)/\Go 1 s f:=by
 obtain a|⟨m,a⟩:=I.text t
 .refine(2 ^ s.bits,txB s t,by rw[<- J9];exact Ac u I.tkl I.tkv a,(I.name,I.nkv,l_ I.nkl,λc =>?_,by simp[I.tkv],by simp[I.tkl],I.cV),W,aV _,jg _);rw[zG I.tkv];obtain b|⟨m,b⟩:=I.text c
  .rw[b];by_cases e:t=c
   .exact .inr (2 ^ s.bits,by simp[e])
   .exact .inl (by simp[e])
  .exact .inr (m,by rw[b])
 .exact(m,s,Ab a,.refl I 1)
abbrev pk(p:Nat×!D):D:=Bq p.1 p.2
noncomputable def QM:Nat->Nat->Int->!Int
 |_,0,_=>[]|_,1,e=>[e]|n,k+2,e=>2 ^ (n+1)::QM (n+1) (k+1) e
theorem QL:∀(k n:Nat) (e:Int),lS (n+1) k++[e]=QM n (k+1) e
 |0,n,e=>rfl|k+1,n,e=>by rw[lS,QM,nj,QL k _ e]
def A8:!(Nat×!D)->Nat->Nat->!(Int×D)
 |[],_,_=>[]|[p],j,e=>[(2 ^ j,Bq ((p.1 ||| e:Nat):Int) p.2)]
 |p::x::r,j,e=>(2 ^ j,Bq ((p.1 ||| 2 ^ (j+1):Nat):Int) p.2)::A8 (x::r) (j+1) e
theorem F7:∀(k:!(Nat×!D)) (j e:Nat),(A8 k j e).length=k.length
 |[],_,_=>rfl|[_],_,_=>rfl|_::x::r,_,_=>by rw[A8,bK,F7<|x::r];rfl
def RD(h:kO n<|Bq a e)(k:0<=b):kO n<|Bq b e:=by
 cases n with
 |zero=>exact h.elim|succ n=>let(_,_,w,_,l):=h;cases w;exact(_,_,W,k,l)
theorem F8:∀(k:!(Nat×!D)) (j e:Nat),(∀p∈k,kO n<|pk p)->∀l∈A8 k j e,kO n l.2
 |[],_,_,_,l,m=>by cases m
 |[p],_,_,h,l,m=>by rw[d8.mp m];exact RD (h p ay)<|cJ _
 | p::x::r,_,_,h,l,m=>by
  obtain rfl|m:=aT.mp m
  .exact RD (h p ay)<|cJ _
  .exact F8 (x::r) _ _ (λq z=>h q<|ax _ z) l m
section
variable {t A B:!D}{C:Int}
abbrev eL8(s:FB)(t A:!D)(C:Int)(B:!D)(a b c:↑D):cf:=[oF s,Y<|.lst t,Y<|.lst A,Y<|.int C,Y<|.lst B,a,b,c]
def Gi{s:FB}{p:Nat×!D}{f:Nat}(h:s.cV.length<dZ):mV (eL8 s t A C B (Y<|pk p) (Y<|.int<|2 ^ j)<|Y<|.int (f:Int))=Y (.nx<|eL8 { s with cV:=s.cV++[Uo (2 ^ j,Bq ((p.1 ||| f:Nat):Int) p.2)] } t A C B (Y<|pk p) (Y<|.int<|2 ^ j) (Y<|.int (f:Int))):=by
 rw[<- Jf];exact(show _=if _/\s.cV.length<dZ then _ else M from W).trans<|(if_pos (W,h)).trans ź
theorem Gj:∀(f:!(Nat×!D)) (j e:Nat) (s:FB) (a b c:↑D),s.cV.length+f.length<dZ->∃o n m,
  jw (WH 5 6 7) mV (nY (f.map pk) ((lS j f.length).map D.int)<|(QM j f.length (e:Int)).map D.int) (eL8 s t A C B a b c)=Y (.nx<|eL8 { s with cV:=s.cV++(A8 f j e).map Uo } t A C B o n m)
 |[],j,e,s,a,b,c,_=>(a,b,c,by simp[nY,jw,A8])
 |[p],j,e,s,a,b,d,h=>(_,_,_,(mL W<|Gi<|by simp at h;lia).trans W)
 |p::x::r,j,e,s,a,b,d,h=>by simp only[bK]at h;let(o,w,m,q):=Gj (x::r) (j+1) e { s with cV:=s.cV++[Uo _] } _ _ _ (by simp only[bK,bf,kZ];lia);refine(o,w,m,(mL (d :=.tup [pk p,.int<|2 ^ j,.int ((2 ^ (j+1):Nat):Int)]) W (Gi Ž)).trans (q.trans ?_));simp only[A8,bR,bU,List.singleton_append]
def Um{s:FB}{ks:!(Nat×!D)}{j e:Nat}(c:ks≠[])(a:s.cV.length+ks.length<2000):l4 [dX s,.lst<|ks.map pk,.lst<|(lS j ks.length).map D.int,.int (e:Int)]=Y (.cT,dX { s with cV:=s.cV++(A8 ks j e).map Uo }):=by
 obtain⟨k,b⟩:∃k,ks.length=k+1:=by
  cases ks with|nil=>trivial|cons x r=>exact(_,W)
 let(g,f,d,q):=Gj ks j e s M M M<|j2 a;refine bq (qa (d :=.lst<|(QM j ks.length (e:Int)).map D.int) ?_ ((jH W).trans q)) ź;refine(show _=ik (.lst<|LR ((lS j ks.length).map D.int) (Y 1) M) (.lst [.int (e:Int)]) from W).trans ?_;rw[b,Rr _<|by simp];refine(if_pos<|kb<|j2 ?_).trans ?_
 .rw[show List.drop _ _=(lS (j+1) k).map D.int from W,aF,c_,Cq];lia
 .rw[<- QL];simp[lS]
end
def jn(p:Nat×!D)(a:!(Nat×!D)):Nat×!D:=a.foldl (λp k=>(p.1 ||| k.1,p.2++k.2)) p
def N7(a:!(Nat×!D)):Nat:=(a.map λk=>k.2.length).sum
theorem Ql:∀(a:!(Nat×!D)) (p:Nat×!D),(jn p a).2.length=p.2.length+N7 a
 |[],p=>rfl|k::a,p=>by rw[show jn p (k::a)=jn (p.1 ||| k.1,p.2++k.2) a from W,Ql a];simp[N7];lia
theorem B7{x0:↑D}:∀(f:!(Nat×!D)) (p:Nat×!D) (g:↑D),p.2.length+N7 f<dZ->∃i,
  jw (gN 3) lG (f.map pk) [x0,Y<|.int (p.1:Int),Y<|.lst p.2,g]=Y (.nx [x0,Y<|.int ((jn p f).1:Int),Y<|.lst (jn p f).2,i])
 |[],p,g,_=>(g,W)| k::f,p,g,h=>by
  have e:N7 (k::f)=k.2.length+N7 f:=by trivial
  rw[e]at h;have l:lG [x0,Y<|.int (p.1:Int),Y<|.lst p.2,Y<|pk k]=Y (.nx [x0,Y<|.int ((p.1 ||| k.1:Nat):Int),Y<|.lst<|p.2++k.2,Y<|pk k]):=by rw[<- Jf];exact sq (ρ':=[x0,Y<|.int<|bO p.1 k.1,Y<|.lst p.2,Y<|pk k]) W (show (if p.2.length+k.2.length<=dZ then _ else M)=_ from if_pos Ž)
  let(i,q):=B7 f (p.1 ||| k.1,p.2++k.2) (Y<|pk k) (by rw[bf];lia);exact(i,(mL W l).trans q)
def Qn{a:!(Nat×!D)}(f:N7 a<dZ):kX [.lst<|a.map pk]=Y (pk<|jn (0,[]) a):=by
 let(g,q):=B7 (x0:=Y<|.lst<|a.map pk) a (0,[]) M (by simpa using f);exact bq (qa W<|Mc (l:=[]) W (sq ((jH W).trans q) W)) W
theorem kO.mono:∀ {n m:Nat}{d:D},kO n d->n<=m->kO m d
 |0,_,_,h,_=>h.elim|n+1,0,_,_,l=>absurd l ż
 |n+1,m+1,_,(a,e,w,z,k,h),l=>(a,e,w,z,k,λc i=>let(b,y,x,j):=h c i;(b,y,x,λu v=>(j u v).mono<|Nat.le_of_succ_le_succ l))
theorem Qm:∀(d:!(Nat×!D)) (p:Nat×!D),(∀k∈d,kO n<|pk k)->kO (n+1) (pk p)->p.2.length+N7 d<=1000->kO (n+1) (pk<|jn p d)
 |[],p,_,h,_=>h| k::d,p,h,g,l=>by
  have e:N7 (k::d)=k.2.length+N7 d:=by trivial
  rw[e]at l;refine Qm d (p.1 ||| k.1,p.2++k.2) (λx m=>h x<|ax _ m) ?_ (by rw[bf];lia);let(_,_,w,_,_,a):=g;let(_,_,f,_,_,b):=(h k ay).mono<|jg n;cases w;cases f;exact(_,_,W,cJ _,by rw[bf];lia,λc m=>(aX.mp m).elim (a c)<|b c)
mutual
noncomputable def qE:Wi->Nat
 |.any=>1|.txt _=>1|.has s=>1+xA s|.both w=>1+yP w|.one w=>1+yP w
noncomputable def yP:Ws->Nat
 |.nil=>0|.cons w r=>qE w+yP r
noncomputable def xA:Ss->Nat
 |.nil=>0|.cons _ _ w r=>1+qE w+xA r
end
mutual
def OkW(T:aM->Prop):Wi->Prop
 |.any=>True|.txt t=>T t|.has s=>s ≠ .nil/\OkS T s|.both w=>OkA T w|.one w=>OkA T w
def OkA(T:aM->Prop):Ws->Prop
 |.nil=>True|.cons w r=>OkW T w/\OkA T r
def OkS(T:aM->Prop):Ss->Prop
 |.nil=>True|.cons _ _ w r=>OkW T w/\OkS T r
end
def srm{f:DM}{d:D}(e:t a=Y Z')(k:f a=Y (d,b)):a_ (hZ t (fS f) cX) h a=Y (.rm d b):=by
 unfold a_;rw[i_ e,y_ k];rfl
def kq{x:String}{s:FB}{b:Bool}(h:(ar x==ar y)=b):gP (e2 nX (e2 dh (eV 1) o0)<|eK<|kS y) [oF s,Y<|.tup<|kS x::r,z]=Y b:=(S5 (x:=ar x) ((fN W W).trans<|iT (j:=0) W)).trans (congrArg Y h)
def Wm{f:DM}(h:f b=Y (.int i,a)):tq (km f<|km (mP Re) oH) b=Y (Bq i [],a):=by
 unfold tq km;rw[h];rfl
section
variable {F a:!D->↑(D×D)}{s b:FB}
def NF:kj 2 3 aR (eM F a) [dX s,.tup [kS "any"]]=Y (Bq 0 [],dX s):=by
 exact Ÿ
def Jg(h:dD [dX s,.str t]=Y (.int i,dX b)):kj 2 3 aR (eM F a) [dX s,.tup [kS "text",.str t]]=Y (Bq i [],dX b):=
 bq (m8 (kq ſ)<|srm (kq ſ)<|Wm<|lh ſ W W W h) ź
def ND(h:a [dX s,.lst x]=Y (.int i,dX b)):kj 2 3 aR (eM F a) [dX s,.tup [kS "has",.lst x]]=Y (Bq i [],dX b):=
 bq (m8 (kq ſ)<|m8 (kq ſ)<|srm (kq ſ)<|Wm<|lh ſ W W W h) ź
def NC{c:!(Nat×!D)}(m:uS (iL<|e2 dh (eV 1) t3) [M,Y 0] (gN 0) (cI "Facts" "asked" aR F 1 pi) 1 0 aR [oF s,Y<|.tup [kS "one",.lst x],M]=Y (.lst<|c.map pk,[oF b,Y<|.tup [kS "one",.lst x],M])):kj 2 3 aR (eM F a) [dX s,.tup [kS "one",.lst x]]=Y (pk (0,[.lst<|c.map pk]),dX b):=
 bq (m8 (kq ſ)<|m8 (kq ſ)<|m8 (kq ſ)<|sq (qL m)<|srm (kq ſ) W) ź
def Jh{d:!(Nat×!D)}(c:N7 d<2000)(m:uS (iL<|e2 dh (eV 1) t3) [M,Y 0] (gN 0) (cI "Facts" "asked" aR F 1 pi) 1 0 aR [oF s,Y<|.tup [kS "both",.lst x],M]=Y (.lst<|d.map pk,[oF b,Y<|.tup [kS "both",.lst x],M])):kj 2 3 aR (eM F a) [dX s,.tup [kS "both",.lst x]]=Y (pk<|jn (0,[]) d,dX b):=
 bq (m8 (kq ſ)<|m8 (kq ſ)<|m8 (kq ſ)<|sq (qL m)<|m8 (kq ſ)<|Fz<|(kE W).trans<|Qn<|j2 c) ź
end
theorem Za{F G:!D->↑(D×D)}{a:Ss}{c:!(Nat×!D)}{s b:FB}(j:a ≠ .nil)(g:c.length=fT a)(k:gK [dX s,.lst<|kB a]=Y (.lst<|(lS s.bits<|fT a).map D.int,dX d))(f:r_ [M,oF d] (gN 0) (cI "Facts" "asked" aR F 1 ul) 1 aR (kB a) (dX d)=Y (c.map pk,dX b))(i:fT a<=1000)(e:b.cV.length+c.length<2000):
  kj 2 3 aR (nH F G) [dX s,.lst<|kB a]=Y (.int<|2 ^ s.bits,dX { b with cV:=b.cV++(A8 c s.bits 0).map Uo }):=by
 cases a with
 |nil=>exact(j W).elim|cons x y z r=>have h:=Um (s:=b) (ks:=c) (j:=s.bits) (e:=0) (by intro z;subst z;simp[fT]at g) e;rw[g]at h;refine bq (sq (qL<|lh ſ W W W k)<|sq (aaK<|lh (ρ1:=[oF b,Y<|.lst<|kB<|.cons x y z r,Y<|.lst<|(lS s.bits<|fT<|.cons x y z r).map D.int]) ſ W (args:=[.lst<|c.map pk,.lst<|(lS s.bits<|fT<|.cons x y z r).map D.int,.int 0]) ?_ W h) (Fz<|show qt ((lS s.bits<|fT<|.cons x y z r).map D.int) ((0:Nat):Int)=_ from iT (j:=0) W)) ź;refine bq (zw (f:=iL<|eV 1) W W W (by rw[vJ];exact i) f) W
noncomputable def XC:Ss->Nat
 |.nil=>0|.cons _ _ w r=>qE w+XC r
theorem OD:∀s,xA s=fT s+XC s
 |.nil=>rfl|.cons _ _ w r=>by rw[xA,fT,XC,OD r];lia
theorem ua:∀w:Ws,(CG w).length<=yP w
 |.nil=>by simp[CG]
 | .cons w r=>by
  have:=ua r;have:1<=qE w:=by cases w<;>simp[qE]<;>omega
  grind [CG,yP,bK]
def adm(m:Nat)(w:Wi):Prop:=∀s,GI s->Bd s (qE w)->∃(k:Nat×!D) (a:FB),cE m [dX s,uc w]=Y (pk k,dX a)/\Go (qE w) s a/\kO m (pk k)/\k.2.length<=qE w
def Z6(m:Nat)(w:Ws):Prop:=∀s x,GI s->Bd s (yP w)->∃(a:!(Nat×!D)) (b:FB),r_ [M,x] (gN 0) (cI "Facts" "asked" aR (cE m) 1 pi) 1 aR (CG w) (dX s)=Y (a.map pk,dX b)/\Go (yP w) s b/\(∀k∈a,kO m<|pk k)/\N7 a<=yP w/\a.length<=yP w
def LJ(m:Nat)(a:Ss):Prop:=∀s x,GI s->Bd s (XC a)->∃(b:!(Nat×!D)) (c:FB),r_ [M,x] (gN 0) (cI "Facts" "asked" aR (cE m) 1 ul) 1 aR (kB a) (dX s)=Y (b.map pk,dX c)/\Go (XC a) s c/\(∀k∈b,kO m<|pk k)/\b.length=fT a
def Qx{m:Nat}(q:m<=12)(o:a ≠ .nil)(h:LJ m a){s:FB}(I:GI s)(b:Bd s<|xA a):∃f,cK (m+1) [dX s,.lst<|kB a]=Y (.int<|2 ^ s.bits,dX f)/\Go (xA a) s f:=by
 have z:=OD a;rw[z]at b ⊢;let(C,B):=b;let(e,e1,v,n,w,g):=Gy I a Ž;let(k,d,e2,c,t,r):=h e (oF e) v (Ž,by rw[g];lia);have u:=c.ld;have A:=c.hi;rw[g]at u;refine(_,Za (G:=cK m) o r e1 e2 Ž Ž,((c.gi.name,c.gi.nkv,c.gi.nkl,c.gi.text,c.gi.tkv,c.gi.tkl,?_),c.q.trans n,by show d.bits<=_;lia,by show (d.cV++_).length<=_;rw[bf,aF,F7];lia));let(L,x,y):=c.gi.cV;exact(L++A8 k s.bits 0,by rw[bS,<- x],λl i=>(aX.mp i).elim (y l) λi=>F8 k _ _ (λp j=>(t p j).mono q) l i)
mutual
theorem GV:∀(w:Wi) (m:Nat),vx w<=m->m<=13->OkW T w->adm m w
 |w,0,h,_,_=>by cases w<;>simp[vx]at h
 |.any,m+1,h,_,_=>λs I b=>((0,[]),s,NF,.refl I _,(_,_,W,cJ 0,ż,λc i=>(by cases i)),ż)
 |.txt t,m+1,h,_,_=>λs I b=>by let(j,f,e,g):=SH I (by have:=b.1;lia) t;exact((j,[]),f,Jg (F:=cE m) (a:=cK m) e,g,(_,_,W,cJ j,ż,λc i=>(by cases i)),ż)
 | .has a,m+1,h,q,o=>λs I b=>by
  let u:yA a<=m:=by grind [vx]
  let v:=D8 a;obtain⟨m,rfl⟩:∃k,m=k+1:=(m-1,Ž);have d:Bd s<|1+xA a:=b;let(n,e,g):=Qx Ž o.1 (yQ a m u Ž o.2) I (by have:=d.1;lia,by have:=d.2;lia);refine((2 ^ s.bits,[]),n,?_,g.le (by simp[qE]),(_,_,W,cJ _,ż,λc i=>(by cases i)),ż);rw[J9]at e;exact ND (F:=cE<|m+1) e
 |.one w,m+1,h,q,o=>λs I b=>by have d:Bd s<|1+yP w:=b;let(p,n,e,g,a,c,l):=Eu w m (by simp only[vx]at h;lia) Ž o s (oF s) I (by have:=d.1;lia,by have:=d.2;lia);let r:=ua w;have:=d.1;refine((0,[.lst<|p.map pk]),n,NC<|zw (ds:=CG w) W W W Ž e,g.le (by simp[qE]),(_,_,W,cJ 0,ż,λc i =>?_),by simp[qE]);rw[d8.mp i];refine(_,W,by rw[aF];lia,λx i =>?_);let(k,j,y):=kg.mp i;exact y ▸ a k j
 |.both w,m+1,h,q,o=>λs I b=>by have d:Bd s<|1+yP w:=b;let(p,n,e,g,a,c,l):=Eu w m (by simp only[vx]at h;omega) ž o s (oF s) I (by have:=d.1;omega,by have:=d.2;omega);let r:=ua w;have:=d.1;exact(jn (0,[]) p,n,Jh Ž<|zw (ds:=CG w) W W W ž e,g.le (by simp[qE]),Qm p (0,[]) a (_,_,W,cJ 0,ż,λc i=>(by cases i)) (by simp;lia),by rw[Ql];simp[qE];lia)
theorem Eu:∀(w:Ws) (m:Nat),Lh w<=m->m<=13->OkA T w->Z6 m w
 |.nil,m,_,_,_=>λs x I b=>([],s,W,.refl I _,λk i=>(by cases i),dr _,dr _)
 | .cons w r,m,h,d,o=>λs x I b=>by
  simp only[Lh]at h;have c:Bd s<|qE w+yP r:=b;let(k,f,e1,a,q,u):=GV w m ŷ d o.1 s I (by have:=c.1;lia,by have:=c.2;lia);let(g,e,e2,j,n,l,t):=Eu r m ŷ d o.2 f x a.gi<|a.bd c;have p:1<=qE w:=by cases w<;>simp[qE]<;>omega
  refine(k::g,e,DB ſ (λs=>rfl) e1 e2,a.trans j,λy i =>?_,by simp[N7]at l ⊢;simp[yP];lia,by simp[yP];lia);obtain rfl|i:=aT.mp i
  .exact q
  .exact n y i
theorem yQ:∀(a:Ss) (m:Nat),yA a<=m+1->m<=13->OkS T a->LJ m a
 |.nil,m,_,_,_=>λs x I b=>([],s,W,.refl I _,λk i=>(by cases i),W)
 | .cons v t w r,m,h,e,o=>λs x I b=>by
  simp only[yA]at h;have d:Bd s<|qE w+XC r:=b;let(k,g,e1,c,q,u):=GV w m ŷ e o.1 s I (by have:=d.1;lia,by have:=d.2;lia);let(l,f,e2,n,p,j):=yQ r m ŷ e o.2 g x c.gi<|c.bd d;refine(k::l,f,DB (v:=uc w) ſ (λs =>?_) e1 e2,c.trans n,λy i =>?_,by rw[bK,j,fT])
  .exact ź
  obtain rfl|i:=aT.mp i
  .exact q
  .exact p y i
end
def lX{c:cf}{τ:AU}{e:DF}{d x:D}{ρ:cf}{ds r:!D}(h:τ d c=Y ρ)(g:e ρ=Y x)(k:tD c τ gu e ds=Y r):tD c τ gu e (d::ds)=Y (x::r):=by
 simp_all [tD,av,gu,if_true]
abbrev fk9:!aM:=["question","bits","by_name","by_text","starred","stars","inner","leads","asks"]
def dsF(s:FB)(asks:!D):!D:=[.lst s.q,.int (s.bits:Nat),.fM s.nk s.nv,.fM s.tk s.tv,.int s.iO,.int s.wR,.int s.inner,.lst s.cV,.lst asks]
theorem BJ:∀s:Ss,(kB s).length<=xA s
 |.nil=>by simp[kB]
 | .cons b a w r=>by
  have:=BJ r
  grind [kB,xA,bK]
def HE{f:DF}(h:f a=Y x)(k:g a=Y y):gQ (aC f<|aC g aN) a=Y (.tup [x,y]):=by unfold gQ aC;rw[h,k];rfl
def aaN{f:DF}(h:f a=Y x)(k:g a=Y y)(l:e a=Y z):gQ (aC f<|aC g<|aC e aN) a=Y (.tup [x,y,z]):=by unfold gQ aC;rw[h,k,l];rfl
def xP(y:String):gP (e2 nX (e2 dh (eV 0) o0)<|eK<|kS y) [Y<|.tup<|kS x::r]=Y (ar x==ar y):=S5<|show qt (kS x::r) ((0:Nat):Int)=_ from iT W
section
variable {A B:!D->↑D}
abbrev ce:=gQ<|aC (eK<|kS "both")<|aC (eK<|kS "one") aN
def Lo(h:(ar x==ar "has")=Z_)(k:gP (e2 (T9 Z_) (e2 dh (eV 0) o0) ce) [Y<|.tup<|kS x::r]=Y Z_):la 1 1 (nP A B) [.tup<|kS x::r]=Y (.tup<|kS x::r):=bq (m8 ((xP _).trans<|congrArg Y h)<|m8 k W) W
def Lm{x:!D}(n:x.length<=1000)(b:(ar k==ar "has")=Z_)(a:gP (e2 (T9 Z_) (e2 dh (eV 0) o0) ce) [Y<|.tup [kS k,.lst x]]=Y Z')(h:tD [M] (gN 0) gu (bF B Sc) x=Y y):la 1 1 (nP A B) [.tup [kS k,.lst x]]=Y (.tup [kS k,.lst y]):=bq (m8 ((xP _).trans<|congrArg Y b)<|qM a<|HE W<|oP<|jI W n h) W
end
mutual
theorem qZ:∀(w:Wi) (m:Nat),vx w<=m->qE w<=900->dz m [uc w]=Y (uc w)
 |w,0,h,_=>by cases w<;>simp[vx]at h
 |.any,m+1,h,_=>Lo ſ ź
 |.txt t,m+1,h,_=>Lo ſ ź
 |.has s,m+1,h,b=>by simp only[vx]at h;simp only[qE]at b;exact bq (qM (xP _)<|HE W<|(kE W).trans<|Cn s m Ž Ž) W
 |.both w,m+1,h,b=>by simp only[vx]at h;simp only[qE]at b;exact Lm (by have:=ua w;lia) ſ ź (pK w m Ž Ž)
 |.one w,m+1,h,b=>by simp only[vx]at h;simp only[qE]at b;exact Lm (by have:=ua w;lia) ſ ź (pK w m Ž Ž)
theorem pK:∀(w:Ws) (m:Nat),Lh w<=m->yP w<=900->tD [M] (gN 0) gu (bF (dz m) Sc) (CG w)=Y (CG w)
 |.nil,m,_,_=>rfl|.cons w r,m,h,b=>by simp only[Lh]at h;simp only[yP]at b;rw[CG];exact lX (ρ:=[Y<|uc w]) W (qZ w m ŷ Ž) (pK r m ŷ Ž)
theorem vh:∀(s:Ss) (m:Nat),yA s<=m+1->xA s<=900->tD [M] (gN 0) gu (gQ<|aC (e2 dh (eV 0) o0)<|aC (e2 dh (eV 0) t3)<|aC (bF (dz m) bn) aN) (kB s)=Y (kB s)
 |.nil,m,_,_=>rfl|.cons b a w r,m,h,z=>by simp only[yA]at h;simp only[xA]at z;rw[kB];exact lX W (aaN W W<|(kE W).trans<|qZ w m ŷ Ž)<|vh r m ŷ Ž
theorem Cn:∀(s:Ss) (m:Nat),yA s<=m->xA s<=900->jR m [.lst<|kB s]=Y (.lst<|kB s)
 |s,0,h,_=>by grind [D8]
 |s,m+1,h,z=>bq (JW<|jI (l:=kB s) W (by grind [BJ]) (vh s m h z)) W
end
abbrev pF(a:!aM)(b:!D):↑D:=Y<|.obj aR<|.ins "Facts" a b
def abr{F:!D->↑D}(h:F [q]=Y d):eZ Z_ 0 "Facts" "question" (bF F v6) [pF [] [],Y q]=Y (.nx [pF ["question"] [d],Y q]):=by
 let e:bF F v6 [pF [] [],Y q]=Y d:=rfl.trans h;unfold eZ;rw[e]
 exact Ÿ
noncomputable def s00(q:!D):FB:=(q,0,[],[],[],[],0,0,0,[])
def abj(q:!D):GI<|s00 q:=(λn=>(0,W),W,aV _,λt =>.inl W,W,aV _,[],W,λl h=>by cases h)
def UA(a:Ss)(o:OkS T a)(m:yA a<=12)(z:xA a<=900):
  ∃(d:!(Nat×!D)) (s:FB),f9 [.ins "Facts" [] [],.lst<|kB a]=Y (.cT,.ins "Facts" fk9<|dsF s<|d.map pk)/\s.q=kB a/\GI s/\(∀k∈d,kO 12<|pk k)/\d.length=fT a:=by
 let n:AD [.lst<|kB a]=Y (.lst<|kB a):=Cn a 12 m z;let r:=OD a;let(b,e1,q,i,f,j):=Gy (abj<|kB a) a (by show 0+fT a<=1000;lia);have f:b.bits=0+fT a:=f;let(d,s,e2,g,p,l):=yQ a 12 ž ſ o b (oF b) q (Ż,by rw[j];show 0+XC a<=900;lia);let e:b.q=kB a:=i;refine(d,s,?_,g.q.trans e,g.gi,p,l);let c:iL ci [oF b,Y<|.lst<|kB a]=Y (kB a):=by
  have:iL ci [oF b,Y<|.lst<|kB a]=Y b.q:=by kernel_rfl
  rw[this,e]
 let h:=zw (f:=iL ci) (ρ:=[oF b,Y<|.lst<|kB a]) c W W (by rw[vJ];lia) e2;generalize (d.map pk)=A at *
 rw[show cE 12=nS from W]at h;show (oM [pF [] [],Y<|.lst<|kB a]).bind (HW aR)=_;refine bq (sq (abr n)<|sq W<|sq W<|sq W<|sq W<|sq W<|sq W<|sq (ρ':=[oF<|s00<|kB a,Y<|.lst<|kB a]) ź (sq (ρ':=[oF b,Y<|.lst<|kB a]) ?_ W)) ?_
 .unfold jY;rw[lh (s:=s00<|kB a) (s1:=s00<|kB a) (ρ1:=[oF<|s00<|kB a,Y<|.lst<|kB a]) (args:=[.lst<|kB a]) (by decide) W (by kernel_rfl) W e1];rfl
 .unfold HR;rw[h];exact ź
end K21
namespace K21
open PySem L2
noncomputable def Oy:jr:=(-1,0,0,0,1,1,1,1)
abbrev pC(a:!aM)(b:!D):↑D:=Y<|.obj bg<|.ins "Coming" a b
def YE{F:!D->↑(D×D)}{f:vy}(h:F [.ins "Facts" [] [],q]=Y (.cT,iK f)):eZ Z_ 0 "Coming" "facts" (hJ "Facts" F v6) [pC [] [],Y q]=Y (.nx [pC ["facts"] [iK f],Y q]):=by
 let e:hJ "Facts" F v6 [pC [] [],Y q]=Y (iK f):=by show (F _).bind _=_;rw[h];rfl
 unfold eZ;rw[e]
 exact Ÿ
def YF{F:!D->↑D}{f:vy}(h:F [f.qd]=Y (.int a)):eZ Z_ 0 "Coming" "able" (qo [0] []<|bF F v4) [pC ["facts","full"] [iK f,.int b],Y q]=Y (.nx [pC ["facts","full","able"] [iK f,.int b,.int a],Y q]):=by
 let e:qo [0] [] (bF F v4) [pC ["facts","full"] [iK f,.int b],Y q]=Y (.int a):=by
  have:qo [0] [] (bF F v4) [pC ["facts","full"] [iK f,.int b],Y q]=(F [f.qd]).bind λd=>if qN d=Z' then Y d else none:=by kernel_rfl
  rw[this,h];rfl
 unfold eZ;rw[e]
 exact Ÿ
def Nv{f:vy}(i:f.qd=.lst f.q)(d:f.q.length<=1000)(g:f9 [.ins "Facts" [] [],.lst q]=Y (.cT,iK f))(h:jl [f.qd]=Y (.int a)):
  fw [.ins "Coming" [] [],.lst q]=Y (.cT,c6 (f,2 ^ f.q.length,a,0,0,[Oy],[])):=by
 show (j3 [pC [] [],Y<|.lst q]).bind (HW bg)=_;unfold j3;rw[lD<|YE g];let m:eZ Z_ 0 "Coming" "full" (qo [0] [] UF) [pC ["facts"] [iK f],Y<|.lst q]=Y (.nx [pC ["facts","full"] [iK f,.int<|2 ^ f.q.length],Y<|.lst q]):=by
  let e:qo [0] [] UF [pC ["facts"] [iK f],Y<|.lst q]=Y (.int<|2 ^ f.q.length):=by refine kA W ?_ W;refine(show _=(iX [f.qd]).bind (r8<|.int 1) from W).trans ?_;rw[i];exact XO d
  unfold eZ;rw[e]
  exact Ÿ
 rw[lD m];generalize (2:Int) ^ f.q.length=b;rw[lD<|YF h];let l:eZ Z_ 0 "Coming" "taken" o0 [pC ["facts","full","able"] [iK f,.int b,.int a],Y<|.lst q]=Y (.nx [pC ["facts","full","able","taken"] [iK f,.int b,.int a,.int 0],Y<|.lst q]):=by kernel_rfl
 let k:eZ Z_ 0 "Coming" "opened" o0 [pC ["facts","full","able","taken"] [iK f,.int b,.int a,.int 0],Y<|.lst q]=Y (.nx [pC ["facts","full","able","taken","opened"] [iK f,.int b,.int a,.int 0,.int 0],Y<|.lst q]):=by kernel_rfl
 let j:ph 0 "Coming" "rows" (.li<|.fs "Row" []) (Zt<|QZ "Row"<|λ_=>rK []) [pC ["facts","full","able","taken","opened"] [iK f,.int b,.int a,.int 0,.int 0],Y<|.lst q]=Y (.nx [pC ["facts","full","able","taken","opened","rows"] [iK f,.int b,.int a,.int 0,.int 0,.lst [eD Oy]],Y<|.lst q]):=by kernel_rfl
 let c:eZ Z_ 0 "Coming" "rests" Re [pC ["facts","full","able","taken","opened","rows"] [iK f,.int b,.int a,.int 0,.int 0,.lst [eD Oy]],Y<|.lst q]=Y (.nx [oC (f,b,a,0,0,[Oy],[]),Y<|.lst q]):=by kernel_rfl
 rw[lD l,lD k,lD j,c];exact ź
def SV(h:fw [.ins "Coming" [] [],.lst q]=Y (.cT,c6 c)):cC [.ins "Sift" [] [],.lst q]=Y (.cT,vL c []):=by
 show (lF [Y<|.obj cy<|.ins "Sift" [] [],Y<|.lst q]).bind (HW cy)=_;unfold lF;have e:hJ "Coming" fw v6 [Y<|.obj cy<|.ins "Sift" [] [],Y<|.lst q]=Y (c6 c):=by
  have:∀F,hJ "Coming" F v6 [Y<|.obj cy<|.ins "Sift" [] [],Y<|.lst q]=(F [.ins "Coming" [] [],.lst q]).bind λr=>match r.1 with|.cT=>Y r.2|_=>none:=λF=>rfl
  rw[this,h];rfl
 rw[lD (ρ':=[Y<|.obj cy<|.ins "Sift" ["coming"] [c6 c],Y<|.lst q]) (by unfold ph;rw[e];kernel_rfl)];exact ź
def Pb(n:Nat):(0:Int)<=2 ^ n:=Int.le_of_lt<|Int.pow_pos ſ
abbrev Sm(k:Nat)(x:Int):Prop:=0<=x/\x<2 ^ k
def Ey{x y:Int}(a:0<=y):0<=bA x y/\bA x y<=y:=by
 have h:∀n:Nat,n<=y.toNat->(n:Int)<=y:=λn l=>EO (VR.mpr l)<|Int.le_of_eq<|Int.toNat_of_nonneg a
 unfold bA t9;rw[decide_eq_true a];cases decide (0<=x)
 .exact(Int.sub_nonneg_of_le<|h _ Nat.and_le_left,Int.sub_le_self _<|cJ _)
 .exact(cJ _,h _ Nat.and_le_right)
def HN{x:Int}(h:Sm k y):Sm k<|bA x y:=((Ey h.1).1,Bv (Ey h.1).2 h.2)
def V9(h:Sm k x):Sm (k+1)<|bO x<|2 ^ k:=by
 let(a,rfl):=gn h.1;let e:((2 ^ k:Nat):Int)=2 ^ k:=by simp
 let b:=h.2;rw[<- e]at b ⊢;rw[Jf];have:a ||| 2 ^ k<2 ^ (k+1):=Nat.or_lt_two_pow Ž ž
 grind
def OO(h:Sm k x):Sm (k+1) x:=(h.1,ž)
theorem QN{n:Nat}{named atoms:Int}:∀(c:!D) (k:Nat) (b:Int),Sm k b->Sm (k+c.length) (IT n named atoms k b c)
 |[],k,b,h=>h|a::c,k,b,h=>by rw[bK,show k+(c.length+1)=k+1+c.length by lia];exact QN (n:=n) (named:=named) (atoms:=atoms) c _ (if bA named (2 ^ k) != 0&&qR n a atoms then bO b _ else b) (by split;exact V9 h;exact OO h)
theorem V_:∀ {j k:Nat},Sm j x->j<=k->Sm k x
 | j,k,h,a=>by
  let(m,rfl):=Nat.exists_eq_add_of_le a
  induction m with
  |zero=>exact h|succ m ih=>exact OO<|ih ż
def tz(x:Int)(i:Nat):Bool:=if 0<=x then x.toNat.testBit i else (not<|(bN x).toNat.testBit i)
def yO(a i:Nat):tz (a:Int) i=a.testBit i:=by solve_by_elim
def Hz(x:Int)(i:Nat):tz (bN x) i = (not<|tz x i):=by
 let n:0<=bN x↔¬0<=x:=PyProof.Rows.bitNot_nonneg;unfold tz;rw[show bN _=x from PyProof.Rows.bitNot_bitNot x];by_cases h:0<=x
 .rw[if_neg λz=>n.mp z h,if_pos h]
 .rw[if_pos<|n.mpr h,if_neg h,Bool.not_not]
def NG(x y:Nat)(i:Nat):(x-(x &&& y)).testBit i=(x.testBit i && (not<|y.testBit i)):=by
 let h:=LU (x ^^^ x &&& y)<|x &&& y;let b:x ^^^ x &&& y ||| x &&& y=x:=x6 λj=>by rw[Nat.testBit_or,Nat.testBit_xor,Js];cases x.testBit j<;>cases y.testBit j<;>solve_by_elim
 let a:(x ^^^ x &&& y) &&& (x &&& y)=0:=x6 λj=>by simp_all
 rw[show x-(x &&& y)=x ^^^ x &&& y by lia,Nat.testBit_xor,Js];cases x.testBit i<;>cases y.testBit i<;>rfl
def E8(b:0<=x)(y:Nat)(i:Nat):tz (x-((x.toNat &&& y:Nat):Int)) i=(x.toNat.testBit i && (not<|y.testBit i)):=by
 let(a,rfl):=gn b;rw[EL,show a-(a &&& y:Int)=(a-(a &&& y):Nat) by grind [Nat.and_le_left],yO,NG]
def vH(x y:Int)(i:Nat):tz (bA x y) i=(tz x i&&tz y i):=by
 by_cases b:0<=x<;>by_cases a:0<=y
 .rw[show bA x y=_ from PyProof.Rows.bitAnd_pp b a,yO,Js,tz,if_pos b,tz,if_pos a]
 .rw[show bA x y=_ from PyProof.Rows.bitAnd_pn b a,E8 b,tz,if_pos b,tz,if_neg a]
 .rw[show bA x y=_ from PyProof.Rows.bitAnd_np b a,E8 a,tz,if_neg b,tz,if_pos a,Bool.and_comm]
 .rw[show bA x y=_ from PyProof.Rows.bitAnd_nn b a,Hz,yO,Nat.testBit_or,tz,if_neg b,tz,if_neg a,Bool.not_or]
def VY(x y:Int)(i:Nat):tz (bO x y) i=(tz x i||tz y i):=by
 show tz (bN _) i=_
 simp_all [Hz,vH,Bool.not_and,Bool.not_not]
def Xj(x:Int)(i:Nat):tz (x*2) i=(decide (1<=i)&&tz x (i-1)):=by
 have b:∀a:Nat,(2*a).testBit i=(decide _&&a.testBit _):=λa=>by rw[show 2*a=a <<< 1 by rfl,Nat.testBit_shiftLeft]
 unfold tz;by_cases h:0<=x
 .rw[if_pos (by lia),if_pos h,show (x*2).toNat=2*x.toNat by lia,b]
 .rw[if_neg (by lia),if_neg h,show (bN _).toNat=2*(bN x).toNat+1 by unfold bN ER;lia];cases i with
  |zero=>simp|succ i=>rw[Nat.testBit_succ,show (2*(bN x).toNat+1)/2=(bN x).toNat by lia];trivial
def Xi(k i:Nat):tz ((2:Int) ^ k) i=decide (k=i):=by
 let e:(2 ^ k:Nat)=(2:Int) ^ k:=by simp
 rw[<- e,yO,Nat.testBit_two_pow]
def Ou(d:0<=x)(c:0<=y)(h:∀i,tz x i=tz y i):x=y:=by
 let(a,rfl):=gn d;let(b,rfl):=gn c;have:a=b:=x6 λi=>by solve_by_elim
 rw[this]
theorem yd(i:Nat):tz 0 i=false:=by rw[show 0=((0:Nat):Int) from W,yO,Nat.zero_testBit]
def Ov(x:Int)(k:Nat):(bA x (2 ^ k) != 0)=tz x k:=by
 have b:∀i,tz (bA x<|2 ^ k) i=(tz x i&&decide (k=i)):=λi=>by rw[vH,Xi]
 cases e:tz x k with
 |true=>
  rw[bne_iff_ne]
  grind [yd]
 |false=>
  have:bA x (2 ^ k)=0:=Ou ((Ey (x:=x) (Pb k)).1) ſ λi=>by grind [yd]
  simp_all
abbrev Le(x y:Int):Prop:=∀i,tz x i=Z'->tz y i=Z'
def Qa{x:Int}(h:Le x b)(g:Le y a):Le (bO x y)<|bO b a:=λi e=>by
 rw[VY,vC]at e ⊢;exact e.imp (h i)<|g i
def Qb(h:Le x b)(g:Le y a):Le (bA x y)<|bA b a:=λi e=>by
 simp_all [vH,bh]
def P_(x y:Int):Le x<|bO x y:=λi e=>by rw[VY,e];rfl
def LP(x:Int):Le 0 x:=λi e=>by simp_all [yd]
def WG{f:Int}(l:Le p c)(k:Le a g)(j:Le f d):Le (IK b p a f)<|IK b c g d:=λi e=>by
 unfold IK at e ⊢;rw[Xj,bh]at e ⊢;exact(e.1,Qb (Qa l<|Qb k λ_ h=>h) j _ e.2)
theorem P1:∀(n m:Nat) (b:D) (a f:Int),kO m b->Le a f->qR n b a=Z'->qR n b f=Z'
 |0,m,b,a,f,_,_,h=>nomatch h|n+1,0,b,a,f,h,_,_=>h.elim| n+1,m+1,b,a,f,s,l,h=>by
  let(d,u,rfl,o,_,r):=s;simp only[P4,bh,beq_iff_eq]at h ⊢;refine(Ou (Ey o).1 o λi =>?_,?_)
  .rw[vH];cases e:tz d i with
   |false=>rw[NY]|true=>
    have:tz (bA a d) i=true:=by simp_all
    rw[vH]at this
    simp_all
  .rw[eB]at h ⊢;intro c j;let(t,rfl,_,q):=r c j;let p:=h.2 _ j;simp at p ⊢;let(x,g,k):=p;exact(x,g,P1 n m x a f (q x g) l k)
theorem fit_le{m:Nat}{f:Int}(h:Le a j):∀(b:!D) (k:Nat) (x d:Int),(∀p∈b,kO m p)->Le x d->Le (IT n f a k x b) (IT n f j k d b)
 |[],k,x,d,_,g=>g| p::b,k,x,d,l,g=>by
  refine fit_le h b _ _ _ (λq o=>l q Ÿ) ?_;by_cases c:(bA f (2 ^ k) != 0&&qR n p a)=Z'
  .have:(bA f (2 ^ k) != 0&&qR n p j)=true:=by rw[bh]at c ⊢;exact(c.1,P1 n m p a j (l p ay) h c.2)
   rw[if_pos c,if_pos this];exact Qa g λ_ h=>h
  .rw[if_neg c];split
   .exact λi e=>P_ _ _ i<|g i e
   .exact g
structure FW(f:vy)(tV:Int)(pE lift:Int->Int->Int)(stp txt:aM->Int):Prop where
 ok:WW f pE lift
 st:FSt f stp txt
 sm:∀n a,Sm 63<|pE n a
 mono:∀n a a',Le a a'->Le (pE n a) (pE n a')
 tV:Sm 63 tV
end K21
namespace K21
open PySem L2 K30
def YD{j:Int}(h:0<j):h_ (.int i) (.int j)=Y (.int<|i%j):=if_pos h
section
variable {f g:DF}{i j:Int}(a:f ρ=some (.int i))(b:g ρ=some (.int j))
include a
def jN(h:‹0<j›):e2 h_ f (eK<|.int j) ρ=Y (.int<|i%j):=(fN a W).trans<|YD h
def lR(h:‹0<j/\j<2 ^ 64›):e2 i8 f (eK<|.int j) ρ=Y (.int<|i/j):=(fN a W).trans (show (if _ then _ else _)=_ by rw[if_pos<|by trivial])
def IX:gP (e2 nX f<|eK<|.int j) ρ=Y (i==j):=nr<|(fN a W).trans W
def Io:gP (e2 NR f<|eK<|.int j) ρ=Y (decide (i<j)):=nr<|(fN a W).trans W
include b
def B4(h:0<j):e2 h_ f g ρ=Y (.int<|i%j):=(fN a b).trans<|YD h
def BZ(h : -(2 ^ 64)<j/\j<2 ^ 64):e2 qQ f g ρ=Y (.int<|i*j):=(fN a b).trans (show (if _ then _ else _)=_ by rw[if_pos<|by simp_all])
def aa4:e2 xG f g ρ=Y (.int<|i-j):=fN a b
def oV:e2 ik f g ρ=Y (.int<|i+j):=fN a b
end
def WY{f:DF}{i j:Int}(a:f ρ=Y (.int i))(h :‹-(2 ^ 64)<j/\j<2 ^ 64›):e2 qQ f (eK<|.int j) ρ=Y (.int<|i*j):=BZ a W h
def mH{f g:DF}{l:!D}{z:Int}(a:f ρ=Y (.lst l))(b:g ρ=Y (.int z))(h:qt l z=Y d):e2 dh f g ρ=Y d:=(fN a b).trans h
def Iw{a:!Int}{j:Nat}{d:D}(h:(a.map D.int)[j]?=Y d):∃c,a[j]?=Y c/\d=.int c:=by
 rw[aY]at h;let(c,e,h):=aj.1 h;cases h<;>solve_by_elim
def sqX{g h:DG}{l:!D}(e:g a=Y (.ro l)):a_ g h a=Y (.ro l):=by
 unfold a_;rw[e];rfl
def sqR{g h:DG}{l:!D}(e:t a=Y Z')(k:g a=Y (.ro l)):a_ (hZ t g cX) h a=Y (.ro l):=sqX<|(i_ e).trans k
def Wp{f:DF}{l:!Int}(h:f ρ=Y (.lst<|l.map D.int)):bF iX (aC f aN) ρ=Y (.int l.length):=(kE h).trans (by rw[<- aF (f:=D.int)];rfl)
def uE{f:DF}{z:Int}(h:f b=Y (.int z))(a:0<=z)(l:z<=5000):AQ f b=Y (iJ 0 z.toNat):=Y8 h (EO ſ a,Bv l ſ)
theorem Qd{g:Int->Int}{c:cf}(h:∀i,e (c.set 0<|Y<|.int i)=Y (.int<|g i)):∀l:!Int,tD c (gN 0) gu e (l.map D.int)=Y ((l.map g).map D.int)
 |[]=>rfl|i::l=>lX W (h i)<|Qd h l
def WU{f:DF}{l:!Int}{v:Int}(b:eV i a=Y (.lst<|l.map D.int))(n:l.length<5000)(e:f a=Y (.int v)):qh i f a=Y (.nx<|a.set i<|Y<|.lst<|(l++[v]).map D.int):=by
 rw[bS];exact pL b (by rw[aF,gU];lia) e
def Jj{f g:DF}{l m:!D}(a:f ρ=Y (.lst l))(b:g ρ=Y (.lst m))(h:l.length+m.length<=5000):e2 ik f g ρ=Y (.lst<|l++m):=(fN a b).trans<|if_pos<|bM h ſ
section
variable {f g:DF}{x y:aM}{l m:!D}
def abe{u v:DP}{i j:↑Int}(a:f ρ=Y (.str x))(b:u ρ=Y i)(c:v ρ=Y j)(h:x.length<=dZ):Gz f u v ρ=Y (.str<|R4 x i j):=by
 simp only[Gz,a,b,c,av];exact if_pos h
def RI(a:f ρ=Y (.str x))(b:g ρ=Y (.str y))(h:x.length+y.length<=dZ):e2 ik f g ρ=Y (.str<|x++y):=(fN a b).trans<|if_pos h
def YI(a:f ρ=Y (.str x))(h:x.length<=dZ):bF iX (aC f aN) ρ=Y (.int x.length):=(kE a).trans<|if_pos h
def el2{d:D}(h:f ρ=Y d)(k:g ρ=Y e):eF (f7<|aC f<|aC g aN) ρ=Y (.lst [d,e]):=by unfold eF f7 aC;rw[h,k];rfl
def abu{i:Int}(h:f ρ=Y (.int i)):pS f ρ=Y (Y i):=by simp[pS,h]
end
def M9{F:!D->↑(!D)}{g:DL}{l m:!D}(a:g ρ=Y l)(b:F l=Y m):sF F g ρ=Y m:=by unfold sF;rw[a];exact b
noncomputable abbrev Wa:aM:=ar "open"
noncomputable abbrev V':aM:=ar "text"
noncomputable abbrev OZ:aM:=ar "close"
def AH(s:D):Prop:=(∃x,s=.tup [.str Wa,.str x])\/(∃x,s=.tup [.str V',.str x])\/s=.tup [.str OZ]
theorem AH.ok{s:D}(h:AH s)(n:Nat):ko s (n+1)=true:=by
 obtain⟨x,rfl⟩|⟨x,rfl⟩|rfl:=h<;>trivial
def HP(h:∀s∈a,AH s)(n:Nat):qp a (n+1)=true:=by
 induction a with
 |nil=>simp[qp]|cons s a ih=>simp only[qp,(h s ay).ok n,ih λs b=>h s (by solve_by_elim),Bool.and_self]
noncomputable def gW:Nat×Bool->m7->↑(Nat×Bool)
 |(d,b),.op _=>if 0<d\/b=Z_ then Y (d+1,Z') else M
 |(d,b),.tx _=>if 0<d then Y (d,b) else M
 |(d,b),.cl=>if 0<d then Y (d-1,b) else M
noncomputable def qj:!m7->Nat×Bool->↑(Nat×Bool)
 |[],z=>Y z|g::a,z=>(gW z g).bind<|qj a
theorem rB(g:m7):∀(a:!m7) (z:Nat×Bool),qj (a++[g]) z=(qj a z).bind λb=>gW b g
 |[],z=>by show (gW z g).bind _=gW z g;cases gW z g<;>rfl
 | t::a,z=>by
  show (gW z t).bind _=((gW z t).bind _).bind _;cases gW z t with
  |none=>rfl|some b=>exact rB g a b
structure SG(ss:!D)(dep:Int):Prop where
 sg:∀s∈ss,AH s
 ex:∃gs d b,ss=gs.map eI/\qj gs (0,false)=some (d,b)/\dep=(d:Nat)/\(gs=[]->b=false)
def SG.nil:SG [] 0:=(λs h=>(by cases h),[],0,_,W,W,W,λ_=>rfl)
def SG.open{f:!D}{a:Int}(h:SG f a)(x:aM)(e:f=[]\/0<a):SG (f++[.tup [.str Wa,.str x]])<|a+1:=by
 let(i,d,b,g,k,_):=h.ex;refine(λs c =>?_,i++[.op x],d+1,Z',by rw[bS];solve_by_elim,?_,Ż,λh=>by simp at h)
 .obtain c|c:=aX.mp c
  .exact h.sg s c
  .exact .inl (x,d8.mp c)
 .rw[rB,k];show (if 0<d\/b=Z_ then _ else _)=_;obtain e|e:=e<;>simp_all
def SG.text(h:SG e a)(x:aM)(k:0<a):SG (e++[.tup [.str V',.str x]]) a:=by
 let(f,d,b,j,i,g,l):=h.ex;refine(λs c =>?_,f++[.tx x],d,b,by rw[j,bS];rfl,?_,g,λh=>by simp at h)
 .obtain c|c:=aX.mp c
  .exact h.sg s c
  .exact .inr<|.inl (x,d8.mp c)
 .rw[rB,i];show (if 0<d then _ else _)=_
  simp_all
def SG.close(h:SG e a)(j:0<a):SG (e++[.tup [.str OZ]])<|a-1:=by
 let(f,d,b,i,g,_):=h.ex;refine(λs c =>?_,f++[.cl],d-1,b,by rw[bS];solve_by_elim,?_,Ž,λh=>by simp at h)
 .obtain c|c:=aX.mp c
  .exact h.sg s c
  .exact .inr<|.inr<|d8.mp c
 .rw[rB,g];show (if 0<d then _ else _)=_
  simp_all
def acx{a:!D}(h:∀s∈a,AH s):nX (.lst a) (.lst [])=Y (.bl a.isEmpty):=by
 have:ko (.lst a) 180=true:=by simp_all [ko,HP]
 simp only[nX];rw[if_pos<|by rw[this];rfl];cases a<;>rfl
def ZX{u:DT}{ρ:cf}{x y:Bool}(h:t ρ=Y x)(g:u ρ=Y y):mr t u ρ=Y (x&&y):=by
 unfold mr;rw[h,g];cases x<;>rfl
def B9(a:!Int)(n:Nat):qp (a.map D.int) n=true:=by
 induction a with|nil=>rfl|cons x a ih=>solve_by_elim
def Zq(a:!Int):nX (.lst<|a.map D.int) (.lst [])=Y (.bl a.isEmpty):=by
 simp only[nX];rw[if_pos<|by rw[Ll<|B9 a 179];rfl];cases a<;>rfl
noncomputable def xD(a:!Int):Int:=a.getLastD 0
def abw{l:!D}{x:D}(h:eV j ρ=Y (.lst<|l++[x])):Ug j ρ=Y (x,ρ.set j<|Y<|.lst l):=by simp[Ug,gM,h]
def zf(a:!Int):sJ [.lst<|a.map D.int]=Y (.int<|xD a,a.dropLast.map D.int):=by
 have t:gP (e2 nX (eV 0) Re) [Y<|.lst<|a.map D.int]=Y a.isEmpty:=nr<|(fN W W).trans<|Zq a;obtain rfl|⟨b,x,rfl⟩:=WZ a
 .rfl
 .rw[List.concat_eq_append]at t ⊢;exact bq (m8 (t.trans ż)<|y_<|abw<|congrArg (Y ∘ D.lst)<|bS (f:=D.int)) (by simp[xD];rfl)
theorem Ir{ρ:cf}{τ:AU}{fe:DM}{i0:Nat}{Pr:D->Prop}:∀ {ds:!D}(e:!Int),(∀d∈ds,∀e:!Int,∃(c:cf) (x:D) (b:cf) (a:!Int),τ d (ρ.set i0<|Y<|.lst<|e.map D.int)=Y c/\fe c=Y (x,b)/\gM i0 b=Y (a.map D.int)/\Pr x)->∃f a,Wu ρ τ fe i0 ds (e.map D.int)=Y (f,NW D.int a)/\f.length=ds.length/\∀x∈f,Pr x
 |[],e,_=>([],e,W,W,λx h=>by cases h)
 | d::ds,e,h=>by
  let(c,x,b,g,_):=h d ay e;let(f,a,n,l,k):=Ir g λd m=>h d<|ax _ m
  refine(x::f,a,?_,by simp[l],λy i =>?_)
  .simp_all [Wu,av,gy]
  grind
def zW:Nat->Nat
 |0=>1|n+1=>1+3*(1+zW n)
theorem W5:∀n,1<=zW n
 |0=>aV _|n+1=>by simp_all [zW]
structure WB(n:Nat)(w:Wi):Prop where
 nm:NmW w
 ok:OkW (λ_=>True) w
 dp:vx w<=2*(n+1)
 sz:qE w<=zW n
abbrev Tp:=Bool×↑aM×Wi
abbrev ki(p:Tp):D :=.tup [.str<|CH p.1,.str<|su p.2.1,uc p.2.2]
noncomputable def sS:!Tp->Ss
 |[] =>.nil|p::r =>.cons p.1 p.2.1 p.2.2<|sS r
theorem Fm:∀l,kB (sS l)=l.map ki
 |[]=>rfl|p::l=>by rw[sS,kB,Fm l];rfl
abbrev TB(n:Nat)(p:Tp):Prop:=p.2.1≠Y (ar "*")/\WB n p.2.2
theorem JK:∀l:!Tp,(∀p∈l,TB n p)->NmS (sS l)/\OkS (λ_=>True) (sS l)/\yA (sS l)<=2*(n+1)+1/\xA (sS l)<=l.length*(1+zW n)
 |[],_=>(trivial,trivial,by simp[sS,yA],by simp[sS,xA])
 | p::l,h=>by
  let(a,b,c,d):=JK l λq g=>h q Ÿ
  let(e,f):=h p ay;refine((e,f.nm,a),(f.ok,b),?_,?_)
  .have:=f.dp;grind [sS,yA]
  .have:=f.sz;simp only[sS,xA,bK,Nat.add_mul];lia
theorem VW:∀g:!D,(∀x∈g,∃w,x=uc w/\WB n w)->∃A,CG A=g/\NmA A/\OkA (λ_=>True) A/\Lh A<=2*(n+1)/\yP A<=g.length*zW n
 |[],_=>(.nil,W,trivial,trivial,by simp[Lh],by simp[yP])
 | x::g,h=>by
  let(A,a,b,c,d,e):=VW g λq i=>h q Ÿ
  let(w,rfl,f):=h x ay;refine(.cons w A,by rw[CG,a],(f.nm,b),(f.ok,c),?_,?_)
  .have:=f.dp;grind [Lh]
  .have:=f.sz;grind [yP,bK,Nat.add_mul]
section
variable {f g:DF}{u v:DM}{ρ A B:cf}{x y z d:D}{l m:!D}{F:!D->↑(D×!D)}{h:VD}{G:DL}
def Dx{c:!D}(a:eV j ρ=Y (.lst l))(b:G ρ=Y c)(k:F (.lst l::c)=Y (d,m)):nF F j G ρ=Y (d,ρ.set j<|Y<|.lst m):=by simp[nF,gM,a,b,k]
def Dv(a:f ρ=Y d):mP f ρ=Y (d,ρ):=by simp[mP,a]
def mt2(a:f ρ=Y x)(k:u ρ=Y (y,A)):tq (km (mP f)<|km u oH) ρ=Y (.tup [x,y],A):=by simp[tq,km,mP,oH,a,k]
def mt3(a:f ρ=Y x)(b:g ρ=Y y)(k:u ρ=Y (z,A)):tq (km (mP f)<|km (mP g)<|km u oH) ρ=Y (.tup [x,y,z],A):=by simp[tq,km,mP,oH,a,b,k]
def abQ{s:!(↑Nat)}{n o:!D}(a:G ρ=Y l)(b:l.length<=5000)(c:eV j ρ=Y (.lst m))(k:Wu (mC s ρ) τ u i l m=Y (n,o)):Wo G s τ u i j ρ=Y (.lst n,ρ.set j<|Y<|.lst o):=by
 simp only[Wo,a,gM,c,av,k];exact if_pos (by rw[gU];lia)
def acU(a:eV i ρ=Y (.lst m))(b:u ρ=Y (d,A))(c:eV i A=Y (.lst l))(n:l.length<5000):JS i u ρ=Y (.nx<|A.set i<|Y<|.lst<|l++[d]):=by
 simp only[JS,a,gM,c,av,b];exact if_pos (by rw[gU];lia)
def aco{i:Int}(a:u ρ=Y (.int i,A))(b:0<=i)(c:i<=5000)(k:jw τ q (iJ 0 i.toNat) A=r):y4 (iRM u) τ q ρ=r:=by
 simp only[y4,iRM,a,av];rw[if_pos (EO (by decide) b,Bv c<|by decide)];exact k
def Uj(a:u ρ=Y (x,A))(b:v A=Y (y,B))(k:o x y=Y z):m2 o u v ρ=Y (z,B):=by simp[m2,a,b,k]
end
def abK(n:aM):∃b:↑aM,n=su b/\b≠Y (ar "*"):=by
 by_cases z:n=ar "*"
 .exact(M,z,ż)
 .exact(Y n,W,λh=>z<|cu h)
abbrev Z3(n:Nat)(x:↑DO):Prop:=∃o,x=Y o/\∃(w:Wi) (a:!Int),TM 0 o=Y (uc w,a.map D.int)/\WB n w
def rwE{f:DM}{w:Wi}{b:!Int}(k:f ρ=Y (uc w,A))(s:eV 0 A=Y (.lst<|b.map D.int))(z:WB n w):Z3 n<|fS f ρ:=(_,y_ k,w,b,by simp[TM,gM,s],z)
def rwT{f:DM}{w:Wi}{b:!Int}{h:DG}(e:t a=Y Z')(k:f a=Y (uc w,A))(s:eV 0 A=Y (.lst<|b.map D.int))(z:WB n w):Z3 n<|a_ (hZ t (fS f) cX) h a:=(_,srm e k,w,b,by simp[TM,gM,s],z)
def rwN{g h:DG}(e:t a=Y Z_)(k:Z3 n<|h a):Z3 n<|a_ (hZ t g cX) h a:=let(o,q,z):=k;(o,m8 e q,z)
noncomputable abbrev qA(c:!Int)(a:!aM)(b:Int):!D:=[.lst<|c.map D.int,.lst<|a.map D.str,.int b]
end K21
namespace K21
open PySem L2
structure VC(pE:Int->Int->Int)(r:jr):Prop where
 sm:Sm 63 r.fits
 ft:Le r.fits<|pE r.named r.atoms
structure Lax(inner:Int)(pr r:jr):Prop where
 re:Le r.bL<|IK inner pr.bL pr.ra r.fits
 ra:Le r.ra<|bO pr.ra r.bL
structure KR(pE:Int->Int->Int)(inner:Int)(rows:!jr):Prop where
 rl:∀(i:Nat) (r:jr),rows[i+1]?=some r->VC pE r
 ch:∀(i:Nat) (p r:jr),rows[i]?=some p->rows[i+1]?=some r->Lax inner p r
structure Kp(pE:Int->Int->Int)(inner:Int)(rows O0:!jr):Prop where
 nu:O0.map (·.number)=rows.map (·.number)
 re:O0.map (·.bL)=rows.map (·.bL)
 kr:KR pE inner rows->KR pE inner O0
section
variable {f:vy}{v:Int}
def Kp.trans(h:Kp n a o A)(g:Kp n a A G):Kp n a o G:=(g.nu.trans h.nu,g.re.trans h.re,λz=>g.kr<|h.kr z)
def Kp.set{i:Nat}{r r':jr}(h:o[i]?=Y r)(k:r'.number=r.number)(d:r'.bL=r.bL)(f:r'.ra=r.ra)(g:VC n r->VC n r'/\Le r.fits r'.fits):Kp n a o<|o.set i r':=by
 refine(?_,?_,λK=>(λj s e =>?_,λj p s b c =>?_))
 .simp_all [EI,de,aY]
 .simp_all [EI,de,aY]
 .by_cases z:i=j+1
  .subst z;rw[bG (aq.mp h).1]at e;cases e;exact(g<|K.rl j r h).1
  .rw[aw z]at e;exact K.rl j s e
 .by_cases z:i=j+1
  .subst z;rw[bG (aq.mp h).1]at c;cases c;rw[aw<|by simp]at b;have L:=K.ch j p r b h;refine(?_,by rw[d,f];exact L.ra);rw[d];exact λi e=>WG (λ_ h=>h) (λ_ h=>h) (g<|K.rl j r h).2 i<|L.re i e
  .rw[aw z]at c;by_cases y:i=j
   .subst y;rw[bG (aq.mp h).1]at b;cases b;have L:=K.ch i r s h c;exact(by rw[d,f];exact L.re,by rw[f];exact L.ra)
   .rw[aw y]at b;exact K.ch j p s b c
def Kp.atoms(Da:FW f v n B C E){i:Nat}{r:jr}(h:o[i]?=Y r)(x:Int):Kp n a o<|o.set i { r with atoms:=bO r.atoms x }:=
 .set h W W W λL=>((L.sm,λi e=>Da.mono _ _ _ (P_ _ _) i<|L.ft i e),λ_ h=>h)
set_option tactic.hygienic true in
theorem HK(Da:FW f v n B C E):∀(p:Nat) (b:Bool) (o:!jr),Kp n a o (Fs n B b p o)
 |0,b,o=>by cases b<;>exact(W,W,id)
 |p+1,Z_,o=>(W,W,id)| p+1,Z',o=>by
  unfold Fs;split
  .rename_i r c e d;refine .trans (.trans (.set (r':={ r with fits:=n _ _ }) e W W W λL=>((Da.sm _ _,λ_ h=>h),L.ft)) (.atoms Da ?_ _)) (HK Da p _ _)
   simp_all
  exact Ÿ
theorem FQ(p:b->Bool):∀l:!b,(l.filter p).length+(l.filter λx=> (not<|p x)).length=l.length
 |[]=>rfl| x::l=>by
  have:=FQ p l
  grind
def Du(k:Nat)(b:!Int):Nat:=(b.filter λx=> (not<|tz x k)).length
theorem mF(x:Int)(b:!Int):Du k (x::b)=(if tz x k then 0 else 1)+Du k b:=by
 grind [Du,List.filter_cons,tz]
theorem OS:∀(b:!jr) (p q:jr),Le p.bL q.bL->Le p.ra q.ra->KR n a (p::b) ->
  SmL a q b/\KR n a (q::jS a q b)/\(jS a q b).map (·.number)=b.map (·.number)/\(uN a (2 ^ k) q b).length+Du k ((jS a q b).map (·.bL))<=Du k (b.map (·.bL))
 |[],p,q,j,f,K=>(trivial,(λi r e=>(by simp[jS]at e),λi p r o e=>(by simp[jS]at e)),W,aV _)
 | r::b,p,q,j,f,K=>by
  have L:=K.ch 0 p r W W;have R:=K.rl 0 r W;have g:Le r.bL (n8 a q r).bL:=λi e=>WG j f (λo h=>h) i<|L.re i e
  let x:Le r.ra (n8 a q r).ra:=λi e=>Qa f g i<|L.ra i e
  let(z,l,y,D):=OS b r (n8 a q r) g x (λi s e=>K.rl (i+1) s e,λi s t d c=>K.ch (i+1) s t d c);let s:=(HN (x:=bO q.bL<|bA q.ra a) R.sm);refine((ž,z),(λi t e =>?_,λi t u d c =>?_),?_,?_)
  .cases i with|zero=>cases e;exact(R.sm,R.ft)|succ i=>exact l.rl i t e
  .cases i with
   |zero=>cases d;cases c;exact(λo h=>h,λo h=>h)
   |succ i=>exact l.ch i t u d c
  .show r.number::_=r.number::_;rw[y]
  .show ((if IP a (2 ^ k) q r then [r.number] else [])++uN a (2 ^ k) (n8 a q r) b).length+Du k ((n8 a q r).bL::_)<=Du k (r.bL::_);rw[mF,mF,bf];let e:IP a (2 ^ k) q r=(tz (n8 a q r).bL k && (not<|tz r.bL k)):=by show (bA (bA (n8 a q r).bL<|bN r.bL) (2 ^ k) != 0)=_;rw[Ov,vH,Hz]
   rw[e];let m:=g k;cases h:tz r.bL k with
   |true=>rw[m h];simp;solve_by_elim|false=>grind
structure SI(f:vy)(tV:Int)(pE:Int->Int->Int)(c:lC)(nl d:Nat)(b:Bool):Prop where
 ff:c.f=f
 fa:c.tV=tV
 fu:c.full=2 ^ f.q.length
 len:c.rows.length=d+1
 kr:KR pE f.inner c.rows
 pl:∀y∈c.rests,PlO c.rows y
 nd:(c.rests.map (·.num)++c.rows.map (·.number)).Nodup
 lt:∀x∈c.rests.map (·.num)++c.rows.map (·.number),x<c.opened
 Ya:((nl+c.rests.length+Du f.q.length (c.rows.map (·.bL)):Nat):Int)<=c.opened+1
 cnt:((c.rests.length+c.rows.length:Nat):Int)<=c.opened+1
 tk:c.opened<=c.taken
 op:b=decide (0<c.opened)
def SI.keep(I:SI f v n c w d b)(K:Kp n f.inner c.rows o):SI f v n { c with rows:=o } w d b:=by
 have g:o.length=c.rows.length:=by have:=congrArg List.length K.nu;simp_all
 let h:=I.nd;let i:=I.lt;let e:=I.Ya;rw[<- K.nu]at h i;rw[<- K.re]at e;exact(I.ff,I.fa,I.fu,g.trans I.len,K.kr I.kr,λy k=>by have:=I.pl y k;unfold PlO at this ⊢;rw[g];exact this,h,i,e,by rw[g];exact I.cnt,(I.tk),I.op)
def SI.tk1(I:SI f v n c w d b):SI f v n (pZ c) w d b:=(I.ff,I.fa,I.fu,I.len,I.kr,I.pl,I.nd,I.lt,I.Ya,I.cnt,by have:=I.tk;show c.opened<=c.taken+1;lia,I.op)
end
section
variable {f:vy}{v:aM->Int}
def KC(h:rows≠[]):∃b r,rows=b++[r]:=(_,_,(List.dropLast_concat_getLast h).symm)
def Ko(c b:!Int):Du k (c++b)=Du k c+Du k b:=by unfold Du;rw[List.filter_append,bf]
def KR.app{r:jr}(K:KR a t rows)(h:VC a r)(c:r.bL=0)(b:r.ra=0):KR a t<|rows++[r]:=by
 have g:∀(i:Nat) (s:jr),(rows++[r])[i]?=Y s->rows[i]?=Y s\/i=rows.length/\s=r:=λi s e=>by
  obtain z|z|z:=Nat.lt_trichotomy i _
  .rw[cw z]at e;exact .inl e
  .subst z;rw[List.getElem?_concat_length]at e;cases e<;>lia
  .rw[fH<|by rw[bf,c_];trivial]at e;cases e
 refine(λi s e =>?_,λi p s f d =>?_)
 .obtain z|⟨_,rfl⟩:=g _ s e
  .exact K.rl i s z
  .exact h
 .obtain z|⟨z,rfl⟩:=g _ s d
  .obtain y|⟨y,simp⟩:=g _ p f
   .exact K.ch i p s y z
   simp_all
  .exact(by rw[c];exact LP _,by rw[b];exact LP _)
def KR.pop(K:KR a t<|rows++[r]):KR a t rows:=by
 have g:∀(i:Nat) (s:jr),rows[i]?=Y s->(rows++[r])[i]?=Y s:=λi s e=>by rw[cw (aq.mp e).1];exact e
 exact(λi s e=>K.rl i s<|g _ s e,λi p s c b=>K.ch i p s (g _ p c)<|g _ s b)
def SI.open(Da:FW f o a u v w)(I:SI f o a c j d b)(n:Int)(p:jr):SI f o a (Pw a u (pZ c) n p) j (d+1) true:=by
 let h:SI f o a { pZ c with opened:=c.opened+1,rows:=c.rows++[NB a (pZ c) c.opened n 0 p] } j (d+1) true:=by
  let i:=I.Ya;let q:=I.cnt;let m:=I.tk;let k:=I.len;refine(I.ff,I.fa,I.fu,?_,I.kr.app (Da.sm _ _,λ_ h=>h) W W,λy g =>?_,?_,λx e =>?_,?_,?_,?_,(decide_eq_true Ž).symm)
  .simp_all
  .have:=I.pl y g
   grind
  .rw[bS,<- bU];refine b8.mpr (I.nd,ż,λx e y g =>?_);have:=I.lt x e;rw[d8.mp g];show x≠c.opened
   lia
  .rw[bS,<- bU]at e;show x<c.opened+1;obtain z|z:=aX.mp e
   .have:=I.lt x z;lia
   .rw[d8.mp z];show c.opened<c.opened+1;lia
  .show ((j+c.rests.length+Du f.q.length ((c.rows++[_]).map jr.bL):Nat):Int)<=c.opened+1+1;rw[bS,Ko];show ((_+(_+Du _ [0]):Nat):Int)<=_;rw[mF,yd];let i:((j+c.rests.length+Du f.q.length (c.rows.map jr.bL):Nat):Int)<=c.opened+1:=i;show ((_+(_+(1+0)):Nat):Int)<=_
   lia
  .show ((c.rests.length+(c.rows++[_]).length:Nat):Int)<=c.opened+1+1
   grind
  .show c.opened+1<=c.taken+1;simp_all
 exact h.keep<|HK Da _ _ _
def YA(c:lC)(p:Nat)(r q:jr)(m:vk):(F9 c p r q m).num=m.num:=by unfold F9;split<;>rfl
def SI.close(I:SI f o a c j d b)(hd:0<d):∃rs p r,c.rows=rs++[p]++[r]/\((oW (fE c) r).map (·.num)).Nodup/\((oW (fE c) r).length:Int)<=c.opened+1/\SI f o a (D0 (pZ c) r p) j (d-1) b:=by
 let hl:=I.len;let(rs1,r,e):=KC (rows:=c.rows) (λz=>by rw[z]at hl;simp at hl);have Hf:rs1.length=d:=by rw[e,bf,c_]at hl;simp_all
 let(rs,p,rfl):=KC (rows:=rs1) (λz=>by rw[z]at Hf;simp at Hf;simp_all);have ep:(fE c).rows=rs++[p]:=by show c.rows.dropLast=_;rw[e,x_]
 let hp:=I.Ya;let hc:=I.cnt;let ht:=I.tk;let hn:=I.nd;let WD:=I.lt;rw[e,bS]at hn WD;rw[e,bS,Ko]at hp;let hx:Du f.q.length ([r].map (·.bL))=if tz r.bL f.q.length then 0 else 1:=mF _ _
 rw[hx]at hp;rw[e,bf,c_]at hc;let ha:∃X:!vk,oW (fE c) r=c.rests++X/\X.length=(if tz r.bL f.q.length then 0 else 1)/\(∀m∈X,m.num=r.number/\m.place=d)/\(X.map (·.num)).Sublist [r.number]:=by unfold oW;rw[show (fE c).full=2 ^ f.q.length from I.fu,Ov,ep,Hf];refine(_,W,?_);cases tz r.bL f.q.length<;>simp
 let(X,eX,hX,hX2,hX3):=ha;have n1:(((oW (fE c) r).map (·.num))++(rs++[p]).map (·.number)).Nodup:=by rw[eX,bS,bU];exact List.Perm.nodup (List.Perm.append_left _ List.perm_append_comm)<|List.Sublist.nodup ((me _).append<|(me _).append hX3) hn
 let l1:∀x∈((oW (fE c) r).map (·.num))++(rs++[p]).map (·.number),x<c.opened:=λx hx=>by
  refine WD x ?_;rw[eX,bS,bU]at hx;obtain z|z:=aX.mp hx
  .exact br _ z
  .obtain z|z:=aX.mp z
   .exact aG _<|aG _<|hX3.subset z
   .exact aG _<|br _ z
 have k1:(oW (fE c) r).length=c.rests.length+if tz r.bL f.q.length then 0 else 1:=by rw[eX,bf,hX]
 generalize hA:oW (fE c) r=A at n1 l1 k1 eX;let pm:((yV A).map (·.num)).Perm (A.map (·.num)):=(oA A).map _;have er:(D0 (pZ c) r p).rests=((yV A).map<|F9 (fE<|pZ c) d r p).filter w6:=by show ((yV<|oW (fE c) r).map<|F9 (fE<|pZ c) (fE c).rows.length r p).filter w6=_;rw[hA,ep,Hf]
 have sb:((D0 (pZ c) r p).rests.map (·.num)).Sublist ((yV A).map (·.num)):=by rw[er];have:=(List.filter_sublist (p:=w6) (l:=(yV A).map<|F9 (fE<|pZ c) d r p)).map (·.num);rwa [EJ,show ((λx:vk=>x.num) ∘ F9 (fE<|pZ c) d r p)=(·.num) from funext λm=>YA ..]at this
 have kr:=by have:=sb.length_le;rwa [aF,aF,(oA A).length_eq]at this
 refine(rs,p,r,e,by rw[hA];exact(b8.mp n1).1,?_,I.ff,I.fa,I.fu,?_,?_,λy hy =>?_,?_,λx hx =>?_,?_,?_,?_,I.op)
 .rw[hA,k1];split<;>lia
 .show (fE c).rows.length=_;rw[ep,Hf];lia
 .show KR a f.inner (fE c).rows;rw[ep];exact KR.pop<|e ▸ I.kr
 .rw[er]at hy;let(m,hm,rfl):=kg.mp (vA.mp hy).1;let hm:=(oA A).subset hm;let h2:0<=m.place/\m.place<=d:=by
   rw[eX]at hm;obtain z|z:=aX.mp hm
   .have:=I.pl m z;unfold PlO at this;lia
   .rw[(hX2 m z).2];simp
  show 0<=_/\_<((fE c).rows.length:Int);rw[ep,Hf];unfold F9;split
  .show 0<=m.place-1/\m.place-1<_;lia
  .lia
 .show (_++(fE c).rows.map (·.number)).Nodup;rw[ep];exact List.Sublist.nodup (sb.append<|me _)<|List.Perm.nodup (pm.symm.append_right _) n1
 .let hx:x∈(D0 (pZ c) r p).rests.map (·.num)++(fE c).rows.map (·.number):=hx;rw[ep]at hx;show x<c.opened;exact l1 x<|(pm.append_right _).subset<|(sb.append<|me _).subset hx
 .show ((j+_+Du _ ((fE c).rows.map (·.bL)):Nat):Int)<=c.opened+1;rw[ep];lia
 .show ((_+(fE c).rows.length:Nat):Int)<=c.opened+1;rw[ep,Hf];split at k1<;>lia
 .show c.opened<=c.taken+1;lia
end
variable {f:vy}{m:Nat}
def SI.new:SI f g a (f,2 ^ f.q.length,g,0,0,[Oy],[]) 0 0 false:=
 (W,W,W,W,(λi r e=>by simp at e,λi p r d e=>by simp at e),λy b=>(by cases b),ż,λx c=>by rw[d8.mp c];solve_by_elim,by grind [Du,mF],Ÿ,Int.le_refl 0,W)
end K21
namespace K21
open PySem L2 K30
mutual
noncomputable def chW:Wi->Bool
 |.any=>Z'|.txt _=>Z'|.has s=>(chS s).all id|.both w=>(chA w).all id|.one w=>(chA w).any id
noncomputable def chA:Ws->!Bool
 |.nil=>[]|.cons w r=>chW w::chA r
noncomputable def chS:Ss->!Bool
 |.nil=>[]|.cons _ _ w r=>chW w::chS r
end
mutual
theorem Ef:∀(w:Wi) (m:Nat),vx w<=m->qE w<=900->gE m [uc w]=Y (.bl<|chW w)
 |w,0,h,_=>by cases w<;>simp[vx]at h
 |.any,m+1,_,_=>by solve_by_elim
 |.txt t,m+1,_,_=>by solve_by_elim
 |.has s,m+1,h,z=>by rw[vx]at h;rw[qE]at z;exact bq (qM (xP _)<|Eq.trans (Av<|jI W (by have:=BJ s;lia) (WT s m Ž Ž)) (Ji (f:=id))) W
 |.both w,m+1,h,z=>by rw[vx]at h;rw[qE]at z;exact bq (m8 (xP _)<|qM (xP _)<|Eq.trans (Av<|jI W (by have:=ua w;lia) (Rx w m Ž Ž)) (Ji (f:=id))) W
 |.one w,m+1,h,z=>by rw[vx]at h;rw[qE]at z;exact bq (m8 (xP _)<|m8 (xP _)<|qM (xP _)<|Eq.trans (Av<|jI W (by have:=ua w;lia) (Rx w m Ž Ž)) (RG (f:=id))) W
theorem Rx:∀(w:Ws) (m:Nat),Lh w<=m->yP w<=900->tD [M] (gN 0) gu (bF (gE m) Sc) (CG w)=Y ((chA w).map λb =>.bl b)
 |.nil,_,_,_=>rfl|.cons w r,m,h,z=>by rw[Lh]at h;rw[yP]at z;exact lX W (Ef w m ŷ Ž)<|Rx r m ŷ Ž
theorem WT:∀(s:Ss) (m:Nat),yA s<=m+1->xA s<=900->tD [M] (gN 0) gu (bF (gE m) bn) (kB s)=Y ((chS s).map λb =>.bl b)
 |.nil,_,_,_=>rfl|.cons b a w r,m,h,z=>by rw[yA]at h;rw[xA]at z;exact lX W (Ef w m ŷ Ž)<|WT r m ŷ Ž
end
def JF(z:Int):∃t,wI [.int z]=Y (.str t):=by
 let(a,b,_):=yC (xs:=[ar "",ar "x",ar "any",ar "\"",ar "\\",ar "\\q",ar "a b",ar "]"]) (cN z<|by trivial) (cv z ſ)
 exact(a,bq (qa W W)<|De<|mH W (B4 W W ſ) b)
def rwS{f:DF}{d:D}(e:f a=Y d)(k:Z3 n<|h<|a.set i<|Y d):Z3 n<|a_ (eY i f) h a:=let(o,q,z):=k;(o,qa e q,z)
def KW(z:Int){a b c d:Int}(i:0<=a/\a<=3)(h:0<=b/\b<=3)(g:0<=c/\c<=3)(f:0<=d/\d<=3):∃m:Int,qt [D.int a,.int b,.int c,.int d] (z%4)=Y (.int m)/\(m=a\/m=b\/m=c\/m=d)/\0<=m/\m<=3:=by
 rcases(by omega:z%4=0\/z%4=1\/z%4=2\/z%4=3) with e|e|e|e<;>rw[e]
 .exact(a,W,ż,i)
 .exact(b,W,ż,h)
 .exact(c,W,ż,g)
 .exact(d,W,ż,f)
def Bz(C E:!D->↑(D×!D))(n:Nat)(l:Int)(S:l=n)(i:!aM)(P:∀m,n=m+1->∀g:!Int,∃(c:!Tp) (f:!Int),E (qA g i<|l-1)=Y (.lst<|c.map ki,f.map D.int)/\1<=c.length/\c.length<=3/\∀p∈c,TB m p)(hw:∀m,n=m+1->∀g:!Int,∃(w:Wi) (f:!Int),C (qA g i<|l-1)=Y (uc w,f.map D.int)/\WB m w)(g:!Int):∃(w:Wi) (f:!Int),Fy 3 6 0 (zU C E) (qA g i l)=Y (uc w,f.map D.int)/\WB n w:=by
 suffices h:Z3 n _ by let(o,e,w,b,k,z):=h;exact(w,b,bq (sq (qL<|Dx W W<|zf g)<|qa (jN W) e) k,z)
 have zp:=W5 n;have q0:=cN (xD g) (show (8:Int)≠0 by decide);have q1:=cv (xD g) (show (0:Int)<8 by decide);generalize xD g%8=j at *
 generalize xD g=num at *
 cases B:(j==2||j==3) with
 |true=>let(H,U):=JF<|num/8;exact rwT (w :=.txt H) ((FV (IX W)<|IX W).trans<|congrArg Y B) (Dv<|HE W<|(kE<|lR W).trans U) W (trivial,trivial,by simp only[vx];lia,by simp only[qE];omega)
 |false=>
  refine rwN ((FV (IX W)<|IX W).trans<|congrArg Y B) ?_;simp at B;cases A:(decide (j<2)||l==0) with
  |true=>exact rwT (w :=.any) ((FV (Io W)<|IX W).trans<|congrArg Y A) W W (trivial,trivial,by simp only[vx];lia,by simp only[qE];omega)
  |false=>
   refine rwN ((FV (Io W)<|IX W).trans<|congrArg Y A) ?_;simp at A;obtain⟨m,Q⟩:∃m,n=m+1:=(n-1,Ž);subst Q;cases y:decide (j<6) with
   |true=>let(c,f,X,O,N,x):=P m W g.dropLast;let(r,q,K,J):=JK c x;have I:=Nat.mul_le_mul_right (1+zW m) N;exact rwT (w :=.has<|sS c) ((Io W).trans<|congrArg Y y) (mt2 W<|by rw[Fm];exact Dx W W X) W (r,((by cases c with|nil=>simp at O|cons a b=>(intro z;cases z)),q),by simp only[vx];lia,by simp only[qE,zW];grind)
   |false=>
    refine rwN ((Io W).trans<|congrArg Y y) ?_;simp at y;let(t,em,_,mz,m1):=KW (num/8) (a:=2) (b:=1) (c:=0) (d:=3) ſ ſ ſ ſ;refine rwS (d :=.int t) (mH W (jN<|lR W) em) ?_;let(G,f,el,R,v):=Ir (ρ:=[M,Y<|.lst<|g.dropLast.map D.int,Y<|.lst<|i.map D.str,Y<|.int l]) (τ:=gN 0) (fe:=nF C 1<|aC (eV 2)<|aC (e2 xG (eV 3) t3) aN) (i0:=1) (Pr:=λd=>∃w,d=uc w/\WB m w) (ds:=iJ 0 t.toNat) g.dropLast λd V F=>by let(w,s,T,u):=hw m W F;exact(_,uc w,_,s,W,Dx W W T,W,w,W,u)
    rw[e8]at R;let(wz,e,r,q,K,J):=VW G v;subst e;have I:=Nat.mul_le_mul_right (zW m) (show (CG wz).length<=3 by simp_all);have L:=abQ (s:=[M,Y 0,Y 1,Y 2]) (j:=0) (ρ:=([Y<|.lst<|g.dropLast.map D.int,Y<|.lst<|i.map D.str,Y<|.int l,Y<|.int num,Y<|.int j,Y<|.int t])) (uE (f:=eV 5) W mz Ž) (by rw[e8];lia) W el;rcases(by lia:j=6\/j=7) with e|e<;>subst e
    .exact rwE (w :=.both wz) (mt2 W L) W (r,q,by simp only[vx];lia,by simp only[qE,zW];lia)
    .exact rwE (w :=.one wz) (mt2 W L) W (r,q,by simp only[vx];lia,by simp only[qE,zW];lia)
def Sn(z:Int):∃b:Bool,qt [D.str<|ar "inner",D.str<|ar "own"] (z%2)=Y (.str<|CH b):=by
 obtain z|z:=Int.emod_two_eq z<;>rw[z]
 .exact(Z',W)
 exact Ÿ
def HG(v A:!D->↑(D×!D))(n:Nat)(m:Int)(c:!aM)(Q:c.length<=4)(hw:∀g:!Int,∃(w:Wi) (k:!Int),v (qA g c m)=Y (uc w,k.map D.int)/\WB n w)(g:!Int):∃(a:!Tp) (k:!Int),Fy 3 7 0 (KQ v A) (qA g c m)=Y (.lst<|a.map ki,k.map D.int)/\1<=a.length/\a.length<=3/\(∀p∈a,TB n p):=by
 let(G,em,O,H,m1):=KW (xD g) (a:=1) (b:=1) (c:=2) (d:=3) ſ ſ ſ ſ;let(B,L,f,a,t,r,q,e,u,l):=jv (τ:=gN 4) (g:=Cv v A) (ds:=iJ 0 G.toNat) (λi x=>∃(f:!Int) (a:!Tp) (t r q:↑D),x=[Y<|.lst<|f.map D.int,Y<|.lst<|c.map D.str,Y<|.int m,Y<|.lst<|a.map ki,t,r,q]/\a.length=i/\∀p∈a,TB n p)
  (ρ:=[Y<|.lst<|g.dropLast.map D.int,Y<|.lst<|c.map D.str,Y<|.int m,Y<|.lst [],M,M,M]) (g.dropLast,[],M,M,M,W,W,λs h=>(by cases h)) λj d x J E=>by
  let(f,a,t,r,q,e,u,l):=E;subst e;have R:=(jt J).1;let(w,C,K,I):=hw f.dropLast;have y:(0:Int)<c.length+1:=ż
  let(F,z,_):=yC (xs:=c++[ar "*"]) (cN (xD f/2)<|Int.ne_of_gt y) (by simp_all [cv,xD]);rw[bS]at z;let(b,N):=Sn<|xD f;let(o,e,S):=abK F;subst e;refine(_,_,W,sq (qL<|Dx W W<|zf f)<|qa (mH (Jj W W ŷ) (B4 (lR W) (oV ((kE W).trans<|by rw[<- aF (f:=D.str)];rfl) W) y) z) (acU (l:=a.map ki) W (mt3 (mH W (jN W) N) W<|Dx W W K) W ŷ),C,a++[(b,o,w)],_,_,_,by rw[bS];rfl,by simp[u],λs P =>?_)
  grind
 subst e;rw[e8]at u;have U:=Uj (o:=dh) (Dv (f:=eF sK) W) (Uj (o:=h_) (Dx (G:=aN) (j:=0) (ρ:=[Y<|.lst<|g.map D.int,Y<|.lst<|c.map D.str,Y<|.int m,Y<|.lst [],M,M,M]) W W (zf g)) (Dv (f:=eK<|.int 4) W) (YD ſ)) em;exact(a,f,bq (Mc (l:=[]) W (sq (aco U H Ž L) W)) W,Ž,Ż,l)
theorem AW(c:!aM)(q:c.length<=4):∀(n:Nat),
  (∀(a:Nat) (e:!Int),2*n+1<=a->∃(w:Wi) (b:!Int),gV a (qA e c (n:Int))=Y (uc w,b.map D.int)/\WB n w) /\
  (∀(a:Nat) (e:!Int),2*n+2<=a->∃(d:!Tp) (b:!Int),hU a (qA e c (n:Int))=Y (.lst<|d.map ki,b.map D.int)/\1<=d.length/\d.length<=3/\∀p∈d,TB n p):=by
 intro n;have i:∀(k:Nat),(∀(a:Nat) (e:!Int),2*k+1<=a->∃(w:Wi) (b:!Int),gV a (qA e c (k:Int))=Y (uc w,b.map D.int)/\WB k w)->(∀(a:Nat) (e:!Int),2*k+2<=a->∃(d:!Tp) (b:!Int),hU a (qA e c (k:Int))=Y (.lst<|d.map ki,b.map D.int)/\1<=d.length/\d.length<=3/\∀p∈d,TB k p):=by
  intro k r a e l;cases a with
  |zero=>trivial|succ f=>rw[hU];exact HG (gV f) (hU f) k (k:Int) c q (λg=>r f g Ż) e
 induction n with
 |zero=>
  have j:∀(a:Nat) (e:!Int),2*0+1<=a->∃(w:Wi) (b:!Int),gV a (qA e c ((0:Nat):Int))=Y (uc w,b.map D.int)/\WB 0 w:=by
   intro a e l;cases a with
   |zero=>trivial|succ f=>rw[gV];exact Bz (gV f) (hU f) 0 _ W c (λm h=>by cases h) (λm h=>by cases h) e
  exact Ÿ
 |succ m ih=>
  have j:∀(a:Nat) (e:!Int),2*(m+1)+1<=a->∃(w:Wi) (b:!Int),gV a (qA e c ((m+1:Nat):Int))=Y (uc w,b.map D.int)/\WB (m+1) w:=by
   intro a e l;cases a with
   |zero=>trivial|succ f=>
    rw[gV];have o:((m+1:Nat):Int)-1=(m:Int):=ż
    refine Bz (gV f) (hU f) (m+1) _ W c (λk h =>?_) (λk h =>?_) e
    .cases h;rw[o];exact λg=>ih.2 f g Ž
    .cases h;rw[o];exact λg=>ih.1 f g Ž
  exact Ÿ
def Y2{f:DF}{l:!Int}{z v:Int}(b:eV j a=Y (.lst<|l.map D.int))(i:f a=Y (.int z))(e:g a=Y (.int v))(d:0<=z)(c:z<l.length):JQ j f g a=Y (.nx<|a.set j<|Y<|.lst<|(l.set z.toNat v).map D.int):=by
 simp_all [JQ,gM,av,yo,EI]
abbrev WN(f:!Int)(t m:Int)(h g:!Int)(a b c d e:↑D):cf:=[Y<|.oE f,Y<|.int t,Y<|.int m,Y<|.lst<|h.map D.int,Y<|.lst<|g.map D.int,a,b,c,d,e]
def GF(c:!Int)(w:c.length<=63)(ka a:Int)(X:0<=ka)(U:ka<=2000)(mz:0<=a)(m1:a<=100):∃A:!Int,vq [.oE c,.int ka,.int a]=Y (A.map D.int)/\(A.length:Int)=a:=by
 have O:=bM (ZK c M<|Y 63) w;have J:e2 ik NE (eF<|f7 v6) [Y<|.oE c,Y<|.int ka,Y<|.int a,M,M,M,M,M,M,M]=Y (.lst<|(LR c M (Y 63)++[ka]).map D.int):=by rw[bS];exact Jj W W (by rw[aF];simp;lia)
 have G:1<=(LR c M (Y 63)++[ka]).length:=ż
 have F:(LR c M (Y 63)++[ka]).length<=64:=Ż
 generalize LR c M (Y 63)++[ka]=b at *
 let(I,z):=Es (xs:=b) (z:=0) ſ Ž;have T:gP Do (WN c ka a b [] M M M M M)=Y (I/50000%2==1):=IX<|jN<|lR<|mH W W z;cases H:(I/50000%2==1) with
 |true=>
  rw[H]at T;let(r,S,g,k,l,u,e,f,o):=jv (τ:=gN 6) (g:=CA) (ds:=iJ 0 (ka+a).toNat) (λi n=>∃(g k:!Int) (l u:↑D),n=WN c ka a b g (Y<|.lst<|k.map D.int) l u M M/\g.length=i-ka.toNat/\k.length=b.length) (ρ:=WN c ka a b [] (Y (.lst ((b.map (· / 100000)).map D.int))) M M M M) ([],b.map (· / 100000),M,M,W,ż,ż) λj d n y (g,k,l,u,e,f,o)=>by
   subst e;let(N,e):=jt y;subst e;have E:=cN (0+(j:Int)) (show (k.length:Int)≠0 by lia);have C:=cv (0+(j:Int)) (show (0:Int)<k.length by lia);let(v,q):=Es (xs:=k) E C
   suffices h:∃m:!Int,hZ (gP wE) (qh 4<|e2 h_ (e2 dh (eV 5)<|eV 7) jp) cX (WN c ka a b g (Y<|.lst<|k.map D.int) (Y<|.int<|0+(j:Int)) (Y<|.int<|(0+(j:Int))%k.length) M M)=Y (.nx<|WN c ka a b m (Y<|.lst<|k.map D.int) (Y<|.int<|0+(j:Int)) (Y<|.int<|(0+(j:Int))%k.length) M M)/\m.length=j+1-ka.toNat by let(m,Q,P):=h;exact(_,_,W,qa (d :=.int<|(0+(j:Int))%k.length) (B4 W (Wp W) Ž) (sq Q<|Y2 (v:=v/2147483587) W W (lR<|mH W W q) E C),_,_,_,_,W,P,by simp[o])
   have B:gP wE (WN c ka a b g (Y<|.lst<|k.map D.int) (Y<|.int<|0+(j:Int)) (Y<|.int<|(0+(j:Int))%k.length) M M)=Y (decide (ka<=0+(j:Int))):=nr<|(fN W W).trans W;cases p:decide (ka<=0+(j:Int)) with
   |true=>exact(g++[v%2147483587],(i_<|B.trans<|congrArg Y p).trans<|WU (v:=v%2147483587) W ž (jN<|mH W W q),by simp at p;simp[f];lia)
   |false=>exact(g,mI<|B.trans<|congrArg Y p,by simp at p;grind)
  subst e;rw[e8]at f;exact(g,bq (qa J (Mc (l:=[]) W (sqR T (Mc (l:=(b.map (· / 100000)).map D.int) (jI W (by rw[aF];lia)<|Qd (λi=>lR W) b) (sq ((jH<|uE (oV W W) Ž Ž).trans S) W))))) W,Ž)
 |false=>
  rw[H]at T;let(r,R,g,l,t,s,e,f):=jv (τ:=gN 6) (g:=Cz) (ds:=iJ 0 a.toNat) (λi n=>∃(g:!Int) (l t s:↑D),n=WN c ka a b g M l M t s/\g.length=i) (ρ:=WN c ka a b [] M M M M M) ([],M,M,M,W,W) λj d n y (g,l,t,s,e,f)=>by
   subst e;let(N,e):=jt y;subst e;have L:=cN (0+(j:Int)) (show (b.length:Int)≠0 by lia);have K:=cv (0+(j:Int)) (show (0:Int)<b.length by lia);let(v,q):=Es (xs:=b) L K;have n0:∀x:Int,0<=x%2147483647/\x%2147483647<2147483647:=λx=>(cN _ ſ,cv _ ſ)
   have n1:∀x:Int,0<=x%2147483629/\x%2147483629<2147483629:=λx=>(cN _ ſ,cv _ ſ)
   exact(_,_,W,qa (oV (WY<|BZ (oV W W) (oV W W) ž) W)<|qa (jN<|WY<|oV (jN<|mH W (B4 W (Wp W) Ž) q) W)<|qa (jN<|oV (BZ W W ŷ)<|BZ W W Ž)<|WU W ž<|jN<|BZ W W ŷ,_,_,_,_,W,by simp[f])
  subst e;rw[e8]at f;exact(g,bq (qa J<|Mc (l:=[]) W (m8 T<|sq ((jH<|uE W mz Ž).trans R) W)) W,Ž)
theorem Wt{ρ:cf}{τ:AU}{fe:DF}{Pr:D->Prop}:∀ {ds:!D},(∀d∈ds,∃a x,τ d ρ=Y a/\fe a=Y x/\Pr x)->∃b,tD ρ τ gu fe ds=Y b/\b.length=ds.length/\∀x∈b,Pr x
 |[],_=>([],W,W,λx h=>by cases h)
 | d::ds,h=>by
  let(a,x,l,k,f):=h d ay;let(b,j,c,i):=Wt λd e=>h d<|ax _ e
  refine(x::b,?_,by simp[c],λy g =>?_)
  .simp_all [tD,av,gu,if_true,gy]
  grind
abbrev DA:aM:=ar "abcdefghijklmnopqrstuvwxyz"
theorem BM(g:Array Nat)(d:g.size=0):∀(c:!aM) (b:Array Nat),(∀x∈c,x.cps.size=1)->(c.foldl (λa (p:aM)=>a++g++p.cps) b).size=b.size+c.length
 |[],b,_=>by trivial
 | x::c,b,h=>by
  rw[Ju,BM g d c _ λy e=>h y<|by simp_all]
  grind
theorem Gs(b:aM)(d:b.length=0):∀(c:!aM) (k:Nat),(∀x∈c,x.length=1)->c.foldl (λa x=>a+x.length+b.length) k=k+c.length
 |[],k,_=>rfl|x::c,k,h=>by rw[Ju,Gs b d c _ λy e=>h y (by simp_all),h x ay,d];simp;lia
def Uw{a:!D}(h:∀x∈a,∃c,x=.str ⟨#[c]⟩)(g:a.length<=100):∃x:aM,BW (.str<|ar "") (.lst a)=Y (.str x)/\x.length<=100:=by
 have l:a.all DI=true:=by rw[eB];intro x b;let(c,rfl):=h x b;rfl
 have e:∀x∈a.map xB,x.length=1:=λx b=>by let(d,i,rfl):=kg.mp b;let(c,rfl):=h d i;rfl
 have f:(ar "").length=0:=Ÿ
 have k:tG (ar "") (a.map xB)=a.length:=by unfold tG;rw[Gs _ f _ _ e];simp
 have j:(i6 (ar "")<|a.map xB).length<=100:=by
  show ((List.drop 1 _).foldl _ ((a.map xB).headD _).cps).size<=100;rw[BM _ f _ _ λx b=>e x<|List.mem_of_mem_drop b];cases a with
  |nil=>decide|cons d o=>have:=e (xB d) ż;have this:(xB d).cps.size=1:=this;simp[this];simp at g;lia
 have n:tG (ar "") (a.map xB)<=dZ:=by grind [gU]
 have m:(i6 (ar "")<|a.map xB).length<=dZ:=by grind [gU]
 simp_all [BW,if_pos,decide_eq_true]
def Ul(i:Int)(b:0<=i)(e:i<26):dh (.str DA) (.int i)=Y (.str ⟨#[97+i.toNat]⟩):=by
 have d:DA.length<=dZ:=Ų
 have a:DA.cps.toList=(cg 26).map (97 + ·):=Ÿ
 simp only[dh];rw[if_pos d,a];let(n,rfl):=gn b;have c:n<26:=Ž
 unfold qt;rw[yo b<|by trivial];simp[c]
def UY(L:aM):DG:=(a_ (eY 2<|eK<|.str L)<|a_ u8<|a_ zn ge)
def abO(L:aM)(m:∀i:Int,0<=i->i<26->dh (.str L) (.int i)=Y (.str ⟨#[97+i.toNat]⟩))(z:Int):∃x y:aM,∀k:Int,la 2 5 (UY L) [.int k,.int z]=Y (.str<|x++(⟨#[97+((k+z)%26).toNat]⟩:aM)++y):=by
 have n:=cN z (show (11:Int)≠0 by decide);have u:=cv z (show (0:Int)<11 by decide);let(t,p,h,g):=Wt (ρ:=[M,Y<|.str L,Y<|.int z]) (τ:=gN 0) (fe:=e2 dh (eV 1) Tl) (Pr:=λx=>∃c,x=.str ⟨#[c]⟩) (ds:=iJ 0 (z%11).toNat) λd o=>by let(j,l):=wK.mp o;let(l,e):=jt l;subst e;exact(_,_,W,(fN W<|jN<|oV (lR W)<|BZ W W ž).trans<|m _ (cN _ ſ)<|cv _ ſ,_,W)
 rw[e8]at h;let(b,q,A):=Uw g Ž;have f:b.length<=dZ:=by grind [gU]
 refine(R4 b M<|Y<|z/11%(b.length+1),R4 b (Y<|z/11%(b.length+1)) M,λk =>?_);have s:=Txt.slice_le b M<|Y<|z/11%(b.length+1);have r:=Txt.slice_le b (Y<|z/11%(b.length+1)) M;have w:∀c:Nat,(⟨#[c]⟩:aM).length=1:=λc=>rfl
 have v:∀(a:aM) (c:Nat),(a++(⟨#[c]⟩:aM)).length=a.length+1:=λa c=>by show (a.cps ++ #[c]).size=a.cps.size+1;simp
 exact bq (qa W<|qa ((fN W<|oP<|jI (s:=[M,Y 2,Y 1]) (ρ:=[Y<|.int k,Y<|.int z,Y<|.str L,M,M]) (uE (jN W) n Ž) (by grind [e8]) p).trans q) (qa (B4 (lR W) (oV (YI W f) W) ż) W)) (De<|RI (RI (abe W W (abu W) f) ((fN W<|jN<|oV W W).trans<|m _ (cN _ ſ)<|cv _ ſ)<|by grind [gU]) (abe W (abu W) W f)<|by grind [gU])
def Kr(z:Int):∃x y:aM,∀k:Int,wJ [.int k,.int z]=Y (.str<|x++(⟨#[97+((k+z)%26).toNat]⟩:aM)++y):=by
 exact abO _ Ul z
def Qc{a:cf}{g:Int->aM}{c:Int}:∀ {n:Nat},(∀k:Int,b (a.set 0<|Y<|.int k)=Y (.str<|g k))->tD a (gN 0) gu b (iJ c n)=Y (((cg n).map λ(k:Nat)=>g<|c+(k:Int)).map D.str):=by
 intro n h;unfold iJ;generalize cg n=l
 induction l with|nil=>rfl|cons k l ih=>exact lX W (h _) ih
def PV(z:Int):∃a:!aM,yE [.int z]=Y (a.map D.str)/\1<=a.length/\a.length<=4:=by
 let(x,y,h):=Kr z;refine(_,bq (JW<|jI (uE (oV W<|jN<|lR W) Ž Ž) (by grind [e8])<|Qc λk=>(GO W W).trans<|h k) W,by simp;lia,by simp;lia)
def MN(x y:aM)(z:Int)(k:Nat):aM:=x++(⟨#[97+(((k:Int)+z)%26).toNat]⟩:aM)++y
def Qf(b:j<5)(a:k<5)(h:MN x y z j=MN x y z k):j=k:=by
 have e:=congrArg Str.cps h;have e:x.cps ++ #[97+((j+z)%26).toNat]++y.cps=x.cps ++ #[97+((k+z)%26).toNat]++y.cps:=e;have e:=congrArg Array.toList e;simp at e;omega
abbrev eSg(e:!Int)(d:!aM)(f:!D)(a:Int)(b c:↑D):cf:=[Y<|.lst<|e.map D.int,Y<|.lst<|d.map D.str,Y<|.int 5,Y<|.lst f,Y<|.int a,b,c]
structure SGk(fs:!D)(a:Int):Prop where
 sg:SG fs a
 e:fs=[]\/1<=a
 n:fs=[]->a=0
 le:a<=5
theorem Mg{ns:!Int}{f:!aM}{g:!D}{v:Int}{c:↑D}(h:SGk g a)(B:1<=f.length)(A:f.length<=4)(L:g.length=i)(N:i<=1000):
  ∃j b w,Cw (eSg ns f g a (Y<|.int v) c)=Y (.nx<|eSg ns f j b (Y<|.int v) w)/\SGk j b/\j.length=i+1:=by
 have d:g.length<dZ:=by rw[gU];lia
 have m:(0:Int)<f.length:=Ž
 let(r,z,_):=yC (xs:=f) (cN (v/8)<|Int.ne_of_gt m) (cv (v/8) m);let(t,u):=JF<|v/8%3
 suffices q:∃j b,_=Y (DO.nx<|eSg ns f j b (Y<|.int v)<|Y<|.int<|v%8)/\SGk j b/\j.length=i+1 by let(j,b,E,x):=q;exact(j,b,_,qa (jN W) E,x)
 have n:xw (gP<|e2 nX (eV 3) Re) kt (eSg ns f g a (Y<|.int v)<|Y<|.int<|v%8)=Y (g.isEmpty||(decide (v%8<4)&&decide (a<5))):=FV (nr<|(fN W W).trans<|acx h.sg.sg)<|ZX (Io W)<|nr<|(fN W W).trans W;have p:xw (gP<|e2 NR (eV 6)<|eK<|.int 6) py (eSg ns f g a (Y<|.int v)<|Y<|.int<|v%8)=Y (decide (v%8<6)||decide (a<2)):=FV (Io W)<|Io W;have k:∀x:D,g++[x]≠[]:=λx=>by simp
 cases l:(g.isEmpty||(decide (v%8<4)&&decide (a<5))) with
 |true=>
  refine(_,_,(i_<|n.trans<|congrArg Y l).trans<|sq (pL W d<|HE W<|mH W (B4 (lR W) ((kE W).trans<|by rw[<- aF (f:=D.str)];rfl) m) z) (HQ<|oV W W),(h.sg.open r<|h.e.imp id Ÿ,.inr ?_,λe=>absurd e<|k _,?_),by simp;omega)
  .obtain e|e:=h.e
   .have:=h.n e;lia
   .lia
  .obtain e|⟨b,x,e⟩:=WZ g
   .have:=h.n e;simp_all
   .subst e;simp at l;lia
 |false=>
  have s:g≠[]:=λe=>by simp_all
  have y:1<=a:=h.e.resolve_left s;cases o:(decide (v%8<6)||decide (a<2)) with
  |true=>exact(_,_,(w_<|n.trans<|congrArg Y l).trans<|(i_<|p.trans<|congrArg Y o).trans<|pL W d<|HE W<|(kE<|jN<|lR W).trans u,(h.sg.text t Ž,.inr y,λe=>absurd e<|k _,h.le),by simp;omega)
  |false=>simp at o;exact(_,_,(w_<|n.trans<|congrArg Y l).trans<|(w_<|p.trans<|by simp;omega).trans<|sq (pL W d W)<|HQ<|aa4 W W,(h.sg.close (by trivial),.inr Ž,λe=>absurd e<|k _,by have:=h.le;lia),by simp;omega)
def OP(h:!Int)(g:!aM)(A:h.length<=500)(o:1<=g.length)(n:g.length<=4):∃f a,yD [.lst<|h.map D.int,.lst<|g.map D.str,.int 5]=Y f/\SGk f a/\f.length=h.length:=by
 let(m,r,f,a,b,c,e,H,k):=jv (τ:=gN 5) (ds:=h.map _) (λi l=>∃(f:!D) (a:Int) (b c:↑D),l=eSg h g f a b c/\SGk f a/\f.length=i) ([],0,M,M,W,(SG.nil,.inl W,λ_=>rfl,ſ),W) λj d l q (f,a,b,c,e,H,k)=>by subst e;let(v,p,e):=Iw q;subst e;have:=(aq.mp p).1;let(s,u,t,E,K,L):=Mg (ns:=h) (v:=v) (c:=c) H o n k Ž;exact(_,_,W,E,_,_,_,_,W,K,L)
 subst e;rw[aF]at k;exact(f,a,bq (Mc W<|qa W<|sq ((jH W).trans r) W) W,H,k)
def NH:Ss->Nat->Int->Int
 |.nil,_,a=>a|.cons _ _ w r,k,a=>NH r (k+1)<|if chW w then bO a (2 ^ k) else a
def ZV{f:Int->Int->Int}{m:Int}(a:eV i c=Y (.int m))(b:j c=Y (.int n)):wY i f j c=Y (.nx<|c.set i<|Y<|.int<|f m n):=by simp[wY,a,b]
theorem LD(q:D):∀(s:Ss) (k:Nat) (a:Int) (d c:↑D),yA s<=13->xA s<=900->k+fT s<=1000->∃j i,
  jw (UX 2 3) mU (((kB s).zipIdx k).map λp =>.tup [.int (p.2:Nat),p.1]) [Y q,Y<|.int a,d,c]=Y (.nx [Y q,Y<|.int<|NH s k a,j,i])
 |.nil,k,a,d,c,_,_,_=>(d,c,W)| .cons b f w r,k,a,d,c,h,z,l=>by
  rw[yA]at h;rw[xA]at z;rw[fT]at l;have t:=aeq<|(kE (f:=e2 dh (eV 3) f8) (a:=[Y q,Y<|.int a,Y<|.int k,Y<|.tup [.str<|CH b,.str<|su f,uc w]]) W).trans (Ef w 12 ŷ Ž);have g:mU [Y q,Y<|.int a,Y<|.int k,Y<|.tup [.str<|CH b,.str<|su f,uc w]]=Y (.nx [Y q,Y<|.int<|if chW w then bO a (2 ^ k) else a,Y<|.int k,Y<|.tup [.str<|CH b,.str<|su f,uc w]]):=by
   cases e:chW w with
   |false=>exact mI<|t.trans (by rw[e])
   |true=>exact(i_<|t.trans<|by rw[e]).trans<|ZV W<|(fN W W).trans<|XO Ž
  rw[kB,Hb,bR,K21.mL W g];exact LD q r _ _ _ _ Ž Ž Ž
def ZZ{s:Ss}(h:yA s<=13)(z:xA s<=900):jl [.lst<|kB s]=Y (.int<|NH s 0 0):=by
 let(g,f,e):=LD _ s 0 0 _ _ h z (by have:=BJ s;grind [vJ]);exact bq (qa W<|sq ((jH W).trans e) W) W
theorem RJ:∀(s:Ss) (k:Nat) (a:Int),Sm k a->Sm (k+fT s) (NH s k a)
 |.nil,k,a,h=>h|.cons b c w r,k,a,h=>by rw[fT,show k+(fT r+1)=k+1+fT r by lia];exact RJ r _ _ (by split;exact V9 h;exact OO h)
section
variable {f:vy}{v:Int}
def SI.VZ(I:SI f v n c w d b)(K:c.opened<=60):∃(q:!Int) (j:lC),(∀a:vy,a.inner=f.inner->cB [c6 { c with f:=a }]=Y (q.map D.int,c6 { j with f:=a }))/\SI f v n j (w+q.length) d b/\j.taken=c.taken/\j.opened=c.opened:=by
 obtain⟨t,g,e⟩:∃t g,c.rows=t::g:=by
  cases h:c.rows with
  |nil=>have:=I.len;simp_all
  |cons t g=>lia
 let(J,H,p,N):=OS (k:=f.q.length) g t t (λ_ h=>h) (λ_ h=>h) (e ▸ I.kr);let m:=I.cnt;let l:=I.Ya;rw[e]at m l;rw[bR,mF]at l;rw[bK]at m;let L:(c.rests.filter<|m9<|t::jS f.inner t g).length+(c.rests.filter λr=> (not<|m9 (t::jS f.inner t g) r)).length=c.rests.length:=FQ _ _;have s:∀a:vy,a.inner=f.inner->cB [c6 { c with f:=a }]=Y ((He (uN f.inner (2 ^ f.q.length) t g++(c.rests.filter<|m9<|t::jS f.inner t g).map (·.num))).map D.int,c6 { Xl c (t::jS f.inner t g) with f:=a }):=λa h=>by have s:=A7 (c:={ c with f:=a }) (t:=t) (a:=g) e Ż I.pl (by rw[h,I.fu,bf,aF];lia) Ž ŷ;rw[<- show c.full=2 ^ f.q.length from I.fu,<- h];exact s
 have k:(t::jS f.inner t g).length=c.rows.length:=by have:=congrArg List.length p;rw[aF,aF]at this;rw[e,bK,bK,this]
 have F:(t::jS f.inner t g).map (·.number)=c.rows.map (·.number):=Ż
 have i:((c.rests.filter λr=> (not<|m9 (t::jS f.inner t g) r)).map (·.num)++(t::jS f.inner t g).map (·.number)).Sublist (c.rests.map (·.num)++c.rows.map (·.number)):=by rw[F];exact((List.filter_sublist).map _).append<|me _
 refine(_,_,s,(I.ff,I.fa,I.fu,k.trans I.len,H,λy u =>?_,i.nodup I.nd,λx z=>I.lt x<|i.subset z,?_,?_,I.tk,I.op),W,W)
 .have:=I.pl y (vA.mp u).1;show 0<=y.place/\y.place<(t::jS f.inner t g).length;rw[k];exact this
 .show ((w+_+(c.rests.filter λr=> (not<|m9 (t::jS f.inner t g) r)).length+Du f.q.length (t.bL::(jS f.inner t g).map (·.bL)):Nat):Int)<=c.opened+1;rw[mF,(qJ _).length_eq,bf,aF]
  lia
 .show (((c.rests.filter λr=> (not<|m9 (t::jS f.inner t g) r)).length+(t::jS f.inner t g).length:Nat):Int)<=c.opened+1
  grind
end
def acy{c:lC}{a:vy}(h:a.inner=c.f.inner):D0 (pZ { c with f:=a }) r p={ D0 (pZ c) r p with f:=a }:=by
 have e:∀k,F9 (fE<|pZ { c with f:=a }) k r p=F9 (fE<|pZ c) k r p:=λk=>by
  funext x
  simp only[F9,YC,fE,pZ,h]
 unfold D0;rw[e];rfl
def acV{c:lC}:Ay a j { c with f:=b } x r={ Ay a j c x r with f:=b }:=by
 unfold Ay;split<;>rfl
def abD{c:lC}{b:vy}(h:b.inner=c.f.inner):Pw a j { c with f:=b } x p={ Pw a j c x p with f:=b }:=by
 simp only[Pw,NB,h]
variable {f:vy}{m:Nat}
theorem SI.aa8(S:FW f g a j l k)(I:SI f g a c m d b)(R:c.taken<=45)(s:m7){P:Bool}(n:gW (d,b) s=Y (Q,P)):
  ∃(q:!Int) (o:lC),(∀z:vy,FW z g a j l k->z.inner=f.inner->fW [c6 { c with f:=z },eI s]=Y (q.map D.int,c6 { o with f:=z }))/\SI f g a o (m+q.length) Q P/\o.taken=c.taken+1:=by
 let N:=I.len;let C:=I.tk;let G:=I.cnt;have hw:0<d->decide (1<c.rows.length)=true:=λh=>decide_eq_true Ż
 have t:c.rows[c.rows.length-1]?=Y (c.rows[c.rows.length-1]' Ż):=aE Ż;generalize (c.rows[c.rows.length-1]' ž)=r at t;let E:c.rows.getLast? = Y r:=by rw[Ob];exact t
 cases s with
 |cl=>
  by_cases i:0<d
  .simp only[gW,if_pos i,rP,AV]at n;let(rfl,rfl):=n;let(L,p,r,e,K,O,H):=I.close i;exact([],_,λz A h=>(IV (c:={ c with f:=z }) (hw i) (by show c.rows.getLast? = _;rw[e,List.getLast?_concat]) (by show c.rows.dropLast.getLast? = _;rw[e,x_,List.getLast?_concat]) K (by show (oW (fE c) r).length<64;lia)).trans (congrArg (λy=>Y<|LV []<|c6 y)<|acy<|h.trans<|congrArg vy.inner I.ff.symm),H,W)
  simp_all [gW]
 |tx x=>
  by_cases i:0<d
  .simp only[gW,if_pos i,rP,AV]at n;let(rfl,rfl):=n;let J:SI f g a (Ay a j (pZ c) (k x) r) m d b:=by
    unfold Ay;split
    .exact I.tk1.keep<|.trans (.atoms S (i:=c.rows.length-1) t _) (HK S _ _ _)
    .exact I.tk1
   have y:(Ay a j (pZ c) (k x) r).opened=c.opened/\(Ay a j (pZ c) (k x) r).taken=c.taken+1:=by unfold Ay;split<;>exact(W,W)
   let(q,o,e,w,u,B):=J.VZ (by rw[y.1];lia);exact(q,o,λz A h=>M7 (c:={ c with f:=z }) A.ok A.st (hw i) t (by show c.rows.length<1000;lia) ((congrArg (λy=>cB [c6 y])<|acV (c:=pZ c)).trans (e z h)),w,by rw[u,y.2])
  simp_all [gW]
 |op x=>
  by_cases i:0<d\/b=Z_
  .simp only[gW,if_pos i,rP,AV]at n;let(rfl,rfl):=n;let F:QE c (.op x)=true:=by
    show (decide (1<c.rows.length) || (not<|decide (0<c.opened)))=Z';obtain h|h:=i
    .rw[hw h];rfl
    .rw[<- I.op,h,Bool.not_false,Bool.or_true]
   let(q,o,e,w,u,B):=(I.open S (l x) r).VZ (by show c.opened+1<=60;lia);have v:=HN (x:=bO r.uZ<|bA r.ha c.f.inner) (HN (x:=l x) S.tV);rw[<- I.fa]at v;exact(q,o,λz A h=>M8 (c:={ c with f:=z }) A.ok A.st F E (by rw[h.trans<|congrArg vy.inner I.ff.symm];lia) (by show c.rows.length<1000;lia) ((congrArg (λy=>cB [c6 y])<|abD (c:=pZ c) (h.trans<|congrArg vy.inner I.ff.symm)).trans (e z h)),w,u)
  simp_all [gW]
end K21
namespace K21
open PySem L2 K30
def AlD:Nat->D->Prop
 |0,_=>False|n+1,d=>(∃s,d=.str s)\/(∃i,d=.int i)\/∃l:!D,(d=.lst l\/d=.tup l)/\l.length<=1000/\∀x∈l,AlD n x
def Vy{F:!D->↑D}{l:!D}(g:d=.lst l\/d=.tup l)(h:∀x∈l,F [x,x]=Y (.bl Z')):∃e,jw (gN 2) (wG F) (iJ 0 l.length) [Y d,Y d,M]=Y (.nx [Y d,Y d,e]):=by
 let(c,e,x,r):=jv (τ:=gN 2) (g:=wG F) (λi b=>∃e:↑D,b=[Y d,Y d,e]) (M,W) λj y b k (e,q)=>by
  subst q;let(a,q):=jt k;subst q;have f:dh d (.int<|0+j)=Y (l[j]'a):=by
   have:qt l (0+j)=Y (l[j]'a):=by simp_all [qt,yo]
   obtain e|e:=g<;>subst e<;>exact this
  exact(_,_,W,mI<|Fb<|(GO ((fN W W).trans f)<|(fN W W).trans f).trans<|h _<|Hc a,_,W)
 subst r;exact(x,e)
theorem Aw:∀(n:Nat) (d:D),AlD n d->lr n [d,d]=Y (.bl Z')
 |0,d,h=>h.elim| n+1,d,h=>by
  obtain⟨s,rfl⟩|⟨i,rfl⟩|⟨l,a,o,h⟩:=h
  .exact(show _=Y (D.bl<|s==s) from W).trans ż
  .exact(show _=Y (D.bl<|i==i) from W).trans ż
  .have k:=λx m=>Aw n x (h x m)
   let(e,L):=Vy (F:=lr n) a k;have b:bF iX v6 [Y d,Y d,M]=Y (.int l.length):=by obtain e|e:=a<;>subst e<;>rfl
   have j:bF iX Sc [Y d,Y d,M]=Y (.int l.length):=Ÿ
   have g:gw (K' "str"<|eV 1) [Y d,Y d,M]=Y false:=by obtain e|e:=a<;>subst e<;>rfl
   have f:gw (K' "int"<|eV 1) [Y d,Y d,M]=Y false:=by obtain e|e:=a<;>subst e<;>rfl
   have c:hZ (gw<|K' "list"<|eV 1) (hZ (lI<|gw<|K' "list"<|eV 0) Fa cX) (hZ (lI<|gw<|K' "tuple"<|eV 0) Fa cX) [Y d,Y d,M]=Y (.nx [Y d,Y d,M]):=by obtain e|e:=a<;>subst e<;>rfl
   exact(congrArg (Hr · RV)<|m8 g<|m8 f<|sq c<|m8 (nr<|(fN j b).trans<|show Y (D.bl<|not ((l.length:Int)==l.length))=_ by simp)<|sq ((jH<|uE b ż Ž).trans L) W).trans W
section
variable {A:!D->↑D}{B:!D->↑(!D)}
def Lq(h:(ar x==ar "has")=Z_)(k:gP (e2 (T9 Z_) (e2 dh (eV 0) o0) ce) [Y<|.tup<|kS x::r]=Y Z_):la 1 1 (jO A B) [.tup<|kS x::r]=Y (.tup<|kS x::r):=bq (m8 ((xP _).trans<|congrArg _ h)<|m8 k W) W
def Lp{x:!D}(n:x.length<=1000)(b:(ar k==ar "has")=Z_)(a:gP (e2 (T9 Z_) (e2 dh (eV 0) o0) ce) [Y<|.tup [kS k,.lst x]]=Y Z')(h:tD [M] (gN 0) gu (bF A Sc) x=Y y):la 1 1 (jO A B) [.tup [kS k,.lst x]]=Y (.tup [kS k,.lst y]):=bq (m8 ((xP _).trans Ż)<|qM a<|HE W<|oP<|jI W n h) W
end
mutual
theorem Rt:∀(w:Wi) (m:Nat),vx w<=m->qE w<=900->eN m [uc w]=Y (uc w)
 |w,0,h,_=>by cases w<;>simp[vx]at h
 |.any,m+1,h,_=>Lq ſ ź
 |.txt t,m+1,h,_=>Lq ſ ź
 |.has s,m+1,h,b=>by simp only[vx]at h;simp only[qE]at b;exact bq (qM (xP _)<|HE W<|oP<|M9 W<|Ru s m Ž Ž) W
 |.both w,m+1,h,b=>by simp only[vx]at h;simp only[qE]at b;exact Lp (by have:=ua w;lia) ſ ź (Jc w m Ž Ž)
 |.one w,m+1,h,b=>by simp only[vx]at h;simp only[qE]at b;exact Lp (by have:=ua w;lia) ſ ź (Jc w m Ž Ž)
theorem Jc:∀(w:Ws) (m:Nat),Lh w<=m->yP w<=900->tD [M] (gN 0) gu (bF (eN m) Sc) (CG w)=Y (CG w)
 |.nil,m,_,_=>rfl|.cons w r,m,h,b=>by simp only[Lh]at h;simp only[yP]at b;rw[CG];exact lX (ρ:=[Y<|uc w]) W (Rt w m ŷ Ž) (Jc r m ŷ Ž)
theorem Rv:∀(s:Ss) (m:Nat),yA s<=m+1->xA s<=900->tD [M,M,M] (WH 0 1 2) gu (gQ<|aC (eV 0)<|aC (eV 1)<|aC (bF (eN m) Db) aN) (kB s)=Y (kB s)
 |.nil,m,_,_=>rfl|.cons b a w r,m,h,z=>by simp only[yA]at h;simp only[xA]at z;rw[kB];exact lX W (aaN W W<|(kE W).trans<|Rt w m ŷ Ž)<|Rv r m ŷ Ž
theorem Ru:∀(s:Ss) (m:Nat),yA s<=m->xA s<=900->fV m [.lst<|kB s]=Y (kB s)
 |s,0,h,_=>by grind [D8]
 |s,m+1,h,z=>bq (JW<|jI (l:=kB s) W (by grind [BJ]) (Rv s m h z)) W
end
def Vr(l:!Tp)(h:∀p∈l,TB 2 p)(n:l.length<=3):pO [.lst<|l.map ki]=Y (l.map ki):=by
 let(e,d,c,b):=JK l h;have a:zW 2=25:=rfl
 grind [Fm,Ru,sS]
theorem Gg:∀ {a:!hW}{b:!D},cq a (b.map g) k=(cq a b k).map g
 |[],b=>by simp[cq]
 |_::_,[]=>by trivial
 | x::a,y::b=>by
  rw[bR,gY,gY];split
  .rfl
  .exact Gg
def Kx{b:!D}{m:Int}(h:(cq a b k).getD (.int 0)=.int m):(cq a (b.map o5) k).getD (.int 0)=.int m:=by
 rw[Gg];cases e:cq a b k with
 |none=>simp_all|some d=>simp_all [o5]
def JC(h:∀x∈l,o5 x=x):nL l=l:=by
 rw[i7];exact(gA h).trans<|List.map_id l
theorem Lz(n:Nat)(h:kO n d):MJ d=false:=by
 cases n with
 |zero=>exact h.elim|succ n=>let(a,e,w,_):=h;subst w;rfl
theorem HB:∀(n:Nat){d:D},kO n d->o5 d=d
 |0,_,h=>h.elim| n+1,d,h=>by
  let(a,e,w,_,_,k):=h;have f:∀ {l:!D},(∀x∈l,MJ x=Z_)->hdQ l=false:=fun {l} h=>by
   cases l with|nil=>rfl|cons x l=>solve_by_elim
  have q:=JC λc m=>by let(b,w,_,u):=k c m;subst w;rw[o5,if_neg (by grind [Lz]),JC λx m=>HB n<|u x m]
  have z:=f λc m=>by let(b,w,_):=k c m;subst w;rfl
  simp_all [o5,nL]
structure FI(f0 f:vy):Prop where
 q:f.q=f0.q
 le:f.cV=f0.cV
 as:f.asks=f0.asks
 inn:f.inner=f0.inner
 st:f.iO=f0.iO
 nm:∀k m,(cq f0.nk f0.nv k).getD (.int 0)=.int m->(cq f.nk f.nv k).getD (.int 0)=.int m
 tx:∀k m,(cq f0.tk f0.tv k).getD (.int 0)=.int m->(cq f.tk f.tv k).getD (.int 0)=.int m
def FI.refl(f:vy):FI f f:=(W,W,W,W,W,λa a h=>h,λa a h=>h)
def intD:D->Int
 |.int i=>i|_=>0
def M_(a:Ss)(R:OkS (λ_=>True) a)(T:yA a<=12)(E:xA a<=900)(B:fT a<=60):
  ∃f u d r o,f9 [.ins "Facts" [] [],.lst<|kB a]=Y (.cT,iK f)/\f.qd=.lst f.q/\f.q=kB a/\jl [.lst<|kB a]=Y (.int<|NH a 0 0)/\∀c,FI f c->FW c (NH a 0 0) u d r o/\∃i,o5 (iK c)=iK i/\FI f i:=by
 let(b,s,e,q,I,C,N):=UA a R T E;let(L,j,J):=I.cV;have K:∀x∈b.map pk,kO 12 x:=λx m=>by let(k,h,w):=kg.mp m;exact w ▸ C k h
 have G:(b.map pk).length<=60:=by rw[aF,N];exact B
 generalize b.map pk=A at *
 refine((s.q,.lst s.q,(s.bits:Int),s.nk,s.nv,s.tk,s.tv,s.iO,s.wR,s.inner,s.cV,A),λn x=>IT 12 n x 0 0 A,λn x=>Uk 12 n x (bA x s.inner) L,λn=>bO s.iO<|intD<|(cq s.nk s.nv<|bw n).getD<|.int 0,λt=>intD<|(cq s.tk s.tv<|bw t).getD<|.int 0,e,W,q,ZZ ž E,λc h=>(((λn x =>?_,λn x =>?_),(λn =>?_,λt =>?_),λn x=>V_ (QN A 0 0 (ſ,ſ)) Ž,λn x y h=>fit_le h A 0 0 0 K λ_ h=>h,V_ (RJ a 0 0 (ſ,ſ)) Ž),(c.q,o5 c.qd,c.bits,c.nk,c.nv.map o5,c.tk,c.tv.map o5,c.iO,c.wR,c.inner,c.cV,c.asks),?_,(h.q,h.le,h.as,h.inn,h.st,λk m x=>Kx<|h.nm k m x,λk m x=>Kx<|h.tx k m x)))
 .have S:c.asks=A:=h.as;exact(IS (f:=c) (n:=12) ſ (by rw[S];exact K) (by rw[S];lia) n x).trans (by rw[S])
 .have S:c.cV=s.cV:=h.le;have O:c.inner=s.inner:=h.inn;exact(MM (f:=c) (n:=12) ſ (S.trans j) J n x).trans (by rw[O])
 .let(m,g):=I.name n;have y:=h.nm (bw n) _ g;have z:c.iO=s.iO:=h.st;refine De ?_;show N0 (.int c.iO) ((cq c.nk c.nv<|bw n).getD<|.int 0)=Y _;rw[y,z,g];rfl
 .have g:∃m,(cq s.tk s.tv<|bw t).getD (.int 0)=.int m:=(I.text t).elim (λg=>(0,by rw[g];rfl)) λ(m,g)=>(m,by rw[g];rfl)
  let(m,g):=g;have y:=h.tx (bw t) _ g;show Y ((cq c.tk c.tv<|bw t).getD<|.int 0)=_;rw[y,g];rfl
 .have X:c.cV=s.cV:=h.le;have S:c.asks=A:=h.as;have F:hdQ s.cV=false:=by rw[j];cases L<;>rfl
  have D:hdQ A=false:=by
   cases y:A with
   |nil=>rfl|cons x l=>exact Lz 12<|K x (by rw[y];exact ay)
  have v:nL s.cV=s.cV:=JC λx m=>by rw[j]at m;let(l,m1,w):=kg.mp m;subst w;simp only[Uo,o5,nL,HB 12<|J l m1]
  have p:nL A=A:=JC λx m=>HB 12<|K x m
  simp only[iK,o5,nL,X,S,F,D,v,p,i7 c.nv,i7 c.tv];rfl
def NJ(z:Nat×Bool)(k:Nat)(s e:D)(a:!Int):Prop:=∃(f:vy) (g:Int) (u d:Int->Int->Int) (r o:aM->Int) (c:lC) (b:vy),(∀x,FI f x->FW x g u d r o)/\s=vL c a/\e=vL { c with f:=b } a/\FI f b/\SI f g u c a.length z.1 z.2/\c.taken=k
def NJ.take{z m:Nat×Bool}{s:D}{a:!Int}(S:NJ z k s A a)(h:k<=45)(t:m7)(n:gW z t=Y m):
  ∃(b:!Int) (y x:D),dJ [s,eI t]=Y (b.map D.int,y)/\dJ [A,eI t]=Y (b.map D.int,x)/\NJ m (k+1) y x (He<|a++b):=by
 let(f,g,u,d,r,o,c,i,J,e1,e2,F,I,G):=S;subst e1 e2;let(q,j,B,e,H):=I.aa8 (J f<|.refl f) Ž t n;have p:=e.Ya;have w:=e.tk;have L:(He<|a++q).length=a.length+q.length:=by rw[(qJ _).length_eq,bf]
 have l:(a++q).length<64:=ŷ
 have v:=B f (J f<|.refl f) W;have E:{ c with f:=f }=c:=by have:=I.ff;subst this;rfl
 have C:{ j with f:=f }=j:=by have:=e.ff;subst this;rfl
 rw[E,C]at v;exact(q,_,_,JG v l,JG (B i (J i F) F.inn) l,f,g,u,d,r,o,j,i,J,W,W,F,Ż,Ż)
def NJ.aaQ{s:D}{a:!Int}(S:NJ z k s b a):dk [s]=Y (a.map D.int)/\dk [b]=Y (a.map D.int):=by
 let(f,g,u,d,r,o,c,h,A,e1,e2,F,I,e):=S
 simp_all [OF]
def OR(l:!Tp)(h:∀p∈l,TB 2 p)(n:l.length<=3):∃(s:D) (T:D->Prop),cC [.ins "Sift" [] [],.lst<|l.map ki]=Y (.cT,s)/\T s/\(∀x,T x->T (o5 x))/\∀x,T x->NJ (0,Z_) 0 s x []/\∃v,x=.ins "Sift" ["coming","numbers"] v:=by
 let(y,g,w,t):=JK l h;have q:zW 2=25:=rfl;have L:fT (sS l)=l.length:=by rw[<- vJ,Fm,aF]
 let(f,u,d,r,o,e,b,j,i,A):=M_ _ g Ž ž Ž;have c:=Nv b (by grind [BJ,sS]) e (by rw[b,j];exact i);rw[Fm]at c;refine(_,λx=>∃a,x=vL (a,_,_,0,0,_,[]) []/\FI f a,SV c,(f,W,.refl f),λx (a,e,F) =>?_,λx (a,e,F) =>?_)
 .subst e;let(_,k,e2,m):=A a F;refine(k,?_,m);simp only[vL,c6,o5,nL,bR,VP,eD,hdQ,MJ,if_false,e2,jo];rfl
 .subst e;exact((f,_,u,d,r,o,_,a,λx X=>(A x X).1,W,W,F,SI.new,W),_,W)
abbrev tyk:!aM:=["sifts","taken","depth"]
def dR(b:!aM)(a:!D)(t e:Int):D :=.ins "Tray" tyk [.fM (b.map bw) a,.int t,.int e]
abbrev oT(ks:!aM)(ss:!D)(t e:Int):↑D:=Y<|.obj cj<|dR ks ss t e
theorem fh:∀ {a:!aM}{b:!D},x∉a->a.length=b.length->cq (a.map bw) b (bw x)=M
 |[],b,_,_=>by solve_by_elim
 |k::a,[],_,h=>by cases h
 |k::a,s::b,m,h=>by rw[bR,gY,if_neg (by grind),fh (λz=>m<|ax _ z)<|by simp_all]
theorem uT{s:D}:∀ {a:!aM}{b:!D}(i:Nat),a.Nodup->a[i]?=Y x->b[i]?=Y s->cq (a.map bw) b (bw x)=Y s
 |[],b,i,_,h,_=>by cases h
 |k::a,[],i,_,_,h=>by cases h
 |k::a,t::b,0,_,h,g=>by cases h;cases g;rw[bR,gY,if_pos W]
 |k::a,t::b,i+1,n,h,g=>by have m:x∈a:=x9 h;rw[bR,gY,if_neg<|by grind];exact uT i Ż h g
def X5{a:!aM}{b:!D}{s:D}(m:x∉a)(l:a.length=b.length)(n:a.length<=1000)(h:cC [.ins "Sift" [] [],.lst w]=Y (.cT,s)):
  CD [dR a b 0 0,.str x,.lst w]=Y (.cT,dR (a++[x]) (b++[s]) 0 0):=by
 have d:wO [0] [] SF [oT a b 0 0,Y<|.str x,Y<|.lst w]=Y false:=ź
 have c:wO [0] [] (UB Z_) [oT a b 0 0,Y<|.str x,Y<|.lst w]=Y false:=by
  have:wO [0] [] (UB Z_) [oT a b 0 0,Y<|.str x,Y<|.lst w]=Y (cq (a.map bw) b<|bw x).isSome:=by kernel_rfl
  simp_all [fh]
 have e:hJ "Sift" cC Db [oT a b 0 0,Y<|.str x,Y<|.lst w]=Y s:=by
  have:∀F,hJ "Sift" F Db [oT a b 0 0,Y<|.str x,Y<|.lst w]=(F _).bind _:=λF=>rfl
  rw[this,h];rfl
 have p:yj 0 "Tray" "sifts" cy (eV 1) (hJ "Sift" cC Db) [oT a b 0 0,Y<|.str x,Y<|.lst w]=Y (.nx [oT (a++[x]) (b++[s]) 0 0,Y<|.str x,Y<|.lst w]):=by
  have g:(a.map (bw:aM->hW)).length<dZ/\((a.map (bw:aM->hW)).any λq=>decide (q=bw x))=false:=by grind [aF,gU,List.any_eq_false]
  unfold yj;rw[e];refine(rfl).trans<|(if_pos ((W,g.1),g.2)).trans ?_;rw[show a.map _++[bw x]=(a++[x]).map bw by rw[bS];rfl];rfl
 exact bq (m8 d<|m8 c p) ź
section
variable {b:!aM}{f:!D}{x:aM}{w:!D}{s:D}
def DC(h:CD [dR b f 0 0,.str x,.lst w]=Y (.cT,dR (b++[x]) (f++[s]) 0 0)):yH [dR b f 0 0,kS "put",.str x,.lst w]=Y (.cT,dR (b++[x]) (f++[s]) 0 0):=by
 have e:∀F,cI "Tray" "put" cj F 0 (km (mP<|eV 2)<|km (mP<|eV 3) oH) [oT b f 0 0,Y<|kS "put",Y<|.str x,Y<|.lst w]=(F [dR b f 0 0,.str x,.lst w]).map λr=>(r.1,[Y<|.obj cj r.2,Y<|kS "put",Y<|.str x,Y<|.lst w]):=λF=>by kernel_rfl
 exact bq (srm ź<|(e _).trans<|by rw[h];rfl) ź
def HS(h:CD [dR b f 0 0,.str x,.lst w]=Y (.cT,dR (b++[x]) (f++[s]) 0 0)):rN [dR b f 0 0,kS "put",.str x,.lst w]=Y (.lst [],dR (b++[x]) (f++[s]) 0 0):=by
 have e:∀F,rF cj F 0 (aC (eV 1) np) [oT b f 0 0,Y<|kS "put",Y<|.str x,Y<|.lst w,Y .cT,Y .cT,M]=(F [dR b f 0 0,kS "put",.str x,.lst w]).map λr=>(r.1,[Y<|.obj cj r.2,Y<|kS "put",Y<|.str x,Y<|.lst w,Y .cT,Y .cT,M]):=λF=>by kernel_rfl
 exact bq (qa W<|qa W<|sq (qL<|(e _).trans<|by rw[DC h];rfl)<|m8 ź<|y_<|Dv (d :=.lst []) ź) ź
end
section
variable {b:!aM}{f:!D}{t e:Int}{x:aM}{q:D}{c:aM}{n:Int}{j:Nat}
def FF(h:ri [dR b f t e,.str x,q]=Y (.er c n))(k:Ww c=Y j):dC [dR b f t e,kS "put",.str x,q]=Y (.lst<|kdD j n):=by
 have a:mW [dR b f t e,kS "put",.str x,q]=Y (.er c n):=by
  show (lj [Y _,Y _,Y _,Y q]).bind _=_;have m:yZ (o_ "Tray" "put" ri (eV 0) np) [Y<|dR b f t e,Y<|kS "put",Y<|.str x,Y q]=Y (.ex c n):=by show (ri [dR b f t e,.str x,q]).map _=_;rw[h];rfl
  unfold lj a_;rw[i_ (by kernel_rfl),m];rfl
 show (mW _).bind _=_;rw[a];dsimp only [av];rw[k];rfl
def Uq(h:0<t):ri [dR b f t e,.str x,q]=Y (.er "Late" 0):=by
 show (wk [Y _,Y _,Y q]).bind _=_;have a:SF [Y<|dR b f t e,Y<|.str x,Y q]=Y (decide (0<t)):=ź
 unfold wk a_;rw[i_<|by simp_all];rfl
def Oz{s:D}(i:Nat)(c:b.Nodup)(h:b[i]?=Y x)(g:f[i]?=Y s):ri [dR b f 0 e,.str x,q]=Y (.er "Taken" 0):=by
 show (wk [Y _,Y _,Y q]).bind _=_;have a:UB Z_ [Y<|dR b f 0 e,Y<|.str x,Y q]=Y (cq (b.map bw) f<|bw x).isSome:=ź
 unfold wk;rw[lD<|mI<|by kernel_rfl];unfold a_;rw[i_<|a.trans<|by rw[uT i c h g];rfl];rfl
end
def Zj{F:!D->↑(!D)}{f:DF}{c m:aM}{k:!aM}{v:!D}(h:f ρ=Y (.ins c k v))(n:m∉k):qV c m F f ρ=F [.ins c k v]:=by
 unfold qV;rw[h];exact if_pos (W,n)
def WJ{F:!D->↑(!D)}{f:DF}{g:DL}{c m:aM}{k:!aM}{v l:!D}(h:f ρ=Y (.ins c k v))(n:m∉k)(a:g ρ=Y l):rH c m F f g ρ=F (.ins c k v::l):=by
 unfold rH;rw[h];exact(if_pos (W,n)).trans (by rw[a];rfl)
def RE{f:DF}(a:f e=Y x):aC f aN e=Y [x]:=by unfold aC;rw[a];rfl
section
variable {d:!aM}{f:!D}{t e:Int}{x y:aM}{q:D}{c:aM}{n:Int}{j:Nat}
def JX(a:mW [dR d f t e,.str b,.str x,q]=Y (.er c n))(r:rfT [Y<|dR d f t e,Y<|.str b,Y<|.str x,Y q,M,Y .cT,M]=Y Z_)(k:Ww c=Y j):dC [dR d f t e,.str b,.str x,q]=Y (.lst<|kdD j n):=by
 show (mW _).bind _=_
 simp_all
def Mp(s:m7)(h:xY s (decide (0<e)) (decide (0<t))=Z_):dC [dR d f t e,kS "take",.str x,eI s]=Y (.lst [kS "sign",.int t]):=by
 have b:rM [dR d f t e,eI s]=Y (.er "NoSign" t):=by
  show (yt [Y _,Y<|eI s]).bind Pu=_;have a:ccT [Y<|dR d f t e,Y<|eI s]=Y true:=by
   refine Fb (b:=Z_) ?_;have:∀F,bF F wr [Y<|dR d f t e,Y<|eI s]=F [eI s,.bl<|decide (0<e),.bl<|decide (0<t)]:=λF=>by kernel_rfl
   rw[this,Jd,h]
  unfold yt a_;rw[i_ a];rfl
 refine JX (c:= "NoSign") (j:=0) ?_ Ÿ W;show (lj [Y _,Y<|kS "take",Y<|.str x,Y<|eI s]).bind Pu=_;have m:yZ (o_ "Tray" "take" rM (eV 0) db) [Y<|dR d f t e,Y<|kS "take",Y<|.str x,Y<|eI s]=Y (.ex "NoSign" t):=by show (rM [dR d f t e,eI s]).map _=_;rw[b];rfl
 unfold lj;rw[lD<|mI<|by kernel_rfl];unfold a_;rw[i_ (by kernel_rfl),m];rfl
def Mo(m:x∉d)(l:d.length=f.length):dC [dR d f t e,kS "told",.str x,.cT]=Y (.lst [kS "part"]):=by
 have b:rL [dR d f t e,.str x]=Y (.er "NoPart" 0):=by
  show (yr [Y _,Y _]).bind _=_;have a:UB Z' [Y<|dR d f t e,Y<|.str x]=Y (not<|(cq (d.map bw) f<|bw x).isSome):=ź
  unfold yr a_;rw[i_<|a.trans<|by rw[fh m l];rfl];rfl
 refine JX (c:= "NoPart") (n:=0) ?_ ź W;show (lj [Y _,Y _,Y _,Y _]).bind _=_;have m:yZ (o_ "Tray" "told" rL (eV 0) Db) [Y<|dR d f t e,Y<|kS "told",Y<|.str x,Y .cT]=Y (.ex "NoPart" 0):=by show (rL [dR d f t e,.str x]).map _=_;rw[b];rfl
 unfold lj;rw[lD<|mI (by kernel_rfl),lD<|mI (by kernel_rfl),m];rfl
def JE{s:D}{a:!Int}{v:!D}(i:Nat)(c:d.Nodup)(h:d[i]?=Y x)(g:f[i]?=Y s)(z:s=.ins "Sift" ["coming","numbers"] v)(w:dk [s]=Y (a.map D.int)):tY [dR d f t e,.str x]=Y (a.map D.int):=by
 show (QG [Y _,Y _]).bind _=_;have b:UB Z' [Y<|dR d f t e,Y<|.str x]=Y (not<|(cq (d.map bw) f<|bw x).isSome):=ź
 have k:e2 BX (cz "Tray" "sifts"<|eV 0) (eV 1) [Y<|dR d f t e,Y<|.str x]=Y s:=(show _=cq _ f _ by kernel_rfl).trans<|uT i c h g;subst z;exact bq (m8 (b.trans<|by rw[uT i c h g];rfl)<|JW<|(Zj k ſ).trans w) W
end
def JO(l:!Tp):D:=((cC [.ins "Sift" [] [],.lst<|l.map ki]).map (·.2)).getD .cT
def Md(l:!Tp)(x:D):Prop:=∃T:D->Prop,T x/\(∀y,T y->T (o5 y))/\∀y,T y->NJ (0,Z_) 0 (JO l) y []/\∃v,y=.ins "Sift" ["coming","numbers"] v
abbrev Qs(l:!Tp):Prop:=(∀p∈l,TB 2 p)/\l.length<=3/\1<=l.length
def Kv{l:!Tp}(h:Qs l):cC [.ins "Sift" [] [],.lst<|l.map ki]=Y (.cT,JO l)/\Md l (JO l):=by
 let(s,T,e,t,c,k):=OR l h.1 h.2.1;have q:JO l=s:=by unfold JO;rw[e];rfl
 rw[q];exact(e,T,t,c,λy m=>Ż)
def Md.tw{l:!Tp}(h:Md l x):Md l<|o5 x:=let(T,t,c,k):=h;(T,c x t,c,k)
def SD(b:!aM)(a:!D)(t e:Int):o5 (dR b a t e)=dR b (a.map o5) t e:=by
 simp only[dR,o5,nL,i7]
structure PI(qs:!(!Tp))(i:Nat)(ss:!D):Prop where
 len:ss.length=i
 md:∀(j:Nat) (l:!Tp) (y:D),qs[j]?=some l->ss[j]?=some y->Md l y
def PI.tw{a:!D}(P:PI b i a):PI b i<|a.map o5:=(by rw[aF];exact P.len,λj l y h g=>by
 rw[aY]at g;let(z,c,e):=aj.1 g;subst e;exact(P.md j l z h c).tw)
def PI.snoc{d:!(!Tp)}{l:!Tp}{s:D}(P:PI d i e)(h:d[i]?=Y l)(m:Md l s):PI d (i+1)<|e++[s]:=(by rw[bf,P.len];rfl,λj k y a b=>by
 obtain c|c|c:=Nat.lt_trichotomy j i
 .rw[cw<|by rw[P.len];exact c]at b;exact P.md j k y a b
 .subst c;rw[qv (by rw[P.len];exact aV _),P.len]at b
  simp_all
 .rw[fH<|by rw[bf,P.len];simp;trivial]at b;cases b)
def Lv{f:DF}(a:f e=Y x)(b:g e=Y y)(c:h e=Y z)(d:k e=Y w):bF G (aC f<|aC g<|aC h<|aC k aN) e=G [x,y,z,w]:=by unfold bF aC;rw[a,b,c,d];rfl
def Iz{c:NO}{g:DG}(e:c a=Y (Z_,b)):BO c g cX a=Y (.nx b):=by unfold BO;rw[e];rfl
def V1{f:DM}(e:m2 o f g a=Y (.bl c,b)):Ff o f g a=Y (c,b):=by unfold Ff;rw[e];rfl
def af5{F:!D->↑(D×D)}{f g:DF}{l:!D}{s:Sk}{ρ:cf}{t d x y u:D}(a:gr s i ρ=Y t)(b:f ρ=Y x)(c:g ρ=Y y)(e:gM j ρ=Y l)(st:OE l=Z')(k:F [t,x,y,.lst l]=Y (d,u)):zE s F i j f g ρ=Y (o5 d,(bP i ρ).set i<|Y<|.obj s<|o5 u):=by
 unfold zE;rw[a,b,c,e];dsimp only [av];rw[if_pos st,k];rfl
def Kn{l:!aM}{i m:Nat}{x:aM}(nd:l.Nodup)(h:l[i]?=Y x)(k:m<=i):x∉l.take m:=λz=>by
 let(j,hj):=wK.mp z;have:=(aq.mp hj).1;rw[nh]at this;rw[kQ<|by lia]at hj;have:=(List.getElem?_inj ŷ nd).mp<|hj.trans h.symm
 lia
abbrev eP(f:!aM)(c:!D)(e:!aM)(d:!(!Tp))(a b:↑D):cf:=[oT f c 0 0,Y<|.lst<|e.map D.str,Y<|.lst<|d.map λl =>.lst<|l.map ki,a,b]
def O8{qs:!(!Tp)}{lb:!aM}{i:Nat}{ss:!D}{l l0:!Tp}{b:↑D}(P:PI qs i ss)(hq:∀l∈qs,Qs l)(h0:qs[0]?=Y l0)(h:qs[i]?=Y l)(nd:lb.Nodup)(n:lb.length=5)(hi:i<5)(hb:bP 0 [b]=[b]):
  ∃ss' b',Cy (eP (lb.take i) ss lb qs (Y<|.int<|0+(i:Int)) b)=Y (.nx<|eP (lb.take<|i+1) ss' lb qs (Y<|.int<|0+(i:Int)) b')/\PI qs (i+1) ss'/\bP 0 [b']=[b']:=by
 have Q:=hq l<|x9 h;let(e1,I):=Kv Q;have lx:lb[i]?=Y lb[i]:=aE ž;generalize lb[i]=x at lx;have tk:lb.take (i+1)=lb.take i++[x]:=by rw[List.take_succ,lx];rfl
 have A:=iT (show (lb.map D.str)[i]?=Y (.str x) by rw[aY,lx];rfl);have B:=iT (show (qs.map λl=>D.lst<|l.map ki)[i]?=Y (.lst<|l.map ki) by rw[aY,h];rfl);have C:=iT (show (qs.map λl=>D.lst<|l.map ki)[0]?=Y (.lst<|l0.map ki) by rw[aY,h0];rfl);have z:(0:Int)+(i:Int)=(i:Int):=ż
 rw[z];have S1:=HS<|X5 (Kn nd lx<|aV i) (by rw[nh,P.len];lia) (by rw[nh];lia) e1;have st:OE (l.map ki)=true:=by
  cases l with
  |nil=>exact absurd Q.2.2 ſ
  |cons p l=>rfl
 have P2:PI qs (i+1)<|(ss++[JO l]).map o5:=(P.snoc h I).tw;have g1:(lb.take i++[x])[i]?=Y x:=by rw[<- tk,kQ (by omega),lx]
 let(y,g2):=((_,aE<|by rw[P2.len];omega):∃y,((ss++[JO l]).map o5)[i]?=Y y);have r:=FF (q :=.lst<|l0.map ki) (Oz (e:=0) i (by rw[<- tk];exact(rQ _ _).nodup nd) g1 g2) (j:=2) W;have c:=af5 (s:=cj) (i:=0) (j:=4) (f:=cn "put") (g:=e2 dh (eV 1)<|eV 3) (ρ:=eP (lb.take i) ss lb qs (Y<|.int i)<|Y<|.lst<|l.map ki) ź W (mH W W A) W st S1;rw[SD]at c;refine(_,Y<|.lst<|l.map ki++[.tup [kS "own",kS "a",.tup [kS "any"]]],?_,P2,W);rw[tk];exact Mc (l:=l.map ki) (M9 (RE<|mH W W B)<|Vr l Q.1 Q.2.1) (sq (ρ':=eP (lb.take i++[x]) ((ss++[JO l]).map o5) lb qs (Y<|.int i)<|Y<|.lst<|l.map ki) (Iz<|V1<|Uj c (Dv W) W) (sq (pL (l:=l.map ki) W (by rw[aF,gU];have:=Q.2.1;omega) W) (mI<|nM (ρ':=[Y<|dR (lb.take i++[x]) ((ss++[JO l]).map o5) 0 0,Y<|.lst<|lb.map D.str,Y<|.lst<|qs.map λl =>.lst<|l.map ki,Y<|.int i,Y<|.lst<|l.map ki++[.tup [kS "own",kS "a",.tup [kS "any"]]]]) W (nr<|(fN ((Lv W W (mH W W A)<|mH W W C).trans r) W).trans W))))
def HU{c:!(!Tp)}{g:!aM}(s:∀l∈c,Qs l)(x:c.length<=3)(r:g.Nodup)(n:g.length=5):
  ∃f,rO [dR [] [] 0 0,.lst<|g.map D.str,.lst<|c.map λl =>.lst<|l.map ki]=Y (.bl Z',dR (g.take c.length) f 0 0)/\PI c c.length f:=by
 let(p,v,f,a,b,e,P,o):=jv (τ:=gN 3) (λi m=>∃(f:!D) (a b:↑D),m=eP (g.take i) f g c a b/\PI c i f/\bP 0 [b]=[b]) ([],M,M,W,(W,λj l y j h=>by cases h),W) λj d m u (f,a,b,e,P,o)=>by subst e;let(t,e):=jt u;subst e;let(q,z,E,w,k):=O8 P s (aE Ž) (aE t) r n Ž o;exact(_,_,W,E,_,_,_,W,w,k)
 subst e;rw[e8]at P;refine(f,?_,P);show (Cc<|eP [] [] g c M M).bind (HW cj)=_;refine bq (sq ((jH<|uE (z:=(c.length:Int)) ((kE W).trans<|by rw[<- aF];rfl) ż Ž).trans v) (y_<|Dv W)) ?_;rw[e8];exact ź
def dM(s:m7)(e:Int):Int:=match s with|.op _=>e+1|.tx _=>e|.cl=>e-1
def zL{c:!aM}{b:!D}(s:m7)(n:b.length<=1000)(f:Sa "Sift" "take" dJ [eI s] (c.map bw) b=Y (d,a)):
  C5 o8 (v_ "Tray" "sifts" "Sift" "take" pD dJ 0 1) [oT c b t e,Y<|eI s]=Y (.rf 2 [oT c a t e,Y<|eI s,Y<|.obj o8<|.lst d]):=by
 unfold C5 v_;rw[show rT _ _ 0 _=Y (yw,tyk,[.fM (c.map bw) b,.int t,.int e],.fM _ b) by kernel_rfl,show eV 1 _=Y _ from W];dsimp only [av];rw[if_pos (by kernel_rfl,by grind [gU],by simp_all),f];cases s<;>rfl
theorem E9{ks:!aM}{ss ss' ps:!D}{t e:Int}(s:m7)(h:xY s (decide (0<e)) (decide (0<t))=Z')(n:ss.length<=1000)(b:Sa "Sift" "take" dJ [eI s] (ks.map bw) ss=Y (ps,ss')):
  rh [dR ks ss t e,eI s]=Y (.lst ps,dR ks ss' (t+1)<|dM s e):=by
 have a:wO [0] [] ccT [oT ks ss t e,Y<|eI s]=Y false:=by
  unfold wO;rw[show Bt [0] [] _=[Y _,Y<|eI s] from W];refine Fb (b:=Z') ?_;have:∀F,bF F wr [Y<|dR ks ss t e,Y<|eI s]=F [eI s,.bl<|decide (0<e),.bl<|decide (0<t)]:=λF=>by kernel_rfl
  rw[this,Jd,h]
 have c:gd Z_ 0 "Tray" "taken" (λi j=>i+j) t3 [oT ks ss t e,Y<|eI s]=Y (.nx [oT ks ss (t+1) e,Y<|eI s]):=ź
 cases s with
 |op x=>exact bq (m8 a<|sq c<|sq (ρ':=[oT ks ss (t+1)<|e+1,Y<|eI<|.op x]) ((i_ ź).trans ź) (m8 ź<|zL (.op x) n b)) ź
 |tx x=>exact bq (m8 a<|sq c<|m8 ź<|m8 ź<|zL (.tx x) n b) ź
 |cl=>exact bq (m8 a<|sq c<|m8 ź<|sq (ρ':=[oT ks ss (t+1)<|e-1,Y<|eI .cl]) ((i_ ź).trans ź) (zL .cl n b)) ź
def NJ.ins{s:D}{a:!Int}(S:NJ z k s b a):(∃v,s=.ins "Sift" ["coming","numbers"] v)/\∃v,b=.ins "Sift" ["coming","numbers"] v:=by
 let(f,g,u,d,r,o,c,h,A,e1,e2,F,I,e):=S;exact((_,e1),_,e2)
def NJ.bound{s:D}{a:!Int}(S:NJ z k s b a):a.length<=k+1:=by
 let(f,g,u,d,r,o,c,h,A,e1,e2,F,I,e):=S;have:=I.Ya;have:=I.tk
 lia
inductive SL (z:Nat×Bool) (k:Nat):!D->!D->!(!Int)->Prop
 |nil:SL z k [] [] []
 |cons {s s':D}{a:!Int}{ls ss:!D}{as:!(!Int)}:NJ z k s s' a->SL z k ls ss as->SL z k (s::ls) (s'::ss) (a::as)
def SL.len{z:Nat×Bool}{k:Nat}{c b:!D}{a:!(!Int)}(h:SL z k c b a):c.length=a.length/\b.length=a.length:=by
 induction h with|nil=>trivial|cons _ _ ih=>simp_all
def prD(k:aM)(b:!Int):D :=.tup [.str k,.lst<|b.map D.int]
def A3(ks:!aM)(a:!(!Int)):!D:=(ks.zip a).map λp=>prD p.1 p.2
inductive TK (t:D):!D->!(!Int)->!D->Prop
 |nil:TK t [] [] []
 |cons {s s':D}{b:!Int}{ls ls':!D}{bs:!(!Int)}:dJ [s,t]=some (b.map D.int,s')->(∃v,s=.ins "Sift" ["coming","numbers"] v)->TK t ls bs ls'->TK t (s::ls) (b::bs) (s'::ls')
theorem SL.take{z j:Nat×Bool}{ls ss:!D}{i:!(!Int)}(S:SL z k ls ss i)(h:k<=45)(t:m7)(n:gW z t=Y j):∀(ks:!aM),ks.length=ss.length ->
  ∃(g:!(!Int)) (d ss':!D) (f:!(!Int)),Sa "Sift" "take" dJ [eI t] (ks.map bw) ss=Y (A3 ks g,ss')/\TK (eI t) ls g d/\SL j (k+1) d ss' f/\g.length=i.length/\f.length=i.length/\∀b∈g,b.length<=1000:=by
 induction S with
 |nil=>
  intro ks e;cases ks with
  |nil=>exact([],[],[],[],W,.nil,.nil,W,W,λb m=>by cases m)
  |cons=>cases e
 |@cons s F a ls ss i S R ih=>
  intro ks e;cases ks with
  |nil=>cases e|cons x ks=>
   let(g,d,ss',f,y,w,u,r,q,G):=ih ks Ż;let(b,E,C,B,A,l):=S.take h t n;let(p,v,o):=S.ins;refine(_,_,_,_,?_,.cons B p w,.cons l u,by simp[r],by simp[q],λc m =>?_)
   rotate_left
   .obtain e|m:=aT.mp m
    .have:=l.bound;rw[(qJ _).length_eq,bf]at this;omega
    simp_all
   subst o;rw[bR,Sa,A,y];rfl
def SL.get{b:!(!Int)}(S:SL z k e c b):∀(j:Nat),j<b.length->∃(s d:D) (a:!Int),e[j]?=Y s/\c[j]?=Y d/\b[j]?=Y a/\NJ z k s d a:=by
 induction S with
 |nil=>intro j h;cases h
 |cons S R ih=>
  intro j h;cases j with
  |zero=>exact(_,_,_,W,W,W,S)|succ j=>exact ih j Ż
abbrev Zv:DM:=tq am
abbrev eDu(b:!aM)(d a:↑D)(t:m7):cf:=[d,Y<|.lst<|b.map D.str,a,Y<|eI t]
def ae8{c m:aM}{h:!(aM×Sk)}{F:!D->↑(D×D)}{g:DL}{f v l:!D}{ρ:cf}{ks:!aM}{d x:D}{z:DF}{n:Int}(a:gr (.li<|.fs c h) j ρ=Y (.lst f))(b:z ρ=Y (.int n))(i:Be f.length n=Y k)(q:f[k]?=Y (.ins c ks v))(w:m∉ks)(o:g ρ=Y l)(r:F (.ins c ks v::l)=Y (d,x)):uR c m h F j z g ρ=Y (d,(bP j ρ).set j<|Y<|.obj (.li<|.fs c h)<|.lst<|f.set k x):=by
 unfold uR;rw[a,b];show Hr (Be f.length n) _=_;rw[i];show (match f[k]? with|some (.ins a d i)=>_|_=>M)=_;rw[q];exact(if_pos (W,w)).trans (by rw[o];show lu _ (F _)=_;rw[r];rfl)
def U'{a rs:!D}{s:D}{b:!Int}{v:!D}(j:d[a.length]?=Y x)(h:dJ [s,eI t]=Y (b.map D.int,c))(f:s=.ins "Sift" ["coming","numbers"] v):
  Zv (eDu d (Y<|.int (a.length:Int)) (Y<|.obj (.li cy)<|.lst<|a++s::rs) t)=Y (prD x b,eDu d (Y<|.int (a.length:Int)) (Y<|.obj (.li cy)<|.lst<|a++c::rs) t):=by
 subst f;have i:vo [.ins "Sift" ["coming","numbers"] v,eI t]=Y (.lst<|b.map D.int,c):=by unfold vo;rw[h];rfl
 have m:=ae8 (h:=pD) (j:=2) (z:=eV 0) (g:=aC (eV 3) aN) (ρ:=eDu d (Y<|.int (a.length:Int)) (Y<|.obj (.li cy)<|.lst<|a ++ .ins "Sift" ["coming","numbers"] v::rs) t) (k:=a.length) (m:= "take") ź W (by rw[yo (by simp)<|by rw[bf,bK];lia];rfl) (show (a ++ .ins "Sift" ["coming","numbers"] v::rs)[a.length]?=_ by simp) ſ (RE W) i;rw[show (a++D.ins "Sift" ["coming","numbers"] v::rs).set a.length c=a++c::rs by simp]at m;exact mt2 (mH W W<|iT<|show (d.map D.str)[a.length]?=Y (.str x) by simp_all)<|m.trans (by cases t<;>rfl)
theorem Va{lb:!aM}{i:!D}(T:TK (eI t) i l g):∀(f:!D) (c:!aM) (a d:↑D),c.length=i.length->(∀j,j<c.length->lb[f.length+j]?=c[j]?) ->
  r_ (eDu lb d a t) (gN 0) Zv 2 (.li cy) ((List.range' f.length i.length).map λ(k:Nat)=>D.int (k:Int)) (.lst<|f++i)=Y (A3 c l,.lst<|f++g):=by
 induction T with
 |nil=>
  intro f c a d e h;cases c with
  |nil=>rfl|cons=>cases e
 |@cons s m b o n l w u T ih=>
  intro f c a d e h;cases c with
  |nil=>cases e|cons x c=>let(v,p):=u;have q:=U' (rs:=o) (by simpa using h 0 ż) w p;have r:=ih (f++[m]) c a d Ż (λj y=>by have:=h (j+1) Ż;rw[bf,c_,Nat.add_assoc,Nat.add_comm 1 j];simpa using this);rw[bf,c_,bU,bU]at r;rw[bK,List.range'_succ,bR,r_,show gN 0 _ _=Y (eDu lb _ _ t) from W];dsimp only [av];rw[q];dsimp only [av];rw[show gr _ 2 _=Y _ by kernel_rfl];dsimp only [av];rw[r];rfl
abbrev Ci(c:!aM)(a:!D)(t e:Int)(b:!D)(lb:!aM)(s:m7)(j i h g f d:↑D):cf:=[oT c a t e,Y<|.obj (.li cy)<|.lst b,Y<|.lst<|lb.map D.str,Y<|eI s,j,i,h,g,f,d]
def O3(n:Nat):iJ 0 n=(List.range' 0 n).map λ(k:Nat)=>D.int (k:Int):=by
 simp_all [iJ,List.range_eq_range',gA]
def Zu{ks:!aM}{ss:!D}{t e:Int}{a:!D}{lb:!aM}{s:m7}(T:TK (eI s) a c b)(n:a.length<=lb.length)(d:a.length<=1000):
  k_ 4 P8 (Ci ks ss t e a lb s M M M M M M)=Y (.nx<|Ci ks ss t e b lb s (Y<|.lst<|A3 (lb.take a.length) c) M M M M M):=by
 refine(qL (σ:=Ci ks ss t e b lb s M M M M M M) ?_).trans W;unfold P8 uS;have f:AQ ww (Ci ks ss t e a lb s M M M M M M)=Y (iJ 0 a.length):=uE (z:=a.length) (kA Ÿ ((kE W).trans W) W) ż Ž;have r:=Va (lb:=lb) T [] (lb.take a.length) (Y<|.obj (.li cy)<|.lst a) M Ż (λj g=>Ż);rw[f];dsimp only [av];rw[if_pos (by rw[e8,gU];omega),show gr _ 1 _=Y _ by kernel_rfl];dsimp only [av];rw[show mC _ _=eDu lb M _ s by cases s<;>rfl,O3];have r:r_ _ _ Zv 2 _ ((List.range' 0 a.length).map _) _=Y _:=r;rw[r];cases s<;>rfl
theorem LB:∀(a:!aM) (d:!(!Int)),(∀b∈d,b.length<=1000)->Ew 0 (A3 a d)=Y (A3 a (d.map (· ++ [0])))
 |[],d,_=>by solve_by_elim
 |k::a,[],_=>rfl|k::a,b::d,h=>by show Ew 0 (prD k b::A3 a d)=Y (prD k _::A3 a _);unfold prD;rw[Ew,if_pos (by rw[aF,gU];have:=h b ay;lia),(LB a d λc m=>h c<|by simp_all)];simp
def X_(c:!aM)(d:!(!Int))(n:c.length<=1000)(h:∀b∈d,b.length<=1000):AlD 40<|.lst<|A3 c d:=by
 refine .inr<|.inr (_,.inl W,by grind [A3,aF,oZ],λx m =>?_);let(p,g,e):=kg.mp m;subst e;refine .inr<|.inr (_,.inr W,ż,λy a =>?_);obtain e|a:=aT.mp a
 .exact .inl (_,e)
 .rw[d8.mp a];refine .inr<|.inr (_,.inl W,by rw[aF];exact h _ (vz g).2,λi f =>?_);let(j,_,e):=kg.mp f;exact .inr<|.inl (j,e.symm)
def Uz(a:!Int)(n:a.length<=1000):AlD 40 (.lst<|a.map D.int) :=.inr<|.inr (_,.inl W,Ż,λi b=>let(j,_,e):=kg.mp b;.inr<|.inl (j,e.symm))
def ae7{c m:aM}{s f:Sk}{F:!D->↑(D×D)}{g:DL}{v l:!D}{ρ:cf}{ks:!aM}{d x:D}(a:gr s j ρ=Y (.ins c ks v))(w:m∉ks)(n:ρ.length<1000)(o:g ρ=Y l)(r:F (.ins c ks v::l)=Y (d,x)):zD c m s f F j g ρ=Y (d,(bP j ρ).set j<|Y<|.obj s x):=by
 unfold zD;rw[a];exact(if_pos (W,w,n)).trans (by rw[o];show lu _ (F _)=_;rw[r];rfl)
section
variable {c d:!aM}{f l g i:!D}{t e:Int}{s:m7}{j:!D}
def QJ(h:rh [dR c f t e,eI s]=Y (.lst i,dR c l (t+1)<|dM s e)):
  C4 5 o8 (zD "Tray" "take" cj o8 rh 0 db) (Ci c f t e g d s (Y<|.lst j) M M M M M)=Y (.nx<|Ci c l (t+1) (dM s e) g d s (Y<|.lst j) (Y<|.obj o8<|.lst i) M M M M):=by
 have m:=ae7 (c:= "Tray") (m:= "take") (s:=cj) (f:=o8) (j:=0) (g:=aC (eV 3) aN) (ρ:=Ci c f t e g d s (Y<|.lst j) M M M M M) ź ſ (by show 10<1000;decide) (RE W) h;unfold C4;rw[m];cases s<;>rfl
def S_{k:!aM}(n:k.length<=1000)(h:∀b∈a,b.length<=1000):wO [5] [] (lI<|gw<|bF vr<|aC (eV 5)<|aC (eV 4) aN) (Ci c f t e g d s (Y<|.lst<|A3 k a) (Y<|.obj o8<|.lst<|A3 k a) M M M M)=Y false:=by
 exact Fb (b:=Z') ((GO W W).trans<|Aw 40 _<|X_ k a n h)
def M4{a:!(!Int)}{m:↑D}(n:m=Y (.lst j))(h:∀b∈a,b.length<=1000):yi 5 6 7 0 (Ci c f t e g d s m (Y<|.obj o8<|.lst<|A3 k a) M M M M)=Y (.nx (Ci c f t e g d s m (Y (.obj o8 (.lst (A3 k (a.map (· ++ [0])))))) M M M M)):=by
 subst n;unfold yi;rw[show gr o8 5 _=Y (.lst _) by kernel_rfl];dsimp only [av];rw[LB k a h];cases s<;>rfl
def RF(b:a=Y (.lst j))(n:i.length<=1000):C7 5 "a" (Ci c f t e g d s a (Y<|.obj o8<|.lst i) M M M M)=Y (.nx<|Ci c f t e g d s a (Y<|.obj o8<|.lst<|i++[.tup [kS "a",.lst []]]) M M M M):=by
 subst b;unfold C7;rw[show gr o8 5 _=Y (.lst i) by kernel_rfl];dsimp only [av];rw[if_pos<|by rw[gU];lia];cases s<;>rfl
end
section
variable {ks lb:!aM}{ss ls ps:!D}{t e:Int}{s:m7}{du:!D}{x:aM}{y f:D}{a:!Int}{v g:!D}{j:Nat}{c:↑D}
def L_(i:c=M\/∃l:!D,c=Y (.lst l))(d:ks.Nodup)(o:ks[j]?=Y x)(z:lb[j]?=Y x)(n:ss[j]?=Y y)(m:y=.ins "Sift" ["coming","numbers"] v)(r:dk [y]=Y (a.map D.int))(k:ls[j]?=Y f)(b:f=.ins "Sift" ["coming","numbers"] g)(p:dk [f]=Y (a.map D.int))(h:a.length<=1000):
  ∃l:!D,Je (Ci ks ss t e ls lb s (Y<|.lst du) (Y<|.obj o8<|.lst ps) M M (Y<|.int (j:Int)) c)=Y (.nx<|Ci ks ss t e ls lb s (Y<|.lst du) (Y<|.obj o8<|.lst ps) M M (Y<|.int (j:Int))<|Y<|.lst l):=by
 have A:=iT (show (lb.map D.str)[j]?=Y (.str x) by simp_all);have B:=iT k;have T:=JE (t:=t) (e:=e) j d o n m r;have w:U6 [0] [] wp (Ci ks ss t e ls lb s (Y<|.lst du) (Y<|.obj o8<|.lst ps) M M (Y<|.int (j:Int)) c)=Y (a.map D.int):=by unfold U6;rw[show Bt [0] [] (Ci ks ss t e ls lb s (Y<|.lst du) (Y<|.obj o8<|.lst ps) M M (Y<|.int (j:Int)) c)=Y (dR ks ss t e)::(Ci ks ss t e ls lb s (Y<|.lst du) (Y<|.obj o8<|.lst ps) M M (Y<|.int (j:Int)) c).tail by obtain e|⟨l,e⟩:=i<;>subst e<;>cases s<;>rfl];exact(congrArg (Hr · _)<|(WJ W ſ<|RE<|mH (l:=lb.map D.str) (z:=(j:Int)) W W A).trans T).trans (if_pos<|sW _)
 have u:wO [1,9] [] (lI<|gw<|bF vr<|aC (eV 9) Ps) (Ci ks ss t e ls lb s (Y<|.lst du) (Y<|.obj o8<|.lst ps) M M (Y<|.int (j:Int))<|Y<|.lst<|a.map D.int)=Y false:=by subst b;exact nM (ρ':=[oT ks ss t e,Y<|.lst ls,Y<|.lst<|lb.map D.str,Y<|eI s,Y<|.lst du,Y<|.obj o8<|.lst ps,M,M,Y<|.int (j:Int),Y<|.lst<|a.map D.int]) (by cases s<;>rfl) (Fb (b:=Z') ((GO (d :=.lst<|a.map D.int) (e :=.lst<|a.map D.int) W (oP<|(Zj (mH (l:=ls) (z:=(j:Int)) W W B) ſ).trans p)).trans (Aw 40 _<|Uz a h)))
 exact(a.map D.int++[.int 0],Mc (l:=a.map D.int) w (sq (mI u)<|(pL (l:=a.map D.int) (d :=.int 0) W (by rw[aF,gU];lia) W).trans W))
end
def SS{ss:!D}{g:!(!Int)}{b:!aM}{t e:Int}(S:SL z k r ss g)(h:k<=45)(s:m7)(n:gW z s=Y A)(c:xY s (decide (0<e)) (decide (0<t))=Z')(mz:b.Nodup)(hl:b.length=5)(n3:g.length<=3):
  ∃(f ss':!D) (m:!(!Int)),EE [dR (b.take g.length) ss t e,.lst r,.lst<|b.map D.str,eI s]=Y (.bl Z',dR (b.take g.length) ss' (t+1)<|dM s e,.lst f)/\SL A (k+1) f ss' m/\m.length=g.length:=by
 let(K,q2):=S.len;let(o,f,ss',m,h1,X,u,h4,U,B):=S.take h s n (b.take g.length) ŷ;let(p1,p2):=u.len;have kl:(b.take g.length).length=g.length:=ŷ
 have T:=E9 (t:=t) (e:=e) s c Ž h1;have L:(A3 (b.take g.length) (o.map (· ++ [0]))).length<=1000:=by grind [A3,aF,oZ]
 refine(f,ss',m,?_,u,U);let(F,ef,w,q,p,_):=jv (τ:=gN 8) (g:=Je) (ds:=iJ 0 f.length) (λi x=>∃(w q:↑D),x=Ci (b.take g.length) ss' (t+1) (dM s e) f b s (Y<|.lst<|A3 (b.take g.length) o) (Y (.obj o8 (.lst (A3 (b.take g.length) (o.map (· ++ [0]))++[.tup [kS "a",.lst []]])))) M M w q/\(q=M\/∃l:!D,q=Y (.lst l)))
  (M,M,W,.inl W) λj d x R (w,q,p,N)=>by
  subst p;let(hj,p):=jt R;subst p;have H:(0:Int)+(j:Int)=(j:Int):=ż
  rw[H];let(y,y',a,g1,g2,g3,G):=u.get j ž;obtain⟨⟨v,Q⟩,v',P⟩:=G.ins;let(J,I):=G.aaQ;have O:b[j]?=Y b[j]:=aE ž;let(l,E):=L_ (ks:=b.take g.length) (ss:=ss') (ls:=f) (t:=t+1) (e:=dM s e) (s:=s) (lb:=b) (ps:=A3 (b.take g.length) (o.map (· ++ [0]))++[.tup [kS "a",.lst []]]) (du:=A3 (b.take g.length) o) N ((rQ _ _).nodup mz) ŷ O g2 P I g1 Q J (by have:=G.bound;lia);exact(_,_,W,E,_,_,W,.inr (l,W))
 subst p;have C:=Zu (ks:=b.take g.length) (ss:=ss) (t:=t) (e:=e) (lb:=b) (s:=s) X Ž Ž;rw[K]at C;show (QH<|Ci (b.take g.length) ss t e r b s M M M M M M).bind (Wh cj<|.li cy)=_;refine bq (sq C (sq (QJ T) (m8 (S_ ž B) (sq (M4 W B) (sq (RF W L) (sq ((jH (uE (z:=(f.length:Int)) (kA (ρ':=[oT (b.take g.length) ss' (t+1)<|dM s e,Y<|.lst f,Y<|.lst<|b.map D.str,Y<|eI s,Y<|.lst<|A3 (b.take g.length) o,Y (.obj o8 (.lst (A3 (b.take g.length) (o.map (· ++ [0]))++[.tup [kS "a",.lst []]]))),M,M,M,M]) (by cases s<;>rfl) ((kE (d :=.lst f) W).trans W) W) ž ž)).trans ef) (y_<|Dv W))))))) ?_;exact ź
end K21
namespace K21
open PySem L2
def Na(o:↑D):Prop:=∀r p,o≠Y (.dP r p)
def yM(h:∀o∈l,Na o):bP r l=l:=(gA λo m=>by
 split
 .exact Ÿ
 .rfl).trans<|List.map_id l
def OT{f:DF}{d:D}(e:f a=Y d):yY i s f a=Y (.nx<|a.set i<|Y<|.obj s d):=by simp_all [yY]
def V0{f:DM}(e:f a=Y (.bl c,b)):Fd (Fc f) a=Y ((not c),b):=by unfold Fd Fc;rw[e];rfl
def aaP{f:NO}(e:f a=Y (Z_,b))(k:g b=r):SK f g a=r:=by unfold SK;rw[e];exact k
def ma1{f:DM}(e:f a=Y (d,b)):km f oH a=Y ([d],b):=by unfold km;rw[e];rfl
def acQ{F:!D->↑(D×D)}{g:DL}{l:!D}{s:Sk}{b:cf}{x:D}(f:∀o∈b,Na o)(a:gr s i b=Y t)(c:g b=Y l)(e:F (t::l)=Y (d,x)):rF s F i g b=Y (d,b.set i<|Y<|.obj s x):=by
 simp_all [rF,yM,av]
def acP{F:!D->↑(D×D×D)}{s:Sk}{f:cf}(m:∀o∈f,Na o)(a:gr s i f=Y t)(b:gr h j f=Y k)(c:g f=Y l)(e:F (t::k::l)=Y (d,x,y)):yn s h F i j g f=Y (d,(f.set i<|Y<|.obj s x).set j<|Y<|.obj h y):=by
 simp_all [yn,yM,av]
set_option tactic.hygienic true in
def abS{F:!D->↑(D×D)}{v:!D}{m:aM}{f:cf}(n:∀o∈f,Na o)(a:gr (.fs c i) j f=Y (.ins c h v))(p:m∉h)(b:g f=Y (l,f))(e:F (.ins c h v::l)=Y (d,x)):cI c m (.fs c i) F j g f=Y (d,f.set j<|Y<|.obj (.fs c i) x):=by
 unfold cI;obtain⟨⟨t,s⟩,r,k⟩:=ae.1 a;split at k
 .rename_i q;cases k;cases Sk.kL q;rw[r];dsimp only [av];rw[if_pos ((W,W),p),b];dsimp only [av];rw[a];dsimp only [av];rw[e,yM n];rfl
 .cases k
def Kq(h:ko d 180=Z'):F2 d d=Y (.bl Z_):=by
 simp only[F2];rw[if_pos (by omega),GK _ 180 h];rfl
theorem uz:∀(a b:!m7) (z:Nat×Bool),qj (a++b) z=(qj a z).bind (qj b)
 |[],b,z=>rfl| s::a,b,z=>by
  rw[nj,qj,qj];cases gW z s with
  |none=>rfl|some y=>exact uz a b y
def C9{a:!m7}(h:qj a (0,Z_)=Y z)(e:a[j]?=Y g)(r:qj (a.take j) (0,Z_)=Y y):∃b,gW y g=Y b/\qj (a.take<|j+1) (0,Z_)=Y b:=by
 have c:a=a.take j++g::a.drop (j+1):=by let(_,q):=aq.mp e;rw[<- q];simp
 rw[c,uz,r]at h;let(b,s,_):=ae.1<|show (gW y g).bind _=Y z from h;refine(b,s,?_);rw[List.take_succ,e,uz,r];show (gW y g).bind _=_;rw[s];rfl
def WR{y a:Nat×Bool}(h:gW y g=Y a):dM g (y.1:Int)=(a.1:Int):=by
 cases g<;>simp only[gW]at h<;>split at h<;>cases h<;>simp only[dM]<;>lia
theorem Rw:∀(d:Nat) (b:Bool),qj (aH d .cl) (d,b)=Y (0,b)
 |0,b=>rfl|d+1,b=>by exact Rw d b
set_option tactic.hygienic true in
def ZS{y a:Nat×Bool}{g:m7}{k:Nat}(h:gW y g=Y a)(b:y.2=decide (0<k)/\(k=0->y.1=0)):(a.2=decide (0<k+1)/\(k+1=0->a.1=0))/\xY g (decide ((0:Int)<y.1)) (decide ((0:Int)<k))=true:=by
 let(d,c):=y;let(e,f):=b;subst e;cases g<;>simp only[gW]at h<;>split at h<;>cases h<;>rename_i q<;>simp[xY]at q ⊢<;>lia
abbrev qD(l:!Tp):D :=.lst<|l.map ki
def OQ{a:!(!Tp)}(b:∀l∈a,Qs l):tD [M] (gN 0) gu (hJ "Sift" cC Sc) (a.map qD)=Y (a.map JO):=by
 induction a with
 |nil=>rfl|cons l a ih=>
  refine lX W ?_<|ih λx m=>b x Ż;have:∀F,hJ "Sift" F Sc [Y<|qD l]=(F _).bind _:=λF=>rfl
  exact(this _).trans (by rw[(Kv<|b l ay).1];rfl)
theorem RL:∀ {d:!(!Tp)}{e:!D},e.length=d.length->(∀(j:Nat) (l:!Tp) (y:D),d[j]?=Y l->e[j]?=Y y->Md l y)->SL (0,Z_) 0 (d.map JO) e (d.map λ_=>[])
 |[],[],_,_ =>.nil|[],_::_,h,_=>by cases h
 |_::_,[],h,_=>by cases h
 |l::d,s::e,h,m =>.cons (let(T,t,c,k):=m 0 l s W W;(k s t).1) (RL Ż λj l y a b=>m (j+1) l y a b)
abbrev eW(ns xs:!Int)(first:Int)(nms:!aM)(sm:Int)(qs:!(!Tp))(lb:!aM)(gs:!m7)(dp:Int)(a9 f e d c b a:↑D):cf:=[Y<|.oE ns,Y<|.lst<|xs.map D.int,Y<|.int first,Y<|.lst<|nms.map D.str,Y<|.int sm,Y<|.lst<|qs.map qD,Y<|.lst<|lb.map D.str,Y<|.lst<|gs.map eI,Y<|.int dp,a9,f,e,d,c,b,a]
abbrev oL(a:!D):↑D:=Y<|.obj (.li cy)<|.lst a
def ui{l:!aM}{s:m7}{f:DF}{v:aM}(a:f i=Y (dR l j t 0))(b:g i=Y (.str v))(c:h i=Y (eI s))(e:xY s Z_ (decide (0<t))=Z_)(d:k i=Y (.lst [kS "sign",.int t])):gP (e2 F2 (bF dC<|aC f<|aC (cn "take")<|aC g<|aC h aN) k) i=Y false:=
 nr ((fN ((Lv a W b c).trans<|Mp s e) d).trans<|Kq W)
section
variable {ns xs:!Int}{first:Int}{nms:!aM}{sm:Int}{qs:!(!Tp)}{lb:!aM}{gs:!m7}{dp:Int}{a9:↑D}
def SE{z g:Nat×Bool}{i:!(!Int)}{s:m7}(S:SL z k A w i)(h:k<=45)(L:gs[k]?=Y s)(n:gW z s=Y g)(R:z.2=decide (0<k)/\(k=0->z.1=0))(I:lb.Nodup)(G:lb.length=5)(J:i.length<=3)(X:Na a9):
  ∃(f c:!D) (j:!(!Int)),Eo (eW ns xs first nms sm qs lb gs dp a9 (oT (lb.take i.length) w k z.1) (oT [] [] k z.1) (oL A) (Y<|.int k) M M)=Y (.nx<|eW ns xs first nms sm qs lb gs dp a9 (oT (lb.take i.length) c ((k+1:Nat):Int) g.1) (oT [] [] ((k+1:Nat):Int) g.1) (oL f) (Y<|.int k) M M)/\SL g (k+1) f c j/\j.length=i.length/\g.2=decide (0<k+1)/\(k+1=0->g.1=0):=by
 let(C,H):=ZS n R;let(f,c,j,B,N,mz):=SS (t:=(k:Int)) (e:=(z.1:Int)) S h s n H I G J;have T:=E9 (ks:=[]) (ss:=[]) (ss':=[]) (ps:=[]) (t:=(k:Int)) (e:=(z.1:Int)) s H ſ W;rw[WR n]at B T;refine(f,c,j,?_,N,mz,C);have K:(k:Int)+1=((k+1:Nat):Int):=ž
 rw[K]at B T;have F:∀v:cf,eV 7 v=Y (.lst<|gs.map eI)->eV 13 v=Y (.int k)->e2 dh (eV 7) (eV 13) v=Y (eI s):=λv a b=>mH a b<|iT (by rw[aY,L];rfl)
 have E:∀t q l:↑D,Na t->Na q->Na l->∀o∈eW ns xs first nms sm qs lb gs dp a9 t q l (Y<|.int k) M M,Na o:=λt q l x y z o m=>by simp only[aT,kf,or_false]at m;obtain e|e|e|e|e|e|e|e|e|e|e|e|e|e|e|e:=m<;>subst e<;>first|assumption|(intro r p;simp)
 have u:∀(s:Sk) (d:D),Na<|Y<|.obj s d:=λs d r p=>by simp
 have a7:∀ρ:cf,eV 6 ρ=Y (.lst<|lb.map D.str)->eV 7 ρ=Y (.lst<|gs.map eI)->eV 13 ρ=Y (.int k)->aC (eV 6) (aC (e2 dh (eV 7)<|eV 13) aN) ρ=Y [.lst<|lb.map D.str,eI s]:=λρ a b c=>by unfold aC;rw[a,F ρ b c];rfl
 have U:(0:Int)<lb.length:=ž
 let(x,O,_):=yC (xs:=lb) (z:=sm/7%5) (cN _ ſ) (by rw[G];exact cv _ ſ);refine sq (Iz<|aaP (V0<|acP (E _ _ _ (u _ _) (u _ _)<|u _ _) ź ź (a7 _ W W W) B)<|V1<|Uj (abS (E _ _ _ (u _ _) (u _ _)<|u _ _) ź ſ (ma1<|Dv<|F _ W W) T) (Dv W) W)<|mI<|nM (ρ':=eW ns xs first nms sm qs lb gs dp a9 (Y<|dR (lb.take i.length) c ((k+1:Nat):Int) g.1) (oT [] [] ((k+1:Nat):Int) g.1) (oL f) (Y<|.int k) M M) W (nr<|(fN ((Lv W W (mH W (jN<|lR W) O) W).trans<|FF (c:= "Late") (n:=0) (j:=3) (Uq ž) W) W).trans ź)
def RB{f:!aM}{s:m7}(g:xY s Z_ Z'=Z_)(p:0<gs.length):En (eW ns xs first nms sm qs lb gs dp a9 d c b a (Y<|eI s)<|Y<|dR f e gs.length 0)=Y (.nx<|eW ns xs first nms sm qs lb gs dp a9 d c b a (Y<|eI s)<|Y<|dR f e gs.length 0):=by
 exact mI<|ui W W W Ż<|el2 W<|(kE W).trans (by rw[<- aF];rfl)
set_option tactic.hygienic true in
def TF{f:!D}{m k:Nat}{t e:Int}{d c b a:↑D}(l:lb.Nodup)(r:lb.length=5)(h:k<5)(o:f.length=m)(p:qs.length=m)(n:m<=3):Em (eW ns xs first nms sm qs lb gs dp a9 (oT (lb.take m) f t e) d c (Y<|.int k) b a)=Y (.nx<|eW ns xs first nms sm qs lb gs dp a9 (oT (lb.take m) f t e) d c (Y<|.int k) b a):=by
 have i:bF iX xL (eW ns xs first nms sm qs lb gs dp a9 (oT (lb.take m) f t e) d c (Y<|.int k) b a)=Y (.int qs.length):=(kE W).trans (by rw[<- aF];rfl);refine mI ?_;unfold mr;rw[(nr<|(fN W i).trans W)];dsimp only [av];split
 .rename_i q;have lk:lb[k]?=Y lb[k]:=aE _;have g:lb[k]∉lb.take m:=Kn l lk Ż;exact nr<|(fN ((Lv W W (mH W W<|iT Ż) W).trans<|Mo g ŷ) W).trans ź
 .rfl
theorem Kz:∀ {b:!D},(∀d∈b,∃a,c d e=Y a/\U a=Y Z_)->tD e c U g b=Y []
 |[],_=>rfl|d::b,h=>by let(a,j,i):=h d ay;simp[tD,j,i,Kz λd f=>h d<|ax _ f]
def Ur{z:Nat×Bool}{f:!D}{c:!(!Int)}{t e:Int}{a11 a13 a14 a15:↑D}(S:SL z k b f c)(F:k<=45)(n:lb.Nodup)(E:lb.length=5)(C:c.length<=3):QX (eW ns xs first nms sm qs lb gs dp a9 (oT (lb.take c.length) f t e) a11 (oL b) a13 a14 a15)=Y (.bl Z'):=by
 let(B,A):=S.len;have r:AQ (bF iX<|aC (eO 12) aN) (eW ns xs first nms sm qs lb gs dp a9 (oT (lb.take c.length) f t e) a11 (oL b) a13 a14 a15)=Y (iJ 0 b.length):=uE (z:=(b.length:Int)) ((kE W).trans W) ž ž;refine(fN (x :=.lst []) (y :=.lst []) (oP<|jI r (by grind [e8])<|Kz λd q =>?_) W).trans W;let(j,h):=wK.mp q;let(h,rfl):=jt h;let(y,w,a,u,s,H,G):=S.get j ž;obtain⟨⟨v,p⟩,x,o⟩:=G.ins;let(m,l):=G.aaQ;have g:lb[j]?=Y lb[j]:=aE ž;have T:=JE (t:=t) (e:=e) j ((rQ c.length lb).nodup n) (by rw[kQ<|by omega];exact g) s o l;have i:(0:Int)+(j:Int)=(j:Int):=ž
 rw[i];subst p;exact(_,W,nr<|(fN (x :=.lst<|a.map D.int) (y :=.lst<|a.map D.int) (oP<|(WJ (f:=eO 1) W ſ (RE<|mH W W<|iT<|by rw[aY,g];rfl)).trans T) (oP<|(Zj (mH (l:=b) W W (iT u)) ſ).trans m)).trans (Kq<|Ll<|B9 a 179))
end
theorem We:∀ {b:!D},(∀x∈b,∃l:!Tp,x=qD l/\Qs l)->∃qs:!(!Tp),b=qs.map qD/\∀l∈qs,Qs l
 |[],_=>([],W,λl h=>by cases h)
 | x::b,h=>by
  let(l,rfl,q):=h x ay;let(qs,rfl,k):=We λy m=>h y<|ax _ m
  exact(_,W,λa m=>(aT.mp m).elim (λe=>e ▸ q)<|k a)
def ZW{f g:DF}(a:f d=Y x)(b:g d=Y y)(c:h d=Y z):aC f (aC g<|aC h aN) d=Y [x,y,z]:=by unfold aC;rw[a,b,c];rfl
def YL(x y:aM)(z:Int):((cg 5).map<|MN x y z).Nodup:=by
 refine List.pairwise_map.mpr<|List.Pairwise.imp (R:=λa b=>a<5/\b<5/\a≠b) (fun {a b} h e=>h.2.2<|Qf h.1 h.2.1 e) ſ
section
variable {ns xs:!Int}{first:Int}{nms:!aM}{sm:Int}{qs:!(!Tp)}{lb:!aM}{gs:!m7}
def Np{z:Nat×Bool}(h:qj gs (0,Z_)=Y z):∃a,Na a/\jw (gN 9) Ep (gs.map eI) (eW ns xs first nms sm qs lb gs 0 M M M M M M M)=Y (.nx<|eW ns xs first nms sm qs lb gs z.1 a M M M M M M):=by
 let(f,n,a,y,rfl,k,r):=jv (τ:=gN 9) (g:=Ep) (ds:=gs.map eI) (λj b=>∃(a:↑D) (y:Nat×Bool),b=eW ns xs first nms sm qs lb gs y.1 a M M M M M M/\Na a/\qj (gs.take j) (0,Z_)=Y y) (M,_,W,by intro r p;simp,W) λj d b c (a,y,e,k,r)=>by
  subst e;rw[aY]at c;let(g,l,rfl):=aj.1 c;let(m,s,i):=C9 h l r;refine(_,eW ns xs _ nms sm qs lb gs _ (Y<|eI g) _ _ _ _ _ _,W,?_,_,_,W,by cases g<;>(intro r p;simp[eI]),i);rw[<- WR s];cases g with
  |op x=>solve_by_elim|tx x=>solve_by_elim|cl=>solve_by_elim
 grind
abbrev dL:=oT [] [] 0 0
def L6{z:Nat×Bool}{ss:!D}(h:qj gs (0,Z_)=Y z)(I:gs.length<=45)(t:lb.Nodup)(v:lb.length=5)(H:qs.length<=3)(A:Na i){dp:Int}(S:SL (0,Z_) 0 (qs.map JO) ss<|qs.map λ_=>[]):
  ∃(c a:!D) (f:!(!Int)) (g:↑D),jw (gN 13) Eo (iJ 0 gs.length) (eW ns xs first nms sm qs lb gs dp i (oT (lb.take qs.length) ss 0 0) dL (oL<|qs.map JO) M M M)=Y (.nx<|eW ns xs first nms sm qs lb gs dp i (oT (lb.take qs.length) a gs.length z.1) (oT [] [] gs.length z.1) (oL c) g M M)/\SL z gs.length c a f/\f.length=qs.length:=by
 let(o,n,c,a,f,y,g,rfl,T,k,r,_):=jv (τ:=gN 13) (ds:=iJ 0 gs.length) (λj l=>∃(c a:!D) (f:!_) (y:Nat×Bool) (g:↑D),l=eW ns xs first nms sm qs lb gs dp i (oT (lb.take qs.length) a j y.1) (oT [] [] j y.1) (oL c) g M M/\SL y j c a f/\f.length=qs.length/\qj (gs.take j) _=Y y/\y.2=decide (0<j)/\(j=0->y.1=0)) (_,_,_,_,M,W,S,aF _,W,W,λ_=>rfl) λj d l x (c,a,f,y,g,e,T,k,r,b)=>by
  subst e;let(w,rfl):=jt x;have p:(0:Int)+j=j:=ż
  rw[p];have m:=aE w;let(F,s,q):=C9 h m r;let(J,G,K,E,C,u,B):=SE (ns:=ns) (xs:=xs) (first:=first) (nms:=nms) (sm:=sm) (qs:=qs) (dp:=dp) T ž m s b t v ž A;rw[k]at E;exact(_,_,W,E,_,_,_,_,_,W,C,u.trans k,q,B)
 rw[e8,List.take_length,h]at r;cases r;rw[e8]at T n;exact(c,a,f,g,n,T,k)
def My{m:Nat}{ss:!D}{t e:Int}{dp:Int}{a9 a11 a12 a13 a14 a15:↑D}(f:lb.Nodup)(k:lb.length=5)(h:ss.length=m)(i:qs.length=m)(g:m<=3):∃v,jw (gN 13) Em (iJ 0 5) (eW ns xs first nms sm qs lb gs dp a9 (oT (lb.take m) ss t e) a11 a12 a13 a14 a15)=Y (.nx<|eW ns xs first nms sm qs lb gs dp a9 (oT (lb.take m) ss t e) a11 a12 v a14 a15):=by
 let(b,o,v,rfl):=jv (τ:=gN 13) (λj a=>∃v:↑D,a=eW ns xs first nms sm qs lb gs dp a9 (oT (lb.take m) ss t e) a11 a12 v a14 a15) (_,W) λj d a n (v,e)=>by
  subst e;let(l,rfl):=jt n;have c:(0:Int)+j=j:=ž
  rw[c];exact(_,_,W,TF f k l h i g,_,W)
 exact(v,o)
def RA{ks:!aM}{ss:!D}{dp:Int}{a9 a12 a13:↑D}{s:m7}(a:xY s Z_ Z'=Z_)(p:0<gs.length):∃v,kI (iL Tk) (gN 15) En (eW ns xs first nms sm qs lb gs dp a9 (oT ks ss gs.length 0) (oT [] [] gs.length 0) a12 a13 (Y<|eI s) M)=Y (.nx<|eW ns xs first nms sm qs lb gs dp a9 (oT ks ss gs.length 0) (oT [] [] gs.length 0) a12 a13 (Y<|eI s) v):=by
 have f:iL Tk (eW ns xs first nms sm qs lb gs dp a9 (oT ks ss gs.length 0) (oT [] [] gs.length 0) a12 a13 (Y<|eI s) M)=Y [dR ks ss gs.length 0,dR [] [] gs.length 0]:=ź
 refine(_,(jH f).trans<|(mL W<|RB a p).trans<|(mL W<|RB a p).trans W)
end
def ZT(z:Int):∃s:m7,qt [eI<|.op<|ar "a",eI .cl,eI<|.tx<|ar ""] (z%3)=Y (eI s)/\xY s Z_ Z'=false:=by
 rcases(by omega:z%3=0\/z%3=1\/z%3=2) with e|e|e<;>rw[e]
 .exact(_,W,W)
 .exact(.cl,W,W)
 .exact(_,W,W)
def QO(z:Int):∃s:m7,qt [eI .cl,eI<|.tx<|ar "x"] (z%2)=Y (eI s)/\xY s Z_ Z_=false:=by
 obtain e|e:=Int.emod_two_eq z<;>rw[e]
 .exact(.cl,W,W)
 .exact(_,W,W)
def X2{l:!D}(a:l.length=1)(h:d<=5):qQ (.lst l) (.int (d:Nat))=Y (.lst (aH ((d:Nat):Int).toNat l).flatten):=by
 simp only[qQ];rw[if_pos (by grind,kb<|j2<|by omega)]
def Ks(a:cf):hJ "Tray" iD aN a=Y (dR [] [] 0 0):=by
 exact Ÿ
def Qg(ns:!Int)(hns:ns.length<=63):G8 [.oE ns]=Y (.bl Z'):=by
 let(xs,ex,_):=GF ns hns 200 34 ſ ſ ſ ſ;have p1:=zf xs;have p2:=zf xs.dropLast;generalize xD xs.dropLast=sm at p2;generalize xD xs=first at p1;let(nms,en,k0,k4):=PV first
 generalize xs.dropLast.dropLast=xs2 at p2;generalize xs.dropLast=xs1 at p1 p2;have m0:=cN sm (show (4:Int)≠0 by decide);have m1:=cv sm (show (0:Int)<4 by decide);let(dq,W6,el,hl,hp):=Ir (ρ:=[M,Y<|.lst<|xs2.map D.int,Y<|.lst<|nms.map D.str]) (τ:=gN 0) (fe:=nF ED 1<|aC (eV 2)<|aC f8 aN) (i0:=1) (Pr:=λd=>∃l:!Tp,d=qD l/\Qs l) (ds:=iJ 0 (sm%4).toNat) xs2 λd i ys=>by let(l,ys',e,l0,l1,hw):=(AW nms k4 2).2 12 ys ſ;exact(_,qD l,_,ys',W,Dx W W e,W,l,W,hw,l1,l0)
 let(qs,rfl,hq):=We hp;rw[e8,aF]at hl;have n3:qs.length<=3:=Ž
 let(x,y,hn):=Kr<|first/3;have nd:=YL x y<|first/3;have lb5:((cg 5).map<|MN x y<|first/3).length=5:=ż
 have lbe:(cg 5).map (λk:Nat=>x++(⟨#[97+((0+(k:Int)+first/3)%26).toNat]⟩:aM)++y)=(cg 5).map (MN x y<|first/3):=gA λk i=>by rw[VQ];rfl
 generalize hlb:(cg 5).map (MN x y<|first/3)=lb at nd lb5 lbe;have q0:=cN (sm/4) (show (28:Int)≠0 by decide);have q1:=cv (sm/4) (show (0:Int)<28 by decide);let(cs,ec,hc):=GF ns hns 2 (1+sm/4%28) ſ ſ ŷ ŷ;let(fs,a,es,H,hf):=OP cs nms Ž k0 k4;let(gs,d,b,rfl,afl,rfl,_):=H.sg.ex;rw[aF]at hf;have d5:(d:Int)<=5:=H.le;have all:qj (gs++aH d .cl) (0,Z_)=Y (0,b):=by simp_all [uz,Rw]
 let(v9,n9,D1):=Np (ns:=ns) (xs:=W6) (first:=first) (nms:=nms) (sm:=sm) (qs:=qs) (lb:=lb) afl;let(ss,afp,P):=HU hq n3 nd lb5;have S0:=RL P.len P.md;have cl:gs.map eI++(aH d [eI .cl]).flatten=(gs++aH d m7.cl).map eI:=Ż
 have mul:qQ (.lst [eI .cl]) (.int (d:Nat))=Y (.lst (aH ((d:Nat):Int).toNat [eI .cl]).flatten):=by exact X2 W ž
 have lc:(gs.map eI).length+(aH ((d:Nat):Int).toNat [eI m7.cl]).flatten.length<=5000:=by rw[List.flatten_replicate_singleton,aF,List.length_replicate];omega
 have gl:(gs++aH d m7.cl).length=gs.length+d:=ż
 have gp:0<(gs++aH d m7.cl).length:=ž
 generalize hG:gs++aH d m7.cl=GS at all cl gl gp;let(ls',ss',as',v13,T1,T2,T3):=L6 (ns:=ns) (xs:=W6) (first:=first) (nms:=nms) (sm:=sm) (dp:=(d:Int)) all ž nd lb5 n3 n9 S0;let(bs,eb,hb):=ZT<|sm/5;let(s1,e1,h1):=QO<|sm/112;let(v15,B1):=RA (ns:=ns) (xs:=W6) (first:=first) (nms:=nms) (sm:=sm) (qs:=qs) (lb:=lb) (dp:=(d:Int)) (a9:=v9) (a12:=oL ls') (a13:=v13) (ks:=lb.take qs.length) (ss:=ss') hb gp;let(v16,B2):=My (ns:=ns) (xs:=W6) (first:=first) (nms:=nms) (sm:=sm) (gs:=GS) (dp:=(d:Int)) (a9:=v9) (a11:=oT [] [] GS.length 0) (a12:=oL ls') (a13:=v13) (a14:=Y<|eI bs) (a15:=v15) (t:=GS.length) (e:=0) (ss:=ss') nd lb5 (T2.len.2.trans T3) W n3;have B3:=Ur (ns:=ns) (xs:=W6) (first:=first) (nms:=nms) (sm:=sm) (qs:=qs) (lb:=lb) (gs:=GS) (dp:=(d:Int)) (a9:=v9) (a11:=oT [] [] GS.length 0) (a13:=v16) (a14:=Y<|eI bs) (a15:=v15) (t:=GS.length) (e:=0) T2 ž nd lb5 ž;rw[T3]at B3;have na:∀a12 a13 a14 a15:↑D,Na a12->Na a13->Na a14->Na a15->∀o∈eW ns W6 first nms sm qs lb GS (d:Int) v9 dL dL a12 a13 a14 a15,Na o:=λa12 a13 a14 a15 h12 h13 h14 h15 o m=>by simp only[aT,kf,or_false]at m;obtain e|e|e|e|e|e|e|e|e|e|e|e|e|e|e|e:=m<;>subst e<;>first|assumption|(intro r p;simp)
 have nn:Na none:=λr p=>by simp
 have lnG:∀ρ:cf,eV 7 ρ=Y (.lst<|GS.map eI)->AQ (bF iX<|aC (eV 7) aN) ρ=Y (iJ 0 GS.length):=λρ h=>uE (z:=(GS.length:Int)) ((kE h).trans<|by rw[<- aF (f:=eI)];rfl) ž ž
 refine bq (x:=Y<|.rt<|.bl Z') (Mc (M9 (ZW W W W) ex)<|sq (qL<|Dx W W p1)<|qa (oP<|M9 W en)<|sq (qL<|Dx W W p2)<|sq (qL<|abQ (uE (jN W) m0 ž) (by rw[e8];omega) W el)<|qa (oP<|jI (uE (z:=5) W ſ ſ) (by rw[e8];decide) (Qc (c:=0) (n:=5) (g:=λk:Int=>x++(⟨#[97+((k+first/3)%26).toNat]⟩:aM)++y) λk=>(GO W<|lR W).trans<|hn k)) ?_) W;rw[lbe];refine qa (oP<|M9 (ZW (oP<|M9 (ZW W W<|oV W<|jN<|lR W) ec) W W) es)<|qa W<|sq ((jH (c:=gs.map eI) W).trans D1) (qa (Jj W ((fN (x :=.lst [eI .cl]) (y :=.int d) W W).trans mul) lc) ?_);rw[show ((d:Nat):Int).toNat=d from W,cl];refine sq (OT<|Ks _)<|sq (OT<|Ks _)<|m8 (nM (ρ':=eW ns W6 first nms sm qs lb GS d v9 (Y<|dR [] [] 0 0) dL M M M M) W (ui (s:=s1) W W (mH W (jN<|lR W) e1) (by exact h1) W)) (sq (Iz<|V0<|acQ (na _ _ _ _ nn nn nn nn) ź (l:=[.lst<|lb.map D.str,.lst<|qs.map qD]) W afp) (sq (OT (d :=.lst<|qs.map JO) (oP<|jI (l:=qs.map qD) W ŷ (OQ hq))) (sq ((jH<|lnG _ W).trans T1)<|qa (d:=eI bs) (mH W (jN<|lR W) eb) (sq B1<|sq ((jH<|uE (z:=5) W ſ ſ).trans B2) ?_))));unfold gc;exact(congrArg (lu DO.rt) B3).trans W
end K21
namespace L2
open PySem PySem.Spec PyProof.Rows
section
variable {P:bj}{w:cQ}{K:aS}{mg:aM->↑au}{base:cG}{x c:aM}{sp:Sp}{f:aD}{fd:dU}{ps:!aM}{n k:Nat}
def iC.m(h:iC P w K mg base x n sp)(hk:‹n<=k›):iC P w K mg base x k sp:=h.mono hk
def dQ.m(h:dQ P w K mg base c x n sp)(hk:‹n<=k›):dQ P w K mg base c x k sp:=h.mono hk
def rg.m(h:rg P w K mg base c n sp)(hk:‹n<=k›):rg P w K mg base c k sp:=h.mono hk
def iC.o(h:iC P w K mg base x n sp)(hk:autoParam (n<=k) š):iC P w K mg base x k sp:=h.mono hk
def dQ.o(h:dQ P w K mg base c x n sp)(hk:autoParam (n<=k) š):dQ P w K mg base c x k sp:=h.mono hk
def z0O{F:!D->↑(!D)}(e:∀ds,F ds=M):b_ P w K mg base gk n f fd ps<|wW K F:=by
 constructor
 .intro vs H Q E h;cases h;simp_all
 .intro A o s H args us vs Q E hr he hb hv h;cases h;simp_all
def z0F{F:!D->↑D}(e:∀ds,F ds=M):b_ P w K mg base gk n f fd ps<|iW K F:=by
 constructor
 .rintro vs H Q E ⟨G,ds,d,gh,r,eq,_⟩;rw[e]at eq;cases eq
 .rintro A o s H args us vs Q E hr he hb hv ⟨G,ds,d,gh,r,eq,_⟩;rw[e]at eq;cases eq
def z0T{s:Sk}{F:!D->↑(D×D)}(e:∀ds,F ds=M):b_ P w K mg base gk n f fd ps<|spT K s F:=by
 constructor
 .rintro vs H Q E ⟨G,t,xs,d,t',a,T,us,_,_,_,_,_,_,eq,_⟩;rw[e]at eq;cases eq
 .rintro A o s H args us vs Q E hr he hb hv ⟨G,t,xs,d,t',a,T,us,_,_,_,_,_,_,eq,_⟩;rw[e]at eq;cases eq
def z0M{F:!D->↑(D×!D)}(e:∀ds,F ds=M):b_ P w K mg base gk n f fd ps<|CW K 0 F:=by
 constructor
 .rintro vs H Q E ⟨G,ds,d,xs',a,ws,xs,_,_,_,_,_,_,_,_,eq,_⟩;rw[e]at eq;cases eq
 .rintro A o s H args us vs Q E hr he hb hv ⟨G,ds,d,xs',a,ws,xs,_,_,_,_,_,_,_,_,eq,_⟩;rw[e]at eq;cases eq
end
end L2
namespace K21
open PySem L2
def ac{α:Type}{P:α->Prop}{a:α}{l:!α}(h:P a)(t:∀x∈l,P x):∀x∈a::l,P x:=jV.mpr (h,t)
abbrev FA(K:aS)(x:aM)(st:cS):Prop:=∃f fd,jf K aW x=Y (Y<|.ref f)/\gx K x x st f fd
def adf{K:aS}{x:aM}{st:cS}{f:aD}{od an:↑aD}{sl:Array<|↑au}{oc kV dc pm cd ct:au}(a:jf K aW x=Y (Y<|.ref f))(l:K.lookup f=Y (oc,od,.func<|fnOf x x (lY st) (fm st) (bu st) .none kV dc pm an cd ct,sl))(c:codeIn K cd x=Z')(k:jU K (.ref f)=Z'):FA K x st:=(f,_,a,IM l c k)
abbrev MA(K:aS)(c m qual:aM)(st:cS):Prop:=∃C f fd,jf K aW c=Y (Y<|.ref C)/\ic K (.ref C) m=Y (Y<|.ref f)/\PySem.W.isFn K (.ref f)=Z'/\gx K m qual st f fd
def ac8{K:aS}{x:aM}{st:cS}{f:aD}{od an:↑aD}{sl:Array<|↑au}{oc kV dc pm cd ct:au}{c0 qual:aM}{C:aD}(aC:jf K aW c0=Y (Y<|.ref C))(a:ic K (.ref C) x=Y (Y<|.ref f))(i:PySem.W.isFn K (.ref f)=Z')(l:K.lookup f=Y (oc,od,.func<|fnOf x qual (lY st) (fm st) (bu st) .none kV dc pm an cd ct,sl))(c:codeIn K cd qual=Z')(k:jU K (.ref f)=Z'):MA K c0 x qual st:=(C,f,_,aC,a,i,IM l c k)
def bk0{us:!au}(e:us.length=0):us=[]:=by
 obtain _|_:=us<;>first|rfl|simp at e
def bk1{us:!au}(e:us.length=1):∃a,us=[a]:=by
 obtain _|⟨_,_|_⟩:=us<;>first|exact(_,W)|simp at e
def bk2{us:!au}(e:us.length=2):∃a b,us=[a,b]:=by
 obtain _|⟨_,_|⟨_,_|_⟩⟩:=us<;>first|exact(_,_,W)|simp at e
def bk3{us:!au}(e:us.length=3):∃a b c,us=[a,b,c]:=by
 obtain _|⟨_,_|⟨_,_|⟨_,_|_⟩⟩⟩:=us<;>first|exact(_,_,_,W)|simp at e
def bk4{us:!au}(e:us.length=4):∃a b c d,us=[a,b,c,d]:=by
 obtain _|⟨_,_|⟨_,_|⟨_,_|⟨_,_|_⟩⟩⟩⟩:=us<;>first|exact(_,_,_,_,W)|simp at e
local macro_rules | `(tactic|walk_at "b") =>return mk0 "(T!paren [ (T!tacticSeq (T!tacticSeq1Indented (null (T!intro intro (null (M!hole _ ) (M!hole _ ) (M!hole _ ) (M!hole _ ) (M!hole _ ) (M!hole _ ) %us %hl ) ) ; (T!paren [ (T!tacticSeq (T!tacticSeq1Indented (null (T!first first (null (group | (T!tacticSeq (T!tacticSeq1Indented (null (T!tacticLet__ let (M!letConfig (null ) ) (M!letDecl (M!letPatDecl (M!anonymousCtor ⟨ (null (M!hole _ ) , %e ) ⟩ ) (null ) (null ) := (M!app %bk1 (null %hl ) ) ) ) ) ) ) ) ) (group | (T!tacticSeq (T!tacticSeq1Indented (null (T!tacticLet__ let (M!letConfig (null ) ) (M!letDecl (M!letPatDecl (M!anonymousCtor ⟨ (null (M!hole _ ) , (M!hole _ ) , %e ) ⟩ ) (null ) (null ) := (M!app %bk2 (null %hl ) ) ) ) ) ) ) ) ) (group | (T!tacticSeq (T!tacticSeq1Indented (null (T!tacticLet__ let (M!letConfig (null ) ) (M!letDecl (M!letPatDecl (M!anonymousCtor ⟨ (null (M!hole _ ) , (M!hole _ ) , (M!hole _ ) , %e ) ⟩ ) (null ) (null ) := (M!app %bk3 (null %hl ) ) ) ) ) ) ) ) ) (group | (T!tacticSeq (T!tacticSeq1Indented (null (T!tacticLet__ let (M!letConfig (null ) ) (M!letDecl (M!letPatDecl (M!anonymousCtor ⟨ (null (M!hole _ ) , (M!hole _ ) , (M!hole _ ) , (M!hole _ ) , %e ) ⟩ ) (null ) (null ) := (M!app %bk4 (null %hl ) ) ) ) ) ) ) ) ) (group | (T!tacticSeq (T!tacticSeq1Indented (null (T!tacticHave__ have (M!letConfig (null ) ) (M!letDecl (M!letIdDecl (M!letId %e ) (null ) (null ) := (M!app %bk0 (null %hl ) ) ) ) ) ) ) ) ) ) ) ) ) ) ] ) ; (T!subst subst (null %e ) ) ; (T!tacticRfl rfl ) ) ) ) ] )" #[]
section
variable {P:bj}{w:cQ}{K:aS}{h base:cG}{mg:aM->↑au}{x c q:aM}{st:cS}{sp:Sp}{ps:!aM}{n:Nat}{C:aD}
structure EN(P:bj)(w:cQ)(K:aS)(mg:aM->↑au)(base h:cG):Prop where
 X:K.In h
 G:h.Ns aW mg
abbrev CL(K:aS)(c:aM):Prop:=∃C,jf K aW c=Y (Y<|.ref C)/\Jn K C/\makesIn K C=Z'/\jU K (.ref C)=Z'
abbrev NA(K:aS)(c f:aM):Prop:=∃C,jf K aW c=Y (Y<|.ref C)/\pM K C f
def adl(a:jf K aW c=Y (Y<|.ref C))(pg:plainGet K C Str.empty=Z')(hd:nJ K C=Z')(po:plainOver K C=Z')(sa:ic K (.ref C) "__setattr__" = Y (Y<|.builtin "object.__setattr__"))(mk:makesIn K C=Z')(kc:jU K (.ref C)=Z'):CL K c:=(C,a,(pg,hd,po,sa),mk,kc)
def ac6(a:jf K aW c=Y (Y<|.ref C))(n:ic K (.ref C) x=Y M):NA K c x:=(C,a,n)
def af7(h:CL K c)(n:NA K c x):pP K c x:=by
 let(C,a,cl,_,_):=h;let(C',a',n):=n;intro D e;rw[a]at e a';cases e;cases a';exact(cl,n)
abbrev BB(x q:aM)(st:cS)(ps:!aM):Prop:=∀(kV VJ pm:au) (an:↑aD) (WS ct:au) (us:!au),us.length=ps.length->bindArgs (fnOf x q (lY st) (fm st) (bu st) .none kV VJ pm an WS ct) (us,[])=c9 (ps.zip us)
def FA.rE(q:FA K x st)(e:EN P w K mg base h)(o:∀f fd,gx K x x st f fd->b_ P w K mg base gk n f fd ps sp)(hb:autoParam (BB x x st ps) Ů):iC P w K mg base x n sp:=by
 let(f,fd,a,F):=q;exact(f,fd,ps,o f fd F,AJ e.X e.G a,F.kp,F.binds hb)
def MA.r4(r:MA K c x q st)(_:EN P w K mg base h)(h:CL K c)(o:∀f fd,gx K x q st f fd->b_ P w K mg base gk n f fd ps sp)(hb:autoParam (BB x q st ps) Ů):dQ P w K mg base c x n sp:=by
 let(C',f,fd,a',i,j,F):=r;let(C,a,cl,_,_):=h;rw[a]at a';cases a';exact(_,f,fd,ps,a,cl,(i,j,F.kp),o f fd F,F.binds hb)
def MA.Yv(r:MA K c "__init__" q st)(e:EN P w K mg base h)(k:CL K c)(o:∀f fd,gx K "__init__" q st f fd->b_ P w K mg base gk n f fd ps sp)(hb:autoParam (BB "__init__" q st ps) Ů):rg P w K mg base c n sp:=by
 let(C',f,fd,a',i,j,F):=r;let(C,a,cl,m,y):=k;rw[a]at a';cases a';exact(_,f,fd,ps,a,AJ e.X e.G a,(m,i,j,y),o f fd F,F.binds hb)
def MA.okX(r:MA K c x q st)(_:EN P w K mg base h)(h:CL K c)(o:∀f fd,gx K x q st f fd->b_ P w K mg base (Hi P w) n f fd ps sp)(hb:autoParam (BB x q st ps) Ů):RN P w K mg base c x n sp:=by
 let(C',f,fd,a',i,j,F):=r;let(C,a,cl,_,_):=h;rw[a]at a';cases a';exact(_,f,fd,ps,a,cl,(i,j,F.kp),o f fd F,F.binds hb)
abbrev XQ(K:aS)(C:aD)(x:aM)(b:Bool):Prop:=∃c,jf K aW x=Y (Y<|.ref c)/\jA K (.ref C) (.ref c)=Y b/\jA K (.type "NoneType") (.ref c)=Y Z_
structure XA(K:aS)(c:aM)(k:Nat)(C N:aD):Prop where
 a:jf K aW c=some (some<|.ref C)
 I:XIs K C
 s:jf K aW "SiftError" = some (some<|.ref N)
 e:PySem.W.exmOne K (.ref C) (.ref N)=some true
 k:XQ K C "NoSign" (k==0)/\XQ K C "NoText" false/\XQ K C "NoPart" (k==1)/\XQ K C "Taken" (k==2)/\XQ K C "Late" (k==3)/\jA K (.ref C) (.type "ValueError")=some true
def LG{b:Bool}{d:aD}(a:jf K aW x=Y (Y<|.ref d))(k:jA K (.ref C) (.ref d)=Y b)(n:jA K (.type "NoneType") (.ref d)=Y Z_):XQ K C x b:=(d,a,k,n)
def LH{N:aD}{k:Nat}(a:jf K aW c=Y (Y<|.ref C))(s:jf K aW "SiftError" = Y (Y<|.ref N))(e:PySem.W.exmOne K (.ref C) (.ref N)=Y Z')(hd:nJ K C=Z')(ga:ic K (.ref C) "__getattribute__" = Y (Y<|.builtin "BaseException.__getattribute__"))(gt:ic K (.ref C) "__getattr__" = Y M)(mb:PySem.W.mroIn K C (.type "BaseException")=Y Z')
  (ha:ic K (.ref C) "__class__" = Y (Y<|.builtin "object.__class__")) (hn:PySem.W.specialIn K (.builtin "object.__class__") "__get__" = Y (Y<|.builtin "getset_descriptor.__get__")) (ht:PySem.W.takesIn K (.builtin "object.__class__")=Y Z') (hm:PySem.W.mroIn K C (.type "object")=Y Z')
  (q:XQ K C "NoSign" (k==0)/\XQ K C "NoText" Z_/\XQ K C "NoPart" (k==1)/\XQ K C "Taken" (k==2)/\XQ K C "Late" (k==3)/\jA K (.ref C) (.type "ValueError")=Y Z'):XA K c k C N:=
 (a,((ga,gt,mb),hd,ha,hn,ht,hm),s,e,q)
def XA.ask{N:aD}{k:Nat}(x:XA K c k C N)(g:k=0->Vz K C "at")(X:K.In h)(G:h.Ns aW mg):NI K mg C k:=by
 obtain⟨⟨_,a1,k1⟩,⟨_,a2,k2⟩,⟨_,a3,k3⟩,⟨_,a4,k4⟩,⟨_,a5,k5⟩,k7⟩:=x.k;exact(x.I,g,(_,AJ X G a1,k1),(_,AJ X G a2,k2),(_,AJ X G a3,k3),(_,AJ X G a4,k4),(_,AJ X G a5,k5),k7)
structure XN(K:aS)(C f:aD)(fd:dU):Prop where
 M:XMk K C f
 T:VA K C "at"
 G:Vz K C "at"
 F:gx K "__init__" "NoSign.__init__" n_ f fd
def acX{N f:aD}{od an:↑aD}{sl:Array<|↑au}{oc kV dc pm cd ct:au}(x:XA K "NoSign" 0 C N)(i:ic K (.ref C) "__init__" = Y (Y<|.ref f))(e:wx K C (Y<|.ref f)=Z')(ty:PySem.W.typeIn K (.ref f)=Y (.type "function"))(l:K.lookup f=Y (oc,od,.func<|fnOf "__init__" "NoSign.__init__" (lY n_) (fm n_) (bu n_) .none kV dc pm an cd ct,sl))(c:codeIn K cd "NoSign.__init__" = Z')(k:jU K (.ref f)=Z')
  (sa:ic K (.ref C) "__setattr__" = Y (Y<|.builtin "object.__setattr__")) (po:yx K C=Z') (tk:RZ K C "at" = Y M) (na:ic K (.ref C) "at" = Y M) (kp:jU K (.ref C)=Z'):∃C N f fd,XA K "NoSign" 0 C N/\XN K C f fd:=
 (C,N,f,_,x,W7 e ty kp,(sa,po,tk,x.I.hd),(x.I.pg,x.I.hd,na),IM l c k)
def RK{N:aD}{k:Nat}(x:XA K c k C N)(e:wx K C M=Z')(kp:jU K (.ref C)=Z'):∃C N,XA K c k C N/\GY K C:=(C,N,x,Sl e kp)
end
def Z8{l:PySem.W.OpenLaw}{w:cQ}{K:aS}{h:cG}{mg:aM->↑au}{fa:aD}(X:K.In h)(G:h.Ns aW mg)(hfa:mg "law" = Y (.ref fa))(c:CL K "Facts" /\CL K "Row" /\CL K "Coming" /\CL K "Sift" /\CL K "Tray")(n:∀p∈KL,NA K p.1 p.2)(z:∀x∈ZL,jf K aW x=Y M)(q:FA K "joined_asks" qG/\FA K "copied" BI/\FA K "copied_wish" qH/\FA K "meets" Fj/\FA K "can_hold" wU/\FA K "can_come" wV/\FA K "able_steps" sj/\FA K "top_row" yR/\FA K "_law_draws" yU/\FA K "_law_pop" OG/\FA K "_law_alike" Fk/\FA K "_law_name" JJ/\FA K "_law_names" Fi/\FA K "_law_text" JI/\FA K "_law_signs" Fh/\FA K "_law_wish" CS/\FA K "_law_steps" Fg/\FA K "_law_copy_wish" uq/\FA K "_law_copy_steps" nN/\FA K "_law_kind" CV/\FA K "_law_asked" ur/\FA K "_law_refused" pf/\FA K "_law_put_all" yS/\FA K "_law_step" CT/\FA K "law" qF)(r:MA K "Facts" "new_bit" "Facts.new_bit" om/\MA K "Facts" "enter_step" "Facts.enter_step" lK/\MA K "Facts" "enter" "Facts.enter" mw/\MA K "Facts" "enter_text" "Facts.enter_text" lJ/\MA K "Facts" "lead" "Facts.lead" so/\MA K "Facts" "asked" "Facts.asked" mx/\MA K "Facts" "enter_has" "Facts.enter_has" jD/\MA K "Facts" "__init__" "Facts.__init__" jX/\MA K "Facts" "steps_for" "Facts.steps_for" mv/\MA K "Facts" "text_fact" "Facts.text_fact" mu/\MA K "Facts" "lifted" "Facts.lifted" p'/\MA K "Facts" "fitting" "Facts.fitting" oq/\MA K "Row" "__init__" "Row.__init__" p_/\MA K "Coming" "gone_on" "Coming.gone_on" nz/\MA K "Coming" "moved_out" "Coming.moved_out" lL/\MA K "Coming" "__init__" "Coming.__init__" my/\MA K "Coming" "begin_row" "Coming.begin_row" lM/\MA K "Coming" "spread" "Coming.spread" ou/\MA K "Coming" "add_atoms" "Coming.add_atoms" lN/\MA K "Coming" "settle" "Coming.settle" oz/\MA K "Coming" "newly_told" "Coming.newly_told" k8/\MA K "Coming" "end_row" "Coming.end_row" nA/\MA K "Coming" "feed" "Coming.feed" qI/\MA K "Sift" "__init__" "Sift.__init__" oj/\MA K "Sift" "take" "Sift.take" uw/\MA K "Sift" "told" "Sift.told" uv/\MA K "Tray" "__init__" "Tray.__init__" oi/\MA K "Tray" "put" "Tray.put" CU/\MA K "Tray" "take" "Tray.take" uo/\MA K "Tray" "told" "Tray.told" yf)(y0:∃C N f fd,XA K "NoSign" 0 C N/\XN K C f fd)(y1:∃C N,XA K "NoPart" 1 C N/\GY K C)(y2:∃C N,XA K "Taken" 2 C N/\GY K C)(y3:∃C N,XA K "Late" 3 C N/\GY K C):
  ∃fd:dU,(∀(s:az) (v:au),NZ s fd ([v],[]) [("_law_script",v)])/\∀base:cG,K.In base->base.Ns aW mg->b_ l.prog w K mg base gk 100 fa fd ["_law_script"] (iW K G8):=by
 let(iU,acW,jx,EC,rd):=c;obtain⟨Bm,Gv,sE,K2,z7,IW,DZ,M',U5,acu,K4,Zo,U4,Zm,U0,QP,K1,xj,u_,QQ,K3,Ce,Nb,Zn,⟨fL,fdL,aL,FL⟩⟩:=q;let(xJ,tf,A_,td,Dz,sv,nE,v5,uP,uO,zy,xK,zx,v7,tj,uQ,tm,xM,tp,xN,r9,v8,Ba,xI,wZ,Ge,xH,Wn,Im,P7):=r;let(C0,N,fI,fdI,x0,xn):=y0;let(C1,N1,x1,z1):=y1;let(C2,N2,x2,z2):=y2;let(C3,N3,x3,z3):=y3;cases x1.s.symm.trans x0.s;cases x2.s.symm.trans x0.s;cases x3.s.symm.trans x0.s;have e:=hfa.symm.trans<|AJ X G aL;cases e;have k:KS K mg:=(λp h=>af7 (by rcases(show ∀p∈KL,p.1 = "Facts" \/p.1 = "Row" \/p.1 = "Coming" \/p.1 = "Sift" \/p.1 = "Tray" by decide +kernel) p h with e|e|e|e|e<;>rw[e]<;>assumption)<|n p h,λx h=>mg_none_of X G<|z x h)
 let(oc,od,kV,VJ,pm,an,WS,ct,osl,rfl,_):=FL.ex;refine(fnOf "law" "law" (lY qF) (fm qF) (bu qF) .none kV VJ pm an WS ct,λs v =>.of_eq W,λbase d d =>?_);have e:EN l.prog w K mg base h:=(X,G);have pW:=xJ.r4 e iU λd d F=>vV F k
 have sN:=tf.r4 e iU λd d F=>rW F k pW.m
 have sh:=A_.r4 e iU λd d F=>zo F sN.m
 have sM:=td.r4 e iU λd d F=>rV F k pW.m
 have CM:=Dz.r4 e iU λd d F=>A6 F k
 have AX:=Bm.rE e λd d F=>zl F
 have eM:∀n,dQ l.prog w K mg base "Facts" "asked" (n+3) (spT K aR<|cE n)/\dQ l.prog w K mg base "Facts" "enter_has" (n+3) (spT K aR<|cK n):=λn=>by
  induction n with
  |zero=>exact(sv.r4 (ps:=["self","wish"]) e iU λd d d=>z0T λd=>rfl,nE.r4 (ps:=["self","steps"]) e iU λd d d=>z0T λd=>rfl)
  |succ n ih=>let(sC,uX):=ih;exact(sv.r4 e iU λd d F=>(zq F sM.o uX sC AX.o).mono ž,nE.r4 e iU λd d F=>(s_ F sh.o CM.o sC).mono ž)
 have AY:dQ l.prog w K mg base "Facts" "asked" 15<|spT K aR<|cE 12:=(eM 12).1;have JA:dQ l.prog w K mg base "Facts" "enter_has" 15<|spT K aR<|cK 12:=(eM 12).2;have u5:∀n,iC l.prog w K mg base "copied" (n+0) (iW K<|jR n)/\iC l.prog w K mg base "copied_wish" (n+0) (iW K<|dz n):=λn=>by
  induction n with
  |zero=>exact(Gv.rE (ps:=["steps"]) e λd d d=>z0F λd=>rfl,sE.rE (ps:=["wish"]) e λd d d=>z0F λd=>rfl)
  |succ n ih=>let(Qv,sA):=ih;exact(Gv.rE e λd d F=>(MD F sA).mono ž,sE.rE e λd d F=>(zm F Qv sA).mono ž)
 have Oq:iC l.prog w K mg base "copied" 12<|iW K<|jR 12:=(u5 12).1;have R_:iC l.prog w K mg base "copied_wish" 12<|iW K<|dz 12:=(u5 12).2;have yu:∀n,iC l.prog w K mg base "meets" (n+0)<|iW K<|j_ n:=λn=>by
  induction n with
  |zero=>exact K2.rE (ps:=["ask","atoms"]) e λd d d=>z0F λd=>rfl
  |succ n UD=>exact K2.rE e λd d F=>(PK F k UD).mono ž
 have Jz:iC l.prog w K mg base "meets" 12<|iW K<|j_ 12:=yu 12;have tI:∀n,iC l.prog w K mg base "can_hold" (n+0)<|iW K<|gE n:=λn=>by
  induction n with
  |zero=>exact z7.rE (ps:=["wish"]) e λd d d=>z0F λd=>rfl
  |succ n IA=>exact z7.rE e λd d F=>(FY F k IA).mono ž
 have Hw:iC l.prog w K mg base "can_hold" 12<|iW K<|gE 12:=tI 12;have vF:=v5.Yv e iU λd d F=>uK F k Oq.m sh.m AY.m
 have uf:=uP.r4 e iU λd d F=>sZ F k
 have ue:=uO.r4 e iU λd d F=>sY F k
 have yK:=zy.r4 e iU λd d F=>xF F k Jz.m
 have pX:=xK.r4 e iU λd d F=>vW F k Jz.m
 have pa:=IW.rE e λd d F=>FZ F
 have qC:=zx.Yv e acW λd d F=>xE F k
 have CK:=DZ.rE e λd d F=>A5 F k Hw.m
 have L3:=M'.rE e λd d F=>HZ F k qC.m
 have nZ:=v7.r4 e jx λd d F=>uL F k
 have sO:=tj.r4 e jx λd d F=>rX F k
 have ug:=uQ.Yv e jx λd d F=>tb F k vF.m CK.m L3.m
 have sP:=tm.r4 e jx λd d F=>rY F k qC.m pX.m nZ.m
 have pY:=xM.r4 e jx λd d F=>vX F k pX.m yK.m
 have sQ:=tp.r4 e jx λd d F=>rZ F k pY.m
 have xu:=xN.r4 e jx λd d F=>vY F k nZ.m
 have rS:=r9.r4 e jx λd d F=>qP F k xu.m
 have vG:=v8.r4 e jx λd d F=>uM F k sO.m
 have si:=Ba.r4 e jx λd d F=>zr F k pa.m vG.m sP.m pY.m sQ.m rS.m uf.m ue.m
 have pV:=xI.Yv e EC λd d F=>vU F k ug.m
 have wN:=wZ.r4 e EC λd d F=>uJ F k si.m
 have qB:=Ge.r4 e EC λd d F=>Dq F k
 have Sw:=U5.rE e λd d F=>PL F k
 have Om:=acu.rE e λd d F=>Yt F
 have DS:∀n,iC l.prog w K mg base "_law_alike" (n+0)<|iW K<|lr n:=λn=>by
  induction n with
  |zero=>exact K4.rE (ps:=["_law_found","_law_due"]) e λd d d=>z0F λd=>rfl
  |succ n UE=>exact K4.rE e λd d F=>(PN F k UE).mono ž
 have Sz:iC l.prog w K mg base "_law_alike" 40<|iW K<|lr 40:=DS 40;have Oo:=Zo.rE e λd d F=>TZ F k
 have Sv:=U4.rE e λd d F=>PJ F k Oo.m
 have v_text:=Zm.rE e λd d F=>TV F k
 have Su:=U0.rE e λd d F=>PF F k v_text.m
 have zU:∀n,iC l.prog w K mg base "_law_wish" (n+1) (CW K 0<|gV n)/\iC l.prog w K mg base "_law_steps" (n+1) (CW K 0<|hU n):=λn=>by
  induction n with
  |zero=>exact(QP.rE (ps:=["_law_draws_here","_law_names_here","_law_deep"]) e λd d d=>z0M λd=>rfl,K1.rE (ps:=["_law_draws_here","_law_names_here","_law_deep"]) e λd d d=>z0M λd=>rfl)
  |succ n ih=>let(Qu,UC):=ih;exact(QP.rE e λd d F=>(TR F k Om.o v_text.o UC Qu).mono ž,K1.rE e λd d F=>(PD F k Om.o Qu).mono ž)
 have aem:iC l.prog w K mg base "_law_wish" 13<|CW K 0<|gV 12:=(zU 12).1;have Sq:iC l.prog w K mg base "_law_steps" 13<|CW K 0<|hU 12:=(zU 12).2;have jO:∀n,iC l.prog w K mg base "_law_copy_wish" (n+0) (iW K<|eN n)/\iC l.prog w K mg base "_law_copy_steps" (n+0) (wW K<|fV n):=λn=>by
  induction n with
  |zero=>exact(xj.rE (ps:=["_law_wish_here"]) e λd d d=>z0F λd=>rfl,u_.rE (ps:=["_law_steps_here"]) e λd d d=>z0O λd=>rfl)
  |succ n ih=>let(xb,DK):=ih;exact(xj.rE e λd d F=>(Dp F xb DK).mono ž,u_.rE e λd d F=>(A4 F xb).mono ž)
 have VX:iC l.prog w K mg base "_law_copy_wish" 40<|iW K<|eN 40:=(jO 40).1;have CJ:iC l.prog w K mg base "_law_copy_steps" 40<|wW K<|fV 40:=(jO 40).2;have A0:=x0.ask (λd=>xn.G) X G;have y:OkX l.prog w K mg base "NoSign" 60:=(C0,fI,fdI,x0.a,AJ X G x0.a,xn.M,(PH xn.F xn.T).mono ſ,xn.F.binds<|by walk_at "b");have o1:Jk K mg "NoPart" :=(C1,x1.a,AJ X G x1.a,z1);have o2:Jk K mg "Taken" :=(C2,x2.a,AJ X G x2.a,z2);have o3:Jk K mg "Late" :=(C3,x3.a,AJ X G x3.a,z3);have xt:=xH.Yv e rd λd d F=>vT F k
 have aaM:=Wn.r4 e rd λd d F=>Ys F k pV.m
 have aaL:=Wn.okX e rd λd d F=>TY F k o3 o2
 have Xb:=Im.r4 e rd λd d F=>Ki F k pa.m wN.m
 have Xh:=Im.r4 e rd λd d F=>(Ki F k pa.m wN.m).imp λd d d d=>XH
 have W_:=Im.okX e rd λd d F=>PB F k pa.m y
 have Ol:=P7.r4 e rd λd d F=>TU F k qB.m
 have W9:=P7.okX e rd λd d F=>Pz F k o1
 have Sx:=K3.rE e λd d F=>PM F k aaM
 have Xd:=QQ.rE e λd d F=>(Kj F k A0).imp λd d d d=>abZ
 let(fA,fdA,aA,A):=K3;let(fK,fdK,aK,B):=QQ;have xs:∀c k,Ww c=Y k->∃C,jf K aW c=Y (Y<|.ref C)/\NI K mg C k/\PySem.W.exmOne K (.ref C) (.ref N)=Y true:=λc k h=>by
  unfold Ww at h;split at h
  .cases h;subst c;exact(C0,x0.a,A0,x0.e)
  split at h
  .cases h;subst c;exact(C1,x1.a,x1.ask (λz=>by cases z) X G,x1.e)
  split at h
  .cases h;subst c;exact(C2,x2.a,x2.ask (λz=>by cases z) X G,x2.e)
  split at h
  .cases h;subst c;exact(C3,x3.a,x3.ask (λz=>by cases z) X G,x3.e)
  .cases h
 have BA:=Ce.rE e λd d F=>FX F (ME A k aaL W_ W9) (AJ X G aA) A.kp (A.binds<|by walk_at "b") (Kj B k A0) (AJ X G aK) B.kp (B.binds<|by walk_at "b") xs<|AJ X G x0.s
 have L4:=Ce.rE e λd d F=>H0 F k Sx Xd
 have L5:=Nb.rE e λd d F=>H_ F k CJ.m L4 BA
 have Xn:=wZ.r4 e EC λd d F=>(uJ F k si.m).imp λd d d d=>XI
 have Xc:=Zn.rE e λd d F=>TX F k Sz.m Xn.m Xb.m Ol.m qB.m
 exact Yu FL k Sw.m Om.m Sv.m Sq.m Oo.m Su.m xt.m pV.m BA.m L5 Xc Xh.m Ol.m qB.m
def walk{l:PySem.W.OpenLaw}{q:bj}{ado:!aM}{XP:(aM->↑au)->cG->Prop}{YP:cQ->cG->Prop}{d:DefRec}{K:Params->aS}(hn:l.most=Y 63)(hdf:d.params.defaults=[])
  (hY:∀(w:cQ) (h:cG),YP w h->(K w.params).In h)
  (F:∀(w:cQ) (mg:aM->↑au) (fa:aD) (h:cG),(K w.params).In h->h.Ns aW mg->mg d.name=Y (.ref fa) ->
   ∃fd:dU,(∀(s:az) (u:au),NZ s fd ([u],[]) [("_law_script",u)])/\∀base:cG,(K w.params).In base->base.Ns aW mg->b_ l.prog w (K w.params) mg base gk 100 fa fd ["_law_script"] (iW (K w.params) G8)) :
  PySem.W.WalkO q ado XP YP l.row.toRowW d [] (λf vs=>PySem.call f vs):=
 L2.Oj (n:=63) (k:=100) (x:= "_law_script") (CX:=gk) (sp:=λK=>iW K G8) hn ſ hdf (W,ſ,ſ) hY F (λK H a ns hl hO hS=>YM K21.Qg K H a ns hl hO hS) λb b b b z=>z
end K21
open PySem PySem.W PyProof.Rows
local macro_rules | `(command|#where) => return Lean.mkNullNode <|((List.range' 43 700).map (s!"o_{·}")++"sts_309 tree_308 view_39 sts_145 tree_166 sts_594 sts_648 sts_167 sts_259 tree_70 tree_742 sts_731 sts_492 sts_93 tree_647 sts_508 tree_144 tree_593 tree_507 tree_488 heap_743 tree_129 heap_46 sts_71 tree_730 tree_258 tree_92 sts_130 heap_39 sts_49 tree_408 sts_115 tree_114".splitOn " ").toArray.map fun x=>mk0 "(Lean.Parser.Command.declaration (Lean.Parser.Command.declModifiers (null ) (null ) (null ) (null ) (null ) (null ) (null ) ) (Lean.Parser.Command.theorem theorem (Lean.Parser.Command.declId $0 (null ) ) (Lean.Parser.Command.declSig (null ) (M!typeSpec : %True ) ) (Lean.Parser.Command.declValSimple := (M!anonymousCtor ⟨ (null ) ⟩ ) (Lean.Parser.Termination.suffix (null ) (null ) ) (null ) ) ) )" #[Lean.mkIdent (.str `PySem.W.Fast s!"tw{Lean.Name.hash (.str `PySem.Challenge.cw_earlysift_k14_trays_holds x)}")]
#where
theorem PySem.W.Fast.tw3693998444603643768:True:=⟨⟩
set_option tactic.hygienic true
set_option maxRecDepth 100000 in
set_option maxHeartbeats 0 in
theorem PySem.Challenge.cw_earlysift_k14_trays_holds : PySem.Challenge.rw_earlysift_k14_trays.Holds := by
  w_on; o_law; k_head; (case hw => w_witness2)
  k_fill
  refine K21.walk (l := PySem.Challenge.rw_earlysift_k14_trays) W W (λw h y => PySem.W.kIn_of y) ?F
  case F =>
    intro w mg fa h KX G hmg
    refine' K21.Z8 KX G hmg ?p1 ?p2 ?p3 ?p4 ?p5 ?p6 ?p7 ?p8 ?p9
    (case p1 => and_intros <;> exact K21.adl (by k_is) (by k_is) (by k_is) (by k_is) (by k_is) (by k_is) (by k_is))
    (case p2 => repeat' first |refine K21.ac (by dsimp only; exact K21.ac6 (by k_is) (by k_is)) ?_ |exact nofun)
    (case p3 => repeat' first |refine K21.ac (by k_is) ?_ |exact nofun)
    (case p4 => and_intros <;> exact K21.adf (by k_is) (by k_is) (by k_is) (by k_is))
    (case p5 => and_intros <;> exact K21.ac8 (by k_is) (by k_is) (by k_is) (by k_is) (by k_is) (by k_is))
    (case p6 => exact K21.acX (K21.LH (by k_is) (by k_is) (by kernel_rfl) (by k_is) (by k_is) (by k_is) (by k_is) (by k_is) (by k_is) (by k_is) (by k_is) (by and_intros <;> first |kit_is |exact K21.LG (by k_is) (by kit_is) (by kit_is))) (by k_is) (by kernel_rfl) (by k_is) (by k_is) (by k_is) (by k_is) (by k_is) (by kernel_rfl) (by k_is) (by k_is) (by k_is))
    (case p7 => exact K21.RK (K21.LH (by k_is) (by k_is) (by kernel_rfl) (by k_is) (by k_is) (by k_is) (by k_is) (by k_is) (by k_is) (by k_is) (by k_is) (by and_intros <;> first |kit_is |exact K21.LG (by k_is) (by kit_is) (by kit_is))) (by kernel_rfl) (by k_is))
    (case p8 => exact K21.RK (K21.LH (by k_is) (by k_is) (by kernel_rfl) (by k_is) (by k_is) (by k_is) (by k_is) (by k_is) (by k_is) (by k_is) (by k_is) (by and_intros <;> first |kit_is |exact K21.LG (by k_is) (by kit_is) (by kit_is))) (by kernel_rfl) (by k_is))
    (case p9 => exact K21.RK (K21.LH (by k_is) (by k_is) (by kernel_rfl) (by k_is) (by k_is) (by k_is) (by k_is) (by k_is) (by k_is) (by k_is) (by k_is) (by and_intros <;> first |kit_is |exact K21.LG (by k_is) (by kit_is) (by kit_is))) (by kernel_rfl) (by k_is))
