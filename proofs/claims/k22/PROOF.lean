import PyProof.Rows.All
import Wide.All
import OpenK.AllK
import Wide.FinOn
import Lean
import PyProof.EqAt
import PyProof.EqKinds
import PyProof.TupleCall
import PyProof.NeKinds
import PyProof.StrCalls6
import PyProof.FString5
import PyProof.Rows.StrClose
import PyProof.Rows.BitMore
import PyProof.Rows.SortWalk
import PyProof.ListStr
import PyProof.Rows.SeqCalls
import PyProof.DictItems
import PyProof.SumWalk
import PyProof.Rows.SumGenD
import PySem.Challenge.RW_earlysift_k22_whole_lean_tells_alike
open Option renaming some->Y,none->M,bind_eq_some_iff->aa,map_eq_some_iff->aj,bind_some->aw,map_some->cE,map->BM,bind->ZE
open Bool renaming true->Z',false->Z_,and_eq_true->ax,or_eq_true->bx,false_ne_true->bU,eq_iff_iff->d9,false_eq_true->k_,not_eq_true'->l_,and_eq_true_iff->yb,and_false->NV,or_true->V2
open Classical renaming byContradiction->ae
open PySem.Str renaming ofString->af
open List renaming getElem?_eq_some_iff->ah,getElem?_eq_getElem->ai,getElem?_set_ne->aq,length_map->ar,mem_cons_of_mem->ay,mem_cons_self->az,mem_append->aD,mem_append_right->aE,mem_cons->aG,getElem?_append_left->aI,getElem?_map->aK,mem_append_left->aS,length_append->aU,getElem?_set_self->aX,map_append->aY,map_cons->bg,mem_of_getElem?->bp,replicate->bC,append_assoc->bF,range->bJ,nodup_append->bM,mem_singleton->bP,length_cons->bQ,mem_map->bS,mem_filter->bV,size_toArray->bY,append_nil->bZ,perm_append_comm_assoc->cb,mem_iff_getElem->cK,drop_eq_getElem_cons->da,length_singleton->dm,nil_append->dB,zip_cons_cons->dF,all_eq_true->dI,lookup_cons->eO,getElem?_eq_none_iff->gu,dropLast_concat->gK,all_cons->gZ,mem_map_of_mem->ig,map_congr_left->ij,filterMap_cons->ik,not_mem_nil->iw,mem_iff_getElem?->jc,getElem?_eq_none->jd,getElem?_append_right->jG,map_map->j3,length_take->j4,drop_length->j5,map_take->kF,length_set->kL,find?_cons->kM,getElem?_inj->l4,all_map->l6,getElem_mem->mZ,cons_append->m3,any_cons->nG,length->nU,forall_mem_cons->nV,any_map->pO,pairwise_cons->qg,mem_filterMap->qh,pairwise_iff_getElem->rG,ext_getElem?->rT,zipIdx_cons->uA,filter_cons->uB,zipWith->vI,map_set->vJ,length_nil->vM,dropLast_eq_take->w_,replicate_succ->A7,map->EF,mem_reverse->Ho,length_drop->Hq,filter->HB,range_succ->JL,of_mem_zip->JM,nodup_cons->JN,nodup_nil->NR,mem_range->NS,getD_eq_getElem?_getD->NT,getLast?_eq_some_iff->N9,getLast?_eq_getElem?->N_,getElem?_replicate->SN,zipWith_cons_cons->VX,range_succ_eq_map->VY,pairwise_lt_range->VZ,drop_eq_nil_of_le->V0,replicate_succ'->ZH,range_eq_range'->ZJ,range'->ZK,getLast?_concat->ZM
open PySem renaming starEach->ak,Value->au,Shared->aA,wpAny_bind->aB,Addr->aH,Str->aP,sizeLine->a7,mainGlobals->bc,Program->bh,model->bj,wpAny->bz,wpAny_pure->bD,foldedSetIterable->bR,attributeBase->bT,swapsWith->cg,backTo->cB,Stmt->cH,Heap->cP,keywordEach->cV,World->cW,compareOp->c7,wpAny_passesOwn->de,binaryOp->dr,FuncData->dt,cellsFrom->d5,bootBuiltins->eN,behindInMarks->fh,wpAny_mono->fU,backToKw->fY,wpAny_Call_Name_kw->gI,Around->gM,wpAny_truthy_bool->ir,sysModules->jv,getMethod->jH,wpAny_pyIter_list->j7,Keyword->j8,sizeLine_eq->kE,holding->k9,standAt->nR,callWith->qc,cLine->qf,wpAny_execs_nil->rF,PassesOwn->sU,wpAny_setField_rec->uu,tupleKind_room_in1->uv,wpAny_holding->w8,codeAny->A3,call_meets->A4,assignEach->A5,getItem->NN,codeAny_mono->NO,callerA->NP,BindsTo->NW,tupleKind->Sn,wpAny_field->SK,subscripted->SM,letOwnedTupleGo->VU,wpAny_seqItems->ZD,NameKind->ZG
open PySem.Heap renaming get?_push_of_some->ao,lt_size->aQ,get?_push_size->br,size_push->gL,SameBut->jw,get?_update_other->nW
open Nat renaming le_refl->aF,lt_of_lt_of_le->bo,le_trans->bB,ne_of_lt->bI,zero_le->cZ,le_add_right->fV,testBit_or->iu,le_of_lt->iW,zero_add->jZ,ne_of_gt->j2,lt_succ_self->mY,lt_irrefl->nF,le_succ->nS,eq_of_testBit_eq->nT,testBit_and->oX,testBit_two_pow->A6,zero_testBit->Hn,min_eq_left->JK,min_self->VV,le_of_eq->VW,mul_le_mul_right->ZF
open PySem.W renaming Frag->aV,nsIn->uw,kia_one->ux,findIn->vG,keepIn->BK,instObj->Hy,emptyDict->Hz
open Ne renaming symm->bw
open Option.some renaming inj->bE,injEq->jk
open Int renaming toNat_natCast->bG,emod_lt_of_pos->cq,emod_nonneg->cF,natCast_nonneg->fZ,eq_ofNat_of_zero_le->iy,lt_of_le_of_lt->BN,add_sub_cancel->BO,lt_trans->EH,le_trans->EI,fdiv_eq_ediv_of_nonneg->NU,ofNat_le->V1,negSucc->ZP,le_refl->ZQ
open Sum renaming inr->b_,inl->LV
open PySem.PassesOwn renaming never->cJ
open PyProof.Rows renaming wpS_bind->cR,arrOf->cT,wpS_pure->fD,callWith_type1->fO,callWith_builtin1->mX,envOfC->oY,wpS_forRange->xA,pairsOf->xB,pendingOf->EO,seqObj->Hw,pairsOf_size->Hx,IntsAre->HC,AllBare->HD,nat_or_add_and->LW
open Pure renaming pure->c9
open PySem.F renaming plainAttrs_list->dg
open Function renaming comp_def->dh
open PySem.Value renaming ref->d6,type->uy,int->So
open PySem.Builtin renaming bitOr->eJ,bitNot->uC,bitAnd->uD
open Iff renaming rfl->e_
open Eq renaming trans->f7
open Prod renaming mk->gJ
open Or renaming inl->lZ,inr->BL
open List.Sublist renaming refl->l7
open PySem.Builtin.List renaming listTooLong->l9
open PySem.NameKind renaming free->p_,cell->HA
open Array renaming perm_iff_toList_perm->qj,getElem?_eq_none->V3
open PySem.Txt renaming slice->sT,slice_le->NQ
open PySem.Obj renaming mapSeq->uz
open True renaming intro->vH
open List.Perm renaming of_eq->vN
open ForInStep renaming yield->vO
open PySem.Calls renaming callWith_builtin->A8,spliced_cons->JO,Name_function_global->ZR
open Prod.mk renaming injEq->Bd
open List.Pairwise renaming map->EG,imp_of_mem->Sq,filter->ZO
open PySem.Heap.IsList renaming push->Su
set_option bootstrap.genMatcherCode false
set_option compiler.extract_closed false
set_option genSizeOfSpec false
local macro_rules|`(($a,$b,*))=>`(⟨$a,$b,*⟩)
local macro_rules|`(tactic|omega)=>`(tactic|first|with_reducible(first|assumption|exact Nat.le_succ_of_le (by assumption)|exact Nat.lt_succ_of_lt (by assumption)|exact Nat.le_of_lt (by assumption)|exact Nat.zero_le _|exact Nat.ne_of_lt (by assumption)|exact Nat.lt_succ_self _|exact Nat.le_trans (by assumption) (by assumption)|exact Nat.lt_of_lt_of_le (by assumption) (by assumption)|exact Nat.lt_of_lt_of_eq (by assumption) (by assumption)|exact Nat.lt_of_le_of_lt (by assumption) (by assumption))|omega (config:={})|lia)
section
variable{g:Prop}
theorem fE1{p:α→Prop}(k:∀a,p a→g):(∃a,p a)→g:=λ⟨a,h⟩=>k a h
theorem fE2{p:α→β→Prop}(k:∀a b,p a b→g):(∃a b,p a b)→g:=λ⟨a,b,h⟩=>k a b h
theorem fE3{p:α→β→γ→Prop}(k:∀a b c,p a b c→g):(∃a b c,p a b c)→g:=λ⟨a,b,c,h⟩=>k a b c h
theorem fE4{p:α→β→γ→δ→Prop}(k:∀a b c d,p a b c d→g):(∃a b c d,p a b c d)→g:=λ⟨a,b,c,d,h⟩=>k a b c d h
theorem fE5{p:α→β→γ→δ→ε→Prop}(k:∀a b c d e,p a b c d e→g):(∃a b c d e,p a b c d e)→g:=λ⟨a,b,c,d,e,h⟩=>k a b c d e h
theorem fA1{p q:Prop}(k:p→q→g)(h:p∧q):g:=k h.1 h.2
theorem fA2{p q r:Prop}(k:p→q→r→g)(h:p∧q∧r):g:=k h.1 h.2.1 h.2.2
theorem fA3{p q r s:Prop}(k:p→q→r→s→g)(h:p∧q∧r∧s):g:=k h.1 h.2.1 h.2.2.1 h.2.2.2
theorem fA4{p q r s t:Prop}(k:p→q→r→s→t→g)(h:p∧q∧r∧s∧t):g:=k h.1 h.2.1 h.2.2.1 h.2.2.2.1 h.2.2.2.2
theorem fA5{p q r s t u:Prop}(k:p→q→r→s→t→u→g)(h:p∧q∧r∧s∧t∧u):g:=k h.1 h.2.1 h.2.2.1 h.2.2.2.1 h.2.2.2.2.1 h.2.2.2.2.2
theorem fA6{p q r s t u v:Prop}(k:p→q→r→s→t→u→v→g)(h:p∧q∧r∧s∧t∧u∧v):g:=k h.1 h.2.1 h.2.2.1 h.2.2.2.1 h.2.2.2.2.1 h.2.2.2.2.2.1 h.2.2.2.2.2.2
theorem fA7{p q r s t u v w:Prop}(k:p→q→r→s→t→u→v→w→g)(h:p∧q∧r∧s∧t∧u∧v∧w):g:=k h.1 h.2.1 h.2.2.1 h.2.2.2.1 h.2.2.2.2.1 h.2.2.2.2.2.1 h.2.2.2.2.2.2.1 h.2.2.2.2.2.2.2
end
open Lean in
def sx0(v:Array Syntax)(s:List String)(a:Array Syntax)(p:List (Name×Array Syntax)):Syntax:=match s with
 |[]=>a.getD 0 .missing
 |w::s=>
  let c:=w.front
  let r:=(w.drop 1).toString
  if w=="" then sx0 v s a p else if c=='(' then sx0 v s #[] ((r.toName,a)::p) else if c==')' then sx0 v s ((p.headD (.anonymous,#[])).2.push (mkNode (p.headD (.anonymous,#[])).1 a)) p.tail else sx0 v s (a.push (if c=='$' then v.getD (w.back.toNat-48) .missing else if c=='%' then mkIdent r.toName else mkAtom (if c=='[' then "(" else if c==']' then ")" else w))) p
def mk0(s:String)(v:Array Lean.Syntax):=sx0 v (((s.replace "T!" "Lean.Parser.Tactic.").replace "M!" "Lean.Parser.Term.").splitOn " ") #[] []
open Lean in
def fx0(A:Array Syntax):Syntax:=
 let n:=(A.size+1)/2
 let d(k:Nat):="$"++(Char.ofNat (48+k)).toString
 let h(k:Nat):="(T!rintroPat.one (T!rcasesPat.paren [ "++d k++" ] ) ) "
 mk0 ("(T!first first (null "++String.join (("fE5 fE4 fE3 fE2 fE1 fA7 fA6 fA5 fA4 fA3 fA2 fA1".splitOn " ").map fun f=>
  let i:=f.back.toNat-48
  if n<=i then "" else "(group | (T!tacticSeq (T!tacticSeq1Indented (null (T!refine refine (M!app %"++f++" (null (M!syntheticHole ? _ ) ) ) ) ; (T!«tactic_<;>_» (T!rintro rintro (null "++String.join ((List.range i).map h)++") (null ) ) <;> (T!rintro rintro (null "++(if n=i+1 then h i else "(T!rintroPat.one (T!rcasesPat.tuple ⟨ (null "++String.join (((List.range n).drop i).map (d ·++" , "))++") ⟩ ) )")++" ) (null ) ) ) ) ) ) ) ")++") )") ((Array.range n).map fun k=>A.getD (2*k) .missing)
def rx0(t e x:Lean.Syntax):=mk0 "(T!paren [ (T!tacticSeq (T!tacticSeq1Indented (null (T!refine refine (M!noImplicitLambda no_implicit_lambda% (M!app (M!typeAscription (M!hygienicLParen [ (hygieneInfo % ) ) (M!syntheticHole ? _ ) : (null (M!arrow $0 → (M!hole _ ) ) ) ] ) (null $1 ) ) ) ) ; $2 ) ) ) ] )" #[t,e,x]
open Lean in
local macro_rules(kind:=Lean.Parser.Tactic.obtain)
|s=>
 let p:=s[1][0][0][0]
 let e:=s[3][1][0]
 if s[1][0][0].getNumArgs !=1||!p.isOfKind `Lean.Parser.Tactic.rcasesPat.tuple||p[1].getNumArgs<3||!s[2].isNone then Macro.throwUnsupported else return rx0 (mk0 "(M!hole _ )" #[]) e (mk0 (if e.isIdent then "(T!paren [ (T!tacticSeq (T!tacticSeq1Indented (null (T!tacticTry_ try (T!tacticSeq (T!tacticSeq1Indented (null (T!clear clear (null $1 ) ) ) ) ) ) ; $0 ) ) ) ] )" else "$0") #[fx0 p[1].getArgs,e])
open Lean in
local macro_rules(kind:=Lean.Parser.Tactic.tacticLet__)
|s=>
 let d:=s[2][0]
 if !d[1].isNone then Macro.throwUnsupported else if d.isOfKind `Lean.Parser.Term.letIdDecl then return rx0 (if d[2].isNone then mk0 "(M!hole _ )" #[] else d[2][0][1]) d[4] (mk0 "(T!intro intro (null $0 ) )" #[d[0][0]])
 else if !d[0].isOfKind `Lean.Parser.Term.tuple&&!d[0].isOfKind `Lean.Parser.Term.anonymousCtor then Macro.throwUnsupported else do
  let z:=mkIdent (←Macro.addMacroScope `z)
  return mk0 "(T!obtain obtain (null (T!rcasesPatMed (null (T!rcasesPat.tuple ⟨ $0 ⟩ ) ) ) ) (null ) (null := (null $1 ) ) )" #[mkNullNode ((if d[0].getNumArgs==3&&d[0][0].isAtom then d[0][1].getArgs else #[d[0][1][0],d[0][1][1]]++d[0][1][2].getArgs).map fun x=>if x.isAtom then x else mk0 "(T!rcasesPatLo (T!rcasesPatMed (null (T!rcasesPat.one $0 ) ) ) (null ) )" #[if x.isIdent then x else z]),d[4]]
open Lean in
local macro_rules(kind:=Lean.Parser.Tactic.rintro)
|s=>
 let q:=s[1].getArgs
 match q.findIdx? fun x=>x[0].isOfKind `Lean.Parser.Tactic.rcasesPat.tuple&&x[0][1].getNumArgs>2 with
 |none=>Macro.throwUnsupported
 |some i=>return if q.size<2 then fx0 q[i]![0][1].getArgs else mk0 "(T!«tactic_<;>_» (T!«tactic_<;>_» (T!rintro rintro $0 (null ) ) <;> (T!rintro rintro (null $1 ) (null ) ) ) <;> (T!rintro rintro $2 (null ) ) )" #[mkNullNode (q.extract 0 i),q[i]!,mkNullNode (q.extract (i+1) q.size)]
noncomputable section
set_option maxRecDepth 100000
set_option maxHeartbeats 4000000
open PySem.W (Frag mg_of nsIn mg_none_of findIn kia_one fnOf emptyDict keepIn instObj kitOne codeIn plainGet hasDictIn plainOver takerIn makesIn methodObj lookIn)
open PySem.F (plainAttrs_list)
set_option Elab.async false
set_option tactic.hygienic false
set_option linter.all false
def tq0(s:String):=mk0 ("(T!tacticSeq (T!tacticSeq1Indented (null "++s++" ) ) )") #[]
def Ū:=tq0 "(T!decide decide (T!optConfig (null ) ) )"
def š:=tq0 "(T!omega omega (T!optConfig (null ) ) )"
def ŝ:=tq0 "(T!lia lia (T!optConfig (null ) ) )"
def Ŝ:=tq0 "(T!simp simp (T!optConfig (null ) ) (null ) (null ) (null ) (null ) )"
def ś:=tq0 "(T!simpAll simp_all (T!optConfig (null ) ) (null ) (null ) (null ) )"
def Ś:=tq0 "(tacticKernel_rfl kernel_rfl )"
def ř:=tq0 "(T!solveByElim solve_by_elim (null ) (T!optConfig (null ) ) (null ) (null ) (null ) )"
def Ř:=tq0 "(T!grind grind (T!optConfig (null ) ) (null ) (null ) (null ) )"
def ţ:=tq0 "(T!decide decide (T!optConfig (null (T!configItem (T!posConfigItem + %kernel ) ) ) ) )"
def Ű:=tq0 "(T!first first (null (group | (T!tacticSeq (T!tacticSeq1Indented (null (T!exact exact (M!app %lZ (null %rfl ) ) ) ) ) ) ) (group | (T!tacticSeq (T!tacticSeq1Indented (null (T!exact exact (M!app %BL (null (M!paren (M!hygienicLParen [ (hygieneInfo % ) ) (M!app %lZ (null %rfl ) ) ] ) ) ) ) ) ) ) ) (group | (T!tacticSeq (T!tacticSeq1Indented (null (T!exact exact (M!app %BL (null (M!paren (M!hygienicLParen [ (hygieneInfo % ) ) (M!app %BL (null %rfl ) ) ] ) ) ) ) ) ) ) ) ) )"
def Ů:=tq0 "(PyProof.Rows.tacticWalk_at_ walk_at (str \"b\" ) )"
def Ŭ:=tq0 "(T!tacticRfl rfl )"
def ũ:=tq0 "(T!intro intro (null (M!hole _ ) ) ) ; (T!tacticRfl rfl )"
def ŧ:=tq0 "(T!first first (null (group | (T!tacticSeq (T!tacticSeq1Indented (null (T!exact exact (M!app (M!dotIdent . %inl ) (null %rfl ) ) ) ) ) ) ) (group | (T!tacticSeq (T!tacticSeq1Indented (null (T!exact exact (M!app (M!dotIdent . %inr ) (null %rfl ) ) ) ) ) ) ) (group | (T!tacticSeq (T!tacticSeq1Indented (null (T!assumption assumption ) ) ) ) ) ) )"
def ť:=tq0 "(T!intro intro (null %a ) ) ; (T!simpAll simp_all (T!optConfig (null ) ) (null ) (null ) (null ) )"
def Š:=tq0 "(T!exact exact (M!fun λ (M!basicFun (null %a %a ) (null ) => %rfl ) ) )"
def ŗ:=tq0 "(PyProof.Rows.tacticWalk_at_ walk_at (str \"s\" ) )"
def Ŗ:=tq0 "(PyProof.Rows.tacticWalk_at_ walk_at (str \"o\" ) )"
def ŕ:=tq0 "(T!first first (null (group | (T!tacticSeq (T!tacticSeq1Indented (null (T!exact exact (M!app %PV (null (M!hole _ ) %ſ %ſ ) ) ) ) ) ) ) (group | (T!tacticSeq (T!tacticSeq1Indented (null (T!tacticRfl rfl ) ) ) ) ) ) )"
def Ŕ:=tq0 "(T!intro intro (null (M!hole _ ) ) ) ; (T!tacticRfl rfl )"
def œ:=tq0 "(T!intro intro (null %s %t %h1 %h2 ) ) ; (T!exact exact (M!app %XO (null %h1 %h2 %Sg ) ) )"
def Œ:=tq0 "(T!exact exact %PyProof.Rows.boot_list )"
def ő:=tq0 "(T!first first (null (group | (T!tacticSeq (T!tacticSeq1Indented (null (T!exact exact (M!app %lE (null %rfl %rfl %rfl %rfl ) ) ) ) ) ) ) (group | (T!tacticSeq (T!tacticSeq1Indented (null (T!exact exact (M!app %Lv (null %rfl %rfl ) ) ) ) ) ) ) ) )"
def Ő:=tq0 "(T!exact exact (M!fun λ (M!basicFun (null %n %g %g %g %g ) (null ) => (M!app %hW (null %n %rfl (M!paren (M!hygienicLParen [ (hygieneInfo % ) ) (M!app (M!dotIdent . %inl ) (null %rfl ) ) ] ) ) ) ) ) )"
def ŏ:=tq0 "(T!exact exact (M!fun λ (M!basicFun (null %g %g %g %g ) (null ) => (M!app %vP (null (num 0 ) ) ) ) ) )"
def Ŏ:=tq0 "(T!assumption assumption )"
local macro_rules|`(@&$x)=>`(autoParam $x Ŭ)
local macro_rules|`(‹$x›)=>`(autoParam $x Ū)
local macro_rules|`(!$x)=>`(List $x)
local macro_rules|`(↑$x)=>`(Option $x)
def W{p:Sort u}{a:p}:a=a:=rfl
theorem ſ{p:Prop}(h:‹p›):p:=h
theorem ž{p:Prop}(h:autoParam p š):p:=h
theorem Ž{p:Prop}(h:autoParam p ŝ):p:=h
theorem ż{p:Prop}(h:autoParam p Ŝ):p:=h
theorem Ż{p:Prop}(h:autoParam p ś):p:=h
theorem ź{p:Prop}(h:autoParam p Ś):p:=h
theorem Ÿ{p:Prop}(h:autoParam p ř):p:=h
theorem ŷ{p:Prop}(h:autoParam p Ř):p:=h
theorem Ų{p:Prop}(h:autoParam p ţ):p:=h
namespace L2
open PySem PySem.Spec PyProof.Rows
abbrev ju:=Sum Int aP
noncomputable def Cc:ju->au->Bool
 |.inl k,v=>Value.isInt k v|.inr x,v=>Value.isStrOf x v
noncomputable def ae4(w:cW):ju->Int
 |.inl k=>hashInt k|.inr x=>hashStr w x
theorem fF:∀ {k:ju}{v:au},Cc k v=Z'->(∃i t,k=LV i/\v=So i t)\/(∃x t,k=b_ x/\v=Value.str x t)
 |.inl i,v,h=>by let(t,e):=Value.isInt_shape h;exact .inl (i,t,W,e)
 |.inr x,v,h=>by let(t,e):=Value.isStrOf_shape h;exact .inr (x,t,W,e)
def MU(i:Int)(t:Tok):Cc (.inl i) (.int i t)=true:=by simp[Cc,Value.isInt]
def MT(x:aP)(t:Tok):Cc (.inr x) (.str x t)=true:=by simp[Cc,Value.isStrOf]
def Yv(a b:Int):decide ((LV a:ju)=LV b)=(a==b):=by
 lia
def Ys(a b:aP):decide ((b_ a:ju)=b_ b)=decide (a=b):=by
 simp_all
def Yu(a:Int)(b:aP):decide ((LV a:ju)=b_ b)=false:=decide_eq_false λq=>nomatch q
def Yt(a:aP)(b:Int):decide ((b_ a:ju)=LV b)=false:=decide_eq_false λq=>nomatch q
def iP(prog:bh)(w:cW):PySem.KeyKind prog w ju where
 is:=Cc
 hash:=ae4 w
 inj:=λv a b l f=>by
  obtain⟨i,t,rfl,rfl⟩|⟨x,t,rfl,rfl⟩:=fF l
  .obtain⟨j,u,rfl,e⟩|⟨y,u,rfl,e⟩:=fF f
   .injection e with e1 _;rw[e1]
   .exact nomatch e
  .obtain⟨j,u,rfl,e⟩|⟨y,u,rfl,e⟩:=fF f
   .exact nomatch e
   .injection e with e1 _;rw[e1]
 byValue:=λk v h=>by
  obtain⟨i,t,rfl,rfl⟩|⟨x,t,rfl,rfl⟩:=fF h<;>rfl
 pyHash:=λc h=>by
  obtain⟨i,t,rfl,rfl⟩|⟨x,t,rfl,rfl⟩:=fF c
  .exact wpAny_pyHash_int h
  .exact wpAny_pyHash_str h
 eqBool:=λg c h=>by
  obtain⟨i,t,rfl,rfl⟩|⟨x,t,rfl,rfl⟩:=fF g
  .obtain⟨j,u,rfl,rfl⟩|⟨y,u,rfl,rfl⟩:=fF c
   .rw[Yv]at h;exact wpAny_eqBool_int h
   .rw[Yu]at h;exact SeqAt.EqAt.int_str i t y u _ _ _ _ h
  .obtain⟨j,u,rfl,rfl⟩|⟨y,u,rfl,rfl⟩:=fF c
   .rw[Yt]at h;exact SeqAt.EqAt.str_int x t j u _ _ _ _ h
   .rw[Ys]at h;exact wpAny_eqBool_str h
 «strs» :=λk x t v h=>by
  obtain⟨i,u,rfl,e⟩|⟨y,u,rfl,e⟩:=fF h
  .exact nomatch e
  .injection e with e1 _
   subst e1
   cases v<;>rfl
def Gc(prog:bh)(w:cW)(i:Int)(t:Tok):(iP prog w).is (.inl i) (.int i t)=true:=MU i t
def Gb(prog:bh)(w:cW)(x:aP)(t:Tok):(iP prog w).is (.inr x) (.str x t)=true:=MT x t
inductive V where
 |dC|bl (b:Bool)|int (i:Int)|str (x:aP)|Jx (b:Array UInt8)|SD (b:UInt64)|ref (a:aH)|ty (n:String)
 deriving DecidableEq
def RelV:V->au->Prop
 |.dC,u=>u=Value.none|.bl b,u=>u=Value.bool b|.int i,u=>∃t,u=So i t|.str x,u=>∃t,u=Value.str x t|.Jx b,u=>∃t,u=Value.bytes b t|.SD b,u=>∃t,u=Value.float b t|.ref a,u=>u=d6 a|.ty n,u=>u=uy n
abbrev cf:!V->!au->Prop:=Paired RelV
def cf.length{xs:!V}{a:!au}(r:cf xs a):xs.length=a.length:=Paired.length r
theorem cf.get:∀ {xs:!V}{a:!au}{i:Nat}{x:V},cf xs a->xs[i]?=Y x->∃u,a[i]?=Y u/\RelV x u
 |_,_,_,_,.nil,e=>by simp at e
 |_,_,0,_,.cons r _,e=>by simp_all
 |_,_,i+1,x,.cons _ t,e=>by let(u,J,z):=cf.get (i:=i) (x:=x) t (by trivial);exact(u,by trivial,z)
theorem cf.set{u:au}(r:RelV x u):∀ {xs:!V}{a:!au}(i:Nat),cf xs a->cf (xs.set i x) (a.set i u)
 |_,_,_,.nil =>.nil|_,_,0,.cons _ t =>.cons r t|_,_,i+1,.cons q t =>.cons q<|cf.set r i t
def cf.append{xs ys:!V}{b a:!au}(h:cf xs b)(s:cf ys a):cf (xs++ys)<|b++a:=by
 induction h with|nil=>exact s|cons r _ ih=>solve_by_elim
theorem cf.take:∀ {xs:!V}{a:!au}(n:Nat),cf xs a->cf (xs.take n) (a.take n)
 |_,_,0,_ =>.nil|_,_,_+1,.nil =>.nil|_,_,n+1,.cons r t =>.cons r<|cf.take n t
theorem cf.drop:∀ {xs:!V}{a:!au}(n:Nat),cf xs a->cf (xs.drop n) (a.drop n)
 |_,_,0,r=>r|_,_,_+1,.nil =>.nil|_,_,n+1,.cons _ t=>cf.drop n t
def rp:↑V->↑au->Prop
 |some v,Y u=>RelV v u|none,M=>True|_,_=>False
def KV{a:Type}:!(a×V)->!(a×au)->Prop:=Paired λ(p:a×V) (q:a×au)=>p.1=q.1/\RelV p.2 q.2
noncomputable def kV:ju->V
 |.inl i =>.int i|.inr x =>.str x
inductive HO where
 |lst (xs:!V)
 |tup (xs:!V)
 |dK (fg:!(ju×V))|dT (fg:!(!ju×V))
 |set (S:Int->Bool) (n:Nat)
 |ins (C dx:aH) (fs:!(aP×V))
 |Z (x:aH)
 |xd (fs:!(aP×V))
 |met (f x:aH)
 |rng (lo hi:Int)
 |KW (o:Obj) (u:HO)
 |W9 (ps:Array au)
 |ext (φ:cP->Prop)
abbrev Hp:=aH->↑HO
noncomputable def cU(H:Hp)(a:aH)(o:HO):Hp:=λb=>if b=a then Y o else H b
def a9{a:aH}{o:HO}:cU H a o a=Y o:=by unfold cU;rw[if_pos W]
theorem aO{a:aH}{o:HO}(h:b≠a):cU H a o b=H b:=by unfold cU;rw[if_neg h]
def S9{o:HO}:cU (cU H a o) a u=cU H a u:=by
 grind [cU]
def F_{H:Hp}{a:aH}(h:H a=Y o)(h':H b=Y u)(d:o≠u):a≠b:=by
 lia
def bf{H:Hp}(h:H a=Y o)(h':H b=M):a≠b:=by
 lia
section
variable (P:bh)(w:cW)
def iY(H:Hp)(h:cP)(a:aH):HO->Prop
 |.lst xs=>xs.length<=a7/\∃(g:!au) (b:Nat),cf xs g/\h.get? a=Y { cls :=.type "list",data :=.seq g.toArray b }|.tup xs=>xs.length<=a7/\∃g:!au,cf xs g/\IsTup h a g.toArray|.dK e=>e.length<=a7/\(a==jv)=Z_/\∃l,KV e l/\h.DictOf (iP P w) a l| .dT e=>e.length<=a7/\(a==jv)=Z_/\∃xs:!(!ju×aH×au),
   Paired (λ(p:!ju×V) (c:!ju×aH×au)=>p.1=c.1/\H c.2.1=Y (.tup<|p.1.map kV)/\RelV p.2 c.2.2) e xs /\
   ∃o es m,h.get? a=Y o/\o.ExactDict/\o.data=.dict es m/\es.toList=xs.map (entryOfKey<|Sn<|iP P w)/\(xs.map (·.1)).Nodup
 |.set S b=>h.SetOf (intKind P w) a S b| .ins C dx j=>H dx=Y (.Z a)/\j.length<=1000/\dx≠a/\h.get? a=Y (Hy C dx) /\
   ∃mA,h.Ns1 dx mA/\(∀f,rp (j.lookup f)<|mA f)/\PySem.Within mA (j.map (·.1))
 |.Z _=>∃o,h.get? a=Y o|.xd j=>∃mA,h.Ns1 a mA/\∀f,rp (j.lookup f) (mA f)|.rng n L=>∃t u v,h.get? a=Y { cls :=.type "range",data :=.fields #[.int n t,.int L u,.int 1 v] }|.KW o u=>h.get? a=Y o/\iY H h a u|.W9 q=>h.get? a=Y { cls :=.none,data :=.fields q }|.met f x=>h.get? a=Y (methodObj (.ref f)<|.ref x)
 |.ext k=>k h/\(∃o,h.get? a=Y o)/\∀J z:cP,k J->(∀o,J.get? a=Y o->z.get? a=Y o)->k z
def nO(H:Hp)(h:cP):Prop:=∀a o,H a=Y o->iY P w H h a o
end
section
variable {P:bh}
def iY.lt(x:iY P w H h a o):a<h.objs.size:=by
 cases o with
 |lst xs=>let(_,_,_,_,e):=x;exact aQ e
 |tup xs=>let(_,_,_,p):=x;exact p.lt
 |set S b=>let(o,_,_,_,e,_):=x;exact aQ e
 |ins C dx j=>let(_,_,_,e,_):=x;exact aQ e
 |Z y=>let(_,e):=x;exact aQ e
 |xd j=>obtain⟨_,⟨_,_,_,e,_⟩,_⟩:=x;exact aQ e
 |rng n L=>let(_,_,_,e):=x;exact aQ e
 |KW k u=>let(e,_):=x;exact aQ e
 |W9 q=>exact aQ x|met f y=>exact aQ x|ext g=>obtain⟨_,⟨_,e⟩,_⟩:=x;exact aQ e
 |_=>let(_,_,_,_,o,_,_,e,_):=x;exact aQ e
def Paired.abq{h g:Type}{F G:h->g->Prop}{e:!h}{c:!g}(p:Paired F e c)(f:∀a b,F a b->G a b):Paired G e c:=by
 induction p with|nil=>exact .nil|cons r _ ih=>solve_by_elim
def iY.Bk(x:iY P w H h a o)(k:∀b u,(b=a\/H b=Y (.Z a))->h.get? b=Y u->h'.get? b=Y u)(Q:∀b,H b=Y (.Z a)->H' b=Y (.Z a))(i:∀b xs,H b=Y (.tup xs)->H' b=Y (.tup xs)):iY P w H' h' a o:=by
 induction o with
 |lst xs=>let(z,A,g,r,e):=x;exact(z,A,g,r,k _ _ (.inl W) e)
 |tup xs=>let(z,A,r,m,e,c):=x;exact(z,A,r,m,k _ _ (.inl W) e,c)
 |dK E=>let(z,y,F,r,m,es,s,e,c):=x;exact(z,y,F,r,m,es,s,k _ _ (.inl W) e,c)
 |dT E=>let(z,y,xs,r,m,es,s,e,c):=x;exact(z,y,xs,Paired.abq r λp l z=>(z.1,i _ _ z.2.1,z.2.2),m,es,s,k _ _ (.inl W) e,c)
 |set S g=>let(m,es,s,t,e,c):=x;exact(m,es,s,t,k _ _ (.inl W) e,c)
 |ins C dx j=>obtain⟨d,z,K,e,mA,⟨D,es,s,R,c⟩,r⟩:=x;exact(Q _ d,z,K,k _ _ (.inl W) e,mA,(D,es,s,k _ _ (.inr d) R,c),r)
 |Z y=>let(m,e):=x;exact(m,k _ _ (.inl W) e)
 |xd j=>obtain⟨mA,⟨D,es,s,e,c⟩,r⟩:=x;exact(mA,(D,es,s,k _ _ (.inl W) e,c),r)
 |rng n L=>let(t,u,v,e):=x;exact(t,u,v,Ÿ)
 |KW m u ih=>let(e,l):=x;exact(k _ _ (.inl W) e,ih l)
 |W9 q=>solve_by_elim|met f y=>solve_by_elim|ext T=>obtain⟨p,⟨o,e⟩,st⟩:=x;exact(st _ _ p λo l=>k _ _ (.inl W) l,Ż,st)
def nO.lt(x:nO P w H h)(e:H a=Y o):a<h.objs.size:=(x a o e).lt
def nO.fresh(x:nO P w H h)(e:h.objs.size<=a):H a=none:=by
 rcases q:H a with _|u
 .rfl
 exact absurd (bo (x.lt q) e) Ż
def nO.kept(x:nO P w H h)(k:∀b u,h.get? b=Y u->h'.get? b=Y u):nO P w H h':=λa o e=>
 (x a o e).Bk (λb u c q=>k b u q) (λc q=>q) λc c q=>q
def nO.laid(x:nO P w H h)(k:∀b u,h.get? b=Y u->h'.get? b=Y u)(m:h.objs.size<=a)(f:iY P w (cU H a o) h' a o):nO P w (cU H a o) h':=λb u e=>by
 let g:=x.fresh m;by_cases l:b=a
 .simp_all [a9]
 .rw[aO l]at e;exact(x b u e).Bk (λc v d q=>k c v q) (λc q=>by rw[aO<|bf q g];exact q) λc xs q=>by rw[aO<|bf q g];exact q
end
def Rd(H:Hp)(a:aH)(u:HO):Prop:=H a=Y u\/∃o,H a=Y (.KW o u)
def Rd.of(h:H a=Y u):Rd H a u :=.inl h
def Rd.ok{P:bh}{a:aH}(r:Rd H a u)(x:nO P w H h):iY P w H h a u:=by
 obtain r|⟨o,r⟩:=r
 .exact x a u r
 .let(_,q):=x a _ r;exact q
def Mut:↑HO->Prop
 |some (.lst _)=>True|some (.dK _)=>True|some (.dT _)=>True|some (.set _ _)=>True|some (.ins _ _ _)=>True|some (.ext _)=>True|_=>False
section
variable {P:bh}
def nO.write(C:nO P w H h)(l:Mut<|H x)(A:e=x\/H e=Y (.Z x))(k:∀b u,b≠e->h.get? b=Y u->h'.get? b=Y u)(s:∃u,h'.get? e=Y u)(p:iY P w (cU H x o') h' x o'):nO P w (cU H x o') h':=λb u q=>by
 have f:∀c y,H c=Y (.Z y)->c≠x:=λc y r z=>by subst z;rw[r]at l;exact l
 have g:∀c xs,H c=Y (.tup xs)->c≠x:=λc xs r z=>by subst z;rw[r]at l;exact l
 by_cases o:b=x
 .subst o;rw[a9]at q;cases q;exact p
 .rw[aO o]at q;by_cases a:b=e
  .let t:H b=Y (.Z x):=by lia
   rw[q]at t;cases t;let(v,D):=s;exact(v,Ż)
  .refine(C b u q).Bk (λc v m r=>k c v ?_ r) λc r=>by simp_all [aO] λc xs r=>by simp_all [aO]
   grind
end
structure Un(fs ex:!aH)(H H':Hp)(h h':cP):Prop where
 keep:∀b o,h.get? b=some o->H b=none->b∉fs->b∉ex->h'.get? b=some o
 slot:∀b o,h.get? b=some o->H b=none->b∈fs->b∉ex->∃sl,h'.get? b=some { o with slots:=sl }
 free:∀b o,h.get? b=some o->H b=none->b∉ex->H' b=none
 there:∀b o,h.get? b=some o->b∉ex->∃o',h'.get? b=some o'
 EY:∀b xs,H b=some (.tup xs)->H' b=some (.tup xs)
 DX:∀b o u,H b=some (.KW o u)->H' b=some (.KW o u)
 E8:∀b ps,H b=some (.W9 ps)->∃more,H' b=some (.W9<|ps++more)
def Un.any(u:Un j ex H O h J){a:Obj}(q:h.get? b=Y a)(n:H b=M)(c:b∉ex):∃f,J.get? b=Y { a with slots:=f }:=by
 by_cases e:b∈j
 .exact u.slot b a q n e c
 .exact(_,u.keep b a q n e c)
def Un.kept(k:∀b u,h.get? b=Y u->h'.get? b=Y u):Un j ex H H h h':=
 (λb c a d d d=>k b c a,λb c a d d d=>(_,k b c a),λd d d n d=>n,λb c a d=>(c,k b c a),λd d a=>a,λd d d a=>a,λd q a=>(#[],by rw[a];trivial))
def Un.refl:Un j ex H H h h:=Un.kept λa a q=>q
def Un.laid(k:∀b u,h.get? b=Y u->h'.get? b=Y u)(f:h.objs.size<=a)(e:H a=M):Un j ex H (cU H a o) h h' where
 keep:=λb u c d d d=>k b u c
 slot:=λb u c d d d=>(u.slots,k b u c)
 free:=λb u c n d=>by rw[aO<|bI<|bo (aQ c) f];exact n
 there:=λb u c d=>(u,k b u c)
 EY:=λb xs c=>by rw[aO<|bf c e];exact c
 DX:=λb u xs c=>by rw[aO<|bf c e];exact c
 E8:=λb q c=>(#[],by rw[aO<|bf c e,c];trivial)
def Un.write(f:Mut<|H x)(s:e=x\/H e=Y (.Z x))(k:∀b u,b≠e->h.get? b=Y u->h'.get? b=Y u)(l:∃u,h'.get? e=Y u):Un j ex H (cU H x o) h h':=by
 have m:∀b,H b=M->b≠x:=λb n z=>by subst z;rw[n]at f;exact f
 have p:∀b,H b=M->b≠e:=λb n z=>by simp_all
 have g:∀b u,H b=Y u->¬Mut (Y u)->b≠x:=λb u a nm z=>by simp_all
 refine(λb u a n c c=>k b u (p b n) a,λb u a n c c=>(_,k b u (p b n) a),λb u a n c=>by simp_all [aO],λb u a c =>?_,
  λb xs a=>by rw[aO<|g b _ a λz=>z];exact a,λb u xs a=>by rw[aO<|g b _ a λz=>z];exact a,λb q a=>(#[],by rw[aO<|g b _ a λz=>z,a];trivial))
 grind
noncomputable def trk(h:cP)(H:Hp):!aH:=(bJ h.objs.size).filter λa=>(H a).isSome
def IW(h:cP)(H:Hp):cP:=PySem.W.hideAll h<|trk h H
def M6(h:cP)(H:Hp):(IW h H).objs.size=h.objs.size:=PySem.W.hideAll_size _ _
def QD(e:h.get? b=Y o)(n:H b=M):(IW h H).get? b=Y o:=
 PySem.W.hideAll_get _ e λa=>by
  let q:=(bV.mp a).2
  simp_all
def Ul(e:(IW h H).get? b=Y o):h.get? b=Y o/\H b=none:=by
 let a:=PySem.W.of_hideAll _ e;refine(a,?_);rcases q:H b with _|x
 .rfl
 simp_all [trk,aQ,IW,PySem.W.hideAll_none]
structure Mod(K:aV)(mg:aP->↑au)(base:cP):Prop where
 kin:K.In base
 glob:base.Ns bc mg
 blt:∃mb,base.Ns builtinsNs mb/\∀x:aP,x ≠ "__name__" ->mb x=eN x
 nolimit:base.NoLimit
structure Cx where
 prog:bh
 w:cW
 K:aV
 mg:aP->↑au
 base:cP
 A:gM
 N:!aP
 s₀:aA
 H₀:Hp
 env:Env
 outer:!Env
 stack:!Env
 ex:!aH
 fn:aP->Bool
 calm:Bool
 pn:!(aH×Obj)
 xe:au->aA->Prop
noncomputable def EL(l:!Env):!aH:=l.filterMap (·.frame)
abbrev Cx.fs(X:Cx):!aH:=EL X.outer
def Zu(a:Scope)(x:aP):Prop:=a.names.lookup x=Y .local\/a.names.lookup x=Y .cell\/a.names.lookup x=Y .free
def Loc(a:Scope)(x:aP):Prop:=a.names.lookup x=Y .local\/a.names.lookup x=Y .cell
def Look(a:Env)(h:cP)(m:aP->↑au)(x:aP)(u:au):Prop:=
 (a.kindOf x=Y .local/\m x=Y u)\/((a.kindOf x=Y .cell\/a.kindOf x=Y .free)/\∃c,a.cells.lookup x=Y c/\h.IsCell c (Y u))
structure Cx.Ok(X:Cx):Prop where
 mod:Mod X.K X.mg X.base
 kind:X.env.scope.kind=.function
 glob:X.env.globals=bc
 blt:X.env.builtins=builtinsNs
 above:X.s₀.heap.objs.size<=X.env.locals
 inj:∀x y c,X.env.cells.lookup x=some c->X.env.cells.lookup y=some c->x=y
 has:∀x,(X.env.kindOf x=some .cell\/X.env.kindOf x=some .free)->∃c,X.env.cells.lookup x=some c
 cab:∀x c,X.fn x=true->X.env.cells.lookup x=some c->X.s₀.heap.objs.size<=c
 hd:X.calm=true->X.A.handled=none
 frames:X.A.frames=some X.stack
 stk:X.stack=X.outer\/(X.stack=X.env::X.outer/\X.env.frame=some X.env.locals)
 exf:∀b∈X.ex,b≠X.env.locals/\∀x c,X.env.cells.lookup x=some c->c≠b
 bs:∀b o,X.base.get? b=some o->X.s₀.heap.get? b=some o/\X.H₀ b=none
 VB:X.base.objs.size<=X.s₀.heap.objs.size
 PU:∀b o,X.base.get? b=some o->b∉X.ex
 Vg:∀b∈X.ex,b∉X.fs
 x5:X.s₀.heap.FunFrames X.base X.outer
 YS:∀b∈X.fs,X.H₀ b=none
structure Inv(X:Cx)(EE:!(aH×Obj))(σ:!(↑V))(H:Hp)(s:aA):Prop where
 ok:X.Ok
 os:s.os=X.s₀.os
 bare:HD s.gens
 base:Un X.fs X.ex X.H₀ H X.s₀.heap s.heap
 loc:∃m,s.heap.Ns X.env.locals m/\∀(i:Nat) (x:aP) (v:V),X.N[i]?=some x->σ[i]?=some (some v)->Zu X.env.scope x->∃u,RelV v u/\Look X.env s.heap m x u
 cell:∀x c,X.env.cells.lookup x=some c->∃v,s.heap.IsCell c v
 free:H X.env.locals=none
 oJ:∀x c,X.env.cells.lookup x=some c->H c=none
 pin:∀p∈X.pn++EE,s.heap.get? p.1=some p.2/\H p.1=none/\p.1≠X.env.locals/\p.1∉X.fs/\∀v,p.2.data ≠ .cell v
 gf:nO X.prog X.w H s.heap
 len:σ.length=X.N.length
section
variable {X:Cx}{s:aA}
def Cx.Ok.aeY(a:X.Ok)(e:X.base.get? b=Y o):b∉X.fs:=λc=>by
 have:=(a.x5.mem c).1
 simp_all
def Inv.bs(I:Inv X B U H s):∀b o,X.base.get? b=Y o->s.heap.get? b=Y o/\H b=none:=λb o e=>
 (I.base.keep b o (I.ok.bs b o e).1 (I.ok.bs b o e).2 (I.ok.aeY e)<|I.ok.PU b o e,I.base.free b o (I.ok.bs b o e).1 (I.ok.bs b o e).2<|I.ok.PU b o e)
def Inv.bk(I:Inv X B U H s):∀b o,X.base.get? b=Y o->s.heap.get? b=Y o:=λb o e=>(I.bs b o e).1
def Inv.mod(I:Inv X B U H s):Mod X.K X.mg X.base:=I.ok.mod
def Inv.xn(I:Inv X B U H s):X.K.In s.heap:=I.ok.mod.kin.keeps I.bk
def Inv.lt(I:Inv X B U H s):X.env.locals<s.heap.objs.size:=let(_,a,_):=I.loc;a.lt
def Inv.sz(I:Inv X B U H s):X.s₀.heap.objs.size<=s.heap.objs.size:=bB I.ok.above<|iW I.lt
def Inv.Yc(I:Inv X B U H s)(h:s.heap.objs.size<=a):a∉X.fs:=λc=>by
 let(_,o,b,_):=I.ok.x5.mem c;exact absurd (bo (aQ b)<|bB I.sz h) Ż
def Inv.cne(I:Inv X B U H s):∀x c,X.env.cells.lookup x=Y c->c≠X.env.locals:=λx c e z=>by
 let(v,o,f,g):=I.cell x c e;obtain⟨m,⟨o',es,h,a,b,_⟩,_⟩:=I.loc
 simp_all
def Inv.x5(I:Inv X B U H s):s.heap.FunFrames X.base X.outer:=by
 let g:∀(l:!Env),(∀b∈EL l,b∈X.fs)->X.s₀.heap.FunFrames X.base l->s.heap.FunFrames X.base l:=by
  intro l
  induction l with
  |nil=>solve_by_elim|cons w r ih=>
   rintro h ⟨u,⟨L,o,a,p,m,v⟩,k⟩;have f:=h L (by unfold EL;rw[ik,a];exact az);let(x,e):=I.base.slot L o m (I.ok.YS L f) f λz=>I.ok.Vg L z f
   exact(u,(L,_,a,p,e,v),ih (λb c=>h b<|by unfold EL;rw[ik,a];exact ay _ c) k)
 exact g _ (λ_ c=>c) I.ok.x5
def Inv.stack(I:Inv X B U H s):s.heap.FunFrames X.base X.stack:=by
 obtain e|⟨e,b⟩:=I.ok.stk
 .rw[e];exact I.x5
 .rw[e];let(m,a,_):=I.loc;exact .cons (by rw[I.ok.kind];decide) b a (Heap.get?_none_of_le<|bB I.ok.VB I.ok.above) I.x5
def Inv.tm(I:Inv X B U H s):∀b∈EL X.stack,b∈X.env.locals::X.fs:=λb a=>by
 obtain e|_:=I.ok.stk
 .simp_all
 simp_all [EL,ik]
def Inv.J0(I:Inv X B U H s):∀b∈EL X.stack,H b=none:=λb a=>by
 obtain e|a:=aG.mp<|I.tm b a
 .rw[e];exact I.free
 .let(_,o,c,_):=I.ok.x5.mem a;exact I.base.free b o c (I.ok.YS b a) λz=>I.ok.Vg b z a
def Inv.step{g':Array GenState}{t':Nat}{d':Drawn}{ch:!aH}(I:Inv X B U H s)(w:∀b∈ch,(b∈X.ex\/X.s₀.heap.objs.size<=b)/\b≠X.env.locals/\(∀x c,X.env.cells.lookup x=Y c->c≠b)/\∀p∈X.pn++B,p.1≠b)(t:∀b o,b≠X.env.locals->b∉X.fs->b∉ch->s.heap.get? b=Y o->H b=M->h'.get? b=Y o)(E:∀b o,b≠X.env.locals->b∈X.fs->b∉ch->s.heap.get? b=Y o->H b=M->∃sl,h'.get? b=Y { o with slots:=sl })(g:∀b o,b∉ch->s.heap.get? b=Y o->H b=M->H' b=M)(F:∀b o,b∉ch->s.heap.get? b=Y o->∃o',h'.get? b=Y o')(P:∀b xs,H b=Y (.tup xs)->H' b=Y (.tup xs))(T:∀b o u,H b=Y (.KW o u)->H' b=Y (.KW o u))(Q:∀b q,H b=Y (.W9 q)->∃S,H' b=Y (.W9<|q++S))(ns:∀m,s.heap.Ns X.env.locals m->h'.Ns X.env.locals m)(gf:nO X.prog X.w H' h')(hg:HD g'):
  Inv X B U H' { s with heap:=h',gens:=g',drawn:=d',toks:=t' }:=by
 have R:∀b o,X.s₀.heap.get? b=Y o->b≠X.env.locals:=λb o e=>bI<|bo (aQ e) I.ok.above
 have C:∀b o,X.s₀.heap.get? b=Y o->b∉X.ex->b∉ch:=λb o e f K=>by
  rcases(w b K).1 with z|z
  .exact f z
  .exact absurd (bo (aQ e) z)<|nF _
 have A:∀x c,X.env.cells.lookup x=Y c->∀v,s.heap.IsCell c v->h'.IsCell c v:=λx c e v (o,j,hd)=>by
  have h:c∉ch:=λz=>(w c z).2.2.1 x c e W
  by_cases hc:c∈X.fs
  .let(sl,a):=E c o (I.cne x c e) hc h j<|I.oJ x c e;exact(_,a,hd)
  .exact(o,t c o (I.cne x c e) hc h j<|I.oJ x c e,hd)
 refine(I.ok,I.os,hg,(λb o e n K f =>?_,λb o e n K f =>?_,λb o e n f =>?_,λb o e f =>?_,λb xs e=>P b xs<|I.base.EY b xs e,λb o xs e=>T b o xs<|I.base.DX b o xs e,λb q e =>?_),?_,λx c e =>?_,?_,λx c e =>?_,λp hp =>?_,gf,I.len)
 .exact t b o (R b o e) K (C b o e f) (I.base.keep b o e n K f)<|I.base.free b o e n f
 .let(sl,D):=I.base.slot b o e n K f;let(sl',e2):=E b _ (R b o e) K (C b o e f) D<|I.base.free b o e n f;exact(sl',e2)
 .let(o',D):=I.base.there b o e f;exact g b o' (C b o e f) D<|I.base.free b o e n f
 .let(o',D):=I.base.there b o e f;exact F b o' (C b o e f) D
 .let(m1,D):=I.base.E8 b q e;let(m2,e2):=Q b _ D;exact(m1++m2,by rw[e2,Array.append_assoc])
 .let(m,hn,hl):=I.loc;refine(m,ns m hn,λi x v D e2 e3 =>?_);let(u,r,l):=hl i x v D e2 e3;refine(u,r,?_);obtain l|⟨k,c,e,z⟩:=l
  .exact .inl l
  .exact .inr (k,c,e,A x c e _ z)
 .let(v,z):=I.cell x c e;exact(v,A x c e v z)
 .obtain⟨m,⟨o,_,_,j,_⟩,_⟩:=I.loc;exact g _ o (λz=>(w _ z).2.1 W) j I.free
 .let(v,o,j,hd):=I.cell x c e;exact g c o (λz=>(w c z).2.2.1 x c e W) j<|I.oJ x c e
 .let(e,n,ne,nf,d):=I.pin p hp;have h:p.1∉ch:=λz=>(w p.1 z).2.2.2 p hp W
  exact(t p.1 p.2 ne nf h e n,g p.1 p.2 h e n,ne,nf,d)
def Inv.un{t':Nat}(I:Inv X B U H s)(u:Un X.fs [] H H' s.heap h')(c:nO X.prog X.w H' h'):Inv X B U H' { s with heap:=h',toks:=t' }:=by
 obtain⟨m,⟨o,es,x,k,r⟩,_⟩:=id I.loc;let(v,t):=u.any k I.free ż;exact I.step (ch:=[]) (λd z=>nomatch z) (λb o d f d e n=>u.keep b o e n f Ÿ) (λb o d f d e n=>u.slot b o e n f Ÿ) (λb o d e n=>u.free b o e n Ÿ) (λb o d e=>u.there b o e Ÿ) u.EY u.DX u.E8 (λw p=>by let(o',g,h,a,l):=p;rw[k]at a;cases a;exact(_,g,h,t,l)) c I.bare
def Inv.call{g':Array GenState}{t':Nat}{d':Drawn}{ch:!aH}(I:Inv X B U H s)(u:Un (EL X.stack) ch H H' s.heap h')(h:nO X.prog X.w H' h')(C:HD g')(g:∀b∈ch,(b∈X.ex\/X.s₀.heap.objs.size<=b)/\b≠X.env.locals/\(∀x c,X.env.cells.lookup x=Y c->c≠b)/\∀p∈X.pn++B,p.1≠b):
  Inv X B U H' { s with heap:=h',gens:=g',drawn:=d',toks:=t' }:=by
 obtain⟨m,⟨o,es,K,v,r⟩,_⟩:=id I.loc;let(E,k):=u.any v I.free λz=>(g _ z).2.1 W
 exact I.step g (λb o k D a e n=>u.keep b o e n (λz=>(aG.mp<|I.tm b z).elim k D) a) (λb o d d a e n=>u.any e n a) (λb o a e n=>u.free b o e n a) (λb o a e=>u.there b o e a) u.EY u.DX u.E8 (λF A=>by let(o',l,t,f,w):=A;rw[v]at f;cases f;exact(_,l,t,k,w)) h C
def Inv.turned{t':Nat}(I:Inv X B U H s)(k:∀b o,b≠g->s.heap.get? b=Y o->h'.get? b=Y o)(A:H g=M)(t:g≠X.env.locals)(J:g∈X.ex\/X.s₀.heap.objs.size<=g)(z:∀x c,X.env.cells.lookup x=Y c->c≠g)(E:∀p∈X.pn++B,p.1≠g):Inv X B U H { s with heap:=h',toks:=t' }:=by
 refine I.step (ch:=[g]) (λb D =>?_) (λb o d d h e d=>k b o (λf=>h<|by simp[f]) e) (λb o d d h e d=>(o.slots,Ż)) (λd d d d n=>n)
  (λb o h e=>(o,Ż)) (λd d e=>e) (λd d d e=>e) (λb q e=>(#[],by rw[e];solve_by_elim)) (λm C =>?_) (λb u e =>?_) I.bare
 .let e:=by simpa using D
  subst e;exact(J,t,z,E)
 .let(o,es,F,w,r):=C;exact(o,es,F,k _ o (bw t) w,r)
 .refine(I.gf b u e).Bk (λc v h a=>k c v ?_ a) (λd a=>a) λd d a=>a
  lia
def Inv.tok(I:Inv X B U H s)(t:Nat):Inv X B U H { s with toks:=t }:=I.un Un.refl I.gf
def Inv.kept{t':Nat}(I:Inv X B U H s)(k:∀b u,s.heap.get? b=Y u->h'.get? b=Y u):Inv X B U H { s with heap:=h',toks:=t' }:=I.un (Un.kept k)<|I.gf.kept k
def Inv.laid{a:aH}{o:HO}{t':Nat}(I:Inv X B U H s)(k:∀b u,s.heap.get? b=Y u->h'.get? b=Y u)(e:s.heap.objs.size<=a)(c:iY X.prog X.w (cU H a o) h' a o):
  Inv X B U (cU H a o) { s with heap:=h',toks:=t' }:=I.un (Un.laid k e<|I.gf.fresh e)<|I.gf.laid k e c
def Inv.write{x e:aH}{h:Nat}(I:Inv X B U H s)(f:Mut<|H x)(g:e=x\/H e=Y (.Z x))(k:∀b u,b≠e->s.heap.get? b=Y u->h'.get? b=Y u)(a:∃u,h'.get? e=Y u)(c:iY X.prog X.w (cU H x o) h' x o):Inv X B U (cU H x o) { s with heap:=h',toks:=h }:=I.un (Un.write f g k a)<|I.gf.write f g k a c
def Inv.weak(I:Inv X B U H s)(e:a.length=U.length)(w:∀(i:Nat) v,a[i]?=Y (Y v)->U[i]?=Y (Y v)):Inv X B a H s:=
 (I.ok,I.os,I.bare,I.base,let(m,c,b):=I.loc;(m,c,λi x v h g f=>b i x v h (w i v g) f),I.cell,I.free,I.oJ,I.pin,I.gf,e.trans I.len)
def Inv.ye(I:Inv X B U H s)(h:∀p∈a,s.heap.get? p.1=Y p.2/\H p.1=M/\p.1≠X.env.locals/\p.1∉X.fs/\∀v,p.2.data ≠ .cell v):Inv X a U H s:=
 (I.ok,I.os,I.bare,I.base,I.loc,I.cell,I.free,I.oJ,λp b=>(aD.mp b).elim (λz=>I.pin p<|aS _ z)<|h p,I.gf,I.len)
def F6{N:!aP}(c:N.Nodup){j:Nat}(a:N[i]?=Y x)(b:N[j]?=Y x):i=j:=by
 let(J,f):=ah.mp a;let(z,e):=ah.mp b;exact(List.getElem_inj c).mp<|f.trans e.symm
def BS{G:Model}{A:gM}{i:Nat}{v:V}(I:Inv X B U H s)(hN:X.N.Nodup)(L:X.N[i]?=Y x)(w:Loc X.env.scope x)(r:RelV v u)(h:∀s',Inv X B (U.set i<|Y v) H s'->(∃a,jw a s.heap s'.heap/\(a=X.env.locals\/X.env.cells.lookup x=Y a))->Q () s')(hf:autoParam (X.fn x=Z'\/X.env.scope.names.lookup x=Y .local) ŧ):bz G A (storeName X.env x u) Q E s:=by
 let(m,hn,hl):=id I.loc;let aft:(X.env.scope.kind == .class||(X.env.scope.kind == .module&&X.env.locals != X.env.globals))=false:=by rw[I.ok.kind];exact Ÿ
 have K:i<U.length:=by rw[I.len];exact(ah.mp L).1
 let T:=I.cne;have g:∀ {a:aH}{h':cP},(∃o,s.heap.get? a=Y o/\H a=M)->jw a s.heap h'->nO X.prog X.w H h':=fun {a h'} ha f b ob e=>by
  let(_,_,C):=ha;refine(I.gf b ob e).Bk (λc w' t q=>(f.2 c ?_).trans q) (λJ q=>q) λJ J q=>q
  rintro rfl;obtain rfl|t:=t<;>lia
 obtain F|F:=w
 .refine wpAny_storeName_local F hn (λh' hn' f =>?_) aft;refine ae λkk =>?_
  let(oL,_,_,hoL,_):=id hn;refine kk<|h _ (I.ok,I.os,I.bare,(λb o e n S w =>?_,λb o e n S w =>?_,I.base.free,λb o e w =>?_,I.base.EY,I.base.DX,I.base.E8),(_,hn',λj y v' l D e3 =>?_),λy c e =>?_,I.free,I.oJ,λp hp =>?_,g (oL,hoL,I.free) f,by simpa using I.len) (_,f,.inl W)
  .exact(f.2 b<|bI<|bo (aQ e) I.ok.above).trans<|I.base.keep b o e n S w
  .let(sl,l):=I.base.slot b o e n S w;exact(sl,(f.2 b<|bI<|bo (aQ e) I.ok.above).trans l)
  .let(o',l):=I.base.there b o e w;exact(o',(f.2 b<|bI<|bo (aQ e) I.ok.above).trans l)
  .by_cases P:j=i
   .subst P;rw[L]at l;cases l;rw[aX K]at D;cases D;exact(u,r,.inl (F,ż))
   .rw[aq<|bw P]at D;let(u',r',q):=hl j y v' l D e3;refine(u',r',?_);obtain⟨k,e⟩|⟨k,c,e,z⟩:=q
    .refine .inl (k,?_);have:y≠x:=λe=>P (F6 hN l<|e ▸ L)
     simp[this,e]
    .exact .inr (k,c,e,z.sameBut f<|T y c e)
  .let(w',z):=I.cell y c e;exact(w',z.sameBut f<|T y c e)
  .let(e,n,ne,nf,d):=I.pin p hp;exact((f.2 p.1 ne).trans e,n,ne,nf,d)
 .have R:X.fn x=true:=by
   obtain z|z:=hf
   .exact z
   .rw[z]at F;cases F
  let(c,t):=I.ok.has x<|.inl F;let(w',z):=I.cell x c t;refine wpAny_storeName_cell I.ok.kind F t z<|λh' hc' f =>?_;let(oc,hoc,afn):=id z;refine h { s with heap:=h' } (I.ok,I.os,I.bare,(λb o e n S w =>?_,λb o e n S w =>?_,I.base.free,λb o e w =>?_,I.base.EY,I.base.DX,I.base.E8),(m,hn.sameBut f<|bw<|T x c t,λj y v' l D e3 =>?_),λy c' e =>?_,I.free,I.oJ,λp hp =>?_,g (oc,hoc,I.oJ x c t) f,by simpa using I.len) (c,f,.inr t)
  .exact(f.2 b<|bI<|bo (aQ e)<|I.ok.cab x c R t).trans<|I.base.keep b o e n S w
  .let(sl,l):=I.base.slot b o e n S w;exact(sl,(f.2 b<|bI<|bo (aQ e)<|I.ok.cab x c R t).trans l)
  .let(o',l):=I.base.there b o e w;exact(o',(f.2 b<|bI<|bo (aQ e)<|I.ok.cab x c R t).trans l)
  .by_cases P:j=i
   .subst P;rw[L]at l;cases l;rw[aX K]at D;cases D;exact(u,r,.inr (.inl F,c,t,hc'))
   .rw[aq<|bw P]at D;let(u',r',q):=hl j y v' l D e3;refine(u',r',?_);obtain q|⟨k,c',e,z'⟩:=q
    .exact .inl q
    .refine .inr (k,c',e,z'.sameBut f ?_);rintro rfl;exact P<|F6 hN l<|I.ok.inj _ _ _ e t ▸ L
  .by_cases hcc:c'=c
   .subst hcc;exact(_,hc')
   .let(w2,z2):=I.cell y c' e;exact(w2,z2.sameBut f hcc)
  .let(e,n,ne,nf,d):=I.pin p hp;refine((f.2 p.1 ?_).trans e,n,ne,nf,d);intro q;rw[q,hoc]at e;exact d w' (by rw[<- (bE e)];exact afn)
def yI{d:Model}{v:V}(I:Inv X B U H s)(c:X.N.Nodup)(L:X.N[i]?=Y x)(a:Loc X.env.scope x)(r:RelV v u)(h:∀s',Inv X B (U.set i<|Y v) H s'->Q () s')(b:autoParam (X.fn x=Z'\/X.env.scope.names.lookup x=Y .local) ŧ):bz d A (storeName X.env x u) Q E s:=
 BS I c L a r (λs' e f=>h s' e) b
def Inv.Lu{s':aA}{g:!aH}(I:Inv X B U H s)(k:s'.os=s.os)(u:Un (EL X.stack) g H H' s.heap s'.heap)(a:nO X.prog X.w H' s'.heap)(l:HD s'.gens)(f:∀b∈g,(b∈X.ex\/X.s₀.heap.objs.size<=b)/\b≠X.env.locals/\(∀x c,X.env.cells.lookup x=Y c->c≠b)/\∀p∈X.pn++B,p.1≠b):Inv X B U H' s':=by
 let(h',m,o,h,o'):=s';subst k;exact I.call u a l f
end
abbrev XK:=au->↑aH->Hp->Prop
abbrev St:=!(↑V)
abbrev VK:=V->Hp->Prop
abbrev TE:=St->Hp->VK->Prop
abbrev TT:=St->Hp->(Bool->Hp->Prop)->Prop
abbrev TA:=St->Hp->(!V->Hp->Prop)->Prop
structure Ends where
 nx:St->Hp->Prop
 rt:VK
 bk:St->Hp->Prop:=λ_ _=>False
 ct:St->Hp->Prop:=λ_ _=>False
abbrev TS:=Ends->St->Hp->Prop
inductive EP (X:Cx) (B:!(aH×Obj)) (U:St) (Q:VK) (u:au) (s':aA):Prop
 |mk v H':Inv X B U H' s'->RelV v u->Q v H'->EP X B U Q u s'
inductive TP (X:Cx) (B:!(aH×Obj)) (U:St) (Q:Bool->Hp->Prop) (b:Bool) (s':aA):Prop
 |mk H':Inv X B U H' s'->Q b H'->TP X B U Q b s'
inductive AP (X:Cx) (B:!(aH×Obj)) (U:St) (Q:!V->Hp->Prop) (b:!au) (s':aA):Prop
 |mk a H':Inv X B U H' s'->cf a b->Q a H'->AP X B U Q b s'
def SP(X:Cx)(B:!(aH×Obj))(D:Ends)(f:Flow)(s':aA):Prop:=
 match f with
 |.next=>∃a H',Inv X B a H' s'/\D.nx a H'|.brk=>∃a H',Inv X B a H' s'/\D.bk a H'|.cont=>∃a H',Inv X B a H' s'/\D.ct a H'|.ret u=>∃v a H',Inv X B a H' s'/\RelV v u/\D.rt v H'
def PE(X:Cx)(e:Expr)(t:TE):Prop:=
 ∀(B:!(aH×Obj)) (s:aA) (U:St) (H:Hp) (Q:VK),Inv X B U H s->t U H Q->bz (bj X.prog X.w) X.A (eval e X.env) (EP X B U Q) X.xe s
def PT(X:Cx)(e:Expr)(t:TT):Prop:=
 ∀(B:!(aH×Obj)) (s:aA) (U:St) (H:Hp) (Q:Bool->Hp->Prop),Inv X B U H s->t U H Q->bz (bj X.prog X.w) X.A (isTrue e X.env<|eval e X.env) (TP X B U Q) X.xe s
def PW(X:Cx)(e:Expr)(t:TT):Prop:=
 ∀(a:Sem au) (B:!(aH×Obj)) (s:aA) (U:St) (H:Hp) (Q:Bool->Hp->Prop),Inv X B U H s->t U H Q->bz (bj X.prog X.w) X.A (isTrue e X.env a) (TP X B U Q) X.xe s
def PW.pt{X:Cx}(h:PW X e t):PT X e t:=h _
def PA(X:Cx)(es:!Expr)(t:TA):Prop:=
 ∀(G:Pos) (B:!(aH×Obj)) (s:aA) (U:St) (H:Hp) (Q:!V->Hp->Prop),Inv X B U H s->t U H Q->bz (bj X.prog X.w) X.A (spliced<|cB G<|ak es X.env) (AP X B U Q) X.xe s
def PS(X:Cx)(st:cH)(t:TS):Prop:=
 ∀(B:!(aH×Obj)) (s:aA) (U:St) (H:Hp) (D:Ends),Inv X B U H s->t D U H->bz (bj X.prog X.w) X.A (exec st X.env) (SP X B D) X.xe s
def nY(X:Cx)(st:!cH)(t:TS):Prop:=
 ∀(B:!(aH×Obj)) (s:aA) (U:St) (H:Hp) (D:Ends),Inv X B U H s->t D U H->bz (bj X.prog X.w) X.A (execs st X.env) (SP X B D) X.xe s
def eP{b:Model}{s:aA}(h:bz b A t Q E s)(e:∀a s,Q a s->c a s):bz b A t c E s:=fU h e λd d x=>x
section
variable {X:Cx}
def g9(i:Nat):TE:=λU H Q=>∃v,U[i]?=Y (Y v)/\Q v H
def tC(v:V):TE:=λ_ H Q=>Q v H
def XQ(A:X.N[i]?=Y x)(o:Zu X.env.scope x)(f:‹(x==("__debug__" : aP))=false›)(g:‹(x==("__classdict__" : aP))=false›):PE X (.Name x G)<|g9 i:=by
 rintro B s U H Q I ⟨v,e,h⟩;let(m,p,w):=I.loc;let(u,r,l):=w i x v A e o;let k8:EP X B U Q u s:=(v,H,I,r,h);obtain⟨b,t⟩|⟨b,c,k,a⟩:=l
 .exact wpAny_Name (wpAny_loadName_local I.ok.kind b p t k8) f
 .obtain b|b:=b
  .exact wpAny_Name (wpAny_loadName_cell I.ok.kind b k a k8) f
  .exact wpAny_Name (wpAny_loadName_free I.ok.kind b k a k8 g) f
def lA{i j G}:PE X (.Constant (.int i) j G)<|tC<|.int i:=λa a a H a I h=>wpAny_Constant_int (.int i,H,I.tok _,(_,W),h)
def abc{b j G}:PE X (.Constant (.bool b) j G)<|tC<|.bl b:=λa a a H a I h=>Constant_bool (.bl b,H,I,W,h)
def Ij{x j G}:PE X (.Constant (.str x) j G)<|tC<|.str x:=λa a a H a I h=>Calls.Constant_str (.str x,H,I.tok _,(_,W),h)
def Gl(X:Cx)(x:aP):Prop:=X.env.kindOf x=Y .globalImplicit
def Dw{s:aA}(I:Inv X B U H s)(b:Gl X x)(a:X.mg x=Y u)(h:Q u s)(c:‹(x==("__debug__" : aP))=false›):bz (bj X.prog X.w) X.A (eval (.Name x G) X.env) Q E s:=
 ZR I.ok.kind b (Calls.loadGlobal_global (by rw[I.ok.glob];exact I.mod.glob.keeps I.bk) a h) c
def pz{s:aA}(I:Inv X B U H s)(e:Gl X x)(c:X.mg x=M)(a:eN x=Y u)(h:Q u s)(b:‹x ≠ "__name__"›)(f:‹(x==("__debug__" : aP))=false›):bz (bj X.prog X.w) X.A (eval (.Name x G) X.env) Q E s:=by
 let(g,J,z):=I.mod.blt;exact ZR I.ok.kind e (Calls.loadGlobal_builtin (by rw[I.ok.glob];exact I.mod.glob.keeps I.bk) c (by rw[I.ok.blt];exact J.keeps I.bk) Ż h) f
def T8{v:V}(e:Gl X x)(c:X.mg x=M)(a:eN x=Y u)(r:RelV v u)(b:‹x ≠ "__name__"›)(f:‹(x==("__debug__" : aP))=false›):PE X (.Name x G)<|tC v:=
 λd d d H d I h=>pz I e c a (v,H,I,r,h) b f
def PC(X:Cx)(f:CmpOp)(a b:Expr)(t:TE):Prop:=
 ∀(B:!(aH×Obj)) (s:aA) (U:St) (H:Hp) (Q:VK),Inv X B U H s->t U H Q ->
  bz (bj X.prog X.w) X.A (eval a X.env) (λv e=>bz (bj X.prog X.w) X.A (eval b X.env) (λu c=>bz (bj X.prog X.w) X.A (c7 f v u) (EP X B U Q) X.xe c) X.xe e) X.xe s
def PV(b:Expr){a:CmpOp}(h:a ≠ .In)(z:a ≠ .NotIn):fh a b=false:=by
 have e:(a==CmpOp.In)=false:=by cases a<;>first|rfl|exact absurd W h
 let c:(a==CmpOp.NotIn)=false:=by cases a<;>first|rfl|exact absurd W z
 cases b<;>simp[fh,e,c]
def tB(t:TE):TT:=λU H Q=>t U H λx O=>∃c,x=.bl c/\Q c O
def XD(h:PC X e a b t)(J:autoParam (fh e b=false) ŕ):PT X (.Compare a [e] [b] G)<|tB t:=by
 intro B s U H Q I hw;refine wpAny_isTrue_Compare1 (eP (h B s U H _ I hw) λv o J=>eP J λu m z=>eP z ?_) J;rintro c l ⟨x,O,k,f,g⟩;let(d,rfl,q):=g;cases f;exact ir (O,k,q)
variable {rest:!Expr}
def aet(t u:TT):TT:=λU H Q=>t U H λc O=>if c=Z' then u U O Q else Q Z_ O
def tOr(t u:TT):TT:=λU H Q=>t U H λc O=>if c=Z' then Q Z' O else u U O Q
def ael(t:TT):TT:=λU H Q=>t U H λc O=>Q (not c) O
def TL(b:PT X a tA):PW X (.BoolOp .And [a] G) tA:=by
 intro f B s U H Q I h;refine isTrue_and<|eP (b B s U H Q I h) λc g e =>?_
 grind [isTrue_and_nil]
def XA(b:PT X a tA):PW X (.BoolOp .Or [a] G) tA:=by
 intro f B s U H Q I h;refine isTrue_or<|eP (b B s U H Q I h) λc g e =>?_
 grind [isTrue_or_nil]
def XB(m:PT X a tA)(l:PW X (.BoolOp .And (b::rest) G) tB'):PW X (.BoolOp .And (a::b::rest) G)<|aet tA tB':=by
 intro g B s U H Q I h;refine isTrue_and<|eP (m B s U H _ I h) ?_;rintro c k ⟨O,f,e⟩;cases c with
 |true=>solve_by_elim|false=>solve_by_elim
def aa6(m:PT X a tA)(l:PW X (.BoolOp .Or (b::rest) G) tB'):PW X (.BoolOp .Or (a::b::rest) G)<|tOr tA tB':=by
 intro g B s U H Q I h;refine isTrue_or<|eP (m B s U H _ I h) ?_;rintro c k ⟨O,f,e⟩;cases c with
 |true=>solve_by_elim|false=>solve_by_elim
def XC(b:PT X a tA):PT X (.UnaryOp .Not a G)<|ael tA:=by
 exact λB s U H Q I h=>isTrue_not<|eP (b B s U H _ I h) (by rintro c k ⟨O,f,e⟩;exact Ÿ)
def aaO(N y:TE):TE:=λU H Q=>N U H λx O=>∃c,x=.bl c/\if c=Z' then y U O Q else Q (.bl Z_) O
def aek(N y:TE):TE:=λU H Q=>N U H λx O=>∃c,x=.bl c/\if c=Z' then Q (.bl Z') O else y U O Q
def aaF(N:TE):TE:=λU H Q=>N U H λx O=>∃c,x=.bl c/\Q (.bl<|not c) O
def XR{b}(h:PE X a t):PE X (.BoolOp b [a] G) t:=λB s U H Q I hw=>BoolOp_one<|h B s U H Q I hw
def XT(m:PE X a N)(l:PE X (.BoolOp .And (b::rest) G) y):PE X (.BoolOp .And (a::b::rest) G)<|aaO N y:=by
 intro B s U H Q I h;refine BoolOp_and<|eP (m B s U H _ I h) ?_;rintro v g ⟨x,O,f,k,e⟩;let(c,rfl,e):=e;cases k;refine ir ?_;cases c with
 |true=>solve_by_elim|false=>exact(.bl _,O,f,W,e)
def abb(m:PE X a N)(l:PE X (.BoolOp .Or (b::rest) G) y):PE X (.BoolOp .Or (a::b::rest) G)<|aek N y:=by
 intro B s U H Q I h;refine BoolOp_or<|eP (m B s U H _ I h) ?_;rintro v g ⟨x,O,f,k,e⟩;let(c,rfl,e):=e;cases k;refine ir ?_;cases c with
 |false=>solve_by_elim|true=>exact(.bl _,O,f,W,e)
def XS(f:PE X a N):PE X (.UnaryOp .Not a G)<|aaF N:=by
 intro B s U H Q I h;refine UnaryOp_<|eP (f B s U H _ I h) ?_;rintro v k ⟨x,O,g,e,b⟩;let(c,rfl,b):=b;cases e;exact not_of<|ir (.bl _,O,g,W,b)
def tIf(t:TT)(N y:TE):TE:=λU H Q=>t U H λc O=>if c=Z' then N U O Q else y U O Q
def Pe(k:PT X c tA)(m:PE X a N)(l:PE X b y):PE X (.IfExp c a b G)<|tIf tA N y:=by
 intro B s U H Q I h;refine wpAny_IfExp<|eP (k B s U H _ I h) ?_;rintro d e ⟨O,g,f⟩;cases d with
 |true=>solve_by_elim|false=>solve_by_elim
end
def lW(K:aV)(H:Hp)(a:aH)(xs:!V):Prop:=
 Rd H a (.lst xs) \/
  ∃(o:Obj) (b:Array au) (n:Nat),K.lookup a=Y o/\o.cls=.type "list" /\o.dict=M/\o.data=.seq b n/\b.size<=a7/\cf xs b.toList
def VG(K:aV)(H:Hp)(a:aH)(xs:!V):Prop:=
 Rd H a (.tup xs) \/
  ∃(o:Obj) (b:Array au) (n:Nat),K.lookup a=Y o/\o.cls=.type "tuple" /\o.data=.seq b n/\b.size<=a7/\cf xs b.toList
noncomputable def af3:au->↑V
 |.none=>Y .dC|.bool b=>Y (.bl b)|.int i _=>Y (.int i)|.str x _=>Y (.str x)|.bytes b _=>Y (.Jx b)|.float b _=>Y (.SD b)|.ref a=>Y (.ref a)|.type n=>Y (.ty n)|_=>M
def RelV.abs(r:RelV x u):af3 u=Y x:=by
 cases x with
 |dC=>cases r;rfl|bl _=>cases r;rfl|ref _=>cases r;rfl|ty _=>cases r;rfl|_=>let(t,rfl):=r;rfl
def RelV.inj{x:V}(r:RelV x u)(q:RelV y u):x=y:=bE<|r.abs.symm.trans q.abs
def cf.inj{xs ys:!V}{a:!au}(h:cf xs a)(g:cf ys a):xs=ys:=by
 induction h generalizing ys with
 |nil=>cases g;rfl|cons r _ ih=>
  cases g with|cons c b=>rw[r.inj c,ih b]
section
variable {X:Cx}{s:aA}
def lW.of{K:aV}(h:H a=Y (.lst xs)):lW K H a xs :=.inl<|.inl h
def VG.of{K:aV}(h:H a=Y (.tup xs)):VG K H a xs :=.inl<|.inl h
def Inv.list(I:Inv X B U H s)(h:lW X.K H a xs):∃b:!au,cf xs b/\PlainL s.heap a b.toArray/\xs.length<=a7:=by
 obtain h|⟨o,b,n,f,k,g,c,l,r⟩:=h
 .let(z,b,n,r,e):=h.ok I.gf;exact(b,r,(_,n,e,W,W,W),z)
 .refine(_,r,(o,n,I.xn a o f,k,g,ž),?_);let e:=r.length
  simp_all
def Inv.tuple(I:Inv X B U H s)(h:VG X.K H a xs):∃b:!au,cf xs b/\IsTup s.heap a b.toArray/\xs.length<=a7:=by
 obtain h|⟨o,b,n,f,g,c,k,r⟩:=h
 .let(z,b,r,p):=h.ok I.gf;exact(b,r,p,z)
 .refine(_,r,(o,I.xn a o f,g,n,ž),?_);let e:=r.length
  simp_all
def Inv.qL(I:Inv X B U H s)(h:lW X.K H a xs)(h':lW X.K H a ys):xs=ys:=by
 obtain⟨c,r,⟨o,n,e,_,_,d⟩,_⟩:=I.list h;obtain⟨b,k,⟨o',m,f,_,_,g⟩,_⟩:=I.list h';have:c=b:=by simp_all
 subst this;exact r.inj k
end
noncomputable abbrev Cx.Bf(X:Cx)(E:au->aA->Prop):Cx:={ X with xe:=E }
abbrev Cx.NY(X:Cx):Cx:=X.Bf λa a=>False
def Cx.Ok.Bf{X:Cx}(a:X.Ok)(E:au->aA->Prop):(X.Bf E).Ok:=
 (a.mod,a.kind,a.glob,a.blt,a.above,a.inj,a.has,a.cab,a.hd,a.frames,a.stk,a.exf,a.bs,a.VB,a.PU,a.Vg,a.x5,a.YS)
def Cx.Ok.vU{X:Cx}(a:(X.Bf E).Ok):X.Ok:=
 (a.mod,a.kind,a.glob,a.blt,a.above,a.inj,a.has,a.cab,a.hd,a.frames,a.stk,a.exf,a.bs,a.VB,a.PU,a.Vg,a.x5,a.YS)
section
variable {X:Cx}{s:aA}
def Inv.Bf(I:Inv X B U H s)(E:au->aA->Prop):Inv (X.Bf E) B U H s:=(I.ok.Bf E,I.os,I.bare,I.base,I.loc,I.cell,I.free,I.oJ,I.pin,I.gf,I.len)
def Inv.vU(I:Inv (X.Bf E) B U H s):Inv X B U H s:=(I.ok.vU,I.os,I.bare,I.base,I.loc,I.cell,I.free,I.oJ,I.pin,I.gf,I.len)
def SP.vU{D:Ends}{f:Flow}(h:SP (X.Bf E) B D f s'):SP X B D f s':=by
 cases f with
 |ret u=>let(v,a,H',I,r,q):=h;exact(v,a,H',I.vU,r,q)
 |_=>let(a,H',I,q):=h;exact(a,H',I.vU,q)
def nY.NY{st:!cH}(h:nY X.NY st t):nY X st t:=λB s U H D I hw=>
 fU (h B s U H D (I.Bf _) hw) (λa a q=>q.vU) λa a z=>False.elim z
end
section
variable {X:Cx}{st:cH}{rest:!cH}
def aaG:TS:=λD U H=>D.nx U H
def aei(t u:TS):TS:=λD U H=>t { D with nx:=u D } U H
def Ka:nY X [] aaG:=λa a U H a I h=>rF (U,H,I,h)
def oz(J:PS X st t)(z:nY X rest u):nY X (st::rest)<|aei t u:=by
 intro B s U H D I h;refine wpAny_execs_cons<|eP (J B s U H _ I h) λf b q =>?_;cases f with
 |next=>
  let(a,H',c,q):=q
  exact Ÿ
 |_=>exact q
def m9(J:PS X st t):nY X [st] t:=by
 intro B s U H D I h;refine wpAny_execs_cons<|eP (J B s U H D I h) λf a q =>?_;cases f with
 |next=>exact rF q|_=>exact q
def Inv.quiet{s:aA}(I:Inv X B U H s):interactive X.env=false:=by simp[interactive,I.ok.kind]
def aaK(te:TE):TS:=λD U H=>te U H λ_ O=>D.nx U O
def jO(c:PE X e te)(b:@&(cg e M G.line X.env=c9 false)):PS X (.Expr e G)<|aaK te:=by
 exact λB s U H D I h=>wpAny_Expr_any (eP (c B s U H _ I h)<|by rintro v g ⟨x,O,f,k,a⟩;exact(U,O,f,a)) I.quiet b
def aej(te:TE):TS:=λD U H=>te U H D.rt
def pf(c:PE X e te):PS X (.Return (Y e) G)<|aej te:=by
 exact λB s U H D I h=>wpAny_Return_some<|eP (c B s U H _ I h) (by rintro v g ⟨x,O,f,a,b⟩;exact(x,U,O,f,a,b))
def aen(c:TT)(t u:TS):TS:=λD U H=>c U H λb O=>if b=Z' then t D U O else u D U O
def FJ(k:PT X c tc)(m:nY X a t)(l:nY X b u):PS X (.If c a b G)<|aen tc t u:=by
 intro B s U H D I h;refine wpAny_If<|eP (k B s U H _ I h) ?_;rintro d e ⟨O,g,f⟩;cases d with
 |true=>solve_by_elim|false=>solve_by_elim
def Xe:TS:=λa a a=>False
def O9:PS X st Xe:=λa a a a a a h=>h.elim
end
abbrev TG:=V->St->Hp->(St->Hp->Prop)->Prop
abbrev TGs:=!V->St->Hp->(St->Hp->Prop)->Prop
def PG(X:Cx)(a:Expr)(t:TG):Prop:=
 ∀(B:!(aH×Obj)) (s:aA) (U:St) (H:Hp) (v:V) (u:au) (Q:St->Hp->Prop),Inv X B U H s->RelV v u->t v U H Q ->
  bz (bj X.prog X.w) X.A (assign a X.env u) (λ_ s'=>∃b H',Inv X B b H' s'/\Q b H') X.xe s
def PGs(X:Cx)(e:!Expr)(t:TGs):Prop:=
 ∀(B:!(aH×Obj)) (s:aA) (U:St) (H:Hp) (b:!V) (c:!au) (Q:St->Hp->Prop),Inv X B U H s->cf b c->t b U H Q ->
  bz (bj X.prog X.w) X.A (assignInOrder ((A5 e X.env).map (·.2)) c) (λ_ s'=>∃a H',Inv X B a H' s'/\Q a H') X.xe s
abbrev acD:=V->V->V->Hp->(Hp->Prop)->Prop
def acH(X:Cx)(t:acD):Prop:=
 ∀(B:!(aH×Obj)) (s:aA) (U:St) (H:Hp) (o i v:V) (a b u:au) (Q:Hp->Prop),Inv X B U H s->RelV o a->RelV i b->RelV v u->t o i v H Q ->
  bz (bj X.prog X.w) X.A (setItem a b u) (λ_ s'=>∃H',Inv X B U H' s'/\Q H') X.xe s
abbrev TIp:=V->V->Hp->VK->Prop
def PIp(X:Cx)(a:Operator)(t:TIp):Prop:=
 ∀(B:!(aH×Obj)) (s:aA) (U:St) (H:Hp) (x y:V) (v u:au) (Q:VK),Inv X B U H s->RelV x v->RelV y u->t x y H Q ->
  bz (bj X.prog X.w) X.A (inplaceOp a v u) (EP X B U Q) X.xe s
section
variable {X:Cx}
def ny(i:Nat):TG:=λv U H Q=>Q (U.set i<|Y v) H
def hW{i:Nat}(c:X.N.Nodup)(L:X.N[i]?=Y x)(a:Loc X.env.scope x)(b:autoParam (X.fn x=Z'\/X.env.scope.names.lookup x=Y .local) ŧ):PG X (.Name x G)<|ny i:=by
 exact λB s U H v u Q I r h=>wpAny_assign_Name<|yI I c L a r (λs' e=>(_,H,e,h)) b
def YR:TGs:=λa U H Q=>a=[]/\Q U H
def Co(t:TG)(u:TGs):TGs:=λb U H Q=>∃v r,b=v::r/\t v U H λa H'=>u r a H' Q
def adg:PGs X [] YR:=by
 rintro B s U H a b Q I r ⟨e,h⟩;exact assignInOrder_nil (U,H,I,h)
def Pa(J:PG X e t)(z:PGs X es u)(g:@&((A5 (e::es) X.env).map (·.2)=assign e X.env::(A5 es X.env).map (·.2))):PGs X (e::es)<|Co t u:=by
 rintro B s U H m p Q I r ⟨v,o,k,h⟩;subst k;cases r with
 |cons r c=>
  rw[g];refine assignInOrder_cons<|eP (J B s U H _ _ _ I r h) ?_;rintro _ b ⟨a,O,l,f⟩
  exact Ÿ
def YQ(K:aV)(n:Nat)(t:TGs):TG:=λv U H Q=>∃a xs,v=.ref a/\VG K H a xs/\xs.length=n/\t xs U H Q
def XN(A:X.calm=Z')(h:PGs X es t)(w:@&((A5 es X.env).length=n))(c:@&((A5 es X.env).findIdx? (·.1)=none)):PG X (.Tuple es k G)<|YQ X.K n t:=by
 refine λB s U H v u Q I r xx=>ae λkk =>?_
 let(a,xs,C,p,x,hw):=xx;subst C;cases r;let(g,f,m,E):=I.tuple p;refine kk<|assign_Tuple_tuple (I.ok.hd A) m (by simp[w,<- x,f.length]) c λh' l =>?_;let D:=I.kept (t':=s.toks) λb o e=>l b o (bI<|aQ e) e
 exact Ÿ
def abW(to a:TE)(t:acD):TG:=λv U H Q=>to U H λo O=>a U O λi d=>t o i v d λb=>Q U b
def XO(A:PE X o to)(L:PE X i c)(w:acH X t) (C:autoParam (∀v,assign (.Subscript o i G) X.env v=(do
   let a <- k9 [v] (eval o X.env);let b <- k9 [v,a] (eval i X.env)
   nR G
   k9 [v,a,b] (setItem a b v)
   release [v,a,b] [])) ũ):PG X (.Subscript o i G)<|abW to c t:=by
 intro B s U H v u Q I r h;rw[C];refine aB<|w8<|eP (A B s U H _ I h) ?_;rintro a f ⟨x,O,F,k,p⟩;refine aB<|w8<|eP (L B f U O _ F p) ?_;rintro b e ⟨y,d,E,g,m⟩;refine aB<|wpAny_standAt<|aB<|w8<|eP (w B e U d x y v a b u _ E k g r m) ?_;rintro _ j ⟨K,D,l⟩;exact wpAny_release (U,K,D,l)
def Xj(te:TE)(g:TG):TS:=λD U H=>te U H λx O=>g x U O D.nx
def XG(l:PE X e te)(k:PG X tg g)(f:@&(swapsWithSole [tg] e G.line X.env=c9 false))(hw:@&(swappedStores [tg] e X.env=c9 none))(J:@&((A5 [tg] X.env).map (·.2)=[assign tg X.env])):PS X (.Assign [tg] e G)<|Xj te g:=by
 intro B s U H D I h;refine wpAny_Assign_stores (eP (l B s U H _ I h) ?_) f hw;rintro v a ⟨x,O,m,b,c⟩;rw[J]
 exact Ÿ
def km{i:Nat}(l:X.N.Nodup)(L:X.N[i]?=Y x)(c:Loc X.env.scope x)(k:PE X e te)(f:@&(cg e (Y<|.Name x VO) G.line X.env=c9 false))(g:autoParam (X.fn x=Z'\/X.env.scope.names.lookup x=Y .local) ŧ):
  PS X (.Assign [.Name x VO] e G) (Xj te<|ny i):=by
 intro B s U H D I h;refine wpAny_Assign_Name (eP (k B s U H _ I h) ?_) f;rintro v r ⟨y,O,o,a,b⟩;exact yI o l L c a (λp m=>(_,O,m,b)) g
def aes(i:Nat)(te:TE)(a:TIp):TS:=λD U H=>∃x,U[i]?=Y (Y x)/\te U H λy O=>a x y O λz d=>D.nx (U.set i<|Y z) d
def XF{ti:TIp}(hN:X.N.Nodup)(L:X.N[i]?=Y x)(t:Loc X.env.scope x)(he:PE X e te)(P:PIp X p ti)(T:autoParam (X.fn x=Z'\/X.env.scope.names.lookup x=Y .local) ŧ):
  PS X (.AugAssign (.Name x VO) p e G) (aes i te ti):=by
 rintro B s U H D I ⟨v,e1,h⟩;let(m,Q,S):=I.loc;let o:Zu X.env.scope x:=by obtain k|k:=t;exact .inl k;exact .inr<|.inl k
 let(u,r,l):=S i x v L e1 o;refine wpAny_AugAssign_Name ?_;have A:bz (bj X.prog X.w) X.A (eval e X.env) (λw g=>bz (bj X.prog X.w) X.A (inplaceOp p u w) (λr f=>bz (bj X.prog X.w) X.A (storeName X.env x r) (λ_=>SP X B D .next) X.xe f) X.xe g) X.xe s:=by refine eP (he B s U H _ I h) ?_;rintro w C ⟨y,O,I1,F,j⟩;refine eP (P B C U O v y u w _ I1 r F j) ?_;rintro z s2 ⟨zv,d,I2,E,K⟩;exact yI I2 hN L t E (λs3 I3=>(_,d,I3,K)) T
 obtain⟨a,R⟩|⟨a,c,hc,b⟩:=l
 .exact wpAny_loadName_local I.ok.kind a Q R A
 .obtain a|a:=a
  .exact wpAny_loadName_cell I.ok.kind a hc b A
  .obtain k|k:=t
   .have:X.env.scope.names.lookup x=Y .free:=a
    simp_all
   .have:X.env.scope.names.lookup x=Y .free:=a
    simp_all
def W_(c:TT)(y:TS):TS:=λD U H=>∃Da:Nat->St->Hp->Prop,(∃m,Da m U H)/\∀m U H,Da m U H ->
 c U H λb O=>if b=Z' then ∃N:St->Hp->Prop,(∀a H',N a H'->∃e,e<m/\Da e a H')/\y { D with nx:=N,ct:=N,bk:=D.nx } U O else D.nx U O
def O8(x:sU (bj X.prog X.w) X.A X.env X.xe)(Q:PT X c tc)(R:nY X g y):PS X (.While c g [] G)<|W_ tc y:=by
 rintro B s U H D I ⟨Da,⟨P,F⟩,j_⟩;refine wpAny_While<|codeAny_whileLoop (λn s'=>∃k H',Inv X B k H' s'/\Da n k H') ?_ P (U,H,I,F);rintro n h ⟨e,O,S,E⟩;refine de x<|eP (Q B h e O _ S<|j_ n e O E) ?_;rintro b K ⟨d,C,o⟩;cases b with
 |true=>
  let(N,A,o):=o;refine de x<|eP (R B K e d _ C o) λf T m =>?_;cases f with
  |brk=>exact m|ret v=>exact m|_=>
   refine ae λkk =>?_
   let(a,l,w,r):=m;let(t,u,p):=A a l r;exact kk<|(t,u,a,l,w,p)
 |false=>exact rF (e,d,C,o)
end
structure It where
 go:Nat->Hp->Prop
 JP:Nat->Hp->V->Hp->Prop
 stop:Nat->Hp->Prop
def AU(X:Cx)(B:!(aH×Obj))(H:Hp)(b:aH):Prop:=
 H b=M/\b≠X.env.locals/\b∉X.fs/\(b∈X.ex\/X.s₀.heap.objs.size<=b)/\(∀x c,X.env.cells.lookup x=Y c->c≠b)/\∀p∈X.pn++B,p.1≠b
def Inv.Aq{X:Cx}{s:aA}(I:Inv X B U H s)(a:s.heap.objs.size<=b)(g:H' b=M):AU X B H' b:=by
 refine(g,j2<|bo I.lt a,I.Yc a,.inr<|bB I.sz a,λx c e z =>?_,λp f z =>?_)
 .let(v,q):=I.cell x c e;exact absurd (bo q.lt Ż)<|nF _
 .exact absurd (bo (aQ (I.pin p f).1) Ż)<|nF _
structure NM(P:bh)(w:cW)(K:aV)(tg:Expr)(J:It)(fp:!aH)(it:aH)(tn:Nat->cP->Prop):Prop where
 mem:it∈fp
 obj:∀i h,tn i h->∀b∈fp,∃o,h.get? b=some o/\∀v,o.data ≠ .cell v
 keep:∀i h h',tn i h->(∀b∈fp,∀o,h.get? b=some o->h'.get? b=some o)->tn i h'
 item:∀(X:Cx),X.prog=P->X.w=w->X.K=K->X.calm=true->∀(i:Nat) (EE:!(aH×Obj)) (s:aA) (σ:St) (H:Hp) (E:au->aA->Prop),Inv X EE σ H s->(∀b∈fp,AU X EE H b)->tn i s.heap->J.go i H ->
  bz (bj P w) X.A (pyNext<|.ref it) (λr s1=>∃u,r=some u /\
   bz (bj P w) X.A (VU tg (.ref it) u) (λ_ s2=>∃x H',Inv X EE σ H' s2/\RelV x u/\J.JP i H x H'/\tn (i+1) s2.heap/\∀b∈fp,H' b=none) E s1) E s
 done:∀(X:Cx),X.prog=P->X.w=w->X.K=K->X.calm=true->∀(i:Nat) (EE:!(aH×Obj)) (s:aA) (σ:St) (H:Hp) (E:au->aA->Prop),Inv X EE σ H s->(∀b∈fp,AU X EE H b)->tn i s.heap->J.stop i H ->
  bz (bj P w) X.A (pyNext<|.ref it) (λr s1=>r=none/\Inv X EE σ H s1) E s
 self:∀(A:gM) (i:Nat) (s:aA) (Q:au->aA->Prop) (E:au->aA->Prop),tn i s.heap->Q (.ref it) s->bz (bj P w) A (pyIter<|.ref it) Q E s
abbrev TI:=St->Hp->(It->Hp->Prop)->Prop
def PIE(X:Cx)(B:!(aH×Obj))(U:St)(tg:Expr)(R:It->Hp->Prop)(a:au)(e:aA):Prop:=
 ∃(f:aH) (g:!aH) (c:Nat->cP->Prop) (J:It) (H':Hp),a=.ref f/\Inv X B U H' e/\NM X.prog X.w X.K tg J g f c/\c 0 e.heap/\(∀b∈g,AU X B H' b)/\R J H'
def PI(X:Cx)(tg a:Expr)(b:TI):Prop:=
 ∀(B:!(aH×Obj)) (s:aA) (U:St) (H:Hp) (R:It->Hp->Prop),Inv X B U H s->b U H R ->
  bz (bj X.prog X.w) X.A (eval a X.env) (λv c=>bz (bj X.prog X.w) X.A (pyIter v) (PIE X B U tg R) X.xe c) X.xe s
def QQ{d : Model}{s : aA}{n : String}(e : s.heap.get? c = Y o)(k : o.cls = .type n)(g : o.data = .fields b)(f : ["enumerate","zip","dict_itemiterator","dict_reverseitemiterator","odict_iterator","itertools.zip_longest","itertools.pairwise"].contains n = Z_)(a : Q () s): bz d A (VU tg (.ref c) u) Q E s := by
  cases tg <;> first
    |exact bD a
    | (cases u <;> first
        |exact bD a
        | (refine aB (wpAny_load e ?_)
           rw [k,g]
           show bz d A (if (["enumerate","zip","dict_itemiterator","dict_reverseitemiterator","odict_iterator","itertools.zip_longest","itertools.pairwise"].contains n && b[0]? == Y _) = Z' then _ else _) Q E s
           rw [if_neg<|by lia]
           exact bD a))
noncomputable def Itl(K:aV)(a:aH):It:=
 (λi H=>∃xs x,lW K H a xs/\xs[i]?=Y x,λi H x H'=>H'=H/\∀xs,lW K H a xs->xs[i]?=Y x,λi H=>∃xs,lW K H a xs/\xs.length<=i)
noncomputable def Itr(n:Int)(a:Nat):It:=(λi b=>i<a,λi H x H'=>H'=H/\x=.int (n+i),λi b=>a<=i)
def Ma{P:bh}{K:aV}(a f:aH):NM P w K tg (Itl K a) [f] f (λi h=>h.IsListIter f a i) where
 mem:=by solve_by_elim
 obj:=λi h st b g=>by
  let e:b=f:=by simpa using g
  subst e;let(o,e,c,d):=st;exact(o,e,λv z=>by rw[d]at z;cases z)
 keep:=λi h h' st k=>st.at λo e=>k f Ÿ o e
 item:=by
  intro X F hw j hc i B s U H E I r st D;subst F hw j;let(xs,x,m,C):=D;let(A,t,p,hz):=I.list m;let(u,hu,ru):=t.get C;let(f0,T,f2,S,R,Q):=r f Ÿ;refine wpAny_pyNext_list_item st p.isList (x:=u) (by simpa using hu) λh' l sb =>?_
  let I1:Inv X B U H { s with heap:=h' }:=I.turned (t':=s.toks) (λb o g e=>(sb.2 b g).trans e) f0 T S R Q;let(o,e,c,d):=id l;exact(u,W,QQ (s:={ s with heap:=h' }) e c d ſ (x,H,I1,ru,(W,λys hy=>by rw[I.qL hy m];exact C),l,λb g=>(r b g).1))
 done:=by intro X F hw j hc i B s U H E I r st D;subst F hw j;let(xs,m,C):=D;let(A,t,p,hz):=I.list m;let(f0,T,f2,S,R,Q):=r f Ÿ;let hl:=t.length;exact wpAny_pyNext_list_end (I.ok.hd hc) st p.isList (by simp;simp_all) λh' eb=>(W,I.turned (t':=s.toks) (λb o g e=>eb b o g e) f0 T S R Q)
 self:=λn n n n n st h=>wpAny_pyIter_listiter st h
def HV{P:bh}{K:aV}(c:aH)(n:Int)(a:Nat):NM P w K tg (Itr n a) [c] c (λi h=>IsRangeIter h c (n+(i:Nat)*1) ((a:Int)-(i:Nat)) 1) where
 mem:=by solve_by_elim
 obj:=λi h st b f=>by
  let e:b=c:=by simpa using f
  subst e;exact(_,st,λv z=>by let d:Data.fields _=Data.cell v:=z;cases d)
 keep:=λi h h' st k=>k c Ÿ _ st
 item:=by
  intro X r hw u p i B s U H E I l st m;subst r hw u;let(F,D,S,C,A,x):=l c Ÿ;let Da:=Walks.range (prog:=X.prog) (w:=X.w) (I.ok.hd p) c n 1 a;refine Da.item i s _ _ m st λv h' tk R g Q =>?_
  let(t,rfl):=R;let I1:Inv X B U H { s with heap:=h',toks:=tk }:=I.turned (λb o f e=>Q b o (by simpa using f) e) F D C A x;refine(_,W,QQ (s:={ s with heap:=h',toks:=tk }) (n:= "range_iterator") g W W ſ (.int<|n+i,H,I1,(t,?_),(W,W),g,λb f=>(l b f).1));rw[Int.mul_one]
 done:=by intro X r hw u p i B s U H E I l st m;subst r hw u;let(F,D,S,C,A,x):=l c Ÿ;exact wpAny_pyNext_range_end (I.ok.hd p) st (by have:a<=i:=m;lia) λh' T=>(W,I.turned (t':=s.toks) (λb o f e=>T b o f e) F D C A x)
 self:=λj j j j j st h=>wpAny_pyIter_rangeiter st h
section
variable {X:Cx}
def abF(K:aV)(tl:TE):TI:=λU H R=>tl U H λx O=>∃a,x=.ref a/\(∃xs,lW K O a xs)/\R (Itl K a) O
def Kc(t:PE X l tl):PI X tg l<|abF X.K tl:=by
 intro B s U H R I h;refine eP (t B s U H _ I h) ?_;rintro v c ⟨x,O,f,g,k⟩;obtain⟨a,e,⟨xs,r⟩,q⟩:=k;subst e;cases g;let(m,w,p,A):=f.list r;refine j7 p.isList ?_;refine(_,_,_,_,O,W,f.kept λb o e=>ao _ e,Ma a _,(_,br _ W,W,W),λb u =>?_,q);let e:=by simpa using u
 subst e;exact f.Aq (aF _)<|f.gf.fresh<|aF _
def FE{s:aA}{R:It->Hp->Prop}{v:Tok}(I:Inv X B U H s)(J : -(2 ^ 62)<=n)(z:n<2 ^ 62)(g : -(2 ^ 62)<=L)(f:L<2 ^ 62)(q:R (Itr n (L-n).toNat) H):bz (bj X.prog X.w) X.A (pyIter<|.ref s.heap.objs.size) (PIE X B U tg R) E { s with heap:=s.heap.push { cls :=.type "range",data :=.fields #[.int n t,.int L u,.int 1 v] },toks:=tk }:=by
 refine wpAny_pyIter_range (IsRange.new ..) (small_one J z g f) ?_;have a:Inv X B U H { s with heap:=s.heap.push { cls :=.type "range",data :=.fields #[.int n t,.int L u,.int 1 v] },toks:=tk }:=I.kept λb o e=>ao _ e
 refine(_,_,_,_,H,W,
  a.kept λb o e=>ao _ e,HV _ n _,?_,λb c =>?_,q)
 .let k:n+(0:Nat)*1=n:=by simp
  let h:((L-n).toNat:Nat)-(0:Nat)=Builtin.Range.rangeSize n L 1:=by grind [rangeSize_one]
  rw[k,h];exact br _ W
 .let e:b=(s.heap.push { cls :=.type "range",data :=.fields #[.int n t,.int L u,.int 1 v] }).objs.size:=by simpa using c
  subst e;exact a.Aq (aF _)<|a.gf.fresh<|aF _
def abD(N:TA):TI:=λU H R=>N U H λa O=>∃j:Int,a=[.int j] /\ -(2 ^ 62)<=j/\j<2 ^ 62/\R (Itr 0 j.toNat) O
def abC(N:TA):TI:=λU H R=>N U H λa O=>∃i j:Int,a=[.int i,.int j]/\(-(2 ^ 62)<=i/\i<2 ^ 62 /\ -(2 ^ 62)<=j/\j<2 ^ 62)/\R (Itr i (j-i).toNat) O
def B9(m:Gl X "range")(l:X.mg "range" = M)(o:PA X [a] N)(k:@&(ak [a] X.env=[(Z_,eval a X.env)])):PI X tg (.Call (.Name "range" p) [a] [] G)<|abD N:=by
 intro B s U H R I h;refine Call_<|pz I m l boot_range<|fO (eP (o G B s U H _ I h) ?_) k W;rintro w x ⟨v,O,u,f,b⟩;let(j,e,b,g,q):=b;subst e;cases f with
 |cons r c=>cases c;let(t,rfl):=r;exact call_range_1<|FE u ż ż b g Ż
def Mu(x:Gl X "range")(w:X.mg "range" = M)(A:PA X [a,b] N)(v:@&(ak [a,b] X.env=[(Z_,eval a X.env),(Z_,eval b X.env)]))(c:@&(ak [b] X.env=[(Z_,eval b X.env)])):
  PI X tg (.Call (.Name "range" p) [a,b] [] G) (abC N):=by
 intro B s U H R I h;refine Call_<|pz I x w boot_range<|fO (eP (A G B s U H _ I h) ?_) (by rw[v,c]) (by rw[c];exact Ÿ);rintro E K ⟨D,O,C,k,g⟩;obtain⟨i,j,e,⟨g,u,o,m⟩,q⟩:=g;subst e;cases k with
 |cons r f=>
  cases f with
  |cons l f=>cases f;let(t,rfl):=r;let(F,rfl):=l;exact call_range_2<|FE C g u o m q
def aeo(e:TI)(g:TG)(y:TS):TS:=λD U H=>e U H λJ O=>∃Da:Nat->Nat->St->Hp->Prop,(∃m,Da 0 m U O)/\∀i m U H,Da i m U H ->
 (J.stop i H/\D.nx U H)\/(J.go i H/\∃N:St->Hp->Prop,(∀a H',N a H'->∃c,c<m/\Da (i+1) c a H')/\∀x H',J.JP i H x H'->g x U H' λb d=>y { D with nx:=N,ct:=N,bk:=D.nx } b d)
noncomputable def tu(a:!aH)(h:cP):!(aH×Obj):=a.filterMap λb=>(h.get? b).map λo=>(b,o)
def jr(c:b∈a)(e:h.get? b=Y o):(b,o)∈tu a h:=qh.mpr (b,c,by rw[e];rfl)
def B_(c:p∈tu a h):p.1∈a/\h.get? p.1=Y p.2:=by
 let(b,_):=qh.mp c;rcases q:h.get? b with _|o
 .simp_all
 grind
def Inv.pinned{s:aA}(I:Inv X B U H s)(k:∀b∈a,AU X B H b)(h:∀b∈a,∃o,s.heap.get? b=Y o/\∀v,o.data ≠ .cell v):Inv X (B++tu a s.heap) U H s:=
 I.ye λp g=>(aD.mp g).elim (λz=>I.pin p Ż) λz=>by
  let(c,e):=B_ z;let(r,m,l,_):=k p.1 c
  grind
def Inv.mf{s:aA}(I:Inv X (B++a) U H s):Inv X B U H s:=I.ye λp b=>I.pin p Ż
def XE{j : !cH}(hp : sU (bj X.prog X.w) X.A X.env X.xe)(hc : X.calm = Z')(L : PI X tg w wi)(hg : PG X tg g)(A : nY X j y)(hs:autoParam (∀x,bR w X.env x = c9 x) Ŕ): PS X (.For tg w j [] G) (aeo wi g y) := by
  intro B s U H D I h
  refine wpAny_For (eP (L B s U H _ I h) λv s1 J => eP J λitv s2 z => ?_) hs
  refine ae λkk => ?_
  obtain ⟨it,fp,tn,a,d,e,I2,T,Xl,f2,Da,⟨m0,w0⟩,j_⟩ := z
  subst e
  have t : ∀ {H' : Hp},(∀b ∈ fp,H' b = M) -> ∀b ∈ fp,AU X B H' b := λhn b A => (hn b A,(f2 b A).2)
  refine kk<|codeAny_forLoop_any (λn s' => ∃i p H',Inv X B p H' s' /\ tn i s'.heap /\ (∀b ∈ fp,H' b = M) /\ Da i n p H') ?_ m0 (0,U,d,I2,Xl,λb A => (f2 b A).1,w0)
  refine λn s3 xx => ae λkk => ?_
  let(i,l,H3,I3,R,fr3,w3):=xx
  refine kk ?_
  obtain⟨stop,qn⟩ | ⟨go,N,hN,Q⟩:=j_ i n l H3 w3
  . refine de hp (eP (T.done X W W W hc i B s3 l H3 X.xe I3 (t fr3) R stop) ?_)
    rintro r s4 ⟨hr,I4⟩
    subst hr
    exact rF (l,H3,I4,qn)
  . refine de hp (eP (T.item X W W W hc i B s3 l H3 X.xe I3 (t fr3) R go) ?_)
    rintro r s4 ⟨u,hr,h4⟩
    subst hr
    refine de hp<|eP h4 ?_
    refine λ_ s5 xx => ae λkk => ?_
    let(x,H5,I5,r5,y5,P,Z9):=xx
    refine kk<|de hp<|eP (hg _ s5 l H5 x u _ (I5.pinned (t Z9)<|T.obj _ _ P) r5<|Q x H5 y5) ?_
    refine λ_ s6 xx => ae λkk => ?_
    let(σ6,H6,I6,q6):=xx
    refine kk<|de hp<|eP (A _ s6 σ6 H6 _ I6 q6) λf s7 K => ?_
    have C : ∀ {k : St} {F : Hp},Inv X (B ++ tu fp s5.heap) k F s7 -> N k F -> ∃m,m < n /\ ∃i p H',Inv X B p H' s7 /\ tn i s7.heap /\ (∀b ∈ fp,H' b = M) /\ Da i m p H' := fun {k F} E S => by
      let(m',hm,w7):=hN k F S
      refine(m',hm,i + 1,k,F,E.mf,T.keep _ _ _ P λb A o e => (E.pin (b,o)<|aE _<|aE _<|jr A e).1,λb A => ?_,w7)
      let(o,e,c):=T.obj _ _ P b A
      exact (E.pin (b,o)<|aE _<|aE _<|jr A e).2.1
    cases f with
    |brk => let(k,F,E,K):=K; exact(k,F,E.mf,K)
    | ret v => refine ae λkk => ?_
               let(x7,k,F,E,r7,K):=K; exact kk<|(x7,k,F,E.mf,r7,K)
    |_ => let(k,F,E,S):=K; exact C E S
end
def Q0{K:aV}{g:TG}{y:TS}{D:Ends}(c:Nat->St->Hp->Prop)(u:c 0 U H)(s:∀i U H,i<=xs.length->c i U H->lW K H a xs)(r:∀i x U H,xs[i]?=Y x->c i U H->g x U H λf d=>y { D with nx:=c<|i+1,ct:=c<|i+1,bk:=D.nx } f d)(t:∀U H,c xs.length U H->D.nx U H):
  ∃Da:Nat->Nat->St->Hp->Prop,(∃m,Da 0 m U H)/\∀i m U H,Da i m U H ->
   ((Itl K a).stop i H/\D.nx U H)\/((Itl K a).go i H/\∃N:St->Hp->Prop,(∀h H',N h H'->∃l,l<m/\Da (i+1) l h H')/\∀x H',(Itl K a).JP i H x H'->g x U H' λf d=>y { D with nx:=N,ct:=N,bk:=D.nx } f d):=by
 refine(λi m U H=>m=xs.length-i/\i<=xs.length/\c i U H,(xs.length,ż,cZ _,u),?_);rintro i m U H ⟨rfl,L,p⟩;let q:=s i U H L p;by_cases k:i<xs.length
 .refine .inr ((xs,xs[i],q,ż),c<|i+1,λh H' o=>(xs.length-(i+1),ž,W,k,o),λx H' b =>?_);let(e,b):=b;subst e;exact r i x U _ (b xs q) p
 .let e:i=xs.length:=by lia
  subst e;exact .inl ((xs,q,aF _),t U H p)
abbrev R2:=V->V->Hp->VK->Prop
def mT(X:Cx)(f:au->au->Sem au)(r:R2):Prop:=
 ∀(B:!(aH×Obj)) (s:aA) (U:St) (H:Hp) (x y:V) (v u:au) (Q:VK),Inv X B U H s->RelV x v->RelV y u->r x y H Q ->
  bz (bj X.prog X.w) X.A (f v u) (EP X B U Q) X.xe s
def UnR(X:Cx)(f:au->Sem au)(r:V->Hp->VK->Prop):Prop:=
 ∀(B:!(aH×Obj)) (s:aA) (U:St) (H:Hp) (x:V) (v:au) (Q:VK),Inv X B U H s->RelV x v->r x H Q ->
  bz (bj X.prog X.w) X.A (f v) (EP X B U Q) X.xe s
def k7(X:Cx)(f:au)(r:!V->Hp->VK->Prop):Prop:=
 ∀(B:!(aH×Obj)) (s:aA) (U:St) (H:Hp) (xs:!V) (a:!au) (Q:VK),Inv X B U H s->cf xs a->r xs H Q ->
  bz (bj X.prog X.w) X.A (call f a) (EP X B U Q) X.xe s
def af4(X:Cx)(r:V->Hp->(Bool->Hp->Prop)->Prop):Prop:=
 ∀(B:!(aH×Obj)) (s:aA) (U:St) (H:Hp) (x:V) (v:au) (Q:Bool->Hp->Prop),Inv X B U H s->RelV x v->r x H Q ->
  bz (bj X.prog X.w) X.A (truthy v) (TP X B U Q) X.xe s
def ZW(r:R2)(N y:TE):TE:=λU H Q=>N U H λx O=>y U O λa d=>r x a d Q
def tUn(r:V->Hp->VK->Prop)(N:TE):TE:=λU H Q=>N U H λx O=>r x O Q
def rI(C:Int->Int->Prop)(g:Int->Int->V):R2:=λx y H Q=>∃i j,x=.int i/\y=.int j/\C i j/\Q (g i j) H
def Sw(g:Int->Int->V):R2:=λx y H Q=>∃i j,x=.int i/\y=.int j/\Q (g i j) H
def rU(g:Int->V):V->Hp->VK->Prop:=λx H Q=>∃i,x=.int i/\Q (g i) H
section
variable {X:Cx}
def Zp(A:PE X a N)(w:PE X b y){s:aA}{R:V->V->Hp->Prop}(I:Inv X B U H s)(h:N U H λx O=>y U O λc d=>R x c d){f:au->au->Sem au}(t:∀v u k x c d,Inv X B U d k->RelV x v->RelV c u->R x c d->bz (bj X.prog X.w) X.A (f v u) Q X.xe k):
  bz (bj X.prog X.w) X.A (eval a X.env) (λv g=>bz (bj X.prog X.w) X.A (eval b X.env) (λu e=>bz (bj X.prog X.w) X.A (f v u) Q X.xe e) X.xe g) X.xe s:=by
 refine eP (A B s U H _ I h) ?_;rintro v l ⟨x,O,D,o,r⟩;refine eP (w B l U O _ D r) ?_;rintro u k ⟨c,d,C,m,p⟩;exact t v u k x c d C o m p
def FN(l:mT X (dr e) r)(o:PE X a N)(m:PE X b y):PE X (.BinOp a e b G)<|ZW r N y:=by
 exact λB s U H Q I h=>wpAny_BinOp<|Zp o m I h λv u f x c d p k g q=>l B f U d x c v u Q p k g q
def Kd{b:UnaryOp}(g:UnR X (unaryOp b) r)(k:PE X a N):PE X (.UnaryOp b a G)<|tUn r N:=by
 exact λB s U H Q I h=>UnaryOp_<|eP (k B s U H _ I h) (by rintro v c ⟨x,O,l,e,f⟩;exact Ÿ)
def opI{f:au->au->Sem au}{g:Int->Int->Int}(a:∀(i j:Int) (t u:Tok) (s:aA) (Q:au->aA->Prop) (E:au->aA->Prop),C i j->Q (.int (g i j) s.toks) { s with toks:=s.toks+1 }->bz (bj X.prog X.w) X.A (f (.int i t)<|.int j u) Q E s):
  mT X f (rI C λi j =>.int<|g i j):=by
 rintro B s U H x y v u Q I e c ⟨i,j,rfl,rfl,k,q⟩;let(t,rfl):=e;let(b,rfl):=c;exact a i j t b s _ _ k (.int _,H,I.tok _,(_,W),q)
def Ud{f:au->au->Sem au}{g:Int->Int->Int}(a:∀(i j:Int) (t u:Tok) (s:aA) (Q:au->aA->Prop) (E:au->aA->Prop),Q (.int (g i j) s.toks) { s with toks:=s.toks+1 }->bz (bj X.prog X.w) X.A (f (.int i t)<|.int j u) Q E s):
  mT X f (Sw λi j =>.int<|g i j):=by
 rintro B s U H x y v u Q I e c ⟨i,j,rfl,rfl,q⟩;let(t,rfl):=e;let(b,rfl):=c;exact a i j t b s _ _ (.int _,H,I.tok _,(_,W),q)
def X5{f:au->au->Sem au}{g:Int->Int->Bool}(a:∀(i j:Int) (t u:Tok) (s:aA) (Q:au->aA->Prop) (E:au->aA->Prop),Q (.bool<|g i j) s->bz (bj X.prog X.w) X.A (f (.int i t)<|.int j u) Q E s):
  mT X f (Sw λi j =>.bl<|g i j):=by
 rintro B s U H x y v u Q I e c ⟨i,j,rfl,rfl,q⟩;let(t,rfl):=e;let(b,rfl):=c;exact a i j t b s _ _ (.bl _,H,I,W,q)
def agd(i j:Int):Prop:=0<=j/\j<=1000000/\i.natAbs<2 ^ 64
def Se(i j:Int):Prop:=(-(2 ^ 64)<i/\i<2 ^ 64)\/(-(2 ^ 64)<j/\j<2 ^ 64)
def Se.ok{i:Int}(h:Se i j):IntMulOk i j:=by
 obtain⟨J,z⟩|⟨J,z⟩:=h
 .exact .of_left<|intBits_le_64 J z
 .exact .of_right<|intBits_le_64 J z
def HS(k:Nat):(0:Int)<=2 ^ k:=by
 exact fZ _
def X4:mT X (dr .Add)<|Sw λi j =>.int<|i+j:=Ud λa a a a a a a q=>add_int q
def Ip:mT X (dr .Sub)<|Sw λi j =>.int<|i-j:=Ud λa a a a a a a q=>sub_int q
def XZ:mT X (dr .Mult)<|rI Se λi j =>.int<|i*j:=opI λb b b b b b b a q=>mul_int q a.ok
def X2:mT X (dr .Mod)<|rI (λb j=>0<j) λi j =>.int<|i%j:=opI λi j b b b b b a q=>by
 exact mod_int' Ž (by rw[Int.fmod_eq_emod_of_nonneg i<|by lia];exact q)
def XX:mT X (dr .LShift)<|rI agd λi j =>.int<|i*2 ^ j.toNat:=opI λb b b b b b b a q=>lshift_int_small a.1 a.2.1 a.2.2 q
def XW:mT X (dr .RShift)<|rI (λb j=>0<=j) λi j =>.int<|i/2 ^ j.toNat:=opI λi j b b b b b a q=>
 rshift_int a (by rw[NU i<|HS _];exact q)
def X3:mT X (dr .BitAnd)<|Sw λi j =>.int<|uD i j:=Ud λa a a a a a a q=>and_int q
def abe:mT X (dr .BitOr)<|Sw λi j =>.int<|eJ i j:=Ud λa a a a a a a q=>or_int q
def unI{f:au->Sem au}{g:Int->Int}(a:∀(i:Int) (t:Tok) (s:aA) (Q:au->aA->Prop) (E:au->aA->Prop),Q (.int (g i) s.toks) { s with toks:=s.toks+1 }->bz (bj X.prog X.w) X.A (f<|.int i t) Q E s):
  UnR X f (rU λi =>.int<|g i):=by
 rintro B s U H x v Q I b ⟨i,rfl,q⟩;let(t,rfl):=b;exact a i t s _ _ (.int _,H,I.tok _,(_,W),q)
def HP:UnR X (unaryOp .USub)<|rU λi =>.int<|-i:=unI λa a a a a q=>neg_int q
def W6:UnR X (unaryOp .Invert)<|rU λi =>.int<|uC i:=unI λa a a a a q=>invert_int q
noncomputable def aew:V->V->Bool
 |.dC,.dC=>Z'|.dC,.int _=>Z'|.int _,.dC=>Z'|.dC,.bl _=>Z'|.bl _,.dC=>Z'|.dC,.str _=>Z'|.str _,.dC=>Z'|.int _,.int _=>Z'|.bl _,.bl _=>Z'|.str _,.str _=>Z'|.Jx _,.Jx _=>Z'|.int _,.str _=>Z'|.str _,.int _=>Z'|.bl _,.str _=>Z'|.str _,.bl _=>Z'|_,_=>Z_
def rEq:R2:=λx y H Q=>aew x y=Z'/\Q (.bl<|decide (x=y)) H
def Vq:decide (V.int i=V.int j)=(i==j):=by
 rw[d9];simp
def Za:decide (V.bl i=V.bl j)=(i==j):=by
 rw[d9];simp
def Vp:decide (V.str i=V.str j)=(i==j):=by
 rw[d9];simp
def Vr:decide (V.Jx i=V.Jx j)=(i.toList==j.toList):=by
 rw[d9];cases i;cases j;simp
def i5{s:aA}{a:Bool}(I:Inv X B U H s)(q:Q (.bl k) H)(e:k=a):EP X B U Q (.bool a) s:=by
 subst e;exact(.bl k,H,I,W,q)
def Wp:mT X (c7 .Eq) rEq:=by
 intro B s U H x y v u Q I e a h;let(c,q):=h;cases x with
 |dC=>
  cases e;cases y with
  |dC=>cases a;exact PySem.EqNone.eq_none_none<|i5 I q (by trivial)
  |bl j=>cases a;exact PySem.EqNone.eq_none_bool<|i5 I q (by trivial)
  |int j=>let(b,rfl):=a;exact PySem.EqNone.eq_none_int<|i5 I q (by trivial)
  |str j=>let(b,rfl):=a;exact PySem.EqNone.eq_none_str<|i5 I q (by trivial)
  |_=>exact absurd (show Z_=Z' from c) bU
 |bl i=>
  cases e;cases y with
  |dC=>cases a;exact PySem.EqNone.eq_bool_none<|i5 I q (by trivial)
  |bl j=>cases a;exact eq_bool (i5 I q Za)|str j=>let(b,rfl):=a;exact PySem.EqMixed.eq_bool_str<|i5 I q (by trivial)
  |_=>exact absurd (show Z_=Z' from c) bU
 |int i=>
  let(t,rfl):=e;cases y with
  |dC=>cases a;exact PySem.EqNone.eq_int_none<|i5 I q (by trivial)
  |int j=>let(b,rfl):=a;exact eq_int<|i5 I q Vq
  |str j=>let(b,rfl):=a;exact PySem.EqMixed.eq_int_str<|i5 I q (by trivial)
  |_=>exact absurd (show Z_=Z' from c) bU
 |str i=>
  let(t,rfl):=e;cases y with
  |dC=>cases a;exact PySem.EqNone.eq_str_none<|i5 I q (by trivial)
  |bl j=>cases a;exact PySem.EqMixed.eq_str_bool<|i5 I q (by trivial)
  |int j=>let(b,rfl):=a;exact PySem.EqMixed.eq_str_int<|i5 I q (by trivial)
  |str j=>let(b,rfl):=a;exact eq_str<|i5 I q Vp
  |_=>exact absurd (show Z_=Z' from c) bU
 |Jx i=>
  let(t,rfl):=e;cases y with
  |Jx j=>let(b,rfl):=a;exact PySem.W.eq_bytes<|i5 I q Vr
  |_=>exact absurd (show Z_=Z' from c) bU
 |_=>cases y<;>exact absurd (show Z_=Z' from c) bU
def abf:mT X (c7 .Lt)<|Sw λi j =>.bl<|decide (i<j):=X5 λa a a a a a a q=>lt_int q
def Wo:mT X (c7 .Gt)<|Sw λi j =>.bl<|decide (j<i):=X5 λa a a a a a a q=>gt_int q
def abg:mT X (c7 .GtE)<|Sw λi j =>.bl<|decide (j<=i):=X5 λa a a a a a a q=>ge_int q
def mT.or{f:au->au->Sem au}{r c:R2}(h:mT X f r)(h':mT X f c):mT X f<|λx y H Q=>r x y H Q\/c x y H Q:=by
 intro B s U H x y v u Q I b a q;obtain q|q:=q
 .exact Ÿ
 exact Ÿ
def kv(b:Expr)(h:‹op ≠ .In›)(z:‹op ≠ .NotIn›):fh op b=false:=by
 let c:(op==CmpOp.In)=false:=by simp_all
 let a:(op==CmpOp.NotIn)=false:=by simp_all
 cases b<;>simp[fh,c,a]
def T7(l:mT X (c7 e) r)(p:PE X a N)(o:PE X b y)(m:fh e b=Z_):PE X (.Compare a [e] [b] G)<|ZW r N y:=by
 exact λB s U H Q I h=>wpAny_Compare1 (Zp p o I h λv u f x c d t k g q=>l B f U d x c v u Q t k g q) m
def aaD(t:TE):TT:=λU H Q=>t U H λx H'=>∃k,x=.bl k/\Q k H'
def uU(D:mT X (c7 g) r)(K:PE X a N)(F:PE X b y)(E:fh g b=Z_):PT X (.Compare a [g] [b] G)<|aaD<|ZW r N y:=by
 intro B s U H Q I h;refine wpAny_isTrue_Compare1 (eP (K B s U H _ I h) λv m (x,O,R,t,C)=>eP (F B m U O _ R C) λu l (f,d,P,p,A)=>eP (D B l U d x f v u _ P t p A) λc T (z,S,i,o,k,e,w) =>?_) E
 subst e;cases o;exact ir (S,i,w)
def acC(K:aV)(x:V)(H:Hp)(k:Bool):Prop:=
 match x with
 |.dC=>k=Z_|.bl b=>k=b|.int i=>k=(i != 0)|.str y=>y.length<=a7/\k=((y.length:Int) != 0)|.Jx y=>y.size<=a7/\k=((y.size:Int) != 0)|.ref p=>(∃xs,lW K H p xs/\k = (not xs.isEmpty))\/(∃xs,VG K H p xs/\k = (not xs.isEmpty))\/∃a,H p=Y (.dK a)/\k = (not a.isEmpty)|_=>False
def IS{b:Type}{a:!(b×V)}{c:!(b×au)}(r:KV a c):(not c.isEmpty) = (not a.isEmpty):=by
 cases r<;>rfl
def z_{xs:!V}{a:!au}(r:cf xs a):(not a.toArray.isEmpty) = (not xs.isEmpty):=by
 cases r<;>trivial
def wy:(a7:Nat)<2 ^ 63:=by decide
def W7:af4 X (λx H Q=>∃k,acC X.K x H k/\Q k H):=by
 rintro B s U H x v Q I rx ⟨k,e,q⟩;let hs:=kE;cases x with
 |dC=>cases rx;subst (e);exact truthy_none (H,I,q)|bl b=>cases rx;subst (e);exact ir (H,I,q)|int i=>let(t,rfl):=rx;subst (e);exact PySem.P.truthy_int (H,I,q)
 |str y=>let(t,rfl):=rx;obtain⟨hy,e'⟩:y.length<=a7/\k=((y.length:Int) != 0):=e;subst e';exact PySem.P.truthy_str Ž (H,I.tok _,q)
 |Jx y=>let(t,rfl):=rx;obtain⟨hy,e'⟩:y.size<=a7/\k=((y.size:Int) != 0):=e;subst e';exact PySem.W.truthy_bytes Ž (H,I.tok _,q)
 |ref p=>
  cases rx;let e':=e;obtain⟨xs,hx,e'⟩|⟨xs,hx,e'⟩|⟨fg,hx,e'⟩:=e'
  .subst e';let(IP,r,pl,hz):=I.list hx;let VS:=r.length;exact wpAny_truthy_list pl.isList (by simp only[bY];lia) (H,I.tok _,by rw[z_ r];exact q)
  .subst e';let(IP,r,pl,hz):=I.tuple hx;let VS:=r.length;exact truthy_tuple pl (by simp only[bY];lia) (H,I.tok _,by rw[z_ r];exact q)
  .subst e';obtain⟨hz,hS,vs,r,m⟩:fg.length<=a7/\(p==jv)=Z_/\∃vs,KV fg vs/\s.heap.DictOf _ p vs:=I.gf p _ hx;let VS:=Paired.length r;exact wpAny_truthy_dict hS m Ž (H,I.tok _,by rw[IS r];exact q)
 |_=>solve_by_elim
def O7(l:PE X a N)(g:∀b,isTrue a X.env b=(do let v <- b;nR a.pos;k9 [v]<|truthy v)):
  PT X a (λU H Q=>N U H λx H'=>∃k,acC X.K x H' k/\Q k H'):=by
 exact λB s U H Q I h=>isTrue_plain (eP (l B s U H _ I h)<|by rintro v c ⟨x,O,m,e,f⟩;exact W7 B c U O x v Q m e f)<|g _
def Iq:mT X (dr .Add) (λx y H Q=>∃i j,x=.str i/\y=.str j/\i.length+j.length<=a7/\Q (.str<|i++j) H):=by
 rintro B s U H x y v u Q I c b ⟨i,j,rfl,rfl,e,q⟩;let(t,rfl):=c;let(a,rfl):=b;exact add_str (λa tk=>(.str _,H,I.tok _,(_,W),q)) e
def vals1{x:V}{a:!au}(r:cf [x] a):∃u,a=[u]/\RelV x u:=by
 cases r with|cons c b=>cases b;exact Ÿ
end
structure JH(h:cP)(x dx C:aH)(mA:aP->↑au):Prop where
 obj:h.get? x=some (Hy C dx)
 ns:h.Ns1 dx mA
 ne:dx≠x
def MO{h:cP}{dx:aH}{mA:aP->↑au}(n:h.Ns1 dx mA):∃c,h.get? dx=Y c/\∀name,lookIn name c=Y (mA name):=by
 let(o,es,r,g,m,l,_,k):=n;refine(o,g,λname =>?_);let e:=k name;unfold nsFind findBy at e;rw[<- Array.find?_toList]at e;unfold lookIn;rw[m];dsimp only;split
 .simp_all
 .let a:es.toList.any (·.refKey)=false:=by rw[List.any_eq_false];intro y f;let(z,t,b):=l y Ż;simp[DictEntry.refKey,b]
  grind
def JH.look(I:JH h x dx C mA):∃a,PySem.W.InstAt h x (Hy C dx) C (Y a)/\∀name,lookIn name a=Y (mA name):=
 let(a,b,c):=MO I.ns
 (a,(I.obj,W,W,b),c)
section
variable {s:aA}{K:aV}{f:aH}{name:aP}{v:au}
def VT(X:K.In s.heap)(I:JH s.heap x dx C mA)(g:plainGet K C name=Z')(f:hasDictIn K C=Z')(k:vG K (.ref C) name=Y M)(c:mA name=Y v)(b:PySem.W.handedIn v=Z')(h:Q v { s with toks:=s.toks+1 }):
  bz (bj prog w) A (getAttr (.ref x) name a) Q E s:=by
 let(l,J,e):=I.look;exact PySem.W.get_value X J (PySem.W.plainGet_of g).1 (PySem.W.findObj_own f k W<|by rw[e,c]) b h
def QS(X:K.In s.heap)(I:JH s.heap x dx C mA)(a:plainGet K C name=Z')(l:vG K (.ref C) name=Y (Y<|.ref f))(g:PySem.W.isFn K (.ref f)=Z')(e:mA name=M)(h:Q (.ref f,[.ref x]) s):
  bz (bj prog w) A (jH (.ref x) name b) Q E s:=by
 let(c,J,k):=I.look;exact PySem.W.method_fn X J (PySem.W.plainGet_of a).1 (PySem.W.plainGet_of a).2 l (beq_iff_eq.mp g) (by show (lookIn _ c).map _=Y _;simp_all) h
def Tt(X:K.In s.heap)(I:JH s.heap x dx C mA)(r:vG K (.ref C) "__setattr__" = Y (Y<|.builtin "object.__setattr__"))(t:plainOver K C=Z')(o:takerIn K C name=Y M)(u:hasDictIn K C=Z')(hw:PySem.Within mA l)(p:l.length<=a7)(h:∀h',JH h' x dx C (λy=>if y=name then Y v else mA y)->jw dx s.heap h'->Q () { s with heap:=h',toks:=s.toks+2 }):
  bz (bj prog w) A (setAttr (.ref x) name v) Q E s:=by
 let(d,J,R):=I.look;refine PySem.W.set_plain X J r<|PySem.W.osa_open X J t o λb =>?_;let(S,D,g):=PySem.W.any_some u;refine aB<|bD<|aB<|aB<|wpAny_loadPart (I.obj)<|aB<|PySem.W.Looks.here (s:={ s with toks:=s.toks+1 }) (PySem.W.looks_clsIn X D) ?_;rw[g];refine bD (a:=Y dx) (aB<|bD<|aB ?_);refine wpAny_nsSet1 (s:={ s with toks:=s.toks+1 }) I.ns λh' c a =>?_
 let(P,F,H,e,_):=c.count<|PySem.Within.cons name v hw;refine aB<|wpAny_lookBehind e (by grind [pastItsLine_dict,bB,bQ]) ?_;exact bD<|h _ ((a.2 _<|bw I.ne).trans I.obj,c,I.ne) a
def Qb{R:Result->aA->Prop}(X:K.In s.heap)(c:makesIn K C=Z')(L:vG K (.ref C) "__init__" = Y (Y<|.ref f))(e:PySem.W.typeIn K (.ref f)=Y (.type "function")) (h:A3 (bj prog w) (A.under<|.builtin "type.__call__" (.ref C::a,b)) (.call (.ref f) (.ref (s.heap.objs.size+1)::a,b)) (PySem.W.InitBack (s.heap.objs.size+1) R)
   { s with heap:=(s.heap.push Hz).push (Hy C s.heap.objs.size) }) :
  A3 (bj prog w) A (.call (.ref C) (a,b)) R s:=by
 exact PySem.W.make_core (PySem.W.makes_of X c) (PySem.W.looks_findIn X L) (λself=>PySem.W.bind_fn X _ e) (.inl W) h
end
noncomputable def lT(f:aP)(v:V):!(aP×V)->!(aP×V)
 |[]=>[(f,v)]|(g,x)::r=>if g=f then (g,v)::r else (g,x)::lT f v r
theorem qK(f g:aP)(v:V):∀j:!(aP×V),(lT f v j).lookup g=if g=f then Y v else j.lookup g
 | []=>by
  show List.lookup g [(f,v)]=_
  grind
 | (k,x)::r=>by
  let ih:=qK f g v r;rw[show lT f v _=if k=f then (k,v)::r else (k,x)::lT f v r from W]
  grind
theorem wB(f:aP)(v:V):∀j:!(aP×V),f∈(lT f v j).map (·.1)/\∀g,g∈j.map (·.1)->g∈(lT f v j).map (·.1)
 |[]=>(Ÿ,λg h=>by simp at h)
 | (k,x)::r=>by
  obtain _:=wB f v r;rw[show lT f v _=if k=f then (k,v)::r else (k,x)::lT f v r from W]
  grind
theorem xm(f:aP)(v:V):∀j:!(aP×V),(lT f v j).length<=j.length+1
 |[]=>by solve_by_elim
 | (k,x)::r=>by
  let ih:=xm f v r;rw[show lT f v _=if k=f then (k,v)::r else (k,x)::lT f v r from W]
  grind
def rp.some_of{v:V}{o:↑au}(r:rp (Y v) o):∃u,o=Y u/\RelV v u:=by
 cases o with|none=>solve_by_elim|some u=>solve_by_elim
def rp.none_of(r:rp M o):o=none:=by
 cases o with|none=>rfl|some u=>solve_by_elim
def M7{v:V}(r:RelV v u):PySem.W.handedIn u=true:=by
 cases v with
 |dC=>cases r;rfl|bl b=>cases r;rfl|int i=>let(t,e):=r;cases e;rfl
 |str x=>let(t,e):=r;cases e;rfl
 |Jx b=>let(t,e):=r;cases e;rfl
 |SD b=>let(t,e):=r;cases e;rfl
 |ref a=>cases r;rfl|ty n=>cases r;rfl
section
variable {P:bh}
def yj(b:nO P w H h)(e:H a=Y (.ins C dx j)):∃mA,JH h a dx C mA/\(∀f,rp (j.lookup f)<|mA f)/\PySem.Within mA (j.map (·.1))/\j.length<=1000/\H dx=Y (.Z a):=by
 let(d,z,g,c,mA,n,r,q):=b a _ e;exact(mA,(c,n,g),r,q,z,d)
end
structure LR(K:aV)(C:aH):Prop where
 pg:plainGet K C Str.empty=true
 hd:hasDictIn K C=true
 po:plainOver K C=true
 sa:vG K (.ref C) "__setattr__" = some (some<|.builtin "object.__setattr__")
def LR.get{K:aV}(c:LR K C)(f:aP):plainGet K C f=true:=c.pg
def pK(K:aV)(C:aH)(f:aP):Prop:=vG K (.ref C) f=Y M
def pK.aaB{K:aV}{f:aP}(n:pK K C f):takerIn K C f=Y none:=by
 unfold takerIn;rw[n];rfl
structure VI(K:aV)(C:aH)(m:aP)(f:aH):Prop where
 at_:vG K (.ref C) m=some (some<|.ref f)
 fn:PySem.W.isFn K (.ref f)=true
 kp:BK K (.ref f)=true
section
variable {X:Cx}{s:aA}{f:aP}{v:V}
def Aj(I:Inv X B U H s)(e:H a=Y (.ins C dx j))(c:LR X.K C)(n:pK X.K C f)(l:j.lookup f=Y v)(h:∀u s',Inv X B U H s'->RelV v u->Q u s'):bz (bj X.prog X.w) A (getAttr (.ref a) f b) Q E s:=by
 let(mA,O,_):=yj I.gf e;let(u,k,g):=rp.some_of (v:=v) (o:=mA f) ŷ;exact VT I.xn O (c.get f) c.hd n k (M7 g)<|h u _ (I.tok _) g
def Ai{m:aP}(I:Inv X B U H s)(e:H a=Y (.ins C dx j))(c:LR X.K C)(k:VI X.K C m g)(l:j.lookup m=M)(h:Q (.ref g,[.ref a]) s):bz (bj X.prog X.w) A (jH (.ref a) m b) Q E s:=by
 let(mA,O,_):=yj I.gf e;exact QS I.xn O (c.get m) k.at_ k.fn (rp.none_of ŷ) h
def yZ(I:Inv X B U H s)(e:H a=Y (.ins C dx j))(c:LR X.K C)(n:pK X.K C f)(K:j.length<1000)(t:RelV y u)(h:∀s',Inv X B U (cU H a<|.ins C dx<|lT f y j) s'->Q () s'):bz (bj X.prog X.w) A (setAttr (.ref a) f u) Q E s:=by
 let(mA,O,r,l,_,m):=yj I.gf e;let v:(j.map (·.1)).length<=a7:=by rw[ar,kE];lia
 refine Tt I.xn O c.sa c.po n.aaB c.hd l v λh' k p=>h _ ?_
 refine I.write (by rw[e];exact Ÿ) (.inr m) (λb q D z=>(p.2 b D).trans z) (let(o,_,_,F,_):=k.ns;(o,F)) ?_;refine(by rw[aO O.ne];exact m,?_,O.ne,k.obj,_,k.ns,λg =>?_,λg w =>?_)
 .grind [xm]
 .rw[qK];by_cases q:g=f
  .rw[if_pos q,if_pos q];exact t
  simp_all
 .by_cases q:g=f
  .rw[q];exact(wB f y j).1
  .refine(wB f y j).2 g (l g λz=>w ?_)
   simp_all
def Inv.made(I:Inv X B U H s):Inv X B U (cU (cU H s.heap.objs.size<|.Z<|s.heap.objs.size+1) (s.heap.objs.size+1)<|.ins C s.heap.objs.size [])
  { s with heap:=(s.heap.push Hz).push (Hy C s.heap.objs.size) }:=by
 let c:(s.heap.push _).get? _=Y Hz:=br _ W;let k:((s.heap.push Hz).push<|Hy C s.heap.objs.size).get? (s.heap.objs.size+1)=Y (Hy C s.heap.objs.size):=by
  have:=br (s.heap.push Hz) (o:=Hy C s.heap.objs.size) W
  simp_all
 let l:=I.laid (o :=.Z<|s.heap.objs.size+1) (t':=s.toks) (λb u q=>ao _ q) (aF _) (_,c);refine l.laid (λb u q=>ao _ q) Ż ?_;let a:s.heap.objs.size≠s.heap.objs.size+1:=bI Ż;refine(by rw[aO a,a9],cZ _,a,k,_,(Heap.Ns1.of_empty (Hz,#[],_,c,W,(λe g=>absurd g ż),λ_=>rfl)).at λo q=>ao _ q,λ_=>vH,λy f=>absurd W f)
def VD{prog:bh}{w:cW}{a:Env}{e:Expr}{f:aP}{G:Pos}{s:aA}{Q:au->aA->Prop}(c:bT e f a (eval e a)=eval e a)(h:bz (bj prog w) A (eval e a) (λo b=>bz (bj prog w) A (getAttr o f Z') Q E b) E s):bz (bj prog w) A (eval (.Attribute e f G) a) Q E s:=
 Attribute_any_ h (by rw[arm_eval_Attribute,c])
end
def aep(K:aV)(N:TE)(f:aP):TE:=λU H Q=>N U H λx O=>∃a C dx j v,x=.ref a/\O a=Y (.ins C dx j)/\LR K C/\pK K C f/\j.lookup f=Y v/\Q v O
def aex(K:aV)(N tv:TE)(f:aP):TS:=λD U H=>tv U H λy O=>N U O λx d=>∃a C dx j,x=.ref a/\d a=Y (.ins C dx j)/\LR K C/\pK K C f/\j.length<1000 /\
 D.nx U (cU d a<|.ins C dx<|lT f y j)
def NJ(X:Cx)(b:Operator)(a:V->V->Hp->VK->Prop):Prop:=
 ∀(B:!(aH×Obj)) (s:aA) (U:St) (H:Hp) (x y:V) (u v:au) (Q:VK),Inv X B U H s->RelV x u->RelV y v->a x y H Q->bz (bj X.prog X.w) X.A (inplaceOp b u v) (EP X B U Q) X.xe s
def Tx(K:aV)(N tv:TE)(e:V->V->Hp->VK->Prop)(f:aP):TS:=λD U H=>N U H λx O=>∃a C dx j v,x=.ref a/\O a=Y (.ins C dx j)/\LR K C/\pK K C f/\j.lookup f=Y v /\
 tv U O λy d=>e v y d λz c=>∃b fs',c a=Y (.ins C b fs')/\fs'.length<1000/\D.nx U (cU c a<|.ins C b<|lT f z fs')
section
variable {X:Cx}{f:aP}
def qG(k:PE X e N)(m:bT e f X.env (eval e X.env)=eval e X.env):PE X (.Attribute e f G)<|aep X.K N f:=by
 intro B s U H Q I h;refine VD m<|eP (k B s U H _ I h) ?_;rintro u A ⟨x,O,r,b,a,C,dx,j,v,ex,o,c,n,l,q⟩;subst ex;obtain rfl:u=d6 a:=b;exact Aj r o c n l λt w p g=>(v,O,p,g,q)
def Dh(t:PE X o N)(p:PE X sS tv)(r:cg sS (Y<|.Attribute o f VO) G.line X.env=c9 Z_):PS X (.Assign [.Attribute o f VO] sS G)<|aex X.K N tv f:=by
 intro B s U H D I h;refine plainObj_wpAny_Assign_Attribute (eP (p B s U H _ I h) ?_) r;rintro u b ⟨y,O,E,e,q⟩;refine eP (t B b U O _ E q) ?_;rintro m K ⟨x,d,A,g,a,C,dx,j,ex,v,c,n,l,k⟩;subst ex;obtain rfl:m=d6 a:=g;exact yZ A v c n l e λF w=>(U,_,w,k)
def Ms(R:PE X o N)(Q:PE X sS tv)(b:NJ X k g):PS X (.AugAssign (.Attribute o f aee) k sS G)<|Tx X.K N tv g f:=by
 intro B s U H D I h;refine wpAny_AugAssign_AttributeAny<|eP (R B s U H _ I h) ?_;refine λi s1 xx=>ae λkk =>?_
 let(x,O,I1,A,a,C,dx,j,v,ex,S,c,n,l,q):=xx;subst ex;obtain rfl:i=d6 a:=A;refine kk<|Aj I1 S c n l λu r I2 E=>eP (Q B r U O _ I2 q) ?_;rintro m p ⟨y,d,I3,w,K⟩;refine eP (b B p U d v y u m _ I3 E w K) ?_;rintro w4 s4 ⟨z,H3,I4,t,T,fs',e,P,F⟩;exact yZ I4 e c n P t λs5 I5=>(U,_,I5,F)
def aeM:V->V->Hp->VK->Prop:=λx y H Q=>∃i j,x=.int i/\y=.int j/\Q (.int<|i+j) H
def aeH:V->V->Hp->VK->Prop:=λx y H Q=>∃i j,x=.int i/\y=.int j/\Q (.int<|i-j) H
def Qv:NJ X .Add aeM:=by
 rintro B s U H x y u v Q I c b ⟨i,j,rfl,rfl,q⟩;let(t,rfl):=c;let(a,rfl):=b;exact PyProof.Rows.iadd_int (.int _,H,I.tok _,(_,W),q)
def ae8:NJ X .Sub aeH:=by
 rintro B s U H x y u v Q I c b ⟨i,j,rfl,rfl,q⟩;let(t,rfl):=c;let(a,rfl):=b;exact PyProof.Rows.isub_int (.int _,H,I.tok _,(_,W),q)
end
section
variable {X:Cx}{s:aA}
inductive x_ (K:aV) (H:Hp):V->au->Prop where
 |dC:x_ K H .dC<|.type "NoneType"
 |bl (x:Bool):x_ K H (.bl x)<|.type "bool"
 |int (i:Int):x_ K H (.int i)<|.type "int"
 |str (x:aP):x_ K H (.str x)<|.type "str"
 |SD (x:UInt64):x_ K H (.SD x)<|.type "float"
 |lst {a:aH}{xs:!V}(e:H a=some (.lst xs)):x_ K H (.ref a)<|.type "list"
 |KW {a:aH}{o:Obj}{xs:!V}(e:H a=some (.KW o<|.lst xs)):x_ K H (.ref a)<|.type "list"
 |tup {a:aH}{xs:!V}(e:H a=some (.tup xs)):x_ K H (.ref a)<|.type "tuple"
 |dK {a:aH}{fg:!(ju×V)}(e:H a=some (.dK fg)):x_ K H (.ref a)<|.type "dict"
 |dT {a:aH}{fg:!(!ju×V)}(e:H a=some (.dT fg)):x_ K H (.ref a)<|.type "dict"
 | ins {a C dx:aH}{fs:!(aP×V)}(e:H a=some (.ins C dx fs)) (cl:LR K C) (ha:vG K (.ref C) "__class__" = some (some<|.builtin "object.__class__"))
   (hn:PySem.W.specialIn K (.builtin "object.__class__") "__get__" = some (some<|.builtin "getset_descriptor.__get__")) (htk:PySem.W.takesIn K (.builtin "object.__class__")=some true)
   (hm:PySem.W.mroIn K C (.type "object")=some true):x_ K H (.ref a)<|.ref C
def md(I:Inv X B U H s)(k:RelV x u)(v:x_ X.K H x t)(e:kitOne X.K t c=Y b)(h:∀tk,Q (.bool b) { s with toks:=tk }):
  bz (bj X.prog X.w) A (call (.builtin "isinstance") [u,c]) Q E s:=by
 cases v with
 |dC=>cases (show u=Value.none from k);exact ux PySem.W.kitx_none I.xn vH e (λg=>nomatch g) h
 |bl y=>cases (k);exact ux PySem.W.kitx_bool I.xn vH e (λg=>nomatch g) h
 |int i=>let(t,q):=(k);cases q;exact ux PySem.W.kitx_int I.xn vH e (λg=>nomatch g) h
 |str y=>let(t,q):=(k);cases q;exact ux PySem.W.kitx_str I.xn vH e (λg=>nomatch g) h
 |SD y=>let(t,q):=(k);cases q;exact ux PySem.W.kitx_float I.xn vH e (λg=>nomatch g) h
 |@lst a xs l=>cases (k);let(_,_,n,_,J):=(I.gf a _ l);exact ux PySem.W.kitx_list I.xn (_,J,W) e (λg=>nomatch g) h
 |@KW a w xs l=>cases (show u=d6 a from k);let(_,_,_,n,_,J):=(I.gf a _ l);exact ux PySem.W.kitx_list I.xn (_,J,W) e (λg=>nomatch g) h
 |@tup a xs l=>cases (k);let(_,_,_,p):=(I.gf a _ l);let(o,J,z,_):=p;exact ux PySem.W.kitx_tuple I.xn (o,J,z) e (λg=>nomatch g) h
 |@dK a m l=>cases (k);let(_,_,P,_,p):=(I.gf a _ l);let(o,es,d,J,z,_):=p;exact ux PySem.W.kitx_dict I.xn (o,J,z.1) e (λg=>nomatch g) h
 |@dT a m l=>cases (k);let(_,_,xs,_,o,es,d,J,z,_):=(I.gf a _ l);exact ux PySem.W.kitx_dict I.xn (o,J,z.1) e (λg=>nomatch g) h
 |@ins a C dx j l cl K D r F=>cases (show u=d6 a from k);let(mA,O,_):=yj I.gf l;let(R,f,_):=O.look;exact ux (PySem.W.kitx_own (cl.get _) cl.hd K D r F) I.xn f e (λg=>nomatch g) h
end
structure d7(k:Nat)(A:gM):Prop where
 hd:A.handled=none
 dp:A.depth+3*k+5<recursionLimit
 un:A.units+16*k+200<qf
def d7.mono(r:d7 k A)(h:j<=k):d7 j A:=(r.hd,by have:=r.dp;lia,by have:=r.un;lia)
def d7.deeper(r:d7 (k+1) A)(a:Env):d7 k<|A.deeper a:=
 (r.hd,by have:=r.dp;show A.depth+1+3*k+5<_;lia,by have:=r.un;show A.units+3+16*k+200<_;lia)
theorem IJ{A:gM}{C:aH}{a:!au}{b:!(aP×au)}:(A.under<|.builtin "type.__call__" (.ref C::a,b)).depth=A.depth+1:=by
 exact Ÿ
theorem II{A:gM}{C:aH}{a:!au}{b:!(aP×au)}:(A.under<|.builtin "type.__call__" (.ref C::a,b)).units=A.units+1:=by
 exact Ÿ
def d7.make(r:d7 (k+1) A)(C:aH)(a:!au)(b:!(aP×au)):d7 k<|A.under<|.builtin "type.__call__" (.ref C::a,b):=
 (r.hd,by have:=r.dp;grind [IJ],by have:=r.un;grind [II])
def d7.depth(r:d7 k A):A.depth<recursionLimit:=by have:=r.dp;lia
def d7.units{A:gM}(r:d7 k A):A.units+64<qf:=by have:=r.un;lia
def Xd:TA:=λ_ H Q=>Q [] H
def aaM(N:TE)(a:TA):TA:=λU H Q=>N U H λx O=>a U O λxs d=>Q (x::xs) d
section
variable {X:Cx}
def dH:PA X [] Xd:=λa a a a H Q I h=>Calls.spliced_nil ([],H,I,.nil,h)
def cA(m:PE X e te)(l:PA X es t)(k:@&(ak (e::es) X.env=(Z_,eval e X.env)::ak es X.env)):PA X (e::es)<|aaM te t:=by
 intro G B s U H Q I h;rw[k];refine JO<|eP (m B s U H _ I h) ?_;rintro u a ⟨x,O,p,c,g⟩;exact eP (l G B a U O _ p g) <|by rintro r v ⟨xs,d,o,b,f⟩;exact(_,d,o,.cons c b,f)
def aeh(t:TA):TE:=λU H Q=>t U H λxs O=>xs.length<=a7/\∀p,O p=M->Q (.ref p) (cU O p<|.tup xs)
def aem(t:TA):TE:=λU H Q=>t U H λxs O=>xs.length<=a7/\∀p,O p=M->Q (.ref p) (cU O p<|.lst xs)
def Ii{f}(h:PA X es t):PE X (.Tuple es f G)<|aeh t:=by
 intro B s U H Q I k;refine wpAny_Tuple_spliced<|eP (h G B s U H _ I k) ?_;rintro g a ⟨xs,O,c,r,z,q⟩;refine(by rw[<- r.length];exact z,?_);refine(.ref _,_,c.laid (λb u e=>ao _ e) (aF _) ?_,W,q _<|c.gf.fresh<|aF _);exact(z,g,r,(_,br _ W,W,_,W))
def zg(h:PA X es t):PE X (.List es G)<|aem t:=by
 intro B s U H Q I g;refine wpAny_List_spliced<|eP (h G B s U H _ I g) ?_;rintro f a ⟨xs,O,c,r,z,q⟩;refine(by rw[<- r.length];exact z,?_);refine(.ref _,_,c.laid (λb u e=>ao _ e) (aF _) ?_,W,q _<|c.gf.fresh<|aF _);exact(z,f,0,r,br _ W)
end
abbrev Sp:=!V->Hp->VK->XK->Prop
abbrev Zx:=!Env->Hp->aA->XK->au->aA->Prop
structure NK(P:bh)(w:cW)(K:aV)(mg:aP->↑au)(base:cP)(A:gM)(outer:!Env)(s:aA)(H:Hp):Prop where
 frames:A.frames=some outer
 mod:Mod K mg base
 bs:∀b o,base.get? b=some o->s.heap.get? b=some o/\H b=none
 VB:base.objs.size<=s.heap.objs.size
 x5:s.heap.FunFrames base outer
 YS:∀b∈EL outer,H b=none
 gf:nO P w H s.heap
 bare:HD s.gens
def CE(a:!Env)(P:bh)(w:cW)(H:Hp)(s:aA)(Q:VK)(u:au)(s':aA):Prop:=
 ∃v H',s'.os=s.os/\HD s'.gens/\Un (EL a) [] H H' s.heap s'.heap/\nO P w H' s'.heap/\RelV v u/\Q v H'
def CR(CX:Zx)(a:!Env)(P:bh)(w:cW)(H:Hp)(s:aA)(Q:VK)(E:XK)(r:Result)(s':aA):Prop:=
 match r with
 |.ok (.ret u)=>CE a P w H s Q u s'|.ok _=>False|.error e=>CX a H s E e s'
structure b9(P:bh)(w:cW)(K:aV)(mg:aP->↑au)(base:cP)(CX:Zx)(k:Nat)(f:aH)(fd:dt)(ps:!aP)(sp:Sp):Prop where
 len:∀vs H Q E,sp vs H Q E->vs.length=ps.length
 run:∀(A:gM) (outer:!Env) (s:aA) (H:Hp) (args:Args) (us:!au) (vs:!V) (Q:VK) (E:XK),d7 k A->NK P w K mg base A outer s H->NW s fd args (ps.zip us)->cf vs us->sp vs H Q E ->
  A3 (bj P w) A (.call (.ref f) args) (CR CX outer P w H s Q E) s
def b9.mono{P:bh}{K:aV}{i:aP->↑au}{f:aH}(F:b9 P w K i base CX j f I q sp)(h:j<=k):
  b9 P w K i base CX k f I q sp:=(F.len,λA a s H args c b Q E e=>F.run A a s H _ c b Q E<|e.mono h)
def NK.make{P:bh}{K:aV}{s:aA}(e:NK P w K i base A a s H)(C:aH)(b:!au)(c:!(aP×au)):
  NK P w K i base (A.under<|.builtin "type.__call__" (.ref C::b,c)) a s H:=(by first|exact e.frames|(simpa [Around.under] using e.frames),e.mod,e.bs,e.VB,e.x5,e.YS,e.gf,e.bare)
section
variable {X:Cx}{s:aA}
def Inv.ab5(I:Inv X B U H s):NK X.prog X.w X.K X.mg X.base X.A X.stack s H:=
 (I.ok.frames,I.ok.mod,I.bs,bB I.ok.VB I.sz,I.stack,I.J0,I.gf,I.bare)
def Inv.after(I:Inv X B U H s)(h:CE X.stack X.prog X.w H s Q u s'):EP X B U Q u s':=by
 let(v,H',k,a,f,e,r,q):=h;let(l,g,d,t,c):=s';obtain rfl:c=s.os:=k;exact(v,H',I.call f e a λb z=>absurd z ż,r,q)
end
def V_(sp:Sp)(Cr:!V)(E:XK)(t:TA):TE:=λU H Q=>t U H λa O=>sp (a++Cr) O Q E
def E_(C:aH)(m:aP)(sp:Sp)(Cr:!V)(E:XK)(N:TE)(t:TA):TE:=λU H Q=>N U H λx O=>∃a dx j,x=.ref a/\O a=Y (.ins C dx j)/\j.lookup m=M /\
 t U O λb d=>sp (x::(b++Cr)) d Q E
def aaH(C:aH)(sp:Sp)(Cr:!V)(E:XK)(t:TA):TE:=λU H Q=>t U H λa O=>∀x dx,O x=M->O dx=M->dx≠x ->
 sp (.ref x::(a++Cr)) (cU (cU O dx<|.Z x) x<|.ins C dx []) (λv d=>v=.dC/\Q (.ref x) d) E
def Binds(K:aV)(I:dt)(q:!aP)(ds:!au):Prop:=
 ∀(s:aA) (a:!au),K.In s.heap->(a++ds).length=q.length->NW s I (a,[]) (q.zip<|a++ds)
def Binds.all{K:aV}(h:∀a:!au,a.length=q.length->bindArgs I (a,[])=c9 (q.zip a)):Binds K I q []:=λs a c b=>by
 rw[bZ]at b ⊢;exact .of_eq<|h a b
def rA(CX:Zx)(X:Cx)(E:XK):Prop:=∀(B:!(aH×Obj)) (U:St) (H:Hp) (s:aA) (e:au) (s':aA),Inv X B U H s->CX X.stack H s E e s'->X.xe e s'
section
variable {X:Cx}{f:aH}{m:aP}
def C8{s:aA}{us:!au}{vs:!V}(F:b9 X.prog X.w X.K X.mg X.base CX k f I q sp)(l:d7 k X.A)(p:Binds X.K I q ds)(o:cf Cr ds)(g:rA CX X E)(a:Inv X B U H s)(r:cf vs us)(h:sp (vs++Cr) H Q E):bz (bj X.prog X.w) X.A (call (.ref f) us) (EP X B U Q) X.xe s:=by
 let c:=r.append o;let m:(us++ds).length=q.length:=by rw[<- c.length];exact F.len _ _ _ _ h
 refine wpAny_call<|NO (F.run X.A _ s H _ _ _ Q E l a.ab5 (p s us a.xn m) c h) λr s' b =>?_;cases r with
 |error e=>solve_by_elim|ok t=>
  cases t with|ret u=>exact a.after b|_=>solve_by_elim
def yg(F:b9 X.prog X.w X.K X.mg X.base CX k f I q sp)(o:d7 k X.A)(w:Gl X x)(u:X.mg x=Y (.ref f))(v:BK X.K (.ref f)=Z')(D:Binds X.K I q ds)(C:cf Cr ds)(m:rA CX X E)(K:PA X (e::es) t)(g:‹(x==("__debug__" : aP))=false›)(A:@&(ak (e::es) X.env=(Z_,eval e X.env)::ak es X.env))(c:@&((cB G<|ak es X.env).any (·.1)=false)):
  PE X (.Call (.Name x p) (e::es) [] G) (V_ sp Cr E t):=by
 intro B s U H Q a h;refine gI<|Dw a w u ?_ g;refine PySem.W.callWith_K a.ok.mod.kin v (eP (K G B s U H _ a h) ?_) A c;rintro P R ⟨d,O,l,r,b⟩;exact(l.xn,C8 F o D C m l r b)
def Ph(F:b9 X.prog X.w X.K X.mg X.base CX k f I q sp)(e:d7 k X.A)(m:Gl X x)(g:X.mg x=Y (.ref f))(l:BK X.K (.ref f)=Z')(r:Binds X.K I q ds)(o:cf Cr ds)(c:rA CX X E)(b:‹(x==("__debug__" : aP))=false›):PE X (.Call (.Name x p) [] [] G)<|V_ sp Cr E Xd:=by
 intro B s U H Q a h;exact gI<|Dw a m g (PySem.W.callWith_K0 a.xn l<|C8 F e r o c a .nil h) b
def yf{pl:Sem Bool}(he:PE X o N)(c:LR X.K C)(A:VI X.K C m f)(F:b9 X.prog X.w X.K X.mg X.base CX k f I q sp)(hr:d7 k X.A)(hb:Binds X.K I q ds)(hd:cf Cr ds)(hx:rA CX X E)(ha:PA X (e::es) t)(p:@&(ak (e::es) X.env=(Z_,eval e X.env)::ak es X.env))(v:@&((cB G<|ak es X.env).any (·.1)=false)) (ht:@&(eval (.Call (.Attribute o m A2) (e::es) [] G) X.env=(do
   let w <- eval o X.env
   nR A2.atName
   let(f,first) <- k9 [w] (jH w m pl)
   qc G f first (cB G<|ak (e::es) X.env) (fY G<|cV [] X.env)))) :
  PE X (.Call (.Attribute o m A2) (e::es) [] G) (E_ C m sp Cr E N t):=by
 intro B s U H Q g h;refine PySem.W.methodCall_KW (eP (he B s U H _ g h) ?_) ht;refine λu R xx=>ae λkk =>?_
 let(x,O,K,S,a,dx,j,ex,ea,l,b):=xx;subst ex;obtain rfl:u=d6 a:=S;refine kk<|Ai K ea c A l ?_;refine PySem.W.callWith_K g.ok.mod.kin A.kp (eP (ha G B R U O _ K b) ?_) p v;rintro P s2 ⟨i,d,D,r,T⟩;exact(D.xn,C8 (vs :=.ref a::i) F hr hb hd hx D (.cons W r) T)
def uV{pl:Sem Bool}(D:PE X o N)(c:LR X.K C)(r:VI X.K C m f)(F:b9 X.prog X.w X.K X.mg X.base CX k f I q sp)(A:d7 k X.A)(d:Binds X.K I q ds)(K:cf Cr ds)(v:rA CX X E) (w:@&(eval (.Call (.Attribute o m A2) [] [] G) X.env=(do
   let p <- eval o X.env
   nR A2.atName
   let(f,first) <- k9 [p] (jH p m pl)
   qc G f first (cB G<|ak [] X.env) (fY G<|cV [] X.env)))) :
  PE X (.Call (.Attribute o m A2) [] [] G) (E_ C m sp Cr E N Xd):=by
 intro B s U H Q e h;refine PySem.W.methodCall_KW (eP (D B s U H _ e h) ?_) w;refine λu R xx=>ae λkk =>?_
 let(x,O,g,t,a,dx,j,ex,P,l,b):=xx;subst ex;obtain rfl:u=d6 a:=t;exact kk<|Ai g P c r l<|PySem.W.callWith_K0 g.xn r.kp<|C8 (vs:=[.ref a]) F A d K v g (.cons W .nil) b
structure Mk(K:aV)(C f:aH):Prop where
 makes:makesIn K C=true
 init:vG K (.ref C) "__init__" = some (some<|.ref f)
 fn:PySem.W.isFn K (.ref f)=true
 kp:BK K (.ref C)=true
theorem OY{s:aA}{us:!au}(i:Mk X.K C f)(F:b9 X.prog X.w X.K X.mg X.base CX k f I q sp)(w:d7 (k+1) X.A)(K:Binds X.K I q ds)(D:cf Cr ds)(t:rA CX X E)(a:Inv X B U H s)(r:cf g us)(h:∀x dx,H x=M->H dx=M->dx≠x->sp (.ref x::(g++Cr)) (cU (cU H dx<|.Z x) x<|.ins C dx []) (λv d=>v=.dC/\Q (.ref x) d) E):
  bz (bj X.prog X.w) X.A (call (.ref C) us) (EP X B U Q) X.xe s:=by
 have m:=h _ _ (a.gf.fresh<|nS _) (a.gf.fresh<|aF _) ż;let c:=Inv.made (C:=C) a;have l:cf (V.ref (s.heap.objs.size+1)::(g++Cr)) _ :=.cons W<|r.append D;let A:=by let e:=l.length;rw[F.len _ _ _ _ m]at e;exact e.symm
 refine wpAny_call (Qb a.xn i.makes i.init (beq_iff_eq.mp i.fn) (NO (F.run _ _ _ _ _ _ _ _ E (w.make C us [])
  (c.ab5.make C us []) (K _ _ c.xn A) l m) λr s' b =>?_))
 cases r with
 |error e=>solve_by_elim|ok P=>
  cases P with
  |ret u=>let(v,H',S,o,R,p):=c.after b;subst R;exact(o,(V.ref _,H',S,W,p))
  |_=>solve_by_elim
def Di(d:Mk X.K C f)(F:b9 X.prog X.w X.K X.mg X.base CX k f I q sp)(o:d7 (k+1) X.A)(v:Gl X x)(u:X.mg x=Y (.ref C))(D:Binds X.K I q ds)(A:cf Cr ds)(m:rA CX X E)(K:PA X (e::es) t)(g:‹(x==("__debug__" : aP))=false›)(w:@&(ak (e::es) X.env=(Z_,eval e X.env)::ak es X.env))(c:@&((cB G<|ak es X.env).any (·.1)=false)):
  PE X (.Call (.Name x p) (e::es) [] G) (aaH C sp Cr E t):=by
 intro B s U H Q a h;refine gI<|Dw a v u ?_ g;refine PySem.W.callWith_K a.ok.mod.kin d.kp (eP (K G B s U H _ a h) ?_) w c;rintro R S ⟨P,O,l,r,b⟩;exact(l.xn,OY d F o D A m l r b)
end
structure ji(N P:!aP)(sc:Scope):Prop where
 kind:sc.kind=.function
 co:sc.isCoroutine=false
 gen:sc.isGenerator=false
 nd:N.Nodup
 pre:N.take P.length=P
 par:∀x∈P,sc.names.lookup x=some .local\/sc.names.lookup x=some .cell
 Yd:∀y∈sc.names,y.2 ≠ .free
theorem CC:∀ {a:!(aP×au)}{m:aP->↑au},(∀v,(x,v)∉a)->bindL b a m x=m x
 |[],_,_=>rfl|(n,v)::r,m,h=>by unfold bindL;rw[CC λw hw=>h w<|ay _ hw];split<;>grind
theorem CF:∀ {a:!(aP×au)}{m:aP->↑au},(∀v,(x,v)∉a)->bindC b a m x=m x
 |[],_,_=>rfl| (n,v)::r,m,h=>by
  unfold bindC;rw[CF λw hw=>h w<|ay _ hw];split
  .rfl
  grind
theorem CD{v:au}:∀ {P:!aP}{b:!au}{i:Nat}{m:aP->↑au},P.Nodup->P[i]?=Y x->b[i]?=Y v->a x=Y .local ->
  bindL a (P.zip b) m x=Y v
 |[],_,_,_,_,h,_,_=>by simp at h
 |_::_,[],_,_,_,_,h,_=>by simp at h
 |p::P,w::b,0,m,c,J,z,e=>by simp at J z;subst J;subst z;show bindL a ((p,w)::P.zip b) m p=_;unfold bindL;rw[CC λv f=>(JN.mp c).1 (JM f).1,if_pos e];simp
 |p::P,w::b,i+1,m,c,J,z,e=>by unfold bindL;exact CD (i:=i) Ż (by trivial) (by trivial) e
theorem CG{v:au}:∀ {P:!aP}{b:!au}{i:Nat}{m:aP->↑au},P.Nodup->P[i]?=Y x->b[i]?=Y v->a x≠Y .local ->
  bindC a (P.zip b) m x=Y v
 |[],_,_,_,_,h,_,_=>by simp at h
 |_::_,[],_,_,_,_,h,_=>by simp at h
 |p::P,w::b,0,m,c,J,z,e=>by simp at J z;subst J;subst z;show bindC a ((p,w)::P.zip b) m p=_;unfold bindC;rw[CF λv f=>(JN.mp c).1 (JM f).1,if_neg e];simp
 |p::P,w::b,i+1,m,c,J,z,e=>by unfold bindC;exact CG (i:=i) Ż (by trivial) (by trivial) e
noncomputable def start(N:!aP)(a:!V):St:=a.map Y++bC (N.length-a.length) M
noncomputable def wR(CX:Zx)(P:bh)(w:cW)(K:aV)(i:aP->↑au)(base:cP)(N:!aP)(c:aP)(a:Scope)(f:aH)(h:au)(A:gM)(b:!Env)(s:aA)(H:Hp)(E:XK):Cx where
 prog:=P
 w:=w
 K:=K
 mg:=i
 base:=base
 A:=A.deeper<|oY c a s.heap.objs.size f h
 N:=N
 s₀:=s
 H₀:=H
 env:=oY c a s.heap.objs.size f h
 outer:=b
 stack:=oY c a s.heap.objs.size f h::b
 ex:=[]
 calm:=Z'
 fn:=λ_=>Z'
 pn:=[]
 xe:=λe s'=>bz (bj P w) (A.deeper<|oY c a s.heap.objs.size f h) (leaving (oY c a s.heap.objs.size f h) e) (λ_ g=>CX b H s E e g) (λk g=>CX b H s E k g) s'
def AM{sc:Scope}{n:Nat}(h:sc.names.lookup x=Y .cell):∃c,(d5 n sc.names []).lookup x=Y c:=by
 exact Option.isSome_iff_exists.mp<|PySem.W.cellsFrom_some _ n []<|.inl h
def MZ{P:bh}{K:aV}{f:aH}{X:au}{s:aA}{F:!V}(S:ji N q o)(hd:A.handled=M)(D:NK P w K i base A t s H)(hl:F.length=q.length)(r:cf F us)(x:InCallC s s.heap.objs.size (bindL (oY C o s.heap.objs.size f X).kindOf (q.zip us) λd=>M) (d5 (s.heap.objs.size+1) o.names []) (bindC (oY C o s.heap.objs.size f X).kindOf (q.zip us) λd=>M) s1):
  Inv (wR CX P w K i base N C o f X A t s H E) [] (start N F) H s1:=by
 let hpl:q.length<=N.length:=by have:=congrArg nU S.pre;grind
 let(J,tk,rfl,hk):=x.done;have a:∀b,b∉(wR CX P w K i base N C o f X A t s H E).ex:=λb m=>absurd (show b∈[] from m) ż
 refine((D.mod,S.kind,W,W,aF _,λy m c J z =>?_,λy Q =>?_,λy c d h =>?_,λd=>hd,Around.frames_deeper D.frames,.inr (W,W),λb m=>absurd m<|a b,D.bs,D.VB,λb d d=>a b,λb m=>absurd m<|a b,D.x5,D.YS),
  rfl,D.bare,Un.kept hk,(_,x.toInCall.ns,λg y v J z h3 =>?_),λy c h=>(_,x.cell y c h),D.gf.fresh<|aF _,λy c h =>?_,λp T=>absurd (show p∈[] from T) ż,D.gf.kept hk,?_)
 .exact name_of_addr x.apart (PySem.mem_of_lookup J)<|PySem.mem_of_lookup z
 .obtain Q|Q:=Q
  .exact AM Q
  .exact absurd W<|S.Yd _<|PySem.mem_of_lookup Q
 .exact iW<|x.above y c<|PySem.mem_of_lookup h
 .have L:g<F.length:=by
   unfold start at z;by_cases L:g<F.length
   .exact L
   .rw[jG<|by simp_all]at z;rw[SN]at z;split at z<;>cases z
  let ha:F[g]?=Y v:=by simp_all [start,aI,aK]
  let(u,hu,rv):=r.get ha;have T:q[g]?=Y y:=by rw[<- S.pre,List.getElem?_take_of_lt<|by omega];exact J
  have R:q.Nodup:=by rw[<- S.pre];exact S.nd.sublist<|List.take_sublist _ _
  refine(u,rv,?_);obtain k|k:=S.par y<|bp T
  .exact .inl (k,CD R T hu k)
  .let(c,e):=AM k;refine .inr (.inl k,c,e,?_);let l:=x.cell y c e;rw[CG R T hu<|by show o.names.lookup y≠_;lia]at l;exact l
 .exact D.gf.fresh<|iW<|x.above y c<|PySem.mem_of_lookup h
 .unfold start;show _=N.length
  simp_all
theorem ab0{P:bh}{K:aV}{f:aH}{name:aP}{m:Arguments}{kV ct oc:au}(lk:K.lookup f=Y (oc,od,.func<|fnOf name h m p c dV kV WZ pm an l ct,osl))(hcd:codeIn K l h=Z')(S:ji N q c)(T:∀D H Q E,sp D H Q E->D.length=q.length) (d:∀(A:gM) (g:!Env) (s:aA) (H:Hp) (D:!V) (Q:VK) (E:XK),d7 k (A.deeper<|oY h c s.heap.objs.size f l)->sp D H Q E ->
   ∃t,nY (wR CX P w K i base N h c f l A g s H E) p t/\t { nx:=λ_ H'=>Q .dC H',rt:=Q } (start N D) H) :
  b9 P w K i base CX (k+1) f (fnOf name h m p c dV kV WZ pm an l ct) q sp:=by
 refine(T,λA g s H args us D Q E hr e0 hb r X =>?_);let hl:=T _ _ _ _ X;have KX:=e0.mod.kin.keeps λb o e=>(e0.bs b o e).1
 let lim:=e0.mod.nolimit.keeps λb o e=>(e0.bs b o e).1
 let F:∀y∈q.zip us,c.names.lookup y.1=Y _\/c.names.lookup y.1=Y .cell/\((d5 (s.heap.objs.size+1) c.names []).lookup y.1).isSome=true:=λ(n,v) hy=>by
  obtain a|a:=S.par n (JM hy).1
  .exact .inl a
  simp_all [PySem.W.cellsFrom_some]
 refine codeAny_call_function hr.depth (KX _ _ lk) W S.co S.gen W (PySem.W.codeRec_of KX hcd)<|hb _ _ _ _ ?_;refine wpAny_newFunctionEnv_cells S.kind F λenv he s1 x =>?_
 subst he;refine(lim.keeps x.toInCall.keep,codeAny_func ?_);let(t,ht,hq):=d A g s H D Q E (hr.deeper _) X;refine fU (ht [] s1 (start N D) H _ (MZ S hr.hd e0 hl r x) hq) (λfl s' R =>?_) λe s' R=>R
 have k8:∀ {C:St}{H':Hp}{v:V}{u:au},Inv (wR CX P w K i base N h c f l A g s H E) [] C H' s'->RelV v u->Q v H'->CE g P w H s Q u s':=
  fun {C H' v u} J rv a=>(v,H',J.os,J.bare,J.base,J.gf,rv,a)
 cases fl with
 |ret u=>
  let(v,C,H',J,rv,a):=R
  exact Ÿ
 |next=>let(C,H',J,a):=R;exact k8 (v:=V.dC) (u:=Value.none) J W a
 |_=>let(_,_,_,a):=R;exact False.elim a
section
variable {X:Cx}{id:String}
def tCB(r:!V->Hp->VK->Prop)(t:TA):TE:=λU H Q=>t U H λa O=>r a O Q
def uW(A:k7 X (.builtin id) r)(v:Gl X x)(u:X.mg x=M)(m:eN x=Y (.builtin id))(C:PA X (e::es) t)(o:‹x ≠ "__name__"›)(b:‹(x==("__debug__" : aP))=false›)(w:@&(ak (e::es) X.env=(Z_,eval e X.env)::ak es X.env))(a:@&((cB G<|ak es X.env).any (·.1)=false)):PE X (.Call (.Name x p) (e::es) [] G)<|tCB r t:=by
 exact λB s U H Q I h=>gI<|pz I v u m (mX (eP (C G B s U H _ I h)<|by rintro f g ⟨c,O,D,k,l⟩;exact Ÿ) w a) o b
def Mv(A:k7 X (.type T) r)(v:Gl X x)(u:X.mg x=M)(m:eN x=Y (.type T))(C:PA X (e::es) t)(o:‹x ≠ "__name__"›)(b:‹(x==("__debug__" : aP))=false›)(w:@&(ak (e::es) X.env=(Z_,eval e X.env)::ak es X.env))(a:@&((cB G<|ak es X.env).any (·.1)=false)):PE X (.Call (.Name x p) (e::es) [] G)<|tCB r t:=by
 exact λB s U H Q I h=>gI<|pz I v u m (fO (eP (C G B s U H _ I h)<|by rintro f g ⟨c,O,D,k,l⟩;exact Ÿ) w a) o b
end
end L2
namespace HT
open PySem PyProof.Rows
section
open PySem.SeqAt
open PySem.AutoSeq1 (wpAny_loadPart')
open PySem.MeetsSeq PySem.MeetsSeq2 PySem.MeetsSeq3
end
section
variable {s:aA}
noncomputable def Ie(n d:Nat):↑Int->Nat
 |none=>d|some v=>if v<0 then (v+(n:Int)).toNat else min v.toNat n
set_option tactic.hygienic true
def Vy(v:Int)(n d:Nat):(if v<0 then max (v+(n:Int)) 0 else min v (n:Int))=((Ie n d (Y v):Nat):Int):=by
 show _=((if v<0 then (v+(n:Int)).toNat else min v.toNat n:Nat):Int);split
 .exact(Int.ofNat_toNat _).symm
 .rename_i a;let(k,e):=iy<|Int.not_lt.mp a;rw[e,bG];obtain q|q:=Nat.le_total k n
  .rw[Int.min_eq_left<|V1.mpr q,JK q]
  .rw[Int.min_eq_right<|V1.mpr q,Nat.min_eq_right q]
end
end HT
namespace L2
open PySem PySem.Spec PyProof.Rows
abbrev TO:=St->Hp->(↑Int->Hp->Prop)->Prop
def PO(X:Cx)(e:↑Expr)(t:TO):Prop:=
 ∀(B:!(aH×Obj)) (s:aA) (U:St) (H:Hp) (Q:↑Int->Hp->Prop),Inv X B U H s->t U H Q ->
  bz (bj X.prog X.w) X.A (evalPart e X.env) (λu s'=>∃o H',Inv X B U H' s'/\IsPart u o/\Q o H') X.xe s
def Tg:TO:=λ_ H Q=>Q M H
def aaE(t:TE):TO:=λU H Q=>t U H λx O=>∃i,x=.int i/\Q (Y i) O
section
variable {X:Cx}
def TY:PO X M Tg:=by
 exact λB s U H Q I h=>bD (_,H,I,.none,h)
def TX(h:PE X e te):PO X (Y e)<|aaE te:=by
 intro B s U H Q I hw;refine eP (h B s U H _ I hw) ?_;rintro u f ⟨x,O,c,a,b⟩;let(i,rfl,q):=b;let(t,rfl):=a;exact(_,O,c,.int i t,q)
def SlR(X:Cx)(r:V->↑Int->↑Int->Hp->VK->Prop):Prop:=
 ∀(B:!(aH×Obj)) (s:aA) (U:St) (H:Hp) (x:V) (v b a:au) (n L:↑Int) (c:aH) (Q:VK),Inv X B U H s->RelV x v->s.heap.IsSliceOf c b a .none->IsPart b n->IsPart a L->r x n L H Q ->
  ∃T id,typeLookup (.type T) "__getitem__" = c9 (Y<|.builtin id)/\s.TypeIs v T/\bz (bj X.prog X.w) X.A (NN v<|.ref c) (EP X B U Q) X.xe s
def tSl(r:V->↑Int->↑Int->Hp->VK->Prop)(te:TE)(tl th:TO):TE:=λU H Q=>te U H λx O=>tl U O λl d=>th U d λu a=>r x l u a Q
def FK(F:SlR X r)(P:PE X e te)(K:PO X n tl)(D:PO X L th):PE X (.Subscript e (.Slice n L M p2) G)<|tSl r te tl th:=by
 intro B s U H Q I h;refine Subscript_<|eP (P B s U H _ I h) ?_;rintro v m ⟨x,O,I1,o,w⟩;refine wpAny_Slice<|eP (K B m U O _ I1 w) ?_;rintro f k ⟨l,d,I2,C,t⟩;refine eP (D B k U d _ I2 t) ?_;rintro c a ⟨u,g,I3,A,p⟩;refine bD ?_;let S:Inv X B U g { a with heap:=a.heap.push { cls :=.type "slice",data :=.fields #[f,c,.none] } }:=I3.kept λb ob q=>ao _ q
 let(T,id,R,E,i):=F B _ U g x v f c l u a.heap.objs.size Q S o (Heap.IsSliceOf.new ..) C A p;exact tail_any E R i Ÿ
def Ju(xs:!V)(n L:↑Int):!V:=(xs.drop<|HT.Ie xs.length 0 n).take<|HT.Ie xs.length xs.length L-HT.Ie xs.length 0 n
def GY(xs:!V)(n L:↑Int):(Ju xs n L).length<=xs.length:=by
 unfold Ju;rw[j4,Hq]
 lia
end
noncomputable def xU(n:Nat)(i:Int):↑Nat:=if 0<=i then (if i<n then Y i.toNat else M) else if -(n:Int)<=i then Y (i+n).toNat else M
def qa{a:Type}(xs:!a)(i:Int):↑a:=(xU xs.length i).bind λj=>xs[j]?
def DB{n:Nat}(h:xU n i=Y j):seqIndex? i n=Y j/\j<n /\ -(n:Int)<=i/\i<n:=by
 unfold xU at h;by_cases a:0<=i
 .rw[if_pos a]at h;by_cases J:i<n
  .rw[if_pos J]at h
   grind [bE,seqIndex_of]
  simp_all
 .rw[if_neg a]at h;by_cases J : -n<=i
  .rw[if_pos J]at h
   grind [bE,seqIndex_neg]
  simp_all
def En{v:a}(h:qa xs i=Y v):∃j,seqIndex? i xs.length=Y j/\xs[j]?=Y v/\j<xs.length /\ -(xs.length:Int)<=i/\i<xs.length:=by
 let(j,e,h):=aa.1 h;let(J,z,c,b):=DB e;exact(j,J,h,z,c,b)
theorem dX{xs:!a}{j:Nat}{v:a}(h:xs[j]?=Y v):qa xs (j:Int)=Y v:=by
 have b:=(ah.mp h).1
 simp_all [xU,if_pos,qa]
def yr(b:Expr):Prop:=∀o i,SM b Z_ o i=operate [o,i] (NN o i)
def LP(X:Cx)(r:R2):Prop:=
 ∀(sS a:Expr) (B:!(aH×Obj)) (s:aA) (U:St) (H:Hp) (x y:V) (v u:au) (Q:VK),Inv X B U H s->RelV x v->RelV y u->r x y H Q ->
  SM a Z_ v u=operate [v,u] (NN v u)->bz (bj X.prog X.w) X.A (subscriptTail sS a v u) (EP X B U Q) X.xe s
def MtR(X:Cx)(id:String)(r:V->!V->Hp->VK->Prop):Prop:=
 ∀(B:!(aH×Obj)) (s:aA) (U:St) (H:Hp) (x:V) (xs:!V) (v:au) (a:!au) (Q:VK),Inv X B U H s->RelV x v->cf xs a->r x xs H Q ->
  bz (bj X.prog X.w) X.A (call (.builtin id)<|v::a) (EP X B U Q) X.xe s
section
variable {X:Cx}
def LP.or(h:LP X r)(h':LP X e):LP X<|λx y H Q=>r x y H Q\/e x y H Q:=by
 intro sS a B s U H x y v u Q I c b q f;obtain q|q:=q
 .exact h _ a B s U H x y v u Q I c b q f
 .exact h' _ a B s U H x y v u Q I c b q f
def oA(l:LP X r)(o:PE X a N)(m:PE X b y)(k:yr b):PE X (.Subscript a b G)<|ZW r N y:=by
 exact λB s U H Q I h=>Subscript_<|Zp o m I h λv u e x c d p g f q=>l a b B e U d x c v u Q p g f q<|k _ _
def aa5(K:aV):R2:=λx y H Q=>∃p xs i v,x=.ref p/\y=.int i/\lW K H p xs/\qa xs i=Y v/\Q v H
def aa3(K:aV):R2:=λx y H Q=>∃p xs i v,x=.ref p/\y=.int i/\VG K H p xs/\qa xs i=Y v/\Q v H
def aa4:R2:=λx y H Q=>∃z i c,x=.str z/\y=.int i/\z.length<=a7/\qa z.cps.toList i=Y c/\Q (.str ⟨#[c]⟩) H
def rO:LP X<|aa5 X.K:=by
 intro sS b B s U H x y v u Q I A o h k;refine ae λkk =>?_
 let(p,xs,i,a,rfl,rfl,C,E,q):=h;cases A;let(t,rfl):=o;let(f,r,e,d):=I.list C;let(j,J,z,R,K,F):=En E;let(w,m,c):=r.get z;let D:=r.length;let P:=wy;refine kk ?_;let k8:EP X B U Q w s:=(a,H,I,c,q);by_cases l:0<=i
 .let g:=by rw[seqIndex_of l F]at J;exact bE J
  exact item_listR e.isList l Ž ŷ k8 k
 .let g:(i+(f.toArray.size:Int)).toNat=j:=by rw[seqIndex_neg (by simp_all) K]at J;rw[bY,<- D];exact bE J
  exact subscriptTail_builtinR e.isList.typeIs slot_list_getitem.lookup
   (wpAny_getItem_list_neg e.isList Ž Ż Ž ŷ (W,k8)) k
def qM:LP X<|aa3 X.K:=by
 intro sS b B s U H x y v u Q I g f h l;refine ae λkk =>?_
 let(p,xs,i,a,rfl,rfl,m,A,q):=h;cases g;let(t,rfl):=f;let(k,r,e,D):=I.tuple m;let(j,J,z,_):=En A;let(w,C,c):=r.get z;let o:=r.length;let E:=wy;exact kk (subscriptTail_builtinR e.typeIs slot_tuple_getitem.lookup
  (getItem_tuple (j:=j) e Ž Ž Ż ŷ (W,((a,H,I,c,q)))) l)
def Yx:LP X aa4:=by
 intro sS b B s U H x y v u Q I f e h g;refine ae λkk =>?_
 let(a,i,c,rfl,rfl,A,l,q):=h;let(t,rfl):=f;let(w,rfl):=e;let(j,J,z,D,o,m):=En l;let k:a.cps.toList.length=a.length:=by trivial
 let C:=wy;exact kk<|tail_any (typeIs_str s a t) slot_str_getitem.lookup (getItem_str Ž ŷ (.str _,H,I.tok _,(_,W),q)) g
def rIx(K:aV):R2:=λx y H Q=>aa5 K x y H Q\/aa3 K x y H Q\/aa4 x y H Q
def Yy:LP X<|rIx X.K:=rO.or<|qM.or Yx
def IH(a:!au)(n j:Nat)(u:au):uz (·.setIfInBounds j u) { cls :=.type "list",data :=.seq a.toArray n }={ cls :=.type "list",data :=.seq (a.set j u).toArray n }:=by
 simp[uz]
def Inv.lst{s:aA}{p:aH}{xs:!V}(I:Inv X B U H s)(h:H p=Y (.lst xs)):
  ∃(a:!au) (n:Nat),cf xs a/\s.heap.get? p=Y { cls :=.type "list",data :=.seq a.toArray n }/\xs.length<=a7:=by
 let(z,a,n,r,e):=I.gf p _ h;exact(a,n,r,e,z)
def Inv.Yk{B:!(aH×Obj)}{U:St}{H:Hp}{s:aA}{p:aH}{xs ys:!V}{c a:!au}{n g:Nat}{f:Obj->Obj}(I:Inv X B U H s)(h:H p=Y (.lst xs))(m:s.heap.get? p=Y { cls :=.type "list",data :=.seq c.toArray n })(k:f { cls :=.type "list",data :=.seq c.toArray n }={ cls :=.type "list",data :=.seq a.toArray g })(r:cf ys a)(l:ys.length<=a7)(t:Nat):
  Inv X B U (cU H p<|.lst ys) { s with heap:=s.heap.update p f,toks:=t }:=by
 have e:(s.heap.update p f).get? p=Y { cls :=.type "list",data :=.seq a.toArray g }:=by rw[Heap.get?_update_self f m (by rw[k]<;>rfl),k]
 refine I.write (by rw[h];trivial) (.inl W) (λb u o q=>(nW _ _<|bw o).trans q) (_,e) ?_;exact(l,a,g,r,e)
def Wl:V->V->V->Hp->(Hp->Prop)->Prop:=λo i v H Q=>∃p xs k j,o=.ref p/\i=.int k/\H p=Y (.lst xs)/\xU xs.length k=Y j/\Q (cU H p<|.lst<|xs.set j v)
def Sg:acH X Wl:=by
 refine λB s U H o i v F K u Q I A C x xx=>ae λkk =>?_
 let(p,xs,k,j,rfl,rfl,f,E,q):=xx;cases A;let(t,rfl):=C;let(a,n,r,b,D):=I.lst f;let(J,z,l,g):=DB E;let c:=r.length;let d:=wy;have w:=
  I.Yk f b (IH a n j u) (r.set x j) Ż s.toks
 refine kk ?_;by_cases m:0<=k
 .grind [seqIndex_of,bE,PySem.W.ki_setAt,bY]
 grind [seqIndex_neg,bY,bE,PySem.W.ki_setBack]
set_option tactic.hygienic true in
def C6(n L:↑Int)(a:Nat):(sliceBounds n L M a).1=((HT.Ie a 0 n:Nat):Int)/\(sliceBounds n L M a).2.1=((HT.Ie a a L:Nat):Int)/\(sliceBounds n L M a).2.2=1:=by
 have key:∀i:Int,max 0 (min (if i<0 then i+a else i) a)=((HT.Ie a 0 (Y i):Nat):Int):=λi=>by
  rw[<- HT.Vy];split
  .rename_i h;rw[Int.min_eq_left<|EI (Int.add_le_add_right (Int.le_of_lt h) a)<|Int.le_of_eq<|Int.zero_add _,Int.max_comm]
  .rename_i h;exact Int.max_eq_right<|Int.le_min.mpr (Int.not_lt.mp h,fZ _)
 exact(match n with|none=>rfl|some i=>key i,match L with|none=>rfl|some i=>key i,W)
def Bl(a:!au)(n L:↑Int):slicePick a.toArray n L M=((a.drop<|HT.Ie a.length 0 n).take<|HT.Ie a.length a.length L-HT.Ie a.length 0 n).toArray:=by
 let(J,z,b):=C6 n L _;unfold slicePick;rw[J,z,b];simp only[sliceRange_one,pick_run,bY]<;>rfl
def aeI(K:aV):V->↑Int->↑Int->Hp->VK->Prop:=λx n L H Q=>∃a xs,x=.ref a/\lW K H a xs/\∀p,H p=M->Q (.ref p) (cU H p<|.lst<|Ju xs n L)
def Tq:SlR X<|aeI X.K:=by
 rintro B s U H x v u t n L w Q I f p k g ⟨a,xs,rfl,o,q⟩;cases f;let(l,r,e,m):=I.list o;let c:=r.length;refine(_,_,slot_list_getitem.lookup,e.isList.typeIs,?_);refine wpAny_getItem_list_slice e.isList p k g .none ż ?_ Ż;rw[Bl,<- c];refine(.ref _,_,I.laid (λb A q=>ao _ q) (aF _) ?_,W,q _<|I.gf.fresh<|aF _);exact(bB (GY xs n L) m,_,0,(r.drop _).take _,br _ W)
noncomputable def p7:V->Bool
 |.dC=>Z'|.bl _=>Z'|.int _=>Z'|.str _=>Z'|_=>Z_
noncomputable def Vh:V->V->Bool
 |.dC,.dC=>Z'|.bl a,.bl b=>a==b|.bl a,.int b=>(if a then 1 else 0)==b
 |.int a,.bl b=>a==(if b then 1 else 0)
 |.int a,.int b=>a==b|.str a,.str b=>a==b|_,_=>Z_
def Y1{A:gM}{s:aA}{y x:V}{u v:au}(f:RelV y u)(c:RelV x v)(h:p7 y=Z')(g:p7 x=Z'):SeqAt.EqAt A s u v<|Vh y x:=by
 cases y with
 |dC=>
  cases f;cases x with
  |dC=>cases c;exact SeqAt.EqAt.same _|bl b=>cases c;exact SeqAt.EqAt.none_bool b|int b=>let(t,rfl):=c;exact SeqAt.EqAt.none_int b t
  |str b=>let(t,rfl):=c;exact SeqAt.EqAt.none_str b t
  |_=>exact absurd (g) bU
 |bl a=>
  cases f;cases x with
  |dC=>cases c;exact SeqAt.EqAt.bool_none a|bl b=>cases c;exact SeqAt.EqAt.bool_bool a b|int b=>let(t,rfl):=c;exact SeqAt.EqAt.bool_int a b t
  |str b=>let(t,rfl):=c;exact SeqAt.EqAt.bool_str a b t
  |_=>exact absurd (g) bU
 |int a=>
  let(e,rfl):=f;cases x with
  |dC=>cases c;exact SeqAt.EqAt.int_none a e|bl b=>cases c;exact SeqAt.EqAt.int_bool a e b|int b=>let(t,rfl):=c;exact SeqAt.EqAt.int_int a e b t
  |str b=>let(t,rfl):=c;exact SeqAt.EqAt.int_str a e b t
  |_=>exact absurd (g) bU
 |str a=>
  let(e,rfl):=f;cases x with
  |dC=>cases c;exact SeqAt.EqAt.str_none a e|bl b=>cases c;exact SeqAt.EqAt.str_bool a e b|int b=>let(t,rfl):=c;exact SeqAt.EqAt.str_int a e b t
  |str b=>let(t,rfl):=c;exact SeqAt.EqAt.str_str a e b t
  |_=>exact absurd (g) bU
 |_=>exact absurd (h) bU
def Rf(x:V)(u:au):Bool:=match u with
 |.none=>Vh .dC x|.bool b=>Vh (.bl b) x|.int i _=>Vh (.int i) x|.str z _=>Vh (.str z) x|_=>Z_
def Rb{x y:V}{u:au}(r:RelV y u)(f:p7 y=Z'):Rf x u=Vh y x:=by
 cases y with
 |dC=>cases r;rfl|bl b=>cases r;rfl|int i=>let(t,rfl):=r;rfl
 |str z=>let(t,rfl):=r;rfl
 |_=>exact absurd f bU
def yq{x:V}{xs:!V}{a:!au}(h:cf xs a)(f:xs.all p7=Z'):a.any (Rf x)=xs.any λy=>Vh y x:=by
 induction h with|nil=>rfl|cons r _ ih=>rw[gZ,ax]at f;rw[nG,nG,Rb r f.1,ih f.2]
def u7{A:gM}{s:aA}{x:V}{v:au}(c:RelV x v)(e:p7 x=Z'){xs:!V}{b:!au}(h:cf xs b)(f:xs.all p7=Z'):∀u∈b,SeqAt.EqAt A s u v<|Rf x u:=by
 induction h with
 |nil=>simp_all|cons r _ ih=>
  rw[gZ,ax]at f;intro g a;obtain rfl|a:=aG.mp a
  .rw[Rb r f.1];exact Y1 r c f.1 e
  simp_all
def M3(x:V)(xs:!V):Bool:=xs.any λy=>Vh y x
def rIn(K:aV)(a:Bool):R2:=λx y H Q=>∃p xs,y=.ref p/\(lW K H p xs\/VG K H p xs)/\p7 x=Z'/\xs.all p7=Z'/\Q (.bl<|if a then (not<|M3 x xs) else M3 x xs) H
def MD:mT X (c7 .In)<|rIn X.K Z_:=by
 rintro B s U H x y v u Q I e g ⟨p,xs,rfl,b,f,j,q⟩;cases g;obtain b|b:=b
 .let(a,r,c,k):=I.list b;refine SeqAt.in_listAt _ c.isList (λw hw=>u7 e f r j w Ż) (.bl _,H,I,W,?_);rw[show a.toArray.any _=a.any (Rf x) by grind,yq r j];exact q
 .let(a,r,c,k):=I.tuple b;refine SeqAt.in_tupleAt _ c (λw hw=>u7 e f r j w Ż) (.bl _,H,I,W,?_);rw[show a.toArray.any _=a.any (Rf x) by grind,yq r j];exact q
def Dk:mT X (c7 .NotIn)<|rIn X.K Z':=by
 intro B s U H x y v u Q I e g h;let(p,xs,rfl,b,f,j,q):=h;cases g;obtain b|b:=b
 .let(a,r,c,k):=I.list b;refine SeqAt.notIn_listAt (Rf x) c.isList (λw hw=>u7 e f r j w<|by simpa using hw) (.bl _,H,I,W,?_);rw[show a.toArray.any (Rf x)=a.any (Rf x) by grind,yq r j];exact q
 .let(a,r,c,k):=I.tuple b;refine SeqAt.notIn_tupleAt (Rf x) c (λw hw=>u7 e f r j w<|by simpa using hw) (.bl _,H,I,W,?_);rw[show a.toArray.any (Rf x)=a.any (Rf x) by grind,yq r j];exact q
def pI:k7 X (.builtin "len") (λxs H Q=>∃p ys,xs=[.ref p]/\(lW X.K H p ys\/VG X.K H p ys)/\Q (.int ys.length) H):=by
 rintro B s U H xs l Q I r ⟨p,ys,rfl,b,q⟩;let(u,rfl,g):=vals1 r;cases g;let m:=wy;obtain b|b:=b
 .let(f,c,e,k):=I.list b;let a:=c.length;exact Calls.call_len_list e.isList (by simp only[bY]<;>lia) (.int _,H,I.tok _,(_,by rw[bY,a]),q)
 .let(f,c,e,k):=I.tuple b;let a:=c.length;exact len_tuple e (by simp only[bY]<;>lia) (.int _,H,I.tok _,(_,by rw[bY,a]),q)
def Ei:k7 X (.builtin "len") (λxs H Q=>∃z,xs=[.str z]/\z.length<=a7/\Q (.int z.length) H):=by
 rintro B s U H xs a Q I r ⟨z,rfl,b,q⟩;let(u,rfl,t,rfl):=vals1 r;let c:=wy;exact len_str Ž (.int _,H,I.tok _,(_,W),q)
def k7.or{f:au}(h:k7 X f r)(h':k7 X f c):k7 X f<|λxs H Q=>r xs H Q\/c xs H Q:=by
 intro B s U H xs a Q I b q;obtain q|q:=q
 .exact Ÿ
 exact Ÿ
def Eh:k7 X (.type "list") (λxs H Q=>∃p ys,xs=[.ref p]/\(lW X.K H p ys\/VG X.K H p ys)/\∀l,H l=M->Q (.ref l) (cU H l<|.lst ys)):=by
 rintro B s U H xs D Q I r ⟨p,ys,rfl,m,q⟩;let(u,rfl,C):=vals1 r;cases C;have k8:∀(a:!_),cf ys a->ys.length<=a7->∀(h':cP) (f:Nat),(∀b o',s.heap.get? b=Y o'->h'.get? b=Y o') ->
   h'.get? _=Y _->EP X B U Q _ _:=λa c k h' f g e=>
  (.ref _,_,I.laid (t':=s.toks) g (aF _) (show iY _ X.w _ h' _<|.lst ys from(k,a,f,c,e)),W,q _<|I.gf.fresh<|aF _)
 obtain m|m:=m
 .let(a,c,v,k):=I.list m;let t:=c.length;let(o,w,A,n,x):=v.isList;exact call_list_seq p (.inl W) w A x (λh' f g e=>k8 a c k h' f g e) Ż
 .let(a,c,v,k):=I.tuple m;let t:=c.length;let(o,w,A,n,x):=v;exact call_list_seq p (.inr W) w A x (λh' f g e=>k8 a c k h' f g e) Ż
def tyV(K:aV)(T:String)(x:V)(H:Hp):Prop:=match x with
 |.str _=>T = "str"|.int _=>T = "int"| .ref p=>(T = "list" /\ ∃xs,lW K H p xs)\/(T = "tuple" /\ ∃o,K.lookup p=Y o/\o.cls=.type "tuple" /\o.dict=M) \/
   (T = "dict" /\((∃a,H p=Y (.dK a))\/∃a,H p=Y (.dT a)))\/(T = "set" /\ ∃S n,H p=Y (.set S n))
 |_=>False
theorem Ou{s:aA}{v:au}(I:Inv X B U H s)(r:RelV x v)(f:tyV X.K T x H):
  s.TypeIs v T/\∀a,v=.ref a->∃m,s.heap.get? a=Y m/\m.dict=none:=by
 cases x with
 |str z=>let(t,rfl):=r;cases f;simp[typeIs_str]
 |int i=>let(t,rfl):=r;cases f;simp[typeIs_int]
 |ref p=>
  cases r;obtain⟨rfl,xs,w⟩|⟨rfl,o,b,A,h⟩|⟨rfl,b⟩|⟨rfl,S,n,b⟩:=f
  .let(u,_,l,_):=I.list w;refine(l.isList.typeIs,λa e =>?_);let(o,n,e,c,h,_):=l
   simp_all
  .refine((o,I.xn p o b,A),λa e =>?_);cases e;exact(o,I.xn _ o b,h)
  .let z:∃o,s.heap.get? p=Y o/\o.ExactDict:=by
    obtain⟨g,b⟩|⟨g,b⟩:=b
    .let(_,_,_,_,o,_,_,e,ex,_):=I.gf p _ b
     exact Ÿ
    .let(_,_,_,_,o,_,_,e,ex,_):=I.gf p _ b
     exact Ÿ
   let(o,e,ex):=z;refine((o,e,ex.1),λa k =>?_);cases k;exact(o,e,ex.2.1)
  .let(o,_,_,_,e,ex,_):=I.gf p _ b;refine((o,e,ex.1),λa k =>?_);cases k;exact(o,e,ex.2.1)
 |_=>solve_by_elim
def aaN(K:aV)(T:String)(r:V->!V->Hp->VK->Prop)(to:TE):TE:=λU H Q=>to U H λx O=>tyV K T x O/\r x [] O Q
def tBM(K:aV)(T:String)(r:V->!V->Hp->VK->Prop)(to:TE)(t:TA):TE:=λU H Q=>to U H λx O=>tyV K T x O/\t U O λxs d=>r x xs d Q
variable {name:aP}{id:String}
def Ik(p:PlainAttrs T)(c:Slot T name id)(e:typeOf (.builtin id)=c9 (.type "method_descriptor"))(u:MtR X id r)(t:PE X o to)(b:@&(bT o name X.env (eval o X.env)=eval o X.env))(a:@&((A2.endLine==x6.line)=true)):PE X (.Call (.Attribute o name A2) [] [] x6)<|aaN X.K T r to:=by
 intro B s U H Q I h;refine wpAny_Call_method0_late b a<|eP (t B s U H _ I h) ?_;rintro v l ⟨x,O,g,f,k,m⟩;let(J,z):=Ou g f k;exact(T,id,p,c,e,J,z,A8 W<|PySem.evalArgs_none<|u B l U O x [] v [] Q g f .nil m)
def uX(i:PlainAttrs T)(f:Slot T name id)(k:typeOf (.builtin id)=c9 (.type "method_descriptor"))(S:MtR X id r)(R:PE X o to)(ha:PA X (e::es) t)(c:@&(bT o name X.env (eval o X.env)=eval o X.env)) (g:@&(((cB x6<|ak (e::es) X.env).all (λx=> (not x.1))&&(fY x6<|cV [] X.env).all (λx=>x.1.isSome)
   && decide ((e::es).length+([]:!j8).length+(if ([]:!j8).isEmpty then 0 else 1)<30))=true)) (b:@&((A2.endLine==x6.line)=true)) (P:@&(ak (e::es) X.env=(Z_,eval e X.env)::ak es X.env)) (a:@&((cB x6<|ak es X.env).any (·.1)=false)) :
  PE X (.Call (.Attribute o name A2) (e::es) [] x6) (tBM X.K T r to t):=by
 intro B s U H Q I h;refine wpAny_Call_method_late c g b W<|eP (R B s U H _ I h) ?_;rintro v D ⟨x,O,p,l,A,K⟩;let(J,z):=Ou p l A;refine(T,id,i,f,k,J,z,?_);let m:=ha x6 B D U O _ p K;rw[P]at m ⊢;refine A8 (by show (Z_||(cB _ _).any _)=Z_;rw[a]<;>solve_by_elim)<|Calls.evalArgs_plain ?_;exact eP m <|by rintro w C ⟨u,d,I2,E,F⟩;exact Ÿ
end
def MtM(X:Cx)(id:String)(r:V->!V->Hp->VK->Prop):Prop:=
 ∀(B:!(aH×Obj)) (s:aA) (U:St) (H:Hp) (x:V) (xs:!V) (v:au) (a:!au) (Q:VK),Inv X B U H s->RelV x v->cf xs a->r x xs H Q ->
  bz (bj X.prog X.w) X.A (call (.builtin id)<|v::a) (EP X B U Q) X.xe s
def cf.one{x:V}{a:!au}(h:cf [x] a):∃u,a=[u]/\RelV x u:=by
 obtain _|⟨r,_|_⟩:=h;exact Ÿ
def cf.two{x y:V}{a:!au}(h:cf [x,y] a):∃u v,a=[u,v]/\RelV x u/\RelV y v:=by
 obtain _|⟨r,_|⟨q,_|_⟩⟩:=h;exact(_,_,W,r,q)
def cf.zero{a:!au}(h:cf [] a):a=[]:=by cases h;rfl
def cf.dropLast(h:cf xs a):cf xs.dropLast a.dropLast:=by
 induction h with
 |nil=>exact .nil|cons r t ih=>
  cases t with|nil=>exact .nil|cons q b=>solve_by_elim
theorem cf.rep(h:cf xs a):∀k:Nat,cf (bC k xs).flatten (bC k a).flatten
 |0 =>.nil|k+1=>by simp_all [A7,List.flatten_cons,cf.append,cf.rep]
theorem foldl_rep(a:!au):∀(k:Nat) (b:!au),
  List.foldl (λf c=>f++c) b.toArray (bC k a.toArray)=(b++(bC k a).flatten).toArray
 |0,b=>by simp
 | k+1,b=>by
  let e:b.toArray++a.toArray=(b++a).toArray:=by simp
  let g:b++a++(bC k a).flatten=b++(bC (k+1) a).flatten:=by rw[A7,List.flatten_cons,bF]
  rw[<- g,<- foldl_rep a k _,<- e,A7,List.foldl_cons]
section
variable {X:Cx}{s:aA}
def Inv.UD{a Qr:!au}{n:Nat}{f:Array au->Array au}{t':Nat}(I:Inv X B U H s)(m:H l=Y (.lst xs))(e:s.heap.get? l=Y { cls :=.type "list",data :=.seq a.toArray n })(h:f a.toArray=Qr.toArray)(c:cf ys Qr)(b:ys.length<=a7):
  Inv X B U (cU H l<|.lst ys) { s with heap:=s.heap.update l<|uz f,toks:=t' }:=by
 let q:=PySem.IsL.update e f;rw[h]at q;refine I.write (by rw[m];exact trivial) (.inl W) (λo u k g=>(nW _ _<|bw k).trans g) (_,q) ?_;exact(b,_,_,c,q)
def Inv.abr{t':Nat}(I:Inv X B U H s)(c:cf ys a)(b:ys.length<=a7):
  Inv X B U (cU H s.heap.objs.size<|.lst ys) { s with heap:=s.heap.push { cls :=.type "list",data :=.seq a.toArray },toks:=t' }:=
 I.laid (λd d q=>ao _ q) (aF _) (b,a,0,c,br _ W)
def Inv.fresh(I:Inv X B U H s):H s.heap.objs.size=none:=I.gf.fresh<|aF _
def Inv.Gi(I:Inv X B U H s)(b:H l=Y (.lst xs)):xs.length<=a7/\∃(a:!au) (n:Nat),cf xs a/\xs.length=a.length/\s.heap.get? l=Y { cls :=.type "list",data :=.seq a.toArray n }:=by
 let(z,a,n,r,e):=I.gf l _ b;exact(z,a,n,r,r.length,e)
def F5(h:n<=a7):l9 n=false:=by
 simp_all [l9,decide_eq_false]
end
section
variable {X:Cx}
def TK:V->!V->Hp->VK->Prop:=λx a H Q=>∃l xs y,x=.ref l/\a=[y]/\H l=Y (.lst xs)/\xs.length<a7/\Q .dC (cU H l<|.lst<|xs++[y])
def iO:MtM X "list.append" TK:=by
 rintro B s U H x k v m Q I c f ⟨l,xs,y,rfl,rfl,b,o,q⟩;cases c;let(u,rfl,g):=f.one;let(z,a,n,r,p,e):=I.Gi b;refine A4 F.slot_list_append (_,e,W) F.entry_list_append (F.args_list_append_2 _ _) (PySem.list_append l _ n u Ż) (e,?_);refine(.dC,_,I.UD b e ż (r.append<|.cons g .nil) ?_,W,q)
 grind
def TH:V->!V->Hp->VK->Prop:=λx a H Q=>∃l b xs zs,x=.ref l/\a=[.ref b]/\H l=Y (.lst xs)/\H b=Y (.lst zs)/\xs.length+zs.length<=a7/\Q .dC (cU H l<|.lst<|xs++zs)
def ML:MtM X "list.extend" TH:=by
 refine λB s U H x K v d Q I m o xx=>ae λkk =>?_
 let(l,b,xs,zs,rfl,rfl,k,C,P,q):=xx;cases m;let(u,rfl,p):=o.one;cases p;let(z,c,n,r,R,e):=I.Gi k;let(E,a,w,t,A,D):=I.Gi C;have g:c.toArray.size+a.toArray.size<=a7:=Ż
 let f:¬((not c.toArray.isEmpty)&&l9 (c.toArray.size+a.toArray.size))=true:=by rw[F5 g,NV];exact bU
 refine kk (A4 F.slot_list_extend (_,e,W) F.entry_list_extend (F.args_list_extend_2 _ _)
  (AutoSeq1.list_extend_list_list_0 l _ n b _ w f Ż ž) (e,D,?_))
 refine(.dC,_,I.UD k e ż (r.append t) ?_,W,q);rw[aU];omega
def aa2:V->!V->Hp->VK->Prop:=λx a H Q=>∃l xs y,x=.ref l/\a=[]/\H l=Y (.lst xs)/\xs[xs.length-1]?=Y y/\Q y (cU H l<|.lst xs.dropLast)
def P2:MtM X "list.pop" aa2:=by
 refine λB s U H x w v A Q I g k xx=>ae λkk =>?_
 let(l,xs,y,rfl,rfl,f,o,q):=xx;cases g;let c:=k.zero;subst c;let(z,a,n,r,t,e):=I.Gi f;let(u,p,m):=r.get o;let b:a.toArray[a.toArray.size-1]?=Y u:=by simp_all
 refine kk<|A4 F.slot_list_pop (_,e,W) F.entry_list_pop (F.args_list_pop_1 _) (MeetsSeq.list_pop_last l _ n u b Ż) (e,?_);refine(y,_,I.UD f e ?_ r.dropLast ?_,m,q)
 .simp
 .rw[List.length_dropLast]
  grind
def Xz:V->!V->Hp->VK->Prop:=λx a H Q=>∃l xs,x=.ref l/\a=[]/\H l=Y (.lst xs)/\Q .dC (cU H l<|.lst [])
def P4:MtM X "list.clear" Xz:=by
 rintro B s U H x k v m Q I f g ⟨l,xs,rfl,rfl,c,q⟩;cases f;let b:=g.zero;subst b;let(z,a,n,r,o,e):=I.Gi c;exact A4 F.slot_list_clear (_,e,W) F.entry_list_clear (F.args_list_clear_1 _) (AutoSeq1.list_clear_list_0 l _ n Ż) (e,(.dC,_,I.UD c e W .nil<|cZ _,W,q))
def aeL:R2:=λx y H Q=>∃l b xs zs,x=.ref l/\y=.ref b/\H l=Y (.lst xs)/\H b=Y (.lst zs)/\xs.length+zs.length<=a7/\∀p,H p=M->Q (.ref p) (cU H p<|.lst<|xs++zs)
def Pp:mT X (dr .Add) aeL:=by
 refine λB s U H x y v u Q I g f xx=>ae λkk =>?_
 let(l,b,xs,zs,rfl,rfl,o,p,D,q):=xx;cases g;cases f;let(z,c,n,r,E,e):=I.Gi o;let(A,a,C,k,m,w):=I.Gi p;refine kk<|PySem.P.add_list e w ?_ Ż;let t:c.toArray++a.toArray=(c++a).toArray:=by simp
 rw[t];exact(.ref _,_,I.abr (r.append k) Ż,W,q _ I.fresh)
def aeJ:R2:=λx y H Q=>∃l k xs,x=.ref l/\y=.int k/\H l=Y (.lst xs) /\ -(2 ^ 63)<=k/\k<2 ^ 63/\xs.length*k.toNat<=a7 /\
 ∀p,H p=M->Q (.ref p) (cU H p<|.lst (bC k.toNat xs).flatten)
def VQ(xs:!a)(k:Nat):(bC k xs).flatten.length=k*xs.length:=by
 simp_all
def XY:mT X (dr .Mult) aeJ:=by
 rintro B s U H x y v u Q I rx ry ⟨l,k,xs,rfl,rfl,hH,J,z,hz,q⟩;cases rx;let(t,rfl):=ry;let(c,IP,n,r,hl,e):=I.Gi hH;have VS:IP.toArray.size*k.toNat<=a7:=Ż
 let afu:¬IP.toArray.size*k.toNat > (2 ^ 63-1)/8:=by grind [a7]
 let afs:¬(not<|Builtin.List.listFitsIndex k)=true:=by rw[fitsIndex_both J z];exact bU
 have abL:¬l9 (IP.toArray.size*k.toNat)=true:=by rw[F5 VS];exact bU
 let afo:List.foldl (λx1 x2=>x1++x2) #[] (bC (if IP.toArray.isEmpty=Z' then 0 else k.toNat) IP.toArray)=(bC k.toNat IP).flatten.toArray:=by
  have f0:∀m:Nat,List.foldl (λx1 x2=>x1++x2) #[] (bC m IP.toArray)=(bC m IP).flatten.toArray:=λm=>by simp_all [foldl_rep,dB]
  rw[f0];cases IP<;>simp_all
 refine wpAny_binaryOp_repeat_ref (T:= "list") (U:= "int") ſ (_,e,W) (λs'=>typeIs_int s' k t) noFill_list_mul F.fills_int_mul F.slot_int_rmul repeat_list F.slot_int_index.lookup
  (A4 F.slot_int_rmul (typeIs_int s k t) F.entry_int_rmul (F.args_int_rmul_2 _ _) (int___rmul___int_list k t l IP.toArray n)
   (e,W,(_,e,W),A4 F.slot_list_mul (_,e,W) F.entry_list_mul (F.args_list_mul_2 _ _) (AutoListH.list___mul___list_int_3 l IP.toArray n k t afs afu abL) (e,?_)))
 rw[afo];exact(.ref _,_,I.abr (t':=s.toks) (r.rep k.toNat) (by rw[VQ,Nat.mul_comm];exact hz),W,q _ I.fresh)
end
section
variable {s:aA}
end
section
variable {X:Cx}
end
end L2
namespace Att
open PySem PySem.W PySem.Calls PyProof.Rows
def xV{P:Params}:∀(c:!Int) (e:!au),WellAll P h e (c.map WData.int)->HC e c:=by
 intro c
 induction c with
 |nil=>intro e w;cases w;exact .nil
 |cons n c ih=>
  intro e w;cases w with
  |cons a b=>
   cases a
   exact Ÿ
theorem Mm{l:OpenLaw}{n:Nat}(A:l.most=Y n){P:Params}{h:cP}{args:!WData}{c:!au}(e:l.row.toRowW.claim.pre args=Z')(o:WellAll P h c args):
  ∃a s b,c=[d6 a]/\args=[WData.list<|b.map WData.int]/\h.get? a=Y { cls :=.type "list",data :=.seq s.toArray }/\HC s b/\b.length<=n:=by
 let t:l.pre.holds [] _=true:=(pre_splitW e).2;let(d,r,rfl,J,z):=hasAllW_cons (pre_splitW e).1;obtain rfl:=hasAllW_nil z;let(xs,rfl,C):=hasW_list J;let(b,rfl):=items_int C;let f:b.length<=n:=by
  let m:(WTm.not<|.lt (.lit<|.int n)<|.len<|.arg 0).holds [] { args:=[.list<|b.map .int] }=true:=by
   let m:=(holds_andW t).1
   simp_all
  let k:=condW_of m<|w_not<|w_lt w_lit<|w_len_list<|w_arg W
  simp_all
 cases o with
 |cons v u=>
  cases u;cases v with|list x g=>exact(_,_,b,W,W,x,xV b _ g,f)
def Mt(l:OpenLaw)(args:!WData):l.row.toRowW.claim.post args (.bool Z') args=true:=
 postW_of
  Ÿ
  (w_eq_bool (w_res W) w_lit) W
def Ha{l:OpenLaw}{n:Nat}{q:bh}{e:!aP}{R:(aP->↑au)->cP->Prop}{Q:cW->cP->Prop}{d:DefRec}(hn:l.most=Y n)(F:d.params.defaults=[]) (u:∀(w:cW) (c b:aA) (i C:aP->↑au) (t:aH) (o:Obj) (A x h:au) (a:aH) (k:!au) (v:!Int),
   Ground q e [] R w c i C b.heap->Q w b.heap ->
   b.heap.get? t=Y o->o.data=.func (docDef d.name d.params d.body d.scope A x h)->b.heap.CodeRec x d.name->i d.name=Y (.ref t) ->
   b.heap.get? a=Y { cls :=.type "list",data :=.seq k.toArray }->HC k v->v.length<=n->b.gens=#[] ->
   A3 (bj l.prog w) NP (.call (.ref t) ([.ref a],[])) (λr s'=>r=.ok (.ret<|.bool Z')/\OldK b.heap s'.heap/\s'.os=b.os/\HD s'.gens) b) :
  WalkO q e R Q l.row.toRowW d [] (λf k=>PySem.call f k):=by
 intro w c b i C G j t o A x h dV S ho hd H P E hg args K as m y T D hlo;obtain rfl:dV=.none:=Dflts.none P F;obtain rfl:S=.none:=Dflts.noKw P;let(a,k,v,rfl,trivial,p,g,s):=Mm hn m D;refine enter_call<|NO (u w c b i C t o A x h a k v G j ho (fd_plain hd) H E p g s hg) λr s' X =>?_;let(rfl,z,h3,h4):=X;exact(.inl (_,_,[],W,λ_=>rfl,.bool _,Mt l _,λ_=>(List.Pairwise.nil,λ_ hm=>nomatch hm)),z,h3,h4)
section
variable {s:aA}{K:aV}
end
end Att
namespace L2
open PySem PySem.Spec PyProof.Rows
def L4{a:!au}{b:!Int}(h:HC a b):cf (b.map V.int) a:=by
 induction h with|nil=>exact .nil|cons n t h ih=>solve_by_elim
def R5(H:Hp):Prop:=∀b,H b=M\/∃o xs,H b=Y (.KW o<|.lst xs)
def Qm{P:bh}{K:aV}{f:aA}(KX:K.In f.heap)(S:f.heap.Ns bc i)(l:f.heap.Ns builtinsNs mb)(hbb:∀x:aP,x ≠ "__name__" ->mb x=eN x)(T:f.heap.NoLimit)(hg:f.gens=#[])(ha:f.heap.get? a=Y { cls :=.type "list",data :=.seq A.toArray })(L:HC A E)(hl:E.length<=a7)(hr:d7 k NP)(F:∀base:cP,K.In base->base.Ns bc i->b9 P w K i base CX k fa I [x] sp)(C:∀(s:aA) (u:au),NW s I ([u],[]) [(x,u)])(hsp:∀H:Hp,R5 H->lW K H a (E.map V.int)->sp [.ref a] H (λv y=>v=.bl Z') λy y y=>False)(hCX:∀H e s',CX [] H f (λy y y=>False) e s'->False):
  A3 (bj P w) NP (.call (.ref fa) ([.ref a],[])) (λr s'=>r=.ok (.ret<|.bool Z')/\OldK f.heap s'.heap/\s'.os=f.os/\HD s'.gens) f:=by
 let rv:=L4 L;let j:=L.length;have t:∀H:Hp,R5 H->lW K H a (E.map V.int)->nO P w H f.heap->(∀b,H b≠M->b=a)->(H a≠M->K.lookup a=M) ->
   A3 (bj P w) NP (.call (.ref fa) ([.ref a],[])) (λr s'=>r=.ok (.ret<|.bool Z')/\OldK f.heap s'.heap/\s'.os=f.os/\HD s'.gens) f:=by
  intro H hO hS R hA hK;let g:∀ {b:aH}{o:Obj},f.heap.get? b=Y o->H b=M->(IW f.heap H).get? b=Y o:=λe n=>QD e n
  let noA:∀ {b:aH}{o:Obj}{es:Array DictEntry}{ep:Nat},f.heap.get? b=Y o->o.data=.dict es ep->H b=none:=fun {b o es ep} e d=>by rcases q:H b with _|u<;>grind
  have p:∀ {b:aH}{m:aP->↑au},f.heap.Ns b m->(IW f.heap H).Ns b m:=fun {b m} (o,es,ep,e,d,r)=>(o,es,ep,g e<|noA e d,d,r)
  let X:=λb o e=>g (KX b o e) ŷ
  let hM:Mod K i<|IW f.heap H:=(X,p S,(mb,p l,hbb),let(mc,J,z):=T;(mc,p J,z));refine NO ((F _ X<|p S).run NP [] f H ([.ref a],[]) [.ref a] [.ref a] _ _ hr ((W,hM,λb o e=>Ul e,VW<|M6 _ _,trivial,λb l=>absurd (show b∈([]:!aH) from l) ż,R,.of_eq hg)) (C f<|.ref a) (.cons W .nil)<|hsp H hO hS) λr s' h =>?_
  cases r with
  |error e=>exact(hCX H e s' h).elim|ok fl=>
   cases fl with
   |ret u=>
    let(v,H',os,bare,un,Q,r',q):=h;let q':v=.bl true:=q;subst q';obtain rfl:u=Value.bool true:=r';refine(W,OldK.of_keep λb o e =>?_,os,bare);cases q:H b with
    |none=>exact un.keep b o e q (by intro c;exact absurd (show b∈([]:!aH) from c) ż) ż
    |some u=>
     obtain c|⟨ob,xs,c⟩:=hO b
     .rw[q]at c;cases c
     .let z2:=un.DX b ob _ c;let(e1,_):=R b _ c;let(e2,_):=Q b _ z2;rw[e]at e1;cases e1;exact e2
   |_=>exact False.elim h
 cases hk:K.lookup a with
 |some o=>let e:=KX a o hk;rw[ha]at e;cases e;refine t _ (λy =>.inl W) (.inr (_,A.toArray,_,hk,W,W,W,by rw[bY,j];exact hl,by simpa using rv)) (λb u c=>by cases (c)) (λb c=>absurd W c) λc=>absurd W c
 |none=>
  refine t (λb=>if b=a then Y _ else M) (λb =>?_) (.inl<|.inr ({ cls :=.type "list",data :=.seq A.toArray },if_pos W)) (λb u c =>?_) (λb c =>?_) λy=>hk
  .grind
  .by_cases l:b=a
   .cases ((if_pos l).symm.trans c);subst l;exact(ha,Ż,A,_,rv,ha)
   simp_all
  simp_all
def SO{l:PySem.W.OpenLaw}{n k:Nat}{q:bh}{c:!aP}{R:cW->cP->Prop}{d:DefRec}{K:Params->aV}{CX:cW->Zx}{sp:cW->Sp}{x:aP}(X:l.most=Y n)(C:n<=a7)(E:d.params.defaults=[])(T:d7 k NP)(hY:∀(w:cW) (h:cP),R w h->(K w.params).In h) (F:∀(w:cW) (i:aP->↑au) (t:aH) (h:cP),(K w.params).In h->h.Ns bc i->i d.name=Y (.ref t) ->
   ∃I:dt,(∀(s:aA) (u:au),NW s I ([u],[]) [(x,u)]) /\
    ∀base:cP,(K w.params).In base->base.Ns bc i->b9 l.prog w (K w.params) i base (CX w) k t I [x] (sp w)) (A:∀(w:cW) (H:Hp) (a:aH) (r:!Int),r.length<=n->R5 H->lW (K w.params) H a (r.map V.int)->sp w [.ref a] H (λv z=>v=.bl Z') λz z z=>False) (y:∀(w:cW) (H:Hp) (s:aA) (e:au) (s':aA),CX w [] H s (λz z z=>False) e s'->False) :
  PySem.W.WalkO q c XP R l.row.toRowW d [] (λf P=>PySem.call f P):=by
 refine Att.Ha X E λw Q m i mb t o pm cd WZ a P r G j ho hd hcd D p g b hg =>?_
 let S:=hY w _ j;let(I,hb,hF):=F w i t _ S G.T.g D;exact Qm S G.T.g G.T.b G.T.builtins G.T.nolimit hg p g (bB b C) T hF hb (λH hO hS=>A w H a r b hO hS) λH e s'=>y w H m e s'
def Oc{l:PySem.W.OpenLaw}{n k:Nat}{q:bh}{b:!aP}{P:(aP->↑au)->cP->Prop}{t:cW->cP->Prop}{d:DefRec}{K:Params->aV}{CX:Zx}{sp:aV->Sp}{x:aP}(D:l.most=Y n)(m:n<=a7)(o:d.params.defaults=[])(C:d7 k NP)(E:∀(w:cW) (h:cP),t w h->(K w.params).In h) (F:∀(w:cW) (i:aP->↑au) (r:aH) (h:cP),(K w.params).In h->h.Ns bc i->i d.name=Y (.ref r) ->
   ∃I:dt,(∀(s:aA) (u:au),NW s I ([u],[]) [(x,u)]) /\
    ∀base:cP,(K w.params).In base->base.Ns bc i->b9 l.prog w (K w.params) i base CX k r I [x] (sp<|K w.params)) (g:∀(K:aV) (H:Hp) (a:aH) (c:!Int),c.length<=n->R5 H->lW K H a (c.map V.int)->sp K [.ref a] H (λv y=>v=.bl Z') λy y y=>False) (p:∀(H:Hp) (s:aA) (e:au) (s':aA),CX [] H s (λy y y=>False) e s'->False) :
  PySem.W.WalkO q b P t l.row.toRowW d [] (λf A=>PySem.call f A):=
 SO D m o C E F (λw H a c J z j=>g _ H a c J z j) λy H s e s'=>p H s e s'
noncomputable def cL(s:cH)(j:Nat):cH:=match s with
 |.ClassDef _ _ _ a _ _ _ _ _ _ _=>a.getD j (.Pass (0,0,0,0))|_ =>.Pass (0,0,0,0)
noncomputable def nB(s:cH):Arguments:=match s with
 |.FunctionDef _ a _ _ _ _ _ _ _ _=>a|_=>{ posonlyargs:=[],args:=[],vararg:=M,kwonlyargs:=[],kw_defaults:=[],kwarg:=M,defaults:=[] }
noncomputable def fI(s:cH):!cH:=match s with
 |.FunctionDef _ _ b _ _ _ _ _ _ _=>b|_=>[]
noncomputable def bu(s:cH):Scope:=match s with
 |.FunctionDef _ _ _ _ _ _ a _ _ _=>a|_=>{ kind :=.function,names:=[],isGenerator:=Z_,isCoroutine:=Z_ }
abbrev fx:Zx:=λa a a a a a=>False
abbrev E0:XK:=λa a a=>False
def lP{X:Cx}:rA fx X E0:=λa a a a a a a h=>h.elim
structure fX(K:aV)(x qual:aP)(st:cH)(f:aH)(fd:dt):Prop where
 ex:∃(oc:au) (od:↑aH) (kV WZ pm:au) (an:↑aH) (Zk ct:au) (osl:Array<|↑au),
  fd=fnOf x qual (nB st) (fI st) (bu st) .none kV WZ pm an Zk ct/\K.lookup f=some (oc,od,.func fd,osl)/\codeIn K Zk qual=true
 kp:BK K (.ref f)=true
section
variable {P:bh}{K:aV}
def fX.ok{st:cH}{f:aH}(F:fX K x c st f I)(S:ji N q<|bu st)(m:∀g H Q E,sp g H Q E->g.length=q.length) (l:∀(e:au) (A:gM) (b:!Env) (s:aA) (H:Hp) (g:!V) (Q:VK) (E:XK),d7 k (A.deeper<|oY c (bu st) s.heap.objs.size f e)->sp g H Q E ->
   ∃t,nY (wR fx P w K i base N c (bu st) f e A b s H E).NY (fI st) t/\t { nx:=λ_ H'=>Q .dC H',rt:=Q } (start N g) H):b9 P w K i base fx (k+1) f I q sp:=by
 let(d,D,R,v,C,X,e,T,r,rfl,lk,p):=F.ex;refine ab0 lk p S m λA b s H g Q E u o =>?_
 let(t,h,a):=l e A b s H g Q E u o;exact(t,h.NY,a)
def fX.binds{st:cH}{f:aH}(F:fX K x a st f I)(h:∀(k b g:au) (m:↑aH) (c l:au) (e:!au),e.length=q.length->bindArgs (fnOf x a (nB st) (fI st) (bu st) .none k b g m c l) (e,[])=c9 (q.zip e)):Binds K I q []:=by
 let(s,r,k,b,g,m,c,l,o,rfl,_):=F.ex;exact .all<|h k b g m c l
def QY{st:cH}{f:aH}{s:au}{m:au}(l:K.lookup f=Y (s,r,.func<|fnOf x a (nB st) (fI st) (bu st) .none m e h p b o,g))(c:codeIn K b a=Z')(k:BK K (.ref f)=Z'):fX K x a st f<|fnOf x a (nB st) (fI st) (bu st) .none m e h p b o:=((s,r,m,e,h,p,b,o,g,W,l,c),k)
end
def Ae(a:d7 k A):A.units+1<qf:=Nat.lt_of_le_of_lt Ż a.units
section
variable {X:Cx}
def pv(i:Nat)(e:@&(X.N[i]?=Y x))(b:autoParam (Zu X.env.scope x) Ű)(c:‹(x==("__debug__" : aP))=false›)(a:‹(x==("__classdict__" : aP))=false›):PE X (.Name x G)<|g9 i:=XQ e b c a
end
def MY{A B:Prop}(h:B):if Z_=Z' then A else B:=by
 trivial
def Bv{A B:Prop}(h:A):if Z'=Z' then A else B:=by
 trivial
def IQ{c A B:Prop}[Decidable c](J:c->A)(z:¬c->B):if c then A else B:=by
 by_cases h:c
 .rw[if_pos h];exact J h
 .rw[if_neg h];exact z h
def a_(H H':Hp):Prop:=∀b o,H b=Y o->H' b=Y o
def a_.refl(H:Hp):a_ H H:=λa a h=>h
def a_.trans{d:Hp}(a:a_ H O)(b:a_ O d):a_ H d:=λc o h=>b c o<|a c o h
def a_.free(e:a_ H H')(h:H' l=Option.none):H l=Option.none:=by
 rcases q:H l with _|o
 .rfl
 rw[e l o q]at h;cases h
def a_.seq{K:aV}{a:aH}(e:a_ H H')(h:lW K H a xs):lW K H' a xs:=by
 obtain(h|⟨o,h⟩)|h:=h
 .exact Ÿ
 .exact .inl<|.inr (o,e _ _ h)
 .exact .inr h
section
variable {P:bh}
def nO.JY(x:nO P w H h)(f:H a=M)(d:iY P w (cU H a o) h a o):nO P w (cU H a o) h:=λb u e=>by
 by_cases k:b=a
 .simp_all [a9]
 .rw[aO k]at e;exact(x b u e).Bk (λc v c q=>q) (λc q=>by rw[aO<|bf q f];exact q) λc l q=>by rw[aO<|bf q f];exact q
def nO.CY(x:nO P w (cU H a<|.lst d) h)(m:H a=M):nO P w H h:=λb u e=>by
 let n:=bf e m;have k:∀c v,cU H a (.lst d) c=Y v->v ≠ .lst d->H c=Y v:=λc v q l=>by
  by_cases f:c=a
  .subst f;rw[a9]at q;cases q<;>trivial
  simp_all [aO]
 exact(x b u<|by simp_all [aO]).Bk (λc v g q=>q) (λc q=>k c _ q Ż) λc i q=>k c _ q Ż
end
noncomputable def lobj(g:!au)(n:Nat):Obj:={ cls :=.type "list",data :=.seq g.toArray n }
section
variable {X:Cx}{s:aA}{D:aH}
def Inv.JY(I:Inv X (j++[(D,lobj g n)]) t H s)(r:cf i g)(A:i.length<=a7)(E:X.s₀.heap.objs.size<=D)(B:∀p∈X.pn++j,p.1≠D):Inv X j t (cU H D<|.lst i) s:=by
 let(e,d,C,_):=I.pin (D,lobj g n) ż;let f:∀b o,X.s₀.heap.get? b=Y o->b≠D:=λb o q z=>by
  let l:=aQ q
  lia
 refine(I.ok,I.os,I.bare,(I.base.keep,I.base.slot,λb o q m x =>?_,I.base.there,λb k q =>?_,λb o u q =>?_,λb w q =>?_),I.loc,I.cell,?_,λx c q =>?_,λp q =>?_,I.gf.JY d (A,g,n,r,e),I.len)
 .rw[aO<|f b o q];exact I.base.free b o q m x
 .have:=I.base.EY b k q;rw[aO<|bf this d];exact this
 .have:=I.base.DX b o u q;rw[aO<|bf this d];exact this
 .let(a,this):=I.base.E8 b w q;exact(a,by rw[aO<|bf this d];exact this)
 .rw[aO<|bw C];exact I.free
 .let y:c≠D:=λz=>by
   let(v,L,h,F):=I.cell x c q
   simp_all
  rw[aO y];exact I.oJ x c q
 .let(K,J,G):=I.pin p (by rw[<- bF];exact aS _ q);exact(K,by rw[aO<|B p q];exact J,G)
def Inv.CY(I:Inv X j t (cU H D<|.lst i) s)(h:H D=M)(B:D≠X.env.locals)(C:D∉X.fs):∃g n,cf i g/\i.length<=a7/\Inv X (j++[(D,lobj g n)]) t H s:=by
 let(A,g,n,r,e):=I.gf D _ a9;have k:∀c v,cU H D (.lst i) c=Y v->v ≠ .lst i->H c=Y v:=λc v q y=>by
  by_cases d:c=D
  .subst d;rw[a9]at q;cases q<;>solve_by_elim
  .rwa [aO d]at q
 let f:∀c,cU H D (.lst i) c=M->H c=none:=λc q=>by grind [aO]
 refine(g,n,r,A,I.ok,I.os,I.bare,(I.base.keep,I.base.slot,λb o q m x=>f _<|I.base.free b o q m x,I.base.there,λb l q=>k _ _ (I.base.EY b l q) ż,λb o u q=>k _ _ (I.base.DX b o u q) ż,λb w q =>?_),I.loc,I.cell,f _ I.free,λx c q=>f _<|I.oJ x c q,λp q =>?_,I.gf.CY h,I.len)
 .obtain _:=I.base.E8 b w q
  grind
 .rw[<- bF]at q;obtain q|q:=aD.mp q
  .let(G,F,E):=I.pin p q;exact(G,f _ F,E)
  simp_all [lobj]
end
theorem g8:∀a n Hm,d5 n a Hm=d5 n a []++Hm
 |[],n,Hm=>rfl| (x,k)::r,n,Hm=>by
  unfold d5;split
  .rw[g8 r _ _,g8 r _ [(x,n)],bF];rfl
  .exact g8 r n Hm
theorem jT:∀a n b x c,(x,c)∈d5 n a b->(x,c)∈b\/(x,HA)∈a
 |[],n,b,x,c,h =>.inl h| (y,k)::r,n,b,x,c,h=>by
  unfold d5 at h;split at h
  .obtain q|q:=jT r _ _ x c h
   .grind
   .exact .inr<|ay _ q
  .obtain q|q:=jT r _ _ x c h<;>simp_all
noncomputable def mM(a:!(aP×aH)):!(aP×ZG)->!(aP×aH)->!(aP×aH)
 |[],b=>b|(x,k)::r,b=>if k == .free then mM a r ((x,(a.lookup x).getD 0)::b) else mM a r b
theorem q7{env}(f)
  (hf:∀name kind cs,f (name,kind) cs=if kind == .free then (do let a <- cellOf env name;c9<|.yield<|(name,a)::cs) else c9 (.yield cs)) :
  ∀names Hm,(∀y∈names,y.2=.free->∃c,env.cells.lookup y.1=Y c)->(forIn names Hm f:Sem _)=c9 (mM env.cells names Hm)
 |[],Hm,_=>by solve_by_elim
 | (x,k)::r,Hm,h=>by
  rw[List.forIn_cons,hf];unfold mM;cases hk:k==p_ with
  |false=>exact q7 f hf r Hm λy hy=>h y Ÿ
  |true=>
   let(c,e):=h _ az Ż;let e2:cellOf env x=c9 c:=by unfold cellOf;rw[e]
   rw[e2,e];exact q7 f hf r _ λy hy=>h y<|ay _ hy
def BH{env}(h:∀y∈a.names,y.2=.free->∃c,env.cells.lookup y.1=Y c):closureFor a env=c9 (mM env.cells a.names []):=by
 simp only[closureFor];rw[q7 _ λname b d=>by simp_all _ [] h];rfl
theorem wU:∀ {a:!(aP×ZG)}{d:!(aP×aH)}{x:aP}{c:aH},(x,c)∈mM b a d->(x,c)∈d\/((x,p_)∈a/\c=(b.lookup x).getD 0)
 |[],d,x,c,h =>.inl h| (y,k)::r,d,x,c,h=>by
  unfold mM at h;split at h
  .obtain q|q:=wU h
   .grind
   simp_all
  .obtain q|q:=wU h<;>simp_all
theorem uk:∀ {b:!(aP×ZG)}{a:!(aP×aH)}{x:aP},(∃c,(x,c)∈a)->∃c,(x,c)∈mM d b a
 |[],a,x,h=>h| (y,k)::r,a,x,(c,h)=>by
  unfold mM;split
  .exact uk (c,ay _ h)
  .exact uk (c,h)
theorem wV{cells:!(aP×aH)}:∀ {a:!(aP×ZG)}{Hm:!(aP×aH)}{x:aP},(x,p_)∈a->∃c,(x,c)∈mM cells a Hm
 | (y,k)::r,Hm,x,h=>by
  unfold mM;obtain e|h:=aG.mp h
  .simp_all [uk,az]
  .split
   .exact wV h
   .exact wV h
theorem sI:∀ {l:!(aP×a)}{x:aP}{c:a},(x,c)∈l->∃d,l.lookup x=Y d
 | (y,v)::r,x,c,h=>by
  rw[eO];cases b:x==y with
  |true=>solve_by_elim|false=>
   obtain e|h:=aG.mp h
   .simp_all
   .exact sI h
theorem tT:∀ {l r:!(aP×a)}{x:aP},(l++r).lookup x=(l.lookup x).or (r.lookup x)
 |[],r,x=>by simp
 |(y,v)::l,r,x=>by grind
theorem mG{a:Env}:∀ {b:!(aP×ZG)}{x:aP},(b.map λ(n,k)=>if (k==p_&&a.scope.kind == .function&&a.kindOf n==Y .cell) then (n,HA) else (n,k)).lookup x =
  (b.lookup x).map λk=>if (k==p_&&a.scope.kind == .function&&a.kindOf x==Y .cell) then HA else k
 |[],_=>rfl|(n,k)::r,x=>by show List.lookup x ((if _ then (n,_) else (n,k))::_)=_;split<;>rw[eO,eO]<;>cases e:x==n<;>first|exact mG|(cases eq_of_beq e;simp_all)
def oB{a b:Nat}(h:a<b):a<b:=h
def abm{b:Nat}(h:a<=b):a<=b:=h
def Ca{a b:Nat}(h:a=b):a=b:=h
abbrev mN(X:Cx)(f:Scope)(C:aH):Env:=
 { scope:=relabel f X.env,locals:=C,globals:=X.env.globals,cells:=d5 (C+1) f.names<|mM X.env.cells f.names [],qual:=X.env.qual,func:=M,code:=X.env.code,frame:=X.env.frame,builtins:=X.env.builtins }
def Cx.p8(X:Cx)(N:!aP)(f:Scope)(C:aH)(s:aA)(H:Hp)(a:!aH):Cx:=
 { X with N:=N,s₀:=s,H₀:=H,env:=mN X f C,outer:=X.stack,stack:=X.stack,ex:=a,fn:=λx=>f.names.lookup x==Y .cell,pn:=[],xe:=λb b=>False }
noncomputable def nJ(t:!(↑Nat))(w:St):St:=t.map λo=>match o with|some j=>(w[j]?).getD M|none=>M
structure dA(X:Cx)(N:!aP)(src:!(↑Nat))(scope:Scope):Prop where
 kind:scope.kind=.function
 uniq:∀y∈scope.names,scope.names.lookup y.1=some y.2
 free:∀y∈scope.names,y.2=.free->X.env.scope.names.lookup y.1=some .cell\/X.env.scope.names.lookup y.1=some .free
 len:src.length=N.length
 abY:∀(i j:Nat) (x:aP),src[i]?=some (some j)->N[i]?=some x->X.N[j]?=some x/\scope.names.lookup x=some .free
section
variable {X:Cx}{s:aA}{f:Scope}
def IB{d} (l:∀c,(∀b o,s.heap.get? b=Y o->c.get? b=Y o)->c.Ns s.heap.objs.size (λg=>M)->CellsOk c (s.heap.objs.size+1) (d5 (s.heap.objs.size+1) f.names []) ->
   Q { scope:=f,locals:=s.heap.objs.size,globals:=X.env.globals,cells:=d5 (s.heap.objs.size+1) f.names j,qual:=X.env.qual,func:=M,code:=X.env.code,frame:=X.env.frame,builtins:=X.env.builtins } { s with heap:=c }) :
  bz d A (newFunctionEnv f X.env.globals j [] X.env.qual M .none<|Y X.env) Q E s:=by
 refine aB<|wpAny_alloc ?_;refine aB (wpAny_layCells _ λname a h=>by simp_all _ _ _ _ ?_);let i:=cellsFrom_ok f.names (s.heap.push { cls :=.type "dict",data :=.dict #[] }) (s.heap.objs.size+1) [] (λg g k=>(nomatch k),List.Pairwise.nil) Ż;rw[gL]at i;rw[gL ..];exact aB<|bD<|bD<|l _ (λb o e=>pushCells_keeps _ _ b o<|ao _ e) ((Heap.Ns.new _ _).keeps<|pushCells_keeps _ _) i
theorem kY(S:dA X N t f)(i:X.Ok)(h:(mN X f C).cells.lookup x=Y c):
  (f.names.lookup x=Y .cell/\(x,c)∈d5 (C+1) f.names [])\/(f.names.lookup x=Y .free/\X.env.cells.lookup x=Y c):=by
 let h:(d5 _ _ _).lookup x=Y c:=h;rw[g8,tT]at h;cases e:(d5 _ _ []).lookup x with
 |some d=>
  rw[e]at h;have:=by simpa using h
  subst this;let q:=PySem.mem_of_lookup e;obtain z|z:=jT _ _ _ _ _ q
  .simp at z
  .exact .inl (S.uniq _ z,q)
 |none=>
  rw[e]at h;obtain z|⟨z,a⟩:=wU<|PySem.mem_of_lookup h
  .simp at z
  .let(d,b):=i.has x<|S.free _ z W;exact .inr (S.uniq _ z,Ż)
def VC(S:dA X N t f)(h:f.names.lookup x=Y .cell):∃c,(mN X f C).cells.lookup x=Y c:=by
 let(c,e):=AM h;refine(c,?_);show (d5 _ _ _).lookup x=Y c;rw[g8,tT,e];rfl
def G9(S:dA X N t f)(a:X.Ok){C}(h:f.names.lookup x=Y .free):∃c,(mN X f C).cells.lookup x=Y c/\X.env.cells.lookup x=Y c:=by
 let(d,i):=wV<|PySem.mem_of_lookup h;let(c,j):=sI i;have e:=by
  show (d5 (C+1) f.names<|mM X.env.cells f.names []).lookup x=Y c;rw[g8,tT];rcases e:(d5 _ _ []).lookup x with _|d
  .simpa using j
  obtain z|z:=jT _ _ _ _ _<|PySem.mem_of_lookup e
  .simp at z
  .have:=S.uniq _ z
   simp_all
 obtain _|_:=kY S a e
 .simp_all
 simp_all
def G8(x:aP):(mN X f C).kindOf x=(f.names.lookup x).map λk=>if (k==p_&&X.env.scope.kind == .function&&X.env.kindOf x==Y .cell) then HA else k:=by
 exact mG
def Fj{i:Nat}{v}(h:(nJ t w)[i]?=Y (Y v)):∃j,t[i]?=Y (Y j)/\w[j]?=Y (Y v):=by
 unfold nJ at h;rw[aK]at h;let(o,e,h):=aj.1 h;rw[e];cases o with
 |none=>cases h|some j=>
  refine(j,W,?_);let h:=by simpa using h
  rcases q:w[j]? with _|z<;>simp_all
def Ny{ex:!aH}{h'}{D C}{o}(S:dA X N t f)(I:Inv X B w H g)(J:∀b∈ex,AU X B H b)(P:∀b∈ex,∃o,g.heap.get? b=Y o)
  (hD:D=g.heap.objs.size) (hC:C=g.heap.objs.size+1) (G:∀b o,g.heap.get? b=Y o->h'.get? b=Y o) (T:h'.get? D=Y o) (R:∀v,o.data ≠ .cell v)
  (Q:h'.Ns C<|λ_=>M) (E:CellsOk h' (C+1)<|d5 (C+1) f.names []) :
  Inv (X.p8 N f C g H ex) (X.pn++B++[(D,o)]) (nJ t w) H { g with heap:=h' }:=by
 let lt:∀ {b:Nat}{o:Obj},g.heap.get? b=Y o->b<g.heap.objs.size:=λe=>aQ e
 have fr:∀a:Nat,g.heap.objs.size<=a->H a=none:=λa h=>I.gf.fresh h
 have A:∀(x:aP) (c:Nat),X.env.cells.lookup x=Y c->c<g.heap.objs.size:=λx c e=>by let(v,z):=I.cell x c e;exact z.lt
 have d:∀ {x:aP}{c:Nat},(x,c)∈d5 (C+1) f.names []->C+1<=c:=λq=>(E.empty _ _ q).2
 refine((I.mod,S.kind,I.ok.glob,I.ok.blt,?_,?_,?_,?_,I.ok.hd,I.ok.frames,.inl W,?_,I.bs,?_,?_,?_,I.stack,I.J0),W,I.bare,Un.kept G,(_,Q,?_),?_,?_,?_,?_,I.gf.kept G,?_)
 .show g.heap.objs.size<=C
  simp_all
 .intro x y c s U;obtain⟨_,a⟩|⟨_,a⟩:=kY S I.ok s<;>obtain⟨_,b⟩|⟨_,b⟩:=kY S I.ok U
  .exact name_of_addr E.apart a b
  .have:C+1<=(c:Nat):=d a;have:=oB<|A _ _ b;lia
  .have:C+1<=(c:Nat):=d b;have:=oB<|A _ _ a;lia
  .exact I.ok.inj x y c a b
 .intro x n;let n:(mN X f C).kindOf x=Y .cell\/(mN X f C).kindOf x=Y .free:=n;rw[G8]at n;rcases e:f.names.lookup x with _|k
  .rw[e]at n;obtain z|z:=n<;>cases z
  cases k with
  |cell=>exact VC S e|free=>let(c,q,_):=G9 S I.ok e;exact(c,q)
  |_=>rw[e]at n;exfalso;revert n;simp
 .intro x c n s;let n:f.names.lookup x=Y .cell:=by have:(f.names.lookup x==Y .cell)=true:=n;simpa using this
  show g.heap.objs.size<=c;obtain⟨_,a⟩|⟨z,_⟩:=kY S I.ok s<;>grind
 .intro b F;let(L,e):=P b F;let l:=oB<|lt e;refine(λz =>?_,λx c s z =>?_)
  .let z:=Ca (a:=b) (b:=C) z
   lia
  .subst z;obtain⟨_,a⟩|⟨_,a⟩:=kY S I.ok s
   .have:C+1<=(c:Nat):=d a
    lia
   .exact(J c F).2.2.2.2.1 x c a W
 .show X.base.objs.size<=g.heap.objs.size;have:=I.ok.VB;have:=I.sz;omega
 .intro b L e F;rcases(J b F).2.2.2.1 with z|z
  .exact I.ok.PU b L e z
  .let e:X.base.get? b=Y L:=e;let a:=oB<|aQ e;have:=I.ok.VB;let z:X.s₀.heap.objs.size<=(b:Nat):=z
   lia
 .intro b F;intro z;let z:b∈EL X.stack:=z;obtain q|q:=aG.mp (I.tm b z)
  .exact(J b F).2.1 q
  .exact(J b F).2.2.1 q
 .intro i x v s U h3;let(j,e1,e2):=Fj U;let(e3,e4):=S.abY i j x e1 s;let(m,hm,hl):=I.loc;let Da:=S.free _ (PySem.mem_of_lookup e4) W;let K:Zu X.env.scope x :=.inr Da;let(u,r,lk):=hl j x v e3 e2 K;refine(u,r,?_);obtain⟨z,_⟩|⟨_,c,ec,cc⟩:=lk
  .exfalso;let z:X.env.scope.names.lookup x=Y .local:=z;rw[z]at Da;obtain q|q:=Da<;>cases q
  .let(c',q1,q2):=G9 (C:=C) S I.ok e4;rw[ec]at q2;cases q2;refine .inr (?_,c,q1,cc.keeps G);show (mN X f C).kindOf x=Y .cell\/(mN X f C).kindOf x=Y .free;rw[G8,e4,cE];split<;>trivial
 .intro x c s;obtain⟨_,a⟩|⟨_,a⟩:=kY S I.ok s
  .exact(M,(E.empty _ _ a).1)
  .let(v,z):=I.cell x c a;exact(v,z.keeps G)
 .exact fr C Ž
 .intro x c s;obtain⟨_,a⟩|⟨_,a⟩:=kY S I.ok s
  .have:C+1<=(c:Nat):=d a;exact fr c Ž
  .exact I.oJ x c a
 .intro p O;have O:p∈X.pn++B++[(D,o)]:=by simpa [Cx.p8] using O
  obtain q|q:=aD.mp O
  .let(a1,a2,a3,a4,a5):=I.pin p q;refine(G _ _ a1,a2,λz =>?_,λz =>?_,a5)
   .let z:=Ca (a:=p.1) (b:=C) z;let q:=oB (lt a1)
    lia
   .let z:p.1∈EL X.stack:=z;obtain q|q:=aG.mp<|I.tm _ z<;>trivial
  .have:p=(D,o):=by simpa using q
   subst this;refine(T,fr D Ż,λz =>?_,λz =>?_,R)
   .let z:D=C:=z
    simp_all
   .let z:D∈EL X.stack:=z;obtain q|q:=aG.mp (I.tm _ z)
    .let l:=oB I.lt
     simp_all
    .exact I.Yc (show g.heap.objs.size<=D by lia) q
 .show (nJ t w).length=N.length;unfold nJ;rw[ar];exact S.len
end
section
variable {R:Result->aA->Prop}{s:aA}
theorem Ee{f}(I:Nat->aA->Prop) (j_:∀n s,I n s->bz (bj E w) A (pyNext J) (λr i=>match r with
   |none=>R (.ok .next) i| some v=>bz (bj E w) A (VU b J v) (λa g=>bz (bj E w) A (assign b d v) (λa p=>
     bz (bj E w) A (forIn B Z' λc r=>if r=Z' then do let C <- isTrue c d (eval c d);c9<|vO C else c9 (vO r)) (λC e=>
      if C=Z' then bz (bj E w) A (eval L d) (λx o=>bz (bj E w) A (call (.builtin "list.append") [z,x]) (λa k=>∃m,m<n/\I m k) (λa a=>False) o) (λa a=>False) e
      else ∃m,m<n/\I m e) (λa a=>False) p) (λa a=>False) g) (λa a=>False) i) (λa a=>False) s) (n) (h:I n s) :
  A3 (bj E w) A (.compLoop (.ListComp L [(b,G,B,0)] f U) 0 J z d) R s:=by
 refine codeAny_loop W I (λn s K =>?_) n h;refine wpAny_noted ?_;rw[compTurn_list];refine aB<|wpAny_standAt<|aB<|fU (j_ n s K) (λr i t =>?_) λa a j=>j.elim;cases r with
 |none=>solve_by_elim|some v=>
  refine aB<|fU t (λa g y=>aB<|fU y (λa p H=>aB<|fU H (λC e q =>?_) λa a j=>j.elim) λa a j=>j.elim) λa a j=>j.elim;cases C with
  |false=>exact bD (W,q)|true=>exact aB<|aB<|fU q (λx o F=>aB<|fU F (λa k D=>bD<|bD (W,D)) λa a j=>j.elim) λa a j=>j.elim
end
def R9(Z:!Nat)(g:TG):Prop:=∀x c H Q,g x c H Q->g x c H λb d=>(b.length=c.length/\∀i,i∉Z->b[i]?=c[i]?)/\Q b d
def jh(i:Nat):R9 [i]<|ny i:=λx c H Q h=>(ŷ,h)
def Ht(X:Cx)(B:!Expr)(t:TT):Prop:=
 ∀(b:!(aH×Obj)) (s:aA) (d:St) (H:Hp) (Q:Bool->Hp->Prop),Inv X b d H s->t d H Q ->
  bz (bj X.prog X.w) X.A (forIn B Z' λc r=>if r=Z' then do let e <- isTrue c X.env (eval c X.env);c9<|vO e else c9 (vO r)) (TP X b d Q) X.xe s
def aaC:TT:=λ_ H Q=>Q Z' H
section
variable {X:Cx}
def TU:Ht X [] aaC:=λb s c H Q I h=>wpAny_tests_nil (H,I,h)
def TQ(h:PT X c t):Ht X [c] t:=λb s d H Q I q=>wpAny_tests_one<|h b s d H Q I q
end
def Xg(l:TI)(src:!(↑Nat))(g:TG)(u:TT)(O:TE):TE:=λk H Q=>l k H λJ r=>∃Da:Nat->Nat->!V->Hp->Prop,(∃m,Da 0 m [] r)/\∀i m e H,Da i m e H ->
 (J.stop i H/\∀D,H D=M->Q (.ref D) (cU H D<|.lst e)) \/
 (J.go i H/\e.length<a7/\∃j:!V->Hp->Prop,(∀d h,j d h->∃n,n<m/\Da (i+1) n d h)/\∀x h,J.JP i H x h ->
  g x (nJ src k) h λc q=>u c q λb o=>if b=Z' then O c o λv p=>j (e++[v]) p else j e o)
section
variable {X:Cx}{f:Scope}
def Cz{s:aA}{F:!(aH×Obj)}{RR:au->aH->Result->aA->Prop}(S:dA X N src f)(hc:X.calm=Z')(hi:PI X a G l)(ag:R9 Z g)(ho:∀i∈Z,src[i]?=Y M)(E:∀C s H ex,PG (X.p8 N f C s H ex) a g/\Ht (X.p8 N f C s H ex) B u/\PE (X.p8 N f C s H ex) L O)(I:Inv X F σ H s)(h:Xg l src g u O σ H Q) (hRR:∀(D C:aH) (s':aA) (H':Hp),Inv X F σ H' s'->(∃m,s'.heap.Ns C m)->H' C=M->C≠X.env.locals->(C∈X.ex\/X.s₀.heap.objs.size<=C)->(∀x c,X.env.cells.lookup x=Y c->c≠C)->(∀p∈X.pn++F,p.1≠C) ->
   Q (.ref D) H'->RR (.ref D) C (.ok .next) s') :
  bz (bj X.prog X.w) X.A (eval G X.env) (λx s₁=>bz (bj X.prog X.w) X.A (pyIter x) (λit s₂=>bz (bj X.prog X.w) X.A (newList []) (λHm s₃=>
   bz (bj X.prog X.w) X.A (newFunctionEnv f X.env.globals (mM X.env.cells f.names []) [] X.env.qual M .none<|Y X.env) (λacv s₄=>
    A3 (bj X.prog X.w) X.A (.compStart (.ListComp L [(a,G,B,0)] f U) 0 it Hm { acv with scope:=relabel f X.env }) (RR Hm acv.locals) s₄) X.xe s₃) X.xe s₂) X.xe s₁) X.xe s:=by
 refine eP (hi F s σ H _ I h) λv s1 h1=>eP h1 λitv A h2 =>?_
 obtain⟨it,fp,tn,J,H2,e,I2,T,Xl,f2,Da,⟨m0,w0⟩,j_⟩:=h2;subst e;refine wpAny_newObj_type ?_;generalize hs3:A.heap.push _=h3;have sz3:h3.objs.size=A.heap.objs.size+1:=by rw[<- hs3,gL]
 let k3:∀b o,A.heap.get? b=Y o->h3.get? b=Y o:=λb o e=>hs3 ▸ ao _ e
 let d3:h3.get? A.heap.objs.size=Y (lobj [] 0):=hs3 ▸ br _ W;refine IB (X:=X) λh4 k4 ns4 cs4 =>?_
 rw[sz3]at ns4 cs4 ⊢;let k4':=λb o e=>k4 b o<|k3 b o e
 have fob:∀b∈fp,∃o,A.heap.get? b=Y o:=λb E=>by let(o,e,_):=T.obj _ _ Xl b E;exact(o,e)
 let I4:=Ny (ex:=fp) (h':=h4) (D:=A.heap.objs.size) (C:=A.heap.objs.size+1) (o:=lobj [] 0) S I2 f2 fob W W k4' (k4 _ _ d3) (λv z=>by cases z) ns4 cs4;let I4:=I4;generalize hX:X.p8 N f (A.heap.objs.size+1) A H2 fp=P at I4;let(pg,pt,pe):=E (A.heap.objs.size+1) A H2 fp;rw[hX]at pg pt pe;have K:P.prog=X.prog:=by rw[<- hX];rfl
 have ew:P.w=X.w:=by rw[<- hX];rfl
 have eK:P.K=X.K:=by rw[<- hX];rfl
 have eA:P.A=X.A:=by rw[<- hX];rfl
 have WN:P.calm=true:=by rw[<- hX];exact hc
 have exe:P.xe=λV V=>False:=by rw[<- hX];rfl
 have Rh:P.env=mN X f (A.heap.objs.size+1):=by rw[<- hX];rfl
 have Y2:P.pn=[]:=by rw[<- hX];rfl
 have es0:P.s₀=A:=by rw[<- hX];rfl
 let eH0:P.H₀=H2:=by rw[<- hX];rfl
 have eex:P.ex=fp:=by rw[<- hX];rfl
 have efs:P.fs=EL X.stack:=by rw[<- hX];rfl
 have hCl:P.env.locals=A.heap.objs.size+1:=by rw[Rh]
 let hDC:A.heap.objs.size≠P.env.locals:=by rw[hCl];exact bI<|mY _
 let hDF:A.heap.objs.size∉P.fs:=by
  rw[efs];intro z;obtain q|q:=aG.mp<|I2.tm _ z
  .exact absurd (Ca q)<|j2<|oB I2.lt
  .exact I2.Yc (aF _) q
 have hpD:∀p∈P.pn++(X.pn++F),p.1≠A.heap.objs.size:=λp hp=>by rw[Y2,dB]at hp;exact bI<|oB<|aQ (I2.pin p hp).1
 have fpD:∀b∈fp,b≠A.heap.objs.size:=λb E=>by let(o,e):=fob b E;exact bI<|oB<|aQ e
 have HY:∀ {P':!(aH×Obj)}{H':Hp},(∀p∈P',p∈X.pn++F\/p.1=A.heap.objs.size)->(∀b∈fp,H' b=M)->∀b∈fp,AU P P' H' b:=fun {P' H'} hP hn b E=>by
  let(a1,a2,a3,a4,a5,a6):=f2 b E;let(o,e):=fob b E;let w:=oB<|aQ e;refine(hn b E,?_,?_,.inl (by rw[eex];exact E),λx c q z =>?_,λp hp z =>?_)
  .rw[hCl];exact bI<|Nat.lt_succ_of_lt w
  .rw[efs];intro z;obtain q|q:=aG.mp (I2.tm b z)
   .exact a2 q
   .exact a3 q
  .subst z;rw[Rh]at q;obtain⟨_,r⟩|⟨_,r⟩:=kY S I2.ok q
   .have:=abm (cs4.empty _ _ r).2
    lia
   .exact a5 x c r W
  .rw[Y2,dB]at hp;obtain q|q:=hP p hp
   .exact a6 p q z
   .exact fpD b E<|z.symm.trans q
 have acY:A3 (bj X.prog X.w) X.A (.compLoop (.ListComp L [(a,G,B,0)] f U) 0 (.ref it) (.ref A.heap.objs.size)<|mN X f<|A.heap.objs.size+1) (RR (.ref A.heap.objs.size)<|A.heap.objs.size+1) { A with heap:=h4 }:=by
  refine Ee (λn s'=>∃i ys R nn H',Inv P (X.pn++F++[(A.heap.objs.size,lobj R nn)]) (nJ src σ) H' s'/\cf ys R/\ys.length<=a7/\tn i s'.heap/\(∀b∈fp,H' b=M)/\Da i n ys H') ?_ m0
   (0,[],[],0,H2,I4,.nil,cZ _,T.keep _ _ _ Xl<|λb V o e=>k4' b o e,λb E=>(f2 b E).1,w0)
  refine λn s5 xx=>ae λkk =>?_
  let(i,ys,R,nn,H5,I5,r5,z5,ZY,Z9,w5):=xx;refine kk ?_;have pok:∀p∈X.pn++F++[(A.heap.objs.size,lobj R nn)],p∈X.pn++F\/p.1=A.heap.objs.size:=λp hp=>by
   obtain q|q:=aD.mp hp
   .exact .inl q
   .exact .inr Ż
  obtain⟨stop,qn⟩|⟨go,lt5,Nx,hN,step⟩:=j_ i n ys H5 w5
  .let d:=T.done P K ew eK WN i _ s5 (nJ src σ) H5 (λV V=>False) I5 (HY pok Z9) ZY stop;rw[eA]at d;refine eP d λr s6 hr6 =>?_
   let(hr,I6):=hr6;subst hr;have I6':=I6.JY r5 z5 (by rw[es0];exact aF _) hpD;let hD5:H5 A.heap.objs.size=none:=(I6.pin (A.heap.objs.size,lobj R nn) ż).2.1;let Un6:=I6'.base;rw[efs,eex,eH0,es0]at Un6;let os6:=I6'.os;rw[es0]at os6;let abI:=I6'.gf;rw[K,ew]at abI;let J6:=I2.Lu os6 Un6 abI I6'.bare λb E=>((f2 b E).2.2.2.1,(f2 b E).2.1,(f2 b E).2.2.2.2.1,(f2 b E).2.2.2.2.2)
   let(m,hm,_):=I6'.loc;rw[hCl]at hm;let fC:=I6'.free;rw[hCl]at fC;refine hRR _ _ s6 _ J6 (m,hm) fC ?_ (.inr ?_) ?_ ?_<|qn _ hD5
   .exact λz=>absurd (Ca z)<|j2<|Nat.lt_succ_of_lt<|oB I2.lt
   .exact Nat.le_succ_of_le I2.sz
   .intro x c q z;let(v,cc):=I2.cell x c q;have:=oB cc.lt;let z:=Ca z
    lia
   .intro p hp z;have:=oB<|aQ (I2.pin p hp).1;let z:=Ca z
    lia
  .let d:=T.item P K ew eK WN i _ s5 (nJ src σ) H5 (λV V=>False) I5 (HY pok Z9) ZY go;rw[eA]at d;refine eP d λr s6 hr6 =>?_
   let(t,hr,h6):=hr6;subst hr;refine eP h6 λV s7 h7 =>?_
   let(x,H7,I7,r7,y7,st7,fr7):=h7;let I7':=I7.pinned (HY pok fr7)<|T.obj _ _ st7;let g7:=pg _ s7 (nJ src σ) H7 x t _ I7' r7<|ag _ _ _ _<|step x H7 y7;rw[eA,exe,K,ew,Rh]at g7;refine eP g7 λV s8 h8 =>?_
   obtain⟨σ8,H8,I8,⟨l8,a8⟩,q8⟩:=h8;let t8:=pt _ s8 σ8 H8 _ I8 q8;rw[eA,exe,K,ew,Rh]at t8;refine eP t8 λok s9 h9 =>?_
   let(H9,I9,q9):=h9;have weak:∀ {P':!(aH×Obj)}{H':Hp}{s':aA},Inv P P' σ8 H' s'->Inv P P' (nJ src σ) H' s':=λJ=>J.weak l8.symm λj v hj=>by
    let(k,e1,_):=Fj hj;have:j∉Z:=λz=>by have:=ho j z;rw[e1]at this;cases this
    rw[a8 j this];exact hj
   cases ok with
   |false=>let(m',hm',w9):=hN _ _<|q9;refine(m',hm',i+1,ys,R,nn,H9,(weak I9).mf,r5,z5,T.keep _ _ _ st7 λb E o e=>(I9.pin (b,o)<|aE _<|aE _<|jr E e).1,λb E =>?_,w9);let(o,e,d):=T.obj _ _ st7 b E;exact(I9.pin (b,o)<|aE _<|aE _<|jr E e).2.1
   |true=>
    let e9:=pe _ s9 σ8 H9 _ I9<|q9;rw[eA,exe,K,ew,Rh]at e9;refine eP e9 λxv OW h10 =>?_
    let(y,H10,I10,r10,q10):=h10;have J10:Inv P (X.pn++F++tu fp s7.heap++[(A.heap.objs.size,lobj R nn)]) σ8 H10 OW:=I10.ye λp hp=>by refine I10.pin p ?_;rw[Y2,dB];obtain q|q:=aD.mp hp<;>grind
    let nD:∀p∈P.pn++(X.pn++F++tu fp s7.heap),p.1≠A.heap.objs.size:=λp hp=>by
     rw[Y2,dB]at hp;obtain q|q:=aD.mp hp
     .exact hpD p (by rw[Y2,dB];exact q)
     .exact fpD _ (B_ q).1
    let afy:H10 A.heap.objs.size=none:=(J10.pin (A.heap.objs.size,lobj R nn) ż).2.1;let T10:=J10.JY r5 z5 (by rw[es0];exact aF _) nD;let ap:=iO (X:=P) _ OW σ8 _ (.ref A.heap.objs.size) [y] (.ref A.heap.objs.size) [xv] (λv H'=>v=.dC/\H'=cU (cU H10 A.heap.objs.size<|.lst ys) A.heap.objs.size (.lst<|ys++[y])) T10 W (.cons r10 .nil) (_,ys,y,W,W,a9,lt5,W,W);rw[eA,exe,K,ew]at ap;refine eP ap λV OV h11 =>?_
    let(v11,H11,I11,_,_,e11):=h11;subst e11;rw[S9]at I11;let(Qr,nn',r11,z11,I12):=I11.CY afy hDC hDF;let(m',hm',w11):=hN _ _ q10;let I13:Inv P (X.pn++F++[(A.heap.objs.size,lobj Qr nn')]) (nJ src σ) H10 OV:=(weak I12).ye λp hp=>by
     refine I12.pin p ?_;rw[Y2,dB];obtain q|q:=aD.mp hp
     .exact aS _<|aS _ q
     .exact aE _ q
    have aba:∀b∈fp,∀o,s7.heap.get? b=Y o->OV.heap.get? b=Y o/\H10 b=none:=λb E o e=>by have:=I12.pin (b,o) (by rw[Y2,dB];exact aS _<|aE _<|jr E e);exact(this.1,this.2.1)
    refine(m',hm',i+1,ys++[y],Qr,nn',H10,I13,r11,z11,T.keep _ _ _ st7 λb E o e=>(aba b E o e).1,λb E =>?_,w11);let(o,e,d):=T.obj _ _ st7 b E;exact(aba b E o e).2
 exact codeAny_compStart_list acY<|T.self _ 0 _ _ _ (T.keep _ _ _ Xl λb V o e=>k4' b o e) acY
end
section
variable {X:Cx}{f:!(↑Nat)}
def G_{s}(S:dA X N f c)(I:Inv X a b H s):closureFor c X.env=c9 (mM X.env.cells c.names []):=
 BH λy d e=>I.ok.has y.1<|S.free y d e
def Ke(S:dA X N f c)(P:X.calm=Z')(O:PI X r l w)(ag:R9 B g)(K:∀i∈B,f[i]?=Y M)(p:∀C s H v,PG (X.p8 N c C s H v) r g/\Ht (X.p8 N c C s H v) u j/\PE (X.p8 N c C s H v) t k)(G:autoParam (∀x,bR l X.env x=c9 x) ũ):PE X (.ListComp t [(r,l,u,0)] c A)<|Xg w f g j k:=by
 intro a s z H Q I h;refine wpAny_comprehension_free W G (G_ S I) S.kind λx F y=>by rw[S.uniq x F,y] ?_
 refine Cz S P O ag K p I h ?_;intro D C E H' J n L R h1 U T q;let(m,n):=n;exact(m,n,λh' d=>(.ref D,H',J.turned (λb o p e=>d.extBut b o p e) L R h1 U T,W,q))
def zd{F:Pos}(S:dA X N f c)(hc:X.calm=Z')(hN:X.N.Nodup)(hy:X.N[i]?=Y y)(K:X.env.scope.names.lookup y=Y .local)(hi:PI X r l w)(ag:R9 B g)(ho:∀i∈B,f[i]?=Y M)(Q:∀C s H T,PG (X.p8 N c C s H T) r g/\Ht (X.p8 N c C s H T) u j/\PE (X.p8 N c C s H T) t k)(U:cg (.ListComp t [(r,l,u,0)] c A) (Y<|.Name y F) n.line X.env=c9 Z')(hs:autoParam (∀x,bR l X.env x=c9 x) ũ):
  PS X (.Assign [.Name y F] (.ListComp t [(r,l,u,0)] c A) n) (Xj (Xg w f g j k)<|ny i):=by
 intro p s σ H D I h;rw[exec_Assign_Name_used _ _ _ _ U];refine aB<|wpAny_standAt<|aB ?_;refine aB (fU (wpAny_comprehension_free (use:=Y<|assign (.Name y F) X.env) (Q:=λV E=>SP X p D .next E) W hs (G_ S I) S.kind (λx hx K=>by rw[S.uniq x hx,K])
  (Cz S hc hi ag ho Q I h ?_))
  (λV E hq=>bD<|bD hq) λV V e=>e)
 intro d C E H' J P hn hL h1 h2 h3 q;let(m,P):=P;refine wpAny_assign_Name<|BS J hN hy (.inl K) (v :=.ref d) W (λL J' G =>?_) (.inr K);let(a,sb,ha):=G;let R:C≠a:=by
  obtain z|z:=ha
  .rw[z];exact hL
  .exact λe=>h2 _ _ z e.symm
 exact(m,P.sameBut sb R,λh' O=>(_,H',J'.turned (h':=h') (t':=L.toks) (λb o Q e=>O.extBut b o Q e) hn hL h1 h2 h3,q))
end
inductive Sk where
 |lf
 |li (s:Sk)
 |fs (c:aP) (fk:!(aP×Sk))
 |di
inductive Pt where
 |fld (f:aP)
 |ix (k:Nat)
abbrev CN:=!Pt
inductive D where
 |dC|bl (b:Bool)|int (i:Int)|str (x:aP)|lst (xs:!D)|tup (xs:!D)|kG (ns:!Int)
 |ins (c:aP) (ks:!aP) (ds:!D)
 |i9 (ks:!ju) (ds:!D)
 |obj (s:Sk) (t:D)
 |dY (r:Nat) (p:CN)
mutual
def cS(K:aV)(G:Hp):D->V->Prop
 |.dC,v=>v=.dC|.bl b,v=>v=.bl b|.int i,v=>v=.int i|.str x,v=>v=.str x|.lst e,v=>∃a d,v=.ref a/\G a=Y (.lst d)/\aZ K G e d|.tup e,v=>∃a d,v=.ref a/\G a=Y (.tup d)/\aZ K G e d|.kG g,v=>∃a,v=.ref a/\lW K G a (g.map V.int)|.ins c f e,v=>∃a C h d,v=.ref a/\uw K bc c=Y (Y<|.ref C)/\G a=Y (.ins C h<|f.zip d)/\f.length=e.length/\aZ K G e d
 |.i9 f e,v=>∃a d,v=.ref a/\G a=Y (.dK<|f.zip d)/\f.length=e.length/\aZ K G e d|.obj _ t,v=>cS K G t v|.dY _ _,v=>∃a,v=.ref a
def aZ(K:aV)(G:Hp):!D->!V->Prop
 |[],a=>a=[]|d::b,a=>∃v r,a=v::r/\cS K G d v/\aZ K G b r
end
mutual
theorem cS.mono{K}(s:a_ G G'):∀d {v:V},cS K G d v->cS K G' d v
 |.dC,v,h=>by solve_by_elim
 |.bl _,v,h=>by solve_by_elim
 |.int _,v,h=>by solve_by_elim
 |.str _,v,h=>by solve_by_elim
 |.lst f,v,h=>by let(a,b,e,q,r):=h;exact(a,b,e,s _ _ q,aZ.mono s f r)
 |.tup f,v,h=>by let(a,b,e,q,r):=h;exact(a,b,e,s _ _ q,aZ.mono s f r)
 |.kG j,v,h=>by let(a,e,q):=h;exact(a,e,s.seq q)
 |.ins c g f,v,h=>by let(a,C,i,b,e,n,q,l,r):=h;exact(a,C,i,b,e,n,s _ _ q,l,aZ.mono s f r)
 |.i9 g f,v,h=>by let(a,b,e,q,l,r):=h;exact(a,b,e,s _ _ q,l,aZ.mono s f r)
 |.obj _ t,v,h=>by simp only[cS]at h ⊢;exact cS.mono s t h
 |.dY _ _,v,h=>by solve_by_elim
theorem aZ.mono{K}(s:a_ G G'):∀b {a:!V},aZ K G b a->aZ K G' b a
 |[],a,h=>by solve_by_elim
 |d::b,a,h=>by simp only[aZ]at h ⊢;let(v,r,e,q,t):=h;exact(v,r,e,cS.mono s d q,aZ.mono s b t)
end
section
variable {K:aV}
def gz{v}:cS K G .dC v↔v=.dC:=by trivial
def dO{v}:cS K G (.bl b) v↔v=.bl b:=by trivial
def b8{v}:cS K G (.int i) v↔v=.int i:=by trivial
def dJ{v}:cS K G (.str x) v↔v=.str x:=by trivial
def cu{v}:cS K G (.lst c) v↔∃a b,v=.ref a/\G a=Y (.lst b)/\aZ K G c b:=by trivial
def cQ{v}:cS K G (.tup c) v↔∃a b,v=.ref a/\G a=Y (.tup b)/\aZ K G c b:=by trivial
def Dc{v}:cS K G (.kG b) v↔∃a,v=.ref a/\lW K G a (b.map V.int):=by trivial
def kH{v}:cS K G (.ins c b d) v↔∃a C f e,v=.ref a/\uw K bc c=Y (Y<|.ref C)/\G a=Y (.ins C f<|b.zip e)/\b.length=d.length/\aZ K G d e:=by trivial
def rL{v}:cS K G (.i9 b c) v↔∃a d,v=.ref a/\G a=Y (.dK<|b.zip d)/\b.length=c.length/\aZ K G c d:=by trivial
def m8{s}{v}:cS K G (.obj s t) v↔cS K G t v:=by trivial
def yc{v}:cS K G (.dY r p) v↔∃a,v=.ref a:=by trivial
def cx:aZ K G [] a↔a=[]:=by trivial
def aW:aZ K G (d::b) a↔∃v r,a=v::r/\cS K G d v/\aZ K G b r:=by trivial
def aZ.cons{d}{v}(h:cS K G d v)(t:aZ K G b a):aZ K G (d::b)<|v::a:=aW.mpr (v,a,W,h,t)
def aZ.nil:aZ K G [] []:=cx.mpr W
theorem aZ.length:∀ {ds:!D}{a:!V},aZ K G ds a->ds.length=a.length
 |[],a,h=>by rw[cx.mp h];rfl
 |d::ds,a,h=>by let(v,r,rfl,_,t):=aW.mp h;simp[aZ.length t]
theorem aZ.get:∀ {b:!D}{a:!V}{i:Nat}{d:D},aZ K G b a->b[i]?=Y d->∃v,a[i]?=Y v/\cS K G d v
 |[],a,i,d,h,e=>by simp at e
 | c::b,a,0,d,h,e=>by
  let(v,r,rfl,_):=aW.mp h
  simp_all
 |c::b,a,i+1,d,h,e=>by let(v,r,rfl,q,t):=aW.mp h;let(u,g,f):=aZ.get t (by simpa using e);exact(u,by trivial,f)
theorem aZ.append:∀ {e c:!D}{a b:!V},aZ K G e a->aZ K G c b->aZ K G (e++c) (a++b)
 |[],c,a,b,h,k=>by rw[cx.mp h];exact k
 |d::e,c,a,b,h,k=>by let(v,r,rfl,q,t):=aW.mp h;exact .cons q<|aZ.append t k
theorem aZ.take:∀ {b:!D}{a:!V}(n:Nat),aZ K G b a->aZ K G (b.take n) (a.take n)
 |[],a,n,h=>by rw[cx.mp h];simp;exact .nil
 |d::b,a,0,h=>by solve_by_elim
 |d::b,a,n+1,h=>by let(v,r,rfl,q,t):=aW.mp h;exact .cons q<|aZ.take n t
theorem aZ.drop:∀ {ds:!D}{a:!V}(n:Nat),aZ K G ds a->aZ K G (ds.drop n) (a.drop n)
 |[],a,n,h=>by rw[cx.mp h];simp;exact .nil
 |d::ds,a,0,h=>by simpa using h
 |d::ds,a,n+1,h=>by let(v,r,rfl,q,t):=aW.mp h;exact aZ.drop n t
theorem aZ.set:∀ {b:!D}{a:!V}{d:D}{v:V}(n:Nat),aZ K G b a->cS K G d v->aZ K G (b.set n d) (a.set n v)
 |[],a,d,v,n,h,q=>by rw[cx.mp h];exact Ÿ
 |c::b,a,d,v,0,h,q=>by let(u,r,rfl,_,t):=aW.mp h;exact .cons q t
 |c::b,a,d,v,n+1,h,q=>by let(u,r,rfl,p,t):=aW.mp h;exact .cons p<|aZ.set n t q
def aZ.dropLast(h:aZ K G b a):aZ K G b.dropLast a.dropLast:=by
 rw[w_,w_,h.length];exact h.take _
theorem aZ.rep(h:aZ K G b a):∀k,aZ K G (bC k b).flatten (bC k a).flatten
 |0 =>.nil|k+1=>by exact h.append<|aZ.rep h k
theorem aZ.ints:∀(a:!Int),aZ K G (a.map D.int) (a.map V.int)
 |[] =>.nil|n::a =>.cons (b8.mpr W)<|aZ.ints a
end
structure fT(G H G' H':Hp):Prop where
 hh:a_ H H'
 gg:a_ G G'
 gh:a_ G' H'
 fr:∀b o,G' b=some o->G b=some o\/H b=none
def fT.refl(s:a_ G H):fT G H G H:=(a_.refl _,a_.refl _,s,λa a e =>.inl e)
def fT.trans{f}(a:fT G H h f)(b:fT h f g d):fT G H g d:=
 (a.hh.trans b.hh,a.gg.trans b.gg,b.gh,λc o e=>by
  obtain q|q:=b.fr c o e
  .exact a.fr c o q
  .exact .inr<|a.hh.free q)
def a_.alloc{p}{o}(h:H p=M):a_ H<|cU H p o:=λb u e=>by rw[aO<|bf e h];exact e
def a_.both(s:a_ G H):a_ (cU G p o)<|cU H p o:=λb u e=>by
 by_cases a:b=p
 .simp_all [a9]
 .rw[aO a]at e ⊢;exact s _ _ e
def fT.alloc{p}{o}(s:a_ G H)(h:H p=M):fT G H (cU G p o)<|cU H p o:=
 (.alloc h,.alloc<|s.free h,s.both,λb u e=>by grind [aO])
def fT.lay{p}{o}(s:a_ G H)(h:H p=M):fT G H G<|cU H p o:=
 (.alloc h,a_.refl _,s.trans<|.alloc h,λa a e =>.inl e)
def fT.freeze(E:fT G H G' c)(h:H p=M)(g:G' p=M)(e:c p=Y o):fT G H (cU G' p o) c:=
 (E.hh,E.gg.trans<|.alloc g,λb u q=>by
  by_cases a:b=p
  .simp_all [a9]
  .rw[aO a]at q;exact E.gh _ _ q,λb u q=>by
  by_cases a:b=p
  .simp_all
  .rw[aO a]at q;exact E.fr _ _ q)
def iq(K:aV)(G:Hp):D->HO->Prop
 |.lst b,o=>∃a,o=.lst a/\aZ K G b a|.ins c d b,o=>∃C e a,o=.ins C e (d.zip a)/\uw K bc c=Y (Y<|.ref C)/\d.length=b.length/\aZ K G b a|.i9 d b,o=>∃a,o=.dK (d.zip a)/\d.length=b.length/\aZ K G b a|_,_=>False
section
variable {K:aV}
def iq.mono(s:a_ G G'){d:D}(h:iq K G d o):iq K G' d o:=by
 cases d with
 |lst b=>let(a,e,r):=h;exact(a,e,aZ.mono s b r)
 |ins c f b=>let(C,g,a,e,n,l,r):=h;exact(C,g,a,e,n,l,aZ.mono s b r)
 |i9 f b=>let(a,e,l,r):=h;exact(a,e,l,aZ.mono s b r)
 |_=>exact h.elim
def iq.rep{d}(h:iq K G d o)(e:G a=Y o):cS K G d<|.ref a:=by
 cases d with
 |lst f=>let(b,rfl,r):=h;exact cu.mpr (a,b,W,e,r)
 |ins c g f=>let(C,i,b,rfl,n,l,r):=h;exact kH.mpr (a,C,i,b,W,n,e,l,r)
 |i9 g f=>let(b,rfl,l,r):=h;exact rL.mpr (a,b,W,e,l,r)
 |_=>exact h.elim
end
end L2
namespace L2
open PySem
noncomputable def cX(a:!(aP×Sk))(k:aP):Sk:=(a.lookup k).getD .lf
mutual
inductive cm (K:aV) (G H:Hp):Sk->D->V->!aH->Prop
 |leaf {d:D}{v:V}:cS K G d v->cm K G H .lf d v []
 |lst {s:Sk}{ds:!D}{a:aH}{vs:!V}{S:!aH}:H a=some (.lst vs)->d8 K G H (bC ds.length s) ds vs S->cm K G H (.li s) (.lst ds) (.ref a) (a::S)
 | ins {c:aP}{ks:!aP}{fk:!(aP×Sk)}{ds:!D}{a C dx:aH}{vs:!V}{S:!aH}:uw K bc c=some (some<|.ref C)->H a=some (.ins C dx<|ks.zip vs)->ks.length=ds.length ->
   d8 K G H (ks.map<|cX fk) ds vs S->cm K G H (.fs c fk) (.ins c ks ds) (.ref a) (a::S)
 |i9 {ks:!ju}{ds:!D}{a:aH}{vs:!V}:H a=some (.dK<|ks.zip vs)->ks.length=ds.length->aZ K G ds vs->cm K G H .di (.i9 ks ds) (.ref a) [a]
inductive d8 (K:aV) (G H:Hp):!Sk->!D->!V->!aH->Prop
 |nil:d8 K G H [] [] [] []
 |cons {s:Sk}{ss:!Sk}{d:D}{ds:!D}{v:V}{vs:!V}{S T:!aH}:cm K G H s d v S->d8 K G H ss ds vs T->d8 K G H (s::ss) (d::ds) (v::vs) (S++T)
end
section
variable {K:aV}{f:Hp}
set_option tactic.hygienic true in
def cm.mono{d}{v}{S}(g:a_ G f)(h:∀b∈S,∀o,H b=Y o->i b=Y o)(x:cm K G H c d v S):cm K f i c d v S:=by
 induction x using cm.rec (motive_2:=λe j d S m=>(∀b∈S,∀o,H b=Y o->i b=Y o)->d8 K f i e j d S) with
 |leaf r=>exact .leaf (cS.mono g _ r)|lst e t j=>exact .lst (h _ az _ e) Ż
 |ins n e l t j=>exact .ins n (h _ az _ e) l Ż
 |i9 e l t=>exact .i9 (h _ az _ e) l (aZ.mono g _ t)|nil=>exact .nil|cons a t j k=>rename_i h;exact .cons Ż Ż
def d8.mono{d}{S:!aH}(g:a_ G f)(h:∀b∈S,∀o,H b=Y o->i b=Y o)(x:d8 K G H e j d S):d8 K f i e j d S:=by
 induction x using d8.rec (motive_1:=λl l l l l=>True) with
 |nil=>exact .nil|cons a t _ k=>exact .cons (cm.mono g (λb c=>h b Ż) a) Ż
 |_=>trivial
def Im(H:Hp)(b:aH):Prop:=∃o,H b=Y o/\∀a,o ≠ .tup a
def cm.here{v:V}{S}(x:cm K G H g d v S):∀b∈S,Im H b:=by
 induction x using cm.rec (motive_2:=λc c c S c=>∀b∈S,Im H b) with
 |lst e t j=>exact nV.2 ((_,e,nofun),j)
 |ins n e l t j=>exact nV.2 ((_,e,nofun),j)
 |i9 e l t=>exact nV.2 ((_,e,nofun),nofun)
 |cons a t j k=>grind|leaf=>exact nofun
 |nil=>contradiction
def d8.length{ds}{a}{S}(h:d8 K G H ss ds a S):ds.length=a.length/\ss.length=ds.length:=by
 induction ds generalizing ss a S with
 |nil=>cases h;trivial| cons d ds ih=>cases h with
  |cons _ t=>have:=ih t;simp_all
noncomputable def iB(G H:Hp)(S:!aH):Hp:=λb=>if b∈S then H b else G b
noncomputable def dM(G:Hp)(S:!aH):Hp:=λb=>if b∈S then M else G b
def m_{S:!aH}(h:b∈S):iB G H S b=H b:=by simp[iB,h]
theorem jP{S:!aH}(h:b∉S):iB G H S b=G b:=by simp[iB,h]
theorem ia{S:!aH}(h:b∈S):dM G S b=none:=by simp[dM,h]
theorem bK{S:!aH}(h:b∉S):dM G S b=G b:=by simp[dM,h]
def ku{S:!aH}(n:∀b∈S,G b=M):a_ G<|iB G H S:=λb o e=>by
 grind [jP]
def jA{S:!aH}(s:a_ G H):a_ (iB G H S) H:=λb o e=>by
 by_cases a:b∈S
 .simp_all [m_]
 .rw[jP a]at e;exact s b o e
set_option tactic.hygienic true in
def cm.frozen{d:D}{v}{S}(n:∀b∈T,G b=M)(a:∀b∈S,b∈T)(x:cm K G H g d v S):cS K (iB G H T) d v:=by
 induction x using cm.rec (motive_2:=λf g e S f=>(∀b∈S,b∈T)->aZ K (iB G H T) g e) with
 |leaf r=>exact cS.mono (ku n) _ r|lst e t j=>exact cu.mpr (_,_,W,by rw[m_<|a _ az];exact e,Ż)
 |ins h e l t j=>exact kH.mpr (_,_,_,_,W,h,by rw[m_<|a _ az];exact e,l,Ż)
 |i9 e l t=>exact rL.mpr (_,_,W,by rw[m_<|a _ az];exact e,l,aZ.mono (ku n) _ t)
 |nil=>solve_by_elim|cons a t j k=>rename_i c;exact aW.mpr (_,_,W,Ż,Ż)
mutual
noncomputable def qF:D->Bool
 |.dC=>Z'|.bl _=>Z'|.int _=>Z'|.str _=>Z'|.lst _=>Z_|.tup a=>pk a|.kG _=>Z_|.ins _ _ _=>Z_|.i9 _ _=>Z_|.obj _ _=>Z_|.dY _ _=>Z_
noncomputable def pk:!D->Bool
 |[]=>Z'|d::a=>qF d&&pk a
end
mutual
theorem FC{S:!aH}{d}(n:∀b∈S,∀c,G b≠Y (.tup c)){v:V}(p:qF d=Z')(r:cS K G d v):cS K (dM G S) d v:=by
 cases d with
 |tup h=>
  let(a,c,rfl,e,q):=cQ.mp r;let g:=λz=>n a z c e
  exact cQ.mpr (a,c,W,by simp_all [bK],wc n (by simpa only [qF] using p) q)
 |_=>first|cases p;done|simpa only [cS] using r
theorem wc{S:!aH}{c}(n:∀b∈S,∀a,G b≠Y (.tup a)){a:!V}(p:pk c=Z')(r:aZ K G c a):aZ K (dM G S) c a:=by
 cases c with
 |nil=>solve_by_elim|cons d c=>let(v,t,rfl,g,e):=aW.mp r;simp only[pk,ax]at p;exact aW.mpr (v,t,W,FC n p.1 g,wc n p.2 e)
end
def vo{S:!aH}(s:a_ G H)(n:∀b∈S,G b=M)(o:∀b∈S,Im H b)(E:fT (iB G H S) H f i):fT G H (dM f S) i/\∀b∈S,∀c,f b≠Y (.tup c):=by
 refine((E.hh,λb u e =>?_,λb u e =>?_,λb u e =>?_),λb a c z =>?_)
 .have a:b∉S:=λz=>by simp_all
  rw[bK a];exact E.gg b u (by simp_all [jP])
 .by_cases a:b∈S
  .simp_all [ia]
  .rw[bK a]at e;exact E.gh b u e
 .by_cases a:b∈S
  .simp_all [ia]
  .rw[bK a]at e;obtain q|q:=E.fr b u e
   .simp_all [jP]
   simp_all
 .let(u,_):=o b a;have:=E.gg b u (by simp_all [m_])
  simp_all
end
noncomputable def EM(f:aP):!aP->↑Nat
 |[]=>M|k::ks=>if f==k then Y 0 else (EM f ks).map (· + 1)
set_option tactic.hygienic true in
theorem ve{f}:∀ {a:!aP}{n:Nat},EM f a=Y n->a[n]?=Y f
 |[],n,h=>by cases h
 | k::a,n,h=>by
  unfold EM at h;split at h
  .rename_i e;cases h<;>simp_all
  .let(m,e,h):=aj.1 h;cases h;simpa using ve e
theorem pA{f}:∀ {a:!aP}{n:Nat}{xs:!b},EM f a=Y n->(a.zip xs).lookup f=xs[n]?
 |[],n,xs,h=>by cases h
 |k::a,n,[],h=>by solve_by_elim
 | k::a,n,x::xs,h=>by
  unfold EM at h;simp only[dF,eO];cases e:f==k with
  |true=>rw[e]at h;simp at h;subst h;solve_by_elim|false=>
   rw[e]at h;rcases e2:EM f a with _|m
   .simp_all
   rw[e2]at h;simp at h;subst h;simpa using pA e2
noncomputable def iR:CN->D->↑D
 |[],d=>Y d|.fld f::p,.ins _ b a=>(EM f b).bind λn=>(a[n]?).bind<|iR p
 |.ix k::p,.lst a=>(a[k]?).bind (iR p)|_::_,_=>M
noncomputable def jF(x:D):CN->D->D
 |[],_=>x|.fld f::p,.ins c b a=>match EM f b with|none =>.ins c b a|some n=>match a[n]? with|none =>.ins c b a|some d =>.ins c b<|a.set n<|jF x p d
 |.ix k::p,.lst a=>match a[k]? with|none =>.lst a|some d =>.lst<|a.set k<|jF x p d
 |_::_,d=>d
noncomputable def kz:CN->Sk->↑Sk
 |[],s=>Y s|.fld f::p,.fs _ a=>kz p (cX a f)|.ix _::p,.li s=>kz p s|_::_,_=>M
noncomputable def dS(H:Hp):CN->V->↑V
 |[],v=>Y v|.fld f::p,.ref a=>match H a with|some (.ins _ _ c)=>(c.lookup f).bind (dS H p)|_=>M
 |.ix k::p,.ref a=>match H a with|some (.lst b)=>(b[k]?).bind (dS H p)|_=>M
 |_::_,_=>M
section
variable {K:aV}
theorem d8.at{i}{ds}{vs}{S}(h:d8 K G H i ds vs S):∀ {n:Nat}{s:Sk}{d:D},i[n]?=Y s->ds[n]?=Y d->∃v T U,vs[n]?=Y v/\cm K G H s d v T/\S.Perm (T++U) /\
  ∀G' H' j x u f,a_ G G'->(∀b∈U,∀o,H b=Y o->H' b=Y o)->cm K G' H' j x u f->∃S',d8 K G' H' (i.set n j) (ds.set n x) (vs.set n u) S'/\S'.Perm (f++U):=by
 induction ds generalizing i vs S with
 |nil=>intro n s d _ e;simp at e
 |cons c ds ih=>
  intro n s d es e;cases h with
  |@cons C i _ _ v vs S1 p a t=>
   cases n with
   |zero=>simp at e es;subst e;subst es;exact(v,S1,p,W,a,.rfl,λG' H' j x u f g k l=>(f++p,.cons l<|t.mono g k,.rfl))
   |succ n=>
    refine ae λkk =>?_
    let(w,T,U,B,z,r,A):=ih t es e;refine kk<|(w,T,S1++U,by simpa using B,z,?_,λG' H' j x u f g k l =>?_)
    .exact((r.append_left S1).trans<|cb S1 T U)
    .let(S',y,q):=A G' H' j x u f g (λb m=>k b<|aE _ m) l;exact(S1++S',.cons (a.mono g λb m=>k b<|aS _ m) y,(q.append_left S1).trans<|cb S1 f U)
theorem eY{a:Type}:∀ {l:!a}{n:Nat}{x:a},l[n]?=Y x->l.set n x=l
 |[],n,x,h=>by simp at h
 |y::l,0,x,h=>by simp_all
 |y::l,n+1,x,h=>by simp at h;simp[eY h]
theorem cm.focus:∀ {p:CN}{P k:Sk}{d O:D}{v:V}{S:!aH},cm K G H P d v S->kz p P=Y k->iR p d=Y O->∃v' T U,dS H p v=Y v'/\cm K G H k O v' T/\S.Perm (T++U) /\
  ∀(J I:Hp) x w,a_ G J->(∀b∈U,∀o,H b=Y o->I b=Y o)->cm K J I k x v' w->dS I p v=Y v'/\∃S',cm K J I P (jF x p d) v S'/\S'.Perm (w++U)
 |[],P,k,d,O,v,S,h,u,z=>by cases u;cases z;exact(v,S,[],W,h,ż,λJ I x w g r ox=>(W,w,ox,ż))
 | .fld f::p,P,k,d,O,v,S,h,u,z=>by
  cases h with
  |@ins c ks fk L a C dx vs S n e l t=>
   let u:kz p (cX fk f)=Y k:=u;let z:=z;let(m,ei,z):=aa.1 z;have A:(ks.map<|cX fk)[m]?=Y (cX fk f):=by rw[aK,ve ei];rfl
   generalize cX fk f=s1 at u A
   .let(d1,B,z):=aa.1 z;let(v1,T1,i,X,o1,p1,k1):=t.at A B;let(Q,F,j,q2,o2,p2,k2):=cm.focus o1 u z;let hv:dS H (.fld f::p) (.ref a)=Y Q:=by simp only[dS,e];rw[pA ei,X];exact q2
    refine(Q,F,j++(a::i),hv,o2,?_,λJ I y w g r oy =>?_)
    .have:=(p1.trans<|p2.append_right i).cons a;refine this.trans ?_;let q:(a::(F++j++i)).Perm<|(F++j)++(a::i):=by simpa using cb [a] (F++j) i
     exact q.trans<|vN ż
    .let(gv,S1,o3,p3):=k2 J I y w g (λb N=>r b<|aS _ N) oy;let(S2,R,p4):=k1 J I s1 _ v1 S1 g (λb N=>r b<|aE _<|ay _ N) o3;rw[eY A,eY X]at R;refine(by simp only[dS,r a (aE _ az) _ e];rw[pA ei,X];exact gv,a::S2,?_,?_)
     .let E:jF y (.fld f::p) (.ins c ks L)=.ins c ks (L.set m<|jF y p d1):=by simp only[jF,ei,B]
      rw[E];exact .ins n (r a (aE _ az) _ e) Ż R
     .have:=(p4.trans<|p3.append_right i).cons a;refine this.trans ?_;let q:(a::(w++j++i)).Perm<|(w++j)++(a::i):=by simpa using cb [a] (w++j) i
      exact q.trans<|vN ż
  |_=>cases u
 | .ix m::p,P,k,d,O,v,S,h,u,z=>by
  cases h with
  |@lst s L a vs S e t=>
   let z:(L[m]?).bind (iR p)=Y O:=z;let(d1,B,z):=aa.1 z;have hm:m<L.length:=(ah.mp B).1;have A:(bC L.length s)[m]?=Y s:=by simp[hm]
   let(v1,T1,i,X,o1,p1,k1):=t.at A B;let(Q,F,j,q2,o2,p2,k2):=cm.focus o1 (u) z;let hv:dS H (.ix m::p) (.ref a)=Y Q:=by simp_all [dS]
   refine(Q,F,j++(a::i),hv,o2,?_,λJ I y w g r oy =>?_)
   .refine((p1.trans<|p2.append_right i).cons a).trans ?_;let q:(a::(F++j++i)).Perm<|(F++j)++(a::i):=by simpa using cb [a] (F++j) i
    exact q.trans<|vN ż
   .let(gv,S1,o3,p3):=k2 J I y w g (λb N=>r b<|aS _ N) oy;let(S2,R,p4):=k1 J I s (jF y p d1) v1 S1 g (λb N=>r b<|aE _<|ay _ N) o3;rw[eY A,eY X]at R;refine(by simp only[dS,r a (aE _ az) _ e];rw[X];exact gv,a::S2,?_,?_)
    .let E:jF y (.ix m::p) (.lst L)=.lst (L.set m<|jF y p d1):=by simp only[jF,B]
     rw[E];exact .lst (r a (aE _ az) _ e) Ż
    .refine((p4.trans<|p3.append_right i).cons a).trans ?_;let q:(a::(w++j++i)).Perm<|(w++j)++(a::i):=by simpa using cb [a] (w++j) i
     exact q.trans<|vN ż
  |_=>cases u
theorem iQ(s:a_ H H'):∀ {p:CN}{v b:V},dS H p v=Y b->dS H' p v=Y b
 |[],v,b,h=>h| .fld f::p,.ref a,b,h=>by
  simp only[dS]at h ⊢;rcases e:H a with _|o
  .rw[e]at h;cases h
  rw[e]at h;rw[s _ _ e];cases o<;>simp only at h ⊢<;>try (cases h)
  let(u,e2,h):=aa.1 h;rw[e2];exact iQ s h
 | .ix k::p,.ref a,b,h=>by
  simp only[dS]at h ⊢;rcases e:H a with _|o
  .simp_all
  rw[e]at h;rw[s _ _ e];cases o<;>simp only at h ⊢<;>try (cases h)
  let(u,e2,h):=aa.1 h;rw[e2];exact iQ s h
 |.fld f::p,.dC,b,h=>by cases h
 |.fld f::p,.bl _,b,h=>by cases h
 |.fld f::p,.int _,b,h=>by cases h
 |.fld f::p,.str _,b,h=>by cases h
 |.fld f::p,.Jx _,b,h=>by cases h
 |.fld f::p,.SD _,b,h=>by cases h
 |.fld f::p,.ty _,b,h=>by cases h
 |.ix f::p,.dC,b,h=>by cases h
 |.ix f::p,.bl _,b,h=>by cases h
 |.ix f::p,.int _,b,h=>by cases h
 |.ix f::p,.str _,b,h=>by cases h
 |.ix f::p,.Jx _,b,h=>by cases h
 |.ix f::p,.SD _,b,h=>by cases h
 |.ix f::p,.ty _,b,h=>by cases h
theorem zc(s:a_ G H):∀ {p:CN}{d g:D}{v:V},cS K G d v->iR p d=Y g->∃y,dS H p v=Y y/\cS K G g y
 |[],d,g,v,r,e=>by cases e;exact(v,W,r)
 | .fld f::p,d,g,v,r,e=>by
  cases d with
  |ins c A x=>
   refine ae λkk =>?_
   let(a,C,F,z,rfl,n,j,l,i):=kH.mp r;let(m,B,e):=aa.1 e;let(E,t,e):=aa.1 e;let(u,q,h):=i.get t;let(w,o,b):=zc s h e;refine kk<|(w,?_,b);simp only[dS,s _ _ j];rw[pA B,q];exact o
  |_=>cases e
 | .ix k::p,d,g,v,r,e=>by
  cases d with
  |lst x=>
   let(a,z,rfl,j,i):=cu.mp r;let(E,t,e):=aa.1 e;let(u,q,h):=i.get t;obtain _:=zc s h e;simp only[dS,s _ _ j]
   simp_all
  |_=>cases e
theorem yy{f}:∀ {ks:!aP}{vs:!V}{u:V},(ks.zip vs).lookup f=Y u->∃m,EM f ks=Y m/\vs[m]?=Y u
 |[],vs,u,h=>by simp at h
 |k::ks,[],u,h=>by simp at h
 | k::ks,v::vs,u,h=>by
  simp only[dF,eO]at h;cases e:f==k with
  |true=>rw[e]at h;cases h;exact(0,by simp[EM,e],W)
  |false=>
   rw[e]at h;let(m,b,a):=yy h
   simp_all [EM]
theorem cm.DJ:∀ {p:CN}{y i:Sk}{d:D}{v x:V}{S:!aH},cm K G H y d v S->kz p y=Y i->(∀b∈S,∀o,H b=Y o->H' b=Y o)->dS H p v=Y x->dS H' p v=Y x
 |[],y,i,d,v,x,S,h,g,k,e=>e| .fld f::p,y,i,d,v,x,S,h,g,k,e=>by
  cases h with
  |@ins c N r E a C X F S n z l t=>
   simp only[dS,z]at e;simp only[dS,k a az _ z];let(u,j,e):=aa.1 e;rw[j];let(m,R,O):=yy j;let w:(N.map<|cX r)[m]?=Y (cX r f):=by rw[aK,ve R];exact Ÿ
   have B:m<E.length:=by rw[t.length.1];exact(ah.mp O).1
   let(P,U,T,A,J,I,Q):=t.at w<|ai B;rw[O]at A;cases A;exact cm.DJ J g (λb L o q=>k b (ay _<|I.symm.subset<|aS _ L) o q) e
  |_=>cases g
 | .ix m::p,y,i,d,v,x,S,h,g,k,e=>by
  cases h with
  |@lst s E a F S z t=>
   simp only[dS,z]at e;simp only[dS,k a az _ z];let(u,j,e):=aa.1 e;rw[j];have B:m<E.length:=by rw[t.length.1];exact(ah.mp j).1
   let w:(bC E.length s)[m]?=Y s:=by simp[B]
   let(P,U,T,A,J,I,Q):=t.at w<|ai B;rw[j]at A;cases A;exact cm.DJ J g (λb L o q=>k b (ay _<|I.symm.subset<|aS _ L) o q) e
  |_=>cases g
noncomputable def Je:CN->!aP
 |[]=>[]|.fld f::p=>f::Je p|.ix _::p=>Je p
set_option tactic.hygienic true in
theorem vi{s m}(j:H x=Y (.ins C A s))(i:H' x=Y (.ins B t m))(l:∀b,b≠x->∀o,H b=Y o->H' b=Y o):∀ {p:CN}{v d:V},(∀g∈Je p,m.lookup g=s.lookup g)->dS H p v=Y d->dS H' p v=Y d
 |[],v,d,c,h=>h| .fld g::p,.ref a,d,c,h=>by
  simp only[dS]at h ⊢;by_cases n:a=x
  .subst n;rw[j]at h;rw[i];simp only at h ⊢;rw[c g<|by solve_by_elim];let(u,e2,h):=aa.1 h;rw[e2];exact vi j i l (p:=p) (λg q=>c g Ÿ) h
  .rcases e:H a with _|o
   .rw[e]at h;cases h
   rw[e]at h;rw[l a n _ e];cases o<;>simp only at h ⊢<;>try (cases h;done)
   rename_i D y r;let(u,e2,h):=aa.1 h;rw[e2];exact vi j i l (p:=p) (λg q=>c g Ÿ) h
 | .ix k::p,.ref a,d,c,h=>by
  simp only[dS]at h ⊢;rcases e:H a with _|o
  .simp_all
  rw[e]at h;cases o<;>simp only at h<;>try (cases h;done)
  rename_i w;let n:a≠x:=λz=>by simp_all
  rw[l a n _ e];simp only;let(u,e2,h):=aa.1 h;rw[e2];exact vi j i l (p:=p) c h
 |.fld f::p,.dC,d,c,h=>by cases h
 |.fld f::p,.bl _,d,c,h=>by cases h
 |.fld f::p,.int _,d,c,h=>by cases h
 |.fld f::p,.str _,d,c,h=>by cases h
 |.fld f::p,.Jx _,d,c,h=>by cases h
 |.fld f::p,.SD _,d,c,h=>by cases h
 |.fld f::p,.ty _,d,c,h=>by cases h
 |.ix f::p,.dC,d,c,h=>by cases h
 |.ix f::p,.bl _,d,c,h=>by cases h
 |.ix f::p,.int _,d,c,h=>by cases h
 |.ix f::p,.str _,d,c,h=>by cases h
 |.ix f::p,.Jx _,d,c,h=>by cases h
 |.ix f::p,.SD _,d,c,h=>by cases h
 |.ix f::p,.ty _,d,c,h=>by cases h
def cm.root{s}{v}{S}(h:cm K G H s t v S)(b:s ≠ .lf):∃a o,v=.ref a/\H a=Y o/\a∈S:=by
 cases h<;>simp_all
def cm.isRef{s}{v}{S}(h:cm K G H s t v S)(b:s ≠ .lf):∃a,v=.ref a:=by
 cases h<;>first|trivial|solve_by_elim
noncomputable def iN(f:aP)(d:D):!aP->!D->!aP×!D
 |k::a,x::b=>if k=f then (k::a,d::b) else (k::(iN f d a b).1,x::(iN f d a b).2)
 |_,_=>([f],[d])
theorem FG{f}{v}{m}(s:cm K G H (cX j f) d v m):∀ {b:!aP}{c:!D}{i:!V}{S:!aH},b.length=c.length->d8 K G H (b.map<|cX j) c i S ->
  ∃g o R,lT f v (b.zip i)=(iN f d b c).1.zip g/\(iN f d b c).1.length=(iN f d b c).2.length/\d8 K G H ((iN f d b c).1.map<|cX j) (iN f d b c).2 g o/\o.Perm (m++R)/\R.Sublist S
 |[],[],i,S,h,r=>by cases r;exact([v],_,[],W,W,.cons s .nil,.rfl,.slnil)
 |[],x::c,i,S,h,r=>by simp at h
 |k::b,[],i,S,h,r=>by simp at h
 | k::b,x::c,i,S,h,r=>by
  cases r with
  |@cons _ _ _ _ u n T U a t=>
   simp at h;unfold iN;rw[show lT f v _=if k=f then (k,v)::b.zip n else (k,u)::lT f v _ from W];by_cases w:k=f
   .subst w;rw[if_pos W,if_pos W];exact(_,_,U,W,by simp[h],.cons s t,.rfl,List.sublist_append_right T U)
   .rw[if_neg w,if_neg w];refine ae λkk =>?_
    let(g,o,R,e,l,q,p,z):=FG s h t;exact kk<|(_,_,_,Ÿ,by simp[l],.cons a q,(p.append_left T).trans<|cb T m R,z.append_left T)
theorem cm.put{p}{s}{v}{S1}{f}{d}{u}(h:cm K G H s t v T)(nd:T.Nodup)(es:kz p s=Y (.fs c L))(ep:iR p t=Y (.ins c j A))(g:a_ G G')(k:∀b∈T,∀o,H b=Y o->B b=Y o)(ov:cm K G' B (cX L f) d u S1)(X:S1.Nodup)(dj:∀b∈S1,b∉T):
  ∃x C y r,dS H p v=Y (.ref x)/\x∈T/\uw K bc c=Y (Y<|.ref C)/\H x=Y (.ins C y<|j.zip r)/\j.length=A.length/\j.length=r.length /\
   ∃F,cm K G' (cU B x<|.ins C y<|lT f u<|j.zip r) s (jF (.ins c (iN f d j A).1 (iN f d j A).2) p t) v F/\F.Nodup/\∀b∈F,b∈T\/b∈S1:=by
 let(v',T1,U,e1,o1,E,k1):=h.focus es ep;cases o1 with
 |@ins _ _ _ _ x C y r J n ex l tt=>
  let m:(x::J++U).Nodup:=E.nodup_iff.mp nd;let hxS:x∉J:=λz=>by simp at m;exact m.1.1 z
  have hxU:x∉U:=λz=>by simp at m;exact m.1.2 z
  have O:x∈T:=E.symm.subset Ÿ;have I:∀b∈J,b∈T:=λb i=>E.symm.subset (by simp[i])
  have UT:∀b∈U,b∈T:=λb i=>E.symm.subset (by simp[i])
  let x1:x∉S1:=λz=>dj x z O
  refine(x,C,y,r,e1,O,n,ex,l,by rw[l,tt.length.1],?_);let Q:=tt.mono g λb i o e=>k b (I b i) o e
  let(P,S',R,z1,z2,z3,N,Da):=FG ov l Q;let hx':∀b∈S',b≠x:=λb i z=>by
   subst z;obtain q|q:=aD.mp<|N.subset i
   .exact x1 q
   .exact hxS<|Da.subset q
  let oo:cm K G' (cU B x<|.ins C y<|lT f u<|j.zip r) (.fs c L) _ (.ref x)<|x::S':=
   .ins (dx:=y) (vs:=P) n (by rw[a9,z1]) z2 (z3.mono (a_.refl _) λb i o e=>by rw[aO<|hx' b i];exact e)
  let(_,F,o2,p2):=k1 G' _ _ _ g (λb i o e=>by let hb2:b≠x:=λz=>hxU<|z ▸ i;rw[aO hb2];exact k b (UT b i) o e) oo;refine(F,o2,?_,λb i =>?_)
  .rw[p2.nodup_iff];rw[(((N.cons x).append_right U)).nodup_iff];let w:(x::R++U).Sublist<|x::J++U:=(Da.cons_cons x).append_right U;let S:(x::R++U).Nodup:=m.sublist w;have:(x::(S1++R)++U).Perm<|S1++(x::R++U):=by simpa [bF] using cb [x] S1 (R++U)
   rw[this.nodup_iff,bM];refine(X,S,λa ha b i z =>?_);subst z;exact dj a ha<|E.symm.subset<|w.subset i
  .obtain q|q:=aD.mp<|p2.subset i<;>grind
def d8.append{f}{S}(h:d8 K G H i f g S)(k:d8 K G H c e b j):d8 K G H (i++c) (f++e) (g++b)<|S++j:=by
 induction f generalizing i g S with
 |nil=>cases h;exact k| cons d f ih=>cases h with
  |cons a t=>rw[bF];exact Ÿ
theorem cm.app{p:CN}{s}{v}{S1}{d:D}{u:V}{m:Hp}(h:cm K G H s t v T)(nd:T.Nodup)(es:kz p s=Y (.li n))(ep:iR p t=Y (.lst l))(g:a_ G G')(k:∀b∈T,∀o,H b=Y o->m b=Y o)(R:cm K G' m n d u S1)(C:S1.Nodup)(O:∀b∈S1,b∉T):
  ∃x j,dS H p v=Y (.ref x)/\x∈T/\H x=Y (.lst j)/\l.length=j.length /\
   ∃w,cm K G' (cU m x<|.lst<|j++[u]) s (jF (.lst<|l++[d]) p t) v w/\w.Nodup/\∀b∈w,b∈T\/b∈S1:=by
 let(v',T1,U,e1,o1,r,k1):=h.focus es ep;cases o1 with
 |@lst _ _ x j i ex L=>
  let f:(x::i++U).Nodup:=r.nodup_iff.mp nd;let F:x∉i:=λz=>by simp at f;exact f.1.1 z
  have E:x∉U:=λz=>by simp at f;exact f.1.2 z
  have A:x∈T:=r.symm.subset Ÿ;let y:∀b∈i,b∈T:=λb c=>r.symm.subset (by simp[c])
  have P:∀b∈U,b∈T:=λb c=>r.symm.subset (by simp[c])
  let Q:x∉S1:=λz=>O x z A
  refine(x,j,e1,A,ex,L.length.1,?_);let B:d8 K G' m (bC (l++[d]).length n) (l++[d]) (j++[u])<|i++(S1++[]):=by rw[aU,dm,ZH];exact(L.mono g λb c o e=>k b (y b c) o e).append<|.cons R .nil
  rw[bZ]at B;let I:∀b∈i++S1,b≠x:=λb c z=>by subst z;obtain q|q:=aD.mp c<;>trivial
  let S:cm K G' (cU m x<|.lst<|j++[u]) (.li n) (.lst<|l++[d]) (.ref x)<|x::(i++S1):=
   .lst a9 (B.mono (a_.refl _) λb c o e=>by rw[aO<|I b c];exact e)
  let(_,w,X,N):=k1 G' (cU m x<|.lst<|j++[u]) _ _ g (λb c o e=>by let J:b≠x:=λz=>E<|z ▸ c;rw[aO J];exact k b (P b c) o e) S;refine(w,X,?_,λb c =>?_)
  .rw[N.nodup_iff];have:(x::(i++S1)++U).Perm<|S1++(x::i++U):=by simpa [bF] using cb (x::i) S1 U
   rw[this.nodup_iff,bM];refine(C,f,λa ha b c z =>?_);subst z;exact O a ha<|r.symm.subset c
  grind
def d8.last{f}{S}(h:d8 K G H (b++[k]) (f++[d]) e S)(l:b.length=f.length):∃g u j i,e=g++[u]/\S=j++i/\d8 K G H b f g j/\cm K G H k d u i:=by
 induction f generalizing b e S with
 |nil=>
  cases b with
  | nil=>cases h with
   |@cons _ _ _ _ v e S T a t=>cases t;exact([],v,[],S,W,ż,.nil,a)
  |cons=>simp at l
 |cons c f ih=>
  cases b with
  |nil=>simp at l|cons m b=>
   cases h with
   |@cons _ _ _ _ v e S T a t=>let(g,u,j,i,rfl,rfl,o,n):=ih t Ż;exact(_,u,_,i,W,by rw[bF],.cons a o,n)
theorem cm.aeN{p}{s}{v}(h:cm K G H s t v T)(J:T.Nodup)(N:kz p s=Y (.li l))(O:iR p t=Y (.lst<|j++[d])):
  ∃x f u,dS H p v=Y (.ref x)/\x∈T/\H x=Y (.lst<|f++[u])/\j.length=f.length /\
   ∃k g,cm K G (cU H x<|.lst f) s (jF (.lst j) p t) v k/\cm K G (cU H x<|.lst f) l d u g/\(k++g).Perm T:=by
 let(R,S,U,P,I,m,L):=h.focus N O;cases I with
 |@lst _ _ x Q X c w=>
  rw[aU,dm,ZH]at w;let(f,u,A,g,rfl,rfl,y,B):=w.last ż;have a:=m.nodup_iff.mp J;refine(x,f,u,P,m.symm.subset Ÿ,c,y.length.1,?_);let E:cm K G _ _ _ _ _:=
   .lst a9 (y.mono (a_.refl _) λb i o e=>by rw[aO<|λz=>(λz=>by simp at a;exact a.1.1 z)<|z ▸ i];exact e)
  let(_,k,F,C):=L G _ _ _ (a_.refl _) λb i o e=>by grind [aO] E
  refine(k,g,F,B.mono (a_.refl _) λb i o e=>by grind [aO],?_)
  grind
def zh{f}{S}:cm K G H (.fs c []) (.ins c f b) (.ref x) S↔(∃o,H x=Y o/\iq K G (.ins c f b) o)/\S=[x]:=by
 let p:∀ {f:!aP}{b:!D}{g:!V}{S:!_},d8 K G H (f.map<|cX []) b g S->aZ K G b g/\S=[]:=by
  intro f
  induction f with
  |nil=>intro b g S h;cases h;exact Ÿ
  |cons k f ih=>
   intro b g S h;cases h with
   |cons a t=>
    cases a with
    |leaf r=>let(m,rfl):=ih t;exact(.cons r m,W)
 let i:∀ {f:!aP}{b:!D}{g:!V},f.length=b.length->aZ K G b g->d8 K G H (f.map<|cX []) b g []:=by
  intro f
  induction f with
  |nil=>
   intro b g j r;cases b with
   |nil=>rw[cx.mp r];exact .nil|cons=>simp at j
  |cons k f ih=>
   intro b g j r;cases b with
   |nil=>simp at j|cons d b=>let(v,u,rfl,s,q):=aW.mp r;exact .cons (.leaf s) Ż
 constructor
 .intro h;cases h with
  |ins n e l t=>let(m,rfl):=p t;exact((_,e,_,_,_,W,n,l,m),W)
 .rintro⟨⟨o,e,C,w,g,rfl,n,l,r⟩,rfl⟩;exact .ins n e l<|i l r
theorem cm.dput{p}{s}{v}(h:cm K G H s t v T)(I:T.Nodup)(N:kz p s=Y .di)(O:iR p t=Y (.i9 q y))(g:a_ G G')(k:∀b∈T,∀o,H b=Y o->A b=Y o):
  ∃x m,dS H p v=Y (.ref x)/\x∈T/\H x=Y (.dK<|q.zip m)/\q.length=y.length/\aZ K G y m /\
   ∀(a:!ju) (c:!D) (d:!V),a.length=c.length->aZ K G' c d->∃j,cm K G' (cU A x<|.dK<|a.zip d) s (jF (.i9 a c) p t) v j/\j.Nodup/\∀b∈j,b∈T:=by
 let(R,S,U,P,F,n,L):=h.focus N O;cases F with
 |@i9 _ _ x m f l r=>
  refine(x,m,P,n.symm.subset ż,f,l,r,λa c d J C =>?_);let(_,j,E,B):=L G' (cU A x _) _ [x] g λb i o e=>by grind [aO] (.i9 a9 J C)
  exact(j,E,by rw[B.nodup_iff];exact(n.nodup_iff.mp I),λb i=>n.symm.subset<|B.subset i)
end
end L2
namespace L2
open PySem PySem.Spec PyProof.Rows
def acU(K:aV)(G H:Hp):D->aH->HO->Prop
 |.obj s t,a,_=>∃S,cm K G H s t (.ref a) S/\∀b∈S,G b=M|.dY _ _,_,_=>True|d,_,o=>iq K G d o
def i_(K:aV)(G H:Hp)(d:D)(v:V):Prop:=cS K G d v\/∃a o,v=.ref a/\H a=Y o/\acU K G H d a o
section
variable {K:aV}
def i_.ext{d:D}{v}(r:i_ K G H d v)(E:fT G H G' H'):i_ K G' H' d v:=by
 obtain r|⟨a,o,k,j,c⟩:=r
 .exact .inl<|cS.mono E.gg d r
 .refine .inr (a,o,k,E.hh _ _ j,?_);cases d with
  |obj s t=>
   let(S,g,i):=c;refine(S,g.mono E.gg λb f o e=>E.hh b o e,λb f =>?_);let(u,h,_):=g.here b f;rcases q:G' b with _|w
   .rfl
   obtain z|z:=E.fr b w q<;>simp_all
  |dY=>trivial|lst=>exact iq.mono E.gg (d :=.lst _) c|ins=>exact iq.mono E.gg (d :=.ins _ _ _) c|i9=>exact iq.mono E.gg (d :=.i9 _ _) c|_=>exact c
def i_.dC{v:V}(r:i_ K G H .dC v):v=.dC:=by
 obtain r|⟨a,o,_,_,e⟩:=r
 .exact Ÿ
 exact Ÿ
def i_.bl{v:V}(r:i_ K G H (.bl b) v):v=.bl b:=by
 obtain r|⟨a,o,_,_,e⟩:=r
 .exact Ÿ
 exact Ÿ
def i_.int{i:Int}{v:V}(r:i_ K G H (.int i) v):v=.int i:=by
 obtain r|⟨a,o,_,_,e⟩:=r
 .exact Ÿ
 exact Ÿ
def i_.str{v:V}(r:i_ K G H (.str x) v):v=.str x:=by
 obtain r|⟨a,o,_,_,e⟩:=r
 .exact Ÿ
 exact Ÿ
def i_.lst{ds:!D}{v}(s:a_ G H)(r:i_ K G H (.lst ds) v):∃a vs,v=.ref a/\H a=Y (.lst vs)/\aZ K G ds vs:=by
 obtain r|⟨a,o,d,c,vs,rfl,b⟩:=r
 .let(a,vs,e,q,t):=cu.mp r;exact(a,vs,e,s _ _ q,t)
 .exact(a,vs,d,c,b)
def i_.tup{ds:!D}{v}(s:a_ G H)(r:i_ K G H (.tup ds) v):∃a b,v=.ref a/\H a=Y (.tup b)/\aZ K G ds b:=by
 obtain r|⟨a,o,_,_,e⟩:=r
 .let(a,b,e,q,t):=cQ.mp r;exact(a,b,e,s _ _ q,t)
 exact Ÿ
def i_.kG{v:V}(s:a_ G H)(r:i_ K G H (.kG ns) v):∃a,v=.ref a/\lW K H a (ns.map V.int):=by
 obtain r|⟨a,o,_,_,e⟩:=r
 .let(a,e,q):=Dc.mp r;exact(a,e,s.seq q)
 exact Ÿ
def i_.ae7{f:!aP}{v}(s:a_ G H)(r:i_ K G H (.ins c f g) v):∃a C d b,v=.ref a/\H a=Y (.ins C d<|f.zip b)/\uw K bc c=Y (Y<|.ref C)/\f.length=g.length/\aZ K G g b:=by
 obtain r|⟨a,o,j,i,C,d,b,rfl,n,l,h⟩:=r
 .let(a,C,d,b,e,n,q,l,t):=kH.mp r;exact(a,C,d,b,e,s _ _ q,n,l,t)
 .exact(a,C,d,b,j,i,n,l,h)
def i_.Y9{v:V}(s:a_ G H)(r:i_ K G H (.i9 c d) v):∃a b,v=.ref a/\H a=Y (.dK<|c.zip b)/\c.length=d.length/\aZ K G d b:=by
 obtain r|⟨a,o,h,g,b,rfl,l,f⟩:=r
 .let(a,b,e,q,l,t):=rL.mp r;exact(a,b,e,s _ _ q,l,t)
 .exact(a,b,h,g,l,f)
def i_.all{v:V}(s:a_ G H)(r:i_ K G H d v):cS K H d v:=by
 obtain r|⟨a,o,i,e,c⟩:=r
 .exact cS.mono s d r
 .subst i;cases d with
  |obj k t=>let(S,h,g):=c;exact m8.mpr<|cS.mono (jA s) t<|h.frozen g λb f=>f
  |dY=>solve_by_elim|lst=>exact(iq.mono s (d :=.lst _) c).rep e|ins=>exact(iq.mono s (d :=.ins _ _ _) c).rep e|i9=>exact(iq.mono s (d :=.i9 _ _) c).rep e|_=>exact c.elim
end
abbrev bL:=!(↑D)
abbrev DF:=bL->↑D
abbrev DT:=bL->↑Bool
abbrev DL:=bL->↑(!D)
noncomputable abbrev ID(j:Nat):Nat:=j+1000000
noncomputable abbrev Br(j:Nat):Nat:=j+2000000
noncomputable def Hd:!aP:=["rows","coming"]
def Hl(Z:!Nat)(H:Hp)(a:St)(c:bL)(j r:Nat)(p:CN):Prop:=r∈Z/\Br r∈Z/\∃s t d v b,c[r]?=Y (Y<|.obj s t)/\a[r]?=Y (Y v)/\a[j]?=Y (Y b)/\dS H p v=Y b/\kz p s=Y d/\∀g∈Je p,g∈Hd
structure ja(K:aV)(Z:!Nat)(G H:Hp)(σ:St)(ρ:bL):Prop where
 len:σ.length=ρ.length
 get:∀(i:Nat) (d:D),ρ[i]?=some (some d)->∃v,σ[i]?=some (some v)/\(if i∈Z then i_ K G H d v else cS K G d v)
 dY:∀(j r:Nat) (p:CN),j∈Z->ID j∈Z->ρ[j]?=some (some<|.dY r p)->Hl Z H σ ρ j r p
def Hl.ext{H':Hp}{a}{r:Nat}(h:Hl Z H a b j r p)(s:a_ H H'):Hl Z H' a b j r p:=by
 let(g,i,e,d,f,v,c,q,o,n,l,k):=h;exact(g,i,e,d,f,v,c,q,o,n,iQ s l,k)
def ja.ext{K:aV}{G' H':Hp}{a:St}(h:ja K Z G H a b)(E:fT G H G' H'):ja K Z G' H' a b:=(h.len,λi d e=>by
 let(v,q,r):=h.get i d e;refine(v,q,?_);by_cases c:i∈Z
 .rw[if_pos c]at r ⊢;exact r.ext E
 .rw[if_neg c]at r ⊢;exact cS.mono E.gg d r,λj r p g f e=>(h.dY j r p g f e).ext E.hh)
inductive tP (K:aV) (Z:!Nat) (f:DF) (b:St) (H:Hp) (Q:VK):Prop
 |mk G a d:a_ G H->ja K Z G H b a->f a=some d->(∀v G' H',fT G H G' H'->cS K G' d v->Q v H')->tP K Z f b H Q
inductive tQ (K:aV) (Z:!Nat) (f:DF) (b:St) (H:Hp) (Q:VK):Prop
 |mk G a d:a_ G H->ja K Z G H b a->f a=some d->(∀v G' H',fT G H G' H'->i_ K G' H' d v->Q v H')->tQ K Z f b H Q
inductive tF (K:aV) (Z:!Nat) (f:DL) (d:St) (H:Hp) (Q:VK):Prop
 |mk G a c:a_ G H->ja K Z G H d a->f a=some c->(∀p b G' H',fT G H G' H'->H p=none->G' p=none->H' p=some (.lst b)->aZ K G' c b->Q (.ref p) H')->tF K Z f d H Q
inductive p' (K:aV) (Z:!Nat) (f:DT) (c:St) (H:Hp) (Q:Bool->Hp->Prop):Prop
 |mk G a b:a_ G H->ja K Z G H c a->f a=some b->(∀G' H',fT G H G' H'->Q b H')->p' K Z f c H Q
inductive E9 (K:aV) (Z:!Nat) (f:DL) (d:St) (H:Hp) (Q:!V->Hp->Prop):Prop
 |mk G a c:a_ G H->ja K Z G H d a->f a=some c->(∀b G' H',fT G H G' H'->aZ K G' c b->Q b H')->E9 K Z f d H Q
def LK(K:aV)(G H:Hp):!D->!V->Prop:=Paired<|i_ K G H
inductive ZV (K:aV) (Z:!Nat) (f:DL) (d:St) (H:Hp) (Q:!V->Hp->Prop):Prop
 |mk G a c:a_ G H->ja K Z G H d a->f a=some c->(∀b G' H',fT G H G' H'->LK K G' H' c b->Q b H')->ZV K Z f d H Q
section
variable {X:Cx}
def PE.imp(h:PE X e t)(k:∀b H Q,c b H Q->t b H Q):PE X e c:=λa s b H Q I q=>h a s b H Q I<|k _ _ _ q
def PT.imp(h:PT X e t)(k:∀b H Q,c b H Q->t b H Q):PT X e c:=λa s b H Q I q=>h a s b H Q I<|k _ _ _ q
def PW.imp(h:PW X e t)(k:∀b H Q,c b H Q->t b H Q):PW X e c:=λw a s b H Q I q=>h w a s b H Q I<|k _ _ _ q
def PA.imp(h:PA X e t)(k:∀b H Q,c b H Q->t b H Q):PA X e c:=λm a s b H Q I q=>h m a s b H Q I<|k _ _ _ q
def PS.imp(h:PS X e t)(k:∀D b H,c D b H->t D b H):PS X e c:=λa s b H D I q=>h a s b H D I<|k _ _ _ q
def nY.imp(h:nY X e t)(k:∀D b H,c D b H->t D b H):nY X e c:=λa s b H D I q=>h a s b H D I<|k _ _ _ q
def mT.imp{f:au->au->Sem au}(h:mT X f r)(k:∀x y H Q,b x y H Q->r x y H Q):mT X f b:=λa s c H x y v u Q I e d q=>h a s c H x y v u Q I e d<|k _ _ _ _ q
def dq{f:DF}(h:PE X e<|tP X.K Z f):PE X e<|tQ X.K Z f:=h.imp <|by rintro i H Q ⟨G,b,d,c,a,g,k⟩;exact(G,b,d,c,a,g,λv G' H' E r=>k v G' H' E<|.inl r)
noncomputable def eF(f:DL):DF:=λρ=>(f ρ).map D.lst
def df{f:DL}(h:PE X e<|tF X.K Z f):PE X e<|tP X.K Z<|eF f:=h.imp <|by
 rintro s H Q ⟨G,g,d,q,b,l,k⟩;rcases a:f g with _|c
 .simp_all [eF]
 have:d=.lst c:=by simp_all [eF]
 subst this;exact(G,g,c,q,b,a,λp i G' H' E o j n r=>k _ _ H' (E.freeze o j n)<|cu.mpr (p,i,W,a9,aZ.mono (.alloc j) c r))
noncomputable def eV(i:Nat):DF:=λρ=>(ρ[i]?).join
noncomputable def eK(d:D):DF:=λ_=>Y d
def gC(h:eV i a=Y d):a[i]?=Y (Y d):=by
 grind [eV,bE]
def dv{m:Pos}(h:PE X (.Name x m)<|g9 i)(b:‹i∉Z›):PE X (.Name x m)<|tP X.K Z<|eV i:=h.imp <|by
 rintro f H Q ⟨G,g,d,c,a,e,k⟩;let(v,q,r):=a.get i d<|gC e;rw[if_neg b]at r;exact(v,q,k v G H (.refl c) r)
def dvo{i:Nat}{m:Pos}(h:PE X (.Name x m)<|g9 i)(b:‹i∈Z›):PE X (.Name x m)<|tQ X.K Z<|eV i:=h.imp <|by
 rintro f H Q ⟨G,g,d,c,a,e,k⟩;let(v,q,r):=a.get i d<|gC e;rw[if_pos b]at r;exact(v,q,k v G H (.refl c) r)
def jS{i j m}:PE X (.Constant (.int i) j m)<|tP X.K Z<|eK<|.int i:=lA.imp <|by
 rintro e H Q ⟨G,f,d,a,c,b,k⟩;cases b;exact k _ G H (.refl a)<|b8.mpr W
def ahp{b j m}:PE X (.Constant (.bool b) j m)<|tP X.K Z<|eK<|.bl b:=abc.imp <|by
 rintro f H Q ⟨G,g,d,a,e,c,k⟩;cases c;exact k _ G H (.refl a)<|dO.mpr W
def Jr{x j m}:PE X (.Constant (.str x) j m)<|tP X.K Z<|eK<|.str x:=Ij.imp <|by
 rintro e H Q ⟨G,f,d,a,c,b,k⟩;cases b;exact k _ G H (.refl a)<|dJ.mpr W
noncomputable def aN:DL:=λ_=>Y []
noncomputable def aC(f:DF)(g:DL):DL:=λa=>(f a).bind λx=>(g a).bind λb=>Y<|x::b
def LH{f:DF}{e:!D}(h:aC f g a=Y e):∃x b,f a=Y x/\g a=Y b/\e=x::b:=by
 let(x,d,h):=aa.1 h;rcases c:g a with _|b<;>simp_all
def qY:PA X []<|E9 X.K Z aN:=dH.imp <|by
 rintro e H Q ⟨G,f,d,a,c,b,k⟩;cases b;exact k _ G H (.refl a) .nil
def jf{f:DF}{g:DL}(h:PE X e<|tP X.K Z f)(t:PA X A<|E9 X.K Z g)(p:@&(ak (e::A) X.env=(Z_,eval e X.env)::ak A X.env)):PA X (e::A)<|E9 X.K Z<|aC f g:=
 (cA h t p).imp <|by rintro z H Q ⟨G,i,d,q,a,s,k⟩;let(x,l,r,b,rfl):=LH s;refine(G,i,x,q,a,r,λv y D c o=>(y,i,l,c.gh,a.ext c,b,λC w u j n=>k _ w u (c.trans j)<|.cons (cS.mono j.gg x o) n))
def D9:PA X []<|ZV X.K Z aN:=dH.imp <|by
 rintro e H Q ⟨G,f,d,a,c,b,k⟩;cases b;exact k _ G H (.refl a) .nil
def AG{f:DF}(h:PE X e<|tQ X.K Z f)(t:PA X A<|ZV X.K Z g)(p:@&(ak (e::A) X.env=(Z_,eval e X.env)::ak A X.env)):PA X (e::A)<|ZV X.K Z<|aC f g:=
 (cA h t p).imp <|by rintro z H Q ⟨G,i,d,q,a,s,k⟩;let(x,l,r,b,rfl):=LH s;refine(G,i,x,q,a,r,λv y D c o=>(y,i,l,c.gh,a.ext c,b,λC w u j n=>k _ w u (c.trans j)<|.cons (o.ext j) n))
noncomputable def i8(g:DL):DF:=λb=>(g b).bind λa=>if a.length<=1000 then Y (.tup a) else M
def vb:1000<=a7:=by decide
set_option tactic.hygienic true in
def Zb{o m}{g:DL}(h:PA X A<|E9 X.K Z g):PE X (.Tuple A o m)<|tP X.K Z<|i8 g:=(Ii h).imp <|by
 rintro s H Q ⟨G,i,d,r,c,a,k⟩;unfold i8 at a;rw[aa]at a;let(b,e,a):=a;split at a
 .cases a;rename_i q;refine(G,i,b,r,c,e,λj u t f l=>(?_,λp n=>k _ _ _ (f.trans<|fT.alloc f.gh n) ?_))
  .rw[<- l.length];exact bB q vb
  .exact cQ.mpr (p,j,W,a9,aZ.mono (.alloc<|f.gh.free n) b l)
 .cases a
noncomputable def dW(g:DL):DL:=λb=>(g b).bind λa=>if a.length<=1000 then Y a else M
set_option tactic.hygienic true in
def RA{m}{g:DL}(h:PA X A<|E9 X.K Z g):PE X (.List A m)<|tF X.K Z<|dW g:=(zg h).imp <|by
 rintro s H Q ⟨G,l,j,o,d,a,k⟩;let(e,q,a):=aa.1 a;split at a
 .cases a;rename_i n;refine(G,l,j,o,d,q,λf r t b i=>(?_,λp c=>k p f r _ (b.trans<|fT.lay b.gh c) (b.hh.free c) (b.gh.free c) a9 i));rw[<- i.length];exact bB n vb
 .cases a
noncomputable def e2(o:D->D->↑D)(a b:DF):DF:=λρ=>(a ρ).bind λx=>(b ρ).bind λy=>o x y
def D6(h:e2 o a b c=Y d):∃x y,a c=Y x/\b c=Y y/\o x y=Y d:=by
 let(x,f,h):=aa.1 h;rw[f];rcases e:b c with _|y<;>simp_all
inductive rD (K:aV) (o:D->D->↑D) (x:V) (y:V) (H:Hp) (Q:VK):Prop
 |mk G b a d:a_ G H->i_ K G H b x->i_ K G H a y->o b a=some d->(∀v G' H',fT G H G' H'->cS K G' d v->Q v H')->rD K o x y H Q
def AS(X:Cx)(f:au->au->Sem au)(o:D->D->↑D):Prop:=mT X f<|rD X.K o
def J8{K:aV}{Z:!Nat}{fa fb:DF}{e:St}(h:tP K Z (e2 o fa fb) e H Q):ZW (rD K o) (tQ K Z fa) (tQ K Z fb) e H Q:=by
 let(G,f,d,l,a,q,k):=h;let(x,y,p,n,r):=D6 q;exact(G,f,x,l,a,p,λv C I c j=>(C,f,y,c.gh,a.ext c,n,λu z F b i=>(z,x,y,d,b.gh,j.ext b,i,r,λw t s E g=>k w t s ((c.trans b).trans E) g)))
variable {m:Pos}
def Rz{op:Operator}(c:AS X (dr op) o)(e:PE X a<|tQ X.K Z fa)(d:PE X b<|tQ X.K Z fb):PE X (.BinOp a op b m)<|tP X.K Z<|e2 o fa fb:=(FN c e d).imp λf H Q h=>J8 h
def ui{op:CmpOp}(c:AS X (c7 op) o)(f:PE X a<|tQ X.K Z fa)(e:PE X b<|tQ X.K Z fb)(d:fh op b=Z_):PE X (.Compare a [op] [b] m)<|tP X.K Z<|e2 o fa fb:=(T7 c f e d).imp λg H Q h=>J8 h
noncomputable def dG(f:DF):DT:=λa=>(f a).bind λd=>match d with|.bl b=>Y b|_=>M
def qv{f:DF}{a}{b}(h:dG f a=Y b):f a=Y (.bl b):=by
 let(d,e,h):=aa.1 h;rw[e];cases d<;>simp_all
def Rk{op:CmpOp}(f:AS X (c7 op) o)(i:PE X a<|tQ X.K Z fa)(h:PE X b<|tQ X.K Z fb)(g:fh op b=Z_):PT X (.Compare a [op] [b] m)<|p' X.K Z<|dG<|e2 o fa fb:=
 (uU f i h g).imp <|by rintro n H Q ⟨G,e,d,j,c,l,k⟩;exact J8 (G,e,_,j,c,qv l,λv G' H' E r=>(d,dO.mp r,k G' H' E))
noncomputable def hV(f g:DT):DT:=λa=>(f a).bind λc=>if c=Z' then g a else Y Z_
noncomputable def vW(f g:DT):DT:=λa=>(f a).bind λc=>if c=Z' then Y Z' else g a
noncomputable def m5(f:DT):DT:=λa=>(f a).map λc=> (not c)
variable {f:DT}
def adM(b:PT X a<|p' X.K Z f):PW X (.BoolOp .And [a] m)<|p' X.K Z f:=TL b
def afL(b:PT X a<|p' X.K Z f):PW X (.BoolOp .Or [a] m)<|p' X.K Z f:=XA b
def afM(o:PT X a<|p' X.K Z f)(n:PW X (.BoolOp .And (b::B) m)<|p' X.K Z g):PW X (.BoolOp .And (a::b::B) m)<|p' X.K Z<|hV f g:=(XB o n).imp <|by
 rintro v H Q ⟨G,j,d,p,h,e,k⟩;let(c,q,e):=aa.1 e;refine(G,j,c,p,h,q,λl s i =>?_);cases c with
 |true=>exact Bv (l,j,d,i.gh,h.ext i,e,λt r u=>k t r<|i.trans u)
 |false=>grind
def ab9(o : PT X a<|p' X.K Z f)(n : PW X (.BoolOp .Or (b :: B) m)<|p' X.K Z g): PW X (.BoolOp .Or (a :: b :: B) m) (p' X.K Z<|vW f g) := (aa6 o n).imp <|by
  rintro v H Q ⟨G,j,d,p,h,e,k⟩
  let(c,q,e):=aa.1 e
  refine(G,j,c,p,h,q,λl s i => ?_)
  cases c with
  |false => exact MY (l,j,d,i.gh,h.ext i,e,λt r u => k t r<|i.trans u)
  |true => grind
def Jn(i:PT X a<|p' X.K Z f):PT X (.UnaryOp .Not a m)<|p' X.K Z<|m5 f:=(XC i).imp <|by
 rintro p H Q ⟨G,h,d,j,e,b,k⟩;unfold m5 at b;rcases g:f h with _|c
 .simp_all
 have:d = (not c):=(bE Ż).symm;subst this;exact(G,h,c,j,e,g,λn l o=>k n l o)
def Nj(f g:DF):DF:=λa=>(dG f a).bind λc=>if c=Z' then g a else Y (.bl Z_)
def eOr(f g:DF):DF:=λa=>(dG f a).bind λc=>if c=Z' then Y (.bl Z') else g a
noncomputable def Vi(f:DT):DF:=λa=>(f a).map λc =>.bl<|not c
def Zc{b}(h:PE X a<|tP X.K Z fa):PE X (.BoolOp b [a] m)<|tP X.K Z fa:=XR h
def Zf(o : PE X a<|tP X.K Z fa)(n : PE X (.BoolOp .And (b :: B) m)<|tP X.K Z fb): PE X (.BoolOp .And (a :: b :: B) m) (tP X.K Z<|Nj fa fb) := (XT o n).imp <|by
  rintro w H Q ⟨G,h,d,p,f,e,k⟩
  let(c,q,e):=aa.1 e
  refine(G,h,_,p,f,qv q,λv i s g l => (c,dO.mp l,?_))
  cases c with
  |true => exact Bv (i,h,d,g.gh,f.ext g,e,λv t r u j => k v t r (g.trans u) j)
  | false => have : d = .bl Z_ := (bE<|by trivial).symm
             subst this; exact Ÿ
def ahn(o : PE X a<|tP X.K Z fa)(n : PE X (.BoolOp .Or (b :: B) m)<|tP X.K Z fb): PE X (.BoolOp .Or (a :: b :: B) m) (tP X.K Z<|eOr fa fb) := (abb o n).imp <|by
  rintro w H Q ⟨G,h,d,p,f,e,k⟩
  let(c,q,e):=aa.1 e
  refine(G,h,_,p,f,qv q,λv i s g l => (c,dO.mp l,?_))
  cases c with
  |false => exact MY (i,h,d,g.gh,f.ext g,e,λv t r u j => k v t r (g.trans u) j)
  | true => have : d = .bl Z' := (bE<|by trivial).symm
            subst this; exact Ÿ
def Zd(i:PE X a<|tP X.K Z fa):PE X (.UnaryOp .Not a m)<|tP X.K Z<|Vi<|dG fa:=(XS i).imp <|by
 rintro p H Q ⟨G,g,d,j,e,b,k⟩;unfold Vi at b;rcases f:dG fa g with _|c
 .simp_all
 rw[f]at b;have:=(bE b).symm;subst this;exact(G,g,_,j,e,qv f,λv n l o h=>(c,dO.mp h,k _ n l o<|dO.mpr W))
noncomputable def ab8(c:DT)(f g:DF):DF:=λa=>(c a).bind λb=>if b=Z' then f a else g a
def aho(q:PT X c<|p' X.K Z f)(s:PE X a<|tP X.K Z fa)(r:PE X b<|tP X.K Z fb):PE X (.IfExp c a b m)<|tP X.K Z<|ab8 f fa fb:=(Pe q s r).imp <|by
 rintro w H Q ⟨G,i,d,t,e,h,k⟩;let(c,u,h):=aa.1 h;refine(G,i,c,t,e,u,λp x g =>?_);cases c with
 |true=>exact Bv (p,i,d,g.gh,e.ext g,h,λv n l o j=>k v n l (g.trans o) j)
 |false=>exact MY (p,i,d,g.gh,e.ext g,h,λv n l o j=>k v n l (g.trans o) j)
end
mutual
noncomputable def N0:D->D->Bool
 |.dC,.dC=>Z'|.bl a,.bl b=>a==b|.bl a,.int b=>(if a then 1 else 0)==b
 |.int a,.bl b=>a==(if b then 1 else 0)
 |.int a,.int b=>a==b|.str a,.str b=>a==b|.lst d,.lst c=>uh d c|.tup d,.tup c=>uh d c|_,_=>Z_
noncomputable def uh:!D->!D->Bool
 |[],[]=>Z'|x::b,y::a=>N0 x y&&uh b a|_,_=>Z_
end
mutual
noncomputable def iX:D->Nat->Bool
 |.lst a,n=>n != 0&&ip a (n-1)|.tup a,n=>n != 0&&ip a (n-1)|.kG _,_=>Z_|.ins _ _ _,_=>Z_|.i9 _ _,_=>Z_|.obj _ _,_=>Z_|.dY _ _,_=>Z_|.dC,_=>Z'|.bl _,_=>Z'|.int _,_=>Z'|.str _,_=>Z'
noncomputable def ip:!D->Nat->Bool
 |[],_=>Z'|x::a,n=>iX x n&&ip a n
end
theorem AK:∀ {a:!D}{n i:Nat}{d:D},ip a n=Z'->a[i]?=Y d->iX d n=Z'
 |[],n,i,d,h,e=>by simp at e
 |x::a,n,0,d,h,e=>by simp_all [ip,ax]
 |x::a,n,i+1,d,h,e=>by simp only[ip,ax]at h;exact AK (i:=i) h.2 (by trivial)
theorem vq:∀b a,uh b a=((bJ<|min b.length a.length).all (λj=>N0 (b.getD j .dC)<|a.getD j .dC)&&(b.length==a.length))
 |[],[]=>by solve_by_elim
 |[],y::a=>by trivial
 |x::b,[]=>by trivial
 | x::b,y::a=>by
  let e:min (x::b).length (y::a).length=min b.length a.length+1:=by simp[Nat.add_min_add_right]
  rw[e,VY,gZ,l6];simp only[uh,vq b a,dh,List.getD_cons_zero,List.getD_cons_succ,bQ];rw[Bool.and_assoc]
  lia
def acn:N0 (.int x) (.int y)=(x==y):=rfl
mutual
theorem GR:∀d n,iX d n=Z'->N0 d d=Z'
 |.dC,n,h=>rfl|.bl b,n,h=>beq_self_eq_true b|.int b,n,h=>beq_self_eq_true b|.str b,n,h=>beq_self_eq_true b|.lst a,n,h=>by simp only[iX,ax]at h;exact oP a _ h.2
 |.tup a,n,h=>by simp only[iX,ax]at h;exact oP a _ h.2
 |.kG a,n,h=>by solve_by_elim
 |.ins _ _ _,n,h=>by solve_by_elim
 |.i9 _ _,n,h=>by solve_by_elim
 |.obj _ _,n,h=>by solve_by_elim
 |.dY _ _,n,h=>by solve_by_elim
theorem oP:∀d n,ip d n=Z'->uh d d=Z'
 |[],n,h=>by simp[uh]
 |x::a,n,h=>by simp only[ip,ax]at h;simp only[uh,GR x n h.1,oP a n h.2,Bool.and_self]
end
section
variable {K:aV}
mutual
theorem cS.inj:∀u g n m {v:V},iX u n=Z'->iX g m=Z'->cS K H u v->cS K H g v->u=g
 |.dC,g,n,m,v,h,d,i,f=>by let e:=gz.mp i;subst e;cases g<;>simp[cS,iX]at f d ⊢
 |.bl b,g,n,m,v,h,d,i,f=>by let e:=dO.mp i;subst e;cases g<;>simp[cS,iX]at f d ⊢<;>exact f
 |.int b,g,n,m,v,h,d,i,f=>by let e:=b8.mp i;subst e;cases g<;>simp[cS,iX]at f d ⊢<;>exact f
 |.str b,g,n,m,v,h,d,i,f=>by let e:=dJ.mp i;subst e;cases g<;>simp[cS,iX]at f d ⊢<;>exact f
 | .lst o,g,n,m,v,h,d,i,f=>by
  let(a,w,rfl,l,r):=cu.mp i;cases g with
  |lst k=>let(b,s,e,j,q):=cu.mp f;cases e;rw[l]at j;cases j;simp only[iX,ax]at h d;rw[aZ.inj o k _ _ h.2 d.2 r q]
  |tup k=>
   obtain _:=cQ.mp f
   simp_all
  |kG k=>simp[iX]at d|ins c t p=>simp[iX]at d|i9 t p=>simp[iX]at d|obj=>simp[iX]at d|dY=>simp[iX]at d|_=>simp[cS]at f
 | .tup o,g,n,m,v,h,d,i,f=>by
  let(a,w,rfl,l,r):=cQ.mp i;cases g with
  |tup k=>let(b,s,e,j,q):=cQ.mp f;cases e;rw[l]at j;cases j;simp only[iX,ax]at h d;rw[aZ.inj o k _ _ h.2 d.2 r q]
  |lst k=>
   obtain _:=cu.mp f
   simp_all
  |kG k=>simp[iX]at d|ins c t p=>simp[iX]at d|i9 t p=>simp[iX]at d|obj=>simp[iX]at d|dY=>simp[iX]at d|_=>simp[cS]at f
 |.kG o,g,n,m,v,h,d,i,f=>by simp[iX]at h
 |.ins _ _ _,g,n,m,v,h,d,i,f=>by simp[iX]at h
 |.i9 _ _,g,n,m,v,h,d,i,f=>by simp[iX]at h
 |.obj _ _,g,n,m,v,h,d,i,f=>by simp[iX]at h
 |.dY _ _,g,n,m,v,h,d,i,f=>by simp[iX]at h
theorem aZ.inj:∀b a n m {d:!V},ip b n=Z'->ip a m=Z'->aZ K H b d->aZ K H a d->b=a
 | [],a,n,m,d,g,f,h,c=>by
  rw[cx.mp h]at c;cases a with
  |nil=>rfl|cons y a=>let(_,_,e,_):=aW.mp c;cases e
 | x::b,a,n,m,d,g,f,h,c=>by
  let(v,r,rfl,q,t):=aW.mp h;cases a with
  |nil=>cases cx.mp c|cons y a=>let(k,l,e,j,i):=aW.mp c;cases e;simp only[ip,ax]at g f;rw[cS.inj x y _ _ g.1 f.1 q j,aZ.inj b a _ _ g.2 f.2 t i]
end
end
section
variable {P:bh}{K:aV}{s:aA}
def Iy(c:nO P w H s.heap)(e:H a=Y (.lst d)):∃b,cf d b/\s.heap.IsList a b.toArray:=by
 let(z,b,n,r,q):=c a _ e;exact(b,r,_,q,W,n,W)
def Iw(c:nO P w H s.heap)(e:H a=Y (.tup d)):∃b,cf d b/\s.heap.IsTuple a b.toArray:=by
 let(z,b,r,q):=c a _ e
 exact Ÿ
open SeqAt
structure AY(A:gM)(s:aA)(u1 u2:au)(b:Bool):Prop where
 rc:RcAt A s u1 u2 b
 ne:RcNeAt A s u1 u2<|not b
 eq:EqAt A s u1 u2 b
theorem K9(j:nO P w H s.heap)(g:A.units<qf){v:D}{m:Nat}{F:au}(u:iX z 0=Z')(i:iX v m=Z')(y:cS K H z E)(h:cS K H v C)(x:RelV E G)(f:RelV C F):
  AY A s G F (N0 z v):=by
 cases z with
 |dC=>
  have e:=gz.mp y;subst e;cases x;cases v with
  |dC=>have e:=gz.mp h;subst e;cases f;exact(.none_none,.none_none,.same _)
  |bl b=>have e:=dO.mp h;subst e;cases f;exact(.none_bool b,.none_bool b,.none_bool b)
  |int b=>have e:=b8.mp h;subst e;let(t,rfl):=f;exact(.none_int b t,.none_int b t,.none_int b t)
  |str b=>have e:=dJ.mp h;subst e;let(t,rfl):=f;exact(.none_str b t,.none_str b t,.none_str b t)
  |lst n=>let(a,r,rfl,q,_):=cu.mp h;cases f;let(k,_,l):=Iy j q;exact(.none_list l g,.none_list l g,.none_list l g)
  |tup n=>let(a,r,rfl,q,_):=cQ.mp h;cases f;let(k,_,l):=Iw j q;exact(.none_tuple l g,.none_tuple l g,.none_tuple l g)
  |_=>simp[iX]at i
 |bl c=>
  have e:=dO.mp y;subst e;cases x;cases v with
  |dC=>have e:=gz.mp h;subst e;cases f;exact(.bool_none c,.bool_none c,.bool_none c)
  |bl b=>have e:=dO.mp h;subst e;cases f;exact(.bool_bool c b,.bool_bool c b,.bool_bool c b)
  |int b=>have e:=b8.mp h;subst e;let(t,rfl):=f;exact(.bool_int c b t,.bool_int c b t,.bool_int c b t)
  |str b=>have e:=dJ.mp h;subst e;let(t,rfl):=f;exact(.bool_str c b t,.bool_str c b t,.bool_str c b t)
  |lst n=>let(a,r,rfl,q,_):=cu.mp h;cases f;let(k,_,l):=Iy j q;exact(.bool_list c l g,.bool_list c l g,.bool_list c l g)
  |tup n=>let(a,r,rfl,q,_):=cQ.mp h;cases f;let(k,_,l):=Iw j q;exact(.bool_tuple c l g,.bool_tuple c l g,.bool_tuple c l g)
  |_=>simp[iX]at i
 |int c=>
  have e:=b8.mp y;subst e;let(d,rfl):=x;cases v with
  |dC=>have e:=gz.mp h;subst e;cases f;exact(.int_none c d,.int_none c d,.int_none c d)
  |bl b=>have e:=dO.mp h;subst e;cases f;exact(.int_bool c d b,.int_bool c d b,.int_bool c d b)
  |int b=>have e:=b8.mp h;subst e;let(t,rfl):=f;exact(.int_int c d b t,.int_int c d b t,.int_int c d b t)
  |str b=>have e:=dJ.mp h;subst e;let(t,rfl):=f;exact(.int_str c d b t,.int_str c d b t,.int_str c d b t)
  |lst n=>let(a,r,rfl,q,_):=cu.mp h;cases f;let(k,_,l):=Iy j q;exact(.int_list c d l g,.int_list c d l g,.int_list c d l g)
  |tup n=>let(a,r,rfl,q,_):=cQ.mp h;cases f;let(k,_,l):=Iw j q;exact(.int_tuple c d l g,.int_tuple c d l g,.int_tuple c d l g)
  |_=>simp[iX]at i
 |str c=>
  have e:=dJ.mp y;subst e;let(d,rfl):=x;cases v with
  |dC=>have e:=gz.mp h;subst e;cases f;exact(.str_none c d,.str_none c d,.str_none c d)
  |bl b=>have e:=dO.mp h;subst e;cases f;exact(.str_bool c d b,.str_bool c d b,.str_bool c d b)
  |int b=>have e:=b8.mp h;subst e;let(t,rfl):=f;exact(.str_int c d b t,.str_int c d b t,.str_int c d b t)
  |str b=>have e:=dJ.mp h;subst e;let(t,rfl):=f;exact(.str_str c d b t,.str_str c d b t,.str_str c d b t)
  |lst n=>let(a,r,rfl,q,_):=cu.mp h;cases f;let(k,_,l):=Iy j q;exact(.str_list c d l g,.str_list c d l g,.str_list c d l g)
  |tup n=>let(a,r,rfl,q,_):=cQ.mp h;cases f;let(k,_,l):=Iw j q;exact(.str_tuple c d l g,.str_tuple c d l g,.str_tuple c d l g)
  |_=>simp[iX]at i
 |_=>simp[iX]at u
def AY.refs(a:RcAt A s (.ref l) (.ref b) k)(c:RcNeAt A s (.ref l) (.ref b)<|not k)(h:l=b->k=Z'):AY A s (.ref l) (.ref b) k:=by
 refine(a,c,?_);by_cases e:l=b
 .subst e;rw[h W];exact .same _
 .exact .of_refs e a
def Rw(h:b.length≠a.length):uh b a=false:=by
 simp_all [vq,NV]
def GF{m}(ih:∀(h g:D) (l k:V) (t p:au),iX h n=Z'->iX g m=Z'->cS K H h l->cS K H g k->RelV l t->RelV k p->AY A s t p (N0 h g))(L:ip d n=Z')(J:ip c m=Z')(r:aZ K H d i)(q:aZ K H c o)(w:cf i b)(x:cf o a)(j:Nat)(P:j<b.toArray.size)(O:j<a.toArray.size):
  EqAt A s b.toArray[j] a.toArray[j] (N0 (d.getD j .dC)<|c.getD j .dC):=by
 have X:=r.length.trans w.length;have U:=q.length.trans x.length;have f:=by simpa using P
 have e:=by simpa using O
 have z:d[j]?=Y (d.getD j .dC):=by rw[NT,ai<|by simp_all];exact Ÿ
 have y:c[j]?=Y (c.getD j .dC):=by rw[NT,ai<|by lia];exact Ÿ
 let(v,T,I):=r.get z;let(u,S,G):=q.get y;let(C,R,F):=w.get T;let(B,Q,E):=x.get S;have N:=by
  have:b[j]?=Y b.toArray[j]:=by simp
  rw[R]at this;exact bE this.symm
 have Da:=by
  have:a[j]?=Y a.toArray[j]:=by simp
  rw[Q]at this;exact bE this.symm
 rw[N,Da];exact(ih _ _ _ _ _ _ (AK L z) (AK J y) I G F E).eq
theorem Q'(g:nO P w H s.heap):∀(n:Nat){A:gM}(_:A.units+n<qf) (J F:D) (m:Nat) (Q O:V) (S R:au),iX J n=Z'->iX F m=Z'->cS K H J Q->cS K H F O->RelV Q S->RelV O R ->
  AY A s S R (N0 J F):=by
 intro n
 induction n with
 |zero=>intro A hu J F m Q O S R C k I o G i;exact K9 g ž C k I o G i
 |succ n ih=>
  intro A hu J F m Q O S R C k I o G i;have d:A.units<qf:=Ž
  have ih':=λ(m':Nat)=>λ(J F:D) (Q O:V) (S R:au)=>ih (A:=A.in1) (by show A.units+1+n<qf;lia) J F m' Q O S R
  cases J with
  |lst p=>
   let(a,vs,rfl,X,Da):=cu.mp I;cases G;let(r,U,l):=Iy g X;cases F with
   |lst h=>
    let(b,us,rfl,x,z):=cu.mp o;cases i;let(f,L,q):=Iy g x;have B:=C;have N:=k;simp only[iX,ax,Nat.add_sub_cancel]at B N;have v:r.toArray.size=p.length:=by rw[bY];exact(Da.length.trans U.length).symm
    have y:f.toArray.size=h.length:=by rw[bY];exact(z.length.trans L.length).symm
    have u:a=b->uh p h=true:=λe=>by subst e;rw[X]at x;cases x;rw[<- aZ.inj p h _ _ B.2 N.2 Da z];exact oP p _ B.2
    show AY A s _ _<|uh p h;by_cases hl:p.length=h.length
    .have E:uh p h=(bJ r.toArray.size).all (λj=>N0 (p.getD j .dC)<|h.getD j .dC):=by rw[vq,<- hl,VV,v];simp
     have it:=GF (ih' _) B.2 N.2 Da z U L;exact .refs (by rw[E];exact .lists l q Ž d it) (by rw[E];exact .lists l q Ž d it) u
    .have E:=Rw hl;have YJ:(r.toArray.size != f.toArray.size)=true:=by rw[v,y];simpa using hl
     refine .refs ?_ ?_ u
     .rw[E];exact .lists_lengths l q YJ d
     .rw[E];exact .lists_lengths l q YJ d
   |tup h=>let(b,us,rfl,x,z):=cQ.mp o;cases i;let(f,L,q):=Iw g x;exact(.list_tuple l q d,.list_tuple l q d,.list_tuple l q d)
   |dC=>have e:=gz.mp o;subst e;cases i;exact(.list_none l d,.list_none l d,.list_none l d)
   |bl b=>have e:=dO.mp o;subst e;cases i;exact(.list_bool b l d,.list_bool b l d,.list_bool b l d)
   |int b=>have e:=b8.mp o;subst e;let(t,rfl):=i;exact(.list_int b t l d,.list_int b t l d,.list_int b t l d)
   |str b=>have e:=dJ.mp o;subst e;let(t,rfl):=i;exact(.list_str b t l d,.list_str b t l d,.list_str b t l d)
   |_=>simp[iX]at k
  |tup p=>
   let(a,vs,rfl,X,Da):=cQ.mp I;cases G;let(r,U,l):=Iw g X;cases F with
   |tup h=>
    let(b,us,rfl,x,z):=cQ.mp o;cases i;let(f,L,q):=Iw g x;have B:=C;have N:=k;simp only[iX,ax,Nat.add_sub_cancel]at B N;have v:r.toArray.size=p.length:=by rw[bY];exact(Da.length.trans U.length).symm
    have y:f.toArray.size=h.length:=by rw[bY];exact(z.length.trans L.length).symm
    have u:a=b->uh p h=true:=λe=>by subst e;rw[X]at x;cases x;rw[<- aZ.inj p h _ _ B.2 N.2 Da z];exact oP p _ B.2
    show AY A s _ _<|uh p h;have E:uh p h=((bJ<|min r.toArray.size f.toArray.size).all (λj=>N0 (p.getD j .dC)<|h.getD j .dC)&&r.toArray.size==f.toArray.size):=by rw[vq,v,y]
    have it:=GF (ih' _) B.2 N.2 Da z U L;exact .refs (by rw[E];exact .tuples l q d it) (by rw[E];exact .tuples l q d it) u
   |lst h=>let(b,us,rfl,x,z):=cu.mp o;cases i;let(f,L,q):=Iy g x;exact(.tuple_list l q d,.tuple_list l q d,.tuple_list l q d)
   |dC=>have e:=gz.mp o;subst e;cases i;exact(.tuple_none l d,.tuple_none l d,.tuple_none l d)
   |bl b=>have e:=dO.mp o;subst e;cases i;exact(.tuple_bool b l d,.tuple_bool b l d,.tuple_bool b l d)
   |int b=>have e:=b8.mp o;subst e;let(t,rfl):=i;exact(.tuple_int b t l d,.tuple_int b t l d,.tuple_int b t l d)
   |str b=>have e:=dJ.mp o;subst e;let(t,rfl):=i;exact(.tuple_str b t l d,.tuple_str b t l d,.tuple_str b t l d)
   |_=>simp[iX]at k
  |kG p=>simp[iX]at C|ins c ks T=>simp[iX]at C|i9 ks T=>simp[iX]at C|obj=>simp[iX]at C|dY=>simp[iX]at C|_=>exact K9 g d W k I o G i
end
def hU(x y:D):↑D:=if (iX x 180&&iX y 180)=Z' then Y (.bl<|N0 x y) else M
def Ba(x y:D):↑D:=if (iX x 180&&iX y 180)=Z' then Y (.bl<|not<|N0 x y) else M
section
variable {X:Cx}
set_option tactic.hygienic true
def FV(h:d7 k X.A):AS X (c7 .Eq) hU:=by
 intro e s n H x y v u Q I g f (G,m,l,d,c,j,i,a,q);unfold hU at a;split at a
 .rename_i b;rw[ax]at b;cases a;let o:=h.un;exact(Q' I.gf 180 Ž m l 180 x y v u b.1 b.2 (j.all c) (i.all c) g f).rc _ _ _ _ (.bl _,H,I,W,q _ G H (.refl c)<|dO.mpr W)
 .cases a
def PN(h:d7 k X.A):AS X (c7 .NotEq) Ba:=by
 intro e s n H x y v u Q I g f (G,m,l,d,c,j,i,a,q);unfold Ba at a;split at a
 .rename_i b;rw[ax]at b;cases a;let o:=h.un;exact(Q' I.gf 180 Ž m l 180 x y v u b.1 b.2 (j.all c) (i.all c) g f).ne _ _ _ _ (.bl _,H,I,W,q _ G H (.refl c)<|dO.mpr W)
 .cases a
set_option tactic.hygienic false
noncomputable def JJ:D->D->↑D
 |.int i,.int j=>Y (.bl<|decide (i<j))|_,_=>M
noncomputable def Iz:D->D->↑D
 |.int i,.int j=>Y (.bl<|decide (j<i))|_,_=>M
noncomputable def oGe:D->D->↑D
 |.int i,.int j=>Y (.bl<|decide (j<=i))|_,_=>M
def B'{f}{g':Int->Int->D}(h:mT X f<|rI C g)(a:∀x y d,o x y=Y d->∃i j,x=.int i/\y=.int j/\C i j/\d=g' i j)(b:∀i j G,cS X.K G (g' i j)<|g i j):AS X f o:=
 mT.imp h <|by rintro x y H Q ⟨G,p,n,d,l,k,e,m,q⟩;let(i,j,rfl,rfl,c,rfl):=a _ _ _ m;exact(i,j,k.int,e.int,c,q _ G H (.refl l)<|b i j G)
def Kh{f}(h:mT X f<|Sw g):mT X f<|rI (λc c=>True) g:=mT.imp h <|by rintro x y H Q ⟨i,j,b,a,_,q⟩;exact(i,j,b,a,q)
def agC:AS X (c7 .Lt) JJ:=B' (Kh abf) (λx y d h=>by unfold JJ at h;split at h<;>cases h<;>simp) λi j G=>dO.mpr W
def Wv:AS X (c7 .Gt) Iz:=B' (Kh Wo) (λx y d h=>by unfold Iz at h;split at h<;>cases h<;>simp_all) λi j G=>dO.mpr W
def agE:AS X (c7 .GtE) oGe:=B' (Kh abg) (g':=λi j =>.bl<|decide (j<=i)) (λx y d h=>by unfold oGe at h;split at h<;>cases h;exact(_,_,W,W,trivial,W)) λi j G=>dO.mpr W
noncomputable def px:D->D->↑D
 |.int i,.int j=>Y (.int<|i-j)|_,_=>M
def X9:AS X (dr .Sub) px:=B' (Kh Ip) (λx y d h=>by unfold px at h;split at h<;>cases h<;>simp_all) λi j G=>b8.mpr W
noncomputable def fS:D->D->↑D
 |.int i,.int j=>if 0<j then Y (.int<|i%j) else M
 |_,_=>M
def aeW:AS X (dr .Mod) fS:=B' X2 λx y d h=>by
 unfold fS at h;split at h<;>try (cases h)
 simp_all λi j G=>b8.mpr W
noncomputable def kf:D->D->↑D
 |.int i,.int j=>if 0<j/\j<2 ^ 64 then Y (.int<|i/j) else M
 |_,_=>M
def Po:mT X (dr .FloorDiv)<|rI (λc j=>0<j/\j<2 ^ 64) λi j =>.int<|i/j:=opI λi j c c c c c a q=>by
 let b:j.natAbs<2 ^ 64:=by omega
 refine floordiv_int Ž (by rw[NU i<|by lia];exact q)<|.inl<|PyProof.noPylong_of_log2 ?_;have:=(Nat.log2_lt ŷ).mpr b
 lia
def adi:AS X (dr .FloorDiv) kf:=B' Po λx y d h=>by
 unfold kf at h;split at h<;>try (cases h)
 simp_all λi j G=>b8.mpr W
noncomputable def dQ:Nat:=1000000
def eQ:dQ<=a7:=by decide
def gA:D->D->↑D
 |.int i,.int j=>Y (.int<|i+j)|.str x,.str y=>if x.length+y.length<=dQ then Y (.str<|x++y) else M
 |.lst xs,.lst a=>if xs.length+a.length<=dQ then Y (.lst<|xs++a) else M
 |_,_=>M
set_option tactic.hygienic true in
def aeX:AS X (dr .Add) gA:=by
 refine mT.imp (X4.or<|Iq.or Pp) ?_;rintro x y H Q ⟨G,u,t,d,e,h,g,c,q⟩;unfold gA at c;split at c<;>try (cases c;done)
 .cases c;exact .inl (_,_,h.int,g.int,q _ G H (.refl e)<|b8.mpr W)
 .split at c
  .cases c;rename_i f;exact .inr<|.inl (_,_,h.str,g.str,bB f eQ,q _ G H (.refl e)<|dJ.mpr W)
  .cases c
 .split at c
  .cases c;rename_i f;let(a,l,s,o,j):=h.lst e;let(b,m,r,n,i):=g.lst e;refine .inr (.inr (a,b,l,m,s,r,o,n,?_,λp k=>q _ _ _ (fT.alloc e k) ?_))
   .rw[<- j.length,<- i.length];exact bB f eQ
   .exact cu.mpr (p,_,W,a9,aZ.mono (.alloc<|e.free k) _<|j.append i)
  .cases c
instance:DecidablePred λp:Int×Int=>Se p.1 p.2:=λp=>by unfold Se;infer_instance
def u6:D->D->↑D
 |.int i,.int j=>if (-(2 ^ 64)<i/\i<2 ^ 64)\/(-(2 ^ 64)<j/\j<2 ^ 64) then Y (.int<|i*j) else M
 |.lst a,.int k=>if (-(2 ^ 63)<=k/\k<2 ^ 63)/\a.length*k.toNat<=dQ then Y (.lst (bC k.toNat a).flatten) else M
 |_,_=>M
set_option tactic.hygienic true in
def aeV:AS X (dr .Mult) u6:=by
 refine mT.imp (XZ.or XY) ?_;rintro x y H Q ⟨G,o,n,d,c,i,h,b,q⟩;unfold u6 at b;split at b<;>try (cases b)
 .split at b
  .cases b;rename_i l;exact .inl (_,_,i.int,h.int,l,q _ G H (.refl c)<|b8.mpr W)
  .cases b
 .split at b
  .cases b;rename_i e;let(a,j,m,k,f):=i.lst c;refine .inr (a,_,j,m,h.int,k,e.1.1,e.1.2,?_,λp g=>q _ _ _ (fT.alloc c g) ?_)
   .rw[<- f.length];exact bB e.2 eQ
   .exact cu.mpr (p,_,W,a9,aZ.mono (.alloc<|c.free g) _<|f.rep _)
  .cases b
noncomputable def e1(o:D->↑D)(a:DF):DF:=λρ=>(a ρ).bind o
def La(h:e1 o a b=Y d):∃x,a b=Y x/\o x=Y d:=by
 let(x,c,h):=aa.1 h;rw[c];exact(x,W,h)
noncomputable def FY:D->↑D
 |.int i=>Y (.int<|-i)|_=>M
def afW{b}{f}{c}(j:PE X a<|tQ X.K b f):PE X (.UnaryOp .USub a c)<|tP X.K b<|e1 FY f:=(Kd HP j).imp <|by
 rintro r H Q ⟨G,h,d,l,e,n,k⟩;let(x,m,g):=La n;cases x<;>simp[FY]at g
 subst g;exact(G,h,_,l,e,m,λv p o q i=>(_,i.int,k _ p o q<|b8.mpr W))
end
inductive DO where
 |nx (ρ:bL)|rt (d:D)|ro (ds:!D)|bk (ρ:bL)|ct (ρ:bL)
 |rm (d:D) (ρ:bL)
 |rf (i:Nat) (ρ:bL)
 |ex (c:aP) (n:Int)
abbrev DG:=bL->↑DO
structure Bs where
 g:Hp
 h:Hp
 pin:!(Nat×aH)
 fly:aP->Int->Prop
def j9(K:aV)(G H:Hp):D->aH->!aH->Prop
 |.obj s t,a,S=>cm K G H s t (.ref a) S|.dY _ _,_,S=>S=[]|d,a,S=>(∃o,H a=Y o/\iq K G d o)/\S=[a]
noncomputable def wD:D->Bool
 |.lst _=>Z'|.ins _ _ _=>Z'|.i9 _ _=>Z'|_=>Z_
def iq.wD{K:aV}(h:iq K G d o):wD d=true:=by
 cases d<;>first|rfl|exact h.elim
def j9.cell{K:aV}{d}{a}{S:!aH}(b:wD d=Z'):j9 K G H d a S↔(∃o,H a=Y o/\iq K G d o)/\S=[a]:=by
 cases d<;>first|exact e_|cases b
def j9.here{K:aV}{a:aH}{S:!aH}(h:j9 K G H d a S):∀b∈S,∃o,H b=Y o:=λb c=>by
 cases d with
 |obj s t=>let(o,h,_):=cm.here h b c;exact Ÿ
 |dY r p=>rw[h]at c;cases c|_=>obtain⟨⟨o,e,_⟩,omega⟩:=h;grind
def j9.mono{K:aV}{d}{S}(g:a_ G G')(k:∀b∈S,∀o,H b=Y o->H' b=Y o)(h:j9 K G H d a S):j9 K G' H' d a S:=by
 cases d with
 |obj s t=>exact cm.mono g k h|dY r p=>exact h|_=>obtain⟨⟨o,e,c⟩,rfl⟩:=h;exact((o,k a Ÿ o e,iq.mono g c),W)
structure oS(K:aV)(B:Bs)(Z:!Nat)(G H:Hp)(σ:St)(ρ:bL)(F:Nat->!aH):Prop where
 it:∀(i:Nat) (d:D),i∈Z->ρ[i]?=some (some d)->∃a,σ[i]?=some (some<|.ref a)/\j9 K G H d a (F i)
 ok:∀(i:Nat) (d:D),i∈Z->ρ[i]?=some (some d)->(F i).Nodup/\∀b∈F i,G b=none/\B.2 b=none
 ap:∀(i j:Nat) (d c:D),i∈Z->j∈Z->ρ[i]?=some (some d)->ρ[j]?=some (some c)->i≠j->∀b∈F i,b∉F j
structure SR(K:aV)(B:Bs)(Z:!Nat)(G H:Hp)(σ:St)(ρ:bL):Prop where
 gh:a_ G H
 g0:a_ B.1 G
 h0:a_ B.2 H
 fr:∀b o,G b=some o->B.1 b=some o\/B.2 b=none
 env:∀(i:Nat) (d:D),i∉Z->ρ[i]?=some (some d)->∃v,σ[i]?=some (some v)/\cS K G d v
 ow:∃F,oS K B Z G H σ ρ F
 len:σ.length=ρ.length
 pin:∀(i:Nat) (a:aH),(i,a)∈B.3->i∈Z/\σ[i]?=some (some<|.ref a)
 dY:∀(j r:Nat) (p:CN),j∈Z->ID j∈Z->ρ[j]?=some (some<|.dY r p)->Hl Z H σ ρ j r p
section
variable {K:aV}
def SR.m4(S:SR K B Z G H C A):fT B.1 B.2 G H:=(S.h0,S.g0,S.gh,S.fr)
def SR.Pj(S:SR K B Z G H C A)(b:i∈Z)(e:A[i]?=Y (Y d))(c:wD d=Z'):∃a o,C[i]?=Y (Y<|.ref a)/\H a=Y o/\iq K G d o/\G a=M/\B.2 a=none:=by
 refine ae λkk =>?_
 let(F,Da):=S.ow;let(a,n,m):=Da.it i d b e;obtain _:=(j9.cell c).mp m;obtain _:=Da.ok i d b e;refine kk ?_
 simp_all
def SR.i6(S:SR K B Z G H C A):ja K Z G H C A:=(S.len,λi d e=>by
 by_cases j:i∈Z
 .let(F,Da):=S.ow;let(a,q,f):=Da.it i d j e;refine(_,q,?_);rw[if_pos j];let(_,m):=Da.ok i d j e;cases d with
  |obj s t=>
   generalize F i=u at f m;cases f with
   |leaf r=>solve_by_elim|lst e t=>exact .inr (a,_,W,e,_,.lst e t,λb k=>(m b k).1)
   |ins n e l t=>exact .inr (a,_,W,e,_,.ins n e l t,λb k=>(m b k).1)
   |i9 e l t=>exact .inr (a,_,W,e,_,.i9 e l t,λb k=>(m b k).1)
  |dY r p=>solve_by_elim|lst=>obtain⟨⟨o,g,c⟩,h⟩:=f;exact .inr (a,o,W,g,c)
  |ins=>obtain⟨⟨o,g,c⟩,h⟩:=f;exact .inr (a,o,W,g,c)
  |i9=>obtain⟨⟨o,g,c⟩,h⟩:=f;exact .inr (a,o,W,g,c)
  |_=>obtain⟨⟨o,g,c⟩,h⟩:=f;exact c.elim
 .obtain _:=S.env i d j e
  simp_all,S.dY)
def fE{l:!(↑b)}(h:(l.set i<|Y x)[j]?=Y (Y y)):(i=j/\y=x/\i<l.length)\/(i≠j/\l[j]?=Y (Y y)):=by
 by_cases e:i=j
 .subst e;by_cases a:i<l.length<;>simp_all
 .rw[aq e]at h;exact .inr (e,h)
def pM{l:!(↑a)}(h:i<l.length):(l.set i<|Y x)[i]?=Y (Y x):=by rw[aX h]
def oS.ext{F:Nat->!aH}(Da:oS K B Z G H C A F)(E:fT G H G' H'):oS K B Z G' H' C A F:=by
 refine(λi d c e =>?_,λi d c e =>?_,Da.ap)
 .let(a,h,g):=Da.it i d c e;exact(a,h,g.mono E.gg λb j o=>E.hh b o)
 .let(a,h,g):=Da.it i d c e;let(n,k):=Da.ok i d c e;refine(n,λb f=>(?_,(k b f).2));obtain _:=g.here b f;rcases q:G' b with _|u
  .rfl
  obtain z|z:=E.fr b u q<;>simp_all
def SR.ext(S:SR K B Z G H C A)(E:fT G H G' H'):SR K B Z G' H' C A:=by
 refine(E.gh,S.g0.trans E.gg,S.h0.trans E.hh,λb o e =>?_,λi d a e =>?_,?_,S.len,S.pin,λj r p f c e=>(S.dY j r p f c e).ext E.hh)
 .obtain q|q:=E.fr b o e
  .exact S.fr b o q
  .exact .inr<|S.h0.free q
 .let(v,h,g):=S.env i d a e;exact(v,h,cS.mono E.gg d g)
 .let(F,Da):=S.ow;exact(F,Da.ext E)
def SR.wa{v:V}(S:SR K B Z G H C A)(P:i∉Z)(r:cS K G d v):SR K B Z G H (C.set i<|Y v)<|A.set i<|Y d:=by
 have f:∀j,j∈Z->i≠j:=λj b e=>P<|e ▸ b
 refine(S.gh,S.g0,S.h0,S.fr,λj c b e =>?_,?_,by simp[S.len],λj a h=>((S.pin j a h).1,by rw[aq<|f j (S.pin j a h).1];exact(S.pin j a h).2),λj k p q R e =>?_)
 .obtain⟨rfl,rfl,u⟩|⟨n,e⟩:=fE e
  .exact(v,pM (by rw[S.len];exact u),r)
  .obtain _:=S.env j c b e
   simp_all
 .let(F,Da):=S.ow;have m:∀j c,j∈Z->(A.set i<|Y d)[j]?=Y (Y c)->A[j]?=Y (Y c):=λj c b e=>by simp_all
  refine(F,λj c b e =>?_,λj c b e=>Da.ok j c b<|m j c b e,λj k c t b s U T=>Da.ap j k c t b s (m j c b U)<|m k t s T);obtain _:=Da.it j c b<|m j c b e
  simp_all
 .rw[aq<|f j q]at e;let(o,Q,z,y,E,w,x,l,g,e3,X):=S.dY j k p q R e;exact(o,Q,z,y,E,w,x,Ż,Ż,Ż,X)
def SR.Jw{i:Nat}{a}{d'}{S' F0:!aH}{F:Nat->!aH}(S:SR K B Z G H C A)(Da:oS K B Z G H C A F)(hi:i∈Z)(h0:∀b∈F0,b∈F i/\∃d,A[i]?=Y (Y d))(gg:a_ G G')(gh:a_ G' H')(fr:∀b o,G' b=Y o->G b=Y o\/H b=M\/b∈F0)(v:∀b o,b∉F0->H b=Y o->H' b=Y o)(nw:j9 K G' H' d' a S')(nd:S'.Nodup)(nf:∀b∈S',G' b=M/\(b∈F0\/H b=M\/(B.2 b=M/\∀k c,k∈Z->A[k]?=Y (Y c)->k≠i->b∉F k)))(afk:∀b,(i,b)∈B.3->b=a)(hna:∀r p,d' ≠ .dY r p)(ha:∀j p,j∈Z->ID j∈Z->j≠i->A[j]?=Y (Y<|.dY i p)->∃s t s' v',d'=.obj s t/\C[j]?=Y (Y v')/\dS H' p (.ref a)=Y v'/\kz p s=Y s'):
  SR K B Z G' H' (C.set i<|Y<|.ref a) (A.set i<|Y d')/\oS K B Z G' H' (C.set i<|Y<|.ref a) (A.set i<|Y d') (λj=>if j=i then S' else F j):=by
 have b0:∀b∈F0,G b=M/\B.2 b=none:=λb g=>by let(X,d,U):=h0 b g;exact(Da.ok i d hi U).2 b X
 have P:∀j c,j∈Z->A[j]?=Y (Y c)->i≠j->∀b∈F j,b∉F0:=λj c l ej f b g YL=>by let(X,d,U):=h0 b YL;exact Da.ap i j d c hi l U ej f b X g
 have W':oS K B Z G' H' (C.set i<|Y<|.ref a) (A.set i<|Y d')<|λj=>if j=i then S' else F j:=by
  refine(λj c l e =>?_,λj c l e =>?_,λj k c c' l hk ej ek hjk =>?_)
  .obtain⟨rfl,rfl,Q⟩|⟨f,e⟩:=fE e
   .exact(a,pM (by rw[S.len];exact Q),by simpa using nw)
   .let(b,R,I):=Da.it j c l e;refine(b,by rw[aq f];exact R,?_);simp only[if_neg<|bw f];exact I.mono gg λx hx o=>v x o<|P j c l e f x hx
  .obtain⟨rfl,rfl,Q⟩|⟨f,e⟩:=fE e
   .simp only[if_true];refine(nd,λb g=>((nf b g).1,?_));rcases(nf b g).2 with z|z|z
    .exact(b0 b z).2
    .exact S.h0.free z
    .exact z.1
   .simp only[if_neg<|bw f];let(n,k):=Da.ok j c l e;let(x,R,I):=Da.it j c l e;refine(n,λb g=>(?_,(k b g).2));rcases q:G' b with _|u
    .rfl
    obtain z|z|z:=fr b u q
    .rw[(k b g).1]at z;cases z
    .let(o,ho):=I.here b g;rw[ho]at z;cases z
    .exact absurd z<|P j c l e f b g
  .have y:∀m c,m∈Z->A[m]?=Y (Y c)->i≠m->∀b∈S',b∉F m:=λm c hm em f b g T=>by
    rcases(nf b g).2 with z|z|z
    .exact P m c hm em f b T z
    .let(x,R,I):=Da.it m c hm em;let(o,ho):=I.here b T;rw[ho]at z;cases z
    .exact z.2 m c hm em (bw f) T
   obtain⟨rfl,rfl,Q⟩|⟨f,ej1⟩:=fE ej
   .obtain⟨rfl,_,_⟩|⟨f,ek1⟩:=fE ek
    .exact absurd W hjk
    .simp only[if_true,if_neg<|bw f];exact y k c' hk ek1 f
   .obtain⟨rfl,rfl,Q⟩|⟨afp,ek1⟩:=fE ek
    .simp only[if_true,if_neg<|bw f];exact λb g Z8=>y j c l ej1 f b Z8 g
    .simp only[if_neg<|bw f,if_neg<|bw afp];exact Da.ap j k c c' l hk ej1 ek1 hjk
 refine((gh,S.g0.trans gg,λb o e =>?_,λb o e =>?_,λj c l e =>?_,(_,W'),by simp[S.len],λj b h =>?_,λj r p X U e =>?_),W')
 .refine v b o (λz =>?_)<|S.h0 b o e;rw[(b0 b z).2]at e;cases e
 .obtain z|z|z:=fr b o e
  .exact S.fr b o z
  .exact .inr<|S.h0.free z
  .exact .inr (b0 b z).2
 .let f:i≠j:=λz=>l (z ▸ hi)
  rw[aq f]at e;let(u,R,I):=S.env j c l e;exact(u,by rw[aq f];exact R,cS.mono gg c I)
 .let(p1,p2):=S.pin j b h;refine(p1,?_);by_cases hij:i=j
  .subst hij;rw[afk b h,aX (ah.mp p2).1]
  .rw[aq hij];exact p2
 .obtain⟨rfl,z,Q⟩|⟨f,e'⟩:=fE e
  .exact absurd z.symm<|hna r p
  .clear e;let e:=e';clear e';by_cases E:r=i
   .refine ae λkk =>?_
    subst E;let(s,t,s',v',f1,f2,f3,f4):=ha j p X U (bw f) e;let(g1,g0,s0,t0,s1,w,v1,g2,g3,g4,g5,g6,g7):=S.dY j r p X U e;have Q:r<A.length:=(ah.mp g2).1;refine kk<|(hi,g0,s,t,s',.ref a,v',?_,pM (by rw[S.len];exact Q),?_,f3,f4,g7)
    .rw[pM Q,f1]
    .rw[aq f];exact f2
   .refine ae λkk =>?_
    let(g1,g0,s0,t0,s1,w,v1,g2,g3,g4,g5,g6):=S.dY j r p X U e;let(x,R,I):=Da.it r _ g1 g2;rw[g3]at R;cases R;refine kk<|(g1,g0,s0,t0,s1,.ref x,v1,by rw[aq<|bw E];exact g2,by rw[aq<|bw E];exact g3,by rw[aq f];exact g4,?_,g6);exact cm.DJ (show cm K G H s0 t0 (.ref x)<|F r from I) g6.1 (λb g o=>v b o<|P r _ g1 g2 (bw E) b g) g5
def SR.chg{i:Nat}{a}{d'}{S' F0:!aH}{F:Nat->!aH}(S:SR K B Z G H C A)(Da:oS K B Z G H C A F)(q:i∈Z)(v:∀b∈F0,b∈F i/\∃d,A[i]?=Y (Y d))(x:a_ G G')(w:a_ G' H')(y:∀b o,G' b=Y o->G b=Y o\/H b=M\/b∈F0)(c:∀b o,b∉F0->H b=Y o->H' b=Y o)(m:j9 K G' H' d' a S')(n:S'.Nodup)(h:∀b∈S',G' b=M/\(b∈F0\/H b=M))(e:∀b,(i,b)∈B.3->b=a)(f:∀r p,d' ≠ .dY r p)(u:∀j p,j∈Z->ID j∈Z->j≠i->A[j]?=Y (Y<|.dY i p)->∃s t l g,d'=.obj s t/\C[j]?=Y (Y g)/\dS H' p (.ref a)=Y g/\kz p s=Y l):
  SR K B Z G' H' (C.set i<|Y<|.ref a) (A.set i<|Y d'):=
 (S.Jw Da q v x w y c m n (λb k=>((h b k).1,by rcases(h b k).2 with z|z;exact .inl z;exact .inr<|.inl z)) e f u).1
def SR.Ww(S:SR K B Z G H C A)(b:A[i]?=Y (Y d))(c:wD d=Z'):∀j p,j∈Z->ID j∈Z->A[j]?=Y (Y<|.dY i p)->False:=λj p g f e=>by
 let(n,o,m,k,l,w,h,a,_):=S.dY j i p g f e;rw[b]at a;cases a;cases c
def Et(a:wD d=Z'):∀r p,d ≠ .dY r p:=λr p e=>by subst e;cases a
def SR.setC(S:SR K B Z G H C A)(m:i∈Z)(E:fT G H G' H')(k:H p=M)(t:G' p=M)(g:H' p=Y o)(r:iq K G' d o)(c:∀a,(i,a)∉B.3)(l:Br i∉Z):SR K B Z G' H' (C.set i<|Y<|.ref p)<|A.set i<|Y d:=by
 let(F,Da):=S.ow;exact S.chg (F0:=[]) Da m (λb f=>by cases f) E.gg E.gh λb o e=>by obtain z|z:=E.fr b o e<;>simp_all (λb o u e=>E.hh b o e)
  ((j9.cell r.wD).mpr ((o,g,r),W)) ż λb f=>by simp_all (λb h=>absurd h<|c b) (Et r.wD) λj q s n u e=>(l (S.dY j i q s n e).2.1).elim
def SR.abo{f:HO}(S:SR K B Z G H C A)(m:i∈Z)(g:A[i]?=Y (Y d))(l:C[i]?=Y (Y<|.ref a))(r:iq K G p f)(s:@&(wD d=true)):SR K B Z G (cU H a f) C<|A.set i<|Y p:=by
 let(F,Da):=S.ow;let(z,v,y):=Da.it i d m g;rw[l]at v;cases v;obtain⟨⟨o,_⟩,u⟩:=(j9.cell s).mp y;let(n,k):=Da.ok i d m g;rw[u]at k;have t:=(k a Ÿ).1;have:=S.chg (F0:=[a]) Da m (λb c=>(Ž,d,g)) (a_.refl _) (λb o e=>by rw[aO<|bf e t];exact S.gh b o e) (λb o e =>.inl e)
  λb o c e=>by simp_all [aO] ((j9.cell r.wD).mpr ((f,a9,r),W)) ż λb c=>by simp_all
  λb h=>by have:=(S.pin i b h).2;simp_all (Et r.wD) λj q x w D e=>(S.Ww g s j q x w e).elim
 simp_all [eY]
def SR.Tv{p:aH}(S:SR K B Z G H C A)(h:i∈Z)(E:fT G H G' H')(f:H p=M)(j:G' p=M)(e:H' p=Y (.lst c))(r:aZ K G' d c)(b:∀a,(i,a)∉B.3)(g:Br i∉Z):SR K B Z G' H' (C.set i<|Y<|.ref p)<|A.set i<|Y<|.lst d:=
 S.setC h E f j e (c,W,r) b g
def SR.mut(S:SR K B Z G H C A)(e:i∈Z)(f:A[i]?=Y (Y<|.lst g))(d:C[i]?=Y (Y<|.ref a))(r:aZ K G c b):SR K B Z G (cU H a<|.lst b) C<|A.set i<|Y<|.lst c:=
 S.abo e f d (b,W,r)
def SR.freeze{Ź:!Nat}(S:SR K B Z G H C A)(f:∀j∈Ź,j∈Z)(i:Nat)(Q:∀j∈Z,j∈Ź\/j=i)(hn:i∉Ź)(P:i∈Z)(U:∀a,(i,a)∉B.3)(T:Br i∉Z)(QC:i<1000000):∃G',SR K B Ź G' H C A:=by
 let(F,Da):=S.ow;have I:∀(j:Nat) (a:aH),(j,a)∈B.3->j∈Ź/\C[j]?=Y (Y<|.ref a):=λj a h=>(by
  obtain z|z:=Q j (S.pin j a h).1
  .exact z
  .subst z;exact absurd h<|U a,(S.pin j a h).2)
 by_cases R:∃d,A[i]?=Y (Y d)
 .let(d,R):=R;let(a,e1,E):=Da.it i d P R;let(nd,k):=Da.ok i d P R;let n0:=λb D=>(k b D).1
  let l:a_ G<|iB G H<|F i:=ku n0;let rep:cS K (iB G H<|F i) d<|.ref a:=by
   cases d with
   |obj s t=>exact m8.mpr<|cm.frozen n0 (λb D=>D)<|E
   |dY r p=>exact yc.mpr (a,W)|dC=>obtain⟨⟨o,q,g⟩,x⟩:=E;exact g.elim
   |bl=>obtain⟨⟨o,q,g⟩,x⟩:=E;exact g.elim
   |int=>obtain⟨⟨o,q,g⟩,x⟩:=E;exact g.elim
   |str=>obtain⟨⟨o,q,g⟩,x⟩:=E;exact g.elim
   |tup=>obtain⟨⟨o,q,g⟩,x⟩:=E;exact g.elim
   |kG=>obtain⟨⟨o,q,g⟩,x⟩:=E;exact g.elim
   |_=>obtain⟨⟨o,q,g⟩,x⟩:=E;exact(iq.mono l g).rep (by rw[m_<|by rw[x];solve_by_elim];exact q)
  refine(iB G H<|F i,jA S.gh,S.g0.trans l,S.h0,λb o e =>?_,λj c n e =>?_,(F,λj c n e =>?_,λj c n e =>?_,λj m c c' n T=>Da.ap j m c c' (f j n)<|f m T),S.len,I,λj r p h1 h2 e =>?_)
  .by_cases D:b∈F i
   .exact .inr (k b D).2
   .rw[jP D]at e;exact S.fr _ _ e
  .by_cases v:j∈Z
   .obtain z|z:=Q j v<;>simp_all
   .let(u,q,g):=S.env j c v e;exact(u,q,cS.mono l c g)
  .let(b,q,g):=Da.it j c (f j n) e;exact(b,q,g.mono l λJ J J z=>z)
  .let(nd',k'):=Da.ok j c (f j n) e;refine(nd',λb D=>(?_,(k' b D).2));rw[jP<|λz=>Da.ap i j d c P (f j n) R e (λz=>hn<|z ▸ n) b z D];exact(k' b D).1
  .let(g1,X,s0,t0,s1,w,v1,g2,g3):=S.dY j r p (f j h1) (f _ h2) e;obtain z|z:=Q r g1
   .obtain y|y:=Q _ X
    .exact(z,y,s0,t0,s1,w,v1,g2,g3)
    .unfold Br at y;lia
   simp_all
 .refine(G,S.gh,S.g0,S.h0,S.fr,λj c n e =>?_,(F,λj c n e=>Da.it j c (f j n) e,λj c n e=>Da.ok j c (f j n) e,λj m c c' n T=>Da.ap j m c c' (f j n)<|f m T),S.len,I,λj r p h1 h2 e =>?_)
  .by_cases v:j∈Z
   .grind
   .exact S.env j c v e
  .let(g1,X,s0,t0,s1,w,v1,g2,g3):=S.dY j r p (f j h1) (f _ h2) e;obtain z|z:=Q r g1
   .obtain y|y:=Q _ X
    .exact(z,y,s0,t0,s1,w,v1,g2,g3)
    .unfold Br at y;lia
   simp_all
end
def agc(K:aV)(B:Bs)(I Z:!Nat)(e:Ends):DO->Prop
 |.nx A=>∀C G H,SR K B Z G H C A->e.nx C H|.rt d=>∀v G H,fT B.1 B.2 G H->cS K G d v->e.rt v H|.ro g=>∀a f G H,fT B.1 B.2 G H->B.2 a=M->G a=M->H a=Y (.lst f)->aZ K G g f->e.rt (.ref a) H|.bk A=>∀C G H,SR K B I G H C A->e.bk C H|.ct A=>∀C G H,SR K B I G H C A->e.ct C H
 |.rm d A=>∀v C G H,(∃b,SR K B b G H C A)->cS K G d v->e.rt v H|.rf i A=>∀v C G H,(∃b,i∈b/\SR K B b G H C A)->C[i]?=Y (Y v)->e.rt v H|.ex c n=>B.fly c n
inductive gO (K:aV) (B:Bs) (I Z a:!Nat) (g:DG) (b:Ends) (C:St) (H:Hp):Prop
 |mk G A o:SR K B Z G H C A->g A=some o->agc K B I a b o->gO K B I Z a g b C H
section
variable {X:Cx}
noncomputable def c8:DG:=λA=>Y<|.nx A
def fH:nY X []<|gO X.K B I Z Z c8:=Ka.imp <|by rintro D C H ⟨G,A,o,S,a,k⟩;cases a;exact Ÿ
noncomputable def aR(g h:DG):DG:=λA=>(g A).bind λo=>match o with|.nx a=>h a|o=>Y o
def Xt{K:aV}{e:Ends}(q:gO K B I Z L (aR g h) e C H):gO K B I Z own1 g { e with nx:=λC H=>gO K B I own1 L h e C H } C H:=by
 let(G,A,o,S,a,k):=q;let(f,l,a):=aa.1 a;refine(G,A,f,S,l,?_);cases f with
 |nx b=>exact λj G' H' m=>(G',b,o,m,a,k)
 |_=>cases a;exact k
def av(b:PS X N<|gO X.K B I Z own1 g)(a:nY X O<|gO X.K B I own1 L h):nY X (N::O)<|gO X.K B I Z L<|aR g h:=(oz b a).imp λD C H q=>Xt q
def bW(a:PS X N<|gO X.K B I Z own1 g):nY X [N]<|gO X.K B I Z own1 g:=m9 a
def pB{b:!cH}(i:Nat)(n:nY X b<|gO X.K B I own1 L g)(d:‹∀j∈own1,j∈Z›)(m:‹∀j∈Z,j∈own1\/j=i›)(h:‹i∉own1›)(f:‹i∈Z›)(c:autoParam (∀a,(i,a)∉B.3) ť)(l:‹Br i∉Z›)(e:‹i<1000000›):nY X b<|gO X.K B I Z L g:=
 n.imp <|by rintro D C H ⟨G,A,o,S,p,k⟩;let(G',q):=S.freeze d i m h f c l e;exact(G',A,o,q,p,k)
noncomputable def cM(i:Nat)(f:DF):DG:=λA=>(f A).map λd =>.nx<|A.set i<|Y d
def D7{i:Nat}{f:DF}(n:X.N.Nodup)(j:X.N[i]?=Y x)(c:Loc X.env.scope x)(m:PE X e<|tP X.K Z f)(h:‹i∉Z›)(g:@&(cg e (Y<|.Name x a) J.line X.env=c9 false))(l:autoParam (X.fn x=Z'\/X.env.scope.names.lookup x=Y .local) ŧ):
  PS X (.Assign [.Name x a] e J) (gO X.K B I Z Z<|cM i f):=(km n j c m g l).imp <|by
 rintro D C H ⟨G,A,o,S,b,k⟩;let(d,p,b):=aj.1 b;cases b;exact(G,A,d,S.gh,S.i6,p,λv G' H' E r=>k _ G' H'<|(S.ext E).wa h r)
noncomputable def gU(i:Nat)(f:DL):DG:=λA=>(f A).map λa =>.nx<|A.set i<|Y<|.lst a
def Lf{i:Nat}{f:DL}(u:X.N.Nodup)(q:X.N[i]?=Y x)(g:Loc X.env.scope x)(t:PE X e<|tF X.K Z f)(m:‹i∈Z›)(c:autoParam (∀a,(i,a)∉B.3) ť)(n:‹Br i∉Z›)(j:@&(cg e (Y<|.Name x b) J.line X.env=c9 false))(s:autoParam (X.fn x=Z'\/X.env.scope.names.lookup x=Y .local) ŧ):
  PS X (.Assign [.Name x b] e J) (gO X.K B I Z Z<|gU i f):=(km u q g t j s).imp <|by
 rintro D C H ⟨G,A,o,S,d,k⟩;let(y,w,d):=aj.1 d;cases d;exact(G,A,y,S.gh,S.i6,w,λp z G' H' E l v h r=>k _ G' H'<|S.Tv m E l v h r c n)
noncomputable def fc(f:DF):DG:=λA=>(f A).map .rt
def kB{f:DF}(b:PE X e<|tP X.K Z f):PS X (.Return (Y e) J)<|gO X.K B I Z own1<|fc f:=(pf b).imp <|by
 rintro D C H ⟨G,A,o,S,a,k⟩;let(d,c,a):=aj.1 a;cases a;exact(G,A,d,S.gh,S.i6,c,λv G' H' E r=>k v G' H' (S.m4.trans E) r)
noncomputable def mx(f:DL):DG:=λA=>(f A).map .ro
def yn{f:DL}(h:PE X e<|tF X.K Z f):PS X (.Return (Y e) J)<|gO X.K B I Z own1<|mx f:=(pf h).imp <|by
 rintro D C H ⟨G,A,o,S,a,k⟩;let(d,j,a):=aj.1 a;cases a;exact(G,A,d,S.gh,S.i6,j,λp b G' H' E g i c r=>k p b G' H' (S.m4.trans E) (S.h0.free g) i c r)
def uO(i:Nat):DG:=λA=>(eV i A).bind λd=>match d with|.lst a=>Y (.ro a)|_=>M
def adP{i:Nat}(h:PE X (.Name x p)<|g9 i)(f:‹i∈Z›):PS X (.Return (Y<|.Name x p) J)<|gO X.K B I Z own1<|uO i:=(pf h).imp <|by
 rintro D C H ⟨G,A,o,S,b,k⟩;let(d,g,b):=aa.1 b;cases d<;>simp at b<;>try (done)
 let(a,q,n,m,c,l,j):=S.Pj f (gC g) W;let(e,rfl,c):=c;cases b;exact(_,n,k a e G H S.m4 j l m c)
def OR(i:Nat):DG:=λA=>(eV i A).map λ_ =>.rf i A
def adO{i:Nat}(h:PE X (.Name x p)<|g9 i)(c:‹i∈Z›):PS X (.Return (Y<|.Name x p) J)<|gO X.K B I Z own1<|OR i:=(pf h).imp <|by
 rintro D C H ⟨G,A,o,S,b,k⟩;let(d,f,b):=aj.1 b;cases b;let(F,Da):=S.ow;let(a,e,_):=Da.it i d c<|gC f;exact(_,e,k _ C G H (Z,c,S) e)
noncomputable def g_(f:DT)(g h:DG):DG:=λA=>(f A).bind λb=>if b=Z' then g A else h A
def kg{c:Expr}{b:!cH}{f}(j:PT X c<|p' X.K Z f)(m:nY X a<|gO X.K B I Z own1 g)(l:nY X b<|gO X.K B I Z own1 h):PS X (.If c a b J)<|gO X.K B I Z own1<|g_ f g h:=(FJ j m l).imp <|by
 rintro D C H ⟨G,A,o,S,d,k⟩;let(c,n,d):=aa.1 d;refine(G,A,c,S.gh,S.i6,n,λe p i =>?_);cases c with
 |true=>exact Bv (e,A,o,S.ext i,d,k)|false=>exact MY (e,A,o,S.ext i,d,k)
def gc(i:Nat)(A:bL):↑(!D):=(eV i A).bind λd=>match d with|.lst a=>Y a|_=>M
def dP(h:gc i A=Y a):A[i]?=Y (Y<|.lst a):=by
 let(d,b,h):=aa.1 h;cases d<;>first|(cases h;exact gC b)|cases h
def SR.kU{K:aV}(S:SR K B Z G H C A)(d:i∈Z)(h:A[i]?=Y (Y<|.lst c)):∃a b,C[i]?=Y (Y<|.ref a)/\H a=Y (.lst b)/\aZ K G c b/\G a=M/\B.2 a=none:=by
 obtain⟨a,k,j,g,⟨b,rfl,f⟩,e⟩:=S.Pj d h W;exact(a,b,j,g,f,e)
def my(i:Nat)(f:DF):DG:=λA=>(gc i A).bind λa=>(f A).bind λd=>if a.length<dQ then Y (.nx<|A.set i<|Y<|.lst<|a++[d]) else M
set_option tactic.hygienic true in
def afR{i:Nat}{c b:Pos}{f:DF}(h:PE X (.Name x p)<|g9 i)(R:PE X e<|tP X.K Z f)(t:‹i∈Z›)(m:@&(bT (.Name x p) "append" X.env (eval (.Name x p) X.env)=eval (.Name x p) X.env)) (n:@&(((cB b<|ak (e::[]) X.env).all (λx=> (not x.1))&&(fY b<|cV [] X.env).all (λx=>x.1.isSome)
   && decide ((e::[]).length+([]:!j8).length+(if ([]:!j8).isEmpty then 0 else 1)<30))=true)) (l:@&((c.endLine==b.line)=true)) (z:@&(ak (e::[]) X.env=(Z_,eval e X.env)::ak [] X.env)) (g:@&((cB b<|ak [] X.env).any (·.1)=false)) (s:@&(cg (.Call (.Attribute (.Name x p) "append" c) [e] [] b) M J.line X.env=c9 false)) :
  PS X (.Expr (.Call (.Attribute (.Name x p) "append" c) [e] [] b) J) (gO X.K B I Z Z<|my i f):=
 (jO (uX dg PySem.F.slot_list_append PySem.F.type_list_append iO h (cA R dH z) m n l z g) s).imp <|by
  rintro D C H ⟨G,A,o,S,j,k⟩;let(ds,U,j):=aa.1 j;rw[aa]at j;let(d,w,j):=j;split at j
  .cases j;rename_i Q;let u:=dP U;let(a,P,y,e3,_):=S.kU t u;refine(_,y,.inl (W,P,.of e3),G,A,d,S.gh,S.i6,w,λv G' H' E r =>?_);let L:=S.ext E;refine ae λkk =>?_
   let(a',q,K,T,F,_):=L.kU t u;rw[y]at K;cases K;refine kk<|(a,q,v,W,W,T,?_,k _ G' _<|L.mut t u y<|F.append<|.cons r .nil);rw[<- F.length];exact bo Q eQ
  .cases j
def XI{K:aV}(S:SR K B Z G H C A)(f:j∈Z)(g:A[j]?=Y (Y<|.lst b))(n:b[b.length-1]?=Y d)(k:∀v H',SR K B Z G H' C (A.set j<|Y<|.lst b.dropLast)->cS K G d v->Q v H'):aaN K "list" aa2 (g9 j) C H Q:=by
 let(a,e,l,i,c,_):=S.kU f g;let(v,h,m):=c.get n;rw[c.length]at h;exact(_,l,.inl (W,e,.of i),a,e,v,W,W,i,h,k v _ (S.mut f g l c.dropLast) m)
def J3(i:Nat)(f:DF):DG:=λA=>(gc i A).bind λb=>(f A).bind λd=>match d with|.lst a=>if b.length+a.length<=dQ then Y (.nx<|A.set i<|Y<|.lst<|b++a) else M|_=>M
set_option tactic.hygienic true in
def aad{g:Pos}{f:DF}(h:PE X (.Name x p)<|g9 i)(he:PE X e<|tP X.K Z f)(u:‹i∈Z›)(n:@&(bT (.Name x p) "extend" X.env (eval (.Name x p) X.env)=eval (.Name x p) X.env)) (q:@&(((cB c<|ak (e::[]) X.env).all (λx=> (not x.1))&&(fY c<|cV [] X.env).all (λx=>x.1.isSome)
   && decide ((e::[]).length+([]:!j8).length+(if ([]:!j8).isEmpty then 0 else 1)<30))=true)) (m:@&((g.endLine==c.line)=true)) (L:@&(ak (e::[]) X.env=(Z_,eval e X.env)::ak [] X.env)) (l:@&((cB c<|ak [] X.env).any (·.1)=false)) (t:@&(cg (.Call (.Attribute (.Name x p) "extend" g) [e] [] c) M J.line X.env=c9 false)) :
  PS X (.Expr (.Call (.Attribute (.Name x p) "extend" g) [e] [] c) J) (gO X.K B I Z Z<|J3 i f):=
 (jO (uX dg PySem.F.slot_list_extend PySem.F.type_list_extend ML h (cA he dH L) n q m L l) t).imp <|by
  rintro D C H ⟨G,A,o,S,j,k⟩;let(ds,el,j):=aa.1 j;rw[aa]at j;let(d,y,j):=j;cases d<;>simp only at j<;>try (cases j;done)
  split at j
  .cases j;rename_i es U;let w:=dP el;let(a,R,z,e3,_):=S.kU u w;refine(_,z,.inl (W,R,.of e3),G,A,_,S.gh,S.i6,y,λv G' H' E r =>?_);let F:=S.ext E;refine ae λkk =>?_
   let(a',s,Q,f3,P,_):=F.kU u w;rw[z]at Q;cases Q;let(b,T,rfl,gb,K):=cu.mp r;refine kk<|(a,b,s,T,W,W,f3,F.gh _ _ gb,?_,k _ G' _<|F.mut u w z<|P.append K);rw[<- P.length,<- K.length];exact bB U eQ
  .cases j
def Ft(j:Nat)(b c:DF):DG:=λA=>(c A).bind λd=>(gc j A).bind λa=>(b A).bind λk=>match k with|.int k=>(xU a.length k).map λn =>.nx (A.set j<|Y<|.lst<|a.set n d)|_=>M
set_option tactic.hygienic true
def adQ{g:Expr}{F P:DF}(h:PE X (.Name x p)<|g9 j)(y:PE X g<|tQ X.K Z F)(he:PE X e<|tP X.K Z P)(w:‹j∈Z›)(hg:autoParam (∀ {s t:TE},PE X (.Name x p) s->PE X g t->PG X (.Subscript (.Name x p) g b) (abW s t Wl)) œ)(hs:@&(swapsWithSole [.Subscript (.Name x p) g b] e J.line X.env=c9 false))(hw:@&(swappedStores [.Subscript (.Name x p) g b] e X.env=c9 none)):
  PS X (.Assign [.Subscript (.Name x p) g b] e J) (gO X.K B I Z Z<|Ft j F P):=
 (XG he (hg h y) hs hw).imp <|by
  rintro D C H ⟨G,A,o,S,c,k⟩;let(d,ef,c):=aa.1 c;rcases l:gc j A with _|ds
  .simp[l]at c
  rcases f:F A with _|i
  .simp_all
  simp only[l,f,aw]at c;cases i<;>simp only at c<;>try (cases c;done)
  rename_i i;rcases K:xU ds.length i with _|n
  .simp[K]at c
  simp only[K,cE]at c;cases c;let z:=dP l;refine(G,A,d,S.gh,S.i6,ef,λv G' H' E r =>?_);let m:=S.ext E;let(a,vs,L,_):=m.kU w z;refine(_,L,G',A,_,m.gh,m.i6,f,λu G2 H2 U r2 =>?_);let T:=m.ext U;let(a',q,R,f3,Q,_):=T.kU w z;rw[L]at R;cases R;exact(a,q,i,n,W,r2.int,f3,by rw[<- Q.length];exact K,k _ G2 _<|T.mut w z L<|Q.set n<|cS.mono U.gg d r)
end
section
variable {X:Cx}{f:DF}
def LP.imp(h:LP X r)(k:∀x y H Q,d x y H Q->r x y H Q):LP X d:=λa b c s e H x y v u Q I g f q i=>h a b c s e H x y v u Q I g f (k _ _ _ _ q) i
def PO.imp{e}(h:PO X e t)(k:∀b H Q,c b H Q->t b H Q):PO X e c:=λa s b H Q I q=>h a s b H Q I<|k _ _ _ q
def k7.imp(h:k7 X c r)(k:∀b H Q,d b H Q->r b H Q):k7 X c d:=λa s e H b f Q I g q=>h a s e H b f Q I g<|k _ _ _ q
def aZ.qa{K}{a}{b}(r:aZ K G a b)(h:qa a i=Y d):∃v,L2.qa b i=Y v/\cS K G d v:=by
 unfold L2.qa at h ⊢;rw[<- r.length];let(j,e,h):=aa.1 h;rw[e];exact r.get h
def Em{a b}(g:a->b)(xs)(i):qa (xs.map g) i=(qa xs i).map g:=by
 unfold qa;rw[ar];cases xU _ i<;>simp_all
def cw:D->D->↑D
 |.lst a,.int i=>qa a i|.tup a,.int i=>qa a i|.kG b,.int i=>(qa b i).map .int|.str x,.int i=>if x.length<=dQ then (qa x.cps.toList i).map λc =>.str ⟨#[c]⟩ else M
 |_,_=>M
def W2:LP X<|rD X.K cw:=by
 refine LP.imp Yy ?_;rintro x y H Q ⟨G,u,t,d,b,h,g,a,q⟩;unfold cw at a;split at a<;>try (cases a)
 .let(p,j,f,e,l):=h.lst b;let(v,o,k):=l.qa a;exact .inl (p,j,_,v,f,g.int,.of e,o,q _ G H (.refl b) k)
 .let(p,j,f,e,l):=h.tup b;let(v,o,k):=l.qa a;exact .inr<|.inl (p,j,_,v,f,g.int,.of e,o,q _ G H (.refl b) k)
 .let(p,f,e):=h.kG b;let(c,r,a):=aj.1 a;cases a;exact .inl (p,_,_,_,f,g.int,e,by rw[Em,r];solve_by_elim,q _ G H (.refl b)<|b8.mpr W)
 .split at a<;>try (cases a)
  let(c,r,a):=aj.1 a;cases a;exact .inr<|.inr (_,_,c,h.str,g.int,bB ž eQ,r,q _ G H (.refl b)<|dJ.mpr W)
def Lk(e:PE X a<|tQ X.K Z fa)(d:PE X b<|tQ X.K Z fb)(c:autoParam (yr b) Š):PE X (.Subscript a b w)<|tP X.K Z<|e2 cw fa fb:=(oA W2 e d c).imp λf H Q h=>J8 h
abbrev DP:=bL->↑(↑Int)
noncomputable def pN:DP:=λ_=>Y M
noncomputable def pS(f:DF):DP:=λa=>(f a).bind λd=>match d with|.int i=>Y (Y i)|_=>M
def T9{f}{a}(h:pS f a=Y o):∃i,f a=Y (.int i)/\o=Y i:=by
 let(d,e,h):=aa.1 h
 grind
inductive Xc (K:aV) (Z:!Nat) (f:DP) (c:St) (H:Hp) (Q:↑Int->Hp->Prop):Prop
 |mk G a o:a_ G H->ja K Z G H c a->f a=some o->(∀d b,fT G H d b->Q o b)->Xc K Z f c H Q
def acf:PO X M<|Xc X.K Z pN:=TY.imp <|by rintro d H Q ⟨G,e,o,a,c,b,k⟩;cases b;exact k G H<|.refl a
def ace(h:PE X e<|tQ X.K Z f):PO X (Y e)<|Xc X.K Z<|pS f:=(TX h).imp <|by
 rintro r H Q ⟨G,b,o,d,a,g,k⟩;let(i,j,rfl):=T9 g;exact(G,b,_,d,a,j,λv p l q c=>(i,c.int,k p l q))
def CQ{a:Type}(xs:!a)(m n:↑Int):!a:=(xs.drop<|HT.Ie xs.length 0 m).take<|HT.Ie xs.length xs.length n-HT.Ie xs.length 0 m
def aZ.cut{K:aV}{b}{a}(r:aZ K G b a)(m n):aZ K G (CQ b m n)<|Ju a m n:=by
 unfold Ju;rw[<- r.length];exact(r.drop _).take _
def K6(f:DF)(m n:DP):DL:=λa=>(f a).bind λd=>(m a).bind λl=>(n a).bind λh=>match d with|.lst b=>Y (CQ b l h)|.kG c=>Y ((CQ c l h).map D.int)|_=>M
variable {m:↑Expr}
set_option tactic.hygienic true in
def afV(K:PE X e<|tQ X.K Z f)(J:PO X m<|Xc X.K Z l)(I:PO X n<|Xc X.K Z h):PE X (.Subscript e (.Slice m n M B) w)<|tF X.K Z<|K6 f l h:=(FK Tq K J I).imp <|by
 rintro O H Q ⟨G,i,P,L,g,a,k⟩;unfold K6 at a;rcases ef:f i with _|d
 .simp_all
 rcases el:l i with _|s
 .simp_all
 rcases eh:h i with _|t
 .simp_all
 simp only[ef,el,eh,aw]at a;refine(G,i,d,L,g,ef,λv N T o F=>(N,i,s,o.gh,g.ext o,el,λA S j=>(A,i,t,j.gh,(g.ext o).ext j,eh,λz R b =>?_)));let E:=(o.trans j).trans b;let x:=F.ext<|j.trans b;cases d<;>simp only at a<;>try trivial
 .cases a;let(p,C,u,r,D):=x.lst b.gh;exact(p,C,u,.of r,λq c=>k q _ z _ (E.trans<|fT.lay b.gh c) (E.hh.free c) (b.gh.free c) a9<|D.cut _ _)
 .cases a;rename_i y;let(p,u,r):=x.kG b.gh;refine(p,_,u,r,λq c=>k q _ z _ (E.trans<|fT.lay b.gh c) (E.hh.free c) (b.gh.free c) a9 ?_);have:Ju (y.map V.int) s t=(CQ y s t).map V.int:=by unfold Ju CQ;rw[ar,<- List.map_drop,<- kF]
  simp_all [aZ.ints]
def Xn:SlR X (λx m n H Q=>∃z,x=.str z/\z.length<=a7/\Q (.str<|sT z m n) H):=by
 intro a s d H x v f e m n g Q I h r o c (z,y,p,q);subst y;let(t,rfl):=h;refine(_,_,F.slot_str_getitem.lookup,typeIs_str _ _ _,?_);have k8:∀(l u:↑_),f=partValue l->e=partValue u->l.map (·.1)=m->u.map (·.1)=n->bz (bj X.prog X.w) X.A (NN (.str z t) _) (EP X a d Q) X.xe s:=λl u G E D C=>by subst G E D C;exact wpAny_getItem_str_slice (st:=M) r W (post_val_or_str (bB (NQ z _ _) p,λJ k=>(.str _,H,I.tok _,(_,W),q)))
 cases o with
 |none=>
  cases c with
  |none=>exact k8 M M W W W W|int j u=>exact k8 M (Y (j,u)) W W W W
 |int i b=>
  cases c with|none=>exact k8 (Y (i,b)) M W W W W|int j u=>exact k8 (Y (i,b)) (Y (j,u)) W W W W
def D5(f:DF)(m n:DP):DF:=λa=>(f a).bind λd=>(m a).bind λl=>(n a).bind λh=>match d with|.str x=>if x.length<=dQ then Y (.str<|sT x l h) else M|_=>M
set_option tactic.hygienic true in
def afU(y:PE X e<|tQ X.K Z f)(x:PO X m<|Xc X.K Z l)(u:PO X n<|Xc X.K Z h):PE X (.Subscript e (.Slice m n M B) w)<|tP X.K Z<|D5 f l h:=(FK Xn y x u).imp <|by
 rintro K H Q ⟨G,c,L,z,b,a,k⟩;unfold D5 at a;rcases g:f c with _|d
 .simp_all
 rcases i:l c with _|r
 .simp_all
 rcases o:h c with _|t
 .simp_all
 simp only[g,i,o,aw]at a;refine(G,c,d,z,b,g,λv I N j q=>(I,c,r,j.gh,b.ext j,i,λF A p=>(F,c,t,p.gh,(b.ext j).ext p,o,λD C J =>?_)));cases d<;>simp only at a<;>try (cases a)
 split at a
 .cases a;rename_i s;exact(_,q.str,bB s eQ,k _ D C ((j.trans p).trans J)<|dJ.mpr W)
 .cases a
noncomputable def be(o:!D->↑D)(g:DL):DF:=λa=>(g a).bind o
def AB{g}{a}(h:be o g a=Y d):∃b,g a=Y b/\o b=Y d:=by
 let(x,c,h):=aa.1 h;rw[c];exact(x,W,h)
inductive rC (K:aV) (o:!D->↑D) (e:!V) (H:Hp) (Q:VK):Prop
 |mk G a d:a_ G H->LK K G H a e->o a=some d->(∀v c b,fT G H c b->cS K c d v->Q v b)->rC K o e H Q
def aa1{K}{g}{b}(h:tP K Z (be o g) b H Q):tCB (rC K o) (ZV K Z g) b H Q:=by
 let(G,f,d,l,a,q,k):=h;let(c,p,r):=AB q;exact(G,f,c,l,a,p,λy u z e j=>(u,c,d,e.gh,j,r,λv t s x i=>k v t s (e.trans x) i))
def LK.one{K}{a}(r:LK K G H [d] a):∃v,a=[v]/\i_ K G H d v:=by
 cases r with|cons r t=>cases t;exact Ÿ
def iC:!D->↑D
 |[.lst a]=>Y (.int a.length)|[.tup a]=>Y (.int a.length)|[.kG a]=>Y (.int a.length)|[.str x]=>if x.length<=dQ then Y (.int x.length) else M
 |_=>M
set_option tactic.hygienic true in
def Zl:k7 X (.builtin "len")<|rC X.K iC:=by
 refine k7.imp (pI.or Ei) ?_;rintro i H Q ⟨G,j,d,c,r,a,q⟩;unfold iC at a;split at a
 .cases a;let(v,rfl,b):=r.one;let(p,f,rfl,e,g):=b.lst c;refine .inl (p,f,W,.inl<|.of e,?_);rw[<- g.length];exact q _ G H (.refl c)<|b8.mpr W
 .cases a;let(v,rfl,b):=r.one;let(p,f,rfl,e,g):=b.tup c;refine .inl (p,f,W,.inr<|.of e,?_);rw[<- g.length];exact q _ G H (.refl c)<|b8.mpr W
 .cases a;let(v,rfl,b):=r.one;let(p,rfl,e):=b.kG c;refine .inl (p,_,W,.inl e,?_);rw[ar];exact q _ G H (.refl c)<|b8.mpr W
 .split at a
  .cases a;rename_i h;let(v,rfl,b):=r.one;exact .inr (_,by rw[b.str],bB h eQ,q _ G H (.refl c)<|b8.mpr W)
  .cases a
 .cases a
def AJ(l:k7 X (.builtin c)<|rC X.K o)(j:Gl X x)(i:X.mg x=M)(d:eN x=Y (.builtin c))(q:PA X (e::A)<|ZV X.K Z g)(f:‹x ≠ "__name__"›)(b:‹(x==("__debug__" : aP))=false›)(k:@&(ak (e::A) X.env=(Z_,eval e X.env)::ak A X.env))(a:@&((cB w<|ak A X.env).any (·.1)=false)):PE X (.Call (.Name x p) (e::A) [] w)<|tP X.K Z<|be o g:=
 (uW l j i d q f b k a).imp λr H Q h=>aa1 h
def Js(c:Gl X "len")(b:X.mg "len" = M)(h:PE X e<|tQ X.K Z f)(a:@&(ak (e::[]) X.env=(Z_,eval e X.env)::ak [] X.env)):PE X (.Call (.Name "len" p) [e] [] w)<|tP X.K Z<|be iC<|aC f aN:=
 AJ Zl c b PySem.boot_len (AG h D9 a) ſ ſ a W
noncomputable def UM(T:String):D->Bool
 |.dC=>T == "NoneType"|.bl _=>T == "bool" || T == "int"
 |.int _=>T == "int"|.str _=>T == "str"|.lst _=>T == "list"|.kG _=>T == "list"|.tup _=>T == "tuple"|.ins _ _ _=>Z_|.i9 _ _=>T == "dict"|.obj _ _=>Z_|.dY _ _=>Z_
noncomputable def LU:!String:=["bool","int","str","list","tuple"]
def eIs(T:String)(f:DF):DF:=λa=>(f a).bind λd=>match d with|.kG _=>M|.ins _ _ _=>M|.i9 _ _=>M|.obj _ _=>M|.dY _ _=>M|d=>Y<|.bl<|UM T d
def UJ:∀T∈LU,∀(K:aV),kitOne K (.type "NoneType") (.type T)=Y (UM T .dC)/\kitOne K (.type "bool") (.type T)=Y (UM T<|.bl Z')/\kitOne K (.type "int") (.type T)=Y (UM T<|.int 0) /\
  kitOne K (.type "str") (.type T)=Y (UM T<|.str Str.empty)/\kitOne K (.type "list") (.type T)=Y (UM T<|.lst [])/\kitOne K (.type "tuple") (.type T)=Y (UM T<|.tup []):=by
 intro T a K;simp only[LU,aG,iw,or_false]at a;obtain rfl|rfl|rfl|rfl|rfl:=a<;>exact(ź,ź,ź,ź,ź,ź)
def Nv(T)(S:T∈LU):k7 X (.builtin "isinstance") (λy H Q=>∃G d v,a_ G H/\y=[v,.ty T]/\i_ X.K G H d v/\(∀o,d ≠ .kG o)/\(∀c g f,d ≠ .ins c g f)/\(∀g f,d ≠ .i9 g f)/\((∀s t,d ≠ .obj s t)/\∀s t,d ≠ .dY s t)/\Q (.bl<|UM T d) H):=by
 intro j s D H y us Q I F (G,d,v,C,e,r,R,p,x,k,q);subst e;let(u,c,rfl,h,J):=cf.two F;cases J;let(P,O,N,m,L,K):=UJ T S X.K;have k8:∀z,EP X j D Q _ { s with toks:=z }:=λz=>(.bl _,H,I.tok _,W,q)
 cases d with
 |dC=>have:=r.dC;subst this;exact md I h .dC P k8
 |bl b=>have:=r.bl;subst this;exact md I h (.bl b) O k8
 |int i=>have:=r.int;subst this;exact md I h (.int i) N k8
 |str i=>have:=r.str;subst this;exact md I h (.str i) m k8
 |lst U=>let(a,E,rfl,l,_):=r.lst C;exact md I h (.lst l) L k8
 |tup U=>let(a,E,rfl,l,_):=r.tup C;exact md I h (.tup l) K k8
 |kG o=>solve_by_elim|ins c g f=>exact absurd W (p c g f)|i9 g f=>solve_by_elim|obj s t=>exact absurd W (k.1 s t)|dY s t=>exact absurd W<|k.2 s t
def wQ{b}(U:T∈LU)(S:Gl X "isinstance")(R:X.mg "isinstance" = M)(D:Gl X y)(C:X.mg y=M)(j:eN y=Y (.type T))(h:PE X e<|tQ X.K Z f)(x:‹y ≠ "__name__"›)(E:‹(y==("__debug__" : aP))=false›)(J:@&(ak (e::[.Name y b]) X.env=(Z_,eval e X.env)::ak [.Name y b] X.env))(l:@&(ak [.Name y b] X.env=(Z_,eval (.Name y b) X.env)::ak [] X.env))(o:@&((cB w<|ak [.Name y b] X.env).any (·.1)=false)):
  PE X (.Call (.Name "isinstance" p) [e,.Name y b] [] w) (tP X.K Z<|eIs T f):=
 (uW (Nv T U) S R PyProof.Rows.boot_isinstance (cA h (cA (T8 (v :=.ty T) D C j W x E) dH l) J) ſ Ÿ J o).imp <|by
  rintro σ H Q ⟨G,N,d,gh,F,a,k⟩;let(c,ef,a):=aa.1 a;have P:∀I,c ≠ .kG I:=λI z=>by subst z;cases a
  have r:∀K i g,c ≠ .ins K i g:=λK i g z=>by subst z;cases a
  have u:∀i g,c ≠ .i9 i g:=λi g z=>by subst z;cases a
  let ed:d=.bl (UM T c):=by cases c<;>first|(cases a;exact Ÿ)|cases a
  subst ed;exact(G,N,c,gh,F,ef,λv L H1 m O=>(L,c,v,m.gh,W,O,P,r,u,((λs t z=>(by subst z;cases a),λs t z=>(by subst z;cases a))),k _ L H1 m<|dO.mpr W))
noncomputable def GD(f:DF):DL:=λb=>(f b).bind λd=>match d with|.lst a=>Y a|.tup a=>Y a|.kG c=>Y (c.map D.int)|_=>M
def adX(z:Gl X "list")(y:X.mg "list" = M)(h:PE X e<|tQ X.K Z f)(x:autoParam (eN "list" = Y (.type "list")) Œ)(t:@&(ak (e::[]) X.env=(Z_,eval e X.env)::ak [] X.env)):PE X (.Call (.Name "list" p) [e] [] w)<|tF X.K Z<|GD f:=
 (Mv Eh z y x (cA h dH t) ſ (by rfl) t W).imp <|by
  rintro E H Q ⟨G,u,F,C,r,g,k⟩;let(c,D,g):=aa.1 g;refine(G,u,c,C,r,D,λv s I b o =>?_);cases c<;>simp at g<;>try (done)
  .cases g;let(a,j,rfl,i,l):=o.lst b.gh;exact(a,j,W,.inl<|.of i,λq d=>k q _ s _ (b.trans<|fT.lay b.gh d) (b.hh.free d) (b.gh.free d) a9 l)
  .cases g;let(a,j,rfl,i,l):=o.tup b.gh;exact(a,j,W,.inr<|.of i,λq d=>k q _ s _ (b.trans<|fT.lay b.gh d) (b.hh.free d) (b.gh.free d) a9 l)
  .cases g;let(a,rfl,i):=o.kG b.gh;exact(a,_,W,.inl i,λq d=>k q _ s _ (b.trans<|fT.lay b.gh d) (b.hh.free d) (b.gh.free d) a9<|aZ.ints _)
def eT(f:DF):DT:=λc=>(f c).bind λd=>match d with
 |.dC=>Y Z_|.bl b=>Y b|.int i=>Y (i != 0)|.str y=>if y.length<=dQ then Y ((y.length:Int) != 0) else M
 |.lst a=>Y (not a.isEmpty)|.tup a=>Y (not a.isEmpty)|.kG a=>Y (not a.isEmpty)|.ins _ _ _=>M|.i9 _ _=>M|.obj _ _=>M|.dY _ _=>M
def aZ.empty{K}{b}{a}(r:aZ K G b a):b.isEmpty=a.isEmpty:=by
 have:=r.length;cases b<;>cases a<;>simp at this ⊢
set_option tactic.hygienic true
def AD(h:PE X e<|tQ X.K Z f)(C:autoParam (∀g,isTrue e X.env g=(do let v <- g;nR e.pos;k9 [v]<|truthy v)) ũ):PT X e<|p' X.K Z<|eT f:=(O7 h C).imp <|by
 rintro I H Q ⟨G,s,b,D,q,d,k⟩;unfold eT at d;rw[aa]at d;let(c,r,d):=d;refine(G,s,c,D,q,r,λv F E l i=>(b,?_,k F E l));cases c with
 |dC=>cases d;rw[i.dC];solve_by_elim|bl b=>cases d;rw[i.bl];solve_by_elim|int b=>cases d;rw[i.int];solve_by_elim|str y=>
  rw[i.str];let d:(if y.length<=dQ then Y _ else M)=Y b:=d;split at d
  .cases d;rename_i z;exact(bB z eQ,W)
  .cases d
 |lst t=>cases d;let(a,o,rfl,j,p):=i.lst l.gh;exact .inl (o,.of j,by rw[p.empty])
 |tup t=>cases d;let(a,o,rfl,j,p):=i.tup l.gh;exact .inr<|.inl (o,.of j,by rw[p.empty])
 |kG t=>cases d;let(a,rfl,j):=i.kG l.gh;exact .inl (_,j,ż)
 |_=>cases d
end
structure JI(K:aV)(G0:Hp)(J:It)(ds:!D):Prop where
 go:∀i H,a_ G0 H->i<ds.length->J.go i H
 stop:∀i H,a_ G0 H->ds.length<=i->J.stop i H
 JP:∀(i:Nat) (H:Hp) (x:V) (H' G:Hp) (d:D),a_ G0 G->a_ G H->J.JP i H x H'->ds[i]?=some d->∃G',fT G H G' H'/\cS K G' d x
inductive A9 (K:aV) (Z:!Nat) (f:DL) (l:St) (H:Hp) (R:It->Hp->Prop):Prop
 |mk G ρ a:a_ G H->ja K Z G H l ρ->f ρ=some a->(∀J c b,fT G H c b->JI K c J a->R J b)->A9 K Z f l H R
section
variable {X:Cx}{f:DF}
def PI.imp{t}(h:PI X L O t)(k:∀l H R,b l H R->t l H R):PI X L O b:=λa s l H R I q=>h a s l H R I<|k _ _ _ q
noncomputable def iL(f:DF):DL:=λρ=>(f ρ).bind λd=>match d with|.lst a=>Y a|_=>M
def DD{f}(h:iL f ρ=Y a):f ρ=Y (.lst a):=by
 let(d,e,h):=aa.1 h;rw[e];cases d<;>first|(cases h;rfl)|cases h
def MW{K}(g:G a=Y (.lst b))(r:aZ K G n b):JI K G (Itl K a) n:=by
 refine(λi H s f =>?_,λi H s f=>(b,.of<|s _ _ g,by rw[<- r.length];exact f),λi H x B A d j h (e,y) z =>?_)
 .have c:i<b.length:=by rw[<- r.length];exact f
  exact(b,b[i],.of<|s _ _ g,ż)
 .subst e;let(v,k,o):=r.get z;rw[y b<|.of<|h _ _<|j _ _ g]at k;cases k;exact(A,.refl h,cS.mono j d o)
def jR(h:PE X e<|tP X.K Z f):PI X L e<|A9 X.K Z<|iL f:=(Kc h).imp <|by
 rintro l H R ⟨G,ρ,p,n,b,o,k⟩;refine(G,ρ,_,n,b,DD o,λv A w d j =>?_);let(a,g,rfl,c,i):=cu.mp j;exact(a,W,(g,.of<|d.gh _ _ c),k _ A w d<|MW c i)
noncomputable def kT(a:Int)(n:Nat):!D:=(bJ n).map λ(k:Nat) =>.int<|a+(k:Int)
def tX{K}(c:Int)(n:Nat):JI K G (Itr c n)<|kT c n:=by
 have f:(kT c n).length=n:=by simp[kT]
 refine(λi H s a=>by rw[f]at a;exact a,λi H s a=>by rw[f]at a;exact a,λi H x p A d k g (e,y) b =>?_);subst e;refine(A,.refl g,?_);unfold kT at b;rw[aK]at b;let(j,q,b):=aj.1 b;cases b;have:j=i:=by let(o,h):=ah.mp q;simpa using h.symm
 subst this
 exact Ÿ
def KD(f:DF):DL:=λρ=>(f ρ).bind λd=>match d with|.int j=>if -(2 ^ 62)<=j/\j<2 ^ 62 then Y (kT 0 j.toNat) else M|_=>M
set_option tactic.hygienic true in
def aaf(r:Gl X "range")(o:X.mg "range" = M)(h:PE X e<|tQ X.K Z f)(n:@&(ak [e] X.env=(Z_,eval e X.env)::ak [] X.env))(b:@&(ak [e] X.env=[(Z_,eval e X.env)])):PI X L (.Call (.Name "range" p) [e] [] u)<|A9 X.K Z<|KD f:=
 (B9 r o (cA h dH n) b).imp <|by
  rintro l H R ⟨G,ρ,z,s,c,a,k⟩;let(d,x,a):=aa.1 a;cases d<;>simp only[aw]at a<;>try (cases a)
  split at a
  .cases a;rename_i j g;exact(G,ρ,_,s,c,x,λv A w y i=>(j,by rw[i.int],g.1,g.2,k _ A w y<|tX 0 _))
  .cases a
def iR2(f g:DF):DL:=λρ=>(f ρ).bind λd=>(g ρ).bind λc=>match d,c with|.int i,.int j=>if -(2 ^ 62)<=i/\i<2 ^ 62 /\ -(2 ^ 62)<=j/\j<2 ^ 62 then Y (kT i (j-i).toNat) else M|_,_=>M
set_option tactic.hygienic true
def Nm{g:DF}(N:Gl X "range")(m:X.mg "range" = M)(h:PE X e<|tQ X.K Z f)(P:PE X n<|tQ X.K Z g)(K:@&(ak [e,n] X.env=(Z_,eval e X.env)::ak [n] X.env))(z:@&(ak [n] X.env=(Z_,eval n X.env)::ak [] X.env))(y:@&(ak [e,n] X.env=[(Z_,eval e X.env),(Z_,eval n X.env)]))(x:@&(ak [n] X.env=[(Z_,eval n X.env)])):PI X L (.Call (.Name "range" p) [e,n] [] u)<|A9 X.K Z<|iR2 f g:=
 (Mu N m (cA h (cA P dH z) K) y x).imp <|by
  rintro l H R ⟨G,ρ,ds,Q,o,b,k⟩;unfold iR2 at b;rcases s:f ρ with _|d
  .simp_all
  rcases B:g ρ with _|c
  .simp_all
  simp only[s,B,aw]at b;split at b<;>try (cases b)
  split at b
  .cases b;rename_i i j r;exact(G,ρ,_,Q,o,s,λv A w C F=>(A,ρ,_,C.gh,o.ext C,B,λa G2 S E2 D=>(i,j,by rw[F.int,D.int],Ÿ,k _ G2 S (C.trans E2)<|tX i _)))
  .cases b
end
abbrev BJ:=D->bL->↑bL
inductive HW (K:aV) (B:Bs) (Z:!Nat) (τ:BJ) (v:V) (l:St) (H:Hp) (Q:St->Hp->Prop):Prop
 |mk G ρ d b:SR K B Z G H l ρ->cS K G d v->τ d ρ=some b->(∀a e c,SR K B Z e c a b->Q a c)->HW K B Z τ v l H Q
inductive V8 (K:aV) (Z:!Nat) (τ:BJ) (v:V) (l:St) (H:Hp) (Q:St->Hp->Prop):Prop
 |mk G ρ d b:a_ G H->ja K Z G H l ρ->cS K G d v->τ d ρ=some b->(∀a e c,fT G H e c->ja K Z e c a b->Q a c)->V8 K Z τ v l H Q
section
variable {X:Cx}
def PG.imp{L}{t}(h:PG X L t)(k:∀v l H Q,b v l H Q->t v l H Q):PG X L b:=λa s l H v u Q I r q=>h a s l H v u Q I r<|k _ _ _ _ q
noncomputable def gN(i:Nat):BJ:=λd ρ=>Y<|ρ.set i<|Y d
def adV{i}(h:PG X L<|ny i)(b:‹i∉Z›):PG X L<|HW X.K B Z<|gN i:=h.imp <|by
 rintro v l H Q ⟨G,ρ,d,a,S,r,c,k⟩;cases c;exact k _ G H<|S.wa b r
def ja.set{K}{i}{d}{v:V}(h:ja K Z G H l ρ)(s:i∉Z)(r:cS K G d v):ja K Z G H (l.set i<|Y v)<|ρ.set i<|Y d:=
 (by simp[h.len],λj c e=>by
  obtain⟨rfl,simp,C⟩|⟨b,e⟩:=fE e
  .exact(v,pM (by rw[h.len];exact C),Ż)
  .obtain _:=h.get j c e
   simp_all,λj k p g N e=>by
  have a:∀j,j∈Z->i≠j:=λj F e=>s (e ▸ F)
  rw[aq<|a j g]at e;let(f,m,z,y,B,w,x,o,n,Q,P):=h.dY j k p g N e;exact(f,m,z,y,B,w,x,Ż,Ż,Ż,P))
noncomputable def Jc(i j:Nat):BJ:=λd ρ=>match d with|.tup [a,b]=>Y ((ρ.set i<|Y a).set j<|Y b)|_=>M
def QX(h:Jc i j d ρ=Y c):∃a b,d=.tup [a,b]/\c=(ρ.set i<|Y a).set j (Y b):=by
 unfold Jc at h;split at h<;>lia
def TF{K}{v:V}(r:cS K G (.tup [a,b]) v):∃p x y,v=.ref p/\G p=Y (.tup [x,y])/\cS K G a x/\cS K G b y:=by
 let(p,h,e,g,f):=cQ.mp r;let(x,j,rfl,d,t):=aW.mp f;let(y,i,rfl,c,t):=aW.mp t;rw[cx.mp t]at g;exact(p,x,y,e,g,d,c)
def Y'{i}(h:PG X L<|YQ X.K 2<|Co (ny i)<|Co (ny j) YR)(o:‹i∉Z›)(n:‹j∉Z›):PG X L<|HW X.K B Z<|Jc i j:=h.imp <|by
 rintro v l H Q ⟨G,ρ,d,c,S,r,s,k⟩;let(a,b,rfl,rfl):=QX s;let(p,x,y,rfl,g,f,e):=TF r;exact(p,_,W,.of<|S.gh _ _ g,W,x,_,W,y,_,W,W,k _ G H<|(S.wa o f).wa n e)
end
noncomputable def gB(τ:BJ)(g:DG):!D->bL->↑DO
 |[],ρ=>Y (.nx ρ)| d::b,ρ=>(τ d ρ).bind λρ1=>(g ρ1).bind λo=>match o with
  |.nx a=>gB τ g b a|.ct a=>gB τ g b a|.bk a=>Y (.nx a)|.rt d=>Y (.rt d)|.ro d=>Y (.ro d)|.rm d ρ=>Y (.rm d ρ)|.rf i ρ=>Y (.rf i ρ)|.ex c n=>Y<|.ex c n
def jL(f:DL)(τ:BJ)(g:DG):DG:=λρ=>(f ρ).bind λa=>gB τ g a ρ
section
variable {K:aV}
def oS.base{F}(Da:oS K B Z G H l ρ F)(h:a.2=B.2):oS K a Z G H l ρ F:=(Da.it,λi d b e=>by rw[h];exact Da.ok i d b e,Da.ap)
def SR.rebase(a:SR K B Z A w q ρ1)(S:SR K B Z G H l ρ)(s:a_ A G):SR K (A,B.2,B.3,B.4) Z G H l ρ:=
 (S.gh,s,S.h0,λb o e=>by
  obtain z|z:=S.fr b o e
  .exact .inl (a.g0 b o z)
  .exact .inr z,S.env,by let(F,Da):=S.ow;exact(F,Da.base W),S.len,S.pin,S.dY)
def SR.CZ(c:SR K B Z A w q ρ1)(S:SR K (A,B.2,B.3,B.4) a G H l ρ):SR K B a G H l ρ:=
 (S.gh,c.g0.trans S.g0,S.h0,λb o e=>by
  obtain z|z:=S.fr b o e
  .exact c.fr b o z
  .exact .inr z,S.env,by let(F,Da):=S.ow;exact(F,Da.base W),S.len,S.pin,S.dY)
def SR.yG(a:SR K B Z A w q ρ1)(S:SR K (A,B.2,B.3,B.4) Z G H l ρ):SR K B Z G H l ρ:=a.CZ S
def fT.yG(a:SR K B Z A w q ρ1)(E:fT A B.2 G H):fT B.1 B.2 G H:=
 (E.hh,a.g0.trans E.gg,E.gh,λb o e=>by
  obtain z|z:=E.fr b o e
  .exact a.fr b o z
  .exact .inr z)
end
section
variable {X:Cx}{f:DL}
inductive tMI (K:aV) (B:Bs) (Z:!Nat) (f:bL->↑(!D×bL)) (l:St) (H:Hp) (R:It->Hp->Prop):Prop
 |mk G ρ b a:SR K B Z G H l ρ->f ρ=some (b,a)->(∀J d c,SR K B Z d c l a->JI K d J b->R J c)->tMI K B Z f l H R
def uQ(f:bL->↑(!D×bL))(τ:BJ)(g:DG):DG:=λρ=>(f ρ).bind λp=>gB τ g p.1 p.2
structure ItW(K:aV)(G0 B0:Hp)(J:It)(ds:!D):Prop where
 go:∀i H,a_ G0 H->a_ B0 H->i<ds.length->J.go i H
 stop:∀i H,a_ G0 H->a_ B0 H->ds.length<=i->J.stop i H
 JP:∀(i:Nat) (H:Hp) (x:V) (H' G:Hp) (d:D),a_ G0 G->a_ B0 H->a_ G H->J.JP i H x H'->ds[i]?=some d->∃G',fT G H G' H'/\cS K G' d x
inductive tWI (K:aV) (B:Bs) (Z:!Nat) (f:bL->↑(!D×bL)) (l:St) (H:Hp) (R:It->Hp->Prop):Prop
 |mk G ρ b a:SR K B Z G H l ρ->f ρ=some (b,a)->(∀J d c,SR K B Z d c l a->ItW K d B.2 J b->R J c)->tWI K B Z f l H R
abbrev FI(X:Cx)(Q:!(aH×Obj))(tn:Nat->cP->Prop)(fp:!aH)(R:!D)(C:Bs)(Z:!Nat)(τ:BJ)(g:DG)(o:DO)(n:Nat)(s:aA):Prop:=∃i σ' H' G' ρ',Inv X Q σ' H' s/\tn i s.heap/\(∀b∈fp,H' b=M)/\n=R.length-i/\i<=R.length/\SR X.K C Z G' H' σ' ρ'/\gB τ g (R.drop i) ρ'=Y o
def Vl{f:bL->↑(!D×bL)}(hp:sU (bj X.prog X.w) X.A X.env X.xe)(hc:X.calm=Z')(hi:PI X L O<|tWI X.K B Z f)(hg:∀C:Bs,C.3=B.3->PG X L (HW X.K C Z τ))(hb:∀C:Bs,C.3=B.3->C.2=B.2/\C.4=B.4->nY X I (gO X.K C Z Z Z g))(hs:autoParam (∀x,bR O X.env x=c9 x) ũ):PS X (.For L O I [] u)<|gO X.K B t Z Z<|uQ f τ g:=by
 intro Q s l H D' j (G,ρ,o,S,eq,k);obtain⟨⟨R,ρ0⟩,ef,eq⟩:=aa.1 eq;let eq:=eq;refine wpAny_For (eP (hi Q s l H (λJ w=>∃A,SR X.K B Z A w l ρ0/\ItW X.K A B.2 J R) j (G,ρ,R,ρ0,S,ef,λJ A w S1 ok=>(A,S1,ok))) λv s1 h1=>eP h1 λitv s2 h2 =>?_) hs;let(it,fp,tn,J,H2,e,I2,T,Xl,f2,A,S1,ok):=h2;subst e;have HY:∀ {H':Hp},(∀b∈fp,H' b=M)->∀b∈fp,AU X Q H' b:=λhn b hb=>(hn b hb,(f2 b hb).2)
 refine codeAny_forLoop_any (FI X Q tn fp R (A,B.2,B.3,B.4) Z τ g o) ?_ R.length
  (0,l,H2,A,ρ0,I2,Xl,λb hb=>(f2 b hb).1,W,cZ _,S1.rebase S1<|a_.refl _,eq)
 rintro n s3 ⟨i,σ3,H3,G3,ρ3,I3,st3,fr3,rfl,hil,S3,F⟩;let aaQ:=S3.g0.trans S3.gh;by_cases QC:i<R.length
 .rw[(da QC)]at F;unfold gB at F;let(P,et,F):=aa.1 F;let(o4,eg,F):=aa.1 F;refine de hp<|eP (T.item X W W W hc i Q s3 σ3 H3 X.xe I3 (HY fr3) st3<|ok.go i H3 aaQ S3.h0 QC) ?_;rintro r s4 ⟨h,hr,h4⟩;subst hr;refine de hp<|eP h4 ?_;rintro _ s5 ⟨x,H5,I5,r5,y5,ZY,Z9⟩;let I5':=I5.pinned (HY Z9)<|T.obj _ _ ZY;let(G5,E5,aeG):=ok.JP i H3 x H5 G3 R[i] S3.g0 S3.h0 S3.gh y5<|ai QC;refine de hp<|eP (hg (A,B.2,B.3,B.4) W _ s5 σ3 H5 x h (λN H6=>∃G6,SR X.K (A,B.2,B.3,B.4) Z G6 H6 N P) I5' r5 (G5,ρ3,R[i],P,S3.ext E5,aeG,et,λN G6 H6 S6=>(G6,S6))) ?_;rintro _ s6 ⟨N,H6,I6,G6,S6⟩;have again:∀ {p:St}{K q:Hp}{ρ7:bL}{s7:aA},Inv X (Q++tu fp s5.heap) p K s7->SR X.K (A,B.2,B.3,B.4) Z q K p ρ7->gB τ g (R.drop<|i+1) ρ7=Y o ->
    ∃m,m<R.length-i/\FI X Q tn fp R (A,B.2,B.3,B.4) Z τ g o m s7:=fun {p K q ρ7 s7} I7 S7 e7=>by
   refine(R.length-(i+1),ž,i+1,p,K,q,ρ7,I7.mf,T.keep _ _ _ ZY λb hb o e=>(I7.pin (b,o)<|aE _<|aE _<|jr hb e).1,λb hb =>?_,W,QC,S7,e7);let(o,e,d):=T.obj _ _ ZY b hb;exact(I7.pin (b,o)<|aE _<|aE _<|jr hb e).2.1
  refine de hp<|eP (hb (A,B.2,B.3,B.4) W (W,W) _ s6 N H6 { nx:=λp K=>∃q r,SR X.K (A,B.2,B.3,B.4) Z q K p r/\gB τ g (R.drop<|i+1) r=Y o,ct:=λp K=>∃q r,SR X.K (A,B.2,B.3,B.4) Z q K p r/\gB τ g (R.drop<|i+1) r=Y o,bk:=D'.nx,rt:=D'.rt } I6 (G6,P,o4,S6,eg,?_)) λfl s7 y =>?_
  .cases o4 with
   |nx r=>exact λp q K S7=>(q,r,S7,F)
   |ct r=>exact λp q K S7=>(q,r,S7,F)
   |bk r=>cases F;exact λp q K S7=>k _ q K<|S1.yG S7
   |rt d=>cases F;exact λv q K E7 r7=>k v q K (fT.yG S1 E7) r7
   |ro d=>cases F;exact λa vs q K E7 h1 h2 h3 r7=>k a vs q K (fT.yG S1 E7) h1 h2 h3 r7
   |rm d r=>cases F;exact λv p q K (o7,S7) r7=>k v p q K (o7,S1.CZ S7) r7
   |rf j r=>cases F;exact λv p q K (o7,ho7,S7) r7=>k v p q K (o7,ho7,S1.CZ S7) r7
   |ex c n=>cases F;exact k
  cases fl with
  |ret v=>let(x7,p,K,I7,r7,y):=y;exact(x7,p,K,I7.mf,r7,y)
  |brk=>let(p,K,I7,y):=y;exact(p,K,I7.mf,y)
  |_=>let(p,K,I7,q,r,S7,F):=y;exact again I7 S7 F
 .let e:i=R.length:=by lia
  subst e;rw[j5]at F;cases F;refine de hp<|eP (T.done X W W W hc _ Q s3 σ3 H3 X.xe I3 (HY fr3) st3<|ok.stop _ H3 aaQ S3.h0<|aF _) ?_;rintro r s4 ⟨hr,I4⟩;subst hr;exact rF (σ3,H3,I4,k σ3 G3 H3<|S1.yG S3)
def GN{f:bL->↑(!D×bL)}(hp:sU (bj X.prog X.w) X.A X.env X.xe)(hc:X.calm=Z')(hi:PI X L O<|tMI X.K B Z f)(hg:∀C:Bs,C.3=B.3->PG X L (HW X.K C Z τ))(hb:∀C:Bs,C.3=B.3->C.2=B.2/\C.4=B.4->nY X I (gO X.K C Z Z Z g))(hs:autoParam (∀x,bR O X.env x=c9 x) ũ):PS X (.For L O I [] u)<|gO X.K B t Z Z<|uQ f τ g:=Vl hp hc (hi.imp λl H R (G,ρ,b,a,S,e,k)=>(G,ρ,b,a,S,e,λJ d c s o=>k J d c s (λi H a h=>o.go i H a,λi H a h=>o.stop i H a,λi H x H' G d a h=>o.JP i H x H' G d a))) hg hb hs
def Vk(i:sU (bj X.prog X.w) X.A X.env X.xe)(o:X.calm=Z')(j:PI X L O<|A9 X.K Z f)(n:∀C:Bs,C.3=B.3->PG X L (HW X.K C Z τ))(p:∀C:Bs,C.3=B.3->C.2=B.2/\C.4=B.4->nY X I (gO X.K C Z Z Z g))(h:autoParam (∀x,bR O X.env x=c9 x) ũ):PS X (.For L O I [] u)<|gO X.K B t Z Z<|jL f τ g:=by
 let e:jL f τ g=uQ _ τ g:=funext λρ=>by show (f ρ).bind _=(BM (λa=>(a,ρ))<|f ρ).bind _;cases f ρ<;>rfl
 rw[e];refine GN i o (j.imp ?_) n p h;rintro l H R ⟨G,ρ,a,c,S,b,k⟩;let(s,r,b):=aj.1 b;cases b;exact(G,ρ,a,S.gh,S.i6,r,λJ A w E d=>k J A w (S.ext E) d)
def D8{f:bL->↑(!D×bL)}(b:sU (bj X.prog X.w) X.A X.env X.xe)(e:X.calm=Z')(c:PI X L O<|tMI X.K B Z f)(d:∀C:Bs,C.3=B.3->PG X L (HW X.K C Z τ))(i:∀C:Bs,C.3=B.3->nY X I (gO X.K C Z Z Z g))(a:autoParam (∀x,bR O X.env x=c9 x) ũ):PS X (.For L O I [] u)<|gO X.K B t Z Z<|uQ f τ g:=GN b e c d (λC h j=>i C h) a
def uf(b:sU (bj X.prog X.w) X.A X.env X.xe)(e:X.calm=Z')(c:PI X L O<|A9 X.K Z f)(d:∀C:Bs,C.3=B.3->PG X L (HW X.K C Z τ))(i:∀C:Bs,C.3=B.3->nY X I (gO X.K C Z Z Z g))(a:autoParam (∀x,bR O X.env x=c9 x) ũ):PS X (.For L O I [] u)<|gO X.K B t Z Z<|jL f τ g:=Vk b e c d (λC h j=>i C h) a
noncomputable def jI(f:DT)(g:DG):Nat->bL->↑DO
 |0,_=>M| n+1,ρ=>(f ρ).bind λb=>if b=Z' then (g ρ).bind λo=>match o with
   |.nx a=>jI f g n a|.ct a=>jI f g n a|.bk a=>Y (.nx a)|.rt d=>Y (.rt d)|.ro d=>Y (.ro d)|.rm d ρ=>Y (.rm d ρ)|.rf i ρ=>Y (.rf i ρ)|.ex c n=>Y<|.ex c n else Y (.nx ρ)
def y8(n:Nat)(f:DT)(g:DG):DG:=λρ=>jI f g n ρ
def AE{c:Expr}{f}(n)(C:sU (bj X.prog X.w) X.A X.env X.xe)(D:PT X c<|p' X.K Z f)(F:nY X I<|gO X.K B Z Z Z g):PS X (.While c I [] u)<|gO X.K B t Z Z<|y8 n f g:=(O8 C D F).imp <|by
 rintro R l H ⟨G,ρ,o,S,K,k⟩;refine(λm l H=>∃G ρ,SR X.K B Z G H l ρ/\jI f g m ρ=Y o,(n,G,ρ,S,K),?_);rintro m q w ⟨A,ρ1,v,e⟩;cases m with
 |zero=>cases e|succ m=>
  unfold jI at e;let(b,N,e):=aa.1 e;refine(A,ρ1,b,v.gh,v.i6,N,λz P Q =>?_);let y:=v.ext Q;cases b with
  |false=>cases e;solve_by_elim|true=>
   refine Bv (_,λh p a=>(m,mY m,a),?_);let(x,d,e):=aa.1 e;refine(z,ρ1,x,y,d,?_);cases x with
   |nx i=>exact λh j p s=>(j,i,s,e)
   |ct i=>exact λh j p s=>(j,i,s,e)
   |bk i=>cases e;solve_by_elim|_=>cases e;exact k
end
noncomputable def ki(src:!(↑Nat))(ρ:bL):bL:=src.map λo=>match o with|some j=>(ρ[j]?).getD M|none=>M
noncomputable def rN(ρ:bL)(τ:BJ)(U:DT)(fe:DF):!D->↑(!D)
 |[]=>Y []|d::a=>(τ d ρ).bind λρ1=>(U ρ1).bind λb=>if b=Z' then (fe ρ1).bind λx=>(rN ρ τ U fe a).map (x :: ·) else rN ρ τ U fe a
def lU(f:DL)(src:!(↑Nat))(τ:BJ)(U:DT)(fe:DF):DL:=λρ=>(f ρ).bind λa=>if a.length<=dQ then rN (ki src ρ) τ U fe a else M
noncomputable def gR:DT:=λ_=>Y Z'
def f_(Z Ź:!Nat)(src:!(↑Nat)):Bool:=(Ź.all λj=> (not<|Ź.contains (ID j)))&&(bJ src.length).all λi=>match src[i]? with|some (Y j)=>decide (i∈Ź)==decide (j∈Z)|_=>Z'
def jo(h:f_ Z Ź src=Z')(e:src[i]?=Y (Y j)):(i∈Ź↔j∈Z):=by
 unfold f_ at h;rw[ax]at h;let h:=h.2;rw[dI]at h;have:=h i (by simpa using (ah.mp e).1);rw[e]at this;simpa using this
def My(h:f_ Z Ź src=Z')(b:j∈Ź)(a:ID j∈Ź):False:=by
 unfold f_ at h;rw[ax,dI]at h;have:=h.1 j b;simp[a]at this
def ja.src{K:aV}{Z Ź}{src}(h:ja K Z G H l ρ)(f:f_ Z Ź src=Z'):ja K Ź G H (nJ src l)<|ki src ρ:=by
 refine(by simp[nJ,ki],λi d e =>?_,λj r p k g a=>(My f k g).elim);unfold ki at e;rw[aK]at e;let(o,c,e):=aj.1 e;cases o with
 |none=>cases e|some j=>
  let e:=by simpa using e
  let s:ρ[j]?=Y (Y d):=by rcases q:ρ[j]? with _|z<;>simp_all
  let(v,_):=h.get j d s;refine(v,?_,?_)
  .simp_all [nJ,aK]
  .have:=jo f c
   simp_all
section
variable {X:Cx}{m:Expr}{f:DL}
def Ht.imp{t}(h:Ht X E t)(k:∀l H Q,b l H Q->t l H Q):Ht X E b:=λa s l H Q I q=>h a s l H Q I<|k _ _ _ q
def kJ:Ht X []<|p' X.K Z gR:=TU.imp <|by rintro l H Q ⟨G,ρ,b,a,d,c,k⟩;cases c;exact k G H<|.refl a
def Lb(h:PT X c<|p' X.K Z U):Ht X [c]<|p' X.K Z U:=TQ h
abbrev LI(K:aV)(A w:Hp)(h:!D)(e:bL)(τ:BJ)(U:DT)(fe:DF)(rs:!D)(i m:Nat)(ys:!V)(H:Hp):Prop:=m=h.length-i/\i<=h.length/\ys.length<=i/\∃R r c,fT A w R H/\aZ K R r ys/\rN e τ U fe (h.drop i)=Y c/\r++c=rs
set_option tactic.hygienic true in
def Qi{K:aV}(ho:f_ Z Ź src=Z')(hg:∀v l H Q,V8 K Ź τ v l H Q->g v l H Q)(q:tF K Z (lU f src τ U fe) l H Q):Xg (A9 K Z f) src g (p' K Ź U) (tP K Ź fe) l H Q:=by
 let(G,ρ,rs,gh,P,s,k):=q;unfold lU at s;let(h,ef,s):=aa.1 s;split at s
 .rename_i hz;refine(G,ρ,h,gh,P,ef,λJ A w E1 ok =>?_);refine(LI K A w h (ki src ρ) τ U fe rs,
   (h.length,W,cZ _,aF _,A,[],rs,.refl E1.gh,.nil,s,W),?_)
  rintro i m ys D ⟨rfl,hil,hyl,R,r,c,o,rx,d,rfl⟩;let t:a_ A D:=o.gg.trans o.gh;by_cases n:i<h.length
  .refine .inr (ok.go i D t n,?_,_,
    λC H' z=>(h.length-(i+1),ŷ,W,n,z),λx H3 y =>?_)
   .have:=eQ
    lia
   .let(G3,X,N):=ok.JP i D x H3 R h[i] o.gg o.gh y<|ai n;rw[da n]at d;unfold rN at d;let(j,et,d):=aa.1 d;let(b,eb,d):=aa.1 d;let E13:=E1.trans<|o.trans X;refine hg _ _ _ _ (G3,ki src ρ,h[i],j,X.gh,(P.ext E13).src ho,N,et,λσ4 G4 H4 E4 B=>(G4,j,b,E4.gh,B,eb,λG5 H5 S =>?_));let E15:=(o.trans X).trans<|E4.trans S;cases b with
    |false=>exact MY (ž,G5,r,c,E15,aZ.mono ((X.trans<|E4.trans S).gg) r rx,d,W)
    |true=>
     refine Bv ?_;simp only[if_true]at d;let(x4,ee,d):=aa.1 d;rcases el:rN (ki src ρ) τ U fe<|h.drop<|i+1 with _|a
     .simp[el]at d
     simp only[el,aw,cE]at d;cases d;refine(G5,j,x4,S.gh,B.ext S,ee,λv G6 H6 E6 r6=>(by simp;omega,G6,r++[x4],a,E15.trans E6,(aZ.mono ((X.trans<|(E4.trans S).trans E6).gg) r rx).append<|.cons r6 .nil,W,ż))
  .let e:i=h.length:=by lia
   subst e;rw[j5]at d;unfold rN at d;cases d;refine .inl (ok.stop _ D t<|aF _,λp hp =>?_);let E12:=E1.trans o;refine k p ys R _ (E12.trans<|fT.lay (p:=p) o.gh hp) (E12.hh.free hp) (o.gh.free hp) a9 ?_
   simp_all
 .cases s
def WO(S:dA X N src T)(j:X.calm=Z')(e:PI X L O<|A9 X.K Z f)(n:R9 J g)(a:∀i∈J,src[i]?=Y M)(h:∀v l H Q,V8 X.K Ź τ v l H Q->g v l H Q)(k:∀C s H b,PG (X.p8 N T C s H b) L g/\Ht (X.p8 N T C s H b) E (p' X.K Ź U)/\PE (X.p8 N T C s H b) m (tP X.K Ź fe))(d:‹f_ Z Ź src=true›)(c:autoParam (∀x,bR O X.env x=c9 x) ũ):PE X (.ListComp m [(L,O,E,0)] T u)<|tF X.K Z<|lU f src τ U fe:=
 (Ke S j e n a k c).imp λl H Q q=>Qi d h q
def Cu{i:Nat}{c D:Pos}(S:dA X N src T)(hc:X.calm=Z')(hN:X.N.Nodup)(F:X.N[i]?=Y y)(hl:X.env.scope.names.lookup y=Y .local)(hi:PI X L O<|A9 X.K Z f)(ag:R9 J g)(j:∀i∈J,src[i]?=Y M)(hg:∀v l H Q,V8 X.K Ź τ v l H Q->g v l H Q)(hb:∀C s H z,PG (X.p8 N T C s H z) L g/\Ht (X.p8 N T C s H z) E (p' X.K Ź U)/\PE (X.p8 N T C s H z) m (tP X.K Ź fe))(R:‹f_ Z Ź src=true›)(n:‹i∈Z›)(d:autoParam (∀a,(i,a)∉B.3) ť)(hm:‹Br i∉Z›)(h:@&(cg (.ListComp m [(L,O,E,0)] T u) (Y<|.Name y D) c.line X.env=c9 true))(q:autoParam (∀x,bR O X.env x=c9 x) ũ):PS X (.Assign [.Name y D] (.ListComp m [(L,O,E,0)] T u) c)<|gO X.K B t Z Z<|gU i<|lU f src τ U fe:=
 (zd S hc hN F hl hi ag j hb h q).imp λD' l H (G,ρ,o,S,e,k)=>Qi R hg (by let(ds,ef,e):=aj.1 e;cases e;exact(G,ρ,ds,S.gh,S.i6,ef,λp vs G' H' b P gp K r=>k _ G' H'<|S.Tv n b P gp K r d hm))
def GL{B:Bs}{D:Pos}(S:dA X N src T)(hc:X.calm=Z')(hN:X.N.Nodup)(q:X.N[i]?=Y y)(hl:X.env.scope.names.lookup y=Y .local)(hi:PI X L O<|A9 X.K Z f)(ag:R9 J g)(e:∀i∈J,src[i]?=Y M)(hg:∀v l H Q,V8 X.K Ź τ v l H Q->g v l H Q)(hb:∀C s H j,PG (X.p8 N T C s H j) L g/\Ht (X.p8 N T C s H j) E (p' X.K Ź U)/\PE (X.p8 N T C s H j) m (tP X.K Ź fe))(ho:‹f_ Z Ź src=true›)(h:‹i∉Z›)(d:@&(cg (.ListComp m [(L,O,E,0)] T u) (Y<|.Name y D) b.line X.env=c9 true))(R:autoParam (∀x,bR O X.env x=c9 x) ũ):PS X (.Assign [.Name y D] (.ListComp m [(L,O,E,0)] T u) b)<|gO X.K B t Z Z<|cM i<|eF<|lU f src τ U fe:=
 (zd S hc hN q hl hi ag e hb d R).imp λD' l H (G,ρ,o,S,c,k)=>Qi ho hg (by
  unfold cM eF at c;rcases n:lU f src τ U fe ρ with _|K
  .simp_all
  rw[n]at c;cases c;exact(G,ρ,K,S.gh,S.i6,n,λp z G' H' a hp F P r=>k _ _ H'<|(S.ext<|a.freeze hp F P).wa h<|cu.mpr (p,z,W,a9,aZ.mono (.alloc F) K r)))
end
inductive gn (K:aV) (F:!D->↑D) (e:!V) (H:Hp) (Q:VK) (_x:XK):Prop
 |mk G a d:a_ G H->aZ K G a e->F a=some d->(∀v c b,fT G H c b->cS K c d v->Q v b)->gn K F e H Q _x
inductive vL (K:aV) (F:!D->↑(!D)) (g:!V) (H:Hp) (Q:VK) (_x:XK):Prop
 |mk G f e:a_ G H->aZ K G f g->F f=some e->(∀a d c b,fT G H c b->H a=none->c a=none->b a=some (.lst d)->aZ K c e d->Q (.ref a) b)->vL K F g H Q _x
noncomputable def fP(N:Nat)(a:!D):bL:=a.map Y++bC (N-a.length) M
noncomputable def Sh:DO->↑D
 |.rt d=>Y d|.ro a=>Y (.lst a)|.nx _=>Y .dC|_=>M
noncomputable def MB:DO->↑(!D)
 |.ro a=>Y a|_=>M
def jN(n N:Nat)(g:DG)(a:!D):↑D:=if a.length=n then (g<|fP N a).bind Sh else M
def ou(n N:Nat)(g:DG)(a:!D):↑(!D):=if a.length=n then (g<|fP N a).bind MB else M
def jz{i:Nat}(h:(fP N b)[i]?=Y (Y d)):b[i]?=Y d:=by
 unfold fP at h;by_cases c:i<b.length
 .rw[aI (by simp_all),aK]at h;let(a,e,h):=aj.1 h;rw[e];cases h;rfl
 .rw[jG (by simp_all),SN]at h;split at h<;>cases h
def yL{K:aV}{H:Hp}{m:!V}(s:a_ G H)(r:aZ K G k m)(t:∀i∈Z,k.length<=i):SR K (G,H,[],x) Z G H (start N m)<|fP N.length k:=by
 have g:∀i d,i∈Z->(fP N.length k)[i]?=Y (Y d)->False:=λi d f e=>by
  have:=(ah.mp<|jz e).1
  grind
 refine(s,a_.refl _,a_.refl _,λb o e =>.inl e,λi d f e =>?_,(λ_=>[],λi d f e=>(g i d f e).elim,λi d f e=>(g i d f e).elim,λi j d c f z e=>(g i d f e).elim),by simp[start,fP,r.length],λi a h=>(by cases h),λj r p w A e=>(g j _ w e).elim);let(v,n,q):=r.get<|jz e;refine(v,?_,q);let f:=(ah.mp n).1;unfold start;rw[aI (by simp_all),aK,n];exact Ÿ
section
variable {P:bh}{K:aV}
def fX.yh{m:cH}{f:aH}(F:fX K x e m f O)(N:!aP)(Z Ź:!Nat){g:DG}(S:ji N I<|bu m) (hb:N.Nodup->∀(j:au) (A:gM) (outer:!Env) (s:aA) (H:Hp) (E:XK),d7 k (A.deeper<|oY e (bu m) s.heap.objs.size f j)->∀B:Bs,B.3=[] ->
   nY (wR fx P w K u y N e (bu m) f j A outer s H E).NY (fI m) (gO K B [] Z Ź g)) (p:‹∀i∈Z,I.length<=i›):b9 P w K u y fx (k+1) f O I<|gn K<|jN I.length N.length g:=by
 refine F.ok S (λR H Q E h =>?_) λj A outer s H R Q E U h =>?_
 .let(G,ds,d,c,r,b,_):=h;unfold jN at b;split at b
  .rw[<- r.length];omega
  .cases b
 .let(G,ds,d,c,r,b,q):=h;unfold jN at b;split at b
  .refine(_,hb S.nd j A _ s H E U (G,H,[],λl l=>False) W,?_);let(o,eg,b):=aa.1 b;refine(G,_,o,yL c r Ż,eg,?_);cases o with
   |rt d'=>cases b;solve_by_elim|ro T=>cases b;exact λa J z t E h1 L h3 r=>q _ _ t (E.freeze h1 L h3)<|cu.mpr (a,J,W,a9,aZ.mono (.alloc L) T r)
   |nx D=>cases b;exact λσ z t S=>q _ z t S.m4<|gz.mpr W
   |_=>cases b
  .cases b
def fX.Uk{f:aH}(F:fX K x j p f I)(N:!aP)(Z Ź:!Nat){g:DG}(S:ji N z<|bu p) (R:N.Nodup->∀(m:au) (A:gM) (e:!Env) (s:aA) (H:Hp) (E:XK),d7 k (A.deeper<|oY j (bu p) s.heap.objs.size f m)->∀B:Bs,B.3=[] ->
   nY (wR fx P w K u y N j (bu p) f m A e s H E).NY (fI p) (gO K B [] Z Ź g)) (t:‹∀i∈Z,z.length<=i›):b9 P w K u y fx (k+1) f I z<|vL K<|ou z.length N.length g:=by
 refine F.ok S (λJ H Q E h =>?_) λm A e s H J Q E a h =>?_
 .let(G,ds,d,D,r,b,_):=h;unfold ou at b;split at b
  .rw[<- r.length];omega
  .cases b
 .let(G,ds,d,D,r,b,q):=h;unfold ou at b;split at b
  .refine(_,R S.nd m A e s H E a (G,H,[],λc c=>False) W,?_);let(o,eg,b):=aa.1 b;refine(G,_,o,yL D r Ż,eg,?_);cases o with
   |ro rs=>cases b;solve_by_elim|_=>cases b
  .cases b
structure gP(P:bh)(w:cW)(K:aV)(mg:aP->↑au)(base:cP)(x:aP)(k:Nat)(sp:Sp):Prop where
 ex:∃f fd ps,b9 P w K mg base fx k f fd ps sp/\mg x=some (.ref f)/\BK K (.ref f)=true/\Binds K fd ps []
def gP.mono(h:gP P w K u y x j a)(c:j<=k):gP P w K u y x k a:=by
 let(f,g,b,e,d):=h.ex;exact(f,g,b,e.mono c,d)
end
section
variable {X:Cx}
def Ll{F:!D->↑D}(h:gP X.prog X.w X.K X.mg X.base x k<|gn X.K F)(s:d7 k X.A)(z:Gl X x)(E:PA X (e::l)<|E9 X.K Z g)(b:‹(x==("__debug__" : aP))=false›)(A:@&(ak (e::l) X.env=(Z_,eval e X.env)::ak l X.env))(a:@&((cB C<|ak l X.env).any (·.1)=false)):PE X (.Call (.Name x p) (e::l) [] C)<|tP X.K Z<|be F g:=by
 let(f,fd,U,I,t,w,B):=h.ex;refine(yg I s z t w B .nil lP E b A a).imp ?_;rintro T H Q ⟨G,m,d,J,c,L,q⟩;let(i,K,u):=AB L;exact(G,m,i,J,c,K,λn R O j r=>by rw[bZ];exact(R,i,d,j.gh,r,u,λv P N S o=>q v P N (j.trans S) o))
noncomputable def fG(F:!D->↑(!D))(g:DL):DL:=λa=>(g a).bind F
def acp{F:!D->↑(!D)}(h:gP X.prog X.w X.K X.mg X.base x k<|vL X.K F)(w:d7 k X.A)(B:Gl X x)(J:PA X (e::l)<|E9 X.K Z g)(d:‹(x==("__debug__" : aP))=false›)(E:@&(ak (e::l) X.env=(Z_,eval e X.env)::ak l X.env))(c:@&((cB C<|ak l X.env).any (·.1)=false)):PE X (.Call (.Name x p) (e::l) [] C)<|tF X.K Z<|fG F g:=by
 let(f,fd,ps,i,z,A,I):=h.ex;refine(yg i w B z A I .nil lP J d E c).imp ?_;rintro σ H Q ⟨G,o,O,u,j,b,q⟩;let(n,N,b):=aa.1 b;exact(G,o,n,u,j,N,λr T R m v=>by rw[bZ];exact(T,n,O,m.gh,v,b,λa s S P U i L K t=>q a s S P (m.trans U) (m.hh.free i) L K t))
noncomputable def mw:D->Bool
 |.dC=>Z'|.bl _=>Z'|.int _=>Z'|.str _=>Z'|_=>Z_
end
def Yq{F:!D->↑D}{m:Nat}(e:∀b:!Int,b.length<=m->F [.kG b]=Y (.bl Z'))(K:aV)(H:Hp)(a:aH)(b:!Int)(c:b.length<=m)(f:R5 H)(d:lW K H a<|b.map V.int):
  gn K F [.ref a] H (λv i=>v=.bl Z') λi i i=>False:=
 (H,_,_,a_.refl _,.cons (Dc.mpr (a,W,d)) .nil,e b c,λv h g E r=>dO.mp r)
noncomputable def Ite(K:aV)(a:aH):It:=
 (λi H=>∃b x,lW K H a b/\b[i]?=Y x,λi H v c=>∃x p,(∀b,lW K H a b->b[i]?=Y x)/\H p=M/\v=.ref p/\c=cU H p (.tup [.int i,x]),λi H=>∃b,lW K H a b/\b.length<=i)
def Mb{P}{K}{x1}(a e t)(T:e≠t):NM P w K (.Tuple agf x1 N) (Ite K a) [e,t] e (λi h=>(∃l,IsEnum h e t (i:Int) l)/\h.IsListIter t a i) where
 mem:=by solve_by_elim
 obj:=λi h D b g=>by
  obtain⟨⟨l,f⟩,j⟩:=D;obtain rfl|g:=aG.mp g
  .exact(_,f,λv z=>by cases z)
  .let e:b=t:=by simpa using g
   subst e;let(o,e,c,d):=j;exact(o,e,λv z=>by rw[d]at z;cases z)
 keep:=λi h h' D k=>by obtain⟨⟨l,f⟩,j⟩:=D;exact((l,k e Ÿ _ f),j.at λo q=>k t Ÿ o q)
 item:=by
  intro X hP hw hK hc i J s σ H E I R D hg;subst hP hw hK;obtain⟨⟨l,f⟩,j⟩:=D;let(xs,x,hq,B):=hg;let(IP,rv,p,hz):=I.list hq;let(u,hu,ru):=rv.get B;have fe:=R e Ÿ;have U:=R t Ÿ;refine wpAny_pyNext_enum_item f j p.isList (x:=u) (by simpa using hu) T λh1 eo it1 t1 z1 k1 =>?_
  refine(_,W,?_);refine wpAny_letOwnedTupleGo_enum (s:={ s with heap:=h1,toks:=s.toks+1 }) eo λG e2 s2 =>?_
  have S:e<s.heap.objs.size:=aQ f;let Da:H s.heap.objs.size=none:=I.gf.fresh<|aF _;let L:jw e h1 G:=s2;have m:∀b o,b≠e->b≠t->s.heap.get? b=Y o->G.get? b=Y o:=λb o h3 h4 q=>(L.2 b h3).trans<|k1 b o h3 h4 q
  let tup:G.get? s.heap.objs.size=Y { cls :=.type "tuple",data :=.seq #[.int i s.toks,u] }:=(L.2 _<|j2 S).trans t1;have C:∀b o,H b=Y o->b≠e/\b≠t:=λb o q=>(λz=>by(rw[z,fe.1]at q;cases q),λz=>by(rw[z,U.1]at q;cases q))
  let new:iY X.prog X.w (cU H s.heap.objs.size<|.tup [.int i,x]) G s.heap.objs.size<|.tup [.int i,x]:=
   (by show 2<=a7;rw[kE];decide,[.int i s.toks,u],.cons (_,W)<|.cons ru .nil,_,tup,W,_,W)
  let O:nO X.prog X.w (cU H s.heap.objs.size<|.tup [.int i,x]) G:=λb o q=>by
   by_cases g:b=s.heap.objs.size
   .subst g;rw[a9]at q;cases q;exact new
   .rw[aO g]at q;refine(I.gf b o q).Bk (λc v F r =>?_) (λc r=>by rw[aO<|bf r Da];exact r) λc ys r=>by rw[aO<|bf r Da];exact r
    obtain rfl|F:=F
    .exact m _ _ (C _ _ q).1 (C _ _ q).2 r
    .exact m _ _ (C _ _ F).1 (C _ _ F).2 r
  have un:Un (EL X.stack) [e,t] H (cU H s.heap.objs.size<|.tup [.int i,x]) s.heap G:=by
   have y:∀b,b∉[e,t]->b≠e/\b≠t:=λb g=>(λz=>g (by simp[z]),λz=>g<|by simp[z])
   let l:∀b o,s.heap.get? b=Y o->b≠s.heap.objs.size:=λb o q=>bI<|aQ q
   refine(λb o q n A B=>m b o (y b B).1 (y b B).2 q,λb o q n A B=>(o.slots,m b o (y b B).1 (y b B).2 q),λb o q n B=>by rw[aO<|l b o q];exact n,
    λb o q B=>(o,m b o (y b B).1 (y b B).2 q),λb ys q=>by rw[aO<|bf q Da];exact q,λb o u q=>by rw[aO<|bf q Da];exact q,λb ps q=>(#[],by rw[aO<|bf q Da];simpa using q))
  let I2:Inv X J σ (cU H s.heap.objs.size<|.tup [.int i,x]) { s with heap:=G,toks:=s.toks+1 }:=I.Lu (s':={ s with heap:=G,toks:=s.toks+1 }) W un O I.bare λb g=>by
   obtain rfl|g:=aG.mp g
   .exact(fe.2.2.2.1,fe.2.1,fe.2.2.2.2.1,fe.2.2.2.2.2)
   .let z:b=t:=by simpa using g
    subst z;exact(U.2.2.2.1,U.2.1,U.2.2.2.2.1,U.2.2.2.2.2)
  have st3:G.IsListIter t a<|i+1:=it1.at λo q=>(L.2 t<|bw T).trans q
  refine(.ref s.heap.objs.size,_,I2,W,(x,s.heap.objs.size,λys hy=>by rw[I.qL hy hq];exact B,Da,W,W),((u,by exact_mod_cast e2),st3),λb g =>?_);have:b≠s.heap.objs.size:=by
   obtain rfl|g:=aG.mp g
   .exact bI S
   .let z:b=t:=by simpa using g
    subst z;let(o,q,_):=j;exact bI<|aQ q
  rw[aO this];exact(R b g).1
 done:=by intro X hP hw hK hc i J s σ H E I R D hg;subst hP hw hK;obtain⟨⟨l,f⟩,j⟩:=D;let(xs,hq,B):=hg;let(IP,rv,p,hz):=I.list hq;let(f0,f1,f2,f3,f4,f5):=R t Ÿ;let hl:=rv.length;exact wpAny_pyNext_enum_end (I.ok.hd hc) f j p.isList (by simp;simp_all) λh' eb=>(W,I.turned (t':=s.toks) (λb o g q=>eb b o g q) f0 f1 f3 f4 f5)
 self:=λA i s Q E D h=>by obtain⟨⟨l,f⟩,j⟩:=D;exact wpAny_pyIter_enum f h
section
variable {X:Cx}{f:DF}
def YF(K:aV)(e:TE):TI:=λc H R=>e c H λx b=>∃a,x=.ref a/\(∃d,lW K b a d)/\R (Ite K a) b
def T4{A}{v:TE}(Q:Gl X "enumerate")(O:X.mg "enumerate" = M)(P:PE X e v)(E:@&(ak [e] X.env=[(Z_,eval e X.env)]))(n:@&(ak [e] X.env=(Z_,eval e X.env)::ak [] X.env))(L:autoParam (eN "enumerate" = Y (.type "enumerate")) ţ):PI X (.Tuple k A g) (.Call (.Name "enumerate" p) [e] [] i)<|YF X.K v:=by
 intro j s y H R I h;refine Call_ (pz I Q O L (fO (eP (cA P dH n i j s y H (λl f=>match l with|[x]=>∃a,x=.ref a/\(∃r,lW X.K f a r)/\R (Ite X.K a) f|_=>False) I h) ?_) E W));rintro U c ⟨l,f,d,C,m⟩;cases l with
 |nil=>exact m.elim|cons x t=>
  cases t with
  |cons _ _=>exact m.elim|nil=>
  obtain⟨a,rfl,⟨r,N⟩,q⟩:=m;let(u,rfl,B):=cf.one C;cases B;let(K,rv,D,hz):=d.list N;refine call_enumerate_list D.isList λS w G T J =>?_
  refine wpAny_pyIter_enum w ?_;let F:f c.heap.objs.size=none:=d.gf.fresh<|aF _;refine(c.heap.objs.size+1,[c.heap.objs.size+1,c.heap.objs.size],_,_,f,W,d.kept (t':=c.toks) J,Mb a (c.heap.objs.size+1) c.heap.objs.size<|j2<|mY _,((_,w),G),λb o =>?_,q);obtain rfl|o:=aG.mp o
  .exact d.Aq (nS _)<|d.gf.fresh<|nS _
  .let z:b=c.heap.objs.size:=by simpa using o
   subst z;exact d.Aq (aF _) F
noncomputable def xq(a:!D):!D:=a.zipIdx.map λp =>.tup [.int (p.2:Nat),p.1]
def wO{i:Nat}(h:(xq a)[i]?=Y d):∃x,a[i]?=Y x/\d=.tup [.int i,x]:=by
 unfold xq at h;rw[aK,List.getElem?_zipIdx]at h;rcases e:a[i]? with _|x<;>simp_all
def wN(a:!D):(xq a).length=a.length:=by simp[xq]
def MX{K:aV}{a}(k:G a=Y (.lst b))(r:aZ K G n b):JI K G (Ite K a)<|xq n:=by
 refine(λi H s e =>?_,λi H s e=>(b,.of<|s _ _ k,by rw[wN]at e;rw[<- r.length];exact e),λi H x B A d l h (y,p,f,m,u,w) t =>?_)
 .rw[wN]at e;have j:i<b.length:=by rw[<- r.length];exact e
  exact(b,b[i],.of<|s _ _ k,ż)
 .let(c,z,rfl):=wO t;let(v,g,o):=r.get z;rw[(f b<|.of<|h _ _<|l _ _ k)]at g;cases g;subst u w;refine(_,fT.alloc h m,cQ.mpr (p,_,W,a9,.cons (b8.mpr W)<|.cons (cS.mono (l.trans<|.alloc<|h.free m) c o) .nil))
def iE(f:DF):DL:=λa=>(iL f a).map xq
def adU{c:!Expr}{o}(w:Gl X "enumerate")(u:X.mg "enumerate" = M)(h:PE X e<|tP X.K Z f)(t:@&(ak [e] X.env=[(Z_,eval e X.env)]))(i:@&(ak [e] X.env=(Z_,eval e X.env)::ak [] X.env)):
  PI X (.Tuple c o b) (.Call (.Name "enumerate" p) [e] [] g) (A9 X.K Z<|iE f):=(T4 w u h t i).imp <|by
 rintro B H R ⟨G,n,D,x,j,d,k⟩;let(C,y,d):=aj.1 d;cases d;refine(G,n,_,x,j,DD y,λv A z m s =>?_);let(a,q,rfl,l,r):=cu.mp s;exact(a,W,(q,.of<|m.gh _ _ l),k _ A z m<|MX l r)
noncomputable def Its(x:aP):It:=(λi b=>i<x.cps.size,λi H v a=>a=H/\∃c,x.cps[i]?=Y c/\v=.str ⟨#[c]⟩,λi b=>x.cps.size<=i)
def Ov{P}{K}(x)(t)(j):NM P w K G (Its x) [j] j (λi h=>h.IsStrIter j "str_ascii_iterator" x t i) where
 mem:=by solve_by_elim
 obj:=λi h a b l=>by
  let e:b=j:=by simpa using l
  subst e;let(o,e,c,d):=a;exact(o,e,λv z=>by rw[d]at z;cases z)
 keep:=λi h p a k=>by let(o,e,c,d):=a;exact(o,k j Ÿ o e,c,d)
 item:=by
  intro X q hw r F i f s D H E I n a g;subst q hw r;let(C,B,L,A,y,u):=n j Ÿ;let g:i<x.cps.size:=g;refine wpAny_pyNext_ascii_item a (c:=x.cps[i]) ż λp m J =>?_
  let N:Inv X f D H { s with heap:=p,toks:=s.toks+1 }:=I.turned (λb o l e=>(J.2 b l).trans e) C B A y u;let(o,e,c,d):=id m;exact(_,W,QQ (s:={ s with heap:=p,toks:=s.toks+1 }) e c d ſ (.str ⟨#[x.cps[i]]⟩,H,N,(_,W),(W,_,ż,W),m,λb l=>(n b l).1))
 done:=by intro X q hw r F i f s D H E I n a g;subst q hw r;let(C,B,L,A,y,u):=n j Ÿ;let g:x.cps.size<=i:=g;exact wpAny_pyNext_ascii_end (I.ok.hd F) a (by simp[g]) λp O=>(W,I.turned (t':=s.toks) (λb o l e=>O b o l e) C B A y u)
 self:=λv v v v v a h=>wpAny_pyIter_striter_ascii a h
def abB(b:TE):TI:=λa H R=>b a H λv c=>∃x,v=.str x/\x.cps.all (· < 128)=Z'/\R (Its x) c
def XM{f}(m:PE X l f):PI X i l<|abB f:=by
 intro a s g H R I h;refine eP (m a s g H _ I h) ?_;rintro v c ⟨x,r,d,j,k⟩;let(z,e,p,q):=k;subst e;let(t,rfl):=j;refine wpAny_pyIter_ascii p ?_;refine(_,_,_,_,r,W,d.kept λb o e=>ao _ e,Ov z t _,(_,br _ W,W,W),λb n =>?_,q);let e:=by simpa using n
 subst e;exact d.Aq (aF _)<|d.gf.fresh<|aF _
noncomputable def v_(x:aP):!D:=x.cps.toList.map λc =>.str ⟨#[c]⟩
def iS(f:DF):DL:=λa=>(f a).bind λd=>match d with|.str x=>if x.cps.all (· < 128)=Z' then Y (v_ x) else M|_=>M
def Qs{K}(x):JI K G (Its x)<|v_ x:=by
 have f:(v_ x).length=x.cps.size:=by simp[v_]
 refine(λi H s a=>by rw[f]at a;exact a,λi H s a=>by rw[f]at a;exact a,λi H v m k d l g (e,c,j,h) b =>?_);subst e h;refine(k,.refl g,?_);unfold v_ at b;rw[aK,Array.getElem?_toList,j]at b;cases b
 exact Ÿ
set_option tactic.hygienic true
def Y_{g}(h:PE X e<|tP X.K Z f):PI X g e<|A9 X.K Z<|iS f:=(XM h).imp <|by
 rintro q H R ⟨G,c,r,l,b,a,k⟩;let(d,m,a):=aa.1 a;cases d<;>simp only[aw]at a<;>try (cases a)
 split at a
 .cases a;rename_i x j;exact(G,c,_,l,b,m,λv o n p i=>(x,dJ.mp i,j,k _ o n p<|Qs x))
 .cases a
end
def mI{K}{Z}(i)(e:‹i∉Z›):∀v a H Q,V8 K Z (gN i) v a H Q->ny i v a H Q:=λv a H Q (G,h,d,c,f,b,r,g,k)=>by
 cases g;exact k _ G H (.refl f)<|b.set e r
noncomputable def vv(b:Scope)(d N:!aP)(c:!(↑Nat))(a:Scope):Bool:=
 (a.names.all λy=>a.names.lookup y.1==Y y.2)&&(a.names.all λy=>y.2 != .free||(b.names.lookup y.1==Y .cell||b.names.lookup y.1==Y .free))&&(c.length==N.length) &&
 ((bJ c.length).all λi=>match c[i]?,N[i]? with|some (Y j),Y x=>d[j]? == Y x&&a.names.lookup x==Y .free|_,_=>Z')
def lE{X:Cx}{outer:Scope}{oN N}{src:!(↑Nat)}(d:a.kind=.function)(h:vv outer oN N src a=Z')(p:X.env.scope=outer)(o:X.N=oN):dA X N src a:=by
 unfold vv at h;simp only[ax,dI,beq_iff_eq,bx]at h;obtain⟨⟨⟨n,m⟩,l⟩,k⟩:=h;refine(d,λy b=>n y b,λy b f =>?_,l,λi j x c g =>?_)
 .grind
 .let e:=(ah.mp c).1;have:=k i Ż;rw[c,g]at this;simp at this;rw[o];exact this
section
variable {K:aV}{f:Hp}
end
noncomputable def uP:aP:=af "open"
noncomputable def uN:aP:=af "text"
noncomputable def o_:aP:=af "close"
def sOT:¬(uP=uN):=by decide +kernel
def sOC:¬(uP=o_):=by decide +kernel
def sTC:¬(uN=o_):=by decide +kernel
structure Nd where
 nm:aP
 tx:!D
 kd:!Int
 par:Int
noncomputable abbrev xk(x:aP)(p:Int):Nd:={ nm:=x,tx:=[],kd:=[],par:=p }
noncomputable def MK(n:Nd):D :=.tup [.str n.nm,.lst n.tx,.lst<|n.kd.map D.int,.int n.par]
abbrev Nz:=!Nd×Int
def xj(z : Nz)(s : D): ↑Nz := match s with
  |.tup [.str k,.str x] =>
    if k = uP then
      (if 0 <= z.2 then (match (z.1 ++ [xk x z.2])[z.2.toNat]? with
        |some n => Y ((z.1 ++ [xk x z.2]).set z.2.toNat { n with kd := n.kd ++ [(z.1.length : Int)] },(z.1.length : Int))
        | none => M)
       else Y (z.1 ++ [xk x z.2],(z.1.length : Int)))
    else if k = uN then (if 0 <= z.2 then (match z.1[z.2.toNat]? with |some n => Y (z.1.set z.2.toNat { n with tx := n.tx ++ [.str x] },z.2) |none => M) else M)
    else M
  |.tup [.str k] => if k = o_ then (if 0 <= z.2 then (z.1[z.2.toNat]?).map λn => (z.1,n.par) else M) else M
  |_ => M
def Bp:!D->Nz->↑Nz
 |[],z=>Y z|s::a,z=>(xj z s).bind<|Bp a
def jY(b:!D):↑(!D):=match b with
 |[.lst a]=>if a.length<=100000 then (Bp a ([],-1)).map λz=>z.1.map MK else M
 |_=>M
set_option tactic.hygienic true in
def F4{s:D}(e:xj z s=Y c):(∃x,s=.tup [.str uP,.str x]/\((¬0<=z.2/\c=(z.1++[xk x z.2],(z.1.length:Int))) \/
   (0<=z.2/\∃n,(z.1++[xk x z.2])[z.2.toNat]?=Y n/\c=((z.1++[xk x z.2]).set z.2.toNat { n with kd:=n.kd++[(z.1.length:Int)] },(z.1.length:Int))))) \/
  (∃x n,s=.tup [.str uN,.str x]/\0<=z.2/\z.1[z.2.toNat]?=Y n/\c=(z.1.set z.2.toNat { n with tx:=n.tx++[.str x] },z.2))\/(∃n,s=.tup [.str o_]/\0<=z.2/\z.1[z.2.toNat]?=Y n/\c=(z.1,n.par)):=by
 unfold xj at e;split at e
 .split at e
  .rename_i k x d;subst d;split at e
   .rename_i a;split at e
    .cases e;rename_i n b;exact .inl (x,W,.inr (a,n,b,W))
    .cases e
   .cases e;rename_i a;exact .inl (x,W,.inl (a,W))
  .split at e
   .rename_i k x _ d;subst d;split at e
    .rename_i a;split at e
     .cases e;rename_i n b;exact .inr<|.inl (x,n,W,a,b,W)
     .cases e
    .cases e
   .cases e
 .split at e
  .rename_i k d;subst d;split at e
   .rename_i a;let(n,b,e):=aj.1 e;rw[b];cases e;exact .inr<|.inr (n,W,a,W,W)
   .cases e
  .cases e
 .cases e
structure iG(K:aV)(G H0 H:Hp)(Nn:aH)(cs:!(aH×aH×aH))(ns:!Nd):Prop where
 lst:H Nn=some (.lst<|cs.map λc =>.ref c.1)
 Ur:H0 Nn=none
 len:cs.length=ns.length
 tup:∀(i:Nat) c n,cs[i]?=some c->ns[i]?=some n->H c.1=some (.tup [.str n.nm,.ref c.2.1,.ref c.2.2,.int n.par])/\H0 c.1=none
 txs:∀(i:Nat) c n,cs[i]?=some c->ns[i]?=some n->(∃vs,H c.2.1=some (.lst vs)/\aZ K G n.tx vs)/\H0 c.2.1=none/\c.2.1≠Nn
 WC:∀(i:Nat) c n,cs[i]?=some c->ns[i]?=some n->H c.2.2=some (.lst<|n.kd.map V.int)/\H0 c.2.2=none/\c.2.2≠Nn
 UP:∀(i j:Nat) c d,cs[i]?=some c->cs[j]?=some d->c.2.1=d.2.1->i=j
 UO:∀(i j:Nat) c d,cs[i]?=some c->cs[j]?=some d->c.2.2=d.2.2->i=j
 IU:∀(i j:Nat) c d,cs[i]?=some c->cs[j]?=some d->c.2.1≠d.2.2
section
variable {K:aV}{v:Hp}
def iG.at(h:iG K G v H w g l){i:Nat}{n}(e:l[i]?=Y n):∃c,g[i]?=Y c:=by
 have:i<g.length:=by rw[h.len];exact(ah.mp e).1
 simp_all
def iG.atc(h:iG K G v H w g l){i:Nat}{c}(e:g[i]?=Y c):∃n,l[i]?=Y n:=by
 have:i<l.length:=by rw[<- h.len];exact(ah.mp e).1
 simp_all
def iG.Xq(h:iG K G v H w g l)(b:g[k]?=Y c)(s:l[k]?=Y n)(r:aZ K G a j):iG K G v (cU H c.2.1<|.lst j) w g<|l.set k { n with tx:=a }:=by
 obtain⟨⟨A,t,_⟩,_,y⟩:=h.txs k c n b s;have p:∀ {i:Nat}{m:Nd},(l.set k { n with tx:=a })[i]?=Y m->(i=k/\m={ n with tx:=a })\/(i≠k/\l[i]?=Y m):=fun {i m} e=>by
  by_cases o:k=i
  .subst o;rw[aX (ah.mp s).1]at e;exact .inl (W,(bE e).symm)
  .rw[aq o]at e;exact .inr (bw o,e)
 refine(by rw[aO<|bw y];exact h.lst,h.Ur,by simp[h.len],λi d m e f =>?_,λi d m e f =>?_,λi d m e f =>?_,h.UP,h.UO,h.IU)
 .obtain⟨rfl,rfl⟩|⟨o,f⟩:=p f
  .rw[e]at b;cases b;let(q,z):=h.tup _ _ n e s;exact(by rw[aO<|F_ q t<|by intro z;cases z];exact q,z)
  .let(q,z):=h.tup i d m e f;exact(by rw[aO<|F_ q t<|by simp_all];exact q,z)
 .obtain⟨rfl,rfl⟩|⟨o,f⟩:=p f
  .simp_all [a9]
  .obtain⟨⟨u,q,x⟩,z⟩:=h.txs i d m e f;exact((u,by rw[aO<|λz=>o<|h.UP i k d c e b z];exact q,x),z)
 .obtain⟨rfl,rfl⟩|⟨o,f⟩:=p f
  .rw[e]at b;cases b;let(q,z):=h.WC _ _ n e s;exact(by rw[aO<|bw<|h.IU _ _ _ _ e e];exact q,z)
  .let(q,z):=h.WC i d m e f;exact(by rw[aO<|bw<|h.IU _ _ _ _ b e];exact q,z)
def iG.aev(h:iG K G v H w g l)(b:g[k]?=Y c)(p:l[k]?=Y n):iG K G v (cU H c.2.2<|.lst<|a.map V.int) w g<|l.set k { n with kd:=a }:=by
 let(t,_,u):=h.WC k c n b p;have o:∀ {i:Nat}{m:Nd},(l.set k { n with kd:=a })[i]?=Y m->(i=k/\m={ n with kd:=a })\/(i≠k/\l[i]?=Y m):=fun {i m} e=>by
  by_cases j:k=i
  .subst j;rw[aX (ah.mp p).1]at e;exact .inl (W,(bE e).symm)
  .rw[aq j]at e;exact .inr (bw j,e)
 refine(by rw[aO<|bw u];exact h.lst,h.Ur,by simp[h.len],λi d m e f =>?_,λi d m e f =>?_,λi d m e f =>?_,h.UP,h.UO,h.IU)
 .obtain⟨rfl,rfl⟩|⟨j,f⟩:=o f
  .rw[e]at b;cases b;let(q,z):=h.tup _ _ n e p;exact(by rw[aO<|F_ q t<|by intro z;cases z];exact q,z)
  .let(q,z):=h.tup i d m e f;exact(by rw[aO<|F_ q t<|by intro z;cases z];exact q,z)
 .obtain⟨rfl,rfl⟩|⟨j,f⟩:=o f
  .rw[e]at b;cases b;obtain⟨⟨r,q,s⟩,z⟩:=h.txs _ _ n e p;exact((r,by rw[aO<|h.IU _ _ _ _ e e];exact q,s),z)
  .obtain⟨⟨r,q,s⟩,z⟩:=h.txs i d m e f;exact((r,by rw[aO<|h.IU _ _ _ _ e b];exact q,s),z)
 .obtain⟨rfl,rfl⟩|⟨j,f⟩:=o f
  .simp_all [a9]
  .let(q,z):=h.WC i d m e f;exact(by rw[aO<|λz=>j<|h.UO i k d c e b z];exact q,z)
def iG.push{a b:aH}{x}(h:iG K G v H w g l)(R:a_ v H)(F:H a=M)(P:cU H a (.lst []) b=M)(I:cU (cU H a<|.lst []) b (.lst []) t=M):
  iG K G v (cU (cU (cU (cU H a<|.lst []) b<|.lst []) t<|.tup [.str x,.ref a,.ref b,.int u]) w<|.lst<|g.map (λc =>.ref c.1)++[.ref t]) w (g++[(t,a,b)]) (l++[xk x u]):=by
 have D:b≠a:=λz=>by rw[z,a9]at P;cases P
 have s:H b=none:=by rw[aO D]at P;exact P
 have C:t≠b:=λz=>by rw[z,a9]at I;cases I
 have Da:t≠a:=λz=>by rw[aO C,z,a9]at I;cases I
 have E:H t=none:=by rw[aO C,aO Da]at I;exact I
 have N:∀ {p:aH},H p=M->p≠w:=fun {p} z e=>by rw[e,h.lst]at z;cases z
 have B:∀ {p:aH}{o:HO},H p=Y o->p≠w->cU (cU (cU (cU H a<|.lst []) b<|.lst []) t<|.tup [.str x,.ref a,.ref b,.int u]) w (.lst<|g.map (λc =>.ref c.1)++[.ref t]) p=Y o:=fun {p o} e n=>by rw[aO n,aO<|bf e E,aO<|bf e s,aO<|bf e F];exact e
 have k:∀ {i:Nat}{c},(g++[(t,a,b)])[i]?=Y c->(i<g.length/\g[i]?=Y c)\/(i=g.length/\c=(t,a,b)):=fun {i c} e=>by
  by_cases m:i<g.length
  .rw[aI m]at e;exact .inl (m,e)
  .have O:=(ah.mp e).1;let S:i=g.length:=by simp at O;lia
   subst S;simp at e;exact .inr (W,e.symm)
 have A:∀ {i:Nat}{n},(l++[xk x u])[i]?=Y n->(i<l.length/\l[i]?=Y n)\/(i=l.length/\n=xk x u):=fun {i c} e=>by
  by_cases m:i<l.length
  .rw[aI m]at e;exact .inl (m,e)
  .have O:=(ah.mp e).1;let S:i=l.length:=by simp at O;lia
   subst S;simp at e;exact .inr (W,e.symm)
 have O:=h.len;have J:∀ {i:Nat}{c},g[i]?=Y c->H c.2.1≠M/\H c.2.2≠none:=fun {i c} e=>by let(n,U):=h.atc e;obtain⟨⟨T,q,_⟩,_⟩:=h.txs i c n e U;let X:=(h.WC i c n e U).1;exact(by rw[q];simp,by rw[X];simp)
 refine(by rw[a9];simp,h.Ur,by simp[O],λi c n e f =>?_,λi c n e f =>?_,λi c n e f =>?_,λi j c d e f z =>?_,λi j c d e f z =>?_,λi j c d e f z =>?_)
 .obtain⟨m,e⟩|⟨m,rfl⟩:=k e<;>obtain⟨y,f⟩|⟨y,rfl⟩:=A f
  .let(q,z):=h.tup i c n e f;exact(B q<|F_ q h.lst (by intro z;cases z),z)
  .simp_all
  .simp_all
  .exact(by rw[aO<|N E,a9],R.free E)
 .obtain⟨m,e⟩|⟨m,rfl⟩:=k e<;>obtain⟨y,f⟩|⟨y,rfl⟩:=A f
  .obtain⟨⟨T,q,r⟩,Q,L⟩:=h.txs i c n e f;exact((T,B q L,r),Q,L)
  .simp_all
  .simp_all
  .exact(([],by rw[aO<|N F,aO Da.symm,aO D.symm,a9],.nil),R.free F,N F)
 .obtain⟨m,e⟩|⟨m,rfl⟩:=k e<;>obtain⟨y,f⟩|⟨y,rfl⟩:=A f
  .let(q,Q,L):=h.WC i c n e f;exact(B q L,Q,L)
  .simp_all
  .simp_all
  .exact(by rw[aO<|N s,aO C.symm,a9];rfl,R.free s,N s)
 .obtain⟨m,e⟩|⟨m,rfl⟩:=k e<;>obtain⟨y,f⟩|⟨y,rfl⟩:=k f
  .exact h.UP i j c d e f z
  .exact absurd (z ▸ F) (J e).1
  .exact absurd (z.symm ▸ F) (J f).1
  .lia
 .obtain⟨m,e⟩|⟨m,rfl⟩:=k e<;>obtain⟨y,f⟩|⟨y,rfl⟩:=k f
  .exact h.UO i j c d e f z
  .exact absurd (z ▸ s) (J e).2
  .exact absurd (z.symm ▸ s) (J f).2
  .lia
 .obtain⟨m,e⟩|⟨m,rfl⟩:=k e<;>obtain⟨y,f⟩|⟨y,rfl⟩:=k f
  .exact h.IU i j c d e f z
  .exact absurd (z ▸ s) (J e).1
  .exact absurd (z.symm ▸ F) (J f).2
  simp_all
def Jd(s:a_ G v)(a:a_ v H):fT G v (λb=>match v b with|none=>H b|some _=>G b) H:=
 (a,λb o e=>by rw[s _ _ e];exact e,λb o e=>by
  rcases q:v b with _|u
  .simp_all
  rw[q]at e;solve_by_elim,λb o e=>by
  lia)
def iG.rep(h:iG K G v H w g l)(s:a_ G v):aZ K (λb=>match v b with|none=>H b|some _=>G b) (l.map MK)<|g.map λc =>.ref c.1:=by
 let a:∀(i:Nat) c n,g[i]?=Y c->l[i]?=Y n->cS K (λb=>match v b with|none=>H b|some _=>G b) (MK n) (.ref c.1):=λi c n e f=>by
  let(u,m):=h.tup i c n e f;obtain⟨⟨p,t,r⟩,k,_⟩:=h.txs i c n e f;let(q,j,_):=h.WC i c n e f;refine cQ.mpr (c.1,_,W,Ż,.cons (dJ.mpr W) (.cons (cu.mpr (c.2.1,p,W,Ż,aZ.mono (λb o e=>by rw[s _ _ e];exact e) _ r))
   (.cons (cu.mpr (c.2.2,_,W,Ż,aZ.ints _))<|.cons (b8.mpr W) .nil)))
 let d:=h.len;let gen:∀(g:!(aH×aH×aH)) (l:!Nd),g.length=l.length->(∀(i:Nat) c n,g[i]?=Y c->l[i]?=Y n->cS K (λb=>match v b with|none=>H b|some _=>G b) (MK n) (.ref c.1))->aZ K (λb=>match v b with|none=>H b|some _=>G b) (l.map MK) (g.map λc =>.ref c.1):=by
  intro g
  induction g with
  | nil=>intro l d _;cases l with
   |nil=>exact .nil|cons _ _=>cases d
  |cons c g ih=>
   intro l d a;cases l with
   |nil=>cases d|cons n l=>exact .cons (a 0 c n W W)<|ih l (by simpa using d) λi c n e f=>a (i+1) c n (by simpa using e) (by simpa using f)
 exact gen g l d a
end
end L2
namespace L2
open PySem
end L2
namespace L2
open PySem PyProof.Rows
def Gs(h:HC a b):a.length=b.length:=by
 induction h<;>simp_all
section
variable {s:aA}
end
end L2
namespace L2
open PySem PyProof.Rows PySem.Spec
section
variable {R:Result->aA->Prop}{f:!aH}{P:Nat->au->Prop}{m:Nat->aA->Prop}
end
section
variable {s:aA}
end
end L2
namespace L2
open PySem PySem.Spec PyProof.Rows
section
variable {m:bh}{s:aA}{R:Result->aA->Prop}
variable {P:Nat->au->Prop}
end
section
variable {m:bh}{s:aA}
variable {P:Nat->au->Prop}
end
section
variable {X:Cx}{f:DF}
end
abbrev DM:=bL->↑(D×bL)
abbrev Sd:=bL->↑(!D×bL)
inductive tM (K:aV) (B:Bs) (Z:!Nat) (f:DM) (c:St) (H:Hp) (Q:VK):Prop
 |mk G e d a:SR K B Z G H c e->f e=some (d,a)->(∀v b g,SR K B Z b g c a->a_ G b->cS K b d v->Q v g)->tM K B Z f c H Q
inductive Xf (K:aV) (B:Bs) (Z:!Nat) (f:Sd) (c:St) (H:Hp) (Q:!V->Hp->Prop):Prop
 |mk G d g a:SR K B Z G H c d->f d=some (g,a)->(∀e b h,SR K B Z b h c a->a_ G b->aZ K b g e->Q e h)->Xf K B Z f c H Q
noncomputable def Hv(H:Hp)(a:aH):Hp:=λb=>if b=a then M else H b
theorem Aw:Hv H a a=none:=by simp[Hv]
theorem Ax(h:b≠a):Hv H a b=H b:=by simp[Hv,h]
def K7:a_ (Hv H a) H:=λb o e=>by
 grind [Aw,Ax]
section
variable {X:Cx}{m:Pos}
noncomputable def mP(f:DF):DM:=λρ=>(f ρ).map λd=>(d,ρ)
def UA{f}(h:mP f b=Y (d,a)):f b=Y d/\a=b:=by
 let(c,e,h):=aj.1 h
 simp_all
def pD{f}(h:PE X e<|tP X.K Z f):PE X e<|tM X.K B Z<|mP f:=h.imp <|by
 rintro j H Q ⟨G,n,d,a,S,b,k⟩;let(c,rfl):=UA b;exact(G,a,d,S.gh,S.i6,c,λv i g E r=>k v i g (S.ext E) E.gg r)
noncomputable def qJ:Sd:=λρ=>Y ([],ρ)
noncomputable def mV(f:DM)(g:Sd):Sd:=λρ=>(f ρ).bind λp=>(g p.2).bind λq=>Y (p.1::q.1,q.2)
def Qc{f:DM}(h:mV f g d=Y (j,b)):∃x a c,f d=Y (x,a)/\g a=Y (c,b)/\j=x::c:=by
 obtain⟨⟨x,a⟩,i,h⟩:=aa.1 h;rcases e:g a with _|_
 .simp_all
 grind
def Ea:PA X []<|Xf X.K B Z qJ:=dH.imp <|by
 rintro c H Q ⟨G,e,d,a,S,b,k⟩;cases b;exact k _ G H S (a_.refl _) .nil
def mL{f:DM}{g}(h:PE X e<|tM X.K B Z f)(t:PA X l<|Xf X.K B Z g)(r:@&(ak (e::l) X.env=(Z_,eval e X.env)::ak l X.env)):PA X (e::l)<|Xf X.K B Z<|mV f g:=
 (cA h t r).imp <|by rintro F H Q ⟨G,j,d,b,S,w,k⟩;let(x,a,n,u,c,rfl):=Qc w;exact(G,j,x,a,S,u,λv E J z o q=>(E,a,n,b,z,c,λI D C y i p=>k _ D C y (o.trans i)<|.cons (cS.mono i x q) p))
noncomputable def wx(g:Sd):DM:=λa=>(g a).bind λq=>if q.1.length<=1000 then Y (.tup q.1,q.2) else M
set_option tactic.hygienic true in
def Y6{q}{g}(h:PA X l<|Xf X.K B Z g):PE X (.Tuple l q m)<|tM X.K B Z<|wx g:=(Ii h).imp <|by
 rintro v H Q ⟨G,i,d,b,S,a,k⟩;unfold wx at a;rw[aa]at a;obtain⟨⟨c,e⟩,f,a⟩:=a;let a:(if c.length<=1000 then Y (Prod.mk (D.tup c) e) else M)=Y _:=a;split at a
 .cases a;rename_i t;refine(G,i,c,b,S,f,λj x w o r n=>(?_,λp u =>?_))
  .rw[<- n.length];exact bB t vb
  .let E:=fT.alloc (o :=.tup j) o.gh u;exact k _ _ _ (o.ext E) (r.trans E.gg)<|cQ.mpr (p,j,W,a9,aZ.mono E.gg c n)
 .cases a
noncomputable def m2(o:D->D->↑D)(a b:DM):DM:=λc=>(a c).bind λp=>(b p.2).bind λq=>(o p.1 q.1).map λd=>(d,q.2)
def UB{f:bL}(h:m2 o a b g=Y (d,f)):∃x e y,a g=Y (x,e)/\b e=Y (y,f)/\o x y=Y d:=by
 obtain⟨⟨x,e⟩,k,h⟩:=aa.1 h;rcases j:b e with _|⟨y,n⟩
 .simp_all
 rcases i:o x y with _|c
 .simp_all
 grind
def Wj{K:aV}{s}(h:tM K B Z (m2 o s A) c H Q):ZW (rD K o) (tM K B Z s) (tM K B Z A) c H Q:=by
 let(G,i,d,b,S,z,k):=h;let(x,a,y,t,r,C):=UB z;exact(G,i,x,a,S,t,λv L N E j q=>(L,a,y,b,E,r,λu J l f e p=>(J,x,y,d,f.gh,.inl<|cS.mono e x q,.inl p,C,λw I F g n=>k w I F (f.ext g) ((j.trans e).trans g.gg) n)))
variable {s:DM}
def ahm(d:AS X (dr c) o)(f:PE X a<|tM X.K B Z s)(e:PE X b<|tM X.K B Z A):PE X (.BinOp a c b m)<|tM X.K B Z<|m2 o s A:=(FN d f e).imp λg H Q h=>Wj h
def Uz(j:Nat):DM:=λb=>(gc j b).bind λa=>(a[a.length-1]?).map λd=>(d,b.set j<|Y<|.lst a.dropLast)
def Y7{b a}(h:PE X (.Name y p)<|g9 j)(q:‹j∈Z›)(f:@&(bT (.Name y p) "pop" X.env (eval (.Name y p) X.env)=eval (.Name y p) X.env))(e:@&((b.endLine==a.line)=true)):
  PE X (.Call (.Attribute (.Name y p) "pop" b) [] [] a) (tM X.K B Z<|Uz j):=
 (Ik dg PySem.F.slot_list_pop PySem.F.type_list_pop P2 h f e).imp <|by
  rintro x H Q ⟨G,z,d,o,S,g,k⟩;let(n,t,g):=aa.1 g;rcases i:n[n.length-1]? with _|c
  .simp[i]at g
  simp only[i,aw,cE]at g;cases g;exact XI S q (dP t) i λv w u r=>k v G w u (a_.refl _) r
inductive B6 (K:aV) (p:Nat) (F:!D->↑(D×!D)) (h:!V) (H:Hp) (Q:VK) (_x:XK):Prop
 |mk G f d b a n k:a_ G H->f[p]?=some (.lst k)->h[p]?=some (.ref a)->H a=some (.lst n)->aZ K G k n->G a=none->(∀(i:Nat) c,i≠p->f[i]?=some c->∃v,h[i]?=some v/\cS K G c v)->f.length=h.length->F f=some (d,b)->(∀v e g j,fT G (Hv H a) g j->g a=none->j a=some (.lst e)->aZ K g b e->cS K g d v->Q v j)->B6 K p F h H Q _x
def Ua(p:Nat):DO->↑(D×!D)
 |.rm d a=>(gc p a).map λb=>(d,b)
 |.nx a=>(gc p a).map λb=>(.dC,b)
 |_=>M
def Fu(n N p:Nat)(g:DG)(a:!D):↑(D×!D):=if a.length=n then (g<|fP N a).bind (Ua p) else M
def SR.VA{K}{f v}{a}(S:SR K B Z G H g i)(w:j∈Z)(t:i[j]?=Y (Y d))(p:g[j]?=Y (Y<|.ref a))(E:fT G (Hv H a) f v)(L:f a=M)(C:v a=Y n)(r:iq K f u n)(x:@&(wD d=true)):SR K B Z f v g<|i.set j<|Y u:=by
 let(F,Da):=S.ow;let(Q,y,N):=Da.it j d w t;obtain⟨⟨o,_⟩,l⟩:=(j9.cell x).mp N;have:=S.chg (F0:=[a]) Da w (λb c=>(Ž,d,t)) E.gg E.gh λb o e=>by
   obtain z|z:=E.fr b o e
   .exact .inl z
   .by_cases c:b=a
    .exact .inr Ż
    .rw[Ax c]at z;exact .inr<|.inl z
  (λb o c e=>E.hh b o<|by simp_all [Ax]) ((j9.cell r.wD).mpr ((n,C,r),W)) ż λb c=>by simp_all
  λb h=>by have:=(S.pin j b h).2;simp_all (Et r.wD) λk q J I m e=>(S.Ww t x k q J I e).elim
 simp_all [eY]
def SR.called{K}{f}{e}{a}{xs':!D}{b:!V}(S:SR K B Z G H d e)(i:j∈Z)(k:e[j]?=Y (Y<|.lst g))(h:d[j]?=Y (Y<|.ref a))(E:fT G (Hv H a) c f)(o:c a=M)(n:f a=Y (.lst b))(r:aZ K c xs' b):SR K B Z c f d<|e.set j<|Y<|.lst xs':=
 S.VA i k h E o n (b,W,r)
def mE(F:!D->↑(D×!D))(j:Nat)(g:DL):DM:=λa=>(gc j a).bind λb=>(g a).bind λds=>(F<|.lst b::ds).map λq=>(q.1,a.set j<|Y<|.lst q.2)
def adT{F:!D->↑(D×!D)}{e}{g}(h:gP X.prog X.w X.K X.mg X.base x k<|B6 X.K 0 F)(hr:d7 k X.A)(hg:Gl X x)(hy:PE X (.Name y e)<|g9 j)(ha:PA X l<|E9 X.K Z g)(w:‹j∈Z›)(z:‹(x==("__debug__" : aP))=false›)(O:@&(ak (.Name y e::l) X.env=(Z_,eval (.Name y e) X.env)::ak l X.env))(u:@&((cB m<|ak l X.env).any (·.1)=false)):PE X (.Call (.Name x p) (.Name y e::l) [] m)<|tM X.K B Z<|mE F j g:=by
 let(f,fd,ps,h1,hm,hk,hb):=h.ex;refine(yg h1 hr hg hm hk hb .nil lP (cA hy ha O) z O u).imp ?_;rintro σ H Q ⟨G,n,d,U,S,b,q⟩;let(r,E,b):=aa.1 b;let(L,I,b):=aa.1 b;obtain⟨⟨d',o⟩,J,b⟩:=aj.1 b;cases b;let C:=dP E;let(a,vs,K,_):=S.kU w C;refine(_,K,G,n,L,S.gh,S.i6,I,λus G1 H1 s N =>?_);let R:=S.ext s;let(a',t,P,f3,f4,f5,f6):=R.kU w C;rw[K]at P;cases P;show B6 X.K 0 F _ H1 Q E0;rw[bZ];refine(G1,_,d',o,a,t,r,s.gh,W,W,f3,f4,f5,λi c hi ec =>?_,by simp[N.length],J,λv ws' G2 H2 T g2 h2 r2 r3 =>?_)
 .cases i with
  |zero=>solve_by_elim|succ i=>exact N.get (by trivial)
 .exact q v G2 H2 (R.called w C K T g2 h2 r2) (s.gg.trans T.gg) r3
end
section
variable {X:Cx}{m:!Nat}{f:DM}
noncomputable def sE(i:Nat)(f:DM):DG:=λa=>(f a).map λq =>.nx<|q.2.set i<|Y q.1
def adN{i:Nat}(w:X.N.Nodup)(p:X.N[i]?=Y x)(h:Loc X.env.scope x)(s:PE X e<|tM X.K B Z f)(n:‹i∉Z›)(j:@&(cg e (Y<|.Name x a) l.line X.env=c9 false))(q:autoParam (X.fn x=Z'\/X.env.scope.names.lookup x=Y .local) ŧ):
  PS X (.Assign [.Name x a] e l) (gO X.K B m Z Z<|sE i f):=(km w p h s j q).imp <|by
 rintro D F H ⟨G,g,o,S,b,k⟩;obtain⟨⟨d,c⟩,z,b⟩:=aj.1 b;cases b;exact(G,g,d,c,S,z,λv E C A t r=>k _ E C<|A.wa n r)
noncomputable def gV(f:DM):DG:=λa=>(f a).map λq =>.rm q.1 q.2
def ym(h:PE X e<|tM X.K B Z f):PS X (.Return (Y e) l)<|gO X.K B m Z t<|gV f:=(pf h).imp <|by
 rintro D c H ⟨G,g,o,S,a,k⟩;obtain⟨⟨d,b⟩,i,a⟩:=aj.1 a;cases a;exact(G,g,d,b,S,i,λv p n j q r=>k v c p n (Z,j) r)
def OS(i:Nat):DG:=λa=>(gc i a).map λb =>.rm (.lst b) a
def Rm(h:PE X (.Name x p)<|g9 i)(g:‹i∈Z›)(b:autoParam (∀a,(i,a)∉B.3) ť)(s:‹Br i∉Z›)(e:‹i<1000000›):PS X (.Return (Y<|.Name x p) l)<|gO X.K B m Z t<|OS i:=(pf h).imp <|by
 rintro D r H ⟨G,F,o,S,d,k⟩;let(O,C,d):=aj.1 d;cases d;let(E,q):=S.freeze (Ź:=Z.filter (· != i)) (λj f=>(bV.mp f).1) i (λj f=>by by_cases c:j=i<;>simp_all) λz=>by simp_all g b s e
 let(v,A,w):=q.env i _ λz=>by simp_all (dP C)
 exact(v,A,k v r E H (_,q) w)
def J4(i:Nat)(f:DM):DG:=λa=>(gc i a).bind λ_=>(f a).bind λq=>(gc i q.2).bind λb=>if b.length<dQ then Y (.nx<|q.2.set i<|Y<|.lst<|b++[q.1]) else M
set_option tactic.hygienic true in
def Lh(h:PE X (.Name x p)<|g9 i)(T:PE X e<|tM X.K B Z f)(F:‹i∈Z›)(q:@&(bT (.Name x p) "append" X.env (eval (.Name x p) X.env)=eval (.Name x p) X.env)) (z:@&(((cB b<|ak (e::[]) X.env).all (λx=> (not x.1))&&(fY b<|cV [] X.env).all (λx=>x.1.isSome)
   && decide ((e::[]).length+([]:!j8).length+(if ([]:!j8).isEmpty then 0 else 1)<30))=true)) (n:@&((g.endLine==b.line)=true)) (L:@&(ak (e::[]) X.env=(Z_,eval e X.env)::ak [] X.env)) (j:@&((cB b<|ak [] X.env).any (·.1)=false)) (E:@&(cg (.Call (.Attribute (.Name x p) "append" g) [e] [] b) M l.line X.env=c9 false)) :
  PS X (.Expr (.Call (.Attribute (.Name x p) "append" g) [e] [] b) l) (gO X.K B m Z Z<|J4 i f):=
 (jO (uX dg PySem.F.slot_list_append PySem.F.type_list_append iO h (cA T dH L) q z n L j) E).imp <|by
  rintro D σ H ⟨G,A,o,S,c,k⟩;let(ds0,I,c):=aa.1 c;rw[aa]at c;obtain⟨⟨d,w⟩,J,c⟩:=c;rcases s:gc i w with _|ds
  .simp_all
  rw[s]at c;simp only[aw]at c;split at c
  .cases c;rename_i R;let(a,Q,K,e3,_):=S.kU F<|dP I;refine(_,K,.inl (W,Q,.of e3),G,A,d,w,S,J,λv G' H' P s' r =>?_);let t:=dP s;refine ae λkk =>?_
   let(a',C,O,U,N,_):=P.kU F t;rw[K]at O;cases O;refine kk<|(a,C,v,W,W,U,?_,k _ G' _<|P.mut F t K<|N.append<|.cons r .nil);rw[<- N.length];exact bo R eQ
  .cases c
def Z6(f:DM):Sd:=λa=>(f a).bind λq=>match q.1 with|.int j=>if -(2 ^ 62)<=j/\j<2 ^ 62 then Y (kT 0 j.toNat,q.2) else M|_=>M
set_option tactic.hygienic true
def ug(w:Gl X "range")(s:X.mg "range" = M)(h:PE X e<|tM X.K B Z f)(r:@&(ak [e] X.env=(Z_,eval e X.env)::ak [] X.env))(b:@&(ak [e] X.env=[(Z_,eval e X.env)])):PI X o (.Call (.Name "range" p) [e] [] l)<|tMI X.K B Z<|Z6 f:=
 (B9 w s (cA h dH r) b).imp <|by
  rintro D H R ⟨G,n,F,i,S,a,k⟩;obtain⟨⟨d,g⟩,x,a⟩:=aa.1 a;cases d<;>simp only[aw]at a<;>try (cases a)
  split at a
  .cases a;rename_i j c;exact(G,n,_,_,S,x,λv C A z E q=>(j,Ÿ,c.1,c.2,k _ C A z<|tX 0 _))
  .cases a
end
def BV{K:aV}{c:D}{T:!aH}(s:a_ G H)(L:a_ E H)(I:p∈Z)(J:x[p]?=Y c)(F:w[p]?=Y (.ref a))(r:j9 K G H c a T)(P:T.Nodup)(X:∀b∈T,G b=M/\E b=M)(C:∀r q,c ≠ .dY r q)(O:∀(i:Nat) c,i≠p->x[i]?=Y c->∃v,w[i]?=Y v/\cS K G c v)(R:x.length=w.length)(Q:∀i∈Z,i=p\/x.length<=i):SR K (G,E,[(p,a)],fl) Z G H (start N w)<|fP N.length x:=by
 have f:∀(i:Nat) v,w[i]?=Y v->(start N w)[i]?=Y (Y v):=λi v e=>by let g:i<w.length:=(ah.mp e).1;unfold start;rw[aI (by simpa using g),aK,e];exact Ÿ
 have n:∀i∈Z,(∃d,(fP N.length x)[i]?=Y (Y d))->i=p:=λi g (d,e)=>by have:=(ah.mp<|jz e).1;obtain z|z:=Q i g<;>lia
 refine(s,a_.refl _,L,λb o e =>.inl e,λi d g e =>?_,(λ_=>T,λi d g e =>?_,λi d g e=>(P,X),λi j d c g S ei ej B=>absurd ((n i g (d,ei)).trans (n j S (c,ej)).symm) B),by simp[start,fP,R],λi b h =>?_,λj k q U h2 e =>?_)
 .let(v,ev,l):=O i d (λz=>g<|z ▸ I)<|jz e;exact(v,f i v ev,l)
 .have z:=n i g (d,e);subst z;let A:=jz e;rw[J]at A;cases A;exact(a,f _ _ F,r)
 .have z:Prod.mk i b=⟨p,a⟩:=by simpa using h
  cases z;exact(I,f _ _ F)
 .have z:=n j U (_,e);subst z;let A:=jz e
  grind
def BX{K:aV}(s:a_ G H)(j:p∈Z)(q:d[p]?=Y c)(h:e[p]?=Y (.ref a))(w:H a=Y o)(r:iq K G c o)(x:G a=M)(g:∀(i:Nat) c,i≠p->d[i]?=Y c->∃v,e[i]?=Y v/\cS K G c v)(n:d.length=e.length)(k:∀i∈Z,i=p\/d.length<=i):SR K (G,Hv H a,[(p,a)],z) Z G H (start N e)<|fP N.length d:=
 BV s K7 j q h ((j9.cell r.wD).mpr ((o,w,r),W)) ż λb f=>by simp_all [Aw] (Et r.wD) g n k
def Me{K:aV}{f:!D}(s:a_ G H)(j:p∈Z)(o:b[p]?=Y (.lst f))(h:e[p]?=Y (.ref a))(q:H a=Y (.lst d))(r:aZ K G f d)(w:G a=M)(g:∀(i:Nat) c,i≠p->b[i]?=Y c->∃v,e[i]?=Y v/\cS K G c v)(n:b.length=e.length)(k:∀i∈Z,i=p\/b.length<=i):SR K (G,Hv H a,[(p,a)],x) Z G H (start N e)<|fP N.length b:=
 BX s j o h q (d,W,r) w g n k
section
variable {P:bh}{K:aV}
set_option tactic.hygienic true
def fX.tJ{st:cH}{f:aH}(F:fX K x I st f fd){p:Nat}(N:!aP)(Z Ź:!Nat){g:DG}(S:ji N ps<|bu st) (hb:N.Nodup->∀(L:au) (A:gM) (j:!Env) (s:aA) (H:Hp) (E:XK),d7 k (A.deeper<|oY I (bu st) s.heap.objs.size f L)->∀(B:Bs) (a:aH),B.3=[(p,a)] ->
   nY (wR fx P w K u y N I (bu st) f L A j s H E).NY (fI st) (gO K B [] Z Ź g)) (hp:‹p∈Z›) (YI:‹∀i∈Z,i=p\/ps.length<=i›):b9 P w K u y fx (k+1) f fd ps<|B6 K p<|Fu ps.length N.length p g:=by
 refine F.ok S (λvs H Q E h =>?_) λL A j s H vs Q E hr h =>?_
 .let(G,ds,d,R,a,ws,X,gh,hd,hv,ha,r,ga,ro,hl,e,_):=h;unfold Fu at e;split at e<;>simp_all
 .let(G,ds,d,R,a,ws,X,gh,hd,hv,ha,r,ga,ro,hl,e,q):=h;unfold Fu at e;split at e
  .rename_i hn;refine(_,hb S.nd L A j s H E hr (G,Hv H a,_,λl l=>False) a W,?_);let(o,eg,e):=aa.1 e;have k8:∀ {σ:St}{C:bL}{O T:Hp}{o':!Nat}{U:!D},SR K (G,Hv H a,[(p,a)],λl l=>False) o' O T σ C->gc p C=Y U->∃z,T a=Y _/\aZ K O U z/\O a=none:=fun {σ C O T o' U} c J=>by
    refine ae λkk =>?_
    let(YH,hσ):=c.pin p a Ÿ;let(b,vs',f2,f3,f4,f5,_):=c.kU YH<|dP J;rw[hσ]at f2;cases f2;exact kk<|(vs',f3,f4,f5)
   refine(G,_,o,Me gh hp hd hv ha r ga ro hl (by rw[hn];exact YI),eg,?_);cases o with
   |rm d' C=>let(U,J,e):=aj.1 e;cases e;intro v σ O T (o',c) rv;let(z,f3,f4,f5):=k8 c J;exact q v z O T c.m4 f5 f3 f4 rv
   |nx C=>let(U,J,e):=aj.1 e;cases e;intro σ O T c;let(z,f3,f4,f5):=k8 c J;exact q _ z O T c.m4 f5 f3 f4<|gz.mpr W
   |_=>cases e
  .cases e
end
def WA(n:bL)(w:BJ)(u:DM)(i0:Nat):!D->!D->↑(!D×!D)
 |[],c=>Y ([],c)|d::e,c=>(w d<|n.set i0<|Y<|.lst c).bind λa=>(u a).bind λp=>(gc i0 p.2).bind λb=>(WA n w u i0 e b).map λq=>(p.1::q.1,q.2)
def Z5(f:DL)(src:!(↑Nat))(w:BJ)(u:DM)(i0 j0:Nat):DM:=λn=>(f n).bind λa=>if a.length<=dQ then (gc j0 n).bind λb=>(WA (ki src n) w u i0 a b).map λq=>(.lst q.1,n.set j0<|Y<|.lst q.2) else M
def ZX(K:aV)(i0:Nat)(u:DM):TE:=λt H Q=>∃B a,B.3=[(i0,a)]/\tM K B [i0] u t H Q
def dmx{X}(h:∀(B:Bs) (a:aH),B.3=[(i0,a)]->PE X e (tM X.K B [i0] u)):PE X e<|ZX X.K i0 u:=by rintro b s t H Q I ⟨B,a,c,q⟩;exact Ÿ
theorem AZ:∀ {l:!a}{i:Nat}{x:a},l[i]?=Y x->l.set i x=l
 |[],i,x,h=>by simp at h
 |y::l,0,x,h=>by simp_all
 |y::l,i+1,x,h=>by simp at h;simp[AZ h]
section
variable {K:aV}
def Fl{i:Nat}(e:(ki src n)[i]?=Y (Y d)):∃j,src[i]?=Y (Y j)/\n[j]?=Y (Y d):=by
 unfold ki at e;rw[aK]at e;let(o,a,e):=aj.1 e;rw[a];cases o with
 |none=>cases e|some j=>
  let e:=by simpa using e
  refine(j,W,?_);rcases q:n[j]? with _|z<;>simp_all
def om{i:Nat}{v}(b:src[i]?=Y (Y j))(a:t[j]?=Y (Y v)):(nJ src t)[i]?=Y (Y v):=by
 simp_all [nJ,aK]
def SR.inner{fl:aP->Int->Prop}{i0:Nat}(S:SR K B Z G H t<|n.set j0<|Y<|.lst q)(y:f_ Z [i0] src=Z')(x:src[i0]?=Y (Y j0))(k:∃d,n[j0]?=Y d)(s:t[j0]?=Y (Y<|.ref a)):
  SR K (G,Hv H a,[(i0,a)],fl) [i0] G H (nJ src t) ((ki src n).set i0<|Y<|.lst q):=by
 let l:=(jo y x).mp Ÿ;refine ae λkk =>?_
 let(d0,k):=k;let P:(n.set j0<|Y<|D.lst q)[j0]?=Y (Y<|.lst q):=by rw[aX<|(ah.mp k).1]
 let(b,J,I,e3,e4,_):=S.kU l P;rw[s]at I;cases I;refine kk<|(S.gh,a_.refl _,K7,λb o e =>.inl e,λi d g e =>?_,(λu=>[a],λi d g e =>?_,λi d g e=>(ż,λb C =>?_),λi j d c g m u u f =>?_),by simp[nJ,ki],λi b h =>?_,λj r p R Q e =>?_)
 .obtain⟨omega,_⟩|⟨f,e⟩:=fE e
  .simp_all
  .let(j,F,ej):=Fl e;let m:j∉Z:=λz=>g ((jo y F).mpr z)
   have:j0≠j:=λz=>m<|z ▸ l
   let(v,f1,X):=S.env j d m Ż;exact(v,om F f1,X)
 .let z:i=i0:=by simpa using g
  subst z;obtain⟨_,rfl,_⟩|_:=fE e
  .exact(a,om x s,(_,e3,J,W,e4),W)
  simp_all
 .simp_all [Aw]
 .simp_all
 .simp_all [om]
 simp_all
end
section
variable {X:Cx}{f:DL}
inductive LcI {α:Type}(K:aV) (B:Bs) (Z:!Nat) (t:St) (e:α->bL) (F:Nat->α->↑(!D×α)) (G:Hp) (z:α) (r:!D) (i:Nat) (y:!V) (H:Hp):Prop
 |mk g l x o:y.length<=i->SR K B Z g H t (e x)->a_ G g->aZ K g l y->F i x=some (o,z)->l++o=r->LcI K B Z t e F G z r i y H
set_option tactic.hygienic true in
def Yp{K:aV}(ho:f_ Z [i0] src=Z')(h0:src[i0]?=Y (Y j0))(hg:∀(B:Bs) v t H Q,HW K B [i0] w v t H Q->g v t H Q)(q:tM K B Z (Z5 f src w u i0 j0) t H Q):
  Xg (A9 K Z f) src g (p' K [i0] gR) (ZX K i0 u) t H Q:=by
 let(G,n,d,ρ',S,h,k):=q;let hj0:j0∈Z:=(jo ho h0).mp Ÿ;unfold Z5 at h;let(j,ef,h):=aa.1 h;split at h
 .rename_i hz;let(xs0,el,h):=aa.1 h;obtain⟨⟨rs,xsF⟩,em,h⟩:=aj.1 h;cases h;let F:=dP el;let(a,vs0,e2,_):=S.kU hj0 F;refine(G,n,j,S.gh,S.i6,ef,λJ G1 H1 E1 ok =>?_);let S1:=S.ext E1;rw[<- AZ F]at S1;refine(λi m ys H2=>m=j.length-i/\i<=j.length/\LcI K B Z t (λb=>n.set j0<|Y<|.lst b) (λi=>WA (ki src n) w u i0<|j.drop i) G1 xsF rs i ys H2,
   (j.length,W,cZ _,G1,[],xs0,rs,aF _,S1,a_.refl _,.nil,em,W),?_)
  rintro i m ys H2 ⟨rfl,hil,G2,l,xs,o,hyl,S2,s2,rx,c,rfl⟩;let sub:a_ G1 H2:=s2.trans S2.gh;by_cases C:i<j.length
  .refine .inr (ok.go i H2 sub C,?_,_,
    λr H' z=>(j.length-(i+1),ŷ,W,C,z),λx H3 y =>?_)
   .have:=eQ
    lia
   .refine ae λkk =>?_
    let(G3,E3,Zz):=ok.JP i H2 x H3 G2 j[i] s2 S2.gh y<|ai C;let S3:=S2.ext E3;rw[da C]at c;unfold WA at c;let(s,et,c):=aa.1 c;obtain⟨⟨x4,ρ5⟩,ee,c⟩:=aa.1 c;let(N,X,c):=aa.1 c;obtain⟨⟨P,xsE⟩,R,c⟩:=aj.1 c;cases c;let SI:=S3.inner (fl:=λr r=>False) ho h0 (_,F) e2;refine kk<|hg _ _ _ _ _ (G3,_,j[i],s,SI,Zz,et,λσ4 G4 H4 S4=>(G4,s,Z',S4.gh,S4.i6,W,λG5 H5 E5=>Bv ?_));refine(_,a,W,G5,s,x4,ρ5,S4.ext E5,ee,λv G6 H6 S6 s6 r6=>(G6,l++[x4],N,P,by simp;omega,?_,?_,?_,R,ż))
    .let(YH,hσ):=S6.pin i0 a Ÿ;let(b,ws,f2,f3,f4,f5,_):=S6.kU YH<|dP X;rw[hσ]at f2;cases f2;let hl:j0<n.length:=(ah.mp F).1;have:=S3.called (xs':=N) hj0 (by rw[aX hl]) e2 S6.m4 f5 f3 f4;rw[List.set_set]at this;exact this
    .exact s2.trans<|E3.gg.trans S6.g0
    .exact(aZ.mono (E3.gg.trans S6.g0) l rx).append<|.cons r6 .nil
  .let e:i=j.length:=by lia
   subst e;rw[j5]at c;unfold WA at c;refine ae λkk =>?_
   cases c;refine kk<|.inl (ok.stop _ H2 sub<|aF _,λp hp =>?_);have EA:=fT.alloc (p:=p) (o :=.lst ys) S2.gh hp;refine k _ _ _ (S2.ext EA) (E1.gg.trans<|s2.trans EA.gg) ?_;rw[bZ];exact cu.mpr (p,ys,W,a9,aZ.mono EA.gg l rx)
 .cases h
def aci(S:dA X N src A)(j:X.calm=Z')(e:PI X E L<|A9 X.K Z f)(m:R9 T g)(a:∀i∈T,src[i]?=Y M)(h:∀(B:Bs) v t H Q,HW X.K B [i0] w v t H Q->g v t H Q)(k:∀C s H b,PG (X.p8 N A C s H b) E g/\Ht (X.p8 N A C s H b) [] (p' X.K [i0] gR)/\PE (X.p8 N A C s H b) O (ZX X.K i0 u))(l:@&(src[i0]?=Y (Y j0)))(d:‹f_ Z [i0] src=true›)(c:autoParam (∀x,bR L X.env x=c9 x) ũ):PE X (.ListComp O [(E,L,[],0)] A U)<|tM X.K B Z<|Z5 f src w u i0 j0:=
 (Ke S j e m a k c).imp λt H Q q=>Yp d l h q
def qN(K)(i i0)(b:‹i∉[i0]›):∀B v t H Q,HW K B [i0] (gN i) v t H Q->ny i v t H Q:=λB v t H Q (G,n,d,a,S,r,c,k)=>by
 cases c;exact k _ G H<|S.wa b r
end
section
variable {X:Cx}
noncomputable def cn(c f:aP)(g:DF):DF:=λa=>(g a).bind λd=>match d with|.ins h b e=>if h=c then (b.zip e).lookup f else M|_=>M
theorem K0{K}{f}:∀ {b:!aP}{g:!D}{a:!V}{d:D},aZ K G g a->(b.zip g).lookup f=Y d->∃v,(b.zip a).lookup f=Y v/\cS K G d v
 |[],g,a,d,r,e=>by simp at e
 |k::b,[],a,d,r,e=>by simp at e
 | k::b,c::g,a,d,r,e=>by
  let(v,t,rfl,i,l):=aW.mp r;simp only[dF,eO]at e ⊢;cases h:f==k with
  |true=>simp_all|false=>rw[h]at e;exact K0 l e
noncomputable def HK:D->V
 |.bl b =>.bl b|.int i =>.int i|.str x =>.str x|_ =>.dC
theorem JU{K}{v}(h:mw d=Z')(r:cS K G d v):v=HK d/\p7 v=true:=by
 cases d<;>first|(simp[mw]at h;done)|(subst r;exact Ÿ)
theorem EU{K:aV}:∀ {b:!D}{a:!V},b.all mw=Z'->aZ K G b a->a=b.map HK/\a.all p7=Z'
 |[],a,h,r=>by rw[cx.mp r];trivial
 | d::b,a,h,r=>by
  rw[gZ,ax]at h;let(v,t,rfl,c,e):=aW.mp r;let(k,g):=JU h.1 c;let(i,f):=EU h.2 e
  grind
def SJ(b:Bool)(x:D)(a:!D):↑D:=if (mw x&&a.all mw)=Z' then Y (.bl<|if b then (not<|M3 (HK x) (a.map HK)) else M3 (HK x) (a.map HK)) else M
def Bo(a:Bool):D->D->↑D
 |x,.lst b=>SJ a x b|x,.tup b=>SJ a x b|_,_=>M
set_option tactic.hygienic true in
def WY{K}(h:rD K (Bo c) x y H Q):rIn K c x y H Q:=by
 let(G,t,C,d,k,w,u,l,q):=h;have k8:∀(m:!D) (b:!V),SJ c t m=Y d->aZ K G m b->p7 x=Z'/\b.all p7=Z'/\d=.bl (if c then (not<|M3 x b) else M3 x b):=λm b e r=>by
  unfold SJ at e;split at e
  .rename_i i;let v:cS K G t x:=by
    obtain z|⟨a,o,_,_,z⟩:=w
    .exact z
    .cases t<;>first|exact z.elim|simp_all [mw]
   grind [JU,EU]
  .cases e
 unfold Bo at l;split at l<;>try (cases l)
 .let(p,b,rfl,s,n):=u.lst k;let(g,f,rfl):=k8 _ _ l n;exact(p,b,W,.inl<|.of s,g,f,q _ G H (.refl k)<|dO.mpr W)
 .let(p,b,rfl,s,n):=u.tup k;let(g,f,rfl):=k8 _ _ l n;exact(p,b,W,.inr<|.of s,g,f,q _ G H (.refl k)<|dO.mpr W)
abbrev Ix:=Bo Z_
def agD:AS X (c7 .In) Ix:=mT.imp MD λx y H Q h=>WY h
def abj:AS X (c7 .NotIn)<|Bo Z':=mT.imp Dk λx y H Q h=>WY h
noncomputable def UN:D->Bool
 |.bl _=>Z'|_=>Z_
noncomputable def x8:D->Bool
 |.bl b=>b|_=>Z_
def hZ(b:Bool):!D->↑D
 |[.lst a]=>if a.all UN=Z' then Y (.bl<|if b then a.all x8 else a.any x8) else M
 |_=>M
def Zo{K}{f}(h:a.all UN=Z')(r:aZ K G a l)(m:cf l f){i:Nat}{u:au}(e:f[i]?=Y u):∃b,u=.bool b/\(a[i]?).map x8=Y b:=by
 have d:i<a.length:=by rw[r.length,m.length];exact((ah.mp e).1)
 let k:=ai d;let(v,s,c):=r.get k;let(w,p,g):=m.get s;rw[e]at p;cases p;have o:=dI.mp h _<|mZ d;cases n:a[i] with
 |bl b=>rw[n]at c k;have:=dO.mp c;subst this;exact(b,g,by rw[k];solve_by_elim)
 |_=>rw[n]at o;cases o
def NL{ys:!D}{tr}(h:∀i,i<ys.length->(ys[i]?).map x8=Y (tr i)):(bJ ys.length).all tr=ys.all x8/\(bJ ys.length).any tr=ys.any x8:=by
 have:(bJ ys.length).map tr=ys.map x8:=by apply rT;intro i;by_cases a:i<ys.length<;>simp_all
 constructor
 .simpa [l6] using congrArg (λl=>l.all id) this
 .simpa [pO] using congrArg (λl=>l.any id) this
set_option tactic.hygienic true in
def CA(l:X.calm=Z')(h:Bool):k7 X (.builtin<|if h then "all" else "any")<|rC X.K<|hZ h:=by
 intro A s P H xs us Q I R (G,ds,d,O,r,t,q);unfold hZ at t;split at t
 .rename_i m;split at t
  .cases t;rename_i hb;let(v,rfl,T):=r.one;let(a,vs,rfl,U,L):=T.lst O;let(u,rfl,S):=cf.one R;cases S;let(g,y,J,hz):=I.list<|.of U;let(o,j,hc,n0,hd):=J.isList;have D:a≠s.heap.objs.size:=bI<|aQ j;have k:g.toArray.size=m.length:=by simp[L.length,y.length]
   obtain⟨w,ew⟩:∃w:Nat->Bool,∀i,w i=((m[i]?).map x8).getD false:=(_,λ_=>rfl);have C:TruthOf X.prog X.w X.A.in1 (λi v=>g.toArray[i]?=Y v) w:=λi v s Q E hP N=>by
    let(b,rfl,K):=Zo hb L y (i:=i) (u:=v) (by simpa using hP);have:w i=b:=by rw[ew,K];simp
    rw[this]at N;exact ir N
   have f:=NL (ys:=m) (tr:=w) λi hi=>by rw[ew,ai hi];exact Ÿ
   have k8:∀(b:Bool) (p:cP) (n:Nat),(∀c F,c∉[s.heap.objs.size]->(s.heap.push { cls :=.type "list_iterator",data :=.fields #[.ref a,.int 0 0] }).get? c=Y F->p.get? c=Y F)->b=(if h then m.all x8 else m.any x8) ->
     EP X A P Q (.bool b) { s with heap:=p,toks:=n }:=λb p n B K=>
    (.bl b,H,I.kept (t':=n) λc F e=>B c F (λz=>by
     have z:c=s.heap.objs.size:=by simpa using z
     exact absurd (aQ e)<|by rw[z];exact nF _) (ao _ e),W,by
     rw[K];exact q _ G H (.refl O)<|dO.mpr W)
   have x:(s.heap.push { cls :=.type "list_iterator",data :=.fields #[.ref a,.int 0 0] }).IsListIter s.heap.objs.size a 0/\(s.heap.push { cls :=.type "list_iterator",data :=.fields #[.ref a,.int 0 0] }).IsList a g.toArray:=
    ((_,br _ W,W,W),(o,ao _ j,hc,n0,hd))
   cases h with
   |true=>refine call_all_walk<|j7 J.isList (s.heap.objs.size,_,_,_,_,_,w,W,Walks.list (A:=X.A.in1) (I.ok.hd l) _ a D g.toArray,x,C,λp n B =>?_);rw[k,f.1];exact k8 _ p n B W
   |false=>refine call_any_walk<|j7 J.isList (s.heap.objs.size,_,_,_,_,_,w,W,Walks.list (A:=X.A.in1) (I.ok.hd l) _ a D g.toArray,x,C,λp n B =>?_);rw[k,f.2];exact k8 _ p n B W
  .cases t
 .cases t
variable {f:DF}
def Jt(a:X.calm=Z')(d:Gl X "all")(c:X.mg "all" = M)(h:PE X e<|tQ X.K Z f)(b:@&(ak (e::[]) X.env=(Z_,eval e X.env)::ak [] X.env)):PE X (.Call (.Name "all" p) [e] [] j)<|tP X.K Z<|be (hZ Z')<|aC f aN:=
 AJ (CA a _) d c PyProof.Rows.boot_all (AG h D9 b) ſ ſ b W
def RB(a:X.calm=Z')(d:Gl X "any")(c:X.mg "any" = M)(h:PE X e<|tQ X.K Z f)(b:@&(ak (e::[]) X.env=(Z_,eval e X.env)::ak [] X.env)):PE X (.Call (.Name "any" p) [e] [] j)<|tP X.K Z<|be (hZ Z_)<|aC f aN:=
 AJ (CA a _) d c PyProof.Rows.boot_any (AG h D9 b) ſ ſ b W
end
section
variable {X:Cx}{f:DF}
end
section
variable {X:Cx}{m:!Nat}{f:DF}
end
def Lv{X:Cx}{g:!aP}{s:aA}(k:b.kind=.function)(h:vv a g N d b=Z'):dA (X.p8 g a C s H t) N d b:=by
 unfold vv at h;simp only[ax,dI,beq_iff_eq,bx]at h;obtain⟨⟨⟨r,q⟩,p⟩,o⟩:=h;refine(k,λy e=>r y e,λy e m =>?_,p,λi j x f n =>?_)
 .show (relabel a X.env).names.lookup y.1=Y .cell\/(relabel a X.env).names.lookup y.1=Y .free;unfold relabel;rw[mG];obtain z|z:=q y e<;>grind
 .let l:=(ah.mp f).1;have:=o i Ż;rw[f,n]at this;simp at this;exact this
section
variable {X:Cx}{f:DF}
end
noncomputable def gN3(i j l:Nat):BJ:=λd e=>match d with|.tup [a,b,c]=>Y (((e.set i<|Y a).set j<|Y b).set l<|Y c)|_=>M
def QW{f:bL}(h:gN3 i j l d f=Y e):∃a b c,d=.tup [a,b,c]/\e=((f.set i<|Y a).set j<|Y b).set l (Y c):=by
 unfold gN3 at h;split at h<;>lia
def Mq{K:aV}{v:V}(r:cS K G (.tup [a,b,c]) v):∃p x y z,v=.ref p/\G p=Y (.tup [x,y,z])/\cS K G a x/\cS K G b y/\cS K G c z:=by
 refine ae λkk =>?_
 let(p,j,e,g,i):=cQ.mp r;let(x,n,rfl,h,t):=aW.mp i;let(y,l,rfl,f,t):=aW.mp t;let(z,k,rfl,d,t):=aW.mp t;rw[cx.mp t]at g;exact kk<|(p,x,y,z,e,g,h,f,d)
section
variable {X:Cx}{m:!Nat}
def ack{i:Nat}(h:PG X e<|YQ X.K 3<|Co (ny i)<|Co (ny j)<|Co (ny l) YR)(u:‹i∉Z›)(t:‹j∉Z›)(s:‹l∉Z›):PG X e<|HW X.K B Z<|gN3 i j l:=h.imp <|by
 rintro v A H Q ⟨G,C,d,f,S,r,w,k⟩;let(a,b,c,rfl,rfl):=QW w;let(p,x,y,z,rfl,g,q,o,n):=Mq r;exact(p,_,W,.of<|S.gh _ _ g,W,x,_,W,y,_,W,z,_,W,W,k _ G H<|((S.wa u q).wa t o).wa s n)
end
end L2
namespace L2
open PySem PyProof.Rows PySem.Spec
section
variable {s:aA}
end
end L2
namespace L2
open PySem PySem.Spec PyProof.Rows
noncomputable def EJ(c:!Int):!Int:=c.mergeSort<|λa b=>decide (a<=b)
def jK(a:!Int):(EJ a).Perm a:=List.mergeSort_perm a _
def tp(ns:!Int):(EJ ns).Pairwise (· <= ·):=by
 exact(List.pairwise_mergeSort (le:=λa b=>decide (a<=b)) λa b c h1 h2=>by lia λa b=>by simp;lia ns).imp λh=>by simpa using h
def HZ(p:a.Perm b)(h:a.Pairwise (· <= ·)):a=EJ b:=PySem.W.ksm_same (p.trans (jK b).symm) h<|tp b
theorem vd:∀ {b:!Int}{a:!au},cf (b.map V.int) a->HC a b
 |[],a,h=>by cases h;exact .nil
 | n::r,a,h=>by
  cases h with
  |cons d c=>let(t,rfl):=d;exact .cons n t<|vd c
def CS(h:HC a b):cf (b.map V.int) a:=by
 induction h with|nil=>exact .nil|cons n t _ ih=>solve_by_elim
section
variable {X:Cx}{f:DF}
noncomputable def Cf:!D->↑(!Int)
 |[]=>Y []|.int i::r=>(Cf r).map (i :: ·)|_::_=>M
theorem Aa:∀ {b:!D}{a:!Int},Cf b=Y a->b=a.map D.int
 |[],a,h=>by cases h;exact Ÿ
 | d::r,a,h=>by
  cases d<;>simp only[Cf]at h<;>try (cases h)
  let(c,e,h):=aj.1 h;cases h;rw[Aa e];exact Ÿ
theorem wd{K}:∀ {b:!Int}{a:!V},aZ K G (b.map D.int) a↔a=b.map V.int
 |[],a=>by trivial
 | n::r,a=>by
  simp;constructor
  .rintro⟨v,t,rfl,rfl,h⟩;rw[wd.mp h]
  .rintro rfl;exact(_,_,W,W,wd.mpr W)
end
section
variable {X:Cx}{m:!Nat}
def Vf(r n:DF):DL:=λa=>(r a).bind λx=>(n a).bind λy=>match x,y with|.lst c,.lst b=>if c.length+b.length<=dQ then Y (c++b) else M|_,_=>M
set_option tactic.hygienic true
def adZ(I:PE X a<|tQ X.K m r)(F:PE X b<|tQ X.K m n):PE X (.BinOp a .Add b w)<|tF X.K m<|Vf r n:=
 (FN Pp I F).imp <|by
  rintro P H Q ⟨G,h,R,J,f,c,k⟩;unfold Vf at c;let(x,L,c):=aa.1 c;rw[aa]at c;let(y,q,c):=c;refine(G,h,x,J,f,L,λv N T g B=>(N,h,y,g.gh,f.ext g,q,λu U S d A =>?_));split at c<;>try (cases c;done)
  split at c
  .cases c;rename_i E;let(p,s,K,C,z):=(B.ext d).lst d.gh;let(D,t,o,i,e):=A.lst d.gh;refine(p,D,s,t,K,o,C,i,?_,λl j =>?_)
   .rw[<- z.length,<- e.length];exact bB E eQ
   .let O:=fT.lay (p:=l) (o :=.lst<|s++t) d.gh j;exact k l _ U _ ((g.trans d).trans O) (g.hh.free<|d.hh.free j) (d.gh.free j) a9<|z.append e
  .cases c
end
end L2
namespace L2
open PySem
section
variable {X:Cx}
def vP(i:Nat)(f:@&(X.N[i]?=Y x))(c:autoParam (Zu X.env.scope x) Ű)(e:‹(x==("__debug__" : aP))=false›)(b:‹(x==("__classdict__" : aP))=false›)(d:‹i∉Z›):PE X (.Name x a)<|tP X.K Z<|eV i:=dv (pv i f c e b) d
def vQ(i:Nat)(f:@&(X.N[i]?=Y x))(c:autoParam (Zu X.env.scope x) Ű)(e:‹(x==("__debug__" : aP))=false›)(b:‹(x==("__classdict__" : aP))=false›)(d:‹i∉Z›):PE X (.Name x a)<|tQ X.K Z<|eV i:=dq<|vP i f c e b d
end
end L2
namespace L2
open PySem PySem.Spec PyProof.Rows
section
variable [DecidableEq G]
noncomputable def sV(fg:!(G×V))(k:G):↑V:=(fg.find? λa=>decide (a.1=k)).map (·.2)
noncomputable def w6(fg:!(G×V))(k:G)(v:V):!(G×V):=
 if (fg.any λa=>decide (a.1=k))=Z' then fg.map (λa=>if a.1=k then (a.1,v) else a) else fg++[(k,v)]
def uF{p:G×V}(e:p.1=k):sV (p::r) k=Y p.2:=by simp[sV,kM,e]
def qp{p:G×V}(e:¬p.1=k):sV (p::r) k=sV r k:=by simp[sV,kM,e]
theorem ES(k:G):∀fg:!(G×V),(fg.any λa=>decide (a.1=k))=(sV fg k).isSome
 |[]=>rfl| p::r=>by
  rw[nG];by_cases e:p.1=k
  .simp_all [uF,decide_eq_true,Bool.true_or,Option.isSome_some]
  .rw[qp e,decide_eq_false e];exact ES k r
theorem xl(fg:!(G×V))(k:G)(v:V):(w6 fg k v).length<=fg.length+1:=by
 grind [w6,ar,aU,bQ,vM]
def rp.wC(r:rp o u):o.isSome=u.isSome:=by
 cases o with
 | none=>cases u with
  |none=>rfl|some _=>solve_by_elim
 | some _=>cases u with
  |none=>solve_by_elim|some _=>rfl
def rp.getD{u:↑au}(r:rp o u)(b:RelV d a):RelV (o.getD d)<|u.getD a:=by
 cases o with
 | none=>cases u with
  |none=>exact b|some _=>solve_by_elim
 | some _=>cases u with
  |none=>solve_by_elim|some _=>exact r
def KV.val{f:!(G×au)}(r:KV fg f)(k:G):rp (sV fg k)<|valueAt f k:=by
 induction r with
 |nil=>solve_by_elim|@cons p q l a h t ih=>
  let(g,i):=h;by_cases e:p.1=k
  .let b:valueAt (q::a) k=Y q.2:=by simp[valueAt,kM,g.symm.trans e]
   rw[uF e,b];exact i
  simp_all [valueAt,kM,qp]
def KV.any(r:KV fg b)(k:G):(fg.any λa=>decide (a.1=k))=b.any λa=>decide (a.1=k):=by
 induction r<;>simp_all
theorem KV.Xx(r:KV fg d)(k:G)(f:RelV y u):
  KV (fg.map λa=>if a.1=k then (a.1,y) else a) (d.map λa=>if a.1=k then (a.1,u) else a):=by
 induction r with
 |nil=>exact .nil|@cons p q l i h t ih=>
  refine .cons ?_ ih
  lia
def KV.put(r:KV fg a)(k:G){u:au}(b:RelV y u):KV (w6 fg k y)<|stored a k u:=by
 unfold w6 stored;rw[r.any k];by_cases e:(a.any λd=>decide (d.1=k))=Z'
 .rw[if_pos e,if_pos e];exact r.Xx k b
 .rw[if_neg e,if_neg e];exact Paired.snoc r (W,b)
def KV.length{a:!(G×au)}(r:KV fg a):fg.length=a.length:=Paired.length r
end
def Gp{P:bh}{k:ju}(r:RelV (kV k) u):(iP P w).is k u=true:=by
 cases k with
 |inl i=>let(t,e):=r;simp_all [Gc]
 |inr x=>let(t,e):=r;simp_all [Gb]
theorem Ce{P:bh}:∀ {a:!ju}{b:!au},cf (a.map kV) b->ItemsAre (iP P w) a b
 |[],_,r=>by cases r;exact .nil
 | k::a,_,r=>by
  cases r with|cons h t=>exact .cons (Gp h)<|Ce t
abbrev KT(H:Hp):!(!ju×V)->!(!ju×aH×au)->Prop:=Paired λp q=>p.1=q.1/\H q.2.1=Y (.tup<|p.1.map kV)/\RelV p.2 q.2.2
def KT.val{f:!(!ju×aH×au)}(r:KT H fg f)(k:!ju):rp (sV fg k) ((atKey f k).map (·.2)):=by
 induction r with
 |nil=>solve_by_elim|@cons p q l a h t ih=>
  let(g,_,i):=h;by_cases e:p.1=k
  .let b:atKey (q::a) k=Y q.2:=by simp[atKey,kM,g.symm.trans e]
   rw[uF e,b];exact i
  simp_all [atKey,kM,qp]
theorem KT.Xx(r:KT H fg d)(k:!ju)(g:RelV y u):
  KT H (fg.map λb=>if b.1=k then (b.1,y) else b) (d.map<|putAt k u):=by
 induction r with
 |nil=>exact .nil|@cons p q o l h t ih=>rw[bg];refine .cons ?_ ih;obtain _:=h;unfold putAt;by_cases e:p.1=k<;>simp_all
def KT.put(r:KT H fg a)(k:!ju){u:au}(g:H b=Y (.tup<|k.map kV))(d:RelV y u):
  KT H (w6 fg k y) (storedH a k b u):=by
 let e:(fg.any λf=>decide (f.1=k))=(atKey a k).isSome:=by rw[ES,(r.val k).wC,Option.isSome_map]
 unfold w6 storedH;rw[e];by_cases q:(atKey a k).isSome=Z'
 .rw[if_pos q,if_pos q];exact r.Xx k d
 .rw[if_neg q,if_neg q];exact Paired.snoc r (W,g,d)
def KT.keeps(r:KT H fg d)(f:∀b a,H b=Y (.tup a)->e b=Y (.tup a)):KT e fg d:=
 Paired.abq r λc c z=>(z.1,f _ _ z.2.1,z.2.2)
section
variable {P:bh}
def O4(b:nO P w H h)(e:Rd H a u):iY P w H h a u:=e.ok b
def Cw(d:nO P w H h)(e:Rd H a<|.dK fg):fg.length<=a7/\(a==jv)=Z_/\∃b,KV fg b/\h.DictOf (iP P w) a b:=
 O4 d e
def acj(d:nO P w H h)(e:H a=Y (.dK fg)):fg.length<=a7/\(a==jv)=Z_/\∃b,KV fg b/\h.DictOf (iP P w) a b:=Cw d<|.inl e
theorem zY(f:nO P w H h)(e:H a=Y (.tup<|b.map kV)):(Sn<|iP P w).is h b a:=by
 let(_,d,r,o,k,i,n,g):=f a _ e;exact(o,_,n,k,i,g,by simpa using Ce r)
def Ct(g:nO P w H h)(e:Rd H a<|.dT fg):fg.length<=a7/\(a==jv)=Z_ /\
  ∃d,KT H fg d/\h.DictOfH (Sn<|iP P w) a d:=by
 let(z,y,d,r,o,D,E,A,v,u,s,k):=O4 g e;refine(z,y,d,r,o,D,E,A,v,u,s,λx b =>?_,k);let f:∀ {l:!_}{m:!_},KT H l m->∀x∈m,(Sn<|iP P w).is h x.1 x.2.1:=by
  intro l m q
  induction q with|nil=>simp_all|@cons p q I F i t ih=>grind [zY]
 exact f r x b
def aca(d:nO P w H h)(e:H a=Y (.dT fg)):fg.length<=a7/\(a==jv)=Z_ /\
  ∃b,KT H fg b/\h.DictOfH (Sn<|iP P w) a b:=Ct d<|.inl e
end
def ya(H:Hp)(a:aH)(y:V)(r:↑V):Prop:=
 (∃fg k,Rd H a (.dK fg)/\y=kV k/\r=sV fg k)\/∃fg k b,Rd H a (.dT fg)/\y=.ref b/\H b=Y (.tup<|k.map kV)/\r=sV fg k
def R_(H:Hp)(a:aH)(y v:V)(d:Hp):Prop:=
 (∃fg k,H a=Y (.dK fg)/\y=kV k/\fg.length<a7/\d=cU H a (.dK<|w6 fg k v)) \/
 ∃fg k b,H a=Y (.dT fg)/\y=.ref b/\H b=Y (.tup<|k.map kV)/\fg.length<a7/\d=cU H a (.dT<|w6 fg k v)
def ya.k{a:aH}{k:ju}(e:H a=Y (.dK fg)):ya H a (kV k) (sV fg k) :=.inl (fg,k,.inl e,W,W)
def R_.k{a:aH}{k:ju}{v:V}(e:H a=Y (.dK fg))(b:fg.length<a7):R_ H a (kV k) v (cU H a<|.dK<|w6 fg k v) :=.inl (fg,k,e,W,b,W)
section
variable {X:Cx}{s:aA}{v:V}
def Inv.big(I:Inv X C B H s):jv<s.heap.objs.size:=by
 exact Nat.lt_trans ſ (I.mod.glob.keeps I.bk).lt
def Nq(F:A.units+1<qf)(I:Inv X C B H s)(g:ya H a y<|Y v)(w:RelV y u)(h:∀i t,Inv X C B H t->RelV v i->Q i t):
  bz (bj X.prog X.w) A (NN (.ref a) u) Q E s:=by
 obtain⟨fg,k,e,q,l⟩|⟨fg,k,b,e,q,P,l⟩:=g
 .subst q;let(z,c,D,f,r):=Cw I.gf e;let(i,hw,d):=rp.some_of (by rw[l];exact f.val k);exact wpAny_getItem_of (Gp w) r.mapOf hw<|h i _ (I.tok _) d
 .subst q;cases w;let(z,c,x,f,r):=Ct I.gf e;let(i,hw,d):=rp.some_of (by rw[l];exact f.val k);let(p,K,o):=aj.mp hw;refine wpAny_getItem_heap (uv F) (zY I.gf P) r K ?_;rw[o];exact h i _ (I.tok _) d
def Vt(v:A.units+1<qf)(I:Inv X C B H s)(g:ya H a y o)(t:RelV y u)(h:∀r,Inv X C B H r->Q (.bool<|not o.isSome) r):
  bz (bj X.prog X.w) A (c7 .NotIn u<|.ref a) Q E s:=by
 obtain⟨fg,k,e,i,l⟩|⟨fg,k,b,e,i,w,l⟩:=g
 .subst i;let(z,f,D,d,p):=Cw I.gf e;refine wpAny_notIn_of (Gp t) f p.mapOf ?_;rw[<- (d.val k).wC,<- l];exact h _<|I.tok _
 .subst i;cases t;let(z,f,x,d,p):=Ct I.gf e;refine wpAny_notIn_heap (uv v) (zY I.gf w) f p ?_;let q:=(d.val k).wC;rw[Option.isSome_map]at q;rw[<- q,<- l];exact h _<|I.tok _
def Ln{t':Nat}{e:HO}(I:Inv X C B H s)(g:Mut<|H a)(h:jw a s.heap d)(i:∃q,d.get? a=Y q)(f:iY X.prog X.w (cU H a e) d a e):
  Inv X C B (cU H a e) { s with heap:=d,toks:=t' }:=
 I.write g (.inl W) (λb q k z=>(h.2 b k).trans z) i f
def Y8{P:bh}(z:fg.length<=a7)(f:(a==jv)=Z_)(d:KV fg b)(g:e.DictOf (iP P w) a b):
  iY P w h e a (.dK fg):=(z,f,b,d,g)
def Np(hu:A.units+1<qf)(I:Inv X C B H s)(g:R_ H a y v H')(j:RelV y u)(P:RelV v r)(h:∀K,Inv X C B H' K->Q () K):
  bz (bj X.prog X.w) A (setItem (.ref a) u r) Q E s:=by
 obtain⟨fg,k,e,x,l,D⟩|⟨fg,k,b,e,x,eb,l,D⟩:=g
 .subst x D;let(z,w,vs,d,F):=acj I.gf e;let o:vs.length<=a7:=by rw[<- d.length];exact z
  let t:(w6 fg k v).length<=a7:=by grind [xl]
  exact wpAny_setItem_pairs (hsz:=o) (Gp j) F λR f p=>h _<|Ln I (by rw[e];exact Ÿ) p (let(q,_,_,i,_):=f;(q,i)) (Y8 t w (d.put k P) f)
 .subst x D;cases j;let(z,w,xs,d,F):=aca I.gf e;let o:xs.length<=a7:=by rw[<- Paired.length d];exact z
  let t:(w6 fg k v).length<=a7:=by grind [xl]
  refine wpAny_setItem_heap (uv hu) (zY I.gf eb) F λR f p=>h _ ?_
  let(q,es,ep,i,h2,h3,h4,_,h5):=f;refine Ln I (by rw[e];exact Ÿ) p (q,i) (t,w,_,(d.put k eb P).keeps λc ys S =>?_,q,es,ep,i,h2,h3,h4,h5);rw[aO<|by lia];exact S
end
section
variable {X:Cx}{s:aA}
end
def Zv(i:Expr):Prop:=∀a b,SM i Z_ a b=operate [a,b] (NN a b)
def Ti{s:aA}(y:typeLookup (.type a) "__getitem__" = c9 (Y<|.builtin u))(v:Zv d)(h:bz (bj b w) A (eval T l) (λo k=>bz (bj b w) A (eval d l) (λi e=>e.TypeIs o a/\bz (bj b w) A (NN o i) Q E e) E k) E s):
  bz (bj b w) A (eval (.Subscript T d N) l) Q E s:=by
 refine Subscript_<|fU h (λo k q=>fU q (λi e f =>?_) λc c x=>x) λc c x=>x;let(t,f):=f;refine aB ?_;refine aB<|wpAny_specialOf t y ?_;let k8:bz (bj b w) A (SM d Z_ o i) (λr g=>bz (bj b w) A (letTemporaryGo T o r >>= λc=>c9 r) Q E g) E e:=by rw[v o i];exact wpAny_operating<|fU f (λr g p=>aB<|wpAny_letTemporaryGo<|bD p) λc c x=>x
 simp_all [bD,aB]
def GQ{X:Cx}{s:aA}(I:Inv X C B H s)(g:ya H a y o):s.TypeIs (.ref a) "dict" :=by
 obtain⟨fg,k,e,_⟩|⟨fg,k,b,e,_⟩:=g
 .let(_,_,h,_,d):=Cw I.gf e;exact d.typeIs
 .let(_,_,f,_,d):=Ct I.gf e;exact d.typeIs
def aaL(J L:TE):TE:=λB H Q=>J B H λx d=>L B d λy b=>∃a v,x=.ref a/\ya b a y (Y v)/\Q v b
def Th(L J:TE):TE:=λB H Q=>L B H λy d=>J B d λx b=>∃a o,x=.ref a/\ya b a y o/\Q (.bl<|not o.isSome) b
def aaX(J L U:TE):TS:=λD B H=>U B H λv f=>J B f λx e=>L B e λy d=>∃a b,x=.ref a/\R_ d a y v b/\D.nx B b
section
variable {X:Cx}{m:Pos}
def T5(q:X.A.units+1<qf)(t:PE X o J)(w:PE X i L)(r:Zv i):PE X (.Subscript o i N)<|aaL J L:=by
 intro C s B H Q I h;refine Ti PySem.F.slot_dict_getitem.lookup r<|eP (t C s B H _ I h) ?_;rintro u e ⟨x,F,D,k,p⟩;refine eP (w C e B F _ D p) ?_;rintro R P ⟨y,E,d,f,a,v,z,g,l⟩;subst z;obtain rfl:u=d6 a:=k;exact(GQ d g,Nq q d g f λK c A b=>(v,E,A,b,l))
def Mw(p:X.A.units+1<qf)(r:PE X i L)(q:PE X o J):PC X .NotIn i o<|Th L J:=by
 intro C s B H Q I h;refine eP (r C s B H _ I h) ?_;rintro K b ⟨y,D,z,d,k⟩;refine eP (q C b B D _ z k) ?_;rintro u F ⟨x,A,w,e,a,l,t,g,f⟩;subst t;obtain rfl:u=d6 a:=e;exact Vt p w g d λE v=>(.bl _,A,v,W,f)
def TV(w:X.A.units+1<qf)(A:PE X o J)(E:PE X i L)(t:PE X T U)(z:cg T (Y<|.Subscript o i j) N.line X.env=c9 Z_):
  PS X (.Assign [.Subscript o i j] T N) (aaX J L U):=by
 intro C s B H D I h;refine wpAny_Assign_Subscript (eP (t C s B H _ I h) ?_) z;rintro r d ⟨v,H1,Q,k,q⟩;refine eP (A C d B H1 _ Q q) ?_;rintro u b ⟨x,S,P,f,p⟩;refine eP (E C b B S _ P p) ?_;rintro iv s3 ⟨y,H3,c,e,a,R,F,g,l⟩;subst F;obtain rfl:u=d6 a:=f;exact Np w c g e k λs4 K=>(B,R,K,l)
end
def Ru{P:bh}{w:cW}(h:cP)(a:jv<h.objs.size):iY P w H (h.push { cls :=.type "dict",data :=.dict #[] }) h.objs.size (.dK []):=
 (cZ _,beq_eq_false_iff_ne.mpr<|bw<|bI a,[],.nil,Heap.DictOf.new h)
def Xh:TE:=λ_ H Q=>∀p,H p=M->Q (.ref p) (cU H p<|.dK [])
section
variable {X:Cx}
def Pf:PE X (.Dict [] [] N) Xh:=λC s B H Q I h=>
 wpAny_Dict_empty (.ref _,_,I.laid (λa a q=>ao _ q) (aF _)<|Ru _ I.big,W,h _<|I.gf.fresh<|aF _)
end
structure M2(X:Cx)(o:Expr)(m:aP)(A2:Pos)(e f:Expr)(x6:Pos):Prop where
 base:bT o m X.env (eval o X.env)=eval o X.env
 few:((cB x6<|ak [e,f] X.env).all (λx=> (not x.1))&&(fY x6<|cV [] X.env).all (λx=>x.1.isSome)
  && decide (([e,f]:!Expr).length+([]:!j8).length+(if ([]:!j8).isEmpty then 0 else 1)<30))=true
 line:(A2.endLine==x6.line)=true
 trees:cB x6 (ak [e,f] X.env)=[(false,eval e X.env),(false,eval f X.env)]
def IsD(H:Hp)(a:aH):Prop:=(∃fg,Rd H a<|.dK fg)\/∃fg,Rd H a<|.dT fg
def YA{X:Cx}{s:aA}(I:Inv X C B H s)(d:IsD H a):
  s.TypeIs (.ref a) "dict" /\(∀b,d6 a=.ref b->∃f,s.heap.get? b=Y f/\f.dict=M)/\(a==jv)=false:=by
 obtain⟨fg,e⟩|⟨fg,e⟩:=d
 .let(_,h,o,_,g):=Cw I.gf e;refine(g.typeIs,λb q =>?_,h);cases q;let(f,_,_,k,i,_):=g;exact(f,k,i.2.1)
 .let(_,h,l,_,g):=Ct I.gf e;refine(g.typeIs,λb q =>?_,h);cases q;let(f,_,_,k,i,_):=g;exact(f,k,i.2.1)
section
variable {X:Cx}{s:aA}
def Zg(F:A.units+1<qf)(I:Inv X C B H s)(g:ya H a y o)(w:RelV y u)(x:RelV d r)(h:∀t v,Inv X C B H v->RelV (o.getD d) t->Q t v):
  bz (bj X.prog X.w) A (call (.builtin "dict.get") [.ref a,u,r]) Q E s:=by
 obtain⟨fg,k,e,q,l⟩|⟨fg,k,b,e,q,K,l⟩:=g
 .subst q;let(z,p,c,f,i):=Cw I.gf e;refine call_meetsIn PySem.F.slot_dict_get i.typeIs PySem.F.entry_dict_get (PySem.F.args_dict_get_3 _ _ _) (meets_dict_get_default _ a (Gp w) p r) (_,i.mapOf,h _ _ (I.tok _) ?_);rw[l];exact(f.val k).getD x
 .subst q;cases (w);let(z,p,D,f,i):=Ct I.gf e;refine call_meetsIn PySem.F.slot_dict_get i.typeIs PySem.F.entry_dict_get (PySem.F.args_dict_get_3 _ _ _) (meetsH_dict_get_default _ a b p r) (uv F,k,D,zY I.gf K,i,h _ _ (I.tok _) ?_);rw[l];exact(f.val k).getD x
end
def Xi(J L c:TE):TE:=λB H Q=>J B H λx d=>∃a,x=.ref a/\IsD d a/\L B d λy e=>c B e λz b=>∃o,ya b a y o/\Q (o.getD z) b
section
variable {X:Cx}{f:Expr}
def Pg(E:X.A.units+1<qf)(F:PE X o J)(j:PE X e L)(K:PE X f c)(m:M2 X o "get" n e f O):PE X (.Call (.Attribute o "get" n) [e,f] [] O)<|Xi J L c:=by
 intro C s B H Q I h;refine wpAny_Call_method m.base m.few m.line PySem.F.plainAttrs_dict PySem.F.slot_dict_get PySem.F.type_dict_get<|eP (F C s B H _ I h) ?_;rintro u q ⟨x,H1,i,v,a,P,d,D⟩;subst P;obtain rfl:u=d6 a:=v;let(l,k,_):=YA i d;refine(l,k,?_);rw[m.trees];exact A8 W<|Calls.evalArgs_plain<|JO<|eP (j C q B H1 _ i D) λiv p (y,H2,I2,t,A)=>JO<|eP (K C p B H2 _ I2 A) λfv s3 (z,H3,S,r,ov,g,w)=>Calls.spliced_nil<|Zg E S g t r λw' s4 R b=>(_,H3,R,b,w)
end
section
variable {X:Cx}{s:aA}
end
abbrev sj(K:aV)(c f:aP):Prop:=∀C,uw K bc c=Y (Y<|.ref C)->LR K C/\pK K C f
theorem J_{K:aV}{f:aP}{d:D}{v:V}(m:cS K G d v):∀ {a:!aP}{g:!D}{h:!V},a.length=g.length->aZ K G g h->∃b,lT f v (a.zip h)=(iN f d a g).1.zip b/\(iN f d a g).1.length=(iN f d a g).2.length/\aZ K G (iN f d a g).2 b
 |[],[],h,c,r=>([v],W,W,.cons m .nil)|[],x::g,h,c,r=>by simp at c
 |k::a,[],h,c,r=>by simp at c
 | k::a,x::g,h,c,r=>by
  let(u,i,rfl,o,n):=aW.mp r;simp at c;unfold iN;rw[show lT f v _=if k=f then (k,v)::a.zip i else (k,u)::lT f v _ from W];by_cases j:k=f
  .rw[if_pos j,if_pos j];exact(_,W,by simp[c],.cons m n)
  .rw[if_neg j,if_neg j];let(b,e,l,q):=J_ m c n;exact(_,Ÿ,by simp[l],.cons o q)
def uE{a:!d}(h:a.length=b.length):(a.zip b).length=a.length:=by simp[h]
theorem oD{K:aV}{G:Hp}{f:aP}:∀ {a:!aP}{b:!V},f∉a->(a.zip b).lookup f=M
 |[],b,h=>by simp
 |k::a,[],h=>by trivial
 |k::a,v::b,h=>by simp at h;rw[dF,eO,beq_eq_false_iff_ne.mpr h.1];exact oD (K:=K) (G:=G) h.2
section
variable {X:Cx}
set_option tactic.hygienic true
def vr{c f:aP}(h:PE X e<|tQ X.K Z g)(p:sj X.K c f)(x:@&(bT e f X.env (eval e X.env)=eval e X.env)):
  PE X (.Attribute e f I) (tP X.K Z<|cn c f g):=(qG h x).imp <|by
 rintro F H Q ⟨G,m,d,z,j,b,k⟩;unfold cn at b;rw[aa]at b;let(o,l,b):=b;refine(G,m,o,z,j,l,λv E D q w =>?_);cases o<;>simp only[aw]at b<;>try (cases b)
 split at b
 .rename_i i;refine ae λkk =>?_
  subst i;let(a,C,B,K,rfl,y,n,_,t):=w.ae7 q.gh;let(u,A,r):=K0 t b;exact kk<|(a,C,B,_,u,W,y,(p C n).1,(p C n).2,A,k u E D q r)
 .cases b
end
section
variable {X:Cx}{s:!Nat}
noncomputable def OT:DG:=λ_=>M
def Rn:PS X a<|gO X.K B s Z own1 OT:=O9.imp <|by rintro D c H ⟨G,d,o,S,b,k⟩;cases b
def Gv(c:aP)(i:Nat)(a:bL):↑(!aP×!D):=(eV i a).bind λd=>match d with|.ins f b e=>if f=c then Y (b,e) else M|_=>M
set_option tactic.hygienic true in
def IT{e:!D}(h:Gv c i a=Y (b,e)):a[i]?=Y (Y<|.ins c b e):=by
 let(d,g,h):=aa.1 h;cases d<;>simp only[aw]at h<;>try (cases h)
 split at h
 .rename_i f;cases h;subst f;exact gC g
 .cases h
def SR.aeP{K:aV}{G:Hp}{d:!aP}{f:!D}(S:SR K B Z G H g j)(k:i∈Z)(h:j[i]?=Y (Y<|.ins c d f)):
  ∃a C e b,g[i]?=Y (Y<|.ref a)/\H a=Y (.ins C e<|d.zip b)/\uw K bc c=Y (Y<|.ref C)/\d.length=f.length/\aZ K G f b/\G a=M/\B.2 a=none:=by
 refine ae λkk =>?_
 obtain⟨a,q,p,o,⟨C,e,b,rfl,n,l,r⟩,m⟩:=S.Pj k h W;exact kk<|(a,C,e,b,p,o,n,l,r,m)
def ke(i:Nat)(c f:aP)(b:DF):DG:=λa=>(b a).bind λd=>(Gv c i a).bind λq=>if q.1.length<999 then Y (.nx<|a.set i<|Y<|.ins c (iN f d q.1 q.2).1 (iN f d q.1 q.2).2) else M
def afP{i:Nat}{c f:aP}{w:DF}(h:PE X (.Name x p)<|g9 i)(P:PE X e<|tP X.K Z w)(u:sj X.K c f)(q:‹i∈Z›)(N:@&(cg e (Y<|.Attribute (.Name x p) f T) I.line X.env=c9 false)):
  PS X (.Assign [.Attribute (.Name x p) f T] e I) (gO X.K B s Z Z<|ke i c f w):=(Dh h P N).imp <|by
 rintro D σ H ⟨G,m,o,S,b,k⟩;let(d,R,b):=aa.1 b;rcases j:Gv c i m with _|_
 .simp[j]at b
 simp only[j,aw]at b;split at b
 .cases b;let t:=IT j;refine(G,m,d,S.gh,S.i6,R,λv G' H' E r =>?_);let F:=S.ext E;refine ae λkk =>?_
  let(a,C,A,vs,z,e3,n,l,y,_):=F.aeP q t;let(g,Q,J,K):=J_ r l y;refine kk<|(_,z,a,C,A,_,W,e3,(u C n).1,(u C n).2,?_,?_)
  .rw[uE<|by rw[l,y.length]];exact Ÿ
  .rw[Q];exact k _ G' _<|F.abo q t z (C,A,g,W,n,J,K)
 .cases b
abbrev Xy(a:Int->Int->Int):V->V->Hp->VK->Prop:=λx y H Q=>∃i j,x=.int i/\y=.int j/\Q (.int<|a i j) H
noncomputable def jM(f:DM):DG:=λa=>(f a).map λq =>.nx q.2
def qW{f:DM}(i:PE X e<|tM X.K B Z f)(h:@&(cg e M I.line X.env=c9 false)):PS X (.Expr e I)<|gO X.K B s Z Z<|jM f:=(jO i h).imp <|by
 rintro D c H ⟨G,g,o,S,a,k⟩;obtain⟨⟨d,b⟩,j,a⟩:=aj.1 a;cases a;exact(G,g,d,b,S,j,λv n m l p r=>k c n m l)
end
inductive Z1 (K:aV) (p:Nat) (F:!D->↑(D×D)) (f:!V) (H:Hp) (Q:VK) (_x:XK):Prop
 |mk G b d j a o c:a_ G H->b[p]?=some c->f[p]?=some (.ref a)->H a=some o->iq K G c o->G a=none->(∀(i:Nat) c,i≠p->b[i]?=some c->∃v,f[i]?=some v/\cS K G c v)->b.length=f.length->F b=some (d,j)->(∀v h e g,fT G (Hv H a) e g->e a=none->g a=some h->iq K e j h->cS K e d v->Q v g)->Z1 K p F f H Q _x
def aeR(p:Nat):DO->↑(D×D)
 |.rm d a=>(eV p a).bind λc=>if wD c=Z' then Y (d,c) else M
 |.nx a=>(eV p a).bind λc=>if wD c=Z' then Y (.dC,c) else M
 |_=>M
def runC(n N p:Nat)(g:DG)(a:!D):↑(D×D):=if a.length=n then (g<|fP N a).bind (aeR p) else M
section
variable {P:bh}{K:aV}
set_option tactic.hygienic true in
def fX.okC{R:cH}{f:aH}(F:fX K x l R f fd){p:Nat}(N:!aP)(Z Ź:!Nat){g:DG}(S:ji N ps<|bu R) (hb:N.Nodup->∀(t:au) (A:gM) (j:!Env) (s:aA) (H:Hp) (E:XK),d7 k (A.deeper<|oY l (bu R) s.heap.objs.size f t)->∀(B:Bs) (a:aH),B.3=[(p,a)] ->
   nY (wR fx P w K O U N l (bu R) f t A j s H E).NY (fI R) (gO K B [] Z Ź g)) (hp:‹p∈Z›) (YI:‹∀i∈Z,i=p\/ps.length<=i›):b9 P w K O U fx (k+1) f fd ps<|Z1 K p<|runC ps.length N.length p g:=by
 refine F.ok S (λvs H Q E h =>?_)<|λt A j s H vs Q E hr h =>?_
 .let(G,ds,d,c',a,o,c,gh,hd,hv,ha,r,ga,ro,hl,e,_):=h;unfold runC at e;split at e<;>simp_all
 .let(G,ds,d,c',a,o,c,gh,hd,hv,ha,r,ga,ro,hl,e,q):=h;unfold runC at e;split at e
  .rename_i hn;refine(_,hb S.nd t A j s H E hr (G,Hv H a,_,λI I=>False) a W,?_);let(oo,eg,e):=aa.1 e;have k8:∀ {σ:St}{m:bL}{C n:Hp}{o':!Nat}{y:D},SR K (G,Hv H a,[(p,a)],λI I=>False) o' C n σ m->eV p m=Y y->wD y=Z'->∃u,n a=Y u/\iq K C y u/\C a=none:=fun {σ m C n o' y} z el X=>by let(YH,hσ):=z.pin p a Ÿ;let(b,u,f2,f3,f4,f5,_):=z.Pj YH (gC el) X;rw[hσ]at f2;cases f2<;>simp_all
   refine(G,_,oo,BX gh hp hd hv ha r ga ro hl (by rw[hn];exact YI),eg,?_);cases oo with
   |rm d' m=>
    let(y,el,e):=aa.1 e;split at e
    .rename_i X;cases e;intro v σ C n (o',z) rv;let(u,f3,f4,f5):=k8 z el X;exact q v u C n z.m4 f5 f3 f4 rv
    .cases e
   |nx m=>
    let(y,el,e):=aa.1 e;split at e
    .rename_i X;cases e;intro σ C n z;let(u,f3,f4,f5):=k8 z el X;exact q _ u C n z.m4 f5 f3 f4<|gz.mpr W
    .cases e
   |_=>cases e
  .cases e
structure dZ(P:bh)(w:cW)(K:aV)(mg:aP->↑au)(base:cP)(c m:aP)(k:Nat)(sp:Sp):Prop where
 ex:∃C f fd ps,uw K bc c=some (some<|.ref C)/\LR K C/\VI K C m f/\b9 P w K mg base fx k f fd ps sp/\Binds K fd ps []
def dZ.mono{m:aP}(h:dZ P w K O U c m j a)(d:j<=k):dZ P w K O U c m k a:=by
 let(C,f,o,b,n,l,i,g,e):=h.ex;exact(C,f,o,b,n,l,i,g.mono d,e)
structure ur(P:bh)(w:cW)(K:aV)(mg:aP->↑au)(base:cP)(c:aP)(k:Nat)(sp:Sp):Prop where
 ex:∃C f fd ps,uw K bc c=some (some<|.ref C)/\mg c=some (.ref C)/\Mk K C f/\b9 P w K mg base fx k f fd ps sp/\Binds K fd ps []
end
section
variable {X:Cx}
inductive tFC (K:aV) (Z:!Nat) (f:DF) (e:St) (H:Hp) (Q:VK):Prop
 |mk G c d:a_ G H->ja K Z G H e c->f c=some d->(∀p o b a,fT G H b a->H p=none->b p=none->a p=some o->iq K b d o->Q (.ref p) a)->tFC K Z f e H Q
noncomputable def Ri(c:aP)(F:!D->↑(D×D))(g:DL):DF:=λa=>(g a).bind λb=>(F<|.ins c [] []::b).bind λr=>match r.1 with|.dC=>Y r.2|_=>M
def Lm{c:aP}{F:!D->↑(D×D)}(h:ur X.prog X.w X.K X.mg X.base c k<|Z1 X.K 0 F)(hr:d7 (k+1) X.A)(hg:Gl X c)(ha:PA X (e::J)<|E9 X.K Z g)(B:‹(c==("__debug__" : aP))=false›)(he:@&(ak (e::J) X.env=(Z_,eval e X.env)::ak J X.env))(A:@&((cB I<|ak J X.env).any (·.1)=false)):PE X (.Call (.Name c p) (e::J) [] I)<|tFC X.K Z<|Ri c F g:=by
 let(C,f,fd,ps,n,hm,hk,h1,a):=h.ex;refine(Di hk h1 hr hg hm a .nil lP ha B he A).imp ?_;rintro σ H Q ⟨G,R,d,gh,K,j,q⟩;refine ae λkk =>?_
 let(N,eg,j):=aa.1 j;obtain⟨⟨d',c'⟩,eF,j⟩:=aa.1 j;cases d'<;>simp only[aw]at j<;>try (cases j;done)
 cases j;refine kk<|(G,R,N,gh,K,eg,λS s H1 w P x t m l ne =>?_);rw[bZ];let E:=w.gh.free m;refine(s,.ins c [] []::N,.dC,_,x,_,.ins c [] [],(w.gh.trans<|(a_.alloc l).trans<|.alloc<|by rw[aO<|bw ne];exact m),W,W,a9,(C,t,[],W,n,W,.nil),E,λi y hi ec =>?_,by simp[P.length],eF,λv o' G2 H2 u g2 h2 r2 r3=>(gz.mp r3,?_))
 .cases i with
  |zero=>exact absurd W hi|succ i=>exact P.get (i:=i) (by simpa using ec)
 .refine q x o' G2 H2 (w.trans (λb o e=>u.hh b o ?_,u.gg,u.gh,λb o e =>?_)) (w.hh.free m) g2 h2 r2
  .let a:b≠x:=bf e m;rw[Ax a,aO a,aO<|bf e l];exact e
  .obtain z|z:=u.fr b o e
   .exact .inl z
   .refine .inr ?_;by_cases a:b=x
    .subst a;exact m
    .by_cases r:b=t
     .subst r;exact l
     .rw[Ax a,aO a,aO r]at z;exact z
def Lg{s:!Nat}{i:Nat}{f:DF}(w:X.N.Nodup)(t:X.N[i]?=Y x)(h:Loc X.env.scope x)(v:PE X e<|tFC X.K Z f)(n:‹i∈Z›)(b:autoParam (∀a,(i,a)∉B.3) ť)(q:‹Br i∉Z›)(l:@&(cg e (Y<|.Name x T) I.line X.env=c9 false))(u:autoParam (X.fn x=Z'\/X.env.scope.names.lookup x=Y .local) ŧ):
  PS X (.Assign [.Name x T] e I) (gO X.K B s Z Z<|cM i f):=(km w t h v l u).imp <|by
 rintro D F H ⟨G,g,o,S,c,k⟩;let(d,z,c):=aj.1 c;cases c;exact(G,g,d,S.gh,S.i6,z,λp K C A E m y j r=>k _ C A<|S.setC n E m y j r b q)
end
section
variable {X:Cx}{m:Pos}{f:DF}
end
section
variable {X:Cx}{f:Expr}
noncomputable def bX(ks:!ju)(c:!D)(k:ju):↑D:=((ks.zip c).find? λa=>decide (a.1=k)).map (·.2)
theorem pG{K:aV}:∀ {c:!ju}{f:!D}{a:!V}{d:D},aZ K G f a->bX c f k=Y d->∃v,sV (c.zip a) k=Y v/\cS K G d v
 |[],f,a,d,r,h=>by simp[bX]at h
 |x::c,[],a,d,r,h=>by simp[bX]at h
 | x::c,y::f,a,d,r,h=>by
  let(v,t,rfl,i,l):=aW.mp r;by_cases g:x=k
  .subst g;have:=by simpa [bX] using h
   subst this;exact(v,uF W,i)
  .let m:bX c f k=Y d:=by simp_all [bX]
   obtain _:=pG l m
   simp_all [dF,qp]
theorem uj{K:aV}:∀ {c:!ju}{d:!D}{a:!V},aZ K G d a->bX c d k=M->sV (c.zip a) k=M
 |[],d,a,r,h=>by simp[sV]
 |x::c,[],a,r,h=>by rw[cx.mp r];trivial
 | x::c,y::d,a,r,h=>by
  let(v,t,rfl,i,f):=aW.mp r;by_cases e:x=k
  .simp_all [bX]
  .let g:bX c d k=none:=by simpa [bX,e] using h
   rw[dF,qp e];exact uj f g
noncomputable def DA:D->↑ju
 |.int i=>Y (LV i)|.str x=>Y (b_ x)|_=>M
def vc{K}{v}(h:DA d=Y k)(r:i_ K G H d v):v=kV k:=by
 cases d<;>simp only[DA]at h<;>try trivial
 .cases h;exact r.int
 .cases h;exact r.str
def GJ(f g e:DF):DF:=λa=>(f a).bind λd=>(g a).bind λk=>(e a).bind λx=>match d with|.i9 c h=>(DA k).map λk=>(bX c h k).getD x|_=>M
set_option tactic.hygienic true
def Ec{D F:DF}{i}(hu:X.A.units+1<qf)(ho:PE X o<|tQ X.K Z D)(he:PE X e<|tQ X.K Z F)(hf:PE X f<|tP X.K Z C)(m:M2 X o "get" j e f i):PE X (.Call (.Attribute o "get" j) [e,f] [] i)<|tP X.K Z<|GJ D F C:=
 (Pg hu ho he hf m).imp <|by
  rintro σ H Q ⟨G,r,d,gh,n,c,q⟩;unfold GJ at c;rcases g:D r with _|dd
  .rw[g]at c;cases c
  rcases h:F r with _|N
  .simp[g,h]at c
  rcases p:C r with _|L
  .simp[g,h,p]at c
  simp only[g,h,p,aw]at c;cases dd<;>simp only at c<;>try (cases c)
  rename_i b J;rcases I:DA N with _|k
  .rw[I]at c;cases c
  rw[I]at c;refine(G,r,_,gh,n,g,λv G1 H1 x r1 =>?_);let(a,vs,rfl,O,l,S):=r1.Y9 x.gh;refine(a,W,.inl (_,.of O),G1,r,N,x.gh,n.ext x,h,λu G2 H2 t U=>(G2,r,L,t.gh,(n.ext x).ext t,p,λz R P K T =>?_));let B:=K.hh _ _<|t.hh _ _ O;let s:=aZ.mono (t.gg.trans K.gg) J S;refine(_,by rw[(vc I U)];exact ya.k B,?_);let E:=(x.trans t).trans K;have c:Y ((bX b J k).getD L)=Y d:=c;rcases y:bX b J k with _|dv
  .grind [uj]
  rw[y]at c;cases c;let(w,ew,A):=pG s y;rw[ew];exact q _ R P E A
end
noncomputable def NX:D->D->↑D
 |.int i,.int j=>Y (.int<|eJ i j)|_,_=>M
noncomputable def gw:D->D->↑D
 |.int i,.int j=>Y (.int<|uD i j)|_,_=>M
noncomputable def r9:D->D->↑D
 |.int i,.int j=>if 0<=j/\j<=1000/\i.natAbs<2 ^ 64 then Y (.int<|i*2 ^ j.toNat) else M
 |_,_=>M
noncomputable def X_:D->D->↑D
 |.int i,.int j=>if 0<=j then Y (.int<|i/2 ^ j.toNat) else M
 |_,_=>M
noncomputable def FZ:D->↑D
 |.int i=>Y (.int<|uC i)|_=>M
section
variable {X:Cx}{f:Pos}
def Wu:AS X (dr .BitOr) NX:=mT.imp abe <|by
 rintro x y H Q ⟨G,k,j,d,i,e,b,a,q⟩;unfold NX at a;split at a<;>try (cases a;done)
 cases a;exact(_,_,e.int,b.int,q _ G H (.refl i)<|b8.mpr W)
def adj:AS X (dr .BitAnd) gw:=mT.imp X3 <|by
 rintro x y H Q ⟨G,k,j,d,i,e,b,a,q⟩;unfold gw at a;split at a<;>try (cases a;done)
 cases a;exact(_,_,e.int,b.int,q _ G H (.refl i)<|b8.mpr W)
set_option tactic.hygienic true
def aeU:AS X (dr .LShift) r9:=mT.imp XX <|by
 rintro x y H Q ⟨G,l,k,d,j,i,e,a,q⟩;unfold r9 at a;split at a<;>try (cases a)
 split at a
 .rename_i b;cases a;exact(_,_,i.int,e.int,(b.1,ž,b.2.2),q _ G H (.refl j)<|b8.mpr W)
 .cases a
def aeT:AS X (dr .RShift) X_:=mT.imp XW <|by
 rintro x y H Q ⟨G,l,k,d,j,i,e,a,q⟩;unfold X_ at a;split at a<;>try (cases a)
 split at a
 .rename_i b;cases a;exact(_,_,i.int,e.int,b,q _ G H (.refl j)<|b8.mpr W)
 .cases a
set_option tactic.hygienic false
def afX(l:PE X a<|tQ X.K Z c):PE X (.UnaryOp .Invert a f)<|tP X.K Z<|e1 FZ c:=(Kd W6 l).imp <|by
 rintro s H Q ⟨G,i,d,m,b,o,k⟩;let(x,n,e):=La o;cases x<;>simp[FZ]at e
 subst e;exact(G,i,_,m,b,n,λv q p r j=>(_,j.int,k _ q p r<|b8.mpr W))
def agL:NJ X .BitOr<|Xy eJ:=by
 rintro b s k H x y u v Q I e d ⟨i,j,rfl,rfl,q⟩;let(t,rfl):=e;let(a,rfl):=d;exact ior_int (.int _,H,I.tok _,(_,W),q)
def xi(i:Nat)(e:Int->Int->Int)(j:DF):DG:=λd=>(eV i d).bind λx=>(j d).bind λy=>match x,y with|.int a,.int b=>Y (.nx<|d.set i<|Y<|.int<|e a b)|_,_=>M
def afQ{i:Nat}{op}(b:NJ X o<|Xy op)(w:X.N.Nodup)(q:X.N[i]?=Y x)(p:Loc X.env.scope x)(t:PE X e<|tP X.K Z j)(n:‹i∉Z›)(s:autoParam (X.fn x=Z'\/X.env.scope.names.lookup x=Y .local) ŧ):
  PS X (.AugAssign (.Name x g) o e f) (gO X.K B h Z Z<|xi i op j):=(XF w q p t b s).imp <|by
 rintro D I H ⟨G,m,J,S,a,k⟩;let(c,y,a):=aa.1 a;let(d,l,a):=aa.1 a;split at a
 .cases a;let(v,A,z):=S.env i _ n<|gC y;cases b8.mp z;refine(_,A,G,m,_,S.gh,S.i6,l,λu F C E r =>?_);cases b8.mp r;exact(_,_,W,W,k _ F C<|(S.ext E).wa n<|b8.mpr W)
 .cases a
end
section
variable {K:aV}{f:!Nat}
def SR.tree{s}(S:SR K B f G H y l)(c:i∈f)(e:l[i]?=Y (Y<|.obj s t)):∃a T,y[i]?=Y (Y<|.ref a)/\cm K G H s t (.ref a) T/\T.Nodup/\(∀b∈T,G b=M/\B.2 b=M)/\∃F,oS K B f G H y l F/\F i=T:=by
 let(F,Da):=S.ow;let(a,g,d):=Da.it i _ c e;let(n,k):=Da.ok i _ c e;exact(a,F i,g,d,n,k,F,Da,W)
noncomputable def c4(r:Nat)(l:bL):bL:=l.map λo=>match o with|some (.dY k p)=>if k=r then M else Y (.dY k p)|o=>o
def bH{r i:Nat}(h:(c4 r l)[i]?=Y (Y d)):l[i]?=Y (Y d)/\∀p,d ≠ .dY r p:=by
 unfold c4 at h;rw[aK]at h;let(o,e,h):=aj.1 h;rw[e];cases o<;>lia
def jx{r i:Nat}(h:l[i]?=Y (Y d))(a:∀p,d ≠ .dY r p):(c4 r l)[i]?=Y (Y d):=by
 unfold c4;rw[aK,h];cases d<;>simp_all
def SR.L9{r:Nat}(S:SR K B f G H y l):SR K B f G H y<|c4 r l:=by
 refine(S.gh,S.g0,S.h0,S.fr,λi d a e=>S.env i d a (bH e).1,?_,by rw[S.len];simp[L2.c4],S.pin,λj k p s o e =>?_)
 .let(F,Da):=S.ow;exact(F,λi d a e=>Da.it i d a (bH e).1,λi d a e=>Da.ok i d a (bH e).1,λi j d c a n C A=>Da.ap i j d c a n (bH C).1 (bH A).1)
 .let(v,x,m,g,h,w,b,u,t):=S.dY j k p s o (bH e).1;exact(v,x,m,g,h,w,b,jx u (λq z=>by cases z),t)
def SR.Eg{s:Sk}{t'}{m}{F}(S:SR K B f G H y l)(Da:oS K B f G H y l F)(J:F i=T)(g:i∈f)(I:l[i]?=Y (Y<|.obj s t))(u:y[i]?=Y (Y<|.ref a))(E:fT G (dM H T) G' H')(v:cm K G' H' n t' (.ref a) m)(x:m.Nodup)(w:∀b∈m,G' b=M/\(b∈T\/H b=M)):SR K B f G' H' y<|(c4 i l).set i<|Y<|.obj n t':=by
 have:=(S.L9 (r:=i)).chg (i:=i) (a:=a) (d' :=.obj n t') (F0:=T) (S':=m) ((λi d g e=>Da.it i d g (bH e).1,λi d g e=>Da.ok i d g (bH e).1,λi j d c g C A L=>Da.ap i j d c g C (bH A).1 (bH L).1)) g (λb k=>(Ż,_,(jx (r:=i) I λq z=>by cases z))) E.gg E.gh (λb o e=>by
   obtain z|z:=E.fr b o e
   .exact .inl z
   .by_cases k:b∈T
    .exact .inr (.inr k)
    .rw[bK k]at z;exact .inr<|.inl z)
  (λb o k e=>E.hh b o<|by simp_all [bK]) v x w (λb h=>by have:=(S.pin i b h).2;simp_all) (λr p z=>by cases z)
  (λj p q q q e=>absurd W<|(bH e).2 p)
 simp_all [eY]
def SR.Xr{p}{s s'}{v}(S:SR K B f G H y l)(hi:i∈f)(N:Br i∈f)(hj:j∈f)(J:i≠j)(Z:Br j∉f)(C:∀a,(j,a)∉B.3)(hd:l[i]?=Y (Y<|.obj s t))(hs:y[i]?=Y (Y v))(hv:dS H p v=Y (.ref b))(es:kz p s=Y s')(ef:∀g∈Je p,g∈Hd):SR K B f G H (y.set j<|Y<|.ref b)<|l.set j<|Y<|.dY i p:=by
 let(F,Da):=S.ow;refine(S.gh,S.g0,S.h0,S.fr,λk c o e =>?_,(λk=>if k=j then [] else F k,λk c o e =>?_,λk c o e =>?_,λk m c c' o hm ek em L =>?_),by simp[S.len],λk x h =>?_,λk r q h1 h2 e =>?_)
 .let d:j≠k:=λz=>o (z ▸ hj)
  rw[aq d]at e;let(u,n,O):=S.env k c o e;exact(u,by rw[aq d];exact n,O)
 .obtain⟨rfl,rfl,A⟩|⟨d,n⟩:=fE e
  .exact(b,pM (by rw[S.len];exact A),by simp[j9])
  .let(x,f1,f2):=Da.it k c o n;exact(x,by rw[aq d];exact f1,Ž)
 .obtain⟨rfl,rfl,A⟩|⟨d,n⟩:=fE e
  .simp
  .simp only[if_neg<|bw d];exact Da.ok k c o n
 .obtain⟨rfl,rfl,A⟩|⟨d,n⟩:=fE ek
  .simp
  .obtain⟨rfl,rfl,A⟩|⟨E,O⟩:=fE em
   .simp
   .simp only[if_neg<|bw d,if_neg<|bw E];exact Da.ap k m c c' o hm n O L
 .let(p1,X):=S.pin k x h;have:j≠k:=λz=>by subst z;exact C x h
  exact(p1,Ż)
 .obtain⟨rfl,z,A⟩|⟨d,n⟩:=fE e
  .cases z;exact(hi,N,s,t,s',v,.ref b,by rw[aq<|bw J];exact hd,by rw[aq<|bw J];exact hs,pM (by rw[S.len];exact A),hv,es,ef)
  .let(g1,P,U,R,T,w,Q,g2,g3,g4,g5):=S.dY k r q h1 h2 n;let I:j≠r:=λz=>Z (z ▸ P)
   exact(g1,P,U,R,T,w,Q,Ż,Ż,Ż,g5)
def SR.Xw{i}{a}{s}{F}(S:SR K B f G H y l)(Da:oS K B f G H y l F)(O:F i=T)(N:i∈f)(v:l[i]?=Y (Y<|.obj s t))(m:y[i]?=Y (Y<|.ref a))(E:fT G (dM H T) G' H')(I:cm K G' H' s d (.ref a) k)(L:k.Nodup)(J:∀b∈k,G' b=M/\(b∈T\/H b=M))(Z:∀(q:CN) u,(∀g∈Je q,g∈Hd)->dS H q (.ref a)=Y u->dS H' q (.ref a)=Y u):SR K B f G' H' y<|l.set i<|Y<|.obj s d:=by
 have:=S.chg (d' :=.obj s d) Da N (λb c=>(Ż,_,v)) E.gg E.gh λb o e=>by
   obtain z|z:=E.fr b o e
   .exact .inl z
   .by_cases c:b∈T
    .exact .inr<|.inr c
    .rw[bK c]at z;exact .inr<|.inl z
  (λb o c e=>E.hh b o<|by simp_all [bK]) I L J λb h=>by have:=(S.pin i b h).2;simp_all λr p z=>by cases z
  λj p Q P r e=>by
   refine ae λkk =>?_
   let(g1,g0,s0,t0,C,w,n,A,x,g4,X,U,R):=S.dY j i p Q P e;refine kk ?_
   simp_all
 simp_all [eY]
noncomputable def unO:↑D->↑D
 |some (.obj _ t)=>Y t|some (.lst d)=>Y (.lst d)|some (.ins c a b)=>Y (.ins c a b)|some (.i9 a b)=>Y (.i9 a b)|_=>M
def Ol(h:unO o=Y d):(∃s t,o=Y (.obj s t)/\d=t)\/(o=Y d/\wD d=Z'):=by
 unfold unO at h;split at h
 .simp_all
 .cases h;exact .inr (W,W)
 .cases h;exact .inr (W,W)
 .cases h;exact .inr (W,W)
 .cases h
def unA(l:bL):↑D->↑D
 |some (.dY r p)=>match l[r]? with|some (Y<|.obj _ t)=>iR p t|_=>M
 |_=>M
def Bc(a b:!Nat)(l:bL):bL:=l.mapIdx λi o=>if i∈a then unO o else if i∈b then unA l o else o
theorem ja.trees(n:ja K f G H y l):∀(x:!Nat),∃T:!aH,(∀b∈T,G b=M/\Im H b)/\∀i∈x,i∈f->∀s t,l[i]?=Y (Y<|.obj s t)->∃v,y[i]?=Y (Y v)/\(cS K G t v\/∃S,cm K G H s t v S/\∀b∈S,b∈T)
 |[]=>([],λb g=>(by cases g),λi d=>by cases d)
 | k::x=>by
  let(T,w,u):=ja.trees n x;by_cases p:k∈f/\∃s t,l[k]?=Y (Y<|.obj s t)
  .let(p,s,t,e):=p;let(v,C,B):=n.get k _ e;rw[if_pos p]at B;obtain r|⟨a,o,rfl,N,S,A,J⟩:=B
   .refine(T,w,λi d m j h c =>?_);obtain z|z:=aG.mp d
    .subst z;rw[e]at c;cases c;exact(v,C,.inl<|m8.mp r)
    exact Ÿ
   .refine(S++T,λb g =>?_,λi d m j h c =>?_)
    .obtain q|q:=aD.mp g
     .exact(J b q,A.here b q)
     .exact w b q
    .obtain z|z:=aG.mp d
     .subst z;rw[e]at c;cases c;exact(_,C,.inr (S,A,λb g=>aS _ g))
     .let(v,I,F):=u i z m j h c;refine(v,I,?_);obtain r|⟨L,E,D⟩:=F
      .exact .inl r
      .exact .inr (L,E,λb g=>aE _<|D b g)
  .refine(T,w,λi d m j h c =>?_);obtain z|z:=aG.mp d<;>simp_all
theorem ja.cells(C:a_ G H)(env:ja K f G H y l):∀(t:!Nat),∃T:!aH,(∀b∈T,G b=M/\Im H b)/\∀i∈t,i∈f->∀d,l[i]?=Y (Y d)->wD d=Z'->∃v,y[i]?=Y (Y v)/\(cS K G d v\/∃a o,v=.ref a/\a∈T/\H a=Y o/\iq K G d o)
 |[]=>([],λb h=>(by cases h),λi x=>by cases x)
 | k::t=>by
  let(T,s,R):=ja.cells C env t;have g:∀u:!aH,(∀b∈T,b∈u)->(∀d,l[k]?=Y (Y d)->k∈f->wD d=Z'->∃v,y[k]?=Y (Y v)/\(cS K G d v\/∃a o,v=.ref a/\a∈u/\H a=Y o/\iq K G d o)) ->
    ∀i∈k::t,i∈f->∀d,l[i]?=Y (Y d)->wD d=Z'->∃v,y[i]?=Y (Y v)/\(cS K G d v\/∃a o,v=.ref a/\a∈u/\H a=Y o/\iq K G d o):=λu w n i x p d e m=>by
   obtain z|z:=aG.mp x
   .subst z;exact n d e p m
   .let(v,O,N):=R i z p d e m;refine(v,O,?_);obtain r|⟨a,o,J,I,F⟩:=N
    .exact .inl r
    .exact .inr (a,o,J,w a I,F)
  by_cases n:k∈f/\∃d,l[k]?=Y (Y d)/\wD d=Z'
  .refine ae λkk =>?_
   let(n,d,e,m):=n;let(v,B,D):=env.get k _ e;rw[if_pos n]at D;refine kk ?_;obtain r|⟨a,o,rfl,A,P⟩:=D
   .exact(T,s,g T (λb h=>h) λE j E E=>by rw[e]at j;cases j;exact(v,B,.inl r))
   .have c:iq K G d o:=by cases d<;>first|exact P|cases m
    cases q:G a with
    |some L=>have:=C a L q;rw[A]at this;cases this;exact(T,s,g T (λb h=>h) λE j E E=>by rw[e]at j;cases j;exact(_,B,.inl<|c.rep q))
    |none=>
     refine(a::T,λb h =>?_,g (a::T) (λb h=>ay _ h) λE j E E=>by rw[e]at j;cases j;exact(_,B,.inr (a,o,W,az,A,c)));obtain z|z:=aG.mp h
     .subst z;refine(q,o,A,λQ z =>?_);subst z;cases d with
      |lst=>let(_,z,_):=c;cases z
      |ins=>let(_,_,_,z,_):=c;cases z
      |i9=>let(_,z,_):=c;cases z
      |_=>cases m
     .exact s b z
  .exact(T,s,g T (λb h=>h) λd e p m=>absurd (p,d,e,m) n)
def kU(f a b c:!Nat):Bool:=(a.all λi=>f.contains i && (not<|a.contains (ID i)) && (not<|b.contains i) && (not<|c.contains i))&&(f.all λi=>a.contains i||b.contains i||c.contains i)&&(c.all λj=>f.contains j&&f.contains (ID j) && (not<|b.contains j))
def T_{f}(h:kU f e g k=Z'):(∀i∈e,i∈f/\ID i∉e/\i∉g/\i∉k)/\(∀i∈f,i∈e\/i∈g\/i∈k)/\(∀j∈k,j∈f/\ID j∈f/\j∉g):=by
 simp only[kU,ax,dI,List.contains_eq_mem,bx,l_,decide_eq_true_eq,decide_eq_false_iff_not]at h
 lia
set_option tactic.hygienic true
def ja.W8(s:a_ G H)(m:ja K f G H y l)(Q:kU f C dp al=Z'):∃T:!aH,(∀b∈T,G b=M/\Im H b)/\ja K C (iB G H T) H y (Bc dp al l):=by
 let(o1,o2,o3):=T_ Q;let(T1,h11,h21):=m.trees f;let(T2,h12,X):=m.cells s f;generalize U:T1++T2=T;have h1:∀b∈T,G b=M/\Im H b:=λb I=>by
  rw[<- U]at I;obtain z|z:=aD.mp I
  .exact h11 b z
  .exact h12 b z
 have h2:∀i∈f,i∈f->∀s t,l[i]?=Y _->∃v,y[i]?=Y (Y v)/\(cS K G t v\/∃S,cm K G H s t v S/\∀b∈S,b∈T):=λi x Q s t e=>by
  let(v,k,c):=h21 i x Q s t e;refine(v,k,?_);obtain r|⟨S,J,Da⟩:=c
  .exact .inl r
  .exact .inr (S,J,λb I=>by rw[<- U];exact aS _<|Da b I)
 have n:=λb I=>(h1 b I).1
 let g:a_ G<|iB G H T:=ku n;have fz:∀(i:Nat) (E:Sk) (t:D),l[i]?=Y _->∃v,y[i]?=Y (Y v)/\cS K (iB G H T) t v:=λi E t e=>by
  by_cases x:i∈f
  .let(v,k,c):=h2 i x x E t e;refine(v,k,?_);obtain r|⟨S,J,Da⟩:=c
   .exact cS.mono g t r
   .exact cm.frozen n Da J
  .let(v,k,c):=m.get i _ e;rw[if_neg x]at c;exact(v,k,cS.mono g t<|m8.mp c)
 refine(T,h1,by rw[m.len];simp[Bc],λi d e =>?_,λj r p hj hm e=>absurd hm (o1 j hj).2.1);unfold Bc at e;rw[List.getElem?_mapIdx]at e;rcases L:l[i]? with _|o
 .rw[L]at e;cases e
 rw[L]at e;simp at e;by_cases R:i∈dp
 .rw[if_pos R]at e;obtain⟨E,t,rfl,rfl⟩|⟨rfl,hc⟩:=Ol e
  .let(v,k,c):=fz i E _ L;exact(v,k,by split;exact .inl c;exact c)
  .by_cases x:i∈f
   .let(v,k,c):=X i x x d L hc;have F:cS K (iB G H T) d v:=by
     obtain r|⟨a,o,rfl,A,h,q4⟩:=c
     .exact cS.mono g d r
     .exact(q4.mono g).rep (by rw[m_<|by grind];exact h)
    exact(v,k,by split;exact .inl F;exact F)
   .let(v,k,c):=m.get i _ L;rw[if_neg x]at c;have F:=cS.mono g d c;exact(v,k,by split;exact .inl F;exact F)
 .rw[if_neg R]at e;by_cases O:i∈al
  .rw[if_pos O]at e;unfold unA at e;split at e
   .rename_i r p;split at e
    .rename_i E t er;refine ae λkk =>?_
     let(g1,g0,s1,t1,s',v,v',g2,g3,g4,g5,g6,g7):=m.dY i r p (o3 i O).1 (o3 i O).2.1 L;rw[er]at g2;cases g2;let(w,k,c):=h2 r g1 g1 E t er;rw[g3]at k;cases k;have F:cS K (iB G H T) d v':=by
      obtain q|⟨S,J,Da⟩:=c
      .let(u,P,f4):=zc s q e;rw[g5]at P;cases P;exact cS.mono g d f4
      .let(u,T1,U1,P,f4,f5,_):=J.focus g6 e;rw[g5]at P;cases P;exact cm.frozen n (λb I=>Da b<|f5.symm.subset<|aS _ I) f4
     exact kk<|(v',g4,by split;exact .inl F;exact F)
    .cases e
   .cases e
  .rw[if_neg O]at e;subst e;let(v,k,c):=m.get i d L;refine(v,k,?_);by_cases x:i∈C
   .rw[if_pos x];rw[if_pos (o1 i x).1]at c;cases d with
    |obj E t=>let(u,J,Da):=fz i E t L;rw[k]at J;cases J;exact .inl<|m8.mpr Da
    |dY r p=>
     obtain q|⟨a,o,rfl,_⟩:=c
     .exact .inl<|yc.mpr<|yc.mp q
     .exact .inl<|yc.mpr (a,W)
    |lst=>obtain q|⟨a,o,B,A,h⟩:=c;exact .inl<|cS.mono g _ q;exact .inr (a,o,B,A,iq.mono g (d :=.lst _) h)
    |ins=>obtain q|⟨a,o,B,A,h⟩:=c;exact .inl<|cS.mono g _ q;exact .inr (a,o,B,A,iq.mono g (d :=.ins _ _ _) h)
    |i9=>obtain q|⟨a,o,B,A,h⟩:=c;exact .inl<|cS.mono g _ q;exact .inr (a,o,B,A,iq.mono g (d :=.i9 _ _) h)
    |_=>obtain q|⟨a,o,B,A,h⟩:=c;exact .inl<|cS.mono g _ q;exact h.elim
   .rw[if_neg x];by_cases N:i∈f
    .obtain z|z|z:=o2 i N
     .exact absurd z x
     .exact absurd z R
     .exact absurd z O
    .rw[if_neg N]at c;exact cS.mono g d c
end
section
variable {X:Cx}{m:Pos}
def qU(A I:!Nat)(f:DF):DF:=λρ=>(f<|Bc A I ρ).bind λd=>if qF d=Z' then Y d else M
set_option tactic.hygienic true in
def AI{f}(O A I)(h:PE X e<|tP X.K O f)(s:‹kU Z O A I=true›):PE X e<|tP X.K Z<|qU A I f:=h.imp <|by
 rintro J H Q ⟨G,ρ,d,j,n,a,k⟩;let(c,t,a):=aa.1 a;split at a
 .rename_i q;cases a;let(T,o,g):=n.W8 j s;refine(_,_,d,jA j,g,t,λv N L E r =>?_);let(u,p):=vo j (λb i=>(o b i).1) (λb i=>(o b i).2) E;exact k v _ L u<|FC p q r
 .cases a
def JZ(A I:!Nat)(f:DT):DT:=λρ=>f<|Bc A I ρ
def Lc{f}(O A I)(h:PT X e<|p' X.K O f)(n:‹kU Z O A I=true›):PT X e<|p' X.K Z<|JZ A I f:=h.imp <|by
 rintro J H Q ⟨G,ρ,d,g,i,o,k⟩;let(T,j,a):=i.W8 g n;refine(_,_,d,jA g,a,o,λN L E =>?_);let(p,q):=vo g (λb c=>(j b c).1) (λb c=>(j b c).2) E;exact k _ L p
def fTh(A I:!Nat)(f:DL):DL:=λρ=>(f<|Bc A I ρ).bind λd=>if pk d=Z' then Y d else M
set_option tactic.hygienic true in
def acm{f}(O A I)(h:PE X e<|tF X.K O f)(i:‹kU Z O A I=true›):PE X e<|tF X.K Z<|fTh A I f:=h.imp <|by
 rintro J H Q ⟨G,ρ,d,p,s,a,k⟩;unfold fTh at a;let(c,D,a):=aa.1 a;split at a
 .rename_i y;cases a;let(T,n,g):=s.W8 p i;refine(iB G H T,Bc A I ρ,d,jA p,g,D,λq u N L E t C B r =>?_);let(F,v):=vo p (λb j=>(n b j).1) (λb j=>(n b j).2) E;let x:q∉T:=λz=>by let(o,i,_):=(n q z).2;rw[t]at i;cases i
  exact k q u _ L F t (by rw[bK x];exact C) B<|wc v y r
 .cases a
noncomputable def Gq:Sk->Bool
 |.lf=>Z'|_=>Z_
def DC{s}(h:Gq s=Z'):s=.lf:=by cases s<;>first|rfl|cases h
def vp(i:Nat)(c f:aP):DF:=λρ=>(eV i ρ).bind λd=>match d with
 |.obj (.fs g e) (.ins a b ds)=>if (g=c/\a=c)/\Gq (cX e f)=Z' then (EM f b).bind λn=>ds[n]? else M
 |_=>M
set_option tactic.hygienic true
def adY{i}{c f}(h:PE X (.Name x p)<|g9 i)(j:sj X.K c f)(hi:‹i∈Z›)(hb:@&(bT (.Name x p) f X.env (eval (.Name x p) X.env)=eval (.Name x p) X.env)):PE X (.Attribute (.Name x p) f l)<|tP X.K Z<|vp i c f:=
 (qG h hb).imp <|by
  rintro J H Q ⟨G,ρ,d,q,y,e,k⟩;unfold vp at e;rw[aa]at e;let(o,z,e):=e;split at e
  .rename_i c' fk c'' E ds;split at e
   .rename_i U;obtain⟨⟨rfl,rfl⟩,hl⟩:=U;rcases g:EM f E with _|m
    .simp_all
    rw[g]at e;let(v,K,F):=y.get i _<|gC z;rw[if_pos hi]at F;obtain r|⟨a,o,rfl,e3,S,e4,e5⟩:=F
    .let(a,C,B,w,rfl,n,ha,b,R):=kH.mp<|m8.mp r;let(u,eu,P):=R.get e;exact(_,K,a,C,B,_,u,W,q _ _ ha,(j C n).1,(j C n).2,by rw[pA g];exact eu,k u G H (.refl q) P)
    .cases e4 with
     |@ins _ _ _ _ _ C B w S n ea b t=>
      let s:(E.map<|cX fk)[m]?=Y .lf:=by rw[aK,ve g,<- DC hl];exact Ÿ
      let(D,T1,U1,f1,T,_):=t.at s e;cases T with
      |leaf r=>exact(_,K,a,C,B,_,D,W,ea,(j C n).1,(j C n).2,by rw[pA g];exact f1,k D G H (.refl q) r)
   .cases e
  .cases e
end
def Kb(b:Bool)(j:Nat)(ρ:bL):↑(Nat×CN):=match b,eV j ρ with
 |false,Y (.obj _ _)=>Y (j,[])|true,Y (.dY r p)=>Y (r,p)|_,_=>M
def yH(r:Nat)(ρ:bL):↑(Sk×D):=match eV r ρ with|some (.obj s t)=>Y (s,t)|_=>M
set_option tactic.hygienic true in
theorem kO{s}(h:yH r ρ=Y (s,t)):ρ[r]?=Y (Y<|.obj s t):=by
 unfold yH at h;split at h
 .rename_i e;cases h;exact gC e
 .cases h
section
variable {K:aV}
set_option tactic.hygienic true in
def SR.Kb(S:SR K B Z G H J ρ)(h:Kb b j ρ=Y (r,p))(d:j∈Z)(u:b=Z'->ID j∈Z):r∈Z/\∃s t a f,ρ[r]?=Y (Y<|.obj s t)/\J[r]?=Y (Y<|.ref a)/\J[j]?=Y (Y f)/\dS H p (.ref a)=Y f:=by
 unfold L2.Kb at h;split at h
 .rename_i e;cases h;let e:=gC e;let(a,T,c,_):=S.tree d e;exact(d,_,_,a,_,e,c,c,W)
 .rename_i e;refine ae λkk =>?_
  cases h;let(k,C,q,o,y,w,n,i,g,x,v,z):=S.dY j r p d (u W)<|gC e;let(a,T,c,_):=S.tree k i;rw[c]at g;cases g;exact kk<|(k,q,o,a,n,i,c,x,v)
 .cases h
def zV(d:x∈T):a_ (dM H T)<|cU H x o:=λb u e=>by
 grind [ia,bK,aO]
def SR.YV{s}{f}{l}{d}{v:V}(S:SR K B Z G H J ρ)(Q:r∈Z)(R:ρ[r]?=Y (Y<|.obj s t))(w:kz p s=Y (.fs c fk))(ep:iR p t=Y (.ins c h l))(hf:Gq (cX fk f)=Z')(ha:f∉Hd)(rv:cS K G d v):
  ∃a x C k i,J[r]?=Y (Y<|.ref a)/\dS H p (.ref a)=Y (.ref x)/\uw K bc c=Y (Y<|.ref C)/\H x=Y (.ins C k<|h.zip i)/\h.length=i.length /\
   SR K B Z G (cU H x<|.ins C k<|lT f v<|h.zip i) J (ρ.set r<|Y<|.obj s<|jF (.ins c (iN f d h l).1 (iN f d h l).2) p t):=by
 refine ae λkk =>?_
 let(a,T,e1,o1,nd,P,F,Da,hF):=S.tree Q R;let(x,C,k,i,h1,X,h3,U,h5,h6,T',o2,u,n):=o1.put nd w ep (a_.refl G) (λm m m e=>e) (by rw[DC hf];exact Ÿ) Ÿ λb j=>by cases j
 refine kk<|(a,x,C,k,i,e1,h1,h3,U,h6,S.Xw Da hF Q R e1 (zV X,a_.refl _,λb o e =>?_,λb o e =>.inl e) o2 u (λb j =>?_) λq v' hq hv =>?_)
 .rw[aO<|λz=>by simp_all];exact S.gh b o e
 .simp_all
 .refine vi U a9 (λb j o e=>by rw[aO j];exact e) (λg hg =>?_) hv;let y:g≠f:=λz=>ha (z ▸ hq g hg)
  rw[qK,if_neg y]
def SR.Zn{s}{X}(S:SR K B Z G H J ρ)(hr:r∈Z)(hd:ρ[r]?=Y (Y<|.obj s t))(w:kz p s=Y u)(ep:iR p t=Y X):
  ∃a x i,J[r]?=Y (Y<|.ref a)/\dS H p (.ref a)=Y x/\cm K G H u X x i/\i.Nodup/\(∀b∈i,G b=M) /\
   ∀(g:D) (f:!aH) (N L:Hp),fT G (dM H i) N L->cm K N L u g x f->f.Nodup->(∀b∈f,N b=M/\(b∈i\/H b=M))->dS L p (.ref a)=Y x/\SR K B Z N L J ((c4 r ρ).set r<|Y<|.obj s<|jF g p t):=by
 let(a,T,e1,C,nd,nf,F,Da,hF):=S.tree hr hd;let(x,i,U,h1,o2,v,k1):=C.focus w ep;let k:=v.nodup_iff.mp nd;rw[bM]at k;let(n1,n2,n3):=k;have h:∀b∈i,b∈T:=λb d=>v.symm.subset<|aS _ d
 have n:∀b∈U,b∈T:=λb d=>v.symm.subset<|aE _ d
 let R:=λb d Q=>n3 b Q b d W
 refine(a,x,i,e1,h1,o2,n1,λb d=>(nf b<|h b d).1,λg f N L E nw l j =>?_);let(gv,T',o3,p3):=k1 N L g f E.gg (λb d o e=>E.hh b o<|by rw[bK<|R b d];exact e) nw;refine(gv,?_);refine S.Eg Da hF hr hd e1 (λb o e =>?_,E.gg,E.gh,λb o e =>?_) o3 ?_ λb d =>?_
 .by_cases d:b∈T
  .rw[ia d]at e;cases e
  .rw[bK d]at e;exact E.hh b o (by rw[bK<|λz=>d<|h b z];exact e)
 .obtain z|z:=E.fr b o e
  .exact .inl z
  .refine .inr ?_;by_cases d:b∈T
   .rw[ia d]
   .rw[bK d];rw[bK<|λz=>d<|h b z]at z;exact z
 .rw[p3.nodup_iff,bM];refine(l,n2,λb d c hc z =>?_);subst z;rcases(j b d).2 with z|z
  .exact R b hc z
  .let(o,P,_):=C.here b<|n b hc;rw[P]at z;cases z
 .obtain q|q:=aD.mp (p3.subset d)
  .refine((j b q).1,?_);rcases(j b q).2 with z|z<;>simp_all
  .refine(?_,.inl<|n b q);rcases z:N b with _|o
   .rfl
   obtain y|y:=E.fr b o z
   .rw[(nf b<|n b q).1]at y;cases y
   .let(o,P,_):=C.here b<|n b q;rw[bK<|R b q,P]at y;cases y
end
mutual
noncomputable def Sk.SE:Sk->Sk->Bool
 |.lf,.lf=>Z'|.li s,.li t=>Sk.SE s t|.fs c k,.fs d l=>decide (c=d)&&Sk.YZ k l|.di,.di=>Z'|_,_=>Z_
noncomputable def Sk.YZ:!(aP×Sk)->!(aP×Sk)->Bool
 |[],[]=>Z'|(c,s)::k,(d,t)::l=>decide (c=d)&&(Sk.SE s t&&Sk.YZ k l)|_,_=>Z_
end
mutual
theorem Sk.qS:∀ {s t:Sk},Sk.SE s t=Z'->s=t
 |.li s,t,h=>by cases t with|li t=>exact congrArg Sk.li (Sk.qS h)|_=>cases h
 | .fs c k,t,h=>by
  cases t with
  |fs d l=>let(a,b):=yb.mp h;rw[of_decide_eq_true a,Sk.K8 b]
  |_=>cases h
 |.lf,t,h|.di,t,h=>by cases t<;>first|rfl|cases h
theorem Sk.K8:∀ {k l:!(aP×Sk)},Sk.YZ k l=Z'->k=l
 |[],l,h=>by cases l<;>first|rfl|cases h
 | (c,s)::k,l,h=>by
  cases l with
  |nil=>cases h|cons d l=>let(a,b):=yb.mp h;let(x,y):=yb.mp b;rw[Sk.K8 y,Sk.qS x,of_decide_eq_true a]
end
def Bx(c:aP)(s:Sk)(t:D)(p:CN):↑(!(aP×Sk)×!aP×!D):=match kz p s,iR p t with
 |some (.fs f d),Y (.ins a b e)=>if f=c/\a=c then Y (d,b,e) else M
 |_,_=>M
def wF{s}(h:Bx c s t p=Y (b,a,d)):kz p s=Y (.fs c b)/\iR p t=Y (.ins c a d):=by
 unfold Bx at h;split at h<;>simp_all
section
variable {X:Cx}
def fm(b:Bool)(j:Nat)(c f:aP)(h:DF):DG:=λa=>(h a).bind λd=>(Kb b j a).bind λq=>(yH q.1 a).bind λe=>(Bx c e.1 e.2 q.2).bind λz=>
 if Gq (cX z.1 f)=Z'/\z.2.1.length<999 then Y (.nx<|a.set q.1<|Y<|.obj e.1<|jF (.ins c (iN f d z.2.1 z.2.2).1 (iN f d z.2.1 z.2.2).2) q.2 e.2) else M
set_option tactic.hygienic true in
def Vm{b}{c f}(h:PE X (.Name x p)<|g9 j)(he:PE X e<|tP X.K Z y)(w:sj X.K c f)(hj:‹j∈Z›)(hb:‹b=Z'->ID j∈Z›)(ha:‹f∉Hd›)(hs:@&(cg e (Y<|.Attribute (.Name x p) f A) g.line X.env=c9 false)):PS X (.Assign [.Attribute (.Name x p) f A] e g)<|gO X.K B I Z Z<|fm b j c f y:=(Dh h he hs).imp <|by
 rintro D σ H ⟨G,q,o,S,i,k⟩;let(d,ef,i):=aa.1 i;rcases l:Kb b j q with _|⟨r,T⟩
 .simp[l]at i
 rcases n:yH r q with _|⟨s,t⟩
 .simp[l,n]at i
 rcases u:Bx c s t T with _|⟨fk,ks,ds⟩
 .simp[l,n,u]at i
 simp only[l,n,u,aw]at i;split at i
 .rename_i hz;cases i;let(i1,U):=wF u;refine(G,q,d,S.gh,S.i6,ef,λv G' H' E R =>?_);let P:=S.ext E;refine ae λkk =>?_
  let(hr,s',t',a,v',J,e2,e3,e4):=P.Kb l hj hb;let m:=kO n;rw[m]at J;let(a',Q,C,dx,vs,K,F,z,f4,f5,f6):=P.YV hr m i1 U hz.1 ha R;rw[e2]at K;cases K;rw[e4]at F;cases F;refine kk<|(_,e3,Q,C,dx,_,W,f4,(w C z).1,(w C z).2,?_,k _ G' _ f6);rw[uE f5];lia
 .cases i
def iA(b:Bool)(j:Nat)(c f:aP)(h:Int->Int->Int)(i:DF):DG:=λa=>(i a).bind λd=>(Kb b j a).bind λq=>(yH q.1 a).bind λe=>(Bx c e.1 e.2 q.2).bind λz=>match (z.2.1.zip z.2.2).lookup f,d with
 |some (.int m),.int n=>if Gq (cX z.1 f)=Z'/\z.2.1.length<999 then Y (.nx<|a.set q.1<|Y<|.obj e.1<|jF (.ins c (iN f (.int<|h m n) z.2.1 z.2.2).1 (iN f (.int<|h m n) z.2.1 z.2.2).2) q.2 e.2) else M
 |_,_=>M
theorem xa{f}:∀ {ks:!aP}{ds:!D}{u:D},(ks.zip ds).lookup f=Y u->∃m,EM f ks=Y m/\ds[m]?=Y u
 |[],a,u,h=>by simp at h
 |k::ks,[],u,h=>by simp at h
 | k::ks,v::a,u,h=>by
  simp only[dF,eO]at h;cases e:f==k with
  |true=>rw[e]at h;cases h;exact(0,by simp[EM,e],W)
  |false=>
   rw[e]at h;let(m,c,b):=xa h
   simp_all [EM]
theorem SR.afD{K}{o}{s}{f}{v}(S:SR K B Z G H k o)(Q:r∈Z)(hd:o[r]?=Y (Y<|.obj s t))(J:kz q s=Y (.fs c h))(ep:iR q t=Y (.ins c b v))(X:Gq (cX h f)=Z')(R:(b.zip v).lookup f=Y d):
  ∃a x C j e u,k[r]?=Y (Y<|.ref a)/\dS H q (.ref a)=Y (.ref x)/\uw K bc c=Y (Y<|.ref C)/\H x=Y (.ins C j<|b.zip e)/\(b.zip e).lookup f=Y u/\cS K G d u:=by
 refine ae λkk =>?_
 let(a,T,e1,P,_):=S.tree Q hd;let(x,T1,U,h1,g,_):=P.focus J ep;refine kk ?_;cases g with
 |@ins _ _ _ _ w C j e S0 n ex l z=>
  let(m,p,e2):=xa R;let i:(b.map<|cX h)[m]?=Y .lf:=by rw[aK,ve p,<- DC X];exact Ÿ
  let(y,T1,U1,f1,E,_):=z.at i e2;cases E with
  |leaf r=>exact(a,w,C,j,e,y,e1,h1,n,ex,by rw[pA p];exact f1,r)
set_option tactic.hygienic true in
def AF{b:Bool}{c f}{op}{o}(y:NJ X o<|Xy op)(h:PE X (.Name x p)<|g9 j)(he:PE X e<|tP X.K Z fe)(hc:sj X.K c f)(hj:‹j∈Z›)(hb:‹b=Z'->ID j∈Z›)(ha:‹f∉Hd›):
  PS X (.AugAssign (.Attribute (.Name x p) f A) o e g) (gO X.K B I Z Z<|iA b j c f op fe):=(Ms h he y).imp <|by
 rintro D σ H ⟨G,w,o,S,i,k⟩;let(d,ef,i):=aa.1 i;rcases q:Kb b j w with _|⟨r,pt⟩
 .simp[q]at i
 rcases u:yH r w with _|⟨s,t⟩
 .simp[q,u]at i
 rcases K:Bx c s t pt with _|⟨fk,ks,ds⟩
 .simp[q,u,K]at i
 simp only[q,u,K,aw]at i;split at i
 .rename_i m n z;split at i
  .rename_i T;cases i;let(R,Q):=wF K;let(U,s',t',a,v',e1,e2,e3,e4):=S.Kb q hj hb;let l:=kO u;let(a1,x1,P,J,vs1,u1,g1,g2,F,g4,g5,g6):=S.afD U l R Q T.1 z;rw[e2]at g1;cases g1;rw[e4]at g2;cases g2;cases b8.mp g6;refine(_,e3,x1,P,J,_,_,W,g4,(hc P F).1,(hc P F).2,g5,G,w,_,S.gh,S.i6,ef,λv G' H' E r =>?_);refine ae λkk =>?_
   cases b8.mp r;let(a',x',C,dx,vs,f1,f2,f3,f4,f5,f6):=(S.ext E).YV U l R Q T.1 ha<|b8.mpr W;rw[e2]at f1;cases f1;rw[iQ E.hh e4]at f2;cases f2;rw[F]at f3;cases f3;refine kk<|(_,_,W,W,dx,_,f4,?_,k _ G' _ f6);rw[uE f5];lia
  .cases i
 .cases i
inductive HX (K:aV) (Z:!Nat) (s:Sk) (f:DF) (i:St) (H:Hp) (Q:VK):Prop
 |mk G h d:a_ G H->ja K Z G H i h->f h=some d->(∀v a e c,fT G H e c->cm K e c s d v a->a.Nodup->(∀b∈a,e b=none/\H b=none)->Q v c)->HX K Z s f i H Q
abbrev FM:=eK<|.lst []
def Zi{s}:PE X (.List [] g)<|HX X.K Z (.li s) FM:=(RA qY).imp <|by
 rintro o H Q ⟨G,f,d,j,a,l,k⟩;cases l;refine(G,f,[],j,a,W,λq p n m E i h e r =>?_);rw[cx.mp r]at e;exact k _ [q] n m E (.lst e .nil) ż λb c=>by simp_all
def afY:PE X (.Dict [] [] g)<|HX X.K Z .di<|eK<|.i9 [] []:=Pf.imp <|by
 rintro i H Q ⟨G,j,d,e,h,f,k⟩;cases f;exact λq a=>k _ [q] G _ (fT.lay e a) (.i9 a9 W .nil) ż λb c=>by simp at c;subst c;exact(e.free a,a)
noncomputable def Rj(c:aP)(f:DF):DF:=λb=>(f b).bind λd=>match d with|.ins a e h=>if a=c then Y (.ins a e h) else M|_=>M
set_option tactic.hygienic true in
def Vu{c}{f}(h:PE X e<|tFC X.K Z f):PE X e<|HX X.K Z (.fs c [])<|Rj c f:=h.imp <|by
 rintro x H Q ⟨G,l,d,t,i,a,k⟩;let(y,u,a):=aa.1 a;split at a
 .split at a
  .rename_i m;cases a;subst m;exact(G,l,_,t,i,u,λq o w v E s p n r=>k _ [q] w v E (zh.mpr ((o,n,r),W)) ż λb j=>Ż)
  .cases a
 .cases a
noncomputable def Y3(f:DF):DF:=λa=>(f a).map λd =>.lst [d]
def Zh{s}{f}(h:PE X e<|HX X.K Z s f)(x:@&(ak (e::[]) X.env=(Z_,eval e X.env)::ak [] X.env)):PE X (.List [e] g)<|HX X.K Z (.li s)<|Y3 f:=(zg<|cA h dH x).imp <|by
 rintro F H Q ⟨G,t,d,B,m,i,k⟩;let(y,C,i):=aj.1 i;cases i;refine(G,t,y,B,m,C,λv r D K E n w u=>(by simp;exact bB ż vb,λq c =>?_));have a:q∉r:=λz=>by let(o,p,_):=n.here q z;lia
 refine k _ _ D _ (E.trans<|fT.lay E.gh c) (.lst a9<|.cons (n.mono (a_.refl _) λb l o e =>?_) .nil) ?_ λb l =>?_
 .grind [aO]
 .simp[a,w]
 .obtain z|z:=aG.mp l
  .subst z;exact(E.gh.free c,E.hh.free c)
  simp_all
def Ze{s}{f}(h:PE X e<|HX X.K Z s f):PE X e<|tP X.K Z f:=h.imp <|by
 rintro t H Q ⟨G,m,d,p,i,q,k⟩;refine(G,m,d,p,i,q,λv j r l E n u c=>k v (iB r l j) l (E.hh,E.gg.trans<|ku λb a=>(c b a).1,jA E.gh,λb o e =>?_)<|n.frozen (λb a=>(c b a).1) λb a=>a);by_cases a:b∈j
 .exact .inr (c b a).2
 .rw[jP a]at e;exact E.fr b o e
noncomputable def y9(i:Nat)(s:Sk)(f:DF):DG:=λa=>(f a).map λd =>.nx<|a.set i<|Y<|.obj s d
def SR.Xq{K}{m}{s}(S:SR K B Z G H t m)(C:i∈Z)(E:fT G H l n)(v:cm K l n s d (.ref a) k)(x:k.Nodup)(u:∀b∈k,l b=M/\H b=M)(c:∀a,(i,a)∉B.3)(y:Br i∉Z\/∀d,m[i]? ≠ Y (Y d)):SR K B Z l n (t.set i<|Y<|.ref a)<|m.set i<|Y<|.obj s d:=by
 let(F,Da):=S.ow;exact S.chg (F0:=[]) Da C (λb f=>by cases f) E.gg E.gh λb o e=>by obtain z|z:=E.fr b o e<;>simp_all (λb o r e=>E.hh b o e)
  v x (λb f=>((u b f).1,.inr (u b f).2)) (λb h=>absurd h<|c b) (λr p z=>by cases z) λj q P g r e=>by
   let(_,R,s0,U,X,w,T,Q,_):=S.dY j i q P g e
   simp_all
def Ld{i:Nat}{s:Sk}{f:DF}(C:X.N.Nodup)(u:X.N[i]?=Y x)(p:Loc X.env.scope x)(y:PE X e<|HX X.K Z s f)(r:‹i∈Z›)(c:autoParam (∀a,(i,a)∉B.3) ť)(t:‹Br i∉Z›)(b:@&(Gq s=false))(q:@&(cg e (Y<|.Name x A) g.line X.env=c9 false))(w:autoParam (X.fn x=Z'\/X.env.scope.names.lookup x=Y .local) ŧ):
  PS X (.Assign [.Name x A] e g) (gO X.K B I Z Z<|y9 i s f):=(km C u p y q w).imp <|by
 rintro D P H ⟨G,l,o,S,h,k⟩;unfold y9 at h;let(d,F,h):=aj.1 h;cases h;refine(G,l,d,S.gh,S.i6,F,λv Q J K E j n m =>?_);let(a,rfl):=j.isRef (λz=>by rw[z]at b;cases b);exact k _ J K<|S.Xq r E j n m c<|.inl t
def qE(j:Nat)(c f:aP)(l:Sk)(m:DF):DG:=λa=>(m a).bind λd=>(yH j a).bind λh=>match h.1,h.2 with
 |.fs n i,.ins e b k=>if (n=c/\e=c)/\Sk.SE (cX i f) l=Z'/\b.length<999 then Y (.nx<|(c4 j a).set j<|Y<|.obj (.fs c i)<|.ins c (iN f d b k).1 (iN f d b k).2) else M
 |_,_=>M
def SR.TN{K}{v g}{X}{f}(S:SR K B Z G H X ρ)(hr:r∈Z)(hd:ρ[r]?=Y (Y<|.obj (.fs c fk)<|.ins c n U))(E:fT G H v g)(o1:cm K v g (cX fk f) d u S1)(nd1:S1.Nodup)(m:∀b∈S1,v b=M/\H b=M):
  ∃x C Q w,X[r]?=Y (Y<|.ref x)/\uw K bc c=Y (Y<|.ref C)/\g x=Y (.ins C Q<|n.zip w)/\n.length=w.length /\
   SR K B Z v (cU g x<|.ins C Q<|lT f u<|n.zip w) X ((c4 r ρ).set r<|Y<|.obj (.fs c fk)<|.ins c (iN f d n U).1 (iN f d n U).2):=by
 refine ae λkk =>?_
 let(a,T,e1,ot,nd,nf,F,Da,hF):=S.tree hr hd;let inH:∀b∈T,∃o,H b=Y o:=λb l=>by let(o,s,_):=ot.here b l;exact(o,s)
 let dj:∀b∈S1,b∉T:=λb l Z8=>by let(o,s):=inH b Z8;rw[(m b l).2]at s;cases s
 let(x,C,Q,w,h1,h2,h3,h4,h5,h6,T',o2,nd2,sub):=ot.put (p:=[]) (f:=f) nd W W E.gg (λb q o e=>E.hh b o e) o1 nd1 dj;cases h1;let hu:=jx (r:=r) hd (λq z=>by cases z);let S':=(S.ext E).L9 (r:=r);let Wx:=Da.ext E;let W':oS K B Z v g X (c4 r ρ) F:=(λi d P e=>Wx.it i d P (bH e).1,λi d P e=>Wx.ok i d P (bH e).1,λi j d c P hj ei ej=>Wx.ap i j d c P hj (bH ei).1 (bH ej).1);have gT:∀b∈T,v b=none:=λb l=>by rw[<- hF]at l;exact((Wx.ok r _ hr hd).2 b l).1
 let R:=S'.Jw (i:=r) (a:=a) (d' :=.obj (.fs c fk) _) (F0:=T) (S':=T') (G':=v) W' hr (λb l=>(by rw[hF];exact l,_,hu)) (a_.refl _) (λb o e=>by
   let t:b≠a:=λz=>by rw[z,gT a h2]at e;cases e
   rw[aO t];exact E.gh b o e) (λb o e =>.inl e) (λb o l e=>by
   let t:b≠a:=λz=>l (z ▸ h2)
   rw[aO t];exact e) o2 nd2 (λb l=>by
   obtain z|z:=sub b l
   .exact(gT b z,.inl z)
   .refine((m b z).1,.inr<|.inr (S.h0.free (m b z).2,λk c hk ek YJ hbk =>?_));let(y,f1,f2):=Da.it k c hk (bH ek).1;let(o,s):=f2.here b hbk;rw[(m b z).2]at s;cases s) (λb h=>by have:=(S.pin r b h).2;simp_all) (λr p z=>by cases z)
  (λj p q q q e=>absurd W<|(bH e).2 p)
 let R:=R.1;rw[eY e1]at R;exact kk<|(a,C,Q,w,e1,h3,E.hh _ _ h4,h6,R)
set_option tactic.hygienic true
def Rp{c f}{s1:Sk}(h:PE X (.Name x p)<|g9 j)(P:PE X e<|HX X.K Z s1 q)(n:sj X.K c f)(J:‹j∈Z›)(K:@&(cg e (Y<|.Attribute (.Name x p) f A) g.line X.env=c9 false)):PS X (.Assign [.Attribute (.Name x p) f A] e g)<|gO X.K B I Z Z<|qE j c f s1 q:=(Dh h P K).imp <|by
 rintro D σ H ⟨G,l,o,S,a,k⟩;let(d,ef,a):=aa.1 a;rcases i:yH j l with _|⟨s,t⟩
 .simp[i]at a
 simp only[i,aw]at a;split at a
 .split at a
  .rename_i F;obtain⟨⟨rfl,rfl⟩,b,z⟩:=F;cases a;refine(G,l,d,S.gh,S.i6,ef,λv S1 G' H' E m y w =>?_);rw[<- Sk.qS b]at m;let(u,C,dx,vs,f1,r,U,T,R):=S.TN J (kO i) E m y w;refine(_,f1,u,C,dx,_,W,U,(n C r).1,(n C r).2,?_,k _ G' _ R);rw[uE T];omega
  .cases a
 .cases a
end
def vY(c f:aP)(j:Nat)(A:bL):↑(!(aP×Sk)×!aP×!D×D):=(yH j A).bind λb=>match b.1,b.2 with
 |.fs k i,.ins a d e=>if k=c/\a=c then (EM f d).bind λn=>(e[n]?).map λh=>(i,d,e,h) else M
 |_,_=>M
set_option tactic.hygienic true in
def n7{f}{m}(h:vY c f j A=Y (a,e,m,o)):A[j]?=Y (Y<|.obj (.fs c a)<|.ins c e m)/\kz [.fld f] (.fs c a)=Y (cX a f)/\iR [.fld f] (.ins c e m)=Y o:=by
 unfold vY at h;rcases i:yH j A with _|⟨s,t⟩
 .simp_all
 rw[i]at h;simp at h;split at h
 .rename_i u q r d l;split at h
  .rename_i p;let(rfl,rfl):=p;rcases b:EM f d with _|n
   .simp[b]at h
   rcases k:l[n]? with _|y
   .simp_all
   simp only[b,k,aw,cE,jk,Bd]at h;let(rfl,rfl,rfl,rfl):=h;exact(kO i,W,by simp[iR,b,k])
  .cases h
 .cases h
abbrev Dg(c f:aP)(b:!(aP×Sk))(a:!aP)(d:!D)(x:D):D :=.obj (.fs c b)<|jF x [.fld f]<|.ins c a d
section
variable {K:aV}
theorem SR.Nb{f}{s}{v}(S:SR K B Z G H J A)(p:r∈Z)(q:A[r]?=Y (Y<|.obj (.fs c s)<|.ins c e v))(t:J[r]?=Y (Y<|.ref a))(b:dS H [.fld f] (.ref a)=Y x):
  ∃C d h,uw K bc c=Y (Y<|.ref C)/\H a=Y (.ins C d h)/\h.lookup f=Y x:=by
 refine ae λkk =>?_
 let(y,T,k,o,_):=S.tree p q;rw[t]at k;cases k;refine kk ?_;cases o with
 |@ins _ _ _ _ _ C d m z n i l w=>refine(C,d,_,n,i,?_);simp only[dS,i]at b;let(u,j,b):=aa.1 b;rw[j,b]
def SR.yE{p}{s}(S:SR K B Z G H J A)(E:r∈Z)(F:A[r]?=Y (Y<|.obj s t))(g:kz p s=Y j)(I:iR p t=Y n):
  ∃a x f,J[r]?=Y (Y<|.ref a)/\dS H p (.ref a)=Y x/\cm K G H j n x f/\f.Nodup /\
   ∀(l:aH) (o:HO) (d:D) (c:!aH),l∈f->cm K G (cU H l o) j d x c->c.Nodup->(∀b∈c,b∈f)->SR K B Z G (cU H l o) J ((c4 r A).set r<|Y<|.obj s<|jF d p t):=by
 let(a,x,f,R,P,w,C,q,k):=S.Zn E F g I;refine(a,x,f,R,P,w,C,λl o d c v y m h=>(k d c G _ (zV v,a_.refl _,λb u e =>?_,λb u e =>.inl e) y m λb i=>(q b<|h b i,.inl<|h b i)).2);rw[aO λz=>by simp_all];exact S.gh b u e
end
section
variable {X:Cx}
def We(j:Nat)(c f:aP)(b:DF):DG:=λA=>(vY c f j A).bind λq=>(b A).bind λd=>match q.2.2.2 with
 |.lst a=>if Sk.SE (cX q.1 f) (.li .lf)=Z'/\a.length<dQ then Y (.nx<|(c4 j A).set j<|Y<|Dg c f q.1 q.2.1 q.2.2.1<|.lst<|a++[d]) else M
 |_=>M
set_option tactic.hygienic true in
def adR{c f:aP}(h:PE X (.Name x p)<|g9 j)(he:PE X e<|tP X.K Z fe)(hc:sj X.K c f)(hj:‹j∈Z›)(YL:@&(bT (.Name x p) f X.env (eval (.Name x p) X.env)=eval (.Name x p) X.env))(s:@&(bT (.Attribute (.Name x p) f I) "append" X.env (eval (.Attribute (.Name x p) f I) X.env)=eval (.Attribute (.Name x p) f I) X.env)) (u:@&(((cB N<|ak (e::[]) X.env).all (λx=> (not x.1))&&(fY N<|cV [] X.env).all (λx=>x.1.isSome)
   && decide ((e::[]).length+([]:!j8).length+(if ([]:!j8).isEmpty then 0 else 1)<30))=true)) (q:@&((U.endLine==N.line)=true)) (hs:@&(ak (e::[]) X.env=(Z_,eval e X.env)::ak [] X.env)) (m:@&((cB N<|ak [] X.env).any (·.1)=false)) (hsw:@&(cg (.Call (.Attribute (.Attribute (.Name x p) f I) "append" U) [e] [] N) M L.line X.env=c9 false)) :
  PS X (.Expr (.Call (.Attribute (.Attribute (.Name x p) f I) "append" U) [e] [] N) L) (gO X.K B Q Z Z<|We j c f fe):=
 (jO (uX dg PySem.F.slot_list_append PySem.F.type_list_append iO (qG h YL) (cA he dH hs) s u q hs m) hsw).imp <|by
  rintro D J H ⟨G,A,o,S,i,k⟩;obtain⟨⟨fk,ks,ds,t1⟩,et,i⟩:=aa.1 i;rcases ef:fe A with _|d
  .simp[ef]at i
  simp only[ef,aw]at i;split at i
  .split at i
   .rename_i hz;refine ae λkk =>?_
    cases i;let(hd,i1,i2):=n7 et;rw[Sk.qS hz.1]at i1;let(a,y,T1,e1,e2,o1,_):=S.yE hj hd i1 i2;let(C,dx,fs,n,f1,f2):=S.Nb hj hd e1 e2;refine kk ?_;cases o1 with
    |@lst _ _ l vs S0 hl tt=>
     refine(_,e1,a,C,dx,fs,_,W,f1,(hc C n).1,(hc C n).2,f2,.inl (W,vs,.of hl),G,A,d,S.gh,S.i6,ef,λv G' H' E r =>?_);refine ae λkk =>?_
     let(a',y',T1',F,w,g,R,k'):=(S.ext E).yE hj hd i1 i2;rw[e1]at F;cases F;rw[iQ E.hh e2]at w;cases w;let(x',K,g1,g2,g3,g4,T2,o2,P,t):=g.app (p:=[]) R W W (a_.refl _) (λO O O z=>z) (.leaf r) Ÿ λb hb=>by cases hb
     cases g1;refine kk<|(l,K,v,W,W,g3,?_,k _ G' _<|k' l _ _ T2 g2 o2 P λb hb =>?_)
     .rw[<- g4];exact bo hz.2 eQ
     .obtain z|z:=t b hb<;>trivial
   .cases i
  .cases i
noncomputable def lD(k:ju)(d:D)(a:!ju)(b:!D):!ju×!D:=if (a.any λq=>decide (q=k))=Z' then (a,vI (λq x=>if q=k then d else x) a b) else (a++[k],b++[d])
theorem LB:∀ {ks:!ju}{a:!V},ks.length=a.length->((ks.zip a).any λb=>decide (b.1=k))=ks.any λq=>decide (q=k)
 |[],a,h=>by simp
 |q::ks,[],h=>by simp at h
 |q::ks,v::a,h=>by simp;rw[LB<|by simp_all]
theorem Km{v}:∀ {ks:!ju}{a:!V},(ks.zip a).map (λb=>if b.1=k then (b.1,v) else b)=ks.zip (vI (λq x=>if q=k then v else x) ks a)
 |[],a=>by trivial
 |q::ks,[]=>by trivial
 | q::ks,u::a=>by
  simp only[dF,bg,VX,Km]
  lia
theorem uS{K}{v}(r:cS K G d v):∀ {b:!ju}{e:!D}{a:!V},aZ K G e a->aZ K G (vI (λq x=>if q=k then d else x) b e) (vI (λq x=>if q=k then v else x) b a)
 |[],e,a,h=>by solve_by_elim
 |q::b,[],a,h=>by rw[cx.mp h];exact Ÿ
 | q::b,x::e,a,h=>by
  let(u,j,rfl,i,f):=aW.mp h;refine .cons ?_<|uS r f
  lia
def Vv{K}{k}{v}{f:!V}(r:cS K G d v)(j:a.length=b.length)(i:aZ K G b f):∃c,w6 (a.zip f) k v=(lD k d a b).1.zip c/\(lD k d a b).1.length=(lD k d a b).2.length/\aZ K G (lD k d a b).2 c:=by
 have e:a.length=f.length:=by rw[j,i.length]
 unfold w6 lD;rw[LB e];by_cases h:(a.any λq=>decide (q=k))=Z'
 .rw[if_pos h,if_pos h];exact(_,Km,by simp[j],uS r i)
 .rw[if_neg h,if_neg h];refine(_,?_,by simp[j],i.append<|.cons r .nil);rw[List.zip_append e];rfl
def y_(j:Nat)(c f:aP)(e:DF)(h:DM):DG:=λA=>(h A).bind λw=>(vY c f j w.2).bind λq=>(e w.2).bind λy=>(DA y).bind λb=>match q.2.2.2 with
 |.i9 a d=>if Sk.SE (cX q.1 f) .di=Z'/\a.length<dQ then Y (.nx<|(c4 j w.2).set j<|Y<|Dg c f q.1 q.2.1 q.2.2.1<|.i9 (lD b w.1 a d).1 (lD b w.1 a d).2) else M
 |_=>M
set_option tactic.hygienic true in
def GP{c f:aP}(P:X.A.units+1<qf)(h:PE X (.Name x p)<|g9 j)(hi:PE X i<|tP X.K Z fk)(he:PE X e<|tM X.K B Z fe)(hc:sj X.K c f)(R:‹j∈Z›)(YL:@&(bT (.Name x p) f X.env (eval (.Name x p) X.env)=eval (.Name x p) X.env))(hs:@&(cg e (Y<|.Subscript (.Attribute (.Name x p) f I) i O) L.line X.env=c9 false)):
  PS X (.Assign [.Subscript (.Attribute (.Name x p) f I) i O] e L) (gO X.K B Q Z Z<|y_ j c f fk fe):=(TV P (qG h YL) hi he hs).imp <|by
 rintro D J H ⟨G,A,o,S,b,k⟩;obtain⟨⟨d,l⟩,ef,b⟩:=aa.1 b;obtain⟨⟨fk',ks0,ds0,t1⟩,et,b⟩:=aa.1 b;rcases w:fk l with _|y
 .simp[w]at b
 rcases m:DA y with _|ky
 .simp[w,m]at b
 simp only[w,m,aw]at b;split at b
 .split at b
  .rename_i hz;cases b;let(hd,g,i2):=n7 et;rw[Sk.qS hz.1]at g;refine(G,A,d,l,S,ef,λv G1 H1 t s1 rv =>?_);let(a,y',T1,e1,e2,_):=t.yE R hd g i2;let(C,dx,fs,n,f1,f2):=t.Nb R hd e1 e2;refine(_,e1,a,C,dx,fs,_,W,f1,(hc C n).1,(hc C n).2,f2,G1,l,y,t.gh,t.i6,w,λu G2 H2 E2 ru =>?_);let P:=vc m (.inl ru:i_ X.K G2 H2 y u);refine ae λkk =>?_
   let(a',y2,T2,s,r,o2,K,k2):=(t.ext E2).yE R hd g i2;rw[e1]at s;cases s;rw[iQ E2.hh e2]at r;cases r;let(x',vs,g1,g2,g3,g4,g5,g6):=o2.dput (p:=[]) K W W (a_.refl _) λv v v z=>z
   cases g1;let(E,z1,z2,z3):=Vv (cS.mono E2.gg d rv) g4 g5;let(T3,o3,F,q):=g6 _ _ E z2 z3;refine kk<|(x',_,W,?_,k _ G2 _<|k2 x' _ _ T3 g2 o3 F q);rw[P,<- z1];refine R_.k g3 ?_;rw[List.length_zip,g4,g5.length,VV,<- g5.length,<- g4];exact bo hz.2 eQ
  .cases b
 .cases b
def sF(i j:Nat)(c f:aP)(b:DF):DG:=λA=>(vY c f j A).bind λq=>(b A).bind λy=>match cX q.1 f,q.2.2.2,y with
 |.li (.fs _ _),.lst a,.int n=>(xU a.length n).map λk =>.nx<|A.set i<|Y<|.dY j [.fld f,.ix k]
 |_,_,_=>M
set_option tactic.hygienic true
def adS{i:Nat}{c f:aP}{b:Expr}(hN:X.N.Nodup)(hy:X.N[i]?=Y y)(hly:Loc X.env.scope y)(h:PE X (.Name x p)<|g9 j)(he:PE X b<|tP X.K Z fe)(hc:sj X.K c f)(N:‹j∈Z›)(hj2:‹Br j∈Z›)(hi:‹i∈Z›)(hi2:‹Br i∉Z›)(hij:‹j≠i›)(s:autoParam (∀a,(i,a)∉B.3) ť)(hal:‹f∈Hd›)(YL:@&(bT (.Name x p) f X.env (eval (.Name x p) X.env)=eval (.Name x p) X.env))(hpi:autoParam (yr b) Š)(hs:@&(cg (.Subscript (.Attribute (.Name x p) f I) b q) (Y<|.Name y O) L.line X.env=c9 false))(hf:autoParam (X.fn y=Z'\/X.env.scope.names.lookup y=Y .local) ŧ):
  PS X (.Assign [.Name y O] (.Subscript (.Attribute (.Name x p) f I) b q) L) (gO X.K B Q Z Z<|sF i j c f fe):=(km hN hy hly (oA rO (qG h YL) he hpi) hs hf).imp <|by
 rintro D J H ⟨G,A,o,S,e,k⟩;obtain⟨⟨fk,ks,ds,t1⟩,et,e⟩:=aa.1 e;rcases ef:fe A with _|d
 .simp[ef]at e
 simp only[ef,aw]at e;split at e
 .rename_i c2 t xs n w;rcases R:xU xs.length n with _|m
  .rw[R]at e;cases e
  rw[R]at e;cases e;let(P,i1,i2):=n7 et;rw[w]at i1;let(a,y',T1,e1,e2,_):=S.yE N P i1 i2;let(C,dx,fs,nn,f1,f2):=S.Nb N P e1 e2;refine(_,e1,a,C,dx,fs,_,W,f1,(hc C nn).1,(hc C nn).2,f2,G,A,_,S.gh,S.i6,ef,λv G' H' E r =>?_);cases b8.mp r;let S':=S.ext E;let(a',y2,T2,K,F,o2,_):=S'.yE N P i1 i2;rw[e1]at K;cases K;rw[iQ E.hh e2]at F;cases F;cases o2 with
  |@lst _ _ l vs S0 hl tt=>
   have hm:=(DB R).2.1;let(v1,T3,U3,g1,g2,_):=tt.at (s :=.fs c2 t) (by simp[hm]) (ai hm);let(b',o',rfl,_):=g2.root (λz=>by cases z);refine(l,vs,n,.ref b',W,W,.of hl,?_,k _ G' H' ?_)
   .unfold qa;rw[<- tt.length.1,R];exact g1
   .refine S'.Xr N hj2 hi hij hi2 s P e1 (s' :=.fs c2 t) ?_ ?_ λg hg =>?_
    .have:=iQ E.hh e2;simp only[dS]at this ⊢;rcases ea:H' a with _|ob
     .rw[ea]at this;cases this
     rw[ea]at this;cases ob<;>simp only at this ⊢<;>try (cases this;done)
     let(u,el,this):=aa.1 this;rw[el];simp at this;subst this;simp only[aw,dS,hl,g1]
    .simp only[kz,w]
    .simp[Je]at hg;subst hg;exact hal
 .cases e
end
section
variable {K:aV}{m:St}{g:bL}
def du{i}(h:(g.set j M)[i]?=Y (Y d)):j≠i/\g[i]?=Y (Y d):=by
 by_cases e:j=i
 .subst e;by_cases a:j<g.length<;>simp_all
 .rw[aq e]at h;exact(e,h)
def SR.blank(S:SR K B Z G H m g)(q:g[j]?=Y (Y d))(u:wD d=Z'):SR K B Z G H m<|g.set j M:=by
 refine(S.gh,S.g0,S.h0,S.fr,λi c a e=>S.env i c a (du e).2,?_,by simp[S.len],S.pin,λi r p y x e =>?_)
 .let(F,Da):=S.ow;exact(F,λi d a e=>Da.it i d a (du e).2,λi d a e=>Da.ok i d a (du e).2,λi j d c a o Q P=>Da.ap i j d c a o (du Q).2 (du P).2)
 .let(s,O,n,k,l,w,h,f,C):=S.dY i r p y x (du e).2;let b:j≠r:=λz=>by subst z;rw[q]at f;cases f;cases u
  exact(s,O,n,k,l,w,h,Ż,C)
def SR.Yg{f:aP}{X s}(S:SR K B Z G H m g)(hr:r∈Z)(P:j∈Z)(hrj:r≠j)(hd:g[r]?=Y (Y<|.obj (.fs c Q)<|.ins c O U))(E:kz [.fld f] (.fs c Q)=Y (.li<|.fs n []))(ep:iR [.fld f] (.ins c O U)=Y (.lst X))(h2:g[j]?=Y (Y<|.ins n x s)):
  ∃a l y w,m[r]?=Y (Y<|.ref a)/\dS H [.fld f] (.ref a)=Y (.ref l)/\m[j]?=Y (Y<|.ref y)/\H l=Y (.lst w)/\X.length=w.length/\SR K B Z G (cU H l<|.lst<|w++[.ref y]) m (((c4 r g).set j M).set r<|Y<|Dg c f Q O U<|.lst<|X++[.ins n x s]):=by
 let(a,T,e1,o1,nd,nf,F,Da,hF):=S.tree hr hd;let(y,e2,oc):=Da.it j _ P h2;obtain⟨⟨ob,oh,cell⟩,fj⟩:=(j9.cell W).mp oc;let(_,fjn):=Da.ok j _ P h2;have yF:y∈F j:=by rw[fj];exact Ÿ
 have yT:y∉T:=λz=>by rw[<- hF]at z;exact Da.ap r j _ _ hr P hd h2 hrj y z yF
 let(l,w,g1,g2,g3,g4,T',o2,nd2,sub):=o1.app nd E ep (a_.refl G) (λq q q z=>z) (zh.mpr ((ob,oh,cell),W)) ż (λb u=>by simp at u;subst u;exact yT);refine(a,l,y,w,e1,g1,e2,g3,g4,?_);let hu:=jx (r:=r) hd (λq z=>by cases z);let hu2:=jx (r:=r) h2 (λq z=>by cases z);let S0:=(S.L9).blank hu2 W;let hr0:((c4 r g).set j M)[r]?=Y (Y<|.obj (.fs c Q)<|.ins c O U):=by rw[aq<|bw hrj];exact hu
 let R:=(S0.Jw (i:=r) (a:=a) (d':=Dg c f Q O U<|.lst<|X++[D.ins n x s]) (F0:=T) (S':=T') (G':=G) (H':=cU H l<|.lst<|w++[V.ref y]) ((λi d hi e=>Da.it i d hi (bH (du e).2).1,λi d hi e=>Da.ok i d hi (bH (du e).2).1,λi j d c hi P ei ej=>Da.ap i j d c hi P (bH (du ei).2).1 (bH (du ej).2).1)) hr (λb u=>(by rw[hF];exact u,_,hr0)) (a_.refl _) (λb o e=>by
   let C:b≠l:=λz=>by rw[z,(nf l g2).1]at e;cases e
   rw[aO C];exact S.gh b o e) (λb o e =>.inl e) (λb o u e=>by
   let C:b≠l:=λz=>u (z ▸ g2)
   rw[aO C];exact e) (o2) nd2 (λb u=>by
   obtain z|z:=sub b u
   .exact((nf b z).1,.inl z)
   .simp at z;subst z;refine((fjn b yF).1,.inr<|.inr ((fjn b yF).2,λk c hk ek YJ hbk =>?_));let(hjk,ek):=du ek;exact Da.ap j k _ c P hk h2 (bH ek).1 hjk b yF hbk) (λb h=>by have:=(S.pin r b h).2;simp_all) (λr p z=>by cases z)
  (λj' p q q q e=>absurd W<|(bH (du e).2).2 p)).1
 simp_all [eY]
def SR.Ut{f}(S:SR K B Z G H m g)(hr:r∈Z)(hj:j∈Z)(hrj:r≠j)(hd:g[r]?=Y (Y<|.obj (.fs c fk)<|.ins c ks ds))(E:kz [.fld f] (.fs c fk)=Y (.li<|.fs c2 []))(ep:iR [.fld f] (.ins c ks ds)=Y (.lst<|xs++[.ins c2 k2 d2]))(U:∀a,(j,a)∉B.3)(hm:Br j∉Z):
  ∃a l y P,m[r]?=Y (Y<|.ref a)/\dS H [.fld f] (.ref a)=Y (.ref l)/\H l=Y (.lst<|P++[.ref y])/\SR K B Z G (cU H l<|.lst P) (m.set j<|Y<|.ref y) (((c4 r g).set r<|Y<|Dg c f fk ks ds<|.lst xs).set j<|Y<|.ins c2 k2 d2):=by
 refine ae λkk =>?_
 let(a,T,e1,o1,nd,nf,F,Da,hF):=S.tree hr hd;let(l,P,u,g1,g2,g3,g4,T',S1,o2,o3,pm):=o1.aeN nd E ep;have hu:=jx (r:=r) hd λq z=>by cases z
 let Q:=pm.nodup_iff.mpr nd;rw[bM]at Q;let(n1,n2,n3):=Q;let T'T:∀b∈T',b∈T:=λb n=>pm.subset<|aS _ n
 let O:∀b∈S1,b∈T:=λb n=>pm.subset<|aE _ n
 let R:=(S.L9 (r:=r)).Jw (i:=r) (a:=a) (d':=Dg c f fk ks ds<|.lst xs) ((λi d X e=>Da.it i d X (bH e).1,λi d X e=>Da.ok i d X (bH e).1,λi j d c X hj ei ej=>Da.ap i j d c X hj (bH ei).1 (bH ej).1)) hr (λb n=>(by rw[hF];exact n,_,hu)) (a_.refl _) (λb o e=>by
   rw[aO (λz=>by rw[z,(nf l g2).1]at e;cases e)];exact S.gh b o e) (λb o e =>.inl e) (λb o n e=>by
   let s:b≠l:=λz=>n (z ▸ g2)
   rw[aO s];exact e) o2 n1 (λb n=>((nf b<|T'T b n).1,.inl<|T'T b n)) (λb h=>by have:=(S.pin r b h).2;rw[e1]at this;cases this;exact Ÿ) (λr p z=>by cases z)
  (λj' p q q q e=>absurd W<|(bH e).2 p)
 rw[eY e1]at R;let(Sr,Wr):=R;let(y,ob,rfl,_):=o3.root (λz=>by cases z);obtain⟨⟨o4,oh,cell⟩,s1⟩:=zh.mp o3;subst s1;let R2:=(Sr.Jw (i:=j) (a:=y) (F0:=[]) Wr hj (λb n=>by cases n) (a_.refl _) Sr.gh (λb o e =>.inl e) (λb o q e=>e)
  ((j9.cell W).mpr ((o4,oh,cell),W)) (by trivial) (λb n=>by
   let C:=n;simp at n;subst n;refine((nf b<|O b C).1,.inr<|.inr ((nf b<|O b C).2,λk cc hk ek YJ x =>?_));by_cases w:k=r
   .subst w;simp only[if_true]at x;exact n3 b x b C W
   .simp only[if_neg w]at x;rw[aq<|bw w]at ek;exact Da.ap r k _ cc hr hk hd (bH ek).1 (bw w) b (by rw[hF];exact O b C) x) (λb h=>absurd h<|U b) (λr p z=>by cases z)
  (λj' p h1 h2 q e=>by let(_,g0,_):=Sr.dY j' j p h1 h2 e;trivial)).1
 exact kk<|(a,l,y,P,e1,g1,g3,R2)
end
section
variable {X:Cx}{s v:Pos}
def C7(j i:Nat)(c f:aP):DG:=λg=>(vY c f j g).bind λq=>(eV i g).bind λd=>match q.2.2.2,d with
 |.lst a,.ins b e h=>if Sk.SE (cX q.1 f) (.li<|.fs b [])=Z'/\a.length<dQ then Y (.nx<|((c4 j g).set i M).set j<|Y<|Dg c f q.1 q.2.1 q.2.2.1<|.lst<|a++[.ins b e h]) else M
 |_,_=>M
set_option tactic.hygienic true in
def Ro{i}{c f:aP}(h:PE X (.Name x p)<|g9 j)(hy:PE X (.Name y v)<|g9 i)(U:sj X.K c f)(R:‹j∈Z›)(hi:‹i∈Z›)(z:‹j≠i›)(F:@&(bT (.Name x p) f X.env (eval (.Name x p) X.env)=eval (.Name x p) X.env))(r:@&(bT (.Attribute (.Name x p) f s) "append" X.env (eval (.Attribute (.Name x p) f s) X.env)=eval (.Attribute (.Name x p) f s) X.env)) (u:@&(((cB t<|ak ((.Name y v)::[]) X.env).all (λx=> (not x.1))&&(fY t<|cV [] X.env).all (λx=>x.1.isSome)
   && decide (((.Name y v:Expr)::[]).length+([]:!j8).length+(if ([]:!j8).isEmpty then 0 else 1)<30))=true)) (q:@&((A.endLine==t.line)=true)) (Q:@&(ak ((.Name y v)::[]) X.env=(Z_,eval (.Name y v) X.env)::ak [] X.env)) (e:@&((cB t<|ak [] X.env).any (·.1)=false)) (w:@&(cg (.Call (.Attribute (.Attribute (.Name x p) f s) "append" A) [.Name y v] [] t) M I.line X.env=c9 false)) :
  PS X (.Expr (.Call (.Attribute (.Attribute (.Name x p) f s) "append" A) [.Name y v] [] t) I) (gO X.K B J Z Z<|C7 j i c f):=
 (jO (uX dg PySem.F.slot_list_append PySem.F.type_list_append iO (qG h F) (cA hy dH Q) r u q Q e) w).imp <|by
  rintro D m H ⟨G,g,o,S,b,k⟩;obtain⟨⟨fk,ks,ds,t1⟩,et,b⟩:=aa.1 b;rcases K:eV i g with _|d
  .simp[K]at b
  simp only[K,aw]at b;split at b
  .split at b
   .rename_i P;refine ae λkk =>?_
    cases b;let(T,O,i2):=n7 et;rw[Sk.qS P.1]at O;let(a,l,y,E,e1,e2,e3,e4,e5,S'):=S.Yg R hi z T O i2<|gC K;let(C,dx,fs,n,f1,f2):=S.Nb R T e1 e2;refine kk<|(_,e1,a,C,dx,fs,_,W,f1,(U C n).1,(U C n).2,f2,.inl (W,E,.of e4),_,e3,l,E,_,W,W,e4,?_,k _ G _ S');rw[<- e5];exact bo P.2 eQ
   .cases b
  .cases b
def Fq(i j:Nat)(c f:aP):DG:=λg=>(vY c f j g).bind λq=>match q.2.2.2 with
 | .lst a=>(a.getLast?).bind λd=>match d with
  |.ins b e h=>if Sk.SE (cX q.1 f) (.li<|.fs b [])=Z' then Y (.nx<|((c4 j g).set j<|Y<|Dg c f q.1 q.2.1 q.2.2.1<|.lst a.dropLast).set i<|Y<|.ins b e h) else M
  |_=>M
 |_=>M
set_option tactic.hygienic true
def Vj{i:Nat}{c f:aP}(hN:X.N.Nodup)(hy:X.N[i]?=Y y)(w:Loc X.env.scope y)(h:PE X (.Name x p)<|g9 j)(T:sj X.K c f)(Q:‹j∈Z›)(hi:‹i∈Z›)(z:‹j≠i›)(r:autoParam (∀a,(i,a)∉B.3) ť)(hm:‹Br i∉Z›)(F:@&(bT (.Name x p) f X.env (eval (.Name x p) X.env)=eval (.Name x p) X.env))(q:@&(bT (.Attribute (.Name x p) f s) "pop" X.env (eval (.Attribute (.Name x p) f s) X.env)=eval (.Attribute (.Name x p) f s) X.env))(e:@&((A.endLine==t.line)=true))(hs:@&(cg (.Call (.Attribute (.Attribute (.Name x p) f s) "pop" A) [] [] t) (Y<|.Name y L) I.line X.env=c9 false))(hf:autoParam (X.fn y=Z'\/X.env.scope.names.lookup y=Y .local) ŧ):
  PS X (.Assign [.Name y L] (.Call (.Attribute (.Attribute (.Name x p) f s) "pop" A) [] [] t) I) (gO X.K B J Z Z<|Fq i j c f):=
 (km hN hy w (Ik dg PySem.F.slot_list_pop PySem.F.type_list_pop P2 (qG h F) q e) hs hf).imp <|by
  rintro D m H ⟨G,g,o,S,b,k⟩;unfold Fq at b;rcases K:vY c f j g with _|⟨fk,ks,ds,t1⟩
  .simp_all
  rw[K]at b;simp at b;split at b
  .rename_i u;rcases v:u.getLast? with _|d
   .simp_all
   rw[v]at b;simp at b;split at b
   .rename_i c2 k2 d2;split at b
    .rename_i hz;refine ae λkk =>?_
     cases b;let(R,P,O):=n7 K;rw[Sk.qS hz]at P;let hx:u=u.dropLast++[.ins c2 k2 d2]:=by let(ys,rfl):=N9.mp v;simp
     rw[hx]at O;let(a,l,y,us,e1,e2,U,S'):=S.Ut Q hi z R P O r hm;let(C,dx,fs,n,f1,f2):=S.Nb Q R e1 e2;refine kk<|(_,e1,a,C,dx,fs,_,W,f1,(T C n).1,(T C n).2,f2,.inl (W,_,.of U),l,_,.ref y,W,W,U,ż,?_);rw[gK]
     exact Ÿ
    .cases b
   .cases b
  .cases b
end
inductive spT (K:aV) (s:Sk) (F:!D->↑(D×D)) (j:!V) (H:Hp) (Q:VK) (_x:XK):Prop
 |mk G t g d i a T h:a_ G H->j=.ref a::h->cm K G H s t (.ref a) T->T.Nodup->(∀b∈T,G b=none)->aZ K G g h->F (t::g)=some (d,i)->(∀v e c f,fT G (dM H T) c f->cm K c f s i (.ref a) e->e.Nodup->(∀b∈e,c b=none/\(b∈T\/H b=none))->cS K c d v->Q v f)->spT K s F j H Q _x
inductive uM (K:aV) (s:Sk) (F:!D->↑(!D×D)) (k:!V) (H:Hp) (Q:VK) (_x:XK):Prop
 |mk G t f j i a T h:a_ G H->k=.ref a::h->cm K G H s t (.ref a) T->T.Nodup->(∀b∈T,G b=none)->aZ K G f h->F (t::f)=some (j,i)->(∀q g d c e,fT G (dM H T) c e->cm K c e s i (.ref a) d->d.Nodup->(∀b∈d,c b=none/\(b∈T\/H b=none))->c q=none->(q∈T\/H q=none)->q∉d->e q=some (.lst g)->aZ K c j g->Q (.ref q) e)->uM K s F k H Q _x
inductive spK (K:aV) (F:!D->↑D) (e:!V) (H:Hp) (Q:VK) (_x:XK):Prop
 |mk G c d:a_ G H->aZ K G c e->F c=some d->(∀q o b a,fT G H b a->H q=none->b q=none->a q=some o->iq K b d o->Q (.ref q) a)->spK K F e H Q _x
def oZ(s:Sk)(j:Nat)(b:bL):↑D:=(yH j b).bind λa=>if Sk.SE a.1 s=Z' then Y a.2 else M
def jy{s:Sk}(h:oZ s j a=Y t):a[j]?=Y (Y<|.obj s t):=by
 grind [oZ,aa,Sk.qS,kO]
def Mz(s:Sk):DO->↑(D×D)
 |.rm d a=>(oZ s 0 a).map λt=>(d,t)
 |.nx a=>(oZ s 0 a).map λt=>(.dC,t)
 |_=>M
def zi(s:Sk):DO->↑(!D×D)
 |.rf i a=>(oZ s 0 a).bind λt=>(gc i a).map λb=>(b,t)
 |_=>M
def aeQ:DO->↑D
 |.rf i a=>(eV i a).bind λd=>if wD d=Z' then Y d else M
 |_=>M
def mB(n N:Nat)(s:Sk)(g:DG)(b:!D):↑(D×D):=match b with
 |t::a=>if a.length+1=n then (g<|fP N<|.obj s t::a).bind (Mz s) else M
 |[]=>M
def za(n N:Nat)(s:Sk)(g:DG)(b:!D):↑(!D×D):=match b with
 |t::a=>if a.length+1=n then (g<|fP N<|.obj s t::a).bind (zi s) else M
 |[]=>M
def VN(n N:Nat)(g:DG)(a:!D):↑D:=if a.length=n then (g<|fP N a).bind aeQ else M
section
variable {P:bh}{K:aV}
def BW{s:Sk}{f:!D}{T:!aH}(w:a_ G H)(m:0∈Z)(h:cm K G H s t (.ref a) T)(k:T.Nodup)(j:∀b∈T,G b=M)(r:aZ K G f g)(n:∀i∈Z,i=0\/f.length+1<=i):
  SR K (G,dM H T,[(0,a)],x) Z G H (start N<|.ref a::g) (fP N.length<|.obj s t::f):=
 BV w λb o e=>by
  grind [ia,bK] m W W h k (λb d=>(j b d,ia d)) (λr q z=>by cases z) (λi c p e=>by
   cases i with
   |zero=>trivial| succ i=>exact r.get<|by trivial) (by simp[r.length]) ž
def SR.YW{m:!Nat}{s:Sk}(r:SR K (G,dM H T,[(0,a)],p) m d i j e)(y:oZ s 0 e=Y k):
  ∃c,cm K d i s k (.ref a) c/\c.Nodup/\(∀b∈c,d b=M/\(b∈T\/H b=M))/\∃F,oS K (G,dM H T,[(0,a)],p) m d i j e F/\F 0=c:=by
 let(g,f):=r.pin 0 a Ÿ;let(_,c,h,o,n,q,F):=r.tree g<|jy y;cases h.symm.trans f;exact(c,o,n,λb m=>((q b m).1,(Classical.em<|b∈T).imp_right λz=>(bK z).symm.trans (q b m).2),F)
set_option tactic.hygienic true
def fX.Ki{f:aH}{R:!aP}(F:fX K x e p f fd){s:Sk}(N:!aP)(Z Ź:!Nat){g:DG}(S:ji N R<|bu p) (hb:N.Nodup->∀(j:au) (A:gM) (outer:!Env) (s:aA) (H:Hp) (E:XK),d7 k (A.deeper<|oY e (bu p) s.heap.objs.size f j)->∀(B:Bs) (a:aH),B.3=[(0,a)] ->
   nY (wR fx P w K O U N e (bu p) f j A outer s H E).NY (fI p) (gO K B [] Z Ź g)) (hp:‹0∈Z›) (C:‹∀i∈Z,i=0\/R.length<=i›):b9 P w K O U fx (k+1) f fd R<|spT K s<|mB R.length N.length s g:=by
 refine F.ok S (λvs H Q E h =>?_) λj A outer s1 H vs Q E hr h =>?_
 .let(G,t,xs,d,X,a,T,us,gh,rfl,ot,nd,nf,r,b,_):=h;simp only[mB]at b;split at b
  .rename_i z;simp[<- r.length,z]
  .cases b
 .let(G,t,xs,d,X,a,T,us,gh,rfl,ot,nd,nf,r,b,q):=h;simp only[mB]at b;split at b
  .refine(_,hb S.nd j A _ s1 H E hr (G,dM H T,_,λl l=>False) a W,?_);let(oo,eg,b):=aa.1 b;refine(G,_,oo,BW gh hp ot nd nf r Ż,eg,?_);cases oo with
   |rm d' m=>let(y,o,b):=aj.1 b;cases b;intro v σ G' H' (o',c) rv;let(T',f1,f2,f3,_):=c.YW o;exact q v T' G' H' c.m4 f1 f2 f3 rv
   |nx m=>let(y,o,b):=aj.1 b;cases b;intro σ G' H' c;let(T',f1,f2,f3,_):=c.YW o;exact q _ T' G' H' c.m4 f1 f2 f3<|gz.mpr W
   |_=>cases b
  .cases b
def fX.Ui{c:cH}{f:aH}(F:fX K x j c f fd){s:Sk}(N:!aP)(Z Ź:!Nat){g:DG}(S:ji N ps<|bu c) (hb:N.Nodup->∀(o:au) (A:gM) (e:!Env) (s:aA) (H:Hp) (E:XK),d7 k (A.deeper<|oY j (bu c) s.heap.objs.size f o)->∀(B:Bs) (a:aH),B.3=[(0,a)] ->
   nY (wR fx P w K O U N j (bu c) f o A e s H E).NY (fI c) (gO K B [] Z Ź g)) (hp:‹0∈Z›) (R:‹∀i∈Z,i=0\/ps.length<=i›):b9 P w K O U fx (k+1) f fd ps<|uM K s<|za ps.length N.length s g:=by
 refine F.ok S (λvs H Q E h =>?_)<|λo A e s1 H vs Q E hr h =>?_
 .let(G,t,xs,d,t',a,T,us,gh,rfl,ot,nd,nf,r,b,_):=h;simp only[za]at b;split at b
  .rename_i z;simp[<- r.length,z]
  .cases b
 .let(G,t,xs,d,t',a,T,us,gh,rfl,ot,nd,nf,r,b,q):=h;simp only[za]at b;split at b
  .rename_i hn;refine(_,hb S.nd o A e s1 H E hr (G,dM H T,[(0,a)],λl l=>False) a W,?_);let(oo,eg,b):=aa.1 b;refine(G,_,oo,BW gh hp ot nd nf r Ż,eg,?_);cases oo with
   |rf i p=>
    let(y,X,b):=aa.1 b;let(ds,C,b):=aj.1 b;cases b;intro v σ G' H' (o',hi,S') hv;let(T',f1,f2,f3,F',Da,hF):=S'.YW X;let m:=dP C;let(D,e1,oc):=Da.it i _ hi m;rw[hv]at e1;cases e1;obtain⟨⟨ob,oh,ws,rfl,rr⟩,fi⟩:=(j9.cell (d :=.lst d) W).mp oc;let(_,k8):=Da.ok i _ hi m;have qi:D∈F' i:=by rw[fi];exact Ÿ
    refine q D ws T' G' H' S'.m4 f1 f2 f3 (k8 D qi).1 ?_ ?_ oh rr
    .by_cases h:D∈T
     .exact .inl h
     .exact .inr (by simpa [bK h] using (k8 D qi).2)
    .intro z;rw[<- hF]at z;exact Da.ap i 0 _ _ hi (S'.pin 0 a Ÿ).1 m (jy X) (λz=>by subst z;rw[jy X]at m;cases m) D qi z
   |_=>cases b
  .cases b
def fX.Z4{f:aH}{c:dt}(F:fX K x j t f c)(N:!aP)(Z Ź:!Nat){g:DG}(S:ji N C<|bu t) (hb:N.Nodup->∀(m:au) (A:gM) (e:!Env) (s:aA) (H:Hp) (E:XK),d7 k (A.deeper<|oY j (bu t) s.heap.objs.size f m)->∀B:Bs,B.3=[] ->
   nY (wR fx P w K O U N j (bu t) f m A e s H E).NY (fI t) (gO K B [] Z Ź g)) (z:‹∀i∈Z,C.length<=i›):b9 P w K O U fx (k+1) f c C<|spK K<|VN C.length N.length g:=by
 refine F.ok S (λX H Q E h =>?_) λm A e s H X Q E hr h =>?_
 .let(G,ds,d,D,r,b,_):=h;unfold VN at b;split at b
  .rw[<- r.length];omega
  .cases b
 .let(G,ds,d,D,r,b,q):=h;unfold VN at b;split at b
  .refine(_,hb S.nd m A e s H E hr (G,H,[],λl l=>False) W,?_);let(o,eg,b):=aa.1 b;refine(G,_,o,yL D r Ż,eg,?_);cases o with
   |rf i p=>
    let(y,el,b):=aa.1 b;split at b
    .rename_i hy;cases b;intro v σ G' H' (o',hi,T) hv;let(a,ob,R,e2,e3,e4,e5):=T.Pj hi (gC el) hy;rw[hv]at R;cases R;exact q a ob G' H' T.m4 e5 e4 e2 e3
    .cases b
   |_=>cases b
  .cases b
end
section
variable {X:Cx}{v:Pos}
def cN(c m:aP)(s:Sk)(F:!D->↑(D×D))(j:Nat)(g:Sd):DM:=λb=>(yH j b).bind λd=>match d.1,d.2 with
 |.fs f _,.ins a e _=>if (f=c/\a=c)/\m∉e then (g b).bind λq=>(oZ s j q.2).bind λt=>(F<|t::q.1).map λr=>(r.1,(c4 j q.2).set j<|Y<|.obj s r.2) else M
 |_,_=>M
set_option tactic.hygienic true in
def Gd{m:aP}{s:Sk}{F:!D->↑(D×D)}{f:St}(n:uw X.K bc c=Y (Y<|.ref C))(r:j∈Z)(ht:∀f H Q,Xf X.K B Z g f H Q->t f H Q)(h:tM X.K B Z (cN c m s F j g) f H Q):E_ C m (spT X.K s F) [] E0 (g9 j) t f H Q:=by
 let(G,o,d,R,S,e,q):=h;unfold cN at e;rcases x:yH j o with _|⟨s0,t0⟩
 .simp_all
 rw[x]at e;simp at e;split at e
 .split at e
  .rename_i hz;obtain⟨⟨rfl,rfl⟩,hm⟩:=hz;rcases y:g o with _|⟨p,i⟩
   .simp_all
   rw[y]at e;simp at e;rcases I:oZ s j i with _|u
   .simp_all
   rw[I]at e;obtain⟨⟨d',t'⟩,eF,e⟩:=aj.1 e;cases e;let hd:=kO x;let(a,T,z,ot,_):=S.tree r hd;cases ot with
   |@ins _ _ _ _ _ C' dx vs S0 N ex l tt=>rw[n]at N;cases N;refine(_,z,a,dx,_,W,ex,oD (K:=X.K) (G:=G) hm,ht _ _ _ (G,o,p,i,S,y,λK G1 H1 A s1 r1 =>?_));rw[bZ];let k:=jy I;let(a1,T1,P,f2,f3,f4,F1,W1,w):=A.tree r k;rw[z]at P;cases P;exact(G1,u,p,d',t',a,T1,K,A.gh,W,f2,f3,λb hb=>(f4 b hb).1,r1,eF,λv T' G' H' E nw nd nf rv=>q v G' H' (A.Eg W1 w r k z E nw nd nf) (s1.trans E.gg) rv)
  .cases e
 .cases e
def Cv{c m:aP}{s:Sk}{F:!D->↑(D×D)}(h:dZ X.prog X.w X.K X.mg X.base c m k<|spT X.K s F)(g:d7 k X.A)(i:PE X (.Name y p)<|g9 j)(r:‹j∈Z›) (e:@&(eval (.Call (.Attribute (.Name y p) m L) [] [] J) X.env=(do
   let a <- eval (.Name y p) X.env
   nR L.atName
   let(f,first) <- k9 [a] (jH a m pl)
   qc J f first (cB J<|ak [] X.env) (fY J<|cV [] X.env)))):PE X (.Call (.Attribute (.Name y p) m L) [] [] J)<|tM X.K B Z<|cN c m s F j qJ:=by
 let(C,f,K,E,n,t,o,x,w):=h.ex;exact(uV i t o x g w .nil lP e).imp λb H Q q=>Gd n r (by rintro b H Q ⟨G,A,l,d,S,z,k⟩;cases z;exact k _ G H S (a_.refl _) .nil) q
def AH{c m:aP}{s:Sk}{F:!D->↑(D×D)}{g:Sd}(h:dZ X.prog X.w X.K X.mg X.base c m k<|spT X.K s F)(o:d7 k X.A)(r:PE X (.Name y p)<|g9 j)(E:PA X (e::I)<|Xf X.K B Z g)(w:‹j∈Z›)(a:@&(ak (e::I) X.env=(Z_,eval e X.env)::ak I X.env))(b:@&((cB J<|ak I X.env).any (·.1)=false)) (i:@&(eval (.Call (.Attribute (.Name y p) m L) (e::I) [] J) X.env=(do
   let d <- eval (.Name y p) X.env
   nR L.atName
   let(f,first) <- k9 [d] (jH d m pl)
   qc J f first (cB J<|ak (e::I) X.env) (fY J<|cV [] X.env)))):PE X (.Call (.Attribute (.Name y p) m L) (e::I) [] J)<|tM X.K B Z<|cN c m s F j g:=by
 let(C,f,N,l,n,x,t,G,A):=h.ex;exact(yf r x t G o A .nil lP E a b i).imp λK H Q q=>Gd n w (λu u u z=>z) q
noncomputable def qV(c:aP)(F:!D->↑(D×D))(g:DL):DF:=λa=>(g a).bind λb=>(F<|.ins c [] []::b).bind λr=>match r.1 with|.dC=>Y r.2|_=>M
def ad0{c:aP}{fk:!(aP×Sk)}{F:!D->↑(D×D)}{g:DL}(h:ur X.prog X.w X.K X.mg X.base c k<|spT X.K (.fs c fk) F)(hr:d7 (k+1) X.A)(hg:Gl X c)(ha:PA X (e::I)<|E9 X.K Z g)(B:‹(c==("__debug__" : aP))=false›)(he:@&(ak (e::I) X.env=(Z_,eval e X.env)::ak I X.env))(A:@&((cB J<|ak I X.env).any (·.1)=false)):PE X (.Call (.Name c p) (e::I) [] J)<|HX X.K Z (.fs c fk)<|qV c F g:=by
 let(C,f,fd,ps,n,hm,hk,h1,a):=h.ex;refine(Di hk h1 hr hg hm a .nil lP ha B he A).imp ?_;rintro σ H Q ⟨G,ρ,d,gh,l,i,q⟩;unfold qV at i;let(P,eg,i):=aa.1 i;obtain⟨⟨d',c'⟩,eF,i⟩:=aa.1 i;cases d'<;>simp only[aw]at i<;>try (cases i;done)
 cases i;refine(G,ρ,P,gh,l,eg,λR N r w r1 x s m j ne =>?_);show spT X.K (.fs c fk) F (.ref x::(R++[])) _ _ E0;rw[bZ];let K:N x=none:=w.gh.free m;have s2:a_ N<|cU (cU r s<|.Z x) x<|.ins C s []:=w.gh.trans<|(a_.alloc j).trans<|.alloc (by rw[aO<|bw ne];exact m);refine(N,.ins c [] [],P,.dC,_,x,[x],R,s2,W,.ins (ks:=[]) (vs:=[]) (S:=[]) n a9 W .nil,ż,(λb a=>by simp at a;subst a;exact K),r1,eF,λv T' G2 H2 t nw nd T rv=>(gz.mp rv,?_));have S:∀b o,r b=Y o->dM (cU (cU r s<|.Z x) x<|.ins C s []) [x] b=Y o:=λb o e=>by let a:b≠x:=bf e m;rw[bK (by simpa using a),aO a,aO<|bf e j];exact e
 refine q (.ref x) T' G2 H2 (w.trans (λb o e=>t.hh b o<|S b o e,t.gg,t.gh,λb o e =>?_)) nw nd λb a=>((T b a).1,?_)
 .obtain z|z:=t.fr b o e
  .exact .inl z
  .refine .inr ?_;rcases y:r b with _|u
   .rfl
   rw[S b u y]at z;cases z
 .refine w.hh.free ?_;rcases(T b a).2 with z|z
  .simp at z;subst z;exact m
  .rcases y:r b with _|u
   .rfl
   let E:b≠x:=bf y m;rw[aO E,aO<|bf y j,y]at z;cases z
def RC{F:!D->↑D}(h:gP X.prog X.w X.K X.mg X.base x k<|spK X.K F)(e:d7 k X.A)(j:Gl X x)(b:‹(x==("__debug__" : aP))=false›):PE X (.Call (.Name x p) [] [] J)<|tFC X.K Z<|λ_=>F []:=by
 let(f,l,K,c,g,i,m):=h.ex;exact(Ph c e j g i m .nil lP b).imp <|by rintro B H Q ⟨G,C,d,t,y,w,q⟩;exact(G,[],d,t,.nil,w,λa o A z E c s n r=>q a o A z E c s n r)
end
def wA(l:bL)(u:BJ)(w:DM)(i0:Nat)(s:Sk):!D->D->↑(!D×D)
 |[],t=>Y ([],t)|d::b,t=>(u d<|l.set i0<|Y<|.obj s t).bind λρ1=>(w ρ1).bind λp=>(oZ s i0 p.2).bind λa=>(wA l u w i0 s b a).map λq=>(p.1::q.1,q.2)
def xT(f:DL)(src:!(↑Nat))(u:BJ)(w:DM)(i0 j0:Nat)(s:Sk):DM:=λl=>(f l).bind λa=>if a.length<=dQ then (oZ s j0 l).bind λt=>(wA (ki src<|c4 j0 l) u w i0 s a t).map λq=>(.lst q.1,(c4 j0 l).set j0<|Y<|.obj s q.2) else M
section
variable {K:aV}
def SR.YB{fl}{s}(S:SR K B Z G H n<|l.set j0<|Y<|.obj s t)(C:f_ Z [i0] src=Z')(x:src[i0]?=Y (Y j0))(y:n[j0]?=Y (Y<|.ref a))(q:cm K G H s t (.ref a) T)(P:T.Nodup)(N:∀b∈T,G b=M):
  SR K (G,dM H T,[(i0,a)],fl) [i0] G H (nJ src n) ((ki src l).set i0<|Y<|.obj s t):=by
 refine(S.gh,a_.refl _,λb o e =>?_,λb o e =>.inl e,λi d g e =>?_,(λu=>T,λi d g e =>?_,λi d g e=>(P,λb m=>(N b m,ia m)),λi j d c g k u u f =>?_),by simp[nJ,ki],λi b h =>?_,λj r p R Q e =>?_)
 .simp_all [dM,ia,bK]
 .obtain⟨omega,_⟩|⟨f,e⟩:=fE e
  .simp_all
  .let(j,F,ej):=Fl e;let k:j∉Z:=λz=>g ((jo C F).mpr z)
   have:j0≠j:=λz=>k<|z ▸ ((jo C x).mp Ÿ)
   let(v,f1,X):=S.env j d k Ż;exact(v,om F f1,X)
 .let z:i=i0:=by simpa using g
  subst z;obtain⟨_,rfl,_⟩|_:=fE e
  .exact(a,om x y,q)
  simp_all
 .simp_all
 .simp_all [om]
 simp_all
end
def L8{s}:c4 j ((c4 j l).set j<|Y<|.obj s t)=(c4 j l).set j (Y<|.obj s t):=by
 apply rT;intro i;unfold c4;rw[aK];by_cases h:j=i
 .subst h;by_cases b:j<l.length<;>simp_all
 .rw[aq h,aK];rcases e:l[i]? with _|o
  .simp
  cases o with
  |none=>simp|some d=>
   cases d with|dY r p=>by_cases a:r=j<;>simp_all|_=>simp
section
variable {X:Cx}{f:DL}{s:Sk}
set_option tactic.hygienic true in
def Kx{K:aV}(ho:f_ Z [i0] src=Z')(h0:src[i0]?=Y (Y j0))(hg:∀(B:Bs) v n H Q,HW K B [i0] u v n H Q->g v n H Q)(q:tM K B Z (xT f src u w i0 j0 s) n H Q):
  Xg (A9 K Z f) src g (p' K [i0] gR) (ZX K i0 w) n H Q:=by
 let(G,l,d,ρ',S,j,k):=q;have X:j0∈Z:=(jo ho h0).mp Ÿ;unfold xT at j;let(C,ef,j):=aa.1 j;split at j
 .rename_i hz;let(t0,el,j):=aa.1 j;obtain⟨⟨rs,tF⟩,em,j⟩:=aj.1 j;cases j;let hd0:=jy el;have hu0:=jx (r:=j0) hd0 (λq z=>by cases z);let hl0:j0<(c4 j0 l).length:=(ah.mp hu0).1;let(a,T0,e2,_):=S.tree X hd0;refine(G,l,C,S.gh,S.i6,ef,λJ G1 H1 E1 ok =>?_);let S1:=(S.ext E1).L9 (r:=j0);rw[<- AZ hu0]at S1;refine(λi m ys H2=>m=C.length-i/\i<=C.length/\LcI K B Z n (λt=>(c4 j0 l).set j0<|Y<|.obj s t) (λi=>wA (ki src<|c4 j0 l) u w i0 s<|C.drop i) G1 tF rs i ys H2,
   (C.length,W,cZ _,G1,[],t0,rs,aF _,S1,a_.refl _,.nil,em,W),?_)
  rintro i m ys H2 ⟨rfl,hil,G2,o,t,r,hyl,S2,s2,rx,c,rfl⟩;let sub:a_ G1 H2:=s2.trans S2.gh;by_cases N:i<C.length
  .refine .inr (ok.go i H2 sub N,?_,_,
    λR H' z=>(C.length-(i+1),ŷ,W,N,z),λx H3 y =>?_)
   .have:=eQ
    lia
   .refine ae λkk =>?_
    let(G3,E3,Zz):=ok.JP i H2 x H3 G2 C[i] s2 S2.gh y<|ai N;have S3:=S2.ext E3;rw[da N]at c;unfold wA at c;let(A,et,c):=aa.1 c;obtain⟨⟨x4,ρ5⟩,ee,c⟩:=aa.1 c;let(t4,el4,c):=aa.1 c;obtain⟨⟨T,tE⟩,em4,c⟩:=aj.1 c;cases c;have hd3:((c4 j0 l).set j0<|Y<|D.obj s t)[j0]?=Y (Y<|.obj s t):=by rw[aX hl0]
    let(a3,T3,f1,ot,nd,nf,F3,W3,hF3):=S3.tree X hd3;rw[e2]at f1;cases f1;let SI:=S3.YB (fl:=λE E=>False) ho h0 e2 ot nd λb hb=>(nf b hb).1
    refine kk<|hg (G3,dM H3 T3,[(i0,a)],λE E=>False) _ _ _ _ (G3,_,C[i],A,SI,Zz,et,λσ4 G4 H4 S4=>(G4,A,Z',S4.gh,S4.i6,W,λG5 H5 E5=>Bv ?_));refine((G3,dM H3 T3,[(i0,a)],λE E=>False),a,W,G5,A,x4,ρ5,S4.ext E5,ee,λv G6 H6 S6 s6 r6=>(G6,o++[x4],t4,T,by simp;omega,?_,?_,?_,em4,ż))
    .let(YH,hσ):=S6.pin i0 a Ÿ;let(a6,T6,g1,g2,g3,g4,_):=S6.tree YH<|jy el4;rw[hσ]at g1;cases g1;have:=S3.Eg (t':=t4) W3 hF3 X hd3 e2 S6.m4 g2 g3 (λb hb=>((g4 b hb).1,by
      by_cases h:b∈T3
      .exact .inl h
      .exact .inr<|by simpa [bK h] using (g4 b hb).2))
     rw[L8,List.set_set]at this;exact this
    .exact s2.trans<|E3.gg.trans S6.g0
    .exact(aZ.mono (E3.gg.trans S6.g0) o rx).append<|.cons r6 .nil
  .let e:i=C.length:=by lia
   subst e;rw[j5]at c;unfold wA at c;refine ae λkk =>?_
   cases c;refine kk<|.inl (ok.stop _ H2 sub<|aF _,λp hp =>?_);have EA:=fT.alloc (p:=p) (o :=.lst ys) S2.gh hp;refine k _ _ _ (S2.ext EA) (E1.gg.trans<|s2.trans EA.gg) ?_;rw[bZ];exact cu.mpr (p,ys,W,a9,aZ.mono EA.gg o rx)
 .cases j
def Jp(S:dA X N src A)(j:X.calm=Z')(e:PI X E I<|A9 X.K Z f)(o:R9 O g)(a:∀i∈O,src[i]?=Y M)(h:∀(B:Bs) v n H Q,HW X.K B [i0] u v n H Q->g v n H Q)(k:∀C s H b,PG (X.p8 N A C s H b) E g/\Ht (X.p8 N A C s H b) [] (p' X.K [i0] gR)/\PE (X.p8 N A C s H b) L (ZX X.K i0 w))(m:@&(src[i0]?=Y (Y j0)))(d:‹f_ Z [i0] src=true›)(c:autoParam (∀x,bR I X.env x=c9 x) ũ):PE X (.ListComp L [(E,I,[],0)] A U)<|tM X.K B Z<|xT f src u w i0 j0 s:=
 (Ke S j e o a k c).imp λn H Q q=>Kx d m h q
def Jo{i:Nat}(S:dA X N src A)(Da:X.calm=Z')(R:X.N.Nodup)(t:X.N[i]?=Y y)(F:X.env.scope.names.lookup y=Y .local)(J:PI X E I<|A9 X.K Z f)(ag:R9 O g)(h:∀i∈O,src[i]?=Y M)(K:∀(B:Bs) v n H Q,HW X.K B [i0] u v n H Q->g v n H Q)(P:∀C s H m,PG (X.p8 N A C s H m) E g/\Ht (X.p8 N A C s H m) [] (p' X.K [i0] gR)/\PE (X.p8 N A C s H m) L (ZX X.K i0 w))(T:@&(src[i0]?=Y (Y j0)))(D:‹f_ Z [i0] src=true›)(j:‹i∉Z›)(e:@&(cg (.ListComp L [(E,I,[],0)] A U) (Y<|.Name y p) a.line X.env=c9 true))(z:autoParam (∀x,bR I X.env x=c9 x) ũ):PS X (.Assign [.Name y p] (.ListComp L [(E,I,[],0)] A U) a)<|gO X.K B q Z Z<|sE i<|xT f src u w i0 j0 s:=
 (zd S Da R t F J ag h P e z).imp λD' n H (G,l,o,S,b,k)=>Kx D T K (by obtain⟨⟨d,c⟩,ef,b⟩:=aj.1 b;cases b;exact(G,l,d,c,S,ef,λv G' H' S' V r=>k _ G' H'<|S'.wa j r))
end
abbrev TupAt(h:cP)(T:aH)(a:Array au):Prop:=h.get? T=Y { cls :=.type "tuple",data :=.seq a }
structure ZN(h:cP)(z TI TO:aH)(n:Nat)(it l:Nat->aH)(xs:Nat->Array au)(pl:Nat->Nat)(f0:au)(out:Array au):Prop where
 zz:IsZip h z TI TO f0
 ti:TupAt h TI ((bJ n).map λj=>d6<|it j).toArray
 to:TupAt h TO out
 sz:out.size=n
 iter:∀j,j<n->h.IsListIter (it j) (l j) (pl j)
 lst:∀j,j<n->h.IsList (l j) (xs j)
structure ZA(z TI TO:aH)(n:Nat)(it l:Nat->aH):Prop where
 tiz:TI≠z
 toz:TO≠z
 aef:TI≠TO
 iz:∀j,j<n->it j≠z/\it j≠TI/\it j≠TO
 ii:∀j k,j<n->k<n->j≠k->it j≠it k
 lz:∀j,j<n->l j≠z/\l j≠TO/\∀k,k<n->l j≠it k
section
variable {f:aH}
def ZN.adv(N:ZN h z i f n d l p t u r)(A:ZA z i f n d l)(c:k<n)(m:g.IsListIter (d k) (l k)<|t k+1)(b:jw (d k) h g):ZN g z i f n d l p (λj=>if j=k then t j+1 else t j) u r:=by
 let(s,q,o):=A.iz k c;refine(b.extBut _ _ (bw s) N.zz,b.extBut _ _ (bw q) N.ti,b.extBut _ _ (bw o) N.to,N.sz,λj a =>?_,λj a =>?_)
 .by_cases e:j=k
  .simp_all
  .simp only[if_neg e];exact(N.iter j a).extBut b.extBut<|A.ii j k a c e
 .exact(N.lst j a).extBut b.extBut<|(A.lz j a).2.2 k c
def ZN.Tv(N:ZN h z i f n d l p t u r)(A:ZA z i f n d l)(k:TupAt g f a)(e:a.size=n)(c:jw f h g):ZN g z i f n d l p t u a:=
 (c.extBut _ _ (bw A.toz) N.zz,c.extBut _ _ A.aef N.ti,k,e,λj b=>(N.iter j b).extBut c.extBut (A.iz j b).2.2,λj b=>(N.lst j b).extBut c.extBut (A.lz j b).2.1)
def ZN.Tu(N:ZN h z i f n d l p t u r)(A:ZA z i f n d l)(e:IsZip g z i f c)(b:jw z h g):ZN g z i f n d l p t c r:=
 (e,b.extBut _ _ A.tiz N.ti,b.extBut _ _ A.toz N.to,N.sz,λj a=>(N.iter j a).extBut b.extBut (A.iz j a).1,λj a=>(N.lst j a).extBut b.extBut (A.lz j a).1)
end
def He(z f:aH)(n:Nat)(d:Nat->aH)(h g:cP):Prop:=∀c o,c≠z->c≠f->(∀j,j<n->c≠d j)->h.get? c=Y o->g.get? c=Y o
section
variable {E:au->aA->Prop}{s:aA}
variable {f:aH}{d:Nat->aH}{m:Nat}
def B8(h:a=(bJ n).map λj=>d6<|d j)(c:k<n):(a.zipIdx).drop k=(d6<|d k,k)::(a.zipIdx).drop (k+1):=by
 simp_all [da]
abbrev ZI(s:aA)(z i f:aH)(n:Nat)(d:Nat->aH)(l:Nat->aH)(p:Nat->Array au)(m:Nat)(L:!(au×Nat))(b:↑PySem.Fin×Unit)(s1:aA):Prop:=b=(M,())/\∃(k:Nat) (F:cP) (C:Array au) (x:Nat->au),k<=n/\L=(((bJ n).map λj=>d6<|d j).zipIdx).drop k/\s1={ s with heap:=F }/\ZN F z i f n d l p (λj=>if j<k then m+1 else m) .ellipsis C /\
   (∀j,j<k->(p j)[m]?=Y (x j)/\C[j]?=Y (x j))/\F.objs.size=s.heap.objs.size/\He z f n d s.heap F
def LX{Q:au->aA->Prop}(hh:A.handled=M)(hn:0<n)(hn2:n<=100)(D:ZA z i f n d l)(N:ZN s.heap z i f n d l p (λu=>m) .none r) (hQ:∀g x,(∀j,j<n->(p j)[m]?=Y (x j))->ZN g z i f n d l p (λu=>m+1) (rawInt s.heap.objs.size) ((bJ n).map x).toArray->TupAt g s.heap.objs.size ((bJ n).map x).toArray->g.objs.size=s.heap.objs.size+1 ->
   He z f n d s.heap g->Q (.ref s.heap.objs.size) { s with heap:=g }) (hE:(∃j,j<n/\(p j)[m]?=M)->∀g e,He z f n d s.heap g->(∃o,g.get? e=Y o/\o.cls=.type "StopIteration")->E (.ref e) { s with heap:=g }) :
  bz (bj B w) A (Builtin.«zip.__next__» ([.ref z],[])) (λk8 s'=>∃v,k8=.done (.ret v)/\Q v s') E s:=by
 unfold Builtin.«zip.__next__»;show bz _ _ (field (.ref z) 2 >>= _) _ _ _;refine aB<|SK N.zz W (x :=.bool Z_) W ?_;refine aB<|SK N.zz W W ?_;refine aB<|ZD N.ti W ?_;have YJ:((bJ n).map λj=>d6<|d j).toArray.isEmpty=false:=by cases n<;>simp_all
 simp only[YJ,k_,if_false];refine aB ?_;unfold Builtin.SmallTypes.ownedTupleIsFree;refine aB<|SK N.zz W (x :=.none) W (bD ?_);simp only[if_true];refine aB<|wpAny_rule ?_;refine aB<|SK N.zz W W ?_;refine aB<|uu N.zz Ÿ λh1 z1 k1 =>?_;let N1:=N.Tu D z1 k1;refine aB ?_;refine wpAny_forIn_list _ (ZI s z i f n d l p m) _ ?_ ?_ _ _ (W,0,h1,r,λu =>.none,cZ _,W,W,by simpa using N1,λj H=>Ż,k1.1,λc o I u u e=>k1.extBut _ _ I e)
 .rintro x L b s1 ⟨rfl,k,F,C,J,hk,R,rfl,G,ho,hs,kp⟩;have h:k<n:=by
   obtain z|z:=Nat.lt_or_ge k n
   .exact z
   .rw[V0<|by simpa using z]at R;cases R
  rw[B8 W h]at R;let(rfl,P):=List.cons.inj R;refine aB<|wpAny_onRaise ?_;show bz _ _ (Builtin.SmallTypes.nextOf (.ref<|d k) >>= _) _ _ _;have O:=G.iter k h;simp only[nF,if_false]at O;cases hx:(p k)[m]? with
  |none=>
   refine aB<|wpAny_nextOf_list_end hh O (G.lst k h) hx λh3 e X he =>?_;let(oe,S,hce):=he;have zz3:IsZip h3 z i f .ellipsis:=X _ _ (bw (D.iz k h).1) G.zz;let hez:e≠z:=λq=>by subst q;rw[zz3]at S;cases S<;>lia
   refine uu zz3 Ÿ λh4 u t=>hE (k,h,hx) h4 e (λc o I c2 T q=>t.extBut _ _ I<|X _ _ (T k h)<|kp c o I c2 T q) (oe,t.extBut _ _ hez S,hce)
  |some y=>
   refine aB<|wpAny_nextOf_list_item O (G.lst k h) hx λh3 i3 X=>bD ?_;have K:=G.adv D h (by simpa using i3) X;dsimp only;refine aB<|ZD K.to W ?_;dsimp only;have hsz:C.size<=a7:=by rw[K.sz,kE];lia
   refine aB<|wpAny_updateSeq K.to W ?_ hsz (by simp;omega);have up:TupAt (h3.update f<|uz λq=>q.setIfInBounds k y) f<|C.setIfInBounds k y:=by show Heap.get? _ _=_;rw[Heap.get?_update_self _ K.to W];simp[uz]
   have N4:=K.Tv D up (by simpa using K.sz)<|Heap.SameBut.update ..;refine aB<|wpAny_letGo<|bD ?_;refine(W,k+1,_,C.setIfInBounds k y,λj=>if j=k then y else J j,h,P,W,?_,λj H =>?_,?_,λc o I c2 T q =>?_)
   .have:(λj=>if j=k then (if j<k then m+1 else m)+1 else if j<k then m+1 else m)=λj=>if j<k+1 then m+1 else m:=by
     funext j
     by_cases e:j=k<;>lia
    rw[this]at N4;exact N4
   .by_cases e:j=k
    .subst e;simp only[if_true];exact(hx,by rw[Array.getElem?_setIfInBounds_self_of_lt];rw[G.sz];exact h)
    .simp only[if_neg e];let(a,b):=ho j Ž;exact(a,by rw[Array.getElem?_setIfInBounds_ne<|by solve_by_elim];exact b)
   .rw[Heap.size_update,X.1,hs]
   .exact(Heap.SameBut.update h3 f _).extBut _ _ c2<|X.extBut _ _ (T k h)<|kp c o I c2 T q
 .refine λb s1 xx=>ae λkk =>?_
  let(rfl,k,F,C,J,hk,R,rfl,G,ho,hs,kp):=xx;refine kk ?_;have h:k=n:=by
   obtain z|z:=Nat.lt_or_ge k n
   .rw[B8 W z]at R;cases R
   .lia
  subst h;let afm:C=((bJ k).map J).toArray:=by
   apply Array.ext_getElem?;intro j;by_cases H:j<k
   .rw[(ho j H).2];simp[H]
   .rw[V3<|by rw[G.sz];simp_all]
    symm
    apply V3;simp;lia
  subst afm;dsimp only;refine aB<|ZD G.to W ?_;dsimp only;refine aB<|wpAny_newTuple ?_ (by simp;rw[kE];lia);have zlt:z<F.objs.size:=aQ G.zz;have ext:∀c o,F.get? c=Y o->(F.push { cls :=.type "tuple",data :=.seq ((bJ k).map J).toArray }).get? c=Y o:=λc o q=>ao _ q
  have K:ZN _ z i f k d l p _ .ellipsis ((bJ k).map J).toArray:=
   (ext _ _ G.zz,ext _ _ G.ti,ext _ _ G.to,G.sz,λj H=>(G.iter j H).at<|λo q=>ext _ _ q,λj H=>(G.lst j H).at<|λo q=>ext _ _ q)
  refine aB ?_;unfold Builtin.SmallTypes.ownedTupleHandOut;refine aB<|uu K.zz Ÿ λh4 z4 t =>?_;have N4:=K.Tu D z4 t;refine uu N4.zz Ÿ λh5 z5 k5 =>?_
  have U:=N4.Tu D z5 k5;let tup:TupAt h5 F.objs.size ((bJ k).map J).toArray:=k5.extBut _ _ (j2 zlt)<|t.extBut _ _ (j2 zlt)<|br _ W;let sz5:h5.objs.size=F.objs.size+1:=by rw[k5.1,t.1,gL]
  refine bD (_,W,?_);rw[hs]at U tup sz5;show Q (.ref F.objs.size) _;rw[hs];refine hQ h5 J (λj H=>(ho j H).1) (U.zz,U.ti,U.to,U.sz,λj H=>by simpa [H] using U.iter j H,U.lst) tup sz5 λc o I c2 T q=>(λc o I q=>k5.extBut _ _ I<|t.extBut _ _ I<|ext c o q) c o I<|kp c o I c2 T q
def xb(v:A.handled=M)(k:0<n)(a:n<=100)(D:ZA z i f n d l)(N:ZN s.heap z i f n d l p (λ_=>m) .none r) (F:∀g x,(∀j,j<n->(p j)[m]?=Y (x j))->ZN g z i f n d l p (λ_=>m+1) (rawInt s.heap.objs.size) ((bJ n).map x).toArray->TupAt g s.heap.objs.size ((bJ n).map x).toArray->g.objs.size=s.heap.objs.size+1 ->
   He z f n d s.heap g->Q (Y<|.ref s.heap.objs.size) { s with heap:=g }) (G:(∃j,j<n/\(p j)[m]?=M)->∀g,He z f n d s.heap g->Q M { s with heap:=g }):bz (bj B w) A (pyNext<|.ref z) Q E s:=by
 have b:s.TypeIs (.ref z) _:=(_,N.zz,W);refine aB (wpAny_attempt (wpAny_callSpecial?_slot b PySem.F.slot_zip_next
  (wpAny_call_entry PySem.F.slot_zip_next b PySem.F.entry_zip_next (LX v k a D N (λg x L K J I H=>bD<|F g x L K J I H) λq g e c y =>?_)<|PySem.F.args_zip_next_1 _)))
 let(o,h,C):=y;exact aB<|wpAny_isInstance (o,h,C) isSubtype_stop<|bD<|G q _ c
end
noncomputable def lY{d:Type}(a b c:d):Nat->d
 |0=>a|1=>b|_=>c
def LY(a b c):checkTypeCall "zip" ([a,b,c],[])=c9 ():=by kernel_rfl
def N'(a b c):checkBuiltinCall "zip.__new__" ([.type "zip",a,b,c],[])=c9 ():=by kernel_rfl
def abA(a b c d):argsOk "object.__init__" ([a,b,c,d],[]):=by
 exact ź
noncomputable abbrev itO(l:aH):Obj:={ cls :=.type "list_iterator",data :=.fields #[.ref l,.int 0 0] }
section
variable (h:cP)(a b c:aH)
abbrev zA:cP:=h.push<|itO a
abbrev zB:cP:=(zA h a).push<|itO b
abbrev zC:cP:=(zB h a b).push<|itO c
abbrev zT:cP:=(zC h a b c).push { cls :=.type "tuple",data :=.seq #[.ref h.objs.size,.ref (zA h a).objs.size,.ref (zB h a b).objs.size] }
abbrev zO:cP:=(zT h a b c).push { cls :=.type "tuple",data :=.seq #[.none,.none,.none] }
abbrev zZ:cP:=(zO h a b c).push { cls :=.type "zip",data :=.fields #[.none,.bool Z_,.bool Z_,.ref (zC h a b c).objs.size,.ref (zT h a b c).objs.size] }
end
def HF(a b c)(m l k):
  Meets (Builtin.«zip.__new__» ([.type "zip",.ref a,.ref b,.ref c],[])) (λ_ R s=>s.heap.IsList a m/\s.heap.IsList b l/\s.heap.IsList c k/\R (.ok<|.ret<|.ref (zO s.heap a b c).objs.size) { s with heap:=zZ s.heap a b c }):=
 .of_wp λf w A R s h=>by
  let(q,p,o,h):=h;let n:=sub_zip
  wp_walk using j7 q,j7<|Su p _,j7<|Su (Su o _) _
  exact(_,W,h)
section
variable {f:bh}{s:aA}
def Nw{m}(B:s.heap.IsList a p)(z:s.heap.IsList b n)(y:s.heap.IsList c m) (h:∀d,IsZip d (s.heap.objs.size+5) (s.heap.objs.size+3) (s.heap.objs.size+4) .none->TupAt d (s.heap.objs.size+3) #[.ref s.heap.objs.size,.ref<|s.heap.objs.size+1,.ref<|s.heap.objs.size+2] ->
   TupAt d (s.heap.objs.size+4) #[.none,.none,.none]->d.IsListIter s.heap.objs.size a 0->d.IsListIter (s.heap.objs.size+1) b 0->d.IsListIter (s.heap.objs.size+2) c 0 ->
   (∀c o,s.heap.get? c=Y o->d.get? c=Y o)->Q (.ref<|s.heap.objs.size+5) { s with heap:=d }) :
  bz (bj f w) A (call (.type "zip") [.ref a,.ref b,.ref c]) Q E s:=by
 refine callType_new PySem.F.called_zip Ÿ (LY _ _ _) (N' _ _ _) (λk=>abA k _ _ _) PySem.F.entry_zip_new (HF a b c p n m) (B,z,y,?_);let j:(zA s.heap a).objs.size=s.heap.objs.size+1:=gL ..;have i:(zB s.heap a b).objs.size=s.heap.objs.size+2:=by rw[gL,j]
 have g:(zC s.heap a b c).objs.size=s.heap.objs.size+3:=by rw[gL,i]
 have e:(zT s.heap a b c).objs.size=s.heap.objs.size+4:=by rw[gL,g]
 have q:(zO s.heap a b c).objs.size=s.heap.objs.size+5:=by rw[gL,e]
 have l:(zZ s.heap a b c).get? _=Y _:=br _ W;let r:(zZ s.heap a b c).get? _=Y _:=ao _<|br _ W;let t:(zZ s.heap a b c).get? _=Y _:=ao _<|ao _<|br _ W;let u:(zZ s.heap a b c).get? _=Y _:=ao _<|ao _<|ao _<|br _ W;let v:(zZ s.heap a b c).get? _=Y _:=ao _<|ao _<|ao _<|ao _<|br _ W;show _/\_;rw[g,e,q]at l;rw[e]at r;rw[g,j,i]at t;rw[i]at u;rw[j]at v;rw[q];exact((_,l,W),h _ l t r (_,(ao _<|ao _<|ao _<|ao _<|ao _<|br _ W),W,W) (_,v,W,W) (_,u,W,W) λc o x=>ao _<|ao _<|ao _<|ao _<|ao _<|ao _ x)
end
noncomputable def Zw(K : PySem.W.Frag)(a b c : aH): It :=
  (λi H => ∃g e d x y z,lW K H a g /\ lW K H b e /\ lW K H c d /\ g[i]? = Y x /\ e[i]? = Y y /\ d[i]? = Y z,
   λi H v h => ∃x y z p,(∀g,lW K H a g -> g[i]? = Y x) /\ (∀e,lW K H b e -> e[i]? = Y y) /\ (∀d,lW K H c d -> d[i]? = Y z) /\ H p = M /\ v = .ref p /\ h = cU H p (.tup [x,y,z]),
   λi H => ∃g e d,lW K H a g /\ lW K H b e /\ lW K H c d /\ (g.length <= i \/ e.length <= i \/ d.length <= i))
def ZSt(z l k j g e a b c:aH)(i:Nat)(h:cP):Prop:=∃d,d.size=3/\IsZip h z l k .none/\TupAt h l #[.ref j,.ref g,.ref e]/\TupAt h k d/\h.IsListIter j a i/\h.IsListIter g b i/\h.IsListIter e c i
theorem p9{P:Nat->Prop}(c:P 0)(b:P 1)(a:P 2):∀j,j<3->P j
 |0,_=>c|1,_=>b|2,_=>a
def L_{P:bh}{K}{x1}(a b c z L C J G F)(Z:ZA z L C 3 (lY J G F)<|lY a b c):
  NM P w K (.Tuple agf x1 aee) (Zw K a b c) [z,L,C,J,G,F] z (ZSt z L C J G F a b c) where
 mem:=by solve_by_elim
 obj:=λi h st d hc=>by
  let(p,s0,s1,s2,s3,s4,s5,s6):=st;simp only[aG,iw,or_false]at hc;obtain rfl|rfl|rfl|rfl|rfl|rfl:=hc
  .exact(_,s1,λv z=>by cases z)
  .exact(_,s2,λv z=>by cases z)
  .exact(_,s3,λv z=>by cases z)
  .let(o,e,c,d):=s4;exact(o,e,λv z=>by rw[d]at z;cases z)
  .let(o,e,c,d):=s5;exact(o,e,λv z=>by rw[d]at z;cases z)
  .let(o,e,c,d):=s6;exact(o,e,λv z=>by rw[d]at z;cases z)
 keep:=λi h h' st k=>by let(p,s0,s1,s2,s3,s4,s5,s6):=st;exact(p,s0,k z Ÿ _ s1,k L Ÿ _ s2,k C Ÿ _ s3,s4.at λo q=>k J Ÿ o q,s5.at λo q=>k G Ÿ o q,s6.at λo q=>k F ż o q)
 item:=by
  intro X hP hw hK hc i D s σ H E I hf st hg;subst hP hw hK;let(p,s0,s1,s2,s3,s4,s5,s6):=st;let(xs,ys,zs,x,y,zz,YG,hq2,hq3,m,hy,hzz):=hg;let(T,rv1,p1,hz1):=I.list YG;let(S,rv2,p2,hz2):=I.list hq2;let(R,rv3,p3,hz3):=I.list hq3;let(u1,hu1,ru1):=rv1.get m;let(u2,hu2,ru2):=rv2.get hy;let(u3,hu3,ru3):=rv3.get hzz;let f:∀d∈[z,L,C,J,G,F],AU X D H d:=hf;have N:ZN s.heap z L C 3 (lY J G F) (lY a b c) (lY T.toArray S.toArray R.toArray) (λA=>i) .none p:=(s1,s2,s3,s0,p9 s4 s5 s6,p9 p1.isList p2.isList p3.isList);refine xb (I.ok.hd hc) ſ ſ Z N (λh1 xx t N1 t1 z1 k1 =>?_) λhe =>?_
  .let e1:xx 0=u1:=by have:=t 0 ſ;simp[lY]at this;rw[hu1]at this;cases this;rfl
   let e2:xx 1=u2:=by have:=t 1 ſ;simp[lY]at this;rw[hu2]at this;cases this;rfl
   let e3:xx 2=u3:=by have:=t 2 ſ;simp[lY]at this;rw[hu3]at this;cases this;rfl
   let t1:TupAt h1 s.heap.objs.size #[u1,u2,u3]:=by have:=t1;simpa [JL,e1,e2,e3] using this
   refine(_,W,?_);refine wpAny_letOwnedTupleGo_zip (s:={ s with heap:=h1 }) N1.zz λh2 e2' w2 =>?_
   let hzp:z<s.heap.objs.size:=aQ s1;let hn:H s.heap.objs.size=none:=I.gf.fresh<|aF _;let w2':jw z h1 h2:=w2;have N2:=N1.Tu Z e2' w2';have g:∀d o,d∉[z,L,C,J,G,F]->s.heap.get? d=Y o->h2.get? d=Y o:=λd o l q=>by
    have n1:d≠z:=λe=>l (by simp[e])
    let n2:d≠C:=λe=>l (by simp[e])
    exact(w2'.2 d n1).trans<|k1 d o n1 n2 (p9 (λe=>l<|by simp[e,lY]) (λe=>l<|by simp[e,lY])<|λe=>l<|by simp[e,lY]) q
   let tup:h2.get? s.heap.objs.size=Y { cls :=.type "tuple",data :=.seq #[u1,u2,u3] }:=(w2'.2 _<|j2 hzp).trans t1;have O:∀d o,H d=Y o->d∉[z,L,C,J,G,F]:=λd o q l=>by have:=(f d l).1;rw[this]at q;cases q
   let new:iY X.prog X.w (cU H s.heap.objs.size<|.tup [x,y,zz]) h2 s.heap.objs.size<|.tup [x,y,zz]:=
    (by show 3<=a7;rw[kE];decide,[u1,u2,u3],.cons ru1<|.cons ru2<|.cons ru3 .nil,_,tup,W,_,W)
   let U:nO X.prog X.w (cU H s.heap.objs.size<|.tup [x,y,zz]) h2:=λd o q=>by
    by_cases l:d=s.heap.objs.size
    .subst l;rw[a9]at q;cases q;exact new
    .rw[aO l]at q;refine(I.gf d o q).Bk (λc v B r =>?_) (λc r=>by rw[aO<|bf r hn];exact r) λc ys r=>by rw[aO<|bf r hn];exact r
     obtain rfl|B:=B
     .exact g _ _ (O _ _ q) r
     .exact g _ _ (O _ _ B) r
   have un:Un (EL X.stack) [z,L,C,J,G,F] H (cU H s.heap.objs.size<|.tup [x,y,zz]) s.heap h2:=by
    let Hu:∀b o,s.heap.get? b=Y o->b≠s.heap.objs.size:=λb o q=>bI<|aQ q
    exact(λb o q n A m=>g b o m q,λb o q n A m=>(o.slots,g b o m q),λb o q n m=>by rw[aO<|Hu b o q];exact n,
     λb o q m=>(o,g b o m q),λb ys q=>by rw[aO<|bf q hn];exact q,λb o u q=>by rw[aO<|bf q hn];exact q,λb ps q=>(#[],by rw[aO<|bf q hn];simpa using q))
   let I2:Inv X D σ (cU H s.heap.objs.size<|.tup [x,y,zz]) { s with heap:=h2 }:=I.Lu (s':={ s with heap:=h2 }) W un U I.bare λb l=>((f b l).2.2.2.1,(f b l).2.1,(f b l).2.2.2.2.1,(f b l).2.2.2.2.2)
   refine(.ref s.heap.objs.size,_,I2,W,(x,y,zz,s.heap.objs.size,λq hq=>by rw[I.qL hq YG];exact m,λq hq=>by rw[I.qL hq hq2];exact hy,λq hq=>by rw[I.qL hq hq3];exact hzz,hn,W,W),(_,N2.sz,N2.zz,N2.ti,N2.to,N2.iter 0 ſ,N2.iter 1 ſ,N2.iter 2 ſ),λd hd =>?_);have:d≠s.heap.objs.size:=by
    simp only[aG,iw,or_false]at hd;obtain rfl|rfl|rfl|rfl|rfl|rfl:=hd
    .exact bI hzp
    .exact bI<|aQ s2
    .exact bI<|aQ s3
    .let(o,q,_):=s4;exact bI<|aQ q
    .let(o,q,_):=s5;exact bI<|aQ q
    .let(o,q,_):=s6;exact bI<|aQ q
   rw[aO this];exact(f d hd).1
  .exfalso;let(j,hj,q):=he
   match j,hj,q with
   |0,_,q=>simp[lY]at q;rw[gu.mpr q]at hu1;cases hu1|1,_,q=>simp[lY]at q;rw[gu.mpr q]at hu2;cases hu2|2,_,q=>simp[lY]at q;rw[gu.mpr q]at hu3;cases hu3
 done:=by
  intro X hP hw hK hc i D s σ H E I hf st hg;subst hP hw hK;let(p,s0,s1,s2,s3,s4,s5,s6):=st;let(xs,ys,zs,YG,hq2,hq3,m):=hg;let(T,rv1,p1,hz1):=I.list YG;let(S,rv2,p2,hz2):=I.list hq2;let(R,rv3,p3,hz3):=I.list hq3;let l1:=rv1.length;let l2:=rv2.length;let l3:=rv3.length;let f:∀d∈[z,L,C,J,G,F],AU X D H d:=hf;have N:ZN s.heap z L C 3 (lY J G F) (lY a b c) (lY T.toArray S.toArray R.toArray) (λA=>i) .none p:=(s1,s2,s3,s0,p9 s4 s5 s6,p9 p1.isList p2.isList p3.isList);refine xb (I.ok.hd hc) ſ ſ Z N (λh1 xx t =>?_) λA h' eb=>(W,?_)
  .exfalso;let q1:=t 0 ſ;let q2:=t 1 ſ;let q3:=t 2 ſ;simp[lY]at q1 q2 q3;have:=(ah.mp q1).1;have:=(ah.mp q2).1;have:=(ah.mp q3).1
   lia
  .have O:∀b o,H b=Y o->b∉[z,L,C,J,G,F]:=λb o q l=>by have:=(f b l).1;rw[this]at q;cases q
   have g:∀d o,d∉[z,L,C,J,G,F]->s.heap.get? d=Y o->h'.get? d=Y o:=λd o l q=>eb d o (λe=>l<|by simp[e]) (λe=>l<|by simp[e]) (p9 (λe=>l<|by simp[e,lY]) (λe=>l<|by simp[e,lY])<|λe=>l<|by simp[e,lY]) q
   let U:nO X.prog X.w H h':=λb o q=>by
    refine(I.gf b o q).Bk (λc v B r =>?_) (λc r=>r) λc ys r=>r
    obtain rfl|B:=B
    .exact g _ _ (O _ _ q) r
    .exact g _ _ (O _ _ B) r
   have un:Un (EL X.stack) [z,L,C,J,G,F] H H s.heap h':=
    (λb o q n A m=>g b o m q,λb o q n A m=>(o.slots,g b o m q),λb o q n m=>n,λb o q m=>(o,g b o m q),λb ys q=>q,λb o u q=>q,λb ps q=>(#[],by simpa using q))
   exact I.Lu (s':={ s with heap:=h' }) W un U I.bare λb l=>((f b l).2.2.2.1,(f b l).2.1,(f b l).2.2.2.2.1,(f b l).2.2.2.2.2)
 self:=λA i s Q E st h=>by let(p,s0,s1,_):=st;exact wpAny_pyIter_zip s1 h
section
variable {X:Cx}{f:DF}
def YC(K:aV)(k:TA):TI:=λe H R=>k e H λj d=>∃a b c,j=[.ref a,.ref b,.ref c]/\(∃i,lW K d a i)/\(∃h,lW K d b h)/\(∃f,lW K d c f)/\R (Zw K a b c) d
def cf.three(r:cf [x,y,z] a):∃u v w,a=[u,v,w]/\RelV x u/\RelV y v/\RelV z w:=by
 cases r with
 | cons d t=>cases t with
  | cons c t=>cases t with
   |cons b t=>cases t;exact(_,_,_,W,d,c,b)
def TZ{x1}(hg:Gl X "zip")(hm:X.mg "zip" = M)(ha:PA X [e,l,g] ta)(hs:@&(ak [e,l,g] X.env=[(Z_,eval e X.env),(Z_,eval l X.env),(Z_,eval g X.env)]))(K:@&(ak [l,g] X.env=[(Z_,eval l X.env),(Z_,eval g X.env)]))(hv:autoParam (eN "zip" = Y (.type "zip")) ţ):PI X (.Tuple L x1 t) (.Call (.Name "zip" p) [e,l,g] [] x)<|YC X.K ta:=by
 intro D s σ H R I h;refine Call_<|pz I hg hm hv<|fO (eP (ha x D s σ H _ I h) ?_) (by rw[hs,K]) (by rw[K];exact Ÿ);rintro us f ⟨vs,H1,r,r1,q1⟩;obtain⟨a,b,c,rfl,⟨xs,P⟩,⟨ys,O⟩,⟨zs,N⟩,q⟩:=q1;let(u,v,w,rfl,ru,rv,n):=cf.three r1;cases ru;cases rv;cases n;let(aik,rx1,C,hz1):=r.list P;let(aij,rx2,B,hz2):=r.list O;let(aii,rx3,y,hz3):=r.list N;let(oa,T,_):=C.isList;let(ob,S,_):=B.isList;let(oc,Q,_):=y.isList;let J:=aQ T;let G:=aQ S;let F:=aQ Q;refine Nw C.isList B.isList y.isList λh' z1 z2 z3 z4 z5 z6 k1 =>?_
 refine wpAny_pyIter_zip z1 ?_;have i:∀k:Nat,H1 (f.heap.objs.size+k)=none:=λk=>r.gf.fresh<|fV _ _
 have m:∀ {d:aH}(k:Nat),d<f.heap.objs.size->d≠f.heap.objs.size+k:=fun {d} k h z=>by rw[z]at h;exact absurd h<|Nat.not_lt.mpr<|fV _ _
 have o:∀j k:Nat,j≠k->f.heap.objs.size+j≠f.heap.objs.size+k:=λj k h z=>h<|Nat.add_left_cancel z
 let Z:ZA (f.heap.objs.size+5) (f.heap.objs.size+3) (f.heap.objs.size+4) 3 (lY (f.heap.objs.size+0) (f.heap.objs.size+1)<|f.heap.objs.size+2)<|lY a b c:=by
  refine(o 3 5 ſ,o 4 5 ſ,o 3 4 ſ,p9 (o 0 5 ſ,o 0 3 ſ,o 0 4 ſ) (o 1 5 ſ,o 1 3 ſ,o 1 4 ſ) (o 2 5 ſ,o 2 3 ſ,o 2 4 ſ),λj k hj hk U =>?_,?_)
  .have E:∀j,j<3->lY (f.heap.objs.size+0) (f.heap.objs.size+1) (f.heap.objs.size+2) j=f.heap.objs.size+j:=p9 W W W;rw[E j hj,E k hk];exact o j k U
  .exact p9 (m 5 J,m 4 J,p9 (m 0 J) (m 1 J)<|m 2 J) (m 5 G,m 4 G,p9 (m 0 G) (m 1 G)<|m 2 G) (m 5 F,m 4 F,p9 (m 0 F) (m 1 F)<|m 2 F)
 refine(f.heap.objs.size+5,_,_,_,H1,W,r.kept k1,
  L_ a b c (f.heap.objs.size+5) (f.heap.objs.size+3) (f.heap.objs.size+4) (f.heap.objs.size+0) (f.heap.objs.size+1) (f.heap.objs.size+2) Z,(_,W,z1,z2,z3,z4,z5,z6),λd hd =>?_,q)
 simp only[aG,iw,or_false]at hd;obtain rfl|rfl|rfl|rfl|rfl|rfl:=hd
 .exact r.Aq (fV _ _)<|i 5
 .exact r.Aq (fV _ _)<|i 3
 .exact r.Aq (fV _ _)<|i 4
 .exact r.Aq (fV _ _)<|i 0
 .exact r.Aq (fV _ _)<|i 1
 .exact r.Aq (fV _ _)<|i 2
noncomputable def nZ:!D->!D->!D->!D
 |x::c,y::b,z::a =>.tup [x,y,z]::nZ c b a|_,_,_=>[]
theorem vR:∀c b a,(nZ c b a).length=min c.length (min b.length a.length)
 |[],b,a=>by trivial
 |x::c,[],a=>by trivial
 |x::c,y::b,[]=>by trivial
 |x::c,y::b,z::a=>by simp[nZ,vR c b a]
theorem BP:∀ {c b a:!D}{i:Nat}{d:D},(nZ c b a)[i]?=Y d->∃x y z,c[i]?=Y x/\b[i]?=Y y/\a[i]?=Y z/\d=.tup [x,y,z]
 |[],b,a,i,d,h=>by simp[nZ]at h
 |x::c,[],a,i,d,h=>by simp[nZ]at h
 |x::c,y::b,[],i,d,h=>by simp[nZ]at h
 |x::c,y::b,z::a,0,d,h=>by simp[nZ]at h;exact(x,y,z,W,W,W,h.symm)
 |x::c,y::b,z::a,i+1,d,h=>by simp only[nZ,List.getElem?_cons_succ]at h ⊢;exact BP h
def MV{K}{f e}(g:G a=Y (.lst f))(L:G b=Y (.lst h))(J:G c=Y (.lst e))(r:aZ K G ds f)(U:aZ K G es h)(o:aZ K G fs e):JI K G (Zw K a b c)<|nZ ds es fs:=by
 let l1:=r.length;let l2:=U.length;let l3:=o.length;refine(λi H s I =>?_,λi H s I=>(f,h,e,.of<|s _ _ g,.of<|s _ _ L,.of<|s _ _ J,by rw[vR]at I;lia),λi H x H' G1 d v k (y,T,j,p,P,O,N,X,ev,eh) hd =>?_)
 .rw[vR]at I;have P:i<f.length:=ŷ
  have O:i<h.length:=ŷ
  have N:i<e.length:=ŷ
  exact(f,h,e,f[i],h[i],e[i],.of<|s _ _ g,.of<|s _ _ L,.of<|s _ _ J,ż,ż,ż)
 .let(c1,c2,c3,S,R,Q,rfl):=BP hd;let F:=P f<|.of<|k _ _<|v _ _ g;let E:=O h<|.of<|k _ _<|v _ _ L;let C:=N e<|.of<|k _ _<|v _ _ J;let(v1,u,B):=r.get S;let(v2,t,z):=U.get R;let(v3,q,w):=o.get Q;rw[F]at u;cases u;rw[E]at t;cases t;rw[C]at q;cases q;subst ev eh;have m:=v.trans<|.alloc (o :=.tup [y,T,j]) (k.free X);exact(cU G1 p<|.tup [y,T,j],fT.alloc k X,cQ.mpr (p,_,W,a9,.cons (cS.mono m c1 B)<|.cons (cS.mono m c2 z)<|.cons (cS.mono m c3 w) .nil))
def iZ3(f n A:DF):DL:=λa=>(iL f a).bind λd=>(iL n a).bind λc=>(iL A a).map λb=>nZ d c b
def Vo{O}{m:Pos}(hg:Gl X "zip")(hm:X.mg "zip" = M)(h:PE X e<|tP X.K Z f)(h':PE X l<|tP X.K Z n)(E:PE X g<|tP X.K Z A)(hs:@&(ak [e,l,g] X.env=[(Z_,eval e X.env),(Z_,eval l X.env),(Z_,eval g X.env)]))(C:@&(ak [l,g] X.env=[(Z_,eval l X.env),(Z_,eval g X.env)]))(D:@&(ak [e,l,g] X.env=(Z_,eval e X.env)::ak [l,g] X.env))(B:@&(ak [l,g] X.env=(Z_,eval l X.env)::ak [g] X.env))(z:@&(ak [g] X.env=(Z_,eval g X.env)::ak [] X.env)):
  PI X (.Tuple r O m) (.Call (.Name "zip" p) [e,l,g] [] y) (A9 X.K Z<|iZ3 f n A):=(TZ hg hm (jf h (jf h' (jf E qY z) B) D) hs C).imp <|by
 rintro σ H R ⟨G,u,ds,gh,F,j,k⟩;let(N,ef,j):=aa.1 j;rcases i:iL n u with _|Da
 .simp[i]at j
 rcases d:iL A u with _|L
 .simp_all
 simp only[i,d,aw,cE]at j;cases j;refine(G,u,[.lst N,.lst Da,.lst L],gh,F,?_,λvs G1 H1 s r1 =>?_)
 .simp_all [aC,aN,DD,aw]
 .refine ae λkk =>?_
  let(v,t,rfl,rv,rt):=aW.mp r1;let(v',t',rfl,w,x):=aW.mp rt;let(T,U,rfl,o,q):=aW.mp x;have:=cx.mp q;subst this;let(a,S,rfl,K,ra):=cu.mp rv;let(b,Q,rfl,J,rb):=cu.mp w;let(c,P,rfl,I,rc):=cu.mp o;exact kk<|(a,b,c,W,(S,.of<|s.gh _ _ K),(Q,.of<|s.gh _ _ J),(P,.of<|s.gh _ _ I),k _ G1 H1 s<|MV K J I ra rb rc)
end
structure TB(kd:SortKind)(a0:Array Keyed)(st:SortSt):Prop where
 pm:(cT st).Perm a0
 kn:kindOf st=kd
 fl:failedOf st=none
 pd:EO st=#[]
noncomputable def kx(o:au->Int)(a:Array Keyed)(i:Nat):Int:=((a[i]?).map λp=>o p.1).getD 0
def Up(o:au->Int)(a:Array Keyed)(k:Nat):Prop:=∀i j,i<j->j<k->kx o a i<kx o a j
def Dn(o:au->Int)(a:Array Keyed)(k:Nat):Prop:=∀i j,i<j->j<k->kx o a j<kx o a i
def Df(o:au->Int)(a:Array Keyed):Prop:=(a.toList.map λp=>o p.1).Nodup
def Df.perm(h:Df o a)(p:b.Perm a):Df o b:=by
 let q:=(qj.mp p).map λp=>o p.1
 exact q.nodup_iff.mpr h
def Df.ne(h:Df o a){i j}(d:i<a.size)(c:j<a.size)(b:i≠j):kx o a i≠kx o a j:=by
 intro e;have g:kx o a i=(a.toList.map λp=>o p.1)[i]'(by simpa using d):=by simp[kx,d]
 have f:kx o a j=(a.toList.map λp=>o p.1)[j]'(by simpa using c):=by simp[kx,c]
 rw[g,f]at e;obtain z|z:=Nat.lt_or_gt_of_ne b
 .exact rG.mp h i j _ _ z e
 .exact rG.mp h j i _ _ z e.symm
section
variable {s:aA}
def TB.size{a}(h:TB kd a0 a):(cT a).size=a0.size:=h.pm.size_eq
def TB.arr(h:TB kd a0 a)(p:b.Perm<|cT a):TB kd a0<|setArr a b:=(p.trans h.pm,h.kn,h.fl,h.pd)
def TB.ne(h:TB kd a0 a)(d:Df o a0){i j}(e:i<a0.size)(c:j<a0.size)(b:i≠j):kx o (cT a) i≠kx o (cT a) j:=
 (d.perm h.pm).ne (by rw[h.size];exact e) (by rw[h.size];exact c) b
def Cmp(prog:bh)(w:cW)(A:gM)(E:au->aA->Prop)(s:aA)(a0:Array Keyed)(kd:SortKind)(o:au->Int):Prop:=
 ∀(a:SortSt) (i j:Nat) (Q:↑Bool->SortSt->Prop),TB kd a0 a->i<a0.size->j<a0.size->i≠j->Q (Y<|decide (kx o (cT a) i<kx o (cT a) j)) a->wpS (bj prog w) A E s (ltAt' i j) Q a
def Up.more{i:Nat}(u:Up o c i)(g:1<=i)(h:kx o c (i-1)<kx o c i):Up o c<|i+1:=λa b d j=>by
 by_cases e:b=i
 .subst e;by_cases f:a=b-1
  .simp_all
  .exact EH (u a _ Ž ž) h
 .exact u a b d Ž
def Dn.more{i:Nat}(u:Dn o c i)(g:1<=i)(h:kx o c i<kx o c (i-1)):Dn o c<|i+1:=λa b d j=>by
 by_cases e:b=i
 .subst e;by_cases f:a=b-1
  .simp_all
  .exact EH h<|u a _ Ž ž
 .exact u a b d Ž
def JQ{m:Nat}(C:Cmp prog w A E s a0 kd o)(d:Df o a0)(B:TB kd a0 b)(n:m<=a0.size)(p:1<=a)(j:a<=m)(u:Up o (cT b) a)(h:∀i,a<=i->i<=m->Up o (cT b) i->(i=m\/kx o (cT b) i<kx o (cT b) (i-1))->Q (M,i) b):wpS (bj prog w) A E s (ascLoop a m) Q b:=by
 refine xA (I:=λi c t=>c=(M,i)/\t=b/\Up o (cT b) i) (λi c t g l k =>?_) (λc t k =>?_) (W,W,u)
 .let(rfl,rfl,f):=k;refine cR<|C _ i (i-1) _ B ž Ž Ž ?_;dsimp only;by_cases e:kx o (cT t) i<kx o (cT t) (i-1)
  .rw[decide_eq_true e,if_pos W];exact fD<|h i g ž f<|.inr e
  .rw[decide_eq_false e];have:=B.ne d (i:=i-1) (j:=i) Ž Ž Ž;exact fD (W,W,f.more ž Ž)
 simp_all
def L0{m:Nat}(C:Cmp prog w A E s a0 kd o)(d:Df o a0)(B:TB kd a0 b)(n:m<=a0.size)(p:1<=a)(j:a<=m)(u:Dn o (cT b) a)(h:∀i,a<=i->i<=m->Dn o (cT b) i->Q (M,i,0) b):wpS (bj prog w) A E s (descLoop a m) Q b:=by
 refine xA (I:=λi c t=>c=(M,i,0)/\t=b/\Dn o (cT b) i) (λi c t g l k =>?_) (λc t k =>?_) (W,W,u)
 .let(rfl,rfl,f):=k;refine cR<|C _ i (i-1) _ B Ž Ž Ž ?_;dsimp only;by_cases e:kx o (cT t) i<kx o (cT t) (i-1)
  .rw[decide_eq_true e];exact fD (W,W,f.more Ž e)
  .rw[decide_eq_false e];refine cR<|C _ (i-1) i _ B Ž Ž Ž ?_;have:=B.ne d (i:=i-1) (j:=i) Ž Ž Ž;dsimp only;rw[decide_eq_true<|by lia];exact fD<|h i g ž f
 simp_all
def HM(b:n<=a.size)(u:Dn o a n):Up o (mirror a 0 n<|(n-0)/2) n:=λi j e d=>by
 have g:∀k,k<n->kx o _ k=kx o a _:=λk c=>by unfold kx;rw[getElem?_mirror_all b k,if_pos (cZ _,c),jZ]
 rw[g i (by lia),g j d];exact u _ _ ž ž
def Xv{m:Nat}(C:Cmp prog w A E s a0 kd o)(d:Df o a0)(B:TB kd a0 c)(I:m=a0.size)(G:1<=m)(h:∀i t,TB kd a0 t->1<=i->i<=m->Up o (cT t) i->Q (Y i) t):wpS (bj prog w) A E s (countRun' 0 m) Q c:=by
 rw[countRun0_eq];refine cR<|JQ C d B Ż (aF 1) G (λi j D J=>Ż) λi g f l q =>?_;dsimp only;by_cases e:i=m
 .subst e;rw[if_pos<|by simp];exact fD<|h i c B g f l
 .rw[if_neg<|by simpa using e];let q:kx o (cT c) i<kx o (cT c) (i-1):=by obtain z|z:=q<;>trivial
  by_cases r:i > 1
  .rw[if_pos r];refine cR<|C _ _ _ _ B Ž ž (by show 0≠i-1;lia) ?_;dsimp only;rw[decide_eq_true<|l 0 (i-1) (by lia) (by omega),if_pos W];exact fD<|h i c B g f l
  .rw[if_neg r];have:i=1:=by lia
   subst this;unfold descPart;refine cR<|wpS_lift<|wpAny_rule (W,?_);refine cR<|L0 C d B Ž ž Ž (Dn.more (i:=1) (λa b F K=>Ż) (aF 1) q) λj y p H =>?_;dsimp only;rw[if_neg<|by decide];unfold tail3;rw[reverseSlice'_eq];refine cR<|wpS_modify ?_;have u:TB kd a0<|setArr c<|mirror (cT c) 0 j<|(j-0)/2:=B.arr<|mirror_perm _ _ _ _;refine cR<|JQ C d u Ž Ž p (HM (by rw[B.size];simp_all) H) λk x n v a =>?_;exact fD<|h k _ u Ž n v
def W5(f:k<a.size)(n:l<=k)(u:Up o a k)(e:∀i,i<l->kx o a i<kx o a k)(h:∀i,l<=i->i<k->kx o a k<kx o a i):Up o (bubble a k<|k-l)<|k+1:=λi j b p=>by
 have g:∀q,kx o (bubble a k<|k-l) q=if q=l then kx o a k else if l<q/\q<=k then kx o a (q-1) else kx o a q:=λq=>by
  unfold kx;rw[getElem?_bubble f (k-l) (by simp) q,show k-(k-l)=l by lia];split
  .exact Ÿ
  .split<;>solve_by_elim
 rw[g i,g j];by_cases d:i=l
 .rw[if_pos d,if_neg (by lia),if_pos<|by lia];exact h _ Ž ž
 .rw[if_neg d];by_cases c:j=l
  .rw[if_pos c,if_neg<|by lia];exact e _ ž
  .rw[if_neg c];by_cases s:l<i
   .rw[if_pos (by lia),if_pos<|by lia];exact u _ _ ž ž
   .rw[if_neg<|by lia];by_cases r:l<j
    .grind
    .rw[if_neg<|by lia];exact u _ _ b Ž
def TM{m:Nat}(C:Cmp prog w A E s a0 kd o)(d:Df o a0)(B:TB kd a0 y)(T:n=a0.size)(K:1<=m)(U:m<=n)(u:Up o (cT y) m)(h:∀t,TB kd a0 t->Up o (cT t) n->Q Z' t):wpS (bj prog w) A E s (binarySort' 0 n m) Q y:=by
 rw[binarySort'_eq];simp only[jZ];let z:max m 1=m:=by simp_all
 rw[z];refine cR<|wpS_mono (xA (I:=λk c t=>c=(M,())/\TB kd a0 t/\Up o (cT t) k) (Q:=λc t=>c=(M,())/\TB kd a0 t/\Up o (cT t) n) (λk c t Da L D =>?_) (λc t D =>?_) (W,B,u)) λc t J =>?_
 .let(rfl,g,a):=D;refine cR (wpS_mono (xA (I:=λq c b=>b=t/\∃l r,c=(M,l,r)/\l<=r/\r<=k/\r-l<=k-q/\(∀i,i<l->kx o (cT t) i<kx o (cT t) k)/\(∀i,r<=i->i<k->kx o (cT t) k<kx o (cT t) i))
   (Q:=λc b=>b=t/\∃l,c=(M,l,l)/\l<=k/\(∀i,i<l->kx o (cT t) i<kx o (cT t) k)/\(∀i,l<=i->i<k->kx o (cT t) k<kx o (cT t) i)) (λq c b I H p =>?_) (λc b p =>?_) (W,0,k,W,cZ _,aF _,ż,λi f=>Ż,λi f N=>ŷ)) λc b p =>?_)
  .refine ae λkk =>?_
   let(rfl,l,r,rfl,G,v,R,j,f):=p;refine kk ?_;dsimp only;by_cases e:l ≥ r
   .rw[if_pos e];have:l=r:=by lia
    subst this;exact fD (W,l,W,v,j,f)
   .rw[if_neg e];obtain⟨p,hp,p0,p1⟩:∃p,(l+r)/2=p/\l<=p/\p<r:=(_,W,Ž,Ž);rw[hp];refine cR<|C _ _ _ _ g ž ŷ ŷ ?_;dsimp only;by_cases x:kx o (cT b) k<kx o (cT b) (p)
    .rw[decide_eq_true x,if_pos W];refine fD (W,l,p,W,ž,ŷ,ŷ,j,λi P O =>?_);by_cases F:i=p
     .subst F;exact x
     .exact EH x<|a _ _ Ž O
    .rw[decide_eq_false x,if_neg<|by decide];have S:=g.ne d (i:=k) (j:=p) Ż ŷ ŷ;refine fD (W,p+1,r,W,by trivial,v,ŷ,λi P =>?_,f);by_cases F:i=p
     .subst F;lia
     .have:=a i (p) Ž ž
      lia
  .let(rfl,l,r,rfl,G,v,R,j,f):=p;have:l=r:=by grind
   simp_all
  .let(rfl,l,rfl,lk,j,f):=p;dsimp only;rw[moveDown'_eq];exact cR<|wpS_modify<|fD (W,g.arr<|bubble_perm _ _ _,W5 (by rw[g.size];lia) lk a j f)
 .simp_all
 .let(rfl,g,a):=J;exact fD<|h t g a
def OK{st:SortSt}{Q:Unit->SortSt->Prop}(C:Cmp prog w A E s a0 kd o)(d:Df o a0)(B:TB kd a0 st)(P:2<=a0.size)(m:a0.size<64)(h:∀t,(cT t).Perm a0->failedOf t=M->Up o (cT t) a0.size->Q () t):wpS (bj prog w) A E s sortRuns' Q st:=by
 rw[sortRuns'_eq];refine cR<|wpS_get ?_;dsimp only;have I:=by
  have:∀n,0<n->n<64->minRun' n n 0=n:=λn R N=>by
   cases n with|zero=>rfl|succ f=>rw[minRun'_succ,if_pos N,Nat.add_zero]
  exact this _ Ž m
 rw[B.size,I];refine cR (wpS_mono (xA (I:=λx c t=>if x=0 then c=(M,0)/\TB kd a0 t else c=(M,a0.size)/\(cT t).Perm a0/\failedOf t=M/\(EO t).size=1/\Up o (cT t) a0.size)
  (Q:=λc t=>c=(M,a0.size)/\(cT t).Perm a0/\failedOf t=M/\(EO t).size=1/\Up o (cT t) a0.size) (λx c t K J g =>?_) (λc t g =>?_) (by trivial)) λc t S =>?_)
 .by_cases e:x=0
  .subst e;simp only[if_true]at g;let(rfl,O):=g;dsimp only;rw[if_neg (by lia),Nat.sub_zero];have k8:∀a,TB kd a0 a->Up o (cT a) a0.size->(cT _).Perm a0/\failedOf _=M/\(EO<|setPending a<|(EO a).push (0,a0.size,0)).size=1/\Up o _ a0.size:=λa b u=>(b.pm,b.fl,by rw[b.pd];rfl,u)
   refine cR<|Xv C d O W (by trivial) λi D r k j v =>?_;dsimp only;by_cases F:i<a0.size
   .rw[if_pos F];refine cR<|wpS_lift<|wpAny_rule (W,?_);rw[VV];refine cR<|TM C d r W k j v λy G H =>?_;simp only[Bool.not_true,k_,if_false];refine cR<|wpS_get ?_;rw[show (EO y).back? = M by rw[G.pd];rfl];dsimp only;refine cR<|wpS_modify<|fD ?_;simp only[jZ];exact(ż,k8 y G H)
   .rw[if_neg F];have:i=a0.size:=by lia
    subst this;refine cR<|wpS_get ?_;rw[show (EO D).back? = M by rw[r.pd];rfl];dsimp only;refine cR<|wpS_modify<|fD ?_;simp only[jZ];exact(ż,k8 D r v)
  .simp only[if_neg e]at g;let(rfl,L):=g;dsimp only;rw[if_pos<|aF _];exact fD (W,L)
 .have:max 0 a0.size≠0:=by lia
  rw[if_neg this]at g;exact g
 .let(rfl,p,f,q,u):=S;dsimp only;refine cR (wpS_mono (xA (I:=λT c a=>a=t/\c=(M,())) (λx c a T T l =>?_) (λT T z=>z) (W,W)) λc a l =>?_)
  .let(rfl,rfl):=l;refine cR<|wpS_get ?_;rw[if_pos<|by simp_all];exact fD (W,W)
  .let(rfl,rfl):=l;exact fD<|h a p f u
def lH(h:cP)(v:au)(n:Int):Prop:=∃a o b k t,v=.ref a/\h.get? a=Y o/\o.cls=.type "tuple" /\o.data=.seq b k/\b[0]?=Y (.int n t)
noncomputable def oE(h:cP):au->Int
 | .ref a=>match h.get? a with
  | some o=>match o.data with
   | .seq (b:Array au) _=>match (b[0]? : ↑au) with
    |some (So n _)=>n|_=>0
   |_=>0
  |none=>0
 |_=>0
def lH.key{v:au}(x:lH h v n):oE h v=n:=by
 let(a,o,b,k,t,rfl,_):=x
 simp_all [oE]
def lH.keep{v:au}(x:lH h v n)(k:∀a o,h.get? a=Y o->c.get? a=Y o):lH c v n:=by
 let(a,o,b,e,t,rfl,f,d):=x;exact(a,o,b,e,t,W,k a o f,d)
def Qp{m:Int}(q:lH s.heap x m)(p:lH s.heap y n)(g:m≠n)(h:Q (decide (m<n)) s):bz (bj prog w) A (keyLt' (tuples' Z') x y) Q E s:=by
 let(a,o,d,k,t,rfl,v,J,u,r):=q;let(b,H,c,I,l,rfl,D,K,C,B):=p;refine aB<|listItems_at v u<|aB<|listItems_at D C ?_;obtain⟨j,G⟩:∃j,d.toList=.int m t::j:=by
  have:d.toList[0]?=Y (.int m t):=by simpa using r
  cases e:d.toList<;>simp_all
 obtain⟨i,F⟩:∃i,c.toList=.int n l::i:=by
  have:c.toList[0]?=Y (.int n l):=by simpa using B
  cases e:c.toList<;>simp_all
 rw[G,F];simp only[dF,uA,List.forIn_cons];refine aB<|aB<|aB<|wpAny_eqBool_int ?_;have:(m==n)=false:=by simpa using g
 rw[this];simp;exact aB<|oneLt_int<|bD<|bD<|bD h
def Jh{v:au}(d:lH s.heap v n)(h:∀t,Q (Y<|.int n t) s):bz (bj prog w) A (firstOfTuple' v) Q E s:=by
 let(a,o,b,k,t,rfl,c,g,f,e):=d;refine aB<|wpAny_typeOf (o,c,g) ?_;refine aB<|listItems_at c f<|bD ?_;rw[e];exact h t
def Nc{s:aA}{Q:!(↑au)->aA->Prop}(q:Paired (lH s.heap) b c)(h:∀a,Paired (λf n=>∃t,f=Y (So n t)) a c->Q a s):bz (bj prog w) A (b.mapM firstOfTuple') Q E s:=by
 induction q generalizing Q with
 |nil=>solve_by_elim|cons r t i=>rw[List.mapM_cons];exact aB<|Jh r λd=>aB<|i λa e=>bD<|h _<|.cons (d,W) e
def Ot{a}(q:Paired (λf n=>∃t,f=Y (So n t)) a c):(a.filterMap id).mapM typeOf=c9 (c.map λ_=>uy "int")/\a.all (·.isSome)=true:=by
 induction q with
 |nil=>trivial|cons x r i=>
  let(g,d):=i;let(t,rfl):=x;rw[ik];simp only[id,List.mapM_cons,g]
  exact Ÿ
def UK{Q:SortKind->aA->Prop}(f:Paired (lH s.heap) c d)(k:c≠[])(h:Q (tuples' Z') s):bz (bj prog w) A (keyKind' c.toArray) Q E s:=by
 rw[keyKind'_eq,List.mapM_toArray];refine aB ?_;refine aB<|Nc f λe j=>bD ?_;let(i,g):=Ot j;rw[if_pos<|by grind];rw[oneTypeOnly'_eq];have m:(e.toArray.filterMap id).mapM typeOf=c9 (d.map λ_=>uy "int").toArray:=by
  have:e.toArray.filterMap id=(e.filterMap id).toArray:=by grind
  rw[this,List.mapM_toArray,i];exact Ÿ
 rw[m];simp only[pure_bind];obtain⟨n,a,rfl⟩:∃n a,d=n::a:=by cases f<;>solve_by_elim
 let l:(EF (λ_=>uy "int")<|n::a).toArray[0]?=Y (uy "int"):=by rfl
 rw[l];let b:((EF (λ_=>uy "int")<|n::a).toArray.all λx=>x==uy "int")=true:=by simp
 simp only[b,if_true,pure_bind]
 exact Ÿ
def Mx(h:p∈(xB a).toList):p.1=p.2/\p.1∈a:=by
 rw[pairsOf_toList]at h;exact mem_zip_self h
def pq(h:Paired (lH b) c d):∀v∈c,lH b v<|oE b v:=by
 induction h with
 |nil=>simp_all|cons r t ih=>
  intro v a;obtain rfl|a:=aG.mp a
  .rw[r.key];exact r
  simp_all
def FQ(h:Paired (lH s.heap) a b):a.map (oE s.heap)=b:=by
 induction h with|nil=>rfl|cons r t ih=>rw[bg,r.key,ih]
def Vx{f:!Int}(g:Paired (lH s.heap) a f)(o:f.Nodup):Cmp prog w A E s (xB a) (tuples' Z') (oE s.heap)/\Df (oE s.heap) (xB a):=by
 have l:Df (oE s.heap)<|xB a:=by
  unfold Df;rw[pairsOf_toList];have:((a.zip a).map λp=>oE s.heap p.1)=a.map (oE s.heap):=by have:=congrArg (EF<|oE s.heap)<|List.map_fst_zip (l₁:=a) (l₂:=a) (aF _);rw[j3]at this;exact this
  rw[this,FQ g];exact o
 refine(λst i j Q B d k e h =>?_,l);have c:∀i,i<(xB a).size->∃x p,(cT st)[i]?=Y (x,p)/\lH s.heap x (kx (oE s.heap) (cT st) i):=λi d=>by
  have b:i<(cT st).size:=by rw[B.size];exact d
  let r:(cT st)[i]∈(xB a).toList:=(qj.mp B.pm).mem_iff.mp ż;refine((cT st)[i].1,(cT st)[i].2,getElem?_pos _ i b,?_);simpa [kx,b] using pq g _ (Mx r).2
 let(x,p,u,n):=c i d;let(y,q,t,m):=c j k;rw[ltAt'_eq];refine cR<|wpS_get ?_;show wpS _ _ _ _ (do let x <- elem' (cT st) i;let y <- elem' (cT st) j;lt' x y) Q st;rw[elem'_eq,elem'_eq,u,t];refine cR<|fD<|cR<|fD ?_;rw[lt'_eq];refine cR<|wpS_get ?_;rw[B.kn];refine cR<|wpS_lift<|wpAny_attempt<|Qp n m (B.ne l d k e) (W,?_);exact fD h
def Hf(h:cP)(b:!au)(a:Array au):Prop:=a.toList.Perm b/\(a.toList.map<|oE h).Pairwise (· < ·)
def Pk{xs}(g:xs.Perm<|xB a)(u:Up (oE s.heap) xs (xB a).size):Hf s.heap a (xs.map (·.2)):=by
 have h:xs.toList.Perm<|a.zip a:=by rw[<- pairsOf_toList];exact qj.mp g
 have e:(xs.map (·.2)).toList=xs.toList.map (·.1):=by rw[Array.toList_map];exact ij λp c=>(mem_zip_self<|h.mem_iff.mp c).1.symm
 refine(?_,?_)
 .rw[e];have:=h.map (·.1)
  simp_all [List.map_fst_zip,aF]
 .rw[e,j3,rG];intro i j l k d;have f:=by simpa using l
  have b:=by simpa using k
  have:=u i j d (by rw[<- g.size_eq];exact b)
  simp_all [kx]
def FR(f:Paired (lH h) b d)(k:∀a o,h.get? a=Y o->e.get? a=Y o):Paired (lH e) b d:=by
 induction f with|nil=>exact .nil|cons r t ih=>exact .cons (r.keep k) ih
def MS{v}(x:lH h v n)(k:∀a o,h.get? a=Y o->b.get? a=Y o):oE b v=oE h v:=by rw[x.key,(x.keep k).key]
def Hf.back{f:cP}(i:Paired (lH h) d g)(k:∀a o,h.get? a=Y o->f.get? a=Y o)(o:Hf f d b):Hf h d b:=by
 refine(o.1,?_);let e:=ij λv j=>by exact(MS (pq i v<|o.1.mem_iff.mp j) k).symm
 rw[e];exact o.2
def OJ{P}(K:s.heap.get? a=Y (Hw "list" g.toArray n))(F:Paired (lH s.heap) g I)(R:∀v∈g,v ≠ .ref a)(hn:I.Nodup)(Da:g.length<64)(h:∀f,Hf s.heap g f->P (.done<|.ret .none) { s with heap:=sortedHeap s.heap a g f }):bz (bj c w) A (Builtin.«list.sort» ([.ref a],[])) P E s:=by
 rw[list_sort_plain];refine aB<|listItems_at K W ?_;refine aB<|listUpdate_at K W ?_;let T:=get?_update_seq K<|λi =>#[];refine aB<|seqEpoch_at T W ?_;refine aB<|wpAny_newTuple ?_;refine aB<|wpAny_newList ?_;refine w8 ?_;have y:=ao (Hw "list" #[] 0)<|ao (Hw "tuple" g.toArray 0) T;generalize S:(((s.heap.update a<|uz λi =>#[]).push<|Hw "tuple" g.toArray 0).push<|Hw "list" #[] 0)=l at y;have O:∀b o,b≠a->s.heap.get? b=Y o->l.get? b=Y o:=λb o L q=>by rw[<- S];refine ao _<|ao _ ?_;rw[nW _ _<|bw L];exact q
 have x:Paired (lH l) g I:=by
  have:∀ {D:!au}{J:!Int},Paired (lH s.heap) D J->(∀v∈D,v ≠ .ref a)->Paired (lH l) D J:=by
   intro D J G
   induction G with
   |nil=>intro _;exact .nil
   |cons r t ih=>intro Q;refine .cons ?_<|ih λv F=>Q v<|ay _ F;let(b,o,m,k,N,rfl,H,p):=r;exact(b,o,m,k,N,W,O b o (λz=>Q _ az<|by rw[z]) H,p)
  exact this F R
 let B:∀f,Hf l g f->Hf s.heap g f:=λf o=>by
  refine(o.1,?_);let e:f.toList.map (oE s.heap)=f.toList.map (oE l):=ij λv hm=>by have u:=o.1.mem_iff.mp hm;let U:=pq F v u;let(b,X,m,k,N,rfl,H,p):=U;simp only[oE,H,O b X (λz=>R _ u<|by rw[z]) H]
  rw[e];exact o.2
 show bz (bj c w) A _ P E { s with heap:=l };dsimp only;have sz:g.toArray.size=g.length:=by trivial
 have k8:=λf o=>by have:=h f<|B f o;unfold sortedHeap at this;rw[S]at this;exact this
 by_cases p:g.toArray.size<2
 .rw[if_pos p,if_pos p];refine aB<|bD ?_;rw[StateT.run_pure];refine aB<|bD ?_;dsimp only;refine aB<|seqEpoch_at y W ?_;refine aB<|listUpdate_at y W ?_ (hsz2:=by rw[Array.size_map];show (xB g).size<=_;rw[Hx,kE];lia);simp only[bne_self_eq_false,k_,if_false];refine bD<|k8 _<|Pk (s:={ s with heap:=l }) (Array.Perm.refl _) λi j hij hj =>?_;rw[Hx]at hj;lia
 .rw[if_neg p,if_neg p];refine aB<|UK x (λz=>p<|by rw[z];decide) ?_;let(C,d):=Vx (prog:=c) (w:=w) (A:=A) (E:=E) (s:={ s with heap:=l }) x hn;refine aB<|fU (OK (Q:=λi t=>(cT t).Perm (xB g)/\failedOf t=M/\Up (oE l) (cT t) (xB g).size) C d (Array.Perm.refl _,W,W,W) (by rw[Hx];simp_all) (by rw[Hx];exact Da) λt a1 a2 a3=>(a1,a2,a3)) ?_ λi i e=>e;rintro⟨⟨⟩,t⟩ s' ⟨rfl,G,hf,hu⟩;dsimp only;refine aB<|seqEpoch_at y W ?_;refine aB<|listUpdate_at y W ?_ (hsz2:=by refine bB (VW<|(Array.size_map ..).trans<|G.size_eq.trans<|Hx _) ?_;rw[kE];lia);rw[hf];simp only[bne_self_eq_false,k_,if_false];exact bD<|k8 _<|Pk (s:={ s with heap:=l }) G hu
def H_(F:s.heap.IsList l a.toArray)(m:Paired (lH s.heap) a x)(C:x.Nodup)(r:a.length<64)(h:∀d,Hf s.heap a d->Q (.ref<|s.heap.objs.size+1) { s with heap:=sortedAll s.heap a d }):bz (bj c w) A (call (.builtin "sorted") [.ref l]) Q E s:=by
 refine Calls.call_function_entry kind_sorted plain_sorted entry_sorted (args_sorted1 _) ?_;unfold Builtin.«sorted»;refine aB (m:=checkCount "sorted" 1 1 _) (bD ?_);refine aB<|collect_list F ?_;refine aB<|wpAny_newList ?_;generalize p:(s.heap.push<|Hw "list" #[] 0).update s.heap.objs.size (uz (· ++ a.toArray))=g;have u:g.objs.size=s.heap.objs.size+1:=by rw[<- p,Heap.size_update,size_push']
 have y:∀b o,s.heap.get? b=Y o->(g.push<|Hw "list" a.toArray 0).get? b=Y o:=λb o q=>by refine ao _ ?_;rw[<- p,nW _ _ (λz=>by have:=aQ q;rw[<- z]at this;exact nF _ this)];exact ao _ q
 have f:(g.push<|Hw "list" a.toArray 0).get? (s.heap.objs.size+1)=Y (Hw "list" a.toArray 0):=by rw[<- u];exact br _ W
 let j:=FR m y;let n:∀v∈a,v ≠ .ref (s.heap.objs.size+1):=λv D z=>by
  let(b,o,i,k,t,rfl,G,_):=pq m v D;let e:b=s.heap.objs.size+1:=by cases z;exact Ÿ
  have:=aQ G;rw[e]at this;exact absurd this ż
 show bz _ _ _ _ _ { s with heap:=g.push (Hw "list" a.toArray 0) };rw[u];refine aB<|w8<|wpAny_call_entry slot_list_sort (_,f,W) entry_list_sort (OJ (s:={ s with heap:=g.push (Hw "list" a.toArray 0) }) f j n C r λd B=>(_,W,?_)) (args_list_sort _);refine bD (_,W,?_);have:=h d<|B.back m y;unfold sortedAll at this;rw[p]at this;exact this
end
def FP{m}{R}(p:o.Perm n):∀ {a:!m},Paired R a o->∃b,b.Perm a/\Paired R b n:=by
 induction p with
 |nil=>intro a h;cases h;exact Ÿ
 |cons u _ ih=>
  intro a h;cases h with
  |cons r t=>let(b,e,d):=ih t;exact(_,e.cons _,.cons r d)
 |swap u v l=>
  intro a h;cases h with
  | cons r t=>cases t with
   |cons w s=>exact(_,.swap _ _ _,.cons w<|.cons r s)
 |trans _ _ j f=>intro a h;let(b,e,d):=j h;let(q,y,x):=f d;exact(q,y.trans e,x)
def Mp{K}{s:!V}(p:s.Perm q):∀ {a:!D},aZ K G a s->∃f,f.Perm a/\aZ K G f q:=by
 induction p with
 | nil=>intro a h;cases a with
  |nil=>solve_by_elim|cons d a=>let(_,_,e,_):=aW.mp h;cases e
 |cons u _ ih=>
  intro a h;cases a with
  |nil=>cases cx.mp h|cons d a=>let(v,r,e,j,b):=aW.mp h;cases e;let(f,m,k):=ih b;exact(_,m.cons _,.cons j k)
 |swap u v l=>
  intro a h;cases a with
  |nil=>cases cx.mp h|cons d a=>
   let(_,_,e,j,b):=aW.mp h;cases e;cases a with
   |nil=>cases cx.mp b|cons A a=>let(_,_,e,x,w):=aW.mp b;cases e;exact(_,.swap _ _ _,.cons x<|.cons j w)
 |trans _ _ o n=>intro a h;let(B,m,k):=o h;let(t,z,y):=n k;exact(t,z.trans m,y)
theorem Fy{d:j->Int}:∀ {l m:!j},l.Perm m->(l.map d).Pairwise (· < ·)->(m.map d).Pairwise (· < ·)->l=m
 |[],m,p,_,_=>by rw[List.Perm.nil_eq p]
 |a::l,[],p,_,_=>by simp_all
 | a::l,b::m,p,h,f=>by
  simp only[bg,qg]at h f;let e:a=b:=by grind [az,ig]
  subst e;rw[Fy (by simp_all) h.2 f.2]
noncomputable def Gu(a:D->Int)(d:D):!D->!D
 |[]=>[d]|x::b=>if a d<a x then d::x::b else x::Gu a d b
noncomputable def Mg(a:D->Int):!D->!D
 |[]=>[]|d::b=>Gu a d<|Mg a b
theorem wG(a:D->Int)(d):∀l,(Gu a d l).Perm (d::l)
 |[] =>.rfl| x::b=>by
  unfold Gu;split
  .exact .rfl
  .exact((wG a d b).cons x).trans<|.swap _ _ _
theorem v8(a:D->Int):∀l,(Mg a l).Perm l
 |[] =>.rfl|d::b=>(wG a d _).trans<|(v8 a b).cons d
set_option tactic.hygienic true in
theorem Ci:∀ {l:!D},(l.map a).Pairwise (· < ·)->a d∉l.map a->((Gu a d l).map a).Pairwise (· < ·)
 |[],_,_=>by simp[Gu]
 | x::f,h,j=>by
  simp only[bg,qg,aG,not_or]at h j;unfold Gu;split
  .rename_i b;simp only[bg,qg,aG];refine(?_,h);rintro k (rfl|e)
   .exact b
   .exact EH b<|h.1 k e
  .simp only[bg,qg];refine(λk e =>?_,Ci h.2 j.2)
   grind [wG]
theorem B4:∀ {l:!D},(l.map a).Nodup->((Mg a l).map a).Pairwise (· < ·)
 |[],_ =>.nil|d::b,h=>by simp only[bg,JN]at h;exact Ci (B4 h.2) λz=>h.1<|((v8 a b).map a).subset z
noncomputable def Yw:D->Int
 |.tup (.int n::_)=>n|_=>0
noncomputable def isK:D->Bool
 |.tup (.int _::_)=>Z'|_=>Z_
section
variable {X:Cx}{f:DF}
def Xb(K:aV)(c:TE):TE:=λe H Q=>c e H λx d=>∃a b,x=.ref a/\lW K d a (b.map V.int)/\b.length<64/\∀l,d l=M->Q (.ref l) (cU d l<|.lst<|(EJ b).map V.int)
def Pd(R:Gl X "sorted")(N:X.mg "sorted" = M)(O:PE X e c)(D:@&(ak [e] X.env=(Z_,eval e X.env)::ak [] X.env))(y:autoParam (eN "sorted" = Y (.builtin "sorted")) ţ):PE X (.Call (.Name "sorted" p) [e] [] g)<|Xb X.K c:=by
 intro f s F H Q I h;refine gI<|pz I R N y ?_;refine mX ?_ D W;refine eP (cA O dH D g f s F H (λr n=>match r with|[x]=>∃a d,x=.ref a/\lW X.K n a (d.map V.int)/\d.length<64/\∀l,n l=M->Q (.ref l) (cU n l<|.lst<|(EJ d).map V.int)|_=>False) I h) ?_;rintro us C ⟨r,n,B,K,v⟩;cases r with
 |nil=>exact v.elim|cons x t=>
  cases t with
  |cons _ _=>exact v.elim|nil=>
   let(a,d,rfl,i,A,q):=v;let(u,rfl,J):=cf.one K;cases J;let(m,G,L,hz):=B.list i;let E:HC m d:=vd G;refine sorted_ints L.isList E (by rw[Gs E];exact A) λj w a1 U T =>?_
   let S:w=EJ d:=HZ U T;subst S;let(k,P):=sortedAll_at C.heap m j;refine(.ref _,_,B.laid (t':=C.toks) (λb o z=>sortedAll_old z) (nS _) (show iY X.prog X.w _ _ _<|.lst<|(EJ d).map V.int from(?_,j.toList,k,CS a1,?_)),W,q _<|B.gf.fresh<|nS _)
   .rw[ar,(jK _).length_eq]
    simp_all
   simp_all
def wL(f:DF):DL:=λb=>(f b).bind λd=>match d with|.lst e=>(Cf e).bind λa=>if a.length<64 then Y ((EJ a).map D.int) else M|_=>M
set_option tactic.hygienic true in
def aco(x:Gl X "sorted")(w:X.mg "sorted" = M)(h:PE X e<|tQ X.K Z f)(u:@&(ak [e] X.env=(Z_,eval e X.env)::ak [] X.env)):PE X (.Call (.Name "sorted" p) [e] [] g)<|tF X.K Z<|wL f:=
 (Pd x w h u).imp <|by
  rintro D H Q ⟨G,q,I,z,n,b,k⟩;let(d,B,b):=aa.1 b;split at b
  .let(s,A,b):=aa.1 b;split at b
   .rename_i t;cases b;refine(G,q,_,z,n,B,λv C J j r =>?_);let(a,F,rfl,y,o):=r.lst j.gh;rw[Aa A]at o;have:=wd.mp o;subst this;exact(a,s,W,.of y,t,λl m=>k l _ C _ (j.trans<|fT.lay j.gh m) (j.hh.free m) (j.gh.free m) a9<|aZ.ints _)
   .cases b
  .cases b
def N7(H:Hp)(v:V)(n:Int):Prop:=∃b a,v=.ref b/\H b=Y (.tup<|.int n::a)
def Xa(K:aV)(c:TE):TE:=λj H Q=>c j H λx b=>∃a d f,x=.ref a/\lW K b a d/\Paired (N7 b) d f/\f.Nodup/\d.length<64/\∀l e h,b l=M->e.Perm d->Paired (N7 b) e h->h.Pairwise (· < ·)->Q (.ref l) (cU b l<|.lst e)
def Qn{s:aA}{a}(I:Inv X d j H s)(p:Paired (N7 H) l h)(q:cf l a):Paired (lH s.heap) a h:=by
 induction p generalizing a with
 |nil=>cases q;exact .nil|cons g t i=>
  let(b,x,rfl,w):=g;obtain _|⟨r,m⟩:=q;cases r;let(y,a,n,o,q,v,k,u):=I.gf b _ w;cases n with
  |cons p _=>let(l,rfl):=p;exact .cons (b,o,_,k,l,W,q,v,u,Ÿ)<|i m
def UI{f:St}{s}(I:Inv X a f H s)(q:cf b d)(h:∀y∈b,∃n,N7 H y n):Paired (N7 H) b<|d.map<|oE s.heap:=by
 induction q with
 |nil=>exact .nil|cons r k i=>
  let(n,e):=h _ az;have t:=Qn I (.cons e .nil)<|.cons r .nil;cases t with
  |cons j _=>refine .cons ?_ Ż;rw[j.key];exact e
def Yr(h:Paired (N7 H) b d):∀y∈b,∃n,N7 H y n:=by
 induction h<;>grind
def Pc(hg:Gl X "sorted")(hm:X.mg "sorted" = M)(hl:PE X e c)(i:@&(ak [e] X.env=(Z_,eval e X.env)::ak [] X.env))(E:autoParam (eN "sorted" = Y (.builtin "sorted")) ţ):PE X (.Call (.Name "sorted" p) [e] [] g)<|Xa X.K c:=by
 intro m s P H Q I h;refine gI<|pz I hg hm E ?_;refine mX ?_ i W;refine eP (cA hl dH i g m s P H (λv f=>match v with|[x]=>∃a j C,x=.ref a/\lW X.K f a j/\Paired (N7 f) j C/\C.Nodup/\j.length<64/\∀l d L,f l=M->d.Perm j->Paired (N7 f) d L->L.Pairwise (· < ·)->Q (.ref l) (cU f l<|.lst d)|_=>False) I h) ?_;rintro us J ⟨v,f,r,S,A⟩;cases v with
 |nil=>exact A.elim|cons x t=>
  cases t with
  |cons _ _=>exact A.elim|nil=>
   let(a,j,C,rfl,hq,O,hn,G,q):=A;let(u,rfl,R):=cf.one S;cases R;let(D,w,T,hz):=r.list hq;refine H_ T.isList (Qn r O w) hn (by rw[<- w.length];exact G) λn N =>?_
   let(d,B,K):=FP N.1.symm w;let(k,F):=sortedAll_at J.heap D n;refine(.ref _,_,r.laid (λb o z=>sortedAll_old z) (nS _)<|show iY X.prog X.w _ _ _<|.lst d from(?_,n.toList,k,K,?_),W,q _ d _ (r.gf.fresh<|nS _) B (UI r K λy U=>Yr O y<|B.subset U) N.2)
   .rw[B.length_eq]
    simp_all
   simp_all
def Av(f:DF):DL:=λρ=>(f ρ).bind λd=>match d with|.lst a=>if (a.all isK=Z'/\(a.map Yw).Nodup)/\a.length<64 then Y (Mg Yw a) else M|_=>M
def Qt(h:isK d=Z'):∃b,d=.tup (.int (Yw d)::b):=by
 cases d with
 |tup a=>
  cases a with
  |nil=>cases h|cons x a=>cases x<;>first|exact(a,W)|cases h
 |_=>cases h
theorem Dz{K:aV}(s:a_ G H):∀ {f:!D}{a:!V},f.all isK=Z'->aZ K G f a->Paired (N7 H) a (f.map Yw)
 |[],a,_,r=>by rw[cx.mp r];exact .nil
 |d::f,a,h,r=>by let(v,t,rfl,l,o):=aW.mp r;simp only[gZ,ax]at h;refine .cons ?_<|Dz s h.2 o;let(p,e):=Qt h.1;rw[e]at l;let(b,q,rfl,m,n):=cQ.mp l;let(w,j,rfl,k,_):=aW.mp n;rw[b8.mp k]at m;exact(b,j,W,s _ _ m)
def UH{g h:!Int}(p:Paired (N7 H) d g)(q:Paired (N7 H) d h):g=h:=by
 induction p generalizing h with
 |nil=>cases q;rfl|cons r t i=>
  let(b,n,rfl,l):=r;obtain _|⟨⟨o,j,m,a⟩,k⟩:=q
  grind
set_option tactic.hygienic true
def Ry(hg:Gl X "sorted")(hm:X.mg "sorted" = M)(h:PE X e<|tQ X.K Z f)(hs:@&(ak [e] X.env=(Z_,eval e X.env)::ak [] X.env)):PE X (.Call (.Name "sorted" p) [e] [] g)<|tF X.K Z<|Av f:=
 (Pc hg hm h hs).imp <|by
  rintro σ H Q ⟨G,ρ,ds,gh,env,eq,k⟩;let(d,ef,eq):=aa.1 eq;split at eq
  .rename_i xs;split at eq
   .rename_i hz;cases eq;refine(G,ρ,_,gh,env,ef,λv G1 H1 E1 r1 =>?_);let(a,vs,rfl,ha,rs):=r1.lst E1.gh;refine(a,vs,_,W,.of ha,Dz E1.gh hz.1.1 rs,hz.1.2,by rw[<- rs.length];exact hz.2,λl ys ms hl p1 q1 q2 =>?_);let(zs,p2,rz):=Mp p1.symm rs;let afw:zs.all isK=true:=by rw[dI];exact λz hz'=>dI.mp hz.1.1 z (p2.subset hz')
    let e1:=UH q1<|Dz E1.gh afw rz;rw[e1]at q2;rw[(Fy (p2.trans (v8 Yw xs).symm) q2<|B4 hz.1.2)]at rz;exact k l ys G1 _ (E1.trans<|fT.lay (p:=l) E1.gh hl) (E1.hh.free hl) (E1.gh.free hl) a9 rz
   .cases eq
  .cases eq
end
section
variable {X:Cx}
noncomputable def fQ(c m:aP)(F:!D->↑D)(f:DF)(g:DL):DF:=λa=>(f a).bind λx=>match x with
 |.ins d b h=>if d=c/\m∉b then (g a).bind λe=>F<|.ins d b h::e else M
 |_=>M
set_option tactic.hygienic true in
def Ge{m}{F:!D->↑D}{e}(n:uw X.K bc c=Y (Y<|.ref C))(l:∀e H Q,E9 X.K Z g e H Q->t e H Q)(h:tP X.K Z (fQ c m F k g) e H Q):E_ C m (gn X.K F) [] E0 (tP X.K Z k) t e H Q:=by
 let(G,i,d,T,f,b,q):=h;unfold fQ at b;rw[aa]at b;let(x,p,b):=b;split at b
 .split at b
  .rename_i R;let(rfl,P):=R;rcases o:g i with _|z
   .simp_all
   rw[o]at b;refine(G,i,_,T,f,p,λv y H1 j s =>?_);refine ae λkk =>?_
   let(a,C',dx,vs,rfl,w,S,_):=kH.mp s;rw[n]at w;cases w;refine kk<|(a,dx,_,W,j.gh _ _ S,oD (K:=X.K) (G:=y) P,l _ _ _ (y,i,z,j.gh,f.ext j,o,λB G2 H2 r K =>?_));rw[bZ];exact(G2,_,d,r.gh,.cons (cS.mono r.gg _ s) K,b,λv G3 H3 E3 E=>q v G3 H3 ((j.trans r).trans E3) E)
  .cases b
 .cases b
def aah{c m}{F:!D->↑D}(h:dZ X.prog X.w X.K X.mg X.base c m k<|gn X.K F)(g:d7 k X.A)(i:PE X o<|tP X.K Z b) (e:@&(eval (.Call (.Attribute o m I) [] [] A) X.env=(do
   let a <- eval o X.env
   nR I.atName
   let(f,first) <- k9 [a] (jH a m pl)
   qc A f first (cB A<|ak [] X.env) (fY A<|cV [] X.env)))):PE X (.Call (.Attribute o m I) [] [] A)<|tP X.K Z<|fQ c m F b aN:=by
 refine ae λkk =>?_
 let(C,f,y,x,n,l,j,r,p):=h.ex;exact kk<|(uV i l j r g p .nil lP e).imp λd H Q q=>Ge n (by rintro d H Q ⟨G,w,z,s,v,t,k⟩;cases t;exact k _ G H (.refl s) .nil) q
def GS{c m}{F}{i:DF}{g}(h:dZ X.prog X.w X.K X.mg X.base c m k<|gn X.K F)(l:d7 k X.A)(p:PE X o<|tP X.K Z i)(v:PA X (e::J)<|E9 X.K Z g)(a:@&(ak (e::J) X.env=(Z_,eval e X.env)::ak J X.env))(b:@&((cB A<|ak J X.env).any (·.1)=false)) (j:@&(eval (.Call (.Attribute o m I) (e::J) [] A) X.env=(do
   let d <- eval o X.env
   nR I.atName
   let(f,first) <- k9 [d] (jH d m pl)
   qc A f first (cB A<|ak (e::J) X.env) (fY A<|cV [] X.env)))):PE X (.Call (.Attribute o m I) (e::J) [] A)<|tP X.K Z<|fQ c m F i g:=by
 refine ae λkk =>?_
 let(C,f,B,y,n,s,r,w,t):=h.ex;exact kk<|(yf p s r w l t .nil lP v a b j).imp λx H Q q=>Ge n (λu u u z=>z) q
noncomputable def qR(c m:aP)(F:!D->↑(!D))(e:DF):DL:=λd=>(e d).bind λx=>match x with
 |.ins b a f=>if b=c/\m∉a then F [.ins b a f] else M
 |_=>M
set_option tactic.hygienic true in
def aag{m}{F}{p}(h:dZ X.prog X.w X.K X.mg X.base c m k<|vL X.K F)(R:d7 k X.A)(S:PE X o<|tP X.K Z p) (P:@&(eval (.Call (.Attribute o m I) [] [] A) X.env=(do
   let y <- eval o X.env
   nR I.atName
   let(f,first) <- k9 [y] (jH y m pl)
   qc A f first (cB A<|ak [] X.env) (fY A<|cV [] X.env)))):PE X (.Call (.Attribute o m I) [] [] A)<|tF X.K Z<|qR c m F p:=by
 let(C,f,fd,ps,n,i,g,j,T):=h.ex;refine(uV (pl:=pl) S i g j R T .nil lP P).imp ?_;rintro σ H Q ⟨G,t,d,gh,r,b,q⟩;unfold qR at b;rw[aa]at b;let(x,s,b):=b;split at b
 .rename_i c' ks ds;split at b
  .rename_i i;let(rfl,g):=i;refine(G,t,_,gh,r,s,λv B H1 e w =>?_);let(a,C',dx,vs,rfl,z,ha,l,rs):=kH.mp w;rw[n]at z;cases z;refine(a,dx,_,W,e.gh _ _ ha,oD (K:=X.K) (G:=B) g,?_);exact(B,_,d,e.gh,.cons w .nil,b,λu E G3 H3 E3 j h2 h3 K=>q u E G3 H3 (e.trans E3) (e.hh.free j) h2 h3 K)
  .cases b
 .cases b
def Um(a:Bool):D->D->↑D
 |y,.i9 b c=>(DA y).map λk =>.bl<|if a then (not<|(bX b c k).isSome) else (bX b c k).isSome
 |_,_=>M
def Qd{K}(r:aZ K G b c):(sV (a.zip c) k).isSome=(bX a b k).isSome:=by
 rcases e:bX a b k with _|d
 .rw[uj r e];rfl
 let(v,f,_):=pG r e;rw[f];rfl
def Nk(n:X.A.units+1<qf)(s:PE X e<|tQ X.K Z L)(r:PE X o<|tQ X.K Z N)(t:@&(fh .NotIn o=false)):PT X (.Compare e [.NotIn] [o] A)<|p' X.K Z<|dG<|e2 (Um Z') L N:=
 (XD (Mw n s r) t).imp <|by
  rintro I H Q ⟨G,h,d,w,c,C,q⟩;refine ae λkk =>?_
  let(x,y,B,z,b):=D6<|qv C;cases y<;>simp only[Um]at b<;>try (cases b)
  let(S,D,b):=aj.1 b;cases b;refine kk<|(G,h,x,w,c,B,λv K H1 g k=>(K,h,_,g.gh,c.ext g,z,λu F E f j =>?_));let(a,P,rfl,p,l,i):=j.Y9 f.gh;let m:=vc D<|k.ext f;subst m;exact(a,_,W,ya.k p,_,W,by rw[Qd i];exact q F E<|g.trans f)
def PR:D->D->↑D
 |.i9 a b,y=>(DA y).bind λk=>bX a b k
 |_,_=>M
def Vs(p:X.A.units+1<qf)(z:PE X o<|tQ X.K Z L)(t:PE X e<|tQ X.K Z N)(r:autoParam (Zv e) Š):PE X (.Subscript o e A)<|tP X.K Z<|e2 PR L N:=
 (T5 p z t r).imp <|by
  rintro S H Q ⟨G,i,d,B,c,F,q⟩;let(x,y,D,C,b):=D6 F;cases x<;>simp only[PR]at b<;>try trivial
  let(kk,K,b):=aa.1 b;refine(G,i,_,B,c,D,λv R H1 h m=>(R,i,y,h.gh,c.ext h,C,λu P I g k =>?_));let(a,T,rfl,s,l,j):=(m.ext g).Y9 g.gh;let n:=vc K k;subst n;let(w,E,f):=pG j b;exact(a,w,W,by rw[<- E];exact ya.k s,q w P I (h.trans g) f)
end
section
variable {X:Cx}{m:Pos}
end
section
variable {X:Cx}
def Ig(b:Bool)(j:Nat)(c f:aP)(e:DM):DG:=λd=>(e d).bind λw=>(Kb b j w.2).bind λq=>(yH q.1 w.2).bind λa=>(Bx c a.1 a.2 q.2).bind λz=>
 if Gq (cX z.1 f)=Z'/\z.2.1.length<999 then Y (.nx<|w.2.set q.1<|Y<|.obj a.1<|jF (.ins c (iN f w.1 z.2.1 z.2.2).1 (iN f w.1 z.2.1 z.2.2).2) q.2 a.2) else M
set_option tactic.hygienic true
def Rq{b}{c f}{K}(h:PE X (.Name x p)<|g9 j)(he:PE X e<|tM X.K B Z K)(J:sj X.K c f)(hj:‹j∈Z›)(hb:‹b=Z'->ID j∈Z›)(ha:‹f∉Hd›)(hs:@&(cg e (Y<|.Attribute (.Name x p) f u) n.line X.env=c9 false)):PS X (.Assign [.Attribute (.Name x p) f u] e n)<|gO X.K B y Z Z<|Ig b j c f K:=(Dh h he hs).imp <|by
 rintro D σ H ⟨G,E,o,S,i,k⟩;obtain⟨⟨d,F⟩,ef,i⟩:=aa.1 i;rcases q:Kb b j F with _|⟨r,T⟩
 .simp[q]at i
 rcases z:yH r F with _|⟨s,t⟩
 .simp[q,z]at i
 rcases I:Bx c s t T with _|⟨fk,ks,ds⟩
 .simp[q,z,I]at i
 simp only[q,z,I,aw]at i;split at i
 .rename_i hz;cases i;let(i1,U):=wF I;refine(G,E,d,F,S,ef,λv G' H' P s' R =>?_);refine ae λkk =>?_
  let(hr,s1,t',a,v',O,e2,e3,e4):=P.Kb q hj hb;let w:=kO z;rw[w]at O;let(a',Q,C,dx,vs,N,g,L,f4,f5,f6):=P.YV hr w i1 U hz.1 ha R;rw[e2]at N;cases N;rw[e4]at g;cases g;refine kk<|(_,e3,Q,C,dx,_,W,f4,(J C L).1,(J C L).2,?_,k _ G' _ f6);rw[uE f5];lia
 .cases i
end
section
variable {X:Cx}{m:!Nat}
end
def ur.mono{P:bh}{K:aV}{d:Sp}(h:ur P w K e b c j d)(i:j<=k):ur P w K e b c k d:=by
 let(C,f,s,g,r,q,p,o,l):=h.ex;exact(C,f,s,g,r,q,p,o.mono i,l)
section
variable {K:aV}
def SR.KW{j}(S:SR K B Z G H C A)(hj:j∈Z)(q:A[j]?=Y (Y d))(u:wD d=Z'):∃a G',C[j]?=Y (Y<|.ref a)/\cS K G' d (.ref a)/\SR K B Z G' H C (A.set j M):=by
 let(F,Da):=S.ow;let(a,e,oc):=Da.it j d hj q;obtain⟨⟨o,ha,cl⟩,fs⟩:=(j9.cell u).mp oc;let(ga,ba):=(Da.ok j d hj q).2 a Ż;let sg:a_ G (cU G a o) :=.alloc ga;refine(a,_,e,(cl.mono sg).rep a9,λb w z =>?_,S.g0.trans sg,S.h0,λb w z =>?_,λi c x z =>?_,(F,λi c x z =>?_,λi c x z =>?_,λi k c1 c2 x y z1 z2=>Da.ap i k c1 c2 x y (du z1).2 (du z2).2),by simp[S.len],S.pin,(S.blank q u).dY)
 .by_cases h:b=a
  .simp_all [a9]
  .rw[aO h]at z;exact S.gh _ _ z
 .by_cases h:b=a
  .simp_all
  .rw[aO h]at z;exact S.fr _ _ z
 .let(v,y,r):=S.env i c x (du z).2;exact(v,y,cS.mono sg _ r)
 .let(b,y,r):=Da.it i c x (du z).2;exact(b,y,j9.mono sg (λf f f h=>h) r)
 .let(y,r):=Da.ok i c x (du z).2;refine(y,λb m=>(?_,(r b m).2));rw[aO λh =>?_]
  .simp_all
  .exact Da.ap i j c d x hj (du z).2 q (bw (du z).1) b m Ż
end
noncomputable def Xu(i j:Nat):DG:=λA=>match A[j]? with
 |some (Y<|.lst d)=>Y (.nx<|(A.set j M).set i<|Y<|.lst d)|_=>M
set_option tactic.hygienic true
def afO{i j}(n:X.N.Nodup)(h:X.N[i]?=Y x)(c:Loc X.env.scope x)(m:PE X (.Name y p)<|g9 j)(hi:‹i∉Z›)(hj:‹j∈Z›)(g:@&(cg (.Name y p) (Y<|.Name x a) J.line X.env=c9 false))(l:autoParam (X.fn x=Z'\/X.env.scope.names.lookup x=Y .local) ŧ):
  PS X (.Assign [.Name x a] (.Name y p) J) (gO X.K B I Z Z<|Xu i j):=(km n h c m g l).imp <|by
 rintro D C H ⟨G,A,o,S,b,k⟩;unfold Xu at b;split at b
 .rename_i d q;cases b;let(a,G',e,r,S'):=S.KW hj q W;exact(_,e,k _ G' H<|S'.wa hi r)
 .cases b
end L2
section
set_option maxHeartbeats 400000
namespace L2
open PySem PySem.Spec PyProof.Rows
abbrev DMF:=bL->↑(!D×bL)
inductive V9 (K:aV) (B:Bs) (Z:!Nat) (f:DMF) (c:St) (H:Hp) (Q:VK):Prop
 |mk G e d a:SR K B Z G H c e->f e=some (d,a)->(∀q b g,SR K B (c.length::Z) b g (c++[some<|.ref q]) (a++[some<|.lst d])->Q (.ref q) g)->V9 K B Z f c H Q
section
variable {K:aV}
def cC{l}{x:a}(h:(l++[Y x])[i]?=Y (Y y)):(i=l.length/\y=x)\/(i≠l.length/\l[i]?=Y (Y y)):=by
 by_cases z:i<l.length
 .rw[aI z]at h;exact .inr (ž,h)
 .have:=(ah.mp h).1;simp at this;have e:i=l.length:=Ž
  subst e;simp at h;exact .inl (W,h.symm)
def fJ{a:Type}{l m:!a}{x}{i:Nat}(h:l[i]?=Y x):(l++m)[i]?=Y x:=by rw[aI (ah.mp h).1];exact h
def SR.snoc{F:Nat->!aH}{q}(S:SR K B Z G H C A)(Da:oS K B Z G H C A F)(n:A.length<1000)(g:G q=M)(b:B.2 q=M)(w:∀k d,k∈Z->A[k]?=Y (Y d)->q∉F k)(h:H q=Y (.lst ws))(r:aZ K G ds ws):SR K B (C.length::Z) G H (C++[Y<|.ref q])<|A++[Y<|.lst ds]:=by
 have l:=S.len;have t:∀ {i d},i∈C.length::Z->A[i]?=Y (Y d)->i∈Z/\i≠C.length:=fun {i d} o e=>by
  have:=(ah.mp e).1;have z:i≠C.length:=Ž
  exact((aG.mp o).resolve_left z,z)
 refine(S.gh,S.g0,S.h0,S.fr,λi d o e =>?_,(λi=>if i=C.length then [q] else F i,λi d o e =>?_,λi d o e =>?_,λi j d c o p x y z =>?_),by simp[l],λi a h =>?_,λj r p o m e =>?_)
 .obtain⟨z,_⟩|⟨_,e⟩:=cC e
  .exact absurd (by rw[z,l];exact az) o
  .let(v,x,y):=S.env i d (λz=>o<|ay _ z) e;exact(v,fJ x,y)
 .obtain⟨rfl,rfl⟩|⟨z,e⟩:=cC e
  .rw[if_pos l.symm];exact(q,by rw[<- l];grind,(j9.cell W).mpr ((_,h,ws,W,r),W))
  .let(x,y,w):=Da.it i d (t o e).1 e;exact(x,fJ y,by rw[if_neg (t o e).2];exact w)
 .obtain⟨rfl,rfl⟩|⟨z,e⟩:=cC e
  .simp_all
  .rw[if_neg (t o e).2];exact Da.ok i d (t o e).1 e
 .obtain⟨rfl,rfl⟩|⟨_,x⟩:=cC x
  .obtain⟨rfl,rfl⟩|⟨_,y⟩:=cC y
   .exact absurd W z
   .rw[if_pos l.symm,if_neg (t p y).2];intro b v;simp at v;subst v;exact w j c (t p y).1 y
  .obtain⟨rfl,rfl⟩|⟨_,y⟩:=cC y
   .rw[if_neg (t o x).2,if_pos l.symm];intro b v u;simp at u;subst u;exact w i d (t o x).1 x v
   .rw[if_neg (t o x).2,if_neg (t p y).2];exact Da.ap i j d c (t o x).1 (t p y).1 x y z
 .let(x,y):=S.pin i a h;exact(ay _ x,fJ y)
 .obtain⟨_,z⟩|⟨_,e⟩:=cC e
  .cases z
  .let(x,y,a,b,c,d,f,u,v,w,k):=S.dY j r p (t o e).1 ((aG.mp m).resolve_left Ž) e;exact(ay _ x,ay _ y,a,b,c,d,f,fJ u,fJ v,fJ w,k)
def SR.pull{q:aH}{i:Nat}(S:SR K B (C.length::Z) G H (C++[Y<|.ref q])<|A++[Y<|.lst ds])(n:A.length<1000)(p:∀(i:Nat) (a:aH),(i,a)∈B.3->i∈Z/\C[i]?=Y (Y<|.ref a))(hi:i∈Z)(b:∀a,(i,a)∉B.3)(m:Br i∉Z):SR K B Z G H (C.set i<|Y<|.ref q)<|A.set i<|Y<|.lst ds:=by
 have l:C.length=A.length:=by simpa using S.len
 let(F,Da):=S.ow;have t:∀ {i d},A[i]?=Y (Y d)->i≠C.length:=fun {i d} e=>by grind
 have u:∀ {i v},i≠C.length->(C++[Y<|V.ref q])[i]?=Y (Y v)->C[i]?=Y (Y v):=fun {i v} z e=>by
  obtain⟨x,_⟩|⟨_,e⟩:=cC e
  .exact absurd x z
  .exact e
 have R:SR K B Z G H C A:=(S.gh,S.g0,S.h0,S.fr,λi d o e=>by
   let(v,x,y):=S.env i d (λz=>(aG.mp z).elim (t e) o)<|fJ e;exact(v,u (t e) x,y),(F,λi d o e=>by
   let(x,y,w):=Da.it i d (ay _ o)<|fJ e;exact(x,u (t e) y,w),λi d o e=>Da.ok i d (ay _ o)<|fJ e,λi j d c o p x y z=>Da.ap i j d c (ay _ o) (ay _ p) (fJ x) (fJ y) z),l,p,λj r p o m e=>by
   let(x,y,a,b,c,d,f,k,v,w,z):=S.dY j r p (ay _ o) (ay _ m)<|fJ e;obtain⟨_,g⟩|⟨g,k⟩:=cC k
   .cases g
   .exact((aG.mp x).resolve_left Ÿ,(aG.mp y).resolve_left Ž,a,b,c,d,f,k,u (t k) v,u (t e) w,z))
 have V:oS K B Z G H C A F:=(λi d o e=>by let(x,y,w):=Da.it i d (ay _ o)<|fJ e;exact(x,u (t e) y,w),λi d o e=>Da.ok i d (ay _ o)<|fJ e,λi j d c o p x y z=>Da.ap i j d c (ay _ o) (ay _ p) (fJ x) (fJ y) z)
 have e0:(A++[Y<|D.lst ds])[C.length]?=Y (Y<|.lst ds):=by rw[l];simp
 let(x,y,w):=Da.it C.length _ az e0;let(_,k):=Da.ok C.length _ az e0;simp at y;subst y;let(w0,w1):=(j9.cell (d :=.lst ds) W).mp w;have kq:=k q (by rw[w1];exact Ÿ);refine(R.Jw (i:=i) (a:=q) (d' :=.lst ds) (F0:=[]) (S':=[q]) V hi (λb g=>by cases g) (a_.refl _) S.gh (λb o e =>.inl e) (λb o s e=>e) ((j9.cell W).mpr (w0,W)) ż (λc g =>?_) (λa h=>absurd h<|b a) (λr p z=>by cases z) λj p o o1 hj e =>?_).1
 .simp at g;subst g;refine(kq.1,.inr<|.inr (kq.2,λk c' hk ek s v =>?_));exact Da.ap k C.length _ _ (ay _ hk) az (fJ ek) e0 (t ek) c v (by rw[w1];exact Ÿ)
 .let(_,z,_):=R.dY j i p o o1 e;trivial
end
section
variable {X:Cx}
def mfP(f:DL):DMF:=λa=>if a.length<1000 then (f a).map λd=>(d,a) else M
set_option tactic.hygienic true in
def Rt{f:DL}(h:PE X e<|tF X.K Z f):PE X e<|V9 X.K B Z<|mfP f:=h.imp <|by
 rintro C H Q ⟨G,A,d,a,S,w,k⟩;unfold mfP at w;split at w
 .rename_i n;let(d',w',z):=aj.1 w;cases z;refine(G,A,_,S.gh,S.i6,w',λp ws G' H' E u g h r =>?_);let(F,Da):=S.ow;refine k p G' H'<|(S.ext E).snoc (Da.ext E) n g (S.h0.free u) (λk c o e z =>?_) h r;let(x,_,y):=Da.it k c o e;let(b,v):=y.here p z
  simp_all
 .cases w
def o9(f:DMF):DG:=λA=>(f A).map λp =>.rf p.2.length<|p.2++[Y<|.lst p.1]
def GK(h:PE X e<|V9 X.K B Z f):PS X (.Return (Y e) J)<|gO X.K B I Z own1<|o9 f:=(pf h).imp <|by
 rintro D C H ⟨G,A,o,S,w,k⟩;obtain⟨⟨d,a⟩,w',z⟩:=aj.1 w;cases z;refine(G,A,d,a,S,w',λq b g R =>?_);have l:=by simpa using R.len
 exact k _ _ b g (_,Ż,R) Ż
def ts(i:Nat)(f:DMF):DG:=λA=>(f A).bind λp=>if p.2.length<1000 then Y (.nx<|p.2.set i<|Y<|.lst p.1) else M
set_option tactic.hygienic true
def acd{i:Nat}{f:DMF}(C:X.N.Nodup)(u:X.N[i]?=Y x)(p:Loc X.env.scope x)(y:PE X e<|V9 X.K B Z f)(r:‹i∈Z›)(c:autoParam (∀a,(i,a)∉B.3) ť)(t:‹Br i∉Z›)(q:@&(cg e (Y<|.Name x A) g.line X.env=c9 false))(w:autoParam (X.fn x=Z'\/X.env.scope.names.lookup x=Y .local) ŧ):
  PS X (.Assign [.Name x A] e g) (gO X.K B I Z Z<|ts i f):=(km C u p y q w).imp <|by
 rintro D C H ⟨G,A,o,S,w,k⟩;obtain⟨⟨d,a⟩,w',z⟩:=aa.1 w;split at z
 .rename_i n;cases z;exact(G,A,d,a,S,w',λq b g R=>k _ b g<|R.pull n S.pin r c t)
 .cases z
end
end L2
end
section
set_option maxHeartbeats 400000
namespace L2
open PySem PySem.Spec PyProof.Rows
section
variable {K:aV}{f:!Nat}
def SR.RG{s}{t'}{m}{F}(S:SR K B f G H y l)(Da:oS K B f G H y l F)(J:F i=T)(g:i∈f)(I:l[i]?=Y (Y<|.obj s t))(u:y[i]?=Y (Y<|.ref a))(E:fT G (dM H T) G' H')(v:cm K G' H' n t' (.ref a) m)(x:m.Nodup)(w:∀b∈m,G' b=M/\(b∈T\/H b=M)):SR K B f G' H' y ((c4 i l).set i<|Y<|.obj n t')/\oS K B f G' H' y ((c4 i l).set i<|Y<|.obj n t') (λj=>if j=i then m else F j):=by
 have:=S.L9.Jw (d' :=.obj n t') (λi d g e=>Da.it i d g (bH e).1,λi d g e=>Da.ok i d g (bH e).1,λi j d c g C A L=>Da.ap i j d c g C (bH A).1 (bH L).1) g (λb k=>(Ż,_,jx I λq z=>by cases z)) E.gg E.gh λb o e=>by
   obtain z|z:=E.fr b o e
   .exact .inl z
   .by_cases k:b∈T
    .exact .inr<|.inr k
    .rw[bK k]at z;exact .inr<|.inl z
  (λb o k e=>E.hh b o<|by simp_all [bK]) v x (λb k=>((w b k).1,(w b k).2.imp id .inl)) λb h=>by have:=(S.pin i b h).2;simp_all λr p z=>by cases z
  λj p q q q e=>absurd W<|(bH e).2 p
 rwa [eY u]at this
def SR.Lr{s}{X}(S:SR K B Z G H J ρ)(hr:r∈Z)(hd:ρ[r]?=Y (Y<|.obj s t))(w:kz p s=Y u)(ep:iR p t=Y X):
  ∃a x i,J[r]?=Y (Y<|.ref a)/\dS H p (.ref a)=Y x/\cm K G H u X x i/\i.Nodup/\(∀b∈i,G b=M) /\
   ∀(g:D) (f:!aH) (N L:Hp),fT G (dM H i) N L->cm K N L u g x f->f.Nodup->(∀b∈f,N b=M/\(b∈i\/H b=M))->dS L p (.ref a)=Y x/\SR K B Z N L J ((c4 r ρ).set r<|Y<|.obj s<|jF g p t) /\
    ∀q ws ds,ρ.length<1000->N q=M->(q∈i\/H q=M)->q∉f->L q=Y (.lst ws)->aZ K N ds ws->SR K B (J.length::Z) N L (J++[Y<|.ref q]) ((c4 r ρ).set r (Y<|.obj s<|jF g p t)++[Y<|.lst ds]):=by
 let(a,T,e1,C,nd,nf,F,Da,hF):=S.tree hr hd;let(x,i,U,h1,o2,v,k1):=C.focus w ep;let k:=v.nodup_iff.mp nd;rw[bM]at k;let(n1,n2,n3):=k;have h:∀b∈i,b∈T:=λb d=>v.symm.subset<|aS _ d
 have n:∀b∈U,b∈T:=λb d=>v.symm.subset<|aE _ d
 let R:=λb d Q=>n3 b Q b d W
 refine(a,x,i,e1,h1,o2,n1,λb d=>(nf b<|h b d).1,λg f N L E nw m j =>?_);let(gv,T',o3,p3):=k1 N L g f E.gg (λb d o e=>E.hh b o<|by rw[bK<|R b d];exact e) nw;refine(gv,?_);have A:=S.RG Da hF hr hd e1 (λb o e =>?_,E.gg,E.gh,λb o e =>?_) o3 ?_ λb d =>?_
 .refine(A.1,λq ws ds l gq fq nq hq rq=>A.1.snoc A.2 (by simpa [c4] using l) gq ?_ (λk c o e z =>?_) hq rq)
  .exact fq.elim (λz=>(nf q<|h q z).2) λz=>S.h0.free z
  .by_cases y:k=r
   .subst y;rw[if_pos W]at z;obtain z|z:=aD.mp (p3.subset z)
    .exact nq z
    .obtain y|y:=fq
     .exact R q z y
     .let(o,P,_):=C.here q<|n q z;rw[P]at y;cases y
   .rw[if_neg y]at z;rw[aq<|bw y]at e;have e:=(bH e).1;obtain y'|y':=fq
    .exact Da.ap r k _ c hr o hd e (bw y) q (by rw[hF];exact h q y') z
    .let(_,_,b):=Da.it k c o e;let(o,P):=b.here q z;rw[P]at y';cases y'
 .by_cases d:b∈T
  .rw[ia d]at e;cases e
  .rw[bK d]at e;exact E.hh b o (by rw[bK<|λz=>d<|h b z];exact e)
 .obtain z|z:=E.fr b o e
  .exact .inl z
  .refine .inr ?_;by_cases d:b∈T
   .rw[ia d]
   .rw[bK d];rw[bK<|λz=>d<|h b z]at z;exact z
 .rw[p3.nodup_iff,bM];refine(m,n2,λb d c hc z =>?_);subst z;rcases(j b d).2 with z|z
  .exact R b hc z
  .let(o,P,_):=C.here b<|n b hc;rw[P]at z;cases z
 .obtain q|q:=aD.mp (p3.subset d)
  .refine((j b q).1,?_);rcases(j b q).2 with z|z<;>simp_all
  .refine(?_,.inl<|n b q);rcases z:N b with _|o
   .rfl
   obtain y|y:=E.fr b o z
   .simp_all
   .let(o,P,_):=C.here b (n b q)
    simp_all [bK]
end
section
variable {X:Cx}
def Hr(c m:aP)(s:Sk)(F:!D->↑(!D×D))(j:Nat)(p:CN)(g:DL):DMF:=λb=>(oZ s j b).bind λw=>match iR p w with
 |some (.ins a d i)=>if a=c/\m∉d/\b.length<1000 then (g b).bind λe=>(F<|.ins a d i::e).map λr=>(r.1,(c4 j b).set j<|Y<|.obj s<|jF r.2 p w) else M
 |_=>M
set_option tactic.hygienic true
def IE{c m}{k}{F:!D->↑(!D×D)}{p:CN}{s:Sk}(n:uw X.K bc c=Y (Y<|.ref C))(z:j∈Z)(y:kz p s=Y (.fs c k))(ht:∀i H Q,E9 X.K Z g i H Q->t i H Q)(rc:∀G ρ Q d a x,SR X.K B Z G H i ρ->ρ[j]?=Y (Y<|.obj s d)->i[j]?=Y (Y<|.ref a)->dS H p (.ref a)=Y x->Q x H->T0 i H Q)(h:V9 X.K B Z (Hr c m s F j p g) i H Q):E_ C m (uM X.K (.fs c k) F) [] E0 T0 t i H Q:=by
 let(G,ρ,d,a,S,b,q):=h;let(w,b1,c1):=aa.1 b;split at c1
 .rename_i a1 d1 i1 b3;split at c1
  .rename_i hz;let(rfl,hm,l):=hz;let(e,b4,c2):=aa.1 c1;obtain⟨⟨r1,r2⟩,b5,c3⟩:=aj.1 c2;cases c3;let hd:=jy b1;let(x,v,T,f1,f2,f3,f4,f5,f6):=S.Lr z hd y b3;refine rc G ρ _ w x v S hd f1 f2 ?_;cases f3 with
   |@ins _ _ _ _ x' C' P vs S0 n' ex l' tt=>rw[n]at n';cases n';refine(x',P,_,W,ex,oD (K:=X.K) (G:=G) hm,ht _ _ _ (G,ρ,e,S.gh,S.i6,b4,λA G1 H1 R r1 =>?_));rw[bZ];let S1:=S.ext R;let(x2,v2,T2,g1,g2,g3,g4,g5,g6):=S1.Lr z hd y b3;rw[f1]at g1;cases g1;rw[iQ R.hh f2]at g2;cases g2;exact(G1,_,e,_,_,x',T2,A,S1.gh,W,g3,g4,g5,r1,b5,λq' ws T' G' H' E nw nd nf gq fq nq hq rq=>q q' G' H'<|(g6 _ T' G' H' E nw nd nf).2.2 q' ws _ l gq fq nq hq rq)
  .cases c1
 .cases c1
end
end L2
end
section
set_option maxHeartbeats 400000
namespace L2
open PySem PySem.Spec PyProof.Rows
section
variable {X:Cx}
def O5{K}{i}{G H}{ρ}{Q}{s}{d}{a}{x}(_:SR K B Z G H i ρ)(_:ρ[j]?=Y (Y<|.obj s d))(e:i[j]?=Y (Y<|.ref a))(v:dS H [] (.ref a)=Y x)(q:Q x H):g9 j i H Q:=by
 cases v;exact(_,e,q)
def Nl{c m}{s}{F}(h:dZ X.prog X.w X.K X.mg X.base c m k<|uM X.K (.fs c s) F)(g:d7 k X.A)(i:PE X (.Name y p)<|g9 j)(r:‹j∈Z›) (e:@&(eval (.Call (.Attribute (.Name y p) m L) [] [] J) X.env=(do
   let a <- eval (.Name y p) X.env
   nR L.atName
   let(f,first) <- k9 [a] (jH a m pl)
   qc J f first (cB J<|ak [] X.env) (fY J<|cV [] X.env)))):PE X (.Call (.Attribute (.Name y p) m L) [] [] J)<|V9 X.K B Z<|Hr c m (.fs c s) F j [] aN:=by
 let(C,f,K,E,n,t,o,x,w):=h.ex;exact(uV i t o x g w .nil lP e).imp λb H Q q=>IE n r W (by rintro b H Q ⟨G,A,l,S,d,z,k⟩;cases z;exact k [] G H (.refl S) .nil) (λG ρ Q d a x=>O5) q
def ach{c m}{s}{F}{g}(h:dZ X.prog X.w X.K X.mg X.base c m k<|uM X.K (.fs c s) F)(o:d7 k X.A)(r:PE X (.Name y p)<|g9 j)(E:PA X (e::I)<|E9 X.K Z g)(w:‹j∈Z›)(a:@&(ak (e::I) X.env=(Z_,eval e X.env)::ak I X.env))(b:@&((cB J<|ak I X.env).any (·.1)=false)) (i:@&(eval (.Call (.Attribute (.Name y p) m L) (e::I) [] J) X.env=(do
   let d <- eval (.Name y p) X.env
   nR L.atName
   let(f,first) <- k9 [d] (jH d m pl)
   qc J f first (cB J<|ak (e::I) X.env) (fY J<|cV [] X.env)))):PE X (.Call (.Attribute (.Name y p) m L) (e::I) [] J)<|V9 X.K B Z<|Hr c m (.fs c s) F j [] g:=by
 let(C,f,N,l,n,x,t,G,A):=h.ex;exact(yf r x t G o A .nil lP E a b i).imp λK H Q q=>IE n w W (λu u u z=>z) (λG ρ Q d a x=>O5) q
def aae{c f m}{s fk:!(aP×Sk)}{F}(h:dZ X.prog X.w X.K X.mg X.base a m k<|uM X.K (.fs a s) F)(t:d7 k X.A)(i:sj X.K c f)(w:PE X (.Name y p)<|g9 j)(K:PA X (e::I)<|E9 X.K Z g)(A:‹j∈Z›)(z:@&(kz [.fld f] (.fs c fk)=Y (.fs a s)))(o:@&(bT (.Name y p) f X.env (eval (.Name y p) X.env)=eval (.Name y p) X.env))(b:@&(ak (e::I) X.env=(Z_,eval e X.env)::ak I X.env))(d:@&((cB J<|ak I X.env).any (·.1)=false)) (u:@&(eval (.Call (.Attribute (.Attribute (.Name y p) f l) m L) (e::I) [] J) X.env=(do
   let r <- eval (.Attribute (.Name y p) f l) X.env
   nR L.atName
   let(f,first) <- k9 [r] (jH r m pl)
   qc J f first (cB J<|ak (e::I) X.env) (fY J<|cV [] X.env)))):PE X (.Call (.Attribute (.Attribute (.Name y p) f l) m L) (e::I) [] J)<|V9 X.K B Z<|Hr a m (.fs c fk) F j [.fld f] g:=by
 let(C,S,R,P,n,E,x,v,G):=h.ex;refine(yf (qG w o) E x v t G .nil lP K b d u).imp λN H Q q=>IE n A z (λD D D z=>z) (λG ρ Q d a x S e1 e2 e3 q =>?_) q
 let(a',T,e4,o1,_):=S.tree A e1;cases o1 with
 |ins=>let(C,dx,fs,nn,f1,f2):=S.Nb A e1 e2 e3;exact(_,e2,a,C,dx,fs,_,W,f1,(i C nn).1,(i C nn).2,f2,q)
end
end L2
end
section
set_option maxHeartbeats 400000
namespace L2
open PySem PySem.Spec PyProof.Rows
inductive GA (K:aV) (G H:Hp):Nat->!D->!V->!aH->Prop
 |nil:aZ K G c b->GA K G H 0 c b []
 |cons:H a=some (.lst w)->aZ K G k w->G a=none->a∉S->GA K G H n c b S->GA K G H (n+1) (.lst k::c) (.ref a::b) (a::S)
section
variable {K:aV}
def GA.len{S:!aH}(h:GA K G H n c b S):c.length=b.length:=by
 induction h with|nil r=>exact r.length|cons _ _ _ _ _ ih=>simp[ih]
def GA.get{S:!aH}(h:GA K G H n c b S):∀(i:Nat) d,c[i]?=Y d->(i<n/\∃a w k,d=.lst k/\b[i]?=Y (.ref a)/\S[i]?=Y a/\H a=Y (.lst w)/\aZ K G k w/\G a=M)\/(n<=i/\∃v,b[i]?=Y v/\cS K G d v):=by
 induction h with
 |nil r=>exact λi d e =>.inr (cZ _,r.get e)
 |@cons a w k S n c b x r g m _ ih=>
  intro i d e;cases i with
  |zero=>cases e;exact .inl (ż,a,w,k,W,W,W,x,r,g)
  |succ i=>simp_all
def GA.nd{S:!aH}(h:GA K G H n c b S):S.Nodup:=by
 induction h with|nil=>exact .nil|cons _ _ _ m _ ih=>simp_all
def Mf{S:!aH}(s:a_ G H)(r:GA K G H n k m S)(t:∀i∈Z,i<n\/k.length<=i)(u:∀i,i<n->i∈Z):SR K (G,dM H S,[],x) Z G H (start N m)<|fP N.length k:=by
 have st:∀ {i:Nat}{v:V},m[i]?=Y v->(start N m)[i]?=Y (Y v):=fun {i v} n=>by let f:=(ah.mp n).1;unfold start;rw[aI (by simp_all),aK,n];rfl
 have o:∀ {i d},i∈Z->(fP N.length k)[i]?=Y (Y d)->∃a w k,d=.lst k/\m[i]?=Y (.ref a)/\S[i]?=Y a/\H a=Y (.lst w)/\aZ K G k w/\G a=none:=fun {i d} h e=>by
  have e:=jz e;obtain z|z:=r.get i d e
  .exact z.2
  .have:=(ah.mp e).1;have:=t i h
   grind
 refine(s,a_.refl _,λb o e =>?_,λb o e =>.inl e,λi d f e =>?_,(λi=>(S[i]?).toList,λi d f e =>?_,λi d f e =>?_,λi j d c f h e z y =>?_),by simp[start,fP,r.len],λi a h=>(by cases h),λj r p w A e =>?_)
 .by_cases y:b∈S
  .simp only[ia y]at e;cases e
  .simp only[bK y]at e;exact e
 .obtain z|⟨_,v,z,y⟩:=r.get i d (jz e)
  .exact absurd (u i z.1) f
  .exact(v,st z,y)
 .let(a,w,k,z,b,c,d,g,h):=o f e;subst z;rw[c];exact(a,st b,(j9.cell W).mpr ((_,d,w,W,g),W))
 .let(a,w,k,z,b,c,d,g,h):=o f e;rw[c];exact(ż,λb y=>by simp at y;subst y;exact(h,ia<|bp c))
 .let(a,_,_,_,_,p,_):=o f e;let(b,_,_,_,_,q,_):=o h z;rw[p,q];intro x g v;simp at g v;subst g;subst v;exact y<|(l4 (ah.mp p).1 r.nd).mp<|p.trans q.symm
 .let(_,_,_,z,_):=o w e;cases z
end
inductive Xm (K:aV) (n:Nat) (F:!D->↑(!D)) (g:!V) (H:Hp) (Q:VK) (_x:XK):Prop
 |mk G f e S:a_ G H->GA K G H n f g S->F f=some e->(∀a d c b,fT G (dM H S) c b->dM H S a=none->c a=none->b a=some (.lst d)->aZ K c e d->Q (.ref a) b)->Xm K n F g H Q _x
def fX.okG{P:bh}{K:aV}{f:aH}(F:fX K x j p f I)(N:!aP)(Z Ź:!Nat){g:DG}(S:ji N z<|bu p) (R:N.Nodup->∀(m:au) (A:gM) (e:!Env) (s:aA) (H:Hp) (E:XK),d7 k (A.deeper<|oY j (bu p) s.heap.objs.size f m)->∀B:Bs,B.3=[] ->
   nY (wR fx P w K u y N j (bu p) f m A e s H E).NY (fI p) (gO K B [] Z Ź g)) (t:‹∀i∈Z,i<n\/z.length<=i›) (v:‹∀i,i<n->i∈Z›):b9 P w K u y fx (k+1) f I z<|Xm K n<|ou z.length N.length g:=by
 refine F.ok S (λJ H Q E h =>?_) λm A e s H J Q E a h =>?_
 .let(G,ds,d,T,D,r,b,_):=h;unfold ou at b;split at b
  .rw[<- r.len];omega
  .cases b
 .let(G,ds,d,T,D,r,b,q):=h;unfold ou at b;split at b
  .refine(_,R S.nd m A e s H E a (G,dM H T,[],λc c=>False) W,?_);let(o,eg,b'):=aa.1 b;refine(G,_,o,Mf D r Ż v,eg,?_);cases o with
   |ro rs=>cases b';solve_by_elim|_=>cases b'
  .cases b
section
variable {X:Cx}
inductive tGA (K:aV) (Z:!Nat) (n:Nat) (f:DL) (d:St) (H:Hp) (Q:!V->Hp->Prop):Prop
 |mk G a c:a_ G H->ja K Z G H d a->f a=some c->(∀b S G' H',fT G H G' H'->GA K G' H' n c b S->(∀x∈S,H x=none)->Q b H')->tGA K Z n f d H Q
def QT{g:DL}(h:PA X l<|E9 X.K Z g):PA X l<|tGA X.K Z 0 g:=h.imp <|by
 rintro b H Q ⟨G,A,c,w,e,z,k⟩;exact(G,A,c,w,e,z,λb G' H' E r=>k b [] G' H' E (.nil r) nofun)
def SF(f g:DL):DL:=λa=>(f a).bind λd=>(g a).map λe =>.lst d::e
def DK{f g:DL}(h:PE X e<|tF X.K Z f)(k:PA X l<|tGA X.K Z n g)(v:@&(ak (e::l) X.env=(Z_,eval e X.env)::ak l X.env)):PA X (e::l)<|tGA X.K Z (n+1)<|SF f g:=(cA h k v).imp <|by
 rintro b H Q ⟨G,A,c,w,u,z,k⟩;let(d,z1,z2):=aa.1 z;let(c',z3,z4):=aj.1 z2;subst z4;refine(G,A,d,w,u,z1,λp ws G1 H1 E hp gp hh r=>(G1,A,c',E.gh,u.ext E,z3,λb S G2 H2 E2 y t =>?_));refine k _ _ G2 H2 (E.trans E2) (.cons (E2.hh _ _ hh) (aZ.mono E2.gg _ r) ?_ (λz =>?_) y) λx m =>?_
 .rcases z:G2 p with _|o
  .rfl
  .obtain y|y:=E2.fr _ _ z
   .simp_all
   simp_all
 .simp_all
 .obtain rfl|m:=aG.mp m
  .exact hp
  .exact E.hh.free<|t x m
def GU{F:!D->↑(!D)}(h:gP X.prog X.w X.K X.mg X.base x k<|Xm X.K n F)(w:d7 k X.A)(B:Gl X x)(J:PA X (e::l)<|tGA X.K Z n g)(d:‹(x==("__debug__" : aP))=false›)(E:@&(ak (e::l) X.env=(Z_,eval e X.env)::ak l X.env))(c:@&((cB C<|ak l X.env).any (·.1)=false)):PE X (.Call (.Name x p) (e::l) [] C)<|tF X.K Z<|fG F g:=by
 let(f,fd,ps,i,z,A,I):=h.ex;refine(yg i w B z A I .nil lP J d E c).imp ?_;rintro σ H Q ⟨G,o,O,Da,j,b,q⟩;let(n',N,b'):=aa.1 b;refine(G,o,n',Da,j,N,λr S T R m v t =>?_);rw[bZ];have l:∀b o,H b=Y o->dM R S b=Y o:=λb o e=>by rw[bK λz=>by simp_all];exact m.hh _ _ e
 refine(T,n',O,S,m.gh,v,b',λa s c' P U i L K t'=>q a s c' P (λb o e=>U.hh _ _<|l b o e,m.gg.trans U.gg,U.gh,λb o e =>?_) ?_ L K t')
 .obtain z|z:=U.fr b o e
  .exact m.fr b o z
  .refine .inr ?_;rcases y:H b with _|u
   .rfl
   simp_all
 .rcases y:H a with _|u
  .rfl
  simp_all
end
end L2
end
section
set_option maxHeartbeats 400000
namespace L2
open PySem PySem.Spec PyProof.Rows
def Uy:D->Bool
 |.str _=>Z'|.obj _ _=>Z'|_=>Z_
def Qa:D->Bool
 |.tup (a::b::_::_)=>Uy a&&Uy b|.obj _ _=>Z'|.dY _ _=>Z'|.kG _=>Z'|_=>Z_
def Z7:!D->Bool
 |d::_=>Qa d|[]=>Z_
mutual
def su:D->D
 |.lst e=>if Z7 e=Z' then .dY 0 [] else .lst (qu e)
 |.tup e =>.tup (qu e)|.ins c k e =>.ins c k (qu e)|.i9 k e =>.i9 k (qu e)|.obj s t =>.obj s (su t)|.dC =>.dC|.bl b =>.bl b|.int i =>.int i|.str x =>.str x|.kG _ =>.dY 0 []|.dY r p =>.dY r p
def qu:!D->!D
 |[]=>[]|d::e=>su d::qu e
end
theorem kN:∀e,qu e=e.map su
 |[]=>by trivial
 |d::e=>by simp[qu,kN e]
def LkA(G:Hp)(b:aH):Prop:=∃a f x y z r,G b=Y (.lst<|.ref a::f)/\G a=Y (.tup<|.str x :: .str y::z::r)
section
variable {K:aV}
theorem Ux{d}(r:cS K G d<|.str x):Uy d=true:=by
 cases d<;>simp[cS,Uy]at *
def Uw{d}(r:cS K G d<|.ref a)(h:G a=Y (.tup<|.str x :: .str y::z::f)):Qa d=true:=by
 cases d with
 |tup e=>
  let(a',v,w,g,s):=cQ.mp r;cases w;rw[h]at g;cases g;obtain _|⟨e1,_|⟨e2,_|⟨e3,e⟩⟩⟩:=e
  .cases cx.mp s
  .let(_,_,q,_,t):=aW.mp s;cases q;cases cx.mp t
  .let(_,_,q,_,t):=aW.mp s;cases q;let(_,_,q,_,t):=aW.mp t;cases q;cases cx.mp t
  .let(_,_,q,u,t):=aW.mp s;let(_,_,q,w,_):=aW.mp t
   grind [Qa,Ux]
 |obj=>rfl|dY=>rfl|lst=>let(a',v,w,g,s):=cu.mp r;simp_all
 |ins=>let(a',_,_,_,w,_,g,_):=kH.mp r;simp_all
 |i9=>let(a',_,w,g,_):=rL.mp r;simp_all
 |kG=>rfl|_=>simp[cS]at r
set_option tactic.hygienic true in
mutual
theorem Ih{S:!aH}(n:∀b∈S,LkA G b):∀(d:D){v:V},cS K G d v->cS K (dM G S) (su d) v
 |.dC,v,h=>by solve_by_elim
 |.bl _,v,h=>by solve_by_elim
 |.int _,v,h=>by solve_by_elim
 |.str _,v,h=>by solve_by_elim
 |.dY _ _,v,h=>by solve_by_elim
 | .lst e,v,h=>by
  let(a,f,w,g,r):=cu.mp h;subst w;unfold su;split
  .exact Ÿ
  .rename_i k;refine cu.mpr (a,f,W,?_,uT n e r);rw[bK λz =>?_]
   .exact g
   .let(b,f',x,y,z',r',p,q):=n a z;rw[g]at p;cases p;cases e with
    |nil=>cases cx.mp r|cons d e=>let(_,_,q',u,_):=aW.mp r;cases q';exact k<|Uw u q
 | .tup e,v,h=>by
  let(a,f,w,g,r):=cQ.mp h;subst w;rw[su];refine cQ.mpr (a,f,W,?_,uT n e r);rw[bK λz =>?_]
  .exact g
  .let(b,f',x,y,z',r',p,q):=n a z
   simp_all
 | .ins c k e,v,h=>by
  let(a,C,i,f,w,m,g,l,r):=kH.mp h;subst w;rw[su];refine kH.mpr (a,C,i,f,W,m,?_,by rw[kN,ar];exact l,uT n e r);rw[bK λz =>?_]
  .exact g
  .let(b,f',x,y,z',r',p,q):=n a z
   simp_all
 | .i9 k e,v,h=>by
  let(a,f,w,g,l,r):=rL.mp h;subst w;rw[su];refine rL.mpr (a,f,W,?_,by rw[kN,ar];exact l,uT n e r);rw[bK λz =>?_]
  .exact g
  .let(b,f',x,y,z',r',p,q):=n a z
   simp_all
 |.obj s t,v,h=>by rw[su];exact m8.mpr<|Ih n t<|m8.mp h
 | .kG g,v,h=>by
  let(a,w,_):=Dc.mp h
  exact Ÿ
theorem uT{S:!aH}(n:∀b∈S,LkA G b):∀e {a:!V},aZ K G e a->aZ K (dM G S) (qu e) a
 |[],a,h=>by solve_by_elim
 |d::e,a,h=>by let(v,r,w,q,t):=aW.mp h;subst w;rw[qu];exact .cons (Ih n d q)<|uT n e t
end
mutual
def Uj:Sk->Bool
 |.lf=>Z'|.li (.fs _ k)=>PM k|.fs _ k=>PM k|_=>Z_
def PM:!(aP×Sk)->Bool
 |[]=>Z'|(_,s)::k=>Uj s&&PM k
end
theorem Wt{f}:∀ {k},PM k=Z'->Uj (cX k f)=Z'
 |[],_=>by solve_by_elim
 | (g,s)::k,h=>by
  rw[PM,ax]at h;unfold cX;rw[eO];split
  .exact h.1
  .exact Wt h.2
set_option tactic.hygienic true
def cm.tw{S T:!aH}{d}{v}{s}(n:∀b∈S,LkA G b)(x:cm K G H s d v T)(o:Uj s=Z'):cm K (dM G S) H s (su d) v T:=by
 induction x using cm.rec (motive_2:=λss ds vs T f=>(∀s∈ss,Uj s=Z')->d8 K (dM G S) H ss (qu ds) vs T) with
 |leaf r=>exact .leaf (Ih n _ r)|@lst s ds a vs T e t j=>
  cases s with
  |fs c k=>
   have z:Z7 ds=false:=by
    cases ds with
    |nil=>rfl|cons d ds=>
     cases t with|cons u _=>cases u;rfl
   rw[su,if_neg<|by simp_all];refine .lst e ?_
   simp_all [qu,kN,ar,Uj]
  |_=>simp[Uj]at o
 |@ins c ks fk ds a C dx vs T m e l t j=>
  refine .ins m e (by rw[kN,ar];exact l)<|j λs h =>?_
  grind [Wt,Uj]
 |i9 e l t=>simp[Uj]at o|nil=>solve_by_elim|cons a t j k=>rename_i h;exact .cons (j<|h _ az) Ż
end
section
variable {X:Cx}
def OA:!D->Bool
 |.tup (.str _ :: .str _::_::_)::_=>Z'|_=>Z_
def Jm(c:aP)(F:!D->↑(D×D))(g:DF):DF:=λa=>(g a).bind λq=>match q with
 |.lst b=>if OA b=Z' then (F [.ins c [] [],.lst b]).bind λr=>match r.1 with|.dC=>Y (su r.2)|_=>M else M
 |_=>M
def abv{K}{b}(h:OA b=Z')(g:G L=Y (.lst f))(r:aZ K G b f):LkA G L:=by
 unfold OA at h;split at h
 .let(v,_,w,q,_):=aW.mp r;subst w;let(a,_,w,z,s):=cQ.mp q;subst w;let(_,_,w1,q1,s1):=aW.mp s;subst w1;cases dJ.mp q1;let(_,_,w2,q2,s2):=aW.mp s1;subst w2;cases dJ.mp q2;let(_,_,w3,q3,s3):=aW.mp s2;subst w3;exact(_,_,_,_,_,_,g,z)
 .cases h
set_option tactic.hygienic true
def RD{c:aP}{fk:!(aP×Sk)}{F:!D->↑(D×D)}{g:DF}(h:ur X.prog X.w X.K X.mg X.base c k<|spT X.K (.fs c fk) F)(hr:d7 (k+1) X.A)(hg:Gl X c)(ha:PE X e<|tQ X.K Z g)(ok:@&(Uj (.fs c fk)=true))(B:‹(c==("__debug__" : aP))=false›)(he:@&(ak (e::[]) X.env=(Z_,eval e X.env)::ak [] X.env))(A:@&((cB J<|ak [] X.env).any (·.1)=false)):PE X (.Call (.Name c p) [e] [] J)<|HX X.K Z (.fs c fk)<|Jm c F g:=by
 let(C,f,fd,ps,n,hm,hk,h1,a):=h.ex;refine(Di hk h1 hr hg hm a .nil lP (cA ha dH he) B he A).imp ?_;rintro σ H Q ⟨G,ρ,d,gh,l,i,q⟩;unfold Jm at i;let(P,eg,i1):=aa.1 i;split at i1
 .rename_i b;split at i1
  .rename_i sq;obtain⟨⟨d',c'⟩,eF,i2⟩:=aa.1 i1;simp only at i2;split at i2
   .cases i2;refine(G,ρ,_,gh,l,eg,λv N r w ro =>?_);let(L,vs,y,hL,rr):=ro.lst w.gh;subst y;obtain⟨S,s1,s2,s3⟩:∃S:!aH,(∀b∈S,N b=M)/\(∀b∈S,b=L)/\iB N r S L=Y (.lst vs):=by
     rcases z:N L with _|o
     .exact([L],λb m=>by simp at m;rw[m];exact z,λb m=>by simpa using m,by rw[m_<|by solve_by_elim];exact hL)
     .refine([],nofun,nofun,?_);rw[jP (by simp),z,<- w.gh _ _ z,hL]
    have pg:=ku (H:=r) s1;have ph:=jA (S:=S) w.gh;intro x s m j ne;rw[bZ];let K:iB N r S x=none:=ph.free m;refine(iB N r S,.ins c [] [],[.lst b],.dC,_,x,[x],[.ref L],(ph.trans<|(a_.alloc j).trans<|.alloc<|by rw[aO<|bw ne];exact m),W,.ins (ks:=[]) (vs:=[]) (S:=[]) n a9 W .nil,ż,(λb a=>by simp at a;subst a;exact K),.cons (cu.mpr (L,vs,W,s3,aZ.mono pg _ rr)) .nil,eF,λv T' G2 H2 t nw nd T rv=>(gz.mp rv,?_));have U:∀b o,r b=Y o->dM (cU (cU r s<|.Z x) x<|.ins C s []) [x] b=Y o:=λb o e=>by let a:b≠x:=bf e m;rw[bK (by simpa using a),aO a,aO<|bf e j];exact e
    have V:∀b,dM (cU (cU r s<|.Z x) x<|.ins C s []) [x] b=M->r b=none:=λb z=>by
     rcases y:r b with _|u
     .rfl
     .rw[U b u y]at z;cases z
    have E:fT (iB N r S) r G2 H2:=(λb o e=>t.hh b o<|U b o e,t.gg,t.gh,λb o e=>(t.fr b o e).imp id<|V b);let(E1,_):=vo w.gh s1 (λb m=>by rw[s2 b m];exact(_,hL,nofun)) E;refine q (.ref x) T' (dM G2 S) H2 (w.trans E1) (nw.tw (λb m =>?_) ok) nd λb a=>(?_,w.hh.free ?_)
    .rw[s2 b m];exact abv sq (t.gg _ _ s3)<|aZ.mono (pg.trans t.gg) _ rr
    .by_cases z:b∈S
     .exact ia z
     .rw[bK z];exact(T b a).1
    .rcases(T b a).2 with z|z
     .simp at z;subst z;exact m
     .rcases y:r b with _|u
      .rfl
      .let E:b≠x:=bf y m;rw[aO E,aO<|bf y j,y]at z;cases z
   .cases i2
  .cases i1
 .cases i1
end
end L2
end
section
set_option maxHeartbeats 400000
namespace L2
open PySem PySem.Spec PyProof.Rows
section
variable {K:aV}
theorem d8.snoc{v}{d}{s}{T}(h:cm K G H s d v T):∀ {ds:!D}{vs:!V}{S:!aH},d8 K G H (bC ds.length s) ds vs S->d8 K G H (bC (ds++[d]).length s) (ds++[d]) (vs++[v]) (S++T)
 | [],vs,S,t=>by
  cases t;have:=d8.cons h .nil
  simp_all
 | c::ds,vs,S,t=>by
  cases t with|cons a t=>rw[bF];exact .cons a<|d8.snoc h t
abbrev LT(K:aV)(A w:Hp)(s:Sk)(h:!D)(e:bL)(τ:BJ)(fe:DF)(rs:!D)(i m:Nat)(ys:!V)(H:Hp):Prop:=m=h.length-i/\i<=h.length/\ys.length<=i/\∃R r c S,fT A w R H/\d8 K R H (bC r.length s) r ys S/\S.Nodup/\(∀b∈S,R b=M/\w b=M/\∃o,H b=Y o)/\rN e τ gR fe (h.drop i)=Y c/\r++c=rs
set_option tactic.hygienic true
def Yo{s:Sk}(ho:f_ Z Ź src=Z')(hg:∀v l H Q,V8 K Ź τ v l H Q->g v l H Q)(q:HX K Z (.li s) (eF<|lU f src τ gR fe) l H Q):Xg (A9 K Z f) src g (p' K Ź gR) (HX K Ź s fe) l H Q:=by
 let(G,ρ,d0,gh,P,s0,k):=q;let(rs,s1,s2):=aj.1 s0;subst s2;unfold lU at s1;let(h,ef,s3):=aa.1 s1;split at s3
 .rename_i hz;refine(G,ρ,h,gh,P,ef,λJ A w E1 ok =>?_);refine(LT K A w s h (ki src ρ) τ fe rs,
   (h.length,W,cZ _,aF _,A,[],rs,[],.refl E1.gh,.nil,.nil,nofun,s3,W),?_)
  rintro i m ys D ⟨rfl,hil,hyl,R,r,c,S,o,rx,sn,sf,d,rfl⟩;let t:a_ A D:=o.gg.trans o.gh;by_cases n:i<h.length
  .refine .inr (ok.go i D t n,?_,_,
    λC H' z=>(h.length-(i+1),ŷ,W,n,z),λx H3 y =>?_)
   .have:=eQ
    lia
   .let(G3,X,N):=ok.JP i D x H3 R h[i] o.gg o.gh y<|ai n;rw[da n]at d;unfold rN at d;let(j,et,d1):=aa.1 d;let(b,eb,d2):=aa.1 d1;cases eb;let E13:=E1.trans<|o.trans X;refine hg _ _ _ _ (G3,ki src ρ,h[i],j,X.gh,(P.ext E13).src ho,N,et,λσ4 G4 H4 E4 B=>(G4,j,Z',E4.gh,B,W,λG5 H5 T =>?_));let E15:=(o.trans X).trans<|E4.trans T;refine Bv ?_;simp only[if_true]at d2;let(x4,ee,d3):=aa.1 d2;let(a,el,d4):=aj.1 d3;subst d4;refine(G5,j,x4,T.gh,B.ext T,ee,λv S' G6 H6 E6 o6 n6 f6=>(by simp;omega,G6,r++[x4],a,S++S',E15.trans E6,?_,?_,?_,el,ż))
    .let E35:=(X.trans<|E4.trans T).trans E6;exact d8.snoc o6<|rx.mono E35.gg λb u o=>E35.hh b o
    .refine bM.mpr (sn,n6,λb hb c hc z =>?_);subst z;have:=(f6 b hc).2;let(_,_,o,h):=sf b hb;rw[(X.trans<|E4.trans T).hh _ _ h]at this;cases this
    .intro b hb;let E35:=(X.trans<|E4.trans T).trans E6;obtain hb|hb:=aD.mp hb
     .let(f1,f2,o,h):=sf b hb;refine(?_,f2,o,E35.hh _ _ h);rcases z:G6 b with _|o
      .rfl
      .obtain y|y:=E35.fr _ _ z
       .rw[f1]at y;cases y
       .rw[h]at y;cases y
     .let(o,h,_):=o6.here b hb;exact((f6 b hb).1,E15.hh.free (f6 b hb).2,o,h)
  .let e:i=h.length:=by lia
   subst e;rw[j5]at d;unfold rN at d;cases d;refine .inl (ok.stop _ D t<|aF _,λp hp =>?_);let E12:=E1.trans o;refine k (.ref p) (p::S) R _ (E12.trans<|fT.lay (p:=p) o.gh hp) ?_ ?_ λb hb =>?_
   .simp only[bZ];refine .lst a9 (rx.mono (a_.refl _) λb hb o e =>?_)
    grind [aO]
   .grind
   .obtain rfl|hb:=aG.mp hb
    .exact(o.gh.free hp,E12.hh.free hp)
    .exact((sf b hb).1,E1.hh.free (sf b hb).2.1)
 .cases s3
end
section
variable {X:Cx}
def acq{s}{f}(S:dA X N src T)(j:X.calm=Z')(e:PI X L O<|A9 X.K Z f)(n:R9 J g)(a:∀i∈J,src[i]?=Y M)(h:∀v l H Q,V8 X.K Ź τ v l H Q->g v l H Q)(k:∀C s' H b,PG (X.p8 N T C s' H b) L g/\PE (X.p8 N T C s' H b) m (HX X.K Ź s fe))(d:‹f_ Z Ź src=true›)(c:autoParam (∀x,bR O X.env x=c9 x) ũ):PE X (.ListComp m [(L,O,[],0)] T u)<|HX X.K Z (.li s)<|eF<|lU f src τ gR fe:=
 (Ke S j e n a (λC s' H b=>((k C s' H b).1,kJ,(k C s' H b).2)) c).imp λl H Q q=>Yo d h q
def OU(j:Nat)(ix fe:DF):DG:=λA=>(oZ (.li<|.li .lf) j A).bind λt=>(ix A).bind λi=>(fe A).bind λd=>match t,i with
 | .lst a,.int n=>(xU a.length n).bind λk=>match a[k]? with
  |some (.lst b)=>if b.length<dQ then Y (.nx<|(c4 j A).set j<|Y<|.obj (.li<|.li .lf)<|.lst<|a.set k<|.lst<|b++[d]) else M
  |_=>M
 |_,_=>M
set_option tactic.hygienic true in
def Vn{fe ix}{b}(h:PE X (.Name x p)<|g9 j)(hi:PE X b<|tP X.K Z ix)(he:PE X e<|tP X.K Z fe)(hj:‹j∈Z›)(hpi:autoParam (yr b) Š)(s:@&(bT (.Subscript (.Name x p) b I) "append" X.env (eval (.Subscript (.Name x p) b I) X.env)=eval (.Subscript (.Name x p) b I) X.env)) (u:@&(((cB N<|ak (e::[]) X.env).all (λx=> (not x.1))&&(fY N<|cV [] X.env).all (λx=>x.1.isSome)
   && decide ((e::[]).length+([]:!j8).length+(if ([]:!j8).isEmpty then 0 else 1)<30))=true)) (q:@&((U.endLine==N.line)=true)) (hs:@&(ak (e::[]) X.env=(Z_,eval e X.env)::ak [] X.env)) (m:@&((cB N<|ak [] X.env).any (·.1)=false)) (hsw:@&(cg (.Call (.Attribute (.Subscript (.Name x p) b I) "append" U) [e] [] N) M L.line X.env=c9 false)) :
  PS X (.Expr (.Call (.Attribute (.Subscript (.Name x p) b I) "append" U) [e] [] N) L) (gO X.K B Q Z Z<|OU j ix fe):=
 (jO (uX dg PySem.F.slot_list_append PySem.F.type_list_append iO (oA rO h hi hpi) (cA he dH hs) s u q hs m) hsw).imp <|by
  rintro D J H ⟨G,A,o,S,i,k⟩;let(t,et,i1):=aa.1 i;let(n,en,i2):=aa.1 i1;let(d,ef,i3):=aa.1 i2;split at i3
  .rename_i a n;let(k0,ek,i4):=aa.1 i3;split at i4
   .rename_i b0 eb;split at i4
    .rename_i hz;cases i4;have hd:=jy et;have gp:iR [.ix k0] (.lst a)=Y (.lst b0):=by simp[iR,eb]
     have gs:kz [.ix k0] (.li<|.li .lf)=Y (.li .lf):=rfl;have go:∀ {G H},SR X.K B Z G H J A->∃a1 l f vs ws,J[j]?=Y (Y<|.ref a1)/\H a1=Y (.lst vs)/\qa vs n=Y (.ref l)/\H l=Y (.lst ws)/\b0.length=ws.length/\(cm X.K G H (.li .lf) (.lst b0) (.ref l) f/\f.Nodup/\∀(l':aH) (o:HO) (d:L2.D) (c:!aH),l'∈f->cm X.K G (cU H l' o) (.li .lf) d (.ref l) c->c.Nodup->(∀b∈c,b∈f)->SR X.K B Z G (cU H l' o) J ((c4 j A).set j<|Y<|.obj (.li<|.li .lf)<|jF d [.ix k0]<|.lst a)):=fun {G H} S=>by
      let(a1,y,f,e1,e2,o1,n1,k1):=S.yE hj hd gs gp;let(a2,T,e3,o2,_):=S.tree hj hd;rw[e1]at e3;cases e3;cases o1 with
      |@lst _ _ l ws S0 hl tt=>
       cases o2 with
       |@lst _ _ _ vs S1 hv tv=>
        refine(a1,l,_,vs,ws,e1,hv,?_,hl,tt.length.1,.lst hl tt,n1,k1);unfold qa;rw[<- tv.length.1,ek];simp only[dS,hv]at e2;rcases z:vs[k0]? with _|v
        .rw[z]at e2;cases e2
        .rw[z]at e2;cases e2;exact z
     let(a1,l,f,vs,ws,e1,_):=go S;refine(_,e1,G,A,.int n,S.gh,S.i6,en,λv G' H' E r =>?_);cases b8.mp r;have S1:=S.ext E;let(a2,l2,f2,vs2,ws2,e2,hv,hat,hl,_):=go S1;rw[e1]at e2;cases e2;refine(_,vs2,n,.ref l2,W,W,.of hv,hat,.inl (W,ws2,.of hl),G',A,d,S1.gh,S1.i6,ef,λv G2 H2 E2 r =>?_);let(a3,l3,f3,vs3,ws3,e3,hv3,abP,hl3,len,o3,n3,k3):=go<|S1.ext E2;rw[e1]at e3;cases e3;rw[E2.hh _ _ hv]at hv3;cases hv3;rw[hat]at abP;cases abP;let(x',K,g1,g2,g3,g4,T2,o2,P,t):=o3.app (p:=[]) n3 W W (a_.refl _) (λg g g z=>z) (.leaf r) .nil λb hb=>by cases hb
     cases g1;refine(l2,K,v,W,W,g3,?_,?_)
     .rw[<- g4];exact bo hz eQ
     .have:=k3 l2 _ _ T2 g2 o2 P λb hb=>(t b hb).elim id λz=>by cases z
      rw[show jF (jF (.lst<|b0++[d]) []<|.lst b0) [.ix k0] (.lst a)=.lst (a.set k0<|.lst<|b0++[d]) by simp[jF,eb]]at this;exact k _ G2 _ this
    .cases i4
   .cases i4
  .cases i3
def aaY(i:Nat):DG:=λa=>(gc i a).map λ_ =>.nx<|a.set i<|Y<|.lst []
def Y5{c b m}(h:PE X (.Name x m)<|g9 i)(p:‹i∈d›)(f:@&(bT (.Name x m) "clear" X.env (eval (.Name x m) X.env)=eval (.Name x m) X.env))(l:@&((c.endLine==b.line)=true))(s:@&(cg (.Call (.Attribute (.Name x m) "clear" c) [] [] b) M J.line X.env=c9 false)):
  PS X (.Expr (.Call (.Attribute (.Name x m) "clear" c) [] [] b) J) (gO X.K B I d d<|aaY i):=
 (jO (Ik dg PySem.F.slot_list_clear PySem.F.type_list_clear P4 h f l) s).imp <|by rintro D C H ⟨G,A,o,S,j,k⟩;let(g,U,j1):=aj.1 j;cases j1;have u:=dP U;let(a,P,y,e,_):=S.kU p u;exact(_,y,.inl (W,P,.of e),a,P,W,W,e,k C G _<|S.mut p u y .nil)
end
end L2
end
section
set_option maxHeartbeats 400000
namespace L2
open PySem PySem.Spec PyProof.Rows
section
variable {X:Cx}{f:!Nat}{m:Pos}
def Tw(o:D->D->↑D)(d b:DM)(g h:DG):DG:=λa=>(m2 o d b a).bind λp=>match p.1 with|.bl c=>if c then g p.2 else h p.2|_=>M
theorem Y4{s:DM}(z:AS X (c7 q) o)(I:PE X a<|tM X.K B e t)(F:PE X b<|tM X.K B e s)(E:fh q b=Z_)(K:nY X A<|gO X.K B f e l g)(J:nY X C<|gO X.K B f e l h):
  PS X (.If (.Compare a [q] [b] m) A C n) (gO X.K B f e l<|Tw o t s g h):=(FJ (uU z I F E) K J).imp λD P H (G,x,r,S,j,k)=>by
 let(p,L,j):=aa.1 j;let(d,i):=p;cases d with
 |bl c=>
  refine Wj (G,x,_,i,S,L,λv w O u N y=>(c,dO.mp y,?_));cases c with
  |true=>exact Bv (w,i,r,u,j,k)|false=>exact MY (w,i,r,u,j,k)
 |_=>cases j
def PQ:D->D->↑D
 |.bl i,.bl j=>Y (.bl<|not (i==j))|_,_=>M
def Uc:mT X (c7 .IsNot) (λx y H Q=>∃i j,x=.bl i/\y=.bl j/\Q (.bl<|not (i==j)) H):=by
 intro a s d H x y v u Q I c b h;let(i,j,rfl,rfl,q):=h;cases c;cases b;exact isnot_bool<|i5 I q W
def adh:AS X (c7 .IsNot) PQ:=mT.imp Uc λx y H Q (G,i,h,d,g,c,b,a,q)=>by
 unfold PQ at a;split at a
 .cases a;exact(_,_,c.bl,b.bl,q _ G H (.refl g)<|dO.mpr W)
 .cases a
def OQ(i:Nat):DG:=λA=>(yH i A).map λp =>.rt p.2
def Rl{Z}{i}(h:PE X (.Name x p)<|g9 i)(c:‹i∈Z›):PS X (.Return (Y<|.Name x p) J)<|gO X.K B I Z own1<|OQ i:=(pf h).imp <|by
 rintro D C H ⟨G,A,o,S,b,k⟩;obtain⟨⟨s,t⟩,e,z⟩:=aj.1 b;cases z;let(a,T,q,ot,nd,nf,_):=S.tree c<|kO e;refine(_,q,k _ _ H (S.h0,S.g0.trans<|ku λb m=>(nf b m).1,jA S.gh,λb o e =>?_)<|ot.frozen (λb m=>(nf b m).1) λb m=>m);by_cases m:b∈T
 .simp_all
 .rw[jP m]at e;exact S.fr b o e
end
end L2
end
namespace K21
open PySem L2
local macro_rules | `(tactic|walk_at "s") =>return mk0 "(T!exact exact (M!anonymousCtor ⟨ (null %rfl , %rfl , %rfl , %Ų , %rfl , %Ų , %Ų ) ⟩ ) )" #[]
theorem ű{p:Prop}(h:autoParam p ŗ):p:=h
noncomputable def Nt(c y G:!Nat):!Nat:=c.filter λi=> (not (y.contains i||G.contains i))
section
variable {X:Cx}{c y G:!Nat}{e:Expr}
def acb(b:PS X N<|gO X.K B I c c g)(a:nY X O<|gO X.K B I c L h):nY X (N::O)<|gO X.K B I c L<|aR g h:=av b a
def afT{f:DF}(h:PE X e<|tP X.K (Nt c y G) f)(a:‹kU c (Nt c y G) y G=true›):PE X e<|tP X.K c<|qU y G f:=AI _ y G h a
def afN{f:DT}(h:PT X e<|p' X.K (Nt c y G) f)(a:‹kU c (Nt c y G) y G=true›):PT X e<|p' X.K c<|JZ y G f:=Lc _ y G h a
def afS{f:DL}(h:PE X e<|tF X.K (Nt c y G) f)(a:‹kU c (Nt c y G) y G=true›):PE X e<|tF X.K c<|fTh y G f:=acm _ y G h a
def qX{Z:!Nat}{f:DL}(N:!aP)(src:!(↑Nat))(e:PI X (.Name x l) O<|A9 X.K Z f)(k:∀C s H b,PE (X.p8 N T C s H b) m<|tP X.K [] fe)(S:autoParam (dA X N src T) ő)(j:@&(X.calm=true))(a:‹∀i∈[0],src[i]?=Y none›)(n:autoParam (N.Nodup) ţ)(p:autoParam (N.Nodup->∀C s H b,PG (X.p8 N T C s H b) (.Name x l)<|ny 0) Ő)(d:‹f_ Z [] src=true›)(c:autoParam (∀x,bR O X.env x=c9 x) ũ):PE X (.ListComp m [(.Name x l,O,[],0)] T u)<|tF X.K Z<|lU f src (gN 0) gR fe:=
 WO S j e (jh 0) a (mI 0) (λC s H b=>(p n C s H b,kJ,k C s H b)) d c
end
section
variable {X:Cx}{e:Expr}
def pE{Z:!Nat}{f:DL}(N:!aP)(src:!(↑Nat))(e:PI X (.Name x l) O<|A9 X.K Z f)(k:∀C s H b,PT (X.p8 N T C s H b) c<|p' X.K [] U)(S:autoParam (dA X N src T) ő)(j:@&(X.calm=true))(a:‹∀i∈[0],src[i]?=Y none›)(n:autoParam (N.Nodup) ţ)(p:autoParam (N.Nodup->∀C s H b,PG (X.p8 N T C s H b) (.Name x l)<|ny 0) Ő)(v:autoParam (∀C s H b,PE (X.p8 N T C s H b) (.Name y m)<|tP X.K []<|eV 0) ŏ)(d:‹f_ Z [] src=true›)(w:autoParam (∀x,bR O X.env x=c9 x) ũ):PE X (.ListComp (.Name y m) [(.Name x l,O,[c],0)] T u)<|tF X.K Z<|lU f src (gN 0) U<|eV 0:=
 WO S j e (jh 0) a (mI 0) (λC s H b=>(p n C s H b,Lb<|k C s H b,v C s H b)) d w
end
noncomputable abbrev KL:!(aP×aP):=[("Coming","able"),("Coming","facts"),("Coming","full"),("Coming","opened"),("Coming","rests"),("Coming","rows"),("Coming","taken"),("Facts","asks"),("Facts","bits"),("Facts","by_name"),("Facts","by_text"),("Facts","inner"),("Facts","leads"),("Facts","question"),("Facts","starred"),("Facts","stars"),("Lean","coming"),("Row","atoms"),("Row","fits"),("Row","hoped"),("Row","hoped_around"),("Row","named"),("Row","number"),("Row","reached"),("Row","reached_around")]
noncomputable abbrev ZL:!aP:=["all","any","bool","enumerate","int","isinstance","len","list","range","sorted","zip"]
structure KS(K:aV)(J:aP->↑au):Prop where
 c:∀p∈KL,sj K p.1 p.2
 z:∀x∈ZL,J x=none
def KS.q{K:aV}{t:aP->↑au}{c f:aP}(k:autoParam (KS K t) Ŏ)(h:‹(c,f)∈KL›):sj K c f:=k.c _ h
def KS.y{K:aV}{t:aP->↑au}{x:aP}(k:autoParam (KS K t) Ŏ)(h:‹x∈ZL›):t x=none:=k.z _ h
def asm{p:Prop}(h:autoParam (p) Ŏ):p:=h
local macro_rules
|`(tactic|walk_at "o") =>
 let f(s x:String):="(M!app %"++(s.splitOn ":").headD ""++" (null "++String.join (((s.splitOn ":").getLastD "").toList.map fun c=>if c=='x' then x else (("?ariqynpvf".toList.zip ("(M!syntheticHole ? _ ) /%asm /%rfl /(M!app (M!dotIdent . %inl ) (null %rfl ) ) /%KS.q /%KS.y /(M!app %kv (null (M!hole _ ) ) ) /(M!app %pv (null (M!hole _ ) ) ) /%cJ /(M!fun fun (M!basicFun (null (M!hole _ ) (M!hole _ ) ) (null ) => (M!syntheticHole ? _ ) ) ) ".splitOn "/")).lookup c).getD "(M!hole _ ) ")++") ) "
 let q(s:String):="(T!tacticSeq (T!tacticSeq1Indented (null "++s++") ) ) "
 return mk0 ("(T!repeat' repeat' "++q ("(T!first first (null "++String.join (("PE:__x tP:__x qU:___|afT:?/PE:__x tF:__x fTh:___|afS:?/PT:__x p':__x JZ:___|afN:?/nY:___|fH: bW:? acb:??/PS:___|D7:ari? kg:??? kB:? ym:? Vm:??q Lf:ari? afR:?? qW:? adN:ari? yn:? adP:? AF:???q Rp:??q afQ:?ari? adR:??q uf:vr?ff aad:?? ds_asg:?? adQ:??? afO:ari? afP:??q adO:? Lg:ari? adS:ari??q Ld:ari? Rn: acd:ari? GK:?/PE:__x tQ:___|vQ:_ dvo:p dq:?/PE:__x tP:___|vP:_ jS: Jr: vr:?q Lk:?? Rz:??? Zb:? df:? Ll:aar? ahp: Js:ry? GS:aa?? ui:???n ui:???r de_non: afW:? adY:?q Zf:?? ahn:?? Zc:? Zd:? aho:??? afU:??? aah:aa? de_max:rry?? afX:?/PE:__x tF:___|RA:? acp:aar? afV:??? adZ:?? aag:aa? aco:ry? adX:ry?/PE:__x tM:____|AH:aa?? pD:? Y6:? Cv:aa? ahm:??? adT:aar?? dm_callP:aar? dm_if:???/PE:__x V9:____|Nl:aa? aae:aaq?? ach:aa?? Rt:?/PA:__x E9:___|jf:?? qY:/PA:__x Xf:____|mL:?? Ea:/PT:___|Rk:???n Rk:???r Jn:? AD:? PW.pt:?/PW:___|adM:? afM:?? afL:? ab9:??/PI:____|jR:? aaf:ry? adU:ry? di_items:? di_lt:? di_keys:? di_rev:ry?/PE:__x HX:____|ad0:aar? Zi: afY:/NJ:___|Qv: agL: ae8:/PO:___|ace:? acf:/PE:__x g9:_|pv:_/PG:__x HW:____|adV:? Y':? ack:?/PGs:___|Pa:?? adg:/AS:___|agD: adj: aeX: X9: aeW: aeV: adi: Wu: agC: Wv: agE: aeU: aeT: adh: od_isN: od_notN: abj: od_addT:|/AS:___|FV:a PN:a od_inD:a/PG:___|hW:ari XN:r?".splitOn "/").map fun s=>
  let p:=s.splitOn "|"
  let h:="(T!show show "++((p.headD "").splitOn " ").foldr f "(M!hole _ ) "++") "
  let a:="(T!first first (null "++String.join (((p.getD 1 "").splitOn " ").map fun s=>"(group | "++q ("(T!refine refine "++f s "(M!hole _ ) "++") ")++") ")++") ) "
  let w(s:String):="(T!withReducible with_reducible "++q s++") "
  "(group | "++q (if p.length<3 then w h++"; "++a else w (h++"; "++a))++") ")++") ) ")++")") #[]
theorem Ŷ{p:Prop}(h:autoParam p Ŗ):p:=h
noncomputable def top(i:Nat):cH:=PySem.Challenge.pw_earlysift_k22_whole_lean_tells_alike.main.body.getD i<|.Pass (0,0,0,0)
noncomputable abbrev vn:!(aP×Sk):=[("by_name",.di),("by_text",.di),("leads",.li .lf)]
abbrev aM:Sk :=.fs "Facts" vn
noncomputable abbrev oM:!(aP×Sk):=[("rows",.li<|.fs "Row" [])]
abbrev aT:Sk :=.fs "Coming" oM
abbrev K1:!(aP×Sk):=[("coming",aT)]
abbrev eB:Sk :=.fs "Lean" K1
abbrev u8:=eK<|.int 1
def xY:DG:=(aR (iA Z_ 0 "Facts" "bits" (λi j=>i+j) u8)<|gV<|mP<|qU [0] []<|e2 r9 u8<|e2 px (cn "Facts" "bits"<|eV 0) u8)
def fy:!D->↑(D×D):=mB 1 1 aM xY
abbrev ut:=top 5
abbrev n_:cH:=cL ut 1
abbrev f8:=eK<|.int 0
abbrev Uf:=eK<|.str<|af "*"
abbrev Tk:=eK<|.str<|af "inner"
def ua:DG:=(aR (sE 2<|cN "Facts" "new_bit" aM fy 0 qJ)<|aR (g_ (dG<|e2 hU (e2 cw (eV 1) f8) Tk) (iA Z_ 0 "Facts" "inner" eJ<|eV 2) c8)<|aR (g_ (dG<|e2 hU (e2 cw (eV 1) u8) Uf) (aR (iA Z_ 0 "Facts" "starred" eJ<|eV 2)<|iA Z_ 0 "Facts" "stars" (λi j=>i+j) u8)<|y_ 0 "Facts" "by_name" (e2 cw (eV 1) u8)<|mP<|qU [0] []<|e2 NX (GJ (cn "Facts" "by_name"<|eV 0) (e2 cw (eV 1) u8) f8)<|eV 2)<|gV<|mP<|eV 2)
def e8:!D->↑(D×D):=mB 2 3 aM ua
abbrev lK:cH:=cL ut 3
abbrev io:=mV (mP<|eV 0) qJ
def BC:DG:=(gV<|xT (iL<|eV 1) [M,Y 0] (gN 0) (cN "Facts" "enter_step" aM e8 1 io) 1 0 aM)
def fR:!D->↑(D×D):=mB 2 2 aM BC
abbrev mn:cH:=cL ut 2
noncomputable abbrev sQ:!aP:=["self","steps"]
abbrev At:=dG<|e2 (Um Z') (eV 1)<|cn "Facts" "by_text"<|eV 0
def t_:DG:=(aR (g_ (JZ [0] [] At) (y_ 0 "Facts" "by_text" (eV 1)<|cN "Facts" "new_bit" aM fy 0 qJ) c8)<|gV<|mP<|qU [0] []<|e2 PR (cn "Facts" "by_text"<|eV 0)<|eV 1)
def c_:!D->↑(D×D):=mB 2 2 aM t_
abbrev lJ:cH:=cL ut 4
def jU:DG:=(We 0 "Facts" "leads"<|i8<|aC (eV 6)<|aC (i8<|aC (e2 NX (e2 cw (eV 5) f8)<|eV 7)<|aC (e2 cw (eV 5) u8) aN) aN)
abbrev No:=aC (eV 3) aN
def DS:DG:=(aR (cM 4<|e2 gA (eF<|K6 (eV 2) (pS u8) pN)<|eF<|dW No)<|jL (iZ3 (eV 1) (eV 2)<|eV 4) (gN3 5 6 7) jU)
def lX:!D->↑(D×D):=mB 4 8 aM DS
abbrev sD:cH:=cL ut 6
def lF:DG:=(aR (xi 1 eJ<|e2 cw (eV 3) f8)<|J3 2<|e2 cw (eV 3) u8)
abbrev pc:=aC (eV 2) aN
abbrev Rs:=dW aN
def BA:DG:=(aR (cM 1 f8)<|aR (gU 2 Rs)<|aR (jL (iL<|eV 0) (gN 3) lF)<|fc<|i8<|aC (eV 1) pc)
def kK:!D->↑D:=jN 1 4 BA
abbrev qy:cH:=top 6
section
variable {P:bh}{w:cW}{K:aV}{J:aP->↑au}{r:cP}{f:aH}{z:dt}
def wj(F:fX K "new_bit" "Facts.new_bit" n_ f z)(kk:KS K J):b9 P w K J r fx 1 f z ["self"]<|spT K aM fy:=
 F.Ki ["self"] [0] [0] (by walk_at "s") λa a a a a a a a a a a=>
  by walk_at "o"
def rX(F:fX K "enter_step" "Facts.enter_step" lK f z)(kk:KS K J)(xW:dZ P w K J r "Facts" "new_bit" 1<|spT K aM fy):b9 P w K J r fx 2 f z ["self","step"]<|spT K aM e8:=
 F.Ki ["self","step","bit"] [0] [0] (by walk_at "s") λa a a a a a a hr a a a=>
  (av Ŷ<|av Ŷ<|av (kg Ŷ Ŷ<|bW<|GP (c:= "Facts") (Ae hr) (pv 0) Ŷ (pD<|AI [] [0] []<|Rz Wu (dq<|Ec (Ae hr) Ŷ Ŷ jS (W,W,W,W))<|vQ 2) kk.q) Ŷ)
def zo(F:fX K "enter" "Facts.enter" mn f z)(I0:dZ P w K J r "Facts" "enter_step" 2<|spT K aM e8):b9 P w K J r fx 3 f z ["self","steps"]<|spT K aM fR:=
 F.Ki sQ [0] [0] (by walk_at "s") λb b b b s H b b B a hB=>
  (bW<|ym<|Jp (i0:=1) (j0:=0) (s:=aM) (N:=[("step" : aP),("self" : aP)]) (src:=[M,Y 0]) (lE (outer:=bu mn) (oN:=sQ) W Ų W W) W (jR<|vP 1) (jh 0) ſ (qN _ 0 1) (λC s H ex=>(hW (i:=0) (show ([("step" : aP),("self" : aP)]:!aP).Nodup by decide +kernel) W (lZ W),kJ,dmx λB a hB=>Ŷ)))
def rW(F:fX K "enter_text" "Facts.enter_text" lJ f z)(kk:KS K J)(xW:dZ P w K J r "Facts" "new_bit" 1<|spT K aM fy):b9 P w K J r fx 2 f z ["self","text"]<|spT K aM c_:=
 F.Ki ["self","text"] [0] [0] (by walk_at "s") λa a a a a a a hr a a a=>
  (av (kg (Lc [] [0] []<|Nk (Ae hr) (vQ 1) Ŷ) (bW<|GP (c:= "Facts") (Ae hr) (pv 0) (vP 1) Ŷ kk.q) fH) (bW<|ym<|pD<|AI [] [0] []<|Vs (Ae hr) Ŷ<|vQ 1))
def Bn(F:fX K "lead" "Facts.lead" sD f z)(kk:KS K J):b9 P w K J r fx 1 f z ["self","asks","bits","end"]<|spT K aM lX:=
 F.Ki ["self","asks","bits","end","follows","ask","bit","follow"] [0] [0] (by walk_at "s") λa a a a a a a a B a hB=>
  (av Ŷ<|bW<|uf cJ W (Vo W kk.y (vP 1) (vP 2)<|vP 4) (λB hB=>Ŷ)<|λB hB=>Ŷ)
def zj(F:fX K "joined_asks" "joined_asks" qy f z):b9 P w K J r fx 1 f z ["asks"]<|gn K kK:=
 F.yh ["asks","need","choices","ask"] [2] [2] (by walk_at "s") λa a a a a a a a a a=>
  (av Ŷ<|av Ŷ<|av Ŷ<|pB (own1:=[]) 2 Ŷ)
end
abbrev nb:=eF Rs
abbrev ge:=eK<|.str<|af "has"
abbrev Tl:=eK<|.str<|af "any"
abbrev jp:=eK<|.str<|af "one"
abbrev wr:=eK<|.str<|af "text"
def dU(p:!D->↑(D×D))(q:!D->↑(D×D)):DG:=(aR (g_ (dG<|e2 hU (e2 cw (eV 1) f8) Tl) (gV<|mP<|i8<|aC f8<|aC nb aN) c8)<|aR (g_ (dG<|e2 hU (e2 cw (eV 1) f8) wr) (gV<|wx<|mV (cN "Facts" "enter_text" aM c_ 0<|mV (mP<|e2 cw (eV 1) u8) qJ)<|mV (mP nb) qJ) c8)<|aR (g_ (dG<|e2 hU (e2 cw (eV 1) f8) ge) (gV<|wx<|mV (cN "Facts" "enter_has" aM q 0<|mV (mP<|e2 cw (eV 1) u8) qJ)<|mV (mP nb) qJ) c8)<|aR (sE 2<|xT (iL<|e2 cw (eV 1) u8) [M,Y 0] (gN 0) (cN "Facts" "asked" aM p 1 io) 1 0 aM)<|aR (g_ (dG<|e2 hU (e2 cw (eV 1) f8) jp) (gV<|mP<|i8<|aC f8<|aC (eF<|dW pc) aN) c8)<|gV<|mP<|be kK pc)
abbrev mo:cH:=cL ut 7
noncomputable abbrev sR:!aP:=["self","wish","asks"]
abbrev ca:=eK<|.int 2
abbrev no:=mV (mP<|e2 cw (eV 0) ca) qJ
def nr(p:!D->↑(D×D))(q:!D->↑(D×D)):DG:=(aR (sE 2<|cN "Facts" "enter" aM fR 0<|mV (mP<|eV 1) qJ)<|aR (jM<|cN "Facts" "lead" aM lX 0<|mV (xT (iL<|eV 1) [M,Y 0] (gN 0) (cN "Facts" "asked" aM p 1 no) 1 0 aM)<|mV (mP<|eV 2)<|mV (mP f8) qJ)<|gV<|mP<|e2 cw (eV 2) f8)
abbrev jn:cH:=cL ut 5
noncomputable abbrev nC:!aP:=["self","steps","bits"]
abbrev ol:=aC (e2 cw (eV 0) ca) aN
def vk(p:!D->↑D)(q:!D->↑D):DG:=(mx<|lU (iL<|eV 0) [M] (gN 0) gR<|i8<|aC (e2 cw (eV 0) f8)<|aC (e2 cw (eV 0) u8)<|aC (be q ol) aN)
abbrev B1:cH:=top 9
abbrev Db:=aC (eV 0) aN
abbrev Do:=eK<|.str<|af "both"
abbrev Ps:=dG<|e2 hU (e2 cw (eV 0) f8) ge
def nM(p:!D->↑D)(q:!D->↑D):DG:=(aR (g_ Ps (fc<|i8<|aC ge<|aC (be p<|aC (e2 cw (eV 0) u8) aN) aN) c8)<|aR (g_ (dG<|e2 Ix (e2 cw (eV 0) f8)<|i8<|aC Do<|aC jp aN) (fc<|i8<|aC (e2 cw (eV 0) f8)<|aC (eF<|lU (iL<|e2 cw (eV 0) u8) [M] (gN 0) gR<|be q Db) aN) c8)<|fc<|eV 0)
abbrev qz:cH:=top 10
abbrev na:=aC (eV 1) aN
abbrev zn:=eK<|.bl Z_
abbrev gt:=aC (eV 0) na
def yk(p:!D->↑D):DG:=(aR (g_ (dG<|e2 Ba (e2 gw (eV 1)<|e2 cw (eV 0) f8)<|e2 cw (eV 0) f8) (fc zn) c8)<|fc<|be (hZ Z')<|aC (eF<|lU (iL<|e2 cw (eV 0) u8) [M,Y 1] (gN 0) gR<|be (hZ Z_)<|aC (eF<|lU (iL<|eV 0) [M,Y 1] (gN 0) gR<|be p gt) aN) aN)
abbrev Ff:cH:=top 7
abbrev cr:=eK<|.bl Z'
def t6(p:!D->↑D):DG:=(aR (g_ Ps (fc<|be (hZ Z')<|aC (eF<|lU (iL<|e2 cw (eV 0) u8) [M] (gN 0) gR<|be p ol) aN) c8)<|aR (g_ (dG<|e2 hU (e2 cw (eV 0) f8) Do) (fc<|be (hZ Z')<|aC (eF<|lU (iL<|e2 cw (eV 0) u8) [M] (gN 0) gR<|be p Db) aN) c8)<|aR (g_ (dG<|e2 hU (e2 cw (eV 0) f8) jp) (fc<|be (hZ Z_)<|aC (eF<|lU (iL<|e2 cw (eV 0) u8) [M] (gN 0) gR<|be p Db) aN) c8)<|fc cr)
abbrev xc:cH:=top 8
mutual
noncomputable def cv:Nat->!D->↑(D×D)
 |0=>λ_=>M
 |n+1=>mB 2 3 aM<|dU (cv n)<|cD n
noncomputable def cD:Nat->!D->↑(D×D)
 |0=>λ_=>M
 |n+1=>mB 2 3 aM<|nr (cv n)<|cD n
end
mutual
noncomputable def jE:Nat->!D->↑D
 |0=>λ_=>M
 |n+1=>jN 1 1<|vk (jE n)<|c6 n
noncomputable def c6:Nat->!D->↑D
 |0=>λ_=>M
 |n+1=>jN 1 1<|nM (jE n)<|c6 n
end
noncomputable def jX:Nat->!D->↑D
 |0=>λ_=>M
 |n+1=>jN 2 2<|yk<|jX n
noncomputable def fK:Nat->!D->↑D
 |0=>λ_=>M
 |n+1=>jN 1 1<|t6<|fK n
section
variable {P:bh}{w:cW}{K:aV}{J:aP->↑au}{r:cP}{f:aH}{z:dt}
def zq{n:Nat}(F:fX K "asked" "Facts.asked" mo f z)(IZ:dZ P w K J r "Facts" "enter_text" (n+3)<|spT K aM c_)(KP:dZ P w K J r "Facts" "enter_has" (n+3)<|spT K aM<|cD n)(sO:dZ P w K J r "Facts" "asked" (n+3)<|spT K aM<|cv n)(Sy:gP P w K J r "joined_asks" (n+3)<|gn K kK):b9 P w K J r fx (n+3+1) f z ["self","wish"]<|spT K aM<|cv<|n+1:=
 F.Ki sR [0] [0] (by walk_at "s") λnd b b b s H b b B a hB=>
  (av Ŷ<|av Ŷ<|av Ŷ<|av (Jo (i:=2) (i0:=1) (j0:=0) (s:=aM) (N:=[("other" : aP),("self" : aP)]) (src:=[M,Y 0]) (lE (outer:=bu mo) (oN:=sR) W Ų W W) W nd W W Ŷ (jh 0) ſ (qN _ 0 1) (λC s H ex=>(hW (i:=0) (show ([("other" : aP),("self" : aP)]:!aP).Nodup by decide +kernel) W (lZ W),kJ,dmx λB a hB=>Ŷ))) Ŷ)
def tH{n:Nat}(F:fX K "enter_has" "Facts.enter_has" jn f z)(Bz:dZ P w K J r "Facts" "enter" (n+3)<|spT K aM fR)(DI:dZ P w K J r "Facts" "lead" (n+3)<|spT K aM lX)(sO:dZ P w K J r "Facts" "asked" (n+3)<|spT K aM<|cv n):b9 P w K J r fx (n+3+1) f z ["self","steps"]<|spT K aM<|cD<|n+1:=
 F.Ki nC [0] [0] (by walk_at "s") λb b b b s H b hr B a hB=>
  (av Ŷ<|av (qW<|AH DI hr (pv 0)<|mL (Jp (i0:=1) (j0:=0) (s:=aM) (N:=[("step" : aP),("self" : aP)]) (src:=[M,Y 0]) (lE (outer:=bu jn) (oN:=nC) W Ų W W) W (jR<|vP 1) (jh 0) ſ (qN _ 0 1) (λC s H ex=>(hW (i:=0) (show ([("step" : aP),("self" : aP)]:!aP).Nodup by decide +kernel) W (lZ W),kJ,dmx λB a hB=>Ŷ))) Ŷ) Ŷ)
def MH{n:Nat}(F:fX K "copied" "copied" B1 f z)(By:gP P w K J r "copied_wish" (n+0)<|gn K<|c6 n):b9 P w K J r fx (n+0+1) f z ["steps"]<|gn K<|jE<|n+1:=
 F.yh ["steps"] [] [] (by walk_at "s") λa a a a s H a a a a=>
  (bW<|yn<|qX ["step"] [M] (jR<|vP 0) λC s H ex=>Ŷ)
def zm{n:Nat}(F:fX K "copied_wish" "copied_wish" qz f z)(QI:gP P w K J r "copied" (n+0)<|gn K<|jE n)(By:gP P w K J r "copied_wish" (n+0)<|gn K<|c6 n):b9 P w K J r fx (n+0+1) f z ["wish"]<|gn K<|c6<|n+1:=
 F.yh ["wish"] [] [] (by walk_at "s") λa a a a s H a a a a=>
  (av Ŷ<|av (kg Ŷ (bW<|kB<|Zb<|jf Ŷ<|jf (df<|qX ["other"] [M] Ŷ λC s H ex=>Ŷ) qY) fH) Ŷ)
def Pz{n:Nat}(F:fX K "meets" "meets" Ff f z)(kk:KS K J)(KJ:gP P w K J r "meets" (n+0)<|gn K<|jX n):b9 P w K J r fx (n+0+1) f z ["ask","atoms"]<|gn K<|jX<|n+1:=
 F.yh ["ask","atoms"] [] [] (by walk_at "s") λa a a a s H a a a a=>
  (av Ŷ<|bW<|kB<|Jt W W kk.y<|dq<|df<|qX ["choice","atoms"] [M,Y 1] Ŷ λC s H ex=>(RB W W kk.y<|dq<|df<|qX ["other","atoms"] [M,Y 1] (jR<|vP 0) λC s H ex=>Ŷ))
def FT{n:Nat}(F:fX K "can_hold" "can_hold" xc f z)(kk:KS K J)(IX:gP P w K J r "can_hold" (n+0)<|gn K<|fK n):b9 P w K J r fx (n+0+1) f z ["wish"]<|gn K<|fK<|n+1:=
 F.yh ["wish"] [] [] (by walk_at "s") λa a a a s H a a a a=>
  (av (kg Ŷ (bW<|kB<|Jt W W kk.y<|dq<|df<|qX ["step"] [M] Ŷ λC s H ex=>Ŷ) fH)<|av (kg Ŷ (bW<|kB<|Jt W W kk.y<|dq<|df<|qX ["other"] [M] Ŷ λC s H ex=>Ŷ) fH)<|av (kg Ŷ (bW<|kB<|RB W W kk.y<|dq<|df<|qX ["other"] [M] Ŷ λC s H ex=>Ŷ) fH) Ŷ)
def AV:=jE 12
def vD:=jX 12
def AX:=fK 12
def nP:=cv 12
abbrev lm:=vp 0 "Facts" "question"
def oH:DG:=(aR (fm Z_ 0 "Facts" "question"<|be AV na)<|aR (fm Z_ 0 "Facts" "bits" f8)<|aR (qE 0 "Facts" "by_name" .di<|eK<|.i9 [] [])<|aR (qE 0 "Facts" "by_text" .di<|eK<|.i9 [] [])<|aR (fm Z_ 0 "Facts" "starred" f8)<|aR (fm Z_ 0 "Facts" "stars" f8)<|aR (fm Z_ 0 "Facts" "inner" f8)<|aR (qE 0 "Facts" "leads" (.li .lf) FM)<|aR (jM<|cN "Facts" "enter" aM fR 0<|mV (mP lm) qJ)<|Ig Z_ 0 "Facts" "asks"<|xT (iL lm) [M,Y 0] (gN 0) (cN "Facts" "asked" aM nP 1 no) 1 0 aM)
def eU:!D->↑(D×D):=mB 2 2 aM oH
abbrev jJ:cH:=cL ut 0
noncomputable abbrev oT:!aP:=["self","question"]
def vm:DG:=(fc<|e2 NX (cn "Facts" "starred"<|eV 0)<|GJ (cn "Facts" "by_name"<|eV 0) (eV 1) f8)
def fN:!D->↑D:=jN 2 2 vm
abbrev mm:cH:=cL ut 8
def vl:DG:=(fc<|GJ (cn "Facts" "by_text"<|eV 0) (eV 1) f8)
def fM:!D->↑D:=jN 2 2 vl
abbrev ml:cH:=cL ut 9
def iT:DG:=(g_ (hV (eT<|e2 gw (eV 1)<|eV 4)<|eT<|be vD<|aC (eV 5) pc) (xi 3 eJ<|eV 4) c8)
def Ap:DG:=(aR (cM 3<|e2 gw (eV 2)<|cn "Facts" "inner"<|eV 0)<|aR (jL (iL<|cn "Facts" "leads"<|eV 0) (Jc 4 5) iT)<|fc<|eV 3)
def gm:!D->↑D:=jN 3 6 Ap
abbrev pX:cH:=cL ut 10
def jV:DG:=(aR (cM 6<|e2 r9 u8<|eV 4)<|g_ (hV (eT<|e2 gw (eV 1)<|eV 6)<|eT<|be vD<|aC (eV 5) pc) (xi 3 eJ<|eV 6) c8)
def xZ:DG:=(aR (cM 3 f8)<|aR (jL (iE<|cn "Facts" "asks"<|eV 0) (Jc 4 5) jV)<|fc<|eV 3)
def eM:!D->↑D:=jN 3 7 xZ
abbrev og:cH:=cL ut 11
abbrev Sc:=eK<|.str<|af "open"
abbrev im:=dG<|e2 hU (e2 cw (eV 0) f8) Sc
def Jb:DG:=(aR (g_ im (fc<|eOr (eV 1)<|Vi<|dG<|eV 2) c8)<|fc<|eV 1)
def mU:!D->↑D:=jN 3 3 Jb
abbrev xg:cH:=top 12
def An:DG:=(aR (ke 0 "Row" "number"<|eV 1)<|aR (ke 0 "Row" "named"<|eV 2)<|aR (ke 0 "Row" "atoms"<|eV 3)<|aR (ke 0 "Row" "fits" f8)<|aR (ke 0 "Row" "reached" f8)<|aR (ke 0 "Row" "reached_around" f8)<|aR (ke 0 "Row" "hoped" f8)<|ke 0 "Row" "hoped_around" f8)
def iJ:!D->↑(D×D):=runC 4 4 0 An
abbrev pU:cH:=cL (top 14) 0
def mR:DG:=(g_ (eT<|be AX<|aC (e2 cw (eV 3) ca) aN) (xi 1 eJ<|e2 r9 u8<|eV 2) c8)
def DR:DG:=(aR (cM 1 f8)<|aR (jL (iE<|eV 0) (Jc 2 3) mR)<|fc<|eV 1)
def iU:!D->↑D:=jN 1 4 DR
abbrev sC:cH:=top 17
def uZ(F:fX K "__init__" "Facts.__init__" jJ f z)(kk:KS K J)(QI:gP P w K J r "copied" 59<|gn K AV)(Bz:dZ P w K J r "Facts" "enter" 59<|spT K aM fR)(sO:dZ P w K J r "Facts" "asked" 59<|spT K aM nP):b9 P w K J r fx 60 f z ["self","question"]<|spT K aM eU:=
 F.Ki oT [0] [0] (by walk_at "s") λd d d d s H d d B a hB=>
  (av Ŷ<|av Ŷ<|av Ŷ<|av Ŷ<|av Ŷ<|av Ŷ<|av Ŷ<|av Ŷ<|av Ŷ<|bW<|Rq (b:=Z_) (c:= "Facts") (pv 0) (Jp (i0:=1) (j0:=0) (s:=aM) (N:=[("step" : aP),("self" : aP)]) (src:=[M,Y 0]) (lE (outer:=bu jJ) (oN:=oT) W Ų W W) W Ŷ (jh 0) ſ (qN _ 0 1) (λC s H ex=>(hW (i:=0) (show ([("step" : aP),("self" : aP)]:!aP).Nodup by decide +kernel) W (lZ W),kJ,dmx λB a hB=>Ŷ))) kk.q)
def tG(F:fX K "steps_for" "Facts.steps_for" mm f z)(kk:KS K J):b9 P w K J r fx 1 f z ["self","name"]<|gn K fN:=
 F.yh ["self","name"] [] [] (by walk_at "s") λa a a a a a a hr a a=>
  (bW<|kB<|Rz Wu Ŷ<|dq<|Ec (Ae hr) Ŷ (vQ 1) jS (W,W,W,W))
def tD(F:fX K "text_fact" "Facts.text_fact" ml f z)(kk:KS K J):b9 P w K J r fx 1 f z ["self","text"]<|gn K fM:=
 F.yh ["self","text"] [] [] (by walk_at "s") λa a a a a a a hr a a=>
  (bW<|kB<|Ec (Ae hr) Ŷ (vQ 1) jS (W,W,W,W))
def xM(F:fX K "lifted" "Facts.lifted" pX f z)(kk:KS K J)(KJ:gP P w K J r "meets" 59<|gn K vD):b9 P w K J r fx 60 f z ["self","named","atoms"]<|gn K gm:=
 F.yh ["self","named","atoms","up","bit","ask"] [] [] (by walk_at "s") λa a a a a a a a a a=>
  by walk_at "o"
def wk(F:fX K "fitting" "Facts.fitting" og f z)(kk:KS K J)(KJ:gP P w K J r "meets" 59<|gn K vD):b9 P w K J r fx 60 f z ["self","named","atoms"]<|gn K eM:=
 F.yh ["self","named","atoms","fits","place","ask","bit"] [] [] (by walk_at "s") λa a a a a a a a a a=>
  by walk_at "o"
def FU(F:fX K "can_come" "can_come" xg f z):b9 P w K J r fx 1 f z ["sign","within","begun"]<|gn K mU:=
 F.yh ["sign","within","begun"] [] [] (by walk_at "s") λa a a a a a a a a a=>
  by walk_at "o"
def xI(F:fX K "__init__" "Row.__init__" pU f z)(kk:KS K J):b9 P w K J r fx 1 f z ["self","number","named","atoms"]<|Z1 K 0 iJ:=
 F.okC ["self","number","named","atoms"] [0] [0] (by walk_at "s") λa a a a a a a a a a a=>
  by walk_at "o"
def Bm(F:fX K "able_steps" "able_steps" sC f z)(kk:KS K J)(IX:gP P w K J r "can_hold" 59<|gn K AX):b9 P w K J r fx 60 f z ["question"]<|gn K iU:=
 F.yh ["question","able","place","step"] [] [] (by walk_at "s") λa a a a a a a a a a=>
  by walk_at "o"
abbrev TD:=e1 FY u8
def M':DG:=(aR (cM 0<|Ri "Row" iJ<|aC TD<|aC f8<|aC f8 aN)<|aR (ke 0 "Row" "reached" u8)<|aR (ke 0 "Row" "reached_around" u8)<|aR (ke 0 "Row" "hoped" u8)<|aR (ke 0 "Row" "hoped_around" u8)<|OR 0)
def rR:!D->↑D:=VN 0 1 M'
abbrev yM:cH:=top 16
def wK:DG:=(fc<|e2 r9 (e2 gw (e2 NX (eV 1)<|e2 gw (eV 2)<|cn "Facts" "inner"<|cn "Coming" "facts"<|eV 0)<|eV 3) u8)
def dR:!D->↑D:=jN 4 4 wK
abbrev Op:=top 15
abbrev m6:cH:=cL Op 4
abbrev lc:=eK<|.int 3
def ub:DG:=(aR (cM 3<|e2 cw (cn "Coming" "rows"<|eV 0) TD)<|aR (cM 4<|e2 gw (e2 X_ (e2 NX (e2 cw (eV 1) ca)<|e2 cw (eV 1) lc) u8)<|cn "Row" "fits"<|eV 2)<|aR (cM 5<|e2 gw (e2 gw (eV 4)<|e1 FZ<|cn "Facts" "inner"<|cn "Coming" "facts"<|eV 0)<|cn "Row" "hoped"<|eV 3)<|aR (cM 6<|e2 gw (e2 NX (e2 gw (eV 4)<|cn "Facts" "inner"<|cn "Coming" "facts"<|eV 0)<|e2 cw (eV 1) lc)<|cn "Row" "hoped_around"<|eV 3)<|fc<|i8<|aC (e2 cw (eV 1) f8)<|aC (e2 px (e2 cw (eV 1) u8) u8)<|aC (eV 5)<|aC (eV 6) aN)
def gF:!D->↑D:=jN 3 7 ub
abbrev lL:cH:=cL Op 10
def kC:DG:=(g_ (eT<|e2 gw (e2 gw (cn "Row" "hoped"<|eV 2)<|e1 FZ<|cn "Row" "reached"<|eV 2)<|cn "Coming" "full"<|eV 0) (my 1<|cn "Row" "number"<|eV 2) c8)
def qP:DG:=(aR (gU 1<|lU (iL<|cn "Coming" "rests"<|eV 0) [M] (gN 0) gR<|e2 cw (eV 0) f8)<|aR (jL (iL<|cn "Coming" "rows"<|eV 0) (gN 2) kC)<|mx<|wL<|eV 1)
def iM:!D->↑(!D):=ou 1 3 qP
abbrev lb:cH:=cL Op 11
noncomputable abbrev rB:!aP:=["self","numbers","row"]
def Ir(F:fX K "top_row" "top_row" yM f z)(kk:KS K J)(QK:ur P w K J r "Row" 1<|Z1 K 0 iJ):b9 P w K J r fx 3 f z []<|spK K rR:=
 F.Z4 ["row"] [0] [0] (by walk_at "s") λnd a a a a a a hr a a=>
  (av (Lg (i:=0) nd W (.inl W) (Lm QK hr W Ŷ)) Ŷ)
def u4(F:fX K "gone_on" "Coming.gone_on" m6 f z)(kk:KS K J):b9 P w K J r fx 1 f z ["self","parent","around","fits"]<|gn K dR:=
 F.yh ["self","parent","around","fits"] [] [] (by walk_at "s") λa a a a a a a a a a=>
  by walk_at "o"
def rY(F:fX K "moved_out" "Coming.moved_out" lL f z)(kk:KS K J):b9 P w K J r fx 1 f z ["self","rest","row"]<|gn K gF:=
 F.yh ["self","rest","row","parent","steps","own","around"] [] [] (by walk_at "s") λa a a a a a a a a a=>
  by walk_at "o"
def xN(F:fX K "waits" "Coming.waits" lb f z)(kk:KS K J):b9 P w K J r fx 1 f z ["self"]<|vL K iM:=
 F.Uk rB [1] [1] (by walk_at "s") λnd a a a s H a a a a=>
  (av (Cu (i:=1) (Ź:=[]) (N:=[("rest" : aP)]) (src:=[M]) (lE (outer:=bu lb) (oN:=rB) W Ų W W) W nd W W Ŷ (jh 0) ſ (mI 0) (λC s H ex=>(hW (i:=0) (show ([("rest" : aP)]:!aP).Nodup by decide +kernel) W (.inl W),kJ,Ŷ))) Ŷ)
abbrev db:=aC (cn "Facts" "question"<|cn "Coming" "facts"<|eV 0) aN
abbrev UF:=e2 r9 u8<|be iC db
def jQ:DG:=(aR (fm Z_ 0 "Coming" "facts"<|qV "Facts" eU na)<|aR (fm Z_ 0 "Coming" "full"<|qU [0] [] UF)<|aR (fm Z_ 0 "Coming" "able"<|qU [0] []<|be iU db)<|aR (fm Z_ 0 "Coming" "taken" f8)<|aR (fm Z_ 0 "Coming" "opened" f8)<|aR (qE 0 "Coming" "rows" (.li<|.fs "Row" [])<|Y3<|Rj "Row"<|λ_=>rR [])<|fm Z_ 0 "Coming" "rests" nb)
def eE:!D->↑(D×D):=mB 2 2 aT jQ
abbrev mq:cH:=cL Op 0
def mK:DG:=(aR (cM 4<|Ri "Row" iJ<|aC (eV 1)<|aC (eV 2) No)<|aR (sF 5 0 "Coming" "rows" TD)<|aR (ke 4 "Row" "fits"<|qU [0] [5]<|fQ "Facts" "fitting" eM (cn "Coming" "facts"<|eV 0)<|aC (eV 2) No)<|aR (ke 4 "Row" "hoped"<|qU [0] [5]<|fQ "Coming" "gone_on" dR (eV 0)<|aC (cn "Row" "hoped"<|eV 5)<|aC (cn "Row" "hoped_around"<|eV 5)<|aC (e2 gw (eV 2)<|cn "Coming" "able"<|eV 0) aN)<|aR (ke 4 "Row" "hoped_around"<|qU [0] [5]<|e2 NX (cn "Row" "hoped_around"<|eV 5)<|cn "Row" "hoped"<|eV 4)<|C7 0 4 "Coming" "rows")
def gG:!D->↑(D×D):=mB 4 6 aT mK
abbrev lN:cH:=cL Op 3
def ic:DG:=(aR (sF 3 0 "Coming" "rows"<|eV 1)<|aR (fm Z' 3 "Row" "fits"<|qU [0] [3,5]<|fQ "Facts" "fitting" eM (cn "Coming" "facts"<|eV 0)<|aC (cn "Row" "named"<|eV 3)<|aC (cn "Row" "atoms"<|eV 3) aN)<|aR (cM 4<|qU [0] [3,5]<|fQ "Facts" "lifted" gm (cn "Coming" "facts"<|eV 0)<|aC (cn "Row" "named"<|eV 3)<|aC (cn "Row" "atoms"<|eV 3) aN)<|aR (xi 1 (λi j=>i-j) u8)<|aR (sF 5 0 "Coming" "rows"<|eV 1)<|aR (cM 2<|qU [0] [3,5]<|e2 Ba (e2 gw (eV 4)<|e1 FZ<|cn "Row" "atoms"<|eV 5) f8)<|iA Z' 5 "Row" "atoms" eJ<|eV 4)
abbrev wf:=aC (cn "Coming" "rows"<|eV 0) aN
abbrev wE:=dG<|e2 Iz (eV 1) f8
def x3:DG:=(aR (cM 1<|qU [0] [3,5]<|e2 px (be iC wf) u8)<|aR (cM 2 cr)<|y8 1000000 (hV (eT<|eV 2) wE) ic)
def fB:!D->↑(D×D):=mB 1 6 aT x3
abbrev oi:cH:=cL Op 6
abbrev kw:=e2 gw (eV 1)<|e1 FZ<|cn "Row" "atoms"<|eV 2
def ud:DG:=(aR (sF 2 0 "Coming" "rows" TD)<|g_ (JZ [0] [2]<|eT kw) (aR (iA Z' 2 "Row" "atoms" eJ<|eV 1)<|jM<|cN "Coming" "spread" aT fB 0 qJ) c8)
def gH:!D->↑(D×D):=mB 2 3 aT ud
abbrev lO:cH:=cL Op 5
def tI(F:fX K "__init__" "Coming.__init__" mq f z)(kk:KS K J)(adE:ur P w K J r "Facts" 88<|spT K aM eU)(UW:gP P w K J r "able_steps" 89<|gn K iU)(M8:gP P w K J r "top_row" 89<|spK K rR):b9 P w K J r fx 90 f z ["self","question"]<|spT K aT eE:=
 F.Ki ["self","question"] [0] [0] (by walk_at "s") λa a a a a a a hr a a a=>
  (av (Vm (b:=Z_) (c:= "Coming") (pv 0) (Ze Ŷ) kk.q) (av Ŷ<|av Ŷ<|av Ŷ<|av Ŷ<|av (Rp (c:= "Coming") (s1:=(.li<|.fs "Row" [])) (pv 0) (Zh<|Vu (c:= "Row") (RC M8 hr W)) kk.q) Ŷ))
def r4(F:fX K "begin_row" "Coming.begin_row" lN f z)(kk:KS K J)(QK:ur P w K J r "Row" 60<|Z1 K 0 iJ)(xX:dZ P w K J r "Facts" "fitting" 61<|gn K eM)(wH:dZ P w K J r "Coming" "gone_on" 61<|gn K dR):b9 P w K J r fx 62 f z ["self","number","named","atoms"]<|spT K aT gG:=
 F.Ki ["self","number","named","atoms","row","parent"] [0,4,5,1000005,2000000] [0,4,5,1000005,2000000] (by walk_at "s") λnd a a a a a a hr a a a=>
  (av (Lg (i:=4) nd W (.inl W) (Lm QK hr W Ŷ)) (av Ŷ<|av Ŷ<|av Ŷ<|av Ŷ<|bW<|Ro (c:= "Coming") (pv 0) (pv 4) kk.q))
def wm(F:fX K "spread" "Coming.spread" oi f z)(kk:KS K J)(xX:dZ P w K J r "Facts" "fitting" 61<|gn K eM)(QN:dZ P w K J r "Facts" "lifted" 61<|gn K gm):b9 P w K J r fx 62 f z ["self"]<|spT K aT fB:=
 F.Ki ["self","place","changed","row","up","parent"] [0,3,5,1000003,1000005,2000000] [0,3,5,1000003,1000005,2000000] (by walk_at "s") λa a a a a a a a a a a=>
  (av Ŷ<|av Ŷ<|bW<|AE 1000000 cJ Ŷ Ŷ)
def r8(F:fX K "add_atoms" "Coming.add_atoms" lO f z)(kk:KS K J)(pZ:dZ P w K J r "Coming" "spread" 62<|spT K aT fB):b9 P w K J r fx 63 f z ["self","atoms"]<|spT K aT gH:=
 F.Ki ["self","atoms","row"] [0,2,1000002,2000000] [0,2,1000002,2000000] (by walk_at "s") λa a a a a a a a a a a=>
  by walk_at "o"
def jW:DG:=(aR (sF 3 0 "Coming" "rows"<|e2 px (eV 2) u8)<|aR (sF 4 0 "Coming" "rows"<|eV 2)<|aR (cM 5<|qU [0] [4,3]<|cn "Row" "reached"<|eV 4)<|aR (fm Z' 4 "Row" "reached"<|qU [0] [4,3]<|fQ "Coming" "gone_on" dR (eV 0)<|aC (cn "Row" "reached"<|eV 3)<|aC (cn "Row" "reached_around"<|eV 3)<|aC (cn "Row" "fits"<|eV 4) aN)<|aR (fm Z' 4 "Row" "reached_around"<|qU [0] [4,3]<|e2 NX (cn "Row" "reached_around"<|eV 3)<|cn "Row" "reached"<|eV 4)<|g_ (JZ [0] [4,3]<|eT<|e2 gw (e2 gw (cn "Row" "reached"<|eV 4)<|e1 FZ<|eV 5)<|cn "Coming" "full"<|eV 0) (my 1<|qU [0] [4,3]<|cn "Row" "number"<|eV 4) c8)
def p6:DG:=(aR (gU 1 Rs)<|aR (jL (iR2 u8<|qU [0] [4,3]<|be iC wf) (gN 2) jW)<|OR 1)
def jj:!D->↑(!D×D):=za 1 6 aT p6
abbrev oj:cH:=cL Op 7
abbrev kt:=e2 gw (cn "Row" "reached_around"<|eV 4)<|e2 cw (eV 3) lc
abbrev pu:=e2 gw (cn "Row" "reached"<|eV 4)<|e2 cw (eV 3) ca
def hR:DG:=(aR (sF 4 0 "Coming" "rows"<|e2 cw (eV 3) u8)<|g_ (JZ [0] [4]<|vW (eT pu)<|eT kt) (my 1<|e2 cw (eV 3) f8)<|my 2<|eV 3)
def lQ:DG:=(aR (ts 1<|Hr "Coming" "settle" aT jj 0 [] aN)<|aR (gU 2 Rs)<|aR (jL (iL<|vp 0 "Coming" "rests") (gN 3) hR)<|aR (fm Z_ 0 "Coming" "rests"<|eV 2)<|o9<|mfP<|wL<|eV 1)
def cY:!D->↑(!D×D):=za 1 5 aT lQ
abbrev kR:cH:=cL Op 8
def gD:DG:=(aR (cM 6<|qU [0,1] []<|ab8 (dG<|e2 hU (e2 cw (eV 5) u8)<|eV 2) (fQ "Coming" "moved_out" gF (eV 0)<|aC (eV 5) na)<|eV 5)<|g_ (vW (eT<|e2 cw (eV 6) ca)<|eT<|e2 cw (eV 6) lc) (my 4<|eV 6) c8)
def oI:DG:=(aR (Fq 1 0 "Coming" "rows")<|aR (cM 2<|qU [0] []<|be iC wf)<|aR (gU 3<|GD<|vp 0 "Coming" "rests")<|aR (g_ (JZ [0] []<|m5<|eT<|e2 gw (cn "Row" "reached"<|eV 1)<|cn "Coming" "full"<|eV 0) (my 3<|qU [0] []<|i8<|aC (cn "Row" "number"<|eV 1)<|aC (eV 2)<|aC (cn "Coming" "full"<|eV 0)<|aC f8 aN) c8)<|aR (gU 4 Rs)<|aR (jL (iL<|eF<|Av<|eV 3) (gN 5) gD)<|fm Z_ 0 "Coming" "rests"<|eV 4)
def iV:!D->↑(D×D):=mB 1 7 aT oI
abbrev m7:cH:=cL Op 9
def wo(F:fX K "settle" "Coming.settle" oj f z)(kk:KS K J)(wH:dZ P w K J r "Coming" "gone_on" 61<|gn K dR):b9 P w K J r fx 62 f z ["self"]<|uM K aT jj:=
 F.Ui ["self","found","place","parent","row","ahead"] [0,1,4,3,1000004,1000003,2000000] [0,1,4,3,1000004,1000003,2000000] (by walk_at "s") λa a a a a a a a B a hB=>
  (av Ŷ<|av (uf cJ W (Nm W kk.y (dq jS) Ŷ) (λB hB=>Ŷ)<|λB hB=>Ŷ) Ŷ)
def qH(F:fX K "newly_told" "Coming.newly_told" kR f z)(kk:KS K J)(NZ:dZ P w K J r "Coming" "settle" 62<|uM K aT jj):b9 P w K J r fx 63 f z ["self"]<|uM K aT cY:=
 F.Ui ["self","found","kept","rest","row"] [0,1,2,4,1000004,2000000] [0,1,2,4,1000004,2000000] (by walk_at "s") λa a a a a a a a a a a=>
  (av Ŷ<|av Ŷ<|av Ŷ<|pB (own1:=[0,1,4,1000004,2000000]) 2 Ŷ)
def u5(F:fX K "end_row" "Coming.end_row" m7 f z)(kk:KS K J)(I_:dZ P w K J r "Coming" "moved_out" 61<|gn K gF):b9 P w K J r fx 62 f z ["self"]<|spT K aT iV:=
 F.Ki ["self","row","place","rests","kept","rest","moved"] [0,1,3,4] [0,1,3] (by walk_at "s") λnd a a a a a a a B a hB=>
  (av (Vj (i:=1) (c:= "Coming") nd W (.inl W) (pv 0) kk.q) (av Ŷ<|av Ŷ<|av Ŷ<|av Ŷ<|av (uf cJ W (jR<|df<|Ry W kk.y<|dvo<|pv 3) (λB hB=>Ŷ)<|λB hB=>Ŷ)<|pB (own1:=[0,1,3]) 4 Ŷ))
abbrev Re:=eK<|.str<|af "close"
abbrev wp:=aC (e2 cw (eV 1) u8) aN
abbrev sK:=e2 Iz (cn "Coming" "opened"<|eV 0) f8
def kI:DG:=(aR (g_ (JZ [0] []<|m5<|eT<|be mU<|aC (eV 1)<|aC (e2 Iz (be iC wf) u8)<|aC sK aN) OT c8)<|aR (iA Z_ 0 "Coming" "taken" (λi j=>i+j) u8)<|aR (g_ (dG<|e2 hU (e2 cw (eV 1) f8) Re) (aR (jM<|cN "Coming" "end_row" aT iV 0 qJ)<|o9<|mfP Rs) c8)<|aR (g_ (dG<|e2 hU (e2 cw (eV 1) f8) Sc) (aR (jM<|cN "Coming" "begin_row" aT gG 0<|mV (mP<|qU [0] []<|cn "Coming" "opened"<|eV 0)<|mV (mP<|qU [0] []<|fQ "Facts" "steps_for" fN (cn "Coming" "facts"<|eV 0) wp)<|mV (mP f8) qJ)<|aR (iA Z_ 0 "Coming" "opened" (λi j=>i+j) u8)<|jM<|cN "Coming" "spread" aT fB 0 qJ)<|jM<|cN "Coming" "add_atoms" aT gH 0<|mV (mP<|qU [0] []<|fQ "Facts" "text_fact" fM (cn "Coming" "facts"<|eV 0) wp) qJ)<|o9<|Hr "Coming" "newly_told" aT cY 0 [] aN)
def eS:!D->↑(!D×D):=za 2 2 aT kI
abbrev qB:cH:=cL Op 1
def uc:DG:=(fc<|Nj sK<|e2 hU (be iC wf) u8)
def jt:!D->↑D:=jN 1 1 uc
abbrev lM:cH:=cL Op 2
def lC:DG:=(qE 0 "Lean" "coming" aT<|qV "Coming" eE na)
def gY:!D->↑(D×D):=mB 2 2 eB lC
abbrev n9:cH:=cL (top 19) 0
def qO:DG:=(o9<|Hr "Coming" "feed" eB eS 0 [.fld "coming"] na)
def iK:!D->↑(!D×D):=za 2 2 eB qO
abbrev uJ:cH:=cL (top 19) 1
def mJ:DG:=(mx<|qR "Coming" "waits" iM<|cn "Lean" "coming"<|eV 0)
def gj:!D->↑(!D):=ou 1 1 mJ
abbrev pV:cH:=cL (top 19) 2
def Ao:DG:=(fc<|fQ "Coming" "has_ended" jt (cn "Lean" "coming"<|eV 0) aN)
def gk:!D->↑D:=jN 1 1 Ao
abbrev pW:cH:=cL (top 19) 3
def zr(F:fX K "feed" "Coming.feed" qB f z)(kk:KS K J)(IY:gP P w K J r "can_come" 63<|gn K mU)(wI:dZ P w K J r "Coming" "end_row" 63<|spT K aT iV)(tZ:dZ P w K J r "Coming" "begin_row" 63<|spT K aT gG)(pZ:dZ P w K J r "Coming" "spread" 63<|spT K aT fB)(t5:dZ P w K J r "Coming" "add_atoms" 63<|spT K aT gH)(sh:dZ P w K J r "Coming" "newly_told" 63<|uM K aT cY)(vh:dZ P w K J r "Facts" "steps_for" 63<|gn K fN)(vg:dZ P w K J r "Facts" "text_fact" 63<|gn K fM):b9 P w K J r fx 64 f z ["self","sign"]<|uM K aT eS:=
 F.Ui ["self","sign"] [0] [0] (by walk_at "s") λa a a a s a a hr a a a=>
  (av (kg (Lc [] [0] []<|Jn<|AD<|dq<|Ll IY hr W<|jf (vP 1)<|jf (ui Wv (dq<|Js W kk.y<|dq<|vr (c:= "Coming") (vQ 0) kk.q) (dq jS) (kv _)) (jf (ui Wv (dq<|vr (c:= "Coming") (vQ 0) kk.q) (dq jS) (kv _)) qY))
  (bW Rn)
  fH)
  (av (AF (b:=Z_) (c:= "Coming") (op:=(λi j=>i+j)) Qv (pv 0) jS kk.q)
  (av (kg (Rk (FV hr) (dq<|Lk (vQ 1)<|dq jS) (dq Jr)<|kv _)
  (av (qW<|Cv wI hr<|pv 0)
   (bW<|GK<|Rt<|RA qY))
  fH)
  (av (kg (Rk (FV hr) (dq<|Lk (vQ 1)<|dq jS) (dq Jr)<|kv _)
  (av (qW<|AH tZ hr (pv 0)<|mL (pD<|AI [] [0] []<|vr (c:= "Coming") (vQ 0) kk.q) (mL (pD<|AI [] [0] []<|GS vh hr (vr (c:= "Coming") (vQ 0) kk.q) (jf (Lk (vQ 1)<|dq jS) qY)) (mL (pD jS) Ea)))
   (av (AF (b:=Z_) (c:= "Coming") (op:=(λi j=>i+j)) Qv (pv 0) jS kk.q)
   (bW<|qW<|Cv pZ hr<|pv 0)))
  (bW<|qW<|AH t5 hr (pv 0)<|mL (pD<|AI [] [0] []<|GS vg hr (vr (c:= "Coming") (vQ 0) kk.q) (jf (Lk (vQ 1)<|dq jS) qY)) Ea))
  (bW<|GK<|Nl (s:=oM) sh hr (pv 0))))))
def rZ(F:fX K "has_ended" "Coming.has_ended" lM f z)(kk:KS K J):b9 P w K J r fx 1 f z ["self"]<|gn K jt:=
 F.yh ["self"] [] [] (by walk_at "s") λa a a a a a a a a a=>
  by walk_at "o"
def wh(F:fX K "__init__" "Lean.__init__" n9 f z)(kk:KS K J)(abS:ur P w K J r "Coming" 90<|spT K aT eE):b9 P w K J r fx 92 f z ["self","question"]<|spT K eB gY:=
 F.Ki ["self","question"] [0] [0] (by walk_at "s") λa a a a a a a a a a a=>
  by walk_at "o"
def Dm(F:fX K "take" "Lean.take" uJ f z)(kk:KS K J)(Sz:dZ P w K J r "Coming" "feed" 64<|uM K aT eS):b9 P w K J r fx 65 f z ["self","sign"]<|uM K eB iK:=
 F.Ui ["self","sign"] [0] [0] (by walk_at "s") λa a a a a a a a a a a=>
  by walk_at "o"
def xJ(F:fX K "waiting" "Lean.waiting" pV f z)(kk:KS K J)(QO:dZ P w K J r "Coming" "waits" 1<|vL K iM):b9 P w K J r fx 2 f z ["self"]<|vL K gj:=
 F.Uk ["self"] [] [] (by walk_at "s") λa a a a a a a a a a=>
  by walk_at "o"
def xK(F:fX K "is_over" "Lean.is_over" pW f z)(kk:KS K J)(I':dZ P w K J r "Coming" "has_ended" 1<|gn K jt):b9 P w K J r fx 2 f z ["self"]<|gn K gk:=
 F.yh ["self"] [] [] (by walk_at "s") λa a a a a a a a a a=>
  by walk_at "o"
def abU:DG:=(aR (cM 2<|e2 fS (e2 u6 (e2 gA (e2 gA (e2 fS (eV 0)<|eK<|.int 2147483647)<|e2 u6 (e2 u6 (eV 1)<|eV 1)<|eK<|.int 7919)<|eK<|.int 104729)<|eK<|.int 48271)<|eK<|.int 2147483647)<|fc<|e2 fS (e2 gA (e2 u6 (eV 2)<|eV 2)<|e2 u6 (eK<|.int 69621)<|eV 1)<|eK<|.int 2147483629)
def Hh:!D->↑D:=jN 2 3 abU
abbrev OC:cH:=top 21
abbrev AC:=eK<|.int 2147483587
def CM:DG:=(aR (cM 7<|e2 fS (eV 6)<|be iC<|aC (eV 5) aN)<|aR (my 4<|e2 fS (e2 cw (eV 5)<|eV 7) AC)<|Ft 5 (eV 7)<|e2 kf (e2 cw (eV 5)<|eV 7) AC)
def CK:DG:=(cM 8<|e2 fS (e2 gA (e2 u6 (eV 8)<|eK<|.int 31)<|be Hh<|aC (eV 9)<|aC (e2 gA (eV 6)<|eV 1) aN)<|eK<|.int 2147483629)
def CJ:DG:=(aR (cM 10<|be Hh<|aC (e2 cw (eV 3)<|e2 fS (eV 6)<|be iC No)<|aC (e2 gA (e2 gA (e2 fS (eV 8)<|eK<|.int 1009)<|eV 6)<|eV 1) aN)<|my 4<|e2 fS (e2 gA (e2 u6 (eV 10)<|eV 10)<|e2 u6 (eK<|.int 7)<|eV 6) AC)
abbrev Is:=e2 hU (e2 fS (e2 kf (e2 cw (eV 3) f8)<|eK<|.int 50000) ca) u8
abbrev lw:=e2 gA u8<|e2 fS (e2 cw (eV 4)<|eV 2)<|eV 2
abbrev dL:=eF<|K6 (eV 0) pN<|pS<|eK<|.int 63
def U8:DG:=(aR (cM 3<|e2 gA dL<|eF<|dW na)<|aR (gU 4 Rs)<|aR (g_ (dG Is) (aR (gU 5<|lU (iL<|eV 3) [M] (gN 0) gR<|e2 kf (eV 0)<|eK<|.int 100000)<|aR (jL (KD<|e2 gA (e2 gA (eV 1)<|eV 2) u8) (gN 6) CM)<|aR (gU 4<|K6 (eV 4) (pS<|eV 1) pN)<|mx<|K6 (eV 4) pN<|pS lw) c8)<|aR (cM 8 f8)<|aR (jL (iE<|eV 3) (Jc 6 9) CK)<|aR (jL (KD<|e2 gA u8<|e2 fS (e2 kf (eV 8)<|eK<|.int 1009)<|eV 2) (gN 6) CJ)<|uO 4)
def f9:!D->↑(!D):=ou 3 11 U8
abbrev yS:cH:=top 22
noncomputable abbrev LO:!aP:=["_law_script","_law_turn","_law_most","_law_cells_here","_law_found","_law_lefts","_law_k","_law_at","_law_number","_law_cell","_law_other"]
abbrev np:=e2 gA (e2 gA (D5 (eV 2) pN<|pS<|eV 3)<|eV 5)<|D5 (eV 2) (pS<|eV 3) pN
def CH:DG:=(cM 4<|e2 gA (eV 4)<|eF<|dW<|aC np<|aC (e2 gA np<|eK<|.str<|af "a") aN)
abbrev am:=eK<|.int 5
def U6:DG:=(aR (cM 1<|e2 cw (eF<|fG f9<|aC (eV 0)<|aC (eK<|.int 40)<|aC u8 aN) f8)<|aR (cM 2<|D5 (eK<|.str<|af "abcdefabcde") pN<|pS<|e2 fS (eV 1)<|eK<|.int 11)<|aR (cM 3<|e2 fS (e2 kf (eV 1)<|eK<|.int 12)<|e2 gA (be iC pc) u8)<|aR (cM 4 nb)<|aR (jL (iS<|eK<|.str<|af "mno") (gN 5) CH)<|mx<|K6 (eV 4) pN<|pS am)
def yu:!D->↑D:=jN 1 6 U6
abbrev Fe:cH:=top 23
abbrev gl:=e2 kf (eV 8)<|eK<|.int 7
def wX:DG:=(aR (cM 8<|eV 7)<|aR (g_ (dG<|e2 hU (eV 6) f8) (cM 5<|e2 fS gl lc) c8)<|aR (cM 9<|e2 fS (e2 gA (eV 8)<|e2 u6 (e2 u6 (eV 5)<|e2 fS (eV 6) ca) am)<|eK<|.int 7)<|g_ (vW (dG<|e2 hU (eV 3) nb)<|hV (dG<|e2 JJ (eV 9) lc)<|dG<|e2 Iz (eV 4) f8) (aR (my 3<|i8<|aC Sc<|aC (e2 cw (eV 1)<|e2 fS (e2 fS gl<|eK<|.int 11) am) aN)<|cM 4<|e2 gA (eV 4) u8)<|g_ (hV (dG<|e2 JJ (eV 9) am)<|dG<|e2 Iz (eV 4) f8) (my 3<|i8<|aC wr<|aC (e2 cw (eV 2)<|e2 fS gl am) aN)<|g_ (vW (dG<|e2 Iz (eV 4) u8)<|hV (dG<|e2 hU (eV 4) u8)<|dG<|e2 hU (e2 fS gl<|eK<|.int 6) f8) (aR (my 3<|i8<|aC Re aN)<|cM 4<|e2 px (eV 4) u8) c8)
abbrev ce:=eF<|dW<|aC (eK<|.str<|af "x")<|aC (eK<|.str<|af "")<|aC (eK<|.str<|af "y x")<|aC (eK<|.str<|af "\"")<|aC (eK<|.str<|af "[a]") aN
def U5:DG:=(aR (cM 2 ce)<|aR (gU 3 Rs)<|aR (cM 4 f8)<|aR (cM 5 f8)<|aR (jL (iE<|eV 0) (Jc 6 7) wX)<|uO 3)
def yt:!D->↑(!D):=ou 2 10 U5
abbrev Fd:cH:=top 24
abbrev pp:=eF<|lU (iL<|eV 0) [M] (gN 0) (dG<|e2 hU (e2 cw (eV 0) f8) Re)<|eV 0
abbrev wv:=aC (eF<|lU (iL<|eV 0) [M] (gN 0) im<|eV 0) aN
def DN:DG:=(fc<|e2 px (be iC wv)<|be iC<|aC pp aN)
def yw:!D->↑D:=jN 1 1 DN
abbrev Fg:cH:=top 26
def abT:DG:=(aR (g_ (dG<|e2 hU (eV 0) nb) (gV<|mP f8) c8)<|gV<|Uz 0)
def nE:!D->↑(D×!D):=Fu 1 1 0 abT
abbrev OB:cH:=top 30
def X7(F:fX K "_law_mix" "_law_mix" OC f z):b9 P w K J r fx 1 f z ["_law_cell","_law_turn"]<|gn K Hh:=
 F.yh ["_law_cell","_law_turn","_law_number"] [] [] (by walk_at "s") λa a a a a a a a a a=>
  by walk_at "o"
def PJ(F:fX K "_law_cells" "_law_cells" yS f z)(kk:KS K J)(ag8:gP P w K J r "_law_mix" 1<|gn K Hh):b9 P w K J r fx 2 f z ["_law_script","_law_turn","_law_most"]<|vL K f9:=
 F.Uk LO [4,5] [4,5] (by walk_at "s") λnd a a a s H a a a a=>
  (av Ŷ<|av Ŷ<|av (kg Ŷ (av (Cu (i:=5) (Ź:=[]) (N:=[("_law_cell" : aP)]) (src:=[M]) (lE (outer:=bu yS) (oN:=LO) W Ų W W) W nd W W (jR<|vP 3) (jh 0) ſ (mI 0) (λC s H ex=>(hW (i:=0) (show ([("_law_cell" : aP)]:!aP).Nodup by decide +kernel) W (.inl W),kJ,Ŷ))) Ŷ) fH) Ŷ)
def Py(F:fX K "_law_names" "_law_names" Fe f z)(kk:KS K J)(KO:gP P w K J r "_law_cells" 2<|vL K f9):b9 P w K J r fx 3 f z ["_law_script"]<|gn K yu:=
 F.yh ["_law_script","_law_number","_law_stem","_law_at","_law_found","_law_letter"] [] [] (by walk_at "s") λa a a a a a a a B hB=>
  (av Ŷ<|av Ŷ<|av Ŷ<|av Ŷ<|av (uf cJ W (Y_ Jr) (λB hB=>Ŷ)<|λB hB=>Ŷ) Ŷ)
def Pw(F:fX K "_law_signs" "_law_signs" Fd f z)(kk:KS K J):b9 P w K J r fx 1 f z ["_law_cells_here","_law_some"]<|vL K yt:=
 F.Uk ["_law_cells_here","_law_some","_law_texts","_law_signs_here","_law_depth_here","_law_lean","_law_k","_law_cell","_law_number","_law_kind"] [3] [3] (by walk_at "s") λa a a a a a a a a a=>
  by walk_at "o"
def PH(F:fX K "_law_depth" "_law_depth" Fg f z)(kk:KS K J):b9 P w K J r fx 1 f z ["_law_signs_here"]<|gn K yw:=
 F.yh ["_law_signs_here"] [] [] (by walk_at "s") λa a a a s H a a a a=>
  (bW<|kB<|Rz X9 (dq<|Js W kk.y<|dq<|df<|pE ["_law_sign"] [M] (jR<|vP 0) λC s H ex=>Ŷ)<|dq<|Js W kk.y<|dq<|df<|pE ["_law_sign"] [M] (jR<|vP 0) λC s H ex=>Ŷ)
def X6(F:fX K "_law_pop" "_law_pop" OB f z):b9 P w K J r fx 1 f z ["_law_draws"]<|B6 K 0 nE:=
 F.tJ ["_law_draws"] [0] [0] (by walk_at "s") λa a a a a a a a a a a=>
  (av Ŷ<|bW<|ym<|Y7<|pv 0)
end
abbrev pi:=eK<|.str<|af "own"
abbrev py:=eK<|.int 4
abbrev xz:=aC (i8<|aC Tl aN) aN
def wJ(p:!D->↑(D×!D))(q:!D->↑(D×!D)):DG:=(aR (sE 3<|mE nE 0 aN)<|aR (cM 4<|e2 fS (eV 3)<|eK<|.int 8)<|aR (g_ (vW (dG<|e2 JJ (eV 4) ca)<|hV (dG<|e2 hU (eV 1) f8)<|dG<|e2 Iz (eV 4) ca) (gV<|mP<|i8<|aC Tl aN) c8)<|aR (g_ (dG<|e2 hU (eV 4) ca) (gV<|mP<|i8<|aC wr<|aC (e2 cw ce<|e2 fS (e2 kf (eV 3)<|eK<|.int 8) am) aN) c8)<|aR (g_ (dG<|e2 JJ (eV 4) am) (gV<|wx<|mV (mP ge)<|mV (mE q 0<|aC (e2 px (eV 1) u8) pc) qJ) c8)<|aR (g_ (dG<|e2 hU (eV 4) am) (gV<|mP<|i8<|aC ge<|aC (eF<|dW<|aC (i8<|aC pi<|aC Uf xz) aN) aN) c8)<|gV<|wx<|mV (mP<|e2 cw (eF<|dW<|aC Do<|aC jp aN)<|e2 px (eV 4)<|eK<|.int 6)<|mV (Z5 (KD<|e2 fS (e2 kf (eV 3)<|eK<|.int 8) py) [M,Y 0,Y 2,Y 1] (gN 0) (mE p 1<|aC (e2 px (eV 3) u8) pc) 1 0) qJ)
abbrev C3:cH:=top 31
noncomputable abbrev R6:!aP:=["_law_draws","_law_deep","_law_some","_law_number","_law_kind"]
def wW(p:!D->↑(D×!D))(q:!D->↑(D×!D)):DG:=(aR (sE 5<|mE nE 0 aN)<|aR (cM 6<|e2 cw (e2 gA (eF<|K6 (eV 2) pN<|pS py)<|eF<|dW<|aC Uf<|aC Uf<|aC Uf aN)<|e2 fS (e2 kf (eV 5) ca)<|eK<|.int 7)<|J4 3<|wx<|mV (mP<|e2 cw (eF<|dW<|aC pi<|aC Tk aN)<|e2 fS (eV 5) ca)<|mV (mP<|eV 6)<|mV (mE p 0<|aC (eV 1) pc) qJ)
abbrev Ev:=Z6<|m2 gA (mP u8)<|m2 fS (mE nE 0 aN)<|mP lc
def KQ(p:!D->↑(D×!D))(q:!D->↑(D×!D)):DG:=(aR (gU 3 Rs)<|aR (uQ Ev (gN 4)<|wW p q)<|OS 3)
abbrev yN:cH:=top 32
abbrev LL:!aP:=["_law_draws","_law_deep","_law_some","_law_steps_here","_law_k","_law_number","_law_name"]
mutual
noncomputable def eD:Nat->!D->↑(D×!D)
 |0=>λ_=>M
 |n+1=>Fu 3 5 0<|wJ (eD n)<|e6 n
noncomputable def e6:Nat->!D->↑(D×!D)
 |0=>λ_=>M
 |n+1=>Fu 3 7 0<|KQ (eD n)<|e6 n
end
section
variable {P:bh}{w:cW}{K:aV}{J:aP->↑au}{r:cP}{f:aH}{z:dt}
def Ue{n:Nat}(F:fX K "_law_wish" "_law_wish" C3 f z)(kk:KS K J)(QG:gP P w K J r "_law_pop" (n+1)<|B6 K 0 nE)(KI:gP P w K J r "_law_steps" (n+1)<|B6 K 0<|e6 n)(QF:gP P w K J r "_law_wish" (n+1)<|B6 K 0<|eD n):b9 P w K J r fx (n+1+1) f z ["_law_draws","_law_deep","_law_some"]<|B6 K 0<|eD<|n+1:=
 F.tJ R6 [0] [0] (by walk_at "s") λb b b b s H b b B a hB=>
  (av Ŷ<|av Ŷ<|av Ŷ<|av Ŷ<|av Ŷ<|av Ŷ<|bW<|ym<|Y6<|mL Ŷ<|mL (aci (i0:=1) (j0:=0) (N:=[("_law_k" : aP),("_law_draws" : aP),("_law_some" : aP),("_law_deep" : aP)]) (src:=[M,Y 0,Y 2,Y 1]) (lE (outer:=bu C3) (oN:=R6) W Ų W W) W Ŷ (jh 0) ſ (qN _ 0 1) (λC s H ex=>(hW (i:=0) (show ([("_law_k" : aP),("_law_draws" : aP),("_law_some" : aP),("_law_deep" : aP)]:!aP).Nodup by decide +kernel) W (lZ W),kJ,dmx λB a hB=>Ŷ))) Ea)
def Pu{n:Nat}(F:fX K "_law_steps" "_law_steps" yN f z)(kk:KS K J)(QG:gP P w K J r "_law_pop" (n+1)<|B6 K 0 nE)(QF:gP P w K J r "_law_wish" (n+1)<|B6 K 0<|eD n):b9 P w K J r fx (n+1+1) f z ["_law_draws","_law_deep","_law_some"]<|B6 K 0<|e6<|n+1:=
 F.tJ LL [0,3] [0,3] (by walk_at "s") λa a a a a a a a B a hB=>
  (av Ŷ<|av (D8 cJ W (ug W kk.y Ŷ) (λB hB=>Ŷ)<|λB hB=>(av Ŷ<|av Ŷ<|bW<|Lh (pv 3) Ŷ))<|bW<|Rm<|pv 3)
def pJ:DG:=(aR (gU 3<|Vf (eV 3)<|e2 cw (e2 cw (eV 0)<|e2 cw (eV 3)<|eV 4) ca)<|cM 4<|e2 gA (eV 4) u8)
abbrev ww:=e2 JJ (eV 1) f8
def vj:DG:=(aR (g_ (hV (dG ww)<|dG<|e2 hU (eV 2) pi) (mx<|lU (KD<|be iC Db) [M,Y 0] (gN 0) (dG<|e2 JJ (e2 cw (e2 cw (eV 1)<|eV 0) lc) f8)<|eV 0) c8)<|aR (g_ (dG ww) (mx<|lU (KD<|be iC Db) [M] (gN 0) gR<|eV 0) c8)<|aR (gU 3<|GD<|e2 cw (e2 cw (eV 0)<|eV 1) ca)<|aR (cM 4 f8)<|aR (y8 1000000 (hV (dG<|e2 JJ (eV 4)<|be iC No)<|dG<|e2 hU (eV 2) Tk) pJ)<|uO 3)
def k6:!D->↑(!D):=ou 3 5 vj
abbrev BY:cH:=top 27
def ME(F:fX K "_law_within" "_law_within" BY f z)(kk:KS K J):b9 P w K J r fx 2 f z ["_law_nodes_here","_law_at","_law_way"]<|vL K k6:=
 F.Uk ["_law_nodes_here","_law_at","_law_way","_law_found","_law_k"] [3] [3] (by walk_at "s") λa a a a s H a a a a=>
  (av (kg Ŷ (bW<|yn<|pE ["_law_k","_law_nodes_here"] [M,Y 0] Ŷ λC s H ex=>Ŷ) fH)<|av (kg Ŷ (bW<|yn<|qX ["_law_k"] [M] Ŷ λC s H ex=>(vP 0)) fH)<|av Ŷ<|av Ŷ<|av (AE 1000000 cJ Ŷ Ŷ) Ŷ)
end
def yl(p:!D->↑D)(q:!D->↑(!D)):DG:=(aR (g_ (dG<|e2 hU (e2 cw (eV 2) f8) Tl) (fc cr) c8)<|aR (g_ (dG<|e2 hU (e2 cw (eV 2) f8) wr) (fc<|e2 Ix (e2 cw (eV 2) u8)<|e2 cw (e2 cw (eV 0)<|eV 1) u8) c8)<|aR (g_ (dG<|e2 hU (e2 cw (eV 2) f8) ge) (fc<|e2 Ba (eF<|fG q<|aC (eV 0)<|aC (eF<|dW na)<|aC (e2 cw (eV 2) u8) aN) nb) c8)<|aR (cM 3<|eF<|lU (iL<|e2 cw (eV 2) u8) [M,Y 0,Y 1] (gN 0) gR<|be p<|aC (eV 1)<|aC (eV 2) Db)<|aR (g_ (dG<|e2 hU (e2 cw (eV 2) f8) Do) (fc<|e2 (Bo Z') zn<|eV 3) c8)<|fc<|e2 Ix cr<|eV 3)
abbrev yR:cH:=top 28
noncomputable abbrev LN:!aP:=["_law_nodes_here","_law_at","_law_wish_here","_law_told"]
def rj(p:!D->↑D)(q:!D->↑(!D)):DG:=(g_ (hV (dG<|e2 (Bo Z') (eV 6)<|eV 4)<|hV (dG<|e2 Ix (e2 cw (eV 3) u8)<|eF<|dW<|aC Uf<|aC (e2 cw (e2 cw (eV 0)<|eV 6) f8) aN)<|eT<|be p<|aC (eV 0)<|aC (eV 6)<|aC (e2 cw (eV 3) ca) aN) (my 4<|eV 6) c8)
def ri(p:!D->↑D)(q:!D->↑(!D)):DG:=(jL (iL<|eF<|fG k6<|aC (eV 0)<|aC (eV 5)<|aC (e2 cw (eV 3) f8) aN) (gN 6)<|rj p q)
def rh(p:!D->↑D)(q:!D->↑(!D)):DG:=(aR (gU 4 Rs)<|aR (jL (iL<|eV 1) (gN 5)<|ri p q)<|Xu 1 4)
def Cn(p:!D->↑D)(q:!D->↑(!D)):DG:=(aR (jL (iL<|eV 2) (gN 3)<|rh p q)<|mx<|wL<|eV 1)
abbrev yU:cH:=top 29
mutual
def iH:Nat->!D->↑D
 |0=>λ_=>M
 |n+1=>jN 3 4<|yl (iH n)<|iI n
def iI:Nat->!D->↑(!D)
 |0=>λ_=>M
 |n+1=>ou 3 7<|Cn (iH n)<|iI n
end
section
variable {P:bh}{w:cW}{K:aV}{J:aP->↑au}{r:cP}{f:aH}{z:dt}
def PD{n:Nat}(F:fX K "_law_holds" "_law_holds" yR f z)(KN:gP P w K J r "_law_holds" (n+3)<|gn K<|iH n)(M_:gP P w K J r "_law_answers" (n+3)<|vL K<|iI n):b9 P w K J r fx (n+3+1) f z ["_law_nodes_here","_law_at","_law_wish_here"]<|gn K<|iH<|n+1:=
 F.yh LN [] [] (by walk_at "s") λnd a a a s H a a a a=>
  (av Ŷ<|av Ŷ<|av Ŷ<|av (GL (i:=3) (Ź:=[]) (N:=[("_law_one" : aP),("_law_nodes_here" : aP),("_law_at" : aP)]) (src:=[M,Y 0,Y 1]) (lE (outer:=bu yR) (oN:=LN) W Ų W W) W nd W W Ŷ (jh 0) ſ (mI 0) (λC s H ex=>(hW (i:=0) (show ([("_law_one" : aP),("_law_nodes_here" : aP),("_law_at" : aP)]:!aP).Nodup by decide +kernel) W (.inl W),kJ,Ŷ))) Ŷ)
def Iv{n:Nat}(F:fX K "_law_answers" "_law_answers" yU f z)(kk:KS K J)(KN:gP P w K J r "_law_holds" (n+3)<|gn K<|iH n)(abQ:gP P w K J r "_law_within" (n+3)<|vL K k6):b9 P w K J r fx (n+3+1) f z ["_law_nodes_here","_law_starts","_law_steps_here"]<|vL K<|iI<|n+1:=
 F.Uk ["_law_nodes_here","_law_starts","_law_steps_here","_law_step","_law_found","_law_at","_law_k"] [4] [4] (by walk_at "s") λa a a a a a a a a a=>
  by walk_at "o"
end
abbrev yP:cH:=top 25
def oq:ji ["_law_signs_here","_law_nodes_here","_law_here","_law_sign"] ["_law_signs_here"]<|bu yP:=ű
def Yf{a:!Nd}{z:Int}(b:0<=z)(h:a[z.toNat]?=Y n):z<a.length:=by
 have:=(ah.mp h).1;omega
def jY(a:!D):↑D:=(L2.jY a).map .lst
abbrev NI(K:aV)(G0 H:Hp)(a0 I:aH)(L:!D)(zf:!Nd×Int)(i:Nat)(σ:St)(H':Hp):Prop:=a_ H H'/\∃D v g v3,σ=[Y<|.ref a0,Y<|.ref I,Y<|.int g,v3]/\iG K G0 H H' I D v/\v.length<=i/\(∀(j:Nat) n,v[j]?=Y n->n.tx.length<=i/\n.kd.length<=i)/\Bp (L.drop i) (v,g)=Y zf
set_option tactic.hygienic true in
def Px{P:bh}{K:aV}{f:aH}(F:fX K "_law_nodes" "_law_nodes" yP f z)(T:J "len" = M):b9 P w K J r fx 1 f z ["_law_signs_here"]<|gn K jY:=by
 have inv:∀ds rs,jY ds=Y rs->∃L zf,ds=[.lst L]/\L.length<=100000/\Bp L ([],-1)=Y zf/\rs=.lst (zf.1.map MK):=λds d R=>by
  unfold jY L2.jY at R
  split at R
  .split at R
   .rename_i L hz
    cases ez:Bp L ([],-1) with|none=>simp[ez]at R|some zf=>simp only[ez,cE]at R;cases R;exact(L,zf,W,hz,ez,W)
   .cases R
  .cases R
 refine F.ok oq (λvs H Q E h =>?_)<|λZk A outer s H vs Q E hr h =>?_
 .let(G,ds,d,gh,r,R,_):=h
  let(L,zf,rfl,_):=inv ds d R
  exact r.length.symm
 .let(G0,ds,d,gh,r,R,q):=h
  let(L,zf,rfl,hz,ez,rfl):=inv ds d R
  let(v0,r0,rfl,rs,rn):=aW.mp r
  have:=cx.mp rn;subst this
  let(a0,us,rfl,ga0,ru):=cu.mp rs
  have big:100000<a7:=by rw[kE];decide
  refine(_,oz (km (i:=1) oq.nd W (lZ W) (zg dH))
   (oz (km (i:=2) oq.nd W (lZ W) (Kd HP lA))
   (oz (XE cJ W (Kc<|pv 0) (hW (i:=3) oq.nd W (lZ W))
    (m9 (FJ (uU Wp (oA qM (pv 3) lA<|λp p=>rfl) Ij<|kv _)
     (oz (jO<|uX dg PySem.F.slot_list_append PySem.F.type_list_append iO (pv 1)<|cA (Ii<|cA (oA qM (pv 3) lA<|λp p=>rfl)<|cA (zg dH)<|cA (zg dH)<|cA (pv 2) dH) dH)
     (oz (FJ (uU Wo (pv 2) (Kd HP lA)<|kv _)
      (m9<|jO<|uX dg PySem.F.slot_list_append PySem.F.type_list_append iO (oA qM (oA rO (pv 1) (pv 2)<|λp p=>rfl) lA<|λp p=>rfl)<|cA (FN Ip (uW pI W T PySem.boot_len<|cA (pv 1) dH) lA) dH)
      Ka)
     (m9<|km (i:=2) oq.nd W (lZ W) (FN Ip (uW pI W T PySem.boot_len<|cA (pv 1) dH) lA))))
     (m9 (FJ (uU Wp (oA qM (pv 3) lA<|λp p=>rfl) Ij<|kv _)
      (m9<|jO<|uX dg PySem.F.slot_list_append PySem.F.type_list_append iO (oA qM (oA rO (pv 1) (pv 2)<|λp p=>rfl) lA<|λp p=>rfl)<|cA (oA qM (pv 3) lA<|λp p=>rfl) dH)
      (m9<|km (i:=2) oq.nd W (lZ W) (oA qM (oA rO (pv 1) (pv 2)<|λp p=>rfl) lA<|λp p=>rfl)))))))
   (m9<|pf<|pv 1))),?_)
  refine(cZ _,λI hN =>?_)
  refine(1,W,?_)
  let sqs:∀ {H':Hp},a_ H H'->lW K H' a0 us:=λE =>.of<|E _ _<|gh _ _ ga0
  let s0:a_ H (cU H I<|.lst []) :=.alloc hN
  refine(_,W,a0,W,(us,sqs s0),?_)
  refine Q0 (K:=K) (a:=a0) (xs:=us) (NI K G0 H a0 I L zf)
   (s0,[],[],-1,M,W,(a9,hN,W,λi c n e=>by simp at e,λi c n e=>by simp at e,λi c n e=>by simp at e,λi j c d e=>by simp at e,λi j c d e=>by simp at e,λi j c d e=>by simp at e),aF _,λj n e=>by simp at e,ez) (λi σ H' _ (U,_)=>sqs U) ?_ ?_
  .rintro i y σ H1 hy ⟨U,D,v,g,v3,rfl,u,hnl,N,l⟩
   let hlu:i<us.length:=(ah.mp hy).1
   have QC:i<L.length:=by rw[ru.length];exact hlu
   let(y',hy',ry):=ru.get<|ai QC
   rw[hy]at hy';cases hy'
   rw[da QC]at l
   have l:(xj (v,g) L[i]).bind (Bp<|L.drop<|i+1)=Y zf:=l
   cases es:xj (v,g) L[i] with
   |none=>rw[es]at l;cases l|some z'=>
    rw[es]at l
    have l:Bp (L.drop<|i+1) z'=Y zf:=l
    have af2:(D.map λc=>V.ref c.1).length=v.length:=by rw[ar];exact u.len
    obtain⟨x,ek,hz'⟩|⟨x,n,ek,O,B,rfl⟩|⟨n,ek,O,B,rfl⟩:=F4 es
    .
     rw[ek]at ry
     let(b,ws,rfl,gb,k):=cQ.mp ry
     let(w1,q1,rfl,X,k):=aW.mp k
     let(w2,q2,rfl,rw2,k):=aW.mp k
     have:=cx.mp k;subst this
     have:=dJ.mp X;subst this
     have:=dJ.mp rw2;subst this
     let hb:∀ {H':Hp},a_ H1 H'->H' b=Y (.tup [.str uP,.str x]):=λs=>s _ _<|U _ _<|gh _ _ gb
     refine(_,W,b,_,_,_,W,W,.of<|hb<|a_.refl _,dX (j:=0) W,W,_,W,?_)
     refine IQ (λp =>?_)<|λu=>absurd (decide_eq_true W) u
     refine(_,W,.inl (W,_,.of u.lst),_,W,b,_,_,_,W,W,.of<|hb<|a_.refl _,dX (j:=1) W,cZ _,λa ha=>(cZ _,λDa Z8=>(_,W,(by show 4<=a7;omega),λt ht =>?_)))
     let C:=u.push (x:=x) (u:=g) U ha Z8 ht
     have sA:a_ H1<|cU (cU (cU H1 a<|.lst []) Da<|.lst []) t<|.tup [.str x,.ref a,.ref Da,.int g]:=((a_.alloc ha).trans<|.alloc Z8).trans<|.alloc ht
     have sH:a_ H<|cU (cU (cU (cU H1 a<|.lst []) Da<|.lst []) t<|.tup [.str x,.ref a,.ref Da,.int g]) I<|.lst<|D.map (λc =>.ref c.1)++[.ref t]:=λp o e=>by
      rw[aO<|bf e u.Ur];exact sA _ _<|U _ _ e
     refine(I,_,_,W,W,sA _ _ u.lst,(by rw[af2];omega),?_)
     generalize cU (cU (cU (cU H1 a<|.lst []) Da<|.lst []) t<|.tup [.str x,.ref a,.ref Da,.int g]) I (.lst<|D.map (λc =>.ref c.1)++[.ref t])=H2 at C sH
     have J:((D++[gJ t<|gJ a Da]).map λc=>V.ref c.1).length=v.length+1:=by simp[u.len]
     have szP:∀(j:Nat) m,(v++[xk x g])[j]?=Y m->m.tx.length<=i+1/\m.kd.length<=i:=λj m e=>by
      by_cases hj:j<v.length
      .rw[aI hj]at e
       have:=N j m e;omega
      .have hl:=(ah.mp e).1
       let ej:j=v.length:=by simp at hl;omega
       subst ej
       simp at e;subst e;simp
     refine(_,W,1,W,g,-1,W,W,_,W,?_)
     obtain⟨O,rfl⟩|⟨O,n,B,rfl⟩:=hz'
     .let O:¬0<=g:=O
      refine IQ (λhc=>absurd (of_decide_eq_true hc) ž)<|λp =>?_
      refine(_,W,I,_,W,.inl<|.of C.lst,_,_,W,W,?_)
      refine(sH,D++[gJ t<|gJ a Da],v++[xk x g],(v.length:Int),Y<|.ref b,?_,C,by simp;omega,λj m e=>by have:=szP j m e;omega,l)
      rw[J];simp
     .let O:0<=g:=O
      refine IQ (λp =>?_)<|λhc=>absurd (decide_eq_true ž) hc
      let B:(v++[xk x g])[g.toNat]?=Y n:=B
      let aiH:=Yf O B
      let(c,S):=C.at B
      let(qt,_):=C.tup _ _ _ S B
      let(qk,zk,nk):=C.WC _ _ _ S B
      let ixc:qa ((D++[gJ t<|gJ a Da]).map λc=>V.ref c.1) g=Y (.ref c.1):=by
       let e:g=((g.toNat:Nat):Int):=by omega
       rw[e];exact dX (by rw[aK,S];rfl)
      let hkl:n.kd.length<=i:=(szP _ _ B).2
      refine(_,W,_,W,I,_,g,_,W,W,.of C.lst,ixc,c.1,_,2,_,W,W,.of qt,dX (j:=2) W,.inl (W,_,.of qk),_,W,I,_,W,.inl<|.of C.lst,_,_,W,W,c.2.2,_,_,W,W,qk,(by rw[ar];omega),?_)
      let e1:((((D++[gJ t<|gJ a Da]).map λc=>V.ref c.1).length:Int)-1)=(v.length:Int):=by rw[J];simp
      let hn3:=C.aev (a:=n.kd++[(v.length:Int)]) S B
      let ek2:(n.kd.map V.int++[V.int<|(((D++[gJ t<|gJ a Da]).map λc=>V.ref c.1).length:Int)-1])=(n.kd++[(v.length:Int)]).map V.int:=by rw[e1];simp
      have abK:iG K G0 H (cU H2 c.2.2<|.lst<|n.kd.map V.int++[V.int<|(((D++[gJ t<|gJ a Da]).map λc=>V.ref c.1).length:Int)-1]) I (D++[gJ t<|gJ a Da])<|(v++[xk x g]).set g.toNat { n with kd:=n.kd++[(v.length:Int)] }:=by rw[ek2];exact hn3
      refine(_,W,I,_,W,.inl<|.of abK.lst,_,_,W,W,?_)
      refine(λp o e =>?_,D++[gJ t<|gJ a Da],(v++[xk x g]).set g.toNat { n with kd:=n.kd++[(v.length:Int)] },(v.length:Int),Y<|.ref b,?_,abK,by simp;omega,λj m e =>?_,l)
      .rw[aO<|bf e zk];exact sH _ _ e
      .rw[J];simp
      .by_cases hj:g.toNat=j
       .subst hj
        rw[aX (ah.mp B).1]at e
        cases e
        have:=szP _ _ B
        simp;omega
       .rw[aq hj]at e
        have:=szP j m e;omega
    .
     let O:0<=g:=O
     let B:v[g.toNat]?=Y n:=B
     rw[ek]at ry
     let(b,ws,rfl,gb,k):=cQ.mp ry
     let(w1,q1,rfl,X,k):=aW.mp k
     let(w2,q2,rfl,rw2,k):=aW.mp k
     have:=cx.mp k;subst this
     have:=dJ.mp X;subst this
     have:=dJ.mp rw2;subst this
     let hb:H1 b=Y (.tup [.str uN,.str x]):=U _ _<|gh _ _ gb
     refine(_,W,b,_,_,_,W,W,.of hb,dX (j:=0) W,W,_,W,?_)
     refine IQ (λu=>absurd (V.str.inj<|of_decide_eq_true u)<|λz=>sOT z.symm)<|λp =>?_
     refine(_,W,b,_,_,_,W,W,.of hb,dX (j:=0) W,W,_,W,?_)
     refine IQ (λp =>?_)<|λu=>absurd (decide_eq_true W) u
     let(c,S):=u.at B
     let(qt,_):=u.tup _ _ _ S B
     obtain⟨⟨vs,qx,rx⟩,zx,nx⟩:=u.txs _ _ _ S B
     let ixc:qa (D.map λc=>V.ref c.1) g=Y (.ref c.1):=by
      let e:g=((g.toNat:Nat):Int):=by omega
      rw[e];exact dX (by rw[aK,S];rfl)
     let hvl:vs.length<=i:=by rw[<- rx.length];exact(N _ _ B).1
     refine(_,W,_,W,I,_,g,_,W,W,.of u.lst,ixc,c.1,_,1,_,W,W,.of qt,dX (j:=1) W,.inl (W,_,.of qx),_,W,b,_,_,_,W,W,.of hb,dX (j:=1) W,c.2.1,_,_,W,W,qx,ž,?_)
     refine(λp o e=>by rw[aO<|bf e zx];exact U _ _ e,D,_,g,_,W,u.Xq S B<|rx.append<|.cons (dJ.mpr W) .nil,by simp;omega,λj m e =>?_,l)
     by_cases hj:g.toNat=j
     .subst hj
      rw[aX (ah.mp B).1]at e
      cases e
      have:=N _ _ B
      simp;omega
     .rw[aq hj]at e
      have:=N j m e;omega
    .
     let O:0<=g:=O
     let B:v[g.toNat]?=Y n:=B
     rw[ek]at ry
     let(b,ws,rfl,gb,k):=cQ.mp ry
     let(w1,q1,rfl,X,k):=aW.mp k
     have:=cx.mp k;subst this
     have:=dJ.mp X;subst this
     let hb:H1 b=Y (.tup [.str o_]):=U _ _<|gh _ _ gb
     refine(_,W,b,_,_,_,W,W,.of hb,dX (j:=0) W,W,_,W,?_)
     refine IQ (λu=>absurd (V.str.inj<|of_decide_eq_true u)<|λz=>sOC z.symm)<|λp =>?_
     refine(_,W,b,_,_,_,W,W,.of hb,dX (j:=0) W,W,_,W,?_)
     refine IQ (λu=>absurd (V.str.inj<|of_decide_eq_true u)<|λz=>sTC z.symm)<|λp =>?_
     let(c,S):=u.at B
     let(qt,_):=u.tup _ _ _ S B
     let ixc:qa (D.map λc=>V.ref c.1) g=Y (.ref c.1):=by
      let e:g=((g.toNat:Nat):Int):=by omega
      rw[e];exact dX (by rw[aK,S];rfl)
     refine(_,W,_,W,I,_,g,_,W,W,.of u.lst,ixc,c.1,_,3,_,W,W,.of qt,dX (j:=3) W,?_)
     exact(U,D,v,n.par,_,W,u,ž,λj m e=>ŷ,l)
  .
   rintro σ H1 ⟨U,D,v,g,v3,rfl,u,hnl,N,l⟩
   rw[<- ru.length,j5]at l
   cases l
   let E:=Jd gh U
   let r:=u.rep gh
   exact(_,W,q _ _ H1 E (cu.mpr (I,_,W,by show (match H I with|none=>H1 I|some _=>G0 I)=_;rw[hN];exact u.lst,r)))
def U4:DG:=(fc<|Nj (eIs "int"<|eV 0)<|Vi<|dG<|eIs "bool"<|eV 0)
def EC:!D->↑D:=jN 1 1 U4
abbrev Fc:cH:=top 33
def Cm:DG:=(aR (g_ (vW (m5<|eT<|eIs "list"<|eV 0)<|dG<|e2 Ba (be iC Db)<|be iC na) (fc zn) c8)<|fc<|e2 hU (eF<|lU (KD<|be iC na) [M,Y 0,Y 1] (gN 0) (vW (m5<|eT<|be EC<|aC (e2 cw (eV 1)<|eV 0) aN)<|dG<|e2 Ba (e2 cw (eV 1)<|eV 0)<|e2 cw (eV 2)<|eV 0)<|eV 0) nb)
def oV:!D->↑D:=jN 2 2 Cm
abbrev yO:cH:=top 34
def Am(p:!D->↑D):DG:=(aR (g_ Ps (fc<|e2 hU (eF<|lU (iL<|e2 cw (eV 0) u8) [M] (gN 0) (m5<|eT<|be p ol)<|eV 0) nb) c8)<|aR (g_ (dG<|e2 hU (e2 cw (eV 0) f8) Do) (fc<|e2 hU (eF<|lU (iL<|e2 cw (eV 0) u8) [M] (gN 0) (m5<|eT<|be p Db)<|eV 0) nb) c8)<|aR (g_ (dG<|e2 hU (e2 cw (eV 0) f8) jp) (fc<|e2 Ba (eF<|lU (iL<|e2 cw (eV 0) u8) [M] (gN 0) (eT<|be p Db)<|eV 0) nb) c8)<|fc cr)
abbrev B2:cH:=top 35
def vw:DG:=(g_ (dG<|e2 hU (e2 cw (eV 4) f8) Sc) (aR (my 2 cr)<|cM 3<|e2 px (be iC pc) u8)<|g_ (dG<|e2 hU (e2 cw (eV 4) f8) Re) (aR (Ft 2 (eV 3) zn)<|cM 3<|e2 cw (e2 cw (eV 0)<|eV 3) lc) c8)
def YO:DG:=(aR (gU 2 Rs)<|aR (cM 3 TD)<|aR (jL (iL<|eV 1) (gN 4) vw)<|uO 2)
def ED:!D->↑(!D):=ou 2 5 YO
abbrev J1:cH:=top 36
abbrev xL:=cM 1<|e2 cw (e2 cw (eV 0)<|eV 1) lc
def AO:DG:=(aR (my 2<|eV 1) xL)
def QV:DG:=(aR (gU 2 Rs)<|aR xL<|aR (y8 1000000 (dG<|e2 oGe (eV 1) f8) AO)<|uO 2)
def vE:!D->↑(!D):=ou 2 3 QV
abbrev B3:cH:=top 37
def dD:Nat->!D->↑D
 |0=>λ_=>M
 |n+1=>jN 1 1<|Am<|dD n
section
variable {P:bh}{w:cW}{K:aV}{J:aP->↑au}{r:cP}{f:aH}{z:dt}
def Pq(F:fX K "_law_whole" "_law_whole" Fc f z)(kk:KS K J):b9 P w K J r fx 1 f z ["_law_found"]<|gn K EC:=
 F.yh ["_law_found"] [] [] (by walk_at "s") λa a a a a a a a a a=>
  (bW<|kB<|Zf (wQ (T:= "int") ſ W kk.y W kk.y Ų (vQ 0)) (Zc<|Zd<|wQ (T:= "bool") ſ W kk.y W kk.y Ų (vQ 0)))
def Iu(F:fX K "_law_numbers" "_law_numbers" yO f z)(kk:KS K J)(adx:gP P w K J r "_law_whole" 1<|gn K EC):b9 P w K J r fx 2 f z ["_law_found","_law_due"]<|gn K oV:=
 F.yh ["_law_found","_law_due"] [] [] (by walk_at "s") λa a a a s H a hr a a=>
  (av (kg (PW.pt<|ab9 (Jn<|AD<|dq<|wQ (T:= "list") ſ W kk.y W kk.y Ų (vQ 0)) Ŷ) Ŷ fH) (bW<|kB<|ui (FV hr) (dq<|df<|pE ["_law_k","_law_found","_law_due"] [M,Y 0,Y 1] Ŷ λC s H ex=>Ŷ) Ŷ<|kv _))
def MI{n:Nat}(F:fX K "_law_can_be" "_law_can_be" B2 f z)(QJ:gP P w K J r "_law_can_be" (n+0)<|gn K<|dD n):b9 P w K J r fx (n+0+1) f z ["_law_wish_here"]<|gn K<|dD<|n+1:=
 F.yh ["_law_wish_here"] [] [] (by walk_at "s") λa a a a s H a hr a a=>
  (av (kg Ŷ (bW<|kB<|ui (FV hr) (dq<|df<|pE ["_law_step"] [M] Ŷ λC s H ex=>Ŷ) Ŷ<|kv _) fH)<|av (kg Ŷ (bW<|kB<|ui (FV hr) (dq<|df<|pE ["_law_one"] [M] Ŷ λC s H ex=>Ŷ) Ŷ<|kv _) fH)<|av (kg Ŷ (bW<|kB<|ui (PN hr) (dq<|df<|pE ["_law_one"] [M] Ŷ λC s H ex=>Ŷ) Ŷ<|kv _) fH) Ŷ)
def Ug(F:fX K "_law_open" "_law_open" J1 f z)(kk:KS K J):b9 P w K J r fx 1 f z ["_law_nodes_here","_law_signs_here"]<|vL K ED:=
 F.Uk ["_law_nodes_here","_law_signs_here","_law_found","_law_here","_law_sign"] [2] [2] (by walk_at "s") λa a a a a a a a a a=>
  by walk_at "o"
def MJ(F:fX K "_law_around" "_law_around" B3 f z):b9 P w K J r fx 1 f z ["_law_nodes_here","_law_at"]<|vL K vE:=
 F.Uk ["_law_nodes_here","_law_at","_law_found"] [2] [2] (by walk_at "s") λa a a a a a a a a a=>
  (av Ŷ<|av Ŷ<|av (AE 1000000 cJ Ŷ Ŷ) Ŷ)
def LQ:=iH 12
def wZ:=iI 12
def Hj:=dD 12
def Al(c:!D->↑(D×!D))(a:!D->↑(D×!D)):DG:=(aR (gU 3 Rs)<|aR (uQ Ev (gN 4)<|wW c a)<|uO 3)
def oU:=ou 3 7<|Al (eD 11)<|e6 11
def AN:DG:=(aR (sE 5<|mE nE 1 aN)<|my 3<|i8<|aC (e2 cw (eF<|dW<|aC pi<|aC Tk aN)<|e2 fS (eV 5) ca)<|aC (e2 cw (e2 gA (eF<|K6 (eV 2) pN<|pS py)<|eF<|dW<|aC Uf aN)<|e2 fS (e2 kf (eV 5) ca) am) xz)
def QU:DG:=(aR (Tw Ba (m2 fS (mE nE 1 aN)<|mP py) (mP u8) (uO 0) c8)<|aR (gU 3<|GD<|eV 0)<|aR (uQ (Z6<|m2 gA (mP u8)<|m2 fS (mE nE 1 aN)<|mP ca) (gN 4) AN)<|uO 3)
def oW:!D->↑(!D):=ou 3 6 QU
abbrev BZ:cH:=top 39
abbrev Ch:=fG f9<|aC (eV 0)<|aC (eK<|.int 1200)<|aC am aN
abbrev ci:=fG f9<|aC (eV 0)<|aC (eK<|.int 100)<|aC (eK<|.int 12) aN
abbrev NE:=SF (fG oU<|SF ci<|aC lc na)<|SF Ch na
def DQ:DG:=mx<|fG oW NE
def pL:!D->↑(!D):=ou 2 2 DQ
abbrev Fh:cH:=top 40
def MF(F:fX K "_law_steps" "_law_steps" yN f z)(kk:KS K J)(QG:gP P w K J r "_law_pop" (n+1)<|B6 K 0 nE)(QF:gP P w K J r "_law_wish" (n+1)<|B6 K 0<|eD n):b9 P w K J r fx (n+1+1) f z ["_law_draws","_law_deep","_law_some"]<|Xm K 1<|ou 3 7<|Al (eD n)<|e6 n:=
 F.okG LL [0,3] [0,3] (by walk_at "s") λa a a a a a a a B hB=>
  (av Ŷ<|av (D8 cJ W (ug W kk.y Ŷ) (λB hB=>Ŷ)<|λB hB=>(av Ŷ<|av Ŷ<|bW<|Lh (pv 3) Ŷ)) Ŷ)
def MG(F:fX K "_law_longer" "_law_longer" BZ f z)(kk:KS K J)(QG:gP P w K J r "_law_pop" 1<|B6 K 0 nE):b9 P w K J r fx 2 f z ["_law_steps_here","_law_draws","_law_some"]<|Xm K 2 oW:=
 F.okG ["_law_steps_here","_law_draws","_law_some","_law_found","_law_k","_law_number"] [0,1,3] [0,1,3] (by walk_at "s") λa a a a a a a hr B hB=>
  (av (Y4 (PN hr) Ŷ (pD jS) (kv _) Ŷ fH)<|av Ŷ<|av (D8 cJ W (ug W kk.y Ŷ) (λB hB=>Ŷ)<|λB hB=>Ŷ) Ŷ)
def PK(F:fX K "_law_asked" "_law_asked" Fh f z)(kk:KS K J)(QH:gP P w K J r "_law_longer" 89<|Xm K 2 oW)(KI:gP P w K J r "_law_steps" 89<|Xm K 1 oU)(KO:gP P w K J r "_law_cells" 89<|vL K f9):b9 P w K J r fx 90 f z ["_law_script","_law_some"]<|vL K pL:=
 F.Uk ["_law_script","_law_some"] [] [] (by walk_at "s") λa a a a a a a hr a a=>
  (bW<|yn<|GU QH hr W<|DK (GU KI hr W<|DK Ŷ<|QT Ŷ)<|DK Ŷ<|QT Ŷ)
def rQ:DG:=(aR (cM 7<|e2 Ix (e2 cw (eV 6) u8)<|eF<|dW<|aC Uf<|aC (e2 cw (e2 cw (eV 0)<|eV 4) f8) aN)<|aR (g_ (eT<|e2 cw (eV 1)<|eV 4) (cM 7<|Nj (eV 7)<|be Hj<|aC (e2 cw (eV 6) ca) aN)<|g_ (eT<|eV 7) (cM 7<|be LQ<|aC (eV 0)<|aC (eV 4)<|aC (e2 cw (eV 6) ca) aN) c8)<|aR (cM 8<|eF<|fG vE<|aC (eV 0)<|aC (eV 4) aN)<|aR (g_ (hV (dG<|e2 hU (e2 cw (eV 6) f8) pi)<|dG<|e2 Iz (eV 5) f8) (cM 8<|eF<|K6 (eV 8) pN<|pS u8) c8)<|aR (cM 9<|qU [3] []<|e2 Ba (eF<|lU (iL<|eV 8) [M,Y 5,Y 3] (gN 0) (dG<|e2 Ix (e2 px (eV 1) u8)<|e2 cw (eV 2)<|eV 0)<|eV 0) nb)<|aR (g_ (dG<|e2 hU (eV 5) f8) (cM 9<|eOr (e2 hU (e2 cw (eV 6) f8) Tk)<|e2 hU (eV 8) nb) c8)<|g_ (hV (eT<|eV 7)<|eT<|eV 9) (OU 3 (eV 4)<|eV 5) c8)
def CI:DG:=(jL (iE<|eV 2) (Jc 5 6) rQ)
def U7:DG:=(aR (y9 3 (.li<|.li .lf)<|eF<|lU (iL<|eV 0) [M] (gN 0) gR FM)<|aR (jL (KD<|be iC Db) (gN 4) CI)<|OQ 3)
def yv:!D->↑D:=jN 3 10 U7
abbrev yQ:cH:=top 38
abbrev LM:!aP:=["_law_nodes_here","_law_is_open","_law_question","_law_reached","_law_at","_law_k","_law_step","_law_good","_law_around_here","_law_ahead"]
def PB(F:fX K "_law_hoped" "_law_hoped" yQ f z)(kk:KS K J)(QJ:gP P w K J r "_law_can_be" 89<|gn K Hj)(KN:gP P w K J r "_law_holds" 89<|gn K LQ)(abR:gP P w K J r "_law_around" 89<|vL K vE):b9 P w K J r fx 90 f z ["_law_nodes_here","_law_is_open","_law_question"]<|gn K yv:=
 F.yh LM [3] [3] (by walk_at "s") λnd a a a s H a hr B hB=>
  (av (Ld (i:=3) nd W (.inr W) (acq (Ź:=[]) (N:=[("_law_node" : aP)]) (src:=[M]) (lE (outer:=bu yQ) (oN:=LM) W Ų W W) W (jR<|vP 0) (jh 0) ſ (mI 0) (λC s H ex=>(hW (i:=0) (show ([("_law_node" : aP)]:!aP).Nodup by decide +kernel) W (.inl W),Zi)))) (av (uf cJ W Ŷ (λB hB=>Ŷ)<|λB hB=>(bW<|uf cJ W Ŷ (λB hB=>(Y'<|XN W<|Pa (hW (i:=5) nd W (.inr W)) Ŷ)) (λB hB=>(av Ŷ<|av Ŷ<|av Ŷ<|av Ŷ<|av (D7 (i:=9) nd W (.inl W) (AI [] [3] []<|ui (PN hr) (dq<|df<|pE ["_law_one","_law_k","_law_reached"] [M,Y 5,Y 3] (jR<|vP 8) λC s H ex=>Ŷ) Ŷ<|kv _)) (av Ŷ<|bW<|kg Ŷ (bW<|Vn (pv 3) (vP 4)<|vP 5) fH))))) (bW<|Rl<|pv 3)))
def El:DG:=(aR (cM 7<|eF<|K6 (eV 3) pN<|pS<|e2 gA (eV 6) u8)<|aR (cM 8<|be jY<|aC (eV 7) aN)<|aR (ts 9<|Hr "Lean" "take" eB iK 4 []<|aC (e2 cw (eV 3)<|eV 6) aN)<|aR (cM 10<|eF<|fG wZ<|aC (eV 8)<|aC (eF<|dW<|aC TD aN) pc)<|aR (g_ (JZ [9] []<|m5<|eT<|be oV<|aC (eV 9)<|aC (eF<|lU (iL<|eV 10) [M,Y 5] (gN 0) (dG<|e2 (Bo Z') (eV 0)<|eV 1)<|eV 0) aN) (fc zn) c8)<|aR (cM 5<|eV 10)<|aR (my 9<|eK<|.int 99)<|aR (cM 11<|be yv<|aC (eV 8)<|aC (eF<|fG ED<|aC (eV 8)<|aC (eV 7) aN) pc)<|aR (cM 12<|eF<|lU (KD<|be iC<|aC (eV 8) aN) [M,Y 5,Y 11,Y 2] (gN 0) (hV (dG<|e2 Ix (e2 px (be iC No) u8)<|e2 cw (eV 2)<|eV 0)<|dG<|e2 (Bo Z') (eV 0)<|eV 1)<|eV 0)<|aR (gU 13<|fTh [4] []<|qR "Lean" "waiting" gj<|eV 4)<|aR (g_ (JZ [4,13] []<|vW (m5<|eT<|be oV<|aC (eV 13)<|aC (eV 12) aN)<|dG<|e2 Ba (fQ "Lean" "is_over" gk (eV 4) aN)<|e2 hU (be yw<|aC (eV 7) aN) f8) (fc zn) c8)<|aaY 13)
def abV:DG:=(aR (cM 1<|be yu Db)<|aR (gU 2<|fG pL gt)<|aR (cM 3<|eF<|fG yt<|aC (eF<|fG f9<|aC (eV 0)<|aC (eK<|.int 500)<|aC (eK<|.int 28) aN) na)<|aR (y9 4 eB<|Jm "Lean" gY<|eV 2)<|aR (g_ (dG<|e2 Ba (eV 2)<|eF<|fG pL gt) (fc zn) c8)<|aR (g_ (JZ [4] []<|vW (dG<|e2 Ba (eF<|qR "Lean" "waiting" gj<|eV 4) nb)<|dG<|e2 PQ (fQ "Lean" "is_over" gk (eV 4) aN) zn) (fc zn) c8)<|aR (my 2<|i8<|aC pi<|aC (eK<|.str<|af "zz") xz)<|aR (gU 2<|fG pL gt)<|aR (cM 5 nb)<|aR (jL (KD<|be iC No) (gN 6) El)<|fc cr)
def Hi:!D->↑D:=jN 1 14 abV
abbrev vZ:cH:=top 41
noncomputable abbrev WV:!aP:=["_law_script","_law_some","_law_question","_law_signs_here","_law_lean","_law_known","_law_k","_law_so_far","_law_nodes_here","_law_found","_law_told","_law_reached","_law_due","_law_waits"]
def X8(F:fX K "law" "law" vZ f z)(kk:KS K J)(YN:ur P w K J r "Lean" 98<|spT K eB gY)(adA:gP P w K J r "_law_names" 99<|gn K yu)(adD:gP P w K J r "_law_asked" 99<|vL K pL)(KO:gP P w K J r "_law_cells" 99<|vL K f9)(ady:gP P w K J r "_law_signs" 99<|vL K yt)(adz:gP P w K J r "_law_nodes" 99<|gn K jY)(M_:gP P w K J r "_law_answers" 99<|vL K wZ)(M9:gP P w K J r "_law_numbers" 99<|gn K oV)(adB:gP P w K J r "_law_hoped" 99<|gn K yv)(afx:gP P w K J r "_law_open" 99<|vL K ED)(adC:gP P w K J r "_law_depth" 99<|gn K yw)(WJ:dZ P w K J r "Lean" "take" 99<|uM K eB iK)(QL:dZ P w K J r "Lean" "waiting" 99<|vL K gj)(QM:dZ P w K J r "Lean" "is_over" 99<|gn K gk):b9 P w K J r fx 100 f z ["_law_script"]<|gn K Hi:=
 F.yh WV [2,4,9,13] [4,9,13] (by walk_at "s") λnd a a a s H a hr B hB=>
  (av Ŷ<|av (Lf (i:=2) nd W (.inr W) Ŷ) (av Ŷ<|av (Ld (i:=4) (s:=eB) nd W (.inl W) (RD (fk:=K1) YN hr W (dvo<|pv 2))) (av Ŷ<|av Ŷ<|av Ŷ<|av (Lf (i:=2) nd W (.inr W) Ŷ) (pB (own1:=[4,9,13]) 2 (av (D7 (i:=5) nd W (.inr W) Ŷ) (av (uf cJ W Ŷ (λB hB=>Ŷ)<|λB hB=>(av Ŷ<|av Ŷ<|av Ŷ<|av Ŷ<|av (kg (Lc [4,13] [9] []<|Jn<|AD<|dq<|Ll M9 hr W<|jf (vP 9)<|jf (df<|pE ["_law_one","_law_known"] [M,Y 5] (jR<|vP 10) λC s H ex=>Ŷ) qY) Ŷ fH)<|av (D7 (i:=5) nd W (.inr W) (vP 10)) (av Ŷ<|av (D7 (i:=11) nd W (.inr W) Ŷ) (av (GL (i:=12) (Ź:=[]) (N:=[("_law_at" : aP),("_law_known" : aP),("_law_reached" : aP),("_law_question" : aP)]) (src:=[M,Y 5,Y 11,Y 2]) (lE (outer:=bu vZ) (oN:=WV) W Ų W W) W nd W W Ŷ (jh 0) ſ (mI 0) (λC s H ex=>(hW (i:=0) (show ([("_law_at" : aP),("_law_known" : aP),("_law_reached" : aP),("_law_question" : aP)]:!aP).Nodup by decide +kernel) W (.inl W),(Lb Ŷ),(vP 0)))) (av Ŷ<|av Ŷ<|bW<|Y5<|pv 13))))) Ŷ))))))
end
end K21
namespace L2
open PySem PySem.Spec PyProof.Rows
theorem KZ{τ:BJ}{g:DG}(I:Nat->bL->Prop):∀(k:!D) (i:Nat) (a:bL),I i a->(∀j d a,k[j]?=Y d->I (i+j) a->∃f b,τ d a=Y f/\g f=Y (.nx b)/\I (i+j+1) b) ->
  ∃c,gB τ g k a=Y (.nx c)/\I (i+k.length) c
 |[],i,a,h,_=>(a,W,h)| d::k,i,a,h,st=>by
  let(f,b,q,p,n):=st 0 d a W h;obtain _:=KZ I k (i+1) b n λj d a l m=>by have:=st (j+1) d a (by trivial) Ž;rw[show i+(j+1)+1=i+1+j+1 by lia]at this;exact this
  grind [gB,aw]
def oK{τ:BJ}{g:DG}(I:Nat->bL->Prop){ds:!D}{ρ:bL}(i:I 0 ρ)(f:∀j d ρ,ds[j]?=Y d->I j ρ->∃b a,τ d ρ=Y b/\g b=Y (.nx a)/\I (j+1) a):∃c,gB τ g ds ρ=Y (.nx c)/\I ds.length c:=by
 have:=KZ I ds 0 ρ i λj d ρ h e=>by rw[jZ]at e ⊢;exact f j d ρ h e
 simp_all
def Lx{xs:!b}{z:Int}(d:0<=z)(c:z<xs.length):∃v,qa xs z=Y v/\v∈xs:=by
 let a:z.toNat<xs.length:=by simp_all
 refine(_,?_,mZ a)
 grind [dX]
def vy{xs:!Int}{z:Int}(h0:0<=z)(h1:z<xs.length):∃v,qa (xs.map D.int) z=Y (.int v):=by
 let(v,e,hm):=Lx h0 h1
 simp_all [Em]
def vx{xs:!aP}{z:Int}(h0:0<=z)(h1:z<xs.length):∃v,qa (xs.map D.str) z=Y (.str v)/\v∈xs:=by
 simp_all [Lx,Em]
def UL{n:Nat}{z:Int}(b:0<=z)(a:z<n):xU n z=Y z.toNat:=by unfold xU;rw[if_pos b,if_pos a]
def uR(h:(kT a n)[j]?=Y d):j<n/\d=.int (a+j):=by
 unfold kT at h;rw[aK]at h;let(k,q,h):=aj.1 h;cases h;let(c,b):=ah.mp q;have:=by simpa using b.symm
 subst this;exact(by simpa using c,W)
def mC(a:Int)(n:Nat):(kT a n).length=n:=by simp[kT]
theorem Dy{h:D->D}:∀ {b:!D},(∀d∈b,∃a,c d e=Y a/\g a=Y (h d))->rN e c gR g b=Y (b.map h)
 |[],_=>rfl|d::b,f=>by let(a,j,i):=f d az;unfold rN;rw[j];simp only[gR,aw,if_true,i];rw[Dy λd h=>f d<|by solve_by_elim];rfl
def jg:dQ=1000000:=rfl
def Zj(a:!b)(l h:↑Int):(CQ a l h).length<=a.length:=by
 unfold CQ;rw[j4,Hq];lia
def Ed(a:!b)(c:0<=k):CQ a M (Y k)=a.take k.toNat:=by
 unfold CQ HT.Ie
 grind
def GX(xs:!a)(b:0<=k):CQ xs (Y k) M=xs.drop k.toNat:=by
 unfold CQ HT.Ie;simp only[if_neg<|show ¬k<0 by simp_all];by_cases h:k.toNat<=xs.length
 .rw[JK h,List.take_of_length_le<|by simp]
 .rw[Nat.min_eq_right (by lia),Nat.sub_self,List.take_zero,V0<|by lia]
end L2
namespace K21
open PySem L2
structure vC where
 q:!D
 qd:D
 bits:Int
 nk:!ju
 nv:!D
 tk:!ju
 tv:!D
 d_:Int
 sy:Int
 inner:Int
 cG:!D
 asks:!D
noncomputable def gr(f:vC):D :=.ins "Facts" ["question","bits","by_name","by_text","starred","stars","inner","leads","asks"] [f.qd,.int f.bits,.i9 f.nk f.nv,.i9 f.tk f.tv,.int f.d_,.int f.sy,.int f.inner,.lst f.cG,.lst f.asks]
structure cy where
 number:Int
 named:Int
 atoms:Int
 fits:Int
 aJ:Int
 ra:Int
 dy:Int
 ha:Int
noncomputable abbrev rk:!aP:=["number","named","atoms","fits","reached","reached_around","hoped","hoped_around"]
noncomputable abbrev rl(r:cy):!D:=[.int r.number,.int r.named,.int r.atoms,.int r.fits,.int r.aJ,.int r.ra,.int r.dy,.int r.ha]
def dE(r:cy):D :=.ins "Row" rk<|rl r
structure nX where
 num:Int
 place:Int
 Z:Int
 around:Int
noncomputable def gy(r:nX):D :=.tup [.int r.num,.int r.place,.int r.Z,.int r.around]
structure jb where
 f:vC
 full:Int
 able:Int
 taken:Int
 opened:Int
 rows:!cy
 rests:!nX
noncomputable abbrev ck:!aP:=["facts","full","able","taken","opened","rows","rests"]
abbrev cl(c:jb):!D:=[gr c.f,.int c.full,.int c.able,.int c.taken,.int c.opened,.lst<|c.rows.map dE,.lst<|c.rests.map gy]
def cO(c:jb):D :=.ins "Coming" ck<|cl c
noncomputable abbrev bA:=uD
noncomputable abbrev bO:=eJ
noncomputable abbrev bN:=uC
def Ah(c:jb)(p a f:Int)(h:(bA (bO p<|bA a c.f.inner) f).natAbs<2 ^ 64):dR [cO c,.int p,.int a,.int f]=Y (.int<|bA (bO p<|bA a c.f.inner) f*2):=by
 let e:dR [cO c,.int p,.int a,.int f]=((r9 (.int<|bA (bO p<|bA a c.f.inner) f)<|.int 1).map DO.rt).bind Sh:=by kernel_rfl
 rw[e];simp only[r9];rw[if_pos (by solve_by_elim,by solve_by_elim,h)]
 exact Ÿ
def z8(h:0<n):xU n (-1)=Y (n-1):=by
 unfold xU
 grind
def z9{n k:Nat}(h:k<n):xU n (k:Int)=Y k:=by
 simp_all [xU,if_pos]
def RM(b:!a)(x:a):qa (b++[x]) (-1)=Y x:=by
 simp_all [qa,z8]
def tq{ρ':bL}(e:g a=Y (.nx ρ')):aR g h a=h ρ':=by unfold aR;rw[e];rfl
def kj{f:DF}{a:bL}{d:D}(e:f a=Y d):cM i f a=Y (.nx<|a.set i<|Y d):=by simp_all [cM]
def sq{ρ':bL}(e:g a=Y (.nx ρ'))(k:h ρ'=r):aR g h a=r:=(tq e).trans k
def mr{f:DF}{d:D}(e:f a=Y d)(k:h (a.set i<|Y d)=r):aR (cM i f) h a=r:=sq (kj e) k
def C5{f:DL}{l:!D}(e:f a=Y l)(k:h (a.set i<|Y<|.lst l)=r):aR (gU i f) h a=r:=sq (by unfold gU;rw[e];rfl) k
def bq{o:α->↑β}{x y:↑α}(e:y=x)(k:x.bind o=r):y.bind o=r:=e ▸ k
def gQ{f:DF}{b:Bool}(h:f a=Y (.bl b)):dG f a=Y b:=by unfold dG;rw[h];rfl
def hJ{f:DL}(e:f a=Y c):jL f b g a=gB b g c a:=by simp_all [jL]
def iF{t:DT}(h:t a=Y Z'):g_ t g k a=g a:=by simp_all [g_]
def oG{t:DT}(h:t a=Y Z_):g_ t g k a=k a:=by simp_all [g_]
def sL{g:DG}(h:t a=Y Z_):g_ t g c8 a=Y (.nx a):=oG h
def mu{g:DG}(e:t a=Y Z_)(k:h a=r):aR (g_ t g c8) h a=r:=sq (sL e) k
def G7{f g h:DF}{G:!D->↑D}(a:f ρ=Y x)(b:g ρ=Y y)(c:h ρ=Y z):be G (aC f<|aC g<|aC h aN) ρ=G [x,y,z]:=by unfold be aC;rw[a,b,c];rfl
def gW{g:DL}{ρ:bL}{l:!D}(h:g ρ=Y l):eF g ρ=Y (.lst l):=by simp_all [eF]
def cp{f:DF}(a:f c=Y x)(b:g c=Y y):e2 o f g c=o x y:=by simp_all [e2]
def C1{f:DF}{b:Bool}(h:f ρ=Y (.bl b)):eT f ρ=Y b:=by
 simp[eT,h]
def Ml{f:DF}{x y:aP}(h:f ρ=Y (.str x)):dG (e2 hU f<|eK<|.str y) ρ=Y (x==y):=gQ<|(cp h W).trans ź
def Fx{f:DF}{d:D}(e:f ρ=Y d):gV (mP f) ρ=Y (.rm d ρ):=by unfold gV mP;rw[e];rfl
def J5{f:DM}{d:D}(e:f ρ=Y (d,σ)):gV f ρ=Y (.rm d σ):=by unfold gV;rw[e];rfl
def B7{f:DL}{l:!D}(e:f ρ=Y l):mx f ρ=Y (.ro l):=by unfold mx;rw[e];rfl
def yW{f:DM}{d:D}(e:f ρ=Y (d,σ)):sE i f ρ=Y (.nx<|σ.set i<|Y d):=by unfold sE;rw[e];rfl
def aau{f:DM}{d:D}(e:f ρ=Y (d,σ)):jM f ρ=Y (.nx σ):=by unfold jM;rw[e];rfl
def Bj{f:DF}{b:Bool}(h:f ρ=Y (.bl b)):m5 (eT f) ρ=Y (not b):=by
 simp[m5,eT,h]
def wb{f:DF}{d:D}(e:f a=Y d):(fc f a).bind Sh=Y d:=by unfold fc;rw[e];rfl
def ly{t:DT}{f:DF}{d:D}{h:DG}(e:t a=Y Z')(k:f a=Y d):aR (g_ t (fc f) c8) h a=Y (.rt d):=by
 unfold aR;rw[iF e];unfold fc;rw[k];rfl
def RX{f g:DF}{b c:Bool}(h:f a=Y (.bl b))(k:b=Z'->g a=Y (.bl c)):Nj f g a=Y (.bl<|b&&c):=by
 unfold Nj;rw[gQ h];cases b with
 |true=>exact k W|false=>rfl
def uY{t u:DT}{x y:Bool}(h:t a=Y x)(g:u a=Y y):vW t u a=Y (x||y):=by
 unfold vW;rw[h,g];cases x<;>rfl
theorem Ej:1000000<=dQ:=by unfold dQ;decide
def fw{n:Nat}(h:n<2000):n<dQ:=bo (Nat.lt_trans h ſ) Ej
def lG{f:DF}{l:!D}{d:D}(b:eV i a=Y (.lst l))(n:l.length<dQ)(e:f a=Y d):my i f a=Y (.nx<|a.set i<|Y<|.lst<|l++[d]):=by
 unfold my gc;rw[b,e];exact if_pos n
def Gw{f:DF}{l:!D}{d:D}{b:Bool}(h:t a=Y b)(v:eV i a=Y (.lst l))(n:l.length<dQ)(e:b=Z'->f a=Y d):g_ t (my i f) c8 a=Y (.nx<|a.set i<|Y<|.lst<|l++if b then [d] else []):=by
 cases b with
 |true=>exact(iF h).trans (lG v n<|e W)|false=>rw[sL h];have:a[i]?=Y (Y<|.lst l):=Option.join_eq_some_iff.1 v;let(j,w):=ah.1 this;simp[<- w]
def kP{f:DF}{ρ':bL}{d:D}(r:Bc b c a=ρ')(e:f ρ'=Y d)(p:qF d=Z'):qU b c f a=Y d:=by simp_all [qU]
def vV{f:DT}{ρ':bL}(r:Bc c d a=ρ')(e:f ρ'=Y b):JZ c d f a=Y b:=by simp_all [JZ]
def kA{f:DL}{l r:!D}(e:f ρ=Y l)(n:l.length<=1000)(h:rN (ki s ρ) τ U g l=Y r):lU f s τ U g ρ=Y r:=by
 unfold lU;rw[e];exact(if_pos<|iW<|fw Ž).trans h
abbrev oC(c:jb):↑D:=Y<|.obj aT<|cO c
noncomputable abbrev dY(k:Nat):↑D:=Y<|.dY 0 [.fld "rows",.ix k]
def zH(c:jb)(b:nX)(r d:cy):nX:=
 let a:=bA (bO b.Z b.around/2) r.fits
 (b.num,b.place-1,bA (bA a<|bN c.f.inner) d.dy,bA (bO (bA a c.f.inner) b.around) d.ha)
def Mn{c:jb}(h:c.rows.getLast? = Y a):qa (c.rows.map dE) (-1)=Y (dE a):=by
 let(b,e):=N9.mp h
 simp_all [aY,RM]
def Dr(c:jb)(b:nX)(r a:cy)(h:c.rows.getLast? = Y a):gF [cO c,gy b,dE r]=Y (gy<|zH c b r a):=bq (mr (Mn h) W) ź
def vF{c:jb}{k:Nat}{r:cy}(a:c.rows[k]?=Y r):(c.rows.map dE)[k]?=Y (dE r):=by simp_all
abbrev sB:=iR []
def O2{c:jb}{k:Nat}(h:c.rows[k]?=Y r):Bx "Row" aT (cO c) [.fld "rows",.ix k]=Y ([],rk,rl r):=by
 unfold Bx;rw[show iR [.fld "rows",.ix k] (cO c)=((c.rows.map dE)[k]?).bind sB by kernel_rfl,vF h];exact ź
def O0{c:jb}{k:Nat}{q:cy}(h:c.rows[k]?=Y r):jF (dE q) [.fld "rows",.ix k] (cO c)=cO { c with rows:=c.rows.set k q }:=by
 have:jF (dE q) [.fld "rows",.ix k] (cO c)=D.ins "Coming" ck [gr c.f,D.int c.full,D.int c.able,D.int c.taken,D.int c.opened,(match (c.rows.map dE)[k]? with|none=>D.lst (c.rows.map dE)|some _=>D.lst<|(c.rows.map dE).set k<|dE q),D.lst<|c.rests.map gy]:=by kernel_rfl
 simp_all [cO,vJ]
def C9{c:jb}{k:Nat}{r:cy}{f:aP}{d:D}(h:c.rows[k]?=Y r)(m:eV 0 a=oC c)(i:eV j a=dY k)(l:e a=Y d)(g:D.ins "Row" (iN f d rk<|rl r).1 (iN f d rk<|rl r).2=dE q):
  fm Z' j "Row" f e a=Y (.nx<|a.set 0<|oC { c with rows:=c.rows.set k q }):=by
 unfold fm Kb yH;rw[l,i];simp;rw[m];simp;rw[O2 h];simp only[aw];rw[if_pos (W,by decide),g,O0 h]
def J7{c:jb}{k:Nat}{r q:cy}{f:aP}{m n:Int}(i:c.rows[k]?=Y r)(p:eV 0 a=oC c)(l:eV j a=dY k)(o:e a=Y (.int n))(h:(rk.zip<|rl r).lookup f=Y (.int m))(g:D.ins "Row" (iN f (.int<|b m n) rk<|rl r).1 (iN f (.int<|b m n) rk<|rl r).2=dE q):
  iA Z' j "Row" f b e a=Y (.nx<|a.set 0<|oC { c with rows:=c.rows.set k q }):=by
 unfold iA Kb yH;rw[o,l];simp;rw[p];simp;rw[O2 i];simp only[aw,h];rw[if_pos (W,by decide),g,O0 i]
def uq{c:jb}{n:Int}{k:Nat}(g:eV 0 a=oC c)(f:b a=Y (.int n))(d:xU c.rows.length n=Y k):sF i 0 "Coming" "rows" b a=Y (.nx<|a.set i<|dY k):=by
 let e:vY "Coming" "rows" 0 a=Y (oM,ck,cl c,D.lst<|c.rows.map dE):=by unfold vY yH;rw[g];exact ź
 unfold sF;rw[e,f];show (xU _ n).map _=_
 simp_all
structure VJ(f:vC)(fit lift:Int->Int->Int):Prop where
 fit:∀n a,eM [gr f,.int n,.int a]=some (.int<|fit n a)
 lift:∀n a,gm [gr f,.int n,.int a]=some (.int<|lift n a)
def xH(c b:Int->Int->Int)(p:Nat)(r d:cy)(a:!cy):!cy:=
 (a.set (p+1) { r with fits:=c r.named r.atoms }).set p { d with atoms:=bO d.atoms (b r.named r.atoms) }
def Wk{q:Nat}{x d l g:↑D}(n:c.rows[q]?=Y r):Bc [0] [3,5] [oC c,x,d,dY q,l,g]=[Y<|cO c,x,d,Y<|dE r,l,unA [oC c,x,d,dY q,l,g] g]:=by
 let s:Bc [0] [3,5] [oC c,x,d,dY q,l,g]=[Y<|cO c,x,d,((c.rows.map dE)[q]?).bind sB,l,unA [oC c,x,d,dY q,l,g] g]:=by kernel_rfl
 rw[s,vF n];rfl
def Fm(w:VJ c.f e a){p:Nat}{f:cy}(s:c.rows[p+1]?=Y r)(z:c.rows[p]?=Y f)(d A l g:↑D):
  ic [oC c,Y<|.int<|(p:Int)+1,d,A,l,g]=Y (.nx [oC { c with rows:=xH e a p r f c.rows },Y<|.int p,Y<|.bl<|bA (a r.named r.atoms) (bN f.atoms) != 0,dY<|p+1,Y<|.int<|a r.named r.atoms,dY p]):=by
 have v:p+1<c.rows.length:=(ah.mp s).1;refine sq (uq W W<|z9 v)<|sq (C9 (q:={ r with fits:=e r.named r.atoms }) s W W (kP (Wk s) (w.fit _ _) W) ź) ?_;generalize h:({ c with rows:=c.rows.set (p+1) { r with fits:=e r.named r.atoms } }:jb)=b;have u:b.f=c.f:=by rw[<- h]
 have m:b.rows[p+1]?=Y { r with fits:=e r.named r.atoms }:=by rw[<- h];simp[v]
 have k:b.rows[p]?=Y f:=by rw[<- h];simp only;rw[aq<|by simp];exact z
 have t:p<b.rows.length:=(ah.mp k).1;refine mr (kP (Wk m) (show gm [gr b.f,.int r.named,.int r.atoms]=_ from by rw[u];exact w.lift _ _) W)<|sq (ρ':=[oC b,Y<|.int p,d,dY<|p+1,Y<|.int<|a r.named r.atoms,g]) ?_ (sq (uq W W<|z9 t)<|mr (kP (ρ':=[Y<|cO b,Y<|.int p,d,Y<|dE { r with fits:=e r.named r.atoms },Y<|.int<|a r.named r.atoms,Y<|dE f]) ?_ (show Ba (.int<|bA (a r.named r.atoms)<|bN f.atoms) (.int 0)=_ from W) W) ?_)
 .show Y (DO.nx [_,Y<|.int<|(p:Int)+1-1,_,_,_,_])=_;rw[BO]
 .rw[show Bc [0] [3,5] _=[_,_,_,((b.rows.map dE)[p+1]?).bind sB,_,((b.rows.map dE)[p]?).bind sB] by kernel_rfl,vF m,vF k];rfl
 .rw[<- h]at k ⊢;exact(J7 k W W W W ź).trans W
def iZ(fit lift:Int->Int->Int):Bool->Nat->!cy->!cy
 | true,p+1,a=>match a[p+1]?,a[p]? with
  |some r,Y b=>iZ fit lift (bA (lift r.named r.atoms) (bN b.atoms) != 0) p (xH fit lift p r b a)|_,_=>a
 |_,_,a=>a
def uL:(xH fit lift p r b a).length=a.length:=by unfold xH;simp
theorem uK:∀(p n:Nat) (c:jb) (f:Bool) (d b a:↑D),VJ c.f fit lift->p<n->p<c.rows.length->∃v u j i g,
  jI (hV (eT<|eV 2) wE) ic n [oC c,Y<|.int p,Y<|.bl f,d,b,a]=Y (.nx [oC { c with rows:=iZ fit lift f p c.rows },v,u,j,i,g])
 |p,0,c,f,d,b,a,_,h,_=>by simp_all
 |0,n+1,c,f,d,b,a,k,h,o=>(Y<|.int 0,Y<|.bl f,d,b,a,by cases f<;>rfl)
 | p+1,n+1,c,f,d,b,a,k,h,o=>by
  cases f with
  |false=>exact(_,Y<|.bl Z_,d,b,a,W)|true=>let l:c.rows[p+1]?=Y c.rows[p+1]:=ai o;let m:c.rows[p]?=Y (c.rows[p]' Ž):=ai Ž;let(t,s,j,i,g,q):=uK p n { c with rows:=xH fit lift p c.rows[p+1] (c.rows[p]' Ž) c.rows } _ (dY<|p+1) _ (dY p) k Ż (by simp only[uL];lia);refine(t,s,j,i,g,?_);rw[jI,show hV (eT<|eV 2) wE [oC c,Y<|.int ((p+1:Nat):Int),Y<|.bl Z',d,b,a]=Y Z' from congrArg Y (decide_eq_true<|show (p:Int)+1 > 0 by simp)];refine f7 (show (ic [oC c,Y<|.int<|(p:Int)+1,Y<|.bl Z',d,b,a]).bind _=_ from bq (Fm k l m _ _ _ _) q) ?_;simp only[iZ,l,m]
def B5{c:jb}(b:VJ c.f fit lift)(e:0<c.rows.length)(d:c.rows.length<1000000):fB [cO c]=Y (.dC,cO { c with rows:=iZ fit lift Z' (c.rows.length-1) c.rows }):=by
 let(j,i,h,g,f,q):=uK (c.rows.length-1) 1000000 c Z' M M M b ž ž;refine bq (mr (show _=Y (.int (c.rows.length-1:Nat)) from (show _=Y (D.int<|(c.rows.map dE).length-1) by kernel_rfl).trans ŷ)<|mr W q) ź
def js(fit lift:Int->Int->Int)(c:jb)(atoms:Int)(r:cy):jb:=if bA atoms (bN r.atoms) != 0 then { c with rows:=iZ fit lift Z' (c.rows.length-1) (c.rows.set (c.rows.length-1) { r with atoms:=bO r.atoms atoms }) } else c
set_option tactic.hygienic true in
def Eu{c:jb}(j:VJ c.f fit lift){r:cy}(b:c.rows[c.rows.length-1]?=Y r)(i:c.rows.length<1000000)(atoms:Int):gH [cO c,.int atoms]=Y (.dC,cO<|js fit lift c atoms r):=by
 have f:0<c.rows.length:=by have:=(ah.mp b).1;lia
 refine bq (sq (uq W W<|z8 f) W) ?_;have a:Bc [0] [2] [oC c,Y<|.int atoms,dY<|c.rows.length-1]=[Y<|cO c,Y<|.int atoms,(c.rows.map dE)[c.rows.length-1]?.bind sB]:=ź
 rw[vF b]at a;have t:=vV (f:=eT kw) (b:=bA atoms (bN r.atoms) != 0) a ź;unfold js;split
 .rename_i e;have d:=B5 (c:={ c with rows:=c.rows.set (c.rows.length-1) { r with atoms:=bO r.atoms atoms } }) j (by simpa using f) (by simpa using i);simp only[kL]at d;refine bq ((iF<|t.trans<|by rw[e]).trans<|sq (J7 (q:={ r with atoms:=bO r.atoms atoms }) b W W W W ź) W) ?_;unfold jM;have g:∀G,cN "Coming" "spread" aT G 0 qJ [oC { c with rows:=c.rows.set (c.rows.length-1) { r with atoms:=bO r.atoms atoms } },Y<|.int atoms,dY<|c.rows.length-1]=(G [cO { c with rows:=c.rows.set (c.rows.length-1) { r with atoms:=bO r.atoms atoms } }]).map λq=>(q.1,[Y<|.obj aT q.2,Y<|.int atoms,M]):=by intro G;exact ź
  exact bq (congrArg (BM _)<|(g _).trans<|by rw[d]) ź
 .rename_i e;exact bq (oG<|t.trans<|by simpa using e) ź
def xo(b p a f:Int):Int:=bA (bO p<|bA a b) f*2
def n8(a:Int)(b r:cy):cy:={ r with aJ:=xo a b.aJ b.ra r.fits,ra:=bO b.ra (xo a b.aJ b.ra r.fits) }
abbrev DY(a b:Int)(c r:cy):Bool:=bA (bA (xo a c.aJ c.ra r.fits)<|bN r.aJ) b != 0
def Fz{p q:Nat}{x y l:↑D}(n:c.rows[q]?=Y r)(v:c.rows[p]?=Y a):Bc [0] [4,3] [oC c,x,y,dY p,dY q,l]=[Y<|cO c,x,y,Y<|dE a,Y<|dE r,l]:=by
 let s:Bc [0] [4,3] [oC c,x,y,dY p,dY q,l]=[Y<|cO c,x,y,((c.rows.map dE)[p]?).bind sB,((c.rows.map dE)[q]?).bind sB,l]:=by kernel_rfl
 rw[s,vF n,vF v];rfl
def Fn{p:Nat}(n:c.rows[p+1]?=Y r)(v:c.rows[p]?=Y a)(F:(bA (bO a.aJ<|bA a.ra c.f.inner) r.fits).natAbs<2 ^ 64)(b:!D)(y:b.length<dQ)(A z l:↑D):
  jW [oC c,Y<|.lst b,Y<|.int<|(p:Int)+1,A,z,l]=Y (.nx [oC { c with rows:=c.rows.set (p+1) (n8 c.f.inner a r) },Y<|.lst<|b++if DY c.f.inner c.full a r then [.int r.number] else [],Y<|.int<|(p:Int)+1,dY p,dY<|p+1,Y<|.int r.aJ]):=by
 have w:p+1<c.rows.length:=(ah.mp n).1;refine sq (uq W (show Y (D.int<|(p:Int)+1-1)=Y (.int p) by rw[BO])<|z9 Ž)<|sq (uq W W<|z9 w)<|mr (d :=.int r.aJ) (kP (Fz n v) ź W) (sq (C9 (q:={ r with aJ:=xo c.f.inner a.aJ a.ra r.fits }) n W W (kP (Fz n v) (Ah _ _ _ _ F) W) ź) ?_);generalize f:({ c with rows:=c.rows.set (p+1) { r with aJ:=xo c.f.inner a.aJ a.ra r.fits } }:jb)=g;have i:g.rows[p+1]?=Y { r with aJ:=xo c.f.inner a.aJ a.ra r.fits }:=by rw[<- f];simp[w]
 have j:g.rows[p]?=Y a:=by rw[<- f];simp only;rw[aq<|by simp];exact v
 refine sq (C9 (q:=n8 c.f.inner a r) (d :=.int<|bO a.ra<|xo c.f.inner a.aJ a.ra r.fits) i W W (kP (Fz i j) ź W) ź) ?_;rw[show ({ g with rows:=g.rows.set (p+1) (n8 c.f.inner a r) }:jb)={ c with rows:=c.rows.set (p+1) (n8 c.f.inner a r) } by rw[<- f];simp];generalize h:({ c with rows:=c.rows.set (p+1) (n8 c.f.inner a r) }:jb)=d;have t:d.rows[p+1]?=Y (n8 c.f.inner a r):=by rw[<- h];simp[w]
 have u:d.rows[p]?=Y a:=by rw[<- h];simp only;rw[aq<|by lia];exact v
 have x:c.full=d.full:=by rw[<- h]
 rw[x];exact Gw (vV (Fz t u) ź) W y λ_=>kP (Fz t u) ź W
def eZ(a:Int):cy->!cy->!cy
 |_,[]=>[]|pr,r::b=>n8 a pr r::eZ a (n8 a pr r) b
def nK(a b:Int):cy->!cy->!Int
 |_,[]=>[]|pr,r::c=>(if DY a b pr r then [r.number] else [])++nK a b (n8 a pr r) c
def SmL(a:Int):cy->!cy->Prop
 |_,[]=>True|pr,r::b=>(bA (bO pr.aJ<|bA pr.ra a) r.fits).natAbs<2 ^ 64/\SmL a (n8 a pr r) b
theorem y0(a:Int):∀(c:cy) (b:!cy),(eZ a c b).length=b.length
 |_,[]=>rfl|c,r::b=>by simp[eZ,y0 a _ b]
theorem F8(a b:Int):∀(d:cy) (c:!cy),(nK a b d c).length<=c.length
 |_,[]=>aF _|d,r::c=>by have:=F8 a b (n8 a d r) c;unfold nK;split<;>simp<;>solve_by_elim
def Mo(b:Int)(n:Nat):kT b (n+1)=.int b::kT (b+1) n:=by
 grind [kT,VY,dh]
def hI{ρ1:bL}(h:b d c=Y ρ1)(f:g ρ1=Y (.nx a)):gB b g (d::e) c=gB b g e a:=by
 simp_all [gB,aw]
theorem yY:∀(rs pre:!cy) (pr:cy) (c:jb) (ds:!D) (a2 a3 a4 a5:↑D),c.rows=pre++pr::rs->SmL c.f.inner pr rs->ds.length+rs.length<dQ->∃b2 b3 b4 b5,
  gB (gN 2) jW (kT ((pre.length:Int)+1) rs.length) [oC c,Y<|.lst ds,a2,a3,a4,a5]=Y (.nx [oC { c with rows:=pre++pr::eZ c.f.inner pr rs },Y<|.lst<|ds++(nK c.f.inner c.full pr rs).map D.int,b2,b3,b4,b5])
 |[],pre,pr,c,ds,a2,a3,a4,a5,e,h,hd=>by refine(a2,a3,a4,a5,?_);show Y (DO.nx _)=_;simp only[eZ,nK,List.map_nil,bZ,<- e]
 | r::rs,pre,pr,c,ds,a2,a3,a4,a5,e,h,hd=>by
  let hr:c.rows[pre.length+1]?=Y r:=by simp_all
  let hp:c.rows[pre.length]?=Y pr:=by simp_all
  simp only[bQ]at hd ⊢;let hb:=Fn hr hp h.1 ds Ž a3 a4 a5;rw[Mo,hI W hb];let(b2,b3,b4,b5,q):=yY rs (pre++[pr]) (n8 c.f.inner pr r) { c with rows:=c.rows.set (pre.length+1) (n8 c.f.inner pr r) } (ds++if DY c.f.inner c.full pr r then [.int r.number] else []) (Y<|.int<|(pre.length:Int)+1) (dY pre.length) (dY<|pre.length+1) (Y<|.int r.aJ) Ż h.2 (by split<;>simp<;>lia);refine(b2,b3,b4,b5,?_);simp only[aU,bQ,vM,Int.natCast_add,Int.natCast_one,Int.natCast_zero,Int.zero_add]at q;rw[q];rw[eZ,nK];simp only[bF,m3,dB,aY];have:(if DY c.f.inner c.full pr r=Z' then [D.int r.number] else [])=EF D.int (if DY c.f.inner c.full pr r=Z' then [r.number] else []):=by split<;>solve_by_elim
  rw[this]
def YD{f:DF}{i:Int}(c:f a=Y (.int i))(b:g a=Y (.int j))(h : -(2 ^ 62)<=i/\i<2 ^ 62 /\ -(2 ^ 62)<=j/\j<2 ^ 62):iR2 f g a=Y (kT i (j-i).toNat):=by
 simp_all [iR2,aw,if_pos]
def Mi(e:c.rows=t::a)(h:SmL c.f.inner t a)(m:a.length<1000000):jj [cO c]=Y ((nK c.f.inner c.full t a).map D.int,cO { c with rows:=t::eZ c.f.inner t a }):=by
 let(l,k,j,i,q):=yY a [] t c [] M M M M (by simpa using e) h (by grind [Ej,vM]);show (p6 [oC c,M,M,M,M,M]).bind (zi aT)=_;refine bq (C5 (l:=[]) W (sq (ρ':=[oC { c with rows:=t::eZ c.f.inner t a },Y<|.lst<|(nK c.f.inner c.full t a).map D.int,l,k,j,i]) ?_ W)) ź;unfold jL;rw[YD (i:=1) (j:=a.length+1) W ((show _=Y (D.int ((c.rows.map dE).length:Int)) by kernel_rfl).trans<|by simp_all) (by decide,by decide,by solve_by_elim,by lia)]
 simp_all
abbrev M5(r:cy)(a:nX):Bool:=bA r.aJ a.Z != 0||bA r.ra a.around != 0
def lB(a:!cy)(b:nX):Bool:=match a[b.place.toNat]? with|some r=>M5 r b|none=>Z_
abbrev PlO(a:!cy)(b:nX):Prop:=0<=b.place/\b.place<a.length
theorem Mc(h:PlO c.rows rs)(fs ks:!D)(hf:fs.length<dQ)(hk:ks.length<dQ)(a4:↑D):
  ∃b4,hR [oC c,Y<|.lst fs,Y<|.lst ks,Y<|gy rs,a4]=Y (.nx [oC c,Y<|.lst<|fs++if lB c.rows rs then [.int rs.num] else [],Y<|.lst<|ks++if lB c.rows rs then [] else [gy rs],Y<|gy rs,b4]):=by
 obtain⟨k,hk'⟩:∃k:Nat,rs.place=k:=(rs.place.toNat,Ž);have hl:k<c.rows.length:=by have:=h.2;simp_all
 let hr:=ai hl;generalize c.rows[k]=r at hr;rw[show lB c.rows rs=M5 r rs by unfold lB;rw[hk',bG,hr]];refine(dY k,sq (uq W (show Y (D.int rs.place)=Y (.int k) by rw[hk'])<|z9 hl) ?_);have q1:Bc [0] [4] [oC c,Y<|.lst fs,Y<|.lst ks,Y<|gy rs,dY k]=[Y<|cO c,Y<|.lst fs,Y<|.lst ks,Y<|gy rs,((c.rows.map dE)[k]?).bind sB]:=ź
 rw[vF hr]at q1;have q2:=vV (b:=M5 r rs) (f:=vW (eT pu)<|eT kt) q1 (uY ź ź);cases y:M5 r rs with
 |true=>exact((iF<|q2.trans<|by rw[y]).trans<|lG W hf W).trans ż
 |false=>exact((oG<|q2.trans<|by rw[y]).trans<|lG W hk W).trans ż
theorem EZ:∀(d:!nX) (c:jb) (g f:!D) (j i:↑D),(∀a∈d,PlO c.rows a)->g.length+d.length<dQ->f.length+d.length<dQ->∃l k,
  gB (gN 3) hR (d.map gy) [oC c,Y<|.lst g,Y<|.lst f,j,i]=Y (.nx [oC c,Y<|.lst<|g++(d.filter<|lB c.rows).map λa=>D.int a.num,Y<|.lst<|f++(d.filter λa=> (not<|lB c.rows a)).map gy,l,k])
 |[],c,g,f,j,i,h,n,m=>(j,i,by simp[gB])
 |a::d,c,g,f,j,i,h,n,m=>by let(b,p):=Mc (h a<|az ..) g f Ž Ž i;rw[bg,hI W p];let(l,k,q):=EZ d c (g++if lB c.rows a then [.int a.num] else []) (f++if lB c.rows a then [] else [gy a]) _ b (λy o=>h y<|ay _ o) ŷ ŷ;refine(l,k,q.trans ?_);cases e:lB c.rows a<;>simp[e]
theorem Ab:∀(a:!Int),Cf (a.map D.int)=Y a
 |[]=>rfl|n::a=>by simp[Cf,Ab a]
def yV{f:DF}(e:f b=Y (.lst<|a.map D.int))(h:a.length<64):wL f b=Y ((EJ a).map D.int):=by
 simp_all [wL,aw,Ab,if_pos]
def Md(c:jb)(rows:!cy):jb:={ c with rows:=rows,rests:=c.rests.filter λa=> (not<|lB rows a) }
def OP{F:!D->↑(!D×D)}(d:F [cO c]=Y (a,cO b)):ts 1 (Hr "Coming" "settle" aT F 0 [] aN) [oC c,M,M,M,M]=Y (.nx [oC b,Y<|.lst a,M,M,M]):=by
 have:Hr "Coming" "settle" aT F 0 [] aN [oC c,M,M,M,M]=(F [cO c]).map λr=>(r.1,[Y<|.obj aT r.2,M,M,M,M]):=by kernel_rfl
 unfold ts;rw[this,d];rfl
def Bq{c:jb}(e:c.rows=t::a)(h:SmL c.f.inner t a)(A:∀y∈c.rests,PlO c.rows y)(B:(nK c.f.inner c.full t a++(c.rests.filter<|lB<|t::eZ c.f.inner t a).map (·.num)).length<64)(F:a.length<64)(G:c.rests.length<1000):
  cY [cO c]=Y ((EJ (nK c.f.inner c.full t a++(c.rests.filter<|lB<|t::eZ c.f.inner t a).map (·.num))).map D.int,cO<|Md c<|t::eZ c.f.inner t a):=by
 let z:=Mi e h Ž;let C:=F8 c.f.inner c.full t a;generalize nK c.f.inner c.full t a=i at *
 generalize n:t::eZ c.f.inner t a=rows at *
 have o:rows.length=c.rows.length:=by rw[<- n,e];simp[y0]
 let(m,l,v):=EZ c.rests { c with rows:=rows } (i.map D.int) [] M M (λy x=>by have:=A y x;exact(this.1,by rw[o];exact this.2)) (fw<|by rw[ar];lia) (fw<|by rw[vM];lia);show (lQ [oC c,M,M,M,M]).bind (zi aT)=_;refine bq (sq (OP z) (C5 (l:=[]) W (sq v (sq (ρ':=[oC<|Md c rows,Y (.lst ((i++(c.rests.filter<|lB rows).map (·.num)).map D.int)),Y<|.lst<|(c.rests.filter λa=> (not<|lB rows a)).map gy,m,l]) ?_ W)))) ?_
 .rw[show (i++(c.rests.filter<|lB rows).map (·.num)).map D.int=i.map D.int++(c.rests.filter<|lB rows).map λa=>D.int a.num by simp[dh]];exact ź
 .unfold o9 mfP;rw[yV W B];exact ź
def Jf{r r':cy}{f:aP}{d:D}(h:eV i a=Y (dE r))(g:b a=Y d)(c:D.ins "Row" (iN f d rk<|rl r).1 (iN f d rk<|rl r).2=dE r'):ke i "Row" f b a=Y (.nx<|a.set i<|Y<|dE r'):=by
 let e:Gv "Row" i a=Y (rk,rl r):=by unfold Gv;rw[h];exact ź
 simp_all [ke,aw,if_pos]
def mQ(fit:Int->Int->Int)(c:jb)(d a b:Int)(e:cy):cy:=(d,a,b,fit a b,0,0,xo c.f.inner e.dy e.ha<|bA a c.able,bO e.ha<|xo c.f.inner e.dy e.ha<|bA a c.able)
def Us{m:Int}(h:c.rows.length<dQ):C7 0 4 "Coming" "rows" [oC c,Y<|.int n,Y<|.int m,Y<|.int k,Y<|dE r,dY j]=Y (.nx [oC { c with rows:=c.rows++[r] },Y<|.int n,Y<|.int m,Y<|.int k,M,M]):=by
 let e:vY "Coming" "rows" 0 [oC c,Y<|.int n,Y<|.int m,Y<|.int k,Y<|dE r,dY j]=Y (oM,ck,cl c,D.lst<|c.rows.map dE):=by kernel_rfl
 unfold C7;rw[e];let b:eV 4 [oC c,Y<|.int n,Y<|.int m,Y<|.int k,Y<|dE r,dY j]=Y (.ins _ rk _):=rfl;rw[b];simp only[aw];rw[if_pos (by solve_by_elim,by simp_all)];let a:c.rows.map dE++[D.ins "Row" rk<|rl r]=(c.rows++[r]).map dE:=by rw[aY];exact Ÿ
 rw[a];exact ź
def Ek{c:jb}(l:VJ c.f fit lift){pr:cy}(g:c.rows.getLast? = Y pr)(d a b:Int)(j:(bA (bO pr.dy<|bA pr.ha c.f.inner)<|bA a c.able).natAbs<2 ^ 64)(i:c.rows.length<dQ):
  gG [cO c,.int d,.int a,.int b]=Y (.dC,cO { c with rows:=c.rows++[mQ fit c d a b pr] }):=by
 let k:0<c.rows.length:=by cases h:c.rows<;>simp_all
 let f:c.rows[c.rows.length-1]?=Y pr:=by rw[<- N_];exact g
 have e:∀x,Bc [0] [5] [oC c,Y<|.int d,Y<|.int a,Y<|.int b,Y<|dE x,dY<|c.rows.length-1]=[Y<|cO c,Y<|.int d,Y<|.int a,Y<|.int b,Y<|dE x,Y<|dE pr]:=λx=>by rw[show Bc [0] [5] [oC c,Y<|.int d,Y<|.int a,Y<|.int b,Y<|dE x,dY<|c.rows.length-1]=[Y<|cO c,Y<|.int d,Y<|.int a,Y<|.int b,Y<|dE x,((c.rows.map dE)[c.rows.length-1]?).bind sB] by kernel_rfl,vF f];rfl
 show (mK [oC c,Y<|.int d,Y<|.int a,Y<|.int b,M,M]).bind (Mz aT)=_;exact bq (mr (d:=dE (d,a,b,0,0,0,0,0)) ź (sq (uq W W<|z8 k)<|sq (Jf (r':=(d,a,b,fit a b,0,0,0,0)) W (kP (e _) (l.fit _ _) W) ź) (sq (Jf (r':=(d,a,b,fit a b,0,0,xo c.f.inner pr.dy pr.ha<|bA a c.able,0)) W (kP (e _) (Ah _ _ _ _ j) W) ź) (sq (Jf (r':=mQ fit c d a b pr) (d :=.int<|bO pr.ha<|xo c.f.inner pr.dy pr.ha<|bA a c.able) W (kP (e _) ź W) ź) (Us i))))) ź
abbrev V4(a:Int)(r:cy):Bool:=bA (bA r.dy<|bN r.aJ) a != 0
theorem BR(c:jb):∀(b:!cy) (a:!D) (d:↑D),a.length+b.length<dQ->∃f,
  gB (gN 2) kC (b.map dE) [Y<|cO c,Y<|.lst a,d]=Y (.nx [Y<|cO c,Y<|.lst<|a++(b.filter<|V4 c.full).map λr=>D.int r.number,f])
 |[],a,d,_=>(d,by simp[gB])
 |r::b,a,d,h=>by simp at h;rw[bg,hI W<|show kC _=_ from Gw (b:=V4 c.full r) (by kernel_rfl) W (by lia) λ_=>rfl];let(f,q):=BR c b (a++if V4 _ r then [.int _] else []) _ ŷ;refine(f,q.trans ?_);cases e:V4 _ r<;>simp[e]
def xC(c:jb):!Int:=c.rests.map (·.num)++(c.rows.filter<|V4 c.full).map (·.number)
theorem Kv:∀(a:!nX),rN [M] (gN 0) gR (e2 cw (eV 0) f8) (a.map gy)=Y ((a.map (·.num)).map D.int)
 |[]=>rfl|x::a=>by rw[bg,rN];rw[Kv a];rfl
def ER(c:jb)(l:c.rests.length<=1000)(k:c.rows.length<=500)(i:(xC c).length<64):iM [cO c]=Y ((EJ<|xC c).map D.int):=by
 let(j,g):=BR c c.rows ((c.rests.map (·.num)).map D.int) M<|fw ŷ;rw[show (c.rests.map (·.num)).map D.int++(c.rows.filter<|V4 c.full).map (λr=>D.int r.number)=(xC c).map D.int by unfold xC;simp[dh]]at g;show (qP [Y<|cO c,M,M]).bind MB=_;refine bq (C5 (l:=(c.rests.map nX.num).map D.int) ?_ (sq ((hJ W).trans g) W)) ?_
 .show (if (c.rests.map gy).length<=dQ then _ else M)=_;rw[if_pos<|by grind [Ej]];exact Kv _
 .unfold mx;rw[yV W i];rfl
def Xp{p:Nat}(h:p<=1000):r9 (.int 1) (.int (p:Int))=Y (.int<|2 ^ p):=by
 simp only[r9]
 grind
noncomputable def M1(x:nX):!nX->!nX
 |[]=>[x]|y::b=>if x.num<y.num then x::y::b else y::M1 x b
noncomputable def xG:!nX->!nX
 |[]=>[]|x::b=>M1 x<|xG b
theorem Cg(x:nX):∀l,(M1 x l).Perm (x::l)
 |[] =>.rfl| y::b=>by
  unfold M1;split
  .exact .rfl
  .exact((Cg x b).cons y).trans<|.swap x y b
theorem ma:∀l,(xG l).Perm l
 |[] =>.rfl|x::b=>(Cg x _).trans<|(ma b).cons x
theorem Qu(x:nX):∀l:!nX,Gu Yw (gy x) (l.map gy)=(M1 x l).map gy
 |[]=>rfl| y::b=>by
  unfold M1;show (if x.num<y.num then _ else _)=_;split
  .rfl
  .rw[Qu x b];rfl
theorem OG:∀l:!nX,Mg Yw (l.map gy)=(xG l).map gy
 |[]=>rfl|x::b=>by rw[bg,Mg,OG b,Qu];rfl
abbrev oR(r:cy):↑D:=Y<|dE r
noncomputable abbrev ng(m:nX):Bool:=m.Z != 0||m.around != 0
def zF(c:jb)(b:Nat)(r pr:cy)(m:nX):nX:=if m.place=b then zH c m r pr else m
set_option tactic.hygienic true in
def Rg{r:cy}(hp:c.rows.getLast? = Y pr)(m:nX)(place:Nat)(xs ks:!D)(hk:ks.length<dQ)(a6:↑D):∃b6,
  gD [oC c,oR r,Y<|.int place,Y<|.lst xs,Y<|.lst ks,Y<|gy m,a6]=Y (.nx [oC c,oR r,Y<|.int place,Y<|.lst xs,Y<|.lst<|ks++if ng (zF c place r pr m) then [gy<|zF c place r pr m] else [],Y<|gy m,b6]):=by
 refine(Y<|gy<|zF c place r pr m,mr (d:=gy<|zF c place r pr m) (kP (ρ':=[Y<|cO c,oR r,Y<|.int place,Y<|.lst xs,Y<|.lst ks,Y<|gy m,a6]) ź ?_ ź) (Gw (uY ź ź) W hk λ_=>rfl));have q:∀G,fQ "Coming" "moved_out" G (eV 0) (aC (eV 5) na) [Y<|cO c,oR r,Y<|.int place,Y<|.lst xs,Y<|.lst ks,Y<|gy m,a6]=G [cO c,gy m,dE r]:=λG=>by kernel_rfl
 show (if decide (m.place=place)=Z' then _ else Y (gy m))=_;unfold zF;split
 .rename_i h;rw[if_pos<|of_decide_eq_true h];exact(q _).trans<|Dr c m r pr hp
 .rename_i h;rw[if_neg<|by simpa using h]
theorem K'{r:cy}(s:c.rows.getLast? = Y k)(f:Nat)(j:!D):∀(l:!nX) (g:!D) (n i:↑D),g.length+l.length<dQ->∃p o,
  gB (gN 5) gD (l.map gy) [oC c,oR r,Y<|.int f,Y<|.lst j,Y<|.lst g,n,i]=Y (.nx [oC c,oR r,Y<|.int f,Y<|.lst j,Y<|.lst<|g++((l.map<|zF c f r k).filter ng).map gy,p,o])
 |[],g,n,i,h=>(n,i,by simp[gB])
 |m::l,g,n,i,h=>by simp at h;let(b,t):=Rg s m f j g Ž i;rw[bg,hI W t];let(p,o,q):=K' s f j l (g++if ng _ then [gy _] else []) _ b (by split<;>simp<;>lia);refine(p,o,q.trans ?_);cases e:ng _<;>simp[HB,e]
noncomputable def cz(c:jb):jb:={ c with rows:=c.rows.dropLast }
def kZ(b:jb)(r:cy):!nX:=b.rests++if bA r.aJ b.full != 0 then [] else [nX.mk r.number (b.rows.length:Int) b.full 0]
def AA(c:jb)(r b:cy):jb:={ cz c with rests:=((xG<|kZ (cz c) r).map<|zF (cz c) (cz c).rows.length r b).filter ng }
def OL{f:DF}{ρ:bL}(e:f ρ=Y (.lst<|b.map gy))(c:(b.map (·.num)).Nodup)(g:b.length<64):Av f ρ=Y ((xG b).map gy):=by
 unfold Av;rw[e];simp only[aw];rw[if_pos ((by simp[l6,dh,isK,gy],by rw[j3];exact c),by simp_all),OG]
def XJ(b:c.rows.getLast? = Y r):Fq 1 0 "Coming" "rows" [oC c,M,M,M,M,M,M]=Y (.nx [oC { c with rows:=c.rows.dropLast },oR r,M,M,M,M,M]):=by
 let e:vY "Coming" "rows" 0 [oC c,M,M,M,M,M,M]=Y (oM,ck,cl c,D.lst<|c.rows.map dE):=by kernel_rfl
 unfold Fq;rw[e];simp only[aw];let f:(c.rows.map dE).getLast? = Y (.ins "Row" rk<|rl r):=by rw[List.getLast?_map,b];exact Ÿ
 rw[f,<- List.map_dropLast];exact ź
def Jl{c:jb}(hr:c.rows.getLast? = Y r)(hp:(cz c).rows.getLast? = Y pr)(hn:((kZ (cz c) r).map (·.num)).Nodup)(hl:(kZ (cz c) r).length<64):
  iV [cO c]=Y (.dC,cO<|AA c r pr):=by
 have hlr:(cz c).rests.length<64:=by unfold kZ at hl;rw[aU]at hl;omega
 let(b5,b6,q5):=K' (r:=r) hp (cz c).rows.length ((kZ (cz c) r).map gy) (xG<|kZ (cz c) r) [] M M (fw<|by rw[(ma _).length_eq];simp;lia);show (oI [oC c,M,M,M,M,M,M]).bind (Mz aT)=_;refine bq (sq (ρ':=[oC<|cz c,oR r,M,M,M,M,M]) (XJ hr) (mr (d :=.int (cz c).rows.length) ((show _=Y (D.int (((cz c).rows.map dE).length:Int)) by kernel_rfl).trans<|by rw[ar]) (C5 (l:=(cz c).rests.map gy) ź (sq (ρ':=[oC<|cz c,oR r,Y<|.int ((cz c).rows.length:Int),Y<|.lst<|(kZ (cz c) r).map gy,M,M,M]) ?_ (C5 (l:=[]) W (sq ((show jL (iL<|eF<|Av<|eV 3) (gN 5) gD _=_ by unfold jL iL eF;rw[OL W hn hl];rfl).trans q5) W)))))) ź;refine(Gw (b:= (not (bA r.aJ (cz c).full != 0))) (d:=gy<|nX.mk r.number ((cz c).rows.length:Int) (cz c).full 0) ź W (fw<|by rw[ar];lia) λ_=>ź).trans ?_;unfold kZ;cases bA r.aJ (cz c).full != 0<;>simp
inductive me
 |op (n:aP)
 |tx (t:aP)
 |cl
noncomputable def i7:me->D
 |.op n =>.tup [.str<|af "open",.str n]|.tx t =>.tup [.str<|af "text",.str t]|.cl =>.tup [.str<|af "close"]
noncomputable def acw(s:me)(w b:Bool):Bool:=match s with|.op _=>w || (not b)|_=>w
def Zm(s:me)(w b:Bool):mU [i7 s,.bl w,.bl b]=Y (.bl<|acw s w b):=by
 cases s<;>cases w<;>cases b<;>kernel_rfl
abbrev QP(c:jb)(s:me):Bool:=acw s (decide (1<c.rows.length))<|decide (0<c.opened)
def Ar{s:me}(h:QP c s=Z'):mU [i7 s,.bl<|decide (((c.rows.map dE).length:Int) > 1),.bl<|decide (c.opened > 0)]=Y (.bl Z'):=by
 rw[Zm,show decide (((c.rows.map dE).length:Int) > 1)=decide (1<c.rows.length) by grind];exact congrArg (Y ∘ D.bl) h
noncomputable def dN(c:jb):jb:={ c with taken:=c.taken+1 }
def Dt{f:DF}{d:D}{l:!D}(h:f ρ=Y d)(k:g ρ=Y (l,ρ)):mV (mP f) g ρ=Y (d::l,ρ):=by
 unfold mV mP;rw[h];simp[k]
def yi{F:!D->↑(D×D)}{m:aP}{s:me}{l:!D}(b:m∉ck)(e:g [oC c,Y<|i7 s]=Y (l,[oC c,Y<|i7 s]))(h:F (cO c::l)=Y (d,cO a)):jM (cN "Coming" m aT F 0 g) [oC c,Y<|i7 s]=Y (.nx [oC a,Y<|i7 s]):=by
 have:cN "Coming" m aT F 0 g [oC c,Y<|i7 s]=if (("Coming" : aP) = "Coming" /\("Coming" : aP) = "Coming")/\m∉ck then (g [oC c,Y<|i7 s]).bind _ else none:=rfl
 unfold jM;rw[this,if_pos ((W,W),b),e];simp only[aw];rw[show oZ aT 0 [oC c,Y<|i7 s]=Y (cO c) by kernel_rfl];simp only[aw,h];cases s<;>rfl
noncomputable def Bw:me->Bool|.op _=>Z'|_=>Z_
noncomputable def Gr:me->Bool|.cl=>Z'|_=>Z_
def Vz{f:DF}{s:me}(h:f ρ=Y (i7 s)):dG (e2 hU (e2 cw f f8) Re) ρ=Y (Gr s):=by
 unfold dG e2;rw[h];cases s<;>kernel_rfl
def Pn{f:DF}{s:me}(h:f ρ=Y (i7 s)):dG (e2 hU (e2 cw f f8) Sc) ρ=Y (Bw s):=by
 unfold dG e2;rw[h];cases s<;>kernel_rfl
def Xs(e:g b=Y (.rf d a)):aR g h b=Y (.rf d a):=by unfold aR;rw[e];rfl
def Ji(h:QP c .cl=Z')(d:c.rows.getLast? = Y r)(e:(cz c).rows.getLast? = Y pr)(f:((kZ (cz c) r).map (·.num)).Nodup)(g:(kZ (cz c) r).length<64):
  eS [cO c,i7 .cl]=Y ([],cO<|AA (dN c) r pr):=by
 show (kI [oC c,Y _]).bind _=_;exact bq (mu (vV W<|Bj (b:=Z') ((G7 W W W).trans<|Ar h)) (sq (ρ':=[oC<|dN c,Y<|i7 .cl]) W (Xs<|(iF<|Vz (s :=.cl) W).trans (sq (yi ſ W<|Jl (c:=dN c) d e f g) W)))) ź
structure FSt(f:vC)(stp txt:aP->Int):Prop where
 stp:∀n,fN [gr f,.str n]=some (.int<|stp n)
 txt:∀t,fM [gr f,.str t]=some (.int<|txt t)
def Tj{F:!D->↑D}:qU [0] [] (fQ "Facts" "steps_for" F (cn "Coming" "facts"<|eV 0) wp) [oC c,Y<|i7<|.op n]=(F [gr c.f,.str n]).bind λd=>if qF d=Z' then Y d else none:=by kernel_rfl
def Ta{F:!D->↑D}:qU [0] [] (fQ "Facts" "text_fact" F (cn "Coming" "facts"<|eV 0) wp) [oC c,Y<|i7<|.tx n]=(F [gr c.f,.str n]).bind λd=>if qF d=Z' then Y d else none:=by kernel_rfl
def Cp{F:!D->↑(!D×D)}{s:me}(h:F [cO c]=Y (d,cO a)):(o9 (Hr "Coming" "newly_told" aT F 0 [] aN) [oC c,Y<|i7 s]).bind (zi aT)=Y (d,cO a):=by
 have:Hr "Coming" "newly_told" aT F 0 [] aN [oC c,Y<|i7 s]=(F [cO c]).map λr=>(r.1,[Y<|.obj aT r.2,Y<|i7 s]):=by cases s<;>kernel_rfl
 unfold o9;rw[this,h];exact ź
def Pl(fit lift:Int->Int->Int)(c:jb)(b:Int)(pr:cy):jb:=
 let a:=c.rows++[mQ fit c c.opened b 0 pr]
 { c with opened:=c.opened+1,rows:=iZ fit lift Z' (a.length-1) a }
def Ng{f:aP->Int}(q:VJ c.f fit lift)(v:FSt c.f a f)(t:QP c (.op n)=Z')(s:c.rows.getLast? = Y pr)(u:(bA (bO pr.dy<|bA pr.ha c.f.inner)<|bA (a n) c.able).natAbs<2 ^ 64)(w:c.rows.length<1000)(r:cY [cO<|Pl fit lift (dN c) (a n) pr]=Y (d,cO p)):eS [cO c,i7<|.op n]=Y (d,cO p):=by
 show (kI [oC c,Y<|i7<|.op n]).bind (zi aT)=_;exact bq (mu (vV W<|Bj (b:=Z') ((G7 W W W).trans<|Ar t)) (sq (ρ':=[oC<|dN c,Y<|i7<|.op n]) W (mu (Vz (s :=.op n) W) (sq ((iF<|Pn (s :=.op n) W).trans (sq (yi ſ (Dt W<|Dt (Tj.trans<|by rw[show fN [gr (dN c).f,.str n]=_ from v.stp n];rfl)<|Dt W W)<|Ek (c:=dN c) (lift:=lift) q s c.opened (a n) 0 u (fw<|by show c.rows.length<2000;lia)) (sq (ρ':=[oC { dN c with opened:=(dN c).opened+1,rows:=(dN c).rows++[mQ fit (dN c) c.opened (a n) 0 pr] },Y<|i7<|.op n]) ź (yi ſ W<|B5 q ż<|by simp[dN];lia)))) W)))) (Cp r)
def Nf{f:aP->Int}(o:VJ c.f fit lift)(n:FSt c.f f a)(m:QP c (.tx t)=Z')(l:c.rows[c.rows.length-1]?=Y r)(p:c.rows.length<1000)(k:cY [cO<|js fit lift (dN c) (a t) r]=Y (d,cO j)):eS [cO c,i7<|.tx t]=Y (d,cO j):=by
 show (kI [oC c,Y _]).bind (zi aT)=_;exact bq (mu (vV W<|Bj (b:=Z') ((G7 W W W).trans<|Ar m)) (sq (ρ':=[oC<|dN c,Y<|i7<|.tx t]) W (mu (Vz (s :=.tx t) W) (sq ((oG<|Pn (s :=.tx t) W).trans (yi ſ (Dt (Ta.trans<|by rw[show fM [gr (dN c).f,.str t]=_ from n.txt t];rfl) W)<|Eu (c:=dN c) o l (by show c.rows.length<1000000;lia) (a t))) W)))) (Cp k)
def gx(c:jb):D :=.ins "Lean" ["coming"] [cO c]
abbrev oN(c:jb):↑D:=Y<|.obj eB<|gx c
theorem ze:∀a:!Int,pk (a.map D.int)=Z'
 |[]=>rfl|n::a=>by rw[bg,pk,ze a];rfl
def Tf{l:!D}{s:me}(h:eS [cO c,i7 s]=Y (l,cO d)):iK [gx c,i7 s]=Y (l,gx d):=by
 have e:∀F:!D->↑(!D×D),Hr "Coming" "feed" eB F 0 [.fld "coming"] na [oN c,Y<|i7 s]=(F [cO c,i7 s]).map λr=>(r.1,[Y<|.obj eB<|.ins "Lean" ["coming"] [r.2],Y<|i7 s]):=λF=>by cases s<;>kernel_rfl
 show (qO [oN c,Y<|i7 s]).bind (zi eB)=_;unfold qO o9;rw[e,h];exact ź
def yz(c:jb)(h:iM [cO c]=Y l):gj [gx c]=Y l:=by
 let e:∀F,qR "Coming" "waits" F (cn "Lean" "coming"<|eV 0) [Y<|gx c]=F [cO c]:=by solve_by_elim
 show (mJ [Y _]).bind _=_;unfold mJ mx;rw[e,h];rfl
def Kg(c:jb):gk [gx c]=Y (.bl<|decide (0<c.opened)&&decide (c.rows.length=1)):=by
 have e:∀F:!D->↑D,fQ "Coming" "has_ended" F (cn "Lean" "coming"<|eV 0) aN [Y<|gx c]=F [cO c]:=by intro F;exact ź
 refine bq (congrArg (BM _)<|(e _).trans<|wb<|RX (b:=decide (0<c.opened)) (c:=decide (c.rows.length=1)) ź λ_=>(show _=Y (D.bl<|((c.rows.map dE).length:Int)==1) by kernel_rfl).trans ?_) W;rw[ar,show ((c.rows.length:Int)==1)=decide (c.rows.length=1) by rw[d9];simp;lia]
def rE:Nat->D->Prop
 |0,_=>False|n+1,d=>∃a e,d=.tup [.int a,.lst e]/\0<=a/\e.length<=1000/\∀c∈e,∃b,c=.lst b/\b.length<=1000/\∀x∈b,rE n x
def mW:Nat->D->Int->Bool
 |n+1,.tup [.int b,.lst e],a=>(bA a b==b)&&e.all λc=>match c with|.lst d=>d.any λx=>mW n x a|_=>Z_
 |_,_,_=>Z_
def IG:mW (n+1) (.tup [.int b,.lst e]) a=((bA a b==b)&&e.all λc=>match c with|.lst d=>d.any λx=>mW n x a|_=>Z_):=rfl
def JF{a:!i}{f:i->Bool}:hZ Z' [.lst<|a.map λd =>.bl<|f d]=Y (.bl<|a.all f):=by
 simp only[hZ];simp[if_pos,l6,dh,UN,x8]
def RT{a:!i}{f:i->Bool}:hZ Z_ [.lst<|a.map λd =>.bl<|f d]=Y (.bl<|a.any f):=by
 simp only[hZ];rw[if_pos<|by simp[l6,dh,UN]];simp[pO,dh,x8]
def um{f:DL}(e:f a=Y b):be G (aC (eF f) aN) a=G [.lst b]:=by
 unfold be aC eF;rw[e];rfl
def P_{F:!D->↑D}(f:b.length<=1000)(h:∀x∈b,F [x,.int a]=Y (.bl<|g x)):
  be (hZ Z_) (aC (eF<|lU (iL<|eV 0) [M,Y 1] (gN 0) gR<|be F gt) aN) [Y<|.lst b,Y<|.int a]=Y (.bl<|b.any g):=by
 refine(um (b:=b.map λx =>.bl<|g x) ?_).trans RT;exact kA W f<|Dy λd c=>(_,W,h d c)
theorem Gg:∀(n m:Nat) (d:D) (a:Int),n<=m->rE n d->jX m [d,.int a]=Y (.bl<|mW n d a)
 |0,_,_,_,_,h=>h.elim|n+1,0,_,_,hm,_=>by trivial
 | n+1,m+1,d,a,hm,h=>by
  let(sk,cs,rfl,hn,hl,hc):=h;show (yk (jX m) [Y<|.tup [.int sk,.lst cs],Y<|.int a]).bind Sh=_;let ih:=λx hx=>Gg n m x a Ż hx
  generalize jX m=F at *
  simp only[IG];cases hx:(bA a sk==sk) with
  |false=>exact bq (ly (show Y (not (bA a sk==sk))=_ by rw[hx];rfl) W) W
  |true=>refine bq (mu (show Y (not (bA a sk==sk))=_ by rw[hx];rfl) W) (wb ((um (b:=cs.map λc =>.bl (match c with|.lst xs=>xs.any λx=>mW n x a|_=>Z_)) ?_).trans JF));refine kA W hl<|Dy λc hcc=>([Y c,Y<|.int a],W,?_);let(xs,rfl,hxl,hxs):=hc c hcc;exact P_ hxl λx hx=>ih x<|hxs x hx
def Dv(n:Nat)(named atoms:Int)(b:Int):!(Int×D)->Int
 |[]=>b|(a,ask)::r=>Dv n named atoms (if bA named a != 0&&mW n ask atoms then bO b a else b) r
noncomputable def ldD(p:Int×D):D :=.tup [.int p.1,p.2]
def Kl{d:D}{a:Int}(b:n<=12)(h:rE n d):vD [d,.int a]=Y (.bl<|mW n d a):=Gg n 12 d a b h
def Lq{F:!D->↑D}{x:Int}{d:D}{a:Int}{f:DF}(k:eT e c=Y (x != 0))(i:f c=Y d)(h:g c=Y (.int a))(j:F [d,.int a]=Y (.bl b)):hV (eT e) (eT<|be F<|aC f<|aC g aN) c=Y (x != 0&&b):=by
 let l:eT (be F<|aC f<|aC g aN) c=Y b:=by unfold eT be aC;rw[i,h];show (F _).bind _=_;rw[j];rfl
 unfold hV;rw[k,l];cases x != 0<;>rfl
theorem Gk(k:n<=12)(self:D)(b a:Int):∀(e:!(Int×D)) (d:Int) (g f:↑D),(∀p∈e,rE n p.2)->∃j i,
  gB (Jc 4 5) iT (e.map ldD) [Y self,Y<|.int b,Y<|.int a,Y<|.int d,g,f]=Y (.nx [Y self,Y<|.int b,Y<|.int a,Y<|.int<|Dv n b a d e,j,i])
 |[],d,g,f,_=>(g,f,W)| (c,ask)::e,d,g,f,h=>by
  let o:iT [Y self,Y<|.int b,Y<|.int a,Y<|.int d,Y<|.int c,Y ask]=Y (.nx [Y self,Y<|.int b,Y<|.int a,Y<|.int<|if bA b c != 0&&mW n ask a then bO d c else d,Y<|.int c,Y ask]):=by unfold iT g_;rw[Lq W W W<|Kl (a:=a) k (h _ az ..)];cases bA b c != 0&&mW n ask a<;>solve_by_elim
  rw[bg,hI W o];obtain _:=Gk k _ b a e _ _ _<|λp l=>h p Ÿ
  exact Ÿ
def MQ{f:vC}{n:Nat}(g:n<=12)(e:f.cG=c.map ldD)(h:∀p∈c,rE n p.2)(b a:Int):gm [gr f,.int b,.int a]=Y (.int<|Dv n b a (bA a f.inner) c):=by
 let(j,i,q):=Gk g (gr f) b a c (bA a f.inner) M M h;exact bq (mr ź<|sq ((hJ<|(show _=Y f.cG by kernel_rfl).trans<|congrArg Y e).trans q) W) W
def BD(n:Nat)(named atoms:Int):Nat->Int->!D->Int
 |_,a,[]=>a|k,a,ask::r=>BD n named atoms (k+1) (if bA named (2 ^ k) != 0&&mW n ask atoms then bO a (2 ^ k) else a) r
theorem K2(m:n<=12)(self:D)(b a:Int):∀(e:!D) (k:Nat) (c:Int) (g f d:↑D),(∀p∈e,rE n p)->k+e.length<=1000->∃l j i,
  gB (Jc 4 5) jV ((e.zipIdx k).map λp =>.tup [.int (p.2:Nat),p.1]) [Y self,Y<|.int b,Y<|.int a,Y<|.int c,g,f,d]=Y (.nx [Y self,Y<|.int b,Y<|.int a,Y<|.int<|BD n b a k c e,l,j,i])
 |[],k,c,g,f,d,_,_=>(g,f,d,W)| ask::e,k,c,g,f,d,h,s=>by
  simp at s;let r:=Kl (a:=a) m (h _<|az ..);let t:jV [Y self,Y<|.int b,Y<|.int a,Y<|.int c,Y<|.int k,Y ask,d]=Y (.nx [Y self,Y<|.int b,Y<|.int a,Y<|.int<|if bA b (2 ^ k) != 0&&mW n ask a then bO c (2 ^ k) else c,Y<|.int k,Y ask,Y<|.int<|2 ^ k]):=by refine mr (Xp Ž) ?_;unfold g_;rw[Lq W W W r];cases (bA b _ != 0&&mW n ask a)<;>rfl
  rw[uA,bg,hI W t];let(l,j,i,q):=K2 m self b a e (k+1) _ _ _ _ (λp o=>h p Ÿ) Ž;exact(l,j,i,q.trans W)
def Jg{f:vC}{n:Nat}(d:n<=12)(h:∀p∈f.asks,rE n p)(e:f.asks.length<=1000)(a b:Int):eM [gr f,.int a,.int b]=Y (.int<|BD n a b 0 0 f.asks):=by
 let(j,i,g,q):=K2 d (gr f) a b _ 0 0 M M M h Ż;exact bq (mr W<|sq ((hJ W).trans q) W) W
end K21
namespace K30
open PySem L2
mutual
inductive Ak where
 |mk (sk:Nat) (cs:Cs)
inductive Cs where
 |nil
 |cons (c:As) (r:Cs)
inductive As where
 |nil
 |cons (x:Ak) (r:As)
end
def Sb(a b:Nat):Prop:=∀i,a.testBit i=Z'->b.testBit i=Z'
def Sb.trans{a b c:Nat}(h:Sb a b)(g:Sb b c):Sb a c:=λi e=>g i<|h i e
def Sb.or{a b c:Nat}(h:Sb a c)(g:Sb b c):Sb (a ||| b) c:=λi e=>by
 rw[iu,bx]at e;exact e.elim (h i)<|g i
def Sb.inl(a b:Nat):Sb a<|a ||| b:=λi e=>by simp_all
def Sb.inr(a b:Nat):Sb b<|a ||| b:=λi e=>by simp_all
def Sb.zero(a:Nat):Sb 0 a:=λi e=>by simp at e
mutual
def xy(a:Nat):Ak->Prop
 |.mk n cs=>Sb n a/\vB a cs
def vB(a:Nat):Cs->Prop
 |.nil=>True|.cons c r=>Hg a c/\vB a r
def Hg(a:Nat):As->Prop
 |.nil=>False|.cons x r=>xy a x\/Hg a r
end
mutual
def In1(i:Nat):Ak->Prop
 |.mk n cs=>n.testBit i=Z'\/InC i cs
def InC(i:Nat):Cs->Prop
 |.nil=>False|.cons c r=>InS i c\/InC i r
def InS(i:Nat):As->Prop
 |.nil=>False|.cons x r=>In1 i x\/InS i r
end
structure Fa where
 inner:Nat
 star:Nat
 named:aP->Nat
 text:aP->Nat
 mark:Nat
 cG:!(Nat×Ak)
 fresh:aP
 long:Nat
open Classical in
def lift(F:Fa)(nm a:Nat):Nat:=F.cG.foldl (λu l=>if nm.testBit l.1=Z'/\xy a l.2 then u ||| 2 ^ l.1 else u)<|a &&& F.inner
open Classical in
theorem Gy(nm a i:Nat):∀(L:!(Nat×Ak)) (u:Nat),(L.foldl (λu l=>if nm.testBit l.1=Z'/\xy a l.2 then u ||| 2 ^ l.1 else u) u).testBit i=Z'↔u.testBit i=Z'\/∃l∈L,l.1=i/\nm.testBit i=Z'/\xy a l.2
 |[],u=>by simp
 | l::L,u=>by
  rw[List.foldl_cons,Gy nm a i L];by_cases h:nm.testBit l.1=Z'/\xy a l.2
  .rw[if_pos h,iu,bx,A6,decide_eq_true_eq];constructor
   .rintro((z|z)|⟨m,hm,r⟩)
    .exact .inl z
    .subst z;exact .inr (l,Ÿ,W,h)
    .exact .inr (m,Ÿ,r)
   .rintro(z|⟨m,hm,e,r⟩)
    .exact .inl<|.inl z
    .obtain rfl|hm:=aG.mp hm
     .exact .inl<|.inr e
     .exact .inr (m,hm,e,r)
  .rw[if_neg h];constructor
   .rintro(z|⟨m,hm,r⟩)
    .exact .inl z
    .exact .inr (m,Ÿ,r)
   .rintro(z|⟨m,hm,e,r⟩)
    .exact .inl z
    .obtain rfl|hm:=aG.mp hm
     .subst e;exact absurd r h
     .exact .inr (m,hm,e,r)
def zU{F:Fa}{nm a i:Nat}:(lift F nm a).testBit i=Z'↔(a.testBit i=Z'/\F.inner.testBit i=Z')\/∃l∈F.cG,l.1=i/\nm.testBit i=Z'/\xy a l.2:=by
 unfold lift;rw[Gy,oX,ax]
set_option genSizeOfSpec true in
inductive Tr where
 |txt (t:aP)
 |mk
 |nd (n:aP) (f:!Tr)
mutual
def tA(F:Fa):Tr->Nat
 |.txt t=>F.text t|.mk=>F.mark|.nd n f=>lift F (F.named n)<|fA F f
def fA(F:Fa):!Tr->Nat
 |[]=>0|t::f=>tA F t ||| fA F f
end
theorem Jk{F:Fa}{t:Tr}:∀ {f:!Tr},t∈f->Sb (tA F t) (fA F f)
 | s::f,h=>by
  rw[fA];obtain rfl|h:=aG.mp h
  .exact .inl _ _
  .exact(Jk h).trans<|.inr _ _
theorem D4{F:Fa}{i:Nat}:∀ {f:!Tr},(fA F f).testBit i=Z'↔∃t∈f,(tA F t).testBit i=Z'
 |[]=>by simp[fA]
 |s::f=>by rw[fA,iu,bx,D4];simp
set_option genSizeOfSpec true in
mutual
inductive Wi where
 |any
 |txt (t:aP)
 |has (s:Ss)
 |both (w:Ws)
 |one (w:Ws)
inductive Ws where
 |nil
 |cons (w:Wi) (r:Ws)
inductive Ss where
 |nil
 |cons (Cj:Bool) (nm:↑aP) (w:Wi) (r:Ss)
end
def iD:↑aP->aP->Prop
 |none,_=>True|some a,b=>a=b
inductive WX:Bool->aP->!Tr->!Tr->Prop
 |Z {b:Bool}{n:aP}{g f:!Tr}:Tr.nd n g∈f->WX b n g f
 |Cj {n m:aP}{g h f:!Tr}:Tr.nd m h∈f->WX true n g h->WX true n g f
mutual
def nN:Wi->!Tr->Prop
 |.any,_=>True|.txt t,f=>Tr.txt t∈f|.has s,f=>wY (λ_=>True) s f
 |.both w,f=>xw w f|.one w,f=>xu w f
def xw:Ws->!Tr->Prop
 |.nil,_=>True|.cons w r,f=>nN w f/\xw r f
def xu:Ws->!Tr->Prop
 |.nil,_=>False|.cons w r,f=>nN w f\/xu r f
def wY(E:!Tr->Prop):Ss->!Tr->Prop
 |.nil,f=>E f|.cons b nm w r,f=>∃n g,WX b n g f/\iD nm n/\nN w g/\wY E r g
end
noncomputable def Cs.app:Cs->Cs->Cs
 |.nil,b=>b|.cons c r,b =>.cons c<|r.app b
noncomputable def fW:As->Ak
 |.nil =>.mk 0 .nil|.cons (.mk n c) r=>match fW r with|.mk m d =>.mk (n ||| m)<|c.app d
structure Ey(F:Fa)(t:aP)(j:Nat):Prop where
 Cj:F.inner.testBit j=false
 led:∀l∈F.cG,l.1≠j
 mark:F.mark.testBit j=false
 text:∀s,(F.text s).testBit j=true↔s=t
structure R4(F:Fa)(b:Bool)(nm:↑aP)(j:Nat)(k:Ak):Prop where
 Cj:F.inner.testBit j=b
 name:∀n,(F.named n).testBit j=true↔iD nm n
 led:(j,k)∈F.cG
 uniq:∀l∈F.cG,l.1=j->l=(j,k)
 mark:F.mark.testBit j=false
 text:∀s,(F.text s).testBit j=false
mutual
def VL(F:Fa):Wi->Ak->Prop
 |.any,k=>k=.mk 0 .nil|.txt t,k=>∃j,k=.mk (2 ^ j) .nil/\Ey F t j|.has s,k=>∃j,k=.mk (2 ^ j) .nil/\Ez F 0 s j|.both w,k=>∃ks,CO F w ks/\k=fW ks|.one w,k=>∃ks,CO F w ks/\k=.mk 0 (.cons ks .nil)
def CO(F:Fa):Ws->As->Prop
 |.nil,k=>k=.nil|.cons w r,k=>∃x y,VL F w x/\CO F r y/\k=.cons x y
def Ez(F:Fa)(e:Nat):Ss->Nat->Prop
 |.nil,_=>False|.cons b nm w r,j=>∃sk cs SA,VL F w (.mk sk cs)/\R4 F b nm j (.mk (sk ||| SA) cs)/\(r=.nil/\SA=e\/Ez F e r (j+1)/\SA=2 ^ (j+1))
end
def acQ(F:Fa)(e:Nat)(E:!Tr->Prop):Prop:=∀f,Sb e (fA F f)↔E f
def PF(F:Fa)(f:!Tr):Prop:=∀e E s j,Ez F e s j->acQ F e E->((fA F f).testBit j=Z'↔wY E s f)
def Ic{j a:Nat}:Sb (2 ^ j) a↔a.testBit j=true:=by
 constructor
 .exact λh=>h j ż
 .intro h i e
  grind
theorem Wd{a b c:Nat}:Sb (a ||| b) c↔Sb a c/\Sb b c:=(λh=>((Sb.inl _ _).trans h,(Sb.inr _ _).trans h),λh=>h.1.or h.2)
def afF(F:Fa):acQ F 0<|λ_=>True:=λf=>(λ_=>trivial,λ_ =>.zero _)
def Ox{F:Fa}{t:aP}{j:Nat}(h:Ey F t j)(f:!Tr):(fA F f).testBit j=Z'↔Tr.txt t∈f:=by
 rw[D4];constructor
 .rintro⟨x,hx,e⟩;cases x with
  |txt s=>rw[tA,h.text]at e;simp_all|mk=>rw[tA,h.mark]at e;cases e|nd n g=>
   rw[tA,zU,h.Cj]at e;obtain⟨_,z⟩|⟨l,hl,z,_⟩:=e
   .cases z
   .exact absurd z<|h.led l hl
 .exact λhx=>(_,hx,by rw[tA,h.text])
theorem Gf{a:Nat}:∀(c d:Cs),vB a (c.app d)↔vB a c/\vB a d
 |.nil,d=>by simp[Cs.app,vB]
 |.cons x r,d=>by simp only[Cs.app,vB,Gf r d,and_assoc]
def P7{a:Nat}{x:Ak}{r:As}:xy a (fW<|.cons x r)↔xy a x/\xy a (fW r):=by
 let(n,c):=x
 grind [fW,xy,Wd,Gf]
mutual
theorem AQ{F:Fa}{f:!Tr}(P:PF F f):∀(w:Wi) (k:Ak),VL F w k->(xy (fA F f) k↔nN w f)
 |.any,k,h=>by let h:k=.mk 0 _:=h;simp_all [xy,vB,nN,Sb]
 |.txt t,k,(j,e,h)=>by subst e;simp only[xy,vB,nN,and_true,Ic];exact Ox h f
 |.has s,k,(j,e,h)=>by subst e;simp only[xy,vB,nN,and_true,Ic];exact P 0 _ s j h<|afF F
 |.both w,k,(ks,h,e)=>by subst e;exact WT P w ks h
 |.one w,k,(ks,h,e)=>by subst e;simp only[xy,vB,and_true,nN];exact(λz=>(RN P w ks h).mp z.2,λz=>(.zero _,(RN P w ks h).mpr z))
theorem WT{F:Fa}{f:!Tr}(P:PF F f):∀(w:Ws) (k:As),CO F w k->(xy (fA F f) (fW k)↔xw w f)
 |.nil,k,h=>by let h:k=.nil:=h;simp_all [fW,xy,vB,xw,Sb]
 |.cons w r,k,(x,y,a,b,e)=>by subst e;rw[P7,AQ P w x a,WT P r y b];rfl
theorem RN{F:Fa}{f:!Tr}(P:PF F f):∀(w:Ws) (k:As),CO F w k->(Hg (fA F f) k↔xu w f)
 |.nil,k,h=>by let h:k=.nil:=h;simp_all [Hg,xu]
 |.cons w r,k,(x,y,a,b,e)=>by subst e;rw[Hg,AQ P w x a,RN P r y b];rfl
end
def MR{E:!Tr->Prop}{b:Bool}{nm:↑aP}{w:Wi}{r:Ss}{f:!Tr}:wY E (.cons b nm w r) f↔∃m h,Tr.nd m h∈f/\((iD nm m/\nN w h/\wY E r h)\/(b=Z'/\wY E (.cons b nm w r) h)):=by
 constructor
 .rintro⟨n,g,k,l⟩;cases k with
  |Z m=>exact(n,g,m,.inl l)|@Cj _ m _ h _ e k=>exact(m,h,e,.inr (W,n,g,k,l))
 .rintro⟨m,h,e,l|⟨rfl,n,g,k,l⟩⟩
  .exact(m,h,.Z e,l)
  .exact(n,g,.Cj e k,l)
def Fb{F:Fa}{f:!Tr}(ih:∀n g,Tr.nd n g∈f->PF F g):PF F f:=by
 intro e E s j h he;cases s with
 |nil=>exact h.elim|cons b nm w r=>
  let h0:=h;let(sk,cs,SA,ha,hs,hf):=h;rw[D4,MR];have key:∀n g,Tr.nd n g∈f->((tA F<|.nd n g).testBit j=Z'↔(iD nm n/\nN w g/\wY E r g\/(b=Z'/\wY E _ g))):=λn g m=>by
   let P:=ih n g m;rw[tA,zU,hs.Cj,P e E _ j h0 he];let afB:Sb SA (fA F g)↔wY E r g:=by
    obtain⟨rfl,rfl⟩|⟨hr,rfl⟩:=hf
    .exact he g
    .rw[Ic];exact Ÿ
   have met:xy (fA F g) (.mk (sk ||| SA) cs)↔nN w g/\wY E r g:=by
    rw[<- AQ P w _ ha]
    grind [xy,Wd]
   constructor
   .rintro(⟨a,b⟩|⟨l,hl,z,a,c⟩)
    .exact .inr (b,a)
    .have:=hs.uniq l hl z;subst this;exact .inl ((hs.name n).mp a,met.mp c)
   .rintro(⟨a,c⟩|⟨a,c⟩)
    .exact .inr (_,hs.led,W,(hs.name n).mpr a,met.mpr c)
    .exact .inl (c,a)
  constructor
  .rintro⟨x,hx,z⟩;cases x with
   |txt s=>rw[tA,hs.text]at z;cases z|mk=>rw[tA,hs.mark]at z;cases z|nd n g=>exact(n,g,hx,Ż)
  .rintro⟨n,g,hx,z⟩;exact(_,hx,Ż)
theorem yX{n:aP}{g:!Tr}:∀ {f:!Tr},Tr.nd n g∈f->sizeOf g<sizeOf f
 | x::f,h=>by
  obtain rfl|h:=aG.mp h
  .simp;lia
  .have:=yX h;simp;lia
theorem Pb(F:Fa):∀(m:Nat) (f:!Tr),sizeOf f<=m->PF F f
 |0,f,h=>Fb λn g e=>by have:=yX e;simp_all
 |m+1,f,h=>Fb λn g e=>Pb F m g (by have:=yX e;lia)
end K30
namespace L2
open PySem
def YE{f:DF}(e:f ρ=Y (.int z))(h : -(2 ^ 62)<=z/\z<2 ^ 62):KD f ρ=Y (kT 0 z.toNat):=by
 simp only[KD,e,aw];rw[if_pos h]
def Vw(h:ip a 179=Z'):iX (.lst a) 180=true:=by solve_by_elim
end L2
namespace K21
open PySem L2 K30
def RL(a b:Nat):bA (a:Int) (b:Int)=((a &&& b:Nat):Int):=by
 exact Ÿ
def uo(a b:Nat):bO (a:Int) (b:Int)=((a ||| b:Nat):Int):=by
 unfold bO;rw[PyProof.Rows.bitOr_and,show uD a _=_ from RL a b]
 grind [LW]
def rg{f:DF}{d:D}(e:f a=Y d):be G (aC f aN) a=G [d]:=by unfold be aC;rw[e];rfl
theorem qI:∀(n:Nat) (l:!Nat),l.Nodup->(∀x∈l,x<n)->l.length<=n
 | 0,l,h,g=>by
  cases l with
  |nil=>solve_by_elim|cons x l=>exact absurd (g x Ÿ) ż
 | n+1,l,h,g=>by
  by_cases m:n∈l
  .have:=qI n _ (h.erase n) λx hx=>by grind
   simp_all
  .have:=qI n l h λx hx=>by grind
   omega
noncomputable abbrev kS(x:String):D :=.str<|af x
noncomputable def jl(b:Bool):aP:=if b then af "inner" else af "own"
noncomputable def jC:↑aP->aP
 |none=>af "*"|some n=>n
mutual
def rH:Wi->D
 |.any =>.tup [kS "any"]|.txt t =>.tup [kS "text",.str t]|.has s =>.tup [kS "has",.lst<|gS s]|.both w =>.tup [kS "both",.lst<|vK w]|.one w =>.tup [kS "one",.lst<|vK w]
def vK:Ws->!D
 |.nil=>[]|.cons w r=>rH w::vK r
def gS:Ss->!D
 |.nil=>[]|.cons b nm w r =>.tup [.str<|jl b,.str<|jC nm,rH w]::gS r
end
mutual
def NmW:Wi->Prop
 |.any=>True|.txt _=>True|.has s=>EB s|.both w=>NmA w|.one w=>NmA w
def NmA:Ws->Prop
 |.nil=>True|.cons w r=>NmW w/\NmA r
def EB:Ss->Prop
 |.nil=>True|.cons _ nm w r=>nm≠Y (af "*")/\NmW w/\EB r
end
mutual
noncomputable def j6:Wi->Nat
 |.any=>1|.txt _=>1|.has s=>1+oO s|.both w=>1+BG w|.one w=>1+BG w
noncomputable def BG:Ws->Nat
 |.nil=>0|.cons w r=>max (j6 w)<|BG r
noncomputable def oO:Ss->Nat
 |.nil=>1|.cons _ _ w r=>max (1+j6 w)<|oO r
end
def Ls{f g:DF}{d e:D}(h:f a=Y d)(k:g a=Y e):be G (aC f<|aC g aN) a=G [d,e]:=by unfold be aC;rw[h,k];rfl
theorem D_:∀s:Ss,1<=oO s
 |.nil=>by simp[oO]
 |.cons _ _ w r=>by grind [oO]
def aaV{n:Nat}{p:Int}(e:p=n)(h:n<=1000):r9 (.int 1) (.int p)=Y (.int<|2 ^ n):=by
 subst e;simp only[r9]
 grind
structure FB where
 q:!D
 bits:Nat
 nk:!ju
 nv:!D
 tk:!ju
 tv:!D
 d_:Int
 sy:Int
 inner:Int
 cG:!D
noncomputable abbrev fbk:!aP:=["question","bits","by_name","by_text","starred","stars","inner","leads"]
def dz(s:FB):D :=.ins "Facts" fbk [.lst s.q,.int (s.bits:Nat),.i9 s.nk s.nv,.i9 s.tk s.tv,.int s.d_,.int s.sy,.int s.inner,.lst s.cG]
abbrev oF(s:FB):↑D:=Y<|.obj aM<|dz s
def zu(s:FB)(h:s.bits<=999):fy [dz s]=Y (.int<|2 ^ s.bits,dz { s with bits:=s.bits+1 }):=
 bq (sq (ρ':=[oF { s with bits:=s.bits+1 }]) ź (Fx<|kP W ((cp W W).trans<|aaV (n:=s.bits) ż ž) W)) ź
def kX{F:!D->↑(D×D)}{m:aP}{ρ1:bL}{s s1 b:FB}{args:!D}(c:m∉fbk)(i:eV j a=oF s)(e:g a=Y (args,ρ1))(f:eV j ρ1=oF s1)(h:F (dz s1::args)=Y (d,dz b)):
  cN "Facts" m aM F j g a=Y (d,(c4 j ρ1).set j<|oF b):=by
 let l:yH j a=Y (aM,dz s):=by unfold yH;rw[i]
 let k:oZ aM j ρ1=Y (dz s1):=by unfold oZ yH;rw[f];exact ź
 unfold cN;rw[l];show (if _ then _ else _)=_;rw[if_pos ((W,W),c),e];simp only[aw,k,h];rfl
noncomputable abbrev stD(a b:aP)(w:D):D :=.tup [.str a,.str b,w]
def Li{f:aP}{h:DM}{e:DF}{d y:D}{k:ju}{ρ σ:bL}{ks:!ju}{vs l:!D}(a:h ρ=Y (d,σ))(q:vY "Facts" f 0 σ=Y (vn,fbk,l,.i9 ks vs))(b:e σ=Y y)(c:DA y=Y k)(n:ks.length<dQ)(z:Sk.SE (cX vn f) .di=Z'):y_ 0 "Facts" f e h ρ=Y (.nx<|(c4 0 σ).set 0<|Y<|Dg "Facts" f vn fbk l<|.i9 (lD k d ks vs).1 (lD k d ks vs).2):=by
 simp only[y_,a,q,b,c,aw];exact if_pos (z,n)
def mj(s:FB)(N8 nm:aP)(i:Int):FB:=
 let b:Int:=2 ^ s.bits
 let s1:FB:={ s with bits:=s.bits+1,inner:=if N8=af "inner" then bO s.inner b else s.inner }
 if nm=af "*" then { s1 with d_:=bO s.d_ b,sy:=s.sy+1 } else { s1 with nk:=(lD (b_ nm) (.int<|bO i b) s.nk s.nv).1,nv:=(lD (b_ nm) (.int<|bO i b) s.nk s.nv).2 }
def BF{s:FB}(h:s.bits<=999)(hk:s.nk.length<=s.bits)(N8 nm:aP)(w:D){i:Int}(hi:(bX s.nk s.nv<|b_ nm).getD (.int 0)=.int i):e8 [dz s,stD N8 nm w]=Y (.int<|2 ^ s.bits,dz<|mj s N8 nm i):=by
 refine bq (sq (yW<|kX ſ W W W<|zu s h)<|sq (ρ':=[oF { s with bits:=s.bits+1,inner:=if N8=af "inner" then bO s.inner (2 ^ s.bits) else s.inner },Y<|stD N8 nm w,Y<|.int<|2 ^ s.bits]) ?_ (sq (ρ':=[oF<|mj s N8 nm i,Y<|stD N8 nm w,Y<|.int<|2 ^ s.bits]) ?_ W)) ź
 .have e:=Ml (f:=e2 cw (eV 1) f8) (ρ:=[oF { s with bits:=s.bits+1 },Y<|stD N8 nm w,Y<|.int<|2 ^ s.bits]) (y:=af "inner") W;by_cases z:N8=af "inner"
  .rw[if_pos z];exact(iF<|e.trans<|by simp[z]).trans ź
  .rw[if_neg z];exact sL<|e.trans (by simp[z])
 .have e:=Ml (f:=e2 cw (eV 1) u8) (ρ:=[oF { s with bits:=s.bits+1,inner:=if N8=af "inner" then bO s.inner (2 ^ s.bits) else s.inner },Y<|stD N8 nm w,Y<|.int<|2 ^ s.bits]) (y:=af "*") W;unfold mj;by_cases z:nm=af "*"
  .refine(iF<|e.trans<|by simp[z]).trans ?_;simp only[if_pos z];exact ź
  .refine(oG<|e.trans<|by simp[z]).trans ((Li (ks:=s.nk) (d :=.int<|bO i<|2 ^ s.bits) (congrArg (BM λd=>gJ d _)<|kP W ?_ W) W W W (fw Ž) W).trans ?_)
   .exact(show _=NX ((bX s.nk s.nv _).getD<|.int 0) _ from W).trans (by rw[hi];rfl)
   .simp only[if_neg z];exact ź
inductive ka where
 |st (b:Bool) (nm:↑aP)
 |tx (t:aP)
 |mk
mutual
noncomputable def Hs:Ak->D
 |.mk n cs =>.tup [.int (n:Nat),.lst<|yo cs]
noncomputable def yo:Cs->!D
 |.nil=>[]|.cons c r =>.lst (qb c)::yo r
noncomputable def qb:As->!D
 |.nil=>[]|.cons x r=>Hs x::qb r
end
noncomputable def ldK(l:Nat×Ak):D :=.tup [.int<|(2:Int) ^ l.1,Hs l.2]
structure GI(s:FB)(tb:!ka)(L:!(Nat×Ak)):Prop where
 bits:s.bits=tb.length
 inner:∃m:Nat,s.inner=(m:Int)/\∀i,m.testBit i=true↔∃nm,tb[i]?=some (ka.st true nm)
 star:∃m:Nat,s.d_=(m:Int)/\∀i,m.testBit i=true↔∃b,tb[i]?=some (ka.st b none)
 name:∀n,∃m:Nat,(bX s.nk s.nv<|b_ n).getD (.int 0)=.int (m:Int)/\∀i,m.testBit i=true↔∃b,tb[i]?=some (ka.st b<|some n)
 nkv:s.nk.length=s.nv.length
 nkl:s.nk.length<=s.bits
 text:∀t,(bX s.tk s.tv (b_ t)=none/\∀i:Nat,tb[i]? ≠ some (ka.tx t))\/∃j,bX s.tk s.tv (b_ t)=some (.int<|2 ^ j)/\∀i,tb[i]?=some (ka.tx t)↔i=j
 ZT:s.tk.length=s.tv.length
 tkl:s.tk.length<=s.bits
 cG:s.cG=L.map ldK
 lnd:(L.map (·.1)).Nodup
 lst:∀l∈L,∃b nm,tb[l.1]?=some (ka.st b nm)
 few:L.length<=s.bits
def jD{k k':ju}{x:D}{a:!ju}{b:!D}:bX (k'::a) (x::b) k=if k'=k then Y x else bX a b k:=by
 unfold bX;by_cases h:k'=k
 .simp[h]
 .simp[h]
theorem Kn{k k':ju}{d:D}:∀ {a:!ju}{b:!D},a.length=b.length->bX a (vI (λq x=>if q=k then d else x) a b) k'=(bX a b k').map λx=>if k'=k then d else x
 |[],[],_=>by trivial
 |q::a,[],h=>by simp at h
 |[],x::b,h=>by simp at h
 | q::a,x::b,h=>by
  rw[VX,jD,jD];by_cases e:q=k'
  .subst e;simp
  .simp only[if_neg e];exact Kn Ż
theorem zS{k k':ju}{d:D}:∀ {a:!ju}{b:!D},a.length=b.length->bX (a++[k]) (b++[d]) k'=match bX a b k' with|some x=>Y x|none=>if k=k' then Y d else M
 |[],[],_=>by simp[dB,jD,bX]
 |q::a,[],h=>by simp at h
 |[],x::b,h=>by simp at h
 | q::a,x::b,h=>by
  rw[m3,m3,jD,jD];by_cases e:q=k'
  .simp[e]
  .simp only[if_neg e];exact zS Ż
theorem zR{k:ju}:∀ {a:!ju}{b:!D},a.length=b.length->(bX a b k=M↔k∉a)
 |[],[],_=>by simp[bX]
 |q::a,[],h=>by simp at h
 |[],x::b,h=>by simp at h
 | q::a,x::b,h=>by
  rw[jD];by_cases e:q=k
  .subst e;simp
  .rw[if_neg e,zR<|by simp_all];simp[bw e]
def MN{k k':ju}{d:D}{a:!ju}{b:!D}(h:a.length=b.length):bX (lD k d a b).1 (lD k d a b).2 k'=if k'=k then Y d else bX a b k':=by
 unfold lD;by_cases z:(a.any λq=>decide (q=k))=Z'
 .rw[if_pos z,Kn h];let hk:=by simpa using z
  by_cases e:k'=k
  .subst e;cases q:bX a b k' with
   |none=>exact absurd hk ((zR h).mp q)|some x=>simp
  simp_all
 .rw[if_neg z,zS h];let hk:=by simpa using z
  by_cases e:k'=k
  .subst e;simp[(zR h).mpr hk]
  lia
def Rr{k:ju}{d:D}{a:!ju}{b:!D}(h:a.length=b.length):(lD k d a b).1.length=(lD k d a b).2.length/\(lD k d a b).1.length<=a.length+1:=by
 unfold lD;split<;>simp[h]
def Io{m n i:Nat}:(m ||| 2 ^ n).testBit i=Z'↔m.testBit i=Z'\/i=n:=by
 rw[iu,bx,A6,decide_eq_true_eq];exact or_congr e_ eq_comm
def cC{α:Type}{l:!α}{x y:α}{i:Nat}:(l++[x])[i]?=Y y↔l[i]?=Y y\/(i=l.length/\x=y):=by
 obtain h|h|h:=Nat.lt_trichotomy i _
 .rw[aI h];constructor
  .exact .inl
  .rintro(z|⟨z,_⟩)
   .exact z
   .simp_all
 .subst h;simp
 .rw[jd (by grind),jd<|by omega];simp;lia
def yd(n:Nat):(2:Int) ^ n=((2 ^ n:Nat):Int):=by simp
def Ja{α:Type}{l:!α}{i:Nat}{x:α}(h:l[i]?=Y x):i<l.length:=(ah.mp h).1
def HH(b:Bool):jl b=af "inner" ↔b=true:=by cases b<;>decide +kernel
def UZ{s:FB}{tb:!ka}{L:!(Nat×Ak)}(I:GI s tb L)(b:Bool)(nm:↑aP)(hn:nm≠Y (af "*")){i:Int}(hi:(bX s.nk s.nv<|b_<|jC nm).getD (.int 0)=.int i):GI (mj s (jl b) (jC nm) i) (tb++[.st b nm]) L:=by
 have Hu:∀ {j:Nat}{x:ka},tb[j]?=Y x->(tb++[ka.st b nm])[j]?=Y x:=λh=>cC.mpr<|.inl h
 let(mi,ei,bi):=I.inner;let(ms,es,bs):=I.star;let hb:=I.bits;obtain⟨Cj,abN,hin⟩:∃Cj:Int,(if jl b=af "inner" then bO s.inner (2 ^ s.bits) else s.inner)=Cj/\∃m:Nat,Cj=(m:Int)/\∀j,m.testBit j=Z'↔∃n,(tb++[ka.st b nm])[j]?=Y (ka.st Z' n):=by
  cases b with
  |true=>
   refine(_,if_pos W,mi ||| 2 ^ tb.length,by rw[ei,yd,uo,hb],λj =>?_);rw[Io,bi];constructor
   .rintro(⟨n,h⟩|h)
    .exact(n,Hu h)
    .exact(nm,cC.mpr<|.inr (h,W))
   .rintro⟨n,h⟩;obtain h|⟨h,_⟩:=cC.mp h
    .exact .inl (n,h)
    .exact .inr h
  |false=>
   refine(_,if_neg (λy=>by cases (HH Z_).mp y),mi,ei,λj =>?_);rw[bi];constructor
   .rintro⟨n,h⟩;exact(n,Hu h)
   .rintro⟨n,h⟩;obtain h|⟨_,h⟩:=cC.mp h
    .exact(n,h)
    .cases h
 have tt:∀t,(bX s.tk s.tv (b_ t)=M/\∀i:Nat,(tb++[ka.st b nm])[i]? ≠ Y (ka.tx t))\/∃j,bX s.tk s.tv (b_ t)=Y (.int<|2 ^ j)/\∀i,(tb++[ka.st b nm])[i]?=Y (ka.tx t)↔i=j:=λt=>by
  have nt:∀i,(tb++[ka.st b nm])[i]?=Y (ka.tx t)↔tb[i]?=Y (ka.tx t):=λi=>by
   rw[cC];constructor
   .rintro(h|⟨_,h⟩)
    .exact h
    .cases h
   .exact .inl
  obtain⟨a,c⟩|⟨j,a,c⟩:=I.text t
  .exact .inl (a,λi z=>c i<|(nt i).mp z)
  .exact .inr (j,a,λi=>(nt i).trans<|c i)
 have hl:∀l∈L,∃b' n',(tb++[ka.st b nm])[l.1]?=Y (ka.st b' n'):=λl hl=>by let(b',n',h):=I.lst l hl;exact(b',n',Hu h)
 have n1:s.bits+1=(tb++[ka.st b nm]).length:=by simp[hb]
 let n2:=I.nkl;let n3:=I.tkl;let n4:=I.few;have nml:∀n,(∀j:Nat,(∃b',(tb++[ka.st b nm])[j]?=Y (ka.st b'<|Y n))↔((∃b',tb[j]?=Y (ka.st b'<|Y n))\/(j=tb.length/\nm=Y n))):=λn j=>by
  constructor
  .rintro⟨b',h⟩;obtain h1|⟨h1,e⟩:=cC.mp h
   .exact .inl (b',h1)
   .exact .inr (h1,by injection e)
  .rintro(⟨b',h⟩|⟨h,e⟩)
   .exact(b',Hu h)
   .exact(b,cC.mpr<|.inr (h,by rw[e]))
 cases nm with
 |none=>
  have e:mj s (jl b) (jC M) i={ s with bits:=s.bits+1,inner:=Cj,d_:=bO s.d_<|2 ^ s.bits,sy:=s.sy+1 }:=by unfold mj;simp only[abN];exact if_pos W
  rw[e];refine(n1,hin,(ms ||| 2 ^ tb.length,by show bO s.d_ (2 ^ s.bits)=_;rw[es,yd,uo,hb],λj =>?_),λn =>?_,I.nkv,by show s.nk.length<=s.bits+1;omega,tt,I.ZT,by show s.tk.length<=s.bits+1;omega,I.cG,I.lnd,hl,by show L.length<=s.bits+1;omega)
  .rw[Io,bs];constructor
   .rintro(⟨n,h⟩|h)
    .exact(n,Hu h)
    .exact(b,cC.mpr<|.inr (h,W))
   .rintro⟨n,h⟩;obtain h|⟨h,_⟩:=cC.mp h
    .exact .inl (n,h)
    .exact .inr h
  .let(m,em,bm):=I.name n;refine(m,em,λj =>?_);rw[bm,nml];simp
 |some n0=>
  have nz:jC (Y n0)≠af "*" :=λz=>hn (by rw[<- z];rfl)
  have e:mj s (jl b) (jC<|Y n0) i={ s with bits:=s.bits+1,inner:=Cj,nk:=(lD (b_ n0) (.int<|bO i<|2 ^ s.bits) s.nk s.nv).1,nv:=(lD (b_ n0) (.int<|bO i<|2 ^ s.bits) s.nk s.nv).2 }:=by unfold mj;simp only[abN];exact if_neg nz
  rw[e];have dl:=Rr (k:=b_ n0) (d :=.int<|bO i<|2 ^ s.bits) I.nkv;refine(n1,hin,(ms,es,λj =>?_),λn =>?_,dl.1,by show (lD _ _ s.nk s.nv).1.length<=s.bits+1;lia,tt,I.ZT,by show s.tk.length<=s.bits+1;solve_by_elim,I.cG,I.lnd,hl,by show L.length<=s.bits+1;solve_by_elim)
  .rw[bs];constructor
   .rintro⟨n,h⟩;exact(n,Hu h)
   .rintro⟨n,h⟩;obtain h|⟨_,h⟩:=cC.mp h
    .exact(n,h)
    .cases h
  .let(m,em,bm):=I.name n;show ∃m:Nat,(bX (lD (b_ n0) (.int<|bO i<|2 ^ s.bits) s.nk s.nv).1 (lD (b_ n0) (.int<|bO i<|2 ^ s.bits) s.nk s.nv).2<|b_ n).getD (.int 0)=.int (m:Int)/\_;rw[MN I.nkv];by_cases e:n=n0
   .subst e;let hi:(bX s.nk s.nv<|b_ n).getD (.int 0)=.int i:=hi;rw[em]at hi;cases hi;refine(m ||| 2 ^ tb.length,by rw[if_pos W];show D.int (bO (m:Int)<|2 ^ s.bits)=_;rw[yd,uo,hb],λj =>?_);rw[Io,bm,nml];simp
   .refine(m,by rw[if_neg<|λy=>e<|Sum.inr.inj y];exact em,λj =>?_);rw[bm,nml];simp[bw e]
noncomputable def lR:Nat->Nat->!Int
 |_,0=>[]|n,k+1=>2 ^ n::lR (n+1) k
theorem CB:∀n k,(lR n k).length=k
 |_,0=>rfl|n,k+1=>by simp[lR,CB _ k]
noncomputable def qw:Ss->!ka
 |.nil=>[]|.cons b nm _ r =>.st b nm::qw r
noncomputable def cj:Ss->Nat
 |.nil=>0|.cons _ _ _ r=>cj r+1
theorem o8:∀s,(gS s).length=cj s
 |.nil=>rfl|.cons _ _ _ r=>by rw[gS,bQ,o8 r];rfl
def zI{m:aP}{F:!D->↑(D×D)}{g:Sd}{f:DL}{ρ:bL}{ds r:!D}{s c:FB}(k:f ρ=Y ds)(i:eV 0 ρ=oF s)(j:c4 0 ρ=ρ)(t:ds.length<=1000)(e:wA [M,oF s] (gN 0) (cN "Facts" m aM F 1 g) 1 aM ds (dz s)=Y (r,dz c)):xT f [M,Y 0] (gN 0) (cN "Facts" m aM F 1 g) 1 0 aM ρ=Y (.lst r,ρ.set 0<|oF c):=by
 let q:oZ aM 0 ρ=Y (dz s):=by unfold oZ yH;rw[i];exact ź
 let p:ki [M,Y 0] ρ=[M,oF s]:=by show [M,ρ[0]?.getD _]=_;rw[gC i];rfl
 simp only[xT,k,j,q,p,e,aw];exact if_pos<|iW<|fw Ž
def Dx{m:aP}{F:!D->↑(D×D)}{g:Sd}{x:↑D}{d a:D}{ds r:!D}{s b c:FB}{v:D}(n:m∉fbk)(l:∀s,g [Y d,oF s]=Y ([v],[Y d,oF s]))(h:F [dz s,v]=Y (a,dz b))(k:wA [M,x] (gN 0) (cN "Facts" m aM F 1 g) 1 aM ds (dz b)=Y (r,dz c)):wA [M,x] (gN 0) (cN "Facts" m aM F 1 g) 1 aM (d::ds) (dz s)=Y (a::r,dz c):=by
 rw[wA];let w:gN 0 d ([M,x].set 1 _)=Y [Y d,oF s]:=rfl;let v:cN _ m _ F 1 g _=Y _:=kX n W (l s) W h;let u:oZ aM 1 ((c4 1 [Y d,oF s]).set 1<|oF b)=Y (dz b):=by solve_by_elim
 simp_all
theorem GG:∀(a:Ss) (s:FB) (tb:!ka){L:!(Nat×Ak)}(x:↑D),GI s tb L->EB a->s.bits+cj a<=1000->∃c,wA [M,x] (gN 0) (cN "Facts" "enter_step" aM e8 1 io) 1 aM (gS a) (dz s)=Y ((lR s.bits<|cj a).map D.int,dz c)/\GI c (tb++qw a) L/\c.q=s.q
 |.nil,s,tb,L,x,I,_,_=>(s,W,by simp_all [qw],W)
 | .cons b nm w r,s,tb,L,x,I,n,h=>by
  simp only[cj]at h;let(i,hi,_):=I.name<|jC nm;let G:=UZ I b nm n.1 hi;have bt:(mj s (jl b) (jC nm) i).bits=s.bits+1:=by rw[G.bits,I.bits];simp
  let(f,d,l,o):=GG r (mj s (jl b) (jC nm) i) (tb++[.st b nm]) x G n.2.2 Ž;rw[bt]at d;exact(f,Dx ſ (λs=>rfl) (BF (s:=s) Ž I.nkl (jl b) (jC nm) (rH w) hi) d,by simp_all [qw],o.trans<|by unfold mj;simp only;split<;>rfl)
def GH{s:FB}{tb:!ka}{L:!(Nat×Ak)}(I:GI s tb L)(a:Ss)(n:EB a)(h:s.bits+cj a<=1000):∃b,fR [dz s,.lst<|gS a]=Y (.lst<|(lR s.bits<|cj a).map D.int,dz b)/\GI b (tb++qw a) L/\b.q=s.q:=by
 let(b,e,r):=GG a s tb _ I n h;exact(b,bq (J5<|zI (ρ:=[oF s,Y<|.lst<|gS a]) W W W (by grind [o8]) e) ź,r)
def Nr{d:D}{a:!ju}{b:!D}(m:a.length=b.length)(h:bX a b k=M):lD k d a b=(a++[k],b++[d])/\bX (a++[k]) (b++[d]) k=Y d:=by
 have c:=by unfold bX at h;simp only[Option.map_eq_none_iff,List.find?_eq_none,decide_eq_true_eq]at h;exact h
 let n:¬(a.any λq=>decide (q=k))=true:=by intro f;simp only[List.any_eq_true,decide_eq_true_eq]at f;let(q,j,rfl):=f;let(i,o,e):=List.getElem_of_mem j;exact c (q,b[i]' ž) (by rw[<- e];exact cK.mpr (i,by simp;lia,ż)) W
 refine(by unfold lD;rw[if_neg n],?_);unfold bX;rw[List.zip_append m,List.find?_append];have:(a.zip b).find? (λg=>decide (g.1=k))=none:=by grind
 rw[this];simp
abbrev txB(s:FB)(t:aP):FB:={ s with bits:=s.bits+1,tk:=s.tk++[b_ t],tv:=s.tv++[.int<|2 ^ s.bits] }
def WE(s:FB)(t:aP):JZ [0] [] At [oF s,Y<|.str t]=Y (not<|(bX s.tk s.tv<|b_ t).isSome):=rfl
def Az{s:FB}{t:aP}(hb:s.bits<=999)(hl:s.tk.length<=s.bits)(hkv:s.tk.length=s.tv.length)(h:bX s.tk s.tv (b_ t)=M):c_ [dz s,.str t]=Y (.int<|2 ^ s.bits,dz<|txB s t):=by
 let(hp,hlk):=Nr (d :=.int<|2 ^ s.bits) hkv h;refine bq (sq (ρ':=[oF<|txB s t,Y<|.str t]) ((iF<|(WE s t).trans<|by rw[h];rfl).trans<|(Li (ks:=s.tk) (vs:=s.tv) (kX ſ W W W<|zu s hb) W W W (fw Ž) W).trans (by rw[hp];exact ź)) (Fx<|kP W hlk W)) ź
def Ay{s:FB}(h:bX s.tk s.tv (b_ t)=Y (.int i)):c_ [dz s,.str t]=Y (.int i,dz s):=
 bq (mu ((WE s t).trans<|by rw[h];rfl)<|Fx<|kP W h W) ź
def UY{s:FB}{tb:!ka}{L:!(Nat×Ak)}(I:GI s tb L){t:aP}(h:bX s.tk s.tv (b_ t)=M):GI (txB s t) (tb++[.tx t]) L:=by
 let Hu:∀ {j:Nat}{x:ka},tb[j]?=Y x->(tb++[ka.tx t])[j]?=Y x:=λh=>cC.mpr<|.inl h
 have sm:∀ {j:Nat}{b nm},(tb++[ka.tx t])[j]?=Y (ka.st b nm)↔tb[j]?=Y (ka.st b nm):=fun {j b nm}=>by
  rw[cC];constructor
  .rintro(h|⟨_,h⟩)
   .exact h
   .cases h
  .exact .inl
 let(mi,ei,bi):=I.inner;let(ms,es,bs):=I.star;have n1:s.bits+1=(tb++[ka.tx t]).length:=by simp[I.bits]
 let n2:=I.nkl;let n3:=I.tkl;let n4:=I.few;refine(n1,(mi,ei,λj =>?_),(ms,es,λj =>?_),λn =>?_,I.nkv,ž,λt' =>?_,by simp[I.ZT],Ż,I.cG,I.lnd,λl hl =>?_,ž)
 .simp_all
 .simp only[bs,sm]
 .let(m,em,bm):=I.name n;exact(m,em,λj=>by simp only[bm,sm])
 .show (bX (s.tk++[b_ t]) (s.tv++[.int<|2 ^ s.bits]) (b_ t')=M/\_)\/∃j,bX (s.tk++[b_ t]) (s.tv++[.int<|2 ^ s.bits]) (b_ t')=_/\_;rw[zS I.ZT];obtain⟨a,c⟩|⟨j,a,c⟩:=I.text t'
  .rw[a];by_cases e:t=t'
   .subst e;refine .inr (s.bits,ż,λi =>?_);rw[cC,I.bits];constructor
    .rintro(z|z)
     .exact absurd z<|c i
     .exact z.1
    .intro z;exact .inr (z,W)
   .refine .inl (by simp[e],λi z =>?_);obtain z|⟨_,z⟩:=cC.mp z
    .exact c i z
    .exact e (by injection z)
  .let e:t≠t':=λz=>by subst z;rw[h]at a;cases a
   refine .inr (j,by rw[a],λi =>?_);rw[cC,c i];constructor
   .rintro(z|⟨_,z⟩)
    .exact z
    .exact absurd (by injection z) e
   .exact .inl
 .let(b',n',h):=I.lst l hl;exact(b',n',Hu h)
def Te{s:FB}{tb:!ka}{L:!(Nat×Ak)}(I:GI s tb L)(u:s.bits<=999)(t:aP):∃j f tx,c_ [dz s,.str t]=Y (.int<|2 ^ j,dz f)/\GI f (tb++tx) L/\(tx=[]\/tx=[.tx t])/\(tb++tx)[j]?=Y (.tx t)/\f.q=s.q:=by
 obtain⟨a,c⟩|⟨j,a,c⟩:=I.text t
 .refine(_,_,_,Az u I.tkl I.ZT a,UY I a,.inr W,cC.mpr<|.inr (I.bits,W),W)
 .exact(j,s,[],Ay a,Ż,.inl W,Ż,W)
noncomputable abbrev AR(a:Int)(b:!D):D :=.tup [.int a,.lst b]
noncomputable def mH:As->Nat
 |.nil=>0|.cons _ r=>mH r+1
theorem JD:∀s,(qb s).length=mH s
 |.nil=>rfl|.cons _ r=>by rw[qb,bQ,JD r];rfl
noncomputable def Q2:Nat->Nat->Int->!Int
 |_,0,_=>[]|_,1,e=>[e]|n,k+2,e=>2 ^ (n+1)::Q2 (n+1) (k+1) e
theorem Q1:∀(k n:Nat) (e:Int),lR (n+1) k++[e]=Q2 n (k+1) e
 |0,n,e=>rfl|k+1,n,e=>by rw[lR,Q2,m3,Q1 k _ e]
noncomputable def kW:As->Nat->Nat->!(Nat×Ak)
 |.nil,_,_=>[]|.cons (.mk n c) .nil,j,e=>[(j,.mk (n ||| e) c)]
 |.cons (.mk n c) (.cons x r),j,e=>(j,.mk (n ||| 2 ^ (j+1)) c)::kW (.cons x r) (j+1) e
section
variable {y1 y2 y4:!D}{y3:Int}
abbrev eL8(s:FB)(y1 y2:!D)(y3:Int)(y4:!D)(a b c:↑D):bL:=[oF s,Y<|.lst y1,Y<|.lst y2,Y<|.int y3,Y<|.lst y4,a,b,c]
def Yn{s:FB}(b a g:Int)(d:!D)(h:s.cG.length<dQ):jU (eL8 s y1 y2 y3 y4 (Y<|AR a d) (Y<|.int b)<|Y<|.int g)=Y (.nx<|eL8 { s with cG:=s.cG++[.tup [.int b,AR (bO a g) d]] } y1 y2 y3 y4 (Y<|AR a d) (Y<|.int b) (Y<|.int g)):=
 (show _=if _/\s.cG.length<dQ then _ else M from W).trans ((if_pos (W,h)).trans ź)
def Gm{s:FB}{n f j:Nat}{c:Cs}(h:s.cG.length<dQ):jU (eL8 s y1 y2 y3 y4 (Y<|Hs<|.mk n c) (Y<|.int<|2 ^ j)<|Y<|.int (f:Int))=Y (.nx<|eL8 { s with cG:=s.cG++[ldK (j,.mk (n ||| f) c)] } y1 y2 y3 y4 (Y<|Hs<|.mk n c) (Y<|.int<|2 ^ j) (Y<|.int (f:Int))):=by
 rw[show ldK (j,.mk (n ||| f) c)=.tup [.int<|2 ^ j,AR (bO n f)<|yo c] by rw[uo];solve_by_elim];exact Yn _ _ _ _ h
theorem Gn:∀(ks:As) (j e:Nat) (s:FB) (a b c:↑D),s.cG.length+mH ks<dQ->∃o n m,
  gB (gN3 5 6 7) jU (nZ (qb ks) ((lR j<|mH ks).map D.int)<|(Q2 j (mH ks) (e:Int)).map D.int) (eL8 s y1 y2 y3 y4 a b c)=Y (.nx<|eL8 { s with cG:=s.cG++(kW ks j e).map ldK } y1 y2 y3 y4 o n m)
 |.nil,j,e,s,a,b,c,_=>(a,b,c,by simp[qb,nZ,gB,kW])
 |.cons (.mk n c) .nil,j,e,s,a,b,d,h=>(_,_,_,(hI W<|Gm<|by simp only[mH]at h;lia).trans W)
 |.cons (.mk n c) (.cons x r),j,e,s,a,b,d,h=>by simp only[mH]at h;let(o,p,m,q):=Gn (.cons x r) (j+1) e { s with cG:=s.cG++[ldK _] } _ _ _ (by simp only[mH,aU,dm];lia);refine(o,p,m,(hI (d :=.tup [Hs<|.mk n c,.int<|2 ^ j,.int ((2 ^ (j+1):Nat):Int)]) W (Gm Ž)).trans (q.trans ?_));simp only[kW,bg,bF,List.singleton_append]
end
def UG{s:FB}{ks:As}{j e:Nat}(hn:ks ≠ .nil)(hl:s.cG.length+mH ks<2000):lX [dz s,.lst<|qb ks,.lst<|(lR j<|mH ks).map D.int,.int (e:Int)]=Y (.dC,dz { s with cG:=s.cG++(kW ks j e).map ldK }):=by
 obtain⟨k,hk⟩:∃k,mH ks=k+1:=by
  cases ks with|nil=>trivial|cons x r=>exact(_,W)
 let(b5,b6,b7,q):=Gn ks j e s M M M<|fw hl;refine bq (mr (d :=.lst<|(Q2 j (mH ks) (e:Int)).map D.int) ?_ ((hJ W).trans q)) ź;refine(show _=gA (.lst<|CQ ((lR j<|mH ks).map D.int) (Y 1) M) (.lst [.int (e:Int)]) from W).trans ?_;rw[hk,GX _<|by simp];refine(if_pos<|iW<|fw ?_).trans ?_
 .rw[show List.drop _ _=(lR (j+1) k).map D.int from W,ar,dm,CB];lia
 .rw[<- Q1];simp[lR]
noncomputable def ned:Ak->Nat|.mk n _=>n
noncomputable def N5:Ak->Cs|.mk _ c=>c
def Ye(n:Nat)(c:Cs):ned (.mk n c)=n:=rfl
def q_(n:Nat)(c:Cs):N5 (.mk n c)=c:=rfl
theorem Jv:∀a b:Cs,yo (a.app b)=yo a++yo b
 |.nil,b=>rfl|.cons c r,b=>by rw[Cs.app,yo,Jv r b];rfl
def rS(n:Nat)(c:Cs)(r:As):fW (.cons (.mk n c) r)=.mk (n ||| ned (fW r)) (c.app<|N5<|fW r):=by
 rw[fW];obtain⟨m,d⟩:=fW r;rfl
theorem Cd{x0:↑D}:∀(f:As) (n:Nat) (d:!D) (g:↑D),d.length+(yo<|N5<|fW f).length<dQ->∃i,
  gB (gN 3) lF (qb f) [x0,Y<|.int (n:Int),Y<|.lst d,g]=Y (.nx [x0,Y<|.int ((n ||| ned (fW f):Nat):Int),Y<|.lst<|d++yo (N5<|fW f),i])
 |.nil,n,d,g,_=>(g,by simp[qb,gB,fW,ned,N5,yo])
 | .cons (.mk b c) f,n,d,g,k=>by
  rw[rS]at k ⊢;simp only[Ye,q_,Jv,aU]at k ⊢;have t:∀(n b:Int) (c:!D),d.length+c.length<=dQ->lF [x0,Y<|.int n,Y<|.lst d,Y<|AR b c]=Y (.nx [x0,Y<|.int<|bO n b,Y<|.lst<|d++c,Y<|AR b c]):=λn b c k=>sq (ρ':=[x0,Y<|.int<|bO n b,Y<|.lst d,Y<|AR b c]) W (show (if d.length+c.length<=dQ then _ else M)=_ from if_pos k)
  have l:=t n b (yo c) Ž;rw[uo]at l;let(i,q):=Cd f _ (d++yo c) _ ŷ;exact(i,(hI W l).trans<|q.trans<|by rw[Nat.or_assoc,bF])
def Qq{ks:As}(f:(yo<|N5<|fW ks).length<dQ):kK [.lst<|qb ks]=Y (Hs<|fW ks):=by
 let(g,q):=Cd ks 0 [] M Ż;refine bq (mr W<|C5 (l:=[]) W (sq ((hJ W).trans q) W)) ?_;obtain⟨n,k⟩:=fW ks;simp;rfl
mutual
noncomputable def lI:Wi->Nat
 |.any=>1|.txt _=>1|.has s=>1+pT s|.both w=>1+vX w|.one w=>1+vX w
noncomputable def vX:Ws->Nat
 |.nil=>0|.cons w r=>lI w+vX r
noncomputable def pT:Ss->Nat
 |.nil=>0|.cons _ _ w r=>1+lI w+pT r
end
mutual
def OkW(T:aP->Prop):Wi->Prop
 |.any=>True|.txt t=>T t|.has s=>s ≠ .nil/\OkS T s|.both w=>OkA T w|.one w=>OkA T w
def OkA(T:aP->Prop):Ws->Prop
 |.nil=>True|.cons w r=>OkW T w/\OkA T r
def OkS(T:aP->Prop):Ss->Prop
 |.nil=>True|.cons _ _ w r=>OkW T w/\OkS T r
end
mutual
def nQ(tb:!ka)(L:!(Nat×Ak)):Wi->Ak->Prop
 |.any,k=>k=.mk 0 .nil|.txt t,k=>∃j,k=.mk (2 ^ j) .nil/\tb[j]?=Y (.tx t)|.has s,k=>∃j,k=.mk (2 ^ j) .nil/\kD tb L 0 s j|.both w,k=>∃ks,lS tb L w ks/\k=fW ks|.one w,k=>∃ks,lS tb L w ks/\k=.mk 0 (.cons ks .nil)
def lS(tb:!ka)(L:!(Nat×Ak)):Ws->As->Prop
 |.nil,k=>k=.nil|.cons w r,k=>∃x y,nQ tb L w x/\lS tb L r y/\k=.cons x y
def kD(tb:!ka)(L:!(Nat×Ak))(e:Nat):Ss->Nat->Prop
 |.nil,_=>False|.cons b nm w r,j=>∃sk cs SA,nQ tb L w (.mk sk cs)/\tb[j]?=Y (.st b nm)/\(j,Ak.mk (sk ||| SA) cs)∈L/\(r=.nil/\SA=e\/kD tb L e r (j+1)/\SA=2 ^ (j+1))
end
structure Up(tb:!ka)(L:!(Nat×Ak))(kQ:!ka)(L':!(Nat×Ak)):Prop where
 t:∀ {i:Nat}{x:ka},tb[i]?=some x->kQ[i]?=some x
 l:∀x∈L,x∈L'
def Up.app(tb:!ka)(L:!(Nat×Ak))(a:!ka)(b:!(Nat×Ak)):Up tb L (tb++a)<|L++b:=(fun {i x} h=>by rw[aI<|Ja h];exact h,λx h=>by simp[h])
mutual
theorem nQ.up{tb kQ L L'}(u:Up tb L kQ L'):∀(w:Wi) (k:Ak),nQ tb L w k->nQ kQ L' w k
 |.any,k,h=>h|.txt t,k,(j,e,h)=>(j,e,u.t h)|.has s,k,(j,e,h)=>(j,e,kD.up u s j h)|.both w,k,(ks,h,e)=>(ks,lS.up u w ks h,e)|.one w,k,(ks,h,e)=>(ks,lS.up u w ks h,e)
theorem lS.up{tb kQ L L'}(u:Up tb L kQ L'):∀(w:Ws) (k:As),lS tb L w k->lS kQ L' w k
 |.nil,k,h=>h|.cons w r,k,(x,y,a,b,e)=>(x,y,nQ.up u w x a,lS.up u r y b,e)
theorem kD.up{tb kQ L L'}{e:Nat}(u:Up tb L kQ L'):∀(s:Ss) (j:Nat),kD tb L e s j->kD kQ L' e s j
 |.nil,j,h=>h|.cons b nm w r,j,(n,c,f,a,t,l,h)=>(n,c,f,nQ.up u w _ a,u.t t,u.l _ l,h.imp id λ(x,y)=>(kD.up u r _ x,y))
end
def N3(k:Ak):Nat:=(yo<|N5 k).length
def WQ:As->Nat
 |.nil=>0|.cons x r=>N3 x+WQ r
theorem yp:∀k:As,N3 (fW k)=WQ k
 |.nil=>rfl|.cons (.mk n c) r=>by rw[rS,N3,q_,Jv,aU,WQ,<- yp r];rfl
mutual
noncomputable def dk:Ak->Nat
 |.mk _ cs=>1+Jq cs
noncomputable def Jq:Cs->Nat
 |.nil=>0|.cons c r=>max (Eb c)<|Jq r
noncomputable def Eb:As->Nat
 |.nil=>0|.cons x r=>max (dk x)<|Eb r
end
mutual
def LnK:Ak->Prop
 |.mk _ cs=>(yo cs).length<=1000/\R7 cs
def R7:Cs->Prop
 |.nil=>True|.cons c r=>((qb c).length<=1000/\WW c)/\R7 r
def WW:As->Prop
 |.nil=>True|.cons x r=>LnK x/\WW r
end
theorem Rv:∀a b:Cs,Jq (a.app b)=max (Jq a) (Jq b)
 |.nil,b=>by solve_by_elim
 |.cons c r,b=>by simp only[Cs.app,Jq,Rv r b];simp
theorem Qe:∀a b:Cs,R7 (a.app b)↔R7 a/\R7 b
 |.nil,b=>by simp[Cs.app,R7]
 |.cons c r,b=>by simp only[Cs.app,R7,Qe r b,and_assoc]
theorem Lj:∀k:As,Jq (N5<|fW k)+1<=Eb k\/Jq (N5<|fW k)=0
 |.nil =>.inr W| .cons (.mk n c) r=>by
  rw[rS,q_,Rv];simp only[Eb,dk];have:=Lj r
  lia
theorem Kq:∀k:As,WW k->R7 (N5<|fW k)
 |.nil,_=>trivial|.cons (.mk n c) r,h=>by rw[rS,q_,Qe];exact(h.1.2,Kq r h.2)
mutual
theorem RP{tb L}:∀(w:Wi) (k:Ak),nQ tb L w k->lI w<=900->dk k<=j6 w/\LnK k/\N3 k<=lI w
 |.any,k,h,b=>by subst h;trivial
 |.txt t,k,(j,e,_),b=>by subst e;simp[dk,Jq,j6,LnK,R7,yo,N3,q_]
 |.has s,k,(j,e,_),b=>by subst e;simp[dk,Jq,j6,LnK,R7,yo,N3,q_]
 |.one w,k,(ks,h,e),b=>by subst e;simp only[lI]at b;let(x,y,z,u):=Eo w ks h Ž;refine(by simp_all [dk,Jq,j6],(by simp[yo],((by grind [JD],y),trivial)),by simp[N3,q_,yo,lI])
 |.both w,k,(ks,h,e),b=>by subst e;simp only[lI]at b;let(x,y,z,u):=Eo w ks h Ž;let c:=yp ks;let d:=Lj ks;let l:=Kq ks y;rcases e:fW ks with⟨n,cs⟩;rw[e]at c d l;simp only[N3,q_]at c d l ⊢;refine(by grind [dk,j6],(Ž,l),by grind [lI])
theorem Eo{tb L}:∀(w:Ws) (k:As),lS tb L w k->vX w<=900->Eb k<=BG w/\WW k/\WQ k<=vX w/\mH k<=vX w
 |.nil,k,h,b=>by subst h;trivial
 | .cons w r,k,(x,y,h,g,e),b=>by
  subst e;simp only[vX]at b;have p:1<=lI w:=by cases w<;>simp[lI]<;>omega
  let(a1,a2,a3):=RP w x h Ž;let(b1,b2,b3,b4):=Eo r y g Ž;refine(by grind [Eb,BG],(a2,b2),by grind [WQ,vX],by grind [mH,vX])
end
def af7(k:Ak):Prop:=dk k<=12/\LnK k
def R8(L:!(Nat×Ak)):Prop:=∀l∈L,af7 l.2
theorem Kk:∀(k:As) (j e:Nat),Eb k<=12->WW k->R8 (kW k j e)
 |.nil,j,e,_,_=>λl h=>by simp[kW]at h
 |.cons (.mk n c) .nil,j,e,d,h=>λl hl=>by simp only[kW,bP]at hl;subst hl;simp only[Eb,dk]at d;exact(by simp_all [dk],h.1)
 | .cons (.mk n c) (.cons x r),j,e,d,h=>λl hl=>by
  simp only[Eb,dk]at d;obtain rfl|hl:=aG.mp hl
  .exact(by grind [dk],h.1)
  .exact Kk _ _ e (by grind [Eb]) h.2 l hl
def Dp{L:!(Nat×Ak)}{n:Nat}(h:(L.map (·.1)).Nodup)(g:∀l∈L,l.1<n):L.length<=n:=by
 have:=qI n _ h λx hx=>by let(l,hl,rfl):=bS.mp hx;exact g l hl
 simp_all
def U2{s:FB}{tb:!ka}{L N:!(Nat×Ak)}(I:GI s tb L)(nd:((L++N).map (·.1)).Nodup)(st:∀l∈N,∃b nm,tb[l.1]?=Y (ka.st b nm)):GI { s with cG:=s.cG++N.map ldK } tb (L++N):=by
 have lx:=λl hl=>(aD.mp hl).elim (I.lst l)<|st l
 refine(I.bits,I.inner,I.star,I.name,I.nkv,I.nkl,I.text,I.ZT,I.tkl,?_,nd,lx,?_)
 .rw[I.cG,aY]
 .rw[I.bits];exact Dp nd λl hl=>by let(b,n,h):=lx l hl;exact Ja h
theorem zy:∀(k:As) (j e:Nat),(kW k j e).map (·.1)=ZK j (mH k)
 |.nil,j,e=>rfl|.cons (.mk n c) .nil,j,e=>rfl|.cons (.mk n c) (.cons x r),j,e=>by have:=zy (.cons x r) (j+1) e;rw[kW,bg,this];rfl
def CP(tb:!ka)(L:!(Nat×Ak)):Ss->As->Prop
 |.nil,k=>k=.nil|.cons _ _ w r,k=>∃x y,nQ tb L w x/\CP tb L r y/\k=.cons x y
theorem CP.up{tb kQ L L'}(u:Up tb L kQ L'):∀(s:Ss) (k:As),CP tb L s k->CP kQ L' s k
 |.nil,k,h=>h|.cons b nm w r,k,(x,y,a,c,e)=>(x,y,nQ.up u w x a,CP.up u r y c,e)
theorem CP.ln{tb L}:∀(s:Ss) (k:As),CP tb L s k->pT s<=900->Eb k+1<=oO s/\WW k
 |.nil,k,h,_=>by let h:k=.nil:=h;simp_all [Eb,WW,oO]
 |.cons b nm w r,k,(x,y,a,c,e),z=>by subst e;simp only[pT]at z;let(a1,a2,a3):=RP w x a Ž;let(b1,b2):=CP.ln r y c Ž;exact(by grind [Eb,oO],a2,b2)
theorem CP.len{tb L}:∀(s:Ss) (k:As),CP tb L s k->mH k=cj s
 |.nil,k,h=>by subst h;rfl
 |.cons b nm w r,k,(x,y,a,c,e)=>by subst e;rw[mH,cj,CP.len r y c]
theorem BU{tb:!ka}{L:!(Nat×Ak)}{e:Nat}:∀(a:Ss) (ks:As) (j:Nat),a ≠ .nil->CP tb L a ks->(∀i x,(qw a)[i]?=Y x->tb[j+i]?=Y x)->(∀l∈kW ks j e,l∈L)->kD tb L e a j
 |.nil,ks,j,h,_,_,_=>absurd W h|.cons b nm w .nil,ks,j,_,((n,c),y,ha,hy,q),ht,hl=>by subst hy;subst q;exact(n,c,e,ha,ht 0 _ W,hl _ Ÿ,ż)
 | .cons b nm w (.cons b' nm' w' r),ks,j,_,((n,c),y,ha,hy,q),ht,hl=>by
  subst q;let hy0:=hy;let(x,z,_,_,q):=hy;subst q;refine(n,c,_,ha,ht 0 _ W,hl _ Ÿ,.inr (?_,W));refine BU _ _ _ ż hy0 (λi y hi =>?_) λl h=>hl l Ÿ
  have:=ht (i+1) y Ÿ
  lia
def F9:∀(k:As) (j e:Nat),∀l∈kW k j e,j<=l.1/\l.1<j+mH k:=λk j e l h=>by
 have:=ig (f:=(·.1)) h;rw[zy]at this;exact List.mem_range'_1.mp this
structure Go(sz:Nat)(s:FB)(tb:!ka)(L:!(Nat×Ak))(s':FB)(kQ:!ka)(L':!(Nat×Ak)):Prop where
 gi:GI s' kQ L'
 q:s'.q=s.q
 add:∃a,kQ=tb++a/\a.length<=sz
 ld:∃b,L'=L++b
 lo:∀l∈L',l∈L\/tb.length<=l.1
 lk:R8 L->R8 L'
def Go.up{sz s tb L s' kQ L'}(h:Go sz s tb L s' kQ L'):Up tb L kQ L':=by
 let(a,rfl,_):=h.add;let(b,rfl):=h.ld;exact .app _ _ _ _
def Go.len{sz s tb L s' kQ L'}(h:Go sz s tb L s' kQ L'):tb.length<=kQ.length/\kQ.length<=tb.length+sz:=by
 let(a,rfl,k):=h.add
 simp_all
def Go.refl{s tb L}(h:GI s tb L):Go 0 s tb L s tb L:=(h,W,([],ż,aF _),Ż,λ_ =>.inl,id)
def Go.trans{sz s tb L s' kQ L' sz' s'' aaA L''}(h:Go sz s tb L s' kQ L')(g:Go sz' s' kQ L' s'' aaA L''):Go (sz+sz') s tb L s'' aaA L'':=by
 let(a,e,k):=h.add;let(b,f,m):=g.add;let(c,u):=h.ld;let(d,v):=g.ld;refine(g.gi,g.q.trans h.q,(a++b,Ż,by rw[aU];lia),Ż,λx hx =>?_,λz=>g.lk<|h.lk z);obtain z|z:=g.lo x hx
 .exact h.lo x z
 grind
def Go.le{sz s tb L s' kQ L' sz'}(h:Go sz s tb L s' kQ L')(b:sz<=sz'):Go sz' s tb L s' kQ L':=by
 let(c,e,k):=h.add;exact(h.gi,h.q,(c,e,bB k b),h.ld,h.lo,h.lk)
theorem o5:∀a:Ss,(qw a).length=cj a
 |.nil=>rfl|.cons _ _ _ r=>by rw[qw,bQ,o5 r];rfl
def QR{s s':FB}{tb:!ka}{L:!(Nat×Ak)}{a:Ss}(h:GI s' (tb++qw a) L)(q:s'.q=s.q):Go (cj a) s tb L s' (tb++qw a) L:=(h,q,(_,W,VW<|o5 a),Ż,λ_ =>.inl,id)
theorem Oz:∀(a:Ss) (i:Nat),i<cj a->∃b nm,(qw a)[i]?=Y (.st b nm)
 |.nil,i,h=>by simp[cj]at h
 |.cons b nm _ r,0,h=>(b,nm,W)| .cons b nm _ r,i+1,h=>by
  let(b,nm,e):=Oz r i (by simp_all [cj])
  exact Ÿ
def UX{sz:Nat}{s s':FB}{tb kQ:!ka}{L L':!(Nat×Ak)}{a:Ss}{ks:As}{e:Nat}(h:Go sz s (tb++qw a) L s' kQ L')(hL:∀l∈L,l.1<tb.length)(hn:mH ks=cj a):
  GI { s' with cG:=s'.cG++(kW ks tb.length e).map ldK } kQ (L'++kW ks tb.length e)/\∀i x,(qw a)[i]?=Y x->kQ[tb.length+i]?=Y x:=by
 let u:=h.up;let ln:=h.len.1;rw[aU,o5]at ln;have ht:∀i x,(qw a)[i]?=Y x->kQ[tb.length+i]?=Y x:=λi x hx=>by refine u.t ?_;rw[jG (by simp),show tb.length+i-tb.length=i by lia];exact hx
 refine(U2 h.gi ?_<|λl hl =>?_,ht)
 .rw[aY,zy,bM];refine(h.gi.lnd,List.nodup_range' ..,λx hx y hy z =>?_);subst z;let(l,hl,rfl):=bS.mp hx;have hy:=List.mem_range'_1.mp hy;obtain z|z:=h.lo l hl
  .grind
  grind [aU,o5]
 .let(p,q):=F9 ks _ e l hl;let(b,nm,g):=Oz a (l.1-tb.length) ž;refine(b,nm,?_);have:=ht _ _ g
  simp_all
def srm{t:DT}{f:DM}{d:D}{h:DG}(e:t a=Y Z')(k:f a=Y (d,σ)):aR (g_ t (gV f) c8) h a=Y (.rm d σ):=by
 unfold aR;rw[iF e,J5 k];rfl
def kq{x y:String}{s:FB}{r:!D}{z:↑D}{b:Bool}(h:(af x==af y)=b):dG (e2 hU (e2 cw (eV 1) f8)<|eK<|kS y) [oF s,Y<|.tup<|kS x::r,z]=Y b:=(Ml (x:=af x) ((cp W W).trans<|dX (j:=0) W)).trans (congrArg Y h)
def Wz{f:DM}(h:f ρ=Y (.int i,σ)):wx (mV f<|mV (mP nb) qJ) ρ=Y (AR i [],σ):=by
 unfold wx mV;rw[h];rfl
section
variable {F a:!D->↑(D×D)}{s b:FB}
def ND:mB 2 3 aM (dU F a) [dz s,.tup [kS "any"]]=Y (AR 0 [],dz s):=by
 exact Ÿ
def Jz(h:c_ [dz s,.str t]=Y (.int i,dz b)):mB 2 3 aM (dU F a) [dz s,.tup [kS "text",.str t]]=Y (AR i [],dz b):=
 bq (mu (kq ſ)<|srm (kq ſ)<|Wz<|kX ſ W W W h) ź
def NC(h:a [dz s,.lst x]=Y (.int i,dz b)):mB 2 3 aM (dU F a) [dz s,.tup [kS "has",.lst x]]=Y (AR i [],dz b):=
 bq (mu (kq ſ)<|mu (kq ſ)<|srm (kq ſ)<|Wz<|kX ſ W W W h) ź
def NB{ks:As}(m:xT (iL<|e2 cw (eV 1) u8) [M,Y 0] (gN 0) (cN "Facts" "asked" aM F 1 io) 1 0 aM [oF s,Y<|.tup [kS "one",.lst x],M]=Y (.lst<|qb ks,[oF b,Y<|.tup [kS "one",.lst x],M])):mB 2 3 aM (dU F a) [dz s,.tup [kS "one",.lst x]]=Y (Hs<|.mk 0<|.cons ks .nil,dz b):=
 bq (mu (kq ſ)<|mu (kq ſ)<|mu (kq ſ)<|sq (yW m)<|srm (kq ſ) W) ź
def JA{ks:As}(c:N3 (fW ks)<2000)(m:xT (iL<|e2 cw (eV 1) u8) [M,Y 0] (gN 0) (cN "Facts" "asked" aM F 1 io) 1 0 aM [oF s,Y<|.tup [kS "both",.lst x],M]=Y (.lst<|qb ks,[oF b,Y<|.tup [kS "both",.lst x],M])):mB 2 3 aM (dU F a) [dz s,.tup [kS "both",.lst x]]=Y (Hs<|fW ks,dz b):=
 bq (mu (kq ſ)<|mu (kq ſ)<|mu (kq ſ)<|sq (yW m)<|mu (kq ſ)<|Fx<|(rg W).trans<|Qq<|fw c) ź
end
theorem YM{F G:!D->↑(D×D)}{a:Ss}{ks:As}{s s1 s2:FB}(hn:a ≠ .nil)(hl:mH ks=cj a)(e1:fR [dz s,.lst<|gS a]=Y (.lst<|(lR s.bits<|cj a).map D.int,dz s1))(e2':wA [M,oF s1] (gN 0) (cN "Facts" "asked" aM F 1 no) 1 aM (gS a) (dz s1)=Y (qb ks,dz s2))(hs:cj a<=1000)(hle:s2.cG.length+mH ks<2000):
  mB 2 3 aM (nr F G) [dz s,.lst<|gS a]=Y (.int<|2 ^ s.bits,dz { s2 with cG:=s2.cG++(kW ks s.bits 0).map ldK }):=by
 cases a with
 |nil=>exact(hn W).elim|cons x y z r=>have e3:=UG (s:=s2) (ks:=ks) (j:=s.bits) (e:=0) (by intro z;subst z;simp[mH,cj]at hl) hle;rw[hl]at e3;refine bq (sq (yW<|kX ſ W W W e1)<|sq (aau<|kX (ρ1:=[oF s2,Y<|.lst<|gS<|.cons x y z r,Y<|.lst<|(lR s.bits<|cj<|.cons x y z r).map D.int]) ſ W (args:=[.lst<|qb ks,.lst<|(lR s.bits<|cj<|.cons x y z r).map D.int,.int 0]) ?_ W e3) (Fx<|show qa ((lR s.bits<|cj<|.cons x y z r).map D.int) ((0:Nat):Int)=_ from dX (j:=0) W)) ź;refine bq (zI (f:=iL<|eV 1) W W W (by rw[o8];exact hs) e2') W
noncomputable def Xk:Ss->Nat
 |.nil=>0|.cons _ _ w r=>lI w+Xk r
theorem E':∀s,pT s=cj s+Xk s
 |.nil=>rfl|.cons _ _ w r=>by rw[pT,cj,Xk,E' r];lia
def acW(m:Nat)(w:Wi):Prop:=∀s tb L,GI s tb L->tb.length+lI w<=900->∃k s' kQ L',cv m [dz s,rH w]=Y (Hs k,dz s')/\Go (lI w) s tb L s' kQ L'/\nQ kQ L' w k/\N3 k<=lI w
def Zy(m:Nat)(w:Ws):Prop:=∀s tb L x,GI s tb L->tb.length+vX w<=900->∃ks s' kQ L',wA [M,x] (gN 0) (cN "Facts" "asked" aM (cv m) 1 io) 1 aM (vK w) (dz s)=Y (qb ks,dz s')/\Go (vX w) s tb L s' kQ L'/\lS kQ L' w ks/\WQ ks<=vX w
def LJ(m:Nat)(a:Ss):Prop:=∀s tb L x,GI s tb L->tb.length+Xk a<=900->∃ks s' kQ L',wA [M,x] (gN 0) (cN "Facts" "asked" aM (cv m) 1 no) 1 aM (gS a) (dz s)=Y (qb ks,dz s')/\Go (Xk a) s tb L s' kQ L'/\CP kQ L' a ks
def acN(m:Nat)(a:Ss):Prop:=∀s tb L,GI s tb L->tb.length+pT a<=900->∃s' kQ L',cD m [dz s,.lst<|gS a]=Y (.int<|2 ^ tb.length,dz s')/\Go (pT a) s tb L s' kQ L'/\kD kQ L' 0 a tb.length/\tb.length<kQ.length
theorem qo:∀w:Ws,(vK w).length<=vX w
 |.nil=>by simp[vK]
 | .cons w r=>by
  have:=qo r;have:1<=lI w:=by cases w<;>simp[lI]<;>omega
  grind [vK,vX,bQ]
def QE{m:Nat}{a:Ss}(hm:oO a<=12)(n:EB a)(hn:a ≠ .nil)(h:LJ m a):acN (m+1) a:=by
 intro s tb L I b;rw[E']at b;let ib:=I.bits;let(s1,e1,G1,q1):=GH I a n Ž;let g1:=QR (a:=a) G1 q1;let(ks,s2,ZU,L2',e2,g2,ha):=h s1 _ L (oF s1) G1 (by rw[aU,o5];lia);let hl:=CP.len a ks ha;let l2:=g2.len;rw[aU,o5]at l2;let hL:∀l∈L,l.1<tb.length:=λl hl=>by let(b,n,h):=I.lst l hl;exact Ja h
 let(G3,ht):=UX (e:=0) g2 hL hl;let few:=g2.gi.few;let fb:=g2.gi.bits;have hv:=YM (G:=cD m) hn hl e1 e2 Ž (by rw[g2.gi.cG,ar];lia);rw[ib]at hv;let aix:1<=cj a:=by
  cases a with|nil=>exact absurd W hn|cons _ _ _ r=>simp[cj]
 refine(_,ZU,L2'++kW ks tb.length 0,hv,?_,BU a ks tb.length hn (CP.up (tb:=ZU) (L:=L2') (id,λx h=>by simp[h]) a ks ha) ht (λl h=>by simp[h]),Ž);have g:=(g1.trans g2).le (sz':=pT a) (by grind [E']);let(c,hc):=g.ld;refine(G3,g.q,g.add,(c++kW ks tb.length 0,by rw[hc,bF]),λl hl =>?_,λz l hl =>?_)
 rotate_left
 .let(x,y):=CP.ln a ks ha (by grind [E']);exact(aD.mp hl).elim (g.lk z l)<|Kk ks _ 0 Ž y l
 obtain hl|hl:=aD.mp hl
 .exact g.lo l hl
 .exact .inr (F9 ks _ 0 l hl).1
mutual
theorem Hb{T:aP->Prop}:∀(w:Wi) (m:Nat),j6 w<=m->m<=13->NmW w->OkW T w->acW m w
 |w,0,h,_,_,_=>by cases w<;>simp[j6]at h
 |.any,m+1,h,_,_,_=>λs tb L I b=>(.mk 0 .nil,s,tb,L,ND,(Go.refl I).le ż,W,Ÿ)
 | .txt t,m+1,h,hm,_,o=>λs tb L I b=>by
  let ib:=I.bits;simp only[lI]at b;let(j,f,tx,e,G,hx,hj,q):=Te I Ž t;refine(.mk (2 ^ j) .nil,f,tb++tx,L,?_,(G,q,(tx,W,?_),([],ż),λ_ =>.inl,id),(j,W,hj),Ÿ)
  .have:=Jz (F:=cv m) (a:=cD m) e;rw[yd]at this;exact this
  .obtain rfl|rfl:=hx
   .simp
   .exact Ÿ
 | .has a,m+1,h,hm,n,o=>λs tb L I b=>by
  let hd:oO a<=m:=by grind [j6]
  let hp:=D_ a;obtain⟨m,rfl⟩:∃k,m=k+1:=(m-1,Ž);simp only[lI]at b;let(s',kQ,L',e,g,hs,lt):=QE Ž n o.1 (yK a m hd Ž n o.2) s tb L I Ž;refine(.mk (2 ^ tb.length) .nil,s',kQ,L',?_,g.le (by simp[lI]),(_,W,hs),by simp[N3,N5,yo]);have:=NC (F:=cv<|m+1) e
  exact Ÿ
 |.one w,m+1,h,hm,n,o=>λs tb L I b=>by simp only[lI]at b;let(ks,s',kQ,L',e,g,ha,c):=Ep w m (by simp only[j6]at h;lia) Ž n o s tb L (oF s) I Ž;let wl:=qo w;refine(.mk 0<|.cons ks .nil,s',kQ,L',NB<|zI (ds:=vK w) W W W Ž e,g.le (by simp[lI]),(ks,ha,W),by simp[N3,N5,yo,lI])
 |.both w,m+1,h,hm,n,o=>λs tb L I b=>by simp only[lI]at b;let(ks,s',kQ,L',e,g,ha,c):=Ep w m (by simp only[j6]at h;lia) Ž n o s tb L (oF s) I Ž;let wl:=qo w;refine(fW ks,s',kQ,L',JA (by grind [yp])<|zI (ds:=vK w) W W W Ž e,g.le (by simp[lI]),(ks,ha,W),by grind [yp,lI])
theorem Ep{T:aP->Prop}:∀(w:Ws) (m:Nat),BG w<=m->m<=13->NmA w->OkA T w->Zy m w
 |.nil,m,_,_,_,_=>λs tb L x I b=>(.nil,s,tb,L,W,(Go.refl I).le ż,W,by simp[WQ])
 | .cons w r,m,h,hm,n,o=>λs tb L x I b=>by
  simp only[BG]at h;simp only[vX]at b;refine ae λkk =>?_
  let(k,s1,tb1,L1,e1,g1,a1,c1):=Hb w m ŷ hm n.1 o.1 s tb L I Ž;let n1:=g1.len;let(ks,s2,ZU,L2',e2,g2,a2,c2):=Ep r m ŷ hm n.2 o.2 s1 tb1 L1 x g1.gi Ž;refine kk<|(.cons k ks,s2,ZU,L2',Dx ſ (λs=>rfl) e1 e2,g1.trans g2,(k,ks,nQ.up g2.up w k a1,a2,W),by grind [WQ,vX])
theorem yK{T:aP->Prop}:∀(a:Ss) (m:Nat),oO a<=m+1->m<=13->EB a->OkS T a->LJ m a
 |.nil,m,_,_,_,_=>λs tb L x I b=>(.nil,s,tb,L,W,(Go.refl I).le ż,W)
 | .cons bb nm w r,m,h,hm,n,o=>λs tb L x I b=>by
  simp only[oO]at h;simp only[Xk]at b;refine ae λkk =>?_
  let(k,s1,tb1,L1,e1,g1,a1,c1):=Hb w m ŷ hm n.2.1 o.1 s tb L I Ž;let n1:=g1.len;let(ks,s2,ZU,L2',e2,g2,a2):=yK r m ŷ hm n.2.2 o.2 s1 tb1 L1 x g1.gi Ž;refine kk<|(.cons k ks,s2,ZU,L2',Dx (v:=rH w) ſ (λs =>?_) e1 e2,g1.trans g2,(k,ks,nQ.up g2.up w k a1,a2,W));exact ź
end
def rM{c:bL}{τ:BJ}{e:DF}{d x:D}{ρ:bL}{ds r:!D}(h:τ d c=Y ρ)(g:e ρ=Y x)(k:rN c τ gR e ds=Y r):rN c τ gR e (d::ds)=Y (x::r):=by
 simp_all [rN,aw,gR,if_true]
noncomputable def zE:D->Nat
 |.int i=>i.toNat|_=>0
def SH(s:FB)(L:!(Nat×Ak)):Fa where
 inner:=s.inner.toNat
 star:=s.d_.toNat
 named:=λn=>s.d_.toNat ||| zE ((bX s.nk s.nv<|b_ n).getD<|.int 0)
 text:=λt=>zE<|(bX s.tk s.tv<|b_ t).getD<|.int 0
 mark:=0
 cG:=L
 fresh:=af ""
 long:=0
abbrev fk9:!aP:=["question","bits","by_name","by_text","starred","stars","inner","leads","asks"]
def dsF(s:FB)(asks:!D):!D:=[.lst s.q,.int (s.bits:Nat),.i9 s.nk s.nv,.i9 s.tk s.tv,.int s.d_,.int s.sy,.int s.inner,.lst s.cG,.lst asks]
section
variable {s:FB}{tb:!ka}{L:!(Nat×Ak)}
def qQ(I:GI s tb L):s.inner=(s.inner.toNat:Int)/\∀i,s.inner.toNat.testBit i=Z'↔∃nm,tb[i]?=Y (ka.st Z' nm):=by
 let(m,e,h):=I.inner
 simp_all
def DV(I:GI s tb L):s.d_=(s.d_.toNat:Int)/\∀i,s.d_.toNat.testBit i=Z'↔∃b,tb[i]?=Y (ka.st b M):=by
 let(m,e,h):=I.star
 simp_all
def DW(I:GI s tb L)(n:aP):(bX s.nk s.nv<|b_ n).getD (.int 0)=.int (zE ((bX s.nk s.nv<|b_ n).getD<|.int 0):Nat)/\∀i,(zE<|(bX s.nk s.nv<|b_ n).getD<|.int 0).testBit i=Z'↔∃b,tb[i]?=Y (ka.st b<|Y n):=by
 let(m,e,h):=I.name n;rw[e]
 exact Ÿ
def DU(I:GI s tb L)(t:aP):(bX s.tk s.tv<|b_ t).getD (.int 0)=.int (zE ((bX s.tk s.tv<|b_ t).getD<|.int 0):Nat)/\∀i,(zE<|(bX s.tk s.tv<|b_ t).getD<|.int 0).testBit i=Z'↔tb[i]?=Y (ka.tx t):=by
 obtain⟨a,c⟩|⟨j,a,c⟩:=I.text t
 .rw[a];refine(W,λi =>?_);constructor
  .intro h;simp[zE]at h
  .exact λh=>absurd h<|c i
 .let e:zE ((Y<|D.int<|2 ^ j).getD<|.int 0)=2 ^ j:=by solve_by_elim
  grind
def Jy{b:Bool}{P:Prop}(h:b=Z'↔P)(n:¬P):b=false:=by
 simp_all
def Td(I:GI s tb L){t:aP}{j:Nat}(h:tb[j]?=Y (.tx t)):Ey (SH s L) t j:=by
 refine(Jy ((qQ I).2 j) ?_,λl hl e =>?_,?_,λs' =>?_)
 .lia
 .let(b,n,z):=I.lst l hl
  simp_all
 .exact Hn j
 .show (zE _).testBit j=Z'↔_;rw[(DU I s').2 j,h];constructor
  .intro z;cases z;rfl
  .intro z;rw[z]
def Tn(I:GI s tb L){b:Bool}{nm:↑aP}{j:Nat}{k:Ak}(h:tb[j]?=Y (.st b nm))(hl:(j,k)∈L):R4 (SH s L) b nm j k:=by
 refine(?_,λn =>?_,hl,λl hl' e =>?_,?_,λs' =>?_)
 .have:=(qQ I).2 j;cases b with
  |true=>exact this.mpr (nm,h)|false=>exact Jy this Ž
 .show (s.d_.toNat ||| zE _).testBit j=Z'↔_;rw[iu,bx,(DV I).2 j,(DW I n).2 j,h];cases nm with
  |none=>simp[iD]|some m=>simp[iD]
 .let nd:=I.lnd;have:∀ {L:!(Nat×Ak)},(L.map (·.1)).Nodup->∀x∈L,∀y∈L,x.1=y.1->x=y:=by
   intro L
   induction L with|nil=>grind|cons p L ih=>grind
  exact Ÿ
 .exact Hn j
 .exact Jy ((DU I s').2 j) Ż
mutual
theorem nQ.r(I:GI s tb L):∀(w:Wi) (k:Ak),nQ tb L w k->VL (SH s L) w k
 |.any,k,h=>h|.txt t,k,(j,e,h)=>(j,e,Td I h)|.has s,k,(j,e,h)=>(j,e,kD.r I s j h)|.both w,k,(ks,h,e)=>(ks,lS.r I w ks h,e)|.one w,k,(ks,h,e)=>(ks,lS.r I w ks h,e)
theorem lS.r(I:GI s tb L):∀(w:Ws) (k:As),lS tb L w k->CO (SH s L) w k
 |.nil,k,h=>h|.cons w r,k,(x,y,a,b,e)=>(x,y,nQ.r I w x a,lS.r I r y b,e)
theorem kD.r{e:Nat}(I:GI s tb L):∀(a:Ss) (j:Nat),kD tb L e a j->Ez (SH s L) e a j
 |.nil,j,h=>h|.cons b nm w r,j,(n,c,f,a,t,l,h)=>(n,c,f,nQ.r I w _ a,Tn I t l,h.imp id λ(x,y)=>(kD.r I r _ x,y))
end
end
theorem Fi:∀s:Ss,(gS s).length<=pT s
 |.nil=>by simp[gS]
 | .cons b nm w r=>by
  have:=Fi r
  grind [gS,pT,bQ]
def Ow{f g:DF}{ρ:bL}{x y:D}(h:f ρ=Y x)(k:g ρ=Y y):i8 (aC f<|aC g aN) ρ=Y (.tup [x,y]):=by unfold i8 aC;rw[h,k];rfl
def aay{f g e:DF}{ρ:bL}{x y z:D}(h:f ρ=Y x)(k:g ρ=Y y)(l:e ρ=Y z):i8 (aC f<|aC g<|aC e aN) ρ=Y (.tup [x,y,z]):=by unfold i8 aC;rw[h,k,l];rfl
def tY{x:String}{r:!D}(y:String):dG (e2 hU (e2 cw (eV 0) f8)<|eK<|kS y) [Y<|.tup<|kS x::r]=Y (af x==af y):=Ml<|show qa (kS x::r) ((0:Nat):Int)=_ from dX W
section
variable {A B:!D->↑D}
abbrev bv:=i8<|aC (eK<|kS "both")<|aC (eK<|kS "one") aN
def Lp{x:String}{r:!D}(h:(af x==af "has")=Z_)(k:dG (e2 Ix (e2 cw (eV 0) f8) bv) [Y<|.tup<|kS x::r]=Y Z_):jN 1 1 (nM A B) [.tup<|kS x::r]=Y (.tup<|kS x::r):=bq (mu ((tY _).trans<|congrArg Y h)<|mu k W) W
def Lo{k:String}{x y:!D}(n:x.length<=1000)(h1:(af k==af "has")=Z_)(h2:dG (e2 Ix (e2 cw (eV 0) f8) bv) [Y<|.tup [kS k,.lst x]]=Y Z')(h:rN [M] (gN 0) gR (be B Db) x=Y y):jN 1 1 (nM A B) [.tup [kS k,.lst x]]=Y (.tup [kS k,.lst y]):=bq (mu ((tY _).trans<|congrArg Y h1)<|ly h2<|Ow W<|gW<|kA W n h) W
end
mutual
theorem qZ:∀(w:Wi) (m:Nat),j6 w<=m->lI w<=900->c6 m [rH w]=Y (rH w)
 |w,0,h,_=>by cases w<;>simp[j6]at h
 |.any,m+1,h,_=>Lp ſ ź
 |.txt t,m+1,h,_=>Lp ſ ź
 |.has s,m+1,h,b=>by simp only[j6]at h;simp only[lI]at b;exact bq (ly (tY _)<|Ow W<|(rg W).trans<|Cy s m Ž Ž) W
 |.both w,m+1,h,b=>by simp only[j6]at h;simp only[lI]at b;exact Lo (by have:=qo w;lia) ſ ź (pH w m Ž Ž)
 |.one w,m+1,h,b=>by simp only[j6]at h;simp only[lI]at b;exact Lo (by have:=qo w;lia) ſ ź (pH w m Ž Ž)
theorem pH:∀(w:Ws) (m:Nat),BG w<=m->vX w<=900->rN [M] (gN 0) gR (be (c6 m) Db) (vK w)=Y (vK w)
 |.nil,m,_,_=>rfl|.cons w r,m,h,b=>by simp only[BG]at h;simp only[vX]at b;rw[vK];exact rM (ρ:=[Y<|rH w]) W (qZ w m ŷ Ž) (pH r m ŷ Ž)
theorem vt:∀(s:Ss) (m:Nat),oO s<=m+1->pT s<=900->rN [M] (gN 0) gR (i8<|aC (e2 cw (eV 0) f8)<|aC (e2 cw (eV 0) u8)<|aC (be (c6 m) ol) aN) (gS s)=Y (gS s)
 |.nil,m,_,_=>rfl|.cons b nm w r,m,h,z=>by simp only[oO]at h;simp only[pT]at z;rw[gS];exact rM W (aay W W<|(rg W).trans<|qZ w m ŷ Ž)<|vt r m ŷ Ž
theorem Cy:∀(s:Ss) (m:Nat),oO s<=m->pT s<=900->jE m [.lst<|gS s]=Y (.lst<|gS s)
 |s,0,h,_=>by grind [D_]
 |s,m+1,h,z=>bq (B7<|kA (l:=gS s) W (by grind [Fi]) (vt s m h z)) W
end
abbrev pF(a:!aP)(b:!D):↑D:=Y<|.obj aM<|.ins "Facts" a b
def aa7{F:!D->↑D}(h:F [q]=Y d):fm Z_ 0 "Facts" "question" (be F na) [pF [] [],Y q]=Y (.nx [pF ["question"] [d],Y q]):=by
 let e:be F na [pF [] [],Y q]=Y d:=rfl.trans h;unfold fm;rw[e]
 exact Ÿ
noncomputable def s00(q:!D):FB:=(q,0,[],[],[],[],0,0,0,[])
def aaZ(q:!D):GI (s00 q) [] []:=by
 refine(W,(0,W,ż),(0,W,ż),λn=>(0,W,ż),W,aF _,λt =>.inl (W,ż),W,aF _,W,ż,ŷ,aF _)
def UQ{T:aP->Prop}(a:Ss)(n:EB a)(o:OkS T a)(hd:oO a<=12)(z:pT a<=900):
  ∃ks s1 s tb L,eU [.ins "Facts" [] [],.lst<|gS a]=Y (.dC,.ins "Facts" fk9<|dsF s<|qb ks)/\s.q=gS a/\Go (Xk a) s1 (qw a) [] s tb L/\CP tb L a ks:=by
 let hc:AV [.lst<|gS a]=Y (.lst<|gS a):=Cy a 12 hd z;let zz:=E' a;let(s1,e1,G1,q1):=GH (aaZ<|gS a) a n (by show 0+cj a<=1000;lia);rw[dB]at G1;let(ks,s,tb,L,e2,g2,ha):=yK a 12 ž (by trivial) n o s1 _ [] (oF s1) G1 (by rw[o5];simp_all);let YG:s1.q=gS a:=q1;refine(ks,s1,s,tb,L,?_,g2.q.trans YG,g2,ha);let abM:iL lm [oF s1,Y<|.lst<|gS a]=Y (gS a):=by
  have:iL lm [oF s1,Y<|.lst<|gS a]=Y s1.q:=by kernel_rfl
  rw[this,YG]
 let e3:=zI (f:=iL lm) (ρ:=[oF s1,Y<|.lst<|gS a]) abM W W (by rw[o8];lia) e2;generalize (qb ks)=A at *
 rw[show cv 12=nP from W]at e3;show (oH [pF [] [],Y<|.lst<|gS a]).bind (Mz aM)=_;refine bq (sq (aa7 hc)<|sq W<|sq W<|sq W<|sq W<|sq W<|sq W<|sq (ρ':=[oF<|s00<|gS a,Y<|.lst<|gS a]) ź (sq (ρ':=[oF s1,Y<|.lst<|gS a]) ?_ W)) ?_
 .unfold jM;rw[kX (s:=s00<|gS a) (s1:=s00<|gS a) (ρ1:=[oF<|s00<|gS a,Y<|.lst<|gS a]) (args:=[.lst<|gS a]) (by decide) W (by kernel_rfl) W e1];rfl
 .unfold Ig;rw[e3];exact ź
end K21
namespace K21
open PySem L2
noncomputable def tf:cy:=(-1,0,0,0,1,1,1,1)
abbrev pC(a:!aP)(b:!D):↑D:=Y<|.obj aT<|.ins "Coming" a b
def Yi{F:!D->↑(D×D)}{f:vC}(h:F [.ins "Facts" [] [],q]=Y (.dC,gr f)):fm Z_ 0 "Coming" "facts" (qV "Facts" F na) [pC [] [],Y q]=Y (.nx [pC ["facts"] [gr f],Y q]):=by
 let e:qV "Facts" F na [pC [] [],Y q]=Y (gr f):=by show (F _).bind _=_;rw[h];rfl
 unfold fm;rw[e]
 exact Ÿ
def Yj{F:!D->↑D}{f:vC}(h:F [f.qd]=Y (.int a)):fm Z_ 0 "Coming" "able" (qU [0] []<|be F db) [pC ["facts","full"] [gr f,.int b],Y q]=Y (.nx [pC ["facts","full","able"] [gr f,.int b,.int a],Y q]):=by
 let e:qU [0] [] (be F db) [pC ["facts","full"] [gr f,.int b],Y q]=Y (.int a):=by
  have:qU [0] [] (be F db) [pC ["facts","full"] [gr f,.int b],Y q]=(F [f.qd]).bind λd=>if qF d=Z' then Y d else none:=by kernel_rfl
  rw[this,h];rfl
 unfold fm;rw[e]
 exact Ÿ
def Nu{f:vC}(i:f.qd=.lst f.q)(d:f.q.length<=1000)(g:eU [.ins "Facts" [] [],.lst q]=Y (.dC,gr f))(h:iU [f.qd]=Y (.int a)):
  eE [.ins "Coming" [] [],.lst q]=Y (.dC,cO (f,2 ^ f.q.length,a,0,0,[tf],[])):=by
 show (jQ [pC [] [],Y<|.lst q]).bind (Mz aT)=_;unfold jQ;rw[tq<|Yi g];let q1:fm Z_ 0 "Coming" "full" (qU [0] [] UF) [pC ["facts"] [gr f],Y<|.lst q]=Y (.nx [pC ["facts","full"] [gr f,.int<|2 ^ f.q.length],Y<|.lst q]):=by
  let e:qU [0] [] UF [pC ["facts"] [gr f],Y<|.lst q]=Y (.int<|2 ^ f.q.length):=by refine kP W ?_ W;refine(show _=(iC [f.qd]).bind (r9<|.int 1) from W).trans ?_;rw[i];exact Xp d
  unfold fm;rw[e]
  exact Ÿ
 rw[tq q1];generalize (2:Int) ^ f.q.length=b;rw[tq<|Yj h];let q2:fm Z_ 0 "Coming" "taken" f8 [pC ["facts","full","able"] [gr f,.int b,.int a],Y<|.lst q]=Y (.nx [pC ["facts","full","able","taken"] [gr f,.int b,.int a,.int 0],Y<|.lst q]):=by kernel_rfl
 let q3:fm Z_ 0 "Coming" "opened" f8 [pC ["facts","full","able","taken"] [gr f,.int b,.int a,.int 0],Y<|.lst q]=Y (.nx [pC ["facts","full","able","taken","opened"] [gr f,.int b,.int a,.int 0,.int 0],Y<|.lst q]):=by kernel_rfl
 let q4:qE 0 "Coming" "rows" (.li<|.fs "Row" []) (Y3<|Rj "Row"<|λ_=>rR []) [pC ["facts","full","able","taken","opened"] [gr f,.int b,.int a,.int 0,.int 0],Y<|.lst q]=Y (.nx [pC ["facts","full","able","taken","opened","rows"] [gr f,.int b,.int a,.int 0,.int 0,.lst [dE tf]],Y<|.lst q]):=by kernel_rfl
 let c:fm Z_ 0 "Coming" "rests" nb [pC ["facts","full","able","taken","opened","rows"] [gr f,.int b,.int a,.int 0,.int 0,.lst [dE tf]],Y<|.lst q]=Y (.nx [oC (f,b,a,0,0,[tf],[]),Y<|.lst q]):=by kernel_rfl
 rw[tq q2,tq q3,tq q4,c];exact ź
def UE(h:eE [.ins "Coming" [] [],.lst q]=Y (.dC,cO c)):gY [.ins "Lean" [] [],.lst q]=Y (.dC,gx c):=by
 show (lC [Y<|.obj eB<|.ins "Lean" [] [],Y<|.lst q]).bind (Mz eB)=_;unfold lC;have e:qV "Coming" eE na [Y<|.obj eB<|.ins "Lean" [] [],Y<|.lst q]=Y (cO c):=by
  have:∀F,qV "Coming" F na [Y<|.obj eB<|.ins "Lean" [] [],Y<|.lst q]=(F [.ins "Coming" [] [],.lst q]).bind λr=>match r.1 with|.dC=>Y r.2|_=>none:=λF=>rfl
  rw[this,h];rfl
 unfold qE;rw[e];simp only[aw];exact ź
def O_(n:Nat):(0:Int)<=2 ^ n:=Int.le_of_lt<|Int.pow_pos ſ
abbrev Sm(k:Nat)(x:Int):Prop:=0<=x/\x<2 ^ k
def Er{x y:Int}(a:0<=y):0<=bA x y/\bA x y<=y:=by
 have h:∀n:Nat,n<=y.toNat->(n:Int)<=y:=λn l=>EI (V1.mpr l)<|Int.le_of_eq<|Int.toNat_of_nonneg a
 unfold bA uD;rw[decide_eq_true a];cases decide (0<=x)
 .exact(Int.sub_nonneg_of_le<|h _ Nat.and_le_left,Int.sub_le_self _<|fZ _)
 .exact(fZ _,h _ Nat.and_le_right)
def Ia{x:Int}(h:Sm k y):Sm k<|bA x y:=((Er h.1).1,BN (Er h.1).2 h.2)
def Wb(h:Sm k x):Sm (k+1)<|bO x<|2 ^ k:=by
 let(a,rfl):=iy h.1;let e:((2 ^ k:Nat):Int)=2 ^ k:=by simp
 let b:=h.2;rw[<- e]at b ⊢;rw[uo];have:a ||| 2 ^ k<2 ^ (k+1):=Nat.or_lt_two_pow Ž ž
 grind
def OM(h:Sm k x):Sm (k+1) x:=(h.1,ž)
theorem Q4{n:Nat}{named atoms:Int}:∀(c:!D) (k:Nat) (b:Int),Sm k b->Sm (k+c.length) (BD n named atoms k b c)
 |[],k,b,h=>h|a::c,k,b,h=>by rw[bQ,show k+(c.length+1)=k+1+c.length by lia];exact Q4 (n:=n) (named:=named) (atoms:=atoms) c _ (if bA named (2 ^ k) != 0&&mW n a atoms then bO b _ else b) (by split;exact Wb h;exact OM h)
theorem Wc:∀ {j k:Nat},Sm j x->j<=k->Sm k x
 | j,k,h,a=>by
  let(m,rfl):=Nat.exists_eq_add_of_le a
  induction m with
  |zero=>exact h|succ m ih=>exact OM<|ih ż
def tz(x:Int)(i:Nat):Bool:=if 0<=x then x.toNat.testBit i else (not<|(bN x).toNat.testBit i)
theorem kh(a i:Nat):tz (a:Int) i=a.testBit i:=by solve_by_elim
theorem nH(x:Int)(i:Nat):tz (bN x) i = (not<|tz x i):=by
 let n:0<=bN x↔¬0<=x:=PyProof.Rows.bitNot_nonneg;unfold tz;rw[show bN _=x from PyProof.Rows.bitNot_bitNot x];by_cases h:0<=x
 .rw[if_neg λz=>n.mp z h,if_pos h]
 .rw[if_pos<|n.mpr h,if_neg h,Bool.not_not]
def NG(x y:Nat)(i:Nat):(x-(x &&& y)).testBit i=(x.testBit i && (not<|y.testBit i)):=by
 let h:=LW (x ^^^ x &&& y)<|x &&& y;let b:x ^^^ x &&& y ||| x &&& y=x:=nT λj=>by rw[iu,Nat.testBit_xor,oX];cases x.testBit j<;>cases y.testBit j<;>solve_by_elim
 let a:(x ^^^ x &&& y) &&& (x &&& y)=0:=nT λj=>by simp_all
 rw[show x-(x &&& y)=x ^^^ x &&& y by lia,Nat.testBit_xor,oX];cases x.testBit i<;>cases y.testBit i<;>rfl
def EW(b:0<=x)(y:Nat)(i:Nat):tz (x-((x.toNat &&& y:Nat):Int)) i=(x.toNat.testBit i && (not<|y.testBit i)):=by
 let(a,rfl):=iy b;rw[bG,show a-(a &&& y:Int)=(a-(a &&& y):Nat) by grind [Nat.and_le_left],kh,NG]
theorem c5(x y:Int)(i:Nat):tz (bA x y) i=(tz x i&&tz y i):=by
 by_cases b:0<=x<;>by_cases a:0<=y
 .rw[show bA x y=_ from PyProof.Rows.bitAnd_pp b a,kh,oX,tz,if_pos b,tz,if_pos a]
 .rw[show bA x y=_ from PyProof.Rows.bitAnd_pn b a,EW b,tz,if_pos b,tz,if_neg a]
 .rw[show bA x y=_ from PyProof.Rows.bitAnd_np b a,EW a,tz,if_neg b,tz,if_pos a,Bool.and_comm]
 .rw[show bA x y=_ from PyProof.Rows.bitAnd_nn b a,nH,kh,iu,tz,if_neg b,tz,if_neg a,Bool.not_or]
def kb(x y:Int)(i:Nat):tz (bO x y) i=(tz x i||tz y i):=by
 show tz (bN _) i=_
 simp_all [nH,c5,Bool.not_and,Bool.not_not]
def Oq(x:Int)(i:Nat):tz (x*2) i=(decide (1<=i)&&tz x (i-1)):=by
 have b:∀a:Nat,(2*a).testBit i=(decide _&&a.testBit _):=λa=>by rw[show 2*a=a <<< 1 by rfl,Nat.testBit_shiftLeft]
 unfold tz;by_cases h:0<=x
 .rw[if_pos (by lia),if_pos h,show (x*2).toNat=2*x.toNat by lia,b]
 .rw[if_neg (by lia),if_neg h,show (bN _).toNat=2*(bN x).toNat+1 by unfold bN uC;lia];cases i with
  |zero=>simp|succ i=>rw[Nat.testBit_succ,show (2*(bN x).toNat+1)/2=(bN x).toNat by lia];trivial
def qr(k i:Nat):tz ((2:Int) ^ k) i=decide (k=i):=by
 let e:(2 ^ k:Nat)=(2:Int) ^ k:=by simp
 rw[<- e,kh,A6]
def HR(d:0<=x)(c:0<=y)(h:∀i,tz x i=tz y i):x=y:=by
 let(a,rfl):=iy d;let(b,rfl):=iy c;have:a=b:=nT λi=>by solve_by_elim
 rw[this]
theorem je(i:Nat):tz 0 i=false:=by rw[show 0=((0:Nat):Int) from W,kh,Hn]
def mh(x:Int)(k:Nat):(bA x (2 ^ k) != 0)=tz x k:=by
 have b:∀i,tz (bA x<|2 ^ k) i=(tz x i&&decide (k=i)):=λi=>by rw[c5,qr]
 cases e:tz x k with
 |true=>
  rw[bne_iff_ne]
  grind [je]
 |false=>
  have:bA x (2 ^ k)=0:=HR ((Er (x:=x) (O_ k)).1) ſ λi=>by grind [je]
  simp_all
abbrev Le(x y:Int):Prop:=∀i,tz x i=Z'->tz y i=Z'
def Kt{x:Int}(h:Le x b)(g:Le y a):Le (bO x y)<|bO b a:=λi e=>by
 rw[kb,bx]at e ⊢;exact e.imp (h i)<|g i
def IL(h:Le x b)(g:Le y a):Le (bA x y)<|bA b a:=λi e=>by
 simp_all [c5,ax]
theorem wz(x y:Int):Le x<|bO x y:=λi e=>by rw[kb,e];rfl
def yx(x:Int):Le 0 x:=λi e=>by simp_all [je]
def WK{f:Int}(l:Le p c)(k:Le a g)(j:Le f d):Le (xo b p a f)<|xo b c g d:=λi e=>by
 unfold xo at e ⊢;rw[Oq,ax]at e ⊢;exact(e.1,IL (Kt l<|IL k λ_ h=>h) j _ e.2)
theorem IF:∀(n m:Nat) (b:D) (a f:Int),rE m b->Le a f->mW n b a=Z'->mW n b f=Z'
 |0,m,b,a,f,_,_,h=>nomatch h|n+1,0,b,a,f,h,_,_=>h.elim| n+1,m+1,b,a,f,s,l,h=>by
  let(d,u,rfl,o,_,r):=s;simp only[IG,ax,beq_iff_eq]at h ⊢;refine(HR (Er o).1 o λi =>?_,?_)
  .rw[c5];cases e:tz d i with
   |false=>rw[NV]|true=>
    have:tz (bA a d) i=true:=by simp_all
    rw[c5]at this
    simp_all
  .rw[dI]at h ⊢;intro c j;let(t,rfl,_,q):=r c j;let p:=h.2 _ j;simp at p ⊢;let(x,g,k):=p;exact(x,g,IF n m x a f (q x g) l k)
theorem fit_le{m:Nat}{f:Int}(h:Le a j):∀(b:!D) (k:Nat) (x d:Int),(∀p∈b,rE m p)->Le x d->Le (BD n f a k x b) (BD n f j k d b)
 |[],k,x,d,_,g=>g| p::b,k,x,d,l,g=>by
  refine fit_le h b _ _ _ (λq o=>l q Ÿ) ?_;by_cases c:(bA f (2 ^ k) != 0&&mW n p a)=Z'
  .have:(bA f (2 ^ k) != 0&&mW n p j)=true:=by rw[ax]at c ⊢;exact(c.1,IF n m p a j (l p az) h c.2)
   rw[if_pos c,if_pos this];exact Kt g λ_ h=>h
  .rw[if_neg c];split
   .exact λi e=>wz _ _ i<|g i e
   .exact g
structure FW(f:vC)(able:Int)(fit lift:Int->Int->Int)(stp txt:aP->Int):Prop where
 ok:VJ f fit lift
 st:FSt f stp txt
 sm:∀n a,Sm 63<|fit n a
 mono:∀n a a',Le a a'->Le (fit n a) (fit n a')
 able:Sm 63 able
end K21
namespace K21
open PySem L2 K30
def P5{j:Int}(h:0<j):fS (.int i) (.int j)=Y (.int<|i%j):=if_pos h
section
variable {f g:DF}{i j:Int}(a:f ρ=some (.int i))(b:g ρ=some (.int j))
include a
def h_(h:‹0<j›):e2 fS f (eK<|.int j) ρ=Y (.int<|i%j):=(cp a W).trans<|P5 h
def nA(h:‹0<j/\j<2 ^ 64›):e2 kf f (eK<|.int j) ρ=Y (.int<|i/j):=(cp a W).trans (show (if _ then _ else _)=_ by rw[if_pos<|by trivial])
def wM:dG (e2 hU f<|eK<|.int j) ρ=Y (i==j):=gQ<|(cp a W).trans W
def zQ:dG (e2 JJ f<|eK<|.int j) ρ=Y (decide (i<j)):=gQ<|(cp a W).trans W
def Ag:dG (e2 Iz f<|eK<|.int j) ρ=Y (decide (j<i)):=gQ<|(cp a W).trans W
include b
def Ga(h:0<j):e2 fS f g ρ=Y (.int<|i%j):=(cp a b).trans<|P5 h
def zG(h : -(2 ^ 64)<j/\j<2 ^ 64):e2 u6 f g ρ=Y (.int<|i*j):=(cp a b).trans (show (if _ then _ else _)=_ by rw[if_pos<|by simp_all])
def aaP:e2 px f g ρ=Y (.int<|i-j):=cp a b
def mS:e2 gA f g ρ=Y (.int<|i+j):=cp a b
end
def LS{f:DF}{i j:Int}(a:f ρ=Y (.int i))(h :‹-(2 ^ 64)<j/\j<2 ^ 64›):e2 u6 f (eK<|.int j) ρ=Y (.int<|i*j):=zG a W h
def tV{f g:DF}{l:!D}{z:Int}(a:f ρ=Y (.lst l))(b:g ρ=Y (.int z))(h:qa l z=Y d):e2 cw f g ρ=Y d:=(cp a b).trans h
noncomputable def Uv(c t:Int):Int:=(c%2147483647+t*t*7919+104729)*48271%2147483647
def Yh(c t:Int):Int:=(Uv c t*Uv c t+69621*t)%2147483629
def P6(c t:Int)(e:0<=t)(d:t<=100000):Hh [.int c,.int t]=Y (.int<|Yh c t):=by
 have h0:0<=Uv c t:=cF _ ſ;have h1:Uv c t<2147483647:=cq _ ſ;exact bq (mr (h_<|LS<|mS (mS (h_ W)<|LS<|zG W W ž) W) W)<|wb<|h_<|mS (zG W W Ž)<|zG W W ž
def Uu(c t:Int):0<=Yh c t/\Yh c t<2147483629:=(cF _ ſ,cq _ ſ)
def Ac{a:!Int}{j:Nat}{d:D}(h:(a.map D.int)[j]?=Y d):∃c,a[j]?=Y c/\d=.int c:=by
 rw[aK]at h;let(c,e,h):=aj.1 h;cases h<;>solve_by_elim
def sqX{g h:DG}{l:!D}(e:g a=Y (.ro l)):aR g h a=Y (.ro l):=by
 unfold aR;rw[e];rfl
def sqR{t:DT}{g h:DG}{l:!D}(e:t a=Y Z')(k:g a=Y (.ro l)):aR (g_ t g c8) h a=Y (.ro l):=sqX<|(iF e).trans k
def Qh{f:DF}{l:!Int}(h:f ρ=Y (.lst<|l.map D.int)):be iC (aC f aN) ρ=Y (.int l.length):=(rg h).trans (by rw[<- ar (f:=D.int)];rfl)
def Mr{f:DF}{z:Int}(h:f b=Y (.int z))(a:0<=z)(l:z<=5000):KD f b=Y (kT 0 z.toNat):=YE h (EI ſ a,BN l ſ)
def Yz{f g:DF}{l:!Int}{z v:Int}(b:eV j ρ=Y (.lst<|l.map D.int))(i:f ρ=Y (.int z))(e:g ρ=Y (.int v))(h0:0<=z)(h1:z<l.length):Ft j f g ρ=Y (.nx<|ρ.set j<|Y<|.lst<|(l.set z.toNat v).map D.int):=by
 simp only[Ft,gc,b,e,i,aw];rw[UL h0 (by simpa using h1),vJ];rfl
theorem Qj{g:Int->Int}{c:bL}{e:DF}(h:∀i,e (c.set 0<|Y<|.int i)=Y (.int<|g i)):∀l:!Int,rN c (gN 0) gR e (l.map D.int)=Y ((l.map g).map D.int)
 |[]=>rfl|i::l=>rM W (h i)<|Qj h l
abbrev eC(ns:!Int)(t m:Int)(cs fs:!Int)(a b c d e f:↑D):bL:=[Y<|.kG ns,Y<|.int t,Y<|.int m,Y<|.lst<|cs.map D.int,Y<|.lst<|fs.map D.int,a,b,c,d,e,f]
def WU{f:DF}{l:!Int}{v:Int}(b:eV i a=Y (.lst<|l.map D.int))(n:l.length<5000)(e:f a=Y (.int v)):my i f a=Y (.nx<|a.set i<|Y<|.lst<|(l++[v]).map D.int):=by
 rw[aY];exact lG b (by rw[ar,jg];lia) e
def Ew{f g:DF}{l m:!D}(a:f ρ=Y (.lst l))(b:g ρ=Y (.lst m))(h:l.length+m.length<=5000):e2 gA f g ρ=Y (.lst<|l++m):=(cp a b).trans<|if_pos<|bB h ſ
def vu(ns:!Int)(hns:ns.length<=63)(j_ most:Int)(t0:0<=j_)(t1:j_<=2000)(m0:1<=most)(m1:most<=100):∃xs:!Int,f9 [.kG ns,.int j_,.int most]=Y (xs.map D.int)/\1<=xs.length/\(xs.length:Int)<=most:=by
 have hcl:=bB (Zj ns M<|Y 63) hns;have E1:e2 gA dL (eF<|dW na) [Y<|.kG ns,Y<|.int j_,Y<|.int most,M,M,M,M,M,M,M,M]=Y (.lst<|(CQ ns M (Y 63)++[j_]).map D.int):=by rw[aY];exact Ew W W (by rw[ar];simp;lia)
 have aiR:1<=(CQ ns M (Y 63)++[j_]).length:=ż
 have aiQ:(CQ ns M (Y 63)++[j_]).length<=64:=by simp only[aU,dm];simp_all
 generalize CQ ns M (Y 63)++[j_]=cs at *
 let(c0,ec0):=vy (xs:=cs) (z:=0) ſ Ž;have T:dG Is (eC ns j_ most cs [] M M M M M M)=Y (c0/50000%2==1):=wM<|h_<|nA<|tV W W ec0;cases hb:(c0/50000%2==1) with
 |true=>
  rw[hb]at T;let(ρ',ef,fs,ls,v6,v7,rfl,WI,hls):=oK (τ:=gN 6) (g:=CM) (ds:=kT 0 (j_+most+1).toNat) (λi ρ=>∃(fs ls:!Int) (v6 v7:↑D),ρ=eC ns j_ most cs fs (Y<|.lst<|ls.map D.int) v6 v7 M M M/\fs.length=i/\ls.length=cs.length) ([],cs.map (· / 100000),M,M,W,W,ż) λj d ρ hd (fs,ls,v6,v7,e,WI,hls)=>by
   subst e;let(hj,e):=uR hd;subst e;have k0:=cF (0+(j:Int)) (show (ls.length:Int)≠0 by lia);have k1:=cq (0+(j:Int)) (show (0:Int)<ls.length by lia);let(v,ev):=vy (xs:=ls) k0 k1;refine(_,_,W,mr (d :=.int<|(0+(j:Int))%ls.length) ?_ (sq (WU (v:=v%2147483587) W ž ?_) (Yz (v:=v/2147483587) W W ?_ k0 k1)),_,_,_,_,W,by simp[WI],by simp[hls])
   .exact Ga W (Qh W) Ž
   .exact h_<|tV W W ev
   .exact nA<|tV W W ev
  rw[mC]at WI;have hl:(fs.drop j_.toNat).length=most.toNat+1:=by rw[Hq,WI];lia
  let(v,ev):=vy (xs:=fs.drop j_.toNat) (z:=most) Ž (by rw[hl];lia);have k0:=cF v (show most≠0 by lia);have k1:=cq v (show 0<most by trivial);refine((fs.drop j_.toNat).take (1+v%most).toNat,bq (mr E1 (C5 (l:=[]) W (sqR T (C5 (l:=(cs.map (· / 100000)).map D.int) (kA W (by rw[ar];lia) ?_) (sq ((hJ<|Mr (mS (mS W W) W) Ž Ž).trans ef)<|C5 (l:=(fs.drop j_.toNat).map D.int) ((show _=Y (CQ (fs.map D.int) (Y j_) M) from W).trans<|by rw[GX _ t0,List.map_drop]) (B7 ?_)))))) W,?_)
  .exact Qj (λi=>nA W) cs
  .refine(show _=(pS lw _).bind λh=>Y<|CQ ((fs.drop j_.toNat).map D.int) M h from W).trans ?_;rw[show pS _ _=Y (Y<|1+v%most) from congrArg (ZE · _) (mS W<|Ga (tV W W ev) W<|by lia)];exact congrArg Y (by rw[Ed _ (by lia),kF])
  .rw[j4,hl,JK<|by grind];exact(Ž,Ž)
 |false=>
  rw[hb]at T;let(ρ',ef,num,v6,v9,rfl,_):=oK (τ:=Jc 6 9) (g:=CK) (ds:=xq<|cs.map D.int) (λi ρ=>∃(num:Int) (v6 v9:↑D),ρ=eC ns j_ most cs [] M v6 M (Y<|.int num) v9 M) (0,M,M,W) λj d ρ hd (num,v6,v9,e)=>by subst e;let(x,hx,e):=wO hd;subst e;let(c,hc,e):=Ac hx;subst e;have:=(ah.mp hc).1;exact(_,_,W,kj<|h_<|mS (LS W)<|(Ls W<|mS W W).trans<|P6 _ _ Ž Ž,_,_,_,W)
  have k0:=cF (num/1009) (show most≠0 by lia);have k1:=cq (num/1009) (show 0<most by lia);let(ρ',eg,fs,v6,v10,rfl,WI):=oK (τ:=gN 6) (g:=CJ) (ds:=kT 0 (1+num/1009%most).toNat) (λi ρ=>∃(fs:!Int) (v6 v10:↑D),ρ=eC ns j_ most cs fs M v6 M (Y<|.int num) v9 v10/\fs.length=i) ([],v6,M,W,W) λj d ρ hd (fs,v6',v10,e,WI)=>by subst e;let(hj,e):=uR hd;subst e;have q0:=cF (0+(j:Int)) (show (cs.length:Int)≠0 by lia);have q1:=cq (0+(j:Int)) (show (0:Int)<cs.length by lia);let(v,ev):=vy (xs:=cs) q0 q1;have mz:=Uu v<|num%1009+(0+(j:Int))+j_;exact(_,_,W,mr ((Ls (tV W (Ga W (Qh W) Ž) ev)<|mS (mS (h_ W) W) W).trans<|P6 _ _ Ž ŷ)<|WU W ŷ<|h_<|mS (zG W W ž)<|zG W W ŷ,_,_,_,W,by simp[WI])
  rw[mC]at WI;exact(fs,bq (mr E1<|C5 (l:=[]) W (mu T<|mr W<|sq ((hJ W).trans ef)<|sq ((hJ<|Mr (mS W<|Ga (nA W) W Ž) Ž Ž).trans eg) W)) W,Ž,ŷ)
section
variable {f g:DF}{x y:aP}{l m:!D}
def Xo{u v:DP}{i j:↑Int}(a:f ρ=Y (.str x))(b:u ρ=Y i)(c:v ρ=Y j)(h:x.length<=dQ):D5 f u v ρ=Y (.str<|sT x i j):=by
 simp only[D5,a,b,c,aw];exact if_pos h
def JG(a:f ρ=Y (.str x))(b:g ρ=Y (.str y))(h:x.length+y.length<=dQ):e2 gA f g ρ=Y (.str<|x++y):=(cp a b).trans<|if_pos h
def Ym(a:f ρ=Y (.str x))(h:x.length<=dQ):be iC (aC f aN) ρ=Y (.int x.length):=(rg a).trans<|if_pos h
def el2{d e:D}(h:f ρ=Y d)(k:g ρ=Y e):eF (dW<|aC f<|aC g aN) ρ=Y (.lst [d,e]):=by unfold eF dW aC;rw[h,k];rfl
def aa8{i:Int}(h:f ρ=Y (.int i)):pS f ρ=Y (Y i):=by simp[pS,h]
end
def YX{F:!D->↑(!D)}{g:DL}{l m:!D}(a:g ρ=Y l)(b:F l=Y m):fG F g ρ=Y m:=by unfold fG;rw[a];exact b
def RE{f g:DF}{l:!D}{z:Int}(h:f ρ=Y (.lst l))(k:g ρ=Y (.int z))(n:0<=z):K6 f pN (pS g) ρ=Y (l.take z.toNat):=by
 simp only[K6,h,aa8 k,aw];exact congrArg Y<|Ed _ n
theorem Cb{j:!Int}{c b:Int}{a:aP}(k:a.length<=11):∀(l:!Nat) (L:!aP) (v:↑D),L.length+2*l.length<=100->∃(d:!aP) (u:↑D),gB (gN 5) CH (l.map λi =>.str ⟨#[i]⟩) [Y<|.kG j,Y<|.int c,Y<|.str a,Y<|.int b,Y<|.lst<|L.map D.str,v]=Y (.nx [Y<|.kG j,Y<|.int c,Y<|.str a,Y<|.int b,Y<|.lst<|d.map D.str,u])/\d.length=L.length+2*l.length
 |[],L,v,_=>(L,v,W,W)| i::l,L,v,h=>by
  have t:=NQ a M<|Y b;have s:=NQ a (Y b) M;have e:a.length<=dQ:=by rw[jg];lia
  have n:(⟨#[i]⟩:aP).length=1:=rfl;have la:(af "a").length=1:=Ų
  have ap:∀x y:aP,(x++y).length=x.length+y.length:=λx y=>by show (x.cps++y.cps).size=_;simp;rfl
  have hl:L.length+2*(l.length+1)<=100:=by simpa using h
  have A:=JG (JG (Xo (f:=eV 2) (u:=pN) (v:=pS<|eV 3) (ρ:=[Y<|.kG j,Y<|.int c,Y<|.str a,Y<|.int b,Y<|.lst<|L.map D.str,Y<|.str ⟨#[i]⟩]) W W W e) (g:=eV 5) W (by rw[n,jg];lia)) (Xo (f:=eV 2) (u:=pS<|eV 3) (v:=pN) W W W e) (by rw[ap,n,jg];lia);let(d,u,ef,hM):=Cb (j:=j) (c:=c) (b:=b) k l (L++[(sT a M (Y b)++⟨#[i]⟩)++sT a (Y b) M,((sT a M (Y b)++⟨#[i]⟩)++sT a (Y b) M)++af "a"]) (Y<|.str ⟨#[i]⟩) (by simp;lia);refine(d,u,?_,ŷ);rw[aY]at ef;exact(K21.hI W<|kj<|Ew W (el2 A<|JG A W<|by rw[ap,ap,n,la,jg];lia)<|by rw[ar];simp;lia).trans ef
def PX(j:!Int)(l:j.length<=63):∃f:!aP,yu [.kG j]=Y (.lst<|f.map D.str)/\f.length=5:=by
 let(xs,q,v,u):=vu j l 40 1 ſ ſ ſ ſ;let(c,r):=vy (xs:=xs) (z:=0) ſ Ž;have k:=NQ (af "abcdefabcde") M<|Y<|c%11;have m:(af "abcdefabcde").length=11:=Ų
 have S:=Xo (f:=eK<|.str<|af "abcdefabcde") (u:=pN) (v:=pS<|e2 fS (eV 1)<|eK<|.int 11) (ρ:=[Y<|.kG j,Y<|.int c,M,M,M,M]) W W (aa8<|h_ W) (by rw[m,jg];simp);generalize sT _ M _=a at k S;have g:(af "mno").cps.toList.length=3:=Ų
 let(d,u,ef,hM):=Cb (j:=j) (c:=c) (b:=c/12%(a.length+1)) (a:=a) (by trivial) (af "mno").cps.toList [] M (by rw[g];trivial);have il:iS (eK<|.str<|af "mno") [Y<|.kG j,Y<|.int c,Y<|.str a,Y<|.int<|c/12%(a.length+1),Y<|.lst [],M]=Y (v_<|af "mno"):=if_pos Ų;exact(d.take 5,bq (mr (tV (gW<|YX W q) W r)<|mr S<|mr (Ga (nA W) (mS (Ym W<|by rw[jg];lia) W) ż)<|mr W<|sq ((hJ il).trans ef)<|B7<|RE W W ſ) (by rw[kF];rfl),by rw[j4,hM,g];rfl)
noncomputable abbrev uP:aP:=af "open"
noncomputable abbrev uN:aP:=af "text"
noncomputable abbrev o_:aP:=af "close"
def A1(s:D):Prop:=(∃x,s=.tup [.str uP,.str x])\/(∃x,s=.tup [.str uN,.str x])\/s=.tup [.str o_]
def A1.ok{s:D}(h:A1 s)(n:Nat):iX s (n+1)=true:=by
 obtain⟨x,rfl⟩|⟨x,rfl⟩|rfl:=h<;>trivial
def Ib(h:∀s∈a,A1 s)(n:Nat):ip a (n+1)=true:=by
 induction a with
 |nil=>simp[ip]|cons s a ih=>simp only[ip,(h s az).ok n,ih λs b=>h s (by solve_by_elim),Bool.and_self]
noncomputable def eR:Nat×Bool->me->↑(Nat×Bool)
 |(d,b),.op _=>if 0<d\/b=Z_ then Y (d+1,Z') else M
 |(d,b),.tx _=>if 0<d then Y (d,b) else M
 |(d,b),.cl=>if 0<d then Y (d-1,b) else M
noncomputable def pb:!me->Nat×Bool->↑(Nat×Bool)
 |[],z=>Y z|g::a,z=>(eR z g).bind<|pb a
theorem rK(g:me):∀(a:!me) (z:Nat×Bool),pb (a++[g]) z=(pb a z).bind λb=>eR b g
 |[],z=>by show (eR z g).bind _=eR z g;cases eR z g<;>rfl
 | t::a,z=>by
  show (eR z t).bind _=((eR z t).bind _).bind _;cases eR z t with
  |none=>rfl|some b=>exact rK g a b
structure SG(ss:!D)(dep:Int):Prop where
 sg:∀s∈ss,A1 s
 ex:∃gs d b,ss=gs.map i7/\pb gs (0,false)=some (d,b)/\dep=(d:Nat)/\(gs=[]->b=false)
def SG.nil:SG [] 0:=(λs h=>(by cases h),[],0,_,W,W,W,λ_=>rfl)
def SG.open{f:!D}{a:Int}(h:SG f a)(x:aP)(e:f=[]\/0<a):SG (f++[.tup [.str uP,.str x]])<|a+1:=by
 let(i,d,b,g,k,_):=h.ex;refine(λs c =>?_,i++[.op x],d+1,Z',by rw[aY];solve_by_elim,?_,Ż,λh=>by simp at h)
 .obtain c|c:=aD.mp c
  .exact h.sg s c
  .exact .inl (x,bP.mp c)
 .rw[rK,k];show (if 0<d\/b=Z_ then _ else _)=_;obtain e|e:=e<;>simp_all
def SG.text(h:SG e a)(x:aP)(k:0<a):SG (e++[.tup [.str uN,.str x]]) a:=by
 let(f,d,b,j,i,g,l):=h.ex;refine(λs c =>?_,f++[.tx x],d,b,by rw[j,aY];rfl,?_,g,λh=>by simp at h)
 .obtain c|c:=aD.mp c
  .exact h.sg s c
  .exact .inr<|.inl (x,bP.mp c)
 .rw[rK,i];show (if 0<d then _ else _)=_
  simp_all
def SG.close(h:SG e a)(j:0<a):SG (e++[.tup [.str o_]])<|a-1:=by
 let(f,d,b,i,g,_):=h.ex;refine(λs c =>?_,f++[.cl],d-1,b,by rw[aY];solve_by_elim,?_,Ž,λh=>by simp at h)
 .obtain c|c:=aD.mp c
  .exact h.sg s c
  .exact .inr<|.inr<|bP.mp c
 .rw[rK,g];show (if 0<d then _ else _)=_
  simp_all
def K_{a:!D}(h:∀s∈a,A1 s):hU (.lst a) (.lst [])=Y (.bl a.isEmpty):=by
 have:iX (.lst a) 180=true:=by simp_all [iX,Ib]
 simp only[hU];rw[if_pos<|by rw[this];rfl];cases a<;>rfl
def gE{t u:DT}{ρ:bL}{x y:Bool}(h:t ρ=Y x)(g:u ρ=Y y):hV t u ρ=Y (x&&y):=by
 unfold hV;rw[h,g];cases x<;>rfl
abbrev eG(p:D)(nms txs:!aP)(k:!D)(a b:Int)(c d e f:↑D):bL:=[Y p,Y<|.lst<|nms.map D.str,Y<|.lst<|txs.map D.str,Y<|.lst k,Y<|.int a,Y<|.int b,c,d,e,f]
theorem Mh{p:D}{nms txs:!aP}{k:!D}{i:Nat}{a Sj j c:Int}{v w:↑D}(K:nms.length=5)(J:txs.length=5)(l:SG k a)(L:k.length<=i)(N:i<=1000)(n:0<=Sj/\Sj<3)(b:0<=j):
  ∃g f q y m,wX (eG p nms txs k a Sj (Y<|.int j) (Y<|.int c) v w)=Y (.nx<|eG p nms txs g f q (Y<|.int j) (Y<|.int c) y m)/\SG g f/\g.length<=i+1/\(0<=q/\q<3):=by
 have q0:=cF (c/7%11) (show (5:Int)≠0 by decide);have p0:=cF (c/7) (show (5:Int)≠0 by decide);let(r,z,_):=vx (xs:=nms) q0 Ž;let(o,y,_):=vx (xs:=txs) p0 ŷ;have d:k.length<dQ:=by rw[jg];lia
 obtain⟨q,n,Q⟩:∃q,(0<=q/\q<3)/\g_ (dG (e2 hU (eV 6) f8)) (cM 5 (e2 fS gl lc)) c8 (eG p nms txs k a Sj (Y (.int j)) (Y (.int c)) (Y (.int c)) w)=Y (.nx (eG p nms txs k a q (Y (.int j)) (Y (.int c)) (Y (.int c)) w)):=by
  cases e:(j==0) with
  |true=>exact(c/7%3,ŷ,(iF<|(wM W).trans<|congrArg Y e).trans<|kj<|h_<|nA W)
  |false=>exact(Sj,n,sL<|(wM W).trans<|congrArg Y e)
 suffices h:∃e:Int,∃g f,_=Y (DO.nx<|eG p nms txs g f q (Y<|.int j) (Y<|.int c) (Y<|.int c)<|Y<|.int e)/\SG g f/\g.length<=i+1 by let(e,g,f,E,x):=h;exact(g,f,q,_,_,mr W<|sq Q<|mr (h_<|mS W<|LS<|zG W (h_ W) ŷ) E,x.1,x.2,n)
 refine((c+q*(j%2)*5)%7,?_);generalize (c+q*(j%2)*5)%7=e;cases h1:(k.isEmpty||(decide (e<3)&&decide (0<a))) with
 |true=>exact(_,_,(iF<|(uY (gQ<|(cp W W).trans<|K_ l.sg)<|gE (zQ W)<|Ag W).trans<|congrArg Y h1).trans<|sq (lG W d<|Ow W<|tV W (h_<|h_<|nA W) z)<|kj<|mS W W,l.open r (by cases k<;>simp_all),by simp;omega)
 |false=>
  cases h2:(decide (e<5)&&decide (0<a)) with
  |true=>exact(_,_,(oG<|(uY (gQ<|(cp W W).trans<|K_ l.sg)<|gE (zQ W)<|Ag W).trans<|congrArg Y h1).trans<|(iF<|(gE (zQ W)<|Ag W).trans<|congrArg Y h2).trans<|lG W d<|Ow W<|tV W (h_<|nA W) y,l.text o Ż,by simp;omega)
  |false=>
   cases h3:(decide (1<a)||(a==1&&c/7%6==0)) with
   |true=>exact(_,_,(oG<|(uY (gQ<|(cp W W).trans<|K_ l.sg)<|gE (zQ W)<|Ag W).trans<|congrArg Y h1).trans<|(oG<|(gE (zQ W)<|Ag W).trans<|congrArg Y h2).trans<|(iF<|(uY (Ag W)<|gE (wM W)<|wM<|h_<|nA W).trans<|congrArg Y h3).trans<|sq (lG W d W)<|kj<|aaP W W,l.close (by simp at h3;lia),by simp;omega)
   |false=>exact(_,_,(oG<|(uY (gQ<|(cp W W).trans<|K_ l.sg)<|gE (zQ W)<|Ag W).trans<|congrArg Y h1).trans<|(oG<|(gE (zQ W)<|Ag W).trans<|congrArg Y h2).trans<|sL<|(uY (Ag W)<|gE (wM W)<|wM<|h_<|nA W).trans<|congrArg Y h3,l,ž)
def ON(k:!Int)(f:!aP)(t:k.length<=500)(G:f.length=5):∃h b,yt [.lst<|k.map D.int,.lst<|f.map D.str]=Y h/\SG h b/\h.length<=k.length:=by
 let(H,L,h,b,a,z,y,w,q,e,v,s,_):=oK (τ:=Jc 6 7) (g:=wX) (ds:=xq<|k.map D.int) (λi C=>∃(h:!D) (b a:Int) (z y w q:↑D),C=eG (.lst<|k.map D.int) f [af "x",af "",af "y x",af "\"",af "[a]"] h b a z y w q/\SG h b/\h.length<=i/\(0<=a/\a<3))
  ([],0,0,M,M,M,M,W,SG.nil,aF _,ſ,ſ) λj d C I xx=>by
  let(h,b,a,z,y,w,q,e,v,s,r):=xx;subst e;let(x,A,e):=wO I;subst e;let(c,J,e):=Ac A;subst e;have N:=(ah.mp J).1;let(g,f',n,m,o,E,p):=Mh (p :=.lst<|k.map D.int) (nms:=f) (txs:=[af "x",af "",af "y x",af "\"",af "[a]"]) (j:=(j:Int)) (c:=c) (v:=w) (w:=q) G W v s Ž r ż;exact(_,_,W,E,g,f',n,_,_,m,o,W,p)
 subst e;rw[wN,ar]at s;exact(h,b,bq (mr W<|C5 (l:=[]) W (mr W<|mr W<|sq ((hJ W).trans L) W)) W,v,s)
def M0(a:!Int)(n:Nat):ip (a.map D.int) n=true:=by
 induction a with|nil=>rfl|cons x a ih=>solve_by_elim
def Y0(a:!Int):hU (.lst<|a.map D.int) (.lst [])=Y (.bl a.isEmpty):=by
 simp only[hU];rw[if_pos<|by rw[Vw<|M0 a 179];rfl];cases a<;>rfl
noncomputable def pj(a:!Int):Int:=a.getLastD 0
def aa9{l:!D}{x:D}(h:eV j ρ=Y (.lst<|l++[x])):Uz j ρ=Y (x,ρ.set j<|Y<|.lst l):=by simp[Uz,gc,h]
def wg(a:!Int):nE [.lst<|a.map D.int]=Y (.int<|pj a,a.dropLast.map D.int):=by
 have t:dG (e2 hU (eV 0) nb) [Y<|.lst<|a.map D.int]=Y a.isEmpty:=gQ<|(cp W W).trans<|Y0 a;obtain rfl|⟨b,x,rfl⟩:=List.eq_nil_or_concat a
 .rfl
 .rw[List.concat_eq_append]at t ⊢;exact bq (mu (t.trans ż)<|J5<|aa9<|congrArg (Y ∘ D.lst)<|aY (f:=D.int)) (by simp[pj];rfl)
theorem Qk{ρ:bL}{τ:BJ}{fe:DM}{i0:Nat}{Pr:D->Prop}:∀ {ds:!D}(e:!Int),(∀d∈ds,∀e:!Int,∃(c:bL) (x:D) (b:bL) (a:!Int),τ d (ρ.set i0<|Y<|.lst<|e.map D.int)=Y c/\fe c=Y (x,b)/\gc i0 b=Y (a.map D.int)/\Pr x)->∃f a,WA ρ τ fe i0 ds (e.map D.int)=Y (f,EF D.int a)/\f.length=ds.length/\∀x∈f,Pr x
 |[],e,_=>([],e,W,W,λx h=>by cases h)
 | d::ds,e,h=>by
  let(c,x,b,g,_):=h d az e;let(f,a,n,l,k):=Qk g λd m=>h d<|ay _ m
  refine(x::f,a,?_,by simp[l],λy i =>?_)
  .simp_all [WA,aw,cE]
  grind
noncomputable abbrev qA(xs:!Int)(a:!aP)(b:Int):!D:=[.lst<|xs.map D.int,.int b,.lst<|a.map D.str]
def zW:Nat->Nat
 |0=>1|n+1=>1+3*(1+zW n)
theorem W0:∀n,1<=zW n
 |0=>aF _|n+1=>by simp_all [zW]
structure WB(n:Nat)(w:Wi):Prop where
 nm:NmW w
 ok:OkW (λ_=>True) w
 dp:j6 w<=2*(n+1)
 sz:lI w<=zW n
abbrev Tp:=Bool×↑aP×Wi
abbrev lh(p:Tp):D :=.tup [.str<|jl p.1,.str<|jC p.2.1,rH p.2.2]
noncomputable def nI:!Tp->Ss
 |[] =>.nil|p::r =>.cons p.1 p.2.1 p.2.2<|nI r
theorem J2:∀l,gS (nI l)=l.map lh
 |[]=>rfl|p::l=>by rw[nI,gS,J2 l];rfl
abbrev TB(n:Nat)(p:Tp):Prop:=p.2.1≠Y (af "*")/\WB n p.2.2
theorem OE{n:Nat}:∀l:!Tp,(∀p∈l,TB n p)->EB (nI l)/\OkS (λ_=>True) (nI l)/\oO (nI l)<=2*(n+1)+1/\pT (nI l)<=l.length*(1+zW n)
 |[],_=>(trivial,trivial,by simp[nI,oO],by simp[nI,pT])
 | p::l,h=>by
  let(a,b,c,d):=OE l λq hq=>h q Ÿ
  let(e,f):=h p az;refine((e,f.nm,a),(f.ok,b),?_,?_)
  .have:=f.dp;grind [nI,oO]
  .have:=f.sz;simp only[nI,pT,bQ,Nat.add_mul];lia
theorem V5{n:Nat}:∀ds:!D,(∀x∈ds,∃w,x=rH w/\WB n w)->∃Da,vK Da=ds/\NmA Da/\OkA (λ_=>True) Da/\BG Da<=2*(n+1)/\vX Da<=ds.length*zW n
 |[],_=>(.nil,W,trivial,trivial,by simp[BG],by simp[vX])
 | x::ds,h=>by
  let(Da,a,b,c,d,e):=V5 ds λq hq=>h q Ÿ
  let(w,rfl,f):=h x az;refine(.cons w Da,by rw[vK,a],(f.nm,b),(f.ok,c),?_,?_)
  .have:=f.dp;grind [BG]
  .have:=f.sz;grind [vX,bQ,Nat.add_mul]
section
variable {f g:DF}{u v:DM}{ρ σ θ:bL}{x y z d:D}{l m:!D}{F:!D->↑(D×!D)}{h:Sd}{G:DL}
def Ds{ds:!D}(a:eV j ρ=Y (.lst l))(b:G ρ=Y ds)(k:F (.lst l::ds)=Y (d,m)):mE F j G ρ=Y (d,ρ.set j<|Y<|.lst m):=by simp[mE,gc,a,b,k]
def IC(a:f ρ=Y d):mP f ρ=Y (d,ρ):=by simp[mP,a]
def mt2(a:f ρ=Y x)(k:u ρ=Y (y,σ)):wx (mV (mP f)<|mV u qJ) ρ=Y (.tup [x,y],σ):=by simp[wx,mV,mP,qJ,a,k]
def mt3(a:f ρ=Y x)(b:g ρ=Y y)(k:u ρ=Y (z,σ)):wx (mV (mP f)<|mV (mP g)<|mV u qJ) ρ=Y (.tup [x,y,z],σ):=by simp[wx,mV,mP,qJ,a,b,k]
def ae2{s:!(↑Nat)}{n o:!D}(a:G ρ=Y l)(b:l.length<=5000)(c:eV j ρ=Y (.lst m))(k:WA (ki s ρ) τ u i l m=Y (n,o)):Z5 G s τ u i j ρ=Y (.lst n,ρ.set j<|Y<|.lst o):=by
 simp only[Z5,a,gc,c,aw,k];exact if_pos (by rw[jg];lia)
def acA(a:eV i ρ=Y (.lst m))(b:u ρ=Y (d,σ))(c:eV i σ=Y (.lst l))(n:l.length<5000):J4 i u ρ=Y (.nx<|σ.set i<|Y<|.lst<|l++[d]):=by
 simp only[J4,a,gc,c,aw,b];exact if_pos (by rw[jg];lia)
def QZ{i:Int}(a:u ρ=Y (.int i,σ))(b:0<=i)(c:i<=5000)(k:gB τ q (kT 0 i.toNat) σ=r):uQ (Z6 u) τ q ρ=r:=by
 simp only[uQ,Z6,a,aw];rw[if_pos (EI (by decide) b,BN c<|by decide)];exact k
def MM(a:u ρ=Y (x,σ))(b:v σ=Y (y,θ))(k:o x y=Y z):m2 o u v ρ=Y (z,θ):=by simp[m2,a,b,k]
def WG{c:Bool}{p q:DG}(a:m2 o u v ρ=Y (.bl c,σ)):Tw o u v p q ρ=if c then p σ else q σ:=by simp only[Tw,a,aw]
end
def Ob(z:Int):∃b:Bool,qa [D.str<|af "own",D.str<|af "inner"] (z%2)=Y (.str<|jl b):=by
 obtain z|z:=Int.emod_two_eq z<;>rw[z]
 .exact(Z_,W)
 .exact(Z',W)
def Wy(n:aP):∃b:↑aP,n=jC b/\b≠Y (af "*"):=by
 by_cases z:n=af "*"
 .exact(M,z,ż)
 .exact(Y n,W,λh=>z<|bE h)
abbrev RW'(n:Nat)(x:↑DO):Prop:=∃o,x=Y o/\∃(w:Wi) (a:!Int),Ua 0 o=Y (rH w,a.map D.int)/\WB n w
def rwE{f:DM}{w:Wi}{b:!Int}(k:f ρ=Y (rH w,σ))(s:eV 0 σ=Y (.lst<|b.map D.int))(z:WB n w):RW' n<|gV f ρ:=(_,J5 k,w,b,by simp[Ua,gc,s],z)
def rwT{t:DT}{f:DM}{w:Wi}{b:!Int}{h:DG}(e:t a=Y Z')(k:f a=Y (rH w,σ))(s:eV 0 σ=Y (.lst<|b.map D.int))(z:WB n w):RW' n<|aR (g_ t (gV f) c8) h a:=(_,srm e k,w,b,by simp[Ua,gc,s],z)
def rwN{t:DT}{g h:DG}(e:t a=Y Z_)(k:RW' n<|h a):RW' n<|aR (g_ t g c8) h a:=let(o,q,z):=k;(o,mu e q,z)
theorem BQ(Fw Fs:!D->↑(D×!D))(n:Nat)(dp:Int)(hdp:dp=n)(nms:!aP)
  (hs:∀m,n=m+1->∀xs:!Int,∃(sx:!Tp) (xs':!Int),Fs (qA xs nms<|dp-1)=Y (.lst<|sx.map lh,xs'.map D.int)/\1<=sx.length/\sx.length<=3/\∀p∈sx,TB m p)
  (hw:∀m,n=m+1->∀xs:!Int,∃(w:Wi) (xs':!Int),Fw (qA xs nms<|dp-1)=Y (rH w,xs'.map D.int)/\WB m w)
  (xs:!Int):∃(w:Wi) (xs':!Int),Fu 3 5 0 (wJ Fw Fs) (qA xs nms dp)=Y (rH w,xs'.map D.int)/\WB n w:=by
 suffices h:RW' n _ by let(o,e,w,b,k,z):=h;exact(w,b,bq (sq (yW<|Ds W W<|wg xs)<|mr (h_ W) e) k,z)
 have zp:=W0 n;have q1:=cq (pj xs) (show (0:Int)<8 by decide);generalize pj xs%8=kd at *
 generalize pj xs=num at *
 cases h1:(decide (kd<2)||(dp==0&&decide (2<kd))) with
 |true=>exact rwT (w :=.any) ((uY (zQ W)<|gE (wM W)<|Ag W).trans<|congrArg Y h1) W W (trivial,trivial,by simp only[j6];lia,by simp only[lI];omega)
 |false=>
  refine rwN ((uY (zQ W)<|gE (wM W)<|Ag W).trans<|congrArg Y h1) ?_;simp at h1;cases h2:(kd==2) with
  |true=>let(tx,et,_):=vx (xs:=[af "x",af "",af "y x",af "\"",af "[a]"]) (cF (num/8)<|show (5:Int)≠0 by decide) (cq (num/8) ſ);exact rwT (w :=.txt tx) ((wM W).trans<|congrArg Y h2) (IC<|Ow W<|tV W (h_<|nA W) et) W (trivial,trivial,by simp only[j6];lia,by simp only[lI];omega)
  |false=>
   refine rwN ((wM W).trans<|congrArg Y h2) ?_;simp at h2;obtain⟨m,hm⟩:∃m,n=m+1:=(n-1,Ž);subst hm;cases h3:decide (kd<5) with
   |true=>let(sx,xs',es,l0,l1,UU):=hs m W xs.dropLast;let(s1,s2,s3,s4):=OE sx UU;have s5:=ZF (1+zW m) l1;exact rwT (w :=.has<|nI sx) ((zQ W).trans<|congrArg Y h3) (mt2 W<|by rw[J2];exact Ds W W es) W (s1,((by cases sx with|nil=>simp at l0|cons a b=>(intro z;cases z)),s2),by simp only[j6];lia,by simp only[lI,zW];grind)
   |false=>
    refine rwN ((zQ W).trans<|congrArg Y h3) ?_;simp at h3;cases h4:(kd==5) with
    |true=>exact rwT (w :=.has<|.cons Z_ M .any .nil) ((wM W).trans<|congrArg Y h4) W W ((ż,trivial,trivial),(ż,trivial,trivial),by simp only[j6,oO];grind,by simp only[lI,pT,zW];lia)
    |false=>
     refine rwN ((wM W).trans<|congrArg Y h4) ?_;simp at h4;have r0:=cF (num/8) (show (4:Int)≠0 by decide);have r1:=cq (num/8) (show (0:Int)<4 by decide);let(ws,xs',el,hl,hws):=Qk (ρ:=[M,Y<|.lst<|xs.dropLast.map D.int,Y<|.lst<|nms.map D.str,Y<|.int dp]) (τ:=gN 0) (fe:=mE Fw 1<|aC (e2 px (eV 3) u8) pc) (i0:=1) (Pr:=λd=>∃w,d=rH w/\WB m w) (ds:=kT 0 (num/8%4).toNat) xs.dropLast λd c ys=>by let(w,ys',ew,hww):=hw m W ys;exact(_,rH w,_,ys',W,Ds W W ew,W,w,W,hww)
     rw[mC]at hl;let(Da,e,s1,s2,s3,s4):=V5 ws hws;subst e;have s5:=ZF (zW m) (show (vK Da).length<=3 by lia);have L:=ae2 (s:=[M,Y 0,Y 2,Y 1]) (j:=0) (ρ:=([Y<|.lst<|xs.dropLast.map D.int,Y<|.int dp,Y<|.lst<|nms.map D.str,Y<|.int num,Y<|.int kd])) (Mr (h_<|nA (f:=eV 3) W) r0 Ž) (by rw[mC];lia) W el;rcases(by lia:kd=6\/kd=7) with e|e<;>subst e
     .exact rwE (w :=.both Da) (mt2 W L) W (s1,s2,by simp only[j6];lia,by simp only[lI,zW];lia)
     .exact rwE (w :=.one Da) (mt2 W L) W (s1,s2,by simp only[j6];lia,by simp only[lI,zW];lia)
def yJ(Fw Fs:!D->↑(D×!D))(n:Nat)(dp:Int)(nms:!aP)(hn:nms.length=5)
  (hw:∀xs:!Int,∃(w:Wi) (xs':!Int),Fw (qA xs nms dp)=Y (rH w,xs'.map D.int)/\WB n w)
  (xs:!Int):∃(sx:!Tp) (xs':!Int),Fu 3 7 0 (KQ Fw Fs) (qA xs nms dp)=Y (.lst<|sx.map lh,xs'.map D.int)/\1<=sx.length/\sx.length<=3/\(∀p∈sx,TB n p)/\ou 3 7 (Al Fw Fs) (qA xs nms dp)=Y (sx.map lh):=by
 have r0:=cF (pj xs) (show (3:Int)≠0 by decide);have r1:=cq (pj xs) (show (0:Int)<3 by decide);let(ρ',ef,ys,sx,v4,v5,v6,e,hl,UU):=oK (τ:=gN 4) (g:=wW Fw Fs) (ds:=kT 0 (1+pj xs%3).toNat) (λi ρ=>∃(ys:!Int) (sx:!Tp) (v4 v5 v6:↑D),ρ=[Y<|.lst<|ys.map D.int,Y<|.int dp,Y<|.lst<|nms.map D.str,Y<|.lst<|sx.map lh,v4,v5,v6]/\sx.length=i/\∀p∈sx,TB n p)
  (ρ:=[Y<|.lst<|xs.dropLast.map D.int,Y<|.int dp,Y<|.lst<|nms.map D.str,Y<|.lst [],M,M,M]) (xs.dropLast,[],M,M,M,W,W,λs h=>(by cases h)) λj d ρ hd xx=>by
  let(ys,sx,v4,v5,v6,e,hl,UU):=xx;subst e;have hj:=(uR hd).1;let(w,zs,ew,hww):=hw ys.dropLast;let(nm,en,_):=vx (xs:=nms.take 4++[af "*",af "*",af "*"]) (cF (pj ys/2)<|show (7:Int)≠0 by decide) (by have:=cq (pj ys/2) (show (0:Int)<7 by decide);simp[hn];omega);rw[aY,kF]at en;let(b,eb):=Ob<|pj ys;let(o,e,hO):=Wy nm;subst e;refine(_,_,W,sq (yW<|Ds W W<|wg ys)<|mr (tV (Ew (gW<|RE W W ſ) W<|by rw[j4,ar];simp;simp_all) (h_<|nA W) en)<|acA (l:=sx.map lh) W (mt3 (tV W (h_ W) eb) W<|Ds W W ew) W (by rw[ar];grind),zs,sx++[(b,o,w)],_,_,_,by rw[aY];rfl,by simp[hl],λs hs =>?_);obtain hs|hs:=aD.mp hs
  .exact UU s hs
  .rw[bP.mp hs];exact(hO,hww)
 subst e;rw[mC]at hl;have a:=MM (o:=gA) (IC (f:=eK<|.int 1) W) (MM (o:=fS) (Ds (G:=aN) (j:=0) (ρ:=[Y<|.lst<|xs.map D.int,Y<|.int dp,Y<|.lst<|nms.map D.str,Y<|.lst [],M,M,M]) W W (wg xs)) (IC (f:=eK<|.int 3) W) (P5 ſ)) W;exact(sx,ys,bq (C5 (l:=[]) W (sq (QZ a Ž Ž ef) W)) W,Ž,ŷ,UU,bq (C5 (l:=[]) W (sq (QZ a Ž Ž ef) W)) W)
def MP(nms:!aP)(hn:nms.length=5)(l:!Tp)(hl:l.length<=3)(xs:!Int)(h:∀p∈l,TB 3 p):∃l':!Tp,oW [.lst<|l.map lh,.lst<|xs.map D.int,.lst<|nms.map D.str]=Y (l'.map lh)/\l.length<=l'.length/\l'.length<=5/\∀p∈l',TB 3 p:=by
 have q:m2 Ba (m2 fS (mE nE 1 aN)<|mP py) (mP u8) [Y<|.lst<|l.map lh,Y<|.lst<|xs.map D.int,Y<|.lst<|nms.map D.str,M,M,M]=Y (.bl<|not (pj xs%4==1),[Y<|.lst<|l.map lh,Y<|.lst<|xs.dropLast.map D.int,Y<|.lst<|nms.map D.str,M,M,M]):=MM (MM (Ds W W<|wg xs) (IC W)<|P5 ſ) (IC W) W;cases z : (not (pj xs%4==1)) with
 |true=>rw[z]at q;exact(l,bq (sqX<|(WG q).trans W) W,aF _,Ÿ,h)
 |false=>
  rw[z]at q;generalize xs.dropLast=xs at *
  have r0:=cF (pj xs) (show (2:Int)≠0 by decide);have r1:=cq (pj xs) (show (0:Int)<2 by decide);let(ρ',ef,ys,sx,v4,v5,e,hl',UU):=oK (τ:=gN 4) (g:=AN) (ds:=kT 0 (1+pj xs%2).toNat) (λi ρ=>∃(ys:!Int) (sx:!Tp) (v4 v5:↑D),ρ=[Y<|.lst<|l.map lh,Y<|.lst<|ys.map D.int,Y<|.lst<|nms.map D.str,Y<|.lst<|sx.map lh,v4,v5]/\sx.length=l.length+i/\∀p∈sx,TB 3 p)
   (ρ:=[Y<|.lst<|l.map lh,Y<|.lst<|xs.dropLast.map D.int,Y<|.lst<|nms.map D.str,Y<|.lst<|l.map lh,M,M]) (xs.dropLast,l,M,M,W,W,h) λj d ρ hd xx=>by
   let(ys,sx,v4,v5,e,hl,UU):=xx;subst e;have hj:=(uR hd).1;let(nm,en,_):=vx (xs:=nms.take 4++[af "*"]) (cF (pj ys/2)<|show (5:Int)≠0 by decide) (by have:=cq (pj ys/2) (show (0:Int)<5 by decide);simp[hn];omega);rw[aY,kF]at en;let(b,eb):=Ob<|pj ys;let(o,e,hO):=Wy nm;subst e;refine(_,_,W,sq (yW<|Ds W W<|wg ys)<|lG (l:=sx.map lh) W (by rw[ar,jg];grind) (aay (tV W (h_ W) eb) (tV (Ew (gW<|RE W W ſ) W<|by rw[j4,ar];simp;simp_all) (h_<|nA W) en) W),ys.dropLast,sx++[(b,o,.any)],_,_,by rw[aY];rfl,by simp[hl];trivial,λs hs =>?_);obtain hs|hs:=aD.mp hs
   .exact UU s hs
   .rw[bP.mp hs];exact(hO,trivial,trivial,by show j6 .any<=8;decide,by show lI .any<=zW 3;decide)
  subst e;rw[mC]at hl';exact(sx,bq (sq ((WG q).trans W)<|C5 (l:=l.map lh) W (sq (QZ (MM (IC W) (MM (Ds W W<|wg xs) (IC W)<|P5 ſ) W) Ž Ž ef) W)) W,Ż,ŷ,UU)
end K21
namespace K21
open PySem L2
structure VH(fit:Int->Int->Int)(r:cy):Prop where
 sm:Sm 63 r.fits
 ft:Le r.fits<|fit r.named r.atoms
structure Lax(inner:Int)(pr r:cy):Prop where
 re:Le r.aJ<|xo inner pr.aJ pr.ra r.fits
 ra:Le r.ra<|bO pr.ra r.aJ
structure KR(fit:Int->Int->Int)(inner:Int)(rows:!cy):Prop where
 rl:∀(i:Nat) (r:cy),rows[i+1]?=some r->VH fit r
 ch:∀(i:Nat) (p r:cy),rows[i]?=some p->rows[i+1]?=some r->Lax inner p r
structure Kp(fit:Int->Int->Int)(inner:Int)(rows OZ:!cy):Prop where
 nu:OZ.map (·.number)=rows.map (·.number)
 re:OZ.map (·.aJ)=rows.map (·.aJ)
 kr:KR fit inner rows->KR fit inner OZ
section
variable {f:vC}{v:Int}
def Kp.trans(h:Kp n a o A)(g:Kp n a A G):Kp n a o G:=(g.nu.trans h.nu,g.re.trans h.re,λz=>g.kr<|h.kr z)
def Kp.set{i:Nat}{r r':cy}(h:o[i]?=Y r)(k:r'.number=r.number)(d:r'.aJ=r.aJ)(f:r'.ra=r.ra)(g:VH n r->VH n r'/\Le r.fits r'.fits):Kp n a o<|o.set i r':=by
 refine(?_,?_,λK=>(λj s e =>?_,λj p s b c =>?_))
 .simp_all [vJ,eY,aK]
 .simp_all [vJ,eY,aK]
 .by_cases z:i=j+1
  .subst z;rw[aX (ah.mp h).1]at e;cases e;exact(g<|K.rl j r h).1
  .rw[aq z]at e;exact K.rl j s e
 .by_cases z:i=j+1
  .subst z;rw[aX (ah.mp h).1]at c;cases c;rw[aq<|by simp]at b;have L:=K.ch j p r b h;refine(?_,by rw[d,f];exact L.ra);rw[d];exact λi e=>WK (λ_ h=>h) (λ_ h=>h) (g<|K.rl j r h).2 i<|L.re i e
  .rw[aq z]at c;by_cases y:i=j
   .subst y;rw[aX (ah.mp h).1]at b;cases b;have L:=K.ch i r s h c;exact(by rw[d,f];exact L.re,by rw[f];exact L.ra)
   .rw[aq y]at b;exact K.ch j p s b c
def Kp.atoms(Da:FW f v n B C E){i:Nat}{r:cy}(h:o[i]?=Y r)(x:Int):Kp n a o<|o.set i { r with atoms:=bO r.atoms x }:=
 .set h W W W λL=>((L.sm,λi e=>Da.mono _ _ _ (wz _ _) i<|L.ft i e),λ_ h=>h)
set_option tactic.hygienic true in
theorem qC(Da:FW f v n B C E):∀(p:Nat) (b:Bool) (o:!cy),Kp n a o (iZ n B b p o)
 |0,b,o=>by cases b<;>exact(W,W,id)
 |p+1,Z_,o=>(W,W,id)| p+1,Z',o=>by
  unfold iZ;split
  .rename_i r c e d;refine .trans (.trans (.set (r':={ r with fits:=n _ _ }) e W W W λL=>((Da.sm _ _,λ_ h=>h),L.ft)) (.atoms Da ?_ _)) (qC Da p _ _)
   simp_all
  exact Ÿ
theorem FO(p:b->Bool):∀l:!b,(l.filter p).length+(l.filter λx=> (not<|p x)).length=l.length
 |[]=>rfl| x::l=>by
  have:=FO p l
  grind
def Dq(k:Nat)(b:!Int):Nat:=(b.filter λx=> (not<|tz x k)).length
theorem mD(x:Int)(b:!Int):Dq k (x::b)=(if tz x k then 0 else 1)+Dq k b:=by
 grind [Dq,uB,tz]
theorem OO:∀(b:!cy) (p q:cy),Le p.aJ q.aJ->Le p.ra q.ra->KR n a (p::b) ->
  SmL a q b/\KR n a (q::eZ a q b)/\(eZ a q b).map (·.number)=b.map (·.number)/\(nK a (2 ^ k) q b).length+Dq k ((eZ a q b).map (·.aJ))<=Dq k (b.map (·.aJ))
 |[],p,q,j,f,K=>(trivial,(λi r e=>(by simp[eZ]at e),λi p r o e=>(by simp[eZ]at e)),W,aF _)
 | r::b,p,q,j,f,K=>by
  have L:=K.ch 0 p r W W;have R:=K.rl 0 r W;have g:Le r.aJ (n8 a q r).aJ:=λi e=>WK j f (λo h=>h) i<|L.re i e
  let x:Le r.ra (n8 a q r).ra:=λi e=>Kt f g i<|L.ra i e
  let(z,l,y,D):=OO b r (n8 a q r) g x (λi s e=>K.rl (i+1) s e,λi s t d c=>K.ch (i+1) s t d c);let s:=(Ia (x:=bO q.aJ<|bA q.ra a) R.sm);refine((ž,z),(λi t e =>?_,λi t u d c =>?_),?_,?_)
  .cases i with|zero=>cases e;exact(R.sm,R.ft)|succ i=>exact l.rl i t e
  .cases i with
   |zero=>cases d;cases c;exact(λo h=>h,λo h=>h)
   |succ i=>exact l.ch i t u d c
  .show r.number::_=r.number::_;rw[y]
  .show ((if DY a (2 ^ k) q r then [r.number] else [])++nK a (2 ^ k) (n8 a q r) b).length+Dq k ((n8 a q r).aJ::_)<=Dq k (r.aJ::_);rw[mD,mD,aU];let e:DY a (2 ^ k) q r=(tz (n8 a q r).aJ k && (not<|tz r.aJ k)):=by show (bA (bA (n8 a q r).aJ<|bN r.aJ) (2 ^ k) != 0)=_;rw[mh,c5,nH]
   rw[e];let m:=g k;cases h:tz r.aJ k with
   |true=>rw[m h];simp;solve_by_elim|false=>grind
structure SI(f:vC)(able:Int)(fit:Int->Int->Int)(c:jb)(nl d:Nat)(b:Bool):Prop where
 ff:c.f=f
 fa:c.able=able
 fu:c.full=2 ^ f.q.length
 len:c.rows.length=d+1
 kr:KR fit f.inner c.rows
 pl:∀y∈c.rests,PlO c.rows y
 nd:(c.rests.map (·.num)++c.rows.map (·.number)).Nodup
 lt:∀x∈c.rests.map (·.num)++c.rows.map (·.number),x<c.opened
 XH:((nl+c.rests.length+Dq f.q.length (c.rows.map (·.aJ)):Nat):Int)<=c.opened+1
 cnt:((c.rests.length+c.rows.length:Nat):Int)<=c.opened+1
 tk:c.opened<=c.taken
 op:b=decide (0<c.opened)
def SI.keep(I:SI f v n c w d b)(K:Kp n f.inner c.rows o):SI f v n { c with rows:=o } w d b:=by
 have g:o.length=c.rows.length:=by have:=congrArg nU K.nu;simp_all
 let h:=I.nd;let i:=I.lt;let e:=I.XH;rw[<- K.nu]at h i;rw[<- K.re]at e;exact(I.ff,I.fa,I.fu,g.trans I.len,K.kr I.kr,λy k=>by have:=I.pl y k;unfold PlO at this ⊢;rw[g];exact this,h,i,e,by rw[g];exact I.cnt,(I.tk),I.op)
def SI.tk1(I:SI f v n c w d b):SI f v n (dN c) w d b:=(I.ff,I.fa,I.fu,I.len,I.kr,I.pl,I.nd,I.lt,I.XH,I.cnt,by have:=I.tk;show c.opened<=c.taken+1;lia,I.op)
end
section
variable {f:vC}{v:aP->Int}
def Kz(h:rows≠[]):∃b r,rows=b++[r]:=(_,_,(List.dropLast_concat_getLast h).symm)
def Kj(c b:!Int):Dq k (c++b)=Dq k c+Dq k b:=by unfold Dq;rw[List.filter_append,aU]
def KR.app{r:cy}(K:KR a t rows)(h:VH a r)(c:r.aJ=0)(b:r.ra=0):KR a t<|rows++[r]:=by
 have g:∀(i:Nat) (s:cy),(rows++[r])[i]?=Y s->rows[i]?=Y s\/i=rows.length/\s=r:=λi s e=>by
  obtain z|z|z:=Nat.lt_trichotomy i _
  .rw[aI z]at e;exact .inl e
  .subst z;rw[List.getElem?_concat_length]at e;cases e<;>lia
  .rw[jd<|by rw[aU,dm];trivial]at e;cases e
 refine(λi s e =>?_,λi p s f d =>?_)
 .obtain z|⟨_,rfl⟩:=g _ s e
  .exact K.rl i s z
  .exact h
 .obtain z|⟨z,rfl⟩:=g _ s d
  .obtain y|⟨y,simp⟩:=g _ p f
   .exact K.ch i p s y z
   simp_all
  .exact(by rw[c];exact yx _,by rw[b];exact yx _)
def KR.pop(K:KR a t<|rows++[r]):KR a t rows:=by
 have g:∀(i:Nat) (s:cy),rows[i]?=Y s->(rows++[r])[i]?=Y s:=λi s e=>by rw[aI (ah.mp e).1];exact e
 exact(λi s e=>K.rl i s<|g _ s e,λi p s c b=>K.ch i p s (g _ p c)<|g _ s b)
def SI.open(Da:FW f o a u v w)(I:SI f o a c j d b)(n:Int)(p:cy):SI f o a (Pl a u (dN c) n p) j (d+1) true:=by
 let h:SI f o a { dN c with opened:=c.opened+1,rows:=c.rows++[mQ a (dN c) c.opened n 0 p] } j (d+1) true:=by
  let i:=I.XH;let q:=I.cnt;let m:=I.tk;let k:=I.len;refine(I.ff,I.fa,I.fu,?_,I.kr.app (Da.sm _ _,λ_ h=>h) W W,λy g =>?_,?_,λx e =>?_,?_,?_,?_,(decide_eq_true Ž).symm)
  .simp_all
  .have:=I.pl y g
   grind
  .rw[aY,<- bF];refine bM.mpr (I.nd,ż,λx e y g =>?_);have:=I.lt x e;rw[bP.mp g];show x≠c.opened
   lia
  .rw[aY,<- bF]at e;show x<c.opened+1;obtain z|z:=aD.mp e
   .have:=I.lt x z;lia
   .rw[bP.mp z];show c.opened<c.opened+1;lia
  .show ((j+c.rests.length+Dq f.q.length ((c.rows++[_]).map cy.aJ):Nat):Int)<=c.opened+1+1;rw[aY,Kj];show ((_+(_+Dq _ [0]):Nat):Int)<=_;rw[mD,je];let i:((j+c.rests.length+Dq f.q.length (c.rows.map cy.aJ):Nat):Int)<=c.opened+1:=i;show ((_+(_+(1+0)):Nat):Int)<=_
   lia
  .show ((c.rests.length+(c.rows++[_]).length:Nat):Int)<=c.opened+1+1
   grind
  .show c.opened+1<=c.taken+1;simp_all
 exact h.keep<|qC Da _ _ _
def P1(c:jb)(p:Nat)(r q:cy)(m:nX):(zF c p r q m).num=m.num:=by unfold zF;split<;>rfl
def SI.close(I:SI f o a c j d b)(hd:0<d):∃rs p r,c.rows=rs++[p]++[r]/\((kZ (cz c) r).map (·.num)).Nodup/\((kZ (cz c) r).length:Int)<=c.opened+1/\SI f o a (AA (dN c) r p) j (d-1) b:=by
 let hl:=I.len;let(rs1,r,e):=Kz (rows:=c.rows) (λz=>by rw[z]at hl;simp at hl);have YK:rs1.length=d:=by rw[e,aU,dm]at hl;simp_all
 let(rs,p,rfl):=Kz (rows:=rs1) (λz=>by rw[z]at YK;simp at YK;simp_all);have ep:(cz c).rows=rs++[p]:=by show c.rows.dropLast=_;rw[e,gK]
 let hp:=I.XH;let hc:=I.cnt;let ht:=I.tk;let hn:=I.nd;let QC:=I.lt;rw[e,aY]at hn QC;rw[e,aY,Kj]at hp;let hx:Dq f.q.length ([r].map (·.aJ))=if tz r.aJ f.q.length then 0 else 1:=mD _ _
 rw[hx]at hp;rw[e,aU,dm]at hc;let ha:∃X:!nX,kZ (cz c) r=c.rests++X/\X.length=(if tz r.aJ f.q.length then 0 else 1)/\(∀m∈X,m.num=r.number/\m.place=d)/\(X.map (·.num)).Sublist [r.number]:=by unfold kZ;rw[show (cz c).full=2 ^ f.q.length from I.fu,mh,ep,YK];refine(_,W,?_);cases tz r.aJ f.q.length<;>simp
 let(X,eX,hX,hX2,hX3):=ha;have n1:(((kZ (cz c) r).map (·.num))++(rs++[p]).map (·.number)).Nodup:=by rw[eX,aY,bF];exact List.Perm.nodup (List.Perm.append_left _ List.perm_append_comm)<|List.Sublist.nodup ((l7 _).append<|(l7 _).append hX3) hn
 let l1:∀x∈((kZ (cz c) r).map (·.num))++(rs++[p]).map (·.number),x<c.opened:=λx hx=>by
  refine QC x ?_;rw[eX,aY,bF]at hx;obtain z|z:=aD.mp hx
  .exact aS _ z
  .obtain z|z:=aD.mp z
   .exact aE _<|aE _<|hX3.subset z
   .exact aE _<|aS _ z
 have k1:(kZ (cz c) r).length=c.rests.length+if tz r.aJ f.q.length then 0 else 1:=by rw[eX,aU,hX]
 generalize hA:kZ (cz c) r=A at n1 l1 k1 eX;let pm:((xG A).map (·.num)).Perm (A.map (·.num)):=(ma A).map _;have er:(AA (dN c) r p).rests=((xG A).map<|zF (cz<|dN c) d r p).filter ng:=by show ((xG<|kZ (cz c) r).map<|zF (cz<|dN c) (cz c).rows.length r p).filter ng=_;rw[hA,ep,YK]
 have sb:((AA (dN c) r p).rests.map (·.num)).Sublist ((xG A).map (·.num)):=by rw[er];have:=(List.filter_sublist (p:=ng) (l:=(xG A).map<|zF (cz<|dN c) d r p)).map (·.num);rwa [j3,show ((λx:nX=>x.num) ∘ zF (cz<|dN c) d r p)=(·.num) from funext λm=>P1 ..]at this
 have kr:=by have:=sb.length_le;rwa [ar,ar,(ma A).length_eq]at this
 refine(rs,p,r,e,by rw[hA];exact(bM.mp n1).1,?_,I.ff,I.fa,I.fu,?_,?_,λy hy =>?_,?_,λx hx =>?_,?_,?_,?_,I.op)
 .rw[hA,k1];split<;>lia
 .show (cz c).rows.length=_;rw[ep,YK];lia
 .show KR a f.inner (cz c).rows;rw[ep];exact KR.pop<|e ▸ I.kr
 .rw[er]at hy;let(m,hm,rfl):=bS.mp (bV.mp hy).1;let hm:=(ma A).subset hm;let h2:0<=m.place/\m.place<=d:=by
   rw[eX]at hm;obtain z|z:=aD.mp hm
   .have:=I.pl m z;unfold PlO at this;lia
   .rw[(hX2 m z).2];simp
  show 0<=_/\_<((cz c).rows.length:Int);rw[ep,YK];unfold zF;split
  .show 0<=m.place-1/\m.place-1<_;lia
  .lia
 .show (_++(cz c).rows.map (·.number)).Nodup;rw[ep];exact List.Sublist.nodup (sb.append<|l7 _)<|List.Perm.nodup (pm.symm.append_right _) n1
 .let hx:x∈(AA (dN c) r p).rests.map (·.num)++(cz c).rows.map (·.number):=hx;rw[ep]at hx;show x<c.opened;exact l1 x<|(pm.append_right _).subset<|(sb.append<|l7 _).subset hx
 .show ((j+_+Dq _ ((cz c).rows.map (·.aJ)):Nat):Int)<=c.opened+1;rw[ep];lia
 .show ((_+(cz c).rows.length:Nat):Int)<=c.opened+1;rw[ep,YK];split at k1<;>lia
 .show c.opened<=c.taken+1;lia
end
variable {f:vC}{m:Nat}
def SI.new:SI f g a (f,2 ^ f.q.length,g,0,0,[tf],[]) 0 0 false:=
 (W,W,W,W,(λi r e=>by simp at e,λi p r d e=>by simp at e),λy b=>(by cases b),ż,λx c=>by rw[bP.mp c];solve_by_elim,by grind [Dq,mD],Ÿ,ZQ 0,W)
end K21
section
set_option maxHeartbeats 1000000
namespace K21
open PySem L2
structure EX(fit:Int->Int->Int)(inner able:Int)(rows:!cy):Prop where
 xf:∀(i:Nat) (r:cy),rows[i+1]?=some r->r.fits=fit r.named r.atoms
 xh:∀(i:Nat) (p r:cy),rows[i]?=some p->rows[i+1]?=some r->r.dy=xo inner p.dy p.ha (bA r.named able)/\r.ha=bO p.ha r.dy
 xr:∀(i:Nat) (p r:cy),rows[i]?=some p->rows[i+1]?=some r->r.aJ=xo inner p.aJ p.ra r.fits/\r.ra=bO p.ra r.aJ
 xt:∃x g,rows={ tf with atoms:=x }::g
def Sa(r a:cy):Prop:=a={ r with atoms:=a.atoms,fits:=a.fits }
variable {f:vC}{v:Int}
def Q5(Da:FW f v c d B C)(h:(bA y (bN x) != 0)=Z_):c n (bO x y)=c n x:=by
 let z:=by simpa using h
 let l:Le (bO x y) x:=λi e=>by
  rw[kb]at e;cases q:tz x i with
  |true=>rfl|false=>
   have:=congrArg (tz · i) z
   grind [c5,nH,je]
 exact HR (Da.sm _ _).1 (Da.sm _ _).1 λi=>by let a:=Da.mono n _ _ l i;let b:=Da.mono n _ _ (wz x y) i;cases p:tz _ i<;>cases q:tz _ i<;>simp_all
theorem OH(Da:FW f v l g B C):∀(p:Nat) (b:Bool) (a:!cy),p<a.length->(∀(i:Nat) (r:cy),a[i+1]?=Y r->(i+1=p->b=Z_)->r.fits=l r.named r.atoms) ->
  ∀(j:Nat) (m:cy),(iZ l g b p a)[j]?=Y m->(1<=j->m.fits=l m.named m.atoms)/\∃r,a[j]?=Y r/\Sa r m/\(j=0->m.fits=r.fits)
 | p,Z_,a,s,h,j,m,e=>by
  have z:iZ l g Z_ p a=a:=by cases p<;>solve_by_elim
  rw[z]at e;refine(λF =>?_,m,e,W,λF=>rfl);cases j<;>grind
 |0,Z',a,s,h,j,m,e=>by have z:iZ l g Z' 0 a=a:=rfl;refine(λF =>?_,m,e,W,λF=>rfl);cases j<;>grind
 | p+1,Z',a,s,h,j,m,e=>by
  let u:=ai s;let w:a[p]?=Y _:=ai Ž;generalize a[p+1]=r at u;generalize a[p]' Ž=d at w;have z:iZ l g Z' (p+1) a=iZ l g (bA (g r.named r.atoms) (bN d.atoms) != 0) p (xH l g p r d a):=by show (match a[p+1]?,a[p]? with|some r,Y w=>_|_,_=>_)=_;rw[u,w]
  have t:∀(j:Nat) (b:cy),(xH l g p r d a)[j]?=Y b->∃o,a[j]?=Y o/\Sa o b/\(j=0->b.fits=o.fits)/\(j=p+1->b.fits=l b.named b.atoms)/\(j=p->b={ d with atoms:=bO d.atoms (g r.named r.atoms) })/\(j≠p->j≠p+1->b=o):=λj b c=>by
   unfold xH at c;by_cases x:j=p
   .subst x;rw[aX<|by simp;lia]at c;cases c;exact(d,w,W,λF=>rfl,λF=>Ž,λF=>rfl,λn=>absurd W n)
   .rw[aq<|bw x]at c;by_cases y:j=p+1
    .subst y;rw[aX s]at c;cases c;exact(r,u,W,λF=>by trivial,λF=>rfl,λz=>absurd z x,λF n=>absurd W n)
    .rw[aq<|bw y]at c;exact(b,c,W,λF=>rfl,λz=>absurd z y,λz=>absurd z x,λF F=>rfl)
  rw[z]at e;let(L,o,K,D,J):=OH Da p _ _ (by rw[uL];lia) (λi b c k=>by
   let(o,Q,P,O,N,G,R):=t _ b c;by_cases x:i+1=p
   .let e:=G x;subst e;show d.fits=l d.named (bO d.atoms _);rw[Q5 Da<|k x];exact h i d (by rw[x];exact w) λy=>by simp_all
   grind) j m e
  let(E,I,A,H,_):=t j o K;refine(L,E,I,?_,λq=>(J q).trans<|H q);unfold Sa at D A ⊢;rw[D,A]
def EX.Z0(Da:FW f v l n B C){rows:!cy}{b:Bool}{p:Nat}(I:p<rows.length)(D:∀(i:Nat) (r:cy),rows[i+1]?=Y r->(i+1=p->b=Z_)->r.fits=l r.named r.atoms)(A:∀(i:Nat) (p r:cy),rows[i]?=Y p->rows[i+1]?=Y r->r.dy=xo c p.dy p.ha (bA r.named h)/\r.ha=bO p.ha r.dy)(z:∃x g,rows={ tf with atoms:=x }::g):
  ∃t g,iZ l n b p rows=t::g/\EX l c h (t::eZ c t g):=by
 let S:=OH Da p b rows I D;let(x,Q,R):=z;generalize H:iZ l n b p rows=s at S;have P:0<s.length:=by rw[<- H];have:=congrArg nU (qC (a:=0) Da p b rows).nu;simp only[ar]at this;rw[this];simp_all
 obtain⟨t,g,rfl⟩:∃t g,s=t::g:=by cases s<;>simp_all
 refine(t,g,W,?_);let T:∃x,t={ tf with atoms:=x }:=by let(_,r,m,k,L):=S 0 t W;rw[R]at m;cases m;unfold Sa at k;rw[L W]at k;exact(t.atoms,k)
 have G:∀(i:Nat) (p r:cy),(t::g)[i]?=Y p->(t::g)[i+1]?=Y r->r.dy=xo c p.dy p.ha (bA r.named h)/\r.ha=bO p.ha r.dy:=λi p r m k=>by let(_,u,K,y,_):=S i p m;let(_,q,J,w,_):=S (i+1) r k;unfold Sa at y w;rw[y,w];exact A i u q K J
 let F:∀(a:Int) (t:cy) (g:!cy) (j:Nat) (d:cy),(eZ a t g)[j]?=Y d->∃r,g[j]?=Y r/\d={ r with aJ:=d.aJ,ra:=d.ra }:=λa t g=>by
  induction g generalizing t with
  |nil=>intro j d e;simp[eZ]at e
  |cons r g ih=>
   intro j d e;cases j with
   |zero=>cases e;exact(r,W,W)|succ j=>exact ih _ j d e
 have o:∀(j:Nat) (d:cy),(t::eZ c t g)[j]?=Y d->∃r,(t::g)[j]?=Y r/\d={ r with aJ:=d.aJ,ra:=d.ra }:=λj d e=>by
  cases j with|zero=>cases e;exact(t,W,W)|succ j=>exact F _ _ _ j d e
 let E:∀(g:!cy) (t:cy) (i:Nat) (p r:cy),(t::eZ c t g)[i]?=Y p->(t::eZ c t g)[i+1]?=Y r->r.aJ=xo c p.aJ p.ra r.fits/\r.ra=bO p.ra r.aJ:=λg=>by
  induction g with
  |nil=>intro t i p r _ e;simp[eZ]at e
  |cons r g ih=>
   intro t i p d m k;cases i with
   |zero=>cases m;cases k;exact(W,W)|succ i=>exact ih _ i p d m k
 refine(λi r e =>?_,λi p r m k =>?_,E g t,?_)
 .let(q,a,b):=o (i+1) r e;rw[b];exact(λi r e=>(S (i+1) r e).1 ż) i q a
 .let(u,a,b):=o i p m;let(q,O,N):=o (i+1) r k;rw[b,N];exact G i u q a O
 .let(x,rfl):=T;exact(x,_,W)
end K21
end
section
set_option maxHeartbeats 1000000
namespace K21
open PySem L2
variable {f:vC}{v:Int}
def qT(f:vC)(c:jb)(t:cy)(g:!cy):!Int:=EJ (nK f.inner (2 ^ f.q.length) t g++(c.rests.filter<|lB<|t::eZ f.inner t g).map (·.num))
def SI.V7(I:SI f v n c w d b)(K:c.opened<=60)(e:c.rows=t::g):cY [cO c]=Y ((qT f c t g).map D.int,cO<|Md c<|t::eZ f.inner t g)/\SI f v n (Md c<|t::eZ f.inner t g) (w+(qT f c t g).length) d b:=by
 let(J,H,p,N):=OO (k:=f.q.length) g t t (λ_ h=>h) (λ_ h=>h) (e ▸ I.kr);let m:=I.cnt;let l:=I.XH;rw[e]at m l;rw[bg,mD]at l;rw[bQ]at m;let L:(c.rests.filter<|lB<|t::eZ f.inner t g).length+(c.rests.filter _).length=c.rests.length:=FO _ _;let s:=Bq (c:=c) e (by rw[I.ff];exact J) I.pl (by rw[I.ff,I.fu,aU,ar];lia) Ž Ž;rw[I.ff,I.fu]at s;have k:(t::eZ f.inner t g).length=c.rows.length:=by have:=congrArg nU p;rw[ar,ar]at this;rw[e,bQ,bQ,this]
 let F:(t::eZ f.inner t g).map (·.number)=c.rows.map (·.number):=by rw[e,bg,bg,p]
 have i:((c.rests.filter λr=> (not<|lB (t::eZ f.inner t g) r)).map (·.num)++(t::eZ f.inner t g).map (·.number)).Sublist (c.rests.map (·.num)++c.rows.map (·.number)):=by rw[F];exact((List.filter_sublist).map _).append<|l7 _
 refine(s,(I.ff,I.fa,I.fu,k.trans I.len,H,λy u =>?_,i.nodup I.nd,λx z=>I.lt x<|i.subset z,?_,?_,I.tk,I.op))
 .show 0<=y.place/\y.place<(t::eZ f.inner t g).length;rw[k];exact I.pl y (bV.mp u).1
 .show ((w+_+(c.rests.filter _).length+Dq f.q.length (t.aJ::(eZ f.inner t g).map (·.aJ)):Nat):Int)<=c.opened+1;unfold qT;rw[mD,(jK _).length_eq,aU,ar]
  lia
 .show (((c.rests.filter _).length+(t::eZ f.inner t g).length:Nat):Int)<=c.opened+1
  grind
inductive Stp (f:vC) (fit lift:Int->Int->Int) (stp txt:aP->Int) (c:jb):me->!Int->jb->Prop
 |cl {L p r}:c.rows=L++[p]++[r]->Stp f fit lift stp txt c .cl [] (AA (dN c) r p)
 |tx {x r t g}:c.rows[c.rows.length-1]?=some r->(js fit lift (dN c) (txt x) r).rows=t::g->Stp f fit lift stp txt c (.tx x) (qT f c t g) (Md (js fit lift (dN c) (txt x) r)<|t::eZ f.inner t g)
 |op {x r t g}:c.rows.getLast? = some r->(Pl fit lift (dN c) (stp x) r).rows=t::g->Stp f fit lift stp txt c (.op x) (qT f c t g) (Md (Pl fit lift (dN c) (stp x) r)<|t::eZ f.inner t g)
theorem aaR(Da:FW f g a j l k)(I:SI f g a c m d b)(X:EX a f.inner g c.rows)(Z:c.taken<=45)(s:me)(n:eR (d,b) s=Y (d',b')):
  ∃(q:!Int) (o:jb),eS [cO c,i7 s]=Y (q.map D.int,cO o)/\SI f g a o (m+q.length) d' b'/\o.taken=c.taken+1/\EX a f.inner g o.rows/\Stp f a j l k c s q o:=by
 let N:=I.len;have A:VJ c.f a j:=by rw[I.ff];exact Da.ok
 have z:FSt c.f l k:=by rw[I.ff];exact Da.st
 let C:=I.tk;let G:=I.cnt;have hw:0<d->decide (1<c.rows.length)=true:=λh=>decide_eq_true Ż
 have t:c.rows[c.rows.length-1]?=Y (c.rows[c.rows.length-1]' Ż):=ai ž;generalize (c.rows[c.rows.length-1]' ž)=r at t;have E:c.rows.getLast? = Y r:=by rw[N_];exact t
 cases s with
 |cl=>
  by_cases i:0<d
  .simp only[eR,if_pos i,jk,Bd]at n;let(rfl,rfl):=n;let(L,p,r,e,K,O,H):=I.close i;refine([],_,Ji (hw i) (by rw[e,ZM]) (by show c.rows.dropLast.getLast? = _;rw[e,gK,ZM]) K Ž,H,W,?_,.cl e);show EX a f.inner g c.rows.dropLast;have dl:∀(i:Nat) (r:cy),c.rows.dropLast[i]?=Y r->c.rows[i]?=Y r:=λi r h=>by
    rw[w_,List.getElem?_take]at h;split at h
    .exact h
    .cases h
   refine(λi r h=>X.xf i r<|dl _ _ h,λi p r B Q=>X.xh i p r (dl _ _ B)<|dl _ _ Q,λi p r B Q=>X.xr i p r (dl _ _ B)<|dl _ _ Q,?_);let(x,y,S):=X.xt;cases y with
   |nil=>rw[S]at N;simp at N;simp_all|cons r0 y=>exact(x,(r0::y).dropLast,by rw[S];rfl)
  .simp[eR,i]at n
 |tx x=>
  by_cases i:0<d
  .simp only[eR,if_pos i,jk,Bd]at n;let(rfl,rfl):=n;let J:SI f g a (js a j (dN c) (k x) r) m d b:=by
    unfold js;split
    .exact I.tk1.keep<|.trans (.atoms Da (i:=c.rows.length-1) t _) (qC Da _ _ _)
    .exact I.tk1
   have y:(js a j (dN c) (k x) r).opened=c.opened/\(js a j (dN c) (k x) r).taken=c.taken+1/\(js a j (dN c) (k x) r).rests=c.rests:=by unfold js;split<;>exact(W,W,W)
   let hx:∃P R,(js a j (dN c) (k x) r).rows=P::R/\EX a f.inner g (P::eZ f.inner P R):=by
    unfold js;split
    .have T:∀(i:Nat) (u:cy),(c.rows.set (c.rows.length-1) { r with atoms:=bO r.atoms (k x) })[i]?=Y u->(i≠c.rows.length-1/\c.rows[i]?=Y u)\/(i=c.rows.length-1/\u={ r with atoms:=bO r.atoms (k x) }):=λi u h=>by
      by_cases z:c.rows.length-1=i
      .subst z;rw[aX<|by simp_all]at h;cases h;exact .inr (W,W)
      .rw[aq z]at h;exact .inl (bw z,h)
     refine EX.Z0 Da (rows:=c.rows.set (c.rows.length-1) { r with atoms:=bO r.atoms (k x) }) (by show c.rows.length-1<(c.rows.set _ _).length;rw[kL];lia) (λi u h q =>?_) (λi p u B Q =>?_) ?_
     .obtain⟨_,h⟩|⟨h,_⟩:=T _ _ h
      .exact X.xf i u h
      .cases q h
     .obtain⟨n1,B⟩|⟨n1,rfl⟩:=T _ _ B
      .obtain⟨n2,Q⟩|⟨n2,rfl⟩:=T _ _ Q
       .exact X.xh i p u B Q
       .exact X.xh i p r B (by rw[n2];exact t)
      .exfalso;have:=(ah.mp Q).1;simp at this
       simp_all
     .let(x0,U,S):=X.xt;rw[S];cases U with
      |nil=>rw[S]at N;simp at N;simp_all|cons r0 U=>exact(x0,_,W)
    .let(x0,U,S):=X.xt;refine(_,U,S,?_);have:iZ a j Z_ 0 c.rows=c.rows:=rfl;let(t1,g1,e1,X1):=EX.Z0 Da (rows:=c.rows) (b:=Z_) (p:=0) Ż (λi r h V=>X.xf i r h) X.xh X.xt;rw[this,S]at e1;cases e1;exact X1
   let(P,R,e0,X0):=hx;let(e,w):=J.V7 (by rw[y.1];lia) e0;have qe:qT f (js a j (dN c) (k x) r) P R=qT f c P R:=by unfold qT;rw[y.2.2]
   rw[qe]at e w;exact(_,_,Nf A z (hw i) t Ž e,w,y.2.1,X0,.tx t e0)
  .simp[eR,i]at n
 |op x=>
  by_cases i:0<d\/b=Z_
  .simp only[eR,if_pos i,jk,Bd]at n;let(rfl,rfl):=n;let F:QP c (.op x)=true:=by
    show (decide (1<c.rows.length) || (not<|decide (0<c.opened)))=Z';obtain h|h:=i
    .rw[hw h];rfl
    .rw[<- I.op,h,Bool.not_false,V2]
   let hx:∃P R,(Pl a j (dN c) (l x) r).rows=P::R/\EX a f.inner g (P::eZ f.inner P R):=by
    show ∃P R,iZ a j Z' ((c.rows++[mQ a (dN c) c.opened (l x) 0 r]).length-1) (c.rows++[mQ a (dN c) c.opened (l x) 0 r])=P::R/\_;have T:∀(i:Nat) (u:cy),(c.rows++[mQ a (dN c) c.opened (l x) 0 r])[i]?=Y u->(i<c.rows.length/\c.rows[i]?=Y u)\/(i=c.rows.length/\u=mQ a (dN c) c.opened (l x) 0 r):=λi u h=>by
     by_cases z:i<c.rows.length
     .rw[aI z]at h;exact .inl (z,h)
     .have:=(ah.mp h).1;simp at this;let e:i=c.rows.length:=by lia
      subst e;rw[jG<|aF _]at h;simp at h;exact .inr (W,h.symm)
    refine EX.Z0 Da ż (λi u h q =>?_) (λi p u B Q =>?_) ?_
    .obtain⟨_,h⟩|⟨h,rfl⟩:=T _ _ h
     .exact X.xf i u h
     .rfl
    .obtain⟨n1,B⟩|⟨n1,rfl⟩:=T _ _ B
     .obtain⟨n2,Q⟩|⟨n2,rfl⟩:=T _ _ Q
      .exact X.xh i p u B Q
      .rw[show i=c.rows.length-1 by simp_all,t]at B;cases B;let h:(mQ a (dN c) c.opened (l x) 0 r).dy=xo f.inner r.dy r.ha (bA (l x) g):=by show xo c.f.inner r.dy r.ha (bA (l x) c.able)=_;rw[I.ff,I.fa]
       exact(h,W)
     .exfalso;have:=(ah.mp Q).1;simp at this
      lia
    .let(x0,U,S):=X.xt;exact(x0,U++[mQ a (dN c) c.opened (l x) 0 r],by rw[S];rfl)
   let(P,R,e0,X0):=hx;let(e,w):=(I.open Da (l x) r).V7 (by show c.opened+1<=60;lia) e0;let v:=Ia (x:=bO r.dy<|bA r.ha c.f.inner) (Ia (x:=l x) Da.able);rw[<- I.fa]at v;exact(_,_,Ng A z F E Ž Ž e,w,W,X0,.op E e0)
  simp_all [eR]
end K21
end
namespace K21
open PySem L2 K30
mutual
theorem Lz:∀(k:Ak) (n:Nat),dk k<=n->LnK k->rE n (Hs k)
 |.mk m b,n,h,l=>by rw[dk]at h;obtain⟨a,rfl⟩:∃a,n=a+1:=(n-1,Ž);exact(_,_,W,fZ m,l.1,RQ b a Ž l.2)
theorem RQ:∀(k:Cs) (n:Nat),Jq k<=n->R7 k->∀c∈yo k,∃b,c=.lst b/\b.length<=1000/\∀x∈b,rE n x
 |.nil,n,h,l,c,d=>by cases d
 | .cons a r,n,h,l,c,d=>by
  rw[Jq]at h;obtain rfl|d:=aG.mp d
  .exact(_,W,l.1.1,JB a n ŷ l.1.2)
  .exact RQ r n ŷ l.2 c d
theorem JB:∀(k:As) (n:Nat),Eb k<=n->WW k->∀x∈qb k,rE n x
 |.nil,n,h,l,x,b=>by cases b
 | .cons a r,n,h,l,x,b=>by
  rw[Eb]at h;obtain rfl|b:=aG.mp b
  .exact Lz a n ŷ l.1
  .exact JB r n ŷ l.2 x b
end
def VF{a n:Nat}:(bA (a:Int) (n:Int)==(n:Int))=Z'↔Sb n a:=by
 rw[RL,beq_iff_eq,Int.natCast_inj];constructor
 .intro h i e
  grind
 .intro h;refine nT λi =>?_
  rw[oX];cases e:n.testBit i with
  |false=>simp|true=>rw[h i e];rfl
mutual
theorem zJ{a:Nat}:∀(k:Ak) (n:Nat),dk k<=n->(mW n (Hs k) (a:Int)=Z'↔xy a k)
 |.mk m c,n,h=>by rw[dk]at h;obtain⟨b,rfl⟩:∃b,n=b+1:=(n-1,Ž);rw[Hs,IG,ax,VF];exact and_congr e_<|P9 c b Ž
theorem P9{a:Nat}:∀(k:Cs) (n:Nat),Jq k<=n->((yo k).all (λc=>match c with|.lst d=>d.any λx=>mW n x (a:Int)|_=>Z_)=Z'↔vB a k)
 |.nil,n,h=>by solve_by_elim
 |.cons c r,n,h=>by rw[Jq]at h;rw[yo,gZ,ax,vB,P9 r n (by lia),P8 c n<|by lia]
theorem P8{a:Nat}:∀(k:As) (n:Nat),Eb k<=n->((qb k).any (λx=>mW n x (a:Int))=Z'↔Hg a k)
 |.nil,n,h=>by simp[qb,Hg]
 |.cons x r,n,h=>by rw[Eb]at h;rw[qb,nG,bx,Hg,P8 r n (by lia),zJ x n<|by lia]
end
noncomputable def ldI(l:Nat×Ak):Int×D:=((2:Int) ^ l.1,Hs l.2)
set_option tactic.hygienic true in
theorem Kr{a:Nat}{f:Int}:∀(L:!(Nat×Ak)) (b:Int),(∀l∈L,dk l.2<=n)->(tz (Dv n f (a:Int) b<|L.map ldI) i=Z'↔tz b i=Z'\/∃l∈L,l.1=i/\tz f i=Z'/\xy a l.2)
 |[],b,_=>by simp[Dv]
 | l::L,b,h=>by
  show tz (Dv n f a (if _ then _ else _)<|L.map ldI) i=Z'↔_;rw[Kr L _ λx d=>h x<|.tail _ d,mh];let m:=zJ (a:=a) l.2 n (h l az);refine Iff.trans (b:=(tz b i=Z'\/(l.1=i/\tz f i=Z'/\xy a l.2))\/_) (or_congr_left ?_) (or_assoc.trans<|or_congr_right (λh=>h.elim (λz=>(l,.head _,z)) λ(x,y,z)=>(x,.tail _ y,z),λ(x,y,z)=>(aG.mp y).elim (λe =>.inl<|e ▸ z) λy =>.inr (x,y,z)));split
  .rename_i c;rw[ax]at c;rw[kb,qr,bx,decide_eq_true_iff];exact or_congr_right (λe=>(e,e ▸ c.1,m.mp c.2),And.left)
  .rename_i c;exact(.inl,λh=>h.elim id λ(e,t,g)=>absurd (by rw[ax];exact(e ▸ t,m.mpr g)) c)
theorem Qf{m:Nat}{f:Int}(h:Le a b):∀(c:!(Int×D)) (x y:Int),(∀p∈c,rE m p.2)->Le x y->Le (Dv n f a x c) (Dv n f b y c)
 |[],x,y,_,l=>l| p::c,x,y,k,l=>by
  refine Qf h c _ _ (λq d=>k q Ÿ) ?_;cases e:bA f p.1 != 0 with
  |false=>simpa using l|true=>
   cases g:mW n p.2 a with|false=>grind [wz]|true=>rw[IF n m p.2 a b (k p az) h g];exact Kt l λ_ h=>h
noncomputable def IA:As->Nat->↑Ak
 |.nil,_=>M|.cons x _,0=>Y x|.cons _ r,n+1=>IA r n
noncomputable def jq:Ss->Nat->↑Tp
 |.nil,_=>M|.cons b a w _,0=>Y (b,a,w)|.cons _ _ _ r,n+1=>jq r n
theorem K3{a:Nat}:∀(l:As) (k:Nat) (b:Int),Eb l<=n->(tz (BD n d (a:Int) k b<|qb l) i=Z'↔tz b i=Z'\/∃j x,i=k+j/\IA l j=Y x/\tz d i=Z'/\xy a x)
 |.nil,k,b,_=>by simp[qb,BD,IA]
 | .cons y r,k,b,h=>by
  rw[Eb]at h;show tz (BD n d a (k+1) _ _) i=Z'↔_;rw[K3 r _ _ (by grind),mh];let m:=zJ (a:=a) y n ŷ;have o:(∃j x,i=k+j/\IA (.cons y r) j=Y x/\tz d i=Z'/\xy a x)↔(i=k/\tz d i=Z'/\xy a y)\/∃j x,i=k+1+j/\IA r j=Y x/\tz d i=Z'/\xy a x:=by
   constructor
   .rintro⟨j,x,e,f,g⟩;cases j with
    |zero=>cases f;exact .inl (e,g)|succ j=>exact .inr (j,x,ŷ,f,g)
   .rintro(⟨e,g⟩|⟨j,x,e,f,g⟩)
    .exact(0,y,ž,W,g)
    .exact(j+1,x,ŷ,f,g)
  rw[o,<- or_assoc];refine or_congr ?_ e_;by_cases c:tz d k=Z'/\mW n (Hs y) a=Z'
  .rw[if_pos (by simp_all),kb,qr,bx,decide_eq_true_eq];refine or_congr e_ (λz =>?_,λz=>z.1.symm);subst z;exact(W,c.1,m.mp c.2)
  lia
mutual
noncomputable def AL:Wi->Bool
 |.any=>Z'|.txt _=>Z'|.has s=>(WR s).all id|.both w=>(N6 w).all id|.one w=>(N6 w).any id
noncomputable def N6:Ws->!Bool
 |.nil=>[]|.cons w r=>AL w::N6 r
noncomputable def WR:Ss->!Bool
 |.nil=>[]|.cons _ _ w r=>AL w::WR r
end
mutual
theorem GZ:∀(w:Wi){f:!Tr},nN w f->AL w=Z'
 |.any,_,_=>rfl|.txt _,_,_=>rfl|.has s,f,h=>acr s h|.both w,f,h=>acu w h|.one w,f,h=>acs w h
theorem acu:∀(w:Ws){f:!Tr},xw w f->(N6 w).all id=Z'
 |.nil,_,_=>rfl|.cons w r,f,h=>by rw[N6,gZ,acu r h.2];simp[GZ w h.1]
theorem acs:∀(w:Ws){f:!Tr},xu w f->(N6 w).any id=Z'
 |.nil,_,h=>h.elim|.cons w r,f,h=>by rw[N6,nG,bx];exact h.imp (GZ w)<|acs r
theorem acr:∀(s:Ss){E:!Tr->Prop}{f:!Tr},wY E s f->(WR s).all id=Z'
 |.nil,_,_,_=>rfl|.cons b a w r,E,f,(n,g,_,_,h,l)=>by rw[WR,gZ,acr r l];simp[GZ w h]
end
mutual
theorem Ef:∀(w:Wi) (m:Nat),j6 w<=m->lI w<=900->fK m [rH w]=Y (.bl<|AL w)
 |w,0,h,_=>by cases w<;>simp[j6]at h
 |.any,m+1,_,_=>by solve_by_elim
 |.txt t,m+1,_,_=>by solve_by_elim
 |.has s,m+1,h,z=>by rw[j6]at h;rw[lI]at z;exact bq (ly (tY _)<|f7 (um<|kA W (by have:=Fi s;lia) (WS s m Ž Ž)) (JF (f:=id))) W
 |.both w,m+1,h,z=>by rw[j6]at h;rw[lI]at z;exact bq (mu (tY _)<|ly (tY _)<|f7 (um<|kA W (by have:=qo w;lia) (RF w m Ž Ž)) (JF (f:=id))) W
 |.one w,m+1,h,z=>by rw[j6]at h;rw[lI]at z;exact bq (mu (tY _)<|mu (tY _)<|ly (tY _)<|f7 (um<|kA W (by have:=qo w;lia) (RF w m Ž Ž)) (RT (f:=id))) W
theorem RF:∀(w:Ws) (m:Nat),BG w<=m->vX w<=900->rN [M] (gN 0) gR (be (fK m) Db) (vK w)=Y ((N6 w).map λb =>.bl b)
 |.nil,_,_,_=>rfl|.cons w r,m,h,z=>by rw[BG]at h;rw[vX]at z;exact rM W (Ef w m ŷ Ž)<|RF r m ŷ Ž
theorem WS:∀(s:Ss) (m:Nat),oO s<=m+1->pT s<=900->rN [M] (gN 0) gR (be (fK m) ol) (gS s)=Y ((WR s).map λb =>.bl b)
 |.nil,_,_,_=>rfl|.cons b a w r,m,h,z=>by rw[oO]at h;rw[pT]at z;exact rM W (Ef w m ŷ Ž)<|WS r m ŷ Ž
end
end K21
section
set_option maxHeartbeats 1000000
namespace K21
open PySem L2
structure TW(ns:!Nd):Prop where
 par:∀(k:Nat) (n:Nd),ns[k]?=some n -> -1<=n.par/\n.par<k
 EK:∀(k:Nat) (n:Nd),ns[k]?=some n->∀j∈n.kd,∃i m,j=((i:Nat):Int)/\k<i/\ns[i]?=some m/\m.par=k
 back:∀(j:Nat) (m:Nd),ns[j]?=some m->∀k:Nat,m.par=k->∃n,ns[k]?=some n/\(j:Int)∈n.kd
 nd:∀(k:Nat) (n:Nd),ns[k]?=some n->n.kd.Nodup
 tx:∀(k:Nat) (n:Nd),ns[k]?=some n->∀t∈n.tx,∃s,t=.str s
noncomputable def Ck:!Nat->Int
 |[]=> -1|k::_=>k
def vA(a:!Nd):!Nat->Prop
 |[]=>True|k::st=>(∃n,a[k]?=Y n/\n.par=Ck st)/\vA a st
inductive Ts:!Nd->!Nat->me->!Nd->!Nat->Prop
 |Wq {ns x}:Ts ns [] (.op x) (ns++[xk x<|-1]) [ns.length]
 |op {ns:!Nd}{k n st x}:ns[k]?=some n->Ts ns (k::st) (.op x) (ns.set k { n with kd:=n.kd++[(ns.length:Int)] }++[xk x k]) (ns.length::k::st)
 |tx {ns:!Nd}{k n st x}:ns[k]?=some n->Ts ns (k::st) (.tx x) (ns.set k { n with tx:=n.tx++[.str x] }) (k::st)
 |cl {ns:!Nd}{k st}:Ts ns (k::st) .cl ns st
def lV(a b:!Nd):Prop:=∀(k:Nat) (n:Nd),a[k]?=Y n->∃m,b[k]?=Y m/\m.nm=n.nm/\m.par=n.par/\(∀t∈n.tx,t∈m.tx)/\∀j∈n.kd,j∈m.kd
def lV.refl(a:!Nd):lV a a:=λk n e=>(n,e,W,W,λ_ h=>h,λ_ h=>h)
def lV.trans{a c:!Nd}(h:lV a b)(g:lV b c):lV a c:=λk n e=>by
 let(m,f,u,s,r,q):=h k n e;let(o,d,p,l,j,i):=g k m f
 simp_all
def qD{l:!a}(h:(l++[x])[i]?=Y y):l[i]?=Y y\/(i=l.length/\x=y):=by
 by_cases z:i<l.length
 .rw[aI z]at h;exact .inl h
 .have:=(ah.mp h).1;simp at this;let e:i=l.length:=by lia
  subst e;simp at h;exact .inr (W,h)
def y6{l:!a}{z:a}{k:Nat}(e:l[k]?=Y z)(h:(l.set k x)[i]?=Y y):(i=k/\y=x)\/(i≠k/\l[i]?=Y y):=by
 by_cases c:k=i
 .subst c;rw[aX (ah.mp e).1]at h;cases h;exact .inl (W,W)
 .rw[aq c]at h;exact .inr (bw c,h)
def Mj{l:!a}(e:l[k]?=Y z):(l.set k x)[k]?=Y x:=aX (ah.mp e).1
def oQ{a:Type}{l m:!a}{x:a}{i:Nat}(h:l[i]?=Y x):(l++m)[i]?=Y x:=by rw[aI (ah.mp h).1];exact h
def se{l:!a}(h:l[i]?=Y x):i<l.length:=(ah.mp h).1
def Ts.sub{g a:!Nd}{i d:!Nat}{s:me}(h:Ts g i s a d):lV g a:=by
 cases h with
 |Wq=>exact λk n e=>(n,oQ e,W,W,λ_ h=>h,λ_ h=>h)
 |@op f j _ x b=>
  intro k n e;by_cases c:k=f
  .subst c;rw[b]at e;cases e;exact(_,oQ<|Mj b,W,W,λ_ h=>h,λ_ h=>aS _ h)
  .exact(n,oQ (by rw[aq<|bw c];exact e),W,W,λ_ h=>h,λ_ h=>h)
 |@tx f j _ x b=>
  intro k n e;by_cases c:k=f
  .subst c;rw[b]at e;cases e;exact(_,Mj b,W,W,λ_ h=>aS _ h,λ_ h=>h)
  .exact(n,by rw[aq<|bw c];exact e,W,W,λ_ h=>h,λ_ h=>h)
 |cl=>exact .refl _
theorem vA.up(h:lV a b):∀ {st},vA a st->vA b st
 |[],_=>trivial|k::st,((n,e,p),o)=>by let(m,c,_,q,_):=h k n e;exact((m,c,q.trans p),vA.up h o)
def Ts.XU{s:me}(h:Ts d c s b a)(O:vA d c):vA b a:=by
 let u:=vA.up h.sub O;cases h with
 |Wq=>exact((_,by simp;solve_by_elim,W),trivial)
 |op e=>exact((_,by simp;rfl,W),u)
 |tx e=>exact u|cl=>exact u.2
def Ts.keep{c:!Nd}{s:me}(h:Ts c d s b a)(e:k<c.length)(n:k∉d):b[k]?=c[k]? /\k∉a:=by
 cases h with
 |Wq=>exact(aI e,by simp;omega)
 |op f=>simp at n;refine(?_,by simp;exact(Ž,n));rw[aI (by simp_all),aq<|bw n.1]
 |tx f=>exact(by rw[aq];simp_all;lia,n)
 |cl=>simp_all
def Ts.tw{f B:!Nd}{L I:!Nat}{s:me}(h:Ts f L s B I)(T:TW f):TW B:=by
 cases h with
 |@Wq x=>
  refine(λk n e =>?_,λk n e =>?_,λj m e k q =>?_,λk n e =>?_,λk n e =>?_)
  .obtain e|⟨rfl,rfl⟩:=qD e
   .exact T.par k n e
   .exact(ZQ _,by show (-1:Int)<_;solve_by_elim)
  .obtain e|⟨rfl,rfl⟩:=qD e
   .intro j v;let(i,m,a,b,c,d):=T.EK k n e j v;exact(i,m,a,b,oQ c,d)
   .intro j v;cases v
  .obtain e|⟨rfl,rfl⟩:=qD e
   .let(n,a,b):=T.back j m e k q;exact(n,oQ a,b)
   .let q:(-1:Int)=k:=q;trivial
  .obtain e|⟨rfl,rfl⟩:=qD e
   .exact T.nd k n e
   .exact NR
  .obtain e|⟨rfl,rfl⟩:=qD e
   .exact T.tx k n e
   .intro t C;cases C
 |@op l u H x w=>
  let P:=se w;have E:∀ {k:Nat}{n:Nd},(f.set l { u with kd:=u.kd++[(f.length:Int)] }++[xk x l])[k]?=Y n->(k=l/\n={ u with kd:=u.kd++[(f.length:Int)] })\/(k≠l/\f[k]?=Y n)\/(k=f.length/\n=xk x l):=fun {k n} e=>by
   obtain e|⟨a,b⟩:=qD e
   .obtain e|e:=y6 w e
    .exact .inl e
    .exact .inr<|.inl e
   .exact .inr<|.inr (by simpa using a,b.symm)
  have A:∀ {k:Nat}{n:Nd},f[k]?=Y n->∃m,(f.set l { u with kd:=u.kd++[(f.length:Int)] }++[xk x l])[k]?=Y m/\m.par=n.par/\∀j∈n.kd,j∈m.kd:=fun {k n} e=>by
   by_cases c:k=l
   .subst c;rw[w]at e;cases e;exact(_,oQ<|Mj w,W,λj h=>aS _ h)
   .exact(n,oQ (by rw[aq<|bw c];exact e),W,λj h=>h)
  refine(λk n e =>?_,λk n e =>?_,λj m e k q =>?_,λk n e =>?_,λk n e =>?_)
  .obtain⟨rfl,rfl⟩|⟨_,e⟩|⟨rfl,rfl⟩:=E e
   .exact T.par _ u w
   .exact T.par _ _ e
   .exact(by show (-1:Int)<=l;simp,by show (l:Int)<_;simp_all)
  .have y:∀ {n:Nd},f[k]?=Y n->∀j∈n.kd,∃i m,j=((i:Nat):Int)/\k<i/\(f.set l { u with kd:=u.kd++[(f.length:Int)] }++[xk x l])[i]?=Y m/\m.par=k:=fun {n} e j v=>by let(i,m,a,b,c,d):=T.EK k n e j v;let(F,z,G,_):=A c;exact(i,F,a,b,z,G.trans d)
   obtain⟨rfl,rfl⟩|⟨_,e⟩|⟨rfl,rfl⟩:=E e
   .intro j v;obtain v|v:=aD.mp v
    .exact y w j v
    .exact(f.length,xk x k,by simpa using v,P,ż,W)
   .exact y e
   .intro j v;cases v
  .have y:∀ {m:Nd},f[j]?=Y m->m.par=k->∃n,(f.set l { u with kd:=u.kd++[(f.length:Int)] }++[xk x l])[k]?=Y n/\(j:Int)∈n.kd:=fun {m} e q=>by let(n,a,b):=T.back j m e k q;let(F,z,_,K):=A a;exact(F,z,K _ b)
   obtain⟨rfl,rfl⟩|⟨_,e⟩|⟨rfl,rfl⟩:=E e
   .exact y w q
   .exact y e q
   .let q:(l:Int)=k:=q;have:l=k:=by lia
    subst this;exact(_,oQ<|Mj w,aE _ Ÿ)
  .obtain⟨rfl,rfl⟩|⟨_,e⟩|⟨rfl,rfl⟩:=E e
   .refine bM.mpr (T.nd _ _ w,ż,λa O b N =>?_);let(i,m,e,_,c,_):=T.EK _ _ w a O;have:=se c;simp at N
    lia
   .exact T.nd _ _ e
   .exact NR
  .obtain⟨rfl,rfl⟩|⟨_,e⟩|⟨rfl,rfl⟩:=E e
   .exact T.tx _ u w
   .exact T.tx _ _ e
   .intro t C;cases C
 |@tx l u H x w=>
  have A:∀ {k:Nat}{n:Nd},f[k]?=Y n->∃m,(f.set l { u with tx:=u.tx++[.str x] })[k]?=Y m/\m.par=n.par/\m.kd=n.kd:=fun {k n} e=>by
   by_cases c:k=l
   .subst c;rw[w]at e;cases e;exact(_,Mj w,W,W)
   .exact(n,by rw[aq<|bw c];exact e,W,W)
  have D:∀ {k:Nat}{n:Nd},(f.set l { u with tx:=u.tx++[.str x] })[k]?=Y n->∃m,f[k]?=Y m/\n.par=m.par/\n.kd=m.kd/\∀t∈n.tx,t∈m.tx\/t=.str x:=fun {k n} e=>by
   obtain⟨rfl,rfl⟩|⟨_,e⟩:=y6 w e
   .exact(u,w,W,W,λt h=>by simpa using h)
   .exact(n,e,W,W,λt h =>.inl h)
  refine(λk n e =>?_,λk n e j v =>?_,λj m e k q =>?_,λk n e =>?_,λk n e t C =>?_)
  .let(m,a,b,c,_):=D e;rw[b];exact T.par _ _ a
  .let(m,a,b,c,_):=D e;rw[c]at v;let(i,o,p,q,r,s):=T.EK _ _ a j v;let(J,z,G,_):=A r;exact(i,J,p,q,z,G.trans s)
  .let(F,a,b,c,_):=D e;let(n,d,g):=T.back _ _ a k<|b.symm.trans q;let(J,z,G,K):=A d;exact(J,z,by rw[K];exact g)
  .let(m,a,b,c,_):=D e;rw[c];exact T.nd _ _ a
  .let(m,a,b,c,d):=D e;obtain h|h:=d t C
   .exact T.tx _ _ a t h
   exact Ÿ
 |cl=>exact T
end K21
end
section
set_option maxHeartbeats 1000000
namespace K21
open PySem L2
structure WH(lift:Int->Int->Int)(stp txt:aP->Int)(ns:!Nd)(AW:Nat->Int):Prop where
 tw:TW ns
 mono:∀n a b,Le a b->Le (lift n a) (lift n b)
 a1:∀(k:Nat) n,ns[k]?=some n->∀t,D.str t∈n.tx->Le (txt t) (AW k)
 a2:∀(k:Nat) n,ns[k]?=some n->∀(j:Nat) m,(j:Int)∈n.kd->ns[j]?=some m->Le (lift (stp m.nm)<|AW j) (AW k)
 a3:∀(k:Nat) n x,ns[k]?=some n->(∀t,D.str t∈n.tx->Le (txt t) x)->(∀(j:Nat) m,(j:Int)∈n.kd->ns[j]?=some m->Le (lift (stp m.nm)<|AW j) x)->Le (AW k) x
noncomputable def bd(AW:Nat->Int)(z:Int):Int:=if 0<=z then AW z.toNat else -1
def RK(AW:Nat->Int)(k:Nat):bd AW k=AW k:=by trivial
def abw(x:Int):Le x<|-1:=λi a=>by simp[tz,bN,uC]
def Wm(h:Le x z)(g:Le y z):Le (bO x y) z:=λi e=>by
 rw[kb,bx]at e;exact e.elim (h i)<|g i
def IK(x y:Int):Le y<|bO x y:=λi e=>by rw[kb,e,V2]
def sJ(h:Le x y)(g:Le y z):Le x z:=λi e=>g i<|h i e
def Ks(h:(bA y (bN x) != 0)=Z_):Le (bO x y) x:=λi e=>by
 rw[kb]at e;cases q:tz x i with
 |true=>rfl|false=>
  let z:=by simpa using h
  have:=congrArg (tz · i) z
  grind [c5,nH,je]
theorem OI{fit lift:Int->Int->Int}(v:∀n a b,Le a b->Le (lift n a) (lift n b))(X:Nat->Int):∀(p:Nat) (b:Bool) (a:!cy),p<a.length ->
  (∀(i:Nat) (q r:cy),a[i]?=Y q->a[i+1]?=Y r->(i+1=p->b=Z_)->Le (lift r.named r.atoms) q.atoms) ->
  (∀(i:Nat) (r:cy),a[i]?=Y r->Le r.atoms (X i))->(∀(i:Nat) (r:cy),a[i+1]?=Y r->Le (lift r.named<|X<|i+1) (X i)) ->
  (∀(i:Nat) (q r:cy),(iZ fit lift b p a)[i]?=Y q->(iZ fit lift b p a)[i+1]?=Y r->Le (lift r.named r.atoms) q.atoms) /\
  ∀(j:Nat) (m:cy),(iZ fit lift b p a)[j]?=Y m->∃r,a[j]?=Y r/\Sa r m/\Le r.atoms m.atoms/\Le m.atoms (X j)
 | p,Z_,a,s,h,u,x=>by
  have z:iZ fit lift Z_ p a=a:=by cases p<;>rfl
  rw[z];exact(λi q r e g=>h i q r e g λ_=>rfl,λj m e=>(m,e,W,λ_ h=>h,u j m e))
 |0,Z',a,s,h,u,x=>(λi q r e g=>h i q r e g (λz=>by cases z),λj m e=>(m,e,W,λ_ h=>h,u j m e))
 | p+1,Z',a,s,h,u,x=>by
  let y:=ai s;let C:a[p]?=Y _:=ai Ž;generalize a[p+1]=r at y;generalize a[p]' Ž=d at C;have z:iZ fit lift Z' (p+1) a=iZ fit lift (bA (lift r.named r.atoms) (bN d.atoms) != 0) p (xH fit lift p r d a):=by show (match a[p+1]?,a[p]? with|some r,Y w=>_|_,_=>_)=_;rw[y,C]
  have t:∀(j:Nat) (b:cy),(xH fit lift p r d a)[j]?=Y b->(j=p/\b={ d with atoms:=bO d.atoms (lift r.named r.atoms) })\/(j=p+1/\b={ r with fits:=fit r.named r.atoms })\/(j≠p/\j≠p+1/\a[j]?=Y b):=λj b c=>by
   unfold xH at c;obtain c|⟨n,c⟩:=y6 (k:=p) (z:=d) (by rw[aq<|by simp];exact C) c
   .exact .inl c
   .obtain c|c:=y6 y c
    .exact .inr<|.inl c
    .exact .inr<|.inr (n,c)
  have H:Le (lift r.named r.atoms)<|X p:=sJ (v _ _ _<|u _ _ y)<|x p r y;rw[z];let(A,B):=OI (fit:=fit) v X p (bA (lift r.named r.atoms) (bN d.atoms) != 0) (xH fit lift p r d a) (by rw[uL];lia) (λi q w f g k=>by
   obtain⟨rfl,rfl⟩|⟨rfl,rfl⟩|⟨G,F,f⟩:=t _ _ f
   .obtain⟨n,_⟩|⟨_,rfl⟩|⟨_,n,_⟩:=t _ _ g
    .simp_all
    .exact IK _ _
    .trivial
   .obtain⟨n,_⟩|⟨n,_⟩|⟨_,n,g⟩:=t _ _ g
    .lia
    .simp_all
    .exact h _ r _ y g λn=>by trivial
   .obtain⟨n,rfl⟩|⟨n,rfl⟩|⟨_,n,g⟩:=t _ _ g
    .exact sJ (v _ _ _<|Ks<|k n) (h i q d f (by rw[n];exact C) λn=>Ż)
    .simp_all
    .exact h _ _ _ f g λn=>by trivial) (λi w f=>by
   obtain⟨rfl,rfl⟩|⟨rfl,rfl⟩|⟨G,F,f⟩:=t _ _ f
   .exact Wm (u _ _ C) H
   .exact u _ r y
   .exact u _ _ f) (λi w f=>by
   obtain⟨n,rfl⟩|⟨n,rfl⟩|⟨G,F,f⟩:=t _ _ f
   .exact x i d (by rw[n];exact C)
   .exact x i r (by rw[n];exact y)
   .exact x i w f)
  refine(A,λj m e =>?_);let(o,I,D,l,E):=B j m e;obtain⟨rfl,rfl⟩|⟨rfl,rfl⟩|⟨G,F,f⟩:=t _ _ I
  .exact(d,C,by unfold Sa at D ⊢;rw[D],sJ (wz _ _) l,E)
  .exact(r,y,by unfold Sa at D ⊢;rw[D],l,E)
  .exact(o,f,D,l,E)
noncomputable def jB(st:!Nat):!Int:= -1::st.reverse.map λk:Nat=>(k:Int)
theorem pw{us:!Nd}:∀ {st:!Nat},vA us st->∀(i:Nat) (a b:Int),(jB st)[i]?=Y a->(jB st)[i+1]?=Y b->∃(j:Nat) (n:Nd),b=j/\us[j]?=Y n/\n.par=a
 |[],_,i,a,b,e,g=>by simp[jB]at g
 | k::st,((n,e0,p),O),i,a,b,e,g=>by
  have z:jB (k::st)=jB st++[(k:Int)]:=by simp[jB]
  rw[z]at e g;obtain g|⟨h,rfl⟩:=qD g
  .have:i<(jB st).length:=by have:=se g;lia
   rw[aI this]at e;exact pw O i a b e g
  .refine(k,n,W,e0,?_);have l:(jB st).length=st.length+1:=by simp[jB]
   have:i=st.length:=by simp_all
   subst this;rw[p];cases st with
   |nil=>simpa [jB,Ck] using e|cons k' lx=>simpa [jB,Ck] using e
structure R0(lift:Int->Int->Int)(stp txt:aP->Int)(AW:Nat->Int)(us:!Nd)(st:!Nat)(rows:!cy):Prop where
 num:rows.map (·.number)=jB st
 PY:∀r∈rows,∀(k:Nat) n,r.number=k->us[k]?=some n->r.named=stp n.nm
 up:∀r∈rows,Le r.atoms<|bd AW r.number
 l1:∀r∈rows,∀(k:Nat) n,r.number=k->us[k]?=some n->∀t,D.str t∈n.tx->Le (txt t) r.atoms
 l2:∀r∈rows,∀(k:Nat) n,r.number=k->us[k]?=some n->∀(j:Nat) m,(j:Int)∈n.kd->j∉st->us[j]?=some m->Le (lift (stp m.nm)<|AW j) r.atoms
def L3(lift:Int->Int->Int)(rows:!cy):Prop:=∀(i:Nat) (q r:cy),rows[i]?=Y q->rows[i+1]?=Y r->Le (lift r.named r.atoms) q.atoms
section
variable {fit lift:Int->Int->Int}{stp txt:aP->Int}{AW:Nat->Int}{ns us:!Nd}{st:!Nat}{rows:!cy}
def R0.Yl{f:!cy}(h:R0 lift stp txt AW us st rows)(l:f.length=rows.length)(g:∀(j:Nat) (m:cy),f[j]?=Y m->∃r,rows[j]?=Y r/\m.number=r.number/\m.named=r.named/\Le r.atoms m.atoms/\Le m.atoms (bd AW r.number)):R0 lift stp txt AW us st f:=by
 have s:∀m∈f,∃r∈rows,m.number=r.number/\m.named=r.named/\Le _ _/\Le _ _:=λm i=>by let(j,w,e):=cK.mp i;let(r,u,z):=g j m (by rw[ai w,e]);exact(r,bp u,z)
 refine(?_,λm i k n e q =>?_,λm i =>?_,λm i k n e q t v =>?_,λm i k n e q j o a b c =>?_)
 .rw[<- h.num];refine rT λj =>?_
  rw[aK,aK];cases e:f[j]? with
  |none=>
   have:rows[j]?=none:=by rw[gu]at e ⊢;simp_all
   rw[this]
  |some m=>let(r,u,z,_):=g j m e;rw[u,cE,cE,z]
 .let(r,p,a,b,_):=s m i;rw[b];exact h.PY r p k n (a ▸ e) q
 .let(r,p,a,b,c,d):=s m i;rw[a];exact d
 .let(r,p,a,b,c,d):=s m i;exact sJ (h.l1 r p k n (a ▸ e) q t v) c
 .let(r,p,y,A,x,d):=s m i;exact sJ (h.l2 r p k n (y ▸ e) q j o a b c) x
def cI{rows:!cy}{l:!Int}(h:rows.map (·.number)=l){i:Nat}{r:cy}(e:rows[i]?=Y r):l[i]?=Y r.number:=by rw[<- h,aK,e];rfl
set_option tactic.hygienic true
def R0.Z0(H:WH lift stp txt ns AW)(h:R0 lift stp txt AW us st rows)(O:vA us st)(S:lV us ns){p:Nat}(hp:p<rows.length)(l:∀(i:Nat) (q r:cy),rows[i]?=Y q->rows[i+1]?=Y r->(i+1=p->Z'=Z_)->Le (lift r.named r.atoms) q.atoms):R0 lift stp txt AW us st (iZ fit lift Z' p rows)/\L3 lift (iZ fit lift Z' p rows)/\(iZ fit lift Z' p rows).length=rows.length:=by
 have ln:∀(p:Nat) (b:Bool) (a:!cy),(iZ fit lift b p a).length=a.length:=λp=>by
  induction p with
  |zero=>intro b a;cases b<;>solve_by_elim
  |succ p ih=>
   intro b a;cases b with
   |false=>rfl|true=>
    unfold iZ;split
    .rw[ih,uL]
    .rfl
 let(A,B):=OI (fit:=fit) H.mono (λj=>match rows[j]? with|some r=>bd AW r.number|none=>0) p Z' rows hp l (λi r e=>by simp only[e];exact h.up r<|bp e) (λi r e=>by
  have hi:i<rows.length:=by have:=se e;lia
  let e':=ai hi;generalize rows[i]=q at e';simp only[e,e'];let(j,n,ej,en,pn):=pw O i _ _ (cI h.num e')<|cI h.num e;rw[ej,RK,h.PY r (bp e) j n ej en];unfold bd;split
  .rename_i c;let(m,em,nm,pm,_):=S j n en;let ck:q.number=(q.number.toNat:Int):=by lia
   let(o,eo,ko):=H.tw.back j m em q.number.toNat Ž;rw[<- nm];exact H.a2 _ _ eo j m ko em
  .exact abw _)
 refine(h.Yl (ln _ _ _) λj m e =>?_,A,ln _ _ _);let(r,er,sa,a,b):=B j m e;simp only[er]at b;exact(r,er,by rw[sa],by rw[sa],a,b)
end
end K21
end
section
set_option maxHeartbeats 1000000
namespace K21
open PySem L2
theorem Fp(a:Int):∀(g:!cy) (t:cy) (j:Nat) (d:cy),(eZ a t g)[j]?=Y d->∃r,g[j]?=Y r/\d={ r with aJ:=d.aJ,ra:=d.ra }
 |[],t,j,d,e=>by trivial
 |r::g,t,0,d,e=>by cases e;exact Ÿ
 |r::g,t,j+1,d,e=>Fp a g _ j d e
def rJ(a:Int)(g:!cy)(t:cy)(j:Nat)(d:cy)(e:(t::eZ a t g)[j]?=Y d):∃r,(t::g)[j]?=Y r/\d={ r with aJ:=d.aJ,ra:=d.ra }:=by
 cases j with|zero=>solve_by_elim|succ j=>exact Fp a g t j d e
section
variable {f:vC}{fit lift:Int->Int->Int}{stp txt:aP->Int}{AW:Nat->Int}{ns us qm:!Nd}{st lx:!Nat}{rows:!cy}{s:me}{c c':jb}
def R0.set{t:cy}(a:Int)(h:R0 lift stp txt AW us st<|t::g)(l:L3 lift<|t::g):R0 lift stp txt AW us st (t::eZ a t g)/\L3 lift (t::eZ a t g):=by
 refine(h.Yl (by simp[y0]) λj m e =>?_,λi q r k f =>?_)
 .let(r,b,d):=rJ a g t j m e;have:=h.up r<|bp b;exact(r,b,by rw[d],by rw[d],Ž,by rw[d];exact this)
 .let(c,s,o):=rJ a g t i q k;let(r',p,n):=rJ a g t _ r f;rw[o,n];exact l i c r' s p
def Ts.back(h:Ts us st s qm lx)(d:s ≠ .cl){k:Nat}{b:Nd}(e:qm[k]?=Y b):(∃n,us[k]?=Y n/\b.nm=n.nm/\(∀t,D.str t∈b.tx->D.str t∈n.tx\/(s=.tx t/\Ck st=k))/\∀j∈b.kd,j∈n.kd\/(j=us.length/\us.length∈lx))\/(k=us.length/\s=.op b.nm/\b.tx=[]/\b.kd=[]):=by
 cases h with
 |Wq=>
  obtain e|⟨rfl,rfl⟩:=qD e
  .exact .inl (b,e,W,λt h =>.inl h,λj h =>.inl h)
  .exact .inr (W,W,W,W)
 |op c=>
  obtain e|⟨a,rfl⟩:=qD e
  .obtain⟨rfl,rfl⟩|⟨_,e⟩:=y6 c e
   .exact .inl (_,c,W,λt h =>.inl h,λj h=>by
     obtain h|h:=aD.mp h
     .exact .inl h
     .exact .inr (Ż,Ÿ))
   .exact .inl (b,e,W,λt h =>.inl h,λj h =>.inl h)
  .exact .inr (Ż,W,W,W)
 |tx c=>
  obtain⟨rfl,rfl⟩|⟨_,e⟩:=y6 c e
  .exact .inl (_,c,W,λt h=>by
    obtain h|h:=aD.mp h
    .exact .inl h
    .right;simp at h
     solve_by_elim,λj h =>.inl h)
  simp_all
 |cl=>trivial
theorem Dj(T:TW us):∀ {st:!Nat}{k:Nat},vA us (k::st)->∀j∈st,j<k
 |[],k,_,j,h=>by cases h
 | i::st,k,((n,e,p),O),j,h=>by
  let a:=(T.par k n e).2;rw[p]at a;let a:(i:Int)<k:=a;obtain rfl|h:=aG.mp h
  .simp_all
  .have:=Dj T O j h;lia
def F2{r:cy}{L:!cy}(e:(L++[r]).map (·.number)=jB (k::st)):r.number=k/\L.map (·.number)=jB st:=by
 have z:jB (k::st)=jB st++[(k:Int)]:=by simp[jB]
 simp_all
def R0.full(H:WH lift stp txt ns AW)(h:R0 lift stp txt AW us st rows)(T:TW us)(O:vA us st){c:!Nat}(u:st=k::c)(d:ns[k]?=us[k]?)(S:lV us ns){r:cy}(e:r∈rows)(f:r.number=k):Le (AW k) r.atoms:=by
 subst u;let q:=Dj T O;obtain⟨⟨n,b,_⟩,_⟩:=O;refine H.a3 k n _ (d.trans b) (λt s=>h.l1 r e k n f b t s) λj m g v =>?_
 let(i,o,y,x,l,_):=T.EK k n b j g;have:j=i:=by lia
 subst this;let(w,a,p,_):=S j o l;rw[v]at a;cases a;rw[p];refine h.l2 r e k n f b j o g (λz =>?_) l;obtain z|z:=aG.mp z
 .simp_all
 .have:=q j z;lia
set_option tactic.hygienic true
def O1(H : WH lift stp txt ns AW)(h : R0 lift stp txt AW us st c.rows)(l : L3 lift c.rows)(T : TW us)(O : vA us st)(t : Ts us st s qm lx)(S : lV qm ns)(op : c.opened = us.length)(nd : (c.rows.map (·.number)).Nodup)(P : Stp f fit lift stp txt c s q c')(dn : ∀k C4,s = .cl -> st = k :: C4 -> ns[k]? = us[k]?): R0 lift stp txt AW qm lx c'.rows /\ L3 lift c'.rows /\ c'.opened = qm.length := by
  let S0 : lV us ns := t.sub.trans S
  let O' := t.XU O
  cases P with
  |@cl L p r e =>
    cases t with
    |@cl k =>
      let er : (AA (dN c) r p).rows = L ++ [p] := by show c.rows.dropLast = _; rw [e,gK]
      rw [er]
      let hn := h.num
      rw [e]at hn
      let(rk,pn):=F2 hn
      have sub : ∀x ∈ L ++ [p],x ∈ c.rows := λx hx => by rw [e]; exact aS _ hx
      have rm : r ∈ c.rows := by rw [e]; simp
      let fu := h.full H T O W (dn _ _ W W) S0 rm rk
      refine((pn,λx hx => h.PY x<|sub x hx,λx hx => h.up x<|sub x hx,λx hx => h.l1 x<|sub x hx,λx hx i n ei en j m hj nj em => ?_),λi a b ea eb => l i a b (by rw [e]; exact oQ ea) (by rw [e]; exact oQ eb),op)
      by_cases z : j = k
      . subst z
        let(i',m',q1,q2,q3,q4):=T.EK i n en j hj
        have : j = i' := by lia
        subst this
        rw [em]at q3; cases q3
        obtain ⟨⟨m2,em2,pm⟩,_⟩ := O
        rw [em]at em2; cases em2
        let lp : Le (lift r.named r.atoms) p.atoms := l L.length p r (by rw [e]; simp) (by rw [e]; simp)
        let xp : x.number = p.number := by
          have w : (jB lx)[L.length]? = Y p.number := by rw [<- pn]; simp
          let w2 : (jB lx)[L.length]? = Y (Ck lx) := by
            have ll : L.length = lx.length := by have := congrArg nU pn; simp [jB]at this; exact this
            rw [ll]
            cases lx with|nil => solve_by_elim|cons a b => simp [jB,Ck]
          rw [w]at w2
          rw [ei,<- q4,pm,bE w2]
        let xe : x = p := by
          let(a,ha,e1):=cK.mp<|sub x hx
          let(b,hb,e2):=cK.mp<|sub p ż
          have : a = b := by
            refine (List.getElem_inj (h₀ := by simpa using ha) (h₁ := by simpa using hb) nd).mp ?_
            simp only [List.getElem_map]
            rw [e1,e2,xp]
          subst this
          rw [<- e1,e2]
        rw [xe]
        rw [h.PY r rm j m rk em]at lp
        exact sJ (H.mono _ _ _ fu) lp
      . exact h.l2 x (sub x hx) i n ei en j m hj (λy => (aG.mp y).elim z nj) em
  |@tx x r P R e0 e1 =>
    cases t with
    |@tx k n0 C4 _ en0 =>
      let t : Ts us (k :: C4) (.tx x) _ _ := .tx en0
      have ln : (c.rows.map (·.number)).length = (jB<|k :: C4).length := by rw [h.num]
      have hl : c.rows.length = C4.length + 2 := by simpa [jB] using ln
      have rn : r.number = k := by
        have := cI h.num e0
        rw [hl]at this
        simpa [jB] using this.symm
      have rm := bp e0
      let(m0,em0,nm0,_,tx0,_):=S k _<|Mj en0
      have tU : Le (txt x) (AW k) := H.a1 k m0 em0 x<|tx0 _ ż
      have Hu : ∀ {y : cy} {i : Nat} {n : Nd},y ∈ c.rows -> y.number = i -> (us.set k { n0 with tx := n0.tx ++ [.str x] })[i]? = Y n -> (y.named = stp n.nm) /\ (∀u,D.str u ∈ n.tx -> Le (txt u) y.atoms \/ (u = x /\ i = k)) /\ ∀(j : Nat) m,(j : Int) ∈ n.kd -> j ∉ k :: C4 -> (us.set k { n0 with tx := n0.tx ++ [.str x] })[j]? = Y m -> Le (lift (stp m.nm)<|AW j) y.atoms := fun {y i n} hy ei en => by
        obtain⟨n1,a,b,c1,d⟩ | ⟨_,z,_⟩:=t.back ż en
        . refine(by rw [b]; exact h.PY y hy i n1 ei a,λu hu => ?_,λj m hj nj em => ?_)
          . obtain g | ⟨g,g'⟩:=c1 u hu
            . exact .inl<|h.l1 y hy i n1 ei a u g
            . cases g
              have g' : (k : Int) = i := g'
              exact .inr (W,Ž)
          . obtain⟨m1,a',b',_⟩ | ⟨_,z,_⟩:=t.back ż em
            . rw [b']
              obtain g | ⟨g,g'⟩:=d j hj
              . exact h.l2 y hy i n1 ei a j m1 g nj a'
              . exact absurd (by have : j = us.length := by lia
                                 rw [this]; exact g') nj
            . cases z
        . cases z
      have mk : ∀Fv : !cy,Fv.length = c.rows.length -> (∀(j : Nat) (m : cy),Fv[j]? = Y m -> ∃y,c.rows[j]? = Y y /\ m.number = y.number /\ m.named = y.named /\ Le y.atoms m.atoms /\ Le m.atoms (bd AW y.number) /\ (y.number = k -> Le (txt x) m.atoms)) -> R0 lift stp txt AW (us.set k { n0 with tx := n0.tx ++ [.str x] }) (k :: C4) Fv := λFv l1 g => by
        have g' : ∀m ∈ Fv,∃y ∈ c.rows,m.number = y.number /\ m.named = y.named /\ Le y.atoms m.atoms /\ Le m.atoms (bd AW y.number) /\ (y.number = k -> Le (txt x) m.atoms) := λm hm => by
          let(j,hj,e):=cK.mp hm
          let(y,ey,z):=g j m (by rw [ai hj,e])
          exact(y,bp ey,z)
        refine((h.Yl l1 λj m e => (by let(y,a,b,c2,d,e2,_):=g j m e; exact(y,a,b,c2,d,e2))).num,λm hm i n ei en => ?_,λm hm => ?_,λm hm i n ei en u hu => ?_,λm hm i n ei en j o hj nj eo => ?_)
        . let(y,hy,a,b,_):=g' m hm
          rw [b]; exact (Hu hy (a ▸ ei) en).1
        . let(y,hy,a,b,c2,d,_):=g' m hm
          rw [a]; exact d
        . let(y,hy,a,b,c2,d,w):=g' m hm
          obtain z | ⟨rfl,rfl⟩:=(Hu hy (a ▸ ei) en).2.1 u hu
          . exact sJ z c2
          . exact w<|a ▸ ei
        . let(y,hy,a,b,c2,d,w):=g' m hm
          exact sJ ((Hu hy (a ▸ ei) en).2.2 j o hj nj eo) c2
      have Bc : R0 lift stp txt AW (us.set k { n0 with tx := n0.tx ++ [.str x] }) (k :: C4) (js fit lift (dN c) (txt x) r).rows /\ L3 lift (js fit lift (dN c) (txt x) r).rows := by
        unfold js
        split
        . let A := mk (c.rows.set (c.rows.length - 1) { r with atoms := bO r.atoms (txt x) }) ż λj m e => by
            obtain⟨rfl,rfl⟩ | ⟨nj,e⟩:=y6 e0 e
            . exact(r,e0,W,W,wz _ _,Wm (h.up r rm) (by rw [rn,RK]; exact tU),λ_ => IK _ _)
            . refine(m,e,W,W,λ_ h => h,h.up m<|bp e,λz => ?_)
              exfalso
              let a1 := cI W e
              let a2 := cI W e0
              rw [z]at a1; rw [rn]at a2
              exact nj<|(l4 (se a1) nd).mp<|a1.trans a2.symm
          have B := A.Z0 (fit := fit) H O' S (p := (c.rows.set (c.rows.length - 1) { r with atoms := bO r.atoms (txt x) }).length - 1) (by simp; grind) λi q w f1 f2 ni => by
            obtain⟨z,_⟩ | ⟨z,f2⟩:=y6 e0 f2
            . exfalso; have := ni (by simp; omega); cases this
            . obtain⟨z',rfl⟩ | ⟨z',f1⟩:=y6 e0 f1
              . have := se f2; lia
              . exact l i q w f1 f2
          let zz : (dN c).rows.length - 1 = (c.rows.set (c.rows.length - 1) { r with atoms := bO r.atoms (txt x) }).length - 1 := by simp [dN]
          show R0 _ _ _ _ _ _ (iZ fit lift Z' ((dN c).rows.length - 1)<|c.rows.set (c.rows.length - 1) _) /\ L3 _ (iZ fit lift Z' ((dN c).rows.length - 1)<|c.rows.set (c.rows.length - 1) _)
          rw [zz]
          exact(B.1,B.2.1)
        . rename_i z
          let z : (bA (txt x) (bN r.atoms) != 0) = Z_ := by simpa using z
          refine(mk _ W λj m e => (m,e,W,W,λ_ h => h,h.up m<|bp e,λw => ?_),l)
          let a1 := cI W e
          let a2 := cI W e0
          rw [w]at a1; rw [rn]at a2
          have := (l4 (se a1) nd).mp<|a1.trans a2.symm
          let e : c.rows[j]? = Y m := e
          rw [this,e0]at e; cases e
          exact sJ (IK _ _)<|Ks z
      rw [e1]at Bc
      let(A,B):=Bc.1.set f.inner Bc.2
      refine(A,B,?_)
      show (js fit lift (dN c) (txt x) r).opened = _
      rw [show (js fit lift (dN c) (txt x) r).opened = c.opened by unfold js; split <;> rfl,op,kL]
  |@op x r P R e0 e1 =>
    let t0 := t
    have ZZ : lx = us.length :: st := by cases t <;> rfl
    have ul : qm.length = us.length + 1 := by cases t <;> simp
    have olt : ∀j ∈ st,j < us.length := by
      have : ∀ {st : !Nat},vA us st -> ∀j ∈ st,j < us.length := fun {st} => by
        induction st with
        |nil => intro _ j h; cases h
        |cons a b ih =>
          rintro ⟨⟨n,e,_⟩,O⟩ j h
          obtain rfl |h:=aG.mp h
          . exact se e
          . exact ih O j h
      exact this O
    subst ZZ
    have nw : qm[us.length]? = Y (xk x<|Ck st) := by cases t <;> simp [Ck]
    have key : ∀ {y : cy},y ∈ c.rows -> ∀ {i : Nat} {n : Nd},y.number = i -> qm[i]? = Y n -> ∃n1,us[i]? = Y n1 /\ n.nm = n1.nm /\ (∀u,D.str u ∈ n.tx -> D.str u ∈ n1.tx) /\ ∀j ∈ n.kd,j ∈ n1.kd \/ (j = us.length /\ us.length ∈ us.length :: st) := fun {y} hy {i n} ei en => by
      obtain⟨n1,a,b,c1,d⟩ | ⟨z,_⟩:=t0.back ż en
      . exact(n1,a,b,λu hu => (c1 u hu).elim id λw => (by cases w.1),d)
      . exfalso
        let m : y.number ∈ jB st := by rw [<- h.num]; exact ig hy
        obtain m |m:=aG.mp m
        . simp_all
        . let(w,hw,ew):=bS.mp m
          have := olt w<|Ho.mp hw
          let ew : (w : Int) = y.number := ew
          lia
    let A : R0 lift stp txt AW qm (us.length :: st) (c.rows ++ [mQ fit (dN c) c.opened (stp x) 0 r]) := by
      let bn : (mQ fit (dN c) c.opened (stp x) 0 r).number = (us.length : Int) := op
      have two : ∀ {y : cy},y ∈ c.rows ++ [mQ fit (dN c) c.opened (stp x) 0 r] -> y ∈ c.rows \/ y = mQ fit (dN c) c.opened (stp x) 0 r := fun {y} hy => by simpa using hy
      refine(?_,λy hy i n ei en => ?_,λy hy => ?_,λy hy i n ei en u hu => ?_,λy hy i n ei en j o hj nj eo => ?_)
      . rw [aY,h.num,bg,List.map_nil,bn]; simp [jB]
      . obtain hy |rfl:=two hy
        . let(n1,a,b,_):=key hy ei en
          rw [b]; exact h.PY y hy i n1 ei a
        . rw [bn]at ei
          have : i = us.length := by lia
          subst this
          rw [nw]at en; cases en; rfl
      . obtain hy |rfl:=two hy
        . exact h.up y hy
        . exact yx _
      . obtain hy |rfl:=two hy
        . let(n1,a,b,c1,_):=key hy ei en
          exact h.l1 y hy i n1 ei a u<|c1 u hu
        . rw [bn]at ei
          have : i = us.length := by lia
          subst this
          rw [nw]at en; cases en; cases hu
      . obtain hy |rfl:=two hy
        . let(n1,a,b,c1,d):=key hy ei en
          obtain g | ⟨g,g'⟩:=d j hj
          . obtain⟨o1,a',b',_⟩ | ⟨z,_⟩:=t0.back ż eo
            . rw [b']
              exact h.l2 y hy i n1 ei a j o1 g (λz => nj<|ay _ z) a'
            . exact absurd (by rw [z]; exact Ÿ) nj
          . exact absurd (by have : j = us.length := by lia
                             rw [this]; trivial) nj
        . rw [bn]at ei
          have : i = us.length := by lia
          subst this
          rw [nw]at en; cases en; cases hj
    have ap : ∀ {i : Nat} {u : cy},(c.rows ++ [mQ fit (dN c) c.opened (stp x) 0 r])[i]? = Y u -> c.rows[i]? = Y u \/ i = c.rows.length := fun {i u} e => (qD e).imp id And.left
    have B := A.Z0 (fit := fit) H O' S (p := (c.rows ++ [mQ fit (dN c) c.opened (stp x) 0 r]).length - 1) ż λi q w f1 f2 ni => by
      obtain f2 |z:=ap f2
      . obtain f1 |z:=ap f1
        . exact l i q w f1 f2
        . have := se f2; lia
      simp_all
    let e1 : iZ fit lift Z' ((c.rows ++ [mQ fit (dN c) c.opened (stp x) 0 r]).length - 1) (c.rows ++ [mQ fit (dN c) c.opened (stp x) 0 r]) = P :: R := e1
    rw [e1]at B
    let(A,B):=B.1.set f.inner B.2.1
    refine(A,B,?_)
    show c.opened + 1 = _
    simp_all
end
end K21
end
section
set_option maxHeartbeats 1000000
namespace K21
open PySem L2
def Om(m i:Nat):tz (ZP m) i = (not<|m.testBit i):=by
 unfold tz;rw[if_neg nofun,show bN (ZP m)=m from BO (m:Int) 1];rfl
def C0(x:Int)(i:Nat):tz (x/2) i=tz x (i+1):=by
 match x with
 |Int.ofNat n=>exact(if_pos<|fZ<|n/2).trans ((Nat.testBit_add_one n i).symm.trans (if_pos<|fZ n).symm)|ZP n=>exact(Om (n/2) i).trans<|(congrArg not<|Nat.testBit_add_one n i).symm.trans (Om n<|i+1).symm
def EV:x≠0↔∃i,tz x i=true:=by
 constructor
 .intro h;by_cases p:0<=x
  .have:x.toNat≠0:=by lia
   simp_all [Nat.exists_testBit_of_ne_zero,tz,if_pos]
  .exact(_,by unfold tz;rw[if_neg p,Nat.testBit_lt_two_pow Nat.lt_two_pow_self];rfl)
 .rintro⟨i,h⟩ rfl
  simp_all [je]
inductive Hk (ns:!Nd):Int->Int->Prop
 |refl (a:Int):Hk ns a a
 |up {z:Int}{j:Nat}{n:Nd}{a:Int}:z=j->ns[j]?=some n->Hk ns n.par a->Hk ns z a
def Rc(ns:!Nd)(inner:Int)(F:Nat->Nat->Prop):Nat->Int->Prop
 |0,z=>z = -1|p+1,z=>∃(k:Nat) (n:Nd),z=k/\ns[k]?=Y n/\F k p/\(Rc ns inner F p n.par\/(tz inner p=Z'/\∃a,Hk ns n.par a/\Rc ns inner F p a))
section
variable {f:vC}{fit lift:Int->Int->Int}{stp txt:aP->Int}{AW:Nat->Int}{ns us qm:!Nd}{st lx:!Nat}{rows:!cy}{s:me}{c c':jb}{able inner:Int}{F:Nat->Nat->Prop}{sv:!Nat}
theorem Hc{L:!Int}(P:∀(i:Nat) (a b:Int),L[i]?=Y a->L[i+1]?=Y b->∃(j:Nat) (n:Nd),b=j/\ns[j]?=Y n/\n.par=a)(f:L[0]?=Y (-1)):∀(i:Nat) (z a:Int),L[i]?=Y z->(Hk ns z a↔∃j,j<=i/\L[j]?=Y a)
 | 0,z,a,e=>by
  rw[f]at e;cases e;constructor
  .intro h;cases h with
   |refl=>exact(0,aF _,f)|up q=>trivial
  .rintro⟨j,s,e⟩;have:j=0:=by simp_all
   subst this;rw[f]at e;cases e;exact .refl _
 | i+1,z,a,e=>by
  have o:i<L.length:=by have:=se e;lia
  let l:=ai o;let(j,n,p,k,g):=P i _ _ l e;let ih:=Hc P f i _ a l;constructor
  .intro h;cases h with
   |refl=>exact(i+1,aF _,e)|@up _ m r _ q d h=>
    have:m=j:=by lia
    subst this;rw[k]at d;cases d;rw[g]at h;let(w,hw,c):=ih.mp h;exact(w,ž,c)
  .rintro⟨w,hw,c⟩;by_cases q:w=i+1
   .subst q;rw[e]at c;cases c;exact .refl _
   .exact .up p k (by rw[g];exact ih.mpr (w,Ž,c))
def Kf(O:vA us st)(S:lV us ns)(i:Nat)(a b:Int)(h:(jB st)[i]?=Y a)(g:(jB st)[i+1]?=Y b):∃(j:Nat) (n:Nd),b=j/\ns[j]?=Y n/\n.par=a:=by
 let(j,n,e,c,p):=pw O i a b h g;let(m,d,_,q,_):=S j n c;exact(j,m,e,d,q.trans p)
def Dd(O:vA us st)(S:lV us ns){i:Nat}{a b:Int}{p:Nat}(h:(jB st)[i]?=Y a)(g:(jB st)[i+1]?=Y b):Rc ns inner F (p+1) b↔F b.toNat p/\(Rc ns inner F p a\/(tz inner p=Z'/\∃(j:Nat) (z:Int),j<=i/\(jB st)[j]?=Y z/\Rc ns inner F p z)):=by
 let(j,n,e,q,o):=Kf O S i a b h g;have A:=Hc (Kf O S) W i a;rw[Rc];constructor
 .rintro⟨k,m,u,r,c,d⟩;have:k=j:=by lia
  subst this;rw[q]at r;cases r;rw[o]at d;refine(Ż,d.imp id λ(t,z,s,f)=>(t,?_));let(w,hw,l):=(A z h).mp s;exact(w,z,hw,l,f)
 .rintro⟨c,d⟩;refine(j,n,e,q,Ż,?_);rw[o];exact d.imp id λ(t,w,z,hw,l,f)=>(t,z,(A z h).mpr (w,hw,l),f)
def HQ:tz 1 p=Z'↔p=0:=by
 have:=qr 0 p
 lia
def Oo{f:Int}:tz (xo b p a f) i=Z'↔∃j,i=j+1/\(tz p j=Z'\/(tz a j=Z'/\tz b j=Z'))/\tz f j=true:=by
 unfold xo;rw[Oq,c5,kb,c5];cases i with
 |zero=>simp|succ i=>simp
structure RV(fit:Int->Int->Int)(stp:aP->Int)(ns:!Nd)(AW:Nat->Int)(able:Int)(F:Nat->Nat->Prop)(sv:!Nat):Prop where
 up:∀(k:Nat) n p,ns[k]?=some n->tz (fit (stp n.nm)<|AW k) p=true->F k p
 dn:∀(k:Nat) n p,ns[k]?=some n->k∉sv->F k p->tz (fit (stp n.nm)<|AW k) p=true
 ab:∀(k:Nat) n p,ns[k]?=some n->F k p->tz (stp n.nm) p=true/\tz able p=true
 mono:∀n a b,Le a b->Le (fit n a) (fit n b)
def R0.fq(V:RV fit stp ns AW able F sv)(h:R0 lift stp txt AW us st rows)(X:EX fit inner able rows)(O:vA us st)(S:lV us ns){i:Nat}{r:cy}(e:rows[i+1]?=Y r):∃(k:Nat) (n:Nd),r.number=k/\ns[k]?=Y n/\r.named=stp n.nm/\(∀p,tz r.fits p=Z'->F k p)/\(k∉sv->Le (AW k) r.atoms->∀p,F k p->tz r.fits p=Z'):=by
 let l:i<rows.length:=by grind
 refine ae λkk =>?_
 let(j,n,c,f,_):=pw O i _ _ (cI h.num<|ai l)<|cI h.num e;let(m,b,d,_):=S j n f;have a:=h.PY r (bp e) j n c f;let u:=h.up r<|bp e;rw[c]at u;let x:=X.xf i r e;rw[a,<- d]at x;exact kk<|(j,m,c,b,by rw[a,d],λp t=>V.up j m p b<|V.mono _ _ _ u p<|x ▸ t,λy g p t=>x ▸ V.mono _ _ _ g p (V.dn j m p b y t))
structure GO(inner:Int)(re ra ft:cy->Int)(rows:!cy):Prop where
 top:∃r,rows[0]?=some r/\re r=1/\ra r=1
 go:∀(i:Nat) p r,rows[i]?=some p->rows[i+1]?=some r->re r=xo inner (re p) (ra p) (ft r)/\ra r=bO (ra p) (re r)
def O6{p:Nat}:Rc ns inner F p (-1)↔p=0:=by
 cases p with
 |zero=>simp[Rc]|succ p=>exact(λ(k,n,e,_)=>by trivial,λz=>by trivial)
theorem nL{re ra ft:cy->Int}(h:GO inner re ra ft rows)(num:rows.map (·.number)=jB st)(O:vA us st)(S:lV us ns):∀(i:Nat) (r:cy),rows[i]?=Y r->(∀p,tz (ra r) p=Z'↔∃(j:Nat) (o:cy),j<=i/\rows[j]?=Y o/\tz (re o) p=Z') /\
  ((∀(i:Nat) r (k p:Nat),rows[i+1]?=Y r->r.number=k->tz (ft r) p=Z'->F k p)->∀p,tz (re r) p=Z'->Rc ns inner F p r.number) /\
  ((∀(i:Nat) r (k p:Nat),rows[i+1]?=Y r->r.number=k->F k p->tz (ft r) p=Z')->∀p,Rc ns inner F p r.number->tz (re r) p=Z')
 | 0,r,e=>by
  let(r',g,x,y):=h.top;rw[e]at g;cases g;have z:r.number = -1:=by have:=cI num e;simpa [jB] using this.symm
  rw[x,y,z];refine(λp=>(λt=>(0,r,aF _,e,by rw[x];exact t),?_),λ_ p t=>O6.mpr<|HQ.mp t,λ_ p t=>HQ.mpr<|O6.mp t);rintro⟨j,o,b,a,t⟩;have:j=0:=by lia
  subst this;rw[e]at a;cases a;rwa [x]at t
 | i+1,r,e=>by
  have m:i<rows.length:=by have:=se e;lia
  let c:=ai m;let(A,B,C):=nL h num O S i _ c;let(d,f):=h.go i _ r c e;let(k,n,w,_):=pw O i _ _ (cI num c)<|cI num e;refine(λp =>?_,λH p t =>?_,λH p t =>?_)
  .rw[f,kb,bx,A];constructor
   .rintro(⟨j,o,b,z⟩|t)
    .exact(j,o,ž,z)
    .exact(i+1,r,aF _,e,t)
   .rintro⟨j,o,b,a,t⟩;by_cases q:j=i+1
    .subst q;rw[e]at a;cases a;exact .inr t
    .exact .inl (j,o,Ž,a,t)
  .rw[d,Oo]at t;let(q,y,t,u):=t;subst y;rw[Dd O S (cI num c)<|cI num e];refine(by rw[w];exact H i r k q e w u,t.imp (B H q) λ(t,v)=>(v,?_));let(j,o,b,a,l):=(A q).mp t;exact(j,o.number,b,cI num a,(nL h num O S j o a).2.1 H q l)
  .cases p with
   |zero=>rw[w]at t;exact absurd t (by show ¬(k:Int) = -1;trivial)
   |succ p=>
    let(l,d'):=(Dd O S (cI num c)<|cI num e).mp t;rw[w]at l;rw[d,Oo];refine(p,W,d'.imp (C H p) λ(v,j,z,b,a,t)=>((A p).mpr ?_,v),H i r k p e w l);have lj:j<rows.length:=by have:=se e;omega
    have ej:=ai lj;refine(j,_,b,ej,(nL h num O S j _ ej).2.2 H p ?_);rw[cI num ej]at a;cases a;exact t
termination_by i=>i
def EX.goR(X:EX fit inner able rows):GO inner (·.aJ) (·.ra) (·.fits) rows:=by
 let(x,g,q):=X.xt;exact((_,by rw[q];rfl,W,W),X.xr)
def EX.goH(X:EX fit inner able rows):GO inner (·.dy) (·.ha) (λr=>bA r.named able) rows:=by
 let(x,g,q):=X.xt;exact((_,by rw[q];rfl,W,W),X.xh)
def O3(V:RV fit stp ns AW able F sv)(h:R0 lift stp txt AW us st rows)(X:EX fit inner able rows)(O:vA us st)(S:lV us ns)(i:Nat)(r:cy)(e:rows[i]?=Y r):(∀p,tz r.aJ p=Z'->Rc ns inner F p r.number)/\(∀p,tz r.ra p=Z'↔∃(j:Nat) (o:cy),j<=i/\rows[j]?=Y o/\tz o.aJ p=Z'):=by
 let(A,B,_):=nL (F:=F) X.goR h.num O S i r e;refine(B λi r k p e w t =>?_,A);let(k',_,w',_,_,s,_):=h.fq V X O S e;have:k'=k:=by lia
 subst this;exact s p t
def KE(V:RV fit stp ns AW able F sv)(h:R0 lift stp txt AW us st rows)(X:EX fit inner able rows)(O:vA us st)(S:lV us ns)(i:Nat)(r:cy)(e:rows[i]?=Y r):(∀p,Rc ns inner F p r.number->tz r.dy p=Z')/\(∀p (j:Nat) (z:Int),j<=i->(jB st)[j]?=Y z->Rc ns inner F p z->tz r.ha p=Z'):=by
 have K:∀(i:Nat) r (k p:Nat),rows[i+1]?=Y r->r.number=k->F k p->tz (bA r.named able) p=true:=λi r k p e w t=>by
  let(k',n,w',en,y,_):=h.fq V X O S e;have:k'=k:=by lia
  subst this;let(a,b):=V.ab k' n p en t;rw[c5,y,a,b];rfl
 refine((nL X.goH h.num O S i r e).2.2 K,λp j z l a t=>((nL (F:=F) X.goH h.num O S i r e).1 p).mpr ?_);have lj:j<rows.length:=by have:=se e;omega
 have ej:=ai lj;refine(j,_,l,ej,(nL X.goH h.num O S j _ ej).2.2 K p ?_);rw[cI h.num ej]at a;cases a;exact t
end
end K21
end
section
set_option maxHeartbeats 1000000
namespace K21
open PySem L2
def RS(Q:Nat->Int->Prop)(m:Nat)(L:!Int)(y:nX):Prop:=
 Q m y.num↔(∃p z,tz y.Z p=Z'/\L[y.place.toNat]?=Y z/\Q p z)\/∃p j z,tz y.around p=Z'/\j<=y.place.toNat/\L[j]?=Y z/\Q p z
def NH(a:!cy)(y:nX):Prop:=∀o,a[y.place.toNat]?=Y o->(∀p,tz y.Z p=Z'->tz o.aJ p=Z_)/\∀p,tz y.around p=Z'->tz o.ra p=Z_
structure TJ(Q:Nat->Int->Prop)(m:Nat)(L:!Int)(rows:!cy)(rests:!nX)(T:!Int)(opened:Int):Prop where
 t1:∀x∈T,Q m x
 t2:∀r∈rows,tz r.aJ m=true->r.number∈T
 t3:∀k:Nat,(k:Int)<opened->Q m k->(k:Int)∈L\/(k:Int)∈T\/∃y∈rests,y.num=k
 rs:∀y∈rests,y.place.toNat<L.length/\RS Q m L y
 nh:∀y∈rests,NH rows y
 lv:∀y∈rests,ng y=true/\∀o,rows[y.place.toNat]?=some o->Le y.Z o.dy/\Le y.around o.ha
section
variable {Q:Nat->Int->Prop}{m:Nat}{L L1:!Int}{c:jb}{T:!Int}
set_option tactic.hygienic true in
def Uq{g:!cy}:∀ {t:cy},x∈nK a (2 ^ m) t g->∃d∈eZ a t g,d.number=x/\tz d.aJ m=true:=by
 induction g with
 |nil=>exact λh=>(iw h).elim
 |cons r g i=>
  intro t h;obtain h|h:=aD.mp h
  .split at h
   .rename_i z;simp at h;unfold DY at z;rw[mh,c5,ax]at z;exact(_,az,h.symm,z.1)
   .cases h
  .let(d,b,z):=i h;exact(d,ay _ b,z)
def Uo{d:cy}{g:!cy}:∀ {t:cy},d∈eZ a t g->tz d.aJ m=Z'->d.number∈nK a (2 ^ m) t g\/∃r∈g,r.number=d.number/\tz r.aJ m=true:=by
 induction g with
 |nil=>exact λh=>(iw h).elim
 |cons r g i=>
  intro t h e;rw[nK];obtain rfl|h:=aG.mp h
  .by_cases z:tz r.aJ m=Z'
   .exact .inr (r,Ÿ,W,z)
   .left;rw[if_pos]
    .exact Ÿ
    .unfold DY;rw[mh,c5,ax];exact(e,by simp_all [nH])
  .obtain h|⟨c,a,b⟩:=i h e
   .exact .inl<|aE _ h
   .exact .inr (c,ay _ a,b)
def KH{r:cy}{y:nX}:M5 r y=Z'↔(∃p,tz r.aJ p=Z'/\tz y.Z p=Z')\/∃p,tz r.ra p=Z'/\tz y.around p=true:=by
 have e:∀a b,(bA a b != 0)=Z'↔∃p,tz a p=Z'/\tz b p=true:=λa b=>by rw[bne_iff_ne,EV];simp only[c5,ax]
 rw[bx,e,e]
def RS.up(h:∀(j:Nat) z,L[j]?=Y z->L1[j]?=Y z){y:nX}(l:y.place.toNat<L.length)(r:RS Q m L y):RS Q m L1 y:=by
 have b:∀(j:Nat) z,j<=y.place.toNat->(L1[j]?=Y z↔L[j]?=Y z):=λj z a=>by let e:=ai<|Nat.lt_of_le_of_lt a l;rw[h j _ e,e]
 unfold RS at r ⊢;rw[r];refine or_congr ?_ ?_
 .refine exists_congr λp=>exists_congr λz =>?_
  rw[b _ _<|aF _]
 .refine exists_congr λp=>exists_congr λj=>exists_congr λz =>?_
  constructor
  .rintro⟨x,a,e,q⟩;exact(x,a,(b j z a).mpr e,q)
  .rintro⟨x,a,e,q⟩;exact(x,a,(b j z a).mp e,q)
set_option tactic.hygienic true in
def TJ.xF{f b:!cy}{s:!nX}{R A:Int}{T' q:!Int}{a:Int}{t:cy}{g:!cy}(J:TJ Q m L f s T R)(I:∀(j:Nat) z,L[j]?=Y z->L1[j]?=Y z)(U:b=t::eZ a t g)(num:b.map (·.number)=L1)
  (F:∀(i:Nat) (r:cy),b[i]?=Y r->(∀p,tz r.aJ p=Z'->Q p r.number)/\(∀p,tz r.ra p=Z'↔∃(j:Nat) (o:cy),j<=i/\b[j]?=Y o/\tz o.aJ p=Z'))
  (B:∀r∈t::g,tz r.aJ m=Z'->r.number∈T) (H:∀x,x∈T'↔x∈T\/x∈q) (O:∀x,x∈q↔x∈nK a (2 ^ m) t g\/∃y∈s,lB b y=Z'/\y.num=x) (ho:∀k:Nat,(k:Int)<A->(k:Int)<R\/(k:Int)∈L1) (hl:L.length=f.length) (hp:∀(j:Nat) Da o,f[j]?=Y Da->b[j]?=Y o->o.dy=Da.dy/\o.ha=Da.ha):TJ Q m L1 b (s.filter λy=> (not<|lB b y)) T' A:=by
 let K:∀r∈b,∀p,tz r.aJ p=Z'->Q p r.number:=λr w=>by let(i,P,e):=cK.mp w;exact(F i r<|by rw[ai P,e]).1
 refine(λx u =>?_,λr w e =>?_,λk C hQ =>?_,λy c =>?_,λy c o v =>?_,λy c =>?_)
 .rcases(H x).mp u with u|u
  .exact J.t1 x u
  .rcases(O x).mp u with u|⟨y,c,G,rfl⟩
   .let(d,hd,rfl,z):=Uq u;exact K d (by rw[U];exact ay _ hd) m z
   .let(l,r):=J.rs y c;unfold lB at G;split at G
    .rename_i o v;refine(r.up I l).mpr ?_;obtain⟨p,E,D⟩|⟨p,E,D⟩:=KH.mp G
     .exact .inl (p,o.number,D,cI num v,(F _ o v).1 p E)
     .let(j,S,hj,e',t'):=((F _ o v).2 p).mp E;exact .inr (p,j,S.number,D,hj,cI num e',(F _ S e').1 p t')
    .cases G
 .rw[U]at w;rw[H];obtain rfl|w:=aG.mp w
  .exact .inl<|B r Ÿ e
  .obtain h|⟨r',N,n,z⟩:=Uo w e
   .exact .inr<|(O _).mpr<|.inl h
   .rw[<- n];exact .inl<|B r' (ay _ N) z
 .obtain C|C:=ho k C
  .obtain h|h|⟨y,c,e⟩:=J.t3 k C hQ
   .left;let(i,P,e):=cK.mp h;exact bp<|I i _ (by rw[ai P,e])
   .exact .inr<|.inl<|(H _).mpr<|.inl h
   .by_cases z:lB b y=Z'
    .exact .inr<|.inl<|(H _).mpr<|.inr<|(O _).mpr<|.inr (y,c,z,e)
    .exact .inr<|.inr (y,bV.mpr (c,by simpa using z),e)
  .exact .inl C
 .have c:=(bV.mp c).1;let(l,r):=J.rs y c;exact(by have:=se<|I _ _<|ai l;exact this,r.up I l)
 .have z:=(bV.mp c).2;have z:¬M5 o y=true:=by unfold lB at z;rw[v]at z;simpa using z
  rw[KH]at z;refine(λp h =>?_,λp h =>?_)
  .cases e:tz o.aJ p with|false=>rfl|true=>exact absurd (.inl (p,e,h)) z
  .cases e:tz o.ra p with|false=>rfl|true=>exact absurd (.inr (p,e,h)) z
 .have c:=(bV.mp c).1;refine((J.lv y c).1,λo v =>?_);have l:=(J.rs y c).1;rw[hl]at l;let X:=ai l;let(E,D):=hp _ _ o X v;rw[E,D];exact(J.lv y c).2 _ X
def RS.mv{y:nX}{r k:cy}{F:Nat->Prop}{f a:Int}(h:RS Q m (L++[f]) y)(N:L.length=d+1)(I:y.place.toNat=L.length)(A:L[d]?=Y a)(q0:¬Q 0 f)(B:∀p,Q (p+1) f↔F p/\(Q p a\/(tz c.f.inner p=Z'/\∃(j:Nat) (z:Int),j<=d/\L[j]?=Y z/\Q p z)))(E:∀p,tz r.fits p=Z'↔F p)(J:∀p,Q p a->tz k.dy p=Z')(C:∀p (j:Nat) (z:Int),j<=d->L[j]?=Y z->Q p z->tz k.ha p=Z'):RS Q m L<|zH c y r k:=by
 have G:(zH c y r k).place.toNat=d:=by show (y.place-1).toNat=d;simp_all
 have u:∀q,tz (zH c y r k).Z q=Z'↔((tz y.Z (q+1)=Z'\/tz y.around (q+1)=Z')/\F q)/\¬tz c.f.inner q=Z'/\tz k.dy q=true:=λq=>by rw[<- E];show tz (bA (bA (bA (bO y.Z y.around/2) r.fits)<|bN c.f.inner) k.dy) q=Z'↔_;rw[c5,c5,c5,C0,kb,nH];simp[and_assoc]
 have l:∀q,tz (zH c y r k).around q=Z'↔((((tz y.Z (q+1)=Z'\/tz y.around (q+1)=Z')/\F q)/\tz c.f.inner q=Z')\/tz y.around q=Z')/\tz k.ha q=true:=λq=>by rw[<- E];show tz (bA (bO (bA (bA (bO y.Z y.around/2) r.fits) c.f.inner) y.around) k.ha) q=Z'↔_;rw[c5,kb,c5,c5,C0,kb];simp
 have D:∀(j:Nat) z,j<=d->((L++[f])[j]?=Y z↔L[j]?=Y z):=λj z n=>by rw[aI<|by lia]
 have x:(L++[f])[L.length]?=Y f:=ŷ
 unfold RS at h ⊢;rw[G];show Q m y.num↔_;rw[h,I];have v:∀p,(tz y.Z p=Z'\/tz y.around p=Z')->Q p f->(∃p z,tz (zH c y r k).Z p=Z'/\L[d]?=Y z/\Q p z)\/∃p j z,tz (zH c y r k).around p=Z'/\j<=d/\L[j]?=Y z/\Q p z:=λp o b=>by
  cases p with
  |zero=>exact absurd b q0|succ q=>
   let(s,w):=(B q).mp b;by_cases i:tz c.f.inner q=Z'
   .right;obtain g|⟨_,j,z,n,e,g⟩:=w
    .exact(q,d,a,(l q).mpr (.inl ((o,s),i),C q d a (aF _) A g),aF _,A,g)
    .exact(q,j,z,(l q).mpr (.inl ((o,s),i),C q j z n e g),n,e,g)
   .obtain g|⟨H,_⟩:=w
    .exact .inl (q,a,(u q).mpr ((o,s),i,J q g),A,g)
    .exact absurd H i
 let t:∀q,(tz y.Z (q+1)=Z'\/tz y.around (q+1)=Z')->Q (q+1) f->(∃p z,tz y.Z p=Z'/\(L++[f])[L.length]?=Y z/\Q p z)\/∃p j z,tz y.around p=Z'/\j<=L.length/\(L++[f])[j]?=Y z/\Q p z:=λq o b=>by
  obtain o|o:=o
  .exact .inl (_,f,o,x,b)
  .exact .inr (_,_,f,o,aF _,x,b)
 constructor
 .rintro(⟨p,z,o,e,b⟩|⟨p,j,z,o,n,e,b⟩)
  .rw[x]at e;cases e;exact v p (.inl o) b
  .by_cases K:j=L.length
   .subst K;rw[x]at e;cases e;exact v p (.inr o) b
   .have e:=(D j z Ž).mp e;exact .inr (p,j,z,(l p).mpr (.inr o,C p j z Ž e b),Ž,e,b)
 .rintro(⟨p,z,o,e,b⟩|⟨p,j,z,o,n,e,b⟩)
  .rw[A]at e;cases e;obtain⟨⟨o,s⟩,_⟩:=(u p).mp o;exact t p o<|(B p).mpr (s,.inl b)
  .let(o,_):=(l p).mp o;obtain⟨⟨o,s⟩,i⟩|o:=o
   .exact t p o<|(B p).mpr (s,.inr (i,j,z,n,e,b))
   .exact .inr (p,j,z,o,Ž,(D j z n).mpr e,b)
def NH.mv{y:nX}{r b:cy}{a:Int}(l:c.f.inner=a)(h:∀p,(tz y.Z p=Z'->tz r.aJ p=Z_)/\(tz y.around p=Z'->tz r.ra p=Z_))(j:r.aJ=xo a b.aJ b.ra r.fits)(f:r.ra=bO b.ra r.aJ)(e:∀o,d[(zH c y r b).place.toNat]?=Y o->o=b):NH d<|zH c y r b:=by
 intro o k;rw[e o k];have g:∀q,tz (bA _ r.fits) q=Z'->(tz b.aJ q=Z'\/(tz b.ra q=Z'/\tz a q=Z'))->False:=λq s t=>by
  rw[c5,C0,kb,ax,bx]at s;have i:tz r.aJ (q+1)=true:=by rw[j,Oo];exact(q,W,t,s.2)
  obtain o|o:=s.1
  .have:=(h<|q+1).1 o;rw[i]at this;cases this
  .have:=(h<|q+1).2 o;rw[f,kb,i,V2]at this;cases this
 refine(λp t =>?_,λp t =>?_)
 .cases q:tz b.aJ p with
  |false=>rfl|true=>exfalso;let t:tz (bA _ b.dy) p=true:=t;rw[c5,c5,ax,ax]at t;exact g p t.1.1<|.inl q
 .cases q:tz b.ra p with
  |false=>rfl|true=>
   exfalso;let t:tz (bA _ b.ha) p=true:=t;rw[c5,kb,c5,ax,bx,ax]at t;obtain t|t:=t.1
   .exact g p t.1<|.inr (q,by rw[<- l];exact t.2)
   .have:=(h p).2 t;rw[f,kb,q]at this;cases this
end
end K21
end
section
set_option maxHeartbeats 1000000
namespace K21
open PySem L2
def Fut(us:!Nd)(st:!Nat)(ns:!Nd)(sv:!Nat):Prop:=lV us ns/\∀k<us.length,k∉st->ns[k]?=us[k]? /\k∉sv
def Fut.step{us qm ns:!Nd}{st lx sv:!Nat}{s:me}(t:Ts us st s qm lx)(h:Fut qm lx ns sv):Fut us st ns sv:=by
 refine(t.sub.trans h.1,λk c n =>?_);let(a,b):=t.keep c n;rw[<- a];refine h.2 k ?_ b;rw[ai c]at a;exact se a
section
variable {f:vC}{fit lift:Int->Int->Int}{stp txt:aP->Int}{AW:Nat->Int}{ns us qm:!Nd}{st lx:!Nat}{s:me}{c c':jb}{able:Int}{F:Nat->Nat->Prop}{T T' q:!Int}{sv:!Nat}
structure ST(f:vC)(able:Int)(fit lift:Int->Int->Int)(stp txt:aP->Int)(ns:!Nd)(AW:Nat->Int)(F:Nat->Nat->Prop)(us:!Nd)(st:!Nat)(c:jb)(T:!Int):Prop where
 r0:R0 lift stp txt AW us st c.rows
 l3:L3 lift c.rows
 tj:TJ (Rc ns f.inner F) f.q.length (jB st) c.rows c.rests T c.opened
set_option tactic.hygienic true
def ST.step(Da:FW f able fit lift stp txt)(H:WH lift stp txt ns AW)(V:RV fit stp ns AW able F sv)(I:SI f able fit c nl d b)(Z:ST f able fit lift stp txt ns AW F us st c T)(X:EX fit f.inner able c.rows)(tw:TW us)(O:vA us st)(on:c.opened=us.length)(t:Ts us st s qm lx)(u:Fut qm lx ns sv)(P:Stp f fit lift stp txt c s q c')(X':EX fit f.inner able c'.rows)(hT:∀x,x∈T'↔x∈T\/x∈q):ST f able fit lift stp txt ns AW F qm lx c' T':=by
 have S0:lV us ns:=t.sub.trans u.1;let O':=t.XU O;let nd:(c.rows.map (·.number)).Nodup:=(bM.mp I.nd).2.1;have dn:∀k C4,s=.cl->st=k::C4->ns[k]?=us[k]? /\k∉sv:=λk C4 e1 e2=>by
  subst e1 e2;cases t with
  |cl=>obtain⟨⟨n,en,_⟩,_⟩:=id O;exact u.2 k (se en) λz=>by have:=Dj tw O k z;simp_all
 let(R,L,on'):=O1 H Z.r0 Z.l3 tw O t u.1 on nd P λk C4 a b=>(dn k C4 a b).1
 refine(R,L,?_);have rk:=O3 V R X' O' u.1;let J:=Z.tj;have xF:∀ {rest:!nX}{P0:cy}{G:!cy},c'.rows=P0::eZ f.inner P0 G->c'.rests=c.rests.filter (λy=> (not<|lB c'.rows y))->q=qT f c P0 G->(∀r∈P0::G,tz r.aJ f.q.length=Z'->r.number∈T)->(∀(j:Nat) z,(jB st)[j]?=Y z->(jB lx)[j]?=Y z)->(∀k:Nat,(k:Int)<c'.opened->(k:Int)<c.opened\/(k:Int)∈jB lx)->(∀(j:Nat) o0 o,c.rows[j]?=Y o0->(P0::G)[j]?=Y o->o.dy=o0.dy/\o.ha=o0.ha)->TJ (Rc ns f.inner F) f.q.length (jB lx) c'.rows c'.rests T' c'.opened:=fun {rest P0 G} U e2 eq Hu hL ho hp=>by
  rw[e2];refine J.xF hL U R.num rk Hu hT (λx =>?_) ho (by rw[<- Z.r0.num,ar]) λj o0 o a b =>?_
  .rw[eq];unfold qT;rw[(jK _).mem_iff,aD];refine or_congr e_ ?_;rw[U];simp only[bS,bV,and_assoc]
  .rw[U]at b;let(r,e,d):=rJ _ _ _ _ _ b;rw[d];exact hp j o0 r a e
 have kpo:∀ {a g:!cy},Kp fit 0 a g->(∀r∈a,tz r.aJ f.q.length=Z'->r.number∈T)->∀r∈g,tz r.aJ f.q.length=Z'->r.number∈T:=fun {a g} K h r hr e=>by
  let(j,C,ej):=cK.mp hr;have hl:g.length=a.length:=by have:=congrArg nU K.nu;simpa using this
  let a1:=congrArg (·[j]?) K.nu;let a2:=congrArg (·[j]?) K.re;simp only[aK,ai C,ai<|hl ▸ C,cE,jk]at a1 a2;rw[ej]at a1 a2;rw[a1];exact h _ (mZ _)<|a2 ▸ e
 have sah:∀ {p:Nat}{b:Bool}{a:!cy},p<a.length->(∀(i:Nat) (r:cy),a[i+1]?=Y r->(i+1=p->b=Z_)->r.fits=fit r.named r.atoms)->∀(j:Nat) (m:cy),(iZ fit lift b p a)[j]?=Y m->∃r,a[j]?=Y r/\m.dy=r.dy/\m.ha=r.ha:=fun {p b a} hp h j m e=>by let(_,r,U,sa,_):=OH Da p b a hp h j m e;unfold Sa at sa;exact(r,U,by rw[sa],by rw[sa])
 cases P with
 |@tx x r P0 G e0 e1=>
  let ZZ:lx=st:=by cases t;rfl
  subst ZZ;let rr:(js fit lift (dN c) (txt x) r).rests=c.rests:=by unfold js;split<;>rfl
  let oo:(js fit lift (dN c) (txt x) r).opened=c.opened:=by unfold js;split<;>rfl
  refine xF (rest:=[]) W (by show (js fit lift (dN c) (txt x) r).rests.filter _=_;rw[rr];rfl) W ?_ (λj z h=>h) (λk h =>.inl<|by rw[<- oo];exact h) ?_
  .rw[<- e1];refine kpo (a:=c.rows) ?_ J.t2;unfold js;split
   .exact .trans (.atoms Da (i:=c.rows.length-1) e0 _) (qC Da _ _ _)
   .exact(W,W,id)
  .rw[<- e1];intro j o0 o a b;unfold js at b;split at b
   .let(w,ew,h1,h2):=sah (by simp[dN];have:=se e0;omega) (λi v ev ni=>by
     obtain⟨z,rfl⟩|⟨_,ev⟩:=y6 e0 ev
     .have:=ni z;cases this
     .exact X.xf i v ev) j o b
    rw[h1,h2];obtain⟨rfl,rfl⟩|⟨_,ew⟩:=y6 e0 ew
    .rw[e0]at a;cases a;exact(W,W)
    .rw[a]at ew;cases ew;exact(W,W)
   .have b:c.rows[j]?=Y o:=b;rw[a]at b;cases b;exact(W,W)
 |@op x r P0 G e0 e1=>
  let ZZ:lx=us.length::st:=by cases t<;>rfl
  subst ZZ;let e1:iZ fit lift Z' ((c.rows++[mQ fit (dN c) c.opened (stp x) 0 r]).length-1) (c.rows++[mQ fit (dN c) c.opened (stp x) 0 r])=P0::G:=e1;have E:jB (us.length::st)=jB st++[(us.length:Int)]:=by simp[jB]
  refine xF (rest:=[]) W W W ?_ (λj z h=>by rw[E];exact oQ h) (λk h =>?_) ?_
  .rw[<- e1];refine kpo (a:=c.rows++[mQ fit (dN c) c.opened (stp x) 0 r]) (qC Da _ _ _) λy A e =>?_
   obtain A|A:=aD.mp A
   .exact J.t2 y A e
   .simp at A;subst A;exact absurd e (by show ¬tz 0 _=Z';rw[je];simp)
  .let h:(k:Int)<c.opened+1:=h;by_cases z:(k:Int)<c.opened
   .exact .inl z
   .right;rw[E];exact aE _ (by simp;lia)
  .rw[<- e1];intro j o0 o a b;let(w,ew,h1,h2):=sah ż (λi v ev ni=>by
    obtain ev|⟨z,rfl⟩:=qD ev
    .exact X.xf i v ev
    .rfl) j o b
   rw[h1,h2];rw[oQ a]at ew;cases ew;exact(W,W)
 |@cl D p r e=>
  cases t with
  |@cl k=>
   have U:(AA (dN c) r p).rows=D++[p]:=by show c.rows.dropLast=_;rw[e,gK]
   have ep:(cz<|dN c).rows=D++[p]:=by show c.rows.dropLast=_;rw[e,gK]
   let hn:=Z.r0.num;rw[e]at hn;let(rn,pn):=F2 hn;have E:jB (k::lx)=jB lx++[(k:Int)]:=by simp[jB]
   have ll:(jB lx).length=D.length+1:=by rw[<- pn];simp
   have rm:r∈c.rows:=by rw[e];simp
   have e_r:c.rows[D.length+1]?=Y r:=by rw[e];simp
   have e_p:c.rows[D.length]?=Y p:=by rw[e];simp
   let fu:=Z.r0.full H tw O W (dn _ _ W W).1 S0 rm rn;let(k',n',ek,en',_,f1,f2):=Z.r0.fq V X O S0 e_r;let kk:k'=k:=by lia
   subst kk;let(x1,x2):=X.xr _ _ _ e_p e_r;let(h1,h2):=KE V Z.r0 X O S0 _ _ e_p;have la:(jB lx)[D.length]?=Y p.number:=by rw[<- pn];simp
   have ei:(cz<|dN c).f.inner=f.inner:=by show c.f.inner=_;rw[I.ff]
   let fl:(cz<|dN c).full=2 ^ f.q.length:=I.fu;let add:∀y∈kZ (cz<|dN c) r,(y.place.toNat<(jB<|k'::lx).length/\RS (Rc ns f.inner F) f.q.length (jB<|k'::lx) y)/\NH c.rows y/\(y∈c.rests\/y.place.toNat=(jB lx).length):=λy A=>by
    unfold kZ at A;obtain A|A:=aD.mp A
    .exact(J.rs y A,J.nh y A,.inl A)
    .split at A
     .cases A
     .rename_i g;rw[fl,mh]at g;simp only[bP]at A;subst A;have pl:(nX.mk r.number ((cz<|dN c).rows.length:Int) (cz<|dN c).full 0).place.toNat=(jB lx).length:=by show ((cz<|dN c).rows.length:Int).toNat=_;rw[ep,ll];simp
      refine((by rw[pl,E];simp,?_),λo B =>?_,.inr pl)
      .unfold RS;rw[pl,E];show Rc ns f.inner F _ r.number↔_;rw[rn];constructor
       .exact λh =>.inl (f.q.length,_,by show tz (cz<|dN c).full _=Z';rw[fl,qr];simp,ż,h)
       .rintro(⟨p,z,a,b,d⟩|⟨p,j,z,a,b⟩)
        .let a:tz (cz<|dN c).full p=true:=a;rw[fl,qr]at a;simp at a b;subst a b;exact d
        .exact absurd a (by show ¬tz 0 _=Z';rw[je];simp)
      .rw[pl,ll,e_r]at B;cases B;refine(λq a =>?_,λq a=>absurd a<|by show ¬tz 0 _=Z';rw[je];simp);let a:tz (cz<|dN c).full q=true:=a;rw[fl,qr]at a;simp at a;subst a;simpa using g
   have N:∀y∈kZ (cz<|dN c) r,((zF (cz<|dN c) (cz<|dN c).rows.length r p y).place.toNat<(jB lx).length/\RS (Rc ns f.inner F) f.q.length (jB lx) (zF (cz<|dN c) (cz<|dN c).rows.length r p y))/\NH (D++[p]) (zF (cz<|dN c) (cz<|dN c).rows.length r p y)/\(ng (zF (cz<|dN c) (cz<|dN c).rows.length r p y)=Z'->∀o,(D++[p])[(zF (cz<|dN c) (cz<|dN c).rows.length r p y).place.toNat]?=Y o->Le (zF (cz<|dN c) (cz<|dN c).rows.length r p y).Z o.dy/\Le (zF (cz<|dN c) (cz<|dN c).rows.length r p y).around o.ha):=λy A=>by
    obtain⟨⟨l,rs⟩,nh,w⟩:=add y A;unfold zF;by_cases z:y.place=((cz<|dN c).rows.length:Nat)
    .rw[if_pos z];have z:y.place.toNat=D.length+1:=by rw[z,ep];simp
     have mp:(zH (cz<|dN c) y r p).place.toNat=D.length:=by show (y.place-1).toNat=_;simp_all
     rw[E]at rs;refine((by rw[mp,ll];omega,rs.mv (F:=F k') ll (by rw[z,ll]) la (by show ¬((k':Int) = -1);simp) (λq =>?_) (λq=>(f1 q,f2 (dn _ _ W W).2 fu q)) h1 (λq j z C ez=>h2 q j z C<|by rw[E];exact oQ ez)),NH.mv ei (λq =>?_) x1 x2<|λo B =>?_,λ_ o B =>?_)
     .rw[ei,Dd O S0 (i:=D.length) (a:=p.number) (b:=(k':Int)) (by rw[E];exact oQ la) (by rw[E,<- ll];simp)];refine and_congr e_<|or_congr e_<|and_congr e_ ?_;refine exists_congr λj=>exists_congr λw =>?_
      constructor
      .rintro⟨C,e,a⟩;rw[E,aI<|by lia]at e;exact(C,e,a)
      .rintro⟨C,e,a⟩;exact(C,by rw[E];exact oQ e,a)
     .have:=nh r (by rw[z];exact e_r);exact(this.1 q,this.2 q)
     .rw[mp]at B;simp at B;exact B.symm
     .rw[mp]at B;simp at B;subst B;exact(λq t=>by
       let t:tz (bA (bA _ _) p.dy) q=true:=t;rw[c5,ax]at t;exact t.2,λq t=>by
       let t:tz (bA _ p.ha) q=true:=t;rw[c5,ax]at t;exact t.2)
    .rw[if_neg z];have hy':y∈c.rests:=by
      unfold kZ at A;obtain A|A:=aD.mp A
      .exact A
      .split at A
       .cases A
       .simp only[bP]at A;subst A;exact absurd W z
     have pl:=I.pl y hy';have pl1:y.place.toNat<D.length+1:=by
      let a1:=pl.1;let a2:=pl.2;have:c.rows.length=D.length+2:=by rw[e];simp
      rw[ep]at z;simp at z
      lia
     have get:∀o,(D++[p])[y.place.toNat]?=Y o->c.rows[y.place.toNat]?=Y o:=λo B=>by rw[e];exact oQ B
     refine((by rw[ll];exact pl1,?_),λo B=>nh o<|get o B,λ_ o B=>(J.lv y hy').2 o<|get o B);unfold RS at rs ⊢;rw[rs];have b:∀(j:Nat) z,j<=y.place.toNat->((jB<|k'::lx)[j]?=Y z↔(jB lx)[j]?=Y z):=λj z C=>by rw[E,aI<|by lia]
     refine or_congr ?_ ?_
     .refine exists_congr λp=>exists_congr λz =>?_
      rw[b _ _<|aF _]
     .refine exists_congr λp=>exists_congr λj=>exists_congr λz =>?_
      constructor
      .rintro⟨x,C,e,q⟩;exact(x,C,(b j z C).mp e,q)
      .rintro⟨x,C,e,q⟩;exact(x,C,(b j z C).mpr e,q)
   have Q:∀y,y∈(AA (dN c) r p).rests↔∃M∈kZ (cz<|dN c) r,zF (cz<|dN c) (cz<|dN c).rows.length r p M=y/\ng y=true:=λy=>by
    show y∈HB ng (EF _<|xG _)↔_;rw[bV,bS];simp only[(ma _).mem_iff];constructor
    .rintro⟨⟨M,a,b⟩,d⟩;exact(M,a,b,d)
    .rintro⟨M,a,b,d⟩;exact((M,a,b),d)
   have S:∀x,x∈T'↔x∈T:=λx=>by rw[hT];simp
   refine(λx hx=>J.t1 x<|(S x).mp hx,λy A te =>?_,λi hi hq =>?_,λy A =>?_,λy A =>?_,λy A =>?_)
   .rw[U]at A;exact(S _).mpr<|J.t2 y (by rw[e];exact aS _ A) te
   .have via:∀y∈kZ (cz<|dN c) r,y.num=i->∃y∈(AA (dN c) r p).rests,y.num=i:=λy A ey=>by obtain⟨⟨_,rs⟩,_⟩:=N y A;let nm:=P1 (cz<|dN c) (cz<|dN c).rows.length r p y;refine(_,(Q _).mpr (y,A,W,?_),nm.trans ey);unfold RS at rs;rw[nm,ey]at rs;unfold ng;rw[bx,bne_iff_ne,bne_iff_ne,EV,EV];exact(rs.mp hq).imp (λ(p,_,a,_)=>(p,a)) λ(p,_,_,a,_)=>(p,a)
    obtain h|h|⟨y,A,ey⟩:=J.t3 i hi hq
    .rw[E]at h;obtain h|h:=aD.mp h
     .exact .inl h
     .simp only[bP]at h;by_cases z:tz r.aJ f.q.length=Z'
      .exact .inr<|.inl<|(S _).mpr (by rw[h,<- rn];exact J.t2 r rm z)
      .refine .inr<|.inr<|via (r.number,((cz<|dN c).rows.length:Nat),(cz<|dN c).full,0) ?_ (by show r.number=_;rw[rn,h]);unfold kZ;rw[if_neg<|by rw[fl,mh];exact z];simp
    .exact .inr<|.inl<|(S _).mpr h
    .exact .inr<|.inr<|via y (aS _ A) ey
   .let(M,h0,rfl,_):=(Q y).mp A;exact(N M h0).1
   .let(M,h0,rfl,_):=(Q y).mp A;rw[U];exact(N M h0).2.1
   .let(M,h0,rfl,l):=(Q y).mp A;rw[U];exact(l,(N M h0).2.2 l)
end
end K21
end
namespace K21
open PySem L2 K30
def x9:Ss->Nat->Int->Int
 |.nil,_,a=>a|.cons _ _ w r,k,a=>x9 r (k+1)<|if AL w then bO a (2 ^ k) else a
def Zs{f:Int->Int->Int}{j:DF}{m n:Int}(a:eV i ρ=Y (.int m))(b:j ρ=Y (.int n)):xi i f j ρ=Y (.nx<|ρ.set i<|Y<|.int<|f m n):=by simp[xi,a,b]
theorem LF(q:D):∀(s:Ss) (k:Nat) (a:Int) (a2 a3:↑D),oO s<=13->pT s<=900->k+cj s<=1000->∃b2 b3,
  gB (Jc 2 3) mR (((gS s).zipIdx k).map λp =>.tup [.int (p.2:Nat),p.1]) [Y q,Y<|.int a,a2,a3]=Y (.nx [Y q,Y<|.int<|x9 s k a,b2,b3])
 |.nil,k,a,a2,a3,_,_,_=>(a2,a3,W)| .cons b nm w r,k,a,a2,a3,h,z,l=>by
  rw[oO]at h;rw[pT]at z;rw[cj]at l;have t:=C1<|(rg (f:=e2 cw (eV 3) ca) (a:=[Y q,Y<|.int a,Y<|.int k,Y<|.tup [.str<|jl b,.str<|jC nm,rH w]]) W).trans (Ef w 12 ŷ Ž);have hb:mR [Y q,Y<|.int a,Y<|.int k,Y<|.tup [.str<|jl b,.str<|jC nm,rH w]]=Y (.nx [Y q,Y<|.int<|if AL w then bO a (2 ^ k) else a,Y<|.int k,Y<|.tup [.str<|jl b,.str<|jC nm,rH w]]):=by
   cases e:AL w with
   |false=>exact sL<|t.trans (by rw[e])
   |true=>exact(iF<|t.trans<|by rw[e]).trans<|Zs W<|(cp W W).trans<|Xp Ž
  rw[gS,uA,bg,K21.hI W hb];exact LF q r _ _ _ _ Ž Ž Ž
def Zt{s:Ss}(h:oO s<=13)(z:pT s<=900):iU [.lst<|gS s]=Y (.int<|x9 s 0 0):=by
 let(g,f,e):=LF _ s 0 0 _ _ h z (by have:=Fi s;grind [o8]);exact bq (mr W<|sq ((hJ W).trans e) W) W
theorem LG:∀(s:Ss) (k:Nat) (a:Int),tz (x9 s k a) i=Z'↔tz a i=Z'\/∃j t,i=k+j/\jq s j=Y t/\AL t.2.2=Z'
 |.nil,k,a=>by simp[x9,jq]
 | .cons b h w r,k,a=>by
  rw[x9,LG r];let d:(∃j t,i=k+j/\jq (.cons b h w r) j=Y t/\AL t.2.2=Z')↔i=k/\AL w=Z'\/∃j t,i=k+1+j/\jq r j=Y t/\AL _=true:=by
   constructor
   .rintro⟨j,x,e,f,g⟩;cases j with
    |zero=>cases f;exact .inl (e,g)|succ j=>exact .inr (j,x,ŷ,f,g)
   .rintro(⟨e,g⟩|⟨j,x,e,f,g⟩)
    .exact(0,_,Ÿ,W,g)
    .exact(j+1,x,ŷ,f,g)
  rw[d,<- or_assoc];refine or_congr ?_ e_;cases c:AL w with
  |true=>
   simp;rw[kb,qr]
   lia
  |false=>simp
theorem R3:∀(s:Ss) (k:Nat) (a:Int),Sm k a->Sm (k+cj s) (x9 s k a)
 |.nil,k,a,h=>h|.cons b c w r,k,a,h=>by rw[cj,show k+(cj r+1)=k+1+cj r by lia];exact R3 r _ _ (by split;exact Wb h;exact OM h)
theorem JC:∀(a:Ss) (c:As),CP d L a c->∀p,(∀x,IA c p=Y x->∃t,jq a p=Y t/\nQ d L t.2.2 x)/\∀t,jq a p=Y t->∃x,IA c p=Y x/\nQ d L t.2.2 x
 |.nil,c,h,p=>by subst h;exact(λx e=>(by cases e),λt e=>by cases e)
 | .cons b i w r,c,(x,y,a,g,e),p=>by
  subst e;cases p with
  |zero=>exact(λf e=>by cases e;exact(_,W,a),λt e=>by cases e;solve_by_elim)
  |succ p=>exact JC r y g p
theorem C2:∀(a:Ss) (p:Nat) (t:Tp),jq a p=Y t->(qw a)[p]?=Y (.st t.1 t.2.1)
 |.cons b c w r,0,t,e=>by cases e;exact Ÿ
 |.cons b c w r,p+1,t,e=>by rw[qw];simpa using C2 r p t e
structure FX(a:Ss)(inner able:Int)(fit lift:Int->Int->Int)(stp txt:aP->Int)(F:Fa):Prop where
 stp:∀n,stp n=(F.named n:Nat)
 txt:∀t,txt t=(F.text t:Nat)
 abu:∀n x y,Le x y->Le (lift n x) (lift n y)
 lft:∀n (x:Nat) i,tz (lift (F.named n:Nat) (x:Nat)) i=true↔(K30.lift F (F.named n) x).testBit i=true
 fit:∀n f p,tz (fit (F.named n:Nat) (fA F f:Nat)) p=true↔∃t,jq a p=some t/\iD t.2.1 n/\nN t.2.2 f
 PY:∀n p t,jq a p=some t->(tz (F.named n:Nat) p=true↔iD t.2.1 n)
 Cj:∀p t,jq a p=some t->(tz inner p=true↔t.1=true)
 abl:∀p,tz able p=true↔∃t,jq a p=some t/\AL t.2.2=true
theorem Gj{g:D->D}{k:ju}:∀ {a:!ju}{b:!D},bX a (b.map g) k=(bX a b k).map g
 |[],b=>by simp[bX]
 |_::_,[]=>by trivial
 | x::a,y::b=>by
  rw[bg,jD,jD];split
  .rfl
  .exact Gj
def Ko{k:ju}{a:!ju}{b:!D}{m:Int}(h:(bX a b k).getD (.int 0)=.int m):(bX a (b.map su) k).getD (.int 0)=.int m:=by
 rw[Gj];cases e:bX a b k with
 |none=>simp_all|some d=>simp_all [su]
def JX{l:!D}(h:∀x∈l,su x=x):qu l=l:=by
 rw[kN];exact(ij h).trans<|List.map_id l
theorem Ly(n:Nat){d:D}(h:rE n d):Qa d=false:=by
 cases n with
 |zero=>exact h.elim|succ n=>let(a,e,w,_):=h;subst w;rfl
theorem HU:∀(n:Nat){d:D},rE n d->su d=d
 |0,_,h=>h.elim| n+1,d,h=>by
  let(a,e,w,_,_,k):=h;have hd:∀ {l:!D},(∀x∈l,Qa x=Z_)->Z7 l=false:=fun {l} h=>by
   cases l with|nil=>rfl|cons x l=>solve_by_elim
  have q:=JX λc m=>by let(b,w,_,u):=k c m;subst w;rw[su,if_neg (by grind [Ly]),JX λx m=>HU n<|u x m]
  have z:=hd λc m=>by let(b,w,_):=k c m;subst w;rfl
  simp_all [su,qu]
def Q6(a:Ss)(S:EB a)(R:OkS (λ_=>True) a)(T:oO a<=12)(E:pT a<=900)(B:cj a<=60)(B0:1<=cj a):
  ∃f0 f u d r o F,eU [.ins "Facts" [] [],.lst<|gS a]=Y (.dC,gr f0)/\f0.qd=.lst f0.q/\f0.q=gS a/\f.q=gS a/\iU [.lst<|gS a]=Y (.int<|x9 a 0 0)/\su (gr f0)=gr f/\FW f (x9 a 0 0) u d r o/\FX a f.inner (x9 a 0 0) u d r o F:=by
 let(b,s1,s,H,L,e,q,g,C):=UQ a S R T E;let I:=g.gi;have lk:=g.lk (λl h=>by cases h);let(la,O):=CP.ln a b C E;let N:=CP.len a b C;let(X,v,_):=g.add;let U:∀l∈L,dk l.2<=12:=λl h=>(lk l h).1
 have J:∀p∈L.map ldI,rE 12 p.2:=λp Q=>by let(l,B,rfl):=bS.mp Q;exact Lz _ _ (lk l B).1 (lk l B).2
 let K:∀x∈qb b,rE 12 x:=JB b 12 Ž O;have kl:(qb b).length<=60:=by rw[JD,N];exact B
 have k:∀n p t,jq a p=Y t->(((SH s L).named n).testBit p=Z'↔iD t.2.1 n):=λn p t h=>by
  let x:H[p]?=Y (.st t.1 t.2.1):=by rw[v];exact oQ<|C2 a p t h
  show (s.d_.toNat ||| zE _).testBit p=Z'↔_;rw[iu,bx,(DV I).2 p,(DW I n).2 p,x];cases t.2.1 with
  |none=>simp[iD]|some m=>simp[iD]
 refine((s.q,.lst s.q,(s.bits:Int),s.nk,s.nv,s.tk,s.tv,s.d_,s.sy,s.inner,s.cG,qb b),(s.q,.dY 0 [],(s.bits:Int),s.nk,s.nv.map su,s.tk,s.tv.map su,s.d_,s.sy,s.inner,s.cG,qb b),λn x=>BD 12 n x 0 0<|qb b,λn x=>Dv 12 n x (bA x s.inner)<|L.map ldI,λn=>((SH s L).named n:Nat),λt=>((SH s L).text t:Nat),SH s L,e,W,q,q,Zt ž E,?_,((λn x=>Jg ſ K (by show (qb b).length<=1000;lia) n x,λn x=>MQ ſ (by show s.cG=_;rw[I.cG,j3];rfl) J n x),(λn =>?_,λt =>?_),λn x=>Wc (Q4 (qb b) 0 0 (ſ,ſ)) Ž,λn x y h=>fit_le h (qb b) 0 0 0 K λ_ h=>h,Wc (R3 a 0 0 (ſ,ſ)) Ž),(λn=>rfl,λt=>rfl,λn x y h=>Qf h _ _ _ J<|IL h λ_ h=>h,λn x i =>?_,λn f p =>?_,λn p t h=>by rw[kh];exact k n p t h,λp t h =>?_,λp =>?_))
 .have z1:Z7 s.q=true:=by
   rw[q];cases a with
   |nil=>cases B0|cons=>rfl
  have z2:Z7 s.cG=false:=by rw[I.cG];cases L<;>rfl
  have z3:Z7 (qb b)=false:=by
   cases y:qb b with
   |nil=>rfl|cons x l=>exact Ly 12<|K x (by rw[y];exact az)
  have z4:qu s.cG=s.cG:=JX λx m=>by rw[I.cG]at m;let(l,m1,w):=bS.mp m;subst w;have:su (Hs l.2)=Hs l.2:=HU 12<|J _<|ig m1;simp only[ldK,su,qu,this]
  have z5:qu (qb b)=qb b:=JX λx m=>HU 12<|K x m
  simp only[gr,su,qu,z1,z2,z3,z4,z5,kN s.nv,kN s.tv];rfl
 .let h:=(DW I n).1;let g:=(DV I).1;refine wb ?_;show NX (.int s.d_) ((bX s.nk (s.nv.map su)<|b_ n).getD<|.int 0)=Y _;rw[Ko h,g];show Y (D.int<|bO _ _)=_;rw[uo];rfl
 .let h:=(DU I t).1;show Y ((bX s.tk (s.tv.map su)<|b_ t).getD<|.int 0)=_;rw[Ko h];rfl
 .let g:=(qQ I).1;rw[Kr L _ U,c5,kh,kh,zU,ax];refine or_congr (and_congr e_ ?_) e_;show tz s.inner i=Z'↔s.inner.toNat.testBit i=Z';rw[<- kh,<- g]
 .rw[K3 b 0 0 (by lia),je];let P:=Pb (SH s L) _ f<|aF _;constructor
  .rintro(z|⟨j,x,ej,G,z,m⟩)
   .cases z
   .have:p=j:=by simp_all
    subst this;let(t,w,A):=(JC a b C p).1 x G;rw[kh]at z;exact(t,w,(k n p t w).mp z,(AQ P _ _<|nQ.r I _ _ A).mp m)
  .rintro⟨t,w,c,h⟩;let(x,G,A):=(JC a b C p).2 t w
   grind [kh,AQ,nQ.r]
 .let g:=(qQ I).1;let x:H[p]?=Y (.st t.1 t.2.1):=by simp_all [oQ,C2]
  show tz s.inner p=Z'↔_;rw[g,kh,(qQ I).2 p,x];simp
 .rw[LG];simp[je]
end K21
section
set_option maxHeartbeats 1000000
namespace K21
open PySem L2 K30
noncomputable def tOf:D->↑Tr
 |.str s=>Y (.txt s)|_=>M
noncomputable def fo(ns:!Nd):Nat->Nat->!Tr
 |0,_=>[]| m+1,k=>match ns[k]? with
  |none=>[]|some n=>n.tx.filterMap tOf++n.kd.filterMap λj=>(ns[j.toNat]?).map λc =>.nd c.nm<|fo ns m j.toNat
theorem Gz{a b:Type}{f g:a->↑b}:∀ {l:!a},(∀x∈l,f x=g x)->l.filterMap f=l.filterMap g
 |[],_=>rfl|x::l,h=>by rw[ik,ik,h x az,Gz λy c=>h y<|by solve_by_elim]
theorem DZ{ns:!Nd}(T:TW ns):∀(m m' k:Nat),ns.length<=m+k->ns.length<=m'+k->fo ns m k=fo ns m' k
 | 0,m',k,h,_=>by
  cases m' with
  |zero=>rfl|succ m'=>rw[fo,fo,gu.mpr<|by simp_all]
 |m+1,0,k,_,h=>by simp_all [fo]
 | m+1,m'+1,k,h,g=>by
  rw[fo,fo];cases e:ns[k]? with
  |none=>rfl|some n=>
   simp only
   congr 1
   refine Gz λj hj =>?_
   let(i,c,rfl,hi,ec,_):=T.EK k n e j hj;simp;rw[DZ T m m' i (by lia)<|by lia]
noncomputable abbrev Bb(ns:!Nd)(k:Nat):!Tr:=fo ns ns.length k
def ue{ns:!Nd}(T:TW ns){n:Nd}(e:ns[k]?=Y n)(x:Tr):x∈Bb ns k↔(∃t,x=.txt t/\D.str t∈n.tx)\/∃(j:Nat) (c:Nd),(j:Int)∈n.kd/\ns[j]?=Y c/\x=.nd c.nm (Bb ns j):=by
 let o:=se e;obtain⟨m,g⟩:∃m,ns.length=m+1:=(ns.length-1,Ž);let u:Bb ns k=n.tx.filterMap tOf++n.kd.filterMap λj=>(ns[j.toNat]?).map λc =>.nd c.nm<|fo ns m j.toNat:=by unfold Bb;rw[g,fo,e]
 rw[u,aD,qh,qh];refine or_congr ?_ ?_
 .constructor
  .rintro⟨d,f,h⟩;let(s,rfl):=T.tx k n e d f;cases h;exact(s,W,f)
  .rintro⟨t,rfl,h⟩;exact(_,h,W)
 .constructor
  .rintro⟨j,a,h⟩;let(i,c,rfl,l,b,_):=T.EK k n e j a;rw[bG,b,cE]at h;refine(i,c,a,b,?_);rw[<- bE h,Bb,DZ T m ns.length i (by lia)<|by simp]
  .rintro⟨j,c,a,b,rfl⟩;let(i,q,p,l,_):=T.EK k n e j a;refine((j:Int),a,?_);rw[bG,b,cE,Bb,DZ T m ns.length j (by lia)<|by simp]
section
variable {a:Ss}{f:vC}{able:Int}{fit lift:Int->Int->Int}{stp txt:aP->Int}{F:Fa}{ns:!Nd}
abbrev AWn(F:Fa)(ns:!Nd)(k:Nat):Int:=(fA F (Bb ns k):Nat)
def Fk(a:Ss)(ns:!Nd)(k p:Nat):Prop:=∃n t,ns[k]?=Y n/\jq a p=Y t/\iD t.2.1 n.nm/\nN t.2.2 (Bb ns k)
def V6(X:FX a f.inner able fit lift stp txt F)(T:TW ns):WH lift stp txt ns<|AWn F ns:=by
 refine(T,X.abu,λk n e t d i h =>?_,λk n e j m g q i h =>?_,λk n x e p o i h =>?_)
 .rw[X.txt]at h;exact Jk ((ue T e _).mpr<|.inl (t,W,d)) i Ÿ
 .rw[X.stp,X.lft]at h;exact Jk ((ue T e _).mpr<|.inr (j,m,g,q,W)) i Ÿ
 .rw[kh,D4]at h;let(t,d,b):=h;rcases(ue T e t).mp d with⟨s,rfl,l⟩|⟨j,c,g,r,rfl⟩
  .exact p s l i (by rw[X.txt];exact Ÿ)
  .exact o j c g r i (by rw[X.stp,X.lft];exact Ÿ)
def Fo(a:Ss)(ns:!Nd)(sv:!Nat)(k p:Nat):Prop:=∃n t,ns[k]?=Y n/\jq a p=Y t/\iD t.2.1 n.nm/\if k∈sv then AL t.2.2=Z' else nN t.2.2 (Bb ns k)
def Q3:Fo a ns []=Fk a ns:=by
 funext k p
 trivial
def OX(Da:FW f able fit lift stp txt)(X:FX a f.inner able fit lift stp txt F)(sv:!Nat):RV fit stp ns (AWn F ns) able (Fo a ns sv) sv:=by
 refine(λk n p e h =>?_,λk n p e v h =>?_,λk n p e h =>?_,Da.mono)
 .rw[X.stp,X.fit]at h;let(t,c,d,g):=h;refine(n,t,e,c,d,?_);split
  .exact GZ _ g
  .exact g
 .let(m,t,b,c,d,g):=h;rw[e]at b;cases b;rw[if_neg v]at g;rw[X.stp,X.fit];exact(t,c,d,g)
 .let(m,t,b,c,d,g):=h;rw[e]at b;cases b;refine(by rw[X.stp];exact(X.PY _ p t c).mpr d,(X.abl p).mpr (t,c,?_));split at g
  .exact g
  .exact GZ _ g
end
end K21
end
namespace K21
open PySem L2 K30
noncomputable abbrev r_(ns:!Nd):D :=.lst<|ns.map MK
def Wn(ns:!Nd)(b:Bool)(a:Int)(z:Int):Prop:=∃(i:Nat) (n:Nd),z=i/\ns[i]?=Y n/\(n.par=a\/(b=Z'/\Hk ns n.par a))
section
variable {ns:!Nd}
theorem Es(T:TW ns):∀(m:Nat) (z:Int),-1<=z->z<m->z<ns.length->Hk ns z (-1)
 | 0,z,h,g,_=>by
  have:z = -1:=by lia
  rw[this];exact .refl _
 | m+1,z,h,g,l=>by
  by_cases c:z = -1
  .rw[c];exact .refl _
  .let e:=ai (l:=ns) (i:=z.toNat) Ž;have p:=T.par _ _ e;exact .up Ž e<|Es T m _ p.1 ž ŷ
def RZ(T:TW ns)(h:Hk ns z a):a<=z:=by
 induction h with
 |refl=>exact ZQ _|up e g _ ih=>
  have:=(T.par _ _ g).2
  lia
def zD{k:Nat}{n:Nd}(e:ns[k]?=Y n):qa (ns.map MK) (k:Int)=Y (MK n):=dX Ż
def C_(n:Nat):kT 0 n=(bJ n).map λk:Nat=>D.int (k:Int):=by simp[kT]
theorem Kw{c:bL}{t:DT}{P:Nat->Bool}:∀(l:!Nat),(∀k∈l,t (c.set 0<|Y<|.int (k:Nat))=Y (P k))->(0<c.length)->rN c (gN 0) t (eV 0) (l.map λk:Nat=>D.int (k:Int))=Y ((l.filter P).map λk:Nat=>D.int (k:Int))
 |[],_,_=>rfl| k::l,h,g=>by
  rw[bg,rN];let e:gN 0 (.int k) c=Y _:=rfl;let f:eV 0 (c.set 0<|Y<|.int k)=Y (.int k):=by
   cases c with|nil=>simp at g|cons x c=>rfl
  rw[e];simp;rw[h k az,f,Kw l (λj hj=>h j<|by solve_by_elim) g]
  grind
def zX{l:!D}{f:DF}{ρ:bL}(h:f ρ=Y (.lst l)):be iC (aC f aN) ρ=Y (.int (l.length:Nat)):=rg h
def KY{l:!D}{f:DF}{t:DT}{s:!(↑Nat)}{ρ:bL}{P:Nat->Bool}(e:f ρ=Y (.lst l))(n:l.length<=1000)(h:∀k<l.length,t ((ki s ρ).set 0<|Y<|.int (k:Int))=Y (P k))(k:0<s.length):lU (KD<|be iC<|aC f aN) s (gN 0) t (eV 0) ρ=Y (((bJ l.length).filter P).map λk:Nat=>D.int (k:Int)):=by
 refine kA (Mr (zX e) ż Ž) (by rw[mC];trivial) ?_;rw[bG,C_,Kw (P:=P) _ (λk m=>h k<|by simpa using m) (by simpa [ki])]
def Oa{b:Bool}{x:Bool}{ρ:bL}(h:eV 2 ρ=Y (.str<|jl b)):dG (e2 hU (eV 2)<|eK<|.str<|jl x) ρ=Y (b==x):=(Ml h).trans (by cases b<;>cases x<;>rfl)
def UC{f g:DF}{ρ:bL}{x y:Int}(h:f ρ=Y (.int x))(k:g ρ=Y (.int y)):dG (e2 JJ f g) ρ=Y (decide (x<y)):=gQ<|cp h k
def ae9{f:DF}{l:!D}(h:f ρ=Y (.lst l)):iL f ρ=Y l:=by simp[iL,h]
def HG(T:TW ns)(l:ns.length<=1000)(b:Bool):∃r:!Int,k6 [r_ ns,.int<|-1,.str<|jl b]=Y (r.map D.int)/\r.Nodup/\∀z,z∈r↔Wn ns b (-1) z:=by
 have q1:hV (dG ww) (dG<|e2 hU (eV 2) pi) [Y<|r_ ns,Y<|.int<|-1,Y<|.str<|jl b,M,M]=Y (not b):=(gE (UC W W)<|Oa (x:=Z_) W).trans (by cases b<;>rfl);have nod:∀P:Nat->Bool,(((bJ ns.length).filter P).map λk:Nat=>(k:Int)).Nodup:=λP=>EG _ (λ(a b:Nat) (h:a≠b)=>(show (a:Int)≠b from λz=>h Ž))<|List.nodup_range.filter P
 have mem:∀(P:Nat->Bool) (z:Int),z∈(((bJ ns.length).filter P).map λk:Nat=>(k:Int))↔∃(i:Nat) (n:Nd),z=i/\ns[i]?=Y n/\P i=true:=λP z=>by
  simp only[bS,bV,NS];constructor
  .rintro⟨k,⟨h,p⟩,rfl⟩;exact(k,_,W,ai h,p)
  .rintro⟨k,n,rfl,e,p⟩;exact(k,(se e,p),W)
 have e0:k6 [r_ ns,.int<|-1,.str<|jl b]=(vj [Y<|r_ ns,Y<|.int<|-1,Y<|.str<|jl b,M,M]).bind MB:=rfl;rw[e0];cases b with
 |false=>
  refine(_,bq (sqR q1 (B7 (f7 (KY (s:=[M,Y 0]) (P:=λk=>match ns[k]? with|some n=>decide (n.par<0)|none=>Z_) W (by rw[ar];exact l) (λk hk =>?_) ſ) (by rw[ar,j3];rfl)))) W,nod _,λz=>(mem _ z).trans ?_)
  .rw[ar]at hk;have e:=ai hk;simp only[e];exact UC ((cp ((cp W W).trans<|zD e) W).trans W) W
  .unfold Wn;refine exists_congr λi=>exists_congr λn=>and_congr e_ (and_congr_right λe =>?_)
   simp only[e,decide_eq_true_eq,k_,false_and,or_false];have:=(T.par i n e).1
   lia
 |true=>
  refine(_,bq (mu q1<|sqR W<|B7<|f7 (KY (s:=[M]) (P:=λk=>Z') W (by rw[ar];exact l) (λk hk=>rfl) ſ) (by rw[ar,j3];rfl)) W,nod _,λz=>(mem _ z).trans ?_);unfold Wn;refine exists_congr λi=>exists_congr λn=>and_congr e_<|and_congr_right λe =>?_
  let p:=T.par i n e;have:=se e;exact(λ_ =>.inr (W,Es T ns.length _ p.1 Ž Ž),λ_=>rfl)
end
structure BI(ns:!Nd)(k0:Nat)(n0:Nd)(r:!Int)(i:Nat):Prop where
 nd:r.Nodup
 ok:∀z∈r,∃(j:Nat) (n:Nd),z=j/\ns[j]?=some n/\Hk ns n.par k0
 fr:∀(j:Nat) (n:Nd),(j:Int)∈r->ns[j]?=some n->n.par=k0\/∃x,x<i/\r[x]?=some n.par
 k:∀z∈n0.kd,z∈r
 cl:∀x<i,∀(j:Nat) n,r[x]?=some (j:Int)->ns[j]?=some n->∀z∈n.kd,z∈r
section
variable {ns:!Nd}{k0:Nat}{n0:Nd}{r:!Int}{i:Nat}
def BI.new(T:TW ns)(e:ns[k0]?=Y n0):BI ns k0 n0 n0.kd 0:=by
 refine(T.nd k0 n0 e,λz hz =>?_,λj n f g =>?_,λz h=>h,λx h=>by trivial)
 .let(j,n,a,_,b,c):=T.EK k0 n0 e z hz;exact(j,n,a,b,by rw[c];exact .refl _)
 .let(d,i,a,_,b,c):=T.EK k0 n0 e _ f;have:j=d:=by lia
  subst this;rw[g]at b;cases b;exact .inl c
def BI.len(h:BI ns k0 n0 r i):r.length<=ns.length:=by
 let a:(r.map Int.toNat).Nodup:=by
  refine EG _ (λx y (z:x≠y/\0<=x/\0<=y)=>ŷ) ?_;refine Sq (fun {x y} b d z=>(z,?_,?_)) h.nd
  .let(j,_,e,_):=h.ok x b;simp_all
  .let(j,_,e,_):=h.ok y d;lia
 have:=qI ns.length _ a λx b=>by
  let(z,c,rfl):=bS.mp b;let(j,n,e,f,_):=h.ok z c;have:=se f
  simp_all
 simp_all
def BI.step(T:TW ns)(h:BI ns k0 n0 r i){j:Nat}{n:Nd}(e:r[i]?=Y (j:Int))(k:ns[j]?=Y n):BI ns k0 n0 (r++n.kd)<|i+1:=by
 let y:∀z∈r,(k0:Int)<z:=λz d=>by
  let(a,m,q,f,c):=h.ok z d;have:=RZ T c;have:=(T.par a m f).2
  lia
 refine(bM.mpr (h.nd,T.nd j n k,λa g b w =>?_),λz d =>?_,λa m g f =>?_,λz d=>aS _<|h.k z d,λx u a m t f z d =>?_)
 .rintro rfl;let(c,m,q,_,f,l):=T.EK j n k a w;subst q;obtain z|⟨x,u,o⟩:=h.fr c m g f
  .have:=y _ (bp e)
   simp_all
  .rw[l]at o;have:=(l4 (se o) h.nd).mp (o.trans e.symm)
   simp_all
 .obtain d|d:=aD.mp d
  .exact h.ok z d
  .let(c,m,q,_,f,l):=T.EK j n k z d;let(v,C,B,p,A):=h.ok _<|bp e;have:v=j:=by lia
   subst this;rw[k]at p;cases p;exact(c,m,q,f,.up l k A)
 .obtain g|g:=aD.mp g
  .obtain z|⟨x,u,o⟩:=h.fr a m g f
   .exact .inl z
   .exact .inr (x,ž,oQ o)
  .let(c,D,q,_,s,l):=T.EK j n k _ g;have:a=c:=by lia
   subst this;rw[f]at s;cases s;exact .inr (i,ž,by rw[l];exact oQ e)
 .let E:=se e;rw[aI<|by lia]at t;by_cases c:x=i
  .subst c;rw[e]at t;have:j=a:=by have:=bE t;lia
   subst this;rw[k]at f;cases f;exact aE _ d
  .exact aS _<|h.cl x Ž a m t f z d
def BI.all(T:TW ns)(C:ns[k0]?=Y n0)(h:BI ns k0 n0 r r.length)(z:Int):z∈r↔Wn ns Z' k0 z:=by
 constructor
 .intro y;let(j,n,a,b,c):=h.ok z y;exact(j,n,a,b,.inr (W,c))
 .rintro⟨j,n,rfl,i,d⟩;let A:=d.elim (λe=>by rw[e];exact .refl _) And.right;let l:∀(m j:Nat) (n:Nd),j<m->ns[j]?=Y n->Hk ns n.par k0->(j:Int)∈r:=λm=>by
   induction m with
   |zero=>simp|succ m ih=>
    intro j n F i A;generalize v:n.par=p at A;cases A with
    |refl=>let(o,g,k):=T.back j n i k0 v;rw[C]at g;cases g;exact h.k _ k
    |@up _ s t _ q f D=>let E:=(T.par j n i).2;let(x,u,B):=cK.mp<|ih s t Ž f D;let(o,g,k):=T.back j n i s<|v.trans q;rw[f]at g;cases g;exact h.cl x u s t Ż f _ k
  exact l _ j n (mY _) i A
abbrev eW(ns:!Nd)(k0:Nat)(b:Bool)(r:!Int)(i:Nat):bL:=[Y<|r_ ns,Y<|.int (k0:Int),Y<|.str<|jl b,Y<|.lst<|r.map D.int,Y<|.int (i:Nat)]
abbrev tW:DT:=hV (dG<|e2 JJ (eV 4)<|be iC No)<|dG<|e2 hU (eV 2) Tk
def Oy:tW (eW ns k0 b r i)=Y (decide (i<r.length)&&b):=(gE (UC (f:=eV 4) W (Qh W)) (Oa (x:=Z') W)).trans Ż
def RI{b:Bool}{j:Nat}{n:Nd}(e:r[i]?=Y (j:Int))(a:ns[j]?=Y n)(l:r.length+n.kd.length<=2000):pJ (eW ns k0 b r i)=Y (.nx<|eW ns k0 b (r++n.kd)<|i+1):=by
 have q:e2 cw (e2 cw (eV 0)<|e2 cw (eV 3)<|eV 4) ca (eW ns k0 b r i)=Y (.lst<|n.kd.map D.int):=(cp (tV W (tV (z:=i) W W (dX<|by rw[aK,e];rfl)) (zD a)) W).trans W;refine C5 (l:=(r++n.kd).map D.int) ?_ W;unfold Vf;rw[q,aY];exact if_pos (by rw[ar,ar,jg];lia)
theorem RH(T:TW ns)(o:ns[k0]?=Y n0)(g:ns.length<=1000):∀(m:Nat) (r:!Int) (i N:Nat),ns.length<=m+i->m<N->i<=r.length->BI ns k0 n0 r i->∃a,BI ns k0 n0 a a.length/\jI tW pJ N (eW ns k0 Z' r i)=Y (.nx<|eW ns k0 Z' a a.length)
 |m,r,i,0,_,h,_,_=>by trivial
 | m,r,i,N+1,h,hN,hi,B=>by
  let l:=B.len;by_cases c:i<r.length
  .obtain⟨b,rfl⟩:∃b,m=b+1:=(m-1,Ž);let e:=ai c;let(j,n,k,d,_):=B.ok _<|mZ c;rw[k]at e;have f:=B.step T e d;let(a,R,E):=RH T o g b _ _ N Ž Ż (by rw[aU];lia) f;refine(a,R,?_);rw[jI,Oy,decide_eq_true c];rw[RI e d<|by have:=f.len;rw[aU]at this;lia];exact E
  .have:i=r.length:=by lia
   subst this;refine(r,B,?_);rw[jI,Oy];simp
def LZ(T:TW ns)(g:ns.length<=1000)(e:ns[k0]?=Y n0)(b:Bool):∃r:!Int,k6 [r_ ns,.int (k0:Int),.str<|jl b]=Y (r.map D.int)/\r.Nodup/\∀z,z∈r↔Wn ns b k0 z:=by
 have m:k6 [r_ ns,.int (k0:Int),.str<|jl b]=(vj [Y<|r_ ns,Y<|.int (k0:Int),Y<|.str<|jl b,M,M]).bind MB:=rfl;rw[m];have q0:dG ww [Y<|r_ ns,Y<|.int (k0:Int),Y<|.str<|jl b,M,M]=Y false:=(UC (x:=(k0:Int)) (y:=0) W W).trans (by rw[decide_eq_false<|by simp]);have q1:=gE q0<|Oa (b:=b) (x:=Z_) W;have k8:∀ {r:!Int}{i:Nat},y8 1000000 tW pJ (eW ns k0 b n0.kd 0)=Y (.nx<|eW ns k0 b r i)->(vj [Y<|r_ ns,Y<|.int (k0:Int),Y<|.str<|jl b,M,M]).bind MB=Y (r.map D.int):=fun {r i} h=>bq (mu q1<|mu q0<|C5 (l:=n0.kd.map D.int) (by unfold GD;rw[(cp ((cp W W).trans<|zD e) W).trans W];rfl) (mr (d :=.int 0) W (sq h W))) W
 cases b with
 |false=>
  refine(_,k8 (r:=n0.kd) (i:=0) ?_,T.nd k0 n0 e,λz =>?_)
  .show jI _ _ (999999+1) _=_;rw[jI,Oy];simp
  constructor
  .intro k;let(j,n,a,_,c,d):=T.EK k0 n0 e z k;exact(j,n,a,c,.inl d)
  .rintro⟨j,n,rfl,l,d|⟨d,_⟩⟩
   .let(o,f,h):=T.back j n l k0 d
    simp_all
   .cases d
 |true=>let(r,R,E):=RH T e g ns.length n0.kd 0 1000000 ż Ž ž<|.new T e;exact(_,k8 E,R.nd,R.all T e)
end
section
variable {ns:!Nd}
def RJ{f:!Tr}(B:WX b x g f)(e:b=Z'):Tr.nd y h∈g->WX Z' y h f:=by
 induction B with
 |Z m=>exact λz =>.Cj m<|.Z z
 |Cj m _ ih=>exact λz =>.Cj m<|ih e z
def RY{z:Int}{c:Nat}{b:Nd}(d:ns[c]?=Y b){a:Int}(h:Hk ns z a):a=c->Hk ns z b.par:=by
 induction h with
 |refl=>rintro rfl;exact .up W d<|.refl _
 |up e g _ ih=>exact λq =>.up e g<|ih q
def Lw(T:TW ns){b:Bool}{x:aP}{g:!Tr}{k:Nat}{n:Nd}(e:ns[k]?=Y n):WX b x g (Bb ns k)↔∃(j:Nat) (m:Nd),ns[j]?=Y m/\(m.par=k\/(b=Z'/\Hk ns m.par k))/\x=m.nm/\g=Bb ns j:=by
 constructor
 .intro B;generalize hf:Bb ns k=f at B
  induction B generalizing k n with
  |Z m=>
   rw[<- hf]at m;rcases(ue T e _).mp m with⟨t,z,_⟩|⟨j,c,hj,ec,z⟩
   .cases z
   .cases z;let(i,c',q,_,ec',p):=T.EK k n e _ hj;have:j=i:=by lia
    subst this;rw[ec]at ec';cases ec';exact(j,c,ec,.inl p,W,W)
  |Cj m _ ih=>
   rw[<- hf]at m;rcases(ue T e _).mp m with⟨t,z,_⟩|⟨j,c,hj,ec,z⟩
   .cases z
   .refine ae λkk =>?_
    cases z;let(i,c',q,_,ec',p):=T.EK k n e _ hj;have:j=i:=by lia
    subst this;rw[ec]at ec';cases ec';let(l,m',em,d,r):=ih ec W;refine kk<|(l,m',em,.inr (W,?_),r);rw[<- p];exact RY ec (d.elim (λz=>by rw[z];exact .refl _) And.right) W
 .rintro⟨j,m,em,d,rfl,rfl⟩;have Z:∀ {k:Nat}{n:Nd}{j:Nat}{m:Nd},ns[k]?=Y n->ns[j]?=Y m->m.par=k->Tr.nd m.nm (Bb ns j)∈Bb ns k:=fun {k n j m} e em p=>by let(o,eo,ko):=T.back j m em k p;rw[e]at eo;cases eo;exact(ue T e _).mpr (.inr (j,m,ko,em,W))
  obtain p|⟨rfl,A⟩:=d
  .exact Ÿ
  .let key:∀(N j:Nat) (m:Nd),j<N->ns[j]?=Y m->Hk ns m.par k->WX Z' m.nm (Bb ns j) (Bb ns k):=λN=>by
    induction N with
    |zero=>simp_all|succ N ih=>
     intro j m hj em A;generalize hp:m.par=p at A;cases A with
     |refl=>solve_by_elim|@up _ j' n' _ q en' A'=>let lt:=(T.par j m em).2;exact RJ (ih j' n' Ž en' A') W<|Z en' em<|hp.trans q
   exact key (j+1) j m (mY _) em A
def Sx(ns:!Nd)(a:↑aP)(w:Wi)(z:Int):Prop:=∃n,ns[z.toNat]?=Y n/\iD a n.nm/\nN w (Bb ns z.toNat)
def Fw(ns:!Nd)(P:Int->Prop):Ss->Int->Prop
 |.nil=>P|.cons b c w r=>Fw ns (λz=>∃a,P a/\Wn ns b a z/\Sx ns c w z) r
theorem KU(T:TW ns):∀(s:Ss) (P:Int->Prop),(∀z,P z->∃(k:Nat) (n:Nd),z=k/\ns[k]?=Y n)->((∃z,Fw ns P s z)↔∃a,P a/\wY (λv=>True) s (Bb ns a.toNat))
 |.nil,P,_=>by simp[Fw,wY]
 | .cons b t w r,P,h=>by
  rw[Fw,KU T r _ λz (a,_,(i,n,e,f,_),_)=>(i,n,e,f)];constructor
  .rintro⟨z,⟨a,o,⟨i,n,rfl,f,d⟩,u,p,c,hw⟩,l⟩;let(k,m,rfl,q):=h a o;rw[bG]at *
   rw[f]at p;cases p;exact(k,o,_,_,(Lw T q).mpr (i,n,f,d,W,W),c,hw,l)
  .rintro⟨a,o,x,g,B,c,hw,l⟩;let(k,m,rfl,q):=h a o;let(j,n,f,d,rfl,rfl):=(Lw T q).mp B;exact(j,(k,o,(j,n,W,f,d),n,by trivial,c,Ż),Ż)
def VP(ns:!Nd)(z:Int):Prop:=∃(k:Nat) (n:Nd),z=k/\ns[k]?=Y n
def Qg{l:!Int}(h:l.Nodup)(g:∀z∈l,VP ns z):l.length<=ns.length:=by
 let a:(l.map Int.toNat).Nodup:=by
  refine EG _ (λx y (z:x≠y/\0<=x/\0<=y)=>ŷ) ?_;refine Sq (fun {x y} b d z=>(z,?_,?_)) h
  .let(j,_,e,_):=g x b;simp_all
  .let(j,_,e,_):=g y d;lia
 have:=qI ns.length _ a λx b=>by
  let(z,c,rfl):=bS.mp b;let(j,n,e,f):=g z c;have:=se f
  simp_all
 simp_all
def aav(T:TW ns)(a:ns.length<=1000)(h:z = -1\/VP ns z)(b:Bool):∃r:!Int,k6 [r_ ns,.int z,.str<|jl b]=Y (r.map D.int)/\r.Nodup/\∀y,y∈r↔Wn ns b z y:=by
 obtain rfl|⟨k,n,rfl,e⟩:=h
 .exact HG T a b
 .exact LZ T a e b
def Ad{l:!Int}:Bo b (.int k) (.lst<|l.map D.int)=Y (.bl<|if b then (not<|decide (k∈l)) else decide (k∈l)):=by
 let s:(mw (.int k)&&(l.map D.int).all mw)=true:=by simp[mw,l6,dh]
 let v:M3 (HK<|.int k) ((l.map D.int).map HK)=l.any (· == k):=by unfold M3;rw[pO,pO];rfl
 let d:l.any (· == k)=decide (k∈l):=by grind
 show SJ b _ _=_;unfold SJ;rw[if_pos s,v,d]
def Ra{x y:aP}:Vh (.str x) (.str y)=(x==y):=rfl
def KA(d:c≠Y (af "*"))(x:aP):∃b,Bo Z_ (.str<|jC c) (.lst [.str<|af "*",.str x])=Y (.bl b)/\(b=Z'↔iD c x):=by
 refine(_,W,?_);cases c with
 |none=>solve_by_elim|some a=>
  have:¬af "*" = a:=λz=>d (by rw[z])
  simp[iD,M3,HK,Ra,jC,this];exact eq_comm
def VR{t:aP}:∀ {l:!D},(∀d∈l,∃s,d=D.str s)->∃b,Bo Z_ (.str t) (.lst l)=Y (.bl b)/\(b=Z'↔D.str t∈l):=fun {l} h=>by
 let s:(mw (.str t)&&l.all mw)=true:=by simp only[mw,Bool.true_and,dI];intro d a;let(s,rfl):=h d a;rfl
 refine(M3 (HK<|.str t)<|l.map HK,?_,?_)
 .show SJ _ _ _=_;unfold SJ;rw[if_pos s];rfl
 .unfold M3;rw[List.any_eq_true];constructor
  .rintro⟨v,c,q⟩;let(d,a,rfl):=bS.mp c;let(s,rfl):=h d a
   simp_all [HK,Ra]
  .exact λm=>(_,ig m,by simp[HK,Ra])
def WD{l:!Bool}:Bo b (.bl x) (.lst<|l.map λy=>D.bl y)=Y (.bl (if b then (not (l.any (· == x))) else l.any (· == x))):=by
 let s:(mw (.bl x)&&(l.map λy=>D.bl y).all mw)=true:=by simp[mw,l6,dh]
 let v:M3 (HK<|.bl x) ((l.map λy=>D.bl y).map HK)=l.any (· == x):=by unfold M3;rw[pO,pO];rfl
 show SJ b _ _=_;unfold SJ;rw[if_pos s,v]
end
section
variable {ns:!Nd}{FH:!D->↑D}{FA:!D->↑(!D)}
def HE(ns:!Nd)(FH:!D->↑D)(w:Wi):Prop:=∀(k:Nat) (n:Nd),ns[k]?=Y n->∃b,FH [r_ ns,.int (k:Int),rH w]=Y (.bl b)/\(b=Z'↔nN w (Bb ns k))
abbrev OD(b:Bool)(a:↑aP)(w:Wi):D :=.tup [.str<|jl b,.str<|jC a,rH w]
abbrev eA(ns:!Nd)(e c:↑D)(d:D)(f:!Int)(b a:↑D):bL:=[Y<|r_ ns,e,c,Y d,Y<|.lst<|f.map D.int,b,a]
def VE{b:Bool}{a:↑aP}{w:Wi}(v:a≠Y (af "*"))(H:HE ns FH w){s1 s2 s5:↑D}{fd:!Int}{k:Nat}{n:Nd}(e:ns[k]?=Y n)(l:fd.length<=1000):∃f:!Int,rj FH FA (eA ns s1 s2 (OD b a w) fd s5<|Y<|.int (k:Int))=Y (.nx<|eA ns s1 s2 (OD b a w) f s5<|Y<|.int (k:Int))/\(f=fd/\((k:Int)∈fd\/¬Sx ns a w k)\/f=fd++[(k:Int)]/\(k:Int)∉fd/\Sx ns a w k):=by
 let(x,B,u):=KA v n.nm;let(y,A,s):=H k n e;have h:Sx ns a w k↔x=Z'/\y=true:=by
  rw[u,s];unfold Sx;rw[bG];constructor
  .rintro⟨m,i,r⟩;rw[e]at i;cases i;exact r
  .exact λr=>(n,e,r)
 refine(_,f7 (Gw (gE (gQ (b:= (not<|decide ((k:Int)∈fd))) (f7 (cp W W) Ad)) (gE (gQ<|f7 (cp W<|el2 W<|f7 (cp (f7 (cp W W)<|zD e) W) W) B)<|C1<|f7 (G7 W W W) A)) W (by rw[ar];exact fw Ž) λ_=>rfl) (by rw[show ∀z:Bool,(fd.map D.int++if z then [D.int k] else [])=(fd++if z then [(k:Int)] else []).map D.int from λz=>by cases z<;>simp];rfl),?_);cases c : (not<|decide ((k:Int)∈fd))&&(x&&y) with
 |true=>rw[ax,ax]at c;exact .inr (W,by simpa using c.1,h.mpr c.2)
 |false=>
  refine .inl (ż,?_);by_cases z:(k:Int)∈fd
  .exact .inl z
  .refine .inr λg =>?_
   have:=h.mp g;simp[z,this]at c
theorem RW{b:Bool}{s:↑aP}{w:Wi}(v:s≠Y (af "*"))(H:HE ns FH w)(A:ns.length<=1000){s1 s2 s5:↑D}:∀(l:!Int) (i:!Int) (t:↑D),(∀z∈l,VP ns z)->i.Nodup->(∀z∈i,VP ns z)->∃(f:!Int) (r:↑D),gB (gN 6) (rj FH FA) (l.map D.int) (eA ns s1 s2 (OD b s w) i s5 t)=Y (.nx<|eA ns s1 s2 (OD b s w) f s5 r)/\f.Nodup/\(∀z∈f,VP ns z)/\∀z,z∈f↔z∈i\/(z∈l/\Sx ns s w z)
 |[],i,t,_,h,g=>(i,t,W,h,g,ż)
 | z::l,i,t,x,h,g=>by
  let(k,n,rfl,e):=x z az;let(j,E,d):=VE (b:=b) v H e (fd:=i) (by have:=Qg h g;omega);have u:j.Nodup/\(∀z∈j,VP ns z)/\∀y,y∈j↔y∈i\/(y=(k:Int)/\Sx ns s w k):=by
   obtain⟨rfl,q⟩|⟨rfl,q,o⟩:=d
   .exact(h,g,λy=>(.inl,λy=>y.elim id λ(a,o)=>a ▸ q.resolve_right (· o)))
   .exact(bM.mpr (h,ż,λa m c p=>by cases bP.mp p;exact λe=>q<|e ▸ m),λy m=>(aD.mp m).elim (g y) λm=>by cases bP.mp m;exact(k,n,W,e),λy=>by rw[aD,bP];exact or_congr e_ (and_iff_left o).symm)
  let(f,r,C,a,I,c):=RW v H A l j _ (λz p=>x z<|ay _ p) u.1 u.2.1;refine(f,r,?_,a,I,λy =>?_)
  .rw[bg,K21.hI W E];exact C
  rw[c,u.2.2,aG,or_assoc,or_and_right];exact or_congr e_<|or_congr (λ(e,o)=>(e,e ▸ o),λ(e,o)=>(e,e ▸ o)) e_
theorem LD(T:TW ns){b:Bool}{nm:↑aP}{w:Wi}(hn:nm≠Y (af "*"))(H:HE ns FH w)(sm:ns.length<=1000){s1 s2:↑D}:∀(S:!Int) (fd:!Int) (s5 s6:↑D),(∀z∈S,z = -1\/VP ns z)->fd.Nodup->(∀z∈fd,VP ns z)->∃(fd':!Int) (s5' s6':↑D),gB (gN 5) (ri FH FA) (S.map D.int) (eA ns s1 s2 (OD b nm w) fd s5 s6)=Y (.nx<|eA ns s1 s2 (OD b nm w) fd' s5' s6')/\fd'.Nodup/\(∀z∈fd',VP ns z)/\∀z,z∈fd'↔z∈fd\/∃a∈S,Wn ns b a z/\Sx ns nm w z
 |[],fd,s5,s6,_,h,g=>(fd,s5,s6,W,h,g,ż)
 | a::S,fd,s5,s6,hS,h,g=>by
  refine ae λkk =>?_
  let(r,er,rn,rm):=aav T sm (hS a az) b;let(fd1,s6',e1,a1,a2,a3):=RW (FA:=FA) (b:=b) (s1:=s1) (s2:=s2) (s5:=Y<|.int a) hn H sm r fd s6 (λz hz=>by let(i,n,q,en,_):=(rm z).mp hz;exact(i,n,q,en)) h g;have e0:ri FH FA (eA ns s1 s2 (OD b nm w) fd (Y<|.int a) s6)=Y (.nx<|eA ns s1 s2 (OD b nm w) fd1 (Y<|.int a) s6'):=(hJ<|ae9<|gW<|YX W er).trans e1;let(fd',s5',aey,e2,b1,b2,b3):=LD T hn H sm S fd1 (Y<|.int a) s6' (λz hz=>hS z<|ay _ hz) a1 a2;refine kk<|(fd',s5',aey,?_,b1,b2,λz =>?_)
  .rw[bg,K21.hI W e0];exact e2
  .rw[b3,a3,or_assoc];refine or_congr e_ ?_;simp only[aG,exists_eq_or_imp];rw[rm]
theorem LC(T:TW ns)(A:ns.length<=1000):∀(s:Ss) (S:!Int) (s2 u m i f:↑D),EB s->(∀p t,jq s p=Y t->HE ns FH t.2.2)->S.Nodup->(∀z∈S,z = -1\/VP ns z)->∃(n:!Int) (l k d c:↑D),gB (gN 3) (rh FH FA) (gS s) [Y<|r_ ns,Y<|.lst<|S.map D.int,s2,u,m,i,f]=Y (.nx [Y<|r_ ns,Y<|.lst<|n.map D.int,s2,l,k,d,c])/\n.Nodup/\(∀z∈n,z = -1\/VP ns z)/\∀z,z∈n↔Fw ns (· ∈ S) s z
 |.nil,S,s2,u,m,i,f,_,_,h,g=>(S,u,m,i,f,W,h,g,λz=>e_)
 | .cons b j w r,S,s2,u,m,i,f,B,H,h,g=>by
  let(v,d,c,y,L,K,J):=LD (FA:=FA) (b:=b) (s2:=s2) T B.1 (H 0 _ W) A S [] i f g NR (λz x=>by cases x);have E:rh FH FA [Y<|r_ ns,Y<|.lst<|S.map D.int,s2,Y<|OD b j w,m,i,f]=Y (.nx [Y<|r_ ns,Y<|.lst<|v.map D.int,s2,Y<|OD b j w,M,d,c]):=sq (ρ':=eA ns _ s2 (OD b j w) [] i f) W (sq ((hJ W).trans y) W);refine ae λkk =>?_
  let(n,l,k,q,o,C,I,G,F):=LC T A r v s2 _ M d c B.2.2 (λp t e=>H (p+1) t e) L λz x =>.inr<|K z x
  refine kk<|(n,l,k,q,o,?_,I,G,λz =>?_)
  .rw[gS,K21.hI W E];exact C
  .rw[F,Fw]
   simp_all
def RU(T:TW ns)(E:ns.length<=60){s:Ss}{S:!Int}(w:EB s)(H:∀p t,jq s p=Y t->HE ns FH t.2.2)(h:S.Nodup)(g:∀z∈S,z = -1\/VP ns z)(F:S.length<64):∃r:!Int,ou 3 7 (Cn FH FA) [r_ ns,.lst<|S.map D.int,.lst<|gS s]=Y (r.map D.int)/\r.length<64/\(∀z,z∈r↔Fw ns (· ∈ S) s z)/\r.Pairwise (· <= ·)/\r.Nodup:=by
 let(a,j,i,f,d,e,b,C,B):=LC (FA:=FA) T Ž s S _ M M M M w H h g;have l:a.length<64:=by
  have:(a.filter (· ≠ -1)).length<=ns.length:=Qg (b.filter _) λz u=>by grind
  have:=by
   let A:∀l:!Int,l.Nodup->l.length<=(l.filter (· ≠ -1)).length+1:=λl=>by
    induction l with
    |nil=>solve_by_elim|cons x l ih=>
     intro k;by_cases c:x = -1
     .subst c;have:l.filter (· ≠ -1)=l:=List.filter_eq_self.mpr λy v=>by grind
      grind
     simp_all
   exact A a b
  lia
 refine(EJ a,?_,by rw[(jK _).length_eq];exact l,λz=>by rw[(jK _).mem_iff,B],tp _,(jK _).nodup_iff.mpr b);exact bq (sq ((hJ W).trans e)<|B7<|yV W l) W
end
def hq{x:String}{r:!D}{f d a:↑D}(y:String):dG (e2 hU (e2 cw (eV 2) f8)<|eK<|kS y) [f,d,Y<|.tup<|kS x::r,a]=Y (af x==af y):=Ml<|show qa (kS x::r) ((0:Nat):Int)=_ from dX W
theorem Dl:∀(l:!Int) (n:Nat),ip (l.map D.int) n=Z'
 |[],n=>by solve_by_elim
 |x::l,n=>by rw[bg,ip,Dl l n];rfl
def Si(l:!Int):Ba (.lst<|l.map D.int) (.lst [])=Y (.bl<|not l.isEmpty):=by
 unfold Ba;rw[if_pos<|by rw[iX,Dl];rfl];cases l<;>rfl
section
variable {ns:!Nd}
mutual
theorem Af(T:TW ns)(p:ns.length<=60):∀(w:Wi) (m:Nat),j6 w<=m->lI w<=900->NmW w->HE ns (iH m) w
 |w,0,h,_,_=>by cases w<;>simp[j6]at h
 |.any,m+1,_,_,_=>λk n e=>(Z',Ÿ,by simp[nN])
 | .txt t,m+1,_,_,_=>λk n e=>by
  let(b,i,J):=VR (t:=t) (T.tx k n e);refine(b,bq (mu (hq _)<|ly (hq _)<|(cp W<|(cp ((cp W W).trans<|zD e) W).trans W).trans i) W,J.trans ?_);rw[nN,ue T e];constructor
  .exact λh =>.inl (t,W,h)
  .rintro(⟨s,z,h⟩|⟨j,c,_,_,z⟩)
   .cases z;exact h
   .cases z
 | .has s,m+1,h,z,g=>λk n e=>by
  rw[j6]at h;rw[lI]at z;let K:=D_ s;obtain⟨f,rfl⟩:∃f,m=f+1:=(m-1,Ž);let g:EB s:=g;let(r,C,_,I):=RU (FA:=iI f) T p g (DE T p s f Ž Ž g) (S:=[(k:Int)]) ż (λy u =>.inr (k,n,by simpa using u,e)) ż;refine((not r.isEmpty),bq (mu (hq _)<|mu (hq _)<|ly (hq _)<|(cp (gW<|YX W C) W).trans<|Si r) W,?_);let A:=KU T s (· ∈ [(k:Int)]) λy u=>(k,n,by simpa using u,e)
  rw[nN];let B:(not r.isEmpty)=Z'↔∃y,y∈r:=by
   cases r with
   |nil=>simp|cons a b=>exact(λ_=>(a,Ÿ),λ_=>rfl)
  rw[B];simp only[I];rw[A];constructor
  .rintro⟨a,E,l⟩;simp at E;subst E;rw[bG]at l;exact l
  .exact λl=>(k,Ÿ,by rw[bG];exact l)
 |.both w,m+1,h,z,g=>λk n e=>by rw[j6]at h;rw[lI]at z;let(o,i,x,v):=DH T p w m Ž Ž g k n e;exact(o.all id,bq (mu (hq _)<|mu (hq _)<|mu (hq _)<|mr (gW<|kA W (by have:=qo w;lia) i) (ly (hq _)<|(cp W W).trans<|WD.trans<|by clear i x v;induction o with|nil=>rfl|cons a b ih=>cases a<;>trivial)) W,x)
 |.one w,m+1,h,z,g=>λk n e=>by rw[j6]at h;rw[lI]at z;let(o,i,x,v):=DH T p w m Ž Ž g k n e;exact(o.any id,bq (mu (hq _)<|mu (hq _)<|mu (hq _)<|mr (gW<|kA W (by have:=qo w;lia) i) (mu (hq _) W)) (wb<|(cp W W).trans<|WD.trans<|by simp;rfl),v)
theorem DH(T:TW ns)(c:ns.length<=60):∀(w:Ws) (m:Nat),BG w<=m->vX w<=900->NmA w->∀(k:Nat) (n:Nd),ns[k]?=Y n->∃a:!Bool,rN [M,Y<|r_ ns,Y<|.int (k:Int)] (gN 0) gR (be (iH m)<|aC (eV 1)<|aC (eV 2) Db) (vK w)=Y (a.map λy =>.bl y)/\(a.all id=Z'↔xw w (Bb ns k))/\(a.any id=Z'↔xu w (Bb ns k))
 |.nil,m,_,_,_,k,n,e=>([],W,by simp[xw],by simp[xu])
 |.cons w r,m,h,z,d,k,n,e=>by rw[BG]at h;rw[vX]at z;let(b,l,f):=Af T c w m ŷ Ž d.1 k n e;let(a,j,i,g):=DH T c r m ŷ Ž d.2 k n e;exact(b::a,rM W l j,by rw[gZ,ax,i,xw];exact and_congr f e_,by rw[nG,bx,g,xu];exact or_congr f e_)
theorem DE(T:TW ns)(c:ns.length<=60):∀(s:Ss) (m:Nat),oO s<=m+1->pT s<=900->EB s->∀p t,jq s p=Y t->HE ns (iH m) t.2.2
 |.nil,m,_,_,_,p,t,e=>by cases e
 |.cons b d w r,m,h,z,a,0,t,e=>by rw[oO]at h;rw[pT]at z;cases e;exact Af T c w m ŷ Ž a.2.1
 |.cons b d w r,m,h,z,a,p+1,t,e=>by rw[oO]at h;rw[pT]at z;exact DE T c r m ŷ Ž a.2.2 p t e
end
theorem WL{F:Nat->Nat->Prop}(T:TW ns)(v:∀(k:Nat) n p,ns[k]?=Y n->(F k p↔∃t,jq a p=Y t/\iD t.2.1 n.nm/\nN t.2.2 (Bb ns k)))(u:∀p t,jq a p=Y t->(tz c p=Z'↔t.1=Z')):∀(s:Ss) (p:Nat),(∀j,jq s j=jq a (p+j))->∀z,Fw ns (Rc ns c F p) s z↔Rc ns c F (p+cj s) z
 |.nil,p,_,z=>by trivial
 | .cons b q w r,p,h,z=>by
  have o:=by have:=h 0;simpa [jq] using this.symm
  let D:(λz=>∃y,Rc ns c F p y/\Wn ns b y z/\Sx ns q w z)=Rc ns c F (p+1):=by
   funext z
   refine propext ?_;rw[Rc];constructor
   .rintro⟨y,l,⟨i,n,rfl,e,d⟩,m,x,g,hw⟩;rw[bG]at x hw;rw[e]at x;cases x;refine(i,n,W,e,(v i n p e).mpr (_,o,g,hw),?_);obtain d|⟨d,A⟩:=d
    .exact .inl (by rw[d];exact l)
    .exact .inr ((u p _ o).mpr d,y,A,l)
   .rintro⟨i,n,rfl,e,f,d⟩;let(t,C,g,hw):=(v i n p e).mp f;rw[o]at C;cases C;have B:Sx ns q w (i:Int):=(n,by rw[bG];exact e,g,by rw[bG];exact hw);obtain d|⟨d,y,A,l⟩:=d
    .exact(n.par,d,(i,n,W,e,.inl W),B)
    .exact(y,l,(i,n,W,e,.inr ((u p _ o).mp d,A)),B)
  rw[Fw,D,WL T v u r (p+1) (λj=>by have:=h<|j+1;grind [jq]),cj]
  lia
def JE(T:TW ns)(d:ns.length<=60)(f:EB a)(q:oO a<=11)(c:pT a<=900)(l:∀p t,jq a p=Y t->(tz b p=Z'↔t.1=Z')):∃r:!Int,wZ [r_ ns,.lst [.int<|-1],.lst<|gS a]=Y (r.map D.int)/\r.length<64/\(∀z,z∈r↔Rc ns b (Fk a ns) (cj a) z)/\r.Pairwise (· <= ·)/\r.Nodup:=by
 let(r,o,h,i,k1,k2):=RU T d f (DE T d a 11 ž c f) (S:=[-1]) (by trivial) (λz c =>.inl Ż) (by trivial);refine(r,o,h,λz =>?_,k1,k2);rw[<- jZ (cj a),<- WL T _ l a 0 λj=>by rw[jZ]]
 .simp_all [Rc,Fk]
 simp_all [Fk]
end
theorem Be(c:!aP)(q:c.length=5):∀(n:Nat),
  (∀(a:Nat) (e:!Int),2*n+1<=a->∃(w:Wi) (b:!Int),eD a (qA e c (n:Int))=Y (rH w,b.map D.int)/\WB n w) /\
  (∀(a:Nat) (e:!Int),2*n+2<=a->∃(d:!Tp) (b:!Int),e6 a (qA e c (n:Int))=Y (.lst<|d.map lh,b.map D.int)/\1<=d.length/\d.length<=3/\∀p∈d,TB n p):=by
 intro n;have i:∀(k:Nat),(∀(a:Nat) (e:!Int),2*k+1<=a->∃(w:Wi) (b:!Int),eD a (qA e c (k:Int))=Y (rH w,b.map D.int)/\WB k w)->(∀(a:Nat) (e:!Int),2*k+2<=a->∃(d:!Tp) (b:!Int),e6 a (qA e c (k:Int))=Y (.lst<|d.map lh,b.map D.int)/\1<=d.length/\d.length<=3/\∀p∈d,TB k p):=by
  intro k r a e l;cases a with
  |zero=>trivial|succ f=>rw[e6];let(d,b,h1,h2,h3,h4,_):=yJ (eD f) (e6 f) k (k:Int) c q (λg=>r f g Ż) e;exact(d,b,h1,h2,h3,h4)
 induction n with
 |zero=>
  have j:∀(a:Nat) (e:!Int),2*0+1<=a->∃(w:Wi) (b:!Int),eD a (qA e c ((0:Nat):Int))=Y (rH w,b.map D.int)/\WB 0 w:=by
   intro a e l;cases a with
   |zero=>trivial|succ f=>rw[eD];exact BQ (eD f) (e6 f) 0 _ W c (λm h=>by cases h) (λm h=>by cases h) e
  exact Ÿ
 |succ m ih=>
  have j:∀(a:Nat) (e:!Int),2*(m+1)+1<=a->∃(w:Wi) (b:!Int),eD a (qA e c ((m+1:Nat):Int))=Y (rH w,b.map D.int)/\WB (m+1) w:=by
   intro a e l;cases a with
   |zero=>trivial|succ f=>
    rw[eD];have o:((m+1:Nat):Int)-1=(m:Int):=ż
    refine BQ (eD f) (e6 f) (m+1) _ W c (λk h =>?_) (λk h =>?_) e
    .cases h;rw[o];exact λg=>ih.2 f g Ž
    .cases h;rw[o];exact λg=>ih.1 f g Ž
  exact Ÿ
def FF(c:!Int)(f:c.length<=63)(b:!aP)(g:b.length=5):∃(e:!Int) (a:!Tp),f9 [.kG c,.int 100,.int 12]=Y (e.map D.int)/\oU [.lst<|e.map D.int,.int 3,.lst<|b.map D.str]=Y (a.map lh)/\1<=a.length/\a.length<=3/\∀p∈a,TB 3 p:=by
 let(e,k,_):=vu c f 100 12 ſ ſ ſ ſ;let(a,d,_,j,i,h,l):=yJ (eD 11) (e6 11) 3 3 b g (λxs=>(Be b g 3).1 11 xs ſ) e;exact(e,a,k,l,j,i,h)
def RO(c:!Int)(f:c.length<=63)(b:!aP)(g:b.length=5):∃a:!Tp,pL [.kG c,.lst<|b.map D.str]=Y (a.map lh)/\1<=a.length/\a.length<=5/\∀p∈a,TB 3 p:=by
 let(e,l,e1,e2,h1,h3,hl):=FF c f b g;let(xs,e3,_):=vu c f 1200 5 ſ ſ ſ ſ;let(a,e4,k1,k2,k3):=MP b g l h3 xs hl;refine(a,?_,ž,k2,k3);have q1:fG oU (SF ci<|aC lc na) [Y<|.kG c,Y<|.lst<|b.map D.str]=Y (l.map lh):=by show ((f9 [.kG c,.int 100,.int 12]).bind λd=>Y<|D.lst d::[.int 3,.lst<|b.map D.str]).bind oU=_;rw[e1];exact e2
 have q2:SF Ch na [Y<|.kG c,Y<|.lst<|b.map D.str]=Y [.lst<|xs.map D.int,.lst<|b.map D.str]:=by show ((f9 [.kG c,.int 1200,.int 5]).bind λd=>Y<|D.lst d::[.lst<|b.map D.str])=_;rw[e3];rfl
 show (DQ [Y<|.kG c,Y<|.lst<|b.map D.str]).bind MB=_;have q3:fG oW NE [Y<|.kG c,Y<|.lst<|b.map D.str]=Y (a.map lh):=by refine f7 (congrArg (λz=>ZE z oW)<|show SF _ _ _=Y [.lst<|l.map lh,.lst<|xs.map D.int,.lst<|b.map D.str] from ?_) e4;refine f7 (congrArg (λz=>ZE z _) q1) ?_;exact congrArg (λz=>BM _ z) q2
 unfold DQ mx;rw[q3];rfl
end K21
namespace K21
open PySem L2
theorem D1{ρ:bL}(h:∀g:me,dG (e2 hU (e2 cw (eV 0) f8)<|eK<|.str k) [Y<|i7 g]=Y (p g)):∀a:!me,rN [M] (gN 0) (dG<|e2 hU (e2 cw (eV 0) f8)<|eK<|.str k) (eV 0) (a.map i7)=Y ((a.filter p).map i7)
 |[]=>rfl| g::a=>by
  rw[bg,rN];let c:gN 0 (i7 g) [M]=Y [Y _]:=rfl;let b:eV 0 [Y _]=Y (i7 g):=rfl;rw[c];simp only[aw,h g,b,D1 (ρ:=ρ) h a]
  grind
theorem rP:∀(a:!me) (d:Nat) (b:Bool) (f:Nat) (i:Bool),pb a (d,b)=Y (f,i)->(d:Int)+(a.filter Bw).length-(a.filter Gr).length=f
 |[],d,b,f,i,h=>by cases h;trivial
 | g::a,d,b,f,i,h=>by
  rw[pb]at h;cases g with
  |op n=>
   by_cases c:0<d\/b=Z_
   .let e:eR (d,b) (.op n)=Y (d+1,Z'):=by show (if _ then _ else _)=_;rw[if_pos c]
    rw[e]at h;have:=rP a _ _ f i h;simp only[HB,Bw,Gr,bQ]
    lia
   simp_all [eR,if_neg]
  |tx n=>
   by_cases c:0<d
   .let e:eR (d,b) (.tx n)=Y (d,b):=by show (if _ then _ else _)=_;rw[if_pos c]
    rw[e]at h;have:=rP a d b f i h
    exact Ÿ
   simp_all [eR,if_neg]
  |cl=>
   by_cases c:0<d
   .let e:eR (d,b) .cl=Y (d-1,b):=by show (if _ then _ else _)=_;rw[if_pos c]
    rw[e]at h;have:=rP a _ b f i h;simp only[HB,Bw,Gr,bQ]
    grind
   simp_all [eR,cl,if_neg]
def Rx(n:a.length<=1000)(h:pb a (0,Z_)=Y (d,b)):yw [.lst<|a.map i7]=Y (.int (d:Nat)):=by
 show (DN [Y _]).bind _=_;let m:lU (iL<|eV 0) [M] (gN 0) im (eV 0) [Y<|.lst<|a.map i7]=Y ((a.filter Bw).map i7):=by unfold lU;show (if (a.map i7).length<=dQ then rN [M] (gN 0) _ (eV 0) (a.map i7) else M)=_;rw[if_pos<|iW<|fw<|by rw[ar];lia];exact D1 (ρ:=[]) (λg=>by cases g<;>kernel_rfl) a
 let l:lU (iL<|eV 0) [M] (gN 0) (dG<|e2 hU (e2 cw (eV 0) f8) Re) (eV 0) [Y<|.lst<|a.map i7]=Y ((a.filter Gr).map i7):=by unfold lU;show (if (a.map i7).length<=dQ then rN [M] (gN 0) _ (eV 0) (a.map i7) else M)=_;rw[if_pos<|iW<|fw<|by rw[ar];lia];exact D1 (ρ:=[]) (λg=>by cases g<;>kernel_rfl) a
 let k:be iC wv [Y<|.lst<|a.map i7]=Y (.int ((a.filter Bw).length:Nat)):=by rw[um m];show Y (D.int (((a.filter Bw).map i7).length:Nat))=_;rw[ar]
 let j:be iC (aC pp aN) [Y<|.lst<|a.map i7]=Y (.int ((a.filter Gr).length:Nat)):=by rw[um l];show Y (D.int (((a.filter Gr).map i7).length:Nat))=_;rw[ar]
 unfold DN fc;rw[show ∀(f g:DF) c,L2.e2 px f g c=(f c).bind λx=>(g c).bind λy=>px x y from λe e e=>rfl,k,j];have:=rP a 0 Z_ d b h;show Y (D.int (((a.filter Bw).length:Nat)-((a.filter Gr).length:Nat):Int))=_
 simp_all
end K21
namespace K21
open PySem L2 K30
inductive TR:!me->!Nd->!Nat->!Nd->!Nat->Prop
 |nil {us st}:TR [] us st us st
 |cons {s gs us st u v ns sv}:Ts us st s u v->TR gs u v ns sv->TR (s::gs) us st ns sv
def TR.app{a:!me}{f:!Nd}{v:!Nat}(h:TR a c e u v)(g:TR b u v f d):TR (a++b) c e f d:=by
 induction h with|nil=>exact g|cons t _ ih=>exact .cons t<|ih g
def TR.len{c:!me}{a b:!Nd}{e:!Nat}(h:TR c a e b d):b.length=a.length+(c.filter Bw).length:=by
 induction h with|nil=>rfl|cons t _ ih=>cases t<;>simp_all [Bw,uB]<;>lia
def Ya{a b:!Nd}{d c:!Nat}{s:me}(O:vA a d)(t:Ts a d s b c):xj (a,K21.Ck d) (i7 s)=Y (b,K21.Ck c):=by
 cases t with
 |@Wq x=>kernel_rfl|@op k n d x e=>
  let f:=se e;let A:xj (a,k) (.tup [.str L2.uP,.str x])=if 0<=k then match (a++[xk x k])[(k:Int).toNat]? with|some n=>Y (gJ ((a++[xk x k]).set _ _) (a.length:Int))|none=>M else Y (a++[xk x k],a.length):=by solve_by_elim
  refine f7 A ?_;rw[bG,aI f,e];show Y _=_;rw[List.set_append_left _ _ f]
  exact Ÿ
 |@tx k n d x e=>
  let A:xj (a,k) (.tup [.str L2.uN,.str x])=if 0<=k then (match a[(k:Int).toNat]? with|some n=>Y _|none=>M) else none:=by solve_by_elim
  refine f7 A ?_;rw[bG,e];rfl
 |@cl k=>obtain⟨⟨n,e,p⟩,_⟩:=O;show (if af "close" = L2.o_ then if 0<=k then a[(k:Int).toNat]?.map _ else M else M)=_;rw[bG,e,<- p];rfl
def TR.run{e:!me}{a:!Nd}(h:TR e a c d b):vA a c->Bp (e.map i7) (a,K21.Ck c)=Y (d,K21.Ck b)/\vA d b:=by
 induction h with
 |nil=>trivial|cons t _ ih=>intro O;rw[bg,Bp,Ya O t];exact ih<|t.XU O
def aaz{f:!Nd}{a:!Nat}{s:me}(O:vA f a)(h:eR (a.length,b) s=Y (g,i)):∃d c,Ts f a s d c/\c.length=g:=by
 cases s with
 |op x=>
  simp only[eR]at h;split at h<;>cases h
  cases a with
  |nil=>exact(_,_,.Wq,W)|cons k a=>obtain⟨⟨n,e,_⟩,_⟩:=O;exact(_,_,.op e,W)
 |tx x=>
  simp only[eR]at h;split at h<;>cases h
  cases a with
  |nil=>simp at *|cons k a=>obtain⟨⟨n,e,_⟩,_⟩:=O;exact(_,_,.tx e,W)
 |cl=>
  simp only[eR]at h;split at h<;>cases h
  cases a with|nil=>simp at *|cons k a=>exact(_,_,.cl,W)
theorem Gx{lift:Int->Int->Int}{stp txt:aP->Int}{AW:Nat->Int}{us:!Nd}{st:!Nat}{rows:!cy}(H:WH lift stp txt us AW)(h:R0 lift stp txt AW us st rows)(l:L3 lift rows)(O:vA us st)(nd:(rows.map (·.number)).Nodup):∀(d i:Nat) (r:cy) (k:Nat),rows.length=i+d->rows[i]?=Y r->r.number=k->Le (AW k) r.atoms
 |0,i,r,k,e,g,_=>by have:=se g;simp_all
 | d+1,0,r,k,e,g,w=>by
  have:=cI h.num g;rw[w]at this;have:(-1:Int)=k:=by simpa [jB] using this
  trivial
 | d+1,i+1,r,k,e,g,w=>by
  have rm:=bp g;have l0:i<rows.length:=Ž
  let(k',n,c,f,_):=pw O i _ _ (cI h.num<|ai l0)<|cI h.num g;have z:k'=k:=Ž
  subst z;refine H.a3 k' n _ f (λt s=>h.l1 r rm k' n w f t s) λj m hj em =>?_
  by_cases z:j∈st
  .have jm:(j:Int)∈jB st:=ay _<|bS.mpr (j,Ho.mpr z,W);let(i1,hi):=jc.mp jm;cases i1 with
   |zero=>
    have:(-1:Int)=j:=by simpa [jB] using hi
    trivial
   |succ i1=>
    have l1:i1<(jB st).length:=by have:=se hi;lia
    have ei:=ai l1;let(j',n',e1,e2,e3):=pw O i1 _ _ ei hi;have y:j'=j:=Ž
    subst y;rw[em]at e2;cases e2;let(i2,m2,q1,q2,q3,q4):=H.tw.EK k' n f j' hj;have y:j'=i2:=Ž
    subst y;rw[em]at q3;cases q3;rw[<- e3,q4,<- w,<- cI h.num g]at ei;have y:i1=i+1:=(l4 l1<|h.num ▸ nd).mp ei;subst y;have l2:i+1+1<rows.length:=by have:=se hi;rw[<- h.num,ar]at this;exact this
    have er:=ai l2;have en:=cI h.num er;rw[hi]at en;have en:=(bE en).symm;have:=Gx H h l O nd d (i+1+1) _ j' Ž er en;rw[<- h.PY _ (bp er) j' m en em];exact sJ (H.mono _ _ _ this)<|l (i+1) r _ g er
  .exact h.l2 r rm k' n w f j m hj z em
section
variable {a:Ss}{f:vC}{able:Int}{fit lift:Int->Int->Int}{stp txt:aP->Int}{F:Fa}
structure SV(a:Ss)(f:vC)(able:Int)(fit lift:Int->Int->Int)(stp txt:aP->Int)(F:Fa)(d:Nat)(b:Bool)(us:!Nd)(st:!Nat)(c:jb)(T:!Int)(n:Nat):Prop where
 si:SI f able fit c T.length d b
 ex:EX fit f.inner able c.rows
 tk:c.taken=n
 tw:TW us
 op:vA us st
 dl:st.length=d
 on:c.opened=us.length
 al:∀ns sv,TW ns->Fut us st ns sv->ST f able fit lift stp txt ns (AWn F ns) (Fo a ns sv) us st c T
def SV.here(V:SV a f able fit lift stp txt F d b us st c T n):ST f able fit lift stp txt us (AWn F us) (Fk a us) us st c T:=Q3 ▸ V.al us [] V.tw (.refl _,λe e e=>(W,ż))
def SV.reach(Da:FW f able fit lift stp txt)(X:FX a f.inner able fit lift stp txt F)(V:SV a f able fit lift stp txt F d b us st c T n)(i:Nat)(r:cy)(e:c.rows[i]?=Y r)(p:Nat):Rc us f.inner (Fk a us) p r.number↔tz r.aJ p=true:=by
 have Z:=V.here;have R:RV fit stp us _ _ _ []:=Q3 ▸ OX Da X [];let(_,A,B):=nL V.ex.goR Z.r0.num V.op (.refl us) i r e;refine(B (λi r k p e w t =>?_) p,A (λi r k p e w t =>?_) p)
 .let(k',_,w',_,_,_,s):=Z.r0.fq R V.ex V.op (.refl us) e;have z:k'=k:=Ž
  subst z;exact s ż (Gx (V6 X V.tw) Z.r0 Z.l3 V.op (bM.mp V.si.nd).2.1 (c.rows.length-(i+1)) _ r k' ŷ e w) p t
 .let(k',_,w',_,_,s,_):=Z.r0.fq R V.ex V.op (.refl us) e;have z:k'=k:=Ž
  subst z;exact s p t
def SV.rest(Da:FW f able fit lift stp txt)(X:FX a f.inner able fit lift stp txt F)(V:SV a f able fit lift stp txt F d b us st c T n)(y:nX)(h:y∈c.rests):¬Rc us f.inner (Fk a us) f.q.length y.num:=by
 have Z:=V.here;let(l,r):=Z.tj.rs y h;intro q;have ln:c.rows.length=(jB st).length:=by rw[<- Z.r0.num,ar]
 have eo:=ai (l:=c.rows) (i:=y.place.toNat) Ż;let(n1,n2):=Z.tj.nh y h _ eo;obtain⟨p,z,a1,a2,a3⟩|⟨p,j,z,a1,a2,a3,a4⟩:=r.mp q
 .rw[cI Z.r0.num eo]at a2;cases a2;have:=(V.reach Da X _ _ eo p).mp a3
  simp_all
 .have ej:=ai (l:=c.rows) (i:=j) Ž;rw[cI Z.r0.num ej]at a3;cases a3;have:=((nL (F:=Fk a us) V.ex.goR Z.r0.num V.op (.refl us) _ _ eo).1 p).mpr (j,_,a2,ej,((V.reach Da X _ _ ej p).mp a4))
  simp_all
def we{ns:!Nd}{inner:Int}{G:Nat->Nat->Prop}{p:Nat}{z:Int}(h:Rc ns inner G p z)(l:1<=p):∃k:Nat,z=k/\k<ns.length:=by
 obtain⟨q,rfl⟩:∃q,p=q+1:=(p-1,Ż);let(k,n,e,g,_):=h;exact(k,e,se g)
def SV.xF(Da:FW f able fit lift stp txt)(X:FX a f.inner able fit lift stp txt F)(l:1<=f.q.length)(V:SV a f able fit lift stp txt F d b us st c T n)(x:Int):x∈T↔Rc us f.inner (Fk a us) f.q.length x:=by
 have Z:=V.here;refine(Z.tj.t1 x,λh =>?_);let(k,w,lk):=we h l;subst w;obtain g|g|⟨y,p,e⟩:=Z.tj.t3 k (by rw[V.on];simp_all) h
 .rw[<- Z.r0.num]at g;let(r,m,e):=bS.mp g;let(i,er):=jc.mp m;rw[<- e]at h ⊢;exact Z.tj.t2 r m<|(V.reach Da X i r er _).mp h
 .exact g
 .rw[<- e]at h;exact absurd h<|V.rest Da X y p
def SV.wait(Da:FW f able fit lift stp txt)(X:FX a f.inner able fit lift stp txt F)(l:1<=f.q.length)(V:SV a f able fit lift stp txt F d b us st c T n)(x:Int):x∈xC c↔Rc us f.inner (Fo a us st) f.q.length x/\x∉T:=by
 have Z:=V.al us st V.tw (.refl _,λs s v=>(W,v));have ln:c.rows.length=(jB st).length:=by rw[<- Z.r0.num,ar]
 have R:=OX (ns:=us) Da X st;have hp:∀(i:Nat) r,c.rows[i]?=Y r->(∀p,tz r.ha p=Z'↔∃(j:Nat) (o:cy),j<=i/\c.rows[j]?=Y o/\tz o.dy p=Z')/\∀p,tz r.dy p=Z'->Rc us f.inner (Fo a us st) p r.number:=λi r e=>by
  let(A,B,_):=nL (F:=Fo a us st) V.ex.goH Z.r0.num V.op (.refl us) i r e;refine(A,B λi r k p e w t =>?_);rw[c5,ax]at t;let(k',n,w',en,y,_):=Z.r0.fq R V.ex V.op (.refl us) e;have z:k'=k:=Ž
  subst z;let(t1,t2,t3):=(X.abl p).mp t.2;rw[y,X.stp,X.PY _ p t1 t2]at t;refine(n,t1,en,t2,t.1,?_);have m:(k':Int)∈jB st:=by rw[<- w,<- Z.r0.num];exact ig<|bp e
  rw[if_pos]
  .exact t3
  .obtain m|m:=aG.mp m
   .trivial
   .let(j,g,w):=bS.mp m;have w:(j:Int)=k':=w;have:j=k':=by lia
    subst this;exact Ho.mp g
 constructor
 .intro h;obtain h|h:=aD.mp h
  .let(y,m,w):=bS.mp h;rw[<- w];refine(?_,λz=>V.rest Da X y m<|(V.xF Da X l _).mp z);let(l,r):=Z.tj.rs y m;let(v,u):=Z.tj.lv y m;have eo:=ai (l:=c.rows) (i:=y.place.toNat) (by rw[ln];exact l);let(u1,u2):=u _ eo;refine r.mpr ?_;unfold ng at v;rw[bx,bne_iff_ne,bne_iff_ne,EV,EV]at v;obtain⟨p,v⟩|⟨p,v⟩:=v
   .exact .inl (p,_,v,cI Z.r0.num eo,(hp _ _ eo).2 p<|u1 p v)
   .let(j,o,g,ej,t):=((hp _ _ eo).1 p).mp<|u2 p v;exact .inr (p,j,_,v,g,cI Z.r0.num ej,(hp _ _ ej).2 p t)
  .let(r,m,w):=bS.mp h;let(m,t):=bV.mp m;let(i,er):=jc.mp m;unfold V4 at t;rw[V.si.fu,mh,c5,nH,ax]at t;rw[<- w];refine((hp i r er).2 _ t.1,λz =>?_);have:=(V.reach Da X i r er _).mp ((V.xF Da X l _).mp z)
   simp_all
 .rintro⟨h,g⟩;let(k,w,lk):=we h l;subst w;obtain q|q|⟨y,p,e⟩:=Z.tj.t3 k (by rw[V.on];simp_all) h
  .rw[<- Z.r0.num]at q;let(r,m,e):=bS.mp q;let(i,er):=jc.mp m;refine aE _<|bS.mpr (r,bV.mpr (m,?_),e);unfold V4;rw[V.si.fu,mh,c5,nH,(KE R Z.r0 V.ex V.op (.refl us) i r er).1 _<|by simp_all];cases z:tz r.aJ f.q.length with
   |false=>rfl|true=>exact absurd (by rw[<- e];exact Z.tj.t2 r m z) g
  .trivial
  .exact aS _<|bS.mpr (y,p,e)
theorem zw{x y:Int}:∀ {g:!cy}{t:cy},(nK x y t g).Sublist (g.map (·.number))
 |[],_ =>.slnil| r::g,t=>by
  rw[nK];split
  .exact zw.cons₂ _
  .exact zw.cons _
theorem F7{z:Int}{m:Nat}:∀ {g:!cy}{t:cy},x∈nK z (2 ^ m) t g->∃r∈g,r.number=x/\tz r.aJ m=Z_
 |[],_,h=>(iw h).elim| r::g,t,h=>by
  obtain h|h:=aD.mp h
  .split at h
   .simp_all [mh,c5,nH,ax,az]
   .cases h
  .let(d,b,w):=F7 h;exact(d,ay _ b,w)
def SV.fresh(Da:FW f able fit lift stp txt)(X:FX a f.inner able fit lift stp txt F)(l:1<=f.q.length)(V:SV a f able fit lift stp txt F d b us st c T n){t:cy}{g:!cy}(nu:∀r∈t::g,(∃r0∈c.rows,r0.number=r.number/\r0.aJ=r.aJ)\/r.number=c.opened)(ns:((t::g).map (·.number)).Sublist (c.rows.map (·.number)++[c.opened])):(qT f c t g).Nodup/\∀x∈qT f c t g,x∉T:=by
 unfold qT;constructor
 .rw[(jK _).nodup_iff,List.perm_append_comm.nodup_iff];refine List.Nodup.sublist ((List.filter_sublist.map _).append<|zw.trans<|(List.sublist_cons_self _ _).trans ns) ?_;rw[<- bF];refine bM.mpr (V.si.nd,ż,λx h y g z =>?_);have:=V.si.lt x h;simp at g
  simp_all
 .intro x h z;have q:=(V.xF Da X l x).mp z;rw[(jK _).mem_iff]at h;obtain h|h:=aD.mp h
  .let(r,m,w,v):=F7 h;obtain⟨r0,m0,n0,v0⟩|e:=nu r Ÿ
   .let(i,ei):=jc.mp m0;rw[<- w,<- n0,V.reach Da X i r0 ei,v0,v]at q;cases q
   .let(k,e1,e2):=we q l;have:=V.on
    lia
  .let(y,m,w):=bS.mp h;rw[<- w]at q;exact V.rest Da X y Ż q
def Qo{o g:!cy}{h:Int}(K:Kp fit h o g)(r:cy)(m:r∈g):∃r0∈o,r0.number=r.number/\r0.aJ=r.aJ:=by
 let(j,C,ej):=cK.mp m;have hl:g.length=o.length:=by have:=congrArg nU K.nu;simp_all
 have a1:=congrArg (·[j]?) K.nu;have a2:=congrArg (·[j]?) K.re;simp only[aK,ai C,ai<|hl ▸ C,cE,jk]at a1 a2;rw[ej]at a1 a2;exact(_,mZ _,a1.symm,a2.symm)
def SV.step(Da:FW f able fit lift stp txt)(X:FX a f.inner able fit lift stp txt F)(lq:1<=f.q.length){d':Nat}(V:SV a f able fit lift stp txt F d b j p c T n)(L:n<=45){s:me}(g:eR (d,b) s=Y (d',z)):∃h i y q,iK [gx c,i7 s]=Y (q.map D.int,gx y)/\Ts j p s h i/\SV a f able fit lift stp txt F d' z h i y (T++q) (n+1)/\q.Pairwise (· <= ·)/\q.Nodup/\(∀x∈q,x∉T)/\q.length<64:=by
 let(q,o,e,I,m,v,P):=aaR Da V.si V.ex (by rw[V.tk];lia) s g;let H:=V.dl;subst H;let(h,i,t,l):=aaz V.op g;have J:=I.XH;have K:=I.tk;rw[m,V.tk]at K;refine(h,i,o,q,Tf e,t,(by rw[aU];exact I,v,by rw[m,V.tk];rfl,t.tw V.tw,t.XU V.op,l,?_,λC sv k u =>?_),?_)
 .cases P with
  |cl w=>cases t;exact V.on|@tx x r A G w e1=>cases t;show (js fit lift (dN c) (txt x) r).opened=_;rw[show (js fit lift (dN c) (txt x) r).opened=c.opened by unfold js;split<;>rfl,V.on,kL]
  |op w e1=>show c.opened+1=_;rw[V.on];cases t<;>simp
 .exact(V.al C sv k<|u.step t).step Da (V6 X k) (OX Da X sv) V.si V.ex V.tw V.op V.on t u P v<|λx=>aD
 .refine(?_,?_)
  .cases P with|cl=>exact .nil|_=>exact tp _
  .have k8:∀ {t:cy}{g:!cy},q=qT f c t g->(∀r∈t::g,(∃r0∈c.rows,r0.number=r.number/\r0.aJ=r.aJ)\/r.number=c.opened)->((t::g).map (·.number)).Sublist (c.rows.map (·.number)++[c.opened])->q.Nodup/\(∀x∈q,x∉T)/\q.length<64:=fun {t g} w nu ns=>by let(x,y):=V.fresh Da X lq nu ns;rw[<- w]at x y;exact(x,y,Ž)
   cases P with
   |cl=>exact(.nil,nofun,ż)
   |@tx x r P0 G e0 e1=>
    have kp:Kp fit 0 c.rows<|P0::G:=by
     rw[<- e1];unfold js;split
     .exact .trans (.atoms Da (i:=c.rows.length-1) e0 _) (qC Da _ _ _)
     .exact(W,W,id)
    exact k8 W (λr m =>.inl<|Qo kp r m) (by rw[kp.nu];exact List.sublist_append_left _ _)
   |@op x r P0 G e0 e1=>
    have kp:Kp fit 0 (c.rows++[mQ fit (dN c) c.opened (stp x) 0 r])<|P0::G:=by rw[<- e1];exact qC Da _ _ _
    refine k8 W (λr m =>?_) (by rw[kp.nu,aY];exact .refl _);let(r0,m0,n0):=Qo kp r m;obtain m0|m0:=aD.mp m0
    .exact .inl (r0,m0,n0)
    .simp at m0;subst m0;exact .inr n0.1.symm
def SV.new(j:1<=f.q.length):SV a f able fit lift stp txt F 0 Z_ [] [] (f,2 ^ f.q.length,able,0,0,[tf],[]) [] 0:=by
 refine(SI.new,(λi r e=>by simp at e,λi p r g e=>by simp at e,λi p r g e=>by simp at e,(0,[],W)),W,(λk n e=>by simp at e,λk n e=>by simp at e,λk n e=>by simp at e,λk n e=>by simp at e,λk n e=>by simp at e),trivial,W,W,λg sv d u =>?_);have c:∀r∈[tf],∀k:Nat,r.number=k->False:=λr b k e=>by simp at b;subst b;trivial
 refine((W,λr b k n e=>(c r b k e).elim,λr b=>by simp at b;subst b;exact yx _,λr b k n e=>(c r b k e).elim,λr b k n e=>(c r b k e).elim),λi q r g e=>by simp at e,(λx h=>(by cases h),λr b t =>?_,λk h =>?_,λy h=>(by cases h),λy h=>(by cases h),λy h=>by cases h))
 .simp at b;subst b;have:=HQ.mp t
  simp_all
 trivial
end
mutual
theorem abi:∀(w:Wi) (n:Nat),3*j6 w<=n->iX (rH w) n=Z'
 |.any,n+1,_=>by solve_by_elim
 |.txt _,n+1,_=>by solve_by_elim
 | .has s,n+3,h=>by
  rw[j6]at h
  simp[rH,iX,ip,Uh s (n+1)<|by lia]
 | .both s,n+3,h=>by
  rw[j6]at h
  simp[rH,iX,ip,PL s (n+1)<|by lia]
 | .one s,n+3,h=>by
  rw[j6]at h
  simp[rH,iX,ip,PL s (n+1)<|by lia]
 |.any,0,h=>by simp[j6]at h
 |.txt _,0,h=>by simp[j6]at h
 |.has _,0,h=>by grind [j6]
 |.has _,1,h=>by grind [j6]
 |.has _,2,h=>by grind [j6]
 |.both _,0,h=>by rw[j6]at h;lia
 |.both _,1,h=>by rw[j6]at h;lia
 |.both _,2,h=>by rw[j6]at h;lia
 |.one _,0,h=>by rw[j6]at h;lia
 |.one _,1,h=>by rw[j6]at h;lia
 |.one _,2,h=>by rw[j6]at h;lia
theorem PL:∀(w:Ws) (n:Nat),3*BG w<=n->ip (vK w) n=Z'
 |.nil,n,_=>by solve_by_elim
 | .cons w r,n,h=>by
  rw[BG]at h
  rw[vK,ip,abi w n (by lia),PL r n<|by lia];rfl
theorem Uh:∀(s:Ss) (n:Nat),3*oO s<=n->ip (gS s) n=Z'
 |.nil,n,_=>by solve_by_elim
 | .cons b a w r,n,h=>by
  rw[oO]at h
  have:n=n-1+1:=by lia
  rw[gS,ip,Uh r n (by lia),this]
  simp[iX,ip,abi w (n-1)<|by lia]
end
theorem GW:∀ {l:!D},(∀d∈l,iX d n=Z')->ip l n=Z'
 |[],_=>by trivial
 |d::l,h=>by rw[ip,h d (by solve_by_elim),GW λx m=>h x<|by solve_by_elim];rfl
theorem GV:∀ {l:!D},ip l n=Z'->∀d∈l,iX d n=Z'
 | d::l,h,x,m=>by
  rw[ip,ax]at h;obtain rfl|m:=aG.mp m
  .exact h.1
  .exact GV h.2 x m
def Sl{l:!D}(h:ip l 179=Z'):hU (.lst l) (.lst [])=Y (.bl l.isEmpty):=by
 unfold hU;rw[if_pos<|by rw[iX,h];rfl];cases l<;>rfl
def Yb{l:!D}(h:ip l 179=Z'):Ba (.lst l) (.lst [])=Y (.bl<|not l.isEmpty):=by
 unfold Ba;rw[if_pos<|by rw[iX,h];rfl];cases l<;>rfl
theorem IM{c:bL}{t:DT}{P:D->Bool}:∀(l:!D),(∀d∈l,t (c.set 0<|Y d)=Y (P d))->0<c.length->rN c (gN 0) t (eV 0) l=Y (l.filter P)
 |[],_,_=>rfl| d::l,h,k=>by
  have e:gN 0 d c=Y _:=rfl;have v:eV 0 (c.set 0<|Y d)=Y d:=by
   cases c with|nil=>cases k|cons=>rfl
  rw[rN,e];simp only[aw,h d az,v,IM l (λx m=>h x<|ay _ m) k,uB];cases P d<;>rfl
def lcB{l:!D}{t:DT}{f:DL}{ρ:bL}(e:f ρ=Y l)(n:l.length<=1000)(o:ip l 179=Z')(h:∀d∈l,∃b,t [Y d]=Y b):∃r,lU f [M] (gN 0) t (eV 0) ρ=Y r/\e2 hU (eF<|lU f [M] (gN 0) t<|eV 0) nb ρ=Y (.bl r.isEmpty)/\e2 Ba (eF<|lU f [M] (gN 0) t<|eV 0) nb ρ=Y (.bl<|not r.isEmpty)/\(r.isEmpty=Z'↔∀d∈l,t [Y d]=Y Z_):=by
 have q:lU f [M] (gN 0) t (eV 0) ρ=Y (l.filter λd=>open Classical in decide (t [Y d]=Y Z')):=by
  refine kA e n<|IM l (λd m =>?_) Ÿ;let(b,z):=h d m;show t [Y d]=_
  simp_all
 have k:ip (l.filter λd=>open Classical in decide (t [Y d]=Y Z')) 179=true:=GW λd m=>GV o d Ż
 refine(_,q,(cp (gW q) W).trans<|Sl k,(cp (gW q) W).trans<|Yb k,?_);rw[List.isEmpty_iff,List.filter_eq_nil_iff];refine forall_congr' λd=>forall_congr' λm =>?_
 let(b,z):=h d m
 simp_all
mutual
theorem Zq:∀(w:Wi) (m:Nat),j6 w<=m->3*j6 w<=180->lI w<=900->dD m [rH w]=Y (.bl<|AL w)
 |w,0,h,_,_=>by cases w<;>simp[j6]at h
 |.any,m+1,_,_,_=>by solve_by_elim
 |.txt t,m+1,_,_,_=>by solve_by_elim
 | .has s,m+1,h,u,z=>by
  rw[j6]at h u;rw[lI]at z;let(i1,i2):=acy s m Ž Ž Ž;have a:=Fi s;let(r,_,e,_,k):=lcB (l:=gS s) (t:=m5<|eT<|be (dD m) ol) (f:=iL<|e2 cw (eV 0) u8) (ρ:=[Y<|.tup [kS "has",.lst<|gS s]]) W Ž (Uh s 179 Ž) λd m=>(i1 d m).elim λb z=>(_,Bj z)
  have:r.isEmpty=AL (.has s):=by
   rw[d9,k,AL,i2];refine forall_congr' λd=>forall_congr' λm =>?_
   let(b,z):=i1 d m
   simp_all [Bj]
  exact bq (ly (tY _) e) (by rw[this];rfl)
 | .both w,m+1,h,u,z=>by
  rw[j6]at h u;rw[lI]at z;let(i1,i2,_):=Zr w m Ž Ž Ž;have a:=qo w;let(r,_,e,_,k):=lcB (l:=vK w) (t:=m5<|eT<|be (dD m) Db) (f:=iL<|e2 cw (eV 0) u8) (ρ:=[Y<|.tup [kS "both",.lst<|vK w]]) W Ž (PL w 179 Ž) λd m=>(i1 d m).elim λb z=>(_,Bj z)
  have:r.isEmpty=AL (.both w):=by
   rw[d9,k,AL,i2];refine forall_congr' λd=>forall_congr' λm =>?_
   let(b,z):=i1 d m
   simp_all [Bj,be,aC,eV,aN]
  exact bq (mu (tY _)<|ly (tY _) e) (by rw[this];rfl)
 | .one w,m+1,h,u,z=>by
  rw[j6]at h u;rw[lI]at z;let(i1,_,i2):=Zr w m Ž Ž Ž;have a:=qo w;let(r,_,_,e,k):=lcB (l:=vK w) (t:=eT<|be (dD m) Db) (f:=iL<|e2 cw (eV 0) u8) (ρ:=[Y<|.tup [kS "one",.lst<|vK w]]) W Ž (PL w 179 Ž) λd m=>(i1 d m).elim λb z=>(_,C1 z)
  have:(not r.isEmpty)=AL (.one w):=by
   rw[d9,l_,<- Bool.not_eq_true,k,AL,i2,Classical.not_forall];refine exists_congr λd =>?_
   rw[Classical.not_imp];refine and_congr_right λm =>?_
   let(b,z):=i1 d m
   simp_all [C1,be,aC,eV,aN]
  exact bq (mu (tY _)<|mu (tY _)<|ly (tY _) e) (by rw[this];rfl)
theorem Zr:∀(w:Ws) (m:Nat),BG w<=m->3*BG w<=180->vX w<=900->(∀d∈vK w,∃b,dD m [d]=Y (.bl b))/\((N6 w).all id=Z'↔∀d∈vK w,dD m [d]=Y (.bl Z'))/\((N6 w).any id=Z'↔∃d∈vK w,dD m [d]=Y (.bl Z'))
 |.nil,_,_,_,_=>by simp[vK,N6]
 | .cons w r,m,h,u,z=>by
  rw[BG]at h u;rw[vX]at z;have q:=Zq w m ŷ Ž Ž;let(i1,i2,i3):=Zr r m ŷ Ž Ž
  simp_all [vK,N6]
theorem acy:∀(s:Ss) (m:Nat),oO s<=m+1->3*oO s<=180->pT s<=900->(∀d∈gS s,∃b,be (dD m) ol [Y d]=Y (.bl b))/\((WR s).all id=Z'↔∀d∈gS s,be (dD m) ol [Y d]=Y (.bl Z'))
 |.nil,_,_,_,_=>by simp[gS,WR]
 | .cons b a w r,m,h,u,z=>by
  rw[oO]at h u;rw[pT]at z;have q:=Zq w m ŷ Ž Ž;have q:be (dD m) ol [Y<|.tup [.str<|jl b,.str<|jC a,rH w]]=Y (.bl<|AL w):=q;let(i1,i2):=acy r m ŷ Ž Ž
  simp_all [gS,WR]
end
def ne_int{f g:DF}{ρ:bL}{x y:Int}(h:f ρ=Y (.int x))(k:g ρ=Y (.int y)):dG (e2 Ba f g) ρ=Y (not (x==y)):=gQ<|cp h k
def eq_int{f g:DF}{ρ:bL}{x y:Int}(h:f ρ=Y (.int x))(k:g ρ=Y (.int y)):dG (e2 hU f g) ρ=Y (x==y):=gQ<|cp h k
def z7{f g:DF}{ρ:bL}{l:!D}{k:Nat}{d:D}(h:f ρ=Y (.lst l))(i:g ρ=Y (.int (k:Int)))(e:l[k]?=Y d):e2 cw f g ρ=Y d:=(cp h i).trans<|dX e
def zt(xs:!Int)(n:xs.length<=1000):oV [.lst<|xs.map D.int,.lst<|xs.map D.int]=Y (.bl Z'):=by
 show (Cm [Y<|.lst<|xs.map D.int,Y<|.lst<|xs.map D.int]).bind Sh=_;refine bq (mu (uY (x:=Z_) (y:=Z_) ź ((ne_int (zX W)<|zX W).trans ż)) W) (wb<|(cp (gW (l:=[]) ((KY (P:=λ_=>Z_) W (by rw[ar];exact n) (λk l =>?_) ſ).trans ż)) W).trans ź);rw[ar]at l;have e:(xs.map D.int)[k]?=Y (.int xs[k]):=by simp[l]
 exact(uY (Bj<|(rg<|z7 W W e).trans<|show _=Y (D.bl Z') by kernel_rfl)<|ne_int (z7 W W e)<|z7 W W e).trans ż
section
variable {ns:!Nd}
def HN(ns:!Nd):Nat->Int->!Int
 |0,_=>[]|d+1,z=>if 0<=z then z::HN ns d (match ns[z.toNat]? with|some n=>n.par|none=> -1) else []
def JV{d j:Nat}{n:Nd}(e:ns[j]?=Y n):HN ns (d+1) (j:Int)=(j:Int)::HN ns d n.par:=by
 simp_all [HN,if_pos,bG]
theorem CW{d:Nat}:HN ns d (-1)=[]:=by
 cases d with|zero=>rfl|succ d=>solve_by_elim
def S_(T:TW ns)(d:Nat):∀(z:Int),-1<=z->z<d->z<ns.length->∀x,x∈HN ns d z↔0<=x/\Hk ns z x:=by
 have N:∀d x,x∈HN ns d _↔0<=x/\Hk ns (-1) x:=λd x=>by rw[CW];refine(nofun,λ(p,q) =>?_);cases q<;>trivial
 induction d with
 |zero=>exact λz h l a=>show z = -1 by lia ▸ N 0
 |succ d ih=>
  intro z h l m x;by_cases y:0<=z
  .obtain⟨j,rfl⟩:∃j:Nat,z=j:=(z.toNat,Ž);have e:=ai (l:=ns) (i:=j) Ż;generalize ns[j]=n at e;have pa:=T.par j n e;rw[JV e,aG,ih _ pa.1 (by lia)<|by lia];constructor
   .rintro(rfl|⟨p,q⟩)
    .exact Ÿ
    .exact(p,.up W e q)
   .rintro⟨p,q⟩;cases q with
    |refl=>exact .inl W|@up _ i m _ w g q=>
     have:i=j:=by lia
     simp_all
  .exact show z = -1 by lia ▸ N _ x
theorem JW:∀(d:Nat) (z:Int),(HN ns d z).length<=d
 |0,_=>aF _| d+1,z=>by
  rw[HN];split
  .exact Nat.succ_le_succ<|JW d _
  simp_all
def Il{f g:DF}{ρ:bL}{j:Nat}{n:Nd}(h:f ρ=Y (r_ ns))(i:g ρ=Y (.int (j:Int)))(e:ns[j]?=Y n):e2 cw (e2 cw f g) lc ρ=Y (.int n.par):=(cp ((cp h i).trans<|zD e) W).trans W
theorem vz(T:TW ns):∀(d N:Nat) (z:Int) (fs:!Int),-1<=z->z<d->z<ns.length->d<N->fs.length+d<=1000->jI (dG<|e2 oGe (eV 1) f8) AO N [Y<|r_ ns,Y<|.int z,Y<|.lst<|fs.map D.int]=Y (.nx [Y<|r_ ns,Y<|.int<|-1,Y<|.lst<|(fs++HN ns d z).map D.int])
 |d,0,z,fs,_,_,_,l,_=>by simp_all
 | d,N+1,z,fs,h,l,m,k,s=>by
  rw[jI,show dG _ _=Y _ from W];by_cases y:0<=z
  .obtain⟨j,rfl⟩:∃j:Nat,z=j:=(z.toNat,Ž);obtain⟨d,rfl⟩:∃e,d=e+1:=(d-1,Ž);have e:=ai (l:=ns) (i:=j) Ż;generalize ns[j]=n at e;have pa:=T.par j n e;have:=vz T d N _ (fs++[(j:Int)]) pa.1 Ž Ž Ż (by simp;lia);rw[aY,bF]at this;simp only[aw,decide_eq_true y,if_true,JV e];exact bq (sq (lG W (fw<|by rw[ar];lia) W)<|kj<|Il W W e) this
  grind [CW,bZ]
def NF(T:TW ns)(l:ns.length<=900){k:Nat}{n:Nd}(e:ns[k]?=Y n):vE [r_ ns,.int (k:Int)]=Y ((HN ns ns.length n.par).map D.int):=by
 have pa:=T.par k n e;have lk:=se e;exact bq (sq W<|mr (Il W W e)<|sq (vz T _ _ _ [] pa.1 Ž Ž Ž ŷ) W) W
def D0(n:Nat)(st:!Nat):!D:=(bJ n).map λk =>.bl<|decide (k∈st)
def YT(n:Nat)(st:!Nat):D0 n st++[.bl Z']=D0 (n+1) (n::st):=by
 unfold D0;rw[JL,aY]
 congr 1
 .exact ij λk h=>by grind
 .simp
set_option tactic.hygienic true in
def YU{n k:Nat}{st:!Nat}(h:k∉st):(D0 n<|k::st).set k (.bl Z_)=D0 n st:=by
 unfold D0;refine List.ext_getElem ŷ λi a b =>?_
 rw[List.getElem_set];simp only[List.getElem_map,List.getElem_range];split
 .subst k;rw[decide_eq_false h]
 .rename_i z;simp[bw z]
def VM{a b:!Nd}(h:lV a b):a.length<=b.length:=by
 refine Nat.le_of_not_lt λl =>?_
 let(m,e,_):=h _ _<|ai l
 simp_all
def MC{N us u:!Nd}{st v:!Nat}{s:me}{s1:↑D}(t:Ts us st s u v)(O:vA us st)(T:TW us)(S:lV u N)(l:N.length<=900):vw [Y<|r_ N,s1,Y<|.lst<|D0 us.length st,Y<|.int<|Ck st,Y<|i7 s]=Y (.nx [Y<|r_ N,s1,Y<|.lst<|D0 u.length v,Y<|.int<|Ck v,Y<|i7 s]):=by
 have lu:=VM<|t.sub.trans S;have fl:∀n st,(D0 n st).length=n:=by simp[D0]
 have op:∀x,aR (my 2<|eK _) (cM 3<|e2 px (be _ pc) u8) [Y<|r_ N,s1,Y<|.lst<|D0 us.length st,Y<|.int<|Ck st,Y<|i7<|.op x]=Y _:=λx=>by refine sq (lG W (fw<|by rw[fl];lia) W) ?_;rw[YT];refine(kj (d :=.int us.length) ((cp (zX W) W).trans ?_)).trans W;rw[fl];exact congrArg (Y ∘ D.int) ż
 unfold vw;cases t with
 |Wq=>exact((iF<|Pn (s :=.op _) W).trans (op _)).trans (by simp[Ck])
 |op=>exact((iF<|Pn (s :=.op _) W).trans (op _)).trans (by simp[Ck])
 |tx=>exact(oG<|Pn (s :=.tx _) W).trans ((oG<|Vz (s :=.tx _) W).trans (by simp[c8]))
 |@cl k=>
  have nk:k∉v:=λz=>by have:=Dj T O k z;simp_all
  obtain⟨⟨n,e,p⟩,_⟩:=O;let(m,em,_,pm,_):=S k n e;have lk:=se e;refine sq (ρ':=[Y _,s1,Y _,Y _,Y _]) ?_ (by rw[kj<|Il W W em,pm,p];rfl);show (xU _ k).map _=_;rw[show xU _ _=Y k by simp[xU,D0,lk],<- YU nk];rfl
def Pm{N us0 us:!Nd}{C4 st:!Nat}{gs:!me}(R:TR gs us0 C4 us st):∀(s1 v:↑D),vA us0 C4->TW us0->lV us N->N.length<=900->∃u,gB (gN 4) vw (gs.map i7) [Y<|r_ N,s1,Y<|.lst<|D0 us0.length C4,Y<|.int<|Ck C4,v]=Y (.nx [Y<|r_ N,s1,Y<|.lst<|D0 us.length st,Y<|.int<|Ck st,u]):=by
 induction R with
 |nil=>exact λs1 v b b b b=>(v,W)
 |@cons s gs us0 C4 u0 v0 us st t R ih=>intro s1 v O T S l;have :=@TR.rec (λb a b c b b=>lV a c) (.refl _) (λt b ih=>t.sub.trans ih) _ _ _ _ _ R;let(u,e):=ih s1 _ (t.XU O) (t.tw T) S l;exact(u,(hI W<|MC t O T (this.trans S) l).trans e)
def Ub{us:!Nd}{st:!Nat}{gs:!me}(R:TR gs [] [] us st)(l:us.length<=900):ED [r_ us,.lst<|gs.map i7]=Y (D0 us.length st):=by
 let(u,e):=Pm R _ _ trivial (nofun,nofun,nofun,nofun,nofun) (.refl us) l;exact bq (sq W<|sq W<|sq ((hJ W).trans e) W) W
end
abbrev Tz(R:!(!Int)):!D:=R.map λl =>.lst<|l.map D.int
abbrev eH(us:!Nd)(st:!Nat)(A:Ss)(R:!(!Int))(a b c d e f:↑D):bL:=[Y<|r_ us,Y<|.lst<|D0 us.length st,Y<|.lst<|gS A,Y<|.obj (.li<|.li .lf)<|.lst<|Tz R,a,b,c,d,e,f]
abbrev eI(us:!Nd)(st:!Nat)(A:Ss)(k p:Nat)(t:Tp)(R:!(!Int))(d e f:↑D):bL:=eH us st A R (Y<|.int (k:Int)) (Y<|.int (p:Int)) (Y<|lh t) d e f
def Wa{f:DF}{ρ:bL}{b:Bool}(x:Bool)(h:f ρ=Y (.str<|jl b)):e2 hU f (eK<|.str<|jl x) ρ=Y (.bl<|b==x):=by
 rw[cp h W];cases b<;>cases x<;>kernel_rfl
def abd{f g:DF}{ρ:bL}{b c:Bool}(h:f ρ=Y (.bl b))(k:g ρ=Y (.bl c)):eOr f g ρ=Y (.bl<|b||c):=by
 unfold eOr;rw[gQ h]
 grind
def Ku{t:DT}{f:DL}{s:!(↑Nat)}{ρ:bL}{l:!Int}{P:Int->Bool}(e:f ρ=Y (l.map D.int))(n:l.length<=1000)(h:∀z∈l,t ((ki s ρ).set 0<|Y<|.int z)=Y (P z))(k:0<s.length):lU f s (gN 0) t (eV 0) ρ=Y ((l.filter P).map D.int):=by
 unfold lU;rw[e];simp only[aw];rw[if_pos (by rw[ar];exact iW<|fw<|by lia),IM (P:=λd=>match d with|.int z=>P z|_=>Z_) _ (λd m =>?_) (by simpa [ki]),List.filter_map]
 .rfl
 .let(z,m1,w):=bS.mp m;subst w;exact h z m1
section
variable {us:!Nd}{st:!Nat}{A:Ss}{inner:Int}{R:!(!Int)}
def Z3(us:!Nd)(inner:Int)(F:Nat->Nat->Prop)(p k:Nat):Bool:=open Classical in decide (Rc us inner F (p+1) (k:Int))
def J9{F:Nat->Nat->Prop}{p k:Nat}:Z3 us inner F p k=Z'↔Rc us inner F (p+1) (k:Int):=by simp[Z3]
def A_(us:!Nd)(inner:Int)(F:Nat->Nat->Prop)(m k:Nat):!Int:=((bJ m).filter λp=>Z3 us inner F p k).map λp:Nat=>(p:Int)
def De{F:Nat->Nat->Prop}{m k:Nat}{z:Int}:z∈A_ us inner F m k↔∃p:Nat,z=p/\p<m/\Rc us inner F (p+1) (k:Int):=by
 rw[A_,bS];exact exists_congr λp=>by rw[bV,NS,J9];exact(λ(a,b)=>(b.symm,a),λ(a,b)=>(b,a.symm))
def FD{F:Nat->Nat->Prop}{m k:Nat}:A_ us inner F (m+1) k=A_ us inner F m k++if Z3 us inner F m k then [(m:Int)] else []:=by
 unfold A_;rw[JL,List.filter_append,aY];simp only[uB,List.filter_nil];split<;>rfl
structure HL(us:!Nd)(inner:Int)(F:Nat->Nat->Prop)(m k p:Nat)(R:!(!Int)):Prop where
 ln:R.length=us.length
 lo:∀j<k,R[j]?=some (A_ us inner F m j)
 at':k<us.length->R[k]?=some (A_ us inner F p k)
 hi:∀j,k<j->j<us.length->R[j]?=some []
set_option tactic.hygienic true
theorem QB(T:TW us)(lu:us.length<=60){k p:Nat}{n:Nd}{t:Tp}(e:us[k]?=Y n)(ht:jq A p=Y t)(hn:t.2.1≠Y (af "*"))(nw:NmW t.2.2)(dw:j6 t.2.2<=11)(sw:lI t.2.2<=900)(hi:tz inner p=Z'↔t.1=Z'){m:Nat}(pm:p<m)(m1:m<=60)(I:HL us inner (Fo A us st) m k p R)(g a h:↑D):
  ∃(R':!(!Int)) (g' a' h':↑D),HL us inner (Fo A us st) m k (p+1) R'/\rQ (eI us st A k p t R g a h)=Y (.nx<|eI us st A k p t R' g' a' h'):=by
 let(b0,i0,j0):=KA hn n.nm;let(b1,i1,j1):=Af T lu t.2.2 12 ž sw nw k n e;have lk:=se e;have pa:=T.par k n e;have c:=S_ T us.length n.par pa.1 Ž Ž;have ln:=JW (ns:=us) us.length n.par;have up:=NF T Ž e;have U0:n.par = -1->HN us us.length n.par=[]:=λw=>by rw[w,CW]
 have U1:0<=n.par->(HN us us.length n.par).take 1=[n.par]:=λw=>by obtain⟨d,hd⟩:∃d,us.length=d+1:=(us.length-1,ŷ);rw[hd,HN,if_pos w];rfl
 generalize HN us us.length n.par=A0 at *
 generalize hL:(if t.1=Z_/\0<p then A0.take 1 else A0)=L;have LA:∀z∈L,z∈A0:=λz m=>by
  rw[<- hL]at m;split at m
  .exact List.mem_of_mem_take m
  .exact m
 have ll:L.length<=60:=by
  rw[<- hL];split
  .exact bB (List.length_take_le' _ _) ž
  .lia
 generalize hG:(b0&&if k∈st then AL t.2.2 else b1)=G;generalize hH:(if p=0 then (t.1==Z')||L.isEmpty else (not<|(L.filter λz=>decide ((p:Int)-1∈A_ us inner (Fo A us st) m z.toNat)).isEmpty))=H;have key:(G&&H)=Z3 us inner (Fo A us st) p k:=by
  rw[d9,ax,J9,Rc,<- hG,<- hH,ax,j0];have q:(H=Z'↔(Rc us inner (Fo A us st) p n.par\/(tz inner p=Z'/\∃a,Hk us n.par a/\Rc us inner (Fo A us st) p a))):=by
   rw[<- hH,hi];by_cases z:p=0
   .subst z;rw[if_neg<|by simp]at hL;subst hL;simp only[if_true,bx,beq_iff_eq,List.isEmpty_iff];constructor
    .rintro(x|x)
     .exact .inr (x,-1,Es T us.length n.par pa.1 Ž Ž,W)
     .refine .inl<|ae λy =>?_;have:=(c n.par).mpr (by have:n.par ≠ -1:=y;lia,.refl _);rw[x]at this;cases this
    .exact λx=>x.elim (λx =>.inr<|U0 x) λx =>.inl x.1
   .rw[if_neg z,l_,List.isEmpty_eq_false_iff_exists_mem];have low:∀z:Int,0<=z->((p:Int)-1∈A_ us inner (Fo A us st) m z.toNat↔Rc us inner (Fo A us st) p z):=λz w=>by
     rw[De,Int.toNat_of_nonneg w];constructor
     .rintro⟨x,w,_,y⟩;rwa [show x+1=p by lia]at y
     .exact λy=>(p-1,ž,ž,by rwa [show p-1+1=p by omega])
    have ps:∀z,Rc us inner (Fo A us st) p z->0<=z:=λz y=>by
     let(j,w,_):=we y Ž
     simp_all
    constructor
    .rintro⟨z,y⟩;let(m1,m2):=bV.mp y;let(z0,an):=(c z).mp<|LA z m1;have y:=(low z z0).mp<|of_decide_eq_true m2;cases x:t.1 with
     |true=>exact .inr (W,z,an,y)|false=>
      rw[<- hL,if_pos (x,by lia)]at m1;by_cases w:0<=n.par
      .rw[U1 w]at m1;cases bP.mp m1;exact .inl y
      .rw[U0<|by lia]at m1;cases m1
    .have ex:∀z,z∈L->Rc us inner (Fo A us st) p z->∃x,x∈L.filter λz=>decide ((p:Int)-1∈A_ us inner (Fo A us st) m z.toNat):=λz m y=>(z,bV.mpr (m,decide_eq_true<|(low z<|ps z y).mpr y))
     rintro(y|⟨b,z,an,y⟩)
     .refine ex _ ?_ y;rw[<- hL];split
      .rw[U1<|ps _ y];exact List.mem_singleton_self _
      .exact(c _).mpr (ps _ y,.refl _)
     .refine ex z ?_ y;rw[<- hL,if_neg<|by simp[b]];exact(c z).mpr (ps z y,an)
  rw[hH,q];constructor
  .exact λ((x,y),f)=>(k,n,W,e,(n,t,e,ht,x,by split<;>lia),f)
  .rintro⟨k',n',w,e',⟨n1,t',e1,ht',x,y⟩,f⟩;have:k'=k:=by lia
   subst this;rw[e]at e' e1;cases e';cases e1;rw[ht]at ht';cases ht';exact((x,by split at y<;>simp_all),f)
 have run:∀R',g_ (hV (eT<|eV 7)<|eT<|eV 9) (OU 3 (eV 4)<|eV 5) c8 (eI us st A k p t R (Y<|.bl G) (Y<|.lst<|L.map D.int)<|Y<|.bl H)=Y (.nx<|eI us st A k p t R' (Y<|.bl G) (Y<|.lst<|L.map D.int)<|Y<|.bl H)->rQ (eI us st A k p t R g a h)=Y (.nx<|eI us st A k p t R' (Y<|.bl G) (Y<|.lst<|L.map D.int)<|Y<|.bl H):=λR' q=>by
  refine mr ((cp (show _=Y (D.str<|jC t.2.1) from W)<|gW (l:=[.str<|af "*",.str n.nm]) ?_).trans i0) (sq (ρ':=eI us st A k p t R (Y<|.bl G) a h) ?_ (mr (gW up)<|sq (ρ':=eI us st A k p t R (Y<|.bl G) (Y<|.lst<|L.map D.int) h) ?_ (mr (kP W ((cp (gW<|Ku (P:=λz=>decide ((p:Int)-1∈A_ us inner (Fo A us st) m z.toNat)) W Ž (λz y =>?_) ſ) W).trans (Si _)) W) (sq ?_ q))))
  .unfold dW aC;rw[show e2 cw (e2 cw (eV 0)<|eV 4) f8 _=Y (D.str n.nm) from (cp (x:=MK n) ((cp W W).trans<|zD e) W).trans W];rfl
  .have q1:=C1 (f:=e2 cw (eV 1)<|eV 4) (ρ:=eI us st A k p t R (Y<|.bl b0) a h) (z7 (l:=D0 us.length st) W W (by simp[D0,lk];rfl));rw[<- hG];by_cases z:k∈st
   .rw[if_pos z];exact(iF<|q1.trans<|by simp[z]).trans<|kj<|RX (b:=b0) W λ_=>Zq t.2.2 12 Ÿ Ž sw
   .rw[if_neg z];refine(oG<|q1.trans<|by simp[z]).trans ?_;cases b0 with
    |false=>exact sL (C1 W)|true=>exact(iF<|C1 W).trans<|kj (d :=.bl b1) i1
  .have q:=gE (gQ<|Wa (f:=e2 cw (eV 6) f8) (b:=t.1) (ρ:=eI us st A k p t R (Y<|.bl G) (Y<|.lst<|A0.map D.int) h) Z_ W) (show dG (e2 Iz (eV 5) f8) _=Y (decide ((p:Int) > 0)) from W);rw[<- hL];split
   .rename_i z;refine(iF<|q.trans<|by simp[z]).trans<|kj<|gW (show Y (CQ (A0.map D.int) M<|Y 1)=_ by rw[Ed _ (by decide),<- kF];rfl)
   .rename_i z;exact sL (q.trans (by
     have:¬(t.1=Z_/\0<(p:Int)):=λw=>z (w.1,Ż)
     revert this
     cases t.1<;>simp))
  .let(z0,an):=(c z).mp<|LA z y;have zl:=RZ T an;obtain⟨j,rfl⟩:∃j:Nat,z=j:=(z.toNat,ž);exact gQ<|(cp (show _=Y (.int<|(p:Int)-1) from W)<|z7 (d :=.lst<|(A_ us inner (Fo A us st) m j).map D.int) W W (by rw[aK,I.lo j<|by lia];rfl)).trans Ad
  .rw[<- hH];split
   .rename_i z;subst z;refine(iF<|(eq_int (x:=0) W W).trans W).trans (kj<|abd (Wa (b:=t.1) Z' W) ((cp (show _=Y (D.lst<|L.map D.int) from W) W).trans<|(Sl<|Dl L 179).trans<|by cases L<;>rfl))
   .rename_i z;exact sL<|(eq_int (x:=(p:Int)) (y:=0) W W).trans (by simp;omega)
 have tst:=(gE (ρ:=eI us st A k p t R (Y<|.bl G) (Y<|.lst<|L.map D.int)<|Y<|.bl H) (C1 (f:=eV 7) W) (C1 (f:=eV 9) W)).trans (congrArg Y key);cases z:Z3 us inner (Fo A us st) p k with
 |false=>refine(R,_,_,_,(I.ln,I.lo,λ_ =>?_,I.hi),run R<|sL<|tst.trans<|by rw[z]);rw[I.at' lk,FD,z];simp
 |true=>
  refine(R.set k<|A_ us inner (Fo A us st) p k++[(p:Int)],_,_,_,(by rw[kL];exact I.ln,λj l =>?_,λ_ =>?_,λj l l' =>?_),run _<|(iF<|tst.trans<|by rw[z]).trans ?_)
  .rw[aq<|by lia];exact I.lo j l
  .rw[aX (by rw[I.ln];exact lk),FD,z];trivial
  .rw[aq<|by omega];exact I.hi j l l'
  .have lr:(A_ us inner (Fo A us st) p k).length<=p:=by unfold A_;rw[ar];exact bB (List.length_filter_le _ _) ż
   show (((xU (Tz R).length (k:Int)).bind λk'=>match (Tz R)[k']? with|some (.lst b)=>if b.length<dQ then Y (DO.nx _) else M|_=>M))=_;rw[show xU (Tz R).length (k:Int)=Y k by simp[xU,I.ln,lk]];simp only[aw];rw[show (Tz R)[k]?=Y (.lst<|(A_ us inner (Fo A us st) p k).map D.int) by rw[aK,I.at' lk];rfl];simp only;rw[if_pos<|by rw[ar];exact fw<|by lia];unfold eI eH Tz;rw[vJ,aY];rfl
end
section
variable {us:!Nd}{st:!Nat}{A:Ss}{inner:Int}
theorem QA(T:TW us)(lu:us.length<=60){k:Nat}{n:Nd}(e:us[k]?=Y n)(hi:∀p t,jq A p=Y t->(tz inner p=Z'↔t.1=Z')){m:Nat}(m1:m<=60):∀(s:Ss) (p:Nat) (R:!(!Int)) (b c g a h:↑D),(∀j,jq s j=jq A (p+j))->p+cj s=m->EB s->oO s<=12->pT s<=900->HL us inner (Fo A us st) m k p R->∃(R':!(!Int)) (b' c' g' a' h':↑D),HL us inner (Fo A us st) m k m R'/\gB (Jc 5 6) rQ (((gS s).zipIdx p).map λq =>.tup [.int (q.2:Nat),q.1]) (eH us st A R (Y<|.int (k:Int)) b c g a h)=Y (.nx<|eH us st A R' (Y<|.int (k:Int)) b' c' g' a' h')
 |.nil,p,R,b,c,g,a,h,_,lp,_,_,_,I=>by have:=lp;subst this;exact(R,b,c,g,a,h,I,W)
 | .cons w nm wi r,p,R,b,c,g,a,h,hs,lp,hn,hd,hz,I=>by
  rw[cj]at lp;rw[oO]at hd;rw[pT]at hz;have h0:=(hs 0).symm;let(R1,g1,a1,h1,I1,e1):=QB T lu e h0 hn.1 hn.2.1 (by show j6 wi<=11;grind) Ž (hi p _ h0) Ž m1 I g a h;let(R2,b2,c2,g2,a2,h2,I2,e2):=QA T lu e hi m1 r (p+1) R1 (Y<|.int p) (Y<|lh (w,nm,wi)) g1 a1 h1 λj=>by rw[show p+1+j=p+(j+1) by lia,<- hs];rfl Ž hn.2.2 Ž Ž I1
  refine(R2,b2,c2,g2,a2,h2,I2,?_);rw[gS,uA,bg,hI W e1];exact e2
theorem KG(T:TW us)(lu:us.length<=60)(hi:∀p t,jq A p=Y t->(tz inner p=Z'↔t.1=Z'))(nm:EB A)(dp:oO A<=12)(sz:pT A<=900)(m1:cj A<=60):∀(d k:Nat) (R:!(!Int)) (z b c g a h:↑D),k+d=us.length->HL us inner (Fo A us st) (cj A) k 0 R->∃(z' b' c' g' a' h':↑D),gB (gN 4) CI ((ZK k d).map λj:Nat =>.int (j:Int)) (eH us st A R z b c g a h)=Y (.nx<|eH us st A ((bJ us.length).map<|A_ us inner (Fo A us st)<|cj A) z' b' c' g' a' h')
 | 0,k,R,z,b,c,g,a,h,l,I=>by
  have:R=(bJ us.length).map (A_ us inner (Fo A us st)<|cj A):=rT λi=>by
   by_cases x:i<us.length
   .rw[I.lo i<|by simp_all];simp[x]
   .rw[jd (by rw[I.ln];simp_all),jd<|by simp_all]
  rw[<- this];exact(z,b,c,g,a,h,W)
 | d+1,k,R,z,b,c,g,a,h,l,I=>by
  let(R1,b1,c1,g1,a1,h1,I1,e1):=QA T lu (ai Ž) hi m1 A 0 R b c g a h λj=>by rw[jZ] ż nm dp sz I
  let(z2,b2,c2,g2,a2,h2,e2):=KG T lu hi nm dp sz m1 d _ R1 (Y<|.int k) b1 c1 g1 a1 h1 Ž (I1.ln,λj y=>by
   by_cases x:j=k
   .rw[x];exact I1.at' Ž
   .exact I1.lo j Ž,λy=>(I1.hi (k+1) ž y).trans (by trivial),λj x=>I1.hi j ŷ)
  exact(z2,b2,c2,g2,a2,h2,(hI W<|(hJ W).trans e1).trans e2)
def Qz(T:TW us)(lu:us.length<=60)(hi:∀p t,jq A p=Y t->(tz inner p=Z'↔t.1=Z'))(nm:EB A)(dp:oO A<=12)(sz:pT A<=900)(m1:cj A<=60):yv [r_ us,.lst<|D0 us.length st,.lst<|gS A]=Y (.lst<|Tz<|(bJ us.length).map<|A_ us inner (Fo A us st)<|cj A):=by
 let(z,b,c,g,a,h,e):=KG T lu (st:=st) hi nm dp sz m1 us.length 0 (us.map λd=>[]) M M M M M M ż (ż,nofun,λl=>by simp[A_,l],λj l l'=>by simp[l']);rw[<- ZJ]at e;refine bq (sq ?_<|sq ((hJ<|(Mr ((zX (l:=us.map MK) W).trans (by rw[ar])) ż Ž).trans (by rw[bG,C_])).trans e) W) W;have q:∀ρ,rN (ki [M] ρ) (gN 0) gR FM (us.map MK)=Y (Tz<|us.map λd=>[]):=λρ=>f7 (Dy (h:=λd =>.lst []) λd d=>(_,W,W)) (by simp[Tz])
 unfold y9;rw[gW<|kA W (by rw[ar];lia)<|q _];rfl
end
theorem Wh:∀(l:!me) (d:Nat) (z:Nat×Bool),pb l (d,Z')=Y z->z.2=Z'
 |[],d,z,h=>by cases h;rfl
 | s::l,d,z,h=>by
  obtain⟨⟨d1,b1⟩,k,j⟩:=aa.1 h;have:b1=true:=by cases s<;>simp only[eR]at k<;>split at k<;>cases k<;>rfl
  subst this;exact Wh l d1 z j
def TC{s:me}{l:!me}{z:Nat×Bool}(h:pb (s::l) (0,Z_)=Y z):z.2=true:=by
 obtain⟨⟨d1,b1⟩,k,j⟩:=aa.1 h;have:=by cases s<;>simp[eR]at k<;>exact k.2
 grind [Wh]
theorem zb:∀(a b:!me) (z:Nat×Bool),pb (a++b) z=(pb a z).bind (pb b)
 |[],b,z=>rfl| s::a,b,z=>by
  rw[m3,pb,pb];cases eR z s with
  |none=>rfl|some y=>exact zb a b y
def OF{a b:!Int}(p:b.Pairwise (· <= ·))(n:a.Nodup)(m:b.Nodup)(h:∀x,x∈a↔x∈b):b=EJ a:=HZ ((List.perm_ext_iff_of_nodup m n).mpr λx=>(h x).symm) p
def To{a b:!Int}(q:a.Pairwise (· <= ·))(p:b.Pairwise (· <= ·))(n:a.Nodup)(m:b.Nodup)(h:∀x,x∈a↔x∈b):a=b:=(HZ (.refl a) q).trans (OF p n m h).symm
abbrev eL(ns:!Int)(nm q:!D)(gs:!me)(c:jb)(kn:!Int)(k a b d e f g h:↑D):bL:=[Y<|.kG ns,Y<|.lst nm,Y<|.lst q,Y<|.lst<|gs.map i7,oN c,Y<|.lst<|kn.map D.int,k,a,b,d,e,f,g,h]
def Na(o:↑D):Prop:=∀r p,o≠Y (.dY r p)
def PZ{ρ:bL}(h:∀o∈ρ,Na o)(x:Na v):∀o∈ρ.set i v,Na o:=λo m=>(List.mem_or_eq_of_mem_set m).elim (h o) (· ▸ x)
def abn{l:!D}:Na<|Y<|.lst l:=nofun
def Oj{l:bL}{r:Nat}(h:∀o∈l,Na o):c4 r l=l:=(ij λo m=>by
 split
 .exact Ÿ
 .rfl).trans<|List.map_id l
def mO{G:!D->↑(!D)}{f:DF}(h:f ρ=Y (gx c))(k:G [gx c]=r){q:aP}(m:‹q ≠ "coming"›):qR "Lean" q G f ρ=r:=by
 unfold qR;rw[h];exact(if_pos (W,by simpa [gx] using m)).trans k
def mF{G:!D->↑D}{f:DF}(h:f ρ=Y (gx c))(k:G [gx c]=r){q:aP}(m:‹q ≠ "coming"›):fQ "Lean" q G f aN ρ=r:=by
 unfold fQ;rw[h];exact(if_pos (W,by simpa [gx] using m)).trans k
def Sf{ρ:bL}(e:f ρ=Y x)(h:oZ eB 4 ρ=Y (gx c))(n:ρ.length=14)(hn:∀o∈ρ,Na o){l:!D}(t:iK [gx c,x]=Y (l,gx y)):ts 9 (Hr "Lean" "take" eB iK 4 []<|aC f aN) ρ=Y (.nx<|(ρ.set 4<|oN y).set 9<|Y<|.lst l):=by
 have w:∀G,Hr "Lean" "take" _ G 4 [] (aC f aN) ρ=(G [gx c,x]).map λr=>gJ r.1<|ρ.set 4<|Y<|.obj _ r.2:=λG=>by unfold Hr aC;rw[h,e,Oj hn,n];rfl
 simp_all [ts,if_pos,kL]
section
variable {a:Ss}{f:vC}{able:Int}{fit lift:Int->Int->Int}{stp txt:aP->Int}{F:Fa}
def Tc(Da:FW f able fit lift stp txt)(X:FX a f.inner able fit lift stp txt F)(fl:f.q.length=cj a)(l1:1<=cj a)(l5:cj a<=5)(nm:EB a)(dp:oO a<=11)(sz:pT a<=900){ns:!Int}{nms:!D}{gs:!me}(lg:gs.length<=28){k:Nat}{s:me}(es:gs[k]?=Y s){d d':Nat}{b b':Bool}{us:!Nd}{st:!Nat}{c:jb}{T kn:!Int}(V:SV a f able fit lift stp txt F d b us st c T k)(R:TR (gs.take k) [] [] us st)(rn:pb (gs.take k) (0,Z_)=Y (d,b))(sg:eR (d,b) s=Y (d',b'))(hk:∀z,z∈kn↔z∈T)(s7 s8 s9 OW OV Wg Wf:↑D)(hn:∀o∈eL ns nms (gS a) gs c kn (Y<|.int (k:Int)) s7 s8 s9 OW OV Wg Wf,Na o):
  ∃(qm:!Nd) (lx:!Nat) (c':jb) (T' kn':!Int) (t7 t8 t9 t10 t11 t12 t13:↑D),El (eL ns nms (gS a) gs c kn (Y<|.int (k:Int)) s7 s8 s9 OW OV Wg Wf)=Y (.nx<|eL ns nms (gS a) gs c' kn' (Y<|.int (k:Int)) t7 t8 t9 t10 t11 t12 t13)/\SV a f able fit lift stp txt F d' b' qm lx c' T' (k+1)/\TR (gs.take<|k+1) [] [] qm lx/\pb (gs.take<|k+1) (0,Z_)=Y (d',b')/\(∀z,z∈kn'↔z∈T')/\∀o∈[t7,t8,t9,t10,t11,t12,t13],Na o:=by
 have lk:=se es;let(qm,lx,c',q,et,t,V',qs,qn,qd,ql):=V.step Da X Ż Ž sg;have tk:gs.take (k+1)=gs.take k++[s]:=by rw[List.take_succ,es];rfl
 have R':TR (gs.take<|k+1) [] [] qm lx:=by rw[tk];exact R.app<|.cons t .nil
 have Z2:pb (gs.take<|k+1) (0,Z_)=Y (d',b'):=by rw[tk,zb,rn];show (eR (d,b) s).bind _=_;rw[sg];rfl
 have lu:qm.length<=28:=by
  have a1:=R'.len
  grind
 let(r,er,rl,rm,rs,rd):=JE (a:=a) V'.tw Ž nm dp sz X.Cj;have xF:∀z,z∈r↔z∈T++q:=λz=>by rw[rm,V'.xF Da X (by lia),fl]
 have hop:=Qz (us:=qm) (st:=lx) (A:=a) (inner:=f.inner) V'.tw Ž X.Cj nm ž sz Ž;have XU:=Ub R' Ž;have dep:=Rx (a:=gs.take<|k+1) ŷ Z2;have nod:jY [.lst<|(gs.take<|k+1).map i7]=Y (r_ qm):=by show (L2.jY [.lst<|(gs.take<|k+1).map i7]).map D.lst=_;unfold L2.jY;simp only;rw[if_pos (by grind),show Bp ((gs.take<|k+1).map i7) ([],-1)=Y (qm,Ck lx) from (R'.run trivial).1];rfl
 have so:=V'.si.XH;have ZZ:=V'.si.tk;have sc:=V'.si.cnt;have tkk:=V'.tk;have aeF:=V'.si.len;have wl:(xC c').length<64:=by
  unfold xC
  grind
 have ewt:=ER c' Ž Ž wl;have wn:(xC c').Nodup:=V'.si.nd.sublist<|List.Sublist.append (.refl _)<|List.filter_sublist.map _;generalize hP:(λj:Nat=>decide (((cj a:Nat):Int)-1∈A_ qm f.inner (Fo a qm lx) (cj a) j) && (not<|decide ((j:Int)∈r)))=P;have due:((bJ qm.length).filter P).map (λj:Nat=>(j:Int))=EJ (xC c'):=by
  refine OF ?_ wn ?_ λx =>?_
  .refine List.pairwise_map.mpr<|(ZO _ VZ).imp λh=>Ž
  .refine List.pairwise_map.mpr<|(ZO _ VZ).imp λh=>Ž
  .rw[V'.wait Da X (by lia),bS];constructor
   .rintro⟨h,g⟩;let(j,w,lj):=we h Ž;subst w;refine(j,bV.mpr (NS.mpr lj,?_),W);rw[<- hP];simp only[ax,decide_eq_true_eq,l_,decide_eq_false_iff_not];exact(De.mpr (cj a-1,Ž,Ž,Ż),λz=>g<|(xF _).mp z)
   .rintro⟨j,m,w⟩;subst w;have m:=(bV.mp m).2;rw[<- hP]at m;simp only[ax,decide_eq_true_eq,l_,decide_eq_false_iff_not]at m;let(p,w,_,h):=De.mp m.1
    grind
 have fil:r.filter (λz=> (not<|decide (z∈kn)))=q:=by
  refine To (rs.filter _) qs (rd.filter _) qn λx =>?_
  grind
 have bt:b'=true:=by
  cases z:gs.take<|k+1 with|nil=>simp_all|cons s0 l=>rw[z]at Z2;exact TC Z2
 have ob:0<c'.opened:=by
  have:=V'.si.op
  simp_all
 refine(qm,lx,c',T++q,r,_,_,_,_,_,_,_,mr (gW (show Y (CQ (gs.map i7) M<|Y<|(k:Int)+1)=Y ((gs.take<|k+1).map i7) by rw[Ed _ (by solve_by_elim),<- kF];rfl))<|mr ((rg W).trans nod)<|sq (Sf (z7 W W<|by rw[aK,es];rfl) ź W (PZ (PZ hn abn) abn) et)<|mr (gW er)<|mu ?_<|mr W<|sq (lG W (fw<|by rw[ar];lia) W)<|mr ((G7 W (gW XU) W).trans hop)<|mr (gW (l:=(EJ<|xC c').map D.int) ((KY (l:=qm.map MK) (P:=P) W ŷ (λj lj =>?_) ſ).trans ?_)) (C5 (l:=(EJ<|xC c').map D.int) ?_ (mu ?_ W)),V',R',Z2,xF,?_)
 .exact Bj (b:=Z') ((Ls W<|gW<|(Ku (P:=λz=> (not<|decide (z∈kn))) W Ž (λz m=>gQ Ad) ſ).trans (by rw[fil])).trans (zt q Ž))
 .rw[ar]at lj;refine(gE (gQ<|(cp ((cp (zX W) W).trans<|by rw[o8];rfl)<|z7 (d :=.lst<|(A_ qm f.inner (Fo a qm lx) (cj a) j).map D.int) W W (by simp[lj])).trans Ad) (gQ Ad)).trans ?_;rw[<- hP];rfl
 .rw[ar,<- due,j3];rfl
 .unfold fTh;rw[mO W<|yz c' ewt];exact if_pos<|ze _
 .refine uY (x:=Z_) (y:=Z_) (Bj (b:=Z') ((Ls W W).trans<|zt _ ŷ)) ((gQ<|(cp (mF W<|Kg c')<|(cp ((rg W).trans dep) W).trans W).trans W).trans ?_);have:decide (c'.rows.length=1)=((d':Int)==0):=by rw[aeF,d9];simp
  simp_all [decide_eq_true,Bool.true_and,acn]
  exact beq_self_eq_true _
 .simp[Na]
theorem Ky(Da:FW f able fit lift stp txt)(X:FX a f.inner able fit lift stp txt F)(fl:f.q.length=cj a)(l1:1<=cj a)(l5:cj a<=5)(nm:EB a)(dp:oO a<=11)(sz:pT a<=900){ns:!Int}{nms:!D}{gs:!me}(lg:gs.length<=28){z:Nat×Bool}(rn0:pb gs (0,Z_)=Y z):∀(m k:Nat) (d:Nat) (b:Bool) (us:!Nd) (st:!Nat) (c:jb) (T kn:!Int) (s6 s7 s8 s9 OW OV Wg Wf:↑D),k+m=gs.length->SV a f able fit lift stp txt F d b us st c T k->TR (gs.take k) [] [] us st->pb (gs.take k) (0,Z_)=Y (d,b)->(∀z,z∈kn↔z∈T)->(∀o∈[s7,s8,s9,OW,OV,Wg,Wf],Na o)->∃ρ,gB (gN 6) El ((ZK k m).map λj:Nat =>.int (j:Int)) (eL ns nms (gS a) gs c kn s6 s7 s8 s9 OW OV Wg Wf)=Y (.nx ρ)
 |0,k,d,b,us,st,c,T,kn,s6,s7,s8,s9,OW,OV,Wg,Wf,_,_,_,_,_,_=>(_,W)| m+1,k,d,b,us,st,c,T,kn,s6,s7,s8,s9,OW,OV,Wg,Wf,l,V,R,rn,hk,hn=>by
  have lk:k<gs.length:=Ž
  have e0:gs=gs.take k++gs[k]::gs.drop (k+1):=Ż
  have r1:=rn0;rw[e0,zb,rn]at r1;obtain⟨⟨d',b'⟩,sg,_⟩:=aa.1<|show (eR _ _).bind _=Y z from r1;let(qm,lx,c',T',kn',t7,t8,t9,t10,t11,t12,t13,e,V',R',Z2,hk',hn'):=Tc Da X fl l1 l5 nm dp sz (ns:=ns) (nms:=nms) lg (ai lk) V R rn sg hk s7 s8 s9 OW OV Wg Wf (by simpa [Na] using hn);let(ρ,e2):=Ky Da X fl l1 l5 nm dp sz lg rn0 m _ d' b' qm lx c' T' kn' _ t7 t8 t9 t10 t11 t12 t13 Ž V' R' Z2 hk' hn';exact(ρ,(hI W e).trans e2)
end
def acz{f g:DF}(a:f c=Y x)(b:g c=Y y):aC f (aC g aN) c=Y [x,y]:=by unfold aC;rw[a,b];rfl
def WM{g:DL}{G:!D->↑(!D)}(h:g a=Y l):fG G g a=G l:=by simp_all [fG]
def aaW{f:DF}{d:D}(e:f a=Y d):y9 i s f a=Y (.nx<|a.set i<|Y<|.obj s d):=by unfold y9;rw[e];rfl
def Tb{f0 f:vC}{b c:Int}(h:su (gr f0)=gr f):su (gx (f0,b,c,0,0,[tf],[]))=gx (f,b,c,0,0,[tf],[]):=by
 have q:su (gx (f0,b,c,0,0,[tf],[]))=.ins "Lean" ["coming"] [.ins "Coming" ck [su<|gr f0,.int b,.int c,.int 0,.int 0,.lst [dE tf],.lst []]]:=Ÿ
 rw[q,h];rfl
def Ql(ns:!Int)(hns:ns.length<=63):Hi [.kG ns]=Y (.bl Z'):=by
 let(nms,en,hn):=PX ns hns;let(al,ea,h1,h5,hw):=RO ns hns nms hn;let(a1,a2,a3,a4):=OE al hw;have sz:pT (nI al)<=400:=bB a4 (by rw[show zW 3=79 from W];lia);have ll:cj (nI al)=al.length:=by rw[<- o8,J2,ar]
 rw[<- J2]at ea;let(xs,ex,_,hxl):=vu ns hns 500 28 ſ ſ ſ ſ;let(ss,dep,es,hsg,hsl):=ON xs nms Ž hn;let(gs,gd,gb,rfl,afh,_,_):=hsg.ex;rw[ar]at hsl;let(f0,f,fit,lift,stp,txt,F,ef,fd,fq0,fq,eb,tw,Da,X):=Q6 (nI al) a1 a2 Ÿ Ž Ž Ż;have fl:f.q.length=cj (nI al):=by rw[fq,o8]
 have fl0:f0.q.length=cj (nI al):=by rw[fq0,o8]
 have hl:=UE<|Nu fd Ž ef (by rw[fd,fq0];exact eb);rw[fl0,<- fl]at hl;have V:=SV.new (a:=nI al) (able:=x9 (nI al) 0 0) (fit:=fit) (lift:=lift) (stp:=stp) (txt:=txt) (F:=F) (f:=f) Ż;generalize hc:((f,2 ^ f.q.length,x9 (nI al) 0 0,0,0,[tf],[]):jb)=c0 at V;generalize hA:nI al=A at *
 have ok:iX (.lst<|gS A) 180=true:=by grind [iX,Uh]
 have qs:OA (gS A)=true:=by
  cases A with|nil=>grind [cj]|cons=>rfl
 have w0:xC c0=[]:=by
  refine List.eq_nil_iff_forall_not_mem.mpr λx h =>?_
  let(k,_,l):=we ((V.wait Da X Ż x).mp h).1 Ž;cases l
 have ewt:gj [gx c0]=Y []:=by
  have:=ER c0 (by rw[<- hc];show 0<=1000;decide) (by rw[<- hc];show 1<=500;decide) Ż
  simp_all [yz,EJ]
 have eov:gk [gx c0]=Y (.bl Z_):=by rw[Kg,<- hc];rfl
 have ea':∀ρ:bL,eV 0 ρ=Y (.kG ns)->eV 1 ρ=Y (.lst<|nms.map D.str)->fG pL gt ρ=Y (gS A):=λρ h0 h1=>(WM<|acz h0 h1).trans ea
 let(ρ,ew):=Ky Da X fl Ż Ż a1 Ÿ Ž (ns:=ns) (nms:=nms.map D.str) (gs:=gs) Ž afh gs.length 0 0 Z_ [] [] c0 [] [] M M M M M M M M ż V Ÿ W (λ_=>e_) (by simp[Na]);rw[<- ZJ]at ew;refine bq (mr ((rg W).trans en)<|C5 (ea' _ W W)<|mr (gW<|(WM<|acz (gW (l:=xs.map D.int) ex) W).trans es) (sq (aaW (d:=gx c0) ?_) (mu (gQ<|(cp (show _=Y (D.lst<|gS A) from W)<|gW<|ea' _ W W).trans ?_)<|mu (uY (x:=Z_) (y:=Z_) (gQ<|(cp (gW<|mO W ewt) W).trans ź) (gQ<|(cp (mF W eov) W).trans W)) (sq (lG W (fw Ž) W)<|C5 (ea' _ W W)<|sq W<|sq ((hJ<|by rw[Mr (zX (l:=gs.map i7) W) (by simp) (by grind),bG,C_,ar]).trans ew) W)))) W
 .show (if OA (gS A)=Z' then (gY [.ins "Lean" [] [],.lst<|gS A]).bind λr=>match r.1 with|.dC=>Y (su r.2)|_=>M else M)=_;rw[if_pos qs,hl];show Y (su _)=_;rw[Tb tw,hc]
 grind [Ba,GR]
end K21
namespace L2
open PySem PySem.Spec PyProof.Rows
section
variable {P:bh}{w:cW}{K:aV}{mg:aP->↑au}{base:cP}{x c:aP}{sp:Sp}{f:aH}{fd:dt}{ps:!aP}{n k:Nat}
def gP.m(h:gP P w K mg base x n sp)(hk:‹n<=k›):gP P w K mg base x k sp:=h.mono hk
def dZ.m(h:dZ P w K mg base c x n sp)(hk:‹n<=k›):dZ P w K mg base c x k sp:=h.mono hk
def ur.m(h:ur P w K mg base c n sp)(hk:‹n<=k›):ur P w K mg base c k sp:=h.mono hk
def gP.o(h:gP P w K mg base x n sp)(hk:autoParam (n<=k) š):gP P w K mg base x k sp:=h.mono hk
def dZ.o(h:dZ P w K mg base c x n sp)(hk:autoParam (n<=k) š):dZ P w K mg base c x k sp:=h.mono hk
def z0O{F:!D->↑(!D)}(e:∀ds,F ds=M):b9 P w K mg base fx n f fd ps<|vL K F:=by
 constructor
 .intro vs H Q E h;cases h;simp_all
 .intro A o s H args us vs Q E hr he hb hv h;cases h;simp_all
def ZS{F:!D->↑D}(e:∀ds,F ds=M):b9 P w K mg base fx n f fd ps<|gn K F:=by
 constructor
 .rintro vs H Q E ⟨G,ds,d,gh,r,eq,_⟩;rw[e]at eq;cases eq
 .rintro A o s H args us vs Q E hr he hb hv ⟨G,ds,d,gh,r,eq,_⟩;rw[e]at eq;cases eq
def z0T{s:Sk}{F:!D->↑(D×D)}(e:∀ds,F ds=M):b9 P w K mg base fx n f fd ps<|spT K s F:=by
 constructor
 .rintro vs H Q E ⟨G,t,xs,d,t',a,T,us,_,_,_,_,_,_,eq,_⟩;rw[e]at eq;cases eq
 .rintro A o s H args us vs Q E hr he hb hv ⟨G,t,xs,d,t',a,T,us,_,_,_,_,_,_,eq,_⟩;rw[e]at eq;cases eq
def z0M{F:!D->↑(D×!D)}(e:∀ds,F ds=M):b9 P w K mg base fx n f fd ps<|B6 K 0 F:=by
 constructor
 .rintro vs H Q E ⟨G,ds,d,xs',a,ws,xs,_,_,_,_,_,_,_,_,eq,_⟩;rw[e]at eq;cases eq
 .rintro A o s H args us vs Q E hr he hb hv ⟨G,ds,d,xs',a,ws,xs,_,_,_,_,_,_,_,_,eq,_⟩;rw[e]at eq;cases eq
end
end L2
namespace K21
open PySem L2
def ac{α:Type}{P:α->Prop}{a:α}{l:!α}(h:P a)(t:∀x∈l,P x):∀x∈a::l,P x:=nV.mpr (h,t)
abbrev FA(K:aV)(x:aP)(st:cH):Prop:=∃f fd,uw K bc x=Y (Y<|.ref f)/\fX K x x st f fd
def acP{K:aV}{x:aP}{st:cH}{f:aH}{od an:↑aH}{sl:Array<|↑au}{oc kV dc pm cd ct:au}(a:uw K bc x=Y (Y<|.ref f))(l:K.lookup f=Y (oc,od,.func<|fnOf x x (nB st) (fI st) (bu st) .none kV dc pm an cd ct,sl))(c:codeIn K cd x=Z')(k:BK K (.ref f)=Z'):FA K x st:=(f,_,a,QY l c k)
abbrev MA(K:aV)(c m qual:aP)(st:cH):Prop:=∃C f fd,uw K bc c=Y (Y<|.ref C)/\vG K (.ref C) m=Y (Y<|.ref f)/\PySem.W.isFn K (.ref f)=Z'/\fX K m qual st f fd
def acL{K:aV}{x:aP}{st:cH}{f:aH}{od an:↑aH}{sl:Array<|↑au}{oc kV dc pm cd ct:au}{c0 qual:aP}{C:aH}(aC:uw K bc c0=Y (Y<|.ref C))(a:vG K (.ref C) x=Y (Y<|.ref f))(i:PySem.W.isFn K (.ref f)=Z')(l:K.lookup f=Y (oc,od,.func<|fnOf x qual (nB st) (fI st) (bu st) .none kV dc pm an cd ct,sl))(c:codeIn K cd qual=Z')(k:BK K (.ref f)=Z'):MA K c0 x qual st:=(C,f,_,aC,a,i,QY l c k)
def bk0{us:!au}(e:us.length=0):us=[]:=by
 obtain _|_:=us<;>first|rfl|simp at e
def bk1{us:!au}(e:us.length=1):∃a,us=[a]:=by
 obtain _|⟨_,_|_⟩:=us<;>first|exact(_,W)|simp at e
def bk2{us:!au}(e:us.length=2):∃a b,us=[a,b]:=by
 obtain _|⟨_,_|⟨_,_|_⟩⟩:=us<;>first|exact(_,_,W)|simp at e
def bk3{us:!au}(e:us.length=3):∃a b c,us=[a,b,c]:=by
 obtain _|⟨_,_|⟨_,_|⟨_,_|_⟩⟩⟩:=us<;>first|exact(_,_,_,W)|simp at e
def bk4{us:!au}(e:us.length=4):∃a b c d,us=[a,b,c,d]:=by
 obtain _|⟨_,_|⟨_,_|⟨_,_|⟨_,_|_⟩⟩⟩⟩:=us<;>first|exact(_,_,_,_,W)|simp at e
local macro_rules | `(tactic|walk_at "b") =>return mk0 "(T!paren [ (T!tacticSeq (T!tacticSeq1Indented (null (T!intro intro (null (M!hole _ ) (M!hole _ ) (M!hole _ ) (M!hole _ ) (M!hole _ ) (M!hole _ ) %us %hl ) ) ; (T!paren [ (T!tacticSeq (T!tacticSeq1Indented (null (T!first first (null (group | (T!tacticSeq (T!tacticSeq1Indented (null (T!tacticLet__ let (M!letConfig (null ) ) (M!letDecl (M!letPatDecl (M!anonymousCtor ⟨ (null (M!hole _ ) , %e ) ⟩ ) (null ) (null ) := (M!app %bk1 (null %hl ) ) ) ) ) ) ) ) ) (group | (T!tacticSeq (T!tacticSeq1Indented (null (T!tacticLet__ let (M!letConfig (null ) ) (M!letDecl (M!letPatDecl (M!anonymousCtor ⟨ (null (M!hole _ ) , (M!hole _ ) , %e ) ⟩ ) (null ) (null ) := (M!app %bk2 (null %hl ) ) ) ) ) ) ) ) ) (group | (T!tacticSeq (T!tacticSeq1Indented (null (T!tacticLet__ let (M!letConfig (null ) ) (M!letDecl (M!letPatDecl (M!anonymousCtor ⟨ (null (M!hole _ ) , (M!hole _ ) , (M!hole _ ) , %e ) ⟩ ) (null ) (null ) := (M!app %bk3 (null %hl ) ) ) ) ) ) ) ) ) (group | (T!tacticSeq (T!tacticSeq1Indented (null (T!tacticLet__ let (M!letConfig (null ) ) (M!letDecl (M!letPatDecl (M!anonymousCtor ⟨ (null (M!hole _ ) , (M!hole _ ) , (M!hole _ ) , (M!hole _ ) , %e ) ⟩ ) (null ) (null ) := (M!app %bk4 (null %hl ) ) ) ) ) ) ) ) ) (group | (T!tacticSeq (T!tacticSeq1Indented (null (T!tacticHave__ have (M!letConfig (null ) ) (M!letDecl (M!letIdDecl (M!letId %e ) (null ) (null ) := (M!app %bk0 (null %hl ) ) ) ) ) ) ) ) ) ) ) ) ) ) ] ) ; (T!subst subst (null %e ) ) ; (T!tacticRfl rfl ) ) ) ) ] )" #[]
section
variable {P:bh}{w:cW}{K:aV}{h base:cP}{mg:aP->↑au}{x c q:aP}{st:cH}{sp:Sp}{ps:!aP}{n:Nat}{C:aH}
structure EN(P:bh)(w:cW)(K:aV)(mg:aP->↑au)(base h:cP):Prop where
 X:K.In h
 G:h.Ns bc mg
abbrev CL(K:aV)(c:aP):Prop:=∃C,uw K bc c=Y (Y<|.ref C)/\LR K C/\makesIn K C=Z'/\BK K (.ref C)=Z'
abbrev NA(K:aV)(c f:aP):Prop:=∃C,uw K bc c=Y (Y<|.ref C)/\pK K C f
def acV(a:uw K bc c=Y (Y<|.ref C))(pg:plainGet K C Str.empty=Z')(hd:hasDictIn K C=Z')(po:plainOver K C=Z')(sa:vG K (.ref C) "__setattr__" = Y (Y<|.builtin "object.__setattr__"))(mk:makesIn K C=Z')(kc:BK K (.ref C)=Z'):CL K c:=(C,a,(pg,hd,po,sa),mk,kc)
def acJ(a:uw K bc c=Y (Y<|.ref C))(n:vG K (.ref C) x=Y M):NA K c x:=(C,a,n)
def af1(h:CL K c)(n:NA K c x):sj K c x:=by
 let(C,a,cl,_,_):=h;let(C',a',n):=n;intro D e;rw[a]at e a';cases e;cases a';exact(cl,n)
abbrev BB(x q:aP)(st:cH)(ps:!aP):Prop:=∀(kV WZ pm:au) (an:↑aH) (Zk ct:au) (us:!au),us.length=ps.length->bindArgs (fnOf x q (nB st) (fI st) (bu st) .none kV WZ pm an Zk ct) (us,[])=c9 (ps.zip us)
def FA.pY(q:FA K x st)(e:EN P w K mg base h)(o:∀f fd,fX K x x st f fd->b9 P w K mg base fx n f fd ps sp)(hb:autoParam (BB x x st ps) Ů):gP P w K mg base x n sp:=by
 let(f,fd,a,F):=q;exact(f,fd,ps,o f fd F,mg_of e.X e.G a,F.kp,F.binds hb)
def MA.tJ(r:MA K c x q st)(_:EN P w K mg base h)(h:CL K c)(o:∀f fd,fX K x q st f fd->b9 P w K mg base fx n f fd ps sp)(hb:autoParam (BB x q st ps) Ů):dZ P w K mg base c x n sp:=by
 let(C',f,fd,a',i,j,F):=r;let(C,a,cl,_,_):=h;rw[a]at a';cases a';exact(_,f,fd,ps,a,cl,(i,j,F.kp),o f fd F,F.binds hb)
def MA.Z4(r:MA K c "__init__" q st)(e:EN P w K mg base h)(k:CL K c)(o:∀f fd,fX K "__init__" q st f fd->b9 P w K mg base fx n f fd ps sp)(hb:autoParam (BB "__init__" q st ps) Ů):ur P w K mg base c n sp:=by
 let(C',f,fd,a',i,j,F):=r;let(C,a,cl,m,y):=k;rw[a]at a';cases a';exact(_,f,fd,ps,a,mg_of e.X e.G a,(m,i,j,y),o f fd F,F.binds hb)
end
def ZC{l:PySem.W.OpenLaw}{w:cW}{K:aV}{h:cP}{mg:aP->↑au}{fa:aH}(X:K.In h)(G:h.Ns bc mg)(hfa:mg "law" = Y (.ref fa))(c:CL K "Facts" /\CL K "Row" /\CL K "Coming" /\CL K "Lean")(n:∀p∈KL,NA K p.1 p.2)(z:∀x∈ZL,uw K bc x=Y M)(q:FA K "joined_asks" qy/\FA K "copied" B1/\FA K "copied_wish" qz/\FA K "meets" Ff/\FA K "can_hold" xc/\FA K "can_come" xg/\FA K "able_steps" sC/\FA K "top_row" yM/\FA K "_law_mix" OC/\FA K "_law_cells" yS/\FA K "_law_names" Fe/\FA K "_law_signs" Fd/\FA K "_law_depth" Fg/\FA K "_law_pop" OB/\FA K "_law_wish" C3/\FA K "_law_steps" yN/\FA K "_law_within" BY/\FA K "_law_holds" yR/\FA K "_law_answers" yU/\FA K "_law_nodes" yP/\FA K "_law_whole" Fc/\FA K "_law_numbers" yO/\FA K "_law_can_be" B2/\FA K "_law_open" J1/\FA K "_law_around" B3/\FA K "_law_longer" BZ/\FA K "_law_asked" Fh/\FA K "_law_hoped" yQ/\FA K "law" vZ)(r:MA K "Facts" "new_bit" "Facts.new_bit" n_/\MA K "Facts" "enter_step" "Facts.enter_step" lK/\MA K "Facts" "enter" "Facts.enter" mn/\MA K "Facts" "enter_text" "Facts.enter_text" lJ/\MA K "Facts" "lead" "Facts.lead" sD/\MA K "Facts" "asked" "Facts.asked" mo/\MA K "Facts" "enter_has" "Facts.enter_has" jn/\MA K "Facts" "__init__" "Facts.__init__" jJ/\MA K "Facts" "steps_for" "Facts.steps_for" mm/\MA K "Facts" "text_fact" "Facts.text_fact" ml/\MA K "Facts" "lifted" "Facts.lifted" pX/\MA K "Facts" "fitting" "Facts.fitting" og/\MA K "Row" "__init__" "Row.__init__" pU/\MA K "Coming" "gone_on" "Coming.gone_on" m6/\MA K "Coming" "moved_out" "Coming.moved_out" lL/\MA K "Coming" "waits" "Coming.waits" lb/\MA K "Coming" "__init__" "Coming.__init__" mq/\MA K "Coming" "begin_row" "Coming.begin_row" lN/\MA K "Coming" "spread" "Coming.spread" oi/\MA K "Coming" "add_atoms" "Coming.add_atoms" lO/\MA K "Coming" "settle" "Coming.settle" oj/\MA K "Coming" "newly_told" "Coming.newly_told" kR/\MA K "Coming" "end_row" "Coming.end_row" m7/\MA K "Coming" "feed" "Coming.feed" qB/\MA K "Coming" "has_ended" "Coming.has_ended" lM/\MA K "Lean" "__init__" "Lean.__init__" n9/\MA K "Lean" "take" "Lean.take" uJ/\MA K "Lean" "waiting" "Lean.waiting" pV/\MA K "Lean" "is_over" "Lean.is_over" pW):
  ∃fd:dt,(∀(s:aA) (v:au),NW s fd ([v],[]) [("_law_script",v)])/\∀base:cP,K.In base->base.Ns bc mg->b9 l.prog w K mg base fx 100 fa fd ["_law_script"] (gn K Hi):=by
 let(ie,acB,gX,Ex):=c;obtain⟨BE,GB,sP,K4,Au,Jj,D3,Nh,ab3,Vd,Va,U_,Vc,ab2,Q8,D2,Q7,K5,Cq,U',U9,Ni,GC,YY,Q_,Q9,Ve,Vb,⟨fL,fdL,aL,FL⟩⟩:=q;let(xP,tL,Bt,tK,Du,sG,nc,wq,u_,u9,zN,xQ,zK,wt,tN,zP,va,tR,xR,tS,xS,sd,wu,Bu,tO,xO,Gh,zL,zM):=r;have e:=hfa.symm.trans<|mg_of X G aL;cases e;have k:KS K mg:=(λp h=>af1 (by rcases(show ∀p∈KL,p.1 = "Facts" \/p.1 = "Row" \/p.1 = "Coming" \/p.1 = "Lean" by decide +kernel) p h with e|e|e|e<;>rw[e]<;>assumption)<|n p h,λx h=>mg_none_of X G<|z x h)
 let(oc,od,kV,WZ,pm,an,Zk,ct,osl,rfl,_):=FL.ex;refine(fnOf "law" "law" (nB vZ) (fI vZ) (bu vZ) .none kV WZ pm an Zk ct,λs v =>.of_eq W,λbase a a =>?_);have e:EN l.prog w K mg base h:=(X,G);have pP:=xP.tJ e ie λa a F=>wj F k
 have sX:=tL.tJ e ie λa a F=>rX F k pP.m
 have sr:=Bt.tJ e ie λa a F=>zo F sX.m
 have sW:=tK.tJ e ie λa a F=>rW F k pP.m
 have CV:=Du.tJ e ie λa a F=>Bn F k
 have Bg:=BE.pY e λa a F=>zj F
 have dU:∀n,dZ l.prog w K mg base "Facts" "asked" (n+3) (spT K aM<|cv n)/\dZ l.prog w K mg base "Facts" "enter_has" (n+3) (spT K aM<|cD n):=λn=>by
  induction n with
  |zero=>exact(sG.tJ (ps:=["self","wish"]) e ie λa a a=>z0T λa=>rfl,nc.tJ (ps:=["self","steps"]) e ie λa a a=>z0T λa=>rfl)
  |succ n ih=>let(sN,vf):=ih;exact(sG.tJ e ie λa a F=>(zq F sW.o vf sN Bg.o).mono ž,nc.tJ e ie λa a F=>(tH F sr.o CV.o sN).mono ž)
 have Bh:dZ l.prog w K mg base "Facts" "asked" 15<|spT K aM<|cv 12:=(dU 12).1;have JT:dZ l.prog w K mg base "Facts" "enter_has" 15<|spT K aM<|cD 12:=(dU 12).2;have vk:∀n,gP l.prog w K mg base "copied" (n+0) (gn K<|jE n)/\gP l.prog w K mg base "copied_wish" (n+0) (gn K<|c6 n):=λn=>by
  induction n with
  |zero=>exact(GB.pY (ps:=["steps"]) e λa a a=>ZS λa=>rfl,sP.pY (ps:=["wish"]) e λa a a=>ZS λa=>rfl)
  |succ n ih=>let(Qx,sM):=ih;exact(GB.pY e λa a F=>(MH F sM).mono ž,sP.pY e λa a F=>(zm F Qx sM).mono ž)
 have Og:gP l.prog w K mg base "copied" 12<|gn K<|jE 12:=(vk 12).1;have Sv:gP l.prog w K mg base "copied_wish" 12<|gn K<|c6 12:=(vk 12).2;have yk:∀n,gP l.prog w K mg base "meets" (n+0)<|gn K<|jX n:=λn=>by
  induction n with
  |zero=>exact K4.pY (ps:=["ask","atoms"]) e λa a a=>ZS λa=>rfl
  |succ n US=>exact K4.pY e λa a F=>(Pz F k US).mono ž
 have JS:gP l.prog w K mg base "meets" 12<|gn K<|jX 12:=yk 12;have t6:∀n,gP l.prog w K mg base "can_hold" (n+0)<|gn K<|fK n:=λn=>by
  induction n with
  |zero=>exact Au.pY (ps:=["wish"]) e λa a a=>ZS λa=>rfl
  |succ n IV=>exact Au.pY e λa a F=>(FT F k IV).mono ž
 have HI:gP l.prog w K mg base "can_hold" 12<|gn K<|fK 12:=t6 12;have vS:=wq.Z4 e ie λa a F=>uZ F k Og.m sr.m Bh.m
 have uH:=u_.tJ e ie λa a F=>tG F k
 have uG:=u9.tJ e ie λa a F=>tD F k
 have yC:=zN.tJ e ie λa a F=>xM F k JS.m
 have pQ:=xQ.tJ e ie λa a F=>wk F k JS.m
 have HJ:=Jj.pY e λa a F=>FU F
 have qq:=zK.Z4 e acB λa a F=>xI F k
 have CU:=D3.pY e λa a F=>Bm F k HI.m
 have L5:=Nh.pY e λa a F=>Ir F k qq.m
 have n5:=wt.tJ e gX λa a F=>u4 F k
 have sY:=tN.tJ e gX λa a F=>rY F k
 have yD:=zP.tJ e gX λa a F=>xN F k
 have uI:=va.Z4 e gX λa a F=>tI F k vS.m CU.m L5.m
 have s_:=tR.tJ e gX λa a F=>r4 F k qq.m pQ.m n5.m
 have pR:=xR.tJ e gX λa a F=>wm F k pQ.m yC.m
 have td:=tS.tJ e gX λa a F=>r8 F k pR.m
 have xE:=xS.tJ e gX λa a F=>wo F k n5.m
 have rV:=sd.tJ e gX λa a F=>qH F k xE.m
 have vT:=wu.tJ e gX λa a F=>u5 F k sY.m
 have Bi:=Bu.tJ e gX λa a F=>zr F k HJ.m vT.m s_.m pR.m td.m rV.m uH.m uG.m
 have sZ:=tO.tJ e gX λa a F=>rZ F k
 have xD:=xO.Z4 e Ex λa a F=>wh F k uI.m
 have ET:=Gh.tJ e Ex λa a F=>Dm F k Bi.m
 have yA:=zL.tJ e Ex λa a F=>xJ F k yD.m
 have yB:=zM.tJ e Ex λa a F=>xK F k sZ.m
 have aaw:=ab3.pY e λa a F=>X7 F
 have CT:=Vd.pY e λa a F=>PJ F k aaw.m
 have SW:=Va.pY e λa a F=>Py F k CT.m
 have SS:=U_.pY e λa a F=>Pw F k
 have S5:=Vc.pY e λa a F=>PH F k
 have JR:=ab2.pY e λa a F=>X6 F
 have wJ:∀n,gP l.prog w K mg base "_law_wish" (n+1) (B6 K 0<|eD n)/\gP l.prog w K mg base "_law_steps" (n+1) (B6 K 0<|e6 n):=λn=>by
  induction n with
  |zero=>exact(Q8.pY (ps:=["_law_draws","_law_deep","_law_some"]) e λa a a=>z0M λa=>rfl,D2.pY (ps:=["_law_draws","_law_deep","_law_some"]) e λa a a=>z0M λa=>rfl)
  |succ n ih=>let(Qw,UR):=ih;exact(Q8.pY e λa a F=>(Ue F k JR.o UR Qw).mono ž,D2.pY e λa a F=>(Pu F k JR.o Qw).mono ž)
 have aea:gP l.prog w K mg base "_law_wish" 13<|B6 K 0<|eD 12:=(wJ 12).1;have acZ:gP l.prog w K mg base "_law_steps" 13<|B6 K 0<|e6 12:=(wJ 12).2;have Od:=Q7.pY e λa a F=>ME F k
 have yl:∀n,gP l.prog w K mg base "_law_holds" (n+3) (gn K<|iH n)/\gP l.prog w K mg base "_law_answers" (n+3) (vL K<|iI n):=λn=>by
  induction n with
  |zero=>exact(K5.pY (ps:=["_law_nodes_here","_law_at","_law_wish_here"]) e λa a a=>ZS λa=>rfl,Cq.pY (ps:=["_law_nodes_here","_law_starts","_law_steps_here"]) e λa a a=>z0O λa=>rfl)
  |succ n ih=>let(KC,M4):=ih;exact(K5.pY e λa a F=>(PD F KC M4).mono ž,Cq.pY e λa a F=>(Iv F k KC Od.o).mono ž)
 have SY:gP l.prog w K mg base "_law_holds" 15<|gn K<|iH 12:=(yl 12).1;have L7:gP l.prog w K mg base "_law_answers" 15<|vL K<|iI 12:=(yl 12).2;have SU:=U'.pY e λa a F=>Px F k.y
 have SQ:=U9.pY e λa a F=>Pq F k
 have L6:=Ni.pY e λa a F=>Iu F k SQ.m
 have Am:∀n,gP l.prog w K mg base "_law_can_be" (n+0)<|gn K<|dD n:=λn=>by
  induction n with
  |zero=>exact GC.pY (ps:=["_law_wish_here"]) e λa a a=>ZS λa=>rfl
  |succ n Qy=>exact GC.pY e λa a F=>(MI F Qy).mono ž
 have Oh:gP l.prog w K mg base "_law_can_be" 12<|gn K<|dD 12:=Am 12;have W4:=YY.pY e λa a F=>Ug F k
 have Oi:=Q_.pY e λa a F=>MJ F
 have Oe:=D2.pY e λa a F=>MF (n:=11) F k JR.m (wJ 11).1
 have Of:=Q9.pY e λa a F=>MG F k JR.m
 have S8:=Ve.pY e λa a F=>PK F k Of.m Oe.m CT.m
 have SX:=Vb.pY e λa a F=>PB F k Oh.m SY.m Oi.m
 exact(X8 FL k xD.m SW.m S8.m CT.m SS.m SU.m L7.m L6.m SX.m W4.m S5.m ET.m yA.m yB.m).mono ſ
def walk{l:PySem.W.OpenLaw}{q:bh}{acX:!aP}{XP:(aP->↑au)->cP->Prop}{YP:cW->cP->Prop}{d:DefRec}{K:Params->aV}(hn:l.most=Y 63)(hdf:d.params.defaults=[])
  (hY:∀(w:cW) (h:cP),YP w h->(K w.params).In h)
  (F:∀(w:cW) (mg:aP->↑au) (fa:aH) (h:cP),(K w.params).In h->h.Ns bc mg->mg d.name=Y (.ref fa) ->
   ∃fd:dt,(∀(s:aA) (u:au),NW s fd ([u],[]) [("_law_script",u)])/\∀base:cP,(K w.params).In base->base.Ns bc mg->b9 l.prog w (K w.params) mg base fx 100 fa fd ["_law_script"] (gn (K w.params) Hi)) :
  PySem.W.WalkO q acX XP YP l.row.toRowW d [] (λf vs=>PySem.call f vs):=
 L2.Oc (n:=63) (k:=100) (x:= "_law_script") (CX:=fx) (sp:=λK=>gn K Hi) hn ſ hdf (W,ſ,ſ) hY F (λK H a ns hl hO hS=>Yq K21.Ql K H a ns hl hO hS) λb b b b z=>z
end K21
open PySem PySem.W PyProof.Rows
local macro_rules | `(command|#where) => return Lean.mkNullNode <|((List.range' 43 582).map (s!"o_{·}")++"sts_185 tree_92 tree_70 tree_421 sts_49 sts_93 tree_498 tree_579 heap_625 tree_184 tree_440 sts_441 tree_341 sts_71 sts_221 sts_244 tree_220 sts_580 tree_624 sts_425 view_39 tree_243 heap_46 sts_499 heap_39".splitOn " ").toArray.map fun x=>mk0 "(Lean.Parser.Command.declaration (Lean.Parser.Command.declModifiers (null ) (null ) (null ) (null ) (null ) (null ) (null ) ) (Lean.Parser.Command.theorem theorem (Lean.Parser.Command.declId $0 (null ) ) (Lean.Parser.Command.declSig (null ) (M!typeSpec : %True ) ) (Lean.Parser.Command.declValSimple := (M!anonymousCtor ⟨ (null ) ⟩ ) (Lean.Parser.Termination.suffix (null ) (null ) ) (null ) ) ) )" #[Lean.mkIdent (.str `PySem.W.Fast s!"tw{Lean.Name.hash (.str `PySem.Challenge.cw_earlysift_k22_whole_lean_tells_alike_holds x)}")]
#where
theorem PySem.W.Fast.tw18243557894517036:True:=⟨⟩
set_option tactic.hygienic true
set_option maxRecDepth 100000 in
set_option maxHeartbeats 0 in
theorem PySem.Challenge.cw_earlysift_k22_whole_lean_tells_alike_holds : PySem.Challenge.rw_earlysift_k22_whole_lean_tells_alike.Holds := by
  w_on; o_law; k_head; (case hw => w_witness2)
  k_fill
  refine K21.walk (l := PySem.Challenge.rw_earlysift_k22_whole_lean_tells_alike) W W (λw h y => PySem.W.kIn_of y) ?F
  case F =>
    intro w mg fa h KX G hmg
    refine' K21.ZC KX G hmg ?p1 ?p2 ?p3 ?p4 ?p5
    (case p1 => and_intros <;> exact K21.acV (by k_is) (by k_is) (by k_is) (by k_is) (by k_is) (by k_is) (by k_is))
    (case p2 => repeat' first |refine K21.ac (by dsimp only; exact K21.acJ (by k_is) (by k_is)) ?_ |exact nofun)
    (case p3 => repeat' first |refine K21.ac (by k_is) ?_ |exact nofun)
    (case p4 => and_intros <;> exact K21.acP (by k_is) (by k_is) (by k_is) (by k_is))
    (case p5 => and_intros <;> exact K21.acL (by k_is) (by k_is) (by k_is) (by k_is) (by k_is) (by k_is))
