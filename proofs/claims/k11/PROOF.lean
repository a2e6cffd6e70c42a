import PyProof.Rows.All
import Wide.All
import OpenK.AllK
import Wide.FinOn
import Lean
import PyProof.EqAt
import PyProof.EqKinds
import PyProof.TupleCall
import PyProof.NeKinds
import PyProof.StrCalls6
import PyProof.FString5
import PyProof.Rows.StrClose
import PyProof.Rows.BitMore
import PyProof.Rows.SortWalk
import PyProof.ListStr
import PyProof.Rows.SeqCalls
import PyProof.DictItems
import PyProof.SumWalk
import PyProof.Rows.SumGenD
import PySem.Challenge.RW_earlysift_k11_whole_none_else_ever_answe
open Option renaming some->Y,none->M,bind_eq_some_iff->aa,bind_some->ai,map_eq_some_iff->aq,map_some->cS,bind->pQ,map->Lu
open Bool renaming true->Z',false->Z_,and_eq_true->aA,or_eq_true->bU,false_ne_true->cF,false_eq_true->gR,eq_iff_iff->vY,not_false->Ly,and_false->Lz,or_true->Rv
open PySem.Str renaming ofString->ae
open Classical renaming byContradiction->af
open List renaming getElem?_eq_some_iff->ah,getElem?_eq_getElem->ao,getElem?_set_ne->au,length_map->az,mem_append_right->aG,mem_cons_self->aH,getElem?_append_left->aM,mem_append->aO,getElem?_map->aR,length_append->aS,mem_append_left->aT,mem_cons->aV,mem_cons_of_mem->aZ,getElem?_set_self->a7,map_cons->a_,replicate->bF,map_append->bT,append_assoc->bY,length_cons->bZ,mem_of_getElem?->cD,size_toArray->cK,range->cL,perm_append_comm_assoc->cQ,append_nil->cT,mem_iff_getElem->dN,mem_singleton->dR,nil_append->dS,nodup_append->eD,mem_map->eE,mem_filter->fc,zip_cons_cons->fR,set_cons_zero->fS,set_cons_succ->fT,all_eq_true->fX,drop_eq_getElem_cons->gF,length_singleton->gK,getElem?_eq_none_iff->i8,forall_mem_cons->jl,dropLast_concat->jm,all_map->jn,all_cons->jt,filterMap_cons->jG,getElem?_append_right->lh,lookup_cons->lS,cons_append->lT,find?_cons->mK,any_map->nV,length_filter_le->oV,not_mem_nil->oZ,drop_length->o5,any_cons->pz,length_nil->qu,mem_map_of_mem->qw,map_map->qZ,pairwise_cons->rL,mem_filterMap->rM,pairwise_iff_getElem->sY,length->tH,length_take->uS,getElem_mem->uT,zipWith->vS,map_set->vT,length_set->vV,getElem?_eq_none->xb,dropLast_eq_take->xc,replicate_succ->Aq,map_congr_left->Ar,map_take->Aw,map->Dk,length_range->Dl,getElem?_inj->Dm,ext_getElem?->Dp,zipIdx_cons->Fo,length_drop->Fp,filter->FK,of_mem_zip->HX,nodup_cons->HY,nodup_nil->Lv,getD_eq_getElem?_getD->Lw,getLast?_eq_some_iff->LJ,getLast?_eq_getElem?->LK,getElem?_replicate->Pa,getElem?_cons_succ->Pb,zipWith_cons_cons->Rq,range_succ_eq_map->Rr,map_nil->Rt,drop_eq_nil_of_le->Ru,replicate_succ'->VA,getLast?_concat->VB,filter_sublist->Wc
open PySem renaming Value->aj,starEach->ar,Shared->aw,wpAny_bind->ay,Addr->aD,Str->aJ,sizeLine->aY,mainGlobals->bC,Program->bE,model->bG,wpAny->bP,wpAny_pure->bS,foldedSetIterable->cM,attributeBase->cN,swapsWith->cY,Heap->dY,Stmt->d_,backTo->eS,World->fw,wpAny_passesOwn->fH,binaryOp->fJ,keywordEach->gr,cellsFrom->gu,FuncData->gw,compareOp->ik,wpAny_mono->iN,bootBuiltins->i4,behindInMarks->i5,wpAny_Call_Name_kw->jj,Around->jz,backToKw->ki,sysModules->kT,wpAny_truthy_bool->lW,wpAny_pyIter_list->lX,sizeLine_eq->mE,Keyword->n_,getMethod->oT,holding->pP,cLine->rK,wpAny_execs_nil->sX,standAt->tV,PassesOwn->ub,wpAny_setField_rec->uM,tupleKind_room_in1->uN,NameKind->uR,wpAny_holding->xa,callWith->x_,codeAny->An,assignEach->Ao,sliceBounds->Dj,call_meets->HW,getItem->Lp,codeAny_mono->Lq,callerA->Lr,BindsTo->LA,tupleKind->OX,wpAny_field->O9,subscripted->O_,letOwnedTupleGo->Rm,wpAny_seqItems->Vy
open PySem.Heap renaming get?_push_of_some->ak,lt_size->aQ,get?_push_size->bL,size_push->jo,SameBut->kU,get?_update_other->pU
open Nat renaming le_refl->aI,lt_of_lt_of_le->bD,le_trans->bX,ne_of_lt->cA,le_of_lt->cW,zero_le->gz,le_add_right->iO,testBit_or->jK,ne_of_gt->lR,zero_add->nU,lt_succ_self->oY,lt_irrefl->px,le_succ->pR,eq_of_testBit_eq->pT,testBit_and->qs,testBit_two_pow->Ap,zero_testBit->Fn,min_self->Rn,lt_trans->Ro,le_of_eq->Rp,mul_le_mul_right->Vz
open PySem.W renaming Frag->aX,nsIn->uO,findIn->x9,keepIn->AS,instObj->FF,emptyDict->FG
open Ne renaming symm->bQ
open Sum renaming inr->b_,inl->JU
open Option.some renaming inj->cB,injEq->jk
open Int renaming toNat_natCast->cC,emod_lt_of_pos->cV,emod_nonneg->c_,natCast_nonneg->j4,eq_ofNat_of_zero_le->mS,lt_trans->vU,fdiv_eq_ediv_of_nonneg->Lx,le_refl->VC
open Function renaming comp_def->cU
open PyProof.Rows renaming wpS_bind->dW,arrOf->eH,wpS_pure->iC,callWith_type1->iM,callWith_builtin1->oX,envOfC->rO,wpS_forRange->xH,pairsOf->xI,pendingOf->Dy,seqObj->FD,pairsOf_size->FE,IntsAre->FN,AllBare->FO,nat_or_add_and->JV,listItems_at->Wa,failedOf->Wb
open PySem.Builtin renaming bitOr->eN,bitNot->pV,bitAnd->uU
open Pure renaming pure->fK
open PySem.F renaming plainAttrs_list->g_
open PySem.Value renaming ref->il,type->uP,int->OY
open PySem.PassesOwn renaming never->jF
open Iff renaming rfl->jH
open Or renaming inl->nT,inr->AU
open List.Sublist renaming refl->nW
open PySem.Builtin.List renaming listTooLong->nX
open PySem.Txt renaming slice->oU,slice_le->Ls
open PySem.NameKind renaming free->rF,cell->FJ
open Array renaming perm_iff_toList_perm->rN,getElem?_eq_none->Rw
open PySem.Obj renaming mapSeq->uQ
open List.Perm renaming of_eq->vW
open ForInStep renaming yield->vX
open PySem.Calls renaming callWith_builtin->Au,spliced_cons->HZ,Name_function_global->VD
open Prod.mk renaming injEq->Av
open List.Pairwise renaming map->Dq,imp_of_mem->OZ
open PySem.Heap.IsList renaming push->O0
set_option bootstrap.genMatcherCode false
set_option compiler.extract_closed false
set_option genSizeOfSpec false
section
variable{g:Prop}
theorem fE1{p:α→Prop}(k:∀a,p a→g):(∃a,p a)→g:=λ⟨a,h⟩=>k a h
theorem fE2{p:α→β→Prop}(k:∀a b,p a b→g):(∃a b,p a b)→g:=λ⟨a,b,h⟩=>k a b h
theorem fE3{p:α→β→γ→Prop}(k:∀a b c,p a b c→g):(∃a b c,p a b c)→g:=λ⟨a,b,c,h⟩=>k a b c h
theorem fE4{p:α→β→γ→δ→Prop}(k:∀a b c d,p a b c d→g):(∃a b c d,p a b c d)→g:=λ⟨a,b,c,d,h⟩=>k a b c d h
theorem fE5{p:α→β→γ→δ→ε→Prop}(k:∀a b c d e,p a b c d e→g):(∃a b c d e,p a b c d e)→g:=λ⟨a,b,c,d,e,h⟩=>k a b c d e h
theorem fA1{p q:Prop}(k:p→q→g)(h:p∧q):g:=k h.1 h.2
theorem fA2{p q r:Prop}(k:p→q→r→g)(h:p∧q∧r):g:=k h.1 h.2.1 h.2.2
theorem fA3{p q r s:Prop}(k:p→q→r→s→g)(h:p∧q∧r∧s):g:=k h.1 h.2.1 h.2.2.1 h.2.2.2
theorem fA4{p q r s t:Prop}(k:p→q→r→s→t→g)(h:p∧q∧r∧s∧t):g:=k h.1 h.2.1 h.2.2.1 h.2.2.2.1 h.2.2.2.2
theorem fA5{p q r s t u:Prop}(k:p→q→r→s→t→u→g)(h:p∧q∧r∧s∧t∧u):g:=k h.1 h.2.1 h.2.2.1 h.2.2.2.1 h.2.2.2.2.1 h.2.2.2.2.2
theorem fA6{p q r s t u v:Prop}(k:p→q→r→s→t→u→v→g)(h:p∧q∧r∧s∧t∧u∧v):g:=k h.1 h.2.1 h.2.2.1 h.2.2.2.1 h.2.2.2.2.1 h.2.2.2.2.2.1 h.2.2.2.2.2.2
theorem fA7{p q r s t u v w:Prop}(k:p→q→r→s→t→u→v→w→g)(h:p∧q∧r∧s∧t∧u∧v∧w):g:=k h.1 h.2.1 h.2.2.1 h.2.2.2.1 h.2.2.2.2.1 h.2.2.2.2.2.1 h.2.2.2.2.2.2.1 h.2.2.2.2.2.2.2
end
open Lean in
def sx0(v:Array Syntax)(s:List String)(a:Array Syntax)(p:List (Name×Array Syntax)):Syntax:=match s with
 |[]=>a.getD 0 .missing
 |w::s=>
  let c:=w.front
  let r:=(w.drop 1).toString
  if w=="" then sx0 v s a p else if c=='(' then sx0 v s #[] ((r.toName,a)::p) else if c==')' then sx0 v s ((p.headD (.anonymous,#[])).2.push (mkNode (p.headD (.anonymous,#[])).1 a)) p.tail else sx0 v s (a.push (if c=='$' then v.getD (w.back.toNat-48) .missing else if c=='%' then mkIdent r.toName else mkAtom (if c=='[' then "(" else if c==']' then ")" else w))) p
def mk0(s:String)(v:Array Lean.Syntax):=sx0 v (((s.replace "T!" "Lean.Parser.Tactic.").replace "M!" "Lean.Parser.Term.").splitOn " ") #[] []
open Lean in
def fx0(A:Array Syntax):Syntax:=
 let n:=(A.size+1)/2
 let d(k:Nat):="$"++(Char.ofNat (48+k)).toString
 let h(k:Nat):="(T!rintroPat.one (T!rcasesPat.paren [ "++d k++" ] ) ) "
 mk0 ("(T!first first (null "++String.join (("fE5 fE4 fE3 fE2 fE1 fA7 fA6 fA5 fA4 fA3 fA2 fA1".splitOn " ").map fun f=>
  let i:=f.back.toNat-48
  if n<=i then "" else "(group | (T!tacticSeq (T!tacticSeq1Indented (null (T!refine refine (M!app %"++f++" (null (M!syntheticHole ? _ ) ) ) ) ; (T!«tactic_<;>_» (T!rintro rintro (null "++String.join ((List.range i).map h)++") (null ) ) <;> (T!rintro rintro (null "++(if n=i+1 then h i else "(T!rintroPat.one (T!rcasesPat.tuple ⟨ (null "++String.join (((List.range n).drop i).map (d ·++" , "))++") ⟩ ) )")++" ) (null ) ) ) ) ) ) ) ")++") )") ((Array.range n).map fun k=>A.getD (2*k) .missing)
def rx0(t e x:Lean.Syntax):=mk0 "(T!paren [ (T!tacticSeq (T!tacticSeq1Indented (null (T!refine refine (M!noImplicitLambda no_implicit_lambda% (M!app (M!typeAscription (M!hygienicLParen [ (hygieneInfo % ) ) (M!syntheticHole ? _ ) : (null (M!arrow $0 → (M!hole _ ) ) ) ] ) (null $1 ) ) ) ) ; $2 ) ) ) ] )" #[t,e,x]
open Lean in
local macro_rules(kind:=Lean.Parser.Tactic.obtain)
|s=>
 let p:=s[1][0][0][0]
 let e:=s[3][1][0]
 if s[1][0][0].getNumArgs !=1||!p.isOfKind `Lean.Parser.Tactic.rcasesPat.tuple||p[1].getNumArgs<3||!s[2].isNone then Macro.throwUnsupported else return rx0 (mk0 "(M!hole _ )" #[]) e (mk0 (if e.isIdent then "(T!paren [ (T!tacticSeq (T!tacticSeq1Indented (null (T!tacticTry_ try (T!tacticSeq (T!tacticSeq1Indented (null (T!clear clear (null $1 ) ) ) ) ) ) ; $0 ) ) ) ] )" else "$0") #[fx0 p[1].getArgs,e])
open Lean in
local macro_rules(kind:=Lean.Parser.Tactic.tacticLet__)
|s=>
 let d:=s[2][0]
 if !d[1].isNone then Macro.throwUnsupported else if d.isOfKind `Lean.Parser.Term.letIdDecl then return rx0 (if d[2].isNone then mk0 "(M!hole _ )" #[] else d[2][0][1]) d[4] (mk0 "(T!intro intro (null $0 ) )" #[d[0][0]])
 else if !d[0].isOfKind `Lean.Parser.Term.tuple&&!d[0].isOfKind `Lean.Parser.Term.anonymousCtor then Macro.throwUnsupported else do
  let z:=mkIdent (←Macro.addMacroScope `z)
  return mk0 "(T!obtain obtain (null (T!rcasesPatMed (null (T!rcasesPat.tuple ⟨ $0 ⟩ ) ) ) ) (null ) (null := (null $1 ) ) )" #[mkNullNode ((if d[0].getNumArgs==3&&d[0][0].isAtom then d[0][1].getArgs else #[d[0][1][0],d[0][1][1]]++d[0][1][2].getArgs).map fun x=>if x.isAtom then x else mk0 "(T!rcasesPatLo (T!rcasesPatMed (null (T!rcasesPat.one $0 ) ) ) (null ) )" #[if x.isIdent then x else z]),d[4]]
open Lean in
local macro_rules(kind:=Lean.Parser.Tactic.rintro)
|s=>
 let q:=s[1].getArgs
 match q.findIdx? fun x=>x[0].isOfKind `Lean.Parser.Tactic.rcasesPat.tuple&&x[0][1].getNumArgs>2 with
 |none=>Macro.throwUnsupported
 |some i=>return if q.size<2 then fx0 q[i]![0][1].getArgs else mk0 "(T!«tactic_<;>_» (T!«tactic_<;>_» (T!rintro rintro $0 (null ) ) <;> (T!rintro rintro (null $1 ) (null ) ) ) <;> (T!rintro rintro $2 (null ) ) )" #[mkNullNode (q.extract 0 i),q[i]!,mkNullNode (q.extract (i+1) q.size)]
noncomputable section
set_option maxRecDepth 100000
set_option maxHeartbeats 4000000
open PySem.W (Frag mg_of nsIn mg_none_of findIn kia_one fnOf emptyDict keepIn instObj kitOne codeIn plainGet hasDictIn plainOver takerIn makesIn methodObj lookIn)
open PySem.F (plainAttrs_list)
set_option Elab.async false
set_option tactic.hygienic false
set_option linter.all false
def tq0(s:String):=mk0 ("(T!tacticSeq (T!tacticSeq1Indented (null "++s++" ) ) )") #[]
def Ū:=tq0 "(T!decide decide (T!optConfig (null ) ) )"
def š:=tq0 "(T!omega omega (T!optConfig (null ) ) )"
def ŝ:=tq0 "(T!lia lia (T!optConfig (null ) ) )"
def Ŝ:=tq0 "(T!simp simp (T!optConfig (null ) ) (null ) (null ) (null ) (null ) )"
def ś:=tq0 "(T!simpAll simp_all (T!optConfig (null ) ) (null ) (null ) (null ) )"
def Ś:=tq0 "(tacticKernel_rfl kernel_rfl )"
def ř:=tq0 "(T!solveByElim solve_by_elim (null ) (T!optConfig (null ) ) (null ) (null ) (null ) )"
def Ř:=tq0 "(T!grind grind (T!optConfig (null ) ) (null ) (null ) (null ) )"
def ţ:=tq0 "(T!decide decide (T!optConfig (null (T!configItem (T!posConfigItem + %kernel ) ) ) ) )"
def Ű:=tq0 "(T!first first (null (group | (T!tacticSeq (T!tacticSeq1Indented (null (T!exact exact (M!app %nT (null %rfl ) ) ) ) ) ) ) (group | (T!tacticSeq (T!tacticSeq1Indented (null (T!exact exact (M!app %AU (null (M!paren (M!hygienicLParen [ (hygieneInfo % ) ) (M!app %nT (null %rfl ) ) ] ) ) ) ) ) ) ) ) (group | (T!tacticSeq (T!tacticSeq1Indented (null (T!exact exact (M!app %AU (null (M!paren (M!hygienicLParen [ (hygieneInfo % ) ) (M!app %AU (null %rfl ) ) ] ) ) ) ) ) ) ) ) ) )"
def Ů:=tq0 "(PyProof.Rows.tacticWalk_at_ walk_at (str \"b\" ) )"
def Ŭ:=tq0 "(T!tacticRfl rfl )"
def ũ:=tq0 "(T!intro intro (null (M!hole _ ) ) ) ; (T!tacticRfl rfl )"
def ŧ:=tq0 "(T!first first (null (group | (T!tacticSeq (T!tacticSeq1Indented (null (T!exact exact (M!app (M!dotIdent . %inl ) (null %rfl ) ) ) ) ) ) ) (group | (T!tacticSeq (T!tacticSeq1Indented (null (T!exact exact (M!app (M!dotIdent . %inr ) (null %rfl ) ) ) ) ) ) ) (group | (T!tacticSeq (T!tacticSeq1Indented (null (T!assumption assumption ) ) ) ) ) ) )"
def ť:=tq0 "(T!intro intro (null %a ) ) ; (T!simpAll simp_all (T!optConfig (null ) ) (null ) (null ) (null ) )"
def Š:=tq0 "(T!exact exact (M!fun λ (M!basicFun (null %a %a ) (null ) => %rfl ) ) )"
def ŗ:=tq0 "(PyProof.Rows.tacticWalk_at_ walk_at (str \"s\" ) )"
def Ŗ:=tq0 "(PyProof.Rows.tacticWalk_at_ walk_at (str \"o\" ) )"
def ŕ:=tq0 "(T!first first (null (group | (T!tacticSeq (T!tacticSeq1Indented (null (T!exact exact (M!app %MV (null (M!hole _ ) %ſ %ſ ) ) ) ) ) ) ) (group | (T!tacticSeq (T!tacticSeq1Indented (null (T!tacticRfl rfl ) ) ) ) ) ) )"
def Ŕ:=tq0 "(T!intro intro (null (M!hole _ ) ) ) ; (T!tacticRfl rfl )"
def œ:=tq0 "(T!intro intro (null %s %t %h1 %h2 ) ) ; (T!exact exact (M!app %Tt (null %h1 %h2 %OV ) ) )"
def Œ:=tq0 "(T!exact exact %PyProof.Rows.boot_list )"
def ő:=tq0 "(T!first first (null (group | (T!tacticSeq (T!tacticSeq1Indented (null (T!exact exact (M!app %lM (null %rfl %rfl %rfl %rfl ) ) ) ) ) ) ) (group | (T!tacticSeq (T!tacticSeq1Indented (null (T!exact exact (M!app %Q4 (null %rfl %rfl ) ) ) ) ) ) ) ) )"
def Ő:=tq0 "(T!exact exact (M!fun λ (M!basicFun (null %n %g %g %g %g ) (null ) => (M!app %jb (null %n %rfl (M!paren (M!hygienicLParen [ (hygieneInfo % ) ) (M!app (M!dotIdent . %inl ) (null %rfl ) ) ] ) ) ) ) ) )"
def ŏ:=tq0 "(T!assumption assumption )"
theorem ſ{p:Prop}(h:autoParam p Ū):p:=h
theorem ž{p:Prop}(h:autoParam p š):p:=h
theorem Ž{p:Prop}(h:autoParam p ŝ):p:=h
theorem ż{p:Prop}(h:autoParam p Ŝ):p:=h
theorem Ż{p:Prop}(h:autoParam p ś):p:=h
theorem ź{p:Prop}(h:autoParam p Ś):p:=h
theorem Ÿ{p:Prop}(h:autoParam p ř):p:=h
theorem ŷ{p:Prop}(h:autoParam p Ř):p:=h
theorem Ų{p:Prop}(h:autoParam p ţ):p:=h
namespace L2
open PySem PySem.Spec PyProof.Rows
abbrev l_:=Sum Int aJ
noncomputable def Bk:l_->aj->Bool
 |.inl k,v=>Value.isInt k v|.inr x,v=>Value.isStrOf x v
noncomputable def aam(w:fw):l_->Int
 |.inl k=>hashInt k|.inr x=>hashStr w x
theorem iH:∀ {k:l_}{v:aj},Bk k v=Z'->(∃i t,k=JU i/\v=OY i t)\/(∃x t,k=b_ x/\v=Value.str x t)
 |.inl i,v,h=>by let(t,e):=Value.isInt_shape h;exact .inl ⟨i,t,rfl,e⟩
 |.inr x,v,h=>by let(t,e):=Value.isStrOf_shape h;exact .inr ⟨x,t,rfl,e⟩
def KA(i:Int)(t:Tok):Bk (.inl i) (.int i t)=true:=by simp[Bk,Value.isInt]
def Kz(x:aJ)(t:Tok):Bk (.inr x) (.str x t)=true:=by simp[Bk,Value.isStrOf]
def Us(a b:Int):decide ((JU a:l_)=JU b)=(a==b):=by
 grind
def Uo(a b:aJ):decide ((b_ a:l_)=b_ b)=decide (a=b):=by
 simp_all
def Ur(a:Int)(b:aJ):decide ((JU a:l_)=b_ b)=false:=decide_eq_false λq=>nomatch q
def Uq(a:aJ)(b:Int):decide ((b_ a:l_)=JU b)=false:=decide_eq_false λq=>nomatch q
def jX(prog:bE)(w:fw):PySem.KeyKind prog w l_ where
 is:=Bk
 hash:=aam w
 inj:=λv a b l f=>by
  rcases iH l with⟨i,t,rfl,rfl⟩|⟨x,t,rfl,rfl⟩
  .rcases iH f with⟨j,u,rfl,e⟩|⟨y,u,rfl,e⟩
   .injection e with e1 _;rw[e1]
   .exact nomatch e
  .rcases iH f with⟨j,u,rfl,e⟩|⟨y,u,rfl,e⟩
   .exact nomatch e
   .injection e with e1 _;rw[e1]
 byValue:=λk v h=>by
  rcases iH h with⟨i,t,rfl,rfl⟩|⟨x,t,rfl,rfl⟩<;>rfl
 pyHash:=λc h=>by
  rcases iH c with⟨i,t,rfl,rfl⟩|⟨x,t,rfl,rfl⟩
  .exact wpAny_pyHash_int h
  .exact wpAny_pyHash_str h
 eqBool:=λg c h=>by
  rcases iH g with⟨i,t,rfl,rfl⟩|⟨x,t,rfl,rfl⟩
  .rcases iH c with⟨j,u,rfl,rfl⟩|⟨y,u,rfl,rfl⟩
   .rw[Us]at h;exact wpAny_eqBool_int h
   .rw[Ur]at h;exact SeqAt.EqAt.int_str i t y u _ _ _ _ h
  .rcases iH c with⟨j,u,rfl,rfl⟩|⟨y,u,rfl,rfl⟩
   .rw[Uq]at h;exact SeqAt.EqAt.str_int x t j u _ _ _ _ h
   .rw[Uo]at h;exact wpAny_eqBool_str h
 «strs» :=λk x t v h=>by
  rcases iH h with⟨i,u,rfl,e⟩|⟨y,u,rfl,e⟩
  .exact nomatch e
  .injection e with e1 _
   subst e1
   cases v<;>rfl
def Es(prog:bE)(w:fw)(i:Int)(t:Tok):(jX prog w).is (.inl i) (.int i t)=true:=KA i t
def Er(prog:bE)(w:fw)(x:aJ)(t:Tok):(jX prog w).is (.inr x) (.str x t)=true:=Kz x t
inductive V where
 |gA|bl (b:Bool)|int (i:Int)|str (x:aJ)|HG (b:Array UInt8)|UQ (b:UInt64)|ref (a:aD)|ty (n:String)
 deriving DecidableEq
def RelV:V->aj->Prop
 |.gA,u=>u=Value.none|.bl b,u=>u=Value.bool b|.int i,u=>∃t,u=OY i t|.str x,u=>∃t,u=Value.str x t|.HG b,u=>∃t,u=Value.bytes b t|.UQ b,u=>∃t,u=Value.float b t|.ref a,u=>u=il a|.ty n,u=>u=uP n
abbrev cR:List V->List aj->Prop:=Paired RelV
def cR.length{xs:List V}{a:List aj}(r:cR xs a):xs.length=a.length:=Paired.length r
theorem cR.get:∀ {xs:List V}{a:List aj}{i:Nat}{x:V},cR xs a->xs[i]?=Y x->∃u,a[i]?=Y u/\RelV x u
 |_,_,_,_,.nil,e=>by simp at e
 |_,_,0,_,.cons r _,e=>by simp_all
 |_,_,i+1,x,.cons _ t,e=>by let(u,J,z):=cR.get (i:=i) (x:=x) t Ż;exact⟨u,Ż,z⟩
theorem cR.set{u:aj}(r:RelV x u):∀ {xs:List V}{a:List aj}(i:Nat),cR xs a->cR (xs.set i x) (a.set i u)
 |_,_,_,.nil =>.nil|_,_,0,.cons _ t =>.cons r t|_,_,i+1,.cons q t =>.cons q (cR.set r i t)
def cR.append{xs ys:List V}{b a:List aj}(h:cR xs b)(s:cR ys a):cR (xs++ys) (b++a):=by
 induction h with|nil=>exact s|cons r _ ih=>solve_by_elim
theorem cR.take:∀ {xs:List V}{a:List aj}(n:Nat),cR xs a->cR (xs.take n) (a.take n)
 |_,_,0,_ =>.nil|_,_,_+1,.nil =>.nil|_,_,n+1,.cons r t =>.cons r (cR.take n t)
theorem cR.drop:∀ {xs:List V}{a:List aj}(n:Nat),cR xs a->cR (xs.drop n) (a.drop n)
 |_,_,0,r=>r|_,_,_+1,.nil =>.nil|_,_,n+1,.cons _ t=>cR.drop n t
def sR:Option V->Option aj->Prop
 |some v,Y u=>RelV v u|none,M=>True|_,_=>False
def KV{a:Type}:List (a×V)->List (a×aj)->Prop:=Paired λ(p:a×V) (q:a×aj)=>p.1=q.1/\RelV p.2 q.2
noncomputable def kV:l_->V
 |.inl i =>.int i|.inr x =>.str x
inductive HO where
 |lst (xs:List V)
 |tup (xs:List V)
 |dK (iG:List (l_×V))|dT (iG:List (List l_×V))
 |set (S:Int->Bool) (n:Nat)
 |ins (C dx:aD) (fs:List (aJ×V))
 |Z (x:aD)
 |xd (fs:List (aJ×V))
 |met (f x:aD)
 |ZU (lo hi:Int)
 |NP (o:Obj) (u:HO)
 |Sw (ps:Array aj)
 |ext (φ:dY->Prop)
abbrev Hp:=aD->Option HO
noncomputable def fD(H:Hp)(a:aD)(o:HO):Hp:=λb=>if b=a then Y o else H b
def bB{a:aD}{o:HO}:fD H a o a=Y o:=by unfold fD;rw[if_pos rfl]
theorem aP{a:aD}{o:HO}(h:b≠a):fD H a o b=H b:=by unfold fD;rw[if_neg h]
def Pd{o:HO}:fD (fD H a o) a u=fD H a u:=by
 grind [fD]
def Eo{H:Hp}{a:aD}(h:H a=Y o)(h':H b=Y u)(d:o≠u):a≠b:=by
 grind
def bM{H:Hp}(h:H a=Y o)(h':H b=M):a≠b:=by
 grind
section
variable (P:bE)(w:fw)
def j7(H:Hp)(h:dY)(a:aD):HO->Prop
 |.lst xs=>xs.length<=aY/\∃(g:List aj) (b:Nat),cR xs g/\h.get? a=Y { cls :=.type "list",data :=.seq g.toArray b }|.tup xs=>xs.length<=aY/\∃g:List aj,cR xs g/\IsTup h a g.toArray|.dK e=>e.length<=aY/\(a==kT)=Z_/\∃l,KV e l/\h.DictOf (jX P w) a l| .dT e=>e.length<=aY/\(a==kT)=Z_/\∃xs:List (List l_×aD×aj),
   Paired (λ(p:List l_×V) (c:List l_×aD×aj)=>p.1=c.1/\H c.2.1=Y (.tup (p.1.map kV))/\RelV p.2 c.2.2) e xs /\
   ∃o es m,h.get? a=Y o/\o.ExactDict/\o.data=.dict es m/\es.toList=xs.map (entryOfKey (OX (jX P w)))/\(xs.map (·.1)).Nodup
 |.set S b=>h.SetOf (intKind P w) a S b| .ins C dx j=>H dx=Y (.Z a)/\j.length<=1000/\dx≠a/\h.get? a=Y (FF C dx) /\
   ∃mA,h.Ns1 dx mA/\(∀f,sR (j.lookup f) (mA f))/\PySem.Within mA (j.map (·.1))
 |.Z _=>∃o,h.get? a=Y o|.xd j=>∃mA,h.Ns1 a mA/\∀f,sR (j.lookup f) (mA f)|.ZU n L=>∃t u v,h.get? a=Y { cls :=.type "range",data :=.fields #[.int n t,.int L u,.int 1 v] }|.NP o u=>h.get? a=Y o/\j7 H h a u|.Sw q=>h.get? a=Y { cls :=.none,data :=.fields q }|.met f x=>h.get? a=Y (methodObj (.ref f) (.ref x))
 |.ext k=>k h/\(∃o,h.get? a=Y o)/\∀J z:dY,k J->(∀o,J.get? a=Y o->z.get? a=Y o)->k z
def pL(H:Hp)(h:dY):Prop:=∀a o,H a=Y o->j7 P w H h a o
end
section
variable {P:bE}
def j7.lt(x:j7 P w H h a o):a<h.objs.size:=by
 cases o with
 |lst xs=>let⟨_,_,_,_,e⟩:=x;exact aQ e
 |tup xs=>let⟨_,_,_,p⟩:=x;exact p.lt
 |set S b=>let⟨o,_,_,_,e,_⟩:=x;exact aQ e
 |ins C dx j=>let⟨_,_,_,e,_⟩:=x;exact aQ e
 |Z y=>let⟨_,e⟩:=x;exact aQ e
 |xd j=>obtain⟨_,⟨_,_,_,e,_⟩,_⟩:=x;exact aQ e
 |ZU n L=>let⟨_,_,_,e⟩:=x;exact aQ e
 |NP k u=>let⟨e,_⟩:=x;exact aQ e
 |Sw q=>exact aQ x|met f y=>exact aQ x|ext g=>obtain⟨_,⟨_,e⟩,_⟩:=x;exact aQ e
 |_=>let⟨_,_,_,_,o,_,_,e,_⟩:=x;exact aQ e
def Paired.Xa{h g:Type}{F G:h->g->Prop}{e:List h}{c:List g}(p:Paired F e c)(f:∀a b,F a b->G a b):Paired G e c:=by
 induction p with|nil=>exact .nil|cons r _ ih=>solve_by_elim
def j7.AA(x:j7 P w H h a o)(k:∀b u,(b=a\/H b=Y (.Z a))->h.get? b=Y u->h'.get? b=Y u)(Q:∀b,H b=Y (.Z a)->H' b=Y (.Z a))(i:∀b xs,H b=Y (.tup xs)->H' b=Y (.tup xs)):j7 P w H' h' a o:=by
 induction o with
 |lst xs=>let⟨z,A,g,r,e⟩:=x;exact⟨z,A,g,r,k _ _ (.inl rfl) e⟩
 |tup xs=>let⟨z,A,r,m,e,c⟩:=x;exact⟨z,A,r,m,k _ _ (.inl rfl) e,c⟩
 |dK E=>let⟨z,y,F,r,m,es,s,e,c⟩:=x;exact⟨z,y,F,r,m,es,s,k _ _ (.inl rfl) e,c⟩
 |dT E=>let⟨z,y,xs,r,m,es,s,e,c⟩:=x;exact⟨z,y,xs,Paired.Xa r λp l z=>⟨z.1,i _ _ z.2.1,z.2.2⟩,m,es,s,k _ _ (.inl rfl) e,c⟩
 |set S g=>let⟨m,es,s,t,e,c⟩:=x;exact⟨m,es,s,t,k _ _ (.inl rfl) e,c⟩
 |ins C dx j=>obtain⟨d,z,K,e,mA,⟨D,es,s,R,c⟩,r⟩:=x;exact⟨Q _ d,z,K,k _ _ (.inl rfl) e,mA,⟨D,es,s,k _ _ (.inr d) R,c⟩,r⟩
 |Z y=>let⟨m,e⟩:=x;exact⟨m,k _ _ (.inl rfl) e⟩
 |xd j=>obtain⟨mA,⟨D,es,s,e,c⟩,r⟩:=x;exact⟨mA,⟨D,es,s,k _ _ (.inl rfl) e,c⟩,r⟩
 |ZU n L=>let⟨t,u,v,e⟩:=x;exact⟨t,u,v,Ÿ⟩
 |NP m u ih=>let⟨e,l⟩:=x;exact⟨k _ _ (.inl rfl) e,ih l⟩
 |Sw q=>solve_by_elim|met f y=>solve_by_elim|ext T=>obtain⟨p,⟨o,e⟩,st⟩:=x;exact⟨st _ _ p λo l=>k _ _ (.inl rfl) l,Ż,st⟩
def pL.lt(x:pL P w H h)(e:H a=Y o):a<h.objs.size:=(x a o e).lt
def pL.fresh(x:pL P w H h)(e:h.objs.size<=a):H a=none:=by
 rcases q:H a with _|u
 .rfl
 exact absurd (bD (x.lt q) e) Ż
def pL.kept(x:pL P w H h)(k:∀b u,h.get? b=Y u->h'.get? b=Y u):pL P w H h':=λa o e=>
 (x a o e).AA (λb u c q=>k b u q) (λc q=>q) λc c q=>q
def pL.laid(x:pL P w H h)(k:∀b u,h.get? b=Y u->h'.get? b=Y u)(m:h.objs.size<=a)(f:j7 P w (fD H a o) h' a o):pL P w (fD H a o) h':=λb u e=>by
 let g:=x.fresh m;by_cases l:b=a
 .simp_all [bB]
 .rw[aP l]at e;exact(x b u e).AA (λc v d q=>k c v q) (λc q=>by rw[aP (bM q g)];exact q) λc xs q=>by rw[aP (bM q g)];exact q
end
def Rd(H:Hp)(a:aD)(u:HO):Prop:=H a=Y u\/∃o,H a=Y (.NP o u)
def Rd.of(h:H a=Y u):Rd H a u :=.inl h
def Rd.ok{P:bE}{a:aD}(r:Rd H a u)(x:pL P w H h):j7 P w H h a u:=by
 rcases r with r|⟨o,r⟩
 .exact x a u r
 .let⟨_,q⟩:=x a _ r;exact q
def Yl:Option HO->Prop
 |some (.lst _)=>True|some (.dK _)=>True|some (.dT _)=>True|some (.set _ _)=>True|some (.ins _ _ _)=>True|some (.ext _)=>True|_=>False
section
variable {P:bE}
def pL.write(C:pL P w H h)(l:Yl (H x))(A:e=x\/H e=Y (.Z x))(k:∀b u,b≠e->h.get? b=Y u->h'.get? b=Y u)(s:∃u,h'.get? e=Y u)(p:j7 P w (fD H x o') h' x o'):pL P w (fD H x o') h':=λb u q=>by
 have f:∀c y,H c=Y (.Z y)->c≠x:=λc y r z=>by subst z;rw[r]at l;exact l
 have g:∀c xs,H c=Y (.tup xs)->c≠x:=λc xs r z=>by subst z;rw[r]at l;exact l
 by_cases o:b=x
 .subst o;rw[bB]at q;cases q;exact p
 .rw[aP o]at q;by_cases a:b=e
  .let t:H b=Y (.Z x):=by lia
   rw[q]at t;cases t;let(v,D):=s;exact⟨v,Ż⟩
  .refine(C b u q).AA (λc v m r=>k c v ?_ r) λc r=>by simp_all [aP] λc xs r=>by simp_all [aP]
   grind
end
structure Un(fs ex:List aD)(H H':Hp)(h h':dY):Prop where
 keep:∀b o,h.get? b=some o->H b=none->b∉fs->b∉ex->h'.get? b=some o
 slot:∀b o,h.get? b=some o->H b=none->b∈fs->b∉ex->∃sl,h'.get? b=some { o with slots:=sl }
 free:∀b o,h.get? b=some o->H b=none->b∉ex->H' b=none
 there:∀b o,h.get? b=some o->b∉ex->∃o',h'.get? b=some o'
 DD:∀b xs,H b=some (.tup xs)->H' b=some (.tup xs)
 CK:∀b o u,H b=some (.NP o u)->H' b=some (.NP o u)
 DH:∀b ps,H b=some (.Sw ps)->∃more,H' b=some (.Sw (ps++more))
def Un.any(u:Un j ex H O h J){a:Obj}(q:h.get? b=Y a)(n:H b=M)(c:b∉ex):∃f,J.get? b=Y { a with slots:=f }:=by
 by_cases e:b∈j
 .exact u.slot b a q n e c
 .exact⟨_,u.keep b a q n e c⟩
def Un.kept(k:∀b u,h.get? b=Y u->h'.get? b=Y u):Un j ex H H h h':=
 ⟨λb c a d d d=>k b c a,λb c a d d d=>⟨_,k b c a⟩,λd d d n d=>n,λb c a d=>⟨c,k b c a⟩,λd d a=>a,λd d d a=>a,λd q a=>⟨#[],by rw[a];simp⟩⟩
def Un.refl:Un j ex H H h h:=Un.kept λa a q=>q
def Un.laid(k:∀b u,h.get? b=Y u->h'.get? b=Y u)(f:h.objs.size<=a)(e:H a=M):Un j ex H (fD H a o) h h' where
 keep:=λb u c d d d=>k b u c
 slot:=λb u c d d d=>⟨u.slots,k b u c⟩
 free:=λb u c n d=>by rw[aP (cA (bD (aQ c) f))];exact n
 there:=λb u c d=>⟨u,k b u c⟩
 DD:=λb xs c=>by rw[aP (bM c e)];exact c
 CK:=λb u xs c=>by rw[aP (bM c e)];exact c
 DH:=λb q c=>⟨#[],by rw[aP (bM c e),c];simp⟩
def Un.write(f:Yl (H x))(s:e=x\/H e=Y (.Z x))(k:∀b u,b≠e->h.get? b=Y u->h'.get? b=Y u)(l:∃u,h'.get? e=Y u):Un j ex H (fD H x o) h h':=by
 have m:∀b,H b=M->b≠x:=λb n z=>by subst z;rw[n]at f;exact f
 have p:∀b,H b=M->b≠e:=λb n z=>by simp_all
 have g:∀b u,H b=Y u->¬Yl (Y u)->b≠x:=λb u a nm z=>by simp_all
 refine⟨λb u a n c c=>k b u (p b n) a,λb u a n c c=>⟨_,k b u (p b n) a⟩,λb u a n c=>by simp_all [aP],λb u a c =>?_,
  λb xs a=>by rw[aP (g b _ a λz=>z)];exact a,λb u xs a=>by rw[aP (g b _ a λz=>z)];exact a,λb q a=>⟨#[],by rw[aP (g b _ a λz=>z),a];simp⟩⟩
 grind
noncomputable def trk(h:dY)(H:Hp):List aD:=(cL h.objs.size).filter λa=>(H a).isSome
def Hd(h:dY)(H:Hp):dY:=PySem.W.hideAll h (trk h H)
def KO(h:dY)(H:Hp):(Hd h H).objs.size=h.objs.size:=PySem.W.hideAll_size _ _
def Nt(e:h.get? b=Y o)(n:H b=M):(Hd h H).get? b=Y o:=
 PySem.W.hideAll_get _ e λa=>by
  let q:=(fc.mp a).2
  simp_all
def P9(e:(Hd h H).get? b=Y o):h.get? b=Y o/\H b=none:=by
 let a:=PySem.W.of_hideAll _ e;refine⟨a,?_⟩;rcases q:H b with _|x
 .rfl
 simp_all [trk,aQ,Hd,PySem.W.hideAll_none]
structure Mod(K:aX)(mg:aJ->Option aj)(base:dY):Prop where
 Xg:K.In base
 glob:base.Ns bC mg
 blt:∃mb,base.Ns builtinsNs mb/\∀x:aJ,x ≠ "__name__" ->mb x=i4 x
 nolimit:base.NoLimit
structure Cx where
 prog:bE
 w:fw
 K:aX
 mg:aJ->Option aj
 base:dY
 A:jz
 N:List aJ
 s₀:aw
 H₀:Hp
 env:Env
 outer:List Env
 stack:List Env
 ex:List aD
 fn:aJ->Bool
 calm:Bool
 pn:List (aD×Obj)
 xe:aj->aw->Prop
noncomputable def Dv(l:List Env):List aD:=l.filterMap (·.frame)
abbrev Cx.fs(X:Cx):List aD:=Dv X.outer
def Vp(a:Scope)(x:aJ):Prop:=a.names.lookup x=Y .local\/a.names.lookup x=Y .cell\/a.names.lookup x=Y .free
def Loc(a:Scope)(x:aJ):Prop:=a.names.lookup x=Y .local\/a.names.lookup x=Y .cell
def Look(a:Env)(h:dY)(m:aJ->Option aj)(x:aJ)(u:aj):Prop:=
 (a.kindOf x=Y .local/\m x=Y u)\/((a.kindOf x=Y .cell\/a.kindOf x=Y .free)/\∃c,a.cells.lookup x=Y c/\h.IsCell c (Y u))
structure Cx.Ok(X:Cx):Prop where
 mod:Mod X.K X.mg X.base
 kind:X.env.scope.kind=.function
 glob:X.env.globals=bC
 blt:X.env.builtins=builtinsNs
 above:X.s₀.heap.objs.size<=X.env.locals
 inj:∀x y c,X.env.cells.lookup x=some c->X.env.cells.lookup y=some c->x=y
 has:∀x,(X.env.kindOf x=some .cell\/X.env.kindOf x=some .free)->∃c,X.env.cells.lookup x=some c
 Yb:∀x c,X.fn x=true->X.env.cells.lookup x=some c->X.s₀.heap.objs.size<=c
 hd:X.calm=true->X.A.handled=none
 frames:X.A.frames=some X.stack
 YB:X.stack=X.outer\/(X.stack=X.env::X.outer/\X.env.frame=some X.env.locals)
 exf:∀b∈X.ex,b≠X.env.locals/\∀x c,X.env.cells.lookup x=some c->c≠b
 bs:∀b o,X.base.get? b=some o->X.s₀.heap.get? b=some o/\X.H₀ b=none
 Q2:X.base.objs.size<=X.s₀.heap.objs.size
 MU:∀b o,X.base.get? b=some o->b∉X.ex
 QE:∀b∈X.ex,b∉X.fs
 xY:X.s₀.heap.FunFrames X.base X.outer
 UP:∀b∈X.fs,X.H₀ b=none
structure Inv(X:Cx)(Di:List (aD×Obj))(σ:List (Option V))(H:Hp)(s:aw):Prop where
 ok:X.Ok
 os:s.os=X.s₀.os
 bare:FO s.gens
 base:Un X.fs X.ex X.H₀ H X.s₀.heap s.heap
 loc:∃m,s.heap.Ns X.env.locals m/\∀(i:Nat) (x:aJ) (v:V),X.N[i]?=some x->σ[i]?=some (some v)->Vp X.env.scope x->∃u,RelV v u/\Look X.env s.heap m x u
 cell:∀x c,X.env.cells.lookup x=some c->∃v,s.heap.IsCell c v
 free:H X.env.locals=none
 qg:∀x c,X.env.cells.lookup x=some c->H c=none
 pin:∀p∈X.pn++Di,s.heap.get? p.1=some p.2/\H p.1=none/\p.1≠X.env.locals/\p.1∉X.fs/\∀v,p.2.data ≠ .cell v
 jr:pL X.prog X.w H s.heap
 len:σ.length=X.N.length
section
variable {X:Cx}{s:aw}
def Cx.Ok.aae(a:X.Ok)(e:X.base.get? b=Y o):b∉X.fs:=λc=>by
 have:=(a.xY.mem c).1
 simp_all
def Inv.bs(I:Inv X B U H s):∀b o,X.base.get? b=Y o->s.heap.get? b=Y o/\H b=none:=λb o e=>
 ⟨I.base.keep b o (I.ok.bs b o e).1 (I.ok.bs b o e).2 (I.ok.aae e) (I.ok.MU b o e),I.base.free b o (I.ok.bs b o e).1 (I.ok.bs b o e).2 (I.ok.MU b o e)⟩
def Inv.bk(I:Inv X B U H s):∀b o,X.base.get? b=Y o->s.heap.get? b=Y o:=λb o e=>(I.bs b o e).1
def Inv.mod(I:Inv X B U H s):Mod X.K X.mg X.base:=I.ok.mod
def Inv.GY(I:Inv X B U H s):X.K.In s.heap:=I.ok.mod.Xg.keeps I.bk
def Inv.lt(I:Inv X B U H s):X.env.locals<s.heap.objs.size:=let⟨_,a,_⟩:=I.loc;a.lt
def Inv.sz(I:Inv X B U H s):X.s₀.heap.objs.size<=s.heap.objs.size:=bX I.ok.above (cW I.lt)
def Inv.T7(I:Inv X B U H s)(h:s.heap.objs.size<=a):a∉X.fs:=λc=>by
 let(_,o,b,_):=I.ok.xY.mem c;exact absurd (bD (aQ b) (bX I.sz h)) Ż
def Inv.cne(I:Inv X B U H s):∀x c,X.env.cells.lookup x=Y c->c≠X.env.locals:=λx c e z=>by
 let(v,o,f,g):=I.cell x c e;obtain⟨m,⟨o',es,h,a,b,_⟩,_⟩:=I.loc
 simp_all
def Inv.xY(I:Inv X B U H s):s.heap.FunFrames X.base X.outer:=by
 let g:∀(l:List Env),(∀b∈Dv l,b∈X.fs)->X.s₀.heap.FunFrames X.base l->s.heap.FunFrames X.base l:=by
  intro l
  induction l with
  |nil=>solve_by_elim|cons w r ih=>
   rintro h ⟨u,⟨L,o,a,p,m,v⟩,k⟩;have f:=h L (by unfold Dv;rw[jG,a];exact aH);let(x,e):=I.base.slot L o m (I.ok.UP L f) f λz=>I.ok.QE L z f
   exact⟨u,⟨L,_,a,p,e,v⟩,ih (λb c=>h b (by unfold Dv;rw[jG,a];exact aZ _ c)) k⟩
 exact g _ (λ_ c=>c) I.ok.xY
def Inv.stack(I:Inv X B U H s):s.heap.FunFrames X.base X.stack:=by
 rcases I.ok.YB with e|⟨e,b⟩
 .rw[e];exact I.xY
 .rw[e];let(m,a,_):=I.loc;exact .cons (by rw[I.ok.kind];decide) b a (Heap.get?_none_of_le (bX I.ok.Q2 I.ok.above)) I.xY
def Inv.ud(I:Inv X B U H s):∀b∈Dv X.stack,b∈X.env.locals::X.fs:=λb a=>by
 rcases I.ok.YB with e|_
 .simp_all
 simp_all [Dv,jG]
def Inv.Ig(I:Inv X B U H s):∀b∈Dv X.stack,H b=none:=λb a=>by
 rcases aV.mp (I.ud b a) with e|a
 .rw[e];exact I.free
 .let⟨_,o,c,_⟩:=I.ok.xY.mem a;exact I.base.free b o c (I.ok.UP b a) λz=>I.ok.QE b z a
def Inv.step{g':Array GenState}{t':Nat}{d':Drawn}{ch:List aD}(I:Inv X B U H s)(w:∀b∈ch,(b∈X.ex\/X.s₀.heap.objs.size<=b)/\b≠X.env.locals/\(∀x c,X.env.cells.lookup x=Y c->c≠b)/\∀p∈X.pn++B,p.1≠b)(t:∀b o,b≠X.env.locals->b∉X.fs->b∉ch->s.heap.get? b=Y o->H b=M->h'.get? b=Y o)(E:∀b o,b≠X.env.locals->b∈X.fs->b∉ch->s.heap.get? b=Y o->H b=M->∃sl,h'.get? b=Y { o with slots:=sl })(g:∀b o,b∉ch->s.heap.get? b=Y o->H b=M->H' b=M)(F:∀b o,b∉ch->s.heap.get? b=Y o->∃o',h'.get? b=Y o')(P:∀b xs,H b=Y (.tup xs)->H' b=Y (.tup xs))(T:∀b o u,H b=Y (.NP o u)->H' b=Y (.NP o u))(Q:∀b q,H b=Y (.Sw q)->∃S,H' b=Y (.Sw (q++S)))(ns:∀m,s.heap.Ns X.env.locals m->h'.Ns X.env.locals m)(jr:pL X.prog X.w H' h')(hg:FO g'):
  Inv X B U H' { s with heap:=h',gens:=g',drawn:=d',toks:=t' }:=by
 have R:∀b o,X.s₀.heap.get? b=Y o->b≠X.env.locals:=λb o e=>cA (bD (aQ e) I.ok.above)
 have C:∀b o,X.s₀.heap.get? b=Y o->b∉X.ex->b∉ch:=λb o e f K=>by
  rcases(w b K).1 with z|z
  .exact f z
  .exact absurd (bD (aQ e) z) (px _)
 have A:∀x c,X.env.cells.lookup x=Y c->∀v,s.heap.IsCell c v->h'.IsCell c v:=λx c e v ⟨o,j,hd⟩=>by
  have h:c∉ch:=λz=>(w c z).2.2.1 x c e rfl
  by_cases hc:c∈X.fs
  .let⟨sl,a⟩:=E c o (I.cne x c e) hc h j (I.qg x c e);exact⟨_,a,hd⟩
  .exact⟨o,t c o (I.cne x c e) hc h j (I.qg x c e),hd⟩
 refine⟨I.ok,I.os,hg,⟨λb o e n K f =>?_,λb o e n K f =>?_,λb o e n f =>?_,λb o e f =>?_,λb xs e=>P b xs (I.base.DD b xs e),λb o xs e=>T b o xs (I.base.CK b o xs e),λb q e =>?_⟩,?_,λx c e =>?_,?_,λx c e =>?_,λp hp =>?_,jr,I.len⟩
 .exact t b o (R b o e) K (C b o e f) (I.base.keep b o e n K f) (I.base.free b o e n f)
 .let⟨sl,D⟩:=I.base.slot b o e n K f;let(sl',e2):=E b _ (R b o e) K (C b o e f) D (I.base.free b o e n f);exact⟨sl',e2⟩
 .let⟨o',D⟩:=I.base.there b o e f;exact g b o' (C b o e f) D (I.base.free b o e n f)
 .let⟨o',D⟩:=I.base.there b o e f;exact F b o' (C b o e f) D
 .let⟨m1,D⟩:=I.base.DH b q e;let(m2,e2):=Q b _ D;exact⟨m1++m2,by rw[e2,Array.append_assoc]⟩
 .let⟨m,hn,hl⟩:=I.loc;refine⟨m,ns m hn,λi x v D e2 e3 =>?_⟩;let(u,r,l):=hl i x v D e2 e3;refine⟨u,r,?_⟩;rcases l with l|⟨k,c,e,z⟩
  .exact .inl l
  .exact .inr ⟨k,c,e,A x c e _ z⟩
 .let⟨v,z⟩:=I.cell x c e;exact⟨v,A x c e v z⟩
 .obtain⟨m,⟨o,_,_,j,_⟩,_⟩:=I.loc;exact g _ o (λz=>(w _ z).2.1 rfl) j I.free
 .let⟨v,o,j,hd⟩:=I.cell x c e;exact g c o (λz=>(w c z).2.2.1 x c e rfl) j (I.qg x c e)
 .let⟨e,n,ne,nf,d⟩:=I.pin p hp;have h:p.1∉ch:=λz=>(w p.1 z).2.2.2 p hp rfl
  exact⟨t p.1 p.2 ne nf h e n,g p.1 p.2 h e n,ne,nf,d⟩
def Inv.un{t':Nat}(I:Inv X B U H s)(u:Un X.fs [] H H' s.heap h')(c:pL X.prog X.w H' h'):Inv X B U H' { s with heap:=h',toks:=t' }:=by
 obtain⟨m,⟨o,es,x,k,r⟩,_⟩:=id I.loc;let(v,t):=u.any k I.free ż;exact I.step (ch:=[]) (λd z=>nomatch z) (λb o d f d e n=>u.keep b o e n f Ÿ) (λb o d f d e n=>u.slot b o e n f Ÿ) (λb o d e n=>u.free b o e n Ÿ) (λb o d e=>u.there b o e Ÿ) u.DD u.CK u.DH (λw p=>by let(o',g,h,a,l):=p;rw[k]at a;cases a;exact⟨_,g,h,t,l⟩) c I.bare
def Inv.call{g':Array GenState}{t':Nat}{d':Drawn}{ch:List aD}(I:Inv X B U H s)(u:Un (Dv X.stack) ch H H' s.heap h')(h:pL X.prog X.w H' h')(C:FO g')(g:∀b∈ch,(b∈X.ex\/X.s₀.heap.objs.size<=b)/\b≠X.env.locals/\(∀x c,X.env.cells.lookup x=Y c->c≠b)/\∀p∈X.pn++B,p.1≠b):
  Inv X B U H' { s with heap:=h',gens:=g',drawn:=d',toks:=t' }:=by
 obtain⟨m,⟨o,es,K,v,r⟩,_⟩:=id I.loc;let(E,k):=u.any v I.free λz=>(g _ z).2.1 rfl
 exact I.step g (λb o k D a e n=>u.keep b o e n (λz=>(aV.mp (I.ud b z)).elim k D) a) (λb o d d a e n=>u.any e n a) (λb o a e n=>u.free b o e n a) (λb o a e=>u.there b o e a) u.DD u.CK u.DH (λF A=>by let(o',l,t,f,w):=A;rw[v]at f;cases f;exact⟨_,l,t,k,w⟩) h C
def Inv.turned{t':Nat}(I:Inv X B U H s)(k:∀b o,b≠g->s.heap.get? b=Y o->h'.get? b=Y o)(A:H g=M)(t:g≠X.env.locals)(J:g∈X.ex\/X.s₀.heap.objs.size<=g)(z:∀x c,X.env.cells.lookup x=Y c->c≠g)(E:∀p∈X.pn++B,p.1≠g):Inv X B U H { s with heap:=h',toks:=t' }:=by
 refine I.step (ch:=[g]) (λb D =>?_) (λb o d d h e d=>k b o (λf=>h (by simp[f])) e) (λb o d d h e d=>⟨o.slots,Ż⟩) (λd d d d n=>n)
  (λb o h e=>⟨o,Ż⟩) (λd d e=>e) (λd d d e=>e) (λb q e=>⟨#[],by rw[e];solve_by_elim⟩) (λm C =>?_) (λb u e =>?_) I.bare
 .let e:=by simpa using D
  subst e;exact⟨J,t,z,E⟩
 .let⟨o,es,F,w,r⟩:=C;exact⟨o,es,F,k _ o (bQ t) w,r⟩
 .refine(I.jr b u e).AA (λc v h a=>k c v ?_ a) (λd a=>a) λd d a=>a
  lia
def Inv.tok(I:Inv X B U H s)(t:Nat):Inv X B U H { s with toks:=t }:=I.un Un.refl I.jr
def Inv.kept{t':Nat}(I:Inv X B U H s)(k:∀b u,s.heap.get? b=Y u->h'.get? b=Y u):Inv X B U H { s with heap:=h',toks:=t' }:=I.un (Un.kept k) (I.jr.kept k)
def Inv.laid{a:aD}{o:HO}{t':Nat}(I:Inv X B U H s)(k:∀b u,s.heap.get? b=Y u->h'.get? b=Y u)(e:s.heap.objs.size<=a)(c:j7 X.prog X.w (fD H a o) h' a o):
  Inv X B U (fD H a o) { s with heap:=h',toks:=t' }:=I.un (Un.laid k e (I.jr.fresh e)) (I.jr.laid k e c)
def Inv.write{x e:aD}{h:Nat}(I:Inv X B U H s)(f:Yl (H x))(g:e=x\/H e=Y (.Z x))(k:∀b u,b≠e->s.heap.get? b=Y u->h'.get? b=Y u)(a:∃u,h'.get? e=Y u)(c:j7 X.prog X.w (fD H x o) h' x o):Inv X B U (fD H x o) { s with heap:=h',toks:=h }:=I.un (Un.write f g k a) (I.jr.write f g k a c)
def Inv.weak(I:Inv X B U H s)(e:a.length=U.length)(w:∀(i:Nat) v,a[i]?=Y (Y v)->U[i]?=Y (Y v)):Inv X B a H s:=
 ⟨I.ok,I.os,I.bare,I.base,let⟨m,c,b⟩:=I.loc;⟨m,c,λi x v h g f=>b i x v h (w i v g) f⟩,I.cell,I.free,I.qg,I.pin,I.jr,e.trans I.len⟩
def Inv.yh(I:Inv X B U H s)(h:∀p∈a,s.heap.get? p.1=Y p.2/\H p.1=M/\p.1≠X.env.locals/\p.1∉X.fs/\∀v,p.2.data ≠ .cell v):Inv X a U H s:=
 ⟨I.ok,I.os,I.bare,I.base,I.loc,I.cell,I.free,I.qg,λp b=>(aO.mp b).elim (λz=>I.pin p (aT _ z)) (h p),I.jr,I.len⟩
def El{N:List aJ}(c:N.Nodup){j:Nat}(a:N[i]?=Y x)(b:N[j]?=Y x):i=j:=by
 let(J,f):=ah.mp a;let(z,e):=ah.mp b;exact(List.getElem_inj c).mp (f.trans e.symm)
def A2{G:Model}{A:jz}{i:Nat}{v:V}(I:Inv X B U H s)(hN:X.N.Nodup)(L:X.N[i]?=Y x)(w:Loc X.env.scope x)(r:RelV v u)(h:∀s',Inv X B (U.set i (Y v)) H s'->(∃a,kU a s.heap s'.heap/\(a=X.env.locals\/X.env.cells.lookup x=Y a))->Q () s')(hf:autoParam (X.fn x=Z'\/X.env.scope.names.lookup x=Y .local) ŧ):bP G A (storeName X.env x u) Q E s:=by
 let(m,hn,hl):=id I.loc;let aaM:(X.env.scope.kind == .class||(X.env.scope.kind == .module&&X.env.locals != X.env.globals))=false:=by rw[I.ok.kind];exact Ÿ
 have K:i<U.length:=by rw[I.len];exact(ah.mp L).1
 let T:=I.cne;have g:∀ {a:aD}{h':dY},(∃o,s.heap.get? a=Y o/\H a=M)->kU a s.heap h'->pL X.prog X.w H h':=fun {a h'} ha f b ob e=>by
  let(_,_,C):=ha;refine(I.jr b ob e).AA (λc w' t q=>(f.2 c ?_).trans q) (λJ q=>q) λJ J q=>q
  rintro rfl;rcases t with rfl|t<;>grind
 rcases w with F|F
 .refine wpAny_storeName_local F hn (λh' hn' f =>?_) aaM;refine af λkk =>?_
  let(oL,_,_,hoL,_):=id hn;refine kk (h _ ⟨I.ok,I.os,I.bare,⟨λb o e n S w =>?_,λb o e n S w =>?_,I.base.free,λb o e w =>?_,I.base.DD,I.base.CK,I.base.DH⟩,⟨_,hn',λj y v' l D e3 =>?_⟩,λy c e =>?_,I.free,I.qg,λp hp =>?_,g ⟨oL,hoL,I.free⟩ f,by simpa using I.len⟩ ⟨_,f,.inl rfl⟩)
  .exact(f.2 b (cA (bD (aQ e) I.ok.above))).trans (I.base.keep b o e n S w)
  .let⟨sl,l⟩:=I.base.slot b o e n S w;exact⟨sl,(f.2 b (cA (bD (aQ e) I.ok.above))).trans l⟩
  .let⟨o',l⟩:=I.base.there b o e w;exact⟨o',(f.2 b (cA (bD (aQ e) I.ok.above))).trans l⟩
  .by_cases P:j=i
   .subst P;rw[L]at l;cases l;rw[a7 K]at D;cases D;exact⟨u,r,.inl ⟨F,ż⟩⟩
   .rw[au (bQ P)]at D;let(u',r',q):=hl j y v' l D e3;refine⟨u',r',?_⟩;rcases q with⟨k,e⟩|⟨k,c,e,z⟩
    .refine .inl ⟨k,?_⟩;have:y≠x:=λe=>P (El hN l (e ▸ L))
     simp[this,e]
    .exact .inr ⟨k,c,e,z.sameBut f (T y c e)⟩
  .let⟨w',z⟩:=I.cell y c e;exact⟨w',z.sameBut f (T y c e)⟩
  .let⟨e,n,ne,nf,d⟩:=I.pin p hp;exact⟨(f.2 p.1 ne).trans e,n,ne,nf,d⟩
 .have R:X.fn x=true:=by
   rcases hf with z|z
   .exact z
   .rw[z]at F;cases F
  let(c,t):=I.ok.has x (.inl F);let(w',z):=I.cell x c t;refine wpAny_storeName_cell I.ok.kind F t z (λh' hc' f =>?_);let(oc,hoc,aaE):=id z;refine h { s with heap:=h' } ⟨I.ok,I.os,I.bare,⟨λb o e n S w =>?_,λb o e n S w =>?_,I.base.free,λb o e w =>?_,I.base.DD,I.base.CK,I.base.DH⟩,⟨m,hn.sameBut f (bQ (T x c t)),λj y v' l D e3 =>?_⟩,λy c' e =>?_,I.free,I.qg,λp hp =>?_,g ⟨oc,hoc,I.qg x c t⟩ f,by simpa using I.len⟩ ⟨c,f,.inr t⟩
  .exact(f.2 b (cA (bD (aQ e) (I.ok.Yb x c R t)))).trans (I.base.keep b o e n S w)
  .let⟨sl,l⟩:=I.base.slot b o e n S w;exact⟨sl,(f.2 b (cA (bD (aQ e) (I.ok.Yb x c R t)))).trans l⟩
  .let⟨o',l⟩:=I.base.there b o e w;exact⟨o',(f.2 b (cA (bD (aQ e) (I.ok.Yb x c R t)))).trans l⟩
  .by_cases P:j=i
   .subst P;rw[L]at l;cases l;rw[a7 K]at D;cases D;exact⟨u,r,.inr ⟨.inl F,c,t,hc'⟩⟩
   .rw[au (bQ P)]at D;let(u',r',q):=hl j y v' l D e3;refine⟨u',r',?_⟩;rcases q with q|⟨k,c',e,z'⟩
    .exact .inl q
    .refine .inr ⟨k,c',e,z'.sameBut f ?_⟩;rintro rfl;exact P (El hN l (I.ok.inj _ _ _ e t ▸ L))
  .by_cases YO:c'=c
   .subst YO;exact⟨_,hc'⟩
   .let⟨w2,z2⟩:=I.cell y c' e;exact⟨w2,z2.sameBut f YO⟩
  .let⟨e,n,ne,nf,d⟩:=I.pin p hp;refine⟨(f.2 p.1 ?_).trans e,n,ne,nf,d⟩;intro q;rw[q,hoc]at e;exact d w' (by rw[<- (cB e)];exact aaE)
def yB{d:Model}{v:V}(I:Inv X B U H s)(c:X.N.Nodup)(L:X.N[i]?=Y x)(a:Loc X.env.scope x)(r:RelV v u)(h:∀s',Inv X B (U.set i (Y v)) H s'->Q () s')(b:autoParam (X.fn x=Z'\/X.env.scope.names.lookup x=Y .local) ŧ):bP d A (storeName X.env x u) Q E s:=
 A2 I c L a r (λs' e f=>h s' e) b
def Inv.JC{s':aw}{g:List aD}(I:Inv X B U H s)(k:s'.os=s.os)(u:Un (Dv X.stack) g H H' s.heap s'.heap)(a:pL X.prog X.w H' s'.heap)(l:FO s'.gens)(f:∀b∈g,(b∈X.ex\/X.s₀.heap.objs.size<=b)/\b≠X.env.locals/\(∀x c,X.env.cells.lookup x=Y c->c≠b)/\∀p∈X.pn++B,p.1≠b):Inv X B U H' s':=by
 let(h',m,o,h,o'):=s';subst k;exact I.call u a l f
end
abbrev XK:=aj->Option aD->Hp->Prop
abbrev St:=List (Option V)
abbrev VK:=V->Hp->Prop
abbrev TE:=St->Hp->VK->Prop
abbrev TT:=St->Hp->(Bool->Hp->Prop)->Prop
abbrev TA:=St->Hp->(List V->Hp->Prop)->Prop
structure Ends where
 nx:St->Hp->Prop
 rt:VK
 bk:St->Hp->Prop:=λ_ _=>False
 ct:St->Hp->Prop:=λ_ _=>False
abbrev TS:=Ends->St->Hp->Prop
inductive EP (X:Cx) (B:List (aD×Obj)) (U:St) (Q:VK) (u:aj) (s':aw):Prop
 |mk v H':Inv X B U H' s'->RelV v u->Q v H'->EP X B U Q u s'
inductive TP (X:Cx) (B:List (aD×Obj)) (U:St) (Q:Bool->Hp->Prop) (b:Bool) (s':aw):Prop
 |mk H':Inv X B U H' s'->Q b H'->TP X B U Q b s'
inductive AP (X:Cx) (B:List (aD×Obj)) (U:St) (Q:List V->Hp->Prop) (b:List aj) (s':aw):Prop
 |mk a H':Inv X B U H' s'->cR a b->Q a H'->AP X B U Q b s'
def SP(X:Cx)(B:List (aD×Obj))(D:Ends)(f:Flow)(s':aw):Prop:=
 match f with
 |.next=>∃a H',Inv X B a H' s'/\D.nx a H'|.brk=>∃a H',Inv X B a H' s'/\D.bk a H'|.cont=>∃a H',Inv X B a H' s'/\D.ct a H'|.ret u=>∃v a H',Inv X B a H' s'/\RelV v u/\D.rt v H'
def PE(X:Cx)(e:Expr)(t:TE):Prop:=
 ∀(B:List (aD×Obj)) (s:aw) (U:St) (H:Hp) (Q:VK),Inv X B U H s->t U H Q->bP (bG X.prog X.w) X.A (eval e X.env) (EP X B U Q) X.xe s
def PT(X:Cx)(e:Expr)(t:TT):Prop:=
 ∀(B:List (aD×Obj)) (s:aw) (U:St) (H:Hp) (Q:Bool->Hp->Prop),Inv X B U H s->t U H Q->bP (bG X.prog X.w) X.A (isTrue e X.env (eval e X.env)) (TP X B U Q) X.xe s
def PW(X:Cx)(e:Expr)(t:TT):Prop:=
 ∀(a:Sem aj) (B:List (aD×Obj)) (s:aw) (U:St) (H:Hp) (Q:Bool->Hp->Prop),Inv X B U H s->t U H Q->bP (bG X.prog X.w) X.A (isTrue e X.env a) (TP X B U Q) X.xe s
def PW.pt{X:Cx}(h:PW X e t):PT X e t:=h _
def PA(X:Cx)(es:List Expr)(t:TA):Prop:=
 ∀(G:Pos) (B:List (aD×Obj)) (s:aw) (U:St) (H:Hp) (Q:List V->Hp->Prop),Inv X B U H s->t U H Q->bP (bG X.prog X.w) X.A (spliced (eS G (ar es X.env))) (AP X B U Q) X.xe s
def PS(X:Cx)(st:d_)(t:TS):Prop:=
 ∀(B:List (aD×Obj)) (s:aw) (U:St) (H:Hp) (D:Ends),Inv X B U H s->t D U H->bP (bG X.prog X.w) X.A (exec st X.env) (SP X B D) X.xe s
def qU(X:Cx)(st:List d_)(t:TS):Prop:=
 ∀(B:List (aD×Obj)) (s:aw) (U:St) (H:Hp) (D:Ends),Inv X B U H s->t D U H->bP (bG X.prog X.w) X.A (execs st X.env) (SP X B D) X.xe s
def g8{b:Model}{s:aw}(h:bP b A t Q E s)(e:∀a s,Q a s->c a s):bP b A t c E s:=iN h e λd d x=>x
section
variable {X:Cx}
def j8(i:Nat):TE:=λU H Q=>∃v,U[i]?=Y (Y v)/\Q v H
def tC(v:V):TE:=λ_ H Q=>Q v H
def Tu(A:X.N[i]?=Y x)(o:Vp X.env.scope x)(f:autoParam ((x==("__debug__" : aJ))=false) Ū)(g:autoParam ((x==("__classdict__" : aJ))=false) Ū):PE X (.Name x G) (j8 i):=by
 rintro B s U H Q I ⟨v,e,h⟩;let(m,p,w):=I.loc;let(u,r,l):=w i x v A e o;let fin:EP X B U Q u s:=⟨v,H,I,r,h⟩;rcases l with⟨b,t⟩|⟨b,c,k,a⟩
 .exact wpAny_Name (wpAny_loadName_local I.ok.kind b p t fin) f
 .rcases b with b|b
  .exact wpAny_Name (wpAny_loadName_cell I.ok.kind b k a fin) f
  .exact wpAny_Name (wpAny_loadName_free I.ok.kind b k a fin g) f
def m4{i j G}:PE X (.Constant (.int i) j G) (tC (.int i)):=λa a a H a I h=>wpAny_Constant_int ⟨.int i,H,I.tok _,⟨_,rfl⟩,h⟩
def WY{b j G}:PE X (.Constant (.bool b) j G) (tC (.bl b)):=λa a a H a I h=>Constant_bool ⟨.bl b,H,I,rfl,h⟩
def Gr{x j G}:PE X (.Constant (.str x) j G) (tC (.str x)):=λa a a H a I h=>Calls.Constant_str ⟨.str x,H,I.tok _,⟨_,rfl⟩,h⟩
def Gl(X:Cx)(x:aJ):Prop:=X.env.kindOf x=Y .globalImplicit
def Cn{s:aw}(I:Inv X B U H s)(b:Gl X x)(a:X.mg x=Y u)(h:Q u s)(c:autoParam ((x==("__debug__" : aJ))=false) Ū):bP (bG X.prog X.w) X.A (eval (.Name x G) X.env) Q E s:=
 VD I.ok.kind b (Calls.loadGlobal_global (by rw[I.ok.glob];exact I.mod.glob.keeps I.bk) a h) c
def sC{s:aw}(I:Inv X B U H s)(e:Gl X x)(c:X.mg x=M)(a:i4 x=Y u)(h:Q u s)(b:autoParam (x ≠ "__name__") Ū)(f:autoParam ((x==("__debug__" : aJ))=false) Ū):bP (bG X.prog X.w) X.A (eval (.Name x G) X.env) Q E s:=by
 let(g,J,z):=I.mod.blt;exact VD I.ok.kind e (Calls.loadGlobal_builtin (by rw[I.ok.glob];exact I.mod.glob.keeps I.bk) c (by rw[I.ok.blt];exact J.keeps I.bk) Ż h) f
def PC(X:Cx)(f:CmpOp)(a b:Expr)(t:TE):Prop:=
 ∀(B:List (aD×Obj)) (s:aw) (U:St) (H:Hp) (Q:VK),Inv X B U H s->t U H Q ->
  bP (bG X.prog X.w) X.A (eval a X.env) (λv e=>bP (bG X.prog X.w) X.A (eval b X.env) (λu c=>bP (bG X.prog X.w) X.A (ik f v u) (EP X B U Q) X.xe c) X.xe e) X.xe s
def MV(b:Expr){a:CmpOp}(h:a ≠ .In)(z:a ≠ .NotIn):i5 a b=false:=by
 have e:(a==CmpOp.In)=false:=by cases a<;>first|rfl|exact absurd rfl h
 let c:(a==CmpOp.NotIn)=false:=by cases a<;>first|rfl|exact absurd rfl z
 cases b<;>simp[i5,e,c]
def tB(t:TE):TT:=λU H Q=>t U H λx O=>∃c,x=.bl c/\Q c O
def Te(h:PC X e a b t)(J:autoParam (i5 e b=false) ŕ):PT X (.Compare a [e] [b] G) (tB t):=by
 intro B s U H Q I hw;refine wpAny_isTrue_Compare1 (g8 (h B s U H _ I hw) λv o J=>g8 J λu m z=>g8 z ?_) J;rintro c l ⟨x,O,k,f,g⟩;let(d,rfl,q):=g;cases f;exact lW ⟨O,k,q⟩
variable {rest:List Expr}
def ZF(t u:TT):TT:=λU H Q=>t U H λc O=>if c=Z' then u U O Q else Q Z_ O
def tOr(t u:TT):TT:=λU H Q=>t U H λc O=>if c=Z' then Q Z' O else u U O Q
def Zw(t:TT):TT:=λU H Q=>t U H λc O=>Q (!c) O
def PM(b:PT X a tA):PW X (.BoolOp .And [a] G) tA:=by
 intro f B s U H Q I h;refine isTrue_and (g8 (b B s U H Q I h) λc g e =>?_)
 grind [isTrue_and_nil]
def Tb(b:PT X a tA):PW X (.BoolOp .Or [a] G) tA:=by
 intro f B s U H Q I h;refine isTrue_or (g8 (b B s U H Q I h) λc g e =>?_)
 grind [isTrue_or_nil]
def Tc(m:PT X a tA)(l:PW X (.BoolOp .And (b::rest) G) ZD):PW X (.BoolOp .And (a::b::rest) G) (ZF tA ZD):=by
 intro g B s U H Q I h;refine isTrue_and (g8 (m B s U H _ I h) ?_);rintro c k ⟨O,f,e⟩;cases c with
 |true=>solve_by_elim|false=>solve_by_elim
def WT(m:PT X a tA)(l:PW X (.BoolOp .Or (b::rest) G) ZD):PW X (.BoolOp .Or (a::b::rest) G) (tOr tA ZD):=by
 intro g B s U H Q I h;refine isTrue_or (g8 (m B s U H _ I h) ?_);rintro c k ⟨O,f,e⟩;cases c with
 |true=>solve_by_elim|false=>solve_by_elim
def Td(b:PT X a tA):PT X (.UnaryOp .Not a G) (Zw tA):=by
 exact λB s U H Q I h=>isTrue_not (g8 (b B s U H _ I h) (by rintro c k ⟨O,f,e⟩;exact Ÿ))
def Zv(N y:TE):TE:=λU H Q=>N U H λx O=>∃c,x=.bl c/\if c=Z' then Q (.bl Z') O else y U O Q
def Wo(N:TE):TE:=λU H Q=>N U H λx O=>∃c,x=.bl c/\Q (.bl (!c)) O
def Tv{b}(h:PE X a t):PE X (.BoolOp b [a] G) t:=λB s U H Q I hw=>BoolOp_one (h B s U H Q I hw)
def WX(m:PE X a N)(l:PE X (.BoolOp .Or (b::rest) G) y):PE X (.BoolOp .Or (a::b::rest) G) (Zv N y):=by
 intro B s U H Q I h;refine BoolOp_or (g8 (m B s U H _ I h) ?_);rintro v g ⟨x,O,f,k,e⟩;let(c,rfl,e):=e;cases k;refine lW ?_;cases c with
 |false=>solve_by_elim|true=>exact⟨.bl _,O,f,rfl,e⟩
def Tw(f:PE X a N):PE X (.UnaryOp .Not a G) (Wo N):=by
 intro B s U H Q I h;refine UnaryOp_ (g8 (f B s U H _ I h) ?_);rintro v k ⟨x,O,g,e,b⟩;let(c,rfl,b):=b;cases e;exact not_of (lW ⟨.bl _,O,g,rfl,b⟩)
def tIf(t:TT)(N y:TE):TE:=λU H Q=>t U H λc O=>if c=Z' then N U O Q else y U O Q
def Mz(k:PT X c tA)(m:PE X a N)(l:PE X b y):PE X (.IfExp c a b G) (tIf tA N y):=by
 intro B s U H Q I h;refine wpAny_IfExp (g8 (k B s U H _ I h) ?_);rintro d e ⟨O,g,f⟩;cases d with
 |true=>solve_by_elim|false=>solve_by_elim
end
def nR(K:aX)(H:Hp)(a:aD)(xs:List V):Prop:=
 Rd H a (.lst xs) \/
  ∃(o:Obj) (b:Array aj) (n:Nat),K.lookup a=Y o/\o.cls=.type "list" /\o.dict=M/\o.data=.seq b n/\b.size<=aY/\cR xs b.toList
def Q9(K:aX)(H:Hp)(a:aD)(xs:List V):Prop:=
 Rd H a (.tup xs) \/
  ∃(o:Obj) (b:Array aj) (n:Nat),K.lookup a=Y o/\o.cls=.type "tuple" /\o.data=.seq b n/\b.size<=aY/\cR xs b.toList
noncomputable def abA:aj->Option V
 |.none=>Y .gA|.bool b=>Y (.bl b)|.int i _=>Y (.int i)|.str x _=>Y (.str x)|.bytes b _=>Y (.HG b)|.float b _=>Y (.UQ b)|.ref a=>Y (.ref a)|.type n=>Y (.ty n)|_=>M
def RelV.abs(r:RelV x u):abA u=Y x:=by
 cases x with
 |gA=>cases r;rfl|bl _=>cases r;rfl|ref _=>cases r;rfl|ty _=>cases r;rfl|_=>let⟨t,rfl⟩:=r;rfl
def RelV.inj{x:V}(r:RelV x u)(q:RelV y u):x=y:=cB (r.abs.symm.trans q.abs)
def cR.inj{xs ys:List V}{a:List aj}(h:cR xs a)(g:cR ys a):xs=ys:=by
 induction h generalizing ys with
 |nil=>cases g;rfl|cons r _ ih=>
  cases g with|cons c b=>rw[r.inj c,ih b]
section
variable {X:Cx}{s:aw}
def nR.of{K:aX}(h:H a=Y (.lst xs)):nR K H a xs :=.inl (.inl h)
def Q9.of{K:aX}(h:H a=Y (.tup xs)):Q9 K H a xs :=.inl (.inl h)
def Inv.list(I:Inv X B U H s)(h:nR X.K H a xs):∃b:List aj,cR xs b/\PlainL s.heap a b.toArray/\xs.length<=aY:=by
 rcases h with h|⟨o,b,n,f,k,g,c,l,r⟩
 .let⟨z,b,n,r,e⟩:=h.ok I.jr;exact⟨b,r,⟨_,n,e,rfl,rfl,rfl⟩,z⟩
 .refine⟨_,r,⟨o,n,I.GY a o f,k,g,ž⟩,?_⟩;let e:=r.length
  simp_all
def Inv.tuple(I:Inv X B U H s)(h:Q9 X.K H a xs):∃b:List aj,cR xs b/\IsTup s.heap a b.toArray/\xs.length<=aY:=by
 rcases h with h|⟨o,b,n,f,g,c,k,r⟩
 .let⟨z,b,r,p⟩:=h.ok I.jr;exact⟨b,r,p,z⟩
 .refine⟨_,r,⟨o,I.GY a o f,g,n,ž⟩,?_⟩;let e:=r.length
  simp_all
def Inv.sy(I:Inv X B U H s)(h:nR X.K H a xs)(h':nR X.K H a ys):xs=ys:=by
 obtain⟨c,r,⟨o,n,e,_,_,d⟩,_⟩:=I.list h;obtain⟨b,k,⟨o',m,f,_,_,g⟩,_⟩:=I.list h';have:c=b:=by simp_all
 subst this;exact r.inj k
end
noncomputable abbrev Cx.Ay(X:Cx)(E:aj->aw->Prop):Cx:={ X with xe:=E }
abbrev Cx.MT(X:Cx):Cx:=X.Ay λa a=>False
def Cx.Ok.Ay{X:Cx}(a:X.Ok)(E:aj->aw->Prop):(X.Ay E).Ok:=
 ⟨a.mod,a.kind,a.glob,a.blt,a.above,a.inj,a.has,a.Yb,a.hd,a.frames,a.YB,a.exf,a.bs,a.Q2,a.MU,a.QE,a.xY,a.UP⟩
def Cx.Ok.v8{X:Cx}(a:(X.Ay E).Ok):X.Ok:=
 ⟨a.mod,a.kind,a.glob,a.blt,a.above,a.inj,a.has,a.Yb,a.hd,a.frames,a.YB,a.exf,a.bs,a.Q2,a.MU,a.QE,a.xY,a.UP⟩
section
variable {X:Cx}{s:aw}
def Inv.Ay(I:Inv X B U H s)(E:aj->aw->Prop):Inv (X.Ay E) B U H s:=⟨I.ok.Ay E,I.os,I.bare,I.base,I.loc,I.cell,I.free,I.qg,I.pin,I.jr,I.len⟩
def Inv.v8(I:Inv (X.Ay E) B U H s):Inv X B U H s:=⟨I.ok.v8,I.os,I.bare,I.base,I.loc,I.cell,I.free,I.qg,I.pin,I.jr,I.len⟩
def SP.v8{D:Ends}{f:Flow}(h:SP (X.Ay E) B D f s'):SP X B D f s':=by
 cases f with
 |ret u=>let⟨v,a,H',I,r,q⟩:=h;exact⟨v,a,H',I.v8,r,q⟩
 |_=>let⟨a,H',I,q⟩:=h;exact⟨a,H',I.v8,q⟩
def qU.MT{st:List d_}(h:qU X.MT st t):qU X st t:=λB s U H D I hw=>
 iN (h B s U H D (I.Ay _) hw) (λa a q=>q.v8) λa a z=>False.elim z
end
section
variable {X:Cx}{st:d_}{rest:List d_}
def Wp:TS:=λD U H=>D.nx U H
def Zt(t u:TS):TS:=λD U H=>t { D with nx:=u D } U H
def Iy:qU X [] Wp:=λa a U H a I h=>sX ⟨U,H,I,h⟩
def p9(J:PS X st t)(z:qU X rest u):qU X (st::rest) (Zt t u):=by
 intro B s U H D I h;refine wpAny_execs_cons (g8 (J B s U H _ I h) λf b q =>?_);cases f with
 |next=>
  let⟨a,H',c,q⟩:=q
  exact Ÿ
 |_=>exact q
def o_(J:PS X st t):qU X [st] t:=by
 intro B s U H D I h;refine wpAny_execs_cons (g8 (J B s U H D I h) λf a q =>?_);cases f with
 |next=>exact sX q|_=>exact q
def Inv.quiet{s:aw}(I:Inv X B U H s):interactive X.env=false:=by simp[interactive,I.ok.kind]
def Ww(te:TE):TS:=λD U H=>te U H λ_ O=>D.nx U O
def nI(c:PE X e te)(b:autoParam (cY e M G.line X.env=fK false) Ŭ):PS X (.Expr e G) (Ww te):=by
 exact λB s U H D I h=>wpAny_Expr_any (g8 (c B s U H _ I h) (by rintro v g ⟨x,O,f,k,a⟩;exact⟨U,O,f,a⟩)) I.quiet b
def Zu(te:TE):TS:=λD U H=>te U H D.rt
def um(c:PE X e te):PS X (.Return (Y e) G) (Zu te):=by
 exact λB s U H D I h=>wpAny_Return_some (g8 (c B s U H _ I h) (by rintro v g ⟨x,O,f,a,b⟩;exact⟨x,U,O,f,a,b⟩))
def Zy(c:TT)(t u:TS):TS:=λD U H=>c U H λb O=>if b=Z' then t D U O else u D U O
def Iz(k:PT X c tc)(m:qU X a t)(l:qU X b u):PS X (.If c a b G) (Zy tc t u):=by
 intro B s U H D I h;refine wpAny_If (g8 (k B s U H _ I h) ?_);rintro d e ⟨O,g,f⟩;cases d with
 |true=>solve_by_elim|false=>solve_by_elim
def SE:TS:=λa a a=>False
def Mt:PS X st SE:=λa a a a a a h=>h.elim
end
abbrev TG:=V->St->Hp->(St->Hp->Prop)->Prop
abbrev Yf:=List V->St->Hp->(St->Hp->Prop)->Prop
def PG(X:Cx)(a:Expr)(t:TG):Prop:=
 ∀(B:List (aD×Obj)) (s:aw) (U:St) (H:Hp) (v:V) (u:aj) (Q:St->Hp->Prop),Inv X B U H s->RelV v u->t v U H Q ->
  bP (bG X.prog X.w) X.A (assign a X.env u) (λ_ s'=>∃b H',Inv X B b H' s'/\Q b H') X.xe s
def Zh(X:Cx)(e:List Expr)(t:Yf):Prop:=
 ∀(B:List (aD×Obj)) (s:aw) (U:St) (H:Hp) (b:List V) (c:List aj) (Q:St->Hp->Prop),Inv X B U H s->cR b c->t b U H Q ->
  bP (bG X.prog X.w) X.A (assignInOrder ((Ao e X.env).map (·.2)) c) (λ_ s'=>∃a H',Inv X B a H' s'/\Q a H') X.xe s
abbrev Ye:=V->V->V->Hp->(Hp->Prop)->Prop
def Yh(X:Cx)(t:Ye):Prop:=
 ∀(B:List (aD×Obj)) (s:aw) (U:St) (H:Hp) (o i v:V) (a b u:aj) (Q:Hp->Prop),Inv X B U H s->RelV o a->RelV i b->RelV v u->t o i v H Q ->
  bP (bG X.prog X.w) X.A (setItem a b u) (λ_ s'=>∃H',Inv X B U H' s'/\Q H') X.xe s
abbrev TIp:=V->V->Hp->VK->Prop
def PIp(X:Cx)(a:Operator)(t:TIp):Prop:=
 ∀(B:List (aD×Obj)) (s:aw) (U:St) (H:Hp) (x y:V) (v u:aj) (Q:VK),Inv X B U H s->RelV x v->RelV y u->t x y H Q ->
  bP (bG X.prog X.w) X.A (inplaceOp a v u) (EP X B U Q) X.xe s
section
variable {X:Cx}
def qf(i:Nat):TG:=λv U H Q=>Q (U.set i (Y v)) H
def jb{i:Nat}(c:X.N.Nodup)(L:X.N[i]?=Y x)(a:Loc X.env.scope x)(b:autoParam (X.fn x=Z'\/X.env.scope.names.lookup x=Y .local) ŧ):PG X (.Name x G) (qf i):=by
 exact λB s U H v u Q I r h=>wpAny_assign_Name (yB I c L a r (λs' e=>⟨_,H,e,h⟩) b)
def UO:Yf:=λa U H Q=>a=[]/\Q U H
def Bt(t:TG)(u:Yf):Yf:=λb U H Q=>∃v r,b=v::r/\t v U H λa H'=>u r a H' Q
def YF:Zh X [] UO:=by
 rintro B s U H a b Q I r ⟨e,h⟩;exact assignInOrder_nil ⟨U,H,I,h⟩
def WW(J:PG X e t)(z:Zh X es u)(g:autoParam ((Ao (e::es) X.env).map (·.2)=assign e X.env::(Ao es X.env).map (·.2)) Ŭ):Zh X (e::es) (Bt t u):=by
 rintro B s U H m p Q I r ⟨v,o,k,h⟩;subst k;cases r with
 |cons r c=>
  rw[g];refine assignInOrder_cons (g8 (J B s U H _ _ _ I r h) ?_);rintro _ b ⟨a,O,l,f⟩
  exact Ÿ
def UN(K:aX)(n:Nat)(t:Yf):TG:=λv U H Q=>∃a xs,v=.ref a/\Q9 K H a xs/\xs.length=n/\t xs U H Q
def Z4(A:X.calm=Z')(h:Zh X es t)(w:autoParam ((Ao es X.env).length=n) Ŭ)(c:autoParam ((Ao es X.env).findIdx? (·.1)=none) Ŭ):PG X (.Tuple es k G) (UN X.K n t):=by
 refine λB s U H v u Q I r xx=>af λkk =>?_
 let(a,xs,C,p,x,hw):=xx;subst C;cases r;let(g,f,m,E):=I.tuple p;refine kk (assign_Tuple_tuple (I.ok.hd A) m (by simp[w,<- x,f.length]) c λh' l =>?_);let D:=I.kept (t':=s.toks) λb o e=>l b o (cA (aQ e)) e
 exact Ÿ
def XC(to a:TE)(t:Ye):TG:=λv U H Q=>to U H λo O=>a U O λi d=>t o i v d λb=>Q U b
def Tt(A:PE X o to)(L:PE X i c)(w:Yh X t) (C:autoParam (∀v,assign (.Subscript o i G) X.env v=(do
   let a <- pP [v] (eval o X.env);let b <- pP [v,a] (eval i X.env)
   tV G
   pP [v,a,b] (setItem a b v)
   release [v,a,b] [])) ũ):PG X (.Subscript o i G) (XC to c t):=by
 intro B s U H v u Q I r h;rw[C];refine ay (xa (g8 (A B s U H _ I h) ?_));rintro a f ⟨x,O,F,k,p⟩;refine ay (xa (g8 (L B f U O _ F p) ?_));rintro b e ⟨y,d,E,g,m⟩;refine ay (wpAny_standAt (ay (xa (g8 (w B e U d x y v a b u _ E k g r m) ?_))));rintro _ j ⟨K,D,l⟩;exact wpAny_release ⟨U,K,D,l⟩
def SK(te:TE)(g:TG):TS:=λD U H=>te U H λx O=>g x U O D.nx
def Th(l:PE X e te)(k:PG X tg g)(f:autoParam (swapsWithSole [tg] e G.line X.env=fK false) Ŭ)(hw:autoParam (swappedStores [tg] e X.env=fK none) Ŭ)(J:autoParam ((Ao [tg] X.env).map (·.2)=[assign tg X.env]) Ŭ):PS X (.Assign [tg] e G) (SK te g):=by
 intro B s U H D I h;refine wpAny_Assign_stores (g8 (l B s U H _ I h) ?_) f hw;rintro v a ⟨x,O,m,b,c⟩;rw[J]
 exact Ÿ
def mr{i:Nat}(l:X.N.Nodup)(L:X.N[i]?=Y x)(c:Loc X.env.scope x)(k:PE X e te)(f:autoParam (cY e (Y (.Name x Rh)) G.line X.env=fK false) Ŭ)(g:autoParam (X.fn x=Z'\/X.env.scope.names.lookup x=Y .local) ŧ):
  PS X (.Assign [.Name x Rh] e G) (SK te (qf i)):=by
 intro B s U H D I h;refine wpAny_Assign_Name (g8 (k B s U H _ I h) ?_) f;rintro v r ⟨y,O,o,a,b⟩;exact yB o l L c a (λp m=>⟨_,O,m,b⟩) g
def ZE(i:Nat)(te:TE)(a:TIp):TS:=λD U H=>∃x,U[i]?=Y (Y x)/\te U H λy O=>a x y O λz d=>D.nx (U.set i (Y z)) d
def Tg{ti:TIp}(hN:X.N.Nodup)(L:X.N[i]?=Y x)(t:Loc X.env.scope x)(he:PE X e te)(P:PIp X p ti)(T:autoParam (X.fn x=Z'\/X.env.scope.names.lookup x=Y .local) ŧ):
  PS X (.AugAssign (.Name x Rh) p e G) (ZE i te ti):=by
 rintro B s U H D I ⟨v,e1,h⟩;let(m,Q,S):=I.loc;let o:Vp X.env.scope x:=by rcases t with k|k;exact .inl k;exact .inr (.inl k)
 let(u,r,l):=S i x v L e1 o;refine wpAny_AugAssign_Name ?_;have A:bP (bG X.prog X.w) X.A (eval e X.env) (λw g=>bP (bG X.prog X.w) X.A (inplaceOp p u w) (λr f=>bP (bG X.prog X.w) X.A (storeName X.env x r) (λ_=>SP X B D .next) X.xe f) X.xe g) X.xe s:=by refine g8 (he B s U H _ I h) ?_;rintro w C ⟨y,O,I1,F,j⟩;refine g8 (P B C U O v y u w _ I1 r F j) ?_;rintro z s2 ⟨zv,d,I2,E,K⟩;exact yB I2 hN L t E (λs3 I3=>⟨_,d,I3,K⟩) T
 rcases l with⟨a,R⟩|⟨a,c,hc,b⟩
 .exact wpAny_loadName_local I.ok.kind a Q R A
 .rcases a with a|a
  .exact wpAny_loadName_cell I.ok.kind a hc b A
  .rcases t with k|k
   .have:X.env.scope.names.lookup x=Y .free:=a
    simp_all
   .have:X.env.scope.names.lookup x=Y .free:=a
    simp_all
def Sx(c:TT)(y:TS):TS:=λD U H=>∃W:Nat->St->Hp->Prop,(∃m,W m U H)/\∀m U H,W m U H ->
 c U H λb O=>if b=Z' then ∃N:St->Hp->Prop,(∀a H',N a H'->∃e,e<m/\W e a H')/\y { D with nx:=N,ct:=N,bk:=D.nx } U O else D.nx U O
def Ms(x:ub (bG X.prog X.w) X.A X.env X.xe)(Q:PT X c tc)(R:qU X g y):PS X (.While c g [] G) (Sx tc y):=by
 rintro B s U H D I ⟨W,⟨P,F⟩,lQ⟩;refine wpAny_While (codeAny_whileLoop (λn s'=>∃k H',Inv X B k H' s'/\W n k H') ?_ P ⟨U,H,I,F⟩);rintro n h ⟨e,O,S,E⟩;refine fH x (g8 (Q B h e O _ S (lQ n e O E)) ?_);rintro b K ⟨d,C,o⟩;cases b with
 |true=>
  let⟨N,A,o⟩:=o;refine fH x (g8 (R B K e d _ C o) λf T m =>?_);cases f with
  |brk=>exact m|ret v=>exact m|_=>
   refine af λkk =>?_
   let(a,l,w,r):=m;let(t,u,p):=A a l r;exact kk (⟨t,u,a,l,w,p⟩)
 |false=>exact sX ⟨e,d,C,o⟩
end
structure It where
 go:Nat->Hp->Prop
 JY:Nat->Hp->V->Hp->Prop
 stop:Nat->Hp->Prop
def Af(X:Cx)(B:List (aD×Obj))(H:Hp)(b:aD):Prop:=
 H b=M/\b≠X.env.locals/\b∉X.fs/\(b∈X.ex\/X.s₀.heap.objs.size<=b)/\(∀x c,X.env.cells.lookup x=Y c->c≠b)/\∀p∈X.pn++B,p.1≠b
def Inv.zP{X:Cx}{s:aw}(I:Inv X B U H s)(a:s.heap.objs.size<=b)(g:H' b=M):Af X B H' b:=by
 refine⟨g,lR (bD I.lt a),I.T7 a,.inr (bX I.sz a),λx c e z =>?_,λp f z =>?_⟩
 .let⟨v,q⟩:=I.cell x c e;exact absurd (bD q.lt Ż) (px _)
 .exact absurd (bD (aQ (I.pin p f).1) Ż) (px _)
structure Lo(P:bE)(w:fw)(K:aX)(tg:Expr)(J:It)(fp:List aD)(it:aD)(tn:Nat->dY->Prop):Prop where
 mem:it∈fp
 obj:∀i h,tn i h->∀b∈fp,∃o,h.get? b=some o/\∀v,o.data ≠ .cell v
 keep:∀i h h',tn i h->(∀b∈fp,∀o,h.get? b=some o->h'.get? b=some o)->tn i h'
 item:∀(X:Cx),X.prog=P->X.w=w->X.K=K->X.calm=true->∀(i:Nat) (Di:List (aD×Obj)) (s:aw) (σ:St) (H:Hp) (E:aj->aw->Prop),Inv X Di σ H s->(∀b∈fp,Af X Di H b)->tn i s.heap->J.go i H ->
  bP (bG P w) X.A (pyNext (.ref it)) (λr s1=>∃u,r=some u /\
   bP (bG P w) X.A (Rm tg (.ref it) u) (λ_ s2=>∃x H',Inv X Di σ H' s2/\RelV x u/\J.JY i H x H'/\tn (i+1) s2.heap/\∀b∈fp,H' b=none) E s1) E s
 done:∀(X:Cx),X.prog=P->X.w=w->X.K=K->X.calm=true->∀(i:Nat) (Di:List (aD×Obj)) (s:aw) (σ:St) (H:Hp) (E:aj->aw->Prop),Inv X Di σ H s->(∀b∈fp,Af X Di H b)->tn i s.heap->J.stop i H ->
  bP (bG P w) X.A (pyNext (.ref it)) (λr s1=>r=none/\Inv X Di σ H s1) E s
 self:∀(A:jz) (i:Nat) (s:aw) (Q:aj->aw->Prop) (E:aj->aw->Prop),tn i s.heap->Q (.ref it) s->bP (bG P w) A (pyIter (.ref it)) Q E s
abbrev TI:=St->Hp->(It->Hp->Prop)->Prop
def PIE(X:Cx)(B:List (aD×Obj))(U:St)(tg:Expr)(R:It->Hp->Prop)(a:aj)(e:aw):Prop:=
 ∃(f:aD) (g:List aD) (c:Nat->dY->Prop) (J:It) (H':Hp),a=.ref f/\Inv X B U H' e/\Lo X.prog X.w X.K tg J g f c/\c 0 e.heap/\(∀b∈g,Af X B H' b)/\R J H'
def PI(X:Cx)(tg a:Expr)(b:TI):Prop:=
 ∀(B:List (aD×Obj)) (s:aw) (U:St) (H:Hp) (R:It->Hp->Prop),Inv X B U H s->b U H R ->
  bP (bG X.prog X.w) X.A (eval a X.env) (λv c=>bP (bG X.prog X.w) X.A (pyIter v) (PIE X B U tg R) X.xe c) X.xe s
def NF{d : Model}{s : aw}{n : String}(e : s.heap.get? c = Y o)(k : o.cls = .type n)(g : o.data = .fields b)(f : ["enumerate","zip","dict_itemiterator","dict_reverseitemiterator","odict_iterator","itertools.zip_longest","itertools.pairwise"].contains n = Z_)(a : Q () s): bP d A (Rm tg (.ref c) u) Q E s := by
  cases tg <;> first
    |exact bS a
    | (cases u <;> first
        |exact bS a
        | (refine ay (wpAny_load e ?_)
           rw [k,g]
           show bP d A (if (["enumerate","zip","dict_itemiterator","dict_reverseitemiterator","odict_iterator","itertools.zip_longest","itertools.pairwise"].contains n && b[0]? == Y _) = Z' then _ else _) Q E s
           rw [if_neg (by lia)]
           exact bS a))
noncomputable def V8(K:aX)(a:aD):It:=
 ⟨λi H=>∃xs x,nR K H a xs/\xs[i]?=Y x,λi H x H'=>H'=H/\∀xs,nR K H a xs->xs[i]?=Y x,λi H=>∃xs,nR K H a xs/\xs.length<=i⟩
noncomputable def Yn(n:Int)(a:Nat):It:=⟨λi b=>i<a,λi H x H'=>H'=H/\x=.int (n+i),λi b=>a<=i⟩
def J5{P:bE}{K:aX}(a f:aD):Lo P w K tg (V8 K a) [f] f (λi h=>h.IsListIter f a i) where
 mem:=by simp
 obj:=λi h st b g=>by
  let e:b=f:=by simpa using g
  subst e;let(o,e,c,d):=st;exact⟨o,e,λv z=>by rw[d]at z;cases z⟩
 keep:=λi h h' st k=>st.at λo e=>k f ż o e
 item:=by
  intro X F hw j hc i B s U H E I r st D;subst F hw j;let(xs,x,m,C):=D;let(A,t,p,hz):=I.list m;let(u,hu,ru):=t.get C;let(f0,T,f2,S,R,Q):=r f ż;refine wpAny_pyNext_list_item st p.isList (x:=u) (by simpa using hu) λh' l sb =>?_
  let I1:Inv X B U H { s with heap:=h' }:=I.turned (t':=s.toks) (λb o g e=>(sb.2 b g).trans e) f0 T S R Q;let(o,e,c,d):=id l;exact⟨u,rfl,NF (s:={ s with heap:=h' }) e c d ſ ⟨x,H,I1,ru,⟨rfl,λys hy=>by rw[I.sy hy m];exact C⟩,l,λb g=>(r b g).1⟩⟩
 done:=by intro X F hw j hc i B s U H E I r st D;subst F hw j;let(xs,m,C):=D;let(A,t,p,hz):=I.list m;let(f0,T,f2,S,R,Q):=r f ż;let hl:=t.length;exact wpAny_pyNext_list_end (I.ok.hd hc) st p.isList (by simp;omega) λh' eb=>⟨rfl,I.turned (t':=s.toks) (λb o g e=>eb b o g e) f0 T S R Q⟩
 self:=λn n n n n st h=>wpAny_pyIter_listiter st h
def F4{P:bE}{K:aX}(c:aD)(n:Int)(a:Nat):Lo P w K tg (Yn n a) [c] c (λi h=>IsRangeIter h c (n+(i:Nat)*1) ((a:Int)-(i:Nat)) 1) where
 mem:=by simp
 obj:=λi h st b f=>by
  let e:b=c:=by simpa using f
  subst e;exact⟨_,st,λv z=>by let d:Data.fields _=Data.cell v:=z;cases d⟩
 keep:=λi h h' st k=>k c ż _ st
 item:=by
  intro X r hw u p i B s U H E I l st m;subst r hw u;let(F,D,S,C,A,x):=l c ż;let W:=Walks.range (prog:=X.prog) (w:=X.w) (I.ok.hd p) c n 1 a;refine W.item i s _ _ m st λv h' tk R g Q =>?_
  let(t,rfl):=R;let I1:Inv X B U H { s with heap:=h',toks:=tk }:=I.turned (λb o f e=>Q b o (by simpa using f) e) F D C A x;refine⟨_,rfl,NF (s:={ s with heap:=h',toks:=tk }) (n:= "range_iterator") g rfl rfl ſ ⟨.int (n+i),H,I1,⟨t,?_⟩,⟨rfl,rfl⟩,g,λb f=>(l b f).1⟩⟩;rw[Int.mul_one]
 done:=by intro X r hw u p i B s U H E I l st m;subst r hw u;let(F,D,S,C,A,x):=l c ż;exact wpAny_pyNext_range_end (I.ok.hd p) st (by have:a<=i:=m;omega) λh' T=>⟨rfl,I.turned (t':=s.toks) (λb o f e=>T b o f e) F D C A x⟩
 self:=λj j j j j st h=>wpAny_pyIter_rangeiter st h
section
variable {X:Cx}
def Xn(K:aX)(tl:TE):TI:=λU H R=>tl U H λx O=>∃a,x=.ref a/\(∃xs,nR K O a xs)/\R (V8 K a) O
def IC(t:PE X l tl):PI X tg l (Xn X.K tl):=by
 intro B s U H R I h;refine g8 (t B s U H _ I h) ?_;rintro v c ⟨x,O,f,g,k⟩;obtain⟨a,e,⟨xs,r⟩,q⟩:=k;subst e;cases g;let(m,w,p,A):=f.list r;refine lX p.isList ?_;refine⟨_,_,_,_,O,rfl,f.kept λb o e=>ak _ e,J5 a _,⟨_,bL _ rfl,rfl,rfl⟩,λb u =>?_,q⟩;let e:=by simpa using u
 subst e;exact f.zP (aI _) (f.jr.fresh (aI _))
def D6{s:aw}{R:It->Hp->Prop}{v:Tok}(I:Inv X B U H s)(J : -(2 ^ 62)<=n)(z:n<2 ^ 62)(g : -(2 ^ 62)<=L)(f:L<2 ^ 62)(q:R (Yn n (L-n).toNat) H):bP (bG X.prog X.w) X.A (pyIter (.ref s.heap.objs.size)) (PIE X B U tg R) E { s with heap:=s.heap.push { cls :=.type "range",data :=.fields #[.int n t,.int L u,.int 1 v] },toks:=tk }:=by
 refine wpAny_pyIter_range (IsRange.new ..) (small_one J z g f) ?_;have a:Inv X B U H { s with heap:=s.heap.push { cls :=.type "range",data :=.fields #[.int n t,.int L u,.int 1 v] },toks:=tk }:=I.kept λb o e=>ak _ e
 refine⟨_,_,_,_,H,rfl,
  a.kept λb o e=>ak _ e,F4 _ n _,?_,λb c =>?_,q⟩
 .let k:n+(0:Nat)*1=n:=by simp
  let h:((L-n).toNat:Nat)-(0:Nat)=Builtin.Range.rangeSize n L 1:=by grind [rangeSize_one]
  rw[k,h];exact bL _ rfl
 .let e:b=(s.heap.push { cls :=.type "range",data :=.fields #[.int n t,.int L u,.int 1 v] }).objs.size:=by simpa using c
  subst e;exact a.zP (aI _) (a.jr.fresh (aI _))
def Xm(N:TA):TI:=λU H R=>N U H λa O=>∃j:Int,a=[.int j] /\ -(2 ^ 62)<=j/\j<2 ^ 62/\R (Yn 0 j.toNat) O
def Xl(N:TA):TI:=λU H R=>N U H λa O=>∃i j:Int,a=[.int i,.int j]/\(-(2 ^ 62)<=i/\i<2 ^ 62 /\ -(2 ^ 62)<=j/\j<2 ^ 62)/\R (Yn i (j-i).toNat) O
def Be(m:Gl X "range")(l:X.mg "range" = M)(o:PA X [a] N)(k:autoParam (ar [a] X.env=[(Z_,eval a X.env)]) Ŭ):PI X tg (.Call (.Name "range" p) [a] [] G) (Xm N):=by
 intro B s U H R I h;refine Call_ (sC I m l boot_range (iM (g8 (o G B s U H _ I h) ?_) k rfl));rintro w x ⟨v,O,u,f,b⟩;let(j,e,b,g,q):=b;subst e;cases f with
 |cons r c=>cases c;let(t,rfl):=r;exact call_range_1 (D6 u ż ż b g Ż)
def Kj(x:Gl X "range")(w:X.mg "range" = M)(A:PA X [a,b] N)(v:autoParam (ar [a,b] X.env=[(Z_,eval a X.env),(Z_,eval b X.env)]) Ŭ)(c:autoParam (ar [b] X.env=[(Z_,eval b X.env)]) Ŭ):
  PI X tg (.Call (.Name "range" p) [a,b] [] G) (Xl N):=by
 intro B s U H R I h;refine Call_ (sC I x w boot_range (iM (g8 (A G B s U H _ I h) ?_) (by rw[v,c]) (by rw[c];exact Ÿ)));rintro E K ⟨D,O,C,k,g⟩;obtain⟨i,j,e,⟨g,u,o,m⟩,q⟩:=g;subst e;cases k with
 |cons r f=>
  cases f with
  |cons l f=>cases f;let(t,rfl):=r;let(F,rfl):=l;exact call_range_2 (D6 C g u o m q)
def Zz(e:TI)(g:TG)(y:TS):TS:=λD U H=>e U H λJ O=>∃W:Nat->Nat->St->Hp->Prop,(∃m,W 0 m U O)/\∀i m U H,W i m U H ->
 (J.stop i H/\D.nx U H)\/(J.go i H/\∃N:St->Hp->Prop,(∀a H',N a H'->∃c,c<m/\W (i+1) c a H')/\∀x H',J.JY i H x H'->g x U H' λb d=>y { D with nx:=N,ct:=N,bk:=D.nx } b d)
noncomputable def uo(a:List aD)(h:dY):List (aD×Obj):=a.filterMap λb=>(h.get? b).map λo=>(b,o)
def kN(c:b∈a)(e:h.get? b=Y o):(b,o)∈uo a h:=rM.mpr ⟨b,c,by rw[e];rfl⟩
def Bg(c:p∈uo a h):p.1∈a/\h.get? p.1=Y p.2:=by
 let(b,_):=rM.mp c;rcases q:h.get? b with _|o
 .simp_all
 grind
def Inv.pinned{s:aw}(I:Inv X B U H s)(k:∀b∈a,Af X B H b)(h:∀b∈a,∃o,s.heap.get? b=Y o/\∀v,o.data ≠ .cell v):Inv X (B++uo a s.heap) U H s:=
 I.yh λp g=>(aO.mp g).elim (λz=>I.pin p Ż) λz=>by
  let(c,e):=Bg z;let(r,m,l,_):=k p.1 c
  grind
def Inv.og{s:aw}(I:Inv X (B++a) U H s):Inv X B U H s:=I.yh λp b=>I.pin p Ż
def Tf{j : List d_}(hp : ub (bG X.prog X.w) X.A X.env X.xe)(hc : X.calm = Z')(L : PI X tg w wi)(hg : PG X tg g)(A : qU X j y)(hs:autoParam (∀x,cM w X.env x = fK x) Ŕ): PS X (.For tg w j [] G) (Zz wi g y) := by
  intro B s U H D I h
  refine wpAny_For (g8 (L B s U H _ I h) λv s1 J => g8 J λitv s2 z => ?_) hs
  refine af λkk => ?_
  obtain ⟨it,fp,tn,a,d,e,I2,T,SN,f2,W,⟨m0,w0⟩,lQ⟩ := z
  subst e
  have t : ∀ {H' : Hp},(∀b ∈ fp,H' b = M) -> ∀b ∈ fp,Af X B H' b := λhn b A => ⟨hn b A,(f2 b A).2⟩
  refine kk (codeAny_forLoop_any (λn s' => ∃i p H',Inv X B p H' s' /\ tn i s'.heap /\ (∀b ∈ fp,H' b = M) /\ W i n p H') ?_ m0 ⟨0,U,d,I2,SN,λb A => (f2 b A).1,w0⟩)
  refine λn s3 xx => af λkk => ?_
  let(i,l,H3,I3,R,XE,w3):=xx
  refine kk ?_
  rcases lQ i n l H3 w3 with⟨stop,qn⟩ | ⟨go,N,hN,Q⟩
  . refine fH hp (g8 (T.done X rfl rfl rfl hc i B s3 l H3 X.xe I3 (t XE) R stop) ?_)
    rintro r s4 ⟨hr,I4⟩
    subst hr
    exact sX ⟨l,H3,I4,qn⟩
  . refine fH hp (g8 (T.item X rfl rfl rfl hc i B s3 l H3 X.xe I3 (t XE) R go) ?_)
    rintro r s4 ⟨u,hr,h4⟩
    subst hr
    refine fH hp (g8 h4 ?_)
    refine λ_ s5 xx => af λkk => ?_
    let(x,H5,I5,r5,y5,P,VW):=xx
    refine kk (fH hp (g8 (hg _ s5 l H5 x u _ (I5.pinned (t VW) (T.obj _ _ P)) r5 (Q x H5 y5)) ?_))
    refine λ_ s6 xx => af λkk => ?_
    let(σ6,H6,I6,q6):=xx
    refine kk (fH hp (g8 (A _ s6 σ6 H6 _ I6 q6) λf s7 K => ?_))
    have C : ∀ {k : St} {F : Hp},Inv X (B ++ uo fp s5.heap) k F s7 -> N k F -> ∃m,m < n /\ ∃i p H',Inv X B p H' s7 /\ tn i s7.heap /\ (∀b ∈ fp,H' b = M) /\ W i m p H' := fun {k F} E S => by
      let(m',hm,w7):=hN k F S
      refine⟨m',hm,i + 1,k,F,E.og,T.keep _ _ _ P λb A o e => (E.pin (b,o) (aG _ (aG _ (kN A e)))).1,λb A => ?_,w7⟩
      let(o,e,c):=T.obj _ _ P b A
      exact (E.pin (b,o) (aG _ (aG _ (kN A e)))).2.1
    cases f with
    |brk => let⟨k,F,E,K⟩:=K; exact⟨k,F,E.og,K⟩
    | ret v => refine af λkk => ?_
               let(x7,k,F,E,r7,K):=K; exact kk (⟨x7,k,F,E.og,r7,K⟩)
    |_ => let⟨k,F,E,S⟩:=K; exact C E S
end
def NQ{K:aX}{g:TG}{y:TS}{D:Ends}(c:Nat->St->Hp->Prop)(u:c 0 U H)(s:∀i U H,i<=xs.length->c i U H->nR K H a xs)(r:∀i x U H,xs[i]?=Y x->c i U H->g x U H λf d=>y { D with nx:=c (i+1),ct:=c (i+1),bk:=D.nx } f d)(t:∀U H,c xs.length U H->D.nx U H):
  ∃W:Nat->Nat->St->Hp->Prop,(∃m,W 0 m U H)/\∀i m U H,W i m U H ->
   ((V8 K a).stop i H/\D.nx U H)\/((V8 K a).go i H/\∃N:St->Hp->Prop,(∀h H',N h H'->∃l,l<m/\W (i+1) l h H')/\∀x H',(V8 K a).JY i H x H'->g x U H' λf d=>y { D with nx:=N,ct:=N,bk:=D.nx } f d):=by
 refine⟨λi m U H=>m=xs.length-i/\i<=xs.length/\c i U H,⟨xs.length,ż,gz _,u⟩,?_⟩;rintro i m U H ⟨rfl,L,p⟩;let q:=s i U H L p;by_cases k:i<xs.length
 .refine .inr ⟨⟨xs,xs[i],q,by simp[k]⟩,c (i+1),λh H' o=>⟨xs.length-(i+1),ž,rfl,k,o⟩,λx H' b =>?_⟩;let(e,b):=b;subst e;exact r i x U _ (b xs q) p
 .let e:i=xs.length:=by omega
  subst e;exact .inl ⟨⟨xs,q,aI _⟩,t U H p⟩
abbrev R2:=V->V->Hp->VK->Prop
def pk(X:Cx)(f:aj->aj->Sem aj)(r:R2):Prop:=
 ∀(B:List (aD×Obj)) (s:aw) (U:St) (H:Hp) (x y:V) (v u:aj) (Q:VK),Inv X B U H s->RelV x v->RelV y u->r x y H Q ->
  bP (bG X.prog X.w) X.A (f v u) (EP X B U Q) X.xe s
def Zg(X:Cx)(f:aj->Sem aj)(r:V->Hp->VK->Prop):Prop:=
 ∀(B:List (aD×Obj)) (s:aw) (U:St) (H:Hp) (x:V) (v:aj) (Q:VK),Inv X B U H s->RelV x v->r x H Q ->
  bP (bG X.prog X.w) X.A (f v) (EP X B U Q) X.xe s
def lP(X:Cx)(f:aj)(r:List V->Hp->VK->Prop):Prop:=
 ∀(B:List (aD×Obj)) (s:aw) (U:St) (H:Hp) (xs:List V) (a:List aj) (Q:VK),Inv X B U H s->cR xs a->r xs H Q ->
  bP (bG X.prog X.w) X.A (call f a) (EP X B U Q) X.xe s
def abB(X:Cx)(r:V->Hp->(Bool->Hp->Prop)->Prop):Prop:=
 ∀(B:List (aD×Obj)) (s:aw) (U:St) (H:Hp) (x:V) (v:aj) (Q:Bool->Hp->Prop),Inv X B U H s->RelV x v->r x H Q ->
  bP (bG X.prog X.w) X.A (truthy v) (TP X B U Q) X.xe s
def VI(r:R2)(N y:TE):TE:=λU H Q=>N U H λx O=>y U O λa d=>r x a d Q
def tUn(r:V->Hp->VK->Prop)(N:TE):TE:=λU H Q=>N U H λx O=>r x O Q
def rI(C:Int->Int->Prop)(g:Int->Int->V):R2:=λx y H Q=>∃i j,x=.int i/\y=.int j/\C i j/\Q (g i j) H
def PJ(g:Int->Int->V):R2:=λx y H Q=>∃i j,x=.int i/\y=.int j/\Q (g i j) H
def rU(g:Int->V):V->Hp->VK->Prop:=λx H Q=>∃i,x=.int i/\Q (g i) H
section
variable {X:Cx}
def Vk(A:PE X a N)(w:PE X b y){s:aw}{R:V->V->Hp->Prop}(I:Inv X B U H s)(h:N U H λx O=>y U O λc d=>R x c d){f:aj->aj->Sem aj}(t:∀v u k x c d,Inv X B U d k->RelV x v->RelV c u->R x c d->bP (bG X.prog X.w) X.A (f v u) Q X.xe k):
  bP (bG X.prog X.w) X.A (eval a X.env) (λv g=>bP (bG X.prog X.w) X.A (eval b X.env) (λu e=>bP (bG X.prog X.w) X.A (f v u) Q X.xe e) X.xe g) X.xe s:=by
 refine g8 (A B s U H _ I h) ?_;rintro v l ⟨x,O,D,o,r⟩;refine g8 (w B l U O _ D r) ?_;rintro u k ⟨c,d,C,m,p⟩;exact t v u k x c d C o m p
def D_(l:pk X (fJ e) r)(o:PE X a N)(m:PE X b y):PE X (.BinOp a e b G) (VI r N y):=by
 exact λB s U H Q I h=>wpAny_BinOp (Vk o m I h λv u f x c d p k g q=>l B f U d x c v u Q p k g q)
def ID{b:UnaryOp}(g:Zg X (unaryOp b) r)(k:PE X a N):PE X (.UnaryOp b a G) (tUn r N):=by
 exact λB s U H Q I h=>UnaryOp_ (g8 (k B s U H _ I h) (by rintro v c ⟨x,O,l,e,f⟩;exact Ÿ))
def W4{f:aj->aj->Sem aj}{g:Int->Int->Int}(a:∀(i j:Int) (t u:Tok) (s:aw) (Q:aj->aw->Prop) (E:aj->aw->Prop),C i j->Q (.int (g i j) s.toks) { s with toks:=s.toks+1 }->bP (bG X.prog X.w) X.A (f (.int i t) (.int j u)) Q E s):
  pk X f (rI C λi j =>.int (g i j)):=by
 rintro B s U H x y v u Q I e c ⟨i,j,rfl,rfl,k,q⟩;let(t,rfl):=e;let(b,rfl):=c;exact a i j t b s _ _ k ⟨.int _,H,I.tok _,⟨_,rfl⟩,q⟩
def P7{f:aj->aj->Sem aj}{g:Int->Int->Int}(a:∀(i j:Int) (t u:Tok) (s:aw) (Q:aj->aw->Prop) (E:aj->aw->Prop),Q (.int (g i j) s.toks) { s with toks:=s.toks+1 }->bP (bG X.prog X.w) X.A (f (.int i t) (.int j u)) Q E s):
  pk X f (PJ λi j =>.int (g i j)):=by
 rintro B s U H x y v u Q I e c ⟨i,j,rfl,rfl,q⟩;let(t,rfl):=e;let(b,rfl):=c;exact a i j t b s _ _ ⟨.int _,H,I.tok _,⟨_,rfl⟩,q⟩
def W5{f:aj->aj->Sem aj}{g:Int->Int->Bool}(a:∀(i j:Int) (t u:Tok) (s:aw) (Q:aj->aw->Prop) (E:aj->aw->Prop),Q (.bool (g i j)) s->bP (bG X.prog X.w) X.A (f (.int i t) (.int j u)) Q E s):
  pk X f (PJ λi j =>.bl (g i j)):=by
 rintro B s U H x y v u Q I e c ⟨i,j,rfl,rfl,q⟩;let(t,rfl):=e;let(b,rfl):=c;exact a i j t b s _ _ ⟨.bl _,H,I,rfl,q⟩
def abK(i j:Int):Prop:=0<=j/\j<=1000000/\i.natAbs<2 ^ 64
def OU(i j:Int):Prop:=(-(2 ^ 64)<i/\i<2 ^ 64)\/(-(2 ^ 64)<j/\j<2 ^ 64)
def OU.ok{i:Int}(h:OU i j):IntMulOk i j:=by
 rcases h with⟨J,z⟩|⟨J,z⟩
 .exact .of_left (intBits_le_64 J z)
 .exact .of_right (intBits_le_64 J z)
def F2(k:Nat):(0:Int)<=2 ^ k:=by
 exact j4 _
def TM:pk X (fJ .Add) (PJ λi j =>.int (i+j)):=P7 λa a a a a a a q=>add_int q
def Gy:pk X (fJ .Sub) (PJ λi j =>.int (i-j)):=P7 λa a a a a a a q=>sub_int q
def TH:pk X (fJ .Mult) (rI OU λi j =>.int (i*j)):=W4 λb b b b b b b a q=>mul_int q a.ok
def TK:pk X (fJ .Mod) (rI (λb j=>0<j) λi j =>.int (i%j)):=W4 λi j b b b b b a q=>by
 exact mod_int' ž (by rw[Int.fmod_eq_emod_of_nonneg i (by omega)];exact q)
def TC:pk X (fJ .LShift) (rI abK λi j =>.int (i*2 ^ j.toNat)):=W4 λb b b b b b b a q=>lshift_int_small a.1 a.2.1 a.2.2 q
def Tz:pk X (fJ .RShift) (rI (λb j=>0<=j) λi j =>.int (i/2 ^ j.toNat)):=W4 λi j b b b b b a q=>
 rshift_int a (by rw[Lx i (F2 _)];exact q)
def TL:pk X (fJ .BitAnd) (PJ λi j =>.int (uU i j)):=P7 λa a a a a a a q=>and_int q
def W0:pk X (fJ .BitOr) (PJ λi j =>.int (eN i j)):=P7 λa a a a a a a q=>or_int q
def unI{f:aj->Sem aj}{g:Int->Int}(a:∀(i:Int) (t:Tok) (s:aw) (Q:aj->aw->Prop) (E:aj->aw->Prop),Q (.int (g i) s.toks) { s with toks:=s.toks+1 }->bP (bG X.prog X.w) X.A (f (.int i t)) Q E s):
  Zg X f (rU λi =>.int (g i)):=by
 rintro B s U H x v Q I b ⟨i,rfl,q⟩;let(t,rfl):=b;exact a i t s _ _ ⟨.int _,H,I.tok _,⟨_,rfl⟩,q⟩
def FY:Zg X (unaryOp .USub) (rU λi =>.int (-i)):=unI λa a a a a q=>neg_int q
def Sq:Zg X (unaryOp .Invert) (rU λi =>.int (pV i)):=unI λa a a a a q=>invert_int q
noncomputable def ZJ:V->V->Bool
 |.gA,.gA=>Z'|.gA,.int _=>Z'|.int _,.gA=>Z'|.gA,.bl _=>Z'|.bl _,.gA=>Z'|.gA,.str _=>Z'|.str _,.gA=>Z'|.int _,.int _=>Z'|.bl _,.bl _=>Z'|.str _,.str _=>Z'|.HG _,.HG _=>Z'|.int _,.str _=>Z'|.str _,.int _=>Z'|.bl _,.str _=>Z'|.str _,.bl _=>Z'|_,_=>Z_
def rEq:R2:=λx y H Q=>ZJ x y=Z'/\Q (.bl (decide (x=y))) H
def QQ:decide (V.int i=V.int j)=(i==j):=by
 rw[vY];simp
def U8:decide (V.bl i=V.bl j)=(i==j):=by
 rw[vY];simp
def QP:decide (V.str i=V.str j)=(i==j):=by
 rw[vY];simp
def QR:decide (V.HG i=V.HG j)=(i.toList==j.toList):=by
 rw[vY];cases i;cases j;simp
def kO{s:aw}{a:Bool}(I:Inv X B U H s)(q:Q (.bl k) H)(e:k=a):EP X B U Q (.bool a) s:=by
 subst e;exact⟨.bl k,H,I,rfl,q⟩
def RN:pk X (ik .Eq) rEq:=by
 intro B s U H x y v u Q I e a h;let(c,q):=h;cases x with
 |gA=>
  cases e;cases y with
  |gA=>cases a;exact PySem.EqNone.eq_none_none (kO I q ż)
  |bl j=>cases a;exact PySem.EqNone.eq_none_bool (kO I q ż)
  |int j=>let⟨b,rfl⟩:=a;exact PySem.EqNone.eq_none_int (kO I q ż)
  |str j=>let⟨b,rfl⟩:=a;exact PySem.EqNone.eq_none_str (kO I q ż)
  |_=>exact absurd (show Z_=Z' from c) cF
 |bl i=>
  cases e;cases y with
  |gA=>cases a;exact PySem.EqNone.eq_bool_none (kO I q ż)
  |bl j=>cases a;exact eq_bool (kO I q U8)|str j=>let⟨b,rfl⟩:=a;exact PySem.EqMixed.eq_bool_str (kO I q ż)
  |_=>exact absurd (show Z_=Z' from c) cF
 |int i=>
  let⟨t,rfl⟩:=e;cases y with
  |gA=>cases a;exact PySem.EqNone.eq_int_none (kO I q ż)
  |int j=>let⟨b,rfl⟩:=a;exact eq_int (kO I q QQ)
  |str j=>let⟨b,rfl⟩:=a;exact PySem.EqMixed.eq_int_str (kO I q ż)
  |_=>exact absurd (show Z_=Z' from c) cF
 |str i=>
  let⟨t,rfl⟩:=e;cases y with
  |gA=>cases a;exact PySem.EqNone.eq_str_none (kO I q ż)
  |bl j=>cases a;exact PySem.EqMixed.eq_str_bool (kO I q ż)
  |int j=>let⟨b,rfl⟩:=a;exact PySem.EqMixed.eq_str_int (kO I q ż)
  |str j=>let⟨b,rfl⟩:=a;exact eq_str (kO I q QP)
  |_=>exact absurd (show Z_=Z' from c) cF
 |HG i=>
  let⟨t,rfl⟩:=e;cases y with
  |HG j=>let⟨b,rfl⟩:=a;exact PySem.W.eq_bytes (kO I q QR)
  |_=>exact absurd (show Z_=Z' from c) cF
 |_=>cases y<;>exact absurd (show Z_=Z' from c) cF
def W2:pk X (ik .Lt) (PJ λi j =>.bl (decide (i<j))):=W5 λa a a a a a a q=>lt_int q
def RM:pk X (ik .Gt) (PJ λi j =>.bl (decide (j<i))):=W5 λa a a a a a a q=>gt_int q
def pk.or{f:aj->aj->Sem aj}{r c:R2}(h:pk X f r)(h':pk X f c):pk X f (λx y H Q=>r x y H Q\/c x y H Q):=by
 intro B s U H x y v u Q I b a q;rcases q with q|q
 .exact Ÿ
 exact Ÿ
def zi(b:Expr)(h:autoParam (op ≠ .In) Ū)(z:autoParam (op ≠ .NotIn) Ū):i5 op b=false:=by
 let c:(op==CmpOp.In)=false:=by simp_all
 let a:(op==CmpOp.NotIn)=false:=by simp_all
 cases b<;>simp[i5,c,a]
def P4(l:pk X (ik e) r)(p:PE X a N)(o:PE X b y)(m:i5 e b=Z_):PE X (.Compare a [e] [b] G) (VI r N y):=by
 exact λB s U H Q I h=>wpAny_Compare1 (Vk p o I h λv u f x c d t k g q=>l B f U d x c v u Q t k g q) m
def Wl(t:TE):TT:=λU H Q=>t U H λx H'=>∃k,x=.bl k/\Q k H'
def yf(D:pk X (ik g) r)(K:PE X a N)(F:PE X b y)(E:i5 g b=Z_):PT X (.Compare a [g] [b] G) (Wl (VI r N y)):=by
 intro B s U H Q I h;refine wpAny_isTrue_Compare1 (g8 (K B s U H _ I h) λv m ⟨x,O,R,t,C⟩=>g8 (F B m U O _ R C) λu l ⟨f,d,P,p,A⟩=>g8 (D B l U d x f v u _ P t p A) λc T ⟨z,S,i,o,k,e,w⟩ =>?_) E
 subst e;cases o;exact lW ⟨S,i,w⟩
def Yd(K:aX)(x:V)(H:Hp)(k:Bool):Prop:=
 match x with
 |.gA=>k=Z_|.bl b=>k=b|.int i=>k=(i != 0)|.str y=>y.length<=aY/\k=((y.length:Int) != 0)|.HG y=>y.size<=aY/\k=((y.size:Int) != 0)|.ref p=>(∃xs,nR K H p xs/\k = !xs.isEmpty)\/(∃xs,Q9 K H p xs/\k = !xs.isEmpty)\/∃a,H p=Y (.dK a)/\k = !a.isEmpty|_=>False
def G9{b:Type}{a:List (b×V)}{c:List (b×aj)}(r:KV a c):(!c.isEmpty) = !a.isEmpty:=by
 cases r<;>rfl
def zE{xs:List V}{a:List aj}(r:cR xs a):(!a.toArray.isEmpty) = !xs.isEmpty:=by
 cases r<;>simp
def wB:(aY:Nat)<2 ^ 63:=by decide
def Su:abB X (λx H Q=>∃k,Yd X.K x H k/\Q k H):=by
 rintro B s U H x v Q I rx ⟨k,e,q⟩;let hs:=mE;cases x with
 |gA=>cases rx;subst (e);exact truthy_none ⟨H,I,q⟩|bl b=>cases rx;subst (e);exact lW ⟨H,I,q⟩|int i=>let⟨t,rfl⟩:=rx;subst (e);exact PySem.P.truthy_int ⟨H,I,q⟩
 |str y=>let⟨t,rfl⟩:=rx;obtain⟨hy,e'⟩:y.length<=aY/\k=((y.length:Int) != 0):=e;subst e';exact PySem.P.truthy_str ž ⟨H,I.tok _,q⟩
 |HG y=>let⟨t,rfl⟩:=rx;obtain⟨hy,e'⟩:y.size<=aY/\k=((y.size:Int) != 0):=e;subst e';exact PySem.W.truthy_bytes ž ⟨H,I.tok _,q⟩
 |ref p=>
  cases rx;let e':=e;rcases e' with⟨xs,hx,e'⟩|⟨xs,hx,e'⟩|⟨iG,hx,e'⟩
  .subst e';let(GZ,r,pl,hz):=I.list hx;let Rk:=r.length;exact wpAny_truthy_list pl.isList (by simp only[cK];omega) ⟨H,I.tok _,by rw[zE r];exact q⟩
  .subst e';let(GZ,r,pl,hz):=I.tuple hx;let Rk:=r.length;exact truthy_tuple pl (by simp only[cK];omega) ⟨H,I.tok _,by rw[zE r];exact q⟩
  .subst e';obtain⟨hz,hS,vs,r,m⟩:iG.length<=aY/\(p==kT)=Z_/\∃vs,KV iG vs/\s.heap.DictOf _ p vs:=I.jr p _ hx;let Rk:=Paired.length r;exact wpAny_truthy_dict hS m ž ⟨H,I.tok _,by rw[G9 r];exact q⟩
 |_=>solve_by_elim
def Mr(l:PE X a N)(g:∀b,isTrue a X.env b=(do let v <- b;tV a.pos;pP [v] (truthy v))):
  PT X a (λU H Q=>N U H λx H'=>∃k,Yd X.K x H' k/\Q k H'):=by
 exact λB s U H Q I h=>isTrue_plain (g8 (l B s U H _ I h) (by rintro v c ⟨x,O,m,e,f⟩;exact Su B c U O x v Q m e f)) (g _)
def Gz:pk X (fJ .Add) (λx y H Q=>∃i j,x=.str i/\y=.str j/\i.length+j.length<=aY/\Q (.str (i++j)) H):=by
 rintro B s U H x y v u Q I c b ⟨i,j,rfl,rfl,e,q⟩;let(t,rfl):=c;let(a,rfl):=b;exact add_str (λa tk=>⟨.str _,H,I.tok _,⟨_,rfl⟩,q⟩) e
def vals1{x:V}{a:List aj}(r:cR [x] a):∃u,a=[u]/\RelV x u:=by
 cases r with|cons c b=>cases b;simp_all
def vals2{x y:V}{b:List aj}(r:cR [x,y] b):∃u a,b=[u,a]/\RelV x u/\RelV y a:=by
 cases r with
 |cons g f=>
  cases f with|cons e c=>cases c;exact⟨_,_,rfl,g,e⟩
def Ld(b:X.calm=Z'):lP X (.builtin "max") (λxs H Q=>∃i j,xs=[.int i,.int j]/\Q (.int (if j > i then j else i)) H):=by
 intro B s U H xs e Q I r h;let(i,j,rfl,q):=h;obtain⟨u,c,rfl,⟨t,rfl⟩,⟨f,rfl⟩⟩:=vals2 r;refine max_two_ints (I.ok.hd b) λh' tk k=>⟨_,H,I.kept k,?_,q⟩
 by_cases a:j > i
 .rw[if_pos a,if_pos a];exact⟨_,rfl⟩
 .rw[if_neg a,if_neg a];exact⟨_,rfl⟩
end
structure HR(h:dY)(x dx C:aD)(mA:aJ->Option aj):Prop where
 obj:h.get? x=some (FF C dx)
 ns:h.Ns1 dx mA
 ne:dx≠x
def Kv{h:dY}{dx:aD}{mA:aJ->Option aj}(n:h.Ns1 dx mA):∃c,h.get? dx=Y c/\∀name,lookIn name c=Y (mA name):=by
 let(o,es,r,g,m,l,_,k):=n;refine⟨o,g,λname =>?_⟩;let e:=k name;unfold nsFind findBy at e;rw[<- Array.find?_toList]at e;unfold lookIn;rw[m];dsimp only;split
 .simp_all
 .let a:es.toList.any (·.refKey)=false:=by rw[List.any_eq_false];intro y f;let(z,t,b):=l y Ż;simp[DictEntry.refKey,b]
  simp_all
def HR.look(I:HR h x dx C mA):∃a,PySem.W.InstAt h x (FF C dx) C (Y a)/\∀name,lookIn name a=Y (mA name):=
 let⟨a,b,c⟩:=Kv I.ns
 ⟨a,⟨I.obj,rfl,rfl,b⟩,c⟩
section
variable {s:aw}{K:aX}{f:aD}{name:aJ}{v:aj}
def Rl(X:K.In s.heap)(I:HR s.heap x dx C mA)(g:plainGet K C name=Z')(f:hasDictIn K C=Z')(k:x9 K (.ref C) name=Y M)(c:mA name=Y v)(b:PySem.W.handedIn v=Z')(h:Q v { s with toks:=s.toks+1 }):
  bP (bG prog w) A (getAttr (.ref x) name a) Q E s:=by
 let(l,J,e):=I.look;exact PySem.W.get_value X J (PySem.W.plainGet_of g).1 (PySem.W.findObj_own f k rfl (by rw[e,c])) b h
def NK(X:K.In s.heap)(I:HR s.heap x dx C mA)(a:plainGet K C name=Z')(l:x9 K (.ref C) name=Y (Y (.ref f)))(g:PySem.W.isFn K (.ref f)=Z')(e:mA name=M)(h:Q (.ref f,[.ref x]) s):
  bP (bG prog w) A (oT (.ref x) name b) Q E s:=by
 let(c,J,k):=I.look;exact PySem.W.method_fn X J (PySem.W.plainGet_of a).1 (PySem.W.plainGet_of a).2 l (beq_iff_eq.mp g) (by show (lookIn _ c).map _=Y _;simp_all) h
def Px(X:K.In s.heap)(I:HR s.heap x dx C mA)(r:x9 K (.ref C) "__setattr__" = Y (Y (.builtin "object.__setattr__")))(t:plainOver K C=Z')(o:takerIn K C name=Y M)(u:hasDictIn K C=Z')(hw:PySem.Within mA l)(p:l.length<=aY)(h:∀h',HR h' x dx C (λy=>if y=name then Y v else mA y)->kU dx s.heap h'->Q () { s with heap:=h',toks:=s.toks+2 }):
  bP (bG prog w) A (setAttr (.ref x) name v) Q E s:=by
 let(d,J,R):=I.look;refine PySem.W.set_plain X J r (PySem.W.osa_open X J t o λb =>?_);let(S,D,g):=PySem.W.any_some u;refine ay (bS (ay (ay (wpAny_loadPart (I.obj) (ay (PySem.W.Looks.here (s:={ s with toks:=s.toks+1 }) (PySem.W.looks_clsIn X D) ?_))))));rw[g];refine bS (a:=Y dx) (ay (bS (ay ?_)));refine wpAny_nsSet1 (s:={ s with toks:=s.toks+1 }) I.ns λh' c a =>?_
 let(P,F,H,e,_):=c.count (PySem.Within.cons name v hw);refine ay (wpAny_lookBehind e (by grind [pastItsLine_dict,bX,bZ]) ?_);exact bS (h _ ⟨(a.2 _ (bQ I.ne)).trans I.obj,c,I.ne⟩ a)
def M6{R:Result->aw->Prop}(X:K.In s.heap)(c:makesIn K C=Z')(L:x9 K (.ref C) "__init__" = Y (Y (.ref f)))(e:PySem.W.typeIn K (.ref f)=Y (.type "function")) (h:An (bG prog w) (A.under (.builtin "type.__call__" ⟨.ref C::a,b⟩)) (.call (.ref f) ⟨.ref (s.heap.objs.size+1)::a,b⟩) (PySem.W.InitBack (s.heap.objs.size+1) R)
   { s with heap:=(s.heap.push FG).push (FF C s.heap.objs.size) }) :
  An (bG prog w) A (.call (.ref C) ⟨a,b⟩) R s:=by
 exact PySem.W.make_core (PySem.W.makes_of X c) (PySem.W.looks_findIn X L) (λself=>PySem.W.bind_fn X _ e) (.inl rfl) h
end
noncomputable def mO(f:aJ)(v:V):List (aJ×V)->List (aJ×V)
 |[]=>[(f,v)]|(g,x)::r=>if g=f then (g,v)::r else (g,x)::mO f v r
theorem sx(f g:aJ)(v:V):∀j:List (aJ×V),(mO f v j).lookup g=if g=f then Y v else j.lookup g
 | []=>by
  show List.lookup g [(f,v)]=_
  grind
 | (k,x)::r=>by
  let ih:=sx f g v r;rw[show mO f v _=if k=f then (k,v)::r else (k,x)::mO f v r from rfl]
  grind
theorem wD(f:aJ)(v:V):∀j:List (aJ×V),f∈(mO f v j).map (·.1)/\∀g,g∈j.map (·.1)->g∈(mO f v j).map (·.1)
 |[]=>⟨by simp[mO],λg h=>by simp at h⟩
 | (k,x)::r=>by
  obtain _:=wD f v r;rw[show mO f v _=if k=f then (k,v)::r else (k,x)::mO f v r from rfl]
  grind
theorem xu(f:aJ)(v:V):∀j:List (aJ×V),(mO f v j).length<=j.length+1
 |[]=>by simp[mO]
 | (k,x)::r=>by
  let ih:=xu f v r;rw[show mO f v _=if k=f then (k,v)::r else (k,x)::mO f v r from rfl]
  grind
def sR.some_of{v:V}{o:Option aj}(r:sR (Y v) o):∃u,o=Y u/\RelV v u:=by
 cases o with|none=>solve_by_elim|some u=>solve_by_elim
def sR.none_of(r:sR M o):o=none:=by
 cases o with|none=>rfl|some u=>solve_by_elim
def KP{v:V}(r:RelV v u):PySem.W.handedIn u=true:=by
 cases v with
 |gA=>cases r;rfl|bl b=>cases r;rfl|int i=>let⟨t,e⟩:=r;cases e;rfl
 |str x=>let⟨t,e⟩:=r;cases e;rfl
 |HG b=>let⟨t,e⟩:=r;cases e;rfl
 |UQ b=>let⟨t,e⟩:=r;cases e;rfl
 |ref a=>cases r;rfl|ty n=>cases r;rfl
section
variable {P:bE}
def Cr(b:pL P w H h)(e:H a=Y (.ins C dx j)):∃mA,HR h a dx C mA/\(∀f,sR (j.lookup f) (mA f))/\PySem.Within mA (j.map (·.1))/\j.length<=1000/\H dx=Y (.Z a):=by
 let(d,z,g,c,mA,n,r,q):=b a _ e;exact⟨mA,⟨c,n,g⟩,r,q,z,d⟩
end
structure Lm(K:aX)(C:aD):Prop where
 pg:plainGet K C Str.empty=true
 hd:hasDictIn K C=true
 po:plainOver K C=true
 sa:x9 K (.ref C) "__setattr__" = some (some (.builtin "object.__setattr__"))
def Lm.get{K:aX}(c:Lm K C)(f:aJ):plainGet K C f=true:=c.pg
def qV(K:aX)(C:aD)(f:aJ):Prop:=x9 K (.ref C) f=Y M
def qV.Wj{K:aX}{f:aJ}(n:qV K C f):takerIn K C f=Y none:=by
 unfold takerIn;rw[n];rfl
structure Q'(K:aX)(C:aD)(m:aJ)(f:aD):Prop where
 at_:x9 K (.ref C) m=some (some (.ref f))
 fn:PySem.W.isFn K (.ref f)=true
 kp:AS K (.ref f)=true
section
variable {X:Cx}{s:aw}{f:aJ}{v:V}
def zL(I:Inv X B U H s)(e:H a=Y (.ins C dx j))(c:Lm X.K C)(n:qV X.K C f)(l:j.lookup f=Y v)(h:∀u s',Inv X B U H s'->RelV v u->Q u s'):bP (bG X.prog X.w) A (getAttr (.ref a) f b) Q E s:=by
 let(mA,O,_):=Cr I.jr e;let(u,k,g):=sR.some_of (v:=v) (o:=mA f) ŷ;exact Rl I.GY O (c.get f) c.hd n k (KP g) (h u _ (I.tok _) g)
def zK{m:aJ}(I:Inv X B U H s)(e:H a=Y (.ins C dx j))(c:Lm X.K C)(k:Q' X.K C m g)(l:j.lookup m=M)(h:Q (.ref g,[.ref a]) s):bP (bG X.prog X.w) A (oT (.ref a) m b) Q E s:=by
 let(mA,O,_):=Cr I.jr e;exact NK I.GY O (c.get m) k.at_ k.fn (sR.none_of ŷ) h
def yN(I:Inv X B U H s)(e:H a=Y (.ins C dx j))(c:Lm X.K C)(n:qV X.K C f)(K:j.length<1000)(t:RelV y u)(h:∀s',Inv X B U (fD H a (.ins C dx (mO f y j))) s'->Q () s'):bP (bG X.prog X.w) A (setAttr (.ref a) f u) Q E s:=by
 let(mA,O,r,l,_,m):=Cr I.jr e;let v:(j.map (·.1)).length<=aY:=by rw[az,mE];lia
 refine Px I.GY O c.sa c.po n.Wj c.hd l v λh' k p=>h _ ?_
 refine I.write (by rw[e];exact Ÿ) (.inr m) (λb q D z=>(p.2 b D).trans z) (let⟨o,_,_,F,_⟩:=k.ns;⟨o,F⟩) ?_;refine⟨by rw[aP O.ne];exact m,?_,O.ne,k.obj,_,k.ns,λg =>?_,λg w =>?_⟩
 .grind [xu]
 .rw[sx];by_cases q:g=f
  .rw[if_pos q,if_pos q];exact t
  simp_all
 .by_cases q:g=f
  .rw[q];exact(wD f y j).1
  .refine(wD f y j).2 g (l g λz=>w ?_)
   simp_all
def Inv.made(I:Inv X B U H s):Inv X B U (fD (fD H s.heap.objs.size (.Z (s.heap.objs.size+1))) (s.heap.objs.size+1) (.ins C s.heap.objs.size []))
  { s with heap:=(s.heap.push FG).push (FF C s.heap.objs.size) }:=by
 let c:(s.heap.push _).get? _=Y FG:=bL _ rfl;let k:((s.heap.push FG).push (FF C s.heap.objs.size)).get? (s.heap.objs.size+1)=Y (FF C s.heap.objs.size):=by
  have:=bL (s.heap.push FG) (o:=FF C s.heap.objs.size) rfl
  simp_all
 let l:=I.laid (o :=.Z (s.heap.objs.size+1)) (t':=s.toks) (λb u q=>ak _ q) (aI _) ⟨_,c⟩;refine l.laid (λb u q=>ak _ q) Ż ?_;let a:s.heap.objs.size≠s.heap.objs.size+1:=cA Ż;refine⟨by rw[aP a,bB],gz _,a,k,_,(Heap.Ns1.of_empty ⟨FG,#[],_,c,rfl,(λe g=>absurd g ż),λ_=>rfl⟩).at λo q=>ak _ q,λ_=>True.intro,λy f=>absurd rfl f⟩
def Q5{prog:bE}{w:fw}{a:Env}{e:Expr}{f:aJ}{G:Pos}{s:aw}{Q:aj->aw->Prop}(c:cN e f a (eval e a)=eval e a)(h:bP (bG prog w) A (eval e a) (λo b=>bP (bG prog w) A (getAttr o f Z') Q E b) E s):bP (bG prog w) A (eval (.Attribute e f G) a) Q E s:=
 Attribute_any_ h (by rw[arm_eval_Attribute,c])
end
def Wu(K:aX)(N:TE)(f:aJ):TE:=λU H Q=>N U H λx O=>∃a C dx j v,x=.ref a/\O a=Y (.ins C dx j)/\Lm K C/\qV K C f/\j.lookup f=Y v/\Q v O
def ZK(K:aX)(N tv:TE)(f:aJ):TS:=λD U H=>tv U H λy O=>N U O λx d=>∃a C dx j,x=.ref a/\d a=Y (.ins C dx j)/\Lm K C/\qV K C f/\j.length<1000 /\
 D.nx U (fD d a (.ins C dx (mO f y j)))
def Lk(X:Cx)(b:Operator)(a:V->V->Hp->VK->Prop):Prop:=
 ∀(B:List (aD×Obj)) (s:aw) (U:St) (H:Hp) (x y:V) (u v:aj) (Q:VK),Inv X B U H s->RelV x u->RelV y v->a x y H Q->bP (bG X.prog X.w) X.A (inplaceOp b u v) (EP X B U Q) X.xe s
def PD(K:aX)(N tv:TE)(e:V->V->Hp->VK->Prop)(f:aJ):TS:=λD U H=>N U H λx O=>∃a C dx j v,x=.ref a/\O a=Y (.ins C dx j)/\Lm K C/\qV K C f/\j.lookup f=Y v /\
 tv U O λy d=>e v y d λz c=>∃b YW,c a=Y (.ins C b YW)/\YW.length<1000/\D.nx U (fD c a (.ins C b (mO f z YW)))
section
variable {X:Cx}{f:aJ}
def sj(k:PE X e N)(m:cN e f X.env (eval e X.env)=eval e X.env):PE X (.Attribute e f G) (Wu X.K N f):=by
 intro B s U H Q I h;refine Q5 m (g8 (k B s U H _ I h) ?_);rintro u A ⟨x,O,r,b,a,C,dx,j,v,ex,o,c,n,l,q⟩;subst ex;obtain rfl:u=il a:=b;exact zL r o c n l λt w p g=>⟨v,O,p,g,q⟩
def B9(t:PE X o N)(p:PE X ua tv)(r:cY ua (Y (.Attribute o f Rh)) G.line X.env=fK Z_):PS X (.Assign [.Attribute o f Rh] ua G) (ZK X.K N tv f):=by
 intro B s U H D I h;refine plainObj_wpAny_Assign_Attribute (g8 (p B s U H _ I h) ?_) r;rintro u b ⟨y,O,E,e,q⟩;refine g8 (t B b U O _ E q) ?_;rintro m K ⟨x,d,A,g,a,C,dx,j,ex,v,c,n,l,k⟩;subst ex;obtain rfl:m=il a:=g;exact yN A v c n l e λF w=>⟨U,_,w,k⟩
def Kh(R:PE X o N)(Q:PE X ua tv)(b:Lk X k g):PS X (.AugAssign (.Attribute o f Zp) k ua G) (PD X.K N tv g f):=by
 intro B s U H D I h;refine wpAny_AugAssign_AttributeAny (g8 (R B s U H _ I h) ?_);refine λi s1 xx=>af λkk =>?_
 let(x,O,I1,A,a,C,dx,j,v,ex,S,c,n,l,q):=xx;subst ex;obtain rfl:i=il a:=A;refine kk (zL I1 S c n l λu r I2 E=>g8 (Q B r U O _ I2 q) ?_);rintro m p ⟨y,d,I3,w,K⟩;refine g8 (b B p U d v y u m _ I3 E w K) ?_;rintro w4 s4 ⟨z,H3,I4,t,T,YW,e,P,F⟩;exact yN I4 e c n P t λs5 I5=>⟨U,_,I5,F⟩
def Z1:V->V->Hp->VK->Prop:=λx y H Q=>∃i j,x=.int i/\y=.int j/\Q (.int (i+j)) H
def ZW:V->V->Hp->VK->Prop:=λx y H Q=>∃i j,x=.int i/\y=.int j/\Q (.int (i-j)) H
def aar:Lk X .Add Z1:=by
 rintro B s U H x y u v Q I c b ⟨i,j,rfl,rfl,q⟩;let(t,rfl):=c;let(a,rfl):=b;exact PyProof.Rows.iadd_int ⟨.int _,H,I.tok _,⟨_,rfl⟩,q⟩
def aaq:Lk X .Sub ZW:=by
 rintro B s U H x y u v Q I c b ⟨i,j,rfl,rfl,q⟩;let(t,rfl):=c;let(a,rfl):=b;exact PyProof.Rows.isub_int ⟨.int _,H,I.tok _,⟨_,rfl⟩,q⟩
end
section
variable {X:Cx}{s:aw}
end
structure hJ(k:Nat)(A:jz):Prop where
 hd:A.handled=none
 dp:A.depth+3*k+5<recursionLimit
 un:A.units+16*k+200<rK
def hJ.mono(r:hJ k A)(h:j<=k):hJ j A:=⟨r.hd,by have:=r.dp;lia,by have:=r.un;lia⟩
def hJ.deeper(r:hJ (k+1) A)(a:Env):hJ k (A.deeper a):=
 ⟨r.hd,by have:=r.dp;show A.depth+1+3*k+5<_;lia,by have:=r.un;show A.units+3+16*k+200<_;lia⟩
theorem GS{A:jz}{C:aD}{a:List aj}{b:List (aJ×aj)}:(A.under (.builtin "type.__call__" ⟨.ref C::a,b⟩)).depth=A.depth+1:=by
 exact Ÿ
theorem GR{A:jz}{C:aD}{a:List aj}{b:List (aJ×aj)}:(A.under (.builtin "type.__call__" ⟨.ref C::a,b⟩)).units=A.units+1:=by
 exact Ÿ
def hJ.make(r:hJ (k+1) A)(C:aD)(a:List aj)(b:List (aJ×aj)):hJ k (A.under (.builtin "type.__call__" ⟨.ref C::a,b⟩)):=
 ⟨r.hd,by have:=r.dp;grind [GS],by have:=r.un;grind [GR]⟩
def hJ.depth(r:hJ k A):A.depth<recursionLimit:=by have:=r.dp;omega
def hJ.units{A:jz}(r:hJ k A):A.units+64<rK:=by have:=r.un;omega
def SD:TA:=λ_ H Q=>Q [] H
def Wz(N:TE)(a:TA):TA:=λU H Q=>N U H λx O=>a U O λxs d=>Q (x::xs) d
section
variable {X:Cx}
def gG:PA X [] SD:=λa a a a H Q I h=>Calls.spliced_nil ⟨[],H,I,.nil,h⟩
def eC(m:PE X e te)(l:PA X es t)(k:autoParam (ar (e::es) X.env=(Z_,eval e X.env)::ar es X.env) Ŭ):PA X (e::es) (Wz te t):=by
 intro G B s U H Q I h;rw[k];refine HZ (g8 (m B s U H _ I h) ?_);rintro u a ⟨x,O,p,c,g⟩;exact g8 (l G B a U O _ p g) <|by rintro r v ⟨xs,d,o,b,f⟩;exact⟨_,d,o,.cons c b,f⟩
def Zs(t:TA):TE:=λU H Q=>t U H λxs O=>xs.length<=aY/\∀p,O p=M->Q (.ref p) (fD O p (.tup xs))
def Zx(t:TA):TE:=λU H Q=>t U H λxs O=>xs.length<=aY/\∀p,O p=M->Q (.ref p) (fD O p (.lst xs))
def Gq{f}(h:PA X es t):PE X (.Tuple es f G) (Zs t):=by
 intro B s U H Q I k;refine wpAny_Tuple_spliced (g8 (h G B s U H _ I k) ?_);rintro g a ⟨xs,O,c,r,z,q⟩;refine⟨by rw[<- r.length];exact z,?_⟩;refine⟨.ref _,_,c.laid (λb u e=>ak _ e) (aI _) ?_,rfl,q _ (c.jr.fresh (aI _))⟩;exact⟨z,g,r,⟨_,bL _ rfl,rfl,_,rfl⟩⟩
def y8(h:PA X es t):PE X (.List es G) (Zx t):=by
 intro B s U H Q I g;refine wpAny_List_spliced (g8 (h G B s U H _ I g) ?_);rintro f a ⟨xs,O,c,r,z,q⟩;refine⟨by rw[<- r.length];exact z,?_⟩;refine⟨.ref _,_,c.laid (λb u e=>ak _ e) (aI _) ?_,rfl,q _ (c.jr.fresh (aI _))⟩;exact⟨z,f,0,r,bL _ rfl⟩
end
abbrev Sp:=List V->Hp->VK->XK->Prop
abbrev Vt:=List Env->Hp->aw->XK->aj->aw->Prop
structure Ll(P:bE)(w:fw)(K:aX)(mg:aJ->Option aj)(base:dY)(A:jz)(outer:List Env)(s:aw)(H:Hp):Prop where
 frames:A.frames=some outer
 mod:Mod K mg base
 bs:∀b o,base.get? b=some o->s.heap.get? b=some o/\H b=none
 Q2:base.objs.size<=s.heap.objs.size
 xY:s.heap.FunFrames base outer
 UP:∀b∈Dv outer,H b=none
 jr:pL P w H s.heap
 bare:FO s.gens
def CE(a:List Env)(P:bE)(w:fw)(H:Hp)(s:aw)(Q:VK)(u:aj)(s':aw):Prop:=
 ∃v H',s'.os=s.os/\FO s'.gens/\Un (Dv a) [] H H' s.heap s'.heap/\pL P w H' s'.heap/\RelV v u/\Q v H'
def CR(CX:Vt)(a:List Env)(P:bE)(w:fw)(H:Hp)(s:aw)(Q:VK)(E:XK)(r:Result)(s':aw):Prop:=
 match r with
 |.ok (.ret u)=>CE a P w H s Q u s'|.ok _=>False|.error e=>CX a H s E e s'
structure cZ(P:bE)(w:fw)(K:aX)(mg:aJ->Option aj)(base:dY)(CX:Vt)(k:Nat)(f:aD)(fd:gw)(ps:List aJ)(sp:Sp):Prop where
 len:∀vs H Q E,sp vs H Q E->vs.length=ps.length
 run:∀(A:jz) (outer:List Env) (s:aw) (H:Hp) (args:Args) (us:List aj) (vs:List V) (Q:VK) (E:XK),hJ k A->Ll P w K mg base A outer s H->LA s fd args (ps.zip us)->cR vs us->sp vs H Q E ->
  An (bG P w) A (.call (.ref f) args) (CR CX outer P w H s Q E) s
def cZ.mono{P:bE}{K:aX}{i:aJ->Option aj}{f:aD}(F:cZ P w K i base CX j f I q sp)(h:j<=k):
  cZ P w K i base CX k f I q sp:=⟨F.len,λA a s H args c b Q E e=>F.run A a s H _ c b Q E (e.mono h)⟩
def Ll.make{P:bE}{K:aX}{s:aw}(e:Ll P w K i base A a s H)(C:aD)(b:List aj)(c:List (aJ×aj)):
  Ll P w K i base (A.under (.builtin "type.__call__" ⟨.ref C::b,c⟩)) a s H:=⟨by first|exact e.frames|(simpa [Around.under] using e.frames),e.mod,e.bs,e.Q2,e.xY,e.UP,e.jr,e.bare⟩
section
variable {X:Cx}{s:aw}
def Inv.XJ(I:Inv X B U H s):Ll X.prog X.w X.K X.mg X.base X.A X.stack s H:=
 ⟨I.ok.frames,I.ok.mod,I.bs,bX I.ok.Q2 I.sz,I.stack,I.Ig,I.jr,I.bare⟩
def Inv.after(I:Inv X B U H s)(h:CE X.stack X.prog X.w H s Q u s'):EP X B U Q u s':=by
 let(v,H',k,a,f,e,r,q):=h;let(l,g,d,t,c):=s';obtain rfl:c=s.os:=k;exact⟨v,H',I.call f e a λb z=>absurd z ż,r,q⟩
end
def RC(sp:Sp)(Bw:List V)(E:XK)(t:TA):TE:=λU H Q=>t U H λa O=>sp (a++Bw) O Q E
def DI(C:aD)(m:aJ)(sp:Sp)(Bw:List V)(E:XK)(N:TE)(t:TA):TE:=λU H Q=>N U H λx O=>∃a dx j,x=.ref a/\O a=Y (.ins C dx j)/\j.lookup m=M /\
 t U O λb d=>sp (x::(b++Bw)) d Q E
def Wq(C:aD)(sp:Sp)(Bw:List V)(E:XK)(t:TA):TE:=λU H Q=>t U H λa O=>∀x dx,O x=M->O dx=M->dx≠x ->
 sp (.ref x::(a++Bw)) (fD (fD O dx (.Z x)) x (.ins C dx [])) (λv d=>v=.gA/\Q (.ref x) d) E
def Binds(K:aX)(I:gw)(q:List aJ)(ds:List aj):Prop:=
 ∀(s:aw) (a:List aj),K.In s.heap->(a++ds).length=q.length->LA s I ⟨a,[]⟩ (q.zip (a++ds))
def Binds.all{K:aX}(h:∀a:List aj,a.length=q.length->bindArgs I ⟨a,[]⟩=fK (q.zip a)):Binds K I q []:=λs a c b=>by
 rw[cT]at b ⊢;exact .of_eq (h a b)
def sS(CX:Vt)(X:Cx)(E:XK):Prop:=∀(B:List (aD×Obj)) (U:St) (H:Hp) (s:aw) (e:aj) (s':aw),Inv X B U H s->CX X.stack H s E e s'->X.xe e s'
section
variable {X:Cx}{f:aD}{m:aJ}
def B3{s:aw}{us:List aj}{vs:List V}(F:cZ X.prog X.w X.K X.mg X.base CX k f I q sp)(l:hJ k X.A)(p:Binds X.K I q ds)(o:cR Bw ds)(g:sS CX X E)(a:Inv X B U H s)(r:cR vs us)(h:sp (vs++Bw) H Q E):bP (bG X.prog X.w) X.A (call (.ref f) us) (EP X B U Q) X.xe s:=by
 let c:=r.append o;let m:(us++ds).length=q.length:=by rw[<- c.length];exact F.len _ _ _ _ h
 refine wpAny_call (Lq (F.run X.A _ s H _ _ _ Q E l a.XJ (p s us a.GY m) c h) λr s' b =>?_);cases r with
 |error e=>solve_by_elim|ok t=>
  cases t with|ret u=>exact a.after b|_=>solve_by_elim
def B'(F:cZ X.prog X.w X.K X.mg X.base CX k f I q sp)(o:hJ k X.A)(w:Gl X x)(u:X.mg x=Y (.ref f))(v:AS X.K (.ref f)=Z')(D:Binds X.K I q ds)(C:cR Bw ds)(m:sS CX X E)(K:PA X (e::es) t)(g:autoParam ((x==("__debug__" : aJ))=false) Ū)(A:autoParam (ar (e::es) X.env=(Z_,eval e X.env)::ar es X.env) Ŭ)(c:autoParam ((eS G (ar es X.env)).any (·.1)=false) Ŭ):
  PE X (.Call (.Name x p) (e::es) [] G) (RC sp Bw E t):=by
 intro B s U H Q a h;refine jj (Cn a w u ?_ g);refine PySem.W.callWith_K a.ok.mod.Xg v (g8 (K G B s U H _ a h) ?_) A c;rintro P R ⟨d,O,l,r,b⟩;exact⟨l.GY,B3 F o D C m l r b⟩
def MD(F:cZ X.prog X.w X.K X.mg X.base CX k f I q sp)(e:hJ k X.A)(m:Gl X x)(g:X.mg x=Y (.ref f))(l:AS X.K (.ref f)=Z')(r:Binds X.K I q ds)(o:cR Bw ds)(c:sS CX X E)(b:autoParam ((x==("__debug__" : aJ))=false) Ū):PE X (.Call (.Name x p) [] [] G) (RC sp Bw E SD):=by
 intro B s U H Q a h;exact jj (Cn a m g (PySem.W.callWith_K0 a.GY l (B3 F e r o c a .nil h)) b)
def B_{pl:Sem Bool}(he:PE X o N)(c:Lm X.K C)(A:Q' X.K C m f)(F:cZ X.prog X.w X.K X.mg X.base CX k f I q sp)(hr:hJ k X.A)(hb:Binds X.K I q ds)(hd:cR Bw ds)(hx:sS CX X E)(ha:PA X (e::es) t)(p:autoParam (ar (e::es) X.env=(Z_,eval e X.env)::ar es X.env) Ŭ)(v:autoParam ((eS G (ar es X.env)).any (·.1)=false) Ŭ) (ht:autoParam (eval (.Call (.Attribute o m Am) (e::es) [] G) X.env=(do
   let w <- eval o X.env
   tV Am.atName
   let(f,first) <- pP [w] (oT w m pl)
   x_ G f first (eS G (ar (e::es) X.env)) (ki G (gr [] X.env)))) Ŭ) :
  PE X (.Call (.Attribute o m Am) (e::es) [] G) (DI C m sp Bw E N t):=by
 intro B s U H Q g h;refine PySem.W.methodCall_KW (g8 (he B s U H _ g h) ?_) ht;refine λu R xx=>af λkk =>?_
 let(x,O,K,S,a,dx,j,ex,ea,l,b):=xx;subst ex;obtain rfl:u=il a:=S;refine kk (zK K ea c A l ?_);refine PySem.W.callWith_K g.ok.mod.Xg A.kp (g8 (ha G B R U O _ K b) ?_) p v;rintro P s2 ⟨i,d,D,r,T⟩;exact⟨D.GY,B3 (vs :=.ref a::i) F hr hb hd hx D (.cons rfl r) T⟩
def y6{pl:Sem Bool}(D:PE X o N)(c:Lm X.K C)(r:Q' X.K C m f)(F:cZ X.prog X.w X.K X.mg X.base CX k f I q sp)(A:hJ k X.A)(d:Binds X.K I q ds)(K:cR Bw ds)(v:sS CX X E) (w:autoParam (eval (.Call (.Attribute o m Am) [] [] G) X.env=(do
   let p <- eval o X.env
   tV Am.atName
   let(f,first) <- pP [p] (oT p m pl)
   x_ G f first (eS G (ar [] X.env)) (ki G (gr [] X.env)))) Ŭ) :
  PE X (.Call (.Attribute o m Am) [] [] G) (DI C m sp Bw E N SD):=by
 intro B s U H Q e h;refine PySem.W.methodCall_KW (g8 (D B s U H _ e h) ?_) w;refine λu R xx=>af λkk =>?_
 let(x,O,g,t,a,dx,j,ex,P,l,b):=xx;subst ex;obtain rfl:u=il a:=t;exact kk (zK g P c r l (PySem.W.callWith_K0 g.GY r.kp (B3 (vs:=[.ref a]) F A d K v g (.cons rfl .nil) b)))
structure Mk(K:aX)(C f:aD):Prop where
 makes:makesIn K C=true
 init:x9 K (.ref C) "__init__" = some (some (.ref f))
 fn:PySem.W.isFn K (.ref f)=true
 kp:AS K (.ref C)=true
theorem Mm{s:aw}{us:List aj}(i:Mk X.K C f)(F:cZ X.prog X.w X.K X.mg X.base CX k f I q sp)(w:hJ (k+1) X.A)(K:Binds X.K I q ds)(D:cR Bw ds)(t:sS CX X E)(a:Inv X B U H s)(r:cR g us)(h:∀x dx,H x=M->H dx=M->dx≠x->sp (.ref x::(g++Bw)) (fD (fD H dx (.Z x)) x (.ins C dx [])) (λv d=>v=.gA/\Q (.ref x) d) E):
  bP (bG X.prog X.w) X.A (call (.ref C) us) (EP X B U Q) X.xe s:=by
 have m:=h _ _ (a.jr.fresh (pR _)) (a.jr.fresh (aI _)) ż;let c:=Inv.made (C:=C) a;have l:cR (V.ref (s.heap.objs.size+1)::(g++Bw)) _ :=.cons rfl (r.append D);let A:=by let e:=l.length;rw[F.len _ _ _ _ m]at e;exact e.symm
 refine wpAny_call (M6 a.GY i.makes i.init (beq_iff_eq.mp i.fn) (Lq (F.run _ _ _ _ _ _ _ _ E (w.make C us [])
  (c.XJ.make C us []) (K _ _ c.GY A) l m) λr s' b =>?_))
 cases r with
 |error e=>solve_by_elim|ok P=>
  cases P with
  |ret u=>let⟨v,H',S,o,R,p⟩:=c.after b;subst R;exact⟨o,⟨V.ref _,H',S,rfl,p⟩⟩
  |_=>solve_by_elim
def IE(d:Mk X.K C f)(F:cZ X.prog X.w X.K X.mg X.base CX k f I q sp)(o:hJ (k+1) X.A)(v:Gl X x)(u:X.mg x=Y (.ref C))(D:Binds X.K I q ds)(A:cR Bw ds)(m:sS CX X E)(K:PA X (e::es) t)(g:autoParam ((x==("__debug__" : aJ))=false) Ū)(w:autoParam (ar (e::es) X.env=(Z_,eval e X.env)::ar es X.env) Ŭ)(c:autoParam ((eS G (ar es X.env)).any (·.1)=false) Ŭ):
  PE X (.Call (.Name x p) (e::es) [] G) (Wq C sp Bw E t):=by
 intro B s U H Q a h;refine jj (Cn a v u ?_ g);refine PySem.W.callWith_K a.ok.mod.Xg d.kp (g8 (K G B s U H _ a h) ?_) w c;rintro R S ⟨P,O,l,r,b⟩;exact⟨l.GY,Mm d F o D A m l r b⟩
end
structure bH(N P:List aJ)(sc:Scope):Prop where
 kind:sc.kind=.function
 co:sc.isCoroutine=false
 gen:sc.isGenerator=false
 nd:N.Nodup
 pre:N.take P.length=P
 par:∀x∈P,sc.names.lookup x=some .local\/sc.names.lookup x=some .cell
 T8:∀y∈sc.names,y.2 ≠ .free
theorem BH:∀ {a:List (aJ×aj)}{m:aJ->Option aj},(∀v,(x,v)∉a)->bindL b a m x=m x
 |[],_,_=>rfl|(n,v)::r,m,h=>by unfold bindL;rw[BH λw hw=>h w (aZ _ hw)];split<;>grind
theorem BK:∀ {a:List (aJ×aj)}{m:aJ->Option aj},(∀v,(x,v)∉a)->bindC b a m x=m x
 |[],_,_=>rfl| (n,v)::r,m,h=>by
  unfold bindC;rw[BK λw hw=>h w (aZ _ hw)];split
  .rfl
  grind
theorem BJ{v:aj}:∀ {P:List aJ}{b:List aj}{i:Nat}{m:aJ->Option aj},P.Nodup->P[i]?=Y x->b[i]?=Y v->a x=Y .local ->
  bindL a (P.zip b) m x=Y v
 |[],_,_,_,_,h,_,_=>by simp at h
 |_::_,[],_,_,_,_,h,_=>by simp at h
 |p::P,w::b,0,m,c,J,z,e=>by simp at J z;subst J;subst z;show bindL a ((p,w)::P.zip b) m p=_;unfold bindL;rw[BH λv f=>(HY.mp c).1 (HX f).1,if_pos e];simp
 |p::P,w::b,i+1,m,c,J,z,e=>by unfold bindL;exact BJ (i:=i) Ż (by trivial) (by trivial) e
theorem BL{v:aj}:∀ {P:List aJ}{b:List aj}{i:Nat}{m:aJ->Option aj},P.Nodup->P[i]?=Y x->b[i]?=Y v->a x≠Y .local ->
  bindC a (P.zip b) m x=Y v
 |[],_,_,_,_,h,_,_=>by simp at h
 |_::_,[],_,_,_,_,h,_=>by simp at h
 |p::P,w::b,0,m,c,J,z,e=>by simp at J z;subst J;subst z;show bindC a ((p,w)::P.zip b) m p=_;unfold bindC;rw[BK λv f=>(HY.mp c).1 (HX f).1,if_neg e];simp
 |p::P,w::b,i+1,m,c,J,z,e=>by unfold bindC;exact BL (i:=i) Ż (by trivial) (by trivial) e
noncomputable def start(N:List aJ)(a:List V):St:=a.map Y++bF (N.length-a.length) M
noncomputable def xZ(CX:Vt)(P:bE)(w:fw)(K:aX)(i:aJ->Option aj)(base:dY)(N:List aJ)(c:aJ)(a:Scope)(f:aD)(h:aj)(A:jz)(b:List Env)(s:aw)(H:Hp)(E:XK):Cx where
 prog:=P
 w:=w
 K:=K
 mg:=i
 base:=base
 A:=A.deeper (rO c a s.heap.objs.size f h)
 N:=N
 s₀:=s
 H₀:=H
 env:=rO c a s.heap.objs.size f h
 outer:=b
 stack:=rO c a s.heap.objs.size f h::b
 ex:=[]
 calm:=Z'
 fn:=λ_=>Z'
 pn:=[]
 xe:=λe s'=>bP (bG P w) (A.deeper (rO c a s.heap.objs.size f h)) (leaving (rO c a s.heap.objs.size f h) e) (λ_ g=>CX b H s E e g) (λk g=>CX b H s E k g) s'
def Aa{sc:Scope}{n:Nat}(h:sc.names.lookup x=Y .cell):∃c,(gu n sc.names []).lookup x=Y c:=by
 exact Option.isSome_iff_exists.mp (PySem.W.cellsFrom_some _ n [] (.inl h))
def KH{P:bE}{K:aX}{f:aD}{X:aj}{s:aw}{F:List V}(S:bH N q o)(hd:A.handled=M)(D:Ll P w K i base A t s H)(hl:F.length=q.length)(r:cR F us)(x:InCallC s s.heap.objs.size (bindL (rO C o s.heap.objs.size f X).kindOf (q.zip us) λd=>M) (gu (s.heap.objs.size+1) o.names []) (bindC (rO C o s.heap.objs.size f X).kindOf (q.zip us) λd=>M) s1):
  Inv (xZ CX P w K i base N C o f X A t s H E) [] (start N F) H s1:=by
 let hpl:q.length<=N.length:=by have:=congrArg tH S.pre;grind
 let(J,tk,rfl,hk):=x.done;have a:∀b,b∉(xZ CX P w K i base N C o f X A t s H E).ex:=λb m=>absurd (show b∈[] from m) ż
 refine⟨⟨D.mod,S.kind,rfl,rfl,aI _,λy m c J z =>?_,λy Q =>?_,λy c d h =>?_,λd=>hd,Around.frames_deeper D.frames,.inr ⟨rfl,rfl⟩,λb m=>absurd m (a b),D.bs,D.Q2,λb d d=>a b,λb m=>absurd m (a b),D.xY,D.UP⟩,
  rfl,D.bare,Un.kept hk,⟨_,x.toInCall.ns,λg y v J z h3 =>?_⟩,λy c h=>⟨_,x.cell y c h⟩,D.jr.fresh (aI _),λy c h =>?_,λp T=>absurd (show p∈[] from T) ż,D.jr.kept hk,?_⟩
 .exact name_of_addr x.apart (PySem.mem_of_lookup J) (PySem.mem_of_lookup z)
 .rcases Q with Q|Q
  .exact Aa Q
  .exact absurd rfl (S.T8 _ (PySem.mem_of_lookup Q))
 .exact cW (x.above y c (PySem.mem_of_lookup h))
 .have L:g<F.length:=by
   unfold start at z;by_cases L:g<F.length
   .exact L
   .rw[lh (by simp_all)]at z;rw[Pa]at z;split at z<;>cases z
  let ha:F[g]?=Y v:=by simp_all [start,aM,aR]
  let(u,hu,rv):=r.get ha;have T:q[g]?=Y y:=by rw[<- S.pre,List.getElem?_take_of_lt (by lia)];exact J
  have R:q.Nodup:=by rw[<- S.pre];exact S.nd.sublist (List.take_sublist _ _)
  refine⟨u,rv,?_⟩;rcases S.par y (cD T) with k|k
  .exact .inl ⟨k,BJ R T hu k⟩
  .let⟨c,e⟩:=Aa k;refine .inr ⟨.inl k,c,e,?_⟩;let l:=x.cell y c e;rw[BL R T hu (by show o.names.lookup y≠_;lia)]at l;exact l
 .exact D.jr.fresh (cW (x.above y c (PySem.mem_of_lookup h)))
 .unfold start;show _=N.length
  simp_all
theorem XF{P:bE}{K:aX}{f:aD}{name:aJ}{m:Arguments}{kV ct oc:aj}(lk:K.lookup f=Y ⟨oc,od,.func (fnOf name h m p c dV kV Sj pm an l ct),Z8⟩)(hcd:codeIn K l h=Z')(S:bH N q c)(T:∀D H Q E,sp D H Q E->D.length=q.length) (d:∀(A:jz) (g:List Env) (s:aw) (H:Hp) (D:List V) (Q:VK) (E:XK),hJ k (A.deeper (rO h c s.heap.objs.size f l))->sp D H Q E ->
   ∃t,qU (xZ CX P w K i base N h c f l A g s H E) p t/\t { nx:=λ_ H'=>Q .gA H',rt:=Q } (start N D) H) :
  cZ P w K i base CX (k+1) f (fnOf name h m p c dV kV Sj pm an l ct) q sp:=by
 refine⟨T,λA g s H args us D Q E hr e0 hb r X =>?_⟩;let hl:=T _ _ _ _ X;have KX:=e0.mod.Xg.keeps λb o e=>(e0.bs b o e).1
 let lim:=e0.mod.nolimit.keeps λb o e=>(e0.bs b o e).1
 let F:∀y∈q.zip us,c.names.lookup y.1=Y _\/c.names.lookup y.1=Y .cell/\((gu (s.heap.objs.size+1) c.names []).lookup y.1).isSome=true:=λ⟨n,v⟩ hy=>by
  rcases S.par n (HX hy).1 with a|a
  .exact .inl a
  simp_all [PySem.W.cellsFrom_some]
 refine codeAny_call_function hr.depth (KX _ _ lk) rfl S.co S.gen rfl (PySem.W.codeRec_of KX hcd) (hb _ _ _ _ ?_);refine wpAny_newFunctionEnv_cells S.kind F λenv he s1 x =>?_
 subst he;refine⟨lim.keeps x.toInCall.keep,codeAny_func ?_⟩;let(t,ht,hq):=d A g s H D Q E (hr.deeper _) X;refine iN (ht [] s1 (start N D) H _ (KH S hr.hd e0 hl r x) hq) (λfl s' R =>?_) λe s' R=>R
 have fin:∀ {C:St}{H':Hp}{v:V}{u:aj},Inv (xZ CX P w K i base N h c f l A g s H E) [] C H' s'->RelV v u->Q v H'->CE g P w H s Q u s':=
  fun {C H' v u} J rv a=>⟨v,H',J.os,J.bare,J.base,J.jr,rv,a⟩
 cases fl with
 |ret u=>
  let⟨v,C,H',J,rv,a⟩:=R
  exact Ÿ
 |next=>let⟨C,H',J,a⟩:=R;exact fin (v:=V.gA) (u:=Value.none) J rfl a
 |_=>let⟨_,_,_,a⟩:=R;exact False.elim a
section
variable {X:Cx}{id:String}
def ZC(r:List V->Hp->VK->Prop)(t:TA):TE:=λU H Q=>t U H λa O=>r a O Q
def y9(A:lP X (.builtin id) r)(v:Gl X x)(u:X.mg x=M)(m:i4 x=Y (.builtin id))(C:PA X (e::es) t)(o:autoParam (x ≠ "__name__") Ū)(b:autoParam ((x==("__debug__" : aJ))=false) Ū)(w:autoParam (ar (e::es) X.env=(Z_,eval e X.env)::ar es X.env) Ŭ)(a:autoParam ((eS G (ar es X.env)).any (·.1)=false) Ŭ):PE X (.Call (.Name x p) (e::es) [] G) (ZC r t):=by
 exact λB s U H Q I h=>jj (sC I v u m (oX (g8 (C G B s U H _ I h) (by rintro f g ⟨c,O,D,k,l⟩;exact Ÿ)) w a) o b)
def Kk(A:lP X (.type T) r)(v:Gl X x)(u:X.mg x=M)(m:i4 x=Y (.type T))(C:PA X (e::es) t)(o:autoParam (x ≠ "__name__") Ū)(b:autoParam ((x==("__debug__" : aJ))=false) Ū)(w:autoParam (ar (e::es) X.env=(Z_,eval e X.env)::ar es X.env) Ŭ)(a:autoParam ((eS G (ar es X.env)).any (·.1)=false) Ŭ):PE X (.Call (.Name x p) (e::es) [] G) (ZC r t):=by
 exact λB s U H Q I h=>jj (sC I v u m (iM (g8 (C G B s U H _ I h) (by rintro f g ⟨c,O,D,k,l⟩;exact Ÿ)) w a) o b)
end
end L2
namespace HT
open PySem PyProof.Rows
section
open PySem.SeqAt
open PySem.AutoSeq1 (wpAny_loadPart')
open PySem.MeetsSeq PySem.MeetsSeq2 PySem.MeetsSeq3
end
section
variable {s:aw}
noncomputable def Gk(n d:Nat):Option Int->Nat
 |none=>d|some v=>if v<0 then (v+(n:Int)).toNat else min v.toNat n
end
end HT
namespace L2
open PySem PySem.Spec PyProof.Rows
abbrev TO:=St->Hp->(Option Int->Hp->Prop)->Prop
def PO(X:Cx)(e:Option Expr)(t:TO):Prop:=
 ∀(B:List (aD×Obj)) (s:aw) (U:St) (H:Hp) (Q:Option Int->Hp->Prop),Inv X B U H s->t U H Q ->
  bP (bG X.prog X.w) X.A (evalPart e X.env) (λu s'=>∃o H',Inv X B U H' s'/\IsPart u o/\Q o H') X.xe s
def Pm:TO:=λ_ H Q=>Q M H
def Wm(t:TE):TO:=λU H Q=>t U H λx O=>∃i,x=.int i/\Q (Y i) O
section
variable {X:Cx}
def PY:PO X M Pm:=by
 exact λB s U H Q I h=>bS ⟨_,H,I,.none,h⟩
def PX(h:PE X e te):PO X (Y e) (Wm te):=by
 intro B s U H Q I hw;refine g8 (h B s U H _ I hw) ?_;rintro u f ⟨x,O,c,a,b⟩;let(i,rfl,q):=b;let(t,rfl):=a;exact⟨_,O,c,.int i t,q⟩
def SlR(X:Cx)(r:V->Option Int->Option Int->Hp->VK->Prop):Prop:=
 ∀(B:List (aD×Obj)) (s:aw) (U:St) (H:Hp) (x:V) (v b a:aj) (n L:Option Int) (c:aD) (Q:VK),Inv X B U H s->RelV x v->s.heap.IsSliceOf c b a .none->IsPart b n->IsPart a L->r x n L H Q ->
  ∃T id,typeLookup (.type T) "__getitem__" = fK (Y (.builtin id))/\s.TypeIs v T/\bP (bG X.prog X.w) X.A (Lp v (.ref c)) (EP X B U Q) X.xe s
def tSl(r:V->Option Int->Option Int->Hp->VK->Prop)(te:TE)(tl th:TO):TE:=λU H Q=>te U H λx O=>tl U O λl d=>th U d λu a=>r x l u a Q
def D9(F:SlR X r)(P:PE X e te)(K:PO X n tl)(D:PO X L th):PE X (.Subscript e (.Slice n L M p2) G) (tSl r te tl th):=by
 intro B s U H Q I h;refine Subscript_ (g8 (P B s U H _ I h) ?_);rintro v m ⟨x,O,I1,o,w⟩;refine wpAny_Slice (g8 (K B m U O _ I1 w) ?_);rintro f k ⟨l,d,I2,C,t⟩;refine g8 (D B k U d _ I2 t) ?_;rintro c a ⟨u,g,I3,A,p⟩;refine bS ?_;let S:Inv X B U g { a with heap:=a.heap.push { cls :=.type "slice",data :=.fields #[f,c,.none] } }:=I3.kept λb ob q=>ak _ q
 let(T,id,R,E,i):=F B _ U g x v f c l u a.heap.objs.size Q S o (Heap.IsSliceOf.new ..) C A p;exact tail_any E R i Ÿ
def HA(xs:List V)(n L:Option Int):List V:=(xs.drop (HT.Gk xs.length 0 n)).take (HT.Gk xs.length xs.length L-HT.Gk xs.length 0 n)
def EY(xs:List V)(n L:Option Int):(HA xs n L).length<=xs.length:=by
 unfold HA;rw[uS,Fp]
 lia
end
noncomputable def Dt(n:Nat)(i:Int):Option Nat:=if 0<=i then (if i<n then Y i.toNat else M) else if -(n:Int)<=i then Y (i+n).toNat else M
def n9{a:Type}(xs:List a)(i:Int):Option a:=(Dt xs.length i).bind λj=>xs[j]?
def Cp{n:Nat}(h:Dt n i=Y j):seqIndex? i n=Y j/\j<n /\ -(n:Int)<=i/\i<n:=by
 unfold Dt at h;by_cases a:0<=i
 .rw[if_pos a]at h;by_cases J:i<n
  .rw[if_pos J]at h
   grind [cB,seqIndex_of]
  simp_all
 .rw[if_neg a]at h;by_cases J : -n<=i
  .rw[if_pos J]at h
   grind [cB,seqIndex_neg]
  simp_all
def C5{v:a}(h:n9 xs i=Y v):∃j,seqIndex? i xs.length=Y j/\xs[j]?=Y v/\j<xs.length /\ -(xs.length:Int)<=i/\i<xs.length:=by
 let(j,e,h):=aa.1 h;let(J,z,c,b):=Cp e;exact⟨j,J,h,z,c,b⟩
theorem gY{xs:List a}{j:Nat}{v:a}(h:xs[j]?=Y v):n9 xs (j:Int)=Y v:=by
 have b:=(ah.mp h).1
 simp_all [Dt,if_pos,n9]
def De(b:Expr):Prop:=∀o i,O_ b Z_ o i=operate [o,i] (Lp o i)
def JS(X:Cx)(r:R2):Prop:=
 ∀(ua a:Expr) (B:List (aD×Obj)) (s:aw) (U:St) (H:Hp) (x y:V) (v u:aj) (Q:VK),Inv X B U H s->RelV x v->RelV y u->r x y H Q ->
  O_ a Z_ v u=operate [v,u] (Lp v u)->bP (bG X.prog X.w) X.A (subscriptTail ua a v u) (EP X B U Q) X.xe s
def MtR(X:Cx)(id:String)(r:V->List V->Hp->VK->Prop):Prop:=
 ∀(B:List (aD×Obj)) (s:aw) (U:St) (H:Hp) (x:V) (xs:List V) (v:aj) (a:List aj) (Q:VK),Inv X B U H s->RelV x v->cR xs a->r x xs H Q ->
  bP (bG X.prog X.w) X.A (call (.builtin id) (v::a)) (EP X B U Q) X.xe s
section
variable {X:Cx}
def JS.or(h:JS X r)(h':JS X e):JS X (λx y H Q=>r x y H Q\/e x y H Q):=by
 intro ua a B s U H x y v u Q I c b q f;rcases q with q|q
 .exact h _ a B s U H x y v u Q I c b q f
 .exact h' _ a B s U H x y v u Q I c b q f
def rj(l:JS X r)(o:PE X a N)(m:PE X b y)(k:De b):PE X (.Subscript a b G) (VI r N y):=by
 exact λB s U H Q I h=>Subscript_ (Vk o m I h λv u e x c d p g f q=>l a b B e U d x c v u Q p g f q (k _ _))
def WS(K:aX):R2:=λx y H Q=>∃p xs i v,x=.ref p/\y=.int i/\nR K H p xs/\n9 xs i=Y v/\Q v H
def WQ(K:aX):R2:=λx y H Q=>∃p xs i v,x=.ref p/\y=.int i/\Q9 K H p xs/\n9 xs i=Y v/\Q v H
def WR:R2:=λx y H Q=>∃z i c,x=.str z/\y=.int i/\z.length<=aY/\n9 z.cps.toList i=Y c/\Q (.str ⟨#[c]⟩) H
def vr:JS X (WS X.K):=by
 intro ua b B s U H x y v u Q I A o h k;refine af λkk =>?_
 let(p,xs,i,a,rfl,rfl,C,E,q):=h;cases A;let(t,rfl):=o;let(f,r,e,d):=I.list C;let(j,J,z,R,K,F):=C5 E;let(w,m,c):=r.get z;let D:=r.length;let P:=wB;refine kk ?_;let fin:EP X B U Q w s:=⟨a,H,I,c,q⟩;by_cases l:0<=i
 .let g:=by rw[seqIndex_of l F]at J;exact cB J
  exact item_listR e.isList l Ž Ż fin k
 .let g:(i+(f.toArray.size:Int)).toNat=j:=by rw[seqIndex_neg (by omega) K]at J;rw[cK,<- D];exact cB J
  exact subscriptTail_builtinR e.isList.typeIs slot_list_getitem.lookup
   (wpAny_getItem_list_neg e.isList ž Ż Ž Ż ⟨rfl,fin⟩) k
def sD:JS X (WQ X.K):=by
 intro ua b B s U H x y v u Q I g f h l;refine af λkk =>?_
 let(p,xs,i,a,rfl,rfl,m,A,q):=h;cases g;let(t,rfl):=f;let(k,r,e,D):=I.tuple m;let(j,J,z,_):=C5 A;let(w,C,c):=r.get z;let o:=r.length;let E:=wB;exact kk (subscriptTail_builtinR e.typeIs slot_tuple_getitem.lookup
  (getItem_tuple (j:=j) e Ž Ž Ż Ż ⟨rfl,(⟨a,H,I,c,q⟩)⟩) l)
def Uu:JS X WR:=by
 intro ua b B s U H x y v u Q I f e h g;refine af λkk =>?_
 let(a,i,c,rfl,rfl,A,l,q):=h;let(t,rfl):=f;let(w,rfl):=e;let(j,J,z,D,o,m):=C5 l;let k:a.cps.toList.length=a.length:=by simp[Str.length]
 let C:=wB;exact kk (tail_any (typeIs_str s a t) slot_str_getitem.lookup (getItem_str ŷ Ż ⟨.str _,H,I.tok _,⟨_,rfl⟩,q⟩) g)
def rIx(K:aX):R2:=λx y H Q=>WS K x y H Q\/WQ K x y H Q\/WR x y H Q
def Uv:JS X (rIx X.K):=vr.or (sD.or Uu)
def GQ(a:List aj)(n j:Nat)(u:aj):uQ (·.setIfInBounds j u) { cls :=.type "list",data :=.seq a.toArray n }={ cls :=.type "list",data :=.seq (a.set j u).toArray n }:=by
 simp[uQ]
def Inv.lst{s:aw}{p:aD}{xs:List V}(I:Inv X B U H s)(h:H p=Y (.lst xs)):
  ∃(a:List aj) (n:Nat),cR xs a/\s.heap.get? p=Y { cls :=.type "list",data :=.seq a.toArray n }/\xs.length<=aY:=by
 let(z,a,n,r,e):=I.jr p _ h;exact⟨a,n,r,e,z⟩
def Inv.Ue{B:List (aD×Obj)}{U:St}{H:Hp}{s:aw}{p:aD}{xs ys:List V}{c a:List aj}{n g:Nat}{f:Obj->Obj}(I:Inv X B U H s)(h:H p=Y (.lst xs))(m:s.heap.get? p=Y { cls :=.type "list",data :=.seq c.toArray n })(k:f { cls :=.type "list",data :=.seq c.toArray n }={ cls :=.type "list",data :=.seq a.toArray g })(r:cR ys a)(l:ys.length<=aY)(t:Nat):
  Inv X B U (fD H p (.lst ys)) { s with heap:=s.heap.update p f,toks:=t }:=by
 have e:(s.heap.update p f).get? p=Y { cls :=.type "list",data :=.seq a.toArray g }:=by rw[Heap.get?_update_self f m (by rw[k]<;>rfl),k]
 refine I.write (by rw[h];trivial) (.inl rfl) (λb u o q=>(pU _ _ (bQ o)).trans q) ⟨_,e⟩ ?_;exact⟨l,a,g,r,e⟩
def RI:V->V->V->Hp->(Hp->Prop)->Prop:=λo i v H Q=>∃p xs k j,o=.ref p/\i=.int k/\H p=Y (.lst xs)/\Dt xs.length k=Y j/\Q (fD H p (.lst (xs.set j v)))
def OV:Yh X RI:=by
 refine λB s U H o i v F K u Q I A C x xx=>af λkk =>?_
 let(p,xs,k,j,rfl,rfl,f,E,q):=xx;cases A;let(t,rfl):=C;let(a,n,r,b,D):=I.lst f;let(J,z,l,g):=Cp E;let c:=r.length;let d:=wB;have w:=
  I.Ue f b (GQ a n j u) (r.set x j) Ż s.toks
 refine kk ?_;by_cases m:0<=k
 .grind [seqIndex_of,cB,PySem.W.ki_setAt,cK]
 grind [seqIndex_neg,cK,cB,PySem.W.ki_setBack]
def B1(n L:Option Int)(a:Nat):(Dj n L M a).1=((HT.Gk a 0 n:Nat):Int)/\(Dj n L M a).2.1=((HT.Gk a a L:Nat):Int)/\(Dj n L M a).2.2=1:=by
 refine⟨?_,?_,rfl⟩
 .cases n with
  |none=>solve_by_elim|some i=>
   simp only[Dj,HT.Gk,Option.getD_none,show (1:Int) > 0 by simp,if_true];by_cases h:i<0
   .simp only[h,if_true]<;>omega
   .simp only[h,if_false]<;>omega
 .cases L with
  |none=>solve_by_elim|some i=>
   simp only[Dj,HT.Gk,Option.getD_none,show (1:Int) > 0 by simp,if_true];by_cases h:i<0
   .simp only[h,if_true]<;>omega
   .simp only[h,if_false]<;>omega
def AD(a:List aj)(n L:Option Int):slicePick a.toArray n L M=((a.drop (HT.Gk a.length 0 n)).take (HT.Gk a.length a.length L-HT.Gk a.length 0 n)).toArray:=by
 let(J,z,b):=B1 n L _;unfold slicePick;rw[J,z,b];simp only[sliceRange_one,pick_run,cK]<;>rfl
def ZX(K:aX):V->Option Int->Option Int->Hp->VK->Prop:=λx n L H Q=>∃a xs,x=.ref a/\nR K H a xs/\∀p,H p=M->Q (.ref p) (fD H p (.lst (HA xs n L)))
def Pu:SlR X (ZX X.K):=by
 rintro B s U H x v u t n L w Q I f p k g ⟨a,xs,rfl,o,q⟩;cases f;let(l,r,e,m):=I.list o;let c:=r.length;refine⟨_,_,slot_list_getitem.lookup,e.isList.typeIs,?_⟩;refine wpAny_getItem_list_slice e.isList p k g .none ż ?_ Ż;rw[AD,<- c];refine⟨.ref _,_,I.laid (λb A q=>ak _ q) (aI _) ?_,rfl,q _ (I.jr.fresh (aI _))⟩;exact⟨bX (EY xs n L) m,_,0,(r.drop _).take _,bL _ rfl⟩
noncomputable def rB:V->Bool
 |.gA=>Z'|.bl _=>Z'|.int _=>Z'|.str _=>Z'|_=>Z_
noncomputable def NZ:V->V->Bool
 |.gA,.gA=>Z'|.bl a,.bl b=>a==b|.bl a,.int b=>(if a then 1 else 0)==b
 |.int a,.bl b=>a==(if b then 1 else 0)
 |.int a,.int b=>a==b|.str a,.str b=>a==b|_,_=>Z_
def UW{A:jz}{s:aw}{y x:V}{u v:aj}(f:RelV y u)(c:RelV x v)(h:rB y=Z')(g:rB x=Z'):SeqAt.EqAt A s u v (NZ y x):=by
 cases y with
 |gA=>
  cases f;cases x with
  |gA=>cases c;exact SeqAt.EqAt.same _|bl b=>cases c;exact SeqAt.EqAt.none_bool b|int b=>let⟨t,rfl⟩:=c;exact SeqAt.EqAt.none_int b t
  |str b=>let⟨t,rfl⟩:=c;exact SeqAt.EqAt.none_str b t
  |_=>exact absurd (g) cF
 |bl a=>
  cases f;cases x with
  |gA=>cases c;exact SeqAt.EqAt.bool_none a|bl b=>cases c;exact SeqAt.EqAt.bool_bool a b|int b=>let⟨t,rfl⟩:=c;exact SeqAt.EqAt.bool_int a b t
  |str b=>let⟨t,rfl⟩:=c;exact SeqAt.EqAt.bool_str a b t
  |_=>exact absurd (g) cF
 |int a=>
  let⟨e,rfl⟩:=f;cases x with
  |gA=>cases c;exact SeqAt.EqAt.int_none a e|bl b=>cases c;exact SeqAt.EqAt.int_bool a e b|int b=>let⟨t,rfl⟩:=c;exact SeqAt.EqAt.int_int a e b t
  |str b=>let⟨t,rfl⟩:=c;exact SeqAt.EqAt.int_str a e b t
  |_=>exact absurd (g) cF
 |str a=>
  let⟨e,rfl⟩:=f;cases x with
  |gA=>cases c;exact SeqAt.EqAt.str_none a e|bl b=>cases c;exact SeqAt.EqAt.str_bool a e b|int b=>let⟨t,rfl⟩:=c;exact SeqAt.EqAt.str_int a e b t
  |str b=>let⟨t,rfl⟩:=c;exact SeqAt.EqAt.str_str a e b t
  |_=>exact absurd (g) cF
 |_=>exact absurd (h) cF
def N3(x:V)(u:aj):Bool:=match u with
 |.none=>NZ .gA x|.bool b=>NZ (.bl b) x|.int i _=>NZ (.int i) x|.str z _=>NZ (.str z) x|_=>Z_
def N0{x y:V}{u:aj}(r:RelV y u)(f:rB y=Z'):N3 x u=NZ y x:=by
 cases y with
 |gA=>cases r;rfl|bl b=>cases r;rfl|int i=>let⟨t,rfl⟩:=r;rfl
 |str z=>let⟨t,rfl⟩:=r;rfl
 |_=>exact absurd f cF
def yx{x:V}{xs:List V}{a:List aj}(h:cR xs a)(f:xs.all rB=Z'):a.any (N3 x)=xs.any λy=>NZ y x:=by
 induction h with|nil=>rfl|cons r _ ih=>rw[jt,aA]at f;rw[pz,pz,N0 r f.1,ih f.2]
def vm{A:jz}{s:aw}{x:V}{v:aj}(c:RelV x v)(e:rB x=Z'){xs:List V}{b:List aj}(h:cR xs b)(f:xs.all rB=Z'):∀u∈b,SeqAt.EqAt A s u v (N3 x u):=by
 induction h with
 |nil=>simp_all|cons r _ ih=>
  rw[jt,aA]at f;intro g a;rcases aV.mp a with rfl|a
  .rw[N0 r f.1];exact UW r c f.1 e
  simp_all
def KN(x:V)(xs:List V):Bool:=xs.any λy=>NZ y x
def ZZ(K:aX)(a:Bool):R2:=λx y H Q=>∃p xs,y=.ref p/\(nR K H p xs\/Q9 K H p xs)/\rB x=Z'/\xs.all rB=Z'/\Q (.bl (if a then !KN x xs else KN x xs)) H
def Ko:pk X (ik .In) (ZZ X.K Z_):=by
 rintro B s U H x y v u Q I e g ⟨p,xs,rfl,b,f,j,q⟩;cases g;rcases b with b|b
 .let⟨a,r,c,k⟩:=I.list b;refine SeqAt.in_listAt _ c.isList (λw hw=>vm e f r j w Ż) ⟨.bl _,H,I,rfl,?_⟩;rw[show a.toArray.any _=a.any (N3 x) by simp,yx r j];exact q
 .let⟨a,r,c,k⟩:=I.tuple b;refine SeqAt.in_tupleAt _ c (λw hw=>vm e f r j w Ż) ⟨.bl _,H,I,rfl,?_⟩;rw[show a.toArray.any _=a.any (N3 x) by simp,yx r j];exact q
def Cb:pk X (ik .NotIn) (ZZ X.K Z'):=by
 intro B s U H x y v u Q I e g h;let(p,xs,rfl,b,f,j,q):=h;cases g;rcases b with b|b
 .let⟨a,r,c,k⟩:=I.list b;refine SeqAt.notIn_listAt (N3 x) c.isList (λw hw=>vm e f r j w (by simpa using hw)) ⟨.bl _,H,I,rfl,?_⟩;rw[show a.toArray.any (N3 x)=a.any (N3 x) by simp,yx r j];exact q
 .let⟨a,r,c,k⟩:=I.tuple b;refine SeqAt.notIn_tupleAt (N3 x) c (λw hw=>vm e f r j w (by simpa using hw)) ⟨.bl _,H,I,rfl,?_⟩;rw[show a.toArray.any (N3 x)=a.any (N3 x) by simp,yx r j];exact q
def qR:lP X (.builtin "len") (λxs H Q=>∃p ys,xs=[.ref p]/\(nR X.K H p ys\/Q9 X.K H p ys)/\Q (.int ys.length) H):=by
 rintro B s U H xs l Q I r ⟨p,ys,rfl,b,q⟩;let(u,rfl,g):=vals1 r;cases g;let m:=wB;rcases b with b|b
 .let⟨f,c,e,k⟩:=I.list b;let a:=c.length;exact Calls.call_len_list e.isList (by simp only[cK]<;>omega) ⟨.int _,H,I.tok _,⟨_,by rw[cK,a]⟩,q⟩
 .let⟨f,c,e,k⟩:=I.tuple b;let a:=c.length;exact len_tuple e (by simp only[cK]<;>omega) ⟨.int _,H,I.tok _,⟨_,by rw[cK,a]⟩,q⟩
def C2:lP X (.builtin "len") (λxs H Q=>∃z,xs=[.str z]/\z.length<=aY/\Q (.int z.length) H):=by
 rintro B s U H xs a Q I r ⟨z,rfl,b,q⟩;let(u,rfl,t,rfl):=vals1 r;let c:=wB;exact len_str ž ⟨.int _,H,I.tok _,⟨_,rfl⟩,q⟩
def lP.or{f:aj}(h:lP X f r)(h':lP X f c):lP X f (λxs H Q=>r xs H Q\/c xs H Q):=by
 intro B s U H xs a Q I b q;rcases q with q|q
 .exact Ÿ
 exact Ÿ
def C0:lP X (.type "list") (λxs H Q=>∃p ys,xs=[.ref p]/\(nR X.K H p ys\/Q9 X.K H p ys)/\∀l,H l=M->Q (.ref l) (fD H l (.lst ys))):=by
 rintro B s U H xs D Q I r ⟨p,ys,rfl,m,q⟩;let(u,rfl,C):=vals1 r;cases C;have fin:∀(a:List _),cR ys a->ys.length<=aY->∀(h':dY) (f:Nat),(∀b o',s.heap.get? b=Y o'->h'.get? b=Y o') ->
   h'.get? _=Y _->EP X B U Q _ _:=λa c k h' f g e=>
  ⟨.ref _,_,I.laid (t':=s.toks) g (aI _) (show j7 _ X.w _ h' _ (.lst ys) from⟨k,a,f,c,e⟩),rfl,q _ (I.jr.fresh (aI _))⟩
 rcases m with m|m
 .let⟨a,c,v,k⟩:=I.list m;let t:=c.length;let(o,w,A,n,x):=v.isList;exact call_list_seq p (.inl rfl) w A x (λh' f g e=>fin a c k h' f g e) Ż
 .let⟨a,c,v,k⟩:=I.tuple m;let t:=c.length;let(o,w,A,n,x):=v;exact call_list_seq p (.inr rfl) w A x (λh' f g e=>fin a c k h' f g e) Ż
def Zn(K:aX)(T:String)(x:V)(H:Hp):Prop:=match x with
 |.str _=>T = "str"|.int _=>T = "int"| .ref p=>(T = "list" /\ ∃xs,nR K H p xs)\/(T = "tuple" /\ ∃o,K.lookup p=Y o/\o.cls=.type "tuple" /\o.dict=M) \/
   (T = "dict" /\((∃a,H p=Y (.dK a))\/∃a,H p=Y (.dT a)))\/(T = "set" /\ ∃S n,H p=Y (.set S n))
 |_=>False
theorem LS{s:aw}{v:aj}(I:Inv X B U H s)(r:RelV x v)(f:Zn X.K T x H):
  s.TypeIs v T/\∀a,v=.ref a->∃m,s.heap.get? a=Y m/\m.dict=none:=by
 cases x with
 |str z=>let⟨t,rfl⟩:=r;cases f;simp[typeIs_str]
 |int i=>let⟨t,rfl⟩:=r;cases f;simp[typeIs_int]
 |ref p=>
  cases r;rcases f with⟨rfl,xs,w⟩|⟨rfl,o,b,A,h⟩|⟨rfl,b⟩|⟨rfl,S,n,b⟩
  .let⟨u,_,l,_⟩:=I.list w;refine⟨l.isList.typeIs,λa e =>?_⟩;let(o,n,e,c,h,_):=l
   simp_all
  .refine⟨⟨o,I.GY p o b,A⟩,λa e =>?_⟩;cases e;exact⟨o,I.GY _ o b,h⟩
  .let z:∃o,s.heap.get? p=Y o/\o.ExactDict:=by
    rcases b with⟨g,b⟩|⟨g,b⟩
    .let⟨_,_,_,_,o,_,_,e,ex,_⟩:=I.jr p _ b
     simp_all
    .let⟨_,_,_,_,o,_,_,e,ex,_⟩:=I.jr p _ b
     simp_all
   let(o,e,ex):=z;refine⟨⟨o,e,ex.1⟩,λa k =>?_⟩;cases k;exact⟨o,e,ex.2.1⟩
  .let⟨o,_,_,_,e,ex,_⟩:=I.jr p _ b;refine⟨⟨o,e,ex.1⟩,λa k =>?_⟩;cases k;exact⟨o,e,ex.2.1⟩
 |_=>solve_by_elim
def WA(K:aX)(T:String)(r:V->List V->Hp->VK->Prop)(to:TE):TE:=λU H Q=>to U H λx O=>Zn K T x O/\r x [] O Q
def tBM(K:aX)(T:String)(r:V->List V->Hp->VK->Prop)(to:TE)(t:TA):TE:=λU H Q=>to U H λx O=>Zn K T x O/\t U O λxs d=>r x xs d Q
variable {name:aJ}{id:String}
def ME(p:PlainAttrs T)(c:Slot T name id)(e:typeOf (.builtin id)=fK (.type "method_descriptor"))(u:MtR X id r)(t:PE X o to)(b:autoParam (cN o name X.env (eval o X.env)=eval o X.env) Ŭ)(a:autoParam ((Am.endLine==x5.line)=true) Ŭ):PE X (.Call (.Attribute o name Am) [] [] x5) (WA X.K T r to):=by
 intro B s U H Q I h;refine wpAny_Call_method0_late b a (g8 (t B s U H _ I h) ?_);rintro v l ⟨x,O,g,f,k,m⟩;let(J,z):=LS g f k;exact⟨T,id,p,c,e,J,z,Au rfl (PySem.evalArgs_none (u B l U O x [] v [] Q g f .nil m))⟩
def xl(i:PlainAttrs T)(f:Slot T name id)(k:typeOf (.builtin id)=fK (.type "method_descriptor"))(S:MtR X id r)(R:PE X o to)(ha:PA X (e::es) t)(c:autoParam (cN o name X.env (eval o X.env)=eval o X.env) Ŭ) (g:autoParam (((eS x5 (ar (e::es) X.env)).all (λx=> !x.1)&&(ki x5 (gr [] X.env)).all (λx=>x.1.isSome)
   && decide ((e::es).length+([]:List n_).length+(if ([]:List n_).isEmpty then 0 else 1)<30))=true) Ŭ) (b:autoParam ((Am.endLine==x5.line)=true) Ŭ) (P:autoParam (ar (e::es) X.env=(Z_,eval e X.env)::ar es X.env) Ŭ) (a:autoParam ((eS x5 (ar es X.env)).any (·.1)=false) Ŭ) :
  PE X (.Call (.Attribute o name Am) (e::es) [] x5) (tBM X.K T r to t):=by
 intro B s U H Q I h;refine wpAny_Call_method_late c g b rfl (g8 (R B s U H _ I h) ?_);rintro v D ⟨x,O,p,l,A,K⟩;let(J,z):=LS p l A;refine⟨T,id,i,f,k,J,z,?_⟩;let m:=ha x5 B D U O _ p K;rw[P]at m ⊢;refine Au (by show (Z_||(eS _ _).any _)=Z_;rw[a]<;>solve_by_elim) (Calls.evalArgs_plain ?_);exact g8 m <|by rintro w C ⟨u,d,I2,E,F⟩;exact Ÿ
end
def MtM(X:Cx)(id:String)(r:V->List V->Hp->VK->Prop):Prop:=
 ∀(B:List (aD×Obj)) (s:aw) (U:St) (H:Hp) (x:V) (xs:List V) (v:aj) (a:List aj) (Q:VK),Inv X B U H s->RelV x v->cR xs a->r x xs H Q ->
  bP (bG X.prog X.w) X.A (call (.builtin id) (v::a)) (EP X B U Q) X.xe s
def cR.one{x:V}{a:List aj}(h:cR [x] a):∃u,a=[u]/\RelV x u:=by
 rcases h with _|⟨r,_|_⟩;simp_all
def cR.two{x y:V}{a:List aj}(h:cR [x,y] a):∃u v,a=[u,v]/\RelV x u/\RelV y v:=by
 rcases h with _|⟨r,_|⟨q,_|_⟩⟩;exact⟨_,_,rfl,r,q⟩
def cR.zero{a:List aj}(h:cR [] a):a=[]:=by cases h;rfl
def cR.dropLast(h:cR xs a):cR xs.dropLast a.dropLast:=by
 induction h with
 |nil=>exact .nil|cons r t ih=>
  cases t with|nil=>exact .nil|cons q b=>solve_by_elim
theorem cR.rep(h:cR xs a):∀k:Nat,cR (bF k xs).flatten (bF k a).flatten
 |0 =>.nil|k+1=>by simp_all [Aq,List.flatten_cons,cR.append,cR.rep]
theorem foldl_rep(a:List aj):∀(k:Nat) (b:List aj),
  List.foldl (λf c=>f++c) b.toArray (bF k a.toArray)=(b++(bF k a).flatten).toArray
 |0,b=>by simp
 | k+1,b=>by
  let e:b.toArray++a.toArray=(b++a).toArray:=by simp
  let g:b++a++(bF k a).flatten=b++(bF (k+1) a).flatten:=by rw[Aq,List.flatten_cons,bY]
  rw[<- g,<- foldl_rep a k _,<- e,Aq,List.foldl_cons]
section
variable {X:Cx}{s:aw}
def Inv.Ug{a Nj:List aj}{n:Nat}{f:Array aj->Array aj}{t':Nat}(I:Inv X B U H s)(m:H l=Y (.lst xs))(e:s.heap.get? l=Y { cls :=.type "list",data :=.seq a.toArray n })(h:f a.toArray=Nj.toArray)(c:cR ys Nj)(b:ys.length<=aY):
  Inv X B U (fD H l (.lst ys)) { s with heap:=s.heap.update l (uQ f),toks:=t' }:=by
 let q:=PySem.IsL.update e f;rw[h]at q;refine I.write (by rw[m];exact trivial) (.inl rfl) (λo u k g=>(pU _ _ (bQ k)).trans g) ⟨_,q⟩ ?_;exact⟨b,_,_,c,q⟩
def Inv.Xc{t':Nat}(I:Inv X B U H s)(c:cR ys a)(b:ys.length<=aY):
  Inv X B U (fD H s.heap.objs.size (.lst ys)) { s with heap:=s.heap.push { cls :=.type "list",data :=.seq a.toArray },toks:=t' }:=
 I.laid (λd d q=>ak _ q) (aI _) ⟨b,a,0,c,bL _ rfl⟩
def Inv.fresh(I:Inv X B U H s):H s.heap.objs.size=none:=I.jr.fresh (aI _)
def Inv.GV(I:Inv X B U H s)(b:H l=Y (.lst xs)):xs.length<=aY/\∃(a:List aj) (n:Nat),cR xs a/\xs.length=a.length/\s.heap.get? l=Y { cls :=.type "list",data :=.seq a.toArray n }:=by
 let(z,a,n,r,e):=I.jr l _ b;exact⟨z,a,n,r,r.length,e⟩
def Ek(h:n<=aY):nX n=false:=by
 simp_all [nX,decide_eq_false]
end
section
variable {X:Cx}
def PL:V->List V->Hp->VK->Prop:=λx a H Q=>∃l xs y,x=.ref l/\a=[y]/\H l=Y (.lst xs)/\xs.length<aY/\Q .gA (fD H l (.lst (xs++[y])))
def kZ:MtM X "list.append" PL:=by
 rintro B s U H x k v m Q I c f ⟨l,xs,y,rfl,rfl,b,o,q⟩;cases c;let(u,rfl,g):=f.one;let(z,a,n,r,p,e):=I.GV b;refine HW F.slot_list_append ⟨_,e,rfl⟩ F.entry_list_append (F.args_list_append_2 _ _) (PySem.list_append l _ n u Ż) ⟨e,?_⟩;refine⟨.gA,_,I.Ug b e ż (r.append (.cons g .nil)) ?_,rfl,q⟩
 grind
def PK:V->List V->Hp->VK->Prop:=λx a H Q=>∃l b xs zs,x=.ref l/\a=[.ref b]/\H l=Y (.lst xs)/\H b=Y (.lst zs)/\xs.length+zs.length<=aY/\Q .gA (fD H l (.lst (xs++zs)))
def Ks:MtM X "list.extend" PK:=by
 refine λB s U H x K v d Q I m o xx=>af λkk =>?_
 let(l,b,xs,zs,rfl,rfl,k,C,P,q):=xx;cases m;let(u,rfl,p):=o.one;cases p;let(z,c,n,r,R,e):=I.GV k;let(E,a,w,t,A,D):=I.GV C;have g:c.toArray.size+a.toArray.size<=aY:=Ż
 let f:¬(!c.toArray.isEmpty&&nX (c.toArray.size+a.toArray.size))=true:=by rw[Ek g,Lz];exact cF
 refine kk (HW F.slot_list_extend ⟨_,e,rfl⟩ F.entry_list_extend (F.args_list_extend_2 _ _)
  (AutoSeq1.list_extend_list_list_0 l _ n b _ w f Ż ž) ⟨e,D,?_⟩)
 refine⟨.gA,_,I.Ug k e ż (r.append t) ?_,rfl,q⟩;rw[aS];omega
def WO:V->List V->Hp->VK->Prop:=λx a H Q=>∃l xs y,x=.ref l/\a=[]/\H l=Y (.lst xs)/\xs[xs.length-1]?=Y y/\Q y (fD H l (.lst xs.dropLast))
def MZ:MtM X "list.pop" WO:=by
 refine λB s U H x w v A Q I g k xx=>af λkk =>?_
 let(l,xs,y,rfl,rfl,f,o,q):=xx;cases g;let c:=k.zero;subst c;let(z,a,n,r,t,e):=I.GV f;let(u,p,m):=r.get o;let b:a.toArray[a.toArray.size-1]?=Y u:=by simp_all
 refine kk (HW F.slot_list_pop ⟨_,e,rfl⟩ F.entry_list_pop (F.args_list_pop_1 _) (MeetsSeq.list_pop_last l _ n u b Ż) ⟨e,?_⟩);refine⟨y,_,I.Ug f e ?_ r.dropLast ?_,m,q⟩
 .simp
 .rw[List.length_dropLast]
  grind
def Z0:R2:=λx y H Q=>∃l b xs zs,x=.ref l/\y=.ref b/\H l=Y (.lst xs)/\H b=Y (.lst zs)/\xs.length+zs.length<=aY/\∀p,H p=M->Q (.ref p) (fD H p (.lst (xs++zs)))
def MK:pk X (fJ .Add) Z0:=by
 refine λB s U H x y v u Q I g f xx=>af λkk =>?_
 let(l,b,xs,zs,rfl,rfl,o,p,D,q):=xx;cases g;cases f;let(z,c,n,r,E,e):=I.GV o;let(A,a,C,k,m,w):=I.GV p;refine kk (PySem.P.add_list e w ?_ Ż);let t:c.toArray++a.toArray=(c++a).toArray:=by simp
 rw[t];exact⟨.ref _,_,I.Xc (r.append k) Ż,rfl,q _ I.fresh⟩
def ZY:R2:=λx y H Q=>∃l k xs,x=.ref l/\y=.int k/\H l=Y (.lst xs) /\ -(2 ^ 63)<=k/\k<2 ^ 63/\xs.length*k.toNat<=aY /\
 ∀p,H p=M->Q (.ref p) (fD H p (.lst (bF k.toNat xs).flatten))
def Ri(xs:List a)(k:Nat):(bF k xs).flatten.length=k*xs.length:=by
 simp_all
def TF:pk X (fJ .Mult) ZY:=by
 rintro B s U H x y v u Q I rx ry ⟨l,k,xs,rfl,rfl,hH,J,z,hz,q⟩;cases rx;let(t,rfl):=ry;let(c,GZ,n,r,hl,e):=I.GV hH;have Rk:GZ.toArray.size*k.toNat<=aY:=Ż
 let aaN:¬GZ.toArray.size*k.toNat > (2 ^ 63-1)/8:=by grind [aY]
 let aaK:¬(!Builtin.List.listFitsIndex k)=true:=by rw[fitsIndex_both J z];exact cF
 have Xu:¬nX (GZ.toArray.size*k.toNat)=true:=by rw[Ek Rk];exact cF
 let aaF:List.foldl (λx1 x2=>x1++x2) #[] (bF (if GZ.toArray.isEmpty=Z' then 0 else k.toNat) GZ.toArray)=(bF k.toNat GZ).flatten.toArray:=by
  have f0:∀m:Nat,List.foldl (λx1 x2=>x1++x2) #[] (bF m GZ.toArray)=(bF m GZ).flatten.toArray:=λm=>by simp_all [foldl_rep,dS]
  rw[f0];cases GZ<;>simp_all
 refine wpAny_binaryOp_repeat_ref (T:= "list") (U:= "int") ſ ⟨_,e,rfl⟩ (λs'=>typeIs_int s' k t) noFill_list_mul F.fills_int_mul F.slot_int_rmul repeat_list F.slot_int_index.lookup
  (HW F.slot_int_rmul (typeIs_int s k t) F.entry_int_rmul (F.args_int_rmul_2 _ _) (int___rmul___int_list k t l GZ.toArray n)
   ⟨e,rfl,⟨_,e,rfl⟩,HW F.slot_list_mul ⟨_,e,rfl⟩ F.entry_list_mul (F.args_list_mul_2 _ _) (AutoListH.list___mul___list_int_3 l GZ.toArray n k t aaK aaN Xu) ⟨e,?_⟩⟩)
 rw[aaF];exact⟨.ref _,_,I.Xc (t':=s.toks) (r.rep k.toNat) (by rw[Ri,Nat.mul_comm];exact hz),rfl,q _ I.fresh⟩
end
section
variable {s:aw}
end
section
variable {X:Cx}
end
end L2
namespace Att
open PySem PySem.W PySem.Calls PyProof.Rows
def xS{P:Params}:∀(c:List Int) (e:List aj),WellAll P h e (c.map WData.int)->FN e c:=by
 intro c
 induction c with
 |nil=>intro e w;cases w;exact .nil
 |cons n c ih=>
  intro e w;cases w with
  |cons a b=>
   cases a
   exact Ÿ
theorem Kc{l:OpenLaw}{n:Nat}(A:l.most=Y n){P:Params}{h:dY}{args:List WData}{c:List aj}(e:l.row.toRowW.claim.pre args=Z')(o:WellAll P h c args):
  ∃a s b,c=[il a]/\args=[WData.list (b.map WData.int)]/\h.get? a=Y { cls :=.type "list",data :=.seq s.toArray }/\FN s b/\b.length<=n:=by
 let t:l.pre.holds [] _=true:=(pre_splitW e).2;let(d,r,rfl,J,z):=hasAllW_cons (pre_splitW e).1;obtain rfl:=hasAllW_nil z;let(xs,rfl,C):=hasW_list J;let(b,rfl):=items_int C;let f:b.length<=n:=by
  let m:(WTm.not (.lt (.lit (.int n)) (.len (.arg 0)))).holds [] { args:=[.list (b.map .int)] }=true:=by
   let m:=(holds_andW t).1
   simp_all
  let k:=condW_of m (w_not (w_lt w_lit (w_len_list (w_arg rfl))))
  simp_all
 cases o with
 |cons v u=>
  cases u;cases v with|list x g=>exact⟨_,_,b,rfl,rfl,x,xS b _ g,f⟩
def Ki(l:OpenLaw)(args:List WData):l.row.toRowW.claim.post args (.bool Z') args=true:=
 postW_of
  Ÿ
  (w_eq_bool (w_res rfl) w_lit) rfl
def E_{l:OpenLaw}{n:Nat}{q:bE}{e:List aJ}{R:(aJ->Option aj)->dY->Prop}{Q:fw->dY->Prop}{d:DefRec}(hn:l.most=Y n)(F:d.params.defaults=[]) (u:∀(w:fw) (c b:aw) (i C:aJ->Option aj) (t:aD) (o:Obj) (A x h:aj) (a:aD) (k:List aj) (v:List Int),
   Ground q e [] R w c i C b.heap->Q w b.heap ->
   b.heap.get? t=Y o->o.data=.func (docDef d.name d.params d.body d.scope A x h)->b.heap.CodeRec x d.name->i d.name=Y (.ref t) ->
   b.heap.get? a=Y { cls :=.type "list",data :=.seq k.toArray }->FN k v->v.length<=n->b.gens=#[] ->
   An (bG l.prog w) Lr (.call (.ref t) ⟨[.ref a],[]⟩) (λr s'=>r=.ok (.ret (.bool Z'))/\OldK b.heap s'.heap/\s'.os=b.os/\FO s'.gens) b) :
  WalkO q e R Q l.row.toRowW d [] (λf k=>PySem.call f k):=by
 intro w c b i C G j t o A x h dV S ho hd H P E hg args K as m y T D hlo;obtain rfl:dV=.none:=Dflts.none P F;obtain rfl:S=.none:=Dflts.noKw P;let(a,k,v,rfl,trivial,p,g,s):=Kc hn m D;refine enter_call (Lq (u w c b i C t o A x h a k v G j ho (fd_plain hd) H E p g s hg) λr s' X =>?_);let(rfl,z,h3,h4):=X;exact⟨.inl ⟨_,_,[],rfl,λ_=>rfl,.bool _,Ki l _,λ_=>⟨List.Pairwise.nil,λ_ hm=>nomatch hm⟩⟩,z,h3,h4⟩
section
variable {s:aw}{K:aX}
end
end Att
namespace L2
open PySem PySem.Spec PyProof.Rows
def J1{a:List aj}{b:List Int}(h:FN a b):cR (b.map V.int) a:=by
 induction h with|nil=>exact .nil|cons n t h ih=>solve_by_elim
def OP(H:Hp):Prop:=∀b,H b=M\/∃o xs,H b=Y (.NP o (.lst xs))
def Nf{P:bE}{K:aX}{f:aw}(KX:K.In f.heap)(S:f.heap.Ns bC i)(l:f.heap.Ns builtinsNs mb)(hbb:∀x:aJ,x ≠ "__name__" ->mb x=i4 x)(T:f.heap.NoLimit)(hg:f.gens=#[])(ha:f.heap.get? a=Y { cls :=.type "list",data :=.seq A.toArray })(L:FN A E)(hl:E.length<=aY)(hr:hJ k Lr)(F:∀base:dY,K.In base->base.Ns bC i->cZ P w K i base CX k fa I [x] sp)(C:∀(s:aw) (u:aj),LA s I ⟨[u],[]⟩ [(x,u)])(hsp:∀H:Hp,OP H->nR K H a (E.map V.int)->sp [.ref a] H (λv y=>v=.bl Z') λy y y=>False)(hCX:∀H e s',CX [] H f (λy y y=>False) e s'->False):
  An (bG P w) Lr (.call (.ref fa) ⟨[.ref a],[]⟩) (λr s'=>r=.ok (.ret (.bool Z'))/\OldK f.heap s'.heap/\s'.os=f.os/\FO s'.gens) f:=by
 let rv:=J1 L;let j:=L.length;have t:∀H:Hp,OP H->nR K H a (E.map V.int)->pL P w H f.heap->(∀b,H b≠M->b=a)->(H a≠M->K.lookup a=M) ->
   An (bG P w) Lr (.call (.ref fa) ⟨[.ref a],[]⟩) (λr s'=>r=.ok (.ret (.bool Z'))/\OldK f.heap s'.heap/\s'.os=f.os/\FO s'.gens) f:=by
  intro H hO hS R hA hK;let g:∀ {b:aD}{o:Obj},f.heap.get? b=Y o->H b=M->(Hd f.heap H).get? b=Y o:=λe n=>Nt e n
  let noA:∀ {b:aD}{o:Obj}{es:Array DictEntry}{ep:Nat},f.heap.get? b=Y o->o.data=.dict es ep->H b=none:=fun {b o es ep} e d=>by rcases q:H b with _|u<;>grind
  have p:∀ {b:aD}{m:aJ->Option aj},f.heap.Ns b m->(Hd f.heap H).Ns b m:=fun {b m} ⟨o,es,ep,e,d,r⟩=>⟨o,es,ep,g e (noA e d),d,r⟩
  let X:=λb o e=>g (KX b o e) ŷ
  let hM:Mod K i (Hd f.heap H):=⟨X,p S,⟨mb,p l,hbb⟩,let⟨mc,J,z⟩:=T;⟨mc,p J,z⟩⟩;refine Lq ((F _ X (p S)).run Lr [] f H ⟨[.ref a],[]⟩ [.ref a] [.ref a] _ _ hr (⟨rfl,hM,λb o e=>P9 e,Rp (KO _ _),trivial,λb l=>absurd (show b∈([]:List aD) from l) ż,R,.of_eq hg⟩) (C f (.ref a)) (.cons rfl .nil) (hsp H hO hS)) λr s' h =>?_
  cases r with
  |error e=>exact(hCX H e s' h).elim|ok fl=>
   cases fl with
   |ret u=>
    let⟨v,H',os,bare,un,Q,r',q⟩:=h;let q':v=.bl true:=q;subst q';obtain rfl:u=Value.bool true:=r';refine⟨rfl,OldK.of_keep λb o e =>?_,os,bare⟩;cases q:H b with
    |none=>exact un.keep b o e q (by intro c;exact absurd (show b∈([]:List aD) from c) ż) ż
    |some u=>
     rcases hO b with c|⟨ob,xs,c⟩
     .rw[q]at c;cases c
     .let z2:=un.CK b ob _ c;let(e1,_):=R b _ c;let(e2,_):=Q b _ z2;rw[e]at e1;cases e1;exact e2
   |_=>exact False.elim h
 cases hk:K.lookup a with
 |some o=>let e:=KX a o hk;rw[ha]at e;cases e;refine t _ (λy =>.inl rfl) (.inr ⟨_,A.toArray,_,hk,rfl,rfl,rfl,by rw[cK,j];exact hl,by simpa using rv⟩) (λb u c=>by cases (c)) (λb c=>absurd rfl c) λc=>absurd rfl c
 |none=>
  refine t (λb=>if b=a then Y _ else M) (λb =>?_) (.inl (.inr ⟨{ cls :=.type "list",data :=.seq A.toArray },if_pos rfl⟩)) (λb u c =>?_) (λb c =>?_) λy=>hk
  .grind
  .by_cases l:b=a
   .cases ((if_pos l).symm.trans c);subst l;exact⟨ha,Ż,A,_,rv,ha⟩
   simp_all
  simp_all
def Pc{l:PySem.W.OpenLaw}{n k:Nat}{q:bE}{c:List aJ}{R:fw->dY->Prop}{d:DefRec}{K:Params->aX}{CX:fw->Vt}{sp:fw->Sp}{x:aJ}(X:l.most=Y n)(C:n<=aY)(E:d.params.defaults=[])(T:hJ k Lr)(hY:∀(w:fw) (h:dY),R w h->(K w.params).In h) (F:∀(w:fw) (i:aJ->Option aj) (t:aD) (h:dY),(K w.params).In h->h.Ns bC i->i d.name=Y (.ref t) ->
   ∃I:gw,(∀(s:aw) (u:aj),LA s I ⟨[u],[]⟩ [(x,u)]) /\
    ∀base:dY,(K w.params).In base->base.Ns bC i->cZ l.prog w (K w.params) i base (CX w) k t I [x] (sp w)) (A:∀(w:fw) (H:Hp) (a:aD) (r:List Int),r.length<=n->OP H->nR (K w.params) H a (r.map V.int)->sp w [.ref a] H (λv z=>v=.bl Z') λz z z=>False) (y:∀(w:fw) (H:Hp) (s:aw) (e:aj) (s':aw),CX w [] H s (λz z z=>False) e s'->False) :
  PySem.W.WalkO q c XP R l.row.toRowW d [] (λf P=>PySem.call f P):=by
 refine Att.E_ X E λw Q m i mb t o pm cd Sj a P r G j ho hd hcd D p g b hg =>?_
 let S:=hY w _ j;let(I,hb,hF):=F w i t _ S G.T.g D;exact Nf S G.T.g G.T.b G.T.builtins G.T.nolimit hg p g (bX b C) T hF hb (λH hO hS=>A w H a r b hO hS) λH e s'=>y w H m e s'
def LM{l:PySem.W.OpenLaw}{n k:Nat}{q:bE}{b:List aJ}{P:(aJ->Option aj)->dY->Prop}{t:fw->dY->Prop}{d:DefRec}{K:Params->aX}{CX:Vt}{sp:aX->Sp}{x:aJ}(D:l.most=Y n)(m:n<=aY)(o:d.params.defaults=[])(C:hJ k Lr)(E:∀(w:fw) (h:dY),t w h->(K w.params).In h) (F:∀(w:fw) (i:aJ->Option aj) (r:aD) (h:dY),(K w.params).In h->h.Ns bC i->i d.name=Y (.ref r) ->
   ∃I:gw,(∀(s:aw) (u:aj),LA s I ⟨[u],[]⟩ [(x,u)]) /\
    ∀base:dY,(K w.params).In base->base.Ns bC i->cZ l.prog w (K w.params) i base CX k r I [x] (sp (K w.params))) (g:∀(K:aX) (H:Hp) (a:aD) (c:List Int),c.length<=n->OP H->nR K H a (c.map V.int)->sp K [.ref a] H (λv y=>v=.bl Z') λy y y=>False) (p:∀(H:Hp) (s:aw) (e:aj) (s':aw),CX [] H s (λy y y=>False) e s'->False) :
  PySem.W.WalkO q b P t l.row.toRowW d [] (λf A=>PySem.call f A):=
 Pc D m o C E F (λw H a c J z j=>g _ H a c J z j) λy H s e s'=>p H s e s'
noncomputable def dU(s:d_)(j:Nat):d_:=match s with
 |.ClassDef _ _ _ a _ _ _ _ _ _ _=>a.getD j (.Pass ⟨0,0,0,0⟩)|_ =>.Pass ⟨0,0,0,0⟩
noncomputable def ph(s:d_):Arguments:=match s with
 |.FunctionDef _ a _ _ _ _ _ _ _ _=>a|_=>{ posonlyargs:=[],args:=[],vararg:=M,kwonlyargs:=[],kw_defaults:=[],kwarg:=M,defaults:=[] }
noncomputable def iT(s:d_):List d_:=match s with
 |.FunctionDef _ _ b _ _ _ _ _ _ _=>b|_=>[]
noncomputable def aF(s:d_):Scope:=match s with
 |.FunctionDef _ _ _ _ _ _ a _ _ _=>a|_=>{ kind :=.function,names:=[],isGenerator:=Z_,isCoroutine:=Z_ }
abbrev i7:Vt:=λa a a a a a=>False
abbrev E0:XK:=λa a a=>False
def rp{X:Cx}:sS i7 X E0:=λa a a a a a a h=>h.elim
structure jy(K:aX)(x qual:aJ)(st:d_)(f:aD)(fd:gw):Prop where
 ex:∃(oc:aj) (od:Option aD) (kV Sj pm:aj) (an:Option aD) (l6 ct:aj) (Z8:Array (Option aj)),
  fd=fnOf x qual (ph st) (iT st) (aF st) .none kV Sj pm an l6 ct/\K.lookup f=some ⟨oc,od,.func fd,Z8⟩/\codeIn K l6 qual=true
 kp:AS K (.ref f)=true
section
variable {P:bE}{K:aX}
def jy.ok{st:d_}{f:aD}(F:jy K x c st f I)(S:bH N q (aF st))(m:∀g H Q E,sp g H Q E->g.length=q.length) (l:∀(e:aj) (A:jz) (b:List Env) (s:aw) (H:Hp) (g:List V) (Q:VK) (E:XK),hJ k (A.deeper (rO c (aF st) s.heap.objs.size f e))->sp g H Q E ->
   ∃t,qU (xZ i7 P w K i base N c (aF st) f e A b s H E).MT (iT st) t/\t { nx:=λ_ H'=>Q .gA H',rt:=Q } (start N g) H):cZ P w K i base i7 (k+1) f I q sp:=by
 let(d,D,R,v,C,X,e,T,r,rfl,lk,p):=F.ex;refine XF lk p S m λA b s H g Q E u o =>?_
 let(t,h,a):=l e A b s H g Q E u o;exact⟨t,h.MT,a⟩
def jy.binds{st:d_}{f:aD}(F:jy K x a st f I)(h:∀(k b g:aj) (m:Option aD) (c l:aj) (e:List aj),e.length=q.length->bindArgs (fnOf x a (ph st) (iT st) (aF st) .none k b g m c l) ⟨e,[]⟩=fK (q.zip e)):Binds K I q []:=by
 let(s,r,k,b,g,m,c,l,o,rfl,_):=F.ex;exact .all (h k b g m c l)
def NO{st:d_}{f:aD}{s:aj}{m:aj}(l:K.lookup f=Y ⟨s,r,.func (fnOf x a (ph st) (iT st) (aF st) .none m e h p b o),g⟩)(c:codeIn K b a=Z')(k:AS K (.ref f)=Z'):jy K x a st f (fnOf x a (ph st) (iT st) (aF st) .none m e h p b o):=⟨⟨s,r,m,e,h,p,b,o,g,rfl,l,c⟩,k⟩
end
def zI(a:hJ k A):A.units+1<rK:=Nat.lt_of_le_of_lt Ż a.units
section
variable {X:Cx}
def pv(i:Nat)(e:autoParam (X.N[i]?=Y x) Ŭ)(b:autoParam (Vp X.env.scope x) Ű)(c:autoParam ((x==("__debug__" : aJ))=false) Ū)(a:autoParam ((x==("__classdict__" : aJ))=false) Ū):PE X (.Name x G) (j8 i):=Tu e b c a
end
def Nl{A B:Prop}(h:B):if Z_=Z' then A else B:=by
 simp_all
def G7{A B:Prop}(h:A):if Z'=Z' then A else B:=by
 simp_all
def G8{c A B:Prop}[Decidable c](J:c->A)(z:¬c->B):if c then A else B:=by
 by_cases h:c
 .rw[if_pos h];exact J h
 .rw[if_neg h];exact z h
def bI(H H':Hp):Prop:=∀b o,H b=Y o->H' b=Y o
def bI.refl(H:Hp):bI H H:=λa a h=>h
def bI.trans{d:Hp}(a:bI H O)(b:bI O d):bI H d:=λc o h=>b c o (a c o h)
def bI.free(e:bI H H')(h:H' l=Option.none):H l=Option.none:=by
 rcases q:H l with _|o
 .rfl
 rw[e l o q]at h;cases h
def bI.seq{K:aX}{a:aD}(e:bI H H')(h:nR K H a xs):nR K H' a xs:=by
 rcases h with (h|⟨o,h⟩)|h
 .exact Ÿ
 .exact .inl (.inr ⟨o,e _ _ h⟩)
 .exact .inr h
section
variable {P:bE}
def pL.Ie(x:pL P w H h)(f:H a=M)(d:j7 P w (fD H a o) h a o):pL P w (fD H a o) h:=λb u e=>by
 by_cases k:b=a
 .simp_all [bB]
 .rw[aP k]at e;exact(x b u e).AA (λc v c q=>q) (λc q=>by rw[aP (bM q f)];exact q) λc l q=>by rw[aP (bM q f)];exact q
def pL.BR(x:pL P w (fD H a (.lst d)) h)(m:H a=M):pL P w H h:=λb u e=>by
 let n:=bM e m;have k:∀c v,fD H a (.lst d) c=Y v->v ≠ .lst d->H c=Y v:=λc v q l=>by
  by_cases f:c=a
  .subst f;rw[bB]at q;cases q<;>simp_all
  simp_all [aP]
 exact(x b u (by simp_all [aP])).AA (λc v g q=>q) (λc q=>k c _ q Ż) λc i q=>k c _ q Ż
end
noncomputable def lobj(g:List aj)(n:Nat):Obj:={ cls :=.type "list",data :=.seq g.toArray n }
section
variable {X:Cx}{s:aw}{D:aD}
def Inv.Ie(I:Inv X (j++[(D,lobj g n)]) t H s)(r:cR i g)(A:i.length<=aY)(E:X.s₀.heap.objs.size<=D)(B:∀p∈X.pn++j,p.1≠D):Inv X j t (fD H D (.lst i)) s:=by
 let(e,d,C,_):=I.pin (D,lobj g n) ż;let f:∀b o,X.s₀.heap.get? b=Y o->b≠D:=λb o q z=>by
  let l:=aQ q
  lia
 refine⟨I.ok,I.os,I.bare,⟨I.base.keep,I.base.slot,λb o q m x =>?_,I.base.there,λb k q =>?_,λb o u q =>?_,λb w q =>?_⟩,I.loc,I.cell,?_,λx c q =>?_,λp q =>?_,I.jr.Ie d ⟨A,g,n,r,e⟩,I.len⟩
 .rw[aP (f b o q)];exact I.base.free b o q m x
 .have:=I.base.DD b k q;rw[aP (bM this d)];exact this
 .have:=I.base.CK b o u q;rw[aP (bM this d)];exact this
 .let⟨a,this⟩:=I.base.DH b w q;exact⟨a,by rw[aP (bM this d)];exact this⟩
 .rw[aP (bQ C)];exact I.free
 .let y:c≠D:=λz=>by
   let(v,L,h,F):=I.cell x c q
   simp_all
  rw[aP y];exact I.qg x c q
 .let⟨K,J,G⟩:=I.pin p (by rw[<- bY];exact aT _ q);exact⟨K,by rw[aP (B p q)];exact J,G⟩
def Inv.BR(I:Inv X j t (fD H D (.lst i)) s)(h:H D=M)(B:D≠X.env.locals)(C:D∉X.fs):∃g n,cR i g/\i.length<=aY/\Inv X (j++[(D,lobj g n)]) t H s:=by
 let(A,g,n,r,e):=I.jr D _ bB;have k:∀c v,fD H D (.lst i) c=Y v->v ≠ .lst i->H c=Y v:=λc v q y=>by
  by_cases d:c=D
  .subst d;rw[bB]at q;cases q<;>solve_by_elim
  .rwa [aP d]at q
 let f:∀c,fD H D (.lst i) c=M->H c=none:=λc q=>by grind [aP]
 refine⟨g,n,r,A,I.ok,I.os,I.bare,⟨I.base.keep,I.base.slot,λb o q m x=>f _ (I.base.free b o q m x),I.base.there,λb l q=>k _ _ (I.base.DD b l q) ż,λb o u q=>k _ _ (I.base.CK b o u q) ż,λb w q =>?_⟩,I.loc,I.cell,f _ I.free,λx c q=>f _ (I.qg x c q),λp q =>?_,I.jr.BR h,I.len⟩
 .obtain _:=I.base.DH b w q
  grind
 .rw[<- bY]at q;rcases aO.mp q with q|q
  .let⟨G,F,E⟩:=I.pin p q;exact⟨G,f _ F,E⟩
  simp_all [lobj]
end
theorem jv:∀(a:List (aJ×uR)) (n:Nat) (Fm:List (aJ×aD)),gu n a Fm=gu n a []++Fm
 |[],n,Fm=>rfl| (x,k)::r,n,Fm=>by
  unfold gu;split
  .rw[jv r _ _,jv r _ [(x,n)],bY];rfl
  .exact jv r n Fm
theorem lL:∀(a:List (aJ×uR)) (n:Nat) (b:List (aJ×aD)) (x:aJ) (c:aD),(x,c)∈gu n a b->(x,c)∈b\/(x,FJ)∈a
 |[],n,b,x,c,h =>.inl h| (y,k)::r,n,b,x,c,h=>by
  unfold gu at h;split at h
  .rcases lL r _ _ x c h with q|q
   .grind
   .exact .inr (aZ _ q)
  .rcases lL r _ _ x c h with q|q<;>simp_all
noncomputable def oP(a:List (aJ×aD)):List (aJ×uR)->List (aJ×aD)->List (aJ×aD)
 |[],b=>b|(x,k)::r,b=>if k == .free then oP a r ((x,(a.lookup x).getD 0)::b) else oP a r b
theorem sQ{env:Env}(f:aJ×uR->List (aJ×aD)->Sem (ForInStep (List (aJ×aD))))
  (hf:∀name kind cs,f (name,kind) cs=if kind == .free then (do let a <- cellOf env name;fK (.yield ((name,a)::cs))) else fK (.yield cs)) :
  ∀(names:List (aJ×uR)) (Fm:List (aJ×aD)),(∀y∈names,y.2=.free->∃c,env.cells.lookup y.1=Y c)->(forIn names Fm f:Sem _)=fK (oP env.cells names Fm)
 |[],Fm,_=>by solve_by_elim
 | (x,k)::r,Fm,h=>by
  rw[List.forIn_cons,hf];unfold oP;cases hk:k==rF with
  |false=>exact sQ f hf r Fm λy hy=>h y Ÿ
  |true=>
   let⟨c,e⟩:=h _ aH Ż;let e2:cellOf env x=fK c:=by unfold cellOf;rw[e]
   rw[e2,e];exact sQ f hf r _ λy hy=>h y (aZ _ hy)
def AQ{env:Env}(h:∀y∈a.names,y.2=.free->∃c,env.cells.lookup y.1=Y c):closureFor a env=fK (oP env.cells a.names []):=by
 simp only[closureFor];rw[sQ _ λname b d=>by simp_all _ [] h];rfl
theorem wR:∀ {a:List (aJ×uR)}{d:List (aJ×aD)}{x:aJ}{c:aD},(x,c)∈oP b a d->(x,c)∈d\/((x,rF)∈a/\c=(b.lookup x).getD 0)
 |[],d,x,c,h =>.inl h| (y,k)::r,d,x,c,h=>by
  unfold oP at h;split at h
  .rcases wR h with q|q
   .grind
   simp_all
  .rcases wR h with q|q<;>simp_all
theorem uG:∀ {b:List (aJ×uR)}{a:List (aJ×aD)}{x:aJ},(∃c,(x,c)∈a)->∃c,(x,c)∈oP d b a
 |[],a,x,h=>h| (y,k)::r,a,x,⟨c,h⟩=>by
  unfold oP;split
  .exact uG ⟨c,aZ _ h⟩
  .exact uG ⟨c,h⟩
theorem wU{cells:List (aJ×aD)}:∀ {a:List (aJ×uR)}{Fm:List (aJ×aD)}{x:aJ},(x,rF)∈a->∃c,(x,c)∈oP cells a Fm
 | (y,k)::r,Fm,x,h=>by
  unfold oP;rcases aV.mp h with e|h
  .simp_all [uG,aH]
  .split
   .exact wU h
   .exact wU h
theorem t5:∀ {l:List (aJ×a)}{x:aJ}{c:a},(x,c)∈l->∃d,l.lookup x=Y d
 | (y,v)::r,x,c,h=>by
  rw[lS];cases b:x==y with
  |true=>simp_all|false=>
   rcases aV.mp h with e|h
   .simp_all
   .exact t5 h
theorem uw:∀ {l r:List (aJ×a)}{x:aJ},(l++r).lookup x=(l.lookup x).or (r.lookup x)
 |[],r,x=>by simp
 |(y,v)::l,r,x=>by grind
theorem oK{a:Env}:∀ {b:List (aJ×uR)}{x:aJ},(b.map λ(n,k)=>if (k==rF&&a.scope.kind == .function&&a.kindOf n==Y .cell) then (n,FJ) else (n,k)).lookup x =
  (b.lookup x).map λk=>if (k==rF&&a.scope.kind == .function&&a.kindOf x==Y .cell) then FJ else k
 |[],_=>rfl| (n,k)::r,x=>by
  let ih :=@oK a r x
  grind
def p'{a b:Nat}(h:a<b):a<b:=h
def W8{b:Nat}(h:a<=b):a<=b:=h
def Bi{a b:Nat}(h:a=b):a=b:=h
abbrev oQ(X:Cx)(f:Scope)(C:aD):Env:=
 { scope:=relabel f X.env,locals:=C,globals:=X.env.globals,cells:=gu (C+1) f.names (oP X.env.cells f.names []),qual:=X.env.qual,func:=M,code:=X.env.code,frame:=X.env.frame,builtins:=X.env.builtins }
def Cx.tS(X:Cx)(N:List aJ)(f:Scope)(C:aD)(s:aw)(H:Hp)(a:List aD):Cx:=
 { X with N:=N,s₀:=s,H₀:=H,env:=oQ X f C,outer:=X.stack,stack:=X.stack,ex:=a,fn:=λx=>f.names.lookup x==Y .cell,pn:=[],xe:=λb b=>False }
noncomputable def pE(t:List (Option Nat))(w:St):St:=t.map λo=>match o with|some j=>(w[j]?).getD M|none=>M
structure gy(X:Cx)(N:List aJ)(src:List (Option Nat))(scope:Scope):Prop where
 kind:scope.kind=.function
 uniq:∀y∈scope.names,scope.names.lookup y.1=some y.2
 free:∀y∈scope.names,y.2=.free->X.env.scope.names.lookup y.1=some .cell\/X.env.scope.names.lookup y.1=some .free
 len:src.length=N.length
 XD:∀(i j:Nat) (x:aJ),src[i]?=some (some j)->N[i]?=some x->X.N[j]?=some x/\scope.names.lookup x=some .free
section
variable {X:Cx}{s:aw}{f:Scope}
def GK{d:Model}(l:∀c,(∀b o,s.heap.get? b=Y o->c.get? b=Y o)->c.Ns s.heap.objs.size (λg=>M)->CellsOk c (s.heap.objs.size+1) (gu (s.heap.objs.size+1) f.names []) ->
   Q { scope:=f,locals:=s.heap.objs.size,globals:=X.env.globals,cells:=gu (s.heap.objs.size+1) f.names j,qual:=X.env.qual,func:=M,code:=X.env.code,frame:=X.env.frame,builtins:=X.env.builtins } { s with heap:=c }) :
  bP d A (newFunctionEnv f X.env.globals j [] X.env.qual M .none (Y X.env)) Q E s:=by
 refine ay (wpAny_alloc ?_);refine ay (wpAny_layCells _ λname a h=>by simp_all _ _ _ _ ?_);let i:=cellsFrom_ok f.names (s.heap.push { cls :=.type "dict",data :=.dict #[] }) (s.heap.objs.size+1) [] ⟨λg g k=>(nomatch k),List.Pairwise.nil⟩ Ż;rw[jo]at i;rw[jo ..];exact ay (bS (bS (l _ (λb o e=>pushCells_keeps _ _ b o (ak _ e)) ((Heap.Ns.new _ _).keeps (pushCells_keeps _ _)) i)))
theorem mQ(S:gy X N t f)(i:X.Ok)(h:(oQ X f C).cells.lookup x=Y c):
  (f.names.lookup x=Y .cell/\(x,c)∈gu (C+1) f.names [])\/(f.names.lookup x=Y .free/\X.env.cells.lookup x=Y c):=by
 let h:(gu _ _ _).lookup x=Y c:=h;rw[jv,uw]at h;cases e:(gu _ _ []).lookup x with
 |some d=>
  rw[e]at h;have:=by simpa using h
  subst this;let q:=PySem.mem_of_lookup e;rcases lL _ _ _ _ _ q with z|z
  .simp at z
  .exact .inl ⟨S.uniq _ z,q⟩
 |none=>
  rw[e]at h;rcases wR (PySem.mem_of_lookup h) with z|⟨z,a⟩
  .simp at z
  .let⟨d,b⟩:=i.has x (S.free _ z rfl);exact .inr ⟨S.uniq _ z,Ż⟩
def Q3(S:gy X N t f)(h:f.names.lookup x=Y .cell):∃c,(oQ X f C).cells.lookup x=Y c:=by
 let(c,e):=Aa h;refine⟨c,?_⟩;show (gu _ _ _).lookup x=Y c;rw[jv,uw,e];rfl
def E8(S:gy X N t f)(a:X.Ok){C:aD}(h:f.names.lookup x=Y .free):∃c,(oQ X f C).cells.lookup x=Y c/\X.env.cells.lookup x=Y c:=by
 let(d,i):=wU (PySem.mem_of_lookup h);let(c,j):=t5 i;have e:=by
  show (gu (C+1) f.names (oP X.env.cells f.names [])).lookup x=Y c;rw[jv,uw];rcases e:(gu _ _ []).lookup x with _|d
  .simpa using j
  rcases lL _ _ _ _ _ (PySem.mem_of_lookup e) with z|z
  .simp at z
  .have:=S.uniq _ z
   simp_all
 rcases mQ S a e with _|_
 .simp_all
 simp_all
def EZ(x:aJ):(oQ X f C).kindOf x=(f.names.lookup x).map λk=>if (k==rF&&X.env.scope.kind == .function&&X.env.kindOf x==Y .cell) then FJ else k:=by
 exact oK
def DN{i:Nat}{v:V}(h:(pE t w)[i]?=Y (Y v)):∃j,t[i]?=Y (Y j)/\w[j]?=Y (Y v):=by
 unfold pE at h;rw[aR]at h;let(o,e,h):=aq.1 h;rw[e];cases o with
 |none=>cases h|some j=>
  refine⟨j,rfl,?_⟩;let h:=by simpa using h
  rcases q:w[j]? with _|z<;>simp_all
def Lf{ex:List aD}{h':dY}{D C:Nat}{o:Obj}(S:gy X N t f)(I:Inv X B w H g)(J:∀b∈ex,Af X B H b)(P:∀b∈ex,∃o,g.heap.get? b=Y o)
  (hD:D=g.heap.objs.size) (hC:C=g.heap.objs.size+1) (G:∀b o,g.heap.get? b=Y o->h'.get? b=Y o) (T:h'.get? D=Y o) (R:∀v,o.data ≠ .cell v)
  (Q:h'.Ns C (λ_=>M)) (E:CellsOk h' (C+1) (gu (C+1) f.names [])) :
  Inv (X.tS N f C g H ex) (X.pn++B++[(D,o)]) (pE t w) H { g with heap:=h' }:=by
 let lt:∀ {b:Nat}{o:Obj},g.heap.get? b=Y o->b<g.heap.objs.size:=λe=>aQ e
 have fr:∀a:Nat,g.heap.objs.size<=a->H a=none:=λa h=>I.jr.fresh h
 have A:∀(x:aJ) (c:Nat),X.env.cells.lookup x=Y c->c<g.heap.objs.size:=λx c e=>by let(v,z):=I.cell x c e;exact z.lt
 have d:∀ {x:aJ}{c:Nat},(x,c)∈gu (C+1) f.names []->C+1<=c:=λq=>(E.empty _ _ q).2
 refine⟨⟨I.mod,S.kind,I.ok.glob,I.ok.blt,?_,?_,?_,?_,I.ok.hd,I.ok.frames,.inl rfl,?_,I.bs,?_,?_,?_,I.stack,I.Ig⟩,rfl,I.bare,Un.kept G,⟨_,Q,?_⟩,?_,?_,?_,?_,I.jr.kept G,?_⟩
 .show g.heap.objs.size<=C;omega
 .intro x y c s U;rcases mQ S I.ok s with⟨_,a⟩|⟨_,a⟩<;>rcases mQ S I.ok U with⟨_,b⟩|⟨_,b⟩
  .exact name_of_addr E.apart a b
  .have:C+1<=(c:Nat):=d a;have:=p' (A _ _ b);omega
  .have:C+1<=(c:Nat):=d b;have:=p' (A _ _ a);omega
  .exact I.ok.inj x y c a b
 .intro x n;let n:(oQ X f C).kindOf x=Y .cell\/(oQ X f C).kindOf x=Y .free:=n;rw[EZ]at n;rcases e:f.names.lookup x with _|k
  .rw[e]at n;rcases n with z|z<;>cases z
  cases k with
  |cell=>exact Q3 S e|free=>let⟨c,q,_⟩:=E8 S I.ok e;exact⟨c,q⟩
  |_=>rw[e]at n;exfalso;revert n;simp
 .intro x c n s;let n:f.names.lookup x=Y .cell:=by have:(f.names.lookup x==Y .cell)=true:=n;simpa using this
  show g.heap.objs.size<=c;rcases mQ S I.ok s with⟨_,a⟩|⟨z,_⟩<;>grind
 .intro b F;let(L,e):=P b F;let l:=p' (lt e);refine⟨λz =>?_,λx c s z =>?_⟩
  .let z:=Bi (a:=b) (b:=C) z;omega
  .subst z;rcases mQ S I.ok s with⟨_,a⟩|⟨_,a⟩
   .have:C+1<=(c:Nat):=d a;omega
   .exact(J c F).2.2.2.2.1 x c a rfl
 .show X.base.objs.size<=g.heap.objs.size;have:=I.ok.Q2;have:=I.sz;omega
 .intro b L e F;rcases(J b F).2.2.2.1 with z|z
  .exact I.ok.MU b L e z
  .let e:X.base.get? b=Y L:=e;let a:=p' (aQ e);have:=I.ok.Q2;let z:X.s₀.heap.objs.size<=(b:Nat):=z;omega
 .intro b F;intro z;let z:b∈Dv X.stack:=z;rcases aV.mp (I.ud b z) with q|q
  .exact(J b F).2.1 q
  .exact(J b F).2.2.1 q
 .intro i x v s U h3;let(j,e1,e2):=DN U;let(e3,e4):=S.XD i j x e1 s;let(m,hm,hl):=I.loc;let W:=S.free _ (PySem.mem_of_lookup e4) rfl;let K:Vp X.env.scope x :=.inr W;let(u,r,lk):=hl j x v e3 e2 K;refine⟨u,r,?_⟩;rcases lk with⟨z,_⟩|⟨_,c,ec,cc⟩
  .exfalso;let z:X.env.scope.names.lookup x=Y .local:=z;rw[z]at W;rcases W with q|q<;>cases q
  .let⟨c',q1,q2⟩:=E8 (C:=C) S I.ok e4;rw[ec]at q2;cases q2;refine .inr ⟨?_,c,q1,cc.keeps G⟩;show (oQ X f C).kindOf x=Y .cell\/(oQ X f C).kindOf x=Y .free;rw[EZ,e4,cS];split<;>grind
 .intro x c s;rcases mQ S I.ok s with⟨_,a⟩|⟨_,a⟩
  .exact⟨M,(E.empty _ _ a).1⟩
  .let⟨v,z⟩:=I.cell x c a;exact⟨v,z.keeps G⟩
 .exact fr C ž
 .intro x c s;rcases mQ S I.ok s with⟨_,a⟩|⟨_,a⟩
  .have:C+1<=(c:Nat):=d a;exact fr c ž
  .exact I.qg x c a
 .intro p O;have O:p∈X.pn++B++[(D,o)]:=by simpa [Cx.tS] using O
  rcases aO.mp O with q|q
  .let⟨a1,a2,a3,a4,a5⟩:=I.pin p q;refine⟨G _ _ a1,a2,λz =>?_,λz =>?_,a5⟩
   .let z:=Bi (a:=p.1) (b:=C) z;let q:=p' (lt a1);omega
   .let z:p.1∈Dv X.stack:=z;rcases aV.mp (I.ud _ z) with q|q<;>grind
  .have:p=(D,o):=by simpa using q
   subst this;refine⟨T,fr D ž,λz =>?_,λz =>?_,R⟩
   .let z:D=C:=z;omega
   .let z:D∈Dv X.stack:=z;rcases aV.mp (I.ud _ z) with q|q
    .let l:=p' I.lt
     simp_all
    .exact I.T7 (show g.heap.objs.size<=D by omega) q
 .show (pE t w).length=N.length;unfold pE;rw[az];exact S.len
end
section
variable {R:Result->aw->Prop}{s:aw}
theorem CW{f:Scope}(I:Nat->aw->Prop) (lQ:∀n s,I n s->bP (bG E w) A (pyNext J) (λr i=>match r with
   |none=>R (.ok .next) i| some v=>bP (bG E w) A (Rm b J v) (λa g=>bP (bG E w) A (assign b d v) (λa p=>
     bP (bG E w) A (forIn B Z' λc r=>if r=Z' then do let C <- isTrue c d (eval c d);fK (vX C) else fK (vX r)) (λC e=>
      if C=Z' then bP (bG E w) A (eval L d) (λx o=>bP (bG E w) A (call (.builtin "list.append") [z,x]) (λa k=>∃m,m<n/\I m k) (λa a=>False) o) (λa a=>False) e
      else ∃m,m<n/\I m e) (λa a=>False) p) (λa a=>False) g) (λa a=>False) i) (λa a=>False) s) (n:Nat) (h:I n s) :
  An (bG E w) A (.compLoop (.ListComp L [⟨b,G,B,0⟩] f U) 0 J z d) R s:=by
 refine codeAny_loop rfl I (λn s K =>?_) n h;refine wpAny_noted ?_;rw[compTurn_list];refine ay (wpAny_standAt (ay (iN (lQ n s K) (λr i t =>?_) λa a j=>j.elim)));cases r with
 |none=>solve_by_elim|some v=>
  refine ay (iN t (λa g y=>ay (iN y (λa p H=>ay (iN H (λC e q =>?_) λa a j=>j.elim)) λa a j=>j.elim)) λa a j=>j.elim);cases C with
  |false=>exact bS ⟨rfl,q⟩|true=>exact ay (ay (iN q (λx o F=>ay (iN F (λa k D=>bS (bS ⟨rfl,D⟩)) λa a j=>j.elim)) λa a j=>j.elim))
end
def O6(Z:List Nat)(g:TG):Prop:=∀x c H (Q:St->Hp->Prop),g x c H Q->g x c H λb d=>(b.length=c.length/\∀i,i∉Z->b[i]?=c[i]?)/\Q b d
def jE(i:Nat):O6 [i] (qf i):=λx c H Q h=>⟨ŷ,h⟩
def Fy(X:Cx)(B:List Expr)(t:TT):Prop:=
 ∀(b:List (aD×Obj)) (s:aw) (d:St) (H:Hp) (Q:Bool->Hp->Prop),Inv X b d H s->t d H Q ->
  bP (bG X.prog X.w) X.A (forIn B Z' λc r=>if r=Z' then do let e <- isTrue c X.env (eval c X.env);fK (vX e) else fK (vX r)) (TP X b d Q) X.xe s
def Wk:TT:=λ_ H Q=>Q Z' H
section
variable {X:Cx}
def PU:Fy X [] Wk:=λb s c H Q I h=>wpAny_tests_nil ⟨H,I,h⟩
def PR(h:PT X c t):Fy X [c] t:=λb s d H Q I q=>wpAny_tests_one (h b s d H Q I q)
end
def VL(l:TI)(src:List (Option Nat))(g:TG)(u:TT)(O:TE):TE:=λk H Q=>l k H λJ r=>∃W:Nat->Nat->List V->Hp->Prop,(∃m,W 0 m [] r)/\∀i m e H,W i m e H ->
 (J.stop i H/\∀D,H D=M->Q (.ref D) (fD H D (.lst e))) \/
 (J.go i H/\e.length<aY/\∃j:List V->Hp->Prop,(∀d h,j d h->∃n,n<m/\W (i+1) n d h)/\∀x h,J.JY i H x h ->
  g x (pE src k) h λc q=>u c q λb o=>if b=Z' then O c o λv p=>j (e++[v]) p else j e o)
section
variable {X:Cx}{f:Scope}
def BE{s:aw}{F:List (aD×Obj)}{RR:aj->aD->Result->aw->Prop}(S:gy X N src f)(hc:X.calm=Z')(hi:PI X a G l)(ag:O6 Z g)(ho:∀i∈Z,src[i]?=Y M)(E:∀C s H ex,PG (X.tS N f C s H ex) a g/\Fy (X.tS N f C s H ex) B u/\PE (X.tS N f C s H ex) L O)(I:Inv X F σ H s)(h:VL l src g u O σ H Q) (hRR:∀(D C:aD) (s':aw) (H':Hp),Inv X F σ H' s'->(∃m,s'.heap.Ns C m)->H' C=M->C≠X.env.locals->(C∈X.ex\/X.s₀.heap.objs.size<=C)->(∀x c,X.env.cells.lookup x=Y c->c≠C)->(∀p∈X.pn++F,p.1≠C) ->
   Q (.ref D) H'->RR (.ref D) C (.ok .next) s') :
  bP (bG X.prog X.w) X.A (eval G X.env) (λx s₁=>bP (bG X.prog X.w) X.A (pyIter x) (λit s₂=>bP (bG X.prog X.w) X.A (newList []) (λFm s₃=>
   bP (bG X.prog X.w) X.A (newFunctionEnv f X.env.globals (oP X.env.cells f.names []) [] X.env.qual M .none (Y X.env)) (λYa s₄=>
    An (bG X.prog X.w) X.A (.compStart (.ListComp L [⟨a,G,B,0⟩] f U) 0 it Fm { Ya with scope:=relabel f X.env }) (RR Fm Ya.locals) s₄) X.xe s₃) X.xe s₂) X.xe s₁) X.xe s:=by
 refine g8 (hi F s σ H _ I h) λv s1 h1=>g8 h1 λitv A h2 =>?_
 obtain⟨it,fp,tn,J,H2,e,I2,T,SN,f2,W,⟨m0,w0⟩,lQ⟩:=h2;subst e;refine wpAny_newObj_type ?_;generalize hs3:A.heap.push _=h3;have sz3:h3.objs.size=A.heap.objs.size+1:=by rw[<- hs3,jo]
 let k3:∀b o,A.heap.get? b=Y o->h3.get? b=Y o:=λb o e=>hs3 ▸ ak _ e
 let d3:h3.get? A.heap.objs.size=Y (lobj [] 0):=hs3 ▸ bL _ rfl;refine GK (X:=X) λh4 k4 ns4 cs4 =>?_
 rw[sz3]at ns4 cs4 ⊢;let k4':=λb o e=>k4 b o (k3 b o e)
 have fob:∀b∈fp,∃o,A.heap.get? b=Y o:=λb E=>by let(o,e,_):=T.obj _ _ SN b E;exact⟨o,e⟩
 let I4:=Lf (ex:=fp) (h':=h4) (D:=A.heap.objs.size) (C:=A.heap.objs.size+1) (o:=lobj [] 0) S I2 f2 fob rfl rfl k4' (k4 _ _ d3) (λv z=>by cases z) ns4 cs4;let I4:=I4;generalize hX:X.tS N f (A.heap.objs.size+1) A H2 fp=P at I4;let(pg,pt,pe):=E (A.heap.objs.size+1) A H2 fp;rw[hX]at pg pt pe;have K:P.prog=X.prog:=by rw[<- hX];rfl
 have ew:P.w=X.w:=by rw[<- hX];rfl
 have eK:P.K=X.K:=by rw[<- hX];rfl
 have eA:P.A=X.A:=by rw[<- hX];rfl
 have R9:P.calm=true:=by rw[<- hX];exact hc
 have YX:P.xe=λV V=>False:=by rw[<- hX];rfl
 have N6:P.env=oQ X f (A.heap.objs.size+1):=by rw[<- hX];rfl
 have UX:P.pn=[]:=by rw[<- hX];rfl
 have YY:P.s₀=A:=by rw[<- hX];rfl
 let eH0:P.H₀=H2:=by rw[<- hX];rfl
 have eex:P.ex=fp:=by rw[<- hX];rfl
 have efs:P.fs=Dv X.stack:=by rw[<- hX];rfl
 have YU:P.env.locals=A.heap.objs.size+1:=by rw[N6]
 let hDC:A.heap.objs.size≠P.env.locals:=by rw[YU];exact cA (oY _)
 let hDF:A.heap.objs.size∉P.fs:=by
  rw[efs];intro z;rcases aV.mp (I2.ud _ z) with q|q
  .exact absurd (Bi q) (lR (p' I2.lt))
  .exact I2.T7 (aI _) q
 have hpD:∀p∈P.pn++(X.pn++F),p.1≠A.heap.objs.size:=λp hp=>by rw[UX,dS]at hp;exact cA (p' (aQ (I2.pin p hp).1))
 have fpD:∀b∈fp,b≠A.heap.objs.size:=λb E=>by let(o,e):=fob b E;exact cA (p' (aQ e))
 have F_:∀ {P':List (aD×Obj)}{H':Hp},(∀p∈P',p∈X.pn++F\/p.1=A.heap.objs.size)->(∀b∈fp,H' b=M)->∀b∈fp,Af P P' H' b:=fun {P' H'} hP hn b E=>by
  let(a1,a2,a3,a4,a5,a6):=f2 b E;let(o,e):=fob b E;let w:=p' (aQ e);refine⟨hn b E,?_,?_,.inl (by rw[eex];exact E),λx c q z =>?_,λp hp z =>?_⟩
  .rw[YU];exact cA (Nat.lt_succ_of_lt w)
  .rw[efs];intro z;rcases aV.mp (I2.ud b z) with q|q
   .exact a2 q
   .exact a3 q
  .subst z;rw[N6]at q;rcases mQ S I2.ok q with⟨_,r⟩|⟨_,r⟩
   .have:=W8 (cs4.empty _ _ r).2;omega
   .exact a5 x c r rfl
  .rw[UX,dS]at hp;rcases hP p hp with q|q
   .exact a6 p q z
   .exact fpD b E (z.symm.trans q)
 have Yw:An (bG X.prog X.w) X.A (.compLoop (.ListComp L [⟨a,G,B,0⟩] f U) 0 (.ref it) (.ref A.heap.objs.size) (oQ X f (A.heap.objs.size+1))) (RR (.ref A.heap.objs.size) (A.heap.objs.size+1)) { A with heap:=h4 }:=by
  refine CW (λn s'=>∃i ys R nn H',Inv P (X.pn++F++[(A.heap.objs.size,lobj R nn)]) (pE src σ) H' s'/\cR ys R/\ys.length<=aY/\tn i s'.heap/\(∀b∈fp,H' b=M)/\W i n ys H') ?_ m0
   ⟨0,[],[],0,H2,I4,.nil,gz _,T.keep _ _ _ SN (λb V o e=>k4' b o e),λb E=>(f2 b E).1,w0⟩
  refine λn s5 xx=>af λkk =>?_
  let(i,ys,R,nn,H5,I5,r5,z5,VM,VW,w5):=xx;refine kk ?_;have Z3:∀p∈X.pn++F++[(A.heap.objs.size,lobj R nn)],p∈X.pn++F\/p.1=A.heap.objs.size:=λp hp=>by
   rcases aO.mp hp with q|q
   .exact .inl q
   .exact .inr Ż
  rcases lQ i n ys H5 w5 with⟨stop,qn⟩|⟨go,lt5,Nx,hN,step⟩
  .let d:=T.done P K ew eK R9 i _ s5 (pE src σ) H5 (λV V=>False) I5 (F_ Z3 VW) VM stop;rw[eA]at d;refine g8 d λr s6 hr6 =>?_
   let(hr,I6):=hr6;subst hr;have V9:=I6.Ie r5 z5 (by rw[YY];exact aI _) hpD;let hD5:H5 A.heap.objs.size=none:=(I6.pin (A.heap.objs.size,lobj R nn) ż).2.1;let Un6:=V9.base;rw[efs,eex,eH0,YY]at Un6;let os6:=V9.os;rw[YY]at os6;let Xr:=V9.jr;rw[K,ew]at Xr;let J6:=I2.JC os6 Un6 Xr V9.bare λb E=>⟨(f2 b E).2.2.2.1,(f2 b E).2.1,(f2 b E).2.2.2.2.1,(f2 b E).2.2.2.2.2⟩
   let(m,hm,_):=V9.loc;rw[YU]at hm;let fC:=V9.free;rw[YU]at fC;refine hRR _ _ s6 _ J6 ⟨m,hm⟩ fC ?_ (.inr ?_) ?_ ?_ (qn _ hD5)
   .exact λz=>absurd (Bi z) (lR (Nat.lt_succ_of_lt (p' I2.lt)))
   .exact Nat.le_succ_of_le I2.sz
   .intro x c q z;let(v,cc):=I2.cell x c q;have:=p' cc.lt;let z:=Bi z;omega
   .intro p hp z;have:=p' (aQ (I2.pin p hp).1);let z:=Bi z;omega
  .let d:=T.item P K ew eK R9 i _ s5 (pE src σ) H5 (λV V=>False) I5 (F_ Z3 VW) VM go;rw[eA]at d;refine g8 d λr s6 hr6 =>?_
   let(t,hr,h6):=hr6;subst hr;refine g8 h6 λV s7 h7 =>?_
   let(x,H7,I7,r7,y7,WE,fr7):=h7;let I7':=I7.pinned (F_ Z3 fr7) (T.obj _ _ WE);let g7:=pg _ s7 (pE src σ) H7 x t _ I7' r7 (ag _ _ _ _ (step x H7 y7));rw[eA,YX,K,ew,N6]at g7;refine g8 g7 λV s8 h8 =>?_
   obtain⟨σ8,H8,I8,⟨l8,a8⟩,q8⟩:=h8;let t8:=pt _ s8 σ8 H8 _ I8 q8;rw[eA,YX,K,ew,N6]at t8;refine g8 t8 λok s9 h9 =>?_
   let(H9,I9,q9):=h9;have weak:∀ {P':List (aD×Obj)}{H':Hp}{s':aw},Inv P P' σ8 H' s'->Inv P P' (pE src σ) H' s':=λJ=>J.weak l8.symm λj v hj=>by
    let(k,e1,_):=DN hj;have:j∉Z:=λz=>by have:=ho j z;rw[e1]at this;cases this
    rw[a8 j this];exact hj
   cases ok with
   |false=>let⟨m',hm',w9⟩:=hN _ _ (q9);refine⟨m',hm',i+1,ys,R,nn,H9,(weak I9).og,r5,z5,T.keep _ _ _ WE λb E o e=>(I9.pin (b,o) (aG _ (aG _ (kN E e)))).1,λb E =>?_,w9⟩;let(o,e,d):=T.obj _ _ WE b E;exact(I9.pin (b,o) (aG _ (aG _ (kN E e)))).2.1
   |true=>
    let e9:=pe _ s9 σ8 H9 _ I9 (q9);rw[eA,YX,K,ew,N6]at e9;refine g8 e9 λxv YE h10 =>?_
    let(y,V_,I10,r10,q10):=h10;have J10:Inv P (X.pn++F++uo fp s7.heap++[(A.heap.objs.size,lobj R nn)]) σ8 V_ YE:=I10.yh λp hp=>by refine I10.pin p ?_;rw[UX,dS];rcases aO.mp hp with q|q<;>grind
    let nD:∀p∈P.pn++(X.pn++F++uo fp s7.heap),p.1≠A.heap.objs.size:=λp hp=>by
     rw[UX,dS]at hp;rcases aO.mp hp with q|q
     .exact hpD p (by rw[UX,dS];exact q)
     .exact fpD _ (Bg q).1
    let aaS:V_ A.heap.objs.size=none:=(J10.pin (A.heap.objs.size,lobj R nn) ż).2.1;let T10:=J10.Ie r5 z5 (by rw[YY];exact aI _) nD;let ap:=kZ (X:=P) _ YE σ8 _ (.ref A.heap.objs.size) [y] (.ref A.heap.objs.size) [xv] (λv H'=>v=.gA/\H'=fD (fD V_ A.heap.objs.size (.lst ys)) A.heap.objs.size (.lst (ys++[y]))) T10 rfl (.cons r10 .nil) ⟨_,ys,y,rfl,rfl,bB,lt5,rfl,rfl⟩;rw[eA,YX,K,ew]at ap;refine g8 ap λV Io h11 =>?_
    let(v11,H11,I11,_,_,e11):=h11;subst e11;rw[Pd]at I11;let(Nj,nn',r11,z11,I12):=I11.BR aaS hDC hDF;let(m',hm',w11):=hN _ _ q10;let I13:Inv P (X.pn++F++[(A.heap.objs.size,lobj Nj nn')]) (pE src σ) V_ Io:=(weak I12).yh λp hp=>by
     refine I12.pin p ?_;rw[UX,dS];rcases aO.mp hp with q|q
     .exact aT _ (aT _ q)
     .exact aG _ q
    have WV:∀b∈fp,∀o,s7.heap.get? b=Y o->Io.heap.get? b=Y o/\V_ b=none:=λb E o e=>by have:=I12.pin (b,o) (by rw[UX,dS];exact aT _ (aG _ (kN E e)));exact⟨this.1,this.2.1⟩
    refine⟨m',hm',i+1,ys++[y],Nj,nn',V_,I13,r11,z11,T.keep _ _ _ WE λb E o e=>(WV b E o e).1,λb E =>?_,w11⟩;let(o,e,d):=T.obj _ _ WE b E;exact(WV b E o e).2
 exact codeAny_compStart_list Yw (T.self _ 0 _ _ _ (T.keep _ _ _ SN λb V o e=>k4' b o e) Yw)
end
section
variable {X:Cx}{f:List (Option Nat)}
def E9{s:aw}(S:gy X N f c)(I:Inv X a b H s):closureFor c X.env=fK (oP X.env.cells c.names []):=
 AQ λy d e=>I.ok.has y.1 (S.free y d e)
def My(S:gy X N f c)(P:X.calm=Z')(O:PI X r l w)(ag:O6 B g)(K:∀i∈B,f[i]?=Y M)(p:∀C s H v,PG (X.tS N c C s H v) r g/\Fy (X.tS N c C s H v) u j/\PE (X.tS N c C s H v) t k)(G:autoParam (∀x,cM l X.env x=fK x) ũ):PE X (.ListComp t [⟨r,l,u,0⟩] c A) (VL w f g j k):=by
 intro a s z H Q I h;refine wpAny_comprehension_free rfl G (E9 S I) S.kind λx F y=>by rw[S.uniq x F,y] ?_
 refine BE S P O ag K p I h ?_;intro D C E H' J n L R h1 U T q;let(m,n):=n;exact⟨m,n,λh' d=>⟨.ref D,H',J.turned (λb o p e=>d.extBut b o p e) L R h1 U T,rfl,q⟩⟩
def y0{F:Pos}(S:gy X N f c)(hc:X.calm=Z')(hN:X.N.Nodup)(hy:X.N[i]?=Y y)(K:X.env.scope.names.lookup y=Y .local)(hi:PI X r l w)(ag:O6 B g)(ho:∀i∈B,f[i]?=Y M)(Q:∀C s H T,PG (X.tS N c C s H T) r g/\Fy (X.tS N c C s H T) u j/\PE (X.tS N c C s H T) t k)(U:cY (.ListComp t [⟨r,l,u,0⟩] c A) (Y (.Name y F)) n.line X.env=fK Z')(hs:autoParam (∀x,cM l X.env x=fK x) ũ):
  PS X (.Assign [.Name y F] (.ListComp t [⟨r,l,u,0⟩] c A) n) (SK (VL w f g j k) (qf i)):=by
 intro p s σ H D I h;rw[exec_Assign_Name_used _ _ _ _ U];refine ay (wpAny_standAt (ay ?_));refine ay (iN (wpAny_comprehension_free (use:=Y (assign (.Name y F) X.env)) (Q:=λV E=>SP X p D .next E) rfl hs (E9 S I) S.kind (λx hx K=>by rw[S.uniq x hx,K])
  (BE S hc hi ag ho Q I h ?_))
  (λV E hq=>bS (bS hq)) λV V e=>e)
 intro d C E H' J P hn hL h1 h2 h3 q;let(m,P):=P;refine wpAny_assign_Name (A2 J hN hy (.inl K) (v :=.ref d) rfl (λL J' G =>?_) (.inr K));let(a,sb,ha):=G;let R:C≠a:=by
  rcases ha with z|z
  .rw[z];exact hL
  .exact λe=>h2 _ _ z e.symm
 exact⟨m,P.sameBut sb R,λh' O=>⟨_,H',J'.turned (h':=h') (t':=L.toks) (λb o Q e=>O.extBut b o Q e) hn hL h1 h2 h3,q⟩⟩
end
inductive Sk where
 |lf
 |li (s:Sk)
 |fs (c:aJ) (fk:List (aJ×Sk))
 |di
 |vl
inductive Pt where
 |fld (f:aJ)
 |ix (k:Nat)
abbrev Ae:=List Pt
inductive D where
 |gA|bl (b:Bool)|int (i:Int)|str (x:aJ)|lst (xs:List D)|tup (xs:List D)|j5 (ns:List Int)
 |ins (c:aJ) (ks:List aJ) (ds:List D)
 |iW (ks:List l_) (ds:List D)
 |obj (s:Sk) (t:D)
 |gL (r:Nat) (p:Ae)
mutual
def eR(K:aX)(G:Hp):D->V->Prop
 |.gA,v=>v=.gA|.bl b,v=>v=.bl b|.int i,v=>v=.int i|.str x,v=>v=.str x|.lst e,v=>∃a d,v=.ref a/\G a=Y (.lst d)/\a9 K G e d|.tup e,v=>∃a d,v=.ref a/\G a=Y (.tup d)/\a9 K G e d|.j5 g,v=>∃a,v=.ref a/\nR K G a (g.map V.int)|.ins c f e,v=>∃a C h d,v=.ref a/\uO K bC c=Y (Y (.ref C))/\G a=Y (.ins C h (f.zip d))/\f.length=e.length/\a9 K G e d
 |.iW f e,v=>∃a d,v=.ref a/\G a=Y (.dK (f.zip d))/\f.length=e.length/\a9 K G e d|.obj _ t,v=>eR K G t v|.gL _ _,v=>∃a,v=.ref a
def a9(K:aX)(G:Hp):List D->List V->Prop
 |[],a=>a=[]|d::b,a=>∃v r,a=v::r/\eR K G d v/\a9 K G b r
end
mutual
theorem eR.mono{K:aX}(s:bI G G'):∀(d:D){v:V},eR K G d v->eR K G' d v
 |.gA,v,h=>by solve_by_elim
 |.bl _,v,h=>by solve_by_elim
 |.int _,v,h=>by solve_by_elim
 |.str _,v,h=>by solve_by_elim
 |.lst f,v,h=>by let(a,b,e,q,r):=h;exact⟨a,b,e,s _ _ q,a9.mono s f r⟩
 |.tup f,v,h=>by let(a,b,e,q,r):=h;exact⟨a,b,e,s _ _ q,a9.mono s f r⟩
 |.j5 j,v,h=>by let(a,e,q):=h;exact⟨a,e,s.seq q⟩
 |.ins c g f,v,h=>by let(a,C,i,b,e,n,q,l,r):=h;exact⟨a,C,i,b,e,n,s _ _ q,l,a9.mono s f r⟩
 |.iW g f,v,h=>by let(a,b,e,q,l,r):=h;exact⟨a,b,e,s _ _ q,l,a9.mono s f r⟩
 |.obj _ t,v,h=>by simp only[eR]at h ⊢;exact eR.mono s t h
 |.gL _ _,v,h=>by solve_by_elim
theorem a9.mono{K:aX}(s:bI G G'):∀(b:List D){a:List V},a9 K G b a->a9 K G' b a
 |[],a,h=>by solve_by_elim
 |d::b,a,h=>by simp only[a9]at h ⊢;let(v,r,e,q,t):=h;exact⟨v,r,e,eR.mono s d q,a9.mono s b t⟩
end
section
variable {K:aX}
def jB{v:V}:eR K G .gA v↔v=.gA:=by solve_by_elim
def iA{v:V}:eR K G (.bl b) v↔v=.bl b:=by solve_by_elim
def cJ{v:V}:eR K G (.int i) v↔v=.int i:=by solve_by_elim
def gD{v:V}:eR K G (.str x) v↔v=.str x:=by solve_by_elim
def dA{v:V}:eR K G (.lst c) v↔∃a b,v=.ref a/\G a=Y (.lst b)/\a9 K G c b:=by solve_by_elim
def fy{v:V}:eR K G (.tup c) v↔∃a b,v=.ref a/\G a=Y (.tup b)/\a9 K G c b:=by solve_by_elim
def Iu{v:V}:eR K G (.j5 b) v↔∃a,v=.ref a/\nR K G a (b.map V.int):=by solve_by_elim
def qF{v:V}:eR K G (.ins c b d) v↔∃a C f e,v=.ref a/\uO K bC c=Y (Y (.ref C))/\G a=Y (.ins C f (b.zip e))/\b.length=d.length/\a9 K G d e:=by solve_by_elim
def B6{v:V}:eR K G (.iW b c) v↔∃a d,v=.ref a/\G a=Y (.dK (b.zip d))/\b.length=c.length/\a9 K G c d:=by solve_by_elim
def tf{s:Sk}{v:V}:eR K G (.obj s t) v↔eR K G t v:=by solve_by_elim
def ye{v:V}:eR K G (.gL r p) v↔∃a,v=.ref a:=by solve_by_elim
def dO:a9 K G [] a↔a=[]:=by solve_by_elim
def bJ:a9 K G (d::b) a↔∃v r,a=v::r/\eR K G d v/\a9 K G b r:=by solve_by_elim
def a9.cons{d:D}{v:V}(h:eR K G d v)(t:a9 K G b a):a9 K G (d::b) (v::a):=bJ.mpr ⟨v,a,rfl,h,t⟩
def a9.nil:a9 K G [] []:=dO.mpr rfl
theorem a9.length:∀ {ds:List D}{a:List V},a9 K G ds a->ds.length=a.length
 |[],a,h=>by rw[dO.mp h];rfl
 |d::ds,a,h=>by let(v,r,rfl,_,t):=bJ.mp h;simp[a9.length t]
theorem a9.get:∀ {b:List D}{a:List V}{i:Nat}{d:D},a9 K G b a->b[i]?=Y d->∃v,a[i]?=Y v/\eR K G d v
 |[],a,i,d,h,e=>by simp at e
 | c::b,a,0,d,h,e=>by
  let(v,r,rfl,_):=bJ.mp h
  simp_all
 |c::b,a,i+1,d,h,e=>by let(v,r,rfl,q,t):=bJ.mp h;let(u,g,f):=a9.get t (by simpa using e);exact⟨u,Ż,f⟩
theorem a9.append:∀ {e c:List D}{a b:List V},a9 K G e a->a9 K G c b->a9 K G (e++c) (a++b)
 |[],c,a,b,h,k=>by rw[dO.mp h];exact k
 |d::e,c,a,b,h,k=>by let(v,r,rfl,q,t):=bJ.mp h;exact .cons q (a9.append t k)
theorem a9.take:∀ {b:List D}{a:List V}(n:Nat),a9 K G b a->a9 K G (b.take n) (a.take n)
 |[],a,n,h=>by rw[dO.mp h];simp;exact .nil
 |d::b,a,0,h=>by solve_by_elim
 |d::b,a,n+1,h=>by let(v,r,rfl,q,t):=bJ.mp h;exact .cons q (a9.take n t)
theorem a9.drop:∀ {ds:List D}{a:List V}(n:Nat),a9 K G ds a->a9 K G (ds.drop n) (a.drop n)
 |[],a,n,h=>by rw[dO.mp h];simp;exact .nil
 |d::ds,a,0,h=>by simpa using h
 |d::ds,a,n+1,h=>by let(v,r,rfl,q,t):=bJ.mp h;exact a9.drop n t
theorem a9.set:∀ {b:List D}{a:List V}{d:D}{v:V}(n:Nat),a9 K G b a->eR K G d v->a9 K G (b.set n d) (a.set n v)
 |[],a,d,v,n,h,q=>by rw[dO.mp h];exact Ÿ
 |c::b,a,d,v,0,h,q=>by let(u,r,rfl,_,t):=bJ.mp h;exact .cons q t
 |c::b,a,d,v,n+1,h,q=>by let(u,r,rfl,p,t):=bJ.mp h;exact .cons p (a9.set n t q)
def a9.dropLast(h:a9 K G b a):a9 K G b.dropLast a.dropLast:=by
 rw[xc,xc,h.length];exact h.take _
theorem a9.rep(h:a9 K G b a):∀k:Nat,a9 K G (bF k b).flatten (bF k a).flatten
 |0 =>.nil|k+1=>by exact h.append (a9.rep h k)
theorem a9.ints:∀(a:List Int),a9 K G (a.map D.int) (a.map V.int)
 |[] =>.nil|n::a =>.cons (cJ.mpr rfl) (a9.ints a)
end
structure i9(G H G' H':Hp):Prop where
 hh:bI H H'
 gg:bI G G'
 gh:bI G' H'
 fr:∀b o,G' b=some o->G b=some o\/H b=none
def i9.refl(s:bI G H):i9 G H G H:=⟨bI.refl _,bI.refl _,s,λa a e =>.inl e⟩
def i9.trans{f:Hp}(a:i9 G H h f)(b:i9 h f g d):i9 G H g d:=
 ⟨a.hh.trans b.hh,a.gg.trans b.gg,b.gh,λc o e=>by
  rcases b.fr c o e with q|q
  .exact a.fr c o q
  .exact .inr (a.hh.free q)⟩
def bI.alloc{p:aD}{o:HO}(h:H p=M):bI H (fD H p o):=λb u e=>by rw[aP (bM e h)];exact e
def bI.both(s:bI G H):bI (fD G p o) (fD H p o):=λb u e=>by
 by_cases a:b=p
 .simp_all [bB]
 .rw[aP a]at e ⊢;exact s _ _ e
def i9.alloc{p:aD}{o:HO}(s:bI G H)(h:H p=M):i9 G H (fD G p o) (fD H p o):=
 ⟨.alloc h,.alloc (s.free h),s.both,λb u e=>by grind [aP]⟩
def i9.lay{p:aD}{o:HO}(s:bI G H)(h:H p=M):i9 G H G (fD H p o):=
 ⟨.alloc h,bI.refl _,s.trans (.alloc h),λa a e =>.inl e⟩
def i9.freeze(E:i9 G H G' c)(h:H p=M)(g:G' p=M)(e:c p=Y o):i9 G H (fD G' p o) c:=
 ⟨E.hh,E.gg.trans (.alloc g),λb u q=>by
  by_cases a:b=p
  .simp_all [bB]
  .rw[aP a]at q;exact E.gh _ _ q,λb u q=>by
  by_cases a:b=p
  .simp_all
  .rw[aP a]at q;exact E.fr _ _ q⟩
def jJ(K:aX)(G:Hp):D->HO->Prop
 |.lst b,o=>∃a,o=.lst a/\a9 K G b a|.ins c d b,o=>∃C e a,o=.ins C e (d.zip a)/\uO K bC c=Y (Y (.ref C))/\d.length=b.length/\a9 K G b a|.iW d b,o=>∃a,o=.dK (d.zip a)/\d.length=b.length/\a9 K G b a|_,_=>False
section
variable {K:aX}
def jJ.mono(s:bI G G'){d:D}(h:jJ K G d o):jJ K G' d o:=by
 cases d with
 |lst b=>let⟨a,e,r⟩:=h;exact⟨a,e,a9.mono s b r⟩
 |ins c f b=>let⟨C,g,a,e,n,l,r⟩:=h;exact⟨C,g,a,e,n,l,a9.mono s b r⟩
 |iW f b=>let⟨a,e,l,r⟩:=h;exact⟨a,e,l,a9.mono s b r⟩
 |_=>exact h.elim
def jJ.rep{d:D}(h:jJ K G d o)(e:G a=Y o):eR K G d (.ref a):=by
 cases d with
 |lst f=>let⟨b,rfl,r⟩:=h;exact dA.mpr ⟨a,b,rfl,e,r⟩
 |ins c g f=>let⟨C,i,b,rfl,n,l,r⟩:=h;exact qF.mpr ⟨a,C,i,b,rfl,n,e,l,r⟩
 |iW g f=>let⟨b,rfl,l,r⟩:=h;exact B6.mpr ⟨a,b,rfl,e,l,r⟩
 |_=>exact h.elim
end
end L2
namespace L2
open PySem
noncomputable def fG(a:List (aJ×Sk))(k:aJ):Sk:=(a.lookup k).getD .lf
mutual
inductive dC (K:aX) (G H:Hp):Sk->D->V->List aD->Prop
 |leaf {d:D}{v:V}:eR K G d v->dC K G H .lf d v []
 |lst {s:Sk}{ds:List D}{a:aD}{vs:List V}{S:List aD}:H a=some (.lst vs)->iX K G H (bF ds.length s) ds vs S->dC K G H (.li s) (.lst ds) (.ref a) (a::S)
 | ins {c:aJ}{ks:List aJ}{fk:List (aJ×Sk)}{ds:List D}{a C dx:aD}{vs:List V}{S:List aD}:uO K bC c=some (some (.ref C))->H a=some (.ins C dx (ks.zip vs))->ks.length=ds.length ->
   iX K G H (ks.map (fG fk)) ds vs S->dC K G H (.fs c fk) (.ins c ks ds) (.ref a) (a::S)
 |iW {ks:List l_}{ds:List D}{a:aD}{vs:List V}:H a=some (.dK (ks.zip vs))->ks.length=ds.length->a9 K G ds vs->dC K G H .di (.iW ks ds) (.ref a) [a]
 |vl {i j:Int}{t a b:aD}{us ws:List V}{R S:List D}:G t=some (.tup [.int i,.int j,.ref a,.ref b])->H a=some (.lst us)->H b=some (.lst ws)->a9 K G R us->a9 K G S ws->dC K G H .vl (.tup [.int i,.int j,.lst R,.lst S]) (.ref t) [a,b]
inductive iX (K:aX) (G H:Hp):List Sk->List D->List V->List aD->Prop
 |nil:iX K G H [] [] [] []
 |cons {s:Sk}{ss:List Sk}{d:D}{ds:List D}{v:V}{vs:List V}{S T:List aD}:dC K G H s d v S->iX K G H ss ds vs T->iX K G H (s::ss) (d::ds) (v::vs) (S++T)
end
section
variable {K:aX}{f:Hp}
set_option tactic.hygienic true in
def dC.mono{d:D}{v:V}{S:List aD}(g:bI G f)(h:∀b∈S,∀o,H b=Y o->i b=Y o)(x:dC K G H c d v S):dC K f i c d v S:=by
 induction x using dC.rec (motive_2:=λe j d S m=>(∀b∈S,∀o,H b=Y o->i b=Y o)->iX K f i e j d S) with
 |leaf r=>exact .leaf (eR.mono g _ r)|lst e t j=>exact .lst (h _ aH _ e) Ż
 |ins n e l t j=>exact .ins n (h _ aH _ e) l Ż
 |iW e l t=>exact .iW (h _ aH _ e) l (a9.mono g _ t)|vl e p q r s=>exact .vl (g _ _ e) (h _ Ÿ _ p) (h _ Ÿ _ q) (a9.mono g _ r) (a9.mono g _ s)
 |nil=>exact .nil|cons a t j k=>rename_i h;exact .cons Ż Ż
def iX.mono{d:List V}{S:List aD}(g:bI G f)(h:∀b∈S,∀o,H b=Y o->i b=Y o)(x:iX K G H e j d S):iX K f i e j d S:=by
 induction x using iX.rec (motive_1:=λl l l l l=>True) with
 |nil=>exact .nil|cons a t _ k=>exact .cons (dC.mono g (λb c=>h b Ż) a) Ż
 |_=>trivial
def Gu(H:Hp)(b:aD):Prop:=∃o,H b=Y o/\∀a,o ≠ .tup a
def dC.here{v:V}{S:List aD}(x:dC K G H g d v S):∀b∈S,Gu H b:=by
 induction x using dC.rec (motive_2:=λc c c S c=>∀b∈S,Gu H b) with
 |lst e t j=>exact jl.2 ⟨⟨_,e,nofun⟩,j⟩
 |ins n e l t j=>exact jl.2 ⟨⟨_,e,nofun⟩,j⟩
 |iW e l t=>exact jl.2 ⟨⟨_,e,nofun⟩,nofun⟩
 |cons a t j k=>grind|vl e p q r s=>exact jl.2 ⟨⟨_,p,nofun⟩,jl.2 ⟨⟨_,q,nofun⟩,nofun⟩⟩
 |leaf=>exact nofun
 |nil=>contradiction
def iX.length{ds:List D}{a:List V}{S:List aD}(h:iX K G H ss ds a S):ds.length=a.length/\ss.length=ds.length:=by
 induction ds generalizing ss a S with
 |nil=>cases h;simp_all| cons d ds ih=>cases h with
  |cons _ t=>have:=ih t;simp[this.1,this.2]
noncomputable def lD(G H:Hp)(S:List aD):Hp:=λb=>if b∈S then H b else G b
noncomputable def jP(G:Hp)(S:List aD):Hp:=λb=>if b∈S then M else G b
def nJ{S:List aD}(h:b∈S):lD G H S b=H b:=by simp[lD,h]
theorem oH{S:List aD}(h:b∉S):lD G H S b=G b:=by simp[lD,h]
theorem nL{S:List aD}(h:b∈S):jP G S b=none:=by simp[jP,h]
theorem dP{S:List aD}(h:b∉S):jP G S b=G b:=by simp[jP,h]
def kX{S:List aD}(n:∀b∈S,G b=M):bI G (lD G H S):=λb o e=>by
 grind [oH]
def n6{S:List aD}(s:bI G H):bI (lD G H S) H:=λb o e=>by
 by_cases a:b∈S
 .simp_all [nJ]
 .rw[oH a]at e;exact s b o e
set_option tactic.hygienic true in
def dC.frozen{d:D}{v:V}{S:List aD}(n:∀b∈T,G b=M)(a:∀b∈S,b∈T)(x:dC K G H g d v S):eR K (lD G H T) d v:=by
 induction x using dC.rec (motive_2:=λf g e S f=>(∀b∈S,b∈T)->a9 K (lD G H T) g e) with
 |leaf r=>exact eR.mono (kX n) _ r|lst e t j=>exact dA.mpr ⟨_,_,rfl,by rw[nJ (a _ aH)];exact e,Ż⟩
 |ins h e l t j=>exact qF.mpr ⟨_,_,_,_,rfl,h,by rw[nJ (a _ aH)];exact e,l,Ż⟩
 |iW e l t=>exact B6.mpr ⟨_,_,rfl,by rw[nJ (a _ aH)];exact e,l,a9.mono (kX n) _ t⟩
 |vl e p q r s=>exact fy.mpr ⟨_,_,rfl,kX n _ _ e,.cons (cJ.mpr rfl) (.cons (cJ.mpr rfl) (.cons (dA.mpr ⟨_,_,rfl,by simp_all [nJ],a9.mono (kX n) _ r⟩) (.cons (dA.mpr ⟨_,_,rfl,by simp_all [nJ],a9.mono (kX n) _ s⟩) .nil)))⟩
 |nil=>solve_by_elim|cons a t j k=>rename_i c;exact bJ.mpr ⟨_,_,rfl,Ż,Ż⟩
mutual
noncomputable def qI:D->Bool
 |.gA=>Z'|.bl _=>Z'|.int _=>Z'|.str _=>Z'|.lst _=>Z_|.tup a=>qH a|.j5 _=>Z_|.ins _ _ _=>Z_|.iW _ _=>Z_|.obj _ _=>Z_|.gL _ _=>Z_
noncomputable def qH:List D->Bool
 |[]=>Z'|d::a=>qI d&&qH a
end
mutual
theorem D5{S:List aD}{d:D}(n:∀b∈S,∀c,G b≠Y (.tup c)){v:V}(p:qI d=Z')(r:eR K G d v):eR K (jP G S) d v:=by
 cases d with
 |tup h=>
  let⟨a,c,rfl,e,q⟩:=fy.mp r;let g:=λz=>n a z c e
  exact fy.mpr ⟨a,c,rfl,by simp_all [dP],wk n (by simpa only [qI] using p) q⟩
 |_=>first|cases p;done|simpa only [eR] using r
theorem wk{S:List aD}{c:List D}(n:∀b∈S,∀a,G b≠Y (.tup a)){a:List V}(p:qH c=Z')(r:a9 K G c a):a9 K (jP G S) c a:=by
 cases c with
 |nil=>solve_by_elim|cons d c=>let⟨v,t,rfl,g,e⟩:=bJ.mp r;simp only[qH,aA]at p;exact bJ.mpr ⟨v,t,rfl,D5 n p.1 g,wk n p.2 e⟩
end
def zU{S:List aD}(s:bI G H)(n:∀b∈S,G b=M)(o:∀b∈S,Gu H b)(E:i9 (lD G H S) H f i):i9 G H (jP f S) i/\∀b∈S,∀c,f b≠Y (.tup c):=by
 refine⟨⟨E.hh,λb u e =>?_,λb u e =>?_,λb u e =>?_⟩,λb a c z =>?_⟩
 .have a:b∉S:=λz=>by simp_all
  rw[dP a];exact E.gg b u (by simp_all [oH])
 .by_cases a:b∈S
  .simp_all [nL]
  .rw[dP a]at e;exact E.gh b u e
 .by_cases a:b∈S
  .simp_all [nL]
  .rw[dP a]at e;rcases E.fr b u e with q|q
   .simp_all [oH]
   simp_all
 .let⟨u,_⟩:=o b a;have:=E.gg b u (by simp_all [nJ])
  simp_all
end
noncomputable def Dx(f:aJ):List aJ->Option Nat
 |[]=>M|k::ks=>if f==k then Y 0 else (Dx f ks).map (· + 1)
set_option tactic.hygienic true in
theorem vu{f:aJ}:∀ {a:List aJ}{n:Nat},Dx f a=Y n->a[n]?=Y f
 |[],n,h=>by cases h
 | k::a,n,h=>by
  unfold Dx at h;split at h
  .rename_i e;cases h<;>simp_all
  .let⟨m,e,h⟩:=aq.1 h;cases h;simpa using vu e
theorem qL{f:aJ}:∀ {a:List aJ}{n:Nat}{xs:List b},Dx f a=Y n->(a.zip xs).lookup f=xs[n]?
 |[],n,xs,h=>by cases h
 |k::a,n,[],h=>by solve_by_elim
 | k::a,n,x::xs,h=>by
  unfold Dx at h;simp only[fR,lS];cases e:f==k with
  |true=>rw[e]at h;simp at h;subst h;solve_by_elim|false=>
   rw[e]at h;rcases e2:Dx f a with _|m
   .simp_all
   rw[e2]at h;simp at h;subst h;simpa using qL e2
noncomputable def jI:Ae->D->Option D
 |[],d=>Y d|.fld f::p,.ins _ b a=>(Dx f b).bind λn=>(a[n]?).bind (jI p)
 |.ix k::p,.lst a=>(a[k]?).bind (jI p)|_::_,_=>M
noncomputable def mY(x:D):Ae->D->D
 |[],_=>x|.fld f::p,.ins c b a=>match Dx f b with|none =>.ins c b a|some n=>match a[n]? with|none =>.ins c b a|some d =>.ins c b (a.set n (mY x p d))
 |.ix k::p,.lst a=>match a[k]? with|none =>.lst a|some d =>.lst (a.set k (mY x p d))
 |_::_,d=>d
noncomputable def oM:Ae->Sk->Option Sk
 |[],s=>Y s|.fld f::p,.fs _ a=>oM p (fG a f)|.ix _::p,.li s=>oM p s|_::_,_=>M
noncomputable def gX(H:Hp):Ae->V->Option V
 |[],v=>Y v|.fld f::p,.ref a=>match H a with|some (.ins _ _ c)=>(c.lookup f).bind (gX H p)|_=>M
 |.ix k::p,.ref a=>match H a with|some (.lst b)=>(b[k]?).bind (gX H p)|_=>M
 |_::_,_=>M
section
variable {K:aX}
theorem iX.at{i:List Sk}{ds:List D}{vs:List V}{S:List aD}(h:iX K G H i ds vs S):∀ {n:Nat}{s:Sk}{d:D},i[n]?=Y s->ds[n]?=Y d->∃v T U,vs[n]?=Y v/\dC K G H s d v T/\S.Perm (T++U) /\
  ∀(G' H':Hp) (j:Sk) (x:D) (u:V) (f:List aD),bI G G'->(∀b∈U,∀o,H b=Y o->H' b=Y o)->dC K G' H' j x u f->∃S',iX K G' H' (i.set n j) (ds.set n x) (vs.set n u) S'/\S'.Perm (f++U):=by
 induction ds generalizing i vs S with
 |nil=>intro n s d _ e;simp at e
 |cons c ds ih=>
  intro n s d es e;cases h with
  |@cons C i _ _ v vs S1 p a t=>
   cases n with
   |zero=>simp at e es;subst e;subst es;exact⟨v,S1,p,rfl,a,.rfl,λG' H' j x u f g k l=>⟨f++p,.cons l (t.mono g k),.rfl⟩⟩
   |succ n=>
    refine af λkk =>?_
    let(w,T,U,B,z,r,A):=ih t es e;refine kk (⟨w,T,S1++U,by simpa using B,z,?_,λG' H' j x u f g k l =>?_⟩)
    .exact((r.append_left S1).trans (cQ S1 T U))
    .let⟨S',y,q⟩:=A G' H' j x u f g (λb m=>k b (aG _ m)) l;exact⟨S1++S',.cons (a.mono g λb m=>k b (aT _ m)) y,(q.append_left S1).trans (cQ S1 f U)⟩
theorem hW{a:Type}:∀ {l:List a}{n:Nat}{x:a},l[n]?=Y x->l.set n x=l
 |[],n,x,h=>by simp at h
 |y::l,0,x,h=>by simp_all
 |y::l,n+1,x,h=>by simp at h;simp[hW h]
theorem dC.focus:∀ {p:Ae}{P k:Sk}{d O:D}{v:V}{S:List aD},dC K G H P d v S->oM p P=Y k->jI p d=Y O->∃v' T U,gX H p v=Y v'/\dC K G H k O v' T/\S.Perm (T++U) /\
  ∀(J I:Hp) (x:D) (w:List aD),bI G J->(∀b∈U,∀o,H b=Y o->I b=Y o)->dC K J I k x v' w->gX I p v=Y v'/\∃S',dC K J I P (mY x p d) v S'/\S'.Perm (w++U)
 |[],P,k,d,O,v,S,h,u,z=>by cases u;cases z;exact⟨v,S,[],rfl,h,ż,λJ I x w g r ox=>⟨rfl,w,ox,ż⟩⟩
 | .fld f::p,P,k,d,O,v,S,h,u,z=>by
  cases h with
  |@ins c ks fk L a C dx vs S n e l t=>
   let u:oM p (fG fk f)=Y k:=u;let z:=z;let(m,ei,z):=aa.1 z;have A:(ks.map (fG fk))[m]?=Y (fG fk f):=by rw[aR,vu ei];rfl
   generalize fG fk f=s1 at u A
   .let⟨d1,B,z⟩:=aa.1 z;let(v1,T1,i,X,o1,p1,k1):=t.at A B;let(Q,F,j,q2,o2,p2,k2):=dC.focus o1 u z;let hv:gX H (.fld f::p) (.ref a)=Y Q:=by simp only[gX,e];rw[qL ei,X];exact q2
    refine⟨Q,F,j++(a::i),hv,o2,?_,λJ I y w g r oy =>?_⟩
    .have:=(p1.trans (p2.append_right i)).cons a;refine this.trans ?_;let q:(a::(F++j++i)).Perm ((F++j)++(a::i)):=by simpa using cQ [a] (F++j) i
     exact q.trans (vW ż)
    .let⟨gv,S1,o3,p3⟩:=k2 J I y w g (λb N=>r b (aT _ N)) oy;let(S2,R,p4):=k1 J I s1 _ v1 S1 g (λb N=>r b (aG _ (aZ _ N))) o3;rw[hW A,hW X]at R;refine⟨by simp only[gX,r a (aG _ aH) _ e];rw[qL ei,X];exact gv,a::S2,?_,?_⟩
     .let E:mY y (.fld f::p) (.ins c ks L)=.ins c ks (L.set m (mY y p d1)):=by simp only[mY,ei,B]
      rw[E];exact .ins n (r a (aG _ aH) _ e) Ż R
     .have:=(p4.trans (p3.append_right i)).cons a;refine this.trans ?_;let q:(a::(w++j++i)).Perm ((w++j)++(a::i)):=by simpa using cQ [a] (w++j) i
      exact q.trans (vW ż)
  |_=>cases u
 | .ix m::p,P,k,d,O,v,S,h,u,z=>by
  cases h with
  |@lst s L a vs S e t=>
   let z:(L[m]?).bind (jI p)=Y O:=z;let(d1,B,z):=aa.1 z;have hm:m<L.length:=(ah.mp B).1;have A:(bF L.length s)[m]?=Y s:=by simp[hm]
   let(v1,T1,i,X,o1,p1,k1):=t.at A B;let(Q,F,j,q2,o2,p2,k2):=dC.focus o1 (u) z;let hv:gX H (.ix m::p) (.ref a)=Y Q:=by simp_all [gX]
   refine⟨Q,F,j++(a::i),hv,o2,?_,λJ I y w g r oy =>?_⟩
   .refine((p1.trans (p2.append_right i)).cons a).trans ?_;let q:(a::(F++j++i)).Perm ((F++j)++(a::i)):=by simpa using cQ [a] (F++j) i
    exact q.trans (vW ż)
   .let⟨gv,S1,o3,p3⟩:=k2 J I y w g (λb N=>r b (aT _ N)) oy;let(S2,R,p4):=k1 J I s (mY y p d1) v1 S1 g (λb N=>r b (aG _ (aZ _ N))) o3;rw[hW A,hW X]at R;refine⟨by simp only[gX,r a (aG _ aH) _ e];rw[X];exact gv,a::S2,?_,?_⟩
    .let E:mY y (.ix m::p) (.lst L)=.lst (L.set m (mY y p d1)):=by simp only[mY,B]
     rw[E];exact .lst (r a (aG _ aH) _ e) Ż
    .refine((p4.trans (p3.append_right i)).cons a).trans ?_;let q:(a::(w++j++i)).Perm ((w++j)++(a::i)):=by simpa using cQ [a] (w++j) i
     exact q.trans (vW ż)
  |_=>cases u
theorem jY(s:bI H H'):∀ {p:Ae}{v b:V},gX H p v=Y b->gX H' p v=Y b
 |[],v,b,h=>h| .fld f::p,.ref a,b,h=>by
  simp only[gX]at h ⊢;rcases e:H a with _|o
  .rw[e]at h;cases h
  rw[e]at h;rw[s _ _ e];cases o<;>simp only at h ⊢<;>try (cases h)
  let(u,e2,h):=aa.1 h;rw[e2];exact jY s h
 | .ix k::p,.ref a,b,h=>by
  simp only[gX]at h ⊢;rcases e:H a with _|o
  .simp_all
  rw[e]at h;rw[s _ _ e];cases o<;>simp only at h ⊢<;>try (cases h)
  let(u,e2,h):=aa.1 h;rw[e2];exact jY s h
 |.fld f::p,.gA,b,h=>by cases h
 |.fld f::p,.bl _,b,h=>by cases h
 |.fld f::p,.int _,b,h=>by cases h
 |.fld f::p,.str _,b,h=>by cases h
 |.fld f::p,.HG _,b,h=>by cases h
 |.fld f::p,.UQ _,b,h=>by cases h
 |.fld f::p,.ty _,b,h=>by cases h
 |.ix f::p,.gA,b,h=>by cases h
 |.ix f::p,.bl _,b,h=>by cases h
 |.ix f::p,.int _,b,h=>by cases h
 |.ix f::p,.str _,b,h=>by cases h
 |.ix f::p,.HG _,b,h=>by cases h
 |.ix f::p,.UQ _,b,h=>by cases h
 |.ix f::p,.ty _,b,h=>by cases h
theorem yY(s:bI G H):∀ {p:Ae}{d g:D}{v:V},eR K G d v->jI p d=Y g->∃y,gX H p v=Y y/\eR K G g y
 |[],d,g,v,r,e=>by cases e;exact⟨v,rfl,r⟩
 | .fld f::p,d,g,v,r,e=>by
  cases d with
  |ins c A x=>
   refine af λkk =>?_
   let(a,C,F,z,rfl,n,j,l,i):=qF.mp r;let(m,B,e):=aa.1 e;let(E,t,e):=aa.1 e;let(u,q,h):=i.get t;let(w,o,b):=yY s h e;refine kk (⟨w,?_,b⟩);simp only[gX,s _ _ j];rw[qL B,q];exact o
  |_=>cases e
 | .ix k::p,d,g,v,r,e=>by
  cases d with
  |lst x=>
   let⟨a,z,rfl,j,i⟩:=dA.mp r;let(E,t,e):=aa.1 e;let(u,q,h):=i.get t;obtain _:=yY s h e;simp only[gX,s _ _ j]
   simp_all
  |_=>cases e
theorem yz{f:aJ}:∀ {ks:List aJ}{vs:List V}{u:V},(ks.zip vs).lookup f=Y u->∃m,Dx f ks=Y m/\vs[m]?=Y u
 |[],vs,u,h=>by simp at h
 |k::ks,[],u,h=>by simp at h
 | k::ks,v::vs,u,h=>by
  simp only[fR,lS]at h;cases e:f==k with
  |true=>rw[e]at h;cases h;exact⟨0,by simp[Dx,e],rfl⟩
  |false=>
   rw[e]at h;let(m,b,a):=yz h
   simp_all [Dx]
theorem dC.CB:∀ {p:Ae}{y i:Sk}{d:D}{v x:V}{S:List aD},dC K G H y d v S->oM p y=Y i->(∀b∈S,∀o,H b=Y o->H' b=Y o)->gX H p v=Y x->gX H' p v=Y x
 |[],y,i,d,v,x,S,h,g,k,e=>e| .fld f::p,y,i,d,v,x,S,h,g,k,e=>by
  cases h with
  |@ins c N r E a C X F S n z l t=>
   simp only[gX,z]at e;simp only[gX,k a aH _ z];let(u,j,e):=aa.1 e;rw[j];let(m,R,O):=yz j;let w:(N.map (fG r))[m]?=Y (fG r f):=by rw[aR,vu R];exact Ÿ
   have B:m<E.length:=by rw[t.length.1];exact(ah.mp O).1
   let(P,U,T,A,J,I,Q):=t.at w (ao B);rw[O]at A;cases A;exact dC.CB J g (λb L o q=>k b (aZ _ (I.symm.subset (aT _ L))) o q) e
  |_=>cases g
 | .ix m::p,y,i,d,v,x,S,h,g,k,e=>by
  cases h with
  |@lst s E a F S z t=>
   simp only[gX,z]at e;simp only[gX,k a aH _ z];let(u,j,e):=aa.1 e;rw[j];have B:m<E.length:=by rw[t.length.1];exact(ah.mp j).1
   let w:(bF E.length s)[m]?=Y s:=by simp[B]
   let(P,U,T,A,J,I,Q):=t.at w (ao B);rw[j]at A;cases A;exact dC.CB J g (λb L o q=>k b (aZ _ (I.symm.subset (aT _ L))) o q) e
  |_=>cases g
noncomputable def AM:Ae->List aJ
 |[]=>[]|.fld f::p=>f::AM p|.ix _::p=>AM p
set_option tactic.hygienic true in
theorem vv{s m:List (aJ×V)}(j:H x=Y (.ins C A s))(i:H' x=Y (.ins B t m))(l:∀b,b≠x->∀o,H b=Y o->H' b=Y o):∀ {p:Ae}{v d:V},(∀g∈AM p,m.lookup g=s.lookup g)->gX H p v=Y d->gX H' p v=Y d
 |[],v,d,c,h=>h| .fld g::p,.ref a,d,c,h=>by
  simp only[gX]at h ⊢;by_cases n:a=x
  .subst n;rw[j]at h;rw[i];simp only at h ⊢;rw[c g (by simp[AM])];let(u,e2,h):=aa.1 h;rw[e2];exact vv j i l (p:=p) (λg q=>c g (by simp[AM,q])) h
  .rcases e:H a with _|o
   .rw[e]at h;cases h
   rw[e]at h;rw[l a n _ e];cases o<;>simp only at h ⊢<;>try (cases h;done)
   rename_i D y r;let(u,e2,h):=aa.1 h;rw[e2];exact vv j i l (p:=p) (λg q=>c g (by simp[AM,q])) h
 | .ix k::p,.ref a,d,c,h=>by
  simp only[gX]at h ⊢;rcases e:H a with _|o
  .simp_all
  rw[e]at h;cases o<;>simp only at h<;>try (cases h;done)
  rename_i w;let n:a≠x:=λz=>by simp_all
  rw[l a n _ e];simp only;let(u,e2,h):=aa.1 h;rw[e2];exact vv j i l (p:=p) c h
 |.fld f::p,.gA,d,c,h=>by cases h
 |.fld f::p,.bl _,d,c,h=>by cases h
 |.fld f::p,.int _,d,c,h=>by cases h
 |.fld f::p,.str _,d,c,h=>by cases h
 |.fld f::p,.HG _,d,c,h=>by cases h
 |.fld f::p,.UQ _,d,c,h=>by cases h
 |.fld f::p,.ty _,d,c,h=>by cases h
 |.ix f::p,.gA,d,c,h=>by cases h
 |.ix f::p,.bl _,d,c,h=>by cases h
 |.ix f::p,.int _,d,c,h=>by cases h
 |.ix f::p,.str _,d,c,h=>by cases h
 |.ix f::p,.HG _,d,c,h=>by cases h
 |.ix f::p,.UQ _,d,c,h=>by cases h
 |.ix f::p,.ty _,d,c,h=>by cases h
def dC.root{s:Sk}{v:V}{S:List aD}(h:dC K G H s t v S)(b:s ≠ .lf)(c:s ≠ .vl):∃a o,v=.ref a/\H a=Y o/\a∈S:=by
 cases h<;>simp_all
def dC.isRef{s:Sk}{v:V}{S:List aD}(h:dC K G H s t v S)(b:s ≠ .lf):∃a,v=.ref a:=by
 cases h<;>first|trivial|solve_by_elim
noncomputable def jV(f:aJ)(d:D):List aJ->List D->List aJ×List D
 |k::a,x::b=>if k=f then (k::a,d::b) else (k::(jV f d a b).1,x::(jV f d a b).2)
 |_,_=>([f],[d])
theorem D8{f:aJ}{v:V}{m:List aD}(s:dC K G H (fG j f) d v m):∀ {b:List aJ}{c:List D}{i:List V}{S:List aD},b.length=c.length->iX K G H (b.map (fG j)) c i S ->
  ∃g o R,mO f v (b.zip i)=(jV f d b c).1.zip g/\(jV f d b c).1.length=(jV f d b c).2.length/\iX K G H ((jV f d b c).1.map (fG j)) (jV f d b c).2 g o/\o.Perm (m++R)/\R.Sublist S
 |[],[],i,S,h,r=>by cases r;exact⟨[v],_,[],rfl,rfl,.cons s .nil,.rfl,.slnil⟩
 |[],x::c,i,S,h,r=>by simp at h
 |k::b,[],i,S,h,r=>by simp at h
 | k::b,x::c,i,S,h,r=>by
  cases r with
  |@cons _ _ _ _ u n T U a t=>
   simp at h;unfold jV;rw[show mO f v _=if k=f then (k,v)::b.zip n else (k,u)::mO f v _ from rfl];by_cases w:k=f
   .subst w;rw[if_pos rfl,if_pos rfl];exact⟨_,_,U,rfl,by simp[h],.cons s t,.rfl,List.sublist_append_right T U⟩
   .rw[if_neg w,if_neg w];refine af λkk =>?_
    let(g,o,R,e,l,q,p,z):=D8 s h t;exact kk (⟨_,_,_,Ÿ,by simp[l],.cons a q,(p.append_left T).trans (cQ T m R),z.append_left T⟩)
theorem dC.put{p:Ae}{s:Sk}{v:V}{S1:List aD}{f:aJ}{d:D}{u:V}(h:dC K G H s t v T)(nd:T.Nodup)(es:oM p s=Y (.fs c L))(ep:jI p t=Y (.ins c j A))(g:bI G G')(k:∀b∈T,∀o,H b=Y o->B b=Y o)(ov:dC K G' B (fG L f) d u S1)(X:S1.Nodup)(dj:∀b∈S1,b∉T):
  ∃x C y r,gX H p v=Y (.ref x)/\x∈T/\uO K bC c=Y (Y (.ref C))/\H x=Y (.ins C y (j.zip r))/\j.length=A.length/\j.length=r.length /\
   ∃F,dC K G' (fD B x (.ins C y (mO f u (j.zip r)))) s (mY (.ins c (jV f d j A).1 (jV f d j A).2) p t) v F/\F.Nodup/\∀b∈F,b∈T\/b∈S1:=by
 let(v',T1,U,e1,o1,E,k1):=h.focus es ep;cases o1 with
 |@ins _ _ _ _ x C y r J n ex l tt=>
  let m:(x::J++U).Nodup:=E.nodup_iff.mp nd;let hxS:x∉J:=λz=>by simp at m;exact m.1.1 z
  have hxU:x∉U:=λz=>by simp at m;exact m.1.2 z
  have O:x∈T:=E.symm.subset ż;have I:∀b∈J,b∈T:=λb i=>E.symm.subset (by simp[i])
  have UT:∀b∈U,b∈T:=λb i=>E.symm.subset (by simp[i])
  let x1:x∉S1:=λz=>dj x z O
  refine⟨x,C,y,r,e1,O,n,ex,l,by rw[l,tt.length.1],?_⟩;let Q:=tt.mono g λb i o e=>k b (I b i) o e
  let(P,S',R,z1,z2,z3,N,W):=D8 ov l Q;let hx':∀b∈S',b≠x:=λb i z=>by
   subst z;rcases aO.mp (N.subset i) with q|q
   .exact x1 q
   .exact hxS (W.subset q)
  let oo:dC K G' (fD B x (.ins C y (mO f u (j.zip r)))) (.fs c L) _ (.ref x) (x::S'):=
   .ins (dx:=y) (vs:=P) n (by rw[bB,z1]) z2 (z3.mono (bI.refl _) λb i o e=>by rw[aP (hx' b i)];exact e)
  let(_,F,o2,p2):=k1 G' _ _ _ g (λb i o e=>by let hb2:b≠x:=λz=>hxU (z ▸ i);rw[aP hb2];exact k b (UT b i) o e) oo;refine⟨F,o2,?_,λb i =>?_⟩
  .rw[p2.nodup_iff];rw[(((N.cons x).append_right U)).nodup_iff];let w:(x::R++U).Sublist (x::J++U):=(W.cons_cons x).append_right U;let S:(x::R++U).Nodup:=m.sublist w;have:(x::(S1++R)++U).Perm (S1++(x::R++U)):=by simpa [bY] using cQ [x] S1 (R++U)
   rw[this.nodup_iff,eD];refine⟨X,S,λa ha b i z =>?_⟩;subst z;exact dj a ha (E.symm.subset (w.subset i))
  .rcases aO.mp (p2.subset i) with q|q<;>grind
def iX.append{f:List D}{S:List aD}(h:iX K G H i f g S)(k:iX K G H c e b j):iX K G H (i++c) (f++e) (g++b) (S++j):=by
 induction f generalizing i g S with
 |nil=>cases h;exact k| cons d f ih=>cases h with
  |cons a t=>rw[bY];exact Ÿ
theorem dC.app{p:Ae}{s:Sk}{v:V}{S1:List aD}{d:D}{u:V}{m:Hp}(h:dC K G H s t v T)(nd:T.Nodup)(es:oM p s=Y (.li n))(ep:jI p t=Y (.lst l))(g:bI G G')(k:∀b∈T,∀o,H b=Y o->m b=Y o)(R:dC K G' m n d u S1)(C:S1.Nodup)(O:∀b∈S1,b∉T):
  ∃x j,gX H p v=Y (.ref x)/\x∈T/\H x=Y (.lst j)/\l.length=j.length /\
   ∃w,dC K G' (fD m x (.lst (j++[u]))) s (mY (.lst (l++[d])) p t) v w/\w.Nodup/\∀b∈w,b∈T\/b∈S1:=by
 let(v',T1,U,e1,o1,r,k1):=h.focus es ep;cases o1 with
 |@lst _ _ x j i ex L=>
  let f:(x::i++U).Nodup:=r.nodup_iff.mp nd;let F:x∉i:=λz=>by simp at f;exact f.1.1 z
  have E:x∉U:=λz=>by simp at f;exact f.1.2 z
  have A:x∈T:=r.symm.subset ż;let y:∀b∈i,b∈T:=λb c=>r.symm.subset (by simp[c])
  have P:∀b∈U,b∈T:=λb c=>r.symm.subset (by simp[c])
  let Q:x∉S1:=λz=>O x z A
  refine⟨x,j,e1,A,ex,L.length.1,?_⟩;let B:iX K G' m (bF (l++[d]).length n) (l++[d]) (j++[u]) (i++(S1++[])):=by rw[aS,gK,VA];exact(L.mono g λb c o e=>k b (y b c) o e).append (.cons R .nil)
  rw[cT]at B;let I:∀b∈i++S1,b≠x:=λb c z=>by subst z;rcases aO.mp c with q|q<;>grind
  let S:dC K G' (fD m x (.lst (j++[u]))) (.li n) (.lst (l++[d])) (.ref x) (x::(i++S1)):=
   .lst bB (B.mono (bI.refl _) λb c o e=>by rw[aP (I b c)];exact e)
  let(_,w,X,N):=k1 G' (fD m x (.lst (j++[u]))) _ _ g (λb c o e=>by let J:b≠x:=λz=>E (z ▸ c);rw[aP J];exact k b (P b c) o e) S;refine⟨w,X,?_,λb c =>?_⟩
  .rw[N.nodup_iff];have:(x::(i++S1)++U).Perm (S1++(x::i++U)):=by simpa [bY] using cQ (x::i) S1 U
   rw[this.nodup_iff,eD];refine⟨C,f,λa ha b c z =>?_⟩;subst z;exact O a ha (r.symm.subset c)
  grind
def iX.last{f:List D}{S:List aD}(h:iX K G H (b++[k]) (f++[d]) e S)(l:b.length=f.length):∃g u j i,e=g++[u]/\S=j++i/\iX K G H b f g j/\dC K G H k d u i:=by
 induction f generalizing b e S with
 |nil=>
  cases b with
  | nil=>cases h with
   |@cons _ _ _ _ v e S T a t=>cases t;exact⟨[],v,[],S,rfl,ż,.nil,a⟩
  |cons=>simp at l
 |cons c f ih=>
  cases b with
  |nil=>simp at l|cons m b=>
   cases h with
   |@cons _ _ _ _ v e S T a t=>let⟨g,u,j,i,rfl,rfl,o,n⟩:=ih t Ż;exact⟨_,u,_,i,rfl,by rw[bY],.cons a o,n⟩
theorem dC.Z2{p:Ae}{s:Sk}{v:V}(h:dC K G H s t v T)(J:T.Nodup)(N:oM p s=Y (.li l))(O:jI p t=Y (.lst (j++[d]))):
  ∃x f u,gX H p v=Y (.ref x)/\x∈T/\H x=Y (.lst (f++[u]))/\j.length=f.length /\
   ∃k g,dC K G (fD H x (.lst f)) s (mY (.lst j) p t) v k/\dC K G (fD H x (.lst f)) l d u g/\(k++g).Perm T:=by
 let(R,S,U,P,I,m,L):=h.focus N O;cases I with
 |@lst _ _ x Q X c w=>
  rw[aS,gK,VA]at w;let(f,u,A,g,rfl,rfl,y,B):=w.last ż;have a:=m.nodup_iff.mp J;refine⟨x,f,u,P,m.symm.subset ż,c,y.length.1,?_⟩;let E:dC K G _ _ _ _ _:=
   .lst bB (y.mono (bI.refl _) λb i o e=>by rw[aP (λz=>(λz=>by simp at a;exact a.1.1 z) (z ▸ i))];exact e)
  let(_,k,F,C):=L G _ _ _ (bI.refl _) λb i o e=>by grind [aP] E
  refine⟨k,g,F,B.mono (bI.refl _) λb i o e=>by grind [aP],?_⟩
  grind
def y_{f:List aJ}{S:List aD}:dC K G H (.fs c []) (.ins c f b) (.ref x) S↔(∃o,H x=Y o/\jJ K G (.ins c f b) o)/\S=[x]:=by
 let p:∀ {f:List aJ}{b:List D}{g:List V}{S:List _},iX K G H (f.map (fG [])) b g S->a9 K G b g/\S=[]:=by
  intro f
  induction f with
  |nil=>intro b g S h;cases h;exact Ÿ
  |cons k f ih=>
   intro b g S h;cases h with
   |cons a t=>
    cases a with
    |leaf r=>let⟨m,rfl⟩:=ih t;exact⟨.cons r m,rfl⟩
 let i:∀ {f:List aJ}{b:List D}{g:List V},f.length=b.length->a9 K G b g->iX K G H (f.map (fG [])) b g []:=by
  intro f
  induction f with
  |nil=>
   intro b g j r;cases b with
   |nil=>rw[dO.mp r];exact .nil|cons=>simp at j
  |cons k f ih=>
   intro b g j r;cases b with
   |nil=>simp at j|cons d b=>let⟨v,u,rfl,s,q⟩:=bJ.mp r;exact .cons (.leaf s) Ż
 constructor
 .intro h;cases h with
  |ins n e l t=>let⟨m,rfl⟩:=p t;exact⟨⟨_,e,_,_,_,rfl,n,l,m⟩,rfl⟩
 .rintro⟨⟨o,e,C,w,g,rfl,n,l,r⟩,rfl⟩;exact .ins n e l (i l r)
theorem dC.dput{p:Ae}{s:Sk}{v:V}(h:dC K G H s t v T)(I:T.Nodup)(N:oM p s=Y .di)(O:jI p t=Y (.iW q y))(g:bI G G')(k:∀b∈T,∀o,H b=Y o->A b=Y o):
  ∃x m,gX H p v=Y (.ref x)/\x∈T/\H x=Y (.dK (q.zip m))/\q.length=y.length/\a9 K G y m /\
   ∀(a:List l_) (c:List D) (d:List V),a.length=c.length->a9 K G' c d->∃j,dC K G' (fD A x (.dK (a.zip d))) s (mY (.iW a c) p t) v j/\j.Nodup/\∀b∈j,b∈T:=by
 let(R,S,U,P,F,n,L):=h.focus N O;cases F with
 |@iW _ _ x m f l r=>
  refine⟨x,m,P,n.symm.subset ż,f,l,r,λa c d J C =>?_⟩;let(_,j,E,B):=L G' (fD A x _) _ [x] g λb i o e=>by grind [aP] (.iW bB J C)
  exact⟨j,E,by rw[B.nodup_iff];exact(n.nodup_iff.mp I),λb i=>n.symm.subset (B.subset i)⟩
end
end L2
namespace L2
open PySem PySem.Spec PyProof.Rows
def Yr(K:aX)(G H:Hp):D->aD->HO->Prop
 |.obj s t,a,_=>∃S,dC K G H s t (.ref a) S/\∀b∈S,G b=M|.gL _ _,_,_=>True|d,_,o=>jJ K G d o
def kQ(K:aX)(G H:Hp)(d:D)(v:V):Prop:=eR K G d v\/∃a o,v=.ref a/\H a=Y o/\Yr K G H d a o
section
variable {K:aX}
def kQ.ext{d:D}{v:V}(r:kQ K G H d v)(E:i9 G H G' H'):kQ K G' H' d v:=by
 rcases r with r|⟨a,o,k,j,c⟩
 .exact .inl (eR.mono E.gg d r)
 .refine .inr ⟨a,o,k,E.hh _ _ j,?_⟩;cases d with
  |obj s t=>
   let⟨S,g,i⟩:=c;refine⟨S,g.mono E.gg λb f o e=>E.hh b o e,λb f =>?_⟩;let(u,h,_):=g.here b f;rcases q:G' b with _|w
   .rfl
   rcases E.fr b w q with z|z<;>simp_all
  |gL=>trivial|lst=>exact jJ.mono E.gg (d :=.lst _) c|ins=>exact jJ.mono E.gg (d :=.ins _ _ _) c|iW=>exact jJ.mono E.gg (d :=.iW _ _) c|_=>exact c
def kQ.gA{v:V}(r:kQ K G H .gA v):v=.gA:=by
 rcases r with r|⟨a,o,_,_,e⟩
 .exact Ÿ
 exact Ÿ
def kQ.bl{v:V}(r:kQ K G H (.bl b) v):v=.bl b:=by
 rcases r with r|⟨a,o,_,_,e⟩
 .exact Ÿ
 exact Ÿ
def kQ.int{i:Int}{v:V}(r:kQ K G H (.int i) v):v=.int i:=by
 rcases r with r|⟨a,o,_,_,e⟩
 .exact Ÿ
 exact Ÿ
def kQ.str{v:V}(r:kQ K G H (.str x) v):v=.str x:=by
 rcases r with r|⟨a,o,_,_,e⟩
 .exact Ÿ
 exact Ÿ
def kQ.lst{ds:List D}{v:V}(s:bI G H)(r:kQ K G H (.lst ds) v):∃a vs,v=.ref a/\H a=Y (.lst vs)/\a9 K G ds vs:=by
 rcases r with r|⟨a,o,d,c,vs,rfl,b⟩
 .let⟨a,vs,e,q,t⟩:=dA.mp r;exact⟨a,vs,e,s _ _ q,t⟩
 .exact⟨a,vs,d,c,b⟩
def kQ.tup{ds:List D}{v:V}(s:bI G H)(r:kQ K G H (.tup ds) v):∃a b,v=.ref a/\H a=Y (.tup b)/\a9 K G ds b:=by
 rcases r with r|⟨a,o,_,_,e⟩
 .let⟨a,b,e,q,t⟩:=fy.mp r;exact⟨a,b,e,s _ _ q,t⟩
 exact Ÿ
def kQ.j5{v:V}(s:bI G H)(r:kQ K G H (.j5 ns) v):∃a,v=.ref a/\nR K H a (ns.map V.int):=by
 rcases r with r|⟨a,o,_,_,e⟩
 .let⟨a,e,q⟩:=Iu.mp r;exact⟨a,e,s.seq q⟩
 exact Ÿ
def kQ.aap{f:List aJ}{v:V}(s:bI G H)(r:kQ K G H (.ins c f g) v):∃a C d b,v=.ref a/\H a=Y (.ins C d (f.zip b))/\uO K bC c=Y (Y (.ref C))/\f.length=g.length/\a9 K G g b:=by
 rcases r with r|⟨a,o,j,i,C,d,b,rfl,n,l,h⟩
 .let⟨a,C,d,b,e,n,q,l,t⟩:=qF.mp r;exact⟨a,C,d,b,e,s _ _ q,n,l,t⟩
 .exact⟨a,C,d,b,j,i,n,l,h⟩
def kQ.U6{v:V}(s:bI G H)(r:kQ K G H (.iW c d) v):∃a b,v=.ref a/\H a=Y (.dK (c.zip b))/\c.length=d.length/\a9 K G d b:=by
 rcases r with r|⟨a,o,h,g,b,rfl,l,f⟩
 .let⟨a,b,e,q,l,t⟩:=B6.mp r;exact⟨a,b,e,s _ _ q,l,t⟩
 .exact⟨a,b,h,g,l,f⟩
def kQ.all{v:V}(s:bI G H)(r:kQ K G H d v):eR K H d v:=by
 rcases r with r|⟨a,o,i,e,c⟩
 .exact eR.mono s d r
 .subst i;cases d with
  |obj k t=>let⟨S,h,g⟩:=c;exact tf.mpr (eR.mono (n6 s) t (h.frozen g λb f=>f))
  |gL=>solve_by_elim|lst=>exact(jJ.mono s (d :=.lst _) c).rep e|ins=>exact(jJ.mono s (d :=.ins _ _ _) c).rep e|iW=>exact(jJ.mono s (d :=.iW _ _) c).rep e|_=>exact c.elim
end
abbrev cE:=List (Option D)
abbrev DF:=cE->Option D
abbrev DT:=cE->Option Bool
abbrev DL:=cE->Option (List D)
noncomputable abbrev GL(j:Nat):Nat:=j+1000000
noncomputable abbrev Bj(j:Nat):Nat:=j+2000000
noncomputable def Fd:List aJ:=["rows","coming"]
def Fj(Z:List Nat)(H:Hp)(a:St)(c:cE)(j r:Nat)(p:Ae):Prop:=r∈Z/\Bj r∈Z/\∃s t d v b,c[r]?=Y (Y (.obj s t))/\a[r]?=Y (Y v)/\a[j]?=Y (Y b)/\gX H p v=Y b/\oM p s=Y d/\∀g∈AM p,g∈Fd
structure kR(K:aX)(Z:List Nat)(G H:Hp)(σ:St)(ρ:cE):Prop where
 len:σ.length=ρ.length
 get:∀(i:Nat) (d:D),ρ[i]?=some (some d)->∃v,σ[i]?=some (some v)/\(if i∈Z then kQ K G H d v else eR K G d v)
 gL:∀(j r:Nat) (p:Ae),j∈Z->GL j∈Z->ρ[j]?=some (some (.gL r p))->Fj Z H σ ρ j r p
def Fj.ext{H':Hp}{a:St}{r:Nat}(h:Fj Z H a b j r p)(s:bI H H'):Fj Z H' a b j r p:=by
 let(g,i,e,d,f,v,c,q,o,n,l,k):=h;exact⟨g,i,e,d,f,v,c,q,o,n,jY s l,k⟩
def kR.ext{K:aX}{G' H':Hp}{a:St}(h:kR K Z G H a b)(E:i9 G H G' H'):kR K Z G' H' a b:=⟨h.len,λi d e=>by
 let(v,q,r):=h.get i d e;refine⟨v,q,?_⟩;by_cases c:i∈Z
 .rw[if_pos c]at r ⊢;exact r.ext E
 .rw[if_neg c]at r ⊢;exact eR.mono E.gg d r,λj r p g f e=>(h.gL j r p g f e).ext E.hh⟩
inductive tP (K:aX) (Z:List Nat) (f:DF) (b:St) (H:Hp) (Q:VK):Prop
 |mk G a d:bI G H->kR K Z G H b a->f a=some d->(∀v G' H',i9 G H G' H'->eR K G' d v->Q v H')->tP K Z f b H Q
inductive tQ (K:aX) (Z:List Nat) (f:DF) (b:St) (H:Hp) (Q:VK):Prop
 |mk G a d:bI G H->kR K Z G H b a->f a=some d->(∀v G' H',i9 G H G' H'->kQ K G' H' d v->Q v H')->tQ K Z f b H Q
inductive tF (K:aX) (Z:List Nat) (f:DL) (d:St) (H:Hp) (Q:VK):Prop
 |mk G a c:bI G H->kR K Z G H d a->f a=some c->(∀p b G' H',i9 G H G' H'->H p=none->G' p=none->H' p=some (.lst b)->a9 K G' c b->Q (.ref p) H')->tF K Z f d H Q
inductive rV (K:aX) (Z:List Nat) (f:DT) (c:St) (H:Hp) (Q:Bool->Hp->Prop):Prop
 |mk G a b:bI G H->kR K Z G H c a->f a=some b->(∀G' H',i9 G H G' H'->Q b H')->rV K Z f c H Q
inductive F8 (K:aX) (Z:List Nat) (f:DL) (d:St) (H:Hp) (Q:List V->Hp->Prop):Prop
 |mk G a c:bI G H->kR K Z G H d a->f a=some c->(∀b G' H',i9 G H G' H'->a9 K G' c b->Q b H')->F8 K Z f d H Q
def JP(K:aX)(G H:Hp):List D->List V->Prop:=Paired (kQ K G H)
inductive VH (K:aX) (Z:List Nat) (f:DL) (d:St) (H:Hp) (Q:List V->Hp->Prop):Prop
 |mk G a c:bI G H->kR K Z G H d a->f a=some c->(∀b G' H',i9 G H G' H'->JP K G' H' c b->Q b H')->VH K Z f d H Q
section
variable {X:Cx}
def PE.imp(h:PE X e t)(k:∀b H Q,c b H Q->t b H Q):PE X e c:=λa s b H Q I q=>h a s b H Q I (k _ _ _ q)
def PT.imp(h:PT X e t)(k:∀b H Q,c b H Q->t b H Q):PT X e c:=λa s b H Q I q=>h a s b H Q I (k _ _ _ q)
def PW.imp(h:PW X e t)(k:∀b H Q,c b H Q->t b H Q):PW X e c:=λw a s b H Q I q=>h w a s b H Q I (k _ _ _ q)
def PA.imp(h:PA X e t)(k:∀b H Q,c b H Q->t b H Q):PA X e c:=λm a s b H Q I q=>h m a s b H Q I (k _ _ _ q)
def PS.imp(h:PS X e t)(k:∀D b H,c D b H->t D b H):PS X e c:=λa s b H D I q=>h a s b H D I (k _ _ _ q)
def qU.imp(h:qU X e t)(k:∀D b H,c D b H->t D b H):qU X e c:=λa s b H D I q=>h a s b H D I (k _ _ _ q)
def pk.imp{f:aj->aj->Sem aj}(h:pk X f r)(k:∀x y H Q,b x y H Q->r x y H Q):pk X f b:=λa s c H x y v u Q I e d q=>h a s c H x y v u Q I e d (k _ _ _ _ q)
def dq{f:DF}(h:PE X e (tP X.K Z f)):PE X e (tQ X.K Z f):=h.imp <|by rintro i H Q ⟨G,b,d,c,a,g,k⟩;exact⟨G,b,d,c,a,g,λv G' H' E r=>k v G' H' E (.inl r)⟩
noncomputable def eF(f:DL):DF:=λρ=>(f ρ).map D.lst
def df{f:DL}(h:PE X e (tF X.K Z f)):PE X e (tP X.K Z (eF f)):=h.imp <|by
 rintro s H Q ⟨G,g,d,q,b,l,k⟩;rcases a:f g with _|c
 .simp_all [eF]
 have:d=.lst c:=by simp_all [eF]
 subst this;exact⟨G,g,c,q,b,a,λp i G' H' E o j n r=>k _ _ H' (E.freeze o j n) (dA.mpr ⟨p,i,rfl,bB,a9.mono (.alloc j) c r⟩)⟩
noncomputable def eV(i:Nat):DF:=λρ=>(ρ[i]?).join
noncomputable def eK(d:D):DF:=λ_=>Y d
def jh(h:eV i a=Y d):a[i]?=Y (Y d):=by
 grind [eV,cB]
def dv{m:Pos}(h:PE X (.Name x m) (j8 i))(b:autoParam (i∉Z) Ū):PE X (.Name x m) (tP X.K Z (eV i)):=h.imp <|by
 rintro f H Q ⟨G,g,d,c,a,e,k⟩;let(v,q,r):=a.get i d (jh e);rw[if_neg b]at r;exact⟨v,q,k v G H (.refl c) r⟩
def dvo{i:Nat}{m:Pos}(h:PE X (.Name x m) (j8 i))(b:autoParam (i∈Z) Ū):PE X (.Name x m) (tQ X.K Z (eV i)):=h.imp <|by
 rintro f H Q ⟨G,g,d,c,a,e,k⟩;let(v,q,r):=a.get i d (jh e);rw[if_pos b]at r;exact⟨v,q,k v G H (.refl c) r⟩
def CU{i j m}:PE X (.Constant (.int i) j m) (tP X.K Z (eK (.int i))):=m4.imp <|by
 rintro e H Q ⟨G,f,d,a,c,b,k⟩;cases b;exact k _ G H (.refl a) (cJ.mpr rfl)
def ac0{b j m}:PE X (.Constant (.bool b) j m) (tP X.K Z (eK (.bl b))):=WY.imp <|by
 rintro f H Q ⟨G,g,d,a,e,c,k⟩;cases c;exact k _ G H (.refl a) (iA.mpr rfl)
def U_{x j m}:PE X (.Constant (.str x) j m) (tP X.K Z (eK (.str x))):=Gr.imp <|by
 rintro e H Q ⟨G,f,d,a,c,b,k⟩;cases b;exact k _ G H (.refl a) (gD.mpr rfl)
noncomputable def aN:DL:=λ_=>Y []
noncomputable def aC(f:DF)(g:DL):DL:=λa=>(f a).bind λx=>(g a).bind λb=>Y (x::b)
def JN{f:DF}{e:List D}(h:aC f g a=Y e):∃x b,f a=Y x/\g a=Y b/\e=x::b:=by
 let(x,d,h):=aa.1 h;rcases c:g a with _|b<;>simp_all
def Hy:PA X [] (F8 X.K Z aN):=gG.imp <|by
 rintro e H Q ⟨G,f,d,a,c,b,k⟩;cases b;exact k _ G H (.refl a) .nil
def vB{f:DF}{g:DL}(h:PE X e (tP X.K Z f))(t:PA X A (F8 X.K Z g))(p:autoParam (ar (e::A) X.env=(Z_,eval e X.env)::ar A X.env) Ŭ):PA X (e::A) (F8 X.K Z (aC f g)):=
 (eC h t p).imp <|by rintro z H Q ⟨G,i,d,q,a,s,k⟩;let(x,l,r,b,rfl):=JN s;refine⟨G,i,x,q,a,r,λv y D c o=>⟨y,i,l,c.gh,a.ext c,b,λC w u j n=>k _ w u (c.trans j) (.cons (eR.mono j.gg x o) n)⟩⟩
def yr:PA X [] (VH X.K Z aN):=gG.imp <|by
 rintro e H Q ⟨G,f,d,a,c,b,k⟩;cases b;exact k _ G H (.refl a) .nil
def sO{f:DF}(h:PE X e (tQ X.K Z f))(t:PA X A (VH X.K Z g))(p:autoParam (ar (e::A) X.env=(Z_,eval e X.env)::ar A X.env) Ŭ):PA X (e::A) (VH X.K Z (aC f g)):=
 (eC h t p).imp <|by rintro z H Q ⟨G,i,d,q,a,s,k⟩;let(x,l,r,b,rfl):=JN s;refine⟨G,i,x,q,a,r,λv y D c o=>⟨y,i,l,c.gh,a.ext c,b,λC w u j n=>k _ w u (c.trans j) (.cons (o.ext j) n)⟩⟩
noncomputable def iu(g:DL):DF:=λb=>(g b).bind λa=>if a.length<=1000 then Y (.tup a) else M
def vn:1000<=aY:=by decide
set_option tactic.hygienic true in
def U9{o m}{g:DL}(h:PA X A (F8 X.K Z g)):PE X (.Tuple A o m) (tP X.K Z (iu g)):=(Gq h).imp <|by
 rintro s H Q ⟨G,i,d,r,c,a,k⟩;unfold iu at a;rw[aa]at a;let(b,e,a):=a;split at a
 .cases a;rename_i q;refine⟨G,i,b,r,c,e,λj u t f l=>⟨?_,λp n=>k _ _ _ (f.trans (i9.alloc f.gh n)) ?_⟩⟩
  .rw[<- l.length];exact bX q vn
  .exact fy.mpr ⟨p,j,rfl,bB,a9.mono (.alloc (f.gh.free n)) b l⟩
 .cases a
noncomputable def fQ(g:DL):DL:=λb=>(g b).bind λa=>if a.length<=1000 then Y a else M
set_option tactic.hygienic true in
def U'{m}{g:DL}(h:PA X A (F8 X.K Z g)):PE X (.List A m) (tF X.K Z (fQ g)):=(y8 h).imp <|by
 rintro s H Q ⟨G,l,j,o,d,a,k⟩;let(e,q,a):=aa.1 a;split at a
 .cases a;rename_i n;refine⟨G,l,j,o,d,q,λf r t b i=>⟨?_,λp c=>k p f r _ (b.trans (i9.lay b.gh c)) (b.hh.free c) (b.gh.free c) bB i⟩⟩;rw[<- i.length];exact bX n vn
 .cases a
noncomputable def e2(o:D->D->Option D)(a b:DF):DF:=λρ=>(a ρ).bind λx=>(b ρ).bind λy=>o x y
def CP(h:e2 o a b c=Y d):∃x y,a c=Y x/\b c=Y y/\o x y=Y d:=by
 let(x,f,h):=aa.1 h;rw[f];rcases e:b c with _|y<;>simp_all
inductive rD (K:aX) (o:D->D->Option D) (x:V) (y:V) (H:Hp) (Q:VK):Prop
 |mk G b a d:bI G H->kQ K G H b x->kQ K G H a y->o b a=some d->(∀v G' H',i9 G H G' H'->eR K G' d v->Q v H')->rD K o x y H Q
def BN(X:Cx)(f:aj->aj->Sem aj)(o:D->D->Option D):Prop:=pk X f (rD X.K o)
def Iv{K:aX}{Z:List Nat}{fa fb:DF}{e:St}(h:tP K Z (e2 o fa fb) e H Q):VI (rD K o) (tQ K Z fa) (tQ K Z fb) e H Q:=by
 let(G,f,d,l,a,q,k):=h;let(x,y,p,n,r):=CP q;exact⟨G,f,x,l,a,p,λv C I c j=>⟨C,f,y,c.gh,a.ext c,n,λu z F b i=>⟨z,x,y,d,b.gh,j.ext b,i,r,λw t s E g=>k w t s ((c.trans b).trans E) g⟩⟩⟩
variable {m:Pos}
def Jv{op:Operator}(c:BN X (fJ op) o)(e:PE X a (tQ X.K Z fa))(d:PE X b (tQ X.K Z fb)):PE X (.BinOp a op b m) (tP X.K Z (e2 o fa fb)):=(D_ c e d).imp λf H Q h=>Iv h
def abn{op:CmpOp}(c:BN X (ik op) o)(f:PE X a (tQ X.K Z fa))(e:PE X b (tQ X.K Z fb))(d:i5 op b=Z_):PE X (.Compare a [op] [b] m) (tP X.K Z (e2 o fa fb)):=(P4 c f e d).imp λg H Q h=>Iv h
noncomputable def dB(f:DF):DT:=λa=>(f a).bind λd=>match d with|.bl b=>Y b|_=>M
def u5{f:DF}{a:cE}{b:Bool}(h:dB f a=Y b):f a=Y (.bl b):=by
 let(d,e,h):=aa.1 h;rw[e];cases d<;>simp_all
def N_{op:CmpOp}(f:BN X (ik op) o)(i:PE X a (tQ X.K Z fa))(h:PE X b (tQ X.K Z fb))(g:i5 op b=Z_):PT X (.Compare a [op] [b] m) (rV X.K Z (dB (e2 o fa fb))):=
 (yf f i h g).imp <|by rintro n H Q ⟨G,e,d,j,c,l,k⟩;exact Iv ⟨G,e,_,j,c,u5 l,λv G' H' E r=>⟨d,iA.mp r,k G' H' E⟩⟩
noncomputable def gj(f g:DT):DT:=λa=>(f a).bind λc=>if c=Z' then g a else Y Z_
noncomputable def v_(f g:DT):DT:=λa=>(f a).bind λc=>if c=Z' then Y Z' else g a
noncomputable def u4(f:DT):DT:=λa=>(f a).map λc=> !c
variable {f:DT}
def Y0(b:PT X a (rV X.K Z f)):PW X (.BoolOp .And [a] m) (rV X.K Z f):=PM b
def aa4(b:PT X a (rV X.K Z f)):PW X (.BoolOp .Or [a] m) (rV X.K Z f):=Tb b
def aa5(o:PT X a (rV X.K Z f))(n:PW X (.BoolOp .And (b::B) m) (rV X.K Z g)):PW X (.BoolOp .And (a::b::B) m) (rV X.K Z (gj f g)):=(Tc o n).imp <|by
 rintro v H Q ⟨G,j,d,p,h,e,k⟩;let(c,q,e):=aa.1 e;refine⟨G,j,c,p,h,q,λl s i =>?_⟩;cases c with
 |true=>exact G7 ⟨l,j,d,i.gh,h.ext i,e,λt r u=>k t r (i.trans u)⟩
 |false=>grind
def acS(o : PT X a (rV X.K Z f))(n : PW X (.BoolOp .Or (b :: B) m) (rV X.K Z g)): PW X (.BoolOp .Or (a :: b :: B) m) (rV X.K Z (v_ f g)) := (WT o n).imp <|by
  rintro v H Q ⟨G,j,d,p,h,e,k⟩
  let(c,q,e):=aa.1 e
  refine⟨G,j,c,p,h,q,λl s i => ?_⟩
  cases c with
  |false => exact Nl ⟨l,j,d,i.gh,h.ext i,e,λt r u => k t r (i.trans u)⟩
  |true => grind
def aa7(i:PT X a (rV X.K Z f)):PT X (.UnaryOp .Not a m) (rV X.K Z (u4 f)):=(Td i).imp <|by
 rintro p H Q ⟨G,h,d,j,e,b,k⟩;unfold u4 at b;rcases g:f h with _|c
 .simp_all
 have:d = !c:=(cB Ż).symm;subst this;exact⟨G,h,c,j,e,g,λn l o=>k n l o⟩
def eOr(f g:DF):DF:=λa=>(dB f a).bind λc=>if c=Z' then Y (.bl Z') else g a
noncomputable def UZ(f:DT):DF:=λa=>(f a).map λc =>.bl (!c)
def abh{b}(h:PE X a (tP X.K Z fa)):PE X (.BoolOp b [a] m) (tP X.K Z fa):=Tv h
def acX(o : PE X a (tP X.K Z fa))(n : PE X (.BoolOp .Or (b :: B) m) (tP X.K Z fb)): PE X (.BoolOp .Or (a :: b :: B) m) (tP X.K Z (eOr fa fb)) := (WX o n).imp <|by
  rintro w H Q ⟨G,h,d,p,f,e,k⟩
  let(c,q,e):=aa.1 e
  refine⟨G,h,_,p,f,u5 q,λv i s g l => ⟨c,iA.mp l,?_⟩⟩
  cases c with
  |false => exact Nl ⟨i,h,d,g.gh,f.ext g,e,λv t r u j => k v t r (g.trans u) j⟩
  | true => have : d = .bl Z' := (cB Ż).symm
            subst this; exact Ÿ
def abi(i:PE X a (tP X.K Z fa)):PE X (.UnaryOp .Not a m) (tP X.K Z (UZ (dB fa))):=(Tw i).imp <|by
 rintro p H Q ⟨G,g,d,j,e,b,k⟩;unfold UZ at b;rcases f:dB fa g with _|c
 .simp_all
 rw[f]at b;have:=(cB b).symm;subst this;exact⟨G,g,_,j,e,u5 f,λv n l o h=>⟨c,iA.mp h,k _ n l o (iA.mpr rfl)⟩⟩
noncomputable def QF(c:DT)(f g:DF):DF:=λa=>(c a).bind λb=>if b=Z' then f a else g a
def acZ(q:PT X c (rV X.K Z f))(s:PE X a (tP X.K Z fa))(r:PE X b (tP X.K Z fb)):PE X (.IfExp c a b m) (tP X.K Z (QF f fa fb)):=(Mz q s r).imp <|by
 rintro w H Q ⟨G,i,d,t,e,h,k⟩;let(c,u,h):=aa.1 h;refine⟨G,i,c,t,e,u,λp x g =>?_⟩;cases c with
 |true=>exact G7 ⟨p,i,d,g.gh,e.ext g,h,λv n l o j=>k v n l (g.trans o) j⟩
 |false=>exact Nl ⟨p,i,d,g.gh,e.ext g,h,λv n l o j=>k v n l (g.trans o) j⟩
end
mutual
noncomputable def Dw:D->D->Bool
 |.gA,.gA=>Z'|.bl a,.bl b=>a==b|.bl a,.int b=>(if a then 1 else 0)==b
 |.int a,.bl b=>a==(if b then 1 else 0)
 |.int a,.int b=>a==b|.str a,.str b=>a==b|.lst d,.lst c=>rJ d c|.tup d,.tup c=>rJ d c|_,_=>Z_
noncomputable def rJ:List D->List D->Bool
 |[],[]=>Z'|x::b,y::a=>Dw x y&&rJ b a|_,_=>Z_
end
mutual
noncomputable def lK:D->Nat->Bool
 |.lst a,n=>n != 0&&pK a (n-1)|.tup a,n=>n != 0&&pK a (n-1)|.j5 _,_=>Z_|.ins _ _ _,_=>Z_|.iW _ _,_=>Z_|.obj _ _,_=>Z_|.gL _ _,_=>Z_|.gA,_=>Z'|.bl _,_=>Z'|.int _,_=>Z'|.str _,_=>Z'
noncomputable def pK:List D->Nat->Bool
 |[],_=>Z'|x::a,n=>lK x n&&pK a n
end
theorem z_:∀ {a:List D}{n i:Nat}{d:D},pK a n=Z'->a[i]?=Y d->lK d n=Z'
 |[],n,i,d,h,e=>by simp at e
 |x::a,n,0,d,h,e=>by simp_all [pK,aA]
 |x::a,n,i+1,d,h,e=>by simp only[pK,aA]at h;exact z_ (i:=i) h.2 Ż
theorem vz:∀(b a:List D),rJ b a=((cL (min b.length a.length)).all (λj=>Dw (b.getD j .gA) (a.getD j .gA))&&(b.length==a.length))
 |[],[]=>by simp[rJ]
 |[],y::a=>by simp[rJ]
 |x::b,[]=>by simp[rJ]
 | x::b,y::a=>by
  let e:min (x::b).length (y::a).length=min b.length a.length+1:=by simp[Nat.add_min_add_right]
  rw[e,Rr,jt,jn];simp only[rJ,vz b a,cU,List.getD_cons_zero,List.getD_cons_succ,bZ];rw[Bool.and_assoc];simp
def X3:Dw (.int x) (.int y)=(x==y):=rfl
mutual
theorem Om:∀(d:D) (n:Nat),lK d n=Z'->Dw d d=Z'
 |.gA,n,h=>rfl|.bl b,n,h=>beq_self_eq_true b|.int b,n,h=>beq_self_eq_true b|.str b,n,h=>beq_self_eq_true b|.lst a,n,h=>by simp only[lK,aA]at h;exact qj a _ h.2
 |.tup a,n,h=>by simp only[lK,aA]at h;exact qj a _ h.2
 |.j5 a,n,h=>by solve_by_elim
 |.ins _ _ _,n,h=>by solve_by_elim
 |.iW _ _,n,h=>by solve_by_elim
 |.obj _ _,n,h=>by solve_by_elim
 |.gL _ _,n,h=>by solve_by_elim
theorem qj:∀(d:List D) (n:Nat),pK d n=Z'->rJ d d=Z'
 |[],n,h=>by simp[rJ]
 |x::a,n,h=>by simp only[pK,aA]at h;simp only[rJ,Om x n h.1,qj a n h.2,Bool.and_self]
end
section
variable {K:aX}
mutual
theorem eR.inj:∀(u g:D) (n m:Nat){v:V},lK u n=Z'->lK g m=Z'->eR K H u v->eR K H g v->u=g
 |.gA,g,n,m,v,h,d,i,f=>by let e:=jB.mp i;subst e;cases g<;>simp[eR,lK]at f d ⊢
 |.bl b,g,n,m,v,h,d,i,f=>by let e:=iA.mp i;subst e;cases g<;>simp[eR,lK]at f d ⊢<;>exact f
 |.int b,g,n,m,v,h,d,i,f=>by let e:=cJ.mp i;subst e;cases g<;>simp[eR,lK]at f d ⊢<;>exact f
 |.str b,g,n,m,v,h,d,i,f=>by let e:=gD.mp i;subst e;cases g<;>simp[eR,lK]at f d ⊢<;>exact f
 | .lst o,g,n,m,v,h,d,i,f=>by
  let(a,w,rfl,l,r):=dA.mp i;cases g with
  |lst k=>let⟨b,s,e,j,q⟩:=dA.mp f;cases e;rw[l]at j;cases j;simp only[lK,aA]at h d;rw[a9.inj o k _ _ h.2 d.2 r q]
  |tup k=>
   obtain _:=fy.mp f
   simp_all
  |j5 k=>simp[lK]at d|ins c t p=>simp[lK]at d|iW t p=>simp[lK]at d|obj=>simp[lK]at d|gL=>simp[lK]at d|_=>simp[eR]at f
 | .tup o,g,n,m,v,h,d,i,f=>by
  let(a,w,rfl,l,r):=fy.mp i;cases g with
  |tup k=>let⟨b,s,e,j,q⟩:=fy.mp f;cases e;rw[l]at j;cases j;simp only[lK,aA]at h d;rw[a9.inj o k _ _ h.2 d.2 r q]
  |lst k=>
   obtain _:=dA.mp f
   simp_all
  |j5 k=>simp[lK]at d|ins c t p=>simp[lK]at d|iW t p=>simp[lK]at d|obj=>simp[lK]at d|gL=>simp[lK]at d|_=>simp[eR]at f
 |.j5 o,g,n,m,v,h,d,i,f=>by simp[lK]at h
 |.ins _ _ _,g,n,m,v,h,d,i,f=>by simp[lK]at h
 |.iW _ _,g,n,m,v,h,d,i,f=>by simp[lK]at h
 |.obj _ _,g,n,m,v,h,d,i,f=>by simp[lK]at h
 |.gL _ _,g,n,m,v,h,d,i,f=>by simp[lK]at h
theorem a9.inj:∀(b a:List D) (n m:Nat){d:List V},pK b n=Z'->pK a m=Z'->a9 K H b d->a9 K H a d->b=a
 | [],a,n,m,d,g,f,h,c=>by
  rw[dO.mp h]at c;cases a with
  |nil=>rfl|cons y a=>let⟨_,_,e,_⟩:=bJ.mp c;cases e
 | x::b,a,n,m,d,g,f,h,c=>by
  let(v,r,rfl,q,t):=bJ.mp h;cases a with
  |nil=>cases dO.mp c|cons y a=>let⟨k,l,e,j,i⟩:=bJ.mp c;cases e;simp only[pK,aA]at g f;rw[eR.inj x y _ _ g.1 f.1 q j,a9.inj b a _ _ g.2 f.2 t i]
end
end
section
variable {P:bE}{K:aX}{s:aw}
def GG(c:pL P w H s.heap)(e:H a=Y (.lst d)):∃b:List aj,cR d b/\s.heap.IsList a b.toArray:=by
 let(z,b,n,r,q):=c a _ e;exact⟨b,r,_,q,rfl,n,rfl⟩
def GF(c:pL P w H s.heap)(e:H a=Y (.tup d)):∃b:List aj,cR d b/\s.heap.IsTuple a b.toArray:=by
 let(z,b,r,q):=c a _ e
 exact Ÿ
open SeqAt
structure Ai(A:jz)(s:aw)(u1 u2:aj)(b:Bool):Prop where
 rc:RcAt A s u1 u2 b
 ne:RcNeAt A s u1 u2 (!b)
 eq:EqAt A s u1 u2 b
theorem Jp(j:pL P w H s.heap)(g:A.units<rK){v:D}{m:Nat}{F:aj}(u:lK z 0=Z')(i:lK v m=Z')(y:eR K H z E)(h:eR K H v C)(x:RelV E G)(f:RelV C F):
  Ai A s G F (Dw z v):=by
 cases z with
 |gA=>
  have e:=jB.mp y;subst e;cases x;cases v with
  |gA=>have e:=jB.mp h;subst e;cases f;exact⟨.none_none,.none_none,.same _⟩
  |bl b=>have e:=iA.mp h;subst e;cases f;exact⟨.none_bool b,.none_bool b,.none_bool b⟩
  |int b=>have e:=cJ.mp h;subst e;let(t,rfl):=f;exact⟨.none_int b t,.none_int b t,.none_int b t⟩
  |str b=>have e:=gD.mp h;subst e;let(t,rfl):=f;exact⟨.none_str b t,.none_str b t,.none_str b t⟩
  |lst n=>let⟨a,r,rfl,q,_⟩:=dA.mp h;cases f;let(k,_,l):=GG j q;exact⟨.none_list l g,.none_list l g,.none_list l g⟩
  |tup n=>let⟨a,r,rfl,q,_⟩:=fy.mp h;cases f;let(k,_,l):=GF j q;exact⟨.none_tuple l g,.none_tuple l g,.none_tuple l g⟩
  |_=>simp[lK]at i
 |bl c=>
  have e:=iA.mp y;subst e;cases x;cases v with
  |gA=>have e:=jB.mp h;subst e;cases f;exact⟨.bool_none c,.bool_none c,.bool_none c⟩
  |bl b=>have e:=iA.mp h;subst e;cases f;exact⟨.bool_bool c b,.bool_bool c b,.bool_bool c b⟩
  |int b=>have e:=cJ.mp h;subst e;let(t,rfl):=f;exact⟨.bool_int c b t,.bool_int c b t,.bool_int c b t⟩
  |str b=>have e:=gD.mp h;subst e;let(t,rfl):=f;exact⟨.bool_str c b t,.bool_str c b t,.bool_str c b t⟩
  |lst n=>let⟨a,r,rfl,q,_⟩:=dA.mp h;cases f;let(k,_,l):=GG j q;exact⟨.bool_list c l g,.bool_list c l g,.bool_list c l g⟩
  |tup n=>let⟨a,r,rfl,q,_⟩:=fy.mp h;cases f;let(k,_,l):=GF j q;exact⟨.bool_tuple c l g,.bool_tuple c l g,.bool_tuple c l g⟩
  |_=>simp[lK]at i
 |int c=>
  have e:=cJ.mp y;subst e;let(d,rfl):=x;cases v with
  |gA=>have e:=jB.mp h;subst e;cases f;exact⟨.int_none c d,.int_none c d,.int_none c d⟩
  |bl b=>have e:=iA.mp h;subst e;cases f;exact⟨.int_bool c d b,.int_bool c d b,.int_bool c d b⟩
  |int b=>have e:=cJ.mp h;subst e;let(t,rfl):=f;exact⟨.int_int c d b t,.int_int c d b t,.int_int c d b t⟩
  |str b=>have e:=gD.mp h;subst e;let(t,rfl):=f;exact⟨.int_str c d b t,.int_str c d b t,.int_str c d b t⟩
  |lst n=>let⟨a,r,rfl,q,_⟩:=dA.mp h;cases f;let(k,_,l):=GG j q;exact⟨.int_list c d l g,.int_list c d l g,.int_list c d l g⟩
  |tup n=>let⟨a,r,rfl,q,_⟩:=fy.mp h;cases f;let(k,_,l):=GF j q;exact⟨.int_tuple c d l g,.int_tuple c d l g,.int_tuple c d l g⟩
  |_=>simp[lK]at i
 |str c=>
  have e:=gD.mp y;subst e;let(d,rfl):=x;cases v with
  |gA=>have e:=jB.mp h;subst e;cases f;exact⟨.str_none c d,.str_none c d,.str_none c d⟩
  |bl b=>have e:=iA.mp h;subst e;cases f;exact⟨.str_bool c d b,.str_bool c d b,.str_bool c d b⟩
  |int b=>have e:=cJ.mp h;subst e;let(t,rfl):=f;exact⟨.str_int c d b t,.str_int c d b t,.str_int c d b t⟩
  |str b=>have e:=gD.mp h;subst e;let(t,rfl):=f;exact⟨.str_str c d b t,.str_str c d b t,.str_str c d b t⟩
  |lst n=>let⟨a,r,rfl,q,_⟩:=dA.mp h;cases f;let(k,_,l):=GG j q;exact⟨.str_list c d l g,.str_list c d l g,.str_list c d l g⟩
  |tup n=>let⟨a,r,rfl,q,_⟩:=fy.mp h;cases f;let(k,_,l):=GF j q;exact⟨.str_tuple c d l g,.str_tuple c d l g,.str_tuple c d l g⟩
  |_=>simp[lK]at i
 |_=>simp[lK]at u
def Ai.refs(a:RcAt A s (.ref l) (.ref b) k)(c:RcNeAt A s (.ref l) (.ref b) (!k))(h:l=b->k=Z'):Ai A s (.ref l) (.ref b) k:=by
 refine⟨a,c,?_⟩;by_cases e:l=b
 .subst e;rw[h rfl];exact .same _
 .exact .of_refs e a
def Ol(h:b.length≠a.length):rJ b a=false:=by
 simp_all [vz,Lz]
def EL{m:Nat}(ih:∀(h g:D) (l k:V) (t p:aj),lK h n=Z'->lK g m=Z'->eR K H h l->eR K H g k->RelV l t->RelV k p->Ai A s t p (Dw h g))(L:pK d n=Z')(J:pK c m=Z')(r:a9 K H d i)(q:a9 K H c o)(w:cR i b)(x:cR o a)(j:Nat)(P:j<b.toArray.size)(O:j<a.toArray.size):
  EqAt A s b.toArray[j] a.toArray[j] (Dw (d.getD j .gA) (c.getD j .gA)):=by
 have X:=r.length.trans w.length;have U:=q.length.trans x.length;have f:=by simpa using P
 have e:=by simpa using O
 have z:d[j]?=Y (d.getD j .gA):=by rw[Lw,ao (by lia)];exact Ÿ
 have y:c[j]?=Y (c.getD j .gA):=by rw[Lw,ao (by lia)];exact Ÿ
 let(v,T,I):=r.get z;let(u,S,G):=q.get y;let(C,R,F):=w.get T;let(B,Q,E):=x.get S;have N:=by
  have:b[j]?=Y b.toArray[j]:=by simp[f]
  rw[R]at this;exact cB this.symm
 have W:=by
  have:a[j]?=Y a.toArray[j]:=by simp[e]
  rw[Q]at this;exact cB this.symm
 rw[N,W];exact(ih _ _ _ _ _ _ (z_ L z) (z_ J y) I G F E).eq
theorem NY(g:pL P w H s.heap):∀(n:Nat){A:jz}(_:A.units+n<rK) (J F:D) (m:Nat) (Q O:V) (S R:aj),lK J n=Z'->lK F m=Z'->eR K H J Q->eR K H F O->RelV Q S->RelV O R ->
  Ai A s S R (Dw J F):=by
 intro n
 induction n with
 |zero=>intro A hu J F m Q O S R C k I o G i;exact Jp g ž C k I o G i
 |succ n ih=>
  intro A hu J F m Q O S R C k I o G i;have d:A.units<rK:=ž
  have ih':=λ(m':Nat)=>λ(J F:D) (Q O:V) (S R:aj)=>ih (A:=A.in1) (by show A.units+1+n<rK;omega) J F m' Q O S R
  cases J with
  |lst p=>
   let⟨a,vs,rfl,X,W⟩:=dA.mp I;cases G;let(r,U,l):=GG g X;cases F with
   |lst h=>
    let⟨b,us,rfl,x,z⟩:=dA.mp o;cases i;let(f,L,q):=GG g x;have B:=C;have N:=k;simp only[lK,aA,Nat.add_sub_cancel]at B N;have v:r.toArray.size=p.length:=by rw[cK];exact(W.length.trans U.length).symm
    have y:f.toArray.size=h.length:=by rw[cK];exact(z.length.trans L.length).symm
    have u:a=b->rJ p h=true:=λe=>by subst e;rw[X]at x;cases x;rw[<- a9.inj p h _ _ B.2 N.2 W z];exact qj p _ B.2
    show Ai A s _ _ (rJ p h);by_cases hl:p.length=h.length
    .have E:rJ p h=(cL r.toArray.size).all (λj=>Dw (p.getD j .gA) (h.getD j .gA)):=by rw[vz,<- hl,Rn,v];simp
     have it:=EL (ih' _) B.2 N.2 W z U L;exact .refs (by rw[E];exact .lists l q ž d it) (by rw[E];exact .lists l q ž d it) u
    .have E:=Ol hl;have RX:(r.toArray.size != f.toArray.size)=true:=by rw[v,y];simpa using hl
     refine .refs ?_ ?_ u
     .rw[E];exact .lists_lengths l q RX d
     .rw[E];exact .lists_lengths l q RX d
   |tup h=>let⟨b,us,rfl,x,z⟩:=fy.mp o;cases i;let(f,L,q):=GF g x;exact⟨.list_tuple l q d,.list_tuple l q d,.list_tuple l q d⟩
   |gA=>have e:=jB.mp o;subst e;cases i;exact⟨.list_none l d,.list_none l d,.list_none l d⟩
   |bl b=>have e:=iA.mp o;subst e;cases i;exact⟨.list_bool b l d,.list_bool b l d,.list_bool b l d⟩
   |int b=>have e:=cJ.mp o;subst e;let(t,rfl):=i;exact⟨.list_int b t l d,.list_int b t l d,.list_int b t l d⟩
   |str b=>have e:=gD.mp o;subst e;let(t,rfl):=i;exact⟨.list_str b t l d,.list_str b t l d,.list_str b t l d⟩
   |_=>simp[lK]at k
  |tup p=>
   let⟨a,vs,rfl,X,W⟩:=fy.mp I;cases G;let(r,U,l):=GF g X;cases F with
   |tup h=>
    let⟨b,us,rfl,x,z⟩:=fy.mp o;cases i;let(f,L,q):=GF g x;have B:=C;have N:=k;simp only[lK,aA,Nat.add_sub_cancel]at B N;have v:r.toArray.size=p.length:=by rw[cK];exact(W.length.trans U.length).symm
    have y:f.toArray.size=h.length:=by rw[cK];exact(z.length.trans L.length).symm
    have u:a=b->rJ p h=true:=λe=>by subst e;rw[X]at x;cases x;rw[<- a9.inj p h _ _ B.2 N.2 W z];exact qj p _ B.2
    show Ai A s _ _ (rJ p h);have E:rJ p h=((cL (min r.toArray.size f.toArray.size)).all (λj=>Dw (p.getD j .gA) (h.getD j .gA))&&r.toArray.size==f.toArray.size):=by rw[vz,v,y]
    have it:=EL (ih' _) B.2 N.2 W z U L;exact .refs (by rw[E];exact .tuples l q d it) (by rw[E];exact .tuples l q d it) u
   |lst h=>let⟨b,us,rfl,x,z⟩:=dA.mp o;cases i;let(f,L,q):=GG g x;exact⟨.tuple_list l q d,.tuple_list l q d,.tuple_list l q d⟩
   |gA=>have e:=jB.mp o;subst e;cases i;exact⟨.tuple_none l d,.tuple_none l d,.tuple_none l d⟩
   |bl b=>have e:=iA.mp o;subst e;cases i;exact⟨.tuple_bool b l d,.tuple_bool b l d,.tuple_bool b l d⟩
   |int b=>have e:=cJ.mp o;subst e;let(t,rfl):=i;exact⟨.tuple_int b t l d,.tuple_int b t l d,.tuple_int b t l d⟩
   |str b=>have e:=gD.mp o;subst e;let(t,rfl):=i;exact⟨.tuple_str b t l d,.tuple_str b t l d,.tuple_str b t l d⟩
   |_=>simp[lK]at k
  |j5 p=>simp[lK]at C|ins c ks T=>simp[lK]at C|iW ks T=>simp[lK]at C|obj=>simp[lK]at C|gL=>simp[lK]at C|_=>exact Jp g d rfl k I o G i
end
def gQ(x y:D):Option D:=if (lK x 180&&lK y 180)=Z' then Y (.bl (Dw x y)) else M
def xm(x y:D):Option D:=if (lK x 180&&lK y 180)=Z' then Y (.bl (!Dw x y)) else M
section
variable {X:Cx}
set_option tactic.hygienic true
def acb(h:hJ k X.A):BN X (ik .Eq) gQ:=by
 intro e s n H x y v u Q I g f ⟨G,m,l,d,c,j,i,a,q⟩;unfold gQ at a;split at a
 .rename_i b;rw[aA]at b;cases a;let o:=h.un;exact(NY I.jr 180 Ž m l 180 x y v u b.1 b.2 (j.all c) (i.all c) g f).rc _ _ _ _ ⟨.bl _,H,I,rfl,q _ G H (.refl c) (iA.mpr rfl)⟩
 .cases a
def RP(h:hJ k X.A):BN X (ik .NotEq) xm:=by
 intro e s n H x y v u Q I g f ⟨G,m,l,d,c,j,i,a,q⟩;unfold xm at a;split at a
 .rename_i b;rw[aA]at b;cases a;let o:=h.un;exact(NY I.jr 180 ž m l 180 x y v u b.1 b.2 (j.all c) (i.all c) g f).ne _ _ _ _ ⟨.bl _,H,I,rfl,q _ G H (.refl c) (iA.mpr rfl)⟩
 .cases a
set_option tactic.hygienic false
noncomputable def xG:D->D->Option D
 |.int i,.int j=>Y (.bl (decide (i<j)))|_,_=>M
noncomputable def vk:D->D->Option D
 |.int i,.int j=>Y (.bl (decide (j<i)))|_,_=>M
noncomputable def oGe:D->D->Option D
 |.int i,.int j=>Y (.bl (decide (j<=i)))|_,_=>M
def Eh{f:aj->aj->Sem aj}{g':Int->Int->D}(h:pk X f (rI C g))(a:∀x y d,o x y=Y d->∃i j,x=.int i/\y=.int j/\C i j/\d=g' i j)(b:∀i j G,eR X.K G (g' i j) (g i j)):BN X f o:=
 pk.imp h <|by rintro x y H Q ⟨G,p,n,d,l,k,e,m,q⟩;let(i,j,rfl,rfl,c,rfl):=a _ _ _ m;exact⟨i,j,k.int,e.int,c,q _ G H (.refl l) (b i j G)⟩
def MI{f:aj->aj->Sem aj}(h:pk X f (PJ g)):pk X f (rI (λc c=>True) g):=pk.imp h <|by rintro x y H Q ⟨i,j,b,a,_,q⟩;exact⟨i,j,b,a,q⟩
def ab8:BN X (ik .Lt) xG:=Eh (MI W2) (λx y d h=>by unfold xG at h;split at h<;>cases h<;>simp) λi j G=>iA.mpr rfl
def aca:BN X (ik .Gt) vk:=Eh (MI RM) (λx y d h=>by unfold vk at h;split at h<;>cases h<;>simp_all) λi j G=>iA.mpr rfl
noncomputable def m6:D->D->Option D
 |.int i,.int j=>Y (.int (i-j))|_,_=>M
def TY:BN X (fJ .Sub) m6:=Eh (MI Gy) (λx y d h=>by unfold m6 at h;split at h<;>cases h<;>simp_all) λi j G=>cJ.mpr rfl
noncomputable def gB:D->D->Option D
 |.int i,.int j=>if 0<j then Y (.int (i%j)) else M
 |_,_=>M
def aad:BN X (fJ .Mod) gB:=Eh TK λx y d h=>by
 unfold gB at h;split at h<;>try (cases h)
 simp_all λi j G=>cJ.mpr rfl
noncomputable def iU:D->D->Option D
 |.int i,.int j=>if 0<j/\j<2 ^ 64 then Y (.int (i/j)) else M
 |_,_=>M
def MJ:pk X (fJ .FloorDiv) (rI (λc j=>0<j/\j<2 ^ 64) λi j =>.int (i/j)):=W4 λi j c c c c c a q=>by
 let b:j.natAbs<2 ^ 64:=by omega
 refine floordiv_int Ž (by rw[Lx i (by lia)];exact q) (.inl (PyProof.noPylong_of_log2 ?_));have:=(Nat.log2_lt ŷ).mpr b
 lia
def YG:BN X (fJ .FloorDiv) iU:=Eh MJ λx y d h=>by
 unfold iU at h;split at h<;>try (cases h)
 simp_all λi j G=>cJ.mpr rfl
noncomputable def eJ:Nat:=1000000
def iJ:eJ<=aY:=by decide
def f_:D->D->Option D
 |.int i,.int j=>Y (.int (i+j))|.str x,.str y=>if x.length+y.length<=eJ then Y (.str (x++y)) else M
 |.lst xs,.lst a=>if xs.length+a.length<=eJ then Y (.lst (xs++a)) else M
 |_,_=>M
set_option tactic.hygienic true in
def TZ:BN X (fJ .Add) f_:=by
 refine pk.imp (TM.or (Gz.or MK)) ?_;rintro x y H Q ⟨G,u,t,d,e,h,g,c,q⟩;unfold f_ at c;split at c<;>try (cases c;done)
 .cases c;exact .inl ⟨_,_,h.int,g.int,q _ G H (.refl e) (cJ.mpr rfl)⟩
 .split at c
  .cases c;rename_i f;exact .inr (.inl ⟨_,_,h.str,g.str,bX f iJ,q _ G H (.refl e) (gD.mpr rfl)⟩)
  .cases c
 .split at c
  .cases c;rename_i f;let(a,l,s,o,j):=h.lst e;let(b,m,r,n,i):=g.lst e;refine .inr (.inr ⟨a,b,l,m,s,r,o,n,?_,λp k=>q _ _ _ (i9.alloc e k) ?_⟩)
   .rw[<- j.length,<- i.length];exact bX f iJ
   .exact dA.mpr ⟨p,_,rfl,bB,a9.mono (.alloc (e.free k)) _ (j.append i)⟩
  .cases c
instance:DecidablePred λp:Int×Int=>OU p.1 p.2:=λp=>by unfold OU;infer_instance
def mu:D->D->Option D
 |.int i,.int j=>if (-(2 ^ 64)<i/\i<2 ^ 64)\/(-(2 ^ 64)<j/\j<2 ^ 64) then Y (.int (i*j)) else M
 |.lst a,.int k=>if (-(2 ^ 63)<=k/\k<2 ^ 63)/\a.length*k.toNat<=eJ then Y (.lst (bF k.toNat a).flatten) else M
 |_,_=>M
set_option tactic.hygienic true in
def aac:BN X (fJ .Mult) mu:=by
 refine pk.imp (TH.or TF) ?_;rintro x y H Q ⟨G,o,n,d,c,i,h,b,q⟩;unfold mu at b;split at b<;>try (cases b)
 .split at b
  .cases b;rename_i l;exact .inl ⟨_,_,i.int,h.int,l,q _ G H (.refl c) (cJ.mpr rfl)⟩
  .cases b
 .split at b
  .cases b;rename_i e;let(a,j,m,k,f):=i.lst c;refine .inr ⟨a,_,j,m,h.int,k,e.1.1,e.1.2,?_,λp g=>q _ _ _ (i9.alloc c g) ?_⟩
   .rw[<- f.length];exact bX e.2 iJ
   .exact dA.mpr ⟨p,_,rfl,bB,a9.mono (.alloc (c.free g)) _ (f.rep _)⟩
  .cases b
noncomputable def e1(o:D->Option D)(a:DF):DF:=λρ=>(a ρ).bind o
def Jr(h:e1 o a b=Y d):∃x,a b=Y x/\o x=Y d:=by
 let(x,c,h):=aa.1 h;rw[c];exact⟨x,rfl,h⟩
noncomputable def Ce:D->Option D
 |.int i=>Y (.int (-i))|_=>M
def abj{b:List Nat}{f:DF}{c:Pos}(j:PE X a (tQ X.K b f)):PE X (.UnaryOp .USub a c) (tP X.K b (e1 Ce f)):=(ID FY j).imp <|by
 rintro r H Q ⟨G,h,d,l,e,n,k⟩;let(x,m,g):=Jr n;cases x<;>simp[Ce]at g
 subst g;exact⟨G,h,_,l,e,m,λv p o q i=>⟨_,i.int,k _ p o q (cJ.mpr rfl)⟩⟩
end
inductive DO where
 |nx (ρ:cE)|rt (d:D)|ro (ds:List D)|bk (ρ:cE)|ct (ρ:cE)
 |rm (d:D) (ρ:cE)
 |rf (i:Nat) (ρ:cE)
 |ex (c:aJ) (n:Int)
abbrev DG:=cE->Option DO
structure Bs where
 g:Hp
 h:Hp
 pin:List (Nat×aD)
 fly:aJ->Int->Prop
def ng(K:aX)(G H:Hp):D->aD->List aD->Prop
 |.obj s t,a,S=>dC K G H s t (.ref a) S|.gL _ _,_,S=>S=[]|d,a,S=>(∃o,H a=Y o/\jJ K G d o)/\S=[a]
noncomputable def wH:D->Bool
 |.lst _=>Z'|.ins _ _ _=>Z'|.iW _ _=>Z'|_=>Z_
def jJ.wH{K:aX}(h:jJ K G d o):wH d=true:=by
 cases d<;>first|rfl|exact h.elim
def ng.cell{K:aX}{d:D}{a:aD}{S:List aD}(b:wH d=Z'):ng K G H d a S↔(∃o,H a=Y o/\jJ K G d o)/\S=[a]:=by
 cases d<;>first|exact jH|cases b
def ng.here{K:aX}{a:aD}{S:List aD}(h:ng K G H d a S):∀b∈S,∃o,H b=Y o:=λb c=>by
 cases d with
 |obj s t=>let⟨o,h,_⟩:=dC.here h b c;exact Ÿ
 |gL r p=>rw[h]at c;cases c|_=>obtain⟨⟨o,e,_⟩,lia⟩:=h;grind
def ng.mono{K:aX}{d:D}{S:List aD}(g:bI G G')(k:∀b∈S,∀o,H b=Y o->H' b=Y o)(h:ng K G H d a S):ng K G' H' d a S:=by
 cases d with
 |obj s t=>exact dC.mono g k h|gL r p=>exact h|_=>obtain⟨⟨o,e,c⟩,rfl⟩:=h;exact⟨⟨o,k a Ÿ o e,jJ.mono g c⟩,rfl⟩
structure tT(K:aX)(B:Bs)(Z:List Nat)(G H:Hp)(σ:St)(ρ:cE)(F:Nat->List aD):Prop where
 it:∀(i:Nat) (d:D),i∈Z->ρ[i]?=some (some d)->∃a,σ[i]?=some (some (.ref a))/\ng K G H d a (F i)
 ok:∀(i:Nat) (d:D),i∈Z->ρ[i]?=some (some d)->(F i).Nodup/\∀b∈F i,G b=none/\B.2 b=none
 ap:∀(i j:Nat) (d c:D),i∈Z->j∈Z->ρ[i]?=some (some d)->ρ[j]?=some (some c)->i≠j->∀b∈F i,b∉F j
structure SR(K:aX)(B:Bs)(Z:List Nat)(G H:Hp)(σ:St)(ρ:cE):Prop where
 gh:bI G H
 g0:bI B.1 G
 h0:bI B.2 H
 fr:∀b o,G b=some o->B.1 b=some o\/B.2 b=none
 env:∀(i:Nat) (d:D),i∉Z->ρ[i]?=some (some d)->∃v,σ[i]?=some (some v)/\eR K G d v
 ow:∃F,tT K B Z G H σ ρ F
 len:σ.length=ρ.length
 pin:∀(i:Nat) (a:aD),(i,a)∈B.3->i∈Z/\σ[i]?=some (some (.ref a))
 gL:∀(j r:Nat) (p:Ae),j∈Z->GL j∈Z->ρ[j]?=some (some (.gL r p))->Fj Z H σ ρ j r p
section
variable {K:aX}
def SR.o6(S:SR K B Z G H C A):i9 B.1 B.2 G H:=⟨S.h0,S.g0,S.gh,S.fr⟩
def SR.MF(S:SR K B Z G H C A)(b:i∈Z)(e:A[i]?=Y (Y d))(c:wH d=Z'):∃a o,C[i]?=Y (Y (.ref a))/\H a=Y o/\jJ K G d o/\G a=M/\B.2 a=none:=by
 refine af λkk =>?_
 let(F,W):=S.ow;let(a,n,m):=W.it i d b e;obtain _:=(ng.cell c).mp m;obtain _:=W.ok i d b e;refine kk ?_
 simp_all
def SR.lg(S:SR K B Z G H C A):kR K Z G H C A:=⟨S.len,λi d e=>by
 by_cases j:i∈Z
 .let⟨F,W⟩:=S.ow;let(a,q,f):=W.it i d j e;refine⟨_,q,?_⟩;rw[if_pos j];let(_,m):=W.ok i d j e;cases d with
  |obj s t=>
   generalize F i=u at f m;cases f with
   |leaf r=>solve_by_elim|lst e t=>exact .inr ⟨a,_,rfl,e,_,.lst e t,λb k=>(m b k).1⟩
   |ins n e l t=>exact .inr ⟨a,_,rfl,e,_,.ins n e l t,λb k=>(m b k).1⟩
   |iW e l t=>exact .inr ⟨a,_,rfl,e,_,.iW e l t,λb k=>(m b k).1⟩
   |vl e p q r s=>exact .inr ⟨a,_,rfl,S.gh _ _ e,_,.vl e p q r s,λb k=>(m b k).1⟩
  |gL r p=>solve_by_elim|lst=>obtain⟨⟨o,g,c⟩,h⟩:=f;exact .inr ⟨a,o,rfl,g,c⟩
  |ins=>obtain⟨⟨o,g,c⟩,h⟩:=f;exact .inr ⟨a,o,rfl,g,c⟩
  |iW=>obtain⟨⟨o,g,c⟩,h⟩:=f;exact .inr ⟨a,o,rfl,g,c⟩
  |_=>obtain⟨⟨o,g,c⟩,h⟩:=f;exact c.elim
 .obtain _:=S.env i d j e
  simp_all,S.gL⟩
def iD{l:List (Option b)}(h:(l.set i (Y x))[j]?=Y (Y y)):(i=j/\y=x/\i<l.length)\/(i≠j/\l[j]?=Y (Y y)):=by
 by_cases e:i=j
 .subst e;by_cases a:i<l.length<;>simp_all
 .rw[au e]at h;exact .inr ⟨e,h⟩
def qY{l:List (Option a)}(h:i<l.length):(l.set i (Y x))[i]?=Y (Y x):=by rw[a7 h]
def tT.ext{F:Nat->List aD}(W:tT K B Z G H C A F)(E:i9 G H G' H'):tT K B Z G' H' C A F:=by
 refine⟨λi d c e =>?_,λi d c e =>?_,W.ap⟩
 .let⟨a,h,g⟩:=W.it i d c e;exact⟨a,h,g.mono E.gg λb j o=>E.hh b o⟩
 .let⟨a,h,g⟩:=W.it i d c e;let(n,k):=W.ok i d c e;refine⟨n,λb f=>⟨?_,(k b f).2⟩⟩;obtain _:=g.here b f;rcases q:G' b with _|u
  .rfl
  rcases E.fr b u q with z|z<;>simp_all
def SR.ext(S:SR K B Z G H C A)(E:i9 G H G' H'):SR K B Z G' H' C A:=by
 refine⟨E.gh,S.g0.trans E.gg,S.h0.trans E.hh,λb o e =>?_,λi d a e =>?_,?_,S.len,S.pin,λj r p f c e=>(S.gL j r p f c e).ext E.hh⟩
 .rcases E.fr b o e with q|q
  .exact S.fr b o q
  .exact .inr (S.h0.free q)
 .let⟨v,h,g⟩:=S.env i d a e;exact⟨v,h,eR.mono E.gg d g⟩
 .let⟨F,W⟩:=S.ow;exact⟨F,W.ext E⟩
def SR.wg{v:V}(S:SR K B Z G H C A)(P:i∉Z)(r:eR K G d v):SR K B Z G H (C.set i (Y v)) (A.set i (Y d)):=by
 have f:∀j,j∈Z->i≠j:=λj b e=>P (e ▸ b)
 refine⟨S.gh,S.g0,S.h0,S.fr,λj c b e =>?_,?_,by simp[S.len],λj a h=>⟨(S.pin j a h).1,by rw[au (f j (S.pin j a h).1)];exact(S.pin j a h).2⟩,λj k p q R e =>?_⟩
 .rcases iD e with⟨rfl,rfl,u⟩|⟨n,e⟩
  .exact⟨v,qY (by rw[S.len];exact u),r⟩
  .obtain _:=S.env j c b e
   simp_all
 .let⟨F,W⟩:=S.ow;have m:∀j c,j∈Z->(A.set i (Y d))[j]?=Y (Y c)->A[j]?=Y (Y c):=λj c b e=>by simp_all
  refine⟨F,λj c b e =>?_,λj c b e=>W.ok j c b (m j c b e),λj k c t b s U T=>W.ap j k c t b s (m j c b U) (m k t s T)⟩;obtain _:=W.it j c b (m j c b e)
  simp_all
 .rw[au (f j q)]at e;let(o,Q,z,y,E,w,x,l,g,e3,X):=S.gL j k p q R e;exact⟨o,Q,z,y,E,w,x,Ż,Ż,Ż,X⟩
def SR.HC{i:Nat}{a:aD}{d':D}{S' F0:List aD}{F:Nat->List aD}(S:SR K B Z G H C A)(W:tT K B Z G H C A F)(hi:i∈Z)(h0:∀b∈F0,b∈F i/\∃d,A[i]?=Y (Y d))(gg:bI G G')(gh:bI G' H')(fr:∀b o,G' b=Y o->G b=Y o\/H b=M\/b∈F0)(v:∀b o,b∉F0->H b=Y o->H' b=Y o)(nw:ng K G' H' d' a S')(nd:S'.Nodup)(nf:∀b∈S',G' b=M/\(b∈F0\/H b=M\/(B.2 b=M/\∀k c,k∈Z->A[k]?=Y (Y c)->k≠i->b∉F k)))(aaC:∀b,(i,b)∈B.3->b=a)(hna:∀r p,d' ≠ .gL r p)(ha:∀j p,j∈Z->GL j∈Z->j≠i->A[j]?=Y (Y (.gL i p))->∃s t s' v',d'=.obj s t/\C[j]?=Y (Y v')/\gX H' p (.ref a)=Y v'/\oM p s=Y s'):
  SR K B Z G' H' (C.set i (Y (.ref a))) (A.set i (Y d'))/\tT K B Z G' H' (C.set i (Y (.ref a))) (A.set i (Y d')) (λj=>if j=i then S' else F j):=by
 have b0:∀b∈F0,G b=M/\B.2 b=none:=λb g=>by let(X,d,U):=h0 b g;exact(W.ok i d hi U).2 b X
 have P:∀j c,j∈Z->A[j]?=Y (Y c)->i≠j->∀b∈F j,b∉F0:=λj c l ej f b g UI=>by let(X,d,U):=h0 b UI;exact W.ap i j d c hi l U ej f b X g
 have W':tT K B Z G' H' (C.set i (Y (.ref a))) (A.set i (Y d')) (λj=>if j=i then S' else F j):=by
  refine⟨λj c l e =>?_,λj c l e =>?_,λj k c c' l hk ej ek YN =>?_⟩
  .rcases iD e with⟨rfl,rfl,Q⟩|⟨f,e⟩
   .exact⟨a,qY (by rw[S.len];exact Q),by simpa using nw⟩
   .let⟨b,R,I⟩:=W.it j c l e;refine⟨b,by rw[au f];exact R,?_⟩;simp only[if_neg (bQ f)];exact I.mono gg λx hx o=>v x o (P j c l e f x hx)
  .rcases iD e with⟨rfl,rfl,Q⟩|⟨f,e⟩
   .simp only[if_true];refine⟨nd,λb g=>⟨(nf b g).1,?_⟩⟩;rcases(nf b g).2 with z|z|z
    .exact(b0 b z).2
    .exact S.h0.free z
    .exact z.1
   .simp only[if_neg (bQ f)];let(n,k):=W.ok j c l e;let(x,R,I):=W.it j c l e;refine⟨n,λb g=>⟨?_,(k b g).2⟩⟩;rcases q:G' b with _|u
    .rfl
    rcases fr b u q with z|z|z
    .rw[(k b g).1]at z;cases z
    .let⟨o,ho⟩:=I.here b g;rw[ho]at z;cases z
    .exact absurd z (P j c l e f b g)
  .have y:∀m c,m∈Z->A[m]?=Y (Y c)->i≠m->∀b∈S',b∉F m:=λm c hm em f b g T=>by
    rcases(nf b g).2 with z|z|z
    .exact P m c hm em f b T z
    .let⟨x,R,I⟩:=W.it m c hm em;let(o,ho):=I.here b T;rw[ho]at z;cases z
    .exact z.2 m c hm em (bQ f) T
   rcases iD ej with⟨rfl,rfl,Q⟩|⟨f,ej1⟩
   .rcases iD ek with⟨rfl,_,_⟩|⟨f,ek1⟩
    .exact absurd rfl YN
    .simp only[if_true,if_neg (bQ f)];exact y k c' hk ek1 f
   .rcases iD ek with⟨rfl,rfl,Q⟩|⟨aaG,ek1⟩
    .simp only[if_true,if_neg (bQ f)];exact λb g RY=>y j c l ej1 f b RY g
    .simp only[if_neg (bQ f),if_neg (bQ aaG)];exact W.ap j k c c' l hk ej1 ek1 YN
 refine⟨⟨gh,S.g0.trans gg,λb o e =>?_,λb o e =>?_,λj c l e =>?_,⟨_,W'⟩,by simp[S.len],λj b h =>?_,λj r p X U e =>?_⟩,W'⟩
 .refine v b o (λz =>?_) (S.h0 b o e);rw[(b0 b z).2]at e;cases e
 .rcases fr b o e with z|z|z
  .exact S.fr b o z
  .exact .inr (S.h0.free z)
  .exact .inr (b0 b z).2
 .let f:i≠j:=λz=>l (z ▸ hi)
  rw[au f]at e;let(u,R,I):=S.env j c l e;exact⟨u,by rw[au f];exact R,eR.mono gg c I⟩
 .let⟨p1,p2⟩:=S.pin j b h;refine⟨p1,?_⟩;by_cases VT:i=j
  .subst VT;rw[aaC b h,a7 (ah.mp p2).1]
  .rw[au VT];exact p2
 .rcases iD e with⟨rfl,z,Q⟩|⟨f,e'⟩
  .exact absurd z.symm (hna r p)
  .clear e;let e:=e';clear e';by_cases E:r=i
   .refine af λkk =>?_
    subst E;let(s,t,s',v',f1,f2,f3,f4):=ha j p X U (bQ f) e;let(g1,g0,s0,t0,s1,w,v1,g2,g3,g4,g5,g6,g7):=S.gL j r p X U e;have Q:r<A.length:=(ah.mp g2).1;refine kk (⟨hi,g0,s,t,s',.ref a,v',?_,qY (by rw[S.len];exact Q),?_,f3,f4,g7⟩)
    .rw[qY Q,f1]
    .rw[au f];exact f2
   .refine af λkk =>?_
    let(g1,g0,s0,t0,s1,w,v1,g2,g3,g4,g5,g6):=S.gL j r p X U e;let(x,R,I):=W.it r _ g1 g2;rw[g3]at R;cases R;refine kk (⟨g1,g0,s0,t0,s1,.ref x,v1,by rw[au (bQ E)];exact g2,by rw[au (bQ E)];exact g3,by rw[au f];exact g4,?_,g6⟩);exact dC.CB (show dC K G H s0 t0 (.ref x) (F r) from I) g6.1 (λb g o=>v b o (P r _ g1 g2 (bQ E) b g)) g5
def SR.chg{i:Nat}{a:aD}{d':D}{S' F0:List aD}{F:Nat->List aD}(S:SR K B Z G H C A)(W:tT K B Z G H C A F)(q:i∈Z)(v:∀b∈F0,b∈F i/\∃d,A[i]?=Y (Y d))(x:bI G G')(w:bI G' H')(y:∀b o,G' b=Y o->G b=Y o\/H b=M\/b∈F0)(c:∀b o,b∉F0->H b=Y o->H' b=Y o)(m:ng K G' H' d' a S')(n:S'.Nodup)(h:∀b∈S',G' b=M/\(b∈F0\/H b=M))(e:∀b,(i,b)∈B.3->b=a)(f:∀r p,d' ≠ .gL r p)(u:∀j p,j∈Z->GL j∈Z->j≠i->A[j]?=Y (Y (.gL i p))->∃s t l g,d'=.obj s t/\C[j]?=Y (Y g)/\gX H' p (.ref a)=Y g/\oM p s=Y l):
  SR K B Z G' H' (C.set i (Y (.ref a))) (A.set i (Y d')):=
 (S.HC W q v x w y c m n (λb k=>⟨(h b k).1,by rcases(h b k).2 with z|z;exact .inl z;exact .inr (.inl z)⟩) e f u).1
def SR.RQ(S:SR K B Z G H C A)(b:A[i]?=Y (Y d))(c:wH d=Z'):∀j p,j∈Z->GL j∈Z->A[j]?=Y (Y (.gL i p))->False:=λj p g f e=>by
 let(n,o,m,k,l,w,h,a,_):=S.gL j i p g f e;rw[b]at a;cases a;cases c
def C9(a:wH d=Z'):∀r p,d ≠ .gL r p:=λr p e=>by subst e;cases a
def SR.setC(S:SR K B Z G H C A)(m:i∈Z)(E:i9 G H G' H')(k:H p=M)(t:G' p=M)(g:H' p=Y o)(r:jJ K G' d o)(c:∀a,(i,a)∉B.3)(l:Bj i∉Z):SR K B Z G' H' (C.set i (Y (.ref p))) (A.set i (Y d)):=by
 let(F,W):=S.ow;exact S.chg (F0:=[]) W m (λb f=>by cases f) E.gg E.gh λb o e=>by rcases E.fr b o e with z|z<;>simp_all (λb o u e=>E.hh b o e)
  ((ng.cell r.wH).mpr ⟨⟨o,g,r⟩,rfl⟩) ż λb f=>by simp_all (λb h=>absurd h (c b)) (C9 r.wH) λj q s n u e=>(l (S.gL j i q s n e).2.1).elim
def SR.W9{f:HO}(S:SR K B Z G H C A)(m:i∈Z)(g:A[i]?=Y (Y d))(l:C[i]?=Y (Y (.ref a)))(r:jJ K G p f)(s:autoParam (wH d=true) Ŭ):SR K B Z G (fD H a f) C (A.set i (Y p)):=by
 let(F,W):=S.ow;let(z,v,y):=W.it i d m g;rw[l]at v;cases v;obtain⟨⟨o,_⟩,u⟩:=(ng.cell s).mp y;let(n,k):=W.ok i d m g;rw[u]at k;have t:=(k a Ÿ).1;have:=S.chg (F0:=[a]) W m (λb c=>⟨Ż,d,g⟩) (bI.refl _) (λb o e=>by rw[aP (bM e t)];exact S.gh b o e) (λb o e =>.inl e)
  λb o c e=>by simp_all [aP] ((ng.cell r.wH).mpr ⟨⟨f,bB,r⟩,rfl⟩) ż λb c=>by simp_all
  λb h=>by have:=(S.pin i b h).2;simp_all (C9 r.wH) λj q x w D e=>(S.RQ g s j q x w e).elim
 simp_all [hW]
def SR.Pz{p:aD}(S:SR K B Z G H C A)(h:i∈Z)(E:i9 G H G' H')(f:H p=M)(j:G' p=M)(e:H' p=Y (.lst c))(r:a9 K G' d c)(b:∀a,(i,a)∉B.3)(g:Bj i∉Z):SR K B Z G' H' (C.set i (Y (.ref p))) (A.set i (Y (.lst d))):=
 S.setC h E f j e ⟨c,rfl,r⟩ b g
def SR.mut(S:SR K B Z G H C A)(e:i∈Z)(f:A[i]?=Y (Y (.lst g)))(d:C[i]?=Y (Y (.ref a)))(r:a9 K G c b):SR K B Z G (fD H a (.lst b)) C (A.set i (Y (.lst c))):=
 S.W9 e f d ⟨b,rfl,r⟩
def SR.freeze{Ź:List Nat}(S:SR K B Z G H C A)(f:∀j∈Ź,j∈Z)(i:Nat)(Q:∀j∈Z,j∈Ź\/j=i)(hn:i∉Ź)(P:i∈Z)(U:∀a,(i,a)∉B.3)(T:Bj i∉Z)(Nr:i<1000000):∃G',SR K B Ź G' H C A:=by
 let(F,W):=S.ow;have I:∀(j:Nat) (a:aD),(j,a)∈B.3->j∈Ź/\C[j]?=Y (Y (.ref a)):=λj a h=>⟨by
  rcases Q j (S.pin j a h).1 with z|z
  .exact z
  .subst z;exact absurd h (U a),(S.pin j a h).2⟩
 by_cases R:∃d,A[i]?=Y (Y d)
 .let⟨d,R⟩:=R;let(a,e1,E):=W.it i d P R;let(nd,k):=W.ok i d P R;let n0:=λb D=>(k b D).1
  let l:bI G (lD G H (F i)):=kX n0;let rep:eR K (lD G H (F i)) d (.ref a):=by
   cases d with
   |obj s t=>exact tf.mpr (dC.frozen n0 (λb D=>D) (E))
   |gL r p=>exact ye.mpr ⟨a,rfl⟩|gA=>obtain⟨⟨o,q,g⟩,x⟩:=E;exact g.elim
   |bl=>obtain⟨⟨o,q,g⟩,x⟩:=E;exact g.elim
   |int=>obtain⟨⟨o,q,g⟩,x⟩:=E;exact g.elim
   |str=>obtain⟨⟨o,q,g⟩,x⟩:=E;exact g.elim
   |tup=>obtain⟨⟨o,q,g⟩,x⟩:=E;exact g.elim
   |j5=>obtain⟨⟨o,q,g⟩,x⟩:=E;exact g.elim
   |_=>obtain⟨⟨o,q,g⟩,x⟩:=E;exact(jJ.mono l g).rep (by rw[nJ (by rw[x];solve_by_elim)];exact q)
  refine⟨lD G H (F i),n6 S.gh,S.g0.trans l,S.h0,λb o e =>?_,λj c n e =>?_,⟨F,λj c n e =>?_,λj c n e =>?_,λj m c c' n T=>W.ap j m c c' (f j n) (f m T)⟩,S.len,I,λj r p h1 h2 e =>?_⟩
  .by_cases D:b∈F i
   .exact .inr (k b D).2
   .rw[oH D]at e;exact S.fr _ _ e
  .by_cases v:j∈Z
   .rcases Q j v with z|z<;>simp_all
   .let⟨u,q,g⟩:=S.env j c v e;exact⟨u,q,eR.mono l c g⟩
  .let⟨b,q,g⟩:=W.it j c (f j n) e;exact⟨b,q,g.mono l λJ J J z=>z⟩
  .let⟨nd',k'⟩:=W.ok j c (f j n) e;refine⟨nd',λb D=>⟨?_,(k' b D).2⟩⟩;rw[oH (λz=>W.ap i j d c P (f j n) R e (λz=>hn (z ▸ n)) b z D)];exact(k' b D).1
  .let⟨g1,X,s0,t0,s1,w,v1,g2,g3⟩:=S.gL j r p (f j h1) (f _ h2) e;rcases Q r g1 with z|z
   .rcases Q _ X with y|y
    .exact⟨z,y,s0,t0,s1,w,v1,g2,g3⟩
    .unfold Bj at y;omega
   simp_all
 .refine⟨G,S.gh,S.g0,S.h0,S.fr,λj c n e =>?_,⟨F,λj c n e=>W.it j c (f j n) e,λj c n e=>W.ok j c (f j n) e,λj m c c' n T=>W.ap j m c c' (f j n) (f m T)⟩,S.len,I,λj r p h1 h2 e =>?_⟩
  .by_cases v:j∈Z
   .grind
   .exact S.env j c v e
  .let⟨g1,X,s0,t0,s1,w,v1,g2,g3⟩:=S.gL j r p (f j h1) (f _ h2) e;rcases Q r g1 with z|z
   .rcases Q _ X with y|y
    .exact⟨z,y,s0,t0,s1,w,v1,g2,g3⟩
    .unfold Bj at y;omega
   simp_all
end
def abJ(K:aX)(B:Bs)(I Z:List Nat)(e:Ends):DO->Prop
 |.nx A=>∀C G H,SR K B Z G H C A->e.nx C H|.rt d=>∀v G H,i9 B.1 B.2 G H->eR K G d v->e.rt v H|.ro g=>∀a f G H,i9 B.1 B.2 G H->B.2 a=M->G a=M->H a=Y (.lst f)->a9 K G g f->e.rt (.ref a) H|.bk A=>∀C G H,SR K B I G H C A->e.bk C H|.ct A=>∀C G H,SR K B I G H C A->e.ct C H
 |.rm d A=>∀v C G H,(∃b,SR K B b G H C A)->eR K G d v->e.rt v H|.rf i A=>∀v C G H,(∃b,i∈b/\SR K B b G H C A)->C[i]?=Y (Y v)->e.rt v H|.ex c n=>B.fly c n
inductive jW (K:aX) (B:Bs) (I Z a:List Nat) (g:DG) (b:Ends) (C:St) (H:Hp):Prop
 |mk G A o:SR K B Z G H C A->g A=some o->abJ K B I a b o->jW K B I Z a g b C H
section
variable {X:Cx}
noncomputable def eI:DG:=λA=>Y (.nx A)
def mH:qU X [] (jW X.K B I Z Z eI):=Iy.imp <|by rintro D C H ⟨G,A,o,S,a,k⟩;cases a;exact Ÿ
noncomputable def aU(g h:DG):DG:=λA=>(g A).bind λo=>match o with|.nx a=>h a|o=>Y o
def SY{K:aX}{e:Ends}(q:jW K B I Z L (aU g h) e C H):jW K B I Z own1 g { e with nx:=λC H=>jW K B I own1 L h e C H } C H:=by
 let(G,A,o,S,a,k):=q;let(f,l,a):=aa.1 a;refine⟨G,A,f,S,l,?_⟩;cases f with
 |nx b=>exact λj G' H' m=>⟨G',b,o,m,a,k⟩
 |_=>cases a;exact k
def ax(b:PS X N (jW X.K B I Z own1 g))(a:qU X O (jW X.K B I own1 L h)):qU X (N::O) (jW X.K B I Z L (aU g h)):=(p9 b a).imp λD C H q=>SY q
def eU(a:PS X N (jW X.K B I Z own1 g)):qU X [N] (jW X.K B I Z own1 g):=o_ a
def uD{b:List d_}(i:Nat)(n:qU X b (jW X.K B I own1 L g))(d:autoParam (∀j∈own1,j∈Z) Ū)(m:autoParam (∀j∈Z,j∈own1\/j=i) Ū)(h:autoParam (i∉own1) Ū)(f:autoParam (i∈Z) Ū)(c:autoParam (∀a,(i,a)∉B.3) ť)(l:autoParam (Bj i∉Z) Ū)(e:autoParam (i<1000000) Ū):qU X b (jW X.K B I Z L g):=
 n.imp <|by rintro D C H ⟨G,A,o,S,p,k⟩;let(G',q):=S.freeze d i m h f c l e;exact⟨G',A,o,q,p,k⟩
noncomputable def eP(i:Nat)(f:DF):DG:=λA=>(f A).map λd =>.nx (A.set i (Y d))
def wQ{i:Nat}{f:DF}(n:X.N.Nodup)(j:X.N[i]?=Y x)(c:Loc X.env.scope x)(m:PE X e (tP X.K Z f))(h:autoParam (i∉Z) Ū)(g:autoParam (cY e (Y (.Name x a)) J.line X.env=fK false) Ŭ)(l:autoParam (X.fn x=Z'\/X.env.scope.names.lookup x=Y .local) ŧ):
  PS X (.Assign [.Name x a] e J) (jW X.K B I Z Z (eP i f)):=(mr n j c m g l).imp <|by
 rintro D C H ⟨G,A,o,S,b,k⟩;let(d,p,b):=aq.1 b;cases b;exact⟨G,A,d,S.gh,S.lg,p,λv G' H' E r=>k _ G' H' ((S.ext E).wg h r)⟩
noncomputable def jq(i:Nat)(f:DL):DG:=λA=>(f A).map λa =>.nx (A.set i (Y (.lst a)))
def Y2{i:Nat}{f:DL}(u:X.N.Nodup)(q:X.N[i]?=Y x)(g:Loc X.env.scope x)(t:PE X e (tF X.K Z f))(m:autoParam (i∈Z) Ū)(c:autoParam (∀a,(i,a)∉B.3) ť)(n:autoParam (Bj i∉Z) Ū)(j:autoParam (cY e (Y (.Name x b)) J.line X.env=fK false) Ŭ)(s:autoParam (X.fn x=Z'\/X.env.scope.names.lookup x=Y .local) ŧ):
  PS X (.Assign [.Name x b] e J) (jW X.K B I Z Z (jq i f)):=(mr u q g t j s).imp <|by
 rintro D C H ⟨G,A,o,S,d,k⟩;let(y,w,d):=aq.1 d;cases d;exact⟨G,A,y,S.gh,S.lg,w,λp z G' H' E l v h r=>k _ G' H' (S.Pz m E l v h r c n)⟩
noncomputable def iy(f:DF):DG:=λA=>(f A).map .rt
def qN{f:DF}(b:PE X e (tP X.K Z f)):PS X (.Return (Y e) J) (jW X.K B I Z own1 (iy f)):=(um b).imp <|by
 rintro D C H ⟨G,A,o,S,a,k⟩;let(d,c,a):=aq.1 a;cases a;exact⟨G,A,d,S.gh,S.lg,c,λv G' H' E r=>k v G' H' (S.o6.trans E) r⟩
noncomputable def mN(f:DL):DG:=λA=>(f A).map .ro
def yq{f:DL}(h:PE X e (tF X.K Z f)):PS X (.Return (Y e) J) (jW X.K B I Z own1 (mN f)):=(um h).imp <|by
 rintro D C H ⟨G,A,o,S,a,k⟩;let(d,j,a):=aq.1 a;cases a;exact⟨G,A,d,S.gh,S.lg,j,λp b G' H' E g i c r=>k p b G' H' (S.o6.trans E) (S.h0.free g) i c r⟩
def Ba(i:Nat):DG:=λA=>(eV i A).bind λd=>match d with|.lst a=>Y (.ro a)|_=>M
def Y4{i:Nat}(h:PE X (.Name x p) (j8 i))(f:autoParam (i∈Z) Ū):PS X (.Return (Y (.Name x p)) J) (jW X.K B I Z own1 (Ba i)):=(um h).imp <|by
 rintro D C H ⟨G,A,o,S,b,k⟩;let(d,g,b):=aa.1 b;cases d<;>simp at b<;>try (done)
 let(a,q,n,m,c,l,j):=S.MF f (jh g) rfl;let(e,rfl,c):=c;cases b;exact⟨_,n,k a e G H S.o6 j l m c⟩
def Mh(i:Nat):DG:=λA=>(eV i A).map λ_ =>.rf i A
def Y3{i:Nat}(h:PE X (.Name x p) (j8 i))(c:autoParam (i∈Z) Ū):PS X (.Return (Y (.Name x p)) J) (jW X.K B I Z own1 (Mh i)):=(um h).imp <|by
 rintro D C H ⟨G,A,o,S,b,k⟩;let(d,f,b):=aq.1 b;cases b;let(F,W):=S.ow;let(a,e,_):=W.it i d c (jh f);exact⟨_,e,k _ C G H ⟨Z,c,S⟩ e⟩
noncomputable def gk(f:DT)(g h:DG):DG:=λA=>(f A).bind λb=>if b=Z' then g A else h A
def sN{c:Expr}{b:List d_}{f:DT}(j:PT X c (rV X.K Z f))(m:qU X a (jW X.K B I Z own1 g))(l:qU X b (jW X.K B I Z own1 h)):PS X (.If c a b J) (jW X.K B I Z own1 (gk f g h)):=(Iz j m l).imp <|by
 rintro D C H ⟨G,A,o,S,d,k⟩;let(c,n,d):=aa.1 d;refine⟨G,A,c,S.gh,S.lg,n,λe p i =>?_⟩;cases c with
 |true=>exact G7 ⟨e,A,o,S.ext i,d,k⟩|false=>exact Nl ⟨e,A,o,S.ext i,d,k⟩
def kv(i:Nat)(A:cE):Option (List D):=(eV i A).bind λd=>match d with|.lst a=>Y a|_=>M
def gH(h:kv i A=Y a):A[i]?=Y (Y (.lst a)):=by
 let(d,b,h):=aa.1 h;cases d<;>first|(cases h;exact jh b)|cases h
def SR.m5{K:aX}(S:SR K B Z G H C A)(d:i∈Z)(h:A[i]?=Y (Y (.lst c))):∃a b,C[i]?=Y (Y (.ref a))/\H a=Y (.lst b)/\a9 K G c b/\G a=M/\B.2 a=none:=by
 obtain⟨a,k,j,g,⟨b,rfl,f⟩,e⟩:=S.MF d h rfl;exact⟨a,b,j,g,f,e⟩
def nH(i:Nat)(f:DF):DG:=λA=>(kv i A).bind λa=>(f A).bind λd=>if a.length<eJ then Y (.nx (A.set i (Y (.lst (a++[d]))))) else M
set_option tactic.hygienic true in
def abb{i:Nat}{c b:Pos}{f:DF}(h:PE X (.Name x p) (j8 i))(R:PE X e (tP X.K Z f))(t:autoParam (i∈Z) Ū)(m:autoParam (cN (.Name x p) "append" X.env (eval (.Name x p) X.env)=eval (.Name x p) X.env) Ŭ) (n:autoParam (((eS b (ar (e::[]) X.env)).all (λx=> !x.1)&&(ki b (gr [] X.env)).all (λx=>x.1.isSome)
   && decide ((e::[]).length+([]:List n_).length+(if ([]:List n_).isEmpty then 0 else 1)<30))=true) Ŭ) (l:autoParam ((c.endLine==b.line)=true) Ŭ) (z:autoParam (ar (e::[]) X.env=(Z_,eval e X.env)::ar [] X.env) Ŭ) (g:autoParam ((eS b (ar [] X.env)).any (·.1)=false) Ŭ) (s:autoParam (cY (.Call (.Attribute (.Name x p) "append" c) [e] [] b) M J.line X.env=fK false) Ŭ) :
  PS X (.Expr (.Call (.Attribute (.Name x p) "append" c) [e] [] b) J) (jW X.K B I Z Z (nH i f)):=
 (nI (xl g_ PySem.F.slot_list_append PySem.F.type_list_append kZ h (eC R gG z) m n l z g) s).imp <|by
  rintro D C H ⟨G,A,o,S,j,k⟩;let(ds,U,j):=aa.1 j;rw[aa]at j;let(d,w,j):=j;split at j
  .cases j;rename_i Q;let u:=gH U;let(a,P,y,e3,_):=S.m5 t u;refine⟨_,y,.inl ⟨rfl,P,.of e3⟩,G,A,d,S.gh,S.lg,w,λv G' H' E r =>?_⟩;let L:=S.ext E;refine af λkk =>?_
   let(a',q,K,T,F,_):=L.m5 t u;rw[y]at K;cases K;refine kk (⟨a,q,v,rfl,rfl,T,?_,k _ G' _ (L.mut t u y (F.append (.cons r .nil)))⟩);rw[<- F.length];exact bD Q iJ
  .cases j
def Tj{K:aX}(S:SR K B Z G H C A)(f:j∈Z)(g:A[j]?=Y (Y (.lst b)))(n:b[b.length-1]?=Y d)(k:∀v H',SR K B Z G H' C (A.set j (Y (.lst b.dropLast)))->eR K G d v->Q v H'):WA K "list" WO (j8 j) C H Q:=by
 let(a,e,l,i,c,_):=S.m5 f g;let(v,h,m):=c.get n;rw[c.length]at h;exact⟨_,l,.inl ⟨rfl,e,.of i⟩,a,e,v,rfl,rfl,i,h,k v _ (S.mut f g l c.dropLast) m⟩
def Im(i:Nat)(f:DF):DG:=λA=>(kv i A).bind λb=>(f A).bind λd=>match d with|.lst a=>if b.length+a.length<=eJ then Y (.nx (A.set i (Y (.lst (b++a))))) else M|_=>M
set_option tactic.hygienic true in
def VZ{g:Pos}{f:DF}(h:PE X (.Name x p) (j8 i))(he:PE X e (tP X.K Z f))(u:autoParam (i∈Z) Ū)(n:autoParam (cN (.Name x p) "extend" X.env (eval (.Name x p) X.env)=eval (.Name x p) X.env) Ŭ) (q:autoParam (((eS c (ar (e::[]) X.env)).all (λx=> !x.1)&&(ki c (gr [] X.env)).all (λx=>x.1.isSome)
   && decide ((e::[]).length+([]:List n_).length+(if ([]:List n_).isEmpty then 0 else 1)<30))=true) Ŭ) (m:autoParam ((g.endLine==c.line)=true) Ŭ) (L:autoParam (ar (e::[]) X.env=(Z_,eval e X.env)::ar [] X.env) Ŭ) (l:autoParam ((eS c (ar [] X.env)).any (·.1)=false) Ŭ) (t:autoParam (cY (.Call (.Attribute (.Name x p) "extend" g) [e] [] c) M J.line X.env=fK false) Ŭ) :
  PS X (.Expr (.Call (.Attribute (.Name x p) "extend" g) [e] [] c) J) (jW X.K B I Z Z (Im i f)):=
 (nI (xl g_ PySem.F.slot_list_extend PySem.F.type_list_extend Ks h (eC he gG L) n q m L l) t).imp <|by
  rintro D C H ⟨G,A,o,S,j,k⟩;let(ds,el,j):=aa.1 j;rw[aa]at j;let(d,y,j):=j;cases d<;>simp only at j<;>try (cases j;done)
  split at j
  .cases j;rename_i es U;let w:=gH el;let(a,R,z,e3,_):=S.m5 u w;refine⟨_,z,.inl ⟨rfl,R,.of e3⟩,G,A,_,S.gh,S.lg,y,λv G' H' E r =>?_⟩;let F:=S.ext E;refine af λkk =>?_
   let(a',s,Q,f3,P,_):=F.m5 u w;rw[z]at Q;cases Q;let(b,T,rfl,gb,K):=dA.mp r;refine kk (⟨a,b,s,T,rfl,rfl,f3,F.gh _ _ gb,?_,k _ G' _ (F.mut u w z (P.append K))⟩);rw[<- P.length,<- K.length];exact bX U iJ
  .cases j
def Mi(j:Nat)(b c:DF):DG:=λA=>(c A).bind λd=>(kv j A).bind λa=>(b A).bind λk=>match k with|.int k=>(Dt a.length k).map λn =>.nx (A.set j (Y (.lst (a.set n d))))|_=>M
set_option tactic.hygienic true
def Y5{g:Expr}{F P:DF}(h:PE X (.Name x p) (j8 j))(y:PE X g (tQ X.K Z F))(he:PE X e (tP X.K Z P))(w:autoParam (j∈Z) Ū)(hg:autoParam (∀ {s t:TE},PE X (.Name x p) s->PE X g t->PG X (.Subscript (.Name x p) g b) (XC s t RI)) œ)(hs:autoParam (swapsWithSole [.Subscript (.Name x p) g b] e J.line X.env=fK false) Ŭ)(hw:autoParam (swappedStores [.Subscript (.Name x p) g b] e X.env=fK none) Ŭ):
  PS X (.Assign [.Subscript (.Name x p) g b] e J) (jW X.K B I Z Z (Mi j F P)):=
 (Th he (hg h y) hs hw).imp <|by
  rintro D C H ⟨G,A,o,S,c,k⟩;let(d,ef,c):=aa.1 c;rcases l:kv j A with _|ds
  .simp[l]at c
  rcases f:F A with _|i
  .simp_all
  simp only[l,f,ai]at c;cases i<;>simp only at c<;>try (cases c;done)
  rename_i i;rcases K:Dt ds.length i with _|n
  .simp[K]at c
  simp only[K,cS]at c;cases c;let z:=gH l;refine⟨G,A,d,S.gh,S.lg,ef,λv G' H' E r =>?_⟩;let m:=S.ext E;let(a,vs,L,_):=m.m5 w z;refine⟨_,L,G',A,_,m.gh,m.lg,f,λu G2 H2 U r2 =>?_⟩;let T:=m.ext U;let(a',q,R,f3,Q,_):=T.m5 w z;rw[L]at R;cases R;exact⟨a,q,i,n,rfl,r2.int,f3,by rw[<- Q.length];exact K,k _ G2 _ (T.mut w z L (Q.set n (eR.mono U.gg d r)))⟩
end
section
variable {X:Cx}{f:DF}
def JS.imp(h:JS X r)(k:∀x y H Q,d x y H Q->r x y H Q):JS X d:=λa b c s e H x y v u Q I g f q i=>h a b c s e H x y v u Q I g f (k _ _ _ _ q) i
def PO.imp{e:Option Expr}(h:PO X e t)(k:∀b H Q,c b H Q->t b H Q):PO X e c:=λa s b H Q I q=>h a s b H Q I (k _ _ _ q)
def lP.imp(h:lP X c r)(k:∀b H Q,d b H Q->r b H Q):lP X c d:=λa s e H b f Q I g q=>h a s e H b f Q I g (k _ _ _ q)
def a9.n9{K:aX}{a:List D}{b:List V}(r:a9 K G a b)(h:n9 a i=Y d):∃v,L2.n9 b i=Y v/\eR K G d v:=by
 unfold L2.n9 at h ⊢;rw[<- r.length];let(j,e,h):=aa.1 h;rw[e];exact r.get h
def C4{a b:Type}(g:a->b)(xs:List a)(i:Int):n9 (xs.map g) i=(n9 xs i).map g:=by
 unfold n9;rw[az];cases Dt _ i<;>simp_all
def bW:D->D->Option D
 |.lst a,.int i=>n9 a i|.tup a,.int i=>n9 a i|.j5 b,.int i=>(n9 b i).map .int|.str x,.int i=>if x.length<=eJ then (n9 x.cps.toList i).map λc =>.str ⟨#[c]⟩ else M
 |_,_=>M
def Sn:JS X (rD X.K bW):=by
 refine JS.imp Uv ?_;rintro x y H Q ⟨G,u,t,d,b,h,g,a,q⟩;unfold bW at a;split at a<;>try (cases a)
 .let⟨p,j,f,e,l⟩:=h.lst b;let(v,o,k):=l.n9 a;exact .inl ⟨p,j,_,v,f,g.int,.of e,o,q _ G H (.refl b) k⟩
 .let⟨p,j,f,e,l⟩:=h.tup b;let(v,o,k):=l.n9 a;exact .inr (.inl ⟨p,j,_,v,f,g.int,.of e,o,q _ G H (.refl b) k⟩)
 .let⟨p,f,e⟩:=h.j5 b;let(c,r,a):=aq.1 a;cases a;exact .inl ⟨p,_,_,_,f,g.int,e,by rw[C4,r];solve_by_elim,q _ G H (.refl b) (cJ.mpr rfl)⟩
 .split at a<;>try (cases a)
  let(c,r,a):=aq.1 a;cases a;exact .inr (.inr ⟨_,_,c,h.str,g.int,bX ž iJ,r,q _ G H (.refl b) (gD.mpr rfl)⟩)
def acY(e:PE X a (tQ X.K Z fa))(d:PE X b (tQ X.K Z fb))(c:autoParam (De b) Š):PE X (.Subscript a b w) (tP X.K Z (e2 bW fa fb)):=(rj Sn e d c).imp λf H Q h=>Iv h
abbrev DP:=cE->Option (Option Int)
noncomputable def pN:DP:=λ_=>Y M
noncomputable def pS(f:DF):DP:=λa=>(f a).bind λd=>match d with|.int i=>Y (Y i)|_=>M
def P5{f:DF}{a:cE}(h:pS f a=Y o):∃i,f a=Y (.int i)/\o=Y i:=by
 let(d,e,h):=aa.1 h
 grind
inductive SA (K:aX) (Z:List Nat) (f:DP) (c:St) (H:Hp) (Q:Option Int->Hp->Prop):Prop
 |mk G a o:bI G H->kR K Z G H c a->f a=some o->(∀d b,i9 G H d b->Q o b)->SA K Z f c H Q
def XU:PO X M (SA X.K Z pN):=PY.imp <|by rintro d H Q ⟨G,e,o,a,c,b,k⟩;cases b;exact k G H (.refl a)
def XT(h:PE X e (tQ X.K Z f)):PO X (Y e) (SA X.K Z (pS f)):=(PX h).imp <|by
 rintro r H Q ⟨G,b,o,d,a,g,k⟩;let(i,j,rfl):=P5 g;exact⟨G,b,_,d,a,j,λv p l q c=>⟨i,c.int,k p l q⟩⟩
def Fl{a:Type}(xs:List a)(m n:Option Int):List a:=(xs.drop (HT.Gk xs.length 0 m)).take (HT.Gk xs.length xs.length n-HT.Gk xs.length 0 m)
def a9.cut{K:aX}{b:List D}{a:List V}(r:a9 K G b a)(m n:Option Int):a9 K G (Fl b m n) (HA a m n):=by
 unfold HA;rw[<- r.length];exact(r.drop _).take _
def LC(f:DF)(m n:DP):DL:=λa=>(f a).bind λd=>(m a).bind λl=>(n a).bind λh=>match d with|.lst b=>Y (Fl b l h)|.j5 c=>Y ((Fl c l h).map D.int)|_=>M
variable {m:Option Expr}
set_option tactic.hygienic true in
def abg(K:PE X e (tQ X.K Z f))(J:PO X m (SA X.K Z l))(I:PO X n (SA X.K Z h)):PE X (.Subscript e (.Slice m n M B) w) (tF X.K Z (LC f l h)):=(D9 Pu K J I).imp <|by
 rintro O H Q ⟨G,i,P,L,g,a,k⟩;unfold LC at a;rcases ef:f i with _|d
 .simp_all
 rcases el:l i with _|s
 .simp_all
 rcases eh:h i with _|t
 .simp_all
 simp only[ef,el,eh,ai]at a;refine⟨G,i,d,L,g,ef,λv N T o F=>⟨N,i,s,o.gh,g.ext o,el,λA S j=>⟨A,i,t,j.gh,(g.ext o).ext j,eh,λz R b =>?_⟩⟩⟩;let E:=(o.trans j).trans b;let x:=F.ext (j.trans b);cases d<;>simp only at a<;>try trivial
 .cases a;let(p,C,u,r,D):=x.lst b.gh;exact⟨p,C,u,.of r,λq c=>k q _ z _ (E.trans (i9.lay b.gh c)) (E.hh.free c) (b.gh.free c) bB (D.cut _ _)⟩
 .cases a;rename_i y;let(p,u,r):=x.j5 b.gh;refine⟨p,_,u,r,λq c=>k q _ z _ (E.trans (i9.lay b.gh c)) (E.hh.free c) (b.gh.free c) bB ?_⟩;have:HA (y.map V.int) s t=(Fl y s t).map V.int:=by unfold HA Fl;rw[az,<- List.map_drop,<- Aw]
  simp_all [a9.ints]
def SQ:SlR X (λx m n H Q=>∃z,x=.str z/\z.length<=aY/\Q (.str (oU z m n)) H):=by
 intro a s d H x v f e m n g Q I h r o c ⟨z,y,p,q⟩;subst y;let(t,rfl):=h;refine⟨_,_,F.slot_str_getitem.lookup,typeIs_str _ _ _,?_⟩;have fin:∀(l u:Option _),f=partValue l->e=partValue u->l.map (·.1)=m->u.map (·.1)=n->bP (bG X.prog X.w) X.A (Lp (.str z t) _) (EP X a d Q) X.xe s:=λl u G E D C=>by subst G E D C;exact wpAny_getItem_str_slice (st:=M) r rfl (post_val_or_str ⟨bX (Ls z _ _) p,λJ k=>⟨.str _,H,I.tok _,⟨_,rfl⟩,q⟩⟩)
 cases o with
 |none=>
  cases c with
  |none=>exact fin M M rfl rfl rfl rfl|int j u=>exact fin M (Y (j,u)) rfl rfl rfl rfl
 |int i b=>
  cases c with|none=>exact fin (Y (i,b)) M rfl rfl rfl rfl|int j u=>exact fin (Y (i,b)) (Y (j,u)) rfl rfl rfl rfl
def K3(f:DF)(m n:DP):DF:=λa=>(f a).bind λd=>(m a).bind λl=>(n a).bind λh=>match d with|.str x=>if x.length<=eJ then Y (.str (oU x l h)) else M|_=>M
set_option tactic.hygienic true in
def abf(y:PE X e (tQ X.K Z f))(x:PO X m (SA X.K Z l))(u:PO X n (SA X.K Z h)):PE X (.Subscript e (.Slice m n M B) w) (tP X.K Z (K3 f l h)):=(D9 SQ y x u).imp <|by
 rintro K H Q ⟨G,c,L,z,b,a,k⟩;unfold K3 at a;rcases g:f c with _|d
 .simp_all
 rcases i:l c with _|r
 .simp_all
 rcases o:h c with _|t
 .simp_all
 simp only[g,i,o,ai]at a;refine⟨G,c,d,z,b,g,λv I N j q=>⟨I,c,r,j.gh,b.ext j,i,λF A p=>⟨F,c,t,p.gh,(b.ext j).ext p,o,λD C J =>?_⟩⟩⟩;cases d<;>simp only at a<;>try (cases a)
 split at a
 .cases a;rename_i s;exact⟨_,q.str,bX s iJ,k _ D C ((j.trans p).trans J) (gD.mpr rfl)⟩
 .cases a
noncomputable def aW(o:List D->Option D)(g:DL):DF:=λa=>(g a).bind o
def z8{g:DL}{a:cE}(h:aW o g a=Y d):∃b,g a=Y b/\o b=Y d:=by
 let(x,c,h):=aa.1 h;rw[c];exact⟨x,rfl,h⟩
inductive rC (K:aX) (o:List D->Option D) (e:List V) (H:Hp) (Q:VK):Prop
 |mk G a d:bI G H->JP K G H a e->o a=some d->(∀v c b,i9 G H c b->eR K c d v->Q v b)->rC K o e H Q
def WN{K:aX}{g:DL}{b:St}(h:tP K Z (aW o g) b H Q):ZC (rC K o) (VH K Z g) b H Q:=by
 let(G,f,d,l,a,q,k):=h;let(c,p,r):=z8 q;exact⟨G,f,c,l,a,p,λy u z e j=>⟨u,c,d,e.gh,j,r,λv t s x i=>k v t s (e.trans x) i⟩⟩
def JP.one{K:aX}{a:List V}(r:JP K G H [d] a):∃v,a=[v]/\kQ K G H d v:=by
 cases r with|cons r t=>cases t;simp_all
def fY:List D->Option D
 |[.lst a]=>Y (.int a.length)|[.tup a]=>Y (.int a.length)|[.j5 a]=>Y (.int a.length)|[.str x]=>if x.length<=eJ then Y (.int x.length) else M
 |_=>M
set_option tactic.hygienic true in
def Vg:lP X (.builtin "len") (rC X.K fY):=by
 refine lP.imp (qR.or C2) ?_;rintro i H Q ⟨G,j,d,c,r,a,q⟩;unfold fY at a;split at a
 .cases a;let(v,rfl,b):=r.one;let(p,f,rfl,e,g):=b.lst c;refine .inl ⟨p,f,rfl,.inl (.of e),?_⟩;rw[<- g.length];exact q _ G H (.refl c) (cJ.mpr rfl)
 .cases a;let(v,rfl,b):=r.one;let(p,f,rfl,e,g):=b.tup c;refine .inl ⟨p,f,rfl,.inr (.of e),?_⟩;rw[<- g.length];exact q _ G H (.refl c) (cJ.mpr rfl)
 .cases a;let(v,rfl,b):=r.one;let(p,rfl,e):=b.j5 c;refine .inl ⟨p,_,rfl,.inl e,?_⟩;rw[az];exact q _ G H (.refl c) (cJ.mpr rfl)
 .split at a
  .cases a;rename_i h;let(v,rfl,b):=r.one;exact .inr ⟨_,by rw[b.str],bX h iJ,q _ G H (.refl c) (cJ.mpr rfl)⟩
  .cases a
 .cases a
def vA(l:lP X (.builtin c) (rC X.K o))(j:Gl X x)(i:X.mg x=M)(d:i4 x=Y (.builtin c))(q:PA X (e::A) (VH X.K Z g))(f:autoParam (x ≠ "__name__") Ū)(b:autoParam ((x==("__debug__" : aJ))=false) Ū)(k:autoParam (ar (e::A) X.env=(Z_,eval e X.env)::ar A X.env) Ŭ)(a:autoParam ((eS w (ar A X.env)).any (·.1)=false) Ŭ):PE X (.Call (.Name x p) (e::A) [] w) (tP X.K Z (aW o g)):=
 (y9 l j i d q f b k a).imp λr H Q h=>WN h
def Ot(c:Gl X "len")(b:X.mg "len" = M)(h:PE X e (tQ X.K Z f))(a:autoParam (ar (e::[]) X.env=(Z_,eval e X.env)::ar [] X.env) Ŭ):PE X (.Call (.Name "len" p) [e] [] w) (tP X.K Z (aW fY (aC f aN))):=
 vA Vg c b PySem.boot_len (sO h yr a) ſ ſ a rfl
noncomputable def isT(T:String):D->Bool
 |.gA=>T == "NoneType"|.bl _=>T == "bool" || T == "int"
 |.int _=>T == "int"|.str _=>T == "str"|.lst _=>T == "list"|.j5 _=>T == "list"|.tup _=>T == "tuple"|.ins _ _ _=>Z_|.iW _ _=>T == "dict"|.obj _ _=>Z_|.gL _ _=>Z_
def eIs(T:String)(f:DF):DF:=λa=>(f a).bind λd=>match d with|.j5 _=>M|.ins _ _ _=>M|.iW _ _=>M|.obj _ _=>M|.gL _ _=>M|d=>Y (.bl (isT T d))
noncomputable def zS(f:DF):DL:=λb=>(f b).bind λd=>match d with|.lst a=>Y a|.tup a=>Y a|.j5 c=>Y (c.map D.int)|_=>M
def Y'(z:Gl X "list")(y:X.mg "list" = M)(h:PE X e (tQ X.K Z f))(x:autoParam (i4 "list" = Y (.type "list")) Œ)(t:autoParam (ar (e::[]) X.env=(Z_,eval e X.env)::ar [] X.env) Ŭ):PE X (.Call (.Name "list" p) [e] [] w) (tF X.K Z (zS f)):=
 (Kk C0 z y x (eC h gG t) ſ (by rfl) t rfl).imp <|by
  rintro E H Q ⟨G,u,F,C,r,g,k⟩;let(c,D,g):=aa.1 g;refine⟨G,u,c,C,r,D,λv s I b o =>?_⟩;cases c<;>simp at g<;>try (done)
  .cases g;let(a,j,rfl,i,l):=o.lst b.gh;exact⟨a,j,rfl,.inl (.of i),λq d=>k q _ s _ (b.trans (i9.lay b.gh d)) (b.hh.free d) (b.gh.free d) bB l⟩
  .cases g;let(a,j,rfl,i,l):=o.tup b.gh;exact⟨a,j,rfl,.inr (.of i),λq d=>k q _ s _ (b.trans (i9.lay b.gh d)) (b.hh.free d) (b.gh.free d) bB l⟩
  .cases g;let(a,rfl,i):=o.j5 b.gh;exact⟨a,_,rfl,.inl i,λq d=>k q _ s _ (b.trans (i9.lay b.gh d)) (b.hh.free d) (b.gh.free d) bB (a9.ints _)⟩
def ir(f:DF):DT:=λc=>(f c).bind λd=>match d with
 |.gA=>Y Z_|.bl b=>Y b|.int i=>Y (i != 0)|.str y=>if y.length<=eJ then Y ((y.length:Int) != 0) else M
 |.lst a=>Y (!a.isEmpty)|.tup a=>Y (!a.isEmpty)|.j5 a=>Y (!a.isEmpty)|.ins _ _ _=>M|.iW _ _=>M|.obj _ _=>M|.gL _ _=>M
def a9.empty{K:aX}{b:List D}{a:List V}(r:a9 K G b a):b.isEmpty=a.isEmpty:=by
 have:=r.length;cases b<;>cases a<;>simp at this ⊢
set_option tactic.hygienic true
def XO(h:PE X e (tQ X.K Z f))(C:autoParam (∀g,isTrue e X.env g=(do let v <- g;tV e.pos;pP [v] (truthy v))) ũ):PT X e (rV X.K Z (ir f)):=(Mr h C).imp <|by
 rintro I H Q ⟨G,s,b,D,q,d,k⟩;unfold ir at d;rw[aa]at d;let(c,r,d):=d;refine⟨G,s,c,D,q,r,λv F E l i=>⟨b,?_,k F E l⟩⟩;cases c with
 |gA=>cases d;rw[i.gA];solve_by_elim|bl b=>cases d;rw[i.bl];solve_by_elim|int b=>cases d;rw[i.int];solve_by_elim|str y=>
  rw[i.str];let d:(if y.length<=eJ then Y _ else M)=Y b:=d;split at d
  .cases d;rename_i z;exact⟨bX z iJ,rfl⟩
  .cases d
 |lst t=>cases d;let(a,o,rfl,j,p):=i.lst l.gh;exact .inl ⟨o,.of j,by rw[p.empty]⟩
 |tup t=>cases d;let(a,o,rfl,j,p):=i.tup l.gh;exact .inr (.inl ⟨o,.of j,by rw[p.empty]⟩)
 |j5 t=>cases d;let(a,rfl,j):=i.j5 l.gh;exact .inl ⟨_,j,ż⟩
 |_=>cases d
end
structure HU(K:aX)(G0:Hp)(J:It)(ds:List D):Prop where
 go:∀i H,bI G0 H->i<ds.length->J.go i H
 stop:∀i H,bI G0 H->ds.length<=i->J.stop i H
 JY:∀(i:Nat) (H:Hp) (x:V) (H' G:Hp) (d:D),bI G0 G->bI G H->J.JY i H x H'->ds[i]?=some d->∃G',i9 G H G' H'/\eR K G' d x
inductive BY (K:aX) (Z:List Nat) (f:DL) (l:St) (H:Hp) (R:It->Hp->Prop):Prop
 |mk G ρ a:bI G H->kR K Z G H l ρ->f ρ=some a->(∀J c b,i9 G H c b->HU K c J a->R J b)->BY K Z f l H R
section
variable {X:Cx}{f:DF}
def PI.imp{t:TI}(h:PI X L O t)(k:∀l H R,b l H R->t l H R):PI X L O b:=λa s l H R I q=>h a s l H R I (k _ _ _ q)
noncomputable def iL(f:DF):DL:=λρ=>(f ρ).bind λd=>match d with|.lst a=>Y a|_=>M
def Cv{f:DF}(h:iL f ρ=Y a):f ρ=Y (.lst a):=by
 let(d,e,h):=aa.1 h;rw[e];cases d<;>first|(cases h;rfl)|cases h
def KD{K:aX}(g:G a=Y (.lst b))(r:a9 K G n b):HU K G (V8 K a) n:=by
 refine⟨λi H s f =>?_,λi H s f=>⟨b,.of (s _ _ g),by rw[<- r.length];exact f⟩,λi H x B A d j h ⟨e,y⟩ z =>?_⟩
 .have c:i<b.length:=by rw[<- r.length];exact f
  exact⟨b,b[i],.of (s _ _ g),by simp[c]⟩
 .subst e;let(v,k,o):=r.get z;rw[y b (.of (h _ _ (j _ _ g)))]at k;cases k;exact⟨A,.refl h,eR.mono j d o⟩
def mI(h:PE X e (tP X.K Z f)):PI X L e (BY X.K Z (iL f)):=(IC h).imp <|by
 rintro l H R ⟨G,ρ,p,n,b,o,k⟩;refine⟨G,ρ,_,n,b,Cv o,λv A w d j =>?_⟩;let(a,g,rfl,c,i):=dA.mp j;exact⟨a,rfl,⟨g,.of (d.gh _ _ c)⟩,k _ A w d (KD c i)⟩
noncomputable def lZ(a:Int)(n:Nat):List D:=(cL n).map λ(k:Nat) =>.int (a+(k:Int))
def uz{K:aX}(c:Int)(n:Nat):HU K G (Yn c n) (lZ c n):=by
 have f:(lZ c n).length=n:=by simp[lZ]
 refine⟨λi H s a=>by rw[f]at a;exact a,λi H s a=>by rw[f]at a;exact a,λi H x p A d k g ⟨e,y⟩ b =>?_⟩;subst e;refine⟨A,.refl g,?_⟩;unfold lZ at b;rw[aR]at b;let(j,q,b):=aq.1 b;cases b;have:j=i:=by let(o,h):=ah.mp q;simpa using h.symm
 subst this
 exact Ÿ
def Ft(f:DF):DL:=λρ=>(f ρ).bind λd=>match d with|.int j=>if -(2 ^ 62)<=j/\j<2 ^ 62 then Y (lZ 0 j.toNat) else M|_=>M
set_option tactic.hygienic true in
def V1(r:Gl X "range")(o:X.mg "range" = M)(h:PE X e (tQ X.K Z f))(n:autoParam (ar [e] X.env=(Z_,eval e X.env)::ar [] X.env) Ŭ)(b:autoParam (ar [e] X.env=[(Z_,eval e X.env)]) Ŭ):PI X L (.Call (.Name "range" p) [e] [] u) (BY X.K Z (Ft f)):=
 (Be r o (eC h gG n) b).imp <|by
  rintro l H R ⟨G,ρ,z,s,c,a,k⟩;let(d,x,a):=aa.1 a;cases d<;>simp only[ai]at a<;>try (cases a)
  split at a
  .cases a;rename_i j g;exact⟨G,ρ,_,s,c,x,λv A w y i=>⟨j,by rw[i.int],g.1,g.2,k _ A w y (uz 0 _)⟩⟩
  .cases a
def RW(f g:DF):DL:=λρ=>(f ρ).bind λd=>(g ρ).bind λc=>match d,c with|.int i,.int j=>if -(2 ^ 62)<=i/\i<2 ^ 62 /\ -(2 ^ 62)<=j/\j<2 ^ 62 then Y (lZ i (j-i).toNat) else M|_,_=>M
set_option tactic.hygienic true
def K6{g:DF}(N:Gl X "range")(m:X.mg "range" = M)(h:PE X e (tQ X.K Z f))(P:PE X n (tQ X.K Z g))(K:autoParam (ar [e,n] X.env=(Z_,eval e X.env)::ar [n] X.env) Ŭ)(z:autoParam (ar [n] X.env=(Z_,eval n X.env)::ar [] X.env) Ŭ)(y:autoParam (ar [e,n] X.env=[(Z_,eval e X.env),(Z_,eval n X.env)]) Ŭ)(x:autoParam (ar [n] X.env=[(Z_,eval n X.env)]) Ŭ):PI X L (.Call (.Name "range" p) [e,n] [] u) (BY X.K Z (RW f g)):=
 (Kj N m (eC h (eC P gG z) K) y x).imp <|by
  rintro l H R ⟨G,ρ,ds,Q,o,b,k⟩;unfold RW at b;rcases s:f ρ with _|d
  .simp_all
  rcases B:g ρ with _|c
  .simp_all
  simp only[s,B,ai]at b;split at b<;>try (cases b)
  split at b
  .cases b;rename_i i j r;exact⟨G,ρ,_,Q,o,s,λv A w C F=>⟨A,ρ,_,C.gh,o.ext C,B,λa G2 S E2 D=>⟨i,j,by rw[F.int,D.int],Ÿ,k _ G2 S (C.trans E2) (uz i _)⟩⟩⟩
  .cases b
end
abbrev AR:=D->cE->Option cE
inductive F6 (K:aX) (B:Bs) (Z:List Nat) (τ:AR) (v:V) (l:St) (H:Hp) (Q:St->Hp->Prop):Prop
 |mk G ρ d b:SR K B Z G H l ρ->eR K G d v->τ d ρ=some b->(∀a e c,SR K B Z e c a b->Q a c)->F6 K B Z τ v l H Q
inductive VG (K:aX) (Z:List Nat) (τ:AR) (v:V) (l:St) (H:Hp) (Q:St->Hp->Prop):Prop
 |mk G ρ d b:bI G H->kR K Z G H l ρ->eR K G d v->τ d ρ=some b->(∀a e c,i9 G H e c->kR K Z e c a b->Q a c)->VG K Z τ v l H Q
section
variable {X:Cx}
def PG.imp{L:Expr}{t:TG}(h:PG X L t)(k:∀v l H Q,b v l H Q->t v l H Q):PG X L b:=λa s l H v u Q I r q=>h a s l H v u Q I r (k _ _ _ _ q)
noncomputable def gN(i:Nat):AR:=λd ρ=>Y (ρ.set i (Y d))
def Y_{i:Nat}(h:PG X L (qf i))(b:autoParam (i∉Z) Ū):PG X L (F6 X.K B Z (gN i)):=h.imp <|by
 rintro v l H Q ⟨G,ρ,d,a,S,r,c,k⟩;cases c;exact k _ G H (S.wg b r)
def kR.set{K:aX}{i:Nat}{d:D}{v:V}(h:kR K Z G H l ρ)(s:i∉Z)(r:eR K G d v):kR K Z G H (l.set i (Y v)) (ρ.set i (Y d)):=
 ⟨by simp[h.len],λj c e=>by
  rcases iD e with⟨rfl,simp,C⟩|⟨b,e⟩
  .exact⟨v,qY (by rw[h.len];exact C),Ż⟩
  .obtain _:=h.get j c e
   simp_all,λj k p g N e=>by
  have a:∀j,j∈Z->i≠j:=λj F e=>s (e ▸ F)
  rw[au (a j g)]at e;let(f,m,z,y,B,w,x,o,n,Q,P):=h.gL j k p g N e;exact⟨f,m,z,y,B,w,x,Ż,Ż,Ż,P⟩⟩
noncomputable def Du(i j:Nat):AR:=λd ρ=>match d with|.tup [a,b]=>Y ((ρ.set i (Y a)).set j (Y b))|_=>M
def NN(h:Du i j d ρ=Y c):∃a b,d=.tup [a,b]/\c=(ρ.set i (Y a)).set j (Y b):=by
 unfold Du at h;split at h<;>lia
def PH{K:aX}{v:V}(r:eR K G (.tup [a,b]) v):∃p x y,v=.ref p/\G p=Y (.tup [x,y])/\eR K G a x/\eR K G b y:=by
 let(p,h,e,g,f):=fy.mp r;let(x,j,rfl,d,t):=bJ.mp f;let(y,i,rfl,c,t):=bJ.mp t;rw[dO.mp t]at g;exact⟨p,x,y,e,g,d,c⟩
def abc{i:Nat}(h:PG X L (UN X.K 2 (Bt (qf i) (Bt (qf j) UO))))(o:autoParam (i∉Z) Ū)(n:autoParam (j∉Z) Ū):PG X L (F6 X.K B Z (Du i j)):=h.imp <|by
 rintro v l H Q ⟨G,ρ,d,c,S,r,s,k⟩;let(a,b,rfl,rfl):=NN s;let(p,x,y,rfl,g,f,e):=PH r;exact⟨p,_,rfl,.of (S.gh _ _ g),rfl,x,_,rfl,y,_,rfl,rfl,k _ G H ((S.wg o f).wg n e)⟩
end
noncomputable def ia(τ:AR)(g:DG):List D->cE->Option DO
 |[],ρ=>Y (.nx ρ)| d::b,ρ=>(τ d ρ).bind λρ1=>(g ρ1).bind λo=>match o with
  |.nx a=>ia τ g b a|.ct a=>ia τ g b a|.bk a=>Y (.nx a)|.rt d=>Y (.rt d)|.ro d=>Y (.ro d)|.rm d ρ=>Y (.rm d ρ)|.rf i ρ=>Y (.rf i ρ)|.ex c n=>Y (.ex c n)
def iQ(f:DL)(τ:AR)(g:DG):DG:=λρ=>(f ρ).bind λa=>ia τ g a ρ
section
variable {K:aX}
def tT.base{F:Nat->List aD}(W:tT K B Z G H l ρ F)(h:a.2=B.2):tT K a Z G H l ρ F:=⟨W.it,λi d b e=>by rw[h];exact W.ok i d b e,W.ap⟩
def SR.rebase(a:SR K B Z A w q ρ1)(S:SR K B Z G H l ρ)(s:bI A G):SR K ⟨A,B.2,B.3,B.4⟩ Z G H l ρ:=
 ⟨S.gh,s,S.h0,λb o e=>by
  rcases S.fr b o e with z|z
  .exact .inl (a.g0 b o z)
  .exact .inr z,S.env,by let(F,W):=S.ow;exact⟨F,W.base rfl⟩,S.len,S.pin,S.gL⟩
def SR.BS(c:SR K B Z A w q ρ1)(S:SR K ⟨A,B.2,B.3,B.4⟩ a G H l ρ):SR K B a G H l ρ:=
 ⟨S.gh,c.g0.trans S.g0,S.h0,λb o e=>by
  rcases S.fr b o e with z|z
  .exact c.fr b o z
  .exact .inr z,S.env,by let(F,W):=S.ow;exact⟨F,W.base rfl⟩,S.len,S.pin,S.gL⟩
def SR.yA(a:SR K B Z A w q ρ1)(S:SR K ⟨A,B.2,B.3,B.4⟩ Z G H l ρ):SR K B Z G H l ρ:=a.BS S
def i9.yA(a:SR K B Z A w q ρ1)(E:i9 A B.2 G H):i9 B.1 B.2 G H:=
 ⟨E.hh,a.g0.trans E.gg,E.gh,λb o e=>by
  rcases E.fr b o e with z|z
  .exact a.fr b o z
  .exact .inr z⟩
end
section
variable {X:Cx}{f:DL}
inductive Yz (K:aX) (B:Bs) (Z:List Nat) (f:cE->Option (List D×cE)) (l:St) (H:Hp) (R:It->Hp->Prop):Prop
 |mk G ρ b a:SR K B Z G H l ρ->f ρ=some (b,a)->(∀J d c,SR K B Z d c l a->HU K d J b->R J c)->Yz K B Z f l H R
def Bb(f:cE->Option (List D×cE))(τ:AR)(g:DG):DG:=λρ=>(f ρ).bind λp=>ia τ g p.1 p.2
structure ItW(K:aX)(G0 B0:Hp)(J:It)(ds:List D):Prop where
 go:∀i H,bI G0 H->bI B0 H->i<ds.length->J.go i H
 stop:∀i H,bI G0 H->bI B0 H->ds.length<=i->J.stop i H
 JY:∀(i:Nat) (H:Hp) (x:V) (H' G:Hp) (d:D),bI G0 G->bI B0 H->bI G H->J.JY i H x H'->ds[i]?=some d->∃G',i9 G H G' H'/\eR K G' d x
inductive tWI (K:aX) (B:Bs) (Z:List Nat) (f:cE->Option (List D×cE)) (l:St) (H:Hp) (R:It->Hp->Prop):Prop
 |mk G ρ b a:SR K B Z G H l ρ->f ρ=some (b,a)->(∀J d c,SR K B Z d c l a->ItW K d B.2 J b->R J c)->tWI K B Z f l H R
abbrev FI(X:Cx)(Q:List (aD×Obj))(tn:Nat->dY->Prop)(fp:List aD)(R:List D)(C:Bs)(Z:List Nat)(τ:AR)(g:DG)(o:DO)(n:Nat)(s:aw):Prop:=∃i σ' H' G' ρ',Inv X Q σ' H' s/\tn i s.heap/\(∀b∈fp,H' b=M)/\n=R.length-i/\i<=R.length/\SR X.K C Z G' H' σ' ρ'/\ia τ g (R.drop i) ρ'=Y o
def QJ{f:cE->Option (List D×cE)}(hp:ub (bG X.prog X.w) X.A X.env X.xe)(hc:X.calm=Z')(hi:PI X L O (tWI X.K B Z f))(hg:∀C:Bs,C.3=B.3->PG X L (F6 X.K C Z τ))(hb:∀C:Bs,C.3=B.3->C.2=B.2/\C.4=B.4->qU X I (jW X.K C Z Z Z g))(hs:autoParam (∀x,cM O X.env x=fK x) ũ):PS X (.For L O I [] u) (jW X.K B t Z Z (Bb f τ g)):=by
 intro Q s l H D' j ⟨G,ρ,o,S,eq,k⟩;obtain⟨⟨R,ρ0⟩,ef,eq⟩:=aa.1 eq;let eq:=eq;refine wpAny_For (g8 (hi Q s l H (λJ w=>∃A,SR X.K B Z A w l ρ0/\ItW X.K A B.2 J R) j ⟨G,ρ,R,ρ0,S,ef,λJ A w S1 ok=>⟨A,S1,ok⟩⟩) λv s1 h1=>g8 h1 λitv s2 h2 =>?_) hs;let(it,fp,tn,J,H2,e,I2,T,SN,f2,A,S1,ok):=h2;subst e;have F_:∀ {H':Hp},(∀b∈fp,H' b=M)->∀b∈fp,Af X Q H' b:=λhn b hb=>⟨hn b hb,(f2 b hb).2⟩
 refine codeAny_forLoop_any (FI X Q tn fp R ⟨A,B.2,B.3,B.4⟩ Z τ g o) ?_ R.length
  ⟨0,l,H2,A,ρ0,I2,SN,λb hb=>(f2 b hb).1,rfl,gz _,S1.rebase S1 (bI.refl _),eq⟩
 rintro n s3 ⟨i,σ3,H3,G3,ρ3,I3,YC,XE,rfl,hil,S3,F⟩;let WC:=S3.g0.trans S3.gh;by_cases Nr:i<R.length
 .rw[(gF Nr)]at F;unfold ia at F;let(P,et,F):=aa.1 F;let(o4,eg,F):=aa.1 F;refine fH hp (g8 (T.item X rfl rfl rfl hc i Q s3 σ3 H3 X.xe I3 (F_ XE) YC (ok.go i H3 WC S3.h0 Nr)) ?_);rintro r s4 ⟨h,hr,h4⟩;subst hr;refine fH hp (g8 h4 ?_);rintro _ s5 ⟨x,H5,I5,r5,y5,VM,VW⟩;let I5':=I5.pinned (F_ VW) (T.obj _ _ VM);let(G5,E5,ZV):=ok.JY i H3 x H5 G3 R[i] S3.g0 S3.h0 S3.gh y5 (ao Nr);refine fH hp (g8 (hg ⟨A,B.2,B.3,B.4⟩ rfl _ s5 σ3 H5 x h (λN H6=>∃G6,SR X.K ⟨A,B.2,B.3,B.4⟩ Z G6 H6 N P) I5' r5 ⟨G5,ρ3,R[i],P,S3.ext E5,ZV,et,λN G6 H6 S6=>⟨G6,S6⟩⟩) ?_);rintro _ s6 ⟨N,H6,I6,G6,S6⟩;have again:∀ {p:St}{K q:Hp}{ρ7:cE}{s7:aw},Inv X (Q++uo fp s5.heap) p K s7->SR X.K ⟨A,B.2,B.3,B.4⟩ Z q K p ρ7->ia τ g (R.drop (i+1)) ρ7=Y o ->
    ∃m,m<R.length-i/\FI X Q tn fp R ⟨A,B.2,B.3,B.4⟩ Z τ g o m s7:=fun {p K q ρ7 s7} I7 S7 e7=>by
   refine⟨R.length-(i+1),ž,i+1,p,K,q,ρ7,I7.og,T.keep _ _ _ VM λb hb o e=>(I7.pin (b,o) (aG _ (aG _ (kN hb e)))).1,λb hb =>?_,rfl,Nr,S7,e7⟩;let(o,e,d):=T.obj _ _ VM b hb;exact(I7.pin (b,o) (aG _ (aG _ (kN hb e)))).2.1
  refine fH hp (g8 (hb ⟨A,B.2,B.3,B.4⟩ rfl ⟨rfl,rfl⟩ _ s6 N H6 { nx:=λp K=>∃q r,SR X.K ⟨A,B.2,B.3,B.4⟩ Z q K p r/\ia τ g (R.drop (i+1)) r=Y o,ct:=λp K=>∃q r,SR X.K ⟨A,B.2,B.3,B.4⟩ Z q K p r/\ia τ g (R.drop (i+1)) r=Y o,bk:=D'.nx,rt:=D'.rt } I6 ⟨G6,P,o4,S6,eg,?_⟩) λfl s7 y =>?_)
  .cases o4 with
   |nx r=>exact λp q K S7=>⟨q,r,S7,F⟩
   |ct r=>exact λp q K S7=>⟨q,r,S7,F⟩
   |bk r=>cases F;exact λp q K S7=>k _ q K (S1.yA S7)
   |rt d=>cases F;exact λv q K E7 r7=>k v q K (i9.yA S1 E7) r7
   |ro d=>cases F;exact λa vs q K E7 h1 h2 h3 r7=>k a vs q K (i9.yA S1 E7) h1 h2 h3 r7
   |rm d r=>cases F;exact λv p q K ⟨o7,S7⟩ r7=>k v p q K ⟨o7,S1.BS S7⟩ r7
   |rf j r=>cases F;exact λv p q K ⟨o7,ho7,S7⟩ r7=>k v p q K ⟨o7,ho7,S1.BS S7⟩ r7
   |ex c n=>cases F;exact k
  cases fl with
  |ret v=>let⟨x7,p,K,I7,r7,y⟩:=y;exact⟨x7,p,K,I7.og,r7,y⟩
  |brk=>let⟨p,K,I7,y⟩:=y;exact⟨p,K,I7.og,y⟩
  |_=>let⟨p,K,I7,q,r,S7,F⟩:=y;exact again I7 S7 F
 .let e:i=R.length:=by omega
  subst e;rw[o5]at F;cases F;refine fH hp (g8 (T.done X rfl rfl rfl hc _ Q s3 σ3 H3 X.xe I3 (F_ XE) YC (ok.stop _ H3 WC S3.h0 (aI _))) ?_);rintro r s4 ⟨hr,I4⟩;subst hr;exact sX ⟨σ3,H3,I4,k σ3 G3 H3 (S1.yA S3)⟩
def ES{f:cE->Option (List D×cE)}(hp:ub (bG X.prog X.w) X.A X.env X.xe)(hc:X.calm=Z')(hi:PI X L O (Yz X.K B Z f))(hg:∀C:Bs,C.3=B.3->PG X L (F6 X.K C Z τ))(hb:∀C:Bs,C.3=B.3->C.2=B.2/\C.4=B.4->qU X I (jW X.K C Z Z Z g))(hs:autoParam (∀x,cM O X.env x=fK x) ũ):PS X (.For L O I [] u) (jW X.K B t Z Z (Bb f τ g)):=QJ hp hc (hi.imp λl H R ⟨G,ρ,b,a,S,e,k⟩=>⟨G,ρ,b,a,S,e,λJ d c s o=>k J d c s ⟨λi H a h=>o.go i H a,λi H a h=>o.stop i H a,λi H x H' G d a h=>o.JY i H x H' G d a⟩⟩) hg hb hs
def QI(i:ub (bG X.prog X.w) X.A X.env X.xe)(o:X.calm=Z')(j:PI X L O (BY X.K Z f))(n:∀C:Bs,C.3=B.3->PG X L (F6 X.K C Z τ))(p:∀C:Bs,C.3=B.3->C.2=B.2/\C.4=B.4->qU X I (jW X.K C Z Z Z g))(h:autoParam (∀x,cM O X.env x=fK x) ũ):PS X (.For L O I [] u) (jW X.K B t Z Z (iQ f τ g)):=by
 let e:iQ f τ g=Bb _ τ g:=funext λρ=>by show (f ρ).bind _=(Lu (λa=>(a,ρ)) (f ρ)).bind _;cases f ρ<;>rfl
 rw[e];refine ES i o (j.imp ?_) n p h;rintro l H R ⟨G,ρ,a,c,S,b,k⟩;let(s,r,b):=aq.1 b;cases b;exact⟨G,ρ,a,S.gh,S.lg,r,λJ A w E d=>k J A w (S.ext E) d⟩
def QK{f:cE->Option (List D×cE)}(b:ub (bG X.prog X.w) X.A X.env X.xe)(e:X.calm=Z')(c:PI X L O (Yz X.K B Z f))(d:∀C:Bs,C.3=B.3->PG X L (F6 X.K C Z τ))(i:∀C:Bs,C.3=B.3->qU X I (jW X.K C Z Z Z g))(a:autoParam (∀x,cM O X.env x=fK x) ũ):PS X (.For L O I [] u) (jW X.K B t Z Z (Bb f τ g)):=ES b e c d (λC h j=>i C h) a
def CQ(b:ub (bG X.prog X.w) X.A X.env X.xe)(e:X.calm=Z')(c:PI X L O (BY X.K Z f))(d:∀C:Bs,C.3=B.3->PG X L (F6 X.K C Z τ))(i:∀C:Bs,C.3=B.3->qU X I (jW X.K C Z Z Z g))(a:autoParam (∀x,cM O X.env x=fK x) ũ):PS X (.For L O I [] u) (jW X.K B t Z Z (iQ f τ g)):=QI b e c d (λC h j=>i C h) a
noncomputable def l'(f:DT)(g:DG):Nat->cE->Option DO
 |0,_=>M| n+1,ρ=>(f ρ).bind λb=>if b=Z' then (g ρ).bind λo=>match o with
   |.nx a=>l' f g n a|.ct a=>l' f g n a|.bk a=>Y (.nx a)|.rt d=>Y (.rt d)|.ro d=>Y (.ro d)|.rm d ρ=>Y (.rm d ρ)|.rf i ρ=>Y (.rf i ρ)|.ex c n=>Y (.ex c n) else Y (.nx ρ)
def wj(n:Nat)(f:DT)(g:DG):DG:=λρ=>l' f g n ρ
def ER{c:Expr}{f:DT}(n:Nat)(C:ub (bG X.prog X.w) X.A X.env X.xe)(D:PT X c (rV X.K Z f))(F:qU X I (jW X.K B Z Z Z g)):PS X (.While c I [] u) (jW X.K B t Z Z (wj n f g)):=(Ms C D F).imp <|by
 rintro R l H ⟨G,ρ,o,S,K,k⟩;refine⟨λm l H=>∃G ρ,SR X.K B Z G H l ρ/\l' f g m ρ=Y o,⟨n,G,ρ,S,K⟩,?_⟩;rintro m q w ⟨A,ρ1,v,e⟩;cases m with
 |zero=>cases e|succ m=>
  unfold l' at e;let(b,N,e):=aa.1 e;refine⟨A,ρ1,b,v.gh,v.lg,N,λz P Q =>?_⟩;let y:=v.ext Q;cases b with
  |false=>cases e;solve_by_elim|true=>
   refine G7 ⟨_,λh p a=>⟨m,oY m,a⟩,?_⟩;let(x,d,e):=aa.1 e;refine⟨z,ρ1,x,y,d,?_⟩;cases x with
   |nx i=>exact λh j p s=>⟨j,i,s,e⟩
   |ct i=>exact λh j p s=>⟨j,i,s,e⟩
   |bk i=>cases e;solve_by_elim|_=>cases e;exact k
end
noncomputable def nG(src:List (Option Nat))(ρ:cE):cE:=src.map λo=>match o with|some j=>(ρ[j]?).getD M|none=>M
noncomputable def rA(ρ:cE)(τ:AR)(U:DT)(fe:DF):List D->Option (List D)
 |[]=>Y []|d::a=>(τ d ρ).bind λρ1=>(U ρ1).bind λb=>if b=Z' then (fe ρ1).bind λx=>(rA ρ τ U fe a).map (x :: ·) else rA ρ τ U fe a
def mx(f:DL)(src:List (Option Nat))(τ:AR)(U:DT)(fe:DF):DL:=λρ=>(f ρ).bind λa=>if a.length<=eJ then rA (nG src ρ) τ U fe a else M
noncomputable def gU:DT:=λ_=>Y Z'
def jO(Z Ź:List Nat)(src:List (Option Nat)):Bool:=(Ź.all λj=> !Ź.contains (GL j))&&(cL src.length).all λi=>match src[i]? with|some (Y j)=>decide (i∈Ź)==decide (j∈Z)|_=>Z'
def kM(h:jO Z Ź src=Z')(e:src[i]?=Y (Y j)):(i∈Ź↔j∈Z):=by
 unfold jO at h;rw[aA]at h;let h:=h.2;rw[fX]at h;have:=h i (by simpa using (ah.mp e).1);rw[e]at this;simpa using this
def Kn(h:jO Z Ź src=Z')(b:j∈Ź)(a:GL j∈Ź):False:=by
 unfold jO at h;rw[aA,fX]at h;have:=h.1 j b;simp[a]at this
def kR.src{K:aX}{Z Ź:List Nat}{src:List (Option Nat)}(h:kR K Z G H l ρ)(f:jO Z Ź src=Z'):kR K Ź G H (pE src l) (nG src ρ):=by
 refine⟨by simp[pE,nG],λi d e =>?_,λj r p k g a=>(Kn f k g).elim⟩;unfold nG at e;rw[aR]at e;let(o,c,e):=aq.1 e;cases o with
 |none=>cases e|some j=>
  let e:=by simpa using e
  let s:ρ[j]?=Y (Y d):=by rcases q:ρ[j]? with _|z<;>simp_all
  let(v,_):=h.get j d s;refine⟨v,?_,?_⟩
  .simp_all [pE,aR]
  .have:=kM f c
   simp_all
section
variable {X:Cx}{m:Expr}{f:DL}
def Fy.imp{t:TT}(h:Fy X E t)(k:∀l H Q,b l H Q->t l H Q):Fy X E b:=λa s l H Q I q=>h a s l H Q I (k _ _ _ q)
def nP:Fy X [] (rV X.K Z gU):=PU.imp <|by rintro l H Q ⟨G,ρ,b,a,d,c,k⟩;cases c;exact k G H (.refl a)
def vy(h:PT X c (rV X.K Z U)):Fy X [c] (rV X.K Z U):=PR h
abbrev LI(K:aX)(A w:Hp)(h:List D)(e:cE)(τ:AR)(U:DT)(fe:DF)(rs:List D)(i m:Nat)(ys:List V)(H:Hp):Prop:=m=h.length-i/\i<=h.length/\ys.length<=i/\∃R r c,i9 A w R H/\a9 K R r ys/\rA e τ U fe (h.drop i)=Y c/\r++c=rs
set_option tactic.hygienic true in
def Na{K:aX}(ho:jO Z Ź src=Z')(hg:∀v l H Q,VG K Ź τ v l H Q->g v l H Q)(q:tF K Z (mx f src τ U fe) l H Q):VL (BY K Z f) src g (rV K Ź U) (tP K Ź fe) l H Q:=by
 let(G,ρ,rs,gh,P,s,k):=q;unfold mx at s;let(h,ef,s):=aa.1 s;split at s
 .rename_i hz;refine⟨G,ρ,h,gh,P,ef,λJ A w E1 ok =>?_⟩;refine⟨LI K A w h (nG src ρ) τ U fe rs,
   ⟨h.length,rfl,gz _,aI _,A,[],rs,.refl E1.gh,.nil,s,rfl⟩,?_⟩
  rintro i m ys D ⟨rfl,hil,hyl,R,r,c,o,rx,d,rfl⟩;let t:bI A D:=o.gg.trans o.gh;by_cases n:i<h.length
  .refine .inr ⟨ok.go i D t n,?_,_,
    λC H' z=>⟨h.length-(i+1),ž,rfl,n,z⟩,λx H3 y =>?_⟩
   .have:=iJ;omega
   .let⟨G3,X,N⟩:=ok.JY i D x H3 R h[i] o.gg o.gh y (ao n);rw[gF n]at d;unfold rA at d;let(j,et,d):=aa.1 d;let(b,eb,d):=aa.1 d;let E13:=E1.trans (o.trans X);refine hg _ _ _ _ ⟨G3,nG src ρ,h[i],j,X.gh,(P.ext E13).src ho,N,et,λσ4 G4 H4 E4 B=>⟨G4,j,b,E4.gh,B,eb,λG5 H5 S =>?_⟩⟩;let E15:=(o.trans X).trans (E4.trans S);cases b with
    |false=>exact Nl ⟨ž,G5,r,c,E15,a9.mono ((X.trans (E4.trans S)).gg) r rx,d,rfl⟩
    |true=>
     refine G7 ?_;simp only[if_true]at d;let(x4,ee,d):=aa.1 d;rcases el:rA (nG src ρ) τ U fe (h.drop (i+1)) with _|a
     .simp[el]at d
     simp only[el,ai,cS]at d;cases d;refine⟨G5,j,x4,S.gh,B.ext S,ee,λv G6 H6 E6 r6=>⟨by simp;omega,G6,r++[x4],a,E15.trans E6,(a9.mono ((X.trans ((E4.trans S).trans E6)).gg) r rx).append (.cons r6 .nil),rfl,ż⟩⟩
  .let e:i=h.length:=by omega
   subst e;rw[o5]at d;unfold rA at d;cases d;refine .inl ⟨ok.stop _ D t (aI _),λp hp =>?_⟩;let E12:=E1.trans o;refine k p ys R _ (E12.trans (i9.lay (p:=p) o.gh hp)) (E12.hh.free hp) (o.gh.free hp) bB ?_
   simp_all
 .cases s
def BC(S:gy X N src T)(j:X.calm=Z')(e:PI X L O (BY X.K Z f))(n:O6 J g)(a:∀i∈J,src[i]?=Y M)(h:∀v l H Q,VG X.K Ź τ v l H Q->g v l H Q)(k:∀C s H b,PG (X.tS N T C s H b) L g/\Fy (X.tS N T C s H b) E (rV X.K Ź U)/\PE (X.tS N T C s H b) m (tP X.K Ź fe))(d:autoParam (jO Z Ź src=true) Ū)(c:autoParam (∀x,cM O X.env x=fK x) ũ):PE X (.ListComp m [⟨L,O,E,0⟩] T u) (tF X.K Z (mx f src τ U fe)):=
 (My S j e n a k c).imp λl H Q q=>Na d h q
def By{i:Nat}{c D:Pos}(S:gy X N src T)(hc:X.calm=Z')(hN:X.N.Nodup)(F:X.N[i]?=Y y)(hl:X.env.scope.names.lookup y=Y .local)(hi:PI X L O (BY X.K Z f))(ag:O6 J g)(j:∀i∈J,src[i]?=Y M)(hg:∀v l H Q,VG X.K Ź τ v l H Q->g v l H Q)(hb:∀C s H z,PG (X.tS N T C s H z) L g/\Fy (X.tS N T C s H z) E (rV X.K Ź U)/\PE (X.tS N T C s H z) m (tP X.K Ź fe))(R:autoParam (jO Z Ź src=true) Ū)(n:autoParam (i∈Z) Ū)(d:autoParam (∀a,(i,a)∉B.3) ť)(hm:autoParam (Bj i∉Z) Ū)(h:autoParam (cY (.ListComp m [⟨L,O,E,0⟩] T u) (Y (.Name y D)) c.line X.env=fK true) Ŭ)(q:autoParam (∀x,cM O X.env x=fK x) ũ):PS X (.Assign [.Name y D] (.ListComp m [⟨L,O,E,0⟩] T u) c) (jW X.K B t Z Z (jq i (mx f src τ U fe))):=
 (y0 S hc hN F hl hi ag j hb h q).imp λD' l H ⟨G,ρ,o,S,e,k⟩=>Na R hg (by let(ds,ef,e):=aq.1 e;cases e;exact⟨G,ρ,ds,S.gh,S.lg,ef,λp vs G' H' b P gp K r=>k _ G' H' (S.Pz n b P gp K r d hm)⟩)
def Oc{B:Bs}{D:Pos}(S:gy X N src T)(hc:X.calm=Z')(hN:X.N.Nodup)(q:X.N[i]?=Y y)(hl:X.env.scope.names.lookup y=Y .local)(hi:PI X L O (BY X.K Z f))(ag:O6 J g)(e:∀i∈J,src[i]?=Y M)(hg:∀v l H Q,VG X.K Ź τ v l H Q->g v l H Q)(hb:∀C s H j,PG (X.tS N T C s H j) L g/\Fy (X.tS N T C s H j) E (rV X.K Ź U)/\PE (X.tS N T C s H j) m (tP X.K Ź fe))(ho:autoParam (jO Z Ź src=true) Ū)(h:autoParam (i∉Z) Ū)(d:autoParam (cY (.ListComp m [⟨L,O,E,0⟩] T u) (Y (.Name y D)) b.line X.env=fK true) Ŭ)(R:autoParam (∀x,cM O X.env x=fK x) ũ):PS X (.Assign [.Name y D] (.ListComp m [⟨L,O,E,0⟩] T u) b) (jW X.K B t Z Z (eP i (eF (mx f src τ U fe)))):=
 (y0 S hc hN q hl hi ag e hb d R).imp λD' l H ⟨G,ρ,o,S,c,k⟩=>Na ho hg (by
  unfold eP eF at c;rcases n:mx f src τ U fe ρ with _|K
  .simp_all
  rw[n]at c;cases c;exact⟨G,ρ,K,S.gh,S.lg,n,λp z G' H' a hp F P r=>k _ _ H' ((S.ext (a.freeze hp F P)).wg h (dA.mpr ⟨p,z,rfl,bB,a9.mono (.alloc F) K r⟩))⟩)
end
inductive jM (K:aX) (F:List D->Option D) (e:List V) (H:Hp) (Q:VK) (_x:XK):Prop
 |mk G a d:bI G H->a9 K G a e->F a=some d->(∀v c b,i9 G H c b->eR K c d v->Q v b)->jM K F e H Q _x
inductive yc (K:aX) (F:List D->Option (List D)) (g:List V) (H:Hp) (Q:VK) (_x:XK):Prop
 |mk G f e:bI G H->a9 K G f g->F f=some e->(∀a d c b,i9 G H c b->H a=none->c a=none->b a=some (.lst d)->a9 K c e d->Q (.ref a) b)->yc K F g H Q _x
noncomputable def i_(N:Nat)(a:List D):cE:=a.map Y++bF (N-a.length) M
noncomputable def sW:DO->Option D
 |.rt d=>Y d|.ro a=>Y (.lst a)|.nx _=>Y .gA|_=>M
noncomputable def Gs:DO->Option (List D)
 |.ro a=>Y a|_=>M
def mq(n N:Nat)(g:DG)(a:List D):Option D:=if a.length=n then (g (i_ N a)).bind sW else M
def xM(n N:Nat)(g:DG)(a:List D):Option (List D):=if a.length=n then (g (i_ N a)).bind Gs else M
def nZ{i:Nat}(h:(i_ N b)[i]?=Y (Y d)):b[i]?=Y d:=by
 unfold i_ at h;by_cases c:i<b.length
 .rw[aM (by simp_all),aR]at h;let(a,e,h):=aq.1 h;rw[e];cases h;rfl
 .rw[lh (by simp_all),Pa]at h;split at h<;>cases h
def yD{K:aX}{H:Hp}{m:List V}(s:bI G H)(r:a9 K G k m)(t:∀i∈Z,k.length<=i):SR K ⟨G,H,[],x⟩ Z G H (start N m) (i_ N.length k):=by
 have g:∀i d,i∈Z->(i_ N.length k)[i]?=Y (Y d)->False:=λi d f e=>by
  have:=(ah.mp (nZ e)).1
  grind
 refine⟨s,bI.refl _,bI.refl _,λb o e =>.inl e,λi d f e =>?_,⟨λ_=>[],λi d f e=>(g i d f e).elim,λi d f e=>(g i d f e).elim,λi j d c f z e=>(g i d f e).elim⟩,by simp[start,i_,r.length],λi a h=>(by cases h),λj r p w A e=>(g j _ w e).elim⟩;let(v,n,q):=r.get (nZ e);refine⟨v,?_,q⟩;let f:=(ah.mp n).1;unfold start;rw[aM (by simp_all),aR,n];exact Ÿ
section
variable {P:bE}{K:aX}
def jy.Bf{m:d_}{f:aD}{N:List aJ}(F:jy K x e m f O)(S:bH N I (aF m)){Z Ź:List Nat}{g:DG}(p:∀i∈Z,I.length<=i) (hb:∀(j:aj) (A:jz) (outer:List Env) (s:aw) (H:Hp) (E:XK),hJ k (A.deeper (rO e (aF m) s.heap.objs.size f j))->∀B:Bs,B.3=[] ->
   qU (xZ i7 P w K u y N e (aF m) f j A outer s H E).MT (iT m) (jW K B [] Z Ź g)):cZ P w K u y i7 (k+1) f O I (jM K (mq I.length N.length g)):=by
 refine F.ok S (λR H Q E h =>?_) λj A outer s H R Q E U h =>?_
 .let⟨G,ds,d,c,r,b,_⟩:=h;unfold mq at b;split at b
  .rw[<- r.length];omega
  .cases b
 .let⟨G,ds,d,c,r,b,q⟩:=h;unfold mq at b;split at b
  .refine⟨_,hb j A _ s H E U ⟨G,H,[],λl l=>False⟩ rfl,?_⟩;let(o,eg,b):=aa.1 b;refine⟨G,_,o,yD c r Ż,eg,?_⟩;cases o with
   |rt d'=>cases b;solve_by_elim|ro T=>cases b;exact λa J z t E h1 L h3 r=>q _ _ t (E.freeze h1 L h3) (dA.mpr ⟨a,J,rfl,bB,a9.mono (.alloc L) T r⟩)
   |nx D=>cases b;exact λσ z t S=>q _ z t S.o6 (jB.mpr rfl)
   |_=>cases b
  .cases b
def jy.TX{f:aD}(F:jy K x j p f I)(S:bH N z (aF p)){Z Ź:List Nat}{g:DG}(t:∀i∈Z,z.length<=i) (R:∀(m:aj) (A:jz) (e:List Env) (s:aw) (H:Hp) (E:XK),hJ k (A.deeper (rO j (aF p) s.heap.objs.size f m))->∀B:Bs,B.3=[] ->
   qU (xZ i7 P w K u y N j (aF p) f m A e s H E).MT (iT p) (jW K B [] Z Ź g)):cZ P w K u y i7 (k+1) f I z (yc K (xM z.length N.length g)):=by
 refine F.ok S (λJ H Q E h =>?_) λm A e s H J Q E a h =>?_
 .let⟨G,ds,d,D,r,b,_⟩:=h;unfold xM at b;split at b
  .rw[<- r.length];omega
  .cases b
 .let⟨G,ds,d,D,r,b,q⟩:=h;unfold xM at b;split at b
  .refine⟨_,R m A e s H E a ⟨G,H,[],λc c=>False⟩ rfl,?_⟩;let(o,eg,b):=aa.1 b;refine⟨G,_,o,yD D r Ż,eg,?_⟩;cases o with
   |ro rs=>cases b;solve_by_elim|_=>cases b
  .cases b
structure km(P:bE)(w:fw)(K:aX)(mg:aJ->Option aj)(base:dY)(x:aJ)(k:Nat)(sp:Sp):Prop where
 ex:∃f fd ps,cZ P w K mg base i7 k f fd ps sp/\mg x=some (.ref f)/\AS K (.ref f)=true/\Binds K fd ps []
def km.mono(h:km P w K u y x j a)(c:j<=k):km P w K u y x k a:=by
 let(f,g,b,e,d):=h.ex;exact⟨f,g,b,e.mono c,d⟩
end
section
variable {X:Cx}
def Zc{F:List D->Option D}(h:km X.prog X.w X.K X.mg X.base x k (jM X.K F))(s:hJ k X.A)(z:Gl X x)(E:PA X (e::l) (F8 X.K Z g))(b:autoParam ((x==("__debug__" : aJ))=false) Ū)(A:autoParam (ar (e::l) X.env=(Z_,eval e X.env)::ar l X.env) Ŭ)(a:autoParam ((eS C (ar l X.env)).any (·.1)=false) Ŭ):PE X (.Call (.Name x p) (e::l) [] C) (tP X.K Z (aW F g)):=by
 let(f,fd,U,I,t,w,B):=h.ex;refine(B' I s z t w B .nil rp E b A a).imp ?_;rintro T H Q ⟨G,m,d,J,c,L,q⟩;let(i,K,u):=z8 L;exact⟨G,m,i,J,c,K,λn R O j r=>by rw[cT];exact⟨R,i,d,j.gh,r,u,λv P N S o=>q v P N (j.trans S) o⟩⟩
noncomputable def j6(F:List D->Option (List D))(g:DL):DL:=λa=>(g a).bind F
def X6{F:List D->Option (List D)}(h:km X.prog X.w X.K X.mg X.base x k (yc X.K F))(w:hJ k X.A)(B:Gl X x)(J:PA X (e::l) (F8 X.K Z g))(d:autoParam ((x==("__debug__" : aJ))=false) Ū)(E:autoParam (ar (e::l) X.env=(Z_,eval e X.env)::ar l X.env) Ŭ)(c:autoParam ((eS C (ar l X.env)).any (·.1)=false) Ŭ):PE X (.Call (.Name x p) (e::l) [] C) (tF X.K Z (j6 F g)):=by
 let(f,fd,ps,i,z,A,I):=h.ex;refine(B' i w B z A I .nil rp J d E c).imp ?_;rintro σ H Q ⟨G,o,O,u,j,b,q⟩;let(n,N,b):=aa.1 b;exact⟨G,o,n,u,j,N,λr T R m v=>by rw[cT];exact⟨T,n,O,m.gh,v,b,λa s S P U i L K t=>q a s S P (m.trans U) (m.hh.free i) L K t⟩⟩
noncomputable def oz:D->Bool
 |.gA=>Z'|.bl _=>Z'|.int _=>Z'|.str _=>Z'|_=>Z_
end
def Ul{F:List D->Option D}{m:Nat}(e:∀b:List Int,b.length<=m->F [.j5 b]=Y (.bl Z'))(K:aX)(H:Hp)(a:aD)(b:List Int)(c:b.length<=m)(f:OP H)(d:nR K H a (b.map V.int)):
  jM K F [.ref a] H (λv i=>v=.bl Z') λi i i=>False:=
 ⟨H,_,_,bI.refl _,.cons (Iu.mpr ⟨a,rfl,d⟩) .nil,e b c,λv h g E r=>iA.mp r⟩
noncomputable def Zj(K:aX)(a:aD):It:=
 ⟨λi H=>∃b x,nR K H a b/\b[i]?=Y x,λi H v c=>∃x p,(∀b,nR K H a b->b[i]?=Y x)/\H p=M/\v=.ref p/\c=fD H p (.tup [.int i,x]),λi H=>∃b,nR K H a b/\b.length<=i⟩
def J7{P:bE}{K:aX}{x1}(a e t:aD)(T:e≠t):Lo P w K (.Tuple abN x1 N) (Zj K a) [e,t] e (λi h=>(∃l,IsEnum h e t (i:Int) l)/\h.IsListIter t a i) where
 mem:=by simp
 obj:=λi h D b g=>by
  obtain⟨⟨l,f⟩,j⟩:=D;rcases aV.mp g with rfl|g
  .exact⟨_,f,λv z=>by cases z⟩
  .let e:b=t:=by simpa using g
   subst e;let(o,e,c,d):=j;exact⟨o,e,λv z=>by rw[d]at z;cases z⟩
 keep:=λi h h' D k=>by obtain⟨⟨l,f⟩,j⟩:=D;exact⟨⟨l,k e ż _ f⟩,j.at λo q=>k t ż o q⟩
 item:=by
  intro X hP hw hK hc i J s σ H E I R D hg;subst hP hw hK;obtain⟨⟨l,f⟩,j⟩:=D;let(xs,x,hq,B):=hg;let(GZ,rv,p,hz):=I.list hq;let(u,hu,ru):=rv.get B;have fe:=R e ż;have U:=R t ż;refine wpAny_pyNext_enum_item f j p.isList (x:=u) (by simpa using hu) T λh1 eo it1 t1 z1 k1 =>?_
  refine⟨_,rfl,?_⟩;refine wpAny_letOwnedTupleGo_enum (s:={ s with heap:=h1,toks:=s.toks+1 }) eo λG e2 s2 =>?_
  have S:e<s.heap.objs.size:=aQ f;let W:H s.heap.objs.size=none:=I.jr.fresh (aI _);let L:kU e h1 G:=s2;have m:∀b o,b≠e->b≠t->s.heap.get? b=Y o->G.get? b=Y o:=λb o h3 h4 q=>(L.2 b h3).trans (k1 b o h3 h4 q)
  let tup:G.get? s.heap.objs.size=Y { cls :=.type "tuple",data :=.seq #[.int i s.toks,u] }:=(L.2 _ (lR S)).trans t1;have C:∀b o,H b=Y o->b≠e/\b≠t:=λb o q=>⟨λz=>by(rw[z,fe.1]at q;cases q),λz=>by(rw[z,U.1]at q;cases q)⟩
  let new:j7 X.prog X.w (fD H s.heap.objs.size (.tup [.int i,x])) G s.heap.objs.size (.tup [.int i,x]):=
   ⟨by show 2<=aY;rw[mE];decide,[.int i s.toks,u],.cons ⟨_,rfl⟩ (.cons ru .nil),_,tup,rfl,_,rfl⟩
  let O:pL X.prog X.w (fD H s.heap.objs.size (.tup [.int i,x])) G:=λb o q=>by
   by_cases g:b=s.heap.objs.size
   .subst g;rw[bB]at q;cases q;exact new
   .rw[aP g]at q;refine(I.jr b o q).AA (λc v F r =>?_) (λc r=>by rw[aP (bM r W)];exact r) λc ys r=>by rw[aP (bM r W)];exact r
    rcases F with rfl|F
    .exact m _ _ (C _ _ q).1 (C _ _ q).2 r
    .exact m _ _ (C _ _ F).1 (C _ _ F).2 r
  have un:Un (Dv X.stack) [e,t] H (fD H s.heap.objs.size (.tup [.int i,x])) s.heap G:=by
   have y:∀b,b∉[e,t]->b≠e/\b≠t:=λb g=>⟨λz=>g (by simp[z]),λz=>g (by simp[z])⟩
   let l:∀b o,s.heap.get? b=Y o->b≠s.heap.objs.size:=λb o q=>cA (aQ q)
   refine⟨λb o q n A B=>m b o (y b B).1 (y b B).2 q,λb o q n A B=>⟨o.slots,m b o (y b B).1 (y b B).2 q⟩,λb o q n B=>by rw[aP (l b o q)];exact n,
    λb o q B=>⟨o,m b o (y b B).1 (y b B).2 q⟩,λb ys q=>by rw[aP (bM q W)];exact q,λb o u q=>by rw[aP (bM q W)];exact q,λb ps q=>⟨#[],by rw[aP (bM q W)];simpa using q⟩⟩
  let I2:Inv X J σ (fD H s.heap.objs.size (.tup [.int i,x])) { s with heap:=G,toks:=s.toks+1 }:=I.JC (s':={ s with heap:=G,toks:=s.toks+1 }) rfl un O I.bare λb g=>by
   rcases aV.mp g with rfl|g
   .exact⟨fe.2.2.2.1,fe.2.1,fe.2.2.2.2.1,fe.2.2.2.2.2⟩
   .let z:b=t:=by simpa using g
    subst z;exact⟨U.2.2.2.1,U.2.1,U.2.2.2.2.1,U.2.2.2.2.2⟩
  have YC:G.IsListIter t a (i+1):=it1.at λo q=>(L.2 t (bQ T)).trans q
  refine⟨.ref s.heap.objs.size,_,I2,rfl,⟨x,s.heap.objs.size,λys hy=>by rw[I.sy hy hq];exact B,W,rfl,rfl⟩,⟨⟨u,by exact_mod_cast e2⟩,YC⟩,λb g =>?_⟩;have:b≠s.heap.objs.size:=by
   rcases aV.mp g with rfl|g
   .exact cA S
   .let z:b=t:=by simpa using g
    subst z;let(o,q,_):=j;exact cA (aQ q)
  rw[aP this];exact(R b g).1
 done:=by intro X hP hw hK hc i J s σ H E I R D hg;subst hP hw hK;obtain⟨⟨l,f⟩,j⟩:=D;let(xs,hq,B):=hg;let(GZ,rv,p,hz):=I.list hq;let(f0,f1,f2,f3,f4,f5):=R t ż;let hl:=rv.length;exact wpAny_pyNext_enum_end (I.ok.hd hc) f j p.isList (by simp;omega) λh' eb=>⟨rfl,I.turned (t':=s.toks) (λb o g q=>eb b o g q) f0 f1 f3 f4 f5⟩
 self:=λA i s Q E D h=>by obtain⟨⟨l,f⟩,j⟩:=D;exact wpAny_pyIter_enum f h
section
variable {X:Cx}{f:DF}
def UB(K:aX)(e:TE):TI:=λc H R=>e c H λx b=>∃a,x=.ref a/\(∃d,nR K b a d)/\R (Zj K a) b
def P1{A}{v:TE}(Q:Gl X "enumerate")(O:X.mg "enumerate" = M)(P:PE X e v)(E:autoParam (ar [e] X.env=[(Z_,eval e X.env)]) Ŭ)(n:autoParam (ar [e] X.env=(Z_,eval e X.env)::ar [] X.env) Ŭ)(L:autoParam (i4 "enumerate" = Y (.type "enumerate")) ţ):PI X (.Tuple k A g) (.Call (.Name "enumerate" p) [e] [] i) (UB X.K v):=by
 intro j s y H R I h;refine Call_ (sC I Q O L (iM (g8 (eC P gG n i j s y H (λl f=>match l with|[x]=>∃a,x=.ref a/\(∃r,nR X.K f a r)/\R (Zj X.K a) f|_=>False) I h) ?_) E rfl));rintro U c ⟨l,f,d,C,m⟩;cases l with
 |nil=>exact m.elim|cons x t=>
  cases t with
  |cons _ _=>exact m.elim|nil=>
  obtain⟨a,rfl,⟨r,N⟩,q⟩:=m;let(u,rfl,B):=cR.one C;cases B;let(K,rv,D,hz):=d.list N;refine call_enumerate_list D.isList λS w G T J =>?_
  refine wpAny_pyIter_enum w ?_;let F:f c.heap.objs.size=none:=d.jr.fresh (aI _);refine⟨c.heap.objs.size+1,[c.heap.objs.size+1,c.heap.objs.size],_,_,f,rfl,d.kept (t':=c.toks) J,J7 a (c.heap.objs.size+1) c.heap.objs.size (lR (oY _)),⟨⟨_,w⟩,G⟩,λb o =>?_,q⟩;rcases aV.mp o with rfl|o
  .exact d.zP (pR _) (d.jr.fresh (pR _))
  .let z:b=c.heap.objs.size:=by simpa using o
   subst z;exact d.zP (aI _) F
noncomputable def xA(a:List D):List D:=a.zipIdx.map λp =>.tup [.int (p.2:Nat),p.1]
def wN{i:Nat}(h:(xA a)[i]?=Y d):∃x,a[i]?=Y x/\d=.tup [.int i,x]:=by
 unfold xA at h;rw[aR,List.getElem?_zipIdx]at h;rcases e:a[i]? with _|x<;>simp_all
def wM(a:List D):(xA a).length=a.length:=by simp[xA]
def KE{K:aX}{a:aD}(k:G a=Y (.lst b))(r:a9 K G n b):HU K G (Zj K a) (xA n):=by
 refine⟨λi H s e =>?_,λi H s e=>⟨b,.of (s _ _ k),by rw[wM]at e;rw[<- r.length];exact e⟩,λi H x B A d l h ⟨y,p,f,m,u,w⟩ t =>?_⟩
 .rw[wM]at e;have j:i<b.length:=by rw[<- r.length];exact e
  exact⟨b,b[i],.of (s _ _ k),by simp[j]⟩
 .let⟨c,z,rfl⟩:=wN t;let(v,g,o):=r.get z;rw[(f b (.of (h _ _ (l _ _ k))))]at g;cases g;subst u w;refine⟨_,i9.alloc h m,fy.mpr ⟨p,_,rfl,bB,.cons (cJ.mpr rfl) (.cons (eR.mono (l.trans (.alloc (h.free m))) c o) .nil)⟩⟩
def iE(f:DF):DL:=λa=>(iL f a).map xA
def Y9{c:List Expr}{o}(w:Gl X "enumerate")(u:X.mg "enumerate" = M)(h:PE X e (tP X.K Z f))(t:autoParam (ar [e] X.env=[(Z_,eval e X.env)]) Ŭ)(i:autoParam (ar [e] X.env=(Z_,eval e X.env)::ar [] X.env) Ŭ):
  PI X (.Tuple c o b) (.Call (.Name "enumerate" p) [e] [] g) (BY X.K Z (iE f)):=(P1 w u h t i).imp <|by
 rintro B H R ⟨G,n,D,x,j,d,k⟩;let(C,y,d):=aq.1 d;cases d;refine⟨G,n,_,x,j,Cv y,λv A z m s =>?_⟩;let(a,q,rfl,l,r):=dA.mp s;exact⟨a,rfl,⟨q,.of (m.gh _ _ l)⟩,k _ A z m (KE l r)⟩
noncomputable def Its(x:aJ):It:=⟨λi b=>i<x.cps.size,λi H v a=>a=H/\∃c,x.cps[i]?=Y c/\v=.str ⟨#[c]⟩,λi b=>x.cps.size<=i⟩
def LU{P:bE}{K:aX}(x:aJ)(t:Tok)(j:aD):Lo P w K G (Its x) [j] j (λi h=>h.IsStrIter j "str_ascii_iterator" x t i) where
 mem:=by simp
 obj:=λi h a b l=>by
  let e:b=j:=by simpa using l
  subst e;let(o,e,c,d):=a;exact⟨o,e,λv z=>by rw[d]at z;cases z⟩
 keep:=λi h p a k=>by let(o,e,c,d):=a;exact⟨o,k j ż o e,c,d⟩
 item:=by
  intro X q hw r F i f s D H E I n a g;subst q hw r;let(C,B,L,A,y,u):=n j ż;let g:i<x.cps.size:=g;refine wpAny_pyNext_ascii_item a (c:=x.cps[i]) (by simp[g]) λp m J =>?_
  let N:Inv X f D H { s with heap:=p,toks:=s.toks+1 }:=I.turned (λb o l e=>(J.2 b l).trans e) C B A y u;let(o,e,c,d):=id m;exact⟨_,rfl,NF (s:={ s with heap:=p,toks:=s.toks+1 }) e c d ſ ⟨.str ⟨#[x.cps[i]]⟩,H,N,⟨_,rfl⟩,⟨rfl,_,by simp[g],rfl⟩,m,λb l=>(n b l).1⟩⟩
 done:=by intro X q hw r F i f s D H E I n a g;subst q hw r;let(C,B,L,A,y,u):=n j ż;let g:x.cps.size<=i:=g;exact wpAny_pyNext_ascii_end (I.ok.hd F) a (by simp[g]) λp O=>⟨rfl,I.turned (t':=s.toks) (λb o l e=>O b o l e) C B A y u⟩
 self:=λv v v v v a h=>wpAny_pyIter_striter_ascii a h
def Xk(b:TE):TI:=λa H R=>b a H λv c=>∃x,v=.str x/\x.cps.all (· < 128)=Z'/\R (Its x) c
def Tq{f:TE}(m:PE X l f):PI X i l (Xk f):=by
 intro a s g H R I h;refine g8 (m a s g H _ I h) ?_;rintro v c ⟨x,r,d,j,k⟩;let(z,e,p,q):=k;subst e;let(t,rfl):=j;refine wpAny_pyIter_ascii p ?_;refine⟨_,_,_,_,r,rfl,d.kept λb o e=>ak _ e,LU z t _,⟨_,bL _ rfl,rfl,rfl⟩,λb n =>?_,q⟩;let e:=by simpa using n
 subst e;exact d.zP (aI _) (d.jr.fresh (aI _))
noncomputable def uj(x:aJ):List D:=x.cps.toList.map λc =>.str ⟨#[c]⟩
def iS(f:DF):DL:=λa=>(f a).bind λd=>match d with|.str x=>if x.cps.all (· < 128)=Z' then Y (uj x) else M|_=>M
def Nk{K:aX}(x:aJ):HU K G (Its x) (uj x):=by
 have f:(uj x).length=x.cps.size:=by simp[uj]
 refine⟨λi H s a=>by rw[f]at a;exact a,λi H s a=>by rw[f]at a;exact a,λi H v m k d l g ⟨e,c,j,h⟩ b =>?_⟩;subst e h;refine⟨k,.refl g,?_⟩;unfold uj at b;rw[aR,Array.getElem?_toList,j]at b;cases b
 exact Ÿ
set_option tactic.hygienic true
def U7{g:Expr}(h:PE X e (tP X.K Z f)):PI X g e (BY X.K Z (iS f)):=(Tq h).imp <|by
 rintro q H R ⟨G,c,r,l,b,a,k⟩;let(d,m,a):=aa.1 a;cases d<;>simp only[ai]at a<;>try (cases a)
 split at a
 .cases a;rename_i x j;exact⟨G,c,_,l,b,m,λv o n p i=>⟨x,gD.mp i,j,k _ o n p (Nk x)⟩⟩
 .cases a
end
def lF{K:aX}{Z:List Nat}(i:Nat)(e:autoParam (i∉Z) Ū):∀v a H Q,VG K Z (gN i) v a H Q->qf i v a H Q:=λv a H Q ⟨G,h,d,c,f,b,r,g,k⟩=>by
 cases g;exact k _ G H (.refl f) (b.set e r)
noncomputable def vE(b:Scope)(d N:List aJ)(c:List (Option Nat))(a:Scope):Bool:=
 (a.names.all λy=>a.names.lookup y.1==Y y.2)&&(a.names.all λy=>y.2 != .free||(b.names.lookup y.1==Y .cell||b.names.lookup y.1==Y .free))&&(c.length==N.length) &&
 ((cL c.length).all λi=>match c[i]?,N[i]? with|some (Y j),Y x=>d[j]? == Y x&&a.names.lookup x==Y .free|_,_=>Z')
def lM{X:Cx}{outer:Scope}{oN N:List aJ}{src:List (Option Nat)}(d:a.kind=.function)(h:vE outer oN N src a=Z')(p:X.env.scope=outer)(o:X.N=oN):gy X N src a:=by
 unfold vE at h;simp only[aA,fX,beq_iff_eq,bU]at h;obtain⟨⟨⟨n,m⟩,l⟩,k⟩:=h;refine⟨d,λy b=>n y b,λy b f =>?_,l,λi j x c g =>?_⟩
 .grind
 .let e:=(ah.mp c).1;have:=k i Ż;rw[c,g]at this;simp at this;rw[o];exact this
section
variable {K:aX}{f:Hp}
end
noncomputable def ve:aJ:=ae "open"
noncomputable def vd:aJ:=ae "text"
noncomputable def pH:aJ:=ae "close"
def sOT:¬(ve=vd):=by decide +kernel
def sOC:¬(ve=pH):=by decide +kernel
def sTC:¬(vd=pH):=by decide +kernel
structure Nd where
 nm:aJ
 tx:List D
 kd:List Int
 par:Int
noncomputable abbrev xo(x:aJ)(p:Int):Nd:={ nm:=x,tx:=[],kd:=[],par:=p }
noncomputable def IK(n:Nd):D :=.tup [.str n.nm,.lst n.tx,.lst (n.kd.map D.int),.int n.par]
abbrev Nz:=List Nd×Int
def xn(z : Nz)(s : D): Option Nz := match s with
  |.tup [.str k,.str x] =>
    if k = ve then
      (if 0 <= z.2 then (match (z.1 ++ [xo x z.2])[z.2.toNat]? with
        |some n => Y ((z.1 ++ [xo x z.2]).set z.2.toNat { n with kd := n.kd ++ [(z.1.length : Int)] },(z.1.length : Int))
        | none => M)
       else Y (z.1 ++ [xo x z.2],(z.1.length : Int)))
    else if k = vd then (if 0 <= z.2 then (match z.1[z.2.toNat]? with |some n => Y (z.1.set z.2.toNat { n with tx := n.tx ++ [.str x] },z.2) |none => M) else M)
    else M
  |.tup [.str k] => if k = pH then (if 0 <= z.2 then (z.1[z.2.toNat]?).map λn => (z.1,n.par) else M) else M
  |_ => M
def zh:List D->Nz->Option Nz
 |[],z=>Y z|s::a,z=>(xn z s).bind (zh a)
def gZ(b:List D):Option (List D):=match b with
 |[.lst a]=>if a.length<=100000 then (zh a ([],-1)).map λz=>z.1.map IK else M
 |_=>M
set_option tactic.hygienic true in
def Ej{s:D}(e:xn z s=Y c):(∃x,s=.tup [.str ve,.str x]/\((¬0<=z.2/\c=(z.1++[xo x z.2],(z.1.length:Int))) \/
   (0<=z.2/\∃n,(z.1++[xo x z.2])[z.2.toNat]?=Y n/\c=((z.1++[xo x z.2]).set z.2.toNat { n with kd:=n.kd++[(z.1.length:Int)] },(z.1.length:Int))))) \/
  (∃x n,s=.tup [.str vd,.str x]/\0<=z.2/\z.1[z.2.toNat]?=Y n/\c=(z.1.set z.2.toNat { n with tx:=n.tx++[.str x] },z.2))\/(∃n,s=.tup [.str pH]/\0<=z.2/\z.1[z.2.toNat]?=Y n/\c=(z.1,n.par)):=by
 unfold xn at e;split at e
 .split at e
  .rename_i k x d;subst d;split at e
   .rename_i a;split at e
    .cases e;rename_i n b;exact .inl ⟨x,rfl,.inr ⟨a,n,b,rfl⟩⟩
    .cases e
   .cases e;rename_i a;exact .inl ⟨x,rfl,.inl ⟨a,rfl⟩⟩
  .split at e
   .rename_i k x _ d;subst d;split at e
    .rename_i a;split at e
     .cases e;rename_i n b;exact .inr (.inl ⟨x,n,rfl,a,b,rfl⟩)
     .cases e
    .cases e
   .cases e
 .split at e
  .rename_i k d;subst d;split at e
   .rename_i a;let(n,b,e):=aq.1 e;rw[b];cases e;exact .inr (.inr ⟨n,rfl,a,rfl,rfl⟩)
   .cases e
  .cases e
 .cases e
structure jS(K:aX)(G H0 H:Hp)(Nn:aD)(cs:List (aD×aD×aD))(ns:List Nd):Prop where
 lst:H Nn=some (.lst (cs.map λc =>.ref c.1))
 Qb:H0 Nn=none
 len:cs.length=ns.length
 tup:∀(i:Nat) c n,cs[i]?=some c->ns[i]?=some n->H c.1=some (.tup [.str n.nm,.ref c.2.1,.ref c.2.2,.int n.par])/\H0 c.1=none
 txs:∀(i:Nat) c n,cs[i]?=some c->ns[i]?=some n->(∃vs,H c.2.1=some (.lst vs)/\a9 K G n.tx vs)/\H0 c.2.1=none/\c.2.1≠Nn
 RT:∀(i:Nat) c n,cs[i]?=some c->ns[i]?=some n->H c.2.2=some (.lst (n.kd.map V.int))/\H0 c.2.2=none/\c.2.2≠Nn
 Qp:∀(i j:Nat) c d,cs[i]?=some c->cs[j]?=some d->c.2.1=d.2.1->i=j
 Qo:∀(i j:Nat) c d,cs[i]?=some c->cs[j]?=some d->c.2.2=d.2.2->i=j
 Hb:∀(i j:Nat) c d,cs[i]?=some c->cs[j]?=some d->c.2.1≠d.2.2
section
variable {K:aX}{v:Hp}
def jS.at(h:jS K G v H w g l){i:Nat}{n:Nd}(e:l[i]?=Y n):∃c,g[i]?=Y c:=by
 have:i<g.length:=by rw[h.len];exact(ah.mp e).1
 simp_all
def jS.atc(h:jS K G v H w g l){i:Nat}{c}(e:g[i]?=Y c):∃n,l[i]?=Y n:=by
 have:i<l.length:=by rw[<- h.len];exact(ah.mp e).1
 simp_all
def jS.SU(h:jS K G v H w g l)(b:g[k]?=Y c)(s:l[k]?=Y n)(r:a9 K G a j):jS K G v (fD H c.2.1 (.lst j)) w g (l.set k { n with tx:=a }):=by
 obtain⟨⟨A,t,_⟩,_,y⟩:=h.txs k c n b s;have p:∀ {i:Nat}{m:Nd},(l.set k { n with tx:=a })[i]?=Y m->(i=k/\m={ n with tx:=a })\/(i≠k/\l[i]?=Y m):=fun {i m} e=>by
  by_cases o:k=i
  .subst o;rw[a7 (ah.mp s).1]at e;exact .inl ⟨rfl,(cB e).symm⟩
  .rw[au o]at e;exact .inr ⟨bQ o,e⟩
 refine⟨by rw[aP (bQ y)];exact h.lst,h.Qb,by simp[h.len],λi d m e f =>?_,λi d m e f =>?_,λi d m e f =>?_,h.Qp,h.Qo,h.Hb⟩
 .rcases p f with⟨rfl,rfl⟩|⟨o,f⟩
  .rw[e]at b;cases b;let(q,z):=h.tup _ _ n e s;exact⟨by rw[aP (Eo q t (by intro z;cases z))];exact q,z⟩
  .let⟨q,z⟩:=h.tup i d m e f;exact⟨by rw[aP (Eo q t (by simp_all))];exact q,z⟩
 .rcases p f with⟨rfl,rfl⟩|⟨o,f⟩
  .simp_all [bB]
  .obtain⟨⟨u,q,x⟩,z⟩:=h.txs i d m e f;exact⟨⟨u,by rw[aP (λz=>o (h.Qp i k d c e b z))];exact q,x⟩,z⟩
 .rcases p f with⟨rfl,rfl⟩|⟨o,f⟩
  .rw[e]at b;cases b;let(q,z):=h.RT _ _ n e s;exact⟨by rw[aP (bQ (h.Hb _ _ _ _ e e))];exact q,z⟩
  .let⟨q,z⟩:=h.RT i d m e f;exact⟨by rw[aP (bQ (h.Hb _ _ _ _ b e))];exact q,z⟩
def jS.ZH(h:jS K G v H w g l)(b:g[k]?=Y c)(p:l[k]?=Y n):jS K G v (fD H c.2.2 (.lst (a.map V.int))) w g (l.set k { n with kd:=a }):=by
 let(t,_,u):=h.RT k c n b p;have o:∀ {i:Nat}{m:Nd},(l.set k { n with kd:=a })[i]?=Y m->(i=k/\m={ n with kd:=a })\/(i≠k/\l[i]?=Y m):=fun {i m} e=>by
  by_cases j:k=i
  .subst j;rw[a7 (ah.mp p).1]at e;exact .inl ⟨rfl,(cB e).symm⟩
  .rw[au j]at e;exact .inr ⟨bQ j,e⟩
 refine⟨by rw[aP (bQ u)];exact h.lst,h.Qb,by simp[h.len],λi d m e f =>?_,λi d m e f =>?_,λi d m e f =>?_,h.Qp,h.Qo,h.Hb⟩
 .rcases o f with⟨rfl,rfl⟩|⟨j,f⟩
  .rw[e]at b;cases b;let(q,z):=h.tup _ _ n e p;exact⟨by rw[aP (Eo q t (by intro z;cases z))];exact q,z⟩
  .let⟨q,z⟩:=h.tup i d m e f;exact⟨by rw[aP (Eo q t (by intro z;cases z))];exact q,z⟩
 .rcases o f with⟨rfl,rfl⟩|⟨j,f⟩
  .rw[e]at b;cases b;obtain⟨⟨r,q,s⟩,z⟩:=h.txs _ _ n e p;exact⟨⟨r,by rw[aP (h.Hb _ _ _ _ e e)];exact q,s⟩,z⟩
  .obtain⟨⟨r,q,s⟩,z⟩:=h.txs i d m e f;exact⟨⟨r,by rw[aP (h.Hb _ _ _ _ e b)];exact q,s⟩,z⟩
 .rcases o f with⟨rfl,rfl⟩|⟨j,f⟩
  .simp_all [bB]
  .let⟨q,z⟩:=h.RT i d m e f;exact⟨by rw[aP (λz=>j (h.Qo i k d c e b z))];exact q,z⟩
def jS.push{a b:aD}{x:aJ}(h:jS K G v H w g l)(R:bI v H)(F:H a=M)(P:fD H a (.lst []) b=M)(I:fD (fD H a (.lst [])) b (.lst []) t=M):
  jS K G v (fD (fD (fD (fD H a (.lst [])) b (.lst [])) t (.tup [.str x,.ref a,.ref b,.int u])) w (.lst (g.map (λc =>.ref c.1)++[.ref t]))) w (g++[(t,a,b)]) (l++[xo x u]):=by
 have D:b≠a:=λz=>by rw[z,bB]at P;cases P
 have s:H b=none:=by rw[aP D]at P;exact P
 have C:t≠b:=λz=>by rw[z,bB]at I;cases I
 have W:t≠a:=λz=>by rw[aP C,z,bB]at I;cases I
 have E:H t=none:=by rw[aP C,aP W]at I;exact I
 have N:∀ {p:aD},H p=M->p≠w:=fun {p} z e=>by rw[e,h.lst]at z;cases z
 have B:∀ {p:aD}{o:HO},H p=Y o->p≠w->fD (fD (fD (fD H a (.lst [])) b (.lst [])) t (.tup [.str x,.ref a,.ref b,.int u])) w (.lst (g.map (λc =>.ref c.1)++[.ref t])) p=Y o:=fun {p o} e n=>by rw[aP n,aP (bM e E),aP (bM e s),aP (bM e F)];exact e
 have k:∀ {i:Nat}{c},(g++[(t,a,b)])[i]?=Y c->(i<g.length/\g[i]?=Y c)\/(i=g.length/\c=(t,a,b)):=fun {i c} e=>by
  by_cases m:i<g.length
  .rw[aM m]at e;exact .inl ⟨m,e⟩
  .have O:=(ah.mp e).1;let S:i=g.length:=by simp at O;omega
   subst S;simp at e;exact .inr ⟨rfl,e.symm⟩
 have A:∀ {i:Nat}{n},(l++[xo x u])[i]?=Y n->(i<l.length/\l[i]?=Y n)\/(i=l.length/\n=xo x u):=fun {i c} e=>by
  by_cases m:i<l.length
  .rw[aM m]at e;exact .inl ⟨m,e⟩
  .have O:=(ah.mp e).1;let S:i=l.length:=by simp at O;omega
   subst S;simp at e;exact .inr ⟨rfl,e.symm⟩
 have O:=h.len;have J:∀ {i:Nat}{c},g[i]?=Y c->H c.2.1≠M/\H c.2.2≠none:=fun {i c} e=>by let(n,U):=h.atc e;obtain⟨⟨T,q,_⟩,_⟩:=h.txs i c n e U;let X:=(h.RT i c n e U).1;exact⟨by rw[q];simp,by rw[X];simp⟩
 refine⟨by rw[bB];simp,h.Qb,by simp[O],λi c n e f =>?_,λi c n e f =>?_,λi c n e f =>?_,λi j c d e f z =>?_,λi j c d e f z =>?_,λi j c d e f z =>?_⟩
 .rcases k e with⟨m,e⟩|⟨m,rfl⟩<;>rcases A f with⟨y,f⟩|⟨y,rfl⟩
  .let⟨q,z⟩:=h.tup i c n e f;exact⟨B q (Eo q h.lst (by intro z;cases z)),z⟩
  .omega
  .omega
  .exact⟨by rw[aP (N E),bB],R.free E⟩
 .rcases k e with⟨m,e⟩|⟨m,rfl⟩<;>rcases A f with⟨y,f⟩|⟨y,rfl⟩
  .obtain⟨⟨T,q,r⟩,Q,L⟩:=h.txs i c n e f;exact⟨⟨T,B q L,r⟩,Q,L⟩
  .omega
  .omega
  .exact⟨⟨[],by rw[aP (N F),aP W.symm,aP D.symm,bB],.nil⟩,R.free F,N F⟩
 .rcases k e with⟨m,e⟩|⟨m,rfl⟩<;>rcases A f with⟨y,f⟩|⟨y,rfl⟩
  .let⟨q,Q,L⟩:=h.RT i c n e f;exact⟨B q L,Q,L⟩
  .omega
  .omega
  .exact⟨by rw[aP (N s),aP C.symm,bB];rfl,R.free s,N s⟩
 .rcases k e with⟨m,e⟩|⟨m,rfl⟩<;>rcases k f with⟨y,f⟩|⟨y,rfl⟩
  .exact h.Qp i j c d e f z
  .exact absurd (z ▸ F) (J e).1
  .exact absurd (z.symm ▸ F) (J f).1
  .omega
 .rcases k e with⟨m,e⟩|⟨m,rfl⟩<;>rcases k f with⟨y,f⟩|⟨y,rfl⟩
  .exact h.Qo i j c d e f z
  .exact absurd (z ▸ s) (J e).2
  .exact absurd (z.symm ▸ s) (J f).2
  .omega
 .rcases k e with⟨m,e⟩|⟨m,rfl⟩<;>rcases k f with⟨y,f⟩|⟨y,rfl⟩
  .exact h.Hb i j c d e f z
  .exact absurd (z ▸ s) (J e).1
  .exact absurd (z.symm ▸ F) (J f).2
  simp_all
def Hm(s:bI G v)(a:bI v H):i9 G v (λb=>match v b with|none=>H b|some _=>G b) H:=
 ⟨a,λb o e=>by rw[s _ _ e];exact e,λb o e=>by
  rcases q:v b with _|u
  .simp_all
  rw[q]at e;solve_by_elim,λb o e=>by
  grind⟩
def jS.rep(h:jS K G v H w g l)(s:bI G v):a9 K (λb=>match v b with|none=>H b|some _=>G b) (l.map IK) (g.map λc =>.ref c.1):=by
 let a:∀(i:Nat) c n,g[i]?=Y c->l[i]?=Y n->eR K (λb=>match v b with|none=>H b|some _=>G b) (IK n) (.ref c.1):=λi c n e f=>by
  let(u,m):=h.tup i c n e f;obtain⟨⟨p,t,r⟩,k,_⟩:=h.txs i c n e f;let(q,j,_):=h.RT i c n e f;refine fy.mpr ⟨c.1,_,rfl,Ż,.cons (gD.mpr rfl) (.cons (dA.mpr ⟨c.2.1,p,rfl,Ż,a9.mono (λb o e=>by rw[s _ _ e];exact e) _ r⟩)
   (.cons (dA.mpr ⟨c.2.2,_,rfl,Ż,a9.ints _⟩) (.cons (cJ.mpr rfl) .nil)))⟩
 let d:=h.len;let gen:∀(g:List (aD×aD×aD)) (l:List Nd),g.length=l.length->(∀(i:Nat) c n,g[i]?=Y c->l[i]?=Y n->eR K (λb=>match v b with|none=>H b|some _=>G b) (IK n) (.ref c.1))->a9 K (λb=>match v b with|none=>H b|some _=>G b) (l.map IK) (g.map λc =>.ref c.1):=by
  intro g
  induction g with
  | nil=>intro l d _;cases l with
   |nil=>exact .nil|cons _ _=>cases d
  |cons c g ih=>
   intro l d a;cases l with
   |nil=>cases d|cons n l=>exact .cons (a 0 c n rfl rfl) (ih l (by simpa using d) λi c n e f=>a (i+1) c n (by simpa using e) (by simpa using f))
 exact gen g l d a
end
end L2
namespace L2
open PySem
end L2
namespace L2
open PySem PyProof.Rows
def EF(h:FN a b):a.length=b.length:=by
 induction h<;>simp_all
section
variable {s:aw}
end
end L2
namespace L2
open PySem PyProof.Rows PySem.Spec
section
variable {R:Result->aw->Prop}{f:List aD}{P:Nat->aj->Prop}{m:Nat->aw->Prop}
end
section
variable {s:aw}
end
end L2
namespace L2
open PySem PySem.Spec PyProof.Rows
section
variable {m:bE}{s:aw}{R:Result->aw->Prop}
variable {P:Nat->aj->Prop}
end
section
variable {m:bE}{s:aw}
variable {P:Nat->aj->Prop}
end
section
variable {X:Cx}{f:DF}
end
abbrev DM:=cE->Option (D×cE)
abbrev LH:=cE->Option (List D×cE)
inductive tM (K:aX) (B:Bs) (Z:List Nat) (f:DM) (c:St) (H:Hp) (Q:VK):Prop
 |mk G e d a:SR K B Z G H c e->f e=some (d,a)->(∀v b g,SR K B Z b g c a->bI G b->eR K b d v->Q v g)->tM K B Z f c H Q
inductive SF (K:aX) (B:Bs) (Z:List Nat) (f:LH) (c:St) (H:Hp) (Q:List V->Hp->Prop):Prop
 |mk G d g a:SR K B Z G H c d->f d=some (g,a)->(∀e b h,SR K B Z b h c a->bI G b->a9 K b g e->Q e h)->SF K B Z f c H Q
noncomputable def FC(H:Hp)(a:aD):Hp:=λb=>if b=a then M else H b
theorem zX:FC H a a=none:=by simp[FC]
theorem zY(h:b≠a):FC H a b=H b:=by simp[FC,h]
def Jn:bI (FC H a) H:=λb o e=>by
 grind [zX,zY]
section
variable {X:Cx}{m:Pos}
noncomputable def mP(f:DF):DM:=λρ=>(f ρ).map λd=>(d,ρ)
def Qg{f:DF}(h:mP f b=Y (d,a)):f b=Y d/\a=b:=by
 let(c,e,h):=aq.1 h
 simp_all
def Jt{f:DF}(h:PE X e (tP X.K Z f)):PE X e (tM X.K B Z (mP f)):=h.imp <|by
 rintro j H Q ⟨G,n,d,a,S,b,k⟩;let(c,rfl):=Qg b;exact⟨G,a,d,S.gh,S.lg,c,λv i g E r=>k v i g (S.ext E) E.gg r⟩
noncomputable def kj:LH:=λρ=>Y ([],ρ)
noncomputable def ju(f:DM)(g:LH):LH:=λρ=>(f ρ).bind λp=>(g p.2).bind λq=>Y (p.1::q.1,q.2)
def M7{f:DM}(h:ju f g d=Y (j,b)):∃x a c,f d=Y (x,a)/\g a=Y (c,b)/\j=x::c:=by
 obtain⟨⟨x,a⟩,i,h⟩:=aa.1 h;rcases e:g a with _|_
 .simp_all
 grind
def QN:PA X [] (SF X.K B Z kj):=gG.imp <|by
 rintro c H Q ⟨G,e,d,a,S,b,k⟩;cases b;exact k _ G H S (bI.refl _) .nil
def z9{f:DM}{g:LH}(h:PE X e (tM X.K B Z f))(t:PA X l (SF X.K B Z g))(r:autoParam (ar (e::l) X.env=(Z_,eval e X.env)::ar l X.env) Ŭ):PA X (e::l) (SF X.K B Z (ju f g)):=
 (eC h t r).imp <|by rintro F H Q ⟨G,j,d,b,S,w,k⟩;let(x,a,n,u,c,rfl):=M7 w;exact⟨G,j,x,a,S,u,λv E J z o q=>⟨E,a,n,b,z,c,λI D C y i p=>k _ D C y (o.trans i) (.cons (eR.mono i x q) p)⟩⟩
noncomputable def xR(g:LH):DM:=λa=>(g a).bind λq=>if q.1.length<=1000 then Y (.tup q.1,q.2) else M
set_option tactic.hygienic true in
def U2{q}{g:LH}(h:PA X l (SF X.K B Z g)):PE X (.Tuple l q m) (tM X.K B Z (xR g)):=(Gq h).imp <|by
 rintro v H Q ⟨G,i,d,b,S,a,k⟩;unfold xR at a;rw[aa]at a;obtain⟨⟨c,e⟩,f,a⟩:=a;let a:(if c.length<=1000 then Y (D.tup c,e) else M)=Y _:=a;split at a
 .cases a;rename_i t;refine⟨G,i,c,b,S,f,λj x w o r n=>⟨?_,λp u =>?_⟩⟩
  .rw[<- n.length];exact bX t vn
  .let E:=i9.alloc (o :=.tup j) o.gh u;exact k _ _ _ (o.ext E) (r.trans E.gg) (fy.mpr ⟨p,j,rfl,bB,a9.mono E.gg c n⟩)
 .cases a
noncomputable def m2(o:D->D->Option D)(a b:DM):DM:=λc=>(a c).bind λp=>(b p.2).bind λq=>(o p.1 q.1).map λd=>(d,q.2)
def Qh{f:cE}(h:m2 o a b g=Y (d,f)):∃x e y,a g=Y (x,e)/\b e=Y (y,f)/\o x y=Y d:=by
 obtain⟨⟨x,e⟩,k,h⟩:=aa.1 h;rcases j:b e with _|⟨y,n⟩
 .simp_all
 rcases i:o x y with _|c
 .simp_all
 grind
def WM{K:aX}{s:DM}(h:tM K B Z (m2 o s A) c H Q):VI (rD K o) (tM K B Z s) (tM K B Z A) c H Q:=by
 let(G,i,d,b,S,z,k):=h;let(x,a,y,t,r,C):=Qh z;exact⟨G,i,x,a,S,t,λv L N E j q=>⟨L,a,y,b,E,r,λu J l f e p=>⟨J,x,y,d,f.gh,.inl (eR.mono e x q),.inl p,C,λw I F g n=>k w I F (f.ext g) ((j.trans e).trans g.gg) n⟩⟩⟩
variable {s:DM}
def acV(d:BN X (fJ c) o)(f:PE X a (tM X.K B Z s))(e:PE X b (tM X.K B Z A)):PE X (.BinOp a c b m) (tM X.K B Z (m2 o s A)):=(D_ d f e).imp λg H Q h=>WM h
def Ud(j:Nat):DM:=λb=>(kv j b).bind λa=>(a[a.length-1]?).map λd=>(d,b.set j (Y (.lst a.dropLast)))
def U4{b a:Pos}(h:PE X (.Name y p) (j8 j))(q:autoParam (j∈Z) Ū)(f:autoParam (cN (.Name y p) "pop" X.env (eval (.Name y p) X.env)=eval (.Name y p) X.env) Ŭ)(e:autoParam ((b.endLine==a.line)=true) Ŭ):
  PE X (.Call (.Attribute (.Name y p) "pop" b) [] [] a) (tM X.K B Z (Ud j)):=
 (ME g_ PySem.F.slot_list_pop PySem.F.type_list_pop MZ h f e).imp <|by
  rintro x H Q ⟨G,z,d,o,S,g,k⟩;let(n,t,g):=aa.1 g;rcases i:n[n.length-1]? with _|c
  .simp[i]at g
  simp only[i,ai,cS]at g;cases g;exact Tj S q (gH t) i λv w u r=>k v G w u (bI.refl _) r
inductive Ds (K:aX) (p:Nat) (F:List D->Option (D×List D)) (h:List V) (H:Hp) (Q:VK) (_x:XK):Prop
 |mk G f d b a n k:bI G H->f[p]?=some (.lst k)->h[p]?=some (.ref a)->H a=some (.lst n)->a9 K G k n->G a=none->(∀(i:Nat) c,i≠p->f[i]?=some c->∃v,h[i]?=some v/\eR K G c v)->f.length=h.length->F f=some (d,b)->(∀v e g j,i9 G (FC H a) g j->g a=none->j a=some (.lst e)->a9 K g b e->eR K g d v->Q v j)->Ds K p F h H Q _x
def Tx(p:Nat):DO->Option (D×List D)
 |.rm d a=>(kv p a).map λb=>(d,b)
 |.nx a=>(kv p a).map λb=>(.gA,b)
 |_=>M
def B4(n N p:Nat)(g:DG)(a:List D):Option (D×List D):=if a.length=n then (g (i_ N a)).bind (Tx p) else M
def SR.Q1{K:aX}{f v:Hp}{a:aD}(S:SR K B Z G H g i)(w:j∈Z)(t:i[j]?=Y (Y d))(p:g[j]?=Y (Y (.ref a)))(E:i9 G (FC H a) f v)(L:f a=M)(C:v a=Y n)(r:jJ K f u n)(x:autoParam (wH d=true) Ŭ):SR K B Z f v g (i.set j (Y u)):=by
 let(F,W):=S.ow;let(Q,y,N):=W.it j d w t;obtain⟨⟨o,_⟩,l⟩:=(ng.cell x).mp N;have:=S.chg (F0:=[a]) W w (λb c=>⟨Ż,d,t⟩) E.gg E.gh λb o e=>by
   rcases E.fr b o e with z|z
   .exact .inl z
   .by_cases c:b=a
    .exact .inr Ż
    .rw[zY c]at z;exact .inr (.inl z)
  (λb o c e=>E.hh b o (by simp_all [zY])) ((ng.cell r.wH).mpr ⟨⟨n,C,r⟩,rfl⟩) ż λb c=>by simp_all
  λb h=>by have:=(S.pin j b h).2;simp_all (C9 r.wH) λk q J I m e=>(S.RQ t x k q J I e).elim
 simp_all [hW]
def SR.called{K:aX}{f:Hp}{e:cE}{a:aD}{xs':List D}{b:List V}(S:SR K B Z G H d e)(i:j∈Z)(k:e[j]?=Y (Y (.lst g)))(h:d[j]?=Y (Y (.ref a)))(E:i9 G (FC H a) c f)(o:c a=M)(n:f a=Y (.lst b))(r:a9 K c xs' b):SR K B Z c f d (e.set j (Y (.lst xs'))):=
 S.Q1 i k h E o n ⟨b,rfl,r⟩
def su(F:List D->Option (D×List D))(j:Nat)(g:DL):DM:=λa=>(kv j a).bind λb=>(g a).bind λds=>(F (.lst b::ds)).map λq=>(q.1,a.set j (Y (.lst q.2)))
def Y8{F:List D->Option (D×List D)}{e:Pos}{g:DL}(h:km X.prog X.w X.K X.mg X.base x k (Ds X.K 0 F))(hr:hJ k X.A)(hg:Gl X x)(hy:PE X (.Name y e) (j8 j))(ha:PA X l (F8 X.K Z g))(w:autoParam (j∈Z) Ū)(z:autoParam ((x==("__debug__" : aJ))=false) Ū)(O:autoParam (ar (.Name y e::l) X.env=(Z_,eval (.Name y e) X.env)::ar l X.env) Ŭ)(u:autoParam ((eS m (ar l X.env)).any (·.1)=false) Ŭ):PE X (.Call (.Name x p) (.Name y e::l) [] m) (tM X.K B Z (su F j g)):=by
 let(f,fd,ps,h1,hm,hk,hb):=h.ex;refine(B' h1 hr hg hm hk hb .nil rp (eC hy ha O) z O u).imp ?_;rintro σ H Q ⟨G,n,d,U,S,b,q⟩;let(r,E,b):=aa.1 b;let(L,I,b):=aa.1 b;obtain⟨⟨d',o⟩,J,b⟩:=aq.1 b;cases b;let C:=gH E;let(a,vs,K,_):=S.m5 w C;refine⟨_,K,G,n,L,S.gh,S.lg,I,λus G1 H1 s N =>?_⟩;let R:=S.ext s;let(a',t,P,f3,f4,f5,f6):=R.m5 w C;rw[K]at P;cases P;show Ds X.K 0 F _ H1 Q E0;rw[cT];refine⟨G1,_,d',o,a,t,r,s.gh,rfl,rfl,f3,f4,f5,λi c hi ec =>?_,by simp[N.length],J,λv ws' G2 H2 T g2 h2 r2 r3 =>?_⟩
 .cases i with
  |zero=>solve_by_elim|succ i=>exact N.get (by trivial)
 .exact q v G2 H2 (R.called w C K T g2 h2 r2) (s.gg.trans T.gg) r3
end
section
variable {X:Cx}{m:List Nat}{f:DM}
noncomputable def lC(i:Nat)(f:DM):DG:=λa=>(f a).map λq =>.nx (q.2.set i (Y q.1))
def QG{i:Nat}(w:X.N.Nodup)(p:X.N[i]?=Y x)(h:Loc X.env.scope x)(s:PE X e (tM X.K B Z f))(n:autoParam (i∉Z) Ū)(j:autoParam (cY e (Y (.Name x a)) l.line X.env=fK false) Ŭ)(q:autoParam (X.fn x=Z'\/X.env.scope.names.lookup x=Y .local) ŧ):
  PS X (.Assign [.Name x a] e l) (jW X.K B m Z Z (lC i f)):=(mr w p h s j q).imp <|by
 rintro D F H ⟨G,g,o,S,b,k⟩;obtain⟨⟨d,c⟩,z,b⟩:=aq.1 b;cases b;exact⟨G,g,d,c,S,z,λv E C A t r=>k _ E C (A.wg n r)⟩
noncomputable def fE(f:DM):DG:=λa=>(f a).map λq =>.rm q.1 q.2
def yp(h:PE X e (tM X.K B Z f)):PS X (.Return (Y e) l) (jW X.K B m Z t (fE f)):=(um h).imp <|by
 rintro D c H ⟨G,g,o,S,a,k⟩;obtain⟨⟨d,b⟩,i,a⟩:=aq.1 a;cases a;exact⟨G,g,d,b,S,i,λv p n j q r=>k v c p n ⟨Z,j⟩ r⟩
def Gi(i:Nat):DG:=λa=>(kv i a).map λb =>.rm (.lst b) a
def Oa(h:PE X (.Name x p) (j8 i))(g:autoParam (i∈Z) Ū)(b:autoParam (∀a,(i,a)∉B.3) ť)(s:autoParam (Bj i∉Z) Ū)(e:autoParam (i<1000000) Ū):PS X (.Return (Y (.Name x p)) l) (jW X.K B m Z t (Gi i)):=(um h).imp <|by
 rintro D r H ⟨G,F,o,S,d,k⟩;let(O,C,d):=aq.1 d;cases d;let(E,q):=S.freeze (Ź:=Z.filter (· != i)) (λj f=>(fc.mp f).1) i (λj f=>by by_cases c:j=i<;>simp_all) λz=>by simp_all g b s e
 let(v,A,w):=q.env i _ λz=>by simp_all (gH C)
 exact⟨v,A,k v r E H ⟨_,q⟩ w⟩
def Ml(i:Nat)(f:DM):DG:=λa=>(kv i a).bind λ_=>(f a).bind λq=>(kv i q.2).bind λb=>if b.length<eJ then Y (.nx (q.2.set i (Y (.lst (b++[q.1]))))) else M
set_option tactic.hygienic true in
def QM(h:PE X (.Name x p) (j8 i))(T:PE X e (tM X.K B Z f))(F:autoParam (i∈Z) Ū)(q:autoParam (cN (.Name x p) "append" X.env (eval (.Name x p) X.env)=eval (.Name x p) X.env) Ŭ) (z:autoParam (((eS b (ar (e::[]) X.env)).all (λx=> !x.1)&&(ki b (gr [] X.env)).all (λx=>x.1.isSome)
   && decide ((e::[]).length+([]:List n_).length+(if ([]:List n_).isEmpty then 0 else 1)<30))=true) Ŭ) (n:autoParam ((g.endLine==b.line)=true) Ŭ) (L:autoParam (ar (e::[]) X.env=(Z_,eval e X.env)::ar [] X.env) Ŭ) (j:autoParam ((eS b (ar [] X.env)).any (·.1)=false) Ŭ) (E:autoParam (cY (.Call (.Attribute (.Name x p) "append" g) [e] [] b) M l.line X.env=fK false) Ŭ) :
  PS X (.Expr (.Call (.Attribute (.Name x p) "append" g) [e] [] b) l) (jW X.K B m Z Z (Ml i f)):=
 (nI (xl g_ PySem.F.slot_list_append PySem.F.type_list_append kZ h (eC T gG L) q z n L j) E).imp <|by
  rintro D σ H ⟨G,A,o,S,c,k⟩;let(ds0,I,c):=aa.1 c;rw[aa]at c;obtain⟨⟨d,w⟩,J,c⟩:=c;rcases s:kv i w with _|ds
  .simp_all
  rw[s]at c;simp only[ai]at c;split at c
  .cases c;rename_i R;let(a,Q,K,e3,_):=S.m5 F (gH I);refine⟨_,K,.inl ⟨rfl,Q,.of e3⟩,G,A,d,w,S,J,λv G' H' P s' r =>?_⟩;let t:=gH s;refine af λkk =>?_
   let(a',C,O,U,N,_):=P.m5 F t;rw[K]at O;cases O;refine kk (⟨a,C,v,rfl,rfl,U,?_,k _ G' _ (P.mut F t K (N.append (.cons r .nil)))⟩);rw[<- N.length];exact bD R iJ
  .cases c
def iRM(f:DM):LH:=λa=>(f a).bind λq=>match q.1 with|.int j=>if -(2 ^ 62)<=j/\j<2 ^ 62 then Y (lZ 0 j.toNat,q.2) else M|_=>M
set_option tactic.hygienic true
def Hw(w:Gl X "range")(s:X.mg "range" = M)(h:PE X e (tM X.K B Z f))(r:autoParam (ar [e] X.env=(Z_,eval e X.env)::ar [] X.env) Ŭ)(b:autoParam (ar [e] X.env=[(Z_,eval e X.env)]) Ŭ):PI X o (.Call (.Name "range" p) [e] [] l) (Yz X.K B Z (iRM f)):=
 (Be w s (eC h gG r) b).imp <|by
  rintro D H R ⟨G,n,F,i,S,a,k⟩;obtain⟨⟨d,g⟩,x,a⟩:=aa.1 a;cases d<;>simp only[ai]at a<;>try (cases a)
  split at a
  .cases a;rename_i j c;exact⟨G,n,_,_,S,x,λv C A z E q=>⟨j,Ÿ,c.1,c.2,k _ C A z (uz 0 _)⟩⟩
  .cases a
end
def A4{K:aX}{c:D}{T:List aD}(s:bI G H)(L:bI E H)(I:p∈Z)(J:x[p]?=Y c)(F:w[p]?=Y (.ref a))(r:ng K G H c a T)(P:T.Nodup)(X:∀b∈T,G b=M/\E b=M)(C:∀r q,c ≠ .gL r q)(O:∀(i:Nat) c,i≠p->x[i]?=Y c->∃v,w[i]?=Y v/\eR K G c v)(R:x.length=w.length)(Q:∀i∈Z,i=p\/x.length<=i):SR K ⟨G,E,[(p,a)],fl⟩ Z G H (start N w) (i_ N.length x):=by
 have f:∀(i:Nat) v,w[i]?=Y v->(start N w)[i]?=Y (Y v):=λi v e=>by let g:i<w.length:=(ah.mp e).1;unfold start;rw[aM (by simpa using g),aR,e];exact Ÿ
 have n:∀i∈Z,(∃d,(i_ N.length x)[i]?=Y (Y d))->i=p:=λi g ⟨d,e⟩=>by have:=(ah.mp (nZ e)).1;rcases Q i g with z|z<;>lia
 refine⟨s,bI.refl _,L,λb o e =>.inl e,λi d g e =>?_,⟨λ_=>T,λi d g e =>?_,λi d g e=>⟨P,X⟩,λi j d c g S ei ej B=>absurd ((n i g ⟨d,ei⟩).trans (n j S ⟨c,ej⟩).symm) B⟩,by simp[start,i_,R],λi b h =>?_,λj k q U h2 e =>?_⟩
 .let⟨v,ev,l⟩:=O i d (λz=>g (z ▸ I)) (nZ e);exact⟨v,f i v ev,l⟩
 .have z:=n i g ⟨d,e⟩;subst z;let A:=nZ e;rw[J]at A;cases A;exact⟨a,f _ _ F,r⟩
 .have z:(i,b)=(p,a):=by simpa using h
  cases z;exact⟨I,f _ _ F⟩
 .have z:=n j U ⟨_,e⟩;subst z;let A:=nZ e
  grind
def A6{K:aX}(s:bI G H)(j:p∈Z)(q:d[p]?=Y c)(h:e[p]?=Y (.ref a))(w:H a=Y o)(r:jJ K G c o)(x:G a=M)(g:∀(i:Nat) c,i≠p->d[i]?=Y c->∃v,e[i]?=Y v/\eR K G c v)(n:d.length=e.length)(k:∀i∈Z,i=p\/d.length<=i):SR K ⟨G,FC H a,[(p,a)],z⟩ Z G H (start N e) (i_ N.length d):=
 A4 s Jn j q h ((ng.cell r.wH).mpr ⟨⟨o,w,r⟩,rfl⟩) ż λb f=>by simp_all [zX] (C9 r.wH) g n k
def J9{K:aX}{f:List D}(s:bI G H)(j:p∈Z)(o:b[p]?=Y (.lst f))(h:e[p]?=Y (.ref a))(q:H a=Y (.lst d))(r:a9 K G f d)(w:G a=M)(g:∀(i:Nat) c,i≠p->b[i]?=Y c->∃v,e[i]?=Y v/\eR K G c v)(n:b.length=e.length)(k:∀i∈Z,i=p\/b.length<=i):SR K ⟨G,FC H a,[(p,a)],x⟩ Z G H (start N e) (i_ N.length b):=
 A6 s j o h q ⟨d,rfl,r⟩ w g n k
section
variable {P:bE}{K:aX}
set_option tactic.hygienic true
def jy.uV{st:d_}{f:aD}(F:jy K x I st f fd)(S:bH N ps (aF st))(p:Nat){Z Ź:List Nat}{g:DG}(hp:p∈Z)(UE:∀i∈Z,i=p\/ps.length<=i) (hb:∀(L:aj) (A:jz) (j:List Env) (s:aw) (H:Hp) (E:XK),hJ k (A.deeper (rO I (aF st) s.heap.objs.size f L))->∀(B:Bs) (a:aD),B.3=[(p,a)] ->
   qU (xZ i7 P w K u y N I (aF st) f L A j s H E).MT (iT st) (jW K B [] Z Ź g)):cZ P w K u y i7 (k+1) f fd ps (Ds K p (B4 ps.length N.length p g)):=by
 refine F.ok S (λvs H Q E h =>?_) λL A j s H vs Q E hr h =>?_
 .let⟨G,ds,d,R,a,ws,X,gh,hd,hv,ha,r,ga,ro,hl,e,_⟩:=h;unfold B4 at e;split at e<;>simp_all
 .let⟨G,ds,d,R,a,ws,X,gh,hd,hv,ha,r,ga,ro,hl,e,q⟩:=h;unfold B4 at e;split at e
  .rename_i hn;refine⟨_,hb L A j s H E hr ⟨G,FC H a,_,λl l=>False⟩ a rfl,?_⟩;let(o,eg,e):=aa.1 e;have fin:∀ {σ:St}{C:cE}{O T:Hp}{o':List Nat}{U:List D},SR K ⟨G,FC H a,[(p,a)],λl l=>False⟩ o' O T σ C->kv p C=Y U->∃z,T a=Y _/\a9 K O U z/\O a=none:=fun {σ C O T o' U} c J=>by
    refine af λkk =>?_
    let(UD,hσ):=c.pin p a Ÿ;let(b,vs',f2,f3,f4,f5,_):=c.m5 UD (gH J);rw[hσ]at f2;cases f2;exact kk (⟨vs',f3,f4,f5⟩)
   refine⟨G,_,o,J9 gh hp hd hv ha r ga ro hl (by rw[hn];exact UE),eg,?_⟩;cases o with
   |rm d' C=>let⟨U,J,e⟩:=aq.1 e;cases e;intro v σ O T ⟨o',c⟩ rv;let(z,f3,f4,f5):=fin c J;exact q v z O T c.o6 f5 f3 f4 rv
   |nx C=>let⟨U,J,e⟩:=aq.1 e;cases e;intro σ O T c;let(z,f3,f4,f5):=fin c J;exact q _ z O T c.o6 f5 f3 f4 (jB.mpr rfl)
   |_=>cases e
  .cases e
end
def Uk(n:cE)(w:AR)(u:DM)(i0:Nat):List D->List D->Option (List D×List D)
 |[],c=>Y ([],c)|d::e,c=>(w d (n.set i0 (Y (.lst c)))).bind λa=>(u a).bind λp=>(kv i0 p.2).bind λb=>(Uk n w u i0 e b).map λq=>(p.1::q.1,q.2)
def Xb(f:DL)(src:List (Option Nat))(w:AR)(u:DM)(i0 j0:Nat):DM:=λn=>(f n).bind λa=>if a.length<=eJ then (kv j0 n).bind λb=>(Uk (nG src n) w u i0 a b).map λq=>(.lst q.1,n.set j0 (Y (.lst q.2))) else M
def VJ(K:aX)(i0:Nat)(u:DM):TE:=λt H Q=>∃(B:Bs) (a:aD),B.3=[(i0,a)]/\tM K B [i0] u t H Q
def XW{X:Cx}(h:∀(B:Bs) (a:aD),B.3=[(i0,a)]->PE X e (tM X.K B [i0] u)):PE X e (VJ X.K i0 u):=by rintro b s t H Q I ⟨B,a,c,q⟩;exact Ÿ
theorem Aj:∀ {l:List a}{i:Nat}{x:a},l[i]?=Y x->l.set i x=l
 |[],i,x,h=>by simp at h
 |y::l,0,x,h=>by simp_all
 |y::l,i+1,x,h=>by simp at h;simp[Aj h]
section
variable {K:aX}
def DQ{i:Nat}(e:(nG src n)[i]?=Y (Y d)):∃j,src[i]?=Y (Y j)/\n[j]?=Y (Y d):=by
 unfold nG at e;rw[aR]at e;let(o,a,e):=aq.1 e;rw[a];cases o with
 |none=>cases e|some j=>
  let e:=by simpa using e
  refine⟨j,rfl,?_⟩;rcases q:n[j]? with _|z<;>simp_all
def pW{i:Nat}{v:V}(b:src[i]?=Y (Y j))(a:t[j]?=Y (Y v)):(pE src t)[i]?=Y (Y v):=by
 simp_all [pE,aR]
def SR.inner{fl:aJ->Int->Prop}{i0:Nat}(S:SR K B Z G H t (n.set j0 (Y (.lst q))))(y:jO Z [i0] src=Z')(x:src[i0]?=Y (Y j0))(k:∃d,n[j0]?=Y d)(s:t[j0]?=Y (Y (.ref a))):
  SR K ⟨G,FC H a,[(i0,a)],fl⟩ [i0] G H (pE src t) ((nG src n).set i0 (Y (.lst q))):=by
 let l:=(kM y x).mp Ÿ;refine af λkk =>?_
 let(d0,k):=k;let P:(n.set j0 (Y (D.lst q)))[j0]?=Y (Y (.lst q)):=by rw[a7 ((ah.mp k).1)]
 let(b,J,I,e3,e4,_):=S.m5 l P;rw[s]at I;cases I;refine kk (⟨S.gh,bI.refl _,Jn,λb o e =>.inl e,λi d g e =>?_,⟨λu=>[a],λi d g e =>?_,λi d g e=>⟨ż,λb C =>?_⟩,λi j d c g m u u f =>?_⟩,by simp[pE,nG],λi b h =>?_,λj r p R Q e =>?_⟩)
 .rcases iD e with⟨lia,_⟩|⟨f,e⟩
  .simp_all
  .let⟨j,F,ej⟩:=DQ e;let m:j∉Z:=λz=>g ((kM y F).mpr z)
   have:j0≠j:=λz=>m (z ▸ l)
   let(v,f1,X):=S.env j d m Ż;exact⟨v,pW F f1,X⟩
 .let z:i=i0:=by simpa using g
  subst z;rcases iD e with⟨_,rfl,_⟩|_
  .exact⟨a,pW x s,⟨_,e3,J,rfl,e4⟩,rfl⟩
  simp_all
 .simp_all [zX]
 .simp_all
 .simp_all [pW]
 simp_all
end
section
variable {X:Cx}{f:DL}
inductive LcI {α:Type}(K:aX) (B:Bs) (Z:List Nat) (t:St) (e:α->cE) (F:Nat->α->Option (List D×α)) (G:Hp) (z:α) (r:List D) (i:Nat) (y:List V) (H:Hp):Prop
 |mk g l x o:y.length<=i->SR K B Z g H t (e x)->bI G g->a9 K g l y->F i x=some (o,z)->l++o=r->LcI K B Z t e F G z r i y H
set_option tactic.hygienic true in
def Uj{K:aX}(ho:jO Z [i0] src=Z')(h0:src[i0]?=Y (Y j0))(hg:∀(B:Bs) v t H Q,F6 K B [i0] w v t H Q->g v t H Q)(q:tM K B Z (Xb f src w u i0 j0) t H Q):
  VL (BY K Z f) src g (rV K [i0] gU) (VJ K i0 u) t H Q:=by
 let(G,n,d,ρ',S,h,k):=q;let hj0:j0∈Z:=(kM ho h0).mp Ÿ;unfold Xb at h;let(j,ef,h):=aa.1 h;split at h
 .rename_i hz;let(xs0,el,h):=aa.1 h;obtain⟨⟨rs,xsF⟩,em,h⟩:=aq.1 h;cases h;let F:=gH el;let(a,vs0,e2,_):=S.m5 hj0 F;refine⟨G,n,j,S.gh,S.lg,ef,λJ G1 H1 E1 ok =>?_⟩;let S1:=S.ext E1;rw[<- Aj F]at S1;refine⟨λi m ys H2=>m=j.length-i/\i<=j.length/\LcI K B Z t (λb=>n.set j0 (Y (.lst b))) (λi=>Uk (nG src n) w u i0 (j.drop i)) G1 xsF rs i ys H2,
   ⟨j.length,rfl,gz _,G1,[],xs0,rs,aI _,S1,bI.refl _,.nil,em,rfl⟩,?_⟩
  rintro i m ys H2 ⟨rfl,hil,G2,l,xs,o,hyl,S2,s2,rx,c,rfl⟩;let sub:bI G1 H2:=s2.trans S2.gh;by_cases C:i<j.length
  .refine .inr ⟨ok.go i H2 sub C,?_,_,
    λr H' z=>⟨j.length-(i+1),ž,rfl,C,z⟩,λx H3 y =>?_⟩
   .have:=iJ;omega
   .refine af λkk =>?_
    let(G3,E3,Vv):=ok.JY i H2 x H3 G2 j[i] s2 S2.gh y (ao C);let S3:=S2.ext E3;rw[gF C]at c;unfold Uk at c;let(s,et,c):=aa.1 c;obtain⟨⟨x4,ρ5⟩,ee,c⟩:=aa.1 c;let(N,X,c):=aa.1 c;obtain⟨⟨P,xsE⟩,R,c⟩:=aq.1 c;cases c;let SI:=S3.inner (fl:=λr r=>False) ho h0 ⟨_,F⟩ e2;refine kk (hg _ _ _ _ _ ⟨G3,_,j[i],s,SI,Vv,et,λσ4 G4 H4 S4=>⟨G4,s,Z',S4.gh,S4.lg,rfl,λG5 H5 E5=>G7 ?_⟩⟩);refine⟨_,a,rfl,G5,s,x4,ρ5,S4.ext E5,ee,λv G6 H6 S6 s6 r6=>⟨G6,l++[x4],N,P,by simp;omega,?_,?_,?_,R,ż⟩⟩
    .let⟨UD,hσ⟩:=S6.pin i0 a ż;let(b,ws,f2,f3,f4,f5,_):=S6.m5 UD (gH X);rw[hσ]at f2;cases f2;let hl:j0<n.length:=(ah.mp F).1;have:=S3.called (xs':=N) hj0 (by rw[a7 hl]) e2 S6.o6 f5 f3 f4;rw[List.set_set]at this;exact this
    .exact s2.trans (E3.gg.trans S6.g0)
    .exact(a9.mono (E3.gg.trans S6.g0) l rx).append (.cons r6 .nil)
  .let e:i=j.length:=by omega
   subst e;rw[o5]at c;unfold Uk at c;refine af λkk =>?_
   cases c;refine kk (.inl ⟨ok.stop _ H2 sub (aI _),λp hp =>?_⟩);have EA:=i9.alloc (p:=p) (o :=.lst ys) S2.gh hp;refine k _ _ _ (S2.ext EA) (E1.gg.trans (s2.trans EA.gg)) ?_;rw[cT];exact dA.mpr ⟨p,ys,rfl,bB,a9.mono EA.gg l rx⟩
 .cases h
def XX(S:gy X N src A)(j:X.calm=Z')(e:PI X E L (BY X.K Z f))(m:O6 T g)(a:∀i∈T,src[i]?=Y M)(h:∀(B:Bs) v t H Q,F6 X.K B [i0] w v t H Q->g v t H Q)(k:∀C s H b,PG (X.tS N A C s H b) E g/\Fy (X.tS N A C s H b) [] (rV X.K [i0] gU)/\PE (X.tS N A C s H b) O (VJ X.K i0 u))(l:autoParam (src[i0]?=Y (Y j0)) Ŭ)(d:autoParam (jO Z [i0] src=true) Ū)(c:autoParam (∀x,cM L X.env x=fK x) ũ):PE X (.ListComp O [⟨E,L,[],0⟩] A U) (tM X.K B Z (Xb f src w u i0 j0)):=
 (My S j e m a k c).imp λt H Q q=>Uj d l h q
def sE(K:aX)(i i0:Nat)(b:autoParam (i∉[i0]) Ū):∀(B:Bs) v t H Q,F6 K B [i0] (gN i) v t H Q->qf i v t H Q:=λB v t H Q ⟨G,n,d,a,S,r,c,k⟩=>by
 cases c;exact k _ G H (S.wg b r)
end
section
variable {X:Cx}
noncomputable def bK(c f:aJ)(g:DF):DF:=λa=>(g a).bind λd=>match d with|.ins h b e=>if h=c then (b.zip e).lookup f else M|_=>M
theorem Jk{K:aX}{f:aJ}:∀ {b:List aJ}{g:List D}{a:List V}{d:D},a9 K G g a->(b.zip g).lookup f=Y d->∃v,(b.zip a).lookup f=Y v/\eR K G d v
 |[],g,a,d,r,e=>by simp at e
 |k::b,[],a,d,r,e=>by simp at e
 | k::b,c::g,a,d,r,e=>by
  let(v,t,rfl,i,l):=bJ.mp r;simp only[fR,lS]at e ⊢;cases h:f==k with
  |true=>simp_all|false=>rw[h]at e;exact Jk l e
noncomputable def FU:D->V
 |.bl b =>.bl b|.int i =>.int i|.str x =>.str x|_ =>.gA
theorem Ia{K:aX}{v:V}(h:oz d=Z')(r:eR K G d v):v=FU d/\rB v=true:=by
 cases d<;>first|(simp[oz]at h;done)|(subst r;exact Ÿ)
theorem DA{K:aX}:∀ {b:List D}{a:List V},b.all oz=Z'->a9 K G b a->a=b.map FU/\a.all rB=Z'
 |[],a,h,r=>by rw[dO.mp r];simp_all
 | d::b,a,h,r=>by
  rw[jt,aA]at h;let(v,t,rfl,c,e):=bJ.mp r;let(k,g):=Ia h.1 c;let(i,f):=DA h.2 e
  simp_all
def O8(b:Bool)(x:D)(a:List D):Option D:=if (oz x&&a.all oz)=Z' then Y (.bl (if b then !KN (FU x) (a.map FU) else KN (FU x) (a.map FU))) else M
def tm(a:Bool):D->D->Option D
 |x,.lst b=>O8 a x b|x,.tup b=>O8 a x b|_,_=>M
set_option tactic.hygienic true in
def Si{K:aX}(h:rD K (tm c) x y H Q):ZZ K c x y H Q:=by
 let(G,t,C,d,k,w,u,l,q):=h;have fin:∀(m:List D) (b:List V),O8 c t m=Y d->a9 K G m b->rB x=Z'/\b.all rB=Z'/\d=.bl (if c then !KN x b else KN x b):=λm b e r=>by
  unfold O8 at e;split at e
  .rename_i i;let v:eR K G t x:=by
    rcases w with z|⟨a,o,_,_,z⟩
    .exact z
    .cases t<;>first|exact z.elim|simp_all [oz]
   grind [Ia,DA]
  .cases e
 unfold tm at l;split at l<;>try (cases l)
 .let⟨p,b,rfl,s,n⟩:=u.lst k;let(g,f,rfl):=fin _ _ l n;exact⟨p,b,rfl,.inl (.of s),g,f,q _ G H (.refl k) (iA.mpr rfl)⟩
 .let⟨p,b,rfl,s,n⟩:=u.tup k;let(g,f,rfl):=fin _ _ l n;exact⟨p,b,rfl,.inr (.of s),g,f,q _ G H (.refl k) (iA.mpr rfl)⟩
abbrev à:=tm Z_
def ab9:BN X (ik .In) à:=pk.imp Ko λx y H Q h=>Si h
abbrev á:=tm Z'
def W6:BN X (ik .NotIn) á:=pk.imp Cb λx y H Q h=>Si h
noncomputable def KG:D->Bool
 |.bl _=>Z'|_=>Z_
noncomputable def vF:D->Bool
 |.bl b=>b|_=>Z_
def gW(b:Bool):List D->Option D
 |[.lst a]=>if a.all KG=Z' then Y (.bl (if b then a.all vF else a.any vF)) else M
 |_=>M
def Vj{K:aX}{f:List aj}(h:a.all KG=Z')(r:a9 K G a l)(m:cR l f){i:Nat}{u:aj}(e:f[i]?=Y u):∃b,u=.bool b/\(a[i]?).map vF=Y b:=by
 have d:i<a.length:=by rw[r.length,m.length];exact((ah.mp e).1)
 let k:=ao d;let(v,s,c):=r.get k;let(w,p,g):=m.get s;rw[e]at p;cases p;have o:=fX.mp h _ (uT d);cases n:a[i] with
 |bl b=>rw[n]at c k;have:=iA.mp c;subst this;exact⟨b,g,by rw[k];solve_by_elim⟩
 |_=>rw[n]at o;cases o
def Ln{ys:List D}{tr:Nat->Bool}(h:∀i,i<ys.length->(ys[i]?).map vF=Y (tr i)):(cL ys.length).all tr=ys.all vF/\(cL ys.length).any tr=ys.any vF:=by
 have:(cL ys.length).map tr=ys.map vF:=by apply Dp;intro i;by_cases a:i<ys.length<;>simp_all
 constructor
 .simpa [jn] using congrArg (λl=>l.all id) this
 .simpa [nV] using congrArg (λl=>l.any id) this
set_option tactic.hygienic true in
def BF(l:X.calm=Z')(h:Bool):lP X (.builtin (if h then "all" else "any")) (rC X.K (gW h)):=by
 intro A s P H xs us Q I R ⟨G,ds,d,O,r,t,q⟩;unfold gW at t;split at t
 .rename_i m;split at t
  .cases t;rename_i hb;let(v,rfl,T):=r.one;let(a,vs,rfl,U,L):=T.lst O;let(u,rfl,S):=cR.one R;cases S;let(g,y,J,hz):=I.list (.of U);let(o,j,hc,n0,hd):=J.isList;have D:a≠s.heap.objs.size:=cA (aQ j);have k:g.toArray.size=m.length:=by simp[L.length,y.length]
   obtain⟨w,ew⟩:∃w:Nat->Bool,∀i,w i=((m[i]?).map vF).getD false:=⟨_,λ_=>rfl⟩;have C:TruthOf X.prog X.w X.A.in1 (λi v=>g.toArray[i]?=Y v) w:=λi v s Q E hP N=>by
    let(b,rfl,K):=Vj hb L y (i:=i) (u:=v) (by simpa using hP);have:w i=b:=by rw[ew,K];exact Ÿ
    rw[this]at N;exact lW N
   have f:=Ln (ys:=m) (tr:=w) λi hi=>by rw[ew,ao hi];exact Ÿ
   have fin:∀(b:Bool) (p:dY) (n:Nat),(∀c F,c∉[s.heap.objs.size]->(s.heap.push { cls :=.type "list_iterator",data :=.fields #[.ref a,.int 0 0] }).get? c=Y F->p.get? c=Y F)->b=(if h then m.all vF else m.any vF) ->
     EP X A P Q (.bool b) { s with heap:=p,toks:=n }:=λb p n B K=>
    ⟨.bl b,H,I.kept (t':=n) λc F e=>B c F (λz=>by
     have z:c=s.heap.objs.size:=by simpa using z
     exact absurd (aQ e) (by rw[z];exact px _)) (ak _ e),rfl,by
     rw[K];exact q _ G H (.refl O) (iA.mpr rfl)⟩
   have x:(s.heap.push { cls :=.type "list_iterator",data :=.fields #[.ref a,.int 0 0] }).IsListIter s.heap.objs.size a 0/\(s.heap.push { cls :=.type "list_iterator",data :=.fields #[.ref a,.int 0 0] }).IsList a g.toArray:=
    ⟨⟨_,bL _ rfl,rfl,rfl⟩,⟨o,ak _ j,hc,n0,hd⟩⟩
   cases h with
   |true=>refine call_all_walk (lX J.isList ⟨s.heap.objs.size,_,_,_,_,_,w,rfl,Walks.list (A:=X.A.in1) (I.ok.hd l) _ a D g.toArray,x,C,λp n B =>?_⟩);rw[k,f.1];exact fin _ p n B rfl
   |false=>refine call_any_walk (lX J.isList ⟨s.heap.objs.size,_,_,_,_,_,w,rfl,Walks.list (A:=X.A.in1) (I.ok.hd l) _ a D g.toArray,x,C,λp n B =>?_⟩);rw[k,f.2];exact fin _ p n B rfl
  .cases t
 .cases t
variable {f:DF}
def Hx(a:X.calm=Z')(d:Gl X "all")(c:X.mg "all" = M)(h:PE X e (tQ X.K Z f))(b:autoParam (ar (e::[]) X.env=(Z_,eval e X.env)::ar [] X.env) Ŭ):PE X (.Call (.Name "all" p) [e] [] j) (tP X.K Z (aW (gW Z') (aC f aN))):=
 vA (BF a _) d c PyProof.Rows.boot_all (sO h yr b) ſ ſ b rfl
def Ou(a:X.calm=Z')(d:Gl X "any")(c:X.mg "any" = M)(h:PE X e (tQ X.K Z f))(b:autoParam (ar (e::[]) X.env=(Z_,eval e X.env)::ar [] X.env) Ŭ):PE X (.Call (.Name "any" p) [e] [] j) (tP X.K Z (aW (gW Z_) (aC f aN))):=
 vA (BF a _) d c PyProof.Rows.boot_any (sO h yr b) ſ ſ b rfl
end
section
variable {X:Cx}{f:DF}
end
section
variable {X:Cx}{m:List Nat}{f:DF}
end
def Q4{X:Cx}{g:List aJ}{s:aw}(k:b.kind=.function)(h:vE a g N d b=Z'):gy (X.tS g a C s H t) N d b:=by
 unfold vE at h;simp only[aA,fX,beq_iff_eq,bU]at h;obtain⟨⟨⟨r,q⟩,p⟩,o⟩:=h;refine⟨k,λy e=>r y e,λy e m =>?_,p,λi j x f n =>?_⟩
 .show (relabel a X.env).names.lookup y.1=Y .cell\/(relabel a X.env).names.lookup y.1=Y .free;unfold relabel;rw[oK];rcases q y e with z|z<;>grind
 .let l:=(ah.mp f).1;have:=o i Ż;rw[f,n]at this;simp at this;exact this
section
variable {X:Cx}{f:DF}
end
noncomputable def R6(i j l:Nat):AR:=λd e=>match d with|.tup [a,b,c]=>Y (((e.set i (Y a)).set j (Y b)).set l (Y c))|_=>M
def NM{f:cE}(h:R6 i j l d f=Y e):∃a b c,d=.tup [a,b,c]/\e=((f.set i (Y a)).set j (Y b)).set l (Y c):=by
 unfold R6 at h;split at h<;>lia
def Kg{K:aX}{v:V}(r:eR K G (.tup [a,b,c]) v):∃p x y z,v=.ref p/\G p=Y (.tup [x,y,z])/\eR K G a x/\eR K G b y/\eR K G c z:=by
 refine af λkk =>?_
 let(p,j,e,g,i):=fy.mp r;let(x,n,rfl,h,t):=bJ.mp i;let(y,l,rfl,f,t):=bJ.mp t;let(z,k,rfl,d,t):=bJ.mp t;rw[dO.mp t]at g;exact kk (⟨p,x,y,z,e,g,h,f,d⟩)
section
variable {X:Cx}{m:List Nat}
def XZ{i:Nat}(h:PG X e (UN X.K 3 (Bt (qf i) (Bt (qf j) (Bt (qf l) UO)))))(u:autoParam (i∉Z) Ū)(t:autoParam (j∉Z) Ū)(s:autoParam (l∉Z) Ū):PG X e (F6 X.K B Z (R6 i j l)):=h.imp <|by
 rintro v A H Q ⟨G,C,d,f,S,r,w,k⟩;let(a,b,c,rfl,rfl):=NM w;let(p,x,y,z,rfl,g,q,o,n):=Kg r;exact⟨p,_,rfl,.of (S.gh _ _ g),rfl,x,_,rfl,y,_,rfl,z,_,rfl,rfl,k _ G H (((S.wg u q).wg t o).wg s n)⟩
end
end L2
namespace L2
open PySem PyProof.Rows PySem.Spec
section
variable {s:aw}
end
end L2
namespace L2
open PySem PySem.Spec PyProof.Rows
noncomputable def wd(c:List Int):List Int:=c.mergeSort (λa b=>decide (a<=b))
def lA(a:List Int):(wd a).Perm a:=List.mergeSort_perm a _
def Gd(ns:List Int):(wd ns).Pairwise (· <= ·):=by
 exact(List.pairwise_mergeSort (le:=λa b=>decide (a<=b)) λa b c h1 h2=>by grind λa b=>by simp;omega ns).imp λh=>by simpa using h
def SO(p:a.Perm b)(h:a.Pairwise (· <= ·)):a=wd b:=PySem.W.ksm_same (p.trans (lA b).symm) h (Gd b)
theorem vt:∀ {b:List Int}{a:List aj},cR (b.map V.int) a->FN a b
 |[],a,h=>by cases h;exact .nil
 | n::r,a,h=>by
  cases h with
  |cons d c=>let⟨t,rfl⟩:=d;exact .cons n t (vt c)
def BQ(h:FN a b):cR (b.map V.int) a:=by
 induction h with|nil=>exact .nil|cons n t _ ih=>solve_by_elim
section
variable {X:Cx}{f:DF}
noncomputable def Bn:List D->Option (List Int)
 |[]=>Y []|.int i::r=>(Bn r).map (i :: ·)|_::_=>M
theorem zF:∀ {b:List D}{a:List Int},Bn b=Y a->b=a.map D.int
 |[],a,h=>by cases h;exact Ÿ
 | d::r,a,h=>by
  cases d<;>simp only[Bn]at h<;>try (cases h)
  let(c,e,h):=aq.1 h;cases h;rw[zF e];exact Ÿ
theorem wm{K:aX}:∀ {b:List Int}{a:List V},a9 K G (b.map D.int) a↔a=b.map V.int
 |[],a=>by simp[a9]
 | n::r,a=>by
  simp;constructor
  .rintro⟨v,t,rfl,rfl,h⟩;rw[wm.mp h]
  .rintro rfl;exact⟨_,_,rfl,rfl,wm.mpr rfl⟩
end
section
variable {X:Cx}{m:List Nat}
def NX(r n:DF):DL:=λa=>(r a).bind λx=>(n a).bind λy=>match x,y with|.lst c,.lst b=>if c.length+b.length<=eJ then Y (c++b) else M|_,_=>M
set_option tactic.hygienic true
def Zd(I:PE X a (tQ X.K m r))(F:PE X b (tQ X.K m n)):PE X (.BinOp a .Add b w) (tF X.K m (NX r n)):=
 (D_ MK I F).imp <|by
  rintro P H Q ⟨G,h,R,J,f,c,k⟩;unfold NX at c;let(x,L,c):=aa.1 c;rw[aa]at c;let(y,q,c):=c;refine⟨G,h,x,J,f,L,λv N T g B=>⟨N,h,y,g.gh,f.ext g,q,λu U S d A =>?_⟩⟩;split at c<;>try (cases c;done)
  split at c
  .cases c;rename_i E;let(p,s,K,C,z):=(B.ext d).lst d.gh;let(D,t,o,i,e):=A.lst d.gh;refine⟨p,D,s,t,K,o,C,i,?_,λl j =>?_⟩
   .rw[<- z.length,<- e.length];exact bX E iJ
   .let O:=i9.lay (p:=l) (o :=.lst (s++t)) d.gh j;exact k l _ U _ ((g.trans d).trans O) (g.hh.free (d.hh.free j)) (d.gh.free j) bB (z.append e)
  .cases c
end
end L2
namespace L2
open PySem
section
variable {X:Cx}
def vP(i:Nat)(f:autoParam (X.N[i]?=Y x) Ŭ)(c:autoParam (Vp X.env.scope x) Ű)(e:autoParam ((x==("__debug__" : aJ))=false) Ū)(b:autoParam ((x==("__classdict__" : aJ))=false) Ū)(d:autoParam (i∉Z) Ū):PE X (.Name x a) (tP X.K Z (eV i)):=dv (pv i f c e b) d
def vQ(i:Nat)(f:autoParam (X.N[i]?=Y x) Ŭ)(c:autoParam (Vp X.env.scope x) Ű)(e:autoParam ((x==("__debug__" : aJ))=false) Ū)(b:autoParam ((x==("__classdict__" : aJ))=false) Ū)(d:autoParam (i∉Z) Ū):PE X (.Name x a) (tQ X.K Z (eV i)):=dq (vP i f c e b d)
end
end L2
namespace L2
open PySem PySem.Spec PyProof.Rows
section
variable [DecidableEq G]
noncomputable def tJ(iG:List (G×V))(k:G):Option V:=(iG.find? λa=>decide (a.1=k)).map (·.2)
noncomputable def w_(iG:List (G×V))(k:G)(v:V):List (G×V):=
 if (iG.any λa=>decide (a.1=k))=Z' then iG.map (λa=>if a.1=k then (a.1,v) else a) else iG++[(k,v)]
def u0{p:G×V}(e:p.1=k):tJ (p::r) k=Y p.2:=by simp[tJ,mK,e]
def rP{p:G×V}(e:¬p.1=k):tJ (p::r) k=tJ r k:=by simp[tJ,mK,e]
theorem Dz(k:G):∀iG:List (G×V),(iG.any λa=>decide (a.1=k))=(tJ iG k).isSome
 |[]=>rfl| p::r=>by
  rw[pz];by_cases e:p.1=k
  .simp_all [u0,decide_eq_true,Bool.true_or,Option.isSome_some]
  .rw[rP e,decide_eq_false e];exact Dz k r
theorem xq(iG:List (G×V))(k:G)(v:V):(w_ iG k v).length<=iG.length+1:=by
 grind [w_,az,aS,bZ,qu]
def sR.wF(r:sR o u):o.isSome=u.isSome:=by
 cases o with
 | none=>cases u with
  |none=>rfl|some _=>solve_by_elim
 | some _=>cases u with
  |none=>solve_by_elim|some _=>rfl
def sR.getD{u:Option aj}(r:sR o u)(b:RelV d a):RelV (o.getD d) (u.getD a):=by
 cases o with
 | none=>cases u with
  |none=>exact b|some _=>solve_by_elim
 | some _=>cases u with
  |none=>solve_by_elim|some _=>exact r
def KV.val{f:List (G×aj)}(r:KV iG f)(k:G):sR (tJ iG k) (valueAt f k):=by
 induction r with
 |nil=>solve_by_elim|@cons p q l a h t ih=>
  let⟨g,i⟩:=h;by_cases e:p.1=k
  .let b:valueAt (q::a) k=Y q.2:=by simp[valueAt,mK,g.symm.trans e]
   rw[u0 e,b];exact i
  simp_all [valueAt,mK,rP]
def KV.any(r:KV iG b)(k:G):(iG.any λa=>decide (a.1=k))=b.any λa=>decide (a.1=k):=by
 induction r<;>simp_all
theorem KV.S_(r:KV iG d)(k:G)(f:RelV y u):
  KV (iG.map λa=>if a.1=k then (a.1,y) else a) (d.map λa=>if a.1=k then (a.1,u) else a):=by
 induction r with
 |nil=>exact .nil|@cons p q l i h t ih=>
  refine .cons ?_ ih
  grind
def KV.put(r:KV iG a)(k:G){u:aj}(b:RelV y u):KV (w_ iG k y) (stored a k u):=by
 unfold w_ stored;rw[r.any k];by_cases e:(a.any λd=>decide (d.1=k))=Z'
 .rw[if_pos e,if_pos e];exact r.S_ k b
 .rw[if_neg e,if_neg e];exact Paired.snoc r ⟨rfl,b⟩
def KV.length{a:List (G×aj)}(r:KV iG a):iG.length=a.length:=Paired.length r
end
def ED{P:bE}{k:l_}(r:RelV (kV k) u):(jX P w).is k u=true:=by
 cases k with
 |inl i=>let⟨t,e⟩:=r;simp_all [Es]
 |inr x=>let⟨t,e⟩:=r;simp_all [Er]
theorem Bm{P:bE}:∀ {a:List l_}{b:List aj},cR (a.map kV) b->ItemsAre (jX P w) a b
 |[],_,r=>by cases r;exact .nil
 | k::a,_,r=>by
  cases r with|cons h t=>exact .cons (ED h) (Bm t)
abbrev KT(H:Hp):List (List l_×V)->List (List l_×aD×aj)->Prop:=Paired λp q=>p.1=q.1/\H q.2.1=Y (.tup (p.1.map kV))/\RelV p.2 q.2.2
def KT.val{f:List (List l_×aD×aj)}(r:KT H iG f)(k:List l_):sR (tJ iG k) ((atKey f k).map (·.2)):=by
 induction r with
 |nil=>solve_by_elim|@cons p q l a h t ih=>
  let⟨g,_,i⟩:=h;by_cases e:p.1=k
  .let b:atKey (q::a) k=Y q.2:=by simp[atKey,mK,g.symm.trans e]
   rw[u0 e,b];exact i
  simp_all [atKey,mK,rP]
theorem KT.S_(r:KT H iG d)(k:List l_)(g:RelV y u):
  KT H (iG.map λb=>if b.1=k then (b.1,y) else b) (d.map (putAt k u)):=by
 induction r with
 |nil=>exact .nil|@cons p q o l h t ih=>rw[a_];refine .cons ?_ ih;obtain _:=h;unfold putAt;by_cases e:p.1=k<;>simp_all
def KT.put(r:KT H iG a)(k:List l_){u:aj}(g:H b=Y (.tup (k.map kV)))(d:RelV y u):
  KT H (w_ iG k y) (storedH a k b u):=by
 let e:(iG.any λf=>decide (f.1=k))=(atKey a k).isSome:=by rw[Dz,(r.val k).wF,Option.isSome_map]
 unfold w_ storedH;rw[e];by_cases q:(atKey a k).isSome=Z'
 .rw[if_pos q,if_pos q];exact r.S_ k d
 .rw[if_neg q,if_neg q];exact Paired.snoc r ⟨rfl,g,d⟩
def KT.keeps(r:KT H iG d)(f:∀b a,H b=Y (.tup a)->e b=Y (.tup a)):KT e iG d:=
 Paired.Xa r λc c z=>⟨z.1,f _ _ z.2.1,z.2.2⟩
section
variable {P:bE}
def Mp(b:pL P w H h)(e:Rd H a u):j7 P w H h a u:=e.ok b
def Bz(d:pL P w H h)(e:Rd H a (.dK iG)):iG.length<=aY/\(a==kT)=Z_/\∃b,KV iG b/\h.DictOf (jX P w) a b:=
 Mp d e
def XY(d:pL P w H h)(e:H a=Y (.dK iG)):iG.length<=aY/\(a==kT)=Z_/\∃b,KV iG b/\h.DictOf (jX P w) a b:=Bz d (.inl e)
theorem zy(f:pL P w H h)(e:H a=Y (.tup (b.map kV))):(OX (jX P w)).is h b a:=by
 let(_,d,r,o,k,i,n,g):=f a _ e;exact⟨o,_,n,k,i,g,by simpa using Bm r⟩
def Bx(g:pL P w H h)(e:Rd H a (.dT iG)):iG.length<=aY/\(a==kT)=Z_ /\
  ∃d,KT H iG d/\h.DictOfH (OX (jX P w)) a d:=by
 let(z,y,d,r,o,D,E,A,v,u,s,k):=Mp g e;refine⟨z,y,d,r,o,D,E,A,v,u,s,λx b =>?_,k⟩;let f:∀ {l:List _}{m:List _},KT H l m->∀x∈m,(OX (jX P w)).is h x.1 x.2.1:=by
  intro l m q
  induction q with|nil=>simp_all|@cons p q I F i t ih=>grind [zy]
 exact f r x b
def XQ(d:pL P w H h)(e:H a=Y (.dT iG)):iG.length<=aY/\(a==kT)=Z_ /\
  ∃b,KT H iG b/\h.DictOfH (OX (jX P w)) a b:=Bx d (.inl e)
end
def x6(H:Hp)(a:aD)(y:V)(r:Option V):Prop:=
 (∃iG k,Rd H a (.dK iG)/\y=kV k/\r=tJ iG k)\/∃iG k b,Rd H a (.dT iG)/\y=.ref b/\H b=Y (.tup (k.map kV))/\r=tJ iG k
def OT(H:Hp)(a:aD)(y v:V)(d:Hp):Prop:=
 (∃iG k,H a=Y (.dK iG)/\y=kV k/\iG.length<aY/\d=fD H a (.dK (w_ iG k v))) \/
 ∃iG k b,H a=Y (.dT iG)/\y=.ref b/\H b=Y (.tup (k.map kV))/\iG.length<aY/\d=fD H a (.dT (w_ iG k v))
def x6.k{a:aD}{k:l_}(e:H a=Y (.dK iG)):x6 H a (kV k) (tJ iG k) :=.inl ⟨iG,k,.inl e,rfl,rfl⟩
def OT.k{a:aD}{k:l_}{v:V}(e:H a=Y (.dK iG))(b:iG.length<aY):OT H a (kV k) v (fD H a (.dK (w_ iG k v))) :=.inl ⟨iG,k,e,rfl,b,rfl⟩
section
variable {X:Cx}{s:aw}{v:V}
def Inv.big(I:Inv X C B H s):kT<s.heap.objs.size:=by
 exact Ro ſ (I.mod.glob.keeps I.bk).lt
def K8(F:A.units+1<rK)(I:Inv X C B H s)(g:x6 H a y (Y v))(w:RelV y u)(h:∀i t,Inv X C B H t->RelV v i->Q i t):
  bP (bG X.prog X.w) A (Lp (.ref a) u) Q E s:=by
 rcases g with⟨iG,k,e,q,l⟩|⟨iG,k,b,e,q,P,l⟩
 .subst q;let(z,c,D,f,r):=Bz I.jr e;let(i,hw,d):=sR.some_of (by rw[l];exact f.val k);exact wpAny_getItem_of (ED w) r.mapOf hw (h i _ (I.tok _) d)
 .subst q;cases w;let(z,c,x,f,r):=Bx I.jr e;let(i,hw,d):=sR.some_of (by rw[l];exact f.val k);let(p,K,o):=aq.mp hw;refine wpAny_getItem_heap (uN F) (zy I.jr P) r K ?_;rw[o];exact h i _ (I.tok _) d
def QT(v:A.units+1<rK)(I:Inv X C B H s)(g:x6 H a y o)(t:RelV y u)(h:∀r,Inv X C B H r->Q (.bool (!o.isSome)) r):
  bP (bG X.prog X.w) A (ik .NotIn u (.ref a)) Q E s:=by
 rcases g with⟨iG,k,e,i,l⟩|⟨iG,k,b,e,i,w,l⟩
 .subst i;let(z,f,D,d,p):=Bz I.jr e;refine wpAny_notIn_of (ED t) f p.mapOf ?_;rw[<- (d.val k).wF,<- l];exact h _ (I.tok _)
 .subst i;cases t;let(z,f,x,d,p):=Bx I.jr e;refine wpAny_notIn_heap (uN v) (zy I.jr w) f p ?_;let q:=(d.val k).wF;rw[Option.isSome_map]at q;rw[<- q,<- l];exact h _ (I.tok _)
def Jx{t':Nat}{e:HO}(I:Inv X C B H s)(g:Yl (H a))(h:kU a s.heap d)(i:∃q,d.get? a=Y q)(f:j7 X.prog X.w (fD H a e) d a e):
  Inv X C B (fD H a e) { s with heap:=d,toks:=t' }:=
 I.write g (.inl rfl) (λb q k z=>(h.2 b k).trans z) i f
def U5{P:bE}(z:iG.length<=aY)(f:(a==kT)=Z_)(d:KV iG b)(g:e.DictOf (jX P w) a b):
  j7 P w h e a (.dK iG):=⟨z,f,b,d,g⟩
def K7(hu:A.units+1<rK)(I:Inv X C B H s)(g:OT H a y v H')(j:RelV y u)(P:RelV v r)(h:∀K,Inv X C B H' K->Q () K):
  bP (bG X.prog X.w) A (setItem (.ref a) u r) Q E s:=by
 rcases g with⟨iG,k,e,x,l,D⟩|⟨iG,k,b,e,x,eb,l,D⟩
 .subst x D;let(z,w,vs,d,F):=XY I.jr e;let o:vs.length<=aY:=by rw[<- d.length];exact z
  let t:(w_ iG k v).length<=aY:=by grind [xq]
  exact wpAny_setItem_pairs (hsz:=o) (ED j) F λR f p=>h _ (Jx I (by rw[e];exact Ÿ) p (let⟨q,_,_,i,_⟩:=f;⟨q,i⟩) (U5 t w (d.put k P) f))
 .subst x D;cases j;let(z,w,xs,d,F):=XQ I.jr e;let o:xs.length<=aY:=by rw[<- Paired.length d];exact z
  let t:(w_ iG k v).length<=aY:=by grind [xq]
  refine wpAny_setItem_heap (uN hu) (zy I.jr eb) F λR f p=>h _ ?_
  let(q,es,ep,i,h2,h3,h4,_,h5):=f;refine Jx I (by rw[e];exact Ÿ) p ⟨q,i⟩ ⟨t,w,_,(d.put k eb P).keeps λc ys S =>?_,q,es,ep,i,h2,h3,h4,h5⟩;rw[aP (by grind)];exact S
end
section
variable {X:Cx}{s:aw}
end
def Vq(i:Expr):Prop:=∀a b,O_ i Z_ a b=operate [a,b] (Lp a b)
def Po{s:aw}(y:typeLookup (.type a) "__getitem__" = fK (Y (.builtin u)))(v:Vq d)(h:bP (bG b w) A (eval T l) (λo k=>bP (bG b w) A (eval d l) (λi e=>e.TypeIs o a/\bP (bG b w) A (Lp o i) Q E e) E k) E s):
  bP (bG b w) A (eval (.Subscript T d N) l) Q E s:=by
 refine Subscript_ (iN h (λo k q=>iN q (λi e f =>?_) λc c x=>x) λc c x=>x);let(t,f):=f;refine ay ?_;refine ay (wpAny_specialOf t y ?_);let fin:bP (bG b w) A (O_ d Z_ o i) (λr g=>bP (bG b w) A (letTemporaryGo T o r >>= λc=>fK r) Q E g) E e:=by rw[v o i];exact wpAny_operating (iN f (λr g p=>ay (wpAny_letTemporaryGo (bS p))) λc c x=>x)
 simp_all [bS,ay]
def EU{X:Cx}{s:aw}(I:Inv X C B H s)(g:x6 H a y o):s.TypeIs (.ref a) "dict" :=by
 rcases g with⟨iG,k,e,_⟩|⟨iG,k,b,e,_⟩
 .let⟨_,_,h,_,d⟩:=Bz I.jr e;exact d.typeIs
 .let⟨_,_,f,_,d⟩:=Bx I.jr e;exact d.typeIs
def Wy(J L:TE):TE:=λB H Q=>J B H λx d=>L B d λy b=>∃a v,x=.ref a/\x6 b a y (Y v)/\Q v b
def Pn(L J:TE):TE:=λB H Q=>L B H λy d=>J B d λx b=>∃a o,x=.ref a/\x6 b a y o/\Q (.bl (!o.isSome)) b
def WK(J L U:TE):TS:=λD B H=>U B H λv f=>J B f λx e=>L B e λy d=>∃a b,x=.ref a/\OT d a y v b/\D.nx B b
section
variable {X:Cx}{m:Pos}
def P2(q:X.A.units+1<rK)(t:PE X o J)(w:PE X i L)(r:Vq i):PE X (.Subscript o i N) (Wy J L):=by
 intro C s B H Q I h;refine Po PySem.F.slot_dict_getitem.lookup r (g8 (t C s B H _ I h) ?_);rintro u e ⟨x,F,D,k,p⟩;refine g8 (w C e B F _ D p) ?_;rintro R P ⟨y,E,d,f,a,v,z,g,l⟩;subst z;obtain rfl:u=il a:=k;exact⟨EU d g,K8 q d g f λK c A b=>⟨v,E,A,b,l⟩⟩
def Kl(p:X.A.units+1<rK)(r:PE X i L)(q:PE X o J):PC X .NotIn i o (Pn L J):=by
 intro C s B H Q I h;refine g8 (r C s B H _ I h) ?_;rintro K b ⟨y,D,z,d,k⟩;refine g8 (q C b B D _ z k) ?_;rintro u F ⟨x,A,w,e,a,l,t,g,f⟩;subst t;obtain rfl:u=il a:=e;exact QT p w g d λE v=>⟨.bl _,A,v,rfl,f⟩
def PV(w:X.A.units+1<rK)(A:PE X o J)(E:PE X i L)(t:PE X T U)(z:cY T (Y (.Subscript o i j)) N.line X.env=fK Z_):
  PS X (.Assign [.Subscript o i j] T N) (WK J L U):=by
 intro C s B H D I h;refine wpAny_Assign_Subscript (g8 (t C s B H _ I h) ?_) z;rintro r d ⟨v,H1,Q,k,q⟩;refine g8 (A C d B H1 _ Q q) ?_;rintro u b ⟨x,S,P,f,p⟩;refine g8 (E C b B S _ P p) ?_;rintro iv s3 ⟨y,H3,c,e,a,R,F,g,l⟩;subst F;obtain rfl:u=il a:=f;exact K7 w c g e k λs4 K=>⟨B,R,K,l⟩
end
def Oi{P:bE}{w:fw}(h:dY)(a:kT<h.objs.size):j7 P w H (h.push { cls :=.type "dict",data :=.dict #[] }) h.objs.size (.dK []):=
 ⟨gz _,beq_eq_false_iff_ne.mpr (bQ (cA a)),[],.nil,Heap.DictOf.new h⟩
def SH:TE:=λ_ H Q=>∀p,H p=M->Q (.ref p) (fD H p (.dK []))
section
variable {X:Cx}
def MB:PE X (.Dict [] [] N) SH:=λC s B H Q I h=>
 wpAny_Dict_empty ⟨.ref _,_,I.laid (λa a q=>ak _ q) (aI _) (Oi _ I.big),rfl,h _ (I.jr.fresh (aI _))⟩
end
structure M2(X:Cx)(o:Expr)(m:aJ)(Am:Pos)(e f:Expr)(x5:Pos):Prop where
 base:cN o m X.env (eval o X.env)=eval o X.env
 VX:((eS x5 (ar [e,f] X.env)).all (λx=> !x.1)&&(ki x5 (gr [] X.env)).all (λx=>x.1.isSome)
  && decide (([e,f]:List Expr).length+([]:List n_).length+(if ([]:List n_).isEmpty then 0 else 1)<30))=true
 line:(Am.endLine==x5.line)=true
 trees:eS x5 (ar [e,f] X.env)=[(false,eval e X.env),(false,eval f X.env)]
def IsD(H:Hp)(a:aD):Prop:=(∃iG,Rd H a (.dK iG))\/∃iG,Rd H a (.dT iG)
def Uw{X:Cx}{s:aw}(I:Inv X C B H s)(d:IsD H a):
  s.TypeIs (.ref a) "dict" /\(∀b,il a=.ref b->∃f,s.heap.get? b=Y f/\f.dict=M)/\(a==kT)=false:=by
 rcases d with⟨iG,e⟩|⟨iG,e⟩
 .let⟨_,h,o,_,g⟩:=Bz I.jr e;refine⟨g.typeIs,λb q =>?_,h⟩;cases q;let(f,_,_,k,i,_):=g;exact⟨f,k,i.2.1⟩
 .let⟨_,h,l,_,g⟩:=Bx I.jr e;refine⟨g.typeIs,λb q =>?_,h⟩;cases q;let(f,_,_,k,i,_):=g;exact⟨f,k,i.2.1⟩
section
variable {X:Cx}{s:aw}
def Vb(F:A.units+1<rK)(I:Inv X C B H s)(g:x6 H a y o)(w:RelV y u)(x:RelV d r)(h:∀t v,Inv X C B H v->RelV (o.getD d) t->Q t v):
  bP (bG X.prog X.w) A (call (.builtin "dict.get") [.ref a,u,r]) Q E s:=by
 rcases g with⟨iG,k,e,q,l⟩|⟨iG,k,b,e,q,K,l⟩
 .subst q;let(z,p,c,f,i):=Bz I.jr e;refine call_meetsIn PySem.F.slot_dict_get i.typeIs PySem.F.entry_dict_get (PySem.F.args_dict_get_3 _ _ _) (meets_dict_get_default _ a (ED w) p r) ⟨_,i.mapOf,h _ _ (I.tok _) ?_⟩;rw[l];exact(f.val k).getD x
 .subst q;cases (w);let(z,p,D,f,i):=Bx I.jr e;refine call_meetsIn PySem.F.slot_dict_get i.typeIs PySem.F.entry_dict_get (PySem.F.args_dict_get_3 _ _ _) (meetsH_dict_get_default _ a b p r) ⟨uN F,k,D,zy I.jr K,i,h _ _ (I.tok _) ?_⟩;rw[l];exact(f.val k).getD x
end
def SJ(J L c:TE):TE:=λB H Q=>J B H λx d=>∃a,x=.ref a/\IsD d a/\L B d λy e=>c B e λz b=>∃o,x6 b a y o/\Q (o.getD z) b
section
variable {X:Cx}{f:Expr}
def MC(E:X.A.units+1<rK)(F:PE X o J)(j:PE X e L)(K:PE X f c)(m:M2 X o "get" n e f O):PE X (.Call (.Attribute o "get" n) [e,f] [] O) (SJ J L c):=by
 intro C s B H Q I h;refine wpAny_Call_method m.base m.VX m.line PySem.F.plainAttrs_dict PySem.F.slot_dict_get PySem.F.type_dict_get (g8 (F C s B H _ I h) ?_);rintro u q ⟨x,H1,i,v,a,P,d,D⟩;subst P;obtain rfl:u=il a:=v;let(l,k,_):=Uw i d;refine⟨l,k,?_⟩;rw[m.trees];exact Au rfl (Calls.evalArgs_plain (HZ (g8 (j C q B H1 _ i D) λiv p ⟨y,H2,I2,t,A⟩=>HZ (g8 (K C p B H2 _ I2 A) λfv s3 ⟨z,H3,S,r,ov,g,w⟩=>Calls.spliced_nil (Vb E S g t r λw' s4 R b=>⟨_,H3,R,b,w⟩)))))
end
section
variable {X:Cx}{s:aw}
end
abbrev sV(K:aX)(c f:aJ):Prop:=∀C,uO K bC c=Y (Y (.ref C))->Lm K C/\qV K C f
theorem Iw{K:aX}{f:aJ}{d:D}{v:V}(m:eR K G d v):∀ {a:List aJ}{g:List D}{h:List V},a.length=g.length->a9 K G g h->∃b,mO f v (a.zip h)=(jV f d a g).1.zip b/\(jV f d a g).1.length=(jV f d a g).2.length/\a9 K G (jV f d a g).2 b
 |[],[],h,c,r=>⟨[v],rfl,rfl,.cons m .nil⟩|[],x::g,h,c,r=>by simp at c
 |k::a,[],h,c,r=>by simp at c
 | k::a,x::g,h,c,r=>by
  let(u,i,rfl,o,n):=bJ.mp r;simp at c;unfold jV;rw[show mO f v _=if k=f then (k,v)::a.zip i else (k,u)::mO f v _ from rfl];by_cases j:k=f
  .rw[if_pos j,if_pos j];exact⟨_,rfl,by simp[c],.cons m n⟩
  .rw[if_neg j,if_neg j];let(b,e,l,q):=Iw m c n;exact⟨_,Ÿ,by simp[l],.cons o q⟩
def uX{a:List d}(h:a.length=b.length):(a.zip b).length=a.length:=by simp[h]
theorem n7{K:aX}{G:Hp}{f:aJ}:∀ {a:List aJ}{b:List V},f∉a->(a.zip b).lookup f=M
 |[],b,h=>by simp
 |k::a,[],h=>by simp
 |k::a,v::b,h=>by simp at h;rw[fR,lS,beq_eq_false_iff_ne.mpr h.1];exact n7 (K:=K) (G:=G) h.2
section
variable {X:Cx}
set_option tactic.hygienic true
def Zb{c f:aJ}(h:PE X e (tQ X.K Z g))(p:sV X.K c f)(x:autoParam (cN e f X.env (eval e X.env)=eval e X.env) Ŭ):
  PE X (.Attribute e f I) (tP X.K Z (bK c f g)):=(sj h x).imp <|by
 rintro F H Q ⟨G,m,d,z,j,b,k⟩;unfold bK at b;rw[aa]at b;let(o,l,b):=b;refine⟨G,m,o,z,j,l,λv E D q w =>?_⟩;cases o<;>simp only[ai]at b<;>try (cases b)
 split at b
 .rename_i i;refine af λkk =>?_
  subst i;let(a,C,B,K,rfl,y,n,_,t):=w.aap q.gh;let(u,A,r):=Jk t b;exact kk (⟨a,C,B,_,u,rfl,y,(p C n).1,(p C n).2,A,k u E D q r⟩)
 .cases b
end
section
variable {X:Cx}{s:List Nat}
noncomputable def Gj:DG:=λ_=>M
def XS:PS X a (jW X.K B s Z own1 Gj):=Mt.imp <|by rintro D c H ⟨G,d,o,S,b,k⟩;cases b
def EH(c:aJ)(i:Nat)(a:cE):Option (List aJ×List D):=(eV i a).bind λd=>match d with|.ins f b e=>if f=c then Y (b,e) else M|_=>M
set_option tactic.hygienic true in
def Ha{e:List D}(h:EH c i a=Y (b,e)):a[i]?=Y (Y (.ins c b e)):=by
 let(d,g,h):=aa.1 h;cases d<;>simp only[ai]at h<;>try (cases h)
 split at h
 .rename_i f;cases h;subst f;exact jh g
 .cases h
def SR.Z5{K:aX}{G:Hp}{d:List aJ}{f:List D}(S:SR K B Z G H g j)(k:i∈Z)(h:j[i]?=Y (Y (.ins c d f))):
  ∃a C e b,g[i]?=Y (Y (.ref a))/\H a=Y (.ins C e (d.zip b))/\uO K bC c=Y (Y (.ref C))/\d.length=f.length/\a9 K G f b/\G a=M/\B.2 a=none:=by
 refine af λkk =>?_
 obtain⟨a,q,p,o,⟨C,e,b,rfl,n,l,r⟩,m⟩:=S.MF k h rfl;exact kk (⟨a,C,e,b,p,o,n,l,r,m⟩)
def l9(i:Nat)(c f:aJ)(b:DF):DG:=λa=>(b a).bind λd=>(EH c i a).bind λq=>if q.1.length<999 then Y (.nx (a.set i (Y (.ins c (jV f d q.1 q.2).1 (jV f d q.1 q.2).2)))) else M
def aa9{i:Nat}{c f:aJ}{w:DF}(h:PE X (.Name x p) (j8 i))(P:PE X e (tP X.K Z w))(u:sV X.K c f)(q:autoParam (i∈Z) Ū)(N:autoParam (cY e (Y (.Attribute (.Name x p) f T)) I.line X.env=fK false) Ŭ):
  PS X (.Assign [.Attribute (.Name x p) f T] e I) (jW X.K B s Z Z (l9 i c f w)):=(B9 h P N).imp <|by
 rintro D σ H ⟨G,m,o,S,b,k⟩;let(d,R,b):=aa.1 b;rcases j:EH c i m with _|_
 .simp[j]at b
 simp only[j,ai]at b;split at b
 .cases b;let t:=Ha j;refine⟨G,m,d,S.gh,S.lg,R,λv G' H' E r =>?_⟩;let F:=S.ext E;refine af λkk =>?_
  let(a,C,A,vs,z,e3,n,l,y,_):=F.Z5 q t;let(g,Q,J,K):=Iw r l y;refine kk (⟨_,z,a,C,A,_,rfl,e3,(u C n).1,(u C n).2,?_,?_⟩)
  .rw[uX (by rw[l,y.length])];exact Ÿ
  .rw[Q];exact k _ G' _ (F.W9 q t z ⟨C,A,g,rfl,n,J,K⟩)
 .cases b
abbrev Ta(a:Int->Int->Int):V->V->Hp->VK->Prop:=λx y H Q=>∃i j,x=.int i/\y=.int j/\Q (.int (a i j)) H
noncomputable def f9(f:DM):DG:=λa=>(f a).map λq =>.nx q.2
def Of{f:DM}(i:PE X e (tM X.K B Z f))(h:autoParam (cY e M I.line X.env=fK false) Ŭ):PS X (.Expr e I) (jW X.K B s Z Z (f9 f)):=(nI i h).imp <|by
 rintro D c H ⟨G,g,o,S,a,k⟩;obtain⟨⟨d,b⟩,j,a⟩:=aq.1 a;cases a;exact⟨G,g,d,b,S,j,λv n m l p r=>k c n m l⟩
end
inductive VQ (K:aX) (p:Nat) (F:List D->Option (D×D)) (f:List V) (H:Hp) (Q:VK) (_x:XK):Prop
 |mk G b d j a o c:bI G H->b[p]?=some c->f[p]?=some (.ref a)->H a=some o->jJ K G c o->G a=none->(∀(i:Nat) c,i≠p->b[i]?=some c->∃v,f[i]?=some v/\eR K G c v)->b.length=f.length->F b=some (d,j)->(∀v h e g,i9 G (FC H a) e g->e a=none->g a=some h->jJ K e j h->eR K e d v->Q v g)->VQ K p F f H Q _x
def Z7(p:Nat):DO->Option (D×D)
 |.rm d a=>(eV p a).bind λc=>if wH c=Z' then Y (d,c) else M
 |.nx a=>(eV p a).bind λc=>if wH c=Z' then Y (.gA,c) else M
 |_=>M
def runC(n N p:Nat)(g:DG)(a:List D):Option (D×D):=if a.length=n then (g (i_ N a)).bind (Z7 p) else M
section
variable {P:bE}{K:aX}
set_option tactic.hygienic true in
def jy.okC{R:d_}{f:aD}(F:jy K x l R f fd)(S:bH N ps (aF R))(p:Nat){Z Ź:List Nat}{g:DG}(hp:p∈Z)(UE:∀i∈Z,i=p\/ps.length<=i) (hb:∀(t:aj) (A:jz) (j:List Env) (s:aw) (H:Hp) (E:XK),hJ k (A.deeper (rO l (aF R) s.heap.objs.size f t))->∀(B:Bs) (a:aD),B.3=[(p,a)] ->
   qU (xZ i7 P w K O U N l (aF R) f t A j s H E).MT (iT R) (jW K B [] Z Ź g)):cZ P w K O U i7 (k+1) f fd ps (VQ K p (runC ps.length N.length p g)):=by
 refine F.ok S (λvs H Q E h =>?_) (λt A j s H vs Q E hr h =>?_)
 .let⟨G,ds,d,c',a,o,c,gh,hd,hv,ha,r,ga,ro,hl,e,_⟩:=h;unfold runC at e;split at e<;>simp_all
 .let⟨G,ds,d,c',a,o,c,gh,hd,hv,ha,r,ga,ro,hl,e,q⟩:=h;unfold runC at e;split at e
  .rename_i hn;refine⟨_,hb t A j s H E hr ⟨G,FC H a,_,λI I=>False⟩ a rfl,?_⟩;let(oo,eg,e):=aa.1 e;have fin:∀ {σ:St}{m:cE}{C n:Hp}{o':List Nat}{y:D},SR K ⟨G,FC H a,[(p,a)],λI I=>False⟩ o' C n σ m->eV p m=Y y->wH y=Z'->∃u,n a=Y u/\jJ K C y u/\C a=none:=fun {σ m C n o' y} z el X=>by let(UD,hσ):=z.pin p a Ÿ;let(b,u,f2,f3,f4,f5,_):=z.MF UD (jh el) X;rw[hσ]at f2;cases f2<;>simp_all
   refine⟨G,_,oo,A6 gh hp hd hv ha r ga ro hl (by rw[hn];exact UE),eg,?_⟩;cases oo with
   |rm d' m=>
    let⟨y,el,e⟩:=aa.1 e;split at e
    .rename_i X;cases e;intro v σ C n ⟨o',z⟩ rv;let(u,f3,f4,f5):=fin z el X;exact q v u C n z.o6 f5 f3 f4 rv
    .cases e
   |nx m=>
    let⟨y,el,e⟩:=aa.1 e;split at e
    .rename_i X;cases e;intro σ C n z;let(u,f3,f4,f5):=fin z el X;exact q _ u C n z.o6 f5 f3 f4 (jB.mpr rfl)
    .cases e
   |_=>cases e
  .cases e
structure gI(P:bE)(w:fw)(K:aX)(mg:aJ->Option aj)(base:dY)(c m:aJ)(k:Nat)(sp:Sp):Prop where
 ex:∃C f fd ps,uO K bC c=some (some (.ref C))/\Lm K C/\Q' K C m f/\cZ P w K mg base i7 k f fd ps sp/\Binds K fd ps []
def gI.mono{m:aJ}(h:gI P w K O U c m j a)(d:j<=k):gI P w K O U c m k a:=by
 let(C,f,o,b,n,l,i,g,e):=h.ex;exact⟨C,f,o,b,n,l,i,g.mono d,e⟩
structure vK(P:bE)(w:fw)(K:aX)(mg:aJ->Option aj)(base:dY)(c:aJ)(k:Nat)(sp:Sp):Prop where
 ex:∃C f fd ps,uO K bC c=some (some (.ref C))/\mg c=some (.ref C)/\Mk K C f/\cZ P w K mg base i7 k f fd ps sp/\Binds K fd ps []
end
section
variable {X:Cx}
inductive Wv (K:aX) (Z:List Nat) (f:DF) (e:St) (H:Hp) (Q:VK):Prop
 |mk G c d:bI G H->kR K Z G H e c->f c=some d->(∀p o b a,i9 G H b a->H p=none->b p=none->a p=some o->jJ K b d o->Q (.ref p) a)->Wv K Z f e H Q
noncomputable def N7(c:aJ)(F:List D->Option (D×D))(g:DL):DF:=λa=>(g a).bind λb=>(F (.ins c [] []::b)).bind λr=>match r.1 with|.gA=>Y r.2|_=>M
def Jw{c:aJ}{F:List D->Option (D×D)}(h:vK X.prog X.w X.K X.mg X.base c k (VQ X.K 0 F))(hr:hJ (k+1) X.A)(hg:Gl X c)(ha:PA X (e::J) (F8 X.K Z g))(B:autoParam ((c==("__debug__" : aJ))=false) Ū)(he:autoParam (ar (e::J) X.env=(Z_,eval e X.env)::ar J X.env) Ŭ)(A:autoParam ((eS I (ar J X.env)).any (·.1)=false) Ŭ):PE X (.Call (.Name c p) (e::J) [] I) (Wv X.K Z (N7 c F g)):=by
 let(C,f,fd,ps,n,hm,hk,h1,a):=h.ex;refine(IE hk h1 hr hg hm a .nil rp ha B he A).imp ?_;rintro σ H Q ⟨G,R,d,gh,K,j,q⟩;refine af λkk =>?_
 let(N,eg,j):=aa.1 j;obtain⟨⟨d',c'⟩,eF,j⟩:=aa.1 j;cases d'<;>simp only[ai]at j<;>try (cases j;done)
 cases j;refine kk (⟨G,R,N,gh,K,eg,λS s H1 w P x t m l ne =>?_⟩);rw[cT];let E:=w.gh.free m;refine⟨s,.ins c [] []::N,.gA,_,x,_,.ins c [] [],(w.gh.trans ((bI.alloc l).trans (.alloc (by rw[aP (bQ ne)];exact m)))),rfl,rfl,bB,⟨C,t,[],rfl,n,rfl,.nil⟩,E,λi y hi ec =>?_,by simp[P.length],eF,λv o' G2 H2 u g2 h2 r2 r3=>⟨jB.mp r3,?_⟩⟩
 .cases i with
  |zero=>exact absurd rfl hi|succ i=>exact P.get (i:=i) (by simpa using ec)
 .refine q x o' G2 H2 (w.trans ⟨λb o e=>u.hh b o ?_,u.gg,u.gh,λb o e =>?_⟩) (w.hh.free m) g2 h2 r2
  .let a:b≠x:=bM e m;rw[zY a,aP a,aP (bM e l)];exact e
  .rcases u.fr b o e with z|z
   .exact .inl z
   .refine .inr ?_;by_cases a:b=x
    .subst a;exact m
    .by_cases r:b=t
     .subst r;exact l
     .rw[zY a,aP a,aP r]at z;exact z
def Js{s:List Nat}{i:Nat}{f:DF}(w:X.N.Nodup)(t:X.N[i]?=Y x)(h:Loc X.env.scope x)(v:PE X e (Wv X.K Z f))(n:autoParam (i∈Z) Ū)(b:autoParam (∀a,(i,a)∉B.3) ť)(q:autoParam (Bj i∉Z) Ū)(l:autoParam (cY e (Y (.Name x T)) I.line X.env=fK false) Ŭ)(u:autoParam (X.fn x=Z'\/X.env.scope.names.lookup x=Y .local) ŧ):
  PS X (.Assign [.Name x T] e I) (jW X.K B s Z Z (eP i f)):=(mr w t h v l u).imp <|by
 rintro D F H ⟨G,g,o,S,c,k⟩;let(d,z,c):=aq.1 c;cases c;exact⟨G,g,d,S.gh,S.lg,z,λp K C A E m y j r=>k _ C A (S.setC n E m y j r b q)⟩
end
section
variable {X:Cx}{m:Pos}{f:DF}
end
section
variable {X:Cx}{f:Expr}
noncomputable def cO(ks:List l_)(c:List D)(k:l_):Option D:=((ks.zip c).find? λa=>decide (a.1=k)).map (·.2)
theorem qO{K:aX}:∀ {c:List l_}{f:List D}{a:List V}{d:D},a9 K G f a->cO c f k=Y d->∃v,tJ (c.zip a) k=Y v/\eR K G d v
 |[],f,a,d,r,h=>by simp[cO]at h
 |x::c,[],a,d,r,h=>by simp[cO]at h
 | x::c,y::f,a,d,r,h=>by
  let(v,t,rfl,i,l):=bJ.mp r;by_cases g:x=k
  .subst g;have:=by simpa [cO] using h
   subst this;exact⟨v,u0 rfl,i⟩
  .let m:cO c f k=Y d:=by simp_all [cO]
   obtain _:=qO l m
   simp_all [fR,rP]
theorem uF{K:aX}:∀ {c:List l_}{d:List D}{a:List V},a9 K G d a->cO c d k=M->tJ (c.zip a) k=M
 |[],d,a,r,h=>by simp[tJ]
 |x::c,[],a,r,h=>by rw[dO.mp r];simp[tJ]
 | x::c,y::d,a,r,h=>by
  let(v,t,rfl,i,f):=bJ.mp r;by_cases e:x=k
  .simp_all [cO]
  .let g:cO c d k=none:=by simpa [cO,e] using h
   rw[fR,rP e];exact uF f g
noncomputable def EC:D->Option l_
 |.int i=>Y (JU i)|.str x=>Y (b_ x)|_=>M
def vq{K:aX}{v:V}(h:EC d=Y k)(r:kQ K G H d v):v=kV k:=by
 cases d<;>simp only[EC]at h<;>try trivial
 .cases h;exact r.int
 .cases h;exact r.str
def xB(f g e:DF):DF:=λa=>(f a).bind λd=>(g a).bind λk=>(e a).bind λx=>match d with|.iW c h=>(EC k).map λk=>(cO c h k).getD x|_=>M
set_option tactic.hygienic true
def CV{D F:DF}{i:Pos}(hu:X.A.units+1<rK)(ho:PE X o (tQ X.K Z D))(he:PE X e (tQ X.K Z F))(hf:PE X f (tP X.K Z C))(m:M2 X o "get" j e f i):PE X (.Call (.Attribute o "get" j) [e,f] [] i) (tP X.K Z (xB D F C)):=
 (MC hu ho he hf m).imp <|by
  rintro σ H Q ⟨G,r,d,gh,n,c,q⟩;unfold xB at c;rcases g:D r with _|dd
  .rw[g]at c;cases c
  rcases h:F r with _|N
  .simp[g,h]at c
  rcases p:C r with _|L
  .simp[g,h,p]at c
  simp only[g,h,p,ai]at c;cases dd<;>simp only at c<;>try (cases c)
  rename_i b J;rcases I:EC N with _|k
  .rw[I]at c;cases c
  rw[I]at c;refine⟨G,r,_,gh,n,g,λv G1 H1 x r1 =>?_⟩;let(a,vs,rfl,O,l,S):=r1.U6 x.gh;refine⟨a,rfl,.inl ⟨_,.of O⟩,G1,r,N,x.gh,n.ext x,h,λu G2 H2 t U=>⟨G2,r,L,t.gh,(n.ext x).ext t,p,λz R P K T =>?_⟩⟩;let B:=K.hh _ _ (t.hh _ _ O);let s:=a9.mono (t.gg.trans K.gg) J S;refine⟨_,by rw[(vq I U)];exact x6.k B,?_⟩;let E:=(x.trans t).trans K;have c:Y ((cO b J k).getD L)=Y d:=c;rcases y:cO b J k with _|dv
  .grind [uF]
  rw[y]at c;cases c;let(w,ew,A):=qO s y;rw[ew];exact q _ R P E A
end
noncomputable def Fq:D->D->Option D
 |.int i,.int j=>Y (.int (eN i j))|_,_=>M
noncomputable def fZ:D->D->Option D
 |.int i,.int j=>Y (.int (uU i j))|_,_=>M
noncomputable def p_:D->D->Option D
 |.int i,.int j=>if 0<=j/\j<=1000/\i.natAbs<2 ^ 64 then Y (.int (i*2 ^ j.toNat)) else M
 |_,_=>M
noncomputable def T4:D->D->Option D
 |.int i,.int j=>if 0<=j then Y (.int (i/2 ^ j.toNat)) else M
 |_,_=>M
noncomputable def zg:D->Option D
 |.int i=>Y (.int (pV i))|_=>M
section
variable {X:Cx}{f:Pos}
def RO:BN X (fJ .BitOr) Fq:=pk.imp W0 <|by
 rintro x y H Q ⟨G,k,j,d,i,e,b,a,q⟩;unfold Fq at a;split at a<;>try (cases a;done)
 cases a;exact⟨_,_,e.int,b.int,q _ G H (.refl i) (cJ.mpr rfl)⟩
def YH:BN X (fJ .BitAnd) fZ:=pk.imp TL <|by
 rintro x y H Q ⟨G,k,j,d,i,e,b,a,q⟩;unfold fZ at a;split at a<;>try (cases a;done)
 cases a;exact⟨_,_,e.int,b.int,q _ G H (.refl i) (cJ.mpr rfl)⟩
set_option tactic.hygienic true
def aab:BN X (fJ .LShift) p_:=pk.imp TC <|by
 rintro x y H Q ⟨G,l,k,d,j,i,e,a,q⟩;unfold p_ at a;split at a<;>try (cases a)
 split at a
 .rename_i b;cases a;exact⟨_,_,i.int,e.int,⟨b.1,ž,b.2.2⟩,q _ G H (.refl j) (cJ.mpr rfl)⟩
 .cases a
def aaa:BN X (fJ .RShift) T4:=pk.imp Tz <|by
 rintro x y H Q ⟨G,l,k,d,j,i,e,a,q⟩;unfold T4 at a;split at a<;>try (cases a)
 split at a
 .rename_i b;cases a;exact⟨_,_,i.int,e.int,b,q _ G H (.refl j) (cJ.mpr rfl)⟩
 .cases a
set_option tactic.hygienic false
def abm(l:PE X a (tQ X.K Z c)):PE X (.UnaryOp .Invert a f) (tP X.K Z (e1 zg c)):=(ID Sq l).imp <|by
 rintro s H Q ⟨G,i,d,m,b,o,k⟩;let(x,n,e):=Jr o;cases x<;>simp[zg]at e
 subst e;exact⟨G,i,_,m,b,n,λv q p r j=>⟨_,j.int,k _ q p r (cJ.mpr rfl)⟩⟩
def acj:Lk X .BitOr (Ta eN):=by
 rintro b s k H x y u v Q I e d ⟨i,j,rfl,rfl,q⟩;let(t,rfl):=e;let(a,rfl):=d;exact ior_int ⟨.int _,H,I.tok _,⟨_,rfl⟩,q⟩
def vf(i:Nat)(e:Int->Int->Int)(j:DF):DG:=λd=>(eV i d).bind λx=>(j d).bind λy=>match x,y with|.int a,.int b=>Y (.nx (d.set i (Y (.int (e a b)))))|_,_=>M
def aba{i:Nat}{op:Int->Int->Int}(b:Lk X o (Ta op))(w:X.N.Nodup)(q:X.N[i]?=Y x)(p:Loc X.env.scope x)(t:PE X e (tP X.K Z j))(n:autoParam (i∉Z) Ū)(s:autoParam (X.fn x=Z'\/X.env.scope.names.lookup x=Y .local) ŧ):
  PS X (.AugAssign (.Name x g) o e f) (jW X.K B h Z Z (vf i op j)):=(Tg w q p t b s).imp <|by
 rintro D I H ⟨G,m,J,S,a,k⟩;let(c,y,a):=aa.1 a;let(d,l,a):=aa.1 a;split at a
 .cases a;let(v,A,z):=S.env i _ n (jh y);cases cJ.mp z;refine⟨_,A,G,m,_,S.gh,S.lg,l,λu F C E r =>?_⟩;cases cJ.mp r;exact⟨_,_,rfl,rfl,k _ F C ((S.ext E).wg n (cJ.mpr rfl))⟩
 .cases a
end
section
variable {K:aX}{f:List Nat}
def SR.tree{s:Sk}(S:SR K B f G H y l)(c:i∈f)(e:l[i]?=Y (Y (.obj s t))):∃a T,y[i]?=Y (Y (.ref a))/\dC K G H s t (.ref a) T/\T.Nodup/\(∀b∈T,G b=M/\B.2 b=M)/\∃F,tT K B f G H y l F/\F i=T:=by
 let(F,W):=S.ow;let(a,g,d):=W.it i _ c e;let(n,k):=W.ok i _ c e;exact⟨a,F i,g,d,n,k,F,W,rfl⟩
noncomputable def fU(r:Nat)(l:cE):cE:=l.map λo=>match o with|some (.gL k p)=>if k=r then M else Y (.gL k p)|o=>o
def bV{r i:Nat}(h:(fU r l)[i]?=Y (Y d)):l[i]?=Y (Y d)/\∀p,d ≠ .gL r p:=by
 unfold fU at h;rw[aR]at h;let(o,e,h):=aq.1 h;rw[e];cases o<;>lia
def kW{r i:Nat}(h:l[i]?=Y (Y d))(a:∀p,d ≠ .gL r p):(fU r l)[i]?=Y (Y d):=by
 unfold fU;rw[aR,h];cases d<;>simp_all
def SR.J3{r:Nat}(S:SR K B f G H y l):SR K B f G H y (fU r l):=by
 refine⟨S.gh,S.g0,S.h0,S.fr,λi d a e=>S.env i d a (bV e).1,?_,by rw[S.len];simp[L2.fU],S.pin,λj k p s o e =>?_⟩
 .let⟨F,W⟩:=S.ow;exact⟨F,λi d a e=>W.it i d a (bV e).1,λi d a e=>W.ok i d a (bV e).1,λi j d c a n C A=>W.ap i j d c a n (bV C).1 (bV A).1⟩
 .let⟨v,x,m,g,h,w,b,u,t⟩:=S.gL j k p s o (bV e).1;exact⟨v,x,m,g,h,w,b,kW u (λq z=>by cases z),t⟩
def SR.CZ{s:Sk}{t':D}{m:List aD}{F:Nat->List aD}(S:SR K B f G H y l)(W:tT K B f G H y l F)(J:F i=T)(g:i∈f)(I:l[i]?=Y (Y (.obj s t)))(u:y[i]?=Y (Y (.ref a)))(E:i9 G (jP H T) G' H')(v:dC K G' H' n t' (.ref a) m)(x:m.Nodup)(w:∀b∈m,G' b=M/\(b∈T\/H b=M)):SR K B f G' H' y ((fU i l).set i (Y (.obj n t'))):=by
 have:=(S.J3 (r:=i)).chg (i:=i) (a:=a) (d' :=.obj n t') (F0:=T) (S':=m) (⟨λi d g e=>W.it i d g (bV e).1,λi d g e=>W.ok i d g (bV e).1,λi j d c g C A L=>W.ap i j d c g C (bV A).1 (bV L).1⟩) g (λb k=>⟨Ż,_,(kW (r:=i) I λq z=>by cases z)⟩) E.gg E.gh (λb o e=>by
   rcases E.fr b o e with z|z
   .exact .inl z
   .by_cases k:b∈T
    .exact .inr (.inr k)
    .rw[dP k]at z;exact .inr (.inl z))
  (λb o k e=>E.hh b o (by simp_all [dP])) v x w (λb h=>by have:=(S.pin i b h).2;simp_all) (λr p z=>by cases z)
  (λj p q q q e=>absurd rfl ((bV e).2 p))
 simp_all [hW]
def SR.SW{p:Ae}{s s':Sk}{v:V}(S:SR K B f G H y l)(hi:i∈f)(N:Bj i∈f)(hj:j∈f)(J:i≠j)(Z:Bj j∉f)(C:∀a,(j,a)∉B.3)(hd:l[i]?=Y (Y (.obj s t)))(hs:y[i]?=Y (Y v))(hv:gX H p v=Y (.ref b))(es:oM p s=Y s')(ef:∀g∈AM p,g∈Fd):SR K B f G H (y.set j (Y (.ref b))) (l.set j (Y (.gL i p))):=by
 let(F,W):=S.ow;refine⟨S.gh,S.g0,S.h0,S.fr,λk c o e =>?_,⟨λk=>if k=j then [] else F k,λk c o e =>?_,λk c o e =>?_,λk m c c' o hm ek em L =>?_⟩,by simp[S.len],λk x h =>?_,λk r q h1 h2 e =>?_⟩
 .let d:j≠k:=λz=>o (z ▸ hj)
  rw[au d]at e;let(u,n,O):=S.env k c o e;exact⟨u,by rw[au d];exact n,O⟩
 .rcases iD e with⟨rfl,rfl,A⟩|⟨d,n⟩
  .exact⟨b,qY (by rw[S.len];exact A),by simp[ng]⟩
  .let⟨x,f1,f2⟩:=W.it k c o n;exact⟨x,by rw[au d];exact f1,ŷ⟩
 .rcases iD e with⟨rfl,rfl,A⟩|⟨d,n⟩
  .simp
  .simp only[if_neg (bQ d)];exact W.ok k c o n
 .rcases iD ek with⟨rfl,rfl,A⟩|⟨d,n⟩
  .simp
  .rcases iD em with⟨rfl,rfl,A⟩|⟨E,O⟩
   .simp
   .simp only[if_neg (bQ d),if_neg (bQ E)];exact W.ap k m c c' o hm n O L
 .let⟨p1,X⟩:=S.pin k x h;have:j≠k:=λz=>by subst z;exact C x h
  exact⟨p1,Ż⟩
 .rcases iD e with⟨rfl,z,A⟩|⟨d,n⟩
  .cases z;exact⟨hi,N,s,t,s',v,.ref b,by rw[au (bQ J)];exact hd,by rw[au (bQ J)];exact hs,qY (by rw[S.len];exact A),hv,es,ef⟩
  .let⟨g1,P,U,R,T,w,Q,g2,g3,g4,g5⟩:=S.gL k r q h1 h2 n;let I:j≠r:=λz=>Z (z ▸ P)
   exact⟨g1,P,U,R,T,w,Q,Ż,Ż,Ż,g5⟩
def SR.S9{i:Nat}{a:aD}{s:Sk}{F:Nat->List aD}(S:SR K B f G H y l)(W:tT K B f G H y l F)(O:F i=T)(N:i∈f)(v:l[i]?=Y (Y (.obj s t)))(m:y[i]?=Y (Y (.ref a)))(E:i9 G (jP H T) G' H')(I:dC K G' H' s d (.ref a) k)(L:k.Nodup)(J:∀b∈k,G' b=M/\(b∈T\/H b=M))(Z:∀(q:Ae) u,(∀g∈AM q,g∈Fd)->gX H q (.ref a)=Y u->gX H' q (.ref a)=Y u):SR K B f G' H' y (l.set i (Y (.obj s d))):=by
 have:=S.chg (d' :=.obj s d) W N (λb c=>⟨Ż,_,v⟩) E.gg E.gh λb o e=>by
   rcases E.fr b o e with z|z
   .exact .inl z
   .by_cases c:b∈T
    .exact .inr (.inr c)
    .rw[dP c]at z;exact .inr (.inl z)
  (λb o c e=>E.hh b o (by simp_all [dP])) I L J λb h=>by have:=(S.pin i b h).2;simp_all λr p z=>by cases z
  λj p Q P r e=>by
   refine af λkk =>?_
   let(g1,g0,s0,t0,C,w,n,A,x,g4,X,U,R):=S.gL j i p Q P e;refine kk ?_
   simp_all
 simp_all [hW]
noncomputable def Zm:Option D->Option D
 |some (.obj _ t)=>Y t|some (.lst d)=>Y (.lst d)|some (.ins c a b)=>Y (.ins c a b)|some (.iW a b)=>Y (.iW a b)|_=>M
def LO(h:Zm o=Y d):(∃s t,o=Y (.obj s t)/\d=t)\/(o=Y d/\wH d=Z'):=by
 unfold Zm at h;split at h
 .simp_all
 .cases h;exact .inr ⟨rfl,rfl⟩
 .cases h;exact .inr ⟨rfl,rfl⟩
 .cases h;exact .inr ⟨rfl,rfl⟩
 .cases h
def Yx(l:cE):Option D->Option D
 |some (.gL r p)=>match l[r]? with|some (Y (.obj _ t))=>jI p t|_=>M
 |_=>M
def vR(a b:List Nat)(l:cE):cE:=l.mapIdx λi o=>if i∈a then Zm o else if i∈b then Yx l o else o
theorem kR.trees(n:kR K f G H y l):∀(x:List Nat),∃T:List aD,(∀b∈T,G b=M/\Gu H b)/\∀i∈x,i∈f->∀s t,l[i]?=Y (Y (.obj s t))->∃v,y[i]?=Y (Y v)/\(eR K G t v\/∃S,dC K G H s t v S/\∀b∈S,b∈T)
 |[]=>⟨[],λb g=>(by cases g),λi d=>by cases d⟩
 | k::x=>by
  let(T,w,u):=kR.trees n x;by_cases p:k∈f/\∃s t,l[k]?=Y (Y (.obj s t))
  .let⟨p,s,t,e⟩:=p;let(v,C,B):=n.get k _ e;rw[if_pos p]at B;rcases B with r|⟨a,o,rfl,N,S,A,J⟩
   .refine⟨T,w,λi d m j h c =>?_⟩;rcases aV.mp d with z|z
    .subst z;rw[e]at c;cases c;exact⟨v,C,.inl (tf.mp r)⟩
    exact Ÿ
   .refine⟨S++T,λb g =>?_,λi d m j h c =>?_⟩
    .rcases aO.mp g with q|q
     .exact⟨J b q,A.here b q⟩
     .exact w b q
    .rcases aV.mp d with z|z
     .subst z;rw[e]at c;cases c;exact⟨_,C,.inr ⟨S,A,λb g=>aT _ g⟩⟩
     .let⟨v,I,F⟩:=u i z m j h c;refine⟨v,I,?_⟩;rcases F with r|⟨L,E,D⟩
      .exact .inl r
      .exact .inr ⟨L,E,λb g=>aG _ (D b g)⟩
  .refine⟨T,w,λi d m j h c =>?_⟩;rcases aV.mp d with z|z<;>simp_all
theorem kR.cells(C:bI G H)(env:kR K f G H y l):∀(t:List Nat),∃T:List aD,(∀b∈T,G b=M/\Gu H b)/\∀i∈t,i∈f->∀d,l[i]?=Y (Y d)->wH d=Z'->∃v,y[i]?=Y (Y v)/\(eR K G d v\/∃a o,v=.ref a/\a∈T/\H a=Y o/\jJ K G d o)
 |[]=>⟨[],λb h=>(by cases h),λi x=>by cases x⟩
 | k::t=>by
  let(T,s,R):=kR.cells C env t;have g:∀u:List aD,(∀b∈T,b∈u)->(∀d,l[k]?=Y (Y d)->k∈f->wH d=Z'->∃v,y[k]?=Y (Y v)/\(eR K G d v\/∃a o,v=.ref a/\a∈u/\H a=Y o/\jJ K G d o)) ->
    ∀i∈k::t,i∈f->∀d,l[i]?=Y (Y d)->wH d=Z'->∃v,y[i]?=Y (Y v)/\(eR K G d v\/∃a o,v=.ref a/\a∈u/\H a=Y o/\jJ K G d o):=λu w n i x p d e m=>by
   rcases aV.mp x with z|z
   .subst z;exact n d e p m
   .let⟨v,O,N⟩:=R i z p d e m;refine⟨v,O,?_⟩;rcases N with r|⟨a,o,J,I,F⟩
    .exact .inl r
    .exact .inr ⟨a,o,J,w a I,F⟩
  by_cases n:k∈f/\∃d,l[k]?=Y (Y d)/\wH d=Z'
  .refine af λkk =>?_
   let(n,d,e,m):=n;let(v,B,D):=env.get k _ e;rw[if_pos n]at D;refine kk ?_;rcases D with r|⟨a,o,rfl,A,P⟩
   .exact⟨T,s,g T (λb h=>h) λE j E E=>by rw[e]at j;cases j;exact⟨v,B,.inl r⟩⟩
   .have c:jJ K G d o:=by cases d<;>first|exact P|cases m
    cases q:G a with
    |some L=>have:=C a L q;rw[A]at this;cases this;exact⟨T,s,g T (λb h=>h) λE j E E=>by rw[e]at j;cases j;exact⟨_,B,.inl (c.rep q)⟩⟩
    |none=>
     refine⟨a::T,λb h =>?_,g (a::T) (λb h=>aZ _ h) λE j E E=>by rw[e]at j;cases j;exact⟨_,B,.inr ⟨a,o,rfl,aH,A,c⟩⟩⟩;rcases aV.mp h with z|z
     .subst z;refine⟨q,o,A,λQ z =>?_⟩;subst z;cases d with
      |lst=>let⟨_,z,_⟩:=c;cases z
      |ins=>let⟨_,_,_,z,_⟩:=c;cases z
      |iW=>let⟨_,z,_⟩:=c;cases z
      |_=>cases m
     .exact s b z
  .exact⟨T,s,g T (λb h=>h) λd e p m=>absurd ⟨p,d,e,m⟩ n⟩
def m5(f a b c:List Nat):Bool:=(a.all λi=>f.contains i && !a.contains (GL i) && !b.contains i && !c.contains i)&&(f.all λi=>a.contains i||b.contains i||c.contains i)&&(c.all λj=>f.contains j&&f.contains (GL j) && !b.contains j)
def P6{f:List Nat}(h:m5 f e g k=Z'):(∀i∈e,i∈f/\GL i∉e/\i∉g/\i∉k)/\(∀i∈f,i∈e\/i∈g\/i∈k)/\(∀j∈k,j∈f/\GL j∈f/\j∉g):=by
 simp only[m5,aA,fX,List.contains_eq_mem,bU,Bool.not_eq_true',decide_eq_true_eq,decide_eq_false_iff_not]at h
 lia
set_option tactic.hygienic true
def kR.Sv(s:bI G H)(m:kR K f G H y l)(Q:m5 f C dp al=Z'):∃T:List aD,(∀b∈T,G b=M/\Gu H b)/\kR K C (lD G H T) H y (vR dp al l):=by
 let(o1,o2,o3):=P6 Q;let(T1,h11,h21):=m.trees f;let(T2,h12,X):=m.cells s f;generalize U:T1++T2=T;have h1:∀b∈T,G b=M/\Gu H b:=λb I=>by
  rw[<- U]at I;rcases aO.mp I with z|z
  .exact h11 b z
  .exact h12 b z
 have h2:∀i∈f,i∈f->∀s t,l[i]?=Y _->∃v,y[i]?=Y (Y v)/\(eR K G t v\/∃S,dC K G H s t v S/\∀b∈S,b∈T):=λi x Q s t e=>by
  let(v,k,c):=h21 i x Q s t e;refine⟨v,k,?_⟩;rcases c with r|⟨S,J,W⟩
  .exact .inl r
  .exact .inr ⟨S,J,λb I=>by rw[<- U];exact aT _ (W b I)⟩
 have n:=λb I=>(h1 b I).1
 let g:bI G (lD G H T):=kX n;have fz:∀(i:Nat) (E:Sk) (t:D),l[i]?=Y _->∃v,y[i]?=Y (Y v)/\eR K (lD G H T) t v:=λi E t e=>by
  by_cases x:i∈f
  .let⟨v,k,c⟩:=h2 i x x E t e;refine⟨v,k,?_⟩;rcases c with r|⟨S,J,W⟩
   .exact eR.mono g t r
   .exact dC.frozen n W J
  .let⟨v,k,c⟩:=m.get i _ e;rw[if_neg x]at c;exact⟨v,k,eR.mono g t (tf.mp c)⟩
 refine⟨T,h1,by rw[m.len];simp[vR],λi d e =>?_,λj r p hj hm e=>absurd hm (o1 j hj).2.1⟩;unfold vR at e;rw[List.getElem?_mapIdx]at e;rcases L:l[i]? with _|o
 .rw[L]at e;cases e
 rw[L]at e;simp at e;by_cases R:i∈dp
 .rw[if_pos R]at e;rcases LO e with⟨E,t,rfl,rfl⟩|⟨rfl,hc⟩
  .let⟨v,k,c⟩:=fz i E _ L;exact⟨v,k,by split;exact .inl c;exact c⟩
  .by_cases x:i∈f
   .let⟨v,k,c⟩:=X i x x d L hc;have F:eR K (lD G H T) d v:=by
     rcases c with r|⟨a,o,rfl,A,h,q4⟩
     .exact eR.mono g d r
     .exact(q4.mono g).rep (by rw[nJ (by grind)];exact h)
    exact⟨v,k,by split;exact .inl F;exact F⟩
   .let⟨v,k,c⟩:=m.get i _ L;rw[if_neg x]at c;have F:=eR.mono g d c;exact⟨v,k,by split;exact .inl F;exact F⟩
 .rw[if_neg R]at e;by_cases O:i∈al
  .rw[if_pos O]at e;unfold Yx at e;split at e
   .rename_i r p;split at e
    .rename_i E t er;refine af λkk =>?_
     let(g1,g0,s1,t1,s',v,v',g2,g3,g4,g5,g6,g7):=m.gL i r p (o3 i O).1 (o3 i O).2.1 L;rw[er]at g2;cases g2;let(w,k,c):=h2 r g1 g1 E t er;rw[g3]at k;cases k;have F:eR K (lD G H T) d v':=by
      rcases c with q|⟨S,J,W⟩
      .let⟨u,P,f4⟩:=yY s q e;rw[g5]at P;cases P;exact eR.mono g d f4
      .let⟨u,T1,U1,P,f4,f5,_⟩:=J.focus g6 e;rw[g5]at P;cases P;exact dC.frozen n (λb I=>W b (f5.symm.subset (aT _ I))) f4
     exact kk (⟨v',g4,by split;exact .inl F;exact F⟩)
    .cases e
   .cases e
  .rw[if_neg O]at e;subst e;let(v,k,c):=m.get i d L;refine⟨v,k,?_⟩;by_cases x:i∈C
   .rw[if_pos x];rw[if_pos (o1 i x).1]at c;cases d with
    |obj E t=>let⟨u,J,W⟩:=fz i E t L;rw[k]at J;cases J;exact .inl (tf.mpr W)
    |gL r p=>
     rcases c with q|⟨a,o,rfl,_⟩
     .exact .inl (ye.mpr (ye.mp q))
     .exact .inl (ye.mpr ⟨a,rfl⟩)
    |lst=>rcases c with q|⟨a,o,B,A,h⟩;exact .inl (eR.mono g _ q);exact .inr ⟨a,o,B,A,jJ.mono g (d :=.lst _) h⟩
    |ins=>rcases c with q|⟨a,o,B,A,h⟩;exact .inl (eR.mono g _ q);exact .inr ⟨a,o,B,A,jJ.mono g (d :=.ins _ _ _) h⟩
    |iW=>rcases c with q|⟨a,o,B,A,h⟩;exact .inl (eR.mono g _ q);exact .inr ⟨a,o,B,A,jJ.mono g (d :=.iW _ _) h⟩
    |_=>rcases c with q|⟨a,o,B,A,h⟩;exact .inl (eR.mono g _ q);exact h.elim
   .rw[if_neg x];by_cases N:i∈f
    .rcases o2 i N with z|z|z
     .exact absurd z x
     .exact absurd z R
     .exact absurd z O
    .rw[if_neg N]at c;exact eR.mono g d c
end
section
variable {X:Cx}{m:Pos}
def lV(A I:List Nat)(f:DF):DF:=λρ=>(f (vR A I ρ)).bind λd=>if qI d=Z' then Y d else M
set_option tactic.hygienic true in
def Oo{f:DF}(O A I:List Nat)(h:PE X e (tP X.K O f))(s:autoParam (m5 Z O A I=true) Ū):PE X e (tP X.K Z (lV A I f)):=h.imp <|by
 rintro J H Q ⟨G,ρ,d,j,n,a,k⟩;let(c,t,a):=aa.1 a;split at a
 .rename_i q;cases a;let(T,o,g):=n.Sv j s;refine⟨_,_,d,n6 j,g,t,λv N L E r =>?_⟩;let(u,p):=zU j (λb i=>(o b i).1) (λb i=>(o b i).2) E;exact k v _ L u (D5 p q r)
 .cases a
def Az(A I:List Nat)(f:DT):DT:=λρ=>f (vR A I ρ)
def R_{f:DT}(O A I:List Nat)(h:PT X e (rV X.K O f))(n:autoParam (m5 Z O A I=true) Ū):PT X e (rV X.K Z (Az A I f)):=h.imp <|by
 rintro J H Q ⟨G,ρ,d,g,i,o,k⟩;let(T,j,a):=i.Sv g n;refine⟨_,_,d,n6 g,a,o,λN L E =>?_⟩;let(p,q):=zU g (λb c=>(j b c).1) (λb c=>(j b c).2) E;exact k _ L p
def NW(A I:List Nat)(f:DL):DL:=λρ=>(f (vR A I ρ)).bind λd=>if qH d=Z' then Y d else M
set_option tactic.hygienic true in
def X2{f:DL}(O A I:List Nat)(h:PE X e (tF X.K O f))(i:autoParam (m5 Z O A I=true) Ū):PE X e (tF X.K Z (NW A I f)):=h.imp <|by
 rintro J H Q ⟨G,ρ,d,p,s,a,k⟩;unfold NW at a;let(c,D,a):=aa.1 a;split at a
 .rename_i y;cases a;let(T,n,g):=s.Sv p i;refine⟨lD G H T,vR A I ρ,d,n6 p,g,D,λq u N L E t C B r =>?_⟩;let(F,v):=zU p (λb j=>(n b j).1) (λb j=>(n b j).2) E;let x:q∉T:=λz=>by let(o,i,_):=(n q z).2;rw[t]at i;cases i
  exact k q u _ L F t (by rw[dP x];exact C) B (wk v y r)
 .cases a
noncomputable def EE:Sk->Bool
 |.lf=>Z'|_=>Z_
def Cq{s:Sk}(h:EE s=Z'):s=.lf:=by cases s<;>first|rfl|cases h
def sM(i:Nat)(c f:aJ):DF:=λρ=>(eV i ρ).bind λd=>match d with
 |.obj (.fs g e) (.ins a b ds)=>if (g=c/\a=c)/\EE (fG e f)=Z' then (Dx f b).bind λn=>ds[n]? else M
 |_=>M
set_option tactic.hygienic true
def Za{i:Nat}{c f:aJ}(h:PE X (.Name x p) (j8 i))(j:sV X.K c f)(hi:autoParam (i∈Z) Ū)(hb:autoParam (cN (.Name x p) f X.env (eval (.Name x p) X.env)=eval (.Name x p) X.env) Ŭ):PE X (.Attribute (.Name x p) f l) (tP X.K Z (sM i c f)):=
 (sj h hb).imp <|by
  rintro J H Q ⟨G,ρ,d,q,y,e,k⟩;unfold sM at e;rw[aa]at e;let(o,z,e):=e;split at e
  .rename_i c' fk c'' E ds;split at e
   .rename_i U;obtain⟨⟨rfl,rfl⟩,hl⟩:=U;rcases g:Dx f E with _|m
    .simp_all
    rw[g]at e;let(v,K,F):=y.get i _ (jh z);rw[if_pos hi]at F;rcases F with r|⟨a,o,rfl,e3,S,e4,e5⟩
    .let⟨a,C,B,w,rfl,n,ha,b,R⟩:=qF.mp (tf.mp r);let(u,eu,P):=R.get e;exact⟨_,K,a,C,B,_,u,rfl,q _ _ ha,(j C n).1,(j C n).2,by rw[qL g];exact eu,k u G H (.refl q) P⟩
    .cases e4 with
     |@ins _ _ _ _ _ C B w S n ea b t=>
      let s:(E.map (fG fk))[m]?=Y .lf:=by rw[aR,vu g,<- Cq hl];exact Ÿ
      let(D,T1,U1,f1,T,_):=t.at s e;cases T with
      |leaf r=>exact⟨_,K,a,C,B,_,D,rfl,ea,(j C n).1,(j C n).2,by rw[qL g];exact f1,k D G H (.refl q) r⟩
   .cases e
  .cases e
end
def IA(b:Bool)(j:Nat)(ρ:cE):Option (Nat×Ae):=match b,eV j ρ with
 |false,Y (.obj _ _)=>Y (j,[])|true,Y (.gL r p)=>Y (r,p)|_,_=>M
def ya(r:Nat)(ρ:cE):Option (Sk×D):=match eV r ρ with|some (.obj s t)=>Y (s,t)|_=>M
set_option tactic.hygienic true in
theorem mL{s:Sk}(h:ya r ρ=Y (s,t)):ρ[r]?=Y (Y (.obj s t)):=by
 unfold ya at h;split at h
 .rename_i e;cases h;exact jh e
 .cases h
section
variable {K:aX}
set_option tactic.hygienic true in
def SR.IA(S:SR K B Z G H J ρ)(h:IA b j ρ=Y (r,p))(d:j∈Z)(u:b=Z'->GL j∈Z):r∈Z/\∃s t a f,ρ[r]?=Y (Y (.obj s t))/\J[r]?=Y (Y (.ref a))/\J[j]?=Y (Y f)/\gX H p (.ref a)=Y f:=by
 unfold L2.IA at h;split at h
 .rename_i e;cases h;let e:=jh e;let(a,T,c,_):=S.tree d e;exact⟨d,_,_,a,_,e,c,c,rfl⟩
 .rename_i e;refine af λkk =>?_
  cases h;let(k,C,q,o,y,w,n,i,g,x,v,z):=S.gL j r p d (u rfl) (jh e);let(a,T,c,_):=S.tree k i;rw[c]at g;cases g;exact kk (⟨k,q,o,a,n,i,c,x,v⟩)
 .cases h
def zw(d:x∈T):bI (jP H T) (fD H x o):=λb u e=>by
 grind [nL,dP,aP]
def SR.UR{s:Sk}{f:aJ}{l:List D}{d:D}{v:V}(S:SR K B Z G H J ρ)(Q:r∈Z)(R:ρ[r]?=Y (Y (.obj s t)))(w:oM p s=Y (.fs c fk))(ep:jI p t=Y (.ins c h l))(hf:EE (fG fk f)=Z')(ha:f∉Fd)(rv:eR K G d v):
  ∃a x C k i,J[r]?=Y (Y (.ref a))/\gX H p (.ref a)=Y (.ref x)/\uO K bC c=Y (Y (.ref C))/\H x=Y (.ins C k (h.zip i))/\h.length=i.length /\
   SR K B Z G (fD H x (.ins C k (mO f v (h.zip i)))) J (ρ.set r (Y (.obj s (mY (.ins c (jV f d h l).1 (jV f d h l).2) p t)))):=by
 refine af λkk =>?_
 let(a,T,e1,o1,nd,P,F,W,hF):=S.tree Q R;let(x,C,k,i,h1,X,h3,U,h5,h6,T',o2,u,n):=o1.put nd w ep (bI.refl G) (λm m m e=>e) (by rw[Cq hf];exact Ÿ) Ÿ λb j=>by cases j
 refine kk (⟨a,x,C,k,i,e1,h1,h3,U,h6,S.S9 W hF Q R e1 ⟨zw X,bI.refl _,λb o e =>?_,λb o e =>.inl e⟩ o2 u (λb j =>?_) λq v' hq hv =>?_⟩)
 .rw[aP (λz=>by simp_all)];exact S.gh b o e
 .simp_all
 .refine vv U bB (λb j o e=>by rw[aP j];exact e) (λg hg =>?_) hv;let y:g≠f:=λz=>ha (z ▸ hq g hg)
  rw[sx,if_neg y]
def SR.HF{s:Sk}{X:D}(S:SR K B Z G H J ρ)(hr:r∈Z)(hd:ρ[r]?=Y (Y (.obj s t)))(w:oM p s=Y u)(ep:jI p t=Y X):
  ∃a x i,J[r]?=Y (Y (.ref a))/\gX H p (.ref a)=Y x/\dC K G H u X x i/\i.Nodup/\(∀b∈i,G b=M) /\
   ∀(g:D) (f:List aD) (N L:Hp),i9 G (jP H i) N L->dC K N L u g x f->f.Nodup->(∀b∈f,N b=M/\(b∈i\/H b=M))->gX L p (.ref a)=Y x/\SR K B Z N L J ((fU r ρ).set r (Y (.obj s (mY g p t)))):=by
 let(a,T,e1,C,nd,nf,F,W,hF):=S.tree hr hd;let(x,i,U,h1,o2,v,k1):=C.focus w ep;let k:=v.nodup_iff.mp nd;rw[eD]at k;let(n1,n2,n3):=k;have h:∀b∈i,b∈T:=λb d=>v.symm.subset (aT _ d)
 have n:∀b∈U,b∈T:=λb d=>v.symm.subset (aG _ d)
 let R:=λb d Q=>n3 b Q b d rfl
 refine⟨a,x,i,e1,h1,o2,n1,λb d=>(nf b (h b d)).1,λg f N L E nw l j =>?_⟩;let(gv,T',o3,p3):=k1 N L g f E.gg (λb d o e=>E.hh b o (by rw[dP (R b d)];exact e)) nw;refine⟨gv,?_⟩;refine S.CZ W hF hr hd e1 ⟨λb o e =>?_,E.gg,E.gh,λb o e =>?_⟩ o3 ?_ λb d =>?_
 .by_cases d:b∈T
  .rw[nL d]at e;cases e
  .rw[dP d]at e;exact E.hh b o (by rw[dP (λz=>d (h b z))];exact e)
 .rcases E.fr b o e with z|z
  .exact .inl z
  .refine .inr ?_;by_cases d:b∈T
   .rw[nL d]
   .rw[dP d];rw[dP (λz=>d (h b z))]at z;exact z
 .rw[p3.nodup_iff,eD];refine⟨l,n2,λb d c hc z =>?_⟩;subst z;rcases(j b d).2 with z|z
  .exact R b hc z
  .let⟨o,P,_⟩:=C.here b (n b hc);rw[P]at z;cases z
 .rcases aO.mp (p3.subset d) with q|q
  .refine⟨(j b q).1,?_⟩;rcases(j b q).2 with z|z<;>simp_all
  .refine⟨?_,.inl (n b q)⟩;rcases z:N b with _|o
   .rfl
   rcases E.fr b o z with y|y
   .rw[(nf b (n b q)).1]at y;cases y
   .let⟨o,P,_⟩:=C.here b (n b q);rw[dP (R b q),P]at y;cases y
end
mutual
noncomputable def Sk.t7:Sk->Sk->Bool
 |.lf,.lf=>Z'|.li s,.li t=>Sk.t7 s t|.fs c k,.fs d l=>decide (c=d)&&Sk.K2 k l|.di,.di=>Z'|.vl,.vl=>Z'|_,_=>Z_
noncomputable def Sk.K2:List (aJ×Sk)->List (aJ×Sk)->Bool
 |[],[]=>Z'|(c,s)::k,(d,t)::l=>decide (c=d)&&(Sk.t7 s t&&Sk.K2 k l)|_,_=>Z_
end
mutual
theorem Sk.qM:∀ {s t:Sk},Sk.t7 s t=Z'->s=t
 |.lf,.lf,_=>rfl|.di,.di,_=>rfl|.vl,.vl,_=>rfl|.lf,.vl,h=>by simp[Sk.t7]at h
 |.vl,.lf,h=>by simp[Sk.t7]at h
 |.li _,.vl,h=>by simp[Sk.t7]at h
 |.vl,.li _,h=>by simp[Sk.t7]at h
 |.fs _ _,.vl,h=>by simp[Sk.t7]at h
 |.vl,.fs _ _,h=>by simp[Sk.t7]at h
 |.di,.vl,h=>by simp[Sk.t7]at h
 |.vl,.di,h=>by simp[Sk.t7]at h
 |.li s,.li t,h=>by rw[Sk.qM (s:=s) (by simpa only [Sk.t7] using h)]
 |.fs c k,.fs d l,h=>by simp only[Sk.t7,aA,decide_eq_true_eq]at h;rw[h.1,Sk.Jo h.2]
 |.lf,.li _,h=>by simp[Sk.t7]at h
 |.lf,.fs _ _,h=>by simp[Sk.t7]at h
 |.lf,.di,h=>by simp[Sk.t7]at h
 |.li _,.lf,h=>by simp[Sk.t7]at h
 |.li _,.fs _ _,h=>by simp[Sk.t7]at h
 |.li _,.di,h=>by simp[Sk.t7]at h
 |.fs _ _,.lf,h=>by simp[Sk.t7]at h
 |.fs _ _,.li _,h=>by simp[Sk.t7]at h
 |.fs _ _,.di,h=>by simp[Sk.t7]at h
 |.di,.lf,h=>by simp[Sk.t7]at h
 |.di,.li _,h=>by simp[Sk.t7]at h
 |.di,.fs _ _,h=>by simp[Sk.t7]at h
theorem Sk.Jo:∀ {k l:List (aJ×Sk)},Sk.K2 k l=Z'->k=l
 |[],[],_=>rfl|(c,s)::k,(d,t)::l,h=>by simp only[Sk.K2,aA,decide_eq_true_eq]at h;rw[h.1,Sk.qM h.2.1,Sk.Jo h.2.2]
 |[],_::_,h=>by simp[Sk.K2]at h
 |_::_,[],h=>by simp[Sk.K2]at h
end
def xT(c:aJ)(s:Sk)(t:D)(p:Ae):Option (List (aJ×Sk)×List aJ×List D):=match oM p s,jI p t with
 |some (.fs f d),Y (.ins a b e)=>if f=c/\a=c then Y (d,b,e) else M
 |_,_=>M
def wI{s:Sk}(h:xT c s t p=Y (b,a,d)):oM p s=Y (.fs c b)/\jI p t=Y (.ins c a d):=by
 unfold xT at h;split at h<;>simp_all
section
variable {X:Cx}
def fV(b:Bool)(j:Nat)(c f:aJ)(h:DF):DG:=λa=>(h a).bind λd=>(IA b j a).bind λq=>(ya q.1 a).bind λe=>(xT c e.1 e.2 q.2).bind λz=>
 if EE (fG z.1 f)=Z'/\z.2.1.length<999 then Y (.nx (a.set q.1 (Y (.obj e.1 (mY (.ins c (jV f d z.2.1 z.2.2).1 (jV f d z.2.1 z.2.2).2) q.2 e.2))))) else M
set_option tactic.hygienic true in
def QL{b:Bool}{c f:aJ}(h:PE X (.Name x p) (j8 j))(he:PE X e (tP X.K Z y))(w:sV X.K c f)(hj:autoParam (j∈Z) Ū)(hb:autoParam (b=Z'->GL j∈Z) Ū)(ha:autoParam (f∉Fd) Ū)(hs:autoParam (cY e (Y (.Attribute (.Name x p) f A)) g.line X.env=fK false) Ŭ):PS X (.Assign [.Attribute (.Name x p) f A] e g) (jW X.K B I Z Z (fV b j c f y)):=(B9 h he hs).imp <|by
 rintro D σ H ⟨G,q,o,S,i,k⟩;let(d,ef,i):=aa.1 i;rcases l:IA b j q with _|⟨r,T⟩
 .simp[l]at i
 rcases n:ya r q with _|⟨s,t⟩
 .simp[l,n]at i
 rcases u:xT c s t T with _|⟨fk,ks,ds⟩
 .simp[l,n,u]at i
 simp only[l,n,u,ai]at i;split at i
 .rename_i hz;cases i;let(i1,U):=wI u;refine⟨G,q,d,S.gh,S.lg,ef,λv G' H' E R =>?_⟩;let P:=S.ext E;refine af λkk =>?_
  let(hr,s',t',a,v',J,e2,e3,e4):=P.IA l hj hb;let m:=mL n;rw[m]at J;let(a',Q,C,dx,vs,K,F,z,f4,f5,f6):=P.UR hr m i1 U hz.1 ha R;rw[e2]at K;cases K;rw[e4]at F;cases F;refine kk (⟨_,e3,Q,C,dx,_,rfl,f4,(w C z).1,(w C z).2,?_,k _ G' _ f6⟩);rw[uX f5];lia
 .cases i
def gO(b:Bool)(j:Nat)(c f:aJ)(h:Int->Int->Int)(i:DF):DG:=λa=>(i a).bind λd=>(IA b j a).bind λq=>(ya q.1 a).bind λe=>(xT c e.1 e.2 q.2).bind λz=>match (z.2.1.zip z.2.2).lookup f,d with
 |some (.int m),.int n=>if EE (fG z.1 f)=Z'/\z.2.1.length<999 then Y (.nx (a.set q.1 (Y (.obj e.1 (mY (.ins c (jV f (.int (h m n)) z.2.1 z.2.2).1 (jV f (.int (h m n)) z.2.1 z.2.2).2) q.2 e.2))))) else M
 |_,_=>M
theorem xg{f:aJ}:∀ {ks:List aJ}{ds:List D}{u:D},(ks.zip ds).lookup f=Y u->∃m,Dx f ks=Y m/\ds[m]?=Y u
 |[],a,u,h=>by simp at h
 |k::ks,[],u,h=>by simp at h
 | k::ks,v::a,u,h=>by
  simp only[fR,lS]at h;cases e:f==k with
  |true=>rw[e]at h;cases h;exact⟨0,by simp[Dx,e],rfl⟩
  |false=>
   rw[e]at h;let(m,c,b):=xg h
   simp_all [Dx]
theorem SR.aaW{K:aX}{o:cE}{s:Sk}{f:aJ}{v:List D}(S:SR K B Z G H k o)(Q:r∈Z)(hd:o[r]?=Y (Y (.obj s t)))(J:oM q s=Y (.fs c h))(ep:jI q t=Y (.ins c b v))(X:EE (fG h f)=Z')(R:(b.zip v).lookup f=Y d):
  ∃a x C j e u,k[r]?=Y (Y (.ref a))/\gX H q (.ref a)=Y (.ref x)/\uO K bC c=Y (Y (.ref C))/\H x=Y (.ins C j (b.zip e))/\(b.zip e).lookup f=Y u/\eR K G d u:=by
 refine af λkk =>?_
 let(a,T,e1,P,_):=S.tree Q hd;let(x,T1,U,h1,g,_):=P.focus J ep;refine kk ?_;cases g with
 |@ins _ _ _ _ w C j e S0 n ex l z=>
  let⟨m,p,e2⟩:=xg R;let i:(b.map (fG h))[m]?=Y .lf:=by rw[aR,vu p,<- Cq X];exact Ÿ
  let(y,T1,U1,f1,E,_):=z.at i e2;cases E with
  |leaf r=>exact⟨a,w,C,j,e,y,e1,h1,n,ex,by rw[qL p];exact f1,r⟩
set_option tactic.hygienic true in
def U0{b:Bool}{c f:aJ}{op:Int->Int->Int}{o:Operator}(y:Lk X o (Ta op))(h:PE X (.Name x p) (j8 j))(he:PE X e (tP X.K Z fe))(hc:sV X.K c f)(hj:autoParam (j∈Z) Ū)(hb:autoParam (b=Z'->GL j∈Z) Ū)(ha:autoParam (f∉Fd) Ū):
  PS X (.AugAssign (.Attribute (.Name x p) f A) o e g) (jW X.K B I Z Z (gO b j c f op fe)):=(Kh h he y).imp <|by
 rintro D σ H ⟨G,w,o,S,i,k⟩;let(d,ef,i):=aa.1 i;rcases q:IA b j w with _|⟨r,pt⟩
 .simp[q]at i
 rcases u:ya r w with _|⟨s,t⟩
 .simp[q,u]at i
 rcases K:xT c s t pt with _|⟨fk,ks,ds⟩
 .simp[q,u,K]at i
 simp only[q,u,K,ai]at i;split at i
 .rename_i m n z;split at i
  .rename_i T;cases i;let(R,Q):=wI K;let(U,s',t',a,v',e1,e2,e3,e4):=S.IA q hj hb;let l:=mL u;let(a1,x1,P,J,vs1,u1,g1,g2,F,g4,g5,g6):=S.aaW U l R Q T.1 z;rw[e2]at g1;cases g1;rw[e4]at g2;cases g2;cases cJ.mp g6;refine⟨_,e3,x1,P,J,_,_,rfl,g4,(hc P F).1,(hc P F).2,g5,G,w,_,S.gh,S.lg,ef,λv G' H' E r =>?_⟩;refine af λkk =>?_
   cases cJ.mp r;let(a',x',C,dx,vs,f1,f2,f3,f4,f5,f6):=(S.ext E).UR U l R Q T.1 ha (cJ.mpr rfl);rw[e2]at f1;cases f1;rw[jY E.hh e4]at f2;cases f2;rw[F]at f3;cases f3;refine kk (⟨_,_,rfl,rfl,dx,_,f4,?_,k _ G' _ f6⟩);rw[uX f5];omega
  .cases i
 .cases i
inductive O1 (K:aX) (Z:List Nat) (s:Sk) (f:DF) (i:St) (H:Hp) (Q:VK):Prop
 |mk G h d:bI G H->kR K Z G H i h->f h=some d->(∀v a e c,i9 G H e c->dC K e c s d v a->a.Nodup->(∀b∈a,e b=none/\H b=none)->Q v c)->O1 K Z s f i H Q
def abo{s:Sk}:PE X (.List [] g) (O1 X.K Z (.li s) (eK (.lst []))):=(U' Hy).imp <|by
 rintro o H Q ⟨G,f,d,j,a,l,k⟩;cases l;refine⟨G,f,[],j,a,rfl,λq p n m E i h e r =>?_⟩;rw[dO.mp r]at e;exact k _ [q] n m E (.lst e .nil) ż λb c=>by simp_all
abbrev Ë:=eK (.iW [] [])
def abp:PE X (.Dict [] [] g) (O1 X.K Z .di Ë):=MB.imp <|by
 rintro i H Q ⟨G,j,d,e,h,f,k⟩;cases f;exact λq a=>k _ [q] G _ (i9.lay e a) (.iW bB rfl .nil) ż λb c=>by simp at c;subst c;exact⟨e.free a,a⟩
noncomputable def N8(c:aJ)(f:DF):DF:=λb=>(f b).bind λd=>match d with|.ins a e h=>if a=c then Y (.ins a e h) else M|_=>M
set_option tactic.hygienic true in
def QU{c:aJ}{f:DF}(h:PE X e (Wv X.K Z f)):PE X e (O1 X.K Z (.fs c []) (N8 c f)):=h.imp <|by
 rintro x H Q ⟨G,l,d,t,i,a,k⟩;let(y,u,a):=aa.1 a;split at a
 .split at a
  .rename_i m;cases a;subst m;exact⟨G,l,_,t,i,u,λq o w v E s p n r=>k _ [q] w v E (y_.mpr ⟨⟨o,n,r⟩,rfl⟩) ż λb j=>Ż⟩
  .cases a
 .cases a
noncomputable def UY(f:DF):DF:=λa=>(f a).map λd =>.lst [d]
def Vc{s:Sk}{f:DF}(h:PE X e (O1 X.K Z s f))(x:autoParam (ar (e::[]) X.env=(Z_,eval e X.env)::ar [] X.env) Ŭ):PE X (.List [e] g) (O1 X.K Z (.li s) (UY f)):=(y8 (eC h gG x)).imp <|by
 rintro F H Q ⟨G,t,d,B,m,i,k⟩;let(y,C,i):=aq.1 i;cases i;refine⟨G,t,y,B,m,C,λv r D K E n w u=>⟨by simp;exact bX ż vn,λq c =>?_⟩⟩;have a:q∉r:=λz=>by let(o,p,_):=n.here q z;lia
 refine k _ _ D _ (E.trans (i9.lay E.gh c)) (.lst bB (.cons (n.mono (bI.refl _) λb l o e =>?_) .nil)) ?_ λb l =>?_
 .grind [aP]
 .simp[a,w]
 .rcases aV.mp l with z|z
  .subst z;exact⟨E.gh.free c,E.hh.free c⟩
  simp_all
def Va{s:Sk}{f:DF}(h:PE X e (O1 X.K Z s f)):PE X e (tP X.K Z f):=h.imp <|by
 rintro t H Q ⟨G,m,d,p,i,q,k⟩;refine⟨G,m,d,p,i,q,λv j r l E n u c=>k v (lD r l j) l ⟨E.hh,E.gg.trans (kX λb a=>(c b a).1),n6 E.gh,λb o e =>?_⟩ (n.frozen (λb a=>(c b a).1) λb a=>a)⟩;by_cases a:b∈j
 .exact .inr (c b a).2
 .rw[oH a]at e;exact E.fr b o e
noncomputable def Il(i:Nat)(s:Sk)(f:DF):DG:=λa=>(f a).map λd =>.nx (a.set i (Y (.obj s d)))
def SR.SU{K:aX}{m:cE}{s:Sk}(S:SR K B Z G H t m)(C:i∈Z)(E:i9 G H l n)(v:dC K l n s d (.ref a) k)(x:k.Nodup)(u:∀b∈k,l b=M/\H b=M)(c:∀a,(i,a)∉B.3)(y:Bj i∉Z\/∀d,m[i]? ≠ Y (Y d)):SR K B Z l n (t.set i (Y (.ref a))) (m.set i (Y (.obj s d))):=by
 let(F,W):=S.ow;exact S.chg (F0:=[]) W C (λb f=>by cases f) E.gg E.gh λb o e=>by rcases E.fr b o e with z|z<;>simp_all (λb o r e=>E.hh b o e)
  v x (λb f=>⟨(u b f).1,.inr (u b f).2⟩) (λb h=>absurd h (c b)) (λr p z=>by cases z) λj q P g r e=>by
   let(_,R,s0,U,X,w,T,Q,_):=S.gL j i q P g e
   simp_all
def Y1{i:Nat}{s:Sk}{f:DF}(C:X.N.Nodup)(u:X.N[i]?=Y x)(p:Loc X.env.scope x)(y:PE X e (O1 X.K Z s f))(r:autoParam (i∈Z) Ū)(c:autoParam (∀a,(i,a)∉B.3) ť)(t:autoParam (Bj i∉Z) Ū)(b:autoParam (EE s=false) Ŭ)(q:autoParam (cY e (Y (.Name x A)) g.line X.env=fK false) Ŭ)(w:autoParam (X.fn x=Z'\/X.env.scope.names.lookup x=Y .local) ŧ):
  PS X (.Assign [.Name x A] e g) (jW X.K B I Z Z (Il i s f)):=(mr C u p y q w).imp <|by
 rintro D P H ⟨G,l,o,S,h,k⟩;unfold Il at h;let(d,F,h):=aq.1 h;cases h;refine⟨G,l,d,S.gh,S.lg,F,λv Q J K E j n m =>?_⟩;let(a,rfl):=j.isRef (λz=>by rw[z]at b;cases b);exact k _ J K (S.SU r E j n m c (.inl t))
def m3(j:Nat)(c f:aJ)(l:Sk)(m:DF):DG:=λa=>(m a).bind λd=>(ya j a).bind λh=>match h.1,h.2 with
 |.fs n i,.ins e b k=>if (n=c/\e=c)/\Sk.t7 (fG i f) l=Z'/\b.length<999 then Y (.nx ((fU j a).set j (Y (.obj (.fs c i) (.ins c (jV f d b k).1 (jV f d b k).2))))) else M
 |_,_=>M
def SR.PQ{K:aX}{v g:Hp}{X:St}{f:aJ}(S:SR K B Z G H X ρ)(hr:r∈Z)(hd:ρ[r]?=Y (Y (.obj (.fs c fk) (.ins c n U))))(E:i9 G H v g)(o1:dC K v g (fG fk f) d u S1)(nd1:S1.Nodup)(m:∀b∈S1,v b=M/\H b=M):
  ∃x C Q w,X[r]?=Y (Y (.ref x))/\uO K bC c=Y (Y (.ref C))/\g x=Y (.ins C Q (n.zip w))/\n.length=w.length /\
   SR K B Z v (fD g x (.ins C Q (mO f u (n.zip w)))) X ((fU r ρ).set r (Y (.obj (.fs c fk) (.ins c (jV f d n U).1 (jV f d n U).2)))):=by
 refine af λkk =>?_
 let(a,T,e1,ot,nd,nf,F,W,hF):=S.tree hr hd;let inH:∀b∈T,∃o,H b=Y o:=λb l=>by let(o,s,_):=ot.here b l;exact⟨o,s⟩
 let dj:∀b∈S1,b∉T:=λb l RY=>by let(o,s):=inH b RY;rw[(m b l).2]at s;cases s
 let(x,C,Q,w,h1,h2,h3,h4,h5,h6,T',o2,nd2,sub):=ot.put (p:=[]) (f:=f) nd rfl rfl E.gg (λb q o e=>E.hh b o e) o1 nd1 dj;cases h1;let hu:=kW (r:=r) hd (λq z=>by cases z);let S':=(S.ext E).J3 (r:=r);let Wx:=W.ext E;let W':tT K B Z v g X (fU r ρ) F:=⟨λi d P e=>Wx.it i d P (bV e).1,λi d P e=>Wx.ok i d P (bV e).1,λi j d c P hj ei ej=>Wx.ap i j d c P hj (bV ei).1 (bV ej).1⟩;have gT:∀b∈T,v b=none:=λb l=>by rw[<- hF]at l;exact((Wx.ok r _ hr hd).2 b l).1
 let R:=S'.HC (i:=r) (a:=a) (d' :=.obj (.fs c fk) _) (F0:=T) (S':=T') (G':=v) W' hr (λb l=>⟨by rw[hF];exact l,_,hu⟩) (bI.refl _) (λb o e=>by
   let t:b≠a:=λz=>by rw[z,gT a h2]at e;cases e
   rw[aP t];exact E.gh b o e) (λb o e =>.inl e) (λb o l e=>by
   let t:b≠a:=λz=>l (z ▸ h2)
   rw[aP t];exact e) o2 nd2 (λb l=>by
   rcases sub b l with z|z
   .exact⟨gT b z,.inl z⟩
   .refine⟨(m b z).1,.inr (.inr ⟨S.h0.free (m b z).2,λk c hk ek RX hbk =>?_⟩)⟩;let(y,f1,f2):=W.it k c hk (bV ek).1;let(o,s):=f2.here b hbk;rw[(m b z).2]at s;cases s) (λb h=>by have:=(S.pin r b h).2;simp_all) (λr p z=>by cases z)
  (λj p q q q e=>absurd rfl ((bV e).2 p))
 let R:=R.1;rw[hW e1]at R;exact kk (⟨a,C,Q,w,e1,h3,E.hh _ _ h4,h6,R⟩)
set_option tactic.hygienic true
def Od{c f:aJ}{s1:Sk}(h:PE X (.Name x p) (j8 j))(P:PE X e (O1 X.K Z s1 q))(n:sV X.K c f)(J:autoParam (j∈Z) Ū)(K:autoParam (cY e (Y (.Attribute (.Name x p) f A)) g.line X.env=fK false) Ŭ):PS X (.Assign [.Attribute (.Name x p) f A] e g) (jW X.K B I Z Z (m3 j c f s1 q)):=(B9 h P K).imp <|by
 rintro D σ H ⟨G,l,o,S,a,k⟩;let(d,ef,a):=aa.1 a;rcases i:ya j l with _|⟨s,t⟩
 .simp[i]at a
 simp only[i,ai]at a;split at a
 .split at a
  .rename_i F;obtain⟨⟨rfl,rfl⟩,b,z⟩:=F;cases a;refine⟨G,l,d,S.gh,S.lg,ef,λv S1 G' H' E m y w =>?_⟩;rw[<- Sk.qM b]at m;let(u,C,dx,vs,f1,r,U,T,R):=S.PQ J (mL i) E m y w;refine⟨_,f1,u,C,dx,_,rfl,U,(n C r).1,(n C r).2,?_,k _ G' _ R⟩;rw[uX T];lia
  .cases a
 .cases a
end
def rW(c f:aJ)(j:Nat)(A:cE):Option (List (aJ×Sk)×List aJ×List D×D):=(ya j A).bind λb=>match b.1,b.2 with
 |.fs k i,.ins a d e=>if k=c/\a=c then (Dx f d).bind λn=>(e[n]?).map λh=>(i,d,e,h) else M
 |_,_=>M
set_option tactic.hygienic true in
def nY{f:aJ}{m:List D}(h:rW c f j A=Y (a,e,m,o)):A[j]?=Y (Y (.obj (.fs c a) (.ins c e m)))/\oM [.fld f] (.fs c a)=Y (fG a f)/\jI [.fld f] (.ins c e m)=Y o:=by
 unfold rW at h;rcases i:ya j A with _|⟨s,t⟩
 .simp_all
 rw[i]at h;simp at h;split at h
 .rename_i u q r d l;split at h
  .rename_i p;let(rfl,rfl):=p;rcases b:Dx f d with _|n
   .simp[b]at h
   rcases k:l[n]? with _|y
   .simp_all
   simp only[b,k,ai,cS,jk,Av]at h;let(rfl,rfl,rfl,rfl):=h;exact⟨mL i,rfl,by simp[jI,b,k]⟩
  .cases h
 .cases h
abbrev B8(c f:aJ)(b:List (aJ×Sk))(a:List aJ)(d:List D)(x:D):D :=.obj (.fs c b) (mY x [.fld f] (.ins c a d))
section
variable {K:aX}
theorem SR.KY{f:aJ}{s:List (aJ×Sk)}{v:List D}(S:SR K B Z G H J A)(p:r∈Z)(q:A[r]?=Y (Y (.obj (.fs c s) (.ins c e v))))(t:J[r]?=Y (Y (.ref a)))(b:gX H [.fld f] (.ref a)=Y x):
  ∃C d h,uO K bC c=Y (Y (.ref C))/\H a=Y (.ins C d h)/\h.lookup f=Y x:=by
 refine af λkk =>?_
 let(y,T,k,o,_):=S.tree p q;rw[t]at k;cases k;refine kk ?_;cases o with
 |@ins _ _ _ _ _ C d m z n i l w=>refine⟨C,d,_,n,i,?_⟩;simp only[gX,i]at b;let(u,j,b):=aa.1 b;rw[j,b]
def SR.AZ{p:Ae}{s:Sk}(S:SR K B Z G H J A)(E:r∈Z)(F:A[r]?=Y (Y (.obj s t)))(g:oM p s=Y j)(I:jI p t=Y n):
  ∃a x f,J[r]?=Y (Y (.ref a))/\gX H p (.ref a)=Y x/\dC K G H j n x f/\f.Nodup /\
   ∀(l:aD) (o:HO) (d:D) (c:List aD),l∈f->dC K G (fD H l o) j d x c->c.Nodup->(∀b∈c,b∈f)->SR K B Z G (fD H l o) J ((fU r A).set r (Y (.obj s (mY d p t)))):=by
 let(a,x,f,R,P,w,C,q,k):=S.HF E F g I;refine⟨a,x,f,R,P,w,C,λl o d c v y m h=>(k d c G _ ⟨zw v,bI.refl _,λb u e =>?_,λb u e =>.inl e⟩ y m λb i=>⟨q b (h b i),.inl (h b i)⟩).2⟩;rw[aP λz=>by simp_all];exact S.gh b u e
end
section
variable {X:Cx}
def Mj(j:Nat)(c f:aJ)(b:DF):DG:=λA=>(rW c f j A).bind λq=>(b A).bind λd=>match q.2.2.2 with
 |.lst a=>if Sk.t7 (fG q.1 f) (.li .lf)=Z'/\a.length<eJ then Y (.nx ((fU j A).set j (Y (B8 c f q.1 q.2.1 q.2.2.1 (.lst (a++[d])))))) else M
 |_=>M
set_option tactic.hygienic true in
def Y6{c f:aJ}(h:PE X (.Name x p) (j8 j))(he:PE X e (tP X.K Z fe))(hc:sV X.K c f)(hj:autoParam (j∈Z) Ū)(UI:autoParam (cN (.Name x p) f X.env (eval (.Name x p) X.env)=eval (.Name x p) X.env) Ŭ)(s:autoParam (cN (.Attribute (.Name x p) f I) "append" X.env (eval (.Attribute (.Name x p) f I) X.env)=eval (.Attribute (.Name x p) f I) X.env) Ŭ) (u:autoParam (((eS N (ar (e::[]) X.env)).all (λx=> !x.1)&&(ki N (gr [] X.env)).all (λx=>x.1.isSome)
   && decide ((e::[]).length+([]:List n_).length+(if ([]:List n_).isEmpty then 0 else 1)<30))=true) Ŭ) (q:autoParam ((U.endLine==N.line)=true) Ŭ) (hs:autoParam (ar (e::[]) X.env=(Z_,eval e X.env)::ar [] X.env) Ŭ) (m:autoParam ((eS N (ar [] X.env)).any (·.1)=false) Ŭ) (hsw:autoParam (cY (.Call (.Attribute (.Attribute (.Name x p) f I) "append" U) [e] [] N) M L.line X.env=fK false) Ŭ) :
  PS X (.Expr (.Call (.Attribute (.Attribute (.Name x p) f I) "append" U) [e] [] N) L) (jW X.K B Q Z Z (Mj j c f fe)):=
 (nI (xl g_ PySem.F.slot_list_append PySem.F.type_list_append kZ (sj h UI) (eC he gG hs) s u q hs m) hsw).imp <|by
  rintro D J H ⟨G,A,o,S,i,k⟩;obtain⟨⟨fk,ks,ds,t1⟩,et,i⟩:=aa.1 i;rcases ef:fe A with _|d
  .simp[ef]at i
  simp only[ef,ai]at i;split at i
  .split at i
   .rename_i hz;refine af λkk =>?_
    cases i;let(hd,i1,i2):=nY et;rw[Sk.qM hz.1]at i1;let(a,y,T1,e1,e2,o1,_):=S.AZ hj hd i1 i2;let(C,dx,fs,n,f1,f2):=S.KY hj hd e1 e2;refine kk ?_;cases o1 with
    |@lst _ _ l vs S0 hl tt=>
     refine⟨_,e1,a,C,dx,fs,_,rfl,f1,(hc C n).1,(hc C n).2,f2,.inl ⟨rfl,vs,.of hl⟩,G,A,d,S.gh,S.lg,ef,λv G' H' E r =>?_⟩;refine af λkk =>?_
     let(a',y',T1',F,w,g,R,k'):=(S.ext E).AZ hj hd i1 i2;rw[e1]at F;cases F;rw[jY E.hh e2]at w;cases w;let(x',K,g1,g2,g3,g4,T2,o2,P,t):=g.app (p:=[]) R rfl rfl (bI.refl _) (λO O O z=>z) (.leaf r) Ÿ λb hb=>by cases hb
     cases g1;refine kk (⟨l,K,v,rfl,rfl,g3,?_,k _ G' _ (k' l _ _ T2 g2 o2 P λb hb =>?_)⟩)
     .rw[<- g4];exact bD hz.2 iJ
     .rcases t b hb with z|z<;>trivial
   .cases i
  .cases i
noncomputable def my(k:l_)(d:D)(a:List l_)(b:List D):List l_×List D:=if (a.any λq=>decide (q=k))=Z' then (a,vS (λq x=>if q=k then d else x) a b) else (a++[k],b++[d])
theorem JG:∀ {ks:List l_}{a:List V},ks.length=a.length->((ks.zip a).any λb=>decide (b.1=k))=ks.any λq=>decide (q=k)
 |[],a,h=>by simp
 |q::ks,[],h=>by simp at h
 |q::ks,v::a,h=>by simp;rw[JG (by simp_all)]
theorem IP{v:V}:∀ {ks:List l_}{a:List V},(ks.zip a).map (λb=>if b.1=k then (b.1,v) else b)=ks.zip (vS (λq x=>if q=k then v else x) ks a)
 |[],a=>by simp
 |q::ks,[]=>by simp
 | q::ks,u::a=>by
  simp only[fR,a_,Rq,IP]
  grind
theorem vg{K:aX}{v:V}(r:eR K G d v):∀ {b:List l_}{e:List D}{a:List V},a9 K G e a->a9 K G (vS (λq x=>if q=k then d else x) b e) (vS (λq x=>if q=k then v else x) b a)
 |[],e,a,h=>by solve_by_elim
 |q::b,[],a,h=>by rw[dO.mp h];exact Ÿ
 | q::b,x::e,a,h=>by
  let(u,j,rfl,i,f):=bJ.mp h;refine .cons ?_ (vg r f)
  grind
def QV{K:aX}{k:l_}{v:V}{f:List V}(r:eR K G d v)(j:a.length=b.length)(i:a9 K G b f):∃c,w_ (a.zip f) k v=(my k d a b).1.zip c/\(my k d a b).1.length=(my k d a b).2.length/\a9 K G (my k d a b).2 c:=by
 have e:a.length=f.length:=by rw[j,i.length]
 unfold w_ my;rw[JG e];by_cases h:(a.any λq=>decide (q=k))=Z'
 .rw[if_pos h,if_pos h];exact⟨_,IP,by simp[j],vg r i⟩
 .rw[if_neg h,if_neg h];refine⟨_,?_,by simp[j],i.append (.cons r .nil)⟩;rw[List.zip_append e];rfl
def sh(j:Nat)(c f:aJ)(e:DF)(h:DM):DG:=λA=>(h A).bind λw=>(rW c f j w.2).bind λq=>(e w.2).bind λy=>(EC y).bind λb=>match q.2.2.2 with
 |.iW a d=>if Sk.t7 (fG q.1 f) .di=Z'/\a.length<eJ then Y (.nx ((fU j w.2).set j (Y (B8 c f q.1 q.2.1 q.2.2.1 (.iW (my b w.1 a d).1 (my b w.1 a d).2))))) else M
 |_=>M
set_option tactic.hygienic true in
def ET{c f:aJ}(P:X.A.units+1<rK)(h:PE X (.Name x p) (j8 j))(hi:PE X i (tP X.K Z fk))(he:PE X e (tM X.K B Z fe))(hc:sV X.K c f)(R:autoParam (j∈Z) Ū)(UI:autoParam (cN (.Name x p) f X.env (eval (.Name x p) X.env)=eval (.Name x p) X.env) Ŭ)(hs:autoParam (cY e (Y (.Subscript (.Attribute (.Name x p) f I) i O)) L.line X.env=fK false) Ŭ):
  PS X (.Assign [.Subscript (.Attribute (.Name x p) f I) i O] e L) (jW X.K B Q Z Z (sh j c f fk fe)):=(PV P (sj h UI) hi he hs).imp <|by
 rintro D J H ⟨G,A,o,S,b,k⟩;obtain⟨⟨d,l⟩,ef,b⟩:=aa.1 b;obtain⟨⟨fk',ks0,ds0,t1⟩,et,b⟩:=aa.1 b;rcases w:fk l with _|y
 .simp[w]at b
 rcases m:EC y with _|ky
 .simp[w,m]at b
 simp only[w,m,ai]at b;split at b
 .split at b
  .rename_i hz;cases b;let(hd,g,i2):=nY et;rw[Sk.qM hz.1]at g;refine⟨G,A,d,l,S,ef,λv G1 H1 t s1 rv =>?_⟩;let(a,y',T1,e1,e2,_):=t.AZ R hd g i2;let(C,dx,fs,n,f1,f2):=t.KY R hd e1 e2;refine⟨_,e1,a,C,dx,fs,_,rfl,f1,(hc C n).1,(hc C n).2,f2,G1,l,y,t.gh,t.lg,w,λu G2 H2 E2 ru =>?_⟩;let P:=vq m (.inl ru:kQ X.K G2 H2 y u);refine af λkk =>?_
   let(a',y2,T2,s,r,o2,K,k2):=(t.ext E2).AZ R hd g i2;rw[e1]at s;cases s;rw[jY E2.hh e2]at r;cases r;let(x',vs,g1,g2,g3,g4,g5,g6):=o2.dput (p:=[]) K rfl rfl (bI.refl _) λv v v z=>z
   cases g1;let(E,z1,z2,z3):=QV (eR.mono E2.gg d rv) g4 g5;let(T3,o3,F,q):=g6 _ _ E z2 z3;refine kk (⟨x',_,rfl,?_,k _ G2 _ (k2 x' _ _ T3 g2 o3 F q)⟩);rw[P,<- z1];refine OT.k g3 ?_;rw[List.length_zip,g4,g5.length,Rn,<- g5.length,<- g4];exact bD hz.2 iJ
  .cases b
 .cases b
def tZ(i j:Nat)(c f:aJ)(b:DF):DG:=λA=>(rW c f j A).bind λq=>(b A).bind λy=>match fG q.1 f,q.2.2.2,y with
 |.li (.fs _ _),.lst a,.int n=>(Dt a.length n).map λk =>.nx (A.set i (Y (.gL j [.fld f,.ix k])))
 |_,_,_=>M
set_option tactic.hygienic true
def Y7{i:Nat}{c f:aJ}{b:Expr}(hN:X.N.Nodup)(hy:X.N[i]?=Y y)(hly:Loc X.env.scope y)(h:PE X (.Name x p) (j8 j))(he:PE X b (tP X.K Z fe))(hc:sV X.K c f)(N:autoParam (j∈Z) Ū)(hj2:autoParam (Bj j∈Z) Ū)(hi:autoParam (i∈Z) Ū)(hi2:autoParam (Bj i∉Z) Ū)(VT:autoParam (j≠i) Ū)(s:autoParam (∀a,(i,a)∉B.3) ť)(hal:autoParam (f∈Fd) Ū)(UI:autoParam (cN (.Name x p) f X.env (eval (.Name x p) X.env)=eval (.Name x p) X.env) Ŭ)(hpi:autoParam (De b) Š)(hs:autoParam (cY (.Subscript (.Attribute (.Name x p) f I) b q) (Y (.Name y O)) L.line X.env=fK false) Ŭ)(hf:autoParam (X.fn y=Z'\/X.env.scope.names.lookup y=Y .local) ŧ):
  PS X (.Assign [.Name y O] (.Subscript (.Attribute (.Name x p) f I) b q) L) (jW X.K B Q Z Z (tZ i j c f fe)):=(mr hN hy hly (rj vr (sj h UI) he hpi) hs hf).imp <|by
 rintro D J H ⟨G,A,o,S,e,k⟩;obtain⟨⟨fk,ks,ds,t1⟩,et,e⟩:=aa.1 e;rcases ef:fe A with _|d
 .simp[ef]at e
 simp only[ef,ai]at e;split at e
 .rename_i c2 t xs n w;rcases R:Dt xs.length n with _|m
  .rw[R]at e;cases e
  rw[R]at e;cases e;let(P,i1,i2):=nY et;rw[w]at i1;let(a,y',T1,e1,e2,_):=S.AZ N P i1 i2;let(C,dx,fs,nn,f1,f2):=S.KY N P e1 e2;refine⟨_,e1,a,C,dx,fs,_,rfl,f1,(hc C nn).1,(hc C nn).2,f2,G,A,_,S.gh,S.lg,ef,λv G' H' E r =>?_⟩;cases cJ.mp r;let S':=S.ext E;let(a',y2,T2,K,F,o2,_):=S'.AZ N P i1 i2;rw[e1]at K;cases K;rw[jY E.hh e2]at F;cases F;cases o2 with
  |@lst _ _ l vs S0 hl tt=>
   have hm:=(Cp R).2.1;let(v1,T3,U3,g1,g2,_):=tt.at (s :=.fs c2 t) (by simp[hm]) (ao hm);let(b',o',rfl,_):=g2.root (λz=>by cases z) (λz=>by cases z);refine⟨l,vs,n,.ref b',rfl,rfl,.of hl,?_,k _ G' H' ?_⟩
   .unfold n9;rw[<- tt.length.1,R];exact g1
   .refine S'.SW N hj2 hi VT hi2 s P e1 (s' :=.fs c2 t) ?_ ?_ λg hg =>?_
    .have:=jY E.hh e2;simp only[gX]at this ⊢;rcases ea:H' a with _|ob
     .rw[ea]at this;cases this
     rw[ea]at this;cases ob<;>simp only at this ⊢<;>try (cases this;done)
     let(u,el,this):=aa.1 this;rw[el];simp at this;subst this;simp only[ai,gX,hl,g1]
    .simp only[oM,w]
    .simp[AM]at hg;subst hg;exact hal
 .cases e
end
section
variable {K:aX}{m:St}{g:cE}
def fM{i:Nat}(h:(g.set j M)[i]?=Y (Y d)):j≠i/\g[i]?=Y (Y d):=by
 by_cases e:j=i
 .subst e;by_cases a:j<g.length<;>simp_all
 .rw[au e]at h;exact⟨e,h⟩
def SR.blank(S:SR K B Z G H m g)(q:g[j]?=Y (Y d))(u:wH d=Z'):SR K B Z G H m (g.set j M):=by
 refine⟨S.gh,S.g0,S.h0,S.fr,λi c a e=>S.env i c a (fM e).2,?_,by simp[S.len],S.pin,λi r p y x e =>?_⟩
 .let⟨F,W⟩:=S.ow;exact⟨F,λi d a e=>W.it i d a (fM e).2,λi d a e=>W.ok i d a (fM e).2,λi j d c a o Q P=>W.ap i j d c a o (fM Q).2 (fM P).2⟩
 .let⟨s,O,n,k,l,w,h,f,C⟩:=S.gL i r p y x (fM e).2;let b:j≠r:=λz=>by subst z;rw[q]at f;cases f;cases u
  exact⟨s,O,n,k,l,w,h,Ż,C⟩
def SR.Ua{f:aJ}{X s:List D}(S:SR K B Z G H m g)(hr:r∈Z)(P:j∈Z)(hrj:r≠j)(hd:g[r]?=Y (Y (.obj (.fs c Q) (.ins c O U))))(E:oM [.fld f] (.fs c Q)=Y (.li (.fs n [])))(ep:jI [.fld f] (.ins c O U)=Y (.lst X))(h2:g[j]?=Y (Y (.ins n x s))):
  ∃a l y w,m[r]?=Y (Y (.ref a))/\gX H [.fld f] (.ref a)=Y (.ref l)/\m[j]?=Y (Y (.ref y))/\H l=Y (.lst w)/\X.length=w.length/\SR K B Z G (fD H l (.lst (w++[.ref y]))) m (((fU r g).set j M).set r (Y (B8 c f Q O U (.lst (X++[.ins n x s]))))):=by
 let(a,T,e1,o1,nd,nf,F,W,hF):=S.tree hr hd;let(y,e2,oc):=W.it j _ P h2;obtain⟨⟨ob,oh,cell⟩,fj⟩:=(ng.cell rfl).mp oc;let(_,fjn):=W.ok j _ P h2;have yF:y∈F j:=by rw[fj];exact Ÿ
 have yT:y∉T:=λz=>by rw[<- hF]at z;exact W.ap r j _ _ hr P hd h2 hrj y z yF
 let(l,w,g1,g2,g3,g4,T',o2,nd2,sub):=o1.app nd E ep (bI.refl G) (λq q q z=>z) (y_.mpr ⟨⟨ob,oh,cell⟩,rfl⟩) ż (λb u=>by simp at u;subst u;exact yT);refine⟨a,l,y,w,e1,g1,e2,g3,g4,?_⟩;let hu:=kW (r:=r) hd (λq z=>by cases z);let Xp:=kW (r:=r) h2 (λq z=>by cases z);let S0:=(S.J3).blank Xp rfl;let hr0:((fU r g).set j M)[r]?=Y (Y (.obj (.fs c Q) (.ins c O U))):=by rw[au (bQ hrj)];exact hu
 let R:=(S0.HC (i:=r) (a:=a) (d':=B8 c f Q O U (.lst (X++[D.ins n x s]))) (F0:=T) (S':=T') (G':=G) (H':=fD H l (.lst (w++[V.ref y]))) (⟨λi d hi e=>W.it i d hi (bV (fM e).2).1,λi d hi e=>W.ok i d hi (bV (fM e).2).1,λi j d c hi P ei ej=>W.ap i j d c hi P (bV (fM ei).2).1 (bV (fM ej).2).1⟩) hr (λb u=>⟨by rw[hF];exact u,_,hr0⟩) (bI.refl _) (λb o e=>by
   let C:b≠l:=λz=>by rw[z,(nf l g2).1]at e;cases e
   rw[aP C];exact S.gh b o e) (λb o e =>.inl e) (λb o u e=>by
   let C:b≠l:=λz=>u (z ▸ g2)
   rw[aP C];exact e) (o2) nd2 (λb u=>by
   rcases sub b u with z|z
   .exact⟨(nf b z).1,.inl z⟩
   .simp at z;subst z;refine⟨(fjn b yF).1,.inr (.inr ⟨(fjn b yF).2,λk c hk ek RX hbk =>?_⟩)⟩;let(YN,ek):=fM ek;exact W.ap j k _ c P hk h2 (bV ek).1 YN b yF hbk) (λb h=>by have:=(S.pin r b h).2;simp_all) (λr p z=>by cases z)
  (λj' p q q q e=>absurd rfl ((bV (fM e).2).2 p))).1
 simp_all [hW]
def SR.Qe{f:aJ}(S:SR K B Z G H m g)(hr:r∈Z)(hj:j∈Z)(hrj:r≠j)(hd:g[r]?=Y (Y (.obj (.fs c fk) (.ins c ks ds))))(E:oM [.fld f] (.fs c fk)=Y (.li (.fs c2 [])))(ep:jI [.fld f] (.ins c ks ds)=Y (.lst (xs++[.ins c2 k2 d2])))(U:∀a,(j,a)∉B.3)(hm:Bj j∉Z):
  ∃a l y P,m[r]?=Y (Y (.ref a))/\gX H [.fld f] (.ref a)=Y (.ref l)/\H l=Y (.lst (P++[.ref y]))/\SR K B Z G (fD H l (.lst P)) (m.set j (Y (.ref y))) (((fU r g).set r (Y (B8 c f fk ks ds (.lst xs)))).set j (Y (.ins c2 k2 d2))):=by
 refine af λkk =>?_
 let(a,T,e1,o1,nd,nf,F,W,hF):=S.tree hr hd;let(l,P,u,g1,g2,g3,g4,T',S1,o2,o3,pm):=o1.Z2 nd E ep;have hu:=kW (r:=r) hd λq z=>by cases z
 let Q:=pm.nodup_iff.mpr nd;rw[eD]at Q;let(n1,n2,n3):=Q;let T'T:∀b∈T',b∈T:=λb n=>pm.subset (aT _ n)
 let O:∀b∈S1,b∈T:=λb n=>pm.subset (aG _ n)
 let R:=(S.J3 (r:=r)).HC (i:=r) (a:=a) (d':=B8 c f fk ks ds (.lst xs)) (⟨λi d X e=>W.it i d X (bV e).1,λi d X e=>W.ok i d X (bV e).1,λi j d c X hj ei ej=>W.ap i j d c X hj (bV ei).1 (bV ej).1⟩) hr (λb n=>⟨by rw[hF];exact n,_,hu⟩) (bI.refl _) (λb o e=>by
   rw[aP (λz=>by rw[z,(nf l g2).1]at e;cases e)];exact S.gh b o e) (λb o e =>.inl e) (λb o n e=>by
   let s:b≠l:=λz=>n (z ▸ g2)
   rw[aP s];exact e) o2 n1 (λb n=>⟨(nf b (T'T b n)).1,.inl (T'T b n)⟩) (λb h=>by have:=(S.pin r b h).2;rw[e1]at this;cases this;exact Ÿ) (λr p z=>by cases z)
  (λj' p q q q e=>absurd rfl ((bV e).2 p))
 rw[hW e1]at R;let(Sr,Wr):=R;let(y,ob,rfl,_):=o3.root (λz=>by cases z) (λz=>by cases z);obtain⟨⟨o4,oh,cell⟩,s1⟩:=y_.mp o3;subst s1;let R2:=(Sr.HC (i:=j) (a:=y) (F0:=[]) Wr hj (λb n=>by cases n) (bI.refl _) Sr.gh (λb o e =>.inl e) (λb o q e=>e)
  ((ng.cell rfl).mpr ⟨⟨o4,oh,cell⟩,rfl⟩) ż (λb n=>by
   let C:=n;simp at n;subst n;refine⟨(nf b (O b C)).1,.inr (.inr ⟨(nf b (O b C)).2,λk cc hk ek RX x =>?_⟩)⟩;by_cases w:k=r
   .subst w;simp only[if_true]at x;exact n3 b x b C rfl
   .simp only[if_neg w]at x;rw[au (bQ w)]at ek;exact W.ap r k _ cc hr hk hd (bV ek).1 (bQ w) b (by rw[hF];exact O b C) x) (λb h=>absurd h (U b)) (λr p z=>by cases z)
  (λj' p h1 h2 q e=>by
   let(_,g0,_):=Sr.gL j' j p h1 h2 e
   simp_all)).1
 exact kk (⟨a,l,y,P,e1,g1,g3,R2⟩)
end
section
variable {X:Cx}{s v:Pos}
def B2(j i:Nat)(c f:aJ):DG:=λg=>(rW c f j g).bind λq=>(eV i g).bind λd=>match q.2.2.2,d with
 |.lst a,.ins b e h=>if Sk.t7 (fG q.1 f) (.li (.fs b []))=Z'/\a.length<eJ then Y (.nx (((fU j g).set i M).set j (Y (B8 c f q.1 q.2.1 q.2.2.1 (.lst (a++[.ins b e h])))))) else M
 |_,_=>M
set_option tactic.hygienic true in
def Ob{i:Nat}{c f:aJ}(h:PE X (.Name x p) (j8 j))(hy:PE X (.Name y v) (j8 i))(U:sV X.K c f)(R:autoParam (j∈Z) Ū)(hi:autoParam (i∈Z) Ū)(z:autoParam (j≠i) Ū)(F:autoParam (cN (.Name x p) f X.env (eval (.Name x p) X.env)=eval (.Name x p) X.env) Ŭ)(r:autoParam (cN (.Attribute (.Name x p) f s) "append" X.env (eval (.Attribute (.Name x p) f s) X.env)=eval (.Attribute (.Name x p) f s) X.env) Ŭ) (u:autoParam (((eS t (ar ((.Name y v)::[]) X.env)).all (λx=> !x.1)&&(ki t (gr [] X.env)).all (λx=>x.1.isSome)
   && decide (((.Name y v:Expr)::[]).length+([]:List n_).length+(if ([]:List n_).isEmpty then 0 else 1)<30))=true) Ŭ) (q:autoParam ((A.endLine==t.line)=true) Ŭ) (Q:autoParam (ar ((.Name y v)::[]) X.env=(Z_,eval (.Name y v) X.env)::ar [] X.env) Ŭ) (e:autoParam ((eS t (ar [] X.env)).any (·.1)=false) Ŭ) (w:autoParam (cY (.Call (.Attribute (.Attribute (.Name x p) f s) "append" A) [.Name y v] [] t) M I.line X.env=fK false) Ŭ) :
  PS X (.Expr (.Call (.Attribute (.Attribute (.Name x p) f s) "append" A) [.Name y v] [] t) I) (jW X.K B J Z Z (B2 j i c f)):=
 (nI (xl g_ PySem.F.slot_list_append PySem.F.type_list_append kZ (sj h F) (eC hy gG Q) r u q Q e) w).imp <|by
  rintro D m H ⟨G,g,o,S,b,k⟩;obtain⟨⟨fk,ks,ds,t1⟩,et,b⟩:=aa.1 b;rcases K:eV i g with _|d
  .simp[K]at b
  simp only[K,ai]at b;split at b
  .split at b
   .rename_i P;refine af λkk =>?_
    cases b;let(T,O,i2):=nY et;rw[Sk.qM P.1]at O;let(a,l,y,E,e1,e2,e3,e4,e5,S'):=S.Ua R hi z T O i2 (jh K);let(C,dx,fs,n,f1,f2):=S.KY R T e1 e2;refine kk (⟨_,e1,a,C,dx,fs,_,rfl,f1,(U C n).1,(U C n).2,f2,.inl ⟨rfl,E,.of e4⟩,_,e3,l,E,_,rfl,rfl,e4,?_,k _ G _ S'⟩);rw[<- e5];exact bD P.2 iJ
   .cases b
  .cases b
def D0(i j:Nat)(c f:aJ):DG:=λg=>(rW c f j g).bind λq=>match q.2.2.2 with
 | .lst a=>(a.getLast?).bind λd=>match d with
  |.ins b e h=>if Sk.t7 (fG q.1 f) (.li (.fs b []))=Z' then Y (.nx (((fU j g).set j (Y (B8 c f q.1 q.2.1 q.2.2.1 (.lst a.dropLast)))).set i (Y (.ins b e h)))) else M
  |_=>M
 |_=>M
set_option tactic.hygienic true
def QH{i:Nat}{c f:aJ}(hN:X.N.Nodup)(hy:X.N[i]?=Y y)(w:Loc X.env.scope y)(h:PE X (.Name x p) (j8 j))(T:sV X.K c f)(Q:autoParam (j∈Z) Ū)(hi:autoParam (i∈Z) Ū)(z:autoParam (j≠i) Ū)(r:autoParam (∀a,(i,a)∉B.3) ť)(hm:autoParam (Bj i∉Z) Ū)(F:autoParam (cN (.Name x p) f X.env (eval (.Name x p) X.env)=eval (.Name x p) X.env) Ŭ)(q:autoParam (cN (.Attribute (.Name x p) f s) "pop" X.env (eval (.Attribute (.Name x p) f s) X.env)=eval (.Attribute (.Name x p) f s) X.env) Ŭ)(e:autoParam ((A.endLine==t.line)=true) Ŭ)(hs:autoParam (cY (.Call (.Attribute (.Attribute (.Name x p) f s) "pop" A) [] [] t) (Y (.Name y L)) I.line X.env=fK false) Ŭ)(hf:autoParam (X.fn y=Z'\/X.env.scope.names.lookup y=Y .local) ŧ):
  PS X (.Assign [.Name y L] (.Call (.Attribute (.Attribute (.Name x p) f s) "pop" A) [] [] t) I) (jW X.K B J Z Z (D0 i j c f)):=
 (mr hN hy w (ME g_ PySem.F.slot_list_pop PySem.F.type_list_pop MZ (sj h F) q e) hs hf).imp <|by
  rintro D m H ⟨G,g,o,S,b,k⟩;unfold D0 at b;rcases K:rW c f j g with _|⟨fk,ks,ds,t1⟩
  .simp_all
  rw[K]at b;simp at b;split at b
  .rename_i u;rcases v:u.getLast? with _|d
   .simp_all
   rw[v]at b;simp at b;split at b
   .rename_i c2 k2 d2;split at b
    .rename_i hz;refine af λkk =>?_
     cases b;let(R,P,O):=nY K;rw[Sk.qM hz]at P;let hx:u=u.dropLast++[.ins c2 k2 d2]:=by let(ys,rfl):=LJ.mp v;simp
     rw[hx]at O;let(a,l,y,us,e1,e2,U,S'):=S.Qe Q hi z R P O r hm;let(C,dx,fs,n,f1,f2):=S.KY Q R e1 e2;refine kk (⟨_,e1,a,C,dx,fs,_,rfl,f1,(T C n).1,(T C n).2,f2,.inl ⟨rfl,_,.of U⟩,l,_,.ref y,rfl,rfl,U,ż,?_⟩);rw[jm]
     exact Ÿ
    .cases b
   .cases b
  .cases b
end
inductive spT (K:aX) (s:Sk) (F:List D->Option (D×D)) (j:List V) (H:Hp) (Q:VK) (_x:XK):Prop
 |mk G t g d i a T h:bI G H->j=.ref a::h->dC K G H s t (.ref a) T->T.Nodup->(∀b∈T,G b=none)->a9 K G g h->F (t::g)=some (d,i)->(∀v e c f,i9 G (jP H T) c f->dC K c f s i (.ref a) e->e.Nodup->(∀b∈e,c b=none/\(b∈T\/H b=none))->eR K c d v->Q v f)->spT K s F j H Q _x
inductive L6 (K:aX) (s:Sk) (F:List D->Option (List D×D)) (k:List V) (H:Hp) (Q:VK) (_x:XK):Prop
 |mk G t f j i a T h:bI G H->k=.ref a::h->dC K G H s t (.ref a) T->T.Nodup->(∀b∈T,G b=none)->a9 K G f h->F (t::f)=some (j,i)->(∀q g d c e,i9 G (jP H T) c e->dC K c e s i (.ref a) d->d.Nodup->(∀b∈d,c b=none/\(b∈T\/H b=none))->c q=none->(q∈T\/H q=none)->q∉d->e q=some (.lst g)->a9 K c j g->Q (.ref q) e)->L6 K s F k H Q _x
inductive WG (K:aX) (F:List D->Option D) (e:List V) (H:Hp) (Q:VK) (_x:XK):Prop
 |mk G c d:bI G H->a9 K G c e->F c=some d->(∀q o b a,i9 G H b a->H q=none->b q=none->a q=some o->jJ K b d o->Q (.ref q) a)->WG K F e H Q _x
def oi(s:Sk)(j:Nat)(b:cE):Option D:=(ya j b).bind λa=>if Sk.t7 a.1 s=Z' then Y a.2 else M
def me{s:Sk}(h:oi s j a=Y t):a[j]?=Y (Y (.obj s t)):=by
 grind [oi,aa,Sk.qM,mL]
def sk(s:Sk):DO->Option (D×D)
 |.rm d a=>(oi s 0 a).map λt=>(d,t)
 |.nx a=>(oi s 0 a).map λt=>(.gA,t)
 |_=>M
def RK(s:Sk):DO->Option (List D×D)
 |.rf i a=>(oi s 0 a).bind λt=>(kv i a).map λb=>(b,t)
 |_=>M
def Z6:DO->Option D
 |.rf i a=>(eV i a).bind λd=>if wH d=Z' then Y d else M
 |_=>M
def mo(n N:Nat)(s:Sk)(g:DG)(b:List D):Option (D×D):=match b with
 |t::a=>if a.length+1=n then (g (i_ N (.obj s t::a))).bind (sk s) else M
 |[]=>M
def Ip(n N:Nat)(s:Sk)(g:DG)(b:List D):Option (List D×D):=match b with
 |t::a=>if a.length+1=n then (g (i_ N (.obj s t::a))).bind (RK s) else M
 |[]=>M
def Rg(n N:Nat)(g:DG)(a:List D):Option D:=if a.length=n then (g (i_ N a)).bind Z6 else M
section
variable {P:bE}{K:aX}
def A5{s:Sk}{f:List D}{T:List aD}(w:bI G H)(m:0∈Z)(h:dC K G H s t (.ref a) T)(k:T.Nodup)(j:∀b∈T,G b=M)(r:a9 K G f g)(n:∀i∈Z,i=0\/f.length+1<=i):
  SR K ⟨G,jP H T,[(0,a)],x⟩ Z G H (start N (.ref a::g)) (i_ N.length (.obj s t::f)):=
 A4 w λb o e=>by
  grind [nL,dP] m rfl rfl h k (λb d=>⟨j b d,nL d⟩) (λr q z=>by cases z) (λi c p e=>by
   cases i with
   |zero=>simp_all| succ i=>exact r.get Ż) (by simp[r.length]) ž
def SR.US{m:List Nat}{s:Sk}(r:SR K ⟨G,jP H T,[(0,a)],p⟩ m d i j e)(y:oi s 0 e=Y k):
  ∃c,dC K d i s k (.ref a) c/\c.Nodup/\(∀b∈c,d b=M/\(b∈T\/H b=M))/\∃F,tT K ⟨G,jP H T,[(0,a)],p⟩ m d i j e F/\F 0=c:=by
 let(g,f):=r.pin 0 a Ÿ;obtain _:=r.tree g (me y)
 grind [dP]
set_option tactic.hygienic true
def jy.Eg{f:aD}{N R:List aJ}(F:jy K x e p f fd)(S:bH N R (aF p))(s:Sk){Z Ź:List Nat}{g:DG}(hp:0∈Z)(C:∀i∈Z,i=0\/R.length<=i) (hb:∀(j:aj) (A:jz) (outer:List Env) (s:aw) (H:Hp) (E:XK),hJ k (A.deeper (rO e (aF p) s.heap.objs.size f j))->∀(B:Bs) (a:aD),B.3=[(0,a)] ->
   qU (xZ i7 P w K O U N e (aF p) f j A outer s H E).MT (iT p) (jW K B [] Z Ź g)):cZ P w K O U i7 (k+1) f fd R (spT K s (mo R.length N.length s g)):=by
 refine F.ok S (λvs H Q E h =>?_) λj A outer s1 H vs Q E hr h =>?_
 .let⟨G,t,xs,d,X,a,T,us,gh,rfl,ot,nd,nf,r,b,_⟩:=h;simp only[mo]at b;split at b
  .rename_i z;simp[<- r.length,z]
  .cases b
 .let⟨G,t,xs,d,X,a,T,us,gh,rfl,ot,nd,nf,r,b,q⟩:=h;simp only[mo]at b;split at b
  .refine⟨_,hb j A _ s1 H E hr ⟨G,jP H T,_,λl l=>False⟩ a rfl,?_⟩;let(oo,eg,b):=aa.1 b;refine⟨G,_,oo,A5 gh hp ot nd nf r Ż,eg,?_⟩;cases oo with
   |rm d' m=>let⟨y,o,b⟩:=aq.1 b;cases b;intro v σ G' H' ⟨o',c⟩ rv;let(T',f1,f2,f3,_):=c.US o;exact q v T' G' H' c.o6 f1 f2 f3 rv
   |nx m=>let⟨y,o,b⟩:=aq.1 b;cases b;intro σ G' H' c;let(T',f1,f2,f3,_):=c.US o;exact q _ T' G' H' c.o6 f1 f2 f3 (jB.mpr rfl)
   |_=>cases b
  .cases b
def jy.Z9{c:d_}{f:aD}(F:jy K x j c f fd)(S:bH N ps (aF c))(s:Sk){Z Ź:List Nat}{g:DG}(hp:0∈Z)(R:∀i∈Z,i=0\/ps.length<=i) (hb:∀(o:aj) (A:jz) (e:List Env) (s:aw) (H:Hp) (E:XK),hJ k (A.deeper (rO j (aF c) s.heap.objs.size f o))->∀(B:Bs) (a:aD),B.3=[(0,a)] ->
   qU (xZ i7 P w K O U N j (aF c) f o A e s H E).MT (iT c) (jW K B [] Z Ź g)):cZ P w K O U i7 (k+1) f fd ps (L6 K s (Ip ps.length N.length s g)):=by
 refine F.ok S (λvs H Q E h =>?_) (λo A e s1 H vs Q E hr h =>?_)
 .let⟨G,t,xs,d,t',a,T,us,gh,rfl,ot,nd,nf,r,b,_⟩:=h;simp only[Ip]at b;split at b
  .rename_i z;simp[<- r.length,z]
  .cases b
 .let⟨G,t,xs,d,t',a,T,us,gh,rfl,ot,nd,nf,r,b,q⟩:=h;simp only[Ip]at b;split at b
  .rename_i hn;refine⟨_,hb o A e s1 H E hr ⟨G,jP H T,[(0,a)],λl l=>False⟩ a rfl,?_⟩;let(oo,eg,b):=aa.1 b;refine⟨G,_,oo,A5 gh hp ot nd nf r Ż,eg,?_⟩;cases oo with
   |rf i p=>
    let⟨y,X,b⟩:=aa.1 b;let(ds,C,b):=aq.1 b;cases b;intro v σ G' H' ⟨o',hi,S'⟩ hv;let(T',f1,f2,f3,F',W,hF):=S'.US X;let m:=gH C;let(D,e1,oc):=W.it i _ hi m;rw[hv]at e1;cases e1;obtain⟨⟨ob,oh,ws,rfl,rr⟩,fi⟩:=(ng.cell (d :=.lst d) rfl).mp oc;let(_,fin):=W.ok i _ hi m;have qi:D∈F' i:=by rw[fi];simp
    refine q D ws T' G' H' S'.o6 f1 f2 f3 (fin D qi).1 ?_ ?_ oh rr
    .by_cases h:D∈T
     .exact .inl h
     .exact .inr (by simpa [dP h] using (fin D qi).2)
    .intro z;rw[<- hF]at z;exact W.ap i 0 _ _ hi (S'.pin 0 a ż).1 m (me X) (λz=>by subst z;rw[me X]at m;cases m) D qi z
   |_=>cases b
  .cases b
def jy.VS{f:aD}{c:gw}(F:jy K x j t f c)(S:bH N C (aF t)){Z Ź:List Nat}{g:DG}(z:∀i∈Z,C.length<=i) (hb:∀(m:aj) (A:jz) (e:List Env) (s:aw) (H:Hp) (E:XK),hJ k (A.deeper (rO j (aF t) s.heap.objs.size f m))->∀B:Bs,B.3=[] ->
   qU (xZ i7 P w K O U N j (aF t) f m A e s H E).MT (iT t) (jW K B [] Z Ź g)):cZ P w K O U i7 (k+1) f c C (WG K (Rg C.length N.length g)):=by
 refine F.ok S (λX H Q E h =>?_) λm A e s H X Q E hr h =>?_
 .let⟨G,ds,d,D,r,b,_⟩:=h;unfold Rg at b;split at b
  .rw[<- r.length];omega
  .cases b
 .let⟨G,ds,d,D,r,b,q⟩:=h;unfold Rg at b;split at b
  .refine⟨_,hb m A e s H E hr ⟨G,H,[],λl l=>False⟩ rfl,?_⟩;let(o,eg,b):=aa.1 b;refine⟨G,_,o,yD D r Ż,eg,?_⟩;cases o with
   |rf i p=>
    let⟨y,el,b⟩:=aa.1 b;split at b
    .rename_i hy;cases b;intro v σ G' H' ⟨o',hi,T⟩ hv;let(a,ob,R,e2,e3,e4,e5):=T.MF hi (jh el) hy;rw[hv]at R;cases R;exact q a ob G' H' T.o6 e5 e4 e2 e3
    .cases b
   |_=>cases b
  .cases b
end
section
variable {X:Cx}{v:Pos}
def bR(c m:aJ)(s:Sk)(F:List D->Option (D×D))(j:Nat)(g:LH):DM:=λb=>(ya j b).bind λd=>match d.1,d.2 with
 |.fs f _,.ins a e _=>if (f=c/\a=c)/\m∉e then (g b).bind λq=>(oi s j q.2).bind λt=>(F (t::q.1)).map λr=>(r.1,(fU j q.2).set j (Y (.obj s r.2))) else M
 |_,_=>M
set_option tactic.hygienic true in
def Et{m:aJ}{s:Sk}{F:List D->Option (D×D)}{f:St}(n:uO X.K bC c=Y (Y (.ref C)))(r:j∈Z)(ht:∀f H Q,SF X.K B Z g f H Q->t f H Q)(h:tM X.K B Z (bR c m s F j g) f H Q):DI C m (spT X.K s F) [] E0 (j8 j) t f H Q:=by
 let(G,o,d,R,S,e,q):=h;unfold bR at e;rcases x:ya j o with _|⟨s0,t0⟩
 .simp_all
 rw[x]at e;simp at e;split at e
 .split at e
  .rename_i hz;obtain⟨⟨rfl,rfl⟩,hm⟩:=hz;rcases y:g o with _|⟨p,i⟩
   .simp_all
   rw[y]at e;simp at e;rcases I:oi s j i with _|u
   .simp_all
   rw[I]at e;obtain⟨⟨d',t'⟩,eF,e⟩:=aq.1 e;cases e;let hd:=mL x;let(a,T,z,ot,_):=S.tree r hd;cases ot with
   |@ins _ _ _ _ _ C' dx vs S0 N ex l tt=>rw[n]at N;cases N;refine⟨_,z,a,dx,_,rfl,ex,n7 (K:=X.K) (G:=G) hm,ht _ _ _ ⟨G,o,p,i,S,y,λK G1 H1 A s1 r1 =>?_⟩⟩;rw[cT];let k:=me I;let(a1,T1,P,f2,f3,f4,F1,W1,w):=A.tree r k;rw[z]at P;cases P;exact⟨G1,u,p,d',t',a,T1,K,A.gh,rfl,f2,f3,λb hb=>(f4 b hb).1,r1,eF,λv T' G' H' E nw nd nf rv=>q v G' H' (A.CZ W1 w r k z E nw nd nf) (s1.trans E.gg) rv⟩
  .cases e
 .cases e
def V0{c m:aJ}{s:Sk}{F:List D->Option (D×D)}(h:gI X.prog X.w X.K X.mg X.base c m k (spT X.K s F))(g:hJ k X.A)(i:PE X (.Name y p) (j8 j))(r:autoParam (j∈Z) Ū) (e:autoParam (eval (.Call (.Attribute (.Name y p) m L) [] [] J) X.env=(do
   let a <- eval (.Name y p) X.env
   tV L.atName
   let(f,first) <- pP [a] (oT a m pl)
   x_ J f first (eS J (ar [] X.env)) (ki J (gr [] X.env)))) Ŭ):PE X (.Call (.Attribute (.Name y p) m L) [] [] J) (tM X.K B Z (bR c m s F j kj)):=by
 let(C,f,K,E,n,t,o,x,w):=h.ex;exact(y6 i t o x g w .nil rp e).imp λb H Q q=>Et n r (by rintro b H Q ⟨G,A,l,d,S,z,k⟩;cases z;exact k _ G H S (bI.refl _) .nil) q
def Oh{c m:aJ}{s:Sk}{F:List D->Option (D×D)}{g:LH}(h:gI X.prog X.w X.K X.mg X.base c m k (spT X.K s F))(o:hJ k X.A)(r:PE X (.Name y p) (j8 j))(E:PA X (e::I) (SF X.K B Z g))(w:autoParam (j∈Z) Ū)(a:autoParam (ar (e::I) X.env=(Z_,eval e X.env)::ar I X.env) Ŭ)(b:autoParam ((eS J (ar I X.env)).any (·.1)=false) Ŭ) (i:autoParam (eval (.Call (.Attribute (.Name y p) m L) (e::I) [] J) X.env=(do
   let d <- eval (.Name y p) X.env
   tV L.atName
   let(f,first) <- pP [d] (oT d m pl)
   x_ J f first (eS J (ar (e::I) X.env)) (ki J (gr [] X.env)))) Ŭ):PE X (.Call (.Attribute (.Name y p) m L) (e::I) [] J) (tM X.K B Z (bR c m s F j g)):=by
 let(C,f,N,l,n,x,t,G,A):=h.ex;exact(B_ r x t G o A .nil rp E a b i).imp λK H Q q=>Et n w (λu u u z=>z) q
def qK(c f k m:aJ)(h:Sk)(F:List D->Option (D×D))(j:Nat)(g:DL):DM:=λb=>(rW c f j b).bind λz=>match z.2.2.2 with
 |.ins a d i=>if (Sk.t7 (fG z.1 f) h=Z'/\a=k)/\m∉d then (g b).bind λe=>(F (.ins a d i::e)).map λr=>(r.1,(fU j b).set j (Y (B8 c f z.1 z.2.1 z.2.2.1 r.2))) else M
 |_=>M
set_option tactic.hygienic true in
def Kt{f o m:aJ}{e:List (aJ×Sk)}{F:List D->Option (D×D)}(n:uO X.K bC o=Y (Y (.ref C1)))(hc:sV X.K c f)(z:j∈Z)(ht:∀i H Q,F8 X.K Z g i H Q->t i H Q)(h:tM X.K B Z (qK c f o m (.fs o e) F j g) i H Q):DI C1 m (spT X.K (.fs o e) F) [] E0 (Wu X.K (j8 j) f) t i H Q:=by
 let(G,p,d,ρ',S,b,q):=h;unfold qK at b;rcases K:rW c f j p with _|⟨fk,ks0,ds0,t0⟩
 .rw[K]at b;cases b
 rw[K]at b;simp at b;split at b
 .split at b
  .rename_i hz;obtain⟨⟨y,rfl⟩,hm⟩:=hz;rcases k:g p with _|r
   .rw[k]at b;cases b
   rw[k]at b;simp only[ai]at b;rcases eF:F _ with _|⟨d',t'⟩
   .rw[eF]at b;cases b
   rw[eF]at b;cases b;let(A,w,i2):=nY K;rw[Sk.qM y]at w;let(a,x,T1,N,e2,o1,_):=S.HF z A w i2;let(C,dx,fs,nn,f1,f2):=S.KY z A N e2;cases o1 with
   |@ins _ _ _ _ s C' P vs S0 n' ex l tt=>rw[n]at n';cases n';refine⟨_,N,a,C,dx,fs,_,rfl,f1,(hc C nn).1,(hc C nn).2,f2,s,P,_,rfl,ex,n7 (K:=X.K) (G:=G) hm,ht _ _ _ ⟨G,p,r,S.gh,S.lg,k,λT G1 H1 R r1 =>?_⟩⟩;rw[cT];let S1:=S.ext R;let(a1,x1,T2,g1,g2,g3,g4,g5,g6):=S1.HF z A w i2;rw[N]at g1;cases g1;rw[jY R.hh e2]at g2;cases g2;exact⟨G1,_,r,d',t',s,T2,T,S1.gh,rfl,g3,g4,g5,r1,eF,λv T' G' H' E nw nd nf rv=>q v G' H' (g6 t' T' G' H' E nw nd nf).2 (R.gg.trans E.gg) rv⟩
  .cases b
 .cases b
def K5{c f m:aJ}{fk1:List (aJ×Sk)}{F:List D->Option (D×D)}(h:gI X.prog X.w X.K X.mg X.base a m k (spT X.K (.fs a fk1) F))(t:hJ k X.A)(i:sV X.K c f)(w:PE X (.Name y p) (j8 j))(K:PA X (e::I) (F8 X.K Z g))(A:autoParam (j∈Z) Ū)(o:autoParam (cN (.Name y p) f X.env (eval (.Name y p) X.env)=eval (.Name y p) X.env) Ŭ)(b:autoParam (ar (e::I) X.env=(Z_,eval e X.env)::ar I X.env) Ŭ)(d:autoParam ((eS J (ar I X.env)).any (·.1)=false) Ŭ) (s:autoParam (eval (.Call (.Attribute (.Attribute (.Name y p) f l) m L) (e::I) [] J) X.env=(do
   let r <- eval (.Attribute (.Name y p) f l) X.env
   tV L.atName
   let(f,first) <- pP [r] (oT r m pl)
   x_ J f first (eS J (ar (e::I) X.env)) (ki J (gr [] X.env)))) Ŭ):PE X (.Call (.Attribute (.Attribute (.Name y p) f l) m L) (e::I) [] J) (tM X.K B Z (qK c f a m (.fs a fk1) F j g)):=by
 let(C,S,R,P,n,E,x,u,G):=h.ex;exact(B_ (sj w o) E x u t G .nil rp K b d s).imp λN H Q q=>Kt n i A (λv v v z=>z) q
noncomputable def oO(c:aJ)(F:List D->Option (D×D))(g:DL):DF:=λa=>(g a).bind λb=>(F (.ins c [] []::b)).bind λr=>match r.1 with|.gA=>Y r.2|_=>M
def Ze{c:aJ}{fk:List (aJ×Sk)}{F:List D->Option (D×D)}{g:DL}(h:vK X.prog X.w X.K X.mg X.base c k (spT X.K (.fs c fk) F))(hr:hJ (k+1) X.A)(hg:Gl X c)(ha:PA X (e::I) (F8 X.K Z g))(B:autoParam ((c==("__debug__" : aJ))=false) Ū)(he:autoParam (ar (e::I) X.env=(Z_,eval e X.env)::ar I X.env) Ŭ)(A:autoParam ((eS J (ar I X.env)).any (·.1)=false) Ŭ):PE X (.Call (.Name c p) (e::I) [] J) (O1 X.K Z (.fs c fk) (oO c F g)):=by
 let(C,f,fd,ps,n,hm,hk,h1,a):=h.ex;refine(IE hk h1 hr hg hm a .nil rp ha B he A).imp ?_;rintro σ H Q ⟨G,ρ,d,gh,l,i,q⟩;unfold oO at i;let(P,eg,i):=aa.1 i;obtain⟨⟨d',c'⟩,eF,i⟩:=aa.1 i;cases d'<;>simp only[ai]at i<;>try (cases i;done)
 cases i;refine⟨G,ρ,P,gh,l,eg,λR N r w r1 x s m j ne =>?_⟩;show spT X.K (.fs c fk) F (.ref x::(R++[])) _ _ E0;rw[cT];let K:N x=none:=w.gh.free m;have s2:bI N (fD (fD r s (.Z x)) x (.ins C s [])):=w.gh.trans ((bI.alloc j).trans (.alloc (by rw[aP (bQ ne)];exact m)));refine⟨N,.ins c [] [],P,.gA,_,x,[x],R,s2,rfl,.ins (ks:=[]) (vs:=[]) (S:=[]) n bB rfl .nil,ż,(λb a=>by simp at a;subst a;exact K),r1,eF,λv T' G2 H2 t nw nd T rv=>⟨jB.mp rv,?_⟩⟩;have S:∀b o,r b=Y o->jP (fD (fD r s (.Z x)) x (.ins C s [])) [x] b=Y o:=λb o e=>by let a:b≠x:=bM e m;rw[dP (by simpa using a),aP a,aP (bM e j)];exact e
 refine q (.ref x) T' G2 H2 (w.trans ⟨λb o e=>t.hh b o (S b o e),t.gg,t.gh,λb o e =>?_⟩) nw nd λb a=>⟨(T b a).1,?_⟩
 .rcases t.fr b o e with z|z
  .exact .inl z
  .refine .inr ?_;rcases y:r b with _|u
   .rfl
   rw[S b u y]at z;cases z
 .refine w.hh.free ?_;rcases(T b a).2 with z|z
  .simp at z;subst z;exact m
  .rcases y:r b with _|u
   .rfl
   let E:b≠x:=bM y m;rw[aP E,aP (bM y j),y]at z;cases z
def Ov{F:List D->Option D}(h:km X.prog X.w X.K X.mg X.base x k (WG X.K F))(e:hJ k X.A)(j:Gl X x)(b:autoParam ((x==("__debug__" : aJ))=false) Ū):PE X (.Call (.Name x p) [] [] J) (Wv X.K Z (λ_=>F [])):=by
 let(f,l,K,c,g,i,m):=h.ex;exact(MD c e j g i m .nil rp b).imp <|by rintro B H Q ⟨G,C,d,t,y,w,q⟩;exact⟨G,[],d,t,.nil,w,λa o A z E c s n r=>q a o A z E c s n r⟩
end
def vp(l:cE)(u:AR)(w:DM)(i0:Nat)(s:Sk):List D->D->Option (List D×D)
 |[],t=>Y ([],t)|d::b,t=>(u d (l.set i0 (Y (.obj s t)))).bind λρ1=>(w ρ1).bind λp=>(oi s i0 p.2).bind λa=>(vp l u w i0 s b a).map λq=>(p.1::q.1,q.2)
def rH(f:DL)(src:List (Option Nat))(u:AR)(w:DM)(i0 j0:Nat)(s:Sk):DM:=λl=>(f l).bind λa=>if a.length<=eJ then (oi s j0 l).bind λt=>(vp (nG src (fU j0 l)) u w i0 s a t).map λq=>(.lst q.1,(fU j0 l).set j0 (Y (.obj s q.2))) else M
section
variable {K:aX}
def SR.Ux{fl:aJ->Int->Prop}{s:Sk}(S:SR K B Z G H n (l.set j0 (Y (.obj s t))))(C:jO Z [i0] src=Z')(x:src[i0]?=Y (Y j0))(y:n[j0]?=Y (Y (.ref a)))(q:dC K G H s t (.ref a) T)(P:T.Nodup)(N:∀b∈T,G b=M):
  SR K ⟨G,jP H T,[(i0,a)],fl⟩ [i0] G H (pE src n) ((nG src l).set i0 (Y (.obj s t))):=by
 refine⟨S.gh,bI.refl _,λb o e =>?_,λb o e =>.inl e,λi d g e =>?_,⟨λu=>T,λi d g e =>?_,λi d g e=>⟨P,λb m=>⟨N b m,nL m⟩⟩,λi j d c g k u u f =>?_⟩,by simp[pE,nG],λi b h =>?_,λj r p R Q e =>?_⟩
 .simp_all [jP,nL,dP]
 .rcases iD e with⟨lia,_⟩|⟨f,e⟩
  .simp_all
  .let⟨j,F,ej⟩:=DQ e;let k:j∉Z:=λz=>g ((kM C F).mpr z)
   have:j0≠j:=λz=>k (z ▸ ((kM C x).mp Ÿ))
   let(v,f1,X):=S.env j d k Ż;exact⟨v,pW F f1,X⟩
 .let z:i=i0:=by simpa using g
  subst z;rcases iD e with⟨_,rfl,_⟩|_
  .exact⟨a,pW x y,q⟩
  simp_all
 .simp_all
 .simp_all [pW]
 simp_all
end
def J2{s:Sk}:fU j ((fU j l).set j (Y (.obj s t)))=(fU j l).set j (Y (.obj s t)):=by
 apply Dp;intro i;unfold fU;rw[aR];by_cases h:j=i
 .subst h;by_cases b:j<l.length<;>simp_all
 .rw[au h,aR];rcases e:l[i]? with _|o
  .exact Ÿ
  cases o with
  |none=>solve_by_elim|some d=>
   cases d with|gL r p=>by_cases a:r=j<;>simp_all|_=>solve_by_elim
section
variable {X:Cx}{f:DL}{s:Sk}
set_option tactic.hygienic true in
def I0{K:aX}(ho:jO Z [i0] src=Z')(h0:src[i0]?=Y (Y j0))(hg:∀(B:Bs) v n H Q,F6 K B [i0] u v n H Q->g v n H Q)(q:tM K B Z (rH f src u w i0 j0 s) n H Q):
  VL (BY K Z f) src g (rV K [i0] gU) (VJ K i0 w) n H Q:=by
 let(G,l,d,ρ',S,j,k):=q;have X:j0∈Z:=(kM ho h0).mp Ÿ;unfold rH at j;let(C,ef,j):=aa.1 j;split at j
 .rename_i hz;let(t0,el,j):=aa.1 j;obtain⟨⟨rs,tF⟩,em,j⟩:=aq.1 j;cases j;let hd0:=me el;have hu0:=kW (r:=j0) hd0 (λq z=>by cases z);let hl0:j0<(fU j0 l).length:=(ah.mp hu0).1;let(a,T0,e2,_):=S.tree X hd0;refine⟨G,l,C,S.gh,S.lg,ef,λJ G1 H1 E1 ok =>?_⟩;let S1:=(S.ext E1).J3 (r:=j0);rw[<- Aj hu0]at S1;refine⟨λi m ys H2=>m=C.length-i/\i<=C.length/\LcI K B Z n (λt=>(fU j0 l).set j0 (Y (.obj s t))) (λi=>vp (nG src (fU j0 l)) u w i0 s (C.drop i)) G1 tF rs i ys H2,
   ⟨C.length,rfl,gz _,G1,[],t0,rs,aI _,S1,bI.refl _,.nil,em,rfl⟩,?_⟩
  rintro i m ys H2 ⟨rfl,hil,G2,o,t,r,hyl,S2,s2,rx,c,rfl⟩;let sub:bI G1 H2:=s2.trans S2.gh;by_cases N:i<C.length
  .refine .inr ⟨ok.go i H2 sub N,?_,_,
    λR H' z=>⟨C.length-(i+1),ž,rfl,N,z⟩,λx H3 y =>?_⟩
   .have:=iJ;omega
   .refine af λkk =>?_
    let(G3,E3,Vv):=ok.JY i H2 x H3 G2 C[i] s2 S2.gh y (ao N);have S3:=S2.ext E3;rw[gF N]at c;unfold vp at c;let(A,et,c):=aa.1 c;obtain⟨⟨x4,ρ5⟩,ee,c⟩:=aa.1 c;let(t4,el4,c):=aa.1 c;obtain⟨⟨T,tE⟩,em4,c⟩:=aq.1 c;cases c;have hd3:((fU j0 l).set j0 (Y (D.obj s t)))[j0]?=Y (Y (.obj s t)):=by rw[a7 hl0]
    let(a3,T3,f1,ot,nd,nf,F3,W3,hF3):=S3.tree X hd3;rw[e2]at f1;cases f1;let SI:=S3.Ux (fl:=λE E=>False) ho h0 e2 ot nd λb hb=>(nf b hb).1
    refine kk (hg ⟨G3,jP H3 T3,[(i0,a)],λE E=>False⟩ _ _ _ _ ⟨G3,_,C[i],A,SI,Vv,et,λσ4 G4 H4 S4=>⟨G4,A,Z',S4.gh,S4.lg,rfl,λG5 H5 E5=>G7 ?_⟩⟩);refine⟨⟨G3,jP H3 T3,[(i0,a)],λE E=>False⟩,a,rfl,G5,A,x4,ρ5,S4.ext E5,ee,λv G6 H6 S6 s6 r6=>⟨G6,o++[x4],t4,T,by simp;omega,?_,?_,?_,em4,ż⟩⟩
    .let⟨UD,hσ⟩:=S6.pin i0 a ż;let(a6,T6,g1,g2,g3,g4,_):=S6.tree UD (me el4);rw[hσ]at g1;cases g1;have:=S3.CZ (t':=t4) W3 hF3 X hd3 e2 S6.o6 g2 g3 (λb hb=>⟨(g4 b hb).1,by
      by_cases h:b∈T3
      .exact .inl h
      .exact .inr (by simpa [dP h] using (g4 b hb).2)⟩)
     rw[J2,List.set_set]at this;exact this
    .exact s2.trans (E3.gg.trans S6.g0)
    .exact(a9.mono (E3.gg.trans S6.g0) o rx).append (.cons r6 .nil)
  .let e:i=C.length:=by omega
   subst e;rw[o5]at c;unfold vp at c;refine af λkk =>?_
   cases c;refine kk (.inl ⟨ok.stop _ H2 sub (aI _),λp hp =>?_⟩);have EA:=i9.alloc (p:=p) (o :=.lst ys) S2.gh hp;refine k _ _ _ (S2.ext EA) (E1.gg.trans (s2.trans EA.gg)) ?_;rw[cT];exact dA.mpr ⟨p,ys,rfl,bB,a9.mono EA.gg o rx⟩
 .cases j
def Hv(S:gy X N src A)(j:X.calm=Z')(e:PI X E I (BY X.K Z f))(o:O6 O g)(a:∀i∈O,src[i]?=Y M)(h:∀(B:Bs) v n H Q,F6 X.K B [i0] u v n H Q->g v n H Q)(k:∀C s H b,PG (X.tS N A C s H b) E g/\Fy (X.tS N A C s H b) [] (rV X.K [i0] gU)/\PE (X.tS N A C s H b) L (VJ X.K i0 w))(m:autoParam (src[i0]?=Y (Y j0)) Ŭ)(d:autoParam (jO Z [i0] src=true) Ū)(c:autoParam (∀x,cM I X.env x=fK x) ũ):PE X (.ListComp L [⟨E,I,[],0⟩] A U) (tM X.K B Z (rH f src u w i0 j0 s)):=
 (My S j e o a k c).imp λn H Q q=>I0 d m h q
def Hu{i:Nat}(S:gy X N src A)(W:X.calm=Z')(R:X.N.Nodup)(t:X.N[i]?=Y y)(F:X.env.scope.names.lookup y=Y .local)(J:PI X E I (BY X.K Z f))(ag:O6 O g)(h:∀i∈O,src[i]?=Y M)(K:∀(B:Bs) v n H Q,F6 X.K B [i0] u v n H Q->g v n H Q)(P:∀C s H m,PG (X.tS N A C s H m) E g/\Fy (X.tS N A C s H m) [] (rV X.K [i0] gU)/\PE (X.tS N A C s H m) L (VJ X.K i0 w))(T:autoParam (src[i0]?=Y (Y j0)) Ŭ)(D:autoParam (jO Z [i0] src=true) Ū)(j:autoParam (i∉Z) Ū)(e:autoParam (cY (.ListComp L [⟨E,I,[],0⟩] A U) (Y (.Name y p)) a.line X.env=fK true) Ŭ)(z:autoParam (∀x,cM I X.env x=fK x) ũ):PS X (.Assign [.Name y p] (.ListComp L [⟨E,I,[],0⟩] A U) a) (jW X.K B q Z Z (lC i (rH f src u w i0 j0 s))):=
 (y0 S W R t F J ag h P e z).imp λD' n H ⟨G,l,o,S,b,k⟩=>I0 D T K (by obtain⟨⟨d,c⟩,ef,b⟩:=aq.1 b;cases b;exact⟨G,l,d,c,S,ef,λv G' H' S' V r=>k _ G' H' (S'.wg j r)⟩)
end
abbrev TupAt(h:dY)(T:aD)(a:Array aj):Prop:=h.get? T=Y { cls :=.type "tuple",data :=.seq a }
structure ZN(h:dY)(z TI TO:aD)(n:Nat)(it l:Nat->aD)(xs:Nat->Array aj)(pl:Nat->Nat)(f0:aj)(out:Array aj):Prop where
 zz:IsZip h z TI TO f0
 ti:TupAt h TI ((cL n).map λj=>il (it j)).toArray
 to:TupAt h TO out
 sz:out.size=n
 iter:∀j,j<n->h.IsListIter (it j) (l j) (pl j)
 lst:∀j,j<n->h.IsList (l j) (xs j)
structure ZA(z TI TO:aD)(n:Nat)(it l:Nat->aD):Prop where
 tiz:TI≠z
 toz:TO≠z
 Zq:TI≠TO
 iz:∀j,j<n->it j≠z/\it j≠TI/\it j≠TO
 ii:∀j k,j<n->k<n->j≠k->it j≠it k
 lz:∀j,j<n->l j≠z/\l j≠TO/\∀k,k<n->l j≠it k
section
variable {f:aD}
def ZN.adv(N:ZN h z i f n d l p t u r)(A:ZA z i f n d l)(c:k<n)(m:g.IsListIter (d k) (l k) (t k+1))(b:kU (d k) h g):ZN g z i f n d l p (λj=>if j=k then t j+1 else t j) u r:=by
 let(s,q,o):=A.iz k c;refine⟨b.extBut _ _ (bQ s) N.zz,b.extBut _ _ (bQ q) N.ti,b.extBut _ _ (bQ o) N.to,N.sz,λj a =>?_,λj a =>?_⟩
 .by_cases e:j=k
  .simp_all
  .simp only[if_neg e];exact(N.iter j a).extBut b.extBut (A.ii j k a c e)
 .exact(N.lst j a).extBut b.extBut ((A.lz j a).2.2 k c)
def ZN.Pz(N:ZN h z i f n d l p t u r)(A:ZA z i f n d l)(k:TupAt g f a)(e:a.size=n)(c:kU f h g):ZN g z i f n d l p t u a:=
 ⟨c.extBut _ _ (bQ A.toz) N.zz,c.extBut _ _ A.Zq N.ti,k,e,λj b=>(N.iter j b).extBut c.extBut (A.iz j b).2.2,λj b=>(N.lst j b).extBut c.extBut (A.lz j b).2.1⟩
def ZN.Py(N:ZN h z i f n d l p t u r)(A:ZA z i f n d l)(e:IsZip g z i f c)(b:kU z h g):ZN g z i f n d l p t c r:=
 ⟨e,b.extBut _ _ A.tiz N.ti,b.extBut _ _ A.toz N.to,N.sz,λj a=>(N.iter j a).extBut b.extBut (A.iz j a).1,λj a=>(N.lst j a).extBut b.extBut (A.lz j a).1⟩
end
def Fe(z f:aD)(n:Nat)(d:Nat->aD)(h g:dY):Prop:=∀c o,c≠z->c≠f->(∀j,j<n->c≠d j)->h.get? c=Y o->g.get? c=Y o
section
variable {E:aj->aw->Prop}{s:aw}
variable {f:aD}{d:Nat->aD}{m:Nat}
def Bd(h:a=(cL n).map λj=>il (d j))(c:k<n):(a.zipIdx).drop k=(il (d k),k)::(a.zipIdx).drop (k+1):=by
 simp_all [gF]
abbrev ZI(s:aw)(z i f:aD)(n:Nat)(d:Nat->aD)(l:Nat->aD)(p:Nat->Array aj)(m:Nat)(L:List (aj×Nat))(b:Option PySem.Fin×Unit)(s1:aw):Prop:=b=(M,())/\∃(k:Nat) (F:dY) (C:Array aj) (x:Nat->aj),k<=n/\L=(((cL n).map λj=>il (d j)).zipIdx).drop k/\s1={ s with heap:=F }/\ZN F z i f n d l p (λj=>if j<k then m+1 else m) .ellipsis C /\
   (∀j,j<k->(p j)[m]?=Y (x j)/\C[j]?=Y (x j))/\F.objs.size=s.heap.objs.size/\Fe z f n d s.heap F
def JW{Q:aj->aw->Prop}(hh:A.handled=M)(hn:0<n)(hn2:n<=100)(D:ZA z i f n d l)(N:ZN s.heap z i f n d l p (λu=>m) .none r) (hQ:∀g x,(∀j,j<n->(p j)[m]?=Y (x j))->ZN g z i f n d l p (λu=>m+1) (rawInt s.heap.objs.size) ((cL n).map x).toArray->TupAt g s.heap.objs.size ((cL n).map x).toArray->g.objs.size=s.heap.objs.size+1 ->
   Fe z f n d s.heap g->Q (.ref s.heap.objs.size) { s with heap:=g }) (hE:(∃j,j<n/\(p j)[m]?=M)->∀g e,Fe z f n d s.heap g->(∃o,g.get? e=Y o/\o.cls=.type "StopIteration")->E (.ref e) { s with heap:=g }) :
  bP (bG B w) A (Builtin.«zip.__next__» ⟨[.ref z],[]⟩) (λfin s'=>∃v,fin=.done (.ret v)/\Q v s') E s:=by
 unfold Builtin.«zip.__next__»;show bP _ _ (field (.ref z) 2 >>= _) _ _ _;refine ay (O9 N.zz rfl (x :=.bool Z_) rfl ?_);refine ay (O9 N.zz rfl rfl ?_);refine ay (Vy N.ti rfl ?_);have RX:((cL n).map λj=>il (d j)).toArray.isEmpty=false:=by cases n<;>simp_all
 simp only[RX,gR,if_false];refine ay ?_;unfold Builtin.SmallTypes.ownedTupleIsFree;refine ay (O9 N.zz rfl (x :=.none) rfl (bS ?_));simp only[if_true];refine ay (wpAny_rule ?_);refine ay (O9 N.zz rfl rfl ?_);refine ay (uM N.zz ż λh1 z1 k1 =>?_);let N1:=N.Py D z1 k1;refine ay ?_;refine wpAny_forIn_list _ (ZI s z i f n d l p m) _ ?_ ?_ _ _ ⟨rfl,0,h1,r,λu =>.none,gz _,rfl,rfl,by simpa using N1,λj H=>ž,k1.1,λc o I u u e=>k1.extBut _ _ I e⟩
 .rintro x L b s1 ⟨rfl,k,F,C,J,hk,R,rfl,G,ho,hs,kp⟩;have h:k<n:=by
   rcases Nat.lt_or_ge k n with z|z
   .exact z
   .rw[Ru (by simpa using z)]at R;cases R
  rw[Bd rfl h]at R;let(rfl,P):=List.cons.inj R;refine ay (wpAny_onRaise ?_);show bP _ _ (Builtin.SmallTypes.nextOf (.ref (d k)) >>= _) _ _ _;have O:=G.iter k h;simp only[px,if_false]at O;cases hx:(p k)[m]? with
  |none=>
   refine ay (wpAny_nextOf_list_end hh O (G.lst k h) hx λh3 e X he =>?_);let(oe,S,hce):=he;have zz3:IsZip h3 z i f .ellipsis:=X _ _ (bQ (D.iz k h).1) G.zz;let hez:e≠z:=λq=>by subst q;rw[zz3]at S;cases S<;>grind
   refine uM zz3 ż λh4 u t=>hE ⟨k,h,hx⟩ h4 e (λc o I c2 T q=>t.extBut _ _ I (X _ _ (T k h) (kp c o I c2 T q))) ⟨oe,t.extBut _ _ hez S,hce⟩
  |some y=>
   refine ay (wpAny_nextOf_list_item O (G.lst k h) hx λh3 i3 X=>bS ?_);have K:=G.adv D h (by simpa using i3) X;dsimp only;refine ay (Vy K.to rfl ?_);dsimp only;have hsz:C.size<=aY:=by rw[K.sz,mE];omega
   refine ay (wpAny_updateSeq K.to rfl ?_ hsz (by simp;omega));have up:TupAt (h3.update f (uQ λq=>q.setIfInBounds k y)) f (C.setIfInBounds k y):=by show Heap.get? _ _=_;rw[Heap.get?_update_self _ K.to rfl];simp[uQ]
   have N4:=K.Pz D up (by simpa using K.sz) (Heap.SameBut.update ..);refine ay (wpAny_letGo (bS ?_));refine⟨rfl,k+1,_,C.setIfInBounds k y,λj=>if j=k then y else J j,h,P,rfl,?_,λj H =>?_,?_,λc o I c2 T q =>?_⟩
   .have:(λj=>if j=k then (if j<k then m+1 else m)+1 else if j<k then m+1 else m)=λj=>if j<k+1 then m+1 else m:=by
     funext j
     by_cases e:j=k<;>grind
    rw[this]at N4;exact N4
   .by_cases e:j=k
    .subst e;simp only[if_true];exact⟨hx,by rw[Array.getElem?_setIfInBounds_self_of_lt];rw[G.sz];exact h⟩
    .simp only[if_neg e];let(a,b):=ho j ž;exact⟨a,by rw[Array.getElem?_setIfInBounds_ne (by omega)];exact b⟩
   .rw[Heap.size_update,X.1,hs]
   .exact(Heap.SameBut.update h3 f _).extBut _ _ c2 (X.extBut _ _ (T k h) (kp c o I c2 T q))
 .refine λb s1 xx=>af λkk =>?_
  let(rfl,k,F,C,J,hk,R,rfl,G,ho,hs,kp):=xx;refine kk ?_;have h:k=n:=by
   rcases Nat.lt_or_ge k n with z|z
   .rw[Bd rfl z]at R;cases R
   .omega
  subst h;let aaD:C=((cL k).map J).toArray:=by
   apply Array.ext_getElem?;intro j;by_cases H:j<k
   .rw[(ho j H).2];simp[H]
   .rw[Rw (by rw[G.sz];omega)]
    symm
    apply Rw;simp;omega
  subst aaD;dsimp only;refine ay (Vy G.to rfl ?_);dsimp only;refine ay (wpAny_newTuple ?_ (by simp;rw[mE];omega));have zlt:z<F.objs.size:=aQ G.zz;have ext:∀c o,F.get? c=Y o->(F.push { cls :=.type "tuple",data :=.seq ((cL k).map J).toArray }).get? c=Y o:=λc o q=>ak _ q
  have K:ZN _ z i f k d l p _ .ellipsis ((cL k).map J).toArray:=
   ⟨ext _ _ G.zz,ext _ _ G.ti,ext _ _ G.to,G.sz,λj H=>(G.iter j H).at (λo q=>ext _ _ q),λj H=>(G.lst j H).at (λo q=>ext _ _ q)⟩
  refine ay ?_;unfold Builtin.SmallTypes.ownedTupleHandOut;refine ay (uM K.zz ż λh4 z4 t =>?_);have N4:=K.Py D z4 t;refine uM N4.zz ż λh5 z5 k5 =>?_
  have U:=N4.Py D z5 k5;let tup:TupAt h5 F.objs.size ((cL k).map J).toArray:=k5.extBut _ _ (lR zlt) (t.extBut _ _ (lR zlt) (bL _ rfl));let sz5:h5.objs.size=F.objs.size+1:=by rw[k5.1,t.1,jo]
  refine bS ⟨_,rfl,?_⟩;rw[hs]at U tup sz5;show Q (.ref F.objs.size) _;rw[hs];refine hQ h5 J (λj H=>(ho j H).1) ⟨U.zz,U.ti,U.to,U.sz,λj H=>by simpa [H] using U.iter j H,U.lst⟩ tup sz5 λc o I c2 T q=>(λc o I q=>k5.extBut _ _ I (t.extBut _ _ I (ext c o q))) c o I (kp c o I c2 T q)
def xi(v:A.handled=M)(k:0<n)(a:n<=100)(D:ZA z i f n d l)(N:ZN s.heap z i f n d l p (λ_=>m) .none r) (F:∀g x,(∀j,j<n->(p j)[m]?=Y (x j))->ZN g z i f n d l p (λ_=>m+1) (rawInt s.heap.objs.size) ((cL n).map x).toArray->TupAt g s.heap.objs.size ((cL n).map x).toArray->g.objs.size=s.heap.objs.size+1 ->
   Fe z f n d s.heap g->Q (Y (.ref s.heap.objs.size)) { s with heap:=g }) (G:(∃j,j<n/\(p j)[m]?=M)->∀g,Fe z f n d s.heap g->Q M { s with heap:=g }):bP (bG B w) A (pyNext (.ref z)) Q E s:=by
 have b:s.TypeIs (.ref z) _:=⟨_,N.zz,rfl⟩;refine ay (wpAny_attempt (wpAny_callSpecial?_slot b PySem.F.slot_zip_next
  (wpAny_call_entry PySem.F.slot_zip_next b PySem.F.entry_zip_next (JW v k a D N (λg x L K J I H=>bS (F g x L K J I H)) λq g e c y =>?_) (PySem.F.args_zip_next_1 _))))
 let(o,h,C):=y;exact ay (wpAny_isInstance ⟨o,h,C⟩ isSubtype_stop (bS (G q _ c)))
end
noncomputable def nS{d:Type}(a b c:d):Nat->d
 |0=>a|1=>b|_=>c
def JX(a b c:aj):checkTypeCall "zip" ⟨[a,b,c],[]⟩=fK ():=by kernel_rfl
def LL(a b c:aj):checkBuiltinCall "zip.__new__" ⟨[.type "zip",a,b,c],[]⟩=fK ():=by kernel_rfl
def Xj(a b c d:aj):argsOk "object.__init__" ⟨[a,b,c,d],[]⟩:=by
 exact ź
noncomputable abbrev itO(l:aD):Obj:={ cls :=.type "list_iterator",data :=.fields #[.ref l,.int 0 0] }
section
variable (h:dY)(a b c:aD)
abbrev zA:dY:=h.push (itO a)
abbrev zB:dY:=(zA h a).push (itO b)
abbrev zC:dY:=(zB h a b).push (itO c)
abbrev zT:dY:=(zC h a b c).push { cls :=.type "tuple",data :=.seq #[.ref h.objs.size,.ref (zA h a).objs.size,.ref (zB h a b).objs.size] }
abbrev zO:dY:=(zT h a b c).push { cls :=.type "tuple",data :=.seq #[.none,.none,.none] }
abbrev zZ:dY:=(zO h a b c).push { cls :=.type "zip",data :=.fields #[.none,.bool Z_,.bool Z_,.ref (zC h a b c).objs.size,.ref (zT h a b c).objs.size] }
end
def FP(a b c:aD)(m l k:Array aj):
  Meets (Builtin.«zip.__new__» ⟨[.type "zip",.ref a,.ref b,.ref c],[]⟩) (λ_ R s=>s.heap.IsList a m/\s.heap.IsList b l/\s.heap.IsList c k/\R (.ok (.ret (.ref (zO s.heap a b c).objs.size))) { s with heap:=zZ s.heap a b c }):=
 .of_wp λf w A R s h=>by
  let(q,p,o,h):=h;let n:=sub_zip
  wp_walk using lX q,lX (O0 p _),lX (O0 (O0 o _) _)
  exact⟨_,rfl,h⟩
section
variable {f:bE}{s:aw}
def Lc{m:Array aj}(B:s.heap.IsList a p)(z:s.heap.IsList b n)(y:s.heap.IsList c m) (h:∀d,IsZip d (s.heap.objs.size+5) (s.heap.objs.size+3) (s.heap.objs.size+4) .none->TupAt d (s.heap.objs.size+3) #[.ref s.heap.objs.size,.ref (s.heap.objs.size+1),.ref (s.heap.objs.size+2)] ->
   TupAt d (s.heap.objs.size+4) #[.none,.none,.none]->d.IsListIter s.heap.objs.size a 0->d.IsListIter (s.heap.objs.size+1) b 0->d.IsListIter (s.heap.objs.size+2) c 0 ->
   (∀c o,s.heap.get? c=Y o->d.get? c=Y o)->Q (.ref (s.heap.objs.size+5)) { s with heap:=d }) :
  bP (bG f w) A (call (.type "zip") [.ref a,.ref b,.ref c]) Q E s:=by
 refine callType_new PySem.F.called_zip Ÿ (JX _ _ _) (LL _ _ _) (λk=>Xj k _ _ _) PySem.F.entry_zip_new (FP a b c p n m) ⟨B,z,y,?_⟩;let j:(zA s.heap a).objs.size=s.heap.objs.size+1:=jo ..;have i:(zB s.heap a b).objs.size=s.heap.objs.size+2:=by rw[jo,j]
 have g:(zC s.heap a b c).objs.size=s.heap.objs.size+3:=by rw[jo,i]
 have e:(zT s.heap a b c).objs.size=s.heap.objs.size+4:=by rw[jo,g]
 have q:(zO s.heap a b c).objs.size=s.heap.objs.size+5:=by rw[jo,e]
 have l:(zZ s.heap a b c).get? _=Y _:=bL _ rfl;let r:(zZ s.heap a b c).get? _=Y _:=ak _ (bL _ rfl);let t:(zZ s.heap a b c).get? _=Y _:=ak _ (ak _ (bL _ rfl));let u:(zZ s.heap a b c).get? _=Y _:=ak _ (ak _ (ak _ (bL _ rfl)));let v:(zZ s.heap a b c).get? _=Y _:=ak _ (ak _ (ak _ (ak _ (bL _ rfl))));show _/\_;rw[g,e,q]at l;rw[e]at r;rw[g,j,i]at t;rw[i]at u;rw[j]at v;rw[q];exact⟨⟨_,l,rfl⟩,h _ l t r ⟨_,(ak _ (ak _ (ak _ (ak _ (ak _ (bL _ rfl)))))),rfl,rfl⟩ ⟨_,v,rfl,rfl⟩ ⟨_,u,rfl,rfl⟩ λc o x=>ak _ (ak _ (ak _ (ak _ (ak _ (ak _ x)))))⟩
end
noncomputable def Vs(K : PySem.W.Frag)(a b c : aD): It :=
  ⟨λi H => ∃g e d x y z,nR K H a g /\ nR K H b e /\ nR K H c d /\ g[i]? = Y x /\ e[i]? = Y y /\ d[i]? = Y z,
   λi H v h => ∃x y z p,(∀g,nR K H a g -> g[i]? = Y x) /\ (∀e,nR K H b e -> e[i]? = Y y) /\ (∀d,nR K H c d -> d[i]? = Y z) /\ H p = M /\ v = .ref p /\ h = fD H p (.tup [x,y,z]),
   λi H => ∃g e d,nR K H a g /\ nR K H b e /\ nR K H c d /\ (g.length <= i \/ e.length <= i \/ d.length <= i)⟩
def ZSt(z l k j g e a b c:aD)(i:Nat)(h:dY):Prop:=∃d:Array aj,d.size=3/\IsZip h z l k .none/\TupAt h l #[.ref j,.ref g,.ref e]/\TupAt h k d/\h.IsListIter j a i/\h.IsListIter g b i/\h.IsListIter e c i
theorem rE{P:Nat->Prop}(c:P 0)(b:P 1)(a:P 2):∀j,j<3->P j
 |0,_=>c|1,_=>b|2,_=>a
def J4{P:bE}{K:aX}{x1}(a b c z L C J G F:aD)(Z:ZA z L C 3 (nS J G F) (nS a b c)):
  Lo P w K (.Tuple abN x1 Zp) (Vs K a b c) [z,L,C,J,G,F] z (ZSt z L C J G F a b c) where
 mem:=by simp
 obj:=λi h st d hc=>by
  let(p,s0,s1,s2,s3,s4,s5,s6):=st;simp only[aV,oZ,or_false]at hc;rcases hc with rfl|rfl|rfl|rfl|rfl|rfl
  .exact⟨_,s1,λv z=>by cases z⟩
  .exact⟨_,s2,λv z=>by cases z⟩
  .exact⟨_,s3,λv z=>by cases z⟩
  .let⟨o,e,c,d⟩:=s4;exact⟨o,e,λv z=>by rw[d]at z;cases z⟩
  .let⟨o,e,c,d⟩:=s5;exact⟨o,e,λv z=>by rw[d]at z;cases z⟩
  .let⟨o,e,c,d⟩:=s6;exact⟨o,e,λv z=>by rw[d]at z;cases z⟩
 keep:=λi h h' st k=>by let(p,s0,s1,s2,s3,s4,s5,s6):=st;exact⟨p,s0,k z ż _ s1,k L ż _ s2,k C ż _ s3,s4.at λo q=>k J ż o q,s5.at λo q=>k G ż o q,s6.at λo q=>k F ż o q⟩
 item:=by
  intro X hP hw hK hc i D s σ H E I hf st hg;subst hP hw hK;let(p,s0,s1,s2,s3,s4,s5,s6):=st;let(xs,ys,zs,x,y,zz,UC,YM,YL,m,hy,hzz):=hg;let(T,ZT,p1,hz1):=I.list UC;let(S,ZS,p2,hz2):=I.list YM;let(R,ZR,p3,hz3):=I.list YL;let(u1,hu1,ru1):=ZT.get m;let(u2,Xp,ru2):=ZS.get hy;let(u3,hu3,ru3):=ZR.get hzz;let f:∀d∈[z,L,C,J,G,F],Af X D H d:=hf;have N:ZN s.heap z L C 3 (nS J G F) (nS a b c) (nS T.toArray S.toArray R.toArray) (λA=>i) .none p:=⟨s1,s2,s3,s0,rE s4 s5 s6,rE p1.isList p2.isList p3.isList⟩;refine xi (I.ok.hd hc) ſ ſ Z N (λh1 xx t N1 t1 z1 k1 =>?_) λhe =>?_
  .let e1:xx 0=u1:=by have:=t 0 ſ;simp[nS]at this;rw[hu1]at this;cases this;rfl
   let e2:xx 1=u2:=by have:=t 1 ſ;simp[nS]at this;rw[Xp]at this;cases this;rfl
   let e3:xx 2=u3:=by have:=t 2 ſ;simp[nS]at this;rw[hu3]at this;cases this;rfl
   let t1:TupAt h1 s.heap.objs.size #[u1,u2,u3]:=by have:=t1;simpa [List.range_succ,e1,e2,e3] using this
   refine⟨_,rfl,?_⟩;refine wpAny_letOwnedTupleGo_zip (s:={ s with heap:=h1 }) N1.zz λh2 e2' w2 =>?_
   let hzp:z<s.heap.objs.size:=aQ s1;let hn:H s.heap.objs.size=none:=I.jr.fresh (aI _);let Zl:kU z h1 h2:=w2;have N2:=N1.Py Z e2' Zl;have g:∀d o,d∉[z,L,C,J,G,F]->s.heap.get? d=Y o->h2.get? d=Y o:=λd o l q=>by
    have n1:d≠z:=λe=>l (by simp[e])
    let n2:d≠C:=λe=>l (by simp[e])
    exact(Zl.2 d n1).trans (k1 d o n1 n2 (rE (λe=>l (by simp[e,nS])) (λe=>l (by simp[e,nS])) (λe=>l (by simp[e,nS]))) q)
   let tup:h2.get? s.heap.objs.size=Y { cls :=.type "tuple",data :=.seq #[u1,u2,u3] }:=(Zl.2 _ (lR hzp)).trans t1;have O:∀d o,H d=Y o->d∉[z,L,C,J,G,F]:=λd o q l=>by have:=(f d l).1;rw[this]at q;cases q
   let new:j7 X.prog X.w (fD H s.heap.objs.size (.tup [x,y,zz])) h2 s.heap.objs.size (.tup [x,y,zz]):=
    ⟨by show 3<=aY;rw[mE];decide,[u1,u2,u3],.cons ru1 (.cons ru2 (.cons ru3 .nil)),_,tup,rfl,_,rfl⟩
   let U:pL X.prog X.w (fD H s.heap.objs.size (.tup [x,y,zz])) h2:=λd o q=>by
    by_cases l:d=s.heap.objs.size
    .subst l;rw[bB]at q;cases q;exact new
    .rw[aP l]at q;refine(I.jr d o q).AA (λc v B r =>?_) (λc r=>by rw[aP (bM r hn)];exact r) λc ys r=>by rw[aP (bM r hn)];exact r
     rcases B with rfl|B
     .exact g _ _ (O _ _ q) r
     .exact g _ _ (O _ _ B) r
   have un:Un (Dv X.stack) [z,L,C,J,G,F] H (fD H s.heap.objs.size (.tup [x,y,zz])) s.heap h2:=by
    let Fz:∀b o,s.heap.get? b=Y o->b≠s.heap.objs.size:=λb o q=>cA (aQ q)
    exact⟨λb o q n A m=>g b o m q,λb o q n A m=>⟨o.slots,g b o m q⟩,λb o q n m=>by rw[aP (Fz b o q)];exact n,
     λb o q m=>⟨o,g b o m q⟩,λb ys q=>by rw[aP (bM q hn)];exact q,λb o u q=>by rw[aP (bM q hn)];exact q,λb ps q=>⟨#[],by rw[aP (bM q hn)];simpa using q⟩⟩
   let I2:Inv X D σ (fD H s.heap.objs.size (.tup [x,y,zz])) { s with heap:=h2 }:=I.JC (s':={ s with heap:=h2 }) rfl un U I.bare λb l=>⟨(f b l).2.2.2.1,(f b l).2.1,(f b l).2.2.2.2.1,(f b l).2.2.2.2.2⟩
   refine⟨.ref s.heap.objs.size,_,I2,rfl,⟨x,y,zz,s.heap.objs.size,λq hq=>by rw[I.sy hq UC];exact m,λq hq=>by rw[I.sy hq YM];exact hy,λq hq=>by rw[I.sy hq YL];exact hzz,hn,rfl,rfl⟩,⟨_,N2.sz,N2.zz,N2.ti,N2.to,N2.iter 0 ſ,N2.iter 1 ſ,N2.iter 2 ſ⟩,λd hd =>?_⟩;have:d≠s.heap.objs.size:=by
    simp only[aV,oZ,or_false]at hd;rcases hd with rfl|rfl|rfl|rfl|rfl|rfl
    .exact cA hzp
    .exact cA (aQ s2)
    .exact cA (aQ s3)
    .let⟨o,q,_⟩:=s4;exact cA (aQ q)
    .let⟨o,q,_⟩:=s5;exact cA (aQ q)
    .let⟨o,q,_⟩:=s6;exact cA (aQ q)
   rw[aP this];exact(f d hd).1
  .exfalso;let(j,hj,q):=he
   match j,hj,q with
   |0,_,q=>simp[nS]at q;rw[i8.mpr q]at hu1;cases hu1|1,_,q=>simp[nS]at q;rw[i8.mpr q]at Xp;cases Xp|2,_,q=>simp[nS]at q;rw[i8.mpr q]at hu3;cases hu3
 done:=by
  intro X hP hw hK hc i D s σ H E I hf st hg;subst hP hw hK;let(p,s0,s1,s2,s3,s4,s5,s6):=st;let(xs,ys,zs,UC,YM,YL,m):=hg;let(T,ZT,p1,hz1):=I.list UC;let(S,ZS,p2,hz2):=I.list YM;let(R,ZR,p3,hz3):=I.list YL;let l1:=ZT.length;let l2:=ZS.length;let l3:=ZR.length;let f:∀d∈[z,L,C,J,G,F],Af X D H d:=hf;have N:ZN s.heap z L C 3 (nS J G F) (nS a b c) (nS T.toArray S.toArray R.toArray) (λA=>i) .none p:=⟨s1,s2,s3,s0,rE s4 s5 s6,rE p1.isList p2.isList p3.isList⟩;refine xi (I.ok.hd hc) ſ ſ Z N (λh1 xx t =>?_) λA h' eb=>⟨rfl,?_⟩
  .exfalso;let q1:=t 0 ſ;let q2:=t 1 ſ;let q3:=t 2 ſ;simp[nS]at q1 q2 q3;have:=(ah.mp q1).1;have:=(ah.mp q2).1;have:=(ah.mp q3).1;omega
  .have O:∀b o,H b=Y o->b∉[z,L,C,J,G,F]:=λb o q l=>by have:=(f b l).1;rw[this]at q;cases q
   have g:∀d o,d∉[z,L,C,J,G,F]->s.heap.get? d=Y o->h'.get? d=Y o:=λd o l q=>eb d o (λe=>l (by simp[e])) (λe=>l (by simp[e])) (rE (λe=>l (by simp[e,nS])) (λe=>l (by simp[e,nS])) (λe=>l (by simp[e,nS]))) q
   let U:pL X.prog X.w H h':=λb o q=>by
    refine(I.jr b o q).AA (λc v B r =>?_) (λc r=>r) λc ys r=>r
    rcases B with rfl|B
    .exact g _ _ (O _ _ q) r
    .exact g _ _ (O _ _ B) r
   have un:Un (Dv X.stack) [z,L,C,J,G,F] H H s.heap h':=
    ⟨λb o q n A m=>g b o m q,λb o q n A m=>⟨o.slots,g b o m q⟩,λb o q n m=>n,λb o q m=>⟨o,g b o m q⟩,λb ys q=>q,λb o u q=>q,λb ps q=>⟨#[],by simpa using q⟩⟩
   exact I.JC (s':={ s with heap:=h' }) rfl un U I.bare λb l=>⟨(f b l).2.2.2.1,(f b l).2.1,(f b l).2.2.2.2.1,(f b l).2.2.2.2.2⟩
 self:=λA i s Q E st h=>by let(p,s0,s1,_):=st;exact wpAny_pyIter_zip s1 h
section
variable {X:Cx}{f:DF}
def Uy(K:aX)(k:TA):TI:=λe H R=>k e H λj d=>∃a b c,j=[.ref a,.ref b,.ref c]/\(∃i,nR K d a i)/\(∃h,nR K d b h)/\(∃f,nR K d c f)/\R (Vs K a b c) d
def cR.three(r:cR [x,y,z] a):∃u v w,a=[u,v,w]/\RelV x u/\RelV y v/\RelV z w:=by
 cases r with
 | cons d t=>cases t with
  | cons c t=>cases t with
   |cons b t=>cases t;exact⟨_,_,_,rfl,d,c,b⟩
def PZ{x1}(hg:Gl X "zip")(hm:X.mg "zip" = M)(ha:PA X [e,l,g] ta)(hs:autoParam (ar [e,l,g] X.env=[(Z_,eval e X.env),(Z_,eval l X.env),(Z_,eval g X.env)]) Ŭ)(K:autoParam (ar [l,g] X.env=[(Z_,eval l X.env),(Z_,eval g X.env)]) Ŭ)(hv:autoParam (i4 "zip" = Y (.type "zip")) ţ):PI X (.Tuple L x1 t) (.Call (.Name "zip" p) [e,l,g] [] x) (Uy X.K ta):=by
 intro D s σ H R I h;refine Call_ (sC I hg hm hv (iM (g8 (ha x D s σ H _ I h) ?_) (by rw[hs,K]) (by rw[K];exact Ÿ)));rintro us f ⟨vs,H1,r,r1,q1⟩;obtain⟨a,b,c,rfl,⟨xs,P⟩,⟨ys,O⟩,⟨zs,N⟩,q⟩:=q1;let(u,v,w,rfl,ru,rv,n):=cR.three r1;cases ru;cases rv;cases n;let(ad5,rx1,C,hz1):=r.list P;let(ad4,rx2,B,hz2):=r.list O;let(ad3,rx3,y,hz3):=r.list N;let(oa,T,_):=C.isList;let(ob,S,_):=B.isList;let(oc,Q,_):=y.isList;let J:=aQ T;let G:=aQ S;let F:=aQ Q;refine Lc C.isList B.isList y.isList λh' z1 z2 z3 z4 z5 z6 k1 =>?_
 refine wpAny_pyIter_zip z1 ?_;have i:∀k:Nat,H1 (f.heap.objs.size+k)=none:=λk=>r.jr.fresh (iO _ _)
 have m:∀ {d:aD}(k:Nat),d<f.heap.objs.size->d≠f.heap.objs.size+k:=fun {d} k h z=>by rw[z]at h;exact absurd h (Nat.not_lt.mpr (iO _ _))
 have o:∀j k:Nat,j≠k->f.heap.objs.size+j≠f.heap.objs.size+k:=λj k h z=>h (Nat.add_left_cancel z)
 let Z:ZA (f.heap.objs.size+5) (f.heap.objs.size+3) (f.heap.objs.size+4) 3 (nS (f.heap.objs.size+0) (f.heap.objs.size+1) (f.heap.objs.size+2)) (nS a b c):=by
  refine⟨o 3 5 ſ,o 4 5 ſ,o 3 4 ſ,rE ⟨o 0 5 ſ,o 0 3 ſ,o 0 4 ſ⟩ ⟨o 1 5 ſ,o 1 3 ſ,o 1 4 ſ⟩ ⟨o 2 5 ſ,o 2 3 ſ,o 2 4 ſ⟩,λj k hj hk U =>?_,?_⟩
  .have E:∀j,j<3->nS (f.heap.objs.size+0) (f.heap.objs.size+1) (f.heap.objs.size+2) j=f.heap.objs.size+j:=rE rfl rfl rfl;rw[E j hj,E k hk];exact o j k U
  .exact rE ⟨m 5 J,m 4 J,rE (m 0 J) (m 1 J) (m 2 J)⟩ ⟨m 5 G,m 4 G,rE (m 0 G) (m 1 G) (m 2 G)⟩ ⟨m 5 F,m 4 F,rE (m 0 F) (m 1 F) (m 2 F)⟩
 refine⟨f.heap.objs.size+5,_,_,_,H1,rfl,r.kept k1,
  J4 a b c (f.heap.objs.size+5) (f.heap.objs.size+3) (f.heap.objs.size+4) (f.heap.objs.size+0) (f.heap.objs.size+1) (f.heap.objs.size+2) Z,⟨_,rfl,z1,z2,z3,z4,z5,z6⟩,λd hd =>?_,q⟩
 simp only[aV,oZ,or_false]at hd;rcases hd with rfl|rfl|rfl|rfl|rfl|rfl
 .exact r.zP (iO _ _) (i 5)
 .exact r.zP (iO _ _) (i 3)
 .exact r.zP (iO _ _) (i 4)
 .exact r.zP (iO _ _) (i 0)
 .exact r.zP (iO _ _) (i 1)
 .exact r.zP (iO _ _) (i 2)
noncomputable def ku:List D->List D->List D->List D
 |x::c,y::b,z::a =>.tup [x,y,z]::ku c b a|_,_,_=>[]
theorem vZ:∀(c b a:List D),(ku c b a).length=min c.length (min b.length a.length)
 |[],b,a=>by simp[ku]
 |x::c,[],a=>by simp[ku]
 |x::c,y::b,[]=>by simp[ku]
 |x::c,y::b,z::a=>by simp[ku,vZ c b a]
theorem AV:∀ {c b a:List D}{i:Nat}{d:D},(ku c b a)[i]?=Y d->∃x y z,c[i]?=Y x/\b[i]?=Y y/\a[i]?=Y z/\d=.tup [x,y,z]
 |[],b,a,i,d,h=>by simp[ku]at h
 |x::c,[],a,i,d,h=>by simp[ku]at h
 |x::c,y::b,[],i,d,h=>by simp[ku]at h
 |x::c,y::b,z::a,0,d,h=>by simp[ku]at h;exact⟨x,y,z,rfl,rfl,rfl,h.symm⟩
 |x::c,y::b,z::a,i+1,d,h=>by simp only[ku,Pb]at h ⊢;exact AV h
def KC{K:aX}{f e:List V}(g:G a=Y (.lst f))(L:G b=Y (.lst h))(J:G c=Y (.lst e))(r:a9 K G ds f)(U:a9 K G es h)(o:a9 K G fs e):HU K G (Vs K a b c) (ku ds es fs):=by
 let l1:=r.length;let l2:=U.length;let l3:=o.length;refine⟨λi H s I =>?_,λi H s I=>⟨f,h,e,.of (s _ _ g),.of (s _ _ L),.of (s _ _ J),by rw[vZ]at I;lia⟩,λi H x H' G1 d v k ⟨y,T,j,p,P,O,N,X,ev,eh⟩ hd =>?_⟩
 .rw[vZ]at I;have P:i<f.length:=Ž
  have O:i<h.length:=ŷ
  have N:i<e.length:=Ž
  exact⟨f,h,e,f[i],h[i],e[i],.of (s _ _ g),.of (s _ _ L),.of (s _ _ J),by simp[P],by simp[O],by simp[N]⟩
 .let⟨c1,c2,c3,S,R,Q,rfl⟩:=AV hd;let F:=P f (.of (k _ _ (v _ _ g)));let E:=O h (.of (k _ _ (v _ _ L)));let C:=N e (.of (k _ _ (v _ _ J)));let(v1,u,B):=r.get S;let(v2,t,z):=U.get R;let(v3,q,w):=o.get Q;rw[F]at u;cases u;rw[E]at t;cases t;rw[C]at q;cases q;subst ev eh;have m:=v.trans (.alloc (o :=.tup [y,T,j]) (k.free X));exact⟨fD G1 p (.tup [y,T,j]),i9.alloc k X,fy.mpr ⟨p,_,rfl,bB,.cons (eR.mono m c1 B) (.cons (eR.mono m c2 z) (.cons (eR.mono m c3 w) .nil))⟩⟩
def iZ3(f n A:DF):DL:=λa=>(iL f a).bind λd=>(iL n a).bind λc=>(iL A a).map λb=>ku d c b
def QO{O}{m:Pos}(hg:Gl X "zip")(hm:X.mg "zip" = M)(h:PE X e (tP X.K Z f))(h':PE X l (tP X.K Z n))(E:PE X g (tP X.K Z A))(hs:autoParam (ar [e,l,g] X.env=[(Z_,eval e X.env),(Z_,eval l X.env),(Z_,eval g X.env)]) Ŭ)(C:autoParam (ar [l,g] X.env=[(Z_,eval l X.env),(Z_,eval g X.env)]) Ŭ)(D:autoParam (ar [e,l,g] X.env=(Z_,eval e X.env)::ar [l,g] X.env) Ŭ)(B:autoParam (ar [l,g] X.env=(Z_,eval l X.env)::ar [g] X.env) Ŭ)(z:autoParam (ar [g] X.env=(Z_,eval g X.env)::ar [] X.env) Ŭ):
  PI X (.Tuple r O m) (.Call (.Name "zip" p) [e,l,g] [] y) (BY X.K Z (iZ3 f n A)):=(PZ hg hm (vB h (vB h' (vB E Hy z) B) D) hs C).imp <|by
 rintro σ H R ⟨G,u,ds,gh,F,j,k⟩;let(N,ef,j):=aa.1 j;rcases i:iL n u with _|W
 .simp[i]at j
 rcases d:iL A u with _|L
 .simp_all
 simp only[i,d,ai,cS]at j;cases j;refine⟨G,u,[.lst N,.lst W,.lst L],gh,F,?_,λvs G1 H1 s r1 =>?_⟩
 .simp_all [aC,aN,Cv,ai]
 .refine af λkk =>?_
  let(v,t,rfl,rv,rt):=bJ.mp r1;let(v',t',rfl,w,x):=bJ.mp rt;let(T,U,rfl,o,q):=bJ.mp x;have:=dO.mp q;subst this;let(a,S,rfl,K,ra):=dA.mp rv;let(b,Q,rfl,J,rb):=dA.mp w;let(c,P,rfl,I,rc):=dA.mp o;exact kk (⟨a,b,c,rfl,⟨S,.of (s.gh _ _ K)⟩,⟨Q,.of (s.gh _ _ J)⟩,⟨P,.of (s.gh _ _ I)⟩,k _ G1 H1 s (KC K J I ra rb rc)⟩)
end
structure TB(kd:SortKind)(a0:Array Keyed)(st:SortSt):Prop where
 pm:(eH st).Perm a0
 kn:kindOf st=kd
 fl:Wb st=none
 pd:Dy st=#[]
noncomputable def kx(o:aj->Int)(a:Array Keyed)(i:Nat):Int:=((a[i]?).map λp=>o p.1).getD 0
def Up(o:aj->Int)(a:Array Keyed)(k:Nat):Prop:=∀i j,i<j->j<k->kx o a i<kx o a j
def Dn(o:aj->Int)(a:Array Keyed)(k:Nat):Prop:=∀i j,i<j->j<k->kx o a j<kx o a i
def Df(o:aj->Int)(a:Array Keyed):Prop:=(a.toList.map λp=>o p.1).Nodup
def Df.perm(h:Df o a)(p:b.Perm a):Df o b:=by
 let q:=(rN.mp p).map λp=>o p.1
 exact q.nodup_iff.mpr h
def Df.ne(h:Df o a){i j:Nat}(d:i<a.size)(c:j<a.size)(b:i≠j):kx o a i≠kx o a j:=by
 intro e;have g:kx o a i=(a.toList.map λp=>o p.1)[i]'(by simpa using d):=by simp[kx,d]
 have f:kx o a j=(a.toList.map λp=>o p.1)[j]'(by simpa using c):=by simp[kx,c]
 rw[g,f]at e;rcases Nat.lt_or_gt_of_ne b with z|z
 .exact sY.mp h i j _ _ z e
 .exact sY.mp h j i _ _ z e.symm
section
variable {s:aw}
def TB.size{a:SortSt}(h:TB kd a0 a):(eH a).size=a0.size:=h.pm.size_eq
def TB.arr(h:TB kd a0 a)(p:b.Perm (eH a)):TB kd a0 (setArr a b):=⟨p.trans h.pm,h.kn,h.fl,h.pd⟩
def TB.ne(h:TB kd a0 a)(d:Df o a0){i j:Nat}(e:i<a0.size)(c:j<a0.size)(b:i≠j):kx o (eH a) i≠kx o (eH a) j:=
 (d.perm h.pm).ne (by rw[h.size];exact e) (by rw[h.size];exact c) b
def V'(prog:bE)(w:fw)(A:jz)(E:aj->aw->Prop)(s:aw)(a0:Array Keyed)(kd:SortKind)(o:aj->Int):Prop:=
 ∀(a:SortSt) (i j:Nat) (Q:Option Bool->SortSt->Prop),TB kd a0 a->i<a0.size->j<a0.size->i≠j->Q (Y (decide (kx o (eH a) i<kx o (eH a) j))) a->wpS (bG prog w) A E s (ltAt' i j) Q a
def Up.more{i:Nat}(u:Up o c i)(g:1<=i)(h:kx o c (i-1)<kx o c i):Up o c (i+1):=λa b d j=>by
 by_cases e:b=i
 .subst e;by_cases f:a=b-1
  .simp_all
  .exact vU (u a _ Ž ž) h
 .exact u a b d Ž
def Dn.more{i:Nat}(u:Dn o c i)(g:1<=i)(h:kx o c i<kx o c (i-1)):Dn o c (i+1):=λa b d j=>by
 by_cases e:b=i
 .subst e;by_cases f:a=b-1
  .simp_all
  .exact vU h (u a _ ž ž)
 .exact u a b d ž
def H_{m:Nat}(C:V' prog w A E s a0 kd o)(d:Df o a0)(B:TB kd a0 b)(n:m<=a0.size)(p:1<=a)(j:a<=m)(u:Up o (eH b) a)(h:∀i,a<=i->i<=m->Up o (eH b) i->(i=m\/kx o (eH b) i<kx o (eH b) (i-1))->Q (M,i) b):wpS (bG prog w) A E s (ascLoop a m) Q b:=by
 refine xH (I:=λi c t=>c=(M,i)/\t=b/\Up o (eH b) i) (λi c t g l k =>?_) (λc t k =>?_) ⟨rfl,rfl,u⟩
 .let⟨rfl,rfl,f⟩:=k;refine dW (C _ i (i-1) _ B ž ž ž ?_);dsimp only;by_cases e:kx o (eH t) i<kx o (eH t) (i-1)
  .rw[decide_eq_true e,if_pos rfl];exact iC (h i g ž f (.inr e))
  .rw[decide_eq_false e];have:=B.ne d (i:=i-1) (j:=i) ž ž ž;exact iC ⟨rfl,rfl,f.more ž ž⟩
 simp_all
def J0{m:Nat}(C:V' prog w A E s a0 kd o)(d:Df o a0)(B:TB kd a0 b)(n:m<=a0.size)(p:1<=a)(j:a<=m)(u:Dn o (eH b) a)(h:∀i,a<=i->i<=m->Dn o (eH b) i->Q (M,i,0) b):wpS (bG prog w) A E s (descLoop a m) Q b:=by
 refine xH (I:=λi c t=>c=(M,i,0)/\t=b/\Dn o (eH b) i) (λi c t g l k =>?_) (λc t k =>?_) ⟨rfl,rfl,u⟩
 .let⟨rfl,rfl,f⟩:=k;refine dW (C _ i (i-1) _ B ž ž ž ?_);dsimp only;by_cases e:kx o (eH t) i<kx o (eH t) (i-1)
  .rw[decide_eq_true e];exact iC ⟨rfl,rfl,f.more ž e⟩
  .rw[decide_eq_false e];refine dW (C _ (i-1) i _ B ž ž ž ?_);have:=B.ne d (i:=i-1) (j:=i) ž ž ž;dsimp only;rw[decide_eq_true (by omega)];exact iC (h i g ž f)
 simp_all
def FV(b:n<=a.size)(u:Dn o a n):Up o (mirror a 0 n ((n-0)/2)) n:=λi j e d=>by
 have g:∀k,k<n->kx o _ k=kx o a _:=λk c=>by unfold kx;rw[getElem?_mirror_all b k,if_pos ⟨gz _,c⟩,nU]
 rw[g i (by lia),g j d];exact u _ _ ŷ ž
def S8{m:Nat}(C:V' prog w A E s a0 kd o)(d:Df o a0)(B:TB kd a0 c)(I:m=a0.size)(G:1<=m)(h:∀i t,TB kd a0 t->1<=i->i<=m->Up o (eH t) i->Q (Y i) t):wpS (bG prog w) A E s (countRun' 0 m) Q c:=by
 rw[countRun0_eq];refine dW (H_ C d B Ž (aI 1) G (λi j D J=>Ž) λi g f l q =>?_);dsimp only;by_cases e:i=m
 .subst e;rw[if_pos (by simp)];exact iC (h i c B g f l)
 .rw[if_neg (by simpa using e)];let q:kx o (eH c) i<kx o (eH c) (i-1):=by rcases q with z|z<;>trivial
  by_cases r:i > 1
  .rw[if_pos r];refine dW (C _ _ _ _ B Ž Ž (by show 0≠i-1;lia) ?_);dsimp only;rw[decide_eq_true (l 0 (i-1) (by omega) (by omega)),if_pos rfl];exact iC (h i c B g f l)
  .rw[if_neg r];have:i=1:=by omega
   subst this;unfold descPart;refine dW (wpS_lift (wpAny_rule ⟨rfl,?_⟩));refine dW (J0 C d B ž ž ž (Dn.more (i:=1) (λa b F K=>ž) (aI 1) q) λj y p H =>?_);dsimp only;rw[if_neg (by decide)];unfold tail3;rw[reverseSlice'_eq];refine dW (wpS_modify ?_);have u:TB kd a0 (setArr c (mirror (eH c) 0 j ((j-0)/2))):=B.arr (mirror_perm _ _ _ _);refine dW (H_ C d u ž ž p (FV (by rw[B.size];omega) H) λk x n v a =>?_);exact iC (h k _ u ž n v)
def So(f:k<a.size)(n:l<=k)(u:Up o a k)(e:∀i,i<l->kx o a i<kx o a k)(h:∀i,l<=i->i<k->kx o a k<kx o a i):Up o (bubble a k (k-l)) (k+1):=λi j b p=>by
 have g:∀q,kx o (bubble a k (k-l)) q=if q=l then kx o a k else if l<q/\q<=k then kx o a (q-1) else kx o a q:=λq=>by
  unfold kx;rw[getElem?_bubble f (k-l) (by simp) q,show k-(k-l)=l by lia];split
  .exact Ÿ
  .split<;>solve_by_elim
 rw[g i,g j];by_cases d:i=l
 .rw[if_pos d,if_neg (by lia),if_pos (by lia)];exact h _ ž ž
 .rw[if_neg d];by_cases c:j=l
  .rw[if_pos c,if_neg (by omega)];exact e _ ž
  .rw[if_neg c];by_cases s:l<i
   .rw[if_pos (by omega),if_pos (by omega)];exact u _ _ ž ž
   .rw[if_neg (by omega)];by_cases r:l<j
    .grind
    .rw[if_neg (by omega)];exact u _ _ b ž
def PN{m:Nat}(C:V' prog w A E s a0 kd o)(d:Df o a0)(B:TB kd a0 y)(T:n=a0.size)(K:1<=m)(U:m<=n)(u:Up o (eH y) m)(h:∀t,TB kd a0 t->Up o (eH t) n->Q Z' t):wpS (bG prog w) A E s (binarySort' 0 n m) Q y:=by
 rw[binarySort'_eq];simp only[nU];let z:max m 1=m:=by lia
 rw[z];refine dW (wpS_mono (xH (I:=λk c t=>c=(M,())/\TB kd a0 t/\Up o (eH t) k) (Q:=λc t=>c=(M,())/\TB kd a0 t/\Up o (eH t) n) (λk c t W L D =>?_) (λc t D =>?_) ⟨rfl,B,u⟩) λc t J =>?_)
 .let⟨rfl,g,a⟩:=D;refine dW (wpS_mono (xH (I:=λq c b=>b=t/\∃l r,c=(M,l,r)/\l<=r/\r<=k/\r-l<=k-q/\(∀i,i<l->kx o (eH t) i<kx o (eH t) k)/\(∀i,r<=i->i<k->kx o (eH t) k<kx o (eH t) i))
   (Q:=λc b=>b=t/\∃l,c=(M,l,l)/\l<=k/\(∀i,i<l->kx o (eH t) i<kx o (eH t) k)/\(∀i,l<=i->i<k->kx o (eH t) k<kx o (eH t) i)) (λq c b I H p =>?_) (λc b p =>?_) ⟨rfl,0,k,rfl,gz _,aI _,ž,λi f=>ž,λi f N=>ž⟩) λc b p =>?_)
  .refine af λkk =>?_
   let(rfl,l,r,rfl,G,v,R,j,f):=p;refine kk ?_;dsimp only;by_cases e:l ≥ r
   .rw[if_pos e];have:l=r:=by omega
    subst this;exact iC ⟨rfl,l,rfl,v,j,f⟩
   .rw[if_neg e];refine dW (C _ _ _ _ g ž ž ž ?_);dsimp only;by_cases x:kx o (eH b) k<kx o (eH b) ((l+r)/2)
    .rw[decide_eq_true x,if_pos rfl];refine iC ⟨rfl,l,(l+r)/2,rfl,ž,ž,ž,j,λi P O =>?_⟩;by_cases F:i=(l+r)/2
     .subst F;exact x
     .exact vU x (a _ _ ž O)
    .rw[decide_eq_false x,if_neg (by decide)];have S:=g.ne d (i:=k) (j:=(l+r)/2) ž ž ž;refine iC ⟨rfl,(l+r)/2+1,r,rfl,ž,v,ž,λi P =>?_,f⟩;by_cases F:i=(l+r)/2
     .subst F;omega
     .have:=a i ((l+r)/2) ž ž;omega
  .let⟨rfl,l,r,rfl,G,v,R,j,f⟩:=p;have:l=r:=by omega
   simp_all
  .let⟨rfl,l,rfl,lk,j,f⟩:=p;dsimp only;rw[moveDown'_eq];exact dW (wpS_modify (iC ⟨rfl,g.arr (bubble_perm _ _ _),So (by rw[g.size];omega) lk a j f⟩))
 .simp_all
 .let⟨rfl,g,a⟩:=J;exact iC (h t g a)
def L8{st:SortSt}{Q:Unit->SortSt->Prop}(C:V' prog w A E s a0 kd o)(d:Df o a0)(B:TB kd a0 st)(P:2<=a0.size)(m:a0.size<64)(h:∀t,(eH t).Perm a0->Wb t=M->Up o (eH t) a0.size->Q () t):wpS (bG prog w) A E s sortRuns' Q st:=by
 rw[sortRuns'_eq];refine dW (wpS_get ?_);dsimp only;have I:=by
  have:∀n,0<n->n<64->minRun' n n 0=n:=λn R N=>by
   cases n with|zero=>rfl|succ f=>rw[minRun'_succ,if_pos N,Nat.add_zero]
  exact this _ Ž m
 rw[B.size,I];refine dW (wpS_mono (xH (I:=λx c t=>if x=0 then c=(M,0)/\TB kd a0 t else c=(M,a0.size)/\(eH t).Perm a0/\Wb t=M/\(Dy t).size=1/\Up o (eH t) a0.size)
  (Q:=λc t=>c=(M,a0.size)/\(eH t).Perm a0/\Wb t=M/\(Dy t).size=1/\Up o (eH t) a0.size) (λx c t K J g =>?_) (λc t g =>?_) (by trivial)) λc t S =>?_)
 .by_cases e:x=0
  .subst e;simp only[if_true]at g;let(rfl,O):=g;dsimp only;rw[if_neg (by lia),Nat.sub_zero];have fin:∀a,TB kd a0 a->Up o (eH a) a0.size->(eH _).Perm a0/\Wb _=M/\(Dy (setPending a ((Dy a).push (0,a0.size,0)))).size=1/\Up o _ a0.size:=λa b u=>⟨b.pm,b.fl,by rw[b.pd];rfl,u⟩
   refine dW (S8 C d O rfl ž λi D r k j v =>?_);dsimp only;by_cases F:i<a0.size
   .rw[if_pos F];refine dW (wpS_lift (wpAny_rule ⟨rfl,?_⟩));rw[Rn];refine dW (PN C d r rfl k j v λy G H =>?_);simp only[Bool.not_true,gR,if_false];refine dW (wpS_get ?_);rw[show (Dy y).back? = M by rw[G.pd];rfl];dsimp only;refine dW (wpS_modify (iC ?_));simp only[nU];exact⟨ż,fin y G H⟩
   .rw[if_neg F];have:i=a0.size:=by omega
    subst this;refine dW (wpS_get ?_);rw[show (Dy D).back? = M by rw[r.pd];rfl];dsimp only;refine dW (wpS_modify (iC ?_));simp only[nU];exact⟨ż,fin D r v⟩
  .simp only[if_neg e]at g;let(rfl,L):=g;dsimp only;rw[if_pos (aI _)];exact iC ⟨rfl,L⟩
 .have:max 0 a0.size≠0:=by omega
  rw[if_neg this]at g;exact g
 .let⟨rfl,p,f,q,u⟩:=S;dsimp only;refine dW (wpS_mono (xH (I:=λT c a=>a=t/\c=(M,())) (λx c a T T l =>?_) (λT T z=>z) ⟨rfl,rfl⟩) λc a l =>?_)
  .let⟨rfl,rfl⟩:=l;refine dW (wpS_get ?_);rw[if_pos (by simp_all)];exact iC ⟨rfl,rfl⟩
  .let⟨rfl,rfl⟩:=l;exact iC (h a p f u)
def nc(h:dY)(v:aj)(n:Int):Prop:=∃a o b k t,v=.ref a/\h.get? a=Y o/\o.cls=.type "tuple" /\o.data=.seq b k/\b[0]?=Y (.int n t)
noncomputable def qa(h:dY):aj->Int
 | .ref a=>match h.get? a with
  | some o=>match o.data with
   | .seq (b:Array aj) _=>match (b[0]? : Option aj) with
    |some (OY n _)=>n|_=>0
   |_=>0
  |none=>0
 |_=>0
def nc.key{v:aj}(x:nc h v n):qa h v=n:=by
 let(a,o,b,k,t,rfl,_):=x
 simp_all [qa]
def nc.keep{v:aj}(x:nc h v n)(k:∀a o,h.get? a=Y o->c.get? a=Y o):nc c v n:=by
 let(a,o,b,e,t,rfl,f,d):=x;exact⟨a,o,b,e,t,rfl,k a o f,d⟩
def Nh{m:Int}(q:nc s.heap x m)(p:nc s.heap y n)(g:m≠n)(h:Q (decide (m<n)) s):bP (bG prog w) A (keyLt' (tuples' Z') x y) Q E s:=by
 let(a,o,d,k,t,rfl,v,J,u,r):=q;let(b,H,c,I,l,rfl,D,K,C,B):=p;refine ay (Wa v u (ay (Wa D C ?_)));obtain⟨j,G⟩:∃j,d.toList=.int m t::j:=by
  have:d.toList[0]?=Y (.int m t):=by simpa using r
  cases e:d.toList<;>simp_all
 obtain⟨i,F⟩:∃i,c.toList=.int n l::i:=by
  have:c.toList[0]?=Y (.int n l):=by simpa using B
  cases e:c.toList<;>simp_all
 rw[G,F];simp only[fR,Fo,List.forIn_cons];refine ay (ay (ay (wpAny_eqBool_int ?_)));have:(m==n)=false:=by simpa using g
 rw[this];simp;exact ay (oneLt_int (bS (bS (bS h))))
def Hq{v:aj}(d:nc s.heap v n)(h:∀t,Q (Y (.int n t)) s):bP (bG prog w) A (firstOfTuple' v) Q E s:=by
 let(a,o,b,k,t,rfl,c,g,f,e):=d;refine ay (wpAny_typeOf ⟨o,c,g⟩ ?_);refine ay (Wa c f (bS ?_));rw[e];exact h t
def KZ{s:aw}{Q:List (Option aj)->aw->Prop}(q:Paired (nc s.heap) b c)(h:∀a,Paired (λf n=>∃t,f=Y (OY n t)) a c->Q a s):bP (bG prog w) A (b.mapM firstOfTuple') Q E s:=by
 induction q generalizing Q with
 |nil=>solve_by_elim|cons r t i=>rw[List.mapM_cons];exact ay (Hq r λd=>ay (i λa e=>bS (h _ (.cons ⟨d,rfl⟩ e))))
def LR{a:List (Option aj)}(q:Paired (λf n=>∃t,f=Y (OY n t)) a c):(a.filterMap id).mapM typeOf=fK (c.map λ_=>uP "int")/\a.all (·.isSome)=true:=by
 induction q with
 |nil=>simp_all|cons x r i=>
  let⟨g,d⟩:=i;let(t,rfl):=x;rw[jG];simp only[id,List.mapM_cons,g]
  exact Ÿ
def Qm{Q:SortKind->aw->Prop}(f:Paired (nc s.heap) c d)(k:c≠[])(h:Q (tuples' Z') s):bP (bG prog w) A (keyKind' c.toArray) Q E s:=by
 rw[keyKind'_eq,List.mapM_toArray];refine ay ?_;refine ay (KZ f λe j=>bS ?_);let(i,g):=LR j;rw[if_pos (by grind)];rw[oneTypeOnly'_eq];have m:(e.toArray.filterMap id).mapM typeOf=fK (d.map λ_=>uP "int").toArray:=by
  have:e.toArray.filterMap id=(e.filterMap id).toArray:=by simp
  rw[this,List.mapM_toArray,i];exact Ÿ
 rw[m];simp only[pure_bind];obtain⟨n,a,rfl⟩:∃n a,d=n::a:=by cases f<;>lia
 let l:(Dk (λ_=>uP "int") (n::a)).toArray[0]?=Y (uP "int"):=by rfl
 rw[l];let b:((Dk (λ_=>uP "int") (n::a)).toArray.all λx=>x==uP "int")=true:=by simp
 simp only[b,if_true,pure_bind]
 exact Ÿ
def Km(h:p∈(xI a).toList):p.1=p.2/\p.1∈a:=by
 rw[pairsOf_toList]at h;exact mem_zip_self h
def qJ(h:Paired (nc b) c d):∀v∈c,nc b v (qa b v):=by
 induction h with
 |nil=>simp_all|cons r t ih=>
  intro v a;rcases aV.mp a with rfl|a
  .rw[r.key];exact r
  simp_all
def Ec(h:Paired (nc s.heap) a b):a.map (qa s.heap)=b:=by
 induction h with|nil=>rfl|cons r t ih=>rw[a_,r.key,ih]
def QX{f:List Int}(g:Paired (nc s.heap) a f)(o:f.Nodup):V' prog w A E s (xI a) (tuples' Z') (qa s.heap)/\Df (qa s.heap) (xI a):=by
 have l:Df (qa s.heap) (xI a):=by
  unfold Df;rw[pairsOf_toList];have:((a.zip a).map λp=>qa s.heap p.1)=a.map (qa s.heap):=by have:=congrArg (Dk (qa s.heap)) (List.map_fst_zip (l₁:=a) (l₂:=a) (aI _));rw[qZ]at this;exact this
  rw[this,Ec g];exact o
 refine⟨λst i j Q B d k e h =>?_,l⟩;have c:∀i,i<(xI a).size->∃x p,(eH st)[i]?=Y (x,p)/\nc s.heap x (kx (qa s.heap) (eH st) i):=λi d=>by
  have b:i<(eH st).size:=by rw[B.size];exact d
  let r:(eH st)[i]∈(xI a).toList:=(rN.mp B.pm).mem_iff.mp ż;refine⟨(eH st)[i].1,(eH st)[i].2,getElem?_pos _ i b,?_⟩;simpa [kx,b] using qJ g _ (Km r).2
 let(x,p,u,n):=c i d;let(y,q,t,m):=c j k;rw[ltAt'_eq];refine dW (wpS_get ?_);show wpS _ _ _ _ (do let x <- elem' (eH st) i;let y <- elem' (eH st) j;lt' x y) Q st;rw[elem'_eq,elem'_eq,u,t];refine dW (iC (dW (iC ?_)));rw[lt'_eq];refine dW (wpS_get ?_);rw[B.kn];refine dW (wpS_lift (wpAny_attempt (Nh n m (B.ne l d k e) ⟨rfl,?_⟩)));exact iC h
def Ff(h:dY)(b:List aj)(a:Array aj):Prop:=a.toList.Perm b/\(a.toList.map (qa h)).Pairwise (· < ·)
def MG{xs:Array Keyed}(g:xs.Perm (xI a))(u:Up (qa s.heap) xs (xI a).size):Ff s.heap a (xs.map (·.2)):=by
 have h:xs.toList.Perm (a.zip a):=by rw[<- pairsOf_toList];exact rN.mp g
 have e:(xs.map (·.2)).toList=xs.toList.map (·.1):=by rw[Array.toList_map];exact Ar λp c=>(mem_zip_self (h.mem_iff.mp c)).1.symm
 refine⟨?_,?_⟩
 .rw[e];have:=h.map (·.1)
  simp_all [List.map_fst_zip,aI]
 .rw[e,qZ,sY];intro i j l k d;have f:=by simpa using l
  have b:=by simpa using k
  have:=u i j d (by rw[<- g.size_eq];exact b)
  simp_all [kx]
def Ed(f:Paired (nc h) b d)(k:∀a o,h.get? a=Y o->e.get? a=Y o):Paired (nc e) b d:=by
 induction f with|nil=>exact .nil|cons r t ih=>exact .cons (r.keep k) ih
def Ky{v:aj}(x:nc h v n)(k:∀a o,h.get? a=Y o->b.get? a=Y o):qa b v=qa h v:=by rw[x.key,(x.keep k).key]
def Ff.back{f:dY}(i:Paired (nc h) d g)(k:∀a o,h.get? a=Y o->f.get? a=Y o)(o:Ff f d b):Ff h d b:=by
 refine⟨o.1,?_⟩;let e:=Ar λv j=>by exact(Ky (qJ i v (o.1.mem_iff.mp j)) k).symm
 rw[e];exact o.2
def L7{P:Fin->aw->Prop}(K:s.heap.get? a=Y (FD "list" g.toArray n))(F:Paired (nc s.heap) g I)(R:∀v∈g,v ≠ .ref a)(hn:I.Nodup)(W:g.length<64)(h:∀f,Ff s.heap g f->P (.done (.ret .none)) { s with heap:=sortedHeap s.heap a g f }):bP (bG c w) A (Builtin.«list.sort» ⟨[.ref a],[]⟩) P E s:=by
 rw[list_sort_plain];refine ay (Wa K rfl ?_);refine ay (listUpdate_at K rfl ?_);let T:=get?_update_seq K (λi =>#[]);refine ay (seqEpoch_at T rfl ?_);refine ay (wpAny_newTuple ?_);refine ay (wpAny_newList ?_);refine xa ?_;have y:=ak (FD "list" #[] 0) (ak (FD "tuple" g.toArray 0) T);generalize S:(((s.heap.update a (uQ λi =>#[])).push (FD "tuple" g.toArray 0)).push (FD "list" #[] 0))=l at y;have O:∀b o,b≠a->s.heap.get? b=Y o->l.get? b=Y o:=λb o L q=>by rw[<- S];refine ak _ (ak _ ?_);rw[pU _ _ (bQ L)];exact q
 have x:Paired (nc l) g I:=by
  have:∀ {D:List aj}{J:List Int},Paired (nc s.heap) D J->(∀v∈D,v ≠ .ref a)->Paired (nc l) D J:=by
   intro D J G
   induction G with
   |nil=>intro _;exact .nil
   |cons r t ih=>intro Q;refine .cons ?_ (ih λv F=>Q v (aZ _ F));let(b,o,m,k,N,rfl,H,p):=r;exact⟨b,o,m,k,N,rfl,O b o (λz=>Q _ aH (by rw[z])) H,p⟩
  exact this F R
 let B:∀f,Ff l g f->Ff s.heap g f:=λf o=>by
  refine⟨o.1,?_⟩;let e:f.toList.map (qa s.heap)=f.toList.map (qa l):=Ar λv hm=>by have u:=o.1.mem_iff.mp hm;let U:=qJ F v u;let(b,X,m,k,N,rfl,H,p):=U;simp only[qa,H,O b X (λz=>R _ u (by rw[z])) H]
  rw[e];exact o.2
 show bP (bG c w) A _ P E { s with heap:=l };dsimp only;have sz:g.toArray.size=g.length:=ż
 have fin:=λf o=>by have:=h f (B f o);unfold sortedHeap at this;rw[S]at this;exact this
 by_cases p:g.toArray.size<2
 .rw[if_pos p,if_pos p];refine ay (bS ?_);rw[StateT.run_pure];refine ay (bS ?_);dsimp only;refine ay (seqEpoch_at y rfl ?_);refine ay (listUpdate_at y rfl ?_ (hsz2:=by rw[Array.size_map];show (xI g).size<=_;rw[FE,mE];omega));simp only[bne_self_eq_false,gR,if_false];refine bS (fin _ (MG (s:={ s with heap:=l }) (Array.Perm.refl _) λi j VT hj =>?_));rw[FE]at hj;omega
 .rw[if_neg p,if_neg p];refine ay (Qm x (λz=>p (by rw[z];decide)) ?_);let(C,d):=QX (prog:=c) (w:=w) (A:=A) (E:=E) (s:={ s with heap:=l }) x hn;refine ay (iN (L8 (Q:=λi t=>(eH t).Perm (xI g)/\Wb t=M/\Up (qa l) (eH t) (xI g).size) C d ⟨Array.Perm.refl _,rfl,rfl,rfl⟩ (by rw[FE];omega) (by rw[FE];exact W) λt a1 a2 a3=>⟨a1,a2,a3⟩) ?_ λi i e=>e);rintro⟨⟨⟩,t⟩ s' ⟨rfl,G,hf,hu⟩;dsimp only;refine ay (seqEpoch_at y rfl ?_);refine ay (listUpdate_at y rfl ?_ (hsz2:=by refine bX (Rp ((Array.size_map ..).trans (G.size_eq.trans (FE _)))) ?_;rw[mE];omega));rw[hf];simp only[bne_self_eq_false,gR,if_false];exact bS (fin _ (MG (s:={ s with heap:=l }) G hu))
def Ge(F:s.heap.IsList l a.toArray)(m:Paired (nc s.heap) a x)(C:x.Nodup)(r:a.length<64)(h:∀d,Ff s.heap a d->Q (.ref (s.heap.objs.size+1)) { s with heap:=sortedAll s.heap a d }):bP (bG c w) A (call (.builtin "sorted") [.ref l]) Q E s:=by
 refine Calls.call_function_entry kind_sorted plain_sorted entry_sorted (args_sorted1 _) ?_;unfold Builtin.«sorted»;refine ay (m:=checkCount "sorted" 1 1 _) (bS ?_);refine ay (collect_list F ?_);refine ay (wpAny_newList ?_);generalize p:(s.heap.push (FD "list" #[] 0)).update s.heap.objs.size (uQ (· ++ a.toArray))=g;have u:g.objs.size=s.heap.objs.size+1:=by rw[<- p,Heap.size_update,size_push']
 have y:∀b o,s.heap.get? b=Y o->(g.push (FD "list" a.toArray 0)).get? b=Y o:=λb o q=>by refine ak _ ?_;rw[<- p,pU _ _ (λz=>by have:=aQ q;rw[<- z]at this;exact px _ this)];exact ak _ q
 have f:(g.push (FD "list" a.toArray 0)).get? (s.heap.objs.size+1)=Y (FD "list" a.toArray 0):=by rw[<- u];exact bL _ rfl
 let j:=Ed m y;let n:∀v∈a,v ≠ .ref (s.heap.objs.size+1):=λv D z=>by
  let(b,o,i,k,t,rfl,G,_):=qJ m v D;let e:b=s.heap.objs.size+1:=by cases z;exact Ÿ
  have:=aQ G;rw[e]at this;exact absurd this ż
 show bP _ _ _ _ _ { s with heap:=g.push (FD "list" a.toArray 0) };rw[u];refine ay (xa (wpAny_call_entry slot_list_sort ⟨_,f,rfl⟩ entry_list_sort (L7 (s:={ s with heap:=g.push (FD "list" a.toArray 0) }) f j n C r λd B=>⟨_,rfl,?_⟩) (args_list_sort _)));refine bS ⟨_,rfl,?_⟩;have:=h d (B.back m y);unfold sortedAll at this;rw[p]at this;exact this
end
def Eb{m:Type}{R:m->k->Prop}(p:o.Perm n):∀ {a:List m},Paired R a o->∃b,b.Perm a/\Paired R b n:=by
 induction p with
 |nil=>intro a h;cases h;exact Ÿ
 |cons u _ ih=>
  intro a h;cases h with
  |cons r t=>let⟨b,e,d⟩:=ih t;exact⟨_,e.cons _,.cons r d⟩
 |swap u v l=>
  intro a h;cases h with
  | cons r t=>cases t with
   |cons w s=>exact⟨_,.swap _ _ _,.cons w (.cons r s)⟩
 |trans _ _ j f=>intro a h;let(b,e,d):=j h;let(q,y,x):=f d;exact⟨q,y.trans e,x⟩
def Kf{K:aX}{s:List V}(p:s.Perm q):∀ {a:List D},a9 K G a s->∃f,f.Perm a/\a9 K G f q:=by
 induction p with
 | nil=>intro a h;cases a with
  |nil=>solve_by_elim|cons d a=>let⟨_,_,e,_⟩:=bJ.mp h;cases e
 |cons u _ ih=>
  intro a h;cases a with
  |nil=>cases dO.mp h|cons d a=>let⟨v,r,e,j,b⟩:=bJ.mp h;cases e;let(f,m,k):=ih b;exact⟨_,m.cons _,.cons j k⟩
 |swap u v l=>
  intro a h;cases a with
  |nil=>cases dO.mp h|cons d a=>
   let⟨_,_,e,j,b⟩:=bJ.mp h;cases e;cases a with
   |nil=>cases dO.mp b|cons A a=>let⟨_,_,e,x,w⟩:=bJ.mp b;cases e;exact⟨_,.swap _ _ _,.cons x (.cons j w)⟩
 |trans _ _ o n=>intro a h;let(B,m,k):=o h;let(t,z,y):=n k;exact⟨t,z.trans m,y⟩
theorem D4{d:j->Int}:∀ {l m:List j},l.Perm m->(l.map d).Pairwise (· < ·)->(m.map d).Pairwise (· < ·)->l=m
 |[],m,p,_,_=>by rw[List.Perm.nil_eq p]
 |a::l,[],p,_,_=>by simp_all
 | a::l,b::m,p,h,f=>by
  simp only[a_,rL]at h f;let e:a=b:=by grind [aH,qw]
  subst e;rw[D4 (by simp_all) h.2 f.2]
noncomputable def EG(a:D->Int)(d:D):List D->List D
 |[]=>[d]|x::b=>if a d<a x then d::x::b else x::EG a d b
noncomputable def J_(a:D->Int):List D->List D
 |[]=>[]|d::b=>EG a d (J_ a b)
theorem wJ(a:D->Int)(d:D):∀l,(EG a d l).Perm (d::l)
 |[] =>.rfl| x::b=>by
  unfold EG;split
  .exact .rfl
  .exact((wJ a d b).cons x).trans (.swap _ _ _)
theorem wc(a:D->Int):∀l,(J_ a l).Perm l
 |[] =>.rfl|d::b=>(wJ a d _).trans ((wc a b).cons d)
set_option tactic.hygienic true in
theorem Bp:∀ {l:List D},(l.map a).Pairwise (· < ·)->a d∉l.map a->((EG a d l).map a).Pairwise (· < ·)
 |[],_,_=>by simp[EG]
 | x::f,h,j=>by
  simp only[a_,rL,aV,not_or]at h j;unfold EG;split
  .rename_i b;simp only[a_,rL,aV];refine⟨?_,h⟩;rintro k (rfl|e)
   .exact b
   .exact vU b (h.1 k e)
  .simp only[a_,rL];refine⟨λk e =>?_,Bp h.2 j.2⟩
   grind [wJ]
theorem A7:∀ {l:List D},(l.map a).Nodup->((J_ a l).map a).Pairwise (· < ·)
 |[],_ =>.nil|d::b,h=>by simp only[a_,HY]at h;exact Bp (A7 h.2) λz=>h.1 (((wc a b).map a).subset z)
noncomputable def Ut:D->Int
 |.tup (.int n::_)=>n|_=>0
noncomputable def Xi:D->Bool
 |.tup (.int _::_)=>Z'|_=>Z_
section
variable {X:Cx}{f:DF}
def Sz(K:aX)(c:TE):TE:=λe H Q=>c e H λx d=>∃a b,x=.ref a/\nR K d a (b.map V.int)/\b.length<64/\∀l,d l=M->Q (.ref l) (fD d l (.lst ((wd b).map V.int)))
def Mx(R:Gl X "sorted")(N:X.mg "sorted" = M)(O:PE X e c)(D:autoParam (ar [e] X.env=(Z_,eval e X.env)::ar [] X.env) Ŭ)(y:autoParam (i4 "sorted" = Y (.builtin "sorted")) ţ):PE X (.Call (.Name "sorted" p) [e] [] g) (Sz X.K c):=by
 intro f s F H Q I h;refine jj (sC I R N y ?_);refine oX ?_ D rfl;refine g8 (eC O gG D g f s F H (λr n=>match r with|[x]=>∃a d,x=.ref a/\nR X.K n a (d.map V.int)/\d.length<64/\∀l,n l=M->Q (.ref l) (fD n l (.lst ((wd d).map V.int)))|_=>False) I h) ?_;rintro us C ⟨r,n,B,K,v⟩;cases r with
 |nil=>exact v.elim|cons x t=>
  cases t with
  |cons _ _=>exact v.elim|nil=>
   let⟨a,d,rfl,i,A,q⟩:=v;let(u,rfl,J):=cR.one K;cases J;let(m,G,L,hz):=B.list i;let E:FN m d:=vt G;refine sorted_ints L.isList E (by rw[EF E];exact A) λj w a1 U T =>?_
   let S:w=wd d:=SO U T;subst S;let(k,P):=sortedAll_at C.heap m j;refine⟨.ref _,_,B.laid (t':=C.toks) (λb o z=>sortedAll_old z) (pR _) (show j7 X.prog X.w _ _ _ (.lst ((wd d).map V.int)) from⟨?_,j.toList,k,BQ a1,?_⟩),rfl,q _ (B.jr.fresh (pR _))⟩
   .rw[az,(lA _).length_eq]
    simp_all
   simp_all
def m8(f:DF):DL:=λb=>(f b).bind λd=>match d with|.lst e=>(Bn e).bind λa=>if a.length<64 then Y ((wd a).map D.int) else M|_=>M
set_option tactic.hygienic true in
def X4(x:Gl X "sorted")(w:X.mg "sorted" = M)(h:PE X e (tQ X.K Z f))(u:autoParam (ar [e] X.env=(Z_,eval e X.env)::ar [] X.env) Ŭ):PE X (.Call (.Name "sorted" p) [e] [] g) (tF X.K Z (m8 f)):=
 (Mx x w h u).imp <|by
  rintro D H Q ⟨G,q,I,z,n,b,k⟩;let(d,B,b):=aa.1 b;split at b
  .let⟨s,A,b⟩:=aa.1 b;split at b
   .rename_i t;cases b;refine⟨G,q,_,z,n,B,λv C J j r =>?_⟩;let(a,F,rfl,y,o):=r.lst j.gh;rw[zF A]at o;have:=wm.mp o;subst this;exact⟨a,s,rfl,.of y,t,λl m=>k l _ C _ (j.trans (i9.lay j.gh m)) (j.hh.free m) (j.gh.free m) bB (a9.ints _)⟩
   .cases b
  .cases b
def LG(H:Hp)(v:V)(n:Int):Prop:=∃b a,v=.ref b/\H b=Y (.tup (.int n::a))
def Sy(K:aX)(c:TE):TE:=λj H Q=>c j H λx b=>∃a d f,x=.ref a/\nR K b a d/\Paired (LG b) d f/\f.Nodup/\d.length<64/\∀l e h,b l=M->e.Perm d->Paired (LG b) e h->h.Pairwise (· < ·)->Q (.ref l) (fD b l (.lst e))
def Ng{s:aw}{a:List aj}(I:Inv X d j H s)(p:Paired (LG H) l h)(q:cR l a):Paired (nc s.heap) a h:=by
 induction p generalizing a with
 |nil=>cases q;exact .nil|cons g t i=>
  let⟨b,x,rfl,w⟩:=g;rcases q with _|⟨r,m⟩;cases r;let(y,a,n,o,q,v,k,u):=I.jr b _ w;cases n with
  |cons p _=>let⟨l,rfl⟩:=p;exact .cons ⟨b,o,_,k,l,rfl,q,v,u,Ÿ⟩ (i m)
def Ql{f:St}{s:aw}(I:Inv X a f H s)(q:cR b d)(h:∀y∈b,∃n,LG H y n):Paired (LG H) b (d.map (qa s.heap)):=by
 induction q with
 |nil=>exact .nil|cons r k i=>
  let⟨n,e⟩:=h _ aH;have t:=Ng I (.cons e .nil) (.cons r .nil);cases t with
  |cons j _=>refine .cons ?_ Ż;rw[j.key];exact e
def Um(h:Paired (LG H) b d):∀y∈b,∃n,LG H y n:=by
 induction h<;>grind
def Mw(hg:Gl X "sorted")(hm:X.mg "sorted" = M)(hl:PE X e c)(i:autoParam (ar [e] X.env=(Z_,eval e X.env)::ar [] X.env) Ŭ)(E:autoParam (i4 "sorted" = Y (.builtin "sorted")) ţ):PE X (.Call (.Name "sorted" p) [e] [] g) (Sy X.K c):=by
 intro m s P H Q I h;refine jj (sC I hg hm E ?_);refine oX ?_ i rfl;refine g8 (eC hl gG i g m s P H (λv f=>match v with|[x]=>∃a j C,x=.ref a/\nR X.K f a j/\Paired (LG f) j C/\C.Nodup/\j.length<64/\∀l d L,f l=M->d.Perm j->Paired (LG f) d L->L.Pairwise (· < ·)->Q (.ref l) (fD f l (.lst d))|_=>False) I h) ?_;rintro us J ⟨v,f,r,S,A⟩;cases v with
 |nil=>exact A.elim|cons x t=>
  cases t with
  |cons _ _=>exact A.elim|nil=>
   let⟨a,j,C,rfl,hq,O,hn,G,q⟩:=A;let(u,rfl,R):=cR.one S;cases R;let(D,w,T,hz):=r.list hq;refine Ge T.isList (Ng r O w) hn (by rw[<- w.length];exact G) λn N =>?_
   let(d,B,K):=Eb N.1.symm w;let(k,F):=sortedAll_at J.heap D n;refine⟨.ref _,_,r.laid (λb o z=>sortedAll_old z) (pR _) (show j7 X.prog X.w _ _ _ (.lst d) from⟨?_,n.toList,k,K,?_⟩),rfl,q _ d _ (r.jr.fresh (pR _)) B (Ql r K λy U=>Um O y (B.subset U)) N.2⟩
   .rw[B.length_eq]
    simp_all
   simp_all
def zR(f:DF):DL:=λρ=>(f ρ).bind λd=>match d with|.lst a=>if (a.all Xi=Z'/\(a.map Ut).Nodup)/\a.length<64 then Y (J_ Ut a) else M|_=>M
def Nm(h:Xi d=Z'):∃b,d=.tup (.int (Ut d)::b):=by
 cases d with
 |tup a=>
  cases a with
  |nil=>cases h|cons x a=>cases x<;>first|exact⟨a,rfl⟩|cases h
 |_=>cases h
theorem Co{K:aX}(s:bI G H):∀ {f:List D}{a:List V},f.all Xi=Z'->a9 K G f a->Paired (LG H) a (f.map Ut)
 |[],a,_,r=>by rw[dO.mp r];exact .nil
 |d::f,a,h,r=>by let(v,t,rfl,l,o):=bJ.mp r;simp only[jt,aA]at h;refine .cons ?_ (Co s h.2 o);let(p,e):=Nm h.1;rw[e]at l;let(b,q,rfl,m,n):=fy.mp l;let(w,j,rfl,k,_):=bJ.mp n;rw[cJ.mp k]at m;exact⟨b,j,rfl,s _ _ m⟩
def Qk{g h:List Int}(p:Paired (LG H) d g)(q:Paired (LG H) d h):g=h:=by
 induction p generalizing h with
 |nil=>cases q;rfl|cons r t i=>
  let⟨b,n,rfl,l⟩:=r;rcases q with _|⟨⟨o,j,m,a⟩,k⟩
  grind
set_option tactic.hygienic true
def Oq(hg:Gl X "sorted")(hm:X.mg "sorted" = M)(h:PE X e (tQ X.K Z f))(hs:autoParam (ar [e] X.env=(Z_,eval e X.env)::ar [] X.env) Ŭ):PE X (.Call (.Name "sorted" p) [e] [] g) (tF X.K Z (zR f)):=
 (Mw hg hm h hs).imp <|by
  rintro σ H Q ⟨G,ρ,ds,gh,env,eq,k⟩;let(d,ef,eq):=aa.1 eq;split at eq
  .rename_i xs;split at eq
   .rename_i hz;cases eq;refine⟨G,ρ,_,gh,env,ef,λv G1 H1 E1 r1 =>?_⟩;let(a,vs,rfl,ha,rs):=r1.lst E1.gh;refine⟨a,vs,_,rfl,.of ha,Co E1.gh hz.1.1 rs,hz.1.2,by rw[<- rs.length];exact hz.2,λl ys ms hl p1 q1 q2 =>?_⟩;let(zs,p2,rz):=Kf p1.symm rs;let aaP:zs.all Xi=true:=by rw[fX];exact λz hz'=>fX.mp hz.1.1 z (p2.subset hz')
    let e1:=Qk q1 (Co E1.gh aaP rz);rw[e1]at q2;rw[(D4 (p2.trans (wc Ut xs).symm) q2 (A7 hz.1.2))]at rz;exact k l ys G1 _ (E1.trans (i9.lay (p:=l) E1.gh hl)) (E1.hh.free hl) (E1.gh.free hl) bB rz
   .cases eq
  .cases eq
end
section
variable {X:Cx}
noncomputable def ji(c m:aJ)(F:List D->Option D)(f:DF)(g:DL):DF:=λa=>(f a).bind λx=>match x with
 |.ins d b h=>if d=c/\m∉b then (g a).bind λe=>F (.ins d b h::e) else M
 |_=>M
set_option tactic.hygienic true in
def M0{m:aJ}{F:List D->Option D}{e:St}(n:uO X.K bC c=Y (Y (.ref C)))(l:∀e H Q,F8 X.K Z g e H Q->t e H Q)(h:tP X.K Z (ji c m F k g) e H Q):DI C m (jM X.K F) [] E0 (tP X.K Z k) t e H Q:=by
 let(G,i,d,T,f,b,q):=h;unfold ji at b;rw[aa]at b;let(x,p,b):=b;split at b
 .split at b
  .rename_i R;let(rfl,P):=R;rcases o:g i with _|z
   .simp_all
   rw[o]at b;refine⟨G,i,_,T,f,p,λv y H1 j s =>?_⟩;refine af λkk =>?_
   let(a,C',dx,vs,rfl,w,S,_):=qF.mp s;rw[n]at w;cases w;refine kk (⟨a,dx,_,rfl,j.gh _ _ S,n7 (K:=X.K) (G:=y) P,l _ _ _ ⟨y,i,z,j.gh,f.ext j,o,λB G2 H2 r K =>?_⟩⟩);rw[cT];exact⟨G2,_,d,r.gh,.cons (eR.mono r.gg _ s) K,b,λv G3 H3 E3 E=>q v G3 H3 ((j.trans r).trans E3) E⟩
  .cases b
 .cases b
def X5{c m:aJ}{F:List D->Option D}{i:DF}{g:DL}(h:gI X.prog X.w X.K X.mg X.base c m k (jM X.K F))(l:hJ k X.A)(p:PE X o (tP X.K Z i))(v:PA X (e::J) (F8 X.K Z g))(a:autoParam (ar (e::J) X.env=(Z_,eval e X.env)::ar J X.env) Ŭ)(b:autoParam ((eS A (ar J X.env)).any (·.1)=false) Ŭ) (j:autoParam (eval (.Call (.Attribute o m I) (e::J) [] A) X.env=(do
   let d <- eval o X.env
   tV I.atName
   let(f,first) <- pP [d] (oT d m pl)
   x_ A f first (eS A (ar (e::J) X.env)) (ki A (gr [] X.env)))) Ŭ):PE X (.Call (.Attribute o m I) (e::J) [] A) (tP X.K Z (ji c m F i g)):=by
 refine af λkk =>?_
 let(C,f,B,y,n,s,r,w,t):=h.ex;exact kk ((B_ p s r w l t .nil rp v a b j).imp λx H Q q=>M0 n (λu u u z=>z) q)
noncomputable def sL(c m:aJ)(F:List D->Option (List D))(e:DF):DL:=λd=>(e d).bind λx=>match x with
 |.ins b a f=>if b=c/\m∉a then F [.ins b a f] else M
 |_=>M
set_option tactic.hygienic true in
def V2{m:aJ}{F:List D->Option (List D)}{p:DF}(h:gI X.prog X.w X.K X.mg X.base c m k (yc X.K F))(R:hJ k X.A)(S:PE X o (tP X.K Z p)) (P:autoParam (eval (.Call (.Attribute o m I) [] [] A) X.env=(do
   let y <- eval o X.env
   tV I.atName
   let(f,first) <- pP [y] (oT y m pl)
   x_ A f first (eS A (ar [] X.env)) (ki A (gr [] X.env)))) Ŭ):PE X (.Call (.Attribute o m I) [] [] A) (tF X.K Z (sL c m F p)):=by
 let(C,f,fd,ps,n,i,g,j,T):=h.ex;refine(y6 (pl:=pl) S i g j R T .nil rp P).imp ?_;rintro σ H Q ⟨G,t,d,gh,r,b,q⟩;unfold sL at b;rw[aa]at b;let(x,s,b):=b;split at b
 .rename_i c' ks ds;split at b
  .rename_i i;let(rfl,g):=i;refine⟨G,t,_,gh,r,s,λv B H1 e w =>?_⟩;let(a,C',dx,vs,rfl,z,ha,l,rs):=qF.mp w;rw[n]at z;cases z;refine⟨a,dx,_,rfl,e.gh _ _ ha,n7 (K:=X.K) (G:=B) g,?_⟩;exact⟨B,_,d,e.gh,.cons w .nil,b,λu E G3 H3 E3 j h2 h3 K=>q u E G3 H3 (e.trans E3) (e.hh.free j) h2 h3 K⟩
  .cases b
 .cases b
def Cf(a:Bool):D->D->Option D
 |y,.iW b c=>(EC y).map λk =>.bl (if a then !(cO b c k).isSome else (cO b c k).isSome)
 |_,_=>M
def M8{K:aX}(r:a9 K G b c):(tJ (a.zip c) k).isSome=(cO a b k).isSome:=by
 rcases e:cO a b k with _|d
 .rw[uF r e];rfl
 let(v,f,_):=qO r e;rw[f];rfl
def K4(n:X.A.units+1<rK)(s:PE X e (tQ X.K Z L))(r:PE X o (tQ X.K Z N))(t:autoParam (i5 .NotIn o=false) Ŭ):PT X (.Compare e [.NotIn] [o] A) (rV X.K Z (dB (e2 (Cf Z') L N))):=
 (Te (Kl n s r) t).imp <|by
  rintro I H Q ⟨G,h,d,w,c,C,q⟩;refine af λkk =>?_
  let(x,y,B,z,b):=CP (u5 C);cases y<;>simp only[Cf]at b<;>try (cases b)
  let(S,D,b):=aq.1 b;cases b;refine kk (⟨G,h,x,w,c,B,λv K H1 g k=>⟨K,h,_,g.gh,c.ext g,z,λu F E f j =>?_⟩⟩);let(a,P,rfl,p,l,i):=j.U6 f.gh;let m:=vq D (k.ext f);subst m;exact⟨a,_,rfl,x6.k p,_,rfl,by rw[M8 i];exact q F E (g.trans f)⟩
def IH:D->D->Option D
 |.iW a b,y=>(EC y).bind λk=>cO a b k
 |_,_=>M
def QS(p:X.A.units+1<rK)(z:PE X o (tQ X.K Z L))(t:PE X e (tQ X.K Z N))(r:autoParam (Vq e) Š):PE X (.Subscript o e A) (tP X.K Z (e2 IH L N)):=
 (P2 p z t r).imp <|by
  rintro S H Q ⟨G,i,d,B,c,F,q⟩;let(x,y,D,C,b):=CP F;cases x<;>simp only[IH]at b<;>try trivial
  let(kk,K,b):=aa.1 b;refine⟨G,i,_,B,c,D,λv R H1 h m=>⟨R,i,y,h.gh,c.ext h,C,λu P I g k =>?_⟩⟩;let(a,T,rfl,s,l,j):=(m.ext g).U6 g.gh;let n:=vq K k;subst n;let(w,E,f):=qO j b;exact⟨a,w,rfl,by rw[<- E];exact x6.k s,q w P I (h.trans g) f⟩
def yW(i j:Nat)(c m:aJ)(s:Sk)(F:List D->Option (List D×D)):DG:=λa=>(ya j a).bind λd=>match d.1,d.2 with
 |.fs f _,.ins b e _=>if (f=c/\b=c)/\m∉e then (oi s j a).bind λt=>(F [t]).map λr =>.nx (((fU j a).set j (Y (.obj s r.2))).set i (Y (.lst r.1))) else M
 |_,_=>M
set_option tactic.hygienic true
def N'{i:Nat}{c m:aJ}{s:Sk}{F:List D->Option (List D×D)}(hN:X.N.Nodup)(hx:X.N[i]?=Y x)(hlx:Loc X.env.scope x)(h:gI X.prog X.w X.K X.mg X.base c m k (L6 X.K s F))(hr:hJ k X.A)(ho:PE X (.Name y p) (j8 j))(hj:autoParam (j∈Z) Ū)(L:autoParam (i∈Z) Ū)(VT:autoParam (j≠i) Ū)(Q:autoParam (∀a,(i,a)∉B.3) ť)(hm2:autoParam (Bj i∉Z) Ū) (ht:autoParam (eval (.Call (.Attribute (.Name y p) m I) [] [] A) X.env=(do
   let ov <- eval (.Name y p) X.env
   tV I.atName
   let(f,first) <- pP [ov] (oT ov m pl)
   x_ A f first (eS A (ar [] X.env)) (ki A (gr [] X.env)))) Ŭ) (hs:autoParam (cY (.Call (.Attribute (.Name y p) m I) [] [] A) (Y (.Name x O)) U.line X.env=fK false) Ŭ) (hf:autoParam (X.fn x=Z'\/X.env.scope.names.lookup x=Y .local) ŧ) :
  PS X (.Assign [.Name x O] (.Call (.Attribute (.Name y p) m I) [] [] A) U) (jW X.K B u Z Z (yW i j c m s F)):=by
 let(C,f,fd,ps,n,hc,hm,h1,g):=h.ex;refine(mr hN hx hlx (y6 ho hc hm h1 hr g .nil rp ht) hs hf).imp ?_;rintro D σ H ⟨G,ρ,o,S,t,q⟩;unfold yW at t;rcases et:ya j ρ with _|⟨s0,t0⟩
 .rw[et]at t;cases t
 rw[et]at t;simp at t;split at t
 .rename_i c' fk c'' ks ds;split at t
  .rename_i hz;obtain⟨⟨rfl,rfl⟩,hmk⟩:=hz;rcases J:oi s j ρ with _|t1
   .rw[J]at t;cases t
   rw[J]at t;simp only[ai]at t;rcases eF:F _ with _|⟨zs,t'⟩
   .rw[eF]at t;cases t
   rw[eF]at t;cases t;let hd:=mL et;let K:=me J;rw[K]at hd;let(a,T,e1,ot,nd,nf,F1,W1,hF1):=S.tree hj K;obtain⟨dx,vs,ex⟩:∃dx vs,H a=Y (.ins C dx (ks.zip vs)):=by
    cases hd;cases ot with|ins n' ex l tt=>rw[n]at n';cases n';exact⟨_,_,ex⟩
   refine⟨_,e1,a,dx,_,rfl,ex,n7 (K:=X.K) (G:=G) hmk,?_⟩;refine⟨G,t1,[],zs,t',a,T,[],S.gh,rfl,ot,nd,λb g=>(nf b g).1,.nil,eF,λq' ws T' G' H' E nw ndw P gq fq nq hq rq =>?_⟩;have hu:=kW (r:=j) K λq z=>by cases z
   let R:=(S.J3 (r:=j)).HC (i:=j) (a:=a) (d' :=.obj s t') (F0:=T) (S':=T') (G':=G') (H':=H') (⟨λi d L e=>W1.it i d L (bV e).1,λi d L e=>W1.ok i d L (bV e).1,λi j d c L hj ei ej=>W1.ap i j d c L hj (bV ei).1 (bV ej).1⟩) hj (λb g=>⟨by rw[hF1];exact g,_,hu⟩) E.gg E.gh (λb o e=>by
     rcases E.fr b o e with z|z
     .exact .inl z
     .by_cases g:b∈T
      .exact .inr (.inr g)
      .rw[dP g]at z;exact .inr (.inl z))
    (λb o g e=>E.hh b o (by rw[dP g];exact e)) nw ndw (λb g=>⟨(P b g).1,by rcases(P b g).2 with z|z;exact .inl z;exact .inr (.inl z)⟩) (λb h=>by have:=(S.pin j b h).2;rw[e1]at this;cases this;rfl) (λr p z=>by cases z)
    (λj' p V V V e=>absurd rfl ((bV e).2 p))
   rw[hW e1]at R;let(Sr,Wr):=R;let R2:=(Sr.HC (i:=i) (a:=q') (d' :=.lst zs) (F0:=[]) (S':=[q']) (G':=G') (H':=H') Wr L (λb g=>by cases g) (bI.refl _) Sr.gh (λb o e =>.inl e) (λb o V e=>e)
    ((ng.cell rfl).mpr ⟨⟨_,hq,ws,rfl,rq⟩,rfl⟩) ż (λb g=>by
     simp at g;subst g;let hB:B.2 b=none:=by
      rcases fq with z|z
      .exact(nf b z).2
      .exact S.h0.free z
     refine⟨gq,.inr (.inr ⟨hB,λk cc hk ek RX v =>?_⟩)⟩;by_cases w:k=j
     .subst w;simp only[if_true]at v;exact nq v
     .simp only[if_neg w]at v;rw[au (bQ w)]at ek;have ek':=(bV ek).1;rcases fq with z|z
      .exact W1.ap j k _ cc hj hk K ek' (bQ w) b (by rw[hF1];exact z) v
      .let⟨y,f1,f2⟩:=W1.it k cc hk ek';let(o,ho):=f2.here b v;rw[ho]at z;cases z) (λb h=>absurd h (Q b)) (λr p z=>by cases z)
    (λj' p h1 h2 V e=>by let(_,g0,_):=Sr.gL j' i p h1 h2 e;exact absurd g0 hm2)).1
   exact q _ G' H' R2
  .cases t
 .cases t
end
section
variable {X:Cx}{m:Pos}
end
section
variable {X:Cx}
def Gm(b:Bool)(j:Nat)(c f:aJ)(e:DM):DG:=λd=>(e d).bind λw=>(IA b j w.2).bind λq=>(ya q.1 w.2).bind λa=>(xT c a.1 a.2 q.2).bind λz=>
 if EE (fG z.1 f)=Z'/\z.2.1.length<999 then Y (.nx (w.2.set q.1 (Y (.obj a.1 (mY (.ins c (jV f w.1 z.2.1 z.2.2).1 (jV f w.1 z.2.1 z.2.2).2) q.2 a.2))))) else M
set_option tactic.hygienic true
def Oe{b:Bool}{c f:aJ}{K:DM}(h:PE X (.Name x p) (j8 j))(he:PE X e (tM X.K B Z K))(J:sV X.K c f)(hj:autoParam (j∈Z) Ū)(hb:autoParam (b=Z'->GL j∈Z) Ū)(ha:autoParam (f∉Fd) Ū)(hs:autoParam (cY e (Y (.Attribute (.Name x p) f u)) n.line X.env=fK false) Ŭ):PS X (.Assign [.Attribute (.Name x p) f u] e n) (jW X.K B y Z Z (Gm b j c f K)):=(B9 h he hs).imp <|by
 rintro D σ H ⟨G,E,o,S,i,k⟩;obtain⟨⟨d,F⟩,ef,i⟩:=aa.1 i;rcases q:IA b j F with _|⟨r,T⟩
 .simp[q]at i
 rcases z:ya r F with _|⟨s,t⟩
 .simp[q,z]at i
 rcases I:xT c s t T with _|⟨fk,ks,ds⟩
 .simp[q,z,I]at i
 simp only[q,z,I,ai]at i;split at i
 .rename_i hz;cases i;let(i1,U):=wI I;refine⟨G,E,d,F,S,ef,λv G' H' P s' R =>?_⟩;refine af λkk =>?_
  let(hr,s1,t',a,v',O,e2,e3,e4):=P.IA q hj hb;let w:=mL z;rw[w]at O;let(a',Q,C,dx,vs,N,g,L,f4,f5,f6):=P.UR hr w i1 U hz.1 ha R;rw[e2]at N;cases N;rw[e4]at g;cases g;refine kk (⟨_,e3,Q,C,dx,_,rfl,f4,(J C L).1,(J C L).2,?_,k _ G' _ f6⟩);rw[uX f5];lia
 .cases i
end
section
variable {X:Cx}{m:List Nat}
end
def vK.mono{P:bE}{K:aX}{d:Sp}(h:vK P w K e b c j d)(i:j<=k):vK P w K e b c k d:=by
 let(C,f,s,g,r,q,p,o,l):=h.ex;exact⟨C,f,s,g,r,q,p,o.mono i,l⟩
noncomputable def GH:List D->Option D
 |[.int i,.int j]=>Y (.int (if j > i then j else i))
 |_=>M
def Vf{X:Cx}(l:X.calm=Z'):lP X (.builtin "max") (rC X.K GH):=by
 refine lP.imp (Ld l) ?_;rintro i H Q ⟨G,j,d,c,r,a,q⟩;unfold GH at a;split at a
 .cases a;rcases r with _|⟨ra,_|⟨rb,_|_⟩⟩;exact⟨_,_,by rw[ra.int,rb.int],q _ G H (.refl c) (cJ.mpr rfl)⟩
 .cases a
def abk(l:X.calm=Z')(c:Gl X "max")(b:X.mg "max" = M)(h:PE X e (tQ X.K Z f))(k:PE X e' (tQ X.K Z g))(a:autoParam (ar (e::[e']) X.env=(Z_,eval e X.env)::ar [e'] X.env) Ŭ)(a':autoParam (ar (e'::[]) X.env=(Z_,eval e' X.env)::ar [] X.env) Ŭ)(z:autoParam ((eS w (ar [e'] X.env)).any (·.1)=false) Ŭ):PE X (.Call (.Name "max" p) [e,e'] [] w) (tP X.K Z (aW GH (aC f (aC g aN)))):=
 vA (Vf l) c b PyProof.Rows.boot_max (sO h (sO k yr a') a) ſ ſ a z
section
variable {K:aX}
def SR.NP{j:Nat}(S:SR K B Z G H C A)(hj:j∈Z)(q:A[j]?=Y (Y d))(u:wH d=Z'):∃a G',C[j]?=Y (Y (.ref a))/\eR K G' d (.ref a)/\SR K B Z G' H C (A.set j M):=by
 let(F,W):=S.ow;let(a,e,oc):=W.it j d hj q;obtain⟨⟨o,ha,cl⟩,fs⟩:=(ng.cell u).mp oc;let(ga,ba):=(W.ok j d hj q).2 a Ż;let sg:bI G (fD G a o) :=.alloc ga;refine⟨a,_,e,(cl.mono sg).rep bB,λb w z =>?_,S.g0.trans sg,S.h0,λb w z =>?_,λi c x z =>?_,⟨F,λi c x z =>?_,λi c x z =>?_,λi k c1 c2 x y z1 z2=>W.ap i k c1 c2 x y (fM z1).2 (fM z2).2⟩,by simp[S.len],S.pin,(S.blank q u).gL⟩
 .by_cases h:b=a
  .simp_all [bB]
  .rw[aP h]at z;exact S.gh _ _ z
 .by_cases h:b=a
  .simp_all
  .rw[aP h]at z;exact S.fr _ _ z
 .let⟨v,y,r⟩:=S.env i c x (fM z).2;exact⟨v,y,eR.mono sg _ r⟩
 .let⟨b,y,r⟩:=W.it i c x (fM z).2;exact⟨b,y,ng.mono sg (λf f f h=>h) r⟩
 .let⟨y,r⟩:=W.ok i c x (fM z).2;refine⟨y,λb m=>⟨?_,(r b m).2⟩⟩;rw[aP λh =>?_]
  .simp_all
  .exact W.ap i j c d x hj (fM z).2 q (bQ (fM z).1) b m Ż
end
noncomputable def S5(i j:Nat):DG:=λA=>match A[j]? with
 |some (Y (.lst d))=>Y (.nx ((A.set j M).set i (Y (.lst d))))|_=>M
set_option tactic.hygienic true
def aa8{i j:Nat}(n:X.N.Nodup)(h:X.N[i]?=Y x)(c:Loc X.env.scope x)(m:PE X (.Name y p) (j8 j))(hi:autoParam (i∉Z) Ū)(hj:autoParam (j∈Z) Ū)(g:autoParam (cY (.Name y p) (Y (.Name x a)) J.line X.env=fK false) Ŭ)(l:autoParam (X.fn x=Z'\/X.env.scope.names.lookup x=Y .local) ŧ):
  PS X (.Assign [.Name x a] (.Name y p) J) (jW X.K B I Z Z (S5 i j)):=(mr n h c m g l).imp <|by
 rintro D C H ⟨G,A,o,S,b,k⟩;unfold S5 at b;split at b
 .rename_i d q;cases b;let(a,G',e,r,S'):=S.NP hj q rfl;exact⟨_,e,k _ G' H (S'.wg hi r)⟩
 .cases b
end L2
namespace K21
open PySem L2
local macro_rules | `(tactic|walk_at "s") =>return mk0 "(T!exact exact (M!anonymousCtor ⟨ (null %rfl , %rfl , %rfl , %Ų , %rfl , %Ų , %Ų ) ⟩ ) )" #[]
theorem ű{p:Prop}(h:autoParam p ŗ):p:=h
noncomputable def K_(c y G:List Nat):List Nat:=c.filter λi=> !(y.contains i||G.contains i)
section
variable {X:Cx}{c y G:List Nat}{e:Expr}
def XR(b:PS X N (jW X.K B I c c g))(a:qU X O (jW X.K B I c L h)):qU X (N::O) (jW X.K B I c L (aU g h)):=ax b a
def abe{f:DF}(h:PE X e (tP X.K (K_ c y G) f))(a:autoParam (m5 c (K_ c y G) y G=true) Ū):PE X e (tP X.K c (lV y G f)):=Oo _ y G h a
def aa6{f:DT}(h:PT X e (rV X.K (K_ c y G) f))(a:autoParam (m5 c (K_ c y G) y G=true) Ū):PT X e (rV X.K c (Az y G f)):=R_ _ y G h a
def abd{f:DL}(h:PE X e (tF X.K (K_ c y G) f))(a:autoParam (m5 c (K_ c y G) y G=true) Ū):PE X e (tF X.K c (NW y G f)):=X2 _ y G h a
def pJ{Z:List Nat}{f:DL}(N:List aJ)(src:List (Option Nat))(e:PI X (.Name x l) O (BY X.K Z f))(k:∀C s H b,PE (X.tS N T C s H b) m (tP X.K [] fe))(S:autoParam (gy X N src T) ő)(j:autoParam (X.calm=true) Ŭ)(a:autoParam (∀i∈[0],src[i]?=Y none) Ū)(n:autoParam (N.Nodup) ţ)(p:autoParam (N.Nodup->∀C s H b,PG (X.tS N T C s H b) (.Name x l) (qf 0)) Ő)(d:autoParam (jO Z [] src=true) Ū)(c:autoParam (∀x,cM O X.env x=fK x) ũ):PE X (.ListComp m [⟨.Name x l,O,[],0⟩] T u) (tF X.K Z (mx f src (gN 0) gU fe)):=
 BC S j e (jE 0) a (lF 0) (λC s H b=>⟨p n C s H b,nP,k C s H b⟩) d c
end
noncomputable abbrev KL:List (aJ×aJ):=[("Coming","able"),("Coming","facts"),("Coming","full"),("Coming","opened"),("Coming","rests"),("Coming","rows"),("Coming","taken"),("Facts","asks"),("Facts","bits"),("Facts","by_name"),("Facts","by_text"),("Facts","inner"),("Facts","leads"),("Facts","question"),("Facts","starred"),("Facts","stars"),("Row","atoms"),("Row","fits"),("Row","hoped"),("Row","hoped_around"),("Row","named"),("Row","number"),("Row","reached"),("Row","reached_around"),("Sift","coming"),("Sift","numbers")]
noncomputable abbrev ZL:List aJ:=["all","any","enumerate","len","list","max","range","sorted","zip"]
structure KS(K:aX)(mg:aJ->Option aj):Prop where
 c:∀p∈KL,sV K p.1 p.2
 z:∀x∈ZL,mg x=none
def KS.q{K:aX}{t:aJ->Option aj}{c f:aJ}(k:autoParam (KS K t) ŏ)(h:autoParam ((c,f)∈KL) Ū):sV K c f:=k.c _ h
def KS.y{K:aX}{t:aJ->Option aj}{x:aJ}(k:autoParam (KS K t) ŏ)(h:autoParam (x∈ZL) Ū):t x=none:=k.z _ h
def asm{p:Prop}(h:autoParam (p) ŏ):p:=h
local macro_rules
|`(tactic|walk_at "o") =>
 let f(s x:String):="(M!app %"++(s.splitOn ":").headD ""++" (null "++String.join (((s.splitOn ":").getLastD "").toList.map fun c=>if c=='x' then x else (("?ariqynpvf".toList.zip ("(M!syntheticHole ? _ ) /%asm /%rfl /(M!app (M!dotIdent . %inl ) (null %rfl ) ) /%KS.q /%KS.y /(M!app %zi (null (M!hole _ ) ) ) /(M!app %pv (null (M!hole _ ) ) ) /%jF /(M!fun fun (M!basicFun (null (M!hole _ ) (M!hole _ ) ) (null ) => (M!syntheticHole ? _ ) ) ) ".splitOn "/")).lookup c).getD "(M!hole _ ) ")++") ) "
 let q(s:String):="(T!tacticSeq (T!tacticSeq1Indented (null "++s++") ) ) "
 return mk0 ("(T!repeat' repeat' "++q ("(T!first first (null "++String.join (("PE:__x tP:__x lV:___|abe:?/PE:__x tF:__x NW:___|abd:?/PT:__x rV:__x Az:___|aa6:?/qU:___|mH: eU:? XR:??/PS:___|wQ:ari? sN:??? qN:? yp:? QL:??q Y2:ari? abb:?? Of:? QG:ari? yq:? Y4:? U0:???q Od:??q aba:?ari? Y6:??q CQ:vr?ff VZ:?? ds_asg:?? Y5:??? aa8:ari? aa9:??q Y3:? Js:ari? Y7:ari??q Y1:ari? XS:/PE:__x tQ:___|vQ:_ dvo:p dq:?/PE:__x tP:___|vP:_ CU: U_: Zb:?q acY:?? Jv:??? U9:? df:? Zc:aar? ac0: Ot:ry? X5:aa?? abn:???n abn:???r de_non: abj:? Za:?q de_and:?? acX:?? abh:? abi:? acZ:??? abf:??? abk:rry?? abm:?/PE:__x tF:___|U':? X6:aar? abg:??? Zd:?? V2:aa? X4:ry? Y':ry?/PE:__x tM:____|Oh:aa?? Jt:? U2:? V0:aa? acV:??? Y8:aar?? dm_callP:aar? dm_if:???/PA:__x F8:___|vB:?? Hy:/PA:__x SF:____|z9:?? QN:/PT:___|N_:???n N_:???r aa7:? XO:? PW.pt:?/PW:___|Y0:? aa5:?? aa4:? acS:??/PI:____|mI:? V1:ry? Y9:ry? di_items:? di_lt:? di_keys:? di_rev:ry?/PE:__x O1:____|Ze:aar? abo: abp:/Lk:___|aar: acj: aaq:/PO:___|XT:? XU:/PE:__x j8:_|pv:_/PG:__x F6:____|Y_:? abc:? XZ:?/Zh:___|WW:?? YF:/BN:___|ab9: YH: TZ: TY: aad: aac: YG: RO: ab8: aca: od_ge: aab: aaa: od_notB: od_isN: od_notN: W6: od_addT:|/BN:___|acb:a RP:a od_inD:a/PG:___|jb:ari Z4:r?".splitOn "/").map fun s=>
  let p:=s.splitOn "|"
  let h:="(T!show show "++((p.headD "").splitOn " ").foldr f "(M!hole _ ) "++") "
  let a:="(T!first first (null "++String.join (((p.getD 1 "").splitOn " ").map fun s=>"(group | "++q ("(T!refine refine "++f s "(M!hole _ ) "++") ")++") ")++") ) "
  let w(s:String):="(T!withReducible with_reducible "++q s++") "
  "(group | "++q (if p.length<3 then w h++"; "++a else w (h++"; "++a))++") ")++") ) ")++")") #[]
theorem Ŷ{p:Prop}(h:autoParam p Ŗ):p:=h
noncomputable def nr(i:Nat):d_:=PySem.Challenge.pw_earlysift_k11_whole_none_else_ever_answe.main.body.getD i (.Pass ⟨0,0,0,0⟩)
noncomputable abbrev vx:List (aJ×Sk):=[("by_name",.di),("by_text",.di),("leads",.li .lf)]
abbrev av:Sk :=.fs "Facts" vx
noncomputable abbrev qh:List (aJ×Sk):=[("rows",.li (.fs "Row" []))]
abbrev aE:Sk :=.fs "Coming" qh
abbrev QD:List (aJ×Sk):=[("coming",aE)]
abbrev gC:Sk :=.fs "Sift" QD
abbrev na:=eK (.int 1)
abbrev XV:=e2 m6 (bK "Facts" "bits" (eV 0)) na
def kC:DG:=(aU (gO Z_ 0 "Facts" "bits" (λi j=>i+j) na) (fE (mP (lV [0] [] (e2 p_ na XV)))))
def fB:List D->Option (D×D):=mo 1 1 av kC
abbrev Ù:=nr 5
abbrev mh:d_:=dU Ù 1
def pZ:bH ["self"] ["self"] (aF mh):=ű
abbrev u8:=eK (.int 0)
abbrev Do:=eK (.str (ae "*"))
abbrev kt:=eK (.str (ae "inner"))
abbrev ut:=xB (bK "Facts" "by_name" (eV 0)) (e2 bW (eV 1) na) u8
abbrev Î:=e2 gQ (e2 bW (eV 1) u8) kt
def jc:DG:=(aU (lC 2 (bR "Facts" "new_bit" av fB 0 kj)) (aU (gk (dB Î) (gO Z_ 0 "Facts" "inner" eN (eV 2)) eI) (aU (gk (dB (e2 gQ (e2 bW (eV 1) na) Do)) (aU (gO Z_ 0 "Facts" "starred" eN (eV 2)) (gO Z_ 0 "Facts" "stars" (λi j=>i+j) na)) (sh 0 "Facts" "by_name" (e2 bW (eV 1) na) (mP (lV [0] [] (e2 Fq ut (eV 2)))))) (fE (mP (eV 2))))))
def dX:List D->Option (D×D):=mo 2 3 av jc
abbrev j_:d_:=dU Ù 3
def nA:bH ["self","step","bit"] ["self","step"] (aF j_):=ű
abbrev wn:=ju (mP (eV 0)) kj
def mG:DG:=(fE (rH (iL (eV 1)) [M,Y 0] (gN 0) (bR "Facts" "enter_step" av dX 1 wn) 1 0 av))
def gm:List D->Option (D×D):=mo 2 2 av mG
abbrev lr:d_:=dU Ù 2
noncomputable abbrev t9:List aJ:=["self","steps"]
def se:bH t9 ["self","steps"] (aF lr):=ű
abbrev ww:=dB (e2 (Cf Z') (eV 1) (bK "Facts" "by_text" (eV 0)))
abbrev Ä:=sh 0 "Facts" "by_text" (eV 1) (bR "Facts" "new_bit" av fB 0 kj)
def f':DG:=(aU (gk (Az [0] [] ww) Ä eI) (fE (mP (lV [0] [] (e2 IH (bK "Facts" "by_text" (eV 0)) (eV 1))))))
def dF:List D->Option (D×D):=mo 2 2 av f'
abbrev j9:d_:=dU Ù 4
def ny:bH ["self","text"] ["self","text"] (aF j9):=ű
abbrev Á:=iu (aC (e2 Fq (e2 bW (eV 5) u8) (eV 7)) (aC (e2 bW (eV 5) na) aN))
def gx:DG:=(Mj 0 "Facts" "leads" (iu (aC (eV 6) (aC Á aN))))
abbrev sn:=aC (eV 3) aN
abbrev Ñ:=eF (LC (eV 2) (pS na) pN)
def nN:DG:=(aU (eP 4 (e2 f_ Ñ (eF (fQ sn)))) (iQ (iZ3 (eV 1) (eV 2) (eV 4)) (R6 5 6 7) gx))
def lO:List D->Option (D×D):=mo 4 8 av nN
abbrev pD:d_:=dU Ù 6
def tY:bH ["self","asks","bits","end","follows","ask","bit","follow"] ["self","asks","bits","end"] (aF pD):=ű
def iB:DG:=(aU (vf 1 eN (e2 bW (eV 3) u8)) (Im 2 (e2 bW (eV 3) na)))
abbrev wp:=aC (eV 2) aN
abbrev Ð:=fQ aN
def mF:DG:=(aU (eP 1 u8) (aU (jq 2 Ð) (aU (iQ (iL (eV 0)) (gN 3) iB) (iy (iu (aC (eV 1) wp))))))
def jw:List D->Option D:=mq 1 4 mF
abbrev om:d_:=nr 6
def r_:bH ["asks","need","choices","ask"] ["asks"] (aF om):=ű
section
variable {P:bE}{w:fw}{K:aX}{mg:aJ->Option aj}{base:dY}{f:aD}{fd:gw}
def wt(F:jy K "new_bit" "Facts.new_bit" mh f fd)(kk:KS K mg):cZ P w K mg base i7 1 f fd ["self"] (spT K av fB):=
 F.Eg (Z:=[0]) (Ź:=[0]) (g:=kC) pZ av ſ ſ λl6 A outer s H E hr B a hB=>
  let nd:=pZ.nd
  by walk_at "o"
def tL(F:jy K "enter_step" "Facts.enter_step" j_ f fd)(kk:KS K mg)(xU:gI P w K mg base "Facts" "new_bit" 1 (spT K av fB)):cZ P w K mg base i7 2 f fd ["self","step"] (spT K av dX):=
 F.Eg (Z:=[0]) (Ź:=[0]) (g:=jc) nA av ſ ſ λl6 A outer s H E hr B a hB=>
  let nd:=nA.nd
  (ax Ŷ (ax Ŷ (ax (sN Ŷ Ŷ (eU (ET (c:= "Facts") (zI hr) (pv 0) Ŷ (Jt (Oo [] [0] [] (Jv RO (dq (CV (zI hr) Ŷ Ŷ CU ⟨rfl,rfl,rfl,rfl⟩)) (vQ 2)))) kk.q))) Ŷ)))
def zc(F:jy K "enter" "Facts.enter" lr f fd)(Hh:gI P w K mg base "Facts" "enter_step" 2 (spT K av dX)):cZ P w K mg base i7 3 f fd ["self","steps"] (spT K av gm):=
 F.Eg (Z:=[0]) (Ź:=[0]) (g:=mG) se av ſ ſ λl6 A outer s H E hr B a hB=>
  let nd:=se.nd
  (eU (yp (Hv (i0:=1) (j0:=0) (s:=av) (N:=[("step" : aJ),("self" : aJ)]) (src:=[M,Y 0]) (lM (outer:=aF lr) (oN:=t9) rfl Ų rfl rfl) rfl (mI (vP 1)) (jE 0) ſ (sE _ 0 1) (λC s H ex=>⟨jb (i:=0) (show ([("step" : aJ),("self" : aJ)]:List aJ).Nodup by decide +kernel) rfl (nT rfl),nP,XW λB a hB=>Ŷ⟩))))
def tK(F:jy K "enter_text" "Facts.enter_text" j9 f fd)(kk:KS K mg)(xU:gI P w K mg base "Facts" "new_bit" 1 (spT K av fB)):cZ P w K mg base i7 2 f fd ["self","text"] (spT K av dF):=
 F.Eg (Z:=[0]) (Ź:=[0]) (g:=f') ny av ſ ſ λl6 A outer s H E hr B a hB=>
  let nd:=ny.nd
  (ax (sN (R_ [] [0] [] (K4 (zI hr) (vQ 1) Ŷ)) (eU (ET (c:= "Facts") (zI hr) (pv 0) (vP 1) Ŷ kk.q)) mH) (eU (yp (Jt (Oo [] [0] [] (QS (zI hr) Ŷ (vQ 1)))))))
def AF(F:jy K "lead" "Facts.lead" pD f fd)(kk:KS K mg):cZ P w K mg base i7 1 f fd ["self","asks","bits","end"] (spT K av lO):=
 F.Eg (Z:=[0]) (Ź:=[0]) (g:=nN) tY av ſ ſ λl6 A outer s H E hr B a hB=>
  let nd:=tY.nd
  (ax Ŷ (eU (CQ jF rfl (QO rfl kk.y (vP 1) (vP 2) (vP 4)) (λB hB=>Ŷ) (λB hB=>Ŷ))))
def za(F:jy K "joined_asks" "joined_asks" om f fd):cZ P w K mg base i7 1 f fd ["asks"] (jM K jw):=
 F.Bf (Z:=[2]) (Ź:=[2]) (g:=mF) r_ ſ λl6 A outer s H E hr B hB=>
  let nd:=r_.nd
  (ax Ŷ (ax Ŷ (ax Ŷ (uD (own1:=[]) 2 Ŷ))))
end
abbrev Uf:=eF Ð
abbrev lm:=eK (.str (ae "has"))
abbrev np:=ju (mP (e2 bW (eV 1) na)) kj
abbrev pu:=eK (.str (ae "text"))
abbrev Ç:=eK (.str (ae "one"))
abbrev È:=eK (.str (ae "any"))
abbrev å:=ju (mP Uf) kj
def dD(p:List D->Option (D×D))(q:List D->Option (D×D)):DG:=(aU (gk (dB (e2 gQ (e2 bW (eV 1) u8) È)) (fE (mP (iu (aC u8 (aC Uf aN))))) eI) (aU (gk (dB (e2 gQ (e2 bW (eV 1) u8) pu)) (fE (xR (ju (bR "Facts" "enter_text" av dF 0 np) å))) eI) (aU (gk (dB (e2 gQ (e2 bW (eV 1) u8) lm)) (fE (xR (ju (bR "Facts" "enter_has" av q 0 np) å))) eI) (aU (lC 2 (rH (iL (e2 bW (eV 1) na)) [M,Y 0] (gN 0) (bR "Facts" "asked" av p 1 wn) 1 0 av)) (aU (gk (dB (e2 gQ (e2 bW (eV 1) u8) Ç)) (fE (mP (iu (aC u8 (aC (eF (fQ wp)) aN))))) eI) (fE (mP (aW jw wp))))))))
abbrev lu:d_:=dU Ù 7
noncomputable abbrev t_:List aJ:=["self","wish","asks"]
def oE:bH t_ ["self","wish"] (aF lu):=ű
abbrev nb:=eK (.int 2)
abbrev UF:=ju (mP (e2 bW (eV 0) nb)) kj
abbrev Ã:=ju (mP u8) kj
def iI(p:List D->Option (D×D))(q:List D->Option (D×D)):DG:=(aU (lC 2 (bR "Facts" "enter" av gm 0 (ju (mP (eV 1)) kj))) (aU (f9 (bR "Facts" "lead" av lO 0 (ju (rH (iL (eV 1)) [M,Y 0] (gN 0) (bR "Facts" "asked" av p 1 UF) 1 0 av) (ju (mP (eV 2)) Ã)))) (fE (mP (e2 bW (eV 2) u8)))))
abbrev ja:d_:=dU Ù 5
noncomputable abbrev pq:List aJ:=["self","steps","bits"]
def oD:bH pq ["self","steps"] (aF ja):=ű
abbrev Rs:=aC (e2 bW (eV 0) nb) aN
def vw(p:List D->Option D)(q:List D->Option D):DG:=(mN (mx (iL (eV 0)) [M] (gN 0) gU (iu (aC (e2 bW (eV 0) u8) (aC (e2 bW (eV 0) na) (aC (aW q Rs) aN))))))
abbrev wa:d_:=nr 9
def A_:bH ["steps"] ["steps"] (aF wa):=ű
abbrev Tl:=aC (eV 0) aN
abbrev Þ:=eK (.str (ae "both"))
abbrev im:=aC Þ (aC Ç aN)
abbrev IR:=e2 gQ (e2 bW (eV 0) u8) lm
def fh(p:List D->Option D)(q:List D->Option D):DG:=(aU (gk (dB IR) (iy (iu (aC lm (aC (aW p (aC (e2 bW (eV 0) na) aN)) aN)))) eI) (aU (gk (dB (e2 à (e2 bW (eV 0) u8) (iu im))) (iy (iu (aC (e2 bW (eV 0) u8) (aC (eF (mx (iL (e2 bW (eV 0) na)) [M] (gN 0) gU (aW q Tl))) aN)))) eI) (iy (eV 0))))
abbrev oq:d_:=nr 10
def sd:bH ["wish"] ["wish"] (aF oq):=ű
abbrev pc:=aC (eV 1) aN
abbrev no:=e2 xm (e2 fZ (eV 1) (e2 bW (eV 0) u8)) (e2 bW (eV 0) u8)
abbrev dL:=iy (eK (.bl Z_))
abbrev è:=aC (eV 0) pc
def yn(p:List D->Option D):DG:=(aU (gk (dB no) dL eI) (iy (aW (gW Z') (aC (eF (mx (iL (e2 bW (eV 0) na)) [M,Y 1] (gN 0) gU (aW (gW Z_) (aC (eF (mx (iL (eV 0)) [M,Y 1] (gN 0) gU (aW p è))) aN)))) aN))))
abbrev yJ:d_:=nr 7
def DY:bH ["ask","atoms"] ["ask","atoms"] (aF yJ):=ű
abbrev Û:=eK (.bl Z')
def jQ(p:List D->Option D):DG:=(aU (gk (dB IR) (iy (aW (gW Z') (aC (eF (mx (iL (e2 bW (eV 0) na)) [M] (gN 0) gU (aW p Rs))) aN))) eI) (aU (gk (dB (e2 gQ (e2 bW (eV 0) u8) Þ)) (iy (aW (gW Z') (aC (eF (mx (iL (e2 bW (eV 0) na)) [M] (gN 0) gU (aW p Tl))) aN))) eI) (aU (gk (dB (e2 gQ (e2 bW (eV 0) u8) Ç)) (iy (aW (gW Z_) (aC (eF (mx (iL (e2 bW (eV 0) na)) [M] (gN 0) gU (aW p Tl))) aN))) eI) (iy Û))))
abbrev r4:d_:=nr 8
def xj:bH ["wish"] ["wish"] (aF r4):=ű
mutual
noncomputable def cH:Nat->List D->Option (D×D)
 |0=>λ_=>M
 |n+1=>mo 2 3 av (dD (cH n) (cP n))
noncomputable def cP:Nat->List D->Option (D×D)
 |0=>λ_=>M
 |n+1=>mo 2 3 av (iI (cH n) (cP n))
end
mutual
noncomputable def iY:Nat->List D->Option D
 |0=>λ_=>M
 |n+1=>mq 1 1 (vw (iY n) (cG n))
noncomputable def cG:Nat->List D->Option D
 |0=>λ_=>M
 |n+1=>mq 1 1 (fh (iY n) (cG n))
end
noncomputable def kz:Nat->List D->Option D
 |0=>λ_=>M
 |n+1=>mq 2 2 (yn (kz n))
noncomputable def dJ:Nat->List D->Option D
 |0=>λ_=>M
 |n+1=>mq 1 1 (jQ (dJ n))
section
variable {P:bE}{w:fw}{K:aX}{mg:aJ->Option aj}{base:dY}{f:aD}{fd:gw}
def zd{n:Nat}(F:jy K "asked" "Facts.asked" lu f fd)(Hg:gI P w K mg base "Facts" "enter_text" (n+3) (spT K av dF))(Jg:gI P w K mg base "Facts" "enter_has" (n+3) (spT K av (cP n)))(t6:gI P w K mg base "Facts" "asked" (n+3) (spT K av (cH n)))(O4:km P w K mg base "joined_asks" (n+3) (jM K jw)):cZ P w K mg base i7 (n+3+1) f fd ["self","wish"] (spT K av (cH (n+1))):=
 F.Eg (Z:=[0]) (Ź:=[0]) (g:=(dD (cH n) (cP n))) oE av ſ ſ λl6 A outer s H E hr B a hB=>
  let nd:=oE.nd
  (ax Ŷ (ax Ŷ (ax Ŷ (ax (Hu (i:=2) (i0:=1) (j0:=0) (s:=av) (N:=[("other" : aJ),("self" : aJ)]) (src:=[M,Y 0]) (lM (outer:=aF lu) (oN:=t_) rfl Ų rfl rfl) rfl oE.nd rfl rfl Ŷ (jE 0) ſ (sE _ 0 1) (λC s H ex=>⟨jb (i:=0) (show ([("other" : aJ),("self" : aJ)]:List aJ).Nodup by decide +kernel) rfl (nT rfl),nP,XW λB a hB=>Ŷ⟩)) Ŷ))))
def uu{n:Nat}(F:jy K "enter_has" "Facts.enter_has" ja f fd)(AJ:gI P w K mg base "Facts" "enter" (n+3) (spT K av gm))(CA:gI P w K mg base "Facts" "lead" (n+3) (spT K av lO))(t6:gI P w K mg base "Facts" "asked" (n+3) (spT K av (cH n))):cZ P w K mg base i7 (n+3+1) f fd ["self","steps"] (spT K av (cP (n+1))):=
 F.Eg (Z:=[0]) (Ź:=[0]) (g:=(iI (cH n) (cP n))) oD av ſ ſ λl6 A outer s H E hr B a hB=>
  let nd:=oD.nd
  (ax Ŷ (ax (Of (Oh CA hr (pv 0) (z9 (Hv (i0:=1) (j0:=0) (s:=av) (N:=[("step" : aJ),("self" : aJ)]) (src:=[M,Y 0]) (lM (outer:=aF ja) (oN:=pq) rfl Ų rfl rfl) rfl (mI (vP 1)) (jE 0) ſ (sE _ 0 1) (λC s H ex=>⟨jb (i:=0) (show ([("step" : aJ),("self" : aJ)]:List aJ).Nodup by decide +kernel) rfl (nT rfl),nP,XW λB a hB=>Ŷ⟩)) Ŷ))) Ŷ))
def Kr{n:Nat}(F:jy K "copied" "copied" wa f fd)(AI:km P w K mg base "copied_wish" (n+0) (jM K (cG n))):cZ P w K mg base i7 (n+0+1) f fd ["steps"] (jM K (iY (n+1))):=
 F.Bf (Z:=[]) (Ź:=[]) (g:=(vw (iY n) (cG n))) A_ ſ λl6 A outer s H E hr B hB=>
  let nd:=A_.nd
  (eU (yq (pJ ["step"] [M] (mI (vP 0)) λC s H ex=>Ŷ)))
def zb{n:Nat}(F:jy K "copied_wish" "copied_wish" oq f fd)(Nv:km P w K mg base "copied" (n+0) (jM K (iY n)))(AI:km P w K mg base "copied_wish" (n+0) (jM K (cG n))):cZ P w K mg base i7 (n+0+1) f fd ["wish"] (jM K (cG (n+1))):=
 F.Bf (Z:=[]) (Ź:=[]) (g:=(fh (iY n) (cG n))) sd ſ λl6 A outer s H E hr B hB=>
  let nd:=sd.nd
  (ax Ŷ (ax (sN Ŷ (eU (qN (U9 (vB Ŷ (vB (df (pJ ["other"] [M] Ŷ λC s H ex=>Ŷ)) Hy))))) mH) Ŷ))
def MP{n:Nat}(F:jy K "meets" "meets" yJ f fd)(kk:KS K mg)(Jc:km P w K mg base "meets" (n+0) (jM K (kz n))):cZ P w K mg base i7 (n+0+1) f fd ["ask","atoms"] (jM K (kz (n+1))):=
 F.Bf (Z:=[]) (Ź:=[]) (g:=(yn (kz n))) DY ſ λl6 A outer s H E hr B hB=>
  let nd:=DY.nd
  (ax Ŷ (eU (qN (Hx rfl rfl kk.y (dq (df (pJ ["choice","atoms"] [M,Y 1] Ŷ λC s H ex=>(Ou rfl rfl kk.y (dq (df (pJ ["other","atoms"] [M,Y 1] (mI (vP 0)) λC s H ex=>Ŷ)))))))))))
def Ee{n:Nat}(F:jy K "can_hold" "can_hold" r4 f fd)(kk:KS K mg)(Hf:km P w K mg base "can_hold" (n+0) (jM K (dJ n))):cZ P w K mg base i7 (n+0+1) f fd ["wish"] (jM K (dJ (n+1))):=
 F.Bf (Z:=[]) (Ź:=[]) (g:=(jQ (dJ n))) xj ſ λl6 A outer s H E hr B hB=>
  let nd:=xj.nd
  (ax (sN Ŷ (eU (qN (Hx rfl rfl kk.y (dq (df (pJ ["step"] [M] Ŷ λC s H ex=>Ŷ)))))) mH) (ax (sN Ŷ (eU (qN (Hx rfl rfl kk.y (dq (df (pJ ["other"] [M] Ŷ λC s H ex=>Ŷ)))))) mH) (ax (sN Ŷ (eU (qN (Ou rfl rfl kk.y (dq (df (pJ ["other"] [M] Ŷ λC s H ex=>Ŷ)))))) mH) Ŷ)))
def Ah:=iY 12
def vO:=kz 12
def qW:=dJ 12
def pM:=cH 12
abbrev Is:=sM 0 "Facts" "question"
def jZ:DG:=(aU (fV Z_ 0 "Facts" "question" (aW Ah pc)) (aU (fV Z_ 0 "Facts" "bits" u8) (aU (m3 0 "Facts" "by_name" .di Ë) (aU (m3 0 "Facts" "by_text" .di Ë) (aU (fV Z_ 0 "Facts" "starred" u8) (aU (fV Z_ 0 "Facts" "stars" u8) (aU (fV Z_ 0 "Facts" "inner" u8) (aU (m3 0 "Facts" "leads" (.li .lf) (eK (.lst []))) (aU (f9 (bR "Facts" "enter" av gm 0 (ju (mP Is) kj))) (Gm Z_ 0 "Facts" "asks" (rH (iL Is) [M,Y 0] (gN 0) (bR "Facts" "asked" av pM 1 UF) 1 0 av)))))))))))
def hR:List D->Option (D×D):=mo 2 2 av jZ
abbrev jA:d_:=dU Ù 0
noncomputable abbrev qp:List aJ:=["self","question"]
def o8:bH qp ["self","question"] (aF jA):=ű
def pf:DG:=(iy (e2 Fq (bK "Facts" "starred" (eV 0)) (xB (bK "Facts" "by_name" (eV 0)) (eV 1) u8)))
def fO:List D->Option D:=mq 2 2 pf
abbrev kK:d_:=dU Ù 8
def oB:bH ["self","name"] ["self","name"] (aF kK):=ű
def pb:DG:=(iy (xB (bK "Facts" "by_text" (eV 0)) (eV 1) u8))
def fN:List D->Option D:=mq 2 2 pb
abbrev kJ:d_:=dU Ù 9
def oA:bH ["self","text"] ["self","text"] (aF kJ):=ű
def hG:DG:=(gk (gj (ir (e2 fZ (eV 1) (eV 4))) (ir (aW vO (aC (eV 5) wp)))) (vf 3 eN (eV 4)) eI)
def lI:DG:=(aU (eP 3 (e2 fZ (eV 2) (bK "Facts" "inner" (eV 0)))) (aU (iQ (iL (bK "Facts" "leads" (eV 0))) (Du 4 5) hG) (iy (eV 3))))
def iZ:List D->Option D:=mq 3 6 lI
abbrev mW:d_:=dU Ù 10
def ri:bH ["self","named","atoms","up","bit","ask"] ["self","named","atoms"] (aF mW):=ű
def gE:DG:=(aU (eP 6 (e2 p_ na (eV 4))) (gk (gj (ir (e2 fZ (eV 1) (eV 6))) (ir (aW vO (aC (eV 5) wp)))) (vf 3 eN (eV 6)) eI))
def kD:DG:=(aU (eP 3 u8) (aU (iQ (iE (bK "Facts" "asks" (eV 0))) (Du 4 5) gE) (iy (eV 3))))
def gJ:List D->Option D:=mq 3 7 kD
abbrev mj:d_:=dU Ù 11
def p0:bH ["self","named","atoms","fits","place","ask","bit"] ["self","named","atoms"] (aF mj):=ű
abbrev pi:=eK (.str (ae "open"))
abbrev sB:=dB (e2 gQ (e2 bW (eV 0) u8) pi)
def zM:DG:=(aU (gk sB (iy (eOr (eV 1) (UZ (dB (eV 2))))) eI) (iy (eV 1)))
def mD:List D->Option D:=mq 3 3 zM
abbrev r8:d_:=nr 12
def xk:bH ["sign","within","begun"] ["sign","within","begun"] (aF r8):=ű
def sF:DG:=(aU (l9 0 "Row" "number" (eV 1)) (aU (l9 0 "Row" "named" (eV 2)) (aU (l9 0 "Row" "atoms" (eV 3)) (aU (l9 0 "Row" "fits" u8) (aU (l9 0 "Row" "reached" u8) (aU (l9 0 "Row" "reached_around" u8) (aU (l9 0 "Row" "hoped" u8) (l9 0 "Row" "hoped_around" u8))))))))
def jT:List D->Option (D×D):=runC 4 4 0 sF
abbrev mV:d_:=dU (nr 14) 0
def rg:bH ["self","number","named","atoms"] ["self","number","named","atoms"] (aF mV):=ű
abbrev Ps:=aC (e2 bW (eV 3) nb) aN
def jR:DG:=(gk (ir (aW qW Ps)) (vf 1 eN (e2 p_ na (eV 2))) eI)
def nM:DG:=(aU (eP 1 u8) (aU (iQ (iE (eV 0)) (Du 2 3) jR) (iy (eV 1))))
def j3:List D->Option D:=mq 1 4 nM
abbrev pB:d_:=nr 17
def tX:bH ["question","able","place","step"] ["question"] (aF pB):=ű
def vh(F:jy K "__init__" "Facts.__init__" jA f fd)(kk:KS K mg)(Nv:km P w K mg base "copied" 59 (jM K Ah))(AJ:gI P w K mg base "Facts" "enter" 59 (spT K av gm))(t6:gI P w K mg base "Facts" "asked" 59 (spT K av pM)):cZ P w K mg base i7 60 f fd ["self","question"] (spT K av hR):=
 F.Eg (Z:=[0]) (Ź:=[0]) (g:=jZ) o8 av ſ ſ λl6 A outer s H E hr B a hB=>
  let nd:=o8.nd
  (ax Ŷ (ax Ŷ (ax Ŷ (ax Ŷ (ax Ŷ (ax Ŷ (ax Ŷ (ax Ŷ (ax Ŷ (eU (Oe (b:=Z_) (c:= "Facts") (pv 0) (Hv (i0:=1) (j0:=0) (s:=av) (N:=[("step" : aJ),("self" : aJ)]) (src:=[M,Y 0]) (lM (outer:=aF jA) (oN:=qp) rfl Ų rfl rfl) rfl Ŷ (jE 0) ſ (sE _ 0 1) (λC s H ex=>⟨jb (i:=0) (show ([("step" : aJ),("self" : aJ)]:List aJ).Nodup by decide +kernel) rfl (nT rfl),nP,XW λB a hB=>Ŷ⟩)) kk.q)))))))))))
def ur(F:jy K "steps_for" "Facts.steps_for" kK f fd)(kk:KS K mg):cZ P w K mg base i7 1 f fd ["self","name"] (jM K fO):=
 F.Bf (Z:=[]) (Ź:=[]) (g:=pf) oB ſ λl6 A outer s H E hr B hB=>
  let nd:=oB.nd
  (eU (qN (Jv RO Ŷ (dq (CV (zI hr) Ŷ (vQ 1) CU ⟨rfl,rfl,rfl,rfl⟩)))))
def uq(F:jy K "text_fact" "Facts.text_fact" kJ f fd)(kk:KS K mg):cZ P w K mg base i7 1 f fd ["self","text"] (jM K fN):=
 F.Bf (Z:=[]) (Ź:=[]) (g:=pb) oA ſ λl6 A outer s H E hr B hB=>
  let nd:=oA.nd
  (eU (qN (CV (zI hr) Ŷ (vQ 1) CU ⟨rfl,rfl,rfl,rfl⟩)))
def xP(F:jy K "lifted" "Facts.lifted" mW f fd)(kk:KS K mg)(Jc:km P w K mg base "meets" 59 (jM K vO)):cZ P w K mg base i7 60 f fd ["self","named","atoms"] (jM K iZ):=
 F.Bf (Z:=[]) (Ź:=[]) (g:=lI) ri ſ λl6 A outer s H E hr B hB=>
  let nd:=ri.nd
  by walk_at "o"
def wu(F:jy K "fitting" "Facts.fitting" mj f fd)(kk:KS K mg)(Jc:km P w K mg base "meets" 59 (jM K vO)):cZ P w K mg base i7 60 f fd ["self","named","atoms"] (jM K gJ):=
 F.Bf (Z:=[]) (Ź:=[]) (g:=kD) p0 ſ λl6 A outer s H E hr B hB=>
  let nd:=p0.nd
  by walk_at "o"
def Ef(F:jy K "can_come" "can_come" r8 f fd):cZ P w K mg base i7 1 f fd ["sign","within","begun"] (jM K mD):=
 F.Bf (Z:=[]) (Ź:=[]) (g:=zM) xk ſ λl6 A outer s H E hr B hB=>
  let nd:=xk.nd
  by walk_at "o"
def xO(F:jy K "__init__" "Row.__init__" mV f fd)(kk:KS K mg):cZ P w K mg base i7 1 f fd ["self","number","named","atoms"] (VQ K 0 jT):=
 F.okC (Z:=[0]) (Ź:=[0]) (g:=sF) rg 0 ſ ſ λl6 A outer s H E hr B a hB=>
  let nd:=rg.nd
  by walk_at "o"
def AE(F:jy K "able_steps" "able_steps" pB f fd)(kk:KS K mg)(Hf:km P w K mg base "can_hold" 59 (jM K qW)):cZ P w K mg base i7 60 f fd ["question"] (jM K j3):=
 F.Bf (Z:=[]) (Ź:=[]) (g:=nM) tX ſ λl6 A outer s H E hr B hB=>
  let nd:=tX.nd
  by walk_at "o"
def Br:DG:=(aU (eP 0 (N7 "Row" jT (aC (e1 Ce na) (aC u8 (aC u8 aN))))) (aU (l9 0 "Row" "reached" na) (aU (l9 0 "Row" "reached_around" na) (aU (l9 0 "Row" "hoped" na) (aU (l9 0 "Row" "hoped_around" na) (Mh 0))))))
def tu:List D->Option D:=Rg 0 1 Br
abbrev ue:d_:=nr 16
def uk:bH ["row"] [] (aF ue):=ű
def qd:DG:=(iy (e2 p_ (e2 fZ (e2 Fq (eV 1) (e2 fZ (eV 2) (bK "Facts" "inner" (bK "Coming" "facts" (eV 0))))) (eV 3)) na))
def gf:List D->Option D:=mq 4 4 qd
abbrev Ï:=nr 15
abbrev lx:d_:=dU Ï 4
def o9:bH ["self","parent","around","fits"] ["self","parent","around","fits"] (aF lx):=ű
abbrev Ch:=eK (.int 3)
def jd:DG:=(aU (eP 3 (e2 bW (bK "Coming" "rows" (eV 0)) (e1 Ce na))) (aU (eP 4 (e2 fZ (e2 T4 (e2 Fq (e2 bW (eV 1) nb) (e2 bW (eV 1) Ch)) na) (bK "Row" "fits" (eV 2)))) (aU (eP 5 (e2 fZ (e2 fZ (eV 4) (e1 zg (bK "Facts" "inner" (bK "Coming" "facts" (eV 0))))) (bK "Row" "hoped" (eV 3)))) (aU (eP 6 (e2 fZ (e2 Fq (e2 fZ (eV 4) (bK "Facts" "inner" (bK "Coming" "facts" (eV 0)))) (e2 bW (eV 1) Ch)) (bK "Row" "hoped_around" (eV 3)))) (iy (iu (aC (e2 bW (eV 1) u8) (aC (e2 m6 (e2 bW (eV 1) na) na) (aC (eV 5) (aC (eV 6) aN))))))))))
def ie:List D->Option D:=mq 3 7 jd
abbrev ka:d_:=dU Ï 10
def nB:bH ["self","rest","row","parent","steps","own","around"] ["self","rest","row"] (aF ka):=ű
abbrev Ix:=e2 fZ (e2 fZ (bK "Row" "hoped" (eV 2)) (e1 zg (bK "Row" "reached" (eV 2)))) (bK "Coming" "full" (eV 0))
def hI:DG:=(gk (ir Ix) (nH 1 (bK "Row" "number" (eV 2))) eI)
def lJ:DG:=(aU (jq 1 (mx (iL (bK "Coming" "rests" (eV 0))) [M] (gN 0) gU (e2 bW (eV 0) u8))) (aU (iQ (iL (bK "Coming" "rows" (eV 0))) (gN 2) hI) (mN (m8 (eV 1)))))
def jU:List D->Option (List D):=xM 1 3 lJ
abbrev kA:d_:=dU Ï 11
noncomputable abbrev sT:List aJ:=["self","numbers","row"]
def mZ:bH sT ["self"] (aF kA):=ű
def GA(F:jy K "top_row" "top_row" ue f fd)(kk:KS K mg)(Ny:vK P w K mg base "Row" 1 (VQ K 0 jT)):cZ P w K mg base i7 3 f fd [] (WG K tu):=
 F.VS (Z:=[0]) (Ź:=[0]) (g:=Br) uk ſ λl6 A outer s H E hr B hB=>
  let nd:=uk.nd
  (ax (Js (i:=0) uk.nd rfl (.inl rfl) (Jw Ny hr rfl Ŷ)) Ŷ)
def vi(F:jy K "gone_on" "Coming.gone_on" lx f fd)(kk:KS K mg):cZ P w K mg base i7 1 f fd ["self","parent","around","fits"] (jM K gf):=
 F.Bf (Z:=[]) (Ź:=[]) (g:=qd) o9 ſ λl6 A outer s H E hr B hB=>
  let nd:=o9.nd
  by walk_at "o"
def tN(F:jy K "moved_out" "Coming.moved_out" ka f fd)(kk:KS K mg):cZ P w K mg base i7 1 f fd ["self","rest","row"] (jM K ie):=
 F.Bf (Z:=[]) (Ź:=[]) (g:=jd) nB ſ λl6 A outer s H E hr B hB=>
  let nd:=nB.nd
  by walk_at "o"
def xQ(F:jy K "waits" "Coming.waits" kA f fd)(kk:KS K mg):cZ P w K mg base i7 1 f fd ["self"] (yc K jU):=
 F.TX (Z:=[1]) (Ź:=[1]) (g:=lJ) mZ ſ λl6 A outer s H E hr B hB=>
  let nd:=mZ.nd
  (ax (By (i:=1) (Ź:=[]) (N:=[("rest" : aJ)]) (src:=[M]) (lM (outer:=aF kA) (oN:=sT) rfl Ų rfl rfl) rfl mZ.nd rfl rfl Ŷ (jE 0) ſ (lF 0) (λC s H ex=>⟨jb (i:=0) (show ([("rest" : aJ)]:List aJ).Nodup by decide +kernel) rfl (.inl rfl),nP,Ŷ⟩)) Ŷ)
abbrev Sc:=aC (bK "Facts" "question" (bK "Coming" "facts" (eV 0))) aN
abbrev æ:=e2 p_ na (aW fY Sc)
def jC:DG:=(aU (fV Z_ 0 "Coming" "facts" (oO "Facts" hR pc)) (aU (fV Z_ 0 "Coming" "full" (lV [0] [] æ)) (aU (fV Z_ 0 "Coming" "able" (lV [0] [] (aW j3 Sc))) (aU (fV Z_ 0 "Coming" "taken" u8) (aU (fV Z_ 0 "Coming" "opened" u8) (aU (m3 0 "Coming" "rows" (.li (.fs "Row" [])) (UY (N8 "Row" (λ_=>tu [])))) (fV Z_ 0 "Coming" "rests" Uf)))))))
def fP:List D->Option (D×D):=mo 2 2 aE jC
abbrev kL:d_:=dU Ï 0
def oG:bH ["self","question"] ["self","question"] (aF kL):=ű
def je:DG:=(aU (eP 4 (N7 "Row" jT (aC (eV 1) (aC (eV 2) sn)))) (aU (tZ 5 0 "Coming" "rows" (e1 Ce na)) (aU (l9 4 "Row" "fits" (lV [0] [5] (ji "Facts" "fitting" gJ (bK "Coming" "facts" (eV 0)) (aC (eV 2) sn)))) (aU (l9 4 "Row" "hoped" (lV [0] [5] (ji "Coming" "gone_on" gf (eV 0) (aC (bK "Row" "hoped" (eV 5)) (aC (bK "Row" "hoped_around" (eV 5)) (aC (e2 fZ (eV 2) (bK "Coming" "able" (eV 0))) aN)))))) (aU (l9 4 "Row" "hoped_around" (lV [0] [5] (e2 Fq (bK "Row" "hoped_around" (eV 5)) (bK "Row" "hoped" (eV 4))))) (B2 0 4 "Coming" "rows"))))))
def ig:List D->Option (D×D):=mo 4 6 aE je
abbrev kb:d_:=dU Ï 3
def kg:bH ["self","number","named","atoms","row","parent"] ["self","number","named","atoms"] (aF kb):=ű
abbrev TD:=e2 fZ (eV 4) (e1 zg (bK "Row" "atoms" (eV 5)))
def jD:DG:=(aU (tZ 3 0 "Coming" "rows" (eV 1)) (aU (fV Z' 3 "Row" "fits" (lV [0] [3,5] (ji "Facts" "fitting" gJ (bK "Coming" "facts" (eV 0)) (aC (bK "Row" "named" (eV 3)) (aC (bK "Row" "atoms" (eV 3)) aN))))) (aU (eP 4 (lV [0] [3,5] (ji "Facts" "lifted" iZ (bK "Coming" "facts" (eV 0)) (aC (bK "Row" "named" (eV 3)) (aC (bK "Row" "atoms" (eV 3)) aN))))) (aU (vf 1 (λi j=>i-j) na) (aU (tZ 5 0 "Coming" "rows" (eV 1)) (aU (eP 2 (lV [0] [3,5] (e2 xm TD u8))) (gO Z' 5 "Row" "atoms" eN (eV 4))))))))
abbrev Db:=aC (bK "Coming" "rows" (eV 0)) aN
abbrev FM:=dB (e2 vk (eV 1) u8)
abbrev ç:=e2 m6 (aW fY Db) na
def kE:DG:=(aU (eP 1 (lV [0] [3,5] ç)) (aU (eP 2 Û) (wj 1000000 (gj (ir (eV 2)) FM) jD)))
def dZ:List D->Option (D×D):=mo 1 6 aE kE
abbrev ml:d_:=dU Ï 6
def p6:bH ["self","place","changed","row","up","parent"] ["self"] (aF ml):=ű
def jf:DG:=(aU (tZ 2 0 "Coming" "rows" (e1 Ce na)) (gk (Az [0] [2] (ir (e2 fZ (eV 1) (e1 zg (bK "Row" "atoms" (eV 2)))))) (aU (gO Z' 2 "Row" "atoms" eN (eV 1)) (f9 (bR "Coming" "spread" aE dZ 0 kj))) eI))
def ij:List D->Option (D×D):=mo 2 3 aE jf
abbrev ke:d_:=dU Ï 5
def nC:bH ["self","atoms","row"] ["self","atoms"] (aF ke):=ű
def uv(F:jy K "__init__" "Coming.__init__" kL f fd)(kk:KS K mg)(YT:vK P w K mg base "Facts" 88 (spT K av hR))(Qw:km P w K mg base "able_steps" 89 (jM K j3))(KQ:km P w K mg base "top_row" 89 (WG K tu)):cZ P w K mg base i7 90 f fd ["self","question"] (spT K aE fP):=
 F.Eg (Z:=[0]) (Ź:=[0]) (g:=jC) oG aE ſ ſ λl6 A outer s H E hr B a hB=>
  let nd:=oG.nd
  (ax (QL (b:=Z_) (c:= "Coming") (pv 0) (Va Ŷ) kk.q) (ax Ŷ (ax Ŷ (ax Ŷ (ax Ŷ (ax (Od (c:= "Coming") (s1:=(.li (.fs "Row" []))) (pv 0) (Vc (QU (c:= "Row") (Ov KQ hr rfl))) kk.q) Ŷ))))))
def tO(F:jy K "begin_row" "Coming.begin_row" kb f fd)(kk:KS K mg)(Ny:vK P w K mg base "Row" 60 (VQ K 0 jT))(xV:gI P w K mg base "Facts" "fitting" 61 (jM K gJ))(wK:gI P w K mg base "Coming" "gone_on" 61 (jM K gf)):cZ P w K mg base i7 62 f fd ["self","number","named","atoms"] (spT K aE ig):=
 F.Eg (Z:=[0,4,5,1000005,2000000]) (Ź:=[0,4,5,1000005,2000000]) (g:=je) kg aE ſ ſ λl6 A outer s H E hr B a hB=>
  let nd:=kg.nd
  (ax (Js (i:=4) kg.nd rfl (.inl rfl) (Jw Ny hr rfl Ŷ)) (ax Ŷ (ax Ŷ (ax Ŷ (ax Ŷ (eU (Ob (c:= "Coming") (pv 0) (pv 4) kk.q)))))))
def wx(F:jy K "spread" "Coming.spread" ml f fd)(kk:KS K mg)(xV:gI P w K mg base "Facts" "fitting" 61 (jM K gJ))(NB:gI P w K mg base "Facts" "lifted" 61 (jM K iZ)):cZ P w K mg base i7 62 f fd ["self"] (spT K aE dZ):=
 F.Eg (Z:=[0,3,5,1000003,1000005,2000000]) (Ź:=[0,3,5,1000003,1000005,2000000]) (g:=kE) p6 aE ſ ſ λl6 A outer s H E hr B a hB=>
  let nd:=p6.nd
  (ax Ŷ (ax Ŷ (eU (ER 1000000 jF Ŷ Ŷ))))
def tR(F:jy K "add_atoms" "Coming.add_atoms" ke f fd)(kk:KS K mg)(xW:gI P w K mg base "Coming" "spread" 62 (spT K aE dZ)):cZ P w K mg base i7 63 f fd ["self","atoms"] (spT K aE ij):=
 F.Eg (Z:=[0,2,1000002,2000000]) (Ź:=[0,2,1000002,2000000]) (g:=jf) nC aE ſ ſ λl6 A outer s H E hr B a hB=>
  let nd:=nC.nd
  by walk_at "o"
abbrev sK:=e2 fZ (e2 fZ (bK "Row" "reached" (eV 4)) (e1 zg (eV 5))) (bK "Coming" "full" (eV 0))
def iK:DG:=(aU (tZ 3 0 "Coming" "rows" (e2 m6 (eV 2) na)) (aU (tZ 4 0 "Coming" "rows" (eV 2)) (aU (eP 5 (lV [0] [4,3] (bK "Row" "reached" (eV 4)))) (aU (fV Z' 4 "Row" "reached" (lV [0] [4,3] (ji "Coming" "gone_on" gf (eV 0) (aC (bK "Row" "reached" (eV 3)) (aC (bK "Row" "reached_around" (eV 3)) (aC (bK "Row" "fits" (eV 4)) aN)))))) (aU (fV Z' 4 "Row" "reached_around" (lV [0] [4,3] (e2 Fq (bK "Row" "reached_around" (eV 3)) (bK "Row" "reached" (eV 4))))) (gk (Az [0] [4,3] (ir sK)) (nH 1 (lV [0] [4,3] (bK "Row" "number" (eV 4)))) eI))))))
abbrev Õ:=lV [0] [4,3] (aW fY Db)
def kF:DG:=(aU (jq 1 Ð) (aU (iQ (RW na Õ) (gN 2) iK) (Mh 1)))
def kI:List D->Option (List D×D):=Ip 1 6 aE kF
abbrev mm:d_:=dU Ï 7
def p7:bH ["self","found","place","parent","row","ahead"] ["self"] (aF mm):=ű
abbrev wr:=e2 fZ (bK "Row" "reached_around" (eV 4)) (e2 bW (eV 3) Ch)
abbrev xz:=e2 fZ (bK "Row" "reached" (eV 4)) (e2 bW (eV 3) nb)
def e_:DG:=(aU (tZ 4 0 "Coming" "rows" (e2 bW (eV 3) na)) (gk (Az [0] [4] (v_ (ir xz) (ir wr))) (nH 1 (e2 bW (eV 3) u8)) (nH 2 (eV 3))))
abbrev Ý:=sM 0 "Coming" "rests"
def iR:DG:=(aU (yW 1 0 "Coming" "settle" aE kI) (aU (jq 2 Ð) (aU (iQ (iL Ý) (gN 3) e_) (aU (fV Z_ 0 "Coming" "rests" (eV 2)) (fE (mP (eF (m8 (eV 1)))))))))
def eQ:List D->Option (D×D):=mo 1 5 aE iR
abbrev jL:d_:=dU Ï 8
def jN:bH ["self","found","kept","rest","row"] ["self"] (aF jL):=ű
abbrev É:=e2 gQ (e2 bW (eV 5) na) (eV 2)
def gc:DG:=(aU (eP 6 (lV [0,1] [] (QF (dB É) (ji "Coming" "moved_out" ie (eV 0) (aC (eV 5) pc)) (eV 5)))) (gk (v_ (ir (e2 bW (eV 6) nb)) (ir (e2 bW (eV 6) Ch))) (nH 4 (eV 6)) eI))
abbrev wE:=iu (aC (bK "Row" "number" (eV 1)) (aC (eV 2) (aC (bK "Coming" "full" (eV 0)) (aC u8 aN))))
abbrev Æ:=e2 fZ (bK "Row" "reached" (eV 1)) (bK "Coming" "full" (eV 0))
def j1:DG:=(aU (D0 1 0 "Coming" "rows") (aU (eP 2 (lV [0] [] (aW fY Db))) (aU (jq 3 (zS Ý)) (aU (gk (Az [0] [] (u4 (ir Æ))) (nH 3 (lV [0] [] wE)) eI) (aU (jq 4 Ð) (aU (iQ (iL (eF (zR (eV 3)))) (gN 5) gc) (fV Z_ 0 "Coming" "rests" (eV 4))))))))
def hU:List D->Option (D×D):=mo 1 7 aE j1
abbrev ly:d_:=dU Ï 9
def lB:bH ["self","row","place","rests","kept","rest","moved"] ["self"] (aF ly):=ű
def wz(F:jy K "settle" "Coming.settle" mm f fd)(kk:KS K mg)(wK:gI P w K mg base "Coming" "gone_on" 61 (jM K gf)):cZ P w K mg base i7 62 f fd ["self"] (L6 K aE kI):=
 F.Z9 (Z:=[0,1,4,3,1000004,1000003,2000000]) (Ź:=[0,1,4,3,1000004,1000003,2000000]) (g:=kF) p7 aE ſ ſ λl6 A outer s H E hr B a hB=>
  let nd:=p7.nd
  (ax Ŷ (ax (CQ jF rfl (K6 rfl kk.y (dq CU) Ŷ) (λB hB=>Ŷ) (λB hB=>Ŷ)) Ŷ))
def sq(F:jy K "newly_told" "Coming.newly_told" jL f fd)(kk:KS K mg)(xX:gI P w K mg base "Coming" "settle" 62 (L6 K aE kI)):cZ P w K mg base i7 63 f fd ["self"] (spT K aE eQ):=
 F.Eg (Z:=[0,1,2,4,1000004,2000000]) (Ź:=[0,1,2,4,1000004,2000000]) (g:=iR) jN aE ſ ſ λl6 A outer s H E hr B a hB=>
  let nd:=jN.nd
  (ax (N' (i:=1) jN.nd rfl (.inl rfl) xX hr (pv 0)) (ax Ŷ (ax Ŷ (uD (own1:=[0,1,4,1000004,2000000]) 2 Ŷ))))
def vj(F:jy K "end_row" "Coming.end_row" ly f fd)(kk:KS K mg)(Hi:gI P w K mg base "Coming" "moved_out" 61 (jM K ie)):cZ P w K mg base i7 62 f fd ["self"] (spT K aE hU):=
 F.Eg (Z:=[0,1,3,4]) (Ź:=[0,1,3]) (g:=j1) lB aE ſ ſ λl6 A outer s H E hr B a hB=>
  let nd:=lB.nd
  (ax (QH (i:=1) (c:= "Coming") lB.nd rfl (.inl rfl) (pv 0) kk.q) (ax Ŷ (ax Ŷ (ax Ŷ (ax Ŷ (ax (CQ jF rfl (mI (df (Oq rfl kk.y (dvo (pv 3))))) (λB hB=>Ŷ) (λB hB=>Ŷ)) (uD (own1:=[0,1,3]) 4 Ŷ)))))))
abbrev Re:=eK (.str (ae "close"))
abbrev lw:=aC (e2 bW (eV 1) na) aN
abbrev IN:=lV [0] [] (bK "Coming" "opened" (eV 0))
abbrev io:=ju (mP IN) (ju (mP (lV [0] [] (ji "Facts" "steps_for" fO (bK "Coming" "facts" (eV 0)) lw))) Ã)
abbrev pp:=aC (e2 vk (bK "Coming" "opened" (eV 0)) u8) aN
abbrev At:=ju (mP (lV [0] [] (ji "Facts" "text_fact" fN (bK "Coming" "facts" (eV 0)) lw))) kj
abbrev kw:=aC (eV 1) (aC (e2 vk (aW fY Db) na) pp)
abbrev PP:=e2 gQ (e2 bW (eV 1) u8) pi
abbrev EQ:=e2 gQ (e2 bW (eV 1) u8) Re
def g9:DG:=(aU (gk (Az [0] [] (u4 (ir (aW mD kw)))) Gj eI) (aU (gO Z_ 0 "Coming" "taken" (λi j=>i+j) na) (aU (gk (dB EQ) (aU (f9 (bR "Coming" "end_row" aE hU 0 kj)) (fE (mP Uf))) eI) (aU (gk (dB PP) (aU (f9 (bR "Coming" "begin_row" aE ig 0 io)) (aU (gO Z_ 0 "Coming" "opened" (λi j=>i+j) na) (f9 (bR "Coming" "spread" aE dZ 0 kj)))) (f9 (bR "Coming" "add_atoms" aE ij 0 At))) (fE (bR "Coming" "newly_told" aE eQ 0 kj))))))
def gn:List D->Option (D×D):=mo 2 2 aE g9
abbrev ou:d_:=dU Ï 1
def sf:bH ["self","sign"] ["self","sign"] (aF ou):=ű
def kB:DG:=(aU (m3 0 "Sift" "coming" aE (oO "Coming" fP pc)) (fV Z_ 0 "Sift" "numbers" Uf))
def kH:List D->Option (D×D):=mo 2 2 gC kB
abbrev mf:d_:=dU (nr 19) 0
def pY:bH ["self","question"] ["self","question"] (aF mf):=ű
abbrev AC:=m8 (e2 f_ (bK "Sift" "numbers" (eV 0)) (eV 2))
def pa:DG:=(aU (lC 2 (qK "Sift" "coming" "Coming" "feed" aE gn 0 pc)) (aU (fV Z_ 0 "Sift" "numbers" (eF (NW [0] [] AC))) (fE (mP (eV 2)))))
def lb:List D->Option (D×D):=mo 2 3 gC pa
abbrev qC:d_:=dU (nr 19) 1
def qE:bH ["self","sign","fresh"] ["self","sign"] (aF qC):=ű
def xy:DG:=(mN (zS (bK "Sift" "numbers" (eV 0))))
def pw:List D->Option (List D):=xM 1 1 xy
abbrev qB:d_:=dU (nr 19) 2
def vc:bH ["self"] ["self"] (aF qB):=ű
def lH:DG:=(mN (sL "Coming" "waits" jU (bK "Sift" "coming" (eV 0))))
def lN:List D->Option (List D):=xM 1 1 lH
abbrev mU:d_:=dU (nr 19) 3
def rd:bH ["self"] ["self"] (aF mU):=ű
def ze(F:jy K "feed" "Coming.feed" ou f fd)(kk:KS K mg)(UL:km P w K mg base "can_come" 63 (jM K mD))(KW:gI P w K mg base "Coming" "end_row" 63 (spT K aE hU))(Hj:gI P w K mg base "Coming" "begin_row" 63 (spT K aE ig))(xW:gI P w K mg base "Coming" "spread" 63 (spT K aE dZ))(Hk:gI P w K mg base "Coming" "add_atoms" 63 (spT K aE ij))(Fu:gI P w K mg base "Coming" "newly_told" 63 (spT K aE eQ))(Jf:gI P w K mg base "Facts" "steps_for" 63 (jM K fO))(Je:gI P w K mg base "Facts" "text_fact" 63 (jM K fN)):cZ P w K mg base i7 64 f fd ["self","sign"] (spT K aE gn):=
 F.Eg (Z:=[0]) (Ź:=[0]) (g:=g9) sf aE ſ ſ λl6 A outer s H E hr B a hB=>
  let nd:=sf.nd
  by walk_at "o"
def wq(F:jy K "__init__" "Sift.__init__" mf f fd)(kk:KS K mg)(XB:vK P w K mg base "Coming" 90 (spT K aE fP)):cZ P w K mg base i7 92 f fd ["self","question"] (spT K gC kH):=
 F.Eg (Z:=[0]) (Ź:=[0]) (g:=kB) pY gC ſ ſ λl6 A outer s H E hr B a hB=>
  let nd:=pY.nd
  by walk_at "o"
def Cd(F:jy K "take" "Sift.take" qC f fd)(kk:KS K mg)(AK:gI P w K mg base "Coming" "feed" 64 (spT K aE gn)):cZ P w K mg base i7 65 f fd ["self","sign"] (spT K gC lb):=
 F.Eg (Z:=[0]) (Ź:=[0]) (g:=pa) qE gC ſ ſ λl6 A outer s H E hr B a hB=>
  let nd:=qE.nd
  (ax (QG (i:=2) qE.nd rfl (.inl rfl) (K5 (c:= "Sift") (fk1:=qh) AK hr kk.q (pv 0) Ŷ)) Ŷ)
def Cc(F:jy K "told" "Sift.told" qB f fd)(kk:KS K mg):cZ P w K mg base i7 1 f fd ["self"] (yc K pw):=
 F.TX (Z:=[]) (Ź:=[]) (g:=xy) vc ſ λl6 A outer s H E hr B hB=>
  let nd:=vc.nd
  by walk_at "o"
def xN(F:jy K "waiting" "Sift.waiting" mU f fd)(kk:KS K mg)(NC:gI P w K mg base "Coming" "waits" 1 (yc K jU)):cZ P w K mg base i7 2 f fd ["self"] (yc K lN):=
 F.TX (Z:=[]) (Ź:=[]) (g:=lH) rd ſ λl6 A outer s H E hr B hB=>
  let nd:=rd.nd
  by walk_at "o"
def ts:DG:=(aU (gk (dB (e2 xG (eV 1) (aW fY Tl))) (iy (e2 bW (eV 0) (eV 1))) eI) (iy u8))
def j2:List D->Option D:=mq 2 2 ts
abbrev ug:d_:=nr 21
def yU:bH ["_law_script","_law_k"] ["_law_script","_law_k"] (aF ug):=ű
def NL:DG:=(aU (eP 2 (e2 gB (e2 mu (e2 f_ (e2 f_ (e2 gB (eV 0) (eK (.int 2147483647))) (e2 mu (e2 mu (eV 1) (eV 1)) (eK (.int 7919)))) (eK (.int 104729))) (eK (.int 48271))) (eK (.int 2147483647)))) (iy (e2 gB (e2 f_ (e2 mu (eV 2) (eV 2)) (e2 mu (eK (.int 69621)) (eV 1))) (eK (.int 2147483629)))))
def sU:List D->Option D:=mq 2 3 NL
abbrev Gb:d_:=nr 22
def Mg:bH ["_law_cell","_law_turn","_law_number"] ["_law_cell","_law_turn"] (aF Gb):=ű
abbrev â:=eK (.int 2147483587)
def wZ:DG:=(aU (eP 7 (e2 gB (eV 6) (aW fY (aC (eV 5) aN)))) (aU (nH 4 (e2 gB (e2 bW (eV 5) (eV 7)) â)) (Mi 5 (eV 7) (e2 iU (e2 bW (eV 5) (eV 7)) â))))
def wY:DG:=(eP 8 (e2 gB (e2 f_ (e2 mu (eV 8) (eK (.int 31))) (aW sU (aC (eV 9) (aC (e2 f_ (eV 6) (eV 1)) aN)))) (eK (.int 2147483629))))
abbrev Tk:=eK (.int 7)
def wX:DG:=(aU (eP 10 (aW sU (aC (e2 bW (eV 3) (e2 gB (eV 6) (aW fY sn))) (aC (e2 f_ (e2 f_ (e2 gB (eV 8) (eK (.int 1009))) (eV 6)) (eV 1)) aN)))) (nH 4 (e2 gB (e2 f_ (e2 mu (eV 10) (eV 10)) (e2 mu Tk (eV 6))) â)))
def CG:DG:=(aU (eP 3 (e2 f_ (eF (LC (eV 0) pN (pS (eK (.int 63))))) (eF (fQ pc)))) (aU (jq 4 Ð) (aU (gk (dB (e2 gQ (e2 gB (e2 iU (e2 bW (eV 3) u8) (eK (.int 50000))) nb) na)) (aU (jq 5 (mx (iL (eV 3)) [M] (gN 0) gU (e2 iU (eV 0) (eK (.int 100000))))) (aU (iQ (Ft (e2 f_ (e2 f_ (eV 1) (eV 2)) na)) (gN 6) wZ) (aU (jq 4 (LC (eV 4) (pS (eV 1)) pN)) (mN (LC (eV 4) pN (pS (e2 f_ na (e2 gB (e2 bW (eV 4) (eV 2)) (eV 2))))))))) eI) (aU (eP 8 u8) (aU (iQ (iE (eV 3)) (Du 6 9) wY) (aU (iQ (Ft (e2 f_ na (e2 gB (e2 iU (eV 8) (eK (.int 1009))) (eV 2)))) (gN 6) wX) (Ba 4)))))))
def iq:List D->Option (List D):=xM 3 11 CG
abbrev u7:d_:=nr 23
noncomputable abbrev JR:List aJ:=["_law_script","_law_turn","_law_most","_law_cells_here","_law_found","_law_lefts","_law_k","_law_at","_law_number","_law_cell","_law_other"]
def yS:bH JR ["_law_script","_law_turn","_law_most"] (aF u7):=ű
def CF:DG:=(aU (eP 1 (e2 bW (eF (j6 iq (aC (eV 0) (aC (eK (.int 40)) (aC na aN))))) u8)) (aU (eP 2 (K3 (eK (.str (ae "abcdefabcde"))) pN (pS (e2 gB (eV 1) (eK (.int 12)))))) (aU (eP 3 (e2 gB (e2 iU (eV 1) (eK (.int 12))) (e2 f_ (aW fY wp) na))) (mN (mx (iS (eK (.str (ae "mnopq")))) [M,Y 2,Y 3] (gN 0) gU (e2 f_ (e2 f_ (K3 (eV 1) pN (pS (eV 2))) (eV 0)) (K3 (eV 1) (pS (eV 2)) pN)))))))
def vN:List D->Option D:=mq 1 4 CF
abbrev yI:d_:=nr 24
def vb:bH ["_law_script","_law_number","_law_stem","_law_at"] ["_law_script"] (aF yI):=ű
abbrev am:=eK (.int 5)
abbrev wv:=e2 iU (eV 8) Tk
abbrev wP:=iu (aC Re aN)
abbrev FS:=eP 9 (e2 gB (e2 f_ (eV 8) (e2 mu (e2 mu (eV 5) (e2 gB (eV 6) nb)) am)) Tk)
abbrev UV:=iu (aC pi (aC (e2 bW (eV 1) (e2 gB (e2 gB wv (eK (.int 11))) am)) aN))
abbrev Â:=gj (dB (e2 gQ (eV 4) na)) (dB (e2 gQ (e2 gB wv (eK (.int 6))) u8))
abbrev Ê:=dB (e2 vk (eV 4) u8)
abbrev Ô:=iu (aC pu (aC (e2 bW (eV 2) (e2 gB wv am)) aN))
abbrev Ú:=eP 4 (e2 f_ (eV 4) na)
def wW:DG:=(aU (eP 8 (eV 7)) (aU (gk (dB (e2 gQ (eV 6) u8)) (eP 5 (e2 gB wv Ch)) eI) (aU FS (gk (v_ (dB (e2 gQ (eV 3) Uf)) (gj (dB (e2 xG (eV 9) Ch)) Ê)) (aU (nH 3 UV) Ú) (gk (gj (dB (e2 xG (eV 9) am)) Ê) (nH 3 Ô) (gk (v_ (dB (e2 vk (eV 4) na)) Â) (aU (nH 3 wP) (eP 4 (e2 m6 (eV 4) na))) eI))))))
abbrev ge:=eF (fQ (aC (eK (.str (ae "x"))) (aC (eK (.str (ae ""))) (aC (eK (.str (ae "y x"))) (aC (eK (.str (ae "\""))) (aC (eK (.str (ae "[a]"))) aN))))))
def CD:DG:=(aU (eP 2 ge) (aU (jq 3 Ð) (aU (eP 4 u8) (aU (eP 5 u8) (aU (iQ (iE (eV 0)) (Du 6 7) wW) (Ba 3))))))
def vM:List D->Option (List D):=xM 2 10 CD
abbrev yG:d_:=nr 25
def DX:bH ["_law_cells_here","_law_some","_law_texts","_law_signs_here","_law_depth_here","_law_lean","_law_k","_law_cell","_law_number","_law_kind"] ["_law_cells_here","_law_some"] (aF yG):=ű
abbrev AT:=eF (mx (iL (eV 0)) [M] (gN 0) (dB (e2 gQ (e2 bW (eV 0) u8) Re)) (eV 0))
abbrev Ó:=aC (eF (mx (iL (eV 0)) [M] (gN 0) sB (eV 0))) aN
def yo:DG:=(iy (e2 m6 (aW fY Ó) (aW fY (aC AT aN))))
def mJ:List D->Option D:=mq 1 1 yo
abbrev rZ:d_:=nr 27
noncomputable abbrev Dg:List aJ:=["_law_signs_here"]
def DZ:bH Dg ["_law_signs_here"] (aF rZ):=ű
def R5:DG:=(aU (gk (dB (e2 gQ (eV 0) Uf)) (fE (mP u8)) eI) (fE (Ud 0)))
def Ag:List D->Option (D×List D):=B4 1 1 0 R5
abbrev Ga:d_:=nr 31
def Mf:bH ["_law_draws"] ["_law_draws"] (aF Ga):=ű
def GC(F:jy K "_law_cell_at" "_law_cell_at" ug f fd)(kk:KS K mg):cZ P w K mg base i7 1 f fd ["_law_script","_law_k"] (jM K j2):=
 F.Bf (Z:=[]) (Ź:=[]) (g:=ts) yU ſ λl6 A outer s H E hr B hB=>
  let nd:=yU.nd
  by walk_at "o"
def TU(F:jy K "_law_mix" "_law_mix" Gb f fd):cZ P w K mg base i7 1 f fd ["_law_cell","_law_turn"] (jM K sU):=
 F.Bf (Z:=[]) (Ź:=[]) (g:=NL) Mg ſ λl6 A outer s H E hr B hB=>
  let nd:=Mg.nd
  by walk_at "o"
def MS(F:jy K "_law_cells" "_law_cells" u7 f fd)(kk:KS K mg)(XA:km P w K mg base "_law_mix" 1 (jM K sU)):cZ P w K mg base i7 2 f fd ["_law_script","_law_turn","_law_most"] (yc K iq):=
 F.TX (Z:=[4,5]) (Ź:=[4,5]) (g:=CG) yS ſ λl6 A outer s H E hr B hB=>
  let nd:=yS.nd
  (ax Ŷ (ax Ŷ (ax (sN Ŷ (ax (By (i:=5) (Ź:=[]) (N:=[("_law_cell" : aJ)]) (src:=[M]) (lM (outer:=aF u7) (oN:=JR) rfl Ų rfl rfl) rfl yS.nd rfl rfl (mI (vP 3)) (jE 0) ſ (lF 0) (λC s H ex=>⟨jb (i:=0) (show ([("_law_cell" : aJ)]:List aJ).Nodup by decide +kernel) rfl (.inl rfl),nP,Ŷ⟩)) Ŷ) mH) Ŷ)))
def MO(F:jy K "_law_names" "_law_names" yI f fd)(kk:KS K mg)(Jd:km P w K mg base "_law_cells" 2 (yc K iq)):cZ P w K mg base i7 3 f fd ["_law_script"] (jM K vN):=
 F.Bf (Z:=[]) (Ź:=[]) (g:=CF) vb ſ λl6 A outer s H E hr B hB=>
  let nd:=vb.nd
  (ax Ŷ (ax (wQ (i:=2) vb.nd rfl (.inr rfl) Ŷ) (ax (wQ (i:=3) vb.nd rfl (.inr rfl) Ŷ) (eU (yq (pJ ["_law_letter","_law_stem","_law_at"] [M,Y 2,Y 3] (U7 U_) λC s H ex=>Ŷ))))))
def MM(F:jy K "_law_signs" "_law_signs" yG f fd)(kk:KS K mg):cZ P w K mg base i7 1 f fd ["_law_cells_here","_law_some"] (yc K vM):=
 F.TX (Z:=[3]) (Ź:=[3]) (g:=CD) DX ſ λl6 A outer s H E hr B hB=>
  let nd:=DX.nd
  by walk_at "o"
def MR(F:jy K "_law_depth" "_law_depth" rZ f fd)(kk:KS K mg):cZ P w K mg base i7 1 f fd ["_law_signs_here"] (jM K mJ):=
 F.Bf (Z:=[]) (Ź:=[]) (g:=yo) DZ ſ λl6 A outer s H E hr B hB=>
  let nd:=DZ.nd
  (eU (qN (Jv TY (dq (Ot rfl kk.y (dq (df (BC (Ź:=[]) (N:=[("_law_sign" : aJ)]) (src:=[M]) (lM (outer:=aF rZ) (oN:=Dg) rfl Ų rfl rfl) rfl (mI (vP 0)) (jE 0) ſ (lF 0) (λC s H ex=>⟨jb (i:=0) (show ([("_law_sign" : aJ)]:List aJ).Nodup by decide +kernel) rfl (.inl rfl),(vy Ŷ),(vP 0)⟩)))))) (dq (Ot rfl kk.y (dq (df (BC (Ź:=[]) (N:=[("_law_sign" : aJ)]) (src:=[M]) (lM (outer:=aF rZ) (oN:=Dg) rfl Ų rfl rfl) rfl (mI (vP 0)) (jE 0) ſ (lF 0) (λC s H ex=>⟨jb (i:=0) (show ([("_law_sign" : aJ)]:List aJ).Nodup by decide +kernel) rfl (.inl rfl),(vy Ŷ),(vP 0)⟩)))))))))
def TQ(F:jy K "_law_pop" "_law_pop" Ga f fd):cZ P w K mg base i7 1 f fd ["_law_draws"] (Ds K 0 Ag):=
 F.uV (Z:=[0]) (Ź:=[0]) (g:=R5) Mf 0 ſ ſ λl6 A outer s H E hr B a hB=>
  let nd:=Mf.nd
  (ax Ŷ (eU (yp (U4 (pv 0)))))
end
abbrev xL:=eK (.str (ae "own"))
def CC(p:List D->Option (D×List D))(q:List D->Option (D×List D)):DG:=(aU (lC 3 (su Ag 0 aN)) (aU (eP 4 (e2 gB (eV 3) (eK (.int 8)))) (aU (gk (v_ (dB (e2 xG (eV 4) nb)) (gj (dB (e2 gQ (eV 1) u8)) (dB (e2 vk (eV 4) nb)))) (fE (mP (iu (aC È aN)))) eI) (aU (gk (dB (e2 gQ (eV 4) nb)) (fE (mP (iu (aC pu (aC (e2 bW ge (e2 gB (e2 iU (eV 3) (eK (.int 8))) am)) aN))))) eI) (aU (gk (dB (e2 xG (eV 4) am)) (fE (xR (ju (mP lm) (ju (su q 0 (aC (e2 m6 (eV 1) na) wp)) kj)))) eI) (aU (gk (dB (e2 gQ (eV 4) am)) (fE (mP (iu (aC lm (aC (eF (fQ (aC (iu (aC xL (aC Do (aC (iu (aC È aN)) aN)))) aN))) aN))))) eI) (fE (xR (ju (mP (e2 bW (eF (fQ im)) (e2 m6 (eV 4) (eK (.int 6))))) (ju (Xb (Ft (e2 gB (e2 iU (eV 3) (eK (.int 8))) (eK (.int 4)))) [M,Y 0,Y 2,Y 1] (gN 0) (su p 1 (aC (e2 m6 (eV 3) na) wp)) 1 0) kj))))))))))
abbrev yb:d_:=nr 32
noncomputable abbrev OQ:List aJ:=["_law_draws","_law_deep","_law_some","_law_number","_law_kind"]
def Ik:bH OQ ["_law_draws","_law_deep","_law_some"] (aF yb):=ű
def wV(p:List D->Option (D×List D))(q:List D->Option (D×List D)):DG:=(aU (lC 5 (su Ag 0 aN)) (aU (eP 6 (e2 bW (e2 f_ (eF (LC (eV 2) pN (pS (eK (.int 4))))) (eF (fQ (aC Do (aC Do (aC Do aN)))))) (e2 gB (e2 iU (eV 5) nb) Tk))) (Ml 3 (xR (ju (mP (e2 bW (eF (fQ (aC xL (aC kt aN)))) (e2 gB (eV 5) nb))) (ju (mP (eV 6)) (ju (su p 0 (aC (eV 1) wp)) kj)))))))
def ym(p:List D->Option (D×List D))(q:List D->Option (D×List D)):DG:=(aU (jq 3 Ð) (aU (Bb (iRM (m2 f_ (mP na) (m2 gB (su Ag 0 aN) (mP Ch)))) (gN 4) (wV p q)) (Gi 3)))
abbrev yE:d_:=nr 33
def DW:bH ["_law_draws","_law_deep","_law_some","_law_steps_here","_law_k","_law_number","_law_name"] ["_law_draws","_law_deep","_law_some"] (aF yE):=ű
mutual
noncomputable def ip:Nat->List D->Option (D×List D)
 |0=>λ_=>M
 |n+1=>B4 3 5 0 (CC (ip n) (ic n))
noncomputable def ic:Nat->List D->Option (D×List D)
 |0=>λ_=>M
 |n+1=>B4 3 7 0 (ym (ip n) (ic n))
end
section
variable {P:bE}{w:fw}{K:aX}{mg:aJ->Option aj}{base:dY}{f:aD}{fd:gw}
def P8{n:Nat}(F:jy K "_law_wish" "_law_wish" yb f fd)(kk:KS K mg)(Xz:km P w K mg base "_law_pop" (n+1) (Ds K 0 Ag))(Qt:km P w K mg base "_law_steps" (n+1) (Ds K 0 (ic n)))(UK:km P w K mg base "_law_wish" (n+1) (Ds K 0 (ip n))):cZ P w K mg base i7 (n+1+1) f fd ["_law_draws","_law_deep","_law_some"] (Ds K 0 (ip (n+1))):=
 F.uV (Z:=[0]) (Ź:=[0]) (g:=(CC (ip n) (ic n))) Ik 0 ſ ſ λl6 A outer s H E hr B a hB=>
  let nd:=Ik.nd
  (ax Ŷ (ax Ŷ (ax Ŷ (ax Ŷ (ax Ŷ (ax Ŷ (eU (yp (U2 (z9 Ŷ (z9 (XX (i0:=1) (j0:=0) (N:=[("_law_k" : aJ),("_law_draws" : aJ),("_law_some" : aJ),("_law_deep" : aJ)]) (src:=[M,Y 0,Y 2,Y 1]) (lM (outer:=aF yb) (oN:=OQ) rfl Ų rfl rfl) rfl Ŷ (jE 0) ſ (sE _ 0 1) (λC s H ex=>⟨jb (i:=0) (show ([("_law_k" : aJ),("_law_draws" : aJ),("_law_some" : aJ),("_law_deep" : aJ)]:List aJ).Nodup by decide +kernel) rfl (nT rfl),nP,XW λB a hB=>Ŷ⟩)) QN)))))))))))
def ML{n:Nat}(F:jy K "_law_steps" "_law_steps" yE f fd)(kk:KS K mg)(Xz:km P w K mg base "_law_pop" (n+1) (Ds K 0 Ag))(UK:km P w K mg base "_law_wish" (n+1) (Ds K 0 (ip n))):cZ P w K mg base i7 (n+1+1) f fd ["_law_draws","_law_deep","_law_some"] (Ds K 0 (ic (n+1))):=
 F.uV (Z:=[0,3]) (Ź:=[0,3]) (g:=(ym (ip n) (ic n))) DW 0 ſ ſ λl6 A outer s H E hr B a hB=>
  let nd:=DW.nd
  (ax Ŷ (ax (QK jF rfl (Hw rfl kk.y Ŷ) (λB hB=>Ŷ) (λB hB=>(ax Ŷ (ax Ŷ (eU (QM (pv 3) Ŷ)))))) (eU (Oa (pv 3)))))
def mB:DG:=(aU (jq 3 (NX (eV 3) (e2 bW (e2 bW (eV 0) (e2 bW (eV 3) (eV 4))) nb))) Ú)
abbrev wS:=e2 xG (eV 1) u8
abbrev ß:=e2 xG (e2 bW (e2 bW (eV 1) (eV 0)) Ch) u8
abbrev ã:=dB (e2 gQ (eV 2) xL)
def qb:DG:=(aU (gk (gj (dB wS) ã) (mN (mx (Ft (aW fY Tl)) [M,Y 0] (gN 0) (dB ß) (eV 0))) eI) (aU (gk (dB wS) (mN (mx (Ft (aW fY Tl)) [M] (gN 0) gU (eV 0))) eI) (aU (jq 3 (zS (e2 bW (e2 bW (eV 0) (eV 1)) nb))) (aU (eP 4 u8) (aU (wj 1000000 (gj (dB (e2 xG (eV 4) (aW fY sn))) (dB (e2 gQ (eV 2) kt))) mB) (Ba 3))))))
def js:List D->Option (List D):=xM 3 5 qb
abbrev sZ:d_:=nr 28
noncomputable abbrev Fg:List aJ:=["_law_nodes_here","_law_at","_law_way","_law_found","_law_k"]
def A9:bH Fg ["_law_nodes_here","_law_at","_law_way"] (aF sZ):=ű
def Kq(F:jy K "_law_within" "_law_within" sZ f fd)(kk:KS K mg):cZ P w K mg base i7 2 f fd ["_law_nodes_here","_law_at","_law_way"] (yc K js):=
 F.TX (Z:=[3]) (Ź:=[3]) (g:=qb) A9 ſ λl6 A outer s H E hr B hB=>
  let nd:=A9.nd
  (ax (sN Ŷ (eU (yq (BC (Ź:=[]) (N:=[("_law_k" : aJ),("_law_nodes_here" : aJ)]) (src:=[M,Y 0]) (lM (outer:=aF sZ) (oN:=Fg) rfl Ų rfl rfl) rfl Ŷ (jE 0) ſ (lF 0) (λC s H ex=>⟨jb (i:=0) (show ([("_law_k" : aJ),("_law_nodes_here" : aJ)]:List aJ).Nodup by decide +kernel) rfl (.inl rfl),(vy Ŷ),(vP 0)⟩)))) mH) (ax (sN Ŷ (eU (yq (pJ ["_law_k"] [M] Ŷ λC s H ex=>(vP 0)))) mH) (ax Ŷ (ax Ŷ (ax (ER 1000000 jF Ŷ Ŷ) Ŷ)))))
end
abbrev Í:=aC (eV 0) (aC (eF (fQ pc)) (aC (e2 bW (eV 2) na) aN))
def lG(p:List D->Option D)(q:List D->Option (List D)):DG:=(aU (gk (dB (e2 gQ (e2 bW (eV 2) u8) È)) (iy Û) eI) (aU (gk (dB (e2 gQ (e2 bW (eV 2) u8) pu)) (iy (e2 à (e2 bW (eV 2) na) (e2 bW (e2 bW (eV 0) (eV 1)) na))) eI) (aU (gk (dB (e2 gQ (e2 bW (eV 2) u8) lm)) (iy (e2 xm (eF (j6 q Í)) Uf)) eI) (aU (eP 3 (eF (mx (iL (e2 bW (eV 2) na)) [M,Y 0,Y 1] (gN 0) gU (aW p (aC (eV 1) (aC (eV 2) Tl)))))) (aU (gk (dB (e2 gQ (e2 bW (eV 2) u8) Þ)) (iy (e2 á (eK (.bl Z_)) (eV 3))) eI) (iy (e2 à Û (eV 3))))))))
abbrev u6:d_:=nr 29
noncomputable abbrev JQ:List aJ:=["_law_nodes_here","_law_at","_law_wish_here","_law_told"]
def yQ:bH JQ ["_law_nodes_here","_law_at","_law_wish_here"] (aF u6):=ű
abbrev py:=fQ (aC Do (aC (e2 bW (e2 bW (eV 0) (eV 6)) u8) aN))
abbrev Ò:=aC (eV 0) (aC (eV 6) Ps)
def pj(p:List D->Option D)(q:List D->Option (List D)):DG:=(gk (gj (dB (e2 á (eV 6) (eV 4))) (gj (dB (e2 à (e2 bW (eV 3) na) (eF py))) (ir (aW p Ò)))) (nH 4 (eV 6)) eI)
abbrev gt:=j6 js (aC (eV 0) (aC (eV 5) (aC (e2 bW (eV 3) u8) aN)))
def mR(p:List D->Option D)(q:List D->Option (List D)):DG:=(iQ (iL (eF gt)) (gN 6) (pj p q))
def k8(p:List D->Option D)(q:List D->Option (List D)):DG:=(aU (jq 4 Ð) (aU (iQ (iL (eV 1)) (gN 5) (mR p q)) (S5 1 4)))
def qc(p:List D->Option D)(q:List D->Option (List D)):DG:=(aU (iQ (iL (eV 2)) (gN 3) (k8 p q)) (mN (m8 (eV 1))))
abbrev uh:d_:=nr 30
def yV:bH ["_law_nodes_here","_law_starts","_law_steps_here","_law_step","_law_found","_law_at","_law_k"] ["_law_nodes_here","_law_starts","_law_steps_here"] (aF uh):=ű
mutual
def eM:Nat->List D->Option D
 |0=>λ_=>M
 |n+1=>mq 3 4 (lG (eM n) (cX n))
def cX:Nat->List D->Option (List D)
 |0=>λ_=>M
 |n+1=>xM 3 7 (qc (eM n) (cX n))
end
section
variable {P:bE}{w:fw}{K:aX}{mg:aJ->Option aj}{base:dY}{f:aD}{fd:gw}
def MQ{n:Nat}(F:jy K "_law_holds" "_law_holds" u6 f fd)(Qu:km P w K mg base "_law_holds" (n+3) (jM K (eM n)))(KU:km P w K mg base "_law_answers" (n+3) (yc K (cX n))):cZ P w K mg base i7 (n+3+1) f fd ["_law_nodes_here","_law_at","_law_wish_here"] (jM K (eM (n+1))):=
 F.Bf (Z:=[]) (Ź:=[]) (g:=(lG (eM n) (cX n))) yQ ſ λl6 A outer s H E hr B hB=>
  let nd:=yQ.nd
  (ax Ŷ (ax Ŷ (ax Ŷ (ax (Oc (i:=3) (Ź:=[]) (N:=[("_law_one" : aJ),("_law_nodes_here" : aJ),("_law_at" : aJ)]) (src:=[M,Y 0,Y 1]) (lM (outer:=aF u6) (oN:=JQ) rfl Ų rfl rfl) rfl yQ.nd rfl rfl Ŷ (jE 0) ſ (lF 0) (λC s H ex=>⟨jb (i:=0) (show ([("_law_one" : aJ),("_law_nodes_here" : aJ),("_law_at" : aJ)]:List aJ).Nodup by decide +kernel) rfl (.inl rfl),nP,Ŷ⟩)) Ŷ))))
def GD{n:Nat}(F:jy K "_law_answers" "_law_answers" uh f fd)(kk:KS K mg)(Qu:km P w K mg base "_law_holds" (n+3) (jM K (eM n)))(Xy:km P w K mg base "_law_within" (n+3) (yc K js)):cZ P w K mg base i7 (n+3+1) f fd ["_law_nodes_here","_law_starts","_law_steps_here"] (yc K (cX (n+1))):=
 F.TX (Z:=[4]) (Ź:=[4]) (g:=(qc (eM n) (cX n))) yV ſ λl6 A outer s H E hr B hB=>
  let nd:=yV.nd
  by walk_at "o"
end
abbrev yH:d_:=nr 26
def pX:bH ["_law_signs_here","_law_nodes_here","_law_here","_law_sign"] ["_law_signs_here"] (aF yH):=ű
def T_{a:List Nd}{z:Int}(b:0<=z)(h:a[z.toNat]?=Y n):z<a.length:=by
 have:=(ah.mp h).1;omega
def gZ(a:List D):Option D:=(L2.gZ a).map .lst
abbrev NI(K:aX)(G0 H:Hp)(a0 I:aD)(L:List D)(zf:List Nd×Int)(i:Nat)(σ:St)(H':Hp):Prop:=bI H H'/\∃D v g v3,σ=[Y (.ref a0),Y (.ref I),Y (.int g),v3]/\jS K G0 H H' I D v/\v.length<=i/\(∀(j:Nat) n,v[j]?=Y n->n.tx.length<=i/\n.kd.length<=i)/\zh (L.drop i) (v,g)=Y zf
set_option tactic.hygienic true in
def MN{P:bE}{K:aX}{f:aD}(F:jy K "_law_nodes" "_law_nodes" yH f fd)(T:mg "len" = M):cZ P w K mg base i7 1 f fd ["_law_signs_here"] (jM K gZ):=by
 have inv:∀ds rs,gZ ds=Y rs->∃L zf,ds=[.lst L]/\L.length<=100000/\zh L ([],-1)=Y zf/\rs=.lst (zf.1.map IK):=λds d R=>by
  unfold gZ L2.gZ at R
  split at R
  .split at R
   .rename_i L hz
    cases ez:zh L ([],-1) with|none=>simp[ez]at R|some zf=>simp only[ez,cS]at R;cases R;exact⟨L,zf,rfl,hz,ez,rfl⟩
   .cases R
  .cases R
 refine F.ok pX (λvs H Q E h =>?_) (λl6 A outer s H vs Q E hr h =>?_)
 .let⟨G,ds,d,gh,r,R,_⟩:=h
  let(L,zf,rfl,_):=inv ds d R
  exact r.length.symm
 .let⟨G0,ds,d,gh,r,R,q⟩:=h
  let(L,zf,rfl,hz,ez,rfl):=inv ds d R
  let(v0,r0,rfl,rs,rn):=bJ.mp r
  have:=dO.mp rn;subst this
  let(a0,us,rfl,ga0,ru):=dA.mp rs
  have big:100000<aY:=by rw[mE];decide
  refine⟨_,p9 (mr (i:=1) pX.nd rfl (nT rfl) (y8 gG))
   (p9 (mr (i:=2) pX.nd rfl (nT rfl) (ID FY m4))
   (p9 (Tf jF rfl (IC (pv 0)) (jb (i:=3) pX.nd rfl (nT rfl))
    (o_ (Iz (yf RN (rj sD (pv 3) m4 (λp p=>rfl)) Gr (zi _))
     (p9 (nI (xl g_ PySem.F.slot_list_append PySem.F.type_list_append kZ (pv 1) (eC (Gq (eC (rj sD (pv 3) m4 (λp p=>rfl)) (eC (y8 gG) (eC (y8 gG) (eC (pv 2) gG))))) gG)))
     (p9 (Iz (yf RM (pv 2) (ID FY m4) (zi _))
      (o_ (nI (xl g_ PySem.F.slot_list_append PySem.F.type_list_append kZ (rj sD (rj vr (pv 1) (pv 2) (λp p=>rfl)) m4 (λp p=>rfl)) (eC (D_ Gy (y9 qR rfl T PySem.boot_len (eC (pv 1) gG)) m4) gG))))
      Iy)
     (o_ (mr (i:=2) pX.nd rfl (nT rfl) (D_ Gy (y9 qR rfl T PySem.boot_len (eC (pv 1) gG)) m4)))))
     (o_ (Iz (yf RN (rj sD (pv 3) m4 (λp p=>rfl)) Gr (zi _))
      (o_ (nI (xl g_ PySem.F.slot_list_append PySem.F.type_list_append kZ (rj sD (rj vr (pv 1) (pv 2) (λp p=>rfl)) m4 (λp p=>rfl)) (eC (rj sD (pv 3) m4 (λp p=>rfl)) gG))))
      (o_ (mr (i:=2) pX.nd rfl (nT rfl) (rj sD (rj vr (pv 1) (pv 2) (λp p=>rfl)) m4 (λp p=>rfl)))))))))
   (o_ (um (pv 1))))),?_⟩
  refine⟨gz _,λI hN =>?_⟩
  refine⟨1,rfl,?_⟩
  let sqs:∀ {H':Hp},bI H H'->nR K H' a0 us:=λE =>.of (E _ _ (gh _ _ ga0))
  let s0:bI H (fD H I (.lst [])) :=.alloc hN
  refine⟨_,rfl,a0,rfl,⟨us,sqs s0⟩,?_⟩
  refine NQ (K:=K) (a:=a0) (xs:=us) (NI K G0 H a0 I L zf)
   ⟨s0,[],[],-1,M,rfl,⟨bB,hN,rfl,λi c n e=>by simp at e,λi c n e=>by simp at e,λi c n e=>by simp at e,λi j c d e=>by simp at e,λi j c d e=>by simp at e,λi j c d e=>by simp at e⟩,aI _,λj n e=>by simp at e,ez⟩ (λi σ H' _ ⟨U,_⟩=>sqs U) ?_ ?_
  .rintro i y σ H1 hy ⟨U,D,v,g,v3,rfl,u,hnl,N,l⟩
   let hlu:i<us.length:=(ah.mp hy).1
   have Nr:i<L.length:=by rw[ru.length];exact hlu
   let(y',Xo,ry):=ru.get (ao Nr)
   rw[hy]at Xo;cases Xo
   rw[gF Nr]at l
   have l:(xn (v,g) L[i]).bind (zh (L.drop (i+1)))=Y zf:=l
   cases es:xn (v,g) L[i] with
   |none=>rw[es]at l;cases l|some z'=>
    rw[es]at l
    have l:zh (L.drop (i+1)) z'=Y zf:=l
    have abu:(D.map λc=>V.ref c.1).length=v.length:=by rw[az];exact u.len
    rcases Ej es with⟨x,ek,hz'⟩|⟨x,n,ek,O,B,rfl⟩|⟨n,ek,O,B,rfl⟩
    .
     rw[ek]at ry
     let(b,ws,rfl,gb,k):=fy.mp ry
     let(w1,q1,rfl,X,k):=bJ.mp k
     let(w2,q2,rfl,ZQ,k):=bJ.mp k
     have:=dO.mp k;subst this
     have:=gD.mp X;subst this
     have:=gD.mp ZQ;subst this
     let hb:∀ {H':Hp},bI H1 H'->H' b=Y (.tup [.str ve,.str x]):=λs=>s _ _ (U _ _ (gh _ _ gb))
     refine⟨_,rfl,b,_,_,_,rfl,rfl,.of (hb (bI.refl _)),gY (j:=0) rfl,rfl,_,rfl,?_⟩
     refine G8 (λp =>?_) (λu=>absurd (decide_eq_true rfl) u)
     refine⟨_,rfl,.inl ⟨rfl,_,.of u.lst⟩,_,rfl,b,_,_,_,rfl,rfl,.of (hb (bI.refl _)),gY (j:=1) rfl,gz _,λa ha=>⟨gz _,λW RY=>⟨_,rfl,(by show 4<=aY;omega),λt ht =>?_⟩⟩⟩
     let C:=u.push (x:=x) (u:=g) U ha RY ht
     have sA:bI H1 (fD (fD (fD H1 a (.lst [])) W (.lst [])) t (.tup [.str x,.ref a,.ref W,.int g])):=((bI.alloc ha).trans (.alloc RY)).trans (.alloc ht)
     have sH:bI H (fD (fD (fD (fD H1 a (.lst [])) W (.lst [])) t (.tup [.str x,.ref a,.ref W,.int g])) I (.lst (D.map (λc =>.ref c.1)++[.ref t]))):=λp o e=>by
      rw[aP (bM e u.Qb)];exact sA _ _ (U _ _ e)
     refine⟨I,_,_,rfl,rfl,sA _ _ u.lst,(by rw[abu];omega),?_⟩
     generalize fD (fD (fD (fD H1 a (.lst [])) W (.lst [])) t (.tup [.str x,.ref a,.ref W,.int g])) I (.lst (D.map (λc =>.ref c.1)++[.ref t]))=H2 at C sH
     have J:((D++[(t,a,W)]).map λc=>V.ref c.1).length=v.length+1:=by simp[u.len]
     have YA:∀(j:Nat) m,(v++[xo x g])[j]?=Y m->m.tx.length<=i+1/\m.kd.length<=i:=λj m e=>by
      by_cases hj:j<v.length
      .rw[aM hj]at e
       have:=N j m e;omega
      .have hl:=(ah.mp e).1
       let ej:j=v.length:=by simp at hl;omega
       subst ej
       simp at e;subst e;simp
     refine⟨_,rfl,1,rfl,g,-1,rfl,rfl,_,rfl,?_⟩
     rcases hz' with⟨O,rfl⟩|⟨O,n,B,rfl⟩
     .let O:¬0<=g:=O
      refine G8 (λhc=>absurd (of_decide_eq_true hc) ž) (λp =>?_)
      refine⟨_,rfl,I,_,rfl,.inl (.of C.lst),_,_,rfl,rfl,?_⟩
      refine⟨sH,D++[(t,a,W)],v++[xo x g],(v.length:Int),Y (.ref b),?_,C,by simp;omega,λj m e=>by have:=YA j m e;omega,l⟩
      rw[J];simp
     .let O:0<=g:=O
      refine G8 (λp =>?_) (λhc=>absurd (decide_eq_true ž) hc)
      let B:(v++[xo x g])[g.toNat]?=Y n:=B
      let aez:=T_ O B
      let(c,S):=C.at B
      let(qt,_):=C.tup _ _ _ S B
      let(qk,zk,nk):=C.RT _ _ _ S B
      let Xh:n9 ((D++[(t,a,W)]).map λc=>V.ref c.1) g=Y (.ref c.1):=by
       let e:g=((g.toNat:Nat):Int):=by omega
       rw[e];exact gY (by rw[aR,S];rfl)
      let hkl:n.kd.length<=i:=(YA _ _ B).2
      refine⟨_,rfl,_,rfl,I,_,g,_,rfl,rfl,.of C.lst,Xh,c.1,_,2,_,rfl,rfl,.of qt,gY (j:=2) rfl,.inl ⟨rfl,_,.of qk⟩,_,rfl,I,_,rfl,.inl (.of C.lst),_,_,rfl,rfl,c.2.2,_,_,rfl,rfl,qk,(by rw[az];omega),?_⟩
      let e1:((((D++[(t,a,W)]).map λc=>V.ref c.1).length:Int)-1)=(v.length:Int):=by rw[J];simp
      let hn3:=C.ZH (a:=n.kd++[(v.length:Int)]) S B
      let ek2:(n.kd.map V.int++[V.int ((((D++[(t,a,W)]).map λc=>V.ref c.1).length:Int)-1)])=(n.kd++[(v.length:Int)]).map V.int:=by rw[e1];simp
      have Xs:jS K G0 H (fD H2 c.2.2 (.lst (n.kd.map V.int++[V.int ((((D++[(t,a,W)]).map λc=>V.ref c.1).length:Int)-1)]))) I (D++[(t,a,W)]) ((v++[xo x g]).set g.toNat { n with kd:=n.kd++[(v.length:Int)] }):=by rw[ek2];exact hn3
      refine⟨_,rfl,I,_,rfl,.inl (.of Xs.lst),_,_,rfl,rfl,?_⟩
      refine⟨λp o e =>?_,D++[(t,a,W)],(v++[xo x g]).set g.toNat { n with kd:=n.kd++[(v.length:Int)] },(v.length:Int),Y (.ref b),?_,Xs,by simp;omega,λj m e =>?_,l⟩
      .rw[aP (bM e zk)];exact sH _ _ e
      .rw[J];simp
      .by_cases hj:g.toNat=j
       .subst hj
        rw[a7 (ah.mp B).1]at e
        cases e
        have:=YA _ _ B
        simp;omega
       .rw[au hj]at e
        have:=YA j m e;omega
    .
     let O:0<=g:=O
     let B:v[g.toNat]?=Y n:=B
     rw[ek]at ry
     let(b,ws,rfl,gb,k):=fy.mp ry
     let(w1,q1,rfl,X,k):=bJ.mp k
     let(w2,q2,rfl,ZQ,k):=bJ.mp k
     have:=dO.mp k;subst this
     have:=gD.mp X;subst this
     have:=gD.mp ZQ;subst this
     let hb:H1 b=Y (.tup [.str vd,.str x]):=U _ _ (gh _ _ gb)
     refine⟨_,rfl,b,_,_,_,rfl,rfl,.of hb,gY (j:=0) rfl,rfl,_,rfl,?_⟩
     refine G8 (λu=>absurd (V.str.inj (of_decide_eq_true u)) (λz=>sOT z.symm)) (λp =>?_)
     refine⟨_,rfl,b,_,_,_,rfl,rfl,.of hb,gY (j:=0) rfl,rfl,_,rfl,?_⟩
     refine G8 (λp =>?_) (λu=>absurd (decide_eq_true rfl) u)
     let(c,S):=u.at B
     let(qt,_):=u.tup _ _ _ S B
     obtain⟨⟨vs,qx,rx⟩,zx,nx⟩:=u.txs _ _ _ S B
     let Xh:n9 (D.map λc=>V.ref c.1) g=Y (.ref c.1):=by
      let e:g=((g.toNat:Nat):Int):=by omega
      rw[e];exact gY (by rw[aR,S];rfl)
     let hvl:vs.length<=i:=by rw[<- rx.length];exact(N _ _ B).1
     refine⟨_,rfl,_,rfl,I,_,g,_,rfl,rfl,.of u.lst,Xh,c.1,_,1,_,rfl,rfl,.of qt,gY (j:=1) rfl,.inl ⟨rfl,_,.of qx⟩,_,rfl,b,_,_,_,rfl,rfl,.of hb,gY (j:=1) rfl,c.2.1,_,_,rfl,rfl,qx,ž,?_⟩
     refine⟨λp o e=>by rw[aP (bM e zx)];exact U _ _ e,D,_,g,_,rfl,u.SU S B (rx.append (.cons (gD.mpr rfl) .nil)),by simp;omega,λj m e =>?_,l⟩
     by_cases hj:g.toNat=j
     .subst hj
      rw[a7 (ah.mp B).1]at e
      cases e
      have:=N _ _ B
      simp;omega
     .rw[au hj]at e
      have:=N j m e;omega
    .
     let O:0<=g:=O
     let B:v[g.toNat]?=Y n:=B
     rw[ek]at ry
     let(b,ws,rfl,gb,k):=fy.mp ry
     let(w1,q1,rfl,X,k):=bJ.mp k
     have:=dO.mp k;subst this
     have:=gD.mp X;subst this
     let hb:H1 b=Y (.tup [.str pH]):=U _ _ (gh _ _ gb)
     refine⟨_,rfl,b,_,_,_,rfl,rfl,.of hb,gY (j:=0) rfl,rfl,_,rfl,?_⟩
     refine G8 (λu=>absurd (V.str.inj (of_decide_eq_true u)) (λz=>sOC z.symm)) (λp =>?_)
     refine⟨_,rfl,b,_,_,_,rfl,rfl,.of hb,gY (j:=0) rfl,rfl,_,rfl,?_⟩
     refine G8 (λu=>absurd (V.str.inj (of_decide_eq_true u)) (λz=>sTC z.symm)) (λp =>?_)
     let(c,S):=u.at B
     let(qt,_):=u.tup _ _ _ S B
     let Xh:n9 (D.map λc=>V.ref c.1) g=Y (.ref c.1):=by
      let e:g=((g.toNat:Nat):Int):=by omega
      rw[e];exact gY (by rw[aR,S];rfl)
     refine⟨_,rfl,_,rfl,I,_,g,_,rfl,rfl,.of u.lst,Xh,c.1,_,3,_,rfl,rfl,.of qt,gY (j:=3) rfl,?_⟩
     exact⟨U,D,v,n.par,_,rfl,u,ž,λj m e=>ŷ,l⟩
  .
   rintro σ H1 ⟨U,D,v,g,v3,rfl,u,hnl,N,l⟩
   rw[<- ru.length,o5]at l
   cases l
   let E:=Hm gh U
   let r:=u.rep gh
   exact⟨_,rfl,q _ _ H1 E (dA.mpr ⟨I,_,rfl,by show (match H I with|none=>H1 I|some _=>G0 I)=_;rw[hN];exact u.lst,r⟩)⟩
def k7:DG:=(aU (eP 8 (e2 gB (eV 7) Tk)) (gk (gj (dB (e2 vk (eV 6) u8)) (dB (e2 xG (eV 8) Ch))) (aU (nH 5 (iu (aC pi (aC (e2 bW (eV 3) (e2 gB (e2 iU (eV 7) Tk) am)) aN)))) (eP 6 (e2 f_ (eV 6) na))) (gk (gj (dB (e2 vk (eV 6) u8)) (dB (e2 xG (eV 8) am))) (nH 5 (iu (aC pu (aC (e2 bW (eV 4) (e2 gB (e2 iU (eV 7) Tk) am)) aN)))) (gk (dB (e2 vk (eV 6) na)) (aU (nH 5 wP) (eP 6 (e2 m6 (eV 6) na))) eI))))
abbrev Ev:=j6 iq (aC (eV 0) (aC (eV 2) (aC (eK (.int 20)) aN)))
def tq:DG:=(aU (eP 4 ge) (aU (jq 5 (zS (eV 1))) (aU (eP 6 (aW mJ pc)) (aU (iQ (iL (eF Ev)) (gN 7) k7) (iy (e2 f_ (eV 5) (eF (mx (Ft (eV 6)) [M] (gN 0) gU wP))))))))
def k_:List D->Option D:=mq 4 9 tq
abbrev uf:d_:=nr 34
def yR:bH ["_law_script","_law_signs_here","_law_turn","_law_some","_law_texts","_law_found","_law_depth_here","_law_number","_law_kind"] ["_law_script","_law_signs_here","_law_turn","_law_some"] (aF uf):=ű
section
variable {P:bE}{w:fw}{K:aX}{mg:aJ->Option aj}{base:dY}{f:aD}{fd:gw}
def GB(F:jy K "_law_gone_on" "_law_gone_on" uf f fd)(kk:KS K mg)(Qv:km P w K mg base "_law_depth" 2 (jM K mJ))(Jd:km P w K mg base "_law_cells" 2 (yc K iq)):cZ P w K mg base i7 3 f fd ["_law_script","_law_signs_here","_law_turn","_law_some"] (jM K k_):=
 F.Bf (Z:=[5]) (Ź:=[5]) (g:=tq) yR ſ λl6 A outer s H E hr B hB=>
  let nd:=yR.nd
  (ax Ŷ (ax Ŷ (ax Ŷ (ax Ŷ (eU (qN (Jv TZ (dvo (pv 5)) (dq (df (pJ ["_law_k"] [M] Ŷ λC s H ex=>Ŷ))))))))))
def Dh:=ic 12
def tD:=cX 12
def yw:DG:=(f9 (bR "Sift" "take" gC lb 5 (ju (mP (eV 6)) kj)))
abbrev wf:=e2 f_ (eK (.int 100)) (e2 mu (eK (.int 50)) (eV 10))
abbrev zn:=eF (mx (iL (eV 11)) [M,Y 9,Y 7,Y 8] (gN 0) (gj (dB (e2 xG (eV 0) (eV 1))) (gj (dB (e2 á (eV 0) (eV 2))) (dB (e2 á (eV 0) (eV 3))))) (eV 0))
abbrev ä:=aC (eV 4) (aC wf pc)
abbrev jp:=aC (aW k_ (aC (eV 0) ä)) aN
abbrev NE:=e2 xm (eF (mx (iL (eV 7)) [M,Y 11] (gN 0) (dB (e2 á (eV 0) (eV 1))) (eV 0))) Uf
abbrev À:=aC (eF (fQ (aC (e1 Ce na) aN))) sn
def yv:DG:=(aU (eP 11 (eF (j6 tD (aC (aW gZ jp) À)))) (aU (gk (dB (e2 xm zn Uf)) dL eI) (gk (dB NE) dL eI)))
abbrev No:=aC (eV 4) aN
abbrev Op:=aC (eV 0) (aC (eK (.int 36)) aN)
abbrev sw:=aC (aW j2 Op) (aC (eK (.int 9)) aN)
abbrev wT:=aC na (aC (aW fY No) aN)
abbrev Å:=j6 iq (aC (eV 0) (aC (eK (.int 500)) (aC (eK (.int 24)) aN)))
abbrev Ì:=aC (eV 0) (aC (eK (.int 100)) (aC (eK (.int 12)) aN))
def Jh:DG:=(aU (eP 1 (aW vN Tl)) (aU (jq 2 (j6 iq Ì)) (aU (lC 3 (su Dh 2 (aC Ch pc))) (aU (eP 4 (eF (j6 vM (aC (eF Å) pc)))) (aU (eP 4 (eF (LC (eV 4) pN (pS (e2 m6 (aW fY No) (e2 gB (aW sU sw) (aW GH wT))))))) (aU (Il 5 gC (oO "Sift" kH sn)) (aU (iQ (iL (eV 4)) (gN 6) yw) (aU (eP 7 (eF (NW [5] [] (sL "Sift" "told" pw (eV 5))))) (aU (eP 8 (eF (NW [5] [] (sL "Sift" "waiting" lN (eV 5))))) (aU (eP 9 (aW fY (aC (aW gZ No) aN))) (aU (gk (gj (dB (e2 gQ (aW mJ No) u8)) (dB (e2 xm (eV 8) Uf))) dL eI) (aU (iQ (Ft Ch) (gN 10) yv) (iy Û)))))))))))))
def Fi:List D->Option D:=mq 1 12 Jh
abbrev rY:d_:=nr 35
noncomputable abbrev OR:List aJ:=["_law_script","_law_some","_law_draws","_law_question","_law_signs_here","_law_sift","_law_sign","_law_told","_law_waits","_law_opened","_law_turn","_law_whole_ones"]
def wh:bH OR ["_law_script"] (aF rY):=ű
def TV(F:jy K "law" "law" rY f fd)(kk:KS K mg)(aaR:vK P w K mg base "Sift" 98 (spT K gC kH))(YS:km P w K mg base "_law_names" 99 (jM K vN))(Qt:km P w K mg base "_law_steps" 99 (Ds K 0 Dh))(Jd:km P w K mg base "_law_cells" 99 (yc K iq))(YQ:km P w K mg base "_law_signs" 99 (yc K vM))(Qv:km P w K mg base "_law_depth" 99 (jM K mJ))(XA:km P w K mg base "_law_mix" 99 (jM K sU))(VV:km P w K mg base "_law_cell_at" 99 (jM K j2))(YR:km P w K mg base "_law_nodes" 99 (jM K gZ))(VU:km P w K mg base "_law_gone_on" 99 (jM K k_))(KU:km P w K mg base "_law_answers" 99 (yc K tD))(R3:gI P w K mg base "Sift" "take" 99 (spT K gC lb))(RZ:gI P w K mg base "Sift" "told" 99 (yc K pw))(Nw:gI P w K mg base "Sift" "waiting" 99 (yc K lN)):cZ P w K mg base i7 100 f fd ["_law_script"] (jM K Fi):=
 F.Bf (Z:=[2,5]) (Ź:=[2,5]) (g:=Jh) wh ſ λl6 A outer s H E hr B hB=>
  let nd:=wh.nd
  (ax Ŷ (ax Ŷ (ax Ŷ (ax Ŷ (ax Ŷ (ax Ŷ (ax Ŷ (ax (wQ (i:=7) wh.nd rfl (.inr rfl) Ŷ) (ax (wQ (i:=8) wh.nd rfl (.inr rfl) Ŷ) (ax (wQ (i:=9) wh.nd rfl (.inr rfl) Ŷ) (ax Ŷ (ax (CQ jF rfl Ŷ (λB hB=>Ŷ) (λB hB=>(ax (wQ (i:=11) wh.nd rfl (.inr rfl) Ŷ) (ax (sN (N_ (RP hr) (dq (df (BC (Ź:=[]) (N:=[("_law_one" : aJ),("_law_opened" : aJ),("_law_told" : aJ),("_law_waits" : aJ)]) (src:=[M,Y 9,Y 7,Y 8]) (lM (outer:=aF rY) (oN:=OR) rfl Ų rfl rfl) rfl (mI (vP 11)) (jE 0) ſ (lF 0) (λC s H ex=>⟨jb (i:=0) (show ([("_law_one" : aJ),("_law_opened" : aJ),("_law_told" : aJ),("_law_waits" : aJ)]:List aJ).Nodup by decide +kernel) rfl (.inl rfl),(vy Ŷ),(vP 0)⟩)))) Ŷ (zi _)) Ŷ mH) (eU (sN (N_ (RP hr) (dq (df (BC (Ź:=[]) (N:=[("_law_one" : aJ),("_law_whole_ones" : aJ)]) (src:=[M,Y 11]) (lM (outer:=aF rY) (oN:=OR) rfl Ų rfl rfl) rfl (mI (vP 7)) (jE 0) ſ (lF 0) (λC s H ex=>⟨jb (i:=0) (show ([("_law_one" : aJ),("_law_whole_ones" : aJ)]:List aJ).Nodup by decide +kernel) rfl (.inl rfl),(vy Ŷ),(vP 0)⟩)))) Ŷ (zi _)) Ŷ mH)))))) Ŷ))))))))))))
end
end K21
namespace K21
open PySem L2
structure w8 where
 q:List D
 bits:Int
 nk:List l_
 nv:List D
 tk:List l_
 tv:List D
 fx:Int
 oj:Int
 inner:Int
 dG:List D
 asks:List D
noncomputable def jg(f:w8):D :=.ins "Facts" ["question","bits","by_name","by_text","starred","stars","inner","leads","asks"] [.lst f.q,.int f.bits,.iW f.nk f.nv,.iW f.tk f.tv,.int f.fx,.int f.oj,.int f.inner,.lst f.dG,.lst f.asks]
structure dH where
 number:Int
 named:Int
 atoms:Int
 fits:Int
 aK:Int
 ra:Int
 fW:Int
 ha:Int
noncomputable abbrev rk:List aJ:=["number","named","atoms","fits","reached","reached_around","hoped","hoped_around"]
noncomputable abbrev rl(r:dH):List D:=[.int r.number,.int r.named,.int r.atoms,.int r.fits,.int r.aK,.int r.ra,.int r.fW,.int r.ha]
def dM(r:dH):D :=.ins "Row" rk (rl r)
structure qo where
 num:Int
 place:Int
 Z:Int
 around:Int
noncomputable def fg(r:qo):D :=.tup [.int r.num,.int r.place,.int r.Z,.int r.around]
structure kq where
 f:w8
 full:Int
 fm:Int
 taken:Int
 opened:Int
 rows:List dH
 rests:List qo
def cI(c:kq):D :=.ins "Coming" ["facts","full","able","taken","opened","rows","rests"] [jg c.f,.int c.full,.int c.fm,.int c.taken,.int c.opened,.lst (c.rows.map dM),.lst (c.rests.map fg)]
noncomputable abbrev bA:=uU
noncomputable abbrev bO:=eN
noncomputable abbrev bN:=pV
def zJ(c:kq)(p a f:Int)(h:(bA (bO p (bA a c.f.inner)) f).natAbs<2 ^ 64):gf [cI c,.int p,.int a,.int f]=Y (.int (bA (bO p (bA a c.f.inner)) f*2)):=by
 let e:gf [cI c,.int p,.int a,.int f]=((p_ (.int (bA (bO p (bA a c.f.inner)) f)) (.int 1)).map DO.rt).bind sW:=by kernel_rfl
 rw[e];simp only[p_];rw[if_pos ⟨by solve_by_elim,by solve_by_elim,h⟩]
 exact Ÿ
def zD(h:0<n):Dt n (-1)=Y (n-1):=by
 unfold Dt
 grind
def uy{n k:Nat}(h:k<n):Dt n (k:Int)=Y k:=by
 simp_all [Dt,if_pos]
def OF(b:List a)(x:a):n9 (b++[x]) (-1)=Y x:=by
 simp_all [n9,zD]
def aB{ρ':cE}(e:g a=Y (.nx ρ')):aU g h a=h ρ':=by unfold aU;rw[e];rfl
def f7{f:DF}{a:cE}{d:D}(e:f a=Y d):eP i f a=Y (.nx (a.set i (Y d))):=by simp_all [eP]
def q_{f:DF}{ρ':cE}{d:D}(r:vR b c a=ρ')(e:f ρ'=Y d)(p:qI d=Z'):lV b c f a=Y d:=by simp_all [lV]
def BV{f:DT}{ρ':cE}(r:vR c d a=ρ')(e:f ρ'=Y b):Az c d f a=Y b:=by simp_all [Az]
abbrev oC(c:kq):Option D:=Y (.obj aE (cI c))
noncomputable abbrev gL(k:Nat):Option D:=Y (.gL 0 [.fld "rows",.ix k])
def zo(c:kq)(b:qo)(r d:dH):qo:=
 let a:=bA (bO b.Z b.around/2) r.fits
 ⟨b.num,b.place-1,bA (bA a (bN c.f.inner)) d.fW,bA (bO (bA a c.f.inner) b.around) d.ha⟩
def Kd{c:kq}(h:c.rows.getLast? = Y a):n9 (c.rows.map dM) (-1)=Y (dM a):=by
 let(b,e):=LJ.mp h
 simp_all [bT,OF]
def Cj(c:kq)(b:qo)(r a:dH)(h:c.rows.getLast? = Y a):ie [cI c,fg b,dM r]=Y (fg (zo c b r a)):=by
 show (jd _).bind _=_;unfold jd;rw[aB (f7 (Kd h))];exact ź
abbrev Ö:=jI []
def B5{c:kq}{k:Nat}{r:dH}{f:aJ}{d:D}(h:c.rows[k]?=Y r)(m:eV 0 a=oC c)(i:eV j a=gL k)(l:e a=Y d)(g:D.ins "Row" (jV f d rk (rl r)).1 (jV f d rk (rl r)).2=dM q):
  fV Z' j "Row" f e a=Y (.nx (a.set 0 (oC { c with rows:=c.rows.set k q }))):=by
 let b:(c.rows.map dM)[k]?=Y (dM r):=by simp_all
 unfold fV IA ya;rw[l,i];simp;rw[m];simp;let p:xT "Row" aE (cI c) [.fld "rows",.ix k]=Y ([],rk,rl r):=by
  let o:jI [.fld "rows",.ix k] (cI c)=Y (dM r):=by
   have:jI [.fld "rows",.ix k] (cI c)=((c.rows.map dM)[k]?).bind Ö:=by kernel_rfl
   rw[this,b];exact Ÿ
  unfold xT;rw[o];exact ź
 rw[p];simp only[ai];rw[if_pos ⟨rfl,by decide⟩,g];let n:mY (dM q) [.fld "rows",.ix k] (cI c)=cI { c with rows:=c.rows.set k q }:=by
  have:mY (dM q) [.fld "rows",.ix k] (cI c)=D.ins "Coming" ["facts","full","able","taken","opened","rows","rests"] [jg c.f,D.int c.full,D.int c.fm,D.int c.taken,D.int c.opened,(match (c.rows.map dM)[k]? with|none=>D.lst (c.rows.map dM)|some _=>D.lst ((c.rows.map dM).set k (dM q))),D.lst (c.rests.map fg)]:=by kernel_rfl
  simp_all [cI,vT]
 rw[n]
noncomputable abbrev ck:List aJ:=["facts","full","able","taken","opened","rows","rests"]
abbrev cl(c:kq):List D:=[jg c.f,.int c.full,.int c.fm,.int c.taken,.int c.opened,.lst (c.rows.map dM),.lst (c.rests.map fg)]
def uK{c:kq}{n:Int}{k:Nat}(g:eV 0 a=oC c)(f:b a=Y (.int n))(d:Dt c.rows.length n=Y k):tZ i 0 "Coming" "rows" b a=Y (.nx (a.set i (gL k))):=by
 let e:rW "Coming" "rows" 0 a=Y (qh,ck,cl c,D.lst (c.rows.map dM)):=by unfold rW ya;rw[g];exact ź
 unfold tZ;rw[e,f];show (Dt _ n).map _=_
 simp_all
def Iq{c:kq}{k:Nat}{r r':dH}{f:aJ}{m n:Int}(i:c.rows[k]?=Y r)(p:eV 0 a=oC c)(l:eV j a=gL k)(o:e a=Y (.int n))(h:(rk.zip (rl r)).lookup f=Y (.int m))(g:D.ins "Row" (jV f (.int (b m n)) rk (rl r)).1 (jV f (.int (b m n)) rk (rl r)).2=dM r'):
  gO Z' j "Row" f b e a=Y (.nx (a.set 0 (oC { c with rows:=c.rows.set k r' }))):=by
 let d:(c.rows.map dM)[k]?=Y (dM r):=by rw[aR,i];exact Ÿ
 unfold gO IA ya;rw[o,l];simp;rw[p];simp;let t:xT "Row" aE (cI c) [.fld "rows",.ix k]=Y ([],rk,rl r):=by
  let s:jI [.fld "rows",.ix k] (cI c)=Y (dM r):=by
   have:jI [.fld "rows",.ix k] (cI c)=((c.rows.map dM)[k]?).bind Ö:=by kernel_rfl
   rw[this,d];exact Ÿ
  unfold xT;rw[s];exact ź
 rw[t];simp only[ai,h];rw[if_pos ⟨rfl,by decide⟩,g];let q:mY (dM r') [.fld "rows",.ix k] (cI c)=cI { c with rows:=c.rows.set k r' }:=by
  have:mY (dM r') [.fld "rows",.ix k] (cI c)=D.ins "Coming" ["facts","full","able","taken","opened","rows","rests"] [jg c.f,D.int c.full,D.int c.fm,D.int c.taken,D.int c.opened,(match (c.rows.map dM)[k]? with|none=>D.lst (c.rows.map dM)|some _=>D.lst ((c.rows.map dM).set k (dM r'))),D.lst (c.rests.map fg)]:=by kernel_rfl
  simp_all [cI,vT]
 rw[q]
def xF{c:kq}{k:Nat}{r:dH}(a:c.rows[k]?=Y r):(c.rows.map dM)[k]?=Y (dM r):=by simp_all
structure Rb(f:w8)(fit lift:Int->Int->Int):Prop where
 fit:∀n a,gJ [jg f,.int n,.int a]=some (.int (fit n a))
 lift:∀n a,iZ [jg f,.int n,.int a]=some (.int (lift n a))
def xK(c b:Int->Int->Int)(p:Nat)(r d:dH)(a:List dH):List dH:=
 (a.set (p+1) { r with fits:=c r.named r.atoms }).set p { d with atoms:=bO d.atoms (b r.named r.atoms) }
def RH{q:Nat}{x d l g:Option D}(n:c.rows[q]?=Y r):vR [0] [3,5] [oC c,x,d,gL q,l,g]=[Y (cI c),x,d,Y (dM r),l,Yx [oC c,x,d,gL q,l,g] g]:=by
 let s:vR [0] [3,5] [oC c,x,d,gL q,l,g]=[Y (cI c),x,d,((c.rows.map dM)[q]?).bind Ö,l,Yx [oC c,x,d,gL q,l,g] g]:=by kernel_rfl
 rw[s,xF n];rfl
def DR(w:Rb c.f e a){p:Nat}{f:dH}(s:c.rows[p+1]?=Y r)(z:c.rows[p]?=Y f)(d A l g:Option D):
  jD [oC c,Y (.int ((p:Int)+1)),d,A,l,g]=Y (.nx [oC { c with rows:=xK e a p r f c.rows },Y (.int p),Y (.bl (bA (a r.named r.atoms) (bN f.atoms) != 0)),gL (p+1),Y (.int (a r.named r.atoms)),gL p]):=by
 have v:p+1<c.rows.length:=(ah.mp s).1;unfold jD;rw[aB (uK rfl rfl (by simpa using uy v))];simp;rw[aB (B5 s rfl rfl (q_ (RH s) (w.fit _ _) rfl) (by kernel_rfl))];simp;generalize h:({ c with rows:=c.rows.set (p+1) { r with fits:=e r.named r.atoms } }:kq)=b;let u:b.f=c.f:=by rw[<- h]
 have m:b.rows[p+1]?=Y { r with fits:=e r.named r.atoms }:=by rw[<- h];simp[v]
 have k:b.rows[p]?=Y f:=by rw[<- h];simp only;rw[au (by simp)];exact z
 rw[aB (f7 (q_ (RH m) (show iZ [jg b.f,.int r.named,.int r.atoms]=_ from by rw[u];exact w.lift _ _) rfl))];simp;rw[aB ?y]
 case y=>
  have:vf 1 (λi j=>i-j) na [oC b,Y (.int ((p:Int)+1)),d,gL (p+1),Y (.int (a r.named r.atoms)),g]=Y (.nx [oC b,Y (.int ((p:Int)+1-1)),d,gL (p+1),Y (.int (a r.named r.atoms)),g]):=by kernel_rfl
  rw[this,Int.add_sub_cancel]
 let t:p<b.rows.length:=(ah.mp k).1;rw[aB (uK rfl rfl (uy t))];simp;let n:vR [0] [3,5] [oC b,Y (.int p),d,gL (p+1),Y (.int (a r.named r.atoms)),gL p]=[Y (cI b),Y (.int p),d,((b.rows.map dM)[p+1]?).bind Ö,Y (.int (a r.named r.atoms)),((b.rows.map dM)[p]?).bind Ö]:=by kernel_rfl
 rw[xF m,xF k]at n;simp only[ai,jI]at n;let x:lV [0] [3,5] (e2 xm TD u8) [oC b,Y (.int p),d,gL (p+1),Y (.int (a r.named r.atoms)),gL p]=Y (.bl (bA (a r.named r.atoms) (bN f.atoms) != 0)):=by
  refine q_ n ?_ rfl;have:e2 xm TD u8 [Y (cI b),Y (.int p),d,Y (dM { r with fits:=e r.named r.atoms }),Y (.int (a r.named r.atoms)),Y (dM f)]=xm (.int (bA (a r.named r.atoms) (bN f.atoms))) (.int 0):=by kernel_rfl
  rw[this];simp[xm,lK,X3,bne]
 show aU (eP 2 _) _ _=_;rw[aB (f7 x)];simp;show gO Z' 5 "Row" "atoms" eN (eV 4) _=_;rw[Iq k rfl rfl rfl rfl (by kernel_rfl),<- h];rfl
def kf(fit lift:Int->Int->Int):Bool->Nat->List dH->List dH
 | true,p+1,a=>match a[p+1]?,a[p]? with
  |some r,Y b=>kf fit lift (bA (lift r.named r.atoms) (bN b.atoms) != 0) p (xK fit lift p r b a)|_,_=>a
 |_,_,a=>a
def u_:(xK fit lift p r b a).length=a.length:=by unfold xK;simp
theorem u9:∀(p n:Nat) (c:kq) (f:Bool) (d b a:Option D),Rb c.f fit lift->p<n->p<c.rows.length->∃v u j i g,
  l' (gj (ir (eV 2)) FM) jD n [oC c,Y (.int p),Y (.bl f),d,b,a]=Y (.nx [oC { c with rows:=kf fit lift f p c.rows },v,u,j,i,g])
 |p,0,c,f,d,b,a,_,h,_=>by simp_all
 | 0,n+1,c,f,d,b,a,k,h,o=>by
  refine⟨Y (.int 0),Y (.bl f),d,b,a,?_⟩;rw[l'];have e:gj (ir (eV 2)) FM [oC c,Y (.int ((0:Nat):Int)),Y (.bl f),d,b,a]=Y false:=by cases f<;>solve_by_elim
  rw[e];simp only[ai,gR,if_false];cases f<;>solve_by_elim
 | p+1,n+1,c,f,d,b,a,k,h,o=>by
  rw[l'];cases f with
  |false=>
   refine⟨Y (.int ((p+1:Nat):Int)),Y (.bl Z_),d,b,a,?_⟩
   exact Ÿ
  |true=>
   let l:c.rows[p+1]?=Y c.rows[p+1]:=ao o;let m:c.rows[p]?=Y (c.rows[p]' ž):=ao ž;have e:gj (ir (eV 2)) FM [oC c,Y (.int ((p+1:Nat):Int)),Y (.bl Z'),d,b,a]=Y true:=by
    have:gj (ir (eV 2)) FM [oC c,Y (.int ((p+1:Nat):Int)),Y (.bl Z'),d,b,a]=dB (λ_=>vk (.int ((p+1:Nat):Int)) (.int 0)) []:=rfl
    simp_all [dB,vk]
   rw[e];simp only[ai,if_true];let r:=DR k l m (Y (.bl Z')) d b a;rw[show ((p+1:Nat):Int)=(p:Int)+1 by rfl,r];simp only[ai];let(t,s,j,i,g,q):=u9 p n { c with rows:=xK fit lift p c.rows[p+1] (c.rows[p]' ž) c.rows } _ (gL (p+1)) _ (gL p) k Ž (by simp only[u_];omega);refine⟨t,s,j,i,g,q.trans ?_⟩;simp only[kf,l,m]
def A8{c:kq}(b:Rb c.f fit lift)(e:0<c.rows.length)(d:c.rows.length<1000000):dZ [cI c]=Y (.gA,cI { c with rows:=kf fit lift Z' (c.rows.length-1) c.rows }):=by
 show (kE [oC c,M,M,M,M,M]).bind _=_;unfold kE;let a:lV [0] [3,5] ç [oC c,M,M,M,M,M]=Y (.int (c.rows.length-1:Nat)):=by
  have:lV [0] [3,5] ç [oC c,M,M,M,M,M]=Y (.int ((c.rows.map dM).length-1)):=by kernel_rfl
  grind
 rw[aB (f7 a)];rw[aB (f7 rfl)];simp;let(j,i,h,g,f,q):=u9 (c.rows.length-1) 1000000 c Z' M M M b ž ž;unfold wj;rw[q];exact ź
def kP(fit lift:Int->Int->Int)(c:kq)(atoms:Int)(r:dH):kq:=if bA atoms (bN r.atoms) != 0 then { c with rows:=kf fit lift Z' (c.rows.length-1) (c.rows.set (c.rows.length-1) { r with atoms:=bO r.atoms atoms }) } else c
def C_{c:kq}(j:Rb c.f fit lift){r:dH}(b:c.rows[c.rows.length-1]?=Y r)(i:c.rows.length<1000000)(atoms:Int):ij [cI c,.int atoms]=Y (.gA,cI (kP fit lift c atoms r)):=by
 have f:0<c.rows.length:=by have:=(ah.mp b).1;lia
 show (jf [oC c,Y _,M]).bind _=_;unfold jf;rw[aB (uK rfl rfl (zD f))];simp;let a:vR [0] [2] [oC c,Y (.int atoms),gL (c.rows.length-1)]=[Y (cI c),Y (.int atoms),(c.rows.map dM)[c.rows.length-1]?.bind Ö]:=by kernel_rfl
 rw[xF b]at a;unfold gk;rw[(BV a (by kernel_rfl))];simp only[ai];unfold kP;by_cases e:(bA atoms (bN r.atoms) != 0)=Z'
 .rw[if_pos e,if_pos e];rw[aB (Iq (c:=c) (k:=c.rows.length-1) (r:=r) (r':={ r with atoms:=bO r.atoms atoms }) (m:=r.atoms) (n:=atoms) b rfl rfl rfl rfl (by kernel_rfl))];simp only[fS,fT];let d:=A8 (c:={ c with rows:=c.rows.set (c.rows.length-1) { r with atoms:=bO r.atoms atoms } }) j (by simpa using f) (by simpa using i);simp only[vV]at d;unfold f9;let g:bR "Coming" "spread" aE dZ 0 kj [oC { c with rows:=c.rows.set (c.rows.length-1) { r with atoms:=bO r.atoms atoms } },Y (.int atoms),gL (c.rows.length-1)]=(dZ [cI { c with rows:=c.rows.set (c.rows.length-1) { r with atoms:=bO r.atoms atoms } }]).map λq=>(q.1,[Y (.obj aE q.2),Y (.int atoms),M]):=by kernel_rfl
  rw[g,d];exact ź
 .rw[if_neg e,if_neg e];exact ź
def yl(b p a f:Int):Int:=bA (bO p (bA a b)) f*2
def qz(a:Int)(b r:dH):dH:={ r with aK:=yl a b.aK b.ra r.fits,ra:=bO b.ra (yl a b.aK b.ra r.fits) }
abbrev zN(a b:Int)(c r:dH):Bool:=bA (bA (yl a c.aK c.ra r.fits) (bN r.aK)) b != 0
def Ir{p q:Nat}{x y l:Option D}(n:c.rows[q]?=Y r)(v:c.rows[p]?=Y a):vR [0] [4,3] [oC c,x,y,gL p,gL q,l]=[Y (cI c),x,y,Y (dM a),Y (dM r),l]:=by
 let s:vR [0] [4,3] [oC c,x,y,gL p,gL q,l]=[Y (cI c),x,y,((c.rows.map dM)[p]?).bind Ö,((c.rows.map dM)[q]?).bind Ö,l]:=by kernel_rfl
 rw[s,xF n,xF v];rfl
def DS{p:Nat}(n:c.rows[p+1]?=Y r)(v:c.rows[p]?=Y a)(F:(bA (bO a.aK (bA a.ra c.f.inner)) r.fits).natAbs<2 ^ 64)(b:List D)(y:b.length<eJ)(A z l:Option D):
  iK [oC c,Y (.lst b),Y (.int ((p:Int)+1)),A,z,l]=Y (.nx [oC { c with rows:=c.rows.set (p+1) (qz c.f.inner a r) },Y (.lst (b++if zN c.f.inner c.full a r then [.int r.number] else [])),Y (.int ((p:Int)+1)),gL p,gL (p+1),Y (.int r.aK)]):=by
 have w:p+1<c.rows.length:=(ah.mp n).1;unfold iK;let E:e2 m6 (eV 2) na [oC c,Y (.lst b),Y (.int ((p:Int)+1)),A,z,l]=Y (.int (p:Int)):=by
  have:e2 m6 (eV 2) na [oC c,Y (.lst b),Y (.int ((p:Int)+1)),A,z,l]=Y (.int ((p:Int)+1-1)):=by kernel_rfl
  rw[this,Int.add_sub_cancel]
 rw[aB (uK (c:=c) (k:=p) rfl E (uy (by lia)))];simp only[fS,fT];rw[aB (uK (c:=c) (k:=p+1) rfl rfl (by have:=uy (n:=c.rows.length) (k:=p+1) w;simpa using this))];simp only[fS,fT];rw[aB (f7 (d :=.int r.aK) (q_ (Ir n v) (by kernel_rfl) rfl))];simp only[fS,fT];rw[aB (B5 (c:=c) (k:=p+1) (r:=r) n rfl rfl (q_ (Ir n v) (zJ _ _ _ _ F) rfl) (by kernel_rfl))];simp only[fS,fT];generalize f:({ c with rows:=c.rows.set (p+1) { r with aK:=yl c.f.inner a.aK a.ra r.fits } }:kq)=g;have i:g.rows[p+1]?=Y { r with aK:=yl c.f.inner a.aK a.ra r.fits }:=by rw[<- f];simp[w]
 have j:g.rows[p]?=Y a:=by rw[<- f];simp only;rw[au (by omega)];exact v
 rw[aB (B5 (c:=g) (k:=p+1) (d :=.int (bO a.ra (yl c.f.inner a.aK a.ra r.fits))) i rfl rfl (q_ (Ir i j) (by kernel_rfl) rfl) (by kernel_rfl))];simp only[fS,fT];generalize h:({ g with rows:=g.rows.set (p+1) (qz c.f.inner a r) }:kq)=d;let t:d.rows[p+1]?=Y (qz c.f.inner a r):=by rw[<- h,<- f];simp[w]
 let u:d.rows[p]?=Y a:=by rw[<- h];simp only;rw[au (by omega)];exact j
 have k:d={ c with rows:=c.rows.set (p+1) (qz c.f.inner a r) }:=by rw[<- h,<- f];simp
 let x:d.full=c.full:=by rw[k]
 have m:=Ir (x:=Y (.lst b)) (y:=Y (.int ((p:Int)+1))) (l:=Y (.int r.aK)) t u;let C:Az [0] [4,3] (ir sK) _=Y (zN c.f.inner d.full a r):=BV m ź;show gk _ _ _ _=_;unfold gk;rw[C,x];simp only[ai];rw[<- k];by_cases e:zN c.f.inner c.full a r=Z'
 .rw[if_pos e,if_pos e];unfold nH;let B:lV [0] [4,3] (bK "Row" "number" (eV 4)) _=Y (.int r.number):=q_ m ź rfl;rw[B];show (if b.length<eJ then _ else M)=_;rw[if_pos y];rfl
 .rw[if_neg e,if_neg e];simp only[cT];rfl
def hZ(a:Int):dH->List dH->List dH
 |_,[]=>[]|pr,r::b=>qz a pr r::hZ a (qz a pr r) b
def rG(a b:Int):dH->List dH->List Int
 |_,[]=>[]|pr,r::c=>(if zN a b pr r then [r.number] else [])++rG a b (qz a pr r) c
def Yg(a:Int):dH->List dH->Prop
 |_,[]=>True|pr,r::b=>(bA (bO pr.aK (bA pr.ra a)) r.fits).natAbs<2 ^ 64/\Yg a (qz a pr r) b
theorem yO(a:Int):∀(c:dH) (b:List dH),(hZ a c b).length=b.length
 |_,[]=>rfl|c,r::b=>by simp[hZ,yO a _ b]
theorem Em(a b:Int):∀(d:dH) (c:List dH),(rG a b d c).length<=c.length
 |_,[]=>aI _|d,r::c=>by have:=Em a b (qz a d r) c;unfold rG;split<;>simp<;>solve_by_elim
def Ke(b:Int)(n:Nat):lZ b (n+1)=.int b::lZ (b+1) n:=by
 grind [lZ,Rr,cU]
def jx{ρ1:cE}(h:b d c=Y ρ1)(f:g ρ1=Y (.nx a)):ia b g (d::e) c=ia b g e a:=by
 simp_all [ia,ai]
theorem yM:∀(rs pre:List dH) (pr:dH) (c:kq) (ds:List D) (a2 a3 a4 a5:Option D),c.rows=pre++pr::rs->Yg c.f.inner pr rs->ds.length+rs.length<eJ->∃b2 b3 b4 b5,
  ia (gN 2) iK (lZ ((pre.length:Int)+1) rs.length) [oC c,Y (.lst ds),a2,a3,a4,a5]=Y (.nx [oC { c with rows:=pre++pr::hZ c.f.inner pr rs },Y (.lst (ds++(rG c.f.inner c.full pr rs).map D.int)),b2,b3,b4,b5])
 |[],pre,pr,c,ds,a2,a3,a4,a5,e,h,hd=>by refine⟨a2,a3,a4,a5,?_⟩;show Y (DO.nx _)=_;simp only[hZ,rG,Rt,cT,<- e]
 | r::rs,pre,pr,c,ds,a2,a3,a4,a5,e,h,hd=>by
  let hr:c.rows[pre.length+1]?=Y r:=by simp_all
  let hp:c.rows[pre.length]?=Y pr:=by simp_all
  simp only[bZ]at hd ⊢;let hb:=DS hr hp h.1 ds Ž a3 a4 a5;rw[Ke,jx rfl hb];let(b2,b3,b4,b5,q):=yM rs (pre++[pr]) (qz c.f.inner pr r) { c with rows:=c.rows.set (pre.length+1) (qz c.f.inner pr r) } (ds++if zN c.f.inner c.full pr r then [.int r.number] else []) (Y (.int ((pre.length:Int)+1))) (gL pre.length) (gL (pre.length+1)) (Y (.int r.aK)) Ż h.2 (by split<;>simp<;>lia);refine⟨b2,b3,b4,b5,?_⟩;simp only[aS,bZ,qu,Int.natCast_add,Int.natCast_one,Int.natCast_zero,Int.zero_add]at q;rw[q];rw[hZ,rG];simp only[bY,lT,dS,bT];have:(if zN c.f.inner c.full pr r=Z' then [D.int r.number] else [])=Dk D.int (if zN c.f.inner c.full pr r=Z' then [r.number] else []):=by split<;>solve_by_elim
  rw[this]
def Uz{f:DF}{i:Int}(c:f a=Y (.int i))(b:g a=Y (.int j))(h : -(2 ^ 62)<=i/\i<2 ^ 62 /\ -(2 ^ 62)<=j/\j<2 ^ 62):RW f g a=Y (lZ i (j-i).toNat):=by
 simp_all [RW,ai,if_pos]
theorem yu:1000000<=eJ:=by unfold eJ;decide
def Ka(e:c.rows=t::a)(h:Yg c.f.inner t a)(m:a.length<1000000):kI [cI c]=Y ((rG c.f.inner c.full t a).map D.int,cI { c with rows:=t::hZ c.f.inner t a }):=by
 show (kF [oC c,M,M,M,M,M]).bind (RK aE)=_;unfold kF;let g:jq 1 Ð [oC c,M,M,M,M,M]=Y (.nx [oC c,Y (.lst []),M,M,M,M]):=by kernel_rfl
 rw[aB g];let(l,k,j,i,q):=yM a [] t c [] M M M M (by simpa using e) h (by grind [yu,qu]);let f:lV [0] [4,3] (aW fY Db) [oC c,Y (.lst []),M,M,M,M]=Y (.int (a.length+1:Int)):=by
  have:lV [0] [4,3] (aW fY Db) [oC c,Y (.lst []),M,M,M,M]=Y (.int ((c.rows.map dM).length:Int)):=by kernel_rfl
  simp_all
 let d:RW na Õ [oC c,Y (.lst []),M,M,M,M]=Y (lZ 1 a.length):=by
  have:=Uz (f:=eK (.int 1)) (i:=1) rfl f ⟨Ÿ,Ÿ,Ÿ,Ž⟩
  simp_all
 let b:iQ (RW na Õ) (gN 2) iK [oC c,Y (.lst []),M,M,M,M]=Y (.nx [oC { c with rows:=t::hZ c.f.inner t a },Y (.lst ((rG c.f.inner c.full t a).map D.int)),l,k,j,i]):=by simp_all [iQ]
 rw[aB b];exact ź
abbrev Hc(r:dH)(a:qo):Bool:=bA r.aK a.Z != 0||bA r.ra a.around != 0
def l5(a:List dH)(b:qo):Bool:=match a[b.place.toNat]? with|some r=>Hc r b|none=>Z_
abbrev V4(a:List dH)(b:qo):Prop:=0<=b.place/\b.place<a.length
theorem J8(h:V4 c.rows rs)(fs ks:List D)(hf:fs.length<eJ)(hk:ks.length<eJ)(a4:Option D):
  ∃b4,e_ [oC c,Y (.lst fs),Y (.lst ks),Y (fg rs),a4]=Y (.nx [oC c,Y (.lst (fs++if l5 c.rows rs then [.int rs.num] else [])),Y (.lst (ks++if l5 c.rows rs then [] else [fg rs])),Y (fg rs),b4]):=by
 obtain⟨k,hk'⟩:∃k:Nat,rs.place=k:=⟨rs.place.toNat,Ž⟩;have hl:k<c.rows.length:=by have:=h.2;simp_all
 let hr:=ao hl;generalize c.rows[k]=r at hr;let hm:l5 c.rows rs=Hc r rs:=by unfold l5;rw[hk',cC,hr]
 rw[hm];refine⟨gL k,?_⟩;unfold e_;let q0:e2 bW (eV 3) na [oC c,Y (.lst fs),Y (.lst ks),Y (fg rs),a4]=Y (.int rs.place):=by kernel_rfl
 rw[hk']at q0;rw[aB (uK rfl q0 (uy hl))];simp only[fS,fT];let q1:vR [0] [4] [oC c,Y (.lst fs),Y (.lst ks),Y (fg rs),gL k]=[Y (cI c),Y (.lst fs),Y (.lst ks),Y (fg rs),((c.rows.map dM)[k]?).bind Ö]:=by kernel_rfl
 rw[xF hr]at q1;simp only[ai,jI]at q1;let q2:Az [0] [4] (v_ (ir xz) (ir wr)) [oC c,Y (.lst fs),Y (.lst ks),Y (fg rs),gL k]=Y (Hc r rs):=by
  refine BV q1 ?_;let e1:ir xz [Y (cI c),Y (.lst fs),Y (.lst ks),Y (fg rs),Y (dM r)]=Y (bA r.aK rs.Z != 0):=by kernel_rfl
  have e2:ir wr [Y (cI c),Y (.lst fs),Y (.lst ks),Y (fg rs),Y (dM r)]=Y (bA r.ra rs.around != 0):=ź
  unfold v_ Hc;rw[e1,e2];cases (bA r.aK rs.Z != 0)<;>solve_by_elim
 unfold gk;rw[q2];cases Hc r rs with
 |true=>
  show (if fs.length<eJ then _ else M)=_
  simp_all
 |false=>
  show (if ks.length<eJ then _ else M)=_
  simp_all
theorem DE:∀(d:List qo) (c:kq) (g f:List D) (j i:Option D),(∀a∈d,V4 c.rows a)->g.length+d.length<eJ->f.length+d.length<eJ->∃l k,
  ia (gN 3) e_ (d.map fg) [oC c,Y (.lst g),Y (.lst f),j,i]=Y (.nx [oC c,Y (.lst (g++(d.filter (l5 c.rows)).map λa=>D.int a.num)),Y (.lst (f++(d.filter λa=> !l5 c.rows a).map fg)),l,k])
 |[],c,g,f,j,i,h,n,m=>⟨j,i,by simp[ia]⟩
 |a::d,c,g,f,j,i,h,n,m=>by let(b,p):=J8 (h a (aH ..)) g f Ž Ž i;rw[a_,jx rfl p];let(l,k,q):=DE d c (g++if l5 c.rows a then [.int a.num] else []) (f++if l5 c.rows a then [] else [fg a]) _ b (λy o=>h y (aZ _ o)) ŷ ŷ;refine⟨l,k,q.trans ?_⟩;cases e:l5 c.rows a<;>simp[e]
theorem zG:∀(a:List Int),Bn (a.map D.int)=Y a
 |[]=>rfl|n::a=>by simp[Bn,zG a]
def va{f:DF}(e:f b=Y (.lst (a.map D.int)))(h:a.length<64):m8 f b=Y ((wd a).map D.int):=by
 simp_all [m8,ai,zG,if_pos]
def BW(c:kq)(rows:List dH):kq:={ c with rows:=rows,rests:=c.rests.filter λa=> !l5 rows a }
def Mc{F:List D->Option (List D×D)}(d:F [cI c]=Y (a,cI b)):yW 1 0 "Coming" "settle" aE F [oC c,M,M,M,M]=Y (.nx [oC b,Y (.lst a),M,M,M]):=by
 have:yW 1 0 "Coming" "settle" aE F [oC c,M,M,M,M]=(F [cI c]).map λr =>.nx [Y (.obj aE r.2),Y (.lst r.1),M,M,M]:=by kernel_rfl
 simp_all
def iV{n:Nat}(h:n<2000):n<eJ:=bD (Ro h ſ) yu
def AG{c:kq}(e:c.rows=t::a)(h:Yg c.f.inner t a)(A:∀y∈c.rests,V4 c.rows y)(B:(rG c.f.inner c.full t a++(c.rests.filter (l5 (t::hZ c.f.inner t a))).map (·.num)).length<64)(F:a.length<64)(G:c.rests.length<1000):
  eQ [cI c]=Y (.lst ((wd (rG c.f.inner c.full t a++(c.rests.filter (l5 (t::hZ c.f.inner t a))).map (·.num))).map D.int),cI (BW c (t::hZ c.f.inner t a))):=by
 show (iR [oC c,M,M,M,M]).bind (sk aE)=_;unfold iR;let z:=Ka e h Ž;let C:=Em c.f.inner c.full t a;generalize rG c.f.inner c.full t a=i at *
 generalize n:t::hZ c.f.inner t a=rows at *
 let o:rows.length=c.rows.length:=by rw[<- n,e];simp[yO]
 generalize k:({ c with rows:=rows }:kq)=f at *
 have j:f.rows=rows:=by rw[<- k]
 have b:f.rests=c.rests:=by rw[<- k]
 rw[aB (Mc z)];rw[aB ?w]
 case w=>kernel_rfl
 let(m,l,v):=DE f.rests f (i.map D.int) [] M M (by rw[b,j];intro y x;have:=A y x;exact⟨this.1,by rw[o];exact this.2⟩) (iV (by rw[b,az];lia)) (iV (by rw[b,qu];omega));let u:iQ (iL Ý) (gN 3) e_ [oC f,Y (.lst (i.map D.int)),Y (.lst []),M,M]=ia (gN 3) e_ (f.rests.map fg) [oC f,Y (.lst (i.map D.int)),Y (.lst []),M,M]:=by kernel_rfl
 rw[aB (u.trans v)];simp only[dS];rw[b,j];let s:(i.map D.int++(c.rests.filter (l5 rows)).map λa=>D.int a.num)=(i++(c.rests.filter (l5 rows)).map (·.num)).map D.int:=by simp[cU]
 rw[s];generalize i++(c.rests.filter (l5 rows)).map (·.num)=g at *
 rw[aB ?r]
 case r=>rw[<- k];exact ź
 generalize (wd g).map D.int=E at *
 let p:(fE (mP (eF (m8 (eV 1)))) [oC (BW c rows),Y (.lst (g.map D.int)),Y (.lst ((c.rests.filter λa=> !l5 rows a).map fg)),m,l])=((m8 (eV 1) [oC (BW c rows),Y (.lst (g.map D.int)),Y (.lst ((c.rests.filter λa=> !l5 rows a).map fg)),m,l]).map D.lst).bind λd=>Y (.rm d [oC (BW c rows),Y (.lst (g.map D.int)),Y (.lst ((c.rests.filter λa=> !l5 rows a).map fg)),m,l]):=by unfold fE mP eF;cases m8 (eV 1) [oC (BW c rows),Y (.lst (g.map D.int)),Y (.lst ((c.rests.filter λa=> !l5 rows a).map fg)),m,l]<;>rfl
 rw[p,(va rfl B)];exact ź
def Hn{r r':dH}{f:aJ}{d:D}(h:eV i a=Y (dM r))(g:b a=Y d)(c:D.ins "Row" (jV f d rk (rl r)).1 (jV f d rk (rl r)).2=dM r'):l9 i "Row" f b a=Y (.nx (a.set i (Y (dM r')))):=by
 let e:EH "Row" i a=Y (rk,rl r):=by unfold EH;rw[h];exact ź
 simp_all [l9,ai,if_pos]
def m9(fit:Int->Int->Int)(c:kq)(d a b:Int)(e:dH):dH:=⟨d,a,b,fit a b,0,0,yl c.f.inner e.fW e.ha (bA a c.fm),bO e.ha (yl c.f.inner e.fW e.ha (bA a c.fm))⟩
def Qd{m:Int}(h:c.rows.length<eJ):B2 0 4 "Coming" "rows" [oC c,Y (.int n),Y (.int m),Y (.int k),Y (dM r),gL j]=Y (.nx [oC { c with rows:=c.rows++[r] },Y (.int n),Y (.int m),Y (.int k),M,M]):=by
 let e:rW "Coming" "rows" 0 [oC c,Y (.int n),Y (.int m),Y (.int k),Y (dM r),gL j]=Y (qh,ck,cl c,D.lst (c.rows.map dM)):=by kernel_rfl
 unfold B2;rw[e];let b:eV 4 [oC c,Y (.int n),Y (.int m),Y (.int k),Y (dM r),gL j]=Y (.ins _ rk _):=rfl;rw[b];simp only[ai];rw[if_pos ⟨by solve_by_elim,by simp_all⟩];let a:c.rows.map dM++[D.ins "Row" rk (rl r)]=(c.rows++[r]).map dM:=by rw[bT];exact Ÿ
 rw[a];exact ź
def C3{c:kq}(l:Rb c.f fit lift){pr:dH}(g:c.rows.getLast? = Y pr)(d a b:Int)(j:(bA (bO pr.fW (bA pr.ha c.f.inner)) (bA a c.fm)).natAbs<2 ^ 64)(i:c.rows.length<eJ):
  ig [cI c,.int d,.int a,.int b]=Y (.gA,cI { c with rows:=c.rows++[m9 fit c d a b pr] }):=by
 show (je [oC c,Y (.int d),Y (.int a),Y (.int b),M,M]).bind (sk aE)=_;unfold je;let k:0<c.rows.length:=by cases h:c.rows<;>simp_all
 let f:c.rows[c.rows.length-1]?=Y pr:=by rw[<- LK];exact g
 rw[aB (f7 (by kernel_rfl))];simp;rw[aB (uK rfl rfl (zD k))];simp;have e:∀x,vR [0] [5] [oC c,Y (.int d),Y (.int a),Y (.int b),Y (dM x),gL (c.rows.length-1)]=[Y (cI c),Y (.int d),Y (.int a),Y (.int b),Y (dM x),Y (dM pr)]:=by
  intro x;have:vR [0] [5] [oC c,Y (.int d),Y (.int a),Y (.int b),Y (dM x),gL (c.rows.length-1)]=[Y (cI c),Y (.int d),Y (.int a),Y (.int b),Y (dM x),((c.rows.map dM)[c.rows.length-1]?).bind Ö]:=by kernel_rfl
  rw[this,xF f]
  exact Ÿ
 rw[aB (Hn (r:=⟨d,a,b,0,0,0,0,0⟩) rfl (q_ (e _) (l.fit _ _) rfl) (by kernel_rfl))];simp;rw[aB (Hn (r:=⟨d,a,b,fit a b,0,0,0,0⟩) rfl (q_ (e _) (zJ _ _ _ _ j) rfl) (by kernel_rfl))];simp;rw[aB (Hn (r:=⟨d,a,b,fit a b,0,0,yl c.f.inner pr.fW pr.ha (bA a c.fm),0⟩) (r':=m9 fit c d a b pr) (d :=.int (bO pr.ha (yl c.f.inner pr.fW pr.ha (bA a c.fm)))) rfl (q_ (e _) (by kernel_rfl) rfl) (by kernel_rfl))];simp;rw[Qd i];exact ź
abbrev LB(a:Int)(r:dH):Bool:=bA (bA r.fW (bN r.aK)) a != 0
theorem AY(c:kq):∀(b:List dH) (a:List D) (d:Option D),a.length+b.length<eJ->∃f,
  ia (gN 2) hI (b.map dM) [Y (cI c),Y (.lst a),d]=Y (.nx [Y (cI c),Y (.lst (a++(b.filter (LB c.full)).map λr=>D.int r.number)),f])
 |[],a,d,_=>⟨d,by simp[ia]⟩
 | r::b,a,d,h=>by
  simp at h;let g:hI [Y (cI c),Y (.lst a),Y (dM r)]=Y (.nx [Y (cI c),Y (.lst (a++if LB c.full r then [.int r.number] else [])),Y (dM r)]):=by
   unfold hI gk;let e:ir Ix [Y (cI c),Y (.lst a),Y (dM r)]=Y (LB c.full r):=by kernel_rfl
   rw[e];cases LB _ r with
   |true=>
    show (if a.length<eJ then _ else M)=_;rw[if_pos (by lia)]
    exact Ÿ
   |false=>simp;rfl
  rw[a_,jx rfl g];let(f,q):=AY c b (a++if LB _ r then [.int _] else []) _ ŷ;refine⟨f,q.trans ?_⟩;cases e:LB _ r<;>simp[e]
def tI(c:kq):List Int:=c.rests.map (·.num)++(c.rows.filter (LB c.full)).map (·.number)
theorem IX:∀(a:List qo),rA [M] (gN 0) gU (e2 bW (eV 0) u8) (a.map fg)=Y ((a.map (·.num)).map D.int)
 |[]=>rfl|x::a=>by rw[a_,rA];rw[IX a];rfl
def LN(c:kq)(l:c.rests.length<=1000)(k:c.rows.length<=500)(i:(tI c).length<64):jU [cI c]=Y ((wd (tI c)).map D.int):=by
 show (lJ [Y (cI c),M,M]).bind Gs=_;unfold lJ;let b:=yu;rw[aB (ρ':=[Y (cI c),Y _,M]) ?h]
 case h=>
  let e:mx (iL (bK "Coming" "rests" (eV 0))) [M] (gN 0) gU (e2 bW (eV 0) u8) [Y (cI c),M,M]=Y ((c.rests.map (·.num)).map D.int):=by
   unfold mx;let a:iL (bK "Coming" "rests" (eV 0)) [Y (cI c),M,M]=Y (c.rests.map fg):=by kernel_rfl
   rw[a];simp only[ai];rw[if_pos (by grind)];exact IX _
  unfold jq;rw[e]
  exact Ÿ
 let(j,g):=AY c c.rows ((c.rests.map (·.num)).map D.int) M (iV ŷ);let f:iQ (iL (bK "Coming" "rows" (eV 0))) (gN 2) hI [Y (cI c),Y (.lst ((c.rests.map (·.num)).map D.int)),M]=ia (gN 2) hI (c.rows.map dM) [Y (cI c),Y (.lst ((c.rests.map (·.num)).map D.int)),M]:=by solve_by_elim
 rw[aB (f.trans g)];let e:(c.rests.map (·.num)).map D.int++(c.rows.filter (LB c.full)).map (λr=>D.int r.number)=(tI c).map D.int:=by unfold tI;simp[cU]
 rw[e];unfold mN;rw[(va rfl i)];rfl
def SS{p:Nat}(h:p<=1000):p_ (.int 1) (.int (p:Int))=Y (.int (2 ^ p)):=by
 simp only[p_]
 grind
noncomputable def KJ(x:qo):List qo->List qo
 |[]=>[x]|y::b=>if x.num<y.num then x::y::b else y::KJ x b
noncomputable def wb:List qo->List qo
 |[]=>[]|x::b=>KJ x (wb b)
theorem Bo(x:qo):∀l,(KJ x l).Perm (x::l)
 |[] =>.rfl| y::b=>by
  unfold KJ;split
  .exact .rfl
  .exact((Bo x b).cons y).trans (.swap x y b)
theorem n5:∀l,(wb l).Perm l
 |[] =>.rfl|x::b=>(Bo x _).trans ((n5 b).cons x)
theorem Np(x:qo):∀l:List qo,EG Ut (fg x) (l.map fg)=(KJ x l).map fg
 |[]=>rfl| y::b=>by
  unfold KJ;show (if x.num<y.num then _ else _)=_;split
  .rfl
  .rw[Np x b];rfl
theorem L0:∀l:List qo,J_ Ut (l.map fg)=(wb l).map fg
 |[]=>rfl|x::b=>by rw[a_,J_,L0 b,Np];rfl
abbrev oR(r:dH):Option D:=Y (dM r)
noncomputable abbrev nE(m:qo):Bool:=m.Z != 0||m.around != 0
def yj(c:kq)(b:Nat)(r pr:dH)(m:qo):qo:=if m.place=b then zo c m r pr else m
def Qf{F:List D->Option D}{f:Option D}{m:qo}:ji "Coming" "moved_out" F (eV 0) (aC (eV 5) pc) [Y (cI c),oR r,Y (.int n),f,e,Y (fg m),b]=F [cI c,fg m,dM r]:=by kernel_rfl
theorem N5{r:dH}(hp:c.rows.getLast? = Y pr)(m:qo)(place:Nat)(xs ks:List D)(hk:ks.length<eJ)(a6:Option D):∃b6,
  gc [oC c,oR r,Y (.int place),Y (.lst xs),Y (.lst ks),Y (fg m),a6]=Y (.nx [oC c,oR r,Y (.int place),Y (.lst xs),Y (.lst (ks++if nE (yj c place r pr m) then [fg (yj c place r pr m)] else [])),Y (fg m),b6]):=by
 refine⟨Y (fg (yj c place r pr m)),?_⟩;let q1:vR [0,1] [] [oC c,oR r,Y (.int place),Y (.lst xs),Y (.lst ks),Y (fg m),a6]=[Y (cI c),oR r,Y (.int place),Y (.lst xs),Y (.lst ks),Y (fg m),a6]:=by kernel_rfl
 let q2:QF (dB É) (ji "Coming" "moved_out" ie (eV 0) (aC (eV 5) pc)) (eV 5) [Y (cI c),oR r,Y (.int place),Y (.lst xs),Y (.lst ks),Y (fg m),a6]=Y (fg (yj c place r pr m)):=by
  let e1:dB É [Y (cI c),oR r,Y (.int place),Y (.lst xs),Y (.lst ks),Y (fg m),a6]=Y (Dw (.int m.place) (.int (place:Int))):=by kernel_rfl
  let e2:Dw (.int m.place) (.int (place:Int))=decide (m.place=place):=by solve_by_elim
  unfold QF;rw[e1,e2];simp only[ai];unfold yj;by_cases h:m.place=place
  .rw[decide_eq_true h,if_pos rfl,if_pos h,Qf];exact Cj c m r pr hp
  .rw[decide_eq_false h,if_neg (by simp),if_neg h];rfl
 unfold gc;rw[aB (f7 (q_ q1 q2 (by kernel_rfl)))];simp only[fS,fT];generalize yj c place r pr m=m';let q3:v_ (ir (e2 bW (eV 6) nb)) (ir (e2 bW (eV 6) Ch)) [oC c,oR r,Y (.int place),Y (.lst xs),Y (.lst ks),Y (fg m),Y (fg m')]=Y (nE m'):=by
  let e1:ir (e2 bW (eV 6) nb) [oC c,oR r,Y (.int place),Y (.lst xs),Y (.lst ks),Y (fg m),Y (fg m')]=Y (m'.Z != 0):=by kernel_rfl
  let e2:ir (e2 bW (eV 6) Ch) [oC c,oR r,Y (.int place),Y (.lst xs),Y (.lst ks),Y (fg m),Y (fg m')]=Y (m'.around != 0):=by kernel_rfl
  unfold v_ nE;rw[e1,e2];cases (m'.Z != 0)<;>rfl
 unfold gk;rw[q3];simp only[ai];cases nE m' with
 |true=>show (if ks.length<eJ then _ else M)=_;rw[if_pos hk];rfl
 |false=>simp;rfl
theorem Jq{r:dH}(s:c.rows.getLast? = Y k)(f:Nat)(j:List D):∀(l:List qo) (g:List D) (n i:Option D),g.length+l.length<eJ->∃p o,
  ia (gN 5) gc (l.map fg) [oC c,oR r,Y (.int f),Y (.lst j),Y (.lst g),n,i]=Y (.nx [oC c,oR r,Y (.int f),Y (.lst j),Y (.lst (g++((l.map (yj c f r k)).filter nE).map fg)),p,o])
 |[],g,n,i,h=>⟨n,i,by simp[ia]⟩
 |m::l,g,n,i,h=>by simp at h;let(b,t):=N5 s m f j g Ž i;rw[a_,jx rfl t];let(p,o,q):=Jq s f j l (g++if nE _ then [fg _] else []) _ b (by split<;>simp<;>omega);refine⟨p,o,q.trans ?_⟩;cases e:nE _<;>simp[FK,e]
noncomputable def eB(c:kq):kq:={ c with rows:=c.rows.dropLast }
def m_(b:kq)(r:dH):List qo:=b.rests++if bA r.aK b.full != 0 then [] else [qo.mk r.number (b.rows.length:Int) b.full 0]
def wO(c:kq)(r b:dH):kq:={ eB c with rests:=((wb (m_ (eB c) r)).map (yj (eB c) (eB c).rows.length r b)).filter nE }
def L9{f:DF}{ρ:cE}(e:f ρ=Y (.lst (b.map fg)))(c:(b.map (·.num)).Nodup)(g:b.length<64):zR f ρ=Y ((wb b).map fg):=by
 unfold zR;rw[e];simp only[ai];rw[if_pos ⟨⟨by simp[jn,cU,Xi,fg],by rw[qZ];exact c⟩,by simp_all⟩,L0]
def To(b:c.rows.getLast? = Y r):D0 1 0 "Coming" "rows" [oC c,M,M,M,M,M,M]=Y (.nx [oC { c with rows:=c.rows.dropLast },oR r,M,M,M,M,M]):=by
 let e:rW "Coming" "rows" 0 [oC c,M,M,M,M,M,M]=Y (qh,ck,cl c,D.lst (c.rows.map dM)):=by kernel_rfl
 unfold D0;rw[e];simp only[ai];let f:(c.rows.map dM).getLast? = Y (.ins "Row" rk (rl r)):=by rw[List.getLast?_map,b];exact Ÿ
 rw[f,<- List.map_dropLast];exact ź
def Ht{c:kq}(hr:c.rows.getLast? = Y r)(hp:(eB c).rows.getLast? = Y pr)(hn:((m_ (eB c) r).map (·.num)).Nodup)(hl:(m_ (eB c) r).length<64):
  hU [cI c]=Y (.gA,cI (wO c r pr)):=by
 show (j1 [oC c,M,M,M,M,M,M]).bind (sk aE)=_;unfold j1;rw[aB (To hr)];unfold wO;show (aU _ _ [oC (eB c),oR r,M,M,M,M,M]).bind _=_;generalize eB c=c1 at *
 let hlr:c1.rests.length<64:=by unfold m_ at hl;rw[aS]at hl;omega
 rw[aB (ρ':=[oC c1,oR r,Y (.int (c1.rows.length:Int)),M,M,M,M]) ?q1]
 case q1=>
  have:lV [0] [] (aW fY Db) [oC c1,oR r,M,M,M,M,M]=Y (.int ((c1.rows.map dM).length:Int)):=by kernel_rfl
  rw[az]at this;rw[f7 this];rfl
 rw[aB (ρ':=[oC c1,oR r,Y (.int (c1.rows.length:Int)),Y (.lst (c1.rests.map fg)),M,M,M]) ?q2]
 case q2=>kernel_rfl
 rw[aB (ρ':=[oC c1,oR r,Y (.int (c1.rows.length:Int)),Y (.lst ((m_ c1 r).map fg)),M,M,M]) ?q3]
 case q3=>
  let e1:Az [0] [] (u4 (ir Æ)) [oC c1,oR r,Y (.int (c1.rows.length:Int)),Y (.lst (c1.rests.map fg)),M,M,M]=Y (!(bA r.aK c1.full != 0)):=by kernel_rfl
  unfold gk m_;rw[e1];simp only[ai];cases bA r.aK c1.full != 0 with
  |true=>simp;rfl|false=>
   let e2:lV [0] [] wE [oC c1,oR r,Y (.int (c1.rows.length:Int)),Y (.lst (c1.rests.map fg)),M,M,M]=Y (fg (qo.mk r.number (c1.rows.length:Int) c1.full 0)):=by kernel_rfl
   simp only[Ly,if_true];unfold nH;rw[e2];show (if (c1.rests.map fg).length<eJ then _ else M)=_;rw[if_pos (iV (by rw[az];omega))];simp
 generalize m_ c1 r=ms at *
 rw[aB (ρ':=[oC c1,oR r,Y (.int (c1.rows.length:Int)),Y (.lst (ms.map fg)),Y (.lst []),M,M]) ?q4]
 case q4=>kernel_rfl
 let(b5,b6,q5):=Jq (r:=r) hp c1.rows.length (ms.map fg) (wb ms) [] M M (iV (by rw[(n5 ms).length_eq];simp;omega));let q6:iQ (iL (eF (zR (eV 3)))) (gN 5) gc [oC c1,oR r,Y (.int (c1.rows.length:Int)),Y (.lst (ms.map fg)),Y (.lst []),M,M]=ia (gN 5) gc ((wb ms).map fg) [oC c1,oR r,Y (.int (c1.rows.length:Int)),Y (.lst (ms.map fg)),Y (.lst []),M,M]:=by let e1:=L9 (f:=eV 3) (ρ:=[oC c1,oR r,Y (.int (c1.rows.length:Int)),Y (.lst (ms.map fg)),Y (.lst []),M,M]) rfl hn hl;unfold iQ iL eF;rw[e1];rfl
 rw[aB (q6.trans q5)]
 exact Ÿ
inductive k9
 |op (n:aJ)
 |tx (t:aJ)
 |cl
noncomputable def dI:k9->D
 |.op n =>.tup [.str (ae "open"),.str n]|.tx t =>.tup [.str (ae "text"),.str t]|.cl =>.tup [.str (ae "close")]
noncomputable def Vi(s:k9)(w b:Bool):Bool:=match s with|.op _=>w || !b|_=>w
def Vh(s:k9)(w b:Bool):mD [dI s,.bl w,.bl b]=Y (.bl (Vi s w b)):=by
 cases s<;>cases w<;>cases b<;>kernel_rfl
def Lb{F:List D->Option D}{s:D}:aW F kw [Y (cI c),Y s]=F [s,.bl (decide (1<((c.rows.map dM).length:Int))),.bl (decide (0<c.opened))]:=by kernel_rfl
abbrev ND(c:kq)(s:k9):Bool:=Vi s (decide (1<c.rows.length)) (decide (0<c.opened))
def uC{c:kq}{s:k9}(h:ND c s=Z'):gk (Az [0] [] (u4 (ir (aW mD kw)))) Gj eI [oC c,Y (dI s)]=Y (.nx [oC c,Y (dI s)]):=by
 let a:vR [0] [] [oC c,Y _]=[Y _,Y (dI s)]:=rfl;let d:decide (1<((c.rows.map dM).length:Int))=decide (1<c.rows.length):=by grind
 let b:Az [0] [] (u4 (ir (aW mD kw))) [oC c,Y (dI s)]=Y false:=by refine BV a ?_;unfold u4 ir;rw[Lb,d,Vh,show Vi s _ _=Z' from h];rfl
 unfold gk;rw[b];rfl
noncomputable def fF(c:kq):kq:={ c with taken:=c.taken+1 }
def uB(c:kq)(s:k9):gO Z_ 0 "Coming" "taken" (λi j=>i+j) na [oC c,Y (dI s)]=Y (.nx [oC (fF c),Y (dI s)]):=by
 exact Ÿ
def zV{F:List D->Option (D×D)}{m:aJ}{s:k9}(b:m∉ck)(h:F [cI c]=Y (d,cI a)):bR "Coming" m aE F 0 kj [oC c,Y (dI s)]=Y (d,[oC a,Y (dI s)]):=by
 have:bR _ m aE F 0 kj [oC c,Y (dI s)]=if (("Coming" : aJ) = "Coming" /\("Coming" : aJ) = "Coming")/\m∉ck then (F _).map _ else none:=rfl
 rw[this,if_pos ⟨⟨rfl,rfl⟩,b⟩,h];cases s<;>rfl
def QY(c:kq)(s:k9):dB EQ [oC c,Y (dI s)]=Y (match s with|.cl=>Z'|_=>Z_):=by cases s<;>kernel_rfl
def MH(c:kq)(s:k9):dB PP [oC c,Y (dI s)]=Y (match s with|.op _=>Z'|_=>Z_):=by cases s<;>kernel_rfl
def SX(e:g b=Y (.rm d a)):aU g h b=Y (.rm d a):=by unfold aU;rw[e];rfl
def Hr(h:ND c .cl=Z')(d:c.rows.getLast? = Y r)(e:(eB c).rows.getLast? = Y pr)(f:((m_ (eB c) r).map (·.num)).Nodup)(g:(m_ (eB c) r).length<64):
  gn [cI c,dI .cl]=Y (.lst [],cI (wO (fF c) r pr)):=by
 show (g9 [oC c,Y _]).bind _=_;unfold g9;rw[aB (uC h),aB (uB c _)];let i:=Ht (c:=fF c) d e f g;generalize wO _ r pr=a at *
 generalize fF c=b at *
 let q:gk (dB EQ) (aU (f9 (bR "Coming" "end_row" aE hU 0 kj)) (fE (mP Uf))) eI [oC b,Y (dI .cl)]=Y (.rm (.lst []) [oC a,Y (dI .cl)]):=by
  unfold gk;have:f9 (bR "Coming" "end_row" aE hU 0 kj) [oC b,Y (dI .cl)]=Y (.nx [oC a,Y (dI .cl)]):=by unfold f9;rw[zV (by decide) i];rfl
  rw[aB this];rfl
 rw[SX q];exact ź
structure Zk(f:w8)(gV txt:aJ->Int):Prop where
 gV:∀n,fO [jg f,.str n]=some (.int (gV n))
 txt:∀t,fN [jg f,.str t]=some (.int (txt t))
def Pp{F:List D->Option D}:lV [0] [] (ji "Facts" "steps_for" F (bK "Coming" "facts" (eV 0)) lw) [oC c,Y (dI (.op n))]=(F [jg c.f,.str n]).bind λd=>if qI d=Z' then Y d else none:=by kernel_rfl
def Pe{F:List D->Option D}:lV [0] [] (ji "Facts" "text_fact" F (bK "Coming" "facts" (eV 0)) lw) [oC c,Y (dI (.tx n))]=(F [jg c.f,.str n]).bind λd=>if qI d=Z' then Y d else none:=by kernel_rfl
def HI{F:List D->Option (D×D)}{s:k9}(d:a [oC c,Y (dI s)]=Y (.int n))(h:F [cI c,.int c.opened,.int n,.int 0]=Y (.gA,cI b)):
  f9 (bR "Coming" "begin_row" aE F 0 (ju (mP IN) (ju (mP a) Ã))) [oC c,Y (dI s)]=Y (.nx [oC b,Y (dI s)]):=by
 have i:lV [0] [] (bK "Coming" "opened" (eV 0)) [oC c,Y (dI s)]=Y (.int c.opened):=ź
 have e:ju (mP IN) (ju (mP a) Ã) [oC c,Y (dI s)]=Y ([.int c.opened,.int n,.int 0],[oC c,Y (dI s)]):=by unfold ju mP;simp only[i,d,cS,ai];rfl
 unfold f9;have:∀g,bR "Coming" "begin_row" aE F 0 g [oC c,Y (dI s)]=(g [oC c,Y (dI s)]).bind λq=>(oi aE 0 q.2).bind λt=>(F (t::q.1)).map λr=>(r.1,(fU 0 q.2).set 0 (Y (.obj aE r.2))):=by solve_by_elim
 rw[this,e];simp only[ai];have f:oi aE 0 [oC c,Y (dI s)]=Y (cI c):=ź
 rw[f];simp only[ai,h];cases s<;>rfl
def OM{F:List D->Option (D×D)}{s:k9}(d:a [oC c,Y (dI s)]=Y (.int n))(h:F [cI c,.int n]=Y (.gA,cI b)):
  f9 (bR "Coming" "add_atoms" aE F 0 (ju (mP a) kj)) [oC c,Y (dI s)]=Y (.nx [oC b,Y (dI s)]):=by
 have e:ju (mP a) kj [oC c,Y (dI s)]=Y ([.int n],[oC c,Y (dI s)]):=by unfold ju mP;simp only[d,cS,ai];rfl
 unfold f9;have:∀g,bR "Coming" "add_atoms" aE F 0 g [oC c,Y (dI s)]=(g [oC c,Y (dI s)]).bind λq=>(oi aE 0 q.2).bind λt=>(F (t::q.1)).map λr=>(r.1,(fU 0 q.2).set 0 (Y (.obj aE r.2))):=by solve_by_elim
 rw[this,e];simp only[ai];have f:oi aE 0 [oC c,Y (dI s)]=Y (cI c):=ź
 rw[f];simp only[ai,h];cases s<;>rfl
def Bu{F:List D->Option (D×D)}{s:k9}(h:F [cI c]=Y (d,cI a)):(fE (bR "Coming" "newly_told" aE F 0 kj) [oC c,Y (dI s)]).bind (sk aE)=Y (d,cI a):=by
 unfold fE;rw[zV (by decide) h];exact ź
def Bh{c:kq}{s:k9}(h:(match s with|.cl=>Z'|_=>Z_)=Z_)(g:DG):gk (dB EQ) g eI [oC c,Y (dI s)]=Y (.nx [oC c,Y (dI s)]):=by
 unfold gk;rw[QY,h];rfl
def Gx(fit lift:Int->Int->Int)(c:kq)(b:Int)(pr:dH):kq:=
 let a:=c.rows++[m9 fit c c.opened b 0 pr]
 { c with opened:=c.opened+1,rows:=kf fit lift Z' (a.length-1) a }
def K1{f:aJ->Int}(q:Rb c.f fit lift)(v:Zk c.f a f)(t:ND c (.op n)=Z')(s:c.rows.getLast? = Y pr)(u:(bA (bO pr.fW (bA pr.ha c.f.inner)) (bA (a n) c.fm)).natAbs<2 ^ 64)(w:c.rows.length<1000)(r:eQ [cI (Gx fit lift (fF c) (a n) pr)]=Y (d,cI p)):gn [cI c,dI (.op n)]=Y (d,cI p):=by
 show (g9 [oC c,Y (dI (.op n))]).bind (sk aE)=_;unfold g9;rw[aB (uC t),aB (uB c _),aB (Bh rfl _)];let m:=C3 (c:=fF c) (fit:=fit) (lift:=lift) q (pr:=pr) s c.opened (a n) 0 u (iV (by show c.rows.length<2000;omega));let h:=A8 (c:={ fF c with opened:=(fF c).opened+1,rows:=(fF c).rows++[m9 fit (fF c) c.opened (a n) 0 pr] }) (fit:=fit) (lift:=lift) q ż (by simp[fF];omega);let g:lV [0] [] (ji "Facts" "steps_for" fO (bK "Coming" "facts" (eV 0)) lw) [oC (fF c),Y (dI (.op n))]=Y (.int (a n)):=by rw[Pp];rw[show fO [jg (fF c).f,.str n]=_ from v.gV n];rfl
 let b:=HI (s :=.op n) g m;let e:gO Z_ 0 "Coming" "opened" (λi j=>i+j) na [oC { fF c with rows:=(fF c).rows++[m9 fit (fF c) c.opened (a n) 0 pr] },Y (dI (.op n))]=Y (.nx [oC { fF c with opened:=(fF c).opened+1,rows:=(fF c).rows++[m9 fit (fF c) c.opened (a n) 0 pr] },Y (dI (.op n))]):=by kernel_rfl
 let l:f9 (bR "Coming" "spread" aE dZ 0 kj) [oC { fF c with opened:=(fF c).opened+1,rows:=(fF c).rows++[m9 fit (fF c) c.opened (a n) 0 pr] },Y (dI (.op n))]=Y (.nx [oC (Gx fit lift (fF c) (a n) pr),Y (dI (.op n))]):=by unfold f9;rw[zV (by decide) h];rfl
 let k:∀o,gk (dB PP) (aU (f9 (bR "Coming" "begin_row" aE ig 0 io)) (aU (gO Z_ 0 "Coming" "opened" (λi j=>i+j) na) (f9 (bR "Coming" "spread" aE dZ 0 kj)))) o [oC (fF c),Y (dI (.op n))]=Y (.nx [oC (Gx fit lift (fF c) (a n) pr),Y (dI (.op n))]):=by simp_all [gk,MH,ai,if_true,aB]
 rw[aB (k _)];exact Bu r
def K0{f:aJ->Int}(o:Rb c.f fit lift)(n:Zk c.f f a)(m:ND c (.tx t)=Z')(l:c.rows[c.rows.length-1]?=Y r)(p:c.rows.length<1000)(k:eQ [cI (kP fit lift (fF c) (a t) r)]=Y (d,cI j)):gn [cI c,dI (.tx t)]=Y (d,cI j):=by
 show (g9 [oC c,Y _]).bind (sk aE)=_;unfold g9;rw[aB (uC m),aB (uB c _),aB (Bh rfl _)];let e:=C_ (c:=fF c) (fit:=fit) (lift:=lift) o (r:=r) l (by show c.rows.length<1000000;omega) (a t);let g:lV [0] [] (ji "Facts" "text_fact" fN (bK "Coming" "facts" (eV 0)) lw) [oC (fF c),Y (dI (.tx t))]=Y (.int (a t)):=by rw[Pe];rw[show fN [jg (fF c).f,.str t]=_ from n.txt t];rfl
 let b:=OM (s :=.tx t) g e;let h:∀i,gk (dB PP) i (f9 (bR "Coming" "add_atoms" aE ij 0 At)) [oC (fF c),Y (dI (.tx t))]=Y (.nx [oC (kP fit lift (fF c) (a t) r),Y (dI (.tx t))]):=by simp_all [gk,MH,ai,gR,if_false]
 rw[aB (h _)];exact Bu k
def pG(c:kq)(a:List Int):D :=.ins "Sift" ["coming","numbers"] [cI c,.lst (a.map D.int)]
abbrev oS(c:kq)(a:List Int):Option D:=Y (.obj gC (pG c a))
def F5{F:List D->Option (D×D)}{a:List Int}{s:k9}:lC 2 (qK "Sift" "coming" "Coming" "feed" aE F 0 pc) [oS c a,Y (dI s),M]=(F [cI c,dI s]).map λr =>.nx [Y (.obj gC (.ins "Sift" ["coming","numbers"] [r.2,.lst (a.map D.int)])),Y (dI s),Y r.1]:=by
 let e:qK "Sift" "coming" "Coming" "feed" aE F 0 pc [oS c a,Y (dI s),M]=(F [cI c,dI s]).map λr=>(r.1,[Y (.obj gC (.ins "Sift" ["coming","numbers"] [r.2,.lst (a.map D.int)])),Y (dI s),M]):=by cases s<;>kernel_rfl
 unfold lC;rw[e];cases F _<;>rfl
theorem qG:∀a:List Int,qH (a.map D.int)=Z'
 |[]=>rfl|n::a=>by rw[a_,qH,qG a];rfl
def Pl{b:List Int}{s:k9}(h:gn [cI c,dI s]=Y (.lst (b.map D.int),cI d))(e:(a++b).length<64):
  lb [pG c a,dI s]=Y (.lst (b.map D.int),pG d (wd (a++b))):=by
 show (pa [oS c a,Y (dI s),M]).bind (sk gC)=_;unfold pa;let q0:lC 2 (qK "Sift" "coming" "Coming" "feed" aE gn 0 pc) [oS c a,Y (dI s),M]=Y (.nx [oS d a,Y (dI s),Y (.lst (b.map D.int))]):=by rw[F5,h];rfl
 rw[aB q0];let q1:vR [0] [] [oS d a,Y (dI s),Y _]=[Y (pG d a),Y (dI s),Y (.lst (b.map D.int))]:=rfl;let q2:e2 f_ (bK "Sift" "numbers" (eV 0)) (eV 2) [Y (pG d a),Y (dI s),Y (.lst (b.map D.int))]=Y (.lst ((a++b).map D.int)):=by
  have:e2 f_ (bK "Sift" "numbers" (eV 0)) (eV 2) [Y (pG d a),Y (dI s),Y (.lst (b.map D.int))]=f_ (.lst (a.map D.int)) (.lst (b.map D.int)):=by kernel_rfl
  rw[this];simp only[f_];rw[if_pos (by have:=iV (n:=(a.map D.int).length+(b.map D.int).length) (by grind);omega),bT]
 let q3:=va q2 e;let q4:NW [0] [] AC [oS d a,Y (dI s),Y (.lst (b.map D.int))]=Y ((wd (a++b)).map D.int):=by simp_all [NW,ai,if_pos,qG]
 let f:fV Z_ 0 "Sift" "numbers" (eF (NW [0] [] AC)) [oS d a,Y (dI s),Y (.lst (b.map D.int))]=Y (.nx [oS d (wd (a++b)),Y (dI s),Y (.lst (b.map D.int))]):=by unfold fV eF;rw[q4];exact ź
 rw[aB f];exact ź
def Pg(c:kq)(a:List Int)(h:a.length<2000):pw [pG c a]=Y (a.map D.int):=by
 exact Ÿ
def FT(c:kq)(a:List Int)(h:jU [cI c]=Y l):lN [pG c a]=Y l:=by
 let e:∀F,sL "Coming" "waits" F (bK "Sift" "coming" (eV 0)) [Y (pG c a)]=F [cI c]:=by solve_by_elim
 show (lH [Y _]).bind _=_;unfold lH mN;rw[e,h];rfl
def uL:Nat->D->Prop
 |0,_=>False|n+1,d=>∃a e,d=.tup [.int a,.lst e]/\0<=a/\e.length<=1000/\∀c∈e,∃b,c=.lst b/\b.length<=1000/\∀x∈b,uL n x
def oJ:Nat->D->Int->Bool
 |n+1,.tup [.int b,.lst e],a=>(bA a b==b)&&e.all λc=>match c with|.lst d=>d.any λx=>oJ n x a|_=>Z_
 |_,_,_=>Z_
def GP:oJ (n+1) (.tup [.int b,.lst e]) a=((bA a b==b)&&e.all λc=>match c with|.lst d=>d.any λx=>oJ n x a|_=>Z_):=rfl
theorem ux:∀(b:List D),(∀d∈b,∃a,gN 0 d c=Y a/\e a=Y (g d))->rA c (gN 0) gU e b=Y (b.map g)
 |[],_=>rfl|d::b,h=>by let(a,j,i):=h d aH ..;rw[rA,j];simp only[ai,gU,if_true,i];rw[ux b λx f=>h x (by simp_all)];rfl
def Vn{a:List D}{f:D->Bool}:gW Z' [.lst (a.map λd =>.bl (f d))]=Y (.bl (a.all f)):=by
 simp only[gW];simp[if_pos,jn,cU,KG,vF]
def Vl{a:List D}{f:D->Bool}:gW Z_ [.lst (a.map λd =>.bl (f d))]=Y (.bl (a.any f)):=by
 simp only[gW];rw[if_pos (by simp[jn,cU,KG])];simp[nV,cU,vF]
def uI{f:DL}(e:f a=Y b):aW G (aC (eF f) aN) a=G [.lst b]:=by
 unfold aW aC eF;rw[e];rfl
def M5{F:List D->Option D}(f:b.length<=1000)(h:∀x∈b,F [x,.int a]=Y (.bl (g x))):
  aW (gW Z_) (aC (eF (mx (iL (eV 0)) [M,Y 1] (gN 0) gU (aW F è))) aN) [Y (.lst b),Y (.int a)]=Y (.bl (b.any g)):=by
 let e:mx (iL (eV 0)) [M,Y 1] (gN 0) gU (aW F è) [Y (.lst b),Y (.int a)]=Y (b.map λx =>.bl (g x)):=by show (if b.length<=eJ then rA _ _ _ _ b else M)=_;rw[if_pos (cW (iV (by omega)))];exact ux b λd c=>⟨_,rfl,h d c⟩
 rw[uI e];exact Vl
theorem Ew:∀(n m:Nat) (d:D) (a:Int),n<=m->uL n d->kz m [d,.int a]=Y (.bl (oJ n d a))
 |0,_,_,_,_,h=>h.elim|n+1,0,_,_,hm,_=>by trivial
 | n+1,m+1,d,a,hm,h=>by
  let(qX,cs,rfl,hn,hl,hc):=h;show (yn (kz m) [Y (.tup [.int qX,.lst cs]),Y (.int a)]).bind sW=_;unfold yn;let ih:=λx hx=>Ew n m x a ž hx
  generalize kz m=F at *
  have e1:dB no [Y (.tup [.int qX,.lst cs]),Y (.int a)]=Y (!(bA a qX==qX)):=Ÿ
  simp only[GP];cases hx:(bA a qX==qX) with
  |false=>
   rw[hx]at e1;have:∀h,aU (gk (dB no) dL eI) h [Y (.tup [.int qX,.lst cs]),Y (.int a)]=Y (.rt (.bl Z_)):=by intro h;unfold aU gk;rw[e1];rfl
   rw[this];rfl
  |true=>
   rw[hx]at e1;have:gk (dB no) dL eI [Y (.tup [.int qX,.lst cs]),Y (.int a)]=Y (.nx [Y (.tup [.int qX,.lst cs]),Y (.int a)]):=by unfold gk;rw[e1];rfl
   rw[aB this];let e2:mx (iL (e2 bW (eV 0) na)) [M,Y 1] (gN 0) gU (aW (gW Z_) (aC (eF (mx (iL (eV 0)) [M,Y 1] (gN 0) gU (aW F è))) aN)) [Y (.tup [.int qX,.lst cs]),Y (.int a)]=Y (cs.map λc =>.bl (match c with|.lst xs=>xs.any λx=>oJ n x a|_=>Z_)):=by
    unfold mx;show (if cs.length<=eJ then rA [M,Y (.int a)] (gN 0) gU _ cs else M)=_;rw[if_pos (cW (iV (by omega)))];refine ux cs λc YO=>⟨[Y c,Y (.int a)],rfl,?_⟩
    let(xs,rfl,hxl,hxs):=hc c YO;exact M5 hxl λx hx=>ih x (hxs x hx)
   unfold iy;rw[uI e2,Vn];rfl
def Cm(n:Nat)(named atoms:Int)(b:Int):List (Int×D)->Int
 |[]=>b|(a,ask)::r=>Cm n named atoms (if bA named a != 0&&oJ n ask atoms then bO b a else b) r
noncomputable def ldD(p:Int×D):D :=.tup [.int p.1,p.2]
def IM{d:D}{a:Int}(b:n<=12)(h:uL n d):vO [d,.int a]=Y (.bl (oJ n d a)):=Ew n 12 d a b h
def JA{F:List D->Option D}{x:Int}{d:D}{a:Int}{f:DF}(k:ir e c=Y (x != 0))(i:f c=Y d)(h:g c=Y (.int a))(j:F [d,.int a]=Y (.bl b)):gj (ir e) (ir (aW F (aC f (aC g aN)))) c=Y (x != 0&&b):=by
 let l:ir (aW F (aC f (aC g aN))) c=Y b:=by unfold ir aW aC;rw[i,h];show (F _).bind _=_;rw[j];rfl
 unfold gj;rw[k,l];cases x != 0<;>rfl
theorem Ex(k:n<=12)(self:D)(b a:Int):∀(e:List (Int×D)) (d:Int) (g f:Option D),(∀p∈e,uL n p.2)->∃j i,
  ia (Du 4 5) hG (e.map ldD) [Y self,Y (.int b),Y (.int a),Y (.int d),g,f]=Y (.nx [Y self,Y (.int b),Y (.int a),Y (.int (Cm n b a d e)),j,i])
 |[],d,g,f,_=>⟨g,f,rfl⟩| (c,ask)::e,d,g,f,h=>by
  let o:hG [Y self,Y (.int b),Y (.int a),Y (.int d),Y (.int c),Y ask]=Y (.nx [Y self,Y (.int b),Y (.int a),Y (.int (if bA b c != 0&&oJ n ask a then bO d c else d)),Y (.int c),Y ask]):=by unfold hG gk;rw[JA rfl rfl rfl (IM (a:=a) k (h _ aH ..))];cases bA b c != 0&&oJ n ask a<;>solve_by_elim
  rw[a_,jx rfl o];obtain _:=Ex k _ b a e _ _ _ (λp l=>h p Ÿ)
  exact Ÿ
def Kw{f:w8}{n:Nat}(g:n<=12)(e:f.dG=c.map ldD)(h:∀p∈c,uL n p.2)(b a:Int):iZ [jg f,.int b,.int a]=Y (.int (Cm n b a (bA a f.inner) c)):=by
 show (lI [Y _,Y _,Y _,M,M,M]).bind _=_;unfold lI;rw[aB (f7 (by kernel_rfl))];simp;let(j,i,q):=Ex g _ b a c _ _ _ h;let d:iQ (iL (bK "Facts" "leads" (eV 0))) (Du 4 5) hG [Y (jg f),Y (.int b),Y (.int a),Y (.int (bA a f.inner)),M,M]=ia (Du 4 5) hG (c.map ldD) [Y (jg f),Y (.int b),Y (.int a),Y (.int (bA a f.inner)),M,M]:=by
  have:iL (bK "Facts" "leads" (eV 0)) [Y (jg f),Y (.int b),Y (.int a),Y (.int (bA a f.inner)),M,M]=Y f.dG:=by kernel_rfl
  simp_all [iQ]
 rw[aB (d.trans q)];rfl
def AN(n:Nat)(named atoms:Int):Nat->Int->List D->Int
 |_,a,[]=>a|k,a,ask::r=>AN n named atoms (k+1) (if bA named (2 ^ k) != 0&&oJ n ask atoms then bO a (2 ^ k) else a) r
theorem Jl(m:n<=12)(self:D)(b a:Int):∀(e:List D) (k:Nat) (c:Int) (g f d:Option D),(∀p∈e,uL n p)->k+e.length<=1000->∃l j i,
  ia (Du 4 5) gE ((e.zipIdx k).map λp =>.tup [.int (p.2:Nat),p.1]) [Y self,Y (.int b),Y (.int a),Y (.int c),g,f,d]=Y (.nx [Y self,Y (.int b),Y (.int a),Y (.int (AN n b a k c e)),l,j,i])
 |[],k,c,g,f,d,_,_=>⟨g,f,d,rfl⟩| ask::e,k,c,g,f,d,h,s=>by
  simp at s;let r:=IM (a:=a) m (h _ (aH ..));let t:gE [Y self,Y (.int b),Y (.int a),Y (.int c),Y (.int k),Y ask,d]=Y (.nx [Y self,Y (.int b),Y (.int a),Y (.int (if bA b (2 ^ k) != 0&&oJ n ask a then bO c (2 ^ k) else c)),Y (.int k),Y ask,Y (.int (2 ^ k))]):=by
   unfold gE;rw[aB (ρ':=[Y self,Y _,Y _,Y _,Y _,Y ask,Y _]) ?u]
   case u=>
    rw[f7 ((rfl).trans (SS (by lia)))]
    exact Ÿ
   unfold gk;rw[JA rfl rfl rfl r];cases (bA b _ != 0&&oJ n ask a)<;>rfl
  rw[Fo,a_,jx rfl t];let(l,j,i,q):=Jl m self b a e (k+1) _ _ _ _ (λp o=>h p Ż) ž;exact⟨l,j,i,q.trans rfl⟩
def Ho{f:w8}{n:Nat}(d:n<=12)(h:∀p∈f.asks,uL n p)(e:f.asks.length<=1000)(a b:Int):gJ [jg f,.int a,.int b]=Y (.int (AN n a b 0 0 f.asks)):=by
 show (kD [Y _,Y _,Y _,M,M,M,M]).bind _=_;unfold kD;rw[aB (f7 rfl)];simp;let(j,i,g,q):=Jl d _ a b _ 0 0 _ _ _ h ž;let c:iQ (iE (bK "Facts" "asks" (eV 0))) (Du 4 5) gE [Y (jg f),Y (.int a),Y (.int b),Y (.int 0),M,M,M]=ia (Du 4 5) gE ((f.asks.zipIdx 0).map λp =>.tup [.int p.2,p.1]) [Y (jg f),Y (.int a),Y (.int b),Y (.int 0),M,M,M]:=by solve_by_elim
 rw[aB (c.trans q)];rfl
end K21
namespace K30
open PySem L2
mutual
inductive Ak where
 |mk (qX:Nat) (cs:Cs)
inductive Cs where
 |nil
 |cons (c:As) (r:Cs)
inductive As where
 |nil
 |cons (x:Ak) (r:As)
end
def Sb(a b:Nat):Prop:=∀i,a.testBit i=Z'->b.testBit i=Z'
def Sb.trans{a b c:Nat}(h:Sb a b)(g:Sb b c):Sb a c:=λi e=>g i (h i e)
def Sb.or{a b c:Nat}(h:Sb a c)(g:Sb b c):Sb (a ||| b) c:=λi e=>by
 rw[jK,bU]at e;exact e.elim (h i) (g i)
def Sb.inl(a b:Nat):Sb a (a ||| b):=λi e=>by simp_all
def Sb.inr(a b:Nat):Sb b (a ||| b):=λi e=>by simp_all
def Sb.zero(a:Nat):Sb 0 a:=λi e=>by simp at e
mutual
def x8(a:Nat):Ak->Prop
 |.mk n cs=>Sb n a/\vL a cs
def vL(a:Nat):Cs->Prop
 |.nil=>True|.cons c r=>Fh a c/\vL a r
def Fh(a:Nat):As->Prop
 |.nil=>False|.cons x r=>x8 a x\/Fh a r
end
mutual
def In1(i:Nat):Ak->Prop
 |.mk n cs=>n.testBit i=Z'\/InC i cs
def InC(i:Nat):Cs->Prop
 |.nil=>False|.cons c r=>InS i c\/InC i r
def InS(i:Nat):As->Prop
 |.nil=>False|.cons x r=>In1 i x\/InS i r
end
structure Fa where
 inner:Nat
 star:Nat
 named:aJ->Nat
 text:aJ->Nat
 mark:Nat
 dG:List (Nat×Ak)
 fresh:aJ
 long:Nat
open Classical in
def lift(F:Fa)(nm a:Nat):Nat:=F.dG.foldl (λu l=>if nm.testBit l.1=Z'/\x8 a l.2 then u ||| 2 ^ l.1 else u) (a &&& F.inner)
open Classical in
theorem EJ(nm a i:Nat):∀(L:List (Nat×Ak)) (u:Nat),(L.foldl (λu l=>if nm.testBit l.1=Z'/\x8 a l.2 then u ||| 2 ^ l.1 else u) u).testBit i=Z'↔u.testBit i=Z'\/∃l∈L,l.1=i/\nm.testBit i=Z'/\x8 a l.2
 |[],u=>by simp
 | l::L,u=>by
  rw[List.foldl_cons,EJ nm a i L];by_cases h:nm.testBit l.1=Z'/\x8 a l.2
  .rw[if_pos h,jK,bU,Ap,decide_eq_true_eq];constructor
   .rintro((z|z)|⟨m,hm,r⟩)
    .exact .inl z
    .subst z;exact .inr ⟨l,ż,rfl,h⟩
    .exact .inr ⟨m,by simp[hm],r⟩
   .rintro(z|⟨m,hm,e,r⟩)
    .exact .inl (.inl z)
    .rcases aV.mp hm with rfl|hm
     .exact .inl (.inr e)
     .exact .inr ⟨m,hm,e,r⟩
  .rw[if_neg h];constructor
   .rintro(z|⟨m,hm,r⟩)
    .exact .inl z
    .exact .inr ⟨m,by simp[hm],r⟩
   .rintro(z|⟨m,hm,e,r⟩)
    .exact .inl z
    .rcases aV.mp hm with rfl|hm
     .subst e;exact absurd r h
     .exact .inr ⟨m,hm,e,r⟩
def zu{F:Fa}{nm a i:Nat}:(lift F nm a).testBit i=Z'↔(a.testBit i=Z'/\F.inner.testBit i=Z')\/∃l∈F.dG,l.1=i/\nm.testBit i=Z'/\x8 a l.2:=by
 unfold lift;rw[EJ,qs,aA]
set_option genSizeOfSpec true in
inductive Tr where
 |txt (t:aJ)
 |mk
 |nd (n:aJ) (f:List Tr)
mutual
def tA(F:Fa):Tr->Nat
 |.txt t=>F.text t|.mk=>F.mark|.nd n f=>lift F (F.named n) (fA F f)
def fA(F:Fa):List Tr->Nat
 |[]=>0|t::f=>tA F t ||| fA F f
end
theorem Hs{F:Fa}{t:Tr}:∀ {f:List Tr},t∈f->Sb (tA F t) (fA F f)
 | s::f,h=>by
  rw[fA];rcases aV.mp h with rfl|h
  .exact .inl _ _
  .exact(Hs h).trans (.inr _ _)
theorem CO{F:Fa}{i:Nat}:∀ {f:List Tr},(fA F f).testBit i=Z'↔∃t∈f,(tA F t).testBit i=Z'
 |[]=>by simp[fA]
 |s::f=>by rw[fA,jK,bU,CO];simp
set_option genSizeOfSpec true in
mutual
inductive Wi where
 |any
 |txt (t:aJ)
 |has (s:Ss)
 |both (w:Ws)
 |one (w:Ws)
inductive Ws where
 |nil
 |cons (w:Wi) (r:Ws)
inductive Ss where
 |nil
 |cons (Ct:Bool) (nm:Option aJ) (w:Wi) (r:Ss)
end
def kh:Option aJ->aJ->Prop
 |none,_=>True|some a,b=>a=b
inductive Sh:Bool->aJ->List Tr->List Tr->Prop
 |Z {b:Bool}{n:aJ}{g f:List Tr}:Tr.nd n g∈f->Sh b n g f
 |Ct {n m:aJ}{g h f:List Tr}:Tr.nd m h∈f->Sh true n g h->Sh true n g f
mutual
def qr:Wi->List Tr->Prop
 |.any,_=>True|.txt t,f=>Tr.txt t∈f|.has s,f=>w6 (λ_=>True) s f
 |.both w,f=>xE w f|.one w,f=>xD w f
def xE:Ws->List Tr->Prop
 |.nil,_=>True|.cons w r,f=>qr w f/\xE r f
def xD:Ws->List Tr->Prop
 |.nil,_=>False|.cons w r,f=>qr w f\/xD r f
def w6(E:List Tr->Prop):Ss->List Tr->Prop
 |.nil,f=>E f|.cons b nm w r,f=>∃n g,Sh b n g f/\kh nm n/\qr w g/\w6 E r g
end
noncomputable def Cs.app:Cs->Cs->Cs
 |.nil,b=>b|.cons c r,b =>.cons c (r.app b)
noncomputable def iP:As->Ak
 |.nil =>.mk 0 .nil|.cons (.mk n c) r=>match iP r with|.mk m d =>.mk (n ||| m) (c.app d)
structure Dc(F:Fa)(t:aJ)(j:Nat):Prop where
 Ct:F.inner.testBit j=false
 led:∀l∈F.dG,l.1≠j
 mark:F.mark.testBit j=false
 text:∀s,(F.text s).testBit j=true↔s=t
structure OO(F:Fa)(b:Bool)(nm:Option aJ)(j:Nat)(k:Ak):Prop where
 Ct:F.inner.testBit j=b
 name:∀n,(F.named n).testBit j=true↔kh nm n
 led:(j,k)∈F.dG
 uniq:∀l∈F.dG,l.1=j->l=(j,k)
 mark:F.mark.testBit j=false
 text:∀s,(F.text s).testBit j=false
mutual
def Rf(F:Fa):Wi->Ak->Prop
 |.any,k=>k=.mk 0 .nil|.txt t,k=>∃j,k=.mk (2 ^ j) .nil/\Dc F t j|.has s,k=>∃j,k=.mk (2 ^ j) .nil/\Dd F 0 s j|.both w,k=>∃ks,BO F w ks/\k=iP ks|.one w,k=>∃ks,BO F w ks/\k=.mk 0 (.cons ks .nil)
def BO(F:Fa):Ws->As->Prop
 |.nil,k=>k=.nil|.cons w r,k=>∃x y,Rf F w x/\BO F r y/\k=.cons x y
def Dd(F:Fa)(e:Nat):Ss->Nat->Prop
 |.nil,_=>False|.cons b nm w r,j=>∃qX cs O5,Rf F w (.mk qX cs)/\OO F b nm j (.mk (qX ||| O5) cs)/\(r=.nil/\O5=e\/Dd F e r (j+1)/\O5=2 ^ (j+1))
end
def Yq(F:Fa)(e:Nat)(E:List Tr->Prop):Prop:=∀f,Sb e (fA F f)↔E f
def PF(F:Fa)(f:List Tr):Prop:=∀e E s j,Dd F e s j->Yq F e E->((fA F f).testBit j=Z'↔w6 E s f)
def Gh{j a:Nat}:Sb (2 ^ j) a↔a.testBit j=true:=by
 constructor
 .exact λh=>h j ż
 .intro h i e
  grind
theorem RF{a b c:Nat}:Sb (a ||| b) c↔Sb a c/\Sb b c:=⟨λh=>⟨(Sb.inl _ _).trans h,(Sb.inr _ _).trans h⟩,λh=>h.1.or h.2⟩
def aaY(F:Fa):Yq F 0 (λ_=>True):=λf=>⟨λ_=>trivial,λ_ =>.zero _⟩
def LV{F:Fa}{t:aJ}{j:Nat}(h:Dc F t j)(f:List Tr):(fA F f).testBit j=Z'↔Tr.txt t∈f:=by
 rw[CO];constructor
 .rintro⟨x,hx,e⟩;cases x with
  |txt s=>rw[tA,h.text]at e;simp_all|mk=>rw[tA,h.mark]at e;cases e|nd n g=>
   rw[tA,zu,h.Ct]at e;rcases e with⟨_,z⟩|⟨l,hl,z,_⟩
   .cases z
   .exact absurd z (h.led l hl)
 .exact λhx=>⟨_,hx,by rw[tA,h.text]⟩
theorem Eu{a:Nat}:∀(c d:Cs),vL a (c.app d)↔vL a c/\vL a d
 |.nil,d=>by simp[Cs.app,vL]
 |.cons x r,d=>by simp only[Cs.app,vL,Eu r d,and_assoc]
def M1{a:Nat}{x:Ak}{r:As}:x8 a (iP (.cons x r))↔x8 a x/\x8 a (iP r):=by
 let(n,c):=x
 grind [iP,x8,RF,Eu]
mutual
theorem Ac{F:Fa}{f:List Tr}(P:PF F f):∀(w:Wi) (k:Ak),Rf F w k->(x8 (fA F f) k↔qr w f)
 |.any,k,h=>by let h:k=.mk 0 _:=h;simp_all [x8,vL,qr,Sb]
 |.txt t,k,⟨j,e,h⟩=>by subst e;simp only[x8,vL,qr,and_true,Gh];exact LV h f
 |.has s,k,⟨j,e,h⟩=>by subst e;simp only[x8,vL,qr,and_true,Gh];exact P 0 _ s j h (aaY F)
 |.both w,k,⟨ks,h,e⟩=>by subst e;exact Sf P w ks h
 |.one w,k,⟨ks,h,e⟩=>by subst e;simp only[x8,vL,and_true,qr];exact⟨λz=>(OG P w ks h).mp z.2,λz=>⟨.zero _,(OG P w ks h).mpr z⟩⟩
theorem Sf{F:Fa}{f:List Tr}(P:PF F f):∀(w:Ws) (k:As),BO F w k->(x8 (fA F f) (iP k)↔xE w f)
 |.nil,k,h=>by let h:k=.nil:=h;simp_all [iP,x8,vL,xE,Sb]
 |.cons w r,k,⟨x,y,a,b,e⟩=>by subst e;rw[M1,Ac P w x a,Sf P r y b];rfl
theorem OG{F:Fa}{f:List Tr}(P:PF F f):∀(w:Ws) (k:As),BO F w k->(Fh (fA F f) k↔xD w f)
 |.nil,k,h=>by let h:k=.nil:=h;simp_all [Fh,xD]
 |.cons w r,k,⟨x,y,a,b,e⟩=>by subst e;rw[Fh,Ac P w x a,OG P r y b];rfl
end
def Kx{E:List Tr->Prop}{b:Bool}{nm:Option aJ}{w:Wi}{r:Ss}{f:List Tr}:w6 E (.cons b nm w r) f↔∃m h,Tr.nd m h∈f/\((kh nm m/\qr w h/\w6 E r h)\/(b=Z'/\w6 E (.cons b nm w r) h)):=by
 constructor
 .rintro⟨n,g,k,l⟩;cases k with
  |Z m=>exact⟨n,g,m,.inl l⟩|@Ct _ m _ h _ e k=>exact⟨m,h,e,.inr ⟨rfl,n,g,k,l⟩⟩
 .rintro⟨m,h,e,l|⟨rfl,n,g,k,l⟩⟩
  .exact⟨m,h,.Z e,l⟩
  .exact⟨n,g,.Ct e k,l⟩
def DK{F:Fa}{f:List Tr}(ih:∀n g,Tr.nd n g∈f->PF F g):PF F f:=by
 intro e E s j h he;cases s with
 |nil=>exact h.elim|cons b nm w r=>
  let h0:=h;let(qX,cs,O5,ha,hs,hf):=h;rw[CO,Kx];have key:∀n g,Tr.nd n g∈f->((tA F (.nd n g)).testBit j=Z'↔(kh nm n/\qr w g/\w6 E r g\/(b=Z'/\w6 E _ g))):=λn g m=>by
   let P:=ih n g m;rw[tA,zu,hs.Ct,P e E _ j h0 he];let aaU:Sb O5 (fA F g)↔w6 E r g:=by
    rcases hf with⟨rfl,rfl⟩|⟨hr,rfl⟩
    .exact he g
    .rw[Gh];exact Ÿ
   have met:x8 (fA F g) (.mk (qX ||| O5) cs)↔qr w g/\w6 E r g:=by
    rw[<- Ac P w _ ha]
    grind [x8,RF]
   constructor
   .rintro(⟨a,b⟩|⟨l,hl,z,a,c⟩)
    .exact .inr ⟨b,a⟩
    .have:=hs.uniq l hl z;subst this;exact .inl ⟨(hs.name n).mp a,met.mp c⟩
   .rintro(⟨a,c⟩|⟨a,c⟩)
    .exact .inr ⟨_,hs.led,rfl,(hs.name n).mpr a,met.mpr c⟩
    .exact .inl ⟨c,a⟩
  constructor
  .rintro⟨x,hx,z⟩;cases x with
   |txt s=>rw[tA,hs.text]at z;cases z|mk=>rw[tA,hs.mark]at z;cases z|nd n g=>exact⟨n,g,hx,Ż⟩
  .rintro⟨n,g,hx,z⟩;exact⟨_,hx,Ż⟩
theorem yL{n:aJ}{g:List Tr}:∀ {f:List Tr},Tr.nd n g∈f->sizeOf g<sizeOf f
 | x::f,h=>by
  rcases aV.mp h with rfl|h
  .simp;omega
  .have:=yL h;simp;omega
theorem Mv(F:Fa):∀(m:Nat) (f:List Tr),sizeOf f<=m->PF F f
 |0,f,h=>DK λn g e=>by have:=yL e;simp_all
 |m+1,f,h=>DK λn g e=>Mv F m g (by have:=yL e;lia)
end K30
namespace L2
open PySem PySem.Spec PyProof.Rows
theorem Jj{τ:AR}{g:DG}(I:Nat->cE->Prop):∀(k:List D) (i:Nat) (a:cE),I i a->(∀j d a,k[j]?=Y d->I (i+j) a->∃f b,τ d a=Y f/\g f=Y (.nx b)/\I (i+j+1) b) ->
  ∃c,ia τ g k a=Y (.nx c)/\I (i+k.length) c
 |[],i,a,h,_=>⟨a,rfl,h⟩| d::k,i,a,h,st=>by
  let(f,b,q,p,n):=st 0 d a rfl h;obtain _:=Jj I k (i+1) b n λj d a l m=>by have:=st (j+1) d a Ż ŷ;rw[show i+(j+1)+1=i+1+j+1 by omega]at this;exact this
  grind [ia,ai]
def sI{τ:AR}{g:DG}(I:Nat->cE->Prop){ds:List D}{ρ:cE}(i:I 0 ρ)(f:∀j d ρ,ds[j]?=Y d->I j ρ->∃b a,τ d ρ=Y b/\g b=Y (.nx a)/\I (j+1) a):∃c,ia τ g ds ρ=Y (.nx c)/\I ds.length c:=by
 have:=Jj I ds 0 ρ i λj d ρ h e=>by rw[nU]at e ⊢;exact f j d ρ h e
 simp_all
def JE{xs:List b}{z:Int}(d:0<=z)(c:z<xs.length):∃v,n9 xs z=Y v/\v∈xs:=by
 let a:z.toNat<xs.length:=by omega
 refine⟨_,?_,uT a⟩
 grind [gY]
def vH{xs:List Int}{z:Int}(h0:0<=z)(h1:z<xs.length):∃v,n9 (xs.map D.int) z=Y (.int v):=by
 let(v,e,hm):=JE h0 h1
 simp_all [C4]
def vG{xs:List aJ}{z:Int}(h0:0<=z)(h1:z<xs.length):∃v,n9 (xs.map D.str) z=Y (.str v)/\v∈xs:=by
 simp_all [JE,C4]
def Qn{n:Nat}{z:Int}(b:0<=z)(a:z<n):Dt n z=Y z.toNat:=by unfold Dt;rw[if_pos b,if_pos a]
def D3(h:(lZ a n)[j]?=Y d):j<n/\d=.int (a+j):=by
 unfold lZ at h;rw[aR]at h;let(k,q,h):=aq.1 h;cases h;let(c,b):=ah.mp q;have:=by simpa using b.symm
 subst this;exact⟨by simpa using c,rfl⟩
theorem p8(a:Int)(n:Nat):(lZ a n).length=n:=by simp[lZ]
theorem ux{h:D->D}:∀ {b:List D},(∀d∈b,∃a,c d e=Y a/\g a=Y (h d))->rA e c gU g b=Y (b.map h)
 |[],_=>rfl|d::b,f=>by let(a,j,i):=f d aH;unfold rA;rw[j];simp only[gU,ai,if_true,i];rw[ux λd h=>f d (by simp_all)];rfl
def kG:eJ=1000000:=rfl
def Ve(a:List b)(l h:Option Int):(Fl a l h).length<=a.length:=by
 unfold Fl;rw[uS,Fp];omega
def Hz(a:List b)(c:0<=k):Fl a M (Y k)=a.take k.toNat:=by
 unfold Fl HT.Gk
 grind
def EW(xs:List a)(b:0<=k):Fl xs (Y k) M=xs.drop k.toNat:=by
 unfold Fl HT.Gk;simp only[if_neg (show ¬k<0 by omega)];by_cases h:k.toNat<=xs.length
 .rw[Nat.min_eq_left h,List.take_of_length_le (by simp)]
 .rw[Nat.min_eq_right (by omega),Nat.sub_self,List.take_zero,Ru (by omega)]
end L2
namespace L2
open PySem
def PB(e:g b=Y (.nx a)):aU g h b=h a:=by simp_all [aU,ai]
def WJ(e:t a=Y Z_):gk t g h a=h a:=by simp[gk,e]
def UA{f:DF}(e:f ρ=Y (.int z))(h : -(2 ^ 62)<=z/\z<2 ^ 62):Ft f ρ=Y (lZ 0 z.toNat):=by
 simp only[Ft,e,ai];rw[if_pos h]
def QW(h:pK a 179=Z'):lK (.lst a) 180=true:=by solve_by_elim
end L2
namespace K21
open PySem L2 K30
def OE(a b:Nat):bA (a:Int) (b:Int)=((a &&& b:Nat):Int):=by
 exact Ÿ
def uJ(a b:Nat):bO (a:Int) (b:Int)=((a ||| b:Nat):Int):=by
 unfold bO;rw[PyProof.Rows.bitOr_and,show uU a _=_ from OE a b]
 grind [JV]
def NR{f:DL}(e:f a=Y c):iQ f b g a=ia b g c a:=by simp_all [iQ]
def Ja{t:DT}(h:t a=Y Z'):gk t g k a=g a:=by simp_all [gk]
def Bq{t:DT}(h:t a=Y Z_):gk t g k a=k a:=by simp_all [gk]
def Gn{f:DF}{d:D}(e:f a=Y d):(iy f a).bind sW=Y d:=by unfold iy;rw[e];rfl
def Oy{f:DF}{d:D}(e:f a=Y d):aW G (aC f aN) a=G [d]:=by unfold aW aC;rw[e];rfl
theorem sr:∀(n:Nat) (l:List Nat),l.Nodup->(∀x∈l,x<n)->l.length<=n
 | 0,l,h,g=>by
  cases l with
  |nil=>solve_by_elim|cons x l=>exact absurd (g x Ÿ) ż
 | n+1,l,h,g=>by
  by_cases m:n∈l
  .have:=sr n _ (h.erase n) λx hx=>by grind
   simp_all
  .have:=sr n l h λx hx=>by grind
   omega
noncomputable abbrev kS(x:String):D :=.str (ae x)
noncomputable def gS(b:Bool):aJ:=if b then ae "inner" else ae "own"
noncomputable def h_:Option aJ->aJ
 |none=>ae "*"|some n=>n
mutual
def qv:Wi->D
 |.any =>.tup [kS "any"]|.txt t =>.tup [kS "text",.str t]|.has s =>.tup [kS "has",.lst (hV s)]|.both w =>.tup [kS "both",.lst (uZ w)]|.one w =>.tup [kS "one",.lst (uZ w)]
def uZ:Ws->List D
 |.nil=>[]|.cons w r=>qv w::uZ r
def hV:Ss->List D
 |.nil=>[]|.cons b nm w r =>.tup [.str (gS b),.str (h_ nm),qv w]::hV r
end
def CT(x y:aJ):Dw (.str x) (.str y)=(x==y):=by simp[Dw]
mutual
def Yj:Wi->Prop
 |.any=>True|.txt _=>True|.has s=>HS s|.both w=>V6 w|.one w=>V6 w
def V6:Ws->Prop
 |.nil=>True|.cons w r=>Yj w/\V6 r
def HS:Ss->Prop
 |.nil=>True|.cons _ nm w r=>nm≠Y (ae "*")/\Yj w/\HS r
end
mutual
noncomputable def pI:Wi->Nat
 |.any=>1|.txt _=>1|.has s=>1+uE s|.both w=>1+Fv w|.one w=>1+Fv w
noncomputable def Fv:Ws->Nat
 |.nil=>0|.cons w r=>max (pI w) (Fv r)
noncomputable def uE:Ss->Nat
 |.nil=>1|.cons _ _ w r=>max (1+pI w) (uE r)
end
def Se{f g:DF}{d e:D}(h:f a=Y d)(k:g a=Y e):aW G (aC f (aC g aN)) a=G [d,e]:=by unfold aW aC;rw[h,k];rfl
theorem CS:∀s:Ss,1<=uE s
 |.nil=>by simp[uE]
 |.cons _ _ w r=>by grind [uE]
def BX{f:DF}{ρ':cE}{d:D}(r:vR b c a=ρ')(e:f ρ'=Y d)(p:qI d=Z'):lV b c f a=Y d:=by simp_all [lV]
def Ic{f:DT}{ρ':cE}(r:vR c d a=ρ')(e:f ρ'=Y b):Az c d f a=Y b:=by simp_all [Az]
def Oz:1000000<=eJ:=by unfold eJ;decide
def nK{n:Nat}(h:n<2000):n<eJ:=bD (Ro h ſ) Oz
theorem WI{p:Nat}(h:p<=1000):p_ (.int 1) (.int (p:Int))=Y (.int (2 ^ p)):=by
 simp only[p_]
 grind
structure FB where
 q:List D
 bits:Nat
 nk:List l_
 nv:List D
 tk:List l_
 tv:List D
 fx:Int
 oj:Int
 inner:Int
 dG:List D
noncomputable abbrev XH:List aJ:=["question","bits","by_name","by_text","starred","stars","inner","leads"]
def dQ(s:FB):D :=.ins "Facts" XH [.lst s.q,.int (s.bits:Nat),.iW s.nk s.nv,.iW s.tk s.tv,.int s.fx,.int s.oj,.int s.inner,.lst s.dG]
abbrev oF(s:FB):Option D:=Y (.obj av (dQ s))
def zj(s:FB)(h:s.bits<=999):fB [dQ s]=Y (.int (2 ^ s.bits),dQ { s with bits:=s.bits+1 }):=by
 show (kC _).bind _=_;unfold kC;rw[aB ?b]
 case b=>kernel_rfl
 let a:lV [0] [] (e2 p_ na XV) [oF { s with bits:=s.bits+1 }]=Y (.int (2 ^ s.bits)):=by
  refine BX (ρ':=[Y _]) rfl ?_ rfl;have:e2 p_ na XV [Y (dQ { s with bits:=s.bits+1 })]=p_ (.int 1) (.int _):=rfl
  grind [WI]
 unfold fE mP;rw[a];exact ź
def lE{F:List D->Option (D×D)}{m:aJ}{ρ1:cE}{s s1 b:FB}{args:List D}(c:m∉XH)(i:eV j a=oF s)(e:g a=Y (args,ρ1))(f:eV j ρ1=oF s1)(h:F (dQ s1::args)=Y (d,dQ b)):
  bR "Facts" m av F j g a=Y (d,(fU j ρ1).set j (oF b)):=by
 let l:ya j a=Y (av,dQ s):=by unfold ya;rw[i]
 let k:oi av j ρ1=Y (dQ s1):=by unfold oi ya;rw[f];exact ź
 unfold bR;rw[l];show (if _ then _ else _)=_;rw[if_pos ⟨⟨rfl,rfl⟩,c⟩,e];simp only[ai,k,h];rfl
noncomputable abbrev AB(a b:aJ)(w:D):D :=.tup [.str a,.str b,w]
def Mq{s:FB}(hi:(cO s.nk s.nv (b_ nm)).getD (.int 0)=.int i)(hl:s.nk.length<eJ):
  sh 0 "Facts" "by_name" (e2 bW (eV 1) na) (mP (lV [0] [] (e2 Fq ut (eV 2)))) [oF s,Y (AB way nm w),Y (.int b)]=Y (.nx [oF { s with nk:=(my (b_ nm) (.int (bO i b)) s.nk s.nv).1,nv:=(my (b_ nm) (.int (bO i b)) s.nk s.nv).2 },Y (AB way nm w),Y (.int b)]):=by
 let e1:lV [0] [] (e2 Fq ut (eV 2)) [oF s,Y (AB way nm w),Y (.int b)]=Y (.int (bO i b)):=by
  refine BX (ρ':=[Y (dQ s),Y _,Y (.int b)]) rfl ?_ rfl;have:e2 Fq (xB (bK "Facts" "by_name" (eV 0)) (e2 bW (eV 1) na) (eK _)) (eV 2) [Y (dQ s),Y (AB way nm w),Y (.int b)]=Fq ((cO s.nk s.nv _).getD (.int 0)) (.int b):=rfl;rw[this,hi]
  exact Ÿ
 unfold sh mP;rw[e1];simp;let e2:rW "Facts" "by_name" 0 [oF s,Y (AB way nm w),Y (.int b)]=Y (vx,XH,[.lst s.q,.int (s.bits:Nat),.iW s.nk s.nv,.iW s.tk s.tv,.int s.fx,.int s.oj,.int s.inner,.lst s.dG],.iW s.nk s.nv):=by kernel_rfl
 rw[e2];simp;show (if _/\s.nk.length<eJ then _ else M)=_;rw[if_pos ⟨by decide,hl⟩];exact ź
def mT(s:FB)(way nm:aJ)(i:Int):FB:=
 let b:Int:=2 ^ s.bits
 let s1:FB:={ s with bits:=s.bits+1,inner:=if way=ae "inner" then bO s.inner b else s.inner }
 if nm=ae "*" then { s1 with fx:=bO s.fx b,oj:=s.oj+1 } else { s1 with nk:=(my (b_ nm) (.int (bO i b)) s.nk s.nv).1,nv:=(my (b_ nm) (.int (bO i b)) s.nk s.nv).2 }
def AO{s:FB}(h:s.bits<=999)(hk:s.nk.length<=s.bits)(way nm:aJ)(w:D){i:Int}(hi:(cO s.nk s.nv (b_ nm)).getD (.int 0)=.int i):dX [dQ s,AB way nm w]=Y (.int (2 ^ s.bits),dQ (mT s way nm i)):=by
 let e0:dX [dQ s,AB way nm w]=(jc [oF s,Y (AB way nm w),M]).bind (sk av):=rfl;rw[e0];unfold jc;rw[aB (ρ':=[oF { s with bits:=s.bits+1 },Y (AB way nm w),Y (.int (2 ^ s.bits))]) ?q0]
 case q0=>unfold lC;rw[lE (by decide) rfl rfl rfl (zj s h)];rfl
 unfold mT;generalize hb:(2:Int) ^ s.bits=b at *
 let q1:gk (dB Î) (gO Z_ 0 "Facts" "inner" eN (eV 2)) eI [oF { s with bits:=s.bits+1 },Y (AB way nm w),Y (.int b)]=Y (.nx [oF { s with bits:=s.bits+1,inner:=if way=ae "inner" then bO s.inner b else s.inner },Y (AB way nm w),Y (.int b)]):=by
  have e1:dB Î [oF { s with bits:=s.bits+1 },Y (AB way nm w),Y (.int b)]=Y (Dw (.str way) (.str (ae "inner"))):=by kernel_rfl
  unfold gk;rw[e1,CT];by_cases z:way=ae "inner"
  .rw[if_pos z,beq_iff_eq.mpr z];exact ź
  .rw[if_neg z,beq_eq_false_iff_ne.mpr z];rfl
 rw[aB q1];have e1:∀s:FB,dB (e2 gQ (e2 bW (eV 1) na) Do) [oF s,Y (AB way nm w),Y (.int b)]=Y (Dw (.str nm) (.str (ae "*"))):=λs=>by kernel_rfl
 by_cases z:nm=ae "*"
 .rw[aB (ρ':=[oF { s with bits:=s.bits+1,inner:=if way=ae "inner" then bO s.inner b else s.inner,fx:=bO s.fx b,oj:=s.oj+1 },Y (AB way nm w),Y (.int b)]) ?q2]
  case q2=>unfold gk;rw[e1,CT,beq_iff_eq.mpr z];exact ź
  simp only[if_pos z];exact ź
 .let pn:=Mq (s:={ s with bits:=s.bits+1,inner:=if way=ae "inner" then bO s.inner b else s.inner }) (way:=way) (w:=w) (b:=b) hi (nK ŷ);rw[aB (ρ':=[oF { s with bits:=s.bits+1,inner:=if way=ae "inner" then bO s.inner b else s.inner,nk:=(my (b_ nm) (.int (bO i b)) s.nk s.nv).1,nv:=(my (b_ nm) (.int (bO i b)) s.nk s.nv).2 },Y (AB way nm w),Y (.int b)]) ?q2]
  case q2=>simp_all [gk,CT]
  simp only[if_neg z];exact ź
inductive l7 where
 |st (b:Bool) (nm:Option aJ)
 |tx (t:aJ)
 |mk
mutual
noncomputable def BM:Ak->D
 |.mk n cs =>.tup [.int (n:Nat),.lst (x3 cs)]
noncomputable def x3:Cs->List D
 |.nil=>[]|.cons c r =>.lst (nQ c)::x3 r
noncomputable def nQ:As->List D
 |.nil=>[]|.cons x r=>BM x::nQ r
end
noncomputable def ldK(l:Nat×Ak):D :=.tup [.int ((2:Int) ^ l.1),BM l.2]
structure GI(s:FB)(tb:List l7)(L:List (Nat×Ak)):Prop where
 bits:s.bits=tb.length
 inner:∃m:Nat,s.inner=(m:Int)/\∀i,m.testBit i=true↔∃nm,tb[i]?=some (l7.st true nm)
 star:∃m:Nat,s.fx=(m:Int)/\∀i,m.testBit i=true↔∃b,tb[i]?=some (l7.st b none)
 name:∀n,∃m:Nat,(cO s.nk s.nv (b_ n)).getD (.int 0)=.int (m:Int)/\∀i,m.testBit i=true↔∃b,tb[i]?=some (l7.st b (some n))
 W7:s.nk.length=s.nv.length
 YI:s.nk.length<=s.bits
 text:∀t,(cO s.tk s.tv (b_ t)=none/\∀i:Nat,tb[i]? ≠ some (l7.tx t))\/∃j,cO s.tk s.tv (b_ t)=some (.int (2 ^ j))/\∀i,tb[i]?=some (l7.tx t)↔i=j
 VE:s.tk.length=s.tv.length
 Yy:s.tk.length<=s.bits
 dG:s.dG=L.map ldK
 Xd:(L.map (·.1)).Nodup
 lst:∀l∈L,∃b nm,tb[l.1]?=some (l7.st b nm)
 VX:L.length<=s.bits
def n8{k k':l_}{x:D}{a:List l_}{b:List D}:cO (k'::a) (x::b) k=if k'=k then Y x else cO a b k:=by
 unfold cO;by_cases h:k'=k
 .simp[h]
 .simp[h]
theorem IQ{k k':l_}{d:D}:∀ {a:List l_}{b:List D},a.length=b.length->cO a (vS (λq x=>if q=k then d else x) a b) k'=(cO a b k').map λx=>if k'=k then d else x
 |[],[],_=>by simp[cO]
 |q::a,[],h=>by simp at h
 |[],x::b,h=>by simp at h
 | q::a,x::b,h=>by
  rw[Rq,n8,n8];by_cases e:q=k'
  .subst e;simp
  .simp only[if_neg e];exact IQ Ż
theorem zt{k k':l_}{d:D}:∀ {a:List l_}{b:List D},a.length=b.length->cO (a++[k]) (b++[d]) k'=match cO a b k' with|some x=>Y x|none=>if k=k' then Y d else M
 |[],[],_=>by simp[dS,n8,cO]
 |q::a,[],h=>by simp at h
 |[],x::b,h=>by simp at h
 | q::a,x::b,h=>by
  rw[lT,lT,n8,n8];by_cases e:q=k'
  .simp[e]
  .simp only[if_neg e];exact zt Ż
theorem zr{k:l_}:∀ {a:List l_}{b:List D},a.length=b.length->(cO a b k=M↔k∉a)
 |[],[],_=>by simp[cO]
 |q::a,[],h=>by simp at h
 |[],x::b,h=>by simp at h
 | q::a,x::b,h=>by
  rw[n8];by_cases e:q=k
  .subst e;simp
  .rw[if_neg e,zr (by simp_all)];simp[bQ e]
def Ku{k k':l_}{d:D}{a:List l_}{b:List D}(h:a.length=b.length):cO (my k d a b).1 (my k d a b).2 k'=if k'=k then Y d else cO a b k':=by
 unfold my;by_cases z:(a.any λq=>decide (q=k))=Z'
 .rw[if_pos z,IQ h];let hk:=by simpa using z
  by_cases e:k'=k
  .subst e;cases q:cO a b k' with
   |none=>exact absurd hk ((zr h).mp q)|some x=>simp
  simp_all
 .rw[if_neg z,zt h];let hk:=by simpa using z
  by_cases e:k'=k
  .subst e;simp[(zr h).mpr hk]
  grind
def Og{k:l_}{d:D}{a:List l_}{b:List D}(h:a.length=b.length):(my k d a b).1.length=(my k d a b).2.length/\(my k d a b).1.length<=a.length+1:=by
 unfold my;split<;>simp[h]
def Gv{m n i:Nat}:(m ||| 2 ^ n).testBit i=Z'↔m.testBit i=Z'\/i=n:=by
 rw[jK,bU,Ap,decide_eq_true_eq];exact or_congr jH eq_comm
def gM{α:Type}{l:List α}{x y:α}{i:Nat}:(l++[x])[i]?=Y y↔l[i]?=Y y\/(i=l.length/\x=y):=by
 rcases Nat.lt_trichotomy i _ with h|h|h
 .rw[aM h];constructor
  .exact .inl
  .rintro(z|⟨z,_⟩)
   .exact z
   .omega
 .subst h;simp
 .rw[xb (by grind),xb (by omega)];simp;omega
def yg(n:Nat):(2:Int) ^ n=((2 ^ n:Nat):Int):=by simp
def Hl{α:Type}{l:List α}{i:Nat}{x:α}(h:l[i]?=Y x):i<l.length:=(ah.mp h).1
def FR(b:Bool):gS b=ae "inner" ↔b=true:=by cases b<;>decide +kernel
def QB{s:FB}{tb:List l7}{L:List (Nat×Ak)}(I:GI s tb L)(b:Bool)(nm:Option aJ)(hn:nm≠Y (ae "*")){i:Int}(hi:(cO s.nk s.nv (b_ (h_ nm))).getD (.int 0)=.int i):GI (mT s (gS b) (h_ nm) i) (tb++[.st b nm]) L:=by
 have Fz:∀ {j:Nat}{x:l7},tb[j]?=Y x->(tb++[l7.st b nm])[j]?=Y x:=λh=>gM.mpr (.inl h)
 let(mi,ei,bi):=I.inner;let(ms,es,bs):=I.star;let hb:=I.bits;obtain⟨Ct,Xw,hin⟩:∃Ct:Int,(if gS b=ae "inner" then bO s.inner (2 ^ s.bits) else s.inner)=Ct/\∃m:Nat,Ct=(m:Int)/\∀j,m.testBit j=Z'↔∃n,(tb++[l7.st b nm])[j]?=Y (l7.st Z' n):=by
  cases b with
  |true=>
   refine⟨_,if_pos rfl,mi ||| 2 ^ tb.length,by rw[ei,yg,uJ,hb],λj =>?_⟩;rw[Gv,bi];constructor
   .rintro(⟨n,h⟩|h)
    .exact⟨n,Fz h⟩
    .exact⟨nm,gM.mpr (.inr ⟨h,rfl⟩)⟩
   .rintro⟨n,h⟩;rcases gM.mp h with h|⟨h,_⟩
    .exact .inl ⟨n,h⟩
    .exact .inr h
  |false=>
   refine⟨_,if_neg (λy=>by cases (FR Z_).mp y),mi,ei,λj =>?_⟩;rw[bi];constructor
   .rintro⟨n,h⟩;exact⟨n,Fz h⟩
   .rintro⟨n,h⟩;rcases gM.mp h with h|⟨_,h⟩
    .exact⟨n,h⟩
    .cases h
 have tt:∀t,(cO s.tk s.tv (b_ t)=M/\∀i:Nat,(tb++[l7.st b nm])[i]? ≠ Y (l7.tx t))\/∃j,cO s.tk s.tv (b_ t)=Y (.int (2 ^ j))/\∀i,(tb++[l7.st b nm])[i]?=Y (l7.tx t)↔i=j:=λt=>by
  have nt:∀i,(tb++[l7.st b nm])[i]?=Y (l7.tx t)↔tb[i]?=Y (l7.tx t):=λi=>by
   rw[gM];constructor
   .rintro(h|⟨_,h⟩)
    .exact h
    .cases h
   .exact .inl
  rcases I.text t with⟨a,c⟩|⟨j,a,c⟩
  .exact .inl ⟨a,λi z=>c i ((nt i).mp z)⟩
  .exact .inr ⟨j,a,λi=>(nt i).trans (c i)⟩
 have hl:∀l∈L,∃b' n',(tb++[l7.st b nm])[l.1]?=Y (l7.st b' n'):=λl hl=>by let(b',n',h):=I.lst l hl;exact⟨b',n',Fz h⟩
 have n1:s.bits+1=(tb++[l7.st b nm]).length:=by simp[hb]
 let n2:=I.YI;let n3:=I.Yy;let n4:=I.VX;have nml:∀n,(∀j:Nat,(∃b',(tb++[l7.st b nm])[j]?=Y (l7.st b' (Y n)))↔((∃b',tb[j]?=Y (l7.st b' (Y n)))\/(j=tb.length/\nm=Y n))):=λn j=>by
  constructor
  .rintro⟨b',h⟩;rcases gM.mp h with h1|⟨h1,e⟩
   .exact .inl ⟨b',h1⟩
   .exact .inr ⟨h1,by injection e⟩
  .rintro(⟨b',h⟩|⟨h,e⟩)
   .exact⟨b',Fz h⟩
   .exact⟨b,gM.mpr (.inr ⟨h,by rw[e]⟩)⟩
 cases nm with
 |none=>
  have e:mT s (gS b) (h_ M) i={ s with bits:=s.bits+1,inner:=Ct,fx:=bO s.fx (2 ^ s.bits),oj:=s.oj+1 }:=by unfold mT;simp only[Xw];exact if_pos rfl
  rw[e];refine⟨n1,hin,⟨ms ||| 2 ^ tb.length,by show bO s.fx (2 ^ s.bits)=_;rw[es,yg,uJ,hb],λj =>?_⟩,λn =>?_,I.W7,by show s.nk.length<=s.bits+1;omega,tt,I.VE,by show s.tk.length<=s.bits+1;omega,I.dG,I.Xd,hl,by show L.length<=s.bits+1;omega⟩
  .rw[Gv,bs];constructor
   .rintro(⟨n,h⟩|h)
    .exact⟨n,Fz h⟩
    .exact⟨b,gM.mpr (.inr ⟨h,rfl⟩)⟩
   .rintro⟨n,h⟩;rcases gM.mp h with h|⟨h,_⟩
    .exact .inl ⟨n,h⟩
    .exact .inr h
  .let⟨m,em,bm⟩:=I.name n;refine⟨m,em,λj =>?_⟩;rw[bm,nml];simp
 |some n0=>
  have nz:h_ (Y n0)≠ae "*" :=λz=>hn (by rw[<- z];rfl)
  have e:mT s (gS b) (h_ (Y n0)) i={ s with bits:=s.bits+1,inner:=Ct,nk:=(my (b_ n0) (.int (bO i (2 ^ s.bits))) s.nk s.nv).1,nv:=(my (b_ n0) (.int (bO i (2 ^ s.bits))) s.nk s.nv).2 }:=by unfold mT;simp only[Xw];exact if_neg nz
  rw[e];have dl:=Og (k:=b_ n0) (d :=.int (bO i (2 ^ s.bits))) I.W7;refine⟨n1,hin,⟨ms,es,λj =>?_⟩,λn =>?_,dl.1,by show (my _ _ s.nk s.nv).1.length<=s.bits+1;omega,tt,I.VE,by show s.tk.length<=s.bits+1;omega,I.dG,I.Xd,hl,by show L.length<=s.bits+1;omega⟩
  .rw[bs];constructor
   .rintro⟨n,h⟩;exact⟨n,Fz h⟩
   .rintro⟨n,h⟩;rcases gM.mp h with h|⟨_,h⟩
    .exact⟨n,h⟩
    .cases h
  .let⟨m,em,bm⟩:=I.name n;show ∃m:Nat,(cO (my (b_ n0) (.int (bO i (2 ^ s.bits))) s.nk s.nv).1 (my (b_ n0) (.int (bO i (2 ^ s.bits))) s.nk s.nv).2 (b_ n)).getD (.int 0)=.int (m:Int)/\_;rw[Ku I.W7];by_cases e:n=n0
   .subst e;let hi:(cO s.nk s.nv (b_ n)).getD (.int 0)=.int i:=hi;rw[em]at hi;cases hi;refine⟨m ||| 2 ^ tb.length,by rw[if_pos rfl];show D.int (bO (m:Int) (2 ^ s.bits))=_;rw[yg,uJ,hb],λj =>?_⟩;rw[Gv,bm,nml];simp
   .refine⟨m,by rw[if_neg (λy=>e (Sum.inr.inj y))];exact em,λj =>?_⟩;rw[bm,nml];simp[bQ e]
noncomputable def gP:Nat->Nat->List Int
 |_,0=>[]|n,k+1=>2 ^ n::gP (n+1) k
theorem BG:∀n k,(gP n k).length=k
 |_,0=>rfl|n,k+1=>by simp[gP,BG _ k]
noncomputable def rX:Ss->List l7
 |.nil=>[]|.cons b nm _ r =>.st b nm::rX r
noncomputable def dE:Ss->Nat
 |.nil=>0|.cons _ _ _ r=>dE r+1
theorem ui:∀s,(hV s).length=dE s
 |.nil=>rfl|.cons _ _ _ r=>by rw[hV,bZ,ui r];rfl
theorem EM:∀(a:Ss) (s:FB) (tb:List l7){L:List (Nat×Ak)}(x:Option D),GI s tb L->HS a->s.bits+dE a<=1000->∃c,vp [M,x] (gN 0) (bR "Facts" "enter_step" av dX 1 wn) 1 av (hV a) (dQ s)=Y ((gP s.bits (dE a)).map D.int,dQ c)/\GI c (tb++rX a) L/\c.q=s.q
 |.nil,s,tb,L,x,I,_,_=>⟨s,rfl,by simp_all [rX],rfl⟩
 | .cons b nm w r,s,tb,L,x,I,n,h=>by
  simp only[dE]at h;let(i,hi,_):=I.name (h_ nm);let k:=AO (s:=s) Ž I.YI (gS b) (h_ nm) (qv w) hi;let G:=QB I b nm n.1 hi;have bt:(mT s (gS b) (h_ nm) i).bits=s.bits+1:=by rw[G.bits,I.bits];simp
  let qq:(mT s (gS b) (h_ nm) i).q=s.q:=by unfold mT;simp only;split<;>rfl
  let(f,d,l,o):=EM r (mT s (gS b) (h_ nm) i) (tb++[.st b nm]) x G n.2.2 ž;generalize mT s (gS b) (h_ nm) i=c at *
  refine⟨f,?_,by simp_all [rX],o.trans qq⟩;rw[hV,vp];let j:gN 0 (AB (gS b) (h_ nm) (qv w)) ([M,x].set 1 (Y (.obj av (dQ s))))=Y [Y _,oF s]:=rfl;let i:bR "Facts" "enter_step" av dX 1 wn [Y (AB (gS b) (h_ nm) (qv w)),oF s]=Y (.int (2 ^ s.bits),[Y (AB (gS b) (h_ nm) (qv w)),oF c]):=by rw[lE (by decide) rfl rfl rfl k];rfl
  let g:oi av 1 [Y (AB (gS b) (h_ nm) (qv w)),oF c]=Y (dQ c):=by kernel_rfl
  rw[j];simp only[ai,i,g];rw[bt]at d;rw[d];rfl
def EO{s:FB}{tb:List l7}{L:List (Nat×Ak)}(I:GI s tb L)(a:Ss)(n:HS a)(h:s.bits+dE a<=1000):∃b,gm [dQ s,.lst (hV a)]=Y (.lst ((gP s.bits (dE a)).map D.int),dQ b)/\GI b (tb++rX a) L/\b.q=s.q:=by
 let(b,e,r):=EM a s tb _ I n h;refine⟨b,?_,r⟩;show (mG [oF s,Y _]).bind _=_;let g:rH (iL (eV 1)) [M,Y 0] (gN 0) (bR "Facts" "enter_step" av dX 1 wn) 1 0 av [oF s,Y (.lst (hV a))]=Y (.lst ((gP s.bits (dE a)).map D.int),[oF b,Y (.lst (hV a))]):=by
  unfold rH;let f:iL (eV 1) [oF s,Y (.lst (hV a))]=Y _:=rfl;let d:oi av 0 [oF s,Y (.lst (hV a))]=Y (dQ s):=by kernel_rfl
  let c:nG [M,Y 0] (fU 0 [oF s,Y (.lst (hV a))])=[M,Y _]:=rfl;rw[f];simp only[ai];rw[if_pos (cW (nK (by grind [ui]))),d];simp only[ai];rw[c,e]
  exact Ÿ
 unfold mG fE;rw[g];exact ź
def K9{d:D}{a:List l_}{b:List D}(m:a.length=b.length)(h:cO a b k=M):my k d a b=(a++[k],b++[d])/\cO (a++[k]) (b++[d]) k=Y d:=by
 have c:=by unfold cO at h;simp only[Option.map_eq_none_iff,List.find?_eq_none,decide_eq_true_eq]at h;exact h
 let n:¬(a.any λq=>decide (q=k))=true:=by intro f;simp only[List.any_eq_true,decide_eq_true_eq]at f;let(q,j,rfl):=f;let(i,o,e):=List.getElem_of_mem j;exact c (q,b[i]' ž) (by rw[<- e];exact dN.mpr ⟨i,by simp;omega,ż⟩) rfl
 refine⟨by unfold my;rw[if_neg n],?_⟩;unfold cO;rw[List.zip_append m,List.find?_append];have:(a.zip b).find? (λg=>decide (g.1=k))=none:=by grind
 rw[this];simp
def z7{s:FB}{t:aJ}(hb:s.bits<=999)(hl:s.tk.length<=s.bits)(hkv:s.tk.length=s.tv.length)(h:cO s.tk s.tv (b_ t)=M):
  dF [dQ s,.str t]=Y (.int (2 ^ s.bits),dQ { s with bits:=s.bits+1,tk:=s.tk++[b_ t],tv:=s.tv++[.int (2 ^ s.bits)] }):=by
 show (f' [oF s,Y (.str t)]).bind (sk av)=_;unfold f';let(hp,hlk):=K9 (d :=.int (2 ^ s.bits)) hkv h;let e1:Az [0] [] ww [oF s,Y (.str t)]=Y true:=by
  refine Ic (ρ':=[Y (dQ s),Y (.str t)]) rfl ?_;have:dB (e2 (Cf Z') (eV 1) (bK "Facts" "by_text" (eV 0))) [Y (dQ s),Y (.str t)]=Y (!(cO s.tk s.tv (b_ t)).isSome):=rfl
  simp_all
 let e2:sh 0 "Facts" "by_text" (eV 1) (bR "Facts" "new_bit" av fB 0 kj) [oF s,Y (.str t)]=Y (.nx [oF { s with bits:=s.bits+1,tk:=s.tk++[b_ t],tv:=s.tv++[.int (2 ^ s.bits)] },Y (.str t)]):=by
  let m1:bR "Facts" "new_bit" av fB 0 kj [oF s,Y (.str t)]=Y (.int (2 ^ s.bits),[oF { s with bits:=s.bits+1 },Y (.str t)]):=by rw[lE (by decide) rfl rfl rfl (zj s hb)];rfl
  unfold sh;rw[m1];simp only[ai];let e3:rW "Facts" "by_text" 0 [oF { s with bits:=s.bits+1 },Y (.str t)]=Y (vx,XH,[.lst s.q,.int ((s.bits+1:Nat):Int),.iW s.nk s.nv,.iW s.tk s.tv,.int s.fx,.int s.oj,.int s.inner,.lst s.dG],.iW s.tk s.tv):=by kernel_rfl
  rw[e3];simp only[ai];show (if _/\s.tk.length<eJ then _ else M)=_;rw[if_pos ⟨by decide,nK (by omega)⟩];rw[hp]
  exact Ÿ
 let e4:gk (Az [0] [] (dB (L2.e2 (Cf Z') (eV 1) (bK "Facts" "by_text" (eV 0))))) Ä eI [oF s,Y (.str t)]=Y (.nx [oF { s with bits:=s.bits+1,tk:=s.tk++[b_ t],tv:=s.tv++[.int (2 ^ s.bits)] },Y (.str t)]):=by simp_all [gk]
 rw[aB e4];let e5:lV [0] [] (L2.e2 IH (bK "Facts" "by_text" (eV 0)) (eV 1)) [oF { s with bits:=s.bits+1,tk:=s.tk++[b_ t],tv:=s.tv++[.int (2 ^ s.bits)] },Y (.str t)]=Y (.int (2 ^ s.bits)):=by refine BX (ρ':=[Y (dQ { s with bits:=s.bits+1,tk:=s.tk++[b_ t],tv:=s.tv++[.int (2 ^ s.bits)] }),Y (.str t)]) rfl ?_ rfl;exact hlk
 unfold fE mP;rw[e5]
 exact Ÿ
def z0{s:FB}(h:cO s.tk s.tv (b_ t)=Y (.int i)):dF [dQ s,.str t]=Y (.int i,dQ s):=by
 show (f' [oF s,Y _]).bind _=_;unfold f';let c:Az [0] [] ww [oF s,Y (.str t)]=Y false:=by
  refine Ic (ρ':=[Y _,Y _]) rfl ?_;have:dB (e2 (Cf Z') (eV 1) (bK "Facts" "by_text" (eV 0))) [Y (dQ s),Y (.str t)]=Y _:=rfl
  simp_all
 let b:∀g,gk (Az [0] [] (dB (L2.e2 (Cf Z') (eV 1) (bK "Facts" "by_text" (eV 0))))) g eI [oF s,Y (.str t)]=Y (.nx [oF s,Y (.str t)]):=by intro g;unfold gk;rw[c];rfl
 rw[aB (b _)];unfold fE mP;rw[(BX (ρ':=[Y (dQ s),Y (.str t)]) rfl h rfl)];exact ź
def QA{s:FB}{tb:List l7}{L:List (Nat×Ak)}(I:GI s tb L){t:aJ}(h:cO s.tk s.tv (b_ t)=M):GI { s with bits:=s.bits+1,tk:=s.tk++[b_ t],tv:=s.tv++[.int (2 ^ s.bits)] } (tb++[.tx t]) L:=by
 let Fz:∀ {j:Nat}{x:l7},tb[j]?=Y x->(tb++[l7.tx t])[j]?=Y x:=λh=>gM.mpr (.inl h)
 have sm:∀ {j:Nat}{b nm},(tb++[l7.tx t])[j]?=Y (l7.st b nm)↔tb[j]?=Y (l7.st b nm):=fun {j b nm}=>by
  rw[gM];constructor
  .rintro(h|⟨_,h⟩)
   .exact h
   .cases h
  .exact .inl
 let(mi,ei,bi):=I.inner;let(ms,es,bs):=I.star;have n1:s.bits+1=(tb++[l7.tx t]).length:=by simp[I.bits]
 let n2:=I.YI;let n3:=I.Yy;let n4:=I.VX;refine⟨n1,⟨mi,ei,λj =>?_⟩,⟨ms,es,λj =>?_⟩,λn =>?_,I.W7,ŷ,λt' =>?_,by simp[I.VE],Ż,I.dG,I.Xd,λl hl =>?_,ŷ⟩
 .simp_all
 .simp only[bs,sm]
 .let⟨m,em,bm⟩:=I.name n;exact⟨m,em,λj=>by simp only[bm,sm]⟩
 .show (cO (s.tk++[b_ t]) (s.tv++[.int (2 ^ s.bits)]) (b_ t')=M/\_)\/∃j,cO (s.tk++[b_ t]) (s.tv++[.int (2 ^ s.bits)]) (b_ t')=_/\_;rw[zt I.VE];rcases I.text t' with⟨a,c⟩|⟨j,a,c⟩
  .rw[a];by_cases e:t=t'
   .subst e;refine .inr ⟨s.bits,ż,λi =>?_⟩;rw[gM,I.bits];constructor
    .rintro(z|z)
     .exact absurd z (c i)
     .exact z.1
    .intro z;exact .inr ⟨z,rfl⟩
   .refine .inl ⟨by simp[e],λi z =>?_⟩;rcases gM.mp z with z|⟨_,z⟩
    .exact c i z
    .exact e (by injection z)
  .let e:t≠t':=λz=>by subst z;rw[h]at a;cases a
   refine .inr ⟨j,by rw[a],λi =>?_⟩;rw[gM,c i];constructor
   .rintro(z|⟨_,z⟩)
    .exact z
    .exact absurd (by injection z) e
   .exact .inl
 .let⟨b',n',h⟩:=I.lst l hl;exact⟨b',n',Fz h⟩
def Pk{s:FB}{tb:List l7}{L:List (Nat×Ak)}(I:GI s tb L)(u:s.bits<=999)(t:aJ):∃j f tx,dF [dQ s,.str t]=Y (.int (2 ^ j),dQ f)/\GI f (tb++tx) L/\(tx=[]\/tx=[.tx t])/\(tb++tx)[j]?=Y (.tx t)/\f.q=s.q:=by
 rcases I.text t with⟨a,c⟩|⟨j,a,c⟩
 .refine⟨_,_,_,z7 u I.Yy I.VE a,QA I a,.inr rfl,gM.mpr (.inr ⟨I.bits,rfl⟩),rfl⟩
 .exact⟨j,s,[],z0 a,Ż,.inl rfl,Ż,rfl⟩
noncomputable abbrev vI(a:Int)(b:List D):D :=.tup [.int a,.lst b]
noncomputable def i6:As->Nat
 |.nil=>0|.cons _ r=>i6 r+1
theorem HN:∀s,(nQ s).length=i6 s
 |.nil=>rfl|.cons _ r=>by rw[nQ,bZ,HN r];rfl
noncomputable def zQ:Nat->Nat->Int->List Int
 |_,0,_=>[]|_,1,e=>[e]|n,k+2,e=>2 ^ (n+1)::zQ (n+1) (k+1) e
theorem NS:∀(k n:Nat) (e:Int),gP (n+1) k++[e]=zQ n (k+1) e
 |0,n,e=>rfl|k+1,n,e=>by rw[gP,zQ,lT,NS k _ e]
noncomputable def kY:As->Nat->Nat->List (Nat×Ak)
 |.nil,_,_=>[]|.cons (.mk n c) .nil,j,e=>[(j,.mk (n ||| e) c)]
 |.cons (.mk n c) (.cons x r),j,e=>(j,.mk (n ||| 2 ^ (j+1)) c)::kY (.cons x r) (j+1) e
def Ey{y1 y2 y4:List D}{y3:Int}{s:FB}{n f j:Nat}{c:Cs}(h:s.dG.length<eJ):gx [oF s,Y (.lst y1),Y (.lst y2),Y (.int y3),Y (.lst y4),Y (BM (.mk n c)),Y (.int (2 ^ j)),Y (.int (f:Int))]=Y (.nx [oF { s with dG:=s.dG++[ldK (j,.mk (n ||| f) c)] },Y (.lst y1),Y (.lst y2),Y (.int y3),Y (.lst y4),Y (BM (.mk n c)),Y (.int (2 ^ j)),Y (.int (f:Int))]):=by
 let q:∀(b a g:Int) (d:List D),gx _=Y (.nx [oF { s with dG:=s.dG++[.tup [.int b,vI (bO a g) d]] },Y (.lst y1),Y (.lst y2),Y (.int y3),Y (.lst y4),Y (vI a d),Y (.int b),Y (.int g)]):=λb a g d=>by
  unfold gx Mj;let u:rW "Facts" "leads" 0 [oF s,Y (.lst y1),Y (.lst y2),Y (.int y3),Y (.lst y4),Y (vI a d),Y (.int b),Y (.int g)]=Y (vx,XH,[.lst s.q,.int s.bits,.iW s.nk s.nv,.iW s.tk s.tv,.int s.fx,.int s.oj,.int s.inner,.lst s.dG],.lst s.dG):=by kernel_rfl
  let v:iu (aC (eV 6) (aC Á aN)) [oF s,Y (.lst y1),Y (.lst y2),Y (.int y3),Y (.lst y4),Y (vI a d),Y (.int b),Y (.int g)]=Y (.tup [.int b,vI (bO a g) d]):=by kernel_rfl
  rw[u];rw[v];simp only[ai];rw[if_pos ⟨by rfl,by solve_by_elim⟩];exact ź
 let e:ldK (j,.mk (n ||| f) c)=.tup [.int (2 ^ j),vI (bO n f) (x3 c)]:=by rw[uJ];exact Ÿ
 rw[e]
 exact Ÿ
theorem Ez{y1 y2 y4:List D}{y3:Int}:∀(ks:As) (j e:Nat) (s:FB) (a b c:Option D),s.dG.length+i6 ks<eJ->∃o n m,
  ia (R6 5 6 7) gx (ku (nQ ks) ((gP j (i6 ks)).map D.int) ((zQ j (i6 ks) (e:Int)).map D.int)) [oF s,Y (.lst y1),Y (.lst y2),Y (.int y3),Y (.lst y4),a,b,c]=Y (.nx [oF { s with dG:=s.dG++(kY ks j e).map ldK },Y (.lst y1),Y (.lst y2),Y (.int y3),Y (.lst y4),o,n,m])
 |.nil,j,e,s,a,b,c,_=>⟨a,b,c,by simp[nQ,ku,ia,kY]⟩
 | .cons (.mk n c) .nil,j,e,s,a,b,d,h=>by
  simp only[i6]at h;refine⟨Y (BM (.mk n c)),Y (.int (2 ^ j)),Y (.int (e:Int)),?_⟩;show ia (R6 5 6 7) gx (ku [BM (.mk n c)] [.int (2 ^ j)] [.int (e:Int)]) _=_;rw[ku,jx rfl (Ey (by lia))]
  exact Ÿ
 | .cons (.mk n c) (.cons x r),j,e,s,a,b,d,h=>by
  simp only[i6]at h;let t:=Ey (y1:=y1) (y2:=y2) (y3:=y3) (y4:=y4) (s:=s) (n:=n) (f:=2 ^ (j+1)) (j:=j) (c:=c) ž;let(o,p,m,q):=Ez (y1:=y1) (y2:=y2) (y3:=y3) (y4:=y4) (.cons x r) (j+1) e { s with dG:=s.dG++[ldK _] } (Y (BM (.mk n c))) (Y (.int (2 ^ j))) _ (by simp only[i6,aS,gK];omega);refine⟨o,p,m,?_⟩;let e1:ku (nQ (.cons (.mk n c) (.cons x r))) ((gP j (i6 (.cons (.mk n c) (.cons x r)))).map D.int) ((zQ j (i6 (.cons (.mk n c) (.cons x r))) (e:Int)).map D.int)=.tup [BM (.mk n c),.int (2 ^ j),.int ((2 ^ (j+1):Nat):Int)]::ku (nQ (.cons x r)) ((gP (j+1) (i6 (.cons x r))).map D.int) ((zQ (j+1) (i6 (.cons x r)) (e:Int)).map D.int):=by solve_by_elim
  rw[e1,jx rfl t,q];simp only[kY,a_,bY,List.singleton_append]
def Qi{s:FB}{ks:As}{j e:Nat}(hn:ks ≠ .nil)(hl:s.dG.length+i6 ks<2000):lO [dQ s,.lst (nQ ks),.lst ((gP j (i6 ks)).map D.int),.int (e:Int)]=Y (.gA,dQ { s with dG:=s.dG++(kY ks j e).map ldK }):=by
 obtain⟨k,hk⟩:∃k,i6 ks=k+1:=by
  cases ks with|nil=>trivial|cons x r=>exact⟨_,rfl⟩
 show (nN [oF s,Y (.lst (nQ ks)),Y (.lst ((gP j (i6 ks)).map D.int)),Y (.int (e:Int)),M,M,M,M]).bind (sk av)=_;unfold nN;let q0:eP 4 (e2 f_ Ñ (eF (fQ sn))) [oF s,Y (.lst (nQ ks)),Y (.lst ((gP j (i6 ks)).map D.int)),Y (.int (e:Int)),M,M,M,M]=Y (.nx [oF s,Y (.lst (nQ ks)),Y (.lst ((gP j (i6 ks)).map D.int)),Y (.int (e:Int)),Y (.lst ((zQ j (i6 ks) (e:Int)).map D.int)),M,M,M]):=by
  let e1:e2 f_ Ñ (eF (fQ sn)) [oF s,Y (.lst (nQ ks)),Y (.lst ((gP j (i6 ks)).map D.int)),Y (.int (e:Int)),M,M,M,M]=f_ (.lst (Fl ((gP j (i6 ks)).map D.int) (Y 1) M)) (.lst [.int (e:Int)]):=rfl;let e2:Fl ((gP j (i6 ks)).map D.int) (Y 1) M=(gP (j+1) k).map D.int:=by
   rw[hk,EW _ (by simp)]
   exact Ÿ
  rw[e2]at e1;let e3:f_ (.lst ((gP (j+1) k).map D.int)) (.lst [.int (e:Int)])=Y (.lst ((zQ j (i6 ks) (e:Int)).map D.int)):=by simp only[f_];rw[if_pos (cW (nK (by rw[az,gK,BG];omega))),hk,<- NS];simp
  rw[f7 (e1.trans e3)];rfl
 rw[aB q0];let(b5,b6,b7,q):=Ez (y1:=nQ ks) (y2:=(gP j (i6 ks)).map D.int) (y3:=(e:Int)) (y4:=(zQ j (i6 ks) (e:Int)).map D.int) ks j e s M M M (nK hl);let q2:iQ (iZ3 (eV 1) (eV 2) (eV 4)) (R6 5 6 7) gx [oF s,Y (.lst (nQ ks)),Y (.lst ((gP j (i6 ks)).map D.int)),Y (.int (e:Int)),Y (.lst ((zQ j (i6 ks) (e:Int)).map D.int)),M,M,M]=ia (R6 5 6 7) gx (ku (nQ ks) ((gP j (i6 ks)).map D.int) ((zQ j (i6 ks) (e:Int)).map D.int)) _:=rfl;rw[q2,q]
 exact Ÿ
noncomputable def YJ:Ak->Nat|.mk n _=>n
noncomputable def LD:Ak->Cs|.mk _ c=>c
def T9(n:Nat)(c:Cs):YJ (.mk n c)=n:=rfl
def qQ(n:Nat)(c:Cs):LD (.mk n c)=c:=rfl
theorem HB:∀a b:Cs,x3 (a.app b)=x3 a++x3 b
 |.nil,b=>rfl|.cons c r,b=>by rw[Cs.app,x3,HB r b];rfl
def tG(n:Nat)(c:Cs)(r:As):iP (.cons (.mk n c) r)=.mk (n ||| YJ (iP r)) (c.app (LD (iP r))):=by
 rw[iP];rcases iP r with⟨m,d⟩;rfl
theorem Bl{x0:List D}:∀(f:As) (n:Nat) (d:List D) (g:Option D),d.length+(x3 (LD (iP f))).length<eJ->∃i,
  ia (gN 3) iB (nQ f) [Y (.lst x0),Y (.int (n:Int)),Y (.lst d),g]=Y (.nx [Y (.lst x0),Y (.int ((n ||| YJ (iP f):Nat):Int)),Y (.lst (d++x3 (LD (iP f)))),i])
 |.nil,n,d,g,_=>⟨g,by simp[nQ,ia,iP,YJ,LD,x3]⟩
 | .cons (.mk b c) f,n,d,g,k=>by
  rw[tG]at k ⊢;simp only[T9,qQ,HB,aS]at k ⊢;let l:iB [Y (.lst x0),Y (.int n),Y (.lst d),Y (BM (.mk b c))]=Y (.nx [Y (.lst x0),Y (.int (n ||| b:Nat)),Y (.lst (d++x3 c)),Y (BM (.mk b c))]):=by
   have:∀(n b:Int) (c:List D),d.length+c.length<=eJ->iB _=Y (.nx [Y (.lst x0),Y (.int (bO n b)),Y (.lst (d++c)),Y (vI b c)]):=λn b c k=>by
    unfold iB;let m:vf 1 eN (e2 bW (eV 3) u8) [Y (.lst x0),Y (.int n),Y (.lst d),Y (vI b c)]=Y (.nx [Y (.lst x0),Y (.int (bO n b)),Y (.lst d),Y (vI b c)]):=by kernel_rfl
    rw[aB m];show (if d.length+c.length<=eJ then _ else M)=_
    simp_all
   rw[<- uJ];exact this _ _ _ Ž
  rw[nQ,jx rfl l];let(i,q):=Bl f _ (d++x3 c) _ ŷ;refine⟨i,q.trans ?_⟩;rw[Nat.or_assoc,bY]
def Ni{ks:As}(f:(x3 (LD (iP ks))).length<eJ):jw [.lst (nQ ks)]=Y (BM (iP ks)):=by
 show (mF [Y _,M,M,M]).bind _=_;unfold mF;rw[aB (f7 rfl)];simp;let d:jq 2 Ð [Y _,Y _,M,M]=Y (.nx [Y (.lst (nQ ks)),Y (.int 0),Y _,M]):=rfl;rw[aB d];let(g,q):=Bl ks 0 [] _ Ż;let c:iQ (iL (eV 0)) _ _ [Y (.lst (nQ ks)),Y (.int 0),Y (.lst []),M]=ia (gN 3) iB _ _:=rfl;rw[aB (c.trans q)];rcases iP ks with⟨n,k⟩;simp;rfl
mutual
noncomputable def oW:Wi->Nat
 |.any=>1|.txt _=>1|.has s=>1+uc s|.both w=>1+xJ w|.one w=>1+xJ w
noncomputable def xJ:Ws->Nat
 |.nil=>0|.cons w r=>oW w+xJ r
noncomputable def uc:Ss->Nat
 |.nil=>0|.cons _ _ w r=>1+oW w+uc r
end
mutual
def Zi(T:aJ->Prop):Wi->Prop
 |.any=>True|.txt t=>T t|.has s=>s ≠ .nil/\V5 T s|.both w=>Yi T w|.one w=>Yi T w
def Yi(T:aJ->Prop):Ws->Prop
 |.nil=>True|.cons w r=>Zi T w/\Yi T r
def V5(T:aJ->Prop):Ss->Prop
 |.nil=>True|.cons _ _ w r=>Zi T w/\V5 T r
end
mutual
def pO(tb:List l7)(L:List (Nat×Ak)):Wi->Ak->Prop
 |.any,k=>k=.mk 0 .nil|.txt t,k=>∃j,k=.mk (2 ^ j) .nil/\tb[j]?=Y (.tx t)|.has s,k=>∃j,k=.mk (2 ^ j) .nil/\mC tb L 0 s j|.both w,k=>∃ks,nF tb L w ks/\k=iP ks|.one w,k=>∃ks,nF tb L w ks/\k=.mk 0 (.cons ks .nil)
def nF(tb:List l7)(L:List (Nat×Ak)):Ws->As->Prop
 |.nil,k=>k=.nil|.cons w r,k=>∃x y,pO tb L w x/\nF tb L r y/\k=.cons x y
def mC(tb:List l7)(L:List (Nat×Ak))(e:Nat):Ss->Nat->Prop
 |.nil,_=>False|.cons b nm w r,j=>∃qX cs O5,pO tb L w (.mk qX cs)/\tb[j]?=Y (.st b nm)/\(j,Ak.mk (qX ||| O5) cs)∈L/\(r=.nil/\O5=e\/mC tb L e r (j+1)/\O5=2 ^ (j+1))
end
structure Up(tb:List l7)(L:List (Nat×Ak))(mM:List l7)(L':List (Nat×Ak)):Prop where
 t:∀ {i:Nat}{x:l7},tb[i]?=some x->mM[i]?=some x
 l:∀x∈L,x∈L'
def Up.app(tb:List l7)(L:List (Nat×Ak))(a:List l7)(b:List (Nat×Ak)):Up tb L (tb++a) (L++b):=⟨fun {i x} h=>by rw[aM (Hl h)];exact h,λx h=>by simp[h]⟩
mutual
theorem pO.up{tb mM L L'}(u:Up tb L mM L'):∀(w:Wi) (k:Ak),pO tb L w k->pO mM L' w k
 |.any,k,h=>h|.txt t,k,⟨j,e,h⟩=>⟨j,e,u.t h⟩|.has s,k,⟨j,e,h⟩=>⟨j,e,mC.up u s j h⟩|.both w,k,⟨ks,h,e⟩=>⟨ks,nF.up u w ks h,e⟩|.one w,k,⟨ks,h,e⟩=>⟨ks,nF.up u w ks h,e⟩
theorem nF.up{tb mM L L'}(u:Up tb L mM L'):∀(w:Ws) (k:As),nF tb L w k->nF mM L' w k
 |.nil,k,h=>h|.cons w r,k,⟨x,y,a,b,e⟩=>⟨x,y,pO.up u w x a,nF.up u r y b,e⟩
theorem mC.up{tb mM L L'}{e:Nat}(u:Up tb L mM L'):∀(s:Ss) (j:Nat),mC tb L e s j->mC mM L' e s j
 |.nil,j,h=>h|.cons b nm w r,j,⟨n,c,f,a,t,l,h⟩=>⟨n,c,f,pO.up u w _ a,u.t t,u.l _ l,h.imp id λ⟨x,y⟩=>⟨mC.up u r _ x,y⟩⟩
end
def La(k:Ak):Nat:=(x3 (LD k)).length
def QZ:As->Nat
 |.nil=>0|.cons x r=>La x+QZ r
theorem yt:∀k:As,La (iP k)=QZ k
 |.nil=>rfl|.cons (.mk n c) r=>by rw[tG,La,qQ,HB,aS,QZ,<- yt r];rfl
mutual
noncomputable def dk:Ak->Nat
 |.mk _ cs=>1+Fx cs
noncomputable def Fx:Cs->Nat
 |.nil=>0|.cons c r=>max (BA c) (Fx r)
noncomputable def BA:As->Nat
 |.nil=>0|.cons x r=>max (dk x) (BA r)
end
mutual
def Vr:Ak->Prop
 |.mk _ cs=>(x3 cs).length<=1000/\LF cs
def LF:Cs->Prop
 |.nil=>True|.cons c r=>((nQ c).length<=1000/\Ra c)/\LF r
def Ra:As->Prop
 |.nil=>True|.cons x r=>Vr x/\Ra r
end
theorem Oj:∀a b:Cs,Fx (a.app b)=max (Fx a) (Fx b)
 |.nil,b=>by solve_by_elim
 |.cons c r,b=>by simp only[Cs.app,Fx,Oj r b];simp
theorem M9:∀a b:Cs,LF (a.app b)↔LF a/\LF b
 |.nil,b=>by simp[Cs.app,LF]
 |.cons c r,b=>by simp only[Cs.app,LF,M9 r b,and_assoc]
theorem Ju:∀k:As,Fx (LD (iP k))+1<=BA k\/Fx (LD (iP k))=0
 |.nil =>.inr rfl| .cons (.mk n c) r=>by
  rw[tG,qQ,Oj];simp only[BA,dk];have:=Ju r
  lia
theorem IS:∀k:As,Ra k->LF (LD (iP k))
 |.nil,_=>trivial|.cons (.mk n c) r,h=>by rw[tG,qQ,M9];exact⟨h.1.2,IS r h.2⟩
mutual
theorem OH{tb L}:∀(w:Wi) (k:Ak),pO tb L w k->oW w<=900->dk k<=pI w/\Vr k/\La k<=oW w
 |.any,k,h,b=>by subst h;simp[dk,Fx,pI,Vr,LF,x3,La,qQ]
 |.txt t,k,⟨j,e,_⟩,b=>by subst e;simp[dk,Fx,pI,Vr,LF,x3,La,qQ]
 |.has s,k,⟨j,e,_⟩,b=>by subst e;simp[dk,Fx,pI,Vr,LF,x3,La,qQ]
 |.one w,k,⟨ks,h,e⟩,b=>by subst e;simp only[oW]at b;let(x,y,z,u):=C6 w ks h ž;refine⟨by simp_all [dk,Fx,pI],⟨by simp[x3],⟨⟨by grind [HN],y⟩,trivial⟩⟩,by simp[La,qQ,x3,oW]⟩
 |.both w,k,⟨ks,h,e⟩,b=>by subst e;simp only[oW]at b;let(x,y,z,u):=C6 w ks h ž;let c:=yt ks;let d:=Ju ks;let l:=IS ks y;rcases e:iP ks with⟨n,cs⟩;rw[e]at c d l;simp only[La,qQ]at c d l ⊢;refine⟨by grind [dk,pI],⟨ž,l⟩,by grind [oW]⟩
theorem C6{tb L}:∀(w:Ws) (k:As),nF tb L w k->xJ w<=900->BA k<=Fv w/\Ra k/\QZ k<=xJ w/\i6 k<=xJ w
 |.nil,k,h,b=>by subst h;simp[BA,Ra,QZ,i6]
 | .cons w r,k,⟨x,y,h,g,e⟩,b=>by
  subst e;simp only[xJ]at b;have p:1<=oW w:=by cases w<;>simp[oW]<;>omega
  let(a1,a2,a3):=OH w x h ž;let(b1,b2,b3,b4):=C6 r y g ž;refine⟨by grind [BA,Fv],⟨a2,b2⟩,by grind [QZ,xJ],by grind [i6,xJ]⟩
end
def abF(k:Ak):Prop:=dk k<=12/\Vr k
def OS(L:List (Nat×Ak)):Prop:=∀l∈L,abF l.2
theorem IJ:∀(k:As) (j e:Nat),BA k<=12->Ra k->OS (kY k j e)
 |.nil,j,e,_,_=>λl h=>by simp[kY]at h
 |.cons (.mk n c) .nil,j,e,d,h=>λl hl=>by simp only[kY,dR]at hl;subst hl;simp only[BA,dk]at d;exact⟨by simp_all [dk],h.1⟩
 | .cons (.mk n c) (.cons x r),j,e,d,h=>λl hl=>by
  simp only[BA,dk]at d;rcases aV.mp hl with rfl|hl
  .exact⟨by grind [dk],h.1⟩
  .exact IJ _ _ e (by grind [BA]) h.2 l hl
def Cg{L:List (Nat×Ak)}{n:Nat}(h:(L.map (·.1)).Nodup)(g:∀l∈L,l.1<n):L.length<=n:=by
 have:=sr n _ h λx hx=>by let(l,hl,rfl):=eE.mp hx;exact g l hl
 simp_all
def QC{s:FB}{tb:List l7}{L N:List (Nat×Ak)}(I:GI s tb L)(nd:((L++N).map (·.1)).Nodup)(st:∀l∈N,∃b nm,tb[l.1]?=Y (l7.st b nm)):GI { s with dG:=s.dG++N.map ldK } tb (L++N):=by
 have qD:=λl hl=>(aO.mp hl).elim (I.lst l) (st l)
 refine⟨I.bits,I.inner,I.star,I.name,I.W7,I.YI,I.text,I.VE,I.Yy,?_,nd,qD,?_⟩
 .rw[I.dG,bT]
 .rw[I.bits];exact Cg nd λl hl=>by let(b,n,h):=qD l hl;exact Hl h
theorem zl:∀(k:As) (j e:Nat),(kY k j e).map (·.1)=List.range' j (i6 k)
 |.nil,j,e=>rfl|.cons (.mk n c) .nil,j,e=>rfl|.cons (.mk n c) (.cons x r),j,e=>by have:=zl (.cons x r) (j+1) e;rw[kY,a_,this];rfl
def BP(tb:List l7)(L:List (Nat×Ak)):Ss->As->Prop
 |.nil,k=>k=.nil|.cons _ _ w r,k=>∃x y,pO tb L w x/\BP tb L r y/\k=.cons x y
theorem BP.up{tb mM L L'}(u:Up tb L mM L'):∀(s:Ss) (k:As),BP tb L s k->BP mM L' s k
 |.nil,k,h=>h|.cons b nm w r,k,⟨x,y,a,c,e⟩=>⟨x,y,pO.up u w x a,BP.up u r y c,e⟩
theorem BP.ln{tb L}:∀(s:Ss) (k:As),BP tb L s k->uc s<=900->BA k+1<=uE s/\Ra k
 |.nil,k,h,_=>by let h:k=.nil:=h;simp_all [BA,Ra,uE]
 |.cons b nm w r,k,⟨x,y,a,c,e⟩,z=>by subst e;simp only[uc]at z;let(a1,a2,a3):=OH w x a Ž;let(b1,b2):=BP.ln r y c Ž;exact⟨by grind [BA,uE],a2,b2⟩
theorem BP.len{tb L}:∀(s:Ss) (k:As),BP tb L s k->i6 k=dE s
 |.nil,k,h=>by subst h;rfl
 |.cons b nm w r,k,⟨x,y,a,c,e⟩=>by subst e;rw[i6,dE,BP.len r y c]
theorem A3{tb:List l7}{L:List (Nat×Ak)}{e:Nat}:∀(a:Ss) (ks:As) (j:Nat),a ≠ .nil->BP tb L a ks->(∀i x,(rX a)[i]?=Y x->tb[j+i]?=Y x)->(∀l∈kY ks j e,l∈L)->mC tb L e a j
 |.nil,ks,j,h,_,_,_=>absurd rfl h|.cons b nm w .nil,ks,j,_,⟨⟨n,c⟩,y,ha,hy,q⟩,ht,hl=>by subst hy;subst q;exact⟨n,c,e,ha,ht 0 _ rfl,hl _ (by simp[kY]),ż⟩
 | .cons b nm w (.cons b' nm' w' r),ks,j,_,⟨⟨n,c⟩,y,ha,hy,q⟩,ht,hl=>by
  subst q;let hy0:=hy;let(x,z,_,_,q):=hy;subst q;refine⟨n,c,_,ha,ht 0 _ rfl,hl _ (by simp[kY]),.inr ⟨?_,rfl⟩⟩;refine A3 _ _ _ ż hy0 (λi y hi =>?_) λl h=>hl l Ÿ
  have:=ht (i+1) y Ÿ
  grind
def En:∀(k:As) (j e:Nat),∀l∈kY k j e,j<=l.1/\l.1<j+i6 k:=λk j e l h=>by
 have:=qw (f:=(·.1)) h;rw[zl]at this;exact List.mem_range'_1.mp this
structure Go(sz:Nat)(s:FB)(tb:List l7)(L:List (Nat×Ak))(s':FB)(mM:List l7)(L':List (Nat×Ak)):Prop where
 gi:GI s' mM L'
 q:s'.q=s.q
 add:∃a,mM=tb++a/\a.length<=sz
 ld:∃b,L'=L++b
 lo:∀l∈L',l∈L\/tb.length<=l.1
 lk:OS L->OS L'
def Go.up{sz s tb L s' mM L'}(h:Go sz s tb L s' mM L'):Up tb L mM L':=by
 let(a,rfl,_):=h.add;let(b,rfl):=h.ld;exact .app _ _ _ _
def Go.len{sz s tb L s' mM L'}(h:Go sz s tb L s' mM L'):tb.length<=mM.length/\mM.length<=tb.length+sz:=by
 let(a,rfl,k):=h.add
 simp_all
def Go.refl{s tb L}(h:GI s tb L):Go 0 s tb L s tb L:=⟨h,rfl,⟨[],ż,aI _⟩,Ż,λ_ =>.inl,id⟩
def Go.trans{sz s tb L s' mM L' sz' s'' Wh L''}(h:Go sz s tb L s' mM L')(g:Go sz' s' mM L' s'' Wh L''):Go (sz+sz') s tb L s'' Wh L'':=by
 let(a,e,k):=h.add;let(b,f,m):=g.add;let(c,u):=h.ld;let(d,v):=g.ld;refine⟨g.gi,g.q.trans h.q,⟨a++b,Ż,by rw[aS];lia⟩,Ż,λx hx =>?_,λz=>g.lk (h.lk z)⟩;rcases g.lo x hx with z|z
 .exact h.lo x z
 grind
def Go.le{sz s tb L s' mM L' sz'}(h:Go sz s tb L s' mM L')(b:sz<=sz'):Go sz' s tb L s' mM L':=by
 let(c,e,k):=h.add;exact⟨h.gi,h.q,⟨c,e,bX k b⟩,h.ld,h.lo,h.lk⟩
theorem qy:∀a:Ss,(rX a).length=dE a
 |.nil=>rfl|.cons _ _ _ r=>by rw[rX,bZ,qy r];rfl
def NJ{s s':FB}{tb:List l7}{L:List (Nat×Ak)}{a:Ss}(h:GI s' (tb++rX a) L)(q:s'.q=s.q):Go (dE a) s tb L s' (tb++rX a) L:=⟨h,q,⟨_,rfl,Rp (qy a)⟩,Ż,λ_ =>.inl,id⟩
theorem LX:∀(a:Ss) (i:Nat),i<dE a->∃b nm,(rX a)[i]?=Y (.st b nm)
 |.nil,i,h=>by simp[dE]at h
 |.cons b nm _ r,0,h=>⟨b,nm,rfl⟩| .cons b nm _ r,i+1,h=>by
  let(b,nm,e):=LX r i (by simp_all [dE])
  exact Ÿ
def Qy{sz:Nat}{s s':FB}{tb mM:List l7}{L L':List (Nat×Ak)}{a:Ss}{ks:As}{e:Nat}(h:Go sz s (tb++rX a) L s' mM L')(hL:∀l∈L,l.1<tb.length)(hn:i6 ks=dE a):
  GI { s' with dG:=s'.dG++(kY ks tb.length e).map ldK } mM (L'++kY ks tb.length e)/\∀i x,(rX a)[i]?=Y x->mM[tb.length+i]?=Y x:=by
 let u:=h.up;let ln:=h.len.1;rw[aS,qy]at ln;have ht:∀i x,(rX a)[i]?=Y x->mM[tb.length+i]?=Y x:=λi x hx=>by refine u.t ?_;rw[lh (by simp),show tb.length+i-tb.length=i by omega];exact hx
 refine⟨QC h.gi ?_ (λl hl =>?_),ht⟩
 .rw[bT,zl,eD];refine⟨h.gi.Xd,List.nodup_range' ..,λx hx y hy z =>?_⟩;subst z;let(l,hl,rfl):=eE.mp hx;have hy:=List.mem_range'_1.mp hy;rcases h.lo l hl with z|z
  .grind
  grind [aS,qy]
 .let⟨p,q⟩:=En ks _ e l hl;let(b,nm,g):=LX a (l.1-tb.length) ž;refine⟨b,nm,?_⟩;have:=ht _ _ g
  simp_all
def Qs{b:Bool}(h:t a=Y b):gk t g eI a=if b=Z' then g a else Y (.nx a):=by
 unfold gk;rw[h]
 exact Ÿ
def Ij{b:cE}(e:g b=Y (.rm d a)):aU g h b=Y (.rm d a):=by unfold aU;rw[e];rfl
def kq'{s:FB}{r:List D}{y:Option D}{b:Bool}(h:gQ (kS x) (kS k)=Y (.bl b)):dB (e2 gQ (e2 bW (eV 1) u8) (eK (kS k))) [oF s,Y (.tup (kS x::r)),y]=Y b:=by
 let e:e2 bW (eV 1) u8 [oF s,Y (.tup (kS x::r)),y]=Y (kS x):=by exact gY rfl
 let c:e2 gQ (e2 bW (eV 1) u8) (eK (kS k)) [oF s,Y (.tup (kS x::r)),y]=gQ (kS x) (kS k):=by show (e2 bW _ _ _).bind _=_;rw[e];rfl
 unfold dB;rw[c,h];rfl
def Ca{s:FB}:(Y (DO.rm d [oF s,x,y])).bind (sk av)=Y (d,dQ s):=by kernel_rfl
def Li{F:List D->Option (D×D)}{s:FB}:mo 2 3 av (dD F a) [dQ s,.tup [kS "any"]]=Y (vI 0 [],dQ s):=by
 exact Ÿ
abbrev Ø:=dB (e2 gQ (e2 bW (eV 1) u8) (eK (kS "text")))
abbrev Ü:=dB (e2 gQ (e2 bW (eV 1) u8) (eK (kS "any")))
def HJ{F:List D->Option (D×D)}{s:FB}(h:dF [dQ s,.str t]=Y (.int i,dQ a)):mo 2 3 av (dD F c) [dQ s,.tup [kS "text",.str t]]=Y (vI i [],dQ a):=by
 show (dD F c [oF s,Y (.tup [kS "text",.str t]),M]).bind (sk av)=_;unfold dD;let d:∀g,gk Ü g eI [oF s,Y (.tup [kS "text",.str t]),M]=Y (.nx [oF s,Y (.tup [kS "text",.str t]),M]):=λg=>by solve_by_elim
 rw[aB (d _)];let m:bR "Facts" "enter_text" av dF 0 np [oF s,Y (.tup [kS "text",.str t]),M]=Y (.int i,[oF a,Y (.tup [kS "text",.str t]),M]):=by rw[lE (ρ1:=[oF s,Y (.tup [kS "text",.str t]),M]) (args:=[.str t]) (by decide) rfl rfl rfl h];rfl
 let q:gk Ø (fE (xR (ju (bR "Facts" "enter_text" av dF 0 np) å))) eI [oF s,Y (.tup [kS "text",.str t]),M]=Y (.rm (vI i []) [oF a,Y (.tup [kS "text",.str t]),M]):=by rw[Qs (b:=Z') (kq' (by kernel_rfl)),if_pos rfl];unfold fE xR;rw[show ∀f g b,ju f g b=(f b).bind λp=>(g p.2).bind λq=>Y (p.1::q.1,q.2) from λe e e=>rfl,m];rfl
 rw[Ij q,Ca]
def Lh{F:List D->Option (D×D)}{s:FB}(h:a [dQ s,.lst x]=Y (.int i,dQ b)):mo 2 3 av (dD F a) [dQ s,.tup [kS "has",.lst x]]=Y (vI i [],dQ b):=by
 show (dD F a [oF s,Y (.tup [kS "has",.lst x]),M]).bind (sk av)=_;unfold dD;have e:∀g,gk Ü g eI [oF s,Y (.tup [kS "has",.lst x]),M]=Y _:=λg=>by solve_by_elim
 let d:∀g,gk Ø g eI [oF s,Y (.tup [kS "has",.lst x]),M]=Y _:=λg=>by solve_by_elim
 rw[aB (e _),aB (d _)];let m:bR "Facts" "enter_has" av a 0 np [oF s,Y (.tup [kS "has",.lst x]),M]=Y (.int i,[oF b,Y (.tup [kS "has",.lst x]),M]):=by rw[lE (args:=[.lst x]) (by decide) rfl rfl rfl h];rfl
 let q:gk (dB (e2 gQ (e2 bW (eV 1) u8) (eK (kS "has")))) (fE (xR (ju (bR "Facts" "enter_has" av a 0 np) å))) eI [oF s,Y (.tup [kS "has",.lst x]),M]=Y (.rm (vI i []) [oF b,Y (.tup [kS "has",.lst x]),M]):=by rw[Qs (b:=Z') (kq' (by kernel_rfl)),if_pos rfl];unfold fE xR;rw[show ∀f g c,ju f g c=(f c).bind _ from λj j j=>rfl,m];rfl
 rw[Ij q,Ca]
def E'{k:String}{r x}{s s':FB}{ks:As}{F a:List D->Option (D×D)}(h1:gQ (kS k) (kS "any")=Y (.bl Z_))(h2:gQ (kS k) (kS "text")=Y (.bl Z_))(h3:gQ (kS k) (kS "has")=Y (.bl Z_))(m:rH (iL (e2 bW (eV 1) na)) [M,Y 0] (gN 0) (bR "Facts" "asked" av F 1 wn) 1 0 av [oF s,Y (.tup [kS k,.lst x]),M]=Y (.lst (nQ ks),[oF s',Y (.tup [kS k,.lst x]),M]))
  (e:(aU (gk (dB (e2 gQ (e2 bW (eV 1) u8) Ç)) (fE (mP (iu (aC u8 (aC (eF (fQ wp)) aN))))) eI) (fE (mP (aW jw wp)))) [oF s',Y (.tup [kS k,.lst x]),Y (.lst (nQ ks))]=Y (.rm r [oF s',Y (.tup [kS k,.lst x]),Y (.lst (nQ ks))])):mo 2 3 av (dD F a) [dQ s,.tup [kS k,.lst x]]=Y (r,dQ s'):=by
 show (dD F a [oF s,Y _,M]).bind _=_;unfold dD;have d:∀(n:String) g,gQ _ (kS n)=Y (.bl Z_)->gk _ g _ [oF s,Y (.tup [kS k,.lst x]),M]=Y _:=λn g h=>by rw[Qs (kq' h)];rfl
 rw[aB (d _ _ h1),aB (d _ _ h2),aB (d _ _ h3)];let q:lC 2 (rH (iL (e2 bW (eV 1) na)) [M,Y 0] (gN 0) (bR "Facts" "asked" av F 1 wn) 1 0 av) [oF s,Y (.tup [kS k,.lst x]),M]=Y (.nx [oF s',Y (.tup [kS k,.lst x]),Y (.lst (nQ ks))]):=by simp_all [lC]
 rw[aB q,e,Ca]
def Lg{x}{s s':FB}{ks:As}{F a:List D->Option (D×D)}(m:rH (iL (e2 bW (eV 1) na)) [M,Y 0] (gN 0) (bR "Facts" "asked" av F 1 wn) 1 0 av [oF s,Y (.tup [kS "one",.lst x]),M]=Y (.lst (nQ ks),[oF s',Y (.tup [kS "one",.lst x]),M])):mo 2 3 av (dD F a) [dQ s,.tup [kS "one",.lst x]]=Y (BM (.mk 0 (.cons ks .nil)),dQ s'):=by
 refine E' ź ź ź m ?_
 exact Ÿ
def HK{x}{s s':FB}{ks:As}{F a:List D->Option (D×D)}(c:La (iP ks)<2000)(m:rH (iL (e2 bW (eV 1) na)) [M,Y 0] (gN 0) (bR "Facts" "asked" av F 1 wn) 1 0 av [oF s,Y (.tup [kS "both",.lst x]),M]=Y (.lst (nQ ks),[oF s',Y (.tup [kS "both",.lst x]),M])):mo 2 3 av (dD F a) [dQ s,.tup [kS "both",.lst x]]=Y (BM (iP ks),dQ s'):=by
 refine E' ź ź ź m ?_;rw[aB (by solve_by_elim)];let e:aW jw wp [oF s',Y (.tup [kS "both",.lst x]),Y _]=Y _:=Ni (nK c)
 simp_all [fE,mP]
def Ck{F:List D->Option (D×D)}{g:LH}{f:DL}{ρ:cE}{ds r:List D}{s c:FB}(k:f ρ=Y ds)(i:eV 0 ρ=oF s)(j:fU 0 ρ=ρ)(t:ds.length<=1000)(e:vp [M,oF s] (gN 0) (bR "Facts" "asked" av F 1 g) 1 av ds (dQ s)=Y (r,dQ c)):rH f [M,Y 0] (gN 0) (bR "Facts" "asked" av F 1 g) 1 0 av ρ=Y (.lst r,ρ.set 0 (oF c)):=by
 unfold rH;let q:oi av 0 ρ=Y (dQ s):=by unfold oi ya;rw[i];exact ź
 let p:nG [M,Y 0] ρ=[M,oF s]:=by
  have:ρ[0]?.getD M=oF s:=by rw[jh i];rfl
  show [M,ρ[0]?.getD _]=_;rw[this]
 rw[k];simp only[ai];rw[if_pos (cW (nK (by omega)))]
 simp_all
def IW{F:List D->Option (D×D)}{g:LH}{x:Option D}{d a:D}{ds r:List D}{s b c:FB}{v:D}(m:∀s,g [Y d,oF s]=Y ([v],[Y d,oF s]))(h:F [dQ s,v]=Y (a,dQ b))(k:vp [M,x] (gN 0) (bR "Facts" "asked" av F 1 g) 1 av ds (dQ b)=Y (r,dQ c)):vp [M,x] (gN 0) (bR "Facts" "asked" av F 1 g) 1 av (d::ds) (dQ s)=Y (a::r,dQ c):=by
 rw[vp];let w:gN 0 d ([M,x].set 1 _)=Y [Y d,oF s]:=rfl;let v:bR _ "asked" _ F 1 g _=Y _:=lE ſ rfl (m s) rfl h;let u:oi av 1 ((fU 1 [Y d,oF s]).set 1 (oF b))=Y (dQ b):=by solve_by_elim
 simp_all
def UJ{F G:List D->Option (D×D)}{a:Ss}{ks:As}{s s1 s2:FB}(hn:a ≠ .nil)(hl:i6 ks=dE a)(e1:gm [dQ s,.lst (hV a)]=Y (.lst ((gP s.bits (dE a)).map D.int),dQ s1))(e2':vp [M,oF s1] (gN 0) (bR "Facts" "asked" av F 1 UF) 1 av (hV a) (dQ s1)=Y (nQ ks,dQ s2))(hs:dE a<=1000)(hle:s2.dG.length+i6 ks<2000):
  mo 2 3 av (iI F G) [dQ s,.lst (hV a)]=Y (.int (2 ^ s.bits),dQ { s2 with dG:=s2.dG++(kY ks s.bits 0).map ldK }):=by
 let kn:ks ≠ .nil:=by
  intro z;subst z;cases a with
  |nil=>exact hn rfl|cons _ _ _ r=>simp[i6,dE]at hl
 let e3:=Qi (s:=s2) (ks:=ks) (j:=s.bits) (e:=0) kn hle;rw[hl]at e3;show (iI F G [oF s,Y (.lst (hV a)),M]).bind (sk av)=_;unfold iI;have q0:lC 2 (bR "Facts" "enter" av gm 0 (ju (mP (eV 1)) kj)) [oF s,Y (.lst (hV a)),M]=Y (.nx [oF s1,Y (.lst (hV a)),Y (.lst ((gP s.bits (dE a)).map D.int))]):=by
  unfold lC;rw[lE (ρ1:=[oF s,Y (.lst (hV a)),M]) (args:=[.lst (hV a)]) (by decide) rfl rfl rfl e1]
  exact Ÿ
 rw[aB q0];have hm:=Ck (f:=iL (eV 1)) (ρ:=[oF s1,Y (.lst (hV a)),Y (.lst ((gP s.bits (dE a)).map D.int))]) rfl rfl rfl (by simp_all [ui]) e2';have Xx:ju (rH (iL (eV 1)) [M,Y 0] (gN 0) (bR "Facts" "asked" av F 1 (ju (mP (L2.e2 bW (eV 0) nb)) kj)) 1 0 av) (ju (mP (eV 2)) Ã) [oF s1,Y (.lst (hV a)),Y (.lst ((gP s.bits (dE a)).map D.int))]=Y ([.lst (nQ ks),.lst ((gP s.bits (dE a)).map D.int),.int 0],[oF s2,Y (.lst (hV a)),Y (.lst ((gP s.bits (dE a)).map D.int))]):=by rw[show ∀f g ρ,ju f g ρ=(f ρ).bind λp=>(g p.2).bind λq=>Y (p.1::q.1,q.2) from λb b b=>rfl,hm];rfl
 generalize hN:(kY ks s.bits 0).map ldK=N at *
 have q1:f9 (bR "Facts" "lead" av lO 0 (ju (rH (iL (eV 1)) [M,Y 0] (gN 0) (bR "Facts" "asked" av F 1 (ju (mP (L2.e2 bW (eV 0) nb)) kj)) 1 0 av) (ju (mP (eV 2)) Ã))) [oF s1,Y (.lst (hV a)),Y (.lst ((gP s.bits (dE a)).map D.int))]=Y (.nx [oF { s2 with dG:=s2.dG++N },Y (.lst (hV a)),Y (.lst ((gP s.bits (dE a)).map D.int))]):=by unfold f9;rw[lE (s:=s1) (s1:=s2) (by decide) rfl Xx rfl e3];rfl
 rw[aB q1];let q2:L2.e2 bW (eV 2) u8 [oF { s2 with dG:=s2.dG++N },Y (.lst (hV a)),Y (.lst ((gP s.bits (dE a)).map D.int))]=Y (.int (2 ^ s.bits)):=by
  show n9 ((gP s.bits (dE a)).map D.int) ((0:Nat):Int)=_;cases a with
  |nil=>simp_all|cons _ _ _ r=>exact gY (j:=0) rfl
 unfold fE mP;rw[q2];exact Ca
noncomputable def SM:Ss->Nat
 |.nil=>0|.cons _ _ w r=>oW w+SM r
theorem DJ:∀s,uc s=dE s+SM s
 |.nil=>rfl|.cons _ _ w r=>by rw[uc,dE,SM,DJ r];lia
def Yt(m:Nat)(w:Wi):Prop:=∀s tb L,GI s tb L->tb.length+oW w<=900->∃k s' mM L',cH m [dQ s,qv w]=Y (BM k,dQ s')/\Go (oW w) s tb L s' mM L'/\pO mM L' w k/\La k<=oW w
def Vu(m:Nat)(w:Ws):Prop:=∀s tb L x,GI s tb L->tb.length+xJ w<=900->∃ks s' mM L',vp [M,x] (gN 0) (bR "Facts" "asked" av (cH m) 1 wn) 1 av (uZ w) (dQ s)=Y (nQ ks,dQ s')/\Go (xJ w) s tb L s' mM L'/\nF mM L' w ks/\QZ ks<=xJ w
def JO(m:Nat)(a:Ss):Prop:=∀s tb L x,GI s tb L->tb.length+SM a<=900->∃ks s' mM L',vp [M,x] (gN 0) (bR "Facts" "asked" av (cH m) 1 UF) 1 av (hV a) (dQ s)=Y (nQ ks,dQ s')/\Go (SM a) s tb L s' mM L'/\BP mM L' a ks
def Yo(m:Nat)(a:Ss):Prop:=∀s tb L,GI s tb L->tb.length+uc a<=900->∃s' mM L',cP m [dQ s,.lst (hV a)]=Y (.int (2 ^ tb.length),dQ s')/\Go (uc a) s tb L s' mM L'/\mC mM L' 0 a tb.length/\tb.length<mM.length
theorem uY:∀w:Ws,(uZ w).length<=xJ w
 |.nil=>by simp[uZ]
 | .cons w r=>by
  have:=uY r;have:1<=oW w:=by cases w<;>simp[oW]<;>lia
  grind [uZ,xJ,bZ]
def Nu{m:Nat}{a:Ss}(hm:uE a<=12)(n:HS a)(hn:a ≠ .nil)(h:JO m a):Yo (m+1) a:=by
 intro s tb L I b;rw[DJ]at b;let ib:=I.bits;let(s1,e1,G1,q1):=EO I a n Ž;let g1:=NJ (a:=a) G1 q1;let(ks,s2,VF,V7,e2,g2,ha):=h s1 _ L (oF s1) G1 (by rw[aS,qy];omega);let hl:=BP.len a ks ha;let l2:=g2.len;rw[aS,qy]at l2;let hL:∀l∈L,l.1<tb.length:=λl hl=>by let(b,n,h):=I.lst l hl;exact Hl h
 let(G3,ht):=Qy (e:=0) g2 hL hl;let VX:=g2.gi.VX;let fb:=g2.gi.bits;have hv:=UJ (G:=cP m) hn hl e1 e2 ž (by rw[g2.gi.dG,az];omega);rw[ib]at hv;let aek:1<=dE a:=by
  cases a with|nil=>exact absurd rfl hn|cons _ _ _ r=>simp[dE]
 refine⟨_,VF,V7++kY ks tb.length 0,hv,?_,A3 a ks tb.length hn (BP.up (tb:=VF) (L:=V7) ⟨id,λx h=>by simp[h]⟩ a ks ha) ht (λl h=>by simp[h]),ž⟩;have g:=(g1.trans g2).le (sz':=uc a) (by grind [DJ]);let(c,hc):=g.ld;refine⟨G3,g.q,g.add,⟨c++kY ks tb.length 0,by rw[hc,bY]⟩,λl hl =>?_,λz l hl =>?_⟩
 rotate_left
 .let⟨x,y⟩:=BP.ln a ks ha (by grind [DJ]);exact(aO.mp hl).elim (g.lk z l) (IJ ks _ 0 ž y l)
 rcases aO.mp hl with hl|hl
 .exact g.lo l hl
 .exact .inr (En ks _ 0 l hl).1
mutual
theorem Fb{T:aJ->Prop}:∀(w:Wi) (m:Nat),pI w<=m->m<=13->Yj w->Zi T w->Yt m w
 |.any,0,h,_,_,_=>by simp[pI]at h
 |.any,m+1,h,_,_,_=>λs tb L I b=>⟨.mk 0 .nil,s,tb,L,Li,(Go.refl I).le ż,rfl,Ÿ⟩
 |.txt t,0,h,_,_,_=>by simp[pI]at h
 | .txt t,m+1,h,hm,_,o=>λs tb L I b=>by
  let ib:=I.bits;simp only[oW]at b;let(j,f,tx,e,G,hx,hj,q):=Pk I ž t;refine⟨.mk (2 ^ j) .nil,f,tb++tx,L,?_,⟨G,q,⟨tx,rfl,?_⟩,⟨[],ż⟩,λ_ =>.inl,id⟩,⟨j,rfl,hj⟩,Ÿ⟩
  .have:=HJ (F:=cH m) (c:=cP m) e;rw[yg]at this;exact this
  .rcases hx with rfl|rfl
   .simp
   .simp[oW]
 |.has a,0,h,_,_,_=>by simp[pI]at h
 | .has a,m+1,h,hm,n,o=>λs tb L I b=>by
  let hd:uE a<=m:=by grind [pI]
  let hp:=CS a;obtain⟨m,rfl⟩:∃k,m=k+1:=⟨m-1,ž⟩;simp only[oW]at b;let(s',mM,L',e,g,hs,lt):=Nu ž n o.1 (yC a m hd ž n o.2) s tb L I ž;refine⟨.mk (2 ^ tb.length) .nil,s',mM,L',?_,g.le (by simp[oW]),⟨_,rfl,hs⟩,by simp[La,LD,x3]⟩;have:=Lh (F:=cH (m+1)) e
  exact Ÿ
 |.one w,0,h,_,_,_=>by simp[pI]at h
 |.one w,m+1,h,hm,n,o=>λs tb L I b=>by simp only[oW]at b;let(ks,s',mM,L',e,g,ha,c):=C7 w m (by simp only[pI]at h;omega) ž n o s tb L (oF s) I ž;let wl:=uY w;refine⟨.mk 0 (.cons ks .nil),s',mM,L',Lg (Ck (f:=iL (e2 bW (eV 1) na)) (ρ:=[oF s,Y (.tup [kS "one",.lst (uZ w)]),M]) (ds:=uZ w) Ÿ rfl rfl ž e),g.le (by simp[oW]),⟨ks,ha,rfl⟩,by simp[La,LD,x3,oW]⟩
 |.both w,0,h,_,_,_=>by simp[pI]at h
 |.both w,m+1,h,hm,n,o=>λs tb L I b=>by simp only[oW]at b;let(ks,s',mM,L',e,g,ha,c):=C7 w m (by simp only[pI]at h;omega) ž n o s tb L (oF s) I ž;let wl:=uY w;refine⟨iP ks,s',mM,L',HK (by grind [yt]) (Ck (f:=iL (e2 bW (eV 1) na)) (ρ:=[oF s,Y (.tup [kS "both",.lst (uZ w)]),M]) (ds:=uZ w) Ÿ rfl rfl ž e),g.le (by simp[oW]),⟨ks,ha,rfl⟩,by grind [yt,oW]⟩
theorem C7{T:aJ->Prop}:∀(w:Ws) (m:Nat),Fv w<=m->m<=13->V6 w->Yi T w->Vu m w
 |.nil,m,_,_,_,_=>λs tb L x I b=>⟨.nil,s,tb,L,rfl,(Go.refl I).le ż,rfl,by simp[QZ]⟩
 | .cons w r,m,h,hm,n,o=>λs tb L x I b=>by
  simp only[Fv]at h;simp only[xJ]at b;refine af λkk =>?_
  let(k,s1,Zr,L1,e1,g1,a1,c1):=Fb w m ž hm n.1 o.1 s tb L I ž;let n1:=g1.len;let(ks,s2,VF,V7,e2,g2,a2,c2):=C7 r m ž hm n.2 o.2 s1 Zr L1 x g1.gi ž;refine kk (⟨.cons k ks,s2,VF,V7,IW (λs=>rfl) e1 e2,g1.trans g2,⟨k,ks,pO.up g2.up w k a1,a2,rfl⟩,by grind [QZ,xJ]⟩)
theorem yC{T:aJ->Prop}:∀(a:Ss) (m:Nat),uE a<=m+1->m<=13->HS a->V5 T a->JO m a
 |.nil,m,_,_,_,_=>λs tb L x I b=>⟨.nil,s,tb,L,rfl,(Go.refl I).le ż,rfl⟩
 | .cons bb nm w r,m,h,hm,n,o=>λs tb L x I b=>by
  simp only[uE]at h;simp only[SM]at b;refine af λkk =>?_
  let(k,s1,Zr,L1,e1,g1,a1,c1):=Fb w m ž hm n.2.1 o.1 s tb L I ž;let n1:=g1.len;let(ks,s2,VF,V7,e2,g2,a2):=yC r m ž hm n.2.2 o.2 s1 Zr L1 x g1.gi ž;refine kk (⟨.cons k ks,s2,VF,V7,IW (v:=qv w) (λs =>?_) e1 e2,g1.trans g2,⟨k,ks,pO.up g2.up w k a1,a2,rfl⟩⟩);exact ź
end
def tp{c:cE}{τ:AR}{e:DF}{d x:D}{ρ:cE}{ds r:List D}(h:τ d c=Y ρ)(g:e ρ=Y x)(k:rA c τ gU e ds=Y r):rA c τ gU e (d::ds)=Y (x::r):=by
 simp_all [rA,ai,gU,if_true]
noncomputable def zm:D->Nat
 |.int i=>i.toNat|_=>0
def O7(s:FB)(L:List (Nat×Ak)):Fa where
 inner:=s.inner.toNat
 star:=s.fx.toNat
 named:=λn=>s.fx.toNat ||| zm ((cO s.nk s.nv (b_ n)).getD (.int 0))
 text:=λt=>zm ((cO s.tk s.tv (b_ t)).getD (.int 0))
 mark:=0
 dG:=L
 fresh:=ae ""
 long:=0
abbrev fk9:List aJ:=["question","bits","by_name","by_text","starred","stars","inner","leads","asks"]
def dsF(s:FB)(asks:List D):List D:=[.lst s.q,.int (s.bits:Nat),.iW s.nk s.nv,.iW s.tk s.tv,.int s.fx,.int s.oj,.int s.inner,.lst s.dG,.lst asks]
section
variable {s:FB}{tb:List l7}{L:List (Nat×Ak)}
def sG(I:GI s tb L):s.inner=(s.inner.toNat:Int)/\∀i,s.inner.toNat.testBit i=Z'↔∃nm,tb[i]?=Y (l7.st Z' nm):=by
 let(m,e,h):=I.inner
 simp_all
def CI(I:GI s tb L):s.fx=(s.fx.toNat:Int)/\∀i,s.fx.toNat.testBit i=Z'↔∃b,tb[i]?=Y (l7.st b M):=by
 let(m,e,h):=I.star
 simp_all
def CJ(I:GI s tb L)(n:aJ):(cO s.nk s.nv (b_ n)).getD (.int 0)=.int (zm ((cO s.nk s.nv (b_ n)).getD (.int 0)):Nat)/\∀i,(zm ((cO s.nk s.nv (b_ n)).getD (.int 0))).testBit i=Z'↔∃b,tb[i]?=Y (l7.st b (Y n)):=by
 let(m,e,h):=I.name n;rw[e]
 exact Ÿ
def CH(I:GI s tb L)(t:aJ):(cO s.tk s.tv (b_ t)).getD (.int 0)=.int (zm ((cO s.tk s.tv (b_ t)).getD (.int 0)):Nat)/\∀i,(zm ((cO s.tk s.tv (b_ t)).getD (.int 0))).testBit i=Z'↔tb[i]?=Y (l7.tx t):=by
 rcases I.text t with⟨a,c⟩|⟨j,a,c⟩
 .rw[a];refine⟨rfl,λi =>?_⟩;constructor
  .intro h;simp[zm]at h
  .exact λh=>absurd h (c i)
 .let e:zm ((Y (D.int (2 ^ j))).getD (.int 0))=2 ^ j:=by solve_by_elim
  grind
def HH{b:Bool}{P:Prop}(h:b=Z'↔P)(n:¬P):b=false:=by
 simp_all
def Pj(I:GI s tb L){t:aJ}{j:Nat}(h:tb[j]?=Y (.tx t)):Dc (O7 s L) t j:=by
 refine⟨HH ((sG I).2 j) ?_,λl hl e =>?_,?_,λs' =>?_⟩
 .simp_all
 .let⟨b,n,z⟩:=I.lst l hl
  simp_all
 .exact Fn j
 .show (zm _).testBit j=Z'↔_;rw[(CH I s').2 j,h];constructor
  .intro z;cases z;rfl
  .intro z;rw[z]
def Pq(I:GI s tb L){b:Bool}{nm:Option aJ}{j:Nat}{k:Ak}(h:tb[j]?=Y (.st b nm))(hl:(j,k)∈L):OO (O7 s L) b nm j k:=by
 refine⟨?_,λn =>?_,hl,λl hl' e =>?_,?_,λs' =>?_⟩
 .have:=(sG I).2 j;cases b with
  |true=>exact this.mpr ⟨nm,h⟩|false=>exact HH this Ż
 .show (s.fx.toNat ||| zm _).testBit j=Z'↔_;rw[jK,bU,(CI I).2 j,(CJ I n).2 j,h];cases nm with
  |none=>simp[kh]|some m=>simp[kh]
 .let nd:=I.Xd;have:∀ {L:List (Nat×Ak)},(L.map (·.1)).Nodup->∀x∈L,∀y∈L,x.1=y.1->x=y:=by
   intro L
   induction L with|nil=>simp_all|cons p L ih=>grind
  exact Ÿ
 .exact Fn j
 .exact HH ((CH I s').2 j) Ż
mutual
theorem pO.r(I:GI s tb L):∀(w:Wi) (k:Ak),pO tb L w k->Rf (O7 s L) w k
 |.any,k,h=>h|.txt t,k,⟨j,e,h⟩=>⟨j,e,Pj I h⟩|.has s,k,⟨j,e,h⟩=>⟨j,e,mC.r I s j h⟩|.both w,k,⟨ks,h,e⟩=>⟨ks,nF.r I w ks h,e⟩|.one w,k,⟨ks,h,e⟩=>⟨ks,nF.r I w ks h,e⟩
theorem nF.r(I:GI s tb L):∀(w:Ws) (k:As),nF tb L w k->BO (O7 s L) w k
 |.nil,k,h=>h|.cons w r,k,⟨x,y,a,b,e⟩=>⟨x,y,pO.r I w x a,nF.r I r y b,e⟩
theorem mC.r{e:Nat}(I:GI s tb L):∀(a:Ss) (j:Nat),mC tb L e a j->Dd (O7 s L) e a j
 |.nil,j,h=>h|.cons b nm w r,j,⟨n,c,f,a,t,l,h⟩=>⟨n,c,f,pO.r I w _ a,Pq I t l,h.imp id λ⟨x,y⟩=>⟨mC.r I r _ x,y⟩⟩
end
end
theorem Ih:∀s:Ss,(hV s).length<=uc s
 |.nil=>by simp[hV]
 | .cons b nm w r=>by
  have:=Ih r
  grind [hV,uc,bZ]
def Wg{f g:DF}{ρ:cE}{x y:D}(h:f ρ=Y x)(k:g ρ=Y y):iu (aC f (aC g aN)) ρ=Y (.tup [x,y]):=by unfold iu aC;rw[h,k];rfl
def Zo{f g e:DF}{ρ:cE}{x y z:D}(h:f ρ=Y x)(k:g ρ=Y y)(l:e ρ=Y z):iu (aC f (aC g (aC e aN))) ρ=Y (.tup [x,y,z]):=by unfold iu aC;rw[h,k,l];rfl
def Md{t:DT}{f:DF}{ρ:cE}{d:D}{h:DG}(e:t ρ=Y Z')(k:f ρ=Y d):aU (gk t (iy f) eI) h ρ=Y (.rt d):=by
 unfold aU;rw[Ja e];unfold iy;rw[k];rfl
def Vd{A B:List D->Option D}{x y:List D}(h:A [.lst x]=Y (.lst y)):mq 1 1 (fh A B) [.tup [kS "has",.lst x]]=Y (.tup [kS "has",.lst y]):=by
 show (fh A B _).bind _=_;unfold fh;have:=(show _=A _ by rfl).trans h;rw[Md (by kernel_rfl) (Wg rfl this)];rfl
def Jz{A B:List D->Option D}{w:D}(h1:dB IR [Y w]=Y Z_)(h2:dB (e2 à (e2 bW (eV 0) u8) (iu im)) [Y w]=Y Z_):mq 1 1 (fh A B) [w]=Y w:=by
 show (fh A B [Y w]).bind _=_;unfold fh;rw[aB (by rw[Bq h1];rfl),aB (by rw[Bq h2];rfl)];rfl
def Jy{A B:List D->Option D}{k:String}{x y:List D}(hl:x.length<=1000)(h1:dB IR [Y (.tup [kS k,.lst x])]=Y Z_)(h2:dB (e2 à (e2 bW (eV 0) u8) (iu im)) [Y (.tup [kS k,.lst x])]=Y Z')(h:rA [M] (gN 0) gU (aW B Tl) x=Y y):mq 1 1 (fh A B) [.tup [kS k,.lst x]]=Y (.tup [kS k,.lst y]):=by
 show (fh A B [Y _]).bind _=_;unfold fh;rw[aB (by rw[Bq h1];rfl)];have:eF (mx (iL (e2 bW (eV 0) na)) [M] (gN 0) gU (aW B Tl)) [Y (.tup [kS k,.lst x])]=Y (.lst y):=by show (if x.length<=eJ then rA [M] _ _ _ x else M).map _=_;rw[if_pos (cW (nK (by omega))),h];rfl
 rw[Md h2 (Wg rfl this)];rfl
mutual
theorem sP:∀(w:Wi) (m:Nat),pI w<=m->oW w<=900->cG m [qv w]=Y (qv w)
 |.any,0,h,_=>by simp[pI]at h
 |.any,m+1,h,_=>Jz ź ź
 |.txt t,0,h,_=>by simp[pI]at h
 |.txt t,m+1,h,_=>Jz ź ź
 |.has s,0,h,_=>by simp[pI]at h
 |.has s,m+1,h,b=>by simp only[pI]at h;simp only[oW]at b;exact Vd (BD s m Ž Ž)
 |.both w,0,h,_=>by simp[pI]at h
 |.both w,m+1,h,b=>by simp only[pI]at h;simp only[oW]at b;exact Jy (by have:=uY w;omega) ź ź (qP w m ž ž)
 |.one w,0,h,_=>by simp[pI]at h
 |.one w,m+1,h,b=>by simp only[pI]at h;simp only[oW]at b;exact Jy (by have:=uY w;omega) ź ź (qP w m ž ž)
theorem qP:∀(w:Ws) (m:Nat),Fv w<=m->xJ w<=900->rA [M] (gN 0) gU (aW (cG m) Tl) (uZ w)=Y (uZ w)
 |.nil,m,_,_=>rfl|.cons w r,m,h,b=>by simp only[Fv]at h;simp only[xJ]at b;rw[uZ];exact tp (ρ:=[Y (qv w)]) rfl (sP w m ž ž) (qP r m ž ž)
theorem vC:∀(s:Ss) (m:Nat),uE s<=m+1->uc s<=900->rA [M] (gN 0) gU (iu (aC (e2 bW (eV 0) u8) (aC (e2 bW (eV 0) na) (aC (aW (cG m) Rs) aN)))) (hV s)=Y (hV s)
 |.nil,m,_,_=>rfl|.cons b nm w r,m,h,z=>by simp only[uE]at h;simp only[uc]at z;have i:=sP w m ž ž;rw[hV];refine tp (ρ:=[Y (AB (gS b) (h_ nm) (qv w))]) rfl ?_ (vC r m ž ž);have:aW (cG m) Rs [Y (AB (gS b) (h_ nm) (qv w))]=Y (qv w):=(show _=cG m [qv w] by rfl).trans i;exact Zo rfl rfl this
theorem BD:∀(s:Ss) (m:Nat),uE s<=m->uc s<=900->iY m [.lst (hV s)]=Y (.lst (hV s))
 |s,0,h,_=>by grind [CS]
 | s,m+1,h,z=>by
  have i:=vC s m h z;show (vw (iY m) (cG m) [Y (.lst (hV s))]).bind sW=_;unfold vw;have:mx (iL (eV 0)) [M] (gN 0) gU (iu (aC (e2 bW (eV 0) u8) (aC (e2 bW (eV 0) na) (aC (aW (cG m) Rs) aN)))) [Y (.lst (hV s))]=Y (hV s):=by unfold mx;show (if (hV s).length<=eJ then rA [M] (gN 0) gU _ (hV s) else M)=_;rw[if_pos (cW (nK (by grind [Ih]))),i]
  unfold mN;rw[this];rfl
end
abbrev pF(a:List aJ)(b:List D):Option D:=Y (.obj av (.ins "Facts" a b))
def WU{F:List D->Option D}(h:F [q]=Y d):fV Z_ 0 "Facts" "question" (aW F pc) [pF [] [],Y q]=Y (.nx [pF ["question"] [d],Y q]):=by
 let e:aW F pc [pF [] [],Y q]=Y d:=rfl.trans h;unfold fV;rw[e]
 exact Ÿ
noncomputable def VR(q:List D):FB:=⟨q,0,[],[],[],[],0,0,0,[]⟩
def WL(q:List D):GI (VR q) [] []:=by
 refine⟨rfl,⟨0,rfl,ż⟩,⟨0,rfl,ż⟩,λn=>⟨0,rfl,ż⟩,rfl,aI _,λt =>.inl ⟨rfl,ż⟩,rfl,aI _,rfl,ż,ż,aI _⟩
def Qq{T:aJ->Prop}(a:Ss)(n:HS a)(o:V5 T a)(hd:uE a<=12)(z:uc a<=900):
  ∃ks s1 s tb L,hR [.ins "Facts" [] [],.lst (hV a)]=Y (.gA,.ins "Facts" fk9 (dsF s (nQ ks)))/\s.q=hV a/\Go (SM a) s1 (rX a) [] s tb L/\BP tb L a ks:=by
 let hc:Ah [.lst (hV a)]=Y (.lst (hV a)):=BD a 12 hd z;let zz:=DJ a;let(s1,e1,G1,q1):=EO (WL (hV a)) a n (by show 0+dE a<=1000;lia);rw[dS]at G1;let(ks,s,tb,L,e2,g2,ha):=yC a 12 Ž (by trivial) n o s1 _ [] (oF s1) G1 (by rw[qy];lia);let UC:s1.q=hV a:=q1;refine⟨ks,s1,s,tb,L,?_,g2.q.trans UC,g2,ha⟩;let Xv:iL Is [oF s1,Y (.lst (hV a))]=Y (hV a):=by
  have:iL Is [oF s1,Y (.lst (hV a))]=Y s1.q:=by kernel_rfl
  rw[this,UC]
 let e3:=Ck (f:=iL Is) (ρ:=[oF s1,Y (.lst (hV a))]) Xv rfl rfl (by rw[ui];omega) e2;generalize (nQ ks)=A at *
 show (jZ [pF [] [],Y (.lst (hV a))]).bind (sk av)=_;unfold jZ;rw[aB (WU hc)];generalize hV a=q at *
 let q2:fV Z_ 0 "Facts" "bits" u8 [pF ["question"] [.lst q],Y (.lst q)]=Y (.nx [pF ["question","bits"] [.lst q,.int 0],Y (.lst q)]):=by kernel_rfl
 let q3:m3 0 "Facts" "by_name" .di Ë [pF ["question","bits"] [.lst q,.int 0],Y (.lst q)]=Y (.nx [pF ["question","bits","by_name"] [.lst q,.int 0,.iW [] []],Y (.lst q)]):=by kernel_rfl
 let q4:m3 0 "Facts" "by_text" .di Ë [pF ["question","bits","by_name"] [.lst q,.int 0,.iW [] []],Y (.lst q)]=Y (.nx [pF ["question","bits","by_name","by_text"] [.lst q,.int 0,.iW [] [],.iW [] []],Y (.lst q)]):=by kernel_rfl
 let q5:fV Z_ 0 "Facts" "starred" u8 [pF ["question","bits","by_name","by_text"] [.lst q,.int 0,.iW [] [],.iW [] []],Y (.lst q)]=Y (.nx [pF ["question","bits","by_name","by_text","starred"] [.lst q,.int 0,.iW [] [],.iW [] [],.int 0],Y (.lst q)]):=by kernel_rfl
 let q6:fV Z_ 0 "Facts" "stars" u8 [pF ["question","bits","by_name","by_text","starred"] [.lst q,.int 0,.iW [] [],.iW [] [],.int 0],Y (.lst q)]=Y (.nx [pF ["question","bits","by_name","by_text","starred","stars"] [.lst q,.int 0,.iW [] [],.iW [] [],.int 0,.int 0],Y (.lst q)]):=by kernel_rfl
 let q7:fV Z_ 0 "Facts" "inner" u8 [pF ["question","bits","by_name","by_text","starred","stars"] [.lst q,.int 0,.iW [] [],.iW [] [],.int 0,.int 0],Y (.lst q)]=Y (.nx [pF ["question","bits","by_name","by_text","starred","stars","inner"] [.lst q,.int 0,.iW [] [],.iW [] [],.int 0,.int 0,.int 0],Y (.lst q)]):=by kernel_rfl
 let q8:m3 0 "Facts" "leads" (.li .lf) (eK (.lst [])) [pF ["question","bits","by_name","by_text","starred","stars","inner"] [.lst q,.int 0,.iW [] [],.iW [] [],.int 0,.int 0,.int 0],Y (.lst q)]=Y (.nx [oF (VR q),Y (.lst q)]):=by kernel_rfl
 rw[aB q2,aB q3,aB q4,aB q5,aB q6,aB q7,aB q8];let q9:f9 (bR "Facts" "enter" av gm 0 (ju (mP Is) kj)) [oF (VR q),Y (.lst q)]=Y (.nx [oF s1,Y (.lst q)]):=by unfold f9;rw[lE (s:=(VR q)) (s1:=(VR q)) (ρ1:=[oF (VR q),Y (.lst q)]) (args:=[.lst q]) (by decide) rfl (by kernel_rfl) rfl e1];rfl
 rw[aB q9];unfold Gm;rw[show cH 12=pM from rfl]at e3;rw[e3];exact ź
end K21
namespace K21
open PySem L2
noncomputable def rT:dH:=⟨-1,0,0,0,1,1,1,1⟩
abbrev pC(a:List aJ)(b:List D):Option D:=Y (.obj aE (.ins "Coming" a b))
def Ub{F:List D->Option (D×D)}{f:w8}(h:F [.ins "Facts" [] [],q]=Y (.gA,jg f)):fV Z_ 0 "Coming" "facts" (oO "Facts" F pc) [pC [] [],Y q]=Y (.nx [pC ["facts"] [jg f],Y q]):=by
 let e:oO "Facts" F pc [pC [] [],Y q]=Y (jg f):=by show (F _).bind _=_;rw[h];rfl
 unfold fV;rw[e]
 exact Ÿ
def Uc{F:List D->Option D}{f:w8}(h:F [.lst f.q]=Y (.int a)):fV Z_ 0 "Coming" "able" (lV [0] [] (aW F Sc)) [pC ["facts","full"] [jg f,.int b],Y q]=Y (.nx [pC ["facts","full","able"] [jg f,.int b,.int a],Y q]):=by
 let e:lV [0] [] (aW F Sc) [pC ["facts","full"] [jg f,.int b],Y q]=Y (.int a):=by
  have:lV [0] [] (aW F Sc) [pC ["facts","full"] [jg f,.int b],Y q]=(F [.lst f.q]).bind λd=>if qI d=Z' then Y d else none:=by kernel_rfl
  rw[this,h];rfl
 unfold fV;rw[e]
 exact Ÿ
def K'{f:w8}(d:f.q.length<=1000)(g:hR [.ins "Facts" [] [],.lst q]=Y (.gA,jg f))(h:j3 [.lst f.q]=Y (.int a)):
  fP [.ins "Coming" [] [],.lst q]=Y (.gA,cI ⟨f,2 ^ f.q.length,a,0,0,[rT],[]⟩):=by
 show (jC [pC [] [],Y (.lst q)]).bind (sk aE)=_;unfold jC;rw[aB (Ub g)];let q1:fV Z_ 0 "Coming" "full" (lV [0] [] æ) [pC ["facts"] [jg f],Y (.lst q)]=Y (.nx [pC ["facts","full"] [jg f,.int (2 ^ f.q.length)],Y (.lst q)]):=by
  let e:lV [0] [] æ [pC ["facts"] [jg f],Y (.lst q)]=Y (.int (2 ^ f.q.length)):=by refine q_ rfl ?_ rfl;exact(show _=p_ (.int 1) (.int (f.q.length:Nat)) from rfl).trans (SS d)
  unfold fV;rw[e]
  exact Ÿ
 rw[aB q1];generalize (2:Int) ^ f.q.length=b;rw[aB (Uc h)];let q2:fV Z_ 0 "Coming" "taken" u8 [pC ["facts","full","able"] [jg f,.int b,.int a],Y (.lst q)]=Y (.nx [pC ["facts","full","able","taken"] [jg f,.int b,.int a,.int 0],Y (.lst q)]):=by kernel_rfl
 let q3:fV Z_ 0 "Coming" "opened" u8 [pC ["facts","full","able","taken"] [jg f,.int b,.int a,.int 0],Y (.lst q)]=Y (.nx [pC ["facts","full","able","taken","opened"] [jg f,.int b,.int a,.int 0,.int 0],Y (.lst q)]):=by kernel_rfl
 let q4:m3 0 "Coming" "rows" (.li (.fs "Row" [])) (UY (N8 "Row" (λ_=>tu []))) [pC ["facts","full","able","taken","opened"] [jg f,.int b,.int a,.int 0,.int 0],Y (.lst q)]=Y (.nx [pC ["facts","full","able","taken","opened","rows"] [jg f,.int b,.int a,.int 0,.int 0,.lst [dM rT]],Y (.lst q)]):=by kernel_rfl
 let c:fV Z_ 0 "Coming" "rests" Uf [pC ["facts","full","able","taken","opened","rows"] [jg f,.int b,.int a,.int 0,.int 0,.lst [dM rT]],Y (.lst q)]=Y (.nx [oC ⟨f,b,a,0,0,[rT],[]⟩,Y (.lst q)]):=by kernel_rfl
 rw[aB q2,aB q3,aB q4,c];exact ź
def Pw(h:fP [.ins "Coming" [] [],.lst q]=Y (.gA,cI c)):kH [.ins "Sift" [] [],.lst q]=Y (.gA,pG c []):=by
 show (kB [Y _,Y _]).bind _=_;unfold kB;let q1:m3 0 "Sift" "coming" aE (oO "Coming" fP pc) [Y (.obj gC (.ins "Sift" [] [])),Y (.lst q)]=Y (.nx [Y (.obj gC (.ins "Sift" ["coming"] [cI c])),Y (.lst q)]):=by
  let e:oO "Coming" fP pc [Y (.obj gC (.ins "Sift" [] [])),Y (.lst q)]=Y (cI c):=by
   have:∀F,oO "Coming" F pc [Y (.obj gC (.ins "Sift" [] [])),Y (.lst q)]=(F _).bind _:=λF=>rfl
   rw[this,h];rfl
  unfold m3;rw[e]
  exact Ÿ
 rw[aB q1];exact ź
def Mu(n:Nat):(0:Int)<=2 ^ n:=Int.le_of_lt (Int.pow_pos ſ)
abbrev Sm(k:Nat)(x:Int):Prop:=0<=x/\x<2 ^ k
def C8{x:Int}(a:0<=y):0<=bA x y/\bA x y<=y:=by
 unfold bA uU
 grind [decide,Nat.and_le_right,j4,Nat.and_le_left,pV]
def Gf{x:Int}(h:Sm k y):Sm k (bA x y):=⟨(C8 h.1).1,Int.lt_of_le_of_lt (C8 h.1).2 h.2⟩
def RD(h:Sm k x):Sm (k+1) (bO x (2 ^ k)):=by
 let(a,rfl):=mS h.1;let e:((2 ^ k:Nat):Int)=2 ^ k:=by simp
 let b:=h.2;rw[<- e]at b ⊢;rw[uJ];have:a ||| 2 ^ k<2 ^ (k+1):=Nat.or_lt_two_pow ŷ ž
 grind
def L_(h:Sm k x):Sm (k+1) x:=⟨h.1,ŷ⟩
theorem NT{n:Nat}{named atoms:Int}:∀(c:List D) (k:Nat) (b:Int),Sm k b->Sm (k+c.length) (AN n named atoms k b c)
 |[],k,b,h=>h|a::c,k,b,h=>by rw[bZ,show k+(c.length+1)=k+1+c.length by omega];exact NT (n:=n) (named:=named) (atoms:=atoms) c _ (if bA named (2 ^ k) != 0&&oJ n a atoms then bO b _ else b) (by split;exact RD h;exact L_ h)
theorem RE:∀ {j k:Nat},Sm j x->j<=k->Sm k x
 | j,k,h,a=>by
  let(m,rfl):=Nat.exists_eq_add_of_le a
  induction m with
  |zero=>exact h|succ m ih=>exact L_ (ih ž)
def tz(x:Int)(i:Nat):Bool:=if 0<=x then x.toNat.testBit i else !(bN x).toNat.testBit i
def ma(a i:Nat):tz (a:Int) i=a.testBit i:=by solve_by_elim
theorem rS(x:Int)(i:Nat):tz (bN x) i = !tz x i:=by
 let n:0<=bN x↔¬0<=x:=PyProof.Rows.bitNot_nonneg;unfold tz;rw[show bN _=x from PyProof.Rows.bitNot_bitNot x];by_cases h:0<=x
 .rw[if_neg λz=>n.mp z h,if_pos h]
 .rw[if_pos (n.mpr h),if_neg h,Bool.not_not]
def Lj(x y:Nat)(i:Nat):(x-(x &&& y)).testBit i=(x.testBit i && !y.testBit i):=by
 let h:=JV (x ^^^ x &&& y) (x &&& y);let b:x ^^^ x &&& y ||| x &&& y=x:=pT λj=>by rw[jK,Nat.testBit_xor,qs];cases x.testBit j<;>cases y.testBit j<;>solve_by_elim
 let a:(x ^^^ x &&& y) &&& (x &&& y)=0:=pT λj=>by simp_all
 rw[show x-(x &&& y)=x ^^^ x &&& y by omega,Nat.testBit_xor,qs];cases x.testBit i<;>cases y.testBit i<;>rfl
def DC(b:0<=x)(y:Nat)(i:Nat):tz (x-((x.toNat &&& y:Nat):Int)) i=(x.toNat.testBit i && !y.testBit i):=by
 let(a,rfl):=mS b;rw[cC,show a-(a &&& y:Int)=(a-(a &&& y):Nat) by grind [Nat.and_le_left],ma,Lj]
theorem fI(x y:Int)(i:Nat):tz (bA x y) i=(tz x i&&tz y i):=by
 by_cases b:0<=x<;>by_cases a:0<=y
 .rw[show bA x y=_ from PyProof.Rows.bitAnd_pp b a,ma,qs,tz,if_pos b,tz,if_pos a]
 .rw[show bA x y=_ from PyProof.Rows.bitAnd_pn b a,DC b,tz,if_pos b,tz,if_neg a]
 .rw[show bA x y=_ from PyProof.Rows.bitAnd_np b a,DC a,tz,if_neg b,tz,if_pos a,Bool.and_comm]
 .rw[show bA x y=_ from PyProof.Rows.bitAnd_nn b a,rS,ma,jK,tz,if_neg b,tz,if_neg a,Bool.not_or]
def lq(x y:Int)(i:Nat):tz (bO x y) i=(tz x i||tz y i):=by
 show tz (bN _) i=_
 simp_all [rS,fI,Bool.not_and,Bool.not_not]
def LQ(x:Int)(i:Nat):tz (x*2) i=(decide (1<=i)&&tz x (i-1)):=by
 have b:∀a:Nat,(2*a).testBit i=(decide _&&a.testBit _):=λa=>by rw[show 2*a=a <<< 1 by rfl,Nat.testBit_shiftLeft]
 unfold tz;by_cases h:0<=x
 .rw[if_pos (by lia),if_pos h,show (x*2).toNat=2*x.toNat by lia,b]
 .rw[if_neg (by lia),if_neg h,show (bN _).toNat=2*(bN x).toNat+1 by unfold bN pV;omega];cases i with
  |zero=>simp|succ i=>rw[Nat.testBit_succ,show (2*(bN x).toNat+1)/2=(bN x).toNat by omega];simp
def rQ(k i:Nat):tz ((2:Int) ^ k) i=decide (k=i):=by
 let e:(2 ^ k:Nat)=(2:Int) ^ k:=by simp
 rw[<- e,ma,Ap]
def FZ(d:0<=x)(c:0<=y)(h:∀i,tz x i=tz y i):x=y:=by
 let(a,rfl):=mS d;let(b,rfl):=mS c;have:a=b:=pT λi=>by solve_by_elim
 rw[this]
theorem lj(i:Nat):tz 0 i=false:=by rw[show 0=((0:Nat):Int) from rfl,ma,Fn]
def pA(x:Int)(k:Nat):(bA x (2 ^ k) != 0)=tz x k:=by
 have b:∀i,tz (bA x (2 ^ k)) i=(tz x i&&decide (k=i)):=λi=>by rw[fI,rQ]
 cases e:tz x k with
 |true=>
  rw[bne_iff_ne]
  grind [lj]
 |false=>
  have:bA x (2 ^ k)=0:=FZ ((C8 (x:=x) (Mu k)).1) ſ λi=>by grind [lj]
  simp_all
abbrev Le(x y:Int):Prop:=∀i,tz x i=Z'->tz y i=Z'
def IV{x:Int}(h:Le x b)(g:Le y a):Le (bO x y) (bO b a):=λi e=>by
 rw[lq,bU]at e ⊢;exact e.imp (h i) (g i)
def GX(h:Le x b)(g:Le y a):Le (bA x y) (bA b a):=λi e=>by
 simp_all [fI,aA]
theorem wC(x y:Int):Le x (bO x y):=λi e=>by rw[lq,e];rfl
def yy(x:Int):Le 0 x:=λi e=>by simp_all [lj]
def R4{f:Int}(l:Le p c)(k:Le a g)(j:Le f d):Le (yl b p a f) (yl b c g d):=λi e=>by
 unfold yl at e ⊢;rw[LQ,aA]at e ⊢;exact⟨e.1,GX (IV l (GX k λ_ h=>h)) j _ e.2⟩
theorem GO:∀(n m:Nat) (b:D) (a f:Int),uL m b->Le a f->oJ n b a=Z'->oJ n b f=Z'
 |0,m,b,a,f,_,_,h=>nomatch h|n+1,0,b,a,f,h,_,_=>h.elim| n+1,m+1,b,a,f,s,l,h=>by
  let(d,u,rfl,o,_,r):=s;simp only[GP,aA,beq_iff_eq]at h ⊢;refine⟨FZ (C8 o).1 o λi =>?_,?_⟩
  .rw[fI];cases e:tz d i with
   |false=>rw[Lz]|true=>
    have:tz (bA a d) i=true:=by simp_all
    rw[fI]at this
    simp_all
  .rw[fX]at h ⊢;intro c j;let(t,rfl,_,q):=r c j;let p:=h.2 _ j;simp at p ⊢;let(x,g,k):=p;exact⟨x,g,GO n m x a f (q x g) l k⟩
theorem fit_le{m:Nat}{f:Int}(h:Le a j):∀(b:List D) (k:Nat) (x d:Int),(∀p∈b,uL m p)->Le x d->Le (AN n f a k x b) (AN n f j k d b)
 |[],k,x,d,_,g=>g| p::b,k,x,d,l,g=>by
  refine fit_le h b _ _ _ (λq o=>l q Ż) ?_;by_cases c:(bA f (2 ^ k) != 0&&oJ n p a)=Z'
  .have:(bA f (2 ^ k) != 0&&oJ n p j)=true:=by rw[aA]at c ⊢;exact⟨c.1,GO n m p a j (l p aH) h c.2⟩
   rw[if_pos c,if_pos this];exact IV g λ_ h=>h
  .rw[if_neg c];split
   .exact λi e=>wC _ _ i (g i e)
   .exact g
structure FW(f:w8)(fm:Int)(fit lift:Int->Int->Int)(gV txt:aJ->Int):Prop where
 ok:Rb f fit lift
 st:Zk f gV txt
 sm:∀n a,Sm 63 (fit n a)
 mono:∀n a a',Le a a'->Le (fit n a) (fit n a')
 fm:Sm 63 fm
end K21
namespace K21
open PySem L2 K30
def HV{j:Int}(h : -(2 ^ 64)<j/\j<2 ^ 64):mu (.int i) (.int j)=Y (.int (i*j)):=by simp_all [mu,if_pos]
def Vw(h : -(2 ^ 64)<i/\i<2 ^ 64):mu (.int i) (.int j)=Y (.int (i*j)):=by simp_all [mu,if_pos]
def l4{j:Int}(h:0<j):gB (.int i) (.int j)=Y (.int (i%j)):=by simp_all [gB,if_pos]
def sJ(h:0<j/\j<2 ^ 64):iU (.int i) (.int j)=Y (.int (i/j)):=by simp_all [iU,if_pos]
def abz:f_ (.int i) (.int j)=Y (.int (i+j)):=rfl
def ZG:m6 (.int i) (.int j)=Y (.int (i-j)):=rfl
def eqI:gQ (.int i) (.int j)=Y (.bl (i==j)):=rfl
def eqB:gQ (.bl i) (.bl j)=Y (.bl (i==j)):=rfl
def eqS:gQ (.str i) (.str j)=Y (.bl (i==j)):=rfl
def neI:xm (.int i) (.int j)=Y (.bl (!(i==j))):=rfl
def neS:xm (.str i) (.str j)=Y (.bl (!(i==j))):=rfl
def ltI:xG (.int i) (.int j)=Y (.bl (decide (i<j))):=rfl
def gtI:vk (.int i) (.int j)=Y (.bl (decide (j<i))):=rfl
def ixL:bW (.lst a) (.int i)=n9 a i:=rfl
def ixT:bW (.tup a) (.int i)=n9 a i:=rfl
def aaj{a:List D}:fY [.lst a]=Y (.int a.length):=rfl
def aah{a:List D}:fY [.tup a]=Y (.int a.length):=rfl
def geI:oGe (.int i) (.int j)=Y (.bl (decide (j<=i))):=rfl
local macro_rules | `(tactic|walk_at "v")=>return mk0 ("(T!simp simp (T!optConfig (null ) ) (null ) (null only ) (null [ (null "++String.join (("mq xM i_ aU eP jq iy mN Ba gk eI iQ nH Mi kv e2 eV eK eF fQ iu aW j6 aC aN dB gj v_ u4 mx iL iE Ft RW pN pS LC K3 iS nG ir eIs bZ qu a_ Rt lT dS bF List.getElem?_cons_zero Pb List.getElem?_nil Option.join_some Option.join_none ai cS Option.getD_some abz ZG eqI eqB eqS neI neS ltI gtI geI ixL ixT aaj aah fS fT if_true if_false gR sW Gs Nat.reduceAdd Nat.reduceSub Nat.reduceLeDiff B4 lC fE Gi Ml Bb iRM m2 mP kj ju xR su Xb Tx".splitOn " ").map fun s=>"(T!simpLemma (null ) (null ) %"++s++" ) , ")++") ] ) (null ) )") #[]
noncomputable def W_(c t:Int):Int:=(c%2147483647+t*t*7919+104729)*48271%2147483647
def wA(c t:Int):Int:=(W_ c t*W_ c t+69621*t)%2147483629
def GN(c t:Int)(e:0<=t)(d:t<=100000):sU [.int c,.int t]=Y (.int (wA c t)):=by
 unfold sU NL;walk_at "v";rw[l4 (by solve_by_elim),HV ⟨by lia,by lia⟩];walk_at "v";rw[HV ⟨by solve_by_elim,by simp⟩];walk_at "v";rw[HV ⟨by solve_by_elim,by simp⟩];walk_at "v";rw[l4 (by simp)];walk_at "v";rw[HV ⟨by lia,by lia⟩]
 exact Ÿ
def IL(c t:Int):0<=wA c t/\wA c t<2147483629:=⟨c_ _ ſ,cV _ ſ⟩
def zH{a:List Int}{j:Nat}{d:D}(h:(a.map D.int)[j]?=Y d):∃c,a[j]?=Y c/\d=.int c:=by
 rw[aR]at h;let(c,e,h):=aq.1 h;cases h<;>grind
def DU(a:List Int)(n:Nat)(v:Int):(a.map D.int).set n (.int v)=(a.set n v).map D.int:=by rw[vT]
def vD(ns:List Int)(O3:ns.length<=63)(lQ most:Int)(t0:0<=lQ)(t1:lQ<=1000)(m0:1<=most)(m1:most<=100):∃xs:List Int,iq [.j5 ns,.int lQ,.int most]=Y (xs.map D.int)/\1<=xs.length/\(xs.length:Int)<=most:=by
 let hcl:(Fl ns M (Y 63)).length<=63:=bX (Ve _ _ _) O3;generalize hcs:Fl ns M (Y 63)++[lQ]=cs;have aeJ:1<=cs.length:=by rw[<- hcs];simp
 have aeI:cs.length<=64:=by rw[<- hcs];simp;omega
 let e1:f_ (.lst ((Fl ns M (Y 63)).map D.int)) (.lst [.int lQ])=Y (.lst (cs.map D.int)):=by simp only[f_];rw[if_pos (by simp[kG];omega),<- hcs];simp
 let(c0,ec0):=vH (xs:=cs) (z:=0) ſ ž;unfold iq CG;walk_at "v";rw[e1];walk_at "v";rw[ec0];walk_at "v";rw[sJ ⟨by decide,by decide⟩];walk_at "v";rw[l4 (by decide)];walk_at "v";by_cases hb:(c0/50000%2==1)=Z'
 .rw[hb];walk_at "v";let hz:(cs.map D.int).length<=eJ:=by simp[kG];omega
  rw[if_pos hz];rw[L2.ux (h:=λd=>match d with|.int i =>.int (i/100000)|d=>d) (λd hd=>by let(i,_,rfl):=eE.mp hd;exact⟨_,rfl,by walk_at "v";rw[sJ ⟨by decide,by decide⟩]⟩)]
  let el:(cs.map D.int).map (λd=>match d with|.int i =>.int (i/100000)|d=>d)=(cs.map (· / 100000)).map D.int:=by simp
  rw[el];walk_at "v";rw[if_pos (⟨by omega,by omega⟩)];walk_at "v";have hl0:(cs.map (· / 100000)).length=cs.length:=ż
  obtain⟨ρ',ef,⟨fs,ls,v6,v7,rfl,UH,hls⟩⟩:=sI (τ:=gN 6) (g:=wZ) (ds:=lZ 0 (lQ+most+1).toNat) (λi ρ=>∃(fs ls:List Int) (v6 v7:Option D),ρ=[Y (.j5 ns),Y (.int lQ),Y (.int most),Y (.lst (cs.map D.int)),Y (.lst (fs.map D.int)),Y (.lst (ls.map D.int)),v6,v7,M,M,M]/\fs.length=i/\ls.length=cs.length)
   (ρ:=[Y (.j5 ns),Y (.int lQ),Y (.int most),Y (.lst (cs.map D.int)),Y (.lst []),Y (.lst ((cs.map (· / 100000)).map D.int)),M,M,M,M,M]) ⟨[],cs.map (· / 100000),M,M,rfl,rfl,hl0⟩ (by
   rintro j d ρ hd ⟨fs,ls,v6,v7,rfl,UH,hls⟩;let(hj,rfl):=D3 hd;have Xt:(0:Int)<(ls.length:Int):=ž
   have k0:=c_ (0+(j:Int)) (show (ls.length:Int)≠0 by omega);have k1:=cV (0+(j:Int)) Xt;let(v,ev):=vH (xs:=ls) k0 k1;refine⟨_,[Y (.j5 ns),Y (.int lQ),Y (.int most),Y (.lst (cs.map D.int)),Y (.lst ((fs++[v%2147483587]).map D.int)),Y (.lst ((ls.set ((0+(j:Int))%(ls.length:Int)).toNat (v/2147483587)).map D.int)),Y (.int (0+(j:Int))),Y (.int ((0+(j:Int))%(ls.length:Int))),M,M,M],rfl,?_,⟨_,_,_,_,rfl,by simp[UH],by simp[hls]⟩⟩;unfold wZ;walk_at "v";rw[az,l4 Xt];walk_at "v";rw[ev];walk_at "v";rw[l4 (by decide)];walk_at "v";rw[if_pos (by rw[az,kG];omega)];walk_at "v";rw[ev];walk_at "v";rw[sJ ⟨by decide,by decide⟩];walk_at "v";rw[az,Qn k0 k1];walk_at "v";rw[DU];simp)
  rw[ef];walk_at "v";rw[EW _ t0,<- List.map_drop];have hl:(fs.drop lQ.toNat).length=most.toNat+1:=by rw[Fp,UH,p8];omega
  let(v,ev):=vH (xs:=fs.drop lQ.toNat) (z:=most) ž (by rw[hl];omega);rw[ev];walk_at "v";rw[l4 (by omega)];walk_at "v";have k0:=c_ v (show most≠0 by omega);have k1:=cV v (show 0<most by omega);rw[Hz _ (by omega),<- Aw];refine⟨_,rfl,?_⟩;rw[uS,hl,Nat.min_eq_left (by omega)];exact⟨ž,ž⟩
 .let RY:(c0/50000%2==1)=false:=by simpa using hb
  rw[RY];walk_at "v";obtain⟨ρ',ef,⟨num,v6,v9,rfl,_⟩⟩:=sI (τ:=Du 6 9) (g:=wY) (ds:=xA (cs.map D.int)) (λi ρ=>∃(num:Int) (v6 v9:Option D),ρ=[Y (.j5 ns),Y (.int lQ),Y (.int most),Y (.lst (cs.map D.int)),Y (.lst []),M,v6,M,Y (.int num),v9,M]/\0<=num/\num<2147483629)
   ⟨0,M,M,rfl,ſ,ſ⟩ (by
   rintro j d ρ hd ⟨num,v6,v9,rfl,_⟩;let(x,hx,rfl):=wN hd;let(c,hc,rfl):=zH hx;let hj:j<cs.length:=(ah.mp hc).1;refine⟨_,[Y (.j5 ns),Y (.int lQ),Y (.int most),Y (.lst (cs.map D.int)),Y (.lst []),M,Y (.int j),M,Y (.int ((num*31+wA c ((j:Int)+lQ))%2147483629)),Y (.int c),M],rfl,?_,⟨_,_,_,rfl,c_ _ ſ,cV _ ſ⟩⟩;unfold wY;walk_at "v";rw[HV ⟨by decide,by decide⟩];walk_at "v";rw[GN _ _ (by omega) (by omega)];walk_at "v";rw[l4 (by decide)];walk_at "v")
  rw[ef];walk_at "v";rw[sJ ⟨by decide,by decide⟩];walk_at "v";rw[l4 (by omega)];walk_at "v";have k0:=c_ (num/1009) (show most≠0 by omega);have k1:=cV (num/1009) (show 0<most by omega);rw[if_pos (⟨by omega,by omega⟩)];walk_at "v";obtain⟨ρ',ef,⟨fs,v6,v10,rfl,UH⟩⟩:=sI (τ:=gN 6) (g:=wX) (ds:=lZ 0 (1+num/1009%most).toNat) (λi ρ=>∃(fs:List Int) (v6' v10:Option D),ρ=[Y (.j5 ns),Y (.int lQ),Y (.int most),Y (.lst (cs.map D.int)),Y (.lst (fs.map D.int)),M,v6',M,Y (.int num),v9,v10]/\fs.length=i)
   (ρ:=[Y (.j5 ns),Y (.int lQ),Y (.int most),Y (.lst (cs.map D.int)),Y (.lst []),M,v6,M,Y (.int num),v9,M]) ⟨[],v6,M,rfl,rfl⟩ (by
   rintro j d ρ hd ⟨fs,v6',v10,rfl,UH⟩;let(hj,rfl):=D3 hd;have Xt:(0:Int)<(cs.length:Int):=ž
   let q0:=c_ (0+(j:Int)) (show (cs.length:Int)≠0 by omega);let q1:=cV (0+(j:Int)) Xt;let(v,ev):=vH (xs:=cs) q0 q1;let mz:=IL v (num%1009+(0+(j:Int))+lQ);refine⟨_,[Y (.j5 ns),Y (.int lQ),Y (.int most),Y (.lst (cs.map D.int)),Y (.lst ((fs++[(wA v (num%1009+(0+(j:Int))+lQ)*wA v (num%1009+(0+(j:Int))+lQ)+7*(0+(j:Int)))%2147483587]).map D.int)),M,Y (.int (0+(j:Int))),M,Y (.int num),v9,Y (.int (wA v (num%1009+(0+(j:Int))+lQ)))],rfl,?_,⟨_,_,_,rfl,by simp[UH]⟩⟩;unfold wX;walk_at "v";rw[az,l4 Xt];walk_at "v";rw[ev];walk_at "v";rw[l4 (by decide)];walk_at "v";rw[GN _ _ (by omega) (by omega)];walk_at "v";rw[HV ⟨by omega,by omega⟩];walk_at "v";rw[Vw ⟨by decide,by decide⟩];walk_at "v";rw[l4 (by decide)];walk_at "v";rw[if_pos (by rw[az,kG];omega)];simp)
  rw[ef];walk_at "v";rw[p8]at UH;exact⟨fs,rfl,ž,ž⟩
def aai{x:aJ}(h:x.length<=eJ):fY [.str x]=Y (.int x.length):=by simp[fY,h]
def Yc{x y:aJ}(h:x.length+y.length<=eJ):f_ (.str x) (.str y)=Y (.str (x++y)):=by simp[f_,h]
def MX(j:List Int)(l:j.length<=63):∃f:List aJ,vN [.j5 j]=Y (.lst (f.map D.str))/\f.length=5:=by
 let(xs,q,v,u):=vD j l 40 1 Ÿ Ÿ ż ż;let(c,r):=vH (xs:=xs) (z:=0) ż Ž;let h:(ae "abcdefabcde").length<=eJ:=by decide +kernel
 let m:(ae "abcdefabcde").length<=11:=by decide +kernel
 let o:(ae "mnopq").cps.all (· < 128)=true:=by decide +kernel
 let g:(ae "mnopq").cps.toList.length=5:=by decide +kernel
 unfold vN CF;walk_at "v";rw[q];walk_at "v";rw[r];walk_at "v";rw[l4 (by simp)];walk_at "v";rw[if_pos h];walk_at "v";let k:=Ls (ae "abcdefabcde") M (Y (c%12));generalize oU _ M _=a at k;have e:a.length<=eJ:=by rw[kG];lia
 rw[sJ ⟨by simp,by simp⟩,aai e];walk_at "v";rw[l4 (by simp)];walk_at "v";generalize c/12%(a.length+1)=b;rw[if_pos o];walk_at "v";rw[if_pos (by simp[uj,g,kG]),L2.ux (h:=λd=>match d with|.str z =>.str ((oU a M (Y b)++z)++oU a (Y b) M)|d=>d) (λd p=>by
  let(i,_,rfl):=eE.mp p;refine⟨_,rfl,?_⟩;have t:=Ls a M (Y b);let s:=Ls a (Y b) M;let n:(⟨#[i]⟩:aJ).length=1:=rfl;walk_at "v";rw[if_pos e];walk_at "v";rw[Yc (by rw[n,kG];omega)];walk_at "v";rw[if_pos e];walk_at "v";rw[Yc (by
   have:(oU a M (Y b)++(⟨#[i]⟩:aJ)).length=(oU a M (Y b)).length+1:=by show ((oU a M (Y b)).cps ++ #[i]).size=_;simp;rfl
   rw[this,kG];omega)])]
 walk_at "v";refine⟨(ae "mnopq").cps.toList.map λi=>(oU a M (Y b)++⟨#[i]⟩)++oU a (Y b) M,?_,by rw[az];exact g⟩;simp[uj]
noncomputable abbrev ve:aJ:=ae "open"
noncomputable abbrev vd:aJ:=ae "text"
noncomputable abbrev pH:aJ:=ae "close"
def Al(s:D):Prop:=(∃x,s=.tup [.str ve,.str x])\/(∃x,s=.tup [.str vd,.str x])\/s=.tup [.str pH]
def Al.ok{s:D}(h:Al s)(n:Nat):lK s (n+1)=true:=by
 rcases h with⟨x,rfl⟩|⟨x,rfl⟩|rfl<;>simp[lK,pK]
def Gg(h:∀s∈a,Al s)(n:Nat):pK a (n+1)=true:=by
 induction a with
 |nil=>simp[pK]|cons s a ih=>simp only[pK,(h s aH).ok n,ih λs b=>h s (by simp_all),Bool.and_self]
noncomputable def iw:Nat×Bool->k9->Option (Nat×Bool)
 |(d,b),.op _=>if 0<d\/b=Z_ then Y (d+1,Z') else M
 |(d,b),.tx _=>if 0<d then Y (d,b) else M
 |(d,b),.cl=>if 0<d then Y (d-1,b) else M
noncomputable def lY:List k9->Nat×Bool->Option (Nat×Bool)
 |[],z=>Y z|g::a,z=>(iw z g).bind (lY a)
theorem td(g:k9):∀(a:List k9) (z:Nat×Bool),lY (a++[g]) z=(lY a z).bind λb=>iw b g
 |[],z=>by show (iw z g).bind _=iw z g;cases iw z g<;>rfl
 | t::a,z=>by
  show (iw z t).bind _=((iw z t).bind _).bind _;cases iw z t with
  |none=>rfl|some b=>exact td g a b
structure SG(ss:List D)(dep:Int):Prop where
 sg:∀s∈ss,Al s
 ex:∃gs d b,ss=gs.map dI/\lY gs (0,false)=some (d,b)/\dep=(d:Nat)/\(gs=[]->b=false)
def SG.nil:SG [] 0:=⟨λs h=>(by cases h),[],0,_,rfl,rfl,rfl,λ_=>rfl⟩
def SG.open{f:List D}{a:Int}(h:SG f a)(x:aJ)(e:f=[]\/0<a):SG (f++[.tup [.str ve,.str x]]) (a+1):=by
 let(i,d,b,g,k,_):=h.ex;refine⟨λs c =>?_,i++[.op x],d+1,Z',by rw[bT];solve_by_elim,?_,Ż,λh=>by simp at h⟩
 .rcases aO.mp c with c|c
  .exact h.sg s c
  .exact .inl ⟨x,dR.mp c⟩
 .rw[td,k];show (if 0<d\/b=Z_ then _ else _)=_;rcases e with e|e<;>simp_all
def SG.text(h:SG e a)(x:aJ)(k:0<a):SG (e++[.tup [.str vd,.str x]]) a:=by
 let(f,d,b,j,i,g,l):=h.ex;refine⟨λs c =>?_,f++[.tx x],d,b,by rw[j,bT];rfl,?_,g,λh=>by simp at h⟩
 .rcases aO.mp c with c|c
  .exact h.sg s c
  .exact .inr (.inl ⟨x,dR.mp c⟩)
 .rw[td,i];show (if 0<d then _ else _)=_
  simp_all
def SG.close(h:SG e a)(j:0<a):SG (e++[.tup [.str pH]]) (a-1):=by
 let(f,d,b,i,g,_):=h.ex;refine⟨λs c =>?_,f++[.cl],d-1,b,by rw[bT];solve_by_elim,?_,Ž,λh=>by simp at h⟩
 .rcases aO.mp c with c|c
  .exact h.sg s c
  .exact .inr (.inr (dR.mp c))
 .rw[td,g];show (if 0<d then _ else _)=_
  simp_all
def XI{a:List D}(h:∀s∈a,Al s):gQ (.lst a) (.lst [])=Y (.bl a.isEmpty):=by
 have:lK (.lst a) 180=true:=by simp_all [lK,Gg]
 simp only[gQ];rw[if_pos (by rw[this];rfl)];cases a<;>rfl
def F7: DG := (aU FS
      (gk (v_ (dB (e2 gQ (eV 3) Uf)) (gj (dB (e2 xG (eV 9) Ch)) Ê))
       (aU (nH 3 UV)
        Ú)
       (gk (gj (dB (e2 xG (eV 9) am)) Ê)
         (nH 3 Ô)
         (gk (v_ (dB (e2 vk (eV 4) na)) Â)
           (aU (nH 3 wP)
            (eP 4 (e2 m6 (eV 4) na)))
           eI))))
def Ab:wW=aU (eP 8 (eV 7)) (aU (gk (dB (e2 gQ (eV 6) u8)) (eP 5 (e2 gB wv Ch)) eI) F7):=rfl
set_option tactic.hygienic true in
theorem A0{a0:D}{nms txs:List aJ}{k:List D}{lean j c:Int}{v9:Option D}(K:nms.length=5)(J:txs.length=5)(l:SG k a)(L:k.length<=i)(N:i<=1000)(n:0<=lean/\lean<3)(H:0<=j):
  ∃g f m,F7 [Y a0,Y (.lst (nms.map D.str)),Y (.lst (txs.map D.str)),Y (.lst k),Y (.int a),Y (.int lean),Y (.int j),Y (.int c),Y (.int c),v9] =
   Y (.nx [Y a0,Y (.lst (nms.map D.str)),Y (.lst (txs.map D.str)),Y (.lst g),Y (.int f),Y (.int lean),Y (.int j),Y (.int c),Y (.int c),m])/\SG g f/\g.length<=i+1:=by
 have q:=c_ (c/7%11) (show (5:Int)≠0 by decide);have p:=c_ (c/7) (show (5:Int)≠0 by decide);let(r,z,_):=vG (xs:=nms) q ž;let(o,y,_):=vG (xs:=txs) p ž;have d:k.length<eJ:=by rw[kG];omega
 unfold F7;walk_at "v";rw[l4 (by decide)];walk_at "v";rw[Vw ⟨by omega,by omega⟩];walk_at "v";rw[HV ⟨by decide,by decide⟩];walk_at "v";rw[l4 (by decide)];walk_at "v";rw[XI l.sg];walk_at "v";generalize (c+lean*(j%2)*5)%7=e;let u:∃b,(if k.isEmpty=Z' then Y Z' else if decide (e<3)=Z' then Y (decide (0<a)) else Y Z_)=Y b/\(b=Z'->k=[]\/0<a):=by
  split
  .rename_i h;exact⟨Z',rfl,λ_ =>.inl Ż⟩
  .split<;>simp_all
 let(G,C,x):=u;rw[C];cases G with
 |true=>walk_at "v";rw[sJ ⟨by decide,by decide⟩];walk_at "v";rw[l4 (by decide)];walk_at "v";rw[l4 (by decide)];walk_at "v";rw[z];walk_at "v";rw[if_pos d];walk_at "v";exact⟨_,_,_,rfl,l.open r (x rfl),by simp;omega⟩
 |false=>
  walk_at "v";let t:∃b,(if decide (e<5)=Z' then Y (decide (0<a)) else Y Z_)=Y b/\(b=Z'->0<a):=by split<;>simp_all
  let(F,B,w):=t;rw[B];cases F with
  |true=>walk_at "v";rw[sJ ⟨by decide,by decide⟩];walk_at "v";rw[l4 (by decide)];walk_at "v";rw[y];walk_at "v";rw[if_pos d];exact⟨_,_,_,rfl,l.text o (w rfl),by simp;omega⟩
  |false=>
   walk_at "v";rw[sJ ⟨by decide,by decide⟩];walk_at "v";rw[l4 (by decide)];walk_at "v";let s:∃b,(if decide (1<a)=Z' then Y Z' else if (a==1)=Z' then Y (c/7%6==0) else Y Z_)=Y b/\(b=Z'->0<a):=by split<;>grind
   let(E,A,v):=s;rw[A];cases E with
   |true=>walk_at "v";rw[if_pos d];walk_at "v";exact⟨_,_,_,rfl,l.close (v rfl),by simp;omega⟩
   |false=>walk_at "v";exact⟨_,_,_,rfl,l,ž⟩
def Ma(k:List Int)(f:List aJ)(O:k.length<=500)(G:f.length=5):∃h b,vM [.lst (k.map D.int),.lst (f.map D.str)]=Y h/\SG h b/\h.length<=k.length:=by
 unfold vM CD;walk_at "v";let B:([ae "x",ae "",ae "y x",ae "\"",ae "[a]"]:List aJ).length=5:=rfl;let K:[D.str (ae "x"),D.str (ae ""),D.str (ae "y x"),D.str (ae "\""),D.str (ae "[a]")]=([ae "x",ae "",ae "y x",ae "\"",ae "[a]"]:List aJ).map D.str:=rfl;rw[K];generalize ([ae "x",ae "",ae "y x",ae "\"",ae "[a]"]:List aJ)=l at B;obtain⟨H,L,⟨h,b,a,z,y,w,q,rfl,v,s,_⟩⟩:=sI (τ:=Du 6 7) (g:=wW) (ds:=xA (k.map D.int)) (λi C=>∃(h:List D) (b a:Int) (z y w q:Option D),C=[Y (.lst (k.map D.int)),Y (.lst (f.map D.str)),Y (.lst (l.map D.str)),Y (.lst h),Y (.int b),Y (.int a),z,y,w,q]/\SG h b/\h.length<=i/\(0<=a/\a<3))
  ⟨[],0,0,M,M,M,M,rfl,SG.nil,aI _,ſ,ſ⟩ (by
  rintro j d C I ⟨h,b,a,z,y,w,q,rfl,v,s,r⟩;let(x,A,rfl):=wN I;let(c,J,rfl):=zH A;have N:j<k.length:=(ah.mp J).1;have F:=c_ (c/7) (show (3:Int)≠0 by decide);have E:=cV (c/7) (show (0:Int)<3 by decide);by_cases u:((j:Int)==0)=Z'
  .let⟨n,g,m,e,o,p⟩:=A0 (a0 :=.lst (k.map D.int)) (nms:=f) (txs:=l) (lean:=c/7%3) (j:=(j:Int)) (c:=c) (v9:=q) G B v s ž ⟨F,E⟩ ž;refine⟨_,_,rfl,?_,⟨n,g,c/7%3,Y (.int j),Y (.int c),Y (.int c),m,rfl,o,p,F,E⟩⟩;rw[Ab];walk_at "v";rw[u];walk_at "v";rw[sJ ⟨by decide,by decide⟩];walk_at "v";rw[l4 (by decide)];walk_at "v";exact e
  .let t:((j:Int)==0)=false:=by simpa using u
   let(n,g,m,e,o,p):=A0 (a0 :=.lst (k.map D.int)) (nms:=f) (txs:=l) (lean:=a) (j:=(j:Int)) (c:=c) (v9:=q) G B v s ž r ž;refine⟨_,_,rfl,?_,⟨n,g,a,Y (.int j),Y (.int c),Y (.int c),m,rfl,o,p,r⟩⟩;rw[Ab];walk_at "v";rw[t];walk_at "v";exact e)
 rw[L];walk_at "v";rw[wM,az]at s;exact⟨h,b,rfl,v,s⟩
def KI(a:List Int)(n:Nat):pK (a.map D.int) n=true:=by
 induction a with|nil=>rfl|cons x a ih=>solve_by_elim
def UU(a:List Int):gQ (.lst (a.map D.int)) (.lst [])=Y (.bl a.isEmpty):=by
 simp only[gQ];rw[if_pos (by rw[QW (KI a 179)];rfl)];cases a<;>rfl
noncomputable def wo(a:List Int):Int:=a.getLastD 0
def Gp(a:List Int):Ag [.lst (a.map D.int)]=Y (.int (wo a),a.dropLast.map D.int):=by
 have t:dB (e2 gQ (eV 0) (eF (fQ aN))) [Y (.lst (a.map D.int))]=Y a.isEmpty:=by walk_at "v";simp[UU]
 show (aU _ _ [Y _]).bind _=_;rcases List.eq_nil_or_concat a with rfl|⟨b,x,rfl⟩
 .exact Ÿ
 .let e:gk (dB (e2 gQ (eV 0) Uf)) (fE (mP u8)) eI [Y (.lst ((b.concat x).map D.int))]=Y (.nx [Y (.lst ((b.concat x).map D.int))]):=by rw[WJ (by simp_all)];exact Ÿ
  rw[PB e];simp only[fE,Ud];walk_at "v";simp[Tx,kv,eV,wo]
theorem Nb{ρ:cE}{τ:AR}{fe:DM}{i0:Nat}{Pr:D->Prop}:∀ {ds:List D}(e:List Int),(∀d∈ds,∀e:List Int,∃(c:cE) (x:D) (b:cE) (a:List Int),τ d (ρ.set i0 (Y (.lst (e.map D.int))))=Y c/\fe c=Y (x,b)/\kv i0 b=Y (a.map D.int)/\Pr x)->∃f a,Uk ρ τ fe i0 ds (e.map D.int)=Y (f,Dk D.int a)/\f.length=ds.length/\∀x∈f,Pr x
 |[],e,_=>⟨[],e,rfl,rfl,λx h=>by cases h⟩
 | d::ds,e,h=>by
  let(c,x,b,g,_):=h d aH e;let(f,a,n,l,k):=Nb g λd m=>h d (aZ _ m)
  refine⟨x::f,a,?_,by simp[l],λy i =>?_⟩
  .simp_all [Uk,ai,cS]
  grind
noncomputable abbrev qA(xs:List Int)(a:List aJ)(b:Int):List D:=[.lst (xs.map D.int),.int b,.lst (a.map D.str)]
def zW:Nat->Nat
 |0=>1|n+1=>1+3*(1+zW n)
theorem Sl:∀n,1<=zW n
 |0=>aI _|n+1=>by simp_all [zW]
structure WB(n:Nat)(w:Wi):Prop where
 nm:Yj w
 ok:Zi (λ_=>True) w
 dp:pI w<=2*(n+1)
 sz:oW w<=zW n
abbrev Tp:=Bool×Option aJ×Wi
abbrev Gc(p:Tp):D :=.tup [.str (gS p.1),.str (h_ p.2.1),qv p.2.2]
noncomputable def mX:List Tp->Ss
 |[] =>.nil|p::r =>.cons p.1 p.2.1 p.2.2 (mX r)
theorem Ii:∀l,hV (mX l)=l.map Gc
 |[]=>rfl|p::l=>by rw[mX,hV,Ii l];rfl
abbrev TB(n:Nat)(p:Tp):Prop:=p.2.1≠Y (ae "*")/\WB n p.2.2
theorem LZ{n:Nat}:∀l:List Tp,(∀p∈l,TB n p)->HS (mX l)/\V5 (λ_=>True) (mX l)/\uE (mX l)<=2*(n+1)+1/\uc (mX l)<=l.length*(1+zW n)
 |[],_=>⟨trivial,trivial,by simp[mX,uE],by simp[mX,uc]⟩
 | p::l,h=>by
  let(a,b,c,d):=LZ l λq hq=>h q Ÿ
  let(e,f):=h p aH;refine⟨⟨e,f.nm,a⟩,⟨f.ok,b⟩,?_,?_⟩
  .have:=f.dp;grind [mX,uE]
  .have:=f.sz;simp only[mX,uc,bZ,Nat.add_mul];lia
theorem Rx{n:Nat}:∀ds:List D,(∀x∈ds,∃w,x=qv w/\WB n w)->∃W,uZ W=ds/\V6 W/\Yi (λ_=>True) W/\Fv W<=2*(n+1)/\xJ W<=ds.length*zW n
 |[],_=>⟨.nil,rfl,trivial,trivial,by simp[Fv],by simp[xJ]⟩
 | x::ds,h=>by
  let(W,a,b,c,d,e):=Rx ds λq hq=>h q Ÿ
  let(w,rfl,f):=h x aH;refine⟨.cons w W,by rw[uZ,a],⟨f.nm,b⟩,⟨f.ok,c⟩,?_,?_⟩
  .have:=f.dp;grind [Fv]
  .have:=f.sz;simp only[xJ,bZ,Nat.add_mul];omega
def AX(Fw Fs:List D->Option (D×List D))(n:Nat)(dp:Int)(hdp:dp=n)(nms:List aJ)
  (hs:∀m,n=m+1->∀xs:List Int,∃(A1:List Tp) (xs':List Int),Fs (qA xs nms (dp-1))=Y (.lst (A1.map Gc),xs'.map D.int)/\1<=A1.length/\A1.length<=3/\∀p∈A1,TB m p)
  (hw:∀m,n=m+1->∀xs:List Int,∃(w:Wi) (xs':List Int),Fw (qA xs nms (dp-1))=Y (qv w,xs'.map D.int)/\WB m w)
  (xs:List Int):∃(w:Wi) (xs':List Int),B4 3 5 0 (CC Fw Fs) (qA xs nms dp)=Y (qv w,xs'.map D.int)/\WB n w:=by
 let zp:=Sl n;have q1:=cV (wo xs) (show (0:Int)<8 by decide);have e8:gB (.int (wo xs)) (.int 8)=Y (.int (wo xs%8)):=l4 ſ;have f8:iU (.int (wo xs)) (.int 8)=Y (.int (wo xs/8)):=sJ ⟨ſ,ſ⟩;let Nq:=Gp xs;generalize wo xs=num at *
 generalize num%8=kd at *
 generalize num/8=nd at *
 unfold CC;walk_at "v";rw[Nq];walk_at "v";rw[e8];walk_at "v";by_cases k1:kd<2\/(dp=0/\2<kd)
 .have:(if decide (kd<2)=Z' then Y Z' else if (dp==0)=Z' then Y (decide (2<kd)) else Y Z_)=Y true:=by
   by_cases a:kd<2
   .rw[decide_eq_true a];rfl
   .rw[decide_eq_false a];rcases k1 with z|⟨z,z'⟩
    .exact absurd z a
    .rw[z,decide_eq_true z'];rfl
  rw[this];walk_at "v";exact⟨.any,xs.dropLast,rfl,trivial,trivial,by simp only[pI];omega,by simp only[oW];omega⟩
 .have:(if decide (kd<2)=Z' then Y Z' else if (dp==0)=Z' then Y (decide (2<kd)) else Y Z_)=Y false:=by
   let a:¬kd<2:=λz=>k1 (.inl z)
   rw[decide_eq_false a];by_cases b:dp=0
   .rw[decide_eq_false (λz=>k1 (.inr ⟨b,z⟩)),b];rfl
   .rw[show (dp==0)=Z_ by simp[b]];rfl
  rw[this];walk_at "v";by_cases k2:kd=2
  .rw[show (kd==2)=Z' by simp[k2]];walk_at "v";rw[f8];walk_at "v";rw[l4 (by decide)];walk_at "v";have r0:=c_ nd (show (5:Int)≠0 by decide);have r1:=cV nd (show (0:Int)<5 by decide);let(tx,et,_):=vG (xs:=[ae "x",ae "",ae "y x",ae "\"",ae "[a]"]) (z:=nd%5) r0 r1;rw[show n9 _ (nd%5)=Y (.str tx) from et];walk_at "v";exact⟨.txt tx,xs.dropLast,rfl,trivial,trivial,by simp only[pI];omega,by simp only[oW];omega⟩
  .rw[show (kd==2)=Z_ by simp[k2]];walk_at "v";obtain⟨m,hm⟩:∃m,n=m+1:=by
    cases n with
    |zero=>exact absurd (.inr ⟨by rw[hdp];rfl,by have:=λz=>k1 (.inl z);omega⟩) k1
    |succ m=>exact⟨m,rfl⟩
   subst hm;by_cases k5:kd<5
   .rw[decide_eq_true k5];walk_at "v";let(A1,xs',es,l0,l1,YK):=hs m rfl xs.dropLast;simp only[qA]at es;rw[es];walk_at "v";let(s1,s2,s3,s4):=LZ A1 YK;have s5:=Vz (1+zW m) l1;exact⟨.has (mX A1),xs',by rw[qv,Ii],s1,⟨(by cases A1 with|nil=>simp at l0|cons a b=>(intro z;cases z)),s2⟩,by simp only[pI];omega,by simp only[oW,zW];omega⟩
   .rw[decide_eq_false k5];walk_at "v";by_cases k6:kd=5
    .rw[show (kd==5)=Z' by simp[k6]];walk_at "v";exact⟨.has (.cons Z_ M .any .nil),xs.dropLast,rfl,⟨ż,trivial,trivial⟩,⟨ż,trivial,trivial⟩,by simp only[pI,uE];omega,by simp only[oW,uc,zW];omega⟩
    .rw[show (kd==5)=Z_ by simp[k6]];walk_at "v";obtain⟨kn,ek,hk⟩:∃kn:aJ,n9 [D.str (ae "both"),D.str (ae "one")] (kd-6)=Y (.str kn)/\(kn=ae "both" \/kn=ae "one"):=by
      have:kd=6\/kd=7:=by have:=λz=>k1 (.inl z);omega
      rcases this with rfl|rfl
      .exact⟨_,rfl,.inl rfl⟩
      .exact⟨_,rfl,.inr rfl⟩
     rw[ek];walk_at "v";rw[f8];walk_at "v";rw[l4 (by decide)];walk_at "v";have r0:=c_ nd (show (4:Int)≠0 by decide);have r1:=cV nd (show (0:Int)<4 by decide);generalize nd%4=mn at *
     rw[if_pos (⟨Int.le_trans (by decide) r0,vU r1 (by decide)⟩)];walk_at "v";let hz:(lZ 0 mn.toNat).length<=eJ:=by rw[p8,kG];omega
     rw[if_pos hz];let(ws,xs',el,hl,hws):=Nb (ρ:=[M,Y (.lst (xs.dropLast.map D.int)),Y (.lst (nms.map D.str)),Y (.int dp)]) (τ:=gN 0) (fe:=su Fw 1 (aC (e2 m6 (eV 3) (eK (.int 1))) (aC (eV 2) aN))) (i0:=1) (Pr:=λd=>∃w,d=qv w/\WB m w) (ds:=lZ 0 mn.toNat) xs.dropLast λd c ys=>by let(w,ys',ew,hww):=hw m rfl ys;simp only[qA]at ew;refine⟨_,qv w,[Y d,Y (.lst (ys'.map D.int)),Y (.lst (nms.map D.str)),Y (.int dp)],ys',rfl,?_,rfl,w,rfl,hww⟩;walk_at "v";rw[ew];walk_at "v"
     rw[el];walk_at "v";rw[p8]at hl;let(W,rfl,s1,s2,s3,s4):=Rx ws hws;have s5:=Vz (zW m) (show (uZ W).length<=3 by omega);rcases hk with rfl|rfl
     .exact⟨.both W,xs',rfl,s1,s2,by simp only[pI];omega,by simp only[oW,zW];omega⟩
     .exact⟨.one W,xs',rfl,s1,s2,by simp only[pI];omega,by simp only[oW,zW];omega⟩
def F9(Fw Fs:List D->Option (D×List D))(n:Nat)(dp:Int)(nms:List aJ)(hn:nms.length=5)
  (hw:∀xs:List Int,∃(w:Wi) (xs':List Int),Fw (qA xs nms dp)=Y (qv w,xs'.map D.int)/\WB n w)
  (xs:List Int):∃(A1:List Tp) (xs':List Int),B4 3 7 0 (ym Fw Fs) (qA xs nms dp)=Y (.lst (A1.map Gc),xs'.map D.int)/\1<=A1.length/\A1.length<=3/\∀p∈A1,TB n p:=by
 have r0:=c_ (wo xs) (show 3≠0 by simp);have r1:=cV (wo xs) (show 0<3 by simp);have e4:gB (.int (wo xs)) (.int 3)=Y _:=l4 ż;have Nq:=Gp xs;generalize wo xs=num at *
 generalize num%3=md at *
 unfold ym;walk_at "v";rw[Nq];walk_at "v";rw[e4];walk_at "v";rw[if_pos (by lia)];walk_at "v";let(ρ',ef,ys,A1,v4,v5,v6,rfl,hl,YK):=sI (τ:=gN 4) (g:=wV Fw Fs) (λi ρ=>∃(ys:List Int) (A1:List Tp) (v4 v5 v6:Option D),ρ=[Y (.lst (ys.map D.int)),Y (.int dp),Y (.lst (nms.map D.str)),Y (.lst (A1.map Gc)),v4,v5,v6]/\A1.length=i/\∀p∈A1,TB n p)
  (ρ:=[Y (.lst (xs.dropLast.map D.int)),Y (.int dp),Y (.lst (nms.map D.str)),Y (.lst []),M,M,M]) ⟨xs.dropLast,[],M,M,M,rfl,rfl,λs h=>(by cases h)⟩ (by
  refine λj d ρ hd xx=>af λkk =>?_
  let(ys,A1,v4,v5,v6,rfl,hl,YK):=xx;have hj:j<(1+md).toNat:=by have:=(ah.mp hd).1;rw[p8]at this;exact this
  have Nq:=Gp ys;generalize wo ys=num at *
  let(w,zs,ew,hww):=hw ys.dropLast;simp only[qA]at ew;have t0:=c_ (num/2) (show (7:Int)≠0 by decide);have t1:=cV (num/2) (show (0:Int)<7 by decide);let(nm,en,_):=vG (xs:=nms.take 4++[ae "*",ae "*",ae "*"]) t0 (by simp[hn];omega);rw[bT]at en;obtain⟨wy,ey⟩:∃wy:Bool,n9 [D.str (ae "own"),D.str (ae "inner")] (num%2)=Y (.str (gS wy)):=by
   have:num%2=0\/num%2=1:=by omega
   rcases this with z|z
   .rw[z];exact⟨Z_,rfl⟩
   .rw[z];exact⟨Z',rfl⟩
  obtain⟨nO,eO,hO⟩:∃nO:Option aJ,nm=h_ nO/\nO≠Y (ae "*"):=by
   by_cases z:nm=ae "*"
   .exact⟨M,z,ż⟩
   .exact⟨Y nm,rfl,λh=>z (cB h)⟩
  subst eO;refine kk (⟨_,_,rfl,?_,zs,A1++[(wy,nO,w)],Y d,Y (.int num),Y (.str (h_ nO)),rfl,by simp[hl],λs hs =>?_⟩)
  .unfold wV;walk_at "v";rw[Nq];walk_at "v";rw[sJ ⟨by decide,by decide⟩];walk_at "v";rw[Hz _ (by decide),<- Aw];have aaQ:f_ (.lst ((nms.take (4:Int).toNat).map D.str)) (.lst [.str (ae "*"),.str (ae "*"),.str (ae "*")])=Y (.lst ((nms.take 4).map D.str++[.str (ae "*"),.str (ae "*"),.str (ae "*")])):=by simp only[f_];rw[if_pos (by simp[kG];omega)];rfl
   rw[aaQ];walk_at "v";rw[l4 (by decide)];walk_at "v";rw[show n9 _ (num/2%7)=Y (.str (h_ nO)) from en];walk_at "v";rw[l4 (by decide)];walk_at "v";rw[ey];walk_at "v";rw[ew];walk_at "v";rw[if_pos (by rw[kG,az];omega),bT];rfl
  .rcases aO.mp hs with hs|hs
   .exact YK s hs
   .rw[dR.mp hs];exact⟨hO,hww⟩)
 rw[ef];walk_at "v"
 grind [p8]
end K21
namespace K21
open PySem L2
structure Q_(fit:Int->Int->Int)(r:dH):Prop where
 sm:Sm 63 r.fits
 ft:Le r.fits (fit r.named r.atoms)
structure Lax(inner:Int)(pr r:dH):Prop where
 re:Le r.aK (yl inner pr.aK pr.ra r.fits)
 ra:Le r.ra (bO pr.ra r.aK)
structure KR(fit:Int->Int->Int)(inner:Int)(rows:List dH):Prop where
 rl:∀(i:Nat) (r:dH),rows[i+1]?=some r->Q_ fit r
 ch:∀(i:Nat) (p r:dH),rows[i]?=some p->rows[i+1]?=some r->Lax inner p r
structure Kp(fit:Int->Int->Int)(inner:Int)(rows Mn:List dH):Prop where
 nu:Mn.map (·.number)=rows.map (·.number)
 re:Mn.map (·.aK)=rows.map (·.aK)
 kr:KR fit inner rows->KR fit inner Mn
section
variable {f:w8}{v:Int}
def Kp.trans(h:Kp n a o A)(g:Kp n a A G):Kp n a o G:=⟨g.nu.trans h.nu,g.re.trans h.re,λz=>g.kr (h.kr z)⟩
def Kp.set{i:Nat}{r r':dH}(h:o[i]?=Y r)(k:r'.number=r.number)(d:r'.aK=r.aK)(f:r'.ra=r.ra)(g:Q_ n r->Q_ n r'/\Le r.fits r'.fits):Kp n a o (o.set i r'):=by
 refine⟨?_,?_,λK=>⟨λj s e =>?_,λj p s b c =>?_⟩⟩
 .simp_all [vT,hW,aR]
 .simp_all [vT,hW,aR]
 .by_cases z:i=j+1
  .subst z;rw[a7 (ah.mp h).1]at e;cases e;exact(g (K.rl j r h)).1
  .rw[au z]at e;exact K.rl j s e
 .by_cases z:i=j+1
  .subst z;rw[a7 (ah.mp h).1]at c;cases c;rw[au (by simp)]at b;have L:=K.ch j p r b h;refine⟨?_,by rw[d,f];exact L.ra⟩;rw[d];exact λi e=>R4 (λ_ h=>h) (λ_ h=>h) (g (K.rl j r h)).2 i (L.re i e)
  .rw[au z]at c;by_cases y:i=j
   .subst y;rw[a7 (ah.mp h).1]at b;cases b;have L:=K.ch i r s h c;exact⟨by rw[d,f];exact L.re,by rw[f];exact L.ra⟩
   .rw[au y]at b;exact K.ch j p s b c
def Kp.atoms(W:FW f v n B C E){i:Nat}{r:dH}(h:o[i]?=Y r)(x:Int):Kp n a o (o.set i { r with atoms:=bO r.atoms x }):=
 .set h rfl rfl rfl λL=>⟨⟨L.sm,λi e=>W.mono _ _ _ (wC _ _) i (L.ft i e)⟩,λ_ h=>h⟩
set_option tactic.hygienic true in
theorem we(W:FW f v n B C E):∀(p:Nat) (b:Bool) (o:List dH),Kp n a o (kf n B b p o)
 |0,b,o=>by cases b<;>exact⟨rfl,rfl,id⟩
 |p+1,Z_,o=>⟨rfl,rfl,id⟩| p+1,Z',o=>by
  unfold kf;split
  .rename_i r c e d;refine .trans (.trans (.set (r':={ r with fits:=n _ _ }) e rfl rfl rfl λL=>⟨⟨W.sm _ _,λ_ h=>h⟩,L.ft⟩) (.atoms W ?_ _)) (we W p _ _)
   simp_all
  exact Ÿ
theorem Ea(p:b->Bool):∀l:List b,(l.filter p).length+(l.filter λx=> !p x).length=l.length
 |[]=>rfl| x::l=>by
  have:=Ea p l
  grind
def Ci(k:Nat)(b:List Int):Nat:=(b.filter λx=> !tz x k).length
theorem oI(x:Int)(b:List Int):Ci k (x::b)=(if tz x k then 0 else 1)+Ci k b:=by
 grind [Ci,List.filter_cons,tz]
theorem Mb:∀(b:List dH) (p q:dH),Le p.aK q.aK->Le p.ra q.ra->KR n a (p::b) ->
  Yg a q b/\KR n a (q::hZ a q b)/\(hZ a q b).map (·.number)=b.map (·.number)/\(rG a (2 ^ k) q b).length+Ci k ((hZ a q b).map (·.aK))<=Ci k (b.map (·.aK))
 |[],p,q,j,f,K=>⟨trivial,⟨λi r e=>(by simp[hZ]at e),λi p r o e=>(by simp[hZ]at e)⟩,rfl,aI _⟩
 | r::b,p,q,j,f,K=>by
  have L:=K.ch 0 p r rfl rfl;have R:=K.rl 0 r rfl;have g:Le r.aK (qz a q r).aK:=λi e=>R4 j f (λo h=>h) i (L.re i e)
  let x:Le r.ra (qz a q r).ra:=λi e=>IV f g i (L.ra i e)
  let(z,l,y,D):=Mb b r (qz a q r) g x ⟨λi s e=>K.rl (i+1) s e,λi s t d c=>K.ch (i+1) s t d c⟩;let s:=(Gf (x:=bO q.aK (bA q.ra a)) R.sm);refine⟨⟨Ž,z⟩,⟨λi t e =>?_,λi t u d c =>?_⟩,?_,?_⟩
  .cases i with|zero=>cases e;exact⟨R.sm,R.ft⟩|succ i=>exact l.rl i t e
  .cases i with
   |zero=>cases d;cases c;exact⟨λo h=>h,λo h=>h⟩
   |succ i=>exact l.ch i t u d c
  .show r.number::_=r.number::_;rw[y]
  .show ((if zN a (2 ^ k) q r then [r.number] else [])++rG a (2 ^ k) (qz a q r) b).length+Ci k ((qz a q r).aK::_)<=Ci k (r.aK::_);rw[oI,oI,aS];let e:zN a (2 ^ k) q r=(tz (qz a q r).aK k && !tz r.aK k):=by show (bA (bA (qz a q r).aK (bN r.aK)) (2 ^ k) != 0)=_;rw[pA,fI,rS]
   rw[e];let m:=g k;cases h:tz r.aK k with
   |true=>rw[m h];simp;solve_by_elim|false=>grind
structure SI(f:w8)(fm:Int)(fit:Int->Int->Int)(c:kq)(nl d:Nat)(b:Bool):Prop where
 ff:c.f=f
 fa:c.fm=fm
 fu:c.full=2 ^ f.q.length
 len:c.rows.length=d+1
 kr:KR fit f.inner c.rows
 pl:∀y∈c.rests,V4 c.rows y
 nd:(c.rests.map (·.num)++c.rows.map (·.number)).Nodup
 lt:∀x∈c.rests.map (·.num)++c.rows.map (·.number),x<c.opened
 Ti:((nl+c.rests.length+Ci f.q.length (c.rows.map (·.aK)):Nat):Int)<=c.opened+1
 cnt:((c.rests.length+c.rows.length:Nat):Int)<=c.opened+1
 tk:c.opened<=c.taken
 op:b=decide (0<c.opened)
def SI.keep(I:SI f v n c w d b)(K:Kp n f.inner c.rows o):SI f v n { c with rows:=o } w d b:=by
 have g:o.length=c.rows.length:=by have:=congrArg tH K.nu;simp_all
 let h:=I.nd;let i:=I.lt;let e:=I.Ti;rw[<- K.nu]at h i;rw[<- K.re]at e;exact⟨I.ff,I.fa,I.fu,g.trans I.len,K.kr I.kr,λy k=>by have:=I.pl y k;unfold V4 at this ⊢;rw[g];exact this,h,i,e,by rw[g];exact I.cnt,(I.tk),I.op⟩
def SI.tk1(I:SI f v n c w d b):SI f v n (fF c) w d b:=⟨I.ff,I.fa,I.fu,I.len,I.kr,I.pl,I.nd,I.lt,I.Ti,I.cnt,by have:=I.tk;show c.opened<=c.taken+1;omega,I.op⟩
end
section
variable {f:w8}{v:aJ->Int}
def I'(h:rows≠[]):∃b r,rows=b++[r]:=⟨_,_,(List.dropLast_concat_getLast h).symm⟩
def II(c b:List Int):Ci k (c++b)=Ci k c+Ci k b:=by unfold Ci;rw[List.filter_append,aS]
def KR.app{r:dH}(K:KR a t rows)(h:Q_ a r)(c:r.aK=0)(b:r.ra=0):KR a t (rows++[r]):=by
 have g:∀(i:Nat) (s:dH),(rows++[r])[i]?=Y s->rows[i]?=Y s\/i=rows.length/\s=r:=λi s e=>by
  rcases Nat.lt_trichotomy i _ with z|z|z
  .rw[aM z]at e;exact .inl e
  .subst z;rw[List.getElem?_concat_length]at e;cases e<;>simp
  .rw[xb (by rw[aS,gK];trivial)]at e;cases e
 refine⟨λi s e =>?_,λi p s f d =>?_⟩
 .rcases g _ s e with z|⟨_,rfl⟩
  .exact K.rl i s z
  .exact h
 .rcases g _ s d with z|⟨z,rfl⟩
  .rcases g _ p f with y|⟨y,simp⟩
   .exact K.ch i p s y z
   simp_all
  .exact⟨by rw[c];exact yy _,by rw[b];exact yy _⟩
def KR.pop(K:KR a t (rows++[r])):KR a t rows:=by
 have g:∀(i:Nat) (s:dH),rows[i]?=Y s->(rows++[r])[i]?=Y s:=λi s e=>by rw[aM (ah.mp e).1];exact e
 exact⟨λi s e=>K.rl i s (g _ s e),λi p s c b=>K.ch i p s (g _ p c) (g _ s b)⟩
def SI.open(W:FW f o a u v w)(I:SI f o a c j d b)(n:Int)(p:dH):SI f o a (Gx a u (fF c) n p) j (d+1) true:=by
 let h:SI f o a { fF c with opened:=c.opened+1,rows:=c.rows++[m9 a (fF c) c.opened n 0 p] } j (d+1) true:=by
  let i:=I.Ti;let q:=I.cnt;let m:=I.tk;let k:=I.len;refine⟨I.ff,I.fa,I.fu,?_,I.kr.app ⟨W.sm _ _,λ_ h=>h⟩ rfl rfl,λy g =>?_,?_,λx e =>?_,?_,?_,?_,(decide_eq_true Ž).symm⟩
  .simp_all
  .have:=I.pl y g
   grind
  .rw[bT,<- bY];refine eD.mpr ⟨I.nd,ż,λx e y g =>?_⟩;have:=I.lt x e;rw[dR.mp g];show x≠c.opened
   lia
  .rw[bT,<- bY]at e;show x<c.opened+1;rcases aO.mp e with z|z
   .have:=I.lt x z;lia
   .rw[dR.mp z];show c.opened<c.opened+1;lia
  .show ((j+c.rests.length+Ci f.q.length ((c.rows++[_]).map dH.aK):Nat):Int)<=c.opened+1+1;rw[bT,II];show ((_+(_+Ci _ [0]):Nat):Int)<=_;rw[oI,lj];let i:((j+c.rests.length+Ci f.q.length (c.rows.map dH.aK):Nat):Int)<=c.opened+1:=i;show ((_+(_+(1+0)):Nat):Int)<=_
   lia
  .show ((c.rests.length+(c.rows++[_]).length:Nat):Int)<=c.opened+1+1
   grind
  .show c.opened+1<=c.taken+1;omega
 exact h.keep (we W _ _ _)
def MY(c:kq)(p:Nat)(r q:dH)(m:qo):(yj c p r q m).num=m.num:=by unfold yj;split<;>rfl
def SI.close(I:SI f o a c j d b)(hd:0<d):∃rs p r,c.rows=rs++[p]++[r]/\((m_ (eB c) r).map (·.num)).Nodup/\((m_ (eB c) r).length:Int)<=c.opened+1/\SI f o a (wO (fF c) r p) j (d-1) b:=by
 let hl:=I.len;let(rs1,r,e):=I' (rows:=c.rows) (λz=>by rw[z]at hl;simp at hl);have UG:rs1.length=d:=by rw[e,aS,gK]at hl;lia
 let(rs,p,rfl):=I' (rows:=rs1) (λz=>by rw[z]at UG;simp at UG;lia);have ep:(eB c).rows=rs++[p]:=by show c.rows.dropLast=_;rw[e,jm]
 let hp:=I.Ti;let hc:=I.cnt;let ht:=I.tk;let hn:=I.nd;let Nr:=I.lt;rw[e,bT]at hn Nr;rw[e,bT,II]at hp;let hx:Ci f.q.length ([r].map (·.aK))=if tz r.aK f.q.length then 0 else 1:=oI _ _
 rw[hx]at hp;rw[e,aS,gK]at hc;let ha:∃X:List qo,m_ (eB c) r=c.rests++X/\X.length=(if tz r.aK f.q.length then 0 else 1)/\(∀m∈X,m.num=r.number/\m.place=d)/\(X.map (·.num)).Sublist [r.number]:=by unfold m_;rw[show (eB c).full=2 ^ f.q.length from I.fu,pA,ep,UG];refine⟨_,rfl,?_⟩;cases tz r.aK f.q.length<;>simp
 let(X,eX,hX,hX2,hX3):=ha;have n1:(((m_ (eB c) r).map (·.num))++(rs++[p]).map (·.number)).Nodup:=by rw[eX,bT,bY];exact List.Perm.nodup (List.Perm.append_left _ List.perm_append_comm) (List.Sublist.nodup ((nW _).append ((nW _).append hX3)) hn)
 let l1:∀x∈((m_ (eB c) r).map (·.num))++(rs++[p]).map (·.number),x<c.opened:=λx hx=>by
  refine Nr x ?_;rw[eX,bT,bY]at hx;rcases aO.mp hx with z|z
  .exact aT _ z
  .rcases aO.mp z with z|z
   .exact aG _ (aG _ (hX3.subset z))
   .exact aG _ (aT _ z)
 have k1:(m_ (eB c) r).length=c.rests.length+if tz r.aK f.q.length then 0 else 1:=by rw[eX,aS,hX]
 generalize hA:m_ (eB c) r=A at n1 l1 k1 eX;let pm:((wb A).map (·.num)).Perm (A.map (·.num)):=(n5 A).map _;have er:(wO (fF c) r p).rests=((wb A).map (yj (eB (fF c)) d r p)).filter nE:=by show ((wb (m_ (eB c) r)).map (yj (eB (fF c)) (eB c).rows.length r p)).filter nE=_;rw[hA,ep,UG]
 have sb:((wO (fF c) r p).rests.map (·.num)).Sublist ((wb A).map (·.num)):=by rw[er];have:=(Wc (p:=nE) (l:=(wb A).map (yj (eB (fF c)) d r p))).map (·.num);rwa [qZ,show ((λx:qo=>x.num) ∘ yj (eB (fF c)) d r p)=(·.num) from funext λm=>MY ..]at this
 have kr:=by have:=sb.length_le;rwa [az,az,(n5 A).length_eq]at this
 refine⟨rs,p,r,e,by rw[hA];exact(eD.mp n1).1,?_,I.ff,I.fa,I.fu,?_,?_,λy hy =>?_,?_,λx hx =>?_,?_,?_,?_,I.op⟩
 .rw[hA,k1];split<;>omega
 .show (eB c).rows.length=_;rw[ep,UG];omega
 .show KR a f.inner (eB c).rows;rw[ep];exact KR.pop (e ▸ I.kr)
 .rw[er]at hy;let(m,hm,rfl):=eE.mp (fc.mp hy).1;let hm:=(n5 A).subset hm;let h2:0<=m.place/\m.place<=d:=by
   rw[eX]at hm;rcases aO.mp hm with z|z
   .have:=I.pl m z;unfold V4 at this;omega
   .rw[(hX2 m z).2];omega
  show 0<=_/\_<((eB c).rows.length:Int);rw[ep,UG];unfold yj;split
  .show 0<=m.place-1/\m.place-1<_;omega
  .omega
 .show (_++(eB c).rows.map (·.number)).Nodup;rw[ep];exact List.Sublist.nodup (sb.append (nW _)) (List.Perm.nodup (pm.symm.append_right _) n1)
 .let hx:x∈(wO (fF c) r p).rests.map (·.num)++(eB c).rows.map (·.number):=hx;rw[ep]at hx;show x<c.opened;exact l1 x ((pm.append_right _).subset ((sb.append (nW _)).subset hx))
 .show ((j+_+Ci _ ((eB c).rows.map (·.aK)):Nat):Int)<=c.opened+1;rw[ep];omega
 .show ((_+(eB c).rows.length:Nat):Int)<=c.opened+1;rw[ep,UG];split at k1<;>omega
 .show c.opened<=c.taken+1;omega
end
variable {f:w8}{m:Nat}
def SI.new:SI f g a ⟨f,2 ^ f.q.length,g,0,0,[rT],[]⟩ 0 0 false:=
 ⟨rfl,rfl,rfl,rfl,⟨λi r e=>by simp at e,λi p r d e=>by simp at e⟩,λy b=>(by cases b),ż,λx c=>by rw[dR.mp c];solve_by_elim,by grind [Ci,oI],Ÿ,VC 0,rfl⟩
end K21
section
set_option maxHeartbeats 1000000
namespace K21
open PySem L2
structure EX(fit:Int->Int->Int)(inner fm:Int)(rows:List dH):Prop where
 xf:∀(i:Nat) (r:dH),rows[i+1]?=some r->r.fits=fit r.named r.atoms
 xh:∀(i:Nat) (p r:dH),rows[i]?=some p->rows[i+1]?=some r->r.fW=yl inner p.fW p.ha (bA r.named fm)/\r.ha=bO p.ha r.fW
 xr:∀(i:Nat) (p r:dH),rows[i]?=some p->rows[i+1]?=some r->r.aK=yl inner p.aK p.ra r.fits/\r.ra=bO p.ra r.aK
 xt:∃x g,rows={ rT with atoms:=x }::g
def Sa(r a:dH):Prop:=a={ r with atoms:=a.atoms,fits:=a.fits }
variable {f:w8}{v:Int}
def NU(W:FW f v c d B C)(h:(bA y (bN x) != 0)=Z_):c n (bO x y)=c n x:=by
 let z:=by simpa using h
 let l:Le (bO x y) x:=λi e=>by
  rw[lq]at e;cases q:tz x i with
  |true=>rfl|false=>
   have:=congrArg (tz · i) z
   grind [fI,rS,lj]
 exact FZ (W.sm _ _).1 (W.sm _ _).1 λi=>by let a:=W.mono n _ _ l i;let b:=W.mono n _ _ (wC x y) i;cases p:tz _ i<;>cases q:tz _ i<;>simp_all
theorem L4(W:FW f v l g B C):∀(p:Nat) (b:Bool) (a:List dH),p<a.length->(∀(i:Nat) (r:dH),a[i+1]?=Y r->(i+1=p->b=Z_)->r.fits=l r.named r.atoms) ->
  ∀(j:Nat) (m:dH),(kf l g b p a)[j]?=Y m->(1<=j->m.fits=l m.named m.atoms)/\∃r,a[j]?=Y r/\Sa r m/\(j=0->m.fits=r.fits)
 | p,Z_,a,s,h,j,m,e=>by
  have z:kf l g Z_ p a=a:=by cases p<;>solve_by_elim
  rw[z]at e;refine⟨λF =>?_,m,e,rfl,λF=>rfl⟩;cases j<;>grind
 |0,Z',a,s,h,j,m,e=>by have z:kf l g Z' 0 a=a:=rfl;refine⟨λF =>?_,m,e,rfl,λF=>rfl⟩;cases j<;>grind
 | p+1,Z',a,s,h,j,m,e=>by
  let u:=ao s;let w:a[p]?=Y _:=ao ž;generalize a[p+1]=r at u;generalize a[p]' Ž=d at w;have z:kf l g Z' (p+1) a=kf l g (bA (g r.named r.atoms) (bN d.atoms) != 0) p (xK l g p r d a):=by show (match a[p+1]?,a[p]? with|some r,Y w=>_|_,_=>_)=_;rw[u,w]
  have t:∀(j:Nat) (b:dH),(xK l g p r d a)[j]?=Y b->∃o,a[j]?=Y o/\Sa o b/\(j=0->b.fits=o.fits)/\(j=p+1->b.fits=l b.named b.atoms)/\(j=p->b={ d with atoms:=bO d.atoms (g r.named r.atoms) })/\(j≠p->j≠p+1->b=o):=λj b c=>by
   unfold xK at c;by_cases x:j=p
   .subst x;rw[a7 (by simp;omega)]at c;cases c;exact⟨d,w,rfl,λF=>rfl,λF=>ž,λF=>rfl,λn=>absurd rfl n⟩
   .rw[au (bQ x)]at c;by_cases y:j=p+1
    .subst y;rw[a7 s]at c;cases c;exact⟨r,u,rfl,λF=>ž,λF=>rfl,λz=>absurd z x,λF n=>absurd rfl n⟩
    .rw[au (bQ y)]at c;exact⟨b,c,rfl,λF=>rfl,λz=>absurd z y,λz=>absurd z x,λF F=>rfl⟩
  rw[z]at e;let(L,o,K,D,J):=L4 W p _ _ (by rw[u_];omega) (λi b c k=>by
   let(o,Q,P,O,N,G,R):=t _ b c;by_cases x:i+1=p
   .let e:=G x;subst e;show d.fits=l d.named (bO d.atoms _);rw[NU W (k x)];exact h i d (by rw[x];exact w) λy=>by omega
   grind) j m e
  let(E,I,A,H,_):=t j o K;refine⟨L,E,I,?_,λq=>(J q).trans (H q)⟩;unfold Sa at D A ⊢;rw[D,A]
def EX.VO(W:FW f v l n B C){rows:List dH}{b:Bool}{p:Nat}(I:p<rows.length)(D:∀(i:Nat) (r:dH),rows[i+1]?=Y r->(i+1=p->b=Z_)->r.fits=l r.named r.atoms)(A:∀(i:Nat) (p r:dH),rows[i]?=Y p->rows[i+1]?=Y r->r.fW=yl c p.fW p.ha (bA r.named h)/\r.ha=bO p.ha r.fW)(z:∃x g,rows={ rT with atoms:=x }::g):
  ∃t g,kf l n b p rows=t::g/\EX l c h (t::hZ c t g):=by
 let S:=L4 W p b rows I D;let(x,Q,R):=z;generalize H:kf l n b p rows=s at S;have P:0<s.length:=by rw[<- H];have:=congrArg tH (we (a:=0) W p b rows).nu;simp only[az]at this;rw[this];lia
 obtain⟨t,g,rfl⟩:∃t g,s=t::g:=by cases s<;>grind
 refine⟨t,g,rfl,?_⟩;let T:∃x,t={ rT with atoms:=x }:=by let(_,r,m,k,L):=S 0 t rfl;rw[R]at m;cases m;unfold Sa at k;rw[L rfl]at k;exact⟨t.atoms,k⟩
 have G:∀(i:Nat) (p r:dH),(t::g)[i]?=Y p->(t::g)[i+1]?=Y r->r.fW=yl c p.fW p.ha (bA r.named h)/\r.ha=bO p.ha r.fW:=λi p r m k=>by let(_,u,K,y,_):=S i p m;let(_,q,J,w,_):=S (i+1) r k;unfold Sa at y w;rw[y,w];exact A i u q K J
 let F:∀(a:Int) (t:dH) (g:List dH) (j:Nat) (d:dH),(hZ a t g)[j]?=Y d->∃r,g[j]?=Y r/\d={ r with aK:=d.aK,ra:=d.ra }:=λa t g=>by
  induction g generalizing t with
  |nil=>intro j d e;simp[hZ]at e
  |cons r g ih=>
   intro j d e;cases j with
   |zero=>cases e;exact⟨r,rfl,rfl⟩|succ j=>exact ih _ j d e
 have o:∀(j:Nat) (d:dH),(t::hZ c t g)[j]?=Y d->∃r,(t::g)[j]?=Y r/\d={ r with aK:=d.aK,ra:=d.ra }:=λj d e=>by
  cases j with|zero=>cases e;exact⟨t,rfl,rfl⟩|succ j=>exact F _ _ _ j d e
 let E:∀(g:List dH) (t:dH) (i:Nat) (p r:dH),(t::hZ c t g)[i]?=Y p->(t::hZ c t g)[i+1]?=Y r->r.aK=yl c p.aK p.ra r.fits/\r.ra=bO p.ra r.aK:=λg=>by
  induction g with
  |nil=>intro t i p r _ e;simp[hZ]at e
  |cons r g ih=>
   intro t i p d m k;cases i with
   |zero=>cases m;cases k;exact⟨rfl,rfl⟩|succ i=>exact ih _ i p d m k
 refine⟨λi r e =>?_,λi p r m k =>?_,E g t,?_⟩
 .let⟨q,a,b⟩:=o (i+1) r e;rw[b];exact(λi r e=>(S (i+1) r e).1 ż) i q a
 .let⟨u,a,b⟩:=o i p m;let(q,O,N):=o (i+1) r k;rw[b,N];exact G i u q a O
 .let⟨x,rfl⟩:=T;exact⟨x,_,rfl⟩
end K21
end
section
set_option maxHeartbeats 1000000
namespace K21
open PySem L2
variable {f:w8}{v:Int}
def qT(f:w8)(c:kq)(t:dH)(g:List dH):List Int:=wd (rG f.inner (2 ^ f.q.length) t g++(c.rests.filter (l5 (t::hZ f.inner t g))).map (·.num))
def SI.RB(I:SI f v n c w d b)(K:c.opened<=60)(e:c.rows=t::g):eQ [cI c]=Y (.lst ((qT f c t g).map D.int),cI (BW c (t::hZ f.inner t g)))/\SI f v n (BW c (t::hZ f.inner t g)) (w+(qT f c t g).length) d b:=by
 let(J,H,p,N):=Mb (k:=f.q.length) g t t (λ_ h=>h) (λ_ h=>h) (e ▸ I.kr);let m:=I.cnt;let l:=I.Ti;rw[e]at m l;rw[a_,oI]at l;rw[bZ]at m;let L:(c.rests.filter (l5 (t::hZ f.inner t g))).length+(c.rests.filter _).length=c.rests.length:=Ea _ _;let s:=AG (c:=c) e (by rw[I.ff];exact J) I.pl (by rw[I.ff,I.fu,aS,az];lia) Ž Ž;rw[I.ff,I.fu]at s;have k:(t::hZ f.inner t g).length=c.rows.length:=by have:=congrArg tH p;rw[az,az]at this;rw[e,bZ,bZ,this]
 let F:(t::hZ f.inner t g).map (·.number)=c.rows.map (·.number):=by rw[e,a_,a_,p]
 have i:((c.rests.filter λr=> !l5 (t::hZ f.inner t g) r).map (·.num)++(t::hZ f.inner t g).map (·.number)).Sublist (c.rests.map (·.num)++c.rows.map (·.number)):=by rw[F];exact((Wc).map _).append (nW _)
 refine⟨s,⟨I.ff,I.fa,I.fu,k.trans I.len,H,λy u =>?_,i.nodup I.nd,λx z=>I.lt x (i.subset z),?_,?_,I.tk,I.op⟩⟩
 .show 0<=y.place/\y.place<(t::hZ f.inner t g).length;rw[k];exact I.pl y (fc.mp u).1
 .show ((w+_+(c.rests.filter _).length+Ci f.q.length (t.aK::(hZ f.inner t g).map (·.aK)):Nat):Int)<=c.opened+1;unfold qT;rw[oI,(lA _).length_eq,aS,az]
  lia
 .show (((c.rests.filter _).length+(t::hZ f.inner t g).length:Nat):Int)<=c.opened+1
  grind
inductive V3 (f:w8) (fit lift:Int->Int->Int) (gV txt:aJ->Int) (c:kq):k9->List Int->kq->Prop
 |cl {L p r}:c.rows=L++[p]++[r]->V3 f fit lift gV txt c .cl [] (wO (fF c) r p)
 |tx {x r t g}:c.rows[c.rows.length-1]?=some r->(kP fit lift (fF c) (txt x) r).rows=t::g->V3 f fit lift gV txt c (.tx x) (qT f c t g) (BW (kP fit lift (fF c) (txt x) r) (t::hZ f.inner t g))
 |op {x r t g}:c.rows.getLast? = some r->(Gx fit lift (fF c) (gV x) r).rows=t::g->V3 f fit lift gV txt c (.op x) (qT f c t g) (BW (Gx fit lift (fF c) (gV x) r) (t::hZ f.inner t g))
theorem WD(W:FW f g a j l k)(I:SI f g a c m d b)(X:EX a f.inner g c.rows)(Z:c.taken<=45)(s:k9)(n:iw (d,b) s=Y (d',b')):
  ∃(q:List Int) (o:kq),gn [cI c,dI s]=Y (.lst (q.map D.int),cI o)/\SI f g a o (m+q.length) d' b'/\o.taken=c.taken+1/\EX a f.inner g o.rows/\V3 f a j l k c s q o:=by
 let N:=I.len;have A:Rb c.f a j:=by rw[I.ff];exact W.ok
 have z:Zk c.f l k:=by rw[I.ff];exact W.st
 let C:=I.tk;let G:=I.cnt;have hw:0<d->decide (1<c.rows.length)=true:=λh=>decide_eq_true ž
 have t:c.rows[c.rows.length-1]?=Y (c.rows[c.rows.length-1]' ž):=ao ž;generalize (c.rows[c.rows.length-1]' ž)=r at t;have E:c.rows.getLast? = Y r:=by rw[LK];exact t
 cases s with
 |cl=>
  by_cases i:0<d
  .simp only[iw,if_pos i,jk,Av]at n;let(rfl,rfl):=n;let(L,p,r,e,K,O,H):=I.close i;refine⟨[],_,Hr (hw i) (by rw[e,VB]) (by show c.rows.dropLast.getLast? = _;rw[e,jm,VB]) K ž,H,rfl,?_,.cl e⟩;show EX a f.inner g c.rows.dropLast;have dl:∀(i:Nat) (r:dH),c.rows.dropLast[i]?=Y r->c.rows[i]?=Y r:=λi r h=>by
    rw[xc,List.getElem?_take]at h;split at h
    .exact h
    .cases h
   refine⟨λi r h=>X.xf i r (dl _ _ h),λi p r B Q=>X.xh i p r (dl _ _ B) (dl _ _ Q),λi p r B Q=>X.xr i p r (dl _ _ B) (dl _ _ Q),?_⟩;let(x,y,S):=X.xt;cases y with
   |nil=>rw[S]at N;simp at N;omega|cons r0 y=>exact⟨x,(r0::y).dropLast,by rw[S];rfl⟩
  .simp[iw,i]at n
 |tx x=>
  by_cases i:0<d
  .simp only[iw,if_pos i,jk,Av]at n;let(rfl,rfl):=n;let J:SI f g a (kP a j (fF c) (k x) r) m d b:=by
    unfold kP;split
    .exact I.tk1.keep (.trans (.atoms W (i:=c.rows.length-1) t _) (we W _ _ _))
    .exact I.tk1
   have y:(kP a j (fF c) (k x) r).opened=c.opened/\(kP a j (fF c) (k x) r).taken=c.taken+1/\(kP a j (fF c) (k x) r).rests=c.rests:=by unfold kP;split<;>exact⟨rfl,rfl,rfl⟩
   let hx:∃P R,(kP a j (fF c) (k x) r).rows=P::R/\EX a f.inner g (P::hZ f.inner P R):=by
    unfold kP;split
    .have T:∀(i:Nat) (u:dH),(c.rows.set (c.rows.length-1) { r with atoms:=bO r.atoms (k x) })[i]?=Y u->(i≠c.rows.length-1/\c.rows[i]?=Y u)\/(i=c.rows.length-1/\u={ r with atoms:=bO r.atoms (k x) }):=λi u h=>by
      by_cases z:c.rows.length-1=i
      .subst z;rw[a7 (by omega)]at h;cases h;exact .inr ⟨rfl,rfl⟩
      .rw[au z]at h;exact .inl ⟨bQ z,h⟩
     refine EX.VO W (rows:=c.rows.set (c.rows.length-1) { r with atoms:=bO r.atoms (k x) }) (by show c.rows.length-1<(c.rows.set _ _).length;rw[vV];omega) (λi u h q =>?_) (λi p u B Q =>?_) ?_
     .rcases T _ _ h with⟨_,h⟩|⟨h,_⟩
      .exact X.xf i u h
      .cases q h
     .rcases T _ _ B with⟨n1,B⟩|⟨n1,rfl⟩
      .rcases T _ _ Q with⟨n2,Q⟩|⟨n2,rfl⟩
       .exact X.xh i p u B Q
       .exact X.xh i p r B (by rw[n2];exact t)
      .exfalso;have:=(ah.mp Q).1;simp at this;omega
     .let⟨x0,U,S⟩:=X.xt;rw[S];cases U with
      |nil=>rw[S]at N;simp at N;omega|cons r0 U=>exact⟨x0,_,rfl⟩
    .let⟨x0,U,S⟩:=X.xt;refine⟨_,U,S,?_⟩;have:kf a j Z_ 0 c.rows=c.rows:=rfl;let(t1,g1,e1,X1):=EX.VO W (rows:=c.rows) (b:=Z_) (p:=0) ž (λi r h V=>X.xf i r h) X.xh X.xt;rw[this,S]at e1;cases e1;exact X1
   let(P,R,e0,X0):=hx;let(e,w):=J.RB (by rw[y.1];omega) e0;have qe:qT f (kP a j (fF c) (k x) r) P R=qT f c P R:=by unfold qT;rw[y.2.2]
   rw[qe]at e w;exact⟨_,_,K0 A z (hw i) t ž e,w,y.2.1,X0,.tx t e0⟩
  .simp[iw,i]at n
 |op x=>
  by_cases i:0<d\/b=Z_
  .simp only[iw,if_pos i,jk,Av]at n;let(rfl,rfl):=n;let F:ND c (.op x)=true:=by
    show (decide (1<c.rows.length) || !decide (0<c.opened))=Z';rcases i with h|h
    .rw[hw h];rfl
    .rw[<- I.op,h,Ly,Rv]
   let hx:∃P R,(Gx a j (fF c) (l x) r).rows=P::R/\EX a f.inner g (P::hZ f.inner P R):=by
    show ∃P R,kf a j Z' ((c.rows++[m9 a (fF c) c.opened (l x) 0 r]).length-1) (c.rows++[m9 a (fF c) c.opened (l x) 0 r])=P::R/\_;have T:∀(i:Nat) (u:dH),(c.rows++[m9 a (fF c) c.opened (l x) 0 r])[i]?=Y u->(i<c.rows.length/\c.rows[i]?=Y u)\/(i=c.rows.length/\u=m9 a (fF c) c.opened (l x) 0 r):=λi u h=>by
     by_cases z:i<c.rows.length
     .rw[aM z]at h;exact .inl ⟨z,h⟩
     .have:=(ah.mp h).1;simp at this;let e:i=c.rows.length:=by omega
      subst e;rw[lh (aI _)]at h;simp at h;exact .inr ⟨rfl,h.symm⟩
    refine EX.VO W ż (λi u h q =>?_) (λi p u B Q =>?_) ?_
    .rcases T _ _ h with⟨_,h⟩|⟨h,rfl⟩
     .exact X.xf i u h
     .rfl
    .rcases T _ _ B with⟨n1,B⟩|⟨n1,rfl⟩
     .rcases T _ _ Q with⟨n2,Q⟩|⟨n2,rfl⟩
      .exact X.xh i p u B Q
      .rw[show i=c.rows.length-1 by omega,t]at B;cases B;let h:(m9 a (fF c) c.opened (l x) 0 r).fW=yl f.inner r.fW r.ha (bA (l x) g):=by show yl c.f.inner r.fW r.ha (bA (l x) c.fm)=_;rw[I.ff,I.fa]
       exact⟨h,rfl⟩
     .exfalso;have:=(ah.mp Q).1;simp at this;omega
    .let⟨x0,U,S⟩:=X.xt;exact⟨x0,U++[m9 a (fF c) c.opened (l x) 0 r],by rw[S];rfl⟩
   let(P,R,e0,X0):=hx;let(e,w):=(I.open W (l x) r).RB (by show c.opened+1<=60;omega) e0;let v:=Gf (x:=bO r.fW (bA r.ha c.f.inner)) (Gf (x:=l x) W.fm);rw[<- I.fa]at v;exact⟨_,_,K1 A z F E ŷ ž e,w,rfl,X0,.op E e0⟩
  simp_all [iw]
end K21
end
namespace K21
open PySem L2 K30
mutual
theorem JF:∀(k:Ak) (n:Nat),dk k<=n->Vr k->uL n (BM k)
 |.mk m b,n,h,l=>by rw[dk]at h;obtain⟨a,rfl⟩:∃a,n=a+1:=⟨n-1,ž⟩;exact⟨_,_,rfl,j4 m,l.1,OI b a ž l.2⟩
theorem OI:∀(k:Cs) (n:Nat),Fx k<=n->LF k->∀c∈x3 k,∃b,c=.lst b/\b.length<=1000/\∀x∈b,uL n x
 |.nil,n,h,l,c,d=>by cases d
 | .cons a r,n,h,l,c,d=>by
  rw[Fx]at h;rcases aV.mp d with rfl|d
  .exact⟨_,rfl,l.1.1,HL a n ž l.1.2⟩
  .exact OI r n ž l.2 c d
theorem HL:∀(k:As) (n:Nat),BA k<=n->Ra k->∀x∈nQ k,uL n x
 |.nil,n,h,l,x,b=>by cases b
 | .cons a r,n,h,l,x,b=>by
  rw[BA]at h;rcases aV.mp b with rfl|b
  .exact JF a n ž l.1
  .exact HL r n ž l.2 x b
end
def Q8{a n:Nat}:(bA (a:Int) (n:Int)==(n:Int))=Z'↔Sb n a:=by
 rw[OE,beq_iff_eq,Int.natCast_inj];constructor
 .intro h i e
  grind
 .intro h;refine pT λi =>?_
  rw[qs];cases e:n.testBit i with
  |false=>simp|true=>rw[h i e];rfl
mutual
theorem zq{a:Nat}:∀(k:Ak) (n:Nat),dk k<=n->(oJ n (BM k) (a:Int)=Z'↔x8 a k)
 |.mk m c,n,h=>by rw[dk]at h;obtain⟨b,rfl⟩:∃b,n=b+1:=⟨n-1,ž⟩;rw[BM,GP,aA,Q8];exact and_congr jH (M4 c b ž)
theorem M4{a:Nat}:∀(k:Cs) (n:Nat),Fx k<=n->((x3 k).all (λc=>match c with|.lst d=>d.any λx=>oJ n x (a:Int)|_=>Z_)=Z'↔vL a k)
 |.nil,n,h=>by solve_by_elim
 |.cons c r,n,h=>by rw[Fx]at h;rw[x3,jt,aA,vL,M4 r n (by omega),M3 c n (by omega)]
theorem M3{a:Nat}:∀(k:As) (n:Nat),BA k<=n->((nQ k).any (λx=>oJ n x (a:Int))=Z'↔Fh a k)
 |.nil,n,h=>by simp[nQ,Fh]
 |.cons x r,n,h=>by rw[BA]at h;rw[nQ,pz,bU,Fh,M3 r n (by omega),zq x n (by omega)]
end
noncomputable def ldI(l:Nat×Ak):Int×D:=((2:Int) ^ l.1,BM l.2)
theorem IT{a:Nat}{f:Int}:∀(L:List (Nat×Ak)) (b:Int),(∀l∈L,dk l.2<=n)->(tz (Cm n f (a:Int) b (L.map ldI)) i=Z'↔tz b i=Z'\/∃l∈L,l.1=i/\tz f i=Z'/\x8 a l.2)
 |[],b,_=>by simp[Cm]
 | l::L,b,h=>by
  show tz (Cm n f a _ (L.map ldI)) i=Z'↔_;rw[IT L _ λx d=>h x (by solve_by_elim),pA];let m:=zq (a:=a) l.2 n (h l aH);by_cases c:tz f l.1=Z'/\oJ n (BM l.2) a=Z'
  .rw[if_pos (by simp_all),lq,rQ]
   grind
  grind
theorem M_{m:Nat}{f:Int}(h:Le a b):∀(c:List (Int×D)) (x y:Int),(∀p∈c,uL m p.2)->Le x y->Le (Cm n f a x c) (Cm n f b y c)
 |[],x,y,_,l=>l| p::c,x,y,k,l=>by
  refine M_ h c _ _ (λq d=>k q Ÿ) ?_;cases e:bA f p.1 != 0 with
  |false=>simpa using l|true=>
   cases g:oJ n p.2 a with|false=>grind [wC]|true=>rw[GO n m p.2 a b (k p aH) h g];exact IV l λ_ h=>h
noncomputable def GJ:As->Nat->Option Ak
 |.nil,_=>M|.cons x _,0=>Y x|.cons _ r,n+1=>GJ r n
noncomputable def m7:Ss->Nat->Option Tp
 |.nil,_=>M|.cons b a w _,0=>Y (b,a,w)|.cons _ _ _ r,n+1=>m7 r n
theorem Jm{a:Nat}:∀(l:As) (k:Nat) (b:Int),BA l<=n->(tz (AN n d (a:Int) k b (nQ l)) i=Z'↔tz b i=Z'\/∃j x,i=k+j/\GJ l j=Y x/\tz d i=Z'/\x8 a x)
 |.nil,k,b,_=>by simp[nQ,AN,GJ]
 | .cons y r,k,b,h=>by
  rw[BA]at h;show tz (AN n d a (k+1) _ _) i=Z'↔_;rw[Jm r _ _ (by lia),pA];let m:=zq (a:=a) y n Ž;have o:(∃j x,i=k+j/\GJ (.cons y r) j=Y x/\tz d i=Z'/\x8 a x)↔(i=k/\tz d i=Z'/\x8 a y)\/∃j x,i=k+1+j/\GJ r j=Y x/\tz d i=Z'/\x8 a x:=by
   constructor
   .rintro⟨j,x,e,f,g⟩;cases j with
    |zero=>cases f;exact .inl ⟨e,g⟩|succ j=>exact .inr ⟨j,x,Ž,f,g⟩
   .rintro(⟨e,g⟩|⟨j,x,e,f,g⟩)
    .exact⟨0,y,ž,rfl,g⟩
    .exact⟨j+1,x,ž,f,g⟩
  rw[o,<- or_assoc];refine or_congr ?_ jH;by_cases c:tz d k=Z'/\oJ n (BM y) a=Z'
  .rw[if_pos (by simp_all),lq,rQ,bU,decide_eq_true_eq];refine or_congr jH ⟨λz =>?_,λz=>z.1.symm⟩;subst z;exact⟨rfl,c.1,m.mp c.2⟩
  grind
mutual
noncomputable def HD:Wi->Bool
 |.any=>Z'|.txt _=>Z'|.has s=>(X_ s).all id|.both w=>(R' w).all id|.one w=>(R' w).any id
noncomputable def R':Ws->List Bool
 |.nil=>[]|.cons w r=>HD w::R' r
noncomputable def X_:Ss->List Bool
 |.nil=>[]|.cons _ _ w r=>HD w::X_ r
end
mutual
theorem JB:∀(w:Wi){f:List Tr},qr w f->HD w=Z'
 |.any,_,_=>rfl|.txt _,_,_=>rfl|.has s,f,h=>X7 s h|.both w,f,h=>X9 w h|.one w,f,h=>X8 w h
theorem X9:∀(w:Ws){f:List Tr},xE w f->(R' w).all id=Z'
 |.nil,_,_=>rfl|.cons w r,f,h=>by rw[R',jt,X9 r h.2];simp[JB w h.1]
theorem X8:∀(w:Ws){f:List Tr},xD w f->(R' w).any id=Z'
 |.nil,_,h=>h.elim|.cons w r,f,h=>by rw[R',pz,bU];exact h.imp (JB w) (X8 r)
theorem X7:∀(s:Ss){E:List Tr->Prop}{f:List Tr},w6 E s f->(X_ s).all id=Z'
 |.nil,_,_,_=>rfl|.cons b a w r,E,f,⟨n,g,_,_,h,l⟩=>by rw[X_,jt,X7 r l];simp[JB w h]
end
def JK{a:List Bool}:gW Z' [.lst (a.map λb =>.bl b)]=Y (.bl (a.all id)):=by
 simp only[gW];rw[if_pos (by simp[jn,cU,KG])];simp[jn,cU,vF];rfl
def Q6{a:List Bool}:gW Z_ [.lst (a.map λb =>.bl b)]=Y (.bl (a.any id)):=by
 simp only[gW];rw[if_pos (by simp[jn,cU,KG])];simp[nV,cU,vF];rfl
def Zf(h:gQ (kS x) (kS k)=Y (.bl b)):dB (e2 gQ (e2 bW (eV 0) u8) (eK (kS k))) [Y (.tup (kS x::r))]=Y b:=by
 let e:e2 bW (eV 0) u8 [Y (.tup (kS x::r))]=Y (kS x):=by show n9 _ (0:Nat)=_;unfold n9;rw[uy (by simp)];rfl
 let c:e2 gQ (e2 bW (eV 0) u8) (eK (kS k)) [Y (.tup (kS x::r))]=gQ (kS x) (kS k):=by show (e2 bW _ _ _).bind _=_;rw[e];rfl
 unfold dB;rw[c,h];rfl
def Ow(h:gQ (kS x) (kS k)=Y (.bl Z_)):gk (dB (e2 gQ (e2 bW (eV 0) u8) (eK (kS k)))) g eI [Y (.tup (kS x::r))]=Y (.nx [Y (.tup (kS x::r))]):=by
 rw[Qs (Zf h)];rfl
def chf{f:DL}{a:List D}(h:f b=Y a)(l:a.length<=1000)(k:rA [M] (gN 0) gU e a=Y r):mx f [M] (gN 0) gU e b=Y r:=by
 unfold mx;rw[h];simp only[ai];rw[if_pos (cW (K21.iV (by omega)))];exact k
def uH{F:DF}(h:t a=Y Z')(k:F a=Y d):(aU (gk t (iy F) eI) g a).bind sW=Y d:=by
 unfold aU gk;rw[h];unfold iy;rw[k];rfl
mutual
theorem CY:∀(w:Wi) (m:Nat),pI w<=m->oW w<=900->dJ m [qv w]=Y (.bl (HD w))
 |w,0,h,_=>by cases w<;>simp[pI]at h
 |.any,m+1,_,_=>by solve_by_elim
 |.txt t,m+1,_,_=>by solve_by_elim
 | .has s,m+1,h,z=>by
  show (jQ (dJ m) [Y _]).bind sW=_;rw[pI]at h;rw[oW]at z;let ih:=Sd s m ž ž;let a:=Ih s;generalize dJ m=F at *
  unfold jQ;refine uH (Zf ź) ?_;rw[K21.uI (chf rfl (by omega) ih),JK];rfl
 | .both w,m+1,h,z=>by
  show (jQ (dJ m) [Y (.tup [kS "both",.lst (uZ w)])]).bind sW=_;rw[pI]at h;rw[oW]at z;let ih:=Ox w m ž ž;let a:=uY w;generalize dJ m=F at *
  unfold jQ;rw[aB (Ow (by kernel_rfl))];refine uH (Zf ź) ?_;rw[K21.uI (chf rfl (by omega) ih),JK];rfl
 | .one w,m+1,h,z=>by
  show (jQ (dJ m) [Y (.tup [kS "one",.lst (uZ w)])]).bind sW=_;rw[pI]at h;rw[oW]at z;let ih:=Ox w m ž ž;let a:=uY w;generalize dJ m=F at *
  unfold jQ;rw[aB (Ow (by kernel_rfl)),aB (Ow (by kernel_rfl))];refine uH (Zf ź) ?_;rw[K21.uI (chf rfl (by omega) ih),Q6];rfl
theorem Ox:∀(w:Ws) (m:Nat),Fv w<=m->xJ w<=900->rA [M] (gN 0) gU (aW (dJ m) Tl) (uZ w)=Y ((R' w).map λb =>.bl b)
 |.nil,_,_,_=>rfl|.cons w r,m,h,z=>by rw[Fv]at h;rw[xJ]at z;exact tp rfl (CY w m ž ž) (Ox r m ž ž)
theorem Sd:∀(s:Ss) (m:Nat),uE s<=m+1->uc s<=900->rA [M] (gN 0) gU (aW (dJ m) Rs) (hV s)=Y ((X_ s).map λb =>.bl b)
 |.nil,_,_,_=>rfl|.cons b a w r,m,h,z=>by rw[uE]at h;rw[uc]at z;exact tp rfl (CY w m ž ž) (Sd r m ž ž)
end
end K21
section
set_option maxHeartbeats 1000000
namespace K21
open PySem L2
structure TW(ns:List Nd):Prop where
 par:∀(k:Nat) (n:Nd),ns[k]?=some n -> -1<=n.par/\n.par<k
 EB:∀(k:Nat) (n:Nd),ns[k]?=some n->∀j∈n.kd,∃i m,j=((i:Nat):Int)/\k<i/\ns[i]?=some m/\m.par=k
 back:∀(j:Nat) (m:Nd),ns[j]?=some m->∀k:Nat,m.par=k->∃n,ns[k]?=some n/\(j:Int)∈n.kd
 nd:∀(k:Nat) (n:Nd),ns[k]?=some n->n.kd.Nodup
 tx:∀(k:Nat) (n:Nd),ns[k]?=some n->∀t∈n.tx,∃s,t=.str s
noncomputable def He:List Nat->Int
 |[]=> -1|k::_=>k
def xC(a:List Nd):List Nat->Prop
 |[]=>True|k::st=>(∃n,a[k]?=Y n/\n.par=He st)/\xC a st
inductive Ts:List Nd->List Nat->k9->List Nd->List Nat->Prop
 |TN {ns x}:Ts ns [] (.op x) (ns++[xo x (-1)]) [ns.length]
 |op {ns:List Nd}{k n st x}:ns[k]?=some n->Ts ns (k::st) (.op x) (ns.set k { n with kd:=n.kd++[(ns.length:Int)] }++[xo x k]) (ns.length::k::st)
 |tx {ns:List Nd}{k n st x}:ns[k]?=some n->Ts ns (k::st) (.tx x) (ns.set k { n with tx:=n.tx++[.str x] }) (k::st)
 |cl {ns:List Nd}{k st}:Ts ns (k::st) .cl ns st
def qS(a b:List Nd):Prop:=∀(k:Nat) (n:Nd),a[k]?=Y n->∃m,b[k]?=Y m/\m.nm=n.nm/\m.par=n.par/\(∀t∈n.tx,t∈m.tx)/\∀j∈n.kd,j∈m.kd
def qS.refl(a:List Nd):qS a a:=λk n e=>⟨n,e,rfl,rfl,λ_ h=>h,λ_ h=>h⟩
def qS.trans{a c:List Nd}(h:qS a b)(g:qS b c):qS a c:=λk n e=>by
 let(m,f,u,s,r,q):=h k n e;let(o,d,p,l,j,i):=g k m f
 simp_all
def r9{l:List a}(h:(l++[x])[i]?=Y y):l[i]?=Y y\/(i=l.length/\x=y):=by
 by_cases z:i<l.length
 .rw[aM z]at h;exact .inl h
 .have:=(ah.mp h).1;simp at this;let e:i=l.length:=by lia
  subst e;simp at h;exact .inr ⟨rfl,h⟩
def yP{l:List a}{z:a}{k:Nat}(e:l[k]?=Y z)(h:(l.set k x)[i]?=Y y):(i=k/\y=x)\/(i≠k/\l[i]?=Y y):=by
 by_cases c:k=i
 .subst c;rw[a7 (ah.mp e).1]at h;cases h;exact .inl ⟨rfl,rfl⟩
 .rw[au c]at h;exact .inr ⟨bQ c,h⟩
def Kb{l:List a}(e:l[k]?=Y z):(l.set k x)[k]?=Y x:=a7 (ah.mp e).1
def qm{a:Type}{l m:List a}{x:a}{i:Nat}(h:l[i]?=Y x):(l++m)[i]?=Y x:=by rw[aM (ah.mp h).1];exact h
def yk{l:List a}(h:l[i]?=Y x):i<l.length:=(ah.mp h).1
def Ts.sub{g a:List Nd}{i d:List Nat}{s:k9}(h:Ts g i s a d):qS g a:=by
 cases h with
 |TN=>exact λk n e=>⟨n,qm e,rfl,rfl,λ_ h=>h,λ_ h=>h⟩
 |@op f j _ x b=>
  intro k n e;by_cases c:k=f
  .subst c;rw[b]at e;cases e;exact⟨_,qm (Kb b),rfl,rfl,λ_ h=>h,λ_ h=>aT _ h⟩
  .exact⟨n,qm (by rw[au (bQ c)];exact e),rfl,rfl,λ_ h=>h,λ_ h=>h⟩
 |@tx f j _ x b=>
  intro k n e;by_cases c:k=f
  .subst c;rw[b]at e;cases e;exact⟨_,Kb b,rfl,rfl,λ_ h=>aT _ h,λ_ h=>h⟩
  .exact⟨n,by rw[au (bQ c)];exact e,rfl,rfl,λ_ h=>h,λ_ h=>h⟩
 |cl=>exact .refl _
theorem xC.up(h:qS a b):∀ {st},xC a st->xC b st
 |[],_=>trivial|k::st,⟨⟨n,e,p⟩,o⟩=>by let(m,c,_,q,_):=h k n e;exact⟨⟨m,c,q.trans p⟩,xC.up h o⟩
def Ts.WZ{s:k9}(h:Ts d c s b a)(O:xC d c):xC b a:=by
 let u:=xC.up h.sub O;cases h with
 |TN=>exact⟨⟨_,by simp;solve_by_elim,rfl⟩,trivial⟩
 |op e=>exact⟨⟨_,by simp;rfl,rfl⟩,u⟩
 |tx e=>exact u|cl=>exact u.2
def Ts.keep{c:List Nd}{s:k9}(h:Ts c d s b a)(e:k<c.length)(n:k∉d):b[k]?=c[k]? /\k∉a:=by
 cases h with
 |TN=>exact⟨aM e,by simp;omega⟩
 |op f=>simp at n;refine⟨?_,by simp;exact⟨ž,n⟩⟩;rw[aM (by simp_all),au (bQ n.1)]
 |tx f=>exact⟨by rw[au];simp_all;grind,n⟩
 |cl=>simp_all
def Ts.tw{f B:List Nd}{L I:List Nat}{s:k9}(h:Ts f L s B I)(T:TW f):TW B:=by
 cases h with
 |@TN x=>
  refine⟨λk n e =>?_,λk n e =>?_,λj m e k q =>?_,λk n e =>?_,λk n e =>?_⟩
  .rcases r9 e with e|⟨rfl,rfl⟩
   .exact T.par k n e
   .exact⟨VC _,by show (-1:Int)<_;omega⟩
  .rcases r9 e with e|⟨rfl,rfl⟩
   .intro j v;let(i,m,a,b,c,d):=T.EB k n e j v;exact⟨i,m,a,b,qm c,d⟩
   .intro j v;cases v
  .rcases r9 e with e|⟨rfl,rfl⟩
   .let⟨n,a,b⟩:=T.back j m e k q;exact⟨n,qm a,b⟩
   .let q:(-1:Int)=k:=q;omega
  .rcases r9 e with e|⟨rfl,rfl⟩
   .exact T.nd k n e
   .exact Lv
  .rcases r9 e with e|⟨rfl,rfl⟩
   .exact T.tx k n e
   .intro t C;cases C
 |@op l u H x w=>
  let P:=yk w;have E:∀ {k:Nat}{n:Nd},(f.set l { u with kd:=u.kd++[(f.length:Int)] }++[xo x l])[k]?=Y n->(k=l/\n={ u with kd:=u.kd++[(f.length:Int)] })\/(k≠l/\f[k]?=Y n)\/(k=f.length/\n=xo x l):=fun {k n} e=>by
   rcases r9 e with e|⟨a,b⟩
   .rcases yP w e with e|e
    .exact .inl e
    .exact .inr (.inl e)
   .exact .inr (.inr ⟨by simpa using a,b.symm⟩)
  have A:∀ {k:Nat}{n:Nd},f[k]?=Y n->∃m,(f.set l { u with kd:=u.kd++[(f.length:Int)] }++[xo x l])[k]?=Y m/\m.par=n.par/\∀j∈n.kd,j∈m.kd:=fun {k n} e=>by
   by_cases c:k=l
   .subst c;rw[w]at e;cases e;exact⟨_,qm (Kb w),rfl,λj h=>aT _ h⟩
   .exact⟨n,qm (by rw[au (bQ c)];exact e),rfl,λj h=>h⟩
  refine⟨λk n e =>?_,λk n e =>?_,λj m e k q =>?_,λk n e =>?_,λk n e =>?_⟩
  .rcases E e with⟨rfl,rfl⟩|⟨_,e⟩|⟨rfl,rfl⟩
   .exact T.par _ u w
   .exact T.par _ _ e
   .exact⟨by show (-1:Int)<=l;omega,by show (l:Int)<_;omega⟩
  .have y:∀ {n:Nd},f[k]?=Y n->∀j∈n.kd,∃i m,j=((i:Nat):Int)/\k<i/\(f.set l { u with kd:=u.kd++[(f.length:Int)] }++[xo x l])[i]?=Y m/\m.par=k:=fun {n} e j v=>by let(i,m,a,b,c,d):=T.EB k n e j v;let(F,z,G,_):=A c;exact⟨i,F,a,b,z,G.trans d⟩
   rcases E e with⟨rfl,rfl⟩|⟨_,e⟩|⟨rfl,rfl⟩
   .intro j v;rcases aO.mp v with v|v
    .exact y w j v
    .exact⟨f.length,xo x k,by simpa using v,P,ż,rfl⟩
   .exact y e
   .intro j v;cases v
  .have y:∀ {m:Nd},f[j]?=Y m->m.par=k->∃n,(f.set l { u with kd:=u.kd++[(f.length:Int)] }++[xo x l])[k]?=Y n/\(j:Int)∈n.kd:=fun {m} e q=>by let(n,a,b):=T.back j m e k q;let(F,z,_,K):=A a;exact⟨F,z,K _ b⟩
   rcases E e with⟨rfl,rfl⟩|⟨_,e⟩|⟨rfl,rfl⟩
   .exact y w q
   .exact y e q
   .let q:(l:Int)=k:=q;have:l=k:=by omega
    subst this;exact⟨_,qm (Kb w),aG _ ż⟩
  .rcases E e with⟨rfl,rfl⟩|⟨_,e⟩|⟨rfl,rfl⟩
   .refine eD.mpr ⟨T.nd _ _ w,ż,λa O b N =>?_⟩;let(i,m,e,_,c,_):=T.EB _ _ w a O;have:=yk c;simp at N;omega
   .exact T.nd _ _ e
   .exact Lv
  .rcases E e with⟨rfl,rfl⟩|⟨_,e⟩|⟨rfl,rfl⟩
   .exact T.tx _ u w
   .exact T.tx _ _ e
   .intro t C;cases C
 |@tx l u H x w=>
  have A:∀ {k:Nat}{n:Nd},f[k]?=Y n->∃m,(f.set l { u with tx:=u.tx++[.str x] })[k]?=Y m/\m.par=n.par/\m.kd=n.kd:=fun {k n} e=>by
   by_cases c:k=l
   .subst c;rw[w]at e;cases e;exact⟨_,Kb w,rfl,rfl⟩
   .exact⟨n,by rw[au (bQ c)];exact e,rfl,rfl⟩
  have D:∀ {k:Nat}{n:Nd},(f.set l { u with tx:=u.tx++[.str x] })[k]?=Y n->∃m,f[k]?=Y m/\n.par=m.par/\n.kd=m.kd/\∀t∈n.tx,t∈m.tx\/t=.str x:=fun {k n} e=>by
   rcases yP w e with⟨rfl,rfl⟩|⟨_,e⟩
   .exact⟨u,w,rfl,rfl,λt h=>by simpa using h⟩
   .exact⟨n,e,rfl,rfl,λt h =>.inl h⟩
  refine⟨λk n e =>?_,λk n e j v =>?_,λj m e k q =>?_,λk n e =>?_,λk n e t C =>?_⟩
  .let⟨m,a,b,c,_⟩:=D e;rw[b];exact T.par _ _ a
  .let⟨m,a,b,c,_⟩:=D e;rw[c]at v;let(i,o,p,q,r,s):=T.EB _ _ a j v;let(J,z,G,_):=A r;exact⟨i,J,p,q,z,G.trans s⟩
  .let⟨F,a,b,c,_⟩:=D e;let(n,d,g):=T.back _ _ a k (b.symm.trans q);let(J,z,G,K):=A d;exact⟨J,z,by rw[K];exact g⟩
  .let⟨m,a,b,c,_⟩:=D e;rw[c];exact T.nd _ _ a
  .let⟨m,a,b,c,d⟩:=D e;rcases d t C with h|h
   .exact T.tx _ _ a t h
   simp_all
 |cl=>exact T
end K21
end
section
set_option maxHeartbeats 1000000
namespace K21
open PySem L2
structure WH(lift:Int->Int->Int)(gV txt:aJ->Int)(ns:List Nd)(AW:Nat->Int):Prop where
 tw:TW ns
 mono:∀n a b,Le a b->Le (lift n a) (lift n b)
 a1:∀(k:Nat) n,ns[k]?=some n->∀t,D.str t∈n.tx->Le (txt t) (AW k)
 a2:∀(k:Nat) n,ns[k]?=some n->∀(j:Nat) m,(j:Int)∈n.kd->ns[j]?=some m->Le (lift (gV m.nm) (AW j)) (AW k)
 a3:∀(k:Nat) n x,ns[k]?=some n->(∀t,D.str t∈n.tx->Le (txt t) x)->(∀(j:Nat) m,(j:Int)∈n.kd->ns[j]?=some m->Le (lift (gV m.nm) (AW j)) x)->Le (AW k) x
noncomputable def bd(AW:Nat->Int)(z:Int):Int:=if 0<=z then AW z.toNat else -1
def OD(AW:Nat->Int)(k:Nat):bd AW k=AW k:=by simp[bd]
def Xf(x:Int):Le x (-1):=λi a=>by simp[tz,bN,pV]
def RL(h:Le x z)(g:Le y z):Le (bO x y) z:=λi e=>by
 rw[lq,bU]at e;exact e.elim (h i) (g i)
def GW(x y:Int):Le y (bO x y):=λi e=>by rw[lq,e,Rv]
def vo(h:Le x y)(g:Le y z):Le x z:=λi e=>g i (h i e)
def IU(h:(bA y (bN x) != 0)=Z_):Le (bO x y) x:=λi e=>by
 rw[lq]at e;cases q:tz x i with
 |true=>rfl|false=>
  let z:=by simpa using h
  have:=congrArg (tz · i) z
  grind [fI,rS,lj]
theorem L5{fit lift:Int->Int->Int}(v:∀n a b,Le a b->Le (lift n a) (lift n b))(X:Nat->Int):∀(p:Nat) (b:Bool) (a:List dH),p<a.length ->
  (∀(i:Nat) (q r:dH),a[i]?=Y q->a[i+1]?=Y r->(i+1=p->b=Z_)->Le (lift r.named r.atoms) q.atoms) ->
  (∀(i:Nat) (r:dH),a[i]?=Y r->Le r.atoms (X i))->(∀(i:Nat) (r:dH),a[i+1]?=Y r->Le (lift r.named (X (i+1))) (X i)) ->
  (∀(i:Nat) (q r:dH),(kf fit lift b p a)[i]?=Y q->(kf fit lift b p a)[i+1]?=Y r->Le (lift r.named r.atoms) q.atoms) /\
  ∀(j:Nat) (m:dH),(kf fit lift b p a)[j]?=Y m->∃r,a[j]?=Y r/\Sa r m/\Le r.atoms m.atoms/\Le m.atoms (X j)
 | p,Z_,a,s,h,u,x=>by
  have z:kf fit lift Z_ p a=a:=by cases p<;>rfl
  rw[z];exact⟨λi q r e g=>h i q r e g λ_=>rfl,λj m e=>⟨m,e,rfl,λ_ h=>h,u j m e⟩⟩
 |0,Z',a,s,h,u,x=>⟨λi q r e g=>h i q r e g (λz=>by cases z),λj m e=>⟨m,e,rfl,λ_ h=>h,u j m e⟩⟩
 | p+1,Z',a,s,h,u,x=>by
  let y:=ao s;let C:a[p]?=Y _:=ao ž;generalize a[p+1]=r at y;generalize a[p]' ž=d at C;have z:kf fit lift Z' (p+1) a=kf fit lift (bA (lift r.named r.atoms) (bN d.atoms) != 0) p (xK fit lift p r d a):=by show (match a[p+1]?,a[p]? with|some r,Y w=>_|_,_=>_)=_;rw[y,C]
  have t:∀(j:Nat) (b:dH),(xK fit lift p r d a)[j]?=Y b->(j=p/\b={ d with atoms:=bO d.atoms (lift r.named r.atoms) })\/(j=p+1/\b={ r with fits:=fit r.named r.atoms })\/(j≠p/\j≠p+1/\a[j]?=Y b):=λj b c=>by
   unfold xK at c;rcases yP (k:=p) (z:=d) (by rw[au (by omega)];exact C) c with c|⟨n,c⟩
   .exact .inl c
   .rcases yP y c with c|c
    .exact .inr (.inl c)
    .exact .inr (.inr ⟨n,c⟩)
  have H:Le (lift r.named r.atoms) (X p):=vo (v _ _ _ (u _ _ y)) (x p r y);rw[z];let(A,B):=L5 (fit:=fit) v X p (bA (lift r.named r.atoms) (bN d.atoms) != 0) (xK fit lift p r d a) (by rw[u_];omega) (λi q w f g k=>by
   rcases t _ _ f with⟨rfl,rfl⟩|⟨rfl,rfl⟩|⟨G,F,f⟩
   .rcases t _ _ g with⟨n,_⟩|⟨_,rfl⟩|⟨_,n,_⟩
    .omega
    .exact GW _ _
    .omega
   .rcases t _ _ g with⟨n,_⟩|⟨n,_⟩|⟨_,n,g⟩
    .omega
    .omega
    .exact h _ r _ y g λn=>by omega
   .rcases t _ _ g with⟨n,rfl⟩|⟨n,rfl⟩|⟨_,n,g⟩
    .exact vo (v _ _ _ (IU (k n))) (h i q d f (by rw[n];exact C) λn=>ž)
    .omega
    .exact h _ _ _ f g λn=>ž) (λi w f=>by
   rcases t _ _ f with⟨rfl,rfl⟩|⟨rfl,rfl⟩|⟨G,F,f⟩
   .exact RL (u _ _ C) H
   .exact u _ r y
   .exact u _ _ f) (λi w f=>by
   rcases t _ _ f with⟨n,rfl⟩|⟨n,rfl⟩|⟨G,F,f⟩
   .exact x i d (by rw[n];exact C)
   .exact x i r (by rw[n];exact y)
   .exact x i w f)
  refine⟨A,λj m e =>?_⟩;let(o,I,D,l,E):=B j m e;rcases t _ _ I with⟨rfl,rfl⟩|⟨rfl,rfl⟩|⟨G,F,f⟩
  .exact⟨d,C,by unfold Sa at D ⊢;rw[D],vo (wC _ _) l,E⟩
  .exact⟨r,y,by unfold Sa at D ⊢;rw[D],l,E⟩
  .exact⟨o,f,D,l,E⟩
noncomputable def mw(st:List Nat):List Int:= -1::st.reverse.map λk:Nat=>(k:Int)
theorem yi{us:List Nd}:∀ {st:List Nat},xC us st->∀(i:Nat) (a b:Int),(mw st)[i]?=Y a->(mw st)[i+1]?=Y b->∃(j:Nat) (n:Nd),b=j/\us[j]?=Y n/\n.par=a
 |[],_,i,a,b,e,g=>by simp[mw]at g
 | k::st,⟨⟨n,e0,p⟩,O⟩,i,a,b,e,g=>by
  have z:mw (k::st)=mw st++[(k:Int)]:=by simp[mw]
  rw[z]at e g;rcases r9 g with g|⟨h,rfl⟩
  .have:i<(mw st).length:=by have:=yk g;omega
   rw[aM this]at e;exact yi O i a b e g
  .refine⟨k,n,rfl,e0,?_⟩;have l:(mw st).length=st.length+1:=by simp[mw]
   have:i=st.length:=by omega
   subst this;rw[p];cases st with
   |nil=>simpa [mw,He] using e|cons k' qD=>simpa [mw,He] using e
structure R0(lift:Int->Int->Int)(gV txt:aJ->Int)(AW:Nat->Int)(us:List Nd)(st:List Nat)(rows:List dH):Prop where
 num:rows.map (·.number)=mw st
 Qc:∀r∈rows,∀(k:Nat) n,r.number=k->us[k]?=some n->r.named=gV n.nm
 up:∀r∈rows,Le r.atoms (bd AW r.number)
 l1:∀r∈rows,∀(k:Nat) n,r.number=k->us[k]?=some n->∀t,D.str t∈n.tx->Le (txt t) r.atoms
 l2:∀r∈rows,∀(k:Nat) n,r.number=k->us[k]?=some n->∀(j:Nat) m,(j:Int)∈n.kd->j∉st->us[j]?=some m->Le (lift (gV m.nm) (AW j)) r.atoms
def L3(lift:Int->Int->Int)(rows:List dH):Prop:=∀(i:Nat) (q r:dH),rows[i]?=Y q->rows[i+1]?=Y r->Le (lift r.named r.atoms) q.atoms
section
variable {fit lift:Int->Int->Int}{gV txt:aJ->Int}{AW:Nat->Int}{ns us:List Nd}{st:List Nat}{rows:List dH}
def R0.Uh{f:List dH}(h:R0 lift gV txt AW us st rows)(l:f.length=rows.length)(g:∀(j:Nat) (m:dH),f[j]?=Y m->∃r,rows[j]?=Y r/\m.number=r.number/\m.named=r.named/\Le r.atoms m.atoms/\Le m.atoms (bd AW r.number)):R0 lift gV txt AW us st f:=by
 have s:∀m∈f,∃r∈rows,m.number=r.number/\m.named=r.named/\Le _ _/\Le _ _:=λm i=>by let(j,w,e):=dN.mp i;let(r,u,z):=g j m (by rw[ao w,e]);exact⟨r,cD u,z⟩
 refine⟨?_,λm i k n e q =>?_,λm i =>?_,λm i k n e q t v =>?_,λm i k n e q j o a b c =>?_⟩
 .rw[<- h.num];refine Dp λj =>?_
  rw[aR,aR];cases e:f[j]? with
  |none=>
   have:rows[j]?=none:=by rw[i8]at e ⊢;lia
   rw[this]
  |some m=>let⟨r,u,z,_⟩:=g j m e;rw[u,cS,cS,z]
 .let⟨r,p,a,b,_⟩:=s m i;rw[b];exact h.Qc r p k n (a ▸ e) q
 .let⟨r,p,a,b,c,d⟩:=s m i;rw[a];exact d
 .let⟨r,p,a,b,c,d⟩:=s m i;exact vo (h.l1 r p k n (a ▸ e) q t v) c
 .let⟨r,p,y,A,x,d⟩:=s m i;exact vo (h.l2 r p k n (y ▸ e) q j o a b c) x
def iF{rows:List dH}{l:List Int}(h:rows.map (·.number)=l){i:Nat}{r:dH}(e:rows[i]?=Y r):l[i]?=Y r.number:=by rw[<- h,aR,e];rfl
set_option tactic.hygienic true
def R0.VO(H:WH lift gV txt ns AW)(h:R0 lift gV txt AW us st rows)(O:xC us st)(S:qS us ns){p:Nat}(hp:p<rows.length)(l:∀(i:Nat) (q r:dH),rows[i]?=Y q->rows[i+1]?=Y r->(i+1=p->Z'=Z_)->Le (lift r.named r.atoms) q.atoms):R0 lift gV txt AW us st (kf fit lift Z' p rows)/\L3 lift (kf fit lift Z' p rows)/\(kf fit lift Z' p rows).length=rows.length:=by
 have ln:∀(p:Nat) (b:Bool) (a:List dH),(kf fit lift b p a).length=a.length:=λp=>by
  induction p with
  |zero=>intro b a;cases b<;>solve_by_elim
  |succ p ih=>
   intro b a;cases b with
   |false=>rfl|true=>
    unfold kf;split
    .rw[ih,u_]
    .rfl
 let(A,B):=L5 (fit:=fit) H.mono (λj=>match rows[j]? with|some r=>bd AW r.number|none=>0) p Z' rows hp l (λi r e=>by simp only[e];exact h.up r (cD e)) (λi r e=>by
  have hi:i<rows.length:=by have:=yk e;omega
  let e':=ao hi;generalize rows[i]=q at e';simp only[e,e'];let(j,n,ej,en,pn):=yi O i _ _ (iF h.num e') (iF h.num e);rw[ej,OD,h.Qc r (cD e) j n ej en];unfold bd;split
  .rename_i c;let(m,em,nm,pm,_):=S j n en;let ck:q.number=(q.number.toNat:Int):=by omega
   let(o,eo,ko):=H.tw.back j m em q.number.toNat ŷ;rw[<- nm];exact H.a2 _ _ eo j m ko em
  .exact Xf _)
 refine⟨h.Uh (ln _ _ _) λj m e =>?_,A,ln _ _ _⟩;let(r,er,sa,a,b):=B j m e;simp only[er]at b;exact⟨r,er,by rw[sa],by rw[sa],a,b⟩
end
end K21
end
section
set_option maxHeartbeats 1000000
namespace K21
open PySem L2
theorem DV(a:Int):∀(g:List dH) (t:dH) (j:Nat) (d:dH),(hZ a t g)[j]?=Y d->∃r,g[j]?=Y r/\d={ r with aK:=d.aK,ra:=d.ra }
 |[],t,j,d,e=>by solve_by_elim
 |r::g,t,0,d,e=>by cases e;exact Ÿ
 |r::g,t,j+1,d,e=>DV a g _ j d e
def s_(a:Int)(g:List dH)(t:dH)(j:Nat)(d:dH)(e:(t::hZ a t g)[j]?=Y d):∃r,(t::g)[j]?=Y r/\d={ r with aK:=d.aK,ra:=d.ra }:=by
 cases j with|zero=>simp_all|succ j=>exact DV a g t j d e
section
variable {f:w8}{fit lift:Int->Int->Int}{gV txt:aJ->Int}{AW:Nat->Int}{ns us Dr:List Nd}{st qD:List Nat}{rows:List dH}{s:k9}{c c':kq}
def R0.set{t:dH}(a:Int)(h:R0 lift gV txt AW us st (t::g))(l:L3 lift (t::g)):R0 lift gV txt AW us st (t::hZ a t g)/\L3 lift (t::hZ a t g):=by
 refine⟨h.Uh (by simp[yO]) λj m e =>?_,λi q r k f =>?_⟩
 .let⟨r,b,d⟩:=s_ a g t j m e;have:=h.up r (cD b);exact⟨r,b,by rw[d],by rw[d],ŷ,by rw[d];exact this⟩
 .let⟨c,s,o⟩:=s_ a g t i q k;let(r',p,n):=s_ a g t _ r f;rw[o,n];exact l i c r' s p
def Ts.back(h:Ts us st s Dr qD)(d:s ≠ .cl){k:Nat}{b:Nd}(e:Dr[k]?=Y b):(∃n,us[k]?=Y n/\b.nm=n.nm/\(∀t,D.str t∈b.tx->D.str t∈n.tx\/(s=.tx t/\He st=k))/\∀j∈b.kd,j∈n.kd\/(j=us.length/\us.length∈qD))\/(k=us.length/\s=.op b.nm/\b.tx=[]/\b.kd=[]):=by
 cases h with
 |TN=>
  rcases r9 e with e|⟨rfl,rfl⟩
  .exact .inl ⟨b,e,rfl,λt h =>.inl h,λj h =>.inl h⟩
  .exact .inr ⟨rfl,rfl,rfl,rfl⟩
 |op c=>
  rcases r9 e with e|⟨a,rfl⟩
  .rcases yP c e with⟨rfl,rfl⟩|⟨_,e⟩
   .exact .inl ⟨_,c,rfl,λt h =>.inl h,λj h=>by
     rcases aO.mp h with h|h
     .exact .inl h
     .exact .inr ⟨Ż,ż⟩⟩
   .exact .inl ⟨b,e,rfl,λt h =>.inl h,λj h =>.inl h⟩
  .exact .inr ⟨Ż,rfl,rfl,rfl⟩
 |tx c=>
  rcases yP c e with⟨rfl,rfl⟩|⟨_,e⟩
  .exact .inl ⟨_,c,rfl,λt h=>by
    rcases aO.mp h with h|h
    .exact .inl h
    .right;simp at h
     solve_by_elim,λj h =>.inl h⟩
  simp_all
 |cl=>simp_all
theorem Gw(T:TW us):∀ {st:List Nat}{k:Nat},xC us (k::st)->∀j∈st,j<k
 |[],k,_,j,h=>by cases h
 | i::st,k,⟨⟨n,e,p⟩,O⟩,j,h=>by
  let a:=(T.par k n e).2;rw[p]at a;let a:(i:Int)<k:=a;rcases aV.mp h with rfl|h
  .lia
  .have:=Gw T O j h;lia
def Ei{r:dH}{L:List dH}(e:(L++[r]).map (·.number)=mw (k::st)):r.number=k/\L.map (·.number)=mw st:=by
 have z:mw (k::st)=mw st++[(k:Int)]:=by simp[mw]
 simp_all
def R0.full(H:WH lift gV txt ns AW)(h:R0 lift gV txt AW us st rows)(T:TW us)(O:xC us st){c:List Nat}(u:st=k::c)(d:ns[k]?=us[k]?)(S:qS us ns){r:dH}(e:r∈rows)(f:r.number=k):Le (AW k) r.atoms:=by
 subst u;let q:=Gw T O;obtain⟨⟨n,b,_⟩,_⟩:=O;refine H.a3 k n _ (d.trans b) (λt s=>h.l1 r e k n f b t s) λj m g v =>?_
 let(i,o,y,x,l,_):=T.EB k n b j g;have:j=i:=by lia
 subst this;let(w,a,p,_):=S j o l;rw[v]at a;cases a;rw[p];refine h.l2 r e k n f b j o g (λz =>?_) l;rcases aV.mp z with z|z
 .omega
 .have:=q j z;omega
set_option tactic.hygienic true
def Mo(H : WH lift gV txt ns AW)(h : R0 lift gV txt AW us st c.rows)(l : L3 lift c.rows)(T : TW us)(O : xC us st)(t : Ts us st s Dr qD)(S : qS Dr ns)(op : c.opened = us.length)(nd : (c.rows.map (·.number)).Nodup)(P : V3 f fit lift gV txt c s q c')(dn : ∀k LY,s = .cl -> st = k :: LY -> ns[k]? = us[k]?): R0 lift gV txt AW Dr qD c'.rows /\ L3 lift c'.rows /\ c'.opened = Dr.length := by
  let S0 : qS us ns := t.sub.trans S
  let O' := t.WZ O
  cases P with
  |@cl L p r e =>
    cases t with
    |@cl k =>
      let er : (wO (fF c) r p).rows = L ++ [p] := by show c.rows.dropLast = _; rw [e,jm]
      rw [er]
      let hn := h.num
      rw [e]at hn
      let(rk,pn):=Ei hn
      have sub : ∀x ∈ L ++ [p],x ∈ c.rows := λx hx => by rw [e]; exact aT _ hx
      have rm : r ∈ c.rows := by rw [e]; simp
      let fu := h.full H T O rfl (dn _ _ rfl rfl) S0 rm rk
      refine⟨⟨pn,λx hx => h.Qc x (sub x hx),λx hx => h.up x (sub x hx),λx hx => h.l1 x (sub x hx),λx hx i n ei en j m hj nj em => ?_⟩,λi a b ea eb => l i a b (by rw [e]; exact qm ea) (by rw [e]; exact qm eb),op⟩
      by_cases z : j = k
      . subst z
        let(i',m',q1,q2,q3,q4):=T.EB i n en j hj
        have : j = i' := by omega
        subst this
        rw [em]at q3; cases q3
        obtain ⟨⟨m2,em2,pm⟩,_⟩ := O
        rw [em]at em2; cases em2
        let lp : Le (lift r.named r.atoms) p.atoms := l L.length p r (by rw [e]; simp) (by rw [e]; simp)
        let xp : x.number = p.number := by
          have w : (mw qD)[L.length]? = Y p.number := by rw [<- pn]; simp
          let w2 : (mw qD)[L.length]? = Y (He qD) := by
            have ll : L.length = qD.length := by have := congrArg tH pn; simp [mw]at this; exact this
            rw [ll]
            cases qD with|nil => simp [mw,He]|cons a b => simp [mw,He]
          rw [w]at w2
          rw [ei,<- q4,pm,cB w2]
        let xe : x = p := by
          let(a,ha,e1):=dN.mp (sub x hx)
          let(b,hb,e2):=dN.mp (sub p ż)
          have : a = b := by
            refine (List.getElem_inj (h₀ := by simpa using ha) (h₁ := by simpa using hb) nd).mp ?_
            simp only [List.getElem_map]
            rw [e1,e2,xp]
          subst this
          rw [<- e1,e2]
        rw [xe]
        rw [h.Qc r rm j m rk em]at lp
        exact vo (H.mono _ _ _ fu) lp
      . exact h.l2 x (sub x hx) i n ei en j m hj (λy => (aV.mp y).elim z nj) em
  |@tx x r P R e0 e1 =>
    cases t with
    |@tx k n0 LY _ en0 =>
      let t : Ts us (k :: LY) (.tx x) _ _ := .tx en0
      have ln : (c.rows.map (·.number)).length = (mw (k :: LY)).length := by rw [h.num]
      have hl : c.rows.length = LY.length + 2 := by simpa [mw] using ln
      have rn : r.number = k := by
        have := iF h.num e0
        rw [hl]at this
        simpa [mw] using this.symm
      have rm := cD e0
      let(m0,em0,nm0,_,tx0,_):=S k _ (Kb en0)
      have tU : Le (txt x) (AW k) := H.a1 k m0 em0 x (tx0 _ ż)
      have Fz : ∀ {y : dH} {i : Nat} {n : Nd},y ∈ c.rows -> y.number = i -> (us.set k { n0 with tx := n0.tx ++ [.str x] })[i]? = Y n -> (y.named = gV n.nm) /\ (∀u,D.str u ∈ n.tx -> Le (txt u) y.atoms \/ (u = x /\ i = k)) /\ ∀(j : Nat) m,(j : Int) ∈ n.kd -> j ∉ k :: LY -> (us.set k { n0 with tx := n0.tx ++ [.str x] })[j]? = Y m -> Le (lift (gV m.nm) (AW j)) y.atoms := fun {y i n} hy ei en => by
        rcases t.back ż en with⟨n1,a,b,c1,d⟩ | ⟨_,z,_⟩
        . refine⟨by rw [b]; exact h.Qc y hy i n1 ei a,λu hu => ?_,λj m hj nj em => ?_⟩
          . rcases c1 u hu with g | ⟨g,g'⟩
            . exact .inl (h.l1 y hy i n1 ei a u g)
            . cases g
              have g' : (k : Int) = i := g'
              exact .inr ⟨rfl,ž⟩
          . rcases t.back ż em with⟨m1,a',b',_⟩ | ⟨_,z,_⟩
            . rw [b']
              rcases d j hj with g | ⟨g,g'⟩
              . exact h.l2 y hy i n1 ei a j m1 g nj a'
              . exact absurd (by have : j = us.length := by omega
                                 rw [this]; exact g') nj
            . cases z
        . cases z
      have mk : ∀D2 : List dH,D2.length = c.rows.length -> (∀(j : Nat) (m : dH),D2[j]? = Y m -> ∃y,c.rows[j]? = Y y /\ m.number = y.number /\ m.named = y.named /\ Le y.atoms m.atoms /\ Le m.atoms (bd AW y.number) /\ (y.number = k -> Le (txt x) m.atoms)) -> R0 lift gV txt AW (us.set k { n0 with tx := n0.tx ++ [.str x] }) (k :: LY) D2 := λD2 l1 g => by
        have g' : ∀m ∈ D2,∃y ∈ c.rows,m.number = y.number /\ m.named = y.named /\ Le y.atoms m.atoms /\ Le m.atoms (bd AW y.number) /\ (y.number = k -> Le (txt x) m.atoms) := λm hm => by
          let(j,hj,e):=dN.mp hm
          let(y,ey,z):=g j m (by rw [ao hj,e])
          exact⟨y,cD ey,z⟩
        refine⟨(h.Uh l1 λj m e => (by let(y,a,b,c2,d,e2,_):=g j m e; exact⟨y,a,b,c2,d,e2⟩)).num,λm hm i n ei en => ?_,λm hm => ?_,λm hm i n ei en u hu => ?_,λm hm i n ei en j o hj nj eo => ?_⟩
        . let(y,hy,a,b,_):=g' m hm
          rw [b]; exact (Fz hy (a ▸ ei) en).1
        . let(y,hy,a,b,c2,d,_):=g' m hm
          rw [a]; exact d
        . let(y,hy,a,b,c2,d,w):=g' m hm
          rcases (Fz hy (a ▸ ei) en).2.1 u hu with z | ⟨rfl,rfl⟩
          . exact vo z c2
          . exact w (a ▸ ei)
        . let(y,hy,a,b,c2,d,w):=g' m hm
          exact vo ((Fz hy (a ▸ ei) en).2.2 j o hj nj eo) c2
      have vR : R0 lift gV txt AW (us.set k { n0 with tx := n0.tx ++ [.str x] }) (k :: LY) (kP fit lift (fF c) (txt x) r).rows /\ L3 lift (kP fit lift (fF c) (txt x) r).rows := by
        unfold kP
        split
        . let A := mk (c.rows.set (c.rows.length - 1) { r with atoms := bO r.atoms (txt x) }) ż λj m e => by
            rcases yP e0 e with⟨rfl,rfl⟩ | ⟨nj,e⟩
            . exact⟨r,e0,rfl,rfl,wC _ _,RL (h.up r rm) (by rw [rn,OD]; exact tU),λ_ => GW _ _⟩
            . refine⟨m,e,rfl,rfl,λ_ h => h,h.up m (cD e),λz => ?_⟩
              exfalso
              let a1 := iF rfl e
              let a2 := iF rfl e0
              rw [z]at a1; rw [rn]at a2
              exact nj ((Dm (yk a1) nd).mp (a1.trans a2.symm))
          have B := A.VO (fit := fit) H O' S (p := (c.rows.set (c.rows.length - 1) { r with atoms := bO r.atoms (txt x) }).length - 1) (by simp; omega) λi q w f1 f2 ni => by
            rcases yP e0 f2 with⟨z,_⟩ | ⟨z,f2⟩
            . exfalso; have := ni (by simp; omega); cases this
            . rcases yP e0 f1 with⟨z',rfl⟩ | ⟨z',f1⟩
              . have := yk f2; omega
              . exact l i q w f1 f2
          let zz : (fF c).rows.length - 1 = (c.rows.set (c.rows.length - 1) { r with atoms := bO r.atoms (txt x) }).length - 1 := by simp [fF]
          show R0 _ _ _ _ _ _ (kf fit lift Z' ((fF c).rows.length - 1) (c.rows.set (c.rows.length - 1) _)) /\ L3 _ (kf fit lift Z' ((fF c).rows.length - 1) (c.rows.set (c.rows.length - 1) _))
          rw [zz]
          exact⟨B.1,B.2.1⟩
        . rename_i z
          let z : (bA (txt x) (bN r.atoms) != 0) = Z_ := by simpa using z
          refine⟨mk _ rfl λj m e => ⟨m,e,rfl,rfl,λ_ h => h,h.up m (cD e),λw => ?_⟩,l⟩
          let a1 := iF rfl e
          let a2 := iF rfl e0
          rw [w]at a1; rw [rn]at a2
          have := (Dm (yk a1) nd).mp (a1.trans a2.symm)
          let e : c.rows[j]? = Y m := e
          rw [this,e0]at e; cases e
          exact vo (GW _ _) (IU z)
      rw [e1]at vR
      let(A,B):=vR.1.set f.inner vR.2
      refine⟨A,B,?_⟩
      show (kP fit lift (fF c) (txt x) r).opened = _
      rw [show (kP fit lift (fF c) (txt x) r).opened = c.opened by unfold kP; split <;> rfl,op,vV]
  |@op x r P R e0 e1 =>
    let t0 := t
    have VN : qD = us.length :: st := by cases t <;> rfl
    have ul : Dr.length = us.length + 1 := by cases t <;> simp
    have olt : ∀j ∈ st,j < us.length := by
      have : ∀ {st : List Nat},xC us st -> ∀j ∈ st,j < us.length := fun {st} => by
        induction st with
        |nil => intro _ j h; cases h
        |cons a b ih =>
          rintro ⟨⟨n,e,_⟩,O⟩ j h
          rcases aV.mp h with rfl |h
          . exact yk e
          . exact ih O j h
      exact this O
    subst VN
    have nw : Dr[us.length]? = Y (xo x (He st)) := by cases t <;> simp [He]
    have key : ∀ {y : dH},y ∈ c.rows -> ∀ {i : Nat} {n : Nd},y.number = i -> Dr[i]? = Y n -> ∃n1,us[i]? = Y n1 /\ n.nm = n1.nm /\ (∀u,D.str u ∈ n.tx -> D.str u ∈ n1.tx) /\ ∀j ∈ n.kd,j ∈ n1.kd \/ (j = us.length /\ us.length ∈ us.length :: st) := fun {y} hy {i n} ei en => by
      rcases t0.back ż en with⟨n1,a,b,c1,d⟩ | ⟨z,_⟩
      . exact⟨n1,a,b,λu hu => (c1 u hu).elim id λw => (by cases w.1),d⟩
      . exfalso
        let m : y.number ∈ mw st := by rw [<- h.num]; exact qw hy
        rcases aV.mp m with m |m
        . omega
        . let(w,hw,ew):=eE.mp m
          have := olt w (List.mem_reverse.mp hw)
          let ew : (w : Int) = y.number := ew
          omega
    let A : R0 lift gV txt AW Dr (us.length :: st) (c.rows ++ [m9 fit (fF c) c.opened (gV x) 0 r]) := by
      let bn : (m9 fit (fF c) c.opened (gV x) 0 r).number = (us.length : Int) := op
      have two : ∀ {y : dH},y ∈ c.rows ++ [m9 fit (fF c) c.opened (gV x) 0 r] -> y ∈ c.rows \/ y = m9 fit (fF c) c.opened (gV x) 0 r := fun {y} hy => by simpa using hy
      refine⟨?_,λy hy i n ei en => ?_,λy hy => ?_,λy hy i n ei en u hu => ?_,λy hy i n ei en j o hj nj eo => ?_⟩
      . rw [bT,h.num,a_,Rt,bn]; simp [mw]
      . rcases two hy with hy |rfl
        . let(n1,a,b,_):=key hy ei en
          rw [b]; exact h.Qc y hy i n1 ei a
        . rw [bn]at ei
          have : i = us.length := by omega
          subst this
          rw [nw]at en; cases en; rfl
      . rcases two hy with hy |rfl
        . exact h.up y hy
        . exact yy _
      . rcases two hy with hy |rfl
        . let(n1,a,b,c1,_):=key hy ei en
          exact h.l1 y hy i n1 ei a u (c1 u hu)
        . rw [bn]at ei
          have : i = us.length := by omega
          subst this
          rw [nw]at en; cases en; cases hu
      . rcases two hy with hy |rfl
        . let(n1,a,b,c1,d):=key hy ei en
          rcases d j hj with g | ⟨g,g'⟩
          . rcases t0.back ż eo with⟨o1,a',b',_⟩ | ⟨z,_⟩
            . rw [b']
              exact h.l2 y hy i n1 ei a j o1 g (λz => nj (aZ _ z)) a'
            . exact absurd (by rw [z]; simp) nj
          . exact absurd (by have : j = us.length := by omega
                             rw [this]; simp) nj
        . rw [bn]at ei
          have : i = us.length := by omega
          subst this
          rw [nw]at en; cases en; cases hj
    have ap : ∀ {i : Nat} {u : dH},(c.rows ++ [m9 fit (fF c) c.opened (gV x) 0 r])[i]? = Y u -> c.rows[i]? = Y u \/ i = c.rows.length := fun {i u} e => (r9 e).imp id And.left
    have B := A.VO (fit := fit) H O' S (p := (c.rows ++ [m9 fit (fF c) c.opened (gV x) 0 r]).length - 1) ż λi q w f1 f2 ni => by
      rcases ap f2 with f2 |z
      . rcases ap f1 with f1 |z
        . exact l i q w f1 f2
        . have := yk f2; omega
      simp_all
    let e1 : kf fit lift Z' ((c.rows ++ [m9 fit (fF c) c.opened (gV x) 0 r]).length - 1) (c.rows ++ [m9 fit (fF c) c.opened (gV x) 0 r]) = P :: R := e1
    rw [e1]at B
    let(A,B):=B.1.set f.inner B.2.1
    refine⟨A,B,?_⟩
    show c.opened + 1 = _
    simp_all
end
end K21
end
section
set_option maxHeartbeats 1000000
namespace K21
open PySem L2
def BU(x:Int)(i:Nat):tz (x/2) i=tz x (i+1):=by
 unfold tz;by_cases h:0<=x
 .grind
 .rw[if_neg h,if_neg (by lia)];let e:∀y,bN y = -y-1:=λy=>by solve_by_elim
  rw[e,e,show (-(x/2)-1).toNat=(-x-1).toNat/2 by omega,Nat.testBit_add_one]
def DB:x≠0↔∃i,tz x i=true:=by
 constructor
 .intro h;by_cases p:0<=x
  .have:x.toNat≠0:=by omega
   simp_all [Nat.exists_testBit_of_ne_zero,tz,if_pos]
  .exact⟨_,by unfold tz;rw[if_neg p,Nat.testBit_lt_two_pow Nat.lt_two_pow_self];rfl⟩
 .rintro⟨i,h⟩ rfl
  simp_all [lj]
inductive JT (ns:List Nd):Int->Int->Prop
 |refl (a:Int):JT ns a a
 |up {z:Int}{j:Nat}{n:Nd}{a:Int}:z=j->ns[j]?=some n->JT ns n.par a->JT ns z a
def Rc(ns:List Nd)(inner:Int)(F:Nat->Nat->Prop):Nat->Int->Prop
 |0,z=>z = -1|p+1,z=>∃(k:Nat) (n:Nd),z=k/\ns[k]?=Y n/\F k p/\(Rc ns inner F p n.par\/(tz inner p=Z'/\∃a,JT ns n.par a/\Rc ns inner F p a))
section
variable {f:w8}{fit lift:Int->Int->Int}{gV txt:aJ->Int}{AW:Nat->Int}{ns us Dr:List Nd}{st qD:List Nat}{rows:List dH}{s:k9}{c c':kq}{fm inner:Int}{F:Nat->Nat->Prop}
theorem Fc{L:List Int}(P:∀(i:Nat) (a b:Int),L[i]?=Y a->L[i+1]?=Y b->∃(j:Nat) (n:Nd),b=j/\ns[j]?=Y n/\n.par=a)(f:L[0]?=Y (-1)):∀(i:Nat) (z a:Int),L[i]?=Y z->(JT ns z a↔∃j,j<=i/\L[j]?=Y a)
 | 0,z,a,e=>by
  rw[f]at e;cases e;constructor
  .intro h;cases h with
   |refl=>exact⟨0,aI _,f⟩|up q=>omega
  .rintro⟨j,s,e⟩;have:j=0:=by omega
   subst this;rw[f]at e;cases e;exact .refl _
 | i+1,z,a,e=>by
  have o:i<L.length:=by have:=yk e;omega
  let l:=ao o;let(j,n,p,k,g):=P i _ _ l e;let ih:=Fc P f i _ a l;constructor
  .intro h;cases h with
   |refl=>exact⟨i+1,aI _,e⟩|@up _ m r _ q d h=>
    have:m=j:=by omega
    subst this;rw[k]at d;cases d;rw[g]at h;let(w,hw,c):=ih.mp h;exact⟨w,ž,c⟩
  .rintro⟨w,hw,c⟩;by_cases q:w=i+1
   .subst q;rw[e]at c;cases c;exact .refl _
   .exact .up p k (by rw[g];exact ih.mpr ⟨w,ž,c⟩)
def IF(O:xC us st)(S:qS us ns)(i:Nat)(a b:Int)(h:(mw st)[i]?=Y a)(g:(mw st)[i+1]?=Y b):∃(j:Nat) (n:Nd),b=j/\ns[j]?=Y n/\n.par=a:=by
 let(j,n,e,c,p):=yi O i a b h g;let(m,d,_,q,_):=S j n c;exact⟨j,m,e,d,q.trans p⟩
def B7(O:xC us st)(S:qS us ns){i:Nat}{a b:Int}{p:Nat}(h:(mw st)[i]?=Y a)(g:(mw st)[i+1]?=Y b):Rc ns inner F (p+1) b↔F b.toNat p/\(Rc ns inner F p a\/(tz inner p=Z'/\∃(j:Nat) (z:Int),j<=i/\(mw st)[j]?=Y z/\Rc ns inner F p z)):=by
 let(j,n,e,q,o):=IF O S i a b h g;have A:=Fc (IF O S) rfl i a;rw[Rc];constructor
 .rintro⟨k,m,u,r,c,d⟩;have:k=j:=by omega
  subst this;rw[q]at r;cases r;rw[o]at d;refine⟨Ż,d.imp id λ⟨t,z,s,f⟩=>⟨t,?_⟩⟩;let(w,hw,l):=(A z h).mp s;exact⟨w,z,hw,l,f⟩
 .rintro⟨c,d⟩;refine⟨j,n,e,q,Ż,?_⟩;rw[o];exact d.imp id λ⟨t,w,z,hw,l,f⟩=>⟨t,z,(A z h).mpr ⟨w,hw,l⟩,f⟩
def rR:tz 1 p=Z'↔p=0:=by
 have:=rQ 0 p
 grind
def LP{f:Int}:tz (yl b p a f) i=Z'↔∃j,i=j+1/\(tz p j=Z'\/(tz a j=Z'/\tz b j=Z'))/\tz f j=true:=by
 unfold yl;rw[LQ,fI,lq,fI];cases i with
 |zero=>simp|succ i=>simp
structure RV(fit:Int->Int->Int)(gV:aJ->Int)(ns:List Nd)(AW:Nat->Int)(fm:Int)(F:Nat->Nat->Prop):Prop where
 fk:∀(k:Nat) n p,ns[k]?=some n->(F k p↔tz (fit (gV n.nm) (AW k)) p=true)
 ab:∀(k:Nat) n p,ns[k]?=some n->F k p->tz (gV n.nm) p=true/\tz fm p=true
 mono:∀n a b,Le a b->Le (fit n a) (fit n b)
def R0.fq(V:RV fit gV ns AW fm F)(h:R0 lift gV txt AW us st rows)(X:EX fit inner fm rows)(O:xC us st)(S:qS us ns){i:Nat}{r:dH}(e:rows[i+1]?=Y r):∃(k:Nat) (n:Nd),r.number=k/\ns[k]?=Y n/\r.named=gV n.nm/\(∀p,tz r.fits p=Z'->F k p)/\(Le (AW k) r.atoms->∀p,F k p->tz r.fits p=Z'):=by
 let l:i<rows.length:=by grind
 refine af λkk =>?_
 let(j,n,c,f,_):=yi O i _ _ (iF h.num (ao l)) (iF h.num e);let(m,b,d,_):=S j n f;have a:=h.Qc r (cD e) j n c f;let u:=h.up r (cD e);rw[c]at u;let x:=X.xf i r e;rw[a,<- d]at x;exact kk (⟨j,m,c,b,by rw[a,d],λp t=>(V.fk j m p b).mpr (V.mono _ _ _ u p (x ▸ t)),λg p t=>x ▸ V.mono _ _ _ g p ((V.fk j m p b).mp t)⟩)
theorem yZ(V:RV fit gV ns AW fm F)(h:R0 lift gV txt AW us st rows)(X:EX fit inner fm rows)(O:xC us st)(S:qS us ns):∀(i:Nat) (r:dH),rows[i]?=Y r->(∀p,tz r.aK p=Z'->Rc ns inner F p r.number)/\(∀p,tz r.ra p=Z'↔∃(j:Nat) (o:dH),j<=i/\rows[j]?=Y o/\tz o.aK p=Z')
 | 0,r,e=>by
  let(x,g,q):=X.xt;rw[q]at e;cases e;let z:∀p,tz ({ rT with atoms:=x }:dH).aK p=Z'↔p=0:=λp=>rR
  refine⟨λp t =>?_,λp=>⟨λt=>⟨0,_,aI _,by rw[q];rfl,t⟩,?_⟩⟩
  .rw[(z p).mp t];rfl
  .rintro⟨j,o,b,a,t⟩;have:j=0:=by omega
   subst this;rw[q]at a;cases a;exact t
 | i+1,r,e=>by
  have m:i<rows.length:=by have:=yk e;omega
  let c:=ao m;let(A,B):=yZ V h X O S i _ c;let(d,f):=X.xr i _ r c e;let(k,n,w,y,_,s,_):=h.fq V X O S e;refine⟨λp t =>?_,λp =>?_⟩
  .rw[d,LP]at t;let(q,rfl,t,u):=t;rw[B7 O S (iF h.num c) (iF h.num e)];refine⟨Ż,t.imp (A q) λ⟨t,v⟩=>⟨v,?_⟩⟩;let(j,o,b,a,l):=(B q).mp t;exact⟨j,o.number,b,iF h.num a,(yZ V h X O S j o a).1 q l⟩
  .rw[f,lq,bU,B];constructor
   .rintro(⟨j,o,b,z⟩|t)
    .exact⟨j,o,ž,z⟩
    .exact⟨i+1,r,aI _,e,t⟩
   .rintro⟨j,o,b,a,t⟩;by_cases q:j=i+1
    .subst q;rw[e]at a;cases a;exact .inr t
    .exact .inl ⟨j,o,ž,a,t⟩
termination_by i=>i
theorem Cw(V:RV fit gV ns AW fm F)(h:R0 lift gV txt AW us st rows)(X:EX fit inner fm rows)(O:xC us st)(S:qS us ns):∀(i:Nat) (r:dH),rows[i]?=Y r->(∀p,Rc ns inner F p r.number->tz r.fW p=Z')/\(∀p (j:Nat) (z:Int),j<=i->(mw st)[j]?=Y z->Rc ns inner F p z->tz r.ha p=Z')
 | 0,r,e=>by
  let(x,g,q):=X.xt;rw[q]at e;cases e;have z:∀p,Rc ns inner F p (-1)->p=0:=λp t=>by
   cases p with
   |zero=>rfl|succ p=>let⟨k,n,e,_⟩:=t;omega
  refine⟨λp t =>?_,λp j w c D t =>?_⟩
  .exact rR.mpr (z p t)
  .have:j=0:=by omega
   subst this;cases D;exact rR.mpr (z p t)
 | i+1,r,e=>by
  have C:i<rows.length:=by have:=yk e;omega
  let f:=ao C;let(A,B):=Cw V h X O S i _ f;let(s,u):=X.xh i _ r f e;let(k,n,m,E,y,_,_):=h.fq V X O S e;have o:∀p,Rc ns inner F p r.number->tz r.fW p=true:=λp t=>by
   cases p with
   |zero=>rw[m]at t;exact absurd t (by show ¬(k:Int) = -1;omega)
   |succ p=>
    let⟨l,d⟩:=(B7 O S (iF h.num f) (iF h.num e)).mp t;rw[m]at l;let(H,G):=V.ab k n p E l;rw[s,LP];refine⟨p,rfl,d.imp (A p) λ⟨v,j,z,c,a,b⟩=>⟨B p j z c a b,v⟩,?_⟩
    simp_all [fI]
  refine⟨o,λp j z c a b =>?_⟩;rw[u,lq,bU];by_cases q:j=i+1
  .subst q;rw[iF h.num e]at a;simp_all
  .exact .inl (B p j z ž a b)
end
end K21
end
section
set_option maxHeartbeats 1000000
namespace K21
open PySem L2
def RS(Q:Nat->Int->Prop)(m:Nat)(L:List Int)(y:qo):Prop:=
 Q m y.num↔(∃p z,tz y.Z p=Z'/\L[y.place.toNat]?=Y z/\Q p z)\/∃p j z,tz y.around p=Z'/\j<=y.place.toNat/\L[j]?=Y z/\Q p z
def NH(a:List dH)(y:qo):Prop:=∀o,a[y.place.toNat]?=Y o->(∀p,tz y.Z p=Z'->tz o.aK p=Z_)/\∀p,tz y.around p=Z'->tz o.ra p=Z_
structure TJ(Q:Nat->Int->Prop)(m:Nat)(L:List Int)(rows:List dH)(rests:List qo)(T:List Int)(opened:Int):Prop where
 t1:∀x∈T,Q m x
 t2:∀r∈rows,tz r.aK m=true->r.number∈T
 t3:∀k:Nat,(k:Int)<opened->Q m k->(k:Int)∈L\/(k:Int)∈T\/∃y∈rests,y.num=k
 rs:∀y∈rests,y.place.toNat<L.length/\RS Q m L y
 nh:∀y∈rests,NH rows y
 lv:∀y∈rests,nE y=true/\∀o,rows[y.place.toNat]?=some o->Le y.Z o.fW/\Le y.around o.ha
section
variable {Q:Nat->Int->Prop}{m:Nat}{L L1:List Int}{c:kq}{T:List Int}
set_option tactic.hygienic true in
def Qa{g:List dH}:∀ {t:dH},x∈rG a (2 ^ m) t g->∃d∈hZ a t g,d.number=x/\tz d.aK m=true:=by
 induction g with
 |nil=>exact λh=>(oZ h).elim
 |cons r g i=>
  intro t h;rcases aO.mp h with h|h
  .split at h
   .rename_i z;simp at h;unfold zN at z;rw[pA,fI,aA]at z;exact⟨_,aH,h.symm,z.1⟩
   .cases h
  .let⟨d,b,z⟩:=i h;exact⟨d,aZ _ b,z⟩
def P_{d:dH}{g:List dH}:∀ {t:dH},d∈hZ a t g->tz d.aK m=Z'->d.number∈rG a (2 ^ m) t g\/∃r∈g,r.number=d.number/\tz r.aK m=true:=by
 induction g with
 |nil=>exact λh=>(oZ h).elim
 |cons r g i=>
  intro t h e;rw[rG];rcases aV.mp h with rfl|h
  .by_cases z:tz r.aK m=Z'
   .exact .inr ⟨r,ż,rfl,z⟩
   .left;rw[if_pos]
    .simp[qz]
    .unfold zN;rw[pA,fI,aA];exact⟨e,by simp_all [rS]⟩
  .rcases i h e with h|⟨c,a,b⟩
   .exact .inl (aG _ h)
   .exact .inr ⟨c,aZ _ a,b⟩
def Jb{r:dH}{y:qo}:Hc r y=Z'↔(∃p,tz r.aK p=Z'/\tz y.Z p=Z')\/∃p,tz r.ra p=Z'/\tz y.around p=true:=by
 have e:∀a b,(bA a b != 0)=Z'↔∃p,tz a p=Z'/\tz b p=true:=λa b=>by rw[bne_iff_ne,DB];simp only[fI,aA]
 rw[bU,e,e]
def RS.up(h:∀(j:Nat) z,L[j]?=Y z->L1[j]?=Y z){y:qo}(l:y.place.toNat<L.length)(r:RS Q m L y):RS Q m L1 y:=by
 have b:∀(j:Nat) z,j<=y.place.toNat->(L1[j]?=Y z↔L[j]?=Y z):=λj z a=>by let e:=ao (Nat.lt_of_le_of_lt a l);rw[h j _ e,e]
 unfold RS at r ⊢;rw[r];refine or_congr ?_ ?_
 .refine exists_congr λp=>exists_congr λz =>?_
  rw[b _ _ (aI _)]
 .refine exists_congr λp=>exists_congr λj=>exists_congr λz =>?_
  constructor
  .rintro⟨x,a,e,q⟩;exact⟨x,a,(b j z a).mpr e,q⟩
  .rintro⟨x,a,e,q⟩;exact⟨x,a,(b j z a).mp e,q⟩
set_option tactic.hygienic true in
def TJ.Ph{f b:List dH}{s:List qo}{R A:Int}{T' q:List Int}{a:Int}{t:dH}{g:List dH}(J:TJ Q m L f s T R)(I:∀(j:Nat) z,L[j]?=Y z->L1[j]?=Y z)(U:b=t::hZ a t g)(num:b.map (·.number)=L1)
  (F:∀(i:Nat) (r:dH),b[i]?=Y r->(∀p,tz r.aK p=Z'->Q p r.number)/\(∀p,tz r.ra p=Z'↔∃(j:Nat) (o:dH),j<=i/\b[j]?=Y o/\tz o.aK p=Z'))
  (B:∀r∈t::g,tz r.aK m=Z'->r.number∈T) (H:∀x,x∈T'↔x∈T\/x∈q) (O:∀x,x∈q↔x∈rG a (2 ^ m) t g\/∃y∈s,l5 b y=Z'/\y.num=x) (ho:∀k:Nat,(k:Int)<A->(k:Int)<R\/(k:Int)∈L1) (hl:L.length=f.length) (hp:∀(j:Nat) W o,f[j]?=Y W->b[j]?=Y o->o.fW=W.fW/\o.ha=W.ha):TJ Q m L1 b (s.filter λy=> !l5 b y) T' A:=by
 let K:∀r∈b,∀p,tz r.aK p=Z'->Q p r.number:=λr w=>by let(i,P,e):=dN.mp w;exact(F i r (by rw[ao P,e])).1
 refine⟨λx u =>?_,λr w e =>?_,λk C hQ =>?_,λy c =>?_,λy c o v =>?_,λy c =>?_⟩
 .rcases(H x).mp u with u|u
  .exact J.t1 x u
  .rcases(O x).mp u with u|⟨y,c,G,rfl⟩
   .let⟨d,hd,rfl,z⟩:=Qa u;exact K d (by rw[U];exact aZ _ hd) m z
   .let⟨l,r⟩:=J.rs y c;unfold l5 at G;split at G
    .rename_i o v;refine(r.up I l).mpr ?_;rcases Jb.mp G with⟨p,E,D⟩|⟨p,E,D⟩
     .exact .inl ⟨p,o.number,D,iF num v,(F _ o v).1 p E⟩
     .let⟨j,S,hj,e',t'⟩:=((F _ o v).2 p).mp E;exact .inr ⟨p,j,S.number,D,hj,iF num e',(F _ S e').1 p t'⟩
    .cases G
 .rw[U]at w;rw[H];rcases aV.mp w with rfl|w
  .exact .inl (B r ż e)
  .rcases P_ w e with h|⟨r',N,n,z⟩
   .exact .inr ((O _).mpr (.inl h))
   .rw[<- n];exact .inl (B r' (aZ _ N) z)
 .rcases ho k C with C|C
  .rcases J.t3 k C hQ with h|h|⟨y,c,e⟩
   .left;let(i,P,e):=dN.mp h;exact cD (I i _ (by rw[ao P,e]))
   .exact .inr (.inl ((H _).mpr (.inl h)))
   .by_cases z:l5 b y=Z'
    .exact .inr (.inl ((H _).mpr (.inr ((O _).mpr (.inr ⟨y,c,z,e⟩)))))
    .exact .inr (.inr ⟨y,fc.mpr ⟨c,by simpa using z⟩,e⟩)
  .exact .inl C
 .have c:=(fc.mp c).1;let(l,r):=J.rs y c;exact⟨by have:=yk (I _ _ (ao l));exact this,r.up I l⟩
 .have z:=(fc.mp c).2;have z:¬Hc o y=true:=by unfold l5 at z;rw[v]at z;simpa using z
  rw[Jb]at z;refine⟨λp h =>?_,λp h =>?_⟩
  .cases e:tz o.aK p with|false=>rfl|true=>exact absurd (.inl ⟨p,e,h⟩) z
  .cases e:tz o.ra p with|false=>rfl|true=>exact absurd (.inr ⟨p,e,h⟩) z
 .have c:=(fc.mp c).1;refine⟨(J.lv y c).1,λo v =>?_⟩;have l:=(J.rs y c).1;rw[hl]at l;let X:=ao l;let(E,D):=hp _ _ o X v;rw[E,D];exact(J.lv y c).2 _ X
def RS.mv{y:qo}{r k:dH}{F:Nat->Prop}{f a:Int}(h:RS Q m (L++[f]) y)(N:L.length=d+1)(I:y.place.toNat=L.length)(A:L[d]?=Y a)(q0:¬Q 0 f)(B:∀p,Q (p+1) f↔F p/\(Q p a\/(tz c.f.inner p=Z'/\∃(j:Nat) (z:Int),j<=d/\L[j]?=Y z/\Q p z)))(E:∀p,tz r.fits p=Z'↔F p)(J:∀p,Q p a->tz k.fW p=Z')(C:∀p (j:Nat) (z:Int),j<=d->L[j]?=Y z->Q p z->tz k.ha p=Z'):RS Q m L (zo c y r k):=by
 have G:(zo c y r k).place.toNat=d:=by show (y.place-1).toNat=d;omega
 have u:∀q,tz (zo c y r k).Z q=Z'↔((tz y.Z (q+1)=Z'\/tz y.around (q+1)=Z')/\F q)/\¬tz c.f.inner q=Z'/\tz k.fW q=true:=λq=>by rw[<- E];show tz (bA (bA (bA (bO y.Z y.around/2) r.fits) (bN c.f.inner)) k.fW) q=Z'↔_;rw[fI,fI,fI,BU,lq,rS];simp[and_assoc]
 have l:∀q,tz (zo c y r k).around q=Z'↔((((tz y.Z (q+1)=Z'\/tz y.around (q+1)=Z')/\F q)/\tz c.f.inner q=Z')\/tz y.around q=Z')/\tz k.ha q=true:=λq=>by rw[<- E];show tz (bA (bO (bA (bA (bO y.Z y.around/2) r.fits) c.f.inner) y.around) k.ha) q=Z'↔_;rw[fI,lq,fI,fI,BU,lq];simp[and_assoc]
 have D:∀(j:Nat) z,j<=d->((L++[f])[j]?=Y z↔L[j]?=Y z):=λj z n=>by rw[aM (by omega)]
 have x:(L++[f])[L.length]?=Y f:=ż
 unfold RS at h ⊢;rw[G];show Q m y.num↔_;rw[h,I];have v:∀p,(tz y.Z p=Z'\/tz y.around p=Z')->Q p f->(∃p z,tz (zo c y r k).Z p=Z'/\L[d]?=Y z/\Q p z)\/∃p j z,tz (zo c y r k).around p=Z'/\j<=d/\L[j]?=Y z/\Q p z:=λp o b=>by
  cases p with
  |zero=>exact absurd b q0|succ q=>
   let⟨s,w⟩:=(B q).mp b;by_cases i:tz c.f.inner q=Z'
   .right;rcases w with g|⟨_,j,z,n,e,g⟩
    .exact⟨q,d,a,(l q).mpr ⟨.inl ⟨⟨o,s⟩,i⟩,C q d a (aI _) A g⟩,aI _,A,g⟩
    .exact⟨q,j,z,(l q).mpr ⟨.inl ⟨⟨o,s⟩,i⟩,C q j z n e g⟩,n,e,g⟩
   .rcases w with g|⟨H,_⟩
    .exact .inl ⟨q,a,(u q).mpr ⟨⟨o,s⟩,i,J q g⟩,A,g⟩
    .exact absurd H i
 let t:∀q,(tz y.Z (q+1)=Z'\/tz y.around (q+1)=Z')->Q (q+1) f->(∃p z,tz y.Z p=Z'/\(L++[f])[L.length]?=Y z/\Q p z)\/∃p j z,tz y.around p=Z'/\j<=L.length/\(L++[f])[j]?=Y z/\Q p z:=λq o b=>by
  rcases o with o|o
  .exact .inl ⟨_,f,o,x,b⟩
  .exact .inr ⟨_,_,f,o,aI _,x,b⟩
 constructor
 .rintro(⟨p,z,o,e,b⟩|⟨p,j,z,o,n,e,b⟩)
  .rw[x]at e;cases e;exact v p (.inl o) b
  .by_cases K:j=L.length
   .subst K;rw[x]at e;cases e;exact v p (.inr o) b
   .have e:=(D j z ž).mp e;exact .inr ⟨p,j,z,(l p).mpr ⟨.inr o,C p j z ž e b⟩,ž,e,b⟩
 .rintro(⟨p,z,o,e,b⟩|⟨p,j,z,o,n,e,b⟩)
  .rw[A]at e;cases e;obtain⟨⟨o,s⟩,_⟩:=(u p).mp o;exact t p o ((B p).mpr ⟨s,.inl b⟩)
  .let⟨o,_⟩:=(l p).mp o;rcases o with⟨⟨o,s⟩,i⟩|o
   .exact t p o ((B p).mpr ⟨s,.inr ⟨i,j,z,n,e,b⟩⟩)
   .exact .inr ⟨p,j,z,o,ž,(D j z n).mpr e,b⟩
def NH.mv{y:qo}{r b:dH}{a:Int}(l:c.f.inner=a)(h:∀p,(tz y.Z p=Z'->tz r.aK p=Z_)/\(tz y.around p=Z'->tz r.ra p=Z_))(j:r.aK=yl a b.aK b.ra r.fits)(f:r.ra=bO b.ra r.aK)(e:∀o,d[(zo c y r b).place.toNat]?=Y o->o=b):NH d (zo c y r b):=by
 intro o k;rw[e o k];have g:∀q,tz (bA _ r.fits) q=Z'->(tz b.aK q=Z'\/(tz b.ra q=Z'/\tz a q=Z'))->False:=λq s t=>by
  rw[fI,BU,lq,aA,bU]at s;have i:tz r.aK (q+1)=true:=by rw[j,LP];exact⟨q,rfl,t,s.2⟩
  rcases s.1 with o|o
  .have:=(h (q+1)).1 o;rw[i]at this;cases this
  .have:=(h (q+1)).2 o;rw[f,lq,i,Rv]at this;cases this
 refine⟨λp t =>?_,λp t =>?_⟩
 .cases q:tz b.aK p with
  |false=>rfl|true=>exfalso;let t:tz (bA _ b.fW) p=true:=t;rw[fI,fI,aA,aA]at t;exact g p t.1.1 (.inl q)
 .cases q:tz b.ra p with
  |false=>rfl|true=>
   exfalso;let t:tz (bA _ b.ha) p=true:=t;rw[fI,lq,fI,aA,bU,aA]at t;rcases t.1 with t|t
   .exact g p t.1 (.inr ⟨q,by rw[<- l];exact t.2⟩)
   .have:=(h p).2 t;rw[f,lq,q]at this;cases this
end
end K21
end
section
set_option maxHeartbeats 1000000
namespace K21
open PySem L2
def Sg(us:List Nd)(st:List Nat)(ns:List Nd):Prop:=qS us ns/\∀k<us.length,k∉st->ns[k]?=us[k]?
def Sg.step{us Dr ns:List Nd}{st qD:List Nat}{s:k9}(t:Ts us st s Dr qD)(h:Sg Dr qD ns):Sg us st ns:=by
 refine⟨t.sub.trans h.1,λk c n =>?_⟩;let(a,b):=t.keep c n;rw[<- a];refine h.2 k ?_ b;rw[ao c]at a;exact yk a
section
variable {f:w8}{fit lift:Int->Int->Int}{gV txt:aJ->Int}{AW:Nat->Int}{ns us Dr:List Nd}{st qD:List Nat}{s:k9}{c c':kq}{fm:Int}{F:Nat->Nat->Prop}{T T' q:List Int}
structure ST(f:w8)(fm:Int)(fit lift:Int->Int->Int)(gV txt:aJ->Int)(ns:List Nd)(AW:Nat->Int)(F:Nat->Nat->Prop)(us:List Nd)(st:List Nat)(c:kq)(T:List Int):Prop where
 r0:R0 lift gV txt AW us st c.rows
 l3:L3 lift c.rows
 tj:TJ (Rc ns f.inner F) f.q.length (mw st) c.rows c.rests T c.opened
set_option tactic.hygienic true
def ST.step(W:FW f fm fit lift gV txt)(H:WH lift gV txt ns AW)(V:RV fit gV ns AW fm F)(I:SI f fm fit c nl d b)(Z:ST f fm fit lift gV txt ns AW F us st c T)(X:EX fit f.inner fm c.rows)(tw:TW us)(O:xC us st)(on:c.opened=us.length)(t:Ts us st s Dr qD)(u:Sg Dr qD ns)(P:V3 f fit lift gV txt c s q c')(X':EX fit f.inner fm c'.rows)(hT:∀x,x∈T'↔x∈T\/x∈q):ST f fm fit lift gV txt ns AW F Dr qD c' T':=by
 have S0:qS us ns:=t.sub.trans u.1;let O':=t.WZ O;let nd:(c.rows.map (·.number)).Nodup:=(eD.mp I.nd).2.1;have dn:∀k LY,s=.cl->st=k::LY->ns[k]?=us[k]? :=λk LY e1 e2=>by
  subst e1 e2;cases t with
  |cl=>obtain⟨⟨n,en,_⟩,_⟩:=id O;exact u.2 k (yk en) λz=>by have:=Gw tw O k z;omega
 let(R,L,on'):=Mo H Z.r0 Z.l3 tw O t u.1 on nd P dn;refine⟨R,L,?_⟩;have rk:=yZ V R X' O' u.1;let J:=Z.tj;have Ph:∀ {rest:List qo}{P0:dH}{G:List dH},c'.rows=P0::hZ f.inner P0 G->c'.rests=c.rests.filter (λy=> !l5 c'.rows y)->q=qT f c P0 G->(∀r∈P0::G,tz r.aK f.q.length=Z'->r.number∈T)->(∀(j:Nat) z,(mw st)[j]?=Y z->(mw qD)[j]?=Y z)->(∀k:Nat,(k:Int)<c'.opened->(k:Int)<c.opened\/(k:Int)∈mw qD)->(∀(j:Nat) o0 o,c.rows[j]?=Y o0->(P0::G)[j]?=Y o->o.fW=o0.fW/\o.ha=o0.ha)->TJ (Rc ns f.inner F) f.q.length (mw qD) c'.rows c'.rests T' c'.opened:=fun {rest P0 G} U e2 eq Fz hL ho hp=>by
  rw[e2];refine J.Ph hL U R.num rk Fz hT (λx =>?_) ho (by rw[<- Z.r0.num,az]) λj o0 o a b =>?_
  .rw[eq];unfold qT;rw[(lA _).mem_iff,aO];refine or_congr jH ?_;rw[U];simp only[eE,fc,and_assoc]
  .rw[U]at b;let(r,e,d):=s_ _ _ _ _ _ b;rw[d];exact hp j o0 r a e
 have kpo:∀ {a g:List dH},Kp fit 0 a g->(∀r∈a,tz r.aK f.q.length=Z'->r.number∈T)->∀r∈g,tz r.aK f.q.length=Z'->r.number∈T:=fun {a g} K h r hr e=>by
  let(j,C,ej):=dN.mp hr;have hl:g.length=a.length:=by have:=congrArg tH K.nu;simpa using this
  let a1:=congrArg (·[j]?) K.nu;let a2:=congrArg (·[j]?) K.re;simp only[aR,ao C,ao (hl ▸ C),cS,jk]at a1 a2;rw[ej]at a1 a2;rw[a1];exact h _ (uT _) (a2 ▸ e)
 have sah:∀ {p:Nat}{b:Bool}{a:List dH},p<a.length->(∀(i:Nat) (r:dH),a[i+1]?=Y r->(i+1=p->b=Z_)->r.fits=fit r.named r.atoms)->∀(j:Nat) (m:dH),(kf fit lift b p a)[j]?=Y m->∃r,a[j]?=Y r/\m.fW=r.fW/\m.ha=r.ha:=fun {p b a} hp h j m e=>by let(_,r,U,sa,_):=L4 W p b a hp h j m e;unfold Sa at sa;exact⟨r,U,by rw[sa],by rw[sa]⟩
 cases P with
 |@tx x r P0 G e0 e1=>
  let VN:qD=st:=by cases t;rfl
  subst VN;let rr:(kP fit lift (fF c) (txt x) r).rests=c.rests:=by unfold kP;split<;>rfl
  let oo:(kP fit lift (fF c) (txt x) r).opened=c.opened:=by unfold kP;split<;>rfl
  refine Ph (rest:=[]) rfl (by show (kP fit lift (fF c) (txt x) r).rests.filter _=_;rw[rr];rfl) rfl ?_ (λj z h=>h) (λk h =>.inl (by rw[<- oo];exact h)) ?_
  .rw[<- e1];refine kpo (a:=c.rows) ?_ J.t2;unfold kP;split
   .exact .trans (.atoms W (i:=c.rows.length-1) e0 _) (we W _ _ _)
   .exact⟨rfl,rfl,id⟩
  .rw[<- e1];intro j o0 o a b;unfold kP at b;split at b
   .let⟨w,ew,h1,h2⟩:=sah (by simp[fF];have:=yk e0;omega) (λi v ev ni=>by
     rcases yP e0 ev with⟨z,rfl⟩|⟨_,ev⟩
     .have:=ni z;cases this
     .exact X.xf i v ev) j o b
    rw[h1,h2];rcases yP e0 ew with⟨rfl,rfl⟩|⟨_,ew⟩
    .rw[e0]at a;cases a;exact⟨rfl,rfl⟩
    .rw[a]at ew;cases ew;exact⟨rfl,rfl⟩
   .have b:c.rows[j]?=Y o:=b;rw[a]at b;cases b;exact⟨rfl,rfl⟩
 |@op x r P0 G e0 e1=>
  let VN:qD=us.length::st:=by cases t<;>rfl
  subst VN;let e1:kf fit lift Z' ((c.rows++[m9 fit (fF c) c.opened (gV x) 0 r]).length-1) (c.rows++[m9 fit (fF c) c.opened (gV x) 0 r])=P0::G:=e1;have E:mw (us.length::st)=mw st++[(us.length:Int)]:=by simp[mw]
  refine Ph (rest:=[]) rfl rfl rfl ?_ (λj z h=>by rw[E];exact qm h) (λk h =>?_) ?_
  .rw[<- e1];refine kpo (a:=c.rows++[m9 fit (fF c) c.opened (gV x) 0 r]) (we W _ _ _) λy A e =>?_
   rcases aO.mp A with A|A
   .exact J.t2 y A e
   .simp at A;subst A;exact absurd e (by show ¬tz 0 _=Z';rw[lj];simp)
  .let h:(k:Int)<c.opened+1:=h;by_cases z:(k:Int)<c.opened
   .exact .inl z
   .right;rw[E];exact aG _ (by simp;omega)
  .rw[<- e1];intro j o0 o a b;let(w,ew,h1,h2):=sah ż (λi v ev ni=>by
    rcases r9 ev with ev|⟨z,rfl⟩
    .exact X.xf i v ev
    .rfl) j o b
   rw[h1,h2];rw[qm a]at ew;cases ew;exact⟨rfl,rfl⟩
 |@cl D p r e=>
  cases t with
  |@cl k=>
   have U:(wO (fF c) r p).rows=D++[p]:=by show c.rows.dropLast=_;rw[e,jm]
   have ep:(eB (fF c)).rows=D++[p]:=by show c.rows.dropLast=_;rw[e,jm]
   let hn:=Z.r0.num;rw[e]at hn;let(rn,pn):=Ei hn;have E:mw (k::qD)=mw qD++[(k:Int)]:=by simp[mw]
   have ll:(mw qD).length=D.length+1:=by rw[<- pn];simp
   have rm:r∈c.rows:=by rw[e];simp
   have YZ:c.rows[D.length+1]?=Y r:=by rw[e];simp
   have e_p:c.rows[D.length]?=Y p:=by rw[e];simp
   let fu:=Z.r0.full H tw O rfl (dn _ _ rfl rfl) S0 rm rn;let(k',n',ek,en',_,f1,f2):=Z.r0.fq V X O S0 YZ;let kk:k'=k:=by omega
   subst kk;let(x1,x2):=X.xr _ _ _ e_p YZ;let(h1,h2):=Cw V Z.r0 X O S0 _ _ e_p;have la:(mw qD)[D.length]?=Y p.number:=by rw[<- pn];simp
   have ei:(eB (fF c)).f.inner=f.inner:=by show c.f.inner=_;rw[I.ff]
   let fl:(eB (fF c)).full=2 ^ f.q.length:=I.fu;let add:∀y∈m_ (eB (fF c)) r,(y.place.toNat<(mw (k'::qD)).length/\RS (Rc ns f.inner F) f.q.length (mw (k'::qD)) y)/\NH c.rows y/\(y∈c.rests\/y.place.toNat=(mw qD).length):=λy A=>by
    unfold m_ at A;rcases aO.mp A with A|A
    .exact⟨J.rs y A,J.nh y A,.inl A⟩
    .split at A
     .cases A
     .rename_i g;rw[fl,pA]at g;simp only[dR]at A;subst A;have pl:(qo.mk r.number ((eB (fF c)).rows.length:Int) (eB (fF c)).full 0).place.toNat=(mw qD).length:=by show ((eB (fF c)).rows.length:Int).toNat=_;rw[ep,ll];simp
      refine⟨⟨by rw[pl,E];simp,?_⟩,λo B =>?_,.inr pl⟩
      .unfold RS;rw[pl,E];show Rc ns f.inner F _ r.number↔_;rw[rn];constructor
       .exact λh =>.inl ⟨f.q.length,_,by show tz (eB (fF c)).full _=Z';rw[fl,rQ];simp,ż,h⟩
       .rintro(⟨p,z,a,b,d⟩|⟨p,j,z,a,b⟩)
        .let a:tz (eB (fF c)).full p=true:=a;rw[fl,rQ]at a;simp at a b;subst a b;exact d
        .exact absurd a (by show ¬tz 0 _=Z';rw[lj];simp)
      .rw[pl,ll,YZ]at B;cases B;refine⟨λq a =>?_,λq a=>absurd a (by show ¬tz 0 _=Z';rw[lj];simp)⟩;let a:tz (eB (fF c)).full q=true:=a;rw[fl,rQ]at a;simp at a;subst a;simpa using g
   have N:∀y∈m_ (eB (fF c)) r,((yj (eB (fF c)) (eB (fF c)).rows.length r p y).place.toNat<(mw qD).length/\RS (Rc ns f.inner F) f.q.length (mw qD) (yj (eB (fF c)) (eB (fF c)).rows.length r p y))/\NH (D++[p]) (yj (eB (fF c)) (eB (fF c)).rows.length r p y)/\(nE (yj (eB (fF c)) (eB (fF c)).rows.length r p y)=Z'->∀o,(D++[p])[(yj (eB (fF c)) (eB (fF c)).rows.length r p y).place.toNat]?=Y o->Le (yj (eB (fF c)) (eB (fF c)).rows.length r p y).Z o.fW/\Le (yj (eB (fF c)) (eB (fF c)).rows.length r p y).around o.ha):=λy A=>by
    obtain⟨⟨l,rs⟩,nh,w⟩:=add y A;unfold yj;by_cases z:y.place=((eB (fF c)).rows.length:Nat)
    .rw[if_pos z];have z:y.place.toNat=D.length+1:=by rw[z,ep];simp
     have mp:(zo (eB (fF c)) y r p).place.toNat=D.length:=by show (y.place-1).toNat=_;omega
     rw[E]at rs;refine⟨⟨by rw[mp,ll];omega,rs.mv (F:=F k') ll (by rw[z,ll]) la (by show ¬((k':Int) = -1);omega) (λq =>?_) (λq=>⟨f1 q,f2 fu q⟩) h1 (λq j z C ez=>h2 q j z C (by rw[E];exact qm ez))⟩,NH.mv ei (λq =>?_) x1 x2 (λo B =>?_),λ_ o B =>?_⟩
     .rw[ei,B7 O S0 (i:=D.length) (a:=p.number) (b:=(k':Int)) (by rw[E];exact qm la) (by rw[E,<- ll];simp)];refine and_congr jH (or_congr jH (and_congr jH ?_));refine exists_congr λj=>exists_congr λw =>?_
      constructor
      .rintro⟨C,e,a⟩;rw[E,aM (by omega)]at e;exact⟨C,e,a⟩
      .rintro⟨C,e,a⟩;exact⟨C,by rw[E];exact qm e,a⟩
     .have:=nh r (by rw[z];exact YZ);exact⟨this.1 q,this.2 q⟩
     .rw[mp]at B;simp at B;exact B.symm
     .rw[mp]at B;simp at B;subst B;exact⟨λq t=>by
       let t:tz (bA (bA _ _) p.fW) q=true:=t;rw[fI,aA]at t;exact t.2,λq t=>by
       let t:tz (bA _ p.ha) q=true:=t;rw[fI,aA]at t;exact t.2⟩
    .rw[if_neg z];have Xo:y∈c.rests:=by
      unfold m_ at A;rcases aO.mp A with A|A
      .exact A
      .split at A
       .cases A
       .simp only[dR]at A;subst A;exact absurd rfl z
     have pl:=I.pl y Xo;have pl1:y.place.toNat<D.length+1:=by
      let a1:=pl.1;let a2:=pl.2;have:c.rows.length=D.length+2:=by rw[e];simp
      rw[ep]at z;simp at z;omega
     have get:∀o,(D++[p])[y.place.toNat]?=Y o->c.rows[y.place.toNat]?=Y o:=λo B=>by rw[e];exact qm B
     refine⟨⟨by rw[ll];exact pl1,?_⟩,λo B=>nh o (get o B),λ_ o B=>(J.lv y Xo).2 o (get o B)⟩;unfold RS at rs ⊢;rw[rs];have b:∀(j:Nat) z,j<=y.place.toNat->((mw (k'::qD))[j]?=Y z↔(mw qD)[j]?=Y z):=λj z C=>by rw[E,aM (by omega)]
     refine or_congr ?_ ?_
     .refine exists_congr λp=>exists_congr λz =>?_
      rw[b _ _ (aI _)]
     .refine exists_congr λp=>exists_congr λj=>exists_congr λz =>?_
      constructor
      .rintro⟨x,C,e,q⟩;exact⟨x,C,(b j z C).mp e,q⟩
      .rintro⟨x,C,e,q⟩;exact⟨x,C,(b j z C).mpr e,q⟩
   have Q:∀y,y∈(wO (fF c) r p).rests↔∃M∈m_ (eB (fF c)) r,yj (eB (fF c)) (eB (fF c)).rows.length r p M=y/\nE y=true:=λy=>by
    show y∈FK nE (Dk _ (wb _))↔_;rw[fc,eE];simp only[(n5 _).mem_iff];constructor
    .rintro⟨⟨M,a,b⟩,d⟩;exact⟨M,a,b,d⟩
    .rintro⟨M,a,b,d⟩;exact⟨⟨M,a,b⟩,d⟩
   have S:∀x,x∈T'↔x∈T:=λx=>by rw[hT];simp
   refine⟨λx hx=>J.t1 x ((S x).mp hx),λy A te =>?_,λi hi hq =>?_,λy A =>?_,λy A =>?_,λy A =>?_⟩
   .rw[U]at A;exact(S _).mpr (J.t2 y (by rw[e];exact aT _ A) te)
   .have via:∀y∈m_ (eB (fF c)) r,y.num=i->∃y∈(wO (fF c) r p).rests,y.num=i:=λy A ey=>by obtain⟨⟨_,rs⟩,_⟩:=N y A;let nm:=MY (eB (fF c)) (eB (fF c)).rows.length r p y;refine⟨_,(Q _).mpr ⟨y,A,rfl,?_⟩,nm.trans ey⟩;unfold RS at rs;rw[nm,ey]at rs;unfold nE;rw[bU,bne_iff_ne,bne_iff_ne,DB,DB];exact(rs.mp hq).imp (λ⟨p,_,a,_⟩=>⟨p,a⟩) λ⟨p,_,_,a,_⟩=>⟨p,a⟩
    rcases J.t3 i hi hq with h|h|⟨y,A,ey⟩
    .rw[E]at h;rcases aO.mp h with h|h
     .exact .inl h
     .simp only[dR]at h;by_cases z:tz r.aK f.q.length=Z'
      .exact .inr (.inl ((S _).mpr (by rw[h,<- rn];exact J.t2 r rm z)))
      .refine .inr (.inr (via ⟨r.number,((eB (fF c)).rows.length:Nat),(eB (fF c)).full,0⟩ ?_ (by show r.number=_;rw[rn,h])));unfold m_;rw[if_neg (by rw[fl,pA];exact z)];simp
    .exact .inr (.inl ((S _).mpr h))
    .exact .inr (.inr (via y (aT _ A) ey))
   .let⟨M,h0,rfl,_⟩:=(Q y).mp A;exact(N M h0).1
   .let⟨M,h0,rfl,_⟩:=(Q y).mp A;rw[U];exact(N M h0).2.1
   .let⟨M,h0,rfl,l⟩:=(Q y).mp A;rw[U];exact⟨l,(N M h0).2.2 l⟩
end
end K21
end
namespace K21
open PySem L2 K30
def Ad:Ss->Nat->Int->Int
 |.nil,_,a=>a|.cons _ _ w r,k,a=>Ad r (k+1) (if HD w then bO a (2 ^ k) else a)
theorem JL(q:D):∀(s:Ss) (k:Nat) (a:Int) (a2 a3:Option D),uE s<=13->uc s<=900->k+dE s<=1000->∃b2 b3,
  ia (Du 2 3) jR (((hV s).zipIdx k).map λp =>.tup [.int (p.2:Nat),p.1]) [Y q,Y (.int a),a2,a3]=Y (.nx [Y q,Y (.int (Ad s k a)),b2,b3])
 |.nil,k,a,a2,a3,_,_,_=>⟨a2,a3,rfl⟩| .cons b nm w r,k,a,a2,a3,h,z,l=>by
  rw[uE]at h;rw[uc]at z;rw[dE]at l;let hc:qW [qv w]=Y (.bl (HD w)):=CY w 12 Ž Ž;let e1:ir (aW qW Ps) [Y q,Y (.int a),Y (.int (k:Nat)),Y (.tup [.str (gS b),.str (h_ nm),qv w])]=Y (HD w):=by
   have:∀F,aW F Ps [Y q,Y (.int a),Y (.int (k:Nat)),Y (.tup [.str (gS b),.str (h_ nm),qv w])]=F [qv w]:=λF=>rfl
   unfold ir;rw[this,hc];rfl
  let hb:jR [Y q,Y (.int a),Y (.int (k:Nat)),Y (.tup [.str (gS b),.str (h_ nm),qv w])]=Y (.nx [Y q,Y (.int (if HD w then bO a (2 ^ k) else a)),Y (.int (k:Nat)),Y (.tup [.str (gS b),.str (h_ nm),qv w])]):=by
   unfold jR;rw[Qs e1];cases HD w with
   |false=>rfl|true=>let e2:L2.e2 p_ na (eV 2) [Y q,Y (.int a),Y (.int (k:Nat)),Y (.tup [.str (gS b),.str (h_ nm),qv w])]=Y (.int (2 ^ k)):=(rfl).trans (K21.SS ž);simp only[if_true];unfold vf;rw[e2];rfl
  rw[hV,Fo,a_,K21.jx rfl hb];exact JL q r (k+1) _ _ _ ž ž ž
def Vo{s:Ss}(h:uE s<=13)(z:uc s<=900):j3 [.lst (hV s)]=Y (.int (Ad s 0 0)):=by
 show (nM [Y _,M,M,M]).bind _=_;unfold nM;rw[aB (f7 rfl)];simp;let(g,f,e):=JL _ s 0 0 _ _ h z (by have:=Ih s;grind [ui]);let b:iQ (iE (eV 0)) (Du 2 3) _ [Y (.lst (hV s)),Y (.int 0),M,M]=ia _ jR _ _:=rfl;rw[aB (b.trans e)];rfl
theorem JM:∀(s:Ss) (k:Nat) (a:Int),tz (Ad s k a) i=Z'↔tz a i=Z'\/∃j t,i=k+j/\m7 s j=Y t/\HD t.2.2=Z'
 |.nil,k,a=>by simp[Ad,m7]
 | .cons b h w r,k,a=>by
  rw[Ad,JM r];let d:(∃j t,i=k+j/\m7 (.cons b h w r) j=Y t/\HD t.2.2=Z')↔i=k/\HD w=Z'\/∃j t,i=k+1+j/\m7 r j=Y t/\HD t.2.2=true:=by
   constructor
   .rintro⟨j,x,e,f,g⟩;cases j with
    |zero=>cases f;exact .inl ⟨e,g⟩|succ j=>exact .inr ⟨j,x,Ž,f,g⟩
   .rintro(⟨e,g⟩|⟨j,x,e,f,g⟩)
    .exact⟨0,_,Ÿ,rfl,g⟩
    .exact⟨j+1,x,ž,f,g⟩
  rw[d,<- or_assoc];refine or_congr ?_ jH;cases c:HD w with
  |true=>
   simp;rw[lq,rQ]
   grind
  |false=>simp
theorem ON:∀(s:Ss) (k:Nat) (a:Int),Sm k a->Sm (k+dE s) (Ad s k a)
 |.nil,k,a,h=>h|.cons b c w r,k,a,h=>by rw[dE,show k+(dE r+1)=k+1+dE r by omega];exact ON r _ _ (by split;exact RD h;exact L_ h)
theorem HM:∀(a:Ss) (c:As),BP d L a c->∀p,(∀x,GJ c p=Y x->∃t,m7 a p=Y t/\pO d L t.2.2 x)/\∀t,m7 a p=Y t->∃x,GJ c p=Y x/\pO d L t.2.2 x
 |.nil,c,h,p=>by subst h;exact⟨λx e=>(by cases e),λt e=>by cases e⟩
 | .cons b i w r,c,⟨x,y,a,g,e⟩,p=>by
  subst e;cases p with
  |zero=>exact⟨λf e=>by cases e;exact⟨_,rfl,a⟩,λt e=>by cases e;solve_by_elim⟩
  |succ p=>exact HM r y g p
theorem BZ:∀(a:Ss) (p:Nat) (t:Tp),m7 a p=Y t->(rX a)[p]?=Y (.st t.1 t.2.1)
 |.cons b c w r,0,t,e=>by cases e;exact Ÿ
 |.cons b c w r,p+1,t,e=>by rw[rX];simpa using BZ r p t e
structure FX(a:Ss)(inner fm:Int)(fit lift:Int->Int->Int)(gV txt:aJ->Int)(F:Fa):Prop where
 gV:∀n,gV n=(F.named n:Nat)
 txt:∀t,txt t=(F.text t:Nat)
 Xe:∀n x y,Le x y->Le (lift n x) (lift n y)
 lft:∀n (x:Nat) i,tz (lift (F.named n:Nat) (x:Nat)) i=true↔(K30.lift F (F.named n) x).testBit i=true
 fit:∀n f p,tz (fit (F.named n:Nat) (fA F f:Nat)) p=true↔∃t,m7 a p=some t/\kh t.2.1 n/\qr t.2.2 f
 Qc:∀n p t,m7 a p=some t->(tz (F.named n:Nat) p=true↔kh t.2.1 n)
 Ct:∀p t,m7 a p=some t->(tz inner p=true↔t.1=true)
 abl:∀p t,m7 a p=some t->HD t.2.2=true->tz fm p=true
def NV(a:Ss)(S:HS a)(R:V5 (λ_=>True) a)(T:uE a<=12)(E:uc a<=900)(B:dE a<=60):
  ∃f u d r o F,hR [.ins "Facts" [] [],.lst (hV a)]=Y (.gA,jg f)/\f.q=hV a/\j3 [.lst f.q]=Y (.int (Ad a 0 0))/\FW f (Ad a 0 0) u d r o/\FX a f.inner (Ad a 0 0) u d r o F:=by
 let(b,s1,s,H,L,e,q,g,C):=Qq a S R T E;let I:=g.gi;have lk:=g.lk (λl h=>by cases h);let(la,O):=BP.ln a b C E;let N:=BP.len a b C;let(X,v,_):=g.add;let U:∀l∈L,dk l.2<=12:=λl h=>(lk l h).1
 have J:∀p∈L.map ldI,uL 12 p.2:=λp Q=>by let(l,B,rfl):=eE.mp Q;exact JF _ _ (lk l B).1 (lk l B).2
 let K:∀x∈nQ b,uL 12 x:=HL b 12 ž O;have kl:(nQ b).length<=60:=by rw[HN,N];exact B
 have k:∀n p t,m7 a p=Y t->(((O7 s L).named n).testBit p=Z'↔kh t.2.1 n):=λn p t h=>by
  let x:H[p]?=Y (.st t.1 t.2.1):=by rw[v];exact qm (BZ a p t h)
  show (s.fx.toNat ||| zm _).testBit p=Z'↔_;rw[jK,bU,(CI I).2 p,(CJ I n).2 p,x];cases t.2.1 with
  |none=>simp[kh]|some m=>simp[kh]
 refine⟨⟨s.q,(s.bits:Int),s.nk,s.nv,s.tk,s.tv,s.fx,s.oj,s.inner,s.dG,nQ b⟩,λn x=>AN 12 n x 0 0 (nQ b),λn x=>Cm 12 n x (bA x s.inner) (L.map ldI),λn=>((O7 s L).named n:Nat),λt=>((O7 s L).text t:Nat),O7 s L,e,q,by rw[show (w8.mk s.q (s.bits:Int) s.nk s.nv s.tk s.tv s.fx s.oj s.inner s.dG (nQ b)).q=hV a from q];exact Vo ž E,⟨⟨λn x=>Ho ſ K (by show (nQ b).length<=1000;omega) n x,λn x=>Kw ſ (by show s.dG=_;rw[I.dG,qZ];rfl) J n x⟩,⟨λn =>?_,λt =>?_⟩,λn x=>RE (NT (nQ b) 0 0 ⟨ſ,ſ⟩) ž,λn x y h=>fit_le h (nQ b) 0 0 0 K λ_ h=>h,RE (ON a 0 0 ⟨ſ,ſ⟩) ž⟩,⟨λn=>rfl,λt=>rfl,λn x y h=>M_ h _ _ _ J (GX h λ_ h=>h),λn x i =>?_,λn f p =>?_,λn p t h=>by rw[ma];exact k n p t h,λp t h =>?_,λp t h c=>(JM a 0 0).mpr (.inr ⟨p,t,ž,h,c⟩)⟩⟩
 .let h:=(CJ I n).1;let g:=(CI I).1;refine Gn ?_;show Fq (.int s.fx) ((cO s.nk s.nv (b_ n)).getD (.int 0))=Y _;rw[h,g];show Y (D.int (bO _ _))=_;rw[uJ];rfl
 .let h:=(CH I t).1;show Y ((cO s.tk s.tv (b_ t)).getD (.int 0))=_;rw[h];rfl
 .let g:=(sG I).1;rw[IT L _ U,fI,ma,ma,zu,aA];refine or_congr (and_congr jH ?_) jH;show tz s.inner i=Z'↔s.inner.toNat.testBit i=Z';rw[<- ma,<- g]
 .rw[Jm b 0 0 (by omega),lj];let P:=Mv (O7 s L) _ f (aI _);constructor
  .rintro(z|⟨j,x,ej,G,z,m⟩)
   .cases z
   .have:p=j:=by omega
    subst this;let(t,w,A):=(HM a b C p).1 x G;rw[ma]at z;exact⟨t,w,(k n p t w).mp z,(Ac P _ _ (pO.r I _ _ A)).mp m⟩
  .rintro⟨t,w,W,h⟩;let(x,G,A):=(HM a b C p).2 t w;exact .inr ⟨p,x,ž,G,by rw[ma];exact(k n p t w).mpr W,(Ac P _ _ (pO.r I _ _ A)).mpr h⟩
 .let g:=(sG I).1;let x:H[p]?=Y (.st t.1 t.2.1):=by simp_all [qm,BZ]
  show tz s.inner p=Z'↔_;rw[g,ma,(sG I).2 p,x];simp
end K21
section
set_option maxHeartbeats 1000000
namespace K21
open PySem L2 K30
noncomputable def tOf:D->Option Tr
 |.str s=>Y (.txt s)|_=>M
noncomputable def fo(ns:List Nd):Nat->Nat->List Tr
 |0,_=>[]| m+1,k=>match ns[k]? with
  |none=>[]|some n=>n.tx.filterMap tOf++n.kd.filterMap λj=>(ns[j.toNat]?).map λc =>.nd c.nm (fo ns m j.toNat)
theorem EK{a b:Type}{f g:a->Option b}:∀ {l:List a},(∀x∈l,f x=g x)->l.filterMap f=l.filterMap g
 |[],_=>rfl|x::l,h=>by rw[jG,jG,h x aH,EK λy c=>h y (by simp_all)]
theorem CM{ns:List Nd}(T:TW ns):∀(m m' k:Nat),ns.length<=m+k->ns.length<=m'+k->fo ns m k=fo ns m' k
 | 0,m',k,h,_=>by
  cases m' with
  |zero=>rfl|succ m'=>rw[fo,fo,i8.mpr (by omega)]
 |m+1,0,k,_,h=>by simp_all [fo]
 | m+1,m'+1,k,h,g=>by
  rw[fo,fo];cases e:ns[k]? with
  |none=>rfl|some n=>
   simp only
   congr 1
   refine EK λj hj =>?_
   let(i,c,rfl,hi,ec,_):=T.EB k n e j hj;simp;rw[CM T m m' i (by omega) (by omega)]
noncomputable abbrev AL(ns:List Nd)(k:Nat):List Tr:=fo ns ns.length k
def uA{ns:List Nd}(T:TW ns){n:Nd}(e:ns[k]?=Y n)(x:Tr):x∈AL ns k↔(∃t,x=.txt t/\D.str t∈n.tx)\/∃(j:Nat) (c:Nd),(j:Int)∈n.kd/\ns[j]?=Y c/\x=.nd c.nm (AL ns j):=by
 let o:=yk e;obtain⟨m,g⟩:∃m,ns.length=m+1:=⟨ns.length-1,ž⟩;let u:AL ns k=n.tx.filterMap tOf++n.kd.filterMap λj=>(ns[j.toNat]?).map λc =>.nd c.nm (fo ns m j.toNat):=by unfold AL;rw[g,fo,e]
 rw[u,aO,rM,rM];refine or_congr ?_ ?_
 .constructor
  .rintro⟨d,f,h⟩;let(s,rfl):=T.tx k n e d f;cases h;exact⟨s,rfl,f⟩
  .rintro⟨t,rfl,h⟩;exact⟨_,h,rfl⟩
 .constructor
  .rintro⟨j,a,h⟩;let(i,c,rfl,l,b,_):=T.EB k n e j a;rw[cC,b,cS]at h;refine⟨i,c,a,b,?_⟩;rw[<- cB h,AL,CM T m ns.length i (by omega) (by omega)]
  .rintro⟨j,c,a,b,rfl⟩;let(i,q,p,l,_):=T.EB k n e j a;refine⟨(j:Int),a,?_⟩;rw[cC,b,cS,AL,CM T m ns.length j (by omega) (by omega)]
section
variable {a:Ss}{f:w8}{fm:Int}{fit lift:Int->Int->Int}{gV txt:aJ->Int}{F:Fa}{ns:List Nd}
abbrev AWn(F:Fa)(ns:List Nd)(k:Nat):Int:=(fA F (AL ns k):Nat)
def Fk(a:Ss)(ns:List Nd)(k p:Nat):Prop:=∃n t,ns[k]?=Y n/\m7 a p=Y t/\kh t.2.1 n.nm/\qr t.2.2 (AL ns k)
def Wf(X:FX a f.inner fm fit lift gV txt F)(T:TW ns):WH lift gV txt ns (AWn F ns):=by
 refine⟨T,X.Xe,λk n e t d i h =>?_,λk n e j m g q i h =>?_,λk n x e p o i h =>?_⟩
 .rw[X.txt]at h;exact Hs ((uA T e _).mpr (.inl ⟨t,rfl,d⟩)) i Ÿ
 .rw[X.gV,X.lft]at h;exact Hs ((uA T e _).mpr (.inr ⟨j,m,g,q,rfl⟩)) i Ÿ
 .rw[ma,CO]at h;let(t,d,b):=h;rcases(uA T e t).mp d with⟨s,rfl,l⟩|⟨j,c,g,r,rfl⟩
  .exact p s l i (by rw[X.txt];exact Ÿ)
  .exact o j c g r i (by rw[X.gV,X.lft];exact Ÿ)
def RG(W:FW f fm fit lift gV txt)(X:FX a f.inner fm fit lift gV txt F):RV fit gV ns (AWn F ns) fm (Fk a ns):=by
 refine⟨λk n p e =>?_,λk n p e h =>?_,W.mono⟩
 .rw[X.gV,X.fit];constructor
  .rintro⟨m,t,b,r⟩
   simp_all
  .rintro⟨t,r⟩;exact⟨n,t,e,r⟩
 .let⟨m,t,b,c,d,h⟩:=h;rw[e]at b;cases b;exact⟨by rw[X.gV];exact(X.Qc _ p t c).mpr d,X.abl p t c (JB _ h)⟩
end
end K21
end
namespace K21
open PySem L2 K30
noncomputable abbrev lU(ns:List Nd):D :=.lst (ns.map IK)
def Wn(ns:List Nd)(b:Bool)(a:Int)(z:Int):Prop:=∃(i:Nat) (n:Nd),z=i/\ns[i]?=Y n/\(n.par=a\/(b=Z'/\JT ns n.par a))
section
variable {ns:List Nd}
theorem JJ(T:TW ns):∀(m:Nat) (z:Int),-1<=z->z<m->z<ns.length->JT ns z (-1)
 | 0,z,h,g,_=>by
  have:z = -1:=by omega
  rw[this];exact .refl _
 | m+1,z,h,g,l=>by
  by_cases c:z = -1
  .rw[c];exact .refl _
  .let e:=ao (l:=ns) (i:=z.toNat) ž;have p:=T.par _ _ e;exact .up ž e (JJ T m _ p.1 ž ž)
def Vm(T:TW ns)(h:JT ns z a):a<=z:=by
 induction h with
 |refl=>exact VC _|up e g _ ih=>have:=(T.par _ _ g).2;omega
def Ep{k:Nat}{n:Nd}(e:ns[k]?=Y n):n9 (ns.map IK) (k:Int)=Y (IK n):=gY Ż
def yd(n:Nat):lZ 0 n=(cL n).map λk:Nat=>D.int (k:Int):=by simp[lZ]
theorem IZ{c:cE}{t:DT}{P:Nat->Bool}:∀(l:List Nat),(∀k∈l,t (c.set 0 (Y (.int (k:Nat))))=Y (P k))->(0<c.length)->rA c (gN 0) t (eV 0) (l.map λk:Nat=>D.int (k:Int))=Y ((l.filter P).map λk:Nat=>D.int (k:Int))
 |[],_,_=>rfl| k::l,h,g=>by
  rw[a_,rA];let e:gN 0 (.int k) c=Y _:=rfl;let f:eV 0 (c.set 0 (Y (.int k)))=Y (.int k):=by
   cases c with|nil=>simp at g|cons x c=>rfl
  rw[e];simp;rw[h k aH,f,IZ l (λj hj=>h j (by simp_all)) g]
  grind
def Ui(ns:List Nd)(h:eV 0 a=Y (lU ns)):aW fY Tl a=Y (.int (ns.length:Nat)):=by
 show ((eV 0 a).bind λx=>Y [x]).bind fY=_;rw[h];show fY [lU ns]=_;simp[fY,lU]
def RJ{f:DF}{z:Int}(h:f b=Y (.int z))(a:0<=z)(l:z<=1000):Ft f b=Y (lZ 0 z.toNat):=UA h ⟨Int.le_trans ſ a,Int.lt_of_le_of_lt l ſ⟩
def Ry{b:Bool}{x:Bool}{ρ:cE}(h:eV 2 ρ=Y (.str (gS b))):dB (e2 gQ (eV 2) (eK (.str (gS x)))) ρ=Y (b==x):=by
 let e:gQ (.str (gS b)) (.str (gS x))=Y (.bl (b==x)):=by cases b<;>cases x<;>kernel_rfl
 unfold dB e2;rw[h];show (gQ (.str _) (.str _)).bind _=_;rw[e];rfl
def vJ{t u:DT}{ρ:cE}{x y:Bool}(h:t ρ=Y x)(g:u ρ=Y y):gj t u ρ=Y (x&&y):=by
 grind [gj]
def GU{f g:DF}{ρ:cE}{x y:Int}(h:f ρ=Y (.int x))(k:g ρ=Y (.int y)):dB (e2 xG f g) ρ=Y (decide (x<y)):=by
 unfold dB e2;rw[h,k];rfl
def Me(e:g a=Y (.ro l)):aU g h a=Y (.ro l):=by unfold aU;rw[e];rfl
def xw{g:DG}(h:t a=Y Z_):gk t g eI a=Y (.nx a):=by rw[Qs h];rfl
def FQ(T:TW ns)(l:ns.length<=1000)(b:Bool):∃r:List Int,js [lU ns,.int (-1),.str (gS b)]=Y (r.map D.int)/\r.Nodup/\∀z,z∈r↔Wn ns b (-1) z:=by
 have e0:js [lU ns,.int (-1),.str (gS b)]=(qb [Y (lU ns),Y (.int (-1)),Y (.str (gS b)),M,M]).bind Gs:=rfl;rw[e0];unfold qb;have q1:gj (dB wS) ã [Y (lU ns),Y (.int (-1)),Y (.str (gS b)),M,M]=Y (!b):=by have:=vJ (x:=Z') (y:=b==Z_) (t:=dB wS) (u:=dB (e2 gQ (eV 2) (eK (.str (gS Z_))))) (ρ:=[Y (lU ns),Y (.int (-1)),Y (.str (gS b)),M,M]) rfl (Ry rfl);refine this.trans ?_;cases b<;>rfl
 have src:∀ {P:Nat->Bool}{s:List (Option Nat)}{t:DT},(∀k<ns.length,t _=Y (P k))->0<(nG s [Y (lU ns),Y (.int (-1)),Y (.str (gS b)),M,M]).length->mx (Ft (aW fY Tl)) s (gN 0) t (eV 0) [Y (lU ns),Y (.int (-1)),Y (.str (gS b)),M,M]=Y ((((cL ns.length).filter P).map λk:Nat=>(k:Int)).map D.int):=fun {P s t} h g=>by unfold mx;rw[RJ (Ui ns rfl) (j4 _) (by omega),cC];simp only[ai];rw[if_pos (by rw[yd,az,Dl];exact cW (K21.iV (by omega))),yd,IZ (P:=P) _ (λk hk=>h k (List.mem_range.mp hk)) g,qZ];rfl
 have nod:∀P:Nat->Bool,(((cL ns.length).filter P).map λk:Nat=>(k:Int)).Nodup:=λP=>Dq _ (λ(a b:Nat) (h:a≠b)=>(show (a:Int)≠b from λz=>h ž)) (List.nodup_range.filter P)
 have mem:∀(P:Nat->Bool) (z:Int),z∈(((cL ns.length).filter P).map λk:Nat=>(k:Int))↔∃(i:Nat) (n:Nd),z=i/\ns[i]?=Y n/\P i=true:=λP z=>by
  simp only[eE,fc,List.mem_range];constructor
  .rintro⟨k,⟨h,p⟩,rfl⟩;exact⟨k,_,rfl,ao h,p⟩
  .rintro⟨k,n,rfl,e,p⟩;exact⟨k,⟨yk e,p⟩,rfl⟩
 cases b with
 |false=>
  refine⟨_,?_,nod λk=>match ns[k]? with|some n=>decide (n.par<0)|none=>Z_,λz=>(mem _ z).trans ?_⟩
  .rw[Me]
   .rfl
   .rw[Qs q1];simp only[Ly,if_true];unfold mN;rw[src (s:=[M,Y 0]) (t:=dB ß) (P:=λk=>match ns[k]? with|some n=>decide (n.par<0)|none=>Z_) (λk hk =>?_) (Nat.zero_lt_succ _)]
    .rfl
    .let e:=ao hk;simp only[e];refine GU (x:=ns[k].par) ?_ rfl;have:e2 bW (e2 bW (eV 1) (eV 0)) Ch ((nG [M,Y 0] [Y (lU ns),Y (.int (-1)),Y (.str (gS Z_)),M,M]).set 0 (Y (.int (k:Nat))))=(n9 (ns.map IK) (k:Int)).bind λd=>bW d (.int 3):=rfl
     rw[this,Ep e];rfl
  .unfold Wn;refine exists_congr λi=>exists_congr λn=>and_congr jH (and_congr_right λe =>?_)
   simp only[e,decide_eq_true_eq,gR,false_and,or_false];have:=(T.par i n e).1;omega
 |true=>
  refine⟨_,?_,nod λk=>Z',λz=>(mem _ z).trans ?_⟩
  .rw[aB (xw q1)];rw[Me]
   .rfl
   .rw[Qs (b:=Z') rfl];simp only[if_true];unfold mN;rw[src (s:=[M]) (t:=gU) (P:=λk=>Z') (λk hk=>rfl) (Nat.zero_lt_succ _)];rfl
  .unfold Wn;refine exists_congr λi=>exists_congr λn=>and_congr jH (and_congr_right λe =>?_)
   let p:=T.par i n e;have:=yk e;exact⟨λ_ =>.inr ⟨rfl,JJ T ns.length _ p.1 ž ž⟩,λ_=>rfl⟩
end
structure BI(ns:List Nd)(k0:Nat)(n0:Nd)(r:List Int)(i:Nat):Prop where
 nd:r.Nodup
 ok:∀z∈r,∃(j:Nat) (n:Nd),z=j/\ns[j]?=some n/\JT ns n.par k0
 fr:∀(j:Nat) (n:Nd),(j:Int)∈r->ns[j]?=some n->n.par=k0\/∃x,x<i/\r[x]?=some n.par
 k:∀z∈n0.kd,z∈r
 cl:∀x<i,∀(j:Nat) n,r[x]?=some (j:Int)->ns[j]?=some n->∀z∈n.kd,z∈r
section
variable {ns:List Nd}{k0:Nat}{n0:Nd}{r:List Int}{i:Nat}
def BI.new(T:TW ns)(e:ns[k0]?=Y n0):BI ns k0 n0 n0.kd 0:=by
 refine⟨T.nd k0 n0 e,λz hz =>?_,λj n f g =>?_,λz h=>h,λx h=>by trivial⟩
 .let⟨j,n,a,_,b,c⟩:=T.EB k0 n0 e z hz;exact⟨j,n,a,b,by rw[c];exact .refl _⟩
 .let⟨d,i,a,_,b,c⟩:=T.EB k0 n0 e _ f;have:j=d:=by lia
  subst this;rw[g]at b;cases b;exact .inl c
def BI.len(h:BI ns k0 n0 r i):r.length<=ns.length:=by
 let a:(r.map Int.toNat).Nodup:=by
  refine Dq _ (λx y (z:x≠y/\0<=x/\0<=y)=>Ž) ?_;refine OZ (fun {x y} b d z=>⟨z,?_,?_⟩) h.nd
  .let⟨j,_,e,_⟩:=h.ok x b;omega
  .let⟨j,_,e,_⟩:=h.ok y d;omega
 have:=sr ns.length _ a λx b=>by let(z,c,rfl):=eE.mp b;let(j,n,e,f,_):=h.ok z c;have:=yk f;omega
 simp_all
def BI.step(T:TW ns)(h:BI ns k0 n0 r i){j:Nat}{n:Nd}(e:r[i]?=Y (j:Int))(k:ns[j]?=Y n):BI ns k0 n0 (r++n.kd) (i+1):=by
 let y:∀z∈r,(k0:Int)<z:=λz d=>by let(a,m,q,f,c):=h.ok z d;have:=Vm T c;have:=(T.par a m f).2;omega
 refine⟨eD.mpr ⟨h.nd,T.nd j n k,λa g b w =>?_⟩,λz d =>?_,λa m g f =>?_,λz d=>aT _ (h.k z d),λx u a m t f z d =>?_⟩
 .rintro rfl;let(c,m,q,_,f,l):=T.EB j n k a w;subst q;rcases h.fr c m g f with z|⟨x,u,o⟩
  .have:=y _ (cD e);omega
  .rw[l]at o;have:=(Dm (yk o) h.nd).mp (o.trans e.symm);omega
 .rcases aO.mp d with d|d
  .exact h.ok z d
  .let⟨c,m,q,_,f,l⟩:=T.EB j n k z d;let(v,C,B,p,A):=h.ok _ (cD e);have:v=j:=by omega
   subst this;rw[k]at p;cases p;exact⟨c,m,q,f,.up l k A⟩
 .rcases aO.mp g with g|g
  .rcases h.fr a m g f with z|⟨x,u,o⟩
   .exact .inl z
   .exact .inr ⟨x,ž,qm o⟩
  .let⟨c,D,q,_,s,l⟩:=T.EB j n k _ g;have:a=c:=by omega
   subst this;rw[f]at s;cases s;exact .inr ⟨i,ž,by rw[l];exact qm e⟩
 .let E:=yk e;rw[aM (by omega)]at t;by_cases c:x=i
  .subst c;rw[e]at t;have:j=a:=by have:=cB t;omega
   subst this;rw[k]at f;cases f;exact aG _ d
  .exact aT _ (h.cl x ž a m t f z d)
def BI.all(T:TW ns)(C:ns[k0]?=Y n0)(h:BI ns k0 n0 r r.length)(z:Int):z∈r↔Wn ns Z' k0 z:=by
 constructor
 .intro y;let(j,n,a,b,c):=h.ok z y;exact⟨j,n,a,b,.inr ⟨rfl,c⟩⟩
 .rintro⟨j,n,rfl,i,d⟩;let A:=d.elim (λe=>by rw[e];exact .refl _) And.right;let l:∀(m j:Nat) (n:Nd),j<m->ns[j]?=Y n->JT ns n.par k0->(j:Int)∈r:=λm=>by
   induction m with
   |zero=>omega|succ m ih=>
    intro j n F i A;generalize v:n.par=p at A;cases A with
    |refl=>let⟨o,g,k⟩:=T.back j n i k0 v;rw[C]at g;cases g;exact h.k _ k
    |@up _ s t _ q f D=>let E:=(T.par j n i).2;let(x,u,B):=dN.mp (ih s t ž f D);let(o,g,k):=T.back j n i s (v.trans q);rw[f]at g;cases g;exact h.cl x u s t Ż f _ k
  exact l _ j n (oY _) i A
abbrev eW(ns:List Nd)(k0:Nat)(b:Bool)(r:List Int)(i:Nat):cE:=[Y (lU ns),Y (.int (k0:Int)),Y (.str (gS b)),Y (.lst (r.map D.int)),Y (.int (i:Nat))]
abbrev tW:DT:=gj (dB (e2 xG (eV 4) (aW fY sn))) (dB (e2 gQ (eV 2) kt))
def LW:tW (eW ns k0 b r i)=Y (decide (i<r.length)&&b):=by
 let l:aW fY sn (eW ns k0 b r i)=Y (.int r.length):=by show fY [.lst _]=_;simp[fY]
 refine(vJ (GU (f:=eV 4) rfl l) (Ry (x:=Z') rfl)).trans ?_
 simp_all
def OB{b:Bool}{j:Nat}{n:Nd}(e:r[i]?=Y (j:Int))(a:ns[j]?=Y n)(l:r.length+n.kd.length<=2000):mB (eW ns k0 b r i)=Y (.nx (eW ns k0 b (r++n.kd) (i+1))):=by
 let q:e2 bW (e2 bW (eV 0) (e2 bW (eV 3) (eV 4))) nb (eW ns k0 b r i)=Y (.lst (n.kd.map D.int)):=by have:e2 bW (e2 bW (eV 0) (e2 bW (eV 3) (eV 4))) nb (eW ns k0 b r i)=((n9 (r.map D.int) (i:Int)).bind _).bind _:=rfl;rw[this,gY (show (r.map D.int)[i]?=Y (.int (j:Int)) by simp_all)];show (n9 (ns.map IK) (j:Int)).bind _=_;rw[Ep a];rfl
 let f:NX (eV 3) (e2 bW (e2 bW (eV 0) (e2 bW (eV 3) (eV 4))) nb) (eW ns k0 b r i)=Y ((r++n.kd).map D.int):=by unfold NX;rw[q];show (if (r.map D.int).length+(n.kd.map D.int).length<=eJ then _ else M)=_;rw[if_pos (by rw[az,az];exact bX l (cW (bD (by decide) K21.yu))),bT]
 unfold mB;rw[aB (by unfold jq;rw[f];rfl)];rfl
theorem OA(T:TW ns)(o:ns[k0]?=Y n0)(g:ns.length<=1000):∀(m:Nat) (r:List Int) (i N:Nat),ns.length<=m+i->m<N->i<=r.length->BI ns k0 n0 r i->∃a,BI ns k0 n0 a a.length/\l' tW mB N (eW ns k0 Z' r i)=Y (.nx (eW ns k0 Z' a a.length))
 |m,r,i,0,_,h,_,_=>by trivial
 | m,r,i,N+1,h,hN,hi,B=>by
  let l:=B.len;by_cases c:i<r.length
  .obtain⟨b,rfl⟩:∃b,m=b+1:=⟨m-1,ž⟩;let e:=ao c;let(j,n,k,d,_):=B.ok _ (uT c);rw[k]at e;have f:=B.step T e d;let(a,R,E):=OA T o g b _ _ N ž ž (by rw[aS];omega) f;refine⟨a,R,?_⟩;rw[l',LW,decide_eq_true c];rw[OB e d (by have:=f.len;rw[aS]at this;omega)];exact E
  .have:i=r.length:=by omega
   subst this;refine⟨r,B,?_⟩;rw[l',LW];simp
def JZ(T:TW ns)(g:ns.length<=1000)(e:ns[k0]?=Y n0)(b:Bool):∃r:List Int,js [lU ns,.int (k0:Int),.str (gS b)]=Y (r.map D.int)/\r.Nodup/\∀z,z∈r↔Wn ns b k0 z:=by
 let m:js [lU ns,.int (k0:Int),.str (gS b)]=(qb [Y (lU ns),Y (.int (k0:Int)),Y (.str (gS b)),M,M]).bind Gs:=rfl;rw[m];unfold qb;have q0:dB wS [Y (lU ns),Y (.int (k0:Int)),Y (.str (gS b)),M,M]=Y false:=by rw[GU (x:=(k0:Int)) (y:=0) rfl rfl,decide_eq_false (by simp)]
 have q1:gj (dB wS) ã [Y (lU ns),Y (.int (k0:Int)),Y (.str (gS b)),M,M]=Y false:=by
  unfold gj;rw[q0]
  exact Ÿ
 rw[aB (xw q1),aB (xw q0)];have q2:zS (e2 bW (e2 bW (eV 0) (eV 1)) nb) [Y (lU ns),Y (.int (k0:Int)),Y (.str (gS b)),M,M]=Y (n0.kd.map D.int):=by
  have:e2 bW (e2 bW (eV 0) (eV 1)) nb [Y (lU ns),Y (.int (k0:Int)),Y (.str (gS b)),M,M]=(n9 (ns.map IK) (k0:Int)).bind λd=>bW d (.int 2):=rfl
  unfold zS;rw[this,Ep e];rfl
 rw[aB (by unfold jq;rw[q2];rfl)];rw[aB (ρ':=eW ns k0 b n0.kd 0) rfl];let fin:∀ {r:List Int}{i:Nat},(Ba 3 (eW ns k0 b r i)).bind Gs=Y (r.map D.int):=fun {r i}=>rfl
 cases b with
 |false=>
  let w:wj 1000000 tW mB (eW ns k0 Z_ n0.kd 0)=Y (.nx (eW ns k0 Z_ n0.kd 0)):=by show l' _ _ (999999+1) _=_;rw[l',LW];simp
  rw[aB w,fin];refine⟨_,rfl,T.nd k0 n0 e,λz =>?_⟩;constructor
  .intro k;let(j,n,a,_,c,d):=T.EB k0 n0 e z k;exact⟨j,n,a,c,.inl d⟩
  .rintro⟨j,n,rfl,l,d|⟨d,_⟩⟩
   .let⟨o,f,h⟩:=T.back j n l k0 d
    simp_all
   .cases d
 |true=>let⟨r,R,E⟩:=OA T e g ns.length n0.kd 0 1000000 ž ž ž (.new T e);let w:wj 1000000 tW mB (eW ns k0 Z' n0.kd 0)=Y (.nx (eW ns k0 Z' r r.length)):=E;rw[aB w,fin];exact⟨_,rfl,R.nd,R.all T e⟩
end
section
variable {ns:List Nd}
def OC{f:List Tr}(B:Sh b x g f)(e:b=Z'):Tr.nd y h∈g->Sh Z' y h f:=by
 induction B with
 |Z m=>exact λz =>.Ct m (.Z z)
 |Ct m _ ih=>exact λz =>.Ct m (ih e z)
def OL{z:Int}{c:Nat}{b:Nd}(d:ns[c]?=Y b){a:Int}(h:JT ns z a):a=c->JT ns z b.par:=by
 induction h with
 |refl=>rintro rfl;exact .up rfl d (.refl _)
 |up e g _ ih=>exact λq =>.up e g (ih q)
def JD(T:TW ns){b:Bool}{x:aJ}{g:List Tr}{k:Nat}{n:Nd}(e:ns[k]?=Y n):Sh b x g (AL ns k)↔∃(j:Nat) (m:Nd),ns[j]?=Y m/\(m.par=k\/(b=Z'/\JT ns m.par k))/\x=m.nm/\g=AL ns j:=by
 constructor
 .intro B;generalize hf:AL ns k=f at B
  induction B generalizing k n with
  |Z m=>
   rw[<- hf]at m;rcases(uA T e _).mp m with⟨t,z,_⟩|⟨j,c,hj,ec,z⟩
   .cases z
   .cases z;let(i,c',q,_,XN,p):=T.EB k n e _ hj;have:j=i:=by omega
    subst this;rw[ec]at XN;cases XN;exact⟨j,c,ec,.inl p,rfl,rfl⟩
  |Ct m _ ih=>
   rw[<- hf]at m;rcases(uA T e _).mp m with⟨t,z,_⟩|⟨j,c,hj,ec,z⟩
   .cases z
   .refine af λkk =>?_
    cases z;let(i,c',q,_,XN,p):=T.EB k n e _ hj;have:j=i:=by omega
    subst this;rw[ec]at XN;cases XN;let(l,m',em,d,r):=ih ec rfl;refine kk (⟨l,m',em,.inr ⟨rfl,?_⟩,r⟩);rw[<- p];exact OL ec (d.elim (λz=>by rw[z];exact .refl _) And.right) rfl
 .rintro⟨j,m,em,d,rfl,rfl⟩;have Z:∀ {k:Nat}{n:Nd}{j:Nat}{m:Nd},ns[k]?=Y n->ns[j]?=Y m->m.par=k->Tr.nd m.nm (AL ns j)∈AL ns k:=fun {k n j m} e em p=>by let(o,eo,ko):=T.back j m em k p;rw[e]at eo;cases eo;exact(uA T e _).mpr (.inr ⟨j,m,ko,em,rfl⟩)
  rcases d with p|⟨rfl,A⟩
  .exact Ÿ
  .let key:∀(N j:Nat) (m:Nd),j<N->ns[j]?=Y m->JT ns m.par k->Sh Z' m.nm (AL ns j) (AL ns k):=λN=>by
    induction N with
    |zero=>simp_all|succ N ih=>
     intro j m hj em A;generalize hp:m.par=p at A;cases A with
     |refl=>solve_by_elim|@up _ j' n' _ q en' A'=>let lt:=(T.par j m em).2;exact OC (ih j' n' ž en' A') rfl (Z en' em (hp.trans q))
   exact key (j+1) j m (oY _) em A
def O2(ns:List Nd)(a:Option aJ)(w:Wi)(z:Int):Prop:=∃n,ns[z.toNat]?=Y n/\kh a n.nm/\qr w (AL ns z.toNat)
def Fw(ns:List Nd)(P:Int->Prop):Ss->Int->Prop
 |.nil=>P|.cons b c w r=>Fw ns (λz=>∃a,P a/\Wn ns b a z/\O2 ns c w z) r
theorem Ji(T:TW ns):∀(s:Ss) (P:Int->Prop),(∀z,P z->∃(k:Nat) (n:Nd),z=k/\ns[k]?=Y n)->((∃z,Fw ns P s z)↔∃a,P a/\w6 (λv=>True) s (AL ns a.toNat))
 |.nil,P,_=>by simp[Fw,w6]
 | .cons b t w r,P,h=>by
  rw[Fw,Ji T r _ λz ⟨a,_,⟨i,n,e,f,_⟩,_⟩=>⟨i,n,e,f⟩];constructor
  .rintro⟨z,⟨a,o,⟨i,n,rfl,f,d⟩,u,p,c,hw⟩,l⟩;let(k,m,rfl,q):=h a o;rw[cC]at *
   rw[f]at p;cases p;exact⟨k,o,_,_,(JD T q).mpr ⟨i,n,f,d,rfl,rfl⟩,c,hw,l⟩
  .rintro⟨a,o,x,g,B,c,hw,l⟩;let(k,m,rfl,q):=h a o;let(j,n,f,d,rfl,rfl):=(JD T q).mp B;exact⟨j,⟨k,o,⟨j,n,rfl,f,d⟩,n,Ż,c,Ż⟩,Ż⟩
def VP(ns:List Nd)(z:Int):Prop:=∃(k:Nat) (n:Nd),z=k/\ns[k]?=Y n
def M'{l:List Int}(h:l.Nodup)(g:∀z∈l,VP ns z):l.length<=ns.length:=by
 let a:(l.map Int.toNat).Nodup:=by
  refine Dq _ (λx y (z:x≠y/\0<=x/\0<=y)=>Ž) ?_;refine OZ (fun {x y} b d z=>⟨z,?_,?_⟩) h
  .let⟨j,_,e,_⟩:=g x b;omega
  .let⟨j,_,e,_⟩:=g y d;omega
 have:=sr ns.length _ a λx b=>by let(z,c,rfl):=eE.mp b;let(j,n,e,f):=g z c;have:=yk f;omega
 simp_all
def We(T:TW ns)(a:ns.length<=1000)(h:z = -1\/VP ns z)(b:Bool):∃r:List Int,js [lU ns,.int z,.str (gS b)]=Y (r.map D.int)/\r.Nodup/\∀y,y∈r↔Wn ns b z y:=by
 rcases h with rfl|⟨k,n,rfl,e⟩
 .exact FQ T a b
 .exact JZ T a e b
def Cu{l:List Int}:tm b (.int k) (.lst (l.map D.int))=Y (.bl (if b then !decide (k∈l) else decide (k∈l))):=by
 let s:(oz (.int k)&&(l.map D.int).all oz)=true:=by simp[oz,jn,cU]
 let v:KN (FU (.int k)) ((l.map D.int).map FU)=l.any (· == k):=by unfold KN;rw[nV,nV];rfl
 let d:l.any (· == k)=decide (k∈l):=by grind
 show O8 b _ _=_;unfold O8;rw[if_pos s,v,d]
def Qr(d:c≠Y (ae "*"))(x:aJ):∃b,tm Z_ (.str (h_ c)) (.lst [.str (ae "*"),.str x])=Y (.bl b)/\(b=Z'↔kh c x):=by
 refine⟨_,rfl,?_⟩;cases c with
 |none=>solve_by_elim|some a=>
  have:¬ae "*" = a:=λz=>d (by rw[z])
  simp[kh,KN,FU,NZ,h_,this];exact eq_comm
def Rj{t:aJ}:∀ {l:List D},(∀d∈l,∃s,d=D.str s)->∃b,tm Z_ (.str t) (.lst l)=Y (.bl b)/\(b=Z'↔D.str t∈l):=fun {l} h=>by
 let s:(oz (.str t)&&l.all oz)=true:=by simp only[oz,Bool.true_and,fX];intro d a;let(s,rfl):=h d a;rfl
 refine⟨KN (FU (.str t)) (l.map FU),?_,?_⟩
 .show O8 _ _ _=_;unfold O8;rw[if_pos s];rfl
 .unfold KN;rw[List.any_eq_true];constructor
  .rintro⟨v,c,q⟩;let(d,a,rfl):=eE.mp c;let(s,rfl):=h d a
   simp_all [FU,NZ]
  .exact λm=>⟨_,qw m,by simp[FU,NZ]⟩
def RU{l:List Bool}:tm b (.bl x) (.lst (l.map λy=>D.bl y))=Y (.bl (if b then !(l.any (· == x)) else l.any (· == x))):=by
 let s:(oz (.bl x)&&(l.map λy=>D.bl y).all oz)=true:=by simp[oz,jn,cU]
 let v:KN (FU (.bl x)) ((l.map λy=>D.bl y).map FU)=l.any (· == x):=by unfold KN;rw[nV,nV];rfl
 show O8 b _ _=_;unfold O8;rw[if_pos s,v]
end
section
variable {ns:List Nd}{FH:List D->Option D}{FA:List D->Option (List D)}
def HE(ns:List Nd)(FH:List D->Option D)(w:Wi):Prop:=∀(k:Nat) (n:Nd),ns[k]?=Y n->∃b,FH [lU ns,.int (k:Int),qv w]=Y (.bl b)/\(b=Z'↔qr w (AL ns k))
abbrev yK(b:Bool)(a:Option aJ)(w:Wi):D :=.tup [.str (gS b),.str (h_ a),qv w]
abbrev eA(ns:List Nd)(e c:Option D)(d:D)(f:List Int)(b a:Option D):cE:=[Y (lU ns),e,c,Y d,Y (.lst (f.map D.int)),b,a]
def Q7{b:Bool}{a:Option aJ}{w:Wi}(v:a≠Y (ae "*"))(H:HE ns FH w){s1 s2 s5:Option D}{fd:List Int}{k:Nat}{n:Nd}(e:ns[k]?=Y n)(l:fd.length<=1000):∃f:List Int,pj FH FA (eA ns s1 s2 (yK b a w) fd s5 (Y (.int (k:Int))))=Y (.nx (eA ns s1 s2 (yK b a w) f s5 (Y (.int (k:Int)))))/\(f=fd/\((k:Int)∈fd\/¬O2 ns a w k)\/f=fd++[(k:Int)]/\(k:Int)∉fd/\O2 ns a w k):=by
 let(x,B,u):=Qr v n.nm;let(y,A,s):=H k n e;let p:dB (e2 á (eV 6) (eV 4)) (eA ns s1 s2 (yK b a w) fd s5 (Y (.int (k:Int))))=Y (!decide ((k:Int)∈fd)):=by show (tm Z' (.int (k:Int)) (.lst (fd.map D.int))).bind _=_;rw[Cu];rfl
 let o:dB (e2 à (e2 bW (eV 3) na) (eF py)) (eA ns s1 s2 (yK b a w) fd s5 (Y (.int (k:Int))))=Y x:=by
  let q:e2 bW (e2 bW (eV 0) (eV 6)) u8 (eA ns s1 s2 (yK b a w) fd s5 (Y (.int (k:Int))))=Y (.str n.nm):=by
   have:e2 bW (e2 bW (eV 0) (eV 6)) u8 (eA ns s1 s2 (yK b a w) fd s5 (Y (.int (k:Int))))=(n9 (ns.map IK) (k:Int)).bind λd=>bW d (.int 0):=rfl
   rw[this,Ep e];rfl
  let q2:eF py (eA ns s1 s2 (yK b a w) fd s5 (Y (.int (k:Int))))=Y (.lst [.str (ae "*"),.str n.nm]):=by show Lu D.lst ((((e2 bW (e2 bW (eV 0) (eV 6)) u8 _).bind λy=>Y [y]).bind λc=>Y (.str (ae "*")::c)).bind λa=>if a.length<=1000 then Y a else M)=_;rw[q];rfl
  let q3:e2 bW (eV 3) na (eA ns s1 s2 (yK b a w) fd s5 (Y (.int (k:Int))))=Y (.str (h_ a)):=rfl;unfold dB;rw[show e2 à (e2 bW (eV 3) na) _ (eA ns s1 s2 (yK b a w) fd s5 (Y (.int (k:Int))))=Y (.bl x) by show pQ _ (λx=>pQ _ λy=>tm Z_ x y)=_;rw[q3,q2];exact B];rfl
 let j:ir (aW FH Ò) (eA ns s1 s2 (yK b a w) fd s5 (Y (.int (k:Int))))=Y y:=by have:aW FH Ò (eA ns s1 s2 (yK b a w) fd s5 (Y (.int (k:Int))))=FH [lU ns,.int (k:Int),qv w]:=rfl;unfold ir;rw[this,A];rfl
 have h:O2 ns a w k↔x=Z'/\y=true:=by
  rw[u,s];unfold O2;rw[cC];constructor
  .rintro⟨m,i,r⟩;rw[e]at i;cases i;exact r
  .exact λr=>⟨n,e,r⟩
 let t:=vJ p (vJ o j);unfold pj;rw[Qs t];by_cases c:(!decide ((k:Int)∈fd)&&(x&&y))=Z'
 .rw[if_pos c];rw[aA,aA]at c;let C:(k:Int)∉fd:=by simpa using c.1
  refine⟨fd++[(k:Int)],?_,.inr ⟨rfl,C,h.mpr c.2⟩⟩;show (if (fd.map D.int).length<eJ then _ else M)=_;rw[if_pos (by rw[az];exact K21.iV (by omega))]
  simp_all
 .rw[if_neg c];refine⟨fd,rfl,.inl ⟨rfl,?_⟩⟩;by_cases z:(k:Int)∈fd
  .exact .inl z
  .refine .inr λg=>c ?_
   have:=h.mp g;simp[z,this]
theorem OK{b:Bool}{s:Option aJ}{w:Wi}(v:s≠Y (ae "*"))(H:HE ns FH w)(A:ns.length<=1000){s1 s2 s5:Option D}:∀(l:List Int) (i:List Int) (t:Option D),(∀z∈l,VP ns z)->i.Nodup->(∀z∈i,VP ns z)->∃(f:List Int) (r:Option D),ia (gN 6) (pj FH FA) (l.map D.int) (eA ns s1 s2 (yK b s w) i s5 t)=Y (.nx (eA ns s1 s2 (yK b s w) f s5 r))/\f.Nodup/\(∀z∈f,VP ns z)/\∀z,z∈f↔z∈i\/(z∈l/\O2 ns s w z)
 |[],i,t,_,h,g=>⟨i,t,rfl,h,g,ż⟩
 | z::l,i,t,x,h,g=>by
  refine af λkk =>?_
  let(k,n,rfl,e):=x z aH;let(j,E,d):=Q7 (b:=b) v H e (fd:=i) (by have:=M' h g;omega);let u:j.Nodup/\(∀z∈j,VP ns z)/\∀z,z∈j↔z∈i\/(z=(k:Int)/\O2 ns s w k):=by grind
  let(f,r,C,a,I,c):=OK v H A l j _ (λz p=>x z (aZ _ p)) u.1 u.2.1;refine kk (⟨f,r,?_,a,I,λz =>?_⟩)
  .rw[a_,K21.jx rfl E];exact C
  grind
theorem JI(T:TW ns){b:Bool}{nm:Option aJ}{w:Wi}(hn:nm≠Y (ae "*"))(H:HE ns FH w)(sm:ns.length<=1000){s1 s2:Option D}:∀(S:List Int) (fd:List Int) (s5 s6:Option D),(∀z∈S,z = -1\/VP ns z)->fd.Nodup->(∀z∈fd,VP ns z)->∃(VY:List Int) (ZO YD:Option D),ia (gN 5) (mR FH FA) (S.map D.int) (eA ns s1 s2 (yK b nm w) fd s5 s6)=Y (.nx (eA ns s1 s2 (yK b nm w) VY ZO YD))/\VY.Nodup/\(∀z∈VY,VP ns z)/\∀z,z∈VY↔z∈fd\/∃a∈S,Wn ns b a z/\O2 ns nm w z
 |[],fd,s5,s6,_,h,g=>⟨fd,s5,s6,rfl,h,g,ż⟩
 | a::S,fd,s5,s6,hS,h,g=>by
  refine af λkk =>?_
  let(r,er,rn,rm):=We T sm (hS a aH) b;let(fd1,YD,e1,a1,a2,a3):=OK (FA:=FA) (b:=b) (s1:=s1) (s2:=s2) (s5:=Y (.int a)) hn H sm r fd s6 (λz hz=>by let(i,n,q,en,_):=(rm z).mp hz;exact⟨i,n,q,en⟩) h g;let e0:mR FH FA (eA ns s1 s2 (yK b nm w) fd (Y (.int a)) s6)=Y (.nx (eA ns s1 s2 (yK b nm w) fd1 (Y (.int a)) YD)):=by
   unfold mR iQ;have:iL (eF gt) (eA ns s1 s2 (yK b nm w) fd (Y (.int a)) s6)=(js [lU ns,.int a,.str (gS b)]):=by have:eF gt (eA ns s1 s2 (yK b nm w) fd (Y (.int a)) s6)=(js [lU ns,.int a,.str (gS b)]).map D.lst:=rfl;unfold iL;rw[this,er];rfl
   simp_all
  let(VY,ZO,ZM,e2,b1,b2,b3):=JI T hn H sm S fd1 (Y (.int a)) YD (λz hz=>hS z (aZ _ hz)) a1 a2;refine kk (⟨VY,ZO,ZM,?_,b1,b2,λz =>?_⟩)
  .rw[a_,K21.jx rfl e0];exact e2
  .rw[b3,a3,or_assoc];refine or_congr jH ?_;simp only[aV,exists_eq_or_imp];rw[rm]
theorem JH(T:TW ns)(A:ns.length<=1000):∀(s:Ss) (S:List Int) (s2 u m i f:Option D),HS s->(∀p t,m7 s p=Y t->HE ns FH t.2.2)->S.Nodup->(∀z∈S,z = -1\/VP ns z)->∃(n:List Int) (l k d c:Option D),ia (gN 3) (k8 FH FA) (hV s) [Y (lU ns),Y (.lst (S.map D.int)),s2,u,m,i,f]=Y (.nx [Y (lU ns),Y (.lst (n.map D.int)),s2,l,k,d,c])/\n.Nodup/\(∀z∈n,z = -1\/VP ns z)/\∀z,z∈n↔Fw ns (· ∈ S) s z
 |.nil,S,s2,u,m,i,f,_,_,h,g=>⟨S,u,m,i,f,rfl,h,g,λz=>jH⟩
 | .cons b j w r,S,s2,u,m,i,f,B,H,h,g=>by
  let(v,d,c,y,L,K,J):=JI (FA:=FA) (b:=b) (s2:=s2) T B.1 (H 0 _ rfl) A S [] i f g Lv (λz x=>by cases x);let E:k8 FH FA [Y (lU ns),Y (.lst (S.map D.int)),s2,Y (yK b j w),m,i,f]=Y (.nx [Y (lU ns),Y (.lst (v.map D.int)),s2,Y (yK b j w),M,d,c]):=by unfold k8;rw[aB (ρ':=eA ns _ s2 (yK b j w) [] i f) rfl];let y:iQ (iL (eV 1)) (gN 5) (mR FH FA) (eA ns (Y (.lst (S.map D.int))) s2 (yK b j w) [] i f)=Y _:=y;rw[aB y];rfl
  refine af λkk =>?_
  let(n,l,k,q,o,C,I,G,F):=JH T A r v s2 _ M d c B.2.2 (λp t e=>H (p+1) t e) L λz x =>.inr (K z x)
  refine kk (⟨n,l,k,q,o,?_,I,G,λz =>?_⟩)
  .rw[hV,K21.jx rfl E];exact C
  .rw[F,Fw]
   simp_all
def OJ(T:TW ns)(E:ns.length<=60){s:Ss}{S:List Int}(w:HS s)(H:∀p t,m7 s p=Y t->HE ns FH t.2.2)(h:S.Nodup)(g:∀z∈S,z = -1\/VP ns z)(F:S.length<64):∃r:List Int,xM 3 7 (qc FH FA) [lU ns,.lst (S.map D.int),.lst (hV s)]=Y (r.map D.int)/\r.length<64/\∀z,z∈r↔Fw ns (· ∈ S) s z:=by
 let(a,j,i,f,d,e,b,C,B):=JH (FA:=FA) T Ž s S _ M M M M w H h g;have l:a.length<64:=by
  have:(a.filter (· ≠ -1)).length<=ns.length:=M' (b.filter _) λz u=>by grind
  have:=by
   let A:∀l:List Int,l.Nodup->l.length<=(l.filter (· ≠ -1)).length+1:=λl=>by
    induction l with
    |nil=>simp|cons x l ih=>
     intro k;by_cases c:x = -1
     .subst c;have:l.filter (· ≠ -1)=l:=List.filter_eq_self.mpr λy v=>by grind
      grind
     simp_all
   exact A a b
  omega
 refine⟨wd a,?_,by rw[(lA _).length_eq];exact l,λz=>by rw[(lA _).mem_iff,B]⟩;show (qc FH FA [Y (lU ns),Y (.lst (S.map D.int)),Y (.lst (hV s)),M,M,M,M]).bind Gs=_;unfold qc;let q:iQ (iL (eV 2)) (gN 3) (k8 FH FA) [Y (lU ns),Y (.lst (S.map D.int)),Y (.lst (hV s)),M,M,M,M]=ia (gN 3) (k8 FH FA) (hV s) _:=rfl;rw[aB (q.trans e)];unfold mN;rw[K21.va (a:=a) rfl l];rfl
end
def hq{r:List D}{f a:Option D}(h:gQ (kS x) (kS k)=Y (.bl b)):dB (e2 gQ (e2 bW (eV 2) u8) (eK (kS k))) [f,d,Y (.tup (kS x::r)),a]=Y b:=by
 let e:e2 bW (eV 2) u8 [f,d,Y (.tup (kS x::r)),a]=Y (kS x):=by show n9 _ (0:Nat)=_;unfold n9;rw[uy (by simp)];rfl
 let c:e2 gQ (e2 bW (eV 2) u8) (eK (kS k)) [f,d,Y (.tup (kS x::r)),a]=gQ (kS x) (kS k):=by show (e2 bW _ _ _).bind _=_;rw[e];rfl
 unfold dB;rw[c,h];rfl
def AH(h:gQ (kS x) (kS k)=Y (.bl Z_)):gk (dB (e2 gQ (e2 bW (eV 2) u8) (eK (kS k)))) g eI [c,b,Y (.tup (kS x::r)),a]=Y (.nx [c,b,Y (.tup (kS x::r)),a]):=xw (hq h)
theorem IG:∀(l:List Int) (n:Nat),pK (l.map D.int) n=Z'
 |[],n=>by solve_by_elim
 |x::l,n=>by rw[a_,pK,IG l n];rfl
def OW(l:List Int):xm (.lst (l.map D.int)) (.lst [])=Y (.bl (!l.isEmpty)):=by
 unfold xm;rw[if_pos (by rw[lK,IG];rfl)];cases l<;>rfl
section
variable {ns:List Nd}
mutual
theorem EI(T:TW ns)(p:ns.length<=60):∀(w:Wi) (m:Nat),pI w<=m->oW w<=900->Yj w->HE ns (eM m) w
 |w,0,h,_,_=>by cases w<;>simp[pI]at h
 |.any,m+1,_,_,_=>λk n e=>by refine⟨Z',?_,by simp[qr]⟩;show (lG (eM m) (cX m) [Y (lU ns),Y (.int (k:Int)),Y (qv .any),M]).bind sW=_;generalize eM m=F;generalize cX m=G;generalize lU ns=N;exact ź
 | .txt t,m+1,_,_,_=>λk n e=>by
  let(b,i,J):=Rj (t:=t) (T.tx k n e);refine⟨b,?_,J.trans ?_⟩
  .show (lG (eM m) (cX m) [Y (lU ns),Y (.int (k:Int)),Y (.tup [kS "text",.str t]),M]).bind sW=_;generalize eM m=F;generalize cX m=G;unfold lG;rw[aB (AH (by kernel_rfl))];refine uH (hq ź) ?_;let q:e2 bW (e2 bW (eV 0) (eV 1)) na [Y (lU ns),Y (.int (k:Int)),Y (.tup [kS "text",.str t]),M]=Y (.lst n.tx):=by
    have:e2 bW (e2 bW (eV 0) (eV 1)) na [Y (lU ns),Y (.int (k:Int)),Y (.tup [kS "text",.str t]),M]=(n9 (ns.map IK) (k:Int)).bind λd=>bW d (.int 1):=rfl
    rw[this,Ep e];rfl
   let q2:e2 bW (eV 2) na [Y (lU ns),Y (.int (k:Int)),Y (.tup [kS "text",.str t]),M]=Y (.str t):=rfl;unfold e2 at q q2 ⊢;rw[q,q2];exact i
  .rw[qr,uA T e];constructor
   .exact λh =>.inl ⟨t,rfl,h⟩
   .rintro(⟨s,z,h⟩|⟨j,c,_,_,z⟩)
    .cases z;exact h
    .cases z
 | .has s,m+1,h,z,g=>λk n e=>by
  rw[pI]at h;rw[oW]at z;let K:=CS s;obtain⟨f,rfl⟩:∃f,m=f+1:=⟨m-1,ž⟩;let g:HS s:=g;let(r,C,_,I):=OJ (FA:=cX f) T p g (Cy T p s f ž ž g) (S:=[(k:Int)]) ż (λy u =>.inr ⟨k,n,by simpa using u,e⟩) ż;let C:cX (f+1) [lU ns,.lst [.int (k:Int)],.lst (hV s)]=Y (r.map D.int):=C;refine⟨!r.isEmpty,?_,?_⟩
  .show (lG (eM (f+1)) (cX (f+1)) [Y (lU ns),Y (.int (k:Int)),Y (.tup [kS "has",.lst (hV s)]),M]).bind sW=_;generalize eM (f+1)=F at *
   generalize cX (f+1)=G at *
   unfold lG;rw[aB (AH (by kernel_rfl)),aB (AH (by kernel_rfl))];refine uH (hq ź) ?_;let q:eF (j6 G Í) [Y (lU ns),Y (.int (k:Int)),Y (.tup [kS "has",.lst (hV s)]),M]=(G [lU ns,.lst [.int (k:Int)],.lst (hV s)]).map D.lst:=rfl;show (eF (j6 G _) _).bind _=_;rw[q,C];exact OW r
  .let A:=Ji T s (· ∈ [(k:Int)]) λy u=>⟨k,n,by simpa using u,e⟩
   rw[qr];let B:(!r.isEmpty)=Z'↔∃y,y∈r:=by
    cases r with
    |nil=>simp|cons a b=>exact⟨λ_=>⟨a,ż⟩,λ_=>rfl⟩
   rw[B];simp only[I];rw[A];constructor
   .rintro⟨a,E,l⟩;simp at E;subst E;rw[cC]at l;exact l
   .exact λl=>⟨k,ż,by rw[cC];exact l⟩
 | .both w,m+1,h,z,g=>λk n e=>by
  rw[pI]at h;rw[oW]at z;let(o,i,x,v):=Cz T p w m ž ž g k n e;let H:=uY w;refine⟨o.all id,?_,x⟩;show (lG (eM m) (cX m) [Y (lU ns),Y (.int (k:Int)),Y (.tup [kS "both",.lst (uZ w)]),M]).bind sW=_;generalize eM m=F at *
  generalize cX m=G at *
  unfold lG;rw[aB (AH (by kernel_rfl)),aB (AH (by kernel_rfl)),aB (AH (by kernel_rfl))];rw[aB (ρ':=[Y (lU ns),Y (.int (k:Int)),Y (.tup [kS "both",.lst (uZ w)]),Y (.lst (o.map λy =>.bl y))]) (by refine f7 ?_;unfold eF mx;rw[show iL (e2 bW (eV 2) na) [Y (lU ns),Y (.int (k:Int)),Y (.tup [kS "both",.lst (uZ w)]),M]=Y (uZ w) from rfl];simp only[ai];rw[if_pos (cW (K21.iV (by omega)))];show Lu D.lst (rA [M,Y (lU ns),Y (.int (k:Int))] _ _ _ _)=_;rw[i];rfl)]
  refine uH (hq ź) ?_;show tm Z' (.bl Z_) (.lst _)=_;rw[RU];simp only[if_true,jk,D.bl.injEq];clear i x v
  induction o with
  |nil=>rfl|cons a b ih=>cases a<;>simp_all
 | .one w,m+1,h,z,g=>λk n e=>by
  rw[pI]at h;rw[oW]at z;let(o,i,x,v):=Cz T p w m ž ž g k n e;let H:=uY w;refine⟨o.any id,?_,v⟩;show (lG (eM m) (cX m) [Y (lU ns),Y (.int (k:Int)),Y (.tup [kS "one",.lst (uZ w)]),M]).bind sW=_;generalize eM m=F at *
  generalize cX m=G at *
  unfold lG;rw[aB (AH (by kernel_rfl)),aB (AH (by kernel_rfl)),aB (AH (by kernel_rfl))];rw[aB (ρ':=[Y (lU ns),Y (.int (k:Int)),Y (.tup [kS "one",.lst (uZ w)]),Y (.lst (o.map λy =>.bl y))]) (by refine f7 ?_;unfold eF mx;rw[show iL (e2 bW (eV 2) na) [Y (lU ns),Y (.int (k:Int)),Y (.tup [kS "one",.lst (uZ w)]),M]=Y (uZ w) from rfl];simp only[ai];rw[if_pos (cW (K21.iV (by omega)))];show Lu D.lst (rA [M,Y (lU ns),Y (.int (k:Int))] _ _ _ _)=_;rw[i];rfl)]
  rw[aB (AH (by kernel_rfl))];refine Gn ?_;show tm Z_ (.bl Z') (.lst _)=_;rw[RU];simp;rfl
theorem Cz(T:TW ns)(c:ns.length<=60):∀(w:Ws) (m:Nat),Fv w<=m->xJ w<=900->V6 w->∀(k:Nat) (n:Nd),ns[k]?=Y n->∃a:List Bool,rA [M,Y (lU ns),Y (.int (k:Int))] (gN 0) gU (aW (eM m) (aC (eV 1) (aC (eV 2) Tl))) (uZ w)=Y (a.map λy =>.bl y)/\(a.all id=Z'↔xE w (AL ns k))/\(a.any id=Z'↔xD w (AL ns k))
 |.nil,m,_,_,_,k,n,e=>⟨[],rfl,by simp[xE],by simp[xD]⟩
 |.cons w r,m,h,z,d,k,n,e=>by rw[Fv]at h;rw[xJ]at z;let(b,l,f):=EI T c w m ž ž d.1 k n e;let(a,j,i,g):=Cz T c r m ž ž d.2 k n e;exact⟨b::a,tp rfl l j,by rw[jt,aA,i,xE];exact and_congr f jH,by rw[pz,bU,g,xD];exact or_congr f jH⟩
theorem Cy(T:TW ns)(c:ns.length<=60):∀(s:Ss) (m:Nat),uE s<=m+1->uc s<=900->HS s->∀p t,m7 s p=Y t->HE ns (eM m) t.2.2
 |.nil,m,_,_,_,p,t,e=>by cases e
 |.cons b d w r,m,h,z,a,0,t,e=>by rw[uE]at h;rw[uc]at z;cases e;exact EI T c w m ž ž a.2.1
 |.cons b d w r,m,h,z,a,p+1,t,e=>by rw[uE]at h;rw[uc]at z;exact Cy T c r m ž ž a.2.2 p t e
end
theorem R7{F:Nat->Nat->Prop}(T:TW ns)(v:∀(k:Nat) n p,ns[k]?=Y n->(F k p↔∃t,m7 a p=Y t/\kh t.2.1 n.nm/\qr t.2.2 (AL ns k)))(u:∀p t,m7 a p=Y t->(tz c p=Z'↔t.1=Z')):∀(s:Ss) (p:Nat),(∀j,m7 s j=m7 a (p+j))->∀z,Fw ns (Rc ns c F p) s z↔Rc ns c F (p+dE s) z
 |.nil,p,_,z=>by simp[Fw,dE]
 | .cons b q w r,p,h,z=>by
  have o:=by have:=h 0;simpa [m7] using this.symm
  let D:(λz=>∃y,Rc ns c F p y/\Wn ns b y z/\O2 ns q w z)=Rc ns c F (p+1):=by
   funext z
   refine propext ?_;rw[Rc];constructor
   .rintro⟨y,l,⟨i,n,rfl,e,d⟩,m,x,g,hw⟩;rw[cC]at x hw;rw[e]at x;cases x;refine⟨i,n,rfl,e,(v i n p e).mpr ⟨_,o,g,hw⟩,?_⟩;rcases d with d|⟨d,A⟩
    .exact .inl (by rw[d];exact l)
    .exact .inr ⟨(u p _ o).mpr d,y,A,l⟩
   .rintro⟨i,n,rfl,e,f,d⟩;let(t,C,g,hw):=(v i n p e).mp f;rw[o]at C;cases C;have B:O2 ns q w (i:Int):=⟨n,by rw[cC];exact e,g,by rw[cC];exact hw⟩;rcases d with d|⟨d,y,A,l⟩
    .exact⟨n.par,d,⟨i,n,rfl,e,.inl rfl⟩,B⟩
    .exact⟨y,l,⟨i,n,rfl,e,.inr ⟨(u p _ o).mp d,A⟩⟩,B⟩
  rw[Fw,D,R7 T v u r (p+1) (λj=>by have:=h (j+1);grind [m7]),dE]
  grind
def HQ(T:TW ns)(d:ns.length<=60)(f:HS a)(q:uE a<=11)(c:uc a<=900)(l:∀p t,m7 a p=Y t->(tz b p=Z'↔t.1=Z')):∃r:List Int,tD [lU ns,.lst [.int (-1)],.lst (hV a)]=Y (r.map D.int)/\r.length<64/\∀z,z∈r↔Rc ns b (Fk a ns) (dE a) z:=by
 let(r,o,h,i):=OJ T d f (Cy T d a 11 Ž c f) (S:=[-1]) (by trivial) (λz c =>.inl Ż) ż;refine⟨r,o,h,λz =>?_⟩;rw[<- nU (dE a),<- R7 T _ l a 0 λj=>by rw[nU]]
 .simp_all [Rc,Fk]
 simp_all [Fk]
end
theorem Ax(c:List aJ)(q:c.length=5):∀(n:Nat),
  (∀(a:Nat) (e:List Int),2*n+1<=a->∃(w:Wi) (b:List Int),ip a (qA e c (n:Int))=Y (qv w,b.map D.int)/\WB n w) /\
  (∀(a:Nat) (e:List Int),2*n+2<=a->∃(d:List Tp) (b:List Int),ic a (qA e c (n:Int))=Y (.lst (d.map Gc),b.map D.int)/\1<=d.length/\d.length<=3/\∀p∈d,TB n p):=by
 intro n;have i:∀(k:Nat),(∀(a:Nat) (e:List Int),2*k+1<=a->∃(w:Wi) (b:List Int),ip a (qA e c (k:Int))=Y (qv w,b.map D.int)/\WB k w)->(∀(a:Nat) (e:List Int),2*k+2<=a->∃(d:List Tp) (b:List Int),ic a (qA e c (k:Int))=Y (.lst (d.map Gc),b.map D.int)/\1<=d.length/\d.length<=3/\∀p∈d,TB k p):=by
  intro k r a e l;cases a with
  |zero=>trivial|succ f=>rw[ic];exact F9 (ip f) (ic f) k (k:Int) c q (λg=>r f g Ż) e
 induction n with
 |zero=>
  have j:∀(a:Nat) (e:List Int),2*0+1<=a->∃(w:Wi) (b:List Int),ip a (qA e c ((0:Nat):Int))=Y (qv w,b.map D.int)/\WB 0 w:=by
   intro a e l;cases a with
   |zero=>trivial|succ f=>rw[ip];exact AX (ip f) (ic f) 0 _ rfl c (λm h=>by cases h) (λm h=>by cases h) e
  exact Ÿ
 |succ m ih=>
  have j:∀(a:Nat) (e:List Int),2*(m+1)+1<=a->∃(w:Wi) (b:List Int),ip a (qA e c ((m+1:Nat):Int))=Y (qv w,b.map D.int)/\WB (m+1) w:=by
   intro a e l;cases a with
   |zero=>trivial|succ f=>
    rw[ip];have o:((m+1:Nat):Int)-1=(m:Int):=ż
    refine AX (ip f) (ic f) (m+1) _ rfl c (λk h =>?_) (λk h =>?_) e
    .cases h;rw[o];exact λg=>ih.2 f g Ž
    .cases h;rw[o];exact λg=>ih.1 f g Ž
  exact Ÿ
def D7(c:List Int)(f:c.length<=63)(b:List aJ)(g:b.length=5):∃(e:List Int) (a:List Tp) (d:List Int),iq [.j5 c,.int 100,.int 12]=Y (e.map D.int)/\Dh [.lst (e.map D.int),.int 3,.lst (b.map D.str)]=Y (.lst (a.map Gc),d.map D.int)/\1<=a.length/\a.length<=3/\∀p∈a,TB 3 p:=by
 let(e,k,_):=vD c f 100 12 ſ ſ ſ ſ;let(a,d,l,j,i,h):=(Ax b g 3).2 12 e ſ;exact⟨e,a,d,k,l,j,i,h⟩
end K21
namespace K21
open PySem L2
noncomputable def wG:k9->Bool|.op _=>Z'|_=>Z_
noncomputable def G_:k9->Bool|.cl=>Z'|_=>Z_
theorem CN{ρ:cE}(h:∀g:k9,dB (e2 gQ (e2 bW (eV 0) u8) (eK (.str k))) [Y (dI g)]=Y (p g)):∀a:List k9,rA [M] (gN 0) (dB (e2 gQ (e2 bW (eV 0) u8) (eK (.str k)))) (eV 0) (a.map dI)=Y ((a.filter p).map dI)
 |[]=>rfl| g::a=>by
  rw[a_,rA];let c:gN 0 (dI g) [M]=Y [Y _]:=rfl;let b:eV 0 [Y _]=Y (dI g):=rfl;rw[c];simp only[ai,h g,b,CN (ρ:=ρ) h a]
  grind
theorem ql:∀(a:List k9) (d:Nat) (b:Bool) (f:Nat) (i:Bool),lY a (d,b)=Y (f,i)->(d:Int)+(a.filter wG).length-(a.filter G_).length=f
 |[],d,b,f,i,h=>by cases h;simp
 | g::a,d,b,f,i,h=>by
  rw[lY]at h;cases g with
  |op n=>
   by_cases c:0<d\/b=Z_
   .let e:iw (d,b) (.op n)=Y (d+1,Z'):=by show (if _ then _ else _)=_;rw[if_pos c]
    rw[e]at h;have:=ql a _ _ f i h;simp only[FK,wG,G_,bZ];omega
   simp_all [iw,if_neg]
  |tx n=>
   by_cases c:0<d
   .let e:iw (d,b) (.tx n)=Y (d,b):=by show (if _ then _ else _)=_;rw[if_pos c]
    rw[e]at h;have:=ql a d b f i h
    exact Ÿ
   simp_all [iw,if_neg]
  |cl=>
   by_cases c:0<d
   .let e:iw (d,b) .cl=Y (d-1,b):=by show (if _ then _ else _)=_;rw[if_pos c]
    rw[e]at h;have:=ql a _ b f i h;simp only[FK,wG,G_,bZ];omega
   simp_all [iw,cl,if_neg]
def EV(n:a.length<=1000)(h:lY a (0,Z_)=Y (d,b)):mJ [.lst (a.map dI)]=Y (.int (d:Nat)):=by
 show (yo [Y _]).bind _=_;let m:mx (iL (eV 0)) [M] (gN 0) sB (eV 0) [Y (.lst (a.map dI))]=Y ((a.filter wG).map dI):=by unfold mx;show (if (a.map dI).length<=eJ then rA [M] (gN 0) _ (eV 0) (a.map dI) else M)=_;rw[if_pos (cW (iV (by rw[az];omega)))];exact CN (ρ:=[]) (λg=>by cases g<;>kernel_rfl) a
 let l:mx (iL (eV 0)) [M] (gN 0) (dB (e2 gQ (e2 bW (eV 0) u8) Re)) (eV 0) [Y (.lst (a.map dI))]=Y ((a.filter G_).map dI):=by unfold mx;show (if (a.map dI).length<=eJ then rA [M] (gN 0) _ (eV 0) (a.map dI) else M)=_;rw[if_pos (cW (iV (by rw[az];omega)))];exact CN (ρ:=[]) (λg=>by cases g<;>kernel_rfl) a
 let k:aW fY Ó [Y (.lst (a.map dI))]=Y (.int ((a.filter wG).length:Nat)):=by rw[uI m];show Y (D.int (((a.filter wG).map dI).length:Nat))=_;rw[az]
 let j:aW fY (aC AT aN) [Y (.lst (a.map dI))]=Y (.int ((a.filter G_).length:Nat)):=by rw[uI l];show Y (D.int (((a.filter G_).map dI).length:Nat))=_;rw[az]
 unfold yo iy;rw[show ∀(f g:DF) c,L2.e2 m6 f g c=(f c).bind λx=>(g c).bind λy=>m6 x y from λe e e=>rfl,k,j];have:=ql a 0 Z_ d b h;show Y (D.int (((a.filter wG).length:Nat)-((a.filter G_).length:Nat):Int))=_
 simp_all
end K21
namespace K21
open PySem L2 K30
inductive TR:List k9->List Nd->List Nat->List Nd->List Nat->Prop
 |nil {us st}:TR [] us st us st
 |cons {s gs us st u v ns sv}:Ts us st s u v->TR gs u v ns sv->TR (s::gs) us st ns sv
def TR.app{a:List k9}{f:List Nd}{v:List Nat}(h:TR a c e u v)(g:TR b u v f d):TR (a++b) c e f d:=by
 induction h with|nil=>exact g|cons t _ ih=>exact .cons t (ih g)
def TR.fut{a:List Nd}(h:TR e a b c d):Sg a b c:=by
 induction h with
 |nil=>exact⟨.refl _,λf f f=>rfl⟩
 |cons t _ ih=>exact ih.step t
def TR.tw{a:List Nd}(h:TR e a d b c)(T:TW a):TW b:=by
 induction h with|nil=>exact T|cons t _ ih=>exact ih (t.tw T)
def TR.len{c:List k9}{a b:List Nd}{e:List Nat}(h:TR c a e b d):b.length=a.length+(c.filter wG).length:=by
 induction h with|nil=>rfl|cons t _ ih=>rw[ih];cases t<;>simp_all [wG,List.filter_cons]<;>lia
def T5{a b:List Nd}{d c:List Nat}{s:k9}(O:xC a d)(t:Ts a d s b c):xn (a,K21.He d) (dI s)=Y (b,K21.He c):=by
 cases t with
 |@TN x=>kernel_rfl|@op k n d x e=>
  let f:=yk e;let A:xn (a,k) (.tup [.str L2.ve,.str x])=if 0<=k then (match (a++[xo x k])[(k:Int).toNat]? with|some n=>Y ((a++[xo x k]).set (k:Int).toNat { n with kd:=n.kd++[(a.length:Int)] },(a.length:Int))|none=>M) else Y (a++[xo x k],a.length):=by solve_by_elim
  refine Eq.trans A ?_;rw[cC,aM f,e];show Y _=_;rw[List.set_append_left _ _ f]
  exact Ÿ
 |@tx k n d x e=>
  let A:xn (a,k) (.tup [.str L2.vd,.str x])=if 0<=k then (match a[(k:Int).toNat]? with|some n=>Y (a.set (k:Int).toNat { n with tx:=n.tx++[.str x] },(k:Int))|none=>M) else none:=by solve_by_elim
  refine Eq.trans A ?_;rw[cC,e];rfl
 |@cl k=>obtain⟨⟨n,e,p⟩,_⟩:=O;show (if ae "close" = L2.pH then (if 0<=k then a[(k:Int).toNat]?.map _ else M) else M)=_;rw[if_pos (show ae _=L2.pH from rfl),cC,e,<- p];rfl
def TR.run{e:List k9}{a:List Nd}(h:TR e a c d b):xC a c->zh (e.map dI) (a,K21.He c)=Y (d,K21.He b)/\xC d b:=by
 induction h with
 |nil=>solve_by_elim|cons t _ ih=>intro O;rw[a_,zh,T5 O t];exact ih (t.WZ O)
def Rz{f:List Nd}{a:List Nat}{s:k9}(O:xC f a)(h:iw (a.length,b) s=Y (g,i)):∃d c,Ts f a s d c/\c.length=g:=by
 cases s with
 |op x=>
  simp only[iw]at h;split at h<;>cases h
  cases a with
  |nil=>exact⟨_,_,.TN,rfl⟩|cons k a=>obtain⟨⟨n,e,_⟩,_⟩:=O;exact⟨_,_,.op e,rfl⟩
 |tx x=>
  simp only[iw]at h;split at h<;>cases h
  cases a with
  |nil=>simp at *|cons k a=>obtain⟨⟨n,e,_⟩,_⟩:=O;exact⟨_,_,.tx e,rfl⟩
 |cl=>
  simp only[iw]at h;split at h<;>cases h
  cases a with|nil=>simp at *|cons k a=>exact⟨_,_,.cl,rfl⟩
theorem RA:∀(f:List k9){e:List Nd}{d:List Nat}{b i:Bool}{g:Nat},xC e d->lY f (d.length,b)=Y (g,i)->∃c a,TR f e d c a/\a.length=g
 |[],e,d,b,i,g,O,h=>by cases h;exact⟨e,d,.nil,rfl⟩
 |s::f,e,d,b,i,g,O,h=>by obtain⟨⟨m,n⟩,k,j⟩:=aa.1 h;let(u,v,t,l):=Rz O k;subst l;let(c,a,r,l):=RA f (t.WZ O) j;exact⟨c,a,.cons t r,l⟩
section
variable {a:Ss}{f:w8}{fm:Int}{fit lift:Int->Int->Int}{gV txt:aJ->Int}{F:Fa}
structure SV(a:Ss)(f:w8)(fm:Int)(fit lift:Int->Int->Int)(gV txt:aJ->Int)(F:Fa)(d:Nat)(b:Bool)(us:List Nd)(st:List Nat)(c:kq)(T:List Int)(n:Nat):Prop where
 si:SI f fm fit c T.length d b
 ex:EX fit f.inner fm c.rows
 tk:c.taken=n
 tw:TW us
 op:xC us st
 dl:st.length=d
 on:c.opened=us.length
 al:∀ns,TW ns->Sg us st ns->ST f fm fit lift gV txt ns (AWn F ns) (Fk a ns) us st c T
def SV.step(W:FW f fm fit lift gV txt)(X:FX a f.inner fm fit lift gV txt F){d':Nat}(V:SV a f fm fit lift gV txt F d b j p c T n)(L:n<=45){s:k9}(g:iw (d,b) s=Y (d',z)):∃h i y A r,lb [pG c T,dI s]=Y (r,pG y A)/\Ts j p s h i/\SV a f fm fit lift gV txt F d' z h i y A (n+1):=by
 let(q,o,e,I,m,v,P):=WD W V.si V.ex (by rw[V.tk];lia) s g;let H:=V.dl;subst H;let(h,i,t,l):=Rz V.op g;let J:=I.Ti;have K:=by have:=I.tk;rw[m,V.tk]at this;omega
 have D:(T++q).length<64:=by rw[aS];omega
 have B:(wd (T++q)).length=T.length+q.length:=by rw[(lA _).length_eq,aS]
 refine⟨h,i,o,wd (T++q),_,Pl e D,t,⟨by rw[B];exact I,v,by rw[m,V.tk];rfl,t.tw V.tw,t.WZ V.op,l,?_,λC k u =>?_⟩⟩
 .cases P with
  |cl w=>cases t;exact V.on|@tx x r E G w e1=>cases t;show (kP fit lift (fF c) (txt x) r).opened=_;rw[show (kP fit lift (fF c) (txt x) r).opened=c.opened by unfold kP;split<;>rfl,V.on,vV]
  |op w e1=>show c.opened+1=_;rw[V.on];cases t<;>simp
 .exact(V.al C k (u.step t)).step W (Wf X k) (RG W X) V.si V.ex V.tw V.op V.on t u P v (λx=>by rw[(lA _).mem_iff,aO])
def SV.new(j:1<=f.q.length):SV a f fm fit lift gV txt F 0 Z_ [] [] ⟨f,2 ^ f.q.length,fm,0,0,[rT],[]⟩ [] 0:=by
 refine⟨SI.new,⟨λi r e=>by simp at e,λi p r g e=>by simp at e,λi p r g e=>by simp at e,⟨0,[],rfl⟩⟩,rfl,⟨λk n e=>by simp at e,λk n e=>by simp at e,λk n e=>by simp at e,λk n e=>by simp at e,λk n e=>by simp at e⟩,trivial,rfl,rfl,λg d u =>?_⟩;have c:∀r∈[rT],∀k:Nat,r.number=k->False:=λr b k e=>by simp at b;subst b;let e:(-1:Int)=k:=e;trivial
 refine⟨⟨rfl,λr b k n e=>(c r b k e).elim,λr b=>by simp at b;subst b;exact yy _,λr b k n e=>(c r b k e).elim,λr b k n e=>(c r b k e).elim⟩,λi q r g e=>by simp at e,⟨λx h=>(by cases h),λr b t =>?_,λk h =>?_,λy h=>(by cases h),λy h=>(by cases h),λy h=>by cases h⟩⟩
 .simp at b;subst b;have:=rR.mp (t)
  lia
 trivial
def SV.fin(W:FW f fm fit lift gV txt)(X:FX a f.inner fm fit lift gV txt F){l:List Nd}{st:List Nat}(V:SV a f fm fit lift gV txt F d b l st c T n){j:List Nd}(o:TW j)(u:Sg l st j):(∀x∈T,Rc j f.inner (Fk a j) f.q.length x)/\∀k:Nat,k<l.length->Rc j f.inner (Fk a j) f.q.length k->(k:Int)∈T\/(k:Int)∈tI c:=by
 let Z:=V.al j o u;refine⟨Z.tj.t1,λk v h =>?_⟩;rcases Z.tj.t3 k (by rw[V.on];lia) h with g|g|⟨y,p,e⟩
 .rw[<- Z.r0.num]at g;let(r,m,e):=eE.mp g;let(i,s,t):=dN.mp m;by_cases z:tz r.aK f.q.length=Z'
  .exact .inl (by rw[<- e];exact Z.tj.t2 r m z)
  .right;refine aG _ (eE.mpr ⟨r,fc.mpr ⟨m,?_⟩,e⟩);unfold LB;rw[V.si.fu,pA,fI,rS,((Cw (RG W X) Z.r0 V.ex V.op u.1 i r (by simp_all)).1 _ (by rw[e];exact h))];simpa using z
 .exact .inl g
 .right;exact aT _ (eE.mpr ⟨y,p,e⟩)
def SV.over(E:1<=f.q.length){m:List Nd}(V:SV a f fm fit lift gV txt F 0 b m q c T n):tI c=[]:=by
 have Z:=V.al m V.tw ⟨.refl _,λG G G=>rfl⟩;let D:=V.dl;let A:=List.eq_nil_of_length_eq_zero D;let(x,g,e):=V.ex.xt;let r:=V.si.len;let C:g=[]:=by simp_all
 subst C;let B:c.rests=[]:=by
  cases h:c.rests with
  |nil=>rfl|cons y l=>
   have k:y∈c.rests:=by rw[h];simp
   let(j,v):=Z.tj.lv y k;let s:y.place.toNat=0:=by have:=(Z.tj.rs y k).1;simp_all [mw]
   have d:c.rows[y.place.toNat]?=Y { rT with atoms:=x }:=by rw[s,e];rfl
   let(z,w):=v _ d;let(u,t):=Z.tj.nh y k _ d;rw[bU,bne_iff_ne,bne_iff_ne,DB,DB]at j;let o:=rR.mpr rfl;rcases j with⟨p,i⟩|⟨p,i⟩
   .have:p=0:=rR.mp (z p i);subst this;have:=u 0 i;rw[show ({ rT with atoms:=x }:dH).aK=1 from rfl,o]at this;cases this
   .have:p=0:=rR.mp (w p i);subst this;have:=t 0 i;rw[show ({ rT with atoms:=x }:dH).ra=1 from rfl,o]at this;cases this
 unfold tI;rw[B,e];have:LB c.full { rT with atoms:=x }=false:=by
  unfold LB;rw[V.si.fu,pA,fI];have:tz (1:Int) f.q.length=false:=by
   cases h:tz _ f.q.length with
   |false=>rfl|true=>have:=rR.mp h;omega
  rw[show ({ rT with atoms:=x }:dH).fW=1 from rfl,this];rfl
 simp[this]
end
noncomputable abbrev YV:List aJ:=[ae "x",ae "",ae "y x",ae "\"",ae "[a]"]
abbrev eG(g f e:Option D)(a:List aJ)(h:List k9)(d:Int)(c b:Option D):cE:=[g,f,e,Y (.lst (a.map D.str)),Y (.lst (YV.map D.str)),Y (.lst (h.map dI)),Y (.int d),c,b]
def UM{f g:DF}{ρ:cE}(h:f ρ=Y (.int x))(k:g ρ=Y (.int y)):dB (e2 vk f g) ρ=Y (decide (y<x)):=by
 unfold dB e2;rw[h,k];rfl
def IB{xs:List aJ}(l:xs.length=5){ρ:cE}{i:Nat}{c:Int}(h:eV i ρ=Y (.lst (xs.map D.str)))(k:eV 7 ρ=Y (.int c)):∃x,e2 bW (eV i) (e2 gB (e2 iU (eV 7) Tk) am) ρ=Y (.str x):=by
 let(x,e,_):=vG (xs:=xs) (z:=c/7%5) (c_ _ ſ) ŷ;refine⟨x,?_⟩;let q:e2 gB (e2 iU (eV 7) Tk) am ρ=Y (.int (c/7%5)):=by
  let q1:e2 iU (eV 7) Tk ρ=Y (.int (c/7)):=by
   unfold e2;rw[k]
   exact Ÿ
  show pQ _ (λx=>pQ _ λy=>gB x y)=_;rw[q1]
  exact Ÿ
 show pQ _ (λx=>pQ _ λy=>bW x y)=_;rw[h];show pQ (e2 gB (e2 iU (eV 7) Tk) am ρ) (λy=>bW _ y)=_;rw[q];exact e
def Ib{f:DF}(h:f a=Y (.str x)):iu (aC (eK (.str (ae k))) (aC f aN)) a=Y (.tup [.str (ae k),.str x]):=by
 unfold iu aC;rw[h];rfl
def HP{b:List k9}{f:DF}{s:k9}(h:f (eG k j i a b d g c)=Y (dI s))(l:b.length<=1000):nH 5 f (eG k j i a b d g c)=Y (.nx (eG k j i a (b++[s]) d g c)):=by
 let e:kv 5 (eG k j i a b d g c)=Y _:=rfl;unfold nH;rw[e,h];simp only[ai];rw[if_pos (by rw[az];exact K21.iV (by omega))];unfold eG;rw[bT];rfl
def Qz{s0 s1 s2 s8:Option D}{a:List aJ}(n:a.length=5){gs:List k9}{d:Nat}{b:Bool}{c:Int}(l:gs.length<=1000):∃(e:List k9) (g:Nat) (o:Bool),k7 (eG s0 s1 s2 a gs (d:Int) (Y (.int c)) s8)=Y (.nx (eG s0 s1 s2 a (gs++e) (g:Int) (Y (.int c)) (Y (.int (c%7)))))/\lY e (d,b)=Y (g,o)/\e.length<=1/\g<=d+1:=by
 unfold k7;let q0:e2 gB (eV 7) Tk (eG s0 s1 s2 a gs (d:Int) (Y (.int c)) s8)=Y (.int (c%7)):=by show gB (.int c) (.int 7)=_;rw[l4 (by simp)]
 rw[aB (ρ':=eG s0 s1 s2 a gs (d:Int) (Y (.int c)) (Y (.int (c%7)))) (f7 q0)];have j:=vJ (UM (f:=eV 6) (g:=eK (.int 0)) rfl rfl) (GU (f:=eV 8) (g:=eK (.int 3)) (ρ:=eG s0 s1 s2 a gs (d:Int) (Y (.int c)) (Y (.int (c%7)))) rfl rfl);have i:=vJ (UM (f:=eV 6) (g:=eK (.int 0)) rfl rfl) (GU (f:=eV 8) (g:=eK (.int 5)) (ρ:=eG s0 s1 s2 a gs (d:Int) (Y (.int c)) (Y (.int (c%7)))) rfl rfl);have h:=UM (f:=eV 6) (g:=eK (.int 1)) (ρ:=eG s0 s1 s2 a gs (d:Int) (Y (.int c)) (Y (.int (c%7)))) rfl rfl;by_cases m:0<d/\c%7<3
 .rw[Ja (j.trans (by simp[m]))];let(x,f):=IB n (i:=3) (c:=c) (ρ:=eG s0 s1 s2 a gs (d:Int) (Y (.int c)) (Y (.int (c%7)))) rfl rfl;rw[aB (HP (s :=.op x) (Ib f) l)];exact⟨[.op x],d+1,Z',rfl,by simp[lY,iw,m.1],ż,ž⟩
 .rw[Bq (j.trans (by simp_all))];by_cases k:0<d/\c%7<5
  .rw[Ja (i.trans (by simp[k]))];let(x,f):=IB (xs:=YV) rfl (i:=4) (c:=c) (ρ:=eG s0 s1 s2 a gs (d:Int) (Y (.int c)) (Y (.int (c%7)))) rfl rfl;rw[HP (s :=.tx x) (Ib f) l];exact⟨[.tx x],d,b,rfl,by simp[lY,iw,k.1],ż,ž⟩
  .rw[Bq (i.trans (by simp_all))];by_cases p:1<d
   .rw[Ja (h.trans (by simp;omega))];rw[aB (HP (s :=.cl) rfl l)];refine⟨[.cl],d-1,b,?_,by simp[lY,iw];omega,ż,ž⟩;have:((d:Int)-1)=((d-1:Nat):Int):=by omega
    rw[<- this];rfl
   .rw[Bq (h.trans (by simp;omega))];exact⟨[],d,b,by rw[cT];rfl,rfl,ż,ž⟩
theorem yX:∀(a b:List k9) (z:Nat×Bool),lY (a++b) z=(lY a z).bind (lY b)
 |[],b,z=>rfl| s::a,b,z=>by
  rw[lT,lY,lY];cases iw z s with
  |none=>rfl|some y=>exact yX a b y
theorem NG{s0 s1 s2:Option D}{a:List aJ}(n:a.length=5):∀(i:List Int) (e:List k9) (d:Nat) (b:Bool) (j h:Option D),e.length+i.length<=1000->∃(k:List k9) (m:Nat) (y:Bool) (g f:Option D),ia (gN 7) k7 (i.map D.int) (eG s0 s1 s2 a e (d:Int) j h)=Y (.nx (eG s0 s1 s2 a (e++k) (m:Int) g f))/\lY k (d,b)=Y (m,y)/\k.length<=i.length/\m<=d+i.length
 |[],e,d,b,j,h,_=>⟨[],d,b,j,h,by rw[cT];solve_by_elim,rfl,Ÿ,ż⟩
 |c::i,e,d,b,j,h,l=>by let(o,v,x,t,q,C,A):=Qz (d:=d) (b:=b) n (gs:=e) ž;let(r,u,w,g,f,s,p,B,z):=NG n i (e++o) v x _ _ ŷ;refine⟨o++r,u,w,g,f,?_,by simp_all [yX],ŷ,ŷ⟩;rw[a_,K21.jx rfl t,<- bY];exact s
theorem Bc:∀(k d:Nat) (b:Bool),k<=d->lY (bF k .cl) (d,b)=Y (d-k,b)
 |0,d,b,_=>rfl| k+1,d,b,h=>by
  show (if 0<d then Y _ else M).bind _=_;rw[if_pos (by lia)];show lY _ _=_;rw[Bc k _ b (by lia)]
  lia
def Qx{ns:List Int}(O3:ns.length<=63){gs:List k9}{d:Nat}{b:Bool}(r:lY gs (0,Z_)=Y (d,b))(l:gs.length<=100){nms:List aJ}(hn:nms.length=5){t:Int}(t0:0<=t)(t1:t<=1000):∃hs:List k9,k_ [.j5 ns,.lst (gs.map dI),.int t,.lst (nms.map D.str)]=Y (.lst ((gs++hs).map dI))/\(∃d' b',lY hs (d,b)=Y (d',b'))/\(hs.filter wG).length<=20/\hs.length<=200:=by
 refine af λkk =>?_
 let(cs,ec,_,lc):=vD ns O3 t 20 t0 t1 ſ ſ;have dd:(d:Int)<=100:=by have:=ql gs 0 Z_ d b r;have:=oV wG gs;omega
 let(h1,d1,b1,s7,s8,e1,r1,l1,m1):=NG (s0:=Y (.j5 ns)) (s1:=Y (.lst (gs.map dI))) (s2:=Y (.int t)) hn cs gs d b M M ž;let hd:=EV ž r;refine kk (⟨h1++bF d1 .cl,?_,⟨_,_,by rw[yX,r1];exact Bc d1 d1 b1 (aI _)⟩,?_,?_⟩)
 .show (tq [Y (.j5 ns),Y (.lst (gs.map dI)),Y (.int t),Y (.lst (nms.map D.str)),M,M,M,M,M]).bind sW=_;unfold tq;rw[aB (ρ':=[Y (.j5 ns),Y (.lst (gs.map dI)),Y (.int t),Y (.lst (nms.map D.str)),Y (.lst (YV.map D.str)),M,M,M,M]) (f7 (by kernel_rfl))];rw[aB (ρ':=[Y (.j5 ns),Y (.lst (gs.map dI)),Y (.int t),Y (.lst (nms.map D.str)),Y (.lst (YV.map D.str)),Y (.lst (gs.map dI)),M,M,M]) rfl];rw[aB (ρ':=eG (Y (.j5 ns)) (Y (.lst (gs.map dI))) (Y (.int t)) nms gs (d:Int) M M) (f7 (by show mJ [.lst (gs.map dI)]=_;exact hd))]
  let q:iQ (iL (eF Ev)) (gN 7) k7 (eG (Y (.j5 ns)) (Y (.lst (gs.map dI))) (Y (.int t)) nms gs (d:Int) M M)=ia (gN 7) k7 (cs.map D.int) (eG (Y (.j5 ns)) (Y (.lst (gs.map dI))) (Y (.int t)) nms gs (d:Int) M M):=by
   have:eF Ev (eG (Y (.j5 ns)) (Y (.lst (gs.map dI))) (Y (.int t)) nms gs (d:Int) M M)=(iq [.j5 ns,.int t,.int 20]).map D.lst:=rfl;unfold iQ iL;rw[this,ec]
   exact Ÿ
  rw[aB (q.trans e1)];refine Gn ?_;let z:mx (Ft (eV 6)) [M] (gN 0) gU wP (eG (Y (.j5 ns)) (Y (.lst (gs.map dI))) (Y (.int t)) nms (gs++h1) (d1:Int) s7 s8)=Y ((bF d1 k9.cl).map dI):=by
   unfold mx;rw[RJ (z:=(d1:Int)) rfl (j4 _) (by lia),cC];simp only[ai];rw[if_pos (by rw[yd,az,Dl];exact cW (K21.iV (by lia))),yd];have:∀l:List Nat,rA [M] (gN 0) gU wP (l.map λk:Nat=>D.int (k:Int))=Y ((bF l.length k9.cl).map dI):=λl=>by
    induction l with|nil=>rfl|cons x l ih=>exact tp rfl rfl ih
   let h:=this (cL d1);rw[Dl]at h;exact h
  let z2:eF (mx (Ft (eV 6)) [M] (gN 0) gU wP) (eG (Y (.j5 ns)) (Y (.lst (gs.map dI))) (Y (.int t)) nms (gs++h1) (d1:Int) s7 s8)=Y (.lst ((bF d1 k9.cl).map dI)):=by unfold eF;rw[z];rfl
  let z3:∀ {ρ:cE}{f g:DF}{A B:List D},f ρ=Y (.lst A)->g ρ=Y (.lst B)->e2 f_ f g ρ=if A.length+B.length<=eJ then Y (.lst (A++B)) else none:=fun {ρ f g A B} h k=>by unfold e2;rw[h,k];rfl
  rw[z3 (A:=(gs++h1).map dI) rfl z2];rw[if_pos (by rw[az,az,aS,List.length_replicate];exact cW (K21.iV (by omega))),<- bT,bY]
 .rw[List.filter_append,aS]
  grind [bF,wG,List.filter_replicate,oV]
 grind
section
variable {a:Ss}{f:w8}{fm:Int}{fit lift:Int->Int->Int}{gV txt:aJ->Int}{F:Fa}
abbrev eL(d:List Int)(e f q a:List D)(c:kq)(T:List Int)(b:Option D):cE:=[Y (.j5 d),Y (.lst e),Y (.lst f),Y (.lst q),Y (.lst a),oS c T,b,M,M,M,M,M]
def Bv{g:DL}{ρ:cE}{l:List D}(h:g ρ=Y l):eF g ρ=Y (.lst l):=by simp_all [eF]
def abx{f:DF}(a:f d=Y x)(b:g d=Y y)(c:h d=Y z):aC f (aC g (aC h aN)) d=Y [x,y,z]:=by unfold aC;rw[a,b,c];rfl
def abw{f:DF}(a:f e=Y x)(b:g e=Y y)(c:h e=Y z)(d:k e=Y w):aC f (aC g (aC h (aC k aN))) e=Y [x,y,z,w]:=by unfold aC;rw[a,b,c,d];rfl
def Qj{f a:List D}{s:k9}(e:lb [pG c T,dI s]=Y (r,pG g h)):yw (eL b d f q a c T (Y (dI s)))=Y (.nx (eL b d f q a g h (Y (dI s)))):=by
 unfold yw f9;let q:∀G,bR "Sift" "take" gC G 5 (ju (mP (eV 6)) kj) (eL b d f q a c T (Y (dI s)))=(G [pG c T,dI s]).map λr=>(r.1,[Y (.j5 b),Y (.lst d),Y (.lst f),Y (.lst q),Y (.lst a),Y (.obj gC r.2),Y (dI s),M,M,M,M,M]):=by intro G;cases s<;>kernel_rfl
 simp_all
theorem I_(W:FW f fm fit lift gV txt)(X:FX a f.inner fm fit lift gV txt F){ns:List Int}{nm dr q ss:List D}:∀(j:List k9){d u:Nat}{b w:Bool}{k:List Nd}{m:List Nat}{c:kq}{T:List Int}{n:Nat}(p:Option D),SV a f fm fit lift gV txt F d b k m c T n->n+j.length<=45->lY j (d,b)=Y (u,w)->∃g i v x e,ia (gN 6) yw (j.map dI) (eL ns nm dr q ss c T p)=Y (.nx (eL ns nm dr q ss v x e))/\(e=p\/∃s,e=Y (dI s))/\TR j k m g i/\SV a f fm fit lift gV txt F u w g i v x (n+j.length)
 |[],d,u,b,w,k,m,c,T,n,p,V,_,h=>by cases h;exact⟨k,m,c,T,p,rfl,.inl rfl,.nil,V⟩
 | s::j,d,u,b,w,k,m,c,T,n,p,V,l,h=>by
  simp at l;refine af λkk =>?_
  obtain⟨⟨I,K⟩,E,C⟩:=aa.1 h;let(y,z,J,L,r,A,t,G):=V.step W X ž E;let(g,i,v,x,e,B,o,R,H):=I_ W X j _ G ž C;refine kk (⟨g,i,v,x,e,?_,?_,.cons t R,?_⟩)
  .rw[a_,K21.jx rfl (Qj A)];exact B
  .grind
  grind
theorem IY{c:cE}:∀(l:List Int),(∀z∈l,t (c.set 0 (Y (.int z)))=Y Z_)->rA c (gN 0) t b (l.map D.int)=Y []
 |[],_=>rfl|z::l,h=>by rw[a_,rA];let e:gN 0 (.int z) c=Y _:=rfl;rw[e];simp;rw[h z aH];exact IY l λy a=>h y Ż
def MW{g:DL}{ρ:cE}(h:g ρ=Y []):dB (e2 xm (eF g) Uf) ρ=Y false:=by
 have:eF g ρ=Y (.lst []):=by simp_all [eF]
 unfold dB e2;rw[this];rfl
def R8{s:List (Option Nat)}{t:DT}{a:DF}{ρ:cE}{l:List Int}(h:eV i ρ=Y (.lst (l.map D.int)))(n:l.length<=1000)(k:∀z∈l,t ((nG s ρ).set 0 (Y (.int z)))=Y Z_):mx (iL (eV i)) s (gN 0) t a ρ=Y []:=by
 unfold mx iL;rw[h];simp only[ai];rw[if_pos (by rw[az];exact cW (K21.iV (by lia)))];exact IY l k
abbrev eT(e:List Int)(f h q:List D)(g:List k9)(d:Option D)(c:Option D)(T i:List Int)(o:Nat)(b a:Option D):cE:=[Y (.j5 e),Y (.lst f),Y (.lst h),Y (.lst q),Y (.lst (g.map dI)),d,c,Y (.lst (T.map D.int)),Y (.lst (i.map D.int)),Y (.int (o:Nat)),b,a]
def Pf{ns:List Int}(O3:ns.length<=63){nms:List aJ}(hn:nms.length=5){dr:List D}{gs:List k9}{s5 s6 Io:Option D}{T Wt:List Int}{us:List Nd}{st:List Nat}{d:Nat}{b:Bool}(r:lY gs (0,Z_)=Y (d,b))(l:gs.length<=24)(R:TR gs [] [] us st)(dl:st.length=d)(T0:TW us)
  (ha:HS a) (hd:uE a<=11) (hz:uc a<=900) (h1:1<=dE a) (hT:T.length<=1000) (hi:∀p t,m7 a p=Y t->(tz f.inner p=Z'↔t.1=Z'))
  (fin:∀nw,TW nw->Sg us st nw->(∀x∈T,Rc nw f.inner (Fk a nw) (dE a) x)/\∀k:Nat,k<us.length->Rc nw f.inner (Fk a nw) (dE a) k->(k:Int)∈T\/(k:Int)∈Wt){t:Int}(t0:0<=t) (t1:t<=2) :
  ∃ZP,yv (eT ns (nms.map D.str) dr (hV a) gs s5 s6 T Wt us.length (Y (.int t)) Io)=Y (.nx (eT ns (nms.map D.str) dr (hV a) gs s5 s6 T Wt us.length (Y (.int t)) ZP)):=by
 obtain⟨hs,eg,⟨d',b',rh⟩,l1,l2⟩:=Qx O3 r ž hn (t:=100+50*t) ž ž;let O:=(R.run trivial).2;subst dl;let(nw,sv,R2,_):=RA hs O rh;let RR:=R.app R2;have Tn:=RR.tw ⟨λk n e=>by simp at e,λk n e=>by simp at e,λk n e=>by simp at e,λk n e=>by simp at e,λk n e=>by simp at e⟩;let ln:nw.length<=60:=by let a1:=R.len;let a2:=R2.len;have:=oV wG gs;simp at a1;omega
 let en:K21.gZ [.lst ((gs++hs).map dI)]=Y (lU nw):=by have:=(RR.run trivial).1;show (L2.gZ [.lst ((gs++hs).map dI)]).map D.lst=_;unfold L2.gZ;simp only;rw[if_pos (by rw[az,aS];omega),show zh ((gs++hs).map dI) ([],-1)=Y (nw,K21.He sv) from this];rfl
 let(w,ew,wl,hw):=HQ Tn ln ha hd hz hi;let(f1,f2):=fin nw Tn R2.fut;refine⟨Y (.lst (w.map D.int)),?_⟩;unfold yv;rw[aB (ρ':=eT ns (nms.map D.str) dr (hV a) gs s5 s6 T Wt us.length (Y (.int t)) (Y (.lst (w.map D.int)))) (f7 (by
  let q0:e2 f_ (eK (.int 100)) (e2 mu (eK (.int 50)) (eV 10)) (eT ns (nms.map D.str) dr (hV a) gs s5 s6 T Wt us.length (Y (.int t)) Io)=Y (.int (100+50*t)):=by
   let q1:e2 mu (eK (.int 50)) (eV 10) (eT ns (nms.map D.str) dr (hV a) gs s5 s6 T Wt us.length (Y (.int t)) Io)=Y (.int (50*t)):=by show mu (.int 50) (.int t)=_;rw[Vw ⟨by decide,by decide⟩]
   unfold e2 at q1 ⊢;rw[q1];rfl
  let q2:aW k_ (aC (eV 0) ä) (eT ns (nms.map D.str) dr (hV a) gs s5 s6 T Wt us.length (Y (.int t)) Io)=Y (.lst ((gs++hs).map dI)):=by unfold aW;rw[show aC (eV 0) ä (eT ns (nms.map D.str) dr (hV a) gs s5 s6 T Wt us.length (Y (.int t)) Io)=Y [.j5 ns,.lst (gs.map dI),.int (100+50*t),.lst (nms.map D.str)] from abw rfl rfl q0 rfl];exact eg
  let q3:aW K21.gZ jp (eT ns (nms.map D.str) dr (hV a) gs s5 s6 T Wt us.length (Y (.int t)) Io)=Y (lU nw):=by rw[Oy q2];exact en
  let q4:j6 tD (aC (aW K21.gZ jp) À) (eT ns (nms.map D.str) dr (hV a) gs s5 s6 T Wt us.length (Y (.int t)) Io)=Y (w.map D.int):=by unfold j6;rw[show aC (aW K21.gZ jp) À (eT ns (nms.map D.str) dr (hV a) gs s5 s6 T Wt us.length (Y (.int t)) Io)=Y [lU nw,.lst [.int (-1)],.lst (hV a)] from abx q3 rfl rfl];exact ew
  exact Bv q4))]
 let c1:dB (e2 xm zn Uf) (eT ns (nms.map D.str) dr (hV a) gs s5 s6 T Wt us.length (Y (.int t)) (Y (.lst (w.map D.int))))=Y false:=by
  refine MW (R8 (l:=w) rfl ž λz hz =>?_);have A:=vJ (GU (f:=eV 0) (g:=eV 1) (x:=z) (y:=(us.length:Int)) (ρ:=(nG [M,Y 9,Y 7,Y 8] (eT ns (nms.map D.str) dr (hV a) gs s5 s6 T Wt us.length (Y (.int t)) (Y (.lst (w.map D.int))))).set 0 (Y (.int z))) rfl rfl) (vJ (t:=dB (e2 á (eV 0) (eV 2))) (u:=dB (e2 á (eV 0) (eV 3))) (x:= !decide (z∈T)) (y:= !decide (z∈Wt)) (by show (tm Z' (.int z) (.lst (T.map D.int))).bind _=_;rw[Cu];rfl) (by show (tm Z' (.int z) (.lst (Wt.map D.int))).bind _=_;rw[Cu];rfl));refine A.trans ?_;let R0:=(hw z).mp hz;obtain⟨p,hp⟩:∃p,dE a=p+1:=⟨dE a-1,ž⟩;let R1:=R0;rw[hp,Rc]at R1;let(k,n,rfl,_):=R1;by_cases c:k<us.length
  .rcases f2 k c R0 with g|g
   .simp[g]
   .simp[g]
  .simp only[jk,Bool.and_eq_false_iff,decide_eq_false_iff_not];exact .inl ž
 let c2:dB NE (eT ns (nms.map D.str) dr (hV a) gs s5 s6 T Wt us.length (Y (.int t)) (Y (.lst (w.map D.int))))=Y false:=by refine MW (R8 (l:=T) rfl hT λz hz =>?_);show (tm Z' (.int z) (.lst (w.map D.int))).bind _=_;rw[Cu,decide_eq_true ((hw z).mpr (f1 z hz))];rfl
 rw[aB (xw c1),xw c2]
end
def aby{f:DF}(a:f c=Y x)(b:g c=Y y):aC f (aC g aN) c=Y [x,y]:=by unfold aC;rw[a,b];rfl
def XG(h:g a=Y l):j6 G g a=G l:=by simp_all [j6]
def N9{f:DF}(a:f c=Y x)(b:g c=Y y):e2 o f g c=o x y:=by simp_all [e2]
def Q0{ns:List Int}(i:Nat):∃c,j2 [.j5 ns,.int (i:Nat)]=Y (.int c):=by
 let a:j2 [.j5 ns,.int i]=(ts [Y _,Y _]).bind _:=rfl;rw[a];unfold ts;have t:dB (e2 xG (eV 1) (aW fY Tl)) [Y (.j5 ns),Y (.int i)]=Y _:=GU rfl rfl;by_cases c:i<ns.length
 .have:e2 bW (eV 0) (eV 1) [Y (.j5 ns),Y (.int i)]=Y (.int ns[i]):=by show (n9 ns _).map _=_;rw[gY (ao c)];rfl
  simp_all [uH]
 .refine⟨0,?_⟩;rw[aB (xw (by simp_all))];rfl
theorem D1:∀(a:List k9) (n:Nat) (z y:Nat×Bool),lY a z=Y y->∃x,lY (a.take n) z=Y x
 |[],n,z,y,h=>⟨z,by simp[lY]⟩
 |s::a,0,z,y,h=>⟨z,rfl⟩| s::a,n+1,z,y,h=>by
  let(x,d,c):=aa.1 h;let(w,b):=D1 a n x y c
  simp_all [List.take_succ_cons,lY]
def Yu{P:Nat->Prop}{g:DG}{τ:AR}{E:Option D->Option D->cE}(h:∀(k:Nat) (e:Option D),k<=2->∃j,g (E (Y (.int (k:Nat))) e)=Y (.nx (E (Y (.int (k:Nat))) j)))(i:∀d f e,τ d (E f e)=Y (E (Y d) e))(e:Option D):∃x y,ia τ g (lZ 0 3) (E M e)=Y (.nx (E x y)):=by
 let(a,n):=h 0 e ſ;let(b,m):=h 1 a ſ;let(c,l):=h 2 b ſ;refine⟨Y (.int 2),c,?_⟩;rw[show lZ 0 3=[.int (0:Nat),.int (1:Nat),.int (2:Nat)] from rfl,K21.jx (i _ _ _) n,K21.jx (i _ _ _) m,K21.jx (i _ _ _) l];rfl
abbrev eZ(h:List Int)(a:List aJ)(i:List Int)(j:List Tp)(g f e d c b:Option D):cE:=[Y (.j5 h),Y (.lst (a.map D.str)),Y (.lst (i.map D.int)),Y (.lst (hV (mX j))),g,f,e,d,c,b,M,M]
abbrev eY(e:List Int)(a:List aJ)(g:List Int)(h:List Tp)(f:List k9)(c:kq)(d:Option D)(T:List Int)(b:List Nd):cE:=eT e (a.map D.str) (g.map D.int) (hV (mX h)) f (oS c T) d T (wd (tI c)) b.length M M
def Nc(ns:List Int)(O3:ns.length<=63):Fi [.j5 ns]=Y (.bl Z'):=by
 let(nms,en,hn):=MX ns O3;let(e,al,dr,ec,eq,h1,h3,hw):=D7 ns O3 nms hn;let(a1,a2,a3,a4):=LZ al hw;have sz:uc (mX al)<=240:=bX a4 (by rw[show zW 3=79 from rfl];lia);have ll:dE (mX al)=al.length:=by rw[<- ui,Ii,az]
 let(xs,ex,_,hxl):=vD ns O3 500 24 ſ ſ ſ ſ;let(ss,dep,es,hsg,hsl):=Ma xs nms ž hn;let(wL,gd,gb,rfl,aaz,_,_):=hsg.ex;rw[az]at hsl;let(f,fit,lift,gV,txt,F,ef,fq,eb,W,X):=NV (mX al) a1 a2 ž ž ž;have fl:f.q.length=dE (mX al):=by rw[fq,ui]
 let Xq:=Pw (K' ž ef eb);let(cc,ecc):=Q0 (ns:=ns) 36;let em:=GN cc 9 ſ ſ;let mg:=IL cc 9;obtain⟨n,hnn⟩:∃n:Nat,((wL.length:Nat):Int)-wA cc 9%(if ((wL.length:Nat):Int) > 1 then ((wL.length:Nat):Int) else 1)=(n:Int):=by
  have p:(0:Int)<(if ((wL.length:Nat):Int) > 1 then ((wL.length:Nat):Int) else 1):=by split<;>omega
  have q1:=c_ (wA cc 9) (Int.ne_of_gt p);let q2:=cV (wA cc 9) p;generalize wA cc 9%(if ((wL.length:Nat):Int) > 1 then ((wL.length:Nat):Int) else 1)=w at *
  refine⟨(((wL.length:Nat):Int)-w).toNat,?_⟩;split at q2<;>omega
 obtain⟨⟨d,b⟩,hr⟩:=D1 wL n _ _ aaz;have gl:(wL.take n).length<=24:=by rw[uS];omega
 generalize hg:wL.take n=gs at hr gl;let(us,st,c,T,s6,XM,s6o,R,V):=I_ (ns:=ns) (nm:=nms.map D.str) (dr:=dr.map D.int) (q:=hV (mX al)) (ss:=gs.map dI) W X gs M (SV.new ž) ž hr;have so:=V.si.Ti;have VN:=V.si.tk;have sc:=V.si.cnt;have tk:=V.tk;have rl:=V.si.len;let ol:c.opened<=24:=by omega
 let wl:(tI c).length<64:=by unfold tI;rw[aS,az,az];have:=oV (LB c.full) c.rows;omega
 let ewt:=LN c ž ž wl;let us0:TW us:=V.tw;let un:=(R.run trivial).1;let aaX:K21.gZ [.lst (gs.map dI)]=Y (lU us):=by show (L2.gZ [.lst (gs.map dI)]).map D.lst=_;unfold L2.gZ;simp only;rw[if_pos (by rw[az];omega),show zh (gs.map dI) ([],-1)=Y (us,K21.He st) from un];rfl
 have aa2:=EV ž hr;show (Jh [Y (.j5 ns),M,M,M,M,M,M,M,M,M,M,M]).bind sW=_;unfold Jh;rw[aB (ρ':=[Y (.j5 ns),Y (.lst (nms.map D.str)),M,M,M,M,M,M,M,M,M,M]) (f7 ((Oy rfl).trans en))];rw[aB (ρ':=[Y (.j5 ns),Y (.lst (nms.map D.str)),Y (.lst (e.map D.int)),M,M,M,M,M,M,M,M,M]) (by unfold jq;rw[show j6 iq Ì [Y (.j5 ns),Y (.lst (nms.map D.str)),M,M,M,M,M,M,M,M,M,M]=Y (e.map D.int) from (show _=iq [.j5 ns,.int 100,.int 12] from rfl).trans ec];rfl)]
 rw[aB (ρ':=(eZ ns nms dr al M M M M M M)) (by
  have:∀G:List D->Option (D×List D),su G 2 (aC Ch pc) [Y (.j5 ns),Y (.lst (nms.map D.str)),Y (.lst (e.map D.int)),M,M,M,M,M,M,M,M,M]=(G [.lst (e.map D.int),.int 3,.lst (nms.map D.str)]).map λq=>(q.1,[Y (.j5 ns),Y (.lst (nms.map D.str)),Y (.lst q.2),M,M,M,M,M,M,M,M,M]):=λG=>rfl
  unfold lC;rw[this,eq,<- Ii];rfl)]
 rw[aB (ρ':=(eZ ns nms dr al (Y (.lst (wL.map dI))) M M M M M)) (f7 (by have q1:eF Å (eZ ns nms dr al M M M M M M)=Y (.lst (xs.map D.int)):=Bv ((show _=iq [.j5 ns,.int 500,.int 24] from rfl).trans ex);exact Bv ((XG (aby q1 rfl)).trans es)))]
 rw[aB (ρ':=(eZ ns nms dr al (Y (.lst (gs.map dI))) M M M M M)) (f7 (by
  refine Bv ?_;have q1:aW fY No (eZ ns nms dr al (Y (.lst (wL.map dI))) M M M M M)=Y (.int ((wL.length:Nat):Int)):=by show fY [.lst (wL.map dI)]=_;simp[fY]
  let q2:aW sU sw (eZ ns nms dr al (Y (.lst (wL.map dI))) M M M M M)=Y (.int (wA cc 9)):=by let q:aW j2 Op (eZ ns nms dr al (Y (.lst (wL.map dI))) M M M M M)=Y (.int cc):=ecc;rw[Se q rfl];exact em
  let q3:aW GH wT (eZ ns nms dr al (Y (.lst (wL.map dI))) M M M M M)=Y (.int (if ((wL.length:Nat):Int) > 1 then ((wL.length:Nat):Int) else 1)):=by rw[Se rfl q1];rfl
  have p:(0:Int)<(if ((wL.length:Nat):Int) > 1 then ((wL.length:Nat):Int) else 1):=by split<;>omega
  let q4:e2 gB (aW sU sw) (aW GH wT) (eZ ns nms dr al (Y (.lst (wL.map dI))) M M M M M)=Y (.int (wA cc 9%(if ((wL.length:Nat):Int) > 1 then ((wL.length:Nat):Int) else 1))):=(N9 q2 q3).trans (l4 p);let q5:e2 m6 (aW fY No) (e2 gB (aW sU sw) (aW GH wT)) (eZ ns nms dr al (Y (.lst (wL.map dI))) M M M M M)=Y (.int (n:Int)):=by rw[N9 q1 q4,<- hnn];rfl
  unfold LC pS;rw[q5];show Y (Fl (wL.map dI) M (Y (n:Int)))=_;rw[Hz _ (j4 n),cC,<- Aw,hg]))]
 rw[aB (ρ':=eL ns (nms.map D.str) (dr.map D.int) (hV (mX al)) (gs.map dI) ⟨f,2 ^ f.q.length,Ad (mX al) 0 0,0,0,[rT],[]⟩ [] M) (by
  let e:∀G,oO "Sift" G sn (eZ ns nms dr al (Y (.lst (gs.map dI))) M M M M M)=(G [.ins "Sift" [] [],.lst (hV (mX al))]).bind λr=>match r.1 with|.gA=>Y r.2|_=>none:=λG=>rfl
  unfold Il;rw[e,Xq];rfl)]
 rw[aB (ρ':=eL ns (nms.map D.str) (dr.map D.int) (hV (mX al)) (gs.map dI) c T s6) ((NR rfl).trans XM)];have rs:vR [5] [] (eL ns (nms.map D.str) (dr.map D.int) (hV (mX al)) (gs.map dI) c T s6)=(eZ ns nms dr al (Y (.lst (gs.map dI))) (Y (pG c T)) s6 M M M):=by
  rcases s6o with rfl|⟨s,rfl⟩
  .rfl
  .cases s<;>rfl
 rw[aB (ρ':=(eZ ns nms dr al (Y (.lst (gs.map dI))) (oS c T) s6 (Y (.lst (T.map D.int))) M M)) (f7 (by
  refine Bv ?_;let q:∀G:List D->Option (List D),sL "Sift" "told" G (eV 5) (eZ ns nms dr al (Y (.lst (gs.map dI))) (Y (pG c T)) s6 M M M)=G [pG c T]:=by intro G;kernel_rfl
  unfold NW;rw[rs,q,Pg c T (by omega)];simp only[ai];rw[if_pos (qG _)]))]
 let rs2:vR [5] [] (eZ ns nms dr al (Y (.lst (gs.map dI))) (oS c T) s6 (Y (.lst (T.map D.int))) M M)=(eZ ns nms dr al (Y (.lst (gs.map dI))) (Y (pG c T)) s6 (Y (.lst (T.map D.int))) M M):=by
  rcases s6o with rfl|⟨s,rfl⟩
  .rfl
  .cases s<;>rfl
 rw[aB (ρ':=(eZ ns nms dr al (Y (.lst (gs.map dI))) (oS c T) s6 (Y (.lst (T.map D.int))) (Y (.lst ((wd (tI c)).map D.int))) M)) (f7 (by
  refine Bv ?_;let q:∀G:List D->Option (List D),sL "Sift" "waiting" G (eV 5) (eZ ns nms dr al (Y (.lst (gs.map dI))) (Y (pG c T)) s6 (Y (.lst (T.map D.int))) M M)=G [pG c T]:=by intro G;kernel_rfl
  unfold NW;rw[rs2,q,FT c T ewt];simp only[ai];rw[if_pos (qG _)]))]
 rw[aB (ρ':=eY ns nms dr al gs c s6 T us) (f7 (by let q:aW K21.gZ No (eZ ns nms dr al (Y (.lst (gs.map dI))) (oS c T) s6 (Y (.lst (T.map D.int))) (Y (.lst ((wd (tI c)).map D.int))) M)=Y (lU us):=aaX;rw[Oy q];simp[fY,lU]))]
 let tst:gj (dB (e2 gQ (aW mJ No) u8)) (dB (e2 xm (eV 8) Uf)) (eY ns nms dr al gs c s6 T us)=Y false:=by
  have q1:dB (e2 gQ (aW mJ No) u8) (eY ns nms dr al gs c s6 T us)=Y ((d:Int)==0):=by let q:aW mJ No (eY ns nms dr al gs c s6 T us)=Y (.int (d:Nat)):=aa2;unfold dB;rw[N9 q rfl];rfl
  let q2:dB (e2 xm (eV 8) Uf) (eY ns nms dr al gs c s6 T us)=Y (!(wd (tI c)).isEmpty):=by unfold dB;rw[show e2 xm (eV 8) Uf (eY ns nms dr al gs c s6 T us)=xm (.lst ((wd (tI c)).map D.int)) (.lst []) from rfl,OW];rfl
  rw[vJ q1 q2];by_cases z:d=0
  .subst z;have:tI c=[]:=V.over ž;rw[this,show wd []=[] by simp[wd]];rfl
  .have:((d:Int)==0)=false:=by simp;omega
   rw[this];rfl
 rw[aB (xw tst)];let(x,y,ew):=Yu (P:=λa=>True) (τ:=gN 10) (g:=yv) (E:=λYE Io=>eT ns (nms.map D.str) (dr.map D.int) (hV (mX al)) gs (oS c T) s6 T (wd (tI c)) us.length YE Io) (λk Io hk=>Pf (f:=f) O3 hn hr gl R V.dl us0 a1 ž ž ž ž X.Ct (λnw tn u=>by let(f1,f2):=V.fin W X tn u;rw[fl]at f1 f2;exact⟨f1,λk hk h=>(f2 k hk h).imp id λm=>(lA _).mem_iff.mpr m⟩) ž ž) (λa a a=>rfl) M
 rw[aB ((NR (show Ft Ch _=Y (lZ 0 3) from by kernel_rfl)).trans ew)];rfl
end K21
namespace L2
open PySem PySem.Spec PyProof.Rows
section
variable {P:bE}{w:fw}{K:aX}{mg:aJ->Option aj}{base:dY}{x c:aJ}{sp:Sp}{f:aD}{fd:gw}{ps:List aJ}{n k:Nat}
def km.m(h:km P w K mg base x n sp)(hk:autoParam (n<=k) Ū):km P w K mg base x k sp:=h.mono hk
def gI.m(h:gI P w K mg base c x n sp)(hk:autoParam (n<=k) Ū):gI P w K mg base c x k sp:=h.mono hk
def vK.m(h:vK P w K mg base c n sp)(hk:autoParam (n<=k) Ū):vK P w K mg base c k sp:=h.mono hk
def km.o(h:km P w K mg base x n sp)(hk:autoParam (n<=k) š):km P w K mg base x k sp:=h.mono hk
def gI.o(h:gI P w K mg base c x n sp)(hk:autoParam (n<=k) š):gI P w K mg base c x k sp:=h.mono hk
def z0O{F:List D->Option (List D)}(e:∀ds,F ds=M):cZ P w K mg base i7 n f fd ps (yc K F):=by
 constructor
 .intro vs H Q E h;cases h;simp_all
 .intro A o s H args us vs Q E hr he hb hv h;cases h;simp_all
def Wd{F:List D->Option D}(e:∀ds,F ds=M):cZ P w K mg base i7 n f fd ps (jM K F):=by
 constructor
 .rintro vs H Q E ⟨G,ds,d,gh,r,eq,_⟩;rw[e]at eq;cases eq
 .rintro A o s H args us vs Q E hr he hb hv ⟨G,ds,d,gh,r,eq,_⟩;rw[e]at eq;cases eq
def z0T{s:Sk}{F:List D->Option (D×D)}(e:∀ds,F ds=M):cZ P w K mg base i7 n f fd ps (spT K s F):=by
 constructor
 .rintro vs H Q E ⟨G,t,xs,d,t',a,T,us,_,_,_,_,_,_,eq,_⟩;rw[e]at eq;cases eq
 .rintro A o s H args us vs Q E hr he hb hv ⟨G,t,xs,d,t',a,T,us,_,_,_,_,_,_,eq,_⟩;rw[e]at eq;cases eq
def z0M{F:List D->Option (D×List D)}(e:∀ds,F ds=M):cZ P w K mg base i7 n f fd ps (Ds K 0 F):=by
 constructor
 .rintro vs H Q E ⟨G,ds,d,xs',a,ws,xs,_,_,_,_,_,_,_,_,eq,_⟩;rw[e]at eq;cases eq
 .rintro A o s H args us vs Q E hr he hb hv ⟨G,ds,d,xs',a,ws,xs,_,_,_,_,_,_,_,_,eq,_⟩;rw[e]at eq;cases eq
end
end L2
namespace K21
open PySem L2
def ac{α:Type}{P:α->Prop}{a:α}{l:List α}(h:P a)(t:∀x∈l,P x):∀x∈a::l,P x:=jl.mpr ⟨h,t⟩
abbrev FA(K:aX)(x:aJ)(st:d_):Prop:=∃f fd,uO K bC x=Y (Y (.ref f))/\jy K x x st f fd
def Yp{K:aX}{x:aJ}{st:d_}{f:aD}{od an:Option aD}{sl:Array (Option aj)}{oc kV dc pm cd ct:aj}(a:uO K bC x=Y (Y (.ref f)))(l:K.lookup f=Y ⟨oc,od,.func (fnOf x x (ph st) (iT st) (aF st) .none kV dc pm an cd ct),sl⟩)(c:codeIn K cd x=Z')(k:AS K (.ref f)=Z'):FA K x st:=⟨f,_,a,NO l c k⟩
abbrev MA(K:aX)(c m qual:aJ)(st:d_):Prop:=∃C f fd,uO K bC c=Y (Y (.ref C))/\x9 K (.ref C) m=Y (Y (.ref f))/\PySem.W.isFn K (.ref f)=Z'/\jy K m qual st f fd
def Ym{K:aX}{x:aJ}{st:d_}{f:aD}{od an:Option aD}{sl:Array (Option aj)}{oc kV dc pm cd ct:aj}{c0 qual:aJ}{C:aD}(aC:uO K bC c0=Y (Y (.ref C)))(a:x9 K (.ref C) x=Y (Y (.ref f)))(i:PySem.W.isFn K (.ref f)=Z')(l:K.lookup f=Y ⟨oc,od,.func (fnOf x qual (ph st) (iT st) (aF st) .none kV dc pm an cd ct),sl⟩)(c:codeIn K cd qual=Z')(k:AS K (.ref f)=Z'):MA K c0 x qual st:=⟨C,f,_,aC,a,i,NO l c k⟩
def bk0{us:List aj}(e:us.length=0):us=[]:=by
 rcases us with _|_<;>first|rfl|simp at e
def bk1{us:List aj}(e:us.length=1):∃a,us=[a]:=by
 rcases us with _|⟨_,_|_⟩<;>first|exact⟨_,rfl⟩|simp at e
def bk2{us:List aj}(e:us.length=2):∃a b,us=[a,b]:=by
 rcases us with _|⟨_,_|⟨_,_|_⟩⟩<;>first|exact⟨_,_,rfl⟩|simp at e
def bk3{us:List aj}(e:us.length=3):∃a b c,us=[a,b,c]:=by
 rcases us with _|⟨_,_|⟨_,_|⟨_,_|_⟩⟩⟩<;>first|exact⟨_,_,_,rfl⟩|simp at e
def bk4{us:List aj}(e:us.length=4):∃a b c d,us=[a,b,c,d]:=by
 rcases us with _|⟨_,_|⟨_,_|⟨_,_|⟨_,_|_⟩⟩⟩⟩<;>first|exact⟨_,_,_,_,rfl⟩|simp at e
local macro_rules | `(tactic|walk_at "b") =>return mk0 "(T!paren [ (T!tacticSeq (T!tacticSeq1Indented (null (T!intro intro (null (M!hole _ ) (M!hole _ ) (M!hole _ ) (M!hole _ ) (M!hole _ ) (M!hole _ ) %us %hl ) ) ; (T!paren [ (T!tacticSeq (T!tacticSeq1Indented (null (T!first first (null (group | (T!tacticSeq (T!tacticSeq1Indented (null (T!tacticLet__ let (M!letConfig (null ) ) (M!letDecl (M!letPatDecl (M!anonymousCtor ⟨ (null (M!hole _ ) , %e ) ⟩ ) (null ) (null ) := (M!app %bk1 (null %hl ) ) ) ) ) ) ) ) ) (group | (T!tacticSeq (T!tacticSeq1Indented (null (T!tacticLet__ let (M!letConfig (null ) ) (M!letDecl (M!letPatDecl (M!anonymousCtor ⟨ (null (M!hole _ ) , (M!hole _ ) , %e ) ⟩ ) (null ) (null ) := (M!app %bk2 (null %hl ) ) ) ) ) ) ) ) ) (group | (T!tacticSeq (T!tacticSeq1Indented (null (T!tacticLet__ let (M!letConfig (null ) ) (M!letDecl (M!letPatDecl (M!anonymousCtor ⟨ (null (M!hole _ ) , (M!hole _ ) , (M!hole _ ) , %e ) ⟩ ) (null ) (null ) := (M!app %bk3 (null %hl ) ) ) ) ) ) ) ) ) (group | (T!tacticSeq (T!tacticSeq1Indented (null (T!tacticLet__ let (M!letConfig (null ) ) (M!letDecl (M!letPatDecl (M!anonymousCtor ⟨ (null (M!hole _ ) , (M!hole _ ) , (M!hole _ ) , (M!hole _ ) , %e ) ⟩ ) (null ) (null ) := (M!app %bk4 (null %hl ) ) ) ) ) ) ) ) ) (group | (T!tacticSeq (T!tacticSeq1Indented (null (T!tacticHave__ have (M!letConfig (null ) ) (M!letDecl (M!letIdDecl (M!letId %e ) (null ) (null ) := (M!app %bk0 (null %hl ) ) ) ) ) ) ) ) ) ) ) ) ) ) ] ) ; (T!subst subst (null %e ) ) ; (T!tacticRfl rfl ) ) ) ) ] )" #[]
section
variable {P:bE}{w:fw}{K:aX}{h base:dY}{mg:aJ->Option aj}{x c q:aJ}{st:d_}{sp:Sp}{ps:List aJ}{n:Nat}{C:aD}
structure EN(P:bE)(w:fw)(K:aX)(mg:aJ->Option aj)(base h:dY):Prop where
 X:K.In h
 G:h.Ns bC mg
abbrev CL(K:aX)(c:aJ):Prop:=∃C,uO K bC c=Y (Y (.ref C))/\Lm K C/\makesIn K C=Z'/\AS K (.ref C)=Z'
abbrev NA(K:aX)(c f:aJ):Prop:=∃C,uO K bC c=Y (Y (.ref C))/\qV K C f
def Ys(a:uO K bC c=Y (Y (.ref C)))(pg:plainGet K C Str.empty=Z')(hd:hasDictIn K C=Z')(po:plainOver K C=Z')(sa:x9 K (.ref C) "__setattr__" = Y (Y (.builtin "object.__setattr__")))(mk:makesIn K C=Z')(kc:AS K (.ref C)=Z'):CL K c:=⟨C,a,⟨pg,hd,po,sa⟩,mk,kc⟩
def Yk(a:uO K bC c=Y (Y (.ref C)))(n:x9 K (.ref C) x=Y M):NA K c x:=⟨C,a,n⟩
def abt(h:CL K c)(n:NA K c x):sV K c x:=by
 let(C,a,cl,_,_):=h;let(C',a',n):=n;intro D e;rw[a]at e a';cases e;cases a';exact⟨cl,n⟩
abbrev BB(x q:aJ)(st:d_)(ps:List aJ):Prop:=∀(kV Sj pm:aj) (an:Option aD) (l6 ct:aj) (us:List aj),us.length=ps.length->bindArgs (fnOf x q (ph st) (iT st) (aF st) .none kV Sj pm an l6 ct) ⟨us,[]⟩=fK (ps.zip us)
def FA.uW(q:FA K x st)(e:EN P w K mg base h)(o:∀f fd,jy K x x st f fd->cZ P w K mg base i7 n f fd ps sp)(hb:autoParam (BB x x st ps) Ů):km P w K mg base x n sp:=by
 let(f,fd,a,F):=q;exact⟨f,fd,ps,o f fd F,mg_of e.X e.G a,F.kp,F.binds hb⟩
def MA.uV(r:MA K c x q st)(_:EN P w K mg base h)(h:CL K c)(o:∀f fd,jy K x q st f fd->cZ P w K mg base i7 n f fd ps sp)(hb:autoParam (BB x q st ps) Ů):gI P w K mg base c x n sp:=by
 let(C',f,fd,a',i,j,F):=r;let(C,a,cl,_,_):=h;rw[a]at a';cases a';exact⟨_,f,fd,ps,a,cl,⟨i,j,F.kp⟩,o f fd F,F.binds hb⟩
def MA.VS(r:MA K c "__init__" q st)(e:EN P w K mg base h)(k:CL K c)(o:∀f fd,jy K "__init__" q st f fd->cZ P w K mg base i7 n f fd ps sp)(hb:autoParam (BB "__init__" q st ps) Ů):vK P w K mg base c n sp:=by
 let(C',f,fd,a',i,j,F):=r;let(C,a,cl,m,y):=k;rw[a]at a';cases a';exact⟨_,f,fd,ps,a,mg_of e.X e.G a,⟨m,i,j,y⟩,o f fd F,F.binds hb⟩
end
def Vx{l:PySem.W.OpenLaw}{w:fw}{K:aX}{h:dY}{mg:aJ->Option aj}{fa:aD}(X:K.In h)(G:h.Ns bC mg)(hfa:mg "law" = Y (.ref fa))(c:CL K "Facts" /\CL K "Row" /\CL K "Coming" /\CL K "Sift")(n:∀p∈KL,NA K p.1 p.2)(z:∀x∈ZL,uO K bC x=Y M)(q:FA K "joined_asks" om/\FA K "copied" wa/\FA K "copied_wish" oq/\FA K "meets" yJ/\FA K "can_hold" r4/\FA K "can_come" r8/\FA K "able_steps" pB/\FA K "top_row" ue/\FA K "_law_cell_at" ug/\FA K "_law_mix" Gb/\FA K "_law_cells" u7/\FA K "_law_names" yI/\FA K "_law_signs" yG/\FA K "_law_depth" rZ/\FA K "_law_pop" Ga/\FA K "_law_wish" yb/\FA K "_law_steps" yE/\FA K "_law_within" sZ/\FA K "_law_holds" u6/\FA K "_law_answers" uh/\FA K "_law_nodes" yH/\FA K "_law_gone_on" uf/\FA K "law" rY)(r:MA K "Facts" "new_bit" "Facts.new_bit" mh/\MA K "Facts" "enter_step" "Facts.enter_step" j_/\MA K "Facts" "enter" "Facts.enter" lr/\MA K "Facts" "enter_text" "Facts.enter_text" j9/\MA K "Facts" "lead" "Facts.lead" pD/\MA K "Facts" "asked" "Facts.asked" lu/\MA K "Facts" "enter_has" "Facts.enter_has" ja/\MA K "Facts" "__init__" "Facts.__init__" jA/\MA K "Facts" "steps_for" "Facts.steps_for" kK/\MA K "Facts" "text_fact" "Facts.text_fact" kJ/\MA K "Facts" "lifted" "Facts.lifted" mW/\MA K "Facts" "fitting" "Facts.fitting" mj/\MA K "Row" "__init__" "Row.__init__" mV/\MA K "Coming" "gone_on" "Coming.gone_on" lx/\MA K "Coming" "moved_out" "Coming.moved_out" ka/\MA K "Coming" "waits" "Coming.waits" kA/\MA K "Coming" "__init__" "Coming.__init__" kL/\MA K "Coming" "begin_row" "Coming.begin_row" kb/\MA K "Coming" "spread" "Coming.spread" ml/\MA K "Coming" "add_atoms" "Coming.add_atoms" ke/\MA K "Coming" "settle" "Coming.settle" mm/\MA K "Coming" "newly_told" "Coming.newly_told" jL/\MA K "Coming" "end_row" "Coming.end_row" ly/\MA K "Coming" "feed" "Coming.feed" ou/\MA K "Sift" "__init__" "Sift.__init__" mf/\MA K "Sift" "take" "Sift.take" qC/\MA K "Sift" "told" "Sift.told" qB/\MA K "Sift" "waiting" "Sift.waiting" mU):
  ∃fd:gw,(∀(s:aw) (v:aj),LA s fd ⟨[v],[]⟩ [("_law_script",v)])/\∀base:dY,K.In base->base.Ns bC mg->cZ l.prog w K mg base i7 100 fa fd ["_law_script"] (jM K Fi):=by
 let(e4,eg,dh,ea):=c;obtain⟨ci,di,ck,dz,cz,d0,cs,d6,d9,eh,e3,dx,dv,dm,ef,ec,dr,dg,e7,da,dw,d8,⟨fL,fdL,aL,FL⟩⟩:=q;let(bz,bb,cg,b7,cu,cj,bh,bq,bg,bj,c7,br,c5,bo,ba,c6,bk,b4,c2,b9,bt,b1,bn,ch,c1,cy,cx,c9):=r;have e:=hfa.symm.trans (mg_of X G aL);cases e;have k:KS K mg:=⟨λp h=>abt (by rcases(show ∀p∈KL,p.1 = "Facts" \/p.1 = "Row" \/p.1 = "Coming" \/p.1 = "Sift" by decide +kernel) p h with e|e|e|e<;>rw[e]<;>assumption) (n p h),λx h=>mg_none_of X G (z x h)⟩
 let(oc,od,kV,Sj,pm,an,l6,ct,Z8,rfl,_):=FL.ex;refine⟨fnOf "law" "law" (ph rY) (iT rY) (aF rY) .none kV Sj pm an l6 ct,λs v =>.of_eq rfl,λbase a a =>?_⟩;have e:EN l.prog w K mg base h:=⟨X,G⟩;have bu:=bz.uV e e4 λa a F=>wt F k
 have b5:=bb.uV e e4 λa a F=>tL F k bu.m
 have cc:=cg.uV e e4 λa a F=>zc F b5.m
 have b2:=b7.uV e e4 λa a F=>tK F k bu.m
 have cr:=cu.uV e e4 λa a F=>AF F k
 have cp:=ci.uW e λa a F=>za F
 have ce:∀n,gI l.prog w K mg base "Facts" "asked" (n+3) (spT K av (cH n))/\gI l.prog w K mg base "Facts" "enter_has" (n+3) (spT K av (cP n)):=λn=>by
  induction n with
  |zero=>exact⟨cj.uV (ps:=["self","wish"]) e e4 λa a a=>z0T λa=>rfl,bh.uV (ps:=["self","steps"]) e e4 λa a a=>z0T λa=>rfl⟩
  |succ n ih=>let⟨cn,bd⟩:=ih;exact⟨cj.uV e e4 λa a F=>(zd F b2.o bd cn cp.o).mono ž,bh.uV e e4 λa a F=>(uu F cc.o cr.o cn).mono ž⟩
 have co:gI l.prog w K mg base "Facts" "asked" 15 (spT K av (cH 12)):=(ce 12).1;have bf:gI l.prog w K mg base "Facts" "enter_has" 15 (spT K av (cP 12)):=(ce 12).2;have df:∀n,km l.prog w K mg base "copied" (n+0) (jM K (iY n))/\km l.prog w K mg base "copied_wish" (n+0) (jM K (cG n)):=λn=>by
  induction n with
  |zero=>exact⟨di.uW (ps:=["steps"]) e λa a a=>Wd λa=>rfl,ck.uW (ps:=["wish"]) e λa a a=>Wd λa=>rfl⟩
  |succ n ih=>let⟨dl,cf⟩:=ih;exact⟨di.uW e λa a F=>(Kr F cf).mono ž,ck.uW e λa a F=>(zb F dl cf).mono ž⟩
 have dj:km l.prog w K mg base "copied" 12 (jM K (iY 12)):=(df 12).1;have cb:km l.prog w K mg base "copied_wish" 12 (jM K (cG 12)):=(df 12).2;have dt:∀n,km l.prog w K mg base "meets" (n+0) (jM K (kz n)):=λn=>by
  induction n with
  |zero=>exact dz.uW (ps:=["ask","atoms"]) e λa a a=>Wd λa=>rfl
  |succ n du=>exact dz.uW e λa a F=>(MP F k du).mono ž
 have dp:km l.prog w K mg base "meets" 12 (jM K (kz 12)):=dt 12;have d2:∀n,km l.prog w K mg base "can_hold" (n+0) (jM K (dJ n)):=λn=>by
  induction n with
  |zero=>exact cz.uW (ps:=["wish"]) e λa a a=>Wd λa=>rfl
  |succ n d1=>exact cz.uW e λa a F=>(Ee F k d1).mono ž
 have d4:km l.prog w K mg base "can_hold" 12 (jM K (dJ 12)):=d2 12;have bm:=bq.VS e e4 λa a F=>vh F k dj.m cc.m co.m
 have be:=bg.uV e e4 λa a F=>ur F k
 have bi:=bj.uV e e4 λa a F=>uq F k
 have c3:=c7.uV e e4 λa a F=>xP F k dp.m
 have bv:=br.uV e e4 λa a F=>wu F k dp.m
 have d3:=d0.uW e λa a F=>Ef F
 have c4:=c5.VS e eg λa a F=>xO F k
 have cq:=cs.uW e λa a F=>AE F k d4.m
 have dd:=d6.uW e λa a F=>GA F k c4.m
 have bl:=bo.uV e dh λa a F=>vi F k
 have b3:=ba.uV e dh λa a F=>tN F k
 have ca:=c6.uV e dh λa a F=>xQ F k
 have bc:=bk.VS e dh λa a F=>uv F k bm.m cq.m dd.m
 have b6:=b4.uV e dh λa a F=>tO F k c4.m bv.m bl.m
 have bx:=c2.uV e dh λa a F=>wx F k bv.m c3.m
 have b8:=b9.uV e dh λa a F=>tR F k bx.m
 have bw:=bt.uV e dh λa a F=>wz F k bl.m
 have b0:=b1.uV e dh λa a F=>sq F k bw.m
 have bp:=bn.uV e dh λa a F=>vj F k b3.m
 have cm:=ch.uV e dh λa a F=>ze F k d3.m bp.m b6.m bx.m b8.m b0.m be.m bi.m
 have bs:=c1.VS e ea λa a F=>wq F k bc.m
 have cv:=cy.uV e ea λa a F=>Cd F k cm.m
 have cw:=cx.uV e ea λa a F=>Cc F k
 have c8:=c9.uV e ea λa a F=>xN F k ca.m
 have d7:=d9.uW e λa a F=>GC F k
 have ej:=eh.uW e λa a F=>TU F
 have e6:=e3.uW e λa a F=>MS F k ej.m
 have e9:=dx.uW e λa a F=>MO F k e6.m
 have dn:=dv.uW e λa a F=>MM F k
 have dq:=dm.uW e λa a F=>MR F k
 have ei:=ef.uW e λa a F=>TQ F
 have ed:∀n,km l.prog w K mg base "_law_wish" (n+1) (Ds K 0 (ip n))/\km l.prog w K mg base "_law_steps" (n+1) (Ds K 0 (ic n)):=λn=>by
  induction n with
  |zero=>exact⟨ec.uW (ps:=["_law_draws","_law_deep","_law_some"]) e λa a a=>z0M λa=>rfl,dr.uW (ps:=["_law_draws","_law_deep","_law_some"]) e λa a a=>z0M λa=>rfl⟩
  |succ n ih=>let⟨eb,e5⟩:=ih;exact⟨ec.uW e λa a F=>(P8 F k ei.o e5 eb).mono ž,dr.uW e λa a F=>(ML F k ei.o eb).mono ž⟩
 have ee:km l.prog w K mg base "_law_wish" 13 (Ds K 0 (ip 12)):=(ed 12).1;have e1:km l.prog w K mg base "_law_steps" 13 (Ds K 0 (ic 12)):=(ed 12).2;have dk:=dg.uW e λa a F=>Kq F k
 have dy:∀n,km l.prog w K mg base "_law_holds" (n+3) (jM K (eM n))/\km l.prog w K mg base "_law_answers" (n+3) (yc K (cX n)):=λn=>by
  induction n with
  |zero=>exact⟨e7.uW (ps:=["_law_nodes_here","_law_at","_law_wish_here"]) e λa a a=>Wd λa=>rfl,da.uW (ps:=["_law_nodes_here","_law_starts","_law_steps_here"]) e λa a a=>z0O λa=>rfl⟩
  |succ n ih=>let⟨e0,db⟩:=ih;exact⟨e7.uW e λa a F=>(MQ F e0 db).mono ž,da.uW e λa a F=>(GD F k e0 dk.o).mono ž⟩
 have e2:km l.prog w K mg base "_law_holds" 15 (jM K (eM 12)):=(dy 12).1;have de:km l.prog w K mg base "_law_answers" 15 (yc K (cX 12)):=(dy 12).2;have e8:=dw.uW e λa a F=>MN F k.y
 have d5:=d8.uW e λa a F=>GB F k dq.m e6.m
 exact(TV FL k bs.m e9.m e1.m e6.m dn.m dq.m ej.m d7.m e8.m d5.m de.m cv.m cw.m c8.m).mono ſ
def walk{l:PySem.W.OpenLaw}{q:bE}{Yv:List aJ}{XP:(aJ->Option aj)->dY->Prop}{YP:fw->dY->Prop}{d:DefRec}{K:Params->aX}(hn:l.most=Y 63)(hdf:d.params.defaults=[])
  (hY:∀(w:fw) (h:dY),YP w h->(K w.params).In h)
  (F:∀(w:fw) (mg:aJ->Option aj) (fa:aD) (h:dY),(K w.params).In h->h.Ns bC mg->mg d.name=Y (.ref fa) ->
   ∃fd:gw,(∀(s:aw) (u:aj),LA s fd ⟨[u],[]⟩ [("_law_script",u)])/\∀base:dY,(K w.params).In base->base.Ns bC mg->cZ l.prog w (K w.params) mg base i7 100 fa fd ["_law_script"] (jM (K w.params) Fi)) :
  PySem.W.WalkO q Yv XP YP l.row.toRowW d [] (λf vs=>PySem.call f vs):=
 L2.LM (n:=63) (k:=100) (x:= "_law_script") (CX:=i7) (sp:=λK=>jM K Fi) hn ſ hdf ⟨rfl,ſ,ſ⟩ hY F (λK H a ns hl hO hS=>Ul Nc K H a ns hl hO hS) λb b b b z=>z
end K21
open PySem PySem.W PyProof.Rows
local macro_rules | `(command|#where) => return Lean.mkNullNode <|((List.range' 43 577).map (s!"o_{·}")++"sts_93 heap_39 tree_220 tree_341 sts_608 sts_185 view_39 heap_46 sts_49 tree_243 tree_526 sts_425 tree_92 tree_607 sts_441 sts_71 sts_527 tree_440 sts_221 tree_70 tree_421 sts_244 heap_620 tree_619 tree_184".splitOn " ").toArray.map fun x=>mk0 "(Lean.Parser.Command.declaration (Lean.Parser.Command.declModifiers (null ) (null ) (null ) (null ) (null ) (null ) (null ) ) (Lean.Parser.Command.theorem theorem (Lean.Parser.Command.declId $0 (null ) ) (Lean.Parser.Command.declSig (null ) (M!typeSpec : %True ) ) (Lean.Parser.Command.declValSimple := (M!anonymousCtor ⟨ (null ) ⟩ ) (Lean.Parser.Termination.suffix (null ) (null ) ) (null ) ) ) )" #[Lean.mkIdent (.str `PySem.W.Fast s!"tw{Lean.Name.hash (.str `PySem.Challenge.cw_earlysift_k11_whole_none_else_ever_answe_holds x)}")]
#where
theorem PySem.W.Fast.tw10611017339050849957:True:=⟨⟩
set_option tactic.hygienic true
set_option maxRecDepth 100000 in
set_option maxHeartbeats 0 in
theorem PySem.Challenge.cw_earlysift_k11_whole_none_else_ever_answe_holds : PySem.Challenge.rw_earlysift_k11_whole_none_else_ever_answe.Holds := by
  w_on; o_law; k_head; (case hw => w_witness2)
  k_fill
  refine K21.walk (l := PySem.Challenge.rw_earlysift_k11_whole_none_else_ever_answe) rfl rfl (λw h y => PySem.W.kIn_of y) ?F
  case F =>
    intro w mg fa h KX G hmg
    refine' K21.Vx KX G hmg ?p1 ?p2 ?p3 ?p4 ?p5
    (case p1 => and_intros <;> exact K21.Ys (by k_is) (by k_is) (by k_is) (by k_is) (by k_is) (by k_is) (by k_is))
    (case p2 => repeat' first |refine K21.ac (by dsimp only; exact K21.Yk (by k_is) (by k_is)) ?_ |exact nofun)
    (case p3 => repeat' first |refine K21.ac (by k_is) ?_ |exact nofun)
    (case p4 => and_intros <;> exact K21.Yp (by k_is) (by k_is) (by k_is) (by k_is))
    (case p5 => and_intros <;> exact K21.Ym (by k_is) (by k_is) (by k_is) (by k_is) (by k_is) (by k_is))
