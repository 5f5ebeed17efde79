import PyProof.Rows.All
import Wide.All
import OpenK.AllK
import Wide.FinOn
import Lean
import PyProof.EqAt
import PyProof.EqKinds
import PyProof.TupleCall
import PyProof.Rows.SortRuns
import PyProof.CompFree
import KE.KSortTup
import PyProof.P3Eq
import PyProof.P3In
import PyProof.NeData
import PyProof.WalkInts
import PyProof.Rows.MinMaxN
import PyProof.StrWalks
import PyProof.StrBlockH
import PyProof.StrLawsIn
import PyProof.FString5
import PyProof.StrOps2
import PyProof.ListStr
import PyProof.ConsumeWalk
import PyProof.Rows.StrJoin2
import PyProof.EnumMake
import PyProof.EnumFor
import PyProof.LayNew
import PyProof.Rows.EnumRows
import PyProof.StrCalls
import PyProof.Rows.StrCase
import PyProof.Rows.StrAscii2
import PyProof.Rows.StrFit
import PyProof.IsRules
import PyProof.DictWalks
import PyProof.TupleOfStr
import PyProof.CollectWalk
import PyProof.WalkLemmas
import PyProof.Rows.Range3
import PyProof.Cells
import KE.KRevSl
import PySem.SetTable
import PySem.SetOps
import PyProof.SetKind
import PyProof.TupleKey
import PyProof.DictKinds
import PyProof.Rows.SetFrom
import PyProof.Seq
import PyProof.SetRoads
import PyProof.Walk
import PyProof.MinMaxWalk
import PyProof.DictRoads
import PyProof.AutoListH
import PyProof.FactsAll.list_3
import PyProof.NeKinds
import PyProof.DictRoadsH
import KE.KDictSum
import PyProof.EnumIter
import PyProof.Rows.SeqMore
import PyProof.Rows.TupAdd
import PyProof.Rows.TupDisplay
import PyProof.DictTable
import KE.KDictOf
import PyProof.DictItems
import PyProof.StrLawsFirst
import KE.KDictList
import PyProof.DictValues
import PySem.Challenge.RW_coverpieces_k22_options
set_option Elab.async false
set_option linter.all false
set_option maxRecDepth 100000
open PySem renaming Value->aA,Shared->aB,Addr->aE,sizeLine->aF,wpAny->aG,model->aH,Program->aI,World->aK,mainGlobals->aO,FuncData->aP,starEach->aR,NameKind->aT,compareOp->aV,Stmt->aW,cLine->aX,pyNext->bB,eval->bH,DictEntry->bP,rawInt->bU,wpAny_dictEntries->bV,binaryOp->cC,wpAny_askSetting->cF,codeAny->cH,bootBuiltins->cI,Scope->cK,wpAny_setEntries_of->cL,backTo->cO,attributeBase->cS,wpAny_updateSeq->cT,wpAny_dictEpoch->cU,wpAny_setField_rec->cX,wpAny_pyIter_tuple->cY,wpAny_getItem_str_slice->dA,wpAny_pyIter_list->dB,firstArgMember->dD,sysModules->dI,assignEach->dJ,wpAny_of_eq->dM,sliceBounds->dN,wpAny_passesOwn->dS,IsEnum->dX,Pos->eA,wpAny_typeOf->eB,hashStr->eE,codeAny_mono->eF,strKind_is->eG,isSubtype_stop->eK,Paired->eL,wpAny_pyIter_enum->eS,wpAny_letGo->eT,ofAClassStatement->eV,getItem->eZ,wpAny_handled->fD,behindInMarks->fH,seqItems?->fM,argBest->fU,post_val_or_str->fX,letOwnedTupleGo->fZ,wpAny_isOneOf_valiter->gE,wpAny_callSpecialIfBoundUnlessNone?_slot->gF,wpAny_tryCatch->gQ,wpAny_throw->gR,newTuple->gS,newExc->gT,hashByValue->iA,IsPart->iC,setNext->iF,pickOrder->iG,wpAny_standAt->iQ,wpAny_newList->iR,field->iW,reduceHash->jA,assign->jF,wpAny_pyIter_slot->jP,setField->jS,raiseNew->jT,foldedSetIterable->jY,callerA->jZ,wpAny_pyHash_str->kL,wpAny_pyHash_int->kN,updateSeq->kO,swapsWith->kP,pyIter->kQ,noFill_tuple_add->kR,Result->kU,subscripted->kW,keywordEach->lG,callSpecialIfBoundUnlessNone?->lM,wpAny_execs_nil->lQ,holding->mS,Keyword->nH,BindsTo->nJ,wpAny_call->nK,slotArgs->nN,setsByText->nO,setEntries->nP,closureFor->oF,atKey->oI,Env->oN,CmpOp->oO,Sem->pR,wpAny_comprehension_free->pS,setSearchFrom->pV,seq_tuple_add->pW,wpAny_Call_method0_late->qJ,seqIndex?->qL,putSet_of->qS,bindL->sO,bindC->sP,Walks->sY,seqIndex_neg->tF,concat_meets->tX,wpAny_notOrdered_dict->uE,wpAny_isTrue_Compare1->uF,wpAny_isSame_ref_self->uG,wpAny_isOneOf_keyiter->uH,builtinLookup_eq_fast->vP,wpAny_loadName_local->vX,seqIndex_of->wE,rule->wJ,numAt_eq->wL,intItems_at->wN,intItems->wO,codeAny_call_builtin->xI,backToKw->xM,GenState->xT,wpAny_loadName_cell->xU,wpAny_tupleItemsOf->Ag,wpAny_Name->Ah,typeLookup->Ai,typeIs_str->Aj,call_meets->AT,builtinsNs->AU,argsOk->Bf,Tok->Bq,wpAny_storeSet_of->Bw,wpAny_setEpoch_of->Bx,wpAny_sequenceKey->By,wpAny_cRoomFor_or->Bz,wpAny_assign_Name->BA,spliced->BE,searchCouldBeSeen->BF,eqIsQuiet_byValue->Dg,wpAny_execs_cons->Ec,storeName->Ef,drawOrder->EU,checkBuiltinCall->EW,cellsFrom->EX,beq_builtin_none->EZ,IsEnumOut->Gf,wpAny_ret_mkInt->Gi,typeLookup_type->Gj,pyHashByItsType->GK,codeAny_of_tree->Jg
open PyProof.Rows renaming Keyed->aJ,arrOf->aL,pendingOf->aM,SortSt->aN,SortKind->aY,seqObj->bK,failedOf->bL,wpS_modify->bZ,boot_tuple->cZ,wpS_get->dL,reverseSlice'->fE,AllBare->fV,wpS_lift->gP,mirror->gW,IntsAre->iM,wpS->iN,elem'->iX,setArr->iZ,envOfC->jC,mirror_perm->lC,boot_sorted->lN,boot_isinstance->lZ,minRun'->mK,keyLt'->nS,keyKind'->nT,gallopOf->oC,boot_enumerate->oG,IsTup->oK,subscriptTail->pU,listUpdate_at->pY,boot_list->sN,subscriptTail_builtinR->tD,seqEpoch_at->wF,boot_any->xL,getElem?_mirror_all->zK,entry_tuple_getitem->zN,bubble->AV,args_tuple_getitem->Be,Subscript_->Br,getElem?_bubble->IM,entry_list_sort->IY
open Pure renaming pure->aS
open PySem.W renaming hashAt->cB
open LawfulMonad renaming bind_assoc->jE
open ToString renaming toString->jR
open Min renaming min->lD
open MonadExcept renaming tryCatch->vY
open ForIn renaming forIn->xD
section
theorem sZ0:0<=aF:=by decide
theorem sZ1:1<=aF:=by decide
theorem sZ2:2<=aF:=by decide
theorem sZ3:3<=aF:=by decide
theorem sZ4:4<=aF:=by decide
namespace K22
open PySem PyProof.Rows
noncomputable def vw:aI:=PySem.W.view PySem.Challenge.pw_coverpieces_k22_options [1,2,4,5,6,7,8,10,11,12,13,14,15,16,17,19,21,22,23,24,25,27,29,30,31,32,33,34,35,36,37,38,39,40,41,42,43,44,45,46,47,49,50,51,52,53,54,55,56,57,58,59,60,61,62,63]
set_option maxHeartbeats 0 in
theorem said:PySem.W.OpenLaw.wellSaid PySem.Challenge.rw_coverpieces_k22_options=true:=by kernel_rfl
end K22
open PySem PySem.W PyProof.Rows
local macro_rules | `(tactic| o_law)=>`(tactic| refine holds_law K22.said λsaid=>?_)
local macro_rules | `(tactic| o_head $H)=>`(tactic| refine(λh hw=>holds_open (q:=K22.vw) (loose:=["TURNINGS_BY_MODE"]) (Xt:=(λs=>xlAt K22.vw [] s&&recOk (RowW.records (OpenLaw.row PySem.Challenge.rw_coverpieces_k22_options).toRowW) s)) (XP:=XL K22.vw []) (Yf:=Hook.obs $H) (Ya:=Hook.val $H) (YP:=Hook.says $H) (N:=3852) (And.left h) (Hook.of $H) (Hook.keeps $H) (λs e=>xl_of s (Bool.and_eq_true_iff.mp e).1) XL.keeps (by rfl) (by rfl) (by rfl) (λs e=>recFacts_of (Bool.and_eq_true_iff.mp e).2) (by rfl) (by assumption) (by decide +kernel) ⟨rfl,rfl,rfl,rfl,rfl,by decide +kernel⟩ hw (And.right h)) ?hc ?hw)
set_option maxRecDepth 100000 in
set_option maxHeartbeats 0 in
open_top K22.hd for PySem.Challenge.rw_coverpieces_k22_options
namespace K22
noncomputable def hk:Hook:=kHook K22.hd.heap_1 [2,3,15,17,18,20,21,22,24,25,27,28,29,30,32,33,35,36,37,40,41,42,45,46,47,50,51,52,54,55,57,58,59,61,62,64,65,66,68,69,71,72,73,75,76,78,79,80,83,84,85,87,88,90,91,92,94,95,97,98,99,102,103,104,107,108,109,112,113,114,117,118,119,121,122,124,125,126,128,129,131,132,140,143,144,145,146,147,148,149,152,155,156,157,160,161,162,164,165,167,168,169,171,172,174,175,176,178,179,181,182,183,186,187,188,190,191,193,194,195,198,199,200,203,204,205,208,209,210,212,213,215,216,217,219,220,222,223,224,226,227,229,230,231,234,235,236,238,239,241,242,243,245,246,248,249,250,252,253,255,256,257,259,260,262,263,264,267,268,269,271,272,274,275,276,278,279,281,282,283,286,287,288,291,292,293,295,296,298,299,300,302,303,305,306,307,309,310,312,313,314,316,317,319,320,321,324,325,326,328,329,331,332,333,336,337,338,340,341,343,344] (λ_=>by kernel_rfl)
def Lo(w:aK):Prop:=(openEnds treeTable PySem.Challenge.pw_coverpieces_k22_options w 3852).map (λs=>(openSeen vw ["TURNINGS_BY_MODE"] (importedModules PySem.Challenge.pw_coverpieces_k22_options.main.body) (λs=>xlAt vw [] s&&recOk (RowW.records (OpenLaw.row PySem.Challenge.rw_coverpieces_k22_options).toRowW) s) true s,hk.obs s))=some (openGood vw ["TURNINGS_BY_MODE"],hk.val w)
set_option maxHeartbeats 0 in
theorem lf(w:aK):Lo (w.withFollow "special-get-raises" false):=by unfold Lo;kernel_rfl
set_option maxHeartbeats 0 in
theorem lt(w:aK):Lo (w.withFollow "special-get-raises" true):=by unfold Lo;kernel_rfl
theorem left:∀w,Lo w:=byRow2 "special-get-raises" lf lt
end K22
end
set_option Elab.async false
set_option linter.all false
set_option maxRecDepth 100000
set_option maxHeartbeats 8000000
theorem nq{α0:Sort u0}{α1:Sort u1}{t:α0->α1->Prop}(x0:α0)(x1:α1)(h:t x0 x1):∃x0,∃x1,t x0 x1:=⟨x0,x1,h⟩
theorem qc{α0:Sort u0}{α1:Sort u1}{p0:α0->Prop}{t:α0->α1->Prop}(x0:α0)(h0:p0 x0)(x1:α1)(h:t x0 x1):∃x0,p0 x0/\∃x1,t x0 x1:=⟨x0,h0,x1,h⟩
theorem oq{α0:Sort u0}{α1:Sort u1}{α2:Sort u2}{t:α0->α1->α2->Prop}(x0:α0)(x1:α1)(x2:α2)(h:t x0 x1 x2):∃x0,∃x1,∃x2,t x0 x1 x2:=⟨x0,x1,x2,h⟩
theorem o4{α0:Sort u0}{α1:Sort u1}{p0:α0->Prop}{p1:α0->Prop}{t:α0->α1->Prop}(x0:α0)(h0:p0 x0)(h1:p1 x0)(x1:α1)(h:t x0 x1):∃x0,p0 x0/\p1 x0/\∃x1,t x0 x1:=⟨x0,h0,h1,x1,h⟩
theorem o8{α0:Sort u0}{α1:Sort u1}{α2:Sort u2}{p0:α0->Prop}{t:α0->α1->α2->Prop}(x0:α0)(h0:p0 x0)(x1:α1)(x2:α2)(h:t x0 x1 x2):∃x0,p0 x0/\∃x1,∃x2,t x0 x1 x2:=⟨x0,h0,x1,x2,h⟩
theorem nw{α0:Sort u0}{α1:Sort u1}{α2:Sort u2}{α3:Sort u3}{t:α0->α1->α2->α3->Prop}(x0:α0)(x1:α1)(x2:α2)(x3:α3)(h:t x0 x1 x2 x3):∃x0,∃x1,∃x2,∃x3,t x0 x1 x2 x3:=⟨x0,x1,x2,x3,h⟩
theorem ut{α0:Sort u0}{α1:Sort u1}{α2:Sort u2}{p0:α0->Prop}{p1:α0->α1->Prop}{t:α0->α1->α2->Prop}(x0:α0)(h0:p0 x0)(x1:α1)(h1:p1 x0 x1)(x2:α2)(h:t x0 x1 x2):∃x0,p0 x0/\∃x1,p1 x0 x1/\∃x2,t x0 x1 x2:=⟨x0,h0,x1,h1,x2,h⟩
theorem o6{α0:Sort u0}{α1:Sort u1}{α2:Sort u2}{α3:Sort u3}{p0:α0->Prop}{t:α0->α1->α2->α3->Prop}(x0:α0)(h0:p0 x0)(x1:α1)(x2:α2)(x3:α3)(h:t x0 x1 x2 x3):∃x0,p0 x0/\∃x1,∃x2,∃x3,t x0 x1 x2 x3:=⟨x0,h0,x1,x2,x3,h⟩
theorem my{α0:Sort u0}{α1:Sort u1}{α2:Sort u2}{α3:Sort u3}{α4:Sort u4}{t:α0->α1->α2->α3->α4->Prop}(x0:α0)(x1:α1)(x2:α2)(x3:α3)(x4:α4)(h:t x0 x1 x2 x3 x4):∃x0,∃x1,∃x2,∃x3,∃x4,t x0 x1 x2 x3 x4:=⟨x0,x1,x2,x3,x4,h⟩
theorem ug{α0:Sort u0}{α1:Sort u1}{α2:Sort u2}{α3:Sort u3}{p0:α0->Prop}{p1:α0->α1->Prop}{t:α0->α1->α2->α3->Prop}(x0:α0)(h0:p0 x0)(x1:α1)(h1:p1 x0 x1)(x2:α2)(x3:α3)(h:t x0 x1 x2 x3):∃x0,p0 x0/\∃x1,p1 x0 x1/\∃x2,∃x3,t x0 x1 x2 x3:=⟨x0,h0,x1,h1,x2,x3,h⟩
theorem mz{α0:Sort u0}{α1:Sort u1}{α2:Sort u2}{α3:Sort u3}{α4:Sort u4}{p0:α0->Prop}{t:α0->α1->α2->α3->α4->Prop}(x0:α0)(h0:p0 x0)(x1:α1)(x2:α2)(x3:α3)(x4:α4)(h:t x0 x1 x2 x3 x4):∃x0,p0 x0/\∃x1,∃x2,∃x3,∃x4,t x0 x1 x2 x3 x4:=⟨x0,h0,x1,x2,x3,x4,h⟩
theorem xk{α0:Sort u0}{α1:Sort u1}{α2:Sort u2}{α3:Sort u3}{p0:α0->α1->Prop}{p1:α0->α1->Prop}{t:α0->α1->α2->α3->Prop}(x0:α0)(x1:α1)(h0:p0 x0 x1)(h1:p1 x0 x1)(x2:α2)(x3:α3)(h:t x0 x1 x2 x3):∃x0,∃x1,p0 x0 x1/\p1 x0 x1/\∃x2,∃x3,t x0 x1 x2 x3:=⟨x0,x1,h0,h1,x2,x3,h⟩
theorem vh{α0:Sort u0}{α1:Sort u1}{α2:Sort u2}{p0:α0->Prop}{p1:α0->Prop}{p2:α0->Prop}{p3:α0->Prop}{t:α0->α1->α2->Prop}(x0:α0)(h0:p0 x0)(h1:p1 x0)(h2:p2 x0)(h3:p3 x0)(x1:α1)(x2:α2)(h:t x0 x1 x2):∃x0,p0 x0/\p1 x0/\p2 x0/\p3 x0/\∃x1,∃x2,t x0 x1 x2:=⟨x0,h0,h1,h2,h3,x1,x2,h⟩
theorem nj{α0:Sort u0}{α1:Sort u1}{α2:Sort u2}{α3:Sort u3}{α4:Sort u4}{p0:α0->Prop}{p1:α0->α1->Prop}{t:α0->α1->α2->α3->α4->Prop}(x0:α0)(h0:p0 x0)(x1:α1)(h1:p1 x0 x1)(x2:α2)(x3:α3)(x4:α4)(h:t x0 x1 x2 x3 x4):∃x0,p0 x0/\∃x1,p1 x0 x1/\∃x2,∃x3,∃x4,t x0 x1 x2 x3 x4:=⟨x0,h0,x1,h1,x2,x3,x4,h⟩
theorem o7{α0:Sort u0}{α1:Sort u1}{α2:Sort u2}{α3:Sort u3}{p0:α0->Prop}{p1:α0->α1->α2->Prop}{p2:α0->α1->α2->Prop}{t:α0->α1->α2->α3->Prop}(x0:α0)(h0:p0 x0)(x1:α1)(x2:α2)(h1:p1 x0 x1 x2)(h2:p2 x0 x1 x2)(x3:α3)(h:t x0 x1 x2 x3):∃x0,p0 x0/\∃x1,∃x2,p1 x0 x1 x2/\p2 x0 x1 x2/\∃x3,t x0 x1 x2 x3:=⟨x0,h0,x1,x2,h1,h2,x3,h⟩
theorem Lx{α0:Sort u0}{α1:Sort u1}{α2:Sort u2}{α3:Sort u3}{p0:α0->α1->Prop}{p1:α0->α1->Prop}{p2:α0->α1->Prop}{t:α0->α1->α2->α3->Prop}(x0:α0)(x1:α1)(h0:p0 x0 x1)(h1:p1 x0 x1)(h2:p2 x0 x1)(x2:α2)(x3:α3)(h:t x0 x1 x2 x3):∃x0,∃x1,p0 x0 x1/\p1 x0 x1/\p2 x0 x1/\∃x2,∃x3,t x0 x1 x2 x3:=⟨x0,x1,h0,h1,h2,x2,x3,h⟩
theorem ach{α0:Sort u0}{α1:Sort u1}{α2:Sort u2}{α3:Sort u3}{α4:Sort u4}{p0:α0->Prop}{p1:α0->Prop}{p2:α0->α1->Prop}{t:α0->α1->α2->α3->α4->Prop}(x0:α0)(h0:p0 x0)(h1:p1 x0)(x1:α1)(h2:p2 x0 x1)(x2:α2)(x3:α3)(x4:α4)(h:t x0 x1 x2 x3 x4):∃x0,p0 x0/\p1 x0/\∃x1,p2 x0 x1/\∃x2,∃x3,∃x4,t x0 x1 x2 x3 x4:=⟨x0,h0,h1,x1,h2,x2,x3,x4,h⟩
theorem p8{α0:Sort u0}{α1:Sort u1}{α2:Sort u2}{α3:Sort u3}{α4:Sort u4}{p0:α0->Prop}{p1:α0->α1->Prop}{p2:α0->α1->α2->Prop}{t:α0->α1->α2->α3->α4->Prop}(x0:α0)(h0:p0 x0)(x1:α1)(h1:p1 x0 x1)(x2:α2)(h2:p2 x0 x1 x2)(x3:α3)(x4:α4)(h:t x0 x1 x2 x3 x4):∃x0,p0 x0/\∃x1,p1 x0 x1/\∃x2,p2 x0 x1 x2/\∃x3,∃x4,t x0 x1 x2 x3 x4:=⟨x0,h0,x1,h1,x2,h2,x3,x4,h⟩
theorem yj{α0:Sort u0}{α1:Sort u1}{α2:Sort u2}{α3:Sort u3}{p0:α0->Prop}{p1:α0->α1->α2->Prop}{p2:α0->α1->α2->Prop}{p3:α0->α1->α2->Prop}{t:α0->α1->α2->α3->Prop}(x0:α0)(h0:p0 x0)(x1:α1)(x2:α2)(h1:p1 x0 x1 x2)(h2:p2 x0 x1 x2)(h3:p3 x0 x1 x2)(x3:α3)(h:t x0 x1 x2 x3):∃x0,p0 x0/\∃x1,∃x2,p1 x0 x1 x2/\p2 x0 x1 x2/\p3 x0 x1 x2/\∃x3,t x0 x1 x2 x3:=⟨x0,h0,x1,x2,h1,h2,h3,x3,h⟩
theorem rh{α0:Sort u0}{α1:Sort u1}{α2:Sort u2}{α3:Sort u3}{α4:Sort u4}{p0:α0->Prop}{p1:α0->α1->Prop}{p2:α0->α1->α2->α3->Prop}{p3:α0->α1->α2->α3->Prop}{t:α0->α1->α2->α3->α4->Prop}(x0:α0)(h0:p0 x0)(x1:α1)(h1:p1 x0 x1)(x2:α2)(x3:α3)(h2:p2 x0 x1 x2 x3)(h3:p3 x0 x1 x2 x3)(x4:α4)(h:t x0 x1 x2 x3 x4):∃x0,p0 x0/\∃x1,p1 x0 x1/\∃x2,∃x3,p2 x0 x1 x2 x3/\p3 x0 x1 x2 x3/\∃x4,t x0 x1 x2 x3 x4:=⟨x0,h0,x1,h1,x2,x3,h2,h3,x4,h⟩
theorem aa0{α0:Sort u0}{α1:Sort u1}{α2:Sort u2}{α3:Sort u3}{α4:Sort u4}{p0:α0->Prop}{p1:α0->α1->α2->Prop}{p2:α0->α1->α2->Prop}{p3:α0->α1->α2->Prop}{t:α0->α1->α2->α3->α4->Prop}(x0:α0)(h0:p0 x0)(x1:α1)(x2:α2)(h1:p1 x0 x1 x2)(h2:p2 x0 x1 x2)(h3:p3 x0 x1 x2)(x3:α3)(x4:α4)(h:t x0 x1 x2 x3 x4):∃x0,p0 x0/\∃x1,∃x2,p1 x0 x1 x2/\p2 x0 x1 x2/\p3 x0 x1 x2/\∃x3,∃x4,t x0 x1 x2 x3 x4:=⟨x0,h0,x1,x2,h1,h2,h3,x3,x4,h⟩
theorem agw{α0:Sort u0}{α1:Sort u1}{α2:Sort u2}{α3:Sort u3}{p0:α0->α1->Prop}{p1:α0->α1->Prop}{p2:α0->α1->Prop}{p3:α0->α1->Prop}{p4:α0->α1->α2->Prop}{t:α0->α1->α2->α3->Prop}(x0:α0)(x1:α1)(h0:p0 x0 x1)(h1:p1 x0 x1)(h2:p2 x0 x1)(h3:p3 x0 x1)(x2:α2)(h4:p4 x0 x1 x2)(x3:α3)(h:t x0 x1 x2 x3):∃x0,∃x1,p0 x0 x1/\p1 x0 x1/\p2 x0 x1/\p3 x0 x1/\∃x2,p4 x0 x1 x2/\∃x3,t x0 x1 x2 x3:=⟨x0,x1,h0,h1,h2,h3,x2,h4,x3,h⟩
theorem n0{α0:Sort u0}{α1:Sort u1}{α2:Sort u2}{α3:Sort u3}{α4:Sort u4}{p0:α0->α1->Prop}{p1:α0->α1->Prop}{p2:α0->α1->Prop}{p3:α0->α1->α2->α3->Prop}{t:α0->α1->α2->α3->α4->Prop}(x0:α0)(x1:α1)(h0:p0 x0 x1)(h1:p1 x0 x1)(h2:p2 x0 x1)(x2:α2)(x3:α3)(h3:p3 x0 x1 x2 x3)(x4:α4)(h:t x0 x1 x2 x3 x4):∃x0,∃x1,p0 x0 x1/\p1 x0 x1/\p2 x0 x1/\∃x2,∃x3,p3 x0 x1 x2 x3/\∃x4,t x0 x1 x2 x3 x4:=⟨x0,x1,h0,h1,h2,x2,x3,h3,x4,h⟩
theorem pj{α0:Sort u0}{α1:Sort u1}{α2:Sort u2}{α3:Sort u3}{α4:Sort u4}{p0:α0->α1->Prop}{p1:α0->α1->Prop}{p2:α0->α1->α2->α3->Prop}{p3:α0->α1->α2->α3->Prop}{t:α0->α1->α2->α3->α4->Prop}(x0:α0)(x1:α1)(h0:p0 x0 x1)(h1:p1 x0 x1)(x2:α2)(x3:α3)(h2:p2 x0 x1 x2 x3)(h3:p3 x0 x1 x2 x3)(x4:α4)(h:t x0 x1 x2 x3 x4):∃x0,∃x1,p0 x0 x1/\p1 x0 x1/\∃x2,∃x3,p2 x0 x1 x2 x3/\p3 x0 x1 x2 x3/\∃x4,t x0 x1 x2 x3 x4:=⟨x0,x1,h0,h1,x2,x3,h2,h3,x4,h⟩
open PySem renaming wpAny_bind->aa,wpAny_pure->af,wpAny_callSpecial?_slot->ci,wpAny_call_entry->ck,wpAny_newObj_type->cm,wpAny_holding->gk,wpAny_truthy_bool->gr,wpAny_setField->h9,wpAny_setState_of->ie,wpAny_field->ig,boot_len->ip,sizeLine_eq->iw,codeAny_builtin->jb,mem_of_lookup->je,wpAny_mono->jj,wpAny_Call_Name_kw->jk,wpAny_attempt->jr,wpAny_seqItems->ju,wpAny_rule->k8,wpAny_specialOf->lg,plainId_quiet->ln,wpAny_isInstance->lv,wpAny_forIn_list->l7,wpAny_typeNameOfWhole_keyiter->ma,wpAny_typeNameOfWhole_valiter->me,wpAny_fieldsOf->mj
open List renaming getElem?_eq_getElem->ab,getElem?_eq_some_iff->ae,length_map->ah,mem_of_getElem?->ak,mem_singleton->ao,getElem?_map->au,take_of_length_le->av,mem_cons_self->aw,mem_append->ay,mem_cons_of_mem->a8,size_toArray->a9,mem_cons->bb,mem_map->bf,map_append->bn,length_append->bu,append_assoc->bz,length_cons->b7,length_take->b8,range->cb,getElem?_append_right->cf,map_map->cq,getElem?_append_left->cu,mem_append_right->cw,mem_iff_getElem?->cx,map_cons->cy,getElem?_of_mem->db,getD_eq_getElem?_getD->df,append_nil->dg,take_add_one->dw,getElem_mem->eu,take_append_drop->ff,mem_range->fh,pairwise_append->fj,length_singleton->fq,getElem?_eq_none->ft,getElem?_take_of_lt->fw,length_range->f8,cons_lt_cons_iff->ge,pairwise_map->gl,getElem?_drop->gm,map_congr_left->gn,any_eq_true->gq,mem_of_mem_take->gt,length_nil->gz,length_drop->g9,pairwise_cons->ij,pairwise_iff_getElem->ik,mem_filter->io,find?_cons->iq,not_mem_nil->jc,nodup_cons->jh,filter_append->jn,lookup_cons->jp,mem_append_left->jq,getElem?_range->jw,range_succ->jx,mem_map_of_mem->jy,length_filter_le->ke,contains_iff_mem->kh,replicate->kq,drop_zero->ku,take_sublist->k7,ext_getElem?->k9,take_length->l9,getElem?_take->mn
open Bool renaming false_ne_true->ai,false_eq_true->bi,and_eq_true->dz,eq_false_iff->f9,eq_iff_iff->gc,not_true->ir
open PySem.W renaming Frag->aj,mg_none_of->da,nsIn->fg,findIn->g8,kia_one->ja,emptyDict->jd,instObj->k5,fnOf->lh,keepIn->mh
open PySem.Heap renaming get?_push_of_some->am,get?_push_size->az,lt_size->bq,SameBut->b9,get?_update_self->cn,get?_update_other->dh,ExtBut->kz,size_push->mf
open Nat renaming le_refl->aq,lt_of_lt_of_le->c5,ne_of_lt->dq,le_trans->dv,min_eq_left->fk,zero_le->f7,lt_of_le_of_lt->gd,add_le_add_left->gi,le_of_lt->gj,pow_le_pow_right->ii,mod_eq_of_lt->iu,le_succ_of_le->i7,lt_irrefl->j4,add_assoc->j5,sub_self->j8,mul_le_mul->ky,pow_succ->lj,le_succ->ll
open Array renaming length_toList->ax,getElem?_toList->bm,getElem?_eq_some_iff->bp,getElem?_eq_getElem->ce,perm_iff_toList_perm->jz,size_extract->j7
open PySem.Str renaming ofString->ba
open PyProof.Rows renaming wpS_bind->bj,wpS_pure->bx,callWith_type1->gv,wpS_forRange->gw,slot_tuple_getitem->ic,wpS_mono->jg
open Option renaming map_eq_some_iff->br,toList_some->jo
open PySem.PyData renaming depthAll->bv,eqv->bw,eqvAll->c9,depth->g0,canLayAll0->iz,strOk->mq
open Int renaming toNat_natCast->cg,eq_ofNat_of_zero_le->gp,le_refl->jv
open PySem.PassesOwn renaming never->cj
open Option.some renaming inj->cr
open PySem.Builtin.SmallTypes renaming nextOf->cz
open PySem.Heap.SameBut renaming update->c8
open PySem.F renaming plainAttrs_list->fc,slot_list_append->fx,type_list_append->fy,slot_tuple_hash->jf,slot_dict_valueiterator_next->ji,called_set->jm,slot_dict_keyiterator_next->jt,slot_str_ascii_iterator_next->li,plain_max_loop->lq,plainAttrs_str->mm
open Classical renaming byContradiction->gf
open PySem.Builtin.Tuple renaming tupleHashOf->gh
open PySem.Around renaming under_plainId->gu
open List.Pairwise renaming sublist->gy,imp_of_mem->i8
open PySem.Obj renaming mapSeq->ix,data_mapFields->jl
open List.Perm renaming append_left->iy,refl->km
open PySem.SetTable renaming insertAt->i9
open PySem.SeqAt.ReadsAll renaming length->j9
open PySem.Builtin.Dict renaming showsAll->kg
open False renaming elim->k6
namespace L3
structure Ord(lt:Nat->Nat->Bool):Prop where
 asy:∀a b,lt a b=true->lt b a=false
 tr:∀a b c,lt b a=false->lt c b=false->lt c a=false
noncomputable def zQ(lt:Nat->Nat->Bool)(x:Nat):List Nat->List Nat
 | []=>[x]
 | y::l=>if lt y x=true then y::zQ lt x l else x::y::l
noncomputable def E4(lt:Nat->Nat->Bool):List Nat->List Nat
 | []=>[]
 | x::l=>zQ lt x (E4 lt l)
noncomputable def srt(lt:Nat->Nat->Bool)(n:Nat):List Nat:=E4 lt (cb n)
theorem LD(lt:Nat->Nat->Bool)(x:Nat):∀l,(zQ lt x l).Perm (x::l)
 | []=>km _
 | y::l=>by
  unfold zQ;split
  .exact((LD lt x l).cons y).trans (List.Perm.swap x y l)
  .exact km _
theorem ad6(lt:Nat->Nat->Bool):∀l,(E4 lt l).Perm l
 | []=>km _
 | x::l=>(LD lt x _).trans ((ad6 lt l).cons x)
theorem Ls(lt:Nat->Nat->Bool)(n:Nat):(srt lt n).Perm (cb n):=ad6 lt _
theorem yi(lt:Nat->Nat->Bool)(n:Nat):(srt lt n).length=n:=by rw[(Ls lt n).length_eq,f8]
theorem Ord.irr{lt:Nat->Nat->Bool}(o:Ord lt)(a:Nat):lt a a=false:=by
 cases h:lt a a with
 | false=>rfl
 | true=>exact h.symm.trans (o.asy a a h)
theorem akr{lt:Nat->Nat->Bool}(o:Ord lt)(x:Nat):∀{l:List Nat},l.Pairwise (λa b=>lt b a=false)->(zQ lt x l).Pairwise (λa b=>lt b a=false)
 | [],_=>by simp[zQ]
 | y::l,h=>by
  have h':=ij.mp h;unfold zQ;split
  .rename_i hy
   refine ij.mpr ⟨λz hz=>?_,akr o x h'.2⟩;rcases bb.mp ((LD lt x l).mem_iff.mp hz)with rfl|hz
   .exact o.asy _ _ hy
   .exact h'.1 z hz
  .rename_i hy
   have B9:lt y x=false:=by simpa using hy
   refine ij.mpr ⟨λz hz=>?_,h⟩;rcases bb.mp hz with rfl|hz
   .exact B9
   .exact o.tr _ _ _ B9 (h'.1 z hz)
theorem amd{lt:Nat->Nat->Bool}(o:Ord lt):∀l,(E4 lt l).Pairwise (λa b=>lt b a=false)
 | []=>List.Pairwise.nil
 | x::l=>akr o x (amd o l)
theorem ao0{lt:Nat->Nat->Bool}(o:Ord lt)(n:Nat){i j:Nat}(h1:i<=j)(h2:j<n):lt ((srt lt n).getD j 0) ((srt lt n).getD i 0)=false:=by
 have hl:=yi lt n;have hj:j<(srt lt n).length:=by lia
 have hi:i<(srt lt n).length:=by lia
 rw[df,df,ab hj,ab hi];show lt (srt lt n)[j] (srt lt n)[i]=false;by_cases e:i=j
 .subst e;exact o.irr _
 .exact ik.mp (amd o (cb n)) i j hi hj (by lia)
end L3
namespace L2
open PySem PySem.Spec PyProof.Rows
noncomputable abbrev Key:=Sum Int Str
noncomputable def avf:Key->aA->Bool
 | .inl k,v=>aA.isInt k v
 | .inr x,v=>aA.isStrOf x v
noncomputable def a0v(w:aK):Key->Int
 | .inl k=>hashInt k
 | .inr x=>eE w x
theorem ql:∀{k:Key} {v:aA},avf k v=true->(∃i t,k=Sum.inl i/\v=aA.int i t)\/(∃x t,k=Sum.inr x/\v=aA.str x t)
 | .inl i,v,h=>by obtain⟨t,e⟩:=aA.isInt_shape (k:=i) (v:=v) h;exact .inl ⟨i,t,rfl,e⟩
 | .inr x,v,h=>by obtain⟨t,e⟩:=aA.isStrOf_shape (x:=x) (v:=v) h;exact .inr ⟨x,t,rfl,e⟩
theorem av3(a b:Int):decide ((Sum.inl a:Key)=Sum.inl b)=(a==b):=by
 by_cases e:a=b
 .subst e;simp
 .have h:¬(Sum.inl a:Key)=Sum.inl b:=λq=>e (Sum.inl.inj q);rw[decide_eq_false h];exact(beq_eq_false_iff_ne.mpr e).symm
theorem av6(a b:Str):decide ((Sum.inr a:Key)=Sum.inr b)=decide (a=b):=by
 by_cases e:a=b
 .subst e;simp
 .have h:¬(Sum.inr a:Key)=Sum.inr b:=λq=>e (Sum.inr.inj q);rw[decide_eq_false h,decide_eq_false e]
theorem atz(a:Int)(b:Str):decide ((Sum.inl a:Key)=Sum.inr b)=false:=decide_eq_false (λq=>nomatch q)
theorem aub(a:Str)(b:Int):decide ((Sum.inr a:Key)=Sum.inl b)=false:=decide_eq_false (λq=>nomatch q)
noncomputable def aky(prog:aI)(w:aK):PySem.KeyKind prog w Key where
 is:=avf
 hash:=a0v w
 inj:=λv a b ha hb=>by
  rcases ql ha with ⟨i,t,rfl,rfl⟩|⟨x,t,rfl,rfl⟩
  .rcases ql hb with ⟨j,u,rfl,e⟩|⟨y,u,rfl,e⟩
   .injection e with e1 _;rw[e1]
   .exact nomatch e
  .rcases ql hb with ⟨j,u,rfl,e⟩|⟨y,u,rfl,e⟩
   .exact nomatch e
   .injection e with e1 _;rw[e1]
 byValue:=λk v h=>by rcases ql h with ⟨i,t,rfl,rfl⟩|⟨x,t,rfl,rfl⟩<;>rfl
 pyHash:=λhv h=>by
  rcases ql hv with ⟨i,t,rfl,rfl⟩|⟨x,t,rfl,rfl⟩
  .exact kN h
  .exact kL h
 eqBool:=λhu hv h=>by
  rcases ql hu with ⟨i,t,rfl,rfl⟩|⟨x,t,rfl,rfl⟩
  .rcases ql hv with ⟨j,u,rfl,rfl⟩|⟨y,u,rfl,rfl⟩
   .rw[av3]at h;exact wpAny_eqBool_int h
   .rw[atz]at h;exact SeqAt.EqAt.int_str i t y u _ _ _ _ h
  .rcases ql hv with ⟨j,u,rfl,rfl⟩|⟨y,u,rfl,rfl⟩
   .rw[aub]at h;exact SeqAt.EqAt.str_int x t j u _ _ _ _ h
   .rw[av6]at h;exact wpAny_eqBool_str h
 «strs»:=λk x t v h=>by
  rcases ql h with ⟨i,u,rfl,e⟩|⟨y,u,rfl,e⟩
  .exact nomatch e
  .injection e with e1 _
   subst e1;cases v<;>rfl
end L2
namespace L2
open PySem PySem.Spec PyProof.Rows
inductive V where
 | non|bl (b:Bool)|int (i:Int)|str (x:Str)|byt (b:Array UInt8)|flt (b:UInt64)|ref (a:aE)|ty (n:String)
 deriving DecidableEq
def RelV:V->aA->Prop
 | .non,u=>u=aA.none
 | .bl b,u=>u=aA.bool b
 | .int i,u=>∃t,u=aA.int i t
 | .str x,u=>∃t,u=aA.str x t
 | .byt b,u=>∃t,u=aA.bytes b t
 | .flt b,u=>∃t,u=aA.float b t
 | .ref a,u=>u=aA.ref a
 | .ty n,u=>u=aA.type n
noncomputable abbrev Vals:List V->List aA->Prop:=eL RelV
theorem Vals.length{xs:List V}{us:List aA}(r:Vals xs us):xs.length=us.length:=eL.length r
theorem Vals.get:∀{xs:List V} {us:List aA} {i:Nat} {x:V},Vals xs us->xs[i]?=some x->∃u,us[i]?=some u/\RelV x u
 | _,_,_,_,.nil,e=>by simp at e
 | _,_,0,_,.cons r _,e=>by simp at e;subst e;exact⟨_,rfl,r⟩
 | _,_,i+1,x,.cons _ t,e=>by obtain⟨u,h1,h2⟩:=Vals.get (i:=i) (x:=x) t (by simpa using e);exact⟨u,by simpa using h1,h2⟩
theorem Vals.set{x:V}{u:aA}(r:RelV x u):∀{xs:List V} {us:List aA} (i:Nat),Vals xs us->Vals (xs.set i x) (us.set i u)
 | _,_,_,.nil=>.nil
 | _,_,0,.cons _ t=>.cons r t
 | _,_,i+1,.cons q t=>.cons q (Vals.set r i t)
theorem Vals.append:∀{xs ys:List V} {us ws:List aA},Vals xs us->Vals ys ws->Vals (xs++ys) (us++ws)
 | _,_,_,_,.nil,s=>s
 | _,_,_,_,.cons r t,s=>.cons r (Vals.append t s)
theorem Vals.take:∀{xs:List V} {us:List aA} (n:Nat),Vals xs us->Vals (xs.take n) (us.take n)
 | _,_,0,_=>.nil
 | _,_,_+1,.nil=>.nil
 | _,_,n+1,.cons r t=>.cons r (Vals.take n t)
theorem Vals.drop:∀{xs:List V} {us:List aA} (n:Nat),Vals xs us->Vals (xs.drop n) (us.drop n)
 | _,_,0,r=>r
 | _,_,_+1,.nil=>.nil
 | _,_,n+1,.cons _ t=>Vals.drop n t
def RelO:Option V->Option aA->Prop
 | some v,some u=>RelV v u
 | none,none=>True
 | _,_=>False
def KV{κ:Type}:List (κ×V)->List (κ×aA)->Prop:=eL λ(p:κ×V) (q:κ×aA)=>p.1=q.1/\RelV p.2 q.2
noncomputable def kV:Key->V
 | .inl i=>.int i
 | .inr x=>.str x
inductive HO where
 | lst (xs:List V)
 | tup (xs:List V)
 | dK (aU:List (Key×V))|dT (aU:List (List Key×V))
 | set (S:Int->Bool) (n:Nat)
 | ins (C dx:aE) (fs:List (Str×V))
 | own (x:aE)
 | xd (fs:List (Str×V))
 | met (f x:aE)
 | rng (lo hi:Int)
 | frz (o:Obj) (u:HO)
 | tbl (ps:Array aA)
 | ext (φ:Heap->Prop)
noncomputable abbrev Hp:=aE->Option HO
noncomputable def upd(H:Hp)(a:aE)(o:HO):Hp:=λb=>if b=a then some o else H b
theorem np{H:Hp}{a:aE}{o:HO}:upd H a o a=some o:=by unfold upd;rw[if_pos rfl]
theorem ow{H:Hp}{a b:aE}{o:HO}(h:b≠a):upd H a o b=H b:=by unfold upd;rw[if_neg h]
theorem ux{H:Hp}{a b:aE}{o u:HO}(h:H a=some o)(h':H b=some u)(d:o≠u):a≠b:=by intro e;subst e;rw[h]at h';exact d (cr h')
theorem qb{H:Hp}{a b:aE}{o:HO}(h:H a=some o)(h':H b=none):a≠b:=by intro e;subst e;rw[h]at h';cases h'
section
variable(P:aI)(w:aK)
def ObjOk(H:Hp)(h:Heap)(a:aE):HO->Prop
 | .lst xs=>xs.length<=aF/\∃(its:List aA)(n:Nat),Vals xs its/\h.get? a=some {cls:=.type "list",data:=.seq its.toArray n}
 | .tup xs=>xs.length<=aF/\∃its:List aA,Vals xs its/\oK h a its.toArray
 | .dK aU=>aU.length<=aF/\(a==dI)=false/\∃vs,KV aU vs/\h.DictOf (aky P w) a vs
 | .dT aU=>aU.length<=aF/\(a==dI)=false/\∃xs:List (List Key×aE×aA),
   eL (λ(p:List Key×V) (q:List Key×aE×aA)=>p.1=q.1/\H q.2.1=some (.tup (p.1.map kV))/\RelV p.2 q.2.2) aU xs/\
   ∃o es ep,h.get? a=some o/\o.ExactDict/\o.data=.dict es ep/\es.toList=xs.map (entryOfKey (tupleKind (aky P w)))/\(xs.map (·.1)).Nodup
 | .set S n=>h.SetOf (intKind P w) a S n
 | .ins C dx fs=>H dx=some (.own a)/\fs.length<=1000/\dx≠a/\h.get? a=some (k5 C dx)/\
   ∃mA,h.Ns1 dx mA/\(∀f,RelO (fs.lookup f) (mA f))/\PySem.Within mA (fs.map (·.1))
 | .own _=>∃o,h.get? a=some o
 | .xd fs=>∃mA,h.Ns1 a mA/\∀f,RelO (fs.lookup f) (mA f)
 | .rng lo hi=>∃t u v,h.get? a=some {cls:=.type "range",data:=.fields #[.int lo t,.int hi u,.int 1 v]}
 | .frz o u=>h.get? a=some o/\ObjOk H h a u
 | .tbl ps=>h.get? a=some {cls:=.none,data:=.fields ps}
 | .met f x=>h.get? a=some (PySem.W.methodObj (.ref f) (.ref x))
 | .ext φ=>φ h/\(∃o,h.get? a=some o)/\∀h1 h2:Heap,φ h1->(∀o,h1.get? a=some o->h2.get? a=some o)->φ h2
def HOk(H:Hp)(h:Heap):Prop:=∀a o,H a=some o->ObjOk P w H h a o
end
section
variable{P:aI}{w:aK}{H H':Hp}{h h':Heap}{a:aE}{o:HO}
theorem ObjOk.lt(x:ObjOk P w H h a o):a<h.objs.size:=by
 cases o with
 | lst xs=>obtain⟨_,_,_,_,e⟩:=x;exact bq e
 | tup xs=>obtain⟨_,_,_,p⟩:=x;exact p.lt
 | dK aU=>obtain⟨_,_,_,_,o,_,_,e,_⟩:=x;exact bq e
 | dT aU=>obtain⟨_,_,_,_,o,_,_,e,_⟩:=x;exact bq e
 | set S n=>obtain⟨o,_,_,_,e,_⟩:=x;exact bq e
 | ins C dx fs=>obtain⟨_,_,_,e,_⟩:=x;exact bq e
 | own y=>obtain⟨_,e⟩:=x;exact bq e
 | xd fs=>obtain⟨_,⟨_,_,_,e,_⟩,_⟩:=x;exact bq e
 | rng lo hi=>obtain⟨_,_,_,e⟩:=x;exact bq e
 | frz ob u=>obtain⟨e,_⟩:=x;exact bq e
 | tbl ps=>exact bq (show h.get? a=some _ from x)
 | met f y=>exact bq (show h.get? a=some _ from x)
 | ext φ=>obtain⟨_,⟨_,e⟩,_⟩:=x;exact bq e
theorem eL.mapP{α β:Type}{F G:α->β->Prop}:∀{l₁:List α} {l₂:List β},eL F l₁ l₂->(∀a b,F a b->G a b)->eL G l₁ l₂
 | _,_,.nil,_=>.nil
 | _,_,.cons r t,f=>.cons (f _ _ r) (eL.mapP t f)
theorem ObjOk.stay(x:ObjOk P w H h a o)(k:∀b u,(b=a\/H b=some (.own a))->h.get? b=some u->h'.get? b=some u)
  (ho:∀b,H b=some (.own a)->H' b=some (.own a)) (ht:∀b xs,H b=some (.tup xs)->H' b=some (.tup xs)):ObjOk P w H' h' a o:=by
 induction o with
 | lst xs=>obtain⟨z,its,n,r,e⟩:=x;exact⟨z,its,n,r,k _ _ (.inl rfl) e⟩
 | tup xs=>obtain⟨z,its,r,ob,e,c⟩:=x;exact⟨z,its,r,ob,k _ _ (.inl rfl) e,c⟩
 | dK aU=>obtain⟨z,y,vs,r,ob,es,ep,e,c⟩:=x;exact⟨z,y,vs,r,ob,es,ep,k _ _ (.inl rfl) e,c⟩
 | dT aU=>
  obtain⟨z,y,xs,r,ob,es,ep,e,c⟩:=x;exact⟨z,y,xs,eL.mapP r λp q z=>⟨z.1,ht _ _ z.2.1,z.2.2⟩,ob,es,ep,k _ _ (.inl rfl) e,c⟩
 | set S n=>obtain⟨ob,es,ep,t,e,c⟩:=x;exact⟨ob,es,ep,t,k _ _ (.inl rfl) e,c⟩
 | ins C dx fs=>
  obtain⟨d,z,ne,e,mA,⟨od,es,ep,e2,c⟩,r⟩:=x;exact⟨ho _ d,z,ne,k _ _ (.inl rfl) e,mA,⟨od,es,ep,k _ _ (.inr d) e2,c⟩,r⟩
 | own y=>obtain⟨ob,e⟩:=x;exact⟨ob,k _ _ (.inl rfl) e⟩
 | xd fs=>obtain⟨mA,⟨od,es,ep,e,c⟩,r⟩:=x;exact⟨mA,⟨od,es,ep,k _ _ (.inl rfl) e,c⟩,r⟩
 | rng lo hi=>obtain⟨t,u,v,e⟩:=x;exact⟨t,u,v,k _ _ (.inl rfl) e⟩
 | frz ob u ih=>obtain⟨e,q⟩:=x;exact⟨k _ _ (.inl rfl) e,ih q⟩
 | tbl ps=>
  have e:h.get? a=some {cls:=.none,data:=.fields ps}:=x;show h'.get? a=some {cls:=.none,data:=.fields ps};exact k a _ (.inl rfl) e
 | met f y=>
  have e:h.get? a=some (PySem.W.methodObj (.ref f) (.ref y)):=x;show h'.get? a=some (PySem.W.methodObj (.ref f) (.ref y));exact k a _ (.inl rfl) e
 | ext φ=>obtain⟨p,⟨o,e⟩,st⟩:=x;exact⟨st _ _ p λo q=>k _ _ (.inl rfl) q,⟨o,k _ _ (.inl rfl) e⟩,st⟩
theorem HOk.lt(x:HOk P w H h)(e:H a=some o):a<h.objs.size:=(x a o e).lt
theorem HOk.fresh(x:HOk P w H h)(e:h.objs.size<=a):H a=none:=by
 cases q:H a with
 | none=>rfl
 | some u=>exact absurd (c5 (x.lt q) e) (j4 _)
theorem HOk.kept(x:HOk P w H h)(k:∀b u,h.get? b=some u->h'.get? b=some u):HOk P w H h':=λa o e=>
 (x a o e).stay (λb u _ q=>k b u q) (λ_ q=>q) λ_ _ q=>q
theorem HOk.laid(x:HOk P w H h)(k:∀b u,h.get? b=some u->h'.get? b=some u)(hp:h.objs.size<=a)(new:ObjOk P w (upd H a o) h' a o):HOk P w (upd H a o) h':=λb u e=>by
 have hn:=x.fresh hp;by_cases hb:b=a
 .subst hb;rw[np]at e;cases e;exact new
 .rw[ow hb]at e;exact(x b u e).stay (λc v _ q=>k c v q) (λc q=>by rw[ow (qb q hn)];exact q) λc xs q=>by rw[ow (qb q hn)];exact q
end
def Rd(H:Hp)(a:aE)(u:HO):Prop:=H a=some u\/∃o,H a=some (.frz o u)
theorem Rd.ok{P:aI}{w:aK}{H:Hp}{h:Heap}{a:aE}{u:HO}(r:Rd H a u)(x:HOk P w H h):ObjOk P w H h a u:=by
 rcases r with r|⟨o,r⟩
 .exact x a u r
 .obtain⟨_,q⟩:=x a _ r;exact q
def Mut:Option HO->Prop
 | some (.lst _)=>True
 | some (.dK _)=>True
 | some (.dT _)=>True
 | some (.set _ _)=>True
 | some (.ins _ _ _)=>True
 | some (.ext _)=>True
 | _=>False
section
variable{P:aI}{w:aK}{H:Hp}{h h':Heap}{x e:aE}{o':HO}
theorem HOk.write(ok:HOk P w H h)(mu:Mut (H x))(he:e=x\/H e=some (.own x))(k:∀b u,b≠e->h.get? b=some u->h'.get? b=some u)(AE:∃u,h'.get? e=some u)
  (new:ObjOk P w (upd H x o') h' x o'):HOk P w (upd H x o') h':=λb u q=>by
 have BR:∀c y,H c=some (.own y)->c≠x:=λc y r z=>by subst z;rw[r]at mu;exact mu
 have GN:∀c xs,H c=some (.tup xs)->c≠x:=λc xs r z=>by subst z;rw[r]at mu;exact mu
 by_cases hb:b=x
 .subst hb;rw[np]at q;cases q;exact new
 .rw[ow hb]at q;by_cases zD:b=e
  .have q':H b=some (.own x):=by
    rcases he with z|z
    .exact absurd (zD.trans z) hb
    .rw[zD];exact z
   rw[q]at q';cases q';obtain⟨v,hv⟩:=AE;exact⟨v,by rw[zD];exact hv⟩
  .refine(ok b u q).stay (λc v hc r=>k c v ?_ r) (λc r=>by rw[ow (BR c b r)];exact r) λc xs r=>by rw[ow (GN c xs r)];exact r
   rcases hc with rfl|hc
   .exact zD
   .rintro rfl;rcases he with z|z
    .exact BR c b hc z
    .rw[hc]at z;cases z;exact hb rfl
end
structure Un(fs ex:List aE)(H H':Hp)(h h':Heap):Prop where
 keep:∀b o,h.get? b=some o->H b=none->b∉fs->b∉ex->h'.get? b=some o
 slot:∀b o,h.get? b=some o->H b=none->b∈fs->b∉ex->∃sl,h'.get? b=some {o with slots:=sl}
 free:∀b o,h.get? b=some o->H b=none->b∉ex->H' b=none
 there:∀b o,h.get? b=some o->b∉ex->∃o',h'.get? b=some o'
 tups:∀b xs,H b=some (.tup xs)->H' b=some (.tup xs)
 frzs:∀b o u,H b=some (.frz o u)->H' b=some (.frz o u)
 tbls:∀b ps,H b=some (.tbl ps)->∃more,H' b=some (.tbl (ps++more))
section
variable{fs fs' ex lY:List aE}{H H1 H2:Hp}{h h1 h2 h':Heap}{a x e:aE}{o:HO}
theorem Un.any(u:Un fs ex H H1 h h1){b:aE}{ob:Obj}(q:h.get? b=some ob)(n:H b=none)(hx:b∉ex):∃sl,h1.get? b=some {ob with slots:=sl}:=by
 by_cases hb:b∈fs
 .exact u.slot b ob q n hb hx
 .exact⟨ob.slots,u.keep b ob q n hb hx⟩
theorem Un.kept(k:∀b u,h.get? b=some u->h'.get? b=some u):Un fs ex H H h h':=
 ⟨λb ob q _ _ _=>k b ob q,λb ob q _ _ _=>⟨ob.slots,k b ob q⟩,λ_ _ _ n _=>n,λb ob q _=>⟨ob,k b ob q⟩,λ_ _ q=>q,λ_ _ _ q=>q,λ_ ps q=>⟨#[],by rw[q];simp⟩⟩
theorem Un.refl:Un fs ex H H h h:=Un.kept λ_ _ q=>q
theorem Un.laid(k:∀b u,h.get? b=some u->h'.get? b=some u)(hp:h.objs.size<=a)(hn:H a=none):Un fs ex H (upd H a o) h h' where
 keep:=λb u q _ _ _=>k b u q
 slot:=λb u q _ _ _=>⟨u.slots,k b u q⟩
 free:=λb u q n _=>by rw[ow (dq (c5 (bq q) hp))];exact n
 there:=λb u q _=>⟨u,k b u q⟩
 tups:=λb xs q=>by rw[ow (qb q hn)];exact q
 frzs:=λb u xs q=>by rw[ow (qb q hn)];exact q
 tbls:=λb ps q=>⟨#[],by rw[ow (qb q hn),q];simp⟩
theorem Un.write(mu:Mut (H x))(he:e=x\/H e=some (.own x))(k:∀b u,b≠e->h.get? b=some u->h'.get? b=some u)(AE:∃u,h'.get? e=some u):Un fs ex H (upd H x o) h h':=by
 have hx:∀b,H b=none->b≠x:=λb n z=>by subst z;rw[n]at mu;exact mu
 have hb:∀b,H b=none->b≠e:=λb n z=>by
  subst z;rcases he with r|r
  .exact hx b n r
  .rw[n]at r;cases r
 have hm:∀b u,H b=some u->¬Mut (some u)->b≠x:=λb u q nm z=>by subst z;rw[q]at mu;exact nm mu
 refine⟨λb u q n _ _=>k b u (hb b n) q,λb u q n _ _=>⟨u.slots,k b u (hb b n) q⟩,λb u q n _=>by rw[ow (hx b n)];exact n,λb u q _=>?_,
  λb xs q=>by rw[ow (hm b _ q λz=>z)];exact q,λb u xs q=>by rw[ow (hm b _ q λz=>z)];exact q,λb ps q=>⟨#[],by rw[ow (hm b _ q λz=>z),q];simp⟩⟩
 by_cases zD:b=e
 .subst zD;exact AE
 .exact⟨u,k b u zD q⟩
end
noncomputable def trk(h:Heap)(H:Hp):List aE:=(cb h.objs.size).filter λa=>(H a).isSome
noncomputable def vR(h:Heap)(H:Hp):Heap:=PySem.W.hideAll h (trk h H)
theorem ajm(h:Heap)(H:Hp):(vR h H).objs.size=h.objs.size:=PySem.W.hideAll_size _ _
theorem ans{h:Heap}{H:Hp}{b:aE}{o:Obj}(e:h.get? b=some o)(n:H b=none):(vR h H).get? b=some o:=
 PySem.W.hideAll_get _ e λhm=>by have q:(H b).isSome=true:=(io.mp hm).2;rw[n]at q;simp at q
theorem asj{h:Heap}{H:Hp}{b:aE}{o:Obj}(e:(vR h H).get? b=some o):h.get? b=some o/\H b=none:=by
 have e':h.get? b=some o:=PySem.W.of_hideAll (trk h H) e;refine⟨e',?_⟩;cases q:H b with
 | none=>rfl
 | some x=>
  have hm:b∈trk h H:=io.mpr ⟨fh.mpr (bq e'),by simp[q]⟩;have z:(vR h H).get? b=none:=PySem.W.hideAll_none (trk h H) hm;rw[z]at e;cases e
end L2
namespace L2
open PySem PySem.Spec PyProof.Rows
structure Mod(K:aj)(mg:Str->Option aA)(base:Heap):Prop where
 kin:K.In base
 glob:base.Ns aO mg
 blt:∃mb,base.Ns AU mb/\∀x:Str,x≠"__name__"->mb x=cI x
 nolimit:base.NoLimit
structure Cx where
 prog:aI
 w:aK
 K:aj
 mg:Str->Option aA
 base:Heap
 A:Around
 N:List Str
 s₀:aB
 H₀:Hp
 env:oN
 outer:List oN
 stack:List oN
 ex:List aE
 fn:Str->Bool
 calm:Bool
 pn:List (aE×Obj)
 xe:aA->aB->Prop
noncomputable def frs(l:List oN):List aE:=l.filterMap (·.frame)
noncomputable abbrev Cx.fs(X:Cx):List aE:=frs X.outer
def Vis(sc:cK)(x:Str):Prop:=sc.names.lookup x=some .local\/sc.names.lookup x=some .cell\/sc.names.lookup x=some .free
def Loc(sc:cK)(x:Str):Prop:=sc.names.lookup x=some .local\/sc.names.lookup x=some .cell
def a0b(env:oN)(h:Heap)(m:Str->Option aA)(x:Str)(u:aA):Prop:=
 (env.kindOf x=some .local/\m x=some u)\/((env.kindOf x=some .cell\/env.kindOf x=some .free)/\∃c,env.cells.lookup x=some c/\h.IsCell c (some u))
structure Cx.Ok(X:Cx):Prop where
 mod:Mod X.K X.mg X.base
 kind:X.env.scope.kind=.function
 glob:X.env.globals=aO
 blt:X.env.builtins=AU
 above:X.s₀.heap.objs.size<=X.env.locals
 inj:∀x y c,X.env.cells.lookup x=some c->X.env.cells.lookup y=some c->x=y
 has:∀x,(X.env.kindOf x=some .cell\/X.env.kindOf x=some .free)->∃c,X.env.cells.lookup x=some c
 cab:∀x c,X.fn x=true->X.env.cells.lookup x=some c->X.s₀.heap.objs.size<=c
 hd:X.calm=true->X.A.handled=none
 frames:X.A.frames=some X.stack
 stk:X.stack=X.outer\/(X.stack=X.env::X.outer/\X.env.frame=some X.env.locals)
 exf:∀b∈X.ex,b≠X.env.locals/\∀x c,X.env.cells.lookup x=some c->c≠b
 bs:∀b o,X.base.get? b=some o->X.s₀.heap.get? b=some o/\X.H₀ b=none
 bsz:X.base.objs.size<=X.s₀.heap.objs.size
 noex:∀b o,X.base.get? b=some o->b∉X.ex
 exfs:∀b∈X.ex,b∉X.fs
 funs:X.s₀.heap.FunFrames X.base X.outer
 frf:∀b∈X.fs,X.H₀ b=none
structure Inv(X:Cx)(aC:List (aE×Obj))(σ:List (Option V))(H:Hp)(s:aB):Prop where
 ok:X.Ok
 os:s.os=X.s₀.os
 bare:fV s.gens
 base:Un X.fs X.ex X.H₀ H X.s₀.heap s.heap
 loc:∃m,s.heap.Ns X.env.locals m/\∀(i:Nat)(x:Str)(v:V),X.N[i]?=some x->σ[i]?=some (some v)->Vis X.env.scope x->∃u,RelV v u/\a0b X.env s.heap m x u
 cell:∀x c,X.env.cells.lookup x=some c->∃v,s.heap.IsCell c v
 free:H X.env.locals=none
 freeC:∀x c,X.env.cells.lookup x=some c->H c=none
 pin:∀p∈X.pn++aC,s.heap.get? p.1=some p.2/\H p.1=none/\p.1≠X.env.locals/\p.1∉X.fs/\∀v,p.2.data≠.cell v
 hok:HOk X.prog X.w H s.heap
 len:σ.length=X.N.length
section
variable{X:Cx}{aC:List (aE×Obj)}{σ:List (Option V)}{H H':Hp}{s:aB}{h':Heap}
theorem Cx.Ok.nofr(ok:X.Ok){b:aE}{o:Obj}(e:X.base.get? b=some o):b∉X.fs:=λhb=>by have:=(ok.funs.mem hb).1;rw[e]at this;cases this
theorem Inv.bs(I:Inv X aC σ H s):∀b o,X.base.get? b=some o->s.heap.get? b=some o/\H b=none:=λb o e=>
 ⟨I.base.keep b o (I.ok.bs b o e).1 (I.ok.bs b o e).2 (I.ok.nofr e) (I.ok.noex b o e),I.base.free b o (I.ok.bs b o e).1 (I.ok.bs b o e).2 (I.ok.noex b o e)⟩
theorem Inv.bk(I:Inv X aC σ H s):∀b o,X.base.get? b=some o->s.heap.get? b=some o:=λb o e=>(I.bs b o e).1
theorem Inv.mod(I:Inv X aC σ H s):Mod X.K X.mg X.base:=I.ok.mod
theorem Inv.kIn(I:Inv X aC σ H s):X.K.In s.heap:=I.ok.mod.kin.keeps I.bk
theorem Inv.lt(I:Inv X aC σ H s):X.env.locals<s.heap.objs.size:=let ⟨_,hn,_⟩:=I.loc;hn.lt
theorem Inv.sz(I:Inv X aC σ H s):X.s₀.heap.objs.size<=s.heap.objs.size:=dv I.ok.above (gj I.lt)
theorem Inv.nofs(I:Inv X aC σ H s){a:aE}(h:s.heap.objs.size<=a):a∉X.fs:=λhb=>by obtain⟨_,o,ho,_⟩:=I.ok.funs.mem hb;exact absurd (c5 (bq ho) (dv I.sz h)) (j4 _)
theorem Inv.cne(I:Inv X aC σ H s):∀x c,X.env.cells.lookup x=some c->c≠X.env.locals:=λx c e z=>by obtain⟨v,o,ho,hd⟩:=I.cell x c e;obtain⟨m,⟨o',es,ep,lT,pL,_⟩,_⟩:=I.loc;rw[z,lT]at ho;cases ho;rw[pL]at hd;cases hd
theorem Inv.funs(I:Inv X aC σ H s):s.heap.FunFrames X.base X.outer:=by
 have all:∀(l:List oN),(∀b∈frs l,b∈X.fs)->X.s₀.heap.FunFrames X.base l->s.heap.FunFrames X.base l:=by
  intro l;induction l with
  | nil=>intro _ _;trivial
  | cons env r ih=>
   intro hs hl;obtain⟨hk,⟨L,o,hf,hn,ho,hd⟩,hr⟩:=hl;have hL:L∈X.fs:=hs L (by unfold frs;rw[List.filterMap_cons,hf];exact aw);obtain⟨sl,e⟩:=I.base.slot L o ho (I.ok.frf L hL) hL λz=>I.ok.exfs L z hL;exact⟨hk,⟨L,_,hf,hn,e,hd⟩,ih (λb hb=>hs b (by unfold frs;rw[List.filterMap_cons,hf];exact a8 _ hb)) hr⟩
 exact all X.outer (λ_ hb=>hb) I.ok.funs
theorem Inv.stack(I:Inv X aC σ H s):s.heap.FunFrames X.base X.stack:=by
 rcases I.ok.stk with e|⟨e,hf⟩
 .rw[e];exact I.funs
 .rw[e];obtain⟨m,hn,_⟩:=I.loc;refine .cons (by rw[I.ok.kind];decide) hf hn ?_ I.funs;exact Heap.get?_none_of_le (dv I.ok.bsz I.ok.above)
theorem Inv.stkSub(I:Inv X aC σ H s):∀b∈frs X.stack,b∈X.env.locals::X.fs:=λb hb=>by
 rcases I.ok.stk with e|⟨e,hf⟩
 .rw[e]at hb;exact a8 _ hb
 .rw[e]at hb;unfold frs at hb;rw[List.filterMap_cons,hf]at hb;exact hb
theorem Inv.stkFree(I:Inv X aC σ H s):∀b∈frs X.stack,H b=none:=λb hb=>by
 rcases bb.mp (I.stkSub b hb)with e|hb
 .rw[e];exact I.free
 .obtain⟨_,o,ho,_⟩:=I.ok.funs.mem hb;exact I.base.free b o ho (I.ok.frf b hb) λz=>I.ok.exfs b z hb
theorem Inv.step{g':Array xT}{t':Nat}{d':Drawn}{ch:List aE}(I:Inv X aC σ H s)
  (hch:∀b∈ch,(b∈X.ex\/X.s₀.heap.objs.size<=b)/\b≠X.env.locals/\(∀x c,X.env.cells.lookup x=some c->c≠b)/\∀p∈X.pn++aC,p.1≠b)
  (keep:∀b o,b≠X.env.locals->b∉X.fs->b∉ch->s.heap.get? b=some o->H b=none->h'.get? b=some o)
  (slot:∀b o,b≠X.env.locals->b∈X.fs->b∉ch->s.heap.get? b=some o->H b=none->∃sl,h'.get? b=some {o with slots:=sl}) (free:∀b o,b∉ch->s.heap.get? b=some o->H b=none->H' b=none)
  (there:∀b o,b∉ch->s.heap.get? b=some o->∃o',h'.get? b=some o')
  (tups:∀b xs,H b=some (.tup xs)->H' b=some (.tup xs)) (frzs:∀b o u,H b=some (.frz o u)->H' b=some (.frz o u)) (tbls:∀b ps,H b=some (.tbl ps)->∃more,H' b=some (.tbl (ps++more)))
  (ns:∀m,s.heap.Ns X.env.locals m->h'.Ns X.env.locals m) (hok:HOk X.prog X.w H' h') (hg:fV g') :
  Inv X aC σ H' {s with heap:=h',gens:=g',drawn:=d',toks:=t'}:=by
 have neL:∀b o,X.s₀.heap.get? b=some o->b≠X.env.locals:=λb o e=>dq (c5 (bq e) I.ok.above);have Eo:∀b o,X.s₀.heap.get? b=some o->b∉X.ex->b∉ch:=λb o e hx hb=>by
  rcases(hch b hb).1 with z|z
  .exact hx z
  .exact absurd (c5 (bq e) z) (j4 _)
 have xK:∀x c,X.env.cells.lookup x=some c->∀v,s.heap.IsCell c v->h'.IsCell c v:=λx c e v ⟨o,ho,hd⟩=>by
  have BV:c∉ch:=λz=>(hch c z).2.2.1 x c e rfl;by_cases hc:c∈X.fs
  .obtain⟨sl,q⟩:=slot c o (I.cne x c e) hc BV ho (I.freeC x c e);exact⟨_,q,hd⟩
  .exact⟨o,keep c o (I.cne x c e) hc BV ho (I.freeC x c e),hd⟩
 refine⟨I.ok,I.os,hg,⟨λb o e n hb hx=>?_,λb o e n hb hx=>?_,λb o e n hx=>?_,λb o e hx=>?_,λb xs e=>tups b xs (I.base.tups b xs e),λb o xs e=>frzs b o xs (I.base.frzs b o xs e),λb ps e=>?_⟩,?_,λx c e=>?_,?_,λx c e=>?_,λp hp=>?_,hok,I.len⟩
 .exact keep b o (neL b o e) hb (Eo b o e hx) (I.base.keep b o e n hb hx) (I.base.free b o e n hx)
 .obtain⟨sl,e1⟩:=I.base.slot b o e n hb hx;obtain⟨sl',e2⟩:=slot b _ (neL b o e) hb (Eo b o e hx) e1 (I.base.free b o e n hx);exact⟨sl',e2⟩
 .obtain⟨o',e1⟩:=I.base.there b o e hx;exact free b o' (Eo b o e hx) e1 (I.base.free b o e n hx)
 .obtain⟨o',e1⟩:=I.base.there b o e hx;exact there b o' (Eo b o e hx) e1
 .obtain⟨m1,e1⟩:=I.base.tbls b ps e;obtain⟨m2,e2⟩:=tbls b _ e1;exact⟨m1++m2,by rw[e2,Array.append_assoc]⟩
 .obtain⟨m,hn,hl⟩:=I.loc;refine⟨m,ns m hn,λi x v e1 e2 e3=>?_⟩;obtain⟨u,r,l⟩:=hl i x v e1 e2 e3;refine⟨u,r,?_⟩;rcases l with l|⟨k,c,e,z⟩
  .exact .inl l
  .exact .inr ⟨k,c,e,xK x c e _ z⟩
 .obtain⟨v,z⟩:=I.cell x c e;exact⟨v,xK x c e v z⟩
 .obtain⟨m,⟨o,_,_,ho,_⟩,_⟩:=I.loc;exact free _ o (λz=>(hch _ z).2.1 rfl) ho I.free
 .obtain⟨v,o,ho,hd⟩:=I.cell x c e;exact free c o (λz=>(hch c z).2.2.1 x c e rfl) ho (I.freeC x c e)
 .obtain⟨e,n,ne,nf,d⟩:=I.pin p hp;have BV:p.1∉ch:=λz=>(hch p.1 z).2.2.2 p hp rfl;exact⟨keep p.1 p.2 ne nf BV e n,free p.1 p.2 BV e n,ne,nf,d⟩
theorem Inv.un{t':Nat}(I:Inv X aC σ H s)(u:Un X.fs [] H H' s.heap h')(hok:HOk X.prog X.w H' h'):Inv X aC σ H' {s with heap:=h',toks:=t'}:=by
 obtain⟨m,⟨o,es,ep,ho,r⟩,_⟩:=id I.loc;obtain⟨sl,hL⟩:=u.any ho I.free (by simp);exact I.step (g':=s.gens) (d':=s.drawn) (ch:=[]) (λ_ z=>nomatch z) (λb o _ hb _ e n=>u.keep b o e n hb (by simp)) (λb o _ hb _ e n=>u.slot b o e n hb (by simp)) (λb o _ e n=>u.free b o e n (by simp)) (λb o _ e=>u.there b o e (by simp)) u.tups u.frzs u.tbls (λm' hm=>by obtain⟨o',vO,jO,lT,r'⟩:=hm;rw[ho]at lT;cases lT;exact⟨_,vO,jO,hL,r'⟩) hok I.bare
theorem Inv.call{g':Array xT}{t':Nat}{d':Drawn}{ch:List aE}(I:Inv X aC σ H s)(u:Un (frs X.stack) ch H H' s.heap h')(hok:HOk X.prog X.w H' h')(hg:fV g')
  (hch:∀b∈ch,(b∈X.ex\/X.s₀.heap.objs.size<=b)/\b≠X.env.locals/\(∀x c,X.env.cells.lookup x=some c->c≠b)/\∀p∈X.pn++aC,p.1≠b) :
  Inv X aC σ H' {s with heap:=h',gens:=g',drawn:=d',toks:=t'}:=by
 obtain⟨m,⟨o,es,ep,ho,r⟩,_⟩:=id I.loc;obtain⟨sl,hL⟩:=u.any ho I.free λz=>(hch _ z).2.1 rfl;exact I.step (ch:=ch) hch (λb o hL hb hc e n=>u.keep b o e n (λz=>(bb.mp (I.stkSub b z)).elim hL hb) hc) (λb o _ _ hc e n=>u.any e n hc) (λb o hc e n=>u.free b o e n hc) (λb o hc e=>u.there b o e hc) u.tups u.frzs u.tbls (λm' hm=>by obtain⟨o',vO,jO,lT,r'⟩:=hm;rw[ho]at lT;cases lT;exact⟨_,vO,jO,hL,r'⟩) hok hg
theorem Inv.turned{t':Nat}{it:aE}(I:Inv X aC σ H s)(k:∀b o,b≠it->s.heap.get? b=some o->h'.get? b=some o)(hn:H it=none)(hL:it≠X.env.locals)
  (h1:it∈X.ex\/X.s₀.heap.objs.size<=it) (h2:∀x c,X.env.cells.lookup x=some c->c≠it) (h3:∀p∈X.pn++aC,p.1≠it):Inv X aC σ H {s with heap:=h',toks:=t'}:=by
 have nit:∀b u,H b=some u->b≠it:=λb u e z=>by rw[z,hn]at e;cases e
 refine I.step (g':=s.gens) (d':=s.drawn) (ch:=[it]) (λb hb=>?_) (λb o _ _ hc e _=>k b o (λz=>hc (by simp[z])) e) (λb o _ _ hc e _=>⟨o.slots,k b o (λz=>hc (by simp[z])) e⟩) (λ_ _ _ _ n=>n)
  (λb o hc e=>⟨o,k b o (λz=>hc (by simp[z])) e⟩) (λ_ _ e=>e) (λ_ _ _ e=>e) (λb ps e=>⟨#[],by rw[e];simp⟩) (λm hm=>?_) (λb u e=>?_) I.bare
 .have e:b=it:=by simpa using hb
  subst e;exact⟨h1,hL,h2,h3⟩
 .obtain⟨o,es,ep,ho,r⟩:=hm;exact⟨o,es,ep,k _ o (Ne.symm hL) ho,r⟩
 .refine(I.hok b u e).stay (λc v hc q=>k c v ?_ q) (λ_ q=>q) λ_ _ q=>q;rcases hc with z|z
  .rw[z];exact nit b u e
  .exact nit c _ z
theorem Inv.tok(I:Inv X aC σ H s)(t:Nat):Inv X aC σ H {s with toks:=t}:=I.un (h':=s.heap) (t':=t) Un.refl I.hok
theorem Inv.kept{t':Nat}(I:Inv X aC σ H s)(k:∀b u,s.heap.get? b=some u->h'.get? b=some u):Inv X aC σ H {s with heap:=h',toks:=t'}:=I.un (Un.kept k) (I.hok.kept k)
theorem Inv.laid{a:aE}{o:HO}{t':Nat}(I:Inv X aC σ H s)(k:∀b u,s.heap.get? b=some u->h'.get? b=some u)(hp:s.heap.objs.size<=a)(new:ObjOk X.prog X.w (upd H a o) h' a o) :
  Inv X aC σ (upd H a o) {s with heap:=h',toks:=t'}:=I.un (Un.laid k hp (I.hok.fresh hp)) (I.hok.laid k hp new)
theorem Inv.write{x e:aE}{o:HO}{t':Nat}(I:Inv X aC σ H s)(mu:Mut (H x))(he:e=x\/H e=some (.own x))(k:∀b u,b≠e->s.heap.get? b=some u->h'.get? b=some u)(AE:∃u,h'.get? e=some u)
  (new:ObjOk X.prog X.w (upd H x o) h' x o):Inv X aC σ (upd H x o) {s with heap:=h',toks:=t'}:=I.un (Un.write mu he k AE) (I.hok.write mu he k AE new)
theorem Inv.weak{σ':List (Option V)}(I:Inv X aC σ H s)(hl:σ'.length=σ.length)(w:∀(i:Nat) v,σ'[i]?=some (some v)->σ[i]?=some (some v)):Inv X aC σ' H s:=
 ⟨I.ok,I.os,I.bare,I.base,let ⟨m,hn,vF⟩:=I.loc;⟨m,hn,λi x v e1 e2 e3=>vF i x v e1 (w i v e2) e3⟩,I.cell,I.free,I.freeC,I.pin,I.hok,hl.trans I.len⟩
theorem Inv.pins_of{wK:List (aE×Obj)}(I:Inv X aC σ H s)(h:∀p∈wK,s.heap.get? p.1=some p.2/\H p.1=none/\p.1≠X.env.locals/\p.1∉X.fs/\∀v,p.2.data≠.cell v):Inv X wK σ H s:=
 ⟨I.ok,I.os,I.bare,I.base,I.loc,I.cell,I.free,I.freeC,λp hp=>(ay.mp hp).elim (λz=>I.pin p (jq _ z)) (h p),I.hok,I.len⟩
theorem ag5{N:List Str}(hN:N.Nodup){i j:Nat}{x:Str}(a:N[i]?=some x)(b:N[j]?=some x):i=j:=by obtain⟨h1,e1⟩:=ae.mp a;obtain⟨h2,e2⟩:=ae.mp b;exact(List.getElem_inj hN).mp (e1.trans e2.symm)
theorem ae0{M:Model}{A:Around}{E:aA->aB->Prop}{i:Nat}{x:Str}{v:V}{u:aA}{Q:Unit->aB->Prop}(I:Inv X aC σ H s)(hN:X.N.Nodup)(hi:X.N[i]?=some x)(hx:Loc X.env.scope x)(r:RelV v u)
  (h:∀s',Inv X aC (σ.set i (some v)) H s'->(∃a,b9 a s.heap s'.heap/\(a=X.env.locals\/X.env.cells.lookup x=some a))->Q () s') (hf:X.fn x=true\/X.env.scope.names.lookup x=some .local:=by first|exact .inl rfl|exact .inr rfl|assumption):aG M A (Ef X.env x u) Q E s:=by
 obtain⟨m,hn,hl⟩:=id I.loc;have Iz:(X.env.scope.kind==.class||(X.env.scope.kind==.module&&X.env.locals != X.env.globals))=false:=by rw[I.ok.kind];rfl
 have hiσ:i<σ.length:=by rw[I.len];exact(ae.mp hi).1
 have cne:=I.cne;have nL:∀{a:aE} {h':Heap},(∃o,s.heap.get? a=some o/\H a=none)->b9 a s.heap h'->HOk X.prog X.w H h':=λ{a h'} ha hs b ob e=>by
  obtain⟨_,_,bW⟩:=ha;refine(I.hok b ob e).stay (λc w' hc q=>(hs.2 c ?_).trans q) (λ_ q=>q) λ_ _ q=>q;rintro rfl;rcases hc with rfl|hc
  .rw[bW]at e;cases e
  .rw[bW]at hc;cases hc
 rcases hx with hk|hk
 .refine wpAny_storeName_local hk hn (λh' fS hs=>?_) Iz;obtain⟨oL,_,_,wT,_⟩:=id hn;refine h _ ⟨I.ok,I.os,I.bare,⟨λb o e n hb hx=>?_,λb o e n hb hx=>?_,I.base.free,λb o e hx=>?_,I.base.tups,I.base.frzs,I.base.tbls⟩,⟨_,fS,λj y v' e1 e2 e3=>?_⟩,λy c e=>?_,I.free,I.freeC,λp hp=>?_,nL ⟨oL,wT,I.free⟩ hs,by simpa using I.len⟩ ⟨_,hs,.inl rfl⟩
  .exact(hs.2 b (dq (c5 (bq e) I.ok.above))).trans (I.base.keep b o e n hb hx)
  .obtain⟨sl,e1⟩:=I.base.slot b o e n hb hx;exact⟨sl,(hs.2 b (dq (c5 (bq e) I.ok.above))).trans e1⟩
  .obtain⟨o',e1⟩:=I.base.there b o e hx;exact⟨o',(hs.2 b (dq (c5 (bq e) I.ok.above))).trans e1⟩
  .by_cases hj:j=i
   .subst hj;rw[hi]at e1;cases e1;rw[List.getElem?_set_self hiσ]at e2;cases e2;exact⟨u,r,.inl ⟨hk,by simp⟩⟩
   .rw[List.getElem?_set_ne (Ne.symm hj)]at e2;obtain⟨u',r',q⟩:=hl j y v' e1 e2 e3;refine⟨u',r',?_⟩;rcases q with ⟨k,e⟩|⟨k,c,e,z⟩
    .refine .inl ⟨k,?_⟩;have:y≠x:=λe=>hj (ag5 hN e1 (e▸hi));simp[this,e]
    .exact .inr ⟨k,c,e,z.sameBut hs (cne y c e)⟩
  .obtain⟨w',z⟩:=I.cell y c e;exact⟨w',z.sameBut hs (cne y c e)⟩
  .obtain⟨e,n,ne,nf,d⟩:=I.pin p hp;exact⟨(hs.2 p.1 ne).trans e,n,ne,nf,d⟩
 .have Ij:X.fn x=true:=by
   rcases hf with z|z
   .exact z
   .rw[z]at hk;cases hk
  obtain⟨c,hc⟩:=I.ok.has x (.inl hk);obtain⟨w',z⟩:=I.cell x c hc;refine wpAny_storeName_cell I.ok.kind hk hc z (λh' iP hs=>?_);obtain⟨oc,hoc,HI⟩:=id z;refine h {s with heap:=h'} ⟨I.ok,I.os,I.bare,⟨λb o e n hb hx=>?_,λb o e n hb hx=>?_,I.base.free,λb o e hx=>?_,I.base.tups,I.base.frzs,I.base.tbls⟩,⟨m,hn.sameBut hs (Ne.symm (cne x c hc)),λj y v' e1 e2 e3=>?_⟩,λy c' e=>?_,I.free,I.freeC,λp hp=>?_,nL ⟨oc,hoc,I.freeC x c hc⟩ hs,by simpa using I.len⟩ ⟨c,hs,.inr hc⟩
  .exact(hs.2 b (dq (c5 (bq e) (I.ok.cab x c Ij hc)))).trans (I.base.keep b o e n hb hx)
  .obtain⟨sl,e1⟩:=I.base.slot b o e n hb hx;exact⟨sl,(hs.2 b (dq (c5 (bq e) (I.ok.cab x c Ij hc)))).trans e1⟩
  .obtain⟨o',e1⟩:=I.base.there b o e hx;exact⟨o',(hs.2 b (dq (c5 (bq e) (I.ok.cab x c Ij hc)))).trans e1⟩
  .by_cases hj:j=i
   .subst hj;rw[hi]at e1;cases e1;rw[List.getElem?_set_self hiσ]at e2;cases e2;exact⟨u,r,.inr ⟨.inl hk,c,hc,iP⟩⟩
   .rw[List.getElem?_set_ne (Ne.symm hj)]at e2;obtain⟨u',r',q⟩:=hl j y v' e1 e2 e3;refine⟨u',r',?_⟩;rcases q with q|⟨k,c',e,z'⟩
    .exact .inl q
    .refine .inr ⟨k,c',e,z'.sameBut hs ?_⟩;rintro rfl;exact hj (ag5 hN e1 (I.ok.inj _ _ _ e hc▸hi))
  .by_cases CV:c'=c
   .subst CV;exact⟨_,iP⟩
   .obtain⟨w2,z2⟩:=I.cell y c' e;exact⟨w2,z2.sameBut hs CV⟩
  .obtain⟨e,n,ne,nf,d⟩:=I.pin p hp;refine⟨(hs.2 p.1 ?_).trans e,n,ne,nf,d⟩;intro q;rw[q,hoc]at e;have q':oc=p.2:=cr e;exact d w' (by rw[<-q'];exact HI)
theorem Lj{M:Model}{A:Around}{E:aA->aB->Prop}{i:Nat}{x:Str}{v:V}{u:aA}{Q:Unit->aB->Prop}(I:Inv X aC σ H s)(hN:X.N.Nodup)(hi:X.N[i]?=some x)(hx:Loc X.env.scope x)(r:RelV v u)
  (h:∀s',Inv X aC (σ.set i (some v)) H s'->Q () s') (hf:X.fn x=true\/X.env.scope.names.lookup x=some .local:=by first|exact .inl rfl|exact .inr rfl|assumption):aG M A (Ef X.env x u) Q E s:=
 ae0 I hN hi hx r (λs' I' _=>h s' I') hf
theorem Inv.call'{s':aB}{ch:List aE}(I:Inv X aC σ H s)(ho:s'.os=s.os)(u:Un (frs X.stack) ch H H' s.heap s'.heap)(hok:HOk X.prog X.w H' s'.heap)(hg:fV s'.gens)
  (hch:∀b∈ch,(b∈X.ex\/X.s₀.heap.objs.size<=b)/\b≠X.env.locals/\(∀x c,X.env.cells.lookup x=some c->c≠b)/\∀p∈X.pn++aC,p.1≠b):Inv X aC σ H' s':=by
 obtain⟨h',g',d',t',o'⟩:=s';have e:o'=s.os:=ho;subst e;exact I.call (g':=g') (t':=t') (d':=d') u hok hg hch
end
abbrev XK:=aA->Option aE->Hp->Prop
noncomputable abbrev St:=List (Option V)
abbrev VK:=V->Hp->Prop
abbrev TE:=St->Hp->VK->Prop
abbrev TT:=St->Hp->(Bool->Hp->Prop)->Prop
abbrev TA:=St->Hp->(List V->Hp->Prop)->Prop
structure qH where
 nx:St->Hp->Prop
 rt:VK
 bk:St->Hp->Prop:=λ_ _=>False
 ct:St->Hp->Prop:=λ_ _=>False
abbrev TS:=qH->St->Hp->Prop
def EP(X:Cx)(aC:List (aE×Obj))(σ:St)(Q:VK)(u:aA)(s':aB):Prop:=∃v H',Inv X aC σ H' s'/\RelV v u/\Q v H'
def TP(X:Cx)(aC:List (aE×Obj))(σ:St)(Q:Bool->Hp->Prop)(b:Bool)(s':aB):Prop:=∃H',Inv X aC σ H' s'/\Q b H'
def AP(X:Cx)(aC:List (aE×Obj))(σ:St)(Q:List V->Hp->Prop)(us:List aA)(s':aB):Prop:=∃vs H',Inv X aC σ H' s'/\Vals vs us/\Q vs H'
def SP(X:Cx)(aC:List (aE×Obj))(D:qH)(f:Flow)(s':aB):Prop:=
 match f with
 | .next=>∃σ' H',Inv X aC σ' H' s'/\D.nx σ' H'
 | .brk=>∃σ' H',Inv X aC σ' H' s'/\D.bk σ' H'
 | .cont=>∃σ' H',Inv X aC σ' H' s'/\D.ct σ' H'
 | .ret u=>∃v σ' H',Inv X aC σ' H' s'/\RelV v u/\D.rt v H'
def PE(X:Cx)(e:Expr)(t:TE):Prop:=
 ∀(aC:List (aE×Obj)) (s:aB) (σ:St) (H:Hp) (Q:VK),Inv X aC σ H s->t σ H Q->aG (aH X.prog X.w) X.A (bH e X.env) (EP X aC σ Q) X.xe s
def PT(X:Cx)(e:Expr)(t:TT):Prop:=
 ∀(aC:List (aE×Obj)) (s:aB) (σ:St) (H:Hp) (Q:Bool->Hp->Prop),Inv X aC σ H s->t σ H Q->aG (aH X.prog X.w) X.A (isTrue e X.env (bH e X.env)) (TP X aC σ Q) X.xe s
def PW(X:Cx)(e:Expr)(t:TT):Prop:=
 ∀(jQ:pR aA) (aC:List (aE×Obj)) (s:aB) (σ:St) (H:Hp) (Q:Bool->Hp->Prop),Inv X aC σ H s->t σ H Q->aG (aH X.prog X.w) X.A (isTrue e X.env jQ) (TP X aC σ Q) X.xe s
theorem PW.pt{X:Cx}{e:Expr}{t:TT}(h:PW X e t):PT X e t:=h _
def PA(X:Cx)(es:List Expr)(t:TA):Prop:=
 ∀(pos:eA) (aC:List (aE×Obj)) (s:aB) (σ:St) (H:Hp) (Q:List V->Hp->Prop),Inv X aC σ H s->t σ H Q->aG (aH X.prog X.w) X.A (BE (cO pos (aR es X.env))) (AP X aC σ Q) X.xe s
def PS(X:Cx)(st:aW)(t:TS):Prop:=
 ∀(aC:List (aE×Obj)) (s:aB) (σ:St) (H:Hp) (D:qH),Inv X aC σ H s->t D σ H->aG (aH X.prog X.w) X.A (exec st X.env) (SP X aC D) X.xe s
def PSs(X:Cx)(st:List aW)(t:TS):Prop:=
 ∀(aC:List (aE×Obj)) (s:aB) (σ:St) (H:Hp) (D:qH),Inv X aC σ H s->t D σ H->aG (aH X.prog X.w) X.A (execs st X.env) (SP X aC D) X.xe s
theorem thn{α:Type}{t:pR α}{Q Q':α->aB->Prop}{M:Model}{A:Around}{E:aA->aB->Prop}{s:aB}(h:aG M A t Q E s)(hQ:∀a s,Q a s->Q' a s):aG M A t Q' E s:=jj h hQ λ_ _ x=>x
end L2
namespace L2
open PySem PySem.Spec PyProof.Rows
section
variable{X:Cx}
def mC(i:Nat):TE:=λσ H Q=>∃v,σ[i]?=some (some v)/\Q v H
def tC(v:V):TE:=λ_ H Q=>Q v H
theorem aum{i:Nat}{x:Str}{pos:eA}(hN:X.N[i]?=some x)(hv:Vis X.env.scope x)(hd:(x==("__debug__" : Str))=false:=by decide)(oA:(x==("__classdict__" : Str))=false:=by decide):PE X (.Name x pos) (mC i):=by
 intro aC s σ H Q I h;obtain⟨v,e,h⟩:=h;obtain⟨m,hn,hl⟩:=I.loc;obtain⟨u,r,l⟩:=hl i x v hN e hv;have fin:EP X aC σ Q u s:=⟨v,H,I,r,h⟩;rcases l with ⟨hk,hm⟩|⟨hk,c,hc,nZ⟩
 .exact Ah (vX I.ok.kind hk hn hm fin) hd
 .rcases hk with hk|hk
  .exact Ah (xU I.ok.kind hk hc nZ fin) hd
  .exact Ah (wpAny_loadName_free I.ok.kind hk hc nZ fin oA) hd
theorem mx{i j pos}:PE X (.Constant (.int i) j pos) (tC (.int i)):=λ_ _ _ H _ I h=>wpAny_Constant_int ⟨.int i,H,I.tok _,⟨_,rfl⟩,h⟩
theorem uC{b j pos}:PE X (.Constant (.bool b) j pos) (tC (.bl b)):=λ_ _ _ H _ I h=>Constant_bool ⟨.bl b,H,I,rfl,h⟩
theorem sx{j pos}:PE X (.Constant .none j pos) (tC .non):=λ_ _ _ H _ I h=>Constant_none ⟨.non,H,I,rfl,h⟩
theorem qe{x j pos}:PE X (.Constant (.str x) j pos) (tC (.str x)):=λ_ _ _ H _ I h=>Calls.Constant_str ⟨.str x,H,I.tok _,⟨_,rfl⟩,h⟩
def Gl(X:Cx)(x:Str):Prop:=X.env.kindOf x=some .globalImplicit
theorem KP{E:aA->aB->Prop}{aC:List (aE×Obj)}{s:aB}{σ:St}{H:Hp}{x:Str}{u:aA}{pos:eA}{Q:aA->aB->Prop}(I:Inv X aC σ H s)(hg:Gl X x)(hm:X.mg x=some u)(h:Q u s)
  (hd:(x==("__debug__" : Str))=false:=by decide):aG (aH X.prog X.w) X.A (bH (.Name x pos) X.env) Q E s:=
 Calls.Name_function_global I.ok.kind hg (Calls.loadGlobal_global (by rw[I.ok.glob];exact I.mod.glob.keeps I.bk) hm h) hd
theorem v5{E:aA->aB->Prop}{aC:List (aE×Obj)}{s:aB}{σ:St}{H:Hp}{x:Str}{u:aA}{pos:eA}{Q:aA->aB->Prop}(I:Inv X aC σ H s)(hg:Gl X x)(hm:X.mg x=none)(hv:cI x=some u)(h:Q u s)
  (hn:x≠"__name__":=by decide) (hd:(x==("__debug__" : Str))=false:=by decide):aG (aH X.prog X.w) X.A (bH (.Name x pos) X.env) Q E s:=by
 obtain⟨mb,h1,h2⟩:=I.mod.blt;exact Calls.Name_function_global I.ok.kind hg (Calls.loadGlobal_builtin (by rw[I.ok.glob];exact I.mod.glob.keeps I.bk) hm (by rw[I.ok.blt];exact h1.keeps I.bk) ((h2 x hn).trans hv) h) hd
theorem ali{x:Str}{v:V}{u:aA}{pos:eA}(hg:Gl X x)(hm:X.mg x=some u)(r:RelV v u)(hd:(x==("__debug__" : Str))=false:=by decide):PE X (.Name x pos) (tC v):=
 λ_ _ _ H _ I h=>KP I hg hm ⟨v,H,I,r,h⟩ hd
theorem K3{x:Str}{v:V}{u:aA}{pos:eA}(hg:Gl X x)(hm:X.mg x=none)(hv:cI x=some u)(r:RelV v u)(hn:x≠"__name__":=by decide)(hd:(x==("__debug__" : Str))=false:=by decide):PE X (.Name x pos) (tC v):=
 λ_ _ _ H _ I h=>v5 I hg hm hv ⟨v,H,I,r,h⟩ hn hd
variable{a b:Expr}{ta tb:TE}{pos:eA}
def PC(X:Cx)(op:oO)(a b:Expr)(t:TE):Prop:=
 ∀(aC:List (aE×Obj)) (s:aB) (σ:St) (H:Hp) (Q:VK),Inv X aC σ H s->t σ H Q->
  aG (aH X.prog X.w) X.A (bH a X.env) (λv s₁=>aG (aH X.prog X.w) X.A (bH b X.env) (λu s₂=>aG (aH X.prog X.w) X.A (aV op v u) (EP X aC σ Q) X.xe s₂) X.xe s₁) X.xe s
def tB(t:TE):TT:=λσ H Q=>t σ H λx H1=>∃c,x=.bl c/\Q c H1
theorem FD{op:oO}{t:TE}(h:PC X op a b t)(h1:fH op b=false:=by first|exact nobehind _ (by decide) (by decide)|rfl):PT X (.Compare a [op] [b] pos) (tB t):=by intro aC s σ H Q I hw;refine uF (thn (h aC s σ H _ I hw) λv s1 h1=>thn h1 λu s2 h2=>thn h2 λc s3 ⟨x,H1,I1,r1,q1⟩=>?_) h1;obtain⟨d,rfl,q⟩:=q1;cases r1;exact gr ⟨H1,I1,q⟩
theorem wf{e:Expr}{t:TE}(h:PE X e t)(he:∀jQ,isTrue e X.env jQ=(do let v <-jQ;standAt e.pos;mS [v] (truthy v)):=by intro _;rfl):PT X e (tB t):=by intro aC s σ H Q I hw;refine isTrue_plain (thn (h aC s σ H _ I hw) λv s1 ⟨x,H1,I1,r1,q1⟩=>?_) (he _);obtain⟨d,rfl,q⟩:=q1;cases r1;exact gr ⟨H1,I1,q⟩
variable{tA Ee:TT}{aZ:List Expr}
def azv(t u:TT):TT:=λσ H Q=>t σ H λc H1=>if c=true then u σ H1 Q else Q false H1
def tOr(t u:TT):TT:=λσ H Q=>t σ H λc H1=>if c=true then Q true H1 else u σ H1 Q
def a0o(t:TT):TT:=λσ H Q=>t σ H λc H1=>Q (!c) H1
theorem wn(ha:PT X a tA):PW X (.BoolOp .And [a] pos) tA:=by
 intro wh aC s σ H Q I h;refine isTrue_and (thn (ha aC s σ H Q I h) λc s1 e=>?_);cases c with
 | true=>exact isTrue_and_nil e
 | false=>exact e
theorem Fv(ha:PT X a tA):PW X (.BoolOp .Or [a] pos) tA:=by
 intro wh aC s σ H Q I h;refine isTrue_or (thn (ha aC s σ H Q I h) λc s1 e=>?_);cases c with
 | false=>exact isTrue_or_nil e
 | true=>exact e
theorem zT(ha:PT X a tA)(hb:PW X (.BoolOp .And (b::aZ) pos) Ee):PW X (.BoolOp .And (a::b::aZ) pos) (azv tA Ee):=by
 intro wh aC s σ H Q I h;refine isTrue_and (thn (ha aC s σ H _ I h) λc s1 ⟨H1,I1,q1⟩=>?_);cases c with
 | true=>exact hb wh aC s1 σ H1 Q I1 q1
 | false=>exact⟨H1,I1,q1⟩
theorem Fe(ha:PT X a tA)(hb:PW X (.BoolOp .Or (b::aZ) pos) Ee):PW X (.BoolOp .Or (a::b::aZ) pos) (tOr tA Ee):=by
 intro wh aC s σ H Q I h;refine isTrue_or (thn (ha aC s σ H _ I h) λc s1 ⟨H1,I1,q1⟩=>?_);cases c with
 | true=>exact⟨H1,I1,q1⟩
 | false=>exact hb wh aC s1 σ H1 Q I1 q1
theorem KJ(ha:PT X a tA):PT X (.UnaryOp .Not a pos) (a0o tA):=by intro aC s σ H Q I h;exact isTrue_not (ha aC s σ H (λc H1=>Q (!c) H1) I h)
def axb(ta tb:TE):TE:=λσ H Q=>ta σ H λx H1=>∃c,x=.bl c/\if c=true then tb σ H1 Q else Q (.bl false) H1
def a0f(ta tb:TE):TE:=λσ H Q=>ta σ H λx H1=>∃c,x=.bl c/\if c=true then Q (.bl true) H1 else tb σ H1 Q
def ax3(ta:TE):TE:=λσ H Q=>ta σ H λx H1=>∃c,x=.bl c/\Q (.bl (!c)) H1
theorem DD{op}{t:TE}(h:PE X a t):PE X (.BoolOp op [a] pos) t:=λaC s σ H Q I hw=>BoolOp_one (h aC s σ H Q I hw)
theorem DJ(ha:PE X a ta)(hb:PE X (.BoolOp .And (b::aZ) pos) tb):PE X (.BoolOp .And (a::b::aZ) pos) (axb ta tb):=by
 intro aC s σ H Q I h;refine BoolOp_and (thn (ha aC s σ H _ I h) λv s1 ⟨x,H1,I1,r1,q1⟩=>?_);obtain⟨c,rfl,q1⟩:=q1;cases r1;refine gr ?_;cases c with
 | true=>exact hb aC s1 σ H1 Q I1 q1
 | false=>exact⟨.bl false,H1,I1,rfl,q1⟩
theorem avh(ha:PE X a ta)(hb:PE X (.BoolOp .Or (b::aZ) pos) tb):PE X (.BoolOp .Or (a::b::aZ) pos) (a0f ta tb):=by
 intro aC s σ H Q I h;refine BoolOp_or (thn (ha aC s σ H _ I h) λv s1 ⟨x,H1,I1,r1,q1⟩=>?_);obtain⟨c,rfl,q1⟩:=q1;cases r1;refine gr ?_;cases c with
 | false=>exact hb aC s1 σ H1 Q I1 q1
 | true=>exact⟨.bl true,H1,I1,rfl,q1⟩
theorem avx(ha:PE X a ta):PE X (.UnaryOp .Not a pos) (ax3 ta):=by intro aC s σ H Q I h;refine UnaryOp_ (thn (ha aC s σ H _ I h) λv s1 ⟨x,H1,I1,r1,q1⟩=>?_);obtain⟨c,rfl,q1⟩:=q1;cases r1;exact not_of (gr ⟨.bl (!c),H1,I1,rfl,q1⟩)
def tIf(t:TT)(ta tb:TE):TE:=λσ H Q=>t σ H λc H1=>if c=true then ta σ H1 Q else tb σ H1 Q
theorem Lv{c:Expr}(hc:PT X c tA)(ha:PE X a ta)(hb:PE X b tb):PE X (.IfExp c a b pos) (tIf tA ta tb):=by
 intro aC s σ H Q I h;refine wpAny_IfExp (thn (hc aC s σ H _ I h) λd s1 ⟨H1,I1,q1⟩=>?_);cases d with
 | true=>exact ha aC s1 σ H1 Q I1 q1
 | false=>exact hb aC s1 σ H1 Q I1 q1
end
end L2
namespace L2
open PySem PySem.Spec PyProof.Rows
def SqL(K:aj)(H:Hp)(a:aE)(xs:List V):Prop:=
 Rd H a (.lst xs)\/
  ∃(o:Obj)(its:Array aA)(n:Nat),K.lookup a=some o/\o.cls=.type "list"/\o.dict=none/\o.data=.seq its n/\its.size<=aF/\Vals xs its.toList
def SqT(K:aj)(H:Hp)(a:aE)(xs:List V):Prop:=
 Rd H a (.tup xs)\/
  ∃(o:Obj)(its:Array aA)(n:Nat),K.lookup a=some o/\o.cls=.type "tuple"/\o.data=.seq its n/\its.size<=aF/\Vals xs its.toList
noncomputable def a00:aA->Option V
 | .none=>some .non
 | .bool b=>some (.bl b)
 | .int i _=>some (.int i)
 | .str x _=>some (.str x)
 | .bytes b _=>some (.byt b)
 | .float b _=>some (.flt b)
 | .ref a=>some (.ref a)
 | .type n=>some (.ty n)
 | _=>none
theorem RelV.abs{x:V}{u:aA}(r:RelV x u):a00 u=some x:=by
 cases x with
 | non=>cases r;rfl
 | bl _=>cases r;rfl
 | int _=>obtain⟨t,rfl⟩:=r;rfl
 | str _=>obtain⟨t,rfl⟩:=r;rfl
 | byt _=>obtain⟨t,rfl⟩:=r;rfl
 | flt _=>obtain⟨t,rfl⟩:=r;rfl
 | ref _=>cases r;rfl
 | ty _=>cases r;rfl
theorem RelV.inj{x y:V}{u:aA}(r:RelV x u)(q:RelV y u):x=y:=cr (r.abs.symm.trans q.abs)
theorem Vals.inj:∀{xs ys:List V} {us:List aA},Vals xs us->Vals ys us->xs=ys
 | _,_,_,.nil,.nil=>rfl
 | _,_,_,.cons r t,.cons r' t'=>by rw[r.inj r',Vals.inj t t']
section
variable{X:Cx}{aC:List (aE×Obj)}{σ:St}{H:Hp}{s:aB}{a:aE}{xs ys:List V}
theorem SqL.of{K:aj}(h:H a=some (.lst xs)):SqL K H a xs:=.inl (.inl h)
theorem SqT.of{K:aj}(h:H a=some (.tup xs)):SqT K H a xs:=.inl (.inl h)
theorem Inv.list(I:Inv X aC σ H s)(h:SqL X.K H a xs):∃its:List aA,Vals xs its/\PlainL s.heap a its.toArray/\xs.length<=aF:=by
 rcases h with h|⟨o,its,n,hk,hc,hd,hs,hz,r⟩
 .obtain⟨z,its,n,r,e⟩:=h.ok I.hok;exact⟨its,r,⟨_,n,e,rfl,rfl,rfl⟩,z⟩
 .refine⟨its.toList,r,⟨o,n,I.kIn a o hk,hc,hd,by simpa using hs⟩,?_⟩;have e:=r.length;simp only[ax]at e;lia
theorem Inv.tuple(I:Inv X aC σ H s)(h:SqT X.K H a xs):∃its:List aA,Vals xs its/\oK s.heap a its.toArray/\xs.length<=aF:=by
 rcases h with h|⟨o,its,n,hk,hc,hs,hz,r⟩
 .obtain⟨z,its,r,p⟩:=h.ok I.hok;exact⟨its,r,p,z⟩
 .refine⟨its.toList,r,⟨o,I.kIn a o hk,hc,n,by simpa using hs⟩,?_⟩;have e:=r.length;simp only[ax]at e;lia
theorem Inv.list_inj(I:Inv X aC σ H s)(h:SqL X.K H a xs)(h':SqL X.K H a ys):xs=ys:=by
 obtain⟨its,r,⟨o,n,e,_,_,d⟩,_⟩:=I.list h;obtain⟨its',r',⟨o',n',e',_,_,d'⟩,_⟩:=I.list h';rw[e]at e';cases e';rw[d]at d';injection d' with d1 _
 have:its=its':=by simpa using congrArg Array.toList d1
 subst this;exact r.inj r'
theorem Inv.tuple_inj(I:Inv X aC σ H s)(h:SqT X.K H a xs)(h':SqT X.K H a ys):xs=ys:=by
 obtain⟨its,r,⟨o,e,_,n,d⟩,_⟩:=I.tuple h;obtain⟨its',r',⟨o',e',_,n',d'⟩,_⟩:=I.tuple h';rw[e]at e';cases e';rw[d]at d';injection d' with d1 _
 have:its=its':=by simpa using congrArg Array.toList d1
 subst this;exact r.inj r'
end
noncomputable abbrev Cx.wish(X:Cx)(E:aA->aB->Prop):Cx:={X with xe:=E}
noncomputable abbrev Cx.nox(X:Cx):Cx:=X.wish λ_ _=>False
theorem Cx.Ok.wish{X:Cx}(ok:X.Ok)(E:aA->aB->Prop):(X.wish E).Ok:=
 ⟨ok.mod,ok.kind,ok.glob,ok.blt,ok.above,ok.inj,ok.has,ok.cab,ok.hd,ok.frames,ok.stk,ok.exf,ok.bs,ok.bsz,ok.noex,ok.exfs,ok.funs,ok.frf⟩
theorem Cx.Ok.unwish{X:Cx}{E:aA->aB->Prop}(ok:(X.wish E).Ok):X.Ok:=
 ⟨ok.mod,ok.kind,ok.glob,ok.blt,ok.above,ok.inj,ok.has,ok.cab,ok.hd,ok.frames,ok.stk,ok.exf,ok.bs,ok.bsz,ok.noex,ok.exfs,ok.funs,ok.frf⟩
section
variable{X:Cx}{aC:List (aE×Obj)}{σ:St}{H:Hp}{s:aB}{E:aA->aB->Prop}
theorem Inv.wish(I:Inv X aC σ H s)(E:aA->aB->Prop):Inv (X.wish E) aC σ H s:=⟨I.ok.wish E,I.os,I.bare,I.base,I.loc,I.cell,I.free,I.freeC,I.pin,I.hok,I.len⟩
theorem Inv.unwish(I:Inv (X.wish E) aC σ H s):Inv X aC σ H s:=⟨I.ok.unwish,I.os,I.bare,I.base,I.loc,I.cell,I.free,I.freeC,I.pin,I.hok,I.len⟩
theorem SP.unwish{D:qH}{f:Flow}{s':aB}(h:SP (X.wish E) aC D f s'):SP X aC D f s':=by
 cases f with
 | next=>obtain⟨σ',H',I,q⟩:=h;exact⟨σ',H',I.unwish,q⟩
 | brk=>obtain⟨σ',H',I,q⟩:=h;exact⟨σ',H',I.unwish,q⟩
 | cont=>obtain⟨σ',H',I,q⟩:=h;exact⟨σ',H',I.unwish,q⟩
 | ret u=>obtain⟨v,σ',H',I,r,q⟩:=h;exact⟨v,σ',H',I.unwish,r,q⟩
theorem PSs.nox{st:List aW}{t:TS}(h:PSs X.nox st t):PSs X st t:=λaC s σ H D I hw=>
 jj (h aC s σ H D (I.wish _) hw) (λ_ _ q=>q.unwish) λ_ _ z=>k6 z
end
section
variable{X:Cx}{st:aW}{aZ:List aW}{t u:TS}{e:Expr}{te:TE}{pos:eA}
def axp:TS:=λD σ H=>D.nx σ H
def az2(t u:TS):TS:=λD σ H=>t {D with nx:=u D} σ H
theorem pw:PSs X [] axp:=λ_ _ σ H _ I h=>lQ ⟨σ,H,I,h⟩
theorem mw(h1:PS X st t)(h2:PSs X aZ u):PSs X (st::aZ) (az2 t u):=by
 intro aC s σ H D I h;refine Ec (thn (h1 aC s σ H {D with nx:=u D} I h) λf s1 q=>?_);cases f with
 | next=>
  obtain⟨σ',H',I',q⟩:=q;exact h2 aC s1 σ' H' D I' q
 | ret v=>exact q
 | brk=>exact q
 | cont=>exact q
theorem m8(h1:PS X st t):PSs X [st] t:=by
 intro aC s σ H D I h;refine Ec (thn (h1 aC s σ H D I h) λf s1 q=>?_);cases f with
 | next=>exact lQ q
 | ret v=>exact q
 | brk=>exact q
 | cont=>exact q
theorem Inv.quiet{aC:List (aE×Obj)}{σ:St}{H:Hp}{s:aB}(I:Inv X aC σ H s):interactive X.env=false:=by simp[interactive,I.ok.kind]
def ax6(te:TE):TS:=λD σ H=>te σ H λ_ H1=>D.nx σ H1
theorem rq(he:PE X e te)(hs:kP e none pos.line X.env=aS false:=by rfl):PS X (.Expr e pos) (ax6 te):=by intro aC s σ H D I h;exact wpAny_Expr_any (thn (he aC s σ H _ I h) λv s1 ⟨x,H1,I1,r1,q1⟩=>⟨σ,H1,I1,q1⟩) I.quiet hs
def a0d(te:TE):TS:=λD σ H=>te σ H D.rt
theorem nv(he:PE X e te):PS X (.Return (some e) pos) (a0d te):=by intro aC s σ H D I h;exact wpAny_Return_some (thn (he aC s σ H _ I h) λv s1 ⟨x,H1,I1,r1,q1⟩=>⟨x,σ,H1,I1,r1,q1⟩)
def a0s(c:TT)(t u:TS):TS:=λD σ H=>c σ H λb H1=>if b=true then t D σ H1 else u D σ H1
theorem rs{c:Expr}{a b:List aW}{tc:TT}(hc:PT X c tc)(ha:PSs X a t)(hb:PSs X b u):PS X (.If c a b pos) (a0s tc t u):=by
 intro aC s σ H D I h;refine wpAny_If (thn (hc aC s σ H _ I h) λd s1 ⟨H1,I1,q1⟩=>?_);cases d with
 | true=>exact ha aC s1 σ H1 D I1 q1
 | false=>exact hb aC s1 σ H1 D I1 q1
end
abbrev TG:=V->St->Hp->(St->Hp->Prop)->Prop
abbrev TGs:=List V->St->Hp->(St->Hp->Prop)->Prop
def PG(X:Cx)(bM:Expr)(t:TG):Prop:=
 ∀(aC:List (aE×Obj)) (s:aB) (σ:St) (H:Hp) (v:V) (u:aA) (Q:St->Hp->Prop),Inv X aC σ H s->RelV v u->t v σ H Q->
  aG (aH X.prog X.w) X.A (jF bM X.env u) (λ_ s'=>∃σ' H',Inv X aC σ' H' s'/\Q σ' H') X.xe s
def PGs(X:Cx)(ts:List Expr)(t:TGs):Prop:=
 ∀(aC:List (aE×Obj)) (s:aB) (σ:St) (H:Hp) (vs:List V) (us:List aA) (Q:St->Hp->Prop),Inv X aC σ H s->Vals vs us->t vs σ H Q->
  aG (aH X.prog X.w) X.A (assignInOrder ((dJ ts X.env).map (·.2)) us) (λ_ s'=>∃σ' H',Inv X aC σ' H' s'/\Q σ' H') X.xe s
abbrev Jr:=V->V->V->Hp->(Hp->Prop)->Prop
def azr(X:Cx)(t:Jr):Prop:=
 ∀(aC:List (aE×Obj)) (s:aB) (σ:St) (H:Hp) (o i v:V) (ov iv u:aA) (Q:Hp->Prop),Inv X aC σ H s->RelV o ov->RelV i iv->RelV v u->t o i v H Q->
  aG (aH X.prog X.w) X.A (setItem ov iv u) (λ_ s'=>∃H',Inv X aC σ H' s'/\Q H') X.xe s
abbrev TIp:=V->V->Hp->VK->Prop
def PIp(X:Cx)(op:Operator)(t:TIp):Prop:=
 ∀(aC:List (aE×Obj)) (s:aB) (σ:St) (H:Hp) (x y:V) (v u:aA) (Q:VK),Inv X aC σ H s->RelV x v->RelV y u->t x y H Q->
  aG (aH X.prog X.w) X.A (inplaceOp op v u) (EP X aC σ Q) X.xe s
section
variable{X:Cx}{pos:eA}
def uD(i:Nat):TG:=λv σ H Q=>Q (σ.set i (some v)) H
theorem nc{i:Nat}{x:Str}(hN:X.N.Nodup)(hi:X.N[i]?=some x)(hx:Loc X.env.scope x)(hf:X.fn x=true\/X.env.scope.names.lookup x=some .local:=by first|exact .inl rfl|exact .inr rfl|assumption):PG X (.Name x pos) (uD i):=by intro aC s σ H v u Q I r h;exact BA (Lj I hN hi hx r (λs' I'=>⟨_,H,I',h⟩) hf)
def JI:TGs:=λvs σ H Q=>vs=[]/\Q σ H
def zS(t:TG)(u:TGs):TGs:=λvs σ H Q=>∃v r,vs=v::r/\t v σ H λσ' H'=>u r σ' H' Q
theorem p5:PGs X [] JI:=by intro aC s σ H vs us Q I r h;obtain⟨e,h⟩:=h;subst e;cases r;exact assignInOrder_nil ⟨σ,H,I,h⟩
theorem ni{e:Expr}{es:List Expr}{t:TG}{u:TGs}(h1:PG X e t)(h2:PGs X es u)
  (hs:(dJ (e::es) X.env).map (·.2)=jF e X.env::(dJ es X.env).map (·.2):=by rfl):PGs X (e::es) (zS t u):=by
 intro aC s σ H vs us Q I r h;obtain⟨v,vr,e1,h⟩:=h;subst e1;cases r with
 | cons r rr=>
  rw[hs];refine assignInOrder_cons (thn (h1 aC s σ H _ _ _ I r h) λ_ s1 ⟨σ1,H1,I1,q1⟩=>?_);exact h2 aC s1 σ1 H1 _ _ Q I1 rr q1
def E5(K:aj)(n:Nat)(t:TGs):TG:=λv σ H Q=>∃a xs,v=.ref a/\SqT K H a xs/\xs.length=n/\t xs σ H Q
theorem sr{es:List Expr}{k:Nat}{t:TGs}{n:Nat}(hc:X.calm=true)(h:PGs X es t)
  (hn:(dJ es X.env).length=n:=by rfl) (hst:(dJ es X.env).findIdx? (·.1)=none:=by rfl):PG X (.Tuple es k pos) (E5 X.K n t):=by
 intro aC s σ H v u Q I r hw;obtain⟨a,xs,e1,hq,hl,hw⟩:=hw;subst e1;cases r;obtain⟨its,rv,ht,hz⟩:=I.tuple hq;refine assign_Tuple_tuple (I.ok.hd hc) ht (by simp[hn,<-hl,rv.length]) hst λh' hx=>?_;have I1:Inv X aC σ H {s with heap:=h'}:=I.kept (t':=s.toks) λb o e=>hx b o (dq (bq e)) e;exact h aC _ σ H xs _ Q I1 (by simpa using rv) hw
def a0m(to ti:TE)(t:Jr):TG:=λv σ H Q=>to σ H λo H1=>ti σ H1 λi H2=>t o i v H2 λH3=>Q σ H3
theorem FE{o i:Expr}{to ti:TE}{t:Jr}(ho:PE X o to)(hi:PE X i ti)(hs:azr X t)
  (ha:∀v,jF (.Subscript o i pos) X.env v=(do
   let ov <-mS [v] (bH o X.env)
   let iv <-mS [v,ov] (bH i X.env)
   standAt pos
   mS [v,ov,iv] (setItem ov iv v)
   release [v,ov,iv] []):=by intro _;rfl):PG X (.Subscript o i pos) (a0m to ti t):=by
 intro aC s σ H v u Q I r h;rw[ha];refine aa (gk (thn (ho aC s σ H _ I h) λov s1 ⟨x,H1,I1,r1,q1⟩=>?_));refine aa (gk (thn (hi aC s1 σ H1 _ I1 q1) λiv s2 ⟨y,H2,I2,r2,q2⟩=>?_));refine aa (iQ (aa (gk (thn (hs aC s2 σ H2 x y v ov iv u _ I2 r1 r2 r q2) λ_ s3 ⟨H3,I3,q3⟩=>?_))));exact wpAny_release ⟨σ,H3,I3,q3⟩
def JJ(te:TE)(g:TG):TS:=λD σ H=>te σ H λx H1=>g x σ H1 D.nx
theorem xo{tg e:Expr}{te:TE}{g:TG}(he:PE X e te)(hg:PG X tg g)(hs:swapsWithSole [tg] e pos.line X.env=aS false:=by rfl)(hw:swappedStores [tg] e X.env=aS none:=by rfl)
  (h1:(dJ [tg] X.env).map (·.2)=[jF tg X.env]:=by rfl):PS X (.Assign [tg] e pos) (JJ te g):=by
 intro aC s σ H D I h;refine wpAny_Assign_stores (thn (he aC s σ H _ I h) λv s1 ⟨x,H1,I1,r1,q1⟩=>?_) hs hw;rw[h1];exact thn (hg aC s1 σ H1 x v _ I1 r1 q1) λ_ s2 q=>q
theorem n8{i:Nat}{x:Str}{e:Expr}{te:TE}{jM:eA}(hN:X.N.Nodup)(hi:X.N[i]?=some x)(hx:Loc X.env.scope x)(he:PE X e te)(hs:kP e (some (.Name x jM)) pos.line X.env=aS false:=by rfl)(hf:X.fn x=true\/X.env.scope.names.lookup x=some .local:=by first|exact .inl rfl|exact .inr rfl|assumption) :
  PS X (.Assign [.Name x jM] e pos) (JJ te (uD i)):=by
 intro aC s σ H D I h;refine wpAny_Assign_Name (thn (he aC s σ H _ I h) λv s1 ⟨y,H1,I1,r1,q1⟩=>?_) hs;exact Lj I1 hN hi hx r1 (λs2 I2=>⟨_,H1,I2,q1⟩) hf
def a0z(i:Nat)(te:TE)(ti:TIp):TS:=λD σ H=>∃x,σ[i]?=some (some x)/\te σ H λy H1=>ti x y H1 λz H2=>D.nx (σ.set i (some z)) H2
theorem ap1{i:Nat}{x:Str}{e:Expr}{te:TE}{op:Operator}{ti:TIp}{jM:eA}(hN:X.N.Nodup)(hi:X.N[i]?=some x)(hx:Loc X.env.scope x)(he:PE X e te)(ho:PIp X op ti)(hf:X.fn x=true\/X.env.scope.names.lookup x=some .local:=by first|exact .inl rfl|exact .inr rfl|assumption) :
  PS X (.AugAssign (.Name x jM) op e pos) (a0z i te ti):=by
 intro aC s σ H D I h;obtain⟨v,e1,h⟩:=h;obtain⟨m,hn,hl⟩:=I.loc;have vis:Vis X.env.scope x:=by rcases hx with k|k;exact .inl k;exact .inr (.inl k)
 obtain⟨u,r,l⟩:=hl i x v hi e1 vis;refine wpAny_AugAssign_Name ?_;have go:aG (aH X.prog X.w) X.A (bH e X.env) (λw s₂=>aG (aH X.prog X.w) X.A (inplaceOp op u w) (λr s₃=>aG (aH X.prog X.w) X.A (Ef X.env x r) (λ_=>SP X aC D .next) X.xe s₃) X.xe s₂) X.xe s:=by refine thn (he aC s σ H _ I h) λw s1 ⟨y,H1,I1,r1,q1⟩=>?_;refine thn (ho aC s1 σ H1 v y u w _ I1 r r1 q1) λz s2 ⟨zv,H2,I2,r2,q2⟩=>?_;exact Lj I2 hN hi hx r2 (λs3 I3=>⟨_,H2,I3,q2⟩) hf
 rcases l with ⟨hk,hm⟩|⟨hk,c,hc,nZ⟩
 .exact vX I.ok.kind hk hn hm go
 .rcases hk with hk|hk
  .exact xU I.ok.kind hk hc nZ go
  .rcases hx with k|k
   .have:X.env.scope.names.lookup x=some .free:=hk;rw[k]at this;cases this
   .have:X.env.scope.names.lookup x=some .free:=hk;rw[k]at this;cases this
def ipI(f:Int->Int->Int):TIp:=λx y H Q=>∃i j,x=.int i/\y=.int j/\Q (.int (f i j)) H
theorem atq:PIp X .Sub (ipI λi j=>i-j):=by intro aC s σ H x y v u Q I r1 r2 h;obtain⟨i,j,e1,e2,q⟩:=h;subst e1;subst e2;obtain⟨t,rfl⟩:=r1;obtain⟨t',rfl⟩:=r2;exact isub_int ⟨.int _,H,I.tok _,⟨_,rfl⟩,q⟩
end
structure It where
 go:Nat->Hp->Prop
 yld:Nat->Hp->V->Hp->Prop
 stop:Nat->Hp->Prop
def mZ(X:Cx)(aC:List (aE×Obj))(H:Hp)(b:aE):Prop:=
 H b=none/\b≠X.env.locals/\b∉X.fs/\(b∈X.ex\/X.s₀.heap.objs.size<=b)/\(∀x c,X.env.cells.lookup x=some c->c≠b)/\∀p∈X.pn++aC,p.1≠b
theorem Inv.fpOk{X:Cx}{aC:List (aE×Obj)}{σ:St}{H H':Hp}{s:aB}{b:aE}(I:Inv X aC σ H s)(hb:s.heap.objs.size<=b)(hn:H' b=none):mZ X aC H' b:=by
 refine⟨hn,Nat.ne_of_gt (c5 I.lt hb),I.nofs hb,.inr (dv I.sz hb),λx c e z=>?_,λp hp z=>?_⟩
 .obtain⟨v,q⟩:=I.cell x c e;exact absurd (c5 q.lt (by rw[z];exact hb)) (j4 _)
 .exact absurd (c5 (bq (I.pin p hp).1) (by rw[z];exact hb)) (j4 _)
structure uA(P:aI)(w:aK)(K:aj)(tg:Expr)(J:It)(fp:List aE)(it:aE)(tn:Nat->Heap->Prop):Prop where
 mem:it∈fp
 obj:∀i h,tn i h->∀b∈fp,∃o,h.get? b=some o/\∀v,o.data≠.cell v
 keep:∀i h h',tn i h->(∀b∈fp,∀o,h.get? b=some o->h'.get? b=some o)->tn i h'
 item:∀(X:Cx),X.prog=P->X.w=w->X.K=K->X.calm=true->∀(i:Nat) (aC:List (aE×Obj)) (s:aB) (σ:St) (H:Hp) (E:aA->aB->Prop),Inv X aC σ H s->(∀b∈fp,mZ X aC H b)->tn i s.heap->J.go i H->
  aG (aH P w) X.A (bB (.ref it)) (λr s1=>∃u,r=some u/\
   aG (aH P w) X.A (fZ tg (.ref it) u) (λ_ s2=>∃x H',Inv X aC σ H' s2/\RelV x u/\J.yld i H x H'/\tn (i+1) s2.heap/\∀b∈fp,H' b=none) E s1) E s
 done:∀(X:Cx),X.prog=P->X.w=w->X.K=K->X.calm=true->∀(i:Nat) (aC:List (aE×Obj)) (s:aB) (σ:St) (H:Hp) (E:aA->aB->Prop),Inv X aC σ H s->(∀b∈fp,mZ X aC H b)->tn i s.heap->J.stop i H->
  aG (aH P w) X.A (bB (.ref it)) (λr s1=>r=none/\Inv X aC σ H s1) E s
 self:∀(A:Around)(i:Nat)(s:aB)(Q:aA->aB->Prop)(E:aA->aB->Prop),tn i s.heap->Q (.ref it) s->aG (aH P w) A (kQ (.ref it)) Q E s
abbrev TI:=St->Hp->(It->Hp->Prop)->Prop
def PIE(X:Cx)(aC:List (aE×Obj))(σ:St)(tg:Expr)(R:It->Hp->Prop)(Es:aA)(s2:aB):Prop:=
 ∃(it:aE)(fp:List aE)(tn:Nat->Heap->Prop)(J:It)(H':Hp),Es=.ref it/\Inv X aC σ H' s2/\uA X.prog X.w X.K tg J fp it tn/\tn 0 s2.heap/\(∀b∈fp,mZ X aC H' b)/\R J H'
def PI(X:Cx)(tg iter:Expr)(wi:TI):Prop:=
 ∀(aC:List (aE×Obj)) (s:aB) (σ:St) (H:Hp) (R:It->Hp->Prop),Inv X aC σ H s->wi σ H R->
  aG (aH X.prog X.w) X.A (bH iter X.env) (λv s1=>aG (aH X.prog X.w) X.A (kQ v) (PIE X aC σ tg R) X.xe s1) X.xe s
theorem Fm{M:Model}{A:Around}{E:aA->aB->Prop}{s:aB}{tg:Expr}{it:aE}{u:aA}{o:Obj}{n:String}{vs:Array aA}{Q:Unit->aB->Prop}(ho:s.heap.get? it=some o)(hc:o.cls=.type n)(hd:o.data=.fields vs)
  (hn:["enumerate","zip","dict_itemiterator","dict_reverseitemiterator","odict_iterator","itertools.zip_longest","itertools.pairwise"].contains n=false) (hQ:Q () s):aG M A (fZ tg (.ref it) u) Q E s:=by
 unfold fZ;cases tg<;>first
  | exact af hQ
  | (cases u<;>first
    | exact af hQ
    | (refine aa (wpAny_load ho ?_)
       rw[hc,hd];show aG M A (if (["enumerate","zip","dict_itemiterator","dict_reverseitemiterator","odict_iterator","itertools.zip_longest","itertools.pairwise"].contains n&&vs[0]?==some (bU _))=true then _ else _) Q E s;rw[if_neg (by intro h;rw[hn,Bool.false_and]at h;cases h)];exact af hQ))
noncomputable def Itl(K:aj)(a:aE):It:=
 ⟨λi H=>∃xs x,SqL K H a xs/\xs[i]?=some x,λi H x H'=>H'=H/\∀xs,SqL K H a xs->xs[i]?=some x,λi H=>∃xs,SqL K H a xs/\xs.length<=i⟩
noncomputable def Itt(K:aj)(a:aE):It:=
 ⟨λi H=>∃xs x,SqT K H a xs/\xs[i]?=some x,λi H x H'=>H'=H/\∀xs,SqT K H a xs->xs[i]?=some x,λi H=>∃xs,SqT K H a xs/\xs.length<=i⟩
noncomputable def Itr(lo:Int)(n:Nat):It:=⟨λi _=>i<n,λi H x H'=>H'=H/\x=.int (lo+i),λi _=>n<=i⟩
theorem aek{P:aI}{w:aK}{K:aj}{tg:Expr}(a it:aE):uA P w K tg (Itl K a) [it] it (λi h=>h.IsListIter it a i)where
 mem:=by simp
 obj:=λi h st b hb=>by
  have e:b=it:=by simpa using hb
  subst e;obtain⟨o,e,c,d⟩:=st;exact⟨o,e,λv z=>by rw[d]at z;cases z⟩
 keep:=λi h h' st k=>st.at λo e=>k it (by simp) o e
 item:=by intro X hP hw hK hc i aC s σ H E I hf st hg;subst hP hw hK;obtain⟨xs,x,hq,hx⟩:=hg;obtain⟨its,rv,p,hz⟩:=I.list hq;obtain⟨u,hu,ru⟩:=rv.get hx;obtain⟨f0,f1,f2,f3,f4,f5⟩:=hf it (by simp);refine wpAny_pyNext_list_item st p.isList (x:=u) (by simpa using hu) λh' aQ sb=>?_;have I1:Inv X aC σ H {s with heap:=h'}:=I.turned (t':=s.toks) (λb o hb e=>(sb.2 b hb).trans e) f0 f1 f3 f4 f5;obtain⟨o,e,c,d⟩:=id aQ;exact⟨u,rfl,Fm (s:={s with heap:=h'}) e c d (by decide) ⟨x,H,I1,ru,⟨rfl,λys hy=>by rw[I.list_inj hy hq];exact hx⟩,aQ,λb hb=>(hf b hb).1⟩⟩
 done:=by intro X hP hw hK hc i aC s σ H E I hf st hg;subst hP hw hK;obtain⟨xs,hq,hx⟩:=hg;obtain⟨its,rv,p,hz⟩:=I.list hq;obtain⟨f0,f1,f2,f3,f4,f5⟩:=hf it (by simp);have hl:=rv.length;exact wpAny_pyNext_list_end (I.ok.hd hc) st p.isList (by simp;lia) λh' eb=>⟨rfl,I.turned (t':=s.toks) (λb o hb e=>eb b o hb e) f0 f1 f3 f4 f5⟩
 self:=λ_ _ _ _ _ st h=>wpAny_pyIter_listiter st h
theorem acd{P:aI}{w:aK}{K:aj}{tg:Expr}(a it:aE):uA P w K tg (Itt K a) [it] it (λi h=>h.IsTupleIter it a i)where
 mem:=by simp
 obj:=λi h st b hb=>by
  have e:b=it:=by simpa using hb
  subst e;obtain⟨o,e,c,d⟩:=st;exact⟨o,e,λv z=>by rw[d]at z;cases z⟩
 keep:=λi h h' st k=>st.at λo e=>k it (by simp) o e
 item:=by intro X hP hw hK hc i aC s σ H E I hf st hg;subst hP hw hK;obtain⟨xs,x,hq,hx⟩:=hg;obtain⟨its,rv,p,hz⟩:=I.tuple hq;obtain⟨u,hu,ru⟩:=rv.get hx;obtain⟨f0,f1,f2,f3,f4,f5⟩:=hf it (by simp);refine wpAny_pyNext_tuple_item st (show s.heap.IsTuple a its.toArray from p) (x:=u) (by simpa using hu) λh' aQ sb=>?_;have I1:Inv X aC σ H {s with heap:=h'}:=I.turned (t':=s.toks) (λb o hb e=>(sb.2 b hb).trans e) f0 f1 f3 f4 f5;obtain⟨o,e,c,d⟩:=id aQ;exact⟨u,rfl,Fm (s:={s with heap:=h'}) e c d (by decide) ⟨x,H,I1,ru,⟨rfl,λys hy=>by rw[I.tuple_inj hy hq];exact hx⟩,aQ,λb hb=>(hf b hb).1⟩⟩
 done:=by intro X hP hw hK hc i aC s σ H E I hf st hg;subst hP hw hK;obtain⟨xs,hq,hx⟩:=hg;obtain⟨its,rv,p,hz⟩:=I.tuple hq;obtain⟨f0,f1,f2,f3,f4,f5⟩:=hf it (by simp);have hl:=rv.length;exact wpAny_pyNext_tuple_end (I.ok.hd hc) st (show s.heap.IsTuple a its.toArray from p) (by simp;lia) λh' eb=>⟨rfl,I.turned (t':=s.toks) (λb o hb e=>eb b o hb e) f0 f1 f3 f4 f5⟩
 self:=λ_ _ _ _ _ st h=>wpAny_pyIter_tupleiter st h
theorem aiv{P:aI}{w:aK}{K:aj}{tg:Expr}(it:aE)(lo:Int)(n:Nat):uA P w K tg (Itr lo n) [it] it (λi h=>IsRangeIter h it (lo+(i:Nat)*1) ((n:Int)-(i:Nat)) 1)where
 mem:=by simp
 obj:=λi h st b hb=>by
  have e:b=it:=by simpa using hb
  subst e;exact⟨_,st,λv z=>by have z':Data.fields _=Data.cell v:=z;cases z'⟩
 keep:=λi h h' st k=>k it (by simp) _ st
 item:=by intro X hP hw hK hc i aC s σ H E I hf st hg;subst hP hw hK;obtain⟨f0,f1,f2,f3,f4,f5⟩:=hf it (by simp);have W:=sY.range (prog:=X.prog) (w:=X.w) (I.ok.hd hc) it lo 1 n;refine W.item i s _ _ hg st λv h' tk hv aQ kk=>?_;obtain⟨t,rfl⟩:=hv;have I1:Inv X aC σ H {s with heap:=h',toks:=tk}:=I.turned (λb o hb e=>kk b o (by simpa using hb) e) f0 f1 f3 f4 f5;refine⟨_,rfl,Fm (s:={s with heap:=h',toks:=tk}) (n:="range_iterator") aQ rfl rfl (by decide) ⟨.int (lo+i),H,I1,⟨t,?_⟩,⟨rfl,rfl⟩,aQ,λb hb=>(hf b hb).1⟩⟩;rw[Int.mul_one]
 done:=by intro X hP hw hK hc i aC s σ H E I hf st hg;subst hP hw hK;obtain⟨f0,f1,f2,f3,f4,f5⟩:=hf it (by simp);exact wpAny_pyNext_range_end (I.ok.hd hc) st (by have:n<=i:=hg;lia) λh' eb=>⟨rfl,I.turned (t':=s.toks) (λb o hb e=>eb b o hb e) f0 f1 f3 f4 f5⟩
 self:=λ_ _ _ _ _ st h=>wpAny_pyIter_rangeiter st h
end L2
namespace L2
open PySem PySem.Spec PyProof.Rows
section
variable{X:Cx}{tg:Expr}
def Ko(K:aj)(tl:TE):TI:=λσ H R=>tl σ H λx H1=>∃a,x=.ref a/\(∃xs,SqL K H1 a xs)/\R (Itl K a) H1
def a0w(K:aj)(tl:TE):TI:=λσ H R=>tl σ H λx H1=>∃a,x=.ref a/\(∃xs,SqT K H1 a xs)/\R (Itt K a) H1
theorem oz{l:Expr}{tl:TE}(hl:PE X l tl):PI X tg l (Ko X.K tl):=by
 intro aC s σ H R I h;refine thn (hl aC s σ H _ I h) λv s1 ⟨x,H1,I1,r1,q1⟩=>?_;obtain⟨a,e,⟨xs,hq⟩,q⟩:=q1;subst e;cases r1;obtain⟨its,rv,p,hz⟩:=I1.list hq;refine dB p.isList ?_;refine⟨s1.heap.objs.size,[s1.heap.objs.size],_,_,H1,rfl,I1.kept (t':=s1.toks) λb o e=>am _ e,aek a _,⟨_,az _ rfl,rfl,rfl⟩,λb hb=>?_,q⟩;have e:b=s1.heap.objs.size:=by simpa using hb
 subst e;exact I1.fpOk (aq _) (I1.hok.fresh (aq _))
theorem Bl{l:Expr}{tl:TE}(hl:PE X l tl):PI X tg l (a0w X.K tl):=by
 intro aC s σ H R I h;refine thn (hl aC s σ H _ I h) λv s1 ⟨x,H1,I1,r1,q1⟩=>?_;obtain⟨a,e,⟨xs,hq⟩,q⟩:=q1;subst e;cases r1;obtain⟨its,rv,p,hz⟩:=I1.tuple hq;refine cY (show s1.heap.IsTuple a its.toArray from p) ?_;refine⟨s1.heap.objs.size,[s1.heap.objs.size],_,_,H1,rfl,I1.kept (t':=s1.toks) λb o e=>am _ e,acd a _,⟨_,az _ rfl,rfl,rfl⟩,λb hb=>?_,q⟩;have e:b=s1.heap.objs.size:=by simpa using hb
 subst e;exact I1.fpOk (aq _) (I1.hok.fresh (aq _))
theorem amz{aC:List (aE×Obj)}{σ:St}{H:Hp}{s:aB}{R:It->Hp->Prop}{E:aA->aB->Prop}{lo hi:Int}{t u v:Bq}{tk:Nat}(I:Inv X aC σ H s)(h1:-(2^62)<=lo)(h2:lo<2^62)(h3:-(2^62)<=hi)(h4:hi<2^62)
  (q:R (Itr lo (hi-lo).toNat) H):aG (aH X.prog X.w) X.A (kQ (.ref s.heap.objs.size)) (PIE X aC σ tg R) E {s with heap:=s.heap.push {cls:=.type "range",data:=.fields #[.int lo t,.int hi u,.int 1 v]},toks:=tk}:=by
 refine wpAny_pyIter_range (IsRange.new ..) (small_one h1 h2 h3 h4) ?_;have I1:Inv X aC σ H {s with heap:=s.heap.push {cls:=.type "range",data:=.fields #[.int lo t,.int hi u,.int 1 v]},toks:=tk}:=I.kept λb o e=>am _ e;refine⟨(s.heap.push {cls:=.type "range",data:=.fields #[.int lo t,.int hi u,.int 1 v]}).objs.size,[(s.heap.push {cls:=.type "range",data:=.fields #[.int lo t,.int hi u,.int 1 v]}).objs.size],_,_,H,rfl,
  I1.kept (t':=tk) λb o e=>am _ e,aiv _ lo (hi-lo).toNat,?_,λb hb=>?_,q⟩
 .have e1:lo+((0:Nat):Int)*1=lo:=by simp
  have e2:(((hi-lo).toNat:Nat):Int)-((0:Nat):Int)=Builtin.Range.rangeSize lo hi 1:=by rw[rangeSize_one];split<;>lia
  show IsRangeIter _ _ (lo+((0:Nat):Int)*1) ((((hi-lo).toNat:Nat):Int)-((0:Nat):Int)) 1;rw[e1,e2];exact az _ rfl
 .have e:b=(s.heap.push {cls:=.type "range",data:=.fields #[.int lo t,.int hi u,.int 1 v]}).objs.size:=by simpa using hb
  subst e;exact I1.fpOk (aq _) (I1.hok.fresh (aq _))
def atc(ta:TA):TI:=λσ H R=>ta σ H λvs H1=>∃j:Int,vs=[.int j]/\-(2^62)<=j/\j<2^62/\R (Itr 0 j.toNat) H1
theorem amk{a:Expr}{ta:TA}{p pos:eA}(hg:Gl X "range")(hm:X.mg "range" = none)(ha:PA X [a] ta)(hs:aR [a] X.env=[(false,bH a X.env)]:=by rfl):PI X tg (.Call (.Name "range" p) [a] [] pos) (atc ta):=by
 intro aC s σ H R I h;refine Call_ (v5 I hg hm boot_range (gv (thn (ha pos aC s σ H _ I h) λus s1 ⟨vs,H1,I1,r1,q1⟩=>?_) hs rfl));obtain⟨j,e,q1,q2,q⟩:=q1;subst e;cases r1 with
 | cons r rr=>
  cases rr;obtain⟨t,rfl⟩:=r;exact call_range_1 (amz I1 (by lia) (by lia) q1 q2 (by simpa using q))
def a0l(wi:TI)(g:TG)(tb:TS):TS:=λD σ H=>wi σ H λJ H1=>∃W:Nat->Nat->St->Hp->Prop,(∃m,W 0 m σ H1)/\∀i m σ H,W i m σ H->
 (J.stop i H/\D.nx σ H)\/(J.go i H/\∃N:St->Hp->Prop,(∀σ' H',N σ' H'->∃m',m'<m/\W (i+1) m' σ' H')/\∀x H',J.yld i H x H'->g x σ H' λσ2 H2=>tb {D with nx:=N,ct:=N,bk:=D.nx} σ2 H2)
noncomputable def DH(fp:List aE)(h:Heap):List (aE×Obj):=fp.filterMap λb=>(h.get? b).map λo=>(b,o)
theorem v9{fp:List aE}{h:Heap}{b:aE}{o:Obj}(hb:b∈fp)(e:h.get? b=some o):(b,o)∈DH fp h:=List.mem_filterMap.mpr ⟨b,hb,by rw[e];rfl⟩
theorem aks{fp:List aE}{h:Heap}{p:aE×Obj}(hp:p∈DH fp h):p.1∈fp/\h.get? p.1=some p.2:=by
 obtain⟨b,hb,e⟩:=List.mem_filterMap.mp hp;cases q:h.get? b with
 | none=>rw[q]at e;cases e
 | some o=>
  rw[q]at e;have e':(b,o)=p:=cr e;subst e';exact⟨hb,q⟩
theorem Inv.pinned{aC:List (aE×Obj)}{σ:St}{H:Hp}{s:aB}{fp:List aE}(I:Inv X aC σ H s)(hf:∀b∈fp,mZ X aC H b)(ho:∀b∈fp,∃o,s.heap.get? b=some o/\∀v,o.data≠.cell v):Inv X (aC++DH fp s.heap) σ H s:=
 I.pins_of λp hp=>(ay.mp hp).elim (λz=>I.pin p (cw _ z)) λz=>by obtain⟨hb,e⟩:=aks z;obtain⟨f0,f1,f2,_⟩:=hf p.1 hb;obtain⟨o,e',d⟩:=ho p.1 hb;rw[e]at e';cases e';exact⟨e,f0,f1,f2,d⟩
theorem Inv.unpinned{aC pl:List (aE×Obj)}{σ:St}{H:Hp}{s:aB}(I:Inv X (aC++pl) σ H s):Inv X aC σ H s:=I.pins_of λp hp=>I.pin p (cw _ (jq _ hp))
theorem qj{iter:Expr}{body:List aW}{wi:TI}{g:TG}{tb:TS}{pos:eA}(hp:PassesOwn (aH X.prog X.w) X.A X.env X.xe)(hc:X.calm=true)(hi:PI X tg iter wi)(hg:PG X tg g)(hb:PSs X body tb)
  (hs:∀x,jY iter X.env x=aS x:=by intro _;rfl):PS X (.For tg iter body [] pos) (a0l wi g tb):=by
 intro aC s σ H D I h;refine wpAny_For (thn (hi aC s σ H _ I h) λv s1 h1=>thn h1 λEs s2 h2=>?_) hs;obtain⟨it,fp,tn,J,H2,e,I2,T,eR,f2,W,⟨m0,w0⟩,turn⟩:=h2;subst e;have mH:∀{H':Hp},(∀b∈fp,H' b=none)->∀b∈fp,mZ X aC H' b:=λhn b hb=>⟨hn b hb,(f2 b hb).2⟩;refine codeAny_forLoop_any (λn s'=>∃i σ' H',Inv X aC σ' H' s'/\tn i s'.heap/\(∀b∈fp,H' b=none)/\W i n σ' H') ?_ m0 ⟨0,σ,H2,I2,eR,λb hb=>(f2 b hb).1,w0⟩;rintro n s3 ⟨i,σ3,H3,I3,fJ,fr3,w3⟩;rcases turn i n σ3 H3 w3 with ⟨stop,qn⟩|⟨go,N,hN,step⟩
 .refine dS hp (thn (T.done X rfl rfl rfl hc i aC s3 σ3 H3 X.xe I3 (mH fr3) fJ stop) λr s4 ⟨hr,I4⟩=>?_);subst hr;exact lQ ⟨σ3,H3,I4,qn⟩
 .refine dS hp (thn (T.item X rfl rfl rfl hc i aC s3 σ3 H3 X.xe I3 (mH fr3) fJ go) λr s4 ⟨u,hr,h4⟩=>?_);subst hr;refine dS hp (thn h4 λ_ s5 ⟨x,H5,I5,r5,y5,iD,EQ⟩=>?_);have I5':=I5.pinned (mH EQ) (T.obj _ _ iD);refine dS hp (thn (hg _ s5 σ3 H5 x u _ I5' r5 (step x H5 y5)) λ_ s6 ⟨σ6,H6,I6,q6⟩=>?_);refine dS hp (thn (hb _ s6 σ6 H6 _ I6 q6) λf s7 q7=>?_);have again:∀{σ7:St} {H7:Hp},Inv X (aC++DH fp s5.heap) σ7 H7 s7->N σ7 H7->∃m,m<n/\∃i σ' H',Inv X aC σ' H' s7/\tn i s7.heap/\(∀b∈fp,H' b=none)/\W i m σ' H':=λ{σ7 H7} I7 n7=>by
   obtain⟨m',hm,w7⟩:=hN σ7 H7 n7;refine⟨m',hm,i+1,σ7,H7,I7.unpinned,T.keep _ _ _ iD λb hb o e=>(I7.pin (b,o) (cw _ (cw _ (v9 hb e)))).1,λb hb=>?_,w7⟩;obtain⟨o,e,d⟩:=T.obj _ _ iD b hb;exact(I7.pin (b,o) (cw _ (cw _ (v9 hb e)))).2.1
  cases f with
  | next=>obtain⟨σ7,H7,I7,n7⟩:=q7;exact again I7 n7
  | cont=>obtain⟨σ7,H7,I7,n7⟩:=q7;exact again I7 n7
  | brk=>obtain⟨σ7,H7,I7,q7⟩:=q7;exact⟨σ7,H7,I7.unpinned,q7⟩
  | ret v=>obtain⟨x7,σ7,H7,I7,r7,q7⟩:=q7;exact⟨x7,σ7,H7,I7.unpinned,r7,q7⟩
end
theorem rj{K:aj}{a:aE}{xs:List V}{g:TG}{tb:TS}{D:qH}{σ:St}{H:Hp}(Pv:Nat->St->Hp->Prop)(h0:Pv 0 σ H)(hl:∀i σ H,i<=xs.length->Pv i σ H->SqL K H a xs)
  (hs:∀i x σ H,xs[i]?=some x->Pv i σ H->g x σ H λσ2 H2=>tb {D with nx:=Pv (i+1),ct:=Pv (i+1),bk:=D.nx} σ2 H2) (hd:∀σ H,Pv xs.length σ H->D.nx σ H) :
  ∃W:Nat->Nat->St->Hp->Prop,(∃m,W 0 m σ H)/\∀i m σ H,W i m σ H->
   ((Itl K a).stop i H/\D.nx σ H)\/((Itl K a).go i H/\∃N:St->Hp->Prop,(∀σ' H',N σ' H'->∃m',m'<m/\W (i+1) m' σ' H')/\∀x H',(Itl K a).yld i H x H'->g x σ H' λσ2 H2=>tb {D with nx:=N,ct:=N,bk:=D.nx} σ2 H2):=by
 refine⟨λi m σ H=>m=xs.length-i/\i<=xs.length/\Pv i σ H,⟨xs.length,by simp,f7 _,h0⟩,?_⟩;rintro i m σ H ⟨rfl,hi,p⟩;have q:=hl i σ H hi p;by_cases cN:i<xs.length
 .refine .inr ⟨⟨xs,xs[i],q,by simp[cN]⟩,Pv (i+1),λσ' H' p'=>⟨xs.length-(i+1),by lia,rfl,cN,p'⟩,λx H' y=>?_⟩;obtain⟨e,y⟩:=y;subst e;exact hs i x σ _ (y xs q) p
 .have e:i=xs.length:=by lia
  subst e;exact .inl ⟨⟨xs,q,aq _⟩,hd σ H p⟩
theorem KU{K:aj}{a:aE}{xs:List V}{g:TG}{tb:TS}{D:qH}{σ:St}{H:Hp}(Pv:Nat->St->Hp->Prop)(h0:Pv 0 σ H)(hl:∀i σ H,i<=xs.length->Pv i σ H->SqT K H a xs)
  (hs:∀i x σ H,xs[i]?=some x->Pv i σ H->g x σ H λσ2 H2=>tb {D with nx:=Pv (i+1),ct:=Pv (i+1),bk:=D.nx} σ2 H2) (hd:∀σ H,Pv xs.length σ H->D.nx σ H) :
  ∃W:Nat->Nat->St->Hp->Prop,(∃m,W 0 m σ H)/\∀i m σ H,W i m σ H->
   ((Itt K a).stop i H/\D.nx σ H)\/((Itt K a).go i H/\∃N:St->Hp->Prop,(∀σ' H',N σ' H'->∃m',m'<m/\W (i+1) m' σ' H')/\∀x H',(Itt K a).yld i H x H'->g x σ H' λσ2 H2=>tb {D with nx:=N,ct:=N,bk:=D.nx} σ2 H2):=by
 refine⟨λi m σ H=>m=xs.length-i/\i<=xs.length/\Pv i σ H,⟨xs.length,by simp,f7 _,h0⟩,?_⟩;rintro i m σ H ⟨rfl,hi,p⟩;have q:=hl i σ H hi p;by_cases cN:i<xs.length
 .refine .inr ⟨⟨xs,xs[i],q,by simp[cN]⟩,Pv (i+1),λσ' H' p'=>⟨xs.length-(i+1),by lia,rfl,cN,p'⟩,λx H' y=>?_⟩;obtain⟨e,y⟩:=y;subst e;exact hs i x σ _ (y xs q) p
 .have e:i=xs.length:=by lia
  subst e;exact .inl ⟨⟨xs,q,aq _⟩,hd σ H p⟩
theorem qy{lo:Int}{n:Nat}{g:TG}{tb:TS}{D:qH}{σ:St}{H:Hp}(Pv:Nat->St->Hp->Prop)(h0:Pv 0 σ H)
  (hs:∀i σ H,i<n->Pv i σ H->g (.int (lo+i)) σ H λσ2 H2=>tb {D with nx:=Pv (i+1),ct:=Pv (i+1),bk:=D.nx} σ2 H2) (hd:∀σ H,Pv n σ H->D.nx σ H) :
  ∃W:Nat->Nat->St->Hp->Prop,(∃m,W 0 m σ H)/\∀i m σ H,W i m σ H->
   ((Itr lo n).stop i H/\D.nx σ H)\/((Itr lo n).go i H/\∃N:St->Hp->Prop,(∀σ' H',N σ' H'->∃m',m'<m/\W (i+1) m' σ' H')/\∀x H',(Itr lo n).yld i H x H'->g x σ H' λσ2 H2=>tb {D with nx:=N,ct:=N,bk:=D.nx} σ2 H2):=by
 refine⟨λi m σ H=>m=n-i/\i<=n/\Pv i σ H,⟨n,by simp,f7 _,h0⟩,?_⟩;rintro i m σ H ⟨rfl,hi,p⟩;by_cases cN:i<n
 .refine .inr ⟨cN,Pv (i+1),λσ' H' p'=>⟨n-(i+1),by lia,rfl,cN,p'⟩,λx H' y=>?_⟩;obtain⟨e,y⟩:=y;subst e y;exact hs i σ _ cN p
 .have e:i=n:=by lia
  subst e;exact .inl ⟨aq _,hd σ H p⟩
end L2
namespace L2
open PySem PySem.Spec PyProof.Rows
abbrev R2:=V->V->Hp->VK->Prop
def OpR(X:Cx)(f:aA->aA->pR aA)(r:R2):Prop:=
 ∀(aC:List (aE×Obj)) (s:aB) (σ:St) (H:Hp) (x y:V) (v u:aA) (Q:VK),Inv X aC σ H s->RelV x v->RelV y u->r x y H Q->
  aG (aH X.prog X.w) X.A (f v u) (EP X aC σ Q) X.xe s
def UnR(X:Cx)(f:aA->pR aA)(r:V->Hp->VK->Prop):Prop:=
 ∀(aC:List (aE×Obj)) (s:aB) (σ:St) (H:Hp) (x:V) (v:aA) (Q:VK),Inv X aC σ H s->RelV x v->r x H Q->
  aG (aH X.prog X.w) X.A (f v) (EP X aC σ Q) X.xe s
def u7(X:Cx)(f:aA)(r:List V->Hp->VK->Prop):Prop:=
 ∀(aC:List (aE×Obj)) (s:aB) (σ:St) (H:Hp) (xs:List V) (us:List aA) (Q:VK),Inv X aC σ H s->Vals xs us->r xs H Q->
  aG (aH X.prog X.w) X.A (call f us) (EP X aC σ Q) X.xe s
def tOp(r:R2)(ta tb:TE):TE:=λσ H Q=>ta σ H λx H1=>tb σ H1 λy H2=>r x y H2 Q
def tUn(r:V->Hp->VK->Prop)(ta:TE):TE:=λσ H Q=>ta σ H λx H1=>r x H1 Q
def rI(C:Int->Int->Prop)(g:Int->Int->V):R2:=λx y H Q=>∃i j,x=.int i/\y=.int j/\C i j/\Q (g i j) H
def rI0(g:Int->Int->V):R2:=λx y H Q=>∃i j,x=.int i/\y=.int j/\Q (g i j) H
def rU(g:Int->V):V->Hp->VK->Prop:=λx H Q=>∃i,x=.int i/\Q (g i) H
section
variable{X:Cx}{a b c:Expr}{ta tb tc:TE}{pos:eA}
theorem JC(ha:PE X a ta)(hb:PE X b tb){aC:List (aE×Obj)}{s:aB}{σ:St}{H:Hp}{R:V->V->Hp->Prop}(I:Inv X aC σ H s)
  (h:ta σ H λx H1=>tb σ H1 λy H2=>R x y H2) {Q:aA->aB->Prop} {f:aA->aA->pR aA}
  (hf:∀v u s2 x y H2,Inv X aC σ H2 s2->RelV x v->RelV y u->R x y H2->aG (aH X.prog X.w) X.A (f v u) Q X.xe s2) :
  aG (aH X.prog X.w) X.A (bH a X.env) (λv s₁=>aG (aH X.prog X.w) X.A (bH b X.env) (λu s₂=>aG (aH X.prog X.w) X.A (f v u) Q X.xe s₂) X.xe s₁) X.xe s:=by
 refine thn (ha aC s σ H _ I h) λv s1 ⟨x,H1,I1,r1,q1⟩=>?_;refine thn (hb aC s1 σ H1 _ I1 q1) λu s2 ⟨y,H2,I2,r2,q2⟩=>?_;exact hf v u s2 x y H2 I2 r1 r2 q2
theorem ph{op:Operator}{r:R2}(ho:OpR X (cC op) r)(ha:PE X a ta)(hb:PE X b tb):PE X (.BinOp a op b pos) (tOp r ta tb):=by intro aC s σ H Q I h;exact wpAny_BinOp (JC ha hb I h λv u s2 x y H2 I2 rx ry q=>ho aC s2 σ H2 x y v u Q I2 rx ry q)
theorem E9{op:UnaryOp}{r:V->Hp->VK->Prop}(ho:UnR X (unaryOp op) r)(ha:PE X a ta):PE X (.UnaryOp op a pos) (tUn r ta):=by intro aC s σ H Q I h;exact UnaryOp_ (thn (ha aC s σ H _ I h) λv s1 ⟨x,H1,I1,r1,q1⟩=>ho aC s1 σ H1 x v Q I1 r1 q1)
theorem opI{f:aA->aA->pR aA}{C:Int->Int->Prop}{g:Int->Int->Int}
  (wJ:∀(i j:Int)(t u:Bq)(s:aB)(Q:aA->aB->Prop)(E:aA->aB->Prop),C i j->Q (.int (g i j) s.toks) {s with toks:=s.toks+1}->aG (aH X.prog X.w) X.A (f (.int i t) (.int j u)) Q E s) :
  OpR X f (rI C λi j=>.int (g i j)):=by
 intro aC s σ H x y v u Q I rx ry h;obtain⟨i,j,rfl,rfl,hc,q⟩:=h;obtain⟨t,rfl⟩:=rx;obtain⟨t',rfl⟩:=ry;exact wJ i j t t' s _ _ hc ⟨.int (g i j),H,I.tok _,⟨_,rfl⟩,q⟩
theorem azn{f:aA->aA->pR aA}{g:Int->Int->Int}
  (wJ:∀(i j:Int)(t u:Bq)(s:aB)(Q:aA->aB->Prop)(E:aA->aB->Prop),Q (.int (g i j) s.toks) {s with toks:=s.toks+1}->aG (aH X.prog X.w) X.A (f (.int i t) (.int j u)) Q E s) :
  OpR X f (rI0 λi j=>.int (g i j)):=by
 intro aC s σ H x y v u Q I rx ry h;obtain⟨i,j,rfl,rfl,q⟩:=h;obtain⟨t,rfl⟩:=rx;obtain⟨t',rfl⟩:=ry;exact wJ i j t t' s _ _ ⟨.int (g i j),H,I.tok _,⟨_,rfl⟩,q⟩
theorem E2{f:aA->aA->pR aA}{g:Int->Int->Bool}
  (wJ:∀(i j:Int)(t u:Bq)(s:aB)(Q:aA->aB->Prop)(E:aA->aB->Prop),Q (.bool (g i j)) s->aG (aH X.prog X.w) X.A (f (.int i t) (.int j u)) Q E s) :
  OpR X f (rI0 λi j=>.bl (g i j)):=by
 intro aC s σ H x y v u Q I rx ry h;obtain⟨i,j,rfl,rfl,q⟩:=h;obtain⟨t,rfl⟩:=rx;obtain⟨t',rfl⟩:=ry;exact wJ i j t t' s _ _ ⟨.bl (g i j),H,I,rfl,q⟩
def az3(i j:Int):Prop:=0<j/\j<1073741824
def az8(i j:Int):Prop:=0<=j/\j<=1000000/\i.natAbs<2^64
def CMul(i j:Int):Prop:=(-(2^64)<i/\i<2^64)\/(-(2^64)<j/\j<2^64)
theorem CMul.ok{i j:Int}(h:CMul i j):IntMulOk i j:=by
 rcases h with ⟨h1,h2⟩|⟨h1,h2⟩
 .exact .of_left (intBits_le_64 h1 h2)
 .exact .of_right (intBits_le_64 h1 h2)
theorem qv:OpR X (cC .Add) (rI0 λi j=>.int (i+j)):=azn λ_ _ _ _ _ _ _ q=>add_int q
theorem wb:OpR X (cC .Sub) (rI0 λi j=>.int (i-j)):=azn λ_ _ _ _ _ _ _ q=>sub_int q
theorem aox:OpR X (cC .Mult) (rI CMul λi j=>.int (i*j)):=opI λ_ _ _ _ _ _ _ hc q=>mul_int q hc.ok
theorem KT:OpR X (cC .FloorDiv) (rI az3 λi j=>.int (i/j)):=opI λi j _ _ _ _ _ hc q=>by have h1:(0:Int)<j:=hc.1;have h2:j<1073741824:=hc.2;exact floordiv_int (by lia) (by rw[Int.fdiv_eq_ediv_of_nonneg i (by lia)];exact q) (.inl (PyProof.noPylong_small (by lia)))
theorem zU:OpR X (cC .Mod) (rI (λ_ j=>0<j) λi j=>.int (i % j)):=opI λi j _ _ _ _ _ hc q=>by have h1:(0:Int)<j:=hc;exact mod_int' (by lia) (by rw[Int.fmod_eq_emod_of_nonneg i (by lia)];exact q)
theorem Kz:OpR X (cC .Pow) (rI az8 λi j=>.int (i^j.toNat)):=opI λ_ _ _ _ _ _ _ hc q=>pow_int_small hc.1 hc.2.1 hc.2.2 q
theorem unI{f:aA->pR aA}{g:Int->Int}
  (wJ:∀(i:Int)(t:Bq)(s:aB)(Q:aA->aB->Prop)(E:aA->aB->Prop),Q (.int (g i) s.toks) {s with toks:=s.toks+1}->aG (aH X.prog X.w) X.A (f (.int i t)) Q E s) :
  UnR X f (rU λi=>.int (g i)):=by
 intro aC s σ H x v Q I rx h;obtain⟨i,rfl,q⟩:=h;obtain⟨t,rfl⟩:=rx;exact wJ i t s _ _ ⟨.int (g i),H,I.tok _,⟨_,rfl⟩,q⟩
theorem Fx:UnR X (unaryOp .USub) (rU λi=>.int (-i)):=unI λ_ _ _ _ _ q=>neg_int q
end
noncomputable def azq:V->V->Bool
 | .non,.non=>true|.non,.int _=>true|.int _,.non=>true|.non,.bl _=>true|.bl _,.non=>true|.non,.str _=>true|.str _,.non=>true
 | .int _,.int _=>true|.bl _,.bl _=>true|.str _,.str _=>true|.byt _,.byt _=>true
 | .int _,.str _=>true|.str _,.int _=>true|.bl _,.str _=>true|.str _,.bl _=>true
 | _,_=>false
def rEq:R2:=λx y H Q=>azq x y=true/\Q (.bl (decide (x=y))) H
def rNe:R2:=λx y H Q=>azq x y=true/\Q (.bl (!decide (x=y))) H
theorem ak5{i j:Int}:decide (V.int i=V.int j)=(i==j):=by rw[gc];simp
theorem apa{i j:Bool}:decide (V.bl i=V.bl j)=(i==j):=by rw[gc];simp
theorem vf{i j:Str}:decide (V.str i=V.str j)=(i==j):=by rw[gc];simp
theorem amp{i j:Array UInt8}:decide (V.byt i=V.byt j)=(i.toList==j.toList):=by rw[gc];cases i;cases j;simp
section
variable{X:Cx}{a b c:Expr}{ta tb tc:TE}{pos:eA}
theorem pk{aC:List (aE×Obj)}{σ:St}{H:Hp}{s:aB}{Q:VK}{k k':Bool}(I:Inv X aC σ H s)(q:Q (.bl k) H)(e:k=k'):EP X aC σ Q (.bool k') s:=by subst e;exact⟨.bl k,H,I,rfl,q⟩
theorem sX:OpR X (aV .Eq) rEq:=by
 intro aC s σ H x y v u Q I rx ry h;obtain⟨hs,q⟩:=h;cases x with
 | non=>
  cases rx;cases y with
  | non=>cases ry;exact PySem.EqNone.eq_none_none (pk I q (by simp))
  | bl j=>cases ry;exact PySem.EqNone.eq_none_bool (pk I q (by simp))
  | int j=>obtain⟨t',rfl⟩:=ry;exact PySem.EqNone.eq_none_int (pk I q (by simp))
  | str j=>obtain⟨t',rfl⟩:=ry;exact PySem.EqNone.eq_none_str (pk I q (by simp))
  | _=>exact absurd (show false=true from hs) ai
 | bl i=>
  cases rx;cases y with
  | non=>cases ry;exact PySem.EqNone.eq_bool_none (pk I q (by simp))
  | bl j=>cases ry;exact eq_bool (pk I q apa)
  | str j=>obtain⟨t',rfl⟩:=ry;exact PySem.EqMixed.eq_bool_str (pk I q (by simp))
  | _=>exact absurd (show false=true from hs) ai
 | int i=>
  obtain⟨t,rfl⟩:=rx;cases y with
  | non=>cases ry;exact PySem.EqNone.eq_int_none (pk I q (by simp))
  | int j=>obtain⟨t',rfl⟩:=ry;exact eq_int (pk I q ak5)
  | str j=>obtain⟨t',rfl⟩:=ry;exact PySem.EqMixed.eq_int_str (pk I q (by simp))
  | _=>exact absurd (show false=true from hs) ai
 | str i=>
  obtain⟨t,rfl⟩:=rx;cases y with
  | non=>cases ry;exact PySem.EqNone.eq_str_none (pk I q (by simp))
  | bl j=>cases ry;exact PySem.EqMixed.eq_str_bool (pk I q (by simp))
  | int j=>obtain⟨t',rfl⟩:=ry;exact PySem.EqMixed.eq_str_int (pk I q (by simp))
  | str j=>obtain⟨t',rfl⟩:=ry;exact eq_str (pk I q vf)
  | _=>exact absurd (show false=true from hs) ai
 | byt i=>
  obtain⟨t,rfl⟩:=rx;cases y with
  | byt j=>obtain⟨t',rfl⟩:=ry;exact PySem.W.eq_bytes (pk I q amp)
  | _=>exact absurd (show false=true from hs) ai
 | _=>cases y<;>exact absurd (show false=true from hs) ai
theorem Bg:OpR X (aV .NotEq) rNe:=by
 intro aC s σ H x y v u Q I rx ry h;obtain⟨hs,q⟩:=h;cases x with
 | non=>
  cases rx;cases y with
  | non=>cases ry;exact PySem.EqNone.ne_none_none (pk I q (by simp))
  | bl j=>cases ry;exact PySem.EqNone.ne_none_bool (pk I q (by simp))
  | int j=>obtain⟨t',rfl⟩:=ry;exact PySem.EqNone.ne_none_int (pk I q (by simp))
  | str j=>obtain⟨t',rfl⟩:=ry;exact PySem.EqNone.ne_none_str (pk I q (by simp))
  | _=>exact absurd (show false=true from hs) ai
 | bl i=>
  cases rx;cases y with
  | non=>cases ry;exact PySem.EqNone.ne_bool_none (pk I q (by simp))
  | bl j=>cases ry;exact ne_bool (pk I q (congrArg not apa))
  | str j=>obtain⟨t',rfl⟩:=ry;exact PySem.EqMixed.ne_bool_str (pk I q (by simp))
  | _=>exact absurd (show false=true from hs) ai
 | int i=>
  obtain⟨t,rfl⟩:=rx;cases y with
  | non=>cases ry;exact PySem.EqNone.ne_int_none (pk I q (by simp))
  | int j=>obtain⟨t',rfl⟩:=ry;exact ne_int (pk I q (congrArg not ak5))
  | str j=>obtain⟨t',rfl⟩:=ry;exact PySem.EqMixed.ne_int_str (pk I q (by simp))
  | _=>exact absurd (show false=true from hs) ai
 | str i=>
  obtain⟨t,rfl⟩:=rx;cases y with
  | non=>cases ry;exact PySem.EqNone.ne_str_none (pk I q (by simp))
  | bl j=>cases ry;exact PySem.EqMixed.ne_str_bool (pk I q (by simp))
  | int j=>obtain⟨t',rfl⟩:=ry;exact PySem.EqMixed.ne_str_int (pk I q (by simp))
  | str j=>obtain⟨t',rfl⟩:=ry;exact ne_str (pk I q (congrArg not vf))
  | _=>exact absurd (show false=true from hs) ai
 | byt i=>
  obtain⟨t,rfl⟩:=rx;cases y with
  | byt j=>obtain⟨t',rfl⟩:=ry;exact PySem.W.ne_bytes (pk I q (congrArg not amp))
  | _=>exact absurd (show false=true from hs) ai
 | _=>cases y<;>exact absurd (show false=true from hs) ai
theorem J9:OpR X (aV .Lt) (rI0 λi j=>.bl (decide (i<j))):=E2 λ_ _ _ _ _ _ _ q=>lt_int q
theorem as3:OpR X (aV .LtE) (rI0 λi j=>.bl (decide (i<=j))):=E2 λ_ _ _ _ _ _ _ q=>le_int q
theorem Kj:OpR X (aV .Gt) (rI0 λi j=>.bl (decide (j<i))):=E2 λ_ _ _ _ _ _ _ q=>gt_int q
theorem au0:OpR X (aV .GtE) (rI0 λi j=>.bl (decide (j<=i))):=E2 λ_ _ _ _ _ _ _ q=>ge_int q
theorem DK:OpR X (aV .Is) (λx y H Q=>y=.non/\Q (.bl (decide (x=.non))) H):=by
 intro aC s σ H x y v u Q I rx ry h;obtain⟨rfl,q⟩:=h;cases ry;refine is_none_gen (pk I q ?_);cases x<;>first
  | (cases rx;rfl)
  | (obtain⟨t,rfl⟩:=rx;rfl)
theorem akk:OpR X (aV .IsNot) (λx y H Q=>y=.non/\Q (.bl (!decide (x=.non))) H):=by
 intro aC s σ H x y v u Q I rx ry h;obtain⟨rfl,q⟩:=h;cases ry;refine isnot_none_gen (pk I q ?_);cases x<;>first
  | (cases rx;rfl)
  | (obtain⟨t,rfl⟩:=rx;rfl)
theorem ae4:OpR X (aV .NotIn) (λx y H Q=>∃i j,x=.str i/\y=.str j/\Q (.bl (!(!(Builtin.Str.occurrences j i 0 j.length 1).isEmpty))) H):=by intro aC s σ H x y v u Q I rx ry h;obtain⟨i,j,rfl,rfl,q⟩:=h;obtain⟨t,rfl⟩:=rx;obtain⟨t',rfl⟩:=ry;exact notIn_str (pk I q rfl)
theorem pf(b:Expr){op:oO}(h:op≠.In:=by decide)(h2:op≠.NotIn:=by decide):fH op b=false:=by
 have e1:(op==oO.In)=false:=by cases op<;>first|rfl|exact absurd rfl h
 have e2:(op==oO.NotIn)=false:=by cases op<;>first|rfl|exact absurd rfl h2
 cases b<;>simp[fH,e1,e2]
theorem su{op:oO}{r:R2}(ho:OpR X (aV op) r)(ha:PE X a ta)(hb:PE X b tb)(hm:fH op b=false):PE X (.Compare a [op] [b] pos) (tOp r ta tb):=by intro aC s σ H Q I h;exact wpAny_Compare1 (JC ha hb I h λv u s2 x y H2 I2 rx ry q=>ho aC s2 σ H2 x y v u Q I2 rx ry q) hm
def aus(t:TE):TT:=λσ H Q=>t σ H λx H'=>∃k,x=.bl k/\Q k H'
theorem oy{op:oO}{r:R2}(ho:OpR X (aV op) r)(ha:PE X a ta)(hb:PE X b tb)(hm:fH op b=false):PT X (.Compare a [op] [b] pos) (aus (tOp r ta tb)):=by
 intro aC s σ H Q I h;refine uF (thn (ha aC s σ H _ I h) λv s1 ⟨x,H1,I1,r1,q1⟩=>thn (hb aC s1 σ H1 _ I1 q1) λu s2 ⟨y,H2,I2,r2,q2⟩=>
  thn (ho aC s2 σ H2 x y v u _ I2 r1 r2 q2) λc s3 ⟨z,H3,I3,r3,k,e,q3⟩=>?_) hm
 subst e;cases r3;exact gr ⟨H3,I3,q3⟩
def ao1(r r':R2)(ta tb tc:TE):TE:=λσ H Q=>ta σ H λx H1=>tb σ H1 λy H2=>r x y H2 λz H3=>∃k,z=.bl k/\
 (if k=true then tc σ H3 λw' H4=>r' y w' H4 Q else Q (.bl false) H3)
theorem ahp{op yE:oO}{r r':R2}(ho:OpR X (aV op) r)(lT:OpR X (aV yE) r')(ha:PE X a ta)(hb:PE X b tb)(hc:PE X c tc)
  (hm:lastMarks [op,yE] [b,c]=false:=by with_unfolding_all rfl):PE X (.Compare a [op,yE] [b,c] pos) (ao1 r r' ta tb tc):=by
 intro aC s σ H Q I h;refine Compare_chain (thn (ha aC s σ H _ I h) λv s1 ⟨x,H1,I1,r1,q1⟩=>chain_link (thn (hb aC s1 σ H1 _ I1 q1) λu s2 ⟨y,H2,I2,r2,q2⟩=>
  thn (ho aC s2 σ H2 x y v u _ I2 r1 r2 q2) λd s3 ⟨z,H3,I3,r3,k,e,q3⟩=>?_)) hm
 subst e;cases r3;refine gr ?_;cases k with
 | false=>exact ite_ff ⟨.bl false,H3,I3,rfl,q3⟩
 | true=>exact ite_tt (chain_last (thn (hc aC s3 σ H3 _ I3 q3) λw' s4 ⟨z',H4,I4,r4,q4⟩=>lT aC s4 σ H4 y z' u w' Q I4 r2 r4 q4))
theorem aht{op yE:oO}{r r':R2}(ho:OpR X (aV op) r)(lT:OpR X (aV yE) r')(ha:PE X a ta)(hb:PE X b tb)(hc:PE X c tc)
  (hm:lastMarks [op,yE] [b,c]=false:=by with_unfolding_all rfl):PT X (.Compare a [op,yE] [b,c] pos) (aus (ao1 r r' ta tb tc)):=by
 intro aC s σ H Q I h;refine isTrue_chain (thn (ha aC s σ H _ I h) λv s1 ⟨x,H1,I1,r1,q1⟩=>test_link (thn (hb aC s1 σ H1 _ I1 q1) λu s2 ⟨y,H2,I2,r2,q2⟩=>
  thn (ho aC s2 σ H2 x y v u _ I2 r1 r2 q2) λd s3 ⟨z,H3,I3,r3,k,e,q3⟩=>?_)) hm
 subst e;cases r3;refine gr ?_;cases k with
 | false=>
  obtain⟨k',e',q'⟩:=q3;cases e';exact ite_ff ⟨H3,I3,q'⟩
 | true=>
  refine ite_tt (test_last (thn (hc aC s3 σ H3 _ I3 q3) λw' s4 ⟨z',H4,I4,r4,q4⟩=>thn (lT aC s4 σ H4 y z' u w' _ I4 r2 r4 q4) λd' s5 ⟨z2,H5,I5,r5,k2,e2,q5⟩=>?_));subst e2;cases r5;exact gr ⟨H5,I5,q5⟩
theorem Bk:(aF:Nat)<2^63:=by rw[iw];decide
theorem ain:OpR X (cC .Add) (λx y H Q=>∃i j,x=.str i/\y=.str j/\i.length+j.length<=aF/\Q (.str (i++j)) H):=by intro aC s σ H x y v u Q I rx ry h;obtain⟨i,j,rfl,rfl,hz,q⟩:=h;obtain⟨t,rfl⟩:=rx;obtain⟨t',rfl⟩:=ry;exact add_str (λt' tk=>⟨.str (i++j),H,I.tok _,⟨_,rfl⟩,q⟩) hz
theorem uy{x:V}{us:List aA}(r:Vals [x] us):∃u,us=[u]/\RelV x u:=by
 cases r with
 | cons r1 r2=>cases r2;exact⟨_,rfl,r1⟩
theorem atn{x y:V}{us:List aA}(r:Vals [x,y] us):∃u w',us=[u,w']/\RelV x u/\RelV y w':=by
 cases r with
 | cons r1 r2=>
  cases r2 with
  | cons r3 r4=>cases r4;exact⟨_,_,rfl,r1,r3⟩
theorem ajp(hc:X.calm=true):u7 X (.builtin "min") (λxs H Q=>∃i j,xs=[.int i,.int j]/\Q (.int (if j<i then j else i)) H):=by
 intro aC s σ H xs us Q I r h;obtain⟨i,j,rfl,q⟩:=h;obtain⟨u,w',rfl,⟨t,rfl⟩,⟨t',rfl⟩⟩:=atn r;refine min_two_ints (I.ok.hd hc) λh' tk k=>⟨_,H,I.kept k,?_,q⟩;by_cases hj:j<i
 .rw[if_pos hj,if_pos hj];exact⟨_,rfl⟩
 .rw[if_neg hj,if_neg hj];exact⟨_,rfl⟩
theorem aer:u7 X (.type "int") (λxs H Q=>(∃i,xs=[.int i]/\Q (.int i) H)\/∃k,xs=[.bl k]/\Q (.int (if k then 1 else 0)) H):=by
 intro aC s σ H xs us Q I r h;rcases h with ⟨i,rfl,q⟩|⟨k,rfl,q⟩
 .obtain⟨u,rfl,t,rfl⟩:=uy r;exact call_int_int ⟨.int i,H,I,⟨_,rfl⟩,q⟩
 .obtain⟨u,rfl,r1⟩:=uy r;cases r1;exact call_int_bool ⟨.int (if k then 1 else 0),H,I.tok _,⟨_,rfl⟩,q⟩
end
end L2
namespace L2
open PySem PySem.Spec PyProof.Rows
structure ObjM(h:Heap)(x dx C:aE)(mA:Str->Option aA):Prop where
 obj:h.get? x=some (k5 C dx)
 ns:h.Ns1 dx mA
 ne:dx≠x
theorem alu{h:Heap}{dx:aE}{mA:Str->Option aA}(n:h.Ns1 dx mA):∃od,h.get? dx=some od/\∀name,PySem.W.lookIn name od=some (mA name):=by
 obtain⟨o,es,ep,ho,hd,hk,_,hm⟩:=n;refine⟨o,ho,λname=>?_⟩;have e:=hm name;unfold nsFind findBy at e;rw[<-Array.find?_toList]at e;unfold PySem.W.lookIn;rw[hd];dsimp only;split
 .rename_i y q
  rw[q]at e;exact congrArg some e
 .rename_i q
  rw[q]at e;have a:es.toList.any (·.refKey)=false:=by rw[List.any_eq_false];intro y hy;obtain⟨z,t,eX⟩:=hk y (Array.mem_toList_iff.mp hy);simp[bP.refKey,eX]
  have a':¬es.toList.any (·.refKey)=true:=by rw[a];exact ai
  rw[if_neg a'];exact congrArg some e
theorem ObjM.look{h:Heap}{x dx C:aE}{mA:Str->Option aA}(I:ObjM h x dx C mA):∃od,PySem.W.InstAt h x (k5 C dx) C (some od)/\∀name,PySem.W.lookIn name od=some (mA name):=
 let ⟨od,ho,hl⟩:=alu I.ns
 ⟨od,⟨I.obj,rfl,rfl,ho⟩,hl⟩
section
variable{prog:aI}{w:aK}{A:Around}{E:aA->aB->Prop}{s:aB}{K:aj}{x dx C f:aE}{mA:Str->Option aA}{name:Str}{v:aA}
theorem aqh{IS:Bool}{Q:aA->aB->Prop}(X:K.In s.heap)(I:ObjM s.heap x dx C mA)(hg:PySem.W.plainGet K C name=true)(hh:PySem.W.hasDictIn K C=true)
  (ha:g8 K (.ref C) name=some none) (hv:mA name=some v) (hv':PySem.W.handedIn v=true) (h:Q v {s with toks:=s.toks+1}) :
  aG (aH prog w) A (getAttr (.ref x) name IS) Q E s:=by
 obtain⟨od,J,hl⟩:=I.look;exact PySem.W.get_value X J (PySem.W.plainGet_of hg).1 (PySem.W.findObj_own hh ha rfl (by rw[hl,hv])) hv' h
theorem ari{ns:List Str}{Q:Unit->aB->Prop}(X:K.In s.heap)(I:ObjM s.heap x dx C mA)
  (hs:g8 K (.ref C) "__setattr__" = some (some (.builtin "object.__setattr__"))) (hp:PySem.W.plainOver K C=true) (ht:PySem.W.takerIn K C name=some none) (hh:PySem.W.hasDictIn K C=true)
  (hw:PySem.Within mA ns) (hsz:ns.length<=aF)
  (h:∀h',ObjM h' x dx C (λy=>if y=name then some v else mA y)->b9 dx s.heap h'->Q () {s with heap:=h',toks:=s.toks+2}) :
  aG (aH prog w) A (setAttr (.ref x) name v) Q E s:=by
 obtain⟨od,J,hl⟩:=I.look;refine PySem.W.set_plain X J hs (PySem.W.osa_open (s:={s with toks:=s.toks+1}) (r:=none) X J hp ht λb=>?_);obtain⟨cd,hc,pL⟩:=PySem.W.any_some hh;have hx:s.heap.get? x=some ⟨.ref C,some dx,.plain,#[]⟩:=I.obj;refine aa (af (aa (aa (wpAny_loadPart hx (aa (PySem.W.Looks.here (s:={s with toks:=s.toks+1}) (PySem.W.looks_clsIn X hc) ?_))))));rw[pL];refine af (a:=some dx) (aa (af (aa ?_)));refine wpAny_nsSet1 (s:={s with toks:=s.toks+1}) I.ns λh' lV uT=>?_;obtain⟨oD,esD,epD,hoD,hdD,hcD⟩:=lV.count (PySem.Within.cons name v hw);refine aa (wpAny_lookBehind hoD (by rw[hdD];exact pastItsLine_dict (dv hcD (by rw[b7];lia))) ?_);exact af (h _ ⟨(uT.2 _ (Ne.symm I.ne)).trans I.obj,lV,I.ne⟩ uT)
theorem aom{R:kU->aB->Prop}{vs:List aA}{kw:List (Str×aA)}(X:K.In s.heap)(hm:PySem.W.makesIn K C=true)
  (hi:g8 K (.ref C) "__init__" = some (some (.ref f))) (hf:PySem.W.typeIn K (.ref f)=some (.type "function"))
  (h:cH (aH prog w) (A.under (.builtin "type.__call__" ⟨.ref C::vs,kw⟩)) (.call (.ref f) ⟨.ref (s.heap.objs.size+1)::vs,kw⟩) (PySem.W.InitBack (s.heap.objs.size+1) R)
   {s with heap:=(s.heap.push jd).push (k5 C s.heap.objs.size)}) :
  cH (aH prog w) A (.call (.ref C) ⟨vs,kw⟩) R s:=by
 obtain⟨hh,g,d,t,os⟩:=s;exact PySem.W.make_core (PySem.W.makes_of X hm) (PySem.W.looks_findIn X hi) (λself=>PySem.W.bind_fn X self hf) (.inl rfl) h
end
noncomputable def mE(f:Str)(v:V):List (Str×V)->List (Str×V)
 | []=>[(f,v)]
 | (g,x)::r=>if g=f then(g,v)::r else(g,x)::mE f v r
theorem aal(f g:Str)(v:V):∀fs:List (Str×V),(mE f v fs).lookup g=if g=f then some v else fs.lookup g
 | []=>by
  show List.lookup g [(f,v)]=_;by_cases h:g=f
  .have hb:(g==f)=true:=beq_iff_eq.mpr h;simp only[List.lookup,hb,if_pos h]
  .have hb:(g==f)=false:=beq_eq_false_iff_ne.mpr h;simp only[List.lookup,hb,if_neg h]
 | (k,x)::r=>by
  have ih:=aal f g v r;rw[show mE f v ((k,x)::r)=(if k=f then(k,v)::r else(k,x)::mE f v r)from rfl];by_cases hk:k=f
  .rw[if_pos hk];by_cases h:g=k
   .have hb:(g==k)=true:=beq_iff_eq.mpr h;simp only[List.lookup,hb,if_pos (h.trans hk)]
   .have hb:(g==k)=false:=beq_eq_false_iff_ne.mpr h;simp only[List.lookup,hb,if_neg (λe:g=f=>h (e.trans hk.symm))]
  .rw[if_neg hk];by_cases h:g=k
   .have hb:(g==k)=true:=beq_iff_eq.mpr h;simp only[List.lookup,hb,if_neg (λe:g=f=>hk (h.symm.trans e))]
   .have hb:(g==k)=false:=beq_eq_false_iff_ne.mpr h;simp only[List.lookup,hb];exact ih
theorem LC(f:Str)(v:V):∀fs:List (Str×V),f∈(mE f v fs).map (·.1)/\∀g,g∈fs.map (·.1)->g∈(mE f v fs).map (·.1)
 | []=>⟨by simp[mE],λg h=>by simp at h⟩
 | (k,x)::r=>by
  obtain⟨i1,i2⟩:=LC f v r;rw[show mE f v ((k,x)::r)=(if k=f then(k,v)::r else(k,x)::mE f v r)from rfl];by_cases hk:k=f
  .rw[if_pos hk];subst hk;exact⟨by simp,λg h=>by simpa using h⟩
  .rw[if_neg hk];refine⟨?_,λg h=>?_⟩
   .rw[cy];exact a8 _ i1
   .rw[cy]at h⊢;rcases bb.mp h with e|e
    .exact bb.mpr (.inl e)
    .exact a8 _ (i2 g e)
theorem aa4(f:Str)(v:V):∀fs:List (Str×V),(mE f v fs).length<=fs.length+1
 | []=>by simp[mE]
 | (k,x)::r=>by
  have ih:=aa4 f v r;rw[show mE f v ((k,x)::r)=(if k=f then(k,v)::r else(k,x)::mE f v r)from rfl];by_cases hk:k=f
  .rw[if_pos hk,b7,b7];lia
  .rw[if_neg hk,b7,b7];lia
theorem RelO.some_of{v:V}{o:Option aA}(r:RelO (some v) o):∃u,o=some u/\RelV v u:=by
 cases o with
 | none=>exact(show False from r).elim
 | some u=>exact⟨u,rfl,r⟩
theorem amh{v:V}{u:aA}(r:RelV v u):PySem.W.handedIn u=true:=by
 cases v with
 | non=>cases (show u=aA.none from r);rfl
 | bl b=>cases (show u=aA.bool b from r);rfl
 | int i=>obtain⟨t,e⟩:=(show ∃t,u=aA.int i t from r);cases e;rfl
 | str x=>obtain⟨t,e⟩:=(show ∃t,u=aA.str x t from r);cases e;rfl
 | byt b=>obtain⟨t,e⟩:=(show ∃t,u=aA.bytes b t from r);cases e;rfl
 | flt b=>obtain⟨t,e⟩:=(show ∃t,u=aA.float b t from r);cases e;rfl
 | ref a=>cases (show u=aA.ref a from r);rfl
 | ty n=>cases (show u=aA.type n from r);rfl
section
variable{P:aI}{w:aK}{H H':Hp}{h h':Heap}{a C dx:aE}{fs fs':List (Str×V)}
theorem Le(hok:HOk P w H h)(e:H a=some (.ins C dx fs)):∃mA,ObjM h a dx C mA/\(∀f,RelO (fs.lookup f) (mA f))/\PySem.Within mA (fs.map (·.1))/\fs.length<=1000/\H dx=some (.own a):=by obtain⟨d,z,ne,ob,mA,n,r,q⟩:=(show ObjOk P w H h a (.ins C dx fs)from hok a _ e);exact⟨mA,⟨ob,n,ne⟩,r,q,z,d⟩
end
structure Cls(K:aj)(C:aE):Prop where
 pg:PySem.W.plainGet K C Str.empty=true
 hd:PySem.W.hasDictIn K C=true
 po:PySem.W.plainOver K C=true
 sa:g8 K (.ref C) "__setattr__" = some (some (.builtin "object.__setattr__"))
theorem Cls.get{K:aj}{C:aE}(c:Cls K C)(f:Str):PySem.W.plainGet K C f=true:=c.pg
def NoAttr(K:aj)(C:aE)(f:Str):Prop:=g8 K (.ref C) f=some none
theorem NoAttr.taker{K:aj}{C:aE}{f:Str}(n:NoAttr K C f):PySem.W.takerIn K C f=some none:=by unfold PySem.W.takerIn;rw[show g8 K (.ref C) f=some none from n];rfl
section
variable{X:Cx}{aC:List (aE×Obj)}{σ:St}{H:Hp}{s:aB}{a C dx:aE}{fs:List (Str×V)}{f:Str}{v:V}{A:Around}{E:aA->aB->Prop}
theorem ai7{b:Bool}{Q:aA->aB->Prop}(I:Inv X aC σ H s)(e:H a=some (.ins C dx fs))(c:Cls X.K C)(n:NoAttr X.K C f)(l:fs.lookup f=some v)
  (h:∀u s',Inv X aC σ H s'->RelV v u->Q u s'):aG (aH X.prog X.w) A (getAttr (.ref a) f b) Q E s:=by
 obtain⟨mA,O,r,_,_,_⟩:=Le I.hok e;obtain⟨u,hu,ru⟩:=RelO.some_of (v:=v) (o:=mA f) (by rw[<-l];exact r f);exact aqh I.kIn O (c.get f) c.hd n hu (amh ru) (h u _ (I.tok _) ru)
theorem ai4{y:V}{u:aA}{Q:Unit->aB->Prop}(I:Inv X aC σ H s)(e:H a=some (.ins C dx fs))(c:Cls X.K C)(n:NoAttr X.K C f)(hl:fs.length<1000)(ry:RelV y u)
  (h:∀s',Inv X aC σ (upd H a (.ins C dx (mE f y fs))) s'->Q () s'):aG (aH X.prog X.w) A (setAttr (.ref a) f u) Q E s:=by
 obtain⟨mA,O,r,wi,_,ho⟩:=Le I.hok e;have hz:(fs.map (·.1)).length<=aF:=by rw[ah,iw];lia
 refine ari I.kIn O c.sa c.po n.taker c.hd wi hz λh' O' sb=>h _ ?_;have hd:∃o,h'.get? dx=some o:=let ⟨o,_,_,e',_⟩:=O'.ns;⟨o,e'⟩
 refine I.write (x:=a) (e:=dx) (by rw[e];exact True.intro) (.inr ho) (λb q hb z=>(sb.2 b hb).trans z) hd ?_;refine⟨by rw[ow O.ne];exact ho,?_,O.ne,O'.obj,_,O'.ns,λg=>?_,λg hg=>?_⟩
 .have:=aa4 f y fs;lia
 .show RelO ((mE f y fs).lookup g) (if g=f then some u else mA g);rw[aal];by_cases q:g=f
  .rw[if_pos q,if_pos q];exact ry
  .rw[if_neg q,if_neg q];exact r g
 .by_cases q:g=f
  .rw[q];exact(LC f y fs).1
  .refine(LC f y fs).2 g (wi g λz=>hg ?_);show(if g=f then some u else mA g)=none;rw[if_neg q];exact z
theorem Inv.made(I:Inv X aC σ H s):Inv X aC σ (upd (upd H s.heap.objs.size (.own (s.heap.objs.size+1))) (s.heap.objs.size+1) (.ins C s.heap.objs.size []))
  {s with heap:=(s.heap.push jd).push (k5 C s.heap.objs.size)}:=by
 have e1:(s.heap.push jd).get? s.heap.objs.size=some jd:=az s.heap rfl;have e2:((s.heap.push jd).push (k5 C s.heap.objs.size)).get? (s.heap.objs.size+1)=some (k5 C s.heap.objs.size):=by
  have:=az (s.heap.push jd) (o:=k5 C s.heap.objs.size) rfl
  rwa [mf]at this
 have e3:(s.heap.push jd).Ns s.heap.objs.size (λ_=>none):=⟨jd,#[],_,e1,rfl,(λe he=>absurd he (by simp)),λ_=>rfl⟩;have I1:=I.laid (a:=s.heap.objs.size) (o:=.own (s.heap.objs.size+1)) (h':=s.heap.push jd) (t':=s.toks) (λb u q=>am _ q) (aq _) ⟨_,e1⟩;refine I1.laid (a:=s.heap.objs.size+1) (o:=.ins C s.heap.objs.size []) (t':=s.toks) (λb u q=>am _ q) (Nat.le_of_eq (mf _ _)) ?_;have ne:s.heap.objs.size≠s.heap.objs.size+1:=dq (Nat.lt_succ_self _);refine⟨by rw[ow ne,np],f7 _,ne,e2,λ_=>none,(Heap.Ns1.of_empty e3).at λo q=>am _ q,λ_=>True.intro,λy hy=>absurd rfl hy⟩
theorem ar1{prog:aI}{w:aK}{env:oN}{e:Expr}{f:Str}{pos:eA}{s:aB}{Q:aA->aB->Prop}(hb:cS e f env (bH e env)=bH e env)
  (h:aG (aH prog w) A (bH e env) (λo s₁=>aG (aH prog w) A (getAttr o f true) Q E s₁) E s):aG (aH prog w) A (bH (.Attribute e f pos) env) Q E s:=
 Attribute_any_ h (by rw[arm_eval_Attribute,hb])
end
def azj(K:aj)(ta:TE)(f:Str):TE:=λσ H Q=>ta σ H λx H1=>∃a C dx fs v,x=.ref a/\H1 a=some (.ins C dx fs)/\Cls K C/\NoAttr K C f/\fs.lookup f=some v/\Q v H1
def az0(K:aj)(ta tv:TE)(f:Str):TS:=λD σ H=>tv σ H λy H1=>ta σ H1 λx H2=>∃a C dx fs,x=.ref a/\H2 a=some (.ins C dx fs)/\Cls K C/\NoAttr K C f/\fs.length<1000/\
 D.nx σ (upd H2 a (.ins C dx (mE f y fs)))
section
variable{X:Cx}{o e value:Expr}{f:Str}{pos jM oP:eA}{ta tv:TE}
theorem zj(he:PE X e ta)(hb:cS e f X.env (bH e X.env)=bH e X.env):PE X (.Attribute e f pos) (azj X.K ta f):=by intro aC s σ H Q I h;refine ar1 hb (thn (he aC s σ H _ I h) λu s1 ⟨x,H1,I1,rx,a,C,dx,fs,v,ex,ea,c,n,l,q⟩=>?_);subst ex;obtain rfl:u=aA.ref a:=rx;exact ai7 I1 ea c n l λu' s2 I2 ru=>⟨v,H1,I2,ru,q⟩
theorem FF(ha:PE X o ta)(hv:PE X value tv)(hs:kP value (some (.Attribute o f jM)) pos.line X.env=aS false):PS X (.Assign [.Attribute o f jM] value pos) (az0 X.K ta tv f):=by intro aC s σ H D I h;refine plainObj_wpAny_Assign_Attribute (thn (hv aC s σ H _ I h) λu s1 ⟨y,H1,I1,ry,q⟩=>thn (ha aC s1 σ H1 _ I1 q) λov s2 ⟨x,H2,I2,rx,a,C,dx,fs,ex,ea,c,n,l,q2⟩=>?_) hs;subst ex;obtain rfl:ov=aA.ref a:=rx;exact ai4 I2 ea c n l ry λs3 I3=>⟨σ,_,I3,q2⟩
end
section
variable{X:Cx}{aC:List (aE×Obj)}{σ:St}{H:Hp}{s:aB}{A:Around}{E:aA->aB->Prop}{Q:aA->aB->Prop}{c:aA}{b:Bool}
inductive pQ(K:aj)(H:Hp):V->aA->Prop where
 | non:pQ K H .non (.type "NoneType")
 | bl (x:Bool):pQ K H (.bl x) (.type "bool")
 | int (i:Int):pQ K H (.int i) (.type "int")
 | str (x:Str):pQ K H (.str x) (.type "str")
 | flt (x:UInt64):pQ K H (.flt x) (.type "float")
 | lst {a:aE} {xs:List V} (e:H a=some (.lst xs)):pQ K H (.ref a) (.type "list")
 | frz {a:aE} {o:Obj} {xs:List V} (e:H a=some (.frz o (.lst xs))):pQ K H (.ref a) (.type "list")
 | tup {a:aE} {xs:List V} (e:H a=some (.tup xs)):pQ K H (.ref a) (.type "tuple")
 | dK {a:aE} {aU:List (Key×V)} (e:H a=some (.dK aU)):pQ K H (.ref a) (.type "dict")
 | dT {a:aE} {aU:List (List Key×V)} (e:H a=some (.dT aU)):pQ K H (.ref a) (.type "dict")
 | ins {a C dx:aE} {fs:List (Str×V)} (e:H a=some (.ins C dx fs)) (cl:Cls K C) (ha:g8 K (.ref C) "__class__" = some (some (.builtin "object.__class__")))
   (hn:PySem.W.specialIn K (.builtin "object.__class__") "__get__" = some (some (.builtin "getset_descriptor.__get__"))) (pZ:PySem.W.takesIn K (.builtin "object.__class__")=some true)
   (hm:PySem.W.mroIn K C (.type "object")=some true):pQ K H (.ref a) (.ref C)
theorem akm{x:V}{u t:aA}(I:Inv X aC σ H s)(rx:RelV x u)(ty:pQ X.K H x t)(e:PySem.W.kitOne X.K t c=some b)(h:∀tk,Q (.bool b) {s with toks:=tk}) :
  aG (aH X.prog X.w) A (call (.builtin "isinstance") [u,c]) Q E s:=by
 cases ty with
 | non=>cases (show u=aA.none from rx);exact ja PySem.W.kitx_none I.kIn True.intro e (λz=>nomatch z) h
 | bl y=>cases (show u=aA.bool y from rx);exact ja PySem.W.kitx_bool I.kIn True.intro e (λz=>nomatch z) h
 | int i=>obtain⟨t,q⟩:=(show ∃t,u=aA.int i t from rx);cases q;exact ja PySem.W.kitx_int I.kIn True.intro e (λz=>nomatch z) h
 | str y=>obtain⟨t,q⟩:=(show ∃t,u=aA.str y t from rx);cases q;exact ja PySem.W.kitx_str I.kIn True.intro e (λz=>nomatch z) h
 | flt y=>obtain⟨t,q⟩:=(show ∃t,u=aA.float y t from rx);cases q;exact ja PySem.W.kitx_float I.kIn True.intro e (λz=>nomatch z) h
 | @lst a xs ea=>
  cases (show u=aA.ref a from rx);obtain⟨_,_,n,_,h1⟩:=(show ObjOk X.prog X.w H s.heap a (.lst xs)from I.hok a _ ea);exact ja PySem.W.kitx_list I.kIn ⟨_,h1,rfl⟩ e (λz=>nomatch z) h
 | @frz a ob xs ea=>
  cases (show u=aA.ref a from rx);obtain⟨_,_,_,n,_,h1⟩:=(show ObjOk X.prog X.w H s.heap a (.frz ob (.lst xs))from I.hok a _ ea);exact ja PySem.W.kitx_list I.kIn ⟨_,h1,rfl⟩ e (λz=>nomatch z) h
 | @tup a xs ea=>
  cases (show u=aA.ref a from rx);obtain⟨_,_,_,p⟩:=(show ObjOk X.prog X.w H s.heap a (.tup xs)from I.hok a _ ea);obtain⟨o,h1,h2,_⟩:=p;exact ja PySem.W.kitx_tuple I.kIn ⟨o,h1,h2⟩ e (λz=>nomatch z) h
 | @dK a aU ea=>
  cases (show u=aA.ref a from rx);obtain⟨_,_,vs,_,p⟩:=(show ObjOk X.prog X.w H s.heap a (.dK aU)from I.hok a _ ea);obtain⟨o,es,ep,h1,h2,_⟩:=p;exact ja PySem.W.kitx_dict I.kIn ⟨o,h1,h2.1⟩ e (λz=>nomatch z) h
 | @dT a aU ea=>
  cases (show u=aA.ref a from rx);obtain⟨_,_,xs,_,o,es,ep,h1,h2,_⟩:=(show ObjOk X.prog X.w H s.heap a (.dT aU)from I.hok a _ ea);exact ja PySem.W.kitx_dict I.kIn ⟨o,h1,h2.1⟩ e (λz=>nomatch z) h
 | @ins a C dx fs ea cl ha hn pZ hm=>
  cases (show u=aA.ref a from rx);obtain⟨mA,O,_⟩:=Le I.hok ea;obtain⟨od,J,_⟩:=O.look;exact ja (PySem.W.kitx_own (cl.get _) cl.hd ha hn pZ hm) I.kIn J e (λz=>nomatch z) h
end
end L2
namespace L2
open PySem PySem.Spec PyProof.Rows
structure Room(k:Nat)(A:Around):Prop where
 hd:A.handled=none
 dp:A.depth+3*k+5<recursionLimit
 un:A.units+16*k+200<aX
theorem Room.mono{j k:Nat}{A:Around}(r:Room k A)(h:j<=k):Room j A:=⟨r.hd,by have:=r.dp;lia,by have:=r.un;lia⟩
theorem Room.deeper{k:Nat}{A:Around}(r:Room (k+1) A)(env:oN):Room k (A.deeper env):=
 ⟨r.hd,by have:=r.dp;show A.depth+1+3*k+5<_;lia,by have:=r.un;show A.units+3+16*k+200<_;lia⟩
theorem ajf{A:Around}{C:aE}{us:List aA}{kw:List (Str×aA)}:(A.under (.builtin "type.__call__" ⟨.ref C::us,kw⟩)).depth=A.depth+1:=by first|rfl|simp[Around.under,Code.weight,Code.isCreation,Code.isGuard,Code.isCaller,Code.frames,Code.isFrame,guardIds]
theorem ajc{A:Around}{C:aE}{us:List aA}{kw:List (Str×aA)}:(A.under (.builtin "type.__call__" ⟨.ref C::us,kw⟩)).units=A.units+1:=by first|rfl|simp[Around.under,Code.cUnits,Code.frames,Code.isFrame]
theorem Room.make{k:Nat}{A:Around}(r:Room (k+1) A)(C:aE)(us:List aA)(kw:List (Str×aA)):Room k (A.under (.builtin "type.__call__" ⟨.ref C::us,kw⟩)):=
 ⟨r.hd,by have:=r.dp;rw[ajf];lia,by have:=r.un;rw[ajc];lia⟩
theorem Room.depth{k:Nat}{A:Around}(r:Room k A):A.depth<recursionLimit:=by have:=r.dp;lia
theorem Room.units{k:Nat}{A:Around}(r:Room k A):A.units+64<aX:=by have:=r.un;lia
def A9:TA:=λ_ H Q=>Q [] H
def wl(ta:TE)(tr:TA):TA:=λσ H Q=>ta σ H λx H1=>tr σ H1 λxs H2=>Q (x::xs) H2
section
variable{X:Cx}{e:Expr}{es:List Expr}{te:TE}{t:TA}{pos:eA}
theorem mr:PA X [] A9:=λ_ _ _ _ H Q I h=>Calls.spliced_nil ⟨[],H,I,.nil,h⟩
theorem aq7(ha:PE X e te)(hr:PA X es t)(hs:aR (e::es) X.env=(false,bH e X.env)::aR es X.env:=by rfl):PA X (e::es) (wl te t):=by intro pos aC s σ H Q I h;rw[hs];show aG _ _ (BE ((false,bH e X.env)::cO pos (aR es X.env))) _ _ s;refine Calls.spliced_cons (thn (ha aC s σ H _ I h) λu s1 ⟨x,H1,I1,r1,q1⟩=>?_);exact thn (hr pos aC s1 σ H1 _ I1 q1) λus s2 ⟨xs,H2,I2,r2,q2⟩=>⟨x::xs,H2,I2,.cons r1 r2,q2⟩
def Do(t:TA):TE:=λσ H Q=>t σ H λxs H1=>xs.length<=aF/\∀p,H1 p=none->Q (.ref p) (upd H1 p (.tup xs))
def azx(t:TA):TE:=λσ H Q=>t σ H λxs H1=>xs.length<=aF/\∀p,H1 p=none->Q (.ref p) (upd H1 p (.lst xs))
theorem oh{x1}(h:PA X es t):PE X (.Tuple es x1 pos) (Do t):=by intro aC s σ H Q I hq;refine wpAny_Tuple_spliced (thn (h pos aC s σ H _ I hq) λus s1 ⟨xs,H1,I1,r,z,q⟩=>⟨by rw[<-r.length];exact z,?_⟩);have hf:H1 s1.heap.objs.size=none:=I1.hok.fresh (aq _);refine⟨.ref s1.heap.objs.size,upd H1 s1.heap.objs.size (.tup xs),I1.laid (t':=s1.toks) (λb u e=>am _ e) (aq _) ?_,rfl,q _ hf⟩;exact⟨z,us,r,⟨_,az _ rfl,rfl,_,rfl⟩⟩
theorem qa(h:PA X es t):PE X (.List es pos) (azx t):=by intro aC s σ H Q I hq;refine wpAny_List_spliced (thn (h pos aC s σ H _ I hq) λus s1 ⟨xs,H1,I1,r,z,q⟩=>⟨by rw[<-r.length];exact z,?_⟩);have hf:H1 s1.heap.objs.size=none:=I1.hok.fresh (aq _);refine⟨.ref s1.heap.objs.size,upd H1 s1.heap.objs.size (.lst xs),I1.laid (t':=s1.toks) (λb u e=>am _ e) (aq _) ?_,rfl,q _ hf⟩;exact⟨z,us,0,r,az _ rfl⟩
end
abbrev Sp:=List V->Hp->VK->XK->Prop
abbrev CXT:=List oN->Hp->aB->XK->aA->aB->Prop
structure Env0(P:aI)(w:aK)(K:aj)(mg:Str->Option aA)(base:Heap)(A:Around)(outer:List oN)(s:aB)(H:Hp):Prop where
 frames:A.frames=some outer
 mod:Mod K mg base
 bs:∀b o,base.get? b=some o->s.heap.get? b=some o/\H b=none
 bsz:base.objs.size<=s.heap.objs.size
 funs:s.heap.FunFrames base outer
 frf:∀b∈frs outer,H b=none
 hok:HOk P w H s.heap
 bare:fV s.gens
def CE(outer:List oN)(P:aI)(w:aK)(H:Hp)(s:aB)(Q:VK)(u:aA)(s':aB):Prop:=
 ∃v H',s'.os=s.os/\fV s'.gens/\Un (frs outer) [] H H' s.heap s'.heap/\HOk P w H' s'.heap/\RelV v u/\Q v H'
def CR(CX:CXT)(outer:List oN)(P:aI)(w:aK)(H:Hp)(s:aB)(Q:VK)(E:XK)(r:kU)(s':aB):Prop:=
 match r with
 | .ok (.ret u)=>CE outer P w H s Q u s'
 | .ok _=>False
 | .error e=>CX outer H s E e s'
structure qt(P:aI)(w:aK)(K:aj)(mg:Str->Option aA)(base:Heap)(CX:CXT)(k:Nat)(f:aE)(fd:aP)(ps:List Str)(sp:Sp):Prop where
 len:∀vs H Q E,sp vs H Q E->vs.length=ps.length
 run:∀(A:Around)(outer:List oN)(s:aB)(H:Hp)(args:Args)(us:List aA)(vs:List V)(Q:VK)(E:XK),Room k A->Env0 P w K mg base A outer s H->nJ s fd args (ps.zip us)->Vals vs us->sp vs H Q E->
  cH (aH P w) A (.call (.ref f) args) (CR CX outer P w H s Q E) s
theorem Env0.make{P:aI}{w:aK}{K:aj}{mg:Str->Option aA}{base:Heap}{A:Around}{outer:List oN}{s:aB}{H:Hp}(e:Env0 P w K mg base A outer s H)(C:aE)(us:List aA)(kw:List (Str×aA)) :
  Env0 P w K mg base (A.under (.builtin "type.__call__" ⟨.ref C::us,kw⟩)) outer s H:=⟨by first|exact e.frames|(simpa [Around.under,Code.envs,Code.isFrame,pushEnvs]using e.frames),e.mod,e.bs,e.bsz,e.funs,e.frf,e.hok,e.bare⟩
section
variable{X:Cx}{aC:List (aE×Obj)}{σ:St}{H:Hp}{s s':aB}
theorem Inv.env0(I:Inv X aC σ H s):Env0 X.prog X.w X.K X.mg X.base X.A X.stack s H:=
 ⟨I.ok.frames,I.ok.mod,I.bs,dv I.ok.bsz I.sz,I.stack,I.stkFree,I.hok,I.bare⟩
theorem Inv.after{Q:VK}{u:aA}(I:Inv X aC σ H s)(h:CE X.stack X.prog X.w H s Q u s'):EP X aC σ Q u s':=by obtain⟨v,H',os,bare,un,hok,r,q⟩:=h;obtain⟨hh,g,d,t,yD⟩:=s';obtain rfl:yD=s.os:=os;exact⟨v,H',I.call (h':=hh) (g':=g) (d':=d) (t':=t) (ch:=[]) un hok bare (λb z=>absurd z (by simp)),r,q⟩
end
def at2(sp:Sp)(mY:List V)(E:XK)(t:TA):TE:=λσ H Q=>t σ H λvs H1=>sp (vs++mY) H1 Q E
def avo(C:aE)(sp:Sp)(mY:List V)(E:XK)(t:TA):TE:=λσ H Q=>t σ H λvs H1=>∀x dx,H1 x=none->H1 dx=none->dx≠x->
 sp (.ref x::(vs++mY)) (upd (upd H1 dx (.own x)) x (.ins C dx [])) (λv H2=>v=.non/\Q (.ref x) H2) E
def Binds(K:aj)(fd:aP)(ps:List Str)(ds:List aA):Prop:=
 ∀(s:aB)(us:List aA),K.In s.heap->(us++ds).length=ps.length->nJ s fd ⟨us,[]⟩ (ps.zip (us++ds))
theorem Binds.all{K:aj}{fd:aP}{ps:List Str}(h:∀us:List aA,us.length=ps.length->bindArgs fd ⟨us,[]⟩=aS (ps.zip us)):Binds K fd ps []:=λs us _ hl=>by rw[dg]at hl⊢;exact .of_eq (h us hl)
def Dy(CX:CXT)(X:Cx)(E:XK):Prop:=∀(aC:List (aE×Obj)) (σ:St) (H:Hp) (s:aB) (e:aA) (s':aB),Inv X aC σ H s->CX X.stack H s E e s'->X.xe e s'
section
variable{X:Cx}{CX:CXT}{k:Nat}{f C:aE}{fd:aP}{ps:List Str}{sp:Sp}{mY:List V}{ds:List aA}{E:XK}{x m:Str}{p pos fR:eA}{e o:Expr}{es:List Expr}{ta:TE}{t:TA}
theorem awj{aC:List (aE×Obj)}{σ:St}{H:Hp}{s:aB}{Q:VK}{us:List aA}{vs:List V}(F:qt X.prog X.w X.K X.mg X.base CX k f fd ps sp)(hr:Room k X.A)(hb:Binds X.K fd ps ds)(hd:Vals mY ds)(hx:Dy CX X E)
  (I:Inv X aC σ H s) (r:Vals vs us) (h:sp (vs++mY) H Q E):aG (aH X.prog X.w) X.A (call (.ref f) us) (EP X aC σ Q) X.xe s:=by
 have r2:Vals (vs++mY) (us++ds):=r.append hd;have hl:(us++ds).length=ps.length:=by rw[<-r2.length];exact F.len _ _ _ _ h
 refine nK (eF (F.run X.A X.stack s H ⟨us,[]⟩ (us++ds) (vs++mY) Q E hr I.env0 (hb s us I.kIn hl) r2 h) λr s' hq=>?_);cases r with
 | error e=>exact hx aC σ H s e s' I hq
 | ok fl=>
  cases fl with
  | ret u=>exact I.after hq
  | next=>exact k6 hq
  | brk=>exact k6 hq
  | cont=>exact k6 hq
theorem aqo(F:qt X.prog X.w X.K X.mg X.base CX k f fd ps sp)(hr:Room k X.A)(hg:Gl X x)(hm:X.mg x=some (.ref f))(hk:mh X.K (.ref f)=true)(hb:Binds X.K fd ps ds)(hd:Vals mY ds)(hx:Dy CX X E)
  (ha:PA X (e::es) t) (mW:(x==("__debug__" : Str))=false:=by decide) (he:aR (e::es) X.env=(false,bH e X.env)::aR es X.env:=by rfl) (hpl:(cO pos (aR es X.env)).any (·.1)=false:=by rfl) :
  PE X (.Call (.Name x p) (e::es) [] pos) (at2 sp mY E t):=by
 intro aC s σ H Q I h;refine jk (KP I hg hm ?_ mW);refine PySem.W.callWith_K (h₀:=X.base) I.ok.mod.kin hk (thn (ha pos aC s σ H _ I h) λus s1 ⟨vs,H1,I1,r,q⟩=>⟨I1.kIn,?_⟩) he hpl;exact awj F hr hb hd hx I1 r q
structure Mk(K:aj)(C f:aE):Prop where
 makes:PySem.W.makesIn K C=true
 init:g8 K (.ref C) "__init__" = some (some (.ref f))
 fn:PySem.W.isFn K (.ref f)=true
 kp:mh K (.ref C)=true
theorem am4{aC:List (aE×Obj)}{σ:St}{H:Hp}{s:aB}{Q:VK}{us:List aA}{vs:List V}(M:Mk X.K C f)(F:qt X.prog X.w X.K X.mg X.base CX k f fd ps sp)(hr:Room (k+1) X.A)(hb:Binds X.K fd ps ds)(hd:Vals mY ds)
  (hx:Dy CX X E) (I:Inv X aC σ H s) (r:Vals vs us)
  (h:∀x dx,H x=none->H dx=none->dx≠x->sp (.ref x::(vs++mY)) (upd (upd H dx (.own x)) x (.ins C dx [])) (λv H2=>v=.non/\Q (.ref x) H2) E) :
  aG (aH X.prog X.w) X.A (call (.ref C) us) (EP X aC σ Q) X.xe s:=by
 have hq:=h (s.heap.objs.size+1) s.heap.objs.size (I.hok.fresh (ll _)) (I.hok.fresh (aq _)) (dq (Nat.lt_succ_self _));have I2:=Inv.made (C:=C) I;have r2:Vals (V.ref (s.heap.objs.size+1)::(vs++mY)) (aA.ref (s.heap.objs.size+1)::(us++ds)):=.cons rfl (r.append hd);have hl:(aA.ref (s.heap.objs.size+1)::us++ds).length=ps.length:=by have e:=r2.length;rw[F.len _ _ _ _ hq]at e;exact e.symm
 refine nK (aom (f:=f) I.kIn M.makes M.init (beq_iff_eq.mp M.fn) (eF (F.run _ X.stack _ _ ⟨aA.ref (s.heap.objs.size+1)::us,[]⟩ (aA.ref (s.heap.objs.size+1)::(us++ds)) _ _ E (hr.make C us [])
  (I2.env0.make C us []) (hb _ (aA.ref (s.heap.objs.size+1)::us) I2.kIn hl) r2 hq) λr s' iI=>?_))
 cases r with
 | error e=>exact hx aC σ _ _ e s' I2 iI
 | ok fl=>
  cases fl with
  | ret u=>
   obtain⟨v,H',I3,rv,ev,q3⟩:=I2.after iI;subst ev;exact⟨rv,⟨V.ref (s.heap.objs.size+1),H',I3,rfl,q3⟩⟩
  | next=>exact k6 iI
  | brk=>exact k6 iI
  | cont=>exact k6 iI
theorem aq4(M:Mk X.K C f)(F:qt X.prog X.w X.K X.mg X.base CX k f fd ps sp)(hr:Room (k+1) X.A)(hg:Gl X x)(hm:X.mg x=some (.ref C))(hb:Binds X.K fd ps ds)(hd:Vals mY ds)(hx:Dy CX X E)
  (ha:PA X (e::es) t) (mW:(x==("__debug__" : Str))=false:=by decide) (he:aR (e::es) X.env=(false,bH e X.env)::aR es X.env:=by rfl) (hpl:(cO pos (aR es X.env)).any (·.1)=false:=by rfl) :
  PE X (.Call (.Name x p) (e::es) [] pos) (avo C sp mY E t):=by
 intro aC s σ H Q I h;refine jk (KP I hg hm ?_ mW);refine PySem.W.callWith_K (h₀:=X.base) I.ok.mod.kin M.kp (thn (ha pos aC s σ H _ I h) λus s1 ⟨vs,H1,I1,r,q⟩=>⟨I1.kIn,?_⟩) he hpl;exact am4 M F hr hb hd hx I1 r q
end
def PK(X:Cx)(BZ:List nH)(t:TA):Prop:=
 ∀(pos:eA) (aC:List (aE×Obj)) (s:aB) (σ:St) (H:Hp) (Q:List V->Hp->Prop),Inv X aC σ H s->t σ H Q->aG (aH X.prog X.w) X.A (evalAll ((xM pos (lG BZ X.env)).map (·.2))) (AP X aC σ Q) X.xe s
section
variable{X:Cx}{CX:CXT}{k:Nat}{f C:aE}{fd:aP}{ps ks:List Str}{sp:Sp}{E:XK}{x m:Str}{p pos fR qW:eA}{e o:Expr}{es:List Expr}{BZ:List nH}{te ta:TE}{t tk:TA}{nm:Option Str}
theorem apk:PK X [] A9:=λ_ _ _ _ H Q I h=>wpAny_evalAll_nil ⟨[],H,I,.nil,h⟩
theorem ale(ha:PE X e te)(hr:PK X BZ t):PK X (⟨nm,e,qW⟩::BZ) (wl te t):=by intro pos aC s σ H Q I h;show aG _ _ (evalAll ((do let v <-bH e X.env;standAt pos;aS v)::(xM pos (lG BZ X.env)).map (·.2))) _ _ s;refine wpAny_evalAll_cons (aa (thn (ha aC s σ H _ I h) λu s1 ⟨x,H1,I1,r1,q1⟩=>aa (iQ (af ?_))));exact thn (hr pos aC s1 σ H1 _ I1 q1) λus s2 ⟨xs,H2,I2,r2,q2⟩=>⟨x::xs,H2,I2,.cons r1 r2,q2⟩
variable{g:List aA->List aA->List aA}{gV:List V->List V->List V}
end
structure nu(N P:List Str)(sc:cK):Prop where
 kind:sc.kind=.function:=by rfl
 co:sc.isCoroutine=false:=by rfl
 gen:sc.isGenerator=false:=by rfl
 nd:N.Nodup:=by decide +kernel
 pre:N.take P.length=P:=by rfl
 par:∀x∈P,sc.names.lookup x=some .local\/sc.names.lookup x=some .cell:=by decide +kernel
 nofree:∀y∈sc.names,y.2≠.free:=by decide +kernel
theorem aeq{kindOf:Str->Option aT}{x:Str}:∀{binds:List (Str×aA)} {m:Str->Option aA},(∀v,(x,v)∉binds)->sO kindOf binds m x=m x
 | [],_,_=>rfl
 | (n,v)::r,m,h=>by
  unfold sO;rw[aeq λw hw=>h w (a8 _ hw)];split
  .have:x≠n:=by rintro rfl;exact h v aw
   simp[this]
  .rfl
theorem afc{kindOf:Str->Option aT}{x:Str}:∀{binds:List (Str×aA)} {m:Str->Option aA},(∀v,(x,v)∉binds)->sP kindOf binds m x=m x
 | [],_,_=>rfl
 | (n,v)::r,m,h=>by
  unfold sP;rw[afc λw hw=>h w (a8 _ hw)];split
  .rfl
  .have:x≠n:=by rintro rfl;exact h v aw
   simp[this]
theorem ad9{kindOf:Str->Option aT}{x:Str}{v:aA}:∀{P:List Str} {vs:List aA} {i:Nat} {m:Str->Option aA},P.Nodup->P[i]?=some x->vs[i]?=some v->kindOf x=some .local->
  sO kindOf (P.zip vs) m x=some v
 | [],_,_,_,_,h,_,_=>by simp at h
 | _::_,[],_,_,_,_,h,_=>by simp at h
 | p::P,w::vs,0,m,nd,h1,h2,hk=>by simp at h1 h2;subst h1;subst h2;show sO kindOf ((p,w)::P.zip vs) m p=_;unfold sO;rw[aeq λv hv=>(jh.mp nd).1 (List.of_mem_zip hv).1,if_pos hk];simp
 | p::P,w::vs,i+1,m,nd,h1,h2,hk=>by show sO kindOf ((p,w)::P.zip vs) m x=_;unfold sO;exact ad9 (i:=i) (jh.mp nd).2 (by simpa using h1) (by simpa using h2) hk
theorem ae7{kindOf:Str->Option aT}{x:Str}{v:aA}:∀{P:List Str} {vs:List aA} {i:Nat} {m:Str->Option aA},P.Nodup->P[i]?=some x->vs[i]?=some v->kindOf x≠some .local->
  sP kindOf (P.zip vs) m x=some v
 | [],_,_,_,_,h,_,_=>by simp at h
 | _::_,[],_,_,_,_,h,_=>by simp at h
 | p::P,w::vs,0,m,nd,h1,h2,hk=>by simp at h1 h2;subst h1;subst h2;show sP kindOf ((p,w)::P.zip vs) m p=_;unfold sP;rw[afc λv hv=>(jh.mp nd).1 (List.of_mem_zip hv).1,if_neg hk];simp
 | p::P,w::vs,i+1,m,nd,h1,h2,hk=>by show sP kindOf ((p,w)::P.zip vs) m x=_;unfold sP;exact ae7 (i:=i) (jh.mp nd).2 (by simpa using h1) (by simpa using h2) hk
noncomputable def xQ(N:List Str)(vs:List V):St:=vs.map some++kq (N.length-vs.length) none
noncomputable def A8(CX:CXT)(P:aI)(w:aK)(K:aj)(mg:Str->Option aA)(base:Heap)(N:List Str)(qual:Str)(scope:cK)(f:aE)(cd:aA)(A:Around)(outer:List oN)(s:aB)(H:Hp)(E:XK):Cx where
 prog:=P
 w:=w
 K:=K
 mg:=mg
 base:=base
 A:=A.deeper (jC qual scope s.heap.objs.size f cd)
 N:=N
 s₀:=s
 H₀:=H
 env:=jC qual scope s.heap.objs.size f cd
 outer:=outer
 stack:=jC qual scope s.heap.objs.size f cd::outer
 ex:=[]
 calm:=true
 fn:=λ_=>true
 pn:=[]
 xe:=λe s'=>aG (aH P w) (A.deeper (jC qual scope s.heap.objs.size f cd)) (leaving (jC qual scope s.heap.objs.size f cd) e) (λ_ BK=>CX outer H s E e BK) (λe' BK=>CX outer H s E e' BK) s'
theorem ag8{sc:cK}{n:Nat}{x:Str}(h:sc.names.lookup x=some .cell):∃c,(EX n sc.names []).lookup x=some c:=by have q:=PySem.W.cellsFrom_some sc.names n [] (.inl h);exact Option.isSome_iff_exists.mp q
theorem akw{CX:CXT}{P:aI}{w:aK}{K:aj}{mg:Str->Option aA}{base:Heap}{N ps:List Str}{qual:Str}{scope:cK}{f:aE}{cd:aA}{A:Around}{outer:List oN}{s s1:aB}{H:Hp}{E:XK}{us:List aA}{vs:List V}
  (S:nu N ps scope) (hd:A.handled=none) (e0:Env0 P w K mg base A outer s H) (hl:vs.length=ps.length) (r:Vals vs us)
  (x:InCallC s s.heap.objs.size (sO (jC qual scope s.heap.objs.size f cd).kindOf (ps.zip us) λ_=>none) (EX (s.heap.objs.size+1) scope.names []) (sP (jC qual scope s.heap.objs.size f cd).kindOf (ps.zip us) λ_=>none) s1) :
  Inv (A8 CX P w K mg base N qual scope f cd A outer s H E) [] (xQ N vs) H s1:=by
 have hpl:ps.length<=N.length:=by have:=congrArg List.length S.pre;rw[b8]at this;lia
 obtain⟨h1,tk,rfl,hk⟩:=x.done;have BS:∀b:aE,b∉(A8 CX P w K mg base N qual scope f cd A outer s H E).ex:=λb z=>absurd (show b∈([]:List aE)from z) (by simp);refine⟨⟨e0.mod,S.kind,rfl,rfl,aq _,λy z c h1 h2=>?_,λy hy=>?_,λy c _ h=>?_,λ_=>hd,Around.frames_deeper e0.frames,.inr ⟨rfl,rfl⟩,λb z=>absurd z (BS b),e0.bs,e0.bsz,λb _ _=>BS b,λb z=>absurd z (BS b),e0.funs,e0.frf⟩,
  rfl,e0.bare,Un.kept hk,⟨_,x.toInCall.ns,λi y v h1 h2 h3=>?_⟩,λy c h=>⟨_,x.cell y c h⟩,e0.hok.fresh (aq _),λy c h=>?_,λp hp=>absurd (show p∈([]:List (aE×Obj))from hp) (by simp),e0.hok.kept hk,?_⟩
 .exact name_of_addr x.apart (je h1) (je h2)
 .have hy:scope.names.lookup y=some .cell\/scope.names.lookup y=some .free:=hy;rcases hy with hy|hy
  .exact ag8 hy
  .exact absurd rfl (S.nofree _ (je hy))
 .exact gj (x.above y c (je h))
 .have hi:i<vs.length:=by
   unfold xQ at h2;by_cases hi:i<vs.length
   .exact hi
   .rw[cf (by simpa using hi)]at h2;rw[List.getElem?_replicate]at h2;split at h2<;>cases h2
  have ha:vs[i]?=some v:=by
   unfold xQ at h2;rw[cu (by simpa using hi),au]at h2;cases e:vs[i]? with
   | none=>rw[e]at h2;cases h2
   | some a=>rw[e]at h2;cases h2;rfl
  obtain⟨u,hu,rv⟩:=r.get ha;have hp:ps[i]?=some y:=by rw[<-S.pre,fw (by lia)];exact h1
  have ndP:ps.Nodup:=by rw[<-S.pre];exact S.nd.sublist (k7 _ _)
  refine⟨u,rv,?_⟩;rcases S.par y (ak hp)with k|k
  .exact .inl ⟨k,ad9 ndP hp hu k⟩
  .obtain⟨c,e⟩:=ag8 (n:=s.heap.objs.size+1) k;refine .inr ⟨.inl k,c,e,?_⟩;have q:=x.cell y c e;rw[ae7 ndP hp hu (by show scope.names.lookup y≠_;rw[k];decide)]at q;exact q
 .exact e0.hok.fresh (gj (x.above y c (je h)))
 .unfold xQ;show _=N.length;rw[bu,ah,List.length_replicate];lia
theorem aww{CX:CXT}{P:aI}{w:aK}{K:aj}{mg:Str->Option aA}{base:Heap}{k:Nat}{f:aE}{name qual:Str}{params:Arguments}{body:List aW}{scope:cK}{dV kV jD pm bN ct oc:aA}{an od:Option aE}
  {uO:Array (Option aA)} {N ps:List Str} {sp:Sp} (lk:K.lookup f=some ⟨oc,od,.func (lh name qual params body scope dV kV jD pm an bN ct),uO⟩) (oA:PySem.W.codeIn K bN qual=true) (S:nu N ps scope)
  (len:∀vs H Q E,sp vs H Q E->vs.length=ps.length)
  (sD:∀(A:Around)(outer:List oN)(s:aB)(H:Hp)(vs:List V)(Q:VK)(E:XK),Room k (A.deeper (jC qual scope s.heap.objs.size f bN))->sp vs H Q E->
   ∃t,PSs (A8 CX P w K mg base N qual scope f bN A outer s H E) body t/\t {nx:=λ_ H'=>Q .non H',rt:=Q} (xQ N vs) H) :
  qt P w K mg base CX (k+1) f (lh name qual params body scope dV kV jD pm an bN ct) ps sp:=by
 refine⟨len,λA outer s H args us vs Q E hr e0 hb r nV=>?_⟩;have hl:=len _ _ _ _ nV;have KX:K.In s.heap:=e0.mod.kin.keeps λb o e=>(e0.bs b o e).1;have lim:s.heap.NoLimit:=e0.mod.nolimit.keeps λb o e=>(e0.bs b o e).1;have fN:∀y∈ps.zip us,scope.names.lookup y.1=some .local\/(scope.names.lookup y.1=some .cell/\((EX (s.heap.objs.size+1) scope.names []).lookup y.1).isSome=true):=λ⟨n,v⟩ hy=>by
  rcases S.par n (List.of_mem_zip hy).1 with q|q
  .exact .inl q
  .exact .inr ⟨q,PySem.W.cellsFrom_some _ _ _ (.inl q)⟩
 refine codeAny_call_function hr.depth (KX _ _ lk) rfl S.co S.gen rfl (PySem.W.codeRec_of KX oA) (hb _ _ _ _ ?_);refine wpAny_newFunctionEnv_cells S.kind fN λenv he s1 x=>?_;subst he;refine⟨lim.keeps x.toInCall.keep,codeAny_func ?_⟩;obtain⟨t,ht,hq⟩:=sD A outer s H vs Q E (hr.deeper _) nV;have I:Inv (A8 CX P w K mg base N qual scope f bN A outer s H E) [] (xQ N vs) H s1:=akw S hr.hd e0 hl r x;refine jj (ht [] s1 (xQ N vs) H _ I hq) (λfl s' hs=>?_) λe s' hs=>hs;have fin:∀{σ':St} {H':Hp} {v:V} {u:aA},Inv (A8 CX P w K mg base N qual scope f bN A outer s H E) [] σ' H' s'->RelV v u->Q v H'->CE outer P w H s Q u s':=
  λ{σ' H' v u} J rv q=>⟨v,H',J.os,J.bare,J.base,J.hok,rv,q⟩
 cases fl with
 | ret u=>
  obtain⟨v,σ',H',J,rv,q⟩:=hs;exact fin J rv q
 | next=>
  obtain⟨σ',H',J,q⟩:=hs;exact fin (v:=V.non) (u:=aA.none) J rfl q
 | brk=>
  obtain⟨_,_,_,q⟩:=hs;exact k6 q
 | cont=>
  obtain⟨_,_,_,q⟩:=hs;exact k6 q
end L2
namespace L2
open PySem PySem.Spec PyProof.Rows
section
variable{X:Cx}{x:Str}{p pos:eA}{e:Expr}{es:List Expr}{t:TA}{id T:String}{r:List V->Hp->VK->Prop}
def tCB(r:List V->Hp->VK->Prop)(t:TA):TE:=λσ H Q=>t σ H λvs H1=>r vs H1 Q
theorem aon(hc:u7 X (.builtin id) r)(hg:Gl X x)(hm:X.mg x=none)(hv:cI x=some (.builtin id))(ha:PA X (e::es) t)(hn:x≠"__name__":=by decide)(mW:(x==("__debug__" : Str))=false:=by decide)
  (he:aR (e::es) X.env=(false,bH e X.env)::aR es X.env:=by rfl) (hpl:(cO pos (aR es X.env)).any (·.1)=false:=by rfl):PE X (.Call (.Name x p) (e::es) [] pos) (tCB r t):=by
 intro aC s σ H Q I h;refine jk (v5 I hg hm hv ?_ hn mW);exact PyProof.Rows.callWith_builtin1 (thn (ha pos aC s σ H _ I h) λus s1 ⟨vs,H1,I1,r1,q1⟩=>hc aC s1 σ H1 vs us Q I1 r1 q1) he hpl
theorem aly(hc:u7 X (.type T) r)(hg:Gl X x)(hm:X.mg x=none)(hv:cI x=some (.type T))(ha:PA X (e::es) t)(hn:x≠"__name__":=by decide)(mW:(x==("__debug__" : Str))=false:=by decide)
  (he:aR (e::es) X.env=(false,bH e X.env)::aR es X.env:=by rfl) (hpl:(cO pos (aR es X.env)).any (·.1)=false:=by rfl):PE X (.Call (.Name x p) (e::es) [] pos) (tCB r t):=by
 intro aC s σ H Q I h;refine jk (v5 I hg hm hv ?_ hn mW);exact gv (thn (ha pos aC s σ H _ I h) λus s1 ⟨vs,H1,I1,r1,q1⟩=>hc aC s1 σ H1 vs us Q I1 r1 q1) he hpl
end
end L2
namespace HT
open PySem PyProof.Rows
section
variable{prog:aI}{w:aK}{A:Around}{E:aA->aB->Prop}{s:aB}
theorem cat_tup{t b:aE}{vs ws:List aA}{Q:aA->aB->Prop}(ht:oK s.heap t vs.toArray)(hb:oK s.heap b ws.toArray)(hv:vs≠[])
  (h1:ws=[]->Q (.ref t) s) (h2:ws≠[]->Q (.ref s.heap.objs.size) {s with heap:=s.heap.push {cls:=.type "tuple",data:=.seq (vs++ws).toArray}})
  (hsz:vs.length+ws.length<=aF):aG (aH prog w) A (cC .Add (.ref t) (.ref b)) Q E s:=by
 obtain⟨⟨cls,dd,data,sl⟩,ho,hc,n,hd⟩:=id ht;obtain⟨⟨Dl,xH,data2,wD⟩,uX,tS,n2,hZ⟩:=id hb;simp only at hc hd tS hZ;subst hc hd tS hZ;have e:vs.toArray++ws.toArray=(vs++ws).toArray:=by simp
 by_cases hw:ws=[]
 .exact tX ⟨_,ho,rfl⟩ ⟨_,uX,rfl⟩ kR pW PySem.F.slot_tuple_add PySem.F.entry_tuple_add (PySem.F.args_tuple_add_2 _ _)
   (tuple_addW1 t b vs.toArray ws.toArray n n2 dd xH sl wD (by simpa using hv) (by simp[hw])) ⟨ho,uX,h1 hw⟩
 .refine tX ⟨_,ho,rfl⟩ ⟨_,uX,rfl⟩ kR pW PySem.F.slot_tuple_add PySem.F.entry_tuple_add (PySem.F.args_tuple_add_2 _ _)
   (tuple_addW2 t b vs.toArray ws.toArray n n2 dd xH sl wD (by simpa using hv) (by simpa using hw) (by rw[a9,a9];exact hsz)) ⟨ho,uX,?_⟩
  rw[e];exact h2 hw
noncomputable def sIx(n d:Nat):Option Int->Nat
 | none=>d
 | some v=>if v<0 then(v+(n:Int)).toNat else lD v.toNat n
theorem sIx_none(n d:Nat):sIx n d none=d:=rfl
theorem sIx_nat(n d k:Nat):sIx n d (some (k:Int))=lD k n:=by show(if (k:Int)<0 then((k:Int)+(n:Int)).toNat else lD (k:Int).toNat n)=lD k n;rw[if_neg (by lia),cg]
theorem auq(n d:Nat)(hd:d<=n)(o:Option Int):sIx n d o<=n:=by
 cases o with
 | none=>exact hd
 | some v=>
  show(if v<0 then(v+(n:Int)).toNat else lD v.toNat n)<=n;by_cases hv:v<0
  .rw[if_pos hv];lia
  .rw[if_neg hv];exact Nat.min_le_right _ _
theorem aju(v:Int)(n d:Nat):(if v<0 then max (v+(n:Int)) 0 else lD v (n:Int))=((sIx n d (some v):Nat):Int):=by
 show(if v<0 then max (v+(n:Int)) 0 else lD v (n:Int))=(((if v<0 then(v+(n:Int)).toNat else lD v.toNat n):Nat):Int);by_cases hv:v<0
 .simp only[if_pos hv];lia
 .simp only[if_neg hv];lia
theorem aip(lo hi:Option Int)(n:Nat):Builtin.Slice.sliceAdjust lo hi 1 (n:Int)=(((sIx n 0 lo:Nat):Int),((sIx n n hi:Nat):Int)):=by
 have h1:¬((1:Int)<0):=by lia
 unfold Builtin.Slice.sliceAdjust;simp only[h1,if_false];refine Prod.ext ?_ ?_
 .cases lo with
  | none=>rfl
  | some v=>exact aju v n 0
 .cases hi with
  | none=>rfl
  | some v=>exact aju v n n
theorem ai3(i j:Nat):Builtin.Slice.slicePlaces (i:Int) (j:Int) 1=j-i:=by
 unfold Builtin.Slice.slicePlaces;have h1:(1:Int)>0:=by lia
 simp only[h1,if_true,Int.ediv_one];split<;>lia
theorem acf{v:aA}{o:Option Int}{Q:Option Int->aB->Prop}(p:iC v o)(h:Q o s):aG (aH prog w) A (Builtin.Slice.slicePartIndex v) Q E s:=by
 cases p with
 | none=>exact slicePart_none h
 | int i t=>exact slicePart_int h
theorem uv{sl:aE}{vl vu:aA}{lo hi:Option Int}{n:Nat}{Q:Int×Int×Nat->aB->Prop}(hs:s.heap.IsSliceOf sl vl vu .none)(pl:iC vl lo)(pu:iC vu hi)
  (h:Q (((sIx n 0 lo:Nat):Int),1,sIx n n hi-sIx n 0 lo) s):aG (aH prog w) A (Builtin.Slice.sliceApplied (.ref sl) (aS (n:Int))) Q E s:=by
 obtain⟨os,wS,jW,dH⟩:=id hs;unfold Builtin.Slice.sliceApplied Builtin.Slice.sliceFields;refine aa (aa (ig wS dH (x:=vl) rfl (aa (ig wS dH (x:=vu) rfl (aa (ig wS dH (x:=.none) rfl (af ?_)))))));refine aa (slicePart_none ?_);show aG _ _ (if ((1:Int)==0)=true then _ else _) _ _ s;rw[if_neg (by decide)];refine aa (acf pl (aa (acf pu (aa (af ?_)))));show aG _ _ (match Builtin.Slice.sliceAdjust lo hi 1 (n:Int)with|(lo,hi)=>aS (lo,(1:Int),Builtin.Slice.slicePlaces lo hi 1)) _ _ s;rw[aip lo hi n];show aG _ _ (aS (((sIx n 0 lo:Nat):Int),(1:Int),Builtin.Slice.slicePlaces ((sIx n 0 lo:Nat):Int) ((sIx n n hi:Nat):Int) 1)) _ _ s;rw[ai3];exact af h
theorem an4(xs:Array aA)(i k:Nat):((cb k).filterMap λ(m:Nat)=>xs[((i:Int)+(m:Int)*1).toNat]?).toArray=((xs.toList.drop i).take k).toArray:=by
 have e:(λ(m:Nat)=>xs[((i:Int)+(m:Int)*1).toNat]?)=λm=>xs[i+m]?:=by
  funext m
  have:((i:Int)+(m:Int)*1).toNat=i+m:=by lia
  rw[this]
 rw[e];have:=pick_run xs i k;rw[List.filterMap_map]at this;have e2:((λx=>xs[x]?)∘λx=>i+x)=λm=>xs[i+m]?:=rfl;rw[e2]at this;rw[this]
theorem getItem_tuple_cut{t sl:aE}{items:Array aA}{vl vu:aA}{lo hi:Option Int}{Q:aA->aB->Prop}(ht:oK s.heap t items)(hs:s.heap.IsSliceOf sl vl vu .none)(pl:iC vl lo)(pu:iC vu hi)
  (hw:¬(sIx items.size 0 lo=0/\sIx items.size items.size hi=items.size))
  (h:Q (.ref s.heap.objs.size) {s with heap:=s.heap.push {cls:=.type "tuple",data:=.seq ((items.toList.drop (sIx items.size 0 lo)).take (sIx items.size items.size hi-sIx items.size 0 lo)).toArray}})
  (hsz:items.size<=aF):aG (aH prog w) A (eZ (.ref t) (.ref sl)) Q E s:=by
 have nU:sizeOk (.seq ((items.toList.drop (sIx items.size 0 lo)).take (sIx items.size items.size hi-sIx items.size 0 lo)).toArray):=by show((items.toList.drop (sIx items.size 0 lo)).take (sIx items.size items.size hi-sIx items.size 0 lo)).toArray.size<=aF;rw[a9,b8,g9,ax];lia
 have hj:sIx items.size items.size hi<=items.size:=auq _ _ (aq _) hi;obtain⟨os,wS,jW,dH⟩:=id hs;have ID:s.TypeIs (.ref sl) "slice":=⟨os,wS,jW⟩;unfold eZ;try with_reducible refine gk ?_
 first|refine aa (af ?_)|skip
 refine aa (By ht.typeIs (by decide) ?_);refine aa (ci (name:=ba "__getitem__") ht.typeIs ic
  (ck ic ht.typeIs zN ?_ (Be _ _)))
 show aG _ _ (Builtin.Tuple.tupleItemsOf (.ref t) >>= _) _ _ s;refine aa (tupleItemsOf_ ht ?_);refine aa (eB ID ?_);rw[if_pos (by decide)];refine aa (uv hs pl pu ?_);have lU:¬((((sIx items.size 0 lo:Nat):Int)==0&&(1:Int)==1&&(sIx items.size items.size hi-sIx items.size 0 lo)==items.size)=true):=by intro q;rw[dz,dz]at q;have q1:((sIx items.size 0 lo:Nat):Int)=0:=eq_of_beq q.1.1;have q2:sIx items.size items.size hi-sIx items.size 0 lo=items.size:=eq_of_beq q.2;exact hw ⟨by lia,by lia⟩
 show aG _ _ (if (((sIx items.size 0 lo:Nat):Int)==0&&(1:Int)==1&&(sIx items.size items.size hi-sIx items.size 0 lo)==items.size)=true then _ else _) _ _ s;rw[if_neg lU,an4];first
  | exact aa (m:=Builtin.Tuple.tupleExact _) (cm (af ⟨_,rfl,af h⟩) nU)
  | exact aa (m:=Builtin.Tuple.tupleExact _) (cm (aa (af (af ⟨_,rfl,af h⟩))) nU)
  | exact aa (aa (m:=Builtin.Tuple.tupleExact _) (cm (af (af ⟨_,rfl,af h⟩)) nU))
  | exact aa (aa (m:=Builtin.Tuple.tupleExact _) (cm (af ⟨_,rfl,af h⟩) nU))
end
end HT
namespace L2
open PySem PySem.Spec PyProof.Rows
abbrev TO:=St->Hp->(Option Int->Hp->Prop)->Prop
def PO(X:Cx)(e:Option Expr)(t:TO):Prop:=
 ∀(aC:List (aE×Obj)) (s:aB) (σ:St) (H:Hp) (Q:Option Int->Hp->Prop),Inv X aC σ H s->t σ H Q->
  aG (aH X.prog X.w) X.A (evalPart e X.env) (λu s'=>∃o H',Inv X aC σ H' s'/\iC u o/\Q o H') X.xe s
noncomputable def arx:TO:=λ_ H Q=>Q none H
noncomputable def axe(t:TE):TO:=λσ H Q=>t σ H λx H1=>∃i,x=.int i/\Q (some i) H1
theorem acg{ns:List Int}:∀{us:List aA},Vals (ns.map V.int) us->iM us ns:=by
 induction ns with
 | nil=>intro us r;rw[List.map_nil]at r;cases r;exact .nil
 | cons n ns ih=>
  intro us r;rw[cy]at r;cases r with
  | cons r1 r2=>
   obtain⟨t,e⟩:=r1;subst e;exact .cons n t (ih r2)
section
variable{X:Cx}{e:Expr}{te:TE}{lo hi:Option Expr}{tl th:TO}{pos p2:eA}
theorem yo:PO X none arx:=by intro aC s σ H Q I h;rw[evalPart_none];exact af ⟨none,H,I,.none,h⟩
theorem vx(h:PE X e te):PO X (some e) (axe te):=by intro aC s σ H Q I hw;rw[evalPart_some];refine thn (h aC s σ H _ I hw) λu s1 ⟨x,H1,I1,r1,q1⟩=>?_;obtain⟨i,rfl,q⟩:=q1;obtain⟨t,rfl⟩:=r1;exact⟨some i,H1,I1,.int i t,q⟩
def SlR(X:Cx)(r:V->Option Int->Option Int->Hp->VK->Prop):Prop:=
 ∀(aC:List (aE×Obj)) (s:aB) (σ:St) (H:Hp) (x:V) (v vl vu:aA) (lo hi:Option Int) (sl:aE) (Q:VK),Inv X aC σ H s->RelV x v->s.heap.IsSliceOf sl vl vu .none->iC vl lo->iC vu hi->r x lo hi H Q->
  ∃T id,Ai (.type T) "__getitem__" = aS (some (.builtin id))/\s.TypeIs v T/\aG (aH X.prog X.w) X.A (eZ v (.ref sl)) (EP X aC σ Q) X.xe s
def tSl(r:V->Option Int->Option Int->Hp->VK->Prop)(te:TE)(tl th:TO):TE:=λσ H Q=>te σ H λx H1=>tl σ H1 λl H2=>th σ H2 λu H3=>r x l u H3 Q
theorem ul{r:V->Option Int->Option Int->Hp->VK->Prop}(hr:SlR X r)(he:PE X e te)(hl:PO X lo tl)(hu:PO X hi th):PE X (.Subscript e (.Slice lo hi none p2) pos) (tSl r te tl th):=by intro aC s σ H Q I h;refine Br (thn (he aC s σ H _ I h) λv s1 ⟨x,H1,I1,r1,q1⟩=>?_);refine wpAny_Slice (thn (hl aC s1 σ H1 _ I1 q1) λvl s2 ⟨l,H2,I2,pl,q2⟩=>thn (hu aC s2 σ H2 _ I2 q2) λvu s3 ⟨u,H3,I3,pu,q3⟩=>?_);rw[evalPart_none];refine af ?_;have I4:Inv X aC σ H3 {s3 with heap:=s3.heap.push {cls:=.type "slice",data:=.fields #[vl,vu,.none]}}:=I3.kept (t':=s3.toks) λb ob q=>am _ q;obtain⟨T,id,hT,ht,hg⟩:=hr aC {s3 with heap:=s3.heap.push {cls:=.type "slice",data:=.fields #[vl,vu,.none]}} σ H3 x v vl vu l u s3.heap.objs.size Q I4 r1 (Heap.IsSliceOf.new ..) pl pu q3;show aG (aH X.prog X.w) X.A (pU e (.Slice lo hi none p2) v (.ref s3.heap.objs.size)) (EP X aC σ Q) X.xe {s3 with heap:=s3.heap.push {cls:=.type "slice",data:=.fields #[vl,vu,.none]}};exact tail_any (ops:=[.ref s3.heap.objs.size,v]) ht hT hg (by with_unfolding_all rfl)
noncomputable def kT(xs:List V)(lo hi:Option Int):List V:=(xs.drop (HT.sIx xs.length 0 lo)).take (HT.sIx xs.length xs.length hi-HT.sIx xs.length 0 lo)
theorem aap(xs:List V)(lo hi:Option Int):(kT xs lo hi).length<=xs.length:=by unfold kT;rw[b8,g9];lia
def a0h(K:aj):V->Option Int->Option Int->Hp->VK->Prop:=λx lo hi H Q=>∃a xs,x=.ref a/\SqT K H a xs/\
 ¬(HT.sIx xs.length 0 lo=0/\HT.sIx xs.length xs.length hi=xs.length)/\∀p,H p=none->Q (.ref p) (upd H p (.tup (kT xs lo hi)))
theorem aui:SlR X (a0h X.K):=by
 intro aC s σ H x v vl vu lo hi sl Q I rx hs pl pu h;obtain⟨a,xs,rfl,hx,hw,q⟩:=h;cases rx;obtain⟨its,r,ht,hz⟩:=I.tuple hx;have bD:its.toArray.size=xs.length:=by rw[a9];exact r.length.symm
 refine⟨"tuple",_,ic.lookup,ht.typeIs,?_⟩;refine HT.getItem_tuple_cut ht hs pl pu (by rw[bD];exact hw) ?_ (by rw[bD];exact hz);rw[bD];refine⟨.ref s.heap.objs.size,_,I.laid (t':=s.toks) (o:=.tup (kT xs lo hi)) (λb ob q=>am _ q) (aq _) ?_,rfl,q _ (I.hok.fresh (aq _))⟩;exact⟨dv (aap xs lo hi) hz,_,(r.drop (HT.sIx xs.length 0 lo)).take (HT.sIx xs.length xs.length hi-HT.sIx xs.length 0 lo),oK.new _ _⟩
theorem Vals.nil_iff{xs:List V}{us:List aA}(r:Vals xs us):us=[]↔xs=[]:=by
 cases r with
 | nil=>simp
 | cons _ _=>simp
end
end L2
namespace L2
open PySem PySem.Spec PyProof.Rows
noncomputable def ixN(n:Nat)(i:Int):Option Nat:=if 0<=i then(if i<n then some i.toNat else none)else if -(n:Int)<=i then some (i+n).toNat else none
noncomputable def atI{α:Type}(xs:List α)(i:Int):Option α:=(ixN xs.length i).bind λj=>xs[j]?
theorem aj9{n:Nat}{i:Int}{j:Nat}(h:ixN n i=some j):qL i n=some j/\j<n/\-(n:Int)<=i/\i<n:=by
 unfold ixN at h;by_cases h0:0<=i
 .rw[if_pos h0]at h;by_cases h1:i<n
  .rw[if_pos h1]at h;have e:i.toNat=j:=cr h;exact⟨by rw[wE h0 h1,e],by lia,by lia,h1⟩
  .rw[if_neg h1]at h;cases h
 .rw[if_neg h0]at h;by_cases h1:-(n:Int)<=i
  .rw[if_pos h1]at h;have e:(i+n).toNat=j:=cr h;exact⟨by rw[tF (by lia) h1,e],by lia,h1,by lia⟩
  .rw[if_neg h1]at h;cases h
theorem K8{α:Type}{xs:List α}{i:Int}{v:α}(h:atI xs i=some v):∃j,qL i xs.length=some j/\xs[j]?=some v/\j<xs.length/\-(xs.length:Int)<=i/\i<xs.length:=by
 unfold atI at h;cases e:ixN xs.length i with
 | none=>rw[e]at h;cases h
 | some j=>
  rw[e]at h;obtain⟨h1,h2,h3,h4⟩:=aj9 e;exact⟨j,h1,h,h2,h3,h4⟩
theorem ng{α:Type}{xs:List α}{j:Nat}{v:α}(h:xs[j]?=some v):atI xs (j:Int)=some v:=by
 have hj:j<xs.length:=(ae.mp h).1;have e:ixN xs.length (j:Int)=some j:=by unfold ixN;rw[if_pos (by lia),if_pos (by lia)];simp
 unfold atI;rw[e];exact h
theorem am8{α:Type}(xs:List α)(v:α):atI (xs++[v]) (-1)=some v:=by
 have hl:(xs++[v]).length=xs.length+1:=by simp
 have e:ixN (xs++[v]).length (-1)=some xs.length:=by
  unfold ixN;rw[hl,if_neg (by decide),if_pos (by lia)]
  congr 1
  lia
 unfold atI;rw[e];show(xs++[v])[xs.length]?=some v;simp
def arf(b:Expr):Prop:=∀o i,kW b false o i=operate [o,i] (eZ o i)
def IxR(X:Cx)(r:R2):Prop:=
 ∀(value slice:Expr) (aC:List (aE×Obj)) (s:aB) (σ:St) (H:Hp) (x y:V) (v u:aA) (Q:VK),Inv X aC σ H s->RelV x v->RelV y u->r x y H Q->
  kW slice false v u=operate [v,u] (eZ v u)->aG (aH X.prog X.w) X.A (pU value slice v u) (EP X aC σ Q) X.xe s
def MtR(X:Cx)(id:String)(r:V->List V->Hp->VK->Prop):Prop:=
 ∀(aC:List (aE×Obj)) (s:aB) (σ:St) (H:Hp) (x:V) (xs:List V) (v:aA) (us:List aA) (Q:VK),Inv X aC σ H s->RelV x v->Vals xs us->r x xs H Q->
  aG (aH X.prog X.w) X.A (call (.builtin id) (v::us)) (EP X aC σ Q) X.xe s
section
variable{X:Cx}{a b:Expr}{ta tb:TE}{pos:eA}
theorem ny{r:R2}(hr:IxR X r)(ha:PE X a ta)(hb:PE X b tb)(hs:arf b):PE X (.Subscript a b pos) (tOp r ta tb):=by intro aC s σ H Q I h;exact Br (JC ha hb I h λv u s2 x y H2 I2 rx ry q=>hr a b aC s2 σ H2 x y v u Q I2 rx ry q (hs _ _))
def azp(K:aj):R2:=λx y H Q=>∃p xs i v,x=.ref p/\y=.int i/\SqL K H p xs/\atI xs i=some v/\Q v H
def JP(K:aj):R2:=λx y H Q=>∃p xs i v,x=.ref p/\y=.int i/\SqT K H p xs/\atI xs i=some v/\Q v H
def azw:R2:=λx y H Q=>∃z i c,x=.str z/\y=.int i/\z.length<=aF/\atI z.cps.toList i=some c/\Q (.str ⟨#[c]⟩) H
theorem pi:IxR X (azp X.K):=by
 intro value slice aC s σ H x y v u Q I rx ry h hs;obtain⟨p,xs,i,z,rfl,rfl,hq,he,q⟩:=h;cases rx;obtain⟨t,rfl⟩:=ry;obtain⟨its,r,pl,hz⟩:=I.list hq;obtain⟨j,h1,h2,h3,h4,h5⟩:=K8 he;obtain⟨w,ew,qO⟩:=r.get h2;have hl:=r.length;have hn:=Bk;have fin:EP X aC σ Q w s:=⟨z,H,I,qO,q⟩;by_cases h0:0<=i
 .have hj:i.toNat=j:=by
   rw[wE h0 h5]at h1;exact cr h1
  exact item_listR pl.isList h0 (by lia) (by rw[hj];simpa using ew) fin hs
 .have hj:(i+(its.toArray.size:Int)).toNat=j:=by
   rw[tF (by lia) h4]at h1;rw[a9,<-hl];exact cr h1
  exact tD (x:=w) pl.isList.typeIs slot_list_getitem.lookup
   (wpAny_getItem_list_neg (Q:=λr s'=>r=w/\EP X aC σ Q r s') pl.isList (by lia) (by rw[a9]<;>lia) (by lia) (by rw[hj];simpa using ew) ⟨rfl,fin⟩) hs
theorem om:IxR X (JP X.K):=by
 intro value slice aC s σ H x y v u Q I rx ry h hs;obtain⟨p,xs,i,z,rfl,rfl,hq,he,q⟩:=h;cases rx;obtain⟨t,rfl⟩:=ry;obtain⟨its,r,pl,hz⟩:=I.tuple hq;obtain⟨j,h1,h2,h3,h4,h5⟩:=K8 he;obtain⟨w,ew,qO⟩:=r.get h2;have hl:=r.length;have hn:=Bk;have fin:EP X aC σ Q w s:=⟨z,H,I,qO,q⟩;exact tD (x:=w) pl.typeIs slot_tuple_getitem.lookup
  (getItem_tuple (j:=j) (Q:=λr s'=>r=w/\EP X aC σ Q r s') pl (by lia) (by lia) (by rw[a9,<-hl];exact h1) (by simpa using ew) ⟨rfl,fin⟩) hs
theorem xq:IxR X azw:=by
 intro value slice aC s σ H x y v u Q I rx ry h hs;obtain⟨z,i,c,rfl,rfl,hz,he,q⟩:=h;obtain⟨t,rfl⟩:=rx;obtain⟨t',rfl⟩:=ry;obtain⟨j,h1,h2,h3,h4,h5⟩:=K8 he;have hl:z.cps.toList.length=z.length:=by simp[Str.length]
 rw[hl]at h1 h4 h5;have hn:=Bk;exact tail_any (Aj s z t) slot_str_getitem.lookup (getItem_str (c:=c) (by
  have e1:decide (i < -(2^63:Int))=false:=decide_eq_false (by lia);have e2:decide (i>=2^63)=false:=decide_eq_false (by lia);rw[e1,e2,Bool.or_false]) (by rw[h1];simpa using h2) ⟨.str ⟨#[c]⟩,H,I.tok _,⟨_,rfl⟩,q⟩) hs
theorem aig(its:List aA)(n j:Nat)(u:aA):ix (·.setIfInBounds j u) {cls:=.type "list",data:=.seq its.toArray n}={cls:=.type "list",data:=.seq (its.set j u).toArray n}:=by simp[ix]
theorem Inv.lst{aC:List (aE×Obj)}{σ:St}{H:Hp}{s:aB}{p:aE}{xs:List V}(I:Inv X aC σ H s)(h:H p=some (.lst xs)) :
  ∃(its:List aA)(n:Nat),Vals xs its/\s.heap.get? p=some {cls:=.type "list",data:=.seq its.toArray n}/\xs.length<=aF:=by
 obtain⟨z,its,n,r,e⟩:=I.hok p _ h;exact⟨its,n,r,e,z⟩
theorem Inv.lstUpd{aC:List (aE×Obj)}{σ:St}{H:Hp}{s:aB}{p:aE}{xs ys:List V}{its its':List aA}{n n':Nat}{f:Obj->Obj}(I:Inv X aC σ H s)(h:H p=some (.lst xs))
  (ho:s.heap.get? p=some {cls:=.type "list",data:=.seq its.toArray n}) (hf:f {cls:=.type "list",data:=.seq its.toArray n}={cls:=.type "list",data:=.seq its'.toArray n'}) (r:Vals ys its') (hz:ys.length<=aF) (t:Nat) :
  Inv X aC σ (upd H p (.lst ys)) {s with heap:=s.heap.update p f,toks:=t}:=by
 have e:(s.heap.update p f).get? p=some {cls:=.type "list",data:=.seq its'.toArray n'}:=by rw[cn f ho (by rw[hf]<;>rfl),hf]
 refine I.write (x:=p) (e:=p) (by rw[h];trivial) (.inl rfl) (λb u hb q=>(dh _ _ (Ne.symm hb)).trans q) ⟨_,e⟩ ?_;exact⟨hz,its',n',r,e⟩
def aw1:V->V->V->Hp->(Hp->Prop)->Prop:=λo i v H Q=>∃p xs k j,o=.ref p/\i=.int k/\H p=some (.lst xs)/\ixN xs.length k=some j/\Q (upd H p (.lst (xs.set j v)))
theorem F4:azr X aw1:=by
 intro aC s σ H o i v ov iv u Q I ro ri rv h;obtain⟨p,xs,k,j,rfl,rfl,hp,hj,q⟩:=h;cases ro;obtain⟨t,rfl⟩:=ri;obtain⟨its,n,r,ho,hz⟩:=I.lst hp;obtain⟨h1,h2,h3,h4⟩:=aj9 hj;have hl:=r.length;have hn:=Bk;have I':Inv X aC σ (upd H p (.lst (xs.set j v))) {s with heap:=s.heap.update p (ix (·.setIfInBounds j u))}:=
  I.lstUpd hp ho (aig its n j u) (r.set rv j) (by rw[List.length_set];exact hz) s.toks
 by_cases h0:0<=k
 .have hk:k.toNat=j:=by
   rw[wE h0 h4]at h1;exact cr h1
  exact PySem.W.ki_setAt ho h0 (by lia) (by rw[a9,<-hl];exact h4) (by rw[hk];exact⟨_,I',q⟩)
 .have hk:(k+(its.toArray.size:Int)).toNat=j:=by
   rw[tF (by lia) h3]at h1;rw[a9,<-hl];exact cr h1
  exact PySem.W.ki_setBack ho (by lia) (by rw[a9,<-hl];exact h3) (by lia) (by rw[hk];exact⟨_,I',q⟩)
theorem aet(lo hi:Option Int)(n:Nat):(dN lo hi none n).1=((HT.sIx n 0 lo:Nat):Int)/\(dN lo hi none n).2.1=((HT.sIx n n hi:Nat):Int)/\(dN lo hi none n).2.2=1:=by
 refine⟨?_,?_,rfl⟩
 .cases lo with
  | none=>simp[dN,HT.sIx]
  | some i=>
   simp only[dN,HT.sIx,Option.getD_none,show(1:Int)>0 by decide,if_true];by_cases h:i<0
   .simp only[h,if_true]<;>lia
   .simp only[h,if_false]<;>lia
 .cases hi with
  | none=>simp[dN,HT.sIx]
  | some i=>
   simp only[dN,HT.sIx,Option.getD_none,show(1:Int)>0 by decide,if_true];by_cases h:i<0
   .simp only[h,if_true]<;>lia
   .simp only[h,if_false]<;>lia
theorem acr(its:List aA)(lo hi:Option Int):slicePick its.toArray lo hi none=((its.drop (HT.sIx its.length 0 lo)).take (HT.sIx its.length its.length hi-HT.sIx its.length 0 lo)).toArray:=by obtain⟨h1,h2,h3⟩:=aet lo hi its.toArray.size;unfold slicePick;rw[h1,h2,h3];simp only[sliceRange_one,pick_run,a9]<;>rfl
def a0a(K:aj):V->Option Int->Option Int->Hp->VK->Prop:=λx lo hi H Q=>∃a xs,x=.ref a/\SqL K H a xs/\∀p,H p=none->Q (.ref p) (upd H p (.lst (kT xs lo hi)))
theorem ajt:SlR X (a0a X.K):=by intro aC s σ H x v vl vu lo hi sl Q I rx hs pl pu h;obtain⟨a,xs,rfl,hx,q⟩:=h;cases rx;obtain⟨its,r,ht,hz⟩:=I.list hx;have bD:=r.length;refine⟨"list",_,slot_list_getitem.lookup,ht.isList.typeIs,?_⟩;refine wpAny_getItem_list_slice ht.isList hs pl pu .none (by simp) ?_ (by rw[a9]<;>lia);rw[acr,<-bD];refine⟨.ref s.heap.objs.size,_,I.laid (t':=s.toks) (o:=.lst (kT xs lo hi)) (λb ob q=>am _ q) (aq _) ?_,rfl,q _ (I.hok.fresh (aq _))⟩;exact⟨dv (aap xs lo hi) hz,_,0,(r.drop (HT.sIx xs.length 0 lo)).take (HT.sIx xs.length xs.length hi-HT.sIx xs.length 0 lo),az _ rfl⟩
theorem qd:u7 X (.builtin "len") (λxs H Q=>∃p ys,xs=[.ref p]/\(SqL X.K H p ys\/SqT X.K H p ys)/\Q (.int ys.length) H):=by
 intro aC s σ H xs us Q I r h;obtain⟨p,ys,rfl,hq,q⟩:=h;obtain⟨u,rfl,rx⟩:=uy r;cases rx;have hn:=Bk;rcases hq with hq|hq
 .obtain⟨its,r',pl,hz⟩:=I.list hq;have bD:=r'.length;exact Calls.call_len_list pl.isList (by simp only[a9]<;>lia) ⟨.int ys.length,H,I.tok _,⟨s.toks+1,by rw[a9,bD]⟩,q⟩
 .obtain⟨its,r',pl,hz⟩:=I.tuple hq;have bD:=r'.length;exact len_tuple pl (by simp only[a9]<;>lia) ⟨.int ys.length,H,I.tok _,⟨s.toks+1,by rw[a9,bD]⟩,q⟩
theorem sw:u7 X (.builtin "len") (λxs H Q=>∃z,xs=[.str z]/\z.length<=aF/\Q (.int z.length) H):=by intro aC s σ H xs us Q I r h;obtain⟨z,rfl,hz,q⟩:=h;obtain⟨u,rfl,t,rfl⟩:=uy r;have hn:=Bk;exact len_str (by lia) ⟨.int z.length,H,I.tok _,⟨_,rfl⟩,q⟩
theorem ae9:u7 X (.type "list") (λxs H Q=>∃p ys,xs=[.ref p]/\(SqL X.K H p ys\/SqT X.K H p ys)/\∀l,H l=none->Q (.ref l) (upd H l (.lst ys))):=by
 intro aC s σ H xs us Q I r h;obtain⟨p,ys,rfl,hq,q⟩:=h;obtain⟨u,rfl,rx⟩:=uy r;cases rx;have fin:∀(its:List aA),Vals ys its->ys.length<=aF->∀(h':Heap)(c':Nat),(∀b o',s.heap.get? b=some o'->h'.get? b=some o')->
   h'.get? s.heap.objs.size=some {cls:=.type "list",dict:=none,data:=.seq its.toArray c',slots:=#[]}->EP X aC σ Q (.ref s.heap.objs.size) {s with heap:=h'}:=λits r' hz h' c' kp e=>
  ⟨.ref s.heap.objs.size,_,I.laid (t':=s.toks) kp (aq _) (show ObjOk X.prog X.w _ h' _ (.lst ys)from ⟨hz,its,c',r',e⟩),rfl,q _ (I.hok.fresh (aq _))⟩
 rcases hq with hq|hq
 .obtain⟨its,r',pl,hz⟩:=I.list hq;have bD:=r'.length;obtain⟨o,ho,hc,n,hd⟩:=pl.isList;exact call_list_seq p (.inl rfl) ho hc hd (λh' c' kp e=>fin its r' hz h' c' kp e) (by simp only[a9]<;>lia)
 .obtain⟨its,r',pl,hz⟩:=I.tuple hq;have bD:=r'.length;obtain⟨o,ho,hc,n,hd⟩:=pl;exact call_list_seq p (.inr rfl) ho hc hd (λh' c' kp e=>fin its r' hz h' c' kp e) (by simp only[a9]<;>lia)
theorem p6:u7 X (.type "tuple") (λxs H Q=>∃p ys,xs=[.ref p]/\((SqL X.K H p ys/\∀l,H l=none->Q (.ref l) (upd H l (.tup ys)))\/(SqT X.K H p ys/\Q (.ref p) H))):=by
 intro aC s σ H xs us Q I r h;obtain⟨p,ys,rfl,h⟩:=h;obtain⟨u,rfl,rx⟩:=uy r;cases rx;rcases h with ⟨hq,q⟩|⟨hq,q⟩
 .obtain⟨its,r',pl,hz⟩:=I.list hq;have bD:=r'.length;refine call_tuple_list pl.isList (λh' kp=>?_) (by simp only[a9]<;>lia);have I1:Inv X aC σ H {s with heap:=h'}:=I.kept (t':=s.toks) kp;have I2:Inv X aC σ (upd H h'.objs.size (.tup ys)) {s with heap:=h'.push {cls:=.type "tuple",data:=.seq its.toArray}}:=
   I1.laid (t':=s.toks) (λb o e=>am _ e) (aq _) (show ObjOk X.prog X.w _ _ _ (.tup ys)from ⟨hz,its,r',oK.new _ _⟩)
  exact⟨.ref h'.objs.size,_,I2,rfl,q _ (I1.hok.fresh (aq _))⟩
 .obtain⟨its,r',pl,hz⟩:=I.tuple hq;exact call_tuple_same pl ⟨.ref p,H,I,rfl,q⟩
def tyV(K:aj)(T:String)(x:V)(H:Hp):Prop:=match x with
 | .str _=>T="str"
 | .int _=>T="int"
 | .ref p=>(T="list"/\∃xs,SqL K H p xs)\/(T="tuple"/\∃o,K.lookup p=some o/\o.cls=.type "tuple"/\o.dict=none)\/
   (T="dict"/\((∃aU,H p=some (.dK aU))\/∃aU,H p=some (.dT aU)))\/(T="set"/\∃S n,H p=some (.set S n))
 | _=>False
theorem ao6{aC:List (aE×Obj)}{σ:St}{H:Hp}{s:aB}{T:String}{x:V}{v:aA}(I:Inv X aC σ H s)(r:RelV x v)(ty:tyV X.K T x H) :
  s.TypeIs v T/\∀a,v=.ref a->∃ob,s.heap.get? a=some ob/\ob.dict=none:=by
 cases x with
 | str z=>
  obtain⟨t,rfl⟩:=r;cases (show T="str" from ty);exact⟨Aj s z t,λ_ e=>nomatch e⟩
 | int i=>
  obtain⟨t,rfl⟩:=r;cases (show T="int" from ty);exact⟨typeIs_int s i t,λ_ e=>nomatch e⟩
 | ref p=>
  cases r;rcases ty with ⟨rfl,xs,hq⟩|⟨rfl,o,hk,hc,hd⟩|⟨rfl,hk⟩|⟨rfl,S,n,hk⟩
  .obtain⟨its,_,pl,_⟩:=I.list hq;refine⟨pl.isList.typeIs,λa e=>?_⟩;cases e;obtain⟨o,n,e,c,hd,_⟩:=pl;exact⟨o,e,hd⟩
  .refine⟨⟨o,I.kIn p o hk,hc⟩,λa e=>?_⟩;cases e;exact⟨o,I.kIn _ o hk,hd⟩
  .have z:∃o,s.heap.get? p=some o/\o.ExactDict:=by
    rcases hk with ⟨aU,hk⟩|⟨aU,hk⟩
    .obtain⟨_,_,_,_,o,_,_,e,ex,_⟩:=I.hok p _ hk;exact⟨o,e,ex⟩
    .obtain⟨_,_,_,_,o,_,_,e,ex,_⟩:=I.hok p _ hk;exact⟨o,e,ex⟩
   obtain⟨o,e,ex⟩:=z;refine⟨⟨o,e,ex.1⟩,λa e2=>?_⟩;cases e2;exact⟨o,e,ex.2.1⟩
  .obtain⟨o,_,_,_,e,ex,_⟩:=I.hok p _ hk;refine⟨⟨o,e,ex.1⟩,λa e2=>?_⟩;cases e2;exact⟨o,e,ex.2.1⟩
 | _=>exact k6 ty
def a0j(K:aj)(T:String)(r:V->List V->Hp->VK->Prop)(to:TE):TE:=λσ H Q=>to σ H λx H1=>tyV K T x H1/\r x [] H1 Q
def tBM(K:aj)(T:String)(r:V->List V->Hp->VK->Prop)(to:TE)(t:TA):TE:=λσ H Q=>to σ H λx H1=>tyV K T x H1/\t σ H1 λxs H2=>r x xs H2 Q
variable{o e:Expr}{es:List Expr}{to:TE}{t:TA}{name:Str}{fR fA:eA}{T id:String}{r:V->List V->Hp->VK->Prop}
theorem ao5(pa:PlainAttrs T)(slot:Slot T name id)(Hf:typeOf (.builtin id)=aS (.type "method_descriptor"))(hm:MtR X id r)(ho:PE X o to)
  (lL:cS o name X.env (bH o X.env)=bH o X.env:=by rfl) (eW:(fR.endLine==fA.line)=true:=by rfl):PE X (.Call (.Attribute o name fR) [] [] fA) (a0j X.K T r to):=by
 intro aC s σ H Q I h;refine qJ lL eW (thn (ho aC s σ H _ I h) λv s1 ⟨x,H1,I1,r1,ty,q1⟩=>?_);obtain⟨h1,h2⟩:=ao6 I1 r1 ty;exact⟨T,id,pa,slot,Hf,h1,h2,Calls.callWith_builtin rfl (PySem.evalArgs_none (hm aC s1 σ H1 x [] v [] Q I1 r1 .nil q1))⟩
theorem wq(pa:PlainAttrs T)(slot:Slot T name id)(Hf:typeOf (.builtin id)=aS (.type "method_descriptor"))(hm:MtR X id r)(ho:PE X o to)(ha:PA X (e::es) t)
  (lL:cS o name X.env (bH o X.env)=bH o X.env:=by rfl)
  (Ik:((cO fA (aR (e::es) X.env)).all (λx=>!x.1)&&(xM fA (lG [] X.env)).all (λx=>x.1.isSome)
   && decide ((e::es).length+([]:List nH).length+(if ([]:List nH).isEmpty then 0 else 1)<30))=true:=by rfl)
  (eW:(fR.endLine==fA.line)=true:=by rfl) (hs:aR (e::es) X.env=(false,bH e X.env)::aR es X.env:=by rfl) (yM:(cO fA (aR es X.env)).any (·.1)=false:=by rfl) :
  PE X (.Call (.Attribute o name fR) (e::es) [] fA) (tBM X.K T r to t):=by
 intro aC s σ H Q I h;refine wpAny_Call_method_late lL Ik eW rfl (thn (ho aC s σ H _ I h) λv s1 ⟨x,H1,I1,r1,ty,q1⟩=>?_);obtain⟨h1,h2⟩:=ao6 I1 r1 ty;refine⟨T,id,pa,slot,Hf,h1,h2,?_⟩;have hA:=ha fA aC s1 σ H1 _ I1 q1;rw[hs]at hA⊢;refine Calls.callWith_builtin (by show(false||(cO fA (aR es X.env)).any (·.1))=false;rw[yM]<;>rfl) (Calls.evalArgs_plain ?_);exact thn hA λus s2 ⟨vs,H2,I2,r2,q2⟩=>hm aC s2 σ H2 x vs v us Q I2 r1 r2 q2
end
end L2
namespace L2
open PySem PySem.Spec PyProof.Rows
def MtM(X:Cx)(id:String)(r:V->List V->Hp->VK->Prop):Prop:=
 ∀(aC:List (aE×Obj)) (s:aB) (σ:St) (H:Hp) (x:V) (xs:List V) (v:aA) (us:List aA) (Q:VK),Inv X aC σ H s->RelV x v->Vals xs us->r x xs H Q->
  aG (aH X.prog X.w) X.A (call (.builtin id) (v::us)) (EP X aC σ Q) X.xe s
theorem Vals.one:∀{x:V} {us:List aA},Vals [x] us->∃u,us=[u]/\RelV x u
 | _,_,.cons r .nil=>⟨_,rfl,r⟩
theorem Vals.zero:∀{us:List aA},Vals [] us->us=[]
 | _,.nil=>rfl
theorem Vals.eraseIdx:∀{xs:List V} {us:List aA} (i:Nat),Vals xs us->Vals (xs.eraseIdx i) (us.eraseIdx i)
 | _,_,_,.nil=>.nil
 | _,_,0,.cons _ t=>t
 | _,_,i+1,.cons r t=>.cons r (Vals.eraseIdx i t)
theorem ad4{α:Type}:∀(l:List α)(i:Nat),(l.eraseIdx i).length<=l.length
 | [],_=>aq _
 | _::_,0=>ll _
 | _::r,i+1=>Nat.succ_le_succ (ad4 r i)
section
variable{X:Cx}{aC:List (aE×Obj)}{σ:St}{H:Hp}{s:aB}{l b:aE}{xs ys zs:List V}
theorem Inv.lset{its its':List aA}{n:Nat}{f:Array aA->Array aA}{t':Nat}(I:Inv X aC σ H s)(hH:H l=some (.lst xs))
  (e:s.heap.get? l=some {cls:=.type "list",data:=.seq its.toArray n}) (hf:f its.toArray=its'.toArray) (hv:Vals ys its') (hz:ys.length<=aF) :
  Inv X aC σ (upd H l (.lst ys)) {s with heap:=s.heap.update l (ix f),toks:=t'}:=by
 have q:=PySem.IsL.update e f;rw[hf]at q;refine I.write (x:=l) (e:=l) (by rw[hH];exact trivial) (.inl rfl) (λb' u hb hu=>(dh s.heap (ix f) (Ne.symm hb)).trans hu) ⟨_,q⟩ ?_;exact⟨hz,its',_,hv,q⟩
theorem Inv.lnew{its:List aA}{t':Nat}(I:Inv X aC σ H s)(hv:Vals ys its)(hz:ys.length<=aF) :
  Inv X aC σ (upd H s.heap.objs.size (.lst ys)) {s with heap:=s.heap.push {cls:=.type "list",data:=.seq its.toArray},toks:=t'}:=
 I.laid (λ_ _ q=>am _ q) (aq _) ⟨hz,its,0,hv,az _ rfl⟩
theorem Inv.fresh(I:Inv X aC σ H s):H s.heap.objs.size=none:=I.hok.fresh (aq _)
theorem Inv.lstM(I:Inv X aC σ H s)(hH:H l=some (.lst xs)):xs.length<=aF/\∃(its:List aA)(n:Nat),Vals xs its/\xs.length=its.length/\s.heap.get? l=some {cls:=.type "list",data:=.seq its.toArray n}:=by obtain⟨z,its,n,r,e⟩:=I.hok l _ hH;exact⟨z,its,n,r,r.length,e⟩
theorem aog{n:Nat}(h:n<=aF):Builtin.List.listTooLong n=false:=by unfold Builtin.List.listTooLong;exact decide_eq_false (by lia)
end
section
variable{X:Cx}
def arc:V->List V->Hp->VK->Prop:=λx vs H Q=>∃l xs y,x=.ref l/\vs=[y]/\H l=some (.lst xs)/\xs.length<aF/\Q .non (upd H l (.lst (xs++[y])))
theorem qo:MtM X "list.append" arc:=by intro aC s σ H x vs v us Q I rx rv h;obtain⟨l,xs,y,rfl,rfl,hH,hz,q⟩:=h;cases rx;obtain⟨u,rfl,ru⟩:=rv.one;obtain⟨z,its,n,r,hl,e⟩:=I.lstM hH;refine AT F.slot_list_append ⟨_,e,rfl⟩ F.entry_list_append (F.args_list_append_2 _ _) (PySem.list_append l its.toArray n u (by rw[a9];lia)) ⟨e,?_⟩;refine⟨.non,_,I.lset (its':=its++[u]) hH e (by simp) (r.append (.cons ru .nil)) ?_,rfl,q⟩;rw[bu,fq];lia
def asg:V->List V->Hp->VK->Prop:=λx vs H Q=>∃l b xs zs,x=.ref l/\vs=[.ref b]/\H l=some (.lst xs)/\H b=some (.lst zs)/\xs.length+zs.length<=aF/\Q .non (upd H l (.lst (xs++zs)))
theorem akb:MtM X "list.extend" asg:=by
 intro aC s σ H x vs v us Q I rx rv h;obtain⟨l,b,xs,zs,rfl,rfl,hH,hB,hz,q⟩:=h;cases rx;obtain⟨u,rfl,ru⟩:=rv.one;cases ru;obtain⟨z,its,n,r,hl,e⟩:=I.lstM hH;obtain⟨z2,kC,n2,r2,kG,e2⟩:=I.lstM hB;have hsz:its.toArray.size+kC.toArray.size<=aF:=by rw[a9,a9];lia
 have Cz:¬(!its.toArray.isEmpty&&Builtin.List.listTooLong (its.toArray.size+kC.toArray.size))=true:=by rw[aog hsz,Bool.and_false];exact ai
 refine AT F.slot_list_extend ⟨_,e,rfl⟩ F.entry_list_extend (F.args_list_extend_2 _ _)
  (AutoSeq1.list_extend_list_list_0 l its.toArray n b kC.toArray n2 Cz (by rw[a9];lia) (by lia)) ⟨e,e2,?_⟩
 refine⟨.non,_,I.lset (its':=its++kC) hH e (by simp) (r.append r2) ?_,rfl,q⟩;rw[bu];lia
def avd:V->List V->Hp->VK->Prop:=λx vs H Q=>∃l xs i k y,x=.ref l/\vs=[.int i]/\H l=some (.lst xs)/\-(2^63)<=i/\i<2^63/\qL i xs.length=some k/\xs[k]?=some y/\Q y (upd H l (.lst (xs.eraseIdx k)))
theorem anl:MtM X "list.pop" avd:=by
 intro aC s σ H x vs v us Q I rx rv h;obtain⟨l,xs,i,k,y,rfl,rfl,hH,h1,h2,hk,hy,q⟩:=h;cases rx;obtain⟨u,rfl,ru⟩:=rv.one;obtain⟨t,rfl⟩:=ru;obtain⟨z,its,n,r,hl,e⟩:=I.lstM hH;obtain⟨w,hw,qO⟩:=r.get hy;refine AT F.slot_list_pop ⟨_,e,rfl⟩ F.entry_list_pop (F.args_list_pop_2 _ _)
  (MeetsSeq.list_pop_at l its.toArray n i t k w (fitsIndex_both h1 h2) (by rw[a9,<-hl];exact hk) (by rw[<-bm];exact hw) (by rw[a9];lia)) ⟨e,?_⟩
 refine⟨y,_,I.lset (its':=its.eraseIdx k) hH e ?_ (r.eraseIdx k) ?_,qO,q⟩
 .show its.toArray.eraseIdxIfInBounds k=(its.eraseIdx k).toArray;rw[List.eraseIdxIfInBounds_toArray]
 .have:=ad4 xs k;lia
def a0i:R2:=λx y H Q=>∃l b xs zs,x=.ref l/\y=.ref b/\H l=some (.lst xs)/\H b=some (.lst zs)/\xs.length+zs.length<=aF/\∀p,H p=none->Q (.ref p) (upd H p (.lst (xs++zs)))
theorem KE:OpR X (cC .Add) a0i:=by
 intro aC s σ H x y v u Q I rx ry h;obtain⟨l,b,xs,zs,rfl,rfl,hH,hB,hz,q⟩:=h;cases rx;cases ry;obtain⟨z,its,n,r,hl,e⟩:=I.lstM hH;obtain⟨z2,kC,n2,r2,kG,e2⟩:=I.lstM hB;refine PySem.P.add_list e e2 ?_ (by rw[a9,a9];lia);have ea:its.toArray++kC.toArray=(its++kC).toArray:=by simp
 rw[ea];exact⟨.ref _,_,I.lnew (t':=s.toks) (r.append r2) (by rw[bu];lia),rfl,q _ I.fresh⟩
end
end L2
namespace Att
open PySem PySem.W PySem.Calls PyProof.Rows
theorem abf{P:Params}{h:Heap}:∀(ns:List Int)(vs:List aA),WellAll P h vs (ns.map WData.int)->iM vs ns:=by
 intro ns;induction ns with
 | nil=>
  intro vs w;rw[List.map_nil]at w;cases w;exact .nil
 | cons n ns ih=>
  intro vs w;rw[cy]at w;cases w with
  | cons a b=>
   cases a;exact .cons _ _ (ih _ b)
theorem ami{l:OpenLaw}{n:Nat}(hn:l.most=some n){P:Params}{h:Heap}{args:List WData}{vals:List aA}
  (uV:l.row.toRowW.claim.pre args=true) (Hd:WellAll P h vals args) :
  ∃a vs ns,vals=[aA.ref a]/\args=[WData.list (ns.map WData.int)]/\h.get? a=some {cls:=.type "list",data:=.seq vs.toArray}/\iM vs ns/\ns.length<=n:=by
 have hsh:WShape.hasAll [] args [.list .int]=true:=(pre_splitW uV).1;have hc:l.pre.holds [] {args:=args}=true:=(pre_splitW uV).2;obtain⟨d,r,rfl,h1,h2⟩:=hasAllW_cons hsh;obtain rfl:=hasAllW_nil h2;obtain⟨xs,rfl,h3⟩:=hasW_list h1;obtain⟨ns,rfl⟩:=items_int h3;have bD:ns.length<=n:=by
  unfold OpenLaw.pre at hc;have h4:(WTm.not (.lt (.lit (.int (n:Int))) (.len (.arg 0)))).holds [] {args:=[.list (ns.map .int)]}=true:=by have h4:=(holds_andW hc).1;rw[hn]at h4;exact h4
  have h5:=condW_of h4 (w_not (w_lt w_lit (w_len_list (w_arg rfl))));rw[ah]at h5;refine Nat.le_of_not_lt λq=>?_;have q':(n:Int)<((ns.length:Nat):Int):=by lia
  first
   | (rw[decide_eq_true q']at h5;exact absurd h5 (by decide))
   | (simp at h5;lia)
 cases Hd with
 | cons w1 w2=>
  cases w2;cases w1 with
  | list ho cQ=>exact⟨_,_,ns,rfl,rfl,ho,abf ns _ cQ,bD⟩
theorem alb(l:OpenLaw)(args:List WData):l.row.toRowW.claim.post args (.bool true) args=true:=
 postW_of (r:=l.row.toRowW) (X:=(true==true))
  (show WShape.has [] (.bool true) .bool=true by first|rfl|decide|simp[WShape.has,WShape.arms,WShape.armsAll])
  (show(WTm.eq .res (.lit (.bool true))).value [] {args:=args,res:=some (.bool true),after:=args}=some (.bool (true==true))from w_eq_bool (w_res rfl) w_lit) rfl
theorem attach_call{l:OpenLaw}{n:Nat}{q:aI}{loose:List Str}{XP:(Str->Option aA)->Heap->Prop}{YP:aK->Heap->Prop}{d:DefRec}
  (hn:l.most=some n) (CS:d.params.defaults=[])
  (call:∀(w:aK)(s₀ s₁:aB)(mg mb:Str->Option aA)(fa:aE)(o:Obj)(pm cd jD:aA)(a:aE)(vs:List aA)(ns:List Int),
   Ground q loose [] XP w s₀ mg mb s₁.heap->YP w s₁.heap->
   s₁.heap.get? fa=some o->o.data=.func (docDef d.name d.params d.body d.scope pm cd jD)->s₁.heap.CodeRec cd d.name->mg d.name=some (.ref fa)->
   s₁.heap.get? a=some {cls:=.type "list",data:=.seq vs.toArray}->iM vs ns->ns.length<=n->s₁.gens=#[]->
   cH (aH l.prog w) jZ (.call (.ref fa) ⟨[.ref a],[]⟩) (λr s'=>r=.ok (.ret (.bool true))/\OldK s₁.heap s'.heap/\s'.os=s₁.os/\fV s'.gens) s₁) :
  WalkO q loose XP YP l.row.toRowW d [] (λf vs=>PySem.call f vs):=by
 intro w s₀ s₁ mg mb G Y fa o pm cd jD dV kV ho hd oA hD vC hg args vals as uV CB hrd Hd qB;obtain rfl:dV=.none:=Dflts.none hD CS;obtain rfl:kV=.none:=Dflts.noKw hD;obtain⟨a,vs,ns,rfl,rfl,pG,rY,bD⟩:=ami hn uV Hd;refine enter_call (eF (call w s₀ s₁ mg mb fa o pm cd jD a vs ns G Y ho (fd_plain hd) oA vC pG rY bD hg) λr s' hq=>?_);obtain⟨rfl,h2,h3,h4⟩:=hq;exact⟨.inl ⟨.bool true,.bool true,[],rfl,λ_=>rfl,.bool true,alb l _,λ_=>⟨List.Pairwise.nil,λ_ hm=>(nomatch hm)⟩⟩,h2,h3,h4⟩
end Att
namespace L2
open PySem PySem.Spec PyProof.Rows
theorem ady:∀{vs:List aA} {ns:List Int},iM vs ns->Vals (ns.map V.int) vs
 | _,_,.nil=>.nil
 | _,_,.cons n t h=>.cons ⟨t,rfl⟩ (ady h)
def Jm(H:Hp):Prop:=∀b,H b=none\/∃o xs,H b=some (.frz o (.lst xs))
theorem an1{P:aI}{w:aK}{K:aj}{mg mb:Str->Option aA}{CX:CXT}{k:Nat}{fa a:aE}{fd:aP}{x:Str}{sp:Sp}{s₁:aB}{vs:List aA}{ns:List Int}
  (KX:K.In s₁.heap) (nX:s₁.heap.Ns aO mg) (hb:s₁.heap.Ns AU mb) (hbb:∀x:Str,x≠"__name__"->mb x=cI x) (HZ:s₁.heap.NoLimit) (hg:s₁.gens=#[])
  (ha:s₁.heap.get? a=some {cls:=.type "list",data:=.seq vs.toArray}) (hi:iM vs ns) (hl:ns.length<=aF) (hr:Room k jZ)
  (F:∀base:Heap,K.In base->base.Ns aO mg->qt P w K mg base CX k fa fd [x] sp) (C1:∀(s:aB)(u:aA),nJ s fd ⟨[u],[]⟩ [(x,u)])
  (nV:∀H:Hp,Jm H->SqL K H a (ns.map V.int)->sp [.ref a] H (λv _=>v=.bl true) λ_ _ _=>False)
  (II:∀H e s',CX [] H s₁ (λ_ _ _=>False) e s'->False) :
  cH (aH P w) jZ (.call (.ref fa) ⟨[.ref a],[]⟩) (λr s'=>r=.ok (.ret (.bool true))/\OldK s₁.heap s'.heap/\s'.os=s₁.os/\fV s'.gens) s₁:=by
 have rv:=ady hi;have GW:=hi.length;have Dk:∀H:Hp,Jm H->SqL K H a (ns.map V.int)->HOk P w H s₁.heap->(∀b,H b≠none->b=a)->(H a≠none->K.lookup a=none)->
   cH (aH P w) jZ (.call (.ref fa) ⟨[.ref a],[]⟩) (λr s'=>r=.ok (.ret (.bool true))/\OldK s₁.heap s'.heap/\s'.os=s₁.os/\fV s'.gens) s₁:=by
  intro H hO hS hok hA hK;have oH:∀{b:aE} {o:Obj},s₁.heap.get? b=some o->H b=none->(vR s₁.heap H).get? b=some o:=λe n=>ans e n;have BS:∀{b:aE} {o:Obj} {es:Array bP} {ep:Nat},s₁.heap.get? b=some o->o.data=.dict es ep->H b=none:=λ{b o es ep} e d=>by
   cases q:H b with
   | none=>rfl
   | some u=>
    have e':b=a:=hA b (by rw[q];simp);subst e';rw[ha]at e;cases e;have d':Data.seq vs.toArray _=Data.dict es ep:=d;cases d'
  have Em:∀{b:aE} {m:Str->Option aA},s₁.heap.Ns b m->(vR s₁.heap H).Ns b m:=λ{b m} ⟨o,es,ep,e,d,r⟩=>⟨o,es,ep,oH e (BS e d),d,r⟩;have hKb:K.In (vR s₁.heap H):=λb o e=>oH (KX b o e) (by
   cases q:H b with
   | none=>rfl
   | some u=>
    have e':b=a:=hA b (by rw[q];simp);subst e';rw[hK (by rw[q];simp)]at e;cases e)
  have hM:Mod K mg (vR s₁.heap H):=⟨hKb,Em nX,⟨mb,Em hb,hbb⟩,let ⟨mc,h1,h2⟩:=HZ;⟨mc,Em h1,h2⟩⟩;have e0:Env0 P w K mg (vR s₁.heap H) jZ [] s₁ H:=⟨rfl,hM,λb o e=>asj e,Nat.le_of_eq (ajm _ _),trivial,λb hb=>absurd (show b∈([]:List aE)from hb) (by simp),hok,.of_eq hg⟩;refine eF ((F _ hKb (Em nX)).run jZ [] s₁ H ⟨[.ref a],[]⟩ [.ref a] [.ref a] _ _ hr e0 (C1 s₁ (.ref a)) (.cons rfl .nil) (nV H hO hS)) λr s' h=>?_;cases r with
  | error e=>exact(II H e s' h).elim
  | ok fl=>
   cases fl with
   | next=>exact k6 h
   | brk=>exact k6 h
   | cont=>exact k6 h
   | ret u=>
    obtain⟨v,H',os,bare,un,HH,r',q⟩:=h;have q':v=.bl true:=q;subst q';obtain rfl:u=aA.bool true:=r';refine⟨rfl,OldK.of_keep λb o e=>?_,os,bare⟩;cases q:H b with
    | none=>exact un.keep b o e q (by intro z;exact absurd (show b∈([]:List aE)from z) (by simp)) (by simp)
    | some u=>
     rcases hO b with z|⟨ob,xs,z⟩
     .rw[q]at z;cases z
     .have z2:=un.frzs b ob _ z;obtain⟨e1,_⟩:=hok b _ z;obtain⟨e2,_⟩:=HH b _ z2;rw[e]at e1;cases e1;exact e2
 cases hk:K.lookup a with
 | some o=>
  have e:=KX a o hk;rw[ha]at e;cases e;refine Dk (λ_=>none) (λ_=>.inl rfl) (.inr ⟨_,vs.toArray,_,hk,rfl,rfl,rfl,by rw[a9,GW];exact hl,by simpa using rv⟩) (λb u z=>by have z':(none:Option HO)=some u:=z;cases z') (λb z=>absurd rfl z) λz=>absurd rfl z
 | none=>
  refine Dk (λb=>if b=a then some (.frz {cls:=.type "list",data:=.seq vs.toArray} (.lst (ns.map V.int)))else none) (λb=>?_) (.inl (.inr ⟨{cls:=.type "list",data:=.seq vs.toArray},if_pos rfl⟩)) (λb u z=>?_) (λb z=>?_) λ_=>hk
  .by_cases hb:b=a
   .exact .inr ⟨_,_,if_pos hb⟩
   .exact .inl (if_neg hb)
  .by_cases hb:b=a
   .have z':=(if_pos hb).symm.trans z;cases z';subst hb;exact⟨ha,by rw[ah];exact hl,vs,_,rv,ha⟩
   .have z':=(if_neg hb).symm.trans z;cases z'
  .by_cases hb:b=a
   .exact hb
   .exact absurd (if_neg hb) z
end L2
namespace L2
open PySem PySem.Spec PyProof.Rows
theorem walk_of{l:PySem.W.OpenLaw}{n k:Nat}{q:aI}{loose:List Str}{XP:(Str->Option aA)->Heap->Prop}{YP:aK->Heap->Prop}{d:DefRec}{K:Params->aj}{CX:aK->CXT}{sp:aK->Sp}{x:Str}
  (hn:l.most=some n) (lV:n<=aF) (CS:d.params.defaults=[]) (hr:Room k jZ)
  (hY:∀(w:aK)(h:Heap),YP w h->(K w.params).In h)
  (F:∀(w:aK)(mg:Str->Option aA)(fa:aE)(h:Heap),(K w.params).In h->h.Ns aO mg->mg d.name=some (.ref fa)->
   ∃fd:aP,(∀(s:aB)(u:aA),nJ s fd ⟨[u],[]⟩ [(x,u)])/\
    ∀base:Heap,(K w.params).In base->base.Ns aO mg->qt l.prog w (K w.params) mg base (CX w) k fa fd [x] (sp w))
  (nV:∀(w:aK)(H:Hp)(a:aE)(ns:List Int),ns.length<=n->Jm H->SqL (K w.params) H a (ns.map V.int)->sp w [.ref a] H (λv _=>v=.bl true) λ_ _ _=>False)
  (II:∀(w:aK)(H:Hp)(s:aB)(e:aA)(s':aB),CX w [] H s (λ_ _ _=>False) e s'->False) :
  PySem.W.WalkO q loose XP YP l.row.toRowW d [] (λf vs=>PySem.call f vs):=by
 refine Att.attach_call hn CS λw s₀ s₁ mg mb fa o pm cd jD a vs ns G Y ho hd oA vC pG rY bD hg=>?_;have KX:=hY w _ Y;obtain⟨fd,hb,hF⟩:=F w mg fa _ KX G.T.g vC;exact an1 KX G.T.g G.T.b G.T.builtins G.T.nolimit hg pG rY (dv bD lV) hr hF hb (λH hO hS=>nV w H a ns bD hO hS) λH e s'=>II w H s₁ e s'
end L2
namespace L2
open PySem PySem.Spec PyProof.Rows
noncomputable def vm(s:aW):Arguments:=match s with
 | .FunctionDef _ a _ _ _ _ _ _ _ _=>a
 | _=>{posonlyargs:=[],args:=[],vararg:=none,kwonlyargs:=[],kw_defaults:=[],kwarg:=none,defaults:=[]}
noncomputable def ur(s:aW):List aW:=match s with
 | .FunctionDef _ _ b _ _ _ _ _ _ _=>b
 | _=>[]
noncomputable def nh(s:aW):cK:=match s with
 | .FunctionDef _ _ _ _ _ _ sc _ _ _=>sc
 | _=>{kind:=.function,names:=[],isGenerator:=false,isCoroutine:=false}
noncomputable abbrev CX0:CXT:=λ_ _ _ _ _ _=>False
noncomputable abbrev E0:XK:=λ_ _ _=>False
theorem ava{X:Cx}:Dy CX0 X E0:=λ_ _ _ _ _ _ _ h=>h.elim
structure Fun(K:aj)(x qual:Str)(st:aW)(f:aE)(fd:aP):Prop where
 ex:∃(oc:aA)(od:Option aE)(kV jD pm:aA)(an:Option aE)(bN ct:aA) (uO:Array (Option aA)),
  fd=lh x qual (vm st) (ur st) (nh st) .none kV jD pm an bN ct/\K.lookup f=some ⟨oc,od,.func fd,uO⟩/\PySem.W.codeIn K bN qual=true
 kp:mh K (.ref f)=true
section
variable{P:aI}{w:aK}{K:aj}{mg:Str->Option aA}{base:Heap}
theorem Fun.ok{x qual:Str}{st:aW}{f:aE}{fd:aP}{N ps:List Str}{k:Nat}{sp:Sp}(F:Fun K x qual st f fd)(S:nu N ps (nh st))(len:∀vs H Q E,sp vs H Q E->vs.length=ps.length)
  (sD:∀(bN:aA)(A:Around)(outer:List oN)(s:aB)(H:Hp)(vs:List V)(Q:VK)(E:XK),Room k (A.deeper (jC qual (nh st) s.heap.objs.size f bN))->sp vs H Q E->
   ∃t,PSs (A8 CX0 P w K mg base N qual (nh st) f bN A outer s H E).nox (ur st) t/\t {nx:=λ_ H'=>Q .non H',rt:=Q} (xQ N vs) H):qt P w K mg base CX0 (k+1) f fd ps sp:=by
 obtain⟨oc,od,kV,jD,pm,an,bN,ct,uO,rfl,lk,oA⟩:=F.ex;refine aww lk oA S len λA outer s H vs Q E hr nV=>?_;obtain⟨t,h,q⟩:=sD bN A outer s H vs Q E hr nV;exact⟨t,h.nox,q⟩
theorem Fun.binds{x qual:Str}{st:aW}{f:aE}{fd:aP}{ps:List Str}(F:Fun K x qual st f fd)
  (h:∀(kV jD pm:aA)(an:Option aE)(bN ct:aA)(us:List aA),us.length=ps.length->bindArgs (lh x qual (vm st) (ur st) (nh st) .none kV jD pm an bN ct) ⟨us,[]⟩=aS (ps.zip us)):Binds K fd ps []:=by
 obtain⟨oc,od,kV,jD,pm,an,bN,ct,uO,rfl,lk,oA⟩:=F.ex;exact .all (h kV jD pm an bN ct)
theorem apr{x qual:Str}{st:aW}{f:aE}{oc:aA}{od an:Option aE}{uO:Array (Option aA)}{kV jD pm bN ct:aA}(l:K.lookup f=some ⟨oc,od,.func (lh x qual (vm st) (ur st) (nh st) .none kV jD pm an bN ct),uO⟩)
  (c:PySem.W.codeIn K bN qual=true) (k:mh K (.ref f)=true):Fun K x qual st f (lh x qual (vm st) (ur st) (nh st) .none kV jD pm an bN ct):=⟨⟨oc,od,kV,jD,pm,an,bN,ct,uO,rfl,l,c⟩,k⟩
end
theorem oe{n:Nat}(h:n<=1000):n<aF:=gd h (by decide)
section
variable{X:Cx}
theorem pv(i:Nat){x:Str}{pos:eA}(hN:X.N[i]?=some x:=by rfl)(hv:Vis X.env.scope x:=by first|exact Or.inl rfl|exact Or.inr (Or.inl rfl)|exact Or.inr (Or.inr rfl))(hd:(x==("__debug__" : Str))=false:=by decide)
  (oA:(x==("__classdict__" : Str))=false:=by decide):PE X (.Name x pos) (mC i):=aum hN hv hd oA
end
theorem jG{A B:Prop}(h:B):if false=true then A else B:=by rw[if_neg ai];exact h
theorem um{A B:Prop}(h:A):if true=true then A else B:=by rw[if_pos rfl];exact h
theorem u6{c A B:Prop}[Decidable c](h1:c->A)(h2:¬c->B):if c then A else B:=by
 by_cases h:c
 .rw[if_pos h];exact h1 h
 .rw[if_neg h];exact h2 h
def Same(H H':Hp):Prop:=∀b o,H b=some o->H' b=some o
theorem Same.refl(H:Hp):Same H H:=λ_ _ h=>h
theorem Same.trans{H H1 H2:Hp}(a:Same H H1)(b:Same H1 H2):Same H H2:=λc o h=>b c o (a c o h)
theorem Same.free{H H':Hp}(e:Same H H'){l:aE}(h:H' l=Option.none):H l=Option.none:=by
 cases q:H l with
 | none=>rfl
 | some o=>
  rw[e l o q]at h;cases h
end L2
namespace L3
theorem hid{G:Prop}(h:∀C:Prop,(G->C)->C):G:=h G id
end L3
namespace L3
open PySem PyProof.Rows
noncomputable def DV:Bool->aJ->Array aJ->Nat->Nat->Nat->StateT aN pR (Option Nat):=sortPriv% PySem.Builtin.gallop
noncomputable def FM(left:Bool)(key:aJ)(arr:Array aJ)(base i:Nat):StateT aN pR (Option Bool):=do
 let x <-iX arr (base+i)
 if left then lt' x key else return (<-lt' key x).map (!·)
theorem oo{M:Model}{A:Around}{E:aA->aB->Prop}{s:aB}{σ α:Type}{c:Prop}[Decidable c]{t e:StateT σ pR α}{Q:α->σ->Prop}{st:σ}(a:c->iN M A E s t Q st)(b:¬c->iN M A E s e Q st):iN M A E s (if c then t else e) Q st:=by
 by_cases h:c
 .rw[if_pos h];exact a h
 .rw[if_neg h];exact b h
section
variable{prog:aI}{w:aK}{A:Around}{E:aA->aB->Prop}{s:aB}
def lP(prog:aI)(w:aK)(A:Around)(s:aB)(κ:aY)(mem:aJ->Prop)(lt:aJ->aJ->Bool):Prop:=
 ∀x y,mem x->mem y->∀(Q:Bool->aB->Prop),Q (lt x y) s->aG (aH prog w) A (nS κ x.1 y.1) Q (λ_ _=>False) s
variable{κ:aY}{mem:aJ->Prop}{lt:aJ->aJ->Bool}
theorem Dz(C:lP prog w A s κ mem lt){st:aN}(hk:kindOf st=κ){x y:aJ}(hx:mem x)(hy:mem y){Q:Option Bool->aN->Prop}(h:Q (some (lt x y)) st):iN (aH prog w) A E s (lt' x y) Q st:=by rw[lt'_eq];refine bj (dL ?_);rw[hk];refine bj (gP (jr (jj (C x y hx hy (λb s'=>s'=s/\b=lt x y) ⟨rfl,rfl⟩) (λb s' hb=>⟨hb.1,?_⟩) λ_ _ z=>z.elim)));rw[hb.2];exact bx h
theorem aih(C:lP prog w A s κ mem lt){st:aN}(hk:kindOf st=κ){left:Bool}{key:aJ}{arr:Array aJ}{base i:Nat}{x:aJ}(hx:arr[base+i]?=some x)(hm:mem x)(hy:mem key){Q:Option Bool->aN->Prop}(h:Q (some (if left=true then lt x key else !lt key x)) st) :
  iN (aH prog w) A E s (FM left key arr base i) Q st:=by
 unfold FM;rw[elem'_eq,hx];refine bj (bx ?_);cases left with
 | true=>exact Dz C hk hm hy h
 | false=>exact bj (Dz C hk hy hm (bx h))
theorem ab7(C:lP prog w A s κ mem lt){st:aN}(hk:kindOf st=κ){left:Bool}{key:aJ}{arr:Array aJ}{base n hint:Nat}(eX:mem key)
  (IC:∀i,i<n->∃x,arr[base+i]?=some x/\mem x) (hh:hint<n) (B:Nat->Bool) (hB:∀i x,i<n->arr[base+i]?=some x->B i=(if left=true then lt x key else !lt key x))
  (mono:∀i j,i<=j->j<n->B j=true->B i=true) {Q:Option Nat->aN->Prop} (h:∀k,k<=n->(∀i,i<k->B i=true)->(∀i,k<=i->i<n->B i=false)->Q (some k) st) :
  iN (aH prog w) A E s (DV left key arr base n hint) Q st:=by
 have ask:∀(i:Nat)(Q:Option Bool->aN->Prop),i<n->Q (some (B i)) st->iN (aH prog w) A E s (FM left key arr base i) Q st:=λi Q hi q=>by obtain⟨x,hx,hm⟩:=IC i hi;rw[hB i x hi hx]at q;exact aih C hk hx hm eX q
 have fin:∀(lo hi:Nat) ,lo<=hi->hi<=n->(∀i,i<lo->B i=true)->(∀i,hi<=i->i<n->B i=false)->
   iN (aH prog w) A E s (do
    let mut l:=lo
    let mut r:=hi
    for _ in [0:n] do
     if l>=r then break
     let GR:=l+(r-l)/2
     let some up <-FM left key arr base GR|return none
     if up then l:=GR+1 else r:=GR
    return some r) Q st:=by
  intro lo hi h1 h2 h3 h4;refine bj (jg (gw (I:=λx c aQ=>aQ=st/\∃l r,c=(none,l,r)/\l<=r/\r<=n/\r-l<=n-x/\(∀i,i<l->B i=true)/\(∀i,r<=i->i<n->B i=false))
   (Q:=λc aQ=>aQ=st/\∃l r,c=(none,l,r)/\l=r/\r<=n/\(∀i,i<l->B i=true)/\(∀i,r<=i->i<n->B i=false)) ?step ?fin ?init) ?post)
  case init=>exact⟨rfl,(nq lo hi ⟨rfl,h1,h2,by omega,h3,h4⟩)⟩
  case fin=>
   intro c aQ bQ;refine hid λCg bR=>?_;obtain⟨rfl,l,r,rfl,a1,a2,a3,a4,a5⟩:=bQ;refine bR ?_;exact⟨rfl,(nq l r ⟨rfl,by omega,a2,a4,a5⟩)⟩
  case post=>
   intro c aQ bQ;refine hid λCg bR=>?_;obtain⟨rfl,l,r,rfl,rfl,a2,a4,a5⟩:=bQ;refine bR ?_;exact bx (h l a2 a4 a5)
  case step=>
   intro x c aQ _ hx bQ;refine hid λCg bR=>?_;obtain⟨rfl,l,r,rfl,a1,a2,a3,a4,a5⟩:=bQ;refine bR ?_;dsimp only;by_cases kJ:l>=r
   .rw[if_pos kJ];exact bx ⟨rfl,(nq l r ⟨rfl,by omega,a2,a4,a5⟩)⟩
   .rw[if_neg kJ];refine bj (ask _ _ (by omega) ?_);cases hb:B (l+(r-l)/2)with
    | true=>exact bx ⟨rfl,(nq (l+(r-l)/2+1) r ⟨rfl,by omega,a2,by omega,λi hi=>mono _ _ (show i<=l+(r-l)/2 by omega) (by omega) hb,a5⟩)⟩
    | false=>
     refine bx ⟨rfl,(nq l (l+(r-l)/2) ⟨rfl,by omega,by omega,by omega,a4,λi hi hn=>?_⟩)⟩;cases AG:B i with
     | false=>rfl
     | true=>rw[mono _ _ hi hn AG]at hb;cases hb
 refine bj (ask hint _ hh ?_);cases pM:B hint with
 | true=>
  dsimp only;simp only[if_true];refine bj (jg (gw (I:=λx c aQ=>aQ=st/\∃lo dY,c=(none,lo,dY)/\x+1<=dY/\lo<dY/\hint+lo<n/\B (hint+lo)=true)
   (Q:=λc aQ=>aQ=st/\∃lo dY,c=(none,lo,dY)/\lo<dY/\hint+lo<n/\B (hint+lo)=true/\(n-hint<=dY\/(dY<n-hint/\B (hint+dY)=false))) ?step ?fin ?init) ?post)
  case init=>exact⟨rfl,(nq 0 1 ⟨rfl,by omega,by omega,by omega,pM⟩)⟩
  case fin=>
   intro c aQ bQ;refine hid λCg bR=>?_;obtain⟨rfl,lo,dY,rfl,a1,a2,a3,a4⟩:=bQ;refine bR ?_;exact⟨rfl,(nq lo dY ⟨rfl,a2,a3,a4,.inl (by omega)⟩)⟩
  case step=>
   intro x c aQ _ hx bQ;refine hid λCg bR=>?_;obtain⟨rfl,lo,dY,rfl,a1,a2,a3,a4⟩:=bQ;refine bR ?_;dsimp only;by_cases kJ:dY>=n-hint
   .rw[if_pos kJ];exact bx ⟨rfl,(nq lo dY ⟨rfl,a2,a3,a4,.inl kJ⟩)⟩
   .rw[if_neg kJ];refine bj (ask _ _ (by omega) ?_);cases hb:B (hint+dY)with
    | false=>exact bx ⟨rfl,(nq lo dY ⟨rfl,a2,a3,a4,.inr ⟨by omega,hb⟩⟩)⟩
    | true=>exact bx ⟨rfl,(nq dY (2*dY+1) ⟨rfl,by omega,by omega,by omega,hb⟩)⟩
  case post=>
   intro c aQ bQ;refine hid λCg bR=>?_;obtain⟨rfl,lo,dY,rfl,a2,a3,a4,a5⟩:=bQ;refine bR ?_;dsimp only;refine fin _ _ ?_ ?_ (λi hi=>mono _ _ (show i<=hint+lo by omega) a3 a4) λi hi hn=>?_
   .omega
   .omega
   .rcases a5 with h5|⟨h5,h6⟩
    .omega
    .cases AG:B i with
     | false=>rfl
     | true=>rw[mono _ _ (show hint+dY<=i by omega) hn AG]at h6;cases h6
 | false=>
  dsimp only;simp only[bi,if_false];refine bj (jg (gw (I:=λx c aQ=>aQ=st/\∃lo dY,c=(none,lo,dY)/\x+1<=dY/\lo<dY/\lo<=hint/\B (hint-lo)=false)
   (Q:=λc aQ=>aQ=st/\∃lo dY,c=(none,lo,dY)/\lo<dY/\lo<=hint/\B (hint-lo)=false/\(hint+1<=dY\/(dY<hint+1/\B (hint-dY)=true))) ?step ?fin ?init) ?post)
  case init=>exact⟨rfl,(nq 0 1 ⟨rfl,by omega,by omega,by omega,pM⟩)⟩
  case fin=>
   intro c aQ bQ;refine hid λCg bR=>?_;obtain⟨rfl,lo,dY,rfl,a1,a2,a3,a4⟩:=bQ;refine bR ?_;exact⟨rfl,(nq lo dY ⟨rfl,a2,a3,a4,.inl (by omega)⟩)⟩
  case step=>
   intro x c aQ _ hx bQ;refine hid λCg bR=>?_;obtain⟨rfl,lo,dY,rfl,a1,a2,a3,a4⟩:=bQ;refine bR ?_;dsimp only;by_cases kJ:dY>=hint+1
   .rw[if_pos kJ];exact bx ⟨rfl,(nq lo dY ⟨rfl,a2,a3,a4,.inl kJ⟩)⟩
   .rw[if_neg kJ];refine bj (ask _ _ (by omega) ?_);cases hb:B (hint-dY)with
    | true=>exact bx ⟨rfl,(nq lo dY ⟨rfl,a2,a3,a4,.inr ⟨by omega,hb⟩⟩)⟩
    | false=>exact bx ⟨rfl,(nq dY (2*dY+1) ⟨rfl,by omega,by omega,by omega,hb⟩)⟩
  case post=>
   intro c aQ bQ;refine hid λCg bR=>?_;obtain⟨rfl,lo,dY,rfl,a2,a3,a4,a5⟩:=bQ;refine bR ?_;dsimp only;refine fin _ _ ?_ ?_ (λi hi=>?_) λi hi hn=>?_
   .omega
   .omega
   .rcases a5 with h5|⟨h5,h6⟩
    .omega
    .exact mono _ _ (show i<=hint-dY by omega) (by omega) h6
   .cases AG:B i with
    | false=>rfl
    | true=>rw[mono _ _ (show hint-lo<=i by omega) hn AG]at a4;cases a4
end
structure nF(lt:aJ->aJ->Bool):Prop where
 asy:∀x y,lt x y=true->lt y x=false
 tr:∀x y z,lt y x=false->lt z y=false->lt z x=false
def Srt(lt:aJ->aJ->Bool)(l:List aJ):Prop:=l.Pairwise λx y=>lt y x=false
structure Mid(lt:aJ->aJ->Bool)(la lb out:List aJ)(ia ib:Nat):Prop where
 perm:out.Perm (la.take ia++lb.take ib)
 srt:Srt lt out
 leA:∀x∈out,∀y∈la.drop ia,lt y x=false
 leB:∀x∈out,∀y∈lb.drop ib,lt y x=false
section
variable{lt:aJ->aJ->Bool}{la lb out:List aJ}{ia ib:Nat}
theorem ae6{l:List aJ}{i k:Nat}:l.take (i+k)=l.take i++(l.drop i).take k:=by rw[List.take_add]
theorem Mid.pushA(m:Mid lt la lb out ia ib)(hA:Srt lt la)(k:Nat)(h:∀x∈(la.drop ia).take k,∀y∈lb.drop ib,lt y x=false):Mid lt la lb (out++(la.drop ia).take k) (ia+k) ib:=by
 have hd:Srt lt (la.drop ia):=gy (List.drop_sublist _ _) hA;have hs:(la.drop ia).take k++la.drop (ia+k)=la.drop ia:=by rw[<-List.drop_drop];exact ff k _
 have hZ:=hd;unfold Srt at hZ;rw[<-hs,fj]at hZ;refine⟨?_,?_,λx hx y hy=>?_,λx hx y hy=>?_⟩
 .rw[ae6];refine((m.perm.append_right _).trans ?_);rw[bz,bz];exact iy _ List.perm_append_comm
 .exact fj.mpr ⟨m.srt,hZ.1,λx hx y hy=>m.leA x hx y (gt hy)⟩
 .rcases ay.mp hx with h1|h1
  .exact m.leA x h1 y (by rw[<-hs];exact cw _ hy)
  .exact hZ.2.2 x h1 y hy
 .rcases ay.mp hx with h1|h1
  .exact m.leB x h1 y hy
  .exact h x h1 y hy
theorem Mid.pushB(m:Mid lt la lb out ia ib)(hB:Srt lt lb)(k:Nat)(h:∀x∈(lb.drop ib).take k,∀y∈la.drop ia,lt y x=false):Mid lt la lb (out++(lb.drop ib).take k) ia (ib+k):=by
 have hd:Srt lt (lb.drop ib):=gy (List.drop_sublist _ _) hB;have hs:(lb.drop ib).take k++lb.drop (ib+k)=lb.drop ib:=by rw[<-List.drop_drop];exact ff k _
 have hZ:=hd;unfold Srt at hZ;rw[<-hs,fj]at hZ;refine⟨?_,?_,λx hx y hy=>?_,λx hx y hy=>?_⟩
 .rw[ae6,<-bz];exact m.perm.append_right _
 .exact fj.mpr ⟨m.srt,hZ.1,λx hx y hy=>m.leB x hx y (gt hy)⟩
 .rcases ay.mp hx with h1|h1
  .exact m.leA x h1 y hy
  .exact h x h1 y hy
 .rcases ay.mp hx with h1|h1
  .exact m.leB x h1 y (by rw[<-hs];exact cw _ hy)
  .exact hZ.2.2 x h1 y hy
def qi(lt:aJ->aJ->Bool)(la lb out:List aJ):Prop:=out.Perm (la++lb)/\Srt lt out
theorem Mid.endB(m:Mid lt la lb out ia ib)(hA:Srt lt la)(h:lb.length<=ib):qi lt la lb (out++la.drop ia):=by have hd:Srt lt (la.drop ia):=gy (List.drop_sublist _ _) hA;refine⟨?_,fj.mpr ⟨m.srt,hd,m.leA⟩⟩;have e:lb.take ib=lb:=av h;have p:=m.perm.append_right (la.drop ia);rw[e,bz]at p;refine p.trans ((iy _ List.perm_append_comm).trans ?_);rw[<-bz,ff]
theorem Mid.endA(m:Mid lt la lb out ia ib)(hB:Srt lt lb)(h:la.length<=ia):qi lt la lb (out++lb.drop ib):=by have hd:Srt lt (lb.drop ib):=gy (List.drop_sublist _ _) hB;refine⟨?_,fj.mpr ⟨m.srt,hd,m.leB⟩⟩;have e:la.take ia=la:=av h;have p:=m.perm.append_right (lb.drop ib);rw[e,bz,ff]at p;exact p
theorem Mid.lastA(m:Mid lt la lb out ia ib)(o:nF lt)(hA:Srt lt la)(hB:Srt lt lb)(h:ia+1=la.length)(hl:∀y∈lb,∀x∈la.drop ia,lt y x=true):qi lt la lb (out++lb.drop ib++la.drop ia):=by have m2:=m.pushB hB (lb.length-ib) λx hx y hy=>o.asy _ _ (hl x (List.mem_of_mem_drop (gt hx)) y hy);have e:(lb.drop ib).take (lb.length-ib)=lb.drop ib:=av (by rw[g9];exact aq _);rw[e]at m2;exact m2.endB hA (by lia)
end
noncomputable def ada:Nat->StateT aN pR Unit:=sortPriv% PySem.Builtin.setMinGallop
noncomputable abbrev vd(st:aN)(g:Nat):aN:=aN.mk' (kindOf st) (aL st) (aM st) g (bL st)
noncomputable def aod:Array aJ->Array aJ->StateT aN pR (Array aJ):=sortPriv% PySem.Builtin.mergeLo
def SameG(st aQ:aN):Prop:=kindOf aQ=kindOf st/\aL aQ=aL st/\aM aQ=aM st/\bL aQ=bL st
theorem SameG.refl(st:aN):SameG st st:=⟨rfl,rfl,rfl,rfl⟩
theorem SameG.gal{st aQ:aN}(h:SameG st aQ)(g:Nat):SameG st (vd aQ g):=h
section
variable{prog:aI}{w:aK}{A:Around}{E:aA->aB->Prop}{s:aB}
variable{κ:aY}{mem:aJ->Prop}{lt:aJ->aJ->Bool}
structure Two(mem:aJ->Prop)(lt:aJ->aJ->Bool)(a b:Array aJ):Prop where
 mA:∀x∈a.toList,mem x
 mB:∀x∈b.toList,mem x
 sA:Srt lt a.toList
 sB:Srt lt b.toList
 pA:0<a.size
 pB:0<b.size
 first:∀x y,b[0]?=some x->a[0]?=some y->lt x y=true
 last:∀y∈b.toList,∀x,a[a.size-1]?=some x->lt y x=true
theorem Bp{st:aN}{g:Nat}{Q:Unit->aN->Prop}(q:Q () (vd st g)):iN (aH prog w) A E s (ada g) Q st:=
 show iN (aH prog w) A E s (modify λz=>vd z g) Q st from bZ q
theorem p7{arr:Array aJ}{i:Nat}{x:aJ}(h:arr[i]?=some x){st:aN}{Q:aJ->aN->Prop}(q:Q x st):iN (aH prog w) A E s (iX arr i) Q st:=by rw[elem'_eq,h];exact bx q
theorem uk{arr:Array aJ}{i:Nat}{x:aJ}(h:arr[i]?=some x):arr.toList.drop i=x::arr.toList.drop (i+1):=by obtain⟨hi,e⟩:=bp.mp h;have:=List.drop_eq_getElem_cons (l:=arr.toList) (i:=i) (by simpa using hi);rw[this];simp[e]
theorem zp{l:List aJ}{x:aJ}{r:List aJ}(o:nF lt)(hs:Srt lt l)(e:l=x::r):∀z∈l,lt z x=false:=by
 subst e;intro z hz;rcases bb.mp hz with h|h
 .rw[h];cases q:lt x x with
  | false=>rfl
  | true=>have:=o.asy _ _ q;rw[q]at this;cases this
 .exact(ij.mp hs).1 z h
theorem F9{l:List aJ}(hs:Srt lt l)(i:Nat):Srt lt (l.drop i):=gy (List.drop_sublist _ _) hs
theorem wt{arr:Array aJ}(o:nF lt)(hs:Srt lt arr.toList){i j:Nat}{x y:aJ}(cW:i<=j)(hx:arr[i]?=some x)(hy:arr[j]?=some y):lt y x=false:=by
 have e:=uk hx;have hm:y∈arr.toList.drop i:=by rw[cx];exact⟨j-i,by rw[gm,show i+(j-i)=j by lia];simpa using hy⟩
 exact zp o (F9 hs i) e y hm
def qI(lt:aJ->aJ->Bool)(a b out:Array aJ)(ia ib:Nat):Prop:=Mid lt a.toList b.toList out.toList ia ib/\ia+1<a.size/\ib<b.size
theorem Kp{a b out:Array aJ}{ia ib:Nat}{x:aJ}(o:nF lt)(T:Two mem lt a b)(m:Mid lt a.toList b.toList out.toList ia ib)(hx:b[ib]?=some x)(h:∀z∈a.toList.drop ia,lt z x=false) :
  Mid lt a.toList b.toList (out.push x).toList ia (ib+1):=by
 have m2:=m.pushB T.sB 1 λu hu y hy=>by
  rw[uk hx]at hu;have:u=x:=by simpa using hu
  rw[this];exact h y hy
 rw[uk hx]at m2;simpa using m2
theorem avy{a b out:Array aJ}{ia ib:Nat}{y:aJ}(o:nF lt)(T:Two mem lt a b)(m:Mid lt a.toList b.toList out.toList ia ib)(hy:a[ia]?=some y)(h:∀z∈b.toList.drop ib,lt z y=false) :
  Mid lt a.toList b.toList (out.push y).toList (ia+1) ib:=by
 have m2:=m.pushA T.sA 1 λu hu z hz=>by
  rw[uk hy]at hu;have:u=y:=by simpa using hu
  rw[this];exact h z hz
 rw[uk hy]at m2;simpa using m2
theorem FN{arr:Array aJ}(o:nF lt)(hs:Srt lt arr.toList){i:Nat}{x y:aJ}(hx:arr[i]?=some x)(h:lt x y=false):∀z∈arr.toList.drop i,lt z y=false:=λz hz=>
 o.tr y x z h (zp o (F9 hs i) (uk hx) z hz)
theorem Fc{a b out:Array aJ}{ia ib:Nat}(T:Two mem lt a b)(m:Mid lt a.toList b.toList out.toList ia ib)(h:ib=b.size):qi lt a.toList b.toList (out++a.extract ia a.size++b.extract ib b.size).toList:=by have:=m.endB T.sA (by simp[h]);have e:List.take (a.size-ia) (a.toList.drop ia)=a.toList.drop ia:=av (by simp);simpa [h,e]using this
theorem atr{a b out:Array aJ}{ia ib:Nat}(T:Two mem lt a b)(m:Mid lt a.toList b.toList out.toList ia ib)(h:ia=a.size):qi lt a.toList b.toList (out++a.extract ia a.size++b.extract ib b.size).toList:=by have:=m.endA T.sB (by simp[h]);have e:List.take (b.size-ib) (b.toList.drop ib)=b.toList.drop ib:=av (by simp);simpa [h,e]using this
theorem Dt{a b out:Array aJ}{ia ib:Nat}(o:nF lt)(T:Two mem lt a b)(m:Mid lt a.toList b.toList out.toList ia ib)(h:ia+1=a.size):qi lt a.toList b.toList (out++b.extract ib b.size++a.extract ia a.size).toList:=by
 have:=m.lastA o T.sA T.sB (by simpa using h) λy hy x hx=>by
  have hl:a[ia]?=some (a[ia]'(by lia)):=by simp
  rw[uk hl,List.drop_eq_nil_of_le (by simp;lia)]at hx;have e:x=a[ia]'(by lia):=by simpa using hx
  refine T.last y hy x ?_;rw[e,show a.size-1=ia by lia];exact hl
 have e:List.take (a.size-ia) (a.toList.drop ia)=a.toList.drop ia:=av (by simp);have e2:List.take (b.size-ib) (b.toList.drop ib)=b.toList.drop ib:=av (by simp);simpa [e,e2]using this
theorem xi{arr:Array aJ}{P:aJ->Prop}{base k:Nat}(h:∀i z,i<k->arr[base+i]?=some z->P z):∀z∈(arr.toList.drop base).take k,P z:=λz hz=>by
 obtain⟨i,hi⟩:=cx.mp hz;have vH:i<k:=by have:=(ae.mp hi).1;rw[b8]at this;lia
 rw[fw vH,gm]at hi;exact h i z vH (by simpa using hi)
theorem adz{arr:Array aJ}{P:aJ->Prop}{base k:Nat}(h:∀i z,k<=i->arr[base+i]?=some z->P z):∀z∈arr.toList.drop (base+k),P z:=λz hz=>by obtain⟨i,hi⟩:=cx.mp hz;rw[gm]at hi;exact h (k+i) z (by lia) (by rw[<-j5];simpa using hi)
theorem wy(C:lP prog w A s κ mem lt)(o:nF lt){st:aN}(hk:kindOf st=κ){key:aJ}{arr:Array aJ}{base n hint:Nat}(eX:mem key)(hn:base+n<=arr.size)(hm:∀i z,i<n->arr[base+i]?=some z->mem z)(hh:hint<n)
  (hs:∀i j y z,i<=j->j<n->arr[base+i]?=some y->arr[base+j]?=some z->lt z y=false) {Q:Option Nat->aN->Prop}
  (h:∀k,k<=n->(∀i z,i<k->arr[base+i]?=some z->lt key z=false)->(∀i z,k<=i->i<n->arr[base+i]?=some z->lt key z=true)->Q (some k) st):iN (aH prog w) A E s (DV false key arr base n hint) Q st:=by
 have ex:∀i,i<n->∃z,arr[base+i]?=some z:=λi hi=>⟨arr[base+i]'(by lia),by simp⟩;refine ab7 C hk eX (λi hi=>?_) hh (λi=>match arr[base+i]? with|some z=>!lt key z|none=>false) (λi z hi hz=>by simp[hz]) (λi j cW hj hb=>?_) λk dG h1 h2=>h k dG (λi z hi hz=>?_) λi z hi fS hz=>?_
 .obtain⟨z,hz⟩:=ex i hi;exact⟨z,hz,hm i z hi hz⟩
 .obtain⟨y,hy⟩:=ex i (by lia);obtain⟨z,hz⟩:=ex j hj;simp only[hz,hy,Bool.not_eq_true']at hb⊢;exact o.tr _ _ _ (hs i j y z cW hj hy hz) hb
 .have:=h1 i hi;simpa [hz]using this
 .have:=h2 i hi fS;simpa [hz]using this
theorem Lr(C:lP prog w A s κ mem lt)(o:nF lt){st:aN}(hk:kindOf st=κ){key:aJ}{arr:Array aJ}{base n hint:Nat}(eX:mem key)(hn:base+n<=arr.size)(hm:∀i z,i<n->arr[base+i]?=some z->mem z)(hh:hint<n)
  (hs:∀i j y z,i<=j->j<n->arr[base+i]?=some y->arr[base+j]?=some z->lt z y=false) {Q:Option Nat->aN->Prop}
  (h:∀k,k<=n->(∀i z,i<k->arr[base+i]?=some z->lt z key=true)->(∀i z,k<=i->i<n->arr[base+i]?=some z->lt z key=false)->Q (some k) st):iN (aH prog w) A E s (DV true key arr base n hint) Q st:=by
 have ex:∀i,i<n->∃z,arr[base+i]?=some z:=λi hi=>⟨arr[base+i]'(by lia),by simp⟩;refine ab7 C hk eX (λi hi=>?_) hh (λi=>match arr[base+i]? with|some z=>lt z key|none=>false) (λi z hi hz=>by simp[hz]) (λi j cW hj hb=>?_) λk dG h1 h2=>h k dG (λi z hi hz=>?_) λi z hi fS hz=>?_
 .obtain⟨z,hz⟩:=ex i hi;exact⟨z,hz,hm i z hi hz⟩
 .obtain⟨y,hy⟩:=ex i (by lia);obtain⟨z,hz⟩:=ex j hj;simp only[hz,hy]at hb⊢;cases q:lt y key with
  | true=>rfl
  | false=>rw[o.tr _ _ _ q (hs i j y z cW hj hy hz)]at hb;cases hb
 .have:=h1 i hi;simpa [hz]using this
 .have:=h2 i hi fS;simpa [hz]using this
theorem age(C:lP prog w A s κ mem lt)(o:nF lt){st:aN}(hk:kindOf st=κ){a b:Array aJ}(T:Two mem lt a b){Q:Array aJ->aN->Prop}
  (h:∀out aQ,SameG st aQ->qi lt a.toList b.toList out.toList->Q out aQ):iN (aH prog w) A E s (aod a b) Q st:=by
 refine bj (gP (k8 ⟨rfl,?_⟩));have pM:b[0]?=some (b[0]'T.pB):=by simp[T.pB]
 have zH:a[0]?=some (a[0]'T.pA):=by simp[T.pA]
 refine bj (p7 pM ?_);have m0:Mid lt a.toList b.toList (#[]:Array aJ).toList 0 0:=⟨by simp,List.Pairwise.nil,by simp,by simp⟩;have m1:=Kp o T m0 pM λz hz=>o.tr _ _ _ (o.asy _ _ (T.first _ _ pM zH)) (zp o (F9 T.sA 0) (uk zH) z hz);dsimp only;refine oo (λ(vK:(1==b.size)=true)=>?_) (λ(vK:¬(1==b.size)=true)=>?_)
 .exact bx (h _ _ (SameG.refl _) (Fc T m1 (by simpa using vK)))
 refine oo (λ(vN:(0+1==a.size)=true)=>?_) (λ(vN:¬(0+1==a.size)=true)=>?_)
 .exact bx (h _ _ (SameG.refl _) (Dt o T m1 (by simpa using vN)))
 have hb2:1<b.size:=by have:¬1=b.size:=by simpa using vK
                       have:=T.pB;lia
 have vM:0+1<a.size:=by have:¬0+1=a.size:=by simpa using vN
                        have:=T.pA;lia
 refine bj (dL ?_);refine bj (jg (gw (I:=λx c aQ=>SameG st aQ/\∃out ia ib mg,c=(none,out,ia,ib,mg)/\qI lt a b out ia ib/\x+1<=ia+ib)
  (Q:=λc aQ=>SameG st aQ/\∃res r,c=(some res,r)/\qi lt a.toList b.toList res.toList) ?step ?fin ?init) ?post)
 case init=>exact⟨SameG.refl _,(nw _ _ _ _ ⟨rfl,⟨m1,vM,hb2⟩,aq _⟩)⟩
 case fin=>
  intro c aQ bQ;refine hid λCg bR=>?_;obtain⟨_,out,ia,ib,mg,rfl,⟨_,h1,h2⟩,h3⟩:=bQ;refine bR ?_;lia
 case post=>
  intro c aQ bQ;refine hid λCg bR=>?_;obtain⟨sg,res,r,rfl,hm⟩:=bQ;refine bR ?_;exact bx (h _ _ sg hm)
 case step=>
  intro x c aQ _ hx bQ;refine hid λCg bR=>?_;obtain⟨sg,out,ia,ib,mg,rfl,L,hp⟩:=bQ;refine bR ?_;dsimp only;refine bj (jg (gw (I:=λy c aQ=>SameG st aQ/\∃cV gY gX ac bc,c=(none,cV,gY,gX,ac,bc)/\qI lt a b cV gY gX/\ia+ib<=gY+gX)
   (Q:=λc aQ=>SameG st aQ/\((∃res r,c=(some res,r)/\qi lt a.toList b.toList res.toList)\/∃cV gY gX ac bc,c=(none,cV,gY,gX,ac,bc)/\qI lt a b cV gY gX/\ia+ib<=gY+gX)) ?istep ?ifin ?iinit) ?ipost)
  case iinit=>exact⟨sg,(my _ _ _ _ _ ⟨rfl,L,aq _⟩)⟩
  case ifin=>
   rintro c eR ⟨iE,aZ⟩;exact⟨iE,.inr aZ⟩
  case istep=>
   intro y c eR _ hy bQ;refine hid λCg bR=>?_;obtain⟨iE,cV,gY,gX,ac,bc,rfl,⟨m,l1,l2⟩,wR⟩:=bQ;refine bR ?_;dsimp only;have gL:b[gX]?=some (b[gX]'l2):=by simp[l2]
   have gH:a[gY]?=some (a[gY]'(by lia)):=by simp
   refine bj (p7 gL (bj (p7 gH (bj (Dz C (iE.1.trans hk) (T.mB _ (by simp)) (T.mA _ (by simp)) ?_)))));cases hl:lt b[gX] a[gY]with
   | true=>
    dsimp only;simp only[if_true];refine bj (p7 gL ?_);have m2:=Kp o T m gL (FN o T.sA gH (o.asy _ _ hl));try dsimp only
    refine oo (λ(he:(gX+1==b.size)=true)=>?_) (λ(he:¬(gX+1==b.size)=true)=>?_)
    .exact bx ⟨iE,.inl (nq _ _ ⟨rfl,Fc T m2 (by simpa using he)⟩)⟩
    .have iJ:¬gX+1=b.size:=by simpa using he
     have L2:qI lt a b (cV.push b[gX]) gY (gX+1):=⟨m2,l1,by lia⟩;split
     .exact bx ⟨iE,.inr (my _ _ _ _ _ ⟨rfl,L2,by lia⟩)⟩
     .exact bx ⟨iE,(my _ _ _ _ _ ⟨rfl,L2,by lia⟩)⟩
   | false=>
    dsimp only;simp only[bi,if_false];refine bj (p7 gH ?_);have m2:=avy o T m gH (FN o T.sB gL hl);try dsimp only
    refine oo (λ(he:(gY+1+1==a.size)=true)=>?_) (λ(he:¬(gY+1+1==a.size)=true)=>?_)
    .exact bx ⟨iE,.inl (nq _ _ ⟨rfl,Dt o T m2 (by simpa using he)⟩)⟩
    .have iJ:¬gY+1+1=a.size:=by simpa using he
     have L2:qI lt a b (cV.push a[gY]) (gY+1) gX:=⟨m2,by lia,l2⟩;split
     .exact bx ⟨iE,.inr (my _ _ _ _ _ ⟨rfl,L2,by lia⟩)⟩
     .exact bx ⟨iE,(my _ _ _ _ _ ⟨rfl,L2,by lia⟩)⟩
  case ipost=>
   intro c eR bQ;refine hid λCg bR=>?_
   (rcases bQ with ⟨iE,(⟨res,r,rfl,hm⟩|⟨cV,gY,gX,ac,bc,rfl,L2,rN⟩)⟩)<;>refine bR ?_
   .dsimp only;exact bx ⟨iE,(nq _ _ ⟨rfl,hm⟩)⟩
   .dsimp only;refine bj (gP (k8 ⟨rfl,?_⟩));refine bj (jg (gw (I:=λy c aQ=>SameG st aQ/\∃bC cE bJ dF ac bc,c=(none,bC,cE,bJ,dF,ac,bc)/\qI lt a b bC cE bJ/\gY+gX+y<=cE+bJ)
     (Q:=λc aQ=>SameG st aQ/\((∃res r,c=(some res,r)/\qi lt a.toList b.toList res.toList)\/∃bC cE bJ dF ac bc,c=(none,bC,cE,bJ,dF,ac,bc)/\qI lt a b bC cE bJ/\gY+gX+1<=cE+bJ)) ?jstep ?jfin ?jinit) ?jpost)
    case jinit=>exact⟨iE,(my _ _ _ _ _ ⟨_,rfl,L2,aq _⟩)⟩
    case jfin=>
     intro c fJ bQ;refine hid λCg bR=>?_;obtain⟨kA,bC,cE,bJ,dF,DO,vQ,rfl,L3,qA⟩:=bQ;refine bR ?_;exact⟨kA,.inr (my _ _ _ _ _ ⟨_,rfl,L3,by have:=T.pA;lia⟩)⟩
    case jpost=>
     intro c fJ bQ;refine hid λCg bR=>?_
     (rcases bQ with ⟨kA,(⟨res,r,rfl,hm⟩|⟨bC,cE,bJ,dF,DO,vQ,rfl,L3,qA⟩)⟩)<;>refine bR ?_
     .dsimp only;exact bx ⟨kA,(nq _ _ ⟨rfl,hm⟩)⟩
     .dsimp only;refine bj (Bp ?_);exact bx ⟨kA.gal _,(nw _ _ _ _ ⟨rfl,L3,by lia⟩)⟩
    case jstep=>
     intro y c fJ _ hy bQ;refine hid λCg bR=>?_;obtain⟨kA,bC,cE,bJ,dF,DO,vQ,rfl,⟨m3,l3,l4⟩,qA⟩:=bQ;refine bR ?_;dsimp only;have gL:b[bJ]?=some (b[bJ]'l4):=by simp[l4]
     have gK:∀i z,a[i]?=some z->mem z:=λi z hz=>T.mA z (by obtain⟨h1,h2⟩:=bp.mp hz;rw[<-h2];simp);have lE:∀i z,b[i]?=some z->mem z:=λi z hz=>T.mB z (by obtain⟨h1,h2⟩:=bp.mp hz;rw[<-h2];simp);have body:∀(eI:Nat)(cM:aN),SameG st cM->∀(k:Nat),k<=a.size-cE->(∀i z,i<k->a[cE+i]?=some z->lt b[bJ] z=false)->(∀i z,k<=i->i<a.size-cE->a[cE+i]?=some z->lt b[bJ] z=true)->
       ∃bF:Array aJ,bF=bC++a.extract cE (cE+k)/\Mid lt a.toList b.toList bF.toList (cE+k) bJ/\∀z∈a.toList.drop (cE+k),lt z b[bJ]=false:=by
      intro eI cM dE k dG h1 h2;refine⟨_,rfl,?_,?_⟩
      .have m4:=m3.pushA T.sA k λz hz y hy=>FN o T.sB gL (xi (P:=λz=>lt b[bJ] z=false) h1 z hz) y hy;have e:(bC++a.extract cE (cE+k)).toList=bC.toList++(a.toList.drop cE).take k:=by
        simp
       rw[e];exact m4
      .exact adz (P:=λz=>lt z b[bJ]=false) λi z hi hz=>o.asy _ _ (h2 i z hi (by have:=(bp.mp hz).1;lia) hz)
     have kX:∀(fO:Array aJ)(dC tG eI k k1:Nat)(cM:aN),SameG st cM->Mid lt a.toList b.toList fO.toList dC tG->dC+1<a.size->tG<b.size->(∀z,a[dC]?=some z->∀u∈b.toList.drop tG,lt u z=false)->gY+gX+y+1<=dC+tG->
       iN (aH prog w) A E s (do
        let z2 <-iX a dC
        if (dC+1+1==a.size)=true then
         aS (ForInStep.done (some (fO.push z2++b.extract tG b.size++a.extract (dC+1) a.size),fO.push z2,dC+1,tG,eI,k,k1))
        else if (decide (k<7)&&decide (k1<7))=true then aS (ForInStep.done (none,fO.push z2,dC+1,tG,eI,k,k1))
        else aS (ForInStep.yield (none,fO.push z2,dC+1,tG,eI,k,k1)))
       (λr aQ=>match r with
        | .done c'=>SameG st aQ/\((∃res r,c'=(some res,r)/\qi lt a.toList b.toList res.toList)\/∃bC cE bJ dF ac bc,c'=(none,bC,cE,bJ,dF,ac,bc)/\qI lt a b bC cE bJ/\gY+gX+1<=cE+bJ)
        | .yield c'=>SameG st aQ/\∃bC cE bJ dF ac bc,c'=(none,bC,cE,bJ,dF,ac,bc)/\qI lt a b bC cE bJ/\gY+gX+(y+1)<=cE+bJ) cM:=by
      intro fO dC tG eI k k1 cM dE m5 l5 l6 hu hp5;have gH:a[dC]?=some (a[dC]'(by lia)):=by simp
      refine bj (p7 gH ?_);have m6:=avy o T m5 gH (hu _ gH);refine oo (λ(he:(dC+1+1==a.size)=true)=>?_) (λ(he:¬(dC+1+1==a.size)=true)=>?_)
      .exact bx ⟨dE,.inl (nq _ _ ⟨rfl,Dt o T m6 (by simpa using he)⟩)⟩
      .have iJ:¬dC+1+1=a.size:=by simpa using he
       have L6:qI lt a b (fO.push a[dC]) (dC+1) tG:=⟨m6,by lia,l6⟩;split
       .exact bx ⟨dE,.inr (my _ _ _ _ _ ⟨_,rfl,L6,by lia⟩)⟩
       .exact bx ⟨dE,(my _ _ _ _ _ ⟨_,rfl,L6,by lia⟩)⟩
     have aZ:∀(bF:Array aJ)(dC eI k:Nat)(cM:aN),SameG st cM->Mid lt a.toList b.toList bF.toList dC bJ->dC+1<a.size->(∀z∈a.toList.drop dC,lt z b[bJ]=false)->gY+gX+y<=dC+bJ->
       iN (aH prog w) A E s (do
        let z <-iX b bJ
        if (bJ+1==b.size)=true then
         aS (ForInStep.done (some (bF.push z++a.extract dC a.size++b.extract (bJ+1) b.size),bF.push z,dC,bJ+1,eI,k,vQ))
        else do
         let z1 <-iX a dC
         let x <-DV true z1 b (bJ+1) (b.size-(bJ+1)) 0
         match x with
         | some k1=>
          if k1>0 then
           if (bJ+1+k1==b.size)=true then
            aS (ForInStep.done (some (bF.push z++b.extract (bJ+1) (bJ+1+k1)++a.extract dC a.size++b.extract (bJ+1+k1) b.size),bF.push z++b.extract (bJ+1) (bJ+1+k1),dC,bJ+1+k1,eI,k,k1))
           else do
            let z2 <-iX a dC
            if (dC+1+1==a.size)=true then
             aS (ForInStep.done (some ((bF.push z++b.extract (bJ+1) (bJ+1+k1)).push z2++b.extract (bJ+1+k1) b.size++a.extract (dC+1) a.size),(bF.push z++b.extract (bJ+1) (bJ+1+k1)).push z2,dC+1,bJ+1+k1,eI,k,k1))
            else if (decide (k<7)&&decide (k1<7))=true then aS (ForInStep.done (none,(bF.push z++b.extract (bJ+1) (bJ+1+k1)).push z2,dC+1,bJ+1+k1,eI,k,k1))
            else aS (ForInStep.yield (none,(bF.push z++b.extract (bJ+1) (bJ+1+k1)).push z2,dC+1,bJ+1+k1,eI,k,k1))
          else do
           let z2 <-iX a dC
           if (dC+1+1==a.size)=true then
            aS (ForInStep.done (some ((bF.push z).push z2++b.extract (bJ+1) b.size++a.extract (dC+1) a.size),(bF.push z).push z2,dC+1,bJ+1,eI,k,k1))
           else if (decide (k<7)&&decide (k1<7))=true then aS (ForInStep.done (none,(bF.push z).push z2,dC+1,bJ+1,eI,k,k1))
           else aS (ForInStep.yield (none,(bF.push z).push z2,dC+1,bJ+1,eI,k,k1))
         | _=>aS (ForInStep.done (some (bF.push z++a.extract dC a.size++b.extract (bJ+1) b.size),bF.push z,dC,bJ+1,eI,k,vQ)))
       (λr aQ=>match r with
        | .done c'=>SameG st aQ/\((∃res r,c'=(some res,r)/\qi lt a.toList b.toList res.toList)\/∃bC cE bJ dF ac bc,c'=(none,bC,cE,bJ,dF,ac,bc)/\qI lt a b bC cE bJ/\gY+gX+1<=cE+bJ)
        | .yield c'=>SameG st aQ/\∃bC cE bJ dF ac bc,c'=(none,bC,cE,bJ,dF,ac,bc)/\qI lt a b bC cE bJ/\gY+gX+(y+1)<=cE+bJ) cM:=by
      intro bF dC eI k cM dE m4 l5 iH hp4;refine bj (p7 gL ?_);have m5:=Kp o T m4 gL iH;refine oo (λ(he:(bJ+1==b.size)=true)=>?_) (λ(he:¬(bJ+1==b.size)=true)=>?_)
      .exact bx ⟨dE,.inl (nq _ _ ⟨rfl,Fc T m5 (by simpa using he)⟩)⟩
      have iJ:¬bJ+1=b.size:=by simpa using he
      have gH:a[dC]?=some (a[dC]'(by lia)):=by simp
      refine bj (p7 gH ?_);refine bj (Lr (st:=cM) (base:=bJ+1) (n:=b.size-(bJ+1)) (hint:=0) C o (dE.1.trans hk) (gK _ _ gH) (by lia) (λi z hi hz=>lE _ z hz) (by lia) (λi j y z cW hj hy hz=>wt o T.sB (show bJ+1+i<=bJ+1+j by lia) hy hz) λk1 dG h1 h2=>?_);dsimp only;have m6:=m5.pushB T.sB k1 λz hz u hu=>FN o T.sA gH (o.asy _ _ (xi (P:=λz=>lt z a[dC]=true) h1 z hz)) u hu;have e6:(bF.push b[bJ]++b.extract (bJ+1) (bJ+1+k1)).toList=(bF.push b[bJ]).toList++(b.toList.drop (bJ+1)).take k1:=by simp
      rw[<-e6]at m6;have Aq:∀z,a[dC]?=some z->∀u∈b.toList.drop (bJ+1+k1),lt u z=false:=λz hz=>by rw[gH]at hz;cases hz;exact adz (P:=λu=>lt u a[dC]=false) λi z hi hz=>h2 i z hi (by have:=(bp.mp hz).1;lia) hz
      refine oo (λ(gM:k1>0)=>?_) (λ(gM:¬(k1>0))=>?_)
      .refine oo (λ(mV:(bJ+1+k1==b.size)=true)=>?_) (λ(mV:¬(bJ+1+k1==b.size)=true)=>?_)
       .exact bx ⟨dE,.inl (nq _ _ ⟨rfl,Fc T m6 (by simpa using mV)⟩)⟩
       .have Ir:¬bJ+1+k1=b.size:=by simpa using mV
        exact kX _ dC (bJ+1+k1) eI k k1 cM dE m6 l5 (by lia) Aq (by lia)
      .have e0:k1=0:=by lia
       subst e0;exact kX _ dC (bJ+1) eI k 0 cM dE m5 l5 (by lia) Aq (by lia)
     refine oo (λ(vC:dF>1)=>?_) (λ(vC:¬(dF>1))=>?_)
     .refine bj (Bp ?_);have dE:SameG st (vd fJ (dF-1)):=kA.gal _;refine bj (p7 gL ?_);refine bj (wy (st:=vd fJ (dF-1)) (base:=cE) (n:=a.size-cE) (hint:=0) C o (dE.1.trans hk) (lE _ _ gL) (by lia) (λi z hi hz=>gK _ z hz) (by lia) (λi j y z cW hj hy hz=>wt o T.sA (show cE+i<=cE+j by lia) hy hz) λk dG h1 h2=>?_);obtain⟨bF,e3,m4,iH⟩:=body 0 fJ kA k dG h1 h2;dsimp only;by_cases gM:k>0
      .rw[if_pos gM,<-e3];refine oo (λ(he:(cE+k+1==a.size)=true)=>?_) (λ(he:¬(cE+k+1==a.size)=true)=>?_)
       .exact bx ⟨dE,.inl (nq _ _ ⟨rfl,Dt o T m4 (by simpa using he)⟩)⟩
       have iJ:¬cE+k+1=a.size:=by simpa using he
       refine oo (λ(mV:(cE+k==a.size)=true)=>?_) (λ(mV:¬(cE+k==a.size)=true)=>?_)
       .exact bx ⟨dE,.inl (nq _ _ ⟨rfl,atr T m4 (by simpa using mV)⟩)⟩
       have Ir:¬cE+k=a.size:=by simpa using mV
       refine jg (aZ bF (cE+k) (dF-1) k _ dE m4 (by lia) iH (by lia)) λr aQ hr=>?_;cases r<;>exact hr
      .rw[if_neg gM];have e0:k=0:=by lia
       subst e0;have e5:bF=bC:=Array.ext' (by rw[e3];simp);rw[e5]at m4;refine jg (aZ bC cE (dF-1) 0 _ dE m4 l3 iH qA) λr aQ hr=>?_;cases r<;>exact hr
     .refine bj (Bp ?_);have dE:SameG st (vd fJ (dF)):=kA.gal _;refine bj (p7 gL ?_);refine bj (wy (st:=vd fJ (dF)) (base:=cE) (n:=a.size-cE) (hint:=0) C o (dE.1.trans hk) (lE _ _ gL) (by lia) (λi z hi hz=>gK _ z hz) (by lia) (λi j y z cW hj hy hz=>wt o T.sA (show cE+i<=cE+j by lia) hy hz) λk dG h1 h2=>?_);obtain⟨bF,e3,m4,iH⟩:=body 0 fJ kA k dG h1 h2;dsimp only;by_cases gM:k>0
      .rw[if_pos gM,<-e3];refine oo (λ(he:(cE+k+1==a.size)=true)=>?_) (λ(he:¬(cE+k+1==a.size)=true)=>?_)
       .exact bx ⟨dE,.inl (nq _ _ ⟨rfl,Dt o T m4 (by simpa using he)⟩)⟩
       have iJ:¬cE+k+1=a.size:=by simpa using he
       refine oo (λ(mV:(cE+k==a.size)=true)=>?_) (λ(mV:¬(cE+k==a.size)=true)=>?_)
       .exact bx ⟨dE,.inl (nq _ _ ⟨rfl,atr T m4 (by simpa using mV)⟩)⟩
       have Ir:¬cE+k=a.size:=by simpa using mV
       refine jg (aZ bF (cE+k) (dF) k _ dE m4 (by lia) iH (by lia)) λr aQ hr=>?_;cases r<;>exact hr
      .rw[if_neg gM];have e0:k=0:=by lia
       subst e0;have e5:bF=bC:=Array.ext' (by rw[e3];simp);rw[e5]at m4;refine jg (aZ bC cE (dF) 0 _ dE m4 l3 iH qA) λr aQ hr=>?_;cases r<;>exact hr
end
structure MidH(lt:aJ->aJ->Bool)(la lb R:List aJ)(na nb:Nat):Prop where
 perm:R.Perm (la.drop na++lb.drop nb)
 srt:Srt lt R
 geA:∀x∈la.take na,∀y∈R,lt y x=false
 geB:∀x∈lb.take nb,∀y∈R,lt y x=false
section
variable{lt:aJ->aJ->Bool}{la lb R:List aJ}{na nb:Nat}
theorem ah3{l:List aJ}{i n:Nat}(h:i<=n):l.take i++(l.take n).drop i=l.take n:=by have:=ff i (l.take n);rw[List.take_take,fk h]at this;exact this
theorem ahz{l:List aJ}{i n:Nat}(h:i<=n):(l.take n).drop i++l.drop n=l.drop i:=by
 have e:=ff n l;have:=congrArg (List.drop i) e;rw[List.drop_append]at this;by_cases hl:n<=l.length
 .rw[b8,fk hl,show i-n=0 by lia,ku]at this;exact this
 .rw[List.drop_eq_nil_of_le (show l.length<=n by lia),dg,av (by lia)]
theorem MidH.pushA(m:MidH lt la lb R na nb)(hA:Srt lt la){i:Nat}(hi:i<=na)(h:∀x∈lb.take nb,∀y∈(la.take na).drop i,lt y x=false):MidH lt la lb ((la.take na).drop i++R) i nb:=by
 have ht:Srt lt (la.take na):=gy (k7 _ _) hA;have hs:=ah3 (l:=la) hi;have qY:=ht;unfold Srt at qY;rw[<-hs,fj]at qY;refine⟨?_,?_,λx hx y hy=>?_,λx hx y hy=>?_⟩
 .rw[<-ahz (l:=la) hi,bz];exact iy _ m.perm
 .exact fj.mpr ⟨qY.2.1,m.srt,λx hx y hy=>m.geA x (List.mem_of_mem_drop hx) y hy⟩
 .rcases ay.mp hy with h1|h1
  .exact qY.2.2 x hx y h1
  .exact m.geA x (by rw[<-hs];exact jq _ hx) y h1
 .rcases ay.mp hy with h1|h1
  .exact h x hx y h1
  .exact m.geB x hx y h1
theorem MidH.pushB(m:MidH lt la lb R na nb)(hB:Srt lt lb){i:Nat}(hi:i<=nb)(h:∀x∈la.take na,∀y∈(lb.take nb).drop i,lt y x=false):MidH lt la lb ((lb.take nb).drop i++R) na i:=by
 have ht:Srt lt (lb.take nb):=gy (k7 _ _) hB;have hs:=ah3 (l:=lb) hi;have qY:=ht;unfold Srt at qY;rw[<-hs,fj]at qY;refine⟨?_,?_,λx hx y hy=>?_,λx hx y hy=>?_⟩
 .rw[<-ahz (l:=lb) hi];refine(iy _ m.perm).trans ?_;rw[<-bz,<-bz];exact List.Perm.append_right _ List.perm_append_comm
 .exact fj.mpr ⟨qY.2.1,m.srt,λx hx y hy=>m.geB x (List.mem_of_mem_drop hx) y hy⟩
 .rcases ay.mp hy with h1|h1
  .exact h x hx y h1
  .exact m.geA x hx y h1
 .rcases ay.mp hy with h1|h1
  .exact qY.2.2 x hx y h1
  .exact m.geB x (by rw[<-hs];exact jq _ hx) y h1
theorem MidH.endA(m:MidH lt la lb R 0 nb)(hB:Srt lt lb):qi lt la lb (lb.take nb++R):=by have ht:Srt lt (lb.take nb):=gy (k7 _ _) hB;refine⟨?_,fj.mpr ⟨ht,m.srt,m.geB⟩⟩;have p:=iy (lb.take nb) m.perm;rw[ku]at p;refine p.trans ?_;rw[<-bz];refine(List.Perm.append_right _ List.perm_append_comm).trans ?_;rw[bz,ff]
theorem MidH.endB(m:MidH lt la lb R na 0)(hA:Srt lt la):qi lt la lb (la.take na++R):=by have ht:Srt lt (la.take na):=gy (k7 _ _) hA;refine⟨?_,fj.mpr ⟨ht,m.srt,m.geA⟩⟩;have p:=iy (la.take na) m.perm;rw[ku,<-bz,ff]at p;exact p
theorem MidH.firstB(m:MidH lt la lb R na 1)(o:nF lt)(hA:Srt lt la)(hB:Srt lt lb)(hl:∀y∈la,∀x∈lb.take 1,lt x y=true):qi lt la lb (lb.take 1++la.take na++R):=by have m2:=m.pushA hA (f7 na) λx hx y hy=>o.asy _ _ (hl y (gt (List.mem_of_mem_drop hy)) x hx);rw[ku]at m2;have:=m2.endA hB;rw[bz];exact this
end
noncomputable def aoe:Array aJ->Array aJ->StateT aN pR (Array aJ):=sortPriv% PySem.Builtin.mergeHi
section
variable{prog:aI}{w:aK}{A:Around}{E:aA->aB->Prop}{s:aB}
variable{κ:aY}{mem:aJ->Prop}{lt:aJ->aJ->Bool}
def zn(lt:aJ->aJ->Bool)(a b out:Array aJ)(na nb:Nat):Prop:=MidH lt a.toList b.toList out.reverse.toList na nb/\0<na/\1<nb/\na<=a.size/\nb<=b.size
theorem DT{arr:Array aJ}{n:Nat}{x:aJ}(h:arr[n]?=some x):(arr.toList.take (n+1)).drop n=[x]:=by
 obtain⟨hi,e⟩:=bp.mp h;have hl:n<arr.toList.length:=by simpa using hi
 rw[List.take_succ,List.drop_append,List.drop_eq_nil_of_le (by rw[b8];lia)];have e2:n-lD n arr.size=0:=by lia
 simp[h,e2]
theorem DM{arr:Array aJ}(o:nF lt)(hs:Srt lt arr.toList){n:Nat}{x y:aJ}(hx:arr[n]?=some x)(h:lt y x=false):∀z∈arr.toList.take (n+1),lt y z=false:=λz hz=>by
 obtain⟨i,hi⟩:=cx.mp hz;have cN:i<n+1:=by have:=(ae.mp hi).1;rw[b8]at this;lia
 rw[fw cN]at hi;exact o.tr z x y (wt o hs (show i<=n by lia) (by simpa using hi) hx) h
theorem KS(out arr:Array aJ){i n:Nat}(h:i<=n):(out++(arr.extract i n).reverse).reverse.toList=(arr.toList.take n).drop i++out.reverse.toList:=by simp[List.take_drop,show i+(n-i)=n by lia]
theorem La{arr:Array aJ}{P:aJ->Prop}{i n:Nat}(h:∀j z,i<=j->j<n->arr[j]?=some z->P z):∀z∈(arr.toList.take n).drop i,P z:=λz hz=>by
 obtain⟨k,hk⟩:=cx.mp hz;rw[gm]at hk;have cN:i+k<n:=by have:=(ae.mp hk).1;rw[b8]at this;lia
 rw[fw cN]at hk;exact h (i+k) z (by lia) cN (by simpa using hk)
theorem Ku{a b out:Array aJ}{na nb:Nat}{y:aJ}(T:Two mem lt a b)(m:MidH lt a.toList b.toList out.reverse.toList (na+1) nb)(hy:a[na]?=some y)(h:∀x∈b.toList.take nb,lt y x=false):MidH lt a.toList b.toList (out.push y).reverse.toList na nb:=by
 have m2:=m.pushA T.sA (ll na) λx hx u hu=>by rw[DT hy]at hu;rw[ao.mp hu];exact h x hx
 rw[DT hy]at m2;simpa using m2
theorem apg{a b out:Array aJ}{na nb:Nat}{y:aJ}(T:Two mem lt a b)(m:MidH lt a.toList b.toList out.reverse.toList na (nb+1))(hy:b[nb]?=some y)(h:∀x∈a.toList.take na,lt y x=false):MidH lt a.toList b.toList (out.push y).reverse.toList na nb:=by
 have m2:=m.pushB T.sB (ll nb) λx hx u hu=>by rw[DT hy]at hu;rw[ao.mp hu];exact h x hx
 rw[DT hy]at m2;simpa using m2
theorem DF{a b out:Array aJ}{na nb:Nat}(T:Two mem lt a b)(m:MidH lt a.toList b.toList out.reverse.toList na nb)(h:na=0):qi lt a.toList b.toList (a.extract 0 na++b.extract 0 nb++out.reverse).toList:=by subst h;have:=m.endA T.sB;simpa using this
theorem av0{a b out:Array aJ}{na nb:Nat}(T:Two mem lt a b)(m:MidH lt a.toList b.toList out.reverse.toList na nb)(h:nb=0):qi lt a.toList b.toList (a.extract 0 na++b.extract 0 nb++out.reverse).toList:=by subst h;have:=m.endB T.sA;simpa using this
theorem Fu{a b out:Array aJ}{na nb:Nat}(o:nF lt)(T:Two mem lt a b)(m:MidH lt a.toList b.toList out.reverse.toList na nb)(h:nb=1):qi lt a.toList b.toList (b.extract 0 nb++a.extract 0 na++out.reverse).toList:=by
 subst h;have pB:=T.pB;have pA:=T.pA;have pM:b[0]?=some (b[0]'T.pB):=by simp[T.pB]
 have zH:a[0]?=some (a[0]'T.pA):=by simp[T.pA]
 have:=m.firstB o T.sA T.sB λy hy x hx=>by
  have e1:=DT pM;rw[ku]at e1;rw[e1]at hx;rw[ao.mp hx];have uQ:lt y a[0]=false:=zp o (F9 T.sA 0) (uk zH) y (by rw[ku];exact hy);cases q:lt b[0] y with
  | true=>rfl
  | false=>have:=o.tr _ _ _ uQ q;rw[T.first _ _ pM zH]at this;cases this
 simpa using this
theorem afv(C:lP prog w A s κ mem lt)(o:nF lt){st:aN}(hk:kindOf st=κ){a b:Array aJ}(T:Two mem lt a b){Q:Array aJ->aN->Prop}
  (h:∀out aQ,SameG st aQ->qi lt a.toList b.toList out.toList->Q out aQ):iN (aH prog w) A E s (aoe a b) Q st:=by
 refine bj (gP (k8 ⟨rfl,?_⟩));have gK:∀i z,a[i]?=some z->mem z:=λi z hz=>T.mA z (by obtain⟨h1,h2⟩:=bp.mp hz;rw[<-h2];simp);have lE:∀i z,b[i]?=some z->mem z:=λi z hz=>T.mB z (by obtain⟨h1,h2⟩:=bp.mp hz;rw[<-h2];simp);have hpA:=T.pA;have hpB:=T.pB;have vL:a[a.size-1]?=some (a[a.size-1]'(by lia)):=by simp
 refine bj (p7 vL ?_);have m0:MidH lt a.toList b.toList (#[]:Array aJ).reverse.toList (a.size-1+1) b.size:=by rw[show a.size-1+1=a.size by lia];exact⟨by simp,List.Pairwise.nil,by simp,by simp⟩
 have m1:=Ku T m0 vL λx hx=>o.asy _ _ (T.last x (gt hx) _ vL);dsimp only;refine oo (λ(vN:(a.size-1==0)=true)=>?_) (λ(vN:¬(a.size-1==0)=true)=>?_)
 .exact bx (h _ _ (SameG.refl _) (DF T m1 (by simpa using vN)))
 refine oo (λ(vK:(b.size==1)=true)=>?_) (λ(vK:¬(b.size==1)=true)=>?_)
 .exact bx (h _ _ (SameG.refl _) (Fu o T m1 (by simpa using vK)))
 have vM:¬a.size-1=0:=by simpa using vN
 have hb2:¬b.size=1:=by simpa using vK
 refine bj (dL ?_);refine bj (jg (gw (I:=λx c aQ=>SameG st aQ/\∃na nb out mg,c=(none,na,nb,out,mg)/\zn lt a b out na nb/\na+nb+x+1<=a.size+b.size)
  (Q:=λc aQ=>SameG st aQ/\∃res r,c=(some res,r)/\qi lt a.toList b.toList res.toList) ?step ?fin ?init) ?post)
 case init=>exact⟨SameG.refl _,(nw _ _ _ _ ⟨rfl,⟨m1,by lia,by lia,by lia,by lia⟩,by lia⟩)⟩
 case fin=>
  intro c aQ bQ;refine hid λCg bR=>?_;obtain⟨_,na,nb,out,mg,rfl,⟨_,h1,h2,h3,h4⟩,h5⟩:=bQ;refine bR ?_;lia
 case post=>
  intro c aQ bQ;refine hid λCg bR=>?_;obtain⟨sg,res,r,rfl,hm⟩:=bQ;refine bR ?_;exact bx (h _ _ sg hm)
 case step=>
  intro x c aQ _ hx bQ;refine hid λCg bR=>?_;obtain⟨sg,na,nb,out,mg,rfl,L,hp⟩:=bQ;refine bR ?_;dsimp only;refine bj (jg (gw (I:=λy c aQ=>SameG st aQ/\∃kB gJ cV ac bc,c=(none,kB,gJ,cV,ac,bc)/\zn lt a b cV kB gJ/\kB+gJ<=na+nb)
   (Q:=λc aQ=>SameG st aQ/\((∃res r,c=(some res,r)/\qi lt a.toList b.toList res.toList)\/∃kB gJ cV ac bc,c=(none,kB,gJ,cV,ac,bc)/\zn lt a b cV kB gJ/\kB+gJ<=na+nb)) ?istep ?ifin ?iinit) ?ipost)
  case iinit=>exact⟨sg,(my _ _ _ _ _ ⟨rfl,L,aq _⟩)⟩
  case ifin=>
   rintro c eR ⟨iE,aZ⟩;exact⟨iE,.inr aZ⟩
  case istep=>
   intro y c eR _ hy bQ;refine hid λCg bR=>?_;obtain⟨iE,kB,gJ,cV,ac,bc,rfl,⟨m,l1,l2,l3,l4⟩,wR⟩:=bQ;refine bR ?_;obtain⟨n1,rfl⟩:∃n1,kB=n1+1:=⟨kB-1,by lia⟩;obtain⟨n2,rfl⟩:∃n2,gJ=n2+1:=⟨gJ-1,by lia⟩;dsimp only[Nat.add_sub_cancel];have gL:b[n2]?=some (b[n2]'(by lia)):=by simp
   have gH:a[n1]?=some (a[n1]'(by lia)):=by simp
   refine bj (p7 gL (bj (p7 gH (bj (Dz C (iE.1.trans hk) (lE _ _ gL) (gK _ _ gH) ?_)))));cases hl:lt b[n2] a[n1]with
   | true=>
    dsimp only;simp only[if_true];refine bj (p7 gH ?_);have m2:=Ku T m gH (DM o T.sB gL (o.asy _ _ hl));try simp only[Nat.add_sub_cancel]
    refine oo (λ(he:(n1==0)=true)=>?_) (λ(he:¬(n1==0)=true)=>?_)
    .exact bx ⟨iE,.inl (nq _ _ ⟨rfl,DF T m2 (by simpa using he)⟩)⟩
    .have iJ:¬n1=0:=by simpa using he
     have L2:zn lt a b (cV.push a[n1]) n1 (n2+1):=⟨m2,by lia,by lia,by lia,by lia⟩;split
     .exact bx ⟨iE,.inr (my _ _ _ _ _ ⟨rfl,L2,by lia⟩)⟩
     .exact bx ⟨iE,(my _ _ _ _ _ ⟨rfl,L2,by lia⟩)⟩
   | false=>
    dsimp only;simp only[bi,if_false];refine bj (p7 gL ?_);have m2:=apg T m gL (DM o T.sA gH hl);try simp only[Nat.add_sub_cancel]
    refine oo (λ(he:(n2==1)=true)=>?_) (λ(he:¬(n2==1)=true)=>?_)
    .exact bx ⟨iE,.inl (nq _ _ ⟨rfl,Fu o T m2 (by simpa using he)⟩)⟩
    .have iJ:¬n2=1:=by simpa using he
     have L2:zn lt a b (cV.push b[n2]) (n1+1) n2:=⟨m2,by lia,by lia,by lia,by lia⟩;split
     .exact bx ⟨iE,.inr (my _ _ _ _ _ ⟨rfl,L2,by lia⟩)⟩
     .exact bx ⟨iE,(my _ _ _ _ _ ⟨rfl,L2,by lia⟩)⟩
  case ipost=>
   intro c eR bQ;refine hid λCg bR=>?_
   (rcases bQ with ⟨iE,(⟨res,r,rfl,hm⟩|⟨kB,gJ,cV,ac,bc,rfl,L2,rN⟩)⟩)<;>refine bR ?_
   .dsimp only;exact bx ⟨iE,(nq _ _ ⟨rfl,hm⟩)⟩
   .dsimp only;refine bj (gP (k8 ⟨rfl,?_⟩));refine bj (jg (gw (I:=λy c aQ=>SameG st aQ/\∃dP bG bC dF ac bc,c=(none,dP,bG,bC,dF,ac,bc)/\zn lt a b bC dP bG/\dP+bG+y<=kB+gJ)
     (Q:=λc aQ=>SameG st aQ/\((∃res r,c=(some res,r)/\qi lt a.toList b.toList res.toList)\/∃dP bG bC dF ac bc,c=(none,dP,bG,bC,dF,ac,bc)/\zn lt a b bC dP bG/\dP+bG+1<=kB+gJ)) ?jstep ?jfin ?jinit) ?jpost)
    case jinit=>exact⟨iE,(my _ _ _ _ _ ⟨_,rfl,L2,aq _⟩)⟩
    case jfin=>
     intro c fJ bQ;refine hid λCg bR=>?_;obtain⟨kA,dP,bG,bC,dF,DO,vQ,rfl,L3,qA⟩:=bQ;refine bR ?_;exact⟨kA,.inr (my _ _ _ _ _ ⟨_,rfl,L3,by lia⟩)⟩
    case jpost=>
     intro c fJ bQ;refine hid λCg bR=>?_
     (rcases bQ with ⟨kA,(⟨res,r,rfl,hm⟩|⟨dP,bG,bC,dF,DO,vQ,rfl,L3,qA⟩)⟩)<;>refine bR ?_
     .dsimp only;exact bx ⟨kA,(nq _ _ ⟨rfl,hm⟩)⟩
     .dsimp only;refine bj (Bp ?_);exact bx ⟨kA.gal _,(nw _ _ _ _ ⟨rfl,L3,by lia⟩)⟩
    case jstep=>
     intro y c fJ _ hy bQ;refine hid λCg bR=>?_;obtain⟨kA,dP,bG,bC,dF,DO,vQ,rfl,⟨m3,l1,l2,l3,l4⟩,qA⟩:=bQ;refine bR ?_;dsimp only;have gL:b[bG-1]?=some (b[bG-1]'(by lia)):=by simp
     have kX:∀(fO:Array aJ)(cA qU eI k k1:Nat)(cM:aN),SameG st cM->MidH lt a.toList b.toList fO.reverse.toList cA qU->0<cA->1<qU->cA<=a.size->qU<=b.size->(∀z,a[cA-1]?=some z->∀u∈b.toList.take qU,lt z u=false)->cA+qU+y+1<=kB+gJ->
       iN (aH prog w) A E s (do
        let z2 <-iX a (cA-1)
        if (cA-1==0)=true then
         aS (ForInStep.done (some (a.extract 0 (cA-1)++b.extract 0 qU++(fO.push z2).reverse),cA-1,qU,fO.push z2,eI,k,k1))
        else if (decide (k<7)&&decide (k1<7))=true then aS (ForInStep.done (none,cA-1,qU,fO.push z2,eI,k,k1))
        else aS (ForInStep.yield (none,cA-1,qU,fO.push z2,eI,k,k1)))
       (λr aQ=>match r with
        | .done c'=>SameG st aQ/\((∃res r,c'=(some res,r)/\qi lt a.toList b.toList res.toList)\/∃dP bG bC dF ac bc,c'=(none,dP,bG,bC,dF,ac,bc)/\zn lt a b bC dP bG/\dP+bG+1<=kB+gJ)
        | .yield c'=>SameG st aQ/\∃dP bG bC dF ac bc,c'=(none,dP,bG,bC,dF,ac,bc)/\zn lt a b bC dP bG/\dP+bG+(y+1)<=kB+gJ) cM:=by
      intro fO cA qU eI k k1 cM dE m5 q1 q2 q3 q4 hu hp5;have gH:a[cA-1]?=some (a[cA-1]'(by lia)):=by simp
      refine bj (p7 gH ?_);have m6:=Ku (na:=cA-1) T (by rw[show cA-1+1=cA by lia];exact m5) gH (hu _ gH);refine oo (λ(he:(cA-1==0)=true)=>?_) (λ(he:¬(cA-1==0)=true)=>?_)
      .exact bx ⟨dE,.inl (nq _ _ ⟨rfl,DF T m6 (by simpa using he)⟩)⟩
      .have iJ:¬cA-1=0:=by simpa using he
       have L6:zn lt a b (fO.push a[cA-1]) (cA-1) qU:=⟨m6,by lia,by lia,by lia,by lia⟩;split
       .exact bx ⟨dE,.inr (my _ _ _ _ _ ⟨_,rfl,L6,by lia⟩)⟩
       .exact bx ⟨dE,(my _ _ _ _ _ ⟨_,rfl,L6,by lia⟩)⟩
     have aZ:∀(bF:Array aJ)(cA eI k:Nat)(cM:aN),SameG st cM->MidH lt a.toList b.toList bF.reverse.toList cA bG->0<cA->cA<=a.size->(∀z∈a.toList.take cA,lt b[bG-1] z=false)->cA+bG+y<=kB+gJ->
       iN (aH prog w) A E s (do
        let z <-iX b (bG-1)
        if (bG-1==1)=true then
         aS (ForInStep.done (some (b.extract 0 (bG-1)++a.extract 0 cA++(bF.push z).reverse),cA,bG-1,bF.push z,eI,k,vQ))
        else do
         let z1 <-iX a (cA-1)
         let x <-DV true z1 b 0 (bG-1) (bG-1-1)
         match x with
         | some bS=>
          if bG-1-bS>0 then
           if (bS==1)=true then
            aS (ForInStep.done (some (b.extract 0 bS++a.extract 0 cA++(bF.push z++(b.extract bS (bG-1)).reverse).reverse),cA,bS,(bF.push z++(b.extract bS (bG-1)).reverse),eI,k,bG-1-bS))
           else if (bS==0)=true then
            aS (ForInStep.done (some (a.extract 0 cA++b.extract 0 bS++(bF.push z++(b.extract bS (bG-1)).reverse).reverse),cA,bS,(bF.push z++(b.extract bS (bG-1)).reverse),eI,k,bG-1-bS))
           else do
            let z2 <-iX a (cA-1)
            if (cA-1==0)=true then
             aS (ForInStep.done (some (a.extract 0 (cA-1)++b.extract 0 bS++((bF.push z++(b.extract bS (bG-1)).reverse).push z2).reverse),cA-1,bS,(bF.push z++(b.extract bS (bG-1)).reverse).push z2,eI,k,bG-1-bS))
            else if (decide (k<7)&&decide (bG-1-bS<7))=true then aS (ForInStep.done (none,cA-1,bS,(bF.push z++(b.extract bS (bG-1)).reverse).push z2,eI,k,bG-1-bS))
            else aS (ForInStep.yield (none,cA-1,bS,(bF.push z++(b.extract bS (bG-1)).reverse).push z2,eI,k,bG-1-bS))
          else do
           let z2 <-iX a (cA-1)
           if (cA-1==0)=true then
            aS (ForInStep.done (some (a.extract 0 (cA-1)++b.extract 0 (bG-1)++((bF.push z).push z2).reverse),cA-1,(bG-1),(bF.push z).push z2,eI,k,bG-1-bS))
           else if (decide (k<7)&&decide (bG-1-bS<7))=true then aS (ForInStep.done (none,cA-1,(bG-1),(bF.push z).push z2,eI,k,bG-1-bS))
           else aS (ForInStep.yield (none,cA-1,(bG-1),(bF.push z).push z2,eI,k,bG-1-bS))
         | _=>aS (ForInStep.done (some (a.extract 0 cA++b.extract 0 (bG-1)++(bF.push z).reverse),cA,bG-1,bF.push z,eI,k,vQ)))
       (λr aQ=>match r with
        | .done c'=>SameG st aQ/\((∃res r,c'=(some res,r)/\qi lt a.toList b.toList res.toList)\/∃dP bG bC dF ac bc,c'=(none,dP,bG,bC,dF,ac,bc)/\zn lt a b bC dP bG/\dP+bG+1<=kB+gJ)
        | .yield c'=>SameG st aQ/\∃dP bG bC dF ac bc,c'=(none,dP,bG,bC,dF,ac,bc)/\zn lt a b bC dP bG/\dP+bG+(y+1)<=kB+gJ) cM:=by
      intro bF cA eI k cM dE m4 q1 q3 iH hp4;refine bj (p7 gL ?_);have m5:=apg (nb:=bG-1) T (by rw[show bG-1+1=bG by lia];exact m4) gL iH;refine oo (λ(he:(bG-1==1)=true)=>?_) (λ(he:¬(bG-1==1)=true)=>?_)
      .exact bx ⟨dE,.inl (nq _ _ ⟨rfl,Fu o T m5 (by simpa using he)⟩)⟩
      have iJ:¬bG-1=1:=by simpa using he
      have gH:a[cA-1]?=some (a[cA-1]'(by lia)):=by simp
      refine bj (p7 gH ?_);refine bj (Lr (st:=cM) (base:=0) (n:=bG-1) (hint:=bG-1-1) C o (dE.1.trans hk) (gK _ _ gH) (by lia) (λi z hi hz=>lE _ z hz) (by lia) (λi j y z cW hj hy hz=>wt o T.sB (show 0+i<=0+j by lia) hy hz) λbS dG h1 h2=>?_);dsimp only;have m6:=m5.pushB T.sB (i:=bS) dG λx hx u hu=>by have Cd:lt u a[cA-1]=false:=La (P:=λu=>lt u a[cA-1]=false) (λi z hi hn hz=>h2 i z hi hn (by rw[Nat.zero_add];exact hz)) u hu;exact DM o T.sA gH Cd x (by rw[show cA-1+1=cA by lia];exact hx)
      have e6:(bF.push b[bG-1]++(b.extract bS (bG-1)).reverse).reverse.toList=(b.toList.take (bG-1)).drop bS++(bF.push b[bG-1]).reverse.toList:=KS _ _ dG;rw[<-e6]at m6;have Aq:∀z,a[cA-1]?=some z->∀u∈b.toList.take bS,lt z u=false:=λz hz=>by rw[gH]at hz;cases hz;intro u hu;refine o.asy _ _ (xi (base:=0) (P:=λu=>lt u a[cA-1]=true) h1 u ?_);rw[ku];exact hu
      refine oo (λ(gM:bG-1-bS>0)=>?_) (λ(gM:¬(bG-1-bS>0))=>?_)
      .refine oo (λ(mV:(bS==1)=true)=>?_) (λ(mV:¬(bS==1)=true)=>?_)
       .exact bx ⟨dE,.inl (nq _ _ ⟨rfl,Fu o T m6 (by simpa using mV)⟩)⟩
       have Ir:¬bS=1:=by simpa using mV
       refine oo (λ(Iq:(bS==0)=true)=>?_) (λ(Iq:¬(bS==0)=true)=>?_)
       .exact bx ⟨dE,.inl (nq _ _ ⟨rfl,av0 T m6 (by simpa using Iq)⟩)⟩
       have he5:¬bS=0:=by simpa using Iq
       exact kX _ cA bS eI k _ cM dE m6 q1 (by lia) q3 (by lia) Aq (by lia)
      .have e0:bS=bG-1:=by lia
       rw[e0]at Aq;exact kX _ cA (bG-1) eI k _ cM dE m5 q1 (by lia) q3 (by lia) Aq (by lia)
     refine oo (λ(vC:dF>1)=>?_) (λ(vC:¬(dF>1))=>?_)
     .refine bj (Bp ?_);have dE:SameG st (vd fJ (dF-1)):=kA.gal _;refine bj (p7 gL ?_);refine bj (wy (st:=vd fJ (dF-1)) (base:=0) (n:=dP) (hint:=dP-1) C o (dE.1.trans hk) (lE _ _ gL) (by lia) (λi z hi hz=>gK _ z hz) (by lia) (λi j y z cW hj hy hz=>wt o T.sA (show 0+i<=0+j by lia) hy hz) λbS dG h1 h2=>?_);have m4:=m3.pushA T.sA (i:=bS) dG λx hx u hu=>by
       have Cd:lt b[bG-1] u=true:=La (P:=λu=>lt b[bG-1] u=true) (λi z hi hn hz=>h2 i z hi hn (by rw[Nat.zero_add];exact hz)) u hu;exact DM o T.sB gL (o.asy _ _ Cd) x (by rw[show bG-1+1=bG by lia];exact hx)
      have e4:(bC++(a.extract bS dP).reverse).reverse.toList=(a.toList.take dP).drop bS++bC.reverse.toList:=KS _ _ dG;rw[<-e4]at m4;have iH:∀z∈a.toList.take bS,lt b[bG-1] z=false:=λz hz=>xi (base:=0) (P:=λz=>lt b[bG-1] z=false) h1 z (by rw[ku];exact hz);dsimp only;refine oo (λ(gM:dP-bS>0)=>?_) (λ(gM:¬(dP-bS>0))=>?_)
      .refine oo (λ(he:(bS==0)=true)=>?_) (λ(he:¬(bS==0)=true)=>?_)
       .exact bx ⟨dE,.inl (nq _ _ ⟨rfl,DF T m4 (by simpa using he)⟩)⟩
       have iJ:¬bS=0:=by simpa using he
       refine jg (aZ _ bS (dF-1) _ _ dE m4 (by lia) (by lia) iH (by lia)) λr aQ hr=>?_;cases r<;>exact hr
      .have e0:bS=dP:=by lia
       rw[e0]at iH;refine jg (aZ bC dP (dF-1) _ _ dE m3 (by lia) (by lia) iH qA) λr aQ hr=>?_;cases r<;>exact hr
     .refine bj (Bp ?_);have dE:SameG st (vd fJ (dF)):=kA.gal _;refine bj (p7 gL ?_);refine bj (wy (st:=vd fJ (dF)) (base:=0) (n:=dP) (hint:=dP-1) C o (dE.1.trans hk) (lE _ _ gL) (by lia) (λi z hi hz=>gK _ z hz) (by lia) (λi j y z cW hj hy hz=>wt o T.sA (show 0+i<=0+j by lia) hy hz) λbS dG h1 h2=>?_);have m4:=m3.pushA T.sA (i:=bS) dG λx hx u hu=>by
       have Cd:lt b[bG-1] u=true:=La (P:=λu=>lt b[bG-1] u=true) (λi z hi hn hz=>h2 i z hi hn (by rw[Nat.zero_add];exact hz)) u hu;exact DM o T.sB gL (o.asy _ _ Cd) x (by rw[show bG-1+1=bG by lia];exact hx)
      have e4:(bC++(a.extract bS dP).reverse).reverse.toList=(a.toList.take dP).drop bS++bC.reverse.toList:=KS _ _ dG;rw[<-e4]at m4;have iH:∀z∈a.toList.take bS,lt b[bG-1] z=false:=λz hz=>xi (base:=0) (P:=λz=>lt b[bG-1] z=false) h1 z (by rw[ku];exact hz);dsimp only;refine oo (λ(gM:dP-bS>0)=>?_) (λ(gM:¬(dP-bS>0))=>?_)
      .refine oo (λ(he:(bS==0)=true)=>?_) (λ(he:¬(bS==0)=true)=>?_)
       .exact bx ⟨dE,.inl (nq _ _ ⟨rfl,DF T m4 (by simpa using he)⟩)⟩
       have iJ:¬bS=0:=by simpa using he
       refine jg (aZ _ bS (dF) _ _ dE m4 (by lia) (by lia) iH (by lia)) λr aQ hr=>?_;cases r<;>exact hr
      .have e0:bS=dP:=by lia
       rw[e0]at iH;refine jg (aZ bC dP (dF) _ _ dE m3 (by lia) (by lia) iH qA) λr aQ hr=>?_;cases r<;>exact hr
end
noncomputable def Fk(f:aJ->Int)(xs:Array aJ)(i:Nat):Int:=(xs[i]?.map f).getD 0
noncomputable abbrev fl(f:aJ->Int)(x y:aJ):Bool:=decide (f x<f y)
theorem FJ(f:aJ->Int):nF (fl f):=⟨λx y h=>by simp at h⊢;omega,λx y z h1 h2=>by simp at h1 h2⊢;omega⟩
def Seg(f:aJ->Int)(xs:Array aJ)(lo n:Nat):Prop:=∀i j,lo<=i->i<=j->j<lo+n->Fk f xs i<=Fk f xs j
def Dsc(f:aJ->Int)(xs:Array aJ)(lo n:Nat):Prop:=∀i j,lo<=i->i<=j->j<lo+n->Fk f xs j<=Fk f xs i
structure TB(κ:aY)(a₀:Array aJ)(st:aN):Prop where
 perm:(aL st).Perm a₀
 kind:kindOf st=κ
 failed:bL st=none
structure Fr(lo:Nat)(st aQ:aN):Prop where
 pend:aM aQ=aM st
 low:∀i,i<lo->(aL aQ)[i]?=(aL st)[i]?
theorem Fr.refl(lo:Nat)(st:aN):Fr lo st st:=⟨rfl,λ_ _=>rfl⟩
theorem Fr.trans{lo:Nat}{a b c:aN}(h:Fr lo a b)(k:Fr lo b c):Fr lo a c:=⟨k.pend.trans h.pend,λi hi=>(k.low i hi).trans (h.low i hi)⟩
theorem TB.size{κ:aY}{a₀:Array aJ}{st:aN}(h:TB κ a₀ st):(aL st).size=a₀.size:=h.perm.size_eq
theorem TB.set{κ:aY}{a₀:Array aJ}{st:aN}(h:TB κ a₀ st){xs:Array aJ}(hp:xs.Perm (aL st)):TB κ a₀ (iZ st xs):=⟨hp.trans h.perm,h.kind,h.failed⟩
theorem xz{f:aJ->Int}{xs ys:Array aJ}{i j:Nat}(h:xs[i]?=ys[j]?):Fk f xs i=Fk f ys j:=by unfold Fk;rw[h]
theorem Kv{f:aJ->Int}{xs:Array aJ}{i j:Nat}(hj:j<=xs.size)(k:Nat):Fk f (gW xs i j ((j-i)/2)) k=if i<=k/\k<j then Fk f xs (i+j-1-k)else Fk f xs k:=by
 have e:=zK (i:=i) hj k;split
 .rename_i h;rw[if_pos h]at e;exact xz e
 .rename_i h;rw[if_neg h]at e;exact xz e
theorem xm{f:aJ->Int}{xs:Array aJ}{i j:Nat}(hj:j<=xs.size)(he:∀k,i<=k->k<j->Fk f xs k=Fk f xs (j-1))(k:Nat):Fk f (gW xs i j ((j-i)/2)) k=Fk f xs k:=by
 rw[Kv hj];split
 .rw[he _ (by omega) (by omega),he k (by omega) (by omega)]
 .rfl
theorem apy{f:aJ->Int}{xs:Array aJ}{c d:Nat}(hs:c<xs.size)(hd:d<=c)(k:Nat) :
  Fk f (AV xs c d) k=if k=c-d then Fk f xs c else if c-d<k/\k<=c then Fk f xs (k-1)else Fk f xs k:=by
 have e:=IM hs d hd k;split
 .rename_i h;rw[if_pos h]at e;exact xz e
 .rename_i h
  rw[if_neg h]at e;split
  .rename_i h2;rw[if_pos h2]at e;exact xz e
  .rename_i h2;rw[if_neg h2]at e;exact xz e
theorem Fr.mir{lo:Nat}{st:aN}{i j:Nat}(hi:lo<=i)(hj:j<=(aL st).size):Fr lo st (iZ st (gW (aL st) i j ((j-i)/2))):=
 ⟨rfl,λk hk=>by show(gW (aL st) i j ((j-i)/2))[k]?=_;rw[zK hj,if_neg (by omega)]⟩
theorem Fr.bub{lo:Nat}{st:aN}{c d:Nat}(hs:c<(aL st).size)(hd:lo<=c-d)(hZ:d<=c):Fr lo st (iZ st (AV (aL st) c d)):=
 ⟨rfl,λk hk=>by show(AV (aL st) c d)[k]?=_;rw[IM hs d hZ,if_neg (by omega),if_neg (by omega)]⟩
section
variable{prog:aI}{w:aK}{A:Around}{E:aA->aB->Prop}{s:aB}
variable{κ:aY}{mem:aJ->Prop}{f:aJ->Int}{a₀:Array aJ}
theorem TB.at{st:aN}(h:TB κ a₀ st)(hm:∀x∈a₀.toList,mem x){i:Nat}(hi:i<a₀.size):∃x,(aL st)[i]?=some x/\mem x/\f x=Fk f (aL st) i:=by
 have eC:i<(aL st).size:=by rw[h.size];exact hi
 have e:(aL st)[i]?=some (aL st)[i]:=getElem?_pos _ i eC;refine⟨_,e,hm _ ((jz.mp h.perm).mem_iff.mp (by simp)),?_⟩;unfold Fk;rw[e];rfl
theorem DP(C:lP prog w A s κ mem (fl f))(hm:∀x∈a₀.toList,mem x){st:aN}(B:TB κ a₀ st){i j:Nat}(hi:i<a₀.size)(hj:j<a₀.size){Q:Option Bool->aN->Prop}
  (h:Q (some (decide (Fk f (aL st) i<Fk f (aL st) j))) st):iN (aH prog w) A E s (ltAt' i j) Q st:=by
 obtain⟨x,e1,m1,k1⟩:=B.at (f:=f) hm hi;obtain⟨y,e2,m2,k2⟩:=B.at (f:=f) hm hj;rw[ltAt'_eq];refine bj (dL (bj (p7 e1 (bj (p7 e2 (Dz C B.kind m1 m2 ?_))))));rw[<-k1,<-k2]at h;exact h
theorem FP{st:aN}{i j:Nat}{Q:Unit->aN->Prop}(h:Q () (iZ st (gW (aL st) i j ((j-i)/2)))):iN (aH prog w) A E s (fE i j) Q st:=by rw[reverseSlice'_eq];exact bZ h
noncomputable abbrev UpS:=Option (Option Nat)×Nat
noncomputable abbrev DnS:=Option (Option Nat)×Nat×Nat
noncomputable def DL(lo a bE:Nat):StateT aN pR UpS:=xD [a:bE] ((none,a):UpS) λ_ c=>do
 let q <-ltAt' (lo+c.snd) (lo+c.snd-1)
 match q with
 | some b=>if b=true then aS (.done (none,c.snd))else aS (.yield (none,c.snd+1))
 | _=>aS (.done (some none,c.snd))
noncomputable def Dx(lo n bE:Nat):StateT aN pR (Option Nat):=do
 fE lo (lo+n)
 let c <-DL lo n bE
 match c.fst with
 | some r=>aS r
 | none=>aS (some c.snd)
noncomputable def Fz(lo n bE:Nat):StateT aN pR DnS:=xD [n:bE] ((none,n,0):DnS) λ_ c=>do
 let q <-ltAt' (lo+c.snd.fst) (lo+c.snd.fst-1)
 match q with
 | some b=>
  if b=true then
   if c.snd.snd>0 then do
    fE (lo+c.snd.fst-(c.snd.snd+1)) (lo+c.snd.fst)
    aS (.yield (none,c.snd.fst+1,0))
   else aS (.yield (none,c.snd.fst+1,0))
  else do
   let q2 <-ltAt' (lo+c.snd.fst-1) (lo+c.snd.fst)
   match q2 with
   | some b2=>if b2=true then aS (.done (none,c.snd.fst,c.snd.snd))else aS (.yield (none,c.snd.fst+1,c.snd.snd+1))
   | _=>aS (.done (some none,c.snd.fst,c.snd.snd))
 | _=>aS (.done (some none,c.snd.fst,c.snd.snd))
noncomputable def DB(lo n bE:Nat):StateT aN pR (Option Nat):=do
 liftM (wJ "list.sort.descending-run")
 let c <-Fz lo (n+1) bE
 match c.fst with
 | some r=>aS r
 | none=>
  if c.snd.snd>0 then do
   fE (lo+c.snd.fst-(c.snd.snd+1)) (lo+c.snd.fst)
   Dx lo c.snd.fst bE
  else Dx lo c.snd.fst bE
theorem ane(lo bE:Nat):countRun' lo bE=(do
  let c <-DL lo 1 bE
  match c.fst with
  | some r=>aS r
  | none=>
   if (c.snd==bE)=true then aS (some c.snd)
   else if c.snd>1 then do
    let q <-ltAt' lo (lo+c.snd-1)
    match q with
    | some b=>if b=true then aS (some c.snd)else do
      fE lo (lo+c.snd)
      DB lo c.snd bE
    | _=>aS none
   else DB lo c.snd bE):=by
 rw[countRun'_eq];dsimp only;unfold DB Dx Fz DL
 congr 1
 funext c
 obtain⟨r,n⟩:=c;cases r with
 | some r=>rfl
 | none=>
  dsimp only;split
  .rfl
  .split
   .congr 1
    funext x
    cases x with
    | none=>rfl
    | some b=>
     dsimp only;split
     .rfl
     .congr 1
      funext _r
      (congr 1;funext _u;congr 1;congr 1;funext c2;obtain⟨r2,n2,q2⟩:=c2;cases r2 with
       | some r2=>rfl
       | none=>(dsimp only;split;(congr 1;funext _v;(congr 1;funext _w;congr 1;(funext c3;obtain⟨r3,n3⟩:=c3;cases r3<;>rfl)));(congr 1;funext _w;congr 1;(funext c3;obtain⟨r3,n3⟩:=c3;cases r3<;>rfl))))
   ·(congr 1;funext _u;congr 1;congr 1;funext c2;obtain⟨r2,n2,q2⟩:=c2;cases r2 with
     | some r2=>rfl
     | none=>(dsimp only;split;(congr 1;funext _v;(congr 1;funext _w;congr 1;(funext c3;obtain⟨r3,n3⟩:=c3;cases r3<;>rfl)));(congr 1;funext _w;congr 1;(funext c3;obtain⟨r3,n3⟩:=c3;cases r3<;>rfl))))
theorem ao4(C:lP prog w A s κ mem (fl f))(hm:∀x∈a₀.toList,mem x){st:aN}{lo a bE:Nat}{Q:UpS->aN->Prop}(hn:lo+bE<=a₀.size)(ha:1<=a)(han:a<=bE)(B:TB κ a₀ st)(hs:Seg f (aL st) lo a)
  (h:∀n,a<=n->n<=bE->Seg f (aL st) lo n->(n=bE\/Fk f (aL st) (lo+n)<Fk f (aL st) (lo+n-1))->Q (none,n) st):iN (aH prog w) A E s (DL lo a bE) Q st:=by
 unfold DL;refine gw (I:=λx c aQ=>aQ=st/\c=(none,x)/\Seg f (aL st) lo x) ?step ?fin ⟨rfl,rfl,hs⟩
 case fin=>
  rintro c aQ ⟨rfl,rfl,dQ⟩;rw[show max a bE=bE from Nat.max_eq_right (by lia)]at dQ⊢;exact h bE han (aq _) dQ (.inl rfl)
 case step=>
  rintro x c aQ IB hxn ⟨rfl,rfl,dQ⟩;dsimp only;refine bj (DP C hm B (by lia) (by lia) ?_);by_cases hl:Fk f (aL aQ) (lo+x)<Fk f (aL aQ) (lo+x-1)
  .simp only[hl,decide_true,if_true];exact bx (h x IB (by lia) dQ (.inr hl))
  .simp only[hl,decide_false,bi,if_false];refine bx ⟨rfl,rfl,λi j hi cW hj=>?_⟩;by_cases Ib:j<lo+x
   .exact dQ i j hi cW Ib
   .obtain rfl:j=lo+x:=by lia
    by_cases eC:i=lo+x
    .rw[eC];exact jv _
    .have:=dQ i (lo+x-1) hi (by lia) (by lia);lia
noncomputable abbrev Lc(f:aJ->Int)(κ:aY)(a₀:Array aJ)(lo bE:Nat)(st:aN)(Q:Option Nat->aN->Prop):Prop:=
 ∀m aQ,TB κ a₀ aQ->Fr lo st aQ->1<=m->m<=bE->Seg f (aL aQ) lo m->Q (some m) aQ
theorem abv(C:lP prog w A s κ mem (fl f))(hm:∀x∈a₀.toList,mem x){st0 st:aN}{lo n bE:Nat}{Q:Option Nat->aN->Prop}(hn:lo+bE<=a₀.size)(h1:1<=n)(vA:n<=bE)(B:TB κ a₀ st)(F:Fr lo st0 st)(hs:Dsc f (aL st) lo n)
  (h:Lc f κ a₀ lo bE st0 Q):iN (aH prog w) A E s (Dx lo n bE) Q st:=by
 unfold Dx;have hsz:lo+n<=(aL st).size:=by rw[B.size];lia
 refine bj (FP ?_);have B':TB κ a₀ (iZ st (gW (aL st) lo (lo+n) ((lo+n-lo)/2))):=B.set (lC _ _ _ _);have F':=F.trans (Fr.mir (aq lo) hsz);refine bj (ao4 C hm hn h1 vA B' ?_ λm yT tM As _=>bx (h m _ B' F' (by lia) tM As));intro i j hi cW hj;show Fk f (gW (aL st) lo (lo+n) ((lo+n-lo)/2)) i<=Fk f (gW (aL st) lo (lo+n) ((lo+n-lo)/2)) j;rw[Kv hsz,Kv hsz,if_pos (by lia),if_pos (by lia)];exact hs _ _ (by lia) (by lia) (by lia)
theorem xj{xs ys:Array aJ}{lo x:Nat}(h1:1<=x)(hs:Dsc f xs lo x)(hk:∀k,Fk f ys k=Fk f xs k)(hl:Fk f xs (lo+x)<=Fk f xs (lo+x-1)):Dsc f ys lo (x+1):=by
 intro i j hi cW hj;rw[hk,hk];by_cases Ib:j<lo+x
 .exact hs i j hi cW Ib
 .obtain rfl:j=lo+x:=by lia
  by_cases eC:i=lo+x
  .rw[eC];exact jv _
  .have:=hs i (lo+x-1) hi (by lia) (by lia);lia
theorem ai0(C:lP prog w A s κ mem (fl f))(hm:∀x∈a₀.toList,mem x){st0 st:aN}{lo n bE:Nat}{Q:DnS->aN->Prop}(hn:lo+bE<=a₀.size)(h1:1<=n)(vA:n<=bE)(B:TB κ a₀ st)(F:Fr lo st0 st)(hs:Dsc f (aL st) lo n)
  (h:∀m q aQ,TB κ a₀ aQ->Fr lo st0 aQ->n<=m->m<=bE->Dsc f (aL aQ) lo m->q+1<=m->(∀i,lo+m-(q+1)<=i->i<lo+m->Fk f (aL aQ) i=Fk f (aL aQ) (lo+m-1))->Q (none,m,q) aQ) :
  iN (aH prog w) A E s (Fz lo n bE) Q st:=by
 unfold Fz;refine gw (I:=λx c aQ=>∃q,c=(none,x,q)/\TB κ a₀ aQ/\Fr lo st0 aQ/\Dsc f (aL aQ) lo x/\q+1<=x/\∀i,lo+x-(q+1)<=i->i<lo+x->Fk f (aL aQ) i=Fk f (aL aQ) (lo+x-1)) ?step ?fin ⟨0,rfl,B,F,hs,by lia,λi h1 h2=>by congr 1;lia⟩
 case fin=>
  intro c aQ bQ;refine hid λCg bR=>?_;obtain⟨q,rfl,B',F',dQ,hq,he⟩:=bQ;refine bR ?_;rw[show max n bE=bE from Nat.max_eq_right (by lia)]at dQ hq he⊢;exact h bE q aQ B' F' vA (aq _) dQ hq he
 case step=>
  intro x c aQ IB hxn bQ;refine hid λCg bR=>?_;obtain⟨q,rfl,B',F',dQ,hq,he⟩:=bQ;refine bR ?_;dsimp only;have hsz:lo+x<=(aL aQ).size:=by rw[B'.size];lia
  refine bj (DP C hm B' (by lia) (by lia) ?_);by_cases hl:Fk f (aL aQ) (lo+x)<Fk f (aL aQ) (lo+x-1)
  .simp only[hl,decide_true,if_true];refine oo (λ(Hv:q>0)=>?_) (λ(Hv:¬(q>0))=>?_)
   .exact bj (FP (bx ⟨0,rfl,B'.set (lC _ _ _ _),F'.trans (Fr.mir (by lia) hsz),xj (by lia) dQ (xm hsz he) (Int.le_of_lt hl),by lia,λi h1 h2=>by congr 1;lia⟩))
   .exact bx ⟨0,rfl,B',F',xj (by lia) dQ (λ_=>rfl) (Int.le_of_lt hl),by lia,λi h1 h2=>by congr 1;lia⟩
  .simp only[hl,decide_false,bi,if_false];refine bj (DP C hm B' (by lia) (by lia) ?_);by_cases hg:Fk f (aL aQ) (lo+x-1)<Fk f (aL aQ) (lo+x)
   .simp only[hg,decide_true,if_true];exact bx (h x q aQ B' F' IB (by lia) dQ hq he)
   .simp only[hg,decide_false,bi,if_false];have hx:Fk f (aL aQ) (lo+x)=Fk f (aL aQ) (lo+x-1):=by lia
    refine bx ⟨q+1,rfl,B',F',xj (by lia) dQ (λ_=>rfl) (by lia),by lia,λi h1 h2=>?_⟩;rw[show lo+(x+1)-1=lo+x by lia];by_cases hix:i=lo+x
    .rw[hix]
    .rw[hx];exact he i (by lia) (by lia)
theorem ab5(C:lP prog w A s κ mem (fl f))(hm:∀x∈a₀.toList,mem x){st0 st:aN}{lo n bE:Nat}{Q:Option Nat->aN->Prop}(hn:lo+bE<=a₀.size)(vA:n+1<=bE)(B:TB κ a₀ st)(F:Fr lo st0 st)(hs:Dsc f (aL st) lo (n+1))
  (h:Lc f κ a₀ lo bE st0 Q):iN (aH prog w) A E s (DB lo n bE) Q st:=by
 unfold DB;refine bj (gP (k8 ⟨rfl,?_⟩));refine bj (ai0 C hm hn (by lia) vA B F hs λm q aQ B' F' yT tM dQ hq he=>?_);dsimp only;have hsz:lo+m<=(aL aQ).size:=by rw[B'.size];lia
 refine oo (λ(Hv:q>0)=>?_) (λ(Hv:¬(q>0))=>?_)
 .refine bj (FP (abv C hm hn (by lia) tM (B'.set (lC _ _ _ _)) (F'.trans (Fr.mir (by lia) hsz)) ?_ h));intro i j hi cW hj;show Fk f (gW (aL aQ) _ _ _) j<=Fk f (gW (aL aQ) _ _ _) i;rw[xm hsz he,xm hsz he];exact dQ i j hi cW hj
 .exact abv C hm hn (by lia) tM B' F' dQ h
theorem ase(C:lP prog w A s κ mem (fl f))(hm:∀x∈a₀.toList,mem x){st:aN}{lo bE:Nat}{Q:Option Nat->aN->Prop}(hn:lo+bE<=a₀.size)(h1:1<=bE)(B:TB κ a₀ st)(h:Lc f κ a₀ lo bE st Q) :
  iN (aH prog w) A E s (countRun' lo bE) Q st:=by
 rw[ane]
 refine bj (ao4 C hm hn (aq 1) h1 B (λi j hi cW hj=>by obtain rfl:i=j:=by lia
                                                       exact jv _) λn iT lV yK hor=>?_)
 dsimp only;by_cases vA:n=bE
 .rw[if_pos (by simpa using vA)];exact bx (h n st B (Fr.refl _ _) iT lV yK)
 .rw[if_neg (by simpa using vA)];have cN:Fk f (aL st) (lo+n)<Fk f (aL st) (lo+n-1):=hor.resolve_left vA;refine oo (λ(hgt:n>1)=>?_) (λ(hgt:¬(n>1))=>?_)
  .refine bj (DP C hm B (by lia) (by lia) ?_);by_cases hr:Fk f (aL st) lo<Fk f (aL st) (lo+n-1)
   .simp only[hr,decide_true,if_true];exact bx (h n st B (Fr.refl _ _) iT lV yK)
   .simp only[hr,decide_false,bi,if_false];have hsz:lo+n<=(aL st).size:=by rw[B.size];lia
    have cQ:∀k,lo<=k->k<lo+n->Fk f (aL st) k=Fk f (aL st) (lo+n-1):=by intro k yV hk;have a1:=yK lo k (by lia) yV hk;have a2:=yK k (lo+n-1) (by lia) (by lia) (by lia);lia
    refine bj (FP (ab5 C hm hn (by lia) (B.set (lC _ _ _ _)) (Fr.mir (aq lo) hsz) (xj (xs:=aL st) iT ?_ (xm hsz cQ) (Int.le_of_lt cN)) h));intro i j hi cW hj;rw[cQ i (by lia) (by lia),cQ j (by lia) hj];exact jv _
  .obtain rfl:n=1:=by lia
   refine ab5 C hm hn (by lia) B (Fr.refl _ _) (xj (xs:=aL st) iT ?_ (λ_=>rfl) (Int.le_of_lt cN)) h;intro i j hi cW hj;obtain rfl:i=j:=by lia
   exact jv _
theorem aru(C:lP prog w A s κ mem (fl f))(hm:∀x∈a₀.toList,mem x){st:aN}{lo n ok:Nat}{Q:Bool->aN->Prop}(hn:lo+n<=a₀.size)(hok:ok<=n)(B:TB κ a₀ st)(hs:Seg f (aL st) lo ok)
  (h:∀aQ,TB κ a₀ aQ->Fr lo st aQ->Seg f (aL aQ) lo n->Q true aQ):iN (aH prog w) A E s (binarySort' lo n ok) Q st:=by
 rw[binarySort'_eq];refine bj (jg (gw (I:=λk c aQ=>c=(none,())/\TB κ a₀ aQ/\Fr lo st aQ/\Seg f (aL aQ) lo (lD k n)) (Q:=λc aQ=>c=(none,())/\TB κ a₀ aQ/\Fr lo st aQ/\Seg f (aL aQ) lo n) ?step ?fin ?init) ?post)
 case post=>
  intro c aQ bQ;refine hid λCg bR=>?_;obtain⟨rfl,B',F',dQ⟩:=bQ;refine bR ?_;exact bx (h aQ B' F' dQ)
 case init=>
  refine⟨rfl,B,Fr.refl _ _,λi j hi cW hj=>?_⟩;by_cases h1:ok=0
  .obtain rfl:i=j:=by lia
   exact jv _
  .exact hs i j hi cW (by lia)
 case fin=>
  intro c aQ bQ;refine hid λCg bR=>?_;obtain⟨hc,B',F',dQ⟩:=bQ;refine bR ?_;refine⟨hc,B',F',?_⟩
  rwa [show lD (max (max ok 1) n) n=n from Nat.min_eq_right (Nat.le_max_right _ _)]at dQ
 case step=>
  intro k c aQ hak dG bQ;refine hid λCg bR=>?_;obtain⟨rfl,B',F',dQ⟩:=bQ;refine bR ?_;rw[show lD k n=k from fk (by lia)]at dQ;have hk:lo+k<a₀.size:=by lia
  refine bj (jg (gw (I:=λx c cJ=>cJ=aQ/\∃l r,c=(none,l,r)/\l<=r/\r<=k/\r-l<=k-x/\(∀i,i<l->Fk f (aL aQ) (lo+i)<=Fk f (aL aQ) (lo+k))/\∀i,r<=i->i<k->Fk f (aL aQ) (lo+k)<Fk f (aL aQ) (lo+i))
   (Q:=λc cJ=>cJ=aQ/\∃l r,c=(none,l,r)/\l<=k/\(∀i,i<l->Fk f (aL aQ) (lo+i)<=Fk f (aL aQ) (lo+k))/\∀i,l<=i->i<k->Fk f (aL aQ) (lo+k)<Fk f (aL aQ) (lo+i)) ?istep ?ifin ?iinit) ?ipost)
  case iinit=>exact⟨rfl,(nq 0 k ⟨rfl,by lia,by lia,by lia,λi hi=>by lia,λi h1 h2=>by lia⟩)⟩
  case ifin=>
   intro c cJ bQ;refine hid λCg bR=>?_;obtain⟨rfl,l,r,rfl,hlr,Ht,hmm,qB,AA⟩:=bQ;refine bR ?_;obtain rfl:l=r:=by lia
   exact⟨rfl,(nq l l ⟨rfl,Ht,qB,AA⟩)⟩
  case istep=>
   intro x c cJ _ hxk bQ;refine hid λCg bR=>?_;obtain⟨rfl,l,r,rfl,hlr,Ht,hmm,qB,AA⟩:=bQ;refine bR ?_;dsimp only;refine oo (λ(kJ:l>=r)=>?_) (λ(kJ:¬(l>=r))=>?_)
   .obtain rfl:l=r:=by lia
    exact bx ⟨rfl,(nq l l ⟨rfl,Ht,qB,AA⟩)⟩
   .refine bj (DP C hm B' hk (by lia) ?_);by_cases hl:Fk f (aL cJ) (lo+k)<Fk f (aL cJ) (lo+(l+r)/2)
    .simp only[hl,decide_true,if_true];refine bx ⟨rfl,(nq l ((l+r)/2) ⟨rfl,by lia,by lia,by lia,qB,λi h1 h2=>?_⟩)⟩;have:=dQ (lo+(l+r)/2) (lo+i) (by lia) (by lia) (by lia);lia
    .simp only[hl,decide_false,bi,if_false];refine bx ⟨rfl,(nq ((l+r)/2+1) r ⟨rfl,by lia,by lia,by lia,λi h1=>?_,AA⟩)⟩;have:=dQ (lo+i) (lo+(l+r)/2) (by lia) (by lia) (by lia);lia
  case ipost=>
   intro c cJ bQ;refine hid λCg bR=>?_;obtain⟨rfl,l,r,rfl,yV,qB,AA⟩:=bQ;refine bR ?_;show iN _ _ _ _ (do moveDown' (lo+k) (lo+l);aS (ForInStep.yield (none,()))) _ _;rw[moveDown'_eq];have tP:lo+k<(aL cJ).size:=by rw[B'.size];exact hk
   refine bj (bZ (bx ⟨rfl,B'.set (bubble_perm _ _ _),F'.trans (Fr.bub tP (by lia) (by lia)),?_⟩));rw[show lD (k+1) n=k+1 from fk (by lia)];intro i j hi cW hj;show Fk f (AV (aL cJ) (lo+k) (lo+k-(lo+l))) i<=Fk f (AV (aL cJ) (lo+k) (lo+k-(lo+l))) j;rw[apy tP (by lia),apy tP (by lia),show lo+k-(lo+k-(lo+l))=lo+l by lia];have HX:∀i,lo<=i->i<lo+l->Fk f (aL cJ) i<=Fk f (aL cJ) (lo+k):=λi a1 a2=>by
    have:=qB (i-lo) (by lia)
    rwa [show lo+(i-lo)=i by lia]at this
   have Ie:∀i,lo+l<=i->i<lo+k->Fk f (aL cJ) (lo+k)<Fk f (aL cJ) i:=λi a1 a2=>by
    have:=AA (i-lo) (by lia) (by lia)
    rwa [show lo+(i-lo)=i by lia]at this
   repeat' split
   all_goals first
    | (exfalso;lia)
    | exact jv _
    | exact HX _ (by lia) (by lia)
    | exact Int.le_of_lt (Ie _ (by lia) (by lia))
    | exact dQ _ _ (by lia) (by lia) (by lia)
end
noncomputable def sq(arr:Array aJ)(l:List (aJ×Nat))(sa:Nat):Array aJ:=l.foldl (λa q=>a.setIfInBounds (sa+q.2) q.1) arr
theorem si(sa:Nat):∀(l:List aJ)(o:Nat)(arr:Array aJ),sa+o+l.length<=arr.size->∀k,(sq arr (l.zipIdx o) sa)[k]?=if sa+o<=k/\k<sa+o+l.length then l[k-(sa+o)]? else arr[k]?
 | [],o,arr,h,k=>by show arr[k]?=_;rw[if_neg (by show ¬(sa+o<=k/\k<sa+o+0);lia)]
 | x::l,o,arr,h,k=>by
  have h':sa+o+(l.length+1)<=arr.size:=by simpa using h
  show(sq (arr.setIfInBounds (sa+o) x) (l.zipIdx (o+1)) sa)[k]?=_;rw[si sa l (o+1) _ (by simp;lia) k];by_cases hk:k=sa+o
  .rw[if_neg (by lia),if_pos (by simp;lia),hk];simp[Array.getElem?_setIfInBounds];lia
  .by_cases h2:sa+(o+1)<=k/\k<sa+(o+1)+l.length
   .rw[if_pos h2,if_pos (by simp;lia)];obtain⟨d,hd⟩:∃d,k-(sa+o)=d+1:=⟨k-(sa+o)-1,by lia⟩;rw[hd,List.getElem?_cons_succ]
    congr 1
    lia
   .rw[if_neg h2,if_neg (by simp;lia),Array.getElem?_setIfInBounds_ne (by lia)]
theorem agp{arr:Array aJ}{l:List aJ}{sa:Nat}(h:sa+l.length<=arr.size):(sq arr l.zipIdx sa).toList=arr.toList.take sa++l++arr.toList.drop (sa+l.length):=by
 apply k9;intro k;have e:=si sa l 0 arr (by lia) k;rw[bm,e];have hs:arr.toList.length=arr.size:=by simp
 by_cases h1:k<sa
 .rw[if_neg (by lia),bz,cu (by simp;lia),fw h1,bm]
 .by_cases h2:k<sa+l.length
  .rw[if_pos (by lia),bz,cf (by simp;lia),cu (by simp;lia)]
   congr 1
   simp;lia
  .rw[if_neg (by lia),cf (by simp;lia),gm,bm]
   congr 1
   simp;lia
theorem afo{arr:Array aJ}{l:List aJ}{sa e:Nat}(he:sa<=e)(h:e<=arr.size)(hp:l.Perm (arr.extract sa e).toList):(sq arr l.zipIdx sa).Perm arr:=by
 have hl:l.length=e-sa:=by rw[hp.length_eq,ax,j7,fk h]
 rw[jz,agp (by lia)];have e2:arr.toList=arr.toList.take sa++(arr.extract sa e).toList++arr.toList.drop (sa+l.length):=by
  rw[hl,show sa+(e-sa)=e by lia];have:(arr.extract sa e).toList=(arr.toList.drop sa).take (e-sa):=by simp
  rw[this]
  conv=>lhs;rw[<-ff sa arr.toList,<-ff (e-sa) (arr.toList.drop sa),List.drop_drop,show sa+(e-sa)=e by lia]
  rw[bz]
 refine List.Perm.trans ?_ (List.Perm.of_eq e2.symm);exact(iy _ hp).append_right _
theorem af8{f:aJ->Int}{arr:Array aJ}{l:List aJ}{sa e:Nat}(he:sa<=e)(h:e<=arr.size)(hp:l.Perm (arr.extract sa e).toList){k:Nat}(h1:sa<=k)(h2:k<e):∃q,sa<=q/\q<e/\Fk f (sq arr l.zipIdx sa) k=Fk f arr q:=by
 have hl:l.length=e-sa:=by rw[hp.length_eq,ax,j7,fk h]
 have e1:=si sa l 0 arr (by lia) k;rw[if_pos (by lia)]at e1;have hk:k-(sa+0)<l.length:=by lia
 have hx:l[k-(sa+0)]∈(arr.extract sa e).toList:=hp.mem_iff.mp (eu hk);obtain⟨q,hq⟩:=cx.mp hx;rw[bm]at hq;have oZ:q<(arr.extract sa e).size:=(bp.mp hq).1;have Hu:q<e-sa:=by rw[j7,fk h]at oZ;exact oZ
 rw[Array.getElem?_extract,if_pos (by rw[fk h];exact Hu)]at hq;refine⟨sa+q,by lia,by lia,xz ?_⟩;rw[e1,hq,getElem?_pos l _ hk]
theorem aja{f:aJ->Int}{arr:Array aJ}{l:List aJ}{sa e:Nat}(he:sa<=e)(h:e<=arr.size)(hl:l.length=e-sa){k:Nat}(h1:k<sa\/e<=k):(sq arr l.zipIdx sa)[k]?=arr[k]?:=by rw[si sa l 0 arr (by lia) k,if_neg (by lia)]
theorem aic{f:aJ->Int}{arr:Array aJ}{l:List aJ}{sa e:Nat}(he:sa<=e)(h:e<=arr.size)(hl:l.length=e-sa)(hs:Srt (fl f) l):Seg f (sq arr l.zipIdx sa) sa (e-sa):=by
 intro i j hi cW hj;have e1:=si sa l 0 arr (by lia) i;have e2:=si sa l 0 arr (by lia) j;rw[if_pos (by lia)]at e1 e2;have kI:i-(sa+0)<l.length:=by lia
 have rX:j-(sa+0)<l.length:=by lia
 rw[getElem?_pos l _ kI]at e1;rw[getElem?_pos l _ rX]at e2;unfold Fk;rw[e1,e2];show f _<=f _;by_cases hq:i=j
 .subst hq;exact jv _
 .have:=ik.mp hs (i-(sa+0)) (j-(sa+0)) kI rX (by lia);simpa using this
section
variable{prog:aI}{w:aK}{A:Around}{E:aA->aB->Prop}{s:aB}
variable{κ:aY}{mem:aJ->Prop}{f:aJ->Int}{a₀:Array aJ}
theorem av4{st aQ:aN}{Q:PUnit->aN->Prop}(h:Q ⟨⟩ aQ):iN (aH prog w) A E s (set aQ:StateT aN pR PUnit) Q st:=by unfold iN;rw[StateT.run_set];exact af ⟨rfl,h⟩
theorem vk{xs:Array aJ}{i:Nat}{x:aJ}(h:xs[i]?=some x):Fk f xs i=f x:=by unfold Fk;rw[h];rfl
theorem agd(C:lP prog w A s κ mem (fl f))(hm:∀x∈a₀.toList,mem x){st:aN}{i sa na pa sb nb pb:Nat}(B:TB κ a₀ st)(hi:(aM st)[i]?=some (sa,na,pa))(Az:(aM st)[i+1]?=some (sb,nb,pb))(lH:sb=sa+na)(Cu:1<=na)(vB:1<=nb)(hsz:sb+nb<=a₀.size)
  (sA:Seg f (aL st) sa na) (sB:Seg f (aL st) sb nb) {Q:Bool->aN->Prop}
  (h:∀aQ,TB κ a₀ aQ->aM aQ=((aM st).setIfInBounds i (sa,na+nb,pa)).eraseIdxIfInBounds (i+1)->(∀k,k<sa\/sb+nb<=k->(aL aQ)[k]?=(aL st)[k]?)->Seg f (aL aQ) sa (na+nb)->Q true aQ) :
  iN (aH prog w) A E s (mergeAt' i) Q st:=by
 refine bj (dL ?_);rw[hi,Az];dsimp only;refine bj (av4 ?_);have B1:TB κ a₀ (aN.mk' (kindOf st) (aL st) (((aM st).setIfInBounds i (sa,na+nb,pa)).eraseIdxIfInBounds (i+1)) (oC st) (bL st)):=⟨B.perm,B.kind,B.failed⟩;have h1:=h _ B1 rfl;have h2:∀(g:Nat)(pP:Array aJ),pP.Perm (aL st)->(∀k,k<sa\/sb+nb<=k->pP[k]?=(aL st)[k]?)->Seg f pP sa (na+nb)->Q true (aN.mk' (kindOf st) pP (((aM st).setIfInBounds i (sa,na+nb,pa)).eraseIdxIfInBounds (i+1)) g (bL st)):=
  λg pP hp ho hs=>h (aN.mk' (kindOf st) pP (((aM st).setIfInBounds i (sa,na+nb,pa)).eraseIdxIfInBounds (i+1)) g (bL st)) ⟨hp.trans B.perm,B.kind,B.failed⟩ rfl ho hs
 have nW:=B.size;show iN (aH prog w) A E s _ Q (aN.mk' (kindOf st) (aL st) (((aM st).setIfInBounds i (sa,na+nb,pa)).eraseIdxIfInBounds (i+1)) (oC st) (bL st));generalize Cj:aN.mk' (kindOf st) (aL st) (((aM st).setIfInBounds i (sa,na+nb,pa)).eraseIdxIfInBounds (i+1)) (oC st) (bL st)=iY at B1 h1⊢;obtain⟨xb,exb,mxb,fxb⟩:=B.at (f:=f) hm (show sb<a₀.size by lia);have gK:∀i z,(aL st)[i]?=some z->mem z:=λi z hz=>hm z ((jz.mp B.perm).mem_iff.mp (by obtain⟨h1,h2⟩:=bp.mp hz;rw[<-h2];simp));have Et:aL iY=aL st:=by rw[<-Cj]
 refine bj (p7 exb (bj (wy (st:=iY) (base:=sa) (n:=na) (hint:=0) C (FJ f) B1.kind mxb (by lia) (λi z hi hz=>gK _ z hz) (by lia) (λi j y z cW hj hy hz=>?_) λk dG g1 g2=>?_)))
 .have:=sA (sa+i) (sa+j) (by lia) (by lia) (by lia);rw[vk hy,vk hz]at this;simpa using this
 have g1':∀q,sa<=q->q<sa+k->Fk f (aL st) q<=Fk f (aL st) sb:=λq q1 q2=>by obtain⟨z,ez,_,fz⟩:=B.at (f:=f) hm (show q<a₀.size by lia);have:=g1 (q-sa) z (by lia) (by rw[show sa+(q-sa)=q by lia];exact ez);rw[<-fxb,<-fz];simpa using this
 dsimp only;refine oo (λ(gM:(na-k==0)=true)=>?_) (λ(gM:¬(na-k==0)=true)=>?_)
 .have rV:na-k=0:=by simpa using gM
  refine bx (h1 (λq _=>by rw[Et]) ?_);rw[Et];intro i j hi cW hj;by_cases rX:j<sb
  .exact sA i j hi cW (by lia)
  .by_cases kI:i<sb
   .have a1:=g1' i hi (by lia);have a2:=sB sb j (aq _) (by lia) (by lia);lia
   .exact sB i j (by lia) cW (by lia)
 have rV:k<na:=by have:¬na-k=0:=by simpa using gM
                  lia
 obtain⟨xl,exl,mxl,fxl⟩:=B.at (f:=f) hm (show sb-1<a₀.size by lia);have IT:(aL st)[sa+k+(na-k)-1]?=some xl:=by rw[show sa+k+(na-k)-1=sb-1 by rw[j5,Nat.add_sub_cancel' (gj rV),<-lH]];exact exl
 refine bj (p7 IT (bj (Lr (st:=iY) (base:=sb) (n:=nb) (hint:=nb-1) C (FJ f) B1.kind mxl (by lia) (λi z hi hz=>gK _ z hz) (by lia) (λi j y z cW hj hy hz=>?_) λn2 lV g3 g4=>?_)))
 .have:=sB (sb+i) (sb+j) (by lia) (by lia) (by lia);rw[vk hy,vk hz]at this;simpa using this
 have g4':∀q,sb+n2<=q->q<sb+nb->Fk f (aL st) (sb-1)<=Fk f (aL st) q:=λq q1 q2=>by obtain⟨z,ez,_,fz⟩:=B.at (f:=f) hm (show q<a₀.size by lia);have:=g4 (q-sb) z (by lia) (by lia) (by rw[show sb+(q-sb)=q by lia];exact ez);rw[<-fxl,<-fz];simpa using this
 dsimp only;refine oo (λ(Av:(n2==0)=true)=>?_) (λ(Av:¬(n2==0)=true)=>?_)
 .have iT:n2=0:=by simpa using Av
  refine bx (h1 (λq _=>by rw[Et]) ?_);rw[Et];intro i j hi cW hj;by_cases rX:j<sb
  .exact sA i j hi cW (by lia)
  .by_cases kI:i<sb
   .have a1:=sA i (sb-1) hi (by lia) (by lia);have a2:=g4' j (by lia) (by lia);lia
   .exact sB i j (by lia) cW (by lia)
 have iT:1<=n2:=by have:¬n2=0:=by simpa using Av
                   lia
 have ga:∀q,((aL st).extract (sa+k) sb)[q]?=if q<sb-(sa+k)then(aL st)[sa+k+q]? else none:=λq=>by rw[Array.getElem?_extract];have:lD sb (aL st).size=sb:=fk (by lia);rw[this]
 have gb:∀q,((aL st).extract sb (sb+n2))[q]?=if q<n2 then(aL st)[sb+q]? else none:=λq=>by
  rw[Array.getElem?_extract];have:lD (sb+n2) (aL st).size-sb=n2:=by rw[fk (by lia)];exact Nat.add_sub_cancel_left _ _
  rw[this]
 have za:((aL st).extract (sa+k) sb).size=sb-(sa+k):=by rw[j7,fk (by lia)]
 have zb:((aL st).extract sb (sb+n2)).size=n2:=by rw[j7,fk (by lia)];exact Nat.add_sub_cancel_left _ _
 have inA:∀z∈((aL st).extract (sa+k) sb).toList,∃q,sa+k<=q/\q<sb/\(aL st)[q]?=some z:=λz hz=>by
  obtain⟨q,hq⟩:=cx.mp hz;rw[bm,ga]at hq;by_cases oZ:q<sb-(sa+k)
  .rw[if_pos oZ]at hq;exact⟨_,by lia,by lia,hq⟩
  .rw[if_neg oZ]at hq;cases hq
 have inB:∀z∈((aL st).extract sb (sb+n2)).toList,∃q,q<n2/\(aL st)[sb+q]?=some z:=λz hz=>by
  obtain⟨q,hq⟩:=cx.mp hz;rw[bm,gb]at hq;by_cases oZ:q<n2
  .rw[if_pos oZ]at hq;exact⟨_,oZ,hq⟩
  .rw[if_neg oZ]at hq;cases hq
 have wC:∀(lo m:Nat),lo+m<=(aL st).size->Seg f (aL st) lo m->Srt (fl f) ((aL st).extract lo (lo+m)).toList:=λlo m kF hs=>by
  refine ik.mpr λi j hi hj cW=>?_;have zi:((aL st).extract lo (lo+m)).toList.length=m:=by rw[ax,j7,fk kF];exact Nat.add_sub_cancel_left _ _
  have:=hs (lo+i) (lo+j) (by lia) (by lia) (by lia);rw[vk (getElem?_pos (aL st) (lo+i) (by lia)),vk (getElem?_pos (aL st) (lo+j) (by lia))]at this;simpa using this
 have T:Two mem (fl f) ((aL st).extract (sa+k) sb) ((aL st).extract sb (sb+n2)):=by
  refine⟨λz hz=>?_,λz hz=>?_,?_,wC sb n2 (by lia) λi j hi cW hj=>sB i j hi cW (by lia),by lia,by lia,λx y hx hy=>?_,λy hy x hx=>?_⟩
  .obtain⟨q,_,_,hq⟩:=inA z hz;exact gK q z hq
  .obtain⟨q,_,hq⟩:=inB z hz;exact gK _ z hq
  .have:=wC (sa+k) (na-k) (by lia) λi j hi cW hj=>sA i j (by lia) cW (by lia)
   rwa [show sa+k+(na-k)=sb by rw[j5,Nat.add_sub_cancel' (gj rV),<-lH]]at this
  .rw[gb,if_pos (by lia)]at hx;rw[ga,if_pos (by lia)]at hy;have e0:x=xb:=by rw[Nat.add_zero,exb]at hx;exact(cr hx).symm
   rw[e0];exact g2 k y (aq _) rV (by simpa using hy)
  .obtain⟨q,Cq,hq⟩:=inB y hy;rw[za,ga,if_pos (by lia),show sa+k+(sb-(sa+k)-1)=sb-1 by rw[<-Nat.add_sub_assoc (by lia),Nat.add_sub_cancel' (by lia)],exl]at hx;rw[<-cr hx];exact g3 q y Cq hq
 have jQ:((aL st).extract (sa+k) sb).toList++((aL st).extract sb (sb+n2)).toList=((aL st).extract (sa+k) (sb+n2)).toList:=by
  rw[<-Array.toList_append,Array.extract_append_extract]
  congr 2<;>lia
 have fin:∀(out:Array aJ)(aQ:aN),SameG iY aQ->qi (fl f) ((aL st).extract (sa+k) sb).toList ((aL st).extract sb (sb+n2)).toList out.toList->Q true (iZ aQ (sq (aL aQ) out.toList.zipIdx (sa+k))):=by
  intro out aQ G M;have hp:out.toList.Perm ((aL st).extract (sa+k) (sb+n2)).toList:=by rw[<-jQ];exact M.1
  have hl:out.toList.length=sb+n2-(sa+k):=by rw[hp.length_eq,ax,j7,fk (by lia)]
  have e1:iZ aQ (sq (aL aQ) out.toList.zipIdx (sa+k))=aN.mk' (kindOf st) (sq (aL st) out.toList.zipIdx (sa+k)) (((aM st).setIfInBounds i (sa,na+nb,pa)).eraseIdxIfInBounds (i+1)) (oC aQ) (bL st):=by show aN.mk' (kindOf aQ) (sq (aL aQ) _ _) (aM aQ) (oC aQ) (bL aQ)=_;rw[G.1,G.2.1,G.2.2.1,G.2.2.2,<-Cj]
  rw[e1];have sM:=aic (f:=f) (arr:=aL st) (show sa+k<=sb+n2 by lia) (by lia) hl M.2;have xB:∀q,sa+k<=q->q<sb+n2->∃p,sa+k<=p/\p<sb+n2/\Fk f (sq (aL st) out.toList.zipIdx (sa+k)) q=Fk f (aL st) p:=λq q1 q2=>af8 (f:=f) (show sa+k<=sb+n2 by lia) (by lia) hp q1 q2;have cV:∀q,q<sa+k\/sb+n2<=q->(sq (aL st) out.toList.zipIdx (sa+k))[q]?=(aL st)[q]?:=λq hq=>aja (f:=f) (show sa+k<=sb+n2 by lia) (by lia) hl hq;refine h2 _ _ (afo (show sa+k<=sb+n2 by lia) (by lia) hp) (λq hq=>cV q (by lia)) ?_;have qV:∀i p,sa<=i->i<sa+k->sa+k<=p->p<sb+nb->Fk f (aL st) i<=Fk f (aL st) p:=λi p i1 i2 p1 p2=>by
   by_cases rN:p<sb
   .exact sA i p i1 (by lia) (by lia)
   .have a1:=g1' i i1 i2;have a2:=sB sb p (aq _) (by lia) (by lia);lia
  have CI:∀p j,sa<=p->p<sb+n2->sb+n2<=j->j<sb+nb->Fk f (aL st) p<=Fk f (aL st) j:=λp j p1 p2 j1 j2=>by
   by_cases rN:p<sb
   .have a1:=sA p (sb-1) p1 (by lia) (by lia);have a2:=g4' j j1 j2;lia
   .exact sB p j (by lia) (by lia) (by lia)
  intro i j hi cW hj;by_cases kI:i<sa+k
  .rw[xz (f:=f) (cV i (.inl kI))];by_cases rX:j<sa+k
   .rw[xz (f:=f) (cV j (.inl rX))];exact sA i j hi cW (by lia)
   .by_cases Ay:j<sb+n2
    .obtain⟨p,p1,p2,ep⟩:=xB j (by lia) Ay;rw[ep];exact qV i p hi kI p1 (by lia)
    .rw[xz (f:=f) (cV j (.inr (by lia)))];exact qV i j hi kI (by lia) (by lia)
  .by_cases hi3:i<sb+n2
   .by_cases Ay:j<sb+n2
    .exact sM i j (by lia) cW (by lia)
    .obtain⟨p,p1,p2,ep⟩:=xB i (by lia) hi3;rw[ep,xz (f:=f) (cV j (.inr (by lia)))];exact CI p j (by lia) p2 (by lia) (by lia)
   .rw[xz (f:=f) (cV i (.inr (by lia))),xz (f:=f) (cV j (.inr (by lia)))];exact sB i j (by lia) cW (by lia)
 have done:∀(out:Array aJ)(aQ:aN),SameG iY aQ->qi (fl f) ((aL st).extract (sa+k) sb).toList ((aL st).extract sb (sb+n2)).toList out.toList->
   iN (aH prog w) A E s (do
    modify λz=>iZ z (sq (aL z) out.toList.zipIdx (sa+k))
    let z <-get
    aS (bL z).isNone) Q aQ:=by
  intro out aQ G M;refine bj (bZ (bj (dL (bx ?_))));have e:(bL (iZ aQ (sq (aL aQ) out.toList.zipIdx (sa+k)))).isNone=true:=by show(bL aQ).isNone=true;rw[G.2.2.2,B1.failed];rfl
  rw[e];exact fin out aQ G M
 refine oo (λ(lX:na-k<=n2)=>?_) (λ(lX:¬(na-k<=n2))=>?_)
 .exact bj (age C (FJ f) B1.kind T done)
 .exact bj (afv C (FJ f) B1.kind T done)
end
def sS:Nat->List (Nat×Nat×Nat)->Nat->Prop
 | a,[],b=>a=b
 | a,e::r,b=>e.1=a/\1<=e.2.1/\sS (a+e.2.1) r b
theorem tile_app:∀{l1 l2:List (Nat×Nat×Nat)} {a b:Nat},sS a (l1++l2) b↔∃c,sS a l1 c/\sS c l2 b
 | [],l2,a,b=>⟨λh=>⟨a,rfl,h⟩,λ⟨c,h1,h2⟩=>by cases h1;exact h2⟩
 | e::r,l2,a,b=>⟨λh=>by obtain⟨c,h1,h2⟩:=tile_app.mp h.2.2;exact⟨c,⟨h.1,h.2.1,h1⟩,h2⟩,λ⟨c,h1,h2⟩=>⟨h1.1,h1.2.1,tile_app.mpr ⟨c,h1.2.2,h2⟩⟩⟩
theorem F5:∀{l:List (Nat×Nat×Nat)} {a b:Nat},sS a l b->a+l.length<=b
 | [],a,b,h=>by cases h;exact aq _
 | e::r,a,b,h=>by have:=F5 h.2.2;have:=h.2.1;simp only[b7];lia
theorem zw:∀{l:List (Nat×Nat×Nat)} {a b:Nat},sS a l b->∀e∈l,a<=e.1/\e.1+e.2.1<=b
 | [],a,b,h,e,he=>by simp at he
 | d::r,a,b,h,e,he=>by
  have l:=F5 h.2.2;have:=h.1;have:=h.2.1;rcases bb.mp he with rfl|he
  .lia
  .have:=zw h.2.2 e he;lia
noncomputable abbrev prT(e:Nat×Nat×Nat):Nat×Nat:=(e.1,e.2.1)
theorem ad0:∀{l l':List (Nat×Nat×Nat)} {a b:Nat},l'.map prT=l.map prT->sS a l b->sS a l' b
 | [],[],a,b,_,h=>h
 | [],e::r,a,b,q,h=>by simp at q
 | d::r,[],a,b,q,h=>by simp at q
 | d::r,e::r',a,b,q,h=>by rw[cy,cy]at q;obtain⟨q1,q2⟩:=List.cons.inj q;obtain⟨e1,e2⟩:e.1=d.1/\e.2.1=d.2.1:=Prod.mk.inj q1;refine⟨e1.trans h.1,by rw[e2];exact h.2.1,?_⟩;rw[e2];exact ad0 q2 h.2.2
theorem aev(p:Array (Nat×Nat×Nat))(k w:Nat):(p.modify k λx=>(x.fst,x.2.fst,w)).toList.map prT=p.toList.map prT:=by
 apply k9;intro i;rw[au,au,bm,bm,Array.getElem?_modify];split
 .cases p[i]?<;>rfl
 .rfl
structure PInv(f:aJ->Int)(κ:aY)(a₀:Array aJ)(lo:Nat)(st:aN):Prop where
 base:TB κ a₀ st
 tile:sS 0 (aM st).toList lo
 segs:∀e∈(aM st).toList,Seg f (aL st) e.1 e.2.1
 top:lo<=a₀.size
theorem yb{f:aJ->Int}{xs ys:Array aJ}{lo n:Nat}(h:Seg f xs lo n)(e:∀k,lo<=k->k<lo+n->ys[k]?=xs[k]?):Seg f ys lo n:=λi j hi cW hj=>by rw[xz (f:=f) (e i hi (by lia)),xz (f:=f) (e j (by lia) hj)];exact h i j hi cW hj
section
variable{κ:aY}{f:aJ->Int}{a₀:Array aJ}{lo:Nat}{st aQ:aN}
theorem PInv.frame(P:PInv f κ a₀ lo st)(B:TB κ a₀ aQ)(F:Fr lo st aQ):PInv f κ a₀ lo aQ:=by refine⟨B,by rw[F.pend];exact P.tile,λe he=>?_,P.top⟩;rw[F.pend]at he;have:=zw P.tile e he;exact yb (P.segs e he) λk h1 h2=>F.low k (by lia)
theorem PInv.like(P:PInv f κ a₀ lo st){p:Array (Nat×Nat×Nat)}(h:p.toList.map prT=(aM st).toList.map prT):PInv f κ a₀ lo (setPending st p):=by
 refine⟨⟨P.base.perm,P.base.kind,P.base.failed⟩,ad0 h P.tile,λe he=>?_,P.top⟩;have h1:prT e∈(aM st).toList.map prT:=by rw[<-h];exact bf.mpr ⟨e,he,rfl⟩
 obtain⟨d,hd,ed⟩:=bf.mp h1;obtain⟨e1,e2⟩:d.1=e.1/\d.2.1=e.2.1:=Prod.mk.inj ed;have:=P.segs d hd;rw[e1,e2]at this;exact this
theorem PInv.push(P:PInv f κ a₀ lo st){n w:Nat}(h1:1<=n)(ht:lo+n<=a₀.size)(hs:Seg f (aL st) lo n):PInv f κ a₀ (lo+n) (setPending st ((aM st).push (lo,n,w))):=by
 refine⟨⟨P.base.perm,P.base.kind,P.base.failed⟩,?_,λe he=>?_,ht⟩
 .show sS 0 ((aM st).push (lo,n,w)).toList (lo+n);rw[Array.toList_push];exact tile_app.mpr ⟨lo,P.tile,rfl,h1,rfl⟩
 .have iJ:e∈((aM st).push (lo,n,w)).toList:=he;rw[Array.toList_push]at iJ;rcases ay.mp iJ with h|h
  .exact P.segs e h
  .rw[ao.mp h];exact hs
end
section
variable{prog:aI}{w:aK}{A:Around}{E:aA->aB->Prop}{s:aB}
variable{κ:aY}{mem:aJ->Prop}{f:aJ->Int}{a₀:Array aJ}
theorem ze(C:lP prog w A s κ mem (fl f))(hm:∀x∈a₀.toList,mem x){st:aN}{i lo:Nat}(P:PInv f κ a₀ lo st)(hi:i+1<(aM st).size){Q:Bool->aN->Prop}
  (h:∀aQ,PInv f κ a₀ lo aQ->(aM aQ).size+1=(aM st).size->(∀k,lo<=k->(aL aQ)[k]?=(aL st)[k]?)->Q true aQ):iN (aH prog w) A E s (mergeAt' i) Q st:=by
 obtain⟨⟨sa,na,pa⟩,e1⟩:∃e,(aM st)[i]?=some e:=⟨_,getElem?_pos _ i (by lia)⟩;obtain⟨⟨sb,nb,pb⟩,e2⟩:∃e,(aM st)[i+1]?=some e:=⟨_,getElem?_pos _ (i+1) hi⟩;obtain⟨l1,l2,hl,bD⟩:∃l1 l2,(aM st).toList=l1++(sa,na,pa)::(sb,nb,pb)::l2/\l1.length=i:=by
  refine(nq ((aM st).toList.take i) ((aM st).toList.drop (i+2)) ⟨?_,by simp;lia⟩);have CJ:i<(aM st).toList.length:=by simp;lia
  have Az:i+1<(aM st).toList.length:=by simp;lia
  conv=>lhs;rw[<-ff i (aM st).toList,List.drop_eq_getElem_cons CJ,List.drop_eq_getElem_cons Az]
  have a1:(aM st).toList[i]=(sa,na,pa):=by have:=e1;rw[<-bm,getElem?_pos _ i CJ]at this;exact cr this
  have a2:(aM st).toList[i+1]=(sb,nb,pb):=by have:=e2;rw[<-bm,getElem?_pos _ (i+1) Az]at this;exact cr this
  rw[a1,a2]
 have ht:=P.tile;rw[hl]at ht;obtain⟨c,t1,t2⟩:=tile_app.mp ht;obtain⟨h1,h2,h3,h4,t3⟩:=t2;dsimp only at h1 h2 h3 h4 t3;have hlast:=F5 t3;have sA:=P.segs (sa,na,pa) (by rw[hl];simp);have sB:=P.segs (sb,nb,pb) (by rw[hl];simp);have top:=P.top;refine agd C hm P.base e1 e2 (by lia) h2 h4 (by lia) sA sB λaQ B' hp ho hs=>h aQ ?_ ?_ λk hk=>ho k (.inr (by lia))
 .have rN:(aM aQ).toList=l1++(sa,na+nb,pa)::l2:=by
   rw[hp,Array.toList_eraseIdxIfInBounds,Array.toList_setIfInBounds,hl];rw[List.set_append_right _ _ (by lia),bD,j8,List.set_cons_zero,List.eraseIdx_append_of_length_le (by lia),bD,show i+1-i=1 by lia];rfl
  refine⟨B',?_,λe he=>?_,top⟩
  .rw[rN];refine tile_app.mpr ⟨c,t1,h1,by show 1<=na+nb;lia,?_⟩;show sS (c+(na+nb)) l2 lo;rw[show c+(na+nb)=c+na+nb by lia];exact t3
  .rw[rN]at he;rcases ay.mp he with q|q
   .have a1:=zw t1 e q;exact yb (P.segs e (by rw[hl];exact jq _ q)) λk k1 k2=>ho k (.inl (by lia))
   .rcases bb.mp q with q|q
    .rw[q];exact hs
    .have a1:=zw t3 e q;exact yb (P.segs e (by rw[hl];simp[q])) λk k1 k2=>ho k (.inr (by lia))
 .have:=congrArg List.length (show(aM aQ).toList=l1++(sa,na+nb,pa)::l2 by
   rw[hp,Array.toList_eraseIdxIfInBounds,Array.toList_setIfInBounds,hl];rw[List.set_append_right _ _ (by lia),bD,j8,List.set_cons_zero,List.eraseIdx_append_of_length_le (by lia),bD,show i+1-i=1 by lia];rfl)
  have q:=congrArg List.length hl;simp at this q;lia
theorem af5(C:lP prog w A s κ mem (fl f))(hm:∀x∈a₀.toList,mem x){st:aN}(B:TB κ a₀ st)(h0:aM st=#[]){Q:Unit->aN->Prop}
  (h:∀aQ,TB κ a₀ aQ->Seg f (aL aQ) 0 a₀.size->Q () aQ):iN (aH prog w) A E s sortRuns' Q st:=by
 rw[sortRuns'_eq];refine bj (dL ?_);dsimp only;simp only[B.size];refine bj (jg (gw (I:=λx c aQ=>∃lo,c=(none,lo)/\x<=lo/\PInv f κ a₀ lo aQ) (Q:=λc aQ=>c=(none,a₀.size)/\PInv f κ a₀ a₀.size aQ) ?step ?fin ?init) ?post)
 case init=>exact⟨0,rfl,aq _,B,by rw[h0];rfl,λe he=>by rw[h0]at he;simp at he,f7 _⟩
 case fin=>
  intro c aQ bQ;refine hid λCg bR=>?_;obtain⟨lo,rfl,hx,P⟩:=bQ;refine bR ?_;have:=P.top;obtain rfl:lo=a₀.size:=by lia
  exact⟨rfl,P⟩
 case step=>
  intro x c aQ _ hx bQ;refine hid λCg bR=>?_;obtain⟨lo,rfl,qB,P⟩:=bQ;refine bR ?_;dsimp only;have top:=P.top;refine oo (λ(kJ:lo>=a₀.size)=>?_) (λ(kJ:¬(lo>=a₀.size))=>?_)
  .obtain rfl:lo=a₀.size:=by lia
   exact bx ⟨rfl,P⟩
  refine bj (ase C hm (by lia) (by lia) P.base λn eR B2 F2 n1 n2 s2=>?_);dsimp only;refine oo (λ(HP:n<mK a₀.size a₀.size 0)=>?_) (λ(HP:¬(n<mK a₀.size a₀.size 0))=>?_)
  .refine bj (gP (k8 ⟨rfl,?_⟩));refine bj (aru C hm (by lia) (by lia) B2 s2 λfJ B3 F3 s3=>?_);rw[if_neg (by simp)];have f1:1<=(lD (a₀.size-lo) (mK a₀.size a₀.size 0)):=by lia
   have P3:PInv f κ a₀ lo fJ:=P.frame B3 (F2.trans F3);refine bj (dL ?_);cases hb:(aM fJ).back? with
   | none=>
    dsimp only;exact bj (bZ (bx ⟨_,rfl,by lia,P3.push f1 (by lia) s3⟩))
   | some e=>
    obtain⟨s1,m1,w1⟩:=e;dsimp only;refine bj (jg (gw (I:=λ_ c cM=>c=(none,())/\PInv f κ a₀ lo cM/\Seg f (aL cM) lo (lD (a₀.size-lo) (mK a₀.size a₀.size 0))) (Q:=λc cM=>c=(none,())/\PInv f κ a₀ lo cM/\Seg f (aL cM) lo (lD (a₀.size-lo) (mK a₀.size a₀.size 0))) ?_ (λ_ _ hh=>hh) ⟨rfl,P3,s3⟩) ?_)
    .rintro y c cM _ hy ⟨rfl,P4,s4⟩;refine bj (dL ?_);by_cases h2:(aM cM).size>1
     .rw[if_pos h2,getElem?_pos (aM cM) ((aM cM).size-2) (by lia)];dsimp only;split
      .exact bx ⟨rfl,P4,s4⟩
      .refine bj (ze C hm P4 (by lia) λiD P5 _ ho=>?_);rw[if_neg (by simp)];exact bx ⟨rfl,P5,yb s4 λk k1 _=>ho k k1⟩
     .rw[if_neg h2];exact bx ⟨rfl,P4,s4⟩
    .rintro c cM ⟨rfl,P4,s4⟩;dsimp only;refine bj (bZ ?_);have P5:=P4.like (p:=(aM cM).modify ((aM cM).size-1) λx=>(x.fst,x.2.fst,power' a₀.size (2*s1+m1) (2*s1+m1+m1+(lD (a₀.size-lo) (mK a₀.size a₀.size 0))) a₀.size)) (aev _ _ _);exact bj (bZ (bx ⟨_,rfl,by lia,P5.push f1 (by lia) s4⟩))
  .have P3:PInv f κ a₀ lo eR:=P.frame B2 F2;refine bj (dL ?_);cases hb:(aM eR).back? with
   | none=>
    dsimp only;exact bj (bZ (bx ⟨_,rfl,by lia,P3.push n1 (by lia) s2⟩))
   | some e=>
    obtain⟨s1,m1,w1⟩:=e;dsimp only;refine bj (jg (gw (I:=λ_ c cM=>c=(none,())/\PInv f κ a₀ lo cM/\Seg f (aL cM) lo n) (Q:=λc cM=>c=(none,())/\PInv f κ a₀ lo cM/\Seg f (aL cM) lo n) ?_ (λ_ _ hh=>hh) ⟨rfl,P3,s2⟩) ?_)
    .rintro y c cM _ hy ⟨rfl,P4,s4⟩;refine bj (dL ?_);by_cases h2:(aM cM).size>1
     .rw[if_pos h2,getElem?_pos (aM cM) ((aM cM).size-2) (by lia)];dsimp only;split
      .exact bx ⟨rfl,P4,s4⟩
      .refine bj (ze C hm P4 (by lia) λiD P5 _ ho=>?_);rw[if_neg (by simp)];exact bx ⟨rfl,P5,yb s4 λk k1 _=>ho k k1⟩
     .rw[if_neg h2];exact bx ⟨rfl,P4,s4⟩
    .rintro c cM ⟨rfl,P4,s4⟩;dsimp only;refine bj (bZ ?_);have P5:=P4.like (p:=(aM cM).modify ((aM cM).size-1) λx=>(x.fst,x.2.fst,power' a₀.size (2*s1+m1) (2*s1+m1+m1+n) a₀.size)) (aev _ _ _);exact bj (bZ (bx ⟨_,rfl,by lia,P5.push n1 (by lia) s4⟩))
 case post=>
  rintro c aQ ⟨rfl,P⟩;dsimp only;refine bj (jg (gw (I:=λx c cJ=>c=(none,())/\PInv f κ a₀ a₀.size cJ/\(aM cJ).size<=max 1 (a₀.size-x)) (Q:=λc cJ=>c=(none,())/\PInv f κ a₀ a₀.size cJ/\(aM cJ).size<=1) ?_ ?_ ?_) ?_)
  .rintro x c cJ _ hx ⟨rfl,P2,hsz⟩;refine bj (dL ?_);refine oo (λ(h1:(aM cJ).size<=1)=>?_) (λ(h1:¬((aM cJ).size<=1))=>?_)
   .exact bx ⟨rfl,P2,h1⟩
   .refine bj (ze C hm P2 (by(repeat' split)<;>lia) λiD P5 hz _=>?_);rw[if_neg (by simp)];exact bx ⟨rfl,P5,by lia⟩
  .rintro c cJ ⟨rfl,P2,hsz⟩;exact⟨rfl,P2,by lia⟩
  .refine⟨rfl,P,?_⟩;have:=F5 P.tile;simp at this;lia
  .rintro c cJ ⟨rfl,P2,hsz⟩;refine bx (h cJ P2.base ?_);have t:=P2.tile;have sg:=P2.segs;have hl:(aM cJ).toList.length<=1:=by simpa using hsz
   match hq:(aM cJ).toList,hl with
   | [],_=>
    rw[hq]at t;intro i j hi cW hj;have:0=a₀.size:=t;lia
   | [e],_=>
    rw[hq]at t sg;have a1:=t.1;have a2:0+e.2.1=a₀.size:=t.2.2;have a3:=sg e (by simp);rw[a1,show e.2.1=a₀.size by lia]at a3;exact a3
end
end L3
namespace L3
open PySem PySem.Spec PyProof.Rows L2
structure CZ where
 cl:List (Str×aE)
 C:aE
 s:aB
 H:Hp
 ex:List aE
noncomputable def ox(X:Cx)(N:List Str)(scope:cK)(z:CZ):Cx where
 prog:=X.prog
 w:=X.w
 K:=X.K
 mg:=X.mg
 base:=X.base
 A:=X.A
 N:=N
 s₀:=z.s
 H₀:=z.H
 env:=compEnvC scope z.cl z.C X.env
 outer:=X.stack
 stack:=X.stack
 ex:=z.ex
 calm:=X.calm
 fn:=λ_=>false
 pn:=[]
 xe:=λ_ _=>False
noncomputable def qw(cells:List (Str×aE)):List (Str×aT)->List (Str×aE)->List (Str×aE)
 | [],cs=>cs
 | (n,k)::r,cs=>if (k==aT.free)=true then(match cells.lookup n with|some c=>qw cells r ((n,c)::cs)|none=>qw cells r cs)else qw cells r cs
theorem xg{scope:cK}{env:oN}(h:∀x∈scope.names,x.2=.free->∃c,env.cells.lookup x.1=some c):oF scope env=aS (qw env.cells scope.names []):=by
 have go:∀(l:List (Str×aT)) (cs:List (Str×aE)),(∀x∈l,x.2=.free->∃c,env.cells.lookup x.1=some c)->
   (xD l cs λ(x:Str×aT) (cs:List (Str×aE))=>if (x.2==aT.free)=true then do let a <-cellOf env x.1;aS (ForInStep.yield ((x.1,a)::cs))else aS (ForInStep.yield cs):pR (List (Str×aE)))=aS (qw env.cells l cs):=by
  intro l;induction l with
  | nil=>intro cs _;rfl
  | cons x r ih=>
   intro cs hx;obtain⟨n,k⟩:=x;rw[List.forIn_cons];have ih':=λcs=>ih cs λy hy=>hx y (a8 _ hy);unfold qw;dsimp only;by_cases hk:(k==aT.free)=true
   .obtain⟨c,hc⟩:=hx (n,k) aw (by simpa using hk);rw[if_pos hk,if_pos hk];simp only at hc;simp only[cellOf,hc,pure_bind];exact ih' _
   .rw[if_neg hk,if_neg hk];simp only[pure_bind];exact ih' _
 unfold oF;have e:=go scope.names [] h;simp only[bind_pure]at e⊢;exact e
theorem xp{cells:List (Str×aE)}{x:Str}{c:aE}:∀{l:List (Str×aT)} {cs:List (Str×aE)},(qw cells l cs).lookup x=some c->cells.lookup x=some c\/cs.lookup x=some c
 | [],cs,h=>.inr h
 | (n,k)::r,cs,h=>by
  unfold qw at h;split at h
  .split at h
   .rename_i c0 e
    rcases xp h with q|q
    .exact .inl q
    .rw[jp]at q;split at q
     .rename_i hx
      have tJ:x=n:=by simpa using hx
      cases q;rw[tJ];exact .inl e
     .exact .inr q
   .exact xp h
  .exact xp h
theorem sy{cells:List (Str×aE)}{x:Str}:∀{l:List (Str×aT)} {cs:List (Str×aE)},(∃c,cs.lookup x=some c)->∃c,(qw cells l cs).lookup x=some c
 | [],cs,h=>h
 | (n,k)::r,cs,h=>by
  unfold qw;split
  .split
   .refine sy ?_;rw[jp];split
    .exact⟨_,rfl⟩
    .exact h
   .exact sy h
  .exact sy h
theorem v8{cells:List (Str×aE)}{x:Str}:∀{l:List (Str×aT)} {cs:List (Str×aE)},(x,aT.free)∈l->(∃c,cells.lookup x=some c)->∃c,(qw cells l cs).lookup x=some c
 | (n,k)::r,cs,hm,h=>by
  unfold qw;rcases bb.mp hm with e|hm
  .cases e;obtain⟨c,hc⟩:=h;rw[if_pos (show(aT.free==aT.free)=true from rfl),hc];refine sy ?_;rw[jp];simp
  .split
   .split
    .exact v8 hm h
    .exact v8 hm h
   .exact v8 hm h
theorem afk{scope:cK}{env:oN}{x:Str}(tK:∀y∈scope.names,y.2≠.cell)(h:(relabel scope env).names.lookup x=some .cell\/(relabel scope env).names.lookup x=some .free):(x,aT.free)∈scope.names:=by
 rcases h with h|h
 .have hm:=je h;obtain⟨⟨n,k⟩,hy,e⟩:=bf.mp hm;dsimp only at e;split at e
  .rename_i hc
   simp only[dz,beq_iff_eq]at hc;cases e;rw[hc.1.1]at hy;exact hy
  .cases e;exact absurd rfl (tK _ hy)
 .have hm:=je h;obtain⟨⟨n,k⟩,hy,e⟩:=bf.mp hm;dsimp only at e;split at e
  .cases e
  .cases e;exact hy
theorem zk{env:oN}:∀{names:List (Str×aT)} {x:Str},names.lookup x=some .free->
  ((names.map λ(n,k)=>if (k==aT.free&&env.scope.kind==.function&&env.kindOf n==some .cell)then(n,aT.cell)else(n,k)).lookup x=some .cell\/
   (names.map λ(n,k)=>if (k==aT.free&&env.scope.kind==.function&&env.kindOf n==some .cell)then(n,aT.cell)else(n,k)).lookup x=some .free)
 | [],_,h=>by simp at h
 | (n,k)::r,x,h=>by
  have ih:=@zk env r x;show(List.lookup x ((if (k==aT.free&&env.scope.kind==.function&&env.kindOf n==some .cell)=true then(n,aT.cell)else(n,k))::_)=_)\/(List.lookup x ((if (k==aT.free&&env.scope.kind==.function&&env.kindOf n==some .cell)=true then(n,aT.cell)else(n,k))::_)=_);cases hx:x==n with
  | true=>
   simp only[jp,hx]at h;cases h;by_cases hc:((aT.free:aT)==aT.free&&env.scope.kind==.function&&env.kindOf n==some .cell)=true
   .rw[if_pos hc];left;simp only[jp,hx]
   .rw[if_neg hc];right;simp only[jp,hx]
  | false=>
   simp only[jp,hx]at h;by_cases hc:(k==aT.free&&env.scope.kind==.function&&env.kindOf n==some .cell)=true
   .rw[if_pos hc];simp only[jp,hx];exact ih h
   .rw[if_neg hc];simp only[jp,hx];exact ih h
noncomputable def se(sl:List (Option Nat))(σ:L2.St):L2.St:=sl.map λo=>o.bind λj=>(σ[j]?).getD none
noncomputable def slOk(N N':List Str)(sl:List (Option Nat))(sc osc:cK):Bool:=
 sl.length==N'.length&&(List.zip N' sl).all λp=>match p.2 with
  | none=>true
  | some j=>N[j]?==some p.1&&sc.names.lookup p.1==some .free&&(osc.names.lookup p.1==some .cell||osc.names.lookup p.1==some .free)
theorem slOk.len{N N':List Str}{sl:List (Option Nat)}{sc osc:cK}(h:slOk N N' sl sc osc=true):sl.length=N'.length:=by unfold slOk at h;rw[dz]at h;simpa using h.1
theorem slOk.at{N N':List Str}{sl:List (Option Nat)}{sc osc:cK}(h:slOk N N' sl sc osc=true){k j:Nat}{x:Str}(h1:N'[k]?=some x)(h2:sl[k]?=some (some j)) :
  N[j]?=some x/\sc.names.lookup x=some .free/\(osc.names.lookup x=some .cell\/osc.names.lookup x=some .free):=by
 unfold slOk at h;rw[dz,List.all_eq_true]at h;have hm:(x,some j)∈List.zip N' sl:=by refine ak (i:=k) ?_;rw[List.getElem?_zip_eq_some];exact⟨h1,h2⟩
 have q:=h.2 _ hm;simp only[dz,Bool.or_eq_true,beq_iff_eq]at q;exact⟨q.1.1,q.1.2,q.2⟩
noncomputable def frOk(sc osc:cK):Bool:=sc.names.all λx=>!(x.2==.free)||(osc.names.lookup x.1==some .cell||osc.names.lookup x.1==some .free)
theorem frOk.of{sc osc:cK}(h:frOk sc osc=true):∀x∈sc.names,x.2=.free->osc.names.lookup x.1=some .cell\/osc.names.lookup x.1=some .free:=λx hx e=>by have q:=List.all_eq_true.mp h x hx;rw[e]at q;simp only[beq_self_eq_true,ir,Bool.false_or,Bool.or_eq_true,beq_iff_eq]at q;exact q
def Agree(σ σ':L2.St):Prop:=σ'.length=σ.length/\∀(i:Nat) v,σ[i]?=some (some v)->σ'[i]?=some (some v)
theorem Agree.refl(σ:L2.St):Agree σ σ:=⟨rfl,λ_ _ h=>h⟩
theorem Agree.set{σ σ':L2.St}(a:Agree σ σ'){i:Nat}{v:Option V}(h:σ[i]?=some none):Agree σ (σ'.set i v):=by
 refine⟨by rw[List.length_set];exact a.1,λj w e=>?_⟩;by_cases cW:i=j
 .subst cW;rw[h]at e;cases e
 .rw[List.getElem?_set_ne cW];exact a.2 j w e
section
variable{fs ex:List aE}{H H':Hp}{h h1 h2:Heap}{C:aE}
theorem Un.but(u:Un fs ex H H' h h1)(hC:h.get? C=none)(sb:∀b o,b≠C->h1.get? b=some o->h2.get? b=some o):Un fs ex H H' h h2 where
 keep:=λb o e n hb hx=>sb b o (by rintro rfl;rw[hC]at e;cases e) (u.keep b o e n hb hx)
 slot:=λb o e n hb hx=>by obtain⟨sl,q⟩:=u.slot b o e n hb hx;exact⟨sl,sb b _ (by rintro rfl;rw[hC]at e;cases e) q⟩
 free:=u.free
 there:=λb o e hx=>by obtain⟨o',q⟩:=u.there b o e hx;exact⟨o',sb b o' (by rintro rfl;rw[hC]at e;cases e) q⟩
 tups:=u.tups
 frzs:=u.frzs
 tbls:=u.tbls
theorem HOk.but{P:aI}{w:aK}(x:HOk P w H h1)(hC:H C=none)(sb:∀b o,b≠C->h1.get? b=some o->h2.get? b=some o):HOk P w H h2:=λa o e=>
 (x a o e).stay (λb u hc q=>sb b u (by
  rintro rfl;rcases hc with hc|hc
  .rw[<-hc,hC]at e;cases e
  .rw[hC]at hc;cases hc) q) (λ_ q=>q) λ_ _ q=>q
end
theorem ajb{X:Cx}{aC:List (aE×Obj)}{σ:L2.St}{H:Hp}{s:aB}(I:Inv X aC σ H s){scope:cK}{N':List Str}{sl:List (Option Nat)}{fp:List aE}{h₁:Heap}{m:Str->Option aA}{tk:Nat}
  (hk:scope.kind=.function) (tK:∀y∈scope.names,y.2≠.cell) (bW:∀x∈scope.names,x.2=.free->X.env.scope.names.lookup x.1=some .cell\/X.env.scope.names.lookup x.1=some .free)
  (mP:slOk X.N N' sl scope X.env.scope=true) (wX:∀b∈fp,mZ X aC H b) (cN:∀b∈fp,b<s.heap.objs.size)
  (nX:h₁.Ns s.heap.objs.size m) (hW:∀b o,s.heap.get? b=some o->h₁.get? b=some o) :
  Inv (ox X N' scope ⟨qw X.env.cells scope.names [],s.heap.objs.size,s,H,fp⟩) [] (se sl σ) H {s with heap:=h₁,toks:=tk}:=by
 have AS:∀x c,(qw X.env.cells scope.names []).lookup x=some c->X.env.cells.lookup x=some c:=λx c e=>by
  rcases xp e with q|q
  .exact q
  .cases q
 have has:∀x,(x,aT.free)∈scope.names->∃c,(qw X.env.cells scope.names []).lookup x=some c:=λx hx=>
  v8 hx (I.ok.has x (bW _ hx rfl))
 refine⟨⟨I.ok.mod,hk,I.ok.glob,I.ok.blt,aq _,λx y c h1 h2=>I.ok.inj x y c (AS x c h1) (AS y c h2),λx hx=>has x (afk tK hx),λx c hf _=>absurd hf ai,I.ok.hd,I.ok.frames,.inl rfl,
   λb hb=>⟨dq (cN b hb),λx c e=>(wX b hb).2.2.2.2.1 x c (AS x c e)⟩,I.bs,dv I.ok.bsz I.sz,λb o e hb=>?_,λb hb hz=>?_,I.stack,I.stkFree⟩,
  rfl,I.bare,Un.kept hW,⟨m,nX,λi x v h1 h2 _=>?_⟩,λx c e=>?_,I.hok.fresh (aq _),λx c e=>I.freeC x c (AS x c e),λp hp=>absurd (show p∈([]:List (aE×Obj))from hp) (by simp),I.hok.kept hW,?_⟩
 .rcases(wX b hb).2.2.2.1 with z|z
  .exact I.ok.noex b o e z
  .exact absurd (c5 (bq (I.ok.bs b o e).1) z) (j4 _)
 .rcases bb.mp (I.stkSub b hz)with z|z
  .exact(wX b hb).2.1 z
  .exact(wX b hb).2.2.1 z
 .have gI:(se sl σ)[i]?=some (some v):=h2;unfold se at gI;rw[au]at gI;cases q:sl[i]? with
  | none=>rw[q]at gI;cases gI
  | some o=>
   rw[q]at gI;cases o with
   | none=>cases gI
   | some j=>
    have e:(σ[j]?).getD none=some v:=by simpa using gI
    have e2:σ[j]?=some (some v):=by
     cases r:σ[j]? with
     | none=>rw[r]at e;cases e
     | some w=>rw[r]at e;simp at e;rw[e]
    obtain⟨a1,a2,a3⟩:=slOk.at mP h1 q;obtain⟨mo,_,hl⟩:=I.loc;obtain⟨u,r,l⟩:=hl j x v a1 e2 (.inr a3);refine⟨u,r,.inr ⟨zk a2,?_⟩⟩;have a4:X.env.kindOf x=some .cell\/X.env.kindOf x=some .free:=a3;rcases l with ⟨l,_⟩|⟨_,c,e3,z⟩
    .rcases a4 with a4|a4 <;> · rw[l]at a4;cases a4
    .obtain⟨c',e4⟩:=has x (je a2);have e5:=AS x c' e4;rw[e3]at e5;cases e5;obtain⟨o,ho,hd⟩:=z;exact(qc c e4 o ⟨hW _ _ ho,hd⟩)
 .obtain⟨v,o,ho,hd⟩:=I.cell x c (AS x c e);exact(nq v o ⟨hW _ _ ho,hd⟩)
 .show(se sl σ).length=N'.length;unfold se;rw[ah];exact slOk.len mP
def PTs(X:Cx)(mM:List Expr)(t:TT):Prop:=
 ∀(aC:List (aE×Obj)) (s:aB) (σ:L2.St) (H:Hp) (Q:Bool->Hp->Prop),Inv X aC σ H s->t σ H Q->
  aG (aH X.prog X.w) X.A (xD mM true λc r=>if r=true then do let ok <-isTrue c X.env (bH c X.env);aS (ForInStep.yield ok)else aS (ForInStep.yield r)) (TP X aC σ Q) X.xe s
def jH:TT:=λ_ H Q=>Q true H
theorem qh{X:Cx}:PTs X [] jH:=λ_ _ _ H _ I h=>wpAny_tests_nil ⟨H,I,h⟩
theorem u9{X:Cx}{c:Expr}{t:TT}(h:PT X c t):PTs X [c] t:=λaC s σ H Q I q=>wpAny_tests_one (h aC s σ H Q I q)
theorem afd{prog:aI}{w:aK}{A:Around}{R:kU->aB->Prop}{s:aB}{kK bM iter:Expr}{mM:List Expr}{scope:cK}{pos:eA}{it iB:aA}{env:oN}(I:Nat->aB->Prop)
  (turn:∀n s,I n s->aG (aH prog w) A (bB it) (λr s₁=>match r with
   | none=>R (.ok .next) s₁
   | some v=>aG (aH prog w) A (fZ bM it v) (λ_ s₂=>aG (aH prog w) A (jF bM env v) (λ_ s₃=>
     aG (aH prog w) A (xD mM true λc r=>if r=true then do let ok <-isTrue c env (bH c env);aS (ForInStep.yield ok)else aS (ForInStep.yield r)) (λok s₄=>
      if ok=true then aG (aH prog w) A (bH kK env) (λx s₅=>
       aG (aH prog w) A (call (.builtin "list.append") [iB,x]) (λ_ s₆=>∃m,m<n/\I m s₆) (λ_ _=>False) s₅) (λ_ _=>False) s₄
      else ∃m,m<n/\I m s₄) (λ_ _=>False) s₃) (λ_ _=>False) s₂) (λ_ _=>False) s₁) (λ_ _=>False) s)
  (n:Nat) (h:I n s) :
  cH (aH prog w) A (.compLoop (.ListComp kK [⟨bM,iter,mM,0⟩] scope pos) 0 it iB env) R s:=by
 refine codeAny_loop rfl I (λn s hI=>?_) n h;show aG _ A ((compTurn (.ListComp kK [⟨bM,iter,mM,0⟩] scope pos) 0 it iB env).onRaise (λx=>do noteFrame x env;theTreesLotGoes x)) _ _ s;refine wpAny_noted ?_;rw[compTurn_list];refine aa (iQ (aa (jj (turn n s hI) (λr s₁ h₁=>?_) λ_ _ h'=>h'.elim)));cases r with
 | none=>exact af h₁
 | some v=>
  refine aa (jj h₁ (λ_ s₂ h₂=>?_) λ_ _ h'=>h'.elim);refine aa (jj h₂ (λ_ s₃ h₃=>aa (jj h₃ (λok s₄ h₄=>?_) λ_ _ h'=>h'.elim)) λ_ _ h'=>h'.elim);cases ok with
  | false=>exact af ⟨rfl,h₄⟩
  | true=>
   exact aa (aa (jj h₄ (λx s₅ h₅=>aa (jj h₅ (λ_ s₆ h₆=>af (af ⟨rfl,h₆⟩)) λ_ _ h'=>h'.elim)) λ_ _ h'=>h'.elim))
def vU(J:It)(sl:List (Option Nat))(g:TG)(tt:TT)(te:TE)(σ:L2.St)(H1:Hp)(D:aE)(Q:VK):Prop:=
 ∃W:Nat->Nat->Hp->Prop,(∃m,W 0 m (upd H1 D (.lst [])))/\∀i m H,W i m H->(J.stop i H/\Q (.ref D) H)\/
  (J.go i H/\∃N:Hp->Prop,(∀H',N H'->∃m',m'<m/\W (i+1) m' H')/\∀x H',J.yld i H x H'->g x (se sl σ) H' λσ2 H2=>Agree (se sl σ) σ2/\tt σ2 H2 λb H3=>
   if b=true then te σ2 H3 λy H4=>∃xs,H4 D=some (.lst xs)/\xs.length<aF/\N (upd H4 D (.lst (xs++[y])))else N H3)
def Ds(wi:TI)(sl:List (Option Nat))(g:TG)(tt:TT)(te:TE):TE:=λσ H Q=>wi σ H λJ H1=>∀D,H1 D=none->vU J sl g tt te σ H1 D Q
section
variable{X:Cx}{kK bM iter:Expr}{mM:List Expr}{scope:cK}{pos:eA}
theorem ab0{N':List Str}{sl:List (Option Nat)}{g:TG}{tt:TT}{te:TE}{aC:List (aE×Obj)}{s₂:aB}{σ:L2.St}{H2:Hp}{Q:VK}{RR:aA->aE->kU->aB->Prop}{E:aA->aB->Prop}
  {it:aE} {fp:List aE} {tn:Nat->Heap->Prop} {J:It} (hc:X.calm=true) (fN:scope.kind=.function)
  (tK:∀y∈scope.names,y.2≠.cell) (bW:∀x∈scope.names,x.2=.free->X.env.scope.names.lookup x.1=some .cell\/X.env.scope.names.lookup x.1=some .free)
  (mP:slOk X.N N' sl scope X.env.scope=true)
  (hg:∀z,PG (ox X N' scope z) bM g) (ht:∀z,PTs (ox X N' scope z) mM tt) (he:∀z,PE (ox X N' scope z) kK te)
  (I2:Inv X aC σ H2 s₂) (T:uA X.prog X.w X.K bM J fp it tn) (eR:tn 0 s₂.heap) (f2:∀b∈fp,mZ X aC H2 b) (hw:∀D,H2 D=none->vU J sl g tt te σ H2 D Q)
  (hR:∀D C H' s',H' C=none->(∃m,s'.heap.Ns C m)->mZ X aC H' C->(∀h',b9 C s'.heap h'->Inv X aC σ H' {s' with heap:=h'})->Inv X aC σ H' s'->Q (.ref D) H'->RR (.ref D) C (.ok .next) s') :
  aG (aH X.prog X.w) X.A (newList []) (λiB s₃=>aG (aH X.prog X.w) X.A (newFunctionEnv scope X.env.globals (qw X.env.cells scope.names []) [] X.env.qual none .none (some X.env)) (λcenv s₄=>
   cH (aH X.prog X.w) X.A (.compStart (.ListComp kK [⟨bM,iter,mM,0⟩] scope pos) 0 (.ref it) iB {cenv with scope:=relabel scope X.env}) (RR iB cenv.locals) s₄) E s₃) E s₂:=by
 have Cy:∀b∈fp,b<s₂.heap.objs.size:=λb hb=>by obtain⟨o,e,_⟩:=T.obj _ _ eR b hb;exact bq e
 have hD:H2 s₂.heap.objs.size=none:=I2.hok.fresh (aq _);obtain⟨W,⟨m0,w0⟩,turn⟩:=hw _ hD;refine iR ?_ (f7 _);have I3:=I2.lnew (ys:=[]) (its:=[]) (t':=s₂.toks) .nil (f7 _);refine wpAny_newFunctionEnv tK (by intro y hy;simp at hy) (λh₁ HK Hn=>?_) fN;generalize hs3:({s₂ with heap:=s₂.heap.push {cls:=.type "list",data:=.seq ([]:List aA).toArray}}:aB)=s₃ at *;have Co:s₃.heap=s₂.heap.push {cls:=.type "list",data:=.seq ([]:List aA).toArray}:=by rw[<-hs3]
 have hC3:s₃.heap.objs.size=s₂.heap.objs.size+1:=by rw[Co,mf]
 have yF:∀b o,s₂.heap.get? b=some o->s₃.heap.get? b=some o:=λb o e=>by rw[Co];exact am _ e
 have wM:∀b o,s₃.heap.get? b=some o->h₁.get? b=some o:=λb o e=>Hn.extBut b o (dq (bq e)) (am _ e);have eO:∀b∈fp,b≠s₂.heap.objs.size:=λb hb=>dq (Cy b hb);have f3:∀b∈fp,mZ X aC (upd H2 s₂.heap.objs.size (.lst [])) b:=λb hb=>⟨by rw[ow (eO b hb)];exact(f2 b hb).1,(f2 b hb).2⟩;have HW:∀b∈fp,b<s₃.heap.objs.size:=λb hb=>by rw[hC3];exact Nat.lt_succ_of_lt (Cy b hb)
 have I4:=ajb (tk:=s₃.toks+([]:List (Str×aA)).length) I3 fN tK bW mP f3 HW HK wM;have cM:tn 0 h₁:=T.keep _ _ _ eR λb _ o e=>wM b o (yF b o e);generalize hz:(⟨qw X.env.cells scope.names [],s₃.heap.objs.size,s₃,upd H2 s₂.heap.objs.size (.lst []),fp⟩:CZ)=z at I4;have ezC:z.C=s₃.heap.objs.size:=by rw[<-hz]
 have ezx:z.ex=fp:=by rw[<-hz]
 have mH:∀{H':Hp},(∀b∈fp,H' b=none)->∀b∈fp,mZ (ox X _ scope z) [] H' b:=λhn b hb=>by subst hz;have q:=I4.ok.exf b hb;exact⟨hn b hb,q.1,I4.ok.exfs b hb,.inl hb,q.2,λp hp=>absurd (show p∈([]:List (aE×Obj))from hp) (by simp)⟩
 have loop:∀s₄:aB,s₄={s₃ with heap:=h₁,toks:=s₃.toks+([]:List (Str×aA)).length}->
   cH (aH X.prog X.w) X.A (.compLoop (.ListComp kK [⟨bM,iter,mM,0⟩] scope pos) 0 (.ref it) (.ref s₂.heap.objs.size) (ox X N' scope z).env) (RR (.ref s₂.heap.objs.size) s₃.heap.objs.size) s₄:=by
  rintro s₄ rfl;refine afd (λn s'=>∃i H',Inv (ox X N' scope z) [] (se sl σ) H' s'/\tn i s'.heap/\(∀b∈fp,H' b=none)/\W i n H') ?_ m0 (nq 0 _ ⟨I4,cM,λb hb=>(f3 b hb).1,w0⟩);rintro n s5 ⟨i,H5,I5,iD,EQ,w5⟩;rcases turn i n H5 w5 with ⟨stop,qn⟩|⟨go,N,hN,step⟩
  .refine thn (T.done (ox X N' scope z) rfl rfl rfl hc i [] s5 _ H5 _ I5 (mH EQ) iD stop) λr s6 ⟨hr,I6⟩=>?_;subst hr;have un:Un (frs X.stack) fp (upd H2 s₂.heap.objs.size (.lst [])) H5 s₃.heap s6.heap:=by subst hz;exact I6.base
   have os6:s6.os=s₃.os:=by subst hz;exact I6.os
   have fC:H5 s₃.heap.objs.size=none:=by subst hz;exact I6.free
   have hch:∀b∈fp,(b∈X.ex\/X.s₀.heap.objs.size<=b)/\b≠X.env.locals/\(∀x c,X.env.cells.lookup x=some c->c≠b)/\∀p∈X.pn++aC,p.1≠b:=λb hb=>⟨(f2 b hb).2.2.2.1,(f2 b hb).2.1,(f2 b hb).2.2.2.2.1,(f2 b hb).2.2.2.2.2⟩;have nC:s₃.heap.get? s₃.heap.objs.size=none:=Heap.get?_none_of_le (aq _);have ns:∃m,s6.heap.Ns s₃.heap.objs.size m:=by subst hz;obtain⟨m,hn,_⟩:=I6.loc;exact⟨m,hn⟩
   refine hR _ _ H5 s6 fC ns (I3.fpOk (aq _) fC) (λh' sb=>?_) (I3.call' (ch:=fp) os6 un I6.hok I6.bare hch) qn;exact I3.call' (s':={s6 with heap:=h'}) (ch:=fp) os6 (Un.but un nC sb.extBut) (HOk.but I6.hok fC sb.extBut) I6.bare hch
  .refine thn (T.item (ox X N' scope z) rfl rfl rfl hc i [] s5 _ H5 _ I5 (mH EQ) iD go) λr s6 ⟨u,hr,h6⟩=>?_;subst hr;refine thn h6 λ_ s7 ⟨x,H7,I7,r7,y7,tE,fr7⟩=>?_;have I7':=I7.pinned (mH fr7) (T.obj _ _ tE);refine thn (hg z _ s7 _ H7 x u _ I7' r7 (step x H7 y7)) λ_ s8 ⟨σ8,H8,I8,ag,q8⟩=>?_;have again:∀{s9:aB} {H9:Hp},Inv (ox X N' scope z) ([]++DH fp s7.heap) σ8 H9 s9->N H9->∃m,m<n/\∃i H',Inv (ox X N' scope z) [] (se sl σ) H' s9/\tn i s9.heap/\(∀b∈fp,H' b=none)/\W i m H':=λ{s9 H9} I9 n9=>by
    obtain⟨m',hm,w9⟩:=hN H9 n9;refine(o8 m' hm (i+1) H9 ⟨(I9.weak ag.1.symm ag.2).unpinned,T.keep _ _ _ tE λb hb o e=>(I9.pin (b,o) (cw _ (cw _ (v9 hb e)))).1,λb hb=>?_,w9⟩);obtain⟨o,e,d⟩:=T.obj _ _ tE b hb;exact(I9.pin (b,o) (cw _ (cw _ (v9 hb e)))).2.1
   refine thn (ht z _ s8 σ8 H8 _ I8 q8) λok s9 ⟨H9,I9,q9⟩=>?_;cases ok with
   | false=>exact again I9 q9
   | true=>
    refine thn (he z _ s9 σ8 H9 _ I9 q9) λu10 s10 ⟨y,H10,I10,r10,xs,hx,GZ,n10⟩=>?_;exact thn (qo _ s10 σ8 H10 (.ref s₂.heap.objs.size) [y] (.ref s₂.heap.objs.size) [u10] (λ_ H'=>N H') I10 rfl (.cons r10 .nil) (oq _ xs y ⟨rfl,rfl,hx,GZ,n10⟩)) λ_ s11 ⟨_,H11,I11,_,n11⟩=>again I11 n11
 have Ja:(ox X N' scope z).env=compEnvC scope (qw X.env.cells scope.names []) s₃.heap.objs.size X.env:=by rw[<-hz];rfl
 rw[Ja]at loop;exact codeAny_compStart_list (loop _ rfl) (T.self _ 0 _ _ _ cM (loop _ rfl))
theorem o9(N':List Str)(sl:List (Option Nat)){wi:TI}{g:TG}{tt:TT}{te:TE}(hc:X.calm=true)(fN:scope.kind=.function)
  (mT:∀x∈scope.names,x.2=.local->scope.names.lookup x.1=some .local)
  (tK:∀y∈scope.names,y.2≠.cell) (nY:frOk scope X.env.scope=true)
  (mP:slOk X.N N' sl scope X.env.scope=true) (hi:PI X bM iter wi)
  (hg:∀z,PG (ox X N' scope z) bM g) (ht:∀z,PTs (ox X N' scope z) mM tt) (he:∀z,PE (ox X N' scope z) kK te)
  (hs:∀x,jY iter X.env x=aS x:=by intro _;rfl) :
  PE X (.ListComp kK [⟨bM,iter,mM,0⟩] scope pos) (Ds wi sl g tt te):=by
 have bW:=frOk.of nY;intro aC s σ H Q I h;rw[eval_ListComp];have lK:oF scope X.env=aS (qw X.env.cells scope.names []):=xg λx hx hk=>I.ok.has x.1 (bW x hx hk);refine pS (use:=none) rfl hs lK fN mT (thn (hi aC s σ H _ I h) λxv s₁ h₁=>thn h₁ λEs s₂ h₂=>?_);obtain⟨it,fp,tn,J,H2,e,I2,T,eR,f2,hw⟩:=h₂;subst e;refine ab0 (RR:=λiB C=>compPost (aH X.prog X.w) X.A X.xe none (EP X aC σ Q) iB C) hc fN tK bW mP hg ht he I2 T eR f2 hw ?_;intro D C H' s' fC ns _ hI _ q;obtain⟨m,hn⟩:=ns;exact⟨m,hn,λh' sb=>(nq (.ref D) H' ⟨hI h' sb,rfl,q⟩)⟩
theorem aku(N':List Str)(sl:List (Option Nat)){wi:TI}{g:TG}{tt:TT}{te:TE}{i:Nat}{y:Str}{py BD:eA}(hN:X.N.Nodup)(hyi:X.N[i]?=some y)(hx:Loc X.env.scope y)
  (hsw:kP (.ListComp kK [⟨bM,iter,mM,0⟩] scope pos) (some (.Name y py)) BD.line X.env=aS true) (hc:X.calm=true) (fN:scope.kind=.function)
  (mT:∀x∈scope.names,x.2=.local->scope.names.lookup x.1=some .local)
  (tK:∀y∈scope.names,y.2≠.cell) (nY:frOk scope X.env.scope=true)
  (mP:slOk X.N N' sl scope X.env.scope=true) (hi:PI X bM iter wi)
  (hg:∀z,PG (ox X N' scope z) bM g) (ht:∀z,PTs (ox X N' scope z) mM tt) (he:∀z,PE (ox X N' scope z) kK te)
  (hs:∀x,jY iter X.env x=aS x:=by intro _;rfl) (hf:X.fn y=true\/X.env.scope.names.lookup y=some .local:=by first|exact .inl rfl|exact .inr rfl|assumption) :
  PS X (.Assign [.Name y py] (.ListComp kK [⟨bM,iter,mM,0⟩] scope pos) BD) (JJ (Ds wi sl g tt te) (uD i)):=by
 have bW:=frOk.of nY;intro aC s σ H D I h;rw[exec_Assign_Name_used _ _ _ _ hsw];refine aa (iQ (aa ?_));show aG _ _ (do let _ <-comprehension (.ListComp kK [⟨bM,iter,mM,0⟩] scope pos) scope X.env _ (newList []) false (bH iter X.env) (some (jF (.Name y py) X.env))) _ _ s;have lK:oF scope X.env=aS (qw X.env.cells scope.names []):=xg λx hx hk=>I.ok.has x.1 (bW x hx hk);refine aa (jj (pS (use:=some (jF (.Name y py) X.env)) (Q:=λ_ s'=>SP X aC D .next s') rfl hs lK fN mT
  (thn (hi aC s σ H _ I h) λxv s₁ h₁=>thn h₁ λEs s₂ h₂=>?_)) (λ_ s' hq=>af (af hq)) λ_ _ e=>e)
 obtain⟨it,fp,tn,J,H2,e,I2,T,eR,f2,hw⟩:=h₂;subst e;refine ab0 (RR:=λiB C=>compPost (aH X.prog X.w) X.A X.xe (some (jF (.Name y py) X.env)) (λ_ s'=>SP X aC D .next s') iB C) hc fN tK bW mP hg ht he I2 T eR f2 hw ?_;intro E C H' s' fC ns fp hI I' q;obtain⟨m,hn⟩:=ns;show aG _ _ (jF (.Name y py) X.env (.ref E)) _ _ _;refine BA (ae0 I' hN hyi hx (v:=.ref E) rfl (λs2 I2 ⟨a,sb,ha⟩=>?_) hf);have hCa:C≠a:=by
  rcases ha with ha|ha
  .rw[ha];exact fp.2.1
  .exact λz=>fp.2.2.2.2.1 _ _ ha z.symm
 exact⟨m,hn.sameBut sb hCa,λh3 wG=>(nq _ H' ⟨I2.turned (t':=s2.toks) (λb o hb e=>(wG.2 b hb).trans e) fp.1 fp.2.1 fp.2.2.2.1 fp.2.2.2.2.1 fp.2.2.2.2.2,q⟩)⟩
end
mutual
def Rep(H:Hp):PyData->V->Prop
 | .none,v=>v=.non
 | .bool b,v=>v=.bl b
 | .int i,v=>v=.int i
 | .str x,v=>v=.str x/\mq x=true
 | .tuple ds,v=>∃a xs,v=.ref a/\H a=some (.tup xs)/\RepAll H ds xs
 | .list ds,v=>∃a xs,v=.ref a/\H a=some (.lst xs)/\RepAll H ds xs
 | .dict _,_=>False
def RepAll(H:Hp):List PyData->List V->Prop
 | [],xs=>xs=[]
 | d::ds,xs=>∃x r,xs=x::r/\Rep H d x/\RepAll H ds r
end
mutual
noncomputable def imm:PyData->Bool
 | .none=>true
 | .bool _=>true
 | .int _=>true
 | .str _=>true
 | .tuple ds=>pq ds
 | .list _=>false
 | .dict _=>false
noncomputable def pq:List PyData->Bool
 | []=>true
 | d::ds=>imm d&&pq ds
end
def Tk(H H':Hp):Prop:=∀b xs,H b=some (.tup xs)->H' b=some (.tup xs)
theorem Tk.refl(H:Hp):Tk H H:=λ_ _ h=>h
theorem Tk.trans{H H1 H2:Hp}(a:Tk H H1)(b:Tk H1 H2):Tk H H2:=λc o h=>b c o (a c o h)
theorem Tk.of_same{H H':Hp}(h:Same H H'):Tk H H':=λb xs q=>h b _ q
theorem Tk.lst{H:Hp}{p:aE}{xs:List V}{o:HO}(h:H p=some (.lst xs)):Tk H (upd H p o):=λb ys q=>by rw[ow (ux q h (by intro z;cases z))];exact q
mutual
theorem Rep.tk{H H':Hp}(t:Tk H H'):∀{d:PyData} {v:V},imm d=true->Rep H d v->Rep H' d v
 | .none,_,_,h=>h
 | .bool _,_,_,h=>h
 | .int _,_,_,h=>h
 | .str _,_,_,h=>h
 | .tuple ds,v,hi,h=>by obtain⟨a,xs,e,ha,r⟩:=h;exact(nq a xs ⟨e,t _ _ ha,RepAll.tk t hi r⟩)
 | .list _,_,hi,_=>absurd hi ai
 | .dict _,_,hi,_=>absurd hi ai
theorem RepAll.tk{H H':Hp}(t:Tk H H'):∀{ds:List PyData} {xs:List V},pq ds=true->RepAll H ds xs->RepAll H' ds xs
 | [],_,_,h=>h
 | d::ds,xs,hi,h=>by obtain⟨x,r,e,h1,h2⟩:=h;have eC:(imm d&&pq ds)=true:=hi;rw[dz]at eC;exact(nq x r ⟨e,Rep.tk t eC.1 h1,RepAll.tk t eC.2 h2⟩)
end
mutual
theorem Rep.same{H H':Hp}(t:Same H H'):∀{d:PyData} {v:V},Rep H d v->Rep H' d v
 | .none,_,h=>h
 | .bool _,_,h=>h
 | .int _,_,h=>h
 | .str _,_,h=>h
 | .tuple ds,v,h=>by obtain⟨a,xs,e,ha,r⟩:=h;exact(nq a xs ⟨e,t _ _ ha,RepAll.same t r⟩)
 | .list ds,v,h=>by obtain⟨a,xs,e,ha,r⟩:=h;exact(nq a xs ⟨e,t _ _ ha,RepAll.same t r⟩)
 | .dict _,_,h=>h
theorem RepAll.same{H H':Hp}(t:Same H H'):∀{ds:List PyData} {xs:List V},RepAll H ds xs->RepAll H' ds xs
 | [],_,h=>h
 | d::ds,xs,h=>by obtain⟨x,r,e,h1,h2⟩:=h;exact(nq x r ⟨e,Rep.same t h1,RepAll.same t h2⟩)
end
theorem RepAll.length{H:Hp}:∀{ds:List PyData} {xs:List V},RepAll H ds xs->xs.length=ds.length
 | [],xs,h=>by have e:xs=[]:=h;rw[e];rfl
 | d::ds,xs,h=>by obtain⟨x,r,e,_,h2⟩:=h;rw[e,b7,b7,RepAll.length h2]
theorem RepAll.get{H:Hp}:∀{ds:List PyData} {xs:List V} {i:Nat} {d:PyData},RepAll H ds xs->ds[i]?=some d->∃x,xs[i]?=some x/\Rep H d x
 | [],_,_,_,_,e=>by simp at e
 | d::ds,xs,0,d',h,e=>by obtain⟨x,r,e1,h1,_⟩:=h;subst e1;simp at e;subst e;exact⟨x,rfl,h1⟩
 | d::ds,xs,i+1,d',h,e=>by obtain⟨x,r,e1,_,h2⟩:=h;subst e1;obtain⟨y,h3,h4⟩:=RepAll.get (i:=i) h2 (by simpa using e);exact⟨y,by simpa using h3,h4⟩
theorem RepAll.at{H:Hp}{ds:List PyData}{xs:List V}{i:Nat}{x:V}(h:RepAll H ds xs)(e:xs[i]?=some x):∃d,ds[i]?=some d/\Rep H d x:=by
 have hi:i<xs.length:=(ae.mp e).1;have eC:i<ds.length:=by rw[<-h.length];exact hi
 obtain⟨y,h1,h2⟩:=h.get (ab eC);rw[e]at h1;cases h1;exact⟨_,ab eC,h2⟩
theorem RepAll.append{H:Hp}:∀{ds es:List PyData} {xs ys:List V},RepAll H ds xs->RepAll H es ys->RepAll H (ds++es) (xs++ys)
 | [],es,xs,ys,h,h'=>by have e:xs=[]:=h;rw[e];exact h'
 | d::ds,es,xs,ys,h,h'=>by obtain⟨x,r,e,h1,h2⟩:=h;subst e;exact(nq x (r++ys) ⟨rfl,h1,RepAll.append h2 h'⟩)
theorem RepAll.snoc{H:Hp}{ds:List PyData}{d:PyData}{xs:List V}{x:V}(h:RepAll H ds xs)(h':Rep H d x):RepAll H (ds++[d]) (xs++[x]):=h.append (nq x ([]) ⟨rfl,h',rfl⟩)
mutual
theorem Rep.lay{H:Hp}:∀{d:PyData} {v:V},Rep H d v->d.canLay0=true
 | .none,_,_=>rfl
 | .bool _,_,_=>rfl
 | .int _,_,_=>rfl
 | .str _,_,h=>h.2
 | .tuple ds,_,h=>by obtain⟨_,_,_,_,r⟩:=h;exact RepAll.lay r
 | .list ds,_,h=>by obtain⟨_,_,_,_,r⟩:=h;exact RepAll.lay r
 | .dict _,_,h=>h.elim
theorem RepAll.lay{H:Hp}:∀{ds:List PyData} {xs:List V},RepAll H ds xs->iz ds=true
 | [],_,_=>rfl
 | d::ds,_,h=>by obtain⟨x,r,e,h1,h2⟩:=h;show(d.canLay0&&iz ds)=true;rw[Rep.lay h1,RepAll.lay h2];rfl
end
section
variable{X:Cx}{aC:List (aE×Obj)}{σ:L2.St}{H:Hp}{s:aB}
mutual
theorem Rep.reads(I:Inv X aC σ H s):∀{d:PyData} {v:V} {u:aA},Rep H d v->RelV v u->∃as,Reads s.heap u d as
 | .none,v,u,h,r=>by cases (show v=.non from h);cases (show u=aA.none from r);exact⟨_,.none⟩
 | .bool b,v,u,h,r=>by cases (show v=.bl b from h);cases (show u=aA.bool b from r);exact⟨_,.bool b⟩
 | .int i,v,u,h,r=>by cases (show v=.int i from h);obtain⟨t,e⟩:=(show ∃t,u=aA.int i t from r);cases e;exact⟨_,.int i t⟩
 | .str x,v,u,h,r=>by cases (show v=.str x from h.1);obtain⟨t,e⟩:=(show ∃t,u=aA.str x t from r);cases e;exact⟨_,.str x t⟩
 | .tuple ds,v,u,h,r=>by obtain⟨a,xs,e,ha,q⟩:=h;subst e;cases (show u=aA.ref a from r);obtain⟨its,rv,⟨o,e1,e2,n,e3⟩,_⟩:=I.tuple (SqT.of (K:=X.K) ha);obtain⟨as,z⟩:=RepAll.reads I q rv;exact⟨as,.tuple e1 e2 e3 z⟩
 | .list ds,v,u,h,r=>by obtain⟨a,xs,e,ha,q⟩:=h;subst e;cases (show u=aA.ref a from r);obtain⟨its,rv,⟨o,n,e1,e2,_,e3⟩,_⟩:=I.list (SqL.of (K:=X.K) ha);obtain⟨as,z⟩:=RepAll.reads I q rv;exact⟨_,.list e1 e2 e3 z⟩
 | .dict _,_,_,h,_=>h.elim
theorem RepAll.reads(I:Inv X aC σ H s):∀{ds:List PyData} {xs:List V} {us:List aA},RepAll H ds xs->Vals xs us->∃as,ReadsAll s.heap us ds as
 | [],xs,us,h,r=>by cases (show xs=[]from h);cases r;exact⟨_,.nil⟩
 | d::ds,xs,us,h,r=>by
  obtain⟨x,t,e,h1,h2⟩:=h;subst e;cases r with
  | cons r1 r2=>
   obtain⟨as,z1⟩:=Rep.reads I h1 r1;obtain⟨bs,z2⟩:=RepAll.reads I h2 r2;exact⟨_,.cons z1 z2⟩
end
end
def azo(neg:Bool):R2:=λx y H Q=>∃dx dy,Rep H dx x/\Rep H dy y/\dx.depth<=60/\Q (.bl (if neg then !PyData.eqv dx dy else bw dx dy)) H
section
variable{X:Cx}
theorem Kw(hu:X.A.units+64<aX):OpR X (aV .Eq) (azo false):=by intro aC s σ H x y v u Q I rx ry h;obtain⟨dx,dy,hx,hy,hd,q⟩:=h;obtain⟨as,r1⟩:=hx.reads I rx;obtain⟨bs,r2⟩:=hy.reads I ry;exact SeqAt.compareEq_reads r1 r2 hx.lay hy.lay (by have:=Nat.min_le_left dx.depth dy.depth;lia) (nq (.bl _) H ⟨I,rfl,q⟩)
theorem apw(hu:X.A.units+64<aX):OpR X (aV .NotEq) (azo true):=by intro aC s σ H x y v u Q I rx ry h;obtain⟨dx,dy,hx,hy,hd,q⟩:=h;obtain⟨as,r1⟩:=hx.reads I rx;obtain⟨bs,r2⟩:=hy.reads I ry;exact SeqAt.compareNe_reads r1 r2 hx.lay hy.lay (by have:=Nat.min_le_left dx.depth dy.depth;lia) (nq (.bl _) H ⟨I,rfl,q⟩)
def azs(neg:Bool):R2:=λx y H Q=>∃d p xs ds,Rep H d x/\y=.ref p/\(H p=some (.lst xs)\/H p=some (.tup xs))/\RepAll H ds xs/\d.depth<=60/\
 Q (.bl (if neg then !(ds.any λe=>bw e d)else ds.any λe=>bw e d)) H
theorem DC(hu:X.A.units+64<aX):OpR X (aV .In) (azs false):=by
 intro aC s σ H x y v u Q I rx ry h;obtain⟨d,p,xs,ds,hx,rfl,hp,dH,hd,q⟩:=h;cases ry;obtain⟨bs,r2⟩:=hx.reads I rx;have room:X.A.units+1+lD (bv ds) d.depth<aX:=by have:=Nat.min_le_right (bv ds) d.depth;lia
 rcases hp with hp|hp
 .obtain⟨as,r1⟩:=Rep.reads I (d:=.list ds) (v:=.ref p) (u:=.ref p) (nq p xs ⟨rfl,hp,dH⟩) rfl;exact SeqAt.in_list_reads r1 r2 dH.lay hx.lay room (nq (.bl _) H ⟨I,rfl,q⟩)
 .obtain⟨as,r1⟩:=Rep.reads I (d:=.tuple ds) (v:=.ref p) (u:=.ref p) (nq p xs ⟨rfl,hp,dH⟩) rfl;exact SeqAt.in_tuple_reads r1 r2 dH.lay hx.lay room (nq (.bl _) H ⟨I,rfl,q⟩)
theorem aj7(hu:X.A.units+64<aX):OpR X (aV .NotIn) (azs true):=by
 intro aC s σ H x y v u Q I rx ry h;obtain⟨d,p,xs,ds,hx,rfl,hp,dH,hd,q⟩:=h;cases ry;obtain⟨bs,r2⟩:=hx.reads I rx;have room:X.A.units+1+lD (bv ds) d.depth<aX:=by have:=Nat.min_le_right (bv ds) d.depth;lia
 rcases hp with hp|hp
 .obtain⟨as,r1⟩:=Rep.reads I (d:=.list ds) (v:=.ref p) (u:=.ref p) (nq p xs ⟨rfl,hp,dH⟩) rfl;exact SeqAt.notIn_list_reads r1 r2 dH.lay hx.lay room (nq (.bl _) H ⟨I,rfl,q⟩)
 .obtain⟨as,r1⟩:=Rep.reads I (d:=.tuple ds) (v:=.ref p) (u:=.ref p) (nq p xs ⟨rfl,hp,dH⟩) rfl;exact SeqAt.notIn_tuple_reads r1 r2 dH.lay hx.lay room (nq (.bl _) H ⟨I,rfl,q⟩)
theorem wo:u7 X (.builtin "isinstance") (λxs H Q=>∃x T t b,xs=[x,.ty T]/\pQ X.K H x t/\PySem.W.kitOne X.K t (.type T)=some b/\Q (.bl b) H):=by intro aC s σ H xs us Q I r h;obtain⟨x,T,t,b,rfl,ty,e,q⟩:=h;obtain⟨u,w',rfl,r1,r2⟩:=atn r;cases (show w'=aA.type T from r2);exact akm I r1 ty e λtk=>(nq (.bl b) H ⟨I.tok _,rfl,q⟩)
end
noncomputable def JZ:PyData->PyData->Bool
 | .int a,.int b=>decide (a<b)
 | .str a,.str b=>decide (a.cps.toList<b.cps.toList)
 | _,_=>false
noncomputable def rn:List PyData->List PyData->Bool
 | [],[]=>false
 | [],_::_=>true
 | _::_,[]=>false
 | x::xs,y::ys=>if bw x y=true then rn xs ys else JZ x y
def Row:List Bool->List PyData->Prop
 | [],ds=>ds=[]
 | true::ks,ds=>∃i r,ds=.int i::r/\Row ks r
 | false::ks,ds=>∃x r,ds=.str x::r/\Row ks r
noncomputable def uh:PyData->List PyData
 | .tuple ds=>ds
 | _=>[]
noncomputable def uB(ds:List PyData)(i j:Nat):Bool:=rn (uh (ds.getD i .none)) (uh (ds.getD j .none))
noncomputable def vT(ds:List PyData):List PyData:=(srt (uB ds) ds.length).map λi=>ds.getD i .none
section
variable{prog:aI}{w:aK}{A:Around}{E:aA->aB->Prop}{s:aB}{Q:Bool->aB->Prop}
theorem Lf:∀{ks:List Bool} {xs ys:List PyData} {us vs:List aA} {as bs:List aE} {i:Nat},Row ks xs->Row ks ys->ReadsAll s.heap us xs as->ReadsAll s.heap vs ys bs->Q (rn xs ys) s->
  PySem.W.KatLex prog w A true false Q (us.zip vs) i s
 | [],xs,ys,us,vs,as,bs,i,h1,h2,r1,r2,q=>by cases (show xs=[]from h1);cases (show ys=[]from h2);cases r1;cases r2;exact q
 | true::ks,xs,ys,us,vs,as,bs,i,h1,h2,r1,r2,q=>by
  obtain⟨a,xr,rfl,h1⟩:=h1;obtain⟨b,yr,rfl,h2⟩:=h2;cases r1 with
  | cons ra r1=>
   cases r2 with
   | cons rb r2=>
    cases ra with
    | int _ t=>
     cases rb with
     | int _ u=>
      rw[List.zip_cons_cons];refine PySem.W.kat_cons (SeqAt.EqAt.int_int a t b u prog w _ _ ?_);have q':Q (if bw (.int a) (.int b)=true then rn xr yr else JZ (.int a) (.int b)) s:=q;have e:bw (.int a) (.int b)=(a==b):=rfl;rw[e]at q';cases hb:(a==b)with
      | true=>rw[hb,if_pos rfl]at q';exact PySem.W.kat_yes (Lf h1 h2 r1 r2 q')
      | false=>
       rw[hb,if_neg ai]at q';refine PySem.W.kat_no ?_;cases hi:(i==0)with
       | true=>exact oneLt_int q'
       | false=>exact PySem.W.kat_one _ _ (lt_int q')
 | false::ks,xs,ys,us,vs,as,bs,i,h1,h2,r1,r2,q=>by
  obtain⟨a,xr,rfl,h1⟩:=h1;obtain⟨b,yr,rfl,h2⟩:=h2;cases r1 with
  | cons ra r1=>
   cases r2 with
   | cons rb r2=>
    cases ra with
    | str _ t=>
     cases rb with
     | str _ u=>
      rw[List.zip_cons_cons];refine PySem.W.kat_cons (SeqAt.EqAt.str_str a t b u prog w _ _ ?_);have q':Q (if bw (.str a) (.str b)=true then rn xr yr else JZ (.str a) (.str b)) s:=q;have e:bw (.str a) (.str b)=(a==b):=rfl;rw[e]at q';cases hb:(a==b)with
      | true=>rw[hb,if_pos rfl]at q';exact PySem.W.kat_yes (Lf h1 h2 r1 r2 q')
      | false=>
       rw[hb,if_neg ai]at q';refine PySem.W.kat_no ?_;cases hi:(i==0)with
       | true=>exact oneLt_str q'
       | false=>exact PySem.W.kat_one _ _ (PyProof.Rows.lt_str q')
end
theorem Row.len{ks:List Bool}:∀{ds:List PyData},Row ks ds->ds.length=ks.length:=by
 induction ks with
 | nil=>intro ds h;cases (show ds=[]from h);rfl
 | cons k ks ih=>
  intro ds h;cases k with
  | true=>obtain⟨i,r,rfl,h⟩:=h;rw[b7,b7,ih h]
  | false=>obtain⟨i,r,rfl,h⟩:=h;rw[b7,b7,ih h]
def Rows(ks:List Bool)(ds:List PyData):Prop:=∀d∈ds,∃r,d=.tuple r/\Row (true::ks) r
section
variable{X:Cx}
theorem aps(I:Inv X aC σ H s){ks:List Bool}{d:PyData}{v:V}{u:aA}(h:Rep H d v)(r:RelV v u){row:List PyData}(e:d=.tuple row)(hr:Row (true::ks) row) :
  ∃a o vs n as i t,u=.ref a/\s.heap.get? a=some o/\o.cls=.type "tuple"/\o.data=.seq vs n/\ReadsAll s.heap vs.toList row as/\vs[0]?=some (.int i t):=by
 subst e;obtain⟨as,z⟩:=h.reads I r;cases z with
 | @tuple a o vs n _ _ e1 e2 e3 z=>
  obtain⟨i,rr,rfl,_⟩:=hr;have z':=z;generalize hv:vs.toList=vl at z;cases z with
  | cons ra rb=>
   cases ra with
   | int _ t=>
    refine(my a o vs n _ (nq i t ⟨rfl,e1,e2,e3,z',?_⟩));rw[<-bm,hv];rfl
theorem ah7(I:Inv X aC σ H s){ks:List Bool}:∀{ds:List PyData} {xs:List V} {us:List aA},RepAll H ds xs->Vals xs us->Rows ks ds->∃fs:List aA,PySem.W.KatTups s.heap us fs/\fs.length=ds.length/\∀v∈fs,∃i t,v=aA.int i t
 | [],xs,us,h,r,_=>by cases (show xs=[]from h);cases r;exact⟨[],trivial,rfl,λv hv=>by cases hv⟩
 | d::ds,xs,us,h,r,hr=>by
  obtain⟨x,t,e,h1,h2⟩:=h;subst e;cases r with
  | cons r1 r2=>
   obtain⟨row,e,uU⟩:=hr d aw;obtain⟨a,o,vs,n,as,i,tk,rfl,e1,e2,e3,_,e4⟩:=aps I h1 r1 e uU;obtain⟨fs,k1,k2,k3⟩:=ah7 I h2 r2 λd hd=>hr d (a8 _ hd);refine⟨.int i tk::fs,PySem.W.KatTups.cons e1 e2 e3 e4 k1,by rw[b7,b7,k2],λv hv=>?_⟩;rcases bb.mp hv with rfl|hv
   .exact(nq i tk rfl)
   .exact k3 v hv
theorem KatTups.keeps{h h':Heap}(k:∀b o,h.get? b=some o->h'.get? b=some o):∀{vs fs:List aA},PySem.W.KatTups h vs fs->PySem.W.KatTups h' vs fs
 | [],[],_=>trivial
 | v::vs,f::fs,x=>by obtain⟨⟨a,o,xs,n,e,e1,e2⟩,r⟩:=x;exact⟨(nw a o xs n ⟨e,k _ _ e1,e2⟩),KatTups.keeps k r⟩
 | [],_::_,x=>x.elim
 | _::_,[],x=>x.elim
end
end L3
namespace L3
open PySem PySem.Spec PyProof.Rows
theorem alh(a v:aA):Bf "max" ⟨[a],[(ba "default",v)]⟩:=by unfold Bf;kernel_rfl
section
variable{prog:aI}{w:aK}{A:Around}{E:aA->aB->Prop}{s:aB}
theorem aki{l:aE}{vs:List aA}{ns:List Int}{Q:aA->aB->Prop}(hh:A.handled=none)(hl:s.heap.IsList l vs.toArray)(hi:iM vs ns)(eO:0<ns.length)
  (h:∀h' M (t:Bq) tk,(∀b o,s.heap.get? b=some o->h'.get? b=some o)->M∈ns->(∀a,a∈ns->M<=a)->Q (.int M t) {s with heap:=h',toks:=tk}) :
  aG (aH prog w) A (call (.builtin "min") [.ref l]) Q E s:=by
 obtain⟨xs,e⟩:=hi.allInts.items;have nX:ns=xs.toList.map (·.1):=by rw[<-hi.numsOf,<-nums_intItems,<-e]
 have hsz:0<xs.size:=by have h3:=eO;rw[nX,ah,ax]at h3;exact h3
 rw[e]at hl;refine min_intList hh hl hsz λv h' tk hv hk=>?_;obtain⟨t,rfl⟩:=wN hv;obtain⟨h1,h2⟩:=argBest_lt (numAt xs) (xs.size-1);refine h _ _ t tk hk ?_ λa ha=>?_
 .rw[nX,wL];exact getD_mem (by rw[ah,ax];omega)
 .rw[nX]at ha;obtain⟨j,hj,rfl⟩:=mem_getD ha;rw[ah,ax]at hj;rw[<-wL];exact h2 j (by omega)
end
end L3
namespace L3
open PySem PySem.Spec PyProof.Rows L2
noncomputable def qp:Expr->Bool
 | .Starred _ _=>false
 | _=>true
theorem p9{e:Expr}{es:List Expr}{env:oN}(h:qp e=true):aR (e::es) env=(false,bH e env)::aR es env:=by cases e<;>first|rfl|exact absurd h ai
theorem vq{pos:eA}{env:oN}:∀{es:List Expr},es.all qp=true->(cO pos (aR es env)).any (·.1)=false
 | [],_=>rfl
 | e::es,h=>by rw[List.all_cons,dz]at h;rw[p9 h.1];show(false||(cO pos (aR es env)).any (·.1))=false;rw[vq h.2];rfl
theorem m9{X:Cx}{e:Expr}{es:List Expr}{te:TE}{t:TA}(ha:PE X e te)(hr:PA X es t)(h:qp e=true:=by rfl):PA X (e::es) (wl te t):=aq7 ha hr (p9 h)
theorem rg{X:Cx}{x:Str}{p pos:eA}{e:Expr}{es:List Expr}{t:TA}{id:String}{r:List V->Hp->VK->Prop}(hc:u7 X (.builtin id) r)(hg:Gl X x)(hm:X.mg x=none)(hv:cI x=some (.builtin id))(ha:PA X (e::es) t)
  (hn:x≠"__name__":=by decide) (mW:(x==("__debug__" : Str))=false:=by decide) (h1:qp e=true:=by rfl) (h2:es.all qp=true:=by rfl):PE X (.Call (.Name x p) (e::es) [] pos) (tCB r t):=
 aon hc hg hm hv ha hn mW (p9 h1) (vq h2)
theorem yp{X:Cx}{x:Str}{p pos:eA}{e:Expr}{es:List Expr}{t:TA}{T:String}{r:List V->Hp->VK->Prop}(hc:u7 X (.type T) r)(hg:Gl X x)(hm:X.mg x=none)(hv:cI x=some (.type T))(ha:PA X (e::es) t)
  (hn:x≠"__name__":=by decide) (mW:(x==("__debug__" : Str))=false:=by decide) (h1:qp e=true:=by rfl) (h2:es.all qp=true:=by rfl):PE X (.Call (.Name x p) (e::es) [] pos) (tCB r t):=
 aly hc hg hm hv ha hn mW (p9 h1) (vq h2)
theorem sV{X:Cx}{tg a:Expr}{ta:TA}{p pos:eA}(hg:Gl X "range")(hm:X.mg "range" = none)(ha:PA X [a] ta)(h:qp a=true:=by rfl):PI X tg (.Call (.Name "range" p) [a] [] pos) (atc ta):=
 amk hg hm ha (p9 h)
def Fn(P:aI)(w:aK)(K:aj)(mg:Str->Option aA)(base:Heap)(x:Str)(k:Nat)(ps:List Str)(sp:Sp):Prop:=
 ∃f fd,qt P w K mg base CX0 k f fd ps sp/\mg x=some (.ref f)/\mh K (.ref f)=true/\Binds K fd ps []
section
variable{X:Cx}{k j:Nat}{ps:List Str}{sp:Sp}{x:Str}{p pos qW:eA}{e e2:Expr}{es:List Expr}{t tk:TA}{te:TE}
theorem oj(F:Fn X.prog X.w X.K X.mg X.base x k ps sp)(hr:Room j X.A)(hk:k<=j)(hg:Gl X x)
  (ha:PA X (e::es) t) (mW:(x==("__debug__" : Str))=false:=by decide) (h1:qp e=true:=by rfl) (h2:es.all qp=true:=by rfl) :
  PE X (.Call (.Name x p) (e::es) [] pos) (at2 sp [] E0 t):=by
 obtain⟨f,fd,F,m,kp,b⟩:=F;exact aqo F (hr.mono hk) hg m kp b .nil ava ha mW (p9 h1) (vq h2)
def az7:List V->Hp->VK->Prop:=λxs H Q=>∃q,∃ns:List Int,xs=[.ref q]/\H q=some (.lst (ns.map V.int))/\0<ns.length/\∀M,M∈ns->(∀a∈ns,M<=a)->Q (.int M) H
theorem ad7(hc:X.calm=true):u7 X (.builtin "min") az7:=by intro aC s σ H xs us Q I r h;obtain⟨q,ns,rfl,hq,hn,h⟩:=h;obtain⟨u,rfl,r1⟩:=uy r;cases (show u=aA.ref q from r1);obtain⟨its,rv,pl,hz⟩:=I.list (SqL.of (K:=X.K) hq);exact aki (I.ok.hd hc) pl.isList (acg rv) hn λh' M t tk k h1 h2=>(nq (.int M) H ⟨I.kept k,⟨_,rfl⟩,h M h1 h2⟩)
end
theorem tj{X:Cx}{N:List Str}{scope:cK}{z:CZ}{es:List Expr}{k:Nat}{pos:eA}{t:TGs}{n:Nat}(hc:X.calm=true)(h:PGs (ox X N scope z) es t)
  (hn:(dJ es (ox X N scope z).env).length=n:=by rfl) (hst:(dJ es (ox X N scope z).env).findIdx? (·.1)=none:=by rfl):PG (ox X N scope z) (.Tuple es k pos) (E5 X.K n t):=
 sr (X:=ox X N scope z) hc h hn hst
section
variable{X:Cx}{N:List Str}{scope:cK}{z:CZ}
theorem va:IxR (ox X N scope z) (JP X.K):=om (X:=ox X N scope z)
theorem anx:IxR (ox X N scope z) (azp X.K):=pi (X:=ox X N scope z)
end
section
variable{K:aj}{a D:aE}{xs:List V}{sl:List (Option Nat)}{g:TG}{tt:TT}{te:TE}{σ:L2.St}{H1:Hp}{Q:VK}
def Nx(D:aE)(i:Nat)(Pv:Nat->List V->Hp->Prop):Hp->Prop:=λH'=>∃ys,H' D=some (.lst ys)/\ys.length<=i+1/\Pv (i+1) ys H'
theorem qm{i:Nat}{Pv:Nat->List V->Hp->Prop}{H:Hp}{ys:List V}{y:V}(hi:i<1000)(hD:H D=some (.lst ys))(hl:ys.length<=i)(h:Pv (i+1) (ys++[y]) (upd H D (.lst (ys++[y])))) :
  ∃xs,H D=some (.lst xs)/\xs.length<aF/\Nx D i Pv (upd H D (.lst (xs++[y]))):=
 (o4 ys hD (oe (by lia)) (ys++[y]) ⟨np,by rw[bu,fq];lia,h⟩)
theorem FY(J:It)(n:Nat)(Pv:Nat->List V->Hp->Prop)(h0:Pv 0 [] (upd H1 D (.lst [])))
  (AB:∀i ys H,i<n->Pv i ys H->J.go i H) (hst:∀ys H,Pv n ys H->J.stop n H)
  (hs:∀i x ys H H',i<n->J.yld i H x H'->H D=some (.lst ys)->ys.length<=i->Pv i ys H->g x (se sl σ) H' λσ2 H2=>Agree (se sl σ) σ2/\tt σ2 H2 λb H3=>
   if b=true then te σ2 H3 λy H4=>∃xs,H4 D=some (.lst xs)/\xs.length<aF/\Nx D i Pv (upd H4 D (.lst (xs++[y])))else Nx D i Pv H3)
  (hd:∀ys H,H D=some (.lst ys)->ys.length<=n->Pv n ys H->Q (.ref D) H):vU J sl g tt te σ H1 D Q:=by
 refine⟨λi m H=>m=n-i/\i<=n/\∃ys,H D=some (.lst ys)/\ys.length<=i/\Pv i ys H,(o4 n (by simp) (f7 _) ([]) ⟨np,aq _,h0⟩),?_⟩;rintro i m H ⟨rfl,hi,ys,hy,hl,p⟩;by_cases cN:i<n
 .refine .inr ⟨AB i ys H cN p,Nx D i Pv,λH' ⟨Gh,e1,e2,e3⟩=>⟨n-(i+1),by lia,rfl,cN,Gh,e1,e2,e3⟩,λx H' y=>hs i x ys H H' cN y hy hl p⟩
 .have e:i=n:=by lia
  subst e;exact .inl ⟨hst ys H p,hd ys H hy hl p⟩
theorem o5(Pv:Nat->List V->Hp->Prop)(h0:Pv 0 [] (upd H1 D (.lst [])))(hl:∀i ys H,Pv i ys H->SqL K H a xs)
  (hs:∀i x ys H,xs[i]?=some x->i<xs.length->H D=some (.lst ys)->ys.length<=i->Pv i ys H->g x (se sl σ) H λσ2 H2=>Agree (se sl σ) σ2/\tt σ2 H2 λb H3=>
   if b=true then te σ2 H3 λy H4=>∃xs,H4 D=some (.lst xs)/\xs.length<aF/\Nx D i Pv (upd H4 D (.lst (xs++[y])))else Nx D i Pv H3)
  (hd:∀ys H,H D=some (.lst ys)->ys.length<=xs.length->Pv xs.length ys H->Q (.ref D) H):vU (Itl K a) sl g tt te σ H1 D Q:=by
 refine FY (Itl K a) xs.length Pv h0 (λi ys H hi p=>(nq xs (xs[i]) ⟨hl i ys H p,by simp[hi]⟩)) (λys H p=>⟨xs,hl _ ys H p,aq _⟩) (λi x ys H H' hi y hD fQ p=>?_) hd;obtain⟨e,y⟩:=y;subst e;exact hs i x ys _ (y xs (hl i ys _ p)) hi hD fQ p
theorem F0(Pv:Nat->List V->Hp->Prop)(h0:Pv 0 [] (upd H1 D (.lst [])))(hl:∀i ys H,Pv i ys H->SqT K H a xs)
  (hs:∀i x ys H,xs[i]?=some x->i<xs.length->H D=some (.lst ys)->ys.length<=i->Pv i ys H->g x (se sl σ) H λσ2 H2=>Agree (se sl σ) σ2/\tt σ2 H2 λb H3=>
   if b=true then te σ2 H3 λy H4=>∃xs,H4 D=some (.lst xs)/\xs.length<aF/\Nx D i Pv (upd H4 D (.lst (xs++[y])))else Nx D i Pv H3)
  (hd:∀ys H,H D=some (.lst ys)->ys.length<=xs.length->Pv xs.length ys H->Q (.ref D) H):vU (Itt K a) sl g tt te σ H1 D Q:=by
 refine FY (Itt K a) xs.length Pv h0 (λi ys H hi p=>(nq xs (xs[i]) ⟨hl i ys H p,by simp[hi]⟩)) (λys H p=>⟨xs,hl _ ys H p,aq _⟩) (λi x ys H H' hi y hD fQ p=>?_) hd;obtain⟨e,y⟩:=y;subst e;exact hs i x ys _ (y xs (hl i ys _ p)) hi hD fQ p
theorem aci{lo:Int}{n:Nat}(Pv:Nat->List V->Hp->Prop)(h0:Pv 0 [] (upd H1 D (.lst [])))
  (hs:∀i ys H,i<n->H D=some (.lst ys)->ys.length<=i->Pv i ys H->g (.int (lo+i)) (se sl σ) H λσ2 H2=>Agree (se sl σ) σ2/\tt σ2 H2 λb H3=>
   if b=true then te σ2 H3 λy H4=>∃xs,H4 D=some (.lst xs)/\xs.length<aF/\Nx D i Pv (upd H4 D (.lst (xs++[y])))else Nx D i Pv H3)
  (hd:∀ys H,H D=some (.lst ys)->ys.length<=n->Pv n ys H->Q (.ref D) H):vU (Itr lo n) sl g tt te σ H1 D Q:=by
 refine FY (Itr lo n) n Pv h0 (λi ys H hi p=>hi) (λys H p=>aq _) (λi x ys H H' hi y hD fQ p=>?_) hd;obtain⟨e,e2⟩:=y;subst e e2;exact hs i ys _ hi hD fQ p
end
def Ex(W:List aE)(H H':Hp):Prop:=∀b o,b∉W->H b=some o->H' b=some o
theorem Ex.refl(W:List aE)(H:Hp):Ex W H H:=λ_ _ _ h=>h
theorem Ex.trans{W:List aE}{H H1 H2:Hp}(a:Ex W H H1)(b:Ex W H1 H2):Ex W H H2:=λc o hc h=>b c o hc (a c o hc h)
theorem Ex.of_same{W:List aE}{H H':Hp}(a:Same H H'):Ex W H H':=λc o _ h=>a c o h
theorem Ex.fresh{W:List aE}{H:Hp}{p:aE}{o:HO}(h:H p=none):Ex W H (upd H p o):=λb u _ q=>by rw[ow (qb q h)];exact q
theorem Ex.upd{W:List aE}{H:Hp}{p:aE}{o:HO}(h:p∈W):Ex W H (upd H p o):=λb u hb q=>by rw[ow (show b≠p from λe=>hb (by rw[e];exact h))];exact q
theorem Ex.new{W:List aE}{H H':Hp}{p:aE}{o:HO}(a:Ex W H H')(h:H p=none):Ex W H (L2.upd H' p o):=λb u hb q=>by rw[ow (qb q h)];exact a b u hb q
theorem Ex.tk{W:List aE}{H H':Hp}(a:Ex W H H')(h:∀b∈W,∃xs,H b=some (.lst xs)):Tk H H':=λb xs q=>a b _ (λhb=>by obtain⟨ys,e⟩:=h b hb;rw[q]at e;cases e) q
theorem Ex.one{st:aE}{H H':Hp}{xs:List V}(a:Ex [st] H H')(h:H st=some (.lst xs)):Tk H H':=a.tk λb hb=>⟨xs,by rw[ao.mp hb];exact h⟩
theorem Ex.at{st:aE}{H H':Hp}{b:aE}{o:HO}(a:Ex [st] H H')(hb:b≠st)(h:H b=some o):H' b=some o:=a b o (by simpa using hb) h
theorem _root_.L2.Same.new{H H':Hp}{p:aE}{o:HO}(a:Same H H')(h:H p=none):Same H (upd H' p o):=λb u q=>by rw[ow (qb q h)];exact a b u q
theorem _root_.L2.Same.fresh{H:Hp}{p:aE}(o:HO)(h:H p=none):Same H (upd H p o):=(Same.refl H).new h
def Cells(cs:List PyData):Prop:=∀d∈cs,∃r c:Int,d=.tuple [.int r,.int c]
def Spots(ds:List PyData):Prop:=∀d∈ds,∃(r c:Int)(x:Str),d=.tuple [.int r,.int c,.str x]
theorem qg:∀{ds:List PyData},(∀d∈ds,imm d=true)->pq ds=true
 | [],_=>rfl
 | d::ds,h=>by show(imm d&&pq ds)=true;rw[h d aw,qg λe he=>h e (a8 _ he)];rfl
theorem Cells.imm{cs:List PyData}(h:Cells cs):pq cs=true:=qg λd hd=>by obtain⟨r,c,rfl⟩:=h d hd;rfl
theorem Spots.imm{ds:List PyData}(h:Spots ds):pq ds=true:=qg λd hd=>by obtain⟨r,c,x,rfl⟩:=h d hd;rfl
theorem ant{H:Hp}{r c:Int}{v:V}(h:Rep H (.tuple [.int r,.int c]) v):∃a,v=.ref a/\H a=some (.tup [.int r,.int c]):=by obtain⟨a,xs,e,ha,x1,r1,e1,h1,x2,r2,e2,h2,e3⟩:=h;cases (show x1=.int r from h1);cases (show x2=.int c from h2);cases (show r2=[]from e3);subst e1 e2;exact⟨a,e,ha⟩
theorem sf{H:Hp}{r c:Int}{x:Str}{v:V}(h:Rep H (.tuple [.int r,.int c,.str x]) v):∃a,v=.ref a/\H a=some (.tup [.int r,.int c,.str x])/\mq x=true:=by obtain⟨a,xs,e,ha,x1,r1,e1,h1,x2,r2,e2,h2,x3,r3,e3,h3,e4⟩:=h;cases (show x1=.int r from h1);cases (show x2=.int c from h2);cases (show x3=.str x from h3.1);cases (show r3=[]from e4);subst e1 e2 e3;exact⟨a,e,ha,h3.2⟩
theorem uq{H:Hp}{a:aE}{r c:Int}(h:H a=some (.tup [.int r,.int c])):Rep H (.tuple [.int r,.int c]) (.ref a):=(pj a _ rfl h _ _ rfl rfl _ ⟨_,rfl,rfl,rfl⟩)
theorem zy{H:Hp}{a:aE}{r c:Int}{x:Str}(h:H a=some (.tup [.int r,.int c,.str x]))(hx:mq x=true):Rep H (.tuple [.int r,.int c,.str x]) (.ref a):=
 (pj a _ rfl h _ _ rfl rfl _ (o4 _ rfl rfl _ ⟨_,rfl,⟨rfl,hx⟩,rfl⟩))
theorem Spots.at{H:Hp}{ds:List PyData}{xs:List V}{i:Nat}{v:V}(h:Spots ds)(r:RepAll H ds xs)(e:xs[i]?=some v) :
  ∃(a:aE)(p q:Int)(x:Str),v=.ref a/\H a=some (.tup [.int p,.int q,.str x])/\mq x=true/\ds[i]?=some (.tuple [.int p,.int q,.str x]):=by
 obtain⟨d,e1,e2⟩:=r.at e;obtain⟨p,q,x,rfl⟩:=h d (ak e1);obtain⟨a,e3,e4,e5⟩:=sf e2;exact(nw a p q x ⟨e3,e4,e5,e1⟩)
noncomputable def yg:PyData->Int
 | .tuple (.int r::_)=>r
 | _=>0
noncomputable def zh:PyData->Int
 | .tuple (_::.int c::_)=>c
 | _=>0
noncomputable def zx:List Int->Int
 | []=>0
 | [a]=>a
 | a::b::r=>if a<=zx (b::r)then a else zx (b::r)
theorem F8:∀{ns:List Int},0<ns.length->zx ns∈ns
 | [],h=>by simp at h
 | [a],_=>by simp[zx]
 | a::b::r,_=>by
  unfold zx;split
  .exact aw
  .exact a8 _ (F8 (by simp))
theorem yw:∀{ns:List Int},∀a∈ns,zx ns<=a
 | [],a,h=>by cases h
 | [a],b,h=>by
  have e:b=a:=by simpa using h
  rw[e];exact jv _
 | a::b::r,x,h=>by
  unfold zx;rcases bb.mp h with e|h
  .rw[e];split
   .exact jv _
   .lia
  .have:=yw (ns:=b::r) x h;split
   .lia
   .exact this
theorem DS{ns:List Int}{M:Int}(h1:M∈ns)(h2:∀a∈ns,M<=a):M=zx ns:=by have hp:0<ns.length:=List.length_pos_of_mem h1;have a1:=h2 _ (F8 hp);have a2:=yw M h1;lia
noncomputable def Bo(t l:Int):PyData->PyData
 | .tuple [.int r,.int c,.str x]=>.tuple [.int (r-t),.int (c-l),.str x]
 | d=>d
noncomputable def xc(ds:List PyData):List PyData:=ds.map (Bo (zx (ds.map yg)) (zx (ds.map zh)))
section
variable{K:aj}{a:aE}{xs:List V}{ds:List PyData}{σ:L2.St}{H:Hp}{Q:VK}
theorem ou{α β:Type}(f:α->β){l:List α}{i:Nat}{x:α}(h:l[i]?=some x):(l.take (i+1)).map f=(l.take i).map f++[f x]:=by rw[dw,h];simp
end
noncomputable def sLt(x y:Str):Bool:=decide (x.cps.toList<y.cps.toList)
theorem ap8{x y:Str}(h:sLt x y=true):sLt y x=false:=by have h':x.cps.toList<y.cps.toList:=of_decide_eq_true h;exact decide_eq_false (List.lt_asymm h')
theorem aue{a b c:Str}(h1:sLt b a=false)(h2:sLt c b=false):sLt c a=false:=by have fT:a.cps.toList<=b.cps.toList:=of_decide_eq_false h1;have gI:b.cps.toList<=c.cps.toList:=of_decide_eq_false h2;exact decide_eq_false (List.le_trans fT gI)
theorem apb{a b:Str}(h1:sLt a b=false)(h2:sLt b a=false):a=b:=by
 have fT:b.cps.toList<=a.cps.toList:=of_decide_eq_false h1;have gI:a.cps.toList<=b.cps.toList:=of_decide_eq_false h2;have e:=List.le_antisymm gI fT;cases a;cases b;simp only at e
 congr
 exact Array.ext' e
theorem ar9(a:Str):sLt a a=false:=decide_eq_false (List.lt_irrefl _)
theorem FL(i j:Int)(r r':List PyData):rn (.int i::r) (.int j::r')=if i=j then rn r r' else decide (i<j):=by
 show(if (i==j)=true then rn r r' else decide (i<j))=_;by_cases h:i=j
 .rw[if_pos h,if_pos (by rw[h];simp)]
 .rw[if_neg h,if_neg (by simpa using h)]
theorem ap0(x y:Str)(r r':List PyData):rn (.str x::r) (.str y::r')=if x=y then rn r r' else sLt x y:=by
 show(if (x==y)=true then rn r r' else decide (x.cps.toList<y.cps.toList))=_;by_cases h:x=y
 .rw[if_pos h,if_pos (by rw[h];simp)]
 .rw[if_neg h,if_neg (by simpa using h)];rfl
theorem Fy:∀{ks:List Bool} {xs ys:List PyData},Row ks xs->Row ks ys->rn xs ys=true->rn ys xs=false
 | [],xs,ys,h1,h2,h=>by cases (show xs=[]from h1);cases (show ys=[]from h2);rfl
 | true::ks,xs,ys,h1,h2,h=>by
  obtain⟨i,r,rfl,h1⟩:=h1;obtain⟨j,r',rfl,h2⟩:=h2;rw[FL]at h⊢;by_cases e:i=j
  .rw[if_pos e]at h;rw[if_pos e.symm];exact Fy h1 h2 h
  .rw[if_neg e]at h;rw[if_neg (Ne.symm e)];have:=of_decide_eq_true h;exact decide_eq_false (by omega)
 | false::ks,xs,ys,h1,h2,h=>by
  obtain⟨i,r,rfl,h1⟩:=h1;obtain⟨j,r',rfl,h2⟩:=h2;rw[ap0]at h⊢;by_cases e:i=j
  .rw[if_pos e]at h;rw[if_pos e.symm];exact Fy h1 h2 h
  .rw[if_neg e]at h;rw[if_neg (Ne.symm e)];exact ap8 h
theorem Fd:∀{ks:List Bool} {a b c:List PyData},Row ks a->Row ks b->Row ks c->rn b a=false->rn c b=false->rn c a=false
 | [],a,b,c,h1,h2,h3,h4,h5=>by cases (show a=[]from h1);cases (show c=[]from h3);rfl
 | true::ks,a,b,c,h1,h2,h3,h4,h5=>by
  obtain⟨i,r,rfl,h1⟩:=h1;obtain⟨j,r',rfl,h2⟩:=h2;obtain⟨k,r'',rfl,h3⟩:=h3;rw[FL]at h4 h5⊢;by_cases e1:j=i
  .rw[if_pos e1]at h4;by_cases e2:k=j
   .rw[if_pos e2]at h5;rw[if_pos (e2.trans e1)];exact Fd h1 h2 h3 h4 h5
   .rw[if_neg e2]at h5;rw[if_neg (by omega)];have:=of_decide_eq_false h5;exact decide_eq_false (by omega)
  .rw[if_neg e1]at h4;have q1:=of_decide_eq_false h4;by_cases e2:k=j
   .rw[if_neg (by omega)];exact decide_eq_false (by omega)
   .rw[if_neg e2]at h5;have q2:=of_decide_eq_false h5;rw[if_neg (by omega)];exact decide_eq_false (by omega)
 | false::ks,a,b,c,h1,h2,h3,h4,h5=>by
  obtain⟨i,r,rfl,h1⟩:=h1;obtain⟨j,r',rfl,h2⟩:=h2;obtain⟨k,r'',rfl,h3⟩:=h3;rw[ap0]at h4 h5⊢;by_cases e1:j=i
  .rw[if_pos e1]at h4;by_cases e2:k=j
   .rw[if_pos e2]at h5;rw[if_pos (e2.trans e1)];exact Fd h1 h2 h3 h4 h5
   .rw[if_neg e2]at h5;rw[if_neg (by rw[<-e1];exact e2),<-e1];exact h5
  .rw[if_neg e1]at h4;by_cases e2:k=j
   .rw[if_neg (by rw[e2];exact e1),e2];exact h4
   .rw[if_neg e2]at h5;by_cases e3:k=i
    .subst e3;exact absurd (apb h5 h4) e2
    .rw[if_neg e3];exact aue h4 h5
theorem aqg{ks0:List Bool}{ds:List PyData}(h:Rows ks0 ds):Ord (uB ds):=by
 obtain⟨ks,tP,hk⟩:∃ks,ks=true::ks0/\ks≠[]:=⟨_,rfl,by simp⟩;have qG:∀i,uh (ds.getD i .none)=[]\/Row ks (uh (ds.getD i .none)):=λi=>by
  by_cases hi:i<ds.length
  .right;have e:ds.getD i .none=ds[i]:=by simp[List.getD,hi]
   obtain⟨r,e2,hr⟩:=h ds[i] (eu hi);rw[e,e2,tP];exact hr
  .left;have e:ds.getD i .none=.none:=by simp[List.getD,ft (Nat.le_of_not_lt hi)]
   rw[e];rfl
 have ne:∀{r:List PyData},Row ks r->∃x xs,r=x::xs:=λ{r} hr=>by
  match ks,hk,hr with
  | true::ks,_,⟨i,r,e,_⟩=>exact(nq _ _ e)
  | false::ks,_,⟨i,r,e,_⟩=>exact(nq _ _ e)
 refine⟨λa b jX=>?_,λa b c h1 h2=>?_⟩
 .show rn (uh (ds.getD b .none)) (uh (ds.getD a .none))=false;have zG:rn (uh (ds.getD a .none)) (uh (ds.getD b .none))=true:=jX;rcases qG a with ea|ea<;>rcases qG b with eb|eb
  .rw[ea,eb];rfl
  .obtain⟨x,xs,e⟩:=ne eb;rw[ea,e];rfl
  .obtain⟨x,xs,e⟩:=ne ea;rw[e,eb]at zG;cases zG
  .exact Fy ea eb zG
 .show rn (uh (ds.getD c .none)) (uh (ds.getD a .none))=false;have fT:rn (uh (ds.getD b .none)) (uh (ds.getD a .none))=false:=h1;have gI:rn (uh (ds.getD c .none)) (uh (ds.getD b .none))=false:=h2;rcases qG a with ea|ea
  .rw[ea];rcases qG c with ec|ec
   .rw[ec];rfl
   .obtain⟨x,xs,e⟩:=ne ec;rw[e];rfl
  .obtain⟨x,xs,e⟩:=ne ea;rcases qG b with eb|eb
   .rw[eb,e]at fT;cases fT
   .obtain⟨y,ys,e2⟩:=ne eb;rcases qG c with ec|ec
    .rw[ec,e2]at gI;cases gI
    .exact Fd ea eb ec fT gI
theorem we(ds:List PyData):((cb ds.length).map λi=>ds.getD i .none)=ds:=by
 apply List.ext_getElem
 .simp
 .intro i h1 h2;simp[List.getD,h2]
theorem yt(ds:List PyData):(vT ds).Perm ds:=by have h:=(Ls (uB ds) ds.length).map λi=>ds.getD i .none;rw[we]at h;exact h
theorem an7{ks:List Bool}{ds:List PyData}(h:Rows ks ds){i j:Nat}{x y:PyData}(hx:(vT ds)[i]?=some x)(hy:(vT ds)[j]?=some y)(cW:i<=j):rn (uh y) (uh x)=false:=by
 unfold vT at hx hy;rw[au]at hx hy;have hj:j<(srt (uB ds) ds.length).length:=by
  cases e:(srt (uB ds) ds.length)[j]? with
  | none=>rw[e]at hy;cases hy
  | some k=>exact(ae.mp e).1
 have hi:i<(srt (uB ds) ds.length).length:=by omega
 rw[ab hi]at hx;rw[ab hj]at hy;cases hx;cases hy;have u:=ao0 (aqg h) ds.length cW (by rw[yi]at hj;exact hj);have e1:(srt (uB ds) ds.length).getD i 0=(srt (uB ds) ds.length)[i]:=by simp[List.getD,hi]
 have e2:(srt (uB ds) ds.length).getD j 0=(srt (uB ds) ds.length)[j]:=by simp[List.getD,hj]
 rw[e1,e2]at u;exact u
end L3
namespace L3
open PySem PySem.Spec PyProof.Rows
section
variable{prog:aI}{w:aK}{A:Around}{R:kU->aB->Prop}{I:aE}{fp wr:List aE}{n:Nat}{P:Nat->aA->Prop}{St:Nat->Heap->Prop}
theorem ak7(kw:List (Str×aA))(W:sY prog w A.in1 I fp wr n P St)(bt:Nat->Nat->Bool)(iK:CmpOf prog w A.in1 .Gt P bt)(S:aE)(pN:S∉fp) :
  ∀(k j:Nat)(s:aB)(vb:aA)(c:Nat),n-(j+1)=k->j+1<=n->St (j+1) s.heap->P (fU bt j) vb->
  s.heap.get? S=some {cls:=.type "list",dict:=none,data:=.seq #[vb,vb] c,slots:=#[]}->
  (∀v h' tk,P (fU bt (n-1)) v->(∀b o,b∉wr->b≠S->s.heap.get? b=some o->h'.get? b=some o)->R (.ok (.ret v)) {s with heap:=h',toks:=tk})->
  cH (aH prog w) A (.builtin "max.loop" ⟨[.ref I,.none,.ref S],kw⟩) R s:=by
 have AH:S∉wr:=λh=>pN (W.sub _ h);have nm:(jR "max" ++ jR ".loop" : String)="max.loop":=by decide
 intro k;induction k with
 | zero=>
  intro j s vb c hk hj hst EI hS hR;have tR:j+1=n:=by omega
  refine jb F.entry_max_loop ?_;rw[gu lq _];show aG _ A.in1 (fM (.ref S) >>= _) _ _ s;refine aa (ju hS rfl ?_);show aG _ A.in1 (vY (bB (.ref I)) _ >>= _) _ _ s;refine aa (gQ (W.done s _ _ (tR▸hst) λh' tk dU=>?_));have kS:=dU S _ AH hS;show aG _ A.in1 (kO S (λ_=>#[]) >>= _) _ _ _;refine aa (cT kS rfl (aa (eT (af ?_))));exact hR vb _ tk (by rw[<-tR];exact EI) λb o qD vJ e=>(dh _ _ (Ne.symm vJ)).trans (dU b o qD e)
 | succ k ih=>
  intro j s vb c hk hj hst EI hS hR;have cN:j+1<n:=by omega
  refine jb F.entry_max_loop ?_;rw[gu lq _];show aG _ A.in1 (fM (.ref S) >>= _) _ _ s;refine aa (ju hS rfl ?_);show aG _ A.in1 (vY (bB (.ref I)) _ >>= _) _ _ s;refine aa (gQ (W.item (j+1) s _ _ cN hst λv h' tk hP oY dU=>?_));have kS:=dU S _ AH hS;show aG _ A.in1 (vY (mS [v,v] (richCompare .Gt v vb >>= _)) _ >>= _) _ _ _;refine aa (gQ (gk (aa (iK (j+1) (fU bt j) v vb _ _ _ hP EI ?_))));refine aa (gk (gr ?_));refine aa (eT (af ?_));cases hb:bt (j+1) (fU bt j)with
  | true=>
   simp only[if_true];refine aa (cT kS rfl (aa (eT ?_)));rw[nm];refine af ⟨ln lq _,ih (j+1) _ v _ (by omega) cN (W.frame _ _ _ oY λb C2 o e=>?_) (by simp only[fU,hb,if_true];exact hP) (cn _ kS rfl) λv' sH qK C6 rW=>?_⟩
   .exact(dh _ _ (λh:S=b=>pN (by rw[h];exact C2))).trans e
   .exact hR v' sH qK C6 λb o qD vJ e=>rW b o qD vJ ((dh _ _ (Ne.symm vJ)).trans (dU b o qD e))
  | false=>
   simp only[bi,if_false];refine aa (eT ?_);rw[nm];refine af ⟨ln lq _,ih (j+1) _ vb c (by omega) cN oY (by simp only[fU,hb,bi,if_false];exact EI) kS λv' sH qK C6 rW=>?_⟩;exact hR v' sH qK C6 λb o qD vJ e=>rW b o qD vJ (dU b o qD e)
theorem aik(kw:List (Str×aA))(W:sY prog w A.in1 I fp wr n P St)(bt:Nat->Nat->Bool)(iK:CmpOf prog w A.in1 .Gt P bt)(S:aE)(pN:S∉fp)(hn:0<n){s:aB}{c:Nat}(hst:St 0 s.heap)
  (hS:s.heap.get? S=some {cls:=.type "list",dict:=none,data:=.seq #[] c,slots:=#[]})
  (hR:∀v h' tk,P (fU bt (n-1)) v->(∀b o,b∉wr->b≠S->s.heap.get? b=some o->h'.get? b=some o)->R (.ok (.ret v)) {s with heap:=h',toks:=tk}) :
  cH (aH prog w) A (.builtin "max.loop" ⟨[.ref I,.none,.ref S],kw⟩) R s:=by
 have AH:S∉wr:=λh=>pN (W.sub _ h);have nm:(jR "max" ++ jR ".loop" : String)="max.loop":=by decide
 refine jb F.entry_max_loop ?_;rw[gu lq _];show aG _ A.in1 (fM (.ref S) >>= _) _ _ s;refine aa (ju hS rfl ?_);show aG _ A.in1 (vY (bB (.ref I)) _ >>= _) _ _ s;refine aa (gQ (W.item 0 s _ _ hn hst λv h' tk hP oY dU=>?_));have kS:=dU S _ AH hS;show aG _ A.in1 (kO S (λ_=>#[v,v]) >>= _) _ _ _;refine aa (cT kS rfl ?_);rw[nm];refine af ⟨ln lq _,ak7 kw W bt iK S pN _ 0 _ v _ rfl hn (W.frame _ _ _ oY λb C2 o e=>?_) hP (cn _ kS rfl) λv' sH qK C6 rW=>?_⟩
 .exact(dh _ _ (λh:S=b=>pN (by rw[h];exact C2))).trans e
 .exact hR v' sH qK C6 λb o qD vJ e=>rW b o qD vJ ((dh _ _ (Ne.symm vJ)).trans (dU b o qD e))
end
section
variable{prog:aI}{w:aK}{A:Around}{E:aA->aB->Prop}{s:aB}
theorem agg{x d:aA}{Q:aA->aB->Prop}
  (h:aG (aH prog w) A.in1 (kQ x) (λit s₂=>∃I fp wr n P St bt,it=.ref I/\sY prog w A.in1 I fp wr n P St/\St 0 s₂.heap/\(∀b∈fp,b<s₂.heap.objs.size)/\0<n/\CmpOf prog w A.in1 .Gt P bt/\
   ∀v h' tk,P (fU bt (n-1)) v->(∀b o,b∉wr->s₂.heap.get? b=some o->h'.get? b=some o)->Q v {s₂ with heap:=h',toks:=tk}) E s) :
  aG (aH prog w) A (call (.builtin "max") [x] [(ba "default",d)]) Q E s:=by
 have nm:(jR "max" ++ jR ".loop" : String)="max.loop":=by decide
 refine nK (xI F.plain_max F.entry_max ?_);simp only[EW,F.kind_max];have go:aG (aH prog w) A.in1 (Builtin.«max» ⟨[x],[(ba "default",d)]⟩) (λfin s'=>match fin with
   | .done f=>(match (Except.ok f:kU)with|.ok (.ret v)=>Q v s'|.ok _=>False|.error e=>E e s')
   | .again c'=>c'.quiet=true/\cH (aH prog w) A c' (λr s'=>match r with|.ok (.ret v)=>Q v s'|.ok _=>False|.error e=>E e s') s') E s:=by
  show aG _ A.in1 (Builtin.Builtins.bindParams "max" ["key","default"] 0 ⟨[],[(ba "default",d)]⟩ >>= _) _ _ s;refine aa (dM (show Builtin.Builtins.bindParams "max" ["key","default"] 0 ⟨[],[(ba "default",d)]⟩=aS [none,some d]from rfl) ?_);refine aa (af ?_);refine aa (jj h (λit s₂ h₂=>?_) λ_ _ e=>e);obtain⟨I,fp,wr,n,P,St,bt,rfl,W,hst,wX,hn,iK,hQ⟩:=h₂;refine aa (cm ?_);have pN:s₂.heap.objs.size∉fp:=λhm=>j4 _ (wX _ hm);rw[nm];refine af ⟨ln lq _,aik _ W bt iK s₂.heap.objs.size pN hn (W.frame _ _ _ hst λb _ o e=>am _ e) (az _ rfl) λv h' tk hP hk=>?_⟩;exact hQ v h' tk hP λb o qD e=>hk b o qD (dq (bq e)) (am _ e)
 cases Hm:Manifest.signature? "max" with
 | none=>exact af go
 | some sig=>
  have EG:Bind.checkArgs "max" sig ⟨[x],[(ba "default",d)]⟩=aS ():=by have:=alh x d;simpa only [Bf,Hm]using this
  simp only[EG];exact af go
theorem amq{l:aE}{d:aA}{vs:List aA}{ns:List Int}{Q:aA->aB->Prop}(hh:A.handled=none)(hl:s.heap.IsList l vs.toArray)(hi:iM vs ns)(eO:0<ns.length)
  (h:∀h' M (t:Bq) tk,(∀b o,s.heap.get? b=some o->h'.get? b=some o)->M∈ns->(∀a,a∈ns->a<=M)->Q (.int M t) {s with heap:=h',toks:=tk}) :
  aG (aH prog w) A (call (.builtin "max") [.ref l] [(ba "default",d)]) Q E s:=by
 obtain⟨xs,e⟩:=hi.allInts.items;have nX:ns=xs.toList.map (·.1):=by rw[<-hi.numsOf,<-nums_intItems,<-e]
 have hsz:0<xs.size:=by have h3:=eO;rw[nX,ah,ax]at h3;exact h3
 rw[e]at hl;refine agg (iter_intList hl λs₂ e st wX hlI=>?_);subst e;refine(my _ _ _ _ _ (nq _ _ ⟨rfl,sY.list (A:=A.in1) hh _ l hlI (wO xs),st,wX,by simpa [wO]using hsz,CmpOf.ints_gt (numAt xs) (λ_ _=>wN),λv h' tk hP hk=>?_⟩));have hv:(wO xs)[fU (λi j=>decide (numAt xs i>numAt xs j)) (xs.size-1)]?=some v:=by simpa [wO]using hP
 obtain⟨t,rfl⟩:=wN hv;obtain⟨h1,h2⟩:=argBest_gt (numAt xs) (xs.size-1);refine h _ _ t tk (old_kept hk) ?_ λa ha=>?_
 .rw[nX,wL];exact getD_mem (by rw[ah,ax];omega)
 .rw[nX]at ha;obtain⟨j,hj,rfl⟩:=mem_getD ha;rw[ah,ax]at hj;rw[<-wL];exact h2 j (by omega)
end
end L3
namespace L3
end L3
namespace L3
open PySem PySem.Spec PyProof.Rows L2
section
variable{X:Cx}{x:Str}{p pos qW:eA}{e e2:Expr}{es:List Expr}{t tk:TA}{te:TE}
def a0q:List V->Hp->VK->Prop:=λxs H Q=>∃q,∃ns:List Int,xs=[.ref q]/\H q=some (.lst (ns.map V.int))/\0<ns.length/\∀M,M∈ns->(∀a∈ns,a<=M)->Q (.int M) H
def aw4(t tk:TA):TE:=λσ H Q=>t σ H λvs H1=>tk σ H1 λzs H2=>zs.length=1/\a0q vs H2 Q
theorem ak9(hc:X.calm=true)(hg:Gl X "max")(hm:X.mg "max" = none)(ha:PA X [e] t)(hkw:PK X [⟨some "default",e2,qW⟩] tk)
  (he:cO pos (aR [e] X.env)=(false,bH e X.env)::cO pos (aR [] X.env):=by rfl) (hpl:(cO pos (aR [e] X.env)).any (·.1)=false:=by rfl) :
  PE X (.Call (.Name "max" p) [e] [⟨some "default",e2,qW⟩] pos) (aw4 t tk):=by
 intro aC s σ H Q I h;refine jk (v5 I hg hm boot_max ?_ (by decide) (by decide));refine callWith_kw (thn (ha pos aC s σ H _ I h) λus s1 ⟨vs,H1,I1,r,q⟩=>thn (hkw pos aC s1 σ H1 _ I1 q) λws s2 ⟨zs,H2,I2,rz,oV,q2⟩=>?_) he hpl;obtain⟨d,rfl⟩:∃d,ws=[d]:=by
  have hl:ws.length=1:=rz.length.symm.trans oV
  match ws,hl with
  | [d],_=>exact⟨d,rfl⟩
 obtain⟨l,ns,rfl,hq,hn,hQ⟩:=q2;obtain⟨u,rfl,r1⟩:=uy r;cases (show u=aA.ref l from r1);obtain⟨its,rv,pl,hz⟩:=I2.list (SqL.of (K:=X.K) hq);exact amq (I2.ok.hd hc) pl.isList (acg rv) hn λh' M t tk k h1 h2=>(nq (.int M) H2 ⟨I2.kept k,⟨_,rfl⟩,hQ M h1 h2⟩)
end
noncomputable def mF:List Int->Int
 | []=>0
 | [a]=>a
 | a::b::r=>if mF (b::r)<=a then a else mF (b::r)
theorem Lq:∀{ns:List Int},0<ns.length->mF ns∈ns
 | [],h=>by simp at h
 | [a],_=>by simp[mF]
 | a::b::r,_=>by
  unfold mF;split
  .exact aw
  .exact a8 _ (Lq (by simp))
theorem K7:∀{ns:List Int},∀a∈ns,a<=mF ns
 | [],a,h=>by cases h
 | [a],b,h=>by
  have e:b=a:=by simpa using h
  rw[e];exact jv _
 | a::b::r,x,h=>by
  unfold mF;rcases bb.mp h with e|h
  .rw[e];split
   .exact jv _
   .lia
  .have:=K7 (ns:=b::r) x h;split
   .lia
   .exact this
theorem alc{ns:List Int}{M:Int}(h1:M∈ns)(h2:∀a∈ns,a<=M):M=mF ns:=by have hp:0<ns.length:=List.length_pos_of_mem h1;have a1:=h2 _ (Lq hp);have a2:=K7 M h1;lia
noncomputable def AY(m:Int):PyData->PyData
 | .tuple [.int r,.int c,.str x]=>.tuple [.int r,.int (m-c),.str x]
 | d=>d
noncomputable def AX(m:Int):PyData->PyData
 | .tuple [.int r,.int c,.str x]=>.tuple [.int c,.int (m-r),.str x]
 | d=>d
noncomputable def nA(ds:List PyData):List PyData:=ds.map (AY (mF (ds.map zh)))
noncomputable def nE(ds:List PyData):List PyData:=ds.map (AX (mF (ds.map yg)))
noncomputable def Bm(t:Nat)(ds:List PyData):List PyData:=(cb (t % 4)).foldl (λa _=>nE a) (if 4<=t then nA ds else ds)
theorem ajo{ds:List PyData}(h:Spots ds)(m:Int):Spots (ds.map (AY m)):=λd hd=>by obtain⟨e,he,rfl⟩:=bf.mp hd;obtain⟨r,c,x,rfl⟩:=h e he;exact(oq _ _ _ rfl)
theorem akz{ds:List PyData}(h:Spots ds)(m:Int):Spots (ds.map (AX m)):=λd hd=>by obtain⟨e,he,rfl⟩:=bf.mp hd;obtain⟨r,c,x,rfl⟩:=h e he;exact(oq _ _ _ rfl)
theorem yk{ds:List PyData}(h:Spots ds):Rows [true,false] ds:=λd hd=>by obtain⟨r,c,x,rfl⟩:=h d hd;exact(o8 _ rfl _ _ ⟨rfl,(nq _ _ ⟨rfl,(nq _ _ ⟨rfl,rfl⟩)⟩)⟩)
section
variable{K:aj}{a:aE}{xs:List V}{ds:List PyData}{σ:L2.St}{H:Hp}{Q:VK}
theorem ace{i0:Nat}(j:Int)(pr:PyData->Int)(hj:∀(r c:Int)(x:Str),atI [V.int r,.int c,.str x] j=some (.int (pr (.tuple [.int r,.int c,.str x]))))
  (hσ:σ[i0]?=some (some (.ref a))) (ha:H a=some (.lst xs)) (hr:RepAll H ds xs) (hs:Spots ds) (hl:ds.length<=64)
  (q:∀D H',Same H H'->H' D=some (.lst ((ds.map pr).map V.int))->Q (.ref D) H') :
  Ds (Ko K (mC i0)) [none] (uD 0) jH (tOp (JP K) (mC 0) (tC (.int j))) σ H Q:=by
 have bD:=hr.length;refine(qc _ hσ a ⟨rfl,⟨_,SqL.of ha⟩,λD hD=>?_⟩);refine o5 (xs:=xs) (λi ys H'=>Same H H'/\ys=((ds.take i).map pr).map V.int) ⟨Same.fresh _ hD,rfl⟩ (λi ys H' p=>SqL.of (p.1 _ _ ha)) (λi x ys H' hx hi bA fQ p=>?_) (λys H' bA fQ p=>?_)
 .obtain⟨p1,rfl⟩:=p;obtain⟨b,r,c,z,rfl,hb,hz,hd⟩:=hs.at hr hx;refine⟨Agree.set (Agree.refl _) rfl,?_⟩;dsimp only[jH];refine um ?_;refine(mz _ rfl b _ _ _ ⟨rfl,rfl,SqT.of (p1 _ _ hb),hj r c z,qm (by lia) bA fQ ⟨p1.new hD,?_⟩⟩);rw[ou pr hd,bn];rfl
 .obtain⟨p1,rfl⟩:=p;refine q D H' p1 ?_;rw[bA,av (by lia)]
theorem ato(r c:Int)(x:Str):atI [V.int r,.int c,.str x] 0=some (.int (yg (.tuple [.int r,.int c,.str x]))):=rfl
theorem av8(r c:Int)(x:Str):atI [V.int r,.int c,.str x] 1=some (.int (zh (.tuple [.int r,.int c,.str x]))):=rfl
theorem afb{m:Int}{i0 j:Nat}{ta tb:TE}(f:Int->PyData->PyData)(hσ:σ[i0]?=some (some (.ref a)))(h1:σ[j]?=some (some (.int m)))(ha:H a=some (.lst xs))(hr:RepAll H ds xs)(hs:Spots ds)(hl:ds.length<=64)
  (rK:∀(r c:Int)(z:Str)(H':Hp)(Q':VK),(∃u v:Int,f m (.tuple [.int r,.int c,.str z])=.tuple [.int u,.int v,.str z]/\∀n,H' n=none->Q' (.ref n) (upd H' n (.tup [.int u,.int v,.str z])))->
   Do (wl ta (wl tb (wl (mC 2) A9))) [some (.int r),some (.int c),some (.str z),some (.int m)] H' Q')
  (q:∀D ys H',H D=none->Same H H'->H' D=some (.lst ys)->RepAll H' (ds.map (f m)) ys->Q (.ref D) H')
  (nV:∀(r c:Int)(z:Str),∃u v:Int,f m (.tuple [.int r,.int c,.str z])=.tuple [.int u,.int v,.str z]) :
  Ds (Ko K (mC i0)) [none,none,none,some j] (E5 K 3 (zS (uD 0) (zS (uD 1) (zS (uD 2) JI)))) jH (Do (wl ta (wl tb (wl (mC 2) A9)))) σ H Q:=by
 have bD:=hr.length;refine(qc _ hσ a ⟨rfl,⟨_,SqL.of ha⟩,λD hD=>?_⟩);have hp:se [none,none,none,some j] σ=[none,none,none,some (.int m)]:=by unfold se;simp[h1]
 have im:∀es:List PyData,(∀d∈es,d∈ds)->Spots (es.map (f m)):=λes he d hd=>by obtain⟨d0,h0,rfl⟩:=bf.mp hd;obtain⟨r0,c0,x0,rfl⟩:=hs d0 (he d0 h0);obtain⟨u,v,e⟩:=nV r0 c0 x0;exact(oq u v x0 e)
 refine o5 (xs:=xs) (λi ys H'=>Same H H'/\RepAll H' ((ds.take i).map (f m)) ys) ⟨Same.fresh _ hD,rfl⟩ (λi ys H' p=>SqL.of (p.1 _ _ ha)) (λi x ys H' hx hi bA fQ p=>?_) (λys H' bA fQ p=>?_)
 .obtain⟨p1,p2⟩:=p;obtain⟨b,r,c,z,rfl,hb,hz,hd⟩:=hs.at hr hx;rw[hp];refine(n0 b _ rfl (SqT.of (p1 _ _ hb)) rfl _ _ rfl _ (o8 _ rfl _ _ ⟨rfl,rfl,?_⟩));refine⟨Agree.set (Agree.set (Agree.set (Agree.refl _) rfl) rfl) rfl,?_⟩;dsimp only[jH];refine um ?_;obtain⟨u,v,ef⟩:=nV r c z;refine rK r c z H' _ (nq u v ⟨ef,λn hn=>?_⟩);have s2:Same H' (upd H' n (.tup [.int u,.int v,.str z])):=Same.fresh _ hn;have n2:upd H' n (.tup [.int u,.int v,.str z]) n=some (.tup [.int u,.int v,.str z]):=np;generalize upd H' n (.tup [.int u,.int v,.str z])=H2 at *;have gO:=s2 _ _ bA;refine qm (by lia) gO fQ ⟨(p1.trans s2).new hD,?_⟩;have rep:RepAll H2 ((ds.take i).map (f m)++[f m (.tuple [.int r,.int c,.str z])]) (ys++[.ref n]):=by
   rw[ef];exact(p2.same s2).snoc (zy n2 hz)
  rw[<-ou (f m) hd]at rep;exact rep.tk (Tk.lst gO) (Spots.imm (im _ λd pL=>gt pL))
 .obtain⟨p1,p2⟩:=p;rw[av (by lia)]at p2;exact q D ys H' hD p1 bA p2
end
def azi(K:aj)(tl:TE):TI:=λσ H R=>tl σ H λx H1=>∃a,x=.ref a/\(((∃xs,SqL K H1 a xs)/\R (Itl K a) H1)\/((∃xs,SqT K H1 a xs)/\R (Itt K a) H1))
section
variable{X:Cx}{tg:Expr}
theorem avp{l:Expr}{tl:TE}(hl:PE X l tl):PI X tg l (azi X.K tl):=by
 intro aC s σ H R I h;refine thn (hl aC s σ H _ I h) λv s1 ⟨x,H1,I1,r1,q1⟩=>?_;obtain⟨a,e,⟨⟨xs,hq⟩,q⟩|⟨⟨xs,hq⟩,q⟩⟩:=q1
 .subst e;cases r1;obtain⟨its,rv,p,hz⟩:=I1.list hq;refine dB p.isList ?_;refine(my s1.heap.objs.size ([s1.heap.objs.size]) _ _ H1 ⟨rfl,I1.kept (t':=s1.toks) λb o e=>am _ e,aek a _,⟨_,az _ rfl,rfl,rfl⟩,λb hb=>?_,q⟩);have e:b=s1.heap.objs.size:=by simpa using hb
  subst e;exact I1.fpOk (aq _) (I1.hok.fresh (aq _))
 .subst e;cases r1;obtain⟨its,rv,p,hz⟩:=I1.tuple hq;refine cY (show s1.heap.IsTuple a its.toArray from p) ?_;refine(my s1.heap.objs.size ([s1.heap.objs.size]) _ _ H1 ⟨rfl,I1.kept (t':=s1.toks) λb o e=>am _ e,acd a _,⟨_,az _ rfl,rfl,rfl⟩,λb hb=>?_,q⟩);have e:b=s1.heap.objs.size:=by simpa using hb
  subst e;exact I1.fpOk (aq _) (I1.hok.fresh (aq _))
end
section
variable{K:aj}{a:aE}{xs:List V}{ds:List PyData}{σ:L2.St}{H:Hp}{Q:VK}{sl:List (Option Nat)}{g:TG}{tt:L2.TT}{te:TE}
theorem aot(ha:H a=some (.lst xs)\/H a=some (.tup xs))(Pv:aE->Nat->List V->Hp->Prop)(h0:∀D,H D=none->Pv D 0 [] (upd H D (.lst [])))(hk:∀D i ys G,Pv D i ys G->Same H G)
  (hs:∀D i x ys G,H D=none->xs[i]?=some x->i<xs.length->G D=some (.lst ys)->ys.length<=i->Pv D i ys G->g x (se sl σ) G λσ2 H2=>Agree (se sl σ) σ2/\tt σ2 H2 λb H3=>
   if b=true then te σ2 H3 λy H4=>∃xs,H4 D=some (.lst xs)/\xs.length<aF/\Nx D i (Pv D) (upd H4 D (.lst (xs++[y])))else Nx D i (Pv D) H3)
  (hd:∀D ys G,H D=none->G D=some (.lst ys)->ys.length<=xs.length->Pv D xs.length ys G->Q (.ref D) G) :
  ((∃xs,SqL K H a xs)/\∀D,H D=none->vU (Itl K a) sl g tt te σ H D Q)\/((∃xs,SqT K H a xs)/\∀D,H D=none->vU (Itt K a) sl g tt te σ H D Q):=by
 rcases ha with ha|ha
 .exact .inl ⟨⟨_,SqL.of ha⟩,λD hD=>o5 (xs:=xs) (Pv D) (h0 D hD) (λi ys G p=>SqL.of (hk D i ys G p _ _ ha)) (λi x ys G=>hs D i x ys G hD) λys G=>hd D ys G hD⟩
 .exact .inr ⟨⟨_,SqT.of ha⟩,λD hD=>F0 (xs:=xs) (Pv D) (h0 D hD) (λi ys G p=>SqT.of (hk D i ys G p _ _ ha)) (λi x ys G=>hs D i x ys G hD) λys G=>hd D ys G hD⟩
theorem ajj{i0:Nat}{aZ:L2.St}(f:PyData->PyData)(hσ:σ[i0]?=some (some (.ref a)))(hp:se sl σ=none::none::none::aZ)(ha:H a=some (.lst xs)\/H a=some (.tup xs))(hr:RepAll H ds xs)(hs:Spots ds)(hl:ds.length<=64)
  (rK:∀(r c:Int)(z:Str)(H':Hp)(Q':VK),(∃u v:Int,f (.tuple [.int r,.int c,.str z])=.tuple [.int u,.int v,.str z]/\∀n,H' n=none->Q' (.ref n) (upd H' n (.tup [.int u,.int v,.str z])))->
   te (some (.int r)::some (.int c)::some (.str z)::aZ) H' Q')
  (nV:∀(r c:Int)(z:Str),∃u v:Int,f (.tuple [.int r,.int c,.str z])=.tuple [.int u,.int v,.str z])
  (q:∀D ys H',H D=none->Same H H'->H' D=some (.lst ys)->RepAll H' (ds.map f) ys->Q (.ref D) H') :
  Ds (azi K (mC i0)) sl (E5 K 3 (zS (uD 0) (zS (uD 1) (zS (uD 2) JI)))) jH te σ H Q:=by
 have bD:=hr.length;have im:∀es:List PyData,(∀d∈es,d∈ds)->Spots (es.map f):=λes he d hd=>by obtain⟨d0,h0,rfl⟩:=bf.mp hd;obtain⟨r0,c0,x0,rfl⟩:=hs d0 (he d0 h0);obtain⟨u,v,e⟩:=nV r0 c0 x0;exact(oq u v x0 e)
 refine(qc _ hσ a ⟨rfl,aot ha (λD i ys H'=>Same H H'/\RepAll H' ((ds.take i).map f) ys) (λD hD=>⟨Same.fresh _ hD,rfl⟩) (λD i ys H' p=>p.1) (λD i x ys H' hD hx hi bA fQ p=>?_) (λD ys H' hD bA fQ p=>?_)⟩)
 .obtain⟨p1,p2⟩:=p;obtain⟨b,r,c,z,rfl,hb,hz,hd⟩:=hs.at hr hx;rw[hp];refine(n0 b _ rfl (SqT.of (p1 _ _ hb)) rfl _ _ rfl _ (o8 _ rfl _ _ ⟨rfl,rfl,?_⟩));refine⟨Agree.set (Agree.set (Agree.set (Agree.refl _) rfl) rfl) rfl,?_⟩;dsimp only[jH];refine um ?_;obtain⟨u,v,ef⟩:=nV r c z;refine rK r c z H' _ (nq u v ⟨ef,λn hn=>?_⟩);have s2:Same H' (upd H' n (.tup [.int u,.int v,.str z])):=Same.fresh _ hn;have n2:upd H' n (.tup [.int u,.int v,.str z]) n=some (.tup [.int u,.int v,.str z]):=np;generalize upd H' n (.tup [.int u,.int v,.str z])=H2 at *;have gO:=s2 _ _ bA;refine qm (by lia) gO fQ ⟨(p1.trans s2).new hD,?_⟩;have rep:RepAll H2 ((ds.take i).map f++[f (.tuple [.int r,.int c,.str z])]) (ys++[.ref n]):=by
   rw[ef];exact(p2.same s2).snoc (zy n2 hz)
  rw[<-ou f hd]at rep;exact rep.tk (Tk.lst gO) (Spots.imm (im _ λd pL=>gt pL))
 .obtain⟨p1,p2⟩:=p;rw[av (by lia)]at p2;exact q D ys H' hD p1 bA p2
end
section
variable{X:Cx}{x:Str}{pos:eA}
theorem qu{z:Str}(h:∃t,X.mg x=some (.str z t))(hg:Gl X x)(hd:(x==("__debug__" : Str))=false:=by decide):PE X (.Name x pos) (tC (.str z)):=by obtain⟨t,h⟩:=h;exact ali hg h ⟨t,rfl⟩ hd
end
section
variable{X:Cx}
theorem ye:OpR X (aV .LtE) (λx y H Q=>∃i j,x=.str i/\y=.str j/\Q (.bl (!decide (j.cps.toList<i.cps.toList))) H):=by intro aC s σ H x y v u Q I rx ry h;obtain⟨i,j,rfl,rfl,q⟩:=h;obtain⟨t,rfl⟩:=rx;obtain⟨t',rfl⟩:=ry;exact PySem.P.le_str (nq (.bl _) H ⟨I,rfl,q⟩)
def a0c:V->Option Int->Option Int->Hp->VK->Prop:=λx lo hi H Q=>∃z,x=.str z/\z.length<=aF/\Q (.str (Txt.slice z lo hi)) H
theorem as6:SlR X a0c:=by
 intro aC s σ H x v vl vu lo hi sl Q I rx hs pl pu h;obtain⟨z,rfl,hz,q⟩:=h;obtain⟨t,rfl⟩:=rx;obtain⟨o,ho,hc,hd⟩:=hs;have fin:∀t' k,EP X aC σ Q (.str (Txt.slice z lo hi) t') {s with toks:=k}:=λt' k=>(nq (.str _) H ⟨I.tok _,⟨_,rfl⟩,q⟩);refine(nq ("str") _ ⟨F.slot_str_getitem.lookup,Aj _ _ _,?_⟩);cases pl with
 | none=>
  cases pu with
  | none=>exact dA (l:=none) (u:=none) (st:=none) ⟨o,ho,hc,hd⟩ rfl (fX ⟨dv (Txt.slice_le z _ _) hz,fin⟩)
  | int j uj=>exact dA (l:=none) (u:=some (j,uj)) (st:=none) ⟨o,ho,hc,hd⟩ rfl (fX ⟨dv (Txt.slice_le z _ _) hz,fin⟩)
 | int i ui=>
  cases pu with
  | none=>exact dA (l:=some (i,ui)) (u:=none) (st:=none) ⟨o,ho,hc,hd⟩ rfl (fX ⟨dv (Txt.slice_le z _ _) hz,fin⟩)
  | int j uj=>exact dA (l:=some (i,ui)) (u:=some (j,uj)) (st:=none) ⟨o,ho,hc,hd⟩ rfl (fX ⟨dv (Txt.slice_le z _ _) hz,fin⟩)
theorem ahu(x:Array Nat):∀(k:Nat)(iB:Array Nat),((kq k x).foldl (· ++ ·) iB).size=iB.size+k*x.size
 | 0,iB=>by simp
 | k+1,iB=>by rw[List.replicate_succ,List.foldl_cons,ahu x k];simp only[Array.size_append];rw[Nat.add_mul];lia
theorem agy(x:Array Nat):∀(k:Nat)(iB:Array Nat)(c:Nat),c∈((kq k x).foldl (· ++ ·) iB).toList->c∈iB.toList\/c∈x.toList
 | 0,iB,c,h=>.inl (by simpa using h)
 | k+1,iB,c,h=>by
  rw[List.replicate_succ,List.foldl_cons]at h;rcases agy x k _ c h with h|h
  .simpa using h
  .exact .inr h
def ayc:R2:=λx y H Q=>∃(z:Str)(n:Int),x=.str z/\y=.int n/\0<=n/\n<=1000/\z.length<=1000/\∀w:Str,w.length=z.length*n.toNat->(∀c∈w.cps.toList,c∈z.cps.toList)->Q (.str w) H
theorem ash:OpR X (cC .Mult) ayc:=by
 intro aC s σ H x y v u Q I rx ry h;obtain⟨z,n,rfl,rfl,h0,h1,hz,q⟩:=h;obtain⟨t,rfl⟩:=rx;obtain⟨t',rfl⟩:=ry;have hprod:z.length*n.toNat<=1000000:=by
  have a1:n.toNat<=1000:=by lia
  calc z.length*n.toNat<=1000*1000:=ky hz a1
   _=1000000:=rfl
 refine PySem.P.mul_str (by rw[decide_eq_false (by lia),decide_eq_false (by lia)];rfl) (λh2 _=>?_) (λ_ _=>?_) ?_
 .have h3:(1:Int)<=n:=by lia
  have h4:((2:Int)^63-1)/n>=(2^63-1)/1000:=by
   refine(Int.le_ediv_iff_mul_le (by lia)).mpr ?_
   calc ((2:Int)^63-1)/1000*n<=((2:Int)^63-1)/1000*1000:=Int.mul_le_mul_of_nonneg_left h1 (by decide)
    _<=2^63-1:=by decide
  have h5:((2:Int)^63-1)/1000>=1000:=by decide
  lia
 .unfold PySem.Builtin.Str.tooLong;rw[iw];exact decide_eq_false (by lia)
 .by_cases hn:n<1
  .rw[if_pos hn];have e:n=0:=by lia
   subst e;exact⟨by decide,(nq (.str Str.empty) H ⟨I.tok _,⟨_,rfl⟩,q _ (by simp[Str.empty,Str.length]) (by simp[Str.empty])⟩)⟩
  .rw[if_neg hn];by_cases hc:(n==1||z.length==0)=true
   .rw[if_pos hc];refine(nq (.str z) H ⟨I,⟨_,rfl⟩,q _ ?_ λc hc=>hc⟩);simp only[Bool.or_eq_true,beq_iff_eq]at hc;rcases hc with e|e
    .rw[e];simp
    .rw[e];simp
   .rw[if_neg hc];have e:(⟨(kq n.toNat z.cps).foldl (· ++ ·) #[]⟩:Str).length=z.length*n.toNat:=by
     show((kq n.toNat z.cps).foldl (· ++ ·) #[]).size=_;rw[ahu,Nat.mul_comm];simp[Str.length]
    refine⟨by rw[e,iw];lia,(nq (.str _) H ⟨I.tok _,⟨_,rfl⟩,q _ e λc hc=>?_⟩)⟩;rcases agy z.cps n.toNat #[] c (by simpa using hc)with h|h
    .simp at h
    .exact h
theorem akj:∀{ys:List Str} {us:List aA},Vals (ys.map V.str) us->StrsAre us ys
 | [],us,h=>by cases h;exact .nil
 | y::ys,us,h=>by
  cases h with
  | cons r t=>
   obtain⟨k,e⟩:=(show ∃t,_=aA.str y t from r);subst e;exact .cons y k (akj t)
def axj:V->List V->Hp->VK->Prop:=λx vs H Q=>∃(z:Str)(l:aE)(ys:List Str),x=.str z/\vs=[.ref l]/\H l=some (.lst (ys.map V.str))/\(ys.map (·.length)).sum+ys.length*z.length<=1000000/\Q (.str (Txt.join z ys)) H
theorem aj3:MtR X "str.join" axj:=by intro aC s σ H x vs v us Q I rx rv h;obtain⟨z,l,ys,rfl,rfl,hl,hz,q⟩:=h;obtain⟨t,rfl⟩:=rx;obtain⟨u,rfl,r1⟩:=uy rv;cases (show u=aA.ref l from r1);obtain⟨its,r,pl,_⟩:=I.list (SqL.of (K:=X.K) hl);exact join_list pl.isList (by simpa using akj r) (by lia) λt' k=>(nq (.str _) H ⟨I.tok _,⟨_,rfl⟩,q⟩)
def a0k:List V->Hp->VK->Prop:=λxs H Q=>∃(p:aE)(bs:List Bool),xs=[.ref p]/\H p=some (.lst (bs.map V.bl))/\Q (.bl (bs.all id)) H
theorem ame:∀(bs:List Bool),((cb bs.length).all λi=>(bs[i]?).getD true)=bs.all id:=λbs=>by
 rw[gc,List.all_eq_true,List.all_eq_true];constructor
 .intro h b hb;obtain⟨i,hi,rfl⟩:=List.mem_iff_getElem.mp hb;have:=h i (by simpa using hi);simpa [hi]using this
 .intro h i hi;have eC:i<bs.length:=by simpa using hi
  have:=h bs[i] (eu eC);simpa [eC]using this
theorem am2(hc:X.calm=true):u7 X (.builtin "all") a0k:=by
 intro aC s σ H xs us Q I r h;obtain⟨p,bs,rfl,hp,q⟩:=h;obtain⟨u,rfl,r1⟩:=uy r;cases (show u=aA.ref p from r1);obtain⟨its,rv,pl,hz⟩:=I.list (SqL.of (K:=X.K) hp);have cN:p<s.heap.objs.size:=by obtain⟨_,_,e,_⟩:=pl;exact bq e
 have bD:its.length=bs.length:=by rw[<-rv.length,ah]
 refine call_all_walk (dB pl.isList ?_);refine⟨s.heap.objs.size,[s.heap.objs.size,p],[s.heap.objs.size],its.toArray.size,_,_,λi=>(bs[i]?).getD true,rfl,sY.list (A:=X.A.in1) (I.ok.hd hc) _ p (dq cN) its.toArray,
  ⟨⟨_,az _ rfl,rfl,rfl⟩,pl.isList.push _⟩,λi v s' Q' E' hP hQ=>?_,λh' tk hk=>?_⟩
 .have hi:its[i]?=some v:=by simpa using hP
  have kI:i<bs.length:=by rw[<-bD];exact(ae.mp hi).1
  obtain⟨u',e1,e2⟩:=rv.get (i:=i) (x:=.bl bs[i]) (by rw[au,ab kI];rfl);rw[hi]at e1;cases e1;cases (show v=aA.bool bs[i]from e2);have C5:Q' ((bs[i]?).getD true) s':=hQ;rw[ab kI]at C5;exact gr C5
 .refine(nq (.bl _) H ⟨I.kept (λb o e=>hk b o (λhm=>?_) (am _ e)),rfl,?_⟩)
  .rw[ao.mp hm]at e;exact j4 _ (bq e)
  .rw[a9,bD,ame];exact q
end
theorem KO:∀{ys:List V} {us:List aA},ys.length=us.length->(∀(i:Nat)(y:V)(u:aA),ys[i]?=some y->us[i]?=some u->RelV y u)->Vals ys us
 | [],[],_,_=>.nil
 | [],_::_,h,_=>by cases h
 | _::_,[],h,_=>by cases h
 | y::ys,u::us,h,r=>.cons (r 0 y u rfl rfl) (KO (by simpa using h) λi y' u' e e'=>r (i+1) y' u' (by simpa using e) (by simpa using e'))
theorem ai8{X:Cx}(hc:X.calm=true):u7 X (.type "list") (λxs H Q=>∃z:Str,xs=[.str z]/\z.length<=1000/\∀l,H l=none->Q (.ref l) (upd H l (.lst (z.cps.toList.map λc=>V.str ⟨#[c]⟩)))):=by intro aC s σ H xs us Q I r h;obtain⟨z,rfl,hz,q⟩:=h;obtain⟨u,rfl,t,rfl⟩:=uy r;have gG:z.cps.size<=aF:=gj (by have:=iw;unfold Str.length at hz;lia);refine call_list_str (I.ok.hd hc) z t (λh' tk nG c' kp e sE=>?_) gG;refine(nq (.ref s.heap.objs.size) _ ⟨I.laid (t':=tk) kp (aq _) (show ObjOk X.prog X.w _ h' _ (.lst (z.cps.toList.map λc=>V.str ⟨#[c]⟩))from ⟨by simpa using gG,(nq nG.toList c' ⟨KO (by simpa using sE.1.symm) λi y u' e1 e2=>?_,by simpa using e⟩)⟩),rfl,q _ (I.hok.fresh (aq _))⟩);obtain⟨c,k,e3,e4⟩:=sE.2 i u' (by simpa using e2);rw[au,show z.cps.toList[i]?=some c by simpa using e3]at e1;cases e1;exact⟨k,e4⟩
def Tx(z:Str):Prop:=z.length<=80/\∀c∈z.cps.toList,c<128
theorem Tx.ok{z:Str}(h:Tx z):mq z=true:=by unfold mq;rw[Array.all_eq_true'];intro c hc;have:=h.2 c (by simpa using hc);simp only[decide_eq_true_eq];lia
noncomputable def sgB(c:Nat):Bool:=(c==35||c==46||c==44)||(decide (65<=c)&&decide (c<=90))||(decide (97<=c)&&decide (c<=122))
theorem atd{g:Array Nat}(hg:g=#[]):∀(l:List Str)(a:Array Nat),(l.foldl (λiB p=>iB++g++p.cps) a).toList=a.toList++(l.map λp=>p.cps.toList).flatten
 | [],a=>by simp
 | p::l,a=>by rw[List.foldl_cons,atd hg l,hg];simp
theorem aew{g:Str}(hg:g.cps=#[]):∀ys:List Str,(Txt.join g ys).cps.toList=(ys.map λp=>p.cps.toList).flatten
 | []=>by simp[Txt.join,PySem.Builtin.Str.glued,Str.empty]
 | y::ys=>by show((ys.foldl (λiB p=>iB++g.cps++p.cps) y.cps)).toList=_;rw[atd hg];simp
section
variable{prog:aI}{w:aK}{A:Around}{E:aA->aB->Prop}{s:aB}
theorem atm{I a:aE}{k:Nat}{ys:Array aA}{v:aA}{R:aA->aB->Prop}(st:s.heap.IsTupleIter I a k)(tp:s.heap.IsTuple a ys)(hv:ys[k]?=some v)
  (q:∀g,g.IsTupleIter I a (k+1)->b9 I s.heap g->R v {s with heap:=g}):aG (aH prog w) A (cz (.ref I)) R E s:=by
 obtain⟨u,hu,uc,ud⟩:=id st;obtain⟨z,hz,_,nz,zd⟩:=tp;unfold cz;refine aa (ci (name:=ba "__next__") st.typeIs F.slot_tuple_iterator_next (ck F.slot_tuple_iterator_next st.typeIs F.entry_tuple_iterator_next ?_ (F.args_tuple_iterator_next_1 _)));refine(aa (ig hu ud (x:=.ref a) rfl ?_):aG _ _ (iW (.ref I) 0 >>= _) _ _ s);refine(?_:aG _ _ (if (aA.ref a==aA.none)=true then _ else _) _ _ s);rw[if_neg (show ¬(aA.ref a==aA.none)=true from ai)];refine(aa (ig hu ud (x:=.int k 0) rfl ?_):aG _ _ (iW (.ref I) 1 >>= _) _ _ s);refine(aa (ju hz zd ?_):aG _ _ (fM (.ref a) >>= _) _ _ s);simp only[cg,hv];refine aa (h9 hu ud (by simp) (af ⟨v,rfl,af (q _ ⟨_,cn _ hu (Obj.isFreed_of_fields (jl ud _)),?_,?_⟩ (c8 ..))⟩))
 .exact(Obj.cls_mapFields ..).trans uc
 .rw[jl ud];simp[bU]
theorem aty{I:aE}{z:Str}{t:Bq}{k c:Nat}{R:aA->aB->Prop}(st:s.heap.IsStrIter I "str_ascii_iterator" z t k)(hv:z.cps[k]?=some c)
  (q:∀g,g.IsStrIter I "str_ascii_iterator" z t (k+1)->b9 I s.heap g->R (.str ⟨#[c]⟩ s.toks) {s with heap:=g,toks:=s.toks+1}):aG (aH prog w) A (cz (.ref I)) R E s:=by
 obtain⟨u,hu,uc,ud⟩:=id st;unfold cz;refine aa (ci (name:=ba "__next__") st.typeIs li (ck li st.typeIs F.entry_str_ascii_iterator_next ?_ (F.args_str_ascii_iterator_next_1 _)));refine(aa (ig hu ud (x:=.str z t) rfl ?_):aG _ _ (iW (.ref I) 0 >>= _) _ _ s);refine(aa (ig hu ud (x:=.int k 0) rfl ?_):aG _ _ (iW (.ref I) 1 >>= _) _ _ s);simp only[cg,hv];refine aa (h9 hu ud (by simp) (aa (wpAny_mkStr (af ⟨_,rfl,af (q _ ⟨_,cn _ hu (Obj.isFreed_of_fields (jl ud _)),?_,?_⟩ (c8 ..))⟩) sZ1)))
 .exact(Obj.cls_mapFields ..).trans uc
 .rw[jl ud];simp[bU]
theorem aam{X:aE}{h1:Heap}{k:aA->pR Fin}(hh:A.handled=none)(keep:kz X s.heap h1)
  (q:∀g e,kz X s.heap g->(∃o,g.get? e=some o/\o.cls=.type "StopIteration")->E (.ref e) {s with heap:=g}) {R:Fin->aB->Prop}
  (ek:∀v,k v=(jT v:pR Fin)):aG (aH prog w) A (gT (.type "StopIteration") [] >>= k) R E {s with heap:=h1}:=by
 refine aa ?_;simp only[gT,gS];refine aa (cm ?_ (by size_fits));refine aa (m:=dD _ _) (dM (a:=aA.none) (by first|rfl|(simp only[dD];rfl)) (cm ?_ (by size_fits)));rw[ek];simp only[jT];refine aa (fD ?_);rw[hh];exact aa (af (gR (q _ _ ((keep.push _).push _) ⟨_,az _ rfl,rfl⟩)))
theorem aif{I a:aE}{k:Nat}{ys:Array aA}{R:aA->aB->Prop}(hh:A.handled=none)(st:s.heap.IsTupleIter I a k)(tp:s.heap.IsTuple a ys)(hv:ys[k]?=none)
  (q:∀g e,kz I s.heap g->(∃o,g.get? e=some o/\o.cls=.type "StopIteration")->E (.ref e) {s with heap:=g}):aG (aH prog w) A (cz (.ref I)) R E s:=by
 obtain⟨u,hu,uc,ud⟩:=id st;obtain⟨z,hz,_,nz,zd⟩:=tp;unfold cz;refine aa (ci (name:=ba "__next__") st.typeIs F.slot_tuple_iterator_next (ck F.slot_tuple_iterator_next st.typeIs F.entry_tuple_iterator_next ?_ (F.args_tuple_iterator_next_1 _)));refine(aa (ig hu ud (x:=.ref a) rfl ?_):aG _ _ (iW (.ref I) 0 >>= _) _ _ s);refine(?_:aG _ _ (if (aA.ref a==aA.none)=true then _ else _) _ _ s);rw[if_neg (show ¬(aA.ref a==aA.none)=true from ai)];refine(aa (ig hu ud (x:=.int k 0) rfl ?_):aG _ _ (iW (.ref I) 1 >>= _) _ _ s);refine(aa (ju hz zd ?_):aG _ _ (fM (.ref a) >>= _) _ _ s);simp only[cg,hv];refine aa (k8 (aa (h9 hu ud (by simp) ?_)));exact aam (A:=A.in1) hh (c8 ..).extBut q λ_=>rfl
theorem ai1{I:aE}{z:Str}{t:Bq}{k:Nat}{R:aA->aB->Prop}(hh:A.handled=none)(st:s.heap.IsStrIter I "str_ascii_iterator" z t k)(hv:z.cps[k]?=none)
  (q:∀g e,kz I s.heap g->(∃o,g.get? e=some o/\o.cls=.type "StopIteration")->E (.ref e) {s with heap:=g}):aG (aH prog w) A (cz (.ref I)) R E s:=by
 obtain⟨u,hu,uc,ud⟩:=id st;unfold cz;refine aa (ci (name:=ba "__next__") st.typeIs li (ck li st.typeIs F.entry_str_ascii_iterator_next ?_ (F.args_str_ascii_iterator_next_1 _)));refine(aa (ig hu ud (x:=.str z t) rfl ?_):aG _ _ (iW (.ref I) 0 >>= _) _ _ s);refine(aa (ig hu ud (x:=.int k 0) rfl ?_):aG _ _ (iW (.ref I) 1 >>= _) _ _ s);simp only[cg,hv];refine aa (k8 (aa (h9 hu ud (by simp) (aa (eT ?_)))));exact aam (A:=A.in1) hh (c8 ..).extBut q λ_=>rfl
theorem ajw{e I:aE}{i:Nat}{iS:aA}{Y:aA->Prop}{N:Heap->Prop}{Q:Option aA->aB->Prop}(he:dX s.heap e I i iS)(eO:e≠I)
  (hN:∀g g',N g->(∀o,g.get? I=some o->g'.get? I=some o)->N g')
  (uY:∀(A':Around)(R:aA->aB->Prop)(E':aA->aB->Prop),(∀x g tk,Y x->N g->b9 I s.heap g->R x {s with heap:=g,toks:=tk})->aG (aH prog w) A' (cz (.ref I)) R E' s)
  (hQ:∀x g tk wA,Y x->Gf g e I ((i:Int)+1) x s.heap.objs.size->N g->g.get? s.heap.objs.size=some {cls:=.type "tuple",data:=.seq #[.int i wA,x]}->(∀b o,b≠e->b≠I->s.heap.get? b=some o->g.get? b=some o)->Q (some (.ref s.heap.objs.size)) {s with heap:=g,toks:=tk}) :
  aG (aH prog w) A (bB (.ref e)) Q E s:=by
 obtain⟨h0,ga,dr,t0,os⟩:=s;have ty:aB.TypeIs ⟨h0,ga,dr,t0,os⟩ (.ref e) "enumerate":=⟨_,he,rfl⟩
 replace he:dX h0 e I i iS:=he
 have pJ:e<h0.objs.size:=bq he;unfold bB;refine aa (jr (ci (name:=ba "__next__") ty F.slot_enumerate_next (ck F.slot_enumerate_next ty F.entry_enumerate_next ?_ (F.args_enumerate_next_1 _))));show aG _ _ (iW (.ref e) 2 >>= _) _ _ ⟨h0,ga,dr,t0,os⟩;refine aa (ig he rfl (x:=.ref I) rfl (aa (uY _ _ _ λx g1 tk yx n1 Al=>?_)))
 replace Al:b9 I h0 g1:=Al
 have e1:dX g1 e I i iS:=(Al.2 e eO).trans he;have z1:g1.objs.size=h0.objs.size:=Al.1;have k1:∀b o,b≠e->b≠I->h0.get? b=some o->g1.get? b=some o:=λb o _ hb h=>(Al.2 b hb).trans h;clear Al;show aG _ _ (iW (.ref e) 3 >>= _) _ _ ⟨g1,ga,dr,tk,os⟩;refine aa (ig e1 rfl (x:=bU i) rfl ?_);show aG _ _ (iW (.ref e) 4 >>= _) _ _ ⟨g1,ga,dr,tk,os⟩;refine aa (ig e1 rfl (x:=.none) rfl ?_);show aG _ _ (mkInt i >>= _) _ _ ⟨g1,ga,dr,tk,os⟩;refine aa (wpAny_mkInt ?_);show aG _ _ (jS (.ref e) 3 (bU ((i:Int)+1)) >>= _) _ _ ⟨g1,ga,dr,tk+1,os⟩;refine aa (cX e1 (by simp) λg2 e2 Ak=>?_)
 replace Ak:b9 e g1 g2:=Ak
 replace e2:dX g2 e I ((i:Int)+1) iS:=e2
 have z2:g2.objs.size=h0.objs.size:=Ak.1.trans z1;have n2:N g2:=hN _ _ n1 λo h=>(Ak.2 I (Ne.symm eO)).trans h;have k2:∀b o,b≠e->b≠I->h0.get? b=some o->g2.get? b=some o:=λb o hb hI h=>(Ak.2 b hb).trans (k1 b o hb hI h);clear Ak n1 k1 e1 z1;show aG _ _ (jS (.ref e) 4 .none >>= _) _ _ ⟨g2,ga,dr,tk+1,os⟩;refine aa (cX e2 (by simp) λg3 e3 wG=>?_)
 replace wG:b9 e g2 g3:=wG
 replace e3:dX g3 e I ((i:Int)+1) iS:=e3
 have z3:g3.objs.size=h0.objs.size:=wG.1.trans z2;have n3:N g3:=hN _ _ n2 λo h=>(wG.2 I (Ne.symm eO)).trans h;have k3:∀b o,b≠e->b≠I->h0.get? b=some o->g3.get? b=some o:=λb o hb hI h=>(wG.2 b hb).trans (k2 b o hb hI h);clear wG n2 k2 e2 z2;show aG _ _ (gS [.int i tk,x] >>= _) _ _ ⟨g3,ga,dr,tk+1,os⟩;refine aa (wpAny_newTuple ?_);have e4:dX (g3.push {cls:=.type "tuple",data:=.seq #[.int i tk,x]}) e I ((i:Int)+1) iS:=am _ e3;have n4:N (g3.push {cls:=.type "tuple",data:=.seq #[.int i tk,x]}):=hN _ _ n3 λo h=>am _ h;have k4:∀b o,b≠e->b≠I->h0.get? b=some o->(g3.push {cls:=.type "tuple",data:=.seq #[.int i tk,x]}).get? b=some o:=λb o hb hI h=>am _ (k3 b o hb hI h);have t4:(g3.push {cls:=.type "tuple",data:=.seq #[.int i tk,x]}).get? h0.objs.size=some {cls:=.type "tuple",data:=.seq #[.int i tk,x]}:=by have h:=az g3 (o:={cls:=.type "tuple",data:=.seq #[.int i tk,x]}) rfl;rw[z3]at h;exact h
 generalize hg4:g3.push {cls:=.type "tuple",data:=.seq #[.int i tk,x]}=g4 at *;show aG _ _ (Builtin.SmallTypes.ownedTupleIsFree (.ref e) >>= _) _ _ ⟨g4,ga,dr,tk+1,os⟩;rw[z3];clear hg4 n3 k3 e3 z3 g3;refine aa ?_;unfold Builtin.SmallTypes.ownedTupleIsFree;refine aa (ig e4 rfl (x:=.none) rfl (af ?_));simp only[if_true];refine aa (k8 (aa (ig e4 rfl (x:=iS) rfl (aa (cX e4 (by simp) λg5 e5 Gu=>?_)))))
 replace Gu:b9 e g4 g5:=Gu
 replace e5:dX g5 e I ((i:Int)+1) x:=e5
 show aG _ _ (Builtin.SmallTypes.ownedTupleHandOut (.ref e) (.ref h0.objs.size) >>= _) _ _ ⟨g5,ga,dr,tk+1,os⟩;refine aa ?_;unfold Builtin.SmallTypes.ownedTupleHandOut;refine aa (cX e5 (by simp) λg6 e6 Gs=>?_)
 replace Gs:b9 e g5 g6:=Gs
 replace e6:Gf g6 e I ((i:Int)+1) x h0.objs.size:=e6
 refine cX e6 (by simp) λg7 e7 Gr=>?_
 replace Gr:b9 e g6 g7:=Gr
 replace e7:Gf g7 e I ((i:Int)+1) x h0.objs.size:=e7
 have all:∀b o,b≠e->g4.get? b=some o->g7.get? b=some o:=λb o hb h=>(Gr.2 b hb).trans ((Gs.2 b hb).trans ((Gu.2 b hb).trans h));exact aa (eT (af ⟨_,rfl,af (hQ x g7 _ tk yx e7 (hN _ _ n4 λo h=>all I o (Ne.symm eO) h) (all _ _ (Nat.ne_of_gt pJ) t4) λb o hb hI h=>all b o hb (k4 b o hb hI h))⟩))
theorem ani{e I:aE}{i:Int}{iS:aA}{Q:Option aA->aB->Prop}(he:dX s.heap e I i iS)
  (uY:∀(R:aA->aB->Prop)(E':aA->aB->Prop),(∀g x,kz I s.heap g->(∃o,g.get? x=some o/\o.cls=.type "StopIteration")->E' (.ref x) {s with heap:=g})->aG (aH prog w) A.in1 (cz (.ref I)) R E' s)
  (hQ:∀g,kz I s.heap g->Q none {s with heap:=g}):aG (aH prog w) A (bB (.ref e)) Q E s:=by
 have ty:s.TypeIs (.ref e) "enumerate":=⟨_,he,rfl⟩;unfold bB;refine aa (jr (ci (name:=ba "__next__") ty F.slot_enumerate_next (ck F.slot_enumerate_next ty F.entry_enumerate_next ?_ (F.args_enumerate_next_1 _))));show aG _ _ (iW (.ref e) 2 >>= _) _ _ s;refine aa (ig he rfl (x:=.ref I) rfl (aa (uY _ _ λg x kp ⟨o,ho,hc⟩=>?_)));exact aa (lv (T:="StopIteration") (b:=true) ⟨o,ho,hc⟩ eK (af (hQ _ kp)))
end
theorem ak0(a:aE)(ys:Array aA)(n:Nat)(Je:Option aE)(sl:Array (Option aA)) :
  Meets (Builtin.«enumerate.__new__» ⟨[.type "enumerate",.ref a],[]⟩) (λ_ R s=>s.heap.get? a=some {cls:=.type "tuple",dict:=Je,data:=.seq ys n,slots:=sl}/\
   R (.ok (.ret (.ref (s.heap.push {cls:=.type "tuple_iterator",data:=.fields #[.ref a,.int 0 0]}).objs.size)))
    {s with heap:=(s.heap.push {cls:=.type "tuple_iterator",data:=.fields #[.ref a,.int 0 0]}).push {cls:=.type "enumerate",data:=.fields #[.none,.bool false,.ref s.heap.objs.size,bU 0,.none,.none]}}):=
 .of_wp λprog w A R s h=>by
  obtain⟨h0,ga,dr,tk,os⟩:=s;obtain⟨ha,h⟩:=h;have Cf:=sub_enumerate;have hT:Heap.IsTuple (aB.heap ⟨h0,ga,dr,tk,os⟩) a ys:=(o4 _ ha rfl n rfl)
  wp_walk using AutoSeq1.wpAny_loadPart' ha
  refine wpAny_stack_any λst=>af ?_;split
  .rename_i c _ _ _ _ _
   cases (c==aA.type "enumerate")
   .wp_walk using AutoSeq1.wpAny_loadPart' ha,cY hT
    exact⟨_,rfl,h⟩
   .wp_walk using AutoSeq1.wpAny_loadPart' ha,cY hT
    exact⟨_,rfl,h⟩
  .wp_walk using AutoSeq1.wpAny_loadPart' ha,cY hT
   exact⟨_,rfl,h⟩
section
variable{prog:aI}{w:aK}{A:Around}{E:aA->aB->Prop}{s:aB}
theorem aib{a:aE}{ys:Array aA}{Q:aA->aB->Prop}(hT:s.heap.IsTuple a ys)
  (h:∀g,dX g (s.heap.objs.size+1) s.heap.objs.size 0 .none->g.IsTupleIter s.heap.objs.size a 0->(∀b o,s.heap.get? b=some o->g.get? b=some o)->Q (.ref (s.heap.objs.size+1)) {s with heap:=g}) :
  aG (aH prog w) A (call (.type "enumerate") [.ref a]) Q E s:=by
 obtain⟨⟨c,Je,dt,sl⟩,ha,hc,n,hd⟩:=hT
 replace hc:c=.type "tuple":=hc
 replace hd:dt=.seq ys n:=hd
 subst hc hd;refine callType_new F.called_enumerate (by decide) (F.typeCall_enumerate_1 _) (F.newCall_enumerate_1 _) (λobj=>F.args_object_init_2 obj _) F.entry_enumerate_new (ak0 a ys n Je sl) ⟨ha,?_⟩;have hz:(s.heap.push {cls:=.type "tuple_iterator",data:=.fields #[.ref a,.int 0 0]}).objs.size=s.heap.objs.size+1:=mf ..;refine(?_:_/\_);rw[hz];have he:dX ((s.heap.push {cls:=.type "tuple_iterator",data:=.fields #[.ref a,.int 0 0]}).push {cls:=.type "enumerate",data:=.fields #[.none,.bool false,.ref s.heap.objs.size,bU 0,.none,.none]}) (s.heap.objs.size+1) s.heap.objs.size 0 .none:=by have h:=az (s.heap.push {cls:=.type "tuple_iterator",data:=.fields #[.ref a,.int 0 0]}) (o:={cls:=.type "enumerate",data:=.fields #[.none,.bool false,.ref s.heap.objs.size,bU 0,.none,.none]}) rfl;rw[hz]at h;exact h
 exact⟨⟨_,he,rfl⟩,h _ he ⟨_,am _ (az _ rfl),rfl,rfl⟩ λb o x=>am _ (am _ x)⟩
end
section
variable{X:Cx}{aC:List (aE×Obj)}{σ:L2.St}{H:Hp}{s:aB}{h':Heap}
theorem arj{t':Nat}{e it:aE}(I:Inv X aC σ H s)(k:∀b o,b≠e->b≠it->s.heap.get? b=some o->h'.get? b=some o)(fe:mZ X aC H e)(fi:mZ X aC H it):Inv X aC σ H {s with heap:=h',toks:=t'}:=by
 obtain⟨e0,e1,e2,e3,e4,e5⟩:=fe;obtain⟨i0,i1,i2,i3,i4,i5⟩:=fi;have nn:∀b u,H b=some u->b≠e/\b≠it:=λb u q=>⟨λz=>(by rw[z,e0]at q;cases q),λz=>(by rw[z,i0]at q;cases q)⟩;have sp:∀b,b∉[e,it]->b≠e/\b≠it:=λb hb=>by simpa using hb
 refine I.step (g':=s.gens) (d':=s.drawn) (ch:=[e,it]) (λb hb=>?_) (λb o _ _ hc q _=>k b o (sp b hc).1 (sp b hc).2 q) (λb o _ _ hc q _=>⟨o.slots,k b o (sp b hc).1 (sp b hc).2 q⟩) (λ_ _ _ _ n=>n)
  (λb o hc q=>⟨o,k b o (sp b hc).1 (sp b hc).2 q⟩) (λ_ _ q=>q) (λ_ _ _ q=>q) (λb ps q=>⟨#[],by rw[q];simp⟩) (λm hm=>?_) (λb u q=>?_) I.bare
 .rcases bb.mp hb with z|z
  .subst z;exact⟨e3,e1,e4,e5⟩
  .rw[ao.mp z];exact⟨i3,i1,i4,i5⟩
 .obtain⟨o,es,ep,ho,r⟩:=hm;exact(oq o es ep ⟨k _ o (Ne.symm e1) (Ne.symm i1) ho,r⟩)
 .refine(I.hok b u q).stay (λc v hc r=>k c v ?_ ?_ r) (λ_ r=>r) λ_ _ r=>r
  .rcases hc with z|z
   .rw[z];exact(nn b u q).1
   .exact(nn c _ z).1
  .rcases hc with z|z
   .rw[z];exact(nn b u q).2
   .exact(nn c _ z).2
end
theorem LG{P:aI}{w:aK}{K:aj}{iL:List Expr}{x1}{pos:eA}(J:It)(e I:aE)(eO:e≠I)(M:Nat->Heap->Prop)
  (pG:∀i h,M i h->∃o,h.get? I=some o/\∀v,o.data≠.cell v) (hW:∀i h h',M i h->(∀o,h.get? I=some o->h'.get? I=some o)->M i h')
  (CG:∀(X:Cx),X.prog=P->X.w=w->X.K=K->∀(i:Nat) aC (s:aB) σ H,Inv X aC σ H s->M i s.heap->J.go i H->∃Y:aA->Prop,
   (∀u,Y u->∃x,RelV x u/\J.yld i H (.ref s.heap.objs.size) (upd H s.heap.objs.size (.tup [.int i,x])))/\
   ∀(A':Around)(R:aA->aB->Prop)(E':aA->aB->Prop),(∀u g tk,Y u->M (i+1) g->b9 I s.heap g->R u {s with heap:=g,toks:=tk})->aG (aH P w) A' (cz (.ref I)) R E' s)
  (CQ:∀(X:Cx),X.prog=P->X.w=w->X.K=K->∀(i:Nat) aC (s:aB) σ H,Inv X aC σ H s->M i s.heap->J.stop i H->
   ∀(A':Around)(R:aA->aB->Prop)(E':aA->aB->Prop),A'.handled=none->(∀g u,kz I s.heap g->(∃o,g.get? u=some o/\o.cls=.type "StopIteration")->E' (.ref u) {s with heap:=g})->aG (aH P w) A' (cz (.ref I)) R E' s) :
  uA P w K (.Tuple iL x1 pos) J [e,I] e (λi h=>(∃iS,dX h e I i iS)/\M i h)where
 mem:=by simp
 obj:=λi h st b hb=>by
  obtain⟨⟨iS,he⟩,m⟩:=st;rcases bb.mp hb with z|z
  .subst z;exact⟨_,he,λv z=>by cases z⟩
  .rw[ao.mp z];exact pG i h m
 keep:=λi h h' st k=>by obtain⟨⟨iS,he⟩,m⟩:=st;exact⟨⟨iS,k e (by simp) _ he⟩,hW i h h' m λo q=>k I (by simp) o q⟩
 item:=by
  intro X hP hw hK hc i aC s σ H E Iv hf st hg;obtain⟨⟨iS,he⟩,m⟩:=st;obtain⟨Y,hY,uY⟩:=CG X hP hw hK i aC s σ H Iv m hg;subst hP hw hK;have fe:=hf e (by simp);have fi:=hf I (by simp);have pJ:e<s.heap.objs.size:=bq he;obtain⟨oi,hoi,_⟩:=pG i _ m;have kH:I<s.heap.objs.size:=bq hoi;refine ajw he eO (N:=M (i+1)) (λg g' n k=>hW _ _ _ n k) uY (λu g tk wA yu eo n t4 k=>⟨_,rfl,?_⟩);refine wpAny_letOwnedTupleGo_enum (s:={s with heap:=g,toks:=tk}) eo λg' e' sb=>?_;obtain⟨v,rv,yl⟩:=hY u yu;have I1:Inv X aC σ (upd H s.heap.objs.size (.tup [.int i,v])) {s with heap:=s.heap.push {cls:=.type "tuple",data:=.seq #[.int i wA,u]},toks:=tk}:=
   Iv.laid (t':=tk) (λb o q=>am _ q) (aq _) ⟨by show 2<=aF;decide,[.int i wA,u],.cons ⟨wA,rfl⟩ (.cons rv .nil),(o4 _ (az _ rfl) rfl _ rfl)⟩
  have up:∀b,b<s.heap.objs.size->mZ X aC H b->mZ X aC (upd H s.heap.objs.size (.tup [.int i,v])) b:=λb hb q=>⟨by rw[ow (dq hb)];exact q.1,q.2⟩;have I2:Inv X aC σ (upd H s.heap.objs.size (.tup [.int i,v])) {s with heap:=g,toks:=tk}:=arj (s:={s with heap:=s.heap.push {cls:=.type "tuple",data:=.seq #[.int i wA,u]},toks:=tk}) (t':=tk) I1 (λb o h1 h2 q=>by
   rcases Heap.get?_push_cases q with ⟨z1,z2⟩|z
   .rw[z1,z2];exact t4
   .exact k b o h1 h2 z) (up e pJ fe) (up I kH fi)
  have AM:=up e pJ fe;have I3:Inv X aC σ (upd H s.heap.objs.size (.tup [.int i,v])) {s with heap:=g',toks:=tk}:=Inv.turned (s:={s with heap:=g,toks:=tk}) (t':=tk) I2 (λb o hb q=>(sb.2 b hb).trans q) AM.1 AM.2.1 AM.2.2.2.1 AM.2.2.2.2.1 AM.2.2.2.2.2;refine(nq (.ref s.heap.objs.size) _ ⟨I3,rfl,yl,⟨⟨u,e'⟩,hW _ _ _ n λo q=>(sb.2 I (Ne.symm eO)).trans q⟩,λb hb=>?_⟩);rcases bb.mp hb with z|z
  .subst z;exact AM.1
  .rw[ao.mp z];exact(up I kH fi).1
 done:=by intro X hP hw hK hc i aC s σ H E Iv hf st hg;obtain⟨⟨iS,he⟩,m⟩:=st;have hd:=CQ X hP hw hK i aC s σ H Iv m hg;subst hP hw hK;have fi:=hf I (by simp);exact ani he (λR E' q=>hd _ R E' (Iv.ok.hd hc) q) λg kp=>⟨rfl,Iv.turned (t':=s.toks) (λb o hb q=>kp b o hb q) fi.1 fi.2.1 fi.2.2.2.1 fi.2.2.2.2.1 fi.2.2.2.2.2⟩
 self:=λ_ _ _ _ _ st h=>by obtain⟨⟨iS,he⟩,_⟩:=st;exact eS he h
noncomputable def Jet(K:aj)(a:aE):It:=
 ⟨λi H=>∃xs x,SqT K H a xs/\xs[i]?=some x,λi H v H'=>∃p x,H p=none/\v=.ref p/\H'=upd H p (.tup [.int i,x])/\∀xs,SqT K H a xs->xs[i]?=some x,λi H=>∃xs,SqT K H a xs/\xs.length<=i⟩
noncomputable def Jes(z:Str):It:=
 ⟨λi _=>i<z.cps.toList.length,λi H v H'=>∃p c,H p=none/\v=.ref p/\H'=upd H p (.tup [.int i,.str ⟨#[c]⟩])/\z.cps.toList[i]?=some c,λi _=>z.cps.toList.length<=i⟩
theorem aiu{P:aI}{w:aK}{K:aj}{iL:List Expr}{x1}{pos:eA}(a e I:aE)(eO:e≠I) :
  uA P w K (.Tuple iL x1 pos) (Jet K a) [e,I] e (λi h=>(∃iS,dX h e I i iS)/\h.IsTupleIter I a i):=by
 refine LG (Jet K a) e I eO (λi h=>h.IsTupleIter I a i) (λi h st=>?_) (λi h h' st k=>st.at k) (λX hP hw hK i aC s σ H Iv st hg=>?_) (λX hP hw hK i aC s σ H Iv st hg A' R E' hh q=>?_)
 .obtain⟨o,ho,c,d⟩:=st;exact⟨o,ho,λv z=>by rw[d]at z;cases z⟩
 .subst hP hw hK;obtain⟨xs,x,hq,hx⟩:=hg;obtain⟨its,rv,p,hz⟩:=Iv.tuple hq;obtain⟨u,hu,ru⟩:=rv.get hx;refine⟨λu'=>u'=u,λu' Ce=>?_,λA' R E' q=>?_⟩
  .subst Ce;exact(o8 x ru s.heap.objs.size x ⟨Iv.hok.fresh (aq _),rfl,rfl,λys hy=>by rw[Iv.tuple_inj hy hq];exact hx⟩)
  .exact atm st (show s.heap.IsTuple a its.toArray from p) (v:=u) (by simpa using hu) λg aQ sb=>q u g s.toks rfl aQ sb
 .subst hP hw hK;obtain⟨xs,hq,hx⟩:=hg;obtain⟨its,rv,p,hz⟩:=Iv.tuple hq;have hl:=rv.length;exact aif hh st (show s.heap.IsTuple a its.toArray from p) (by simp;lia) q
theorem ais{P:aI}{w:aK}{K:aj}{iL:List Expr}{x1}{pos:eA}(z:Str)(t:Bq)(e I:aE)(eO:e≠I) :
  uA P w K (.Tuple iL x1 pos) (Jes z) [e,I] e (λi h=>(∃iS,dX h e I i iS)/\h.IsStrIter I "str_ascii_iterator" z t i):=by
 refine LG (Jes z) e I eO (λi h=>h.IsStrIter I "str_ascii_iterator" z t i) (λi h st=>?_) (λi h h' st k=>?_) (λX hP hw hK i aC s σ H Iv st hg=>?_) (λX hP hw hK i aC s σ H Iv st hg A' R E' hh q=>?_)
 .obtain⟨o,ho,c,d⟩:=st;exact⟨o,ho,λv z=>by rw[d]at z;cases z⟩
 .obtain⟨o,ho,r⟩:=st;exact⟨o,k o ho,r⟩
 .subst hP hw hK;have hi:i<z.cps.size:=by simpa [Jes]using hg
  refine⟨λu=>∃tk,u=.str ⟨#[z.cps[i]]⟩ tk,λu hu=>?_,λA' R E' q=>?_⟩
  .obtain⟨tk,rfl⟩:=hu;exact(o8 (.str ⟨#[z.cps[i]]⟩) ⟨tk,rfl⟩ s.heap.objs.size (z.cps[i]) ⟨Iv.hok.fresh (aq _),rfl,rfl,by simp[hi]⟩)
  .exact aty st (c:=z.cps[i]) (by simp[hi]) λg aQ sb=>q _ g _ ⟨_,rfl⟩ aQ sb
 .subst hP hw hK;have hi:z.cps.size<=i:=by simpa [Jes]using hg
  exact ai1 hh st (by simp;lia) q
section
variable{X:Cx}{iL:List Expr}{x1:Nat}{oP p pos:eA}{a:Expr}{ta:TA}
def az6(K:aj)(ta:TA):TI:=λσ H R=>ta σ H λvs H1=>∃a,vs=[.ref a]/\(∃xs,SqT K H1 a xs)/\R (Jet K a) H1
def a0y(ta:TA):TI:=λσ H R=>ta σ H λvs H1=>∃z:Str,vs=[.str z]/\(∀c∈z.cps.toList,c<128)/\R (Jes z) H1
theorem apx(hg:Gl X "enumerate")(hm:X.mg "enumerate" = none)(ha:PA X [a] ta)(hs:qp a=true:=by rfl):PI X (.Tuple iL x1 oP) (.Call (.Name "enumerate" p) [a] [] pos) (az6 X.K ta):=by
 intro aC s σ H R I h;refine Call_ (v5 I hg hm oG (gv (thn (ha pos aC s σ H _ I h) λus s1 ⟨vs,H1,I1,r1,q1⟩=>?_) (p9 hs) rfl));obtain⟨b,e,⟨xs,hq⟩,q⟩:=q1;subst e;obtain⟨u,rfl,ru⟩:=uy r1;cases (show u=aA.ref b from ru);obtain⟨its,rv,pl,hz⟩:=I1.tuple hq;refine aib (show s1.heap.IsTuple b its.toArray from pl) λg he hi kp=>eS (s:={s1 with heap:=g}) he ?_;refine(my (s1.heap.objs.size+1) ([s1.heap.objs.size+1,s1.heap.objs.size]) _ _ H1 ⟨rfl,I1.kept (t':=s1.toks) kp,aiu b (s1.heap.objs.size+1) s1.heap.objs.size (Nat.succ_ne_self _),⟨⟨_,he⟩,hi⟩,λc hc=>?_,q⟩);rcases bb.mp hc with z|z
 .subst z;exact I1.fpOk (by lia) (I1.hok.fresh (by lia))
 .rw[ao.mp z];exact I1.fpOk (aq _) (I1.hok.fresh (aq _))
theorem at9(hg:Gl X "enumerate")(hm:X.mg "enumerate" = none)(ha:PA X [a] ta)(hs:qp a=true:=by rfl):PI X (.Tuple iL x1 oP) (.Call (.Name "enumerate" p) [a] [] pos) (a0y ta):=by
 intro aC s σ H R I h;refine Call_ (v5 I hg hm oG (gv (thn (ha pos aC s σ H _ I h) λus s1 ⟨vs,H1,I1,r1,q1⟩=>?_) (p9 hs) rfl));obtain⟨z,e,hz,q⟩:=q1;subst e;obtain⟨u,rfl,t,rfl⟩:=uy r1;have asc:strIterType z="str_ascii_iterator":=by unfold strIterType;rw[if_pos];rw[Array.all_eq_true'];intro c hc;simpa using hz c (by simpa using hc)
 refine call_enumerate_str λg he hi _ kp=>eS (s:={s1 with heap:=g}) he ?_;rw[asc]at hi;refine(my (s1.heap.objs.size+1) ([s1.heap.objs.size+1,s1.heap.objs.size]) _ _ H1 ⟨rfl,I1.kept (t':=s1.toks) kp,ais z t (s1.heap.objs.size+1) s1.heap.objs.size (Nat.succ_ne_self _),⟨⟨_,he⟩,hi⟩,λc hc=>?_,q⟩);rcases bb.mp hc with z|z
 .subst z;exact I1.fpOk (by lia) (I1.hok.fresh (by lia))
 .rw[ao.mp z];exact I1.fpOk (aq _) (I1.hok.fresh (aq _))
end
theorem K4(J:It)(n:Nat){g:TG}{tb:TS}{D:qH}{σ:L2.St}{H:Hp}(Pv:Nat->L2.St->Hp->Prop)(h0:Pv 0 σ H)(AB:∀i σ H,i<n->Pv i σ H->J.go i H)(hst:∀σ H,Pv n σ H->J.stop n H)
  (hs:∀i v σ H H',i<n->Pv i σ H->J.yld i H v H'->g v σ H' λσ2 H2=>tb {D with nx:=Pv (i+1),ct:=Pv (i+1),bk:=D.nx} σ2 H2) (hd:∀σ H,Pv n σ H->D.nx σ H) :
  ∃W:Nat->Nat->L2.St->Hp->Prop,(∃m,W 0 m σ H)/\∀i m σ H,W i m σ H->
   (J.stop i H/\D.nx σ H)\/(J.go i H/\∃N:L2.St->Hp->Prop,(∀σ' H',N σ' H'->∃m',m'<m/\W (i+1) m' σ' H')/\∀v H',J.yld i H v H'->g v σ H' λσ2 H2=>tb {D with nx:=N,ct:=N,bk:=D.nx} σ2 H2):=by
 refine⟨λi m σ H=>m=n-i/\i<=n/\Pv i σ H,⟨n,by simp,f7 _,h0⟩,?_⟩;rintro i m σ H ⟨rfl,hi,p⟩;by_cases cN:i<n
 .exact .inr ⟨AB i σ H cN p,Pv (i+1),λσ' H' p'=>⟨n-(i+1),by lia,rfl,cN,p'⟩,λv H' y=>hs i v σ H H' cN p y⟩
 .have e:i=n:=by lia
  subst e;exact .inl ⟨hst σ H p,hd σ H p⟩
theorem al9{K:aj}{a:aE}{xs:List V}{g:TG}{tb:TS}{D:qH}{σ:L2.St}{H:Hp}(Pv:Nat->L2.St->Hp->Prop)(h0:Pv 0 σ H)(hl:∀i σ H,Pv i σ H->SqT K H a xs)
  (hs:∀i x p σ H,xs[i]?=some x->H p=none->Pv i σ H->g (.ref p) σ (upd H p (.tup [.int (i:Nat),x])) λσ2 H2=>tb {D with nx:=Pv (i+1),ct:=Pv (i+1),bk:=D.nx} σ2 H2) (hd:∀σ H,Pv xs.length σ H->D.nx σ H) :
  ∃W:Nat->Nat->L2.St->Hp->Prop,(∃m,W 0 m σ H)/\∀i m σ H,W i m σ H->
   ((Jet K a).stop i H/\D.nx σ H)\/((Jet K a).go i H/\∃N:L2.St->Hp->Prop,(∀σ' H',N σ' H'->∃m',m'<m/\W (i+1) m' σ' H')/\∀v H',(Jet K a).yld i H v H'->g v σ H' λσ2 H2=>tb {D with nx:=N,ct:=N,bk:=D.nx} σ2 H2):=by
 refine K4 (Jet K a) xs.length Pv h0 (λi σ H hi p=>(nq xs (xs[i]) ⟨hl i σ H p,by simp[hi]⟩)) (λσ H p=>⟨xs,hl _ σ H p,aq _⟩) (λi v σ H H' hi p y=>?_) hd;obtain⟨b,x,hb,rfl,rfl,hx⟩:=y;exact hs i x b σ H (hx xs (hl i σ H p)) hb p
theorem aq9{z:Str}{g:TG}{tb:TS}{D:qH}{σ:L2.St}{H:Hp}(Pv:Nat->L2.St->Hp->Prop)(h0:Pv 0 σ H)
  (hs:∀i c p σ H,z.cps.toList[i]?=some c->H p=none->Pv i σ H->g (.ref p) σ (upd H p (.tup [.int (i:Nat),.str ⟨#[c]⟩])) λσ2 H2=>tb {D with nx:=Pv (i+1),ct:=Pv (i+1),bk:=D.nx} σ2 H2) (hd:∀σ H,Pv z.cps.toList.length σ H->D.nx σ H) :
  ∃W:Nat->Nat->L2.St->Hp->Prop,(∃m,W 0 m σ H)/\∀i m σ H,W i m σ H->
   ((Jes z).stop i H/\D.nx σ H)\/((Jes z).go i H/\∃N:L2.St->Hp->Prop,(∀σ' H',N σ' H'->∃m',m'<m/\W (i+1) m' σ' H')/\∀v H',(Jes z).yld i H v H'->g v σ H' λσ2 H2=>tb {D with nx:=N,ct:=N,bk:=D.nx} σ2 H2):=by
 refine K4 (Jes z) z.cps.toList.length Pv h0 (λi σ H hi p=>hi) (λσ H p=>aq _) (λi v σ H H' hi p y=>?_) hd;obtain⟨b,c,hb,rfl,rfl,hc⟩:=y;exact hs i c b σ H hc hb p
noncomputable def xf(c:Nat):Bool:=decide (97<=c)&&decide (c<=122)
theorem atj{c:Nat}(h:c<128):Txt.upper ⟨#[c]⟩=⟨#[up1 c]⟩:=by
 rw[upper_ascii (λd hd=>by have e:d=c:=by simpa using hd
                           lia)]
 simp
section
variable{X:Cx}
theorem anb:MtR X "str.upper" (λx vs H Q=>∃c:Nat,x=.str ⟨#[c]⟩/\vs=[]/\c<128/\Q (.str ⟨#[up1 c]⟩) H):=by intro aC s σ H x vs v us Q I rx rv h;obtain⟨c,rfl,rfl,hc,q⟩:=h;obtain⟨t,rfl⟩:=rx;have oW:=rv.zero;subst oW;refine SC.upper (fit_upper (by show 1<=5592405;lia)) (nq (.str _) H ⟨I.tok _,⟨_,rfl⟩,?_⟩);rw[atj hc];exact q
end
end L3
namespace L2
open PySem PySem.Spec PyProof.Rows
section
variable{κ:Type}[DecidableEq κ]
theorem RelO.isSome_eq{o:Option V}{u:Option aA}(r:RelO o u):o.isSome=u.isSome:=by
 cases o with
 | none=>cases u with
  | none=>rfl
  | some _=>exact(show False from r).elim
 | some _=>cases u with
  | none=>exact(show False from r).elim
  | some _=>rfl
theorem RelO.getD{o:Option V}{u:Option aA}{d:V}{d':aA}(r:RelO o u)(rd:RelV d d'):RelV (o.getD d) (u.getD d'):=by
 cases o with
 | none=>cases u with
  | none=>exact rd
  | some _=>exact(show False from r).elim
 | some _=>cases u with
  | none=>exact(show False from r).elim
  | some _=>exact r
end
section
variable{X:Cx}{aC:List (aE×Obj)}{σ:St}{H:Hp}{s:aB}{a:aE}{y v:V}{u r:aA}{o:Option V}{A:Around}{E:aA->aB->Prop}
theorem Inv.big(I:Inv X aC σ H s):dI<s.heap.objs.size:=by have h:aO<s.heap.objs.size:=(I.mod.glob.keeps I.bk).lt;exact Nat.lt_trans (by decide) h
theorem aqa{h':Heap}{t':Nat}{ob:HO}(I:Inv X aC σ H s)(mu:Mut (H a))(hs:b9 a s.heap h')(he:∃q,h'.get? a=some q)(new:ObjOk X.prog X.w (upd H a ob) h' a ob) :
  Inv X aC σ (upd H a ob) {s with heap:=h',toks:=t'}:=
 I.write (x:=a) (e:=a) mu (.inl rfl) (λb q hb z=>(hs.2 b hb).trans z) he new
end
def JM(i:Expr):Prop:=∀ov iv,kW i false ov iv=operate [ov,iv] (eZ ov iv)
theorem ar7{prog:aI}{w:aK}{A:Around}{E:aA->aB->Prop}{s:aB}{env:oN}{value slice:Expr}{pos:eA}{T id:String}{Q:aA->aB->Prop}
  (hl:Ai (.type T) "__getitem__" = aS (some (.builtin id))) (hs:JM slice)
  (h:aG (aH prog w) A (bH value env) (λo s₁=>aG (aH prog w) A (bH slice env) (λi s₂=>s₂.TypeIs o T/\aG (aH prog w) A (eZ o i) Q E s₂) E s₁) E s) :
  aG (aH prog w) A (bH (.Subscript value slice pos) env) Q E s:=by
 refine Br (jj h (λo s₁ h₁=>jj h₁ (λi s₂ h₂=>?_) λ_ _ x=>x) λ_ _ x=>x);obtain⟨hT,h₂⟩:=h₂;unfold pU;refine aa ?_;rw[getitemInPython_of_ne hT.not_modules];refine aa (lg hT hl ?_);have fin:aG (aH prog w) A (kW slice false o i) (λr s₃=>aG (aH prog w) A (letTemporaryGo value o r >>= λ_=>aS r) Q E s₃) E s₂:=by rw[hs o i];exact wpAny_operating (jj h₂ (λr s₃ h₃=>aa (wpAny_letTemporaryGo (af h₃))) λ_ _ x=>x)
 first
  | exact af (aa fin)
  | exact aa (af (aa fin))
  | exact aa fin
structure M2(X:Cx)(o:Expr)(m:Str)(fR:eA)(e f:Expr)(fA:eA):Prop where
 base:cS o m X.env (bH o X.env)=bH o X.env
 few:((cO fA (aR [e,f] X.env)).all (λx=>!x.1)&&(xM fA (lG [] X.env)).all (λx=>x.1.isSome)
  && decide (([e,f]:List Expr).length+([]:List nH).length+(if ([]:List nH).isEmpty then 0 else 1)<30))=true
 line:(fR.endLine==fA.line)=true
 trees:cO fA (aR [e,f] X.env)=[(false,bH e X.env),(false,bH f X.env)]
end L2
namespace L3
open PySem
open AutoSeq1 (wpAny_loadPart')
end L3
namespace L3
open PySem PySem.Spec PyProof.Rows L2
end L3
namespace L3
structure Mat where
 h:Nat
 w:Nat
 g:Nat->Nat->Nat
noncomputable def rm(M:Mat)(r:Nat):List Nat:=(cb M.w).map (M.g r)
structure OkM(P:Nat->Prop)(M:Mat):Prop where
 h1:0<M.h
 h8:M.h<=8
 w1:0<M.w
 w8:M.w<=8
 sg:∀r c,r<M.h->c<M.w->P (M.g r c)
theorem abk{α:Type}{R:α->α->Prop}(as:∀x y,R x y->¬R y x):∀{xs ys:List α},xs.Pairwise R->ys.Pairwise R->(∀z,z∈xs↔z∈ys)->xs=ys
 | [],[],_,_,_=>rfl
 | [],y::ys,_,_,h=>absurd ((h y).mpr aw) (by simp)
 | x::xs,[],_,_,h=>absurd ((h x).mp aw) (by simp)
 | x::xs,y::ys,p,q,h=>by
  obtain⟨p1,p2⟩:=ij.mp p;obtain⟨q1,q2⟩:=ij.mp q;have e:x=y:=by
   rcases bb.mp ((h x).mp aw)with e|a
   .exact e
   .rcases bb.mp ((h y).mpr aw)with e|b
    .exact e.symm
    .exact absurd (q1 x a) (as _ _ (p1 y b))
  subst e;refine congrArg _ (abk as p2 q2 λz=>⟨λhz=>?_,λhz=>?_⟩)
  .rcases bb.mp ((h z).mp (a8 _ hz))with e|a
   .subst e;exact absurd (p1 z hz) (λk=>as _ _ k k)
   .exact a
  .rcases bb.mp ((h z).mpr (a8 _ hz))with e|a
   .subst e;exact absurd (q1 z hz) (λk=>as _ _ k k)
   .exact a
end L3
namespace L3
open PySem PySem.W PySem.Calls PyProof.Rows
theorem alf{vs:List aA}{p:aJ}(h:p∈(vs.toArray.zip vs.toArray).toList):p.1=p.2/\p.1∈vs:=mem_zip_self (by simpa using h)
theorem aol{vs:List aA}{arr:Array aJ}(h:arr.Perm (vs.toArray.zip vs.toArray)):(arr.map (·.2)).toList.Perm vs:=by
 have h1:=(jz.mp h).map (·.2);have e:(vs.toArray.zip vs.toArray).toList.map (·.2)=vs:=by rw[show(vs.toArray.zip vs.toArray).toList=vs.zip vs by simp];exact List.map_snd_zip (aq _)
 rw[e]at h1;rw[Array.toList_map];exact h1
theorem auk{g:aA->Int}{vs:List aA}{arr:Array aJ}(h:arr.Perm (vs.toArray.zip vs.toArray))(hs:Seg (λp=>g p.1) arr 0 (vs.toArray.zip vs.toArray).size):(arr.map (·.2)).toList.Pairwise λx y=>g x<=g y:=by
 have hsz:=h.size_eq;rw[Array.toList_map,gl];refine ik.mpr λi j hi hj cW=>?_;have eC:i<arr.size:=by simpa using hi
 have iU:j<arr.size:=by simpa using hj
 have q:=hs i j (f7 _) (by lia) (by lia);rw[vk (getElem?_pos arr i eC),vk (getElem?_pos arr j iU)]at q;have two:∀k (hk:k<arr.size),arr[k].1=arr[k].2:=λk hk=>(alf ((jz.mp h).mem_iff.mp (by simp))).1;rw[two i eC,two j iU]at q;simpa using q
section
variable{prog:aI}{w:aK}{A:Around}{E:aA->aB->Prop}{s:aB}
theorem wz{a:aE}{vs:List aA}{n:Nat}{κ:aY}{g:aA->Int}{P:PySem.Fin->aB->Prop}(ho:s.heap.get? a=some (bK "list" vs.toArray n))(hz:vs.length<=aF)
  (hk:2<=vs.length->∀s':aB,(∀b o,b≠a->s.heap.get? b=some o->s'.heap.get? b=some o)->
   (∀(Q:aY->aB->Prop)(E:aA->aB->Prop),Q κ s'->aG (aH prog w) A (nT vs.toArray) Q E s')/\
   ∀x y,x∈vs->y∈vs->∀(Q:Bool->aB->Prop),Q (decide (g x<g y)) s'->aG (aH prog w) A (nS κ x y) Q (λ_ _=>False) s')
  (h:∀us:List aA,us.Perm vs->us.Pairwise (λx y=>g x<=g y)->P (.done (.ret .none)) {s with heap:=sortedHeap s.heap a vs us.toArray}) :
  aG (aH prog w) A (Builtin.«list.sort» ⟨[.ref a],[]⟩) P E s:=by
 have ha:a<s.heap.objs.size:=bq ho;obtain⟨e1,Au⟩:∃e1,(s.heap.update a (ix λ_=>(#[]:Array aA))).get? a=some (bK "list" #[] e1):=⟨_,get?_update_seq ho λ_=>#[]⟩;have Ez:(((s.heap.update a (ix λ_=>(#[]:Array aA))).push (bK "tuple" vs.toArray 0)).push (bK "list" #[] 0)).get? a=some (bK "list" #[] e1):=
  am _ (am _ Au)
 have kept:∀b o,b≠a->s.heap.get? b=some o->(((s.heap.update a (ix λ_=>(#[]:Array aA))).push (bK "tuple" vs.toArray 0)).push (bK "list" #[] 0)).get? b=some o:=λb o hb e=>
  am _ (am _ ((dh s.heap _ (Ne.symm hb)).trans e))
 rw[list_sort_plain];refine aa (listItems_at ho rfl ?_);refine aa (pY ho rfl ?_ (by rw[a9];exact hz) (f7 _));refine aa (wF Au rfl ?_);refine aa (wpAny_newTuple ?_ (by show vs.length<=_;exact hz));refine aa (iR ?_ (f7 _));refine gk ?_;show aG (aH prog w) A _ P E {s with heap:=((s.heap.update a (ix λ_=>(#[]:Array aA))).push (bK "tuple" vs.toArray 0)).push (bK "list" #[] 0)};dsimp only;have aZ:∀(aQ:aN),(aL aQ).Perm (vs.toArray.zip vs.toArray)->bL aQ=none->Seg (λp=>g p.1) (aL aQ) 0 (vs.toArray.zip vs.toArray).size->∃us:List aA,us.Perm vs/\us.Pairwise (λx y=>g x<=g y)/\(aL aQ).map (·.2)=us.toArray:=λaQ hp hf hs=>
  ⟨_,aol hp,auk hp hs,Array.toArray_toList.symm⟩
 by_cases h2:vs.toArray.size<2
 .have gI:vs.length<2:=by simpa using h2
  rw[if_pos h2,if_pos h2];refine aa (af ?_);rw[StateT.run_pure];refine aa (af ?_);dsimp only;obtain⟨us,u1,u2,e0⟩:=aZ (aN.mk' general' (vs.toArray.zip vs.toArray) #[] 7 none) (Array.Perm.refl _) rfl (λi j hi cW hj=>by
   have tH:(vs.toArray.zip vs.toArray).size=vs.length:=by simp
   obtain rfl:i=j:=by lia
   exact jv _)
  have Ap:=u1.length_eq;rw[e0];refine aa (wF Ez rfl ?_);refine aa (pY Ez rfl ?_ (f7 _) (by rw[a9,Ap];exact i7 hz));simp only[bne_self_eq_false,bi,if_false];exact af (h us u1 u2)
 .have gI:2<=vs.length:=by have:¬vs.length<2:=by simpa using h2
                           lia
  rw[if_neg h2,if_neg h2];obtain⟨k1,k2⟩:=hk gI {s with heap:=((s.heap.update a (ix λ_=>(#[]:Array aA))).push (bK "tuple" vs.toArray 0)).push (bK "list" #[] 0)} kept;refine aa (k1 _ _ ?_);refine aa (jj (af5 (E:=E) (κ:=κ) (a₀:=vs.toArray.zip vs.toArray) (f:=λp=>g p.1) (mem:=λp=>p.1∈vs) (Q:=λ_ aQ=>∃us:List aA,us.Perm vs/\us.Pairwise (λx y=>g x<=g y)/\(aL aQ).map (·.2)=us.toArray/\bL aQ=none)
   (λx y hx hy Q hq=>k2 x.1 y.1 hx hy Q hq) (λx hx=>(alf hx).2) ⟨Array.Perm.refl _,rfl,rfl⟩ rfl (λaQ B hs=>?_)) ?_ λ_ _ e=>e)
  .obtain⟨us,u1,u2,e0⟩:=aZ aQ B.perm B.failed hs;exact⟨us,u1,u2,e0,B.failed⟩
  .rintro⟨⟨⟩,aQ⟩ s' ⟨rfl,us,u1,u2,hout,hf⟩;have Ap:=u1.length_eq;dsimp only at hout hf⊢;rw[hout];refine aa (wF Ez rfl ?_);refine aa (pY Ez rfl ?_ (f7 _) (by rw[a9,Ap];exact i7 hz));rw[hf];simp only[bne_self_eq_false,bi,if_false];exact af (h us u1 u2)
theorem aio{l:aE}{vs:List aA}{κ:aY}{g:aA->Int}{Q:aA->aB->Prop}(hl:s.heap.IsList l vs.toArray)(hz:vs.length<=aF)
  (hk:2<=vs.length->∀s':aB,(∀b o,s.heap.get? b=some o->s'.heap.get? b=some o)->
   (∀(Q:aY->aB->Prop)(E:aA->aB->Prop),Q κ s'->aG (aH prog w) A.in1.in1 (nT vs.toArray) Q E s')/\
   ∀x y,x∈vs->y∈vs->∀(Q:Bool->aB->Prop),Q (decide (g x<g y)) s'->aG (aH prog w) A.in1.in1 (nS κ x y) Q (λ_ _=>False) s')
  (h:∀us:List aA,us.Perm vs->us.Pairwise (λx y=>g x<=g y)->Q (.ref (s.heap.objs.size+1)) {s with heap:=sortedAll s.heap vs us.toArray}) :
  aG (aH prog w) A (call (.builtin "sorted") [.ref l]) Q E s:=by
 refine Calls.call_function_entry kind_sorted plain_sorted entry_sorted (args_sorted1 _) ?_;unfold Builtin.«sorted»;refine aa (m:=checkCount "sorted" 1 1 _) (af ?_);refine aa (collect_list hl ?_ hz);refine aa (iR ?_ hz);have hsz:((s.heap.push (bK "list" #[] 0)).update s.heap.objs.size (ix (· ++ vs.toArray))).objs.size=s.heap.objs.size+1:=by rw[Heap.size_update,size_push']
 have wT:(((s.heap.push (bK "list" #[] 0)).update s.heap.objs.size (ix (· ++ vs.toArray))).push (bK "list" vs.toArray 0)).get? (s.heap.objs.size+1)=some (bK "list" vs.toArray 0):=by rw[<-hsz];exact az _ rfl
 have keep:∀b o,s.heap.get? b=some o->(((s.heap.push (bK "list" #[] 0)).update s.heap.objs.size (ix (· ++ vs.toArray))).push (bK "list" vs.toArray 0)).get? b=some o:=λb o q=>by have cN:b<s.heap.objs.size:=bq q;exact am _ ((dh _ _ (Ne.symm (dq cN))).trans (am _ q))
 show aG _ _ _ _ _ {s with heap:=((s.heap.push (bK "list" #[] 0)).update s.heap.objs.size (ix (· ++ vs.toArray))).push (bK "list" vs.toArray 0)};rw[hsz];refine aa (gk (ck slot_list_sort ⟨_,wT,rfl⟩ IY ?body (args_list_sort _)))
 case body=>
  refine wz (κ:=κ) (g:=g) wT hz (λh2 s' k=>hk h2 s' λb o e=>k b o (dq (Nat.lt_succ_of_lt (bq e))) (keep b o e)) λus u1 u2=>?_;exact⟨_,rfl,af ⟨_,rfl,h us u1 u2⟩⟩
end
end L3
namespace L3
open PySem PySem.Spec PyProof.Rows L2
theorem aeg{α β:Type}(g:α->β){us vs:List β}(p:us.Perm vs):∀{l:List α},l.map g=vs->∃l':List α,l'.Perm l/\l'.map g=us:=by
 induction p with
 | nil=>intro l e;exact⟨l,km _,e⟩
 | cons x p ih=>
  intro l e
  match l,e with
  | a::l,e=>
   rw[cy]at e;obtain⟨e1,e2⟩:=List.cons.inj e;obtain⟨l',p1,e3⟩:=ih e2;exact⟨a::l',p1.cons a,by rw[cy,e1,e3]⟩
 | swap x y r=>
  intro l e
  match l,e with
  | a::b::l,e=>
   rw[cy,cy]at e;obtain⟨e1,e'⟩:=List.cons.inj e;obtain⟨e2,e3⟩:=List.cons.inj e';exact⟨b::a::l,List.Perm.swap _ _ _,by rw[cy,cy,e1,e2,e3]⟩
 | trans p q ih1 ih2=>
  intro l e;obtain⟨l1,p1,e1⟩:=ih2 e;obtain⟨l2,p2,e2⟩:=ih1 e1;exact⟨l2,p2.trans p1,e2⟩
theorem sv{α:Type}{p q:α->Bool}:∀{l:List α},(∀e∈l,p e=true->q e=true)->(∃e∈l,q e=true/\p e=false)->l.countP p<l.countP q
 | [],_,⟨e,he,_⟩=>by simp at he
 | a::l,h,⟨e,he,h1,h2⟩=>by
  have hl:∀e∈l,p e=true->q e=true:=λe he=>h e (a8 _ he);have mono:l.countP p<=l.countP q:=List.countP_mono_left hl;rcases bb.mp he with rfl|he
  .rw[List.countP_cons_of_neg (by simp[h2]),List.countP_cons_of_pos h1];lia
  .have ih:=sv hl ⟨e,he,h1,h2⟩;cases hp:p a with
   | true=>rw[List.countP_cons_of_pos hp,List.countP_cons_of_pos (h a aw hp)];lia
   | false=>
    rw[List.countP_cons_of_neg (by simp[hp])];have:=List.countP_le_length (p:=q) (l:=l);cases hq:q a with
    | true=>rw[List.countP_cons_of_pos hq];lia
    | false=>rw[List.countP_cons_of_neg (by simp[hq])];exact ih
structure xN(lt:PyData->PyData->Bool)(ds:List PyData):Prop where
 asy:∀x∈ds,∀y∈ds,lt x y=true->lt y x=false
 tr:∀x∈ds,∀y∈ds,∀z∈ds,lt y x=false->lt z y=false->lt z x=false
noncomputable def vW(lt:PyData->PyData->Bool)(ds:List PyData)(d:PyData):Int:=((ds.countP λe=>lt e d:Nat):Int)
theorem FZ{lt:PyData->PyData->Bool}{ds:List PyData}(o:xN lt ds){d e:PyData}(hd:d∈ds)(he:e∈ds):decide (vW lt ds d<vW lt ds e)=lt d e:=by
 have irr:∀x∈ds,lt x x=false:=λx hx=>by
  cases q:lt x x with
  | false=>rfl
  | true=>have:=o.asy x hx x hx q;rw[q]at this;exact this
 unfold vW;cases h:lt d e with
 | true=>
  refine decide_eq_true ?_;have:=sv (p:=λz=>lt z d) (q:=λz=>lt z e) (l:=ds) (λz hz h1=>?_) ⟨d,hd,h,irr d hd⟩
  .lia
  .show lt z e=true;cases q:lt z e with
   | true=>rfl
   | false=>rw[o.tr d hd e he z hz (o.asy d hd e he h) q]at h1;exact h1
 | false=>
  refine decide_eq_false ?_;have:=List.countP_mono_left (p:=λz=>lt z e) (q:=λz=>lt z d) (l:=ds) λz hz h1=>?_
  .lia
  .show lt z d=true;cases q:lt z d with
   | true=>rfl
   | false=>rw[o.tr e he d hd z hz h q]at h1;exact h1
theorem abu{α:Type}{H:Hp}{f:α->PyData}{g:α->V}:∀{l:List α},(∀t∈l,Rep H (f t) (g t))->RepAll H (l.map f) (l.map g)
 | [],_=>rfl
 | t::l,h=>(nq _ _ ⟨rfl,h t aw,abu λt ht=>h t (a8 _ ht)⟩)
theorem agz{α:Type}{f:α->V}{g:α->aA}:∀{l:List α},(∀t∈l,RelV (f t) (g t))->Vals (l.map f) (l.map g)
 | [],_=>.nil
 | t::l,h=>.cons (h t aw) (agz λt ht=>h t (a8 _ ht))
section
variable{X:Cx}{aC:List (aE×Obj)}{σ:L2.St}{H:Hp}{s:aB}{A:Around}{E:aA->aB->Prop}
open Classical in
theorem abg(I:Inv X aC σ H s){p:aE}{ds:List PyData}{xs:List V}{its:List aA}{κ:aY}{lt:PyData->PyData->Bool}{Q:V->Hp->Prop}(hp:H p=some (.lst xs))(dH:RepAll H ds xs)(rv:Vals xs its)(pl:s.heap.IsList p its.toArray)(hz:xs.length<=aF)(o:xN lt ds)
  (hk:2<=its.length->∀s':aB,(∀b o,s.heap.get? b=some o->s'.heap.get? b=some o)->∀(Q:aY->aB->Prop)(E:aA->aB->Prop),Q κ s'->aG (aH X.prog X.w) A.in1.in1 (nT its.toArray) Q E s')
  (hc:∀s':aB,(∀b o,s.heap.get? b=some o->s'.heap.get? b=some o)->∀(i j:Nat)(d e:PyData)(u v:aA),ds[i]?=some d->its[i]?=some u->ds[j]?=some e->its[j]?=some v->∀(Q:Bool->aB->Prop),Q (lt d e) s'->aG (aH X.prog X.w) A.in1.in1 (nS κ u v) Q (λ_ _=>False) s')
  (q:∀l ys es,H l=none->es.Perm ds->es.Pairwise (λx y=>lt y x=false)->RepAll (upd H l (.lst ys)) es ys->Q (.ref l) (upd H l (.lst ys))) :
  aG (aH X.prog X.w) A (call (.builtin "sorted") [.ref p]) (λu s'=>∃v H',Inv X aC σ H' s'/\RelV v u/\Q v H') E s:=by
 have l1:xs.length=ds.length:=dH.length;have l2:xs.length=its.length:=rv.length;obtain⟨g,hg⟩:∃g:aA->Int,∀(i:Nat)(d:PyData)(u:aA),ds[i]?=some d->its[i]?=some u->g u=vW lt ds d:=by refine⟨λu=>if h:∃d,∃as,Reads s.heap u d as/\d∈ds then vW lt ds h.choose else 0,λi d u h1 h2=>?_⟩;obtain⟨x,e1,r1⟩:=dH.get h1;obtain⟨u',e2,r2⟩:=rv.get e1;rw[h2]at e2;cases e2;obtain⟨as,rd⟩:=r1.reads I r2;have hx:∃d,∃as,Reads s.heap u d as/\d∈ds:=(nq d as ⟨rd,ak h1⟩);show(if h:∃d,∃as,Reads s.heap u d as/\d∈ds then vW lt ds h.choose else 0)=_;rw[dif_pos hx];obtain⟨bs,rb,_⟩:=hx.choose_spec;rw[SeqAt.Reads.unique d hx.choose u as bs r1.lay rd rb]
 refine aio (κ:=κ) (g:=g) pl (by lia) (λh2 s' k=>⟨hk h2 s' k,λx y hx hy Q' hq=>?_⟩) λus u1 u2=>?_
 .obtain⟨i,hi⟩:=cx.mp hx;obtain⟨j,hj⟩:=cx.mp hy;have eC:i<ds.length:=by have:=(ae.mp hi).1;lia
  have iU:j<ds.length:=by have:=(ae.mp hj).1;lia
  have di:=ab eC;have dj:=ab iU;rw[hg i _ x di hi,hg j _ y dj hj,FZ o (eu eC) (eu iU)]at hq;exact hc s' k i j _ _ x y di hi dj hj Q' hq
 .have wB:(ds.zip (xs.zip its)).map (λt=>t.2.2)=its:=by
   have:(ds.zip (xs.zip its)).map (λt=>t.2.2)=((ds.zip (xs.zip its)).map Prod.snd).map Prod.snd:=by rw[cq];rfl
   rw[this,List.map_snd_zip (by rw[List.length_zip];lia),List.map_snd_zip (by lia)]
  have first:(ds.zip (xs.zip its)).map (λt=>t.1)=ds:=List.map_fst_zip (by rw[List.length_zip];lia)
  obtain⟨T,tp,te⟩:=aeg (λt:PyData×V×aA=>t.2.2) u1 wB;have tm:∀t∈T,∃i:Nat,ds[i]?=some t.1/\xs[i]?=some t.2.1/\its[i]?=some t.2.2:=λt ht=>by obtain⟨i,hi⟩:=cx.mp (tp.mem_iff.mp ht);obtain⟨a1,a2⟩:=List.getElem?_zip_eq_some.mp hi;obtain⟨a3,a4⟩:=List.getElem?_zip_eq_some.mp a2;exact⟨i,a1,a3,a4⟩
  have tl:T.length=its.length:=by rw[tp.length_eq];have:=congrArg List.length wB;simpa using this
  obtain⟨e,he⟩:=sortedAll_at s.heap its us.toArray;have hn:H (s.heap.objs.size+1)=none:=I.hok.fresh (ll _);have hv:Vals (T.map λt=>t.2.1) us:=by
   rw[<-te];exact agz λt ht=>by obtain⟨i,_,a2,a3⟩:=tm t ht;obtain⟨u,b1,b2⟩:=rv.get a2;rw[a3]at b1;cases b1;exact b2
  have gG:(T.map λt=>t.2.1).length<=aF:=by rw[ah];lia
  have rB:Same H (upd H (s.heap.objs.size+1) (.lst (T.map λt=>t.2.1))):=λb o q=>by rw[ow (qb q hn)];exact q
  refine(nq (.ref (s.heap.objs.size+1)) _ ⟨I.laid (t':=s.toks) (o:=.lst (T.map λt=>t.2.1)) (λb u e=>sortedAll_old e) (ll _) ⟨gG,(nq _ e ⟨hv,he⟩)⟩,rfl,q _ _ (T.map λt=>t.1) hn ?_ ?_ ?_⟩)
  .rw[<-first];exact tp.map _
  .rw[gl];have u3:=u2;rw[<-te,gl]at u3;refine i8 (λ{a b} ha hb jX=>?_) u3;obtain⟨i,a1,_,a3⟩:=tm a ha;obtain⟨j,b1,_,b3⟩:=tm b hb;rw[hg i _ _ a1 a3,hg j _ _ b1 b3]at jX;rw[<-FZ o (ak b1) (ak a1)];exact decide_eq_false (by lia)
  .refine RepAll.same rB (abu λt ht=>?_);obtain⟨i,a1,a2,_⟩:=tm t ht;obtain⟨x,b1,b2⟩:=dH.get a1;rw[a2]at b1;cases b1;exact b2
end
noncomputable def ltR(x y:PyData):Bool:=rn (uh x) (uh y)
theorem an0{ks:List Bool}{ds:List PyData}(h:Rows ks ds):xN ltR ds:=by
 have qG:∀d∈ds,Row (true::ks) (uh d):=λd hd=>by obtain⟨r,e,hr⟩:=h d hd;rw[e];exact hr
 exact⟨λx hx y hy q=>Fy (qG x hx) (qG y hy) q,λx hx y hy z hz q1 q2=>Fd (qG x hx) (qG y hy) (qG z hz) q1 q2⟩
section
variable{X:Cx}
theorem zm:u7 X (.builtin "sorted") (λvs H Q=>∃p xs ds ks,vs=[.ref p]/\H p=some (.lst xs)/\RepAll H ds xs/\Rows ks ds/\
  ∀l ys es,H l=none->es.Perm ds->es.Pairwise (λx y=>ltR y x=false)->RepAll (upd H l (.lst ys)) es ys->Q (.ref l) (upd H l (.lst ys))):=by
 intro aC s σ H xs us Q I r h;obtain⟨p,xs,ds,ks,rfl,hp,dH,lI,q⟩:=h;obtain⟨u,rfl,r1⟩:=uy r;cases (show u=aA.ref p from r1);obtain⟨its,rv,pl,hz⟩:=I.list (SqL.of (K:=X.K) hp);have l1:xs.length=ds.length:=dH.length;have l2:xs.length=its.length:=rv.length;obtain⟨fs,kt,kf,ki⟩:=ah7 I dH rv lI;refine abg (κ:=tuples' true) (lt:=ltR) I hp dH rv pl.isList (by lia) (an0 lI) (λh2 s' k Q' E' hq=>?_) (λs' k i j d e u v di ui dj vj Q' hq=>?_) q
 .refine PySem.W.kat_kind (T:=aA.type "int") (KatTups.keeps k kt) (by lia) (λv hv=>?_) rfl hq;obtain⟨i,t,rfl⟩:=ki v hv;exact PySem.W.Looks.of_pure rfl
 .have tup:∀(i:Nat)(d:PyData)(u:aA),ds[i]?=some d->its[i]?=some u->∃a o vs n bs row,u=.ref a/\d=.tuple row/\Row (true::ks) row/\s'.heap.get? a=some o/\o.data=.seq vs n/\ReadsAll s'.heap vs.toList row bs:=λi d u hd hu=>by
   obtain⟨x,e1,e2⟩:=dH.get hd;obtain⟨u',e3,e4⟩:=rv.get e1;rw[hu]at e3;cases e3;obtain⟨row,e5,uU⟩:=lI _ (ak hd);obtain⟨a,o,vs,n,bs,_,_,rfl,g1,_,g3,g4,_⟩:=aps I e2 e4 e5 uU;exact(my a o vs n bs ⟨row,rfl,e5,uU,k _ _ g1,g3,ReadsAll.keeps k g4⟩)
  obtain⟨a,o,vs,n,as1,row,rfl,rfl,e3,e4,e5,e6⟩:=tup i d u di ui;obtain⟨a',o',BB,n',as2,GF,rfl,rfl,f3,f4,f5,f6⟩:=tup j e v dj vj;have iI:Q' (rn row GF) s':=hq;have z1:vs.size=ks.length+1:=by have q1:=j9 _ _ _ e6;have q2:=e3.len;simp at q1 q2;lia
  have z2:BB.size=ks.length+1:=by have q1:=j9 _ _ _ f6;have q2:=f3.len;simp at q1 q2;lia
  refine PySem.W.kat_lt e4 e5 f4 f5 ?_;rw[decide_eq_false (by lia)];exact Lf e3 f3 e6 f6 iI
end
noncomputable def Fi(M:Mat)(r c:Nat):PyData:=.tuple [.int (r:Nat),.int (c:Nat),.str ⟨#[M.g r c]⟩]
noncomputable def uz(M:Mat):List Str:=(cb M.h).map λr=>⟨(rm M r).toArray⟩
theorem xx{w r c:Nat}(hc:c<w):(r*w+c)/w=r:=by rw[Nat.mul_comm,Nat.mul_add_div (by omega),Nat.div_eq_of_lt hc,Nat.add_zero]
theorem wx{w r c:Nat}(hc:c<w):(r*w+c) % w=c:=by rw[Nat.mul_comm,Nat.mul_add_mod,iu hc]
def lt2(x y:PyData):Prop:=yg x<yg y\/yg x=yg y/\zh x<zh y
theorem are(x y:PyData)(h:lt2 x y):¬lt2 y x:=by unfold lt2 at *;omega
def SgP(c:Nat):Prop:=sgB c=true
theorem Bh{c:Nat}(h:SgP c):c<128:=by unfold SgP sgB at h;simp at h;omega
def FlM(H:Hp)(a:aE)(M:Mat):Prop:=H a=some (.tup ((uz M).map V.str))/\OkM SgP M
theorem FlM.same{H H':Hp}{a:aE}{M:Mat}(h:FlM H a M)(s:Same H H'):FlM H' a M:=⟨s _ _ h.1,h.2⟩
theorem tf(M:Mat):(uz M).length=M.h:=by unfold uz;simp
theorem KR{M:Mat}{r:Nat}(h:r<M.h):(uz M)[r]?=some ⟨(rm M r).toArray⟩:=by unfold uz;rw[au,jw h];rfl
theorem F6(M:Mat)(r:Nat):(rm M r).length=M.w:=by unfold rm;simp
theorem DU{M:Mat}{r c:Nat}(h:c<M.w):(rm M r)[c]?=some (M.g r c):=by unfold rm;rw[au,jw h];rfl
theorem aqw{M:Mat}(o:OkM SgP M){r:Nat}(hr:r<M.h):∀c∈rm M r,SgP c:=λc hc=>by unfold rm at hc;obtain⟨k,hk,rfl⟩:=bf.mp hc;exact o.sg r k hr (by simpa using hk)
theorem aob{M:Mat}{z:Str}(h:z∈uz M):∃r,r<M.h/\z=⟨(rm M r).toArray⟩:=by unfold uz at h;obtain⟨r,hr,rfl⟩:=bf.mp h;exact⟨r,by simpa using hr,rfl⟩
end L3
namespace L3
open PySem
noncomputable def sm5:Nat->Nat
 | 0=>0
 | m+1=>5*sm5 m+1
noncomputable def g5(m i:Nat):Nat:=5^m*i+sm5 m
theorem KY(m i:Nat):g5 (m+1) i=5*g5 m i+1:=by show 5^(m+1)*i+(5*sm5 m+1)=5*(5^m*i+sm5 m)+1;rw[lj,Nat.mul_add,Nat.mul_comm (5^m) 5,Nat.mul_assoc,j5]
theorem apj(m n i:Nat):g5 (m+n) i=g5 m (g5 n i):=by
 induction m with
 | zero=>rw[Nat.zero_add];unfold g5 sm5;simp
 | succ m ih=>rw[Nat.succ_add,KY,ih,KY]
theorem aqb(m n:Nat):sm5 (m+n)=5^m*sm5 n+sm5 m:=by have h:=apj m n 0;unfold g5 at h;simpa using h
theorem ahf:∀k,∃c d:Nat,5^(2^k)=1+2^(k+2)*c/\sm5 (2^k)=2^k*(2*d+1)
 | 0=>(nq 1 0 ⟨rfl,rfl⟩)
 | k+1=>by
  obtain⟨c,d,h1,h2⟩:=ahf k;have e:2^(k+1)=2^k+2^k:=by rw[lj];lia
  refine(nq (c+2^(k+1)*c*c) (d+2^k*c*(2*d+1)) ⟨?_,?_⟩)
  .rw[e,Nat.pow_add,h1,show 2^(k+1+2)=8*2^k by rw[Nat.pow_add,Nat.pow_add];lia,show 2^(k+2)=4*2^k by rw[Nat.pow_add];lia];generalize 2^k=A
   grind
  .rw[e,aqb,h1,h2,show 2^(k+2)=4*2^k by rw[Nat.pow_add];lia];generalize 2^k=A
   grind
theorem asb(k i:Nat):g5 (2^k) i % 2^(k+1)=(i+2^k) % 2^(k+1):=by
 obtain⟨c,d,h1,h2⟩:=ahf k;unfold g5;rw[h1,h2];have e3:2^(k+2)=2^(k+1)*2:=by rw[show k+2=(k+1)+1 by lia,lj]
 have e:(1+2^(k+2)*c)*i+2^k*(2*d+1)=(i+2^k)+2^(k+1)*(2*(c*i)+d):=by rw[e3,lj];generalize 2^k=A;simp only[Nat.add_mul,Nat.mul_add,Nat.one_mul,Nat.mul_one,Nat.mul_assoc,Nat.mul_comm,Nat.mul_left_comm];lia
 rw[e,Nat.add_mul_mod_self_left]
theorem KH:∀(k i j:Nat),∃m,m<2^k/\g5 m i % 2^k=j % 2^k
 | 0,i,j=>⟨0,by decide,by simp[Nat.mod_one]⟩
 | k+1,i,j=>by
  obtain⟨m,hm,e⟩:=KH k i j;have e2:2^(k+1)=2*2^k:=by rw[lj];lia
  by_cases h:g5 m i % 2^(k+1)=j % 2^(k+1)
  .exact⟨m,by lia,h⟩
  .refine⟨2^k+m,by lia,?_⟩;rw[apj,asb];have a:=Nat.mod_add_div (g5 m i) (2^(k+1));have l1:g5 m i % 2^(k+1)<2^(k+1):=Nat.mod_lt _ (by rw[e2];have:=Nat.two_pow_pos k;lia);have l2:j % 2^(k+1)<2^(k+1):=Nat.mod_lt _ (by rw[e2];have:=Nat.two_pow_pos k;lia);have m1:g5 m i % 2^(k+1) % 2^k=g5 m i % 2^k:=Nat.mod_mod_of_dvd _ ⟨2,by rw[e2];lia⟩;have m2:j % 2^(k+1) % 2^k=j % 2^k:=Nat.mod_mod_of_dvd _ ⟨2,by rw[e2];lia⟩;rw[Nat.add_mod,iu (show 2^k<2^(k+1) by have:=Nat.two_pow_pos k;lia)];generalize g5 m i % 2^(k+1)=x at *;generalize j % 2^(k+1)=y at *;rw[<-m1,<-m2]at e;generalize 2^(k+1)=A at *;generalize 2^k=B at *;subst e2;have hx:x % B=if x<B then x else x-B:=by
    split
    .exact iu (by assumption)
    .rw[Nat.mod_eq_sub_mod (by lia),iu (by lia)]
   have hy:y % B=if y<B then y else y-B:=by
    split
    .exact iu (by assumption)
    .rw[Nat.mod_eq_sub_mod (by lia),iu (by lia)]
   rw[hx,hy]at e;have hz:(x+B) % (2*B)=if x+B<2*B then x+B else x+B-2*B:=by
    split
    .exact iu (by assumption)
    .rw[Nat.mod_eq_sub_mod (by lia),iu (by lia)]
   rw[hz];split at e<;>split at e<;>split<;>lia
open SetTable
noncomputable def itn{α:Type}(f:α->α):Nat->α->α
 | 0,x=>x
 | n+1,x=>itn f n (f x)
theorem tq{α:Type}(f:α->α):∀(m n:Nat)(x:α),itn f (m+n) x=itn f n (itn f m x)
 | 0,n,x=>by rw[Nat.zero_add];rfl
 | m+1,n,x=>by rw[Nat.succ_add];exact tq f m n (f x)
theorem Lp{α:Type}(f:α->α)(n:Nat)(x:α):itn f (n+1) x=f (itn f n x):=by rw[tq f n 1 x];rfl
noncomputable def adv(mask:Nat)(p:Probe):Probe:=
 if p.more>0 then{p with j:=p.j+1,more:=p.more-1}else
 {p with j:=(leap mask p.i p.perturb).1,more:=runEnd mask (leap mask p.i p.perturb).1-(leap mask p.i p.perturb).1,i:=(leap mask p.i p.perturb).1,perturb:=(leap mask p.i p.perturb).2}
noncomputable def lp(mask:Nat)(x:Nat×Nat):Nat×Nat:=leap mask x.1 x.2
noncomputable def at0(mask:Nat)(x:Nat×Nat)(d:Option Nat):Probe:=⟨x.1,runEnd mask x.1-x.1,x.1,x.2,d⟩
theorem apl(mask i:Nat):runEnd mask i-i<=9:=by unfold runEnd;split<;>lia
theorem FU(mask:Nat):∀(m:Nat)(p:Probe),p.more=m->itn (adv mask) (m+1) p=at0 mask (lp mask (p.i,p.perturb)) p.dummy
 | 0,p,h=>by show adv mask p=_;unfold adv;rw[if_neg (by lia)];rfl
 | m+1,p,h=>by
  show itn (adv mask) (m+1) (adv mask p)=_;have e:adv mask p={p with j:=p.j+1,more:=p.more-1}:=by unfold adv;rw[if_pos (by lia)]
  rw[e,FU mask m _ (by show p.more-1=m;lia)]
theorem Ka(mask:Nat):∀(m:Nat)(x:Nat×Nat)(d:Option Nat),∃n,n<=10*m/\itn (adv mask) n (at0 mask x d)=at0 mask (itn (lp mask) m x) d
 | 0,x,d=>⟨0,aq _,rfl⟩
 | m+1,x,d=>by
  have h:=FU mask _ (at0 mask x d) rfl;obtain⟨n,hn,e⟩:=Ka mask m (lp mask x) d;refine⟨((at0 mask x d).more+1)+n,?_,?_⟩
  .have:(at0 mask x d).more<=9:=apl mask x.1;lia
  .rw[tq,h];exact e
theorem LB(mask:Nat):∀(m:Nat)(x:Nat×Nat)(b:Nat),x.2<32^b->(itn (lp mask) m x).2<32^(b-m)
 | 0,x,b,h=>by simpa [itn]using h
 | m+1,x,b,h=>by
  have h':(lp mask x).2<32^(b-1):=by
   show x.2/32<32^(b-1);cases b with
   | zero=>simp at h;simp[h]
   | succ b=>
    rw[lj]at h;simpa using Nat.div_lt_of_lt_mul (by lia)
  have:=LB mask m (lp mask x) (b-1) h';rw[show b-(m+1)=b-1-m by lia];exact this
theorem wg{mask k:Nat}(hk:mask+1=2^k):∀(m i:Nat),i<2^k->itn (lp mask) m (i,0)=(g5 m i % 2^k,0)
 | 0,i,h=>by
  have e:g5 0 i=i:=by unfold g5 sm5;simp
  rw[e,iu h];rfl
 | m+1,i,h=>by
  rw[Lp,wg hk m i h];show((g5 m i % 2^k*5+1+0/32) % (mask+1),0/32)=_;rw[hk,KY];have e:(g5 m i % 2^k*5+1+0/32) % 2^k=(5*g5 m i+1) % 2^k:=by rw[show 0/32=0 from rfl,Nat.add_zero,Nat.mul_comm,Nat.add_mod,Nat.mul_mod,Nat.mod_mod,<-Nat.mul_mod,<-Nat.add_mod]
  rw[e]
theorem Ks{mask k:Nat}(hk:mask+1=2^k)(x:Nat×Nat):(lp mask x).1<2^k:=by show(x.1*5+1+x.2/32) % (mask+1)<2^k;rw[hk];exact Nat.mod_lt _ (Nat.two_pow_pos k)
theorem avt{mask k:Nat}(hk:mask+1=2^k)(p:Probe)(hm:p.more<=9)(hp:p.perturb<2^64)(j:Nat)(hj:j<=mask):∃n,n<10*turns mask/\(itn (adv mask) n p).j=j:=by
 have h1:=FU mask p.more p rfl;obtain⟨n2,lV,e2⟩:=Ka mask 12 (lp mask (p.i,p.perturb)) p.dummy;have hz:(itn (lp mask) 12 (lp mask (p.i,p.perturb))).2<32^(13-13):=by have:=LB mask 13 (p.i,p.perturb) 13 (by show p.perturb<32^13;exact c5 hp (by decide));exact this
 have tI:(itn (lp mask) 12 (lp mask (p.i,p.perturb))).2=0:=by simpa using hz
 have hi:(itn (lp mask) 12 (lp mask (p.i,p.perturb))).1<2^k:=by rw[Lp];exact Ks hk _
 generalize itn (lp mask) 12 (lp mask (p.i,p.perturb))=y at *;obtain⟨y1,y2⟩:=y;simp only at tI hi;subst tI;obtain⟨m,tM,e3⟩:=KH k y1 j;obtain⟨n3,yS,e4⟩:=Ka mask m (y1,0) p.dummy;rw[wg hk m y1 hi,e3,iu (by lia)]at e4;refine⟨(p.more+1)+(n2+n3),?_,?_⟩
 .unfold turns;lia
 .rw[tq,h1,tq,e2,e4];rfl
end L3
namespace L3
open PySem SetTable
def Low(xs:Array Nat)(j b:Nat):Prop:=b<=xs.size/\(∀i v,i<b->xs[i]?=some v->v<j)/\(∀i v,b<=i->xs[i]?=some v->j<=v)
theorem FQ{xs:Array Nat}(h:xs.toList.Pairwise (· < ·)){i k v u:Nat}(hi:xs[i]?=some v)(hk:xs[k]?=some u)(vH:i<k):v<u:=by rw[<-bm]at hi hk;obtain⟨h1,rfl⟩:=ae.mp hi;obtain⟨h2,rfl⟩:=ae.mp hk;exact ik.mp h i k h1 h2 vH
theorem Lg{xs:Array Nat}(h:xs.toList.Pairwise (· < ·))(j:Nat):∀(fuel lo hi:Nat),hi-lo<=fuel->lo<=hi->hi<=xs.size->(∀i v,i<lo->xs[i]?=some v->v<j)->(∀i v,hi<=i->xs[i]?=some v->j<=v)->
  Low xs j (below.go xs j fuel lo hi)
 | 0,lo,hi,h1,h2,h3,a,b=>by
  have e:lo=hi:=by lia
  subst e;exact⟨h3,a,b⟩
 | fuel+1,lo,hi,h1,h2,h3,a,b=>by
  unfold below.go;by_cases cN:lo<hi
  .rw[if_pos cN];have hm:(lo+hi)/2<xs.size:=by lia
   have e:xs.getD ((lo+hi)/2) j=xs[(lo+hi)/2]:=by simp[Array.getD,hm]
   have e':xs[(lo+hi)/2]?=some xs[(lo+hi)/2]:=by simp[hm]
   dsimp only;rw[e];by_cases hc:xs[(lo+hi)/2]<j
   .rw[if_pos hc];refine Lg h j fuel _ _ (by lia) (by lia) h3 (λi v eC hv=>?_) b;by_cases q:i=(lo+hi)/2
    .subst q;rw[e']at hv;cases hv;exact hc
    .have:=FQ h hv e' (by lia);lia
   .rw[if_neg hc];refine Lg h j fuel _ _ (by lia) (by lia) (by lia) a (λi v eC hv=>?_);by_cases q:i=(lo+hi)/2
    .subst q;rw[e']at hv;cases hv;lia
    .have:=FQ h e' hv (by lia);lia
  .rw[if_neg cN];have e:lo=hi:=by lia
   subst e;exact⟨h3,a,b⟩
theorem v4{xs:Array Nat}(h:xs.toList.Pairwise (· < ·))(j:Nat):Low xs j (below xs j):=
 Lg h j xs.size 0 xs.size (by lia) (by lia) (aq _) (λi v hi=>by lia) (λi v hi hv=>by have:=(bp.mp hv).1;lia)
theorem Lh{xs:Array Nat}(h:xs.toList.Pairwise (· < ·)){i j:Nat}(hi:xs[i]?=some j):below xs j=i:=by
 obtain⟨a,b,c⟩:=v4 h j;by_cases q:i<below xs j
 .have:=b i j q hi;lia
 by_cases q2:below xs j<i
 .have hl:=(bp.mp hi).1;have e':xs[below xs j]?=some xs[below xs j]:=by simp
  have:=FQ h e' hi q2;have:=c _ _ (aq _) e';lia
 .lia
theorem LA{t:SetTable}(h:t.place.toList.Pairwise (· < ·)){i j:Nat}(hi:t.place[i]?=some j):t.slot j=.live i:=by unfold slot;rw[Lh h hi];dsimp only;rw[hi,if_pos (by simp)]
theorem ai5{t:SetTable}(h:t.place.toList.Pairwise (· < ·))(hd:t.dummies=#[]){j:Nat}(hj:j∉t.place.toList):t.slot j=.empty:=by
 unfold slot;dsimp only;rw[if_neg,if_neg]
 .rw[hd];unfold has;simp
 .intro e;have e':t.place[below t.place j]?=some j:=by simpa using e
  apply hj;rw[<-bm]at e';exact ak e'
theorem ana{t:SetTable}{j:Nat}(hj:j∈t.place.toList):∃i:Nat,t.place[i]?=some j:=by obtain⟨i,h⟩:=db hj;exact⟨i,by rw[<-bm];exact h⟩
theorem qk{α:Type}(xs:Array α)(p:Nat)(x:α):(insertAt xs p x).toList=xs.toList.take p++x::xs.toList.drop p:=by unfold insertAt;simp[Array.toList_extract];rw[av (by simp)]
theorem afx{xs:Array Nat}(h:xs.toList.Pairwise (· < ·)){j:Nat}(hj:j∉xs.toList):(insertAt xs (below xs j) j).toList.Pairwise (· < ·):=by
 obtain⟨a,b,c⟩:=v4 h j;rw[qk,fj];refine⟨h.sublist (k7 _ _),?_,?_⟩
 .rw[ij];refine⟨λv hv=>?_,h.sublist (List.drop_sublist _ _)⟩;obtain⟨i,hi⟩:=db hv;rw[gm,bm]at hi;have:=c _ v (by lia) hi;have:v≠j:=λe=>hj (by rw[<-e];rw[<-bm]at hi;exact ak hi);lia
 .intro u hu v hv;obtain⟨i,hi⟩:=db hu;have kI:i<below xs j:=by
   have:=(ae.mp hi).1;rw[b8]at this;lia
  rw[fw kI,bm]at hi;have h1:=b i u kI hi;rcases bb.mp hv with rfl|hv
  .exact h1
  .obtain⟨i',eC⟩:=db hv;rw[gm,bm]at eC;have:=c _ v (by lia) eC;lia
def AZ(ps:List Nat)(es:List (Int×aA))(j:Nat)(e:Int×aA):Prop:=∃i:Nat,ps[i]?=some j/\es[i]?=some e
theorem af6{ps:List Nat}{es:List (Int×aA)}(hl:ps.length=es.length)(p j0:Nat)(hp:p<=ps.length)(e0:Int×aA){j:Nat}{e:Int×aA} :
  AZ (ps.take p++j0::ps.drop p) (es.take p++e0::es.drop p) j e↔(j=j0/\e=e0)\/AZ ps es j e:=by
 have l1:(ps.take p).length=p:=by rw[b8];lia
 have l2:(es.take p).length=p:=by rw[b8];lia
 constructor
 .rintro⟨i,h1,h2⟩;by_cases hi:i<p
  .rw[cu (by lia),fw hi]at h1 h2;exact .inr ⟨i,h1,h2⟩
  .rw[cf (by lia),l1]at h1;rw[cf (by lia),l2]at h2;cases hq:i-p with
   | zero=>rw[hq]at h1 h2;cases h1;cases h2;exact .inl ⟨rfl,rfl⟩
   | succ q=>
    rw[hq,List.getElem?_cons_succ,gm]at h1 h2;exact .inr ⟨p+q,h1,h2⟩
 .rintro(⟨rfl,rfl⟩|⟨i,h1,h2⟩)
  .exact⟨p,by rw[cf (by lia),l1,j8];rfl,by rw[cf (by lia),l2,j8];rfl⟩
  .by_cases hi:i<p
   .exact⟨i,by rw[cu (by lia),fw hi];exact h1,by rw[cu (by lia),fw hi];exact h2⟩
   .refine⟨i+1,?_,?_⟩
    .rw[cf (by lia),l1,show i+1-p=(i-p)+1 by lia,List.getElem?_cons_succ,gm,show p+(i-p)=i by lia];exact h1
    .rw[cf (by lia),l2,show i+1-p=(i-p)+1 by lia,List.getElem?_cons_succ,gm,show p+(i-p)=i by lia];exact h2
noncomputable def st0(mask:Nat)(h:Int):Probe:=at0 mask (bits h % (mask+1),bits h) none
theorem am5(t:SetTable)(h:Int):t.probeStart h=st0 t.mask h:=rfl
noncomputable def qx(mask:Nat)(h:Int)(n:Nat):Nat:=(itn (adv mask) n (st0 mask h)).j
theorem KN(h:Int):bits h<2^64:=by unfold bits;lia
def vV(mask:Nat)(p:Probe):Prop:=p.more<=9/\p.perturb<2^64/\p.j+p.more<=mask
theorem aej(mask:Nat)(x:Nat×Nat)(d:Option Nat)(h1:x.1<=mask)(h2:x.2<2^64):vV mask (at0 mask x d):=by refine⟨apl mask x.1,h2,?_⟩;show x.1+(runEnd mask x.1-x.1)<=mask;unfold runEnd;split<;>lia
theorem amj{mask:Nat}{p:Probe}(h:vV mask p):vV mask (adv mask p):=by
 obtain⟨h1,h2,h3⟩:=h;unfold adv;split
 .exact⟨by simp only;lia,h2,by simp only;lia⟩
 .refine aej mask (leap mask p.i p.perturb) p.dummy ?_ ?_
  .show(p.i*5+1+p.perturb/32) % (mask+1)<=mask;have:=Nat.mod_lt (p.i*5+1+p.perturb/32) (show 0<mask+1 by lia);lia
  .show p.perturb/32<2^64;lia
theorem LF{mask:Nat}:∀(n:Nat) {p:Probe},vV mask p->vV mask (itn (adv mask) n p)
 | 0,_,h=>h
 | n+1,_,h=>LF n (amj h)
theorem xu(mask:Nat)(h:Int):vV mask (st0 mask h):=aej mask _ _ (by
 have:=Nat.mod_lt (bits h) (show 0<mask+1 by lia);show bits h % (mask+1)<=mask;lia) (KN h)
theorem aqk(mask:Nat)(h:Int)(n:Nat):qx mask h n<=mask:=by have:=(LF n (xu mask h)).2.2;unfold qx;lia
structure TOk(t:SetTable)(es:Array (Int×aA)):Prop where
 two:∃k,t.mask+1=2^k/\3<=k/\k<=13/\k % 2=1
 dm:t.dummies=#[]
 rise:t.place.toList.Pairwise (· < ·)
 bd:∀j∈t.place.toList,j<=t.mask
 sz:t.place.size=es.size
 fit:t.place.size<=t.mask
 onroad:∀j e,AZ t.place.toList es.toList j e->∃n,qx t.mask e.1 n=j/\∀n',n'<n->qx t.mask e.1 n'∈t.place.toList
theorem apq{ps:List Nat}{m:Nat}(h:ps.length<=m):∃j,j<=m/\j∉ps:=by apply gf;intro hn;have cQ:∀j,j<=m->j∈ps:=λj hj=>gf λq=>hn ⟨j,hj,q⟩;have:=List.Nodup.length_le_of_subset (l₁:=cb (m+1)) (l₂:=ps) List.nodup_range (λj hj=>cQ j (by have:=fh.mp hj;lia));rw[f8]at this;lia
theorem ald{t:SetTable}{es:Array (Int×aA)}(ok:TOk t es)(cB:Nat->Int)(h:Int):∀(fuel:Nat)(p:Probe),(∃n,n<fuel/\(itn (adv t.mask) n p).j∉t.place.toList)->
  (∃n,probe.go t cB h fuel p=some (.empty (itn (adv t.mask) n p).j p.dummy)/\(itn (adv t.mask) n p).j∉t.place.toList/\∀n',n'<n->∃i:Nat,t.place[i]?=some (itn (adv t.mask) n' p).j/\cB i≠h)\/
  (∃n i,probe.go t cB h fuel p=some (.candidate (itn (adv t.mask) n p).j i (itn (adv t.mask) (n+1) p))/\t.place[i]?=some (itn (adv t.mask) n p).j/\cB i=h/\∀n',n'<n->∃i':Nat,t.place[i']?=some (itn (adv t.mask) n' p).j/\cB i'≠h)
 | 0,p,⟨n,hn,_⟩=>by lia
 | fuel+1,p,⟨n,hn,bW⟩=>by
  by_cases hp:p.j∈t.place.toList
  .obtain⟨i,hi⟩:=ana hp;have hs:=LA ok.rise hi;by_cases hh:cB i=h
   .refine .inr (nq 0 i ⟨?_,hi,hh,λn' fS=>by lia⟩);unfold probe.go;rw[hs];dsimp only;rw[if_pos (by simp[hh])];rfl
   .have rH:∃n,n<fuel/\(itn (adv t.mask) n (adv t.mask p)).j∉t.place.toList:=by
     cases n with
     | zero=>exact absurd hp bW
     | succ n=>exact⟨n,by lia,bW⟩
    have AB:probe.go t cB h (fuel+1) p=probe.go t cB h fuel (adv t.mask p):=by rw[probe.go,hs];dsimp only;rw[if_neg (by simp[hh])];rfl
    have hd:(adv t.mask p).dummy=p.dummy:=by unfold adv;split<;>rfl
    have BY:∀{n:Nat},(∀n',n'<n->∃i':Nat,t.place[i']?=some (itn (adv t.mask) n' (adv t.mask p)).j/\cB i'≠h)->∀n',n'<n+1->∃i':Nat,t.place[i']?=some (itn (adv t.mask) n' p).j/\cB i'≠h:=λH n' fS=>by
     cases n' with
     | zero=>exact⟨i,hi,hh⟩
     | succ n'=>exact H n' (by lia)
    rcases ald ok cB h fuel (adv t.mask p) rH with ⟨m,e,f,g⟩|⟨m,i',e,f,g,g'⟩
    .exact .inl ⟨m+1,by rw[AB,e,hd];rfl,f,BY g⟩
    .exact .inr (nq (m+1) i' ⟨by rw[AB,e];rfl,f,g,BY g'⟩)
  .refine .inl ⟨0,?_,hp,λn' fS=>by lia⟩;unfold probe.go;rw[ai5 ok.rise ok.dm hp];rfl
theorem ai2{t:SetTable}{es:Array (Int×aA)}(ok:TOk t es)(cB:Nat->Int)(h:Int){p:Probe}(st:vV t.mask p) :
  (∃n,t.probe cB h p=some (.empty (itn (adv t.mask) n p).j p.dummy)/\(itn (adv t.mask) n p).j∉t.place.toList/\∀n',n'<n->∃i:Nat,t.place[i]?=some (itn (adv t.mask) n' p).j/\cB i≠h)\/
  (∃n i,t.probe cB h p=some (.candidate (itn (adv t.mask) n p).j i (itn (adv t.mask) (n+1) p))/\t.place[i]?=some (itn (adv t.mask) n p).j/\cB i=h/\∀n',n'<n->∃i':Nat,t.place[i']?=some (itn (adv t.mask) n' p).j/\cB i'≠h):=by
 obtain⟨k,hk,_,_⟩:=ok.two;obtain⟨j,hj,hn⟩:=apq (ps:=t.place.toList) (m:=t.mask) (by rw[ax];exact ok.fit);obtain⟨n,hl,e⟩:=avt hk p st.1 st.2.1 j hj;exact ald ok cB h _ p ⟨n,hl,by rw[e];exact hn⟩
theorem TOk.ahead{t:SetTable}{es:Array (Int×aA)}(ok:TOk t es){j:Nat}{e:Int×aA}(hs:AZ t.place.toList es.toList j e){n:Nat}(hf:qx t.mask e.1 n∉t.place.toList):∃m,m<n/\qx t.mask e.1 m=j:=by
 obtain⟨m,h1,h2⟩:=ok.onroad j e hs;refine⟨m,?_,h1⟩;apply gf;intro hm;by_cases q:n<m
 .exact hf (h2 n q)
 .have:m=n:=by lia
  subst this;rw[h1]at hf;obtain⟨i,hi,_⟩:=hs;exact hf (ak hi)
theorem TOk.put{t:SetTable}{es:Array (Int×aA)}(ok:TOk t es){h:Int}{x:aA}{n:Nat}(hf:qx t.mask h n∉t.place.toList)(hr:∀n',n'<n->qx t.mask h n'∈t.place.toList)(rE:t.place.size+1<=t.mask) :
  TOk (t.put (qx t.mask h n)).1 (insertAt es (t.put (qx t.mask h n)).2 (h,x))/\(t.put (qx t.mask h n)).1.mask=t.mask/\(t.put (qx t.mask h n)).2<=es.size/\(t.put (qx t.mask h n)).1.place.size=t.place.size+1:=by
 have vD:=v4 ok.rise (qx t.mask h n);have HL:has t.dummies (qx t.mask h n)=false:=by rw[ok.dm];unfold has;simp
 have rL:t.put (qx t.mask h n)=({t with place:=insertAt t.place (below t.place (qx t.mask h n)) (qx t.mask h n),dummies:=#[]},below t.place (qx t.mask h n)):=by unfold SetTable.put;rw[HL,ok.dm];rfl
 rw[rL];have nW:(insertAt t.place (below t.place (qx t.mask h n)) (qx t.mask h n)).size=t.place.size+1:=by rw[<-ax,qk,bu,b7,b8,g9,ax];have:=vD.1;lia
 have hsz:=ok.sz;have eP:∀j,j∈(insertAt t.place (below t.place (qx t.mask h n)) (qx t.mask h n)).toList↔j=qx t.mask h n\/j∈t.place.toList:=λj=>by
  rw[qk];constructor
  .intro hj;rcases ay.mp hj with q|q
   .exact .inr (gt q)
   .rcases bb.mp q with q|q
    .exact .inl q
    .exact .inr (List.mem_of_mem_drop q)
  .rintro(rfl|hj)
   .exact cw _ aw
   .rw[<-ff (below t.place (qx t.mask h n)) t.place.toList]at hj;rcases ay.mp hj with q|q
    .exact jq _ q
    .exact cw _ (a8 _ q)
 refine⟨⟨ok.two,rfl,afx ok.rise hf,?_,?_,?_,?_⟩,rfl,?_,nW⟩
 .intro j hj;rcases(eP j).mp hj with rfl|q
  .exact aqk _ _ _
  .exact ok.bd j q
 .show(insertAt t.place _ _).size=(insertAt es (below t.place (qx t.mask h n)) (h,x)).size;rw[nW,<-ax (xs:=insertAt es _ _),qk,bu,b7,b8,g9,ax];have:=vD.1;lia
 .show(insertAt t.place _ _).size<=t.mask;rw[nW];exact rE
 .intro j e hs;have dQ:AZ (t.place.toList.take (below t.place (qx t.mask h n))++qx t.mask h n::t.place.toList.drop (below t.place (qx t.mask h n))) (es.toList.take (below t.place (qx t.mask h n))++(h,x)::es.toList.drop (below t.place (qx t.mask h n))) j e:=by
   have uT:AZ (insertAt t.place (below t.place (qx t.mask h n)) (qx t.mask h n)).toList (insertAt es (below t.place (qx t.mask h n)) (h,x)).toList j e:=hs;rw[qk,qk]at uT;exact uT
  rcases(af6 (by rw[ax,ax];exact hsz) _ _ (by rw[ax];exact vD.1) _).mp dQ with ⟨rfl,rfl⟩|q
  .exact⟨n,rfl,λn' fS=>(eP _).mpr (.inr (hr n' fS))⟩
  .obtain⟨m,h1,h2⟩:=ok.onroad j e q;exact⟨m,h1,λn' fS=>(eP _).mpr (.inr (h2 n' fS))⟩
 .show below t.place _<=es.size;have:=vD.1;lia
theorem TOk.fits{t:SetTable}{es:Array (Int×aA)}(ok:TOk t es):t.fits es.size=true:=by unfold SetTable.fits SetTable.fill;rw[ok.dm];simp[ok.sz];have:=ok.fit;have:=ok.sz;lia
theorem TOk.noway{t:SetTable}{es:Array (Int×aA)}(ok:TOk t es):t.gaveWay=false:=by
 obtain⟨k,hk,h3,_⟩:=ok.two;unfold SetTable.gaveWay;have:2^k % 2=0:=by rw[show k=(k-1)+1 by lia,lj];lia
 simp;lia
theorem TOk.fresh(finger moves:Nat)(led:Bool):TOk (.fresh finger moves led) #[]:=
 ⟨⟨3,rfl,by decide,by decide,rfl⟩,rfl,List.Pairwise.nil,(λj hj=>by cases hj),rfl,(by show 0<=7;decide),(λj e ⟨i,h,_⟩=>by simp[SetTable.fresh]at h)⟩
theorem avb{mask k:Nat}(hk:mask+1=2^k)(x:Nat×Nat)(hp:x.2<2^64)(j:Nat)(hj:j<=mask):∃m,m<turns mask/\(itn (lp mask) m x).1=j:=by
 have hz:(itn (lp mask) 13 x).2<32^(13-13):=LB mask 13 x 13 (c5 hp (by decide));have tI:(itn (lp mask) 13 x).2=0:=by simpa using hz
 have hi:(itn (lp mask) 13 x).1<2^k:=by rw[Lp];exact Ks hk _
 have e0:∀m,itn (lp mask) (13+m) x=itn (lp mask) m (itn (lp mask) 13 x):=λm=>tq _ _ _ _;generalize itn (lp mask) 13 x=y at *;obtain⟨y1,y2⟩:=y;simp only at tI hi;subst tI;obtain⟨m,tM,e3⟩:=KH k y1 j;refine⟨13+m,?_,?_⟩
 .unfold turns;lia
 .rw[e0,wg hk m y1 hi];show g5 m y1 % 2^k=j;rw[e3,iu (by lia)]
theorem aow(mask:Nat):∀(q:Nat)(p:Probe),q<=p.more->(itn (adv mask) q p).j=p.j+q
 | 0,p,_=>rfl
 | q+1,p,h=>by
  show(itn (adv mask) q (adv mask p)).j=_;have e:adv mask p={p with j:=p.j+1,more:=p.more-1}:=by unfold adv;rw[if_pos (by lia)]
  rw[e,aow mask q _ (by show q<=p.more-1;lia)];show p.j+1+q=p.j+(q+1);lia
def Du(owner:Array (Option Nat))(j:Nat):Prop:=∃q,owner[j]?=some (some q)
theorem afe{mask k:Nat}(hk:mask+1=2^k){owner:Array (Option Nat)}(hs:owner.size=mask+1){f:Nat}(hf:owner[f]?=some none):∀(fuel:Nat)(x:Nat×Nat),x.1<=mask->x.2<2^64->(∃m,m<fuel/\(itn (lp mask) m x).1=f)->
  ∃j n,layClean.free mask owner fuel x.1 x.2=some j/\(itn (adv mask) n (at0 mask x none)).j=j/\owner[j]?=some none/\∀n',n'<n->Du owner (itn (adv mask) n' (at0 mask x none)).j
 | 0,x,_,_,⟨m,hm,_⟩=>by lia
 | fuel+1,x,h1,h2,⟨m,hm,em⟩=>by
  have Cp:(at0 mask x none).more=runEnd mask x.1-x.1:=rfl;have hend:runEnd mask x.1<=mask/\x.1<=runEnd mask x.1:=by unfold runEnd;split<;>lia
  have get:∀q,(hq:q<runEnd mask x.1+1-x.1)->owner.getD (x.1+q) (some 0)=owner[x.1+q]'(by lia):=λq hq=>by simp only[Array.getD];rw[dif_pos (show x.1+q<owner.size by lia)];rfl
  have pos:∀q,q<runEnd mask x.1+1-x.1->(itn (adv mask) q (at0 mask x none)).j=x.1+q:=λq hq=>aow mask q _ (by rw[Cp];lia);have occ:∀q (hq:q<runEnd mask x.1+1-x.1),(owner.getD (x.1+q) (some 0)).isNone=false->Du owner (x.1+q):=λq hq hn=>by
   rw[get q hq]at hn;cases hv:owner[x.1+q]'(by lia)with
   | none=>rw[hv]at hn;cases hn
   | some v=>exact⟨v,by rw[ce (by lia),hv]⟩
  unfold layClean.free;cases CL:(cb (runEnd mask x.1+1-x.1)).find? λk=>(owner.getD (x.1+k) (some 0)).isNone with
  | some q=>
   rw[List.find?_range_eq_some]at CL;obtain⟨a,b,c⟩:=CL;have hq:q<runEnd mask x.1+1-x.1:=fh.mp b;refine(nq (x.1+q) q ⟨rfl,pos q hq,?_,λn' fS=>?_⟩)
   .rw[get q hq]at a;rw[ce (by lia)];cases hv:owner[x.1+q]'(by lia)with
    | none=>rfl
    | some v=>rw[hv]at a;cases a
   .rw[pos n' (by lia)];exact occ n' (by lia) (by simpa using c n' fS)
  | none=>
   rw[List.find?_range_eq_none]at CL;dsimp only;cases m with
   | zero=>
    have e0:x.1=f:=em;have:=CL 0 (by lia);rw[Nat.add_zero]at this;have g:=get 0 (by lia);simp only[Nat.add_zero]at g;rw[g]at this;subst e0;rw[ce (by lia)]at hf;injection hf with hf
    rw[hf]at this;cases this
   | succ m=>
    have pH:(lp mask x).1<=mask:=by have:=Ks hk x;lia
    have kG:(lp mask x).2<2^64:=by show x.2/32<2^64;lia
    obtain⟨j,n,e1,e2,e3,e4⟩:=afe hk hs hf fuel (lp mask x) pH kG ⟨m,by lia,em⟩;have tl:=FU mask _ (at0 mask x none) rfl;refine(nq j ((at0 mask x none).more+1+n) ⟨e1,?_,e3,λn' fS=>?_⟩)
    .rw[tq,tl];exact e2
    .by_cases hq:n'<(at0 mask x none).more+1
     .have iI:n'<runEnd mask x.1+1-x.1:=by rw[Cp]at hq;lia
      rw[pos n' iI];exact occ n' iI (by simpa using CL n' iI)
     .have:=e4 (n'-((at0 mask x none).more+1)) (by lia);rw[show n'=(at0 mask x none).more+1+(n'-((at0 mask x none).more+1)) by lia,tq,tl];exact this
structure Own(mask:Nat)(hs:List Int)(owner:Array (Option Nat))(k:Nat):Prop where
 size:owner.size=mask+1
 o1:∀j q:Nat,owner[j]?=some (some q)->q<k/\∃h,hs[q]?=some h/\∃n,qx mask h n=j/\∀n',n'<n->Du owner (qx mask h n')
 o2:∀q:Nat,q<k->∃j:Nat,owner[j]?=some (some q)
 o3:∀j j' q:Nat,owner[j]?=some (some q)->owner[j']?=some (some q)->j=j'
theorem Own.free{mask:Nat}{hs:List Int}{owner:Array (Option Nat)}{k:Nat}(o:Own mask hs owner k)(hk:k<=mask):∃f,f<=mask/\owner[f]?=some none:=by
 apply gf;intro hn;have cQ:∀j,j<=mask->∃q,owner[j]?=some (some q):=λj hj=>by
  have iU:j<owner.size:=by rw[o.size];lia
  cases hv:owner[j]with
  | none=>exact absurd ⟨j,hj,by rw[ce iU,hv]⟩ hn
  | some q=>exact⟨q,by rw[ce iU,hv]⟩
 have val:∀(j q:Nat),owner[j]?=some (some q)->((owner[j]?).getD none).getD 0=q:=λj q h=>by rw[h];rfl
 have nd:((cb (mask+1)).map λj=>((owner[j]?).getD none).getD 0).Nodup:=by show List.Pairwise _ _;rw[gl];refine i8 ?_ (List.nodup_range (n:=mask+1));intro a b ha hb jX e;obtain⟨q,hq⟩:=cQ a (by have:=fh.mp ha;lia);obtain⟨q',iI⟩:=cQ b (by have:=fh.mp hb;lia);rw[val a q hq,val b q' iI]at e;subst e;exact jX (o.o3 a b q hq iI)
 have:=List.Nodup.length_le_of_subset (l₂:=cb k) nd (λv hv=>by obtain⟨j,hj,rfl⟩:=bf.mp hv;obtain⟨q,hq⟩:=cQ j (by have:=fh.mp hj;lia);rw[val j q hq];exact fh.mpr (o.o1 j q hq).1)
 rw[ah,f8,f8]at this;lia
noncomputable def Lb(mask:Nat)(iB:Option (Array (Option Nat)×Nat))(h:Int):Option (Array (Option Nat)×Nat):=do
 let (owner,k) <-iB
 let j <-layClean.free mask owner (turns mask) (bits h % (mask+1)) (bits h)
 aS (owner.setIfInBounds j (some k),k+1)
theorem af7(mask:Nat)(hs:Array Int):layClean mask hs=(hs.toList.foldl (Lb mask) (some (Array.replicate (mask+1) none,0))).map (·.1):=by unfold layClean;rw[<-Array.foldl_toList];rfl
theorem yz{owner:Array (Option Nat)}{j:Nat}{v:Option Nat}(hj:j<owner.size)(i:Nat):(owner.setIfInBounds j v)[i]?=if i=j then some v else owner[i]?:=by
 rw[Array.getElem?_setIfInBounds];by_cases e:j=i
 .subst e;rw[if_pos rfl,if_pos hj,if_pos rfl]
 .rw[if_neg e,if_neg (Ne.symm e)]
theorem ag1{mask k0:Nat}(gM:mask+1=2^k0)(hs:List Int)(lX:hs.length<=mask):∀(aZ:List Int)(k:Nat) (owner:Array (Option Nat)),hs.drop k=aZ->k<=hs.length->Own mask hs owner k->
  ∃qT,aZ.foldl (Lb mask) (some (owner,k))=some (qT,hs.length)/\Own mask hs qT hs.length
 | [],k,owner,hd,hk,o=>by
  have:hs.length<=k:=by have:=congrArg List.length hd;rw[g9]at this;simp at this;lia
  have e:k=hs.length:=by lia
  subst e;exact⟨owner,rfl,o⟩
 | h::aZ,k,owner,hd,hk,o=>by
  have qC:k<hs.length:=by have:=congrArg List.length hd;rw[g9]at this;simp at this;lia
  have EF:hs[k]?=some h:=by
   have:(hs.drop k)[0]?=some h:=by rw[hd];rfl
   rw[gm]at this;simpa using this
  obtain⟨f,CK,hf⟩:=o.free (by lia);obtain⟨m,hm,em⟩:=avb gM (bits h % (mask+1),bits h) (KN h) f CK;have hb:bits h % (mask+1)<=mask:=by have:=Nat.mod_lt (bits h) (show 0<mask+1 by lia);lia
  obtain⟨j,n,e1,e2,e3,e4⟩:=afe gM o.size hf (turns mask) (bits h % (mask+1),bits h) hb (KN h) ⟨m,hm,em⟩;have ej:qx mask h n=j:=e2;have vG:j<owner.size:=by have:=(bp.mp e3).1;exact this
  have Ci:Lb mask (some (owner,k)) h=some (owner.setIfInBounds j (some k),k+1):=by show(layClean.free mask owner (turns mask) (bits h % (mask+1)) (bits h)).bind _=_;rw[e1];rfl
  have tk:∀i,Du owner i->Du (owner.setIfInBounds j (some k)) i:=λi ⟨q,hq⟩=>by
   by_cases e:i=j
   .exact⟨k,by rw[yz vG,if_pos e]⟩
   .exact⟨q,by rw[yz vG,if_neg e];exact hq⟩
  have o':Own mask hs (owner.setIfInBounds j (some k)) (k+1):=by
   refine⟨by rw[Array.size_setIfInBounds];exact o.size,λi q hq=>?_,λq hq=>?_,λi i' q hq iI=>?_⟩
   .rw[yz vG]at hq;by_cases e:i=j
    .rw[if_pos e]at hq;cases hq;exact⟨by lia,(qc h EF n ⟨by rw[ej,e],λn' fS=>tk _ (e4 n' fS)⟩)⟩
    .rw[if_neg e]at hq;obtain⟨a,h',b,n',c,d⟩:=o.o1 i q hq;exact⟨by lia,(qc h' b n' ⟨c,λn'' HN=>tk _ (d n'' HN)⟩)⟩
   .by_cases e:q=k
    .exact⟨j,by rw[yz vG,if_pos rfl,e]⟩
    .obtain⟨i,hi⟩:=o.o2 q (by lia);have:i≠j:=λe'=>by rw[e',e3]at hi;cases hi
     exact⟨i,by rw[yz vG,if_neg this];exact hi⟩
   .rw[yz vG]at hq iI;by_cases e:i=j<;>by_cases e':i'=j
    .rw[e,e']
    .rw[if_pos e]at hq;rw[if_neg e']at iI;cases hq;have:=(o.o1 i' k iI).1;lia
    .rw[if_neg e]at hq;rw[if_pos e']at iI;cases iI;have:=(o.o1 i k hq).1;lia
    .rw[if_neg e]at hq;rw[if_neg e']at iI;exact o.o3 i i' q hq iI
  rw[List.foldl_cons,Ci];refine ag1 gM hs lX aZ (k+1) _ ?_ (by lia) o';rw[<-List.drop_drop,hd];rfl
theorem acw{mask k0:Nat}(gM:mask+1=2^k0)(hs:Array Int)(lX:hs.size<=mask):∃owner,layClean mask hs=some owner/\Own mask hs.toList owner hs.size:=by
 rw[af7];obtain⟨o,e,ok⟩:=ag1 gM hs.toList (by rw[ax];exact lX) hs.toList 0 (Array.replicate (mask+1) none) rfl (f7 _) (by
  refine⟨by simp,λj q hq=>?_,λq hq=>by lia,λj j' q hq iI=>?_⟩
  .rw[Array.getElem?_replicate]at hq;split at hq<;>cases hq
  .rw[Array.getElem?_replicate]at hq;split at hq<;>cases hq)
 rw[e];exact⟨o,rfl,by rw[ax]at ok;exact ok⟩
theorem ve:∀(fuel k n:Nat),∃k',sizeAbove.go n fuel (2^k)=2^k'/\k<=k'/\k'<=k+fuel/\(n<2^(k+fuel)->n<2^k')/\(k'=k\/2^k'<=2*n)
 | 0,k,n=>⟨k,rfl,aq _,aq _,id,.inl rfl⟩
 | fuel+1,k,n=>by
  unfold sizeAbove.go;by_cases h:2^k<=n
  .rw[if_pos h,show 2^k*2=2^(k+1)from (lj ..).symm];obtain⟨k',a,b,c,d,e⟩:=ve fuel (k+1) n;refine⟨k',a,by lia,by lia,λq=>d (by rw[show k+1+fuel=k+(fuel+1) by lia];exact q),?_⟩;rcases e with e|e
   .rw[e,lj];lia
   .exact .inr e
  .rw[if_neg h];exact⟨k,rfl,aq _,by lia,λ_=>by lia,.inl rfl⟩
theorem t9(n:Nat)(hn:n<2^13):∃k,sizeAbove n=2^k/\3<=k/\k<=13/\n<2^k:=by
 obtain⟨k,a,b,c,d,e⟩:=ve 64 3 n;refine⟨k,a,b,?_,d (Nat.lt_trans hn (Nat.pow_lt_pow_right (by decide) (by decide)))⟩;rcases e with e|e
 .lia
 .apply gf;intro h;have:2^14<=2^k:=ii (by decide) (by lia);have e14:2^14=2*2^13:=by decide
  lia
theorem acq(n:Nat)(h8:8<=n)(hn:n<2^13){k:Nat}(e:sizeAbove n=2^k):k<=13/\n<2^k/\2^k<=2*n:=by
 obtain⟨k',a,b,c,d,e'⟩:=ve 64 3 n;obtain⟨k2,a2,_,b2,c2⟩:=t9 n hn;have e1:k=k2:=(Nat.pow_right_inj (by decide)).mp (e.symm.trans a2);have e2:k2=k':=(Nat.pow_right_inj (by decide)).mp (a2.symm.trans a);subst e1;refine⟨b2,c2,?_⟩;rcases e' with e'|e'
 .rw[e2,e'];lia
 .rw[e2];exact e'
theorem aok{m n k k':Nat}(hk:m+1=2^k)(k3:3<=k)(uP:k<=13)(ko:k % 2=1)(h1:m*3<=n*5)(h2:(n-1)*5<m*3)(h4:n<=4000)(h13:k'<=13)(l1:n*4<2^k')(l2:2^k'<=2*(n*4)):k' % 2=1:=by
 have p3:2^3<=2^k:=ii (by decide) k3;have a:¬k'<=k+1:=λh=>by have h:=ii (show 0<2 by decide) h;rw[lj]at h;lia
 have b:¬k+3<=k':=λh=>by have h:=ii (show 0<2 by decide) h;rw[Nat.pow_add]at h;lia
 lia
theorem aie{m n k:Nat}(hk:m+1=2^k)(k3:3<=k)(uP:k<=13)(ko:k % 2=1)(h1:m*3<=n*5)(h2:(n-1)*5<m*3)(h4:n<=4000):n*4<2^13/\2<=n:=by
 have p3:2^3<=2^k:=ii (by decide) k3;have a:k≠13:=λh=>by subst h;lia
 have h:=ii (show 0<2 by decide) (show k<=11 by lia);lia
theorem xy{α β:Type}{f:α->Option β}{g:α->β}:∀(l:List α),(∀x∈l,f x=some (g x))->l.filterMap f=l.map g
 | [],_=>rfl
 | a::l,h=>by rw[List.filterMap_cons,h a aw,cy,xy l λx hx=>h x (a8 _ hx)]
theorem af9{t:SetTable}{es:Array (Int×aA)}{bX:Nat}(hw:es.size*4<=bX)(Ev:bX<2^13)(yP:∀k,sizeAbove bX=2^k->k % 2=1)(hpos:0<es.size) :
  ∃t' fY,t.relaid (es.map (·.1)) bX=some (t',fY)/\TOk t' (fY.filterMap (es[·]?))/\(fY.filterMap (es[·]?)).toList.Perm es.toList/\t'.place.size*5<t'.mask*3/\t'.led=t.led:=by
 obtain⟨k,ek,k3,uP,hn⟩:=t9 bX Ev;have ko:=yP k ek;have rR:sizeAbove bX-1+1=2^k:=by rw[ek];have:=Nat.two_pow_pos k;lia
 have lX:(es.map (·.1)).size<=sizeAbove bX-1:=by rw[Array.size_map,ek];lia
 obtain⟨owner,eo,ok⟩:=acw rR (es.map (·.1)) lX;rw[Array.size_map]at ok;generalize hm:sizeAbove bX-1=mask at *
 let live:=(cb (mask+1)).filterMap λj=>(owner.getD j none).map λq=>(j,q)
 have hU:∀j q,(j,q)∈live↔owner[j]?=some (some q):=λj q=>by
  show(j,q)∈(cb (mask+1)).filterMap _↔_;rw[List.mem_filterMap];constructor
  .rintro⟨a,ha,e⟩;have hs:a<owner.size:=by rw[ok.size];exact fh.mp ha
   simp only[Array.getD,dif_pos hs]at e;cases hv:owner[a]with
   | none=>
    have e':(owner[a]).map (λq=>(a,q))=some (j,q):=e;rw[hv]at e';cases e'
   | some v=>
    have e':(owner[a]).map (λq=>(a,q))=some (j,q):=e;rw[hv]at e';cases e';rw[ce hs,hv]
  .intro h;obtain⟨hs,hv⟩:=bp.mp h;refine⟨j,fh.mpr (by rw[<-ok.size];exact hs),?_⟩;simp only[Array.getD,dif_pos hs];show(owner[j]).map (λq=>(j,q))=some (j,q);rw[hv];rfl
 have rF:(live.map (·.1)).Pairwise (· < ·):=by rw[gl];show((cb (mask+1)).filterMap _).Pairwise _;rw[List.pairwise_filterMap];refine List.Pairwise.imp ?_ (List.pairwise_lt_range (n:=mask+1));intro a b jX x hx y hy;obtain⟨q,_,rfl⟩:=br.mp hx;obtain⟨q',_,rfl⟩:=br.mp hy;exact jX
 have kE:(live.map (·.2)).Nodup:=by
  show List.Pairwise _ _;rw[gl];have h1:live.Pairwise λa b=>a.1<b.1:=by rw[gl]at rF;exact rF
  refine i8 ?_ h1;intro a b ha hb jX e;have:=ok.o3 a.1 b.1 a.2 ((hU _ _).mp ha) (by rw[e];exact(hU _ _).mp hb);lia
 have jU:(live.map (·.2)).Perm (cb es.size):=by
  rw[List.perm_ext_iff_of_nodup kE List.nodup_range];intro q;rw[bf,fh];constructor
  .rintro⟨⟨j,q'⟩,h,rfl⟩;exact(ok.o1 j q' ((hU _ _).mp h)).1
  .intro h;obtain⟨j,hj⟩:=ok.o2 q h;exact⟨(j,q),(hU _ _).mpr hj,rfl⟩
 have bD:live.length=es.size:=by have:=jU.length_eq;rw[ah,f8]at this;exact this
 have CK:((live.map (·.2)).toArray.filterMap (es[·]?)).toList=live.map λx=>es[x.2]?.getD (0,.none):=by
  rw[Array.toList_filterMap];show List.filterMap _ (live.map (·.2))=_;rw[List.filterMap_map];have:∀x∈live,es[x.2]?=some (es[x.2]?.getD (0,.none)):=λx hx=>by have cN:=(ok.o1 x.1 x.2 ((hU x.1 x.2).mp hx)).1;rw[ce cN];rfl
  exact xy live this
 have Ip:(live.map λx=>es[x.2]?.getD (0,.none)).Perm es.toList:=by
  have h1:=jU.map λq=>es[q]?.getD (0,.none);rw[cq]at h1;have h2:(cb es.size).map (λq=>es[q]?.getD (0,.none))=es.toList:=by
   apply List.ext_getElem
   .simp
   .intro i a b;simp;rw[ce (by simpa using b)];rfl
  rw[h2]at h1;exact h1
 refine(nq ⟨mask,(live.map (·.1)).toArray,#[],t.finger,t.led,t.movedTo mask,t.plain⟩ ((live.map (·.2)).toArray) ⟨?_,?_,?_,?_,rfl⟩)
 .unfold SetTable.relaid SetTable.laid;rw[hm,eo];rfl
 .refine⟨⟨k,rR,k3,uP,ko⟩,rfl,by simpa using rF,?_,?_,?_,?_⟩
  .intro j hj;have iU:j∈live.map (·.1):=by simpa using hj
   obtain⟨⟨j',q⟩,h,rfl⟩:=bf.mp iU;have:=(bp.mp ((hU _ _).mp h)).1;rw[ok.size]at this;show j'<=mask;lia
  .rw[<-ax (xs:=Array.filterMap _ _),CK];simp
  .show(live.map (·.1)).toArray.size<=mask;simp;rw[Array.size_map]at lX;lia
  .intro j e hs;rw[CK]at hs;obtain⟨i,h1,h2⟩:=hs;have fT:(live.map (·.1))[i]?=some j:=by simpa using h1
   rw[au]at fT h2;cases hl:live[i]? with
   | none=>rw[hl]at fT;cases fT
   | some x=>
    rw[hl]at fT h2;obtain⟨j',q⟩:=x;cases fT;obtain⟨hq,h,a,n,b,c⟩:=ok.o1 j' q ((hU _ _).mp (ak hl));have e2:es[q]?.getD (0,.none)=e:=by cases h2;rfl
    have e3:e.1=h:=by
     rw[<-e2,ce hq];have a':(es.map (·.1))[q]?=some h:=by rw[<-bm];exact a
     rw[Array.getElem?_map,ce hq]at a';simpa using a'
    rw[e3];refine⟨n,b,λn' fS=>?_⟩;obtain⟨q',iI⟩:=c n' fS;have:qx mask h n'∈live.map (·.1):=bf.mpr ⟨(qx mask h n',q'),(hU _ _).mpr iI,rfl⟩;simpa using this
 .rw[CK];exact Ip
 .show(live.map (·.1)).toArray.size*5<mask*3;simp;rw[bD];lia
end L3
namespace L3
open PySem
variable{Pv:aA->PyData->Prop}
mutual
noncomputable def kd:PyData->Bool
 | .int _=>true
 | .str _=>true
 | .tuple ds=>tz ds
 | .none=>false
 | .bool _=>false
 | .list _=>false
 | .dict _=>false
noncomputable def tz:List PyData->Bool
 | []=>true
 | d::ds=>kd d&&tz ds
end
mutual
noncomputable def wk(w:aK):PyData->Int
 | .int i=>hashInt i
 | .str x=>eE w x
 | .tuple ds=>jA (gh (qq w ds))
 | .none=>0
 | .bool _=>0
 | .list _=>0
 | .dict _=>0
noncomputable def qq(w:aK):List PyData->List Int
 | []=>[]
 | d::ds=>wk w d::qq w ds
end
def FA(d:PyData):Prop:=∀(prog:aI)(w:aK)(A:Around)(E:aA->aB->Prop)(s:aB)(v:aA)(as:List aE)(Q:Int->aB->Prop),Reads s.heap v d as->A.units+d.depth<aX->(∀tk,s.toks<=tk->Q (wk w d) {s with toks:=tk})->aG (aH prog w) A (pyHash v) Q E s
theorem ajg{ds:List PyData}(H:∀d∈ds,FA d):FA (.tuple ds):=λprog w A E s v as Q r hu h=>by
 cases r with
 | @tuple a o vs n _ _ ho hc hd hi=>
 have hT:s.TypeIs (.ref a) "tuple":=⟨o,ho,hc⟩;have Ce:A.units+(bv ds+1)<aX:=hu;unfold pyHash;first|unfold GK|skip
 first|refine aa (Bz (.inr (show A.units<aX by lia)) ?_)|skip
 refine aa (lg (name:="__hash__") hT jf.lookup ?_);show aG _ _ (if (some (aA.builtin "tuple.__hash__")==some aA.none)=true then _ else _) _ _ _;rw[if_neg (show ¬_ by rw[EZ];exact ai)];refine aa (lg (name:="__hash__") hT jf.lookup ?_);show aG _ _ (lM (.ref a) "__hash__" _ >>= _) _ _ _;refine aa (gF (name:="__hash__") hT jf (ck (name:="__hash__") jf hT F.entry_tuple_hash ?_ (F.args_tuple_hash_1 _)));show aG _ _ (Builtin.Tuple.tupleItemsOf (.ref a) >>= _) _ _ _;refine aa (Ag (n:=n) ho hd ?_);refine aa ?_;rw[<-Array.forIn_toList];refine l7 _
  (λaZ (b:Array Int) s'=>∃done left bs tk,ds=done++left/\ReadsAll s.heap aZ left bs/\b.toList=qq w done/\s'={s with toks:=tk}/\s.toks<=tk)
  _ (λx aZ b s' hI=>?_) (λb s' hI=>?_) _ _ (nw ([]) ds as s.toks ⟨rfl,hi,rfl,rfl,aq _⟩)
 .obtain⟨done,left,bs,tk,e,hl,hb,rfl,hk⟩:=hI;cases hl with
  | @cons _ _ d cR _ _ h1 vF=>
   have eP:d∈ds:=by rw[e];simp
   have Iy:∀(l:List PyData),d∈l->d.depth<=bv l:=λl=>by
    induction l with
    | nil=>intro q;cases q
    | cons y l ih=>
     intro q;show _<=max y.depth (bv l);rcases bb.mp q with rfl|q
     .exact Nat.le_max_left _ _
     .exact dv (ih q) (Nat.le_max_right _ _)
   have mX:=Iy ds eP;refine aa (H d eP prog w _ E {s with toks:=tk} x _ _ h1 (by show A.units+1+d.depth<aX;lia) λEd dU=>?_);have oB:∀(l:List PyData),qq w (l++[d])=qq w l++[wk w d]:=λl=>by
    induction l with
    | nil=>rfl
    | cons y l ih=>show wk w y::qq w (l++[d])=_;rw[ih];rfl
   first
    | exact af (nw (done++[d]) cR _ Ed ⟨by simp[e],vF,by simp[hb,oB],rfl,dv hk dU⟩)
    | exact aa (af (af ⟨done++[d],cR,_,Ed,by simp[e],vF,by simp[hb,oB],rfl,dv hk dU⟩))
 .obtain⟨done,left,bs,tk,e,hl,hb,rfl,hk⟩:=hI;cases hl;rw[dg]at e;subst e;show aG _ _ (retInt (gh b.toList)) _ _ _;rw[hb];refine Gi ?_;show aG _ _ (if (decide (-(2:Int)^63<=gh (qq w ds))&&decide (gh (qq w ds)<2^63))=true then _ else _) _ _ _;have h':∀tk,s.toks<=tk->Q (jA (gh (qq w ds))) {s with toks:=tk}:=h;unfold jA at h';split
  .rename_i hr
   rw[if_pos hr]at h';exact af (h' _ (by simp only;lia))
  .rename_i hr
   rw[if_neg hr]at h';exact aa (k8 (af (h' _ (by simp only;lia))))
mutual
theorem ab3:∀(d:PyData),kd d=true->FA d
 | .int i,_=>λprog w A E s v as Q r hu h=>by
  cases r with
  | int=>exact kN (h _ (by lia))
 | .str x,_=>λprog w A E s v as Q r hu h=>by
  cases r with
  | str=>exact kL (h _ (by lia))
 | .tuple ds,hk=>ajg (w6 ds hk)
 | .none,hk=>absurd hk ai
 | .bool _,hk=>absurd hk ai
 | .list _,hk=>absurd hk ai
 | .dict _,hk=>absurd hk ai
theorem w6:∀(ds:List PyData),tz ds=true->∀d∈ds,FA d
 | [],_,d,hd=>by cases hd
 | e::ds,hk,d,hd=>by
  have dU:(kd e&&tz ds)=true:=hk;rw[dz]at dU;rcases bb.mp hd with h|hd
  .rw[h];exact ab3 e dU.1
  .exact w6 ds dU.2 d hd
end
mutual
theorem Fs:∀(d e:PyData),kd d=true->kd e=true->bw d e=true->d=e
 | .int i,e,_,he,h=>by cases e<;>simp[bw,kd]at h he⊢;exact h
 | .str x,e,_,he,h=>by cases e<;>simp[bw,kd]at h he⊢;exact h
 | .tuple ds,e,hd,he,h=>by
  cases e with
  | tuple es=>
   have:=aeo ds es hd he (by simpa [bw]using h);rw[this]
  | _=>simp[bw,kd]at h he
 | .none,_,hd,_,_=>absurd hd ai
 | .bool _,_,hd,_,_=>absurd hd ai
 | .list _,_,hd,_,_=>absurd hd ai
 | .dict _,_,hd,_,_=>absurd hd ai
theorem aeo:∀(ds es:List PyData),tz ds=true->tz es=true->c9 ds es=true->ds=es
 | [],[],_,_,_=>rfl
 | [],_::_,_,_,h=>by simp[c9]at h
 | _::_,[],_,_,h=>by simp[c9]at h
 | d::ds,e::es,hd,he,h=>by
  have pL:(kd d&&tz ds)=true:=hd;have iJ:(kd e&&tz es)=true:=he;rw[dz]at pL iJ;have h':bw d e=true/\c9 ds es=true:=by simpa [c9]using h
  rw[Fs d e pL.1 iJ.1 h'.1,aeo ds es pL.2 iJ.2 h'.2]
end
theorem r9{h:Heap}:∀{vs:List aA} {ds:List PyData} {as:List aE},ReadsAll h vs ds as->∀v∈vs,∃d bs,d∈ds/\Reads h v d bs
 | _,_,_,.nil,v,hv=>by cases hv
 | _,_,_,.cons h1 h2,v,hv=>by
  rcases bb.mp hv with e|hv
  .rw[e];exact(nq _ _ ⟨aw,h1⟩)
  .obtain⟨d,bs,q1,q2⟩:=r9 h2 v hv;exact(nq d bs ⟨a8 _ q1,q2⟩)
theorem FK:∀{ds:List PyData},tz ds=true->∀d∈ds,kd d=true
 | [],_,d,hd=>by cases hd
 | e::ds,hk,d,hd=>by
  have dU:(kd e&&tz ds)=true:=hk;rw[dz]at dU;rcases bb.mp hd with h|hd
  .rw[h];exact dU.1
  .exact FK dU.2 d hd
theorem FV:∀{ds:List PyData},∀d∈ds,d.depth<=bv ds
 | [],d,hd=>by cases hd
 | e::ds,d,hd=>by
  show _<=max e.depth (bv ds);rcases bb.mp hd with h|hd
  .rw[h];exact Nat.le_max_left _ _
  .exact dv (FV d hd) (Nat.le_max_right _ _)
section
variable{prog:aI}{w:aK}{A:Around}{E:aA->aB->Prop}{s:aB}
theorem wv(n:Nat):∀{v:aA} {d:PyData} {as:List aE} {Q:Bool->aB->Prop},kd d=true->Reads s.heap v d as->d.depth<n->Q true s->aG (aH prog w) A (eqIsQuiet n v) Q E s:=by
 induction n with
 | zero=>intro v d as Q hk r hn q;exact absurd hn (Nat.not_lt_zero _)
 | succ n ih=>
  intro v d as Q hk r hn q;cases d with
  | int i=>cases r with|int=>rw[Dg _ rfl];exact af q
  | str x=>cases r with|str=>rw[Dg _ rfl];exact af q
  | tuple ds=>
    cases r with
    | @tuple a o vs m _ _ ho hc hd hi=>
    have hT:s.TypeIs (.ref a) "tuple":=⟨o,ho,hc⟩;have fS:bv ds+1<n+1:=hn;unfold eqIsQuiet;refine aa (lg (name:="__eq__") hT F.slot_tuple_eq.lookup ?_);show aG _ _ (isInstance (.ref a) (.type "tuple") >>= _) _ _ _;refine aa (lv (T:="tuple") hT isSubtype_tuple_tuple ?_);simp only[ir,bi,if_false];refine aa (ju (n:=m) ho hd ?_);refine aa ?_;show aG _ _ (xD vs _ _) _ _ _;rw[<-Array.forIn_toList];refine l7 _ (λaZ r s'=>r.1=none/\s'=s/\∀v∈aZ,v∈vs.toList) _ (λv aZ r s' hI=>?_) (λr s' hI=>?_) _ _ ⟨rfl,rfl,λv hv=>hv⟩
    .obtain⟨hr,es,cQ⟩:=hI;rw[es];obtain⟨d,bs,mX,hZ⟩:=r9 hi v (cQ v aw);refine aa (ih (FK hk d mX) hZ (by have:=FV d mX;lia) ?_);simp only[ir,bi,if_false];exact af ⟨rfl,rfl,λu hu=>cQ u (a8 _ hu)⟩
    .obtain⟨r1,r2⟩:=r;obtain⟨hr,rfl,_⟩:=hI;simp only at hr;subst hr;exact af q
  | none=>exact absurd hk ai
  | bool _=>exact absurd hk ai
  | list _=>exact absurd hk ai
  | dict _=>exact absurd hk ai
theorem aa1(n:Nat):∀{v:aA} {d:PyData} {as:List aE} {Q:Bool->aB->Prop},kd d=true->Reads s.heap v d as->d.depth<n->Q false s->aG (aH prog w) A (eV n v) Q E s:=by
 induction n with
 | zero=>intro v d as Q hk r hn q;exact absurd hn (Nat.not_lt_zero _)
 | succ n ih=>
  intro v d as Q hk r hn q;cases d with
  | int i=>cases r with|int=>unfold eV;exact af q
  | str x=>cases r with|str=>unfold eV;exact af q
  | tuple ds=>
    cases r with
    | @tuple a o vs m _ _ ho hc hd hi=>
    have hT:s.TypeIs (.ref a) "tuple":=⟨o,ho,hc⟩;have fS:bv ds+1<n+1:=hn;unfold eV;refine aa (eB (T:="tuple") hT ?_);dsimp only;rw[if_pos (by decide)];refine aa (af ?_);simp only[ir,bi,if_false];refine aa (ju (n:=m) ho hd ?_);dsimp only;refine aa ?_;rw[<-Array.forIn_toList];refine l7 _ (λaZ r s'=>r.1=none/\s'=s/\∀v∈aZ,v∈vs.toList) _ (λv aZ r s' hI=>?_) (λr s' hI=>?_) _ _ ⟨rfl,rfl,λv hv=>hv⟩
    .obtain⟨hr,es,cQ⟩:=hI;rw[es];obtain⟨d,bs,mX,hZ⟩:=r9 hi v (cQ v aw);refine aa (ih (FK hk d mX) hZ (by have:=FV d mX;lia) ?_);simp only[bi,if_false];exact af ⟨rfl,rfl,λu hu=>cQ u (a8 _ hu)⟩
    .obtain⟨r1,r2⟩:=r;obtain⟨hr,rfl,_⟩:=hI;simp only at hr;subst hr;exact af q
  | none=>exact absurd hk ai
  | bool _=>exact absurd hk ai
  | list _=>exact absurd hk ai
  | dict _=>exact absurd hk ai
theorem aak:∀(n:Nat) {v:aA} {d:PyData} {as:List aE} {Q:Bool->aB->Prop},kd d=true->Reads s.heap v d as->(∀b,Q b s)->aG (aH prog w) A (iA n v) Q E s
 | n,v,.int i,as,Q,hk,r,q=>by cases r with|int=>unfold iA;exact af (q _)
 | n,v,.str x,as,Q,hk,r,q=>by cases r with|str=>unfold iA;exact af (q _)
 | 0,v,.tuple ds,as,Q,hk,r,q=>by cases r with|tuple=>unfold iA;exact af (q _)
 | n+1,v,.tuple ds,as,Q,hk,r,q=>by
  cases r with
  | @tuple a o vs m _ _ ho hc hd hi=>
  have hT:s.TypeIs (.ref a) "tuple":=⟨o,ho,hc⟩;unfold iA;refine aa (lg (name:="__hash__") hT jf.lookup ?_);dsimp only;refine aa (ju (n:=m) ho hd ?_);refine aa ?_;show aG _ _ (xD vs _ _) _ _ _;rw[<-Array.forIn_toList];refine l7 _ (λaZ r s'=>r.1=none/\s'=s/\∀v∈aZ,v∈vs.toList) _ (λv aZ r s' hI=>?_) (λr s' hI=>?_) _ _ ⟨rfl,rfl,λv hv=>hv⟩
  .obtain⟨hr,es,cQ⟩:=hI;rw[es];obtain⟨d,bs,mX,hZ⟩:=r9 hi v (cQ v aw);refine aa (aak n (FK hk d mX) hZ λb=>?_);cases b with
   | true=>
    simp only[ir,bi,if_false];exact af ⟨rfl,rfl,λu hu=>cQ u (a8 _ hu)⟩
   | false=>
    simp only[Bool.not_false,if_true];exact af (af (q _))
  .obtain⟨r1,r2⟩:=r;obtain⟨hr,rfl,_⟩:=hI;simp only at hr;subst hr;exact af (q _)
 | _,_,.none,_,_,hk,_,_=>absurd hk ai
 | _,_,.bool _,_,_,hk,_,_=>absurd hk ai
 | _,_,.list _,_,_,hk,_,_=>absurd hk ai
 | _,_,.dict _,_,_,hk,_,_=>absurd hk ai
structure El(Pv:aA->PyData->Prop)(w:aK)(h:Heap)(e:Int×aA)(d:PyData):Prop where
 own:Pv e.2 d
 hash:e.1=wk w d
 key:kd d=true
 tup:∃ds,d=.tuple ds
 lay:d.canLay0=true
 deep:d.depth<8
 reads:∃as,Reads h e.2 d as
theorem El.ref{w:aK}{h:Heap}{e:Int×aA}{d:PyData}(x:El Pv w h e d):∃a,e.2=.ref a:=by
 obtain⟨ds,rfl⟩:=x.tup;obtain⟨as,r⟩:=x.reads;generalize e.2=v at r;cases r with
 | tuple=>exact⟨_,rfl⟩
theorem El.eq{h:Heap}{A:Around}{e e':Int×aA}{d d':PyData}(hs:s.heap=h)(x:El Pv w h e d)(y:El Pv w h e' d')(hu:A.units+8<aX){Q:Bool->aB->Prop}(q:∀b:Bool,(b=true↔d=d')->Q b s):aG (aH prog w) A (eqBool e.2 e'.2) Q E s:=by subst hs;obtain⟨as,r⟩:=x.reads;obtain⟨bs,r'⟩:=y.reads;refine SeqAt.eqBoolOverData prog w A E s _ _ d d' as bs Q r r' x.lay y.lay (by have:=x.deep;have:=Nat.min_le_left d.depth d'.depth;lia) ?_;refine q _ ⟨λz=>Fs d d' x.key y.key z,λz=>?_⟩;rw[<-z];exact SeqAt.eqv_refl _ x.lay
theorem aqm{x:Int×aA}{d:PyData}(hx:El Pv w s.heap x d):∀(ys:List aA) {Q:Bool->aB->Prop},(∀y∈ys,∃h e,El Pv w s.heap (h,y) e)->Q false s->aG (aH prog w) A (BF x.2 ys) Q E s:=by
 intro ys Q hy q;unfold BF;refine aa ?_;refine l7 _ (λaZ r s'=>r.1=none/\s'=s/\∀v∈aZ,v∈ys) _ (λv aZ r s' hI=>?_) (λr s' hI=>?_) _ _ ⟨rfl,rfl,λv hv=>hv⟩
 .obtain⟨hr,rfl,cQ⟩:=hI;obtain⟨h,e,hE⟩:=hy v (cQ v aw);obtain⟨a,ea⟩:=hx.ref;obtain⟨b,eb⟩:=hE.ref;obtain⟨as,r1⟩:=hx.reads;obtain⟨bs,r2⟩:=hE.reads;have nxt:∀u∈aZ,u∈ys:=λu hu=>cQ u (a8 _ hu);simp only at eb r2;have stay:aG (aH prog w) A (aS (ForInStep.yield ((none:Option Bool),())):pR (ForInStep (Option Bool×Unit))) (λr BJ=>match r with
   | ForInStep.yield b'=>b'.fst=none/\BJ=s'/\∀(v:aA),v∈aZ->v∈ys
   | ForInStep.done b'=>aG (aH prog w) A (match b'.fst with|some r=>aS r|none=>aS false) Q E BJ) E s':=af ⟨rfl,rfl,nxt⟩
  subst eb;rw[ea]at r1⊢;dsimp only;split
  .exact stay
  .refine aa (wv 8 hx.key r1 hx.deep ?_);simp only[ir,bi,if_false];refine aa (wv 8 hE.key r2 hE.deep ?_);simp only[ir,bi,if_false];refine aa (aa1 8 hx.key r1 hx.deep ?_);simp only[bi,if_false];refine aa (aa1 8 hE.key r2 hE.deep ?_);simp only[bi,if_false];exact stay
 .obtain⟨r1,r2⟩:=r;obtain⟨hr,rfl,_⟩:=hI;simp only at hr;subst hr;exact af q
def Els(Pv:aA->PyData->Prop)(w:aK)(h:Heap)(es:List (Int×aA))(ds:List PyData):Prop:=es.length=ds.length/\∀(i:Nat) e d,es[i]?=some e->ds[i]?=some d->El Pv w h e d
theorem Els.at{h:Heap}{es:List (Int×aA)}{ds:List PyData}(x:Els Pv w h es ds){i:Nat}{e:Int×aA}(he:es[i]?=some e):∃d,ds[i]?=some d/\El Pv w h e d:=by have hl:=(ae.mp he).1;have hd:ds[i]?=some (ds[i]'(by rw[<-x.1];exact hl)):=ab _;exact⟨_,hd,x.2 i e _ he hd⟩
theorem aml{t:SetTable}{es:Array (Int×aA)}(ok:TOk t es){f:Nat->Int}{h:Int}{p:SetTable.Probe}(st:vV t.mask p) :
  ∃met,t.probe f h p=some met/\((∃n,met=.empty (itn (adv t.mask) n p).j p.dummy/\(itn (adv t.mask) n p).j∉t.place.toList/\∀n',n'<n->∃i:Nat,t.place[i]?=some (itn (adv t.mask) n' p).j/\f i≠h)\/
  (∃n i,met=.candidate (itn (adv t.mask) n p).j i (itn (adv t.mask) (n+1) p)/\t.place[i]?=some (itn (adv t.mask) n p).j/\f i=h/\∀n',n'<n->∃i':Nat,t.place[i']?=some (itn (adv t.mask) n' p).j/\f i'≠h)):=by
 rcases ai2 ok f h st with ⟨n,e,r⟩|⟨n,i,e,r⟩
 .exact⟨_,e,.inl ⟨n,rfl,r⟩⟩
 .exact⟨_,e,.inr (nq n i ⟨rfl,r⟩)⟩
theorem adw(mask:Nat):∀(n:Nat)(p:SetTable.Probe),(itn (adv mask) n p).dummy=p.dummy
 | 0,_=>rfl
 | n+1,p=>by show(itn (adv mask) n (adv mask p)).dummy=_;rw[adw mask n];unfold adv;split<;>rfl
theorem abx{a:aE}{o:Obj}{es:Array (Int×aA)}{ep:Nat}{t:SetTable}{ds:List PyData}{x:Int×aA}{d:PyData}{Q:SetFound->aB->Prop}
  (ho:s.heap.get? a=some o) (hd:o.data=.set es ep t) (ok:TOk t es) (els:Els Pv w s.heap es.toList ds) (hx:El Pv w s.heap x d) (hu:A.units+8<aX)
  (q1:d∈ds->Q (.there none) s) (q2:∀n,d∉ds->qx t.mask x.1 n∉t.place.toList->(∀n',n'<n->qx t.mask x.1 n'∈t.place.toList)->Q (.free (qx t.mask x.1 n) false) s) :
  ∀(fuel m N:Nat)(nM:Option SetTable.Probe),nM.getD (st0 t.mask x.1)=itn (adv t.mask) m (st0 t.mask x.1)->qx t.mask x.1 N∉t.place.toList->N<m+fuel->
   (∀n',n'<m->∃i:Nat,t.place[i]?=some (qx t.mask x.1 n')/\ds[i]?≠some d)->aG (aH prog w) A (pV a x.2 x.1 true fuel nM) Q E s
 | 0,m,N,nM,hst,hN,hf,hm=>by exfalso;obtain⟨i,h1,h2⟩:=hm N (by lia);exact hN (by rw[<-bm]at h1;exact ak h1)
 | fuel+1,m,N,nM,hst,hN,hf,hm=>by
  unfold pV;refine aa (ie ho hd ok.fits ?_);dsimp only;rw[ok.noway];simp only[bi,if_false];rw[am5,hst];have yJ:vV t.mask (itn (adv t.mask) m (st0 t.mask x.1)):=LF m (xu _ _);have nQ:∀n,(itn (adv t.mask) n (itn (adv t.mask) m (st0 t.mask x.1))).j=qx t.mask x.1 (m+n):=λn=>by unfold qx;rw[tq]
  have inj:∀{i i' j:Nat},t.place[i]?=some j->t.place[i']?=some j->i=i':=λ{i i' j} h1 h2=>by rw[<-Lh ok.rise h1,Lh ok.rise h2]
  have xE:∀{i j:Nat},t.place[i]?=some j->∃e di,es[i]?=some e/\ds[i]?=some di/\El Pv w s.heap e di:=λ{i j} h1=>by have hl:=(bp.mp h1).1;have he:es[i]?=some (es[i]'(by rw[<-ok.sz];exact hl)):=ce _;obtain⟨di,h2,h3⟩:=els.at (by rw[bm];exact he);exact(nq _ di ⟨he,h2,h3⟩)
  obtain⟨met,hp,HQ⟩:=aml ok (f:=_) (h:=x.1) yJ;rw[hp];have Dn:∀{n i:Nat},t.place[i]?=some (itn (adv t.mask) n (itn (adv t.mask) m (st0 t.mask x.1))).j->(es[i]?.map (·.1)).getD 0≠x.1->ds[i]?≠some d:=λ{n i} h1 h2 h3=>by obtain⟨e,di,g1,g2,g3⟩:=xE h1;rw[g2]at h3;cases h3;apply h2;rw[g1];show e.1=x.1;rw[g3.hash,hx.hash]
  rcases HQ with ⟨n,rfl,bW,zC⟩|⟨n,i,rfl,hpl,hfi,zC⟩
  .have C3:∀n',n'<n->∃i:Nat,t.place[i]?=some (itn (adv t.mask) n' (itn (adv t.mask) m (st0 t.mask x.1))).j/\ds[i]?≠some d:=λn' fS=>by
    obtain⟨i',h1,h2⟩:=zC n' fS;exact⟨i',h1,Dn h1 h2⟩
   dsimp only;rw[adw];show aG _ _ (aS _) _ _ _;rw[nQ]at bW⊢;have sQ:∀n',n'<m+n->∃i:Nat,t.place[i]?=some (qx t.mask x.1 n')/\ds[i]?≠some d:=λn' fS=>by
    by_cases hq:n'<m
    .exact hm n' hq
    .obtain⟨i',h1,h2⟩:=C3 (n'-m) (by lia);rw[nQ,show m+(n'-m)=n' by lia]at h1;exact⟨i',h1,h2⟩
   refine af (q2 (m+n) (λtR=>?_) bW λn' fS=>?_)
   .obtain⟨k,hk⟩:=db tR;have qC:=(ae.mp hk).1;have hke:es.toList[k]?=some (es.toList[k]'(by rw[els.1];exact qC)):=ab _;have pJ:=els.2 k _ d hke hk;have tQ:t.place[k]?=some (t.place[k]'(by rw[ok.sz,<-ax,els.1];exact qC)):=ce _;obtain⟨n',fS,hr⟩:=ok.ahead (j:=t.place[k]'(by rw[ok.sz,<-ax,els.1];exact qC)) (e:=es.toList[k]'(by rw[els.1];exact qC)) ⟨k,by rw[bm];exact tQ,hke⟩ (n:=m+n) (by rw[pJ.hash,<-hx.hash];exact bW);rw[pJ.hash,<-hx.hash]at hr;obtain⟨i',g1,g2⟩:=sQ n' fS;rw[hr]at g1;have e:=inj tQ g1;rw[<-e]at g2;exact g2 hk
   .obtain⟨i',g1,_⟩:=sQ n' fS;rw[<-bm]at g1;exact ak g1
  .obtain⟨e,di,g1,g2,g3⟩:=xE hpl;obtain⟨eh,y⟩:=e;obtain⟨ya,ey⟩:=g3.ref;have ey':y=.ref ya:=ey;subst ey';dsimp only;have fin:aG (aH prog w) A (pV a x.2 x.1 true fuel (some (itn (adv t.mask) (n+1) (itn (adv t.mask) m (st0 t.mask x.1))))) Q E s\/di=d:=by
    by_cases hq:di=d
    .exact .inr hq
    .refine .inl (abx ho hd ok els hx hu q1 q2 fuel (m+n+1) N _ ?_ hN (by lia) λn' fS=>?_)
     .show itn (adv t.mask) (n+1) (itn (adv t.mask) m (st0 t.mask x.1))=_;rw[<-tq];rfl
     .by_cases Cq:n'<m
      .exact hm n' Cq
      .by_cases oZ:n'-m<n
       .obtain⟨i',h1,h2⟩:=zC (n'-m) oZ;have h3:=Dn h1 h2;rw[nQ,show m+(n'-m)=n' by lia]at h1;exact⟨i',h1,h3⟩
       .rw[nQ,show m+n=n' by lia]at hpl;exact⟨i,hpl,by rw[g2];intro z;cases z;exact hq rfl⟩
   have Dm:∀(b:Bool),(b=true↔di=d)->(b=true->aG (aH prog w) A (aS (SetFound.there none)) Q E s):=λb hb hbt=>af (q1 (by
    rw[<-hb.mp hbt];exact ak g2))
   rw[g1];dsimp only;have sm:t.sameMemory t.moves t.mask=some true:=by unfold SetTable.sameMemory;simp
   cases cP:t.led with
   | true=>
    simp only[ir,bi,if_false];refine aa (gk (El.eq rfl g3 hx hu λb hb=>?_));refine aa (ie ho hd ok.fits ?_);cases b with
    | true=>
     simp only[Bool.and_self,if_true];exact Dm true hb rfl
    | false=>
     simp only[Bool.and_false,bi,if_false];rw[sm];dsimp only;rw[if_pos rfl,LA ok.rise hpl];dsimp only;rw[g1];dsimp only;refine aa (uG ?_);refine aa (af ?_);simp only[if_true,bi,if_false];rcases fin with f|f
     .exact f
     .exact absurd (hb.mpr f) (by simp)
   | false=>
    simp only[Bool.not_false,if_true];refine aa (aqm hx _ (λy hy=>?_) ?_)
    .obtain⟨e,he,rfl⟩:=bf.mp hy;have iJ:e∈es.toList:=by
      rw[Array.toList_filter]at he;exact(io.mp he).1
     obtain⟨k,hk⟩:=db iJ;obtain⟨dk,_,hE⟩:=els.at hk;exact(nq e.1 dk hE)
    simp only[bi,if_false];refine aa (gk (El.eq rfl g3 hx hu λb hb=>?_));refine aa (ie ho hd ok.fits ?_);cases b with
    | true=>
     simp only[Bool.and_self,if_true];exact Dm true hb rfl
    | false=>
     simp only[Bool.and_false,bi,if_false];rw[sm];dsimp only;rw[if_pos rfl,LA ok.rise hpl];dsimp only;rw[g1];dsimp only;refine aa (uG ?_);refine aa (af ?_);simp only[if_true,bi,if_false];rcases fin with f|f
     .exact f
     .exact absurd (hb.mpr f) (by simp)
end
end L3
namespace L3
open PySem
variable{Pv:aA->PyData->Prop}
theorem al7{w:aK}{h:Heap}{ds:List PyData}(x:Els Pv w h [] ds):ds=[]:=List.length_eq_zero_iff.mp x.1.symm
theorem xw{w:aK}{h:Heap}{e:Int×aA}{es:List (Int×aA)}{ds:List PyData}(x:Els Pv w h (e::es) ds):∃d cR,ds=d::cR/\El Pv w h e d/\Els Pv w h es cR:=by
 match ds,x with
 | [],x=>exact absurd x.1 (by simp)
 | d::cR,x=>exact(nq d cR ⟨rfl,x.2 0 e d rfl rfl,by have:=x.1;simpa using this,λi e' d' h1 h2=>x.2 (i+1) e' d' h1 h2⟩)
theorem Els.cons{w:aK}{h:Heap}{e:Int×aA}{d:PyData}{es:List (Int×aA)}{ds:List PyData}(hd:El Pv w h e d)(x:Els Pv w h es ds):Els Pv w h (e::es) (d::ds):=by
 refine⟨by rw[b7,b7,x.1],λi e' d' h1 h2=>?_⟩;cases i with
 | zero=>cases h1;cases h2;exact hd
 | succ i=>exact x.2 i e' d' h1 h2
theorem Els.nil{w:aK}{h:Heap}:Els Pv w h [] []:=⟨rfl,λi e d h1 _=>by simp at h1⟩
theorem Els.append{w:aK}{h:Heap}:∀{es fs:List (Int×aA)} {ds gs:List PyData},Els Pv w h es ds->Els Pv w h fs gs->Els Pv w h (es++fs) (ds++gs)
 | [],fs,ds,gs,x,y=>by rw[al7 x];exact y
 | e::es,fs,ds,gs,x,y=>by obtain⟨d,cR,rfl,h1,h2⟩:=xw x;exact Els.cons h1 (h2.append y)
theorem Els.take{w:aK}{h:Heap}{es:List (Int×aA)}{ds:List PyData}(x:Els Pv w h es ds)(n:Nat):Els Pv w h (es.take n) (ds.take n):=by
 refine⟨by rw[b8,b8,x.1],λi e d h1 h2=>?_⟩;have hi:i<n:=by have:=(ae.mp h1).1;rw[b8]at this;lia
 rw[fw hi]at h1 h2;exact x.2 i e d h1 h2
theorem Els.drop{w:aK}{h:Heap}{es:List (Int×aA)}{ds:List PyData}(x:Els Pv w h es ds)(n:Nat):Els Pv w h (es.drop n) (ds.drop n):=by refine⟨by rw[g9,g9,x.1],λi e d h1 h2=>?_⟩;rw[gm]at h1 h2;exact x.2 _ e d h1 h2
theorem Els.perm{w:aK}{h:Heap}{es fs:List (Int×aA)}(p:es.Perm fs):∀{ds:List PyData},Els Pv w h fs ds->∃cR,cR.Perm ds/\Els Pv w h es cR:=by
 induction p with
 | nil=>intro ds x;exact⟨ds,km _,x⟩
 | cons e p ih=>
  intro ds x;obtain⟨d,oE,rfl,h1,h2⟩:=xw x;obtain⟨Dj,p2,x2⟩:=ih h2;exact⟨d::Dj,p2.cons d,x2.cons h1⟩
 | swap a b l=>
  intro ds x;obtain⟨d,oE,rfl,h1,h2⟩:=xw x;obtain⟨d',Dj,rfl,h3,h4⟩:=xw h2;exact⟨d'::d::Dj,List.Perm.swap _ _ _,(h4.cons h1).cons h3⟩
 | trans p1 p2 ih1 ih2=>
  intro ds x;obtain⟨oE,q1,x1⟩:=ih2 x;obtain⟨Dj,q2,x2⟩:=ih1 x1;exact⟨Dj,q2.trans q1,x2⟩
def uf(h h':Heap):Prop:=∀b ob,h.get? b=some ob->ob.cls=.type "tuple"->h'.get? b=some ob
mutual
theorem ack{h h':Heap}(t:uf h h'):∀(d:PyData) {v:aA} {as:List aE},kd d=true->Reads h v d as->Reads h' v d as
 | .int i,v,as,_,r=>by cases r with|int=>exact .int _ _
 | .str x,v,as,_,r=>by cases r with|str=>exact .str _ _
 | .tuple ds,v,as,hk,r=>by
  cases r with
  | tuple ho hc hd hi=>exact .tuple (t _ _ ho hc) hc hd (xn t ds hk hi)
 | .none,_,_,hk,_=>absurd hk ai
 | .bool _,_,_,hk,_=>absurd hk ai
 | .list _,_,_,hk,_=>absurd hk ai
 | .dict _,_,_,hk,_=>absurd hk ai
theorem xn{h h':Heap}(t:uf h h'):∀(ds:List PyData) {vs:List aA} {as:List aE},tz ds=true->ReadsAll h vs ds as->ReadsAll h' vs ds as
 | [],vs,as,_,r=>by cases r;exact .nil
 | d::ds,vs,as,hk,r=>by
  have dU:(kd d&&tz ds)=true:=hk;rw[dz]at dU;cases r with
  | cons h1 h2=>exact .cons (ack t d dU.1 h1) (xn t ds dU.2 h2)
end
theorem El.stay{w:aK}{h h':Heap}(t:uf h h'){e:Int×aA}{d:PyData}(x:El Pv w h e d):El Pv w h' e d:=
 ⟨x.own,x.hash,x.key,x.tup,x.lay,x.deep,let ⟨as,r⟩:=x.reads;⟨as,ack t d x.key r⟩⟩
theorem Els.stay{w:aK}{h h':Heap}(t:uf h h'){es:List (Int×aA)}{ds:List PyData}(x:Els Pv w h es ds):Els Pv w h' es ds:=⟨x.1,λi e d h1 h2=>(x.2 i e d h1 h2).stay t⟩
theorem ah1{h h':Heap}{a:aE}{o:Obj}(ho:h.get? a=some o)(hc:o.cls=.type "set")(hs:b9 a h h'):uf h h':=λb ob hb ht=>by
 have:b≠a:=λe=>by subst e;rw[ho]at hb;cases hb;rw[hc]at ht;exact absurd ht (by decide)
 rw[hs.2 b this];exact hb
noncomputable def byT(w:aK):Bool:=w.params.followText "set-order"
def SetD(Pv:aA->PyData->Prop)(w:aK)(h:Heap)(a:aE)(ds:List PyData):Prop:=
 ∃o es ep t,h.get? a=some o/\o.ExactSet/\o.data=.set es ep t/\TOk t es/\t.place.size*5<t.mask*3/\Els Pv w h es.toList ds/\ds.Nodup/\t.led = !byT w
theorem SetD.fresh{w:aK}{h:Heap}{led:Bool}(cP:led = !byT w):SetD Pv w (h.push {cls:=.type "set",dict:=none,data:=.set #[] 0 (.fresh 0 0 led)}) h.objs.size []:=
 (nw _ (#[]) 0 _ ⟨az _ rfl,⟨rfl,rfl,rfl⟩,rfl,TOk.fresh 0 0 led,(by show 0*5<7*3;decide),Els.nil,List.nodup_nil,cP⟩)
theorem TOk.withPlain{t:SetTable}{es:Array (Int×aA)}(ok:TOk t es)(b:Bool):TOk {t with plain:=b} es:=⟨ok.two,ok.dm,ok.rise,ok.bd,ok.sz,ok.fit,ok.onroad⟩
section
variable{prog:aI}{w:aK}{A:Around}{E:aA->aB->Prop}{s:aB}
theorem aos{a:aE}{o:Obj}{es:Array (Int×aA)}{ep:Nat}{t:SetTable}{ds:List PyData}{bX:Nat}{Q:Unit->aB->Prop}
  (ho:s.heap.get? a=some o) (gB:o.ExactSet) (hd:o.data=.set es ep t) (ok:TOk t es) (els:Els Pv w s.heap es.toList ds) (kE:ds.Nodup) (cP:t.led = !byT w) (hw:es.size*4<=bX) (Ev:bX<2^13) (yP:∀k,SetTable.sizeAbove bX=2^k->k % 2=1) (hpos:0<es.size)
  (q:∀h' cR,b9 a s.heap h'->SetD Pv w h' a cR->cR.Perm ds->Q () {s with heap:=h'}):aG (aH prog w) A (setRelay a bX) Q E s:=by
 obtain⟨t',fY,e,ok',pm,few,I0⟩:=af9 (t:=t) hw Ev yP hpos;obtain⟨k,ek,k3,uP,hn⟩:=t9 bX Ev;have eW:¬SetTable.sizeAbove bX>aF:=by rw[ek,iw];have:2^k<=2^13:=ii (by decide) uP;lia
 have hsz:(fY.filterMap (es[·]?)).size=es.size:=by have:=pm.length_eq;rw[ax,ax]at this;exact this
 obtain⟨cR,pd,IZ⟩:=els.perm pm;unfold setRelay;refine aa (ie ho hd ok.fits ?_);dsimp only;rw[if_neg eW,e];refine aa ?_;show aG _ _ (ite _ _ _) _ _ _;rw[if_neg (by simp[hsz])];refine af ?_;have Hq:es.size<=aF:=by rw[iw];lia
 refine Bw ho hd ?_ (by rw[hsz];exact Hq);have hg:(s.heap.update a (Obj.putSet (fY.filterMap (es[·]?)) t')).get? a=some {o with data:=.set (fY.filterMap (es[·]?)) (ep+1) t'}:=by have:=cn (Obj.putSet (fY.filterMap (es[·]?)) t') ho (by rw[qS _ t' hd];rfl);rw[qS _ t' hd]at this;exact this
 have lH:=c8 s.heap a (Obj.putSet (fY.filterMap (es[·]?)) t');exact q _ cR lH (nw _ _ _ _ ⟨hg,gB,rfl,ok',few,IZ.stay (ah1 ho gB.1 lH),(pd.nodup_iff).mpr kE,I0.trans cP⟩) pd
theorem ail{a:aE}{ds:List PyData}{x:Int×aA}{d:PyData}{Q:Bool->aB->Prop}(hS:SetD Pv w s.heap a ds)(hx:El Pv w s.heap x d)(hu:A.units+8<aX)(rE:ds.length<4000)
  (q:∀h' cR b,b9 a s.heap h'->SetD Pv w h' a cR->(d∈ds->cR=ds)->(d∉ds->cR.Perm (d::ds))->Q b {s with heap:=h'}) :
  aG (aH prog w) A (setAddHashed a x.2 x.1) Q E s:=by
 obtain⟨o,es,ep,t,ho,gB,hd,ok,few,els,kE,cP⟩:=hS;obtain⟨xa,ex⟩:=hx.ref;obtain⟨k,hk,k3,uP,ko⟩:=ok.two;have pJ:=els.1;rw[ax]at pJ;have hsz:=ok.sz;obtain⟨j,hj,bW⟩:=apq (ps:=t.place.toList) (m:=t.mask) (by rw[ax];exact ok.fit);unfold setAddHashed setAddHashedIn;refine gk (aa (ie ho hd ok.fits ?_));dsimp only;have nX:byScan x.2 es=false:=by rw[ex];rfl
 rw[nX];simp only[bi,if_false];unfold setSearch;obtain⟨N,hN,eN⟩:=avt hk (st0 t.mask x.1) (xu _ _).1 (xu _ _).2.1 j hj;have rR:10*SetTable.turns t.mask<=100000:=by unfold SetTable.turns;have:2^k<=2^13:=ii (by decide) uP;lia
 refine aa (abx ho hd ok els hx hu (λtR=>?_) (λn yQ hf hr=>?_) 100000 0 N none rfl (by unfold qx;rw[eN];exact bW) (by lia) (λn' fS=>by lia))
 .dsimp only;refine af ?_;have e:s={s with heap:=s.heap}:=by cases s;rfl
  rw[e];exact q s.heap ds false (b9.refl a s.heap) (nw o es ep t ⟨ho,gB,hd,ok,few,els,kE,cP⟩) (λ_=>rfl) (λz=>absurd tR z)
 .dsimp only;have hm7:7<=t.mask:=by
   have:2^3<=2^k:=ii (by decide) k3;lia
  obtain⟨ok1,em,HE,mQ⟩:=ok.put (x:=x.2) hf hr (by lia);have Di:Els Pv w s.heap (i9 es (t.put (qx t.mask x.1 n)).2 (x.1,x.2)).toList (ds.take (t.put (qx t.mask x.1 n)).2++d::ds.drop (t.put (qx t.mask x.1 n)).2):=by rw[qk];exact(els.take _).append ((els.drop _).cons hx)
  have Ek:(ds.take (t.put (qx t.mask x.1 n)).2++d::ds.drop (t.put (qx t.mask x.1 n)).2).Perm (d::ds):=by have:=List.perm_middle (a:=d) (l₁:=ds.take (t.put (qx t.mask x.1 n)).2) (l₂:=ds.drop (t.put (qx t.mask x.1 n)).2);rw[ff]at this;exact this
  have BU:(ds.take (t.put (qx t.mask x.1 n)).2++d::ds.drop (t.put (qx t.mask x.1 n)).2).Nodup:=by rw[Ek.nodup_iff,jh];exact⟨yQ,kE⟩
  have De:(i9 es (t.put (qx t.mask x.1 n)).2 (x.1,x.2)).size=es.size+1:=by rw[<-ok1.sz,mQ,hsz]
  refine aa (ie ho hd ok.fits ?_);dsimp only;have wV:(t.put (qx t.mask x.1 n)).1.led=t.led:=rfl;generalize hpt:t.put (qx t.mask x.1 n)=pt at *;obtain⟨t1,p⟩:=pt;simp only at ok1 em HE mQ Di Ek BU De wV⊢;have fin:∀t2:SetTable,TOk t2 (i9 es p (x.1,x.2))->t2.mask=t1.mask->t2.place=t1.place->t2.led=t1.led->aG (aH prog w) A (storeSet a (i9 es p (x.1,x.2)) t2 >>= λ_=>if (!false&&t2.tooFull)=true then setRelay a (SetTable.grown (es.size+1)) >>= λ_=>aS true else aS true) Q E s:=λt2 BP e1 e2 e3=>by
   have wU:t2.led = !byT w:=e3.trans (wV.trans cP);have eW:(i9 es p (x.1,x.2)).size<=aF:=by rw[De,iw];lia
   refine aa (Bw ho hd ?_ eW);have hg:(s.heap.update a (Obj.putSet (i9 es p (x.1,x.2)) t2)).get? a=some {o with data:=.set (i9 es p (x.1,x.2)) (ep+1) t2}:=by have:=cn (Obj.putSet (i9 es p (x.1,x.2)) t2) ho (by rw[qS _ t2 hd];rfl);rw[qS _ t2 hd]at this;exact this
   have lH:=c8 s.heap a (Obj.putSet (i9 es p (x.1,x.2)) t2);have Dh:=Di.stay (ah1 ho gB.1 lH);by_cases hX:t2.tooFull=true
   .rw[if_pos (by rw[hX];rfl)];have hes:es.size<4000:=by rw[pJ];exact rE
    have htf:t2.mask*3<=(es.size+1)*5:=by unfold SetTable.tooFull SetTable.fill at hX;rw[BP.dm]at hX;have:=BP.sz;have:=De;simp at hX;lia
    have lW:t2.mask+1=2^k:=by rw[e1,em];exact hk
    have hfw:(es.size+1-1)*5<t2.mask*3:=by rw[e1,em];have:=ok.sz;lia
    have hgs:=aie lW k3 uP ko htf hfw (by lia);have Ig:SetTable.grown (es.size+1)=(es.size+1)*4:=by unfold SetTable.grown;rw[if_neg (by lia)]
    refine aa (aos (s:={s with heap:=s.heap.update a (Obj.putSet (i9 es p (x.1,x.2)) t2)}) hg gB rfl BP Dh BU wU (by rw[De,Ig];exact aq _) (by rw[Ig];exact hgs.1) (λk' ek'=>?_) (by rw[De];lia) λh' cR Ho kS pd'=>?_)
    .rw[Ig]at ek';obtain⟨a1,a2,a3⟩:=acq _ (by lia) hgs.1 ek';exact aok lW k3 uP ko htf hfw (by lia) a1 a2 a3
    .exact af (q h' cR true (lH.trans Ho) kS (λz=>absurd z yQ) (λ_=>pd'.trans Ek))
   .rw[if_neg (by simpa using hX)];have IR:t2.place.size*5<t2.mask*3:=by
     unfold SetTable.tooFull SetTable.fill at hX;rw[BP.dm]at hX;simpa using hX
    exact af (q _ _ true lH (nw _ _ _ _ ⟨hg,gB,rfl,BP,IR,Dh,BU,wU⟩) (λz=>absurd z yQ) (λ_=>Ek))
  obtain⟨as,rx⟩:=hx.reads;split
  .refine aa (aak 8 hx.key rx λb=>?_);cases b with
   | true=>
    simp only[if_true];exact fin t1 ok1 rfl rfl rfl
   | false=>
    simp only[bi,if_false];exact fin _ (ok1.withPlain false) rfl rfl rfl
  .refine aa (af ?_);simp only[if_true];exact fin t1 ok1 rfl rfl rfl
end
end L3
namespace L3
open PySem PyProof.Rows
variable{Pv:aA->PyData->Prop}
def Keep(h0 h:Heap):Prop:=∀b o,h0.get? b=some o->h.get? b=some o
theorem Keep.tups{h0 h:Heap}(k:Keep h0 h):uf h0 h:=λb o e _=>k b o e
theorem SetD.moved{w:aK}{h h':Heap}{S:aE}{ds:List PyData}(x:SetD Pv w h S ds)(hS:∀o,h.get? S=some o->h'.get? S=some o)(t:uf h h'):SetD Pv w h' S ds:=by obtain⟨o,es,ep,tb,ho,gB,hd,ok,few,els,nd,cP⟩:=x;exact(nw o es ep tb ⟨hS o ho,gB,hd,ok,few,els.stay t,nd,cP⟩)
section
variable{prog:aI}{w:aK}{A:Around}{R:kU->aB->Prop}{I:aE}{fp wr:List aE}{G:Array xT->Array xT->Prop}{n:Nat}{P:Nat->aA->Prop}{St:Nat->aB->Prop}
theorem ad2(W:WalksS prog w A.in1 I fp wr G n P St)(S:aE)(pN:S∉fp)(h0:Heap)(hwr:∀b∈wr,h0.get? b=none)(hS0:h0.get? S=none)(hwt:∀i s,St i s->∀b∈wr,∀ob,s.heap.get? b=some ob->ob.cls≠.type "tuple")
  (val:Nat->PyData) (yH:∀i v,P i v->El Pv w h0 (wk w (val i),v) (val i)) (hu:A.units+9<aX) (hb:n<4000) :
  ∀(k i:Nat)(s:aB)(ds:List PyData),n-i=k->i<=n->St i s->Keep h0 s.heap->SetD Pv w s.heap S ds->(∀d,d∈ds↔∃j,j<i/\val j=d)->ds.length<=i->
   (∀s' cR,Moved (S::wr) G s s'->Keep h0 s'.heap->SetD Pv w s'.heap S cR->(∀d,d∈cR↔∃j,j<n/\val j=d)->cR.length<=n->R (.ok (.ret .none)) s')->
   cH (aH prog w) A (.builtin "set.update.loop" ⟨[.ref S,.ref I],[]⟩) R s:=by
 have AH:S∉wr:=λh=>pN (W.sub _ h);have mono:∀b∈wr,b∈S::wr:=λb hb=>a8 _ hb;have mv:∀{i:Nat} {s s':aB} {ds:List PyData},St i s->Moved wr G s s'->Keep h0 s.heap->SetD Pv w s.heap S ds->Keep h0 s'.heap/\SetD Pv w s'.heap S ds:=λ{i s s' ds} hst hm hk hS=>by refine⟨λb o e=>hm.heap b o (λz=>by rw[hwr b z]at e;cases e) (hk b o e),hS.moved (λo e=>hm.heap S o AH e) λb o e ht=>hm.heap b o (λz=>hwt i s hst b z o e ht) e⟩
 intro k;induction k with
 | zero=>
  intro i s ds hk hi hst tQ hS eP bD hR;have tR:i=n:=by lia
  subst tR;refine jb F.entry_set_update_loop (show _ from ?_);rw[gu F.plain_set_update_loop (_:Args)];show aG _ A.in1 (bB (.ref I) >>= _) _ _ _;refine aa (W.done s _ _ hst λs' hm=>?_);obtain⟨k1,S1⟩:=mv hst hm tQ hS;exact af (hR s' ds (hm.mono mono) k1 S1 eP bD)
 | succ k ih=>
  intro i s ds hk hi hst tQ hS eP bD hR;have cN:i<n:=by lia
  refine jb F.entry_set_update_loop (show _ from ?_);rw[gu F.plain_set_update_loop (_:Args)];show aG _ A.in1 (bB (.ref I) >>= _) _ _ _;refine aa (W.item i s _ _ cN hst λv s' hP oY hm=>?_);obtain⟨k1,S1⟩:=mv hst hm tQ hS;have hE:=(yH i v hP).stay k1.tups;obtain⟨as,rv⟩:=hE.reads;show aG _ A.in1 (mS [v] (setAdd S v) >>= _) _ _ _;refine aa (gk ?_);unfold setAdd;refine gk ?_;refine aa (ab3 (val i) hE.key prog w A.in1 _ s' v as _ rv (by show A.units+1+_<aX;have:=hE.deep;lia) λtk pZ=>?_);refine ail (s:={s' with toks:=tk}) (x:=(wk w (val i),v)) S1 hE (by show A.units+1+8<aX;lia) (by lia) λh' cR b lH kS e1 e2=>?_;have k2:Keep h0 h':=λb o e=>by rw[lH.2 b (λz=>by rw[z,hS0]at e;cases e)];exact k1 b o e
  have Cw:∀d,d∈cR↔∃j,j<i+1/\val j=d:=λd=>by
   have base:(∃j,j<i+1/\val j=d)↔(d∈ds\/val i=d):=by
    rw[eP d];constructor
    .rintro⟨j,hj,e⟩;by_cases q:j=i
     .subst q;exact .inr e
     .exact .inl ⟨j,by lia,e⟩
    .rintro(⟨j,hj,e⟩|e)
     .exact⟨j,by lia,e⟩
     .exact⟨i,by lia,e⟩
   rw[base];by_cases q:val i∈ds
   .rw[e1 q];exact⟨.inl,λz=>z.elim id λe=>e▸q⟩
   .rw[(e2 q).mem_iff,bb];exact⟨λz=>z.elim (λe=>.inr e.symm) .inl,λz=>z.elim .inr λe=>.inl e.symm⟩
  have CA:cR.length<=i+1:=by
   by_cases q:val i∈ds
   .rw[e1 q];lia
   .rw[(e2 q).length_eq,b7];lia
  refine af ⟨ln F.plain_set_update_loop _,ih (i+1) _ cR (by lia) cN (W.frame _ s' _ _ oY pZ λb hb o e=>?_) k2 kS Cw CA λBK Jd HV k'' S'' m'' l''=>?_⟩
  .rw[lH.2 b (λh:b=S=>pN (by rw[<-h];exact hb))];exact e
  .refine hR BK Jd (Moved.trans W.gtrans ((hm.mono mono).then_heap pZ λb o hb e=>?_) HV) k'' S'' m'' l'';rw[lH.2 b (λh:b=S=>hb (by rw[h];exact aw))];exact e
end
section
variable{prog:aI}{w:aK}{A:Around}{E:aA->aB->Prop}{s:aB}
theorem adp(a:aA){Q₁:aA->aB->Prop}
  (h:Q₁ (.ref s.heap.objs.size) {s with heap:=s.heap.push {cls:=.type "set",dict:=none,data:=.set #[] 0 (.fresh 0 0 (!byT w))}}) :
  cH (aH prog w) A (.call (.builtin "set.__new__") ⟨[.type "set",a],[]⟩) (wants Q₁ E) s:=by
 refine Jg (show _ from ?_);show aG _ A.in1 (do EW "set.__new__" ⟨[.type "set",a],[]⟩;again (.builtin "set.__new__" ⟨[.type "set",a],[]⟩)) _ _ _;refine aa (dM (PySem.F.newCall_set_1 a) (af ⟨ln PySem.F.plain_set_new _,jb PySem.F.entry_set_new (show _ from ?_)⟩));rw[gu PySem.F.plain_set_new (_:Args)];unfold Builtin.«set.__new__» Builtin.Frozenset.newClass;have Cf:=sub_set_self;obtain⟨hp,g,d,tk,os⟩:=s;dsimp only
 wp_walk
 refine cF (af ?_);dsimp only;simp only[newObj];refine aa (wpAny_alloc (af ?_));exact af h
theorem akn{l:aE}{items:Array aA}{ds:List PyData}{Q:aA->aB->Prop}
  (hh:A.handled=none) (hl:s.heap.IsList l items) (hi:items.size=ds.length) (hE:∀(i:Nat) v d,items[i]?=some v->ds[i]?=some d->El Pv w s.heap (wk w d,v) d) (hb:ds.length<4000) (hu:A.units+20<aX)
  (h:∀(h':Heap)(tk:Nat)(cR:List PyData),SetD Pv w h' s.heap.objs.size cR->(∀d,d∈cR↔d∈ds)->cR.length<=ds.length->Keep s.heap h'->s.toks<=tk->Q (.ref s.heap.objs.size) {s with heap:=h',toks:=tk}) :
  aG (aH prog w) A (call (.type "set") [.ref l]) Q E s:=by
 obtain⟨c,tl,hmro⟩:=jm.mro;have hmade:=jm.made;have Cf:=jm.sub;refine nK (Jg (show _ from ?_));show aG _ _ (callAny (.type "set") _) _ _ s;refine af ⟨Code.quiet_builtin _ (by decide +kernel),jb F.entry_type_call (show _ from ?_)⟩;rw[Around.under_plain (weight_type_call_type "set" [.ref l] []) (rfl:_=_)];have h1:=jm.notType;have h2:=jm.canCreate;have hct:=PySem.F.typeCall_set_1 (.ref l)
 repeat (any_goals (first|assumption|(wp_step)))
 refine eF (adp (.ref l) (E:=E) (Q₁:=λobj s₁=>∃led:Bool,led=(!byT w)/\obj=.ref s.heap.objs.size/\s₁={s with heap:=s.heap.push {cls:=.type "set",dict:=none,data:=.set #[] 0 (.fresh 0 0 led)}}) ⟨_,rfl,rfl,rfl⟩) λr s₁ hr=>?_
 match r,hr with
 | .error e,hr=>exact hr
 | .ok (.ret obj),hr=>
   obtain⟨led,cP,rfl,rfl⟩:=hr;obtain⟨AN,rZ⟩:∃ob:Obj,ob={cls:=.type "set",dict:=none,data:=.set #[] 0 (.fresh 0 0 led)}:=⟨_,rfl⟩;have hS:(s.heap.push AN).get? s.heap.objs.size=some AN:=az _ (by rw[rZ];rfl);have hT:aB.TypeIs {s with heap:=s.heap.push AN} (.ref s.heap.objs.size) "set":=⟨_,hS,by rw[rZ]⟩;have hSD:SetD Pv w (s.heap.push AN) s.heap.objs.size []:=by rw[rZ];exact SetD.fresh cP
   rw[<-rZ];have hli:=jm.init.lookup;have AG:=jm.init.bind (.ref s.heap.objs.size)
   repeat (any_goals (first|assumption|(wp_step)))
   refine eF (xI (R:=wants (λr s₂=>r=.none/\∃h' tk cR,s₂={s with heap:=h',toks:=tk}/\SetD Pv w h' s.heap.objs.size cR/\(∀d,d∈cR↔d∈ds)/\cR.length<=ds.length/\Keep s.heap h'/\s.toks<=tk) E) jm.init.plain F.entry_set_init (check_set_init_1 hT ?_)) λr₂ s₂ rD=>?_
   .obtain⟨ol,jV,lK,nl,zB⟩:=hl;obtain⟨ocls,BQ,odata,yC⟩:=ol;simp only at lK zB;subst lK;subst zB;have HG:(s.heap.push AN).get? l=some {cls:=.type "list",dict:=BQ,data:=.seq items nl,slots:=yC}:=am _ jV;have hsls:=PySem.F.sub_list_set;have hslf:=PySem.F.sub_list_frozenset;have eO:(aA.type "list" == aA.type "dict")=false:=by decide
    have pH:(s.heap.push AN).IsList l items:=(o4 _ HG rfl nl rfl);unfold Builtin.«set.__init__» noKeywords Builtin.Frozenset.updateFrom;generalize hPI:kQ=PI;subst rZ
    wp_walk
    subst hPI;refine dB pH ?_;refine aa (wpAny_runValue ?_);have nR:∀b,s.heap.objs.size<=b->s.heap.get? b=none:=λb eY=>by
     cases hq:s.heap.get? b with
     | none=>rfl
     | some ob=>exact absurd (bq hq) (Nat.not_lt.mpr eY)
    have hlS:l<s.heap.objs.size:=bq jV;have hh3:A.in1.in1.in1.handled=none:=by simp[hh]
    have IF:(s.heap.push {cls:=.type "set",dict:=none,data:=.set #[] 0 (.fresh 0 0 led)}).objs.size=s.heap.objs.size+1:=mf _ _;have HM:l≠(s.heap.push {cls:=.type "set",dict:=none,data:=.set #[] 0 (.fresh 0 0 led)}).objs.size:=by rw[IF];exact dq (Nat.lt_succ_of_lt hlS)
    have pN:s.heap.objs.size∉[(s.heap.push {cls:=.type "set",dict:=none,data:=.set #[] 0 (.fresh 0 0 led)}).objs.size,l]:=by rw[IF];simp only[bb,jc,or_false,not_or];exact⟨dq (Nat.lt_succ_self _),Nat.ne_of_gt hlS⟩
    have yH:∀(i:Nat)(v:aA),items[i]?=some v->El Pv w s.heap (wk w (ds.getD i .none),v) (ds.getD i .none):=λi v hv=>by
     have cN:=(bp.mp hv).1;have hd:ds[i]?=some (ds.getD i .none):=by rw[df,ab (by lia)];rfl
     exact hE i v _ hv hd
    refine ad2 (A:=A.in1.in1) ((sY.list hh3 _ l HM items).toS) s.heap.objs.size pN s.heap (λb eY=>nR b (by rw[ao.mp eY,IF];exact ll _)) (nR _ (aq _)) (λi s' hst b eY ob e=>?hwt)
     (λi=>ds.getD i .none) yH (by show A.units+1+1+9<aX;lia) (by lia) (items.size-0) 0 _ [] (by lia) (f7 _)
     ⟨⟨_,az _ rfl,rfl,rfl⟩,(pH.push _)⟩ ?hK0 ?hS0 (λd=>by simp) (by simp) ?hR
    case hwt=>
     obtain⟨⟨oi,ho,hc,_⟩,_⟩:=hst;rw[ao.mp eY,ho]at e;cases e;rw[hc];decide
    case hK0=>exact λb o e=>am _ (am _ e)
    case hS0=>exact hSD.moved (λo e=>am _ e) λb o e _=>am _ e
    case hR=>
     intro s' cR hm k' S' m' l';obtain⟨h',g',d',Ed,yD⟩:=s';have eg:g'=s.gens:=hm.gens;have ed:d'=s.drawn:=hm.drawn;have eo:yD=s.os:=hm.os;subst eg;subst ed;subst eo;show aG _ _ _ _ _ _;refine af ?_;show aG _ _ (ret aA.none) _ _ _;refine af ⟨rfl,(oq h' Ed cR ⟨rfl,S',λd=>?_,by lia,k',hm.toks⟩)⟩;rw[m' d];constructor
     .rintro⟨j,hj,rfl⟩;rw[df,ab (by lia)];exact eu _
     .intro hd;obtain⟨j,hj⟩:=db hd;have jB:=(ae.mp hj).1;exact⟨j,by lia,by rw[df,hj];rfl⟩
   .match r₂,rD with
    | .error e,rD=>exact rD
    | .ok (.ret r),rD=>
      obtain⟨rfl,h',tk,cR,rfl,kS,Ax,vF,dU,ht'⟩:=rD
      repeat (any_goals (first|assumption|(wp_step)))
      exact h _ _ cR kS Ax vF dU ht'
    | .ok .next,rD=>exact rD.elim
    | .ok .brk,rD=>exact rD.elim
    | .ok .cont,rD=>exact rD.elim
 | .ok .next,hr=>exact hr.elim
 | .ok .brk,hr=>exact hr.elim
 | .ok .cont,hr=>exact hr.elim
end
end L3
namespace L3
open PySem PySem.Spec PyProof.Rows L2
variable{Pv:aA->PyData->Prop}
def Dq(d:PyData):Prop:=kd d=true/\(∃ds,d=.tuple ds)/\d.depth<8
theorem ahy{h:Heap}:∀{us:List aA} {ds:List PyData} {as:List aE} {i:Nat} {u:aA} {d:PyData},ReadsAll h us ds as->us[i]?=some u->ds[i]?=some d->∃bs,Reads h u d bs
 | _,_,_,i,u,d,.nil,h1,_=>by simp at h1
 | _,_,_,0,u,d,.cons a b,h1,h2=>by cases h1;cases h2;exact⟨_,a⟩
 | _,_,_,i+1,u,d,.cons a b,h1,h2=>ahy b (by simpa using h1) (by simpa using h2)
theorem amf:∀{ds:List PyData},iz ds=true->∀d∈ds,d.canLay0=true
 | [],_,d,hd=>by cases hd
 | e::ds,hk,d,hd=>by
  have dU:(e.canLay0&&iz ds)=true:=hk;rw[dz]at dU;rcases bb.mp hd with h|hd
  .rw[h];exact dU.1
  .exact amf dU.2 d hd
end L3
namespace L3
open PySem
theorem slot_setit_next:Slot "set_iterator" "__next__" "set_iterator.__next__":=
 .of (owner:="set_iterator") (n:="__next__") (by rw[Gj,vP];kernel_rfl) (by decide +kernel) (by decide +kernel) (by decide +kernel) (by first|exact .inl (by decide +kernel)|exact .inr (by decide +kernel)) (by rw[isSubtype_type];kernel_rfl)
theorem qr:entryFor table "set_iterator.__next__" = some Builtin.«set_iterator.__next__»:=entryFor_of_tree (by kernel_rfl)
theorem qz(a:aA):Bf "set_iterator.__next__" ⟨[a],[]⟩:=by unfold Bf;kernel_rfl
theorem aa8:entryFor table "set.__iter__" = some Builtin.«frozenset.__iter__»:=entryFor_alias (id':="frozenset.__iter__") (by kernel_rfl) rfl (by decide +kernel) (by kernel_rfl)
theorem yy{α:Type}:∀(l:List α)(i:Nat)(h:i<l.length),(l[i]::l.eraseIdx i).Perm l
 | a::l,0,h=>km _
 | a::l,i+1,h=>by
  have h':i<l.length:=by simpa using h
  show(l[i]::a::l.eraseIdx i).Perm (a::l);exact(List.Perm.swap _ _ _).trans ((yy l i h').cons a)
theorem akl{α:Type}(next:Nat->Nat):∀(fuel k:Nat)(left:List α)(out:Array α),left.length=fuel->((iG.go next fuel k left out).toList).Perm (out.toList++left)
 | 0,k,left,out,h=>by have:left=[]:=List.length_eq_zero_iff.mp h;subst this;rw[dg];exact km _
 | fuel+1,k,left,out,h=>by unfold iG.go;have hl:next k % left.length<left.length:=Nat.mod_lt _ (by lia);rw[ab hl];dsimp only;refine(akl next fuel (k+1) _ _ (by rw[List.length_eraseIdx_of_lt hl];lia)).trans ?_;rw[Array.toList_push,bz];refine iy _ ?_;exact(yy _ _ hl)
theorem akf{α:Type}(next:Nat->Nat)(xs:Array α):(iG next xs).toList.Perm xs.toList:=by unfold iG;have:=akl next xs.size 0 xs.toList #[] (by simp);simpa using this
section
variable{prog:aI}{w:aK}{A:Around}{E:aA->aB->Prop}{s:aB}
theorem ac3{src:Source}{n:Nat}{Q:Nat->aB->Prop}(hn:0<n)(h:∀i dr,i<n->Q i {s with drawn:=dr}):aG (aH prog w) A (choose src n) Q E s:=λΓ p hΓ=>by show n≠0/\_;exact⟨by lia,h _ _ (Nat.mod_lt _ hn)⟩
theorem adr{α:Type}:∀(n:Nat)(xs:List α)(s:aB) {Q:List α->aB->Prop},xs.length=n->(∀ys dr,ys.Perm xs->Q ys {s with drawn:=dr})->aG (aH prog w) A (EU n xs) Q E s
 | 0,xs,s,Q,h,q=>by have:xs=[]:=List.length_eq_zero_iff.mp h;subst this;unfold EU;exact af (q [] s.drawn (km _))
 | n+1,[],s,Q,h,q=>by simp at h
 | n+1,x::xs,s,Q,h,q=>by unfold EU;refine aa (ac3 (by simp) λi dr hi=>?_);rw[ab hi];dsimp only;refine aa (adr n _ {s with drawn:=dr} (by rw[List.length_eraseIdx_of_lt hi];lia) λys dr' p=>?_);exact af (q _ dr' ((List.Perm.cons _ p).trans (yy _ _ hi)))
noncomputable def wm(first:aA)(i:Nat)(a:aE)(n ep:Nat):Obj:={cls:=.type "set_iterator",data:=.fields #[first,.int i 0,.ref a,.int n 0,.int ep 0]}
theorem ahe{I a:aE}{slot slot' i ep:Nat}{o:Obj}{es:Array (Int×aA)}{t:SetTable}{x:aA}{Q:Option aA->aB->Prop}(fL:s.heap.get? I=some (wm (.int slot 0) i a es.size ep))(ho:s.heap.get? a=some o)(hd:o.data=.set es ep t)(hf:t.fits es.size=true)
  (uY:∀{A:Around} {E:aA->aB->Prop} {Q:Option (aA×Nat)->aB->Prop},Q (some (x,slot')) s->aG (aH prog w) A (iF a slot i ep) Q E s)
  (hQ:∀h',h'.get? I=some (wm (.int slot' 0) (i+1) a es.size ep)->b9 I s.heap h'->Q (some x) {s with heap:=h'}):aG (aH prog w) A (bB (.ref I)) Q E s:=by
 have hT:s.TypeIs (.ref I) "set_iterator":=⟨_,fL,rfl⟩;unfold bB;refine aa (jr (ci (name:=ba "__next__") hT slot_setit_next (ck slot_setit_next hT qr ?_ (qz _))));unfold Builtin.«set_iterator.__next__» nN;simp only[List.isEmpty_nil,ir,bi,↓reduceIte,jE,gz,bne_self_eq_false];refine aa (af ?_);dsimp only;refine aa (mj fL rfl ?_);show aG _ _ (nP a >>= _) _ _ _;refine aa (cL ho hd hf ?_);rw[if_neg (by simp)];show aG _ _ (iF a (slot:Int).toNat (i:Int).toNat (ep:Int).toNat >>= _) _ _ _;simp only[cg];refine aa (uY ?_);dsimp only;refine aa (h9 fL rfl (by show 0<5;decide) ?_);have g1:=cn (Obj.mapFields (·.setIfInBounds 0 (bU slot'))) fL rfl;refine aa (h9 g1 rfl (by show 1<5;decide) ?_);have g2:=cn (Obj.mapFields (·.setIfInBounds 1 (bU (i+1)))) g1 rfl;exact af ⟨x,rfl,af (hQ _ g2 ((c8 ..).trans (c8 ..)))⟩
theorem akh{I a:aE}{slot i ep:Nat}{o:Obj}{es:Array (Int×aA)}{t:SetTable}{Q:Option aA->aB->Prop}(hh:A.handled=none)(fL:s.heap.get? I=some (wm (.int slot 0) i a es.size ep))(ho:s.heap.get? a=some o)(hd:o.data=.set es ep t)(hf:t.fits es.size=true)
  (uY:∀{A:Around} {E:aA->aB->Prop} {Q:Option (aA×Nat)->aB->Prop},Q none s->aG (aH prog w) A (iF a slot i ep) Q E s)
  (hQ:∀h',kz I s.heap h'->Q none {s with heap:=h'}):aG (aH prog w) A (bB (.ref I)) Q E s:=by
 have hT:s.TypeIs (.ref I) "set_iterator":=⟨_,fL,rfl⟩;unfold bB;refine aa (jr (ci (name:=ba "__next__") hT slot_setit_next (ck slot_setit_next hT qr ?_ (qz _))));unfold Builtin.«set_iterator.__next__» nN;simp only[List.isEmpty_nil,ir,bi,↓reduceIte,jE,gz,bne_self_eq_false];refine aa (af ?_);dsimp only;refine aa (mj fL rfl ?_);show aG _ _ (nP a >>= _) _ _ _;refine aa (cL ho hd hf ?_);rw[if_neg (by simp)];show aG _ _ (iF a (slot:Int).toNat (i:Int).toNat (ep:Int).toNat >>= _) _ _ _;simp only[cg];refine aa (uY ?_);dsimp only;refine aa (h9 fL rfl (by show 2<5;decide) ?_);show aG _ _ (gT (.type "StopIteration") [] >>= _) _ _ _;refine aa ?_;simp only[gT,gS];refine aa (cm ?_ (by size_fits));refine aa (m:=dD _ _) (dM (a:=aA.none) (by first|rfl|(simp only[dD];rfl)) ?_);refine cm ?_ (by size_fits);simp only[jT];refine aa (fD ?_);rw[show A.in1.handled=none from hh];refine aa (af (gR ?_));refine aa (lv (T:="StopIteration") (b:=true) ⟨_,az _ rfl,rfl⟩ eK ?_);exact af (hQ _ (((c8 ..).extBut.push _).push _))
theorem alt{I a tp:aE}{i ep p:Nat}{o op:Obj}{es:Array (Int×aA)}{t:SetTable}{ps:Array aA}{c:Nat}{e:Int×aA}{Q:Option aA->aB->Prop}(fL:s.heap.get? I=some (wm (.ref tp) i a es.size ep))(ho:s.heap.get? a=some o)(hd:o.data=.set es ep t)(hf:t.fits es.size=true)
  (hp:s.heap.get? tp=some op) (HB:op.data=.seq ps c) (Hy:ps[i]?=some (.int p 0)) (hes:es[p]?=some e)
  (hQ:∀h',h'.get? I=some (wm (.ref tp) (i+1) a es.size ep)->b9 I s.heap h'->Q (some e.2) {s with heap:=h'}):aG (aH prog w) A (bB (.ref I)) Q E s:=by
 have hT:s.TypeIs (.ref I) "set_iterator":=⟨_,fL,rfl⟩;unfold bB;refine aa (jr (ci (name:=ba "__next__") hT slot_setit_next (ck slot_setit_next hT qr ?_ (qz _))));unfold Builtin.«set_iterator.__next__» nN;simp only[List.isEmpty_nil,ir,bi,↓reduceIte,jE,gz,bne_self_eq_false];refine aa (af ?_);dsimp only;refine aa (mj fL rfl ?_);show aG _ _ (nP a >>= _) _ _ _;refine aa (cL ho hd hf ?_);rw[if_neg (by simp)];show aG _ _ (fM (.ref tp) >>= _) _ _ _;refine aa (ju hp HB ?_);dsimp only;simp only[cg,Hy];refine aa ?_;unfold setNextDrawn;refine aa (ie ho hd hf ?_);dsimp only;rw[if_neg (by simp)];simp only[cg,hes];refine af ?_;refine aa (h9 fL rfl (by show 1<5;decide) ?_);have g2:=cn (Obj.mapFields (·.setIfInBounds 1 (bU (i+1)))) fL rfl;exact af ⟨e.2,rfl,af (hQ _ g2 (c8 ..))⟩
theorem anh{I a tp:aE}{i ep:Nat}{o op:Obj}{es:Array (Int×aA)}{t:SetTable}{ps:Array aA}{c:Nat}{Q:Option aA->aB->Prop}(hh:A.handled=none)(fL:s.heap.get? I=some (wm (.ref tp) i a es.size ep))(ho:s.heap.get? a=some o)(hd:o.data=.set es ep t)(hf:t.fits es.size=true)
  (hp:s.heap.get? tp=some op) (HB:op.data=.seq ps c) (Hy:ps[i]?=none)
  (hQ:∀h',kz I s.heap h'->Q none {s with heap:=h'}):aG (aH prog w) A (bB (.ref I)) Q E s:=by
 have hT:s.TypeIs (.ref I) "set_iterator":=⟨_,fL,rfl⟩;unfold bB;refine aa (jr (ci (name:=ba "__next__") hT slot_setit_next (ck slot_setit_next hT qr ?_ (qz _))));unfold Builtin.«set_iterator.__next__» nN;simp only[List.isEmpty_nil,ir,bi,↓reduceIte,jE,gz,bne_self_eq_false];refine aa (af ?_);dsimp only;refine aa (mj fL rfl ?_);show aG _ _ (nP a >>= _) _ _ _;refine aa (cL ho hd hf ?_);rw[if_neg (by simp)];show aG _ _ (fM (.ref tp) >>= _) _ _ _;refine aa (ju hp HB ?_);dsimp only;simp only[cg,Hy];refine aa (h9 fL rfl (by show 0<5;decide) ?_);have g1:=cn (Obj.mapFields (·.setIfInBounds 0 (bU 0))) fL rfl;refine aa (h9 g1 rfl (by show 2<5;decide) ?_);show aG _ _ (gT (.type "StopIteration") [] >>= _) _ _ _;refine aa ?_;simp only[gT,gS];refine aa (cm ?_ (by size_fits));refine aa (m:=dD _ _) (dM (a:=aA.none) (by first|rfl|(simp only[dD];rfl)) ?_);refine cm ?_ (by size_fits);simp only[jT];refine aa (fD ?_);rw[show A.in1.handled=none from hh];refine aa (af (gR ?_));refine aa (lv (T:="StopIteration") (b:=true) ⟨_,az _ rfl,rfl⟩ eK ?_);exact af (hQ _ ((((c8 ..).trans (c8 ..)).extBut.push _).push _))
theorem zg{a:aE}{slot given ep:Nat}{o:Obj}{es:Array (Int×aA)}{t:SetTable}{Q:Option (aA×Nat)->aB->Prop}(hb:byT w=true)(ho:s.heap.get? a=some o)(hd:o.data=.set es ep t)(hf:t.fits es.size=true)
  (h:Q (((iG (w.params.setOrder a ep) es)[given]?).map λe=>(e.2,slot)) s):aG (aH prog w) A (iF a slot given ep) Q E s:=by
 have eY:w.params.followText "set-order" = true:=hb;unfold iF;refine aa (ie ho hd hf ?_);dsimp only;unfold nO;refine aa (aa (cF (af ?_)));show aG _ _ (if w.params.followText "set-order" = true then _ else _) _ _ _;rw[if_pos eY];rw[if_neg (by simp)];refine aa ?_;unfold setWalk;refine aa (ie ho hd hf ?_);dsimp only;unfold nO;refine aa (aa (cF (af ?_)));show aG _ _ (if w.params.followText "set-order" = true then _ else _) _ _ _;rw[if_pos eY];refine aa (cF (af ?_));exact af h
theorem w4{a:aE}{slot given ep:Nat}{o:Obj}{es:Array (Int×aA)}{t:SetTable}{Q:Option (aA×Nat)->aB->Prop}(hb:byT w=false)(cP:t.led=true)(hdr:(!t.plain&&decide (es.size>1))=false)(ho:s.heap.get? a=some o)(hd:o.data=.set es ep t)(hf:t.fits es.size=true)
  (h:Q (match es[SetTable.below t.place slot]?,t.place[SetTable.below t.place slot]? with|some (_,x),some j=>some (x,j+1)|_,_=>none) s):aG (aH prog w) A (iF a slot given ep) Q E s:=by
 have eY:w.params.followText "set-order" = false:=hb;unfold iF;refine aa (ie ho hd hf ?_);dsimp only;unfold nO;refine aa (aa (cF (af ?_)));show aG _ _ (if w.params.followText "set-order" = true then _ else _) _ _ _;rw[if_neg (by rw[eY];exact ai)];show aG _ _ (if (!t.plain&&decide (es.size>1))=true then _ else _) _ _ _;rw[hdr,if_neg ai];refine aa ?_;show aG _ _ (if (!t.led && !es.isEmpty)=true then _ else _) _ _ _;rw[cP,if_neg (by simp)];refine af ?_;exact af h
end
theorem ajd{xs:Array Nat}(h:xs.toList.Pairwise (· < ·)):SetTable.below xs 0=0:=by
 obtain⟨a,b,c⟩:=v4 h 0;apply gf;intro hn;have h0:0<xs.size:=by lia
 have:=b 0 xs[0] (by lia) (by simp[h0]);lia
theorem ai9{xs:Array Nat}(h:xs.toList.Pairwise (· < ·)){i j:Nat}(hi:xs[i]?=some j):SetTable.below xs (j+1)=i+1:=by
 obtain⟨a,b,c⟩:=v4 h (j+1);have hl:=(bp.mp hi).1;by_cases q:SetTable.below xs (j+1)<=i
 .have:=c i j q hi;lia
 by_cases q2:i+1<SetTable.below xs (j+1)
 .have kG:i+1<xs.size:=by lia
  have e:xs[i+1]?=some xs[i+1]:=by simp[kG]
  have h1:=b (i+1) _ q2 e;have h2:=FQ h hi e (by lia);lia
 .lia
def WalkAt(w:aK)(a I:aE)(es:Array (Int×aA))(ep:Nat)(t:SetTable)(os:List aA)(i:Nat)(h:Heap):Prop:=
 (∃o,h.get? a=some o/\o.cls=.type "set"/\o.data=.set es ep t)/\
 ((byT w=true/\os=(iG (w.params.setOrder a ep) es).toList.map (·.2)/\∃slot,h.get? I=some (wm (.int (slot:Nat) 0) i a es.size ep))\/
  (byT w=false/\(!t.plain&&decide (es.size>1))=false/\os=es.toList.map (·.2)/\∃slot,h.get? I=some (wm (.int (slot:Nat) 0) i a es.size ep)/\SetTable.below t.place slot=i)\/
  (∃tp op c,∃ord:List Nat,h.get? I=some (wm (.ref tp) i a es.size ep)/\h.get? tp=some op/\op.cls=.type "tuple"/\op.data=.seq (ord.map λ(p:Nat)=>aA.int (p:Int) 0).toArray c/\os.length=ord.length/\∀(k:Nat) p,ord[k]?=some p->∃e,es[p]?=some e/\os[k]?=some e.2))
section
variable{prog:aI}{w:aK}{A:Around}{E:aA->aB->Prop}{s:aB}{a I:aE}{es:Array (Int×aA)}{ep:Nat}{t:SetTable}{os:List aA}{i:Nat}
theorem WalkAt.keep{h h':Heap}(x:WalkAt w a I es ep t os i h)(k:∀b o,h.get? b=some o->(o.cls=.type "set"\/o.cls=.type "set_iterator"\/o.cls=.type "tuple")->h'.get? b=some o):WalkAt w a I es ep t os i h':=by
 obtain⟨⟨o,h1,h2,h3⟩,hm⟩:=x;refine⟨⟨o,k _ _ h1 (.inl h2),h2,h3⟩,?_⟩;rcases hm with ⟨b1,b2,slot,b3⟩|⟨b1,b2,b3,slot,b4,b5⟩|⟨tp,op,c,ord,b1,b2,b3,b4,b5,b6⟩
 .exact .inl ⟨b1,b2,slot,k _ _ b3 (.inr (.inl rfl))⟩
 .exact .inr (.inl ⟨b1,b2,b3,slot,k _ _ b4 (.inr (.inl rfl)),b5⟩)
 .exact .inr (.inr (nw tp op c ord ⟨k _ _ b1 (.inr (.inl rfl)),k _ _ b2 (.inr (.inr b3)),b3,b4,b5,b6⟩))
theorem ak8{x:aA}{Q:Option aA->aB->Prop}(ok:TOk t es)(cP:t.led = !byT w)(hw:WalkAt w a I es ep t os i s.heap)(hx:os[i]?=some x)
  (hQ:∀h',WalkAt w a I es ep t os (i+1) h'->b9 I s.heap h'->Q (some x) {s with heap:=h'}):aG (aH prog w) A (bB (.ref I)) Q E s:=by
 obtain⟨⟨o,h1,h2,h3⟩,hm⟩:=hw;have qX:∀{h':Heap} {fo:Obj},s.heap.get? I=some fo->fo.cls=.type "set_iterator"->b9 I s.heap h'->h'.get? a=some o:=λ{h' fo} hi hc sb=>by rw[sb.2 a (λe=>by subst e;rw[h1]at hi;cases hi;rw[h2]at hc;exact absurd hc (by decide))];exact h1
 rcases hm with ⟨b1,b2,slot,b3⟩|⟨b1,b2,b3,slot,b4,b5⟩|⟨tp,op,c,ord,b1,b2,b3,b4,b5,b6⟩
 .subst b2;rw[au,bm]at hx;obtain⟨e,he,rfl⟩:=br.mp hx;refine ahe (slot':=slot) b3 h1 h3 ok.fits (λq=>zg b1 h1 h3 ok.fits (by rw[he];exact q)) λh' g sb=>?_;exact hQ h' ⟨⟨o,qX b3 rfl sb,h2,h3⟩,.inl ⟨b1,rfl,slot,g⟩⟩ sb
 .subst b3;rw[au,bm]at hx;obtain⟨e,he,rfl⟩:=br.mp hx;have kH:=(bp.mp he).1;have hpl:t.place[i]?=some (t.place[i]'(by rw[ok.sz];exact kH)):=ce _;have hl:t.led=true:=by rw[cP,b1];rfl
  obtain⟨eh,ev⟩:=e;refine ahe (slot':=t.place[i]'(by rw[ok.sz];exact kH)+1) b4 h1 h3 ok.fits (λq=>w4 b1 hl b2 h1 h3 ok.fits (by rw[b5,he,hpl];exact q)) λh' g sb=>?_;exact hQ h' ⟨⟨o,qX b4 rfl sb,h2,h3⟩,.inr (.inl ⟨b1,b2,rfl,_,g,ai9 ok.rise hpl⟩)⟩ sb
 .have kH:=(ae.mp hx).1;have hio:ord[i]?=some (ord[i]'(by lia)):=ab _;obtain⟨e,e1,e2⟩:=b6 i _ hio;rw[hx]at e2;cases e2;refine alt b1 h1 h3 ok.fits b2 b4 (by rw[List.getElem?_toArray,au,hio];rfl) e1 λh' g sb=>?_;have nt:tp≠I:=λe=>by subst e;rw[b2]at b1;cases b1;exact absurd b3 (by show ¬(aA.type "set_iterator" = aA.type "tuple");decide)
  exact hQ h' ⟨⟨o,qX b1 rfl sb,h2,h3⟩,.inr (.inr (nw tp op c ord ⟨g,by rw[sb.2 tp nt];exact b2,b3,b4,b5,b6⟩))⟩ sb
theorem ank{Q:Option aA->aB->Prop}(hh:A.handled=none)(ok:TOk t es)(cP:t.led = !byT w)(hw:WalkAt w a I es ep t os i s.heap)(hx:os.length<=i)
  (hQ:∀h',kz I s.heap h'->Q none {s with heap:=h'}):aG (aH prog w) A (bB (.ref I)) Q E s:=by
 obtain⟨⟨o,h1,h2,h3⟩,hm⟩:=hw;rcases hm with ⟨b1,b2,slot,b3⟩|⟨b1,b2,b3,slot,b4,b5⟩|⟨tp,op,c,ord,b1,b2,b3,b4,b5,b6⟩
 .subst b2;rw[ah,ax]at hx;refine akh hh b3 h1 h3 ok.fits (λq=>zg b1 h1 h3 ok.fits (by rw[Array.getElem?_eq_none hx];exact q)) hQ
 .subst b3;rw[ah,ax]at hx;have hl:t.led=true:=by rw[cP,b1];rfl
  refine akh hh b4 h1 h3 ok.fits (λq=>w4 b1 hl b2 h1 h3 ok.fits (by rw[b5,Array.getElem?_eq_none hx];exact q)) hQ
 .exact anh hh b1 h1 h3 ok.fits b2 b4 (by rw[List.getElem?_toArray,au,ft (by lia)];rfl) hQ
theorem aim{o:Obj}{Q:aA->aB->Prop}(ho:s.heap.get? a=some o)(gB:o.ExactSet)(hd:o.data=.set es ep t)(ok:TOk t es)(cP:t.led = !byT w)(hsz:es.size<=4000)
  (hQ:∀h' I os dr,os.Perm (es.toList.map (·.2))->WalkAt w a I es ep t os 0 h'->(∀b o,s.heap.get? b=some o->h'.get? b=some o)->s.heap.objs.size<=I->Q (.ref I) {s with heap:=h',drawn:=dr}):aG (aH prog w) A (kQ (.ref a)) Q E s:=by
 have hT:s.TypeIs (.ref a) "set":=⟨o,ho,gB.1⟩;refine jP hT PySem.F.slot_set_iter (ck PySem.F.slot_set_iter hT aa8 ?_ (PySem.F.args_set_iter_1 _));unfold Builtin.«frozenset.__iter__» Builtin.Frozenset.slot0 nN;simp only[List.isEmpty_nil,ir,bi,↓reduceIte,jE,gz,bne_self_eq_false];unfold Builtin.Frozenset.addrOf Builtin.Frozenset.sizeOf;refine aa (af ?_);dsimp only;refine aa (af ?_);refine aa (aa (cL ho hd ok.fits (af ?_)));have Ix:∀{Q:Bool->aB->Prop},Q (!byT w&&(!t.plain&&decide (es.size>1))) s->aG (aH prog w) A.in1 (setDrawn a) Q E s:=λ{Q} q=>by unfold setDrawn;refine aa (ie ho hd ok.fits ?_);dsimp only;unfold nO;refine aa (aa (cF (af ?_)));exact af q
 refine aa (Ix ?_);cases hc:(!byT w&&(!t.plain&&decide (es.size>1)))with
 | true=>
  rw[if_pos rfl];refine aa (adr es.size (cb es.size) s (by rw[f8]) λord dr hp=>?_);simp only[gS];have jV:ord.length=es.size:=by rw[hp.length_eq,f8]
  obtain⟨vZ,uR⟩:∃ob:Obj,ob={cls:=.type "tuple",data:=.seq (ord.map λ(p:Nat)=>aA.int (p:Int) 0).toArray}:=⟨_,rfl⟩;have eW:((ord.map λ(p:Nat)=>aA.int (p:Int) 0).toArray).size<=aF:=by rw[a9,ah,jV,iw];lia
  refine aa (cm ?_ eW);show aG _ _ _ _ _ {s with heap:=s.heap.push {cls:=.type "tuple",data:=.seq (ord.map λ(p:Nat)=>aA.int (p:Int) 0).toArray},drawn:=dr};rw[<-uR];have B4:∀b ob,s.heap.get? b=some ob->(s.heap.push vZ).get? b=some ob:=λb ob e=>am _ e;have ht1:(s.heap.push vZ).get? s.heap.objs.size=some vZ:=az _ (by rw[uR];rfl);refine aa (Bx (B4 _ _ ho) hd ok.fits ?_);have hg:((s.heap.push vZ).push (wm (.ref s.heap.objs.size) 0 a es.size ep)).get? (s.heap.push vZ).objs.size=some (wm (.ref s.heap.objs.size) 0 a es.size ep):=az _ rfl;have B0:∀b ob,(s.heap.push vZ).get? b=some ob->((s.heap.push vZ).push (wm (.ref s.heap.objs.size) 0 a es.size ep)).get? b=some ob:=λb ob e=>am _ e;refine aa (cm (af (o8 _ rfl ("set_iterator") _ ⟨⟨_,hg,rfl⟩,slot_setit_next.lookup,?_⟩)));have jU:(ord.map λp=>(es[p]?.map (·.2)).getD aA.none).Perm (es.toList.map (·.2)):=by
   have h1:=hp.map λp=>(es[p]?.map (·.2)).getD aA.none;have h2:(cb es.size).map (λp=>(es[p]?.map (·.2)).getD aA.none)=es.toList.map (·.2):=by
    apply List.ext_getElem
    .simp
    .intro k a1 b1;have hk:k<es.size:=by simpa using b1
     simp[hk]
   rw[h2]at h1;exact h1
  refine hQ _ _ _ dr jU ⟨⟨o,B0 _ _ (B4 _ _ ho),gB.1,hd⟩,.inr (.inr (nw s.heap.objs.size vZ 0 ord ⟨hg,B0 _ _ ht1,by rw[uR],by rw[uR],by rw[ah],λk p hk=>?_⟩))⟩ (λb ob e=>B0 _ _ (B4 _ _ e)) (by rw[mf];exact ll _);have hpl:p<es.size:=fh.mp (hp.mem_iff.mp (ak hk));refine⟨es[p],ce hpl,?_⟩;rw[au,hk];show some ((es[p]?.map (·.2)).getD aA.none)=_;rw[ce hpl];rfl
 | false=>
  rw[if_neg ai];refine aa (af ?_);refine aa (Bx ho hd ok.fits ?_);have hg:(s.heap.push (wm (.int ((0:Nat):Int) 0) 0 a es.size ep)).get? s.heap.objs.size=some (wm (.int ((0:Nat):Int) 0) 0 a es.size ep):=az _ rfl;have kp:∀b ob,s.heap.get? b=some ob->(s.heap.push (wm (.int ((0:Nat):Int) 0) 0 a es.size ep)).get? b=some ob:=λb ob e=>am _ e;refine aa (cm (af (o8 _ rfl ("set_iterator") _ ⟨⟨_,hg,rfl⟩,slot_setit_next.lookup,?_⟩)));cases hb:byT w with
  | true=>exact hQ _ _ _ s.drawn ((akf _ es).map _) ⟨⟨o,kp _ _ ho,gB.1,hd⟩,.inl ⟨hb,rfl,0,hg⟩⟩ kp (aq _)
  | false=>
   rw[hb]at hc;exact hQ _ _ _ s.drawn (km _) ⟨⟨o,kp _ _ ho,gB.1,hd⟩,.inr (.inl ⟨hb,by simpa using hc,rfl,0,hg,ajd ok.rise⟩)⟩ kp (aq _)
end
theorem anv:Ai (.type "set") "__len__" = aS (some (.builtin "set.__len__")):=by rw[Gj,vP];kernel_rfl
section
variable{prog:aI}{w:aK}{A:Around}{a I S:aE}{es:Array (Int×aA)}{ep:Nat}{t:SetTable}{os:List aA}{R:kU->aB->Prop}
theorem aeb(hh:A.in1.handled=none)(ok:TOk t es)(cP:t.led = !byT w)(wS:os.length<=4000)(res:aA)(h0:Heap)(EK:h0.get? I=none)(hS0:h0.get? S=none) :
  ∀(k i:Nat)(s:aB)(c:Nat),os.length-i=k->i<=os.length->WalkAt w a I es ep t os i s.heap->s.heap.get? S=some {cls:=.type "list",dict:=none,data:=.seq (os.take i).toArray c,slots:=#[]}->(∀b o,h0.get? b=some o->s.heap.get? b=some o)->
  (∀h' c',h'.get? S=some {cls:=.type "list",dict:=none,data:=.seq os.toArray c',slots:=#[]}->(∀b o,h0.get? b=some o->h'.get? b=some o)->R (.ok (.ret res)) {s with heap:=h'})->
  cH (aH prog w) A (.builtin "list.extend.loop" ⟨[.ref S,.ref I,res],[]⟩) R s:=by
 intro k;induction k with
 | zero=>
  intro i s c hk hi hw hS tQ hR;have tR:i=os.length:=by lia
  subst tR;rw[l9]at hS;refine jb PySem.F.entry_extend_loop (show _ from ?_);rw[gu PySem.F.plain_extend_loop (_:Args)];show aG _ A.in1 (bB (.ref I) >>= _) _ _ s;have GQ:S≠I:=λe=>by
   subst e;rcases hw.2 with ⟨_,_,slot,b3⟩|⟨_,_,_,slot,b4,_⟩|⟨tp,op,c,ord,b1,_⟩
   .rw[hS]at b3;injection b3 with b3;injection b3 with b3;exact absurd b3 (by decide)
   .rw[hS]at b4;injection b4 with b4;injection b4 with b4;exact absurd b4 (by decide)
   .rw[hS]at b1;injection b1 with b1;injection b1 with b1;exact absurd b1 (by decide)
  refine aa (ank hh ok cP hw (aq _) λh' hx=>?_);exact af (hR h' c (hx S _ GQ hS) λb o e=>hx b o (λz=>by rw[z,EK]at e;cases e) (tQ b o e))
 | succ k ih=>
  intro i s c hk hi hw hS tQ hR;have cN:i<os.length:=by lia
  refine jb PySem.F.entry_extend_loop (show _ from ?_);rw[gu PySem.F.plain_extend_loop (_:Args)];show aG _ A.in1 (bB (.ref I) >>= _) _ _ s;have GQ:S≠I:=λe=>by
   subst e;rcases hw.2 with ⟨_,_,slot,b3⟩|⟨_,_,_,slot,b4,_⟩|⟨tp,op,c,ord,b1,_⟩
   .rw[hS]at b3;injection b3 with b3;injection b3 with b3;exact absurd b3 (by decide)
   .rw[hS]at b4;injection b4 with b4;injection b4 with b4;exact absurd b4 (by decide)
   .rw[hS]at b1;injection b1 with b1;injection b1 with b1;exact absurd b1 (by decide)
  refine aa (ak8 ok cP hw (ab cN) λh' hw' sb=>?_);have kS:h'.get? S=some {cls:=.type "list",dict:=none,data:=.seq (os.take i).toArray c,slots:=#[]}:=by rw[sb.2 S GQ];exact hS
  show aG _ A.in1 (kO S (·.push os[i]) >>= _) _ _ _;refine aa ?_;have oV:(os.take i).toArray.size<=aF:=by rw[a9,b8,iw];lia
  have tH:((os.take i).toArray.push os[i]).size<=aF+1:=by rw[Array.size_push];lia
  refine cT kS rfl (af ⟨ln PySem.F.plain_extend_loop _,ih (i+1) _ (c+1) (by lia) cN (hw'.keep λb o e hc=>?_) ?_ (λb o e=>?_) λsH c' g kp=>?_⟩) oV tH
  .have:b≠S:=λz=>by
    subst z;rw[kS]at e;cases e;have iP:aA.type "list" = .type "set"\/aA.type "list" = .type "set_iterator"\/aA.type "list" = .type "tuple":=hc;revert iP;decide
   exact(dh _ _ (Ne.symm this)).trans e
  .have g:=cn (ix (·.push os[i])) kS rfl;have e1:(os.take i).toArray.push os[i]=(os.take (i+1)).toArray:=by rw[List.push_toArray,List.take_append_getElem cN]
   rw[<-e1];exact g.trans (congrArg some (Obj.mapSeq_push_plain _ _ _))
  .have nb:b≠S:=λz=>by rw[z,hS0]at e;cases e
   refine(dh _ _ (Ne.symm nb)).trans ?_;rw[sb.2 b (λz=>by rw[z,EK]at e;cases e)];exact tQ b o e
  .exact hR sH c' g kp
theorem ael{o:Obj}{E:aA->aB->Prop}{Q:List aA->aB->Prop}{s:aB}(hh:A.handled=none)(ho:s.heap.get? a=some o)(gB:o.ExactSet)(hd:o.data=.set es ep t)(ok:TOk t es)(cP:t.led = !byT w)(hsz:es.size<=4000)
  (hQ:∀h' os dr,os.Perm (es.toList.map (·.2))->(∀b o,s.heap.get? b=some o->h'.get? b=some o)->Q os {s with heap:=h',drawn:=dr}):aG (aH prog w) A (collect (.ref a)) Q E s:=by
 unfold collect;refine aa (wpAny_runValue (jb PySem.F.entry_proto_collect ?_));rw[gu PySem.F.plain_proto_collect _];show aG _ A.in1 (newList [] >>= λl=>again (.builtin "list.__iadd__" ⟨[l,.ref a],[]⟩)) _ _ s;refine aa (cm ?_);refine af ⟨ln PySem.F.plain_list_iadd _,jb PySem.F.entry_list_iadd ?_⟩;rw[gu PySem.F.plain_list_iadd _];show aG _ A.in1 (Builtin.List.listExtendWith (.ref s.heap.objs.size) (.ref a) (.ref s.heap.objs.size)) _ _ _;have tO:=bq ho;unfold Builtin.List.listExtendWith;generalize hH:s.heap.push {cls:=.type "list",data:=.seq ([]:List aA).toArray}=H;have hHs:H.objs.size=s.heap.objs.size+1:=by rw[<-hH,mf]
 have kp:∀b ob,s.heap.get? b=some ob->H.get? b=some ob:=λb ob e=>hH▸am _ e;have hHS:H.get? s.heap.objs.size=some {cls:=.type "list",data:=.seq ([]:List aA).toArray}:=hH▸az _ rfl;have hT:∀(s':aB),s'.heap.get? a=some o->s'.TypeIs (.ref a) "set":=λs' e=>⟨o,e,gB.1⟩;refine aa (eB (T:="set") (hT _ (kp _ _ ho)) ?_);have h1:Builtin.List.listSameRef (.ref s.heap.objs.size) (.ref a)=false:=by show(s.heap.objs.size==a)=false;exact beq_false_of_ne (Nat.ne_of_gt tO)
 have h2:(aA.type "set" == aA.type "list")=false:=by decide
 have h3:(aA.type "set" == aA.type "tuple")=false:=by decide
 simp only[h1,h2,h3,Bool.or_false,bi,if_false];refine aa (aim (kp _ _ ho) gB hd ok cP hsz λh1 I os dr hp hw k1 hI=>?_);refine aa (gk ?_);unfold Builtin.List.listLengthHint;have Au:h1.get? a=some o:=k1 _ _ (kp _ _ ho);refine aa (lg (T:="set") (v:=.ref a) (hT _ Au) anv ?_)
 wp_delta
 refine aa (lv (T:="set") (v:=.ref a) (b:=true) (hT _ Au) (by rw[isSubtype_type];kernel_rfl) ?_);show aG _ A.in1 (typeOf (aA.ref a) >>= _) _ _ _;refine aa (eB (T:="set") (v:=.ref a) (hT _ Au) ?_);refine af ?_;rw[if_pos (by decide)];show aG _ A.in1 (wJ "list.extend.makes-room" >>= λ_=>Builtin.List.listTouch (.ref s.heap.objs.size) >>= λ_=>
  again (.builtin "list.extend.loop" ⟨[.ref s.heap.objs.size,.ref I,.ref s.heap.objs.size],[]⟩)) _ _ _
 refine aa (k8 ?_);refine aa ?_;show aG _ A.in1 (kO s.heap.objs.size (·.push .none) >>= λ_=>kO s.heap.objs.size (·.pop)) _ _ _;have hS:h1.get? s.heap.objs.size=some {cls:=.type "list",data:=.seq ([]:List aA).toArray}:=k1 _ _ hHS;refine aa (cT hS rfl ?_);have hS₂:=cn (ix (·.push aA.none)) hS rfl;refine cT (hz:=by seq_fits) hS₂ rfl ?_;have hS₃:=cn (ix (·.pop)) hS₂ rfl;have oth:∀b ob,b≠s.heap.objs.size->h1.get? b=some ob->((h1.update s.heap.objs.size (ix (·.push aA.none))).update s.heap.objs.size (ix (·.pop))).get? b=some ob:=
  λb ob hb e=>(dh _ _ (Ne.symm hb)).trans ((dh _ _ (Ne.symm hb)).trans e)
 have EK:s.heap.get? I=none:=by
  cases q:s.heap.get? I with
  | none=>rfl
  | some ob=>
   have hI':H.objs.size<=I:=hI;exact absurd (bq q) (Nat.not_lt.mpr (dv (by rw[hHs];exact ll _) hI'))
 have hS0:s.heap.get? s.heap.objs.size=none:=by
  cases q:s.heap.get? s.heap.objs.size with
  | none=>rfl
  | some ob=>exact absurd (bq q) (j4 _)
 refine af ⟨ln PySem.F.plain_extend_loop _,aeb hh ok cP (by rw[hp.length_eq,ah,ax];exact hsz) _ s.heap EK hS0 os.length 0 _ _ rfl (f7 _) (hw.keep λb ob e hc=>oth b ob (λz=>?_) e) hS₃ (λb ob e=>oth b ob (λz=>?_) (k1 _ _ (kp _ _ e))) λh2 c2 g2 k2=>?_⟩
 .subst z;rw[hS]at e;cases e;have iP:aA.type "list" = .type "set"\/aA.type "list" = .type "set_iterator"\/aA.type "list" = .type "tuple":=hc;revert iP;decide
 .subst z;rw[hS0]at e;cases e
 .show aG _ A (load s.heap.objs.size >>= _) _ _ _;refine aa (wpAny_load g2 ?_);refine af ?_;exact hQ h2 os dr hp k2
end
end L3
namespace L3
open PySem PySem.Spec PyProof.Rows L2
mutual
def Cmp:PyData->PyData->Prop
 | .int _,.int _=>True
 | .str _,.str _=>True
 | .tuple xs,.tuple ys=>mG xs ys
 | _,_=>False
def mG:List PyData->List PyData->Prop
 | [],_=>True
 | _::_,[]=>True
 | x::xs,y::ys=>Cmp x y/\mG xs ys
end
mutual
noncomputable def ltD:PyData->PyData->Bool
 | .int a,.int b=>decide (a<b)
 | .str a,.str b=>sLt a b
 | .tuple xs,.tuple ys=>ltL xs ys
 | _,_=>false
noncomputable def ltL:List PyData->List PyData->Bool
 | [],[]=>false
 | [],_::_=>true
 | _::_,[]=>false
 | x::xs,y::ys=>if bw x y=true then ltL xs ys else ltD x y
end
noncomputable def sT(xs:List Nat):List Int:=xs.map λ(c:Nat)=>(c:Int)+1
mutual
noncomputable def enc:PyData->List Int
 | .int a=>[1,a]
 | .str x=>2::(sT x.cps.toList++[0])
 | .tuple ds=>3::(nB ds++[0])
 | .none=>[9]
 | .bool _=>[9]
 | .list _=>[9]
 | .dict _=>[9]
noncomputable def nB:List PyData->List Int
 | []=>[]
 | d::ds=>enc d++nB ds
end
theorem al4:∀(xs ys:List Nat)(r r':List Int),(sT xs++0::r<sT ys++0::r')↔(xs<ys\/xs=ys/\r<r')
 | [],[],r,r'=>by simp[sT,ge]
 | [],y::ys,r,r'=>by
  have:(0:Int)<(y:Int)+1:=by lia
  simp[sT,ge,this]
 | x::xs,[],r,r'=>by
  have h1:¬((x:Int)+1<0):=by lia
  have h2:¬((x:Int)+1=0):=by lia
  simp[sT,ge,h1,h2]
 | x::xs,y::ys,r,r'=>by
  have ih:=al4 xs ys r r';unfold sT at ih⊢;simp only[cy,List.cons_append,ge,ih,List.cons.injEq];have h1:((x:Int)+1<(y:Int)+1)↔x<y:=by lia
  have h2:((x:Int)+1=(y:Int)+1)↔x=y:=by lia
  rw[h1,h2];constructor
  .rintro(h|⟨h,h'|⟨h',sH⟩⟩)
   .exact .inl (.inl h)
   .exact .inl (.inr ⟨h,h'⟩)
   .exact .inr ⟨⟨h,h'⟩,sH⟩
  .rintro((h|⟨h,h'⟩)|⟨⟨h,h'⟩,sH⟩)
   .exact .inl h
   .exact .inr ⟨h,.inl h'⟩
   .exact .inr ⟨h,.inr ⟨h',sH⟩⟩
theorem aj8:∀(d:PyData)(r:List Int),∃a t,enc d++r=a::t/\(0:Int)<a
 | .int a,r=>(nq 1 _ ⟨rfl,by decide⟩)
 | .str x,r=>(nq 2 _ ⟨rfl,by decide⟩)
 | .tuple ds,r=>(nq 3 _ ⟨rfl,by decide⟩)
 | .none,r=>(nq 9 _ ⟨rfl,by decide⟩)
 | .bool _,r=>(nq 9 _ ⟨rfl,by decide⟩)
 | .list _,r=>(nq 9 _ ⟨rfl,by decide⟩)
 | .dict _,r=>(nq 9 _ ⟨rfl,by decide⟩)
mutual
theorem ao7:∀(x y:PyData)(r r':List Int),Cmp x y->((enc x++r<enc y++r')↔(if bw x y=true then r<r' else ltD x y=true))
 | .int a,.int b,r,r',_=>by
  have e:bw (.int a) (.int b)=(a==b):=rfl;rw[e];show(1::a::r<1::b::r')↔_;simp only[ge,ltD];by_cases h:a=b
  .subst h;simp
  .simp[h]
 | .str a,.str b,r,r',_=>by
  have e:bw (.str a) (.str b)=(a==b):=rfl;rw[e];show(2::((sT a.cps.toList++[0])++r)<2::((sT b.cps.toList++[0])++r'))↔_;rw[ge,bz,bz];show(_\/_/\(sT a.cps.toList++0::r<sT b.cps.toList++0::r'))↔_;rw[al4];have hx:a=b↔a.cps.toList=b.cps.toList:=⟨λh=>by rw[h],λh=>by cases a;cases b;simp only at h;congr;exact Array.ext' h⟩;by_cases h:a=b
  .subst h;simp[List.lt_irrefl]
  .have h':¬a.cps.toList=b.cps.toList:=λz=>h (hx.mpr z);simp[h,h',ltD,sLt]
 | .tuple xs,.tuple ys,r,r',hc=>by
  have e:bw (.tuple xs) (.tuple ys)=c9 xs ys:=by simp[bw]
  rw[e];show(3::((nB xs++[0])++r)<3::((nB ys++[0])++r'))↔_;rw[ge,bz,bz];show(_\/_/\(nB xs++0::r<nB ys++0::r'))↔(if c9 xs ys=true then r<r' else ltL xs ys=true);rw[amg xs ys r r' hc];simp
theorem amg:∀(xs ys:List PyData)(r r':List Int),mG xs ys->((nB xs++0::r<nB ys++0::r')↔(if c9 xs ys=true then r<r' else ltL xs ys=true))
 | [],[],r,r',_=>by simp[nB,c9,ge]
 | [],y::ys,r,r',_=>by obtain⟨a,t,e,h⟩:=aj8 y (nB ys++0::r');show(0::r<(enc y++nB ys)++0::r')↔_;rw[bz,e,ge];simp[h,c9,ltL]
 | x::xs,[],r,r',_=>by
  obtain⟨a,t,e,h⟩:=aj8 x (nB xs++0::r);show((enc x++nB xs)++0::r<0::r')↔_;rw[bz,e,ge];have h1:¬a<0:=by lia
  have h2:¬a=0:=by lia
  simp[h1,h2,c9,ltL]
 | x::xs,y::ys,r,r',hc=>by
  have iP:Cmp x y/\mG xs ys:=hc;show((enc x++nB xs)++0::r<(enc y++nB ys)++0::r')↔(if (bw x y&&c9 xs ys)=true then r<r' else(if bw x y=true then ltL xs ys else ltD x y)=true);rw[bz,bz,ao7 x y _ _ iP.1];cases h:bw x y with
  | true=>
   simp only[if_true,Bool.true_and];exact amg xs ys r r' iP.2
  | false=>simp
end
mutual
theorem amt:∀(x y:PyData),Cmp x y->bw x y=true->ltD x y=false
 | .int a,.int b,_,h=>by
  have e:bw (.int a) (.int b)=(a==b):=rfl;rw[e]at h;have:a=b:=by simpa using h
  subst this;simp[ltD]
 | .str a,.str b,_,h=>by
  have e:bw (.str a) (.str b)=(a==b):=rfl;rw[e]at h;have:a=b:=by simpa using h
  subst this;exact ar9 a
 | .tuple xs,.tuple ys,hc,h=>ag7 xs ys hc (by simpa [bw]using h)
theorem ag7:∀(xs ys:List PyData),mG xs ys->c9 xs ys=true->ltL xs ys=false
 | [],[],_,_=>rfl
 | [],_::_,_,h=>by simp[c9]at h
 | _::_,[],_,h=>by simp[c9]at h
 | x::xs,y::ys,hc,h=>by
  have h':bw x y=true/\c9 xs ys=true:=by simpa [c9]using h
  show(if bw x y=true then ltL xs ys else ltD x y)=false;rw[if_pos h'.1];exact ag7 xs ys (show Cmp x y/\mG xs ys from hc).2 h'.2
end
mutual
theorem als:∀(x y:PyData),Cmp x y->bw y x=bw x y
 | .int a,.int b,_=>by show(b==a)=(a==b);exact Bool.beq_comm
 | .str a,.str b,_=>by show(b==a)=(a==b);exact Bool.beq_comm
 | .tuple xs,.tuple ys,hc=>by have:=ahm xs ys hc;simpa [bw]using this
theorem ahm:∀(xs ys:List PyData),mG xs ys->c9 ys xs=c9 xs ys
 | [],[],_=>rfl
 | [],_::_,_=>rfl
 | _::_,[],_=>rfl
 | x::xs,y::ys,hc=>by have iP:Cmp x y/\mG xs ys:=hc;show(bw y x&&c9 ys xs)=(bw x y&&c9 xs ys);rw[als x y iP.1,ahm xs ys iP.2]
end
mutual
theorem ajx:∀(x y:PyData),Cmp x y->bw x y=false->ltD x y=true\/ltD y x=true
 | .int a,.int b,_,h=>by
  have e:bw (.int a) (.int b)=(a==b):=rfl;rw[e]at h;have:a≠b:=by simpa using h
  simp only[ltD,decide_eq_true_eq];lia
 | .str a,.str b,_,h=>by
  have e:bw (.str a) (.str b)=(a==b):=rfl;rw[e]at h;have:a≠b:=by simpa using h
  show sLt a b=true\/sLt b a=true;cases h1:sLt a b with
  | true=>exact .inl rfl
  | false=>
   cases h2:sLt b a with
   | true=>exact .inr rfl
   | false=>exact absurd (apb h1 h2) this
 | .tuple xs,.tuple ys,hc,h=>al6 xs ys hc (by simpa [bw]using h)
theorem al6:∀(xs ys:List PyData),mG xs ys->c9 xs ys=false->ltL xs ys=true\/ltL ys xs=true
 | [],[],_,h=>by simp[c9]at h
 | [],_::_,_,h=>.inl rfl
 | _::_,[],_,h=>.inr rfl
 | x::xs,y::ys,hc,h=>by
  have iP:Cmp x y/\mG xs ys:=hc;show(if bw x y=true then ltL xs ys else ltD x y)=true\/(if bw y x=true then ltL ys xs else ltD y x)=true;have hs:bw y x=bw x y:=als x y iP.1;rw[hs];cases h1:bw x y with
  | true=>
   have h2:c9 xs ys=false:=by simpa [c9,h1]using h
   simpa using al6 xs ys iP.2 h2
  | false=>simpa using ajx x y iP.1 h1
end
theorem vn{x y:PyData}(h:Cmp x y):ltD x y=decide (enc x<enc y):=by
 have k:=ao7 x y [] [] h;rw[dg,dg]at k;cases he:bw x y with
 | true=>
  rw[he,if_pos rfl]at k;rw[amt x y h he];exact(decide_eq_false λz=>List.lt_irrefl _ (k.mp z)).symm
 | false=>
  rw[he,if_neg ai]at k;cases hl:ltD x y with
  | true=>exact(decide_eq_true (k.mpr hl)).symm
  | false=>exact(decide_eq_false λz=>by have:=k.mp z;rw[hl]at this;cases this).symm
theorem aqy{x y:PyData}(h:Cmp x y)(h':Cmp y x)(hx:kd x=true)(hy:kd y=true)(h1:¬enc x<enc y)(h2:¬enc y<enc x):x=y:=by
 cases he:bw x y with
 | true=>exact Fs x y hx hy he
 | false=>
  rcases ajx x y h he with z|z
  .rw[vn h]at z;exact absurd (of_decide_eq_true z) h1
  .rw[vn h']at z;exact absurd (of_decide_eq_true z) h2
noncomputable def ltE(ds:List PyData)(i j:Nat):Bool:=decide (enc (ds.getD i .none)<enc (ds.getD j .none))
noncomputable def ww(ds:List PyData):List PyData:=(srt (ltE ds) ds.length).map λi=>ds.getD i .none
theorem asi(ds:List PyData):Ord (ltE ds)where
 asy:=λa b h=>decide_eq_false (List.lt_asymm (of_decide_eq_true h))
 tr:=λa b c h1 h2=>by have fT:enc (ds.getD a .none)<=enc (ds.getD b .none):=of_decide_eq_false h1;have gI:enc (ds.getD b .none)<=enc (ds.getD c .none):=of_decide_eq_false h2;exact decide_eq_false (List.le_trans fT gI)
theorem rf(ds:List PyData):(ww ds).Perm ds:=by have h:=(Ls (ltE ds) ds.length).map λi=>ds.getD i .none;rw[we]at h;exact h
theorem u8(ds:List PyData):(ww ds).length=ds.length:=(rf ds).length_eq
theorem Li(ds:List PyData):(ww ds).Pairwise λx y=>¬enc y<enc x:=by
 rw[ik];intro i j hi hj cW;have iU:j<ds.length:=by rw[u8]at hj;exact hj
 have u:=ao0 (asi ds) ds.length (gj cW) iU;have vG:j<(srt (ltE ds) ds.length).length:=by rw[yi];exact iU
 have his:i<(srt (ltE ds) ds.length).length:=by lia
 rw[df,df,ab vG,ab his]at u;have u':=of_decide_eq_false u;have e:∀k (h:k<(ww ds).length) (h':k<(srt (ltE ds) ds.length).length),(ww ds)[k]=ds.getD (srt (ltE ds) ds.length)[k] .none:=λk h h'=>by simp[ww]
 rw[e j hj vG,e i hi his];exact u'
def CmpA(ds:List PyData):Prop:=(∀x∈ds,∀y∈ds,Cmp x y)/\∀x∈ds,kd x=true
theorem CmpA.sub{ds es:List PyData}(h:CmpA ds)(hs:∀x∈es,x∈ds):CmpA es:=⟨λx hx y hy=>h.1 x (hs x hx) y (hs y hy),λx hx=>h.2 x (hs x hx)⟩
theorem Ld:∀{xs ys:List PyData},xs.Perm ys->CmpA xs->xs.Pairwise (λx y=>¬enc y<enc x)->ys.Pairwise (λx y=>¬enc y<enc x)->xs=ys
 | [],ys,p,_,_,_=>(List.Perm.nil_eq p).symm▸rfl
 | x::xs,[],p,_,_,_=>absurd p.length_eq (by simp)
 | x::xs,y::ys,p,hc,hx,hy=>by
  have tJ:=ij.mp hx;have B9:=ij.mp hy;have m1:y∈x::xs:=p.mem_iff.mpr aw;have m2:x∈y::ys:=p.mem_iff.mp aw;have a1:¬enc y<enc x:=by
   rcases bb.mp m1 with e|m
   .rw[e];exact List.lt_irrefl _
   .exact tJ.1 y m
  have a2:¬enc x<enc y:=by
   rcases bb.mp m2 with e|m
   .rw[e];exact List.lt_irrefl _
   .exact B9.1 x m
  have e:x=y:=aqy (hc.1 x aw y m1) (hc.1 y m1 x aw) (hc.2 x aw) (hc.2 y m1) a2 a1;subst e;rw[Ld (List.Perm.cons_inv p) (hc.sub λz hz=>a8 _ hz) tJ.2 B9.2]
theorem abt{xs ys:List PyData}(p:xs.Perm ys)(hc:CmpA xs):ww xs=ww ys:=
 Ld ((rf xs).trans (p.trans (rf ys).symm)) (hc.sub λx hx=>(rf xs).mem_iff.mp hx) (Li xs) (Li ys)
def LtAt(A:Around)(s:aB)(u v:aA)(b:Bool):Prop:=∀(prog:aI)(w:aK)(E:aA->aB->Prop)(Q:aA->aB->Prop),Q (.bool b) s->aG (aH prog w) A (richCompare .Lt u v) Q E s
theorem LtAt.int{A:Around}{s:aB}(a:Int)(t:Bq)(c:Int)(u:Bq):LtAt A s (.int a t) (.int c u) (decide (a<c)):=λprog w E Q h=>
 (PyProof.Rows.lt_int h:aG (aH prog w) A (aV .Lt (.int a t) (.int c u)) Q E s)
theorem LtAt.str{A:Around}{s:aB}(a:Str)(t:Bq)(c:Str)(u:Bq):LtAt A s (.str a t) (.str c u) (sLt a c):=λprog w E Q h=>
 (PyProof.Rows.lt_str h:aG (aH prog w) A (aV .Lt (.str a t) (.str c u)) Q E s)
def DG(A:Around)(s:aB):List aA->List aA->List PyData->List PyData->Prop
 | v::vs,w::ws,x::xs,y::ys=>SeqAt.EqAt A s v w (bw x y)/\LtAt A s v w (ltD x y)/\DG A s vs ws xs ys
 | [],_,[],_=>True
 | _::_,[],_::_,[]=>True
 | _,_,_,_=>False
section
open PySem.SeqAt
open PySem.AutoSeq1 (wpAny_loadPart')
open PySem.MeetsSeq PySem.MeetsSeq2 PySem.MeetsSeq3
theorem ac8(l b:aE)(items fP:Array aA)(n n2:Nat)(dd xH:Option aE)(sl wD:Array (Option aA))(xs ys:List PyData)(hi:items.toList.length=xs.length)(hj:fP.toList.length=ys.length) :
  Meets (Builtin.«tuple.__lt__» ⟨[.ref l,.ref b],[]⟩)
   (λA R s=>s.heap.get? l=some {cls:=.type "tuple",dict:=dd,data:=.seq items n,slots:=sl}/\s.heap.get? b=some {cls:=.type "tuple",dict:=xH,data:=.seq fP n2,slots:=wD}/\
    DG A.in1 s items.toList fP.toList xs ys/\R (.ok (.ret (.bool (ltL xs ys)))) s):=
 .of_wp λprog w A R s h=>by
  obtain⟨hp,g,d,tk,os⟩:=s;obtain⟨hl,hb,hP,h⟩:=h;have f2:=AutoSeq1.sub_tuple_tuple;have z1:items.size=xs.length:=by rw[<-hi];simp
  have z2:fP.size=ys.length:=by rw[<-hj];simp
  wp_walk using wpAny_loadPart' hl,wpAny_loadPart' hb,l7 _ (λaZ b s'=>b.1=none/\s'=⟨hp,g,d,tk,os⟩/\∃(vs ws:List aA)(oU pX:List PyData),aZ=vs.zip ws/\
   vs.length=oU.length/\ws.length=pX.length/\DG A.in1 ⟨hp,g,d,tk,os⟩ vs ws oU pX/\oU.length+fP.size=pX.length+items.size/\R (.ok (.ret (.bool (ltL oU pX)))) ⟨hp,g,d,tk,os⟩) _
  case turn=>
   rintro⟨y,x⟩ aZ b s' ⟨eY,rfl,vs,ws,oU,pX,hz,Ew,Eu,hpa,bD,hR⟩;cases vs with
   | nil=>rw[List.zip_nil_left]at hz;cases hz
   | cons v vs=>
    cases ws with
    | nil=>rw[List.zip_nil_right]at hz;cases hz
    | cons w' ws=>
     cases oU with
     | nil=>cases Ew
     | cons n' oU=>
      cases pX with
      | nil=>cases Eu
      | cons m' pX=>
       rw[List.zip_cons_cons]at hz;injection hz with hyx rH
       injection hyx with hy hx
       subst hy hx;obtain⟨he,cN,HC⟩:=hpa;have EH:R (.ok (.ret (.bool (if bw n' m'=true then ltL oU pX else ltD n' m')))) ⟨hp,g,d,tk,os⟩:=hR;simp only[b7]at bD Ew Eu;refine aa (he prog w _ _ ?_);cases hq:bw n' m' with
       | true=>
        rw[hq,if_pos rfl]at EH
        wp_walk
        exact⟨rfl,rfl,(nw _ _ _ _ ⟨rH,by lia,by lia,HC,by lia,EH⟩)⟩
       | false=>
        rw[hq,if_neg ai]at EH;have hri:=cN prog w
        wp_walk using hri
        exact⟨_,rfl,by simpa using EH⟩
  case fin=>
   rintro⟨b1,b2⟩ s' ⟨eY,rfl,vs,ws,oU,pX,hz,Ew,Eu,hpa,bD,hR⟩;simp only at eY;subst eY;have hv:ltL oU pX=decide (items.size<fP.size):=by
    cases oU with
    | nil=>
     cases pX with
     | nil=>
      simp only[gz]at bD;show false=_;exact(decide_eq_false (by lia)).symm
     | cons c u=>
      simp only[gz,b7]at bD;show true=_;exact(decide_eq_true (by lia)).symm
    | cons a t=>
     cases pX with
     | nil=>
      simp only[gz,b7]at bD;show false=_;exact(decide_eq_false (by lia)).symm
     | cons c u=>
      cases vs with
      | nil=>cases Ew
      | cons v vs=>
       cases ws with
       | nil=>cases Eu
       | cons w' ws=>
        rw[List.zip_cons_cons]at hz;cases hz
   rw[hv]at hR
   wp_walk
   exact⟨_,rfl,by simpa [Builtin.Tuple.tupleCompareSizes]using hR⟩
  case h=>
   exact⟨rfl,rfl,(nw items.toList fP.toList xs ys ⟨rfl,hi,hj,hP,by lia,h⟩)⟩
end
mutual
theorem aji:∀(x y:PyData),Cmp x y->∀(A:Around)(s:aB)(u v:aA)(as bs:List aE),Reads s.heap u x as->Reads s.heap v y bs->x.canLay0=true->y.canLay0=true->
  A.units+lD x.depth y.depth<aX->LtAt A s u v (ltD x y)
 | .int a,.int b,_=>by intro A s u v as bs r1 r2 _ _ _;cases r1;cases r2;exact LtAt.int _ _ _ _
 | .str a,.str b,_=>by intro A s u v as bs r1 r2 _ _ _;cases r1;cases r2;exact LtAt.str _ _ _ _
 | .tuple xs,.tuple ys,hc=>by
  intro A s u v as bs r1 r2 h1 h2 hu;cases r1 with
  | @tuple a o vs n _ _ e1 e2 e3 z=>
   cases r2 with
   | @tuple a' o' BB n' _ _ f1 f2 f3 z'=>
    obtain⟨cls,dd,data,sl⟩:=o;obtain⟨Dl,xH,data2,wD⟩:=o';simp only at e2 e3 f2 f3;subst e2 e3 f2 f3;intro prog w E Q hq;have hp:=v6 xs ys hc A.in1 s _ _ _ _ z z' h1 h2 (SeqAt.room_in hu);exact richCompare_meets_room (op:=.Lt) ⟨_,e1,rfl⟩ ⟨_,f1,rfl⟩ PySem.F.slot_tuple_lt PySem.F.entry_tuple_lt (PySem.F.args_tuple_lt_2 _ _) (ac8 a a' vs BB n n' dd xH sl wD xs ys (j9 _ _ _ z) (j9 _ _ _ z'))
     ⟨e1,f1,hp,show aA.bool (ltL xs ys)≠aA.notImplemented/\Q (.bool (ltL xs ys)) s from ⟨(λx=>nomatch x),hq⟩⟩ (SeqAt.room_here hu)
theorem v6:∀(xs ys:List PyData),mG xs ys->∀(A:Around)(s:aB)(vs ws:List aA)(as bs:List aE),ReadsAll s.heap vs xs as->ReadsAll s.heap ws ys bs->iz xs=true->iz ys=true->
  A.units+lD (bv xs) (bv ys)<aX->DG A s vs ws xs ys
 | [],_,_=>by
  intro A s vs ws as bs r1 r2 _ _ _;cases r1;cases r2 with
  | nil=>exact True.intro
  | cons _ _=>exact True.intro
 | x::xs,[],_=>by intro A s vs ws as bs r1 r2 _ _ _;cases r1;cases r2;exact True.intro
 | x::xs,y::ys,hc=>by
  intro A s vs ws as bs r1 r2 h1 h2 hu;have fT:x.canLay0=true/\iz xs=true:=by simpa [iz]using h1
  have gI:y.canLay0=true/\iz ys=true:=by simpa [iz]using h2
  cases r1 with
  | cons ra rb=>
   cases r2 with
   | cons rc rd=>
    exact⟨SeqAt.eqAt_reads x y A s _ _ _ _ ra rc fT.1 gI.1 (SeqAt.room_head hu),aji x y (show Cmp x y/\mG xs ys from hc).1 A s _ _ _ _ ra rc fT.1 gI.1 (SeqAt.room_head hu),
     v6 xs ys (show Cmp x y/\mG xs ys from hc).2 A s _ _ _ _ rb rd fT.2 gI.2 (SeqAt.room_tail hu)⟩
end
section
variable{prog:aI}{w:aK}{A:Around}{E:aA->aB->Prop}{s:aB}{Q:Bool->aB->Prop}
theorem ahg{b fin:Bool}:∀(xs ys:List PyData)(vs ws:List aA)(i:Nat),(b=false\/0<i)->vs.length=xs.length->ws.length=ys.length->DG A s vs ws xs ys->fin=decide (xs.length<ys.length)->Q (ltL xs ys) s->
  PySem.W.KatLex prog w A b fin Q (vs.zip ws) i s
 | [],ys,vs,ws,i,hb,l1,l2,hp,hf,q=>by
  cases vs with
  | cons v vs=>cases l1
  | nil=>
   rw[List.zip_nil_left];refine PySem.W.kat_nil ?_;rw[hf];cases ys with
   | nil=>exact q
   | cons y ys=>exact q
 | x::xs,[],vs,ws,i,hb,l1,l2,hp,hf,q=>by
  cases ws with
  | cons v vs=>cases l2
  | nil=>
   rw[List.zip_nil_right];refine PySem.W.kat_nil ?_;rw[hf];exact q
 | x::xs,y::ys,vs,ws,i,hb,l1,l2,hp,hf,q=>by
  cases vs with
  | nil=>cases l1
  | cons v vs=>
   cases ws with
   | nil=>cases l2
   | cons w' ws=>
    rw[List.zip_cons_cons];obtain⟨he,cN,wR⟩:=hp;have q':Q (if bw x y=true then ltL xs ys else ltD x y) s:=q;refine PySem.W.kat_cons (he prog w _ _ ?_);cases hq:bw x y with
    | true=>
     rw[hq,if_pos rfl]at q';refine PySem.W.kat_yes (ahg xs ys vs ws (i+1) (.inr (Nat.succ_pos _)) (by simpa using l1) (by simpa using l2) wR ?_ q');rw[hf];simp
    | false=>
     rw[hq,if_neg ai]at q';refine PySem.W.kat_no ?_;have eY:(b&&i==0)=false:=by
      rcases hb with h|h
      .rw[h];rfl
      .have:(i==0)=false:=by simp;lia
       rw[this];simp
     rw[eY];exact PySem.W.kat_one _ _ (cN prog w _ _ q')
theorem avq{u v:aA}{x y:PyData}{as bs:List aE}(r1:Reads s.heap u x as)(r2:Reads s.heap v y bs)(hx:∃xs,x=.tuple xs)(hy:∃ys,y=.tuple ys)(l1:x.canLay0=true)(l2:y.canLay0=true)(hc:Cmp x y)
  (hu:A.units+lD x.depth y.depth<aX) (q:Q (ltD x y) s):aG (aH prog w) A (nS (tuples' false) u v) Q E s:=by
 obtain⟨xs,rfl⟩:=hx;obtain⟨ys,rfl⟩:=hy;cases r1 with
 | @tuple a o vs n _ _ e1 e2 e3 z=>
  cases r2 with
  | @tuple a' o' BB n' _ _ f1 f2 f3 z'=>
   have k1:=j9 _ _ _ z;have k2:=j9 _ _ _ z';refine PySem.W.kat_lt e1 e3 f1 f3 (ahg xs ys _ _ 0 (.inl rfl) k1 k2 (v6 xs ys hc A s _ _ _ _ z z' l1 l2 ?_) ?_ q)
   .have h1:(PyData.tuple xs).depth=bv xs+1:=rfl;have h2:(PyData.tuple ys).depth=bv ys+1:=rfl;rw[h1,h2]at hu;lia
   .rw[ax]at k1 k2;rw[k1,k2]
end
def TT(d:PyData):Prop:=∃r aZ,d=.tuple (.tuple r::aZ)
theorem ahk{h:Heap}:∀(os:List aA)(ds:List PyData),os.length=ds.length->(∀(i:Nat) v d,os[i]?=some v->ds[i]?=some d->TT d/\∃as,Reads h v d as)->
  ∃fs:List aA,PySem.W.KatTups h os fs/\fs.length=os.length/\∀v∈fs,∃a o,v=.ref a/\h.get? a=some o/\o.cls=.type "tuple"
 | [],_,_,_=>⟨[],trivial,rfl,λv hv=>by cases hv⟩
 | v::os,[],hl,_=>by cases hl
 | v::os,d::ds,hl,hr=>by
  obtain⟨⟨r,aZ,rfl⟩,as,rd⟩:=hr 0 v d rfl rfl;obtain⟨fs,k1,k2,k3⟩:=ahk os ds (by simpa using hl) λi v d h1 h2=>hr (i+1) v d (by simpa using h1) (by simpa using h2);cases rd with
  | @tuple a o vs n _ _ e1 e2 e3 z=>
   generalize hv:vs.toList=vl at z;cases z with
   | cons ra rb=>
    cases ra with
    | @tuple a' o' BB n' _ _ f1 f2 f3 z'=>
     refine⟨.ref a'::fs,PySem.W.KatTups.cons e1 e2 e3 (by rw[<-bm,hv];rfl) k1,by rw[b7,b7,k2],λv hv=>?_⟩;rcases bb.mp hv with rfl|hv
     .exact(nq a' o' ⟨rfl,f1,f2⟩)
     .exact k3 v hv
def RL(R:aA->PyData->Prop):List aA->List PyData->Prop
 | [],[]=>True
 | v::vs,d::ds=>R v d/\RL R vs ds
 | _,_=>False
theorem RL.perm{R:aA->PyData->Prop}{os vs:List aA}(p:os.Perm vs):∀{ds:List PyData},RL R vs ds->∃eQ,eQ.Perm ds/\RL R os eQ:=by
 induction p with
 | nil=>intro ds h;exact⟨ds,.refl _,h⟩
 | cons x p ih=>
  intro ds h;cases ds with
  | nil=>exact h.elim
  | cons d ds=>
   obtain⟨eQ,p',h'⟩:=ih h.2;exact⟨d::eQ,p'.cons d,h.1,h'⟩
 | swap x y l=>
  intro ds h
  match ds,h with
  | d1::d2::ds,h=>exact⟨d2::d1::ds,.swap _ _ _,h.2.1,h.1,h.2.2⟩
 | trans p1 p2 ih1 ih2=>
  intro ds h;obtain⟨d1,q1,h1⟩:=ih2 h;obtain⟨d2,q2,h2⟩:=ih1 h1;exact⟨d2,q2.trans q1,h2⟩
theorem RL.length{R:aA->PyData->Prop}:∀{vs:List aA} {ds:List PyData},RL R vs ds->vs.length=ds.length
 | [],[],_=>rfl
 | v::vs,d::ds,h=>by rw[b7,b7,RL.length h.2]
 | [],_::_,h=>h.elim
 | _::_,[],h=>h.elim
theorem RL.at{R:aA->PyData->Prop}:∀{vs:List aA} {ds:List PyData} {i:Nat} {v:aA} {d:PyData},RL R vs ds->vs[i]?=some v->ds[i]?=some d->R v d
 | v::vs,d::ds,0,_,_,h,h1,h2=>by cases h1;cases h2;exact h.1
 | v::vs,d::ds,i+1,_,_,h,h1,h2=>RL.at h.2 (by simpa using h1) (by simpa using h2)
 | [],_,_,_,_,_,h1,_=>by simp at h1
 | _::_,[],_,_,_,h,_,_=>h.elim
theorem RL.els{Pv:aA->PyData->Prop}{w:aK}{h:Heap}:∀{es:List (Int×aA)} {ds:List PyData},Els Pv w h es ds->RL (λv d=>∃k,El Pv w h (k,v) d) (es.map (·.2)) ds
 | [],ds,x=>by rw[al7 x];exact True.intro
 | e::es,ds,x=>by obtain⟨d,cR,rfl,h1,h2⟩:=xw x;exact⟨⟨e.1,h1⟩,RL.els h2⟩
theorem Inv.drawn{X:Cx}{aC:List (aE×Obj)}{σ:L2.St}{H:Hp}{s:aB}(I:Inv X aC σ H s)(dr:Drawn):Inv X aC σ H {s with drawn:=dr}:=⟨I.ok,I.os,I.bare,I.base,I.loc,I.cell,I.free,I.freeC,I.pin,I.hok,I.len⟩
def a0r(prog:aI)(w:aK)(K:aj):R2:=λx y H Q=>∃(p:aE)(k:Str)(o:Obj) (aU:List (Str×aA)) (v:Int) (t:Bq),x=.ref p/\y=.str k/\K.lookup p=some o/\o.IsDictOf (strKind prog w) aU/\valueAt aU k=some (.int v t)/\Q (.int v) H
section
variable{X:Cx}{x:Str}{pos:eA}
theorem arn:IxR X (a0r X.prog X.w X.K):=by intro value slice aC s σ H x y v u Q I rx ry h hs;obtain⟨p,k,o,aU,n,t,rfl,rfl,hk,hd,hv,q⟩:=h;cases rx;obtain⟨t',rfl⟩:=ry;have hm:s.heap.DictOf (strKind X.prog X.w) p aU:=Heap.dictOf_iff.mpr ⟨o,I.kIn p o hk,hd⟩;exact tail_any hm.typeIs slot_dict_getitem.lookup (wpAny_getItem_of (eG _ _ k t') hm.mapOf hv (nq (.int n) H ⟨I.tok _,⟨t,rfl⟩,q⟩)) hs
theorem aoa{a:aE}(h:X.mg x=some (.ref a))(hg:Gl X x)(hd:(x==("__debug__" : Str))=false:=by decide):PE X (.Name x pos) (tC (.ref a)):=ali hg h rfl hd
end
open Classical in
theorem ajn{h:Heap}{lt:PyData->PyData->Bool}{os:List aA}{eQ:List PyData}(hl:os.length=eQ.length)(rd:∀(i:Nat)(v:aA)(d:PyData),os[i]?=some v->eQ[i]?=some d->d.canLay0=true/\∃as,Reads h v d as)(o:xN lt eQ) :
  ∃g:aA->Int,(∀(i j:Nat)(u v:aA)(d e:PyData),os[i]?=some u->eQ[i]?=some d->os[j]?=some v->eQ[j]?=some e->decide (g u<g v)=lt d e)/\
   ∀us:List aA,us.Perm os->us.Pairwise (λx y=>g x<=g y)->∃T:List (PyData×aA),T.map (·.2)=us/\(T.map (·.1)).Perm eQ/\(T.map (·.1)).Pairwise (λx y=>lt y x=false)/\∀t∈T,∃i:Nat,eQ[i]?=some t.1/\os[i]?=some t.2:=by
 obtain⟨g,hg⟩:∃g:aA->Int,∀(i:Nat)(d:PyData)(u:aA),eQ[i]?=some d->os[i]?=some u->g u=vW lt eQ d:=by refine⟨λu=>if h:∃d,∃as,Reads h u d as/\d∈eQ then vW lt eQ h.choose else 0,λi d u h1 h2=>?_⟩;obtain⟨lay,as,r⟩:=rd i u d h2 h1;have hx:∃d,∃as,Reads h u d as/\d∈eQ:=(nq d as ⟨r,ak h1⟩);show(if h:∃d,∃as,Reads h u d as/\d∈eQ then vW lt eQ h.choose else 0)=_;rw[dif_pos hx];obtain⟨bs,rb,_⟩:=hx.choose_spec;rw[SeqAt.Reads.unique d hx.choose u as bs lay r rb]
 refine⟨g,λi j u v d e u1 d1 v1 e1=>?_,λus p up=>?_⟩
 .rw[hg i d u d1 u1,hg j e v e1 v1];exact FZ o (ak d1) (ak e1)
 .have xX:(eQ.zip os).map (λt=>t.2)=os:=List.map_snd_zip (by lia);have first:(eQ.zip os).map (λt=>t.1)=eQ:=List.map_fst_zip (by lia)
  obtain⟨T,tp,te⟩:=aeg (λt:PyData×aA=>t.2) p xX;have tm:∀t∈T,∃i:Nat,eQ[i]?=some t.1/\os[i]?=some t.2:=λt ht=>by obtain⟨i,hi⟩:=cx.mp (tp.mem_iff.mp ht);obtain⟨a1,a2⟩:=List.getElem?_zip_eq_some.mp hi;exact⟨i,a1,a2⟩
  refine⟨T,te,?_,?_,tm⟩
  .have:=tp.map (λt=>t.1);rw[first]at this;exact this
  .rw[gl];rw[<-te,gl]at up;refine i8 (λ{a b} ha hb jX=>?_) up;obtain⟨i,a1,a3⟩:=tm a ha;obtain⟨j,b1,b3⟩:=tm b hb;rw[hg i _ _ a1 a3,hg j _ _ b1 b3]at jX;rw[<-FZ o (ak b1) (ak a1)];exact decide_eq_false (by lia)
section
variable{prog:aI}{w:aK}{A:Around}{E:aA->aB->Prop}{s:aB}
theorem af1{a:aE}{o:Obj}{es:Array (Int×aA)}{ep:Nat}{t:SetTable}{κ:aY}{Q:aA->aB->Prop}(hh:A.handled=none)(ho:s.heap.get? a=some o)(gB:o.ExactSet)(hd:o.data=.set es ep t)(ok:TOk t es)(cP:t.led = !byT w)(hsz:es.size<=4000)
  (h:∀os:List aA,os.Perm (es.toList.map (·.2))->∃g:aA->Int,(2<=os.length->∀s':aB,Keep s.heap s'.heap->
   (∀(Q:aY->aB->Prop)(E:aA->aB->Prop),Q κ s'->aG (aH prog w) A.in1.in1 (nT os.toArray) Q E s')/\
   ∀x y,x∈os->y∈os->∀(Q:Bool->aB->Prop),Q (decide (g x<g y)) s'->aG (aH prog w) A.in1.in1 (nS κ x y) Q (λ_ _=>False) s')/\
   ∀(us:List aA)(h1 h2:Heap) dr e,us.Perm os->us.Pairwise (λx y=>g x<=g y)->Keep s.heap h1->Keep h1 h2->h2.get? h1.objs.size=some (bK "list" us.toArray e)->Q (.ref h1.objs.size) {s with heap:=h2,drawn:=dr}) :
  aG (aH prog w) A (call (.builtin "sorted") [.ref a]) Q E s:=by
 refine Calls.call_function_entry kind_sorted plain_sorted entry_sorted (args_sorted1 _) ?_;unfold Builtin.«sorted»;refine aa (m:=checkCount "sorted" 1 1 _) (af ?_);refine aa (ael (A:=A.in1) hh ho gB hd ok cP hsz λh1 os dr hp k1=>?_);obtain⟨g,hk,h⟩:=h os hp;have jV:os.length<=aF:=by rw[hp.length_eq,ah,ax,iw];lia
 refine aa (iR ?_ jV);have wT:(h1.push (bK "list" os.toArray 0)).get? h1.objs.size=some (bK "list" os.toArray 0):=az _ rfl;have keep:Keep h1 (h1.push (bK "list" os.toArray 0)):=λb o q=>am _ q;show aG _ _ _ _ _ {s with heap:=h1.push (bK "list" os.toArray 0),drawn:=dr};refine aa (gk (ck slot_list_sort ⟨_,wT,rfl⟩ IY ?body (args_list_sort _)))
 case body=>
  refine wz (κ:=κ) (g:=g) wT jV (λh2 s' k=>hk h2 s' λb o e=>k b o (dq (bq (k1 b o e))) (keep b o (k1 b o e))) λus u1 u2=>?_;obtain⟨e,he⟩:=sortedHeap_at (out:=us.toArray) wT;refine⟨_,rfl,af ⟨_,rfl,h us h1 _ dr e u1 u2 k1 (λb ob q=>?_) he⟩⟩;exact(sortedHeap_old (dq (bq q)) (by rw[size_push'];exact Nat.lt_succ_of_lt (bq q))).trans (keep b ob q)
end
structure ajy(prog:aI)(w:aK)(A:Around)(κ:aY)(lt:PyData->PyData->Bool)(ds:List PyData):Prop where
 ord:xN lt ds
 kind:∀(s:aB)(os:List aA)(eQ:List PyData),(∀d∈eQ,d∈ds)->os.length=eQ.length->2<=os.length->(∀(i:Nat)(v:aA)(d:PyData),os[i]?=some v->eQ[i]?=some d->∃as,Reads s.heap v d as)->
  ∀(Q:aY->aB->Prop)(E:aA->aB->Prop),Q κ s->aG (aH prog w) A (nT os.toArray) Q E s
 key:∀(s:aB)(u v:aA)(d e:PyData)(as bs:List aE),d∈ds->e∈ds->Reads s.heap u d as->Reads s.heap v e bs->d.canLay0=true->e.canLay0=true->∀(Q:Bool->aB->Prop),Q (lt d e) s->aG (aH prog w) A (nS κ u v) Q (λ_ _=>False) s
section
variable{X:Cx}{aC:List (aE×Obj)}{σ:L2.St}{H:Hp}{s:aB}
theorem abc(I:Inv X aC σ H s){Pv:aA->PyData->Prop}(hPv:∀v d,Pv v d->∃x,RelV x v/\Rep H d x){a:aE}{ds:List PyData}(hc:X.calm=true)(hS:SetD Pv X.w s.heap a ds)(bD:ds.length<=4000){κ:aY}{lt:PyData->PyData->Bool}(sa:ajy X.prog X.w X.A.in1.in1 κ lt ds){Q:VK}
  (q:∀(es:List PyData)(l:aE)(ys:List V),es.Perm ds->es.Pairwise (λx y=>lt y x=false)->H l=none->RepAll (upd H l (.lst ys)) es ys->Q (.ref l) (upd H l (.lst ys))) :
  aG (aH X.prog X.w) X.A (call (.builtin "sorted") [.ref a]) (EP X aC σ Q) X.xe s:=by
 obtain⟨o,es,ep,tb,ho,gB,gD,ok,few,els,nd,cP⟩:=hS;have hsz:es.size=ds.length:=by have:=els.1;rw[ax]at this;exact this
 refine af1 (κ:=κ) (I.ok.hd hc) ho gB gD ok cP (by lia) λos jU=>?_;obtain⟨eQ,pd,rl⟩:=RL.perm jU (RL.els els);have jV:os.length=eQ.length:=rl.length;have kK:∀(i:Nat) v d,os[i]?=some v->eQ[i]?=some d->∃k,El Pv X.w s.heap (k,v) d:=λi v d h1 h2=>rl.at h1 h2;have sub:∀d∈eQ,d∈ds:=λd hd=>pd.mem_iff.mp hd;have GM:xN lt eQ:=⟨λx hx y hy=>sa.ord.asy x (sub x hx) y (sub y hy),λx hx y hy z hz=>sa.ord.tr x (sub x hx) y (sub y hy) z (sub z hz)⟩;obtain⟨g,g1,g2⟩:=ajn (h:=s.heap) jV (λi v d h1 h2=>by obtain⟨k,el⟩:=kK i v d h1 h2;exact⟨el.lay,el.reads⟩) GM
 refine⟨g,λh2 s' kp=>⟨λQ' E' hq=>?_,λx y hx hy Q' hq=>?_⟩,λus h1 h2 dr e u1 u2 B4 B0 hg3=>?_⟩
 .refine sa.kind s' os eQ sub jV h2 (λi v d h1 h2=>?_) Q' E' hq;obtain⟨k,el⟩:=kK i v d h1 h2;obtain⟨bs,rd⟩:=el.reads;exact⟨bs,Reads.keeps kp rd⟩
 .obtain⟨i,hi⟩:=cx.mp hx;obtain⟨j,hj⟩:=cx.mp hy;have eC:i<eQ.length:=by have:=(ae.mp hi).1;lia
  have iU:j<eQ.length:=by have:=(ae.mp hj).1;lia
  have di:=ab eC;have dj:=ab iU;obtain⟨k,el⟩:=kK i _ _ hi di;obtain⟨k',el'⟩:=kK j _ _ hj dj;obtain⟨bs,rd⟩:=el.reads;obtain⟨bs',rd'⟩:=el'.reads;rw[g1 i j x y _ _ hi di hj dj]at hq;exact sa.key s' x y _ _ bs bs' (sub _ (eu eC)) (sub _ (eu iU)) (Reads.keeps kp rd) (Reads.keeps kp rd') el.lay el'.lay Q' hq
 .obtain⟨T,te,tp,tu,tm⟩:=g2 us u1 u2;have tr:∀t∈T,∃x,RelV x t.2/\Rep H t.1 x:=λt ht=>by
   obtain⟨i,a1,a2⟩:=tm t ht;obtain⟨k,el⟩:=kK i _ _ a2 a1;exact hPv _ _ el.own
  obtain⟨ys,v1,v2⟩:∃ys,Vals ys us/\RepAll H (T.map (·.1)) ys:=by
   rw[<-te];clear te tp tu tm;induction T with
   | nil=>exact⟨[],.nil,rfl⟩
   | cons t T ih=>
    obtain⟨x,x1,x2⟩:=tr t aw;obtain⟨ys,y1,y2⟩:=ih λt ht=>tr t (a8 _ ht);exact(o8 (x::ys) (.cons x1 y1) x ys ⟨rfl,x2,y2⟩)
  have I3:Inv X aC σ H {s with heap:=h1,drawn:=dr}:=(L3.Inv.drawn I dr).kept (t':=s.toks) B4;have hn:H h1.objs.size=none:=I3.hok.fresh (aq _);have fQ:=v2.length;have Ar:=tp.length_eq;have hpl:=pd.length_eq;have gG:ys.length<=aF:=by rw[iw];lia
  have rB:Same H (upd H h1.objs.size (.lst ys)):=λb o q=>by rw[ow (qb q hn)];exact q
  exact(nq (.ref h1.objs.size) _ ⟨I3.laid (t':=s.toks) (o:=.lst ys) B0 (aq _) ⟨gG,(nq _ e ⟨v1,hg3⟩)⟩,rfl,q (T.map (·.1)) _ ys (tp.trans pd) tu hn (v2.same rB)⟩)
end
theorem aqs{ds:List PyData}(h:CmpA ds):xN ltD ds:=⟨λx hx y hy q=>by
  rw[vn (h.1 x hx y hy)]at q;rw[vn (h.1 y hy x hx)];exact decide_eq_false (List.lt_asymm (of_decide_eq_true q)),λx hx y hy z hz q1 q2=>by
  rw[vn (h.1 y hy x hx)]at q1;rw[vn (h.1 z hz y hy)]at q2;rw[vn (h.1 z hz x hx)];have h1:enc x<=enc y:=of_decide_eq_false q1;have h2:enc y<=enc z:=of_decide_eq_false q2;exact decide_eq_false (List.le_trans h1 h2)⟩
theorem aj5{prog:aI}{w:aK}{A B:Around}{ds:List PyData}(hu:B.units+64<aX)(hB:A=B.in1.in1)(eX:∀d∈ds,Dq d/\TT d)(iK:CmpA ds):ajy prog w A (tuples' false) ltD ds where
 ord:=aqs iK
 kind:=λs os eQ hs hl h2 r Q E q=>by
  obtain⟨fs,k1,k2,k3⟩:=ahk (h:=s.heap) os eQ hl λi v d h1 h2=>by obtain⟨bs,rd⟩:=r i v d h1 h2;exact⟨(eX d (hs d (ak h2))).2,bs,rd⟩
  refine PySem.W.kat_kind (T:=aA.type "tuple") k1 (by lia) (λv hv=>?_) rfl q;obtain⟨a,o,rfl,g1,g2⟩:=k3 v hv;rw[<-g2];exact(PySem.W.Looks.ld g1).andThen .now
 key:=λs u v d e as bs hd he r1 r2 l1 l2 Q q=>by refine avq r1 r2 (eX _ hd).1.2.1 (eX _ he).1.2.1 l1 l2 (iK.1 _ hd _ he) ?_ q;have:=(eX _ hd).1.2.2;have:=Nat.min_le_left d.depth e.depth;subst hB;show B.units+1+1+_<_;lia
def aoc:List V->Hp->VK->Prop:=λvs H Q=>∃(p:aE)(xs:List V)(ds:List PyData),vs=[.ref p]/\H p=some (.lst xs)/\RepAll H ds xs/\(∀d∈ds,Dq d/\TT d)/\CmpA ds/\ds.length<4000/\
 ∀(cR:List PyData)(l:aE)(ys:List V),cR.Nodup->(∀d,d∈cR↔d∈ds)->H l=none->RepAll (upd H l (.lst ys)) (ww cR) ys->Q (.ref l) (upd H l (.lst ys))
section
variable{X:Cx}{p p2 pos mJ:eA}{e:Expr}{t:TA}
theorem ab2(hc:X.calm=true)(hu:X.A.units+64<aX)(hg:Gl X "sorted")(hm:X.mg "sorted" = none)(Ih:Gl X "set")(tM:X.mg "set" = none)(ha:PA X [e] t)(h1:qp e=true:=by rfl) :
  PE X (.Call (.Name "sorted" p) [.Call (.Name "set" p2) [e] [] mJ] [] pos) (tCB aoc t):=by
 intro aC s σ H Q I h;refine jk (v5 I hg hm lN ?_ (by decide) (by decide));refine PyProof.Rows.callWith_builtin1 ?_ (p9 rfl) rfl;rw[p9 rfl];show aG _ _ (BE ((false,bH (.Call (.Name "set" p2) [e] [] mJ) X.env)::cO pos (aR [] X.env))) _ _ s;refine Calls.spliced_cons ?_;refine jk (v5 I Ih tM boot_set ?_ (by decide) (by decide));refine gv (thn (ha mJ aC s σ H _ I h) λus s1 ⟨vs,H1,I1,r1,q1⟩=>?_) (p9 h1) rfl;obtain⟨pl,xs,ds,rfl,hp,dH,eX,iK,hb,q⟩:=q1;obtain⟨u,rfl,ru⟩:=uy r1;cases (show u=aA.ref pl from ru);obtain⟨its,rv,il,hz⟩:=I1.list (SqL.of (K:=X.K) hp);obtain⟨as,rds⟩:=RepAll.reads I1 dH rv;have CB:=dH.lay;have pH:xs.length=ds.length:=dH.length;have kG:xs.length=its.length:=rv.length;refine akn (Pv:=λv d=>∃i:Nat,its[i]?=some v/\ds[i]?=some d) (ds:=ds) (I1.ok.hd hc) il.isList (by rw[a9];lia) (λi v d hv hd=>?_) (by lia) (by lia) λh' tk cR hS eP bD hk ht=>?_
 .rw[List.getElem?_toArray]at hv;obtain⟨bs,rd⟩:=ahy rds hv hd;have Ax:=ak hd;exact⟨⟨i,hv,hd⟩,rfl,(eX d Ax).1.1,(eX d Ax).1.2.1,amf CB d Ax,(eX d Ax).1.2.2,bs,rd⟩
 .refine Calls.spliced_nil ?_;have I2:Inv X aC σ H1 {s1 with heap:=h',toks:=tk}:=I1.kept hk;obtain⟨_,_,_,_,_,_,_,_,_,_,nd,_⟩:=id hS;have sub:∀d∈cR,d∈ds:=λd hd=>(eP d).mp hd;refine abc I2 (λv d hg=>by
   obtain⟨i,g1,g2⟩:=hg;obtain⟨x,x1,x2⟩:=dH.get g2;obtain⟨u,u1,u2⟩:=rv.get x1;have:u=v:=by rw[u1]at g1;cases g1;rfl
   subst this;exact⟨x,u2,x2⟩) hc hS (by lia) (aj5 (B:=X.A) hu rfl (λd hd=>eX d (sub d hd)) (iK.sub sub)) λes l ys pe ue hl re=>?_
  have ee:es=ww cR:=by refine Ld (pe.trans (rf cR).symm) ((iK.sub sub).sub λx hx=>pe.mem_iff.mp hx) (i8 (λ{a b} ha hb jX=>?_) ue) (Li cR);rw[vn (iK.1 _ (sub _ (pe.mem_iff.mp hb)) _ (sub _ (pe.mem_iff.mp ha)))]at jX;exact of_decide_eq_false jX
  rw[ee]at re;exact q cR l ys nd eP hl re
end
section
variable{X:Cx}
def a0x:List V->Hp->VK->Prop:=λxs H Q=>∃(p:aE)(bs:List Bool),xs=[.ref p]/\H p=some (.lst (bs.map V.bl))/\Q (.bl (bs.any id)) H
theorem amn:∀(bs:List Bool),((cb bs.length).any λi=>(bs[i]?).getD true)=bs.any id:=λbs=>by
 rw[gc,gq,gq];constructor
 .rintro⟨i,hi,h⟩;have eC:i<bs.length:=by simpa using hi
  exact⟨bs[i],eu eC,by simpa [eC]using h⟩
 .rintro⟨b,hb,h⟩;obtain⟨i,hi,rfl⟩:=List.mem_iff_getElem.mp hb;exact⟨i,by simpa using hi,by simpa [hi]using h⟩
theorem zu(hc:X.calm=true):u7 X (.builtin "any") a0x:=by
 intro aC s σ H xs us Q I r h;obtain⟨p,bs,rfl,hp,q⟩:=h;obtain⟨u,rfl,r1⟩:=uy r;cases (show u=aA.ref p from r1);obtain⟨its,rv,pl,hz⟩:=I.list (SqL.of (K:=X.K) hp);have cN:p<s.heap.objs.size:=by obtain⟨_,_,e,_⟩:=pl;exact bq e
 have bD:its.length=bs.length:=by rw[<-rv.length,ah]
 refine call_any_walk (dB pl.isList ?_);refine⟨s.heap.objs.size,[s.heap.objs.size,p],[s.heap.objs.size],its.toArray.size,_,_,λi=>(bs[i]?).getD true,rfl,sY.list (A:=X.A.in1) (I.ok.hd hc) _ p (dq cN) its.toArray,
  ⟨⟨_,az _ rfl,rfl,rfl⟩,pl.isList.push _⟩,λi v s' Q' E' hP hQ=>?_,λh' tk hk=>?_⟩
 .have hi:its[i]?=some v:=by simpa using hP
  have kI:i<bs.length:=by rw[<-bD];exact(ae.mp hi).1
  obtain⟨u',e1,e2⟩:=rv.get (i:=i) (x:=.bl bs[i]) (by rw[au,ab kI];rfl);rw[hi]at e1;cases e1;cases (show v=aA.bool bs[i]from e2);have C5:Q' ((bs[i]?).getD true) s':=hQ;rw[ab kI]at C5;exact gr C5
 .refine(nq (.bl _) H ⟨I.kept (λb o e=>hk b o (λhm=>?_) (am _ e)),rfl,?_⟩)
  .rw[ao.mp hm]at e;exact j4 _ (bq e)
  .rw[a9,bD,amn];exact q
end
end L3
namespace HT
open PySem PyProof.Rows
section
variable{prog:aI}{w:aK}{A:Around}{E:aA->aB->Prop}{s:aB}
theorem getItem_tuple_all{t sl:aE}{items:Array aA}{vl vu:aA}{lo hi:Option Int}{Q:aA->aB->Prop}(ht:oK s.heap t items)(hs:s.heap.IsSliceOf sl vl vu .none)(pl:iC vl lo)(pu:iC vu hi)
  (hw:sIx items.size 0 lo=0/\sIx items.size items.size hi=items.size) (h:Q (.ref t) s):aG (aH prog w) A (eZ (.ref t) (.ref sl)) Q E s:=by
 obtain⟨os,wS,jW,dH⟩:=id hs;have ID:s.TypeIs (.ref sl) "slice":=⟨os,wS,jW⟩;unfold eZ;try with_reducible refine gk ?_
 first|refine aa (af ?_)|skip
 refine aa (By ht.typeIs (by decide) ?_);refine aa (ci (name:=ba "__getitem__") ht.typeIs ic
  (ck ic ht.typeIs zN ?_ (Be _ _)))
 show aG _ _ (Builtin.Tuple.tupleItemsOf (.ref t) >>= _) _ _ s;refine aa (tupleItemsOf_ ht ?_);refine aa (eB ID ?_);rw[if_pos (by decide)];refine aa (uv hs pl pu ?_);have Hb:(((sIx items.size 0 lo:Nat):Int)==0&&(1:Int)==1&&(sIx items.size items.size hi-sIx items.size 0 lo)==items.size)=true:=by rw[hw.1,hw.2];simp
 show aG _ _ (if (((sIx items.size 0 lo:Nat):Int)==0&&(1:Int)==1&&(sIx items.size items.size hi-sIx items.size 0 lo)==items.size)=true then _ else _) _ _ s;rw[if_pos Hb];refine aa (m:=Builtin.Tuple.tupleIsExact _) ?_;unfold Builtin.Tuple.tupleIsExact;refine aa (eB ht.typeIs (af ?_));rw[if_pos (by decide)];exact aa (k8 (af ⟨_,rfl,af h⟩))
end
end HT
namespace L3
open PySem PySem.Spec PyProof.Rows L2
section
variable{X:Cx}
def ay8(K:aj):V->Option Int->Option Int->Hp->VK->Prop:=λx lo hi H Q=>∃a xs,x=.ref a/\SqT K H a xs/\
 ((HT.sIx xs.length 0 lo=0/\HT.sIx xs.length xs.length hi=xs.length)->Q (.ref a) H)/\(¬(HT.sIx xs.length 0 lo=0/\HT.sIx xs.length xs.length hi=xs.length)->∀p,H p=none->Q (.ref p) (upd H p (.tup (kT xs lo hi))))
theorem arb:SlR X (ay8 X.K):=by
 intro aC s σ H x v vl vu lo hi sl Q I rx hs pl pu h;obtain⟨a,xs,rfl,hx,q1,q2⟩:=h;by_cases hw:HT.sIx xs.length 0 lo=0/\HT.sIx xs.length xs.length hi=xs.length
 .cases rx;obtain⟨its,r,ht,hz⟩:=I.tuple hx;have bD:its.toArray.size=xs.length:=by rw[a9];exact r.length.symm
  refine(nq ("tuple") _ ⟨ic.lookup,ht.typeIs,?_⟩);exact HT.getItem_tuple_all ht hs pl pu (by rw[bD];exact hw) (nq (.ref a) H ⟨I,rfl,q1 hw⟩)
 .exact aui aC s σ H _ v vl vu lo hi sl Q I rx hs pl pu (nq a xs ⟨rfl,hx,hw,q2 hw⟩)
end
end L3
namespace L3
open PySem PySem.Spec PyProof.Rows L2
end L3
namespace L3
open PySem PyProof.Rows L2
theorem ax5{P:List aA->Prop}(h:P []):∀us:List aA,us.length=0->P us:=λus e=>by cases us with|nil=>exact h|cons a t=>cases e
theorem Fa{P:List aA->Prop}{n:Nat}(h:∀a (t:List aA),t.length=n->P (a::t)):∀us:List aA,us.length=n+1->P us:=λus e=>by cases us with|nil=>cases e|cons a t=>exact h a t (Nat.succ.inj e)
theorem aup{P:List aA->Prop}(h:∀a,P [a]):∀us:List aA,us.length=1->P us:=Fa (n:=0) λa=>ax5 (P:=λt=>P (a::t)) (h a)
theorem Kk{P:List aA->Prop}(h:∀a b,P [a,b]):∀us:List aA,us.length=2->P us:=Fa (n:=1) λa=>aup (P:=λt=>P (a::t)) (h a)
theorem awf{P:List aA->Prop}(h:∀a b c,P [a,b,c]):∀us:List aA,us.length=3->P us:=Fa (n:=2) λa=>Kk (P:=λt=>P (a::t)) (h a)
theorem axr{P:List aA->Prop}(h:∀a b c d,P [a,b,c,d]):∀us:List aA,us.length=4->P us:=Fa (n:=3) λa=>awf (P:=λt=>P (a::t)) (h a)
def Df(K:aj)(n:Str)(st:aW):Prop:=∃f fd,fg K aO n=some (some (.ref f))/\Fun K n n st f fd
theorem df_mk{K:aj}{n:Str}{st:aW}{f:aE}{oc:aA}{od an:Option aE}{sl:Array (Option aA)}{kV dc pm cd ct:aA}(a:fg K aO n=some (some (.ref f)))
  (l:K.lookup f=some ⟨oc,od,.func (lh n n (vm st) (ur st) (nh st) .none kV dc pm an cd ct),sl⟩) (c:PySem.W.codeIn K cd n=true) (k:mh K (.ref f)=true):Df K n st:=(nq f _ ⟨a,apr l c k⟩)
theorem Df.fn{P:aI}{w:aK}{K:aj}{h base:Heap}{mg:Str->Option aA}{n:Str}{st:aW}{d:Nat}{ps:List Str}{sp:Sp}(D:Df K n st)(X:K.In h)(G:h.Ns aO mg)(ok:∀{f fd},Fun K n n st f fd->qt P w K mg base CX0 d f fd ps sp)
  (b:∀(kV jD pm:aA)(an:Option aE)(bN ct:aA)(us:List aA),us.length=ps.length->bindArgs (lh n n (vm st) (ur st) (nh st) .none kV jD pm an bN ct) ⟨us,[]⟩=aS (ps.zip us):=by
   intro _ _ _ _ _ _;first
   | exact aup (λ_=>rfl)
   | exact Kk (λ_ _=>rfl)
   | exact awf (λ_ _ _=>rfl)
   | exact axr (λ_ _ _ _=>rfl)):Fn P w K mg base n d ps sp:=by
 obtain⟨f,fd,a,F⟩:=D;exact(nq f fd ⟨ok F,PySem.W.mg_of X G a,F.kp,F.binds b⟩)
end L3
namespace K22
open PySem PyProof.Rows L2 L3
noncomputable def top(i:Nat):aW:=PySem.Challenge.pw_coverpieces_k22_options.main.body.getD i (.Pass ⟨0,0,0,0⟩)
noncomputable abbrev JX:aW:=top 1
noncomputable abbrev KL:aW:=top 2
noncomputable abbrev sTd:aW:=top 5
noncomputable abbrev JE:aW:=top 6
noncomputable abbrev sTr:aW:=top 7
noncomputable abbrev KC:aW:=top 8
noncomputable abbrev sAt:aW:=top 12
noncomputable abbrev Ki:aW:=top 13
noncomputable abbrev Kc:aW:=top 14
noncomputable abbrev Kt:aW:=top 15
noncomputable abbrev sOc:aW:=top 16
noncomputable abbrev KF:aW:=top 17
noncomputable abbrev JL:aW:=top 19
noncomputable abbrev Jv:aW:=top 21
noncomputable abbrev JK:aW:=top 22
noncomputable abbrev Jp:aW:=top 23
noncomputable abbrev Jt:aW:=top 24
noncomputable abbrev JU:aW:=top 25
noncomputable abbrev Jx:aW:=top 27
noncomputable abbrev Kr:aW:=top 32
noncomputable abbrev JB:aW:=top 33
noncomputable abbrev JO:aW:=top 34
noncomputable abbrev Jz:aW:=top 35
noncomputable abbrev JG:aW:=top 36
noncomputable abbrev JY:aW:=top 37
noncomputable abbrev JS:aW:=top 38
noncomputable abbrev JT:aW:=top 39
noncomputable abbrev Jn:aW:=top 40
noncomputable abbrev Ju:aW:=top 41
noncomputable abbrev Jy:aW:=top 42
noncomputable abbrev Jh:aW:=top 43
noncomputable abbrev JN:aW:=top 44
noncomputable abbrev Jq:aW:=top 45
noncomputable abbrev JA:aW:=top 46
noncomputable abbrev Ji:aW:=top 47
noncomputable abbrev J0:aW:=top 49
noncomputable abbrev Jw:aW:=top 50
noncomputable abbrev Kb:aW:=top 51
noncomputable abbrev KM:aW:=top 52
noncomputable abbrev KB:aW:=top 53
noncomputable abbrev JF:aW:=top 54
noncomputable abbrev JW:aW:=top 55
noncomputable abbrev Jo:aW:=top 56
noncomputable abbrev Js:aW:=top 57
noncomputable abbrev Jk:aW:=top 58
noncomputable abbrev JV:aW:=top 59
noncomputable abbrev JR:aW:=top 60
noncomputable abbrev JH:aW:=top 61
noncomputable abbrev Jl:aW:=top 62
noncomputable abbrev Bb:aW:=top 63
noncomputable def v7:List Str:=["len","min","max","sorted","tuple","list","isinstance","bool","range","str","int","enumerate","all","any","set","zip","sum"]
section
variable{P:aI}{w:aK}{K:aj}{mg:Str->Option aA}{base:Heap}{f:aE}{fd:aP}
def Fj(g:List PyData->List PyData):Sp:=λvs H Q _=>∃(a:aE)(xs:List V)(ds:List PyData),vs=[.ref a]/\H a=some (.lst xs)/\RepAll H ds xs/\Spots ds/\0<ds.length/\ds.length<=64/\
 ∀(D:aE)(ys:List V)(H':Hp),Same H H'->H' D=some (.lst ys)->RepAll H' (g ds) ys->Q (.ref D) H'
theorem scMir:nu ["spots","last"] ["spots"] (nh JE):={}
theorem scTr:nu ["spots","last"] ["spots"] (nh sTr):={}
theorem a0p(m:Int)(r c:Int)(z:Str)(H':Hp)(Q':VK)(h:∃u v:Int,AY m (.tuple [.int r,.int c,.str z])=.tuple [.int u,.int v,.str z]/\∀n,H' n=none->Q' (.ref n) (upd H' n (.tup [.int u,.int v,.str z]))) :
  Do (wl (mC 0) (wl (tOp (rI0 λi j=>.int (i-j)) (mC 3) (mC 1)) (wl (mC 2) A9))) [some (.int r),some (.int c),some (.str z),some (.int m)] H' Q':=by
 obtain⟨u,v,e,q⟩:=h;cases (show PyData.tuple [.int r,.int (m-c),.str z]=.tuple [.int u,.int v,.str z]from e);exact(p8 _ rfl _ rfl _ rfl _ _ ⟨rfl,rfl,_,rfl,sZ3,q⟩)
theorem a0g(m:Int)(r c:Int)(z:Str)(H':Hp)(Q':VK)(h:∃u v:Int,AX m (.tuple [.int r,.int c,.str z])=.tuple [.int u,.int v,.str z]/\∀n,H' n=none->Q' (.ref n) (upd H' n (.tup [.int u,.int v,.str z]))) :
  Do (wl (mC 1) (wl (tOp (rI0 λi j=>.int (i-j)) (mC 3) (mC 0)) (wl (mC 2) A9))) [some (.int r),some (.int c),some (.str z),some (.int m)] H' Q':=by
 obtain⟨u,v,e,q⟩:=h;cases (show PyData.tuple [.int c,.int (m-r),.str z]=.tuple [.int u,.int v,.str z]from e);exact(p8 _ rfl _ rfl _ rfl _ _ ⟨rfl,rfl,_,rfl,sZ3,q⟩)
theorem av7(B:∀x∈v7,mg x=none)(F:Fun K "mirrored" "mirrored" JE f fd):qt P w K mg base CX0 1 f fd ["spots"] (Fj nA):=by
 refine F.ok (k:=0) scMir (λvs H Q E h=>?_) (λbN A outer s H vs Q E hr h=>?_)
 .obtain⟨a,xs,ds,rfl,_⟩:=h;rfl
 obtain⟨a,xs,ds,rfl,ha,mR,hs,hpos,sF,q⟩:=h;refine⟨_,(mw (n8 (i:=1) scMir.nd rfl (Or.inr rfl) (ak9 rfl rfl (B "max" (by decide)) (m9 (o9 ["spot"] [none] rfl rfl (by decide +kernel) (by decide +kernel) rfl rfl (oz (pv 0)) (λ_=>(nc (i:=0) (show(["spot"]:List PySem.Str).Nodup by decide +kernel) rfl (Or.inl rfl))) (λ_=>qh) (λ_=>(ny va (pv 0) mx (λ_ _=>rfl)))) mr) (ale mx apk)))
  (m8 (nv (o9 ["row","column","sign","last"] [none,none,none,some 1] rfl rfl (by decide +kernel) (by decide +kernel) rfl rfl (oz (pv 0)) (λ_=>(tj (n:=3) rfl (ni (nc (i:=0) (show(["row","column","sign","last"]:List PySem.Str).Nodup by decide +kernel) rfl (Or.inl rfl)) (ni (nc (i:=1) (show(["row","column","sign","last"]:List PySem.Str).Nodup by decide +kernel) rfl (Or.inl rfl)) (ni (nc (i:=2) (show(["row","column","sign","last"]:List PySem.Str).Nodup by decide +kernel) rfl (Or.inl rfl)) p5))))) (λ_=>qh) (λ_=>(oh (m9 (pv 0) (m9 (ph wb (pv 3) (pv 1)) (m9 (pv 2) mr))))))))),?_⟩
 refine ace 1 zh av8 rfl ha mR hs sF λD1 H1 s1 qE=>?_;refine⟨rfl,(nq D1 _ ⟨rfl,qE,by rw[ah];exact hpos,λM1 m1 GV=>?_⟩)⟩;have em:=alc m1 GV;refine afb AY rfl rfl (s1 _ _ ha) (mR.same s1) hs sF (a0p M1) (λD ys H' hD s2 bA rep=>q D ys H' (s1.trans s2) bA (by unfold nA;rw[<-em];exact rep)) (λr c z=>(nq _ _ rfl))
theorem ayw(B:∀x∈v7,mg x=none)(F:Fun K "turned_right" "turned_right" sTr f fd):qt P w K mg base CX0 1 f fd ["spots"] (Fj nE):=by
 refine F.ok (k:=0) scTr (λvs H Q E h=>?_) (λbN A outer s H vs Q E hr h=>?_)
 .obtain⟨a,xs,ds,rfl,_⟩:=h;rfl
 obtain⟨a,xs,ds,rfl,ha,mR,hs,hpos,sF,q⟩:=h;refine⟨_,(mw (n8 (i:=1) scTr.nd rfl (Or.inr rfl) (ak9 rfl rfl (B "max" (by decide)) (m9 (o9 ["spot"] [none] rfl rfl (by decide +kernel) (by decide +kernel) rfl rfl (oz (pv 0)) (λ_=>(nc (i:=0) (show(["spot"]:List PySem.Str).Nodup by decide +kernel) rfl (Or.inl rfl))) (λ_=>qh) (λ_=>(ny va (pv 0) mx (λ_ _=>rfl)))) mr) (ale mx apk)))
  (m8 (nv (o9 ["row","column","sign","last"] [none,none,none,some 1] rfl rfl (by decide +kernel) (by decide +kernel) rfl rfl (oz (pv 0)) (λ_=>(tj (n:=3) rfl (ni (nc (i:=0) (show(["row","column","sign","last"]:List PySem.Str).Nodup by decide +kernel) rfl (Or.inl rfl)) (ni (nc (i:=1) (show(["row","column","sign","last"]:List PySem.Str).Nodup by decide +kernel) rfl (Or.inl rfl)) (ni (nc (i:=2) (show(["row","column","sign","last"]:List PySem.Str).Nodup by decide +kernel) rfl (Or.inl rfl)) p5))))) (λ_=>qh) (λ_=>(oh (m9 (pv 1) (m9 (ph wb (pv 3) (pv 0)) (m9 (pv 2) mr))))))))),?_⟩
 refine ace 0 yg ato rfl ha mR hs sF λD1 H1 s1 qE=>?_;refine⟨rfl,(nq D1 _ ⟨rfl,qE,by rw[ah];exact hpos,λM1 m1 GV=>?_⟩)⟩;have em:=alc m1 GV;refine afb AX rfl rfl (s1 _ _ ha) (mR.same s1) hs sF (a0g M1) (λD ys H' hD s2 bA rep=>q D ys H' (s1.trans s2) bA (by unfold nE;rw[<-em];exact rep)) (λr c z=>(nq _ _ rfl))
end
noncomputable def iter(i:Nat)(ds:List PyData):List PyData:=(cb i).foldl (λa _=>nE a) ds
theorem Lz(i:Nat)(ds:List PyData):iter (i+1) ds=nE (iter i ds):=by unfold iter;rw[jx,List.foldl_append];rfl
section
variable{P:aI}{w:aK}{K:aj}{mg:Str->Option aA}{base:Heap}{f:aE}{fd:aP}
def azt:Sp:=λvs H Q _=>∃(a:aE)(t:Nat)(xs:List V)(ds:List PyData),vs=[.ref a,.int (t:Nat)]/\(H a=some (.lst xs)\/H a=some (.tup xs))/\RepAll H ds xs/\Spots ds/\0<ds.length/\ds.length<=64/\t<8/\
 ∀(r:aE)(H':Hp)(es:List PyData),Same H H'->es.Perm (Bm t ds)->es.Pairwise (λx y=>ltR y x=false)->Rep H' (.tuple es) (.ref r)->Q (.ref r) H'
theorem scTd:nu ["form","t","spots","step"] ["form","t"] (nh sTd):={}
theorem aw7(B:∀x∈v7,mg x=none)(LO:Fn P w K mg base "mirrored" 1 ["spots"] (Fj nA))(Ftr:Fn P w K mg base "turned_right" 1 ["spots"] (Fj nE))(F:Fun K "turned" "turned" sTd f fd):qt P w K mg base CX0 2 f fd ["form","t"] azt:=by
 refine F.ok (k:=1) scTd (λvs H Q E h=>?_) (λbN A outer s H vs Q E hr h=>?_)
 .obtain⟨a,t,xs,ds,rfl,_⟩:=h;rfl
 obtain⟨a,t,ys,ds,rfl,ha,GH,yL,hpos,sF,ht,q⟩:=h;refine⟨_,(mw (n8 (i:=2) scTd.nd rfl (Or.inl rfl) (yp ae9 rfl (B "list" (by decide)) sN (m9 (pv 0) mr)))
  (mw (rs (oy au0 (pv 1) mx (pf _)) (m8 (n8 (i:=2) scTd.nd rfl (Or.inl rfl) (oj LO hr (by decide) rfl (m9 (pv 2) mr)))) pw)
  (mw (qj cj rfl (sV rfl (B "range" (by decide)) (m9 (ph zU (pv 1) mx) mr)) (nc (i:=3) scTd.nd rfl (Or.inl rfl)) (m8 (n8 (i:=2) scTd.nd rfl (Or.inl rfl) (oj Ftr hr (by decide) rfl (m9 (pv 2) mr)))))
  (m8 (nv (yp p6 rfl (B "tuple" (by decide)) cZ (m9 (rg zm rfl (B "sorted" (by decide)) lN (m9 (pv 2) mr)) mr))))))),?_⟩
 refine(o8 _ rfl a ys ⟨rfl,ha.imp SqL.of SqT.of,λD EM=>?_⟩);have sm:Same H (upd H D (.lst ys)):=Same.fresh _ EM;have bA:upd H D (.lst ys) D=some (.lst ys):=np;have rep:=GH.same sm;generalize upd H D (.lst ys)=H2 at *;refine(o7 _ rfl _ _ rfl rfl _ ⟨rfl,?_⟩);refine u6 (λh4=>?ga) (λh4=>?gb)
 case' ga=>
  have IK:4<=t:=by have:(t:Int)>=4:=of_decide_eq_true h4
                   lia
  refine(o6 _ rfl D ys ds ⟨rfl,bA,rep,yL,hpos,sF,λD ys H3 s3 bA rep=>?_⟩)
  replace sm:=sm.trans s3
  obtain⟨oE,e1⟩:∃d,d=(if 4<=t then nA ds else ds):=⟨_,rfl⟩;have e2:oE=nA ds:=by rw[e1,if_pos IK]
  rw[<-e2]at rep;have sp1:Spots oE:=by rw[e2];exact ajo yL _
  have l1:oE.length=ds.length:=by rw[e2];simp[nA]
  generalize H3=H2 at *
 case' gb=>
  have IK:¬4<=t:=by have:¬(t:Int)>=4:=by simpa using h4
                    lia
  obtain⟨oE,e1⟩:∃d,d=(if 4<=t then nA ds else ds):=⟨_,rfl⟩;have e2:oE=ds:=by rw[e1,if_neg IK]
  rw[<-e2]at rep;have sp1:Spots oE:=by rw[e2];exact yL
  have l1:oE.length=ds.length:=by rw[e2]
 all_goals
  refine(yj _ rfl _ _ rfl rfl (by show(0:Int)<4;decide) _ ⟨rfl,by lia,by lia,?_⟩);refine qy (lo:=0) (λi σ' H'=>∃(y3:Option V)(D:aE)(ys:List V),σ'=[some (.ref a),some (.int (t:Nat)),some (.ref D),y3]/\Same H H'/\H' D=some (.lst ys)/\RepAll H' (iter i oE) ys/\Spots (iter i oE)/\(iter i oE).length=ds.length) ?_ (λi σ' H' hi h=>?_) (λσ' H' h=>?_)
  .exact(oq _ D ys ⟨rfl,sm,bA,rep,sp1,l1⟩)
  .obtain⟨y3,D,ys,rfl,sm,bA,rep,sp,hl⟩:=h;refine(o6 _ rfl D ys _ ⟨rfl,bA,rep,sp,by lia,by lia,λD2 ys2 H3 s3 wZ oT=>?_⟩);refine(oq _ D2 ys2 ⟨rfl,sm.trans s3,wZ,by rw[Lz];exact oT,by rw[Lz];exact akz sp _,by rw[Lz];simp[nE,hl]⟩)
  .obtain⟨y3,D,ys,rfl,sm,bA,rep,sp,hl⟩:=h;have et:(((t:Nat):Int) % 4).toNat=t % 4:=by lia
   rw[et]at rep sp hl;refine(mz _ rfl D ys _ ([true,false]) ⟨rfl,bA,rep,yk sp,λl zs es pH pe ue hz=>?_⟩);refine(nq l zs ⟨rfl,.inl ⟨SqL.of np,λl2 kG=>?_⟩⟩);have s1:Same H' (upd H' l (.lst zs)):=Same.fresh _ pH;have s2:Same (upd H' l (.lst zs)) (upd (upd H' l (.lst zs)) l2 (.tup zs)):=Same.fresh _ kG;refine q l2 _ es ((sm.trans s1).trans s2) ?_ ue (nq l2 zs ⟨rfl,np,hz.same s2⟩);rw[show Bm t ds=iter (t % 4) oE by rw[e1];rfl];exact pe
end
end K22
namespace L3
open PySem PySem.Spec PyProof.Rows L2
noncomputable def cl(d:PyData):Int×Int:=(yg d,zh d)
def SgD(d:PyData):Prop:=∃(r c:Int)(k:Nat),d=.tuple [.int r,.int c,.str ⟨#[k]⟩]/\65<=k/\k<=90
structure Pre(ds:List PyData):Prop where
 sg:∀d∈ds,SgD d
 pos:0<ds.length
 six:ds.length<=6
 nd:(ds.map cl).Nodup
structure Zr(ds:List PyData):Prop where
 pre:Pre ds
 r0:zx (ds.map yg)=0
 c0:zx (ds.map zh)=0
theorem Pre.spots{ds:List PyData}(h:Pre ds):Spots ds:=λd hd=>by obtain⟨r,c,k,e,_⟩:=h.sg d hd;exact(oq r c _ e)
theorem Pre.map{ds:List PyData}(h:Pre ds){f:PyData->PyData}{g:Int×Int->Int×Int}(hf:∀d,SgD d->SgD (f d)/\cl (f d)=g (cl d))(hi:∀a b,g a=g b->a=b):Pre (ds.map f):=by
 have e:(ds.map f).map cl=(ds.map cl).map g:=by rw[cq,cq];exact gn λd hd=>(hf d (h.sg d hd)).2
 refine⟨λd hd=>?_,by rw[ah];exact h.pos,by rw[ah];exact h.six,?_⟩
 .obtain⟨x,hx,rfl⟩:=bf.mp hd;exact(hf x (h.sg x hx)).1
 .rw[e];exact List.Pairwise.map g (λa b jX z=>jX (hi a b z)) h.nd
theorem Pre.perm{ds es:List PyData}(h:Pre ds)(p:es.Perm ds):Pre es:=
 ⟨λd hd=>h.sg d (p.mem_iff.mp hd),by rw[p.length_eq];exact h.pos,by rw[p.length_eq];exact h.six,(p.map cl).nodup_iff.mpr h.nd⟩
theorem ahb{ns ms:List Int}(p:ns.Perm ms)(h:0<ns.length):zx ns=zx ms:=
 DS (p.mem_iff.mp (F8 h)) λa ha=>yw a (p.mem_iff.mpr ha)
theorem Zr.perm{ds es:List PyData}(h:Zr ds)(p:es.Perm ds):Zr es:=by have hp:=h.pre.perm p;exact⟨hp,(ahb (p.map yg) (by rw[ah];exact hp.pos)).trans h.r0,(ahb (p.map zh) (by rw[ah];exact hp.pos)).trans h.c0⟩
theorem K2{d:PyData}(m:Int)(h:SgD d):SgD (AY m d)/\cl (AY m d)=((cl d).1,m-(cl d).2):=by obtain⟨r,c,k,rfl,h1,h2⟩:=h;exact⟨(oq r (m-c) k ⟨rfl,h1,h2⟩),rfl⟩
theorem K9{d:PyData}(m:Int)(h:SgD d):SgD (AX m d)/\cl (AX m d)=((cl d).2,m-(cl d).1):=by obtain⟨r,c,k,rfl,h1,h2⟩:=h;exact⟨(oq c (m-r) k ⟨rfl,h1,h2⟩),rfl⟩
theorem Lw{d:PyData}(a b:Int)(h:SgD d):SgD (Bo a b d)/\cl (Bo a b d)=((cl d).1-a,(cl d).2-b):=by obtain⟨r,c,k,rfl,h1,h2⟩:=h;exact⟨(oq (r-a) (c-b) k ⟨rfl,h1,h2⟩),rfl⟩
theorem Kx(d:PyData):yg d=(cl d).1:=rfl
theorem KG(d:PyData):zh d=(cl d).2:=rfl
theorem ahv{ns:List Int}(h:0<ns.length):zx (ns.map λx=>mF ns-x)=0:=by
 refine(DS ?_ λa ha=>?_).symm
 .exact bf.mpr ⟨mF ns,Lq h,by lia⟩
 .obtain⟨x,hx,rfl⟩:=bf.mp ha;have:=K7 x hx;lia
theorem alv{ns:List Int}(h:0<ns.length):zx (ns.map λx=>x-zx ns)=0:=by
 refine(DS ?_ λa ha=>?_).symm
 .exact bf.mpr ⟨zx ns,F8 h,by lia⟩
 .obtain⟨x,hx,rfl⟩:=bf.mp ha;have:=yw x hx;lia
theorem Zr.mir{ds:List PyData}(h:Zr ds):Zr (nA ds):=by
 have hp:Pre (nA ds):=h.pre.map (g:=λa=>(a.1,mF (ds.map zh)-a.2)) (λd hd=>K2 _ hd) (λa b e=>by
  injection e with e1 e2
  exact Prod.ext e1 (by lia))
 refine⟨hp,?_,?_⟩
 .rw[show(nA ds).map yg=ds.map yg by
   unfold nA;rw[cq];exact gn λd hd=>by rw[Function.comp,Kx,(K2 _ (h.pre.sg d hd)).2];rfl]
  exact h.r0
 .rw[show(nA ds).map zh=(ds.map zh).map λx=>mF (ds.map zh)-x by
   unfold nA;rw[cq,cq];exact gn λd hd=>by rw[Function.comp,KG,(K2 _ (h.pre.sg d hd)).2];rfl]
  exact ahv (by rw[ah];exact h.pre.pos)
theorem Zr.tur{ds:List PyData}(h:Zr ds):Zr (nE ds):=by
 have hp:Pre (nE ds):=h.pre.map (g:=λa=>(a.2,mF (ds.map yg)-a.1)) (λd hd=>K9 _ hd) (λa b e=>by
  injection e with e1 e2
  exact Prod.ext (by lia) e1)
 refine⟨hp,?_,?_⟩
 .rw[show(nE ds).map yg=ds.map zh by
   unfold nE;rw[cq];exact gn λd hd=>by rw[Function.comp,Kx,(K9 _ (h.pre.sg d hd)).2];rfl]
  exact h.c0
 .rw[show(nE ds).map zh=(ds.map yg).map λx=>mF (ds.map yg)-x by
   unfold nE;rw[cq,cq];exact gn λd hd=>by rw[Function.comp,KG,(K9 _ (h.pre.sg d hd)).2];rfl]
  exact ahv (by rw[ah];exact h.pre.pos)
theorem Zr.shift{ds:List PyData}(h:Pre ds):Zr (xc ds):=by
 have hp:Pre (xc ds):=h.map (g:=λa=>(a.1-zx (ds.map yg),a.2-zx (ds.map zh))) (λd hd=>Lw _ _ hd) (λa b e=>by
  injection e with e1 e2
  exact Prod.ext (by lia) (by lia))
 refine⟨hp,?_,?_⟩
 .rw[show(xc ds).map yg=(ds.map yg).map λx=>x-zx (ds.map yg) by
   unfold xc;rw[cq,cq];exact gn λd hd=>by rw[Function.comp,Kx,(Lw _ _ (h.sg d hd)).2];rfl]
  exact alv (by rw[ah];exact h.pos)
 .rw[show(xc ds).map zh=(ds.map zh).map λx=>x-zx (ds.map zh) by
   unfold xc;rw[cq,cq];exact gn λd hd=>by rw[Function.comp,KG,(Lw _ _ (h.sg d hd)).2];rfl]
  exact alv (by rw[ah];exact h.pos)
noncomputable def Dw(i:Nat)(ds:List PyData):List PyData:=(cb i).foldl (λa _=>nE a) ds
theorem aiw(i:Nat)(ds:List PyData):Dw (i+1) ds=nE (Dw i ds):=by unfold Dw;rw[jx,List.foldl_append];rfl
theorem Zr.iter{ds:List PyData}(h:Zr ds):∀i,Zr (Dw i ds)
 | 0=>h
 | i+1=>by rw[aiw];exact(h.iter i).tur
theorem Zr.turned{ds:List PyData}(h:Zr ds)(t:Nat):Zr (Bm t ds):=by
 show Zr (Dw (t % 4) (if 4<=t then nA ds else ds));refine Zr.iter ?_ _;split
 .exact h.mir
 .exact h
noncomputable def wp(es:List PyData)(t:Nat):PyData:=.tuple (vT (Bm t es))
noncomputable def sj(es:List PyData)(n:Nat):List PyData:=(cb n).map (wp es)
theorem mem_forms{es:List PyData}{n:Nat}{d:PyData}:d∈sj es n↔∃t,t<n/\wp es t=d:=by simp[sj]
theorem axg{d:PyData}(h:SgD d):kd d=true:=by obtain⟨r,c,k,rfl,_⟩:=h;rfl
theorem KD:∀{ds:List PyData},(∀d∈ds,SgD d)->tz ds=true
 | [],_=>rfl
 | d::ds,h=>by show(kd d&&tz ds)=true;rw[axg (h d aw),KD λe he=>h e (a8 _ he)];rfl
theorem avm{d e:PyData}(h:SgD d)(h':SgD e):Cmp d e:=by obtain⟨r,c,k,rfl,_⟩:=h;obtain⟨r',c',k',rfl,_⟩:=h';exact⟨True.intro,True.intro,True.intro,True.intro⟩
theorem K0:∀{ds es:List PyData},(∀d∈ds,SgD d)->(∀d∈es,SgD d)->mG ds es
 | [],_,_,_=>by unfold mG;exact True.intro
 | d::ds,[],_,_=>by unfold mG;exact True.intro
 | d::ds,e::es,h,h'=>⟨avm (h d aw) (h' e aw),K0 (λx hx=>h x (a8 _ hx)) λx hx=>h' x (a8 _ hx)⟩
theorem acj{ds:List PyData}(h:Spots ds):bv ds<=2:=by
 induction ds with
 | nil=>simp[bv]
 | cons d t ih=>
  obtain⟨r,c,x,rfl⟩:=h d (by simp);have:=ih λe he=>h e (by simp[he]);simp[bv,g0];lia
theorem vz{es:List PyData}(h:Zr es)(t:Nat):Zr (vT (Bm t es)):=(h.turned t).perm (yt _)
theorem air{es:List PyData}(h:Zr es)(t:Nat):(wp es t).depth<=3:=by have:=acj (vz h t).pre.spots;unfold wp;simp[g0];lia
theorem ahc{es:List PyData}(h:Zr es)(t:Nat):Dq (wp es t)/\TT (wp es t):=by
 have hd:=air h t;refine⟨⟨KD (vz h t).pre.sg,⟨_,rfl⟩,by lia⟩,?_⟩;have hp:=(vz h t).pre.pos;have hs:=(vz h t).pre.sg;unfold wp;cases e:vT (Bm t es)with
 | nil=>rw[e]at hp;exact absurd hp (by simp)
 | cons d ds=>
  rw[e]at hs;obtain⟨r,c,k,rfl,_⟩:=hs d aw;exact(nq _ _ rfl)
theorem alk{es ds:List PyData}(h:Zr es)(hm:∀d∈ds,∃t,wp es t=d):∀d∈ds,Dq d/\TT d:=λd hd=>by obtain⟨t,rfl⟩:=hm d hd;exact ahc h t
theorem aez{es ds:List PyData}(h:Zr es)(hm:∀d∈ds,∃t,wp es t=d):CmpA ds:=
 ⟨λx hx y hy=>by
  obtain⟨t,rfl⟩:=hm x hx;obtain⟨t',rfl⟩:=hm y hy;exact K0 (vz h t).pre.sg (vz h t').pre.sg,λx hx=>by
  obtain⟨t,rfl⟩:=hm x hx;exact(ahc h t).1.1⟩
theorem aoq{es:List PyData}(h:Zr es)(t:Nat):imm (wp es t)=true:=Spots.imm (vz h t).pre.spots
theorem ae3{es:List PyData}(h:Zr es):∀{ds:List PyData},(∀d∈ds,∃t,wp es t=d)->pq ds=true
 | [],_=>rfl
 | d::ds,hm=>by obtain⟨t,rfl⟩:=hm d aw;show(imm (wp es t)&&pq ds)=true;rw[aoq h t,ae3 h λe he=>hm e (a8 _ he)];rfl
theorem aid(es:List PyData)(n:Nat):sj es (n+1)=sj es n++[wp es n]:=by unfold sj;rw[jx,bn];rfl
theorem rk{es:List PyData}{n:Nat}:∀d∈sj es n,∃t,wp es t=d:=λd hd=>by obtain⟨t,_,e⟩:=mem_forms.mp hd;exact⟨t,e⟩
theorem Pre.strict{ds es:List PyData}(h:Pre ds)(p:es.Perm ds)(u:es.Pairwise λx y=>ltR y x=false):es.Pairwise lt2:=by
 have hp:=h.perm p;have nd:es.Pairwise λx y=>cl x≠cl y:=gl.mp hp.nd;refine i8 (λ{a b} ha hb jX=>?_) (u.and nd);obtain⟨r,c,k,rfl,_⟩:=hp.sg a ha;obtain⟨r',c',k',rfl,_⟩:=hp.sg b hb;obtain⟨h1,h2⟩:=jX;have fT:rn [.int r',.int c',.str ⟨#[k']⟩] [.int r,.int c,.str ⟨#[k]⟩]=false:=h1;rw[FL,FL]at fT;show r<r'\/r=r'/\c<c';by_cases er:r'=r
 .rw[if_pos er]at fT;right;refine⟨er.symm,?_⟩;by_cases ec:c'=c
  .exfalso;subst er;subst ec;exact h2 rfl
  .rw[if_neg ec]at fT;have:=of_decide_eq_false fT;lia
 .rw[if_neg er]at fT;have:=of_decide_eq_false fT;left;lia
theorem aiz{ds:List PyData}(h:Spots ds):(vT ds).Pairwise λx y=>ltR y x=false:=by rw[ik];intro i j hi hj cW;exact an7 (yk h) (ab hi) (ab hj) (gj cW)
theorem Pre.sorted{ds es:List PyData}(h:Pre ds)(p:es.Perm ds)(u:es.Pairwise λx y=>ltR y x=false):es=vT ds:=
 abk are (h.strict p u) (h.strict (yt ds) (aiz h.spots)) λz=>by rw[p.mem_iff,(yt ds).mem_iff]
end L3
namespace K22
open PySem PyProof.Rows L2 L3
def Bi(m:Str)(n:Nat):Prop:=(m="still"/\n=1)\/(m="turn"/\n=4)\/(m="flip"/\n=8)
def Kf(P:aI)(w:aK)(K:aj)(mg:Str->Option aA):Prop:=∃aD oD aU,mg "TURNINGS_BY_MODE" = some (.ref aD)/\K.lookup aD=some oD/\oD.IsDictOf (strKind P w) aU/\∀m n,Bi m n->∃t,valueAt aU m=some (.int (n:Nat) t)
def ama:Sp:=λvs H Q _=>∃(r:aE)(m:Str)(n:Nat)(xs:List V)(es:List PyData),vs=[.ref r,.str m]/\H r=some (.tup xs)/\RepAll H es xs/\Zr es/\Bi m n/\
 ∀(l:aE)(ys:List V)(ds:List PyData)(H':Hp),Same H H'->H l=none->H' l=some (.lst ys)->ds.Nodup->(∀d,d∈ds↔d∈sj es n)->RepAll H' (ww ds) ys->Q (.ref l) H'
section
variable{P:aI}{w:aK}{K:aj}{mg:Str->Option aA}{base:Heap}{f:aE}{fd:aP}
theorem aq8:nu ["form","mode"] ["form","mode"] (nh KC):={}
theorem ang(B:∀x∈v7,mg x=none)(hM:Kf P w K mg)(Ftd:Fn P w K mg base "turned" 2 ["form","t"] azt)
  (F:Fun K "forms_of" "forms_of" KC f fd):qt P w K mg base CX0 3 f fd ["form","mode"] ama:=by
 obtain⟨aD,oD,aU,hD,hL,hI,hV⟩:=hM;refine F.ok (k:=2) aq8 (λvs H Q E h=>?_) (λbN A outer s H vs Q E hr h=>?_)
 .obtain⟨r,m,n,xs,es,rfl,_⟩:=h;rfl
 obtain⟨r,m,n,xs,es,rfl,gZ,rep,hz,hm,q⟩:=h;have hu:=hr.units;obtain⟨tk,hv⟩:=hV m n hm;refine⟨_,(m8 (nv (ab2 rfl hu rfl (B "sorted" (by decide)) rfl (B "set" (by decide)) (m9 (o9 ["t","form"] [none,some 0] rfl rfl (by decide +kernel) (by decide +kernel) rfl rfl (sV rfl (B "range" (by decide)) (m9 (ny arn (aoa hD rfl) (pv 1) (λ_ _=>rfl)) mr)) (λ_=>(nc (i:=0) (show(["t","form"]:List PySem.Str).Nodup by decide +kernel) rfl (Or.inl rfl))) (λ_=>qh) (λ_=>(oj Ftd hr (by decide) rfl (m9 (pv 1) (m9 (pv 0) mr))))) mr)))),?_⟩;refine(mz _ rfl aD m oD aU (nq n tk ⟨rfl,rfl,hL,hI,hv,?_⟩));have hn:n<=8:=by rcases hm with h|h|h<;>lia
 refine⟨(n:Nat),rfl,by lia,by lia,λD EM=>?_⟩;rw[cg];refine aci (lo:=0) (n:=n) (λi ys G=>Same H G/\RepAll G (sj es i) ys) ⟨Same.fresh _ EM,rfl⟩ (λi ys G hi bA fQ p=>?_) (λys G bA fQ p=>?_)
 .obtain⟨p1,p2⟩:=p;refine⟨Agree.set (Agree.refl _) rfl,?_⟩;dsimp only[jH];refine um ?_;refine(nj _ rfl _ rfl r i xs ⟨es,by rw[Int.zero_add];rfl,.inr (p1 _ _ gZ),rep.same p1,hz.pre.spots,hz.pre.pos,by have:=hz.pre.six;lia,by lia,λr2 H2 e2 s2 pe ue jL=>?_⟩);rw[(hz.turned i).pre.sorted pe ue]at jL;have gO:=s2 _ _ bA;refine qm (by lia) gO fQ ⟨(p1.trans s2).new EM,?_⟩;rw[aid];refine((p2.same s2).snoc jL).tk (Tk.lst gO) (ae3 hz λd hd=>?_);rcases ay.mp hd with h|h
  .exact rk d h
  .exact⟨i,(ao.mp h).symm⟩
 .obtain⟨p1,p2⟩:=p;refine(oq D ys (sj es n) ⟨rfl,bA,p2,alk hz rk,aez hz rk,by simp[sj];lia,λds l zs kE eP hl rz=>?_⟩);have hlH:H l=none:=by
   cases e:H l with
   | none=>rfl
   | some o=>rw[p1 _ _ e]at hl;cases hl
  exact q l zs ds _ (p1.trans (Same.fresh _ hl)) hlH np kE eP rz
end
theorem E7(z:Str):z.cps.toList.length=z.length:=by simp[Str.length]
theorem ok1{c:Nat}(h:c<128):mq (⟨#[c]⟩:Str)=true:=Tx.ok ⟨by show 1<=80;lia,λx hx=>by
 have:x=c:=by simpa using hx
 lia⟩
def Rw(zs:List Str):Prop:=0<zs.length/\zs.length<=8/\∃wd,0<wd/\wd<=8/\∀z∈zs,(Tx z/\∀c∈z.cps.toList,sgB c=true)/\z.length=wd
def Fl(H:Hp)(a:aE)(zs:List Str):Prop:=H a=some (.tup (zs.map V.str))/\Rw zs
theorem Fl.tx{H:Hp}{a:aE}{zs:List Str}(h:Fl H a zs):∀z∈zs,Tx z:=λz hz=>by obtain⟨_,_,_,wd,_,_,hw⟩:=h;exact(hw z hz).1.1
noncomputable def sU(r:Nat)(cs:List Nat):Nat->List PyData
 | 0=>[]
 | k+1=>sU r cs k++(match cs[k]? with|some c=>[.tuple [.int r,.int k,.str ⟨#[c]⟩]]|none=>[])
noncomputable def zc(zs:List Str):Nat->List PyData
 | 0=>[]
 | k+1=>zc zs k++(match zs[k]? with|some z=>sU k z.cps.toList z.cps.toList.length|none=>[])
theorem wj(r:Nat)(cs:List Nat):∀k,Spots (sU r cs k)
 | 0,d,h=>by cases h
 | k+1,d,h=>by
  unfold sU at h;rcases ay.mp h with h|h
  .exact wj r cs k d h
  .cases e:cs[k]? with
   | none=>rw[e]at h;cases h
   | some c=>rw[e]at h;rw[ao.mp h];exact(oq _ _ _ rfl)
theorem aan(zs:List Str):∀k,Spots (zc zs k)
 | 0,d,h=>by cases h
 | k+1,d,h=>by
  unfold zc at h;rcases ay.mp h with h|h
  .exact aan zs k d h
  .cases e:zs[k]? with
   | none=>rw[e]at h;cases h
   | some z=>rw[e]at h;exact wj _ _ _ d h
theorem Spots.app{a b:List PyData}(h:Spots a)(k:Spots b):Spots (a++b):=λd hd=>(ay.mp hd).elim (h d) (k d)
theorem ab9{r:Nat}{cs:List Nat}{k c:Nat}(h:cs[k]?=some c):sU r cs (k+1)=sU r cs k++[.tuple [.int r,.int k,.str ⟨#[c]⟩]]:=by show sU r cs k++_=_;rw[h]
theorem aca{zs:List Str}{k:Nat}{z:Str}(h:zs[k]?=some z):zc zs (k+1)=zc zs k++sU k z.cps.toList z.cps.toList.length:=by show zc zs k++_=_;rw[h]
section
variable{P:aI}{w:aK}{K:aj}{mg:Str->Option aA}{base:Heap}{f:aE}{fd:aP}
def KW:Sp:=λvs H Q _=>∃(a:aE)(zs:List Str),vs=[.ref a]/\Fl H a zs/\∀(D:aE)(ys:List V)(H':Hp),Same H H'->H' D=some (.lst ys)->ys.length<=64->RepAll H' (zc zs zs.length) ys->Q (.ref D) H'
theorem scSpots:nu ["floor","spots","row","signs","column","sign"] ["floor"] (nh KF):={}
theorem anp(B:∀x∈v7,mg x=none)(F:Fun K "floor_spots" "floor_spots" KF f fd):qt P w K mg base CX0 1 f fd ["floor"] KW:=by
 refine F.ok (k:=0) scSpots (λvs H Q E h=>?_) (λbN A outer s H vs Q E hr h=>?_)
 .obtain⟨a,zs,rfl,_⟩:=h;rfl
 obtain⟨a,zs,rfl,hf,q⟩:=h;have htx:=hf.tx;obtain⟨ha,tI,B7,wd,hw0,hw8,hw⟩:=hf;refine⟨_,(mw (n8 (i:=1) scSpots.nd rfl (Or.inl rfl) (qa mr))
  (mw (qj cj rfl (apx rfl (B "enumerate" (by decide)) (m9 (pv 0) mr)) (sr (n:=2) rfl (ni (nc (i:=2) scSpots.nd rfl (Or.inl rfl)) (ni (nc (i:=3) scSpots.nd rfl (Or.inl rfl)) p5))) (m8 (qj cj rfl (at9 rfl (B "enumerate" (by decide)) (m9 (pv 3) mr)) (sr (n:=2) rfl (ni (nc (i:=4) scSpots.nd rfl (Or.inl rfl)) (ni (nc (i:=5) scSpots.nd rfl (Or.inl rfl)) p5))) (m8 (rq (wq fc fx fy qo (pv 1) (m9 (oh (m9 (pv 2) (m9 (pv 4) (m9 (pv 5) mr)))) mr)))))))
  (m8 (nv (pv 1))))),?_⟩
 refine⟨sZ0,λD hD=>?_⟩;refine(qc _ rfl a ⟨rfl,⟨_,SqT.of (by rw[ow (qb ha hD)];exact ha)⟩,?_⟩);refine al9 (xs:=zs.map V.str) (λi σ' H'=>∃(y2 y3 y4 y5:Option V)(ys:List V),σ'=[some (.ref a),some (.ref D),y2,y3,y4,y5]/\Same H H'/\H' D=some (.lst ys)/\RepAll H' (zc zs i) ys/\ys.length<=8*i) ?_ (λi σ' H' h=>?_) (λi x p σ' H' hx hp h=>?_) (λσ' H' h=>?_)
 .exact(my _ _ _ _ ([]) ⟨rfl,Same.fresh _ hD,np,rfl,f7 _⟩)
 .obtain⟨_,_,_,_,_,_,s1,_⟩:=h;exact SqT.of (s1 _ _ ha)
 .obtain⟨y2,y3,y4,y5,ys,rfl,s1,bA,rep,fQ⟩:=h;rw[au]at hx;cases hz:zs[i]? with
  | none=>rw[hz]at hx;cases hx
  | some z=>
   rw[hz]at hx;cases hx;have GY:=ak hz;have kH:i<zs.length:=(ae.mp hz).1;have bY:=(hw z GY).2;have hL:=E7 z;refine(n0 p _ rfl (SqT.of np) rfl _ _ rfl _ ⟨_,rfl,rfl,?_⟩);have s2:Same H' (upd H' p (.tup [.int (i:Nat),.str z])):=Same.fresh _ hp;generalize upd H' p (.tup [.int (i:Nat),.str z])=H2 at *;refine(qc _ rfl z ⟨rfl,(htx z GY).2,?_⟩);refine aq9 (z:=z) (λj σ' H3=>∃(y4 y5:Option V)(ys:List V),σ'=[some (.ref a),some (.ref D),some (.int (i:Nat)),some (.str z),y4,y5]/\Same H H3/\H3 D=some (.lst ys)/\RepAll H3 (zc zs i++sU i z.cps.toList j) ys/\ys.length<=8*i+j) ?_ (λj c p3 σ' H3 hc qA h=>?_) (λσ' H3 h=>?_)
   .refine(oq _ _ ys ⟨rfl,s1.trans s2,s2 _ _ bA,?_,by lia⟩);show RepAll H2 (zc zs i++[]) ys;rw[dg];exact rep.same s2
   .obtain⟨y4,y5,Bs,rfl,s3,wZ,oT,H0⟩:=h;have jB:j<z.cps.toList.length:=(ae.mp hc).1;have CY:c<128:=(htx z GY).2 c (ak hc);refine(n0 p3 _ rfl (SqT.of np) rfl _ _ rfl _ ⟨_,rfl,rfl,?_⟩);have s4:Same H3 (upd H3 p3 (.tup [.int (j:Nat),.str ⟨#[c]⟩])):=Same.fresh _ qA;generalize upd H3 p3 (.tup [.int (j:Nat),.str ⟨#[c]⟩])=H4 at *;have AI:=s4 _ _ wZ;refine(o4 _ rfl (.inl ⟨rfl,_,SqL.of AI⟩) _ ⟨rfl,(qc _ rfl _ ⟨rfl,sZ3,λt ht=>?_⟩)⟩);have s5:Same H4 (upd H4 t (.tup [.int (i:Nat),.int (j:Nat),.str ⟨#[c]⟩])):=Same.fresh _ ht;have t5:upd H4 t (.tup [.int (i:Nat),.int (j:Nat),.str ⟨#[c]⟩]) t=some (.tup [.int (i:Nat),.int (j:Nat),.str ⟨#[c]⟩]):=np;generalize upd H4 t (.tup [.int (i:Nat),.int (j:Nat),.str ⟨#[c]⟩])=H5 at *;have C8:=s5 _ _ AI;refine(oq D Bs (.ref t) ⟨rfl,rfl,C8,oe (by lia),?_⟩);have qQ:RepAll H5 ((zc zs i++sU i z.cps.toList j)++[.tuple [.int (i:Nat),.int (j:Nat),.str ⟨#[c]⟩]]) (Bs++[.ref t]):=((oT.same s4).same s5).snoc (zy t5 (ok1 CY));rw[bz,<-ab9 hc]at qQ;refine(oq _ _ (Bs++[.ref t]) ⟨rfl,((s3.trans s4).trans s5).new hD,np,qQ.tk (Tk.lst C8) (Spots.imm (Spots.app (aan _ _) (wj _ _ _))),?_⟩);rw[bu,fq];lia
   .obtain⟨y4,y5,Bs,rfl,s3,wZ,oT,H0⟩:=h;rw[<-aca hz]at oT;exact(my _ _ _ _ Bs ⟨rfl,s3,wZ,oT,by lia⟩)
 .obtain⟨y2,y3,y4,y5,ys,rfl,s1,bA,rep,fQ⟩:=h;rw[ah]at rep fQ;exact⟨_,rfl,q D ys H' s1 bA (by lia) rep⟩
end
theorem ab1(M:Mat)(r:Nat):∀c,c<=M.w->sU r (rm M r) c=(cb c).map λk=>Fi M r k
 | 0,_=>rfl
 | c+1,h=>by rw[ab9 (DU (M:=M) (r:=r) (c:=c) (by lia)),ab1 M r c (by lia),jx,bn];rfl
theorem yh(M:Mat):∀k,k<=M.h->zc (uz M) k=(cb (k*M.w)).map λi=>Fi M (i/M.w) (i % M.w)
 | 0,_=>by simp[zc]
 | k+1,h=>by
  rw[aca (KR (M:=M) (r:=k) (by lia)),yh M k (by lia)];have e:((⟨(rm M k).toArray⟩:Str).cps.toList)=rm M k:=by simp
  rw[e,F6,ab1 M k M.w (aq _),Nat.add_mul,Nat.one_mul,List.range_add,bn,cq]
  congr 1
  refine gn λc hc=>?_;have iP:c<M.w:=by simpa using hc
  show Fi M k c=Fi M ((k*M.w+c)/M.w) ((k*M.w+c) % M.w);rw[xx iP,wx iP]
theorem aqi{M:Mat}(o:OkM SgP M){z:Str}(h:z∈uz M):(Tx z/\∀c∈z.cps.toList,sgB c=true)/\z.length=M.w:=by
 obtain⟨r,hr,rfl⟩:=aob h;have hs:=aqw o hr;have hl:(⟨(rm M r).toArray⟩:Str).length=M.w:=by show(rm M r).toArray.size=_;rw[a9,F6]
 have hw:=o.w8;have e:((⟨(rm M r).toArray⟩:Str).cps.toList)=rm M r:=by simp
 refine⟨⟨⟨by lia,λc hc=>?_⟩,λc hc=>?_⟩,hl⟩
 .rw[e]at hc;exact Bh (hs c hc)
 .rw[e]at hc;exact hs c hc
theorem FlM.fl{H:Hp}{a:aE}{M:Mat}(h:FlM H a M):Fl H a (uz M):=
 ⟨h.1,by rw[tf];exact h.2.h1,by rw[tf];exact h.2.h8,M.w,h.2.w1,h.2.w8,λz hz=>aqi h.2 hz⟩
theorem apc{zs:List Str}{wd:Nat}(h1:0<zs.length)(h8:zs.length<=8)(w1:0<wd)(w8:wd<=8)(hz:∀z∈zs,(Tx z/\∀c∈z.cps.toList,sgB c=true)/\z.length=wd):∃M:Mat,zs=uz M/\OkM SgP M/\M.h=zs.length/\M.w=wd:=by
 refine⟨⟨zs.length,wd,λr c=>((zs[r]?.map λz=>z.cps.toList).getD []).getD c 0⟩,?_,⟨h1,h8,w1,w8,λr c hr hc=>?_⟩,rfl,rfl⟩
 .apply k9;intro r;by_cases hr:r<zs.length
  .rw[KR (M:=⟨zs.length,wd,_⟩) hr,ab hr];have gG:=hz _ (eu hr);have hl:zs[r].cps.toList.length=wd:=by rw[E7];exact gG.2
   have e:rm ⟨zs.length,wd,λr c=>((zs[r]?.map λz=>z.cps.toList).getD []).getD c 0⟩ r=zs[r].cps.toList:=by
    apply k9;intro c;by_cases hc:c<wd
    .rw[DU (M:=⟨zs.length,wd,λr c=>((zs[r]?.map λz=>z.cps.toList).getD []).getD c 0⟩) hc];show some (((zs[r]?.map λz=>z.cps.toList).getD []).getD c 0)=_;rw[ab hr];show some (zs[r].cps.toList.getD c 0)=_;rw[df,ab (by lia)];rfl
    .rw[ft (by rw[F6];exact Nat.le_of_not_lt hc),ft (by lia)]
   rw[e]
  .rw[ft (by lia),ft (by rw[tf];exact Nat.le_of_not_lt hr)]
 .have wQ:r<zs.length:=hr;have iP:c<wd:=hc;have gG:=hz _ (eu wQ);have hl:zs[r].cps.toList.length=wd:=by rw[E7];exact gG.2
  show sgB (((zs[r]?.map λz=>z.cps.toList).getD []).getD c 0)=true;rw[ab wQ];show sgB (zs[r].cps.toList.getD c 0)=true;rw[df,ab (by lia)];exact gG.1.2 _ (eu _)
open Classical in
noncomputable def ddp:List PyData->List PyData
 | []=>[]
 | x::xs=>if x∈ddp xs then ddp xs else x::ddp xs
theorem ddp_mem:∀{xs:List PyData} {d:PyData},d∈ddp xs↔d∈xs
 | [],d=>Iff.rfl
 | x::xs,d=>by
  have ih:=@ddp_mem xs;unfold ddp;split
  .rename_i h
   rw[bb,ih];exact⟨.inr,λz=>z.elim (λe=>by rw[e];exact ih.mp h) id⟩
  .rw[bb,bb,ih]
theorem FH:∀(xs:List PyData),(ddp xs).Nodup
 | []=>List.nodup_nil
 | x::xs=>by
  unfold ddp;split
  .exact FH xs
  .rename_i h
   exact jh.mpr ⟨h,FH xs⟩
theorem K6:∀(xs:List PyData),(ddp xs).length<=xs.length
 | []=>aq _
 | x::xs=>by
  have:=K6 xs;unfold ddp;split
  .rw[b7];lia
  .rw[b7,b7];lia
noncomputable def FS(es:List PyData)(n:Nat):List PyData:=ww (ddp (sj es n))
theorem azd{es ds:List PyData}{n:Nat}(h:Zr es)(nd:ds.Nodup)(hm:∀d,d∈ds↔d∈sj es n):ww ds=FS es n:=
 abt ((List.perm_ext_iff_of_nodup nd (FH _)).mpr λd=>(hm d).trans ddp_mem.symm) (aez h λd hd=>rk d ((hm d).mp hd))
theorem atw{es:List PyData}{n:Nat}:∀d∈FS es n,∃t,wp es t=d:=λd hd=>rk d (ddp_mem.mp ((rf _).mem_iff.mp hd))
theorem apv{es:List PyData}{n:Nat}:(FS es n).length<=n:=by
 have:=K6 (sj es n);unfold FS;rw[u8];have e:(sj es n).length=n:=by simp[sj]
 lia
def azy(d:PyData):Prop:=∃es,d=.tuple es/\Zr es
theorem FB{es:List PyData}{n:Nat}(h:Zr es):∀d∈FS es n,azy d:=λd hd=>by obtain⟨t,rfl⟩:=atw d hd;exact⟨_,rfl,vz h t⟩
def KindK(H:Hp)(v:V)(k:List PyData×Nat):Prop:=∃b nm u1 u2 m fr xs,v=.ref b/\H b=some (.tup [.str nm,u1,u2,.str m,.ref fr])/\H fr=some (.tup xs)/\RepAll H k.1 xs/\Zr k.1/\Bi m k.2
theorem KindK.same{H H':Hp}{v:V}{k:List PyData×Nat}(h:KindK H v k)(s:Same H H'):KindK H' v k:=by obtain⟨b,nm,u1,u2,m,fr,xs,rfl,h1,h2,h3,h4,h5⟩:=h;exact(my b nm u1 u2 m (nq fr xs ⟨rfl,s _ _ h1,s _ _ h2,h3.same s,h4,h5⟩))
def KindsK(H:Hp)(aU:List V)(ks:List (List PyData×Nat)):Prop:=aU.length=ks.length/\∀(i:Nat) v k,aU[i]?=some v->ks[i]?=some k->KindK H v k
theorem KindsK.same{H H':Hp}{aU:List V}{ks:List (List PyData×Nat)}(h:KindsK H aU ks)(s:Same H H'):KindsK H' aU ks:=⟨h.1,λi v k h1 h2=>(h.2 i v k h1 h2).same s⟩
def PzK(H:Hp)(p:aE)(M:Mat)(ks:List (List PyData×Nat)):Prop:=∃fl kr e aU,H p=some (.tup [.ref fl,.ref kr,.ref e])/\FlM H fl M/\H kr=some (.tup aU)/\KindsK H aU ks/\ks.length<=6
section
variable{P:aI}{w:aK}{K:aj}{mg:Str->Option aA}{base:Heap}{f:aE}{fd:aP}
def Kg:Sp:=λvs H Q _=>∃c:Nat,vs=[.str ⟨#[c]⟩]/\Q (.bl (decide (65<=c)&&decide (c<=90))) H
def ak6:Sp:=λvs H Q _=>∃c:Nat,vs=[.str ⟨#[c]⟩]/\Q (.bl (decide (97<=c)&&decide (c<=122))) H
theorem ay7:nu ["found"] ["found"] (nh JX):={}
theorem ars:nu ["found"] ["found"] (nh KL):={}
theorem le1(a b:Nat):(!decide ([b]<[a]))=decide (a<=b):=by
 have h:([b]<[a])↔b<a:=by simp[ge]
 rw[decide_eq_decide.mpr h];by_cases c:b<a
 .rw[decide_eq_true c,decide_eq_false (by lia)];rfl
 .rw[decide_eq_false c,decide_eq_true (by lia)];rfl
theorem akg{c lo hi:Nat}{a z:Str}{R:V->Prop}{A B:Prop}(ha:a.cps.toList=[lo])(hz:z.cps.toList=[hi])(q:R (.bl (decide (lo<=c)&&decide (c<=hi))))
  (hA:R (.bl (!decide (z.cps.toList<[c])))->A) (hB:R (.bl false)->B):if (!decide ((⟨#[c]⟩:Str).cps.toList<a.cps.toList))=true then A else B:=by
 have e:(⟨#[c]⟩:Str).cps.toList=[c]:=rfl;rw[e,ha,le1];rw[hz,le1]at hA;by_cases h:lo<=c
 .rw[decide_eq_true h]at *;rw[if_pos rfl];exact hA q
 .rw[decide_eq_false h]at *;rw[if_neg ai];exact hB q
theorem azl(c:Nat):(⟨#[c]⟩:Str).length<=aF:=by show 1<=aF;decide
theorem at4(B:∀x∈v7,mg x=none)(F:Fun K "is_sign" "is_sign" JX f fd):qt P w K mg base CX0 1 f fd ["found"] Kg:=by
 refine F.ok (k:=0) ay7 (λvs H Q E h=>?_) (λbN A outer s H vs Q E hr h=>?_)
 .obtain⟨c,rfl,_⟩:=h;rfl
 obtain⟨c,rfl,q⟩:=h;refine⟨_,(m8 (nv (DJ (rg wo rfl (B "isinstance" (by decide)) lZ (m9 (pv 0) (m9 (K3 (v:=.ty "str") rfl (B "str" (by decide)) boot_str rfl) mr))) (DJ (su sX (rg sw rfl (B "len" (by decide)) ip (m9 (pv 0) mr)) mx (pf _)) (DD (ahp ye ye qe (pv 0) qe)))))),?_⟩;refine(mz _ rfl _ _ _ true ⟨rfl,.str _,rfl,true,rfl,?_⟩);refine um ?_;refine(qc _ rfl _ ⟨rfl,azl c,rfl,true,rfl,?_⟩);refine um ?_;exact(o7 _ rfl _ _ rfl rfl _ ⟨rfl,akg (a:=ba "A") (z:=ba "Z") (R:=λv=>Q v H) (by decide +kernel) (by decide +kernel) q (λh=>(nq _ _ ⟨rfl,rfl,h⟩)) (λh=>h)⟩)
theorem am3(B:∀x∈v7,mg x=none)(F:Fun K "is_small" "is_small" KL f fd):qt P w K mg base CX0 1 f fd ["found"] ak6:=by
 refine F.ok (k:=0) ars (λvs H Q E h=>?_) (λbN A outer s H vs Q E hr h=>?_)
 .obtain⟨c,rfl,_⟩:=h;rfl
 obtain⟨c,rfl,q⟩:=h;refine⟨_,(m8 (nv (DJ (rg wo rfl (B "isinstance" (by decide)) lZ (m9 (pv 0) (m9 (K3 (v:=.ty "str") rfl (B "str" (by decide)) boot_str rfl) mr))) (DJ (su sX (rg sw rfl (B "len" (by decide)) ip (m9 (pv 0) mr)) mx (pf _)) (DD (ahp ye ye qe (pv 0) qe)))))),?_⟩;refine(mz _ rfl _ _ _ true ⟨rfl,.str _,rfl,true,rfl,?_⟩);refine um ?_;refine(qc _ rfl _ ⟨rfl,azl c,rfl,true,rfl,?_⟩);refine um ?_;exact(o7 _ rfl _ _ rfl rfl _ ⟨rfl,akg (a:=ba "a") (z:=ba "z") (R:=λv=>Q v H) (by decide +kernel) (by decide +kernel) q (λh=>(nq _ _ ⟨rfl,rfl,h⟩)) (λh=>h)⟩)
end
def GS(mg:Str->Option aA)(x z:Str):Prop:=∃t,mg x=some (.str z t)
theorem eH:ba "#" = ⟨#[35]⟩:=by decide +kernel
theorem vf(c d:Nat){z:Str}(hz:z=⟨#[d]⟩):decide (V.str ⟨#[c]⟩=V.str z)=(c==d):=by
 subst hz;rw[gc,decide_eq_true_eq,beq_iff_eq];constructor
 .intro h;injection h with h
  injection h with h
  injection h with h
  injection h with h
 .intro h;rw[h]
theorem zq{M:Mat}{r:Nat}(h:r<M.h):((uz M).map V.str)[r]?=some (V.str ⟨(rm M r).toArray⟩):=by rw[au,KR h];rfl
theorem qf(N:Mat)(r:Nat):(⟨(rm N r).toArray⟩:Str).length=N.w:=by show(rm N r).toArray.size=_;rw[a9,F6]
theorem FC{N:Mat}(o:OkM SgP N):N.w<=aF:=gj (oe (by have:=o.w8;lia))
noncomputable def gA(M:Mat)(r c:Nat):Nat:=if r<M.h/\c<M.w then M.g r c else 35
theorem Ke{M:Mat}(o:OkM SgP M)(r c:Nat):sgB (gA M r c)=true:=by
 unfold gA;split
 .rename_i h;exact o.sg r c h.1 h.2
 .decide
noncomputable def big(c:Nat):Bool:=decide (65<=c)&&decide (c<=90)
noncomputable def xf(c:Nat):Bool:=decide (97<=c)&&decide (c<=122)
noncomputable def okS(g k:Nat):Bool:=g==46||g==44||g==k||g==lo1 k
theorem avn{g k:Nat}(h:sgB g=true)(h1:65<=k)(h2:k<=90):(!(g==35)&&(!(big g||xf g)||up1 g==k))=okS g k:=by
 have:∀g<128,sgB g=true->∀k<91,65<=k->(!(g==35)&&(!(big g||xf g)||up1 g==k))=okS g k:=by decide +kernel
 exact this g (Bh h) h k (by lia) h1
seal L2.PE L2.PT L2.PW L2.PA L2.PS L2.PSs L2.PG L2.PGs L2.PI L2.PO
section
variable{P:aI}{w:aK}{K:aj}{mg:Str->Option aA}{base:Heap}{f:aE}{fd:aP}
def xO(R:Nat->V):Sp:=λvs H Q _=>∃(a b:aE)(M:Mat)(r c:Nat),vs=[.ref a,.ref b]/\FlM H a M/\H b=some (.tup [.int (r:Nat),.int (c:Nat)])/\Q (R (gA M r c)) H
theorem scAt:nu ["floor","cell","row","column"] ["floor","cell"] (nh sAt):={}
theorem ayx(B:∀x∈v7,mg x=none)(gC:GS mg "CLOSED" "#")(F:Fun K "sign_at" "sign_at" sAt f fd):qt P w K mg base CX0 1 f fd ["floor","cell"] (xO λk=>.str ⟨#[k]⟩):=by
 refine F.ok (k:=0) scAt (λvs H Q E h=>?_) (λbN A outer s H vs Q E hr h=>?_)
 .obtain⟨a,b,M,r,c,rfl,_⟩:=h;rfl
 obtain⟨a,b,M,r,c,rfl,hf,hb,q⟩:=h;dsimp only at q;obtain⟨ha,dO⟩:=hf;have out:¬(r<M.h/\c<M.w)->Q (.str (ba "#")) H:=λh=>by unfold gA at q;rw[if_neg h]at q;rw[eH];exact q
 refine⟨_,(mw (n8 (i:=2) scAt.nd rfl (Or.inl rfl) (ny om (pv 1) mx (λ_ _=>rfl)))
  (mw (n8 (i:=3) scAt.nd rfl (Or.inl rfl) (ny om (pv 1) mx (λ_ _=>rfl)))
  (mw (rs (PW.pt (zT (aht as3 J9 mx (pv 2) (rg qd rfl (B "len" (by decide)) ip (m9 (pv 0) mr))) (wn (aht as3 J9 mx (pv 3) (rg sw rfl (B "len" (by decide)) ip (m9 (ny om (pv 0) (pv 2) (λ_ _=>rfl)) mr)))))) (m8 (nv (ny xq (ny om (pv 0) (pv 2) (λ_ _=>rfl)) (pv 3) (λ_ _=>rfl)))) pw)
  (m8 (nv (qu gC rfl)))))),?_⟩
 refine(mz _ rfl b _ _ _ ⟨rfl,rfl,SqT.of hb,ng (j:=0) rfl,?_⟩);refine(mz _ rfl b _ _ _ ⟨rfl,rfl,SqT.of hb,ng (j:=1) rfl,?_⟩);refine(o7 _ rfl _ _ rfl rfl _ ⟨rfl,?_⟩);refine u6 (λc1=>?_) (λc1=>absurd (decide_eq_true (by show(0:Int)<=(r:Nat);lia)) c1);refine(o7 _ rfl a _ rfl (.inr (SqT.of ha)) _ (o4 _ rfl rfl _ ⟨rfl,?_⟩));refine u6 (λc2=>?_) (λc2=>?_)
 .have hrM:r<M.h:=by
   have:((r:Nat):Int)<(((uz M).map V.str).length:Nat):=of_decide_eq_true c2;rw[ah,tf]at this;lia
  have EF:atI ((uz M).map V.str) (r:Int)=some (.str ⟨(rm M r).toArray⟩):=ng (zq hrM);have zl:(⟨(rm M r).toArray⟩:Str).length<=aF:=by rw[qf];exact FC dO
  refine(o7 _ rfl _ _ rfl rfl _ ⟨rfl,?_⟩);refine u6 (λc3=>?_) (λc3=>absurd (decide_eq_true (by show(0:Int)<=(c:Nat);lia)) c3);refine(nj _ rfl _ rfl a _ _ ⟨_,rfl,rfl,SqT.of ha,EF,(o4 _ rfl zl _ (o4 _ rfl rfl _ ⟨rfl,?_⟩))⟩);refine u6 (λc4=>?_) (λc4=>?_)
  .have hcM:c<M.w:=by
    have:((c:Nat):Int)<((⟨(rm M r).toArray⟩:Str).length:Nat):=of_decide_eq_true c4;rw[qf]at this;lia
   unfold gA at q;rw[if_pos ⟨hrM,hcM⟩]at q;refine(nj _ rfl _ rfl a _ _ ⟨_,rfl,rfl,SqT.of ha,EF,(o6 _ rfl _ _ (M.g r c) ⟨rfl,rfl,zl,?_,q⟩)⟩);refine ng ?_;show(rm M r).toArray.toList[c]?=_;rw[List.toList_toArray];exact DU hcM
  .have c4':¬(((c:Nat):Int)<((⟨(rm M r).toArray⟩:Str).length:Nat)):=by simpa using c4
   rw[qf]at c4';exact out (by lia)
 .have c2':¬(((r:Nat):Int)<(((uz M).map V.str).length:Nat)):=by simpa using c2
  rw[ah,tf]at c2';refine jG ?_;exact out (by lia)
theorem ats:nu ["floor","cell"] ["floor","cell"] (nh Ki):={}
theorem scWant:nu ["floor","cell","sign"] ["floor","cell"] (nh Kt):={}
noncomputable abbrev JD(P:aI)(w:aK)(K:aj)(mg:Str->Option aA)(base:Heap):Prop:=Fn P w K mg base "sign_at" 1 ["floor","cell"] (xO λk=>.str ⟨#[k]⟩)
theorem arl(gC:GS mg "CLOSED" "#")(Eb:JD P w K mg base)(F:Fun K "is_open" "is_open" Ki f fd):qt P w K mg base CX0 2 f fd ["floor","cell"] (xO λk=>.bl (!(k==35))):=by
 refine F.ok (k:=1) ats (λvs H Q E h=>?_) (λbN A outer s H vs Q E hr h=>?_)
 .obtain⟨a,b,M,r,c,rfl,_⟩:=h;rfl
 obtain⟨a,b,M,r,c,rfl,hf,hb,q⟩:=h;dsimp only at q;refine⟨_,(m8 (nv (su Bg (oj Eb hr (by decide) rfl (m9 (pv 0) (m9 (pv 1) mr))) (qu gC rfl) (pf _)))),?_⟩;refine(nj _ rfl _ rfl a b M (nq r c ⟨rfl,hf,hb,rfl,?_⟩));rw[vf _ 35 eH];exact q
noncomputable def Km(k:Nat):V:=if (big k||xf k)=true then .str ⟨#[up1 k]⟩else .non
theorem ar2(Eb:JD P w K mg base)(Ae:Fn P w K mg base "is_sign" 1 ["found"] Kg)(zX:Fn P w K mg base "is_small" 1 ["found"] ak6)(F:Fun K "wanted" "wanted" Kt f fd) :
  qt P w K mg base CX0 2 f fd ["floor","cell"] (xO Km):=by
 refine F.ok (k:=1) scWant (λvs H Q E h=>?_) (λbN A outer s H vs Q E hr h=>?_)
 .obtain⟨a,b,M,r,c,rfl,_⟩:=h;rfl
 obtain⟨a,b,M,r,c,rfl,hf,hb,q⟩:=h;have pO:=Bh (Ke hf.2 r c);refine⟨_,(mw (n8 (i:=2) scWant.nd rfl (Or.inl rfl) (oj Eb hr (by decide) rfl (m9 (pv 0) (m9 (pv 1) mr))))
  (m8 (nv (Lv (PW.pt (Fe (wf (oj Ae hr (by decide) rfl (m9 (pv 2) mr))) (Fv (wf (oj zX hr (by decide) rfl (m9 (pv 2) mr)))))) (ao5 mm PySem.F.slot_str_upper PySem.F.type_str_upper anb (pv 2)) sx)))),?_⟩
 refine(nj _ rfl _ rfl a b M (nq r c ⟨rfl,hf,hb,?_⟩));generalize gA M r c=g at *;refine(ut _ rfl _ rfl _ ⟨rfl,?_⟩);have q':∀t:Bool,(big g||xf g)=t->Q (if t=true then .str ⟨#[up1 g]⟩else .non) H:=λt ht=>by rw[<-ht];exact q
 refine u6 (λh1=>?_) (λh1=>?_)
 .refine um ?_;refine(o4 _ rfl rfl _ ⟨rfl,rfl,pO,q' true ?_⟩);have fT:big g=true:=h1;rw[fT];rfl
 .have fT:big g=false:=f9.mpr h1;refine(ut _ rfl _ rfl _ ⟨rfl,?_⟩);refine u6 (λh2=>?_) (λh2=>?_)
  .refine(o4 _ rfl rfl _ ⟨rfl,rfl,pO,q' true ?_⟩);have gI:xf g=true:=h2;rw[gI,Bool.or_true]
  .refine q' false ?_;have gI:xf g=false:=f9.mpr h2;rw[fT,gI];rfl
end
def SgN(d:PyData):Prop:=∃r c k:Nat,d=.tuple [.int (r:Nat),.int (c:Nat),.str ⟨#[k]⟩]/\65<=k/\k<=90
theorem SgN.spots{ds:List PyData}(h:∀d∈ds,SgN d):Spots ds:=λd hd=>by obtain⟨r,c,k,e,_⟩:=h d hd;exact(oq r c _ e)
noncomputable def vS(M:Mat):PyData->Bool
 | .tuple [.int r,.int c,.str z]=>okS (gA M r.toNat c.toNat) (z.cps.toList.headD 0)
 | _=>false
theorem ao2(M:Mat)(r c k:Nat):vS M (.tuple [.int (r:Nat),.int (c:Nat),.str ⟨#[k]⟩])=okS (gA M r c) k:=by show okS (gA M (Int.toNat (r:Nat)) (Int.toNat (c:Nat))) k=_;rw[cg,cg]
noncomputable def sh1(dn rt:Int):PyData->PyData
 | .tuple [.int r,.int c,.str z]=>.tuple [.int (r+dn),.int (c+rt),.str z]
 | d=>d
theorem SgN.sh{dn rt:Nat}{d:PyData}(h:SgN d):SgN (sh1 (dn:Nat) (rt:Nat) d):=by obtain⟨r,c,k,rfl,hk⟩:=h;refine(oq (r+dn) (c+rt) k ⟨?_,hk⟩);show PyData.tuple [.int ((r:Nat)+(dn:Nat)),.int ((c:Nat)+(rt:Nat)),.str ⟨#[k]⟩]=_;rw[Int.natCast_add,Int.natCast_add]
theorem SgN.shs{dn rt:Nat}{ds:List PyData}(h:∀d∈ds,SgN d):∀d∈ds.map (sh1 (dn:Nat) (rt:Nat)),SgN d:=λd hd=>by obtain⟨e,he,rfl⟩:=bf.mp hd;exact(h e he).sh
theorem aw8{g:Nat}(h:g<128):up1 g<128:=by
 have:∀g<128,up1 g<128:=by decide +kernel
 exact this g h
theorem aop{g k:Nat}:([PyData.none,PyData.str ⟨#[k]⟩].any λe=>bw e (if (big g||xf g)=true then .str ⟨#[up1 g]⟩else .none))=(!(big g||xf g)||up1 g==k):=by
 by_cases h:(big g||xf g)=true
 .rw[if_pos h,h];show(false||(((⟨#[k]⟩:Str)==⟨#[up1 g]⟩)||false))=(false||up1 g==k);rw[Bool.false_or,Bool.or_false,Bool.false_or,gc,beq_iff_eq,beq_iff_eq];constructor
  .intro e;injection e with e
   injection e with e
   injection e with e
   exact e.symm
  .intro e;rw[e]
 .rw[if_neg h,f9.mpr h];rfl
section
variable{P:aI}{w:aK}{K:aj}{mg:Str->Option aA}{base:Heap}{f:aE}{fd:aP}
def auv:Sp:=λvs H Q _=>∃(a b:aE)(M:Mat)(r c k:Nat),vs=[.ref a,.ref b,.str ⟨#[k]⟩]/\FlM H a M/\H b=some (.tup [.int (r:Nat),.int (c:Nat)])/\65<=k/\k<=90/\∀H',Same H H'->Q (.bl (okS (gA M r c) k)) H'
theorem axt:nu ["floor","cell","sign"] ["floor","cell","sign"] (nh JU):={}
theorem at6(DY:Fn P w K mg base "is_open" 2 ["floor","cell"] (xO λk=>.bl (!(k==35))))(DW:Fn P w K mg base "wanted" 2 ["floor","cell"] (xO Km))(F:Fun K "may_cover" "may_cover" JU f fd):qt P w K mg base CX0 3 f fd ["floor","cell","sign"] auv:=by
 refine F.ok (k:=2) axt (λvs H Q E h=>?_) (λbN A outer s H vs Q E hr h=>?_)
 .obtain⟨a,b,M,r,c,k,rfl,_⟩:=h;rfl
 obtain⟨a,b,M,r,c,k,rfl,hf,hb,rV,CF,q⟩:=h;have hu:=hr.units;have hm:=avn (Ke hf.2 r c) rV CF;have pO:=Bh (Ke hf.2 r c);rw[<-hm]at q;refine⟨_,(m8 (nv (DJ (oj DY hr (by decide) rfl (m9 (pv 0) (m9 (pv 1) mr))) (DD (su (DC hu) (oj DW hr (by decide) rfl (m9 (pv 0) (m9 (pv 1) mr))) (oh (m9 sx (m9 (pv 2) mr))) rfl))))),?_⟩;refine(nj _ rfl _ rfl a b M (nq r c ⟨rfl,hf,hb,_,rfl,?_⟩));refine u6 (λh1=>?_) (λh1=>?_)
 .rw[h1,Bool.true_and]at q;refine(nj _ rfl _ rfl a b M (nq r c ⟨rfl,hf,hb,_,rfl,sZ2,λp hp=>?_⟩));have s1:Same H (upd H p (.tup [.non,.str ⟨#[k]⟩])):=Same.fresh _ hp;have c1:upd H p (.tup [.non,.str ⟨#[k]⟩]) p=some (.tup [.non,.str ⟨#[k]⟩]):=np;generalize upd H p (.tup [.non,.str ⟨#[k]⟩])=H1 at *;generalize gA M r c=g at *;refine(nw (if (big g||xf g)=true then .str ⟨#[up1 g]⟩else .none) p _ ([.none,.str ⟨#[k]⟩]) ⟨?_,rfl,.inr c1,?_,?_,?_⟩)
  .unfold Km;split
   .exact⟨rfl,ok1 (aw8 pO)⟩
   .rfl
  .exact(xk _ _ rfl rfl _ _ ⟨rfl,⟨rfl,ok1 (by lia)⟩,rfl⟩)
  .split<;>simp[g0]
  .rw[if_neg ai,aop];exact q H1 s1
 .rw[f9.mpr h1,Bool.false_and]at q;exact q H (Same.refl _)
end
noncomputable def sR(M:Mat):PyData->Bool
 | .tuple es=>es.all (vS M)
 | _=>false
noncomputable def shT(M:Mat)(es:List PyData)(i:Nat):PyData:=.tuple (es.map (sh1 ((i/M.w:Nat):Int) ((i % M.w:Nat):Int)))
noncomputable def plS(M:Mat)(es:List PyData)(k:Nat):List PyData:=((cb k).map (shT M es)).filter (sR M)
theorem ahw(M:Mat)(es:List PyData)(k:Nat):plS M es (k+1)=plS M es k++if sR M (shT M es k)=true then[shT M es k]else[]:=by
 unfold plS;rw[jx,bn,jn]
 congr 1
 cases h:sR M (shT M es k)<;>simp[h]
theorem aq0(M:Mat)(es:List PyData)(k:Nat):(plS M es k).length<=k:=by have:=ke (sR M) ((cb k).map (shT M es));rw[ah,f8]at this;exact this
theorem plS_mem{M:Mat}{es:List PyData}{k:Nat}{d:PyData}:d∈plS M es k↔∃i,i<k/\d=shT M es i/\sR M d=true:=by
 unfold plS;rw[io,bf];constructor
 .rintro⟨⟨i,hi,rfl⟩,h⟩;exact⟨i,fh.mp hi,rfl,h⟩
 .rintro⟨i,hi,rfl,h⟩;exact⟨⟨i,fh.mpr hi,rfl⟩,h⟩
theorem alr{M:Mat}{es:List PyData}(h:∀d∈es,SgN d){ds:List PyData}(hd:∀d∈ds,∃i,d=shT M es i):pq ds=true:=qg λd hx=>by obtain⟨i,rfl⟩:=hd d hx;exact Spots.imm (SgN.spots (SgN.shs h))
theorem arm{M:Mat}{es:List PyData}{i:Nat}{d:PyData}(h:es[i]?=some d):((es.take (i+1)).map (vS M)).map V.bl=((es.take i).map (vS M)).map V.bl++[V.bl (vS M d)]:=by rw[ou (vS M) h,bn];rfl
section
variable{P:aI}{w:aK}{K:aj}{mg:Str->Option aA}{base:Heap}{f:aE}{fd:aP}
def asx:Sp:=λvs H Q _=>∃(a b:aE)(M:Mat)(xs:List V)(es:List PyData),vs=[.ref a,.ref b]/\FlM H a M/\H b=some (.tup xs)/\RepAll H es xs/\(∀d∈es,SgN d)/\es.length<=6/\∀H',Same H H'->Q (.bl (sR M (.tuple es))) H'
theorem axn:nu ["floor","spots"] ["floor","spots"] (nh Jt):={}
theorem aq1(B:∀x∈v7,mg x=none)(LP:Fn P w K mg base "may_cover" 3 ["floor","cell","sign"] auv)(F:Fun K "may_lie" "may_lie" Jt f fd):qt P w K mg base CX0 4 f fd ["floor","spots"] asx:=by
 refine F.ok (k:=3) axn (λvs H Q E h=>?_) (λbN A outer s H vs Q E hr h=>?_)
 .obtain⟨a,b,M,xs,es,rfl,_⟩:=h;rfl
 obtain⟨a,b,M,xs,es,rfl,hf,hb,rep,hs,h6,q⟩:=h;have hl:=rep.length;refine⟨_,(m8 (nv (rg (am2 rfl) rfl (B "all" (by decide)) boot_all (m9 (o9 ["row","column","sign","floor"] [none,none,none,some 0] rfl rfl (by decide +kernel) (by decide +kernel) rfl rfl (Bl (pv 1)) (λ_=>(tj (n:=3) rfl (ni (nc (i:=0) (show(["row","column","sign","floor"]:List PySem.Str).Nodup by decide +kernel) rfl (Or.inl rfl)) (ni (nc (i:=1) (show(["row","column","sign","floor"]:List PySem.Str).Nodup by decide +kernel) rfl (Or.inl rfl)) (ni (nc (i:=2) (show(["row","column","sign","floor"]:List PySem.Str).Nodup by decide +kernel) rfl (Or.inl rfl)) p5))))) (λ_=>qh) (λ_=>(oj LP hr (by decide) rfl (m9 (pv 3) (m9 (oh (m9 (pv 0) (m9 (pv 1) mr))) (m9 (pv 2) mr)))))) mr)))),?_⟩;refine(qc _ rfl b ⟨rfl,⟨_,SqT.of hb⟩,λD hD=>?_⟩);refine F0 (xs:=xs) (λi zs G=>Same H G/\zs=((es.take i).map (vS M)).map V.bl) ⟨Same.fresh _ hD,rfl⟩ (λi zs G p=>SqT.of (p.1 _ _ hb)) (λi x zs G hx hi bA bY p=>?_) (λzs G bA bY p=>?_)
 .obtain⟨p1,rfl⟩:=p;obtain⟨d,hd,rd⟩:=rep.at hx;obtain⟨r,c,k,rfl,rV,CF⟩:=hs d (ak hd);obtain⟨b',rfl,eY,_⟩:=sf rd;refine(n0 b' _ rfl (SqT.of (p1 _ _ eY)) rfl _ _ rfl _ (o8 _ rfl _ _ ⟨rfl,rfl,?_⟩));refine⟨Agree.set (Agree.set (Agree.set (Agree.refl _) rfl) rfl) rfl,?_⟩;dsimp only[jH];refine um ?_;refine(ut _ rfl _ rfl _ ⟨rfl,sZ2,λp hp=>?_⟩);have s2:Same G (upd G p (.tup [.int (r:Nat),.int (c:Nat)])):=Same.fresh _ hp;have c2:upd G p (.tup [.int (r:Nat),.int (c:Nat)]) p=some (.tup [.int (r:Nat),.int (c:Nat)]):=np;generalize upd G p (.tup [.int (r:Nat),.int (c:Nat)])=G2 at *;refine(mz _ rfl a p M r (nq c k ⟨rfl,hf.same (p1.trans s2),c2,rV,CF,λG3 s3=>?_⟩));refine qm (by lia) (s3 _ _ (s2 _ _ bA)) bY ⟨((p1.trans s2).trans s3).new hD,?_⟩;rw[arm hd,ao2]
 .obtain⟨p1,rfl⟩:=p;rw[av (by lia)]at bA;refine(nq D _ ⟨rfl,bA,?_⟩);rw[List.all_map];exact q G p1
def as9:Sp:=λvs H Q _=>∃(b:aE)(dn rt:Int)(xs:List V)(es:List PyData),vs=[.ref b,.int dn,.int rt]/\H b=some (.tup xs)/\RepAll H es xs/\Spots es/\es.length<=64/\∀r ys H',Same H H'->H r=none->H' r=some (.tup ys)->RepAll H' (es.map (sh1 dn rt)) ys->Q (.ref r) H'
theorem ax0:nu ["spots","down","right"] ["spots","down","right"] (nh Jp):={}
theorem asw(B:∀x∈v7,mg x=none)(F:Fun K "shifted" "shifted" Jp f fd):qt P w K mg base CX0 1 f fd ["spots","down","right"] as9:=by
 refine F.ok (k:=0) ax0 (λvs H Q E h=>?_) (λbN A outer s H vs Q E hr h=>?_)
 .obtain⟨b,dn,rt,xs,es,rfl,_⟩:=h;rfl
 obtain⟨b,dn,rt,xs,es,rfl,hb,rep,hs,sF,q⟩:=h;refine⟨_,(m8 (nv (yp p6 rfl (B "tuple" (by decide)) cZ (m9 (o9 ["row","column","sign","down","right"] [none,none,none,some 1,some 2] rfl rfl (by decide +kernel) (by decide +kernel) rfl rfl (avp (pv 0)) (λ_=>(tj (n:=3) rfl (ni (nc (i:=0) (show(["row","column","sign","down","right"]:List PySem.Str).Nodup by decide +kernel) rfl (Or.inl rfl)) (ni (nc (i:=1) (show(["row","column","sign","down","right"]:List PySem.Str).Nodup by decide +kernel) rfl (Or.inl rfl)) (ni (nc (i:=2) (show(["row","column","sign","down","right"]:List PySem.Str).Nodup by decide +kernel) rfl (Or.inl rfl)) p5))))) (λ_=>qh) (λ_=>(oh (m9 (ph qv (pv 0) (pv 3)) (m9 (ph qv (pv 1) (pv 4)) (m9 (pv 2) mr)))))) mr)))),?_⟩;refine ajj (sh1 dn rt) rfl rfl (.inr hb) rep hs sF (λr c z H' Q' h=>?_) (λr c z=>(nq _ _ rfl)) λD ys H2 hD sm bA jL=>?_
 .obtain⟨u,v,e,q⟩:=h;cases (show PyData.tuple [.int (r+dn),.int (c+rt),.str z]=.tuple [.int u,.int v,.str z]from e);exact(rh _ rfl _ rfl _ _ rfl rfl _ ⟨rfl,(o7 _ rfl _ _ rfl rfl _ ⟨rfl,sZ3,q⟩)⟩)
 .refine(nq D ys ⟨rfl,.inl ⟨SqL.of bA,λl hl=>?_⟩⟩);have s2:Same H2 (upd H2 l (.tup ys)):=Same.fresh _ hl;exact q l ys _ (sm.trans s2) (sm.free hl) np (jL.same s2)
end
section
variable{P:aI}{w:aK}{K:aj}{mg:Str->Option aA}{base:Heap}{f:aE}{fd:aP}
def awa:Sp:=λvs H Q _=>∃(a b:aE)(M:Mat)(xs:List V)(es:List PyData),vs=[.ref a,.ref b]/\FlM H a M/\H b=some (.tup xs)/\RepAll H es xs/\(∀d∈es,SgN d)/\es.length<=6/\
 ∀(D:aE)(ys:List V)(H':Hp),Same H H'->H' D=some (.lst ys)->RepAll H' (plS M es (M.h*M.w)) ys->Q (.ref D) H'
theorem scPla:nu ["floor","form","shifts"] ["floor","form"] (nh JK):={}
theorem atf(B:∀x∈v7,mg x=none)(nI:Fn P w K mg base "floor_spots" 1 ["floor"] KW)(LL:Fn P w K mg base "shifted" 1 ["spots","down","right"] as9)(LR:Fn P w K mg base "may_lie" 4 ["floor","spots"] asx)(F:Fun K "places" "places" JK f fd):qt P w K mg base CX0 5 f fd ["floor","form"] awa:=by
 refine F.ok (k:=4) scPla (λvs H Q E h=>?_) (λbN A outer s H vs Q E hr h=>?_)
 .obtain⟨a,b,M,xs,es,rfl,_⟩:=h;rfl
 obtain⟨a,b,M,xs,es,rfl,hf,hb,rep,hs,h6,q⟩:=h;have dO:=hf.2;have hw1:=dO.w1;have yZ:M.h*M.w<=64:=ky dO.h8 dO.w8;refine⟨_,(mw (aku (i:=2) ["row","column","sign","form"] [none,none,none,some 1] scPla.nd rfl (Or.inl rfl) rfl rfl rfl (by decide +kernel) (by decide +kernel) rfl rfl (oz (oj nI hr (by decide) rfl (m9 (pv 0) mr))) (λ_=>(tj (n:=3) rfl (ni (nc (i:=0) (show(["row","column","sign","form"]:List PySem.Str).Nodup by decide +kernel) rfl (Or.inl rfl)) (ni (nc (i:=1) (show(["row","column","sign","form"]:List PySem.Str).Nodup by decide +kernel) rfl (Or.inl rfl)) (ni (nc (i:=2) (show(["row","column","sign","form"]:List PySem.Str).Nodup by decide +kernel) rfl (Or.inl rfl)) p5))))) (λ_=>qh) (λ_=>(oj LL hr (by decide) rfl (m9 (pv 3) (m9 (pv 0) (m9 (pv 1) mr))))))
  (m8 (nv (o9 ["spots","floor"] [none,some 0] rfl rfl (by decide +kernel) (by decide +kernel) rfl rfl (oz (pv 2)) (λ_=>(nc (i:=0) (show(["spots","floor"]:List PySem.Str).Nodup by decide +kernel) rfl (Or.inl rfl))) (λ_=>u9 (wf (oj LR hr (by decide) rfl (m9 (pv 1) (m9 (pv 0) mr))))) (λ_=>(pv 0)))))),?_⟩
 refine(o8 _ rfl a (uz M) ⟨rfl,FlM.fl hf,λD1 Gg H1 s1 qE pH mI=>?_⟩);rw[tf,yh M M.h (aq _)]at mI;have BX:=mI.length;rw[ah,f8]at BX;refine⟨D1,rfl,⟨_,SqL.of qE⟩,λD hD=>?_⟩;refine o5 (xs:=Gg) (λi zs G=>Same H1 G/\RepAll G ((cb i).map (shT M es)) zs) ⟨Same.fresh _ hD,rfl⟩ (λi zs G p=>SqL.of (p.1 _ _ qE)) (λi x zs G hx hi bA bY p=>?_) (λzs G bA bY p=>?_)
 .obtain⟨p1,p2⟩:=p;obtain⟨d,hd,rd⟩:=mI.at hx;rw[au,jw (by lia)]at hd;cases hd;obtain⟨b',rfl,eY,_⟩:=sf rd;refine(n0 b' _ rfl (SqT.of (p1 _ _ eY)) rfl _ _ rfl _ (o8 _ rfl _ _ ⟨rfl,rfl,?_⟩));refine⟨Agree.set (Agree.set (Agree.set (Agree.refl _) rfl) rfl) rfl,?_⟩;dsimp only[jH];refine um ?_;have sG:=s1.trans p1;refine(p8 _ rfl _ rfl _ rfl b ((i/M.w:Nat):Int) (oq ((i % M.w:Nat):Int) xs es ⟨rfl,sG _ _ hb,rep.same sG,SgN.spots hs,by lia,λr ys G2 s2 _ hr2 jL=>?_⟩));have gO:=s2 _ _ bA;refine qm (by lia) gO bY ⟨(p1.trans s2).new hD,?_⟩;rw[jx,bn];refine((p2.same s2).snoc (show Rep G2 (shT M es i) (.ref r)from ⟨r,ys,rfl,hr2,jL⟩)).tk (Tk.lst gO) (alr (M:=M) hs λd hd=>?_);rcases ay.mp hd with h|h
  .obtain⟨j,_,rfl⟩:=bf.mp h;exact⟨j,rfl⟩
  .exact⟨i,ao.mp h⟩
 .obtain⟨p1,p2⟩:=p;have lz:=p2.length;rw[ah,f8]at lz;have sG:=s1.trans p1;refine(qc _ rfl D ⟨rfl,⟨_,SqL.of bA⟩,λD3 wZ=>?_⟩);refine o5 (xs:=zs) (λi us G3=>Same G G3/\RepAll G3 (plS M es i) us) ⟨Same.fresh _ wZ,rfl⟩ (λi us G3 p=>SqL.of (p.1 _ _ bA)) (λi x us G3 hx hi zJ Ap p=>?_) (λus G3 zJ Ap p=>?_)
  .obtain⟨p3,p4⟩:=p;obtain⟨d,hd,rd⟩:=p2.at hx;rw[au,jw (by lia)]at hd;cases hd;have GJ:=id rd;obtain⟨c',Gh,rfl,iP,GI⟩:=rd;refine⟨Agree.set (Agree.refl _) rfl,?_⟩;refine(nj _ rfl _ rfl a c' M (nq Gh _ ⟨rfl,hf.same (sG.trans p3),p3 _ _ iP,GI.same p3,SgN.shs hs,by rw[ah];exact h6,λG4 s4=>?_⟩));refine⟨_,rfl,?_⟩;have AI:=s4 _ _ zJ;have im:pq (plS M es (i+1))=true:=alr (M:=M) hs λd hd=>by
    obtain⟨j,_,e,_⟩:=plS_mem.mp hd;exact⟨j,e⟩
   refine u6 (λh1=>?_) (λh1=>?_)
   .refine⟨_,rfl,?_⟩;refine qm (by lia) AI Ap ⟨(p3.trans s4).new wZ,?_⟩;have e1:plS M es (i+1)=plS M es i++[shT M es i]:=by rw[ahw,if_pos (show sR M (shT M es i)=true from h1)]
    rw[e1]at im;rw[e1];exact((p4.same s4).snoc (Rep.same (p3.trans s4) GJ)).tk (Tk.lst AI) im
   .refine⟨_,AI,by lia,p3.trans s4,?_⟩;rw[ahw,if_neg (show ¬sR M (shT M es i)=true from h1),dg];exact p4.same s4
  .obtain⟨p3,p4⟩:=p;rw[lz,BX]at p4;exact q D3 us G3 (sG.trans p3) zJ p4
end
theorem Dp{es:List PyData}(h:Zr es):∀d∈es,SgN d:=λd hd=>by obtain⟨r,c,k,rfl,hk⟩:=h.pre.sg d hd;have h1:zx (es.map yg)<=r:=yw _ (jy (f:=yg) hd);have h2:zx (es.map zh)<=c:=yw _ (jy (f:=zh) hd);rw[h.r0]at h1;rw[h.c0]at h2;refine(oq r.toNat c.toNat k ⟨?_,hk⟩);rw[Int.toNat_of_nonneg h1,Int.toNat_of_nonneg h2]
noncomputable def unT:PyData->List PyData
 | .tuple es=>es
 | _=>[]
noncomputable def plN(M:Mat)(n:Nat)(d:PyData):List PyData:=(plS M (unT d) (M.h*M.w)).map λs=>.tuple [s,.int (n:Nat)]
noncomputable def plK(M:Mat)(n:Nat)(k:List PyData×Nat):List PyData:=(FS k.1 k.2).flatMap (plN M n)
noncomputable def raw(M:Mat)(ks:List (List PyData×Nat)):Nat->List PyData
 | 0=>[]
 | i+1=>raw M ks i++(match ks[i]? with|some k=>plK M i k|none=>[])
theorem anm{M:Mat}{ks:List (List PyData×Nat)}{i:Nat}{k:List PyData×Nat}(h:ks[i]?=some k):raw M ks (i+1)=raw M ks i++plK M i k:=by show raw M ks i++_=_;rw[h]
def PlD(d:PyData):Prop:=∃es n,d=.tuple [.tuple es,.int n]/\(∀e∈es,SgN e)/\0<es.length/\es.length<=6
theorem mem_plN{M:Mat}{n:Nat}{es:List PyData}{d:PyData}:d∈plN M n (.tuple es)↔∃i,i<M.h*M.w/\d=.tuple [shT M es i,.int (n:Nat)]/\sR M (shT M es i)=true:=by
 unfold plN;rw[bf];constructor
 .rintro⟨s,hs,rfl⟩;obtain⟨i,hi,rfl,h⟩:=plS_mem.mp hs;exact⟨i,hi,rfl,h⟩
 .rintro⟨i,hi,rfl,h⟩;exact⟨_,plS_mem.mpr ⟨i,hi,rfl,h⟩,rfl⟩
theorem mem_raw{M:Mat}{ks:List (List PyData×Nat)}{d:PyData}:∀{j:Nat},d∈raw M ks j↔∃(n:Nat)(k:List PyData×Nat),n<j/\ks[n]?=some k/\d∈plK M n k
 | 0=>⟨λh=>(by cases h),λ⟨n,_,h,_⟩=>absurd h (Nat.not_lt_zero _)⟩
 | j+1=>by
  show d∈raw M ks j++_↔_;rw[ay,mem_raw];constructor
  .rintro(⟨n,k,h1,h2,h3⟩|h)
   .exact(nq n k ⟨by lia,h2,h3⟩)
   .cases e:ks[j]? with
    | none=>rw[e]at h;cases h
    | some k=>rw[e]at h;exact(nq j k ⟨by lia,e,h⟩)
  .rintro⟨n,k,h1,h2,h3⟩;by_cases hn:n<j
   .exact .inl (nq n k ⟨hn,h2,h3⟩)
   .have:n=j:=by lia
    subst this;rw[h2];exact .inr h3
theorem alw{M:Mat}{n:Nat}{k:List PyData×Nat}(hz:Zr k.1){d:PyData}:d∈plK M n k↔∃es i,.tuple es∈FS k.1 k.2/\i<M.h*M.w/\d=.tuple [shT M es i,.int (n:Nat)]/\sR M (shT M es i)=true:=by
 unfold plK;rw[List.mem_flatMap];constructor
 .rintro⟨x,hx,h⟩;obtain⟨es,rfl,_⟩:=FB hz x hx;obtain⟨i,h1,h2,h3⟩:=mem_plN.mp h;exact(nq es i ⟨hx,h1,h2,h3⟩)
 .rintro⟨es,i,h1,h2,h3,h4⟩;exact⟨_,h1,mem_plN.mpr ⟨i,h2,h3,h4⟩⟩
def KsZ(ks:List (List PyData×Nat)):Prop:=∀k∈ks,Zr k.1/\k.2<=8
theorem ao3(es:List PyData)(a b:Int):(es.map (sh1 a b)).length=es.length:=ah _
theorem KI{M:Mat}{n:Nat}{k:List PyData×Nat}(hz:Zr k.1){d:PyData}(h:d∈plK M n k):PlD d:=by obtain⟨es,i,h1,h2,rfl,h4⟩:=(alw hz).mp h;obtain⟨vO,e,gG⟩:=FB hz _ h1;cases e;exact(nq _ _ ⟨rfl,SgN.shs (Dp gG),by rw[ao3];exact gG.pre.pos,by rw[ao3];exact gG.pre.six⟩)
theorem Fw{M:Mat}{ks:List (List PyData×Nat)}(h:KsZ ks){j:Nat}:∀d∈raw M ks j,PlD d:=λd hd=>by obtain⟨n,k,_,h2,h3⟩:=mem_raw.mp hd;exact KI (h k (ak h2)).1 h3
theorem Ln{α β:Type}{f:α->List β}{m:Nat}:∀{l:List α},(∀x∈l,(f x).length<=m)->(l.flatMap f).length<=l.length*m
 | [],_=>by simp
 | x::l,h=>by have h1:=h x aw;have h2:=Ln λy hy=>h y (a8 _ hy);rw[List.flatMap_cons,bu,b7,Nat.add_mul,Nat.one_mul];lia
theorem K1{M:Mat}(o:OkM SgP M)(n:Nat)(d:PyData):(plN M n d).length<=64:=by have:=aq0 M (unT d) (M.h*M.w);have sF:M.h*M.w<=64:=ky o.h8 o.w8;unfold plN;rw[ah];lia
theorem aqt{M:Mat}(o:OkM SgP M)(n:Nat){k:List PyData×Nat}(h8:k.2<=8):(plK M n k).length<=512:=by have h1:=Ln (f:=plN M n) (m:=64) (l:=FS k.1 k.2) λx _=>K1 o n x;have h2:=apv (es:=k.1) (n:=k.2);have:(plK M n k).length<=(FS k.1 k.2).length*64:=h1;lia
theorem FT{M:Mat}(o:OkM SgP M){ks:List (List PyData×Nat)}(h:KsZ ks):∀j,(raw M ks j).length<=j*512
 | 0=>by simp[raw]
 | j+1=>by
  have h1:=FT o h j;show(raw M ks j++_).length<=_;rw[bu];cases e:ks[j]? with
  | none=>simp only[gz];lia
  | some k=>have:=aqt o j (h k (ak e)).2;simp only;lia
theorem SgN.sg{d:PyData}(h:SgN d):SgD d:=by obtain⟨r,c,k,e,hk⟩:=h;exact(oq r c k ⟨e,hk⟩)
theorem PlD.key{d:PyData}(h:PlD d):Dq d/\L3.TT d:=by obtain⟨es,n,rfl,hs,_⟩:=h;have hd:=acj (SgN.spots hs);refine⟨⟨?_,⟨_,rfl⟩,by simp[g0,bv];lia⟩,(nq _ _ rfl)⟩;show(tz es&&(true&&true))=true;rw[KD λd hd=>(hs d hd).sg];rfl
theorem PlD.cmp{ds:List PyData}(h:∀d∈ds,PlD d):CmpA ds:=
 ⟨λx hx y hy=>by obtain⟨es,n,rfl,hs,_⟩:=h x hx;obtain⟨fs,m,rfl,dQ,_⟩:=h y hy;exact⟨K0 (λd hd=>(hs d hd).sg) (λd hd=>(dQ d hd).sg),trivial,trivial⟩,λx hx=>(h x hx).key.1.1⟩
theorem PlD.imm:∀{ds:List PyData},(∀d∈ds,PlD d)->pq ds=true
 | [],_=>rfl
 | d::ds,a=>by obtain⟨es,n,rfl,hs,_⟩:=a d aw;have h1:=Spots.imm (SgN.spots hs);have h2:=PlD.imm λx hx=>a x (a8 _ hx);show(_root_.L3.imm (.tuple [.tuple es,.int n])&&pq ds)=true;rw[h2,Bool.and_true];show(pq es&&true)=true;rw[h1];rfl
noncomputable def PL(M:Mat)(ks:List (List PyData×Nat)):List PyData:=ww (ddp (raw M ks ks.length))
theorem PL_mem{M:Mat}{ks:List (List PyData×Nat)}{d:PyData}:d∈PL M ks↔d∈raw M ks ks.length:=(rf _).mem_iff.trans ddp_mem
theorem Fq{M:Mat}(o:OkM SgP M){ks:List (List PyData×Nat)}(h:KsZ ks):(PL M ks).length<=ks.length*512:=by unfold PL;rw[u8];exact dv (K6 _) (FT o h _)
def JQ(M:Mat)(nk:Nat)(d:PyData):Prop:=∃es i n,Zr es/\d=.tuple [shT M es i,.int (n:Nat)]/\sR M (shT M es i)=true/\n<nk
theorem aov{M:Mat}{ks:List (List PyData×Nat)}(h:KsZ ks):∀d∈PL M ks,JQ M ks.length d:=λd hd=>by obtain⟨n,k,h1,h2,h3⟩:=mem_raw.mp (PL_mem.mp hd);have hz:=(h k (ak h2)).1;obtain⟨es,i,h4,_,rfl,h6⟩:=(alw hz).mp h3;obtain⟨vO,e,gG⟩:=FB hz _ h4;cases e;exact(oq es i n ⟨gG,rfl,h6,h1⟩)
theorem KindsK.z{H:Hp}{aU:List V}{ks:List (List PyData×Nat)}(h:KindsK H aU ks):KsZ ks:=λk hk=>by
 obtain⟨i,hi,rfl⟩:=List.getElem_of_mem hk;have eC:i<aU.length:=by rw[h.1];exact hi
 obtain⟨b,nm,u1,u2,m,fr,xs,_,_,_,_,hz,hm⟩:=h.2 i _ _ (ab eC) (ab hi);exact⟨hz,by rcases hm with h|h|h<;>lia⟩
theorem aef{α β:Type}{f:α->List β}{l:List α}{i:Nat}{x:α}(h:l[i]?=some x):(l.take (i+1)).flatMap f=(l.take i).flatMap f++f x:=by rw[dw,h,List.flatMap_append];simp
theorem ark{s:List PyData}{n:Nat}{i:Nat}{x:PyData}(h:s[i]?=some x):(s.take (i+1)).map (λs=>PyData.tuple [s,.int (n:Nat)])=(s.take i).map (λs=>PyData.tuple [s,.int (n:Nat)])++[.tuple [x,.int (n:Nat)]]:=ou _ h
section
variable{P:aI}{w:aK}{K:aj}{mg:Str->Option aA}{base:Heap}{f:aE}{fd:aP}
def Kh:Sp:=λvs H Q _=>∃(p:aE)(M:Mat) (ks:List (List PyData×Nat)),vs=[.ref p]/\PzK H p M ks/\∀(l:aE)(ys:List V)(H':Hp),Same H H'->H l=none->H' l=some (.lst ys)->RepAll H' (PL M ks) ys->Q (.ref l) H'
theorem scPlc:nu ["puzzle","found","number","kind","form"] ["puzzle"] (nh Jv):={}
theorem awb(B:∀x∈v7,mg x=none)(Ab:Fn P w K mg base "forms_of" 3 ["form","mode"] ama)(LM:Fn P w K mg base "places" 5 ["floor","form"] awa)(F:Fun K "placements" "placements" Jv f fd):qt P w K mg base CX0 6 f fd ["puzzle"] Kh:=by
 refine F.ok (k:=5) scPlc (λvs H Q E h=>?_) (λbN A outer s H vs Q E hr h=>?_)
 .obtain⟨p,M,ks,rfl,_⟩:=h;rfl
 obtain⟨p,M,ks,rfl,⟨fl,kr,e,aU,hp,AD,mU,tP,h6⟩,q⟩:=h;have hu:=hr.units;have dO:=AD.2;have tT:=tP.z;refine⟨_,(mw (n8 (i:=1) scPlc.nd rfl (Or.inl rfl) (qa mr))
  (mw (qj cj rfl (apx rfl (B "enumerate" (by decide)) (m9 (ny om (pv 0) mx (λ_ _=>rfl)) mr)) (sr (n:=2) rfl (ni (nc (i:=2) scPlc.nd rfl (Or.inr rfl)) (ni (nc (i:=3) scPlc.nd rfl (Or.inl rfl)) p5))) (m8 (qj cj rfl (oz (oj Ab hr (by decide) rfl (m9 (ny om (pv 3) mx (λ_ _=>rfl)) (m9 (ny om (pv 3) mx (λ_ _=>rfl)) mr)))) (nc (i:=4) scPlc.nd rfl (Or.inl rfl)) (m8 (rq (wq fc PySem.F.slot_list_extend PySem.F.type_list_extend akb (pv 1) (m9 (o9 ["spots","number"] [none,some 2] rfl rfl (by decide +kernel) (by decide +kernel) rfl rfl (oz (oj LM hr (by decide) rfl (m9 (ny om (pv 0) mx (λ_ _=>rfl)) (m9 (pv 4) mr)))) (λ_=>(nc (i:=0) (show(["spots","number"]:List PySem.Str).Nodup by decide +kernel) rfl (Or.inl rfl))) (λ_=>qh) (λ_=>(oh (m9 (pv 0) (m9 (pv 1) mr))))) mr)))))))
  (m8 (nv (ab2 rfl hu rfl (B "sorted" (by decide)) rfl (B "set" (by decide)) (m9 (pv 1) mr)))))),?_⟩
 refine⟨sZ0,λD hD=>?_⟩;have s1:Same H (upd H D (.lst [])):=Same.fresh _ hD;have d1:upd H D (.lst []) D=some (.lst ([]:List V)):=np;generalize upd H D (.lst [])=H1 at *;refine(mz _ rfl p _ _ _ ⟨rfl,rfl,SqT.of (s1 _ _ hp),ng (j:=1) rfl,kr,rfl,⟨_,SqT.of (s1 _ _ mU)⟩,?_⟩);refine al9 (xs:=aU) (λi σ' G=>∃(y2 y3 y4:Option V)(ys:List V),σ'=[some (.ref p),some (.ref D),y2,y3,y4]/\Same H G/\G D=some (.lst ys)/\RepAll G (raw M ks i) ys) ?_ (λi σ' G h=>?_) (λi x pr σ' G hx At h=>?_) (λσ' G h=>?_)
 .exact(nw _ _ _ ([]) ⟨rfl,s1,d1,rfl⟩)
 .obtain⟨_,_,_,_,_,sg,_⟩:=h;exact SqT.of (sg _ _ mU)
 .obtain⟨y2,y3,y4,ys,rfl,sg,hG,rep⟩:=h;have hi:i<aU.length:=(ae.mp hx).1;have vH:i<ks.length:=by rw[<-tP.1];exact hi
  have CD:=ab vH;have hk:=(tP.2 i x _ hx CD).same sg;rw[anm CD];generalize ks[i]=kk at *;obtain⟨es,n⟩:=kk;obtain⟨b,nm,u1,u2,m,fr,xs,rfl,hb,nY,lB,hz,hm⟩:=hk;have lB:RepAll G es xs:=lB;have hz:Zr es:=hz;have hm:Bi m n:=hm;have hn:n<=8:=by rcases hm with h|h|h<;>lia
  refine(n0 pr _ rfl (SqT.of np) rfl _ _ rfl _ ⟨_,rfl,rfl,?_⟩);have s2:Same G (upd G pr (.tup [.int (i:Nat),.ref b])):=Same.fresh _ At;generalize upd G pr (.tup [.int (i:Nat),.ref b])=G2 at *;refine(mz _ rfl b _ _ _ ⟨rfl,rfl,SqT.of (s2 _ _ hb),ng (j:=4) rfl,(mz _ rfl b _ _ _ ⟨rfl,rfl,SqT.of (s2 _ _ hb),ng (j:=3) rfl,?_⟩)⟩);refine(my fr m n xs es ⟨rfl,s2 _ _ nY,lB.same s2,hz,hm,λl fs ds G3 s3 yW hl nd mem jK=>?_⟩);rw[azd hz nd mem]at jK;have hF:=FB (n:=n) hz;have hFl:=apv (es:=es) (n:=n);have lf:=jK.length;have kA:=(sg.trans s2).trans s3;refine⟨l,rfl,⟨_,SqL.of hl⟩,?_⟩;have GG:∀j,(raw M ks i++((FS es n).take j).flatMap (plN M i)).length<=4000:=λj=>by
   have h1:=FT dO tT i;have h2:=Ln (f:=plN M i) (m:=64) (l:=(FS es n).take j) λx _=>K1 dO i x;have h3:((FS es n).take j).length<=8:=by rw[b8];lia
   rw[bu];lia
  have rpl:∀j,∀d∈raw M ks i++((FS es n).take j).flatMap (plN M i),PlD d:=λj d hd=>by
   rcases ay.mp hd with h|h
   .exact Fw tT d h
   .obtain⟨x,hx,h⟩:=List.mem_flatMap.mp h;exact KI (k:=(es,n)) (M:=M) (n:=i) hz (List.mem_flatMap.mpr ⟨x,gt hx,h⟩)
  refine rj (xs:=fs) (λj σ' G4=>∃(y4:Option V)(zs:List V),σ'=[some (.ref p),some (.ref D),some (.int (i:Nat)),some (.ref b),y4]/\Ex [D] G3 G4/\Same H G4/\G4 D=some (.lst zs)/\RepAll G4 (raw M ks i++((FS es n).take j).flatMap (plN M i)) zs) ?_ (λj σ' G4 hj h=>?_) (λj x σ' G4 hx h=>?_) (λσ' G4 h=>?_)
  .refine(nq _ ys ⟨rfl,Ex.refl _ _,kA,s3 _ _ (s2 _ _ hG),?_⟩);rw[List.take_zero,List.flatMap_nil,dg];exact rep.same (s2.trans s3)
  .obtain⟨_,_,_,ex,_⟩:=h;exact SqL.of (ex.at (λz=>by rw[z,s2 _ _ hG]at yW;cases yW) hl)
  .obtain⟨y4,zs,rfl,ex,dE,EL,qR⟩:=h;have hj:j<fs.length:=(ae.mp hx).1;obtain⟨d,hd,rd⟩:=jK.at hx;obtain⟨zM,rfl,tH⟩:=hF d (ak hd);obtain⟨fb,xs2,rfl,Il,jL⟩:=rd;have nfb:fb≠D:=λz=>by rw[z,s3 _ _ (s2 _ _ hG)]at Il;cases Il
   have tk4:Tk G3 G4:=ex.one (s3 _ _ (s2 _ _ hG));refine⟨_,rfl,.inl ⟨rfl,_,SqL.of EL⟩,?_⟩;refine(mz _ rfl p _ _ _ ⟨rfl,rfl,SqT.of (dE _ _ hp),ng (j:=0) rfl,(mz _ rfl fl fb M xs2 ⟨zM,rfl,AD.same dE,ex.at nfb Il,jL.tk tk4 (Spots.imm tH.pre.spots),Dp tH,tH.pre.six,λD5 ys5 G5 s5 C8 qQ=>?_⟩)⟩);have l5:=qQ.length;have hp64:=K1 dO i (.tuple zM);have lpn:(plN M i (.tuple zM)).length=(plS M zM (M.h*M.w)).length:=ah _;refine⟨D5,rfl,⟨_,SqL.of C8⟩,λD6 hD6=>?_⟩;refine o5 (xs:=ys5) (λt us G6=>Same G5 G6/\RepAll G6 (((plS M zM (M.h*M.w)).take t).map λs=>PyData.tuple [s,.int (i:Nat)]) us) ⟨Same.fresh _ hD6,rfl⟩ (λt us G6 p=>SqL.of (p.1 _ _ C8)) (λt x us G6 hx6 hi6 zI Cc p=>?_) (λus G6 zI Cc p=>?_)
   .obtain⟨p1,p2⟩:=p;obtain⟨d6,hd6,rd6⟩:=qQ.at hx6;refine⟨Agree.set (Agree.refl _) rfl,?_⟩;dsimp only[jH];refine um ?_;refine(qc _ rfl _ ⟨rfl,sZ2,λt7 Hh=>?_⟩);have s7:Same G6 (upd G6 t7 (.tup [x,.int (i:Nat)])):=Same.fresh _ Hh;have c7:upd G6 t7 (.tup [x,.int (i:Nat)]) t7=some (.tup [x,.int (i:Nat)]):=np;generalize upd G6 t7 (.tup [x,.int (i:Nat)])=G7 at *;have hD7:=s7 _ _ zI;refine qm (by lia) hD7 Cc ⟨(p1.trans s7).new hD6,?_⟩;rw[ark hd6];have rx:Rep G7 (.tuple [d6,.int (i:Nat)]) (.ref t7):=(pj t7 _ rfl c7 _ _ rfl (Rep.same (p1.trans s7) rd6) _ ⟨_,rfl,rfl,rfl⟩);refine((p2.same s7).snoc rx).tk (Tk.lst hD7) (PlD.imm λdx hdx=>?_);have HR:dx∈plN M i (.tuple zM):=by
     rcases ay.mp hdx with h|h
     .obtain⟨y,hy,rfl⟩:=bf.mp h;exact jy (gt hy)
     .rw[ao.mp h];exact jy (ak hd6)
    exact KI (k:=(es,n)) (M:=M) (n:=i) hz (List.mem_flatMap.mpr ⟨_,ak hd,HR⟩)
   .obtain⟨p1,p2⟩:=p;rw[av (by lia)]at p2;have p2:RepAll G6 (plN M i (.tuple zM)) us:=p2;have sB:=s5.trans p1;have hG6:=sB _ _ EL;have lz:=qR.length;have lu:=p2.length;have:=GG j;refine(nw D D6 zs us ⟨rfl,rfl,hG6,zI,gj (by rw[iw];lia),?_⟩);refine(nq _ (zs++us) ⟨rfl,(ex.trans (Ex.of_same (W:=[D]) sB)).trans (Ex.upd (by simp)),(dE.trans sB).new hD,np,?_⟩);rw[aef hd,<-bz];have ap:=(qR.same sB).append p2;refine ap.tk (Tk.lst hG6) (PlD.imm ?_);have:=rpl (j+1);rw[aef hd,<-bz]at this;exact this
  .obtain⟨y4,zs,rfl,ex,dE,EL,qR⟩:=h;rw[av (by lia)]at qR;exact(nw _ _ _ zs ⟨rfl,dE,EL,qR⟩)
 .obtain⟨y2,y3,y4,ys,rfl,sg,hG,rep⟩:=h;have gZ:=FT dO tT ks.length;have hl:=tP.1;rw[hl]at rep;refine(o6 _ rfl D ys (raw M ks ks.length) ⟨rfl,hG,rep,λd hd=>(Fw tT d hd).key,PlD.cmp (Fw tT),by lia,λds l zs nd mem kG rz=>?_⟩);have e:ww ds=PL M ks:=abt ((List.perm_ext_iff_of_nodup nd (FH _)).mpr λd=>(mem d).trans ddp_mem.symm) ((PlD.cmp (Fw (M:=M) tT (j:=ks.length))).sub λd hd=>(mem d).mp hd);rw[e]at rz;exact q l zs _ (sg.trans (Same.fresh _ kG)) (sg.free kG) np rz
end
end K22
namespace L3
open PySem
mutual
noncomputable def drw:PyData->Nat
 | .tuple ds=>vg ds+1
 | .int _=>1
 | .str _=>1
 | .none=>1
 | .bool _=>1
 | .list _=>1
 | .dict _=>1
noncomputable def vg:List PyData->Nat
 | []=>0
 | d::ds=>drw d+vg ds
end
theorem uu(d:PyData):∀l:List PyData,vg (l++[d])=vg l+drw d
 | []=>by show drw d+0=0+drw d;lia
 | e::l=>by show drw e+vg (l++[d])=drw e+vg l+drw d;rw[uu d l];lia
theorem vv(w:aK)(d:PyData):∀l:List PyData,qq w (l++[d])=qq w l++[wk w d]
 | []=>rfl
 | y::l=>by show wk w y::qq w (l++[d])=_;rw[vv w d l];rfl
def E8(d:PyData):Prop:=∀(prog:aI)(w:aK)(A:Around)(E:aA->aB->Prop)(s:aB)(v:aA)(as:List aE)(Q:Int->aB->Prop),Reads s.heap v d as->A.units+d.depth<aX->Q (wk w d) {s with toks:=s.toks+drw d}->aG (aH prog w) A (pyHash v) Q E s
theorem afu{ds:List PyData}(H:∀d∈ds,E8 d):E8 (.tuple ds):=λprog w A E s v as Q r hu h=>by
 cases r with
 | @tuple a o vs n _ _ ho hc hd hi=>
 have hT:s.TypeIs (.ref a) "tuple":=⟨o,ho,hc⟩;have Ce:A.units+(bv ds+1)<aX:=hu;unfold pyHash;first|unfold GK|skip
 first|refine aa (Bz (.inr (show A.units<aX by lia)) ?_)|skip
 refine aa (lg (name:="__hash__") hT jf.lookup ?_);show aG _ _ (if (some (aA.builtin "tuple.__hash__")==some aA.none)=true then _ else _) _ _ _;rw[if_neg (show ¬_ by rw[EZ];exact ai)];refine aa (lg (name:="__hash__") hT jf.lookup ?_);show aG _ _ (lM (.ref a) "__hash__" _ >>= _) _ _ _;refine aa (gF (name:="__hash__") hT jf (ck (name:="__hash__") jf hT F.entry_tuple_hash ?_ (F.args_tuple_hash_1 _)));show aG _ _ (Builtin.Tuple.tupleItemsOf (.ref a) >>= _) _ _ _;refine aa (Ag (n:=n) ho hd ?_);refine aa ?_;rw[<-Array.forIn_toList];refine l7 _
  (λaZ (b:Array Int) s'=>∃done left bs,ds=done++left/\ReadsAll s.heap aZ left bs/\b.toList=qq w done/\s'={s with toks:=s.toks+vg done})
  _ (λx aZ b s' hI=>?_) (λb s' hI=>?_) _ _ ⟨[],ds,as,rfl,hi,rfl,rfl⟩
 .obtain⟨done,left,bs,e,hl,hb,rfl⟩:=hI;cases hl with
  | @cons _ _ d cR _ _ h1 vF=>
   have eP:d∈ds:=by rw[e];simp
   have mX:=FV d eP;refine aa (H d eP prog w _ E {s with toks:=s.toks+vg done} x _ _ h1 (by show A.units+1+d.depth<aX;lia) ?_);have ht:s.toks+vg done+drw d=s.toks+vg (done++[d]):=by rw[uu];lia
   first
    | exact af ⟨done++[d],cR,_,by simp[e],vF,by simp[hb,vv],by simp[uu,j5]⟩
    | exact aa (af (af ⟨done++[d],cR,_,by simp[e],vF,by simp[hb,vv],by simp[uu,j5]⟩))
 .obtain⟨done,left,bs,e,hl,hb,rfl⟩:=hI;cases hl;rw[dg]at e;subst e;show aG _ _ (retInt (gh b.toList)) _ _ _;rw[hb];refine Gi ?_;show aG _ _ (if (decide (-(2:Int)^63<=gh (qq w ds))&&decide (gh (qq w ds)<2^63))=true then _ else _) _ _ _;have h':Q (jA (gh (qq w ds))) {s with toks:=s.toks+(vg ds+1)}:=h;unfold jA at h';split
  .rename_i hr
   rw[if_pos hr]at h';exact af (by simpa [j5]using h')
  .rename_i hr
   rw[if_neg hr]at h';exact aa (k8 (af (by simpa [j5]using h')))
mutual
theorem aav:∀(d:PyData),kd d=true->E8 d
 | .int i,_=>λprog w A E s v as Q r hu h=>by
  cases r with
  | int=>exact kN h
 | .str x,_=>λprog w A E s v as Q r hu h=>by
  cases r with
  | str=>exact kL h
 | .tuple ds,hk=>afu (wc ds hk)
 | .none,hk=>absurd hk ai
 | .bool _,hk=>absurd hk ai
 | .list _,hk=>absurd hk ai
 | .dict _,hk=>absurd hk ai
theorem wc:∀(ds:List PyData),tz ds=true->∀d∈ds,E8 d
 | [],_,d,hd=>by cases hd
 | e::ds,hk,d,hd=>by
  have dU:(kd e&&tz ds)=true:=hk;rw[dz]at dU;rcases bb.mp hd with h|hd
  .rw[h];exact aav e dU.1
  .exact wc ds dU.2 d hd
end
structure az5(h:Heap)(d:PyData)(a:aE):Prop where
 key:kd d=true
 lay:d.canLay0=true
 deep:d.depth<8
 reads:∃as,Reads h (.ref a) d as
mutual
theorem abw{h h':Heap}{d:aE}{o:Obj}{es:Array bP}{ep:Nat}(ho:h.get? d=some o)(hd:o.data=.dict es ep)(hs:b9 d h h'):∀{v:aA} {x:PyData} {as:List aE},kd x=true->Reads h v x as->Reads h' v x as
 | _,_,_,_,.none=>.none
 | _,_,_,_,.bool b=>.bool b
 | _,_,_,_,.int i t=>.int i t
 | _,_,_,_,.str x t=>.str x t
 | _,_,_,hk,.list _ _ _ _=>absurd hk ai
 | _,_,_,hk,.tuple (a:=a) h1 h2 h3 h4=>by
  have eO:a≠d:=by intro e;subst e;rw[ho]at h1;cases h1;rw[hd]at h3;exact nomatch h3
  exact .tuple ((hs.2 a eO).trans h1) h2 h3 (xh ho hd hs hk h4)
 | _,_,_,hk,.dict _ _ _ _ _=>absurd hk ai
theorem xh{h h':Heap}{d:aE}{o:Obj}{es:Array bP}{ep:Nat}(ho:h.get? d=some o)(hd:o.data=.dict es ep)(hs:b9 d h h'):∀{vs:List aA} {xs:List PyData} {as:List aE},tz xs=true->ReadsAll h vs xs as->ReadsAll h' vs xs as
 | _,_,_,_,.nil=>.nil
 | _::_,y::ys,_,hk,.cons h1 h2=>by have dU:(kd y&&tz ys)=true:=hk;rw[dz]at dU;exact .cons (abw ho hd hs dU.1 h1) (xh ho hd hs dU.2 h2)
end
noncomputable instance decD:DecidableEq PyData:=λa b=>Classical.propDecidable (a=b)
noncomputable def r8(prog:aI)(w:aK):HeapKind prog w PyData where
 is:=az5
 hash:=wk w
 draws:=drw
 room:=λA=>A.units+8<aX
 inj:=λ{h a x y} hx hy=>by obtain⟨as,r⟩:=hx.reads;obtain⟨bs,r'⟩:=hy.reads;exact SeqAt.Reads.unique _ _ _ _ _ hx.lay r r'
 keeps:=λ{h h' k a d o es ep} hx ho hd hs=>by obtain⟨as,r⟩:=hx.reads;exact⟨hx.key,hx.lay,hx.deep,as,abw ho hd hs hx.key r⟩
 pyHash:=λ{A E s k a Q} hu hx h=>by obtain⟨as,r⟩:=hx.reads;exact aav k hx.key prog w A E s _ as Q r (by have:=hx.deep;lia) h
 eqBool:=λ{A E s x y a b Q} hu hx hy h=>by
  obtain⟨as,r⟩:=hx.reads;obtain⟨bs,r'⟩:=hy.reads;refine SeqAt.eqBoolOverData prog w A E s _ _ x y as bs Q r r' hx.lay hy.lay (by have:=hx.deep;have:=Nat.min_le_left x.depth y.depth;lia) ?_;have e:bw x y=decide (x=y):=by
   by_cases z:x=y
   .rw[decide_eq_true z,<-z];exact SeqAt.eqv_refl _ hx.lay
   .rw[decide_eq_false z];cases q:bw x y with
    | false=>rfl
    | true=>exact absurd (Fs x y hx.key hy.key q) z
  rw[e];exact h
 quiet:=λ{A E s k a Q} hx h=>by obtain⟨as,r⟩:=hx.reads;exact wv 8 hx.key r hx.deep h
end L3
namespace L3
open PySem PySem.Spec PyProof.Rows L2
def DE(h:Heap)(d:aE)(es:Array bP)(ep:Nat):Prop:=∃o,h.get? d=some o/\o.ExactDict/\o.data=.dict es ep
theorem DE.ty{s:aB}{d:aE}{es:Array bP}{ep:Nat}(x:DE s.heap d es ep):s.TypeIs (.ref d) "dict":=by obtain⟨o,h1,h2,_⟩:=x;exact⟨o,h1,h2.1⟩
theorem DE.on{h h':Heap}{d:aE}{es:Array bP}{ep:Nat}(x:DE h d es ep)(k:∀o,h.get? d=some o->h'.get? d=some o):DE h' d es ep:=by obtain⟨o,h1,h2⟩:=x;exact⟨o,k o h1,h2⟩
section
variable{prog:aI}{w:aK}{A:Around}{E:aA->aB->Prop}{s:aB}{d it:aE}{es:Array bP}{ep i:Nat}
theorem ayl{Q:aA->aB->Prop}(lo:(d==dI)=false)(hm:DE s.heap d es ep)(q:Q (.ref s.heap.objs.size) {s with heap:=s.heap.push {cls:=.type "dict_keyiterator",data:=.fields #[.ref d,.int 0 0,.int es.size 0,.int ep 0]}}):aG (aH prog w) A (kQ (.ref d)) Q E s:=by
 have T:=hm.ty;obtain⟨o,ho,_,gD⟩:=id hm;refine jP T F.slot_dict_iter (ck F.slot_dict_iter T F.entry_dict_iter (aa (aa (uE T ?_))) (F.args_dict_iter_1 _));refine(af ?_:aG _ _ (aS (aA.ref d)) _ _ s);have sh:kg d=aS ():=by unfold kg;rw[if_neg (by rw[lo];simp)]
 refine(?_:aG _ _ (kg d >>= _) _ _ s);rw[sh];refine aa (af (aa (bV ho gD (aa (cU ho gD (aa (cm (af (o8 _ rfl "dict_keyiterator" _ ⟨⟨_,az _ rfl,rfl⟩,jt.lookup,?_⟩)))))))));simpa [bU]using q
theorem amm:Builtin.Dict_items.ownsTuple "dict_keyiterator" = false:=by decide
theorem ay6{Q:Option aA->aB->Prop}(fL:s.heap.IsKeyIter it d i es.size ep)(hm:DE s.heap d es ep){e:bP}(hx:es[i]?=some e)
  (q:∀h',h'.IsKeyIter it d (i+1) es.size ep->b9 it s.heap h'->Q (some e.key) {s with heap:=h'}):aG (aH prog w) A (bB (.ref it)) Q E s:=by
 have T:=fL.typeIs;obtain⟨o,ho,hc,hd⟩:=id fL;obtain⟨od,lS,_,sC⟩:=id hm;unfold bB;refine aa (jr (ci (name:="__next__") T jt (ck jt T F.entry_dict_keyiterator_next (aa (af (aa (aa (?_))))) (F.args_dict_keyiterator_next_1 _))));refine aa (ma T (af (aa (mj ho hd ?_))));rw[if_neg (by rw[amm];simp)];refine(?_:aG _ _ (if (aA.ref d==aA.none)=true then _ else _) _ _ s);rw[if_neg (by intro z;cases z)];refine aa (af (aa (bV lS sC ?_)));rw[if_neg (by simp)];refine aa (af (aa (cU lS sC ?_)));rw[if_neg (by simp)];refine af ?_;have nn:¬((i:Int)<0):=by lia
 simp only[nn,if_false,cg,hx];refine aa (aa (ma T (af (aa (uH T ?_)))));refine(aa (h9 ho hd (by simp) ?_):aG _ _ (jS (.ref it) 1 (bU ((i:Int)+1)) >>= _) _ _ s);have pI:(s.heap.update it (Obj.mapFields (·.setIfInBounds 1 (bU ((i:Int)+1))))).IsKeyIter it d (i+1) es.size ep:=
  ⟨_,cn _ ho (Obj.isFreed_of_fields (jl hd _)),by rw[Obj.cls_mapFields];exact hc,by rw[jl hd];simp[bU]⟩
 refine aa (gk (aa (uH (s:={s with heap:=_}) pI.typeIs ?_)));refine(?_:aG _ _ (aS e.key) _ _ _);refine af (af ⟨_,rfl,?_⟩);exact af (q _ pI (c8 ..))
theorem az4{Q:Option aA->aB->Prop}(hh:A.handled=none)(fL:s.heap.IsKeyIter it d es.size es.size ep)(hm:DE s.heap d es ep)
  (q:∀h',kz it s.heap h'->Q none {s with heap:=h'}):aG (aH prog w) A (bB (.ref it)) Q E s:=by
 have T:=fL.typeIs;obtain⟨o,ho,hc,hd⟩:=id fL;obtain⟨od,lS,_,sC⟩:=id hm;unfold bB;refine aa (jr (ci (name:="__next__") T jt (ck jt T F.entry_dict_keyiterator_next (aa (af (aa (aa (?_))))) (F.args_dict_keyiterator_next_1 _))));refine aa (ma T (af (aa (mj ho hd ?_))));rw[if_neg (by rw[amm];simp)];refine(?_:aG _ _ (if (aA.ref d==aA.none)=true then _ else _) _ _ s);rw[if_neg (by intro z;cases z)];refine aa (af (aa (bV lS sC ?_)));rw[if_neg (by simp)];refine aa (af (aa (cU lS sC ?_)));rw[if_neg (by simp)];refine af ?_;have nn:¬((es.size:Int)<0):=by lia
 have no:es[es.size]?=none:=Array.getElem?_eq_none (aq _);simp only[nn,if_false,cg,no];refine aa (aa (ma T (af ?_)));refine(aa (h9 ho hd (by simp) ?_):aG _ _ (jS (.ref it) 0 .none >>= _) _ _ s);refine(aa ?_:aG _ _ (gT (.type "StopIteration") [] >>= _) _ _ _);unfold gT gS;refine aa (cm (aa (dM (a:=aA.none) rfl (cm ?_ (by size_fits)))) (by size_fits));unfold jT;refine aa (fD ?_);rw[show A.in1.handled=none from hh];refine aa (af (gR (aa ?_)));refine lv (T:="StopIteration") (b:=true) (⟨_,az _ rfl,rfl⟩) eK ?_;exact af (q _ (((c8 ..).extBut.push _).push _))
end
noncomputable abbrev KA:=PyData×aE×V
noncomputable abbrev KAR:List KA->List (PyData×aE×aA)->Prop:=eL λp q=>p.1=q.1/\p.2.1=q.2.1/\RelV p.2.2 q.2.2
noncomputable def DNo(w:aK)(a:aE)(xs:List KA)(ep:Nat):HO:=.ext λh=>∃ys,KAR xs ys/\∃o es,h.get? a=some o/\o.ExactDict/\o.data=.dict es ep/\
 es.toList=ys.map (λy:PyData×aE×aA=>(⟨wk w y.1,.ref y.2.1,y.2.2⟩:bP))/\(ys.map (·.1)).Nodup
structure KRep(H:Hp)(d:PyData)(b:aE):Prop where
 key:kd d=true
 deep:d.depth<8
 rep:Rep H d (.ref b)
structure DN(w:aK)(H:Hp)(a:aE)(xs:List KA)(ep:Nat):Prop where
 obj:H a=some (DNo w a xs ep)
 keys:∀x∈xs,KRep H x.1 x.2.1
 len:xs.length<=aF
 sys:(a==dI)=false
mutual
theorem apf:∀{d:PyData},kd d=true->imm d=true
 | .int _,_=>rfl
 | .str _,_=>rfl
 | .tuple ds,h=>ae8 (ds:=ds) h
 | .none,_=>rfl
 | .bool _,_=>rfl
 | .list _,h=>absurd h ai
 | .dict _,h=>absurd h ai
theorem ae8:∀{ds:List PyData},tz ds=true->pq ds=true
 | [],_=>rfl
 | d::ds,h=>by have h':(kd d&&tz ds)=true:=h;rw[dz]at h';show(imm d&&pq ds)=true;rw[apf h'.1,ae8 h'.2];rfl
end
theorem KRep.tk{H H':Hp}{d:PyData}{b:aE}(x:KRep H d b)(t:Tk H H'):KRep H' d b:=⟨x.key,x.deep,x.rep.tk t (apf x.key)⟩
section
variable{X:Cx}{aC:List (aE×Obj)}{σ:L2.St}{H:Hp}{s:aB}{a b:aE}{xs:List KA}{d:PyData}{v:V}{u r:aA}{ep:Nat}{A:Around}{E:aA->aB->Prop}
theorem KRep.at(x:KRep H d b)(I:Inv X aC σ H s):(r8 X.prog X.w).is s.heap d b:=by obtain⟨as,q⟩:=Rep.reads I (u:=.ref b) x.rep rfl;exact⟨x.key,x.rep.lay,x.deep,as,q⟩
noncomputable def sk(xs:List KA)(d:PyData):Option V:=(xs.find? λx=>decide (x.1=d)).map (·.2.2)
noncomputable def zo(xs:List KA)(d:PyData)(b:aE)(v:V):List KA:=
 if (sk xs d).isSome then xs.map λx=>if x.1=d then(x.1,x.2.1,v)else x else xs++[(d,b,v)]
theorem KAR.val{xs:List KA}{ys:List (PyData×aE×aA)}(r:KAR xs ys)(d:PyData):RelO (sk xs d) ((oI ys d).map (·.2)):=by
 induction r with
 | nil=>exact True.intro
 | @cons p q ps qs h t ih=>
  obtain⟨h1,_,h2⟩:=h;by_cases e:p.1=d
  .have e':q.1=d:=h1.symm.trans e;have c:oI (q::qs) d=some q.2:=by simp[oI,iq,e']
   have c':sk (p::ps) d=some p.2.2:=by simp[sk,iq,e]
   rw[c',c];exact h2
  .have e':¬q.1=d:=λz=>e (h1.trans z);have c:oI (q::qs) d=oI qs d:=by simp[oI,iq,e']
   have c':sk (p::ps) d=sk ps d:=by simp[sk,iq,e]
   rw[c',c];exact ih
theorem KAR.repl{xs:List KA}{ys:List (PyData×aE×aA)}(r:KAR xs ys)(d:PyData){y:V}{u:aA}(ry:RelV y u) :
  KAR (xs.map λx=>if x.1=d then(x.1,x.2.1,y)else x) (ys.map (putAt d u)):=by
 induction r with
 | nil=>exact .nil
 | @cons p q ps qs h t ih=>
  rw[cy,cy];refine .cons ?_ ih;obtain⟨h1,h2,h3⟩:=h;unfold putAt;by_cases e:p.1=d
  .rw[if_pos e,if_pos (h1.symm.trans e)];exact⟨h1,h2,ry⟩
  .rw[if_neg e,if_neg (λz=>e (h1.trans z))];exact⟨h1,h2,h3⟩
theorem KAR.put{xs:List KA}{ys:List (PyData×aE×aA)}(r:KAR xs ys)(d:PyData){b:aE}{y:V}{u:aA}(ry:RelV y u) :
  KAR (zo xs d b y) (storedH ys d b u):=by
 have e:(sk xs d).isSome=(oI ys d).isSome:=by rw[(r.val d).isSome_eq,Option.isSome_map]
 unfold zo storedH;rw[e];by_cases q:(oI ys d).isSome=true
 .rw[if_pos q,if_pos q];exact r.repl d ry
 .rw[if_neg q,if_neg q];exact eL.snoc r ⟨rfl,rfl,ry⟩
theorem KAR.get{xs:List KA}{ys:List (PyData×aE×aA)}(r:KAR xs ys):∀{i:Nat} {x:KA},xs[i]?=some x->∃y,ys[i]?=some y/\x.1=y.1/\x.2.1=y.2.1/\RelV x.2.2 y.2.2:=by
 induction r with
 | nil=>intro i x h;cases h
 | @cons p q ps qs h t ih=>
  intro i x hx;cases i with
  | zero=>cases hx;exact⟨q,rfl,h⟩
  | succ i=>exact ih (i:=i) hx
theorem DN.at(D:DN X.w H a xs ep)(I:Inv X aC σ H s):∃ys,KAR xs ys/\s.heap.DictOfH (r8 X.prog X.w) a ys:=by
 obtain⟨⟨ys,r,o,es,h1,h2,h3,h4,h5⟩,_⟩:=(show ObjOk X.prog X.w H s.heap a (DNo X.w a xs ep)from I.hok a _ D.obj);refine⟨ys,r,o,es,ep,h1,h2,h3,h4,?_,h5⟩;have all:∀{l:List KA} {m:List (PyData×aE×aA)},KAR l m->(∀x∈l,KRep H x.1 x.2.1)->∀y∈m,(r8 X.prog X.w).is s.heap y.1 y.2.1:=by
  intro l m q;induction q with
  | nil=>intro _ y hy;exact nomatch hy
  | @cons p q ps qs hq t ih=>
   intro hk y hy;rcases bb.mp hy with e|hy
   .subst e;have:=(hk p aw).at I;rw[hq.1,hq.2.1]at this;exact this
   .exact ih (λx hx=>hk x (a8 _ hx)) y hy
 exact all r D.keys
theorem DN.de(D:DN X.w H a xs ep)(I:Inv X aC σ H s):∃es,DE s.heap a es ep/\es.size=xs.length/\∀(i:Nat)(x:KA),xs[i]?=some x->∃e:bP,es[i]?=some e/\e.key=.ref x.2.1/\RelV x.2.2 e.val:=by
 obtain⟨⟨ys,r,o,es,h1,h2,h3,h4,h5⟩,_⟩:=(show ObjOk X.prog X.w H s.heap a (DNo X.w a xs ep)from I.hok a _ D.obj);have hl:=eL.length r;refine⟨es,⟨o,h1,h2,h3⟩,by rw[<-ax,h4,ah,hl],λi x hx=>?_⟩;obtain⟨y,hy,q1,q2,q3⟩:=r.get hx;refine⟨⟨wk X.w y.1,.ref y.2.1,y.2.2⟩,?_,?_,q3⟩
 .rw[<-bm,h4,au,hy];rfl
 .show aA.ref _=_;rw[q2]
theorem DN.ext{w:aK}{P:aI}{H':Hp}{h':Heap}{ys:List (PyData×aE×aA)}(r:KAR xs ys)(dd:h'.DictOfH (r8 P w) a ys):∃ep,ObjOk P w H' h' a (DNo w a xs ep):=by obtain⟨o,es,ep,h1,h2,h3,h4,_,h5⟩:=dd;refine⟨ep,⟨ys,r,o,es,h1,h2,h3,h4,h5⟩,⟨o,h1⟩,λg1 g2 q k=>?_⟩;obtain⟨zs,r',o',vO,k1,k2⟩:=q;exact⟨zs,r',o',vO,k o' k1,k2⟩
theorem DN.tk{w:aK}{H':Hp}(D:DN w H a xs ep)(t:Tk H H')(e:H' a=some (DNo w a xs ep)):DN w H' a xs ep:=⟨e,λx hx=>(D.keys x hx).tk t,D.len,D.sys⟩
theorem DN.same{w:aK}{H':Hp}(D:DN w H a xs ep)(t:Same H H'):DN w H' a xs ep:=D.tk (Tk.of_same t) (t _ _ D.obj)
theorem ake{Q:aA->aB->Prop}(hu:A.units+9<aX)(I:Inv X aC σ H s)(D:DN X.w H a xs ep)(k:KRep H d b)(l:sk xs d=some v)(h:∀w' s',Inv X aC σ H s'->RelV v w'->Q w' s') :
  aG (aH X.prog X.w) A (eZ (.ref a) (.ref b)) Q E s:=by
 obtain⟨ys,rel,dd⟩:=D.at I;obtain⟨w',hw,qO⟩:=RelO.some_of (v:=v) (o:=(oI ys d).map (·.2)) (by rw[<-l];exact rel.val d);obtain⟨p,hp,rN⟩:=br.mp hw;refine wpAny_getItem_heap (knd:=r8 X.prog X.w) (show A.units+1+8<aX by lia) (k.at I) dd hp ?_;rw[rN];exact h w' _ (I.tok _) qO
theorem a0n{Q:aA->aB->Prop}(hu:A.units+9<aX)(I:Inv X aC σ H s)(D:DN X.w H a xs ep)(k:KRep H d b)(h:∀s',Inv X aC σ H s'->Q (.bool (sk xs d).isSome) s') :
  aG (aH X.prog X.w) A (aV .In (.ref b) (.ref a)) Q E s:=by
 obtain⟨ys,rel,dd⟩:=D.at I;refine wpAny_in_heap (knd:=r8 X.prog X.w) (show A.units+1+8<aX by lia) (k.at I) D.sys dd ?_;have q:=(rel.val d).isSome_eq;rw[Option.isSome_map]at q;rw[<-q];exact h _ (I.tok _)
theorem atk{Q:aA->aB->Prop}(hu:A.units+9<aX)(I:Inv X aC σ H s)(D:DN X.w H a xs ep)(k:KRep H d b)(rd:RelV v r)(h:∀w' s',Inv X aC σ H s'->RelV ((sk xs d).getD v) w'->Q w' s') :
  aG (aH X.prog X.w) A (call (.builtin "dict.get") [.ref a,.ref b,r]) Q E s:=by
 obtain⟨ys,rel,dd⟩:=D.at I;refine call_meetsIn PySem.F.slot_dict_get dd.typeIs PySem.F.entry_dict_get (PySem.F.args_dict_get_3 _ _ _) (meetsH_dict_get_default (r8 X.prog X.w) a b D.sys r) ⟨(show A.units+1+8<aX by lia),d,ys,k.at I,dd,h _ _ (I.tok _) ?_⟩;exact(rel.val d).getD rd
theorem wu(xs:List KA)(d:PyData)(b:aE)(v:V):(zo xs d b v).length<=xs.length+1:=by
 unfold zo;split
 .rw[ah];lia
 .rw[bu];exact aq _
theorem am1{xs:List KA}{d:PyData}{b:aE}{v:V}{x:KA}(h:x∈zo xs d b v):(∃y∈xs,y.1=x.1/\y.2.1=x.2.1)\/(x.1=d/\x.2.1=b):=by
 unfold zo at h;split at h
 .obtain⟨y,hy,e⟩:=bf.mp h;refine .inl ⟨y,hy,?_⟩;subst e;split<;>exact⟨rfl,rfl⟩
 .rcases ay.mp h with h|h
  .exact .inl ⟨x,h,rfl,rfl⟩
  .rw[ao.mp h];exact .inr ⟨rfl,rfl⟩
theorem alz{Q:Unit->aB->Prop}(hu:A.units+9<aX)(I:Inv X aC σ H s)(D:DN X.w H a xs ep)(k:KRep H d b)(l:xs.length<aF)(rv:RelV v r)
  (h:∀jO s',Inv X aC σ (upd H a (DNo X.w a (zo xs d b v) jO)) s'->Q () s'):aG (aH X.prog X.w) A (setItem (.ref a) (.ref b) r) Q E s:=by
 obtain⟨ys,rel,dd⟩:=D.at I;have hz:ys.length<=aF:=by rw[<-eL.length rel];exact D.len
 refine wpAny_setItem_heap (knd:=r8 X.prog X.w) (hsz:=hz) (show A.units+1+8<aX by lia) (k.at I) dd λh' dd' hs=>?_;have he:∃q,h'.get? a=some q:=let ⟨q,_,_,hq,_⟩:=dd';⟨q,hq⟩
 obtain⟨jO,ok⟩:=DN.ext (H':=upd H a (DNo X.w a (zo xs d b v) 0)) (rel.put d rv) dd';refine h jO _ ?_;exact aqa I (by rw[D.obj];exact True.intro) hs he ok
theorem DN.put{w:aK}(D:DN w H a xs ep)(k:KRep H d b)(l:xs.length<aF)(v:V)(jO:Nat):DN w (upd H a (DNo w a (zo xs d b v) jO)) a (zo xs d b v) jO:=by
 have t:Tk H (upd H a (DNo w a (zo xs d b v) jO)):=λc ys q=>by rw[ow (ux q D.obj (by intro z;cases z))];exact q
 refine⟨np,λx hx=>?_,by have:=wu xs d b v;lia,D.sys⟩;rcases am1 hx with ⟨y,hy,e1,e2⟩|⟨e1,e2⟩
 .rw[<-e1,<-e2];exact(D.keys y hy).tk t
 .rw[e1,e2];exact k.tk t
end
end L3
namespace L3
open PySem PySem.Spec PyProof.Rows L2
theorem DN.ty{X:Cx}{aC:List (aE×Obj)}{σ:L2.St}{H:Hp}{s:aB}{a:aE}{xs:List KA}{ep:Nat}(D:DN X.w H a xs ep)(I:Inv X aC σ H s) :
  s.TypeIs (.ref a) "dict"/\(∀b,aA.ref a=.ref b->∃ob,s.heap.get? b=some ob/\ob.dict=none):=by
 obtain⟨ys,_,dd⟩:=D.at I;refine⟨dd.typeIs,λb q=>?_⟩;cases q;obtain⟨ob,_,_,h1,h2,_⟩:=dd;exact⟨ob,h1,h2.2.1⟩
def avl(w:aK)(td ty:TE):TE:=λσ H Q=>td σ H λx H1=>ty σ H1 λy H2=>∃a xs ep d b v,x=.ref a/\y=.ref b/\DN w H2 a xs ep/\KRep H2 d b/\sk xs d=some v/\Q v H2
def azk(w:aK)(ty td:TE):TE:=λσ H Q=>ty σ H λy H1=>td σ H1 λx H2=>∃a xs ep d b,x=.ref a/\y=.ref b/\DN w H2 a xs ep/\KRep H2 d b/\Q (.bl (sk xs d).isSome) H2
def axf(w:aK)(td ty tv:TE):TS:=λD σ H=>tv σ H λv H1=>td σ H1 λx H2=>ty σ H2 λy H3=>∃a xs ep d b,x=.ref a/\y=.ref b/\DN w H3 a xs ep/\KRep H3 d b/\xs.length<aF/\∀jO,D.nx σ (upd H3 a (DNo w a (zo xs d b v) jO))
def as4(w:aK)(td ty tx:TE):TE:=λσ H Q=>td σ H λx H1=>∃a,x=.ref a/\(∃xs ep,DN w H1 a xs ep)/\ty σ H1 λy H2=>tx σ H2 λz H3=>∃xs ep d b,y=.ref b/\DN w H3 a xs ep/\KRep H3 d b/\Q ((sk xs d).getD z) H3
def axh(w:aK):TE:=λ_ H Q=>∀p,H p=none->(p==dI)=false->Q (.ref p) (upd H p (DNo w p [] 0))
section
variable{X:Cx}{o i e f value:Expr}{pos jM oP fR fA:eA}{td ty tv tx:TE}
theorem aka(hu:X.A.units+9<aX)(ho:PE X o td)(hi:PE X i ty)(hs:JM i):PE X (.Subscript o i pos) (avl X.w td ty):=by intro aC s σ H Q I h;refine ar7 PySem.F.slot_dict_getitem.lookup hs (thn (ho aC s σ H _ I h) λu s1 ⟨x,H1,I1,rx,q1⟩=>thn (hi aC s1 σ H1 _ I1 q1) λiv s2 ⟨y,H2,I2,ry,a,xs,ep,d,b,v,ex,ey,D,k,l,q2⟩=>?_);subst ex ey;obtain rfl:u=aA.ref a:=rx;obtain rfl:iv=aA.ref b:=ry;exact⟨(D.ty I2).1,ake hu I2 D k l λw' s3 I3 qO=>⟨v,H2,I3,qO,q2⟩⟩
theorem apm(hu:X.A.units+9<aX)(hi:PE X i ty)(ho:PE X o td):PC X .In i o (azk X.w ty td):=by intro aC s σ H Q I h;refine thn (hi aC s σ H _ I h) λiv s1 ⟨y,H1,I1,ry,q1⟩=>thn (ho aC s1 σ H1 _ I1 q1) λu s2 ⟨x,H2,I2,rx,a,xs,ep,d,b,ex,ey,D,k,q2⟩=>?_;subst ex ey;obtain rfl:u=aA.ref a:=rx;obtain rfl:iv=aA.ref b:=ry;exact a0n hu I2 D k λs3 I3=>⟨.bl (sk xs d).isSome,H2,I3,rfl,q2⟩
theorem FO(hu:X.A.units+9<aX)(ho:PE X o td)(hi:PE X i ty)(hv:PE X value tv)(hs:kP value (some (.Subscript o i jM)) pos.line X.env=aS false) :
  PS X (.Assign [.Subscript o i jM] value pos) (axf X.w td ty tv):=by
 intro aC s σ H D I h;refine wpAny_Assign_Subscript (thn (hv aC s σ H _ I h) λr s1 ⟨v,H1,I1,rv,q1⟩=>thn (ho aC s1 σ H1 _ I1 q1) λu s2 ⟨x,H2,I2,rx,q2⟩=>thn (hi aC s2 σ H2 _ I2 q2) λiv s3 ⟨y,H3,I3,ry,a,xs,ep,d,b,ex,ey,dn,k,l,q3⟩=>?_) hs;subst ex ey;obtain rfl:u=aA.ref a:=rx;obtain rfl:iv=aA.ref b:=ry;exact alz hu I3 dn k l rv λjO s4 I4=>⟨σ,_,I4,q3 jO⟩
theorem aoi(hu:X.A.units+9<aX)(ho:PE X o td)(he:PE X e ty)(hf:PE X f tx)(m:M2 X o "get" fR e f fA):PE X (.Call (.Attribute o "get" fR) [e,f] [] fA) (as4 X.w td ty tx):=by
 intro aC s σ H Q I h;refine wpAny_Call_method m.base m.few m.line PySem.F.plainAttrs_dict PySem.F.slot_dict_get PySem.F.type_dict_get (thn (ho aC s σ H _ I h) λu s1 ⟨x,H1,I1,rx,a,ex,⟨xs0,ep0,D0⟩,q1⟩=>?_);subst ex;obtain rfl:u=aA.ref a:=rx;obtain⟨t1,t2⟩:=D0.ty I1;refine⟨t1,t2,?_⟩;rw[m.trees];refine Calls.callWith_builtin rfl (Calls.evalArgs_plain (Calls.spliced_cons (thn (he aC s1 σ H1 _ I1 q1) λiv s2 ⟨y,H2,I2,ry,q2⟩=>
  Calls.spliced_cons (thn (hf aC s2 σ H2 _ I2 q2) λfv s3 ⟨z,H3,I3,rz,xs,ep,d,b,ey,D,k,q3⟩=>Calls.spliced_nil ?_))))
 subst ey;obtain rfl:iv=aA.ref b:=ry;exact atk hu I3 D k rz λw' s4 I4 qO=>⟨_,H3,I4,qO,q3⟩
theorem anf{P:aI}{w:aK}{H:Hp}(h:Heap):ObjOk P w H (h.push {cls:=.type "dict",data:=.dict #[]}) h.objs.size (DNo w h.objs.size [] 0):=
 ⟨⟨[],.nil,_,#[],az _ rfl,⟨rfl,rfl,rfl⟩,rfl,rfl,List.nodup_nil⟩,⟨_,az _ rfl⟩,λ_ _ ⟨zs,r',o',vO,k1,k2⟩ k=>⟨zs,r',o',vO,k o' k1,k2⟩⟩
theorem K5:PE X (.Dict [] [] pos) (axh X.w):=λaC s σ H Q I h=>
 wpAny_Dict_empty ⟨.ref s.heap.objs.size,_,I.laid (a:=s.heap.objs.size) (o:=DNo X.w s.heap.objs.size [] 0) (t':=s.toks) (λ_ _ q=>am _ q) (aq _) (anf s.heap),rfl,
  h _ (I.hok.fresh (aq _)) (beq_eq_false_iff_ne.mpr (Ne.symm (dq I.big)))⟩
theorem DN.new{w:aK}{H:Hp}{p:aE}(h:(p==dI)=false):DN w (upd H p (DNo w p [] 0)) p [] 0:=⟨np,(λx hx=>nomatch hx),f7 _,h⟩
end
noncomputable def Jel(K:aj)(a:aE):It:=
 ⟨λi H=>∃xs x,SqL K H a xs/\xs[i]?=some x,λi H v H'=>∃p x,H p=none/\v=.ref p/\H'=upd H p (.tup [.int i,x])/\∀xs,SqL K H a xs->xs[i]?=some x,λi H=>∃xs,SqL K H a xs/\xs.length<=i⟩
theorem ait{P:aI}{w:aK}{K:aj}{iL:List Expr}{x1}{pos:eA}(a e I:aE)(eO:e≠I) :
  uA P w K (.Tuple iL x1 pos) (Jel K a) [e,I] e (λi h=>(∃iS,dX h e I i iS)/\h.IsListIter I a i):=by
 refine LG (Jel K a) e I eO (λi h=>h.IsListIter I a i) (λi h st=>?_) (λi h h' st k=>?_) (λX hP hw hK i aC s σ H Iv st hg=>?_) (λX hP hw hK i aC s σ H Iv st hg A' R E' hh q=>?_)
 .obtain⟨o,ho,c,d⟩:=st;exact⟨o,ho,λv z=>by rw[d]at z;cases z⟩
 .obtain⟨o,ho,r⟩:=st;exact⟨o,k o ho,r⟩
 .subst hP hw hK;obtain⟨xs,x,hq,hx⟩:=hg;obtain⟨its,rv,p,hz⟩:=Iv.list hq;obtain⟨u,hu,ru⟩:=rv.get hx;refine⟨λu'=>u'=u,λu' Ce=>?_,λA' R E' q=>?_⟩
  .subst Ce;exact⟨x,ru,s.heap.objs.size,x,Iv.hok.fresh (aq _),rfl,rfl,λys hy=>by rw[Iv.list_inj hy hq];exact hx⟩
  .exact wpAny_nextOf_list_item st p.isList (x:=u) (by simpa using hu) λg aQ sb=>q u g s.toks rfl aQ sb
 .subst hP hw hK;obtain⟨xs,hq,hx⟩:=hg;obtain⟨its,rv,p,hz⟩:=Iv.list hq;have hl:=rv.length;exact wpAny_nextOf_list_end hh st p.isList (by simp;lia) q
section
variable{X:Cx}{iL:List Expr}{x1:Nat}{oP p pos:eA}{a:Expr}{ta:TA}
def a0e(K:aj)(ta:TA):TI:=λσ H R=>ta σ H λvs H1=>∃a,vs=[.ref a]/\(∃xs,SqL K H1 a xs)/\R (Jel K a) H1
theorem ave(hg:Gl X "enumerate")(hm:X.mg "enumerate" = none)(ha:PA X [a] ta)(hs:qp a=true:=by rfl):PI X (.Tuple iL x1 oP) (.Call (.Name "enumerate" p) [a] [] pos) (a0e X.K ta):=by
 intro aC s σ H R I h;refine Call_ (v5 I hg hm oG (gv (thn (ha pos aC s σ H _ I h) λus s1 ⟨vs,H1,I1,r1,q1⟩=>?_) (p9 hs) rfl));obtain⟨b,e,⟨xs,hq⟩,q⟩:=q1;subst e;obtain⟨u,rfl,ru⟩:=uy r1;cases (show u=aA.ref b from ru);obtain⟨its,rv,pl,hz⟩:=I1.list hq;refine call_enumerate_list (l:=b) pl.isList λg he hi _ kp=>eS (s:={s1 with heap:=g}) he ?_;refine⟨s1.heap.objs.size+1,[s1.heap.objs.size+1,s1.heap.objs.size],_,_,H1,rfl,I1.kept (t':=s1.toks) kp,ait b (s1.heap.objs.size+1) s1.heap.objs.size (Nat.succ_ne_self _),⟨⟨_,he⟩,hi⟩,λc hc=>?_,q⟩;rcases bb.mp hc with z|z
 .subst z;exact I1.fpOk (by lia) (I1.hok.fresh (by lia))
 .rw[ao.mp z];exact I1.fpOk (aq _) (I1.hok.fresh (aq _))
end
theorem ar5{K:aj}{a:aE}{xs:List V}{g:TG}{tb:TS}{D:qH}{σ:L2.St}{H:Hp}(Pv:Nat->L2.St->Hp->Prop)(h0:Pv 0 σ H)(hl:∀i σ H,Pv i σ H->SqL K H a xs)
  (hs:∀i x p σ H,xs[i]?=some x->H p=none->Pv i σ H->g (.ref p) σ (upd H p (.tup [.int (i:Nat),x])) λσ2 H2=>tb {D with nx:=Pv (i+1),ct:=Pv (i+1),bk:=D.nx} σ2 H2) (hd:∀σ H,Pv xs.length σ H->D.nx σ H) :
  ∃W:Nat->Nat->L2.St->Hp->Prop,(∃m,W 0 m σ H)/\∀i m σ H,W i m σ H->
   ((Jel K a).stop i H/\D.nx σ H)\/((Jel K a).go i H/\∃N:L2.St->Hp->Prop,(∀σ' H',N σ' H'->∃m',m'<m/\W (i+1) m' σ' H')/\∀v H',(Jel K a).yld i H v H'->g v σ H' λσ2 H2=>tb {D with nx:=N,ct:=N,bk:=D.nx} σ2 H2):=by
 refine K4 (Jel K a) xs.length Pv h0 (λi σ H hi p=>⟨xs,xs[i],hl i σ H p,by simp[hi]⟩) (λσ H p=>⟨xs,hl _ σ H p,aq _⟩) (λi v σ H H' hi p y=>?_) hd;obtain⟨b,x,hb,rfl,rfl,hx⟩:=y;exact hs i x b σ H (hx xs (hl i σ H p)) hb p
section
variable{X:Cx}{N:List Str}{scope:cK}{z:CZ}{i o:Expr}{ty td:TE}
theorem aqf(hu:X.A.units+9<aX)(hi:PE (ox X N scope z) i ty)(ho:PE (ox X N scope z) o td):PC (ox X N scope z) .In i o (azk X.w ty td):=apm (X:=ox X N scope z) hu hi ho
end
theorem aqq{D:aE}{i:Nat}{Pv:Nat->List V->Hp->Prop}{G:Hp}{ys:List V}{y:V}(hi:i<4000)(hD:G D=some (.lst ys))(hl:ys.length<=i)(h:Pv (i+1) (ys++[y]) (upd G D (.lst (ys++[y])))):∃xs,G D=some (.lst xs)/\xs.length<aF/\Nx D i Pv (upd G D (.lst (xs++[y]))):=
 ⟨ys,hD,by rw[iw];lia,ys++[y],np,by rw[bu,fq];lia,h⟩
section
variable{X:Cx}
def axx(K:aj):R2:=λx y H Q=>∃a b xs ys,x=.ref a/\y=.ref b/\SqT K H a xs/\SqT K H b ys/\xs.length+ys.length<=aF/\
 (xs=[]->Q (.ref b) H)/\(xs≠[]->ys=[]->Q (.ref a) H)/\(xs≠[]->ys≠[]->∀p,H p=none->Q (.ref p) (upd H p (.tup (xs++ys))))
theorem ap6:OpR X (cC .Add) (axx X.K):=by
 intro aC s σ H x y v u Q I rx ry h;obtain⟨a,b,xs,ys,rfl,rfl,ha,hb,hz,q0,q1,q2⟩:=h;cases rx;cases ry;obtain⟨its,r1,p1,_⟩:=I.tuple ha;obtain⟨kC,r2,p2,_⟩:=I.tuple hb;by_cases hx:xs=[]
 .have hv:its=[]:=r1.nil_iff.mpr hx;obtain⟨⟨cls,dd,data,sl⟩,ho,hc,n,hd⟩:=p1;obtain⟨⟨Dl,xH,data2,wD⟩,uX,tS,n2,hZ⟩:=p2;simp only at hc hd tS hZ;subst hc hd tS hZ;exact tX ⟨_,ho,rfl⟩ ⟨_,uX,rfl⟩ kR pW PySem.F.slot_tuple_add PySem.F.entry_tuple_add (PySem.F.args_tuple_add_2 _ _)
   (tuple_addW0 a b its.toArray kC.toArray n n2 dd xH sl wD (by simp[hv])) ⟨ho,uX,(nq (.ref b) H ⟨I,rfl,q0 hx⟩)⟩
 .refine HT.cat_tup p1 p2 (λz=>hx (r1.nil_iff.mp z)) (λz=>(nq (.ref a) H ⟨I,rfl,q1 hx (r2.nil_iff.mp z)⟩)) (λz=>?_) (by rw[<-r1.length,<-r2.length];exact hz);refine(nq (.ref s.heap.objs.size) _ ⟨I.laid (t':=s.toks) (o:=.tup (xs++ys)) (λb ob q=>am _ q) (aq _) ?_,rfl,q2 hx (λe=>z (r2.nil_iff.mpr e)) _ (I.hok.fresh (aq _))⟩);exact⟨by rw[bu];exact hz,_,r1.append r2,oK.new _ _⟩
def azb:R2:=λx y H Q=>∃a b xs ys,x=.ref a/\y=.ref b/\H a=some (.tup xs)/\H b=some (.tup ys)/\xs.length+ys.length<=aF/\∀c H',Same H H'->H' c=some (.tup (xs++ys))->Q (.ref c) H'
theorem akc:OpR X (cC .Add) azb:=by
 intro aC s σ H x y v u Q I rx ry h;obtain⟨a,b,xs,ys,rfl,rfl,ha,hb,hz,q⟩:=h;refine ap6 aC s σ H _ _ v u Q I rx ry (nw a b xs ys ⟨rfl,rfl,SqT.of ha,SqT.of hb,hz,λe=>?_,λ_ e=>?_,λ_ _ p hp=>?_⟩)
 .subst e;exact q b H (Same.refl _) hb
 .subst e;exact q a H (Same.refl _) (by rw[dg];exact ha)
 .exact q p _ (Same.fresh _ hp) np
def aw2:V->Option Int->Option Int->Hp->VK->Prop:=λx lo hi H Q=>∃a xs,x=.ref a/\H a=some (.tup xs)/\∀c H',Same H H'->H' c=some (.tup (kT xs lo hi))->Q (.ref c) H'
theorem FX:SlR X aw2:=by
 intro aC s σ H x v vl vu lo hi sl Q I rx hs pl pu h;obtain⟨a,xs,rfl,ha,q⟩:=h;refine arb aC s σ H _ v vl vu lo hi sl Q I rx hs pl pu (nq a xs ⟨rfl,SqT.of ha,λe=>?_,λ_ p hp=>?_⟩)
 .refine q a H (Same.refl _) ?_;have:kT xs lo hi=xs:=by unfold kT;rw[e.1,e.2];simp
  rw[this];exact ha
 .exact q p _ (Same.fresh _ hp) np
end
noncomputable def ltX:PyData->PyData->Bool
 | .str a,.str b=>decide (a.cps.toList<b.cps.toList)
 | _,_=>false
theorem azz{ds:List PyData}(h:∀d∈ds,∃z,d=.str z):xN ltX ds:=⟨λx hx y hy q=>by
  obtain⟨a,rfl⟩:=h x hx;obtain⟨b,rfl⟩:=h y hy;exact decide_eq_false (List.lt_asymm (of_decide_eq_true q)),λx hx y hy z hz q1 q2=>by
  obtain⟨a,rfl⟩:=h x hx;obtain⟨b,rfl⟩:=h y hy;obtain⟨c,rfl⟩:=h z hz;have h1:a.cps.toList<=b.cps.toList:=of_decide_eq_false q1;have h2:b.cps.toList<=c.cps.toList:=of_decide_eq_false q2;exact decide_eq_false (List.le_trans h1 h2)⟩
section
variable{X:Cx}
theorem aex:u7 X (.builtin "sorted") (λvs H Q=>∃p xs ds,vs=[.ref p]/\H p=some (.lst xs)/\RepAll H ds xs/\(∀d∈ds,∃z,d=.str z)/\
  ∀l ys es,H l=none->es.Perm ds->es.Pairwise (λx y=>ltX y x=false)->RepAll (upd H l (.lst ys)) es ys->Q (.ref l) (upd H l (.lst ys))):=by
 intro aC s σ H xs us Q I r h;obtain⟨p,xs,ds,rfl,hp,dH,Ch,q⟩:=h;obtain⟨u,rfl,r1⟩:=uy r;cases (show u=aA.ref p from r1);obtain⟨its,rv,pl,hz⟩:=I.list (SqL.of (K:=X.K) hp);have l1:xs.length=ds.length:=dH.length;have l2:xs.length=its.length:=rv.length;have zO:∀(i:Nat)(d:PyData)(u:aA),ds[i]?=some d->its[i]?=some u->∃z t,d=.str z/\u=.str z t:=λi d u hd hu=>by obtain⟨x,e1,e2⟩:=dH.get hd;obtain⟨u',e3,e4⟩:=rv.get e1;rw[hu]at e3;cases e3;obtain⟨z,rfl⟩:=Ch d (ak hd);obtain⟨rfl,_⟩:=e2;obtain⟨t,rfl⟩:=e4;exact⟨z,t,rfl,rfl⟩
 refine abg (κ:=oneType') (lt:=ltX) I hp dH rv pl.isList (by lia) (azz Ch) (λh2 s' k Q' E' hq=>?_) (λs' k i j d e u v di ui dj vj Q' hq=>?_) q
 .refine PySem.W.kas_kind (T:=aA.type "str") h2 (λv hv=>?_) (by decide) rfl hq;obtain⟨i,hi⟩:=cx.mp hv;obtain⟨z,t,_,rfl⟩:=zO i _ v (ab (by have:=(ae.mp hi).1;lia)) hi;exact PySem.W.Looks.of_pure rfl
 .obtain⟨z,t,rfl,rfl⟩:=zO i d u di ui;obtain⟨z',t',rfl,rfl⟩:=zO j e v dj vj;exact PySem.W.kas_lt_str hq
end
def FnM(P:aI)(w:aK)(K:aj)(mg:Str->Option aA)(base:Heap)(x:Str)(C:aE)(k:Nat)(ps:List Str)(sp:Sp):Prop:=
 ∃f fd,Mk K C f/\qt P w K mg base CX0 k f fd ps sp/\mg x=some (.ref C)/\Binds K fd ps []
section
variable{X:Cx}{x:Str}{k j:Nat}{ps:List Str}{sp:Sp}{p pos:eA}{e:Expr}{es:List Expr}{t:TA}{C:aE}
theorem avc(F:FnM X.prog X.w X.K X.mg X.base x C k ps sp)(hr:Room j X.A)(hk:k+1<=j)(hg:Gl X x)
  (ha:PA X (e::es) t) (mW:(x==("__debug__" : Str))=false:=by decide) (h1:qp e=true:=by rfl) (h2:es.all qp=true:=by rfl):PE X (.Call (.Name x p) (e::es) [] pos) (avo C sp [] E0 t):=by
 obtain⟨f,fd,M,F,m,b⟩:=F;exact aq4 M F (hr.mono hk) hg m b .nil ava ha mW (p9 h1) (vq h2)
end
section
variable{X:Cx}{N:List Str}{scope:cK}{z:CZ}{e d:Expr}{f:Str}{pos:eA}{ta td ty:TE}
theorem KZ(he:PE (ox X N scope z) e ta)(hb:cS e f (ox X N scope z).env (bH e (ox X N scope z).env)=bH e (ox X N scope z).env):PE (ox X N scope z) (.Attribute e f pos) (azj X.K ta f):=zj (X:=ox X N scope z) he hb
theorem ah4(hu:X.A.units+9<aX)(ho:PE (ox X N scope z) e td)(hi:PE (ox X N scope z) d ty)(hs:JM d):PE (ox X N scope z) (.Subscript e d pos) (avl X.w td ty):=aka (X:=ox X N scope z) hu ho hi hs
end
noncomputable def at8(s:aW)(j:Nat):aW:=match s with
 | .ClassDef _ _ _ body _ _ _ _ _ _ _=>body.getD j s
 | _=>s
end L3
namespace K22
open PySem PyProof.Rows L2 L3
theorem al{H H':Hp}{a:aE}{o:HO}(h:H a=none)(g:upd H a o=H'):Same H H'/\H' a=some o:=by subst g;exact⟨Same.fresh _ h,np⟩
noncomputable def clD(r c:Int):PyData:=.tuple [.int r,.int c]
noncomputable def E3(r c:Int):List PyData:=[clD (r-1) c,clD r (c-1),clD r (c+1),clD (r+1) c]
theorem uw{H:Hp}{a:aE}{r c:Int}(h:H a=some (.tup [.int r,.int c])):Rep H (clD r c) (.ref a):=(pj a _ rfl h _ _ rfl rfl _ ⟨_,rfl,rfl,rfl⟩)
theorem xR{H:Hp}{r c:Int}{v:V}(h:Rep H (clD r c) v):∃a,v=.ref a/\H a=some (.tup [.int r,.int c]):=by obtain⟨a,xs,rfl,ha,z1,t1,rfl,h1,z2,t2,rfl,h2,rfl⟩:=h;cases (show z1=_ from h1);cases (show z2=_ from h2);exact⟨a,rfl,ha⟩
noncomputable def chV(k:Nat):V:=.str ⟨#[k]⟩
theorem ch_inj{a b:Nat}:chV a=chV b↔a=b:=by
 constructor
 .intro e;unfold chV at e;injection e with e
  injection e with e
  simpa using e
 .rintro rfl;rfl
noncomputable def mD(r c:Int):List (Int×Int):=[(r-1,c),(r,c-1),(r,c+1),(r+1,c)]
noncomputable def cD(p:Int×Int):PyData:=clD p.1 p.2
theorem kr2{H:Hp}{a:aE}{r c:Int}(h:H a=some (.tup [.int r,.int c])):KRep H (clD r c) a:=⟨rfl,by simp[clD,g0,bv],uq h⟩
noncomputable def xP(k:Nat):Bool:=k==46||big k
noncomputable def oix(M:Mat)(k:Nat):List Nat:=(cb k).filter λi=>!(M.g (i/M.w) (i % M.w)==35)
noncomputable def cdx(M:Mat)(i:Nat):PyData:=clD ((i/M.w:Nat):Int) ((i % M.w:Nat):Int)
theorem ahx(M:Mat)(k:Nat):oix M (k+1)=oix M k++if (!(M.g (k/M.w) (k % M.w)==35))=true then[k]else[]:=by
 unfold oix;rw[jx,jn]
 congr 1
 cases h:!(M.g (k/M.w) (k % M.w)==35)<;>simp[h]
theorem yq(M:Mat)(k:Nat):(oix M k).length<=k:=by unfold oix;have:=ke (λi=>!(M.g (i/M.w) (i % M.w)==35)) (cb k);rw[f8]at this;exact this
theorem al2(M:Mat)(l:List Nat):pq (l.map (cdx M))=true:=qg λd hd=>by obtain⟨i,_,rfl⟩:=bf.mp hd;rfl
seal L2.PE L2.PT L2.PW L2.PA L2.PS L2.PSs L2.PG L2.PGs L2.PI L2.PO
section
variable{P:aI}{w:aK}{K:aj}{mg:Str->Option aA}{base:Heap}{f:aE}{fd:aP}
def Ff:Sp:=λvs H Q _=>∃(a:aE)(r c:Int),vs=[.ref a]/\H a=some (.tup [.int r,.int c])/\∀(l:aE)(ys:List V)(H':Hp),Same H H'->H l=none->H' l=some (.lst ys)->RepAll H' (E3 r c) ys->Q (.ref l) H'
theorem scAro:nu ["cell","row","column"] ["cell"] (nh JL):={}
theorem att(F:Fun K "around" "around" JL f fd):qt P w K mg base CX0 1 f fd ["cell"] Ff:=by
 refine F.ok (k:=0) scAro (λvs H Q E h=>?_) (λbN A outer s H vs Q E hr h=>?_)
 .obtain⟨_,_,_,rfl,_⟩:=h;rfl
 obtain⟨a,r,c,rfl,ha,q⟩:=h;refine⟨_,(mw (n8 (i:=1) scAro.nd rfl (Or.inl rfl) (ny om (pv 0) mx (λ_ _=>rfl)))
  (mw (n8 (i:=2) scAro.nd rfl (Or.inl rfl) (ny om (pv 0) mx (λ_ _=>rfl)))
  (m8 (nv (qa (m9 (oh (m9 (ph wb (pv 1) mx) (m9 (pv 2) mr))) (m9 (oh (m9 (pv 1) (m9 (ph wb (pv 2) mx) mr))) (m9 (oh (m9 (pv 1) (m9 (ph qv (pv 2) mx) mr))) (m9 (oh (m9 (ph qv (pv 1) mx) (m9 (pv 2) mr))) mr))))))))),?_⟩
 refine(mz _ rfl a _ _ _ ⟨rfl,rfl,SqT.of ha,ng (j:=0) rfl,(mz _ rfl a _ _ _ ⟨rfl,rfl,SqT.of ha,ng (j:=1) rfl,?_⟩)⟩);refine(o7 _ rfl _ _ rfl rfl _ ⟨rfl,sZ2,λa1 h1=>?_⟩);generalize g1:upd H a1 _=H1 at *;obtain⟨s1,e1⟩:=al h1 g1;refine(ug _ rfl _ rfl _ _ ⟨rfl,rfl,sZ2,λa2 h2=>?_⟩);generalize g2:upd H1 a2 _=H2 at *;obtain⟨s2,e2⟩:=al h2 g2;refine(ug _ rfl _ rfl _ _ ⟨rfl,rfl,sZ2,λa3 h3=>?_⟩);generalize g3:upd H2 a3 _=H3 at *;obtain⟨s3,e3⟩:=al h3 g3;refine(o7 _ rfl _ _ rfl rfl _ ⟨rfl,sZ2,λa4 h4=>?_⟩);generalize g4:upd H3 a4 _=H4 at *;obtain⟨s4,e4⟩:=al h4 g4;refine⟨sZ4,λl hl=>?_⟩;generalize g5:upd H4 l _=H5 at *;obtain⟨s5,e5⟩:=al hl g5;exact q l _ H5 ((((s1.trans s2).trans s3).trans s4).trans s5) ((((s1.trans s2).trans s3).trans s4).free hl) e5
  (pj _ _ rfl (uw ((((s2.trans s3).trans s4).trans s5) _ _ e1)) _ _ rfl (uw (((s3.trans s4).trans s5) _ _ e2)) _ (o4 _ rfl (uw ((s4.trans s5) _ _ e3)) _ ⟨_,rfl,uw (s5 _ _ e4),rfl⟩))
theorem scMust:nu ["floor","cell","sign"] ["floor","cell"] (nh Kc):={}
theorem asl(gV:GS mg "COVERED" ".")(Eb:JD P w K mg base)(Ae:Fn P w K mg base "is_sign" 1 ["found"] Kg)(F:Fun K "must_be" "must_be" Kc f fd):qt P w K mg base CX0 2 f fd ["floor","cell"] (xO λk=>.bl (xP k)):=by
 refine F.ok (k:=1) scMust (λvs H Q E h=>?_) (λbN A outer s H vs Q E hr h=>?_)
 .obtain⟨a,b,M,r,c,rfl,_⟩:=h;rfl
 obtain⟨a,b,M,r,c,rfl,hf,hb,q⟩:=h;dsimp only at q;refine⟨_,(mw (n8 (i:=2) scMust.nd rfl (Or.inl rfl) (oj Eb hr (by decide) rfl (m9 (pv 0) (m9 (pv 1) mr))))
  (m8 (nv (avh (su sX (pv 2) (qu gV rfl) (pf _)) (DD (oj Ae hr (by decide) rfl (m9 (pv 2) mr))))))),?_⟩
 refine(nj _ rfl _ rfl a b M (nq r c ⟨rfl,hf,hb,?_⟩));generalize gA M r c=g at *;have e46:ba "." = ⟨#[46]⟩:=by decide +kernel
 have ed:decide (V.str ⟨#[g]⟩=V.str (ba "."))=(g==46):=vf _ 46 e46;refine(o4 _ rfl rfl _ ⟨rfl,?_⟩);rw[ed];refine u6 (λh=>?_) (λh=>?_)
 .unfold xP at q;rw[h,Bool.true_or]at q;exact q
 .have h':(g==46)=false:=f9.mpr h;unfold xP at q;rw[h',Bool.false_or]at q;exact(qc _ rfl _ ⟨rfl,q⟩)
def AW:Sp:=λvs H Q _=>∃(a:aE)(M:Mat),vs=[.ref a]/\FlM H a M/\∀(D:aE)(ys:List V)(H':Hp),Same H H'->H D=none->H' D=some (.lst ys)->RepAll H' ((oix M (M.h*M.w)).map (cdx M)) ys->Q (.ref D) H'
theorem a0u:nu ["floor"] ["floor"] (nh sOc):={}
theorem aym(gC:GS mg "CLOSED" "#")(nI:Fn P w K mg base "floor_spots" 1 ["floor"] KW)(F:Fun K "open_cells" "open_cells" sOc f fd):qt P w K mg base CX0 2 f fd ["floor"] AW:=by
 refine F.ok (k:=1) a0u (λvs H Q E h=>?_) (λbN A outer s H vs Q E hr h=>?_)
 .obtain⟨a,M,rfl,_⟩:=h;rfl
 obtain⟨a,M,rfl,hf,q⟩:=h;have dO:=hf.2;have hw1:=dO.w1;have yZ:M.h*M.w<=64:=ky dO.h8 dO.w8;refine⟨_,(m8 (nv (o9 ["row","column","sign"] [none,none,none] rfl rfl (by decide +kernel) (by decide +kernel) rfl rfl (oz (oj nI hr (by decide) rfl (m9 (pv 0) mr))) (λ_=>(tj (n:=3) rfl (ni (nc (i:=0) (show(["row","column","sign"]:List PySem.Str).Nodup by decide +kernel) rfl (Or.inl rfl)) (ni (nc (i:=1) (show(["row","column","sign"]:List PySem.Str).Nodup by decide +kernel) rfl (Or.inl rfl)) (ni (nc (i:=2) (show(["row","column","sign"]:List PySem.Str).Nodup by decide +kernel) rfl (Or.inl rfl)) p5))))) (λ_=>u9 (oy Bg (pv 2) (qu gC rfl) (pf _))) (λ_=>(oh (m9 (pv 0) (m9 (pv 1) mr))))))),?_⟩;refine(o8 _ rfl a (uz M) ⟨rfl,FlM.fl hf,λD1 Gg H1 s1 qE pH mI=>?_⟩);rw[tf,yh M M.h (aq _)]at mI;have BX:=mI.length;rw[ah,f8]at BX;refine⟨D1,rfl,⟨_,SqL.of qE⟩,λD hD=>?_⟩;refine o5 (xs:=Gg) (λi zs G=>Same H1 G/\RepAll G ((oix M i).map (cdx M)) zs) ⟨Same.fresh _ hD,rfl⟩ (λi zs G p=>SqL.of (p.1 _ _ qE)) (λi x zs G hx hi bA bY p=>?_) (λzs G bA bY p=>?_)
 .obtain⟨p1,p2⟩:=p;obtain⟨d,hd,rd⟩:=mI.at hx;rw[au,jw (by lia)]at hd;cases hd;obtain⟨b',rfl,eY,_⟩:=sf rd;refine(n0 b' _ rfl (SqT.of (p1 _ _ eY)) rfl _ _ rfl _ (o8 _ rfl _ _ ⟨rfl,rfl,?_⟩));refine⟨Agree.set (Agree.set (Agree.set (Agree.refl _) rfl) rfl) rfl,?_⟩;have AQ:ba "#" = ⟨#[35]⟩:=by decide +kernel
  have ed:(!decide (V.str ⟨#[M.g (i/M.w) (i % M.w)]⟩=V.str (ba "#"))) = !(M.g (i/M.w) (i % M.w)==35):=by rw[vf _ 35 AQ]
  refine(o4 _ rfl rfl _ ⟨rfl,?_⟩);rw[ed];have os:=ahx M i;refine u6 (λh=>?_) (λh=>?_)
  .rw[if_pos h]at os;refine(qc _ rfl _ ⟨rfl,sZ2,λt ht=>?_⟩);generalize g1:upd G t _=G2 at *;obtain⟨s2,e2⟩:=al ht g1;have gO:=s2 _ _ bA;refine qm (by lia) gO bY ⟨(p1.trans s2).new hD,?_⟩;rw[os,bn];refine((p2.same s2).snoc (uq e2)).tk (Tk.lst gO) ?_;have:=al2 M (oix M i++[i]);rw[bn]at this;exact this
  .rw[if_neg h,dg]at os;exact⟨_,bA,i7 bY,p1,by rw[os];exact p2⟩
 .obtain⟨p1,p2⟩:=p;rw[BX]at p2;exact q D zs G (s1.trans p1) (s1.free hD) bA p2
noncomputable def xt(xs:List KA)(r c:Int):List V:=(mD r c).filterMap λp=>sk xs (cD p)
def aph(w:aK):Sp:=λvs H Q _=>∃(D b:aE)(xs:List KA)(ep:Nat)(r c:Int),vs=[.ref D,.ref b]/\DN w H D xs ep/\H b=some (.tup [.int r,.int c])/\∀(l:aE)(H':Hp),Same H H'->H l=none->H' l=some (.lst (xt xs r c))->Q (.ref l) H'
theorem aux:nu ["places","cell"] ["places","cell"] (nh Kr):={}
theorem ary(Mb:Fn P w K mg base "around" 1 ["cell"] Ff)(F:Fun K "near_places" "near_places" Kr f fd):qt P w K mg base CX0 2 f fd ["places","cell"] (aph w):=by
 refine F.ok (k:=1) aux (λvs H Q E h=>?_) (λbN A outer s H vs Q E hr h=>?_)
 .obtain⟨_,_,_,_,_,_,rfl,_⟩:=h;rfl
 obtain⟨D,b,xs,ep,r,c,rfl,dn,hb,q⟩:=h;have hu:=hr.units;refine⟨_,(m8 (nv (o9 ["other","places"] [none,some 0] rfl rfl (by decide +kernel) (by decide +kernel) rfl rfl (oz (oj Mb hr (by decide) rfl (m9 (pv 1) mr))) (λ_=>(nc (i:=0) (show(["other","places"]:List PySem.Str).Nodup by decide +kernel) rfl (Or.inl rfl))) (λ_=>u9 (FD (aqf (gd (gi (by decide) _) hu) (pv 0) (pv 1)))) (λ_=>(ah4 (gd (gi (by decide) _) hu) (pv 1) (pv 0) (λ_ _=>rfl)))))),?_⟩;refine(o6 _ rfl b r c ⟨rfl,hb,λl ys H1 s1 yW hl rep=>⟨l,rfl,⟨_,SqL.of hl⟩,λE1 IG=>?_⟩⟩);have ly:=rep.length;have dn1:=dn.same s1;refine o5 (xs:=ys) (λi zs G=>Same H1 G/\zs=((mD r c).take i).filterMap λp=>sk xs (cD p)) ⟨Same.fresh _ IG,rfl⟩ (λi zs G p=>SqL.of (p.1 _ _ hl)) (λi x zs G hx hi bA bY p=>?_) (λzs G bA bY p=>?_)
 .obtain⟨p1,rfl⟩:=p;have hi4:i<4:=by rw[ly]at hi;exact hi
  obtain⟨d,hd,rd⟩:=rep.at hx;rw[show E3 r c=(mD r c).map cD from rfl,au]at hd;obtain⟨pc,hpc,rfl⟩:=br.mp hd;obtain⟨ca,rfl,iO⟩:=xR rd;have fs:((mD r c).take (i+1)).filterMap (λp=>sk xs (cD p))=((mD r c).take i).filterMap (λp=>sk xs (cD p))++(sk xs (cD pc)).toList:=by rw[dw,hpc,List.filterMap_append];cases h:sk xs (cD pc)<;>simp[h]
  refine⟨Agree.set (Agree.refl _) rfl,?_⟩;refine(nj _ rfl _ rfl D xs ep (nq (cD pc) ca ⟨rfl,rfl,dn1.same p1,kr2 (p1 _ _ iO),_,rfl,?_⟩));cases hv:sk xs (cD pc)with
  | none=>
   refine jG ?_;rw[hv]at fs;exact⟨_,bA,i7 bY,p1,by rw[fs];simp⟩
  | some v=>
   refine um ?_;rw[hv]at fs;refine(nj _ rfl _ rfl D xs ep (oq (cD pc) ca v ⟨rfl,rfl,dn1.same p1,kr2 (p1 _ _ iO),hv,?_⟩));exact qm (by lia) bA bY ⟨p1.new IG,fs.symm⟩
 .obtain⟨p1,rfl⟩:=p;rw[ly,show(E3 r c).length=(mD r c).length from rfl,l9]at bA;exact q E1 G (s1.trans p1) (s1.free IG) bA
end
end K22
namespace L3
open PySem PySem.Spec PyProof.Rows L2
noncomputable def Jkn(w:aK)(a:aE)(xs:List KA)(ep:Nat):It:=
 ⟨λi H=>DN w H a xs ep/\i<xs.length,λi H v H'=>∃x,xs[i]?=some x/\v=.ref x.2.1/\H'=H,λi H=>DN w H a xs ep/\xs.length<=i⟩
theorem ai6{P:aI}{w:aK}{K:aj}{tg:Expr}(a it:aE)(xs:List KA)(ep:Nat) :
  uA P w K tg (Jkn w a xs ep) [it] it (λi h=>h.IsKeyIter it a i xs.length ep/\i<=xs.length)where
 mem:=by simp
 obj:=λi h st b hb=>by obtain⟨⟨o,he,_,hd⟩,_⟩:=st;rw[ao.mp hb];exact⟨_,he,λv z=>by rw[hd]at z;cases z⟩
 keep:=λi h h' st k=>⟨st.1.at λo e=>k it (by simp) o e,st.2⟩
 item:=by intro X hP hw hK hc i aC s σ H E Iv hf st hg;obtain⟨D,hi⟩:=hg;obtain⟨st,_⟩:=st;subst hP hw hK;have fe:=hf it (by simp);obtain⟨es,de,hz,hx⟩:=D.de Iv;obtain⟨e,h1,h2,h3⟩:=hx i xs[i] (ab hi);rw[<-hz]at st;refine ay6 st de h1 λg aQ sb=>⟨_,rfl,?_⟩;obtain⟨o',lT,iP,pL⟩:=id aQ;refine Fm (s:={s with heap:=g}) lT iP pL (by decide) ?_;have I2:=Iv.turned (h':=g) (t':=s.toks) (λb o hb z=>(sb.2 b hb).trans z) fe.1 fe.2.1 fe.2.2.2.1 fe.2.2.2.2.1 fe.2.2.2.2.2;rw[hz]at aQ;exact⟨.ref xs[i].2.1,H,I2,h2,⟨_,ab hi,rfl,rfl⟩,⟨aQ,hi⟩,λb hb=>by rw[ao.mp hb];exact fe.1⟩
 done:=by
  intro X hP hw hK hc i aC s σ H E Iv hf st hg;obtain⟨D,hi⟩:=hg;obtain⟨st,eC⟩:=st;subst hP hw hK;have fi:=hf it (by simp);obtain⟨es,de,hz,hx⟩:=D.de Iv;have e:i=es.size:=by lia
  rw[e,<-hz]at st;exact az4 (Iv.ok.hd hc) st de λg kp=>⟨rfl,Iv.turned (t':=s.toks) (λb o hb q=>kp b o hb q) fi.1 fi.2.1 fi.2.2.2.1 fi.2.2.2.2.1 fi.2.2.2.2.2⟩
 self:=λA i s Q E st h=>wpAny_pyIter_keyiter st.1 h
def auw(w:aK)(to:TE):TI:=λσ H R=>to σ H λv H1=>∃a xs ep,v=.ref a/\DN w H1 a xs ep/\R (Jkn w a xs ep) H1
theorem am0{X:Cx}{o tg:Expr}{to:TE}(ho:PE X o to):PI X tg o (auw X.w to):=by
 intro aC s σ H R I h;refine thn (ho aC s σ H _ I h) λv s1 ⟨x,H1,I1,r1,a,xs,ep,e,D,q⟩=>?_;subst e;cases (show v=aA.ref a from r1);obtain⟨es,de,hz,_⟩:=D.de I1;refine ayl D.sys de ?_;refine⟨_,[_],_,_,H1,rfl,I1.kept (t':=s1.toks) (λb o e=>am _ e),ai6 a _ xs ep,⟨?_,f7 _⟩,λc hc=>?_,q⟩
 .rw[<-hz];exact⟨_,az _ rfl,rfl,rfl⟩
 .rw[ao.mp hc];exact I1.fpOk (aq _) (I1.hok.fresh (aq _))
theorem aia{w:aK}{a:aE}{xs:List KA}{ep:Nat}{sl:List (Option Nat)}{g:TG}{tt:L2.TT}{te:TE}{σ:L2.St}{H1:Hp}{D:aE}{Q:VK}(Pv:Nat->List V->Hp->Prop)(h0:Pv 0 [] (upd H1 D (.lst [])))(hl:∀i ys H,Pv i ys H->DN w H a xs ep)
  (hs:∀i x zs G,xs[i]?=some x->G D=some (.lst zs)->zs.length<=i->Pv i zs G->g (.ref x.2.1) (se sl σ) G λσ2 H2=>Agree (se sl σ) σ2/\tt σ2 H2 λb H3=>
   if b=true then te σ2 H3 λy H4=>∃xs,H4 D=some (.lst xs)/\xs.length<aF/\Nx D i Pv (upd H4 D (.lst (xs++[y])))else Nx D i Pv H3)
  (hd:∀zs G,G D=some (.lst zs)->zs.length<=xs.length->Pv xs.length zs G->Q (.ref D) G):vU (Jkn w a xs ep) sl g tt te σ H1 D Q:=by
 refine FY (Jkn w a xs ep) xs.length Pv h0 (λi zs G hi p=>⟨hl i zs G p,hi⟩) (λzs G p=>⟨hl _ zs G p,aq _⟩) (λi v zs G G' hi y hD bY p=>?_) hd;obtain⟨x,hx,rfl,rfl⟩:=y;exact hs i x zs _ hx hD bY p
end L3
namespace K22
open PySem PyProof.Rows L2 L3
noncomputable abbrev Bd:aW:=at8 (top 31) 0
def PlX(M:Mat)(oc:List Nat)(xs:List KA):Prop:=xs.length=oc.length/\∀(i k:Nat),oc[i]?=some k->∃a,xs[i]?=some (cdx M k,a,.int (i:Nat))
theorem valN_mem{xs:List KA}{d:PyData}:(sk xs d).isSome=true↔d∈xs.map (·.1):=by unfold sk;rw[Option.isSome_map,List.find?_isSome,bf];exact exists_congr λx=>and_congr Iff.rfl decide_eq_true_iff
theorem DQ{M:Mat}(hw:0<M.w){i j:Nat}(h:cdx M i=cdx M j):i=j:=by
 unfold cdx clD at h;injection h with h
 injection h with h1 h
 injection h with h2 _
 injection h1 with h1
 injection h2 with h2
 have e1:i/M.w=j/M.w:=by lia
 have e2:i % M.w=j % M.w:=by lia
 rw[<-Nat.div_add_mod i M.w,<-Nat.div_add_mod j M.w,e1,e2]
theorem Bn(M:Mat)(k:Nat):(oix M k).Nodup:=List.Pairwise.filter _ List.nodup_range
theorem PlX.put{M:Mat}(hw:0<M.w){oc:List Nat}{xs:List KA}{i k:Nat}(h:PlX M (oc.take i) xs)(hk:oc[i]?=some k)(nd:oc.Nodup)(b:aE):PlX M (oc.take (i+1)) (zo xs (cdx M k) b (.int (i:Nat))):=by
 have hi:=(ae.mp hk).1;have hl:xs.length=i:=by rw[h.1,b8];lia
 have lU:¬(sk xs (cdx M k)).isSome=true:=λz=>by
  obtain⟨y,hy,e⟩:=bf.mp (valN_mem.mp z);obtain⟨j,hj⟩:=db hy;have jB:=(ae.mp hj).1;have hjo:(oc.take i)[j]?=some (oc[j]'(by lia)):=by rw[mn,if_pos (by lia)];exact ab _
  obtain⟨a,ha⟩:=h.2 j _ hjo;rw[hj]at ha;cases ha;have e2:=DQ hw e;have e3:oc[j]?=oc[i]?:=by rw[hk,<-e2];exact ab (by lia)
  have:=(List.getElem?_inj (by lia) nd).mp e3;lia
 unfold zo;rw[if_neg lU];refine⟨by rw[bu,fq,hl,b8];lia,λj k' hj=>?_⟩;have iU:=(ae.mp hj).1;rw[b8]at iU;by_cases Ic:j<i
 .have rX:(oc.take i)[j]?=some k':=by rw[mn,if_pos Ic];rw[mn,if_pos (by lia)]at hj;exact hj
  obtain⟨a,ha⟩:=h.2 j k' rX;exact⟨a,by rw[cu (by lia)];exact ha⟩
 .have e:j=i:=by lia
  subst e;rw[mn,if_pos (by lia),hk]at hj;cases hj;exact⟨b,by rw[cf (by lia),hl,j8];rfl⟩
noncomputable abbrev fsG(kr e D nl:aE):List (Str×V):=[("kinds",.ref kr),("apart",.ref e),("places",.ref D),("near",.ref nl)]
structure GrF(w:aK)(H:Hp)(D nl:aE)(M:Mat)(xs:List KA)(ep:Nat)(dR:List V):Prop where
 dn:DN w H D xs ep
 px:PlX M (oix M (M.h*M.w)) xs
 nl:H nl=some (.lst dR)
 nn:dR.length=(oix M (M.h*M.w)).length
 nr:∀(i k:Nat),(oix M (M.h*M.w))[i]?=some k->∃a,dR[i]?=some (.ref a)/\H a=some (.lst (xt xs ((k/M.w:Nat):Int) ((k % M.w:Nat):Int)))
structure ClG(K:aj)(C:aE):Prop where
 cl:Cls K C
 n1:NoAttr K C "kinds"
 n2:NoAttr K C "apart"
 n3:NoAttr K C "places"
 n4:NoAttr K C "near"
seal L2.PE L2.PT L2.PW L2.PA L2.PS L2.PSs L2.PG L2.PGs L2.PI L2.PO
section
variable{P:aI}{w:aK}{K:aj}{mg:Str->Option aA}{base:Heap}{f:aE}{fd:aP}{C:aE}
def Fh(w:aK)(C:aE):Sp:=λvs H Q _=>∃(x dx pz fl kr e:aE)(M:Mat),vs=[.ref x,.ref pz]/\H x=some (.ins C dx [])/\H pz=some (.tup [.ref fl,.ref kr,.ref e])/\FlM H fl M/\
 ∀(D nl:aE)(xs:List KA)(ep:Nat)(dR:List V)(H':Hp),Ex [x] H H'->H' x=some (.ins C dx (fsG kr e D nl))->GrF w H' D nl M xs ep dR->Q .non H'
theorem scIni:nu ["self","puzzle","place","cell"] ["self","puzzle"] (nh Bd):={}
theorem auo(B:∀x∈v7,mg x=none)(cG:ClG K C)(DZ:Fn P w K mg base "open_cells" 2 ["floor"] AW)(D4:Fn P w K mg base "near_places" 2 ["places","cell"] (aph w))(F:Fun K "__init__" "Ground.__init__" Bd f fd):qt P w K mg base CX0 3 f fd ["self","puzzle"] (Fh w C):=by
 refine F.ok (k:=2) scIni (λvs H Q E h=>?_) (λbN A outer s H vs Q E hr h=>?_)
 .obtain⟨_,_,_,_,_,_,_,rfl,_⟩:=h;rfl
 obtain⟨x,dx,pz,fl,kr,e,M,rfl,hx,hpz,hM,q⟩:=h;have hu:=hr.units;have dO:=hM.2;have yZ:M.h*M.w<=64:=ky dO.h8 dO.w8;have npx:pz≠x:=ux hpz hx (by intro z;cases z);refine⟨_,(mw (FF (pv 0) (ny om (pv 1) mx (λ_ _=>rfl)) rfl)
  (mw (FF (pv 0) (ny om (pv 1) mx (λ_ _=>rfl)) rfl)
  (mw (FF (pv 0) K5 rfl)
  (mw (qj cj rfl (ave rfl (B "enumerate" (by decide)) (m9 (oj DZ hr (by decide) rfl (m9 (ny om (pv 1) mx (λ_ _=>rfl)) mr)) mr)) (sr (n:=2) rfl (ni (nc (i:=2) scIni.nd rfl (Or.inl rfl)) (ni (nc (i:=3) scIni.nd rfl (Or.inl rfl)) p5))) (m8 (FO (gd (gi (by decide) _) hu) (zj (pv 0) rfl) (pv 3) (pv 2) rfl)))
  (m8 (FF (pv 0) (o9 ["cell","self"] [none,some 0] rfl rfl (by decide +kernel) (by decide +kernel) rfl rfl (am0 (zj (pv 0) rfl)) (λ_=>(nc (i:=0) (show(["cell","self"]:List PySem.Str).Nodup by decide +kernel) rfl (Or.inl rfl))) (λ_=>qh) (λ_=>(oj D4 hr (by decide) rfl (m9 (KZ (pv 1) rfl) (m9 (pv 0) mr))))) rfl)))))),?_⟩
 refine(mz _ rfl pz _ _ _ ⟨rfl,rfl,SqT.of hpz,ng (j:=1) rfl,(mz _ rfl x C dx _ ⟨rfl,hx,cG.cl,cG.n1,by decide,?_⟩)⟩);generalize g1:upd H x _=H1 at *;have ET:Ex [x] H H1:=by rw[<-g1];exact Ex.upd (by simp)
 have x1:H1 x=some (.ins C dx [("kinds",.ref kr)]):=by rw[<-g1];exact np
 clear g1;refine(mz _ rfl pz _ _ _ ⟨rfl,rfl,SqT.of (ET.at npx hpz),ng (j:=2) rfl,(mz _ rfl x C dx _ ⟨rfl,x1,cG.cl,cG.n2,(by show 1<1000;decide),?_⟩)⟩);generalize g1:upd H1 x _=H2 at *;have ES:Ex [x] H H2:=by rw[<-g1];exact ET.trans (Ex.upd (by simp))
 have x2:H2 x=some (.ins C dx [("kinds",.ref kr),("apart",.ref e)]):=by rw[<-g1];exact np
 clear g1;refine λD hD qZ=>?_;generalize gg:upd H2 D _=H3 at *;have s3:Same H2 H3:=(al hD gg).1;have d3:DN w H3 D [] 0:=by rw[<-gg];exact DN.new qZ
 clear gg;have BW:D≠x:=λz=>by rw[z,x2]at hD;cases hD
 refine(mz _ rfl x C dx _ ⟨rfl,s3 _ _ x2,cG.cl,cG.n3,(by show 2<1000;decide),?_⟩);generalize g1:upd H3 x _=H4 at *;have zL:Ex [x] H3 H4:=by rw[<-g1];exact Ex.upd (by simp)
 have sK:Ex [x] H H4:=(ES.trans (Ex.of_same s3)).trans zL;have x4:H4 x=some (.ins C dx [("kinds",.ref kr),("apart",.ref e),("places",.ref D)]):=by rw[<-g1];exact np
 have d4:DN w H4 D [] 0:=d3.tk (λb ys h=>zL.at (ux h (s3 _ _ x2) (by intro z;cases z)) h) (zL.at BW d3.obj);clear g1;have M4:FlM H4 fl M:=⟨sK.at (ux hM.1 hx (by intro z;cases z)) hM.1,hM.2⟩;refine(mz _ rfl pz _ _ _ ⟨rfl,rfl,SqT.of (sK.at npx hpz),ng (j:=0) rfl,(nq fl M ⟨rfl,M4,λol uN H5 s5 pF jV qP=>?_⟩)⟩);have lo:=qP.length;rw[ah]at lo;have rO:=yq M (M.h*M.w);have d5:=d4.same s5;have x5:=s5 _ _ x4;have GP:ol≠D:=λz=>by rw[z,d4.obj]at pF;cases pF
 have Ep:=Bn M (M.h*M.w);refine⟨ol,rfl,⟨_,SqL.of jV⟩,?_⟩;refine ar5 (xs:=uN) (λi σ' G=>∃(y2 y3:Option V)(xs:List KA)(ep:Nat),σ'=[some (.ref x),some (.ref pz),y2,y3]/\Ex [D] H5 G/\DN w G D xs ep/\PlX M ((oix M (M.h*M.w)).take i) xs) ?_ (λi σ' G h=>?_) (λi v pr σ' G hv At h=>?_) (λσ' G h=>?_)
 .exact(nw _ _ ([]) 0 ⟨rfl,Ex.refl _ _,d5,rfl,λi k h=>by rw[List.take_zero]at h;cases h⟩)
 .obtain⟨_,_,_,_,_,ex,_⟩:=h;exact SqL.of (ex.at GP jV)
 .obtain⟨y2,y3,xs,ep,rfl,ex,dn,px⟩:=h;have hi:=(ae.mp hv).1;obtain⟨d,hd,rd⟩:=qP.at hv;rw[au]at hd;obtain⟨k,hk,rfl⟩:=br.mp hd;obtain⟨ca,rfl,iO⟩:=xR rd;have Ao:ca≠D:=ux iO d5.obj (by intro z;cases z);generalize g1:upd G pr _=G1 at *;obtain⟨s1,e1⟩:=al At g1;clear g1;refine(n0 pr _ rfl (SqT.of e1) rfl _ _ rfl _ ⟨_,rfl,rfl,?_⟩);have xG:=s1 _ _ (ex.at (Ne.symm BW) x5);have EY:=s1 _ _ (ex.at Ao iO);have Ca:=px.1;rw[b8]at Ca;refine(nj _ rfl _ rfl x C dx (nq _ _ ⟨rfl,xG,cG.cl,cG.n3,rfl,(mz _ rfl D xs ep (cdx M k) ⟨ca,rfl,rfl,dn.same s1,kr2 EY,oe (by lia),λjN=>?_⟩)⟩));exact(nw _ _ _ jN ⟨rfl,ex.trans ((Ex.of_same s1).trans (Ex.upd (by simp))),(dn.same s1).put (kr2 EY) (oe (by lia)) _ jN,px.put dO.w1 hk Ep ca⟩)
 .obtain⟨y2,y3,xs,ep,rfl,ex,dn,px⟩:=h;rw[av (by lia)]at px;have xG:=ex.at (Ne.symm BW) x5;have lx:=px.1;refine(mz _ rfl x C dx _ ⟨_,rfl,xG,cG.cl,cG.n3,rfl,(oq D xs ep ⟨rfl,dn,λnl EA=>?_⟩)⟩);have nlx:nl≠x:=λz=>by rw[z,xG]at EA;cases EA
  refine aia (λi zs J=>Same G J/\zs.length=i/\∀(j k:Nat),j<i->(oix M (M.h*M.w))[j]?=some k->∃a,zs[j]?=some (.ref a)/\a≠nl/\J a=some (.lst (xt xs ((k/M.w:Nat):Int) ((k % M.w:Nat):Int)))) ⟨Same.fresh _ EA,rfl,λj k h=>absurd h (Nat.not_lt_zero _)⟩ (λi zs J p=>dn.same p.1) (λi y zs J hy bA fQ p=>?_) (λzs J bA fQ p=>?_)
  .obtain⟨p1,bY,hz⟩:=p;have hi:=(ae.mp hy).1;obtain⟨k,hk⟩:∃k,(oix M (M.h*M.w))[i]?=some k:=⟨_,ab (by lia)⟩;obtain⟨ca,iO⟩:=px.2 i k hk;rw[hy]at iO;cases iO;obtain⟨ca',e',IA⟩:=xR (dn.keys _ (ak hy)).rep;cases e';refine⟨Agree.set (Agree.refl _) rfl,?_⟩;dsimp only[jH];refine um ?_;refine(mz _ rfl x C dx _ ⟨_,rfl,p1 _ _ xG,cG.cl,cG.n3,rfl,(mz _ rfl D ca xs ep (nq _ _ ⟨rfl,dn.same p1,p1 _ _ IA,λl J2 s2 yW hl=>?_⟩))⟩);have nln:l≠nl:=λz=>by rw[z,bA]at yW;cases yW
   refine qm (by lia) (s2 _ _ bA) fQ ⟨(p1.trans s2).new EA,by rw[bu,bY];rfl,λj k' hj dU=>?_⟩;by_cases Ic:j<i
   .obtain⟨a,ha,Cu,C7⟩:=hz j k' Ic dU;exact⟨a,by rw[cu (by lia)];exact ha,Cu,by rw[ow Cu];exact s2 _ _ C7⟩
   .have ej:j=i:=by lia
    subst ej;rw[hk]at dU;cases dU;exact⟨l,by rw[cf (by lia),bY,j8];rfl,nln,by rw[ow nln];exact hl⟩
  .obtain⟨p1,bY,hz⟩:=p;have xJ:=p1 _ _ xG;refine(mz _ rfl x C dx _ ⟨rfl,xJ,cG.cl,cG.n4,(by show 3<1000;decide),?_⟩);generalize g1:upd J x _=J1 at *;have sI:Ex [x] J J1:=by rw[<-g1];exact Ex.upd (by simp)
   have xJ1:J1 x=some (.ins C dx (fsG kr e D nl)):=by rw[<-g1];exact np
   clear g1;have tkJ:Tk J J1:=λb ys h=>sI.at (ux h xJ (by intro z;cases z)) h;have hDn:∀b o,b≠x->H b=some o->J1 b=some o:=λb o hb h=>sI.at hb (p1 _ _ (ex.at (λz=>by rw[z,show H D=none from (by cases hh:H D with|none=>rfl|some o=>have:=ES.at BW hh;rw[this]at hD;cases hD)]at h;cases h) (s5 _ _ (sK.at hb h))));refine q D nl xs ep zs J1 (λb o hb h=>hDn b o (by simpa using hb) h) xJ1 ⟨(dn.same p1).tk tkJ (sI.at BW (p1 _ _ dn.obj)),px,sI.at nlx bA,by lia,λi k hk=>?_⟩;have hi:=(ae.mp hk).1;obtain⟨a,ha,_,C7⟩:=hz i k (by lia) hk;exact⟨a,ha,sI.at (λz=>by rw[z,xJ]at C7;cases C7) C7⟩
end
end K22
namespace L3
open PySem PySem.Spec PyProof.Rows L2
theorem sub_one{z:Str}{c i:Nat}:(i+1<=z.length/\Builtin.Str.subAt z ⟨#[c]⟩ i=true)↔z.cps.toList[i]?=some c:=by
 unfold Builtin.Str.subAt;rw[beq_iff_eq];show(i+1<=z.cps.size/\z.cps.extract i (i+1)=#[c])↔_;rw[bm];constructor
 .rintro⟨h1,h2⟩;have:=congrArg (λa=>a[0]?) h2;simp only[Array.getElem?_extract]at this;rw[if_pos (by lia)]at this;simpa using this
 .intro h;have hi:i<z.cps.size:=by
   obtain⟨hi,_⟩:=bp.mp h;exact hi
  refine⟨by lia,?_⟩;apply Array.ext
  .simp;lia
  .intro j h1 h2;have hj:j=0:=by simp at h2;lia
   subst hj;obtain⟨_,e⟩:=bp.mp h;simpa using e
theorem an3(z:Str)(c:Nat):(∃i:Nat,Txt.find z ⟨#[c]⟩=((i:Nat):Int)/\z.cps.toList[i]?=some c/\(!(Builtin.Str.occurrences z ⟨#[c]⟩ 0 z.length 1).isEmpty)=true)\/(c∉z.cps.toList/\(!(Builtin.Str.occurrences z ⟨#[c]⟩ 0 z.length 1).isEmpty)=false):=by
 rcases StrLaws.occ_head z ⟨#[c]⟩ 1 (aq _)with ⟨h0,hn⟩|⟨i,r,h0,ha,_⟩
 .refine .inr ⟨λhm=>?_,by rw[h0];rfl⟩;obtain⟨i,hi⟩:=db hm;exact hn i (sub_one.mpr hi)
 .refine .inl ⟨i,?_,sub_one.mp ha,by rw[h0];rfl⟩;unfold Txt.find;rw[h0]
section
variable{X:Cx}
theorem asa:MtR X "str.find" (λx vs H Q=>∃z y:Str,x=.str z/\vs=[.str y]/\Q (.int (Txt.find z y)) H):=by intro aC s σ H x vs v us Q I rx rv h;obtain⟨z,y,rfl,rfl,q⟩:=h;obtain⟨t,rfl⟩:=rx;obtain⟨u,rfl,t',rfl⟩:=rv.one;exact SC.find (nq (.int _) H ⟨I.tok _,⟨_,rfl⟩,q⟩)
end
end L3
namespace K22
open PySem PyProof.Rows L2 L3
noncomputable def Dv:Option Int->V
 | none=>.non
 | some m=>.int m
noncomputable def ym(le:Int)(m:Option Int)(n:Int):Int:=match m with
 | none=>if le<n then le else n
 | some _=>n
def BndK(H:Hp)(aU:List V)(lms:List (Int×Option Int)):Prop:=aU.length=lms.length/\lms.length<=6/\∀(i:Nat) v q,aU[i]?=some v->lms[i]?=some q->∃b u0 u3 u4,v=.ref b/\H b=some (.tup [u0,.int q.1,Dv q.2,u3,u4])
theorem BndK.same{H H':Hp}{aU:List V}{lms:List (Int×Option Int)}(h:BndK H aU lms)(s:Same H H'):BndK H' aU lms:=⟨h.1,h.2.1,λi v m h1 h2=>by obtain⟨b,u0,u3,u4,e,hb⟩:=h.2.2 i v m h1 h2;exact(nw b u0 u3 u4 ⟨e,s _ _ hb⟩)⟩
theorem aqv{l:List Nat}{c n:Nat}(h:l.length=n)(hc:∀x∈l,x=c):l=kq n c:=by rw[<-h];exact List.eq_replicate_iff.mpr ⟨rfl,hc⟩
theorem avr(z:Str)(c:Nat):(!(Builtin.Str.occurrences z ⟨#[c]⟩ 0 z.length 1).isEmpty)=z.cps.toList.contains c:=by
 rcases an3 z c with ⟨i,_,hi,e⟩|⟨hn,e⟩
 .rw[e];exact(kh.mpr (ak hi)).symm
 .rw[e];exact(f9.mpr λh=>hn (kh.mp h)).symm
theorem aix{z:Str}{c:Nat}(hm:c∈z.cps.toList):∃i:Nat,Txt.find z ⟨#[c]⟩=((i:Nat):Int)/\z.cps.toList[i]?=some c/\∀j,j<i->z.cps.toList[j]?≠some c:=by
 rcases StrLaws.occ_head z ⟨#[c]⟩ 1 (aq _)with ⟨h0,hn⟩|⟨i,r,h0,ha,hf⟩
 .obtain⟨i,hi⟩:=db hm;exact absurd (sub_one.mpr hi) (hn i)
 .refine⟨i,?_,sub_one.mp ha,λj hj e=>hf j hj (sub_one.mpr e)⟩;unfold Txt.find;rw[h0]
seal L2.PE L2.PT L2.PW L2.PA L2.PS L2.PSs L2.PG L2.PGs L2.PI L2.PO
section
variable{P:aI}{w:aK}{K:aj}{mg:Str->Option aA}{base:Heap}{f:aE}{fd:aP}{C:aE}
theorem eU:ba "?" = ⟨#[63]⟩:=by decide +kernel
def Kd:Sp:=λvs H Q _=>∃(s:aE)(z:Str)(v:V),vs=[.ref s]/\H s=some (.tup [.str z,v])/\63∈z.cps.toList/\∀i:Nat,z.cps.toList[i]?=some 63->(∀j,j<i->z.cps.toList[j]?≠some 63)->Q (.int (i:Nat)) H
theorem axu:nu ["state"] ["state"] (nh JS):={}
theorem asz(gU:GS mg "UNDECIDED" "?")(F:Fun K "first_undecided" "first_undecided" JS f fd):qt P w K mg base CX0 1 f fd ["state"] Kd:=by
 refine F.ok (k:=0) axu (λvs H Q E h=>?_) (λbN A outer s H vs Q E hr h=>?_)
 .obtain⟨_,_,_,rfl,_⟩:=h;rfl
 obtain⟨a,z,v,rfl,ha,hm,q⟩:=h;refine⟨_,(m8 (nv (wq mm PySem.F.slot_str_find PySem.F.type_str_find asa (ny om (pv 0) mx (λ_ _=>rfl)) (m9 (qu gU rfl) mr)))),?_⟩;refine(mz _ rfl a _ _ _ ⟨rfl,rfl,SqT.of ha,ng (j:=0) rfl,rfl,(nq z _ ⟨rfl,rfl,?_⟩)⟩);rw[eU];obtain⟨i,e,hi,hf⟩:=aix hm;rw[e];exact q i hi hf
def at5:Sp:=λvs H Q _=>∃(s:aE)(z:Str)(v:V),vs=[.ref s]/\H s=some (.tup [.str z,v])/\Q (.bl (!z.cps.toList.contains 63)) H
theorem ayg:nu ["state"] ["state"] (nh Ji):={}
theorem aut(gU:GS mg "UNDECIDED" "?")(F:Fun K "ended" "ended" Ji f fd):qt P w K mg base CX0 1 f fd ["state"] at5:=by
 refine F.ok (k:=0) ayg (λvs H Q E h=>?_) (λbN A outer s H vs Q E hr h=>?_)
 .obtain⟨_,_,_,rfl,_⟩:=h;rfl
 obtain⟨a,z,v,rfl,ha,q⟩:=h;refine⟨_,(m8 (nv (su ae4 (qu gU rfl) (ny om (pv 0) mx (λ_ _=>rfl)) rfl))),?_⟩;refine(mz _ rfl a _ _ _ ⟨rfl,rfl,SqT.of ha,ng (j:=0) rfl,(nq _ z ⟨rfl,rfl,?_⟩)⟩);rw[eU,avr];exact q
def Kq:Sp:=λvs H Q _=>∃(b:aE)(u0 u3 u4:V)(le n:Int)(m:Option Int),vs=[.ref b,.int n]/\H b=some (.tup [u0,.int le,Dv m,u3,u4])/\Q (.int (ym le m n)) H
theorem azh:nu ["kind","laid"] ["kind","laid"] (nh JO):={}
theorem atx(B:∀x∈v7,mg x=none)(F:Fun K "used_of" "used_of" JO f fd):qt P w K mg base CX0 1 f fd ["kind","laid"] Kq:=by
 refine F.ok (k:=0) azh (λvs H Q E h=>?_) (λbN A outer s H vs Q E hr h=>?_)
 .obtain⟨_,_,_,_,_,_,_,rfl,_⟩:=h;rfl
 obtain⟨b,u0,u3,u4,le,n,m,rfl,hb,q⟩:=h;refine⟨_,(m8 (nv (Lv (oy DK (ny om (pv 0) mx (λ_ _=>rfl)) sx (pf _)) (rg (ajp rfl) rfl (B "min" (by decide)) boot_min (m9 (pv 1) (m9 (ny om (pv 0) mx (λ_ _=>rfl)) mr))) (pv 1)))),?_⟩;refine(mz _ rfl b _ _ _ ⟨rfl,rfl,SqT.of hb,ng (j:=2) rfl,rfl,_,rfl,?_⟩);cases m with
 | none=>
  refine um ?_;exact(nj _ rfl _ rfl b _ _ (vh _ rfl rfl (SqT.of hb) (ng (j:=1) rfl) _ _ ⟨rfl,q⟩))
 | some m=>
  refine jG ?_;exact⟨_,rfl,q⟩
def awi:Sp:=λvs H Q _=>∃(pz fl kr:aE)(e:V)(M:Mat)(aU:List V) (lms:List (Int×Option Int)),vs=[.ref pz]/\H pz=some (.tup [.ref fl,.ref kr,e])/\FlM H fl M/\H kr=some (.tup aU)/\BndK H aU lms/\
 ∀(r u:aE)(z:Str)(H':Hp),Same H H'->z.cps.toList=kq (oix M (M.h*M.w)).length 63->H' r=some (.tup [.str z,.ref u])->H' u=some (.tup (lms.map λq=>V.int (ym q.1 q.2 0)))->Q (.ref r) H'
theorem scBeg:nu ["puzzle","marks"] ["puzzle"] (nh JB):={}
theorem awh(B:∀x∈v7,mg x=none)(gU:GS mg "UNDECIDED" "?")(DZ:Fn P w K mg base "open_cells" 2 ["floor"] AW)(zW:Fn P w K mg base "used_of" 1 ["kind","laid"] Kq)(F:Fun K "begin" "begin" JB f fd):qt P w K mg base CX0 3 f fd ["puzzle"] awi:=by
 refine F.ok (k:=2) scBeg (λvs H Q E h=>?_) (λbN A outer s H vs Q E hr h=>?_)
 .obtain⟨_,_,_,_,_,_,_,rfl,_⟩:=h;rfl
 obtain⟨pz,fl,kr,e,M,aU,lms,rfl,hpz,hM,mU,hK,q⟩:=h;have yZ:M.h*M.w<=64:=ky hM.2.h8 hM.2.w8;have jV:=yq M (M.h*M.w);refine⟨_,(mw (n8 (i:=1) scBeg.nd rfl (Or.inl rfl) (ph ash (qu gU rfl) (rg qd rfl (B "len" (by decide)) ip (m9 (oj DZ hr (by decide) rfl (m9 (ny om (pv 0) mx (λ_ _=>rfl)) mr)) mr))))
  (m8 (nv (oh (m9 (pv 1) (m9 (yp p6 rfl (B "tuple" (by decide)) cZ (m9 (o9 ["kind"] [none] rfl rfl (by decide +kernel) (by decide +kernel) rfl rfl (Bl (ny om (pv 0) mx (λ_ _=>rfl))) (λ_=>(nc (i:=0) (show(["kind"]:List PySem.Str).Nodup by decide +kernel) rfl (Or.inl rfl))) (λ_=>qh) (λ_=>(oj zW hr (by decide) rfl (m9 (pv 0) (m9 mx mr))))) mr)) mr)))))),?_⟩
 refine(mz _ rfl pz _ _ _ ⟨rfl,rfl,SqT.of hpz,ng (j:=0) rfl,(nq fl M ⟨rfl,hM,λol uN H1 s1 pF HF rep=>?_⟩)⟩);have lo:=rep.length;rw[ah]at lo;have l1:(ba "?").length=1:=by decide +kernel
 have c1:(ba "?").cps.toList=[63]:=by decide +kernel
 refine(xk ol uN rfl (.inl (SqL.of HF)) _ _ ⟨rfl,rfl,by lia,by lia,(by rw[l1];decide),λz hz hzc=>?_⟩);rw[l1,Nat.one_mul,cg,lo]at hz;rw[c1]at hzc;have ez:z.cps.toList=kq (oix M (M.h*M.w)).length 63:=aqv (by rw[ax];exact hz) λx hx=>ao.mp (hzc x hx);refine(nj _ rfl _ rfl pz _ _ ⟨_,rfl,rfl,SqT.of (s1 _ _ hpz),ng (j:=1) rfl,kr,rfl,⟨_,SqT.of (s1 _ _ mU)⟩,λD hD=>?_⟩);have lk:=hK.1;refine F0 (xs:=aU) (λi zs G=>Same H1 G/\zs=(lms.take i).map λq=>V.int (ym q.1 q.2 0)) ⟨Same.fresh _ hD,rfl⟩ (λi zs G p=>SqT.of (p.1 _ _ (s1 _ _ mU))) (λi x zs G hx hi bA bY p=>?_) (λzs G bA bY p=>?_)
 .obtain⟨p1,rfl⟩:=p;obtain⟨lm,kF⟩:∃lm,lms[i]?=some lm:=⟨_,ab (by lia)⟩;obtain⟨b,u0,u3,u4,rfl,hb⟩:=hK.2.2 i x lm hx kF;have h6:=hK.2.1;refine⟨Agree.set (Agree.refl _) rfl,?_⟩;dsimp only[jH];refine um ?_;refine(mz _ rfl b u0 u3 u4 (oq lm.1 0 lm.2 ⟨rfl,p1 _ _ (s1 _ _ hb),qm (by lia) bA bY ⟨p1.new hD,?_⟩⟩));exact(ou (λq:Int×Option Int=>V.int (ym q.1 q.2 0)) kF).symm
 .obtain⟨p1,rfl⟩:=p;rw[av (by lia)]at bA;refine(nq D _ ⟨rfl,.inl ⟨SqL.of bA,λu hu=>?_⟩⟩);generalize g1:upd G u _=G1 at *;obtain⟨s2,e2⟩:=al hu g1;clear g1;refine⟨sZ2,λr gZ=>?_⟩;generalize g1:upd G1 r _=G2 at *;obtain⟨s3,e3⟩:=al gZ g1;exact q r u z G2 (((s1.trans p1).trans s2).trans s3) ez e3 (s3 _ _ e2)
end
noncomputable abbrev Sg:=Nat×Nat×Nat
noncomputable def sgD(s:Sg):PyData:=.tuple [.int (s.1:Nat),.int (s.2.1:Nat),.str ⟨#[s.2.2]⟩]
noncomputable def plD(ss:List Sg)(n:Int):PyData:=.tuple [.tuple (ss.map sgD),.int n]
noncomputable def cix(M:Mat)(s:Sg):Nat:=(oix M (M.h*M.w)).idxOf (s.1*M.w+s.2.1)
noncomputable def cvS(M:Mat)(s:Sg):PyData:=.tuple [.int (cix M s:Nat),.str ⟨#[s.2.2]⟩]
def OpS(M:Mat)(s:Sg):Prop:=s.1<M.h/\s.2.1<M.w/\M.g s.1 s.2.1≠35
theorem vc{M:Mat}{s:Sg}(h:OpS M s):(oix M (M.h*M.w))[cix M s]?=some (s.1*M.w+s.2.1):=by
 obtain⟨h1,h2,h3⟩:=h;have hm:s.1*M.w+s.2.1∈oix M (M.h*M.w):=by
  unfold oix;refine io.mpr ⟨fh.mpr ?_,?_⟩
  .have:(s.1+1)*M.w<=M.h*M.w:=Nat.mul_le_mul_right _ h1;rw[Nat.add_mul,Nat.one_mul]at this;lia
  .rw[xx h2,wx h2];simpa using h3
 have hl:=List.idxOf_lt_length_iff.mpr hm;unfold cix;rw[ab hl,List.getElem_idxOf hl]
theorem DI{M:Mat}{r c:Nat}(h:c<M.w):cdx M (r*M.w+c)=clD (r:Nat) (c:Nat):=by unfold cdx;rw[xx h,wx h]
theorem PlX.val{M:Mat}(hw:0<M.w){oc:List Nat}{xs:List KA}(h:PlX M oc xs)(nd:oc.Nodup){i k:Nat}(hk:oc[i]?=some k):sk xs (cdx M k)=some (.int (i:Nat)):=by
 obtain⟨a,ha⟩:=h.2 i k hk;have hs:(sk xs (cdx M k)).isSome=true:=valN_mem.mpr (bf.mpr ⟨_,ak ha,rfl⟩);unfold sk at hs⊢;cases hf:xs.find? (λx=>decide (x.1=cdx M k))with
 | none=>rw[hf]at hs;cases hs
 | some y=>
  have hy:=List.mem_of_find?_eq_some hf;have hp:y.1=cdx M k:=of_decide_eq_true (List.find?_some (p:=λx:KA=>decide (x.1=cdx M k)) hf);obtain⟨j,hj⟩:=db hy;have jB:=(ae.mp hj).1;have bD:=h.1;obtain⟨kj,CD⟩:∃kj,oc[j]?=some kj:=⟨_,ab (by lia)⟩;obtain⟨a',EG⟩:=h.2 j kj CD;rw[hj]at EG;cases EG;have e2:=DQ hw hp;subst e2;have:=(List.getElem?_inj (by lia) nd).mp (CD.trans hk.symm);subst this;rfl
section
variable{P:aI}{w:aK}{K:aj}{mg:Str->Option aA}{base:Heap}{f:aE}{fd:aP}{C:aE}
noncomputable def chD(a:Nat):PyData:=.str ⟨#[a]⟩
noncomputable def prB(ads:List PyData)(a b:Nat):Bool:=ads.any λe=>bw e (.tuple [chD a,chD b])
noncomputable def zR(ads:List PyData)(a b:Nat):Bool:=prB ads (lD a b) (max a b)
theorem aiy{a b:Nat}{es:List PyData}(pe:es.Perm [chD a,chD b])(so:es.Pairwise (λx y=>ltX y x=false)):es=[chD (lD a b),chD (max a b)]:=by
 have hl:=pe.length_eq
 match es,hl with
 | [x,y],_=>
  have hx:=pe.mem_iff.mp (aw (a:=x) (l:=[y]));have lX:∀c d:Nat,ltX (chD d) (chD c)=false->c<=d:=λc d h=>by have h:=of_decide_eq_false h;exact Nat.le_of_not_lt λz=>h (List.Lex.rel z)
  have h1:=(ij.mp so).1 y (ao.mpr rfl);rcases bb.mp hx with rfl|hx
  .have hy:y=chD b:=List.singleton_perm_singleton.mp ((List.perm_cons _).mp pe);subst hy;have:=lX _ _ h1;rw[fk this,Nat.max_eq_right this]
  .have hx:=ao.mp hx;subst hx;have hy:y=chD a:=List.singleton_perm_singleton.mp ((List.perm_cons _).mp (pe.trans (List.Perm.swap _ _ _)));subst hy;have:=lX _ _ h1;rw[Nat.min_eq_right this,Nat.max_eq_left this]
def av1:Sp:=λvs H Q _=>∃(e:aE)(a b:Nat)(bT:List V)(ads:List PyData),vs=[.ref e,chV a,chV b]/\a<128/\b<128/\H e=some (.tup bT)/\RepAll H ads bT/\∀(H':Hp),Same H H'->Q (.bl (zR ads a b)) H'
theorem axv:nu ["apart","sign","other"] ["apart","sign","other"] (nh Jx):={}
theorem atb(B:∀x∈v7,mg x=none)(F:Fun K "is_kept_apart" "is_kept_apart" Jx f fd):qt P w K mg base CX0 1 f fd ["apart","sign","other"] av1:=by
 refine F.ok (k:=0) axv (λvs H Q E h=>?_) (λbN A outer s H vs Q E hr h=>?_)
 .obtain⟨_,_,_,_,_,rfl,_⟩:=h;rfl
 obtain⟨e,a,b,bT,ads,rfl,ha,hb,he,rep,q⟩:=h;have hu:=hr.units;refine⟨_,(m8 (nv (su (DC hu) (yp p6 rfl (B "tuple" (by decide)) cZ (m9 (rg aex rfl (B "sorted" (by decide)) lN (m9 (qa (m9 (pv 1) (m9 (pv 2) mr))) mr)) mr)) (pv 0) rfl))),?_⟩;refine(qc _ rfl _ ⟨rfl,sZ2,λl hl=>?_⟩);generalize g1:upd H l _=H1 at *;obtain⟨s1,e1⟩:=al hl g1;clear g1;refine(oq l _ ([.str ⟨#[a]⟩,.str ⟨#[b]⟩]) ⟨rfl,e1,(xk _ _ rfl ⟨rfl,ok1 ha⟩ _ _ ⟨rfl,⟨rfl,ok1 hb⟩,rfl⟩),(λd hd=>?_),λl2 ys es kG pe so re=>?_⟩)
 .simp only[bb,jc,or_false]at hd;rcases hd with rfl|rfl<;>exact⟨_,rfl⟩
 generalize g1:upd H1 l2 _=H2 at *;obtain⟨s2,e2⟩:=al kG g1;clear g1;refine(nq l2 ys ⟨rfl,.inl ⟨SqL.of e2,λt ht=>?_⟩⟩);generalize g1:upd H2 t _=H3 at *;obtain⟨s3,e3⟩:=al ht g1;clear g1;have qN:=(s1.trans s2).trans s3;cases aiy pe so;exact(mz _ rfl (.tuple _) e bT ads ⟨(nq t ys ⟨rfl,e3,re.same s3⟩),rfl,.inr (qN _ _ he),rep.same qN,(by simp[g0,bv,chD]),q H3 qN⟩)
def Kl(w:aK)(C:aE):Sp:=λvs H Q _=>∃(g dx kr e D nl p:aE)(M:Mat)(xs:List KA)(ep:Nat)(dR:List V)(ss:List Sg)(n:Int),vs=[.ref g,.ref p]/\H g=some (.ins C dx (fsG kr e D nl))/\GrF w H D nl M xs ep dR/\0<M.w/\Rep H (plD ss n) (.ref p)/\(∀s∈ss,OpS M s/\s.2.2<128)/\ss.length<=6/\
 ∀(l:aE)(ys:List V)(H':Hp),Same H H'->H l=none->H' l=some (.lst ys)->RepAll H' (ss.map (cvS M)) ys->Q (.ref l) H'
theorem axc:nu ["ground","placement"] ["ground","placement"] (nh Jn):={}
theorem av9(cG:ClG K C)(F:Fun K "covers" "covers" Jn f fd):qt P w K mg base CX0 1 f fd ["ground","placement"] (Kl w C):=by
 refine F.ok (k:=0) axc (λvs H Q E h=>?_) (λbN A outer s H vs Q E hr h=>?_)
 .obtain⟨_,_,_,_,_,_,_,_,_,_,_,_,_,rfl,_⟩:=h;rfl
 obtain⟨g,dx,kr,e,D,nl,p,M,xs,ep,dR,ss,n,rfl,hg,hG,hw,hp,mO,h6,q⟩:=h;have hu:=hr.units;obtain⟨pp,An,uW,kD,y0,t0,rfl,⟨b,qF,rfl,hb,fW⟩,_⟩:=hp;cases uW;have lb:=fW.length;rw[ah]at lb;refine⟨_,(m8 (nv (o9 ["row","column","sign","ground"] [none,none,none,some 0] rfl rfl (by decide +kernel) (by decide +kernel) rfl rfl (Bl (ny om (pv 1) mx (λ_ _=>rfl))) (λ_=>(tj (n:=3) rfl (ni (nc (i:=0) (show(["row","column","sign","ground"]:List PySem.Str).Nodup by decide +kernel) rfl (Or.inl rfl)) (ni (nc (i:=1) (show(["row","column","sign","ground"]:List PySem.Str).Nodup by decide +kernel) rfl (Or.inl rfl)) (ni (nc (i:=2) (show(["row","column","sign","ground"]:List PySem.Str).Nodup by decide +kernel) rfl (Or.inl rfl)) p5))))) (λ_=>qh) (λ_=>(oh (m9 (ah4 (gd (gi (by decide) _) hu) (KZ (pv 3) rfl) (oh (m9 (pv 0) (m9 (pv 1) mr))) (λ_ _=>rfl)) (m9 (pv 2) mr))))))),?_⟩;refine(mz _ rfl p _ _ _ ⟨rfl,rfl,SqT.of kD,ng (j:=0) rfl,b,rfl,⟨_,SqT.of hb⟩,λL hL=>?_⟩);have imC:∀l:List Sg,pq (l.map (cvS M))=true:=λl=>qg λd hd=>by obtain⟨s,_,rfl⟩:=bf.mp hd;rfl
 refine F0 (xs:=qF) (λi zs G=>Same H G/\RepAll G ((ss.take i).map (cvS M)) zs) ⟨Same.fresh _ hL,rfl⟩ (λi zs G p=>SqT.of (p.1 _ _ hb)) (λi x zs G hx hi bA bY p=>?_) (λzs G bA bY p=>?_)
 .obtain⟨p1,p2⟩:=p;obtain⟨d,hd,rd⟩:=fW.at hx;rw[au]at hd;obtain⟨⟨r,c,k⟩,hs,rfl⟩:=br.mp hd;obtain⟨b',rfl,eY,hok⟩:=sf rd;obtain⟨ho,hk⟩:=mO _ (ak hs);have hv:=hG.px.val hw (Bn M _) (vc ho);rw[DI ho.2.1]at hv;refine(n0 b' _ rfl (SqT.of (p1 _ _ eY)) rfl _ _ rfl _ (o8 _ rfl _ _ ⟨rfl,rfl,?_⟩));refine⟨Agree.set (Agree.set (Agree.set (Agree.refl _) rfl) rfl) rfl,?_⟩;dsimp only[jH];refine um ?_;refine(mz _ rfl g C dx _ ⟨_,rfl,p1 _ _ hg,cG.cl,cG.n3,rfl,(qc _ rfl _ ⟨rfl,sZ2,λt ht=>?_⟩)⟩);generalize g1:upd G t _=G1 at *;obtain⟨s1,e1⟩:=al ht g1;clear g1;refine(my D xs ep (clD (r:Nat) (c:Nat)) t ⟨_,rfl,rfl,hG.dn.same (p1.trans s1),kr2 e1,hv,_,rfl,sZ2,λu hu0=>?_⟩);generalize g1:upd G1 u _=G2 at *;obtain⟨s2,e2⟩:=al hu0 g1;clear g1;have gO:=(s1.trans s2) _ _ bA;refine qm (by lia) gO bY ⟨(p1.trans (s1.trans s2)).new hL,?_⟩;have im:=imC (ss.take (i+1));rw[ou (cvS M) hs]at im⊢;exact((p2.same (s1.trans s2)).snoc (show Rep G2 (cvS M (r,c,k)) (.ref u)from (pj u _ rfl e2 _ _ rfl rfl _ ⟨_,rfl,⟨rfl,ok1 hk⟩,rfl⟩))).tk (Tk.lst gO) im
 .obtain⟨p1,p2⟩:=p;rw[av (by lia)]at p2;exact q L zs G p1 hL bA p2
end
noncomputable def ocn(M:Mat):List Nat:=oix M (M.h*M.w)
noncomputable def cell(M:Mat)(k:Nat):Int×Int:=(((k/M.w:Nat):Int),((k % M.w:Nat):Int))
noncomputable def nb(M:Mat)(i:Nat):List Nat:=(cb (ocn M).length).filter λj=>(match (ocn M)[i]?,(ocn M)[j]? with|some k,some k'=>(mD (cell M k).1 (cell M k).2).contains (cell M k')|_,_=>false)
theorem arz{a b c d:Int}(h:(a,b)∈mD c d):(c,d)∈mD a b:=by
 have y:∀x:Int,x-1+1=x:=λx=>Int.sub_add_cancel x 1;have z:∀x:Int,x+1-1=x:=λx=>Int.add_sub_cancel x 1;unfold mD at h⊢;rcases h with _|⟨_,_|⟨_,_|⟨_,_|⟨_,h⟩⟩⟩⟩
 .rw[y];exact .tail _ (.tail _ (.tail _ (.head _)))
 .rw[y];exact .tail _ (.tail _ (.head _))
 .rw[z];exact .tail _ (.head _)
 .rw[z];exact .head _
 .cases h
theorem mem_nb{M:Mat}{i j:Nat}:j∈nb M i↔∃k k',(ocn M)[i]?=some k/\(ocn M)[j]?=some k'/\cell M k'∈mD (cell M k).1 (cell M k).2:=by
 unfold nb;rw[io,fh];constructor
 .rintro⟨_,h⟩;cases e1:(ocn M)[i]? with
  | none=>rw[e1]at h;cases h
  | some k=>
   cases e2:(ocn M)[j]? with
   | none=>rw[e1,e2]at h;cases h
   | some k'=>
    rw[e1,e2]at h;exact(nq k k' ⟨rfl,rfl,kh.mp h⟩)
 .rintro⟨k,k',e1,e2,h⟩;refine⟨(ae.mp e2).1,?_⟩;rw[e1,e2];exact kh.mpr h
theorem apd{M:Mat}{i j:Nat}(h:j∈nb M i):i∈nb M j:=by obtain⟨k,k',e1,e2,h⟩:=mem_nb.mp h;exact mem_nb.mpr (nq k' k ⟨e2,e1,arz h⟩)
theorem Lk{M:Mat}(hw:0<M.w){xs:List KA}(h:PlX M (ocn M) xs){i k:Nat}(hk:(ocn M)[i]?=some k)(j:Nat):V.int (j:Nat)∈xt xs ((k/M.w:Nat):Int) ((k % M.w:Nat):Int)↔j∈nb M i:=by
 have nd:(ocn M).Nodup:=Bn M _;rw[mem_nb];unfold xt;rw[List.mem_filterMap];constructor
 .rintro⟨p,hp,hv⟩;obtain⟨x,hx,e1,e2⟩:∃x∈xs,x.1=cD p/\x.2.2=V.int (j:Nat):=by
   unfold sk at hv;obtain⟨x,hx,e⟩:=br.mp hv;exact⟨x,List.mem_of_find?_eq_some hx,of_decide_eq_true (List.find?_some (p:=λx:KA=>decide (x.1=cD p)) hx),e⟩
  obtain⟨j',iU⟩:=db hx;have jB:=(ae.mp iU).1;rw[h.1]at jB;obtain⟨a,ha⟩:=h.2 j' _ (ab jB);rw[iU]at ha;cases ha;have ej:j'=j:=by
   have e2:V.int (j':Nat)=V.int (j:Nat):=e2;injection e2 with e2
   lia
  subst ej;refine(nq k _ ⟨hk,ab jB,?_⟩);have e1:cdx M (ocn M)[j']=cD p:=e1;have ep:p=cell M (ocn M)[j']:=by
   unfold cdx cD clD at e1;injection e1 with e1
   injection e1 with a1 e1
   injection e1 with a2 _
   injection a1 with a1
   injection a2 with a2
   exact Prod.ext a1.symm a2.symm
  rw[<-ep];exact hp
 .rintro⟨k0,k',e1,e2,hm⟩;rw[hk]at e1;cases e1;exact⟨cell M k',hm,h.val hw nd e2⟩
noncomputable abbrev Kn:=Nat->Option Nat
noncomputable def tch(M:Mat)(kn:Kn)(i:Nat):Bool:=(nb M i).any λj=>(kn j).isNone
noncomputable def mk1(M:Mat)(kn:Kn)(i:Nat):Nat:=match kn i with
 | none=>63
 | some c=>if tch M kn i=true then c else 45
noncomputable def mkL(M:Mat)(kn:Kn):List Nat:=(cb (ocn M).length).map (mk1 M kn)
theorem ua{M:Mat}{kn:Kn}{i:Nat}(h:i<(ocn M).length):(mkL M kn)[i]?=some (mk1 M kn i):=by unfold mkL;rw[au,jw h];rfl
theorem vy(M:Mat)(kn:Kn):(mkL M kn).length=(ocn M).length:=by unfold mkL;simp
def Sgn(kn:Kn):Prop:=∀i c,kn i=some c->c<128/\c≠63
theorem zf{M:Mat}{kn:Kn}(h:Sgn kn)(i:Nat):mk1 M kn i=63↔kn i=none:=by
 unfold mk1;cases e:kn i with
 | none=>simp
 | some c=>
  have:=(h i c e).2;dsimp only;split
  .simp[this]
  .simp
noncomputable def knS(kn:Kn)(js:List (Nat×Nat)):Kn:=λi=>match js.find? λq=>q.1==i with
 | some q=>some q.2
 | none=>kn i
noncomputable def oJ(l:List Nat)(js:List (Nat×Nat)):List Nat:=js.foldl (λl q=>l.set q.1 q.2) l
theorem ahj(l:List Nat)(js:List (Nat×Nat)):(oJ l js).length=l.length:=by
 unfold oJ;induction js generalizing l with
 | nil=>rfl
 | cons q js ih=>rw[List.foldl_cons,ih,List.length_set]
theorem akd(l:List Nat)(js:List (Nat×Nat))(q:Nat×Nat):oJ l (js++[q])=(oJ l js).set q.1 q.2:=by unfold oJ;rw[List.foldl_append];rfl
theorem Ge{l:List Nat}{js:List (Nat×Nat)}{i:Nat}(h:i∉js.map (·.1)):(oJ l js)[i]?=l[i]?:=by
 unfold oJ;induction js generalizing l with
 | nil=>rfl
 | cons q js ih=>
  rw[cy,bb,not_or]at h;rw[List.foldl_cons,ih h.2,List.getElem?_set,if_neg λz=>h.1 z.symm]
theorem ak2{l:List Nat}{js:List (Nat×Nat)}(nd:(js.map (·.1)).Nodup){q:Nat×Nat}(hq:q∈js)(hl:q.1<l.length):(oJ l js)[q.1]?=some q.2:=by
 induction js generalizing l with
 | nil=>cases hq
 | cons p js ih=>
  rw[cy,jh]at nd;show(oJ (l.set p.1 p.2) js)[q.1]?=_;rcases bb.mp hq with rfl|h
  .rw[Ge nd.1,List.getElem?_set,if_pos rfl,if_pos hl]
  .exact ih nd.2 h (by rw[List.length_set];exact hl)
theorem sn{kn:Kn}{js:List (Nat×Nat)}{i:Nat}(h:i∉js.map (·.1)):knS kn js i=kn i:=by unfold knS;have:js.find? (λq=>q.1==i)=none:=List.find?_eq_none.mpr λq hq e=>h (bf.mpr ⟨q,hq,by simpa using e⟩);rw[this]
theorem vp{kn:Kn}{js:List (Nat×Nat)}(nd:(js.map (·.1)).Nodup){q:Nat×Nat}(hq:q∈js):knS kn js q.1=some q.2:=by
 unfold knS;induction js with
 | nil=>cases hq
 | cons p js ih=>
  rw[cy,jh]at nd;rcases bb.mp hq with rfl|h
  .simp
  .have eO:(p.1==q.1)=false:=beq_false_of_ne λz=>nd.1 (z▸bf.mpr ⟨q,h,rfl⟩);rw[iq,eO];exact ih nd.2 h
theorem anr{M:Mat}{kn:Kn}{js:List (Nat×Nat)}{i:Nat}(nd:(js.map (·.1)).Nodup)(h:tch M (knS kn js) i=true):tch M kn i=true:=by
 obtain⟨j,hj,e⟩:=gq.mp h;refine gq.mpr ⟨j,hj,?_⟩;by_cases hm:j∈js.map (·.1)
 .obtain⟨q,hq,rfl⟩:=bf.mp hm;rw[vp nd hq]at e;cases e
 .rw[sn hm]at e;exact e
structure Dcd(M:Mat)(kn:Kn)(js:List (Nat×Nat)):Prop where
 nd:(js.map (·.1)).Nodup
 lt:∀q∈js,q.1<(ocn M).length/\q.2<128/\q.2≠63
 un:∀q∈js,kn q.1=none
theorem Dcd.sgn{M:Mat}{kn:Kn}{js:List (Nat×Nat)}(h:Dcd M kn js)(s:Sgn kn):Sgn (knS kn js):=λi c e=>by
 by_cases hm:i∈js.map (·.1)
 .obtain⟨q,hq,rfl⟩:=bf.mp hm;rw[vp h.nd hq]at e;cases e;exact(h.lt q hq).2
 .rw[sn hm]at e;exact s i c e
def prc(M:Mat)(js:List (Nat×Nat))(i:Nat):Prop:=∃q∈js,i=q.1\/i∈nb M q.1
theorem amy{M:Mat}{kn:Kn}{js:List (Nat×Nat)}(h:Dcd M kn js){i c:Nat}(hi:i<(ocn M).length)(e:knS kn js i=some c)(t:tch M (knS kn js) i=true):(oJ (mkL M kn) js)[i]?=some c:=by
 by_cases hm:i∈js.map (·.1)
 .obtain⟨q,hq,rfl⟩:=bf.mp hm;rw[vp h.nd hq]at e;rw[ak2 h.nd hq (by rw[vy];exact hi)];exact e
 .rw[sn hm]at e;rw[Ge hm,ua hi];unfold mk1;rw[e];dsimp only;rw[if_pos (anr h.nd t)]
theorem au6{M:Mat}{kn:Kn}{js:List (Nat×Nat)}(h:Dcd M kn js){i:Nat}(hi:i<(ocn M).length)(hp:¬prc M js i):(oJ (mkL M kn) js)[i]?=some (mk1 M (knS kn js) i):=by
 have hm:i∉js.map (·.1):=λz=>by obtain⟨q,hq,e⟩:=bf.mp z;exact hp ⟨q,hq,.inl e.symm⟩
 have ht:tch M (knS kn js) i=tch M kn i:=by
  have key:∀j∈nb M i,knS kn js j=kn j:=λj hj=>sn λz=>by obtain⟨q,hq,rfl⟩:=bf.mp z;exact hp ⟨q,hq,.inr (apd hj)⟩
  unfold tch;rw[gc,gq,gq];exact⟨λ⟨j,hj,e⟩=>⟨j,hj,by rw[<-key j hj];exact e⟩,λ⟨j,hj,e⟩=>⟨j,hj,by rw[key j hj];exact e⟩⟩
 rw[Ge hm,ua hi];unfold mk1;rw[sn hm,ht]
theorem ays{M:Mat}{kn:Kn}{js:List (Nat×Nat)}(h:Dcd M kn js)(s:Sgn kn){i:Nat}(hi:i<(ocn M).length):(oJ (mkL M kn) js)[i]?=some 63↔knS kn js i=none:=by
 by_cases hm:i∈js.map (·.1)
 .obtain⟨q,hq,rfl⟩:=bf.mp hm;rw[vp h.nd hq,ak2 h.nd hq (by rw[vy];exact hi)];have:=(h.lt q hq).2.2;simp[this]
 .rw[sn hm,Ge hm,ua hi,<-zf (M:=M) s i];simp
def Half(M:Mat)(kn:Kn)(js:List (Nat×Nat))(Pr:Nat->Prop)(cs:List Nat):Prop:=cs.length=(ocn M).length/\∀i,i<(ocn M).length->(Pr i->cs[i]?=some (mk1 M (knS kn js) i))/\(¬Pr i->cs[i]?=(oJ (mkL M kn) js)[i]?)
theorem Half.congr{M:Mat}{kn:Kn}{js:List (Nat×Nat)}{Pr xS:Nat->Prop}{cs:List Nat}(h:Half M kn js Pr cs)(e:∀i,Pr i↔xS i):Half M kn js xS cs:=⟨h.1,λi hi=>⟨λp=>(h.2 i hi).1 ((e i).mpr p),λp=>(h.2 i hi).2 λz=>p ((e i).mp z)⟩⟩
theorem Half.q{M:Mat}{kn:Kn}{js:List (Nat×Nat)}{Pr:Nat->Prop}{cs:List Nat}(h:Half M kn js Pr cs)(d:Dcd M kn js)(s:Sgn kn){i:Nat}(hi:i<(ocn M).length):cs[i]?=some 63↔knS kn js i=none:=by
 by_cases hp:Pr i
 .rw[(h.2 i hi).1 hp,<-zf (M:=M) (d.sgn s) i];simp
 .rw[(h.2 i hi).2 hp];exact ays d s hi
theorem Half.done{M:Mat}{kn:Kn}{js:List (Nat×Nat)}{Pr:Nat->Prop}{cs:List Nat}(h:Half M kn js Pr cs)(d:Dcd M kn js)(hp:∀i,prc M js i->Pr i):cs=mkL M (knS kn js):=by
 apply k9;intro i;by_cases hi:i<(ocn M).length
 .rw[ua hi];by_cases h1:Pr i
  .exact(h.2 i hi).1 h1
  .rw[(h.2 i hi).2 h1];exact au6 d hi λz=>h1 (hp i z)
 .rw[ft (by rw[h.1];lia),ft (by rw[vy];lia)]
theorem Half.put{M:Mat}{kn:Kn}{js:List (Nat×Nat)}{Pr xS:Nat->Prop}{cs:List Nat}{k:Nat}(h:Half M kn js Pr cs)(d:Dcd M kn js)(s:Sgn kn)(hk:k<(ocn M).length)(hP:∀i,xS i↔Pr i\/i=k)(hc:cs[k]?≠some 63)(ht:tch M (knS kn js) k=false):Half M kn js xS (cs.set k 45):=by
 refine⟨by rw[List.length_set];exact h.1,λi hi=>⟨λhp=>?_,λhp=>?_⟩⟩
 .rw[List.getElem?_set];by_cases e:k=i
  .subst e;rw[if_pos rfl,if_pos (by rw[h.1];exact hk)];unfold mk1;cases z:knS kn js k with
   | none=>exact absurd ((h.q d s hk).mpr z) hc
   | some c=>dsimp only;rw[if_neg (by rw[ht];decide)]
  .rw[if_neg e];rcases(hP i).mp hp with a|a
   .exact(h.2 i hi).1 a
   .exact absurd a.symm e
 .have hn:=mt (hP i).mpr hp;rw[List.getElem?_set,if_neg λz=>hn (.inr z.symm)];exact(h.2 i hi).2 λz=>hn (.inl z)
theorem Half.stay{M:Mat}{kn:Kn}{js:List (Nat×Nat)}{Pr xS:Nat->Prop}{cs:List Nat}{k:Nat}(h:Half M kn js Pr cs)(d:Dcd M kn js)(s:Sgn kn)(hk:k<(ocn M).length)(hP:∀i,xS i↔Pr i\/i=k)(hc:cs[k]?=some 63\/tch M (knS kn js) k=true):Half M kn js xS cs:=by
 refine⟨h.1,λi hi=>⟨λhp=>?_,λhp=>(h.2 i hi).2 λz=>hp ((hP i).mpr (.inl z))⟩⟩;rcases(hP i).mp hp with a|rfl
 .exact(h.2 i hi).1 a
 .by_cases At:Pr i
  .exact(h.2 i hi).1 At
  .cases z:knS kn js i with
   | none=>
    rw[(h.q d s hk).mpr z];unfold mk1;rw[z]
   | some c=>
    have ht:tch M (knS kn js) i=true:=hc.resolve_left λe=>by rw[(h.q d s hk).mp e]at z;cases z
    rw[(h.2 i hi).2 At,amy d hk z ht];unfold mk1;rw[z];dsimp only;rw[if_pos ht]
theorem Lm{M:Mat}{oc:List Nat}{xs:List KA}(h:PlX M oc xs){r c:Int}{v:V}(hv:v∈xt xs r c):∃j:Nat,v=.int (j:Nat)/\j<oc.length:=by obtain⟨p,_,hp⟩:=List.mem_filterMap.mp hv;unfold sk at hp;obtain⟨y,hy,rfl⟩:=br.mp hp;obtain⟨j,hj⟩:=db (List.mem_of_find?_eq_some hy);have jB:=(ae.mp hj).1;have bD:=h.1;obtain⟨a,ha⟩:=h.2 j _ (ab (by lia));rw[hj]at ha;cases ha;exact⟨j,rfl,by lia⟩
theorem Lu(xs:List KA)(r c:Int):(xt xs r c).length<=4:=dv (List.length_filterMap_le _ _) (aq 4)
noncomputable def fB(cs:List Nat):V->Bool
 | .int j=>decide (cs[j.toNat]?=some 63)
 | _=>false
section
variable{P:aI}{w:aK}{K:aj}{mg:Str->Option aA}{base:Heap}{f:aE}{fd:aP}{C:aE}
def avi(w:aK)(C:aE):Sp:=λvs H Q _=>∃(g dx kr e D nl sl:aE)(M:Mat)(xs:List KA)(ep:Nat)(dR:List V)(cs:List Nat)(i:Nat),vs=[.ref g,.ref sl,.int (i:Nat)]/\H g=some (.ins C dx (fsG kr e D nl))/\GrF w H D nl M xs ep dR/\H sl=some (.lst (cs.map chV))/\cs.length=(oix M (M.h*M.w)).length/\i<cs.length/\0<M.w/\∀(t:Bool)(H':Hp),Same H H'->(t=true↔∃j∈nb M i,cs[j]?=some 63)->Q (.bl t) H'
theorem ayr:nu ["ground","signs","place"] ["ground","signs","place"] (nh Jq):={}
theorem atu(B:∀x∈v7,mg x=none)(gU:GS mg "UNDECIDED" "?")(cG:ClG K C)(F:Fun K "touches_undecided" "touches_undecided" Jq f fd):qt P w K mg base CX0 1 f fd ["ground","signs","place"] (avi w C):=by
 refine F.ok (k:=0) ayr (λvs H Q E h=>?_) (λbN A outer s H vs Q E hr h=>?_)
 .obtain⟨_,_,_,_,_,_,_,_,_,_,_,_,_,rfl,_⟩:=h;rfl
 obtain⟨g,dx,kr,e,D,nl,sl,M,xs,ep,dR,cs,i,rfl,hg,hG,mP,jW,hi,hw,q⟩:=h;obtain⟨a,ha,vL⟩:=hG.nr i _ (ab (by lia));refine⟨_,(m8 (nv (rg (zu rfl) rfl (B "any" (by decide)) xL (m9 (o9 ["other","signs"] [none,some 1] rfl rfl (by decide +kernel) (by decide +kernel) rfl rfl (oz (ny pi (zj (pv 0) rfl) (pv 2) (λ_ _=>rfl))) (λ_=>(nc (i:=0) (show(["other","signs"]:List PySem.Str).Nodup by decide +kernel) rfl (Or.inl rfl))) (λ_=>qh) (λ_=>(su sX (ny anx (pv 1) (pv 0) (λ_ _=>rfl)) (qu gU rfl) (pf _)))) mr)))),?_⟩;refine(mz _ rfl g C dx _ ⟨_,rfl,hg,cG.cl,cG.n4,rfl,(mz _ rfl nl dR _ _ ⟨rfl,rfl,SqL.of hG.nl,ng ha,a,rfl,⟨_,SqL.of vL⟩,λL hL=>?_⟩)⟩);have tL:=Lu xs (((oix M (M.h*M.w))[i]'(by lia)/M.w:Nat):Int) (((oix M (M.h*M.w))[i]'(by lia) % M.w:Nat):Int);have yR:∀v∈xt xs (((oix M (M.h*M.w))[i]'(by lia)/M.w:Nat):Int) (((oix M (M.h*M.w))[i]'(by lia) % M.w:Nat):Int),_:=λv hv=>Lm hG.px hv;have vB:=Lk hw hG.px (ab (show i<(oix M (M.h*M.w)).length by lia));generalize xt xs _ _=nr at *;refine o5 (xs:=nr) (λi zs G=>Same H G/\zs=((nr.take i).map (fB cs)).map V.bl) ⟨Same.fresh _ hL,rfl⟩ (λi zs G p=>SqL.of (p.1 _ _ vL)) (λi x zs G hx hi bA bY p=>?_) (λzs G bA bY p=>?_)
 .obtain⟨p1,rfl⟩:=p;obtain⟨j,rfl,hj⟩:=yR x (ak hx);refine⟨Agree.set (Agree.refl _) rfl,?_⟩;dsimp only[jH];refine um ?_;refine(nj _ rfl _ rfl sl _ _ ⟨chV (cs[j]'(by lia)),rfl,rfl,SqL.of (p1 _ _ mP),ng (by rw[au,ab (by lia)];rfl),rfl,?_⟩);have eb:decide (chV (cs[j]'(by lia))=V.str (ba "?"))=fB cs (.int (j:Nat)):=by
   show _=decide (cs[(Int.ofNat j).toNat]?=some 63);rw[eU];show _=decide (cs[j]?=some 63);rw[ab (by lia)];exact decide_eq_decide.mpr ⟨λh=>by rw[ch_inj.mp h],λh=>by rw[cr h];rfl⟩
  rw[eb];refine qm (by lia) bA bY ⟨p1.new hL,?_⟩;rw[ou (fB cs) hx,bn];rfl
 .obtain⟨p1,rfl⟩:=p;rw[l9]at bA;refine(nq L _ ⟨rfl,bA,q _ G p1 ?_⟩);rw[List.any_map,gq];constructor
  .rintro⟨v,hv,e⟩;obtain⟨j,rfl,_⟩:=yR v hv;exact⟨j,(vB j).mp hv,of_decide_eq_true e⟩
  .rintro⟨j,hj,e⟩;exact⟨_,(vB j).mpr hj,decide_eq_true e⟩
noncomputable def fK(ads:List PyData)(k:Nat)(cs:List Nat):V->Bool
 | .int j=>(cs[j.toNat]?).any (zR ads k)
 | _=>false
def Brd(M:Mat)(ads:List PyData)(cs:List Nat)(k i:Nat):Prop:=∃j∈nb M i,∃c,cs[j]?=some c/\zR ads k c=true
def awk(w:aK)(C:aE):Sp:=λvs H Q _=>∃(g dx kr e D nl:aE)(M:Mat)(xs:List KA)(ep:Nat)(dR bT:List V)(ads:List PyData)(z:Str)(i k:Nat),vs=[.ref g,.str z,.int (i:Nat),chV k]/\k<128/\H g=some (.ins C dx (fsG kr e D nl))/\GrF w H D nl M xs ep dR/\H e=some (.tup bT)/\RepAll H ads bT/\z.cps.toList.length=(oix M (M.h*M.w)).length/\(∀c∈z.cps.toList,c<128)/\z.length<=aF/\i<(oix M (M.h*M.w)).length/\0<M.w/\∀(t:Bool)(H':Hp),Same H H'->(t=true↔Brd M ads z.cps.toList k i)->Q (.bl t) H'
theorem axy:nu ["ground","marks","place","sign"] ["ground","marks","place","sign"] (nh Ju):={}
theorem aul(B:∀x∈v7,mg x=none)(cG:ClG K C)(LV:Fn P w K mg base "is_kept_apart" 1 ["apart","sign","other"] av1)(F:Fun K "is_barred" "is_barred" Ju f fd):qt P w K mg base CX0 2 f fd ["ground","marks","place","sign"] (awk w C):=by
 refine F.ok (k:=1) axy (λvs H Q E h=>?_) (λbN A outer s H vs Q E hr h=>?_)
 .obtain⟨_,_,_,_,_,_,_,_,_,_,_,_,_,_,_,rfl,_⟩:=h;rfl
 obtain⟨g,dx,kr,e,D,nl,M,xs,ep,dR,bT,ads,z,i,k,rfl,hk,hg,hG,he,rep,bY,B7,hzs,hi,hw,q⟩:=h;obtain⟨a,ha,vL⟩:=hG.nr i _ (ab (by lia));refine⟨_,(m8 (nv (rg (zu rfl) rfl (B "any" (by decide)) xL (m9 (o9 ["other","ground","sign","marks"] [none,some 0,some 3,some 1] rfl rfl (by decide +kernel) (by decide +kernel) rfl rfl (oz (ny pi (zj (pv 0) rfl) (pv 2) (λ_ _=>rfl))) (λ_=>(nc (i:=0) (show(["other","ground","sign","marks"]:List PySem.Str).Nodup by decide +kernel) rfl (Or.inl rfl))) (λ_=>qh) (λ_=>(oj LV hr (by decide) rfl (m9 (KZ (pv 1) rfl) (m9 (pv 2) (m9 (ny xq (pv 3) (pv 0) (λ_ _=>rfl)) mr)))))) mr)))),?_⟩;refine(mz _ rfl g C dx _ ⟨_,rfl,hg,cG.cl,cG.n4,rfl,(mz _ rfl nl dR _ _ ⟨rfl,rfl,SqL.of hG.nl,ng ha,a,rfl,⟨_,SqL.of vL⟩,λL hL=>?_⟩)⟩);have tL:=Lu xs (((oix M (M.h*M.w))[i]'(by lia)/M.w:Nat):Int) (((oix M (M.h*M.w))[i]'(by lia) % M.w:Nat):Int);have yR:∀v∈xt xs (((oix M (M.h*M.w))[i]'(by lia)/M.w:Nat):Int) (((oix M (M.h*M.w))[i]'(by lia) % M.w:Nat):Int),_:=λv hv=>Lm hG.px hv;have vB:=Lk hw hG.px (ab (show i<(oix M (M.h*M.w)).length by lia));generalize xt xs _ _=nr at *;refine o5 (xs:=nr) (λi zs G=>Same H G/\zs=((nr.take i).map (fK ads k z.cps.toList)).map V.bl) ⟨Same.fresh _ hL,rfl⟩ (λi zs G p=>SqL.of (p.1 _ _ vL)) (λi x zs G hx hi bA B6 p=>?_) (λzs G bA B6 p=>?_)
 .obtain⟨p1,rfl⟩:=p;obtain⟨j,rfl,hj⟩:=yR x (ak hx);have Ia:j<z.cps.toList.length:=by lia
  refine⟨Agree.set (Agree.refl _) rfl,?_⟩;dsimp only[jH];refine um ?_;refine(mz _ rfl g C dx _ ⟨_,rfl,p1 _ _ hg,cG.cl,cG.n2,rfl,(p8 _ rfl _ rfl _ rfl z _ ⟨_,rfl,rfl,hzs,ng (ab Ia),?_⟩)⟩);refine(my e k _ bT ads ⟨rfl,hk,B7 _ (eu Ia),p1 _ _ he,rep.same p1,λG2 s2=>?_⟩);refine qm (by lia) (s2 _ _ bA) B6 ⟨(p1.trans s2).new hL,?_⟩;rw[ou (fK ads k z.cps.toList) hx,bn];have:fK ads k z.cps.toList (.int (j:Nat))=zR ads k z.cps.toList[j]:=by show(z.cps.toList[j]?).any _=_;rw[ab Ia];rfl
  rw[this];rfl
 .obtain⟨p1,rfl⟩:=p;rw[l9]at bA;refine(nq L _ ⟨rfl,bA,q _ G p1 ?_⟩);rw[List.any_map,gq];constructor
  .rintro⟨v,hv,e⟩;obtain⟨j,rfl,_⟩:=yR v hv;have e:(z.cps.toList[j]?).any (zR ads k)=true:=e;cases h1:z.cps.toList[j]? with
   | none=>rw[h1]at e;cases e
   | some c=>rw[h1]at e;exact(qc j ((vB j).mp hv) c ⟨h1,e⟩)
  .rintro⟨j,hj,c,h1,h2⟩;exact⟨_,(vB j).mpr hj,by show(z.cps.toList[j]?).any _=true;rw[h1];exact h2⟩
end
theorem GrF.same{w:aK}{H H':Hp}{D nl:aE}{M:Mat}{xs:List KA}{ep:Nat}{dR:List V}(h:GrF w H D nl M xs ep dR)(s:Same H H'):GrF w H' D nl M xs ep dR:=⟨h.dn.same s,h.px,s _ _ h.nl,h.nn,λi k hk=>by obtain⟨a,h1,h2⟩:=h.nr i k hk;exact⟨a,h1,s _ _ h2⟩⟩
def StH(H:Hp)(s:aE)(z:Str)(us:List Int):Prop:=∃u,H s=some (.tup [.str z,.ref u])/\H u=some (.tup (us.map V.int))
theorem StH.same{H H':Hp}{s:aE}{z:Str}{us:List Int}(h:StH H s z us)(k:Same H H'):StH H' s z us:=by obtain⟨u,h1,h2⟩:=h;exact⟨u,k _ _ h1,k _ _ h2⟩
structure MkF(M:Mat)(z:Str):Prop where
 len:z.cps.toList.length=(oix M (M.h*M.w)).length
 asc:∀c∈z.cps.toList,c<128
 few:z.length<=aF
def OpV(H:Hp)(M:Mat)(nk:Nat)(v:V)(o:Option (List Sg×Nat)):Prop:=match o with
 | none=>v=.non
 | some q=>∃p,v=.ref p/\Rep H (plD q.1 (q.2:Nat)) (.ref p)/\(∀s∈q.1,OpS M s/\s.2.2<128)/\q.1.length<=6/\q.2<nk
def Und(M:Mat)(z:Str)(o:Option (List Sg×Nat)):Prop:=∀q,o=some q->∀s∈q.1,z.cps.toList[cix M s]?=some 63
def Gos(M:Mat)(ads:List PyData)(lms:List (Int×Option Int))(z:Str)(us:List Int)(o:Option (List Sg×Nat)):Prop:=∀q,o=some q->
 (∀lm m u,lms[q.2]?=some lm->lm.2=some m->us[q.2]?=some u->u<m)/\Und M z o/\∀s∈q.1,¬Brd M ads z.cps.toList s.2.2 (cix M s)
section
variable{P:aI}{w:aK}{K:aj}{mg:Str->Option aA}{base:Heap}{f:aE}{fd:aP}{C:aE}
def auu(w:aK)(C:aE):Sp:=λvs H Q _=>∃(g dx kr e D nl st:aE)(M:Mat)(xs:List KA)(ep:Nat)(dR bT aU:List V)(ads:List PyData)(z:Str)(us:List Int) (lms:List (Int×Option Int)) (v:V) (o:Option (List Sg×Nat)),vs=[.ref g,.ref st,v]/\H g=some (.ins C dx (fsG kr e D nl))/\GrF w H D nl M xs ep dR/\0<M.w/\H e=some (.tup bT)/\RepAll H ads bT/\H kr=some (.tup aU)/\BndK H aU lms/\StH H st z us/\us.length=lms.length/\MkF M z/\OpV H M lms.length v o/\
 ∀(t:Bool)(H':Hp),Same H H'->(t=true↔Gos M ads lms z us o)->Q (.bl t) H'
theorem scGoe:nu ["ground","state","option","most","taken"] ["ground","state","option"] (nh JT):={}
theorem av5(B:∀x∈v7,mg x=none)(gU:GS mg "UNDECIDED" "?")(cG:ClG K C)(Ad:Fn P w K mg base "covers" 1 ["ground","placement"] (Kl w C))(LW:Fn P w K mg base "is_barred" 2 ["ground","marks","place","sign"] (awk w C))(F:Fun K "goes" "goes" JT f fd):qt P w K mg base CX0 3 f fd ["ground","state","option"] (auu w C):=by
 refine F.ok (k:=2) scGoe (λvs H Q E h=>?_) (λbN A outer s H vs Q E hr h=>?_)
 .obtain⟨_,_,_,_,_,_,_,_,_,_,_,_,_,_,_,_,_,_,_,rfl,_⟩:=h;rfl
 obtain⟨g,dx,kr,e,D,nl,st,M,xs,ep,dR,bT,aU,ads,z,us,lms,v,o,rfl,hg,hG,hw,he,oS,mU,hK,hst,oW,lW,yO,q⟩:=h;refine⟨_,(mw (rs (oy DK (pv 2) sx (pf _)) (m8 (nv uC)) pw)
  (mw (n8 (i:=3) scGoe.nd rfl (Or.inl rfl) (ny om (ny om (zj (pv 0) rfl) (ny om (pv 2) mx (λ_ _=>rfl)) (λ_ _=>rfl)) mx (λ_ _=>rfl)))
  (mw (rs (PW.pt (zT (oy akk (pv 3) sx (pf _)) (wn (oy au0 (ny om (ny om (pv 1) mx (λ_ _=>rfl)) (ny om (pv 2) mx (λ_ _=>rfl)) (λ_ _=>rfl)) (pv 3) (pf _))))) (m8 (nv uC)) pw)
  (mw (n8 (i:=4) scGoe.nd rfl (Or.inl rfl) (oj Ad hr (by decide) rfl (m9 (pv 0) (m9 (pv 2) mr))))
  (mw (rs (wf (rg (zu rfl) rfl (B "any" (by decide)) xL (m9 (o9 ["place","sign","state"] [none,none,some 1] rfl rfl (by decide +kernel) (by decide +kernel) rfl rfl (oz (pv 4)) (λ_=>(tj (n:=2) rfl (ni (nc (i:=0) (show(["place","sign","state"]:List PySem.Str).Nodup by decide +kernel) rfl (Or.inl rfl)) (ni (nc (i:=1) (show(["place","sign","state"]:List PySem.Str).Nodup by decide +kernel) rfl (Or.inl rfl)) p5)))) (λ_=>qh) (λ_=>(su Bg (ny xq (ny va (pv 2) mx (λ_ _=>rfl)) (pv 0) (λ_ _=>rfl)) (qu gU rfl) (pf _)))) mr))) (m8 (nv uC)) pw)
  (m8 (nv (avx (rg (zu rfl) rfl (B "any" (by decide)) xL (m9 (o9 ["place","sign","ground","state"] [none,none,some 0,some 1] rfl rfl (by decide +kernel) (by decide +kernel) rfl rfl (oz (pv 4)) (λ_=>(tj (n:=2) rfl (ni (nc (i:=0) (show(["place","sign","ground","state"]:List PySem.Str).Nodup by decide +kernel) rfl (Or.inl rfl)) (ni (nc (i:=1) (show(["place","sign","ground","state"]:List PySem.Str).Nodup by decide +kernel) rfl (Or.inl rfl)) p5)))) (λ_=>qh) (λ_=>(oj LW hr (by decide) rfl (m9 (pv 2) (m9 (ny va (pv 3) mx (λ_ _=>rfl)) (m9 (pv 0) (m9 (pv 1) mr))))))) mr)))))))))),?_⟩
 cases o with
 | none=>
  cases (show v=V.non from yO);refine(o4 _ rfl rfl _ ⟨rfl,um ?_⟩);exact q true H (Same.refl _) ⟨λ_ q hq=>(by cases hq),λ_=>rfl⟩
 | some od=>
  obtain⟨ss,n⟩:=od;obtain⟨p,rfl,hp,mO,h6,hn⟩:=yO;have h6:ss.length<=6:=h6;have hn:n<lms.length:=hn;obtain⟨pp,An,uW,kD,y0,t0,rfl,r0,y1,t1,rfl,e1,rfl⟩:=id hp;cases uW;cases (show y1=_ from e1);obtain⟨u,mQ,oX⟩:=id hst;obtain⟨lk,l6,IE⟩:=id hK;obtain⟨lm,kF⟩:∃lm,lms[n]?=some lm:=⟨_,ab hn⟩;obtain⟨kv,wW⟩:∃kv,aU[n]?=some kv:=⟨_,ab (by lia)⟩;obtain⟨b,u0,u3,u4,rfl,hb⟩:=IE n kv lm wW kF;have hun:n<us.length:=by lia
  refine(o4 _ rfl rfl _ ⟨rfl,jG ?_⟩);refine(mz _ rfl g C dx _ ⟨_,rfl,hg,cG.cl,cG.n1,rfl,(mz _ rfl p _ _ _ ⟨rfl,rfl,SqT.of kD,ng (j:=1) rfl,(nw kr _ _ _ ⟨rfl,rfl,SqT.of mU,ng (j:=n) wW,(nw b _ _ _ ⟨rfl,rfl,SqT.of hb,ng (j:=2) rfl,?_⟩)⟩)⟩)⟩);refine(o4 _ rfl rfl _ ⟨rfl,?_⟩);obtain⟨le,mo⟩:=lm;obtain _|m:=mo
  case' none=>
   have hM:∀mL m u,lms[n]?=some mL->mL.2=some m->us[n]?=some u->u<m:=λmL m u e1 e2 _=>by rw[kF]at e1;cases e1;cases e2
   refine jG (jG ?_)
  case' some=>
   refine um ?_;refine(mz _ rfl st _ _ _ ⟨rfl,rfl,SqT.of mQ,ng (j:=1) rfl,(mz _ rfl p _ _ _ ⟨rfl,rfl,SqT.of kD,ng (j:=1) rfl,(nw u _ _ (.int (us[n]'hun)) ⟨rfl,rfl,SqT.of oX,ng (by rw[au,ab hun];rfl),(o7 _ rfl _ _ rfl rfl _ ⟨rfl,u6 (λkJ=>?gx) (λkJ=>?gb)⟩)⟩)⟩)⟩)
   case gx=>
    exact q false H (Same.refl _) ⟨λz=>(by cases z),λg=>absurd ((g _ rfl).1 _ m _ kF rfl (ab hun)) (by first|exact Int.not_lt.mpr (of_decide_eq_true kJ)|exact kJ)⟩
   have hM:∀mL m u,lms[n]?=some mL->mL.2=some m->us[n]?=some u->u<m:=λmL m' u e1 e2 e3=>by rw[kF]at e1;cases e1;cases e2;rw[ab hun]at e3;cases e3;exact Int.not_le.mp λz=>kJ (decide_eq_true z)
  all_goals
   refine(nj _ rfl _ rfl g dx kr (my e D nl p M (my xs ep dR ss (n:Nat) ⟨rfl,hg,hG,hw,hp,mO,h6,λtk pT H1 s1 Hg pZ kY=>?_⟩)));have lt:=kY.length;rw[ah]at lt;have BC:∀{i:Nat} {x:V} {G:Hp},pT[i]?=some x->Same H1 G->∃(s:Sg)(a:aE),ss[i]?=some s/\x=.ref a/\G a=some (.tup [.int (cix M s:Nat),.str ⟨#[s.2.2]⟩]):=λhx sm=>by obtain⟨d,hd,rd⟩:=kY.at hx;rw[au]at hd;obtain⟨s,hs,rfl⟩:=br.mp hd;obtain⟨a,ys,rfl,ha,z1,r1,rfl,h1,z2,r2,rfl,h2,rfl⟩:=rd;cases (show z1=_ from h1);cases (show z2=_ from h2.1);exact(nq s a ⟨hs,rfl,sm _ _ ha⟩)
   refine(qc _ rfl tk ⟨rfl,⟨_,SqL.of pZ⟩,λL hL=>?_⟩);refine o5 (xs:=pT) (λi zs G=>Same H1 G/\zs=((ss.take i).map λs=>!decide (z.cps.toList[cix M s]?=some 63)).map V.bl) ⟨Same.fresh _ hL,rfl⟩ (λi zs G p=>SqL.of (p.1 _ _ pZ)) (λi x zs G hx hi bA bY pp=>?_) (λzs G bA bY pp=>?_)
   .obtain⟨p1,rfl⟩:=pp;obtain⟨s,a,hs,rfl,ha⟩:=BC hx p1;have ho:=(mO s (ak hs)).1;have lK:cix M s<z.cps.toList.length:=by rw[lW.len];exact(ae.mp (vc ho)).1
    refine(n0 a _ rfl (SqT.of ha) rfl _ _ rfl _ ⟨_,rfl,rfl,?_⟩);refine⟨Agree.set (Agree.set (Agree.refl _) rfl) rfl,?_⟩;dsimp only[jH];refine um ?_;refine(mz _ rfl st _ _ _ ⟨rfl,rfl,SqT.of ((s1.trans p1) _ _ mQ),ng (j:=0) rfl,(o6 _ rfl z _ (z.cps.toList[cix M s]) ⟨rfl,rfl,lW.few,ng (ab lK),rfl,?_⟩)⟩);have eb:(!decide (V.str ⟨#[z.cps.toList[cix M s]]⟩=V.str (ba "?"))) = !decide (z.cps.toList[cix M s]?=some 63):=by
     rw[eU,ab lK]
     congr 1
     exact decide_eq_decide.mpr ⟨λh=>by rw[ch_inj.mp h],λh=>by rw[cr h]⟩
    rw[eb];refine qm (by lia) bA bY ⟨p1.new hL,?_⟩;rw[ou (λs=>!decide (z.cps.toList[cix M s]?=some 63)) hs,bn];rfl
   obtain⟨p1,rfl⟩:=pp;rw[av (by lia)]at bA;refine(nq L _ ⟨rfl,bA,_,rfl,?_⟩);refine u6 (λhany=>?_) (λhany=>?_)
   .refine q false G (s1.trans p1) ⟨λz=>(by cases z),λg=>?_⟩;rw[List.any_map]at hany;obtain⟨s,hs,e⟩:=gq.mp hany;have e:(!decide (z.cps.toList[cix M s]?=some 63))=true:=e;rw[decide_eq_true ((g _ rfl).2.1 _ rfl s hs)]at e;cases e
   have He:Und M z (some (ss,n)):=λq' hq s hs=>by cases hq;refine gf λlU=>hany ?_;rw[List.any_map];exact gq.mpr ⟨s,hs,by show(!decide _)=true;rw[decide_eq_false lU];rfl⟩
   have sG:=s1.trans p1;refine(qc _ rfl tk ⟨rfl,⟨_,SqL.of (p1 _ _ pZ)⟩,λL2 hL2=>?_⟩);refine o5 (xs:=pT) (λi zs J=>Same G J/\∃bs:List Bool,zs=bs.map V.bl/\(bs.any id=true↔∃s∈ss.take i,Brd M ads z.cps.toList s.2.2 (cix M s))) ⟨Same.fresh _ hL2,[],rfl,⟨λh=>(by cases h),λ⟨s,hs,_⟩=>(by cases hs)⟩⟩ (λi zs J p=>SqL.of (p.1 _ _ (p1 _ _ pZ))) (λi x zs J hx hi IH B5 pp=>?_) (λzs J IH B5 pp=>?_)
   .obtain⟨p2,bs,rfl,C0⟩:=pp;obtain⟨s,a,hs,rfl,ha⟩:=BC hx (p1.trans p2);obtain⟨ho,hk⟩:=mO s (ak hs);have AF:=(ae.mp (vc ho)).1;have sJ:=sG.trans p2;refine(n0 a _ rfl (SqT.of ha) rfl _ _ rfl _ ⟨_,rfl,rfl,?_⟩);refine⟨Agree.set (Agree.set (Agree.refl _) rfl) rfl,?_⟩;dsimp only[jH];refine um ?_;refine(nj _ rfl _ rfl st _ _ ⟨_,rfl,rfl,SqT.of (sJ _ _ mQ),ng (j:=0) rfl,(nj _ rfl _ rfl g dx kr (my e D nl M xs (my ep dR bT ads z (nq (cix M s) s.2.2 ⟨rfl,hk,sJ _ _ hg,hG.same sJ,sJ _ _ he,oS.same sJ,lW.len,lW.asc,lW.few,AF,hw,λt J2 s2 ht=>?_⟩))))⟩);refine qm (by lia) (s2 _ _ IH) B5 ⟨(p2.trans s2).new hL2,bs++[t],by rw[bn];rfl,?_⟩;rw[dw,hs,List.any_append,Bool.or_eq_true,C0];constructor
    .rintro(⟨s',h1,h2⟩|h)
     .exact⟨s',jq _ h1,h2⟩
     .exact⟨s,cw _ (ao.mpr rfl),ht.mp (by simpa using h)⟩
    .rintro⟨s',h1,h2⟩;rcases ay.mp h1 with h|h
     .exact .inl ⟨s',h,h2⟩
     .rw[ao.mp (show s'∈[s]from h)]at h2;exact .inr (by simpa using ht.mpr h2)
   .obtain⟨p2,bs,rfl,C0⟩:=pp;rw[av (by lia)]at C0;refine(nq L2 bs ⟨rfl,IH,_,rfl,q _ J (sG.trans p2) ?_⟩);constructor
    .intro h q' hq;cases hq;refine⟨hM,He,λs hs hb=>?_⟩;have h2:=C0.mpr ⟨s,hs,hb⟩;rw[h2]at h;cases h
    .intro g;cases hb:bs.any id with
     | false=>rfl
     | true=>
      obtain⟨s,hs,h2⟩:=C0.mp hb;exact absurd h2 ((g _ rfl).2.2 s hs)
end
theorem anz{xs:List V}{k:Nat}(hk:k<=xs.length):kT xs (some (k:Int)) none=xs.drop k:=by unfold kT;rw[HT.sIx_none,HT.sIx_nat,show lD k xs.length=k by lia,av (by rw[g9];exact aq _)]
theorem ao8{xs:List V}{k:Nat}(hk:k<=xs.length):kT xs none (some (k:Int))=xs.take k:=by unfold kT;rw[HT.sIx_none,HT.sIx_nat,show lD k xs.length=k by lia];simp
theorem aec(l:List Nat):Txt.join (ba "") (l.map λc=>(⟨#[c]⟩:Str))=⟨l.toArray⟩:=by
 have e:=aew (g:=ba "") (by decide +kernel) (l.map λc=>(⟨#[c]⟩:Str));have e2:((l.map λc=>(⟨#[c]⟩:Str)).map λp=>p.cps.toList).flatten=l:=by
  clear e;rw[cq];induction l with
  | nil=>rfl
  | cons a t ih=>rw[cy,List.flatten_cons];exact congrArg (a :: ·) ih
 rw[e2]at e;have e3:(Txt.join (ba "") (l.map λc=>(⟨#[c]⟩:Str))).cps=l.toArray:=Array.toList_inj.mp (by rw[e])
 calc Txt.join (ba "") (l.map λc=>(⟨#[c]⟩:Str))=⟨(Txt.join (ba "") (l.map λc=>(⟨#[c]⟩:Str))).cps⟩:=rfl
  _=⟨l.toArray⟩:=by rw[e3]
theorem FW{n j:Nat}(h:j<n):ixN n (j:Int)=some j:=by unfold ixN;rw[if_pos (by lia),if_pos (by lia)];simp
section
variable{P:aI}{w:aK}{K:aj}{mg:Str->Option aA}{base:Heap}{f:aE}{fd:aP}{C:aE}
def ath:Sp:=λvs H Q _=>∃(kr u:aE)(aU:List V) (lms:List (Int×Option Int)) (us:List Int) (n:Nat),vs=[.ref kr,.ref u,.int (n:Nat)]/\H kr=some (.tup aU)/\BndK H aU lms/\H u=some (.tup (us.map V.int))/\us.length=lms.length/\n<us.length/\
 ∀(r:aE)(lm:Int×Option Int)(x:Int)(H':Hp),Same H H'->lms[n]?=some lm->us[n]?=some x->H' r=some (.tup ((us.set n (ym lm.1 lm.2 (x+1))).map V.int))->Q (.ref r) H'
theorem axd:nu ["kinds","used","number"] ["kinds","used","number"] (nh JA):={}
theorem aun(zW:Fn P w K mg base "used_of" 1 ["kind","laid"] Kq)(F:Fun K "used_behind" "used_behind" JA f fd):qt P w K mg base CX0 2 f fd ["kinds","used","number"] ath:=by
 refine F.ok (k:=1) axd (λvs H Q E h=>?_) (λbN A outer s H vs Q E hr h=>?_)
 .obtain⟨_,_,_,_,_,_,rfl,_⟩:=h;rfl
 obtain⟨kr,u,aU,lms,us,n,rfl,mU,hK,oX,oW,hn,q⟩:=h;obtain⟨lk,l6,IE⟩:=id hK;obtain⟨lm,kF⟩:∃lm,lms[n]?=some lm:=⟨_,ab (by lia)⟩;obtain⟨kv,wW⟩:∃kv,aU[n]?=some kv:=⟨_,ab (by lia)⟩;obtain⟨x,hx⟩:∃x,us[n]?=some x:=⟨_,ab hn⟩;obtain⟨b,u0,u3,u4,rfl,hb⟩:=IE n kv lm wW kF;refine⟨_,(m8 (nv (ph akc (ph akc (ul FX (pv 1) yo (vx (pv 2))) (oh (m9 (oj zW hr (by decide) rfl (m9 (ny om (pv 0) (pv 2) (λ_ _=>rfl)) (m9 (ph qv (ny om (pv 1) (pv 2) (λ_ _=>rfl)) mx) mr))) mr))) (ul FX (pv 1) (vx (ph qv (pv 2) mx)) yo)))),?_⟩;refine(p8 _ rfl _ rfl _ rfl u _ ⟨rfl,oX,λc1 H1 s1 e1=>?_⟩);rw[ao8 (by rw[ah];lia)]at e1;refine(nj _ rfl _ rfl kr _ _ ⟨_,rfl,rfl,SqT.of (s1 _ _ mU),ng (j:=n) wW,(nj _ rfl _ rfl u _ _ (vh (.int x) rfl rfl (SqT.of (s1 _ _ oX)) (ng (by rw[au,hx];rfl)) _ _ ⟨rfl,rfl,(my b u0 u3 u4 lm.1 (nq (x+1) lm.2 ⟨rfl,s1 _ _ hb,sZ1,λc2 tS=>?_⟩))⟩))⟩);generalize g1:upd H1 c2 _=H2 at *;obtain⟨s2,e2⟩:=al tS g1;clear g1;refine(nw c1 c2 _ _ ⟨rfl,rfl,s2 _ _ e1,e2,gj (oe (by rw[b8,ah];show _+1<=1000;lia)),λc3 H3 s3 e3=>?_⟩);refine(rh _ rfl _ rfl _ _ rfl rfl _ ⟨rfl,(nq u _ ⟨rfl,((s1.trans s2).trans s3) _ _ oX,λc4 H4 s4 e4=>?_⟩)⟩);have AO:H4 c4=some (.tup ((us.map V.int).drop (n+1))):=by have:=anz (xs:=us.map V.int) (k:=n+1) (by rw[ah];lia);rw[<-this];exact e4
 refine(nw c3 c4 _ _ ⟨rfl,rfl,s4 _ _ e3,AO,gj (oe (by rw[bu,b8,g9,ah];show _+1+_<=1000;lia)),λr H5 s5 e5=>?_⟩);refine q r lm x H5 ((((s1.trans s2).trans s3).trans s4).trans s5) kF hx ?_;rw[e5,List.set_eq_take_append_cons_drop,if_pos hn,bn,cy,List.map_take,List.map_drop,bz];rfl
noncomputable def dcD(q:Nat×Nat):PyData:=.tuple [.int (q.1:Nat),.str ⟨#[q.2]⟩]
def au8(w:aK)(C:aE):Sp:=λvs H Q _=>∃(g dx kr e D nl dl:aE)(M:Mat)(xs:List KA)(ep:Nat)(dR pT:List V)(z:Str)(kn:Kn) (js:List (Nat×Nat)),vs=[.ref g,.str z,.ref dl]/\H g=some (.ins C dx (fsG kr e D nl))/\GrF w H D nl M xs ep dR/\0<M.w/\z.cps.toList=mkL M kn/\Sgn kn/\z.length<=1000/\H dl=some (.lst pT)/\RepAll H (js.map dcD) pT/\Dcd M kn js/\js.length<=6/\
 ∀(z':Str)(H':Hp),Same H H'->z'.cps.toList=mkL M (knS kn js)->Q (.str z') H'
theorem scMkb:nu ["ground","marks","decided","signs","place","sign","other"] ["ground","marks","decided"] (nh JN):={}
theorem awd(B:∀x∈v7,mg x=none)(gU:GS mg "UNDECIDED" "?")(IN:GS mg "DONE" "-")(cG:ClG K C)(LJ:Fn P w K mg base "touches_undecided" 1 ["ground","signs","place"] (avi w C))(F:Fun K "marks_behind" "marks_behind" JN f fd):qt P w K mg base CX0 2 f fd ["ground","marks","decided"] (au8 w C):=by
 refine F.ok (k:=1) scMkb (λvs H Q E h=>?_) (λbN A outer s H vs Q E hr h=>?_)
 .obtain⟨_,_,_,_,_,_,_,_,_,_,_,_,_,_,_,rfl,_⟩:=h;rfl
 obtain⟨g,dx,kr,e,D,nl,dl,M,xs,ep,dR,pT,z,kn,js,rfl,hg,hG,hw,hz,dG,oV,zB,kY,hD,h6,q⟩:=h;have lt:=kY.length;rw[ah]at lt;have hL:(mkL M kn).length=(ocn M).length:=vy M kn;refine⟨_,(mw (n8 (i:=3) scMkb.nd rfl (Or.inl rfl) (yp (ai8 rfl) rfl (B "list" (by decide)) sN (m9 (pv 1) mr)))
  (mw (qj cj rfl (oz (pv 2)) (sr (n:=2) rfl (ni (nc (i:=4) scMkb.nd rfl (Or.inl rfl)) (ni (nc (i:=5) scMkb.nd rfl (Or.inl rfl)) p5))) (m8 (xo (pv 5) (FE (pv 3) (pv 4) F4))))
  (mw (qj cj rfl (oz (pv 2)) (sr (n:=2) rfl (ni (nc (i:=4) scMkb.nd rfl (Or.inl rfl)) (ni (nc (i:=5) scMkb.nd rfl (Or.inl rfl)) p5))) (m8 (qj cj rfl (oz (ph KE (qa (m9 (pv 4) mr)) (ny pi (zj (pv 0) rfl) (pv 4) (λ_ _=>rfl)))) (nc (i:=6) scMkb.nd rfl (Or.inl rfl)) (m8 (rs (PW.pt (zT (oy Bg (ny pi (pv 3) (pv 6) (λ_ _=>rfl)) (qu gU rfl) (pf _)) (wn (KJ (wf (oj LJ hr (by decide) rfl (m9 (pv 0) (m9 (pv 3) (m9 (pv 6) mr))))))))) (m8 (xo (qu IN rfl) (FE (pv 3) (pv 6) F4))) pw)))))
  (m8 (nv (wq mm PySem.F.slot_str_join PySem.F.type_str_join aj3 qe (m9 (pv 3) mr))))))),?_⟩
 refine(qc _ rfl z ⟨rfl,oV,λsl mP=>?_⟩);generalize g1:upd H sl _=H1 at *;obtain⟨s1,e1⟩:=al mP g1;clear g1;have e1:H1 sl=some (.lst (z.cps.toList.map chV)):=e1;rw[hz]at e1;have BC:∀{i:Nat} {x:V},pT[i]?=some x->∃(q:Nat×Nat)(a:aE),js[i]?=some q/\x=.ref a/\H a=some (.tup [.int (q.1:Nat),.str ⟨#[q.2]⟩]):=λhx=>by obtain⟨d,hd,rd⟩:=kY.at hx;rw[au]at hd;obtain⟨s,hs,rfl⟩:=br.mp hd;obtain⟨a,ys,rfl,ha,z1,r1,rfl,h1,z2,r2,rfl,h2,rfl⟩:=rd;cases (show z1=_ from h1);cases (show z2=_ from h2.1);exact(nq s a ⟨hs,rfl,ha⟩)
 have keep:∀{G:Hp},Ex [sl] H1 G->Same H G:=λex b o hb=>ex.at (λzz=>by rw[zz,mP]at hb;cases hb) (s1 _ _ hb);refine(qc _ rfl dl ⟨rfl,⟨_,SqL.of (s1 _ _ zB)⟩,?_⟩);refine rj (xs:=pT) (λi σ' G=>∃(y4 y5 y6:Option V),σ'=[some (.ref g),some (.str z),some (.ref dl),some (.ref sl),y4,y5,y6]/\Ex [sl] H1 G/\G sl=some (.lst ((oJ (mkL M kn) (js.take i)).map chV))) ?_ (λi σ' G hi h=>?_) (λi x σ' G hx h=>?_) (λσ' G h=>?_)
 .exact(oq _ _ _ ⟨rfl,Ex.refl _ _,e1⟩)
 .obtain⟨_,_,_,_,ex,_⟩:=h;exact SqL.of (keep ex _ _ zB)
 .obtain⟨y4,y5,y6,rfl,ex,hs⟩:=h;obtain⟨⟨j,c⟩,a,hj,rfl,ha⟩:=BC hx;have jB:j<(ocn M).length:=(hD.lt _ (ak hj)).1;refine(n0 a _ rfl (SqT.of (keep ex _ _ ha)) rfl _ _ rfl _ ⟨_,rfl,rfl,?_⟩);refine(p8 _ rfl _ rfl _ rfl sl _ (nq _ j ⟨rfl,rfl,hs,FW (by rw[ah,ahj,hL];exact jB),?_⟩));refine(oq _ _ _ ⟨rfl,ex.trans (Ex.upd (by simp)),?_⟩);rw[dw,hj,jo,akd,List.map_set];exact np
 .obtain⟨y4,y5,y6,rfl,ex,hs⟩:=h;rw[av (by lia)]at hs;refine(qc _ rfl dl ⟨rfl,⟨_,SqL.of (keep ex _ _ zB)⟩,?_⟩);refine rj (xs:=pT) (λi σ' J=>∃(y4 y5 y6:Option V)(cs:List Nat),σ'=[some (.ref g),some (.str z),some (.ref dl),some (.ref sl),y4,y5,y6]/\Ex [sl] H1 J/\J sl=some (.lst (cs.map chV))/\Half M kn js (prc M (js.take i)) cs) ?_ (λi σ' J hi h=>?_) (λi x σ' J hx h=>?_) (λσ' J h=>?_)
  .refine(nw _ _ _ _ ⟨rfl,ex,hs,by rw[ahj,hL],λk _=>⟨λhp=>?_,λ_=>rfl⟩⟩);obtain⟨q,hq,_⟩:=hp;rw[List.take_zero]at hq;cases hq
  .obtain⟨_,_,_,_,_,ex,_⟩:=h;exact SqL.of (keep ex _ _ zB)
  .obtain⟨y4,y5,y6,cs,rfl,ex,hs,hH⟩:=h;obtain⟨⟨j,c⟩,a,hj,rfl,ha⟩:=BC hx;have jB:j<(ocn M).length:=(hD.lt _ (ak hj)).1;refine(n0 a _ rfl (SqT.of (keep ex _ _ ha)) rfl _ _ rfl _ ⟨_,rfl,rfl,?_⟩);refine⟨_,rfl,sZ1,λl1 pH=>?_⟩;generalize g1:upd J l1 _=J1 at *;obtain⟨s2,e2⟩:=al pH g1;clear g1;have xY:=(keep ex).trans s2;obtain⟨na,Cu,Ct⟩:=(hG.same xY).nr j _ (ab jB);have tL:=Lu xs (((ocn M)[j]/M.w:Nat):Int) (((ocn M)[j] % M.w:Nat):Int);have yR:=λv (hv:v∈xt xs (((ocn M)[j]/M.w:Nat):Int) (((ocn M)[j] % M.w:Nat):Int))=>Lm hG.px hv;have vB:=Lk hw hG.px (ab jB);change J1 na=some (.lst (xt xs (((ocn M)[j]/M.w:Nat):Int) (((ocn M)[j] % M.w:Nat):Int)))at Ct;generalize xt xs (((ocn M)[j]/M.w:Nat):Int) (((ocn M)[j] % M.w:Nat):Int)=nr at *;refine(mz _ rfl g C dx _ ⟨_,rfl,xY _ _ hg,cG.cl,cG.n4,rfl,(mz _ rfl nl dR _ _ ⟨rfl,rfl,SqL.of (hG.same xY).nl,ng Cu,(nw l1 na _ _ ⟨rfl,rfl,e2,Ct,gj (oe (by show 1+nr.length<=1000;lia)),λl2 kG=>?_⟩)⟩)⟩);generalize g1:upd J1 l2 _=J2 at *;obtain⟨s3,e3⟩:=al kG g1;clear g1;have nls:l2≠sl:=λzz=>by rw[zz,s2 _ _ hs]at kG;cases kG
   have hint:∀v∈[V.int (j:Nat)]++nr,∃k:Nat,v=.int (k:Nat)/\k<(ocn M).length:=λv hv=>by
    rcases ay.mp hv with h|h
    .exact⟨j,ao.mp h,jB⟩
    .exact yR v h
   have wI:=s2.trans s3;refine⟨l2,rfl,⟨_,SqL.of e3⟩,?_⟩;refine rj (xs:=[V.int (j:Nat)]++nr) (λt σ' W=>∃(y4 y5 y6:Option V)(cs:List Nat),σ'=[some (.ref g),some (.str z),some (.ref dl),some (.ref sl),y4,y5,y6]/\Ex [sl] J2 W/\W sl=some (.lst (cs.map chV))/\Half M kn js (λk=>prc M (js.take i) k\/V.int (k:Nat)∈([V.int (j:Nat)]++nr).take t) cs) ?_ (λt σ' W hi h=>?_) (λt x σ' W hx h=>?_) (λσ' W h=>?_)
   .exact(nw _ _ _ cs ⟨rfl,Ex.refl _ _,wI _ _ hs,hH.congr λk=>by simp⟩)
   .obtain⟨_,_,_,_,_,lY,_⟩:=h;exact SqL.of (lY.at nls e3)
   .obtain⟨y4,y5,y6,cs,rfl,lY,dQ,wY⟩:=h;obtain⟨k,rfl,hk⟩:=hint x (ak hx);have hkc:k<cs.length:=by rw[wY.1];exact hk
    have hP:∀i',(prc M (js.take i) i'\/V.int (i':Nat)∈([V.int (j:Nat)]++nr).take (t+1))↔(prc M (js.take i) i'\/V.int (i':Nat)∈([V.int (j:Nat)]++nr).take t)\/i'=k:=λi'=>by rw[dw,hx,jo,ay,ao,or_assoc];have:(V.int (i':Nat)=V.int (k:Nat))↔i'=k:=⟨λz=>by injection z with z;lia,λz=>by rw[z]⟩;rw[this]
    have exW:Ex [sl] H1 W:=(ex.trans (Ex.of_same wI)).trans lY;have sW:=keep exW;refine(nj _ rfl _ rfl sl _ _ ⟨chV (cs[k]'hkc),rfl,rfl,SqL.of dQ,ng (by rw[au,ab hkc];rfl),rfl,_,rfl,?_⟩);have ek:decide (chV (cs[k]'hkc)=V.str (ba "?"))=decide (cs[k]?=some 63):=by rw[eU,ab hkc];exact decide_eq_decide.mpr ⟨λh=>by rw[ch_inj.mp h],λh=>by rw[cr h];rfl⟩
    rw[ek];refine u6 (λeO=>?_) (λeO=>jG (nw _ _ _ cs ⟨rfl,lY,dQ,wY.stay hD dG hk hP (.inl (by simpa using eO))⟩));have hck:cs[k]?≠some 63:=by simpa using eO
    refine(p8 _ rfl _ rfl _ rfl g dx (my kr e D nl sl (my M xs ep dR cs ⟨k,rfl,sW _ _ hg,hG.same sW,dQ,wY.1,hkc,hw,λtt W2 s4 Ey=>⟨_,rfl,?_⟩⟩)));have hs4:=s4 _ _ dQ;have hte:tt=tch M (knS kn js) k:=by rw[gc,Ey];unfold tch;rw[gq];refine exists_congr λj'=>and_congr_right λiU=>?_;obtain⟨_,k',_,e2,_⟩:=mem_nb.mp iU;rw[wY.q hD dG (ae.mp e2).1,Option.isNone_iff_eq_none]
    cases tt with
    | true=>exact jG (nw _ _ _ cs ⟨rfl,lY.trans (Ex.of_same s4),hs4,wY.stay hD dG hk hP (.inr hte.symm)⟩)
    | false=>
     refine um ?_;have eDn:V.str (ba "-")=chV 45:=congrArg V.str (by decide +kernel);refine(nj _ rfl _ rfl sl _ _ ⟨k,rfl,rfl,hs4,FW (by rw[ah];exact hkc),?_⟩);exact(nw _ _ _ (cs.set k 45) ⟨rfl,(lY.trans (Ex.of_same s4)).trans (Ex.upd (by simp)),by rw[List.map_set,<-eDn];exact np,wY.put hD dG hk hP hck hte.symm⟩)
   .obtain⟨y4,y5,y6,cs,rfl,lY,dQ,wY⟩:=h;refine(nw _ _ _ cs ⟨rfl,(ex.trans (Ex.of_same wI)).trans lY,dQ,wY.congr λk=>?_⟩);rw[l9,dw,hj,jo];unfold prc;constructor
    .rintro(⟨q,hq,h⟩|h)
     .exact⟨q,ay.mpr (.inl hq),h⟩
     .refine⟨(j,c),ay.mpr (.inr (ao.mpr rfl)),?_⟩;rcases ay.mp h with h|h
      .left;have h:=ao.mp h;injection h with h
       show k=j;lia
      .exact .inr ((vB k).mp h)
    .rintro⟨q,hq,h⟩;rcases ay.mp hq with hq|hq
     .exact .inl ⟨q,hq,h⟩
     .rw[ao.mp hq]at h;right;rcases h with rfl|h
      .exact ay.mpr (.inl (ao.mpr rfl))
      .exact ay.mpr (.inr ((vB k).mpr h))
  .obtain⟨y4,y5,y6,cs,rfl,ex,hs,hH⟩:=h;rw[av (by lia)]at hH;have jW:=hH.done hD λ_ h=>h;have e0:(ba "").length=0:=by decide +kernel
   have em:cs.map chV=(cs.map λc=>(⟨#[c]⟩:Str)).map V.str:=by rw[cq];rfl
   have yI:=PySem.StrLaws.sumLen_le (B:=1) (cs.map λc=>(⟨#[c]⟩:Str)) λy hy=>by obtain⟨c,_,rfl⟩:=bf.mp hy;exact aq 1
   rw[ah]at yI;have G0:z.cps.toList.length<=1000:=by rw[ax];exact oV
   rw[hz,hL]at G0;have hl:=hH.1;refine⟨rfl,(o6 _ rfl _ sl (cs.map λc=>(⟨#[c]⟩:Str)) ⟨rfl,rfl,by rw[<-em];exact hs,by rw[e0];lia,?_⟩)⟩;rw[aec];exact q ⟨cs.toArray⟩ J (keep ex) jW
end
noncomputable def yf(M:Mat)(kn:Kn):Nat:=((cb (ocn M).length).find? λi=>(kn i).isNone).getD 0
theorem KQ{M:Mat}{kn:Kn}{i:Nat}(hi:i<(ocn M).length)(h:kn i=none)(hf:∀j,j<i->kn j≠none):yf M kn=i:=by
 unfold yf;have:(cb (ocn M).length).find? (λi=>(kn i).isNone)=some i:=by
  rw[List.find?_eq_some_iff_append];refine⟨by rw[h];rfl,(nq (cb i) (List.range' (i+1) ((ocn M).length-(i+1))) ⟨?_,λj hj=>?_⟩)⟩
  .rw[List.range_eq_range',List.range_eq_range',<-List.range'_succ,show(ocn M).length-(i+1)+1=(ocn M).length-i by lia];have:=List.range'_append (s:=0) (m:=i) (n:=(ocn M).length-i) (step:=1);rw[Nat.one_mul,Nat.zero_add,show i+((ocn M).length-i)=(ocn M).length by lia]at this;exact this.symm
  .have:=hf j (fh.mp hj);cases e:kn j with
   | none=>exact absurd e this
   | some _=>rfl
 rw[this];rfl
noncomputable abbrev Opt:=Option (List Sg×Nat)
noncomputable def dcO(M:Mat)(kn:Kn):Opt->List (Nat×Nat)
 | none=>[(yf M kn,45)]
 | some q=>q.1.map λs=>(cix M s,s.2.2)
noncomputable def stp(M:Mat)(kn:Kn)(o:Opt):Kn:=knS kn (dcO M kn o)
noncomputable def usS(lms:List (Int×Option Int))(us:List Int):Opt->List Int
 | none=>us
 | some q=>us.set q.2 (ym (lms[q.2]?.getD (0,none)).1 (lms[q.2]?.getD (0,none)).2 (us[q.2]?.getD 0+1))
def Fit(M:Mat)(kn:Kn)(nk:Nat)(o:Opt):Prop:=(∃i,i<(ocn M).length/\kn i=none)/\∀q,o=some q->q.2<nk/\0<q.1.length/\q.1.length<=6/\(q.1.map (cix M)).Nodup/\∀s∈q.1,OpS M s/\s.2.2<128/\s.2.2≠63/\kn (cix M s)=none
theorem azg{P:Nat->Prop}{n:Nat}(h:P n):∃i,i<=n/\P i/\∀j,j<i->¬P j:=by
 induction n using Nat.strongRecOn with
 | _ n ih=>
  by_cases hx:∃j,j<n/\P j
  .obtain⟨j,hj,hp⟩:=hx;obtain⟨i,h1,h2,h3⟩:=ih j hj hp;exact⟨i,by lia,h2,h3⟩
  .exact⟨n,aq _,h,λj hj hp=>hx ⟨j,hj,hp⟩⟩
theorem FR{M:Mat}{kn:Kn}(h:∃i,i<(ocn M).length/\kn i=none):yf M kn<(ocn M).length/\kn (yf M kn)=none/\∀j,j<yf M kn->kn j≠none:=by obtain⟨n,hn,hk⟩:=h;obtain⟨i,h1,h2,h3⟩:=azg (P:=λi=>kn i=none) hk;rw[KQ (by lia) h2 h3];exact⟨by lia,h2,h3⟩
theorem aou{M:Mat}{s:Sg}(h:OpS M s):cix M s<(ocn M).length:=(ae.mp (vc h)).1
theorem Fit.dcd{M:Mat}{kn:Kn}{nk:Nat}{o:Opt}(h:Fit M kn nk o):Dcd M kn (dcO M kn o):=by
 cases o with
 | none=>
  obtain⟨h1,h2,_⟩:=FR h.1;refine⟨by simp[dcO],λq hq=>?_,λq hq=>?_⟩
  .rw[ao.mp hq];exact⟨h1,(by show 45<128;decide),(by show 45≠63;decide)⟩
  .rw[ao.mp hq];exact h2
 | some q=>
  obtain⟨_,_,_,hn,hs⟩:=h.2 q rfl;refine⟨?_,λp hp=>?_,λp hp=>?_⟩
  .show((q.1.map λs=>(cix M s,s.2.2)).map (·.1)).Nodup;rw[cq];exact hn
  .obtain⟨s,dQ,rfl⟩:=bf.mp hp;obtain⟨a,b,c,_⟩:=hs s dQ;exact⟨aou a,b,c⟩
  .obtain⟨s,dQ,rfl⟩:=bf.mp hp;exact(hs s dQ).2.2.2
theorem Fit.sgn{M:Mat}{kn:Kn}{nk:Nat}{o:Opt}(h:Fit M kn nk o)(s:Sgn kn):Sgn (stp M kn o):=h.dcd.sgn s
section
variable{P:aI}{w:aK}{K:aj}{mg:Str->Option aA}{base:Heap}{f:aE}{fd:aP}{C:aE}
def at7(w:aK)(C:aE):Sp:=λvs H Q _=>∃(g dx kr e D nl st:aE)(M:Mat)(xs:List KA)(ep:Nat)(dR aU:List V)(z:Str)(us:List Int) (lms:List (Int×Option Int)) (v:V) (o:Opt) (kn:Kn),vs=[.ref g,.ref st,v]/\H g=some (.ins C dx (fsG kr e D nl))/\GrF w H D nl M xs ep dR/\0<M.w/\H kr=some (.tup aU)/\BndK H aU lms/\StH H st z us/\us.length=lms.length/\z.cps.toList=mkL M kn/\Sgn kn/\z.length<=1000/\OpV H M lms.length v o/\Fit M kn lms.length o/\
 ∀(r:aE)(z':Str)(H':Hp),Same H H'->z'.cps.toList=mkL M (stp M kn o)->StH H' r z' (usS lms us o)->Q (.ref r) H'
theorem awz:nu ["ground","state","option"] ["ground","state","option"] (nh Jh):={}
theorem as7(IN:GS mg "DONE" "-")(cG:ClG K C)(Aa:Fn P w K mg base "first_undecided" 1 ["state"] Kd)(Ad:Fn P w K mg base "covers" 1 ["ground","placement"] (Kl w C))(D9:Fn P w K mg base "marks_behind" 2 ["ground","marks","decided"] (au8 w C))(LH:Fn P w K mg base "used_behind" 2 ["kinds","used","number"] ath)(F:Fun K "behind_on" "behind_on" Jh f fd):qt P w K mg base CX0 3 f fd ["ground","state","option"] (at7 w C):=by
 refine F.ok (k:=2) awz (λvs H Q E h=>?_) (λbN A outer s H vs Q E hr h=>?_)
 .obtain⟨_,_,_,_,_,_,_,_,_,_,_,_,_,_,_,_,_,_,rfl,_⟩:=h;rfl
 obtain⟨g,dx,kr,e,D,nl,st,M,xs,ep,dR,aU,z,us,lms,v,o,kn,rfl,hg,hG,hw,mU,hK,hst,oW,hz,dG,oV,yO,iV,q⟩:=h;obtain⟨u,mQ,oX⟩:=id hst;have hD:=iV.dcd;obtain⟨f1,f2,f3⟩:=FR iV.1;have AJ:63∈z.cps.toList:=by rw[hz];exact ak (by rw[ua f1,(zf dG _).mpr f2])
 refine⟨_,(mw (rs (oy DK (pv 2) sx (pf _)) (m8 (nv (oh (m9 (oj D9 hr (by decide) rfl (m9 (pv 0) (m9 (ny om (pv 1) mx (λ_ _=>rfl)) (m9 (qa (m9 (oh (m9 (oj Aa hr (by decide) rfl (m9 (pv 1) mr)) (m9 (qu IN rfl) mr))) mr)) mr)))) (m9 (ny om (pv 1) mx (λ_ _=>rfl)) mr))))) pw)
  (m8 (nv (oh (m9 (oj D9 hr (by decide) rfl (m9 (pv 0) (m9 (ny om (pv 1) mx (λ_ _=>rfl)) (m9 (oj Ad hr (by decide) rfl (m9 (pv 0) (m9 (pv 2) mr))) mr)))) (m9 (oj LH hr (by decide) rfl (m9 (zj (pv 0) rfl) (m9 (ny om (pv 1) mx (λ_ _=>rfl)) (m9 (ny om (pv 2) mx (λ_ _=>rfl)) mr)))) mr)))))),?_⟩
 cases o with
 | none=>
  cases (show v=V.non from yO);refine(o4 _ rfl rfl _ ⟨rfl,um ?_⟩);refine(nj _ rfl _ rfl st _ _ ⟨_,rfl,rfl,SqT.of mQ,ng (j:=0) rfl,(o6 _ rfl st z _ ⟨rfl,mQ,AJ,λi hi hfi=>?_⟩)⟩);refine⟨sZ2,λt ht=>?_⟩;generalize g1:upd H t _=H1 at *;obtain⟨s1,e1⟩:=al ht g1;clear g1;refine⟨sZ1,λl hl=>?_⟩;generalize g1:upd H1 l _=H2 at *;obtain⟨s2,e2⟩:=al hl g1;clear g1;have jI:=s1.trans s2;have eD:ba "-" = ⟨#[45]⟩:=by decide +kernel
  rw[eD]at e1;have kH:=(ae.mp hi).1;rw[hz,vy]at kH;have ei:yf M kn=i:=KQ kH ((zf (M:=M) dG i).mp (by rw[hz,ua kH]at hi;exact cr hi)) λj hj ej=>hfi j hj (by rw[hz,ua (by lia),(zf dG j).mpr ej]);refine(my g dx kr e D (my nl l M xs ep (my dR _ z kn (dcO M kn none) ⟨rfl,jI _ _ hg,hG.same jI,hw,hz,dG,oV,e2,?_,hD,(by show 1<=6;decide),λz' H3 s3 hz3=>?_⟩)))
  .show RepAll H2 [dcD (yf M kn,45)] _;rw[ei];exact(nq _ _ ⟨rfl,(pj t _ rfl (s2 _ _ e1) _ _ rfl rfl _ ⟨_,rfl,⟨rfl,ok1 (by show 45<128;decide)⟩,rfl⟩),rfl⟩)
  .have qN:=jI.trans s3;refine(mz _ rfl st _ _ _ ⟨rfl,rfl,SqT.of (qN _ _ mQ),ng (j:=1) rfl,sZ2,λr gZ=>?_⟩);generalize g1:upd H3 r _=H4 at *;obtain⟨s4,e4⟩:=al gZ g1;exact q r z' H4 (qN.trans s4) hz3 ⟨u,e4,(qN.trans s4) _ _ oX⟩
 | some od=>
  obtain⟨ss,n⟩:=od;obtain⟨p,rfl,hp,mO,h6,hn⟩:=yO;have h6:ss.length<=6:=h6;have hn:n<lms.length:=hn;have hp:Rep H (plD ss (n:Nat)) (.ref p):=hp;have mO:∀s∈ss,OpS M s/\s.2.2<128:=mO;obtain⟨pp,An,uW,kD,y0,t0,rfl,r0,y1,t1,rfl,e1,rfl⟩:=id hp;cases uW;cases (show y1=_ from e1);refine(o4 _ rfl rfl _ ⟨rfl,jG ?_⟩);refine(nj _ rfl _ rfl st _ _ ⟨_,rfl,rfl,SqT.of mQ,ng (j:=0) rfl,(nj _ rfl _ rfl g dx kr (my e D nl p M (my xs ep dR ss (n:Nat) ⟨rfl,hg,hG,hw,hp,mO,h6,λtk pT H1 s1 Hg pZ kY=>?_⟩)))⟩);have eJ:ss.map (cvS M)=(dcO M kn (some (ss,n))).map dcD:=by unfold dcO;rw[cq];rfl
  rw[eJ]at kY;refine(my g dx kr e D (my nl tk M xs ep (my dR pT z kn _ ⟨rfl,s1 _ _ hg,hG.same s1,hw,hz,dG,oV,pZ,kY,hD,(by unfold dcO;rw[ah];exact h6),λz' H2 s2 tH=>?_⟩)));have jI:=s1.trans s2;refine(mz _ rfl g C dx _ ⟨_,rfl,jI _ _ hg,cG.cl,cG.n1,rfl,(mz _ rfl st _ _ _ ⟨rfl,rfl,SqT.of (jI _ _ mQ),ng (j:=1) rfl,(mz _ rfl p _ _ _ ⟨rfl,rfl,SqT.of (jI _ _ kD),ng (j:=1) rfl,(my kr u aU lms us ⟨n,rfl,jI _ _ mU,hK.same jI,jI _ _ oX,oW,by lia,λru lm x H3 s3 kF hx e3=>?_⟩)⟩)⟩)⟩);refine⟨sZ2,λr gZ=>?_⟩;generalize g1:upd H3 r _=H4 at *;obtain⟨s4,e4⟩:=al gZ g1;refine q r z' H4 ((jI.trans s3).trans s4) tH ⟨ru,e4,?_⟩;unfold usS;dsimp only;rw[kF,hx];exact s4 _ _ e3
end
end K22
namespace L3
open PySem PySem.Spec PyProof.Rows L2
section
variable{prog:aI}{w:aK}{A:Around}{E:aA->aB->Prop}{s:aB}{d it v:aE}{es:Array bP}{ep i:Nat}
theorem Ll:Builtin.Dict_items.ownsTuple "dict_valueiterator" = false:=by decide
theorem axl{Q:aA->aB->Prop}(lo:(d==dI)=false)(hm:DE s.heap d es ep)(z:Q (.ref s.heap.objs.size) {s with heap:=s.heap.push {cls:=.type "dict_values",data:=.fields #[.ref d]}}) :
  aG (aH prog w) A (call (.builtin "dict.values") [.ref d]) Q E s:=by
 have T:=hm.ty;refine ck F.slot_dict_values T F.entry_dict_values (aa (aa (uE T ?_))) (F.args_dict_values_1 _);refine(af ?_:aG _ _ (aS d) _ _ s);have sh:kg d=aS ():=by unfold kg;rw[if_neg (by rw[lo];simp)]
 refine(?_:aG _ _ (kg d >>= _) _ _ s);rw[sh];exact aa (af (aa (cm (af ⟨_,rfl,z⟩))))
theorem azc{Q:aA->aB->Prop}(hv:s.heap.IsValuesView v d)(hm:DE s.heap d es ep)
  (z:Q (.ref s.heap.objs.size) {s with heap:=s.heap.push {cls:=.type "dict_valueiterator",data:=.fields #[.ref d,.int 0 0,.int es.size 0,.int ep 0]}}):aG (aH prog w) A (kQ (.ref v)) Q E s:=by
 obtain⟨ov,yN,_,hdv⟩:=id hv;obtain⟨o,ho,_,gD⟩:=id hm;refine jP hv.typeIs F.slot_dict_values_iter (ck F.slot_dict_values_iter hv.typeIs F.entry_dict_values_iter (aa (af (aa (aa (ig yN hdv (x:=.ref d) rfl (af (aa ?_))))))) (F.args_dict_values_iter_1 _));refine(aa (bV ho gD (aa (cU ho gD ?_))));simp only[Ll,bi,if_false];refine cm (af (o8 _ rfl "dict_valueiterator" _ ⟨⟨_,az _ rfl,rfl⟩,ji.lookup,?_⟩));simpa [bU]using z
theorem axq{Q:Option aA->aB->Prop}(fL:s.heap.IsValIter it d i es.size ep)(hm:DE s.heap d es ep){e:bP}(hx:es[i]?=some e)
  (q:∀h',h'.IsValIter it d (i+1) es.size ep->b9 it s.heap h'->Q (some e.val) {s with heap:=h'}):aG (aH prog w) A (bB (.ref it)) Q E s:=by
 have T:=fL.typeIs;obtain⟨o,ho,hc,hd⟩:=id fL;obtain⟨od,lS,_,sC⟩:=id hm;unfold bB;refine aa (jr (ci (name:="__next__") T ji (ck ji T F.entry_dict_valueiterator_next (aa (af (aa (aa (?_))))) (F.args_dict_valueiterator_next_1 _))));refine aa (me T (af (aa (mj ho hd ?_))));rw[if_neg (by rw[Ll];simp)];refine(?_:aG _ _ (if (aA.ref d==aA.none)=true then _ else _) _ _ s);rw[if_neg (by intro z;cases z)];refine aa (af (aa (bV lS sC ?_)));rw[if_neg (by simp)];refine aa (af (aa (cU lS sC ?_)));rw[if_neg (by simp)];refine af ?_;have nn:¬((i:Int)<0):=by omega
 simp only[nn,if_false,cg,hx];refine aa (aa (me T (af (aa (gE T ?_)))));refine(aa (h9 ho hd (by simp) ?_):aG _ _ (jS (.ref it) 1 (bU ((i:Int)+1)) >>= _) _ _ s);have pI:(s.heap.update it (Obj.mapFields (·.setIfInBounds 1 (bU ((i:Int)+1))))).IsValIter it d (i+1) es.size ep:=
  ⟨_,cn _ ho (Obj.isFreed_of_fields (jl hd _)),by rw[Obj.cls_mapFields];exact hc,by rw[jl hd];simp[bU]⟩
 refine aa (gk (aa (gE (s:={s with heap:=_}) pI.typeIs (aa (gE (s:={s with heap:=_}) pI.typeIs ?_)))));refine(?_:aG _ _ (aS e.val) _ _ _);refine af (af ⟨_,rfl,?_⟩);exact af (q _ pI (c8 ..))
theorem a01{Q:Option aA->aB->Prop}(hh:A.handled=none)(fL:s.heap.IsValIter it d es.size es.size ep)(hm:DE s.heap d es ep)
  (q:∀h',kz it s.heap h'->Q none {s with heap:=h'}):aG (aH prog w) A (bB (.ref it)) Q E s:=by
 have T:=fL.typeIs;obtain⟨o,ho,hc,hd⟩:=id fL;obtain⟨od,lS,_,sC⟩:=id hm;unfold bB;refine aa (jr (ci (name:="__next__") T ji (ck ji T F.entry_dict_valueiterator_next (aa (af (aa (aa (?_))))) (F.args_dict_valueiterator_next_1 _))));refine aa (me T (af (aa (mj ho hd ?_))));rw[if_neg (by rw[Ll];simp)];refine(?_:aG _ _ (if (aA.ref d==aA.none)=true then _ else _) _ _ s);rw[if_neg (by intro z;cases z)];refine aa (af (aa (bV lS sC ?_)));rw[if_neg (by simp)];refine aa (af (aa (cU lS sC ?_)));rw[if_neg (by simp)];refine af ?_;have nn:¬((es.size:Int)<0):=by omega
 have no:es[es.size]?=none:=Array.getElem?_eq_none (aq _);simp only[nn,if_false,cg,no];refine aa (aa (me T (af ?_)));refine(aa (h9 ho hd (by simp) ?_):aG _ _ (jS (.ref it) 0 .none >>= _) _ _ s);refine(aa ?_:aG _ _ (gT (.type "StopIteration") [] >>= _) _ _ _);unfold gT gS;refine aa (cm (aa (dM (a:=aA.none) rfl (cm ?_ (by size_fits)))) (by size_fits));unfold jT;refine aa (fD ?_);rw[show A.in1.handled=none from hh];refine aa (af (gR (aa ?_)));refine lv (T:="StopIteration") (b:=true) (⟨_,az _ rfl,rfl⟩) eK ?_;exact af (q _ (((c8 ..).extBut.push _).push _))
theorem az9{r:aE}:PySem.W.KdlSrc prog w "dict_values" r d es.size (λi v=>∃e,es[i]?=some e/\v=e.val) (λh=>h.IsValuesView r d/\DE h d es ep)where
 type:=λ_ hm=>hm.1.typeIs
 there:=λ_ ⟨⟨_,h0,_⟩,⟨_,h1,_⟩⟩=>⟨bq h0,bq h1⟩
 keep:=λ_ _ ⟨⟨o,h0,x⟩,hm⟩ k=>⟨⟨o,k r (.inl rfl) o h0,x⟩,hm.on (k d (.inr rfl))⟩
 notList:=by decide
 notTuple:=by decide
 hint:=λ_ _ _ _ hm q=>PySem.W.kdl_hint_values hm.1.typeIs q
 iter:=λA s hh ⟨hv,hm⟩=>by
  refine⟨_,λi h=>h.IsValIter s.heap.objs.size d i es.size ep/\DE h d es ep,λ_ _ q=>azc hv hm q,?_,⟨_,az _ rfl,rfl,rfl⟩,hm.on λo e=>am _ e⟩;have eO:d≠s.heap.objs.size:=by obtain⟨_,h1,_⟩:=hm;exact dq (bq h1)
  exact{
   sub:=λb hb=>by rw[ao.mp hb];exact aw
   frame:=λ_ _ _ st hk=>⟨st.1.at λo e=>hk _ aw o e,st.2.on λo e=>hk d (a8 _ aw) o e⟩
   item:=λi s' Q E hi st q=>by refine axq st.1 st.2 (ce hi) λh' k sb=>?_;exact q _ h' s'.toks ⟨_,ce hi,rfl⟩ ⟨k,st.2.on λo e=>sb.extBut d o eO e⟩ λb o hb e=>sb.extBut b o (λz=>hb (by rw[z];exact aw)) e
   done:=λs' Q E st q=>a01 hh st.1 st.2 λh' eb=>q h' s'.toks λb o hb e=>eb b o (λz=>hb (by rw[z];exact aw)) e
   self:=λ_ _ _ _ st q=>wpAny_pyIter_valiter st.1 q}
end
def alj(w:aK)(td:TE):TE:=λσ H Q=>td σ H λx H1=>∃a xs ep,x=.ref a/\DN w H1 a xs ep/\∀l,H1 l=none->Q (.ref l) (upd H1 l (.lst (xs.map (·.2.2))))
theorem af0{X:Cx}{o:Expr}{p fR pos mJ:eA}{td:TE}(hc:X.calm=true)(hg:Gl X "list")(hm:X.mg "list" = none)(ho:PE X o td)
  (lL:cS o "values" X.env (bH o X.env)=bH o X.env:=by rfl) (eW:(fR.endLine==mJ.line)=true:=by rfl):PE X (.Call (.Name "list" p) [.Call (.Attribute o "values" fR) [] [] mJ] [] pos) (alj X.w td):=by
 intro aC s σ H Q I h;refine jk (v5 I hg hm sN ?_ (by decide) (by decide));refine gv ?_ (p9 rfl) rfl;rw[p9 rfl];show aG _ _ (BE ((false,bH (.Call (.Attribute o "values" fR) [] [] mJ) X.env)::cO pos (aR [] X.env))) _ _ s;refine Calls.spliced_cons ?_;refine qJ lL eW (thn (ho aC s σ H _ I h) λv s1 ⟨x,H1,I1,r1,a,xs,ep,ex,D,q1⟩=>?_);subst ex;obtain rfl:v=aA.ref a:=r1;obtain⟨t1,t2⟩:=D.ty I1;obtain⟨es,de,hz,hx⟩:=D.de I1;refine(nq ("dict") _ ⟨PySem.F.plainAttrs_dict,PySem.F.slot_dict_values,PySem.F.type_dict_values,t1,t2,Calls.callWith_builtin rfl (PySem.evalArgs_none (axl D.sys de ?_))⟩);refine Calls.spliced_nil ?_;have de':DE (s1.heap.push {cls:=.type "dict_values",data:=.fields #[.ref a]}) a es ep:=de.on λo e=>am _ e;have bD:=D.len;refine PySem.W.kdl_call (az9 (es:=es) (ep:=ep)) (I1.ok.hd hc) ⟨⟨_,az _ rfl,rfl,rfl⟩,de'⟩ (by omega) λh' tk nG c' kp e2 sE=>?_;have hsz:(s1.heap.push {cls:=.type "dict_values",data:=.fields #[.ref a]}).objs.size=s1.heap.objs.size+1:=mf ..
 replace hsz:({s1 with heap:=s1.heap.push {cls:=.type "dict_values",data:=.fields #[.ref a]}}:aB).heap.objs.size=s1.heap.objs.size+1:=hsz
 rw[hsz]at e2⊢;have hn:H1 (s1.heap.objs.size+1)=none:=I1.hok.fresh (ll _);have hv:Vals (xs.map (·.2.2)) nG.toList:=by
  refine KO ?_ λi y u' h1 h2=>?_
  .have h5:nG.size=es.size:=sE.1;have h7:nG.toList.length=nG.size:=ax;rw[ah,h7,h5,hz]
  .rw[au]at h1;obtain⟨x,Cb,rfl⟩:=br.mp h1;obtain⟨e,he,_,rv⟩:=hx i x Cb;obtain⟨e',iJ,rfl⟩:=sE.2 i u' (by simpa using h2);rw[he]at iJ;cases iJ;exact rv
 refine⟨.ref (s1.heap.objs.size+1),_,I1.laid (t':=tk) (o:=.lst (xs.map (·.2.2))) (λb o hb=>kp b o (am _ hb)) (ll _) ⟨by rw[ah];omega,nG.toList,c',hv,by simpa using e2⟩,rfl,q1 _ hn⟩
end L3
namespace K22
open PySem PyProof.Rows L2 L3
structure PzB(H:Hp)(pz fl kr e:aE)(M:Mat)(aU:List V)(ks:List (List PyData×Nat))(lms:List (Int×Option Int))(bT:List V)(ads:List PyData):Prop where
 pz:H pz=some (.tup [.ref fl,.ref kr,.ref e])
 fl:FlM H fl M
 kr:H kr=some (.tup aU)
 ks:KindsK H aU ks
 lm:BndK H aU lms
 ap:H e=some (.tup bT)
 ra:RepAll H ads bT
theorem PzB.same{H H':Hp}{pz fl kr e:aE}{M:Mat}{aU:List V}{ks:List (List PyData×Nat)}{lms:List (Int×Option Int)}{bT:List V}{ads:List PyData}(h:PzB H pz fl kr e M aU ks lms bT ads)(s:Same H H'):PzB H' pz fl kr e M aU ks lms bT ads:=
 ⟨s _ _ h.pz,h.fl.same s,s _ _ h.kr,h.ks.same s,h.lm.same s,s _ _ h.ap,h.ra.same s⟩
theorem PzB.k{H:Hp}{pz fl kr e:aE}{M:Mat}{aU:List V}{ks:List (List PyData×Nat)}{lms:List (Int×Option Int)}{bT:List V}{ads:List PyData}(h:PzB H pz fl kr e M aU ks lms bT ads):PzK H pz M ks:=
 (nw fl kr e aU ⟨h.pz,h.fl,h.kr,h.ks,by rw[<-h.ks.1,h.lm.1];exact h.lm.2.1⟩)
theorem Ly{H H':Hp}{x dx C:aE}(hx:H x=none)(hd:H dx=none)(ex:Ex [x] (upd (upd H dx (.own x)) x (.ins C dx [])) H'):Same H H':=λb o hb=>by
 have n1:b≠x:=λz=>by rw[z,hx]at hb;cases hb
 have n2:b≠dx:=λz=>by rw[z,hd]at hb;cases hb
 exact ex.at n1 (by rw[ow n1,ow n2];exact hb)
theorem afa{H:Hp}{x dx C:aE}(hx:H x=none)(hd:H dx=none):Same H (upd (upd H dx (.own x)) x (.ins C dx [])):=Ly hx hd (Ex.refl _ _)
def OpG(M:Mat)(o:Option (List Sg×Nat)):Prop:=∀q,o=some q->0<q.1.length/\(q.1.map (cix M)).Nodup/\∀s∈q.1,s.2.2≠63
theorem OpV.tk{H H':Hp}{M:Mat}{nk:Nat}{v:V}{o:Option (List Sg×Nat)}(h:OpV H M nk v o)(t:Tk H H'):OpV H' M nk v o:=by
 cases o with
 | none=>exact h
 | some q=>
  obtain⟨p,rfl,r,h1⟩:=h;refine⟨p,rfl,Rep.tk t ?_ r,h1⟩;have:pq (q.1.map sgD)=true:=qg λd hd=>by obtain⟨s,_,rfl⟩:=bf.mp hd;rfl
  unfold plD;simp[imm,pq,this]
seal L2.PE L2.PT L2.PW L2.PA L2.PS L2.PSs L2.PG L2.PGs L2.PI L2.PO
section
variable{P:aI}{w:aK}{K:aj}{mg:Str->Option aA}{base:Heap}{f:aE}{fd:aP}{C:aE}
def aud:Sp:=λvs H Q _=>∃(pz fl kr e st:aE)(M:Mat)(aU:List V) (ks:List (List PyData×Nat)) (lms:List (Int×Option Int)) (bT:List V) (ads:List PyData) (z:Str) (us:List Int) (v:V) (o:Opt) (kn:Kn),vs=[.ref pz,.ref st,v]/\PzB H pz fl kr e M aU ks lms bT ads/\StH H st z us/\us.length=lms.length/\z.cps.toList=mkL M kn/\Sgn kn/\z.length<=1000/\OpV H M lms.length v o/\Fit M kn lms.length o/\
 ∀(r:aE)(z':Str)(H':Hp),Same H H'->z'.cps.toList=mkL M (stp M kn o)->StH H' r z' (usS lms us o)->Q (.ref r) H'
theorem ax7:nu ["puzzle","state","option"] ["puzzle","state","option"] (nh Jy):={}
theorem au2(FG:FnM P w K mg base "Ground" C 3 ["self","puzzle"] (Fh w C))(L7:Fn P w K mg base "behind_on" 3 ["ground","state","option"] (at7 w C))(F:Fun K "behind" "behind" Jy f fd):qt P w K mg base CX0 5 f fd ["puzzle","state","option"] aud:=by
 refine F.ok (k:=4) ax7 (λvs H Q E h=>?_) (λbN A outer s H vs Q E hr h=>?_)
 .obtain⟨_,_,_,_,_,_,_,_,_,_,_,_,_,_,_,_,rfl,_⟩:=h;rfl
 obtain⟨pz,fl,kr,e,st,M,aU,ks,lms,bT,ads,z,us,v,o,kn,rfl,hP,hst,oW,hz,dG,oV,yO,iV,q⟩:=h;refine⟨_,(m8 (nv (oj L7 hr (by decide) rfl (m9 (avc FG hr (by decide) rfl (m9 (pv 0) mr)) (m9 (pv 1) (m9 (pv 2) mr)))))),?_⟩;refine⟨_,rfl,λx dx hx hd eO=>?_⟩;have sL:=afa (C:=C) hx hd;refine(my x dx pz fl kr (nq e M ⟨rfl,np,sL _ _ hP.pz,hP.fl.same sL,λD nl xs ep dR H1 ex h1 hG=>⟨rfl,?_⟩⟩));have s1:=Ly hx hd ex;refine(nj _ rfl _ rfl x dx kr (my e D nl st M (my xs ep dR aU z (my us lms v o kn ⟨rfl,h1,hG,hP.fl.2.w1,s1 _ _ hP.kr,hP.lm.same s1,hst.same s1,oW,hz,dG,oV,yO.tk (Tk.of_same s1),iV,λr z' H2 s2=>?_⟩))));exact q r z' H2 (s1.trans s2)
end
noncomputable def tY:PyData->Sg
 | .tuple [.int r,.int c,.str z]=>(r.toNat,c.toNat,z.cps.toList.headD 0)
 | _=>(0,0,0)
theorem SgN.to{d:PyData}(h:SgN d):sgD (tY d)=d/\65<=(tY d).2.2/\(tY d).2.2<=90:=by obtain⟨r,c,k,rfl,h1,h2⟩:=h;exact⟨rfl,h1,h2⟩
theorem apz{M:Mat}{d:PyData}(h:SgN d)(f:vS M d=true):OpS M (tY d):=by
 obtain⟨r,c,k,rfl,h1,h2⟩:=h;rw[ao2]at f;show r<M.h/\c<M.w/\M.g r c≠35;have n:gA M r c≠35:=λz=>by rw[z]at f;have h3:(35==k)=false:=beq_false_of_ne (by lia);have h4:(35==lo1 k)=false:=beq_false_of_ne (by unfold lo1;split<;>lia);unfold okS at f;rw[h3,h4]at f;cases f
 unfold gA at n;by_cases hh:r<M.h/\c<M.w
 .rw[if_pos hh]at n;exact⟨hh.1,hh.2,n⟩
 .rw[if_neg hh]at n;exact absurd rfl n
theorem asf{M:Mat}{s t:Sg}(hs:OpS M s)(ht:OpS M t)(e:cix M s=cix M t):s.1=t.1/\s.2.1=t.2.1:=by have h1:=vc hs;rw[e,vc ht]at h1;have h1:=cr h1;have a:=xx (r:=s.1) hs.2.1;have b:=wx (r:=s.1) hs.2.1;rw[<-h1]at a b;rw[xx ht.2.1]at a;rw[wx ht.2.1]at b;exact⟨a.symm,b.symm⟩
theorem axi{M:Mat}{nk:Nat}{d:PyData}(h:JQ M nk d):∃ss n,d=plD ss ((n:Nat):Int)/\(∀s∈ss,OpS M s/\s.2.2<128)/\ss.length<=6/\n<nk/\OpG M (some (ss,n)):=by
 obtain⟨es,i,n,gG,rfl,h4,hn⟩:=h;have hS:∀x∈es.map (sh1 ((i/M.w:Nat):Int) ((i % M.w:Nat):Int)),SgN x:=SgN.shs (Dp gG);have hF:∀x∈es.map (sh1 ((i/M.w:Nat):Int) ((i % M.w:Nat):Int)),vS M x=true:=List.all_eq_true.mp h4;have hO:∀x∈es,OpS M (tY (sh1 ((i/M.w:Nat):Int) ((i % M.w:Nat):Int) x)):=λx hx=>apz (hS _ (jy hx)) (hF _ (jy hx));refine(nq ((es.map (sh1 ((i/M.w:Nat):Int) ((i % M.w:Nat):Int))).map tY) n ⟨?_,λs hs=>?_,?_,hn,λq hq=>?_⟩)
 .show PyData.tuple [.tuple _,_]=PyData.tuple [.tuple _,_];rw[cq];have:(es.map (sh1 ((i/M.w:Nat):Int) ((i % M.w:Nat):Int))).map (sgD∘tY)=(es.map (sh1 ((i/M.w:Nat):Int) ((i % M.w:Nat):Int))).map id:=gn λx hx=>(hS x hx).to.1;rw[this,List.map_id]
 .obtain⟨x,hx,rfl⟩:=bf.mp hs;exact⟨apz (hS x hx) (hF x hx),by have:=(hS x hx).to.2.2;lia⟩
 .rw[ah,ah];exact gG.pre.six
 .cases hq;refine⟨by rw[ah,ah];exact gG.pre.pos,?_,λs hs=>?_⟩
  .show((_:List Sg).map (cix M)).Nodup;rw[cq,cq];refine gl.mpr (i8 (λ{x y} hx hy eO he=>?_) (gl.mp gG.pre.nd));obtain⟨a,b⟩:=asf (hO x hx) (hO y hy) he;obtain⟨r,c,k,rfl,_⟩:=Dp gG x hx;obtain⟨r',c',k',rfl,_⟩:=Dp gG y hy;apply eO;have a:((r:Int)+((i/M.w:Nat):Int)).toNat=((r':Int)+((i/M.w:Nat):Int)).toNat:=a;have b:((c:Int)+((i % M.w:Nat):Int)).toNat=((c':Int)+((i % M.w:Nat):Int)).toNat:=b;show((r:Int),(c:Int))=((r':Int),(c':Int));clear hO hF hS eO he h4;generalize i/M.w=u at a;generalize i % M.w=u' at b;have e1:r=r':=by lia
   have e2:c=c':=by lia
   rw[e1,e2]
  .obtain⟨x,hx,rfl⟩:=bf.mp hs;have:=(hS x hx).to.2.1;lia
noncomputable def unP:PyData->List Sg×Nat
 | .tuple [.tuple ds,.int n]=>(ds.map tY,n.toNat)
 | _=>([],0)
noncomputable def plO(q:List Sg×Nat):PyData:=plD q.1 (q.2:Nat)
structure PlP(M:Mat)(nk:Nat)(q:List Sg×Nat):Prop where
 op:∀s∈q.1,OpS M s/\s.2.2<128
 six:q.1.length<=6
 lt:q.2<nk
 og:OpG M (some q)
theorem aqr(q:List Sg×Nat):unP (plO q)=q:=by show((q.1.map sgD).map tY,q.2)=q;rw[cq];have:q.1.map (tY∘sgD)=q.1.map id:=gn λs _=>rfl;rw[this,List.map_id]
theorem aoy{M:Mat}{nk:Nat}{d:PyData}(h:JQ M nk d):plO (unP d)=d/\PlP M nk (unP d):=by obtain⟨ss,n,rfl,h1,h2,h3,h4⟩:=axi h;have e:unP (plD ss ((n:Nat):Int))=(ss,n):=aqr (ss,n);rw[e];exact⟨rfl,h1,h2,h3,h4⟩
noncomputable def PLs(M:Mat)(ks:List (List PyData×Nat)):List (List Sg×Nat):=(PL M ks).map unP
theorem DA{M:Mat}{ks:List (List PyData×Nat)}(h:KsZ ks):(PLs M ks).map plO=PL M ks:=by unfold PLs;rw[cq];have:(PL M ks).map (plO∘unP)=(PL M ks).map id:=gn λd hd=>(aoy (aov h d hd)).1;rw[this,List.map_id]
theorem Ft{M:Mat}{ks:List (List PyData×Nat)}(h:KsZ ks):∀q∈PLs M ks,PlP M ks.length q:=λq hq=>by obtain⟨d,hd,rfl⟩:=bf.mp hq;exact(aoy (aov h d hd)).2
noncomputable abbrev Opn:=Option (List Sg×Nat)
noncomputable def opD:Opn->PyData
 | none=>.none
 | some q=>plO q
theorem vi(os:List Opn):pq (os.map opD)=true:=qg λd hd=>by
 obtain⟨o,_,rfl⟩:=bf.mp hd;cases o with
 | none=>rfl
 | some q=>
  show(pq (q.1.map sgD)&&true)=true;rw[qg λd hd=>by obtain⟨s,_,rfl⟩:=bf.mp hd;rfl];rfl
noncomputable def frs(M:Mat)(q:List Sg×Nat):Nat:=cix M (q.1.headD (0,0,0))
noncomputable def lvO(M:Mat)(i:Nat):List Opn:=if xP (gA M ((ocn M).getD i 0/M.w) ((ocn M).getD i 0 % M.w))=true then[]else[none]
noncomputable def stO(M:Mat)(pls:List (List Sg×Nat))(i:Nat):List Opn:=lvO M i++(pls.filter λq=>frs M q==i).map some
theorem am9{M:Mat}{pls:List (List Sg×Nat)}{j i:Nat}{q:List Sg×Nat}(h:pls[j]?=some q):stO M (pls.take (j+1)) i=stO M (pls.take j) i++if frs M q=i then[some q]else[]:=by
 unfold stO;rw[dw,h,jn,bn,bz]
 congr 2
 by_cases e:frs M q=i
 .rw[if_pos e];show(List.filter _ [q]).map some=_;rw[List.filter_cons,if_pos (by simpa using e)];rfl
 .rw[if_neg e];show(List.filter _ [q]).map some=_;rw[List.filter_cons,if_neg (by simpa using e)];rfl
theorem ap4{xs:List KA}(nd:(xs.map (·.1)).Nodup){j:Nat}{x:KA}(h:xs[j]?=some x):sk xs x.1=some x.2.2:=by
 unfold sk;induction xs generalizing j with
 | nil=>cases h
 | cons y xs ih=>
  rw[cy,jh]at nd;cases j with
  | zero=>
   cases h;rw[iq,decide_eq_true rfl];rfl
  | succ j=>
   have hx:xs[j]?=some x:=h;rw[iq,decide_eq_false λz:y.1=x.1=>nd.1 (by rw[z];exact bf.mpr ⟨x,ak hx,rfl⟩)];exact ih nd.2 hx
def OpsE(H:Hp)(os:List Opn)(a:aE):Prop:=∃ys,H a=some (.lst ys)/\RepAll H (os.map opD) ys
theorem OpsE.ex{H H':Hp}{os:List Opn}{a:aE}(h:OpsE H os a)(t:Tk H H')(e:∀o,H a=some o->H' a=some o):OpsE H' os a:=by obtain⟨ys,h1,h2⟩:=h;exact⟨ys,e _ h1,h2.tk t (vi os)⟩
structure Sts(M:Mat)(H G:Hp)(xs:List KA)(n:Nat)(f:Nat->List Opn)(as:List aE):Prop where
 keys:xs.map (·.1)=((ocn M).take n).map (cdx M)
 vals:xs.map (·.2.2)=as.map V.ref
 nd:as.Nodup
 new:∀a∈as,H a=none
 ops:∀i a,as[i]?=some a->OpsE G (f i) a
theorem Sts.len{M:Mat}{H G:Hp}{xs:List KA}{n:Nat}{f:Nat->List Opn}{as:List aE}(h:Sts M H G xs n f as)(hn:n<=(ocn M).length):xs.length=n/\as.length=n:=by have h1:=congrArg List.length h.keys;have h2:=congrArg List.length h.vals;rw[ah,ah,b8,fk hn]at h1;rw[ah,ah]at h2;exact⟨h1,by lia⟩
theorem Sts.ex{M:Mat}{H G G':Hp}{xs:List KA}{n:Nat}{f:Nat->List Opn}{as:List aE}(h:Sts M H G xs n f as)(t:Tk G G')(e:∀a∈as,∀o,G a=some o->G' a=some o):Sts M H G' xs n f as:=⟨h.keys,h.vals,h.nd,h.new,λi a ha=>(h.ops i a ha).ex t (e a (ak ha))⟩
theorem Sts.same{M:Mat}{H G G':Hp}{xs:List KA}{n:Nat}{f:Nat->List Opn}{as:List aE}(h:Sts M H G xs n f as)(s:Same G G'):Sts M H G' xs n f as:=h.ex (Tk.of_same s) λ_ _ _ hz=>s _ _ hz
theorem Sts.isl{M:Mat}{H G:Hp}{xs:List KA}{n:Nat}{f:Nat->List Opn}{as:List aE}(h:Sts M H G xs n f as){a:aE}(ha:a∈as):∃ys,G a=some (.lst ys):=by obtain⟨i,hi⟩:=db ha;obtain⟨ys,h1,_⟩:=h.ops i a hi;exact⟨ys,h1⟩
section
variable{P:aI}{w:aK}{K:aj}{mg:Str->Option aA}{base:Heap}{f:aE}{fd:aP}{C:aE}
def atl:Sp:=λvs H Q _=>∃(pz fl kr e:aE)(M:Mat)(aU:List V) (ks:List (List PyData×Nat)) (lms:List (Int×Option Int)) (bT:List V) (ads:List PyData),vs=[.ref pz]/\PzB H pz fl kr e M aU ks lms bT ads/\
 ∀(l:aE)(as:List aE)(H':Hp),Same H H'->H' l=some (.lst (as.map V.ref))->as.length=(ocn M).length->(∀i a,as[i]?=some a->OpsE H' (stO M (PLs M ks) i) a)->Q (.ref l) H'
theorem scSto:nu ["puzzle","starts","cell","placement","row","column","sign"] ["puzzle"] (nh JG):={}
theorem avw(B:∀x∈v7,mg x=none)(DZ:Fn P w K mg base "open_cells" 2 ["floor"] AW)(D7:Fn P w K mg base "must_be" 2 ["floor","cell"] (xO λk=>.bl (xP k)))(zY:Fn P w K mg base "placements" 6 ["puzzle"] Kh)(F:Fun K "starting_options" "starting_options" JG f fd):qt P w K mg base CX0 7 f fd ["puzzle"] atl:=by
 refine F.ok (k:=6) scSto (λvs H Q E h=>?_) (λbN A outer s H vs Q E hr h=>?_)
 .obtain⟨_,_,_,_,_,_,_,_,_,_,rfl,_⟩:=h;rfl
 obtain⟨pz,fl,kr,e,M,aU,ks,lms,bT,ads,rfl,hP,q⟩:=h;have hu:=hr.units;have dO:=hP.fl.2;have yZ:M.h*M.w<=64:=ky dO.h8 dO.w8;have Ep:=Bn M (M.h*M.w);have rO:=yq M (M.h*M.w);refine⟨_,(mw (n8 (i:=1) scSto.nd rfl (Or.inl rfl) K5)
  (mw (qj cj rfl (oz (oj DZ hr (by decide) rfl (m9 (ny om (pv 0) mx (λ_ _=>rfl)) mr))) (nc (i:=2) scSto.nd rfl (Or.inl rfl)) (m8 (FO (gd (gi (by decide) _) hu) (pv 1) (pv 2) (Lv (wf (oj D7 hr (by decide) rfl (m9 (ny om (pv 0) mx (λ_ _=>rfl)) (m9 (pv 2) mr)))) (qa mr) (qa (m9 sx mr))) rfl)))
  (mw (qj cj rfl (oz (oj zY hr (by decide) rfl (m9 (pv 0) mr))) (nc (i:=3) scSto.nd rfl (Or.inl rfl)) (m8 (qj cj rfl (Bl (ul FX (ny om (pv 3) mx (λ_ _=>rfl)) yo (vx mx))) (sr (n:=3) rfl (ni (nc (i:=4) scSto.nd rfl (Or.inl rfl)) (ni (nc (i:=5) scSto.nd rfl (Or.inl rfl)) (ni (nc (i:=6) scSto.nd rfl (Or.inl rfl)) p5)))) (m8 (rq (wq fc fx fy qo (aka (gd (gi (by decide) _) hu) (pv 1) (oh (m9 (pv 4) (m9 (pv 5) mr))) (λ_ _=>rfl)) (m9 (pv 3) mr)))))))
  (m8 (nv (af0 rfl rfl (B "list" (by decide)) (pv 1))))))),?_⟩
 refine λD hD qZ=>?_;generalize gg:upd H D _=H1 at *;have s1:Same H H1:=(al hD gg).1;have d1:DN w H1 D [] 0:=by rw[<-gg];exact DN.new qZ
 clear gg;have P1:=hP.same s1;refine(mz _ rfl pz _ _ _ ⟨rfl,rfl,SqT.of P1.pz,ng (j:=0) rfl,(nq fl M ⟨rfl,P1.fl,λol uN H2 s2 pF jV qP=>?_⟩)⟩);have lo:=qP.length;rw[ah]at lo;have GP:ol≠D:=λz=>by rw[z,d1.obj]at pF;cases pF
 have keep:∀{G:Hp},Ex [D] H2 G->Same H G:=λex b o hb=>ex.at (λz=>by rw[z,hD]at hb;cases hb) (s2 _ _ (s1 _ _ hb));refine⟨ol,rfl,⟨_,SqL.of jV⟩,?_⟩;refine rj (xs:=uN) (λi σ' G=>∃(y2 y3 y4 y5 y6:Option V)(xs:List KA)(ep:Nat)(as:List aE),σ'=[some (.ref pz),some (.ref D),y2,y3,y4,y5,y6]/\Ex [D] H2 G/\DN w G D xs ep/\Sts M H G xs i (lvO M) as) ?_ (λi σ' G hi h=>?_) (λi v σ' G hv h=>?_) (λσ' G h=>?_)
 .exact(my _ _ _ _ _ (oq ([]) 0 ([]) ⟨rfl,Ex.refl _ _,d1.same s2,rfl,rfl,List.nodup_nil,(λa ha=>by cases ha),λi a ha=>by cases ha⟩))
 .obtain⟨_,_,_,_,_,_,_,_,_,ex,_⟩:=h;exact SqL.of (ex.at GP jV)
 .obtain⟨y2,y3,y4,y5,y6,xs,ep,as,rfl,ex,dn,hS⟩:=h;have kx:=hS.keys;have kx:xs.map (·.1)=((oix M (M.h*M.w)).take i).map (cdx M):=kx;obtain⟨d,hd,rd⟩:=qP.at hv;rw[au]at hd;obtain⟨k,hk,rfl⟩:=br.mp hd;obtain⟨ca,rfl,iO⟩:=xR rd;have Ao:ca≠D:=ux iO (d1.same s2).obj (by intro z;cases z);have kH:=(ae.mp hk).1;have lx:xs.length=i:=by
   have:=congrArg List.length kx;rw[ah,ah,b8]at this;lia
  have lU:¬(sk xs (cdx M k)).isSome=true:=λz=>by have hm:=valN_mem.mp z;rw[kx]at hm;obtain⟨k2,CF,e2⟩:=bf.mp hm;have e3:=DQ dO.w1 e2;subst e3;obtain⟨j,hj⟩:=db CF;have jB:=(ae.mp hj).1;rw[b8]at jB;rw[mn,if_pos (by lia)]at hj;have:=(List.getElem?_inj (by lia) Ep).mp (hj.trans hk.symm);lia
  have keys:∀b v,(zo xs (cdx M k) b v)=xs++[(cdx M k,b,v)]:=λb v=>by unfold zo;rw[if_neg lU]
  have la1:as.length=i:=(hS.len (gj kH)).2;have hgd:(ocn M).getD i 0=k:=by rw[df];exact congrArg (Option.getD · 0) hk
  have hst:∀(G1:Hp)(la:aE)(ys:List V)(jN:Nat),Same G G1->G la=none->G1 la=some (.lst ys)->RepAll G1 ((lvO M i).map opD) ys->∃Af jO Dr,DN w (upd G1 D (DNo w D (zo xs (cdx M k) ca (.ref la)) jN)) D Af jO/\Sts M H (upd G1 D (DNo w D (zo xs (cdx M k) ca (.ref la)) jN)) Af (i+1) (lvO M) Dr:=λG1 la ys jN sg Av tO mR=>by
   have EY:=sg _ _ (ex.at Ao iO);have d2:DN w (upd G1 D (DNo w D (zo xs (cdx M k) ca (.ref la)) jN)) D (zo xs (cdx M k) ca (.ref la)) jN:=(dn.same sg).put (kr2 EY) (oe (by lia)) (.ref la) jN;have ob:=(dn.same sg).obj;have S1:=hS.same sg;have tk:Tk G1 (upd G1 D (DNo w D (zo xs (cdx M k) ca (.ref la)) jN)):=λb ys h=>by rw[ow (ux h ob (by intro z;cases z))];exact h
   have up:∀a,(∃ys,G1 a=some (.lst ys))->∀o,G1 a=some o->upd G1 D (DNo w D (zo xs (cdx M k) ca (.ref la)) jN) a=some o:=λa ⟨ys,ha⟩ o h=>by rw[ow (ux ha ob (by intro z;cases z))];exact h
   have S2:=S1.ex tk λa ha=>up a (S1.isl ha);refine(oq _ _ (as++[la]) ⟨d2,?_,?_,?_,λa ha=>?_,λt a ha=>?_⟩)
   .rw[keys,bn,kx];exact(ou (cdx M) hk).symm
   .rw[keys,bn,hS.vals,bn];rfl
   .refine List.nodup_append.mpr ⟨hS.nd,jh.mpr ⟨jc,List.nodup_nil⟩,λa ha b hb e=>?_⟩;rw[ao.mp hb]at e;subst e;obtain⟨zs,hz⟩:=hS.isl ha;rw[Av]at hz;cases hz
   .rcases ay.mp ha with h|h
    .exact hS.new a h
    .rw[ao.mp h];exact(keep ex).free Av
   .by_cases ht:t<i
    .rw[cu (by lia)]at ha;exact S2.ops t a ha
    .have Ar:=(ae.mp ha).1;rw[bu]at Ar;have Ar:t<as.length+1:=Ar;have:t=i:=by lia
     subst this;rw[cf (by lia),la1,j8]at ha;cases ha;exact⟨ys,up la ⟨ys,tO⟩ _ tO,mR.tk tk (vi _)⟩
  have EJ:=hP.same (keep ex);refine(mz _ rfl pz _ _ _ ⟨rfl,rfl,SqT.of EJ.pz,ng (j:=0) rfl,(mz _ rfl fl ca M (k/M.w) ⟨k % M.w,rfl,EJ.fl,ex.at Ao iO,?_⟩)⟩);refine⟨_,rfl,u6 (λhmu=>?_) (λhmu=>?_)⟩
  .refine⟨sZ0,λla tO=>?_⟩;generalize g1:upd G la _=G1 at *;obtain⟨sg,eg⟩:=al tO g1;clear g1;refine(nj _ rfl _ rfl D xs ep (nq (cdx M k) ca ⟨rfl,rfl,dn.same sg,kr2 (sg _ _ (ex.at Ao iO)),oe (by lia),λjN=>?_⟩));obtain⟨Af,jO,Dr,a1,a2⟩:=hst G1 la [] jN sg tO eg (by unfold lvO;rw[hgd,if_pos hmu];rfl);exact(my _ _ _ _ _ (oq Af jO Dr ⟨rfl,ex.trans ((Ex.of_same sg).trans (Ex.upd (by simp))),a1,a2⟩))
  .refine⟨sZ1,λla tO=>?_⟩;generalize g1:upd G la _=G1 at *;obtain⟨sg,eg⟩:=al tO g1;clear g1;refine(nj _ rfl _ rfl D xs ep (nq (cdx M k) ca ⟨rfl,rfl,dn.same sg,kr2 (sg _ _ (ex.at Ao iO)),oe (by lia),λjN=>?_⟩));obtain⟨Af,jO,Dr,a1,a2⟩:=hst G1 la [V.non] jN sg tO eg (by unfold lvO;rw[hgd,if_neg hmu];exact(nq _ _ ⟨rfl,rfl,rfl⟩));exact(my _ _ _ _ _ (oq Af jO Dr ⟨rfl,ex.trans ((Ex.of_same sg).trans (Ex.upd (by simp))),a1,a2⟩))
 .obtain⟨y2,y3,y4,y5,y6,xs,ep,as,rfl,ex,dn,hS⟩:=h;have EJ:=hP.same (keep ex);have uK:=keep ex;clear keep;refine(o6 _ rfl pz M ks ⟨rfl,EJ.k,λpl lR G2 s3 rM hpl jJ=>?_⟩);have tT:KsZ ks:=hP.ks.z;have rQ:=hP.lm.2.1;have hL:=Fq dO tT;rw[<-DA tT]at jJ hL;have hok:=Ft (M:=M) tT;have lp:=jJ.length;rw[ah]at lp hL;have yV:ks.length=lms.length:=by rw[<-hP.ks.1,hP.lm.1]
  have loc:uN.length=(ocn M).length:=lo;have lX:uN.length<=(ocn M).length:=by rw[lo];exact aq _
  have kx:xs.map (·.1)=(ocn M).map (cdx M):=by rw[hS.keys,av (by rw[lo];exact aq _)]
  obtain⟨lx,lA⟩:=hS.len lX;have ndK:(xs.map (·.1)).Nodup:=by rw[kx];exact gl.mpr (List.Pairwise.imp (λeO he=>eO (DQ dO.w1 he)) Ep)
  have d3:=dn.same s3;have S3:=hS.same s3;have GO:∀a∈as,a≠pl:=λa ha z=>by obtain⟨zs,hz⟩:=hS.isl ha;rw[z,rM]at hz;cases hz
  generalize HA:PLs M ks=pls at *;refine⟨pl,rfl,⟨_,SqL.of hpl⟩,?_⟩;refine rj (xs:=lR) (λj σ' W=>∃(y2 y3 y4 y5 y6:Option V),σ'=[some (.ref pz),some (.ref D),y2,y3,y4,y5,y6]/\Same H W/\Tk G2 W/\W pl=some (.lst lR)/\DN w W D xs ep/\Sts M H W xs uN.length (stO M (pls.take j)) as) ?_ (λj σ' W hj h=>?_) (λj v σ' W hv h=>?_) (λσ' W h=>?_)
  .refine(my _ _ _ _ _ ⟨rfl,uK.trans s3,Tk.refl _,hpl,d3,S3.keys,S3.vals,S3.nd,S3.new,λi a ha=>?_⟩);have:=S3.ops i a ha;unfold stO;rw[List.take_zero,List.filter_nil,List.map_nil,dg];exact this
  .obtain⟨_,_,_,_,_,_,_,_,hp,_⟩:=h;exact SqL.of hp
  .obtain⟨y2,y3,y4,y5,y6,rfl,sW,tW,hpW,dW,SW⟩:=h;have jB:=(ae.mp hv).1;obtain⟨d,hd,rd⟩:=jJ.at hv;rw[au]at hd;obtain⟨⟨ss,n⟩,hq,rfl⟩:=br.mp hd;have pp:=hok _ (ak hq);obtain⟨hpos,_,_⟩:=pp.og _ rfl;have hpos:0<ss.length:=hpos;obtain⟨p,An,rfl,Hw,y0,t0,rfl,⟨b,qF,rfl,pM,BN⟩,y1,t1,rfl,e1,rfl⟩:=id rd;have kD:=tW _ _ Hw;have hb:=tW _ _ pM;have fW:=BN.tk tW (qg λd hd=>by obtain⟨s,_,rfl⟩:=bf.mp hd;rfl);have lb:=fW.length;rw[ah]at lb;have lb:qF.length=ss.length:=lb;refine(mz _ rfl p _ _ _ ⟨rfl,rfl,SqT.of kD,ng (j:=0) rfl,(o8 _ rfl b _ ⟨rfl,hb,λc W1 s4 e4=>?_⟩)⟩);have ec:kT qF none (some 1)=qF.take 1:=ao8 (k:=1) (by lia);rw[ec]at e4;refine⟨c,rfl,⟨_,SqT.of e4⟩,?_⟩;refine KU (xs:=qF.take 1) (λi σ' Z=>∃(y4 y5 y6:Option V),σ'=[some (.ref pz),some (.ref D),y2,some (.ref p),y4,y5,y6]/\Same H Z/\Tk G2 Z/\Tk W1 Z/\Z pl=some (.lst lR)/\DN w Z D xs ep/\Sts M H Z xs uN.length (stO M (pls.take (j+i))) as) ?_ (λi σ' Z hi h=>?_) (λi x σ' Z tJ h=>?_) (λσ' Z h=>?_)
   .exact(oq _ _ _ ⟨rfl,sW.trans s4,λb ys h=>s4 _ _ (tW b ys h),Tk.refl _,s4 _ _ hpW,dW.same s4,SW.same s4⟩)
   .obtain⟨_,_,_,_,_,_,tk1,_⟩:=h;exact SqT.of (tk1 _ _ e4)
   .obtain⟨y4,y5,y6,rfl,sZ,tZ,Gk,HD,dZ,SZ⟩:=h;rw[mn]at tJ;have Az:i<1:=by
     by_cases hc:i<1
     .exact hc
     .rw[if_neg hc]at tJ;cases tJ
    rw[if_pos Az]at tJ;have CJ:i=0:=by lia
    subst CJ;obtain⟨sd,Cn,GB⟩:=fW.at tJ;rw[au]at Cn;obtain⟨⟨r0,c0,k0⟩,hs,rfl⟩:=br.mp Cn;have hs:ss[0]?=some (r0,c0,k0):=hs;obtain⟨b',rfl,eY,_⟩:=sf GB;obtain⟨ho,hk⟩:=pp.op _ (ak hs);have hZb:=Gk _ _ (s4 _ _ eY);refine(n0 b' _ rfl (SqT.of hZb) rfl _ _ rfl _ (o8 _ rfl _ _ ⟨rfl,rfl,?_⟩));have nY:frs M (ss,n)=cix M (r0,c0,k0):=by unfold frs;rw[List.headD_eq_head?_getD,List.head?_eq_getElem?];show cix M ((ss[0]?).getD _)=_;rw[hs];rfl
    have AF:cix M (r0,c0,k0)<(ocn M).length:=(ae.mp (vc ho)).1;have Cb:cix M (r0,c0,k0)<xs.length:=by lia
    have zF:as[cix M (r0,c0,k0)]?=some (as[cix M (r0,c0,k0)]'(by lia)):=ab _;generalize as[cix M (r0,c0,k0)]'(by lia)=a at zF;have ek:xs[cix M (r0,c0,k0)].1=clD (r0:Nat) (c0:Nat):=by have h1:=congrArg (λl=>l[cix M (r0,c0,k0)]?) kx;rw[au,au,ab Cb,show(ocn M)[cix M (r0,c0,k0)]?=some (r0*M.w+c0)from vc ho]at h1;rw[<-DI ho.2.1];exact cr h1
    have ev:xs[cix M (r0,c0,k0)].2.2=.ref a:=by have h1:=congrArg (λl=>l[cix M (r0,c0,k0)]?) SZ.vals;rw[au,au,ab Cb,zF]at h1;exact cr h1
    have hv0:=ap4 ndK (ab Cb);rw[ek,ev]at hv0;refine(ut _ rfl _ rfl _ ⟨rfl,sZ2,λt ht=>?_⟩);generalize g1:upd Z t _=Z1 at *;obtain⟨s5,e5⟩:=al ht g1;clear g1;have S5:=SZ.same s5;have ham:=ak zF;obtain⟨ys,uQ,B8⟩:=id (S5.ops _ a zF);have fQ:=B8.length;have hyl4:(stO M (pls.take (j+0)) (cix M (r0,c0,k0))).length<=1+pls.length:=by
     unfold stO lvO;rw[bu,ah];have h1:=ke (λq=>frs M q==cix M (r0,c0,k0)) (pls.take (j+0));rw[b8]at h1;split
     .rw[gz];lia
     .rw[fq];lia
    rw[ah]at fQ;refine(my D xs ep (clD (r0:Nat) (c0:Nat)) t ⟨_,rfl,rfl,dZ.same s5,kr2 e5,hv0,.inl ⟨rfl,_,SqL.of uQ⟩,(o6 _ rfl a ys _ ⟨rfl,rfl,uQ,(by rw[iw];lia),?_⟩)⟩);have tk:Tk Z1 (upd Z1 a (.lst (ys++[.ref p]))):=Tk.lst uQ;have nDa:D≠a:=λz=>ux (dZ.same s5).obj uQ (by intro z;cases z) z;refine(oq _ _ _ ⟨rfl,(sZ.trans s5).new (SZ.new a ham),(tZ.trans (Tk.of_same s5)).trans tk,(Gk.trans (Tk.of_same s5)).trans tk,?_,(dZ.same s5).tk tk (by rw[ow nDa];exact(dZ.same s5).obj),S5.keys,S5.vals,S5.nd,S5.new,λi2 a2 vM=>?_⟩)
    .rw[ow (Ne.symm (GO a ham))];exact s5 _ _ HD
    .have uX:=S5.ops i2 a2 vM;have est:=am9 (M:=M) (i:=i2) hq;show OpsE _ (stO M (pls.take (j+1)) i2) a2;rw[est,nY];by_cases hc:cix M (r0,c0,k0)=i2
     .subst hc;rw[zF]at vM;cases vM;rw[if_pos rfl];refine⟨_,np,?_⟩;rw[bn];refine(B8.snoc ?_).tk tk ?_
      .exact(Rep.tk (tZ.trans (Tk.of_same s5)) (by show imm (opD (some (ss,n)))=true;have:=vi [some (ss,n)];simpa [pq]using this) rd)
      .have:=vi (stO M (pls.take j) (cix M (r0,c0,k0))++[some (ss,n)]);rw[bn]at this;exact this
     .rw[if_neg hc,dg];exact uX.ex tk λo h=>by rw[ow λz:a2=a=>hc ((List.getElem?_inj (ae.mp zF).1 S5.nd).mp (by rw[zF,vM,z]))];exact h
   .obtain⟨y4,y5,y6,rfl,sZ,tZ,Gk,HD,dZ,SZ⟩:=h;rw[b8,fk (by lia)]at SZ;exact(my _ _ _ _ _ ⟨rfl,sZ,tZ,HD,dZ,SZ⟩)
  .obtain⟨y2,y3,y4,y5,y6,rfl,sW,tW,hpW,dW,SW⟩:=h;refine(o6 _ rfl D xs ep ⟨rfl,dW,λl hl=>?_⟩);generalize g1:upd W l _=W1 at *;obtain⟨s4,e4⟩:=al hl g1;clear g1;rw[SW.vals]at e4;rw[av (by lia)]at SW;exact q l as W1 (sW.trans s4) e4 (by rw[lA,lo];rfl) (SW.same s4).ops
end
theorem api{H:Hp}{M:Mat}{nk:Nat}{x:V}{o:Opn}(r:Rep H (opD o) x)(h:∀q,o=some q->PlP M nk q):OpV H M nk x o:=by
 cases o with
 | none=>exact r
 | some q=>
  obtain⟨p,_,rfl,_⟩:=id r;have pp:=h q rfl;exact⟨p,rfl,r,pp.op,pp.six,pp.lt⟩
noncomputable def Ba(M:Mat)(ads:List PyData)(lms:List (Int×Option Int))(z:Str)(us:List Int)(o:Opn):Bool:=open Classical in decide (Gos M ads lms z us o)
theorem gosB_iff{M:Mat}{ads:List PyData}{lms:List (Int×Option Int)}{z:Str}{us:List Int}{o:Opn}:Ba M ads lms z us o=true↔Gos M ads lms z us o:=@decide_eq_true_iff _ (Classical.propDecidable _)
def Jj(M:Mat)(ads:List PyData)(lms:List (Int×Option Int))(z:Str)(us:List Int)(F:Nat->List Opn)(os:List Opn):Prop:=(63∉z.cps.toList/\os=[])\/∃i,z.cps.toList[i]?=some 63/\(∀j,j<i->z.cps.toList[j]?≠some 63)/\os=(F i).filter (Ba M ads lms z us)
theorem ar0{M:Mat}{pls:List (List Sg×Nat)}{i:Nat}:(stO M pls i).length<=1+pls.length:=by
 unfold stO lvO;rw[bu,ah];have h1:=ke (λq=>frs M q==i) pls;split
 .rw[gz];lia
 .rw[fq];lia
theorem ati{M:Mat}{pls:List (List Sg×Nat)}{i:Nat}{q:List Sg×Nat}(h:some q∈stO M pls i):q∈pls/\frs M q=i:=by
 rcases ay.mp h with h|h
 .unfold lvO at h;split at h
  .cases h
  .cases ao.mp h
 .obtain⟨q',h1,e⟩:=bf.mp h;cases e;obtain⟨h2,h3⟩:=io.mp h1;exact⟨h2,by simpa using h3⟩
section
variable{P:aI}{w:aK}{K:aj}{mg:Str->Option aA}{base:Heap}{f:aE}{fd:aP}{C:aE}
def avj(w:aK)(C:aE):Sp:=λvs H Q _=>∃(g dx kr e D nl st l:aE)(M:Mat)(xs:List KA)(ep:Nat)(dR bT aU:List V)(as:List aE)(ads:List PyData)(z:Str)(us:List Int) (lms:List (Int×Option Int)) (Fo:Nat->List Opn),vs=[.ref g,.ref l,.ref st]/\H g=some (.ins C dx (fsG kr e D nl))/\GrF w H D nl M xs ep dR/\0<M.w/\H e=some (.tup bT)/\RepAll H ads bT/\H kr=some (.tup aU)/\BndK H aU lms/\StH H st z us/\us.length=lms.length/\MkF M z/\H l=some (.lst (as.map V.ref))/\as.length=(ocn M).length/\(∀i a,as[i]?=some a->OpsE H (Fo i) a)/\(∀i,(Fo i).length<=3073/\∀q,some q∈Fo i->PlP M lms.length q)/\
 ∀(r:aE)(os:List Opn)(H':Hp),Same H H'->Jj M ads lms z us Fo os->OpsE H' os r->H r=none->Q (.ref r) H'
theorem axk:nu ["ground","starts","state"] ["ground","starts","state"] (nh JY):={}
theorem auj(B:∀x∈v7,mg x=none)(LY:Fn P w K mg base "ended" 1 ["state"] at5)(Aa:Fn P w K mg base "first_undecided" 1 ["state"] Kd)(LX:Fn P w K mg base "goes" 3 ["ground","state","option"] (auu w C))(F:Fun K "options_among" "options_among" JY f fd):qt P w K mg base CX0 4 f fd ["ground","starts","state"] (avj w C):=by
 refine F.ok (k:=3) axk (λvs H Q E h=>?_) (λbN A outer s H vs Q E hr h=>?_)
 .obtain⟨_,_,_,_,_,_,_,_,_,_,_,_,_,_,_,_,_,_,_,_,rfl,_⟩:=h;rfl
 obtain⟨g,dx,kr,e,D,nl,st,l,M,xs,ep,dR,bT,aU,as,ads,z,us,lms,Fo,rfl,hg,hG,hw,he,oS,mU,hK,hst,oW,lW,hl,HY,qB,hF,q⟩:=h;obtain⟨u,mQ,oX⟩:=id hst;refine⟨_,(mw (rs (wf (oj LY hr (by decide) rfl (m9 (pv 2) mr))) (m8 (nv (qa mr))) pw)
  (m8 (nv (o9 ["option","ground","state"] [none,some 0,some 2] rfl rfl (by decide +kernel) (by decide +kernel) rfl rfl (oz (ny pi (pv 1) (oj Aa hr (by decide) rfl (m9 (pv 2) mr)) (λ_ _=>rfl))) (λ_=>(nc (i:=0) (show(["option","ground","state"]:List PySem.Str).Nodup by decide +kernel) rfl (Or.inl rfl))) (λ_=>u9 (wf (oj LX hr (by decide) rfl (m9 (pv 1) (m9 (pv 2) (m9 (pv 0) mr)))))) (λ_=>(pv 0)))))),?_⟩
 refine(o6 _ rfl st z _ ⟨rfl,mQ,_,rfl,?_⟩);cases hc:z.cps.toList.contains 63 with
 | false=>
  have lU:63∉z.cps.toList:=λhm=>by rw[kh.mpr hm]at hc;cases hc
  refine um ⟨sZ0,λr gZ=>?_⟩;exact q r [] _ (Same.fresh _ gZ) (.inl ⟨lU,rfl⟩) ⟨[],np,rfl⟩ gZ
 | true=>
  have AJ:63∈z.cps.toList:=kh.mp hc;refine jG ?_;refine(nj _ rfl _ rfl st z _ ⟨rfl,mQ,AJ,λi hi C2=>?_⟩);have kH:=(ae.mp hi).1;have CH:i<as.length:=by rw[HY];exact lW.len▸kH
  obtain⟨ys,uQ,B8⟩:=qB _ _ (ab CH);obtain⟨hF1,hF2⟩:=hF i;have fQ:=B8.length;rw[ah]at fQ;refine(nw l _ _ (.ref as[i]) ⟨rfl,rfl,SqL.of hl,ng (by rw[au,ab CH];rfl),as[i],rfl,⟨_,SqL.of uQ⟩,λR hR=>?_⟩);refine o5 (xs:=ys) (λt zs G=>Same H G/\RepAll G ((((Fo i).take t).filter (Ba M ads lms z us)).map opD) zs) ⟨Same.fresh _ hR,rfl⟩ (λi zs G p=>SqL.of (p.1 _ _ uQ)) (λt x zs G hx hi bA bY p=>?_) (λzs G bA bY p=>?_)
  .obtain⟨p1,p2⟩:=p;obtain⟨d,hd,rd⟩:=B8.at hx;rw[au]at hd;obtain⟨o,ho,rfl⟩:=br.mp hd;have rG:=Rep.same p1 rd;have hoG:OpV G M lms.length x o:=api rG λq hq=>hF2 q (hq▸ak ho);refine⟨Agree.set (Agree.refl _) rfl,?_⟩;refine(p8 _ rfl _ rfl _ rfl g dx (my kr e D nl st (my M xs ep dR bT (my aU ads z us lms (nq x o ⟨rfl,p1 _ _ hg,hG.same p1,hw,p1 _ _ he,oS.same p1,p1 _ _ mU,hK.same p1,hst.same p1,oW,lW,hoG,λb G2 s2 Ey=>⟨_,rfl,?_⟩⟩)))));have gO:=s2 _ _ bA;have et:((Fo i).take (t+1)).filter (Ba M ads lms z us)=((Fo i).take t).filter (Ba M ads lms z us)++if b=true then[o]else[]:=by
    rw[dw,ho,jn]
    congr 1
    show List.filter _ [o]=_;rw[List.filter_cons];by_cases hb:b=true
    .rw[if_pos hb,if_pos (gosB_iff.mpr (Ey.mp hb))];rfl
    .rw[if_neg hb,if_neg λz=>hb (Ey.mpr (gosB_iff.mp z))];rfl
   cases b with
   | false=>
    refine jG ⟨_,gO,i7 bY,p1.trans s2,?_⟩;rw[et,if_neg (by decide),dg];exact p2.same s2
   | true=>
    refine um ⟨_,rfl,aqq (by lia) gO bY ⟨(p1.trans s2).new hR,?_⟩⟩;have im:=vi (((Fo i).take (t+1)).filter (Ba M ads lms z us));rw[et,if_pos rfl,bn]at im⊢;exact((p2.same s2).snoc (Rep.same s2 rG)).tk (Tk.lst gO) im
  .obtain⟨p1,p2⟩:=p;rw[av (by lia)]at p2;exact q R _ G p1 (.inr ⟨i,hi,C2,rfl⟩) ⟨zs,bA,p2⟩ hR
def atp:Sp:=λvs H Q _=>∃(pz fl kr e st:aE)(M:Mat)(aU:List V) (ks:List (List PyData×Nat)) (lms:List (Int×Option Int)) (bT:List V) (ads:List PyData) (z:Str) (us:List Int),vs=[.ref pz,.ref st]/\PzB H pz fl kr e M aU ks lms bT ads/\StH H st z us/\us.length=lms.length/\MkF M z/\
 ∀(r:aE)(os:List Opn)(H':Hp),Same H H'->Jj M ads lms z us (stO M (PLs M ks)) os->OpsE H' os r->H r=none->Q (.ref r) H'
theorem ay5:nu ["puzzle","state"] ["puzzle","state"] (nh Jz):={}
theorem auc(FG:FnM P w K mg base "Ground" C 3 ["self","puzzle"] (Fh w C))(LK:Fn P w K mg base "starting_options" 7 ["puzzle"] atl)(LN:Fn P w K mg base "options_among" 4 ["ground","starts","state"] (avj w C))(F:Fun K "options" "options" Jz f fd):qt P w K mg base CX0 8 f fd ["puzzle","state"] atp:=by
 refine F.ok (k:=7) ay5 (λvs H Q E h=>?_) (λbN A outer s H vs Q E hr h=>?_)
 .obtain⟨_,_,_,_,_,_,_,_,_,_,_,_,_,rfl,_⟩:=h;rfl
 obtain⟨pz,fl,kr,e,st,M,aU,ks,lms,bT,ads,z,us,rfl,hP,hst,oW,lW,q⟩:=h;refine⟨_,(m8 (nv (oj LN hr (by decide) rfl (m9 (avc FG hr (by decide) rfl (m9 (pv 0) mr)) (m9 (oj LK hr (by decide) rfl (m9 (pv 0) mr)) (m9 (pv 1) mr)))))),?_⟩;refine⟨_,rfl,λx dx hx hd eO=>?_⟩;have sL:=afa (C:=C) hx hd;refine(my x dx pz fl kr (nq e M ⟨rfl,np,sL _ _ hP.pz,hP.fl.same sL,λD nl xs ep dR H1 ex h1 hG=>⟨rfl,?_⟩⟩));have s1:=Ly hx hd ex;refine(mz _ rfl pz fl kr e (my M aU ks lms bT ⟨ads,rfl,hP.same s1,λl as H2 s2 hl HY qB=>?_⟩));have jI:=s1.trans s2;have P2:=hP.same jI;refine(mz _ rfl x dx kr e (my D nl st l M (my xs ep dR bT aU (my as ads z us lms ⟨_,rfl,s2 _ _ h1,hG.same s2,hP.fl.2.w1,P2.ap,P2.ra,P2.kr,P2.lm,hst.same jI,oW,lW,hl,HY,qB,(λi=>⟨?_,λq hq=>?_⟩),λr os H3 s3 hz ho gZ=>?_⟩))))
 .have h1:=ar0 (M:=M) (pls:=PLs M ks) (i:=i);have h2:=Fq hP.fl.2 hP.ks.z;have h3:=hP.lm.2.1;have h4:ks.length=lms.length:=by rw[<-hP.ks.1,hP.lm.1]
  rw[<-DA hP.ks.z,ah]at h2;lia
 .have h4:ks.length=lms.length:=by rw[<-hP.ks.1,hP.lm.1]
  rw[<-h4];exact Ft hP.ks.z q (ati hq).1
 exact q r os H3 (jI.trans s3) hz ho (jI.free gZ)
end
theorem azu:(0:Int)<2^(Int.toNat 61)-1:=by decide
theorem az1:(0:Int)<10^(Int.toNat 30):=by decide
theorem E6{α:Type}{xs:List α}{i:Int}(h0:0<=i)(h1:i<xs.length):∃x,atI xs i=some x/\x∈xs:=by
 obtain⟨j,rfl⟩:=gp h0;have hj:j<xs.length:=by lia
 exact⟨xs[j],ng (ab hj),eu hj⟩
def StL(n:List V):Prop:=∃(x:Int)(ns:List Int),n=V.int x::ns.map V.int/\ns.length<=70
section
variable{P:aI}{w:aK}{K:aj}{mg:Str->Option aA}{base:Heap}{f:aE}{fd:aP}
def aoz:Sp:=λvs H Q _=>∃(st:aE)(n:List V)(m:Int),vs=[.ref st,.int m]/\H st=some (.lst n)/\StL n/\0<m/\m<=4000/\∀(n':List V)(i:Int)(H':Hp),Ex [st] H H'->H' st=some (.lst n')->StL n'->0<=i->i<m->Q (.int i) H'
theorem scNext:nu ["_law_state","_law_many","_law_digit"] ["_law_state","_law_many"] (nh J0):={}
theorem aqu(B:∀x∈v7,mg x=none)(F:Fun K "_law_next" "_law_next" J0 f fd):qt P w K mg base CX0 1 f fd ["_law_state","_law_many"] aoz:=by
 refine F.ok (k:=0) scNext (λvs H Q E h=>?_) (λbN A outer s H vs Q E hr h=>?_)
 .obtain⟨st,n,m,rfl,_⟩:=h;rfl
 obtain⟨st,_,m,rfl,hst,⟨x,ns,rfl,EN⟩,hm,yT,q⟩:=h;have hu:=hr.units;refine⟨_,(mw (rs (oy Kj (rg qd rfl (B "len" (by decide)) ip (m9 (pv 0) mr)) mx (pf _)) (mw (n8 (i:=2) scNext.nd rfl (Or.inl rfl) (ph zU (ny pi (pv 0) mx (λ_ _=>rfl)) (pv 1)))
  (mw (xo (ph KT (ny pi (pv 0) mx (λ_ _=>rfl)) (pv 1)) (FE (pv 0) mx F4))
  (mw (rs (PW.pt (zT (oy (DC hu) (ny pi (pv 0) mx (λ_ _=>rfl)) (oh (m9 mx (m9 (E9 Fx mx) mr))) rfl) (wn (oy Kj (rg qd rfl (B "len" (by decide)) ip (m9 (pv 0) mr)) mx (pf _))))) (m8 (rq (wq fc PySem.F.slot_list_pop PySem.F.type_list_pop anl (pv 0) (m9 mx mr)))) pw)
  (m8 (nv (pv 2)))))) pw)
  (mw (xo (ph zU (ph qv (ph aox (ny pi (pv 0) mx (λ_ _=>rfl)) mx) mx) (ph wb (ph Kz mx mx) mx)) (FE (pv 0) mx F4))
  (m8 (nv (ph zU (ph KT (ny pi (pv 0) mx (λ_ _=>rfl)) mx) (pv 1)))))),?_⟩
 refine(o7 _ rfl st _ rfl (.inl (SqL.of hst)) _ (o4 _ rfl rfl _ ⟨rfl,u6 (λh1=>?_) (λ_=>?_)⟩))
 .refine(mz _ rfl st _ _ _ ⟨rfl,rfl,SqL.of hst,ng (j:=0) rfl,(o8 _ rfl _ _ ⟨rfl,rfl,hm,?_⟩)⟩);refine(mz _ rfl st _ _ _ ⟨rfl,rfl,SqL.of hst,ng (j:=0) rfl,(o8 _ rfl _ _ ⟨rfl,rfl,⟨hm,by lia⟩,?_⟩)⟩);refine(mz _ rfl st _ _ 0 ⟨rfl,rfl,hst,FW (j:=0) (Nat.succ_pos _),?_⟩);generalize g1:upd H st _=H1 at *;have ET:Ex [st] H H1:=by rw[<-g1];exact Ex.upd (by simp)
  have e1:H1 st=some (.lst (V.int (x/m)::ns.map V.int)):=by rw[<-g1];exact np
  clear g1;have r1:=Int.emod_nonneg x (b:=m) (by lia);have r2:=Int.emod_lt_of_pos x hm;refine(mz _ rfl st _ _ _ ⟨rfl,rfl,SqL.of e1,ng (j:=0) rfl,_,rfl,sZ2,λt ht=>?_⟩);generalize g1:upd H1 t _=H2 at *;obtain⟨s2,e2⟩:=al ht g1;clear g1;have e3:=s2 _ _ e1;have IX:=ET.trans (Ex.of_same s2);refine(nw (.int (x/m)) t _ ([.int 0,.int (-1)]) ⟨rfl,rfl,.inr e2,(xk _ _ rfl rfl _ _ ⟨rfl,rfl,rfl⟩),(by simp[g0]),_,rfl,?_⟩);refine u6 (λ_=>?_) (λ_=>jG ?_)
  .refine(o7 _ rfl st _ rfl (.inl (SqL.of e3)) _ (o4 _ rfl rfl _ ⟨rfl,u6 (λh2=>?_) (λ_=>?_)⟩))
   .obtain _|⟨y,oU⟩:=ns
    .simp at h2
    refine(o4 _ rfl (.inl ⟨rfl,_,SqL.of e3⟩) st (nw _ 0 0 _ ⟨rfl,rfl,e3,by decide,by decide,(by simp[qL];lia),rfl,?_⟩));rw[b7]at EN;exact⟨_,rfl,q _ _ _ (IX.trans (Ex.upd (by simp))) np (nq y oU ⟨rfl,by lia⟩) r1 r2⟩
   .exact⟨_,rfl,q _ _ _ IX e3 (nq _ ns ⟨rfl,EN⟩) r1 r2⟩
  .exact⟨_,rfl,q _ _ _ IX e3 (nq _ ns ⟨rfl,EN⟩) r1 r2⟩
 .refine(mz _ rfl st _ _ _ ⟨rfl,rfl,SqL.of hst,ng (j:=0) rfl,(Lx _ _ rfl rfl (.inr ⟨by decide,by decide⟩) _ _ ⟨rfl,rfl,(Lx _ _ rfl rfl ⟨by decide,by decide,by decide⟩ _ _ ⟨rfl,rfl,(nq _ _ ⟨rfl,rfl,azu,?_⟩)⟩)⟩)⟩);refine(mz _ rfl st _ _ 0 ⟨rfl,rfl,hst,FW (j:=0) (Nat.succ_pos _),?_⟩);refine(mz _ rfl st _ _ _ ⟨rfl,rfl,SqL.of np,ng (j:=0) rfl,(nq _ _ ⟨rfl,rfl,⟨by decide,by decide⟩,(o8 _ rfl _ _ ⟨rfl,rfl,hm,?_⟩)⟩)⟩);exact q _ _ _ (Ex.upd (by simp)) np (nq _ ns ⟨rfl,EN⟩) (Int.emod_nonneg _ (by lia)) (Int.emod_lt_of_pos _ hm)
noncomputable abbrev Bj(P:aI)(w:aK)(K:aj)(mg:Str->Option aA)(base:Heap):Prop:=Fn P w K mg base "_law_next" 1 ["_law_state","_law_many"] aoz
def aug(K:aj):Sp:=λvs H Q _=>∃(a:aE)(ns:List Int),vs=[.ref a]/\SqL K H a (ns.map V.int)/\ns.length<=63/\∀(p:aE)(n:List V)(H':Hp),Same H H'->H p=none->H' p=some (.lst n)->StL n->Q (.ref p) H'
theorem scDrw:nu ["_law_script","_law_seed","_law_cell"] ["_law_script"] (nh Jw):={}
theorem amw{K:aj}{H H':Hp}{a:aE}{xs:List V}(h:SqL K H a xs)(k:∀o,H a=some o->H' a=some o):SqL K H' a xs:=by
 rcases h with (h|⟨o,h⟩)|h
 .exact .inl (.inl (k _ h))
 .exact .inl (.inr ⟨o,k _ h⟩)
 .exact .inr h
theorem as8(B:∀x∈v7,mg x=none)(F:Fun K "_law_drawn" "_law_drawn" Jw f fd):qt P w K mg base CX0 1 f fd ["_law_script"] (aug K):=by
 refine F.ok (k:=0) scDrw (λvs H Q E h=>?_) (λbN A outer s H vs Q E hr h=>?_)
 .obtain⟨_,_,rfl,_⟩:=h;rfl
 obtain⟨a,ns,rfl,ha,AJ,q⟩:=h;refine⟨_,(mw (rs (PW.pt (zT (oy Kj (rg qd rfl (B "len" (by decide)) ip (m9 (pv 0) mr)) mx (pf _)) (wn (oy sX (ph zU (ny pi (pv 0) mx (λ_ _=>rfl)) mx) mx (pf _))))) (m8 (nv (ph KE (ph KE (qa (m9 (ph KT (ny pi (pv 0) mx (λ_ _=>rfl)) mx) mr)) (ul ajt (pv 0) (vx mx) (vx mx))) (qa (m9 mx mr))))) pw)
  (mw (n8 (i:=1) scDrw.nd rfl (Or.inl rfl) mx)
  (mw (qj cj rfl (oz (pv 0)) (nc (i:=2) scDrw.nd rfl (Or.inl rfl)) (m8 (n8 (i:=1) scDrw.nd rfl (Or.inl rfl) (ph zU (ph qv (ph qv (ph aox (pv 1) mx) (ph zU (pv 2) (ph Kz mx mx))) mx) (ph wb (ph Kz mx mx) mx)))))
  (m8 (nv (qa (m9 (pv 1) mr))))))),?_⟩
 refine(o7 _ rfl a _ rfl (.inl ha) _ (o4 _ rfl rfl _ ⟨rfl,u6 (λh1=>?p1) (λ_=>jG ?f1)⟩))
 case' p1=>
  rw[ah]at h1;have hpos:0<ns.length:=by simpa using h1
  have hx:(ns.map V.int)[0]?=some (.int (ns[0]'hpos)):=by rw[au,ab hpos];rfl
  refine(mz _ rfl a _ _ _ ⟨rfl,rfl,ha,ng (j:=0) hx,(nq _ _ ⟨rfl,rfl,(by show(0:Int)<2;decide),rfl,_,rfl,u6 (λ_=>?ret) (λ_=>?f2)⟩)⟩)
 case ret=>
  refine(mz _ rfl a _ _ _ ⟨rfl,rfl,ha,ng (j:=0) hx,(nq _ _ ⟨rfl,rfl,⟨by decide,by decide⟩,sZ1,λl1 pH=>?_⟩)⟩);generalize g1:upd H l1 _=H1 at *;obtain⟨s1,e1⟩:=al pH g1;clear g1;refine(p8 _ rfl _ rfl _ rfl a _ ⟨rfl,amw ha λo h=>s1 _ _ h,λl2 kG=>?_⟩);generalize g1:upd H1 l2 _=H2 at *;obtain⟨s2,e2⟩:=al kG g1;clear g1;obtain⟨ms,em,lm⟩:∃ms:List Int,kT (ns.map V.int) (some 1) (some 63)=ms.map V.int/\ms.length<=63:=by
   refine⟨(ns.drop (HT.sIx (ns.map V.int).length 0 (some 1))).take (HT.sIx (ns.map V.int).length (ns.map V.int).length (some 63)-HT.sIx (ns.map V.int).length 0 (some 1)),?_,?_⟩
   .unfold kT;rw[List.map_take,List.map_drop]
   .rw[b8,g9];lia
  rw[em]at e2;refine(nw l1 l2 _ _ ⟨rfl,rfl,s2 _ _ e1,e2,gj (oe (by rw[ah];show 1+ms.length<=1000;lia)),λl3 H0=>?_⟩);generalize g1:upd H2 l3 _=H3 at *;obtain⟨s3,e3⟩:=al H0 g1;clear g1;refine⟨sZ1,λl4 vE=>?_⟩;generalize g1:upd H3 l4 _=H4 at *;obtain⟨s4,e4⟩:=al vE g1;clear g1;refine(nw l3 l4 _ _ ⟨rfl,rfl,s4 _ _ e3,e4,gj (oe (by rw[bu,ah];show 1+ms.length+1<=1000;lia)),λl5 rS=>?_⟩);generalize g1:upd H4 l5 _=H5 at *;obtain⟨s5,e5⟩:=al rS g1;clear g1;have s14:=((s1.trans s2).trans s3).trans s4;exact q l5 _ H5 (s14.trans s5) (s14.free rS) e5 (nq _ (ms++[0]) ⟨by rw[bn];rfl,by rw[bu];show ms.length+1<=70;lia⟩)
 all_goals
  refine(qc _ rfl a ⟨rfl,⟨_,ha⟩,?_⟩);refine rj (xs:=ns.map V.int) (λi σ' G=>∃(n:Int)(y:Option V),σ'=[some (.ref a),some (.int n),y]/\G=H) (nq _ _ ⟨rfl,rfl⟩) (λi σ' G hi h=>by obtain⟨_,_,_,rfl⟩:=h;exact ha) (λi x σ' G hx h=>?_) (λσ' G h=>?_)
  .obtain⟨n,y,rfl,rfl⟩:=h;rw[au]at hx;obtain⟨c,_,rfl⟩:=br.mp hx;refine(yj _ rfl _ _ rfl rfl (.inr ⟨by decide,by decide⟩) _ ⟨rfl,(Lx _ _ rfl rfl ⟨by decide,by decide,by decide⟩ _ _ ⟨rfl,rfl,az1,(pj _ _ rfl rfl _ _ rfl rfl _ ⟨_,rfl,rfl,⟨by decide,by decide,by decide⟩,(xk _ _ rfl rfl _ _ ⟨rfl,rfl,azu,?_⟩)⟩)⟩)⟩);exact(nq _ _ ⟨rfl,rfl⟩)
  .obtain⟨n,y,rfl,rfl⟩:=h;refine⟨_,rfl,sZ1,λp hp=>?_⟩;exact q p _ _ (Same.fresh _ hp) hp np (nq n ([]) ⟨rfl,f7 _⟩)
end
theorem Gd{H:Hp}{cs:List PyData}{xs:List V}{i:Nat}{v:V}(h:Cells cs)(r:RepAll H cs xs)(e:xs[i]?=some v):∃(a:aE)(p q:Int),v=.ref a/\H a=some (.tup [.int p,.int q])/\cs[i]?=some (.tuple [.int p,.int q]):=by obtain⟨d,e1,e2⟩:=r.at e;obtain⟨p,q,rfl⟩:=h d (ak e1);obtain⟨a,e3,e4⟩:=ant e2;exact(oq a p q ⟨e3,e4,e1⟩)
theorem aqj{ds:List PyData}{r c:Int}(jW:Cells ds)(kE:(ds.map cl).Nodup)(rP:(!(ds.any λe=>bw e (.tuple [.int r,.int c])))=true)(hl:(PyData.tuple [.int r,.int c]).canLay0=true):((ds++[PyData.tuple [.int r,.int c]]).map cl).Nodup:=by
 rw[bn,List.nodup_append];refine⟨kE,by simp,λx hx y hy=>?_⟩;have ey:y=(r,c):=ao.mp hy;intro exy;rw[exy,ey]at hx;obtain⟨z,hz,ez⟩:=bf.mp hx;obtain⟨r0,c0,rfl⟩:=jW z hz;have ez':(r0,c0)=(r,c):=ez;injection ez' with e1 e2
 rw[Bool.not_eq_true',List.any_eq_false]at rP;exact rP _ hz (by rw[e1,e2];exact SeqAt.eqv_refl _ hl)
theorem aab{j:Nat}(h:j<3):∃k,(ba "AAB").cps.toList[j]?=some k/\65<=k/\k<=90:=by
 have:∀j<3,∃k,(ba "AAB").cps.toList[j]?=some k/\65<=k/\k<=90:=λj hj=>by
  match j,hj with
  | 0,_=>exact⟨65,by decide +kernel,by decide,by decide⟩
  | 1,_=>exact⟨65,by decide +kernel,by decide,by decide⟩
  | 2,_=>exact⟨66,by decide +kernel,by decide,by decide⟩
 exact this j h
theorem aqc{st a:aE}{H H':Hp}(ex:Ex [st] H H')(n:a≠st)(h:H' a=none):H a=none:=by
 cases z:H a with
 | none=>rfl
 | some o=>have z':=ex a o (by simpa using n) z;rw[z']at h;cases h
theorem ajv{ds:List PyData}(t l:Int)(h:∀d∈ds,SgD d):pq (ds.map (Bo t l))=true:=Spots.imm λd hd=>by obtain⟨x,hx,rfl⟩:=bf.mp hd;obtain⟨r,c,k,rfl,_⟩:=h x hx;exact(oq _ _ _ rfl)
section
variable{P:aI}{w:aK}{K:aj}{mg:Str->Option aA}{base:Heap}{f:aE}{fd:aP}
def ao9:Sp:=λvs H Q _=>∃(st:aE)(n:List V)(m:Int),vs=[.ref st,.int m]/\H st=some (.lst n)/\StL n/\0<m/\m<=6/\
 ∀(r:aE)(H':Hp)(n':List V)(es:List PyData),Ex [st] H H'->H' st=some (.lst n')->StL n'->Zr es->Rep H' (.tuple es) (.ref r)->Q (.ref r) H'
theorem scForm:nu ["_law_state","_law_most","_law_cells_here","_law_k","_law_row","_law_column","_law_down","_law_right","_law_top","_law_left"] ["_law_state","_law_most"] (nh Kb):={}
theorem aro(B:∀x∈v7,mg x=none)(bO:Bj P w K mg base)(F:Fun K "_law_form" "_law_form" Kb f fd):qt P w K mg base CX0 2 f fd ["_law_state","_law_most"] ao9:=by
 refine F.ok (k:=1) scForm (λvs H Q E h=>?_) (λbN A outer s H vs Q E hr h=>?_)
 .obtain⟨_,_,_,rfl,_⟩:=h;rfl
 obtain⟨st,n,m,rfl,hst,hn,Aw,yT,q⟩:=h;have hu:=hr.units;refine⟨_,(mw (n8 (i:=2) scForm.nd rfl (Or.inl rfl) (qa (m9 (oh (m9 mx (m9 mx mr))) mr)))
  (mw (qj cj rfl (sV rfl (B "range" (by decide)) (m9 (oj bO hr (by decide) rfl (m9 (pv 0) (m9 (pv 1) mr))) mr)) (nc (i:=3) scForm.nd rfl (Or.inl rfl)) (mw (xo (ny pi (pv 2) (oj bO hr (by decide) rfl (m9 (pv 0) (m9 (rg qd rfl (B "len" (by decide)) ip (m9 (pv 2) mr)) mr))) (λ_ _=>rfl)) (sr (n:=2) rfl (ni (nc (i:=4) scForm.nd rfl (Or.inl rfl)) (ni (nc (i:=5) scForm.nd rfl (Or.inl rfl)) p5))))
  (mw (xo (ny pi (qa (m9 (oh (m9 mx (m9 mx mr))) (m9 (oh (m9 mx (m9 mx mr))) (m9 (oh (m9 mx (m9 (E9 Fx mx) mr))) (m9 (oh (m9 (E9 Fx mx) (m9 mx mr))) mr))))) (oj bO hr (by decide) rfl (m9 (pv 0) (m9 mx mr))) (λ_ _=>rfl)) (sr (n:=2) rfl (ni (nc (i:=6) scForm.nd rfl (Or.inl rfl)) (ni (nc (i:=7) scForm.nd rfl (Or.inl rfl)) p5))))
  (m8 (rs (oy (aj7 hu) (oh (m9 (ph qv (pv 4) (pv 6)) (m9 (ph qv (pv 5) (pv 7)) mr))) (pv 2) rfl) (m8 (rq (wq fc fx fy qo (pv 2) (m9 (oh (m9 (ph qv (pv 4) (pv 6)) (m9 (ph qv (pv 5) (pv 7)) mr))) mr)))) pw)))))
  (mw (n8 (i:=8) scForm.nd rfl (Or.inr rfl) (rg (ad7 rfl) rfl (B "min" (by decide)) boot_min (m9 (o9 ["_law_cell"] [none] rfl rfl (by decide +kernel) (by decide +kernel) rfl rfl (oz (pv 2)) (λ_=>(nc (i:=0) (show(["_law_cell"]:List PySem.Str).Nodup by decide +kernel) rfl (Or.inl rfl))) (λ_=>qh) (λ_=>(ny va (pv 0) mx (λ_ _=>rfl)))) mr)))
  (mw (n8 (i:=9) scForm.nd rfl (Or.inr rfl) (rg (ad7 rfl) rfl (B "min" (by decide)) boot_min (m9 (o9 ["_law_cell"] [none] rfl rfl (by decide +kernel) (by decide +kernel) rfl rfl (oz (pv 2)) (λ_=>(nc (i:=0) (show(["_law_cell"]:List PySem.Str).Nodup by decide +kernel) rfl (Or.inl rfl))) (λ_=>qh) (λ_=>(ny va (pv 0) mx (λ_ _=>rfl)))) mr)))
  (m8 (nv (yp p6 rfl (B "tuple" (by decide)) cZ (m9 (rg zm rfl (B "sorted" (by decide)) lN (m9 (o9 ["_law_row","_law_column","_law_top","_law_left","_law_state"] [none,none,some 8,some 9,some 0] rfl rfl (by decide +kernel) (by decide +kernel) rfl rfl (oz (pv 2)) (λ_=>(tj (n:=2) rfl (ni (nc (i:=0) (show(["_law_row","_law_column","_law_top","_law_left","_law_state"]:List PySem.Str).Nodup by decide +kernel) rfl (Or.inl rfl)) (ni (nc (i:=1) (show(["_law_row","_law_column","_law_top","_law_left","_law_state"]:List PySem.Str).Nodup by decide +kernel) rfl (Or.inl rfl)) p5)))) (λ_=>qh) (λ_=>(oh (m9 (ph wb (pv 0) (pv 2)) (m9 (ph wb (pv 1) (pv 3)) (m9 (ny xq qe (oj bO hr (by decide) rfl (m9 (pv 4) (m9 mx mr))) (λ_ _=>rfl)) mr)))))) mr)) mr)))))))),?_⟩
 refine⟨sZ2,λp1 HE=>?_⟩;generalize g1:upd H p1 _=Ha at *;obtain⟨sa,ea⟩:=al HE g1;clear g1;refine⟨sZ1,λp2 rN=>?_⟩;generalize g1:upd Ha p2 _=H1 at *;obtain⟨sb,c1⟩:=al rN g1;clear g1;have Cr:=sa.free rN;have n2:st≠p2:=qb hst Cr;have s1:=sa.trans sb;have b1:=sb _ _ ea;have iY:=s1 _ _ hst;have nb:p1≠st:=ux b1 iY (by intro z;cases z);refine(nj _ rfl _ rfl st n m ⟨rfl,iY,hn,Aw,by lia,λn' j Hj IU stj hnj hj0 hj1=>⟨j,rfl,by lia,by lia,?_⟩⟩);refine qy (n:=j.toNat) (lo:=0) (λi σ' G=>∃(x3 x4 x5 x6 x7 x8 x9:Option V)(n':List V)(xs:List V)(cs:List PyData),σ'=[some (.ref st),some (.int m),some (.ref p2),x3,x4,x5,x6,x7,x8,x9]/\Ex [st] H G/\G st=some (.lst n')/\StL n'/\G p2=some (.lst xs)/\RepAll G cs xs/\Cells cs/\(cs.map cl).Nodup/\0<cs.length/\cs.length<=i+1) ?_ (λi σ' G hi h=>?_) (λσ' G h=>?_)
 .refine(my _ _ _ _ _ (my _ _ n' ([.ref p1]) ([.tuple [.int 0,.int 0]]) ⟨rfl,(Ex.of_same s1).trans IU,stj,hnj,IU.at (Ne.symm n2) c1,(nq _ _ ⟨rfl,uq (IU.at nb b1),rfl⟩),λd hd=>?_,by simp,by simp,by simp⟩));rw[ao.mp hd];exact(nq 0 0 rfl)
 .obtain⟨x3,x4,x5,x6,x7,x8,x9,n1,xs,cs,rfl,ex,hs,iT,hp,rep,jW,kE,hpos,bD⟩:=h;have Ca:=rep.length;refine(p8 _ rfl _ rfl _ rfl p2 xs ⟨rfl,.inl (SqL.of hp),(oq st n1 _ ⟨rfl,hs,iT,by lia,by lia,λn3 i2 GA xA stA hnA AL h21=>?_⟩)⟩);obtain⟨j2,rfl⟩:=gp AL;have rX:j2<xs.length:=by lia
  obtain⟨b,r,c,hv,hb,gD⟩:=Gd jW rep (ab rX);have nbs:b≠st:=ux hb hs (by intro z;cases z);have ER:=ex.trans xA;have pA:=xA.at (Ne.symm n2) hp;have rA:=rep.tk (xA.one hs) jW.imm;refine(nw p2 xs _ (.ref b) ⟨rfl,rfl,SqL.of pA,ng (by rw[ab rX,hv]),(n0 b _ rfl (SqT.of (xA.at nbs hb)) rfl _ _ rfl _ ⟨_,rfl,rfl,?_⟩)⟩);refine⟨sZ2,λq1 Cq=>?_⟩;generalize g1:upd GA q1 _=G1 at *;obtain⟨t1,u1⟩:=al Cq g1;clear g1;refine⟨sZ2,λq2 oZ=>?_⟩;generalize g1:upd G1 q2 _=G2 at *;obtain⟨t2,u2⟩:=al oZ g1;clear g1;refine⟨_,rfl,sZ2,λq3 Hu=>?_⟩;generalize g1:upd G2 q3 _=G3 at *;obtain⟨t3,u3⟩:=al Hu g1;clear g1;refine⟨_,rfl,sZ2,λq4 hq4=>?_⟩;generalize g1:upd G3 q4 _=G4 at *;obtain⟨t4,u4⟩:=al hq4 g1;clear g1;refine⟨sZ4,λq5 hq5=>?_⟩;generalize g1:upd G4 q5 _=G5 at *;obtain⟨t5,u5⟩:=al hq5 g1;clear g1;have tA:Same GA G5:=(((t1.trans t2).trans t3).trans t4).trans t5;have IQ:∀m:Nat,m<4->∃(b':aE)(d e:Int),[V.ref q1,.ref q2,.ref q3,.ref q4][m]?=some (.ref b')/\G5 b'=some (.tup [.int d,.int e]):=λm hm=>by
   match m,hm with
   | 0,_=>exact(oq q1 _ _ ⟨rfl,t5 _ _ (t4 _ _ (t3 _ _ (t2 _ _ u1)))⟩)
   | 1,_=>exact(oq q2 _ _ ⟨rfl,t5 _ _ (t4 _ _ (t3 _ _ u2))⟩)
   | 2,_=>exact(oq q3 _ _ ⟨rfl,t5 _ _ (t4 _ _ u3)⟩)
   | 3,_=>exact(oq q4 _ _ ⟨rfl,t5 _ _ u4⟩)
  have Eg:=tA _ _ stA;have nq5:q5≠st:=λe=>by rw[e,Eg]at u5;cases yS:hnA;rename_i h;obtain⟨_,h,_⟩:=h;rw[h]at u5;simp at u5
  refine(o6 _ rfl st n3 4 ⟨rfl,Eg,hnA,by decide,by decide,λn4 i3 GC xC stC hnC Db h31=>?_⟩);obtain⟨j3,rfl⟩:=gp Db;obtain⟨b',d,e,eY,C4⟩:=IQ j3 (by lia);have gJ:b'≠st:=ux C4 Eg (by intro z;cases z);have exC:=(ER.trans (Ex.of_same tA)).trans xC;have pC:=xC.at (Ne.symm n2) (tA _ _ pA);have rC:=(rA.same tA).tk (xC.one Eg) jW.imm;refine(nw q5 _ _ (.ref b') ⟨rfl,rfl,SqL.of (xC.at nq5 u5),ng eY,(n0 b' _ rfl (SqT.of (xC.at gJ C4)) rfl _ _ rfl _ ⟨_,rfl,rfl,?_⟩)⟩);refine(rh _ rfl _ rfl _ _ rfl rfl _ ⟨rfl,(o8 _ rfl _ _ ⟨rfl,rfl,sZ2,λt6 ht6=>?_⟩)⟩);generalize g1:upd GC t6 _=GD at *;obtain⟨s6,c6⟩:=al ht6 g1;clear g1;have pD:=s6 _ _ pC;refine(mz _ rfl (.tuple [.int (r+d),.int (c+e)]) p2 xs cs ⟨uq c6,rfl,.inl pD,rC.same s6,(by simp[g0,bv]),_,rfl,?_⟩);have exD:=exC.trans (Ex.of_same s6);refine u6 (λrP=>?_) (λ_=>?_)
  .refine(o4 _ rfl (.inl ⟨rfl,_,SqL.of pD⟩) _ ⟨rfl,(o7 _ rfl _ _ rfl rfl _ ⟨rfl,(o8 _ rfl _ _ ⟨rfl,rfl,sZ2,λt7 Hh=>?_⟩)⟩)⟩);generalize g1:upd GD t7 _=GE at *;obtain⟨s7,c7⟩:=al Hh g1;clear g1;have pE:=s7 _ _ pD;refine(oq p2 xs (.ref t7) ⟨rfl,rfl,pE,oe (by lia),?_⟩);have CT:Cells (cs++[.tuple [.int (r+d),.int (c+e)]]):=λz hz=>by
    rcases ay.mp hz with h|h
    .exact jW z h
    .rw[ao.mp h];exact(nq _ _ rfl)
   refine(my _ _ _ _ _ (my _ _ n4 (xs++[.ref t7]) (cs++[.tuple [.int (r+d),.int (c+e)]]) ⟨rfl,(exD.trans (Ex.of_same s7)).new Cr,by rw[ow n2];exact s7 _ _ (s6 _ _ stC),hnC,np,((rC.same (s6.trans s7)).snoc (uq c7)).tk (Tk.lst pE) CT.imm,CT,?_,by simp,by simp;lia⟩));exact aqj jW kE (by rw[if_pos rfl]at rP;exact rP) (uq c6).lay
  .exact(my _ _ _ _ _ (my _ _ n4 xs cs ⟨rfl,exD,s6 _ _ stC,hnC,pD,rC.same s6,jW,kE,hpos,by lia⟩))
 .obtain⟨x3,x4,x5,x6,x7,x8,x9,n1,xs,cs,rfl,ex,hs,iT,hp,kZ,jW,kE,hpos,bD⟩:=h;have Ca:=kZ.length;refine(qc _ rfl p2 ⟨rfl,⟨_,SqL.of hp⟩,λD1 qE=>?_⟩);refine o5 (xs:=xs) (λi zs J=>Same G J/\zs=((cs.take i).map yg).map V.int) ⟨Same.fresh _ qE,rfl⟩ (λi zs J p=>SqL.of (p.1 _ _ hp)) (λi x zs J hx hi bA bY p=>?_) (λzs G1 Da bY p=>?_)
  .obtain⟨p1,rfl⟩:=p;obtain⟨b,r,c,rfl,hb,gD⟩:=Gd jW kZ hx;refine⟨Agree.set (Agree.refl _) rfl,?_⟩;dsimp only[jH];refine um ?_;refine(mz _ rfl b _ _ _ ⟨rfl,rfl,SqT.of (p1 _ _ hb),ng (j:=0) rfl,qm (by lia) bA bY ⟨p1.new qE,?_⟩⟩);rw[ou yg gD,bn];rfl
  obtain⟨Gx,rfl⟩:=p;rw[av (by lia)]at Da;refine(nq D1 _ ⟨rfl,Da,by rw[ah];exact hpos,λGU aD1 bD1=>?_⟩);have eD1:=DS aD1 bD1;clear aD1 bD1;have Cs:=Gx _ _ hp;have BM:=kZ.same Gx;refine(qc _ rfl p2 ⟨rfl,⟨_,SqL.of Cs⟩,λD2 gO=>?_⟩);refine o5 (xs:=xs) (λi zs J=>Same G1 J/\zs=((cs.take i).map zh).map V.int) ⟨Same.fresh _ gO,rfl⟩ (λi zs J p=>SqL.of (p.1 _ _ Cs)) (λi x zs J hx hi bA bY p=>?_) (λzs G2 C9 bY p=>?_)
  .obtain⟨p1,rfl⟩:=p;obtain⟨b,r,c,rfl,hb,gD⟩:=Gd jW BM hx;refine⟨Agree.set (Agree.refl _) rfl,?_⟩;dsimp only[jH];refine um ?_;refine(mz _ rfl b _ _ _ ⟨rfl,rfl,SqT.of (p1 _ _ hb),ng (j:=1) rfl,qm (by lia) bA bY ⟨p1.new gO,?_⟩⟩);rw[ou zh gD,bn];rfl
  obtain⟨sD2,rfl⟩:=p;rw[av (by lia)]at C9;refine(nq D2 _ ⟨rfl,C9,by rw[ah];exact hpos,λGT aD2 bD2=>?_⟩);have eD2:=DS aD2 bD2;clear aD2 bD2;have BI:=Gx.trans sD2;have kD:=BI _ _ hp;have jL:=kZ.same BI;have uT:=BI _ _ hs;refine(qc _ rfl p2 ⟨rfl,⟨_,SqL.of kD⟩,λD hD=>?_⟩);have nD:D≠st:=λe=>by rw[e,uT]at hD;cases hD
  refine o5 (xs:=xs) (λi zs J=>Ex [st] G2 J/\(∃n:List V,J st=some (.lst n)/\StL n)/\∃ds:List PyData,ds.length=i/\RepAll J (ds.map (Bo GU GT)) zs/\(∀d∈ds,SgD d)/\ds.map cl=(cs.take i).map cl) ⟨Ex.fresh hD,⟨n1,by rw[ow (Ne.symm nD)];exact uT,iT⟩,[],rfl,rfl,(λd hd=>by cases hd),rfl⟩ (λi zs J p=>SqL.of (p.1.at (Ne.symm n2) kD)) (λi x zs J hx hi bA bY p=>?_) (λzs J bA bY p=>?_)
  .obtain⟨p1,⟨n5,iD,lJ⟩,ds,pJ,lB,uS,pK⟩:=p;obtain⟨b,r,c,rfl,hb,gD⟩:=Gd jW jL hx;have gJ:b≠st:=ux hb uT (by intro z;cases z);refine(n0 b _ rfl (SqT.of (p1.at gJ hb)) rfl _ _ rfl _ ⟨_,rfl,rfl,?_⟩);refine⟨Agree.set (Agree.set (Agree.refl _) rfl) rfl,?_⟩;dsimp only[jH];refine um ?_;refine(rh _ rfl _ rfl _ _ rfl rfl _ ⟨rfl,(o7 _ rfl _ _ rfl rfl _ ⟨rfl,(oq st n5 3 ⟨rfl,iD,lJ,by decide,by decide,λn6 i6 J6 IW oQ rQ AK IJ=>?_⟩)⟩)⟩);obtain⟨j6,rfl⟩:=gp AK;obtain⟨k,hk,EC⟩:=aab (j:=j6) (by lia);refine(oq _ _ k ⟨rfl,rfl,(by decide +kernel),ng hk,sZ3,λt ht=>?_⟩);generalize g1:upd J6 t _=J7 at *;obtain⟨s7,e7⟩:=al ht g1;clear g1;have D8:=s7 _ _ (IW.at nD bA);have Ck:∀d∈ds++[PyData.tuple [.int r,.int c,.str ⟨#[k]⟩]],SgD d:=λd hd=>by
    rcases ay.mp hd with h|h
    .exact uS d h
    .rw[ao.mp h];exact(oq r c _ ⟨rfl,EC.1,EC.2⟩)
   refine qm (by lia) D8 bY ⟨(p1.trans (IW.trans (Ex.of_same s7))).new (BI.free hD |> λ_=>hD),⟨n6,by rw[ow (Ne.symm nD)];exact s7 _ _ oQ,rQ⟩,ds++[.tuple [.int r,.int c,.str ⟨#[k]⟩]],by rw[bu,pJ];rfl,?_,Ck,?_⟩
   .rw[bn];have im:=ajv GU GT Ck;rw[bn]at im;exact(((lB.tk (IW.one iD) (ajv _ _ uS)).same s7).snoc (zy e7 (ok1 (by have:=EC.2;lia)))).tk (Tk.lst D8) im
   .rw[bn,pK,ou cl gD];rfl
  .obtain⟨p1,⟨n5,iD,lJ⟩,ds,pJ,lB,uS,pK⟩:=p;rw[av (by lia)]at pK;have pre:Pre ds:=⟨uS,by lia,by lia,by rw[pK];exact kE⟩;have er:ds.map yg=cs.map yg:=by have:=congrArg (List.map Prod.fst) pK;rw[cq,cq]at this;exact this
   have ec:ds.map zh=cs.map zh:=by have:=congrArg (List.map Prod.snd) pK;rw[cq,cq]at this;exact this
   have esh:ds.map (Bo GU GT)=xc ds:=by unfold xc;rw[er,ec,eD1,eD2]
   rw[esh]at lB;have zr:=Zr.shift pre;obtain⟨kk,lI⟩:∃kk,Rows kk (xc ds):=⟨_,yk zr.pre.spots⟩;refine(nw D zs _ kk ⟨rfl,bA,lB,lI,λl ys es hl pe _ re=>?_⟩);generalize g1:upd J l _=J1 at *;obtain⟨s8,e8⟩:=al hl g1;clear g1;refine(nq l ys ⟨rfl,.inl ⟨SqL.of e8,λt ht=>?_⟩⟩);generalize g1:upd J1 t _=J2 at *;obtain⟨s9,e9⟩:=al ht g1;clear g1;exact q t J2 n5 es ((ex.trans (Ex.of_same BI)).trans (p1.trans (Ex.of_same (s8.trans s9)))) ((s8.trans s9) _ _ iD) lJ (zr.perm pe) (nq t ys ⟨rfl,e9,re.same s9⟩)
end
end K22
namespace L3
open PySem PySem.Spec PyProof.Rows L2 SeqAt
open AutoSeq1 (wpAny_loadPart')
def ipS:TIp:=λx y H Q=>∃a b:Str,x=.str a/\y=.str b/\a.length+b.length<=aF/\Q (.str (a++b)) H
theorem aqe{X:Cx}:PIp X .Add ipS:=by intro aC s σ H x y v u Q I r1 r2 h;obtain⟨i,j,e1,e2,hz,q⟩:=h;subst e1;subst e2;obtain⟨t,rfl⟩:=r1;obtain⟨t',rfl⟩:=r2;exact iadd_str (λt'' tk=>⟨.str _,H,I.tok _,⟨_,rfl⟩,q⟩) hz
end L3
namespace K22
open PySem PyProof.Rows L2 L3
theorem xyz{j:Nat}(h:j<3):∃c,(ba "xyz").cps.toList[j]?=some c:=⟨_,ab (by rw[show(ba "xyz").cps.toList.length=3 by decide +kernel];exact h)⟩
def KindM(H:Hp)(v:V)(k:List PyData×Nat)(m:Int×Option Int):Prop:=∃b nm md fr xs,v=.ref b/\H b=some (.tup [.str nm,.int m.1,Dv m.2,.str md,.ref fr])/\H fr=some (.tup xs)/\RepAll H k.1 xs/\Zr k.1/\Bi md k.2
theorem KindM.tk{H H':Hp}{v:V}{k:List PyData×Nat}{m:Int×Option Int}(h:KindM H v k m)(t:Tk H H'):KindM H' v k m:=by obtain⟨b,nm,md,fr,xs,rfl,h1,h2,h3,h4,h5⟩:=h;exact(my b nm md fr xs ⟨rfl,t _ _ h1,t _ _ h2,h3.tk t (Spots.imm h4.pre.spots),h4,h5⟩)
def KindsM(H:Hp)(aU:List V)(ks:List (List PyData×Nat))(ms:List (Int×Option Int)):Prop:=aU.length=ks.length/\aU.length=ms.length/\∀(i:Nat) v k m,aU[i]?=some v->ks[i]?=some k->ms[i]?=some m->KindM H v k m
theorem KindsM.tk{H H':Hp}{aU:List V}{ks:List (List PyData×Nat)}{ms:List (Int×Option Int)}(h:KindsM H aU ks ms)(t:Tk H H'):KindsM H' aU ks ms:=⟨h.1,h.2.1,λi v k m h1 h2 h3=>(h.2.2 i v k m h1 h2 h3).tk t⟩
theorem DR{α:Type}{xs:List α}{x y:α}{i:Nat}(h:(xs++[x])[i]?=some y):xs[i]?=some y\/(i=xs.length/\x=y):=by
 by_cases hi:i<xs.length
 .rw[cu hi]at h;exact .inl h
 .have hl:=(ae.mp h).1;rw[bu,fq]at hl;have e:i=xs.length:=by lia
  subst e;rw[cf (aq _),j8]at h;exact .inr ⟨rfl,cr h⟩
theorem KindsM.snoc{H:Hp}{aU:List V}{ks:List (List PyData×Nat)}{ms:List (Int×Option Int)}{v:V}{k:List PyData×Nat}{m:Int×Option Int}(h:KindsM H aU ks ms)(h':KindM H v k m):KindsM H (aU++[v]) (ks++[k]) (ms++[m]):=by
 obtain⟨l1,l2,hs⟩:=h;refine⟨by simp[l1],by simp[l2],λi v' k' m' h1 h2 h3=>?_⟩;rcases DR h1 with a1|⟨e1,rfl⟩
 .have hi:=(ae.mp a1).1;rcases DR h2 with a2|⟨e2,_⟩
  .rcases DR h3 with a3|⟨e3,_⟩
   .exact hs i _ _ _ a1 a2 a3
   .lia
  .lia
 .rcases DR h2 with a2|⟨_,rfl⟩
  .have:=(ae.mp a2).1;lia
  .rcases DR h3 with a3|⟨_,rfl⟩
   .have:=(ae.mp a3).1;lia
   .exact h'
theorem KindsM.kinds{H:Hp}{aU:List V}{ks:List (List PyData×Nat)}{ms:List (Int×Option Int)}(h:KindsM H aU ks ms)(h6:ms.length<=6):KindsK H aU ks/\BndK H aU ms:=by
 obtain⟨l1,l2,hs⟩:=h;refine⟨⟨l1,λi v k h1 h2=>?_⟩,l2,h6,λi v m h1 h3=>?_⟩
 .have hi:=(ae.mp h1).1;obtain⟨b,nm,md,fr,xs,rfl,g1,g2,g3,g4,g5⟩:=hs i v k _ h1 h2 (ab (by lia));exact(my b nm _ _ md (nq fr xs ⟨rfl,g1,g2,g3,g4,g5⟩))
 .have hi:=(ae.mp h1).1;obtain⟨b,nm,md,fr,xs,rfl,g1,g2,g3,g4,g5⟩:=hs i v _ m h1 (ab (by lia)) h3;exact(nw b _ _ _ ⟨rfl,g1⟩)
seal L2.PE L2.PT L2.PW L2.PA L2.PS L2.PSs L2.PG L2.PGs L2.PI L2.PO
section
variable{P:aI}{w:aK}{K:aj}{mg:Str->Option aA}{base:Heap}{f:aE}{fd:aP}
def alg:Sp:=λvs H Q _=>∃(st:aE)(n:List V)(m:Int),vs=[.ref st,.int m]/\H st=some (.lst n)/\StL n/\0<m/\m<=3/\
 ∀(r:aE)(H':Hp)(n':List V)(aU:List V) (ks:List (List PyData×Nat)) (ms:List (Int×Option Int)),Ex [st] H H'->H' st=some (.lst n')->StL n'->H' r=some (.tup aU)->KindsM H' aU ks ms->0<ms.length->ms.length<=3->(∀q∈ms,0<=q.1)->Q (.ref r) H'
theorem scKinds:nu ["_law_state","_law_many","_law_kinds_here","_law_k","_law_least","_law_most","_law_mode","_law_name","_law_size"] ["_law_state","_law_many"] (nh KM):={}
theorem anc(B:∀x∈v7,mg x=none)(bO:Bj P w K mg base)(Ea:Fn P w K mg base "_law_form" 2 ["_law_state","_law_most"] ao9)(F:Fun K "_law_kinds" "_law_kinds" KM f fd):qt P w K mg base CX0 3 f fd ["_law_state","_law_many"] alg:=by
 refine F.ok (k:=2) scKinds (λvs H Q E h=>?_) (λbN A outer s H vs Q E hr h=>?_)
 .obtain⟨_,_,_,rfl,_⟩:=h;rfl
 obtain⟨st,n,m,rfl,hst,hn,Aw,yT,q⟩:=h;have hu:=hr.units;have l3:(ba "xyz").length<=aF:=by decide +kernel
 have l8:(ba "abcdefgh").length=8:=by decide +kernel
 refine⟨_,(mw (n8 (i:=2) scKinds.nd rfl (Or.inl rfl) (qa mr))
  (mw (qj cj rfl (sV rfl (B "range" (by decide)) (m9 (ph qv mx (oj bO hr (by decide) rfl (m9 (pv 0) (m9 (pv 1) mr)))) mr)) (nc (i:=3) scKinds.nd rfl (Or.inl rfl)) (mw (n8 (i:=4) scKinds.nd rfl (Or.inl rfl) (ny pi (qa (m9 mx (m9 mx (m9 mx (m9 mx mr))))) (oj bO hr (by decide) rfl (m9 (pv 0) (m9 mx mr))) (λ_ _=>rfl)))
  (mw (n8 (i:=5) scKinds.nd rfl (Or.inl rfl) (ny pi (qa (m9 sx (m9 sx (m9 (ph qv (pv 4) (oj bO hr (by decide) rfl (m9 (pv 0) (m9 mx mr)))) (m9 (ph qv mx (oj bO hr (by decide) rfl (m9 (pv 0) (m9 mx mr)))) mr))))) (oj bO hr (by decide) rfl (m9 (pv 0) (m9 mx mr))) (λ_ _=>rfl)))
  (mw (n8 (i:=6) scKinds.nd rfl (Or.inl rfl) (ny pi (qa (m9 qe (m9 qe (m9 qe mr)))) (oj bO hr (by decide) rfl (m9 (pv 0) (m9 mx mr))) (λ_ _=>rfl)))
  (mw (n8 (i:=7) scKinds.nd rfl (Or.inl rfl) (ph ain (ul as6 qe yo (vx (ph qv mx (oj bO hr (by decide) rfl (m9 (pv 0) (m9 mx mr)))))) (ny xq qe (pv 3) (λ_ _=>rfl))))
  (mw (n8 (i:=8) scKinds.nd rfl (Or.inl rfl) (ny pi (qa (m9 mx (m9 mx (m9 mx (m9 mx mr))))) (oj bO hr (by decide) rfl (m9 (pv 0) (m9 mx mr))) (λ_ _=>rfl)))
  (m8 (rq (wq fc fx fy qo (pv 2) (m9 (oh (m9 (pv 7) (m9 (pv 4) (m9 (pv 5) (m9 (pv 6) (m9 (oj Ea hr (by decide) rfl (m9 (pv 0) (m9 (pv 8) mr))) mr)))))) mr))))))))))
  (m8 (nv (yp p6 rfl (B "tuple" (by decide)) cZ (m9 (pv 2) mr)))))),?_⟩
 refine⟨sZ0,λkl qC=>?_⟩;generalize g1:upd H kl _=H4 at *;obtain⟨s4,e4⟩:=al qC g1;clear g1;have En:kl≠st:=λe=>by rw[e,hst]at qC;cases qC
 have sK:Ex [st] H H4:=Ex.of_same s4;refine(nj _ rfl _ rfl st n m ⟨rfl,s4 _ _ hst,hn,Aw,by lia,λn5 i5 H5 Dd iD lJ h50 h51=>(nq _ _ ⟨rfl,rfl,?_⟩)⟩);have ex5:=sK.trans Dd;have kl5:=Dd.at En e4;obtain⟨kn,ekn,rV,EC⟩:∃kn:Nat,1+i5=((kn:Nat):Int)/\0<kn/\kn<=3:=⟨(1+i5).toNat,by lia,by lia,by lia⟩;refine⟨(kn:Nat),congrArg (λz=>[V.int z]) ekn,by lia,by lia,?_⟩;rw[cg];refine qy (lo:=0) (λi σ' G=>∃(y3 y4 y5 y6 y7 y8:Option V)(n:List V)(aU:List V) (ks:List (List PyData×Nat)) (ms:List (Int×Option Int)),σ'=[some (.ref st),some (.int m),some (.ref kl),y3,y4,y5,y6,y7,y8]/\(∀b o,b≠st->b≠kl->H5 b=some o->G b=some o)/\G st=some (.lst n)/\StL n/\G kl=some (.lst aU)/\KindsM G aU ks ms/\aU.length=i/\∀q∈ms,0<=q.1) ?_ (λi σ' G hi h=>?_) (λσ' G h=>?_)
 .exact(my _ _ _ _ _ (my _ n5 ([]) ([]) ([]) ⟨rfl,λb o _ _ h=>h,iD,lJ,kl5,⟨rfl,rfl,λi v k m h=>by cases h⟩,rfl,λq hq=>by cases hq⟩))
 .obtain⟨y3,y4,y5,y6,y7,y8,m0,aU,ks,ms,rfl,ex,uI,yU,Er,hK,CC,Cv⟩:=h;refine⟨sZ4,λa1 h1=>?_⟩;generalize g1:upd G a1 _=G1 at *;obtain⟨s1,e1⟩:=al h1 g1;clear g1;have na1:a1≠st:=λe=>by rw[e,uI]at h1;cases h1
  refine(o6 _ rfl st m0 4 ⟨rfl,s1 _ _ uI,yU,by decide,by decide,λm1 d1 G2 x2 eR HU d10 d11=>?_⟩);obtain⟨v,hv,mN⟩:=E6 (α:=V) (xs:=[V.int 0,V.int 0,V.int 0,V.int 1]) d10 d11;obtain⟨le,rfl,lX⟩:∃le:Int,v=.int le/\0<=le:=by simp only[bb,jc,or_false]at mN;rcases mN with rfl|rfl|rfl|rfl<;>exact⟨_,rfl,by decide⟩
  refine(nw a1 _ _ (.int le) ⟨rfl,rfl,SqL.of (x2.at na1 e1),hv,?_⟩);have wA:Tk G G2:=Tk.trans (Tk.of_same s1) (x2.one (s1 _ _ uI));have ES:∀b o,b≠st->G b=some o->G2 b=some o:=λb o hb h=>x2.at hb (s1 _ _ h);clear hv mN e1;refine(nj _ rfl _ rfl st m1 3 ⟨rfl,eR,HU,by decide,by decide,λm2 d2 G3 x3 fJ tM d20 d21=>(nq _ _ ⟨rfl,rfl,?_⟩)⟩);refine(o6 _ rfl st m2 63 ⟨rfl,fJ,tM,by decide,by decide,λm2' d2' G3' x3' xW HS d20' d21'=>(nq _ _ ⟨rfl,rfl,sZ4,λa2 h2=>?_⟩)⟩);generalize g1:upd G3' a2 _=G4 at *;obtain⟨qM,AO⟩:=al h2 g1;clear g1;have dP:a2≠st:=λe=>by rw[e,xW]at h2;cases h2
  refine(o6 _ rfl st m2' 4 ⟨rfl,qM _ _ xW,HS,by decide,by decide,λm3 d3 G5 x5 xV hm3 d30 d31=>?_⟩);obtain⟨v,hv,mN⟩:=E6 (α:=V) (xs:=[V.non,V.non,V.int (le+d2),V.int (2+d2')]) d30 d31;obtain⟨fm,rfl⟩:∃fm,v=Dv fm:=by
   simp only[bb,jc,or_false]at mN;rcases mN with rfl|rfl|rfl|rfl
   .exact⟨none,rfl⟩
   .exact⟨none,rfl⟩
   .exact⟨some _,rfl⟩
   .exact⟨some _,rfl⟩
  refine(nw a2 _ _ (Dv fm) ⟨rfl,rfl,SqL.of (x5.at dP AO),hv,?_⟩);have tk5:Tk G G5:=Tk.trans wA (Tk.trans (x3.one eR) (Tk.trans (x3'.one fJ) (Tk.trans (Tk.of_same qM) (x5.one (qM _ _ xW)))));have Dc:∀b o,b≠st->G b=some o->G5 b=some o:=λb o hb h=>x5.at hb (qM _ _ (x3'.at hb (x3.at hb (ES b o hb h))));clear hv mN AO;refine⟨sZ3,λa3 h3=>?_⟩;generalize g1:upd G5 a3 _=G6 at *;obtain⟨s6,e6⟩:=al h3 g1;clear g1;have cA:a3≠st:=λe=>by rw[e,xV]at h3;cases h3
  refine(o6 _ rfl st m3 3 ⟨rfl,s6 _ _ xV,hm3,by decide,by decide,λm4 d4 G7 x7 tE hm4 d40 d41=>?_⟩);obtain⟨v,hv,mN⟩:=E6 (α:=V) (xs:=[V.str "still",V.str "turn",V.str "flip"]) d40 d41;obtain⟨md,kk,rfl,hmd⟩:∃md kk,v=.str md/\Bi md kk:=by
   simp only[bb,jc,or_false]at mN;rcases mN with rfl|rfl|rfl
   .exact(nq _ 1 ⟨rfl,.inl ⟨rfl,rfl⟩⟩)
   .exact(nq _ 4 ⟨rfl,.inr (.inl ⟨rfl,rfl⟩)⟩)
   .exact(nq _ 8 ⟨rfl,.inr (.inr ⟨rfl,rfl⟩)⟩)
  refine(nw a3 _ _ (.str md) ⟨rfl,rfl,SqL.of (x7.at cA e6),hv,?_⟩);have tk7:Tk G G7:=Tk.trans tk5 (Tk.trans (Tk.of_same s6) (x7.one (s6 _ _ xV)));have ex7:∀b o,b≠st->G b=some o->G7 b=some o:=λb o hb h=>x7.at hb (s6 _ _ (Dc b o hb h));clear hv mN e6;obtain⟨ch,hch⟩:=xyz (j:=i) (by lia);refine(o6 _ rfl st m4 6 ⟨rfl,tE,hm4,by decide,by decide,λm5 d5 G8 x8 Gp hm5 d50 d51=>(nq _ _ ⟨rfl,rfl,(qc _ rfl _ ⟨rfl,(by rw[l8];decide),?_⟩)⟩)⟩);have mP:=Txt.slice_le (ba "abcdefgh") none (some (1+d5));rw[l8]at mP;generalize Txt.slice (ba "abcdefgh") none (some (1+d5))=za at *;refine(o6 _ rfl _ _ ch ⟨rfl,rfl,l3,(by rw[Int.zero_add];exact ng hch),(nq _ _ ⟨rfl,rfl,(by show za.length+1<=aF;exact gj (oe (by lia))),?_⟩)⟩);generalize za++(⟨#[ch]⟩:Str)=nm at *;have tk8:=Tk.trans tk7 (x8.one tE);have ex8:∀b o,b≠st->G b=some o->G8 b=some o:=λb o hb h=>x8.at hb (ex7 b o hb h);refine⟨sZ4,λa4 h4=>?_⟩;generalize g1:upd G8 a4 _=G9 at *;obtain⟨s9,e9⟩:=al h4 g1;clear g1;have na4:a4≠st:=λe=>by rw[e,Gp]at h4;cases h4
  refine(o6 _ rfl st m5 4 ⟨rfl,s9 _ _ Gp,hm5,by decide,by decide,λm6 d6 Ga xa sta HR d60 d61=>?_⟩);obtain⟨v,hv,mN⟩:=E6 (α:=V) (xs:=[V.int 4,V.int 4,V.int 4,V.int 6]) d60 d61;obtain⟨sz,rfl,Hk,Hi⟩:∃sz:Int,v=.int sz/\0<sz/\sz<=6:=by simp only[bb,jc,or_false]at mN;rcases mN with rfl|rfl|rfl|rfl<;>exact⟨_,rfl,by decide,by decide⟩
  refine(nw a4 _ _ (.int sz) ⟨rfl,rfl,SqL.of (xa.at na4 e9),hv,?_⟩);have tka:Tk G Ga:=Tk.trans tk8 (Tk.trans (Tk.of_same s9) (xa.one (s9 _ _ Gp)));have exa:∀b o,b≠st->G b=some o->Ga b=some o:=λb o hb h=>xa.at hb (s9 _ _ (ex8 b o hb h));clear hv mN e9;refine(o4 _ rfl (.inl ⟨rfl,_,SqL.of (exa _ _ En Er)⟩) _ ⟨rfl,(ut _ rfl _ rfl _ ⟨rfl,(nj _ rfl _ rfl st m6 sz ⟨rfl,sta,HR,Hk,Hi,λr Gb m7 es xb stb hm7 zr yB=>?_⟩)⟩)⟩);refine⟨(by show 5<=aF;decide),λb hb=>?_⟩;generalize g1:upd Gb b _=Gc at *;obtain⟨sc,ec⟩:=al hb g1;clear g1;have exc:∀c o,c≠st->G c=some o->Gc c=some o:=λc o hc h=>sc _ _ (xb.at hc (exa c o hc h));have tkc:Tk G Gc:=Tk.trans tka (Tk.trans (xb.one sta) (Tk.of_same sc));have klc:=exc _ _ En Er;obtain⟨r',rxs,er,hrb,yB⟩:=yB;cases er;have kM:KindM Gc (.ref b) (es,kk) (le,fm):=(my b _ md r rxs ⟨rfl,ec,sc _ _ hrb,yB.same sc,zr,hmd⟩);refine(oq kl aU (.ref b) ⟨rfl,rfl,klc,oe (by lia),?_⟩);have hK':=((hK.tk tkc).snoc kM).tk (Tk.lst (o:=.lst (aU++[.ref b])) klc);refine(my _ _ _ _ _ (my _ m7 (aU++[.ref b]) (ks++[(es,kk)]) (ms++[(le,fm)]) ⟨rfl,λc o hc1 tS h=>?_,?_,hm7,np,hK',by simp[CC],λq hq=>?_⟩))
  .rw[ow tS];exact exc c o hc1 (ex c o hc1 tS h)
  .rw[ow (Ne.symm En)];exact sc _ _ stb
  .rcases ay.mp hq with h|h
   .exact Cv q h
   .rw[ao.mp h];exact lX
 .obtain⟨y3,y4,y5,y6,y7,y8,m0,aU,ks,ms,rfl,ex,uI,yU,Er,hK,CC,Cv⟩:=h;have l1:=hK.1;have l2:=hK.2.1;refine(o8 _ rfl kl aU ⟨rfl,.inl ⟨SqL.of Er,λt ht=>?_⟩⟩);generalize g1:upd G t _=G1 at *;obtain⟨s1,e1⟩:=al ht g1;clear g1;refine q t G1 m0 aU ks ms (λb o hb h=>?_) (s1 _ _ uI) yU e1 (hK.tk (Tk.of_same s1)) (by lia) (by lia) Cv;have nb:b≠kl:=λz=>by rw[z,qC]at h;cases h
  exact s1 _ _ (ex b o (by simpa using hb) nb (ex5 b o hb h))
end
noncomputable def menu:Str:=ba "......,,,,.##Aab"
theorem aln{j:Nat}(h:j<16):∃c,menu.cps.toList[j]?=some c/\sgB c=true:=by
 have l:menu.cps.toList.length=16:=by decide +kernel
 have a:∀c∈menu.cps.toList,sgB c=true:=by decide +kernel
 exact⟨_,ab (by lia),a _ (eu _)⟩
theorem aha:menu.length<=aF:=by decide +kernel
theorem azm(ws:List Nat)(k:Nat):(⟨ws.toArray⟩:Str)++(⟨#[k]⟩:Str)=⟨(ws++[k]).toArray⟩:=by
 show(⟨ws.toArray ++ #[k]⟩:Str)=_
 congr 1
 simp
def RwS(wd:Nat)(z:Str):Prop:=(Tx z/\∀c∈z.cps.toList,sgB c=true)/\z.length=wd
theorem ape{ws:List Nat}(h:∀c∈ws,sgB c=true)(h8:ws.length<=8):RwS ws.length ⟨ws.toArray⟩:=by
 refine⟨⟨⟨by show ws.toArray.size<=80;rw[a9];lia,λc hc=>?_⟩,λc hc=>?_⟩,by show ws.toArray.size=_;rw[a9]⟩
 .exact Bh (h c (by simpa using hc))
 .exact h c (by simpa using hc)
section
variable{P:aI}{w:aK}{K:aj}{mg:Str->Option aA}{base:Heap}{f:aE}{fd:aP}
def aua:Sp:=λvs H Q _=>∃(st:aE)(n:List V)(wd:Nat),vs=[.ref st,.int (wd:Nat)]/\H st=some (.lst n)/\StL n/\0<wd/\wd<=8/\
 ∀(p:aE)(H':Hp)(n':List V)(M:Mat),Ex [st] H H'->H' st=some (.lst n')->StL n'->FlM H' p M->M.h*M.w<=16->Q (.ref p) H'
theorem scTwo:nu ["_law_state","_law_wide","_law_rows","_law_row"] ["_law_state","_law_wide"] (nh JF):={}
theorem au5(B:∀x∈v7,mg x=none)(bO:Bj P w K mg base)(F:Fun K "_law_two_rows" "_law_two_rows" JF f fd):qt P w K mg base CX0 2 f fd ["_law_state","_law_wide"] aua:=by
 refine F.ok (k:=1) scTwo (λvs H Q E h=>?_) (λbN A outer s H vs Q E hr h=>?_)
 .obtain⟨_,_,_,rfl,_⟩:=h;rfl
 obtain⟨st,n,wd,rfl,hst,hn,hw0,hw8,q⟩:=h;refine⟨_,(mw (n8 (i:=2) scTwo.nd rfl (Or.inl rfl) (qa mr))
  (mw (qj cj rfl (sV rfl (B "range" (by decide)) (m9 mx mr)) (nc (i:=3) scTwo.nd rfl (Or.inl rfl)) (m8 (rq (wq fc fx fy qo (pv 2) (m9 (wq mm PySem.F.slot_str_join PySem.F.type_str_join aj3 qe (m9 (o9 ["_law_column","_law_state"] [none,some 0] rfl rfl (by decide +kernel) (by decide +kernel) rfl rfl (sV rfl (B "range" (by decide)) (m9 (pv 1) mr)) (λ_=>(nc (i:=0) (show(["_law_column","_law_state"]:List PySem.Str).Nodup by decide +kernel) rfl (Or.inl rfl))) (λ_=>qh) (λ_=>(ny xq qe (oj bO hr (by decide) rfl (m9 (pv 1) (m9 mx mr))) (λ_ _=>rfl)))) mr)) mr)))))
  (m8 (nv (yp p6 rfl (B "tuple" (by decide)) cZ (m9 (pv 2) mr)))))),?_⟩
 refine⟨sZ0,λr gZ=>?_⟩;generalize g1:upd H r _=H1 at *;obtain⟨s1,e1⟩:=al gZ g1;clear g1;have nr:r≠st:=λe=>by rw[e,hst]at gZ;cases gZ
 refine⟨2,rfl,by decide,by decide,?_⟩;refine qy (n:=2) (lo:=0) (λi σ' G=>∃(y3:Option V)(n:List V)(zs:List Str),σ'=[some (.ref st),some (.int (wd:Nat)),some (.ref r),y3]/\Ex [st] H G/\G st=some (.lst n)/\StL n/\G r=some (.lst (zs.map V.str))/\zs.length=i/\∀z∈zs,RwS wd z) ?_ (λi σ' G hi h=>?_) (λσ' G h=>?_)
 .exact(oq _ n ([]) ⟨rfl,Ex.of_same s1,s1 _ _ hst,hn,e1,rfl,λz hz=>by cases hz⟩)
 .obtain⟨y3,n4,zs,rfl,sK,cM,tL,r4,vE,iH⟩:=h;refine⟨_,rfl,.inl ⟨rfl,_,SqL.of r4⟩,rfl,?_⟩;refine(qc _ rfl _ ⟨rfl,by lia,by lia,λD hD=>?_⟩);have nD:D≠st:=λe=>by rw[e,cM]at hD;cases hD
  have nDr:D≠r:=λe=>by rw[e,r4]at hD;cases hD
  rw[cg];refine aci (lo:=0) (λj ys J=>∃(n5:List V)(ws:List Nat),Ex [st] G J/\J st=some (.lst n5)/\StL n5/\ys=ws.map chV/\ws.length=j/\∀c∈ws,sgB c=true) ?_ (λj ys J hj bA fQ p=>?_) (λys J bA fQ p=>?_)
  .exact(nq n4 ([]) ⟨Ex.fresh hD,by rw[ow (Ne.symm nD)];exact cM,tL,rfl,rfl,λw hw=>by cases hw⟩)
  .obtain⟨n5,ws,EO,oQ,lJ,rfl,rS,wP⟩:=p;refine⟨Agree.set (Agree.refl _) rfl,?_⟩;dsimp only[jH];refine um ?_;refine(o6 _ rfl st n5 16 ⟨rfl,oQ,lJ,by decide,by decide,λn6 i6 J6 x6 tE rQ AK IJ=>?_⟩);obtain⟨j6,rfl⟩:=gp AK;obtain⟨c,hc,lH⟩:=aln (j:=j6) (by lia);refine(oq _ _ c ⟨rfl,rfl,aha,ng hc,?_⟩);refine qm (by lia) (x6.at nD bA) fQ (nq n6 (ws++[c]) ⟨(EO.trans x6).new hD,?_,rQ,by rw[bn];rfl,by simp[rS],λw hw=>?_⟩)
   .rw[ow (Ne.symm nD)];exact tE
   .rcases ay.mp hw with h|h
    .exact wP w h
    .rw[ao.mp h];exact lH
  .obtain⟨n5,ws,EO,oQ,lJ,rfl,rS,wP⟩:=p;have e0:(ba "").length=0:=by decide +kernel
   have em:ws.map chV=(ws.map λc=>(⟨#[c]⟩:Str)).map V.str:=by rw[cq];rfl
   have yI:=PySem.StrLaws.sumLen_le (B:=1) (ws.map λc=>(⟨#[c]⟩:Str)) λy hy=>by obtain⟨c,_,rfl⟩:=bf.mp hy;exact aq 1
   rw[ah]at yI;refine(oq _ D (ws.map λc=>(⟨#[c]⟩:Str)) ⟨rfl,rfl,by rw[<-em];exact bA,by rw[e0];lia,?_⟩);rw[aec];have r6:J r=some (.lst (zs.map V.str)):=EO.at nr r4;refine(oq r (zs.map V.str) _ ⟨rfl,rfl,r6,oe (by rw[ah];lia),?_⟩);have hz:=ape wP (by lia);rw[rS]at hz;refine(oq _ n5 (zs++[⟨ws.toArray⟩]) ⟨rfl,(sK.trans EO).new gZ,?_,lJ,?_,by simp[vE],λz gG=>?_⟩)
   .rw[ow (Ne.symm nr)];exact oQ
   .rw[bn];exact np
   .rcases ay.mp gG with h|h
    .exact iH z h
    .rw[ao.mp h];exact hz
 .obtain⟨y3,n4,zs,rfl,sK,cM,tL,r4,vE,iH⟩:=h;refine(o8 _ rfl r (zs.map V.str) ⟨rfl,.inl ⟨SqL.of r4,λp hp=>?_⟩⟩);generalize g1:upd G p _=G1 at *;obtain⟨s5,e5⟩:=al hp g1;clear g1;obtain⟨M,eM,oM,eh,ew⟩:=apc (zs:=zs) (by lia) (by lia) (by lia) (by lia) iH;exact q p G1 n4 M (sK.trans (Ex.of_same s5)) (s5 _ _ cM) tL ⟨by rw[<-eM];exact e5,oM⟩ (by rw[eh,ew,vE];lia)
def al5:Sp:=λvs H Q _=>∃(st:aE)(n:List V)(m:Int),vs=[.ref st,.int m]/\H st=some (.lst n)/\StL n/\0<=m/\m<=64/\
 ∀(p:aE)(H':Hp)(n':List V)(M:Mat),Ex [st] H H'->H' st=some (.lst n')->StL n'->FlM H' p M->M.h*M.w<=16->Q (.ref p) H'
theorem scFloor:nu ["_law_state","_law_most","_law_high","_law_wide","_law_left","_law_rows","_law_row","_law_line","_law_column","_law_sign"] ["_law_state","_law_most"] (nh KB):={}
theorem aoh(B:∀x∈v7,mg x=none)(bO:Bj P w K mg base)(LI:Fn P w K mg base "_law_two_rows" 2 ["_law_state","_law_wide"] aua)(F:Fun K "_law_floor" "_law_floor" KB f fd):qt P w K mg base CX0 3 f fd ["_law_state","_law_most"] al5:=by
 refine F.ok (k:=2) scFloor (λvs H Q E h=>?_) (λbN A outer s H vs Q E hr h=>?_)
 .obtain⟨_,_,_,rfl,_⟩:=h;rfl
 obtain⟨st,n,m,rfl,hst,hn,Aw,yT,q⟩:=h;refine⟨_,(mw (rs (oy sX (oj bO hr (by decide) rfl (m9 (pv 0) (m9 mx mr))) mx (pf _)) (m8 (nv (oj LI hr (by decide) rfl (m9 (pv 0) (m9 (ph qv mx (oj bO hr (by decide) rfl (m9 (pv 0) (m9 mx mr)))) mr))))) pw)
  (mw (xo (ny pi (qa (m9 (oh (m9 mx (m9 mx mr))) (m9 (oh (m9 mx (m9 mx mr))) (m9 (oh (m9 mx (m9 mx mr))) (m9 (oh (m9 mx (m9 mx mr))) (m9 (oh (m9 mx (m9 mx mr))) (m9 (oh (m9 mx (m9 mx mr))) (m9 (oh (m9 mx (m9 mx mr))) (m9 (oh (m9 mx (m9 mx mr))) mr))))))))) (oj bO hr (by decide) rfl (m9 (pv 0) (m9 mx mr))) (λ_ _=>rfl)) (sr (n:=2) rfl (ni (nc (i:=2) scFloor.nd rfl (Or.inl rfl)) (ni (nc (i:=3) scFloor.nd rfl (Or.inl rfl)) p5))))
  (mw (n8 (i:=4) scFloor.nd rfl (Or.inl rfl) (pv 1))
  (mw (n8 (i:=5) scFloor.nd rfl (Or.inl rfl) (qa mr))
  (mw (qj cj rfl (sV rfl (B "range" (by decide)) (m9 (pv 2) mr)) (nc (i:=6) scFloor.nd rfl (Or.inl rfl)) (mw (n8 (i:=7) scFloor.nd rfl (Or.inl rfl) qe)
  (mw (qj cj rfl (sV rfl (B "range" (by decide)) (m9 (pv 3) mr)) (nc (i:=8) scFloor.nd rfl (Or.inl rfl)) (mw (n8 (i:=9) scFloor.nd rfl (Or.inl rfl) (ny xq qe (oj bO hr (by decide) rfl (m9 (pv 0) (m9 mx mr))) (λ_ _=>rfl)))
  (mw (rs (oy sX (pv 4) mx (pf _)) (m8 (n8 (i:=9) scFloor.nd rfl (Or.inl rfl) qe)) pw)
  (mw (ap1 (i:=4) scFloor.nd rfl (Or.inl rfl) (yp aer rfl (B "int" (by decide)) PyProof.Rows.boot_int (m9 (su Bg (pv 9) qe (pf _)) mr)) atq)
  (m8 (ap1 (i:=7) scFloor.nd rfl (Or.inl rfl) (pv 9) aqe))))))
  (m8 (rq (wq fc fx fy qo (pv 5) (m9 (pv 7) mr)))))))
  (m8 (nv (yp p6 rfl (B "tuple" (by decide)) cZ (m9 (pv 5) mr))))))))),?_⟩
 refine(o6 _ rfl st n 8 ⟨rfl,hst,hn,by decide,by decide,λn1 i1 H1 x1 iY iT h10 h11=>⟨rfl,_,rfl,?_⟩⟩);refine u6 (λ_=>?_) (λ_=>?_)
 .refine(nj _ rfl _ rfl st n1 2 ⟨rfl,iY,iT,by decide,by decide,λn2 i2 H2 x2 eR lV AL h21=>(nq _ _ ⟨rfl,rfl,?_⟩)⟩);obtain⟨j2,rfl⟩:=gp AL;exact(oq st n2 (7+j2) ⟨rfl,eR,lV,by lia,by lia,λp H3 n3 M x3=>q p H3 n3 M ((x1.trans x2).trans x3)⟩)
 refine⟨sZ2,λa0 zH=>?_⟩;generalize g1:upd H1 a0 _=A0 at *;obtain⟨s0',e0'⟩:=al zH g1;clear g1;refine⟨sZ2,λa1 vN=>?_⟩;generalize g1:upd A0 a1 _=A1 at *;obtain⟨Gz,Jc⟩:=al vN g1;clear g1;refine⟨sZ2,λa2 vM=>?_⟩;generalize g1:upd A1 a2 _=A2 at *;obtain⟨Ej,e2'⟩:=al vM g1;clear g1;refine⟨sZ2,λa3 ha3=>?_⟩;generalize g1:upd A2 a3 _=A3 at *;obtain⟨BH,e3'⟩:=al ha3 g1;clear g1;refine⟨sZ2,λa4 ha4=>?_⟩;generalize g1:upd A3 a4 _=A4 at *;obtain⟨qM,AO⟩:=al ha4 g1;clear g1;refine⟨sZ2,λa5 ha5=>?_⟩;generalize g1:upd A4 a5 _=A5 at *;obtain⟨yA,e5'⟩:=al ha5 g1;clear g1;refine⟨sZ2,λa6 ha6=>?_⟩;generalize g1:upd A5 a6 _=A6 at *;obtain⟨wH,e6'⟩:=al ha6 g1;clear g1;refine⟨sZ2,λa7 ha7=>?_⟩;generalize g1:upd A6 a7 _=A7 at *;obtain⟨uM,e7'⟩:=al ha7 g1;clear g1;refine⟨(by show 8<=aF;decide),λKy zE=>?_⟩;generalize g1:upd A7 Ky _=H2 at *;obtain⟨uL,e8'⟩:=al zE g1;clear g1;have sA:Same H1 H2:=((((((((s0'.trans Gz).trans Ej).trans BH).trans qM).trans yA).trans wH).trans uM).trans uL);have xF:∀m:Nat,m<8->∃(b':aE)(d e:Nat),[V.ref a0,.ref a1,.ref a2,.ref a3,.ref a4,.ref a5,.ref a6,.ref a7][m]?=some (.ref b')/\H2 b'=some (.tup [.int (d:Nat),.int (e:Nat)])/\0<d/\d<=8/\0<e/\e<=8/\d*e<=16:=λm hm=>by
  match m,hm with
  | 0,_=>exact(oq a0 1 4 ⟨rfl,(((((((Gz.trans Ej).trans BH).trans qM).trans yA).trans wH).trans uM).trans uL) _ _ e0',by decide,by decide,by decide,by decide,by decide⟩)
  | 1,_=>exact(oq a1 2 2 ⟨rfl,((((((Ej.trans BH).trans qM).trans yA).trans wH).trans uM).trans uL) _ _ Jc,by decide,by decide,by decide,by decide,by decide⟩)
  | 2,_=>exact(oq a2 2 3 ⟨rfl,(((((BH.trans qM).trans yA).trans wH).trans uM).trans uL) _ _ e2',by decide,by decide,by decide,by decide,by decide⟩)
  | 3,_=>exact(oq a3 3 2 ⟨rfl,((((qM.trans yA).trans wH).trans uM).trans uL) _ _ e3',by decide,by decide,by decide,by decide,by decide⟩)
  | 4,_=>exact(oq a4 1 6 ⟨rfl,(((yA.trans wH).trans uM).trans uL) _ _ AO,by decide,by decide,by decide,by decide,by decide⟩)
  | 5,_=>exact(oq a5 3 3 ⟨rfl,((wH.trans uM).trans uL) _ _ e5',by decide,by decide,by decide,by decide,by decide⟩)
  | 6,_=>exact(oq a6 2 4 ⟨rfl,(uM.trans uL) _ _ e6',by decide,by decide,by decide,by decide,by decide⟩)
  | 7,_=>exact(oq a7 1 1 ⟨rfl,uL _ _ e7',by decide,by decide,by decide,by decide,by decide⟩)
 have eR:=sA _ _ iY;have nal:Ky≠st:=λe=>by rw[e,(((((((s0'.trans Gz).trans Ej).trans BH).trans qM).trans yA).trans wH).trans uM) _ _ iY]at zE;cases zE
 refine(o6 _ rfl st n1 8 ⟨rfl,eR,iT,by decide,by decide,λn3 i3 H3 x3 fJ yS Db h31=>?_⟩);obtain⟨j3,rfl⟩:=gp Db;obtain⟨b',hi,wi,eY,C4,CJ,hi8,wi0,wi8,hiw⟩:=xF j3 (by lia);have gJ:b'≠st:=ux C4 eR (by intro z;cases z);refine(nw Ky _ _ (.ref b') ⟨rfl,rfl,SqL.of (x3.at nal e8'),ng eY,(n0 b' _ rfl (SqT.of (x3.at gJ C4)) rfl _ _ rfl _ ⟨_,rfl,rfl,?_⟩)⟩);have ER:Ex [st] H H3:=(x1.trans (Ex.of_same sA)).trans x3;clear xF;refine⟨_,rfl,sZ0,λr gZ=>?_⟩;generalize g1:upd H3 r _=H4 at *;obtain⟨s4,e4⟩:=al gZ g1;clear g1;have nr:r≠st:=λe=>by rw[e,fJ]at gZ;cases gZ
 have hrH:H r=none:=aqc ER nr gZ;have sK:=ER.trans (Ex.of_same s4);refine(qc _ rfl _ ⟨rfl,by lia,by lia,?_⟩);rw[cg];refine qy (lo:=0) (λi σ' G=>∃(y6 y7 y8 y9:Option V)(lf:Int)(n:List V)(zs:List Str),σ'=[some (.ref st),some (.int m),some (.int (hi:Nat)),some (.int (wi:Nat)),some (.int lf),some (.ref r),y6,y7,y8,y9]/\Ex [st] H G/\G st=some (.lst n)/\StL n/\G r=some (.lst (zs.map V.str))/\zs.length=i/\∀z∈zs,RwS wi z) ?_ (λi σ' G eC h=>?_) (λσ' G h=>?_)
 .exact(my _ _ _ _ _ (nq n3 ([]) ⟨rfl,sK,s4 _ _ fJ,yS,e4,rfl,λz hz=>by cases hz⟩))
 .obtain⟨y6,y7,y8,y9,lf,n4,zs,rfl,IV,uI,tL,rG,vE,iH⟩:=h;refine(qc _ rfl _ ⟨rfl,by lia,by lia,?_⟩);rw[cg];refine qy (lo:=0) (λc σ' J=>∃(y8 y9:Option V)(lf:Int)(n:List V)(ws:List Nat),σ'=[some (.ref st),some (.int m),some (.int (hi:Nat)),some (.int (wi:Nat)),some (.int lf),some (.ref r),some (.int (0+(i:Int))),some (.str ⟨ws.toArray⟩),y8,y9]/\Ex [st] G J/\J st=some (.lst n)/\StL n/\ws.length=c/\∀c∈ws,sgB c=true) ?_ (λc σ' J hc h=>?_) (λσ' J h=>?_)
  .exact(my _ _ _ n4 ([]) ⟨rfl,Ex.refl _ _,uI,tL,rfl,λw hw=>by cases hw⟩)
  .obtain⟨y8,y9,lf,n5,ws,rfl,sI,Go,lJ,rS,wP⟩:=h;refine(o6 _ rfl st n5 16 ⟨rfl,Go,lJ,by decide,by decide,λn6 i6 J6 x6 oQ rQ AK IJ=>?_⟩);obtain⟨j6,rfl⟩:=gp AK;obtain⟨k,hk,lH⟩:=aln (j:=j6) (by lia);refine(oq _ _ k ⟨rfl,rfl,aha,ng hk,?_⟩);refine(o4 _ rfl rfl _ ⟨rfl,u6 (λ_=>?_) (λ_=>?_)⟩)
   .have AQ:ba "#" = ⟨#[35]⟩:=by decide +kernel
    refine(qc _ rfl _ ⟨rfl,rfl,.inr (o8 _ rfl _ _ ⟨rfl,rfl,?_⟩)⟩);refine(ug _ rfl _ rfl _ _ ⟨rfl,rfl,(by show ws.toArray.size+_<=aF;rw[a9,AQ];exact gj (oe (by show ws.length+1<=1000;lia))),?_⟩);have ez:(⟨ws.toArray⟩:Str)++ba "#" = ⟨(ws++[35]).toArray⟩:=by rw[AQ];exact azm ws 35
    rw[ez];refine(my _ _ _ n6 (ws++[35]) ⟨rfl,sI.trans x6,oQ,rQ,by simp[rS],λw hw=>?_⟩);rcases ay.mp hw with h|h
    .exact wP w h
    .rw[ao.mp h];decide
   .refine(qc _ rfl _ ⟨rfl,rfl,.inr (o8 _ rfl _ _ ⟨rfl,rfl,?_⟩)⟩);refine(ug _ rfl _ rfl _ _ ⟨rfl,rfl,(by show ws.toArray.size+1<=aF;rw[a9];exact gj (oe (by lia))),?_⟩);rw[azm];refine(my _ _ _ n6 (ws++[k]) ⟨rfl,sI.trans x6,oQ,rQ,by simp[rS],λw hw=>?_⟩);rcases ay.mp hw with h|h
    .exact wP w h
    .rw[ao.mp h];exact lH
  .obtain⟨y8,y9,lf,n5,ws,rfl,sI,Go,lJ,rS,wP⟩:=h;have rJ:=sI.at nr rG;refine(ach _ rfl (.inl ⟨rfl,_,SqL.of rJ⟩) _ rfl r (zs.map V.str) _ ⟨rfl,rfl,rJ,oe (by rw[ah];lia),?_⟩);have hz:=ape wP (by lia);rw[rS]at hz;refine(my _ _ _ _ _ (nq n5 (zs++[⟨ws.toArray⟩]) ⟨rfl,(IV.trans sI).new hrH,?_,lJ,?_,by simp[vE],λz gG=>?_⟩))
   .rw[ow (Ne.symm nr)];exact Go
   .rw[bn];exact np
   .rcases ay.mp gG with h|h
    .exact iH z h
    .rw[ao.mp h];exact hz
 .obtain⟨y6,y7,y8,y9,lf,n4,zs,rfl,IV,uI,tL,rG,vE,iH⟩:=h;refine(o8 _ rfl r (zs.map V.str) ⟨rfl,.inl ⟨SqL.of rG,λp hp=>?_⟩⟩);generalize g1:upd G p _=G1 at *;obtain⟨s5,e5⟩:=al hp g1;clear g1;obtain⟨M,eM,oM,eh,ew⟩:=apc (zs:=zs) (by lia) (by lia) (by lia) (by lia) iH;exact q p G1 n4 M (IV.trans (Ex.of_same s5)) (s5 _ _ uI) tL ⟨by rw[<-eM];exact e5,oM⟩ (by rw[eh,ew,vE];exact hiw)
end
theorem Fp{H:Hp}{a:aE}{x y:Str}(h:H a=some (.tup [.str x,.str y]))(hx:mq x=true)(hy:mq y=true):Rep H (.tuple [.str x,.str y]) (.ref a):=(pj a _ rfl h _ _ rfl ⟨rfl,hx⟩ _ ⟨_,rfl,⟨rfl,hy⟩,rfl⟩)
def ApS(ads:List PyData):Prop:=∀d∈ads,∃x y,65<=x/\x<=y/\d=.tuple [chD x,chD y]
theorem ApS.imm{ads:List PyData}(h:ApS ads):pq ads=true:=qg λd hd=>by obtain⟨x,y,_,_,rfl⟩:=h d hd;rfl
theorem eSA:ba "A" = ⟨#[65]⟩:=by decide +kernel
theorem eSB:ba "B" = ⟨#[66]⟩:=by decide +kernel
theorem eSC:ba "C" = ⟨#[67]⟩:=by decide +kernel
section
variable{P:aI}{w:aK}{K:aj}{mg:Str->Option aA}{base:Heap}{f:aE}{fd:aP}
def avu:Sp:=λvs H Q _=>∃(st:aE)(n:List V),vs=[.ref st]/\H st=some (.lst n)/\StL n/\
 ∀(p:aE)(H':Hp)(n' bT:List V)(ads:List PyData),Ex [st] H H'->H' st=some (.lst n')->StL n'->H' p=some (.tup bT)->RepAll H' ads bT->ApS ads->Q (.ref p) H'
theorem scApt:nu ["_law_state","_law_pairs"] ["_law_state"] (nh JW):={}
theorem auh(B:∀x∈v7,mg x=none)(bO:Bj P w K mg base)(F:Fun K "_law_apart" "_law_apart" JW f fd):qt P w K mg base CX0 2 f fd ["_law_state"] avu:=by
 refine F.ok (k:=1) scApt (λvs H Q E h=>?_) (λbN A outer s H vs Q E hr h=>?_)
 .obtain⟨_,_,rfl,_⟩:=h;rfl
 obtain⟨st,n,rfl,hst,hn,q⟩:=h;refine⟨_,(mw (rs (oy sX (oj bO hr (by decide) rfl (m9 (pv 0) (m9 mx mr))) mx (pf _)) (m8 (nv (oh mr))) pw)
  (mw (n8 (i:=1) scApt.nd rfl (Or.inl rfl) (qa (m9 (oh (m9 qe (m9 qe mr))) (m9 (oh (m9 qe (m9 qe mr))) (m9 (oh (m9 qe (m9 qe mr))) (m9 (oh (m9 qe (m9 qe mr))) mr))))))
  (m8 (nv (yp p6 rfl (B "tuple" (by decide)) cZ (m9 (o9 ["_law_pair","_law_state"] [none,some 0] rfl rfl (by decide +kernel) (by decide +kernel) rfl rfl (oz (pv 1)) (λ_=>(nc (i:=0) (show(["_law_pair","_law_state"]:List PySem.Str).Nodup by decide +kernel) rfl (Or.inl rfl))) (λ_=>u9 (oy sX (oj bO hr (by decide) rfl (m9 (pv 1) (m9 mx mr))) mx (pf _))) (λ_=>(pv 0))) mr)))))),?_⟩
 refine(o6 _ rfl st n 2 ⟨rfl,hst,hn,by decide,by decide,λn1 i1 H1 x1 iY iT h10 h11=>⟨rfl,_,rfl,?_⟩⟩);refine u6 (λ_=>?_) (λ_=>?_)
 .refine⟨sZ0,λp hp=>?_⟩;generalize g1:upd H1 p _=H2 at *;obtain⟨s2,e2⟩:=al hp g1;exact q p H2 n1 [] [] (x1.trans (Ex.of_same s2)) (s2 _ _ iY) iT e2 rfl (λd hd=>by cases hd)
 refine⟨sZ2,λa0 h0=>?_⟩;generalize g1:upd H1 a0 _=A0 at *;obtain⟨s0,e0⟩:=al h0 g1;clear g1;refine⟨sZ2,λa1 h1=>?_⟩;generalize g1:upd A0 a1 _=A1 at *;obtain⟨s1,e1⟩:=al h1 g1;clear g1;refine⟨sZ2,λa2 h2=>?_⟩;generalize g1:upd A1 a2 _=A2 at *;obtain⟨s2,e2⟩:=al h2 g1;clear g1;refine⟨sZ2,λa3 h3=>?_⟩;generalize g1:upd A2 a3 _=A3 at *;obtain⟨s3,e3⟩:=al h3 g1;clear g1;refine⟨sZ4,λpl hpl=>?_⟩;generalize g1:upd A3 pl _=H2 at *;obtain⟨s4,e4⟩:=al hpl g1;clear g1;have sA:Same H1 H2:=(((s0.trans s1).trans s2).trans s3).trans s4;have rA:RepAll H2 [.tuple [.str "A",.str "A"],.tuple [.str "A",.str "B"],.tuple [.str "B",.str "B"],.tuple [.str "B",.str "C"]] [.ref a0,.ref a1,.ref a2,.ref a3]:=
  (pj _ _ rfl (Fp ((((s1.trans s2).trans s3).trans s4) _ _ e0) (by decide +kernel) (by decide +kernel)) _ _ rfl (Fp (((s2.trans s3).trans s4) _ _ e1) (by decide +kernel) (by decide +kernel)) _ (o4 _ rfl (Fp ((s3.trans s4) _ _ e2) (by decide +kernel) (by decide +kernel)) _ ⟨_,rfl,Fp (s4 _ _ e3) (by decide +kernel) (by decide +kernel),rfl⟩))
 have eR:=sA _ _ iY;have GO:pl≠st:=λe=>by rw[e,(((s0.trans s1).trans s2).trans s3) _ _ iY]at hpl;cases hpl
 refine(qc _ rfl pl ⟨rfl,⟨_,SqL.of e4⟩,λD hD=>?_⟩);have nD:D≠st:=λe=>by rw[e,eR]at hD;cases hD
 generalize hPS:[PyData.tuple [.str "A",.str "A"],.tuple [.str "A",.str "B"],.tuple [.str "B",.str "B"],.tuple [.str "B",.str "C"]]=PS at *;have GX:∀ds:List PyData,(∀d∈ds,d∈PS)->pq ds=true:=λds h=>qg λd hd=>by have:=h d hd;rw[<-hPS]at this;simp only[bb,jc,or_false]at this;rcases this with rfl|rfl|rfl|rfl<;>rfl
 refine o5 (xs:=[.ref a0,.ref a1,.ref a2,.ref a3]) (λi zs J=>Ex [st] H2 J/\(∃n:List V,J st=some (.lst n)/\StL n)/\∃ds:List PyData,RepAll J ds zs/\∀d∈ds,d∈PS) ⟨Ex.fresh hD,⟨n1,by rw[ow (Ne.symm nD)];exact eR,iT⟩,[],rfl,λd hd=>by cases hd⟩ (λi zs J p=>SqL.of (p.1.at GO e4)) (λi x zs J hx hi bA bY p=>?_) (λzs J bA bY p=>?_)
 .obtain⟨p1,⟨n5,iD,lJ⟩,ds,rep,dH⟩:=p;obtain⟨d,hd,rd⟩:=rA.at hx;have hdm:=ak hd;refine⟨Agree.set (Agree.refl _) rfl,?_⟩;refine(o6 _ rfl st n5 3 ⟨rfl,iD,lJ,by decide,by decide,λn6 i6 J6 x6 oQ rQ AK IJ=>⟨rfl,_,rfl,?_⟩⟩);have imd:imm d=true:=by have:=GX [d] (λe he=>by rw[ao.mp he];exact hdm);simpa [pq]using this
  have BO:=rep.tk (x6.one iD) (GX ds dH);have D6:=x6.at nD bA;refine u6 (λ_=>?_) (λ_=>?_)
  .have CP:∀e∈ds++[d],e∈PS:=λe he=>by
    rcases ay.mp he with h|h
    .exact dH e h
    .rw[ao.mp h];exact hdm
   refine⟨_,rfl,qm (by have:i<4:=hi;lia) D6 bY ⟨(p1.trans x6).new hD,⟨n6,by rw[ow (Ne.symm nD)];exact oQ,rQ⟩,ds++[d],?_,CP⟩⟩;exact(BO.snoc (Rep.tk (Tk.trans (p1.one eR) (x6.one iD)) imd rd)).tk (Tk.lst D6) (GX _ CP)
  .exact⟨_,D6,i7 bY,p1.trans x6,⟨n6,oQ,rQ⟩,ds,BO,dH⟩
 .obtain⟨p1,⟨n5,iD,lJ⟩,ds,rep,dH⟩:=p;refine(nq D zs ⟨rfl,.inl ⟨SqL.of bA,λt ht=>?_⟩⟩);generalize g1:upd J t _=J1 at *;obtain⟨s9,e9⟩:=al ht g1;exact q t J1 n5 zs ds ((x1.trans (Ex.of_same sA)).trans (p1.trans (Ex.of_same s9))) (s9 _ _ iD) lJ e9 (rep.same s9) (λd hd=>by
   have:=dH d hd;rw[<-hPS]at this;simp only[bb,jc,or_false,eSA,eSB,eSC]at this;rcases this with rfl|rfl|rfl|rfl
   .exact(nq 65 65 ⟨by decide,by decide,rfl⟩)
   .exact(nq 65 66 ⟨by decide,by decide,rfl⟩)
   .exact(nq 66 66 ⟨by decide,by decide,rfl⟩)
   .exact(nq 66 67 ⟨by decide,by decide,rfl⟩))
def aur:Sp:=λvs H Q _=>∃(st:aE)(n:List V)(m k:Int),vs=[.ref st,.int m,.int k]/\H st=some (.lst n)/\StL n/\0<=m/\m<=64/\0<k/\k<=3/\
 ∀(pz:aE)(H':Hp)(n':List V)(fl kr e:aE)(M:Mat)(aU:List V) (ks:List (List PyData×Nat)) (lms:List (Int×Option Int)) (bT:List V) (ads:List PyData),Ex [st] H H'->H' st=some (.lst n')->StL n'->PzB H' pz fl kr e M aU ks lms bT ads->0<lms.length->(∀q∈lms,0<=q.1)->ApS ads->M.h*M.w<=16->Q (.ref pz) H'
theorem scLpz:nu ["_law_state","_law_most","_law_many","_law_kinds_here","_law_floor_here"] ["_law_state","_law_most","_law_many"] (nh Jo):={}
theorem avv(zZ:Fn P w K mg base "_law_kinds" 3 ["_law_state","_law_many"] alg)(Ac:Fn P w K mg base "_law_floor" 3 ["_law_state","_law_most"] al5)(Mc:Fn P w K mg base "_law_apart" 2 ["_law_state"] avu)(F:Fun K "_law_puzzle" "_law_puzzle" Jo f fd):qt P w K mg base CX0 4 f fd ["_law_state","_law_most","_law_many"] aur:=by
 refine F.ok (k:=3) scLpz (λvs H Q E h=>?_) (λbN A outer s H vs Q E hr h=>?_)
 .obtain⟨_,_,_,_,rfl,_⟩:=h;rfl
 obtain⟨st,n,m,k,rfl,hst,hn,Aw,yT,gM,rV,q⟩:=h;refine⟨_,(mw (n8 (i:=3) scLpz.nd rfl (Or.inl rfl) (oj zZ hr (by decide) rfl (m9 (pv 0) (m9 (pv 2) mr))))
  (mw (n8 (i:=4) scLpz.nd rfl (Or.inl rfl) (oj Ac hr (by decide) rfl (m9 (pv 0) (m9 (pv 1) mr))))
  (m8 (nv (oh (m9 (pv 4) (m9 (pv 3) (m9 (oj Mc hr (by decide) rfl (m9 (pv 0) mr)) mr)))))))),?_⟩
 refine(nj _ rfl _ rfl st n k ⟨rfl,hst,hn,gM,rV,λkr H1 n1 aU ks ms x1 iY iT mU hK hp0 qA Cv=>?_⟩);refine(nj _ rfl _ rfl st n1 m ⟨rfl,iY,iT,Aw,yT,λfl H2 n2 M x2 eR lV hM IL=>?_⟩);refine(p8 _ rfl _ rfl _ rfl st n2 ⟨rfl,eR,lV,λe H3 n3 bT ads x3 fJ yS oB hra ED=>?_⟩);refine⟨sZ3,λpz hpz=>?_⟩;generalize g1:upd H3 pz _=H4 at *;obtain⟨s4,e4⟩:=al hpz g1;have Gn:=x2.one iY;have Gm:=x3.one eR;have t34:=Tk.of_same s4;obtain⟨k1,k2⟩:=((hK.tk Gn).tk Gm).kinds (by lia);exact q pz H4 n3 fl kr e M aU ks ms bT ads ((x1.trans x2).trans (x3.trans (Ex.of_same s4))) (s4 _ _ fJ) yS ⟨e4,⟨(Gm.trans t34) _ _ hM.1,hM.2⟩,(Gn.trans (Gm.trans t34)) _ _ mU,k1.same s4,k2.same s4,s4 _ _ oB,hra.same s4⟩ hp0 Cv ED IL
end
end K22
namespace L3
open PySem PySem.Spec PyProof.Rows L2
def aj1(w:aK)(ty td:TE):TE:=λσ H Q=>ty σ H λy H1=>td σ H1 λx H2=>∃a xs ep d b,x=.ref a/\y=.ref b/\DN w H2 a xs ep/\KRep H2 d b/\Q (.bl (!(sk xs d).isSome)) H2
section
variable{X:Cx}{i o:Expr}{ty td:TE}
theorem akp(hu:X.A.units+9<aX)(hi:PE X i ty)(ho:PE X o td):PC X .NotIn i o (aj1 X.w ty td):=by intro aC s σ H Q I h;refine thn (hi aC s σ H _ I h) λiv s1 ⟨y,H1,I1,ry,q1⟩=>thn (ho aC s1 σ H1 _ I1 q1) λu s2 ⟨x,H2,I2,rx,a,xs,ep,d,b,ex,ey,D,k,q2⟩=>?_;subst ex ey;obtain rfl:u=aA.ref a:=rx;obtain rfl:iv=aA.ref b:=ry;obtain⟨ys,rel,dd⟩:=D.at I2;refine wpAny_notIn_heap (knd:=r8 X.prog X.w) (show X.A.units+1+8<aX by omega) (k.at I2) D.sys dd ?_;have q:=(rel.val d).isSome_eq;rw[Option.isSome_map]at q;rw[<-q];exact⟨.bl (!(sk xs d).isSome),H2,I2.tok _,rfl,q2⟩
end
theorem abr{X:Cx}{N:List Str}{scope:cK}{z:CZ}{i o:Expr}{ty td:TE}(hu:X.A.units+9<aX)(hi:PE (ox X N scope z) i ty)(ho:PE (ox X N scope z) o td):PC (ox X N scope z) .NotIn i o (aj1 X.w ty td):=akp (X:=ox X N scope z) hu hi ho
end L3
namespace K22
open PySem PyProof.Rows L2 L3
noncomputable def knF(M:Mat)(os:List Opt):Kn:=os.foldl (stp M) λ_=>none
theorem F1(M:Mat)(os:List Opt)(o:Opt):knF M (os++[o])=stp M (knF M os) o:=by unfold knF;rw[List.foldl_append];rfl
def FitA(M:Mat)(nk:Nat)(os:List Opt):Prop:=∀i o,os[i]?=some o->Fit M (knF M (os.take i)) nk o
theorem FitA.snoc{M:Mat}{nk:Nat}{os:List Opt}{o:Opt}(h:FitA M nk os)(h':Fit M (knF M os) nk o):FitA M nk (os++[o]):=λi o' e=>by
 by_cases hi:i<os.length
 .rw[cu hi]at e;rw[List.take_append_of_le_length (by lia)];exact h i o' e
 .have hl:=(ae.mp e).1;rw[bu,fq]at hl;have:i=os.length:=by lia
  subst this;rw[cf (aq _),j8]at e;cases e;rw[List.take_left];exact h'
theorem a0t:Sgn λ_=>none:=λi c h=>by cases h
theorem FitA.sgn{M:Mat}{nk:Nat}{os:List Opt}(h:FitA M nk os):∀i,Sgn (knF M (os.take i)):=λi=>by
 induction i with
 | zero=>rw[List.take_zero];exact a0t
 | succ i ih=>
  rw[dw];cases e:os[i]? with
  | none=>simpa using ih
  | some o=>
   rw[jo,F1];exact(h i o e).sgn ih
def ChH(H:Hp)(M:Mat)(nk:Nat)(fF:List V)(os:List Opt):Prop:=fF.length=os.length/\∀(i:Nat) v o,fF[i]?=some v->os[i]?=some o->OpV H M nk v o
theorem ChH.tk{H H':Hp}{M:Mat}{nk:Nat}{fF:List V}{os:List Opt}(h:ChH H M nk fF os)(t:Tk H H'):ChH H' M nk fF os:=⟨h.1,λi v o a b=>(h.2 i v o a b).tk t⟩
theorem ChH.at{H:Hp}{M:Mat}{nk:Nat}{fF:List V}{os:List Opt}(h:ChH H M nk fF os){i:Nat}{v:V}(e:fF[i]?=some v):∃o,os[i]?=some o/\OpV H M nk v o:=by
 have hi:=(ae.mp e).1;have eC:i<os.length:=by rw[<-h.1];exact hi
 exact⟨_,ab eC,h.2 i v _ e (ab eC)⟩
noncomputable def isK(n:Nat):Opt->Bool
 | none=>false
 | some q=>q.2==n
noncomputable def usL(lms:List (Int×Option Int))(os:List Opt):List Int:=(cb lms.length).map λn=>ym (lms[n]?.getD (0,none)).1 (lms[n]?.getD (0,none)).2 ((os.countP (isK n):Nat):Int)
theorem vo(lms:List (Int×Option Int))(os:List Opt):(usL lms os).length=lms.length:=by unfold usL;simp
theorem zV{lms:List (Int×Option Int)}{os:List Opt}{n:Nat}(h:n<lms.length):(usL lms os)[n]?=some (ym (lms[n]?.getD (0,none)).1 (lms[n]?.getD (0,none)).2 ((os.countP (isK n):Nat):Int)):=by unfold usL;rw[au,jw h];rfl
theorem aq6(le:Int)(m:Option Int)(c:Nat):ym le m (ym le m (c:Nat)+1)=ym le m (((c+1:Nat)):Int):=by
 unfold ym;cases m with
 | none=>
  dsimp only;split<;>split<;>(try split)<;>lia
 | some _=>dsimp only;lia
theorem aoo(lms:List (Int×Option Int))(os:List Opt)(o:Opt):usS lms (usL lms os) o=usL lms (os++[o]):=by
 apply k9;intro n;by_cases hn:n<lms.length
 .rw[zV hn,List.countP_append];cases o with
  | none=>
   show(usL lms os)[n]?=_;rw[zV hn];rfl
  | some q=>
   show((usL lms os).set q.2 _)[n]?=_;rw[List.getElem?_set];by_cases hq:q.2=n
   .subst hq;rw[if_pos rfl,if_pos (by rw[vo];exact hn),zV hn,Option.getD_some,aq6];have:List.countP (isK q.2) [some q]=1:=by simp[isK]
    rw[this]
   .rw[if_neg hq,zV hn];have:List.countP (isK n) [some q]=0:=by simp[isK,hq]
    rw[this];rfl
 .rw[ft (by cases o with|none=>show(usL lms os).length<=n;rw[vo];lia|some q=>show((usL lms os).set _ _).length<=n;rw[List.length_set,vo];lia),ft (by rw[vo];lia)]
def KnD(M:Mat)(kn:Kn)(xs:List KA):Prop:=(∀i k,(ocn M)[i]?=some k->sk xs (cdx M k)=(kn i).map chV)/\∀d,(sk xs d).isSome=true->∃(i k:Nat),(ocn M)[i]?=some k/\d=cdx M k
theorem ae5{xs:List KA}{d d':PyData}{b:aE}{v:V}:sk (zo xs d b v) d'=if d'=d then some v else sk xs d':=by
 unfold zo;by_cases h:(sk xs d).isSome=true
 .rw[if_pos h];unfold sk at h⊢;induction xs with
  | nil=>cases h
  | cons x xs ih=>
   rw[cy,iq,iq];rw[iq]at h;by_cases hx:x.1=d
   .by_cases hd:d'=d
    .subst hd;simp[hx]
    .have h1:¬x.1=d':=λz=>hd (z.symm.trans hx);have h2:¬d=d':=λz=>hd z.symm;simp only[hx,if_true,decide_true,h2,decide_false,if_neg hd];have:∀l:List KA,Option.map (·.2.2) ((l.map λx=>if x.1=d then(x.1,x.2.1,v)else x).find? λx=>decide (x.1=d'))=Option.map (·.2.2) (l.find? λx=>decide (x.1=d')):=λl=>by
      induction l with
      | nil=>rfl
      | cons y l ih2=>
       rw[cy,iq,iq];by_cases hy:y.1=d
       .simp only[hy,if_true,h2,decide_false];exact ih2
       .simp only[hy,if_false];cases decide (y.1=d')with
        | true=>rfl
        | false=>exact ih2
     exact this xs
   .simp only[hx,decide_false,if_false]at h⊢;by_cases hd:x.1=d'
    .have h2:¬d'=d:=λz=>hx (hd.trans z);simp[hd,h2]
    .simp only[hd,decide_false];exact ih h
 .rw[if_neg h];unfold sk at h⊢;rw[List.find?_append];cases e:xs.find? (λx=>decide (x.1=d'))with
  | some y=>
   have hy:y.1=d':=of_decide_eq_true (List.find?_some (p:=λx:KA=>decide (x.1=d')) e);have hd:¬d'=d:=λz=>h (by rw[<-z,e];rfl);simp[hd]
  | none=>
   by_cases hd:d'=d
   .subst hd;simp
   .have h2:¬d=d':=λz=>hd z.symm;simp[hd,h2]
theorem ako{M:Mat}(hw:0<M.w){kn:Kn}{xs:List KA}(h:KnD M kn xs){i k c:Nat}(hk:(ocn M)[i]?=some k)(b:aE):KnD M (knS kn [(i,c)]) (zo xs (cdx M k) b (chV c)):=by
 refine⟨λj k' hj=>?_,λd hd=>?_⟩
 rotate_left
 .rw[ae5]at hd;by_cases e:d=cdx M k
  .exact(nq i k ⟨hk,e⟩)
  .rw[if_neg e]at hd;exact h.2 d hd
 rw[ae5];by_cases e:k'=k
 .subst e;have ej:j=i:=(List.getElem?_inj (ae.mp hj).1 (Bn M _)).mp (hj.trans hk.symm);subst ej;have:=vp (kn:=kn) (js:=[(j,c)]) (by simp) (q:=(j,c)) (ao.mpr rfl);rw[this];simp
 .have e2:cdx M k'≠cdx M k:=λz=>e (DQ hw z);have e3:j≠i:=λz=>by rw[z,hk]at hj;exact e (cr hj).symm
  rw[sn (by simpa using e3),<-h.1 j k' hj];simp[e2]
theorem an8(kn:Kn)(js:List (Nat×Nat))(q:Nat×Nat)(nd:((js++[q]).map (·.1)).Nodup):knS (knS kn js) [q]=knS kn (js++[q]):=by
 funext i
 by_cases hi:i=q.1
 .subst hi;rw[vp (by simp) (ao.mpr rfl),vp nd (ay.mpr (.inr (ao.mpr rfl)))]
 .rw[sn (by simpa using hi)];by_cases hm:i∈js.map (·.1)
  .obtain⟨p,hp,rfl⟩:=bf.mp hm;have BU:(js.map (·.1)).Nodup:=by rw[bn]at nd;exact(List.nodup_append.mp nd).1
   rw[vp BU hp,vp nd (ay.mpr (.inl hp))]
  .rw[sn hm,sn (by rw[bn,ay];simpa [hm]using hi)]
seal L2.PE L2.PT L2.PW L2.PA L2.PS L2.PSs L2.PG L2.PGs L2.PI L2.PO
section
variable{P:aI}{w:aK}{K:aj}{mg:Str->Option aA}{base:Heap}{f:aE}{fd:aP}
theorem scBes:nu ["_law_cell","_law_row","_law_column"] ["_law_cell"] (nh JV):={}
theorem avg(F:Fun K "_law_beside" "_law_beside" JV f fd):qt P w K mg base CX0 1 f fd ["_law_cell"] Ff:=by
 refine F.ok (k:=0) scBes (λvs H Q E h=>?_) (λbN A outer s H vs Q E hr h=>?_)
 .obtain⟨_,_,_,rfl,_⟩:=h;rfl
 obtain⟨a,r,c,rfl,ha,q⟩:=h;refine⟨_,(mw (xo (pv 0) (sr (n:=2) rfl (ni (nc (i:=1) scBes.nd rfl (Or.inl rfl)) (ni (nc (i:=2) scBes.nd rfl (Or.inl rfl)) p5))))
  (m8 (nv (qa (m9 (oh (m9 (ph wb (pv 1) mx) (m9 (pv 2) mr))) (m9 (oh (m9 (pv 1) (m9 (ph wb (pv 2) mx) mr))) (m9 (oh (m9 (pv 1) (m9 (ph qv (pv 2) mx) mr))) (m9 (oh (m9 (ph qv (pv 1) mx) (m9 (pv 2) mr))) mr)))))))),?_⟩
 refine(aa0 _ rfl a _ rfl (SqT.of ha) rfl _ _ ⟨rfl,(nq _ _ ⟨rfl,rfl,?_⟩)⟩);refine(o7 _ rfl _ _ rfl rfl _ ⟨rfl,sZ2,λa1 h1=>?_⟩);generalize g1:upd H a1 _=H1 at *;obtain⟨s1,e1⟩:=al h1 g1;refine(ug _ rfl _ rfl _ _ ⟨rfl,rfl,sZ2,λa2 h2=>?_⟩);generalize g2:upd H1 a2 _=H2 at *;obtain⟨s2,e2⟩:=al h2 g2;refine(ug _ rfl _ rfl _ _ ⟨rfl,rfl,sZ2,λa3 h3=>?_⟩);generalize g3:upd H2 a3 _=H3 at *;obtain⟨s3,e3⟩:=al h3 g3;refine(o7 _ rfl _ _ rfl rfl _ ⟨rfl,sZ2,λa4 h4=>?_⟩);generalize g4:upd H3 a4 _=H4 at *;obtain⟨s4,e4⟩:=al h4 g4;refine⟨sZ4,λl hl=>?_⟩;generalize g5:upd H4 l _=H5 at *;obtain⟨s5,e5⟩:=al hl g5;exact q l _ H5 ((((s1.trans s2).trans s3).trans s4).trans s5) ((((s1.trans s2).trans s3).trans s4).free hl) e5
  (pj _ _ rfl (uw ((((s2.trans s3).trans s4).trans s5) _ _ e1)) _ _ rfl (uw (((s3.trans s4).trans s5) _ _ e2)) _ (o4 _ rfl (uw ((s4.trans s5) _ _ e3)) _ ⟨_,rfl,uw (s5 _ _ e4),rfl⟩))
theorem scCel:nu ["_law_floor_here","_law_cells_here","_law_row","_law_column"] ["_law_floor_here"] (nh Js):={}
theorem atg(B:∀x∈v7,mg x=none)(F:Fun K "_law_cells" "_law_cells" Js f fd):qt P w K mg base CX0 1 f fd ["_law_floor_here"] AW:=by
 refine F.ok (k:=0) scCel (λvs H Q E h=>?_) (λbN A outer s H vs Q E hr h=>?_)
 .obtain⟨_,_,rfl,_⟩:=h;rfl
 obtain⟨a,M,rfl,hf,q⟩:=h;have dO:=hf.2;have h1:=dO.h1;have h8:=dO.h8;have w1:=dO.w1;have w8:=dO.w8;have yZ:M.h*M.w<=64:=ky h8 w8;have ls:((uz M).map V.str).length=M.h:=by rw[ah,tf]
 refine⟨_,(mw (n8 (i:=1) scCel.nd rfl (Or.inl rfl) (qa mr))
  (mw (qj cj rfl (sV rfl (B "range" (by decide)) (m9 (rg qd rfl (B "len" (by decide)) ip (m9 (pv 0) mr)) mr)) (nc (i:=2) scCel.nd rfl (Or.inl rfl)) (m8 (qj cj rfl (sV rfl (B "range" (by decide)) (m9 (rg sw rfl (B "len" (by decide)) ip (m9 (ny om (pv 0) mx (λ_ _=>rfl)) mr)) mr)) (nc (i:=3) scCel.nd rfl (Or.inl rfl)) (m8 (rs (oy Bg (ny xq (ny om (pv 0) (pv 2) (λ_ _=>rfl)) (pv 3) (λ_ _=>rfl)) qe (pf _)) (m8 (rq (wq fc fx fy qo (pv 1) (m9 (oh (m9 (pv 2) (m9 (pv 3) mr))) mr)))) pw)))))
  (m8 (nv (pv 1))))),?_⟩
 refine⟨sZ0,λD hD=>?_⟩;generalize g1:upd H D _=H1 at *;obtain⟨s1,e1⟩:=al hD g1;clear g1;have AD:=hf.1;refine(o7 _ rfl a _ rfl (.inr (SqT.of (s1 _ _ AD))) _ ⟨rfl,by rw[ls];lia,by rw[ls];lia,?_⟩);rw[ls,cg];refine qy (lo:=0) (λr σ' G=>∃(y2 y3:Option V)(ys:List V),σ'=[some (.ref a),some (.ref D),y2,y3]/\Same H G/\G D=some (.lst ys)/\RepAll G ((oix M (r*M.w)).map (cdx M)) ys) ?_ (λr σ' G wQ h=>?_) (λσ' G h=>?_)
 .exact(oq _ _ ([]) ⟨rfl,s1,e1,by rw[Nat.zero_mul];rfl⟩)
 .obtain⟨y2,y3,ys,rfl,sG,hG,rep⟩:=h;have l0:=zq (M:=M) (r:=0) h1;refine(mz _ rfl a _ _ _ ⟨rfl,rfl,SqT.of (sG _ _ AD),ng (j:=0) l0,(o4 _ rfl (by rw[qf];exact FC dO) _ ⟨rfl,by rw[qf];lia,by rw[qf];lia,?_⟩)⟩);rw[qf,cg];refine qy (lo:=0) (λc σ' J=>∃(y3:Option V)(ys:List V),σ'=[some (.ref a),some (.ref D),some (.int (0+(r:Int))),y3]/\Same H J/\J D=some (.lst ys)/\RepAll J ((oix M (r*M.w+c)).map (cdx M)) ys) ?_ (λc σ' J hc h=>?_) (λσ' J h=>?_)
  .exact(nq _ ys ⟨rfl,sG,hG,rep⟩)
  .obtain⟨y3,ys,rfl,sJ,hJ,rep⟩:=h;have Hs:=zq (M:=M) wQ;have lr:=rep.length;rw[ah]at lr;have ol:=yq M (r*M.w+c);have hrc:r*M.w+c<M.h*M.w:=by
    have:(r+1)*M.w<=M.h*M.w:=Nat.mul_le_mul_right _ wQ;rw[Nat.add_mul,Nat.one_mul]at this;lia
   have os:=ahx M (r*M.w+c);rw[xx hc,wx hc]at os;have AQ:ba "#" = ⟨#[35]⟩:=by decide +kernel
   have ed:(!decide (V.str ⟨#[M.g r c]⟩=V.str (ba "#"))) = !(M.g r c==35):=by rw[vf _ 35 AQ]
   refine(nj _ rfl _ rfl a _ _ ⟨_,rfl,rfl,SqT.of (sJ _ _ AD),(by rw[Int.zero_add];exact ng Hs),(o6 _ rfl _ _ (M.g r c) ⟨rfl,rfl,by rw[qf];exact FC dO,(by rw[Int.zero_add];exact ng (DU hc)),rfl,_,rfl,?_⟩)⟩);rw[ed];refine u6 (λh=>?_) (λh=>?_)
   .rw[if_pos h]at os;refine(o4 _ rfl (.inl ⟨rfl,_,SqL.of hJ⟩) _ ⟨rfl,_,rfl,sZ2,λt ht=>?_⟩);generalize g1:upd J t _=J1 at *;obtain⟨s2,e2⟩:=al ht g1;clear g1;have gO:=s2 _ _ hJ;refine(oq D ys _ ⟨rfl,rfl,gO,oe (by lia),?_⟩);refine(nq _ _ ⟨rfl,(sJ.trans s2).new hD,np,?_⟩);rw[<-j5,os,bn];rw[Int.zero_add,Int.zero_add]at e2;have im:=al2 M (oix M (r*M.w+c)++[r*M.w+c]);rw[bn]at im;refine((rep.same s2).snoc (show Rep J1 (cdx M (r*M.w+c)) (.ref t)from ?_)).tk (Tk.lst gO) im;rw[DI hc];exact uw e2
   .rw[if_neg h,dg]at os;exact(nq _ ys ⟨rfl,sJ,hJ,by rw[<-j5,os];exact rep⟩)
  .obtain⟨y3,ys,rfl,sJ,hJ,rep⟩:=h;exact(oq _ _ ys ⟨rfl,sJ,hJ,by rw[Nat.add_mul,Nat.one_mul];exact rep⟩)
 .obtain⟨y2,y3,ys,rfl,sG,hG,rep⟩:=h;exact⟨_,rfl,q D ys G sG hD hG rep⟩
end
theorem eDn:V.str (ba "-")=chV 45:=congrArg V.str (by decide +kernel)
theorem aes{p:Nat->Bool}{n:Nat}(h:∃i,i<n/\p i=true):∃t,(cb n).filter p=((cb n).find? p).getD 0::t:=by
 obtain⟨i,hi,hp⟩:=h;cases e:(cb n).filter p with
 | nil=>exact absurd (io.mpr ⟨fh.mpr hi,hp⟩) (by rw[e];simp)
 | cons a t=>
  have:(cb n).find? p=some a:=by rw[<-List.head?_filter,e];rfl
  rw[this];exact⟨t,rfl⟩
section
variable{P:aI}{w:aK}{K:aj}{mg:Str->Option aA}{base:Heap}{f:aE}{fd:aP}
def auy(w:aK):Sp:=λvs H Q _=>∃(cl ch:aE)(M:Mat)(ys fF:List V)(os:List Opt)(nk:Nat),vs=[.ref cl,.ref ch]/\0<M.w/\(ocn M).length<=64/\H cl=some (.lst ys)/\RepAll H ((ocn M).map (cdx M)) ys/\H ch=some (.lst fF)/\ChH H M nk fF os/\FitA M nk os/\os.length<=20/\
 ∀(D:aE)(xs:List KA)(ep:Nat)(H':Hp),Same H H'->DN w H' D xs ep->KnD M (knF M os) xs->Q (.ref D) H'
theorem scDec:nu ["_law_cells_here","_law_chosen","_law_known","_law_one","_law_row","_law_column","_law_sign"] ["_law_cells_here","_law_chosen"] (nh JR):={}
theorem au9(F:Fun K "_law_decided" "_law_decided" JR f fd):qt P w K mg base CX0 1 f fd ["_law_cells_here","_law_chosen"] (auy w):=by
 refine F.ok (k:=0) scDec (λvs H Q E h=>?_) (λbN A outer s H vs Q E hr h=>?_)
 .obtain⟨_,_,_,_,_,_,_,rfl,_⟩:=h;rfl
 obtain⟨cl,ch,M,ys,fF,os,nk,rfl,hw,sF,lK,oR,hch,hO,hF,AL,q⟩:=h;have hu:=hr.units;have lc:=oR.length;rw[ah]at lc;have lo:=hO.1;refine⟨_,(mw (n8 (i:=2) scDec.nd rfl (Or.inr rfl) K5)
  (mw (qj cj rfl (oz (pv 1)) (nc (i:=3) scDec.nd rfl (Or.inl rfl)) (m8 (rs (oy DK (pv 3) sx (pf _)) (m8 (FO (gd (gi (by decide) _) hu) (pv 2) (ny pi (o9 ["_law_cell","_law_known"] [none,some 2] rfl rfl (by decide +kernel) (by decide +kernel) rfl rfl (oz (pv 0)) (λ_=>(nc (i:=0) (show(["_law_cell","_law_known"]:List PySem.Str).Nodup by decide +kernel) rfl (Or.inl rfl))) (λ_=>u9 (FD (abr (gd (gi (by decide) _) hu) (pv 0) (pv 1)))) (λ_=>(pv 0))) mx (λ_ _=>rfl)) qe rfl)) (m8 (qj cj rfl (Bl (ny om (pv 3) mx (λ_ _=>rfl))) (sr (n:=3) rfl (ni (nc (i:=4) scDec.nd rfl (Or.inl rfl)) (ni (nc (i:=5) scDec.nd rfl (Or.inl rfl)) (ni (nc (i:=6) scDec.nd rfl (Or.inl rfl)) p5)))) (m8 (FO (gd (gi (by decide) _) hu) (pv 2) (oh (m9 (pv 4) (m9 (pv 5) mr))) (pv 6) rfl)))))))
  (m8 (nv (pv 2))))),?_⟩
 refine λD hD qZ=>?_;generalize gg:upd H D _=H1 at *;have s1:Same H H1:=(al hD gg).1;have d1:DN w H1 D [] 0:=by rw[<-gg];exact DN.new qZ
 clear gg;have keep:∀{G:Hp},Ex [D] H1 G->Same H G:=λex b o hb=>ex.at (λz=>by rw[z,hD]at hb;cases hb) (s1 _ _ hb);refine(qc _ rfl ch ⟨rfl,⟨_,SqL.of (s1 _ _ hch)⟩,?_⟩);refine rj (xs:=fF) (λi σ' G=>∃(y3 y4 y5 y6:Option V)(xs:List KA)(ep:Nat),σ'=[some (.ref cl),some (.ref ch),some (.ref D),y3,y4,y5,y6]/\Ex [D] H1 G/\DN w G D xs ep/\KnD M (knF M (os.take i)) xs/\xs.length<=6*i) ?_ (λi σ' G hi h=>?_) (λi v σ' G hv h=>?_) (λσ' G h=>?_)
 .exact(my _ _ _ _ ([]) ⟨0,rfl,Ex.refl _ _,d1,⟨λi k _=>rfl,λd hd=>(by cases hd)⟩,f7 _⟩)
 .obtain⟨_,_,_,_,_,_,_,ex,_⟩:=h;exact SqL.of (keep ex _ _ hch)
 .obtain⟨y3,y4,y5,y6,xs,ep,rfl,ex,dn,dG,Ca⟩:=h;have sG:=keep ex;have kH:=(ae.mp hv).1;obtain⟨o,ho,yN⟩:=(hO.tk (Tk.of_same sG)).at hv;have iV:=hF i o ho;have ek:knF M (os.take (i+1))=stp M (knF M (os.take i)) o:=by rw[dw,ho,jo,F1]
  rw[ek];generalize knF M (os.take i)=kn at *;cases o with
  | none=>
   cases (show v=V.non from yN);refine(o4 _ rfl rfl _ ⟨rfl,um ?_⟩);refine(ut _ rfl _ rfl cl ⟨rfl,⟨_,SqL.of (sG _ _ lK)⟩,λL hL=>?_⟩);have kZ:=oR.same sG;refine o5 (xs:=ys) (λt zs J=>Same G J/\RepAll J (((cb t).filter λj=>(kn j).isNone).map λj=>cdx M ((ocn M)[j]?.getD 0)) zs) ⟨Same.fresh _ hL,rfl⟩ (λt zs J p=>SqL.of (p.1 _ _ (sG _ _ lK))) (λt x zs J hx ht bA bY p=>?_) (λzs J bA bY p=>?_)
   .obtain⟨p1,p2⟩:=p;obtain⟨d,hd,rd⟩:=kZ.at hx;rw[au]at hd;obtain⟨k,hk,rfl⟩:=br.mp hd;obtain⟨ca,rfl,iO⟩:=xR rd;have CW:=p1 _ _ iO;refine⟨Agree.set (Agree.refl _) rfl,?_⟩;refine(nj _ rfl _ rfl D xs ep (nq (cdx M k) ca ⟨rfl,rfl,dn.same p1,kr2 CW,_,rfl,?_⟩));have ev:(!(sk xs (cdx M k)).isSome)=(kn t).isNone:=by rw[dG.1 t k hk];cases kn t<;>rfl
    rw[ev];have fs:(((cb (t+1)).filter λj=>(kn j).isNone).map λj=>cdx M ((ocn M)[j]?.getD 0))=(((cb t).filter λj=>(kn j).isNone).map λj=>cdx M ((ocn M)[j]?.getD 0))++if (kn t).isNone=true then[cdx M k]else[]:=by
     rw[jx,jn,bn]
     congr 1
     cases e:(kn t).isNone<;>simp[e,hk]
    refine u6 (λh=>?_) (λh=>?_)
    .rw[if_pos h]at fs;refine⟨_,rfl,qm (by lia) bA bY ⟨p1.new hL,?_⟩⟩;rw[fs];have im:pq ((((cb t).filter λj=>(kn j).isNone).map λj=>cdx M ((ocn M)[j]?.getD 0))++[cdx M k])=true:=qg λd hd=>by
      rcases ay.mp hd with h|h
      .obtain⟨j,_,rfl⟩:=bf.mp h;rfl
      .rw[ao.mp h];rfl
     exact(p2.snoc (uw CW)).tk (Tk.lst bA) im
    .rw[if_neg h,dg]at fs;exact⟨_,bA,i7 bY,p1,by rw[fs];exact p2⟩
   obtain⟨p1,p2⟩:=p;rw[lc]at p2;obtain⟨f1,f2,_⟩:=FR iV.1;obtain⟨t,et⟩:=aes (p:=λj=>(kn j).isNone) (n:=(ocn M).length) ⟨_,f1,by rw[f2];rfl⟩;rw[et,cy]at p2;obtain⟨z0,zt,rfl,r0,_⟩:=p2;have e0:(ocn M)[yf M kn]?=some ((ocn M)[yf M kn]'f1):=ab f1;have r0:Rep J (cdx M ((ocn M)[yf M kn]?.getD 0)) z0:=r0;rw[e0,Option.getD_some]at r0;obtain⟨ca,rfl,iO⟩:=xR r0;refine(nw L _ _ (.ref ca) ⟨rfl,rfl,SqL.of bA,ng (j:=0) rfl,(my D xs ep (cdx M ((ocn M)[yf M kn]'f1)) ca ⟨rfl,rfl,dn.same p1,kr2 iO,oe (by lia),λjN=>?_⟩)⟩);rw[eDn];have hl:=wu xs (cdx M ((ocn M)[yf M kn]'f1)) ca (chV 45);exact(my _ _ _ _ _ ⟨jN,rfl,ex.trans ((Ex.of_same p1).trans (Ex.upd (by simp))),(dn.same p1).put (kr2 iO) (oe (by lia)) _ jN,ako hw dG e0 ca,dv hl (by lia)⟩)
  | some od=>
   obtain⟨ss,n⟩:=od;obtain⟨_,_,h6,kE,mO⟩:=iV.2 _ rfl;have h6:ss.length<=6:=h6;have kE:(ss.map (cix M)).Nodup:=kE;have mO:∀s∈ss,OpS M s/\s.2.2<128/\s.2.2≠63/\kn (cix M s)=none:=mO;obtain⟨p,rfl,hp,_⟩:=yN;obtain⟨pp,An,uW,kD,y0,t0,rfl,⟨b,qF,rfl,hb,fW⟩,_⟩:=hp;cases uW;have lb:=fW.length;rw[ah]at lb;have lb:qF.length=ss.length:=lb;refine(o4 _ rfl rfl _ ⟨rfl,jG ?_⟩);refine(mz _ rfl p _ _ _ ⟨rfl,rfl,SqT.of kD,ng (j:=0) rfl,b,rfl,⟨_,SqT.of hb⟩,?_⟩);refine KU (xs:=qF) (λt σ' J=>∃(y4 y5 y6:Option V)(xs:List KA)(ep:Nat),σ'=[some (.ref cl),some (.ref ch),some (.ref D),some (.ref p),y4,y5,y6]/\Ex [D] G J/\DN w J D xs ep/\KnD M (knS kn ((ss.take t).map λs=>(cix M s,s.2.2))) xs/\xs.length<=6*i+t) ?_ (λt σ' J ht h=>?_) (λt x σ' J hx h=>?_) (λσ' J h=>?_)
   .exact(my _ _ _ xs ep ⟨rfl,Ex.refl _ _,dn,dG,by lia⟩)
   .obtain⟨_,_,_,_,_,_,lY,_⟩:=h;exact SqT.of (lY.at (ux hb dn.obj (by intro z;cases z)) hb)
   .obtain⟨y4,y5,y6,xs,ep,rfl,lY,EV,rT,Hc⟩:=h;obtain⟨sd,Cn,GB⟩:=fW.at hx;rw[au]at Cn;obtain⟨⟨r0,c0,k0⟩,hs,rfl⟩:=br.mp Cn;have Ar:=(ae.mp hs).1;obtain⟨b',rfl,eY,_⟩:=sf GB;obtain⟨lT,_⟩:=mO _ (ak hs);have gJ:b'≠D:=ux eY dn.obj (by intro z;cases z);refine(n0 b' _ rfl (SqT.of (lY.at gJ eY)) rfl _ _ rfl _ (o8 _ rfl _ _ ⟨rfl,rfl,?_⟩));refine(ut _ rfl _ rfl _ ⟨rfl,_,rfl,sZ2,λta hta=>?_⟩);generalize g1:upd J ta _=J1 at *;obtain⟨s5,e5⟩:=al hta g1;clear g1;have kt:=rT;have rL:=ako hw rT (c:=k0) (vc lT) ta;rw[DI lT.2.1]at rL;have hl:=wu xs (clD (r0:Nat) (c0:Nat)) ta (chV k0);refine(my D xs ep (clD (r0:Nat) (c0:Nat)) ta ⟨rfl,rfl,EV.same s5,kr2 e5,oe (by lia),λjN=>?_⟩);refine(my _ _ _ _ jN ⟨rfl,lY.trans ((Ex.of_same s5).trans (Ex.upd (by simp))),(EV.same s5).put (kr2 e5) (oe (by lia)) _ jN,?_,dv hl (by lia)⟩);have nd':(((ss.take t).map (λs=>(cix M s,s.2.2))++[(cix M (r0,c0,k0),k0)]).map (·.1)).Nodup:=by
     have e:((ss.take t).map (λs=>(cix M s,s.2.2))++[(cix M (r0,c0,k0),k0)]).map (·.1)=(ss.take (t+1)).map (cix M):=by rw[dw,hs,jo,bn,bn,cq];rfl
     rw[e,List.map_take];exact List.Nodup.sublist (k7 _ _) kE
    rw[an8 _ _ _ nd']at rL;rw[dw,hs,jo,bn];exact rL
   .obtain⟨y4,y5,y6,xs,ep,rfl,lY,EV,rT,Hc⟩:=h;rw[av (by lia)]at rT;exact(my _ _ _ _ xs ⟨ep,rfl,ex.trans lY,EV,rT,by lia⟩)
 .obtain⟨y3,y4,y5,y6,xs,ep,rfl,ex,dn,dG,Ca⟩:=h;rw[av (by lia)]at dG;exact⟨_,rfl,q D xs ep G (keep ex) dn dG⟩
end
end K22
namespace L3
open PySem PySem.Spec PyProof.Rows L2
theorem aof:∀c,c<128->Txt.islower ⟨#[c]⟩=xf c:=by decide +kernel
section
variable{X:Cx}
theorem aij:MtR X "str.islower" (λx vs H Q=>∃c:Nat,x=.str ⟨#[c]⟩/\vs=[]/\c<128/\Q (.bl (xf c)) H):=by intro aC s σ H x vs v us Q I rx rv h;obtain⟨c,rfl,rfl,hc,q⟩:=h;obtain⟨t,rfl⟩:=rx;have oW:=rv.zero;subst oW;refine SC.islower (nq (.bl _) H ⟨I,rfl,?_⟩);rw[aof c hc];exact q
end
end L3
namespace K22
open PySem PyProof.Rows L2 L3
noncomputable def Bc(k:Nat):Bool:=k==44||xf k
theorem ann{k:Nat}(h:sgB k=true)(h35:k≠35):Bc k=Bool.not (xP k):=by
 have hk:k<128:=by unfold sgB at h;simp only[Bool.or_eq_true,dz,beq_iff_eq,decide_eq_true_eq]at h;lia
 have:∀k,k<128->sgB k=true->k≠35->Bc k=Bool.not (xP k):=by decide +kernel
 exact this k hk h h35
noncomputable def prE(ads:List PyData)(a b:Nat):Bool:=prB ads a b||prB ads b a
theorem ap7{ads:List PyData}(h:ApS ads){a b:Nat}:prB ads a b=true↔.tuple [chD a,chD b]∈ads:=by
 unfold prB;rw[gq];have key:∀x y:Nat,bw (.tuple [chD x,chD y]) (.tuple [chD a,chD b])=true↔x=a/\y=b:=λx y=>by show(((⟨#[x]⟩:Str)==⟨#[a]⟩)&&(((⟨#[y]⟩:Str)==⟨#[b]⟩)&&true))=true↔_;simp
 constructor
 .rintro⟨d,hd,e⟩;obtain⟨x,y,_,_,rfl⟩:=h d hd;obtain⟨rfl,rfl⟩:=(key x y).mp e;exact hd
 .intro hd;exact⟨_,hd,(key a b).mpr ⟨rfl,rfl⟩⟩
theorem Fb{ads:List PyData}(h:ApS ads){a b:Nat}(e:prB ads a b=true):65<=a/\a<=b:=by
 obtain⟨x,y,h1,h2,e⟩:=h _ ((ap7 h).mp e);injection e with e
 injection e with e1 e
 injection e with e2 _
 unfold chD at e1 e2;injection e1 with e1
 injection e2 with e2
 have e1:a=x:=by simpa using e1
 have e2:b=y:=by simpa using e2
 lia
theorem al3{ads:List PyData}(h:ApS ads){a c:Nat}(hc:c<65):prE ads a c=false:=by
 unfold prE;rw[Bool.or_eq_false_iff];refine⟨f9.mpr λz=>?_,f9.mpr λz=>?_⟩
 .have:=Fb h z;lia
 .have:=Fb h z;lia
theorem alm{ads:List PyData}(h:ApS ads)(a b:Nat):zR ads a b=prE ads a b:=by
 unfold zR prE;rw[gc,Bool.or_eq_true];by_cases jX:a<=b
 .rw[fk jX,Nat.max_eq_right jX];refine⟨.inl,λz=>z.elim id λz=>?_⟩;have:a=b:=by have:=Fb h z;lia
  subst this;exact z
 .rw[Nat.min_eq_right (by lia),Nat.max_eq_left (by lia)];refine⟨.inr,λz=>z.elim (λz=>?_) id⟩;have:=Fb h z;lia
noncomputable def cdP(xs:List KA)(p:Int×Int):Nat:=match sk xs (cD p)with
 | some (.str z)=>z.cps.toList.headD 45
 | _=>45
def ClS(ads:List PyData)(M:Mat)(kn:Kn)(s:Sg):Prop:=kn (cix M s)≠none\/∃j∈nb M (cix M s),∃c,kn j=some c/\prE ads s.2.2 c=true
theorem awl{p q:Int×Int}(h:cD p=cD q):p=q:=by
 unfold cD clD at h;injection h with h
 injection h with h1 h
 injection h with h2 _
 injection h1 with h1
 injection h2 with h2
 exact Prod.ext h1 h2
theorem as0{M:Mat}{kn:Kn}{xs:List KA}(h:KnD M kn xs)(sg:Sgn kn)(p:Int×Int):(sk xs (cD p)).getD (chV 45)=chV (cdP xs p)/\cdP xs p<128/\(cdP xs p=45\/∃(j k:Nat),(ocn M)[j]?=some k/\p=cell M k/\kn j=some (cdP xs p)):=by
 unfold cdP;cases e:sk xs (cD p)with
 | none=>exact⟨rfl,(by show 45<128;decide),.inl rfl⟩
 | some v=>
  obtain⟨j,k,hj,hd⟩:=h.2 _ (by rw[e];rfl);have h1:=h.1 j k hj;rw[<-hd,e]at h1;cases hk:kn j with
  | none=>rw[hk]at h1;cases h1
  | some c=>
   rw[hk]at h1;cases h1;exact⟨rfl,(sg j c hk).1,.inr (nq j k ⟨hj,awl hd,hk⟩)⟩
theorem apu{M:Mat}{kn:Kn}{xs:List KA}{ads:List PyData}(h:KnD M kn xs)(sg:Sgn kn)(ha:ApS ads){i k a:Nat}(hk:(ocn M)[i]?=some k):(∃p∈mD (cell M k).1 (cell M k).2,prE ads a (cdP xs p)=true)↔∃j∈nb M i,∃c,kn j=some c/\prE ads a c=true:=by
 constructor
 .rintro⟨p,hp,e⟩;obtain⟨_,_,h3|⟨j,k',hj,rfl,hc⟩⟩:=as0 h sg p
  .rw[h3,al3 ha (by decide)]at e;cases e
  .exact(qc j (mem_nb.mpr (nq k k' ⟨hk,hj,hp⟩)) _ ⟨hc,e⟩)
 .rintro⟨j,hj,c,hc,e⟩;obtain⟨k0,k',e1,e2,hm⟩:=mem_nb.mp hj;rw[hk]at e1;cases e1;refine⟨cell M k',hm,?_⟩;have h1:=h.1 j k' e2;have:cdP xs (cell M k')=c:=by
   unfold cdP;rw[show cD (cell M k')=cdx M k' from rfl,h1,hc];rfl
  rw[this];exact e
theorem ata{H:Hp}{p:Int×Int}{v:V}(h:Rep H (cD p) v):∃a,v=.ref a/\H a=some (.tup [.int p.1,.int p.2]):=by obtain⟨a,xs,rfl,ha,z1,t1,rfl,h1,z2,t2,rfl,h2,rfl⟩:=h;cases (show z1=_ from h1);cases (show z2=_ from h2);exact⟨a,rfl,ha⟩
seal L2.PE L2.PT L2.PW L2.PA L2.PS L2.PSs L2.PG L2.PGs L2.PI L2.PO
section
variable{P:aI}{w:aK}{K:aj}{mg:Str->Option aA}{base:Heap}{f:aE}{fd:aP}
def avk:Sp:=λvs H Q _=>∃(a b:aE)(M:Mat)(r c:Nat),vs=[.ref a,.ref b]/\FlM H a M/\H b=some (.tup [.int (r:Nat),.int (c:Nat)])/\r<M.h/\c<M.w/\Q (.bl (Bc (M.g r c))) H
theorem scMbl:nu ["_law_floor_here","_law_cell","_law_sign"] ["_law_floor_here","_law_cell"] (nh Jk):={}
theorem atv(F:Fun K "_law_may_be_left" "_law_may_be_left" Jk f fd):qt P w K mg base CX0 1 f fd ["_law_floor_here","_law_cell"] avk:=by
 refine F.ok (k:=0) scMbl (λvs H Q E h=>?_) (λbN A outer s H vs Q E hr h=>?_)
 .obtain⟨_,_,_,_,_,rfl,_⟩:=h;rfl
 obtain⟨a,b,M,r,c,rfl,hf,hb,wQ,hc,q⟩:=h;have dO:=hf.2;refine⟨_,(mw (n8 (i:=2) scMbl.nd rfl (Or.inl rfl) (ny xq (ny om (pv 0) (ny om (pv 1) mx (λ_ _=>rfl)) (λ_ _=>rfl)) (ny om (pv 1) mx (λ_ _=>rfl)) (λ_ _=>rfl)))
  (m8 (nv (avh (su sX (pv 2) qe (pf _)) (DD (ao5 mm PySem.F.slot_str_islower PySem.F.type_str_islower aij (pv 2))))))),?_⟩
 have e44:ba "," = ⟨#[44]⟩:=by decide +kernel
 have Hs:=zq (M:=M) wQ;refine(nj _ rfl _ rfl b _ _ (vh _ rfl rfl (SqT.of hb) (ng (j:=0) rfl) a _ (agw _ _ rfl rfl (SqT.of hf.1) (ng Hs) _ rfl b (oq _ _ _ ⟨rfl,rfl,SqT.of hb,ng (j:=1) rfl,(oq _ _ (M.g r c) ⟨rfl,rfl,by rw[qf];exact FC dO,ng (DU hc),?_⟩)⟩))));have pO:=Bh (dO.sg r c wQ hc);generalize M.g r c=g at *;have ed:decide (V.str ⟨#[g]⟩=V.str (ba ","))=(g==44):=vf _ 44 e44;refine(o4 _ rfl rfl _ ⟨rfl,?_⟩);rw[ed];unfold Bc at q;refine u6 (λh=>?_) (λh=>?_)
 .rw[h,Bool.true_or]at q;exact q
 .rw[f9.mpr h,Bool.false_or]at q;exact(o4 _ rfl rfl g ⟨rfl,rfl,pO,q⟩)
def av2(w:aK):Sp:=λvs H Q _=>∃(D p e:aE)(M:Mat)(xs:List KA)(ep:Nat)(kn:Kn)(bT:List V)(ads:List PyData)(ss:List Sg)(n:Int),vs=[.ref D,.ref p,.ref e]/\0<M.w/\DN w H D xs ep/\KnD M kn xs/\Sgn kn/\H e=some (.tup bT)/\RepAll H ads bT/\ApS ads/\Rep H (plD ss n) (.ref p)/\(∀s∈ss,OpS M s/\s.2.2<128)/\
 ∀(t:Bool)(H':Hp),Same H H'->(t=true↔∃s∈ss,ClS ads M kn s)->Q (.bl t) H'
theorem scCla:nu ["_law_known","_law_placement","_law_apart_here","_law_row","_law_column","_law_sign","_law_one","_law_pair"] ["_law_known","_law_placement","_law_apart_here"] (nh JH):={}
theorem awc(L8:Fn P w K mg base "_law_beside" 1 ["_law_cell"] Ff)(F:Fun K "_law_clash" "_law_clash" JH f fd):qt P w K mg base CX0 2 f fd ["_law_known","_law_placement","_law_apart_here"] (av2 w):=by
 refine F.ok (k:=1) scCla (λvs H Q E h=>?_) (λbN A outer s H vs Q E hr h=>?_)
 .obtain⟨_,_,_,_,_,_,_,_,_,_,_,rfl,_⟩:=h;rfl
 obtain⟨D,p,e,M,xs,ep,kn,bT,ads,ss,n,rfl,hw,dn,dG,Gq,he,oS,oB,hp,mO,q⟩:=h;have hu:=hr.units;obtain⟨pp,An,uW,kD,y0,t0,rfl,⟨b,qF,rfl,hb,fW⟩,_⟩:=hp;cases uW;have lb:=fW.length;rw[ah]at lb;refine⟨_,(mw (qj cj rfl (Bl (ny om (pv 1) mx (λ_ _=>rfl))) (sr (n:=3) rfl (ni (nc (i:=3) scCla.nd rfl (Or.inl rfl)) (ni (nc (i:=4) scCla.nd rfl (Or.inl rfl)) (ni (nc (i:=5) scCla.nd rfl (Or.inl rfl)) p5)))) (mw (rs (FD (apm (gd (gi (by decide) _) hu) (oh (m9 (pv 3) (m9 (pv 4) mr))) (pv 0))) (m8 (nv uC)) pw)
  (m8 (qj cj rfl (oz (oj L8 hr (by decide) rfl (m9 (oh (m9 (pv 3) (m9 (pv 4) mr))) mr))) (nc (i:=6) scCla.nd rfl (Or.inl rfl)) (mw (n8 (i:=7) scCla.nd rfl (Or.inl rfl) (oh (m9 (pv 5) (m9 (aoi (gd (gi (by decide) _) hu) (pv 0) (pv 6) qe ⟨rfl,rfl,rfl,rfl⟩) mr))))
  (m8 (rs (PW.pt (Fe (oy (DC hu) (pv 7) (pv 2) rfl) (Fv (oy (DC hu) (oh (m9 (ny om (pv 7) mx (λ_ _=>rfl)) (m9 (pv 5) mr))) (pv 2) rfl)))) (m8 (nv uC)) pw)))))))
  (m8 (nv uC))),?_⟩
 refine(mz _ rfl p _ _ _ ⟨rfl,rfl,SqT.of kD,ng (j:=0) rfl,b,rfl,⟨_,SqT.of hb⟩,?_⟩);refine KU (xs:=qF) (λi σ' G=>∃(y3 y4 y5 y6 y7:Option V),σ'=[some (.ref D),some (.ref p),some (.ref e),y3,y4,y5,y6,y7]/\Same H G/\∀s∈ss.take i,¬ClS ads M kn s) ?_ (λi σ' G hi hI=>?_) (λi x σ' G hx hI=>?_) (λσ' G hI=>?_)
 .exact(my _ _ _ _ _ ⟨rfl,Same.refl _,λs hs=>by cases hs⟩)
 .obtain⟨_,_,_,_,_,_,sg,_⟩:=hI;exact SqT.of (sg _ _ hb)
 .obtain⟨y3,y4,y5,y6,y7,rfl,sg,lU⟩:=hI;obtain⟨d0,EE,rd⟩:=fW.at hx;rw[au]at EE;obtain⟨⟨r,c,k⟩,hs,rfl⟩:=br.mp EE;obtain⟨b',rfl,eY,hok⟩:=sf rd;have As:=ak hs;obtain⟨ho,hk⟩:=mO _ As;have hk:k<128:=hk;have AF:=vc ho;have oA:=DI (M:=M) (r:=r) ho.2.1;have hkc:=dG.1 _ _ AF;rw[oA]at hkc;refine(n0 b' _ rfl (SqT.of (sg _ _ eY)) rfl _ _ rfl _ (o8 _ rfl _ _ ⟨rfl,rfl,?_⟩));refine(qc _ rfl _ ⟨rfl,sZ2,λa1 h1=>?_⟩);generalize g1:upd G a1 _=G1 at *;obtain⟨s1,e1⟩:=al h1 g1;clear g1;have Gw:=sg.trans s1;refine(mz _ rfl D xs ep (clD (r:Nat) (c:Nat)) ⟨a1,rfl,rfl,dn.same Gw,kr2 e1,_,rfl,?_⟩);refine u6 (λh=>?_) (λh=>?_)
  .refine q true G1 Gw ⟨λ_=>⟨_,As,.inl λz=>?_⟩,λ_=>rfl⟩;rw[hkc,z]at h;cases h
  have hkN:kn (cix M (r,c,k))=none:=by
   cases z:kn (cix M (r,c,k))with
   | none=>rfl
   | some v=>exact absurd (by rw[hkc,z];rfl) h
  refine(qc _ rfl _ ⟨rfl,sZ2,λa2 h2=>?_⟩);generalize g1:upd G1 a2 _=G2 at *;obtain⟨s2,e2⟩:=al h2 g1;clear g1;refine(oq a2 (r:Nat) (c:Nat) ⟨rfl,e2,λl lys G3 s3 yW hl BL=>?_⟩);have wI:=(Gw.trans s2).trans s3;refine⟨l,rfl,⟨_,SqL.of hl⟩,?_⟩;refine rj (xs:=lys) (λj σ' J=>∃(y6 y7:Option V),σ'=[some (.ref D),some (.ref p),some (.ref e),some (.int (r:Nat)),some (.int (c:Nat)),some (.str ⟨#[k]⟩),y6,y7]/\Same G3 J/\∀p∈(mD (r:Nat) (c:Nat)).take j,prE ads k (cdP xs p)=false) ?_ (λj σ' J hj hI=>?_) (λj x σ' J hx hI=>?_) (λσ' J hI=>?_)
  .exact(nq _ _ ⟨rfl,Same.refl _,λp hp=>by cases hp⟩)
  .obtain⟨_,_,_,sJ,_⟩:=hI;exact SqL.of (sJ _ _ hl)
  .obtain⟨y6,y7,rfl,sJ,uZ⟩:=hI;obtain⟨d1,mX,rd1⟩:=BL.at hx;rw[show E3 (r:Nat) (c:Nat)=(mD (r:Nat) (c:Nat)).map cD from rfl,au]at mX;obtain⟨cp,hcp,rfl⟩:=br.mp mX;obtain⟨b1,rfl,vK⟩:=ata rd1;have Eh:=wI.trans sJ;have hJb:=sJ _ _ vK;have dnJ:=dn.same Eh;obtain⟨ec,hc8,_⟩:=as0 dG Gq cp;refine(ut _ rfl _ rfl D ⟨rfl,(nq xs ep dnJ),(mz _ rfl xs ep (cD cp) b1 ⟨rfl,dnJ,kr2 hJb,sZ2,λt ht=>?_⟩)⟩);rw[eDn,ec];generalize CV:cdP xs cp=cc at *;generalize g1:upd J t _=J1 at *;obtain⟨s4,e4⟩:=al ht g1;clear g1;have uJ:=Eh.trans s4;have rp:∀{G:Hp} {t:aE} {x y:Nat},G t=some (.tup [chV x,chV y])->x<128->y<128->Rep G (.tuple [chD x,chD y]) (.ref t):=λh hx hy=>(pj _ _ rfl h _ _ rfl ⟨rfl,ok1 hx⟩ _ ⟨_,rfl,⟨rfl,ok1 hy⟩,rfl⟩);have fL:prE ads k cc=true->ClS ads M kn (r,c,k):=λz=>.inr ((apu dG Gq oB AF).mp ⟨cp,by
    have:cell M (r*M.w+c)=(((r:Nat):Int),((c:Nat):Int)):=by unfold cell;rw[xx ho.2.1,wx ho.2.1]
    show cp∈mD (cell M (r*M.w+c)).1 (cell M (r*M.w+c)).2;rw[this];exact ak hcp,by rw[CV];exact z⟩)
   refine(nj _ rfl _ rfl (.tuple [chD k,chD cc]) e bT ⟨ads,rp e4 hk hc8,rfl,.inr (uJ _ _ he),oS.same uJ,(by simp[g0,bv,chD]),?_⟩);refine⟨_,rfl,?_⟩;rw[if_neg ai];have e9:(ads.any λe=>bw e (.tuple [chD k,chD cc]))=prB ads k cc:=rfl;rw[e9];refine u6 (λh=>?_) (λh=>?_)
   .exact um (q true J1 uJ ⟨λ_=>⟨_,As,fL (by unfold prE;rw[h];rfl)⟩,λ_=>rfl⟩)
   refine(mz _ rfl t _ _ _ ⟨rfl,rfl,SqT.of e4,ng (j:=1) rfl,_,rfl,sZ2,λt2 qY=>?_⟩);generalize g1:upd J1 t2 _=J2 at *;obtain⟨s5,e5⟩:=al qY g1;clear g1;have xZ:=uJ.trans s5;refine(mz _ rfl (.tuple [chD cc,chD k]) e bT ads ⟨rp e5 hc8 hk,rfl,.inr (xZ _ _ he),oS.same xZ,(by simp[g0,bv,chD]),?_⟩);refine⟨_,rfl,?_⟩;rw[if_neg ai];have e9:(ads.any λe=>bw e (.tuple [chD cc,chD k]))=prB ads cc k:=rfl;rw[e9];refine u6 (λh2=>?_) (λh2=>?_)
   .exact q true J2 xZ ⟨λ_=>⟨_,As,fL (by unfold prE;rw[h2,Bool.or_true])⟩,λ_=>rfl⟩
   .refine(nq _ _ ⟨rfl,(sJ.trans s4).trans s5,λp' wR=>?_⟩);rw[dw,hcp]at wR;rcases ay.mp wR with h3|h3
    .exact uZ p' h3
    .rw[ao.mp (show p'∈[cp]from h3),CV];unfold prE;rw[f9.mpr h,f9.mpr h2];rfl
  .obtain⟨y6,y7,rfl,sJ,uZ⟩:=hI;rw[av (by rw[BL.length];exact aq 4)]at uZ;refine(my _ _ _ _ _ ⟨rfl,wI.trans sJ,λs dQ=>?_⟩);rw[dw,hs]at dQ;rcases ay.mp dQ with h|h
   .exact lU s h
   .cases ao.mp (show s∈[(r,c,k)]from h);rintro(z|z)
    .exact z hkN
    .obtain⟨p,hp,e⟩:=(apu dG Gq oB AF).mpr z;have lK:cell M (r*M.w+c)=(((r:Nat):Int),((c:Nat):Int)):=by unfold cell;rw[xx ho.2.1,wx ho.2.1]
     have hp:p∈mD (cell M (r*M.w+c)).1 (cell M (r*M.w+c)).2:=hp;rw[lK]at hp;rw[uZ p hp]at e;cases e
 .obtain⟨y3,y4,y5,y6,y7,rfl,sg,lU⟩:=hI;rw[av (by lia)]at lU;exact q false G sg ⟨λz=>(by cases z),λ⟨s,hs,h⟩=>absurd h (lU s hs)⟩
end
def LwG(ads:List PyData)(M:Mat)(lms:List (Int×Option Int))(kn:Kn)(os:List Opn)(q:List Sg×Nat):Prop:=(∀lm m,lms[q.2]?=some lm->lm.2=some m->((os.countP (isK q.2):Nat):Int)<m)/\∀s∈q.1,¬ClS ads M kn s
noncomputable def lwB(ads:List PyData)(M:Mat)(lms:List (Int×Option Int))(kn:Kn)(os:List Opn)(q:List Sg×Nat):Bool:=open Classical in decide (LwG ads M lms kn os q)
theorem lwB_iff{ads:List PyData}{M:Mat}{lms:List (Int×Option Int)}{kn:Kn}{os:List Opn}{q:List Sg×Nat}:lwB ads M lms kn os q=true↔LwG ads M lms kn os q:=@decide_eq_true_iff _ (Classical.propDecidable _)
noncomputable def lwO(ads:List PyData)(M:Mat)(lms:List (Int×Option Int))(kn:Kn)(os:List Opn)(pls:List (List Sg×Nat)):List Opn:=lvO M (yf M kn)++(pls.filter λq=>frs M q==yf M kn&&lwB ads M lms kn os q).map some
theorem amv{ads:List PyData}{M:Mat}{lms:List (Int×Option Int)}{kn:Kn}{os:List Opn}{pls:List (List Sg×Nat)}{j:Nat}{q:List Sg×Nat}(h:pls[j]?=some q):lwO ads M lms kn os (pls.take (j+1))=lwO ads M lms kn os (pls.take j)++if (frs M q==yf M kn&&lwB ads M lms kn os q)=true then[some q]else[]:=by
 unfold lwO;rw[dw,h,jn,bn,bz]
 congr 2
 show(List.filter _ [q]).map some=_;rw[List.filter_cons];split<;>rfl
theorem avz(r c r' c':Nat):bw (clD (r:Nat) (c:Nat)) (clD (r':Nat) (c':Nat))=(decide (r=r')&&decide (c=c')):=by
 show(((r:Int)==(r':Int))&&(((c:Int)==(c':Int))&&true))=_;rw[Bool.and_true]
 congr 1
 .rw[gc];simp;lia
 .rw[gc];simp;lia
theorem au3{M:Mat}{ss:List Sg}{n r c k k0 i:Nat}(hs:ss[0]?=some (r,c,k))(ho:OpS M (r,c,k))(h0:(ocn M)[i]?=some k0):bw (clD (r:Nat) (c:Nat)) (cdx M k0)=(frs M (ss,n)==i):=by
 have nY:frs M (ss,n)=cix M (r,c,k):=by unfold frs;rw[List.headD_eq_head?_getD,List.head?_eq_getElem?];show cix M ((ss[0]?).getD _)=_;rw[hs];rfl
 have hc:=vc ho;have hw:c<M.w:=ho.2.1;rw[nY];show bw _ (clD ((k0/M.w:Nat)) ((k0 % M.w:Nat)))=_;rw[avz,gc,dz,decide_eq_true_iff,decide_eq_true_iff,beq_iff_eq];constructor
 .rintro⟨rfl,rfl⟩;have e:(ocn M)[cix M (k0/M.w,k0 % M.w,k)]?=some (k0/M.w*M.w+k0 % M.w):=hc;rw[Nat.mul_comm,Nat.div_add_mod]at e;exact(List.getElem?_inj (ae.mp e).1 (Bn M _)).mp (e.trans h0.symm)
 .intro e;have hc:(ocn M)[cix M (r,c,k)]?=some (r*M.w+c):=hc;rw[e,h0]at hc;cases hc;exact⟨(xx hw).symm,(wx hw).symm⟩
section
variable{P:aI}{w:aK}{K:aj}{mg:Str->Option aA}{base:Heap}{f:aE}{fd:aP}
def au7:Sp:=λvs H Q _=>∃(pz fl kr e ch pl:aE)(M:Mat)(aU:List V) (ks:List (List PyData×Nat)) (lms:List (Int×Option Int)) (bT:List V) (ads:List PyData) (fF:List V) (os:List Opn) (lR:List V),vs=[.ref pz,.ref ch,.ref pl]/\PzB H pz fl kr e M aU ks lms bT ads/\ApS ads/\H ch=some (.lst fF)/\ChH H M lms.length fF os/\FitA M lms.length os/\os.length<=20/\H pl=some (.lst lR)/\RepAll H ((PLs M ks).map plO) lR/\
 ∀(r:aE)(H':Hp)(yD:List Opn),Same H H'->H r=none->OpsE H' yD r->(((∀i,i<(ocn M).length->knF M os i≠none)/\yD=[])\/((∃i,i<(ocn M).length/\knF M os i=none)/\yD=lwO ads M lms (knF M os) os (PLs M ks)))->Q (.ref r) H'
theorem scLop:nu ["_law_puzzle_here","_law_chosen","_law_some","_law_floor_here","_law_kinds_here","_law_apart_here","_law_cells_here","_law_known","_law_left","_law_found","_law_placement","_law_most","_law_many"] ["_law_puzzle_here","_law_chosen","_law_some"] (nh Jl):={}
theorem awg(B:∀x∈v7,mg x=none)(L5:Fn P w K mg base "_law_cells" 1 ["_law_floor_here"] AW)(L1:Fn P w K mg base "_law_decided" 1 ["_law_cells_here","_law_chosen"] (auy w))(LQ:Fn P w K mg base "_law_may_be_left" 1 ["_law_floor_here","_law_cell"] avk)(L4:Fn P w K mg base "_law_clash" 2 ["_law_known","_law_placement","_law_apart_here"] (av2 w))(F:Fun K "_law_options" "_law_options" Jl f fd):qt P w K mg base CX0 3 f fd ["_law_puzzle_here","_law_chosen","_law_some"] au7:=by
 refine F.ok (k:=2) scLop (λvs H Q E h=>?_) (λbN A outer s H vs Q E hr h=>?_)
 .obtain⟨_,_,_,_,_,_,_,_,_,_,_,_,_,_,_,rfl,_⟩:=h;rfl
 obtain⟨pz,fl,kr,e,ch,pl,M,aU,ks,lms,bT,ads,fF,os,lR,rfl,hP,oB,hch,hO,hF,AL,hpl,jJ,q⟩:=h;have hu:=hr.units;have dO:=hP.fl.2;have yZ:M.h*M.w<=64:=ky dO.h8 dO.w8;have rO:(ocn M).length<=64:=dv (yq M _) yZ;refine⟨_,(mw (xo (pv 0) (sr (n:=3) rfl (ni (nc (i:=3) scLop.nd rfl (Or.inl rfl)) (ni (nc (i:=4) scLop.nd rfl (Or.inl rfl)) (ni (nc (i:=5) scLop.nd rfl (Or.inl rfl)) p5)))))
  (mw (n8 (i:=6) scLop.nd rfl (Or.inl rfl) (oj L5 hr (by decide) rfl (m9 (pv 3) mr)))
  (mw (n8 (i:=7) scLop.nd rfl (Or.inr rfl) (oj L1 hr (by decide) rfl (m9 (pv 6) (m9 (pv 1) mr))))
  (mw (aku (i:=8) ["_law_cell","_law_known"] [none,some 7] scLop.nd rfl (Or.inl rfl) rfl rfl rfl (by decide +kernel) (by decide +kernel) rfl rfl (oz (pv 6)) (λ_=>(nc (i:=0) (show(["_law_cell","_law_known"]:List PySem.Str).Nodup by decide +kernel) rfl (Or.inl rfl))) (λ_=>u9 (FD (abr (gd (gi (by decide) _) hu) (pv 0) (pv 1)))) (λ_=>(pv 0)))
  (mw (rs (oy (Kw hu) (pv 8) (qa mr) (pf _)) (m8 (nv (qa mr))) pw)
  (mw (n8 (i:=9) scLop.nd rfl (Or.inl rfl) (ul ajt (qa (m9 sx mr)) yo (vx (yp aer rfl (B "int" (by decide)) PyProof.Rows.boot_int (m9 (oj LQ hr (by decide) rfl (m9 (pv 3) (m9 (ny pi (pv 8) mx (λ_ _=>rfl)) mr))) mr)))))
  (mw (qj cj rfl (oz (pv 2)) (nc (i:=10) scLop.nd rfl (Or.inr rfl)) (mw (n8 (i:=11) scLop.nd rfl (Or.inl rfl) (ny om (ny om (pv 4) (ny om (pv 10) mx (λ_ _=>rfl)) (λ_ _=>rfl)) mx (λ_ _=>rfl)))
  (mw (n8 (i:=12) scLop.nd rfl (Or.inl rfl) (rg qd rfl (B "len" (by decide)) ip (m9 (o9 ["_law_one","_law_placement"] [none,some 10] rfl rfl (by decide +kernel) (by decide +kernel) rfl rfl (oz (pv 1)) (λ_=>(nc (i:=0) (show(["_law_one","_law_placement"]:List PySem.Str).Nodup by decide +kernel) rfl (Or.inl rfl))) (λ_=>u9 (PW.pt (zT (oy akk (pv 0) sx (pf _)) (wn (oy sX (ny va (pv 0) mx (λ_ _=>rfl)) (ny va (pv 1) mx (λ_ _=>rfl)) (pf _)))))) (λ_=>(pv 0))) mr)))
  (m8 (rs (PW.pt (zT (oy (Kw hu) (ul FX (ny om (ny om (pv 10) mx (λ_ _=>rfl)) mx (λ_ _=>rfl)) yo (vx mx)) (ny pi (pv 8) mx (λ_ _=>rfl)) (pf _)) (wn (PW.pt (Fe (oy DK (pv 11) sx (pf _)) (Fv (oy J9 (pv 12) (pv 11) (pf _)))))))) (m8 (rs (KJ (wf (oj L4 hr (by decide) rfl (m9 (pv 7) (m9 (pv 10) (m9 (pv 5) mr)))))) (m8 (rq (wq fc fx fy qo (pv 9) (m9 (pv 10) mr)))) pw)) pw)))))
  (m8 (nv (pv 9)))))))))),?_⟩
 refine(aa0 _ rfl pz _ rfl (SqT.of hP.pz) rfl _ _ ⟨rfl,(nq _ _ ⟨rfl,(nq _ _ ⟨rfl,rfl,?_⟩)⟩)⟩);refine(o8 _ rfl fl M ⟨rfl,hP.fl,λcl Jf H1 s1 hcl0 lK oR=>?_⟩);refine(nj _ rfl _ rfl cl ch M (nw Jf fF os lms.length ⟨rfl,dO.w1,rO,lK,oR,s1 _ _ hch,hO.tk (Tk.of_same s1),hF,AL,λD xs ep H2 s2 dn dG=>?_⟩));have jI:=s1.trans s2;have sgn:Sgn (knF M os):=by have:=hF.sgn os.length;rw[l9]at this;exact this
 have CU:=s2 _ _ lK;have kZ:=oR.same s2;have lc:=oR.length;rw[ah]at lc;have lc:Jf.length=(ocn M).length:=lc;generalize hkN:knF M os=kn at *;refine(qc _ rfl cl ⟨rfl,⟨_,SqL.of CU⟩,λL hL=>?_⟩);refine o5 (xs:=Jf) (λt zs J=>Same H2 J/\RepAll J (((cb t).filter λj=>(kn j).isNone).map λj=>cdx M ((ocn M)[j]?.getD 0)) zs) ⟨Same.fresh _ hL,rfl⟩ (λt zs J p=>SqL.of (p.1 _ _ CU)) (λt x zs J hx ht bA bY p=>?_) (λzs J bA bY p=>?_)
 .obtain⟨p1,p2⟩:=p;obtain⟨d,hd,rd⟩:=kZ.at hx;rw[au]at hd;obtain⟨k,hk,rfl⟩:=br.mp hd;have hk:(ocn M)[t]?=some k:=hk;obtain⟨ca,rfl,iO⟩:=xR rd;have CW:=p1 _ _ iO;refine⟨Agree.set (Agree.refl _) rfl,?_⟩;refine(nj _ rfl _ rfl D xs ep (nq (cdx M k) ca ⟨rfl,rfl,dn.same p1,kr2 CW,_,rfl,?_⟩));have ev:(!(sk xs (cdx M k)).isSome)=(kn t).isNone:=by rw[dG.1 t k hk];cases kn t<;>rfl
  rw[ev];have fs:(((cb (t+1)).filter λj=>(kn j).isNone).map λj=>cdx M ((ocn M)[j]?.getD 0))=(((cb t).filter λj=>(kn j).isNone).map λj=>cdx M ((ocn M)[j]?.getD 0))++if (kn t).isNone=true then[cdx M k]else[]:=by
   rw[jx,jn,bn]
   congr 1
   cases e:(kn t).isNone<;>simp[e,hk]
  refine u6 (λh=>?_) (λh=>?_)
  .rw[if_pos h]at fs;refine⟨_,rfl,qm (by lia) bA bY ⟨p1.new hL,?_⟩⟩;rw[fs];have im:pq ((((cb t).filter λj=>(kn j).isNone).map λj=>cdx M ((ocn M)[j]?.getD 0))++[cdx M k])=true:=qg λd hd=>by
    rcases ay.mp hd with h|h
    .obtain⟨j,_,rfl⟩:=bf.mp h;rfl
    .rw[ao.mp h];rfl
   exact(p2.snoc (uw CW)).tk (Tk.lst bA) im
  .rw[if_neg h,dg]at fs;exact⟨_,bA,i7 bY,p1,by rw[fs];exact p2⟩
 obtain⟨p1,p2⟩:=p;rw[lc]at p2;have hLl:=bA;have sJ:=jI.trans p1;refine⟨_,rfl,sZ0,λz0 tI=>?_⟩;generalize g1:upd J z0 _=J1 at *;obtain⟨s3,e3⟩:=al tI g1;clear g1;have xY:=sJ.trans s3;generalize dH:(((cb (ocn M).length).filter λj=>(kn j).isNone).map λj=>cdx M ((ocn M)[j]?.getD 0))=ds at *;have hdp:bv ds<=3:=by
  have:∀l:List Nat,bv (l.map λj=>cdx M ((ocn M)[j]?.getD 0))<=3:=λl=>by
   induction l with
   | nil=>simp[bv]
   | cons j l ih=>simp[bv,g0,cdx,clD]at ih⊢;lia
  rw[<-dH];exact this _
 refine(nq (.list ds) (.list []) ⟨(nq L zs ⟨rfl,s3 _ _ bA,p2.same s3⟩),(nq z0 ([]) ⟨rfl,e3,rfl⟩),(by simp[g0];lia),?_⟩);refine⟨_,rfl,?_⟩;by_cases gB:∃i,i<(ocn M).length/\kn i=none
 case neg=>
  have cQ:∀i,i<(ocn M).length->kn i≠none:=λi hi z=>gB ⟨i,hi,z⟩;have EE:ds=[]:=by
   rw[<-dH,List.filter_eq_nil_iff.mpr λj hj=>?_]
   .rfl
   .cases z:kn j with
    | none=>exact absurd z (cQ j (fh.mp hj))
    | some _=>exact λh=>by cases h
  rw[EE];refine um ⟨sZ0,λr gZ=>?_⟩;exact q r _ [] (xY.trans (Same.fresh _ gZ)) (xY.free gZ) ⟨[],np,rfl⟩ (.inl ⟨cQ,rfl⟩)
 obtain⟨f1,f2,f3⟩:=FR gB;obtain⟨tl,et⟩:=aes (p:=λj=>(kn j).isNone) (n:=(ocn M).length) ⟨_,f1,by rw[f2];rfl⟩;rw[et,cy]at dH;have e0:(ocn M)[yf M kn]?=some ((ocn M)[yf M kn]'f1):=ab f1;have dH:cdx M ((ocn M)[yf M kn]?.getD 0)::_=ds:=dH;rw[e0,Option.getD_some]at dH;generalize gM:(ocn M)[yf M kn]'f1=k0 at *;subst dH;obtain⟨v0,vt,rfl,rv0,_⟩:=id p2;obtain⟨ca,rfl,iO⟩:=xR rv0;refine jG ?_;have hkm:k0∈ocn M:=by rw[<-gM];exact eu f1
 have qC:k0<M.h*M.w:=fh.mp (io.mp hkm).1;have hko:M.g (k0/M.w) (k0 % M.w)≠35:=by have:=(io.mp hkm).2;simpa using this
 have yX:k0/M.w<M.h:=Nat.div_lt_of_lt_mul (by rw[Nat.mul_comm];exact qC);have yY:k0 % M.w<M.w:=Nat.mod_lt _ dO.w1;have hlv:lvO M (yf M kn)=if Bc (M.g (k0/M.w) (k0 % M.w))=true then[none]else[]:=by
  unfold lvO;have hg:gA M (k0/M.w) (k0 % M.w)=M.g (k0/M.w) (k0 % M.w):=by unfold gA;exact if_pos ⟨yX,yY⟩
  rw[df,e0,Option.getD_some,hg,ann (dO.sg _ _ yX yY) hko];cases xP (M.g (k0/M.w) (k0 % M.w))<;>rfl
 generalize hlf:Bc (M.g (k0/M.w) (k0 % M.w))=lf at *;refine⟨sZ1,λn1 iT=>?_⟩;generalize g1:upd J1 n1 _=J2 at *;obtain⟨s4,e4⟩:=al iT g1;clear g1;have Am:=xY.trans s4;refine(nj _ rfl _ rfl L _ _ (vh (.ref ca) rfl rfl (SqL.of (s4 _ _ (s3 _ _ bA))) (ng (j:=0) rfl) fl ca (oq M (k0/M.w) (k0 % M.w) ⟨rfl,hP.fl.same Am,s4 _ _ (s3 _ _ iO),yX,yY,?_⟩)));rw[hlf];refine .inr ⟨lf,rfl,?_⟩;refine(o8 _ rfl n1 _ ⟨rfl,SqL.of e4,λfo AC=>?_⟩);have Jb:∃ys,kT [V.non] none (some (if lf=true then 1 else 0))=ys/\∀G,RepAll G ((lvO M (yf M kn)).map opD) ys:=by
  rw[hlv];cases lf with
  | true=>exact⟨[V.non],rfl,λG=>(nq _ _ ⟨rfl,rfl,rfl⟩)⟩
  | false=>exact⟨[],rfl,λG=>rfl⟩
 obtain⟨IP,ef,Ii⟩:=Jb;rw[ef];generalize g1:upd J2 fo _=J3 at *;obtain⟨s5,e5⟩:=al AC g1;clear g1;have hok:=Ft (M:=M) hP.ks.z;have yV:ks.length=lms.length:=by rw[<-hP.ks.1,hP.lm.1]
 have hL:=Fq dO hP.ks.z;rw[<-DA hP.ks.z,ah]at hL;have rQ:=hP.lm.2.1;generalize HA:PLs M ks=pls at *;have lp:=jJ.length;rw[ah]at lp;refine(qc _ rfl pl ⟨rfl,⟨_,SqL.of ((Am.trans s5) _ _ hpl)⟩,?_⟩);refine rj (xs:=lR) (λj σ' G=>∃(Bv Bu Bt:Option V)(ys:List V),σ'=[some (.ref pz),some (.ref ch),some (.ref pl),some (.ref fl),some (.ref kr),some (.ref e),some (.ref cl),some (.ref D),some (.ref L),some (.ref fo),Bv,Bu,Bt]/\Same J2 G/\G fo=some (.lst ys)/\RepAll G ((lwO ads M lms kn os (pls.take j)).map opD) ys) ?_ (λj σ' G hj hI=>?_) (λj x σ' G hx hI=>?_) (λσ' G hI=>?_)
 .refine(nw _ _ _ IP ⟨rfl,s5,e5,?_⟩);unfold lwO;rw[List.take_zero,List.filter_nil,List.map_nil,dg];exact Ii _
 .obtain⟨_,_,_,_,_,sG,_⟩:=hI;exact SqL.of ((Am.trans sG) _ _ hpl)
 .obtain⟨Bv,Bu,Bt,ys,rfl,sG,vI,jK⟩:=hI;have uK:=Am.trans sG;obtain⟨d,hd,GJ⟩:=jJ.at hx;rw[au]at hd;obtain⟨⟨ss,n⟩,hq,rfl⟩:=br.mp hd;have pp:=hok _ (ak hq);have hn:n<lms.length:=by rw[<-yV];exact pp.lt
  obtain⟨hpos,_,_⟩:=pp.og _ rfl;have hpos:0<ss.length:=hpos;have rd:=Rep.same uK GJ;obtain⟨p,An,rfl,kD,y0,t0,rfl,⟨b,qF,rfl,hb,fW⟩,y1,t1,rfl,e1,rfl⟩:=id rd;cases (show y1=_ from e1);have lb:=fW.length;rw[ah]at lb;obtain⟨lm,kF⟩:∃lm,lms[n]?=some lm:=⟨_,ab hn⟩;obtain⟨kv,wW⟩:∃kv,aU[n]?=some kv:=⟨_,ab (by rw[hP.lm.1];exact hn)⟩;obtain⟨kb,u0,u3,u4,rfl,hkb⟩:=hP.lm.2.2 n kv lm wW kF;refine(nj _ rfl _ rfl p _ _ (vh _ rfl rfl (SqT.of kD) (ng (j:=1) rfl) kr _ (nq _ _ ⟨rfl,rfl,SqT.of (uK _ _ hP.kr),ng (j:=n) wW,(nw kb _ _ _ ⟨rfl,rfl,SqT.of (uK _ _ hkb),ng (j:=2) rfl,?_⟩)⟩)));refine(qc _ rfl ch ⟨rfl,⟨_,SqL.of (uK _ _ hch)⟩,λR hR=>?_⟩);refine o5 (xs:=fF) (λt zs J=>Same G J/\zs.length=(os.take t).countP (isK n)) ⟨Same.fresh _ hR,rfl⟩ (λt zs J p=>SqL.of (p.1 _ _ (uK _ _ hch))) (λt x zs J hx ht bA bY p=>?_) (λzs J bA bY p=>?_)
  .obtain⟨p1,p2⟩:=p;obtain⟨o,ho,yN⟩:=(hO.tk (Tk.of_same (uK.trans p1))).at hx;have cs:(os.take (t+1)).countP (isK n)=(os.take t).countP (isK n)+if isK n o=true then 1 else 0:=by
    rw[dw,ho,jo,List.countP_append];cases h:isK n o<;>simp[h]
   have Ar:=(ae.mp ho).1;refine⟨Agree.set (Agree.refl _) rfl,?_⟩;cases o with
   | none=>
    cases (show x=V.non from yN);refine(o4 _ rfl rfl _ ⟨rfl,jG ?_⟩);rw[if_neg (by simp[isK])]at cs;exact jG ⟨_,bA,i7 bY,p1,by rw[cs];exact p2⟩
   | some od=>
    obtain⟨ss',n'⟩:=od;obtain⟨p',rfl,wR,_⟩:=yN;obtain⟨pp',pxs',Hz,Hx,y0',t0',rfl,_,y1',t1',rfl,Jc,rfl⟩:=wR;cases Hz;cases (show y1'=_ from Jc);refine(o4 _ rfl rfl _ ⟨rfl,um ?_⟩);refine(mz _ rfl p' _ _ _ ⟨rfl,rfl,SqT.of Hx,ng (j:=1) rfl,(mz _ rfl p _ _ _ ⟨rfl,rfl,SqT.of (p1 _ _ kD),ng (j:=1) rfl,rfl,_,rfl,?_⟩)⟩);have ei:decide (V.int (n':Nat)=V.int (n:Nat))=isK n (some (ss',n')):=by unfold isK;rw[gc,decide_eq_true_iff,beq_iff_eq];exact⟨λh=>by injection h with h;exact Int.ofNat.inj h,λh=>by rw[show n'=n from h]⟩
    refine u6 (λh=>?_) (λh=>?_)
    .rw[if_pos (ei.symm.trans h)]at cs;exact⟨_,rfl,qm (by lia) bA bY ⟨p1.new hR,by rw[bu,p2,cs];rfl⟩⟩
    .rw[if_neg (λz=>h (ei.trans z))]at cs;exact⟨_,bA,i7 bY,p1,by rw[cs];exact p2⟩
  obtain⟨q1,q2⟩:=p;rw[av (by rw[hO.1];exact aq _)]at q2;refine(nq R _ ⟨rfl,.inl (SqL.of bA),?_⟩);rw[q2];obtain⟨⟨r0,c0,k1⟩,yL⟩:∃s,ss[0]?=some s:=⟨_,ab hpos⟩;have Hr:(ss.map sgD)[0]?=some (sgD (r0,c0,k1)):=by rw[au,yL];rfl
  obtain⟨vb,hvb,rvb⟩:=fW.get Hr;obtain⟨b0,rfl,pM,_⟩:=sf rvb;have ho:=(pp.op _ (ak yL)).1;have yK:=amv (ads:=ads) (M:=M) (lms:=lms) (kn:=kn) (os:=os) hq;have efr:bw (clD (r0:Nat) (c0:Nat)) (cdx M k0)=(frs M (ss,n)==yf M kn):=au3 yL ho e0;have Eh:=uK.trans q1;refine(mz _ rfl p _ _ _ ⟨rfl,rfl,SqT.of (q1 _ _ kD),ng (j:=0) rfl,(nw b _ _ (.ref b0) ⟨rfl,rfl,SqT.of (q1 _ _ hb),ng hvb,(o8 _ rfl b0 _ ⟨rfl,q1 _ _ pM,λtc J5 s6 e6=>?_⟩)⟩)⟩);have e6:J5 tc=some (.tup [.int (r0:Nat),.int (c0:Nat)]):=e6;have BG:=Eh.trans s6;have Gv:=((s3.trans s4).trans sG).trans (q1.trans s6);refine(mz _ rfl L _ _ (.ref ca) ⟨rfl,rfl,SqL.of (Gv _ _ hLl),ng (j:=0) rfl,(nq (clD (r0:Nat) (c0:Nat)) (cdx M k0) ⟨uq e6,uw (Gv _ _ iO),(by simp[clD,g0,bv]),?_⟩)⟩);refine⟨_,rfl,?_⟩;rw[if_neg ai,efr];have stay:∀(G':Hp)(u v:Option V),Same J5 G'->(frs M (ss,n)==yf M kn&&lwB ads M lms kn os (ss,n))=false->∃(Bv Bu Bt:Option V)(ys:List V),[some (.ref pz),some (.ref ch),some (.ref pl),some (.ref fl),some (.ref kr),some (.ref e),some (.ref cl),some (.ref D),some (.ref L),some (.ref fo),some (V.ref p),u,v]=[some (.ref pz),some (.ref ch),some (.ref pl),some (.ref fl),some (.ref kr),some (.ref e),some (.ref cl),some (.ref D),some (.ref L),some (.ref fo),Bv,Bu,Bt]/\Same J2 G'/\G' fo=some (.lst ys)/\RepAll G' ((lwO ads M lms kn os (pls.take (j+1))).map opD) ys:=λG' u v s' hf=>by have sA:=(q1.trans s6).trans s';refine(nw _ _ _ ys ⟨rfl,sG.trans sA,sA _ _ vI,?_⟩);rw[yK,if_neg (by rw[hf];decide),dg];exact jK.same sA
  refine u6 (λnY=>?_) (λnY=>?_)
  .obtain⟨le,mo⟩:=lm;obtain _|m:=mo
   case' none=>
    have hM:∀mL m,lms[n]?=some mL->mL.2=some m->((os.countP (isK n):Nat):Int)<m:=λmL m e1 e2=>by rw[kF]at e1;cases e1;cases e2
    refine(o4 _ rfl rfl _ ⟨rfl,um (um ?_)⟩)
   case' some=>
    refine(o4 _ rfl rfl _ ⟨rfl,jG ?_⟩);refine(rh _ rfl _ rfl _ _ rfl rfl _ ⟨rfl,u6 (λcN=>?gb) (λcN=>?gx)⟩)
    case gx=>
     have hf0:(frs M (ss,n)==yf M kn&&lwB ads M lms kn os (ss,n))=false:=by rw[nY,Bool.true_and];exact f9.mpr λz=>cN (decide_eq_true ((lwB_iff.mp z).1 _ m kF rfl))
     exact stay J5 _ _ (Same.refl _) hf0
    have hM:∀mL m,lms[n]?=some mL->mL.2=some m->((os.countP (isK n):Nat):Int)<m:=λmL m' e1 e2=>by rw[kF]at e1;cases e1;cases e2;exact of_decide_eq_true cN
   all_goals
    refine(p8 _ rfl _ rfl _ rfl D p (my e M xs ep kn (nw bT ads ss (n:Nat) ⟨rfl,dO.w1,dn.same (p1.trans Gv),dG,sgn,BG _ _ hP.ap,hP.ra.same BG,oB,Rep.same (q1.trans s6) rd,pp.op,λt J6 s7 ht=>⟨_,rfl,?_⟩⟩)));have EB:lwB ads M lms kn os (ss,n) = !t:=by
     cases t with
     | true=>
      refine f9.mpr λz=>?_;obtain⟨s,hs,hc⟩:=ht.mp rfl;exact(lwB_iff.mp z).2 s hs hc
     | false=>exact lwB_iff.mpr ⟨hM,λs hs hc=>by cases ht.mpr ⟨s,hs,hc⟩⟩
    cases t with
    | true=>exact jG (stay J6 _ _ s7 (by rw[EB,ir,Bool.and_false]))
    | false=>
     have sA:=(q1.trans s6).trans s7;have Im:=sA _ _ vI;have lF:=jK.length;rw[ah]at lF;have hlw1:(lwO ads M lms kn os (pls.take j)).length<=1+pls.length:=by
      unfold lwO lvO;rw[bu,ah];have h1:=ke (λq=>frs M q==yf M kn&&lwB ads M lms kn os q) (pls.take j);rw[b8]at h1;split
      .rw[gz];lia
      .rw[fq];lia
     refine um (ach _ rfl (.inl ⟨rfl,_,SqL.of Im⟩) _ rfl fo ys _ ⟨rfl,rfl,Im,(by rw[iw];lia),?_⟩);refine(nw _ _ _ _ ⟨rfl,(sG.trans sA).new AC,np,?_⟩);have im:=vi (lwO ads M lms kn os (pls.take (j+1)));rw[yK,if_pos (by rw[nY,EB];rfl),bn]at im⊢;exact((jK.same sA).snoc (Rep.same sA rd)).tk (Tk.lst Im) im
  .exact jG (stay J5 _ _ (Same.refl _) (by rw[f9.mpr nY];rfl))
 .obtain⟨Bv,Bu,Bt,ys,rfl,sG,vI,jK⟩:=hI;rw[av (by lia)]at jK;exact⟨_,rfl,q fo G _ (Am.trans sG) (Am.free AC) ⟨ys,vI,jK⟩ (.inr ⟨gB,rfl⟩)⟩
end
theorem alx{M:Mat}{ads:List PyData}(ha:ApS ads){kn:Kn}{k i:Nat}(hi:kn i=none):Brd M ads (mkL M kn) k i↔∃j∈nb M i,∃c,kn j=some c/\prE ads k c=true:=by
 unfold Brd;have key:∀j∈nb M i,∀c,(mkL M kn)[j]?=some c->(kn j=none/\c=63)\/kn j=some c:=λj hj c hc=>by
  obtain⟨k1,k2,h1,h2,_⟩:=mem_nb.mp hj;have jB:=(ae.mp h2).1;rw[ua jB]at hc;cases hc;unfold mk1;cases e:kn j with
  | none=>exact .inl ⟨rfl,rfl⟩
  | some c=>
   dsimp only;rw[if_pos (show tch M kn j=true from gq.mpr ⟨i,apd hj,by rw[hi];rfl⟩)];exact .inr rfl
 constructor
 .rintro⟨j,hj,c,hc,e⟩;rw[alm ha]at e;rcases key j hj c hc with ⟨_,rfl⟩|h
  .rw[al3 ha (by decide)]at e;cases e
  .exact(qc j hj c ⟨h,e⟩)
 .rintro⟨j,hj,c,hc,e⟩;obtain⟨k1,k2,h1,h2,_⟩:=mem_nb.mp hj;have jB:=(ae.mp h2).1;refine(qc j hj _ ⟨ua jB,?_⟩);rcases key j hj _ (ua jB)with ⟨h,_⟩|h
  .rw[h]at hc;cases hc
  .rw[h]at hc;cases hc;rw[alm ha];exact e
theorem ate{M:Mat}{ads:List PyData}(ha:ApS ads){lms:List (Int×Option Int)}{os:List Opn}{kn:Kn}(sg:Sgn kn){z:Str}(hz:z.cps.toList=mkL M kn){q:List Sg×Nat}(hq:PlP M lms.length q):Gos M ads lms z (usL lms os) (some q)↔LwG ads M lms kn os q:=by
 have und:∀s∈q.1,z.cps.toList[cix M s]?=some 63↔kn (cix M s)=none:=λs hs=>by rw[hz,ua (aou (hq.op s hs).1),Option.some_inj];exact zf sg _
 constructor
 .intro h;obtain⟨h1,h2,h3⟩:=h q rfl;refine⟨λlm m e1 e2=>?_,λs hs hc=>?_⟩
  .have:=h1 lm m _ e1 e2 (zV hq.lt);rw[e1,Option.getD_some,e2]at this;exact this
  .have hn:=(und s hs).mp (h2 q rfl s hs);rcases hc with hc|hc
   .exact hc hn
   .have:=h3 s hs;rw[hz]at this;exact this ((alx ha hn).mpr hc)
 .rintro⟨h1,h2⟩ q' e;cases e;have hn:∀s∈q.1,kn (cix M s)=none:=λs hs=>gf λz=>h2 s hs (.inl z);refine⟨λlm m u e1 e2 e3=>?_,λq' e s hs=>?_,λs hs hb=>?_⟩
  .have:=h1 lm m e1 e2;rw[zV hq.lt,e1,Option.getD_some,e2]at e3;cases e3;exact this
  .cases e;exact(und s hs).mpr (hn s hs)
  .rw[hz]at hb;exact h2 s hs (.inr ((alx ha (hn s hs)).mp hb))
theorem apt{M:Mat}{ads:List PyData}(ha:ApS ads){lms:List (Int×Option Int)}{os o1 o2:List Opn}{kn:Kn}(sg:Sgn kn){z:Str}(hz:z.cps.toList=mkL M kn){pls:List (List Sg×Nat)}(hp:∀q∈pls,PlP M lms.length q)(h1:Jj M ads lms z (usL lms os) (stO M pls) o1)
  (h2:((∀i,i<(ocn M).length->kn i≠none)/\o2=[])\/((∃i,i<(ocn M).length/\kn i=none)/\o2=lwO ads M lms kn os pls)):o1=o2:=by
 have zP:∀i,z.cps.toList[i]?=some 63↔i<(ocn M).length/\kn i=none:=λi=>by
  rw[hz];constructor
  .intro h;have hl:=(ae.mp h).1;rw[vy]at hl;rw[ua hl,Option.some_inj]at h;exact⟨hl,(zf sg i).mp h⟩
  .rintro⟨hl,h⟩;rw[ua hl,(zf sg i).mpr h]
 rcases h1 with ⟨lU,rfl⟩|⟨i,hi,hb,rfl⟩
 .rcases h2 with ⟨_,rfl⟩|⟨⟨i,hi,hk⟩,_⟩
  .rfl
  .exact absurd (ak ((zP i).mpr ⟨hi,hk⟩)) lU
 .obtain⟨kH,vH⟩:=(zP i).mp hi;rcases h2 with ⟨cQ,_⟩|⟨_,rfl⟩
  .exact absurd vH (cQ i kH)
  .have hf:yf M kn=i:=KQ kH vH λj hj hk=>hb j hj ((zP j).mpr ⟨by lia,hk⟩);unfold lwO stO;rw[hf,jn]
   congr 1
   .refine List.filter_eq_self.mpr λo ho=>?_;unfold lvO at ho;split at ho
    .cases ho
    .rw[ao.mp ho];exact gosB_iff.mpr λq hq=>by cases hq
   .rw[List.filter_map,List.filter_filter]
    congr 1
    refine List.filter_congr λq hq=>?_;rw[Bool.and_comm]
    congr 1
    rw[gc];exact gosB_iff.trans ((ate ha sg hz (hp q hq)).trans lwB_iff.symm)
theorem awe{M:Mat}{ads:List PyData}{lms:List (Int×Option Int)}{os:List Opn}{kn:Kn}{pls:List (List Sg×Nat)}(hp:∀q∈pls,PlP M lms.length q)(gB:∃i,i<(ocn M).length/\kn i=none){o:Opn}(ho:o∈lwO ads M lms kn os pls):Fit M kn lms.length o:=by
 refine⟨gB,λq hq=>?_⟩;subst hq;rcases ay.mp ho with h|h
 .unfold lvO at h;split at h
  .cases h
  .cases ao.mp h
 .obtain⟨q',h1,e⟩:=bf.mp h;cases e;obtain⟨h2,h3⟩:=io.mp h1;have pp:=hp q h2;obtain⟨g1,g2,g3⟩:=pp.og q rfl;have lw:=lwB_iff.mp (Bool.and_eq_true_iff.mp h3).2;exact⟨pp.lt,g1,pp.six,g2,λs hs=>⟨(pp.op s hs).1,(pp.op s hs).2,g3 s hs,gf λz=>lw.2 s hs (.inl z)⟩⟩
theorem ayz{M:Mat}{ads:List PyData}{lms:List (Int×Option Int)}{os:List Opn}{kn:Kn}{pls:List (List Sg×Nat)}{q:List Sg×Nat}(ho:some q∈lwO ads M lms kn os pls):q∈pls:=by
 rcases ay.mp ho with h|h
 .unfold lvO at h;split at h
  .cases h
  .cases ao.mp h
 .obtain⟨q',h1,e⟩:=bf.mp h;cases e;exact(io.mp h1).1
noncomputable def unC(M:Mat)(kn:Kn):Nat:=(cb (ocn M).length).countP λi=>(kn i).isNone
theorem sv{p q:Nat->Bool}:∀{l:List Nat} {x:Nat},(∀y∈l,p y=true->q y=true)->x∈l->q x=true->p x=false->l.countP p<l.countP q
 | a::l,x,h,hx,hq,hp=>by
  have hl:l.countP p<=l.countP q:=List.countP_mono_left λy hy=>h y (a8 _ hy);rw[List.countP_cons,List.countP_cons];rcases bb.mp hx with rfl|hx
  .rw[hq,hp];simp;lia
  .have ih:=sv (λy hy=>h y (a8 _ hy)) hx hq hp;have ha:=h a aw;cases e:p a with
   | false=>simp;lia
   | true=>rw[ha e];simp;exact ih
theorem arh{M:Mat}{kn:Kn}{nk:Nat}{o:Opn}(h:Fit M kn nk o):unC M (stp M kn o)<unC M kn:=by
 have d:=h.dcd;obtain⟨q,hq⟩:∃q,q∈dcO M kn o:=by
  cases o with
  | none=>exact⟨_,ao.mpr rfl⟩
  | some q=>
   obtain⟨_,hpos,_⟩:=h.2 q rfl;exact⟨_,jy (eu hpos)⟩
 refine sv (x:=q.1) (λy _ hy=>?_) (fh.mpr (d.lt q hq).1) ?_ ?_
 .by_cases hm:y∈(dcO M kn o).map (·.1)
  .obtain⟨p,hp,rfl⟩:=bf.mp hm;unfold stp at hy;rw[vp d.nd hp]at hy;cases hy
  .unfold stp at hy;rw[sn hm]at hy;exact hy
 .rw[d.un q hq];rfl
 .unfold stp;rw[vp d.nd hq];rfl
theorem axo(M:Mat)(kn:Kn):unC M kn<=(ocn M).length:=by have:=List.countP_le_length (p:=λi=>(kn i).isNone) (l:=cb (ocn M).length);rw[f8]at this;exact this
theorem KindK.tk{H H':Hp}{v:V}{k:List PyData×Nat}(h:KindK H v k)(t:Tk H H'):KindK H' v k:=by obtain⟨b,nm,u1,u2,md,fr,xs,rfl,h1,h2,h3,h4,h5⟩:=h;exact(my b nm u1 u2 md (nq fr xs ⟨rfl,t _ _ h1,t _ _ h2,h3.tk t (Spots.imm h4.pre.spots),h4,h5⟩))
theorem PzB.tk{H H':Hp}{pz fl kr e:aE}{M:Mat}{aU:List V}{ks:List (List PyData×Nat)}{lms:List (Int×Option Int)}{bT:List V}{ads:List PyData}(h:PzB H pz fl kr e M aU ks lms bT ads)(im:pq ads=true)(t:Tk H H'):PzB H' pz fl kr e M aU ks lms bT ads:=
 ⟨t _ _ h.pz,⟨t _ _ h.fl.1,h.fl.2⟩,t _ _ h.kr,⟨h.ks.1,λi v k h1 h2=>(h.ks.2 i v k h1 h2).tk t⟩,⟨h.lm.1,h.lm.2.1,λi v m h1 h2=>by obtain⟨b,u0,u3,u4,e,hb⟩:=h.lm.2.2 i v m h1 h2;exact(nw b u0 u3 u4 ⟨e,t _ _ hb⟩)⟩,t _ _ h.ap,h.ra.tk t im⟩
theorem StH.tk{H H':Hp}{s:aE}{z:Str}{us:List Int}(h:StH H s z us)(k:Tk H H'):StH H' s z us:=by obtain⟨u,h1,h2⟩:=h;exact⟨u,k _ _ h1,k _ _ h2⟩
theorem ax1(M:Mat):mkL M (λ_=>none)=kq (ocn M).length 63:=by unfold mkL mk1;rw[List.map_const',f8]
theorem ayj(lms:List (Int×Option Int)):(lms.map λq=>V.int (ym q.1 q.2 0))=(usL lms []).map V.int:=by
 apply k9;intro n;rw[au,au];by_cases hn:n<lms.length
 .rw[zV hn,ab hn];rfl
 .rw[ft (by lia),ft (by rw[vo];lia)];rfl
theorem ayu{M:Mat}{kn:Kn}(h:Sgn kn):∀c∈mkL M kn,c<128:=λc hc=>by
 obtain⟨i,_,rfl⟩:=bf.mp hc;unfold mk1;cases e:kn i with
 | none=>exact(by decide:63<128)
 | some c=>
  dsimp only;split
  .exact(h i c e).1
  .decide
structure au1(G:Hp)(st pz fl kr e h ch pl:aE)(n:List V)(M:Mat)(aU:List V)(ks:List (List PyData×Nat))(lms:List (Int×Option Int))(bT:List V)(ads:List PyData)(z:Str)(fF lR:List V)(os:List Opn):Prop where
 hst:G st=some (.lst n)
 sl:StL n
 hpz:PzB G pz fl kr e M aU ks lms bT ads
 hh:StH G h z (usL lms os)
 hz:z.cps.toList=mkL M (knF M os)
 hch:G ch=some (.lst fF)
 hO:ChH G M lms.length fF os
 hF:FitA M lms.length os
 hpl:G pl=some (.lst lR)
 rp:RepAll G ((PLs M ks).map plO) lR
 n1:ch≠st
 n2:pl≠st
 n3:pl≠ch
theorem ara(qs:List (List Sg×Nat)):pq (qs.map plO)=true:=by have:=vi (qs.map some);rw[cq]at this;exact this
theorem ag9:∀os:List Opn,bv (os.map opD)<=5
 | []=>by simp[bv]
 | o::os=>by
  have ih:=ag9 os;have h:∀ss:List Sg,bv (ss.map sgD)<=3:=λss=>by
   induction ss with
   | nil=>simp[bv]
   | cons s ss ih=>simp[bv,g0,sgD]at ih⊢;lia
  show max (opD o).depth (bv (os.map opD))<=5;cases o with
  | none=>simp[opD,g0];lia
  | some q=>have:=h q.1;simp[opD,plO,plD,g0,bv];lia
theorem OpsE.same{H H':Hp}{os:List Opn}{a:aE}(h:OpsE H os a)(s:Same H H'):OpsE H' os a:=h.ex (Tk.of_same s) λ_ hz=>s _ _ hz
theorem OpsE.rep{H:Hp}{os:List Opn}{a:aE}(h:OpsE H os a):Rep H (.list (os.map opD)) (.ref a):=by obtain⟨ys,h1,h2⟩:=h;exact(nq a ys ⟨rfl,h1,h2⟩)
section
variable{P:aI}{w:aK}{K:aj}{mg:Str->Option aA}{base:Heap}{f:aE}{fd:aP}
def Fg(K:aj):Sp:=λvs H Q _=>∃(a:aE)(ns:List Int),vs=[.ref a]/\SqL K H a (ns.map V.int)/\ns.length<=63/\∀H',Q (.bl true) H'
theorem scLaw:nu ["_law_script","_law_state","_law_puzzle_here","_law_all_of_them","_law_here","_law_chosen","_law_turn","_law_due","_law_found"] ["_law_script"] (nh Bb):={}
theorem at3(B:∀x∈v7,mg x=none)(LZ:Fn P w K mg base "_law_drawn" 1 ["_law_script"] (aug K))(bO:Bj P w K mg base)(LS:Fn P w K mg base "_law_puzzle" 4 ["_law_state","_law_most","_law_many"] aur)(zY:Fn P w K mg base "placements" 6 ["puzzle"] Kh)(Ma:Fn P w K mg base "begin" 3 ["puzzle"] awi)(DX:Fn P w K mg base "options" 8 ["puzzle","state"] atp)(L9:Fn P w K mg base "behind" 5 ["puzzle","state","option"] aud)(LU:Fn P w K mg base "_law_options" 3 ["_law_puzzle_here","_law_chosen","_law_some"] au7)(F:Fun K "law" "law" Bb f fd):qt P w K mg base CX0 9 f fd ["_law_script"] (Fg K):=by
 refine F.ok (k:=8) scLaw (λvs H Q E h=>?_) (λbN A outer s H vs Q E hr h=>?_)
 .obtain⟨_,_,rfl,_⟩:=h;rfl
 obtain⟨a,ns,rfl,ha,AJ,q⟩:=h;have hu:=hr.units;refine⟨_,(mw (n8 (i:=1) scLaw.nd rfl (Or.inl rfl) (oj LZ hr (by decide) rfl (m9 (pv 0) mr)))
  (mw (n8 (i:=2) scLaw.nd rfl (Or.inl rfl) (oj LS hr (by decide) rfl (m9 (pv 1) (m9 mx (m9 mx mr)))))
  (mw (n8 (i:=3) scLaw.nd rfl (Or.inl rfl) (oj zY hr (by decide) rfl (m9 (pv 2) mr)))
  (mw (n8 (i:=4) scLaw.nd rfl (Or.inl rfl) (oj Ma hr (by decide) rfl (m9 (pv 2) mr)))
  (mw (n8 (i:=5) scLaw.nd rfl (Or.inl rfl) (qa mr))
  (mw (qj cj rfl (sV rfl (B "range" (by decide)) (m9 mx mr)) (nc (i:=6) scLaw.nd rfl (Or.inl rfl)) (mw (n8 (i:=7) scLaw.nd rfl (Or.inl rfl) (oj LU hr (by decide) rfl (m9 (pv 2) (m9 (pv 5) (m9 (pv 3) mr)))))
  (mw (n8 (i:=8) scLaw.nd rfl (Or.inl rfl) (oj DX hr (by decide) rfl (m9 (pv 2) (m9 (pv 4) mr))))
  (mw (rs (PW.pt (Fe (KJ (wf (rg wo rfl (B "isinstance" (by decide)) lZ (m9 (pv 8) (m9 (K3 (v:=.ty "list") rfl (B "list" (by decide)) sN rfl) mr))))) (Fv (oy (apw hu) (pv 8) (pv 7) (pf _))))) (m8 (nv uC)) pw)
  (mw (rq (wq fc fx fy qo (pv 8) (m9 sx mr)))
  (mw (rs (oy (apw hu) (oj DX hr (by decide) rfl (m9 (pv 2) (m9 (pv 4) mr))) (pv 7) (pf _)) (m8 (nv uC)) pw)
  (mw (rs (oy (Kw hu) (pv 7) (qa mr) (pf _)) (m8 (nv uC)) pw)
  (mw (rq (wq fc fx fy qo (pv 5) (m9 (ny pi (pv 7) (oj bO hr (by decide) rfl (m9 (pv 1) (m9 (rg qd rfl (B "len" (by decide)) ip (m9 (pv 7) mr)) mr))) (λ_ _=>rfl)) mr)))
  (m8 (n8 (i:=4) scLaw.nd rfl (Or.inl rfl) (oj L9 hr (by decide) rfl (m9 (pv 2) (m9 (pv 4) (m9 (ny pi (pv 5) (E9 Fx mx) (λ_ _=>rfl)) mr))))))))))))))
  (m8 (nv uC)))))))),?_⟩
 refine(o8 _ rfl a ns ⟨rfl,ha,AJ,λst n1 H1 s1 Hl iY iT=>?_⟩);refine(mz _ rfl st n1 8 2 ⟨rfl,iY,iT,by decide,by decide,by decide,by decide,λpz H2 n2 fl kr e M aU ks lms bT ads x2 eR lV hP hlp lX oB IL=>?_⟩);have ED:=oB.imm;have dO:=hP.fl.2;have HJ:(ocn M).length<=16:=dv (yq M _) IL;have l6:=hP.lm.2.1;refine(o6 _ rfl pz M ks ⟨rfl,hP.k,λpl lR H2b Gy rM hpl jJ=>?_⟩);rw[<-DA hP.ks.z]at jJ;have yV:ks.length=lms.length:=by rw[<-hP.ks.1,hP.lm.1]
 have hok:∀q∈PLs M ks,PlP M lms.length q:=λq hq=>by rw[<-yV];exact Ft hP.ks.z q hq
 have P2:=hP.same Gy;refine(mz _ rfl pz fl kr (.ref e) (oq M aU lms ⟨rfl,P2.pz,P2.fl,P2.kr,P2.lm,λr u z H3 s3 hz hr1 oX=>?_⟩));rw[ayj]at oX;refine⟨sZ0,λch hch=>?_⟩;generalize g1:upd H3 ch _=H4 at *;obtain⟨s4,e4⟩:=al hch g1;clear g1;have fJ:=s3 _ _ (Gy _ _ eR);have GL:=s3 _ _ hpl;have L0:au1 H4 st pz fl kr e r ch pl n2 M aU ks lms bT ads z [] lR []:=⟨s4 _ _ fJ,lV,P2.same (s3.trans s4),⟨u,s4 _ _ hr1,s4 _ _ oX⟩,by rw[hz];exact(ax1 M).symm,e4,⟨rfl,λi v o h=>by cases h⟩,(λi o h=>by cases h),s4 _ _ GL,jJ.same (s3.trans s4),(λz=>by rw[z,fJ]at hch;cases hch),(λz=>by rw[z,eR]at rM;cases rM),λz=>by rw[<-z,GL]at hch;cases hch⟩;clear e4 hch s4 hr1 oX hz s3 fJ P2 GL jJ hpl rM Gy hP eR x2 iY s1 Hl iT lV;refine⟨18,rfl,by decide,by decide,?_⟩;refine qy (n:=18) (lo:=0) (λi σ' G=>∃(y6 y7 y8:Option V)(h:aE)(n:List V)(z:Str)(fF:List V)(os:List Opn),σ'=[some (.ref a),some (.ref st),some (.ref pz),some (.ref pl),some (.ref h),some (.ref ch),y6,y7,y8]/\au1 G st pz fl kr e h ch pl n M aU ks lms bT ads z fF lR os/\os.length=i/\unC M (knF M os)+i<=16) ?_ (λi σ' G eC hI=>?_) (λσ' G hI=>?_)
 .exact(my _ _ _ r n2 (oq z ([]) ([]) ⟨rfl,L0,rfl,dv (axo M _) HJ⟩))
 .obtain⟨y6,y7,y8,h,n,z,fF,os,rfl,L,jV,hun⟩:=hI;clear L0;have Cm:=L.hF.sgn os.length;rw[l9]at Cm;have lz:z.length=(ocn M).length:=by rw[<-E7,L.hz,vy]
  have lW:MkF M z:=⟨by rw[L.hz,vy];rfl,by rw[L.hz];exact ayu Cm,by rw[lz];exact gj (oe (by lia))⟩;refine(p8 _ rfl _ rfl _ rfl pz fl (my kr e ch pl M (my aU ks lms bT ads (oq fF os lR ⟨rfl,L.hpz,oB,L.hch,L.hO,L.hF,by lia,L.hpl,L.rp,λdu J1 od s1 CO Iw lS=>?_⟩))));refine(nj _ rfl _ rfl pz fl kr (my e h M aU ks (my lms bT ads z _ ⟨rfl,L.hpz.same s1,L.hh.same s1,vo _ _,lW,λfo o1 J2 s2 oV AC zA=>?_⟩)));have e1:o1=od:=apt oB Cm L.hz hok oV lS;subst e1;have dd:(PyData.list (o1.map opD)).depth<=60:=by have:=ag9 o1;simp[g0];lia
  have Iu:=Iw.same s2;obtain⟨IP,Io,hf2⟩:=id AC;have R1:=AC.rep;have nfd:du≠fo:=λz=>by obtain⟨_,h1,_⟩:=Iw;rw[z,zA]at h1;cases h1
  refine(mz _ rfl _ _ _ true ⟨rfl,.lst Io,rfl,true,rfl,jG ?_⟩);refine(ug _ rfl _ rfl _ _ ⟨R1,Iu.rep,dd,_,rfl,?_⟩);refine u6 (λh=>absurd h (by rw[if_pos rfl,SeqAt.eqv_refl _ R1.lay];decide)) (λ_=>?_);have lf:=hf2.length;rw[ah]at lf;have lo1:o1.length<=3073:=by
   have h4:=Fq dO L.hpz.ks.z;rw[<-DA L.hpz.ks.z,ah]at h4;rcases lS with ⟨_,rfl⟩|⟨_,rfl⟩
   .exact f7 _
   .unfold lwO lvO;rw[bu,ah];have h1:=ke (λq=>frs M q==yf M (knF M os)&&lwB ads M lms (knF M os) os q) (PLs M ks);split
    .rw[gz];lia
    .rw[fq];lia
  refine(o4 _ rfl (.inl ⟨rfl,_,SqL.of Io⟩) fo (nq IP _ ⟨rfl,rfl,Io,(by rw[iw];lia),?_⟩));have jI:=s1.trans s2;have Gn:=Tk.of_same jI;generalize g1:upd J2 fo _=J3 at *;have qN:Same G J3:=by rw[<-g1];exact jI.new (s1.free zA)
  have wI:Same J1 J3:=by rw[<-g1];exact s2.new zA
  clear g1;refine(nj _ rfl _ rfl pz fl kr (my e h M aU ks (my lms bT ads z _ ⟨rfl,L.hpz.same qN,L.hh.same qN,vo _ _,lW,λf2 o2 J4 s4 tH Ih hf20=>?_⟩)));have e2:o2=o1:=apt oB Cm L.hz hok tH lS;subst e2;have CN:=(Iw.same wI).same s4;have R2:=Ih.rep;refine(yj _ rfl _ _ R2 CN.rep dd _ ⟨rfl,?_⟩);refine u6 (λh=>absurd h (by rw[if_pos rfl,SeqAt.eqv_refl _ R2.lay];decide)) (λ_=>?_);refine⟨_,rfl,sZ0,λz0 tI=>?_⟩;generalize g1:upd J4 z0 _=J5 at *;obtain⟨s5,e5⟩:=al tI g1;clear g1;have CM:=CN.same s5;refine(nq (.list (o2.map opD)) (.list []) ⟨CM.rep,(nq z0 ([]) ⟨rfl,e5,rfl⟩),dd,?_⟩);refine⟨_,rfl,?_⟩;have Ei:=(qN.trans s4).trans s5;obtain⟨AR,mX,hZ⟩:=id CM;have ld:=hZ.length;rw[ah]at ld;rcases o2 with _|⟨o0,ot⟩
  .exact um (q _)
  refine jG ?_;have hpos:0<AR.length:=by rw[ld];exact Nat.succ_pos _
  rcases lS with ⟨_,hx⟩|⟨gB,EB⟩
  .cases hx
  have iD:=Ei _ _ L.hst;have ch5:=Ei _ _ L.hch;have ndu:du≠st:=λz=>by rw[z,L.hst]at CO;cases CO
  refine(o4 _ rfl (.inl ⟨rfl,_,SqL.of ch5⟩) _ ⟨rfl,(rh _ rfl _ rfl du AR rfl (.inl (SqL.of mX)) st (nq n _ ⟨rfl,iD,L.sl,by lia,by lia,λn3 i3 J6 x3 oQ yS Db h31=>?_⟩))⟩);obtain⟨j3,rfl⟩:=gp Db;have Ay:j3<AR.length:=by lia
  have hj4:j3<(o0::ot).length:=by rw[<-ld];exact Ay
  refine(nw du AR _ (AR[j3]) ⟨rfl,rfl,SqL.of (x3.at ndu mX),ng (ab Ay),?_⟩);have t56:Tk J5 J6:=x3.one iD;have tG6:Tk G J6:=Tk.trans (Tk.of_same Ei) t56;obtain⟨d,hd,rd⟩:=hZ.at (ab Ay);rw[au,ab hj4]at hd;cases hd;have hom:(o0::ot)[j3]∈lwO ads M lms (knF M os) os (PLs M ks):=EB▸eu hj4;have imo:imm (opD ((o0::ot)[j3]))=true:=by have:=vi [(o0::ot)[j3]];simpa [pq]using this
  generalize (o0::ot)[j3]=o at *;generalize AR[j3]=v at *;have iV:Fit M (knF M os) lms.length o:=awe hok gB hom;have rv6:Rep J6 (opD o) v:=Rep.tk t56 imo rd;have ov6:OpV J6 M lms.length v o:=api rv6 λq hq=>hok q (ayz (hq▸hom));have ch6:=x3.at L.n1 ch5;have lO:=L.hO.1;refine(oq ch fF v ⟨rfl,rfl,ch6,oe (by lia),?_⟩);generalize g1:upd J6 ch _=J7 at *;have t67:Tk J6 J7:=by rw[<-g1];exact Tk.lst ch6
  have ch7:J7 ch=some (.lst (fF++[v])):=by rw[<-g1];exact np
  have tE:J7 st=some (.lst n3):=by rw[<-g1,ow (Ne.symm L.n1)];exact oQ
  have pl7:J7 pl=some (.lst lR):=by rw[<-g1,ow L.n3];exact x3.at L.n2 (Ei _ _ L.hpl)
  clear g1;have t7:=Tk.trans tG6 t67;have P7:=L.hpz.tk ED t7;have ov7:=ov6.tk t67;have O7:ChH J7 M lms.length (fF++[v]) (os++[o]):=by
   refine⟨by simp[lO],λi' v' o' h1 h2=>?_⟩;by_cases kI:i'<fF.length
   .rw[cu kI]at h1;rw[cu (by lia)]at h2;exact(L.hO.2 i' v' o' h1 h2).tk t7
   .have hl:=(ae.mp h1).1;rw[bu,fq]at hl;have e1:i'=fF.length:=by lia
    rw[e1,cf (aq _),j8]at h1;rw[e1,lO,cf (aq _),j8]at h2;cases h1;cases h2;exact ov7
  have F7:=L.hF.snoc iV;refine(ut _ rfl _ rfl _ ⟨rfl,(mz _ rfl ch (fF++[v]) _ v ⟨rfl,rfl,SqL.of ch7,am8 _ _,(my pz fl kr e h (my M aU ks lms bT (my ads z _ v o ⟨knF M os,rfl,P7,L.hh.tk t7,vo _ _,L.hz,Cm,by lia,ov7,iV,λr z' J8 s8 B7 hS8=>?_⟩)))⟩)⟩);rw[<-F1]at B7;rw[aoo]at hS8;have t8:=Tk.of_same s8;refine(my _ _ _ r n3 (oq z' (fF++[v]) (os++[o]) ⟨rfl,⟨s8 _ _ tE,yS,P7.tk ED t8,hS8,B7,s8 _ _ ch7,O7.tk t8,F7,s8 _ _ pl7,L.rp.tk (Tk.trans t7 t8) (ara _),L.n1,L.n2,L.n3⟩,by rw[bu,jV];rfl,?_⟩));have:=arh iV;rw[<-F1]at this;lia
 .obtain⟨y6,y7,y8,h,n,z,fF,os,rfl,L,jV,hun⟩:=hI;lia
end
end K22
namespace K22
open PySem PyProof.Rows L2 L3
theorem au4{P:aI}{w:aK}{K:aj}{mg:Str->Option aA}{aD:aE}{u1 v1 u2 v2 u3 v3:Bq}{ep:Nat}(h:mg "TURNINGS_BY_MODE" = some (.ref aD))(ld:K.lookup aD=some ⟨.type "dict",none,.dict #[⟨eE w "still",.str "still" u1,.int 1 v1⟩,⟨eE w "turn",.str "turn" u2,.int 4 v2⟩,⟨eE w "flip",.str "flip" u3,.int 8 v3⟩] ep,#[]⟩):Kf P w K mg:=by
 refine⟨aD,_,[("still",.int 1 v1),("turn",.int 4 v2),("flip",.int 8 v3)],h,ld,⟨_,ep,⟨rfl,rfl,rfl⟩,rfl,λe he=>?_,?_,(show((["still","turn","flip"]:List Str).Nodup) by decide)⟩,λm n hm=>?_⟩
 .have iJ:e=⟨eE w "still",.str "still" u1,.int 1 v1⟩\/e=⟨eE w "turn",.str "turn" u2,.int 4 v2⟩\/e=⟨eE w "flip",.str "flip" u3,.int 8 v3⟩:=by simpa using he
  rcases iJ with rfl|rfl|rfl
  .exact⟨"still",eG P w _ u1,rfl⟩
  .exact⟨"turn",eG P w _ u2,rfl⟩
  .exact⟨"flip",eG P w _ u3,rfl⟩
 .exact .cons (eG P w _ u1) rfl (.cons (eG P w _ u2) rfl (.cons (eG P w _ u3) rfl .nil))
 .rcases hm with ⟨rfl,rfl⟩|⟨rfl,rfl⟩|⟨rfl,rfl⟩
  .exact⟨v1,rfl⟩
  .exact⟨v2,rfl⟩
  .exact⟨v3,rfl⟩
theorem all_mk{l:PySem.W.OpenLaw}{w:aK}{K:aj}{h:Heap}{mg:Str->Option aA}{fa:aE}(X:K.In h)(G:h.Ns aO mg)(hfa:mg "law" = some (.ref fa))
  (d1:Df K "is_sign" JX)
  (d2:Df K "is_small" KL)
  (d3:Df K "turned" sTd)
  (d4:Df K "mirrored" JE)
  (d5:Df K "turned_right" sTr)
  (d6:Df K "forms_of" KC)
  (d7:Df K "sign_at" sAt)
  (d8:Df K "is_open" Ki)
  (d9:Df K "must_be" Kc)
  (d10:Df K "wanted" Kt)
  (d11:Df K "open_cells" sOc)
  (d12:Df K "floor_spots" KF)
  (d13:Df K "around" JL)
  (d14:Df K "placements" Jv)
  (d15:Df K "places" JK)
  (d16:Df K "shifted" Jp)
  (d17:Df K "may_lie" Jt)
  (d18:Df K "may_cover" JU)
  (d19:Df K "is_kept_apart" Jx)
  (d20:Df K "near_places" Kr)
  (d21:Df K "begin" JB)
  (d22:Df K "used_of" JO)
  (d23:Df K "options" Jz)
  (d24:Df K "starting_options" JG)
  (d25:Df K "options_among" JY)
  (d26:Df K "first_undecided" JS)
  (d27:Df K "goes" JT)
  (d28:Df K "covers" Jn)
  (d29:Df K "is_barred" Ju)
  (d30:Df K "behind" Jy)
  (d31:Df K "behind_on" Jh)
  (d32:Df K "marks_behind" JN)
  (d33:Df K "touches_undecided" Jq)
  (d34:Df K "used_behind" JA)
  (d35:Df K "ended" Ji)
  (d36:Df K "_law_next" J0)
  (d37:Df K "_law_drawn" Jw)
  (d38:Df K "_law_form" Kb)
  (d39:Df K "_law_kinds" KM)
  (d40:Df K "_law_floor" KB)
  (d41:Df K "_law_two_rows" JF)
  (d42:Df K "_law_apart" JW)
  (d43:Df K "_law_puzzle" Jo)
  (d44:Df K "_law_cells" Js)
  (d45:Df K "_law_may_be_left" Jk)
  (d46:Df K "_law_beside" JV)
  (d47:Df K "_law_decided" JR)
  (d48:Df K "_law_clash" JH)
  (d49:Df K "_law_options" Jl)
  (d50:Df K "law" Bb)
  {aD C fI:aE} {u1 v1 u2 v2 u3 v3 tC tV tU tN:Bq} {ep:Nat} {od an:Option aE} {sl:Array (Option aA)} {oc0 kV0 dc0 pm0 cd0 ct0:aA} (yd:fg K aO "TURNINGS_BY_MODE" = some (some (.ref aD))) (ld:K.lookup aD=some ⟨.type "dict",none,.dict #[⟨eE w "still",.str "still" u1,.int 1 v1⟩,⟨eE w "turn",.str "turn" u2,.int 4 v2⟩,⟨eE w "flip",.str "flip" u3,.int 8 v3⟩] ep,#[]⟩) (yc:fg K aO "CLOSED" = some (some (.str "#" tC))) (yv:fg K aO "COVERED" = some (some (.str "." tV))) (yu:fg K aO "UNDECIDED" = some (some (.str "?" tU))) (yn:fg K aO "DONE" = some (some (.str "-" tN))) (yG:fg K aO "Ground" = some (some (.ref C))) (a1:g8 K (.ref C) "__init__" = some (some (.ref fI))) (i1:PySem.W.isFn K (.ref fI)=true) (l1:K.lookup fI=some ⟨oc0,od,.func (lh "__init__" "Ground.__init__" (vm Bd) (ur Bd) (nh Bd) .none kV0 dc0 pm0 an cd0 ct0),sl⟩) (c1:PySem.W.codeIn K cd0 "Ground.__init__" = true) (k1:mh K (.ref fI)=true) (pg:PySem.W.plainGet K C Str.empty=true) (hd:PySem.W.hasDictIn K C=true) (po:PySem.W.plainOver K C=true) (sa:g8 K (.ref C) "__setattr__" = some (some (.builtin "object.__setattr__"))) (mk:PySem.W.makesIn K C=true) (kc:mh K (.ref C)=true) (n1:g8 K (.ref C) "kinds" = some none) (n2:g8 K (.ref C) "apart" = some none) (n3:g8 K (.ref C) "places" = some none) (n4:g8 K (.ref C) "near" = some none)
  (z1:fg K aO "len" = some none) (z2:fg K aO "min" = some none) (z3:fg K aO "max" = some none) (z4:fg K aO "sorted" = some none) (z5:fg K aO "tuple" = some none) (z6:fg K aO "list" = some none) (z7:fg K aO "isinstance" = some none) (z8:fg K aO "bool" = some none) (z9:fg K aO "range" = some none) (z10:fg K aO "str" = some none) (z11:fg K aO "int" = some none) (z12:fg K aO "enumerate" = some none) (z13:fg K aO "all" = some none) (z14:fg K aO "any" = some none) (z15:fg K aO "set" = some none) (z16:fg K aO "zip" = some none) (z17:fg K aO "sum" = some none) :
  ∃fd:aP,(∀(s:aB)(v:aA),nJ s fd ⟨[v],[]⟩ [("_law_script",v)])/\∀base:Heap,K.In base->base.Ns aO mg->qt l.prog w K mg base CX0 9 fa fd ["_law_script"] (Fg K):=by
 obtain⟨f,fd,a,F⟩:=d50;cases hfa.symm.trans (PySem.W.mg_of X G a);have B:∀x∈v7,mg x=none:=by
  intro x hx;simp only[v7,bb,jc,or_false]at hx;rcases hx with rfl|rfl|rfl|rfl|rfl|rfl|rfl|rfl|rfl|rfl|rfl|rfl|rfl|rfl|rfl|rfl|rfl
  .exact da X G z1
  .exact da X G z2
  .exact da X G z3
  .exact da X G z4
  .exact da X G z5
  .exact da X G z6
  .exact da X G z7
  .exact da X G z8
  .exact da X G z9
  .exact da X G z10
  .exact da X G z11
  .exact da X G z12
  .exact da X G z13
  .exact da X G z14
  .exact da X G z15
  .exact da X G z16
  .exact da X G z17
 obtain⟨oc,od,kV,jD,pm,an,bN,ct,uO,rfl,lk,oA⟩:=id F.ex;refine⟨lh "law" "law" (vm Bb) (ur Bb) (nh Bb) .none kV jD pm an bN ct,λs v=>.of_eq rfl,λbase _ _=>?_⟩;have dm:Kf l.prog w K mg:=au4 (PySem.W.mg_of X G yd) ld;have gC:GS mg "CLOSED" "#":=⟨_,PySem.W.mg_of X G yc⟩;have gV:GS mg "COVERED" ".":=⟨_,PySem.W.mg_of X G yv⟩;have gU:GS mg "UNDECIDED" "?":=⟨_,PySem.W.mg_of X G yu⟩;have gN:GS mg "DONE" "-":=⟨_,PySem.W.mg_of X G yn⟩;have cG:ClG K C:=⟨⟨pg,hd,po,sa⟩,n1,n2,n3,n4⟩;have FI:=apr (st:=Bd) l1 c1 k1;have bI:=FI.binds (ps:=["self","puzzle"]) λ_ _ _ _ _ _=>Kk (λ_ _=>rfl);have bg:=d1.fn (P:=l.prog) (w:=w) (base:=base) X G (at4 B);have sm:=d2.fn (P:=l.prog) (w:=w) (base:=base) X G (am3 B);have mi:=d4.fn (P:=l.prog) (w:=w) (base:=base) X G (av7 B);have tr:=d5.fn (P:=l.prog) (w:=w) (base:=base) X G (ayw B);have td:=d3.fn (P:=l.prog) (w:=w) (base:=base) X G (aw7 B mi tr);have fo:=d6.fn (P:=l.prog) (w:=w) (base:=base) X G (ang B dm td);have ta:=d7.fn (P:=l.prog) (w:=w) (base:=base) X G (ayx B gC);have op:=d8.fn (P:=l.prog) (w:=w) (base:=base) X G (arl gC ta);have mu:=d9.fn (P:=l.prog) (w:=w) (base:=base) X G (asl gV ta bg);have wa:=d10.fn (P:=l.prog) (w:=w) (base:=base) X G (ar2 ta bg sm);have sp:=d12.fn (P:=l.prog) (w:=w) (base:=base) X G (anp B);have oc:=d11.fn (P:=l.prog) (w:=w) (base:=base) X G (aym gC sp);have mc:=d18.fn (P:=l.prog) (w:=w) (base:=base) X G (at6 op wa);have ml:=d17.fn (P:=l.prog) (w:=w) (base:=base) X G (aq1 B mc);have sh:=d16.fn (P:=l.prog) (w:=w) (base:=base) X G (asw B);have pl:=d15.fn (P:=l.prog) (w:=w) (base:=base) X G (atf B sp sh ml);have pc:=d14.fn (P:=l.prog) (w:=w) (base:=base) X G (awb B fo pl);have ar:=d13.fn (P:=l.prog) (w:=w) (base:=base) X G (att);have ka:=d19.fn (P:=l.prog) (w:=w) (base:=base) X G (atb B);have nr:=d20.fn (P:=l.prog) (w:=w) (base:=base) X G (ary ar);have fG:FnM l.prog w K mg base "Ground" C 3 ["self","puzzle"] (Fh w C):=⟨fI,_,⟨mk,a1,i1,kc⟩,auo B cG oc nr FI,PySem.W.mg_of X G yG,bI⟩;have uo:=d22.fn (P:=l.prog) (w:=w) (base:=base) X G (atx B);have be:=d21.fn (P:=l.prog) (w:=w) (base:=base) X G (awh B gU oc uo);have fu:=d26.fn (P:=l.prog) (w:=w) (base:=base) X G (asz gU);have en:=d35.fn (P:=l.prog) (w:=w) (base:=base) X G (aut gU);have cv:=d28.fn (P:=l.prog) (w:=w) (base:=base) X G (av9 cG);have ib:=d29.fn (P:=l.prog) (w:=w) (base:=base) X G (aul B cG ka);have go:=d27.fn (P:=l.prog) (w:=w) (base:=base) X G (av5 B gU cG cv ib);have st:=d24.fn (P:=l.prog) (w:=w) (base:=base) X G (avw B oc mu pc);have oa:=d25.fn (P:=l.prog) (w:=w) (base:=base) X G (auj B en fu go);have ot:=d23.fn (P:=l.prog) (w:=w) (base:=base) X G (auc fG st oa);have tu:=d33.fn (P:=l.prog) (w:=w) (base:=base) X G (atu B gU cG);have mb:=d32.fn (P:=l.prog) (w:=w) (base:=base) X G (awd B gU gN cG tu);have ub:=d34.fn (P:=l.prog) (w:=w) (base:=base) X G (aun uo);have bo:=d31.fn (P:=l.prog) (w:=w) (base:=base) X G (as7 gN cG fu cv mb ub);have bh:=d30.fn (P:=l.prog) (w:=w) (base:=base) X G (au2 fG bo);have nx:=d36.fn (P:=l.prog) (w:=w) (base:=base) X G (aqu B);have dr:=d37.fn (P:=l.prog) (w:=w) (base:=base) X G (as8 B);have fm:=d38.fn (P:=l.prog) (w:=w) (base:=base) X G (aro B nx);have kd:=d39.fn (P:=l.prog) (w:=w) (base:=base) X G (anc B nx fm);have tw:=d41.fn (P:=l.prog) (w:=w) (base:=base) X G (au5 B nx);have fl:=d40.fn (P:=l.prog) (w:=w) (base:=base) X G (aoh B nx tw);have ap:=d42.fn (P:=l.prog) (w:=w) (base:=base) X G (auh B nx);have lz:=d43.fn (P:=l.prog) (w:=w) (base:=base) X G (avv kd fl ap);have cl:=d44.fn (P:=l.prog) (w:=w) (base:=base) X G (atg B);have bs:=d46.fn (P:=l.prog) (w:=w) (base:=base) X G (avg);have mbl:=d45.fn (P:=l.prog) (w:=w) (base:=base) X G (atv);have dc:=d47.fn (P:=l.prog) (w:=w) (base:=base) X G (au9);have cla:=d48.fn (P:=l.prog) (w:=w) (base:=base) X G (awc bs);have lop:=d49.fn (P:=l.prog) (w:=w) (base:=base) X G (awg B cl dc mbl cla);exact at3 B dr nx lz pc be ot bh lop F
theorem walk{l:PySem.W.OpenLaw}{q:aI}{loose:List Str}{XP:(Str->Option aA)->Heap->Prop}{YP:aK->Heap->Prop}{d:DefRec}{K:Params->aj}(hn:l.most=some 63)(CS:d.params.defaults=[])
  (hY:∀(w:aK)(h:Heap),YP w h->(K w.params).In h)
  (F:∀(w:aK)(mg:Str->Option aA)(fa:aE)(h:Heap),(K w.params).In h->h.Ns aO mg->mg d.name=some (.ref fa)->
   ∃fd:aP,(∀(s:aB)(u:aA),nJ s fd ⟨[u],[]⟩ [("_law_script",u)])/\∀base:Heap,(K w.params).In base->base.Ns aO mg->qt l.prog w (K w.params) mg base CX0 9 fa fd ["_law_script"] (Fg (K w.params))) :
  PySem.W.WalkO q loose XP YP l.row.toRowW d [] (λf vs=>PySem.call f vs):=
 L2.walk_of (n:=63) (k:=9) (x:="_law_script") (CX:=λ_=>CX0) (sp:=λw=>Fg (K w.params)) hn (by decide) CS ⟨rfl,by decide,by decide⟩ hY F (λ_ _ a ns hl _ hS=>⟨a,ns,rfl,hS,hl,λ_=>rfl⟩) λ_ _ _ _ _ z=>z
end K22
open PySem PySem.W PyProof.Rows
set_option maxRecDepth 100000 in
set_option maxHeartbeats 0 in
theorem PySem.Challenge.cw_coverpieces_k22_options_holds : PySem.Challenge.rw_coverpieces_k22_options.Holds := by
 refine K22.hd ⟨K22.left,?_⟩
 k_fill
 refine K22.walk (l:=PySem.Challenge.rw_coverpieces_k22_options) rfl rfl (λw h Y=>PySem.W.kIn_of Y) ?F
 case F=>
  intro w mg fa h KX G vC;refine' K22.all_mk KX G vC ?d1 ?d2 ?d3 ?d4 ?d5 ?d6 ?d7 ?d8 ?d9 ?d10 ?d11 ?d12 ?d13 ?d14 ?d15 ?d16 ?d17 ?d18 ?d19 ?d20 ?d21 ?d22 ?d23 ?d24 ?d25 ?d26 ?d27 ?d28 ?d29 ?d30 ?d31 ?d32 ?d33 ?d34 ?d35 ?d36 ?d37 ?d38 ?d39 ?d40 ?d41 ?d42 ?d43 ?d44 ?d45 ?d46 ?d47 ?d48 ?d49 ?d50 ?yd ?ld ?yc ?yv ?yu ?yn ?yG ?a1 ?i1 ?l1 ?c1 ?k1 ?pg ?hd ?po ?sa ?mk ?kc ?n1 ?n2 ?n3 ?n4 ?z1 ?z2 ?z3 ?z4 ?z5 ?z6 ?z7 ?z8 ?z9 ?z10 ?z11 ?z12 ?z13 ?z14 ?z15 ?z16 ?z17
  case d1|d2|d3|d4|d5|d6|d7|d8|d9|d10|d11|d12|d13|d14|d15|d16|d17|d18|d19|d20|d21|d22|d23|d24|d25|d26|d27|d28|d29|d30|d31|d32|d33|d34|d35|d36|d37|d38|d39|d40|d41|d42|d43|d44|d45|d46|d47|d48|d49|d50=>refine' L3.df_mk ?a ?l ?c ?k;(case a=>k_is);(case l=>k_is);(case c=>k_is);(case k=>k_is)
  case yd=>k_is
  case ld=>k_is
  case yc=>k_is
  case yv=>k_is
  case yu=>k_is
  case yn=>k_is
  case yG=>k_is
  case a1=>k_is
  case i1=>k_is
  case l1=>k_is
  case c1=>k_is
  case k1=>k_is
  case pg=>k_is
  case hd=>k_is
  case po=>k_is
  case sa=>k_is
  case mk=>k_is
  case kc=>k_is
  case n1=>k_is
  case n2=>k_is
  case n3=>k_is
  case n4=>k_is
  case z1|z2|z3|z4|z5|z6|z7|z8|z9|z10|z11|z12|z13|z14|z15|z16|z17=>k_is
