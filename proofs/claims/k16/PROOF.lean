import PyProof.Rows.All
import Wide.All
import OpenK.AllK
import Wide.FinOn
import Lean
import PyProof.EqAt
import PyProof.EqKinds
import PyProof.TupleCall
import PyProof.Rows.SortRuns
import PyProof.CompFree
import KE.KSortTup
import PyProof.P3Eq
import PyProof.P3In
import PyProof.NeData
import PyProof.WalkInts
import PyProof.Rows.MinMaxN
import PyProof.StrWalks
import PyProof.StrBlockH
import PyProof.StrLawsIn
import PyProof.FString5
import PyProof.StrOps2
import PyProof.ListStr
import PyProof.ConsumeWalk
import PyProof.Rows.StrJoin2
import PyProof.EnumMake
import PyProof.EnumFor
import PyProof.LayNew
import PyProof.Rows.EnumRows
import PyProof.StrCalls
import PyProof.Rows.StrCase
import PyProof.Rows.StrAscii2
import PyProof.Rows.StrFit
import PyProof.IsRules
import PyProof.DictWalks
import PyProof.TupleOfStr
import PyProof.CollectWalk
import PyProof.WalkLemmas
import PyProof.Rows.Range3
import PyProof.Cells
import KE.KRevSl
import PySem.SetTable
import PySem.SetOps
import PyProof.SetKind
import PyProof.TupleKey
import PyProof.DictKinds
import PyProof.Rows.SetFrom
import PyProof.Seq
import PyProof.SetRoads
import PyProof.Walk
import PyProof.MinMaxWalk
import PyProof.DictRoads
import PyProof.AutoListH
import PyProof.FactsAll.list_3
import PyProof.NeKinds
import PyProof.EnumIter
import PyProof.DictRoadsH
import KE.KDictSum
import PyProof.Rows.SeqMore
import PyProof.Rows.TupAdd
import PyProof.TupleOfSeq
import PyProof.ListRange
import PyProof.Walks
import PyProof.CallType
import KE.KRevIter
import PySem.Challenge.RW_coverpieces_k16_judged_in_order
set_option compiler.extract_closed false
set_option Elab.async false
set_option linter.all false
set_option maxRecDepth 100000
abbrev Z(α:Type u):=List α
abbrev U:=PySem.PyData
noncomputable abbrev Z9:Z PySem.Str:=["puzzle","laying"]
noncomputable abbrev Z8:Z PySem.Str:=["floor","cell"]
noncomputable abbrev Z7:Z PySem.Str:=["floor"]
noncomputable abbrev Z6:Z PySem.Str:=["found"]
noncomputable abbrev Z5:Z PySem.Str:=["_law_cell","_law_many"]
noncomputable abbrev Z4:Z PySem.Str:=["laying"]
noncomputable abbrev Z3:Z PySem.Str:=["_law_x","_law_letters_here","_law_most"]
noncomputable abbrev Z2:Z PySem.Str:=["floor","cell","sign"]
noncomputable abbrev Z1:Z PySem.Str:=["_law_spots"]
noncomputable abbrev Z0:Z PySem.Str:=["_law_row","_law_column","_law_sign"]
noncomputable abbrev ZZ:Z PySem.Str:=["_law_script","_law_k"]
noncomputable abbrev ZY:Z PySem.Str:=["form","mode"]
noncomputable abbrev ZX:Z PySem.Str:=["floor","spots"]
noncomputable abbrev ZW:Z PySem.Str:=["spots","down","right"]
noncomputable abbrev ZV:Z PySem.Str:=["apart","sign","other"]
noncomputable abbrev ZU:Z PySem.Str:=["apart","cover","other"]
noncomputable abbrev ZT:Z PySem.Str:=["_law_laid_here"]
noncomputable abbrev ZS:Z PySem.Str:=["_law_found","_law_due_here"]
noncomputable abbrev ZR:Z PySem.Str:=["_law_script"]
noncomputable abbrev ZQ:Z PySem.Str:=["TURNINGS_BY_MODE","LOOKS"]
noncomputable abbrev ZP:Z PySem.Str:=["_law_spots","_law_t"]
noncomputable abbrev ZO:Z PySem.Str:=["_law_floor_here","_law_spots"]
noncomputable abbrev ZN:Z PySem.Str:=["_law_kinds_here","_law_high","_law_wide","_law_cells"]
noncomputable abbrev ZM:Z PySem.Str:=["_law_taken","_law_high","_law_wide","_law_x","_law_letters_here"]
noncomputable abbrev ZL:Z PySem.Str:=["_law_laid_here","_law_letters_here","_law_x"]
noncomputable abbrev ZK:Z PySem.Str:=["_law_kinds_here","_law_laid_here","_law_x"]
noncomputable abbrev ZJ:Z PySem.Str:=["_law_head","_law_cells","_law_small"]
noncomputable abbrev ZI:Z PySem.Str:=["_law_puzzle","_law_placement"]
noncomputable abbrev ZH:Z PySem.Str:=["_law_floor_here","_law_counts_here"]
noncomputable abbrev ZG:Z PySem.Str:=["_law_kinds_here","_law_laying"]
noncomputable abbrev ZF:Z PySem.Str:=["_law_puzzle","_law_laying"]
noncomputable abbrev ZE:Z PySem.Str:=["_law_laying","_law_puzzle","_law_cell"]
open PySem renaming Value->aA,Shared->aB,sizeLine->aC,Addr->aF,wpAny->aG,model->aH,Program->aK,World->aO,mainGlobals->aP,NameKind->aT,starEach->aU,compareOp->aV,Stmt->aX,sysModules->bE,pyNext->bH,cLine->bI,bootBuiltins->bP,eval->bX,foldedSetIterable->cB,sizeLine_eq->cE,FuncData->cG,wpAny_forIn_list->cI,wpAny_askSetting->cJ,codeAny->cL,wpAny_setEntries_of->cO,binaryOp->cQ,wpAny_setField_rec->cS,wpAny_pyIter_tuple->cT,backTo->cV,Scope->dA,wpAny_typeOf->dC,wpAny_fieldsOf->dD,rawInt->dF,firstArgMember->dH,Paired->dI,builtinLookup_eq_fast->dP,Pos->dQ,assignEach->dS,wpAny_letGo->dW,sliceBounds->dX,wpAny_passesOwn->eB,IsEnum->eE,hashStr->eM,strKind_is->eO,wpAny_pyIter_list->eU,wpAny_pyIter_enum->eV,wpAny_of_eq->eW,wpAny_dictEntries->eX,ofAClassStatement->fB,getItem->fD,atKey_none_of_get->fF,wpAny_standAt->fG,behindInMarks->fK,tupleKind->fO,seqItems?->fP,DictEntry->fQ,valueAt->fV,codeAny_mono->fY,argBest->fZ,typeLookup_type->gE,letOwnedTupleGo->gI,wpAny_tryCatch->hW,isSubtype_stop->iB,hashByValue->iK,atKey->iN,IsPart->iO,updateSeq->iP,swapsWith->iQ,setNext->iR,pickOrder->iT,wpAny_handled->jF,field->jL,typeLookup->jP,Result->jY,newTuple->kJ,collect->kR,callerA->kS,noFill_tuple_add->lI,newExc->lJ,assign->lQ,wpAny_throw->lU,subscripted->lV,keywordEach->mD,wpAny_execs_nil->mS,wpAny_dictEpoch->mT,Sem->nP,Keyword->nQ,BindsTo->nS,slotArgs->nV,setsByText->nW,setEntries->nX,raiseNew->nZ,pyIter->oA,isSubtype_type->oE,dictSetDefault->oQ,closureFor->oR,CmpOp->oU,wpAny_newList->pN,wpAny_comprehension_free->pO,setSearchFrom->pQ,seq_tuple_add->pR,attributeBase->qE,assignInOrder->qF,Env->qL,putSet_of->qW,bindL->sV,bindC->sW,Walks->tH,rule->tJ,concat_meets->tW,call_meetsIn->tX,Tok->uC,wpAny_notOrdered_dict->uE,wpAny_isTrue_Compare1->uF,wpAny_isSame_ref_self->uG,wpAny_isOneOf_keyiter->uH,storedH_new->vZ,setField->wC,numAt_eq->wG,intItems_at->wI,intItems->wJ,codeAny_call_builtin->xM,bindName->xO,backToKw->xP,GenState->xV,wpAny_call->As,wpAny_Name->At,stored->Av,reduceHash->AB,call_meets->Be,builtinsNs->Bf,argsOk->Bp,wpAny_storeSet_of->BI,wpAny_setEpoch_of->BJ,wpAny_sequenceKey->BK,wpAny_pyIter_slot->BL,wpAny_assign_Name->BM,wpAny_Call_method->BN,storedH->BQ,standAt->BR,spliced->BU,searchCouldBeSeen->BW,eqIsQuiet_byValue->Dv,ItemsOf->Er,wpAny_pyIter_zip->ED,wpAny_pyHash_str->EE,wpAny_pyHash_int->EF,wpAny_getItem_of->EG,wpAny_execs_cons->EH,evalPairs->FB,drawOrder->FF,checkBuiltinCall->FH,cellsFrom->FI,PassesOwn->GL,IsEnumOut->GM,codeAny_of_tree->JR
open PyProof.Rows renaming Keyed->aI,arrOf->aJ,pendingOf->aM,SortSt->aN,SortKind->aW,failedOf->bO,boot_tuple->bU,wpS_modify->cD,seqObj->dE,wpS_get->dU,reverseSlice'->fH,IntsAre->gB,AllBare->gD,wpS_lift->hU,mirror->hZ,wpS->iW,elem'->jM,setArr->jQ,envOfC->jT,assignInOrder_cons->jX,keyKind'->kK,keyLt'->lK,mirror_perm->lZ,IsTup->mR,tuples'->nA,minRun'->nG,gallopOf->oP,boot_enumerate->oS,subscriptTail->pP,listUpdate_at->pU,boot_list->sU,subscriptTail_builtinR->tI,seqEpoch_at->wD,getElem?_mirror_all->zO,entry_tuple_getitem->zQ,bubble->Bg,args_tuple_getitem->Bo,Subscript_->BA,assignInOrder_nil->DL,getElem?_bubble->JD
open Pure renaming pure->aR
open PySem.W renaming hashAt->cF
open Min renaming min->iA
open LawfulMonad renaming bind_assoc->jW
open ToString renaming toString->kI
open MonadExcept renaming tryCatch->vX
open ForIn renaming forIn->xH
open Max renaming max->ET
section
def sZ0:0<=aC:=by decide
def sZ1:1<=aC:=by decide
def sZ2:2<=aC:=by decide
def sZ3:3<=aC:=by decide
def sZ4:4<=aC:=by decide
def sZ5:5<=aC:=by decide
def sZ6:6<=aC:=by decide
namespace K16
open PySem PyProof.Rows
noncomputable def vw:aK:=PySem.W.view PySem.Challenge.pw_coverpieces_k16_judged_in_order [1,2,4,5,6,7,8,10,11,12,13,14,15,16,17,19,20,21,22,23,25,27,28,29,30,31,32,33,34,35,36,38,39,40,41,42,43,44,45,46,47,48,49,50,51,52,53,54,55,56,57,58,59,60]
set_option maxHeartbeats 0 in
def said:PySem.W.OpenLaw.wellSaid PySem.Challenge.rw_coverpieces_k16_judged_in_order=true:=by kernel_rfl
end K16
open PySem PySem.W PyProof.Rows
local macro_rules | `(tactic| o_law)=>`(tactic| refine holds_law K16.said λsaid=>?_)
local macro_rules | `(tactic| o_head $H)=>`(tactic| refine(λh hw=>holds_open (q:=K16.vw) (loose:=ZQ) (Xt:=(λs=>xlAt K16.vw [] s&&recOk (RowW.records (OpenLaw.row PySem.Challenge.rw_coverpieces_k16_judged_in_order).toRowW) s)) (XP:=XL K16.vw []) (Yf:=Hook.obs $H) (Ya:=Hook.val $H) (YP:=Hook.says $H) (N:=3444) (And.left h) (Hook.of $H) (Hook.keeps $H) (λs e=>xl_of s (Bool.and_eq_true_iff.mp e).1) XL.keeps (by rfl) (by rfl) (by rfl) (λs e=>recFacts_of (Bool.and_eq_true_iff.mp e).2) (by rfl) (by assumption) (by decide +kernel) ⟨rfl,rfl,rfl,rfl,rfl,by decide +kernel⟩ hw (And.right h)) ?hc ?hw)
set_option maxRecDepth 100000 in
set_option maxHeartbeats 0 in
open_top K16.hd for PySem.Challenge.rw_coverpieces_k16_judged_in_order
namespace K16
noncomputable def hk:Hook:=kHook K16.hd.heap_1 [2,3,15,17,18,20,21,22,24,25,27,28,29,30,32,33,35,36,37,40,41,42,45,46,47,50,51,52,54,55,57,58,59,61,62,64,65,66,68,69,71,72,73,75,76,78,79,80,83,84,85,87,88,90,91,92,95,96,97,100,101,102,105,106,107,110,111,112,114,115,117,118,119,121,122,124,125,126,128,129,131,132,133,135,136,138,139,140,143,144,145,147,148,150,151,152,154,155,157,158,159,161,162,164,165,166,168,169,171,172,173,176,177,178,179,181,182,184,185,186,188,189,191,192,193,195,196,198,199,200,203,204,205,208,209,210,213,214,215,218,219,220,223,224,225,227,228,230,231,232,235,236,237,239,240,242,243,244,246,247,249,250,251,254,255,256,259,260,261,263,264,266,267,268,270,271,273,274,275,277,278,280,281,282,285,286,287,289,290,292,293,294,296,297,299,300,301,304,305,306,308,309,311,312,313,315,316,318,319,320,323,324] λ_=>by kernel_rfl
def Lo(w:aO):Prop:=(openEnds treeTable PySem.Challenge.pw_coverpieces_k16_judged_in_order w 3444).map (λs=>(openSeen vw ZQ (importedModules PySem.Challenge.pw_coverpieces_k16_judged_in_order.main.body) (λs=>xlAt vw [] s&&recOk (RowW.records (OpenLaw.row PySem.Challenge.rw_coverpieces_k16_judged_in_order).toRowW) s) true s,hk.obs s))=some (openGood vw ZQ,hk.val w)
set_option maxHeartbeats 0 in
def lf(w:aO):Lo (w.withFollow "special-get-raises" false):=by unfold Lo;kernel_rfl
set_option maxHeartbeats 0 in
def lt(w:aO):Lo (w.withFollow "special-get-raises" true):=by unfold Lo;kernel_rfl
def left:∀w,Lo w:=byRow2 "special-get-raises" lf lt
end K16
end
set_option Elab.async false
set_option linter.all false
set_option maxRecDepth 100000
set_option maxHeartbeats 8000000
def l0{α0:Sort u0}{α1:Sort u1}{t:α0->α1->Prop}(x0:α0)(x1:α1)(h:t x0 x1):∃x0,∃x1,t x0 x1:=⟨x0,x1,h⟩
def ny{α0:Sort u0}{α1:Sort u1}{p0:α0->Prop}{t:α0->α1->Prop}(x0:α0)(h0:p0 x0)(x1:α1)(h:t x0 x1):∃x0,p0 x0/\∃x1,t x0 x1:=⟨x0,h0,x1,h⟩
def m9{α0:Sort u0}{α1:Sort u1}{α2:Sort u2}{t:α0->α1->α2->Prop}(x0:α0)(x1:α1)(x2:α2)(h:t x0 x1 x2):∃x0,∃x1,∃x2,t x0 x1 x2:=⟨x0,x1,x2,h⟩
def ng{α0:Sort u0}{α1:Sort u1}{p0:α0->Prop}{p1:α0->Prop}{t:α0->α1->Prop}(x0:α0)(h0:p0 x0)(h1:p1 x0)(x1:α1)(h:t x0 x1):∃x0,p0 x0/\p1 x0/\∃x1,t x0 x1:=⟨x0,h0,h1,x1,h⟩
def nj{α0:Sort u0}{α1:Sort u1}{α2:Sort u2}{p0:α0->Prop}{t:α0->α1->α2->Prop}(x0:α0)(h0:p0 x0)(x1:α1)(x2:α2)(h:t x0 x1 x2):∃x0,p0 x0/\∃x1,∃x2,t x0 x1 x2:=⟨x0,h0,x1,x2,h⟩
def l9{α0:Sort u0}{α1:Sort u1}{α2:Sort u2}{α3:Sort u3}{t:α0->α1->α2->α3->Prop}(x0:α0)(x1:α1)(x2:α2)(x3:α3)(h:t x0 x1 x2 x3):∃x0,∃x1,∃x2,∃x3,t x0 x1 x2 x3:=⟨x0,x1,x2,x3,h⟩
def qg{α0:Sort u0}{α1:Sort u1}{α2:Sort u2}{p0:α0->Prop}{p1:α0->α1->Prop}{t:α0->α1->α2->Prop}(x0:α0)(h0:p0 x0)(x1:α1)(h1:p1 x0 x1)(x2:α2)(h:t x0 x1 x2):∃x0,p0 x0/\∃x1,p1 x0 x1/\∃x2,t x0 x1 x2:=⟨x0,h0,x1,h1,x2,h⟩
def ph{α0:Sort u0}{α1:Sort u1}{α2:Sort u2}{α3:Sort u3}{p0:α0->Prop}{t:α0->α1->α2->α3->Prop}(x0:α0)(h0:p0 x0)(x1:α1)(x2:α2)(x3:α3)(h:t x0 x1 x2 x3):∃x0,p0 x0/\∃x1,∃x2,∃x3,t x0 x1 x2 x3:=⟨x0,h0,x1,x2,x3,h⟩
def lv{α0:Sort u0}{α1:Sort u1}{α2:Sort u2}{α3:Sort u3}{α4:Sort u4}{t:α0->α1->α2->α3->α4->Prop}(x0:α0)(x1:α1)(x2:α2)(x3:α3)(x4:α4)(h:t x0 x1 x2 x3 x4):∃x0,∃x1,∃x2,∃x3,∃x4,t x0 x1 x2 x3 x4:=⟨x0,x1,x2,x3,x4,h⟩
def rh{α0:Sort u0}{α1:Sort u1}{α2:Sort u2}{α3:Sort u3}{p0:α0->Prop}{p1:α0->α1->Prop}{t:α0->α1->α2->α3->Prop}(x0:α0)(h0:p0 x0)(x1:α1)(h1:p1 x0 x1)(x2:α2)(x3:α3)(h:t x0 x1 x2 x3):∃x0,p0 x0/\∃x1,p1 x0 x1/\∃x2,∃x3,t x0 x1 x2 x3:=⟨x0,h0,x1,h1,x2,x3,h⟩
def lj{α0:Sort u0}{α1:Sort u1}{α2:Sort u2}{α3:Sort u3}{α4:Sort u4}{p0:α0->Prop}{t:α0->α1->α2->α3->α4->Prop}(x0:α0)(h0:p0 x0)(x1:α1)(x2:α2)(x3:α3)(x4:α4)(h:t x0 x1 x2 x3 x4):∃x0,p0 x0/\∃x1,∃x2,∃x3,∃x4,t x0 x1 x2 x3 x4:=⟨x0,h0,x1,x2,x3,x4,h⟩
def qi{α0:Sort u0}{α1:Sort u1}{α2:Sort u2}{α3:Sort u3}{p0:α0->α1->Prop}{p1:α0->α1->Prop}{t:α0->α1->α2->α3->Prop}(x0:α0)(x1:α1)(h0:p0 x0 x1)(h1:p1 x0 x1)(x2:α2)(x3:α3)(h:t x0 x1 x2 x3):∃x0,∃x1,p0 x0 x1/\p1 x0 x1/\∃x2,∃x3,t x0 x1 x2 x3:=⟨x0,x1,h0,h1,x2,x3,h⟩
def pq{α0:Sort u0}{α1:Sort u1}{α2:Sort u2}{p0:α0->Prop}{p1:α0->Prop}{p2:α0->Prop}{p3:α0->Prop}{t:α0->α1->α2->Prop}(x0:α0)(h0:p0 x0)(h1:p1 x0)(h2:p2 x0)(h3:p3 x0)(x1:α1)(x2:α2)(h:t x0 x1 x2):∃x0,p0 x0/\p1 x0/\p2 x0/\p3 x0/\∃x1,∃x2,t x0 x1 x2:=⟨x0,h0,h1,h2,h3,x1,x2,h⟩
def me{α0:Sort u0}{α1:Sort u1}{α2:Sort u2}{α3:Sort u3}{α4:Sort u4}{p0:α0->Prop}{p1:α0->α1->Prop}{t:α0->α1->α2->α3->α4->Prop}(x0:α0)(h0:p0 x0)(x1:α1)(h1:p1 x0 x1)(x2:α2)(x3:α3)(x4:α4)(h:t x0 x1 x2 x3 x4):∃x0,p0 x0/\∃x1,p1 x0 x1/\∃x2,∃x3,∃x4,t x0 x1 x2 x3 x4:=⟨x0,h0,x1,h1,x2,x3,x4,h⟩
def m8{α0:Sort u0}{α1:Sort u1}{α2:Sort u2}{α3:Sort u3}{p0:α0->Prop}{p1:α0->α1->α2->Prop}{p2:α0->α1->α2->Prop}{t:α0->α1->α2->α3->Prop}(x0:α0)(h0:p0 x0)(x1:α1)(x2:α2)(h1:p1 x0 x1 x2)(h2:p2 x0 x1 x2)(x3:α3)(h:t x0 x1 x2 x3):∃x0,p0 x0/\∃x1,∃x2,p1 x0 x1 x2/\p2 x0 x1 x2/\∃x3,t x0 x1 x2 x3:=⟨x0,h0,x1,x2,h1,h2,x3,h⟩
def yt{α0:Sort u0}{α1:Sort u1}{α2:Sort u2}{α3:Sort u3}{p0:α0->α1->Prop}{p1:α0->α1->Prop}{p2:α0->α1->Prop}{t:α0->α1->α2->α3->Prop}(x0:α0)(x1:α1)(h0:p0 x0 x1)(h1:p1 x0 x1)(h2:p2 x0 x1)(x2:α2)(x3:α3)(h:t x0 x1 x2 x3):∃x0,∃x1,p0 x0 x1/\p1 x0 x1/\p2 x0 x1/\∃x2,∃x3,t x0 x1 x2 x3:=⟨x0,x1,h0,h1,h2,x2,x3,h⟩
def se{α0:Sort u0}{α1:Sort u1}{α2:Sort u2}{α3:Sort u3}{α4:Sort u4}{p0:α0->Prop}{p1:α0->Prop}{p2:α0->α1->Prop}{t:α0->α1->α2->α3->α4->Prop}(x0:α0)(h0:p0 x0)(h1:p1 x0)(x1:α1)(h2:p2 x0 x1)(x2:α2)(x3:α3)(x4:α4)(h:t x0 x1 x2 x3 x4):∃x0,p0 x0/\p1 x0/\∃x1,p2 x0 x1/\∃x2,∃x3,∃x4,t x0 x1 x2 x3 x4:=⟨x0,h0,h1,x1,h2,x2,x3,x4,h⟩
def oj{α0:Sort u0}{α1:Sort u1}{α2:Sort u2}{α3:Sort u3}{α4:Sort u4}{p0:α0->Prop}{p1:α0->α1->Prop}{p2:α0->α1->α2->Prop}{t:α0->α1->α2->α3->α4->Prop}(x0:α0)(h0:p0 x0)(x1:α1)(h1:p1 x0 x1)(x2:α2)(h2:p2 x0 x1 x2)(x3:α3)(x4:α4)(h:t x0 x1 x2 x3 x4):∃x0,p0 x0/\∃x1,p1 x0 x1/\∃x2,p2 x0 x1 x2/\∃x3,∃x4,t x0 x1 x2 x3 x4:=⟨x0,h0,x1,h1,x2,h2,x3,x4,h⟩
def ur{α0:Sort u0}{α1:Sort u1}{α2:Sort u2}{α3:Sort u3}{p0:α0->Prop}{p1:α0->α1->α2->Prop}{p2:α0->α1->α2->Prop}{p3:α0->α1->α2->Prop}{t:α0->α1->α2->α3->Prop}(x0:α0)(h0:p0 x0)(x1:α1)(x2:α2)(h1:p1 x0 x1 x2)(h2:p2 x0 x1 x2)(h3:p3 x0 x1 x2)(x3:α3)(h:t x0 x1 x2 x3):∃x0,p0 x0/\∃x1,∃x2,p1 x0 x1 x2/\p2 x0 x1 x2/\p3 x0 x1 x2/\∃x3,t x0 x1 x2 x3:=⟨x0,h0,x1,x2,h1,h2,h3,x3,h⟩
def r8{α0:Sort u0}{α1:Sort u1}{α2:Sort u2}{α3:Sort u3}{α4:Sort u4}{p0:α0->α1->Prop}{p1:α0->α1->Prop}{p2:α0->α1->Prop}{t:α0->α1->α2->α3->α4->Prop}(x0:α0)(x1:α1)(h0:p0 x0 x1)(h1:p1 x0 x1)(h2:p2 x0 x1)(x2:α2)(x3:α3)(x4:α4)(h:t x0 x1 x2 x3 x4):∃x0,∃x1,p0 x0 x1/\p1 x0 x1/\p2 x0 x1/\∃x2,∃x3,∃x4,t x0 x1 x2 x3 x4:=⟨x0,x1,h0,h1,h2,x2,x3,x4,h⟩
def ni{α0:Sort u0}{α1:Sort u1}{α2:Sort u2}{α3:Sort u3}{α4:Sort u4}{p0:α0->Prop}{p1:α0->α1->Prop}{p2:α0->α1->α2->α3->Prop}{p3:α0->α1->α2->α3->Prop}{t:α0->α1->α2->α3->α4->Prop}(x0:α0)(h0:p0 x0)(x1:α1)(h1:p1 x0 x1)(x2:α2)(x3:α3)(h2:p2 x0 x1 x2 x3)(h3:p3 x0 x1 x2 x3)(x4:α4)(h:t x0 x1 x2 x3 x4):∃x0,p0 x0/\∃x1,p1 x0 x1/\∃x2,∃x3,p2 x0 x1 x2 x3/\p3 x0 x1 x2 x3/\∃x4,t x0 x1 x2 x3 x4:=⟨x0,h0,x1,h1,x2,x3,h2,h3,x4,h⟩
def pj{α0:Sort u0}{α1:Sort u1}{α2:Sort u2}{α3:Sort u3}{α4:Sort u4}{p0:α0->Prop}{p1:α0->α1->α2->Prop}{p2:α0->α1->α2->Prop}{p3:α0->α1->α2->Prop}{t:α0->α1->α2->α3->α4->Prop}(x0:α0)(h0:p0 x0)(x1:α1)(x2:α2)(h1:p1 x0 x1 x2)(h2:p2 x0 x1 x2)(h3:p3 x0 x1 x2)(x3:α3)(x4:α4)(h:t x0 x1 x2 x3 x4):∃x0,p0 x0/\∃x1,∃x2,p1 x0 x1 x2/\p2 x0 x1 x2/\p3 x0 x1 x2/\∃x3,∃x4,t x0 x1 x2 x3 x4:=⟨x0,h0,x1,x2,h1,h2,h3,x3,x4,h⟩
def aby{α0:Sort u0}{α1:Sort u1}{α2:Sort u2}{α3:Sort u3}{p0:α0->α1->Prop}{p1:α0->α1->Prop}{p2:α0->α1->Prop}{p3:α0->α1->Prop}{p4:α0->α1->α2->Prop}{t:α0->α1->α2->α3->Prop}(x0:α0)(x1:α1)(h0:p0 x0 x1)(h1:p1 x0 x1)(h2:p2 x0 x1)(h3:p3 x0 x1)(x2:α2)(h4:p4 x0 x1 x2)(x3:α3)(h:t x0 x1 x2 x3):∃x0,∃x1,p0 x0 x1/\p1 x0 x1/\p2 x0 x1/\p3 x0 x1/\∃x2,p4 x0 x1 x2/\∃x3,t x0 x1 x2 x3:=⟨x0,x1,h0,h1,h2,h3,x2,h4,x3,h⟩
def l7{α0:Sort u0}{α1:Sort u1}{α2:Sort u2}{α3:Sort u3}{α4:Sort u4}{p0:α0->α1->Prop}{p1:α0->α1->Prop}{p2:α0->α1->Prop}{p3:α0->α1->α2->α3->Prop}{t:α0->α1->α2->α3->α4->Prop}(x0:α0)(x1:α1)(h0:p0 x0 x1)(h1:p1 x0 x1)(h2:p2 x0 x1)(x2:α2)(x3:α3)(h3:p3 x0 x1 x2 x3)(x4:α4)(h:t x0 x1 x2 x3 x4):∃x0,∃x1,p0 x0 x1/\p1 x0 x1/\p2 x0 x1/\∃x2,∃x3,p3 x0 x1 x2 x3/\∃x4,t x0 x1 x2 x3 x4:=⟨x0,x1,h0,h1,h2,x2,x3,h3,x4,h⟩
def mz{α0:Sort u0}{α1:Sort u1}{α2:Sort u2}{α3:Sort u3}{α4:Sort u4}{p0:α0->α1->Prop}{p1:α0->α1->Prop}{p2:α0->α1->α2->α3->Prop}{p3:α0->α1->α2->α3->Prop}{t:α0->α1->α2->α3->α4->Prop}(x0:α0)(x1:α1)(h0:p0 x0 x1)(h1:p1 x0 x1)(x2:α2)(x3:α3)(h2:p2 x0 x1 x2 x3)(h3:p3 x0 x1 x2 x3)(x4:α4)(h:t x0 x1 x2 x3 x4):∃x0,∃x1,p0 x0 x1/\p1 x0 x1/\∃x2,∃x3,p2 x0 x1 x2 x3/\p3 x0 x1 x2 x3/\∃x4,t x0 x1 x2 x3 x4:=⟨x0,x1,h0,h1,x2,x3,h2,h3,x4,h⟩
open PySem renaming wpAny_bind->ab,wpAny_pure->aj,boot_len->cg,wpAny_callSpecial?_slot->cr,wpAny_newObj_type->cz,wpAny_call_entry->dz,wpAny_holding->gm,wpAny_truthy_bool->gy,wpAny_setState_of->g8,wpAny_field->io,wpAny_setField->ix,wpAny_Call_Name_kw->iz,codeAny_builtin->i7,mem_of_lookup->ja,wpAny_seqItems->jc,wpAny_mono->jf,wpAny_rule->jl,plainId_quiet->jt,wpAny_specialOf->j5,wpAny_attempt->kc,wpAny_isInstance->kj,wpAny_typeNameOfWhole_keyiter->km,tupleKind_room_in1->ky,wpAny_updateSeq->k5
open List renaming length_map->ae,getElem?_eq_some_iff->af,getElem?_eq_getElem->ah,mem_of_getElem?->ai,mem_cons_self->aq,mem_singleton->ar,length_append->au,mem_cons_of_mem->av,take_of_length_le->aw,mem_map->ay,mem_cons->a7,mem_append->a8,length_take->bf,size_toArray->bj,getElem?_map->bo,length_cons->bp,append_assoc->bq,map_map->b7,map_append->b9,mem_of_mem_take->ca,length_singleton->cc,getElem?_append_right->cf,mem_append_right->cm,getElem?_append_left->db,getElem?_of_mem->dg,pairwise_append->ei,map_cons->eu,range->e8,take_append_drop->e9,length_drop->fg,append_nil->fj,mem_iff_getElem?->fk,pairwise_iff_getElem->fq,getElem?_take_of_lt->fy,getD_eq_getElem?_getD->f9,take_add_one->gc,cons_lt_cons_iff->gf,mem_map_of_mem->gg,pairwise_map->gi,pairwise_cons->gk,getElem?_drop->gl,getElem_mem->gp,mem_range->gq,mem_of_mem_drop->gr,map_congr_left->gx,length_range->g0,mem_append_left->g9,not_mem_nil->i9,length_nil->je,lookup_cons->jh,getElem?_eq_none->jr,drop_zero->jv,nodup_cons->jz,take_sublist->j3,range_succ->j6,all_eq_true->kh
open PySem.Heap renaming get?_push_of_some->ak,get?_push_size->bh,lt_size->bi,SameBut->b8,get?_update_self->cp,get?_update_other->dq,ExtBut->ke
open Bool renaming false_ne_true->am,false_eq_true->a9,and_eq_true->gh,not_true->i6,eq_iff_iff->jd
open Nat renaming le_refl->ao,lt_of_lt_of_le->ck,add_le_add_left->cw,lt_of_le_of_lt->cy,ne_of_lt->da,le_of_lt->fh,not_lt_zero->fu,zero_le->f8,min_eq_left->gd,pow_le_pow_right->ic,le_trans->ie,mod_eq_of_lt->ik,sub_self->j7,pow_succ->j9,lt_irrefl->kb
open PySem.W renaming Frag->ax,nsIn->dh,mg_none_of->dv,kia_one->iy,mg_of->ji,KatTups->j4,keepIn->kn,fnOf->kz
open Array renaming length_toList->a0,getElem?_toList->bm,getElem?_eq_some_iff->bx,getElem?_eq_getElem->bz,perm_iff_toList_perm->jn,size_extract->jq,getElem?_eq_none->kq
open PyProof.Rows renaming wpS_bind->be,wpS_pure->bv,callWith_type1->ft,wpS_forRange->gv,slot_tuple_getitem->gz,wpS_mono->jb,boot_sorted->kg,boot_isinstance->k6
open PySem.PyData renaming eqv->br,depthAll->bu,eqvAll->df,depth->f7,canLayAll0->iq,strOk->jk
open PySem.Str renaming ofString->bw
open PySem.F renaming plainAttrs_list->ci,slot_list_append->fc,type_list_append->ff,called_set->jg,slot_dict_keyiterator_next->jj,slot_str_ascii_iterator_next->j8,plain_max_loop->kl,plainAttrs_str->ku
open Int renaming toNat_natCast->cj,emod_nonneg->gj,emod_lt_of_pos->ig,zero_add->iw,le_refl->jm
open PySem.Heap.SameBut renaming update->cu
open PySem.Builtin.SmallTypes renaming nextOf->de
open Option renaming map_eq_some_iff->fw
open PySem.Around renaming under_plainId->gt
open List.Pairwise renaming imp_of_mem->gu,sublist->gw
open Option.some renaming inj->ii
open Classical renaming byContradiction->ij
open List.Perm renaming append_left->ip,refl->jw
open PySem.SeqAt.ReadsAll renaming length->ir
open PySem.SetTable renaming insertAt->iu
open PySem.Builtin.List renaming listExtendWith->i8
open PySem.Obj renaming mapSeq->jo,data_mapFields->kx
open PySem.Calls renaming spliced_cons->jp
open PySem.Builtin.Tuple renaming tupleHashOf->jx
open PySem.SeqAt renaming eqv_refl->jy
namespace L2
open PySem PySem.Spec PyProof.Rows
noncomputable abbrev Key:=Sum Int Str
noncomputable def Bs:Key->aA->Bool
 | .inl k,v=>aA.isInt k v
 | .inr x,v=>aA.isStrOf x v
noncomputable def az2(w:aO):Key->Int
 | .inl k=>hashInt k
 | .inr x=>eM w x
theorem pk:∀{k:Key} {v:aA},Bs k v=true->(∃i t,k=Sum.inl i/\v=aA.int i t)\/(∃x t,k=Sum.inr x/\v=aA.str x t)
 | .inl i,v,h=>by obtain⟨t,e⟩:=aA.isInt_shape (k:=i) (v:=v) h;exact .inl ⟨i,t,rfl,e⟩
 | .inr x,v,h=>by obtain⟨t,e⟩:=aA.isStrOf_shape (x:=x) (v:=v) h;exact .inr ⟨x,t,rfl,e⟩
def aj2(i:Int)(t:uC):Bs (.inl i) (.int i t)=true:=by simp[Bs,aA.isInt]
def al5(x:Str)(t:uC):Bs (.inr x) (.str x t)=true:=by simp[Bs,aA.isStrOf]
def avu(a b:Int):decide ((Sum.inl a:Key)=Sum.inl b)=(a==b):=by
 by_cases e:a=b
 .subst e;simp
 .have h:¬(Sum.inl a:Key)=Sum.inl b:=λq=>e<|Sum.inl.inj q;rw[decide_eq_false h];exact(beq_eq_false_iff_ne.mpr e).symm
def avz(a b:Str):decide ((Sum.inr a:Key)=Sum.inr b)=decide (a=b):=by
 by_cases e:a=b
 .subst e;simp
 .have h:¬(Sum.inr a:Key)=Sum.inr b:=λq=>e<|Sum.inr.inj q;rw[decide_eq_false h,decide_eq_false e]
def atw(a:Int)(b:Str):decide ((Sum.inl a:Key)=Sum.inr b)=false:=decide_eq_false λq=>nomatch q
def at4(a:Str)(b:Int):decide ((Sum.inr a:Key)=Sum.inl b)=false:=decide_eq_false λq=>nomatch q
noncomputable def p8(prog:aK)(w:aO):PySem.KeyKind prog w Key where
 is:=Bs
 hash:=az2 w
 inj:=λv a b ha hb=>by
  rcases pk ha with ⟨i,t,rfl,rfl⟩|⟨x,t,rfl,rfl⟩
  .rcases pk hb with ⟨j,u,rfl,e⟩|⟨y,u,rfl,e⟩
   .injection e with e1 _;rw[e1]
   .exact nomatch e
  .rcases pk hb with ⟨j,u,rfl,e⟩|⟨y,u,rfl,e⟩
   .exact nomatch e
   .injection e with e1 _;rw[e1]
 byValue:=λk v h=>by rcases pk h with ⟨i,t,rfl,rfl⟩|⟨x,t,rfl,rfl⟩<;>rfl
 pyHash:=λhv h=>by
  rcases pk hv with ⟨i,t,rfl,rfl⟩|⟨x,t,rfl,rfl⟩
  .exact EF h
  .exact EE h
 eqBool:=λhu hv h=>by
  rcases pk hu with ⟨i,t,rfl,rfl⟩|⟨x,t,rfl,rfl⟩
  .rcases pk hv with ⟨j,u,rfl,rfl⟩|⟨y,u,rfl,rfl⟩
   .rw[avu]at h;exact wpAny_eqBool_int h
   .rw[atw]at h;exact SeqAt.EqAt.int_str i t y u _ _ _ _ h
  .rcases pk hv with ⟨j,u,rfl,rfl⟩|⟨y,u,rfl,rfl⟩
   .rw[at4]at h;exact SeqAt.EqAt.str_int x t j u _ _ _ _ h
   .rw[avz]at h;exact wpAny_eqBool_str h
 «strs»:=λk x t v h=>by
  rcases pk h with ⟨i,u,rfl,e⟩|⟨y,u,rfl,e⟩
  .exact nomatch e
  .injection e with e1 _
   subst e1;cases v<;>rfl
def af1(prog:aK)(w:aO)(i:Int)(t:uC):(p8 prog w).is (.inl i) (.int i t)=true:=aj2 i t
def aa5(prog:aK)(w:aO)(x:Str)(t:uC):(p8 prog w).is (.inr x) (.str x t)=true:=al5 x t
inductive V where
 | non|bl (b:Bool)|int (i:Int)|str (x:Str)|byt (b:Array UInt8)|flt (b:UInt64)|ref (a:aF)|ty (n:String)
 deriving DecidableEq
def RelV:V->aA->Prop
 | .non,u=>u=aA.none
 | .bl b,u=>u=aA.bool b
 | .int i,u=>∃t,u=aA.int i t
 | .str x,u=>∃t,u=aA.str x t
 | .byt b,u=>∃t,u=aA.bytes b t
 | .flt b,u=>∃t,u=aA.float b t
 | .ref a,u=>u=aA.ref a
 | .ty n,u=>u=aA.type n
noncomputable abbrev Vals:Z V->Z aA->Prop:=dI RelV
theorem Vals.length{xs:Z V}{us:Z aA}(r:Vals xs us):xs.length=us.length:=dI.length r
theorem Vals.get:∀{xs:Z V} {us:Z aA} {i:Nat} {x:V},Vals xs us->xs[i]?=some x->∃u,us[i]?=some u/\RelV x u
 | _,_,_,_,.nil,e=>by simp at e
 | _,_,0,_,.cons r _,e=>by simp at e;subst e;exact⟨_,rfl,r⟩
 | _,_,i+1,x,.cons _ t,e=>by obtain⟨u,h1,h2⟩:=Vals.get (i:=i) (x:=x) t (by simpa using e);exact⟨u,by simpa using h1,h2⟩
theorem Vals.append:∀{xs ys:Z V} {us ws:Z aA},Vals xs us->Vals ys ws->Vals (xs++ys) (us++ws)
 | _,_,_,_,.nil,s=>s
 | _,_,_,_,.cons r t,s=>.cons r<|Vals.append t s
theorem Vals.take:∀{xs:Z V} {us:Z aA} (n:Nat),Vals xs us->Vals (xs.take n) (us.take n)
 | _,_,0,_=>.nil
 | _,_,_+1,.nil=>.nil
 | _,_,n+1,.cons r t=>.cons r<|Vals.take n t
theorem Vals.drop:∀{xs:Z V} {us:Z aA} (n:Nat),Vals xs us->Vals (xs.drop n) (us.drop n)
 | _,_,0,r=>r
 | _,_,_+1,.nil=>.nil
 | _,_,n+1,.cons _ t=>Vals.drop n t
def RelO:Option V->Option aA->Prop
 | some v,some u=>RelV v u
 | none,none=>True
 | _,_=>False
def KV{κ:Type}:Z (κ×V)->Z (κ×aA)->Prop:=dI λ(p:κ×V) (q:κ×aA)=>p.1=q.1/\RelV p.2 q.2
noncomputable def kV:Key->V
 | .inl i=>.int i
 | .inr x=>.str x
inductive HO where
 | lst (xs:Z V)
 | tup (xs:Z V)
 | dK (kvs:Z (Key×V))|dT (kvs:Z (Z Key×V))
 | set (S:Int->Bool) (n:Nat)
 | ins (C dx:aF) (fs:Z (Str×V))
 | own (x:aF)
 | xd (fs:Z (Str×V))
 | met (f x:aF)
 | rng (lo hi:Int)
 | frz (o:Obj) (u:HO)
 | tbl (ps:Array aA)
 | ext (φ:Heap->Prop)
noncomputable abbrev Hp:=aF->Option HO
noncomputable def upd(H:Hp)(a:aF)(o:HO):Hp:=λb=>if b=a then some o else H b
def lr{H:Hp}{a:aF}{o:HO}:upd H a o a=some o:=by unfold upd;rw[if_pos rfl]
def nu{H:Hp}{a b:aF}{o:HO}(h:b≠a):upd H a o b=H b:=by unfold upd;rw[if_neg h]
def K2{H:Hp}{a b:aF}{o u:HO}(h:H a=some o)(h':H b=some u)(d:o≠u):a≠b:=by intro e;subst e;rw[h]at h';exact d<|ii h'
def qv{H:Hp}{a b:aF}{o:HO}(h:H a=some o)(h':H b=none):a≠b:=by intro e;subst e;rw[h]at h';cases h'
section
variable(P:aK)(w:aO)
def ObjOk(H:Hp)(h:Heap)(a:aF):HO->Prop
 | .lst xs=>xs.length<=aC/\∃(its:Z aA)(n:Nat),Vals xs its/\h.get? a=some {cls:=.type "list",data:=.seq its.toArray n}
 | .tup xs=>xs.length<=aC/\∃its:Z aA,Vals xs its/\mR h a its.toArray
 | .dK kvs=>kvs.length<=aC/\(a==bE)=false/\∃vs,KV kvs vs/\h.DictOf (p8 P w) a vs
 | .dT kvs=>kvs.length<=aC/\(a==bE)=false/\∃xs:Z (Z Key×aF×aA),
   dI (λ(p:Z Key×V) (q:Z Key×aF×aA)=>p.1=q.1/\H q.2.1=some (.tup<|p.1.map kV)/\RelV p.2 q.2.2) kvs xs/\
   ∃o es ep,h.get? a=some o/\o.ExactDict/\o.data=.dict es ep/\es.toList=xs.map (entryOfKey<|fO<|p8 P w)/\(xs.map (·.1)).Nodup
 | .set S n=>h.SetOf (intKind P w) a S n
 | .ins C dx fs=>H dx=some (.own a)/\fs.length<=1000/\dx≠a/\h.get? a=some (PySem.W.instObj C dx)/\
   ∃mA,h.Ns1 dx mA/\(∀f,RelO (fs.lookup f)<|mA f)/\PySem.Within mA (fs.map (·.1))
 | .own _=>∃o,h.get? a=some o
 | .xd fs=>∃mA,h.Ns1 a mA/\∀f,RelO (fs.lookup f) (mA f)
 | .rng lo hi=>∃t u v,h.get? a=some {cls:=.type "range",data:=.fields #[.int lo t,.int hi u,.int 1 v]}
 | .frz o u=>h.get? a=some o/\ObjOk H h a u
 | .tbl ps=>h.get? a=some {cls:=.none,data:=.fields ps}
 | .met f x=>h.get? a=some (PySem.W.methodObj (.ref f)<|.ref x)
 | .ext φ=>φ h/\(∃o,h.get? a=some o)/\∀h1 h2:Heap,φ h1->(∀o,h1.get? a=some o->h2.get? a=some o)->φ h2
def HOk(H:Hp)(h:Heap):Prop:=∀a o,H a=some o->ObjOk P w H h a o
end
section
variable{P:aK}{w:aO}{H H':Hp}{h h':Heap}{a:aF}{o:HO}
theorem ObjOk.lt(x:ObjOk P w H h a o):a<h.objs.size:=by
 cases o with
 | lst xs=>obtain⟨_,_,_,_,e⟩:=x;exact bi e
 | tup xs=>obtain⟨_,_,_,p⟩:=x;exact p.lt
 | dK kvs=>obtain⟨_,_,_,_,o,_,_,e,_⟩:=x;exact bi e
 | dT kvs=>obtain⟨_,_,_,_,o,_,_,e,_⟩:=x;exact bi e
 | set S n=>obtain⟨o,_,_,_,e,_⟩:=x;exact bi e
 | ins C dx fs=>obtain⟨_,_,_,e,_⟩:=x;exact bi e
 | own y=>obtain⟨_,e⟩:=x;exact bi e
 | xd fs=>obtain⟨_,⟨_,_,_,e,_⟩,_⟩:=x;exact bi e
 | rng lo hi=>obtain⟨_,_,_,e⟩:=x;exact bi e
 | frz ob u=>obtain⟨e,_⟩:=x;exact bi e
 | tbl ps=>exact bi (show h.get? a=some _ from x)
 | met f y=>exact bi (show h.get? a=some _ from x)
 | ext φ=>obtain⟨_,⟨_,e⟩,_⟩:=x;exact bi e
theorem dI.mapP{α β:Type}{F G:α->β->Prop}:∀{l₁:List α} {l₂:List β},dI F l₁ l₂->(∀a b,F a b->G a b)->dI G l₁ l₂
 | _,_,.nil,_=>.nil
 | _,_,.cons r t,f=>.cons (f _ _ r)<|dI.mapP t f
theorem ObjOk.stay(x:ObjOk P w H h a o)(k:∀b u,(b=a\/H b=some (.own a))->h.get? b=some u->h'.get? b=some u)
  (ho:∀b,H b=some (.own a)->H' b=some (.own a)) (ht:∀b xs,H b=some (.tup xs)->H' b=some (.tup xs)):ObjOk P w H' h' a o:=by
 induction o with
 | lst xs=>obtain⟨z,its,n,r,e⟩:=x;exact⟨z,its,n,r,k _ _ (.inl rfl) e⟩
 | tup xs=>obtain⟨z,its,r,ob,e,c⟩:=x;exact⟨z,its,r,ob,k _ _ (.inl rfl) e,c⟩
 | dK kvs=>obtain⟨z,y,vs,r,ob,es,ep,e,c⟩:=x;exact⟨z,y,vs,r,ob,es,ep,k _ _ (.inl rfl) e,c⟩
 | dT kvs=>
  obtain⟨z,y,xs,r,ob,es,ep,e,c⟩:=x;exact⟨z,y,xs,dI.mapP r λp q z=>⟨z.1,ht _ _ z.2.1,z.2.2⟩,ob,es,ep,k _ _ (.inl rfl) e,c⟩
 | set S n=>obtain⟨ob,es,ep,t,e,c⟩:=x;exact⟨ob,es,ep,t,k _ _ (.inl rfl) e,c⟩
 | ins C dx fs=>
  obtain⟨d,z,ne,e,mA,⟨od,es,ep,e2,c⟩,r⟩:=x;exact⟨ho _ d,z,ne,k _ _ (.inl rfl) e,mA,⟨od,es,ep,k _ _ (.inr d) e2,c⟩,r⟩
 | own y=>obtain⟨ob,e⟩:=x;exact⟨ob,k _ _ (.inl rfl) e⟩
 | xd fs=>obtain⟨mA,⟨od,es,ep,e,c⟩,r⟩:=x;exact⟨mA,⟨od,es,ep,k _ _ (.inl rfl) e,c⟩,r⟩
 | rng lo hi=>obtain⟨t,u,v,e⟩:=x;exact⟨t,u,v,k _ _ (.inl rfl) e⟩
 | frz ob u ih=>obtain⟨e,q⟩:=x;exact⟨k _ _ (.inl rfl) e,ih q⟩
 | tbl ps=>
  have e:h.get? a=some {cls:=.none,data:=.fields ps}:=x;show h'.get? a=some {cls:=.none,data:=.fields ps};exact k a _ (.inl rfl) e
 | met f y=>
  have e:h.get? a=some (PySem.W.methodObj (.ref f)<|.ref y):=x;show h'.get? a=some (PySem.W.methodObj (.ref f)<|.ref y);exact k a _ (.inl rfl) e
 | ext φ=>obtain⟨p,⟨o,e⟩,st⟩:=x;exact⟨st _ _ p λo q=>k _ _ (.inl rfl) q,⟨o,k _ _ (.inl rfl) e⟩,st⟩
theorem HOk.lt(x:HOk P w H h)(e:H a=some o):a<h.objs.size:=(x a o e).lt
theorem HOk.fresh(x:HOk P w H h)(e:h.objs.size<=a):H a=none:=by
 cases q:H a with
 | none=>rfl
 | some u=>exact absurd (ck (x.lt q) e)<|kb _
def HOk.kept(x:HOk P w H h)(k:∀b u,h.get? b=some u->h'.get? b=some u):HOk P w H h':=λa o e=>
 (x a o e).stay (λb u _ q=>k b u q) (λ_ q=>q) λ_ _ q=>q
def HOk.laid(x:HOk P w H h)(k:∀b u,h.get? b=some u->h'.get? b=some u)(hp:h.objs.size<=a)(new:ObjOk P w (upd H a o) h' a o):HOk P w (upd H a o) h':=λb u e=>by
 have hn:=x.fresh hp;by_cases hb:b=a
 .subst hb;rw[lr]at e;cases e;exact new
 .rw[nu hb]at e;exact(x b u e).stay (λc v _ q=>k c v q) (λc q=>by rw[nu (qv q hn)];exact q) λc xs q=>by rw[nu (qv q hn)];exact q
end
def Rd(H:Hp)(a:aF)(u:HO):Prop:=H a=some u\/∃o,H a=some (.frz o u)
def Rd.ok{P:aK}{w:aO}{H:Hp}{h:Heap}{a:aF}{u:HO}(r:Rd H a u)(x:HOk P w H h):ObjOk P w H h a u:=by
 rcases r with r|⟨o,r⟩
 .exact x a u r
 .obtain⟨_,q⟩:=x a _ r;exact q
def Mut:Option HO->Prop
 | some (.lst _)=>True
 | some (.dK _)=>True
 | some (.dT _)=>True
 | some (.set _ _)=>True
 | some (.ins _ _ _)=>True
 | some (.ext _)=>True
 | _=>False
section
variable{P:aK}{w:aO}{H:Hp}{h h':Heap}{x e:aF}{o':HO}
def HOk.write(ok:HOk P w H h)(mu:Mut (H x))(he:e=x\/H e=some (.own x))(k:∀b u,b≠e->h.get? b=some u->h'.get? b=some u)(AY:∃u,h'.get? e=some u)
  (new:ObjOk P w (upd H x o') h' x o'):HOk P w (upd H x o') h':=λb u q=>by
 have Ca:∀c y,H c=some (.own y)->c≠x:=λc y r z=>by subst z;rw[r]at mu;exact mu
 have Hm:∀c xs,H c=some (.tup xs)->c≠x:=λc xs r z=>by subst z;rw[r]at mu;exact mu
 by_cases hb:b=x
 .subst hb;rw[lr]at q;cases q;exact new
 .rw[nu hb]at q;by_cases zC:b=e
  .have q':H b=some (.own x):=by
    rcases he with z|z
    .exact absurd (zC.trans z) hb
    .rw[zC];exact z
   rw[q]at q';cases q';obtain⟨v,hv⟩:=AY;exact⟨v,by rw[zC];exact hv⟩
  .refine(ok b u q).stay (λc v hc r=>k c v ?_ r) (λc r=>by rw[nu (Ca c b r)];exact r) λc xs r=>by rw[nu (Hm c xs r)];exact r
   rcases hc with rfl|hc
   .exact zC
   .rintro rfl;rcases he with z|z
    .exact Ca c b hc z
    .rw[hc]at z;cases z;exact hb rfl
end
structure Un(fs ex:Z aF)(H H':Hp)(h h':Heap):Prop where
 keep:∀b o,h.get? b=some o->H b=none->b∉fs->b∉ex->h'.get? b=some o
 slot:∀b o,h.get? b=some o->H b=none->b∈fs->b∉ex->∃sl,h'.get? b=some {o with slots:=sl}
 free:∀b o,h.get? b=some o->H b=none->b∉ex->H' b=none
 there:∀b o,h.get? b=some o->b∉ex->∃o',h'.get? b=some o'
 tups:∀b xs,H b=some (.tup xs)->H' b=some (.tup xs)
 frzs:∀b o u,H b=some (.frz o u)->H' b=some (.frz o u)
 tbls:∀b ps,H b=some (.tbl ps)->∃more,H' b=some (.tbl<|ps++more)
section
variable{fs fs' ex ex':Z aF}{H H1 H2:Hp}{h h1 h2 h':Heap}{a x e:aF}{o:HO}
def Un.any(u:Un fs ex H H1 h h1){b:aF}{ob:Obj}(q:h.get? b=some ob)(n:H b=none)(hx:b∉ex):∃sl,h1.get? b=some {ob with slots:=sl}:=by
 by_cases hb:b∈fs
 .exact u.slot b ob q n hb hx
 .exact⟨ob.slots,u.keep b ob q n hb hx⟩
def Un.kept(k:∀b u,h.get? b=some u->h'.get? b=some u):Un fs ex H H h h':=
 ⟨λb ob q _ _ _=>k b ob q,λb ob q _ _ _=>⟨ob.slots,k b ob q⟩,λ_ _ _ n _=>n,λb ob q _=>⟨ob,k b ob q⟩,λ_ _ q=>q,λ_ _ _ q=>q,λ_ ps q=>⟨#[],by rw[q];simp⟩⟩
def Un.refl:Un fs ex H H h h:=Un.kept λ_ _ q=>q
def Un.laid(k:∀b u,h.get? b=some u->h'.get? b=some u)(hp:h.objs.size<=a)(hn:H a=none):Un fs ex H (upd H a o) h h' where
 keep:=λb u q _ _ _=>k b u q
 slot:=λb u q _ _ _=>⟨u.slots,k b u q⟩
 free:=λb u q n _=>by rw[nu (da<|ck (bi q) hp)];exact n
 there:=λb u q _=>⟨u,k b u q⟩
 tups:=λb xs q=>by rw[nu (qv q hn)];exact q
 frzs:=λb u xs q=>by rw[nu (qv q hn)];exact q
 tbls:=λb ps q=>⟨#[],by rw[nu (qv q hn),q];simp⟩
def Un.write(mu:Mut (H x))(he:e=x\/H e=some (.own x))(k:∀b u,b≠e->h.get? b=some u->h'.get? b=some u)(AY:∃u,h'.get? e=some u):Un fs ex H (upd H x o) h h':=by
 have hx:∀b,H b=none->b≠x:=λb n z=>by subst z;rw[n]at mu;exact mu
 have hb:∀b,H b=none->b≠e:=λb n z=>by
  subst z;rcases he with r|r
  .exact hx b n r
  .rw[n]at r;cases r
 have hm:∀b u,H b=some u->¬Mut (some u)->b≠x:=λb u q nm z=>by subst z;rw[q]at mu;exact nm mu
 refine⟨λb u q n _ _=>k b u (hb b n) q,λb u q n _ _=>⟨u.slots,k b u (hb b n) q⟩,λb u q n _=>by rw[nu (hx b n)];exact n,λb u q _=>?_,
  λb xs q=>by rw[nu (hm b _ q λz=>z)];exact q,λb u xs q=>by rw[nu (hm b _ q λz=>z)];exact q,λb ps q=>⟨#[],by rw[nu (hm b _ q λz=>z),q];simp⟩⟩
 by_cases zC:b=e
 .subst zC;exact AY
 .exact⟨u,k b u zC q⟩
end
noncomputable def trk(h:Heap)(H:Hp):Z aF:=(e8 h.objs.size).filter λa=>(H a).isSome
noncomputable def vO(h:Heap)(H:Hp):Heap:=PySem.W.hideAll h<|trk h H
def ajs(h:Heap)(H:Hp):(vO h H).objs.size=h.objs.size:=PySem.W.hideAll_size _ _
def aoa{h:Heap}{H:Hp}{b:aF}{o:Obj}(e:h.get? b=some o)(n:H b=none):(vO h H).get? b=some o:=
 PySem.W.hideAll_get _ e λhm=>by have q:(H b).isSome=true:=(List.mem_filter.mp hm).2;rw[n]at q;simp at q
theorem asp{h:Heap}{H:Hp}{b:aF}{o:Obj}(e:(vO h H).get? b=some o):h.get? b=some o/\H b=none:=by
 have e':h.get? b=some o:=PySem.W.of_hideAll (trk h H) e;refine⟨e',?_⟩;cases q:H b with
 | none=>rfl
 | some x=>
  have hm:b∈trk h H:=List.mem_filter.mpr ⟨gq.mpr<|bi e',by simp[q]⟩;have z:(vO h H).get? b=none:=PySem.W.hideAll_none (trk h H) hm;rw[z]at e;cases e
structure Mod(K:ax)(mg:Str->Option aA)(base:Heap):Prop where
 kin:K.In base
 glob:base.Ns aP mg
 blt:∃mb,base.Ns Bf mb/\∀x:Str,x≠"__name__"->mb x=bP x
 nolimit:base.NoLimit
structure Cx where
 prog:aK
 w:aO
 K:ax
 mg:Str->Option aA
 base:Heap
 A:Around
 N:Z Str
 s₀:aB
 H₀:Hp
 env:qL
 outer:Z qL
 stack:Z qL
 ex:Z aF
 fn:Str->Bool
 calm:Bool
 pn:Z (aF×Obj)
 xe:aA->aB->Prop
noncomputable def frs(l:Z qL):Z aF:=l.filterMap (·.frame)
noncomputable abbrev Cx.fs(X:Cx):Z aF:=frs X.outer
def Vis(sc:dA)(x:Str):Prop:=sc.names.lookup x=some .local\/sc.names.lookup x=some .cell\/sc.names.lookup x=some .free
def Loc(sc:dA)(x:Str):Prop:=sc.names.lookup x=some .local\/sc.names.lookup x=some .cell
def azk(env:qL)(h:Heap)(m:Str->Option aA)(x:Str)(u:aA):Prop:=
 (env.kindOf x=some .local/\m x=some u)\/((env.kindOf x=some .cell\/env.kindOf x=some .free)/\∃c,env.cells.lookup x=some c/\h.IsCell c (some u))
structure Cx.Ok(X:Cx):Prop where
 mod:Mod X.K X.mg X.base
 kind:X.env.scope.kind=.function
 glob:X.env.globals=aP
 blt:X.env.builtins=Bf
 above:X.s₀.heap.objs.size<=X.env.locals
 inj:∀x y c,X.env.cells.lookup x=some c->X.env.cells.lookup y=some c->x=y
 has:∀x,(X.env.kindOf x=some .cell\/X.env.kindOf x=some .free)->∃c,X.env.cells.lookup x=some c
 cab:∀x c,X.fn x=true->X.env.cells.lookup x=some c->X.s₀.heap.objs.size<=c
 hd:X.calm=true->X.A.handled=none
 frames:X.A.frames=some X.stack
 stk:X.stack=X.outer\/(X.stack=X.env::X.outer/\X.env.frame=some X.env.locals)
 exf:∀b∈X.ex,b≠X.env.locals/\∀x c,X.env.cells.lookup x=some c->c≠b
 bs:∀b o,X.base.get? b=some o->X.s₀.heap.get? b=some o/\X.H₀ b=none
 bsz:X.base.objs.size<=X.s₀.heap.objs.size
 noex:∀b o,X.base.get? b=some o->b∉X.ex
 exfs:∀b∈X.ex,b∉X.fs
 funs:X.s₀.heap.FunFrames X.base X.outer
 frf:∀b∈X.fs,X.H₀ b=none
structure Inv(X:Cx)(aE:Z (aF×Obj))(σ:Z (Option V))(H:Hp)(s:aB):Prop where
 ok:X.Ok
 os:s.os=X.s₀.os
 bare:gD s.gens
 base:Un X.fs X.ex X.H₀ H X.s₀.heap s.heap
 loc:∃m,s.heap.Ns X.env.locals m/\∀(i:Nat)(x:Str)(v:V),X.N[i]?=some x->σ[i]?=some (some v)->Vis X.env.scope x->∃u,RelV v u/\azk X.env s.heap m x u
 cell:∀x c,X.env.cells.lookup x=some c->∃v,s.heap.IsCell c v
 free:H X.env.locals=none
 freeC:∀x c,X.env.cells.lookup x=some c->H c=none
 pin:∀p∈X.pn++aE,s.heap.get? p.1=some p.2/\H p.1=none/\p.1≠X.env.locals/\p.1∉X.fs/\∀v,p.2.data≠.cell v
 hok:HOk X.prog X.w H s.heap
 len:σ.length=X.N.length
section
variable{X:Cx}{aE:Z (aF×Obj)}{σ:Z (Option V)}{H H':Hp}{s:aB}{h':Heap}
def Cx.Ok.nofr(ok:X.Ok){b:aF}{o:Obj}(e:X.base.get? b=some o):b∉X.fs:=λhb=>by have:=(ok.funs.mem hb).1;rw[e]at this;cases this
theorem Inv.bs(I:Inv X aE σ H s):∀b o,X.base.get? b=some o->s.heap.get? b=some o/\H b=none:=λb o e=>
 ⟨I.base.keep b o (I.ok.bs b o e).1 (I.ok.bs b o e).2 (I.ok.nofr e) (I.ok.noex b o e),I.base.free b o (I.ok.bs b o e).1 (I.ok.bs b o e).2 (I.ok.noex b o e)⟩
def Inv.bk(I:Inv X aE σ H s):∀b o,X.base.get? b=some o->s.heap.get? b=some o:=λb o e=>(I.bs b o e).1
theorem Inv.mod(I:Inv X aE σ H s):Mod X.K X.mg X.base:=I.ok.mod
def Inv.kIn(I:Inv X aE σ H s):X.K.In s.heap:=I.ok.mod.kin.keeps I.bk
theorem Inv.lt(I:Inv X aE σ H s):X.env.locals<s.heap.objs.size:=let ⟨_,hn,_⟩:=I.loc;hn.lt
def Inv.sz(I:Inv X aE σ H s):X.s₀.heap.objs.size<=s.heap.objs.size:=ie I.ok.above<|fh I.lt
def Inv.nofs(I:Inv X aE σ H s){a:aF}(h:s.heap.objs.size<=a):a∉X.fs:=λhb=>by obtain⟨_,o,ho,_⟩:=I.ok.funs.mem hb;exact absurd (ck (bi ho)<|ie I.sz h)<|kb _
def Inv.cne(I:Inv X aE σ H s):∀x c,X.env.cells.lookup x=some c->c≠X.env.locals:=λx c e z=>by obtain⟨v,o,ho,hd⟩:=I.cell x c e;obtain⟨m,⟨o',es,ep,rQ,vB,_⟩,_⟩:=I.loc;rw[z,rQ]at ho;cases ho;rw[vB]at hd;cases hd
theorem Inv.funs(I:Inv X aE σ H s):s.heap.FunFrames X.base X.outer:=by
 have all:∀(l:Z qL),(∀b∈frs l,b∈X.fs)->X.s₀.heap.FunFrames X.base l->s.heap.FunFrames X.base l:=by
  intro l;induction l with
  | nil=>intro _ _;trivial
  | cons env r ih=>
   intro hs hl;obtain⟨hk,⟨L,o,hf,hn,ho,hd⟩,hr⟩:=hl;have hL:L∈X.fs:=hs L (by unfold frs;rw[List.filterMap_cons,hf];exact aq);obtain⟨sl,e⟩:=I.base.slot L o ho (I.ok.frf L hL) hL λz=>I.ok.exfs L z hL;exact⟨hk,⟨L,_,hf,hn,e,hd⟩,ih (λb hb=>hs b<|by unfold frs;rw[List.filterMap_cons,hf];exact av _ hb) hr⟩
 exact all X.outer (λ_ hb=>hb) I.ok.funs
theorem Inv.stack(I:Inv X aE σ H s):s.heap.FunFrames X.base X.stack:=by
 rcases I.ok.stk with e|⟨e,hf⟩
 .rw[e];exact I.funs
 .rw[e];obtain⟨m,hn,_⟩:=I.loc;refine .cons (by rw[I.ok.kind];decide) hf hn ?_ I.funs;exact Heap.get?_none_of_le<|ie I.ok.bsz I.ok.above
def Inv.stkSub(I:Inv X aE σ H s):∀b∈frs X.stack,b∈X.env.locals::X.fs:=λb hb=>by
 rcases I.ok.stk with e|⟨e,hf⟩
 .rw[e]at hb;exact av _ hb
 .rw[e]at hb;unfold frs at hb;rw[List.filterMap_cons,hf]at hb;exact hb
def Inv.stkFree(I:Inv X aE σ H s):∀b∈frs X.stack,H b=none:=λb hb=>by
 rcases a7.mp (I.stkSub b hb)with e|hb
 .rw[e];exact I.free
 .obtain⟨_,o,ho,_⟩:=I.ok.funs.mem hb;exact I.base.free b o ho (I.ok.frf b hb) λz=>I.ok.exfs b z hb
def Inv.step{g':Array xV}{t':Nat}{d':Drawn}{ch:Z aF}(I:Inv X aE σ H s)
  (pF:∀b∈ch,(b∈X.ex\/X.s₀.heap.objs.size<=b)/\b≠X.env.locals/\(∀x c,X.env.cells.lookup x=some c->c≠b)/\∀p∈X.pn++aE,p.1≠b)
  (keep:∀b o,b≠X.env.locals->b∉X.fs->b∉ch->s.heap.get? b=some o->H b=none->h'.get? b=some o)
  (slot:∀b o,b≠X.env.locals->b∈X.fs->b∉ch->s.heap.get? b=some o->H b=none->∃sl,h'.get? b=some {o with slots:=sl}) (free:∀b o,b∉ch->s.heap.get? b=some o->H b=none->H' b=none)
  (there:∀b o,b∉ch->s.heap.get? b=some o->∃o',h'.get? b=some o')
  (tups:∀b xs,H b=some (.tup xs)->H' b=some (.tup xs)) (frzs:∀b o u,H b=some (.frz o u)->H' b=some (.frz o u)) (tbls:∀b ps,H b=some (.tbl ps)->∃more,H' b=some (.tbl<|ps++more))
  (ns:∀m,s.heap.Ns X.env.locals m->h'.Ns X.env.locals m) (hok:HOk X.prog X.w H' h') (hg:gD g') :
  Inv X aE σ H' {s with heap:=h',gens:=g',drawn:=d',toks:=t'}:=by
 have neL:∀b o,X.s₀.heap.get? b=some o->b≠X.env.locals:=λb o e=>da<|ck (bi e) I.ok.above;have ER:∀b o,X.s₀.heap.get? b=some o->b∉X.ex->b∉ch:=λb o e hx hb=>by
  rcases(pF b hb).1 with z|z
  .exact hx z
  .exact absurd (ck (bi e) z)<|kb _
 have xN:∀x c,X.env.cells.lookup x=some c->∀v,s.heap.IsCell c v->h'.IsCell c v:=λx c e v ⟨o,ho,hd⟩=>by
  have Cc:c∉ch:=λz=>(pF c z).2.2.1 x c e rfl;by_cases hc:c∈X.fs
  .obtain⟨sl,q⟩:=slot c o (I.cne x c e) hc Cc ho<|I.freeC x c e;exact⟨_,q,hd⟩
  .exact⟨o,keep c o (I.cne x c e) hc Cc ho<|I.freeC x c e,hd⟩
 refine⟨I.ok,I.os,hg,⟨λb o e n hb hx=>?_,λb o e n hb hx=>?_,λb o e n hx=>?_,λb o e hx=>?_,λb xs e=>tups b xs<|I.base.tups b xs e,λb o xs e=>frzs b o xs<|I.base.frzs b o xs e,λb ps e=>?_⟩,?_,λx c e=>?_,?_,λx c e=>?_,λp hp=>?_,hok,I.len⟩
 .exact keep b o (neL b o e) hb (ER b o e hx) (I.base.keep b o e n hb hx)<|I.base.free b o e n hx
 .obtain⟨sl,e1⟩:=I.base.slot b o e n hb hx;obtain⟨sl',e2⟩:=slot b _ (neL b o e) hb (ER b o e hx) e1<|I.base.free b o e n hx;exact⟨sl',e2⟩
 .obtain⟨o',e1⟩:=I.base.there b o e hx;exact free b o' (ER b o e hx) e1<|I.base.free b o e n hx
 .obtain⟨o',e1⟩:=I.base.there b o e hx;exact there b o' (ER b o e hx) e1
 .obtain⟨m1,e1⟩:=I.base.tbls b ps e;obtain⟨m2,e2⟩:=tbls b _ e1;exact⟨m1++m2,by rw[e2,Array.append_assoc]⟩
 .obtain⟨m,hn,hl⟩:=I.loc;refine⟨m,ns m hn,λi x v e1 e2 e3=>?_⟩;obtain⟨u,r,l⟩:=hl i x v e1 e2 e3;refine⟨u,r,?_⟩;rcases l with l|⟨k,c,e,z⟩
  .exact .inl l
  .exact .inr ⟨k,c,e,xN x c e _ z⟩
 .obtain⟨v,z⟩:=I.cell x c e;exact⟨v,xN x c e v z⟩
 .obtain⟨m,⟨o,_,_,ho,_⟩,_⟩:=I.loc;exact free _ o (λz=>(pF _ z).2.1 rfl) ho I.free
 .obtain⟨v,o,ho,hd⟩:=I.cell x c e;exact free c o (λz=>(pF c z).2.2.1 x c e rfl) ho<|I.freeC x c e
 .obtain⟨e,n,ne,nf,d⟩:=I.pin p hp;have Cc:p.1∉ch:=λz=>(pF p.1 z).2.2.2 p hp rfl;exact⟨keep p.1 p.2 ne nf Cc e n,free p.1 p.2 Cc e n,ne,nf,d⟩
def Inv.un{t':Nat}(I:Inv X aE σ H s)(u:Un X.fs [] H H' s.heap h')(hok:HOk X.prog X.w H' h'):Inv X aE σ H' {s with heap:=h',toks:=t'}:=by
 obtain⟨m,⟨o,es,ep,ho,r⟩,_⟩:=id I.loc;obtain⟨sl,hL⟩:=u.any ho I.free (by simp);exact I.step (g':=s.gens) (d':=s.drawn) (ch:=[]) (λ_ z=>nomatch z) (λb o _ hb _ e n=>u.keep b o e n hb<|by simp) (λb o _ hb _ e n=>u.slot b o e n hb<|by simp) (λb o _ e n=>u.free b o e n<|by simp) (λb o _ e=>u.there b o e<|by simp) u.tups u.frzs u.tbls (λm' hm=>by obtain⟨o',xI,JH,rQ,r'⟩:=hm;rw[ho]at rQ;cases rQ;exact⟨_,xI,JH,hL,r'⟩) hok I.bare
def Inv.call{g':Array xV}{t':Nat}{d':Drawn}{ch:Z aF}(I:Inv X aE σ H s)(u:Un (frs X.stack) ch H H' s.heap h')(hok:HOk X.prog X.w H' h')(hg:gD g')
  (pF:∀b∈ch,(b∈X.ex\/X.s₀.heap.objs.size<=b)/\b≠X.env.locals/\(∀x c,X.env.cells.lookup x=some c->c≠b)/\∀p∈X.pn++aE,p.1≠b) :
  Inv X aE σ H' {s with heap:=h',gens:=g',drawn:=d',toks:=t'}:=by
 obtain⟨m,⟨o,es,ep,ho,r⟩,_⟩:=id I.loc;obtain⟨sl,hL⟩:=u.any ho I.free λz=>(pF _ z).2.1 rfl;exact I.step (ch:=ch) pF (λb o hL hb hc e n=>u.keep b o e n (λz=>(a7.mp<|I.stkSub b z).elim hL hb) hc) (λb o _ _ hc e n=>u.any e n hc) (λb o hc e n=>u.free b o e n hc) (λb o hc e=>u.there b o e hc) u.tups u.frzs u.tbls (λm' hm=>by obtain⟨o',xI,JH,rQ,r'⟩:=hm;rw[ho]at rQ;cases rQ;exact⟨_,xI,JH,hL,r'⟩) hok hg
def Inv.turned{t':Nat}{it:aF}(I:Inv X aE σ H s)(k:∀b o,b≠it->s.heap.get? b=some o->h'.get? b=some o)(hn:H it=none)(hL:it≠X.env.locals)
  (h1:it∈X.ex\/X.s₀.heap.objs.size<=it) (h2:∀x c,X.env.cells.lookup x=some c->c≠it) (h3:∀p∈X.pn++aE,p.1≠it):Inv X aE σ H {s with heap:=h',toks:=t'}:=by
 have nit:∀b u,H b=some u->b≠it:=λb u e z=>by rw[z,hn]at e;cases e
 refine I.step (g':=s.gens) (d':=s.drawn) (ch:=[it]) (λb hb=>?_) (λb o _ _ hc e _=>k b o (λz=>hc<|by simp[z]) e) (λb o _ _ hc e _=>⟨o.slots,k b o (λz=>hc<|by simp[z]) e⟩) (λ_ _ _ _ n=>n)
  (λb o hc e=>⟨o,k b o (λz=>hc<|by simp[z]) e⟩) (λ_ _ e=>e) (λ_ _ _ e=>e) (λb ps e=>⟨#[],by rw[e];simp⟩) (λm hm=>?_) (λb u e=>?_) I.bare
 .have e:b=it:=by simpa using hb
  subst e;exact⟨h1,hL,h2,h3⟩
 .obtain⟨o,es,ep,ho,r⟩:=hm;exact⟨o,es,ep,k _ o (Ne.symm hL) ho,r⟩
 .refine(I.hok b u e).stay (λc v hc q=>k c v ?_ q) (λ_ q=>q) λ_ _ q=>q;rcases hc with z|z
  .rw[z];exact nit b u e
  .exact nit c _ z
def Inv.tok(I:Inv X aE σ H s)(t:Nat):Inv X aE σ H {s with toks:=t}:=I.un (h':=s.heap) (t':=t) Un.refl I.hok
theorem Inv.kept{t':Nat}(I:Inv X aE σ H s)(k:∀b u,s.heap.get? b=some u->h'.get? b=some u):Inv X aE σ H {s with heap:=h',toks:=t'}:=I.un (Un.kept k)<|I.hok.kept k
theorem Inv.laid{a:aF}{o:HO}{t':Nat}(I:Inv X aE σ H s)(k:∀b u,s.heap.get? b=some u->h'.get? b=some u)(hp:s.heap.objs.size<=a)(new:ObjOk X.prog X.w (upd H a o) h' a o) :
  Inv X aE σ (upd H a o) {s with heap:=h',toks:=t'}:=I.un (Un.laid k hp<|I.hok.fresh hp)<|I.hok.laid k hp new
theorem Inv.write{x e:aF}{o:HO}{t':Nat}(I:Inv X aE σ H s)(mu:Mut (H x))(he:e=x\/H e=some (.own x))(k:∀b u,b≠e->s.heap.get? b=some u->h'.get? b=some u)(AY:∃u,h'.get? e=some u)
  (new:ObjOk X.prog X.w (upd H x o) h' x o):Inv X aE σ (upd H x o) {s with heap:=h',toks:=t'}:=I.un (Un.write mu he k AY)<|I.hok.write mu he k AY new
def Inv.weak{σ':Z (Option V)}(I:Inv X aE σ H s)(hl:σ'.length=σ.length)(w:∀(i:Nat) v,σ'[i]?=some (some v)->σ[i]?=some (some v)):Inv X aE σ' H s:=
 ⟨I.ok,I.os,I.bare,I.base,let ⟨m,hn,AS⟩:=I.loc;⟨m,hn,λi x v e1 e2 e3=>AS i x v e1 (w i v e2) e3⟩,I.cell,I.free,I.freeC,I.pin,I.hok,hl.trans I.len⟩
def Inv.pins_of{wF:Z (aF×Obj)}(I:Inv X aE σ H s)(h:∀p∈wF,s.heap.get? p.1=some p.2/\H p.1=none/\p.1≠X.env.locals/\p.1∉X.fs/\∀v,p.2.data≠.cell v):Inv X wF σ H s:=
 ⟨I.ok,I.os,I.bare,I.base,I.loc,I.cell,I.free,I.freeC,λp hp=>(a8.mp hp).elim (λz=>I.pin p<|g9 _ z) (h p),I.hok,I.len⟩
def ahl{N:Z Str}(hN:N.Nodup){i j:Nat}{x:Str}(a:N[i]?=some x)(b:N[j]?=some x):i=j:=by obtain⟨h1,e1⟩:=af.mp a;obtain⟨h2,e2⟩:=af.mp b;exact(List.getElem_inj hN).mp (e1.trans e2.symm)
def afe{M:Model}{A:Around}{E:aA->aB->Prop}{i:Nat}{x:Str}{v:V}{u:aA}{Q:Unit->aB->Prop}(I:Inv X aE σ H s)(hN:X.N.Nodup)(hi:X.N[i]?=some x)(hx:Loc X.env.scope x)(r:RelV v u)
  (h:∀s',Inv X aE (σ.set i<|some v) H s'->(∃a,b8 a s.heap s'.heap/\(a=X.env.locals\/X.env.cells.lookup x=some a))->Q () s') (hf:X.fn x=true\/X.env.scope.names.lookup x=some .local:=by first|exact .inl rfl|exact .inr rfl|assumption):aG M A (storeName X.env x u) Q E s:=by
 obtain⟨m,hn,hl⟩:=id I.loc;have Jg:(X.env.scope.kind==.class||(X.env.scope.kind==.module&&X.env.locals != X.env.globals))=false:=by rw[I.ok.kind];rfl
 have hiσ:i<σ.length:=by rw[I.len];exact(af.mp hi).1
 have cne:=I.cne;have nT:∀{a:aF} {h':Heap},(∃o,s.heap.get? a=some o/\H a=none)->b8 a s.heap h'->HOk X.prog X.w H h':=λ{a h'} ha hs b ob e=>by
  obtain⟨_,_,bZ⟩:=ha;refine(I.hok b ob e).stay (λc w' hc q=>(hs.2 c ?_).trans q) (λ_ q=>q) λ_ _ q=>q;rintro rfl;rcases hc with rfl|hc
  .rw[bZ]at e;cases e
  .rw[bZ]at hc;cases hc
 rcases hx with hk|hk
 .refine wpAny_storeName_local hk hn (λh' fM hs=>?_) Jg;obtain⟨oL,_,_,CI,_⟩:=id hn;refine h _ ⟨I.ok,I.os,I.bare,⟨λb o e n hb hx=>?_,λb o e n hb hx=>?_,I.base.free,λb o e hx=>?_,I.base.tups,I.base.frzs,I.base.tbls⟩,⟨_,fM,λj y v' e1 e2 e3=>?_⟩,λy c e=>?_,I.free,I.freeC,λp hp=>?_,nT ⟨oL,CI,I.free⟩ hs,by simpa using I.len⟩ ⟨_,hs,.inl rfl⟩
  .exact(hs.2 b<|da<|ck (bi e) I.ok.above).trans (I.base.keep b o e n hb hx)
  .obtain⟨sl,e1⟩:=I.base.slot b o e n hb hx;exact⟨sl,(hs.2 b<|da<|ck (bi e) I.ok.above).trans e1⟩
  .obtain⟨o',e1⟩:=I.base.there b o e hx;exact⟨o',(hs.2 b<|da<|ck (bi e) I.ok.above).trans e1⟩
  .by_cases hj:j=i
   .subst hj;rw[hi]at e1;cases e1;rw[List.getElem?_set_self hiσ]at e2;cases e2;exact⟨u,r,.inl ⟨hk,by simp⟩⟩
   .rw[List.getElem?_set_ne (Ne.symm hj)]at e2;obtain⟨u',r',q⟩:=hl j y v' e1 e2 e3;refine⟨u',r',?_⟩;rcases q with ⟨k,e⟩|⟨k,c,e,z⟩
    .refine .inl ⟨k,?_⟩;have:y≠x:=λe=>hj<|ahl hN e1<|e▸hi;simp[this,e]
    .exact .inr ⟨k,c,e,z.sameBut hs<|cne y c e⟩
  .obtain⟨w',z⟩:=I.cell y c e;exact⟨w',z.sameBut hs<|cne y c e⟩
  .obtain⟨e,n,ne,nf,d⟩:=I.pin p hp;exact⟨(hs.2 p.1 ne).trans e,n,ne,nf,d⟩
 .have IW:X.fn x=true:=by
   rcases hf with z|z
   .exact z
   .rw[z]at hk;cases hk
  obtain⟨c,hc⟩:=I.ok.has x<|.inl hk;obtain⟨w',z⟩:=I.cell x c hc;refine wpAny_storeName_cell I.ok.kind hk hc z λh' jA hs=>?_;obtain⟨oc,hoc,Iq⟩:=id z;refine h {s with heap:=h'} ⟨I.ok,I.os,I.bare,⟨λb o e n hb hx=>?_,λb o e n hb hx=>?_,I.base.free,λb o e hx=>?_,I.base.tups,I.base.frzs,I.base.tbls⟩,⟨m,hn.sameBut hs<|Ne.symm<|cne x c hc,λj y v' e1 e2 e3=>?_⟩,λy c' e=>?_,I.free,I.freeC,λp hp=>?_,nT ⟨oc,hoc,I.freeC x c hc⟩ hs,by simpa using I.len⟩ ⟨c,hs,.inr hc⟩
  .exact(hs.2 b<|da<|ck (bi e)<|I.ok.cab x c IW hc).trans (I.base.keep b o e n hb hx)
  .obtain⟨sl,e1⟩:=I.base.slot b o e n hb hx;exact⟨sl,(hs.2 b<|da<|ck (bi e)<|I.ok.cab x c IW hc).trans e1⟩
  .obtain⟨o',e1⟩:=I.base.there b o e hx;exact⟨o',(hs.2 b<|da<|ck (bi e)<|I.ok.cab x c IW hc).trans e1⟩
  .by_cases hj:j=i
   .subst hj;rw[hi]at e1;cases e1;rw[List.getElem?_set_self hiσ]at e2;cases e2;exact⟨u,r,.inr ⟨.inl hk,c,hc,jA⟩⟩
   .rw[List.getElem?_set_ne (Ne.symm hj)]at e2;obtain⟨u',r',q⟩:=hl j y v' e1 e2 e3;refine⟨u',r',?_⟩;rcases q with q|⟨k,c',e,z'⟩
    .exact .inl q
    .refine .inr ⟨k,c',e,z'.sameBut hs ?_⟩;rintro rfl;exact hj<|ahl hN e1<|I.ok.inj _ _ _ e hc▸hi
  .by_cases Ff:c'=c
   .subst Ff;exact⟨_,jA⟩
   .obtain⟨w2,z2⟩:=I.cell y c' e;exact⟨w2,z2.sameBut hs Ff⟩
  .obtain⟨e,n,ne,nf,d⟩:=I.pin p hp;refine⟨(hs.2 p.1 ?_).trans e,n,ne,nf,d⟩;intro q;rw[q,hoc]at e;have q':oc=p.2:=ii e;exact d w'<|by rw[<-q'];exact Iq
def GE{M:Model}{A:Around}{E:aA->aB->Prop}{i:Nat}{x:Str}{v:V}{u:aA}{Q:Unit->aB->Prop}(I:Inv X aE σ H s)(hN:X.N.Nodup)(hi:X.N[i]?=some x)(hx:Loc X.env.scope x)(r:RelV v u)
  (h:∀s',Inv X aE (σ.set i<|some v) H s'->Q () s') (hf:X.fn x=true\/X.env.scope.names.lookup x=some .local:=by first|exact .inl rfl|exact .inr rfl|assumption):aG M A (storeName X.env x u) Q E s:=
 afe I hN hi hx r (λs' I' _=>h s' I') hf
def Inv.call'{s':aB}{ch:Z aF}(I:Inv X aE σ H s)(ho:s'.os=s.os)(u:Un (frs X.stack) ch H H' s.heap s'.heap)(hok:HOk X.prog X.w H' s'.heap)(hg:gD s'.gens)
  (pF:∀b∈ch,(b∈X.ex\/X.s₀.heap.objs.size<=b)/\b≠X.env.locals/\(∀x c,X.env.cells.lookup x=some c->c≠b)/\∀p∈X.pn++aE,p.1≠b):Inv X aE σ H' s':=by
 obtain⟨h',g',d',t',o'⟩:=s';have e:o'=s.os:=ho;subst e;exact I.call (g':=g') (t':=t') (d':=d') u hok hg pF
end
abbrev XK:=aA->Option aF->Hp->Prop
noncomputable abbrev St:=Z<|Option V
abbrev VK:=V->Hp->Prop
abbrev TE:=St->Hp->VK->Prop
abbrev TT:=St->Hp->(Bool->Hp->Prop)->Prop
abbrev TA:=St->Hp->(Z V->Hp->Prop)->Prop
structure lS where
 nx:St->Hp->Prop
 rt:VK
 bk:St->Hp->Prop:=λ_ _=>False
 ct:St->Hp->Prop:=λ_ _=>False
abbrev TS:=lS->St->Hp->Prop
def EP(X:Cx)(aE:Z (aF×Obj))(σ:St)(Q:VK)(u:aA)(s':aB):Prop:=∃v H',Inv X aE σ H' s'/\RelV v u/\Q v H'
def TP(X:Cx)(aE:Z (aF×Obj))(σ:St)(Q:Bool->Hp->Prop)(b:Bool)(s':aB):Prop:=∃H',Inv X aE σ H' s'/\Q b H'
def AP(X:Cx)(aE:Z (aF×Obj))(σ:St)(Q:Z V->Hp->Prop)(us:Z aA)(s':aB):Prop:=∃vs H',Inv X aE σ H' s'/\Vals vs us/\Q vs H'
def SP(X:Cx)(aE:Z (aF×Obj))(D:lS)(f:Flow)(s':aB):Prop:=
 match f with
 | .next=>∃σ' H',Inv X aE σ' H' s'/\D.nx σ' H'
 | .brk=>∃σ' H',Inv X aE σ' H' s'/\D.bk σ' H'
 | .cont=>∃σ' H',Inv X aE σ' H' s'/\D.ct σ' H'
 | .ret u=>∃v σ' H',Inv X aE σ' H' s'/\RelV v u/\D.rt v H'
def PE(X:Cx)(e:Expr)(t:TE):Prop:=
 ∀(aE:Z (aF×Obj)) (s:aB) (σ:St) (H:Hp) (Q:VK),Inv X aE σ H s->t σ H Q->aG (aH X.prog X.w) X.A (bX e X.env) (EP X aE σ Q) X.xe s
def PT(X:Cx)(e:Expr)(t:TT):Prop:=
 ∀(aE:Z (aF×Obj)) (s:aB) (σ:St) (H:Hp) (Q:Bool->Hp->Prop),Inv X aE σ H s->t σ H Q->aG (aH X.prog X.w) X.A (isTrue e X.env<|bX e X.env) (TP X aE σ Q) X.xe s
def PW(X:Cx)(e:Expr)(t:TT):Prop:=
 ∀(kH:nP aA) (aE:Z (aF×Obj)) (s:aB) (σ:St) (H:Hp) (Q:Bool->Hp->Prop),Inv X aE σ H s->t σ H Q->aG (aH X.prog X.w) X.A (isTrue e X.env kH) (TP X aE σ Q) X.xe s
def PW.pt{X:Cx}{e:Expr}{t:TT}(h:PW X e t):PT X e t:=h _
def PA(X:Cx)(es:Z Expr)(t:TA):Prop:=
 ∀(pos:dQ) (aE:Z (aF×Obj)) (s:aB) (σ:St) (H:Hp) (Q:Z V->Hp->Prop),Inv X aE σ H s->t σ H Q->aG (aH X.prog X.w) X.A (BU<|cV pos<|aU es X.env) (AP X aE σ Q) X.xe s
def PS(X:Cx)(st:aX)(t:TS):Prop:=
 ∀(aE:Z (aF×Obj)) (s:aB) (σ:St) (H:Hp) (D:lS),Inv X aE σ H s->t D σ H->aG (aH X.prog X.w) X.A (exec st X.env) (SP X aE D) X.xe s
def PSs(X:Cx)(st:Z aX)(t:TS):Prop:=
 ∀(aE:Z (aF×Obj)) (s:aB) (σ:St) (H:Hp) (D:lS),Inv X aE σ H s->t D σ H->aG (aH X.prog X.w) X.A (execs st X.env) (SP X aE D) X.xe s
def thn{α:Type}{t:nP α}{Q Q':α->aB->Prop}{M:Model}{A:Around}{E:aA->aB->Prop}{s:aB}(h:aG M A t Q E s)(hQ:∀a s,Q a s->Q' a s):aG M A t Q' E s:=jf h hQ λ_ _ x=>x
section
variable{X:Cx}
def mN(i:Nat):TE:=λσ H Q=>∃v,σ[i]?=some (some v)/\Q v H
def tC(v:V):TE:=λ_ H Q=>Q v H
def apk{i:Nat}{x:Str}{pos:dQ}(hN:X.N[i]?=some x)(hv:Vis X.env.scope x)(hd:(x==("__debug__" : Str))=false:=by decide)(oM:(x==("__classdict__" : Str))=false:=by decide):PE X (.Name x pos) (mN i):=by
 intro aE s σ H Q I h;obtain⟨v,e,h⟩:=h;obtain⟨m,hn,hl⟩:=I.loc;obtain⟨u,r,l⟩:=hl i x v hN e hv;have fin:EP X aE σ Q u s:=⟨v,H,I,r,h⟩;rcases l with ⟨hk,hm⟩|⟨hk,c,hc,wZ⟩
 .exact At (wpAny_loadName_local I.ok.kind hk hn hm fin) hd
 .rcases hk with hk|hk
  .exact At (wpAny_loadName_cell I.ok.kind hk hc wZ fin) hd
  .exact At (wpAny_loadName_free I.ok.kind hk hc wZ fin oM) hd
def k8{i j pos}:PE X (.Constant (.int i) j pos) (tC<|.int i):=λ_ _ _ H _ I h=>wpAny_Constant_int ⟨.int i,H,I.tok _,⟨_,rfl⟩,h⟩
def vS{b j pos}:PE X (.Constant (.bool b) j pos) (tC<|.bl b):=λ_ _ _ H _ I h=>Constant_bool ⟨.bl b,H,I,rfl,h⟩
def sw{j pos}:PE X (.Constant .none j pos) (tC .non):=λ_ _ _ H _ I h=>Constant_none ⟨.non,H,I,rfl,h⟩
def oh{x j pos}:PE X (.Constant (.str x) j pos) (tC<|.str x):=λ_ _ _ H _ I h=>Calls.Constant_str ⟨.str x,H,I.tok _,⟨_,rfl⟩,h⟩
def Gl(X:Cx)(x:Str):Prop:=X.env.kindOf x=some .globalImplicit
def am3{E:aA->aB->Prop}{aE:Z (aF×Obj)}{s:aB}{σ:St}{H:Hp}{x:Str}{u:aA}{pos:dQ}{Q:aA->aB->Prop}(I:Inv X aE σ H s)(hg:Gl X x)(hm:X.mg x=some u)(h:Q u s)
  (hd:(x==("__debug__" : Str))=false:=by decide):aG (aH X.prog X.w) X.A (bX (.Name x pos) X.env) Q E s:=
 Calls.Name_function_global I.ok.kind hg (Calls.loadGlobal_global (by rw[I.ok.glob];exact I.mod.glob.keeps I.bk) hm h) hd
def uz{E:aA->aB->Prop}{aE:Z (aF×Obj)}{s:aB}{σ:St}{H:Hp}{x:Str}{u:aA}{pos:dQ}{Q:aA->aB->Prop}(I:Inv X aE σ H s)(hg:Gl X x)(hm:X.mg x=none)(hv:bP x=some u)(h:Q u s)
  (hn:x≠"__name__":=by decide) (hd:(x==("__debug__" : Str))=false:=by decide):aG (aH X.prog X.w) X.A (bX (.Name x pos) X.env) Q E s:=by
 obtain⟨mb,h1,h2⟩:=I.mod.blt;exact Calls.Name_function_global I.ok.kind hg (Calls.loadGlobal_builtin (by rw[I.ok.glob];exact I.mod.glob.keeps I.bk) hm (by rw[I.ok.blt];exact h1.keeps I.bk) ((h2 x hn).trans hv) h) hd
def aly{x:Str}{v:V}{u:aA}{pos:dQ}(hg:Gl X x)(hm:X.mg x=some u)(r:RelV v u)(hd:(x==("__debug__" : Str))=false:=by decide):PE X (.Name x pos) (tC v):=
 λ_ _ _ H _ I h=>am3 I hg hm ⟨v,H,I,r,h⟩ hd
def xi{x:Str}{v:V}{u:aA}{pos:dQ}(hg:Gl X x)(hm:X.mg x=none)(hv:bP x=some u)(r:RelV v u)(hn:x≠"__name__":=by decide)(hd:(x==("__debug__" : Str))=false:=by decide):PE X (.Name x pos) (tC v):=
 λ_ _ _ H _ I h=>uz I hg hm hv ⟨v,H,I,r,h⟩ hn hd
variable{a b:Expr}{ta tb:TE}{pos:dQ}
def PC(X:Cx)(op:oU)(a b:Expr)(t:TE):Prop:=
 ∀(aE:Z (aF×Obj)) (s:aB) (σ:St) (H:Hp) (Q:VK),Inv X aE σ H s->t σ H Q->
  aG (aH X.prog X.w) X.A (bX a X.env) (λv s₁=>aG (aH X.prog X.w) X.A (bX b X.env) (λu s₂=>aG (aH X.prog X.w) X.A (aV op v u) (EP X aE σ Q) X.xe s₂) X.xe s₁) X.xe s
def tB(t:TE):TT:=λσ H Q=>t σ H λx H1=>∃c,x=.bl c/\Q c H1
def F5{op:oU}{t:TE}(h:PC X op a b t)(h1:fK op b=false:=by first|exact nobehind _ (by decide) (by decide)|rfl):PT X (.Compare a [op] [b] pos) (tB t):=by intro aE s σ H Q I hw;refine uF (thn (h aE s σ H _ I hw) λv s1 h1=>thn h1 λu s2 h2=>thn h2 λc s3 ⟨x,H1,I1,r1,q1⟩=>?_) h1;obtain⟨d,rfl,q⟩:=q1;cases r1;exact gy ⟨H1,I1,q⟩
def uy{e:Expr}{t:TE}(h:PE X e t)(he:∀kH,isTrue e X.env kH=(do let v <-kH;BR e.pos;holding [v] (truthy v)):=by intro _;rfl):PT X e (tB t):=by intro aE s σ H Q I hw;refine isTrue_plain (thn (h aE s σ H _ I hw) λv s1 ⟨x,H1,I1,r1,q1⟩=>?_)<|he _;obtain⟨d,rfl,q⟩:=q1;cases r1;exact gy ⟨H1,I1,q⟩
variable{tA EK:TT}{aY:Z Expr}
def ay7(t u:TT):TT:=λσ H Q=>t σ H λc H1=>if c=true then u σ H1 Q else Q false H1
def tOr(t u:TT):TT:=λσ H Q=>t σ H λc H1=>if c=true then Q true H1 else u σ H1 Q
def azu(t:TT):TT:=λσ H Q=>t σ H λc H1=>Q (!c) H1
theorem uk(ha:PT X a tA):PW X (.BoolOp .And [a] pos) tA:=by
 intro wh aE s σ H Q I h;refine isTrue_and<|thn (ha aE s σ H Q I h) λc s1 e=>?_;cases c with
 | true=>exact isTrue_and_nil e
 | false=>exact e
theorem wx(ha:PT X a tA):PW X (.BoolOp .Or [a] pos) tA:=by
 intro wh aE s σ H Q I h;refine isTrue_or<|thn (ha aE s σ H Q I h) λc s1 e=>?_;cases c with
 | false=>exact isTrue_or_nil e
 | true=>exact e
theorem vh(ha:PT X a tA)(hb:PW X (.BoolOp .And (b::aY) pos) EK):PW X (.BoolOp .And (a::b::aY) pos) (ay7 tA EK):=by
 intro wh aE s σ H Q I h;refine isTrue_and<|thn (ha aE s σ H _ I h) λc s1 ⟨H1,I1,q1⟩=>?_;cases c with
 | true=>exact hb wh aE s1 σ H1 Q I1 q1
 | false=>exact⟨H1,I1,q1⟩
theorem qJ(ha:PT X a tA)(hb:PW X (.BoolOp .Or (b::aY) pos) EK):PW X (.BoolOp .Or (a::b::aY) pos) (tOr tA EK):=by
 intro wh aE s σ H Q I h;refine isTrue_or<|thn (ha aE s σ H _ I h) λc s1 ⟨H1,I1,q1⟩=>?_;cases c with
 | true=>exact⟨H1,I1,q1⟩
 | false=>exact hb wh aE s1 σ H1 Q I1 q1
def zz(ha:PT X a tA):PT X (.UnaryOp .Not a pos) (azu tA):=by intro aE s σ H Q I h;exact isTrue_not<|ha aE s σ H (λc H1=>Q (!c) H1) I h
def aw3(ta tb:TE):TE:=λσ H Q=>ta σ H λx H1=>∃c,x=.bl c/\if c=true then tb σ H1 Q else Q (.bl false) H1
def azn(ta tb:TE):TE:=λσ H Q=>ta σ H λx H1=>∃c,x=.bl c/\if c=true then Q (.bl true) H1 else tb σ H1 Q
def axu(ta:TE):TE:=λσ H Q=>ta σ H λx H1=>∃c,x=.bl c/\Q (.bl<|!c) H1
def By{op}{t:TE}(h:PE X a t):PE X (.BoolOp op [a] pos) t:=λaE s σ H Q I hw=>BoolOp_one<|h aE s σ H Q I hw
theorem Ag(ha:PE X a ta)(hb:PE X (.BoolOp .And (b::aY) pos) tb):PE X (.BoolOp .And (a::b::aY) pos) (aw3 ta tb):=by
 intro aE s σ H Q I h;refine BoolOp_and<|thn (ha aE s σ H _ I h) λv s1 ⟨x,H1,I1,r1,q1⟩=>?_;obtain⟨c,rfl,q1⟩:=q1;cases r1;refine gy ?_;cases c with
 | true=>exact hb aE s1 σ H1 Q I1 q1
 | false=>exact⟨.bl false,H1,I1,rfl,q1⟩
theorem ax2(ha:PE X a ta)(hb:PE X (.BoolOp .Or (b::aY) pos) tb):PE X (.BoolOp .Or (a::b::aY) pos) (azn ta tb):=by
 intro aE s σ H Q I h;refine BoolOp_or<|thn (ha aE s σ H _ I h) λv s1 ⟨x,H1,I1,r1,q1⟩=>?_;obtain⟨c,rfl,q1⟩:=q1;cases r1;refine gy ?_;cases c with
 | false=>exact hb aE s1 σ H1 Q I1 q1
 | true=>exact⟨.bl true,H1,I1,rfl,q1⟩
def avk(ha:PE X a ta):PE X (.UnaryOp .Not a pos) (axu ta):=by intro aE s σ H Q I h;refine UnaryOp_<|thn (ha aE s σ H _ I h) λv s1 ⟨x,H1,I1,r1,q1⟩=>?_;obtain⟨c,rfl,q1⟩:=q1;cases r1;exact not_of<|gy ⟨.bl<|!c,H1,I1,rfl,q1⟩
def tIf(t:TT)(ta tb:TE):TE:=λσ H Q=>t σ H λc H1=>if c=true then ta σ H1 Q else tb σ H1 Q
theorem an9{c:Expr}(hc:PT X c tA)(ha:PE X a ta)(hb:PE X b tb):PE X (.IfExp c a b pos) (tIf tA ta tb):=by
 intro aE s σ H Q I h;refine wpAny_IfExp<|thn (hc aE s σ H _ I h) λd s1 ⟨H1,I1,q1⟩=>?_;cases d with
 | true=>exact ha aE s1 σ H1 Q I1 q1
 | false=>exact hb aE s1 σ H1 Q I1 q1
end
def SqL(K:ax)(H:Hp)(a:aF)(xs:Z V):Prop:=
 Rd H a (.lst xs)\/
  ∃(o:Obj)(its:Array aA)(n:Nat),K.lookup a=some o/\o.cls=.type "list"/\o.dict=none/\o.data=.seq its n/\its.size<=aC/\Vals xs its.toList
def SqT(K:ax)(H:Hp)(a:aF)(xs:Z V):Prop:=
 Rd H a (.tup xs)\/
  ∃(o:Obj)(its:Array aA)(n:Nat),K.lookup a=some o/\o.cls=.type "tuple"/\o.data=.seq its n/\its.size<=aC/\Vals xs its.toList
noncomputable def az4:aA->Option V
 | .none=>some .non
 | .bool b=>some (.bl b)
 | .int i _=>some (.int i)
 | .str x _=>some (.str x)
 | .bytes b _=>some (.byt b)
 | .float b _=>some (.flt b)
 | .ref a=>some (.ref a)
 | .type n=>some (.ty n)
 | _=>none
theorem RelV.abs{x:V}{u:aA}(r:RelV x u):az4 u=some x:=by
 cases x with
 | non=>cases r;rfl
 | bl _=>cases r;rfl
 | int _=>obtain⟨t,rfl⟩:=r;rfl
 | str _=>obtain⟨t,rfl⟩:=r;rfl
 | byt _=>obtain⟨t,rfl⟩:=r;rfl
 | flt _=>obtain⟨t,rfl⟩:=r;rfl
 | ref _=>cases r;rfl
 | ty _=>cases r;rfl
def RelV.inj{x y:V}{u:aA}(r:RelV x u)(q:RelV y u):x=y:=ii<|r.abs.symm.trans q.abs
theorem Vals.inj:∀{xs ys:Z V} {us:Z aA},Vals xs us->Vals ys us->xs=ys
 | _,_,_,.nil,.nil=>rfl
 | _,_,_,.cons r t,.cons r' t'=>by rw[r.inj r',Vals.inj t t']
section
variable{X:Cx}{aE:Z (aF×Obj)}{σ:St}{H:Hp}{s:aB}{a:aF}{xs ys:Z V}
def SqL.of{K:ax}(h:H a=some (.lst xs)):SqL K H a xs:=.inl<|.inl h
def SqT.of{K:ax}(h:H a=some (.tup xs)):SqT K H a xs:=.inl<|.inl h
def Inv.list(I:Inv X aE σ H s)(h:SqL X.K H a xs):∃its:Z aA,Vals xs its/\PlainL s.heap a its.toArray/\xs.length<=aC:=by
 rcases h with h|⟨o,its,n,hk,hc,hd,hs,hz,r⟩
 .obtain⟨z,its,n,r,e⟩:=h.ok I.hok;exact⟨its,r,⟨_,n,e,rfl,rfl,rfl⟩,z⟩
 .refine⟨its.toList,r,⟨o,n,I.kIn a o hk,hc,hd,by simpa using hs⟩,?_⟩;have e:=r.length;simp only[a0]at e;lia
def Inv.tuple(I:Inv X aE σ H s)(h:SqT X.K H a xs):∃its:Z aA,Vals xs its/\mR s.heap a its.toArray/\xs.length<=aC:=by
 rcases h with h|⟨o,its,n,hk,hc,hs,hz,r⟩
 .obtain⟨z,its,r,p⟩:=h.ok I.hok;exact⟨its,r,p,z⟩
 .refine⟨its.toList,r,⟨o,I.kIn a o hk,hc,n,by simpa using hs⟩,?_⟩;have e:=r.length;simp only[a0]at e;lia
def Inv.list_inj(I:Inv X aE σ H s)(h:SqL X.K H a xs)(h':SqL X.K H a ys):xs=ys:=by
 obtain⟨its,r,⟨o,n,e,_,_,d⟩,_⟩:=I.list h;obtain⟨its',r',⟨o',n',e',_,_,d'⟩,_⟩:=I.list h';rw[e]at e';cases e';rw[d]at d';injection d' with d1 _
 have:its=its':=by simpa using congrArg Array.toList d1
 subst this;exact r.inj r'
def Inv.tuple_inj(I:Inv X aE σ H s)(h:SqT X.K H a xs)(h':SqT X.K H a ys):xs=ys:=by
 obtain⟨its,r,⟨o,e,_,n,d⟩,_⟩:=I.tuple h;obtain⟨its',r',⟨o',e',_,n',d'⟩,_⟩:=I.tuple h';rw[e]at e';cases e';rw[d]at d';injection d' with d1 _
 have:its=its':=by simpa using congrArg Array.toList d1
 subst this;exact r.inj r'
end
noncomputable abbrev Cx.wish(X:Cx)(E:aA->aB->Prop):Cx:={X with xe:=E}
noncomputable abbrev Cx.nox(X:Cx):Cx:=X.wish λ_ _=>False
theorem Cx.Ok.wish{X:Cx}(ok:X.Ok)(E:aA->aB->Prop):(X.wish E).Ok:=
 ⟨ok.mod,ok.kind,ok.glob,ok.blt,ok.above,ok.inj,ok.has,ok.cab,ok.hd,ok.frames,ok.stk,ok.exf,ok.bs,ok.bsz,ok.noex,ok.exfs,ok.funs,ok.frf⟩
def Cx.Ok.unwish{X:Cx}{E:aA->aB->Prop}(ok:(X.wish E).Ok):X.Ok:=
 ⟨ok.mod,ok.kind,ok.glob,ok.blt,ok.above,ok.inj,ok.has,ok.cab,ok.hd,ok.frames,ok.stk,ok.exf,ok.bs,ok.bsz,ok.noex,ok.exfs,ok.funs,ok.frf⟩
section
variable{X:Cx}{aE:Z (aF×Obj)}{σ:St}{H:Hp}{s:aB}{E:aA->aB->Prop}
theorem Inv.wish(I:Inv X aE σ H s)(E:aA->aB->Prop):Inv (X.wish E) aE σ H s:=⟨I.ok.wish E,I.os,I.bare,I.base,I.loc,I.cell,I.free,I.freeC,I.pin,I.hok,I.len⟩
theorem Inv.unwish(I:Inv (X.wish E) aE σ H s):Inv X aE σ H s:=⟨I.ok.unwish,I.os,I.bare,I.base,I.loc,I.cell,I.free,I.freeC,I.pin,I.hok,I.len⟩
theorem SP.unwish{D:lS}{f:Flow}{s':aB}(h:SP (X.wish E) aE D f s'):SP X aE D f s':=by
 cases f with
 | next=>obtain⟨σ',H',I,q⟩:=h;exact⟨σ',H',I.unwish,q⟩
 | brk=>obtain⟨σ',H',I,q⟩:=h;exact⟨σ',H',I.unwish,q⟩
 | cont=>obtain⟨σ',H',I,q⟩:=h;exact⟨σ',H',I.unwish,q⟩
 | ret u=>obtain⟨v,σ',H',I,r,q⟩:=h;exact⟨v,σ',H',I.unwish,r,q⟩
theorem PSs.nox{st:Z aX}{t:TS}(h:PSs X.nox st t):PSs X st t:=λaE s σ H D I hw=>
 jf (h aE s σ H D (I.wish _) hw) (λ_ _ q=>q.unwish) λ_ _ z=>False.elim z
end
section
variable{X:Cx}{st:aX}{aY:Z aX}{t u:TS}{e:Expr}{te:TE}{pos:dQ}
def axd:TS:=λD σ H=>D.nx σ H
def FO(t u:TS):TS:=λD σ H=>t {D with nx:=u D} σ H
def np:PSs X [] axd:=λ_ _ σ H _ I h=>mS ⟨σ,H,I,h⟩
theorem k9(h1:PS X st t)(h2:PSs X aY u):PSs X (st::aY) (FO t u):=by
 intro aE s σ H D I h;refine EH<|thn (h1 aE s σ H {D with nx:=u D} I h) λf s1 q=>?_;cases f with
 | next=>
  obtain⟨σ',H',I',q⟩:=q;exact h2 aE s1 σ' H' D I' q
 | ret v=>exact q
 | brk=>exact q
 | cont=>exact q
theorem lh(h1:PS X st t):PSs X [st] t:=by
 intro aE s σ H D I h;refine EH<|thn (h1 aE s σ H D I h) λf s1 q=>?_;cases f with
 | next=>exact mS q
 | ret v=>exact q
 | brk=>exact q
 | cont=>exact q
def Inv.quiet{aE:Z (aF×Obj)}{σ:St}{H:Hp}{s:aB}(I:Inv X aE σ H s):interactive X.env=false:=by simp[interactive,I.ok.kind]
def axx(te:TE):TS:=λD σ H=>te σ H λ_ H1=>D.nx σ H1
def r9(he:PE X e te)(hs:iQ e none pos.line X.env=aR false:=by rfl):PS X (.Expr e pos) (axx te):=by intro aE s σ H D I h;exact wpAny_Expr_any (thn (he aE s σ H _ I h) λv s1 ⟨x,H1,I1,r1,q1⟩=>⟨σ,H1,I1,q1⟩) I.quiet hs
def azl(te:TE):TS:=λD σ H=>te σ H D.rt
def ma(he:PE X e te):PS X (.Return (some e) pos) (azl te):=by intro aE s σ H D I h;exact wpAny_Return_some<|thn (he aE s σ H _ I h) λv s1 ⟨x,H1,I1,r1,q1⟩=>⟨x,σ,H1,I1,r1,q1⟩
def azz(c:TT)(t u:TS):TS:=λD σ H=>c σ H λb H1=>if b=true then t D σ H1 else u D σ H1
theorem qa{c:Expr}{a b:Z aX}{tc:TT}(hc:PT X c tc)(ha:PSs X a t)(hb:PSs X b u):PS X (.If c a b pos) (azz tc t u):=by
 intro aE s σ H D I h;refine wpAny_If<|thn (hc aE s σ H _ I h) λd s1 ⟨H1,I1,q1⟩=>?_;cases d with
 | true=>exact ha aE s1 σ H1 D I1 q1
 | false=>exact hb aE s1 σ H1 D I1 q1
end
abbrev TG:=V->St->Hp->(St->Hp->Prop)->Prop
abbrev TGs:=Z V->St->Hp->(St->Hp->Prop)->Prop
def PG(X:Cx)(bA:Expr)(t:TG):Prop:=
 ∀(aE:Z (aF×Obj)) (s:aB) (σ:St) (H:Hp) (v:V) (u:aA) (Q:St->Hp->Prop),Inv X aE σ H s->RelV v u->t v σ H Q->
  aG (aH X.prog X.w) X.A (lQ bA X.env u) (λ_ s'=>∃σ' H',Inv X aE σ' H' s'/\Q σ' H') X.xe s
def PGs(X:Cx)(ts:Z Expr)(t:TGs):Prop:=
 ∀(aE:Z (aF×Obj)) (s:aB) (σ:St) (H:Hp) (vs:Z V) (us:Z aA) (Q:St->Hp->Prop),Inv X aE σ H s->Vals vs us->t vs σ H Q->
  aG (aH X.prog X.w) X.A (qF ((dS ts X.env).map (·.2)) us) (λ_ s'=>∃σ' H',Inv X aE σ' H' s'/\Q σ' H') X.xe s
section
variable{X:Cx}{pos:dQ}
def uf(i:Nat):TG:=λv σ H Q=>Q (σ.set i<|some v) H
def zw{i:Nat}{x:Str}(hN:X.N.Nodup)(hi:X.N[i]?=some x)(hx:Loc X.env.scope x)(hf:X.fn x=true\/X.env.scope.names.lookup x=some .local:=by first|exact .inl rfl|exact .inr rfl|assumption):PG X (.Name x pos) (uf i):=by intro aE s σ H v u Q I r h;exact BM<|GE I hN hi hx r (λs' I'=>⟨_,H,I',h⟩) hf
def FM:TGs:=λvs σ H Q=>vs=[]/\Q σ H
def uA(t:TG)(u:TGs):TGs:=λvs σ H Q=>∃v r,vs=v::r/\t v σ H λσ' H'=>u r σ' H' Q
def nc:PGs X [] FM:=by intro aE s σ H vs us Q I r h;obtain⟨e,h⟩:=h;subst e;cases r;exact DL ⟨σ,H,I,h⟩
theorem ln{e:Expr}{es:Z Expr}{t:TG}{u:TGs}(h1:PG X e t)(h2:PGs X es u)
  (hs:(dS (e::es) X.env).map (·.2)=lQ e X.env::(dS es X.env).map (·.2):=by rfl):PGs X (e::es) (uA t u):=by
 intro aE s σ H vs us Q I r h;obtain⟨v,vr,e1,h⟩:=h;subst e1;cases r with
 | cons r rr=>
  rw[hs];refine jX<|thn (h1 aE s σ H _ _ _ I r h) λ_ s1 ⟨σ1,H1,I1,q1⟩=>?_;exact h2 aE s1 σ1 H1 _ _ Q I1 rr q1
def DH(K:ax)(n:Nat)(t:TGs):TG:=λv σ H Q=>∃a xs,v=.ref a/\SqT K H a xs/\xs.length=n/\t xs σ H Q
def qb{es:Z Expr}{k:Nat}{t:TGs}{n:Nat}(hc:X.calm=true)(h:PGs X es t)
  (hn:(dS es X.env).length=n:=by rfl) (gQ:(dS es X.env).findIdx? (·.1)=none:=by rfl):PG X (.Tuple es k pos) (DH X.K n t):=by
 intro aE s σ H v u Q I r hw;obtain⟨a,xs,e1,hq,hl,hw⟩:=hw;subst e1;cases r;obtain⟨its,rv,ht,hz⟩:=I.tuple hq;refine assign_Tuple_tuple (I.ok.hd hc) ht (by simp[hn,<-hl,rv.length]) gQ λh' hx=>?_;have I1:Inv X aE σ H {s with heap:=h'}:=I.kept (t':=s.toks) λb o e=>hx b o (da<|bi e) e;exact h aE _ σ H xs _ Q I1 (by simpa using rv) hw
def DJ(te:TE)(g:TG):TS:=λD σ H=>te σ H λx H1=>g x σ H1 D.nx
def Gf{tg e:Expr}{te:TE}{g:TG}(he:PE X e te)(hg:PG X tg g)(hs:swapsWithSole [tg] e pos.line X.env=aR false:=by rfl)(hw:swappedStores [tg] e X.env=aR none:=by rfl)
  (h1:(dS [tg] X.env).map (·.2)=[lQ tg X.env]:=by rfl):PS X (.Assign [tg] e pos) (DJ te g):=by
 intro aE s σ H D I h;refine wpAny_Assign_stores (thn (he aE s σ H _ I h) λv s1 ⟨x,H1,I1,r1,q1⟩=>?_) hs hw;rw[h1];exact thn (hg aE s1 σ H1 x v _ I1 r1 q1) λ_ s2 q=>q
def yq{i:Nat}{x:Str}{e:Expr}{te:TE}{qX:dQ}(hN:X.N.Nodup)(hi:X.N[i]?=some x)(hx:Loc X.env.scope x)(he:PE X e te)(hs:iQ e (some<|.Name x qX) pos.line X.env=aR false:=by rfl)(hf:X.fn x=true\/X.env.scope.names.lookup x=some .local:=by first|exact .inl rfl|exact .inr rfl|assumption) :
  PS X (.Assign [.Name x qX] e pos) (DJ te<|uf i):=by
 intro aE s σ H D I h;refine wpAny_Assign_Name (thn (he aE s σ H _ I h) λv s1 ⟨y,H1,I1,r1,q1⟩=>?_) hs;exact GE I1 hN hi hx r1 (λs2 I2=>⟨_,H1,I2,q1⟩) hf
def aze(i j:Nat)(ta:TA):TS:=λD σ H=>ta σ H λvs H1=>∃v w,vs=[v,w]/\D.nx ((σ.set i<|some v).set j (some w)) H1
theorem aup{i j:Nat}{x y:Str}{a b:Expr}{ta:TA}{px py pt:dQ}{kt k2 pt2}(hc:X.calm=true)(hN:X.N.Nodup)(hi:X.N[i]?=some x)(hj:X.N[j]?=some y)(cN:i≠j)
  (hx:X.env.scope.names.lookup x=some .local) (hy:X.env.scope.names.lookup y=some .local) (ha:PA X [a,b] ta)
  (hw:swappedStores [.Tuple [.Name x px,.Name y py] kt pt] (.Tuple [a,b] k2 pt2) X.env=aR (some [x,y]))
  (hs:swapsWithSole [.Tuple [.Name x px,.Name y py] kt pt] (.Tuple [a,b] k2 pt2) pos.line X.env=aR false:=by rfl) :
  PS X (.Assign [.Tuple [.Name x px,.Name y py] kt pt] (.Tuple [a,b] k2 pt2) pos) (aze i j ta):=by
 intro aE s σ H D I h;rw[exec_Assign_arm];refine ab<|fG ?_;rw[hs];refine ab<|aj ?_;rw[if_neg (by decide)];refine ab<|Tuple_<|thn (ha _ aE s σ H _ I h) λus s1 ⟨vs,H1,I1,r1,q1⟩=>?_;obtain⟨v,w,e1,q1⟩:=q1;subst e1;obtain⟨u1,u2,rfl,rv,nD⟩:∃u1 u2,us=[u1,u2]/\RelV v u1/\RelV w u2:=by
  cases r1 with
  | cons p q=>
   cases q with
   | cons p' q'=>
    cases q';exact⟨_,_,rfl,p,p'⟩
 refine cz ?_ sZ2;have I2:Inv X aE σ H1 {s1 with heap:=s1.heap.push {cls:=.type "tuple",data:=.seq [u1,u2].toArray}}:=I1.kept (t':=s1.toks) λb o e=>ak _ e;rw[hw];refine ab<|aj ?_;show aG (aH X.prog X.w) X.A (do tJ "assign.swapped-stores";let items <-unpackItems (.ref s1.heap.objs.size) 2 none;qF [λv=>xO X.env y v,λv=>xO X.env x v] items.reverse;aR Flow.next) _ _ _;refine ab<|jl<|ab<|unpackItems_tuple (items:=#[u1,u2]) (I.ok.hd hc) (mR.new s1.heap _) λh' oX=>?_;have I3:=I2.kept (h':=h') (t':=s1.toks) λb o e=>oX b o (da<|bi e) e;show aG _ _ (qF [λv=>xO X.env y v,λv=>xO X.env x v] [u2,u1] >>= λ_=>aR Flow.next) _ _ _;refine ab<|jX<|wpAny_bindName<|GE I3 hN hj (.inl hy) nD (λs2 I4=>?_)<|.inr hy;refine jX<|wpAny_bindName<|GE I4 hN hi (.inl hx) rv (λs3 I5=>DL<|aj ?_)<|.inr hx;rw[List.set_comm _ _ (Ne.symm cN)]at I5;exact⟨_,H1,I5,q1⟩
end
structure It where
 go:Nat->Hp->Prop
 yld:Nat->Hp->V->Hp->Prop
 stop:Nat->Hp->Prop
def mM(X:Cx)(aE:Z (aF×Obj))(H:Hp)(b:aF):Prop:=
 H b=none/\b≠X.env.locals/\b∉X.fs/\(b∈X.ex\/X.s₀.heap.objs.size<=b)/\(∀x c,X.env.cells.lookup x=some c->c≠b)/\∀p∈X.pn++aE,p.1≠b
def Inv.fpOk{X:Cx}{aE:Z (aF×Obj)}{σ:St}{H H':Hp}{s:aB}{b:aF}(I:Inv X aE σ H s)(hb:s.heap.objs.size<=b)(hn:H' b=none):mM X aE H' b:=by
 refine⟨hn,Nat.ne_of_gt<|ck I.lt hb,I.nofs hb,.inr<|ie I.sz hb,λx c e z=>?_,λp hp z=>?_⟩
 .obtain⟨v,q⟩:=I.cell x c e;exact absurd (ck q.lt<|by rw[z];exact hb)<|kb _
 .exact absurd (ck (bi (I.pin p hp).1)<|by rw[z];exact hb)<|kb _
structure tY(P:aK)(w:aO)(K:ax)(tg:Expr)(J:It)(fp:Z aF)(it:aF)(tn:Nat->Heap->Prop):Prop where
 mem:it∈fp
 obj:∀i h,tn i h->∀b∈fp,∃o,h.get? b=some o/\∀v,o.data≠.cell v
 keep:∀i h h',tn i h->(∀b∈fp,∀o,h.get? b=some o->h'.get? b=some o)->tn i h'
 item:∀(X:Cx),X.prog=P->X.w=w->X.K=K->X.calm=true->∀(i:Nat) (aE:Z (aF×Obj)) (s:aB) (σ:St) (H:Hp) (E:aA->aB->Prop),Inv X aE σ H s->(∀b∈fp,mM X aE H b)->tn i s.heap->J.go i H->
  aG (aH P w) X.A (bH<|.ref it) (λr s1=>∃u,r=some u/\
   aG (aH P w) X.A (gI tg (.ref it) u) (λ_ s2=>∃x H',Inv X aE σ H' s2/\RelV x u/\J.yld i H x H'/\tn (i+1) s2.heap/\∀b∈fp,H' b=none) E s1) E s
 done:∀(X:Cx),X.prog=P->X.w=w->X.K=K->X.calm=true->∀(i:Nat) (aE:Z (aF×Obj)) (s:aB) (σ:St) (H:Hp) (E:aA->aB->Prop),Inv X aE σ H s->(∀b∈fp,mM X aE H b)->tn i s.heap->J.stop i H->
  aG (aH P w) X.A (bH<|.ref it) (λr s1=>r=none/\Inv X aE σ H s1) E s
 self:∀(A:Around)(i:Nat)(s:aB)(Q:aA->aB->Prop)(E:aA->aB->Prop),tn i s.heap->Q (.ref it) s->aG (aH P w) A (oA<|.ref it) Q E s
abbrev TI:=St->Hp->(It->Hp->Prop)->Prop
def PIE(X:Cx)(aE:Z (aF×Obj))(σ:St)(tg:Expr)(R:It->Hp->Prop)(EV:aA)(s2:aB):Prop:=
 ∃(it:aF)(fp:Z aF)(tn:Nat->Heap->Prop)(J:It)(H':Hp),EV=.ref it/\Inv X aE σ H' s2/\tY X.prog X.w X.K tg J fp it tn/\tn 0 s2.heap/\(∀b∈fp,mM X aE H' b)/\R J H'
def PI(X:Cx)(tg iter:Expr)(wi:TI):Prop:=
 ∀(aE:Z (aF×Obj)) (s:aB) (σ:St) (H:Hp) (R:It->Hp->Prop),Inv X aE σ H s->wi σ H R->
  aG (aH X.prog X.w) X.A (bX iter X.env) (λv s1=>aG (aH X.prog X.w) X.A (oA v) (PIE X aE σ tg R) X.xe s1) X.xe s
theorem K1{M:Model}{A:Around}{E:aA->aB->Prop}{s:aB}{tg:Expr}{it:aF}{u:aA}{o:Obj}{n:String}{vs:Array aA}{Q:Unit->aB->Prop}(ho:s.heap.get? it=some o)(hc:o.cls=.type n)(hd:o.data=.fields vs)
  (hn:["enumerate","zip","dict_itemiterator","dict_reverseitemiterator","odict_iterator","itertools.zip_longest","itertools.pairwise"].contains n=false) (hQ:Q () s):aG M A (gI tg (.ref it) u) Q E s:=by
 unfold gI;cases tg<;>first
  | exact aj hQ
  | (cases u<;>first
    | exact aj hQ
    | (refine ab<|wpAny_load ho ?_
       rw[hc,hd];show aG M A (if (["enumerate","zip","dict_itemiterator","dict_reverseitemiterator","odict_iterator","itertools.zip_longest","itertools.pairwise"].contains n&&vs[0]?==some (dF _))=true then _ else _) Q E s;rw[if_neg (by intro h;rw[hn,Bool.false_and]at h;cases h)];exact aj hQ))
noncomputable def Itl(K:ax)(a:aF):It:=
 ⟨λi H=>∃xs x,SqL K H a xs/\xs[i]?=some x,λi H x H'=>H'=H/\∀xs,SqL K H a xs->xs[i]?=some x,λi H=>∃xs,SqL K H a xs/\xs.length<=i⟩
noncomputable def Itt(K:ax)(a:aF):It:=
 ⟨λi H=>∃xs x,SqT K H a xs/\xs[i]?=some x,λi H x H'=>H'=H/\∀xs,SqT K H a xs->xs[i]?=some x,λi H=>∃xs,SqT K H a xs/\xs.length<=i⟩
noncomputable def Itr(lo:Int)(n:Nat):It:=⟨λi _=>i<n,λi H x H'=>H'=H/\x=.int (lo+i),λi _=>n<=i⟩
def ae1{P:aK}{w:aO}{K:ax}{tg:Expr}(a it:aF):tY P w K tg (Itl K a) [it] it (λi h=>h.IsListIter it a i)where
 mem:=by simp
 obj:=λi h st b hb=>by
  have e:b=it:=by simpa using hb
  subst e;obtain⟨o,e,c,d⟩:=st;exact⟨o,e,λv z=>by rw[d]at z;cases z⟩
 keep:=λi h h' st k=>st.at λo e=>k it (by simp) o e
 item:=by intro X hP hw hK hc i aE s σ H E I hf st hg;subst hP hw hK;obtain⟨xs,x,hq,hx⟩:=hg;obtain⟨its,rv,p,hz⟩:=I.list hq;obtain⟨u,hu,ru⟩:=rv.get hx;obtain⟨f0,f1,f2,f3,f4,f5⟩:=hf it (by simp);refine wpAny_pyNext_list_item st p.isList (x:=u) (by simpa using hu) λh' aQ sb=>?_;have I1:Inv X aE σ H {s with heap:=h'}:=I.turned (t':=s.toks) (λb o hb e=>(sb.2 b hb).trans e) f0 f1 f3 f4 f5;obtain⟨o,e,c,d⟩:=id aQ;exact⟨u,rfl,K1 (s:={s with heap:=h'}) e c d (by decide) ⟨x,H,I1,ru,⟨rfl,λys hy=>by rw[I.list_inj hy hq];exact hx⟩,aQ,λb hb=>(hf b hb).1⟩⟩
 done:=by intro X hP hw hK hc i aE s σ H E I hf st hg;subst hP hw hK;obtain⟨xs,hq,hx⟩:=hg;obtain⟨its,rv,p,hz⟩:=I.list hq;obtain⟨f0,f1,f2,f3,f4,f5⟩:=hf it (by simp);have hl:=rv.length;exact wpAny_pyNext_list_end (I.ok.hd hc) st p.isList (by simp;lia) λh' eb=>⟨rfl,I.turned (t':=s.toks) (λb o hb e=>eb b o hb e) f0 f1 f3 f4 f5⟩
 self:=λ_ _ _ _ _ st h=>wpAny_pyIter_listiter st h
def acq{P:aK}{w:aO}{K:ax}{tg:Expr}(a it:aF):tY P w K tg (Itt K a) [it] it (λi h=>h.IsTupleIter it a i)where
 mem:=by simp
 obj:=λi h st b hb=>by
  have e:b=it:=by simpa using hb
  subst e;obtain⟨o,e,c,d⟩:=st;exact⟨o,e,λv z=>by rw[d]at z;cases z⟩
 keep:=λi h h' st k=>st.at λo e=>k it (by simp) o e
 item:=by intro X hP hw hK hc i aE s σ H E I hf st hg;subst hP hw hK;obtain⟨xs,x,hq,hx⟩:=hg;obtain⟨its,rv,p,hz⟩:=I.tuple hq;obtain⟨u,hu,ru⟩:=rv.get hx;obtain⟨f0,f1,f2,f3,f4,f5⟩:=hf it (by simp);refine wpAny_pyNext_tuple_item st (show s.heap.IsTuple a its.toArray from p) (x:=u) (by simpa using hu) λh' aQ sb=>?_;have I1:Inv X aE σ H {s with heap:=h'}:=I.turned (t':=s.toks) (λb o hb e=>(sb.2 b hb).trans e) f0 f1 f3 f4 f5;obtain⟨o,e,c,d⟩:=id aQ;exact⟨u,rfl,K1 (s:={s with heap:=h'}) e c d (by decide) ⟨x,H,I1,ru,⟨rfl,λys hy=>by rw[I.tuple_inj hy hq];exact hx⟩,aQ,λb hb=>(hf b hb).1⟩⟩
 done:=by intro X hP hw hK hc i aE s σ H E I hf st hg;subst hP hw hK;obtain⟨xs,hq,hx⟩:=hg;obtain⟨its,rv,p,hz⟩:=I.tuple hq;obtain⟨f0,f1,f2,f3,f4,f5⟩:=hf it (by simp);have hl:=rv.length;exact wpAny_pyNext_tuple_end (I.ok.hd hc) st (show s.heap.IsTuple a its.toArray from p) (by simp;lia) λh' eb=>⟨rfl,I.turned (t':=s.toks) (λb o hb e=>eb b o hb e) f0 f1 f3 f4 f5⟩
 self:=λ_ _ _ _ _ st h=>wpAny_pyIter_tupleiter st h
def ai5{P:aK}{w:aO}{K:ax}{tg:Expr}(it:aF)(lo:Int)(n:Nat):tY P w K tg (Itr lo n) [it] it (λi h=>IsRangeIter h it (lo+(i:Nat)*1) ((n:Int)-(i:Nat)) 1)where
 mem:=by simp
 obj:=λi h st b hb=>by
  have e:b=it:=by simpa using hb
  subst e;exact⟨_,st,λv z=>by have z':Data.fields _=Data.cell v:=z;cases z'⟩
 keep:=λi h h' st k=>k it (by simp) _ st
 item:=by intro X hP hw hK hc i aE s σ H E I hf st hg;subst hP hw hK;obtain⟨f0,f1,f2,f3,f4,f5⟩:=hf it (by simp);have W:=tH.range (prog:=X.prog) (w:=X.w) (I.ok.hd hc) it lo 1 n;refine W.item i s _ _ hg st λv h' tk hv aQ kk=>?_;obtain⟨t,rfl⟩:=hv;have I1:Inv X aE σ H {s with heap:=h',toks:=tk}:=I.turned (λb o hb e=>kk b o (by simpa using hb) e) f0 f1 f3 f4 f5;refine⟨_,rfl,K1 (s:={s with heap:=h',toks:=tk}) (n:="range_iterator") aQ rfl rfl (by decide) ⟨.int<|lo+i,H,I1,⟨t,?_⟩,⟨rfl,rfl⟩,aQ,λb hb=>(hf b hb).1⟩⟩;rw[Int.mul_one]
 done:=by intro X hP hw hK hc i aE s σ H E I hf st hg;subst hP hw hK;obtain⟨f0,f1,f2,f3,f4,f5⟩:=hf it (by simp);exact wpAny_pyNext_range_end (I.ok.hd hc) st (by have:n<=i:=hg;lia) λh' eb=>⟨rfl,I.turned (t':=s.toks) (λb o hb e=>eb b o hb e) f0 f1 f3 f4 f5⟩
 self:=λ_ _ _ _ _ st h=>wpAny_pyIter_rangeiter st h
section
variable{X:Cx}{tg:Expr}
def KO(K:ax)(tl:TE):TI:=λσ H R=>tl σ H λx H1=>∃a,x=.ref a/\(∃xs,SqL K H1 a xs)/\R (Itl K a) H1
def az3(K:ax)(tl:TE):TI:=λσ H R=>tl σ H λx H1=>∃a,x=.ref a/\(∃xs,SqT K H1 a xs)/\R (Itt K a) H1
def og{l:Expr}{tl:TE}(hl:PE X l tl):PI X tg l (KO X.K tl):=by
 intro aE s σ H R I h;refine thn (hl aE s σ H _ I h) λv s1 ⟨x,H1,I1,r1,q1⟩=>?_;obtain⟨a,e,⟨xs,hq⟩,q⟩:=q1;subst e;cases r1;obtain⟨its,rv,p,hz⟩:=I1.list hq;refine eU p.isList ?_;refine⟨s1.heap.objs.size,[s1.heap.objs.size],_,_,H1,rfl,I1.kept (t':=s1.toks) λb o e=>ak _ e,ae1 a _,⟨_,bh _ rfl,rfl,rfl⟩,λb hb=>?_,q⟩;have e:b=s1.heap.objs.size:=by simpa using hb
 subst e;exact I1.fpOk (ao _)<|I1.hok.fresh<|ao _
def vx{l:Expr}{tl:TE}(hl:PE X l tl):PI X tg l (az3 X.K tl):=by
 intro aE s σ H R I h;refine thn (hl aE s σ H _ I h) λv s1 ⟨x,H1,I1,r1,q1⟩=>?_;obtain⟨a,e,⟨xs,hq⟩,q⟩:=q1;subst e;cases r1;obtain⟨its,rv,p,hz⟩:=I1.tuple hq;refine cT (show s1.heap.IsTuple a its.toArray from p) ?_;refine⟨s1.heap.objs.size,[s1.heap.objs.size],_,_,H1,rfl,I1.kept (t':=s1.toks) λb o e=>ak _ e,acq a _,⟨_,bh _ rfl,rfl,rfl⟩,λb hb=>?_,q⟩;have e:b=s1.heap.objs.size:=by simpa using hb
 subst e;exact I1.fpOk (ao _)<|I1.hok.fresh<|ao _
def anf{aE:Z (aF×Obj)}{σ:St}{H:Hp}{s:aB}{R:It->Hp->Prop}{E:aA->aB->Prop}{lo hi:Int}{t u v:uC}{tk:Nat}(I:Inv X aE σ H s)(h1:-(2^62)<=lo)(h2:lo<2^62)(h3:-(2^62)<=hi)(h4:hi<2^62)
  (q:R (Itr lo (hi-lo).toNat) H):aG (aH X.prog X.w) X.A (oA<|.ref s.heap.objs.size) (PIE X aE σ tg R) E {s with heap:=s.heap.push {cls:=.type "range",data:=.fields #[.int lo t,.int hi u,.int 1 v]},toks:=tk}:=by
 refine wpAny_pyIter_range (IsRange.new ..) (small_one h1 h2 h3 h4) ?_;have I1:Inv X aE σ H {s with heap:=s.heap.push {cls:=.type "range",data:=.fields #[.int lo t,.int hi u,.int 1 v]},toks:=tk}:=I.kept λb o e=>ak _ e;refine⟨(s.heap.push {cls:=.type "range",data:=.fields #[.int lo t,.int hi u,.int 1 v]}).objs.size,[(s.heap.push {cls:=.type "range",data:=.fields #[.int lo t,.int hi u,.int 1 v]}).objs.size],_,_,H,rfl,
  I1.kept (t':=tk) λb o e=>ak _ e,ai5 _ lo (hi-lo).toNat,?_,λb hb=>?_,q⟩
 .have e1:lo+((0:Nat):Int)*1=lo:=by simp
  have e2:(((hi-lo).toNat:Nat):Int)-((0:Nat):Int)=Builtin.Range.rangeSize lo hi 1:=by rw[rangeSize_one];split<;>lia
  show IsRangeIter _ _ (lo+((0:Nat):Int)*1) ((((hi-lo).toNat:Nat):Int)-((0:Nat):Int)) 1;rw[e1,e2];exact bh _ rfl
 .have e:b=(s.heap.push {cls:=.type "range",data:=.fields #[.int lo t,.int hi u,.int 1 v]}).objs.size:=by simpa using hb
  subst e;exact I1.fpOk (ao _)<|I1.hok.fresh<|ao _
def K0(ta:TA):TI:=λσ H R=>ta σ H λvs H1=>∃j:Int,vs=[.int j]/\-(2^62)<=j/\j<2^62/\R (Itr 0 j.toNat) H1
theorem amz{a:Expr}{ta:TA}{p pos:dQ}(hg:Gl X "range")(hm:X.mg "range" = none)(ha:PA X [a] ta)(hs:aU [a] X.env=[(false,bX a X.env)]:=by rfl):PI X tg (.Call (.Name "range" p) [a] [] pos) (K0 ta):=by
 intro aE s σ H R I h;refine Call_<|uz I hg hm boot_range<|ft (thn (ha pos aE s σ H _ I h) λus s1 ⟨vs,H1,I1,r1,q1⟩=>?_) hs rfl;obtain⟨j,e,q1,q2,q⟩:=q1;subst e;cases r1 with
 | cons r rr=>
  cases rr;obtain⟨t,rfl⟩:=r;exact call_range_1<|anf I1 (by lia) (by lia) q1 q2<|by simpa using q
def ay3(wi:TI)(g:TG)(tb:TS):TS:=λD σ H=>wi σ H λJ H1=>∃W:Nat->Nat->St->Hp->Prop,(∃m,W 0 m σ H1)/\∀i m σ H,W i m σ H->
 (J.stop i H/\D.nx σ H)\/(J.go i H/\∃N:St->Hp->Prop,(∀σ' H',N σ' H'->∃m',m'<m/\W (i+1) m' σ' H')/\∀x H',J.yld i H x H'->g x σ H' λσ2 H2=>tb {D with nx:=N,ct:=N,bk:=D.nx} σ2 H2)
noncomputable def DW(fp:Z aF)(h:Heap):Z (aF×Obj):=fp.filterMap λb=>(h.get? b).map λo=>(b,o)
def wt{fp:Z aF}{h:Heap}{b:aF}{o:Obj}(hb:b∈fp)(e:h.get? b=some o):(b,o)∈DW fp h:=List.mem_filterMap.mpr ⟨b,hb,by rw[e];rfl⟩
theorem akz{fp:Z aF}{h:Heap}{p:aF×Obj}(hp:p∈DW fp h):p.1∈fp/\h.get? p.1=some p.2:=by
 obtain⟨b,hb,e⟩:=List.mem_filterMap.mp hp;cases q:h.get? b with
 | none=>rw[q]at e;cases e
 | some o=>
  rw[q]at e;have e':(b,o)=p:=ii e;subst e';exact⟨hb,q⟩
def Inv.pinned{aE:Z (aF×Obj)}{σ:St}{H:Hp}{s:aB}{fp:Z aF}(I:Inv X aE σ H s)(hf:∀b∈fp,mM X aE H b)(ho:∀b∈fp,∃o,s.heap.get? b=some o/\∀v,o.data≠.cell v):Inv X (aE++DW fp s.heap) σ H s:=
 I.pins_of λp hp=>(a8.mp hp).elim (λz=>I.pin p<|cm _ z) λz=>by obtain⟨hb,e⟩:=akz z;obtain⟨f0,f1,f2,_⟩:=hf p.1 hb;obtain⟨o,e',d⟩:=ho p.1 hb;rw[e]at e';cases e';exact⟨e,f0,f1,f2,d⟩
def Inv.unpinned{aE pl:Z (aF×Obj)}{σ:St}{H:Hp}{s:aB}(I:Inv X (aE++pl) σ H s):Inv X aE σ H s:=I.pins_of λp hp=>I.pin p<|cm _<|g9 _ hp
theorem aur{iter:Expr}{body:Z aX}{wi:TI}{g:TG}{tb:TS}{pos:dQ}(hp:GL (aH X.prog X.w) X.A X.env X.xe)(hc:X.calm=true)(hi:PI X tg iter wi)(hg:PG X tg g)(hb:PSs X body tb)
  (hs:∀x,cB iter X.env x=aR x:=by intro _;rfl):PS X (.For tg iter body [] pos) (ay3 wi g tb):=by
 intro aE s σ H D I h;refine wpAny_For (thn (hi aE s σ H _ I h) λv s1 h1=>thn h1 λEV s2 h2=>?_) hs;obtain⟨it,fp,tn,J,H2,e,I2,T,lW,f2,W,⟨m0,w0⟩,turn⟩:=h2;subst e;have nB:∀{H':Hp},(∀b∈fp,H' b=none)->∀b∈fp,mM X aE H' b:=λhn b hb=>⟨hn b hb,(f2 b hb).2⟩;refine codeAny_forLoop_any (λn s'=>∃i σ' H',Inv X aE σ' H' s'/\tn i s'.heap/\(∀b∈fp,H' b=none)/\W i n σ' H') ?_ m0 ⟨0,σ,H2,I2,lW,λb hb=>(f2 b hb).1,w0⟩;rintro n s3 ⟨i,σ3,H3,I3,jZ,fr3,w3⟩;rcases turn i n σ3 H3 w3 with ⟨stop,qn⟩|⟨go,N,hN,step⟩
 .refine eB hp<|thn (T.done X rfl rfl rfl hc i aE s3 σ3 H3 X.xe I3 (nB fr3) jZ stop) λr s4 ⟨hr,I4⟩=>?_;subst hr;exact mS ⟨σ3,H3,I4,qn⟩
 .refine eB hp<|thn (T.item X rfl rfl rfl hc i aE s3 σ3 H3 X.xe I3 (nB fr3) jZ go) λr s4 ⟨u,hr,h4⟩=>?_;subst hr;refine eB hp<|thn h4 λ_ s5 ⟨x,H5,I5,r5,y5,uI,FA⟩=>?_;have I5':=I5.pinned (nB FA)<|T.obj _ _ uI;refine eB hp<|thn (hg _ s5 σ3 H5 x u _ I5' r5<|step x H5 y5) λ_ s6 ⟨σ6,H6,I6,q6⟩=>?_;refine eB hp<|thn (hb _ s6 σ6 H6 _ I6 q6) λf s7 q7=>?_;have again:∀{σ7:St} {H7:Hp},Inv X (aE++DW fp s5.heap) σ7 H7 s7->N σ7 H7->∃m,m<n/\∃i σ' H',Inv X aE σ' H' s7/\tn i s7.heap/\(∀b∈fp,H' b=none)/\W i m σ' H':=λ{σ7 H7} I7 n7=>by
   obtain⟨m',hm,w7⟩:=hN σ7 H7 n7;refine⟨m',hm,i+1,σ7,H7,I7.unpinned,T.keep _ _ _ uI λb hb o e=>(I7.pin (b,o)<|cm _<|cm _<|wt hb e).1,λb hb=>?_,w7⟩;obtain⟨o,e,d⟩:=T.obj _ _ uI b hb;exact(I7.pin (b,o)<|cm _<|cm _<|wt hb e).2.1
  cases f with
  | next=>obtain⟨σ7,H7,I7,n7⟩:=q7;exact again I7 n7
  | cont=>obtain⟨σ7,H7,I7,n7⟩:=q7;exact again I7 n7
  | brk=>obtain⟨σ7,H7,I7,q7⟩:=q7;exact⟨σ7,H7,I7.unpinned,q7⟩
  | ret v=>obtain⟨x7,σ7,H7,I7,r7,q7⟩:=q7;exact⟨x7,σ7,H7,I7.unpinned,r7,q7⟩
end
def qc{K:ax}{a:aF}{xs:Z V}{g:TG}{tb:TS}{D:lS}{σ:St}{H:Hp}(Pv:Nat->St->Hp->Prop)(h0:Pv 0 σ H)(hl:∀i σ H,i<=xs.length->Pv i σ H->SqL K H a xs)
  (hs:∀i x σ H,xs[i]?=some x->Pv i σ H->g x σ H λσ2 H2=>tb {D with nx:=Pv<|i+1,ct:=Pv<|i+1,bk:=D.nx} σ2 H2) (hd:∀σ H,Pv xs.length σ H->D.nx σ H) :
  ∃W:Nat->Nat->St->Hp->Prop,(∃m,W 0 m σ H)/\∀i m σ H,W i m σ H->
   ((Itl K a).stop i H/\D.nx σ H)\/((Itl K a).go i H/\∃N:St->Hp->Prop,(∀σ' H',N σ' H'->∃m',m'<m/\W (i+1) m' σ' H')/\∀x H',(Itl K a).yld i H x H'->g x σ H' λσ2 H2=>tb {D with nx:=N,ct:=N,bk:=D.nx} σ2 H2):=by
 refine⟨λi m σ H=>m=xs.length-i/\i<=xs.length/\Pv i σ H,⟨xs.length,by simp,f8 _,h0⟩,?_⟩;rintro i m σ H ⟨rfl,hi,p⟩;have q:=hl i σ H hi p;by_cases bS:i<xs.length
 .refine .inr ⟨⟨xs,xs[i],q,by simp[bS]⟩,Pv<|i+1,λσ' H' p'=>⟨xs.length-(i+1),by lia,rfl,bS,p'⟩,λx H' y=>?_⟩;obtain⟨e,y⟩:=y;subst e;exact hs i x σ _ (y xs q) p
 .have e:i=xs.length:=by lia
  subst e;exact .inl ⟨⟨xs,q,ao _⟩,hd σ H p⟩
def xp{K:ax}{a:aF}{xs:Z V}{g:TG}{tb:TS}{D:lS}{σ:St}{H:Hp}(Pv:Nat->St->Hp->Prop)(h0:Pv 0 σ H)(hl:∀i σ H,i<=xs.length->Pv i σ H->SqT K H a xs)
  (hs:∀i x σ H,xs[i]?=some x->Pv i σ H->g x σ H λσ2 H2=>tb {D with nx:=Pv<|i+1,ct:=Pv<|i+1,bk:=D.nx} σ2 H2) (hd:∀σ H,Pv xs.length σ H->D.nx σ H) :
  ∃W:Nat->Nat->St->Hp->Prop,(∃m,W 0 m σ H)/\∀i m σ H,W i m σ H->
   ((Itt K a).stop i H/\D.nx σ H)\/((Itt K a).go i H/\∃N:St->Hp->Prop,(∀σ' H',N σ' H'->∃m',m'<m/\W (i+1) m' σ' H')/\∀x H',(Itt K a).yld i H x H'->g x σ H' λσ2 H2=>tb {D with nx:=N,ct:=N,bk:=D.nx} σ2 H2):=by
 refine⟨λi m σ H=>m=xs.length-i/\i<=xs.length/\Pv i σ H,⟨xs.length,by simp,f8 _,h0⟩,?_⟩;rintro i m σ H ⟨rfl,hi,p⟩;have q:=hl i σ H hi p;by_cases bS:i<xs.length
 .refine .inr ⟨⟨xs,xs[i],q,by simp[bS]⟩,Pv<|i+1,λσ' H' p'=>⟨xs.length-(i+1),by lia,rfl,bS,p'⟩,λx H' y=>?_⟩;obtain⟨e,y⟩:=y;subst e;exact hs i x σ _ (y xs q) p
 .have e:i=xs.length:=by lia
  subst e;exact .inl ⟨⟨xs,q,ao _⟩,hd σ H p⟩
def sq{lo:Int}{n:Nat}{g:TG}{tb:TS}{D:lS}{σ:St}{H:Hp}(Pv:Nat->St->Hp->Prop)(h0:Pv 0 σ H)
  (hs:∀i σ H,i<n->Pv i σ H->g (.int<|lo+i) σ H λσ2 H2=>tb {D with nx:=Pv<|i+1,ct:=Pv<|i+1,bk:=D.nx} σ2 H2) (hd:∀σ H,Pv n σ H->D.nx σ H) :
  ∃W:Nat->Nat->St->Hp->Prop,(∃m,W 0 m σ H)/\∀i m σ H,W i m σ H->
   ((Itr lo n).stop i H/\D.nx σ H)\/((Itr lo n).go i H/\∃N:St->Hp->Prop,(∀σ' H',N σ' H'->∃m',m'<m/\W (i+1) m' σ' H')/\∀x H',(Itr lo n).yld i H x H'->g x σ H' λσ2 H2=>tb {D with nx:=N,ct:=N,bk:=D.nx} σ2 H2):=by
 refine⟨λi m σ H=>m=n-i/\i<=n/\Pv i σ H,⟨n,by simp,f8 _,h0⟩,?_⟩;rintro i m σ H ⟨rfl,hi,p⟩;by_cases bS:i<n
 .refine .inr ⟨bS,Pv<|i+1,λσ' H' p'=>⟨n-(i+1),by lia,rfl,bS,p'⟩,λx H' y=>?_⟩;obtain⟨e,y⟩:=y;subst e y;exact hs i σ _ bS p
 .have e:i=n:=by lia
  subst e;exact .inl ⟨ao _,hd σ H p⟩
abbrev R2:=V->V->Hp->VK->Prop
def OpR(X:Cx)(f:aA->aA->nP aA)(r:R2):Prop:=
 ∀(aE:Z (aF×Obj)) (s:aB) (σ:St) (H:Hp) (x y:V) (v u:aA) (Q:VK),Inv X aE σ H s->RelV x v->RelV y u->r x y H Q->
  aG (aH X.prog X.w) X.A (f v u) (EP X aE σ Q) X.xe s
def UnR(X:Cx)(f:aA->nP aA)(r:V->Hp->VK->Prop):Prop:=
 ∀(aE:Z (aF×Obj)) (s:aB) (σ:St) (H:Hp) (x:V) (v:aA) (Q:VK),Inv X aE σ H s->RelV x v->r x H Q->
  aG (aH X.prog X.w) X.A (f v) (EP X aE σ Q) X.xe s
def ub(X:Cx)(f:aA)(r:Z V->Hp->VK->Prop):Prop:=
 ∀(aE:Z (aF×Obj)) (s:aB) (σ:St) (H:Hp) (xs:Z V) (us:Z aA) (Q:VK),Inv X aE σ H s->Vals xs us->r xs H Q->
  aG (aH X.prog X.w) X.A (call f us) (EP X aE σ Q) X.xe s
def tOp(r:R2)(ta tb:TE):TE:=λσ H Q=>ta σ H λx H1=>tb σ H1 λy H2=>r x y H2 Q
def tUn(r:V->Hp->VK->Prop)(ta:TE):TE:=λσ H Q=>ta σ H λx H1=>r x H1 Q
def rI(C:Int->Int->Prop)(g:Int->Int->V):R2:=λx y H Q=>∃i j,x=.int i/\y=.int j/\C i j/\Q (g i j) H
def rI0(g:Int->Int->V):R2:=λx y H Q=>∃i j,x=.int i/\y=.int j/\Q (g i j) H
def rU(g:Int->V):V->Hp->VK->Prop:=λx H Q=>∃i,x=.int i/\Q (g i) H
section
variable{X:Cx}{a b c:Expr}{ta tb tc:TE}{pos:dQ}
def JY(ha:PE X a ta)(hb:PE X b tb){aE:Z (aF×Obj)}{s:aB}{σ:St}{H:Hp}{R:V->V->Hp->Prop}(I:Inv X aE σ H s)
  (h:ta σ H λx H1=>tb σ H1 λy H2=>R x y H2) {Q:aA->aB->Prop} {f:aA->aA->nP aA}
  (hf:∀v u s2 x y H2,Inv X aE σ H2 s2->RelV x v->RelV y u->R x y H2->aG (aH X.prog X.w) X.A (f v u) Q X.xe s2) :
  aG (aH X.prog X.w) X.A (bX a X.env) (λv s₁=>aG (aH X.prog X.w) X.A (bX b X.env) (λu s₂=>aG (aH X.prog X.w) X.A (f v u) Q X.xe s₂) X.xe s₁) X.xe s:=by
 refine thn (ha aE s σ H _ I h) λv s1 ⟨x,H1,I1,r1,q1⟩=>?_;refine thn (hb aE s1 σ H1 _ I1 q1) λu s2 ⟨y,H2,I2,r2,q2⟩=>?_;exact hf v u s2 x y H2 I2 r1 r2 q2
def mj{op:Operator}{r:R2}(ho:OpR X (cQ op) r)(ha:PE X a ta)(hb:PE X b tb):PE X (.BinOp a op b pos) (tOp r ta tb):=by intro aE s σ H Q I h;exact wpAny_BinOp<|JY ha hb I h λv u s2 x y H2 I2 rx ry q=>ho aE s2 σ H2 x y v u Q I2 rx ry q
def Aa{op:UnaryOp}{r:V->Hp->VK->Prop}(ho:UnR X (unaryOp op) r)(ha:PE X a ta):PE X (.UnaryOp op a pos) (tUn r ta):=by intro aE s σ H Q I h;exact UnaryOp_<|thn (ha aE s σ H _ I h) λv s1 ⟨x,H1,I1,r1,q1⟩=>ho aE s1 σ H1 x v Q I1 r1 q1
def opI{f:aA->aA->nP aA}{C:Int->Int->Prop}{g:Int->Int->Int}
  (tJ:∀(i j:Int)(t u:uC)(s:aB)(Q:aA->aB->Prop)(E:aA->aB->Prop),C i j->Q (.int (g i j) s.toks) {s with toks:=s.toks+1}->aG (aH X.prog X.w) X.A (f (.int i t)<|.int j u) Q E s) :
  OpR X f (rI C λi j=>.int<|g i j):=by
 intro aE s σ H x y v u Q I rx ry h;obtain⟨i,j,rfl,rfl,hc,q⟩:=h;obtain⟨t,rfl⟩:=rx;obtain⟨t',rfl⟩:=ry;exact tJ i j t t' s _ _ hc ⟨.int<|g i j,H,I.tok _,⟨_,rfl⟩,q⟩
def ayw{f:aA->aA->nP aA}{g:Int->Int->Int}
  (tJ:∀(i j:Int)(t u:uC)(s:aB)(Q:aA->aB->Prop)(E:aA->aB->Prop),Q (.int (g i j) s.toks) {s with toks:=s.toks+1}->aG (aH X.prog X.w) X.A (f (.int i t)<|.int j u) Q E s) :
  OpR X f (rI0 λi j=>.int<|g i j):=by
 intro aE s σ H x y v u Q I rx ry h;obtain⟨i,j,rfl,rfl,q⟩:=h;obtain⟨t,rfl⟩:=rx;obtain⟨t',rfl⟩:=ry;exact tJ i j t t' s _ _ ⟨.int<|g i j,H,I.tok _,⟨_,rfl⟩,q⟩
def FK{f:aA->aA->nP aA}{g:Int->Int->Bool}
  (tJ:∀(i j:Int)(t u:uC)(s:aB)(Q:aA->aB->Prop)(E:aA->aB->Prop),Q (.bool<|g i j) s->aG (aH X.prog X.w) X.A (f (.int i t)<|.int j u) Q E s) :
  OpR X f (rI0 λi j=>.bl<|g i j):=by
 intro aE s σ H x y v u Q I rx ry h;obtain⟨i,j,rfl,rfl,q⟩:=h;obtain⟨t,rfl⟩:=rx;obtain⟨t',rfl⟩:=ry;exact tJ i j t t' s _ _ ⟨.bl<|g i j,H,I,rfl,q⟩
def azf(i j:Int):Prop:=0<j/\j<1073741824
def CMul(i j:Int):Prop:=(-(2^64)<i/\i<2^64)\/(-(2^64)<j/\j<2^64)
def CMul.ok{i j:Int}(h:CMul i j):IntMulOk i j:=by
 rcases h with ⟨h1,h2⟩|⟨h1,h2⟩
 .exact .of_left<|intBits_le_64 h1 h2
 .exact .of_right<|intBits_le_64 h1 h2
def oq:OpR X (cQ .Add) (rI0 λi j=>.int<|i+j):=ayw λ_ _ _ _ _ _ _ q=>add_int q
def Eb:OpR X (cQ .Sub) (rI0 λi j=>.int<|i-j):=ayw λ_ _ _ _ _ _ _ q=>sub_int q
def Bz:OpR X (cQ .Mult) (rI CMul λi j=>.int<|i*j):=opI λ_ _ _ _ _ _ _ hc q=>mul_int q hc.ok
def wg:OpR X (cQ .FloorDiv) (rI azf λi j=>.int<|i/j):=opI λi j _ _ _ _ _ hc q=>by have h1:(0:Int)<j:=hc.1;have h2:j<1073741824:=hc.2;exact floordiv_int (by lia) (by rw[Int.fdiv_eq_ediv_of_nonneg i (by lia)];exact q)<|.inl<|PyProof.noPylong_small<|by lia
def oo:OpR X (cQ .Mod) (rI (λ_ j=>0<j) λi j=>.int<|i % j):=opI λi j _ _ _ _ _ hc q=>by have h1:(0:Int)<j:=hc;exact mod_int' (by lia)<|by rw[Int.fmod_eq_emod_of_nonneg i (by lia)];exact q
def unI{f:aA->nP aA}{g:Int->Int}
  (tJ:∀(i:Int)(t:uC)(s:aB)(Q:aA->aB->Prop)(E:aA->aB->Prop),Q (.int (g i) s.toks) {s with toks:=s.toks+1}->aG (aH X.prog X.w) X.A (f<|.int i t) Q E s) :
  UnR X f (rU λi=>.int<|g i):=by
 intro aE s σ H x v Q I rx h;obtain⟨i,rfl,q⟩:=h;obtain⟨t,rfl⟩:=rx;exact tJ i t s _ _ ⟨.int<|g i,H,I.tok _,⟨_,rfl⟩,q⟩
def Aj:UnR X (unaryOp .USub) (rU λi=>.int<|-i):=unI λ_ _ _ _ _ q=>neg_int q
end
noncomputable def ay0:V->V->Bool
 | .non,.non=>true|.non,.int _=>true|.int _,.non=>true|.non,.bl _=>true|.bl _,.non=>true|.non,.str _=>true|.str _,.non=>true
 | .int _,.int _=>true|.bl _,.bl _=>true|.str _,.str _=>true|.byt _,.byt _=>true
 | .int _,.str _=>true|.str _,.int _=>true|.bl _,.str _=>true|.str _,.bl _=>true
 | _,_=>false
def rEq:R2:=λx y H Q=>ay0 x y=true/\Q (.bl<|decide<|x=y) H
def rNe:R2:=λx y H Q=>ay0 x y=true/\Q (.bl<|!decide (x=y)) H
def alc{i j:Int}:decide (V.int i=V.int j)=(i==j):=by rw[jd];simp
def apm{i j:Bool}:decide (V.bl i=V.bl j)=(i==j):=by rw[jd];simp
def xf{i j:Str}:decide (V.str i=V.str j)=(i==j):=by rw[jd];simp
def am5{i j:Array UInt8}:decide (V.byt i=V.byt j)=(i.toList==j.toList):=by rw[jd];cases i;cases j;simp
section
variable{X:Cx}{a b c:Expr}{ta tb tc:TE}{pos:dQ}
def oy{aE:Z (aF×Obj)}{σ:St}{H:Hp}{s:aB}{Q:VK}{k k':Bool}(I:Inv X aE σ H s)(q:Q (.bl k) H)(e:k=k'):EP X aE σ Q (.bool k') s:=by subst e;exact⟨.bl k,H,I,rfl,q⟩
theorem uv:OpR X (aV .Eq) rEq:=by
 intro aE s σ H x y v u Q I rx ry h;obtain⟨hs,q⟩:=h;cases x with
 | non=>
  cases rx;cases y with
  | non=>cases ry;exact PySem.EqNone.eq_none_none (oy I q<|by simp)
  | bl j=>cases ry;exact PySem.EqNone.eq_none_bool (oy I q<|by simp)
  | int j=>obtain⟨t',rfl⟩:=ry;exact PySem.EqNone.eq_none_int (oy I q<|by simp)
  | str j=>obtain⟨t',rfl⟩:=ry;exact PySem.EqNone.eq_none_str (oy I q<|by simp)
  | _=>exact absurd (show false=true from hs) am
 | bl i=>
  cases rx;cases y with
  | non=>cases ry;exact PySem.EqNone.eq_bool_none (oy I q<|by simp)
  | bl j=>cases ry;exact eq_bool (oy I q apm)
  | str j=>obtain⟨t',rfl⟩:=ry;exact PySem.EqMixed.eq_bool_str (oy I q<|by simp)
  | _=>exact absurd (show false=true from hs) am
 | int i=>
  obtain⟨t,rfl⟩:=rx;cases y with
  | non=>cases ry;exact PySem.EqNone.eq_int_none (oy I q<|by simp)
  | int j=>obtain⟨t',rfl⟩:=ry;exact eq_int (oy I q alc)
  | str j=>obtain⟨t',rfl⟩:=ry;exact PySem.EqMixed.eq_int_str (oy I q<|by simp)
  | _=>exact absurd (show false=true from hs) am
 | str i=>
  obtain⟨t,rfl⟩:=rx;cases y with
  | non=>cases ry;exact PySem.EqNone.eq_str_none (oy I q<|by simp)
  | bl j=>cases ry;exact PySem.EqMixed.eq_str_bool (oy I q<|by simp)
  | int j=>obtain⟨t',rfl⟩:=ry;exact PySem.EqMixed.eq_str_int (oy I q<|by simp)
  | str j=>obtain⟨t',rfl⟩:=ry;exact eq_str (oy I q xf)
  | _=>exact absurd (show false=true from hs) am
 | byt i=>
  obtain⟨t,rfl⟩:=rx;cases y with
  | byt j=>obtain⟨t',rfl⟩:=ry;exact PySem.W.eq_bytes (oy I q am5)
  | _=>exact absurd (show false=true from hs) am
 | _=>cases y<;>exact absurd (show false=true from hs) am
theorem DN:OpR X (aV .NotEq) rNe:=by
 intro aE s σ H x y v u Q I rx ry h;obtain⟨hs,q⟩:=h;cases x with
 | non=>
  cases rx;cases y with
  | non=>cases ry;exact PySem.EqNone.ne_none_none (oy I q<|by simp)
  | bl j=>cases ry;exact PySem.EqNone.ne_none_bool (oy I q<|by simp)
  | int j=>obtain⟨t',rfl⟩:=ry;exact PySem.EqNone.ne_none_int (oy I q<|by simp)
  | str j=>obtain⟨t',rfl⟩:=ry;exact PySem.EqNone.ne_none_str (oy I q<|by simp)
  | _=>exact absurd (show false=true from hs) am
 | bl i=>
  cases rx;cases y with
  | non=>cases ry;exact PySem.EqNone.ne_bool_none (oy I q<|by simp)
  | bl j=>cases ry;exact ne_bool (oy I q<|congrArg not apm)
  | str j=>obtain⟨t',rfl⟩:=ry;exact PySem.EqMixed.ne_bool_str (oy I q<|by simp)
  | _=>exact absurd (show false=true from hs) am
 | int i=>
  obtain⟨t,rfl⟩:=rx;cases y with
  | non=>cases ry;exact PySem.EqNone.ne_int_none (oy I q<|by simp)
  | int j=>obtain⟨t',rfl⟩:=ry;exact ne_int (oy I q<|congrArg not alc)
  | str j=>obtain⟨t',rfl⟩:=ry;exact PySem.EqMixed.ne_int_str (oy I q<|by simp)
  | _=>exact absurd (show false=true from hs) am
 | str i=>
  obtain⟨t,rfl⟩:=rx;cases y with
  | non=>cases ry;exact PySem.EqNone.ne_str_none (oy I q<|by simp)
  | bl j=>cases ry;exact PySem.EqMixed.ne_str_bool (oy I q<|by simp)
  | int j=>obtain⟨t',rfl⟩:=ry;exact PySem.EqMixed.ne_str_int (oy I q<|by simp)
  | str j=>obtain⟨t',rfl⟩:=ry;exact ne_str (oy I q<|congrArg not xf)
  | _=>exact absurd (show false=true from hs) am
 | byt i=>
  obtain⟨t,rfl⟩:=rx;cases y with
  | byt j=>obtain⟨t',rfl⟩:=ry;exact PySem.W.ne_bytes (oy I q<|congrArg not am5)
  | _=>exact absurd (show false=true from hs) am
 | _=>cases y<;>exact absurd (show false=true from hs) am
def vQ:OpR X (aV .Lt) (rI0 λi j=>.bl<|decide<|i<j):=FK λ_ _ _ _ _ _ _ q=>lt_int q
def FW:OpR X (aV .LtE) (rI0 λi j=>.bl<|decide<|i<=j):=FK λ_ _ _ _ _ _ _ q=>le_int q
def F0:OpR X (aV .Gt) (rI0 λi j=>.bl<|decide<|j<i):=FK λ_ _ _ _ _ _ _ q=>gt_int q
def auu:OpR X (aV .GtE) (rI0 λi j=>.bl<|decide<|j<=i):=FK λ_ _ _ _ _ _ _ q=>ge_int q
theorem Em:OpR X (aV .IsNot) (λx y H Q=>y=.non/\Q (.bl<|!decide (x=.non)) H):=by
 intro aE s σ H x y v u Q I rx ry h;obtain⟨rfl,q⟩:=h;cases ry;refine isnot_none_gen<|oy I q ?_;cases x<;>first
  | (cases rx;rfl)
  | (obtain⟨t,rfl⟩:=rx;rfl)
def nr(b:Expr){op:oU}(h:op≠.In:=by decide)(h2:op≠.NotIn:=by decide):fK op b=false:=by
 have e1:(op==oU.In)=false:=by cases op<;>first|rfl|exact absurd rfl h
 have e2:(op==oU.NotIn)=false:=by cases op<;>first|rfl|exact absurd rfl h2
 cases b<;>simp[fK,e1,e2]
def wb{op:oU}{r:R2}(ho:OpR X (aV op) r)(ha:PE X a ta)(hb:PE X b tb)(hm:fK op b=false):PE X (.Compare a [op] [b] pos) (tOp r ta tb):=by intro aE s σ H Q I h;exact wpAny_Compare1 (JY ha hb I h λv u s2 x y H2 I2 rx ry q=>ho aE s2 σ H2 x y v u Q I2 rx ry q) hm
def aui(t:TE):TT:=λσ H Q=>t σ H λx H'=>∃k,x=.bl k/\Q k H'
def m7{op:oU}{r:R2}(ho:OpR X (aV op) r)(ha:PE X a ta)(hb:PE X b tb)(hm:fK op b=false):PT X (.Compare a [op] [b] pos) (aui<|tOp r ta tb):=by
 intro aE s σ H Q I h;refine uF (thn (ha aE s σ H _ I h) λv s1 ⟨x,H1,I1,r1,q1⟩=>thn (hb aE s1 σ H1 _ I1 q1) λu s2 ⟨y,H2,I2,r2,q2⟩=>
  thn (ho aE s2 σ H2 x y v u _ I2 r1 r2 q2) λc s3 ⟨z,H3,I3,r3,k,e,q3⟩=>?_) hm
 subst e;cases r3;exact gy ⟨H3,I3,q3⟩
def apc(r r':R2)(ta tb tc:TE):TE:=λσ H Q=>ta σ H λx H1=>tb σ H1 λy H2=>r x y H2 λz H3=>∃k,z=.bl k/\
 (if k=true then tc σ H3 λw' H4=>r' y w' H4 Q else Q (.bl false) H3)
theorem ah7{op yE:oU}{r r':R2}(ho:OpR X (aV op) r)(rQ:OpR X (aV yE) r')(ha:PE X a ta)(hb:PE X b tb)(hc:PE X c tc)
  (hm:lastMarks [op,yE] [b,c]=false:=by with_unfolding_all rfl):PE X (.Compare a [op,yE] [b,c] pos) (apc r r' ta tb tc):=by
 intro aE s σ H Q I h;refine Compare_chain (thn (ha aE s σ H _ I h) λv s1 ⟨x,H1,I1,r1,q1⟩=>chain_link (thn (hb aE s1 σ H1 _ I1 q1) λu s2 ⟨y,H2,I2,r2,q2⟩=>
  thn (ho aE s2 σ H2 x y v u _ I2 r1 r2 q2) λd s3 ⟨z,H3,I3,r3,k,e,q3⟩=>?_)) hm
 subst e;cases r3;refine gy ?_;cases k with
 | false=>exact ite_ff ⟨.bl false,H3,I3,rfl,q3⟩
 | true=>exact ite_tt<|chain_last<|thn (hc aE s3 σ H3 _ I3 q3) λw' s4 ⟨z',H4,I4,r4,q4⟩=>rQ aE s4 σ H4 y z' u w' Q I4 r2 r4 q4
theorem GD{op yE:oU}{r r':R2}(ho:OpR X (aV op) r)(rQ:OpR X (aV yE) r')(ha:PE X a ta)(hb:PE X b tb)(hc:PE X c tc)
  (hm:lastMarks [op,yE] [b,c]=false:=by with_unfolding_all rfl):PT X (.Compare a [op,yE] [b,c] pos) (aui<|apc r r' ta tb tc):=by
 intro aE s σ H Q I h;refine isTrue_chain (thn (ha aE s σ H _ I h) λv s1 ⟨x,H1,I1,r1,q1⟩=>test_link (thn (hb aE s1 σ H1 _ I1 q1) λu s2 ⟨y,H2,I2,r2,q2⟩=>
  thn (ho aE s2 σ H2 x y v u _ I2 r1 r2 q2) λd s3 ⟨z,H3,I3,r3,k,e,q3⟩=>?_)) hm
 subst e;cases r3;refine gy ?_;cases k with
 | false=>
  obtain⟨k',e',q'⟩:=q3;cases e';exact ite_ff ⟨H3,I3,q'⟩
 | true=>
  refine ite_tt<|test_last<|thn (hc aE s3 σ H3 _ I3 q3) λw' s4 ⟨z',H4,I4,r4,q4⟩=>thn (rQ aE s4 σ H4 y z' u w' _ I4 r2 r4 q4) λd' s5 ⟨z2,H5,I5,r5,k2,e2,q5⟩=>?_;subst e2;cases r5;exact gy ⟨H5,I5,q5⟩
def DZ:(aC:Nat)<2^63:=by rw[cE];decide
def tq:OpR X (cQ .Add) (λx y H Q=>∃i j,x=.str i/\y=.str j/\i.length+j.length<=aC/\Q (.str<|i++j) H):=by intro aE s σ H x y v u Q I rx ry h;obtain⟨i,j,rfl,rfl,hz,q⟩:=h;obtain⟨t,rfl⟩:=rx;obtain⟨t',rfl⟩:=ry;exact add_str (λt' tk=>⟨.str<|i++j,H,I.tok _,⟨_,rfl⟩,q⟩) hz
theorem va{x:V}{us:Z aA}(r:Vals [x] us):∃u,us=[u]/\RelV x u:=by
 cases r with
 | cons r1 r2=>cases r2;exact⟨_,rfl,r1⟩
theorem KY{x y:V}{us:Z aA}(r:Vals [x,y] us):∃u w',us=[u,w']/\RelV x u/\RelV y w':=by
 cases r with
 | cons r1 r2=>
  cases r2 with
  | cons r3 r4=>cases r4;exact⟨_,_,rfl,r1,r3⟩
def ale(hc:X.calm=true):ub X (.builtin "max") (λxs H Q=>∃i j,xs=[.int i,.int j]/\Q (.int (if j>i then j else i)) H):=by
 intro aE s σ H xs us Q I r h;obtain⟨i,j,rfl,q⟩:=h;obtain⟨u,w',rfl,⟨t,rfl⟩,⟨t',rfl⟩⟩:=KY r;refine max_two_ints (I.ok.hd hc) λh' tk k=>⟨_,H,I.kept k,?_,q⟩;by_cases hj:j>i
 .rw[if_pos hj,if_pos hj];exact⟨_,rfl⟩
 .rw[if_neg hj,if_neg hj];exact⟨_,rfl⟩
def als:ub X (.type "int") (λxs H Q=>(∃i,xs=[.int i]/\Q (.int i) H)\/∃k,xs=[.bl k]/\Q (.int (if k then 1 else 0)) H):=by
 intro aE s σ H xs us Q I r h;rcases h with ⟨i,rfl,q⟩|⟨k,rfl,q⟩
 .obtain⟨u,rfl,t,rfl⟩:=va r;exact call_int_int ⟨.int i,H,I,⟨_,rfl⟩,q⟩
 .obtain⟨u,rfl,r1⟩:=va r;cases r1;exact call_int_bool ⟨.int (if k then 1 else 0),H,I.tok _,⟨_,rfl⟩,q⟩
end
structure ObjM(h:Heap)(x dx C:aF)(mA:Str->Option aA):Prop where
 obj:h.get? x=some (PySem.W.instObj C dx)
 ns:h.Ns1 dx mA
 ne:dx≠x
def al7{h:Heap}{dx:aF}{mA:Str->Option aA}(n:h.Ns1 dx mA):∃od,h.get? dx=some od/\∀name,PySem.W.lookIn name od=some (mA name):=by
 obtain⟨o,es,ep,ho,hd,hk,_,hm⟩:=n;refine⟨o,ho,λname=>?_⟩;have e:=hm name;unfold nsFind findBy at e;rw[<-Array.find?_toList]at e;unfold PySem.W.lookIn;rw[hd];dsimp only;split
 .rename_i y q
  rw[q]at e;exact congrArg some e
 .rename_i q
  rw[q]at e;have a:es.toList.any (·.refKey)=false:=by rw[List.any_eq_false];intro y hy;obtain⟨z,t,dN⟩:=hk y<|Array.mem_toList_iff.mp hy;simp[fQ.refKey,dN]
  have a':¬es.toList.any (·.refKey)=true:=by rw[a];exact am
  rw[if_neg a'];exact congrArg some e
def ObjM.look{h:Heap}{x dx C:aF}{mA:Str->Option aA}(I:ObjM h x dx C mA):∃od,PySem.W.InstAt h x (PySem.W.instObj C dx) C (some od)/\∀name,PySem.W.lookIn name od=some (mA name):=
 let ⟨od,ho,hl⟩:=al7 I.ns
 ⟨od,⟨I.obj,rfl,rfl,ho⟩,hl⟩
theorem RelO.some_of{v:V}{o:Option aA}(r:RelO (some v) o):∃u,o=some u/\RelV v u:=by
 cases o with
 | none=>exact(show False from r).elim
 | some u=>exact⟨u,rfl,r⟩
section
variable{P:aK}{w:aO}{H H':Hp}{h h':Heap}{a C dx:aF}{fs fs':Z (Str×V)}
def arh(hok:HOk P w H h)(e:H a=some (.ins C dx fs)):∃mA,ObjM h a dx C mA/\(∀f,RelO (fs.lookup f)<|mA f)/\PySem.Within mA (fs.map (·.1))/\fs.length<=1000/\H dx=some (.own a):=by obtain⟨d,z,ne,ob,mA,n,r,q⟩:=(show ObjOk P w H h a (.ins C dx fs)from hok a _ e);exact⟨mA,⟨ob,n,ne⟩,r,q,z,d⟩
end
structure Cls(K:ax)(C:aF):Prop where
 pg:PySem.W.plainGet K C Str.empty=true
 hd:PySem.W.hasDictIn K C=true
 po:PySem.W.plainOver K C=true
 sa:PySem.W.findIn K (.ref C) "__setattr__" = some (some<|.builtin "object.__setattr__")
def Cls.get{K:ax}{C:aF}(c:Cls K C)(f:Str):PySem.W.plainGet K C f=true:=c.pg
section
variable{X:Cx}{aE:Z (aF×Obj)}{σ:St}{H:Hp}{s:aB}{A:Around}{E:aA->aB->Prop}{Q:aA->aB->Prop}{c:aA}{b:Bool}
inductive pM(K:ax)(H:Hp):V->aA->Prop where
 | non:pM K H .non (.type "NoneType")
 | bl (x:Bool):pM K H (.bl x) (.type "bool")
 | int (i:Int):pM K H (.int i) (.type "int")
 | str (x:Str):pM K H (.str x) (.type "str")
 | flt (x:UInt64):pM K H (.flt x) (.type "float")
 | lst {a:aF} {xs:Z V} (e:H a=some (.lst xs)):pM K H (.ref a) (.type "list")
 | frz {a:aF} {o:Obj} {xs:Z V} (e:H a=some (.frz o<|.lst xs)):pM K H (.ref a) (.type "list")
 | tup {a:aF} {xs:Z V} (e:H a=some (.tup xs)):pM K H (.ref a) (.type "tuple")
 | dK {a:aF} {kvs:Z (Key×V)} (e:H a=some (.dK kvs)):pM K H (.ref a) (.type "dict")
 | dT {a:aF} {kvs:Z (Z Key×V)} (e:H a=some (.dT kvs)):pM K H (.ref a) (.type "dict")
 | ins {a C dx:aF} {fs:Z (Str×V)} (e:H a=some (.ins C dx fs)) (cl:Cls K C) (ha:PySem.W.findIn K (.ref C) "__class__" = some (some<|.builtin "object.__class__"))
   (hn:PySem.W.specialIn K (.builtin "object.__class__") "__get__" = some (some<|.builtin "getset_descriptor.__get__")) (htk:PySem.W.takesIn K (.builtin "object.__class__")=some true)
   (hm:PySem.W.mroIn K C (.type "object")=some true):pM K H (.ref a) (.ref C)
theorem akt{x:V}{u t:aA}(I:Inv X aE σ H s)(rx:RelV x u)(ty:pM X.K H x t)(e:PySem.W.kitOne X.K t c=some b)(h:∀tk,Q (.bool b) {s with toks:=tk}) :
  aG (aH X.prog X.w) A (call (.builtin "isinstance") [u,c]) Q E s:=by
 cases ty with
 | non=>cases (show u=aA.none from rx);exact iy PySem.W.kitx_none I.kIn True.intro e (λz=>nomatch z) h
 | bl y=>cases (show u=aA.bool y from rx);exact iy PySem.W.kitx_bool I.kIn True.intro e (λz=>nomatch z) h
 | int i=>obtain⟨t,q⟩:=(show ∃t,u=aA.int i t from rx);cases q;exact iy PySem.W.kitx_int I.kIn True.intro e (λz=>nomatch z) h
 | str y=>obtain⟨t,q⟩:=(show ∃t,u=aA.str y t from rx);cases q;exact iy PySem.W.kitx_str I.kIn True.intro e (λz=>nomatch z) h
 | flt y=>obtain⟨t,q⟩:=(show ∃t,u=aA.float y t from rx);cases q;exact iy PySem.W.kitx_float I.kIn True.intro e (λz=>nomatch z) h
 | @lst a xs ea=>
  cases (show u=aA.ref a from rx);obtain⟨_,_,n,_,h1⟩:=(show ObjOk X.prog X.w H s.heap a (.lst xs)from I.hok a _ ea);exact iy PySem.W.kitx_list I.kIn ⟨_,h1,rfl⟩ e (λz=>nomatch z) h
 | @frz a ob xs ea=>
  cases (show u=aA.ref a from rx);obtain⟨_,_,_,n,_,h1⟩:=(show ObjOk X.prog X.w H s.heap a (.frz ob<|.lst xs)from I.hok a _ ea);exact iy PySem.W.kitx_list I.kIn ⟨_,h1,rfl⟩ e (λz=>nomatch z) h
 | @tup a xs ea=>
  cases (show u=aA.ref a from rx);obtain⟨_,_,_,p⟩:=(show ObjOk X.prog X.w H s.heap a (.tup xs)from I.hok a _ ea);obtain⟨o,h1,h2,_⟩:=p;exact iy PySem.W.kitx_tuple I.kIn ⟨o,h1,h2⟩ e (λz=>nomatch z) h
 | @dK a kvs ea=>
  cases (show u=aA.ref a from rx);obtain⟨_,_,vs,_,p⟩:=(show ObjOk X.prog X.w H s.heap a (.dK kvs)from I.hok a _ ea);obtain⟨o,es,ep,h1,h2,_⟩:=p;exact iy PySem.W.kitx_dict I.kIn ⟨o,h1,h2.1⟩ e (λz=>nomatch z) h
 | @dT a kvs ea=>
  cases (show u=aA.ref a from rx);obtain⟨_,_,xs,_,o,es,ep,h1,h2,_⟩:=(show ObjOk X.prog X.w H s.heap a (.dT kvs)from I.hok a _ ea);exact iy PySem.W.kitx_dict I.kIn ⟨o,h1,h2.1⟩ e (λz=>nomatch z) h
 | @ins a C dx fs ea cl ha hn htk hm=>
  cases (show u=aA.ref a from rx);obtain⟨mA,O,_⟩:=arh I.hok ea;obtain⟨od,J,_⟩:=O.look;exact iy (PySem.W.kitx_own (cl.get _) cl.hd ha hn htk hm) I.kIn J e (λz=>nomatch z) h
end
structure Room(k:Nat)(A:Around):Prop where
 hd:A.handled=none
 dp:A.depth+3*k+5<recursionLimit
 un:A.units+16*k+200<bI
def Room.mono{j k:Nat}{A:Around}(r:Room k A)(h:j<=k):Room j A:=⟨r.hd,by have:=r.dp;lia,by have:=r.un;lia⟩
theorem Room.deeper{k:Nat}{A:Around}(r:Room (k+1) A)(env:qL):Room k (A.deeper env):=
 ⟨r.hd,by have:=r.dp;show A.depth+1+3*k+5<_;lia,by have:=r.un;show A.units+3+16*k+200<_;lia⟩
theorem Room.depth{k:Nat}{A:Around}(r:Room k A):A.depth<recursionLimit:=by have:=r.dp;lia
theorem Room.units{k:Nat}{A:Around}(r:Room k A):A.units+64<bI:=by have:=r.un;lia
def Bl:TA:=λ_ H Q=>Q [] H
def xg(ta:TE)(tr:TA):TA:=λσ H Q=>ta σ H λx H1=>tr σ H1 λxs H2=>Q (x::xs) H2
section
variable{X:Cx}{e:Expr}{es:Z Expr}{te:TE}{t:TA}{pos:dQ}
def k7:PA X [] Bl:=λ_ _ _ _ H Q I h=>Calls.spliced_nil ⟨[],H,I,.nil,h⟩
def arl(ha:PE X e te)(hr:PA X es t)(hs:aU (e::es) X.env=(false,bX e X.env)::aU es X.env:=by rfl):PA X (e::es) (xg te t):=by intro pos aE s σ H Q I h;rw[hs];show aG _ _ (BU ((false,bX e X.env)::cV pos (aU es X.env))) _ _ s;refine jp<|thn (ha aE s σ H _ I h) λu s1 ⟨x,H1,I1,r1,q1⟩=>?_;exact thn (hr pos aE s1 σ H1 _ I1 q1) λus s2 ⟨xs,H2,I2,r2,q2⟩=>⟨x::xs,H2,I2,.cons r1 r2,q2⟩
def DI(t:TA):TE:=λσ H Q=>t σ H λxs H1=>xs.length<=aC/\∀p,H1 p=none->Q (.ref p) (upd H1 p<|.tup xs)
def azc(t:TA):TE:=λσ H Q=>t σ H λxs H1=>xs.length<=aC/\∀p,H1 p=none->Q (.ref p) (upd H1 p<|.lst xs)
def mw{x1}(h:PA X es t):PE X (.Tuple es x1 pos) (DI t):=by intro aE s σ H Q I hq;refine wpAny_Tuple_spliced<|thn (h pos aE s σ H _ I hq) λus s1 ⟨xs,H1,I1,r,z,q⟩=>⟨by rw[<-r.length];exact z,?_⟩;have hf:H1 s1.heap.objs.size=none:=I1.hok.fresh<|ao _;refine⟨.ref s1.heap.objs.size,upd H1 s1.heap.objs.size<|.tup xs,I1.laid (t':=s1.toks) (λb u e=>ak _ e) (ao _) ?_,rfl,q _ hf⟩;exact⟨z,us,r,⟨_,bh _ rfl,rfl,_,rfl⟩⟩
def oz(h:PA X es t):PE X (.List es pos) (azc t):=by intro aE s σ H Q I hq;refine wpAny_List_spliced<|thn (h pos aE s σ H _ I hq) λus s1 ⟨xs,H1,I1,r,z,q⟩=>⟨by rw[<-r.length];exact z,?_⟩;have hf:H1 s1.heap.objs.size=none:=I1.hok.fresh<|ao _;refine⟨.ref s1.heap.objs.size,upd H1 s1.heap.objs.size<|.lst xs,I1.laid (t':=s1.toks) (λb u e=>ak _ e) (ao _) ?_,rfl,q _ hf⟩;exact⟨z,us,0,r,bh _ rfl⟩
end
abbrev Sp:=Z V->Hp->VK->XK->Prop
abbrev CXT:=Z qL->Hp->aB->XK->aA->aB->Prop
structure FN(P:aK)(w:aO)(K:ax)(mg:Str->Option aA)(base:Heap)(A:Around)(outer:Z qL)(s:aB)(H:Hp):Prop where
 frames:A.frames=some outer
 mod:Mod K mg base
 bs:∀b o,base.get? b=some o->s.heap.get? b=some o/\H b=none
 bsz:base.objs.size<=s.heap.objs.size
 funs:s.heap.FunFrames base outer
 frf:∀b∈frs outer,H b=none
 hok:HOk P w H s.heap
 bare:gD s.gens
def CE(outer:Z qL)(P:aK)(w:aO)(H:Hp)(s:aB)(Q:VK)(u:aA)(s':aB):Prop:=
 ∃v H',s'.os=s.os/\gD s'.gens/\Un (frs outer) [] H H' s.heap s'.heap/\HOk P w H' s'.heap/\RelV v u/\Q v H'
def CR(CX:CXT)(outer:Z qL)(P:aK)(w:aO)(H:Hp)(s:aB)(Q:VK)(E:XK)(r:jY)(s':aB):Prop:=
 match r with
 | .ok (.ret u)=>CE outer P w H s Q u s'
 | .ok _=>False
 | .error e=>CX outer H s E e s'
structure qr(P:aK)(w:aO)(K:ax)(mg:Str->Option aA)(base:Heap)(CX:CXT)(k:Nat)(f:aF)(fd:cG)(ps:Z Str)(sp:Sp):Prop where
 len:∀vs H Q E,sp vs H Q E->vs.length=ps.length
 run:∀(A:Around)(outer:Z qL)(s:aB)(H:Hp)(args:Args)(us:Z aA)(vs:Z V)(Q:VK)(E:XK),Room k A->FN P w K mg base A outer s H->nS s fd args (ps.zip us)->Vals vs us->sp vs H Q E->
  cL (aH P w) A (.call (.ref f) args) (CR CX outer P w H s Q E) s
section
variable{X:Cx}{aE:Z (aF×Obj)}{σ:St}{H:Hp}{s s':aB}
def Inv.env0(I:Inv X aE σ H s):FN X.prog X.w X.K X.mg X.base X.A X.stack s H:=
 ⟨I.ok.frames,I.ok.mod,I.bs,ie I.ok.bsz I.sz,I.stack,I.stkFree,I.hok,I.bare⟩
def Inv.after{Q:VK}{u:aA}(I:Inv X aE σ H s)(h:CE X.stack X.prog X.w H s Q u s'):EP X aE σ Q u s':=by obtain⟨v,H',os,bare,un,hok,r,q⟩:=h;obtain⟨hh,g,d,t,Hj⟩:=s';obtain rfl:Hj=s.os:=os;exact⟨v,H',I.call (h':=hh) (g':=g) (d':=d) (t':=t) (ch:=[]) un hok bare λb z=>absurd z<|by simp,r,q⟩
end
def KU(sp:Sp)(xK:Z V)(E:XK)(t:TA):TE:=λσ H Q=>t σ H λvs H1=>sp (vs++xK) H1 Q E
def Binds(K:ax)(fd:cG)(ps:Z Str)(ds:Z aA):Prop:=
 ∀(s:aB)(us:Z aA),K.In s.heap->(us++ds).length=ps.length->nS s fd ⟨us,[]⟩ (ps.zip<|us++ds)
def Binds.all{K:ax}{fd:cG}{ps:Z Str}(h:∀us:Z aA,us.length=ps.length->bindArgs fd ⟨us,[]⟩=aR (ps.zip us)):Binds K fd ps []:=λs us _ hl=>by rw[fj]at hl⊢;exact .of_eq<|h us hl
def Le(CX:CXT)(X:Cx)(E:XK):Prop:=∀(aE:Z (aF×Obj)) (σ:St) (H:Hp) (s:aB) (e:aA) (s':aB),Inv X aE σ H s->CX X.stack H s E e s'->X.xe e s'
section
variable{X:Cx}{CX:CXT}{k:Nat}{f C:aF}{fd:cG}{ps:Z Str}{sp:Sp}{xK:Z V}{ds:Z aA}{E:XK}{x m:Str}{p pos gM:dQ}{e o:Expr}{es:Z Expr}{ta:TE}{t:TA}
theorem ap8{aE:Z (aF×Obj)}{σ:St}{H:Hp}{s:aB}{Q:VK}{us:Z aA}{vs:Z V}(F:qr X.prog X.w X.K X.mg X.base CX k f fd ps sp)(hr:Room k X.A)(hb:Binds X.K fd ps ds)(hd:Vals xK ds)(hx:Le CX X E)
  (I:Inv X aE σ H s) (r:Vals vs us) (h:sp (vs++xK) H Q E):aG (aH X.prog X.w) X.A (call (.ref f) us) (EP X aE σ Q) X.xe s:=by
 have r2:Vals (vs++xK) (us++ds):=r.append hd;have hl:(us++ds).length=ps.length:=by rw[<-r2.length];exact F.len _ _ _ _ h
 refine As<|fY (F.run X.A X.stack s H ⟨us,[]⟩ (us++ds) (vs++xK) Q E hr I.env0 (hb s us I.kIn hl) r2 h) λr s' hq=>?_;cases r with
 | error e=>exact hx aE σ H s e s' I hq
 | ok fl=>
  cases fl with
  | ret u=>exact I.after hq
  | next=>exact False.elim hq
  | brk=>exact False.elim hq
  | cont=>exact False.elim hq
def aqy(F:qr X.prog X.w X.K X.mg X.base CX k f fd ps sp)(hr:Room k X.A)(hg:Gl X x)(hm:X.mg x=some (.ref f))(hk:kn X.K (.ref f)=true)(hb:Binds X.K fd ps ds)(hd:Vals xK ds)(hx:Le CX X E)
  (ha:PA X (e::es) t) (mK:(x==("__debug__" : Str))=false:=by decide) (he:aU (e::es) X.env=(false,bX e X.env)::aU es X.env:=by rfl) (iE:(cV pos<|aU es X.env).any (·.1)=false:=by rfl) :
  PE X (.Call (.Name x p) (e::es) [] pos) (KU sp xK E t):=by
 intro aE s σ H Q I h;refine iz<|am3 I hg hm ?_ mK;refine PySem.W.callWith_K (h₀:=X.base) I.ok.mod.kin hk (thn (ha pos aE s σ H _ I h) λus s1 ⟨vs,H1,I1,r,q⟩=>⟨I1.kIn,?_⟩) he iE;exact ap8 F hr hb hd hx I1 r q
end
def PK(X:Cx)(Cj:Z nQ)(t:TA):Prop:=
 ∀(pos:dQ) (aE:Z (aF×Obj)) (s:aB) (σ:St) (H:Hp) (Q:Z V->Hp->Prop),Inv X aE σ H s->t σ H Q->aG (aH X.prog X.w) X.A (evalAll<|(xP pos<|mD Cj X.env).map (·.2)) (AP X aE σ Q) X.xe s
section
variable{X:Cx}{CX:CXT}{k:Nat}{f C:aF}{fd:cG}{ps ks:Z Str}{sp:Sp}{E:XK}{x m:Str}{p pos gM rC:dQ}{e o:Expr}{es:Z Expr}{Cj:Z nQ}{te ta:TE}{t tk:TA}{nm:Option Str}
def apv:PK X [] Bl:=λ_ _ _ _ H Q I h=>wpAny_evalAll_nil ⟨[],H,I,.nil,h⟩
def alr(ha:PE X e te)(hr:PK X Cj t):PK X (⟨nm,e,rC⟩::Cj) (xg te t):=by intro pos aE s σ H Q I h;show aG _ _ (evalAll ((do let v <-bX e X.env;BR pos;aR v)::(xP pos<|mD Cj X.env).map (·.2))) _ _ s;refine wpAny_evalAll_cons<|ab<|thn (ha aE s σ H _ I h) λu s1 ⟨x,H1,I1,r1,q1⟩=>ab<|fG<|aj ?_;exact thn (hr pos aE s1 σ H1 _ I1 q1) λus s2 ⟨xs,H2,I2,r2,q2⟩=>⟨x::xs,H2,I2,.cons r1 r2,q2⟩
variable{g:Z aA->Z aA->Z aA}{gV:Z V->Z V->Z V}
end
structure mh(N P:Z Str)(sc:dA):Prop where
 kind:sc.kind=.function:=by rfl
 co:sc.isCoroutine=false:=by rfl
 gen:sc.isGenerator=false:=by rfl
 nd:N.Nodup:=by decide +kernel
 pre:N.take P.length=P:=by rfl
 par:∀x∈P,sc.names.lookup x=some .local\/sc.names.lookup x=some .cell:=by decide +kernel
 nofree:∀y∈sc.names,y.2≠.free:=by decide +kernel
theorem ae5{kindOf:Str->Option aT}{x:Str}:∀{binds:Z (Str×aA)} {m:Str->Option aA},(∀v,(x,v)∉binds)->sV kindOf binds m x=m x
 | [],_,_=>rfl
 | (n,v)::r,m,h=>by
  unfold sV;rw[ae5 λw hw=>h w<|av _ hw];split
  .have:x≠n:=by rintro rfl;exact h v aq
   simp[this]
  .rfl
theorem afv{kindOf:Str->Option aT}{x:Str}:∀{binds:Z (Str×aA)} {m:Str->Option aA},(∀v,(x,v)∉binds)->sW kindOf binds m x=m x
 | [],_,_=>rfl
 | (n,v)::r,m,h=>by
  unfold sW;rw[afv λw hw=>h w<|av _ hw];split
  .rfl
  .have:x≠n:=by rintro rfl;exact h v aq
   simp[this]
theorem aeo{kindOf:Str->Option aT}{x:Str}{v:aA}:∀{P:Z Str} {vs:Z aA} {i:Nat} {m:Str->Option aA},P.Nodup->P[i]?=some x->vs[i]?=some v->kindOf x=some .local->
  sV kindOf (P.zip vs) m x=some v
 | [],_,_,_,_,h,_,_=>by simp at h
 | _::_,[],_,_,_,_,h,_=>by simp at h
 | p::P,w::vs,0,m,nd,h1,h2,hk=>by simp at h1 h2;subst h1;subst h2;show sV kindOf ((p,w)::P.zip vs) m p=_;unfold sV;rw[ae5 λv hv=>(jz.mp nd).1 (List.of_mem_zip hv).1,if_pos hk];simp
 | p::P,w::vs,i+1,m,nd,h1,h2,hk=>by show sV kindOf ((p,w)::P.zip vs) m x=_;unfold sV;exact aeo (i:=i) (jz.mp nd).2 (by simpa using h1) (by simpa using h2) hk
theorem afp{kindOf:Str->Option aT}{x:Str}{v:aA}:∀{P:Z Str} {vs:Z aA} {i:Nat} {m:Str->Option aA},P.Nodup->P[i]?=some x->vs[i]?=some v->kindOf x≠some .local->
  sW kindOf (P.zip vs) m x=some v
 | [],_,_,_,_,h,_,_=>by simp at h
 | _::_,[],_,_,_,_,h,_=>by simp at h
 | p::P,w::vs,0,m,nd,h1,h2,hk=>by simp at h1 h2;subst h1;subst h2;show sW kindOf ((p,w)::P.zip vs) m p=_;unfold sW;rw[afv λv hv=>(jz.mp nd).1 (List.of_mem_zip hv).1,if_neg hk];simp
 | p::P,w::vs,i+1,m,nd,h1,h2,hk=>by show sW kindOf ((p,w)::P.zip vs) m x=_;unfold sW;exact afp (i:=i) (jz.mp nd).2 (by simpa using h1) (by simpa using h2) hk
noncomputable def xT(N:Z Str)(vs:Z V):St:=vs.map some++List.replicate (N.length-vs.length) none
noncomputable def Bk(CX:CXT)(P:aK)(w:aO)(K:ax)(mg:Str->Option aA)(base:Heap)(N:Z Str)(qual:Str)(scope:dA)(f:aF)(cd:aA)(A:Around)(outer:Z qL)(s:aB)(H:Hp)(E:XK):Cx where
 prog:=P
 w:=w
 K:=K
 mg:=mg
 base:=base
 A:=A.deeper (jT qual scope s.heap.objs.size f cd)
 N:=N
 s₀:=s
 H₀:=H
 env:=jT qual scope s.heap.objs.size f cd
 outer:=outer
 stack:=jT qual scope s.heap.objs.size f cd::outer
 ex:=[]
 calm:=true
 fn:=λ_=>true
 pn:=[]
 xe:=λe s'=>aG (aH P w) (A.deeper<|jT qual scope s.heap.objs.size f cd) (leaving (jT qual scope s.heap.objs.size f cd) e) (λ_ BZ=>CX outer H s E e BZ) (λe' BZ=>CX outer H s E e' BZ) s'
def ahn{sc:dA}{n:Nat}{x:Str}(h:sc.names.lookup x=some .cell):∃c,(FI n sc.names []).lookup x=some c:=by have q:=PySem.W.cellsFrom_some sc.names n []<|.inl h;exact Option.isSome_iff_exists.mp q
theorem ak4{CX:CXT}{P:aK}{w:aO}{K:ax}{mg:Str->Option aA}{base:Heap}{N ps:Z Str}{qual:Str}{scope:dA}{f:aF}{cd:aA}{A:Around}{outer:Z qL}{s s1:aB}{H:Hp}{E:XK}{us:Z aA}{vs:Z V}
  (S:mh N ps scope) (hd:A.handled=none) (e0:FN P w K mg base A outer s H) (hl:vs.length=ps.length) (r:Vals vs us)
  (x:InCallC s s.heap.objs.size (sV (jT qual scope s.heap.objs.size f cd).kindOf (ps.zip us) λ_=>none) (FI (s.heap.objs.size+1) scope.names []) (sW (jT qual scope s.heap.objs.size f cd).kindOf (ps.zip us) λ_=>none) s1) :
  Inv (Bk CX P w K mg base N qual scope f cd A outer s H E) [] (xT N vs) H s1:=by
 have iE:ps.length<=N.length:=by have:=congrArg List.length S.pre;rw[bf]at this;lia
 obtain⟨h1,tk,rfl,hk⟩:=x.done;have Cb:∀b:aF,b∉(Bk CX P w K mg base N qual scope f cd A outer s H E).ex:=λb z=>absurd (show b∈([]:Z aF)from z) (by simp);refine⟨⟨e0.mod,S.kind,rfl,rfl,ao _,λy z c h1 h2=>?_,λy hy=>?_,λy c _ h=>?_,λ_=>hd,Around.frames_deeper e0.frames,.inr ⟨rfl,rfl⟩,λb z=>absurd z<|Cb b,e0.bs,e0.bsz,λb _ _=>Cb b,λb z=>absurd z<|Cb b,e0.funs,e0.frf⟩,
  rfl,e0.bare,Un.kept hk,⟨_,x.toInCall.ns,λi y v h1 h2 h3=>?_⟩,λy c h=>⟨_,x.cell y c h⟩,e0.hok.fresh<|ao _,λy c h=>?_,λp hp=>absurd (show p∈([]:Z (aF×Obj))from hp)<|by simp,e0.hok.kept hk,?_⟩
 .exact name_of_addr x.apart (ja h1)<|ja h2
 .have hy:scope.names.lookup y=some .cell\/scope.names.lookup y=some .free:=hy;rcases hy with hy|hy
  .exact ahn hy
  .exact absurd rfl<|S.nofree _<|ja hy
 .exact fh<|x.above y c<|ja h
 .have hi:i<vs.length:=by
   unfold xT at h2;by_cases hi:i<vs.length
   .exact hi
   .rw[cf (by simpa using hi)]at h2;rw[List.getElem?_replicate]at h2;split at h2<;>cases h2
  have ha:vs[i]?=some v:=by
   unfold xT at h2;rw[db (by simpa using hi),bo]at h2;cases e:vs[i]? with
   | none=>rw[e]at h2;cases h2
   | some a=>rw[e]at h2;cases h2;rfl
  obtain⟨u,hu,rv⟩:=r.get ha;have hp:ps[i]?=some y:=by rw[<-S.pre,fy<|by lia];exact h1
  have ndP:ps.Nodup:=by rw[<-S.pre];exact S.nd.sublist<|j3 _ _
  refine⟨u,rv,?_⟩;rcases S.par y (ai hp)with k|k
  .exact .inl ⟨k,aeo ndP hp hu k⟩
  .obtain⟨c,e⟩:=ahn (n:=s.heap.objs.size+1) k;refine .inr ⟨.inl k,c,e,?_⟩;have q:=x.cell y c e;rw[afp ndP hp hu (by show scope.names.lookup y≠_;rw[k];decide)]at q;exact q
 .exact e0.hok.fresh<|fh<|x.above y c<|ja h
 .unfold xT;show _=N.length;rw[au,ae,List.length_replicate];lia
theorem awk{CX:CXT}{P:aK}{w:aO}{K:ax}{mg:Str->Option aA}{base:Heap}{k:Nat}{f:aF}{name qual:Str}{params:Arguments}{body:Z aX}{scope:dA}{dV kV jV pm bQ ct oc:aA}{an od:Option aF}
  {uJ:Array (Option aA)} {N ps:Z Str} {sp:Sp} (lk:K.lookup f=some ⟨oc,od,.func<|kz name qual params body scope dV kV jV pm an bQ ct,uJ⟩) (oM:PySem.W.codeIn K bQ qual=true) (S:mh N ps scope)
  (len:∀vs H Q E,sp vs H Q E->vs.length=ps.length)
  (sP:∀(A:Around)(outer:Z qL)(s:aB)(H:Hp)(vs:Z V)(Q:VK)(E:XK),Room k (A.deeper<|jT qual scope s.heap.objs.size f bQ)->sp vs H Q E->
   ∃t,PSs (Bk CX P w K mg base N qual scope f bQ A outer s H E) body t/\t {nx:=λ_ H'=>Q .non H',rt:=Q} (xT N vs) H) :
  qr P w K mg base CX (k+1) f (kz name qual params body scope dV kV jV pm an bQ ct) ps sp:=by
 refine⟨len,λA outer s H args us vs Q E hr e0 hb r gZ=>?_⟩;have hl:=len _ _ _ _ gZ;have KX:K.In s.heap:=e0.mod.kin.keeps λb o e=>(e0.bs b o e).1;have lim:s.heap.NoLimit:=e0.mod.nolimit.keeps λb o e=>(e0.bs b o e).1;have dZ:∀y∈ps.zip us,scope.names.lookup y.1=some .local\/(scope.names.lookup y.1=some .cell/\((FI (s.heap.objs.size+1) scope.names []).lookup y.1).isSome=true):=λ⟨n,v⟩ hy=>by
  rcases S.par n (List.of_mem_zip hy).1 with q|q
  .exact .inl q
  .exact .inr ⟨q,PySem.W.cellsFrom_some _ _ _<|.inl q⟩
 refine codeAny_call_function hr.depth (KX _ _ lk) rfl S.co S.gen rfl (PySem.W.codeRec_of KX oM)<|hb _ _ _ _ ?_;refine wpAny_newFunctionEnv_cells S.kind dZ λenv he s1 x=>?_;subst he;refine⟨lim.keeps x.toInCall.keep,codeAny_func ?_⟩;obtain⟨t,ht,hq⟩:=sP A outer s H vs Q E (hr.deeper _) gZ;have I:Inv (Bk CX P w K mg base N qual scope f bQ A outer s H E) [] (xT N vs) H s1:=ak4 S hr.hd e0 hl r x;refine jf (ht [] s1 (xT N vs) H _ I hq) (λfl s' hs=>?_) λe s' hs=>hs;have fin:∀{σ':St} {H':Hp} {v:V} {u:aA},Inv (Bk CX P w K mg base N qual scope f bQ A outer s H E) [] σ' H' s'->RelV v u->Q v H'->CE outer P w H s Q u s':=
  λ{σ' H' v u} J rv q=>⟨v,H',J.os,J.bare,J.base,J.hok,rv,q⟩
 cases fl with
 | ret u=>
  obtain⟨v,σ',H',J,rv,q⟩:=hs;exact fin J rv q
 | next=>
  obtain⟨σ',H',J,q⟩:=hs;exact fin (v:=V.non) (u:=aA.none) J rfl q
 | brk=>
  obtain⟨_,_,_,q⟩:=hs;exact False.elim q
 | cont=>
  obtain⟨_,_,_,q⟩:=hs;exact False.elim q
section
variable{X:Cx}{x:Str}{p pos:dQ}{e:Expr}{es:Z Expr}{t:TA}{id T:String}{r:Z V->Hp->VK->Prop}
def tCB(r:Z V->Hp->VK->Prop)(t:TA):TE:=λσ H Q=>t σ H λvs H1=>r vs H1 Q
def ao3(hc:ub X (.builtin id) r)(hg:Gl X x)(hm:X.mg x=none)(hv:bP x=some (.builtin id))(ha:PA X (e::es) t)(hn:x≠"__name__":=by decide)(mK:(x==("__debug__" : Str))=false:=by decide)
  (he:aU (e::es) X.env=(false,bX e X.env)::aU es X.env:=by rfl) (iE:(cV pos<|aU es X.env).any (·.1)=false:=by rfl):PE X (.Call (.Name x p) (e::es) [] pos) (tCB r t):=by
 intro aE s σ H Q I h;refine iz<|uz I hg hm hv ?_ hn mK;exact PyProof.Rows.callWith_builtin1 (thn (ha pos aE s σ H _ I h) λus s1 ⟨vs,H1,I1,r1,q1⟩=>hc aE s1 σ H1 vs us Q I1 r1 q1) he iE
def amb(hc:ub X (.type T) r)(hg:Gl X x)(hm:X.mg x=none)(hv:bP x=some (.type T))(ha:PA X (e::es) t)(hn:x≠"__name__":=by decide)(mK:(x==("__debug__" : Str))=false:=by decide)
  (he:aU (e::es) X.env=(false,bX e X.env)::aU es X.env:=by rfl) (iE:(cV pos<|aU es X.env).any (·.1)=false:=by rfl):PE X (.Call (.Name x p) (e::es) [] pos) (tCB r t):=by
 intro aE s σ H Q I h;refine iz<|uz I hg hm hv ?_ hn mK;exact ft (thn (ha pos aE s σ H _ I h) λus s1 ⟨vs,H1,I1,r1,q1⟩=>hc aE s1 σ H1 vs us Q I1 r1 q1) he iE
end
end L2
namespace HT
open PySem PyProof.Rows
section
variable{prog:aK}{w:aO}{A:Around}{E:aA->aB->Prop}{s:aB}
def cat_tup{t b:aF}{vs ws:Z aA}{Q:aA->aB->Prop}(ht:mR s.heap t vs.toArray)(hb:mR s.heap b ws.toArray)(hv:vs≠[])
  (h1:ws=[]->Q (.ref t) s) (h2:ws≠[]->Q (.ref s.heap.objs.size) {s with heap:=s.heap.push {cls:=.type "tuple",data:=.seq (vs++ws).toArray}})
  (hsz:vs.length+ws.length<=aC):aG (aH prog w) A (cQ .Add (.ref t)<|.ref b) Q E s:=by
 obtain⟨⟨cls,dd,data,sl⟩,ho,hc,n,hd⟩:=id ht;obtain⟨⟨DD,xL,data2,wB⟩,yP,sO,n2,jJ⟩:=id hb;simp only at hc hd sO jJ;subst hc hd sO jJ;have e:vs.toArray++ws.toArray=(vs++ws).toArray:=by simp
 by_cases hw:ws=[]
 .exact tW ⟨_,ho,rfl⟩ ⟨_,yP,rfl⟩ lI pR PySem.F.slot_tuple_add PySem.F.entry_tuple_add (PySem.F.args_tuple_add_2 _ _)
   (tuple_addW1 t b vs.toArray ws.toArray n n2 dd xL sl wB (by simpa using hv)<|by simp[hw]) ⟨ho,yP,h1 hw⟩
 .refine tW ⟨_,ho,rfl⟩ ⟨_,yP,rfl⟩ lI pR PySem.F.slot_tuple_add PySem.F.entry_tuple_add (PySem.F.args_tuple_add_2 _ _)
   (tuple_addW2 t b vs.toArray ws.toArray n n2 dd xL sl wB (by simpa using hv) (by simpa using hw)<|by rw[bj,bj];exact hsz) ⟨ho,yP,?_⟩
  rw[e];exact h2 hw
noncomputable def sIx(n d:Nat):Option Int->Nat
 | none=>d
 | some v=>if v<0 then(v+(n:Int)).toNat else iA v.toNat n
def sIx_none(n d:Nat):sIx n d none=d:=rfl
def sIx_nat(n d k:Nat):sIx n d (some (k:Int))=iA k n:=by show(if (k:Int)<0 then((k:Int)+(n:Int)).toNat else iA (k:Int).toNat n)=iA k n;rw[if_neg (by lia),cj]
theorem auh(n d:Nat)(hd:d<=n)(o:Option Int):sIx n d o<=n:=by
 cases o with
 | none=>exact hd
 | some v=>
  show(if v<0 then(v+(n:Int)).toNat else iA v.toNat n)<=n;by_cases hv:v<0
  .rw[if_pos hv];lia
  .rw[if_neg hv];exact Nat.min_le_right _ _
def aj3(v:Int)(n d:Nat):(if v<0 then ET (v+(n:Int)) 0 else iA v (n:Int))=((sIx n d (some v):Nat):Int):=by
 show(if v<0 then ET (v+(n:Int)) 0 else iA v (n:Int))=(((if v<0 then(v+(n:Int)).toNat else iA v.toNat n):Nat):Int);by_cases hv:v<0
 .simp only[if_pos hv];lia
 .simp only[if_neg hv];lia
theorem aiz(lo hi:Option Int)(n:Nat):Builtin.Slice.sliceAdjust lo hi 1 (n:Int)=(((sIx n 0 lo:Nat):Int),((sIx n n hi:Nat):Int)):=by
 have h1:¬((1:Int)<0):=by lia
 unfold Builtin.Slice.sliceAdjust;simp only[h1,if_false];refine Prod.ext ?_ ?_
 .cases lo with
  | none=>rfl
  | some v=>exact aj3 v n 0
 .cases hi with
  | none=>rfl
  | some v=>exact aj3 v n n
def ajc(i j:Nat):Builtin.Slice.slicePlaces (i:Int) (j:Int) 1=j-i:=by
 unfold Builtin.Slice.slicePlaces;have h1:(1:Int)>0:=by lia
 simp only[h1,if_true,Int.ediv_one];split<;>lia
theorem acs{v:aA}{o:Option Int}{Q:Option Int->aB->Prop}(p:iO v o)(h:Q o s):aG (aH prog w) A (Builtin.Slice.slicePartIndex v) Q E s:=by
 cases p with
 | none=>exact slicePart_none h
 | int i t=>exact slicePart_int h
def vi{sl:aF}{vl vu:aA}{lo hi:Option Int}{n:Nat}{Q:Int×Int×Nat->aB->Prop}(hs:s.heap.IsSliceOf sl vl vu .none)(pl:iO vl lo)(pu:iO vu hi)
  (h:Q (((sIx n 0 lo:Nat):Int),1,sIx n n hi-sIx n 0 lo) s):aG (aH prog w) A (Builtin.Slice.sliceApplied (.ref sl)<|aR (n:Int)) Q E s:=by
 obtain⟨os,tN,lN,cY⟩:=id hs;unfold Builtin.Slice.sliceApplied Builtin.Slice.sliceFields;refine ab<|ab<|io tN cY (x:=vl) rfl<|ab<|io tN cY (x:=vu) rfl<|ab<|io tN cY (x:=.none) rfl<|aj ?_;refine ab<|slicePart_none ?_;show aG _ _ (if ((1:Int)==0)=true then _ else _) _ _ s;rw[if_neg (by decide)];refine ab<|acs pl<|ab<|acs pu<|ab<|aj ?_;show aG _ _ (match Builtin.Slice.sliceAdjust lo hi 1 (n:Int)with|(lo,hi)=>aR (lo,(1:Int),Builtin.Slice.slicePlaces lo hi 1)) _ _ s;rw[aiz lo hi n];show aG _ _ (aR (((sIx n 0 lo:Nat):Int),(1:Int),Builtin.Slice.slicePlaces ((sIx n 0 lo:Nat):Int) ((sIx n n hi:Nat):Int) 1)) _ _ s;rw[ajc];exact aj h
def aol(xs:Array aA)(i k:Nat):((e8 k).filterMap λ(m:Nat)=>xs[((i:Int)+(m:Int)*1).toNat]?).toArray=((xs.toList.drop i).take k).toArray:=by
 have e:(λ(m:Nat)=>xs[((i:Int)+(m:Int)*1).toNat]?)=λm=>xs[i+m]?:=by
  funext m
  have:((i:Int)+(m:Int)*1).toNat=i+m:=by lia
  rw[this]
 rw[e];have:=pick_run xs i k;rw[List.filterMap_map]at this;have e2:((λx=>xs[x]?)∘λx=>i+x)=λm=>xs[i+m]?:=rfl;rw[e2]at this;rw[this]
theorem getItem_tuple_cut{t sl:aF}{items:Array aA}{vl vu:aA}{lo hi:Option Int}{Q:aA->aB->Prop}(ht:mR s.heap t items)(hs:s.heap.IsSliceOf sl vl vu .none)(pl:iO vl lo)(pu:iO vu hi)
  (hw:¬(sIx items.size 0 lo=0/\sIx items.size items.size hi=items.size))
  (h:Q (.ref s.heap.objs.size) {s with heap:=s.heap.push {cls:=.type "tuple",data:=.seq ((items.toList.drop<|sIx items.size 0 lo).take (sIx items.size items.size hi-sIx items.size 0 lo)).toArray}})
  (hsz:items.size<=aC):aG (aH prog w) A (fD (.ref t)<|.ref sl) Q E s:=by
 have oF:sizeOk (.seq ((items.toList.drop<|sIx items.size 0 lo).take (sIx items.size items.size hi-sIx items.size 0 lo)).toArray):=by show((items.toList.drop<|sIx items.size 0 lo).take (sIx items.size items.size hi-sIx items.size 0 lo)).toArray.size<=aC;rw[bj,bf,fg,a0];lia
 have hj:sIx items.size items.size hi<=items.size:=auh _ _ (ao _) hi;obtain⟨os,tN,lN,cY⟩:=id hs;have Jp:s.TypeIs (.ref sl) "slice":=⟨os,tN,lN⟩;unfold fD;try with_reducible refine gm ?_
 first|refine ab (aj ?_)|skip
 refine ab<|BK ht.typeIs (by decide) ?_;refine ab (cr (name:=bw "__getitem__") ht.typeIs gz
  (dz gz ht.typeIs zQ ?_<|Bo _ _))
 show aG _ _ (Builtin.Tuple.tupleItemsOf (.ref t) >>= _) _ _ s;refine ab<|tupleItemsOf_ ht ?_;refine ab<|dC Jp ?_;rw[if_pos (by decide)];refine ab<|vi hs pl pu ?_;have mV:¬((((sIx items.size 0 lo:Nat):Int)==0&&(1:Int)==1&&(sIx items.size items.size hi-sIx items.size 0 lo)==items.size)=true):=by intro q;rw[gh,gh]at q;have q1:((sIx items.size 0 lo:Nat):Int)=0:=eq_of_beq q.1.1;have q2:sIx items.size items.size hi-sIx items.size 0 lo=items.size:=eq_of_beq q.2;exact hw ⟨by lia,by lia⟩
 show aG _ _ (if (((sIx items.size 0 lo:Nat):Int)==0&&(1:Int)==1&&(sIx items.size items.size hi-sIx items.size 0 lo)==items.size)=true then _ else _) _ _ s;rw[if_neg mV,aol];first
  | exact ab (m:=Builtin.Tuple.tupleExact _) (cz (aj ⟨_,rfl,aj h⟩) oF)
  | exact ab (m:=Builtin.Tuple.tupleExact _) (cz (ab<|aj<|aj ⟨_,rfl,aj h⟩) oF)
  | exact ab (ab (m:=Builtin.Tuple.tupleExact _)<|cz (aj<|aj ⟨_,rfl,aj h⟩) oF)
  | exact ab<|ab (m:=Builtin.Tuple.tupleExact _)<|cz (aj ⟨_,rfl,aj h⟩) oF
end
end HT
namespace L2
open PySem PySem.Spec PyProof.Rows
abbrev TO:=St->Hp->(Option Int->Hp->Prop)->Prop
def PO(X:Cx)(e:Option Expr)(t:TO):Prop:=
 ∀(aE:Z (aF×Obj)) (s:aB) (σ:St) (H:Hp) (Q:Option Int->Hp->Prop),Inv X aE σ H s->t σ H Q->
  aG (aH X.prog X.w) X.A (evalPart e X.env) (λu s'=>∃o H',Inv X aE σ H' s'/\iO u o/\Q o H') X.xe s
noncomputable def amg:TO:=λ_ H Q=>Q none H
noncomputable def aw9(t:TE):TO:=λσ H Q=>t σ H λx H1=>∃i,x=.int i/\Q (some i) H1
theorem act{ns:Z Int}:∀{us:Z aA},Vals (ns.map V.int) us->gB us ns:=by
 induction ns with
 | nil=>intro us r;rw[List.map_nil]at r;cases r;exact .nil
 | cons n ns ih=>
  intro us r;rw[eu]at r;cases r with
  | cons r1 r2=>
   obtain⟨t,e⟩:=r1;subst e;exact .cons n t<|ih r2
section
variable{X:Cx}{e:Expr}{te:TE}{lo hi:Option Expr}{tl th:TO}{pos p2:dQ}
def u9:PO X none amg:=by intro aE s σ H Q I h;rw[evalPart_none];exact aj ⟨none,H,I,.none,h⟩
def qf(h:PE X e te):PO X (some e) (aw9 te):=by intro aE s σ H Q I hw;rw[evalPart_some];refine thn (h aE s σ H _ I hw) λu s1 ⟨x,H1,I1,r1,q1⟩=>?_;obtain⟨i,rfl,q⟩:=q1;obtain⟨t,rfl⟩:=r1;exact⟨some i,H1,I1,.int i t,q⟩
def SlR(X:Cx)(r:V->Option Int->Option Int->Hp->VK->Prop):Prop:=
 ∀(aE:Z (aF×Obj)) (s:aB) (σ:St) (H:Hp) (x:V) (v vl vu:aA) (lo hi:Option Int) (sl:aF) (Q:VK),Inv X aE σ H s->RelV x v->s.heap.IsSliceOf sl vl vu .none->iO vl lo->iO vu hi->r x lo hi H Q->
  ∃T id,jP (.type T) "__getitem__" = aR (some<|.builtin id)/\s.TypeIs v T/\aG (aH X.prog X.w) X.A (fD v<|.ref sl) (EP X aE σ Q) X.xe s
def tSl(r:V->Option Int->Option Int->Hp->VK->Prop)(te:TE)(tl th:TO):TE:=λσ H Q=>te σ H λx H1=>tl σ H1 λl H2=>th σ H2 λu H3=>r x l u H3 Q
def qj{r:V->Option Int->Option Int->Hp->VK->Prop}(hr:SlR X r)(he:PE X e te)(hl:PO X lo tl)(hu:PO X hi th):PE X (.Subscript e (.Slice lo hi none p2) pos) (tSl r te tl th):=by intro aE s σ H Q I h;refine BA<|thn (he aE s σ H _ I h) λv s1 ⟨x,H1,I1,r1,q1⟩=>?_;refine wpAny_Slice<|thn (hl aE s1 σ H1 _ I1 q1) λvl s2 ⟨l,H2,I2,pl,q2⟩=>thn (hu aE s2 σ H2 _ I2 q2) λvu s3 ⟨u,H3,I3,pu,q3⟩=>?_;rw[evalPart_none];refine aj ?_;have I4:Inv X aE σ H3 {s3 with heap:=s3.heap.push {cls:=.type "slice",data:=.fields #[vl,vu,.none]}}:=I3.kept (t':=s3.toks) λb ob q=>ak _ q;obtain⟨T,id,hT,ht,hg⟩:=hr aE {s3 with heap:=s3.heap.push {cls:=.type "slice",data:=.fields #[vl,vu,.none]}} σ H3 x v vl vu l u s3.heap.objs.size Q I4 r1 (Heap.IsSliceOf.new ..) pl pu q3;show aG (aH X.prog X.w) X.A (pP e (.Slice lo hi none p2) v<|.ref s3.heap.objs.size) (EP X aE σ Q) X.xe {s3 with heap:=s3.heap.push {cls:=.type "slice",data:=.fields #[vl,vu,.none]}};exact tail_any (ops:=[.ref s3.heap.objs.size,v]) ht hT hg<|by with_unfolding_all rfl
noncomputable def w6(xs:Z V)(lo hi:Option Int):Z V:=(xs.drop<|HT.sIx xs.length 0 lo).take (HT.sIx xs.length xs.length hi-HT.sIx xs.length 0 lo)
def u7(xs:Z V)(lo hi:Option Int):(w6 xs lo hi).length<=xs.length:=by unfold w6;rw[bf,fg];lia
def azp(K:ax):V->Option Int->Option Int->Hp->VK->Prop:=λx lo hi H Q=>∃a xs,x=.ref a/\SqT K H a xs/\
 ¬(HT.sIx xs.length 0 lo=0/\HT.sIx xs.length xs.length hi=xs.length)/\∀p,H p=none->Q (.ref p) (upd H p<|.tup<|w6 xs lo hi)
def aua:SlR X (azp X.K):=by
 intro aE s σ H x v vl vu lo hi sl Q I rx hs pl pu h;obtain⟨a,xs,rfl,hx,hw,q⟩:=h;cases rx;obtain⟨its,r,ht,hz⟩:=I.tuple hx;have aZ:its.toArray.size=xs.length:=by rw[bj];exact r.length.symm
 refine⟨"tuple",_,gz.lookup,ht.typeIs,?_⟩;refine HT.getItem_tuple_cut ht hs pl pu (by rw[aZ];exact hw) ?_ (by rw[aZ];exact hz);rw[aZ];refine⟨.ref s.heap.objs.size,_,I.laid (t':=s.toks) (o:=.tup<|w6 xs lo hi) (λb ob q=>ak _ q) (ao _) ?_,rfl,q _<|I.hok.fresh<|ao _⟩;exact⟨ie (u7 xs lo hi) hz,_,(r.drop<|HT.sIx xs.length 0 lo).take (HT.sIx xs.length xs.length hi-HT.sIx xs.length 0 lo),mR.new _ _⟩
theorem Vals.nil_iff{xs:Z V}{us:Z aA}(r:Vals xs us):us=[]↔xs=[]:=by
 cases r with
 | nil=>simp
 | cons _ _=>simp
end
noncomputable def ixN(n:Nat)(i:Int):Option Nat:=if 0<=i then(if i<n then some i.toNat else none)else if -(n:Int)<=i then some (i+n).toNat else none
noncomputable def atI{α:Type}(xs:List α)(i:Int):Option α:=(ixN xs.length i).bind λj=>xs[j]?
def aqz{n:Nat}{i:Int}{j:Nat}(h:ixN n i=some j):seqIndex? i n=some j/\j<n/\-(n:Int)<=i/\i<n:=by
 unfold ixN at h;by_cases h0:0<=i
 .rw[if_pos h0]at h;by_cases h1:i<n
  .rw[if_pos h1]at h;have e:i.toNat=j:=ii h;exact⟨by rw[seqIndex_of h0 h1,e],by lia,by lia,h1⟩
  .rw[if_neg h1]at h;cases h
 .rw[if_neg h0]at h;by_cases h1:-(n:Int)<=i
  .rw[if_pos h1]at h;have e:(i+n).toNat=j:=ii h;exact⟨by rw[seqIndex_neg (by lia) h1,e],by lia,h1,by lia⟩
  .rw[if_neg h1]at h;cases h
theorem LK{α:Type}{xs:List α}{i:Int}{v:α}(h:atI xs i=some v):∃j,seqIndex? i xs.length=some j/\xs[j]?=some v/\j<xs.length/\-(xs.length:Int)<=i/\i<xs.length:=by
 unfold atI at h;cases e:ixN xs.length i with
 | none=>rw[e]at h;cases h
 | some j=>
  rw[e]at h;obtain⟨h1,h2,h3,h4⟩:=aqz e;exact⟨j,h1,h,h2,h3,h4⟩
def lg{α:Type}{xs:List α}{j:Nat}{v:α}(h:xs[j]?=some v):atI xs (j:Int)=some v:=by
 have hj:j<xs.length:=(af.mp h).1;have e:ixN xs.length (j:Int)=some j:=by unfold ixN;rw[if_pos (by lia),if_pos<|by lia];simp
 unfold atI;rw[e];exact h
def anm{α:Type}(xs:List α)(v:α):atI (xs++[v]) (-1)=some v:=by
 have hl:(xs++[v]).length=xs.length+1:=by simp
 have e:ixN (xs++[v]).length (-1)=some xs.length:=by
  unfold ixN;rw[hl,if_neg<|by decide,if_pos<|by lia]
  congr 1
  lia
 unfold atI;rw[e];show(xs++[v])[xs.length]?=some v;simp
def alm(b:Expr):Prop:=∀o i,lV b false o i=operate [o,i] (fD o i)
def IxR(X:Cx)(r:R2):Prop:=
 ∀(value eY:Expr) (aE:Z (aF×Obj)) (s:aB) (σ:St) (H:Hp) (x y:V) (v u:aA) (Q:VK),Inv X aE σ H s->RelV x v->RelV y u->r x y H Q->
  lV eY false v u=operate [v,u] (fD v u)->aG (aH X.prog X.w) X.A (pP value eY v u) (EP X aE σ Q) X.xe s
def MtR(X:Cx)(id:String)(r:V->Z V->Hp->VK->Prop):Prop:=
 ∀(aE:Z (aF×Obj)) (s:aB) (σ:St) (H:Hp) (x:V) (xs:Z V) (v:aA) (us:Z aA) (Q:VK),Inv X aE σ H s->RelV x v->Vals xs us->r x xs H Q->
  aG (aH X.prog X.w) X.A (call (.builtin id) (v::us)) (EP X aE σ Q) X.xe s
section
variable{X:Cx}{a b:Expr}{ta tb:TE}{pos:dQ}
def axj{r:R2}(hr:IxR X r)(ha:PE X a ta)(hb:PE X b tb)(hs:alm b):PE X (.Subscript a b pos) (tOp r ta tb):=by intro aE s σ H Q I h;exact BA<|JY ha hb I h λv u s2 x y H2 I2 rx ry q=>hr a b aE s2 σ H2 x y v u Q I2 rx ry q<|hs _ _
def ayz(K:ax):R2:=λx y H Q=>∃p xs i v,x=.ref p/\y=.int i/\SqL K H p xs/\atI xs i=some v/\Q v H
def Ky(K:ax):R2:=λx y H Q=>∃p xs i v,x=.ref p/\y=.int i/\SqT K H p xs/\atI xs i=some v/\Q v H
def azb:R2:=λx y H Q=>∃z i c,x=.str z/\y=.int i/\z.length<=aC/\atI z.cps.toList i=some c/\Q (.str ⟨#[c]⟩) H
def my:IxR X (ayz X.K):=by
 intro value eY aE s σ H x y v u Q I rx ry h hs;obtain⟨p,xs,i,z,rfl,rfl,hq,he,q⟩:=h;cases rx;obtain⟨t,rfl⟩:=ry;obtain⟨its,r,pl,hz⟩:=I.list hq;obtain⟨j,h1,h2,h3,h4,h5⟩:=LK he;obtain⟨w,ew,nD⟩:=r.get h2;have hl:=r.length;have hn:=DZ;have fin:EP X aE σ Q w s:=⟨z,H,I,nD,q⟩;by_cases h0:0<=i
 .have hj:i.toNat=j:=by
   rw[seqIndex_of h0 h5]at h1;exact ii h1
  exact item_listR pl.isList h0 (by lia) (by rw[hj];simpa using ew) fin hs
 .have hj:(i+(its.toArray.size:Int)).toNat=j:=by
   rw[seqIndex_neg (by lia) h4]at h1;rw[bj,<-hl];exact ii h1
  exact tI (x:=w) pl.isList.typeIs slot_list_getitem.lookup
   (wpAny_getItem_list_neg (Q:=λr s'=>r=w/\EP X aE σ Q r s') pl.isList (by lia) (by rw[bj]<;>lia) (by lia) (by rw[hj];simpa using ew) ⟨rfl,fin⟩) hs
def mf:IxR X (Ky X.K):=by
 intro value eY aE s σ H x y v u Q I rx ry h hs;obtain⟨p,xs,i,z,rfl,rfl,hq,he,q⟩:=h;cases rx;obtain⟨t,rfl⟩:=ry;obtain⟨its,r,pl,hz⟩:=I.tuple hq;obtain⟨j,h1,h2,h3,h4,h5⟩:=LK he;obtain⟨w,ew,nD⟩:=r.get h2;have hl:=r.length;have hn:=DZ;have fin:EP X aE σ Q w s:=⟨z,H,I,nD,q⟩;exact tI (x:=w) pl.typeIs slot_tuple_getitem.lookup
  (getItem_tuple (j:=j) (Q:=λr s'=>r=w/\EP X aE σ Q r s') pl (by lia) (by lia) (by rw[bj,<-hl];exact h1) (by simpa using ew) ⟨rfl,fin⟩) hs
def Bx:IxR X azb:=by
 intro value eY aE s σ H x y v u Q I rx ry h hs;obtain⟨z,i,c,rfl,rfl,hz,he,q⟩:=h;obtain⟨t,rfl⟩:=rx;obtain⟨t',rfl⟩:=ry;obtain⟨j,h1,h2,h3,h4,h5⟩:=LK he;have hl:z.cps.toList.length=z.length:=by simp[Str.length]
 rw[hl]at h1 h4 h5;have hn:=DZ;exact tail_any (typeIs_str s z t) slot_str_getitem.lookup (getItem_str (c:=c) (by
  have e1:decide (i < -(2^63:Int))=false:=decide_eq_false (by lia);have e2:decide (i>=2^63)=false:=decide_eq_false (by lia);rw[e1,e2,Bool.or_false]) (by rw[h1];simpa using h2) ⟨.str ⟨#[c]⟩,H,I.tok _,⟨_,rfl⟩,q⟩) hs
theorem ae6(lo hi:Option Int)(n:Nat):(dX lo hi none n).1=((HT.sIx n 0 lo:Nat):Int)/\(dX lo hi none n).2.1=((HT.sIx n n hi:Nat):Int)/\(dX lo hi none n).2.2=1:=by
 refine⟨?_,?_,rfl⟩
 .cases lo with
  | none=>simp[dX,HT.sIx]
  | some i=>
   simp only[dX,HT.sIx,Option.getD_none,show(1:Int)>0 by decide,if_true];by_cases h:i<0
   .simp only[h,if_true]<;>lia
   .simp only[h,if_false]<;>lia
 .cases hi with
  | none=>simp[dX,HT.sIx]
  | some i=>
   simp only[dX,HT.sIx,Option.getD_none,show(1:Int)>0 by decide,if_true];by_cases h:i<0
   .simp only[h,if_true]<;>lia
   .simp only[h,if_false]<;>lia
def ac5(its:Z aA)(lo hi:Option Int):slicePick its.toArray lo hi none=((its.drop<|HT.sIx its.length 0 lo).take (HT.sIx its.length its.length hi-HT.sIx its.length 0 lo)).toArray:=by obtain⟨h1,h2,h3⟩:=ae6 lo hi its.toArray.size;unfold slicePick;rw[h1,h2,h3];simp only[sliceRange_one,pick_run,bj]<;>rfl
def azj(K:ax):V->Option Int->Option Int->Hp->VK->Prop:=λx lo hi H Q=>∃a xs,x=.ref a/\SqL K H a xs/\∀p,H p=none->Q (.ref p) (upd H p<|.lst<|w6 xs lo hi)
def ug:SlR X (azj X.K):=by intro aE s σ H x v vl vu lo hi sl Q I rx hs pl pu h;obtain⟨a,xs,rfl,hx,q⟩:=h;cases rx;obtain⟨its,r,ht,hz⟩:=I.list hx;have aZ:=r.length;refine⟨"list",_,slot_list_getitem.lookup,ht.isList.typeIs,?_⟩;refine wpAny_getItem_list_slice ht.isList hs pl pu .none (by simp) ?_ (by rw[bj]<;>lia);rw[ac5,<-aZ];refine⟨.ref s.heap.objs.size,_,I.laid (t':=s.toks) (o:=.lst<|w6 xs lo hi) (λb ob q=>ak _ q) (ao _) ?_,rfl,q _<|I.hok.fresh<|ao _⟩;exact⟨ie (u7 xs lo hi) hz,_,0,(r.drop<|HT.sIx xs.length 0 lo).take (HT.sIx xs.length xs.length hi-HT.sIx xs.length 0 lo),bh _ rfl⟩
def mn:ub X (.builtin "len") (λxs H Q=>∃p ys,xs=[.ref p]/\(SqL X.K H p ys\/SqT X.K H p ys)/\Q (.int ys.length) H):=by
 intro aE s σ H xs us Q I r h;obtain⟨p,ys,rfl,hq,q⟩:=h;obtain⟨u,rfl,rx⟩:=va r;cases rx;have hn:=DZ;rcases hq with hq|hq
 .obtain⟨its,r',pl,hz⟩:=I.list hq;have aZ:=r'.length;exact Calls.call_len_list pl.isList (by simp only[bj]<;>lia) ⟨.int ys.length,H,I.tok _,⟨s.toks+1,by rw[bj,aZ]⟩,q⟩
 .obtain⟨its,r',pl,hz⟩:=I.tuple hq;have aZ:=r'.length;exact len_tuple pl (by simp only[bj]<;>lia) ⟨.int ys.length,H,I.tok _,⟨s.toks+1,by rw[bj,aZ]⟩,q⟩
def qd:ub X (.builtin "len") (λxs H Q=>∃z,xs=[.str z]/\z.length<=aC/\Q (.int z.length) H):=by intro aE s σ H xs us Q I r h;obtain⟨z,rfl,hz,q⟩:=h;obtain⟨u,rfl,t,rfl⟩:=va r;have hn:=DZ;exact len_str (by lia) ⟨.int z.length,H,I.tok _,⟨_,rfl⟩,q⟩
def wj:ub X (.type "list") (λxs H Q=>∃p ys,xs=[.ref p]/\(SqL X.K H p ys\/SqT X.K H p ys)/\∀l,H l=none->Q (.ref l) (upd H l<|.lst ys)):=by
 intro aE s σ H xs us Q I r h;obtain⟨p,ys,rfl,hq,q⟩:=h;obtain⟨u,rfl,rx⟩:=va r;cases rx;have fin:∀(its:Z aA),Vals ys its->ys.length<=aC->∀(h':Heap)(c':Nat),(∀b o',s.heap.get? b=some o'->h'.get? b=some o')->
   h'.get? s.heap.objs.size=some {cls:=.type "list",dict:=none,data:=.seq its.toArray c',slots:=#[]}->EP X aE σ Q (.ref s.heap.objs.size) {s with heap:=h'}:=λits r' hz h' c' kp e=>
  ⟨.ref s.heap.objs.size,_,I.laid (t':=s.toks) kp (ao _) (show ObjOk X.prog X.w _ h' _ (.lst ys)from ⟨hz,its,c',r',e⟩),rfl,q _<|I.hok.fresh<|ao _⟩
 rcases hq with hq|hq
 .obtain⟨its,r',pl,hz⟩:=I.list hq;have aZ:=r'.length;obtain⟨o,ho,hc,n,hd⟩:=pl.isList;exact call_list_seq p (.inl rfl) ho hc hd (λh' c' kp e=>fin its r' hz h' c' kp e)<|by simp only[bj]<;>lia
 .obtain⟨its,r',pl,hz⟩:=I.tuple hq;have aZ:=r'.length;obtain⟨o,ho,hc,n,hd⟩:=pl;exact call_list_seq p (.inr rfl) ho hc hd (λh' c' kp e=>fin its r' hz h' c' kp e)<|by simp only[bj]<;>lia
def ot:ub X (.type "tuple") (λxs H Q=>∃p ys,xs=[.ref p]/\((SqL X.K H p ys/\∀l,H l=none->Q (.ref l) (upd H l<|.tup ys))\/(SqT X.K H p ys/\Q (.ref p) H))):=by
 intro aE s σ H xs us Q I r h;obtain⟨p,ys,rfl,h⟩:=h;obtain⟨u,rfl,rx⟩:=va r;cases rx;rcases h with ⟨hq,q⟩|⟨hq,q⟩
 .obtain⟨its,r',pl,hz⟩:=I.list hq;have aZ:=r'.length;refine call_tuple_list pl.isList (λh' kp=>?_) (by simp only[bj]<;>lia);have I1:Inv X aE σ H {s with heap:=h'}:=I.kept (t':=s.toks) kp;have I2:Inv X aE σ (upd H h'.objs.size<|.tup ys) {s with heap:=h'.push {cls:=.type "tuple",data:=.seq its.toArray}}:=
   I1.laid (t':=s.toks) (λb o e=>ak _ e) (ao _) (show ObjOk X.prog X.w _ _ _ (.tup ys)from ⟨hz,its,r',mR.new _ _⟩)
  exact⟨.ref h'.objs.size,_,I2,rfl,q _<|I1.hok.fresh<|ao _⟩
 .obtain⟨its,r',pl,hz⟩:=I.tuple hq;exact call_tuple_same pl ⟨.ref p,H,I,rfl,q⟩
def tyV(K:ax)(T:String)(x:V)(H:Hp):Prop:=match x with
 | .str _=>T="str"
 | .int _=>T="int"
 | .ref p=>(T="list"/\∃xs,SqL K H p xs)\/(T="tuple"/\∃o,K.lookup p=some o/\o.cls=.type "tuple"/\o.dict=none)\/
   (T="dict"/\((∃kvs,H p=some (.dK kvs))\/∃kvs,H p=some (.dT kvs)))\/(T="set"/\∃S n,H p=some (.set S n))
 | _=>False
theorem apg{aE:Z (aF×Obj)}{σ:St}{H:Hp}{s:aB}{T:String}{x:V}{v:aA}(I:Inv X aE σ H s)(r:RelV x v)(ty:tyV X.K T x H) :
  s.TypeIs v T/\∀a,v=.ref a->∃ob,s.heap.get? a=some ob/\ob.dict=none:=by
 cases x with
 | str z=>
  obtain⟨t,rfl⟩:=r;cases (show T="str" from ty);exact⟨typeIs_str s z t,λ_ e=>nomatch e⟩
 | int i=>
  obtain⟨t,rfl⟩:=r;cases (show T="int" from ty);exact⟨typeIs_int s i t,λ_ e=>nomatch e⟩
 | ref p=>
  cases r;rcases ty with ⟨rfl,xs,hq⟩|⟨rfl,o,hk,hc,hd⟩|⟨rfl,hk⟩|⟨rfl,S,n,hk⟩
  .obtain⟨its,_,pl,_⟩:=I.list hq;refine⟨pl.isList.typeIs,λa e=>?_⟩;cases e;obtain⟨o,n,e,c,hd,_⟩:=pl;exact⟨o,e,hd⟩
  .refine⟨⟨o,I.kIn p o hk,hc⟩,λa e=>?_⟩;cases e;exact⟨o,I.kIn _ o hk,hd⟩
  .have z:∃o,s.heap.get? p=some o/\o.ExactDict:=by
    rcases hk with ⟨kvs,hk⟩|⟨kvs,hk⟩
    .obtain⟨_,_,_,_,o,_,_,e,ex,_⟩:=I.hok p _ hk;exact⟨o,e,ex⟩
    .obtain⟨_,_,_,_,o,_,_,e,ex,_⟩:=I.hok p _ hk;exact⟨o,e,ex⟩
   obtain⟨o,e,ex⟩:=z;refine⟨⟨o,e,ex.1⟩,λa e2=>?_⟩;cases e2;exact⟨o,e,ex.2.1⟩
  .obtain⟨o,_,_,_,e,ex,_⟩:=I.hok p _ hk;refine⟨⟨o,e,ex.1⟩,λa e2=>?_⟩;cases e2;exact⟨o,e,ex.2.1⟩
 | _=>exact False.elim ty
def azr(K:ax)(T:String)(r:V->Z V->Hp->VK->Prop)(to:TE):TE:=λσ H Q=>to σ H λx H1=>tyV K T x H1/\r x [] H1 Q
def tBM(K:ax)(T:String)(r:V->Z V->Hp->VK->Prop)(to:TE)(t:TA):TE:=λσ H Q=>to σ H λx H1=>tyV K T x H1/\t σ H1 λxs H2=>r x xs H2 Q
variable{o e:Expr}{es:Z Expr}{to:TE}{t:TA}{name:Str}{gM eJ:dQ}{T id:String}{r:V->Z V->Hp->VK->Prop}
def D0(pa:PlainAttrs T)(slot:Slot T name id)(HI:typeOf (.builtin id)=aR (.type "method_descriptor"))(hm:MtR X id r)(ho:PE X o to)
  (sQ:qE o name X.env (bX o X.env)=bX o X.env:=by rfl) (gK:(gM.endLine==eJ.line)=true:=by rfl):PE X (.Call (.Attribute o name gM) [] [] eJ) (azr X.K T r to):=by
 intro aE s σ H Q I h;refine wpAny_Call_method0_late sQ gK<|thn (ho aE s σ H _ I h) λv s1 ⟨x,H1,I1,r1,ty,q1⟩=>?_;obtain⟨h1,h2⟩:=apg I1 r1 ty;exact⟨T,id,pa,slot,HI,h1,h2,Calls.callWith_builtin rfl<|PySem.evalArgs_none<|hm aE s1 σ H1 x [] v [] Q I1 r1 .nil q1⟩
def ww(pa:PlainAttrs T)(slot:Slot T name id)(HI:typeOf (.builtin id)=aR (.type "method_descriptor"))(hm:MtR X id r)(ho:PE X o to)(ha:PA X (e::es) t)
  (sQ:qE o name X.env (bX o X.env)=bX o X.env:=by rfl)
  (IY:((cV eJ<|aU (e::es) X.env).all (λx=>!x.1)&&(xP eJ<|mD [] X.env).all (λx=>x.1.isSome)
   && decide ((e::es).length+([]:Z nQ).length+(if ([]:Z nQ).isEmpty then 0 else 1)<30))=true:=by rfl)
  (gK:(gM.endLine==eJ.line)=true:=by rfl) (hs:aU (e::es) X.env=(false,bX e X.env)::aU es X.env:=by rfl) (yM:(cV eJ<|aU es X.env).any (·.1)=false:=by rfl) :
  PE X (.Call (.Attribute o name gM) (e::es) [] eJ) (tBM X.K T r to t):=by
 intro aE s σ H Q I h;refine wpAny_Call_method_late sQ IY gK rfl<|thn (ho aE s σ H _ I h) λv s1 ⟨x,H1,I1,r1,ty,q1⟩=>?_;obtain⟨h1,h2⟩:=apg I1 r1 ty;refine⟨T,id,pa,slot,HI,h1,h2,?_⟩;have hA:=ha eJ aE s1 σ H1 _ I1 q1;rw[hs]at hA⊢;refine Calls.callWith_builtin (by show(false||(cV eJ<|aU es X.env).any (·.1))=false;rw[yM]<;>rfl)<|Calls.evalArgs_plain ?_;exact thn hA λus s2 ⟨vs,H2,I2,r2,q2⟩=>hm aE s2 σ H2 x vs v us Q I2 r1 r2 q2
end
def MtM(X:Cx)(id:String)(r:V->Z V->Hp->VK->Prop):Prop:=
 ∀(aE:Z (aF×Obj)) (s:aB) (σ:St) (H:Hp) (x:V) (xs:Z V) (v:aA) (us:Z aA) (Q:VK),Inv X aE σ H s->RelV x v->Vals xs us->r x xs H Q->
  aG (aH X.prog X.w) X.A (call (.builtin id) (v::us)) (EP X aE σ Q) X.xe s
theorem Vals.one:∀{x:V} {us:Z aA},Vals [x] us->∃u,us=[u]/\RelV x u
 | _,_,.cons r .nil=>⟨_,rfl,r⟩
theorem Vals.zero:∀{us:Z aA},Vals [] us->us=[]
 | _,.nil=>rfl
section
variable{X:Cx}{aE:Z (aF×Obj)}{σ:St}{H:Hp}{s:aB}{l b:aF}{xs ys zs:Z V}
def Inv.lset{its its':Z aA}{n:Nat}{f:Array aA->Array aA}{t':Nat}(I:Inv X aE σ H s)(hH:H l=some (.lst xs))
  (e:s.heap.get? l=some {cls:=.type "list",data:=.seq its.toArray n}) (hf:f its.toArray=its'.toArray) (hv:Vals ys its') (hz:ys.length<=aC) :
  Inv X aE σ (upd H l<|.lst ys) {s with heap:=s.heap.update l<|jo f,toks:=t'}:=by
 have q:=PySem.IsL.update e f;rw[hf]at q;refine I.write (x:=l) (e:=l) (by rw[hH];exact trivial) (.inl rfl) (λb' u hb hu=>(dq s.heap (jo f)<|Ne.symm hb).trans hu) ⟨_,q⟩ ?_;exact⟨hz,its',_,hv,q⟩
def Inv.lnew{its:Z aA}{t':Nat}(I:Inv X aE σ H s)(hv:Vals ys its)(hz:ys.length<=aC) :
  Inv X aE σ (upd H s.heap.objs.size<|.lst ys) {s with heap:=s.heap.push {cls:=.type "list",data:=.seq its.toArray},toks:=t'}:=
 I.laid (λ_ _ q=>ak _ q) (ao _) ⟨hz,its,0,hv,bh _ rfl⟩
theorem Inv.fresh(I:Inv X aE σ H s):H s.heap.objs.size=none:=I.hok.fresh<|ao _
def Inv.lstM(I:Inv X aE σ H s)(hH:H l=some (.lst xs)):xs.length<=aC/\∃(its:Z aA)(n:Nat),Vals xs its/\xs.length=its.length/\s.heap.get? l=some {cls:=.type "list",data:=.seq its.toArray n}:=by obtain⟨z,its,n,r,e⟩:=I.hok l _ hH;exact⟨z,its,n,r,r.length,e⟩
def aou{n:Nat}(h:n<=aC):Builtin.List.listTooLong n=false:=by unfold Builtin.List.listTooLong;exact decide_eq_false<|by lia
end
section
variable{X:Cx}
def arp:V->Z V->Hp->VK->Prop:=λx vs H Q=>∃l xs y,x=.ref l/\vs=[y]/\H l=some (.lst xs)/\xs.length<aC/\Q .non (upd H l<|.lst<|xs++[y])
def pw:MtM X "list.append" arp:=by intro aE s σ H x vs v us Q I rx rv h;obtain⟨l,xs,y,rfl,rfl,hH,hz,q⟩:=h;cases rx;obtain⟨u,rfl,ru⟩:=rv.one;obtain⟨z,its,n,r,hl,e⟩:=I.lstM hH;refine Be F.slot_list_append ⟨_,e,rfl⟩ F.entry_list_append (F.args_list_append_2 _ _) (PySem.list_append l its.toArray n u<|by rw[bj];lia) ⟨e,?_⟩;refine⟨.non,_,I.lset (its':=its++[u]) hH e (by simp) (r.append<|.cons ru .nil) ?_,rfl,q⟩;rw[au,cc];lia
def asn:V->Z V->Hp->VK->Prop:=λx vs H Q=>∃l b xs zs,x=.ref l/\vs=[.ref b]/\H l=some (.lst xs)/\H b=some (.lst zs)/\xs.length+zs.length<=aC/\Q .non (upd H l<|.lst<|xs++zs)
def aeu:MtM X "list.extend" asn:=by
 intro aE s σ H x vs v us Q I rx rv h;obtain⟨l,b,xs,zs,rfl,rfl,hH,hB,hz,q⟩:=h;cases rx;obtain⟨u,rfl,ru⟩:=rv.one;cases ru;obtain⟨z,its,n,r,hl,e⟩:=I.lstM hH;obtain⟨z2,kX,n2,r2,fJ,e2⟩:=I.lstM hB;have hsz:its.toArray.size+kX.toArray.size<=aC:=by rw[bj,bj];lia
 have CS:¬(!its.toArray.isEmpty&&Builtin.List.listTooLong (its.toArray.size+kX.toArray.size))=true:=by rw[aou hsz,Bool.and_false];exact am
 refine Be F.slot_list_extend ⟨_,e,rfl⟩ F.entry_list_extend (F.args_list_extend_2 _ _)
  (AutoSeq1.list_extend_list_list_0 l its.toArray n b kX.toArray n2 CS (by rw[bj];lia)<|by lia) ⟨e,e2,?_⟩
 refine⟨.non,_,I.lset (its':=its++kX) hH e (by simp) (r.append r2) ?_,rfl,q⟩;rw[au];lia
def azq:R2:=λx y H Q=>∃l b xs zs,x=.ref l/\y=.ref b/\H l=some (.lst xs)/\H b=some (.lst zs)/\xs.length+zs.length<=aC/\∀p,H p=none->Q (.ref p) (upd H p<|.lst<|xs++zs)
def Af:OpR X (cQ .Add) azq:=by
 intro aE s σ H x y v u Q I rx ry h;obtain⟨l,b,xs,zs,rfl,rfl,hH,hB,hz,q⟩:=h;cases rx;cases ry;obtain⟨z,its,n,r,hl,e⟩:=I.lstM hH;obtain⟨z2,kX,n2,r2,fJ,e2⟩:=I.lstM hB;refine PySem.P.add_list e e2 ?_ (by rw[bj,bj];lia);have ea:its.toArray++kX.toArray=(its++kX).toArray:=by simp
 rw[ea];exact⟨.ref _,_,I.lnew (t':=s.toks) (r.append r2)<|by rw[au];lia,rfl,q _ I.fresh⟩
end
end L2
namespace Att
open PySem PySem.W PySem.Calls PyProof.Rows
theorem abu{P:Params}{h:Heap}:∀(ns:Z Int)(vs:Z aA),WellAll P h vs (ns.map WData.int)->gB vs ns:=by
 intro ns;induction ns with
 | nil=>
  intro vs w;rw[List.map_nil]at w;cases w;exact .nil
 | cons n ns ih=>
  intro vs w;rw[eu]at w;cases w with
  | cons a b=>
   cases a;exact .cons _ _<|ih _ b
theorem amw{l:OpenLaw}{n:Nat}(hn:l.most=some n){P:Params}{h:Heap}{args:Z WData}{yA:Z aA}
  (pD:l.row.toRowW.claim.pre args=true) (HF:WellAll P h yA args) :
  ∃a vs ns,yA=[aA.ref a]/\args=[WData.list (ns.map WData.int)]/\h.get? a=some {cls:=.type "list",data:=.seq vs.toArray}/\gB vs ns/\ns.length<=n:=by
 have hsh:WShape.hasAll [] args [.list .int]=true:=(pre_splitW pD).1;have hc:l.pre.holds [] {args:=args}=true:=(pre_splitW pD).2;obtain⟨d,r,rfl,h1,h2⟩:=hasAllW_cons hsh;obtain rfl:=hasAllW_nil h2;obtain⟨xs,rfl,h3⟩:=hasW_list h1;obtain⟨ns,rfl⟩:=items_int h3;have aZ:ns.length<=n:=by
  unfold OpenLaw.pre at hc;have h4:(WTm.not<|.lt (.lit<|.int (n:Int))<|.len<|.arg 0).holds [] {args:=[.list (ns.map .int)]}=true:=by have h4:=(holds_andW hc).1;rw[hn]at h4;exact h4
  have h5:=condW_of h4<|w_not<|w_lt w_lit<|w_len_list<|w_arg rfl;rw[ae]at h5;refine Nat.le_of_not_lt λq=>?_;have q':(n:Int)<((ns.length:Nat):Int):=by lia
  first
   | (rw[decide_eq_true q']at h5;exact absurd h5<|by decide)
   | (simp at h5;lia)
 cases HF with
 | cons w1 w2=>
  cases w2;cases w1 with
  | list ho aS=>exact⟨_,_,ns,rfl,rfl,ho,abu ns _ aS,aZ⟩
def alk(l:OpenLaw)(args:Z WData):l.row.toRowW.claim.post args (.bool true) args=true:=
 postW_of (r:=l.row.toRowW) (X:=(true==true))
  (show WShape.has [] (.bool true) .bool=true by first|rfl|decide|simp[WShape.has,WShape.arms,WShape.armsAll])
  (show(WTm.eq .res<|.lit<|.bool true).value [] {args:=args,res:=some<|.bool true,after:=args}=some (.bool<|true==true)from w_eq_bool (w_res rfl) w_lit) rfl
def attach_call{l:OpenLaw}{n:Nat}{q:aK}{loose:Z Str}{XP:(Str->Option aA)->Heap->Prop}{YP:aO->Heap->Prop}{d:DefRec}
  (hn:l.most=some n) (C8:d.params.defaults=[])
  (call:∀(w:aO)(s₀ s₁:aB)(mg mb:Str->Option aA)(fa:aF)(o:Obj)(pm cd jV:aA)(a:aF)(vs:Z aA)(ns:Z Int),
   Ground q loose [] XP w s₀ mg mb s₁.heap->YP w s₁.heap->
   s₁.heap.get? fa=some o->o.data=.func (docDef d.name d.params d.body d.scope pm cd jV)->s₁.heap.CodeRec cd d.name->mg d.name=some (.ref fa)->
   s₁.heap.get? a=some {cls:=.type "list",data:=.seq vs.toArray}->gB vs ns->ns.length<=n->s₁.gens=#[]->
   cL (aH l.prog w) kS (.call (.ref fa) ⟨[.ref a],[]⟩) (λr s'=>r=.ok (.ret<|.bool true)/\OldK s₁.heap s'.heap/\s'.os=s₁.os/\gD s'.gens) s₁) :
  WalkO q loose XP YP l.row.toRowW d [] (λf vs=>PySem.call f vs):=by
 intro w s₀ s₁ mg mb G Y fa o pm cd jV dV kV ho hd oM hD uT hg args yA as pD CU hrd HF tQ;obtain rfl:dV=.none:=Dflts.none hD C8;obtain rfl:kV=.none:=Dflts.noKw hD;obtain⟨a,vs,ns,rfl,rfl,pE,rY,aZ⟩:=amw hn pD HF;refine enter_call<|fY (call w s₀ s₁ mg mb fa o pm cd jV a vs ns G Y ho (fd_plain hd) oM uT pE rY aZ hg) λr s' hq=>?_;obtain⟨rfl,h2,h3,h4⟩:=hq;exact⟨.inl ⟨.bool true,.bool true,[],rfl,λ_=>rfl,.bool true,alk l _,λ_=>⟨List.Pairwise.nil,λ_ hm=>(nomatch hm)⟩⟩,h2,h3,h4⟩
end Att
namespace L2
open PySem PySem.Spec PyProof.Rows
theorem vn:∀{vs:Z aA} {ns:Z Int},gB vs ns->Vals (ns.map V.int) vs
 | _,_,.nil=>.nil
 | _,_,.cons n t h=>.cons ⟨t,rfl⟩<|vn h
def J8(H:Hp):Prop:=∀b,H b=none\/∃o xs,H b=some (.frz o<|.lst xs)
theorem aoj{P:aK}{w:aO}{K:ax}{mg mb:Str->Option aA}{CX:CXT}{k:Nat}{fa a:aF}{fd:cG}{x:Str}{sp:Sp}{s₁:aB}{vs:Z aA}{ns:Z Int}
  (KX:K.In s₁.heap) (oH:s₁.heap.Ns aP mg) (hb:s₁.heap.Ns Bf mb) (Fg:∀x:Str,x≠"__name__"->mb x=bP x) (IE:s₁.heap.NoLimit) (hg:s₁.gens=#[])
  (ha:s₁.heap.get? a=some {cls:=.type "list",data:=.seq vs.toArray}) (hi:gB vs ns) (hl:ns.length<=aC) (hr:Room k kS)
  (F:∀base:Heap,K.In base->base.Ns aP mg->qr P w K mg base CX k fa fd [x] sp) (Db:∀(s:aB)(u:aA),nS s fd ⟨[u],[]⟩ [(x,u)])
  (gZ:∀H:Hp,J8 H->SqL K H a (ns.map V.int)->sp [.ref a] H (λv _=>v=.bl true) λ_ _ _=>False)
  (JA:∀H e s',CX [] H s₁ (λ_ _ _=>False) e s'->False) :
  cL (aH P w) kS (.call (.ref fa) ⟨[.ref a],[]⟩) (λr s'=>r=.ok (.ret<|.bool true)/\OldK s₁.heap s'.heap/\s'.os=s₁.os/\gD s'.gens) s₁:=by
 have rv:=vn hi;have Hw:=hi.length;have DC:∀H:Hp,J8 H->SqL K H a (ns.map V.int)->HOk P w H s₁.heap->(∀b,H b≠none->b=a)->(H a≠none->K.lookup a=none)->
   cL (aH P w) kS (.call (.ref fa) ⟨[.ref a],[]⟩) (λr s'=>r=.ok (.ret<|.bool true)/\OldK s₁.heap s'.heap/\s'.os=s₁.os/\gD s'.gens) s₁:=by
  intro H hO hS hok hA hK;have oT:∀{b:aF} {o:Obj},s₁.heap.get? b=some o->H b=none->(vO s₁.heap H).get? b=some o:=λe n=>aoa e n;have Cb:∀{b:aF} {o:Obj} {es:Array fQ} {ep:Nat},s₁.heap.get? b=some o->o.data=.dict es ep->H b=none:=λ{b o es ep} e d=>by
   cases q:H b with
   | none=>rfl
   | some u=>
    have e':b=a:=hA b (by rw[q];simp);subst e';rw[ha]at e;cases e;have d':Data.seq vs.toArray _=Data.dict es ep:=d;cases d'
  have EQ:∀{b:aF} {m:Str->Option aA},s₁.heap.Ns b m->(vO s₁.heap H).Ns b m:=λ{b m} ⟨o,es,ep,e,d,r⟩=>⟨o,es,ep,oT e<|Cb e d,d,r⟩;have hKb:K.In (vO s₁.heap H):=λb o e=>oT (KX b o e) (by
   cases q:H b with
   | none=>rfl
   | some u=>
    have e':b=a:=hA b (by rw[q];simp);subst e';rw[hK (by rw[q];simp)]at e;cases e)
  have hM:Mod K mg (vO s₁.heap H):=⟨hKb,EQ oH,⟨mb,EQ hb,Fg⟩,let ⟨mc,h1,h2⟩:=IE;⟨mc,EQ h1,h2⟩⟩;have e0:FN P w K mg (vO s₁.heap H) kS [] s₁ H:=⟨rfl,hM,λb o e=>asp e,Nat.le_of_eq<|ajs _ _,trivial,λb hb=>absurd (show b∈([]:Z aF)from hb)<|by simp,hok,.of_eq hg⟩;refine fY ((F _ hKb<|EQ oH).run kS [] s₁ H ⟨[.ref a],[]⟩ [.ref a] [.ref a] _ _ hr e0 (Db s₁<|.ref a) (.cons rfl .nil) (gZ H hO hS)) λr s' h=>?_;cases r with
  | error e=>exact(JA H e s' h).elim
  | ok fl=>
   cases fl with
   | next=>exact False.elim h
   | brk=>exact False.elim h
   | cont=>exact False.elim h
   | ret u=>
    obtain⟨v,H',os,bare,un,Ip,r',q⟩:=h;have q':v=.bl true:=q;subst q';obtain rfl:u=aA.bool true:=r';refine⟨rfl,OldK.of_keep λb o e=>?_,os,bare⟩;cases q:H b with
    | none=>exact un.keep b o e q (by intro z;exact absurd (show b∈([]:Z aF)from z)<|by simp) (by simp)
    | some u=>
     rcases hO b with z|⟨ob,xs,z⟩
     .rw[q]at z;cases z
     .have z2:=un.frzs b ob _ z;obtain⟨e1,_⟩:=hok b _ z;obtain⟨e2,_⟩:=Ip b _ z2;rw[e]at e1;cases e1;exact e2
 cases hk:K.lookup a with
 | some o=>
  have e:=KX a o hk;rw[ha]at e;cases e;refine DC (λ_=>none) (λ_=>.inl rfl) (.inr ⟨_,vs.toArray,_,hk,rfl,rfl,rfl,by rw[bj,Hw];exact hl,by simpa using rv⟩) (λb u z=>by have z':(none:Option HO)=some u:=z;cases z') (λb z=>absurd rfl z) λz=>absurd rfl z
 | none=>
  refine DC (λb=>if b=a then some (.frz {cls:=.type "list",data:=.seq vs.toArray}<|.lst<|ns.map V.int)else none) (λb=>?_) (.inl<|.inr ⟨{cls:=.type "list",data:=.seq vs.toArray},if_pos rfl⟩) (λb u z=>?_) (λb z=>?_) λ_=>hk
  .by_cases hb:b=a
   .exact .inr ⟨_,_,if_pos hb⟩
   .exact .inl<|if_neg hb
  .by_cases hb:b=a
   .have z':=(if_pos hb).symm.trans z;cases z';subst hb;exact⟨ha,by rw[ae];exact hl,vs,_,rv,ha⟩
   .have z':=(if_neg hb).symm.trans z;cases z'
  .by_cases hb:b=a
   .exact hb
   .exact absurd (if_neg hb) z
def walk_of{l:PySem.W.OpenLaw}{n k:Nat}{q:aK}{loose:Z Str}{XP:(Str->Option aA)->Heap->Prop}{YP:aO->Heap->Prop}{d:DefRec}{K:Params->ax}{CX:aO->CXT}{sp:aO->Sp}{x:Str}
  (hn:l.most=some n) (wR:n<=aC) (C8:d.params.defaults=[]) (hr:Room k kS)
  (hY:∀(w:aO)(h:Heap),YP w h->(K w.params).In h)
  (F:∀(w:aO)(mg:Str->Option aA)(fa:aF)(h:Heap),(K w.params).In h->h.Ns aP mg->mg d.name=some (.ref fa)->
   ∃fd:cG,(∀(s:aB)(u:aA),nS s fd ⟨[u],[]⟩ [(x,u)])/\
    ∀base:Heap,(K w.params).In base->base.Ns aP mg->qr l.prog w (K w.params) mg base (CX w) k fa fd [x] (sp w))
  (gZ:∀(w:aO)(H:Hp)(a:aF)(ns:Z Int),ns.length<=n->J8 H->SqL (K w.params) H a (ns.map V.int)->sp w [.ref a] H (λv _=>v=.bl true) λ_ _ _=>False)
  (JA:∀(w:aO)(H:Hp)(s:aB)(e:aA)(s':aB),CX w [] H s (λ_ _ _=>False) e s'->False) :
  PySem.W.WalkO q loose XP YP l.row.toRowW d [] (λf vs=>PySem.call f vs):=by
 refine Att.attach_call hn C8 λw s₀ s₁ mg mb fa o pm cd jV a vs ns G Y ho hd oM uT pE rY aZ hg=>?_;have KX:=hY w _ Y;obtain⟨fd,hb,hF⟩:=F w mg fa _ KX G.T.g uT;exact aoj KX G.T.g G.T.b G.T.builtins G.T.nolimit hg pE rY (ie aZ wR) hr hF hb (λH hO hS=>gZ w H a ns aZ hO hS) λH e s'=>JA w H s₁ e s'
noncomputable def xj(s:aX):Arguments:=match s with
 | .FunctionDef _ a _ _ _ _ _ _ _ _=>a
 | _=>{posonlyargs:=[],args:=[],vararg:=none,kwonlyargs:=[],kw_defaults:=[],kwarg:=none,defaults:=[]}
noncomputable def wf(s:aX):Z aX:=match s with
 | .FunctionDef _ _ b _ _ _ _ _ _ _=>b
 | _=>[]
noncomputable def lw(s:aX):dA:=match s with
 | .FunctionDef _ _ _ _ _ _ sc _ _ _=>sc
 | _=>{kind:=.function,names:=[],isGenerator:=false,isCoroutine:=false}
noncomputable abbrev CX0:CXT:=λ_ _ _ _ _ _=>False
noncomputable abbrev E0:XK:=λ_ _ _=>False
def auz{X:Cx}:Le CX0 X E0:=λ_ _ _ _ _ _ _ h=>h.elim
structure Fun(K:ax)(x qual:Str)(st:aX)(f:aF)(fd:cG):Prop where
 ex:∃(oc:aA)(od:Option aF)(kV jV pm:aA)(an:Option aF)(bQ ct:aA) (uJ:Array (Option aA)),
  fd=kz x qual (xj st) (wf st) (lw st) .none kV jV pm an bQ ct/\K.lookup f=some ⟨oc,od,.func fd,uJ⟩/\PySem.W.codeIn K bQ qual=true
 kp:kn K (.ref f)=true
section
variable{P:aK}{w:aO}{K:ax}{mg:Str->Option aA}{base:Heap}
def Fun.ok{x qual:Str}{st:aX}{f:aF}{fd:cG}{N ps:Z Str}{k:Nat}{sp:Sp}(F:Fun K x qual st f fd)(S:mh N ps (lw st))(len:∀vs H Q E,sp vs H Q E->vs.length=ps.length)
  (sP:∀(bQ:aA)(A:Around)(outer:Z qL)(s:aB)(H:Hp)(vs:Z V)(Q:VK)(E:XK),Room k (A.deeper<|jT qual (lw st) s.heap.objs.size f bQ)->sp vs H Q E->
   ∃t,PSs (Bk CX0 P w K mg base N qual (lw st) f bQ A outer s H E).nox (wf st) t/\t {nx:=λ_ H'=>Q .non H',rt:=Q} (xT N vs) H):qr P w K mg base CX0 (k+1) f fd ps sp:=by
 obtain⟨oc,od,kV,jV,pm,an,bQ,ct,uJ,rfl,lk,oM⟩:=F.ex;refine awk lk oM S len λA outer s H vs Q E hr gZ=>?_;obtain⟨t,h,q⟩:=sP bQ A outer s H vs Q E hr gZ;exact⟨t,h.nox,q⟩
def Fun.binds{x qual:Str}{st:aX}{f:aF}{fd:cG}{ps:Z Str}(F:Fun K x qual st f fd)
  (h:∀(kV jV pm:aA)(an:Option aF)(bQ ct:aA)(us:Z aA),us.length=ps.length->bindArgs (kz x qual (xj st) (wf st) (lw st) .none kV jV pm an bQ ct) ⟨us,[]⟩=aR (ps.zip us)):Binds K fd ps []:=by
 obtain⟨oc,od,kV,jV,pm,an,bQ,ct,uJ,rfl,lk,oM⟩:=F.ex;exact .all<|h kV jV pm an bQ ct
def avi{x qual:Str}{st:aX}{f:aF}{oc:aA}{od an:Option aF}{uJ:Array (Option aA)}{kV jV pm bQ ct:aA}(l:K.lookup f=some ⟨oc,od,.func<|kz x qual (xj st) (wf st) (lw st) .none kV jV pm an bQ ct,uJ⟩)
  (c:PySem.W.codeIn K bQ qual=true) (k:kn K (.ref f)=true):Fun K x qual st f (kz x qual (xj st) (wf st) (lw st) .none kV jV pm an bQ ct):=⟨⟨oc,od,kV,jV,pm,an,bQ,ct,uJ,rfl,l,c⟩,k⟩
end
def mr{n:Nat}(h:n<=1000):n<aC:=cy h<|by decide
section
variable{X:Cx}
def pv(i:Nat){x:Str}{pos:dQ}(hN:X.N[i]?=some x:=by rfl)(hv:Vis X.env.scope x:=by first|exact Or.inl rfl|exact Or.inr (Or.inl rfl)|exact Or.inr<|Or.inr rfl)(hd:(x==("__debug__" : Str))=false:=by decide)
  (oM:(x==("__classdict__" : Str))=false:=by decide):PE X (.Name x pos) (mN i):=apk hN hv hd oM
end
def iV{A B:Prop}(h:B):if false=true then A else B:=by rw[if_neg am];exact h
def ux{A B:Prop}(h:A):if true=true then A else B:=by rw[if_pos rfl];exact h
def qz{c A B:Prop}[Decidable c](h1:c->A)(h2:¬c->B):if c then A else B:=by
 by_cases h:c
 .rw[if_pos h];exact h1 h
 .rw[if_neg h];exact h2 h
def Same(H H':Hp):Prop:=∀b o,H b=some o->H' b=some o
def Same.refl(H:Hp):Same H H:=λ_ _ h=>h
def Same.trans{H H1 H2:Hp}(a:Same H H1)(b:Same H1 H2):Same H H2:=λc o h=>b c o<|a c o h
theorem Same.free{H H':Hp}(e:Same H H'){l:aF}(h:H' l=Option.none):H l=Option.none:=by
 cases q:H l with
 | none=>rfl
 | some o=>
  rw[e l o q]at h;cases h
end L2
namespace L3
def hid{G:Prop}(h:∀C:Prop,(G->C)->C):G:=h G id
end L3
namespace L3
open PySem PyProof.Rows
noncomputable def Ek:Bool->aI->Array aI->Nat->Nat->Nat->StateT aN nP (Option Nat):=sortPriv% PySem.Builtin.gallop
noncomputable def Gp(left:Bool)(key:aI)(arr:Array aI)(base i:Nat):StateT aN nP (Option Bool):=do
 let x <-jM arr (base+i)
 if left then lt' x key else return (<-lt' key x).map (!·)
def nh{M:Model}{A:Around}{E:aA->aB->Prop}{s:aB}{σ α:Type}{c:Prop}[Decidable c]{t e:StateT σ nP α}{Q:α->σ->Prop}{st:σ}(a:c->iW M A E s t Q st)(b:¬c->iW M A E s e Q st):iW M A E s (if c then t else e) Q st:=by
 by_cases h:c
 .rw[if_pos h];exact a h
 .rw[if_neg h];exact b h
section
variable{prog:aK}{w:aO}{A:Around}{E:aA->aB->Prop}{s:aB}
def mP(prog:aK)(w:aO)(A:Around)(s:aB)(κ:aW)(mem:aI->Prop)(lt:aI->aI->Bool):Prop:=
 ∀x y,mem x->mem y->∀(Q:Bool->aB->Prop),Q (lt x y) s->aG (aH prog w) A (lK κ x.1 y.1) Q (λ_ _=>False) s
variable{κ:aW}{mem:aI->Prop}{lt:aI->aI->Bool}
def Ed(C:mP prog w A s κ mem lt){st:aN}(hk:kindOf st=κ){x y:aI}(hx:mem x)(hy:mem y){Q:Option Bool->aN->Prop}(h:Q (some<|lt x y) st):iW (aH prog w) A E s (lt' x y) Q st:=by rw[lt'_eq];refine be<|dU ?_;rw[hk];refine be<|hU<|kc<|jf (C x y hx hy (λb s'=>s'=s/\b=lt x y) ⟨rfl,rfl⟩) (λb s' hb=>⟨hb.1,?_⟩) λ_ _ z=>z.elim;rw[hb.2];exact bv h
theorem aiu(C:mP prog w A s κ mem lt){st:aN}(hk:kindOf st=κ){left:Bool}{key:aI}{arr:Array aI}{base i:Nat}{x:aI}(hx:arr[base+i]?=some x)(hm:mem x)(hy:mem key){Q:Option Bool->aN->Prop}(h:Q (some (if left=true then lt x key else !lt key x)) st) :
  iW (aH prog w) A E s (Gp left key arr base i) Q st:=by
 unfold Gp;rw[elem'_eq,hx];refine be<|bv ?_;cases left with
 | true=>exact Ed C hk hm hy h
 | false=>exact be<|Ed C hk hy hm<|bv h
theorem acm(C:mP prog w A s κ mem lt){st:aN}(hk:kindOf st=κ){left:Bool}{key:aI}{arr:Array aI}{base n hint:Nat}(dN:mem key)
  (Jn:∀i,i<n->∃x,arr[base+i]?=some x/\mem x) (hh:hint<n) (B:Nat->Bool) (hB:∀i x,i<n->arr[base+i]?=some x->B i=(if left=true then lt x key else !lt key x))
  (mono:∀i j,i<=j->j<n->B j=true->B i=true) {Q:Option Nat->aN->Prop} (h:∀k,k<=n->(∀i,i<k->B i=true)->(∀i,k<=i->i<n->B i=false)->Q (some k) st) :
  iW (aH prog w) A E s (Ek left key arr base n hint) Q st:=by
 have ask:∀(i:Nat)(Q:Option Bool->aN->Prop),i<n->Q (some<|B i) st->iW (aH prog w) A E s (Gp left key arr base i) Q st:=λi Q hi q=>by obtain⟨x,hx,hm⟩:=Jn i hi;rw[hB i x hi hx]at q;exact aiu C hk hx hm dN q
 have fin:∀(lo hi:Nat) ,lo<=hi->hi<=n->(∀i,i<lo->B i=true)->(∀i,hi<=i->i<n->B i=false)->
   iW (aH prog w) A E s (do
    let mut l:=lo
    let mut r:=hi
    for _ in [0:n] do
     if l>=r then break
     let Ht:=l+(r-l)/2
     let some up <-Gp left key arr base Ht|return none
     if up then l:=Ht+1 else r:=Ht
    return some r) Q st:=by
  intro lo hi h1 h2 h3 h4;refine be (jb (gv (I:=λx c aQ=>aQ=st/\∃l r,c=(none,l,r)/\l<=r/\r<=n/\r-l<=n-x/\(∀i,i<l->B i=true)/\(∀i,r<=i->i<n->B i=false))
   (Q:=λc aQ=>aQ=st/\∃l r,c=(none,l,r)/\l=r/\r<=n/\(∀i,i<l->B i=true)/\(∀i,r<=i->i<n->B i=false)) ?step ?fin ?init) ?post)
  case init=>exact⟨rfl,(l0 lo hi ⟨rfl,h1,h2,by omega,h3,h4⟩)⟩
  case fin=>
   intro c aQ bV;refine hid λCg bW=>?_;obtain⟨rfl,l,r,rfl,a1,a2,a3,a4,a5⟩:=bV;refine bW ?_;exact⟨rfl,(l0 l r ⟨rfl,by omega,a2,a4,a5⟩)⟩
  case post=>
   intro c aQ bV;refine hid λCg bW=>?_;obtain⟨rfl,l,r,rfl,rfl,a2,a4,a5⟩:=bV;refine bW ?_;exact bv<|h l a2 a4 a5
  case step=>
   intro x c aQ _ hx bV;refine hid λCg bW=>?_;obtain⟨rfl,l,r,rfl,a1,a2,a3,a4,a5⟩:=bV;refine bW ?_;dsimp only;by_cases oK:l>=r
   .rw[if_pos oK];exact bv ⟨rfl,(l0 l r ⟨rfl,by omega,a2,a4,a5⟩)⟩
   .rw[if_neg oK];refine be<|ask _ _ (by omega) ?_;cases hb:B (l+(r-l)/2)with
    | true=>exact bv ⟨rfl,(l0 (l+(r-l)/2+1) r ⟨rfl,by omega,a2,by omega,λi hi=>mono _ _ (show i<=l+(r-l)/2 by omega) (by omega) hb,a5⟩)⟩
    | false=>
     refine bv ⟨rfl,(l0 l (l+(r-l)/2) ⟨rfl,by omega,by omega,by omega,a4,λi hi hn=>?_⟩)⟩;cases A2:B i with
     | false=>rfl
     | true=>rw[mono _ _ hi hn A2]at hb;cases hb
 refine be<|ask hint _ hh ?_;cases qC:B hint with
 | true=>
  dsimp only;simp only[if_true];refine be (jb (gv (I:=λx c aQ=>aQ=st/\∃lo eF,c=(none,lo,eF)/\x+1<=eF/\lo<eF/\hint+lo<n/\B (hint+lo)=true)
   (Q:=λc aQ=>aQ=st/\∃lo eF,c=(none,lo,eF)/\lo<eF/\hint+lo<n/\B (hint+lo)=true/\(n-hint<=eF\/(eF<n-hint/\B (hint+eF)=false))) ?step ?fin ?init) ?post)
  case init=>exact⟨rfl,(l0 0 1 ⟨rfl,by omega,by omega,by omega,qC⟩)⟩
  case fin=>
   intro c aQ bV;refine hid λCg bW=>?_;obtain⟨rfl,lo,eF,rfl,a1,a2,a3,a4⟩:=bV;refine bW ?_;exact⟨rfl,(l0 lo eF ⟨rfl,a2,a3,a4,.inl<|by omega⟩)⟩
  case step=>
   intro x c aQ _ hx bV;refine hid λCg bW=>?_;obtain⟨rfl,lo,eF,rfl,a1,a2,a3,a4⟩:=bV;refine bW ?_;dsimp only;by_cases oK:eF>=n-hint
   .rw[if_pos oK];exact bv ⟨rfl,(l0 lo eF ⟨rfl,a2,a3,a4,.inl oK⟩)⟩
   .rw[if_neg oK];refine be<|ask _ _ (by omega) ?_;cases hb:B (hint+eF)with
    | false=>exact bv ⟨rfl,(l0 lo eF ⟨rfl,a2,a3,a4,.inr ⟨by omega,hb⟩⟩)⟩
    | true=>exact bv ⟨rfl,(l0 eF (2*eF+1) ⟨rfl,by omega,by omega,by omega,hb⟩)⟩
  case post=>
   intro c aQ bV;refine hid λCg bW=>?_;obtain⟨rfl,lo,eF,rfl,a2,a3,a4,a5⟩:=bV;refine bW ?_;dsimp only;refine fin _ _ ?_ ?_ (λi hi=>mono _ _ (show i<=hint+lo by omega) a3 a4) λi hi hn=>?_
   .omega
   .omega
   .rcases a5 with h5|⟨h5,h6⟩
    .omega
    .cases A2:B i with
     | false=>rfl
     | true=>rw[mono _ _ (show hint+eF<=i by omega) hn A2]at h6;cases h6
 | false=>
  dsimp only;simp only[a9,if_false];refine be (jb (gv (I:=λx c aQ=>aQ=st/\∃lo eF,c=(none,lo,eF)/\x+1<=eF/\lo<eF/\lo<=hint/\B (hint-lo)=false)
   (Q:=λc aQ=>aQ=st/\∃lo eF,c=(none,lo,eF)/\lo<eF/\lo<=hint/\B (hint-lo)=false/\(hint+1<=eF\/(eF<hint+1/\B (hint-eF)=true))) ?step ?fin ?init) ?post)
  case init=>exact⟨rfl,(l0 0 1 ⟨rfl,by omega,by omega,by omega,qC⟩)⟩
  case fin=>
   intro c aQ bV;refine hid λCg bW=>?_;obtain⟨rfl,lo,eF,rfl,a1,a2,a3,a4⟩:=bV;refine bW ?_;exact⟨rfl,(l0 lo eF ⟨rfl,a2,a3,a4,.inl<|by omega⟩)⟩
  case step=>
   intro x c aQ _ hx bV;refine hid λCg bW=>?_;obtain⟨rfl,lo,eF,rfl,a1,a2,a3,a4⟩:=bV;refine bW ?_;dsimp only;by_cases oK:eF>=hint+1
   .rw[if_pos oK];exact bv ⟨rfl,(l0 lo eF ⟨rfl,a2,a3,a4,.inl oK⟩)⟩
   .rw[if_neg oK];refine be<|ask _ _ (by omega) ?_;cases hb:B (hint-eF)with
    | true=>exact bv ⟨rfl,(l0 lo eF ⟨rfl,a2,a3,a4,.inr ⟨by omega,hb⟩⟩)⟩
    | false=>exact bv ⟨rfl,(l0 eF (2*eF+1) ⟨rfl,by omega,by omega,by omega,hb⟩)⟩
  case post=>
   intro c aQ bV;refine hid λCg bW=>?_;obtain⟨rfl,lo,eF,rfl,a2,a3,a4,a5⟩:=bV;refine bW ?_;dsimp only;refine fin _ _ ?_ ?_ (λi hi=>?_) λi hi hn=>?_
   .omega
   .omega
   .rcases a5 with h5|⟨h5,h6⟩
    .omega
    .exact mono _ _ (show i<=hint-eF by omega) (by omega) h6
   .cases A2:B i with
    | false=>rfl
    | true=>rw[mono _ _ (show hint-lo<=i by omega) hn A2]at a4;cases a4
end
structure nN(lt:aI->aI->Bool):Prop where
 asy:∀x y,lt x y=true->lt y x=false
 tr:∀x y z,lt y x=false->lt z y=false->lt z x=false
def Srt(lt:aI->aI->Bool)(l:Z aI):Prop:=l.Pairwise λx y=>lt y x=false
structure Mid(lt:aI->aI->Bool)(la lb out:Z aI)(ia ib:Nat):Prop where
 perm:out.Perm (la.take ia++lb.take ib)
 srt:Srt lt out
 leA:∀x∈out,∀y∈la.drop ia,lt y x=false
 leB:∀x∈out,∀y∈lb.drop ib,lt y x=false
section
variable{lt:aI->aI->Bool}{la lb out:Z aI}{ia ib:Nat}
def afo{l:Z aI}{i k:Nat}:l.take (i+k)=l.take i++(l.drop i).take k:=by rw[List.take_add]
def Mid.pushA(m:Mid lt la lb out ia ib)(hA:Srt lt la)(k:Nat)(h:∀x∈(la.drop ia).take k,∀y∈lb.drop ib,lt y x=false):Mid lt la lb (out++(la.drop ia).take k) (ia+k) ib:=by
 have hd:Srt lt (la.drop ia):=gw (List.drop_sublist _ _) hA;have hs:(la.drop ia).take k++la.drop (ia+k)=la.drop ia:=by rw[<-List.drop_drop];exact e9 k _
 have jJ:=hd;unfold Srt at jJ;rw[<-hs,ei]at jJ;refine⟨?_,?_,λx hx y hy=>?_,λx hx y hy=>?_⟩
 .rw[afo];refine((m.perm.append_right _).trans ?_);rw[bq,bq];exact ip _ List.perm_append_comm
 .exact ei.mpr ⟨m.srt,jJ.1,λx hx y hy=>m.leA x hx y<|ca hy⟩
 .rcases a8.mp hx with h1|h1
  .exact m.leA x h1 y<|by rw[<-hs];exact cm _ hy
  .exact jJ.2.2 x h1 y hy
 .rcases a8.mp hx with h1|h1
  .exact m.leB x h1 y hy
  .exact h x h1 y hy
def Mid.pushB(m:Mid lt la lb out ia ib)(hB:Srt lt lb)(k:Nat)(h:∀x∈(lb.drop ib).take k,∀y∈la.drop ia,lt y x=false):Mid lt la lb (out++(lb.drop ib).take k) ia (ib+k):=by
 have hd:Srt lt (lb.drop ib):=gw (List.drop_sublist _ _) hB;have hs:(lb.drop ib).take k++lb.drop (ib+k)=lb.drop ib:=by rw[<-List.drop_drop];exact e9 k _
 have jJ:=hd;unfold Srt at jJ;rw[<-hs,ei]at jJ;refine⟨?_,?_,λx hx y hy=>?_,λx hx y hy=>?_⟩
 .rw[afo,<-bq];exact m.perm.append_right _
 .exact ei.mpr ⟨m.srt,jJ.1,λx hx y hy=>m.leB x hx y<|ca hy⟩
 .rcases a8.mp hx with h1|h1
  .exact m.leA x h1 y hy
  .exact h x h1 y hy
 .rcases a8.mp hx with h1|h1
  .exact m.leB x h1 y<|by rw[<-hs];exact cm _ hy
  .exact jJ.2.2 x h1 y hy
def o9(lt:aI->aI->Bool)(la lb out:Z aI):Prop:=out.Perm (la++lb)/\Srt lt out
def Mid.endB(m:Mid lt la lb out ia ib)(hA:Srt lt la)(h:lb.length<=ib):o9 lt la lb (out++la.drop ia):=by have hd:Srt lt (la.drop ia):=gw (List.drop_sublist _ _) hA;refine⟨?_,ei.mpr ⟨m.srt,hd,m.leA⟩⟩;have e:lb.take ib=lb:=aw h;have p:=m.perm.append_right<|la.drop ia;rw[e,bq]at p;refine p.trans<|(ip _ List.perm_append_comm).trans ?_;rw[<-bq,e9]
def Mid.endA(m:Mid lt la lb out ia ib)(hB:Srt lt lb)(h:la.length<=ia):o9 lt la lb (out++lb.drop ib):=by have hd:Srt lt (lb.drop ib):=gw (List.drop_sublist _ _) hB;refine⟨?_,ei.mpr ⟨m.srt,hd,m.leB⟩⟩;have e:la.take ia=la:=aw h;have p:=m.perm.append_right<|lb.drop ib;rw[e,bq,e9]at p;exact p
def Mid.lastA(m:Mid lt la lb out ia ib)(o:nN lt)(hA:Srt lt la)(hB:Srt lt lb)(h:ia+1=la.length)(hl:∀y∈lb,∀x∈la.drop ia,lt y x=true):o9 lt la lb (out++lb.drop ib++la.drop ia):=by have m2:=m.pushB hB (lb.length-ib) λx hx y hy=>o.asy _ _<|hl x (gr<|ca hx) y hy;have e:(lb.drop ib).take (lb.length-ib)=lb.drop ib:=aw (by rw[fg];exact ao _);rw[e]at m2;exact m2.endB hA<|by lia
end
noncomputable def ado:Nat->StateT aN nP Unit:=sortPriv% PySem.Builtin.setMinGallop
noncomputable abbrev vo(st:aN)(g:Nat):aN:=aN.mk' (kindOf st) (aJ st) (aM st) g<|bO st
noncomputable def aos:Array aI->Array aI->StateT aN nP (Array aI):=sortPriv% PySem.Builtin.mergeLo
def SameG(st aQ:aN):Prop:=kindOf aQ=kindOf st/\aJ aQ=aJ st/\aM aQ=aM st/\bO aQ=bO st
def SameG.refl(st:aN):SameG st st:=⟨rfl,rfl,rfl,rfl⟩
def SameG.gal{st aQ:aN}(h:SameG st aQ)(g:Nat):SameG st (vo aQ g):=h
section
variable{prog:aK}{w:aO}{A:Around}{E:aA->aB->Prop}{s:aB}
variable{κ:aW}{mem:aI->Prop}{lt:aI->aI->Bool}
structure Two(mem:aI->Prop)(lt:aI->aI->Bool)(a b:Array aI):Prop where
 mA:∀x∈a.toList,mem x
 mB:∀x∈b.toList,mem x
 sA:Srt lt a.toList
 sB:Srt lt b.toList
 pA:0<a.size
 pB:0<b.size
 first:∀x y,b[0]?=some x->a[0]?=some y->lt x y=true
 last:∀y∈b.toList,∀x,a[a.size-1]?=some x->lt y x=true
def Bw{st:aN}{g:Nat}{Q:Unit->aN->Prop}(q:Q () (vo st g)):iW (aH prog w) A E s (ado g) Q st:=
 show iW (aH prog w) A E s (modify λz=>vo z g) Q st from cD q
def ox{arr:Array aI}{i:Nat}{x:aI}(h:arr[i]?=some x){st:aN}{Q:aI->aN->Prop}(q:Q x st):iW (aH prog w) A E s (jM arr i) Q st:=by rw[elem'_eq,h];exact bv q
def vc{arr:Array aI}{i:Nat}{x:aI}(h:arr[i]?=some x):arr.toList.drop i=x::arr.toList.drop (i+1):=by obtain⟨hi,e⟩:=bx.mp h;have:=List.drop_eq_getElem_cons (l:=arr.toList) (i:=i) (by simpa using hi);rw[this];simp[e]
theorem GK{l:Z aI}{x:aI}{r:Z aI}(o:nN lt)(hs:Srt lt l)(e:l=x::r):∀z∈l,lt z x=false:=by
 subst e;intro z hz;rcases a7.mp hz with h|h
 .rw[h];cases q:lt x x with
  | false=>rfl
  | true=>have:=o.asy _ _ q;rw[q]at this;cases this
 .exact(gk.mp hs).1 z h
def GG{l:Z aI}(hs:Srt lt l)(i:Nat):Srt lt (l.drop i):=gw (List.drop_sublist _ _) hs
def xo{arr:Array aI}(o:nN lt)(hs:Srt lt arr.toList){i j:Nat}{x y:aI}(cN:i<=j)(hx:arr[i]?=some x)(hy:arr[j]?=some y):lt y x=false:=by
 have e:=vc hx;have hm:y∈arr.toList.drop i:=by rw[fk];exact⟨j-i,by rw[gl,show i+(j-i)=j by lia];simpa using hy⟩
 exact GK o (GG hs i) e y hm
def qI(lt:aI->aI->Bool)(a b out:Array aI)(ia ib:Nat):Prop:=Mid lt a.toList b.toList out.toList ia ib/\ia+1<a.size/\ib<b.size
def KP{a b out:Array aI}{ia ib:Nat}{x:aI}(o:nN lt)(T:Two mem lt a b)(m:Mid lt a.toList b.toList out.toList ia ib)(hx:b[ib]?=some x)(h:∀z∈a.toList.drop ia,lt z x=false) :
  Mid lt a.toList b.toList (out.push x).toList ia (ib+1):=by
 have m2:=m.pushB T.sB 1 λu hu y hy=>by
  rw[vc hx]at hu;have:u=x:=by simpa using hu
  rw[this];exact h y hy
 rw[vc hx]at m2;simpa using m2
def avl{a b out:Array aI}{ia ib:Nat}{y:aI}(o:nN lt)(T:Two mem lt a b)(m:Mid lt a.toList b.toList out.toList ia ib)(hy:a[ia]?=some y)(h:∀z∈b.toList.drop ib,lt z y=false) :
  Mid lt a.toList b.toList (out.push y).toList (ia+1) ib:=by
 have m2:=m.pushA T.sA 1 λu hu z hz=>by
  rw[vc hy]at hu;have:u=y:=by simpa using hu
  rw[this];exact h z hz
 rw[vc hy]at m2;simpa using m2
def Gq{arr:Array aI}(o:nN lt)(hs:Srt lt arr.toList){i:Nat}{x y:aI}(hx:arr[i]?=some x)(h:lt x y=false):∀z∈arr.toList.drop i,lt z y=false:=λz hz=>
 o.tr y x z h (GK o (GG hs i) (vc hx) z hz)
def FT{a b out:Array aI}{ia ib:Nat}(T:Two mem lt a b)(m:Mid lt a.toList b.toList out.toList ia ib)(h:ib=b.size):o9 lt a.toList b.toList (out++a.extract ia a.size++b.extract ib b.size).toList:=by have:=m.endB T.sA (by simp[h]);have e:List.take (a.size-ia) (a.toList.drop ia)=a.toList.drop ia:=aw (by simp);simpa [h,e]using this
def atq{a b out:Array aI}{ia ib:Nat}(T:Two mem lt a b)(m:Mid lt a.toList b.toList out.toList ia ib)(h:ia=a.size):o9 lt a.toList b.toList (out++a.extract ia a.size++b.extract ib b.size).toList:=by have:=m.endA T.sB (by simp[h]);have e:List.take (b.size-ib) (b.toList.drop ib)=b.toList.drop ib:=aw (by simp);simpa [h,e]using this
def DQ{a b out:Array aI}{ia ib:Nat}(o:nN lt)(T:Two mem lt a b)(m:Mid lt a.toList b.toList out.toList ia ib)(h:ia+1=a.size):o9 lt a.toList b.toList (out++b.extract ib b.size++a.extract ia a.size).toList:=by
 have:=m.lastA o T.sA T.sB (by simpa using h) λy hy x hx=>by
  have hl:a[ia]?=some (a[ia]'(by lia)):=by simp
  rw[vc hl,List.drop_eq_nil_of_le<|by simp;lia]at hx;have e:x=a[ia]'(by lia):=by simpa using hx
  refine T.last y hy x ?_;rw[e,show a.size-1=ia by lia];exact hl
 have e:List.take (a.size-ia) (a.toList.drop ia)=a.toList.drop ia:=aw (by simp);have e2:List.take (b.size-ib) (b.toList.drop ib)=b.toList.drop ib:=aw (by simp);simpa [e,e2]using this
def x9{arr:Array aI}{P:aI->Prop}{base k:Nat}(h:∀i z,i<k->arr[base+i]?=some z->P z):∀z∈(arr.toList.drop base).take k,P z:=λz hz=>by
 obtain⟨i,hi⟩:=fk.mp hz;have wW:i<k:=by have:=(af.mp hi).1;rw[bf]at this;lia
 rw[fy wW,gl]at hi;exact h i z wW<|by simpa using hi
def aee{arr:Array aI}{P:aI->Prop}{base k:Nat}(h:∀i z,k<=i->arr[base+i]?=some z->P z):∀z∈arr.toList.drop (base+k),P z:=λz hz=>by obtain⟨i,hi⟩:=fk.mp hz;rw[gl]at hi;exact h (k+i) z (by lia)<|by rw[<-Nat.add_assoc];simpa using hi
def xt(C:mP prog w A s κ mem lt)(o:nN lt){st:aN}(hk:kindOf st=κ){key:aI}{arr:Array aI}{base n hint:Nat}(dN:mem key)(hn:base+n<=arr.size)(hm:∀i z,i<n->arr[base+i]?=some z->mem z)(hh:hint<n)
  (hs:∀i j y z,i<=j->j<n->arr[base+i]?=some y->arr[base+j]?=some z->lt z y=false) {Q:Option Nat->aN->Prop}
  (h:∀k,k<=n->(∀i z,i<k->arr[base+i]?=some z->lt key z=false)->(∀i z,k<=i->i<n->arr[base+i]?=some z->lt key z=true)->Q (some k) st):iW (aH prog w) A E s (Ek false key arr base n hint) Q st:=by
 have ex:∀i,i<n->∃z,arr[base+i]?=some z:=λi hi=>⟨arr[base+i]'(by lia),by simp⟩;refine acm C hk dN (λi hi=>?_) hh (λi=>match arr[base+i]? with|some z=>!lt key z|none=>false) (λi z hi hz=>by simp[hz]) (λi j cN hj hb=>?_) λk kN h1 h2=>h k kN (λi z hi hz=>?_) λi z hi fM hz=>?_
 .obtain⟨z,hz⟩:=ex i hi;exact⟨z,hz,hm i z hi hz⟩
 .obtain⟨y,hy⟩:=ex i (by lia);obtain⟨z,hz⟩:=ex j hj;simp only[hz,hy,Bool.not_eq_true']at hb⊢;exact o.tr _ _ _ (hs i j y z cN hj hy hz) hb
 .have:=h1 i hi;simpa [hz]using this
 .have:=h2 i hi fM;simpa [hz]using this
theorem LZ(C:mP prog w A s κ mem lt)(o:nN lt){st:aN}(hk:kindOf st=κ){key:aI}{arr:Array aI}{base n hint:Nat}(dN:mem key)(hn:base+n<=arr.size)(hm:∀i z,i<n->arr[base+i]?=some z->mem z)(hh:hint<n)
  (hs:∀i j y z,i<=j->j<n->arr[base+i]?=some y->arr[base+j]?=some z->lt z y=false) {Q:Option Nat->aN->Prop}
  (h:∀k,k<=n->(∀i z,i<k->arr[base+i]?=some z->lt z key=true)->(∀i z,k<=i->i<n->arr[base+i]?=some z->lt z key=false)->Q (some k) st):iW (aH prog w) A E s (Ek true key arr base n hint) Q st:=by
 have ex:∀i,i<n->∃z,arr[base+i]?=some z:=λi hi=>⟨arr[base+i]'(by lia),by simp⟩;refine acm C hk dN (λi hi=>?_) hh (λi=>match arr[base+i]? with|some z=>lt z key|none=>false) (λi z hi hz=>by simp[hz]) (λi j cN hj hb=>?_) λk kN h1 h2=>h k kN (λi z hi hz=>?_) λi z hi fM hz=>?_
 .obtain⟨z,hz⟩:=ex i hi;exact⟨z,hz,hm i z hi hz⟩
 .obtain⟨y,hy⟩:=ex i (by lia);obtain⟨z,hz⟩:=ex j hj;simp only[hz,hy]at hb⊢;cases q:lt y key with
  | true=>rfl
  | false=>rw[o.tr _ _ _ q (hs i j y z cN hj hy hz)]at hb;cases hb
 .have:=h1 i hi;simpa [hz]using this
 .have:=h2 i hi fM;simpa [hz]using this
theorem ag3(C:mP prog w A s κ mem lt)(o:nN lt){st:aN}(hk:kindOf st=κ){a b:Array aI}(T:Two mem lt a b){Q:Array aI->aN->Prop}
  (h:∀out aQ,SameG st aQ->o9 lt a.toList b.toList out.toList->Q out aQ):iW (aH prog w) A E s (aos a b) Q st:=by
 refine be<|hU<|jl ⟨rfl,?_⟩;have qC:b[0]?=some (b[0]'T.pB):=by simp[T.pB]
 have De:a[0]?=some (a[0]'T.pA):=by simp[T.pA]
 refine be<|ox qC ?_;have m0:Mid lt a.toList b.toList (#[]:Array aI).toList 0 0:=⟨by simp,List.Pairwise.nil,by simp,by simp⟩;have m1:=KP o T m0 qC λz hz=>o.tr _ _ _ (o.asy _ _<|T.first _ _ qC De)<|GK o (GG T.sA 0) (vc De) z hz;dsimp only;refine nh (λ(vD:(1==b.size)=true)=>?_) λ(vD:¬(1==b.size)=true)=>?_
 .exact bv<|h _ _ (SameG.refl _)<|FT T m1<|by simpa using vD
 refine nh (λ(vE:(0+1==a.size)=true)=>?_) λ(vE:¬(0+1==a.size)=true)=>?_
 .exact bv<|h _ _ (SameG.refl _)<|DQ o T m1<|by simpa using vE
 have kQ:1<b.size:=by have:¬1=b.size:=by simpa using vD
                      have:=T.pB;lia
 have Fi:0+1<a.size:=by have:¬0+1=a.size:=by simpa using vE
                        have:=T.pA;lia
 refine be<|dU ?_;refine be (jb (gv (I:=λx c aQ=>SameG st aQ/\∃out ia ib mg,c=(none,out,ia,ib,mg)/\qI lt a b out ia ib/\x+1<=ia+ib)
  (Q:=λc aQ=>SameG st aQ/\∃res r,c=(some res,r)/\o9 lt a.toList b.toList res.toList) ?step ?fin ?init) ?post)
 case init=>exact⟨SameG.refl _,(l9 _ _ _ _ ⟨rfl,⟨m1,Fi,kQ⟩,ao _⟩)⟩
 case fin=>
  intro c aQ bV;refine hid λCg bW=>?_;obtain⟨_,out,ia,ib,mg,rfl,⟨_,h1,h2⟩,h3⟩:=bV;refine bW ?_;lia
 case post=>
  intro c aQ bV;refine hid λCg bW=>?_;obtain⟨sg,res,r,rfl,hm⟩:=bV;refine bW ?_;exact bv<|h _ _ sg hm
 case step=>
  intro x c aQ _ hx bV;refine hid λCg bW=>?_;obtain⟨sg,out,ia,ib,mg,rfl,L,hp⟩:=bV;refine bW ?_;dsimp only;refine be (jb (gv (I:=λy c aQ=>SameG st aQ/\∃cR iD iC ac bc,c=(none,cR,iD,iC,ac,bc)/\qI lt a b cR iD iC/\ia+ib<=iD+iC)
   (Q:=λc aQ=>SameG st aQ/\((∃res r,c=(some res,r)/\o9 lt a.toList b.toList res.toList)\/∃cR iD iC ac bc,c=(none,cR,iD,iC,ac,bc)/\qI lt a b cR iD iC/\ia+ib<=iD+iC)) ?istep ?ifin ?iinit) ?ipost)
  case iinit=>exact⟨sg,(lv _ _ _ _ _ ⟨rfl,L,ao _⟩)⟩
  case ifin=>
   rintro c lW ⟨bM,aY⟩;exact⟨bM,.inr aY⟩
  case istep=>
   intro y c lW _ hy bV;refine hid λCg bW=>?_;obtain⟨bM,cR,iD,iC,ac,bc,rfl,⟨m,l1,l2⟩,nJ⟩:=bV;refine bW ?_;dsimp only;have gY:b[iC]?=some (b[iC]'l2):=by simp[l2]
   have gP:a[iD]?=some (a[iD]'(by lia)):=by simp
   refine be<|ox gY<|be<|ox gP<|be<|Ed C (bM.1.trans hk) (T.mB _<|by simp) (T.mA _<|by simp) ?_;cases hl:lt b[iC] a[iD]with
   | true=>
    dsimp only;simp only[if_true];refine be<|ox gY ?_;have m2:=KP o T m gY<|Gq o T.sA gP<|o.asy _ _ hl;try dsimp only
    refine nh (λ(he:(iC+1==b.size)=true)=>?_) λ(he:¬(iC+1==b.size)=true)=>?_
    .exact bv ⟨bM,.inl<|l0 _ _ ⟨rfl,FT T m2<|by simpa using he⟩⟩
    .have iZ:¬iC+1=b.size:=by simpa using he
     have L2:qI lt a b (cR.push b[iC]) iD (iC+1):=⟨m2,l1,by lia⟩;split
     .exact bv ⟨bM,.inr<|lv _ _ _ _ _ ⟨rfl,L2,by lia⟩⟩
     .exact bv ⟨bM,(lv _ _ _ _ _ ⟨rfl,L2,by lia⟩)⟩
   | false=>
    dsimp only;simp only[a9,if_false];refine be<|ox gP ?_;have m2:=avl o T m gP<|Gq o T.sB gY hl;try dsimp only
    refine nh (λ(he:(iD+1+1==a.size)=true)=>?_) λ(he:¬(iD+1+1==a.size)=true)=>?_
    .exact bv ⟨bM,.inl<|l0 _ _ ⟨rfl,DQ o T m2<|by simpa using he⟩⟩
    .have iZ:¬iD+1+1=a.size:=by simpa using he
     have L2:qI lt a b (cR.push a[iD]) (iD+1) iC:=⟨m2,by lia,l2⟩;split
     .exact bv ⟨bM,.inr<|lv _ _ _ _ _ ⟨rfl,L2,by lia⟩⟩
     .exact bv ⟨bM,(lv _ _ _ _ _ ⟨rfl,L2,by lia⟩)⟩
  case ipost=>
   intro c lW bV;refine hid λCg bW=>?_
   (rcases bV with ⟨bM,(⟨res,r,rfl,hm⟩|⟨cR,iD,iC,ac,bc,rfl,L2,wP⟩)⟩)<;>refine bW ?_
   .dsimp only;exact bv ⟨bM,(l0 _ _ ⟨rfl,hm⟩)⟩
   .dsimp only;refine be<|hU<|jl ⟨rfl,?_⟩;refine be (jb (gv (I:=λy c aQ=>SameG st aQ/\∃bB cH bL dL ac bc,c=(none,bB,cH,bL,dL,ac,bc)/\qI lt a b bB cH bL/\iD+iC+y<=cH+bL)
     (Q:=λc aQ=>SameG st aQ/\((∃res r,c=(some res,r)/\o9 lt a.toList b.toList res.toList)\/∃bB cH bL dL ac bc,c=(none,bB,cH,bL,dL,ac,bc)/\qI lt a b bB cH bL/\iD+iC+1<=cH+bL)) ?jstep ?jfin ?jinit) ?jpost)
    case jinit=>exact⟨bM,(lv _ _ _ _ _ ⟨_,rfl,L2,ao _⟩)⟩
    case jfin=>
     intro c jZ bV;refine hid λCg bW=>?_;obtain⟨dB,bB,cH,bL,dL,Ef,vL,rfl,L3,rO⟩:=bV;refine bW ?_;exact⟨dB,.inr<|lv _ _ _ _ _ ⟨_,rfl,L3,by have:=T.pA;lia⟩⟩
    case jpost=>
     intro c jZ bV;refine hid λCg bW=>?_
     (rcases bV with ⟨dB,(⟨res,r,rfl,hm⟩|⟨bB,cH,bL,dL,Ef,vL,rfl,L3,rO⟩)⟩)<;>refine bW ?_
     .dsimp only;exact bv ⟨dB,(l0 _ _ ⟨rfl,hm⟩)⟩
     .dsimp only;refine be<|Bw ?_;exact bv ⟨dB.gal _,(l9 _ _ _ _ ⟨rfl,L3,by lia⟩)⟩
    case jstep=>
     intro y c jZ _ hy bV;refine hid λCg bW=>?_;obtain⟨dB,bB,cH,bL,dL,Ef,vL,rfl,⟨m3,l3,l4⟩,rO⟩:=bV;refine bW ?_;dsimp only;have gY:b[bL]?=some (b[bL]'l4):=by simp[l4]
     have gX:∀i z,a[i]?=some z->mem z:=λi z hz=>T.mA z (by obtain⟨h1,h2⟩:=bx.mp hz;rw[<-h2];simp);have mC:∀i z,b[i]?=some z->mem z:=λi z hz=>T.mB z (by obtain⟨h1,h2⟩:=bx.mp hz;rw[<-h2];simp);have body:∀(eQ:Nat)(cW:aN),SameG st cW->∀(k:Nat),k<=a.size-cH->(∀i z,i<k->a[cH+i]?=some z->lt b[bL] z=false)->(∀i z,k<=i->i<a.size-cH->a[cH+i]?=some z->lt b[bL] z=true)->
       ∃bJ:Array aI,bJ=bB++a.extract cH (cH+k)/\Mid lt a.toList b.toList bJ.toList (cH+k) bL/\∀z∈a.toList.drop (cH+k),lt z b[bL]=false:=by
      intro eQ cW dJ k kN h1 h2;refine⟨_,rfl,?_,?_⟩
      .have m4:=m3.pushA T.sA k λz hz y hy=>Gq o T.sB gY (x9 (P:=λz=>lt b[bL] z=false) h1 z hz) y hy;have e:(bB++a.extract cH (cH+k)).toList=bB.toList++(a.toList.drop cH).take k:=by
        simp
       rw[e];exact m4
      .exact aee (P:=λz=>lt z b[bL]=false) λi z hi hz=>o.asy _ _<|h2 i z hi (by have:=(bx.mp hz).1;lia) hz
     have lX:∀(fR:Array aI)(dG tK eQ k k1:Nat)(cW:aN),SameG st cW->Mid lt a.toList b.toList fR.toList dG tK->dG+1<a.size->tK<b.size->(∀z,a[dG]?=some z->∀u∈b.toList.drop tK,lt u z=false)->iD+iC+y+1<=dG+tK->
       iW (aH prog w) A E s (do
        let z2 <-jM a dG
        if (dG+1+1==a.size)=true then
         aR (ForInStep.done (some<|fR.push z2++b.extract tK b.size++a.extract (dG+1) a.size,fR.push z2,dG+1,tK,eQ,k,k1))
        else if (decide (k<7)&&decide (k1<7))=true then aR (ForInStep.done (none,fR.push z2,dG+1,tK,eQ,k,k1))
        else aR (ForInStep.yield (none,fR.push z2,dG+1,tK,eQ,k,k1)))
       (λr aQ=>match r with
        | .done c'=>SameG st aQ/\((∃res r,c'=(some res,r)/\o9 lt a.toList b.toList res.toList)\/∃bB cH bL dL ac bc,c'=(none,bB,cH,bL,dL,ac,bc)/\qI lt a b bB cH bL/\iD+iC+1<=cH+bL)
        | .yield c'=>SameG st aQ/\∃bB cH bL dL ac bc,c'=(none,bB,cH,bL,dL,ac,bc)/\qI lt a b bB cH bL/\iD+iC+(y+1)<=cH+bL) cW:=by
      intro fR dG tK eQ k k1 cW dJ m5 l5 l6 hu CF;have gP:a[dG]?=some (a[dG]'(by lia)):=by simp
      refine be<|ox gP ?_;have m6:=avl o T m5 gP<|hu _ gP;refine nh (λ(he:(dG+1+1==a.size)=true)=>?_) λ(he:¬(dG+1+1==a.size)=true)=>?_
      .exact bv ⟨dJ,.inl<|l0 _ _ ⟨rfl,DQ o T m6<|by simpa using he⟩⟩
      .have iZ:¬dG+1+1=a.size:=by simpa using he
       have L6:qI lt a b (fR.push a[dG]) (dG+1) tK:=⟨m6,by lia,l6⟩;split
       .exact bv ⟨dJ,.inr<|lv _ _ _ _ _ ⟨_,rfl,L6,by lia⟩⟩
       .exact bv ⟨dJ,(lv _ _ _ _ _ ⟨_,rfl,L6,by lia⟩)⟩
     have aY:∀(bJ:Array aI)(dG eQ k:Nat)(cW:aN),SameG st cW->Mid lt a.toList b.toList bJ.toList dG bL->dG+1<a.size->(∀z∈a.toList.drop dG,lt z b[bL]=false)->iD+iC+y<=dG+bL->
       iW (aH prog w) A E s (do
        let z <-jM b bL
        if (bL+1==b.size)=true then
         aR (ForInStep.done (some<|bJ.push z++a.extract dG a.size++b.extract (bL+1) b.size,bJ.push z,dG,bL+1,eQ,k,vL))
        else do
         let z1 <-jM a dG
         let x <-Ek true z1 b (bL+1) (b.size-(bL+1)) 0
         match x with
         | some k1=>
          if k1>0 then
           if (bL+1+k1==b.size)=true then
            aR (ForInStep.done (some<|bJ.push z++b.extract (bL+1) (bL+1+k1)++a.extract dG a.size++b.extract (bL+1+k1) b.size,bJ.push z++b.extract (bL+1) (bL+1+k1),dG,bL+1+k1,eQ,k,k1))
           else do
            let z2 <-jM a dG
            if (dG+1+1==a.size)=true then
             aR (ForInStep.done (some<|(bJ.push z++b.extract (bL+1) (bL+1+k1)).push z2++b.extract (bL+1+k1) b.size++a.extract (dG+1) a.size,(bJ.push z++b.extract (bL+1) (bL+1+k1)).push z2,dG+1,bL+1+k1,eQ,k,k1))
            else if (decide (k<7)&&decide (k1<7))=true then aR (ForInStep.done (none,(bJ.push z++b.extract (bL+1) (bL+1+k1)).push z2,dG+1,bL+1+k1,eQ,k,k1))
            else aR (ForInStep.yield (none,(bJ.push z++b.extract (bL+1) (bL+1+k1)).push z2,dG+1,bL+1+k1,eQ,k,k1))
          else do
           let z2 <-jM a dG
           if (dG+1+1==a.size)=true then
            aR (ForInStep.done (some<|(bJ.push z).push z2++b.extract (bL+1) b.size++a.extract (dG+1) a.size,(bJ.push z).push z2,dG+1,bL+1,eQ,k,k1))
           else if (decide (k<7)&&decide (k1<7))=true then aR (ForInStep.done (none,(bJ.push z).push z2,dG+1,bL+1,eQ,k,k1))
           else aR (ForInStep.yield (none,(bJ.push z).push z2,dG+1,bL+1,eQ,k,k1))
         | _=>aR<|ForInStep.done (some<|bJ.push z++a.extract dG a.size++b.extract (bL+1) b.size,bJ.push z,dG,bL+1,eQ,k,vL))
       (λr aQ=>match r with
        | .done c'=>SameG st aQ/\((∃res r,c'=(some res,r)/\o9 lt a.toList b.toList res.toList)\/∃bB cH bL dL ac bc,c'=(none,bB,cH,bL,dL,ac,bc)/\qI lt a b bB cH bL/\iD+iC+1<=cH+bL)
        | .yield c'=>SameG st aQ/\∃bB cH bL dL ac bc,c'=(none,bB,cH,bL,dL,ac,bc)/\qI lt a b bB cH bL/\iD+iC+(y+1)<=cH+bL) cW:=by
      intro bJ dG eQ k cW dJ m4 l5 mE Ii;refine be<|ox gY ?_;have m5:=KP o T m4 gY mE;refine nh (λ(he:(bL+1==b.size)=true)=>?_) λ(he:¬(bL+1==b.size)=true)=>?_
      .exact bv ⟨dJ,.inl<|l0 _ _ ⟨rfl,FT T m5<|by simpa using he⟩⟩
      have iZ:¬bL+1=b.size:=by simpa using he
      have gP:a[dG]?=some (a[dG]'(by lia)):=by simp
      refine be<|ox gP ?_;refine be<|LZ (st:=cW) (base:=bL+1) (n:=b.size-(bL+1)) (hint:=0) C o (dJ.1.trans hk) (gX _ _ gP) (by lia) (λi z hi hz=>mC _ z hz) (by lia) (λi j y z cN hj hy hz=>xo o T.sB (show bL+1+i<=bL+1+j by lia) hy hz) λk1 kN h1 h2=>?_;dsimp only;have m6:=m5.pushB T.sB k1 λz hz u hu=>Gq o T.sA gP (o.asy _ _<|x9 (P:=λz=>lt z a[dG]=true) h1 z hz) u hu;have e6:(bJ.push b[bL]++b.extract (bL+1) (bL+1+k1)).toList=(bJ.push b[bL]).toList++(b.toList.drop<|bL+1).take k1:=by simp
      rw[<-e6]at m6;have AK:∀z,a[dG]?=some z->∀u∈b.toList.drop (bL+1+k1),lt u z=false:=λz hz=>by rw[gP]at hz;cases hz;exact aee (P:=λu=>lt u a[dG]=false) λi z hi hz=>h2 i z hi (by have:=(bx.mp hz).1;lia) hz
      refine nh (λ(iY:k1>0)=>?_) λ(iY:¬(k1>0))=>?_
      .refine nh (λ(lM:(bL+1+k1==b.size)=true)=>?_) λ(lM:¬(bL+1+k1==b.size)=true)=>?_
       .exact bv ⟨dJ,.inl<|l0 _ _ ⟨rfl,FT T m6<|by simpa using lM⟩⟩
       .have Jc:¬bL+1+k1=b.size:=by simpa using lM
        exact lX _ dG (bL+1+k1) eQ k k1 cW dJ m6 l5 (by lia) AK<|by lia
      .have e0:k1=0:=by lia
       subst e0;exact lX _ dG (bL+1) eQ k 0 cW dJ m5 l5 (by lia) AK<|by lia
     refine nh (λ(uT:dL>1)=>?_) λ(uT:¬(dL>1))=>?_
     .refine be<|Bw ?_;have dJ:SameG st (vo jZ<|dL-1):=dB.gal _;refine be<|ox gY ?_;refine be<|xt (st:=vo jZ<|dL-1) (base:=cH) (n:=a.size-cH) (hint:=0) C o (dJ.1.trans hk) (mC _ _ gY) (by lia) (λi z hi hz=>gX _ z hz) (by lia) (λi j y z cN hj hy hz=>xo o T.sA (show cH+i<=cH+j by lia) hy hz) λk kN h1 h2=>?_;obtain⟨bJ,e3,m4,mE⟩:=body 0 jZ dB k kN h1 h2;dsimp only;by_cases iY:k>0
      .rw[if_pos iY,<-e3];refine nh (λ(he:(cH+k+1==a.size)=true)=>?_) λ(he:¬(cH+k+1==a.size)=true)=>?_
       .exact bv ⟨dJ,.inl<|l0 _ _ ⟨rfl,DQ o T m4<|by simpa using he⟩⟩
       have iZ:¬cH+k+1=a.size:=by simpa using he
       refine nh (λ(lM:(cH+k==a.size)=true)=>?_) λ(lM:¬(cH+k==a.size)=true)=>?_
       .exact bv ⟨dJ,.inl<|l0 _ _ ⟨rfl,atq T m4<|by simpa using lM⟩⟩
       have Jc:¬cH+k=a.size:=by simpa using lM
       refine jb (aY bJ (cH+k) (dL-1) k _ dJ m4 (by lia) mE<|by lia) λr aQ hr=>?_;cases r<;>exact hr
      .rw[if_neg iY];have e0:k=0:=by lia
       subst e0;have e5:bJ=bB:=Array.ext' (by rw[e3];simp);rw[e5]at m4;refine jb (aY bB cH (dL-1) 0 _ dJ m4 l3 mE rO) λr aQ hr=>?_;cases r<;>exact hr
     .refine be<|Bw ?_;have dJ:SameG st (vo jZ<|dL):=dB.gal _;refine be<|ox gY ?_;refine be<|xt (st:=vo jZ<|dL) (base:=cH) (n:=a.size-cH) (hint:=0) C o (dJ.1.trans hk) (mC _ _ gY) (by lia) (λi z hi hz=>gX _ z hz) (by lia) (λi j y z cN hj hy hz=>xo o T.sA (show cH+i<=cH+j by lia) hy hz) λk kN h1 h2=>?_;obtain⟨bJ,e3,m4,mE⟩:=body 0 jZ dB k kN h1 h2;dsimp only;by_cases iY:k>0
      .rw[if_pos iY,<-e3];refine nh (λ(he:(cH+k+1==a.size)=true)=>?_) λ(he:¬(cH+k+1==a.size)=true)=>?_
       .exact bv ⟨dJ,.inl<|l0 _ _ ⟨rfl,DQ o T m4<|by simpa using he⟩⟩
       have iZ:¬cH+k+1=a.size:=by simpa using he
       refine nh (λ(lM:(cH+k==a.size)=true)=>?_) λ(lM:¬(cH+k==a.size)=true)=>?_
       .exact bv ⟨dJ,.inl<|l0 _ _ ⟨rfl,atq T m4<|by simpa using lM⟩⟩
       have Jc:¬cH+k=a.size:=by simpa using lM
       refine jb (aY bJ (cH+k) (dL) k _ dJ m4 (by lia) mE<|by lia) λr aQ hr=>?_;cases r<;>exact hr
      .rw[if_neg iY];have e0:k=0:=by lia
       subst e0;have e5:bJ=bB:=Array.ext' (by rw[e3];simp);rw[e5]at m4;refine jb (aY bB cH (dL) 0 _ dJ m4 l3 mE rO) λr aQ hr=>?_;cases r<;>exact hr
end
structure MidH(lt:aI->aI->Bool)(la lb R:Z aI)(na nb:Nat):Prop where
 perm:R.Perm (la.drop na++lb.drop nb)
 srt:Srt lt R
 geA:∀x∈la.take na,∀y∈R,lt y x=false
 geB:∀x∈lb.take nb,∀y∈R,lt y x=false
section
variable{lt:aI->aI->Bool}{la lb R:Z aI}{na nb:Nat}
def ail{l:Z aI}{i n:Nat}(h:i<=n):l.take i++(l.take n).drop i=l.take n:=by have:=e9 i<|l.take n;rw[List.take_take,gd h]at this;exact this
def aih{l:Z aI}{i n:Nat}(h:i<=n):(l.take n).drop i++l.drop n=l.drop i:=by
 have e:=e9 n l;have:=congrArg (List.drop i) e;rw[List.drop_append]at this;by_cases hl:n<=l.length
 .rw[bf,gd hl,show i-n=0 by lia,jv]at this;exact this
 .rw[List.drop_eq_nil_of_le (show l.length<=n by lia),fj,aw<|by lia]
def MidH.pushA(m:MidH lt la lb R na nb)(hA:Srt lt la){i:Nat}(hi:i<=na)(h:∀x∈lb.take nb,∀y∈(la.take na).drop i,lt y x=false):MidH lt la lb ((la.take na).drop i++R) i nb:=by
 have ht:Srt lt (la.take na):=gw (j3 _ _) hA;have hs:=ail (l:=la) hi;have kL:=ht;unfold Srt at kL;rw[<-hs,ei]at kL;refine⟨?_,?_,λx hx y hy=>?_,λx hx y hy=>?_⟩
 .rw[<-aih (l:=la) hi,bq];exact ip _ m.perm
 .exact ei.mpr ⟨kL.2.1,m.srt,λx hx y hy=>m.geA x (gr hx) y hy⟩
 .rcases a8.mp hy with h1|h1
  .exact kL.2.2 x hx y h1
  .exact m.geA x (by rw[<-hs];exact g9 _ hx) y h1
 .rcases a8.mp hy with h1|h1
  .exact h x hx y h1
  .exact m.geB x hx y h1
def MidH.pushB(m:MidH lt la lb R na nb)(hB:Srt lt lb){i:Nat}(hi:i<=nb)(h:∀x∈la.take na,∀y∈(lb.take nb).drop i,lt y x=false):MidH lt la lb ((lb.take nb).drop i++R) na i:=by
 have ht:Srt lt (lb.take nb):=gw (j3 _ _) hB;have hs:=ail (l:=lb) hi;have kL:=ht;unfold Srt at kL;rw[<-hs,ei]at kL;refine⟨?_,?_,λx hx y hy=>?_,λx hx y hy=>?_⟩
 .rw[<-aih (l:=lb) hi];refine(ip _ m.perm).trans ?_;rw[<-bq,<-bq];exact List.Perm.append_right _ List.perm_append_comm
 .exact ei.mpr ⟨kL.2.1,m.srt,λx hx y hy=>m.geB x (gr hx) y hy⟩
 .rcases a8.mp hy with h1|h1
  .exact h x hx y h1
  .exact m.geA x hx y h1
 .rcases a8.mp hy with h1|h1
  .exact kL.2.2 x hx y h1
  .exact m.geB x (by rw[<-hs];exact g9 _ hx) y h1
def MidH.endA(m:MidH lt la lb R 0 nb)(hB:Srt lt lb):o9 lt la lb (lb.take nb++R):=by have ht:Srt lt (lb.take nb):=gw (j3 _ _) hB;refine⟨?_,ei.mpr ⟨ht,m.srt,m.geB⟩⟩;have p:=ip (lb.take nb) m.perm;rw[jv]at p;refine p.trans ?_;rw[<-bq];refine(List.Perm.append_right _ List.perm_append_comm).trans ?_;rw[bq,e9]
def MidH.endB(m:MidH lt la lb R na 0)(hA:Srt lt la):o9 lt la lb (la.take na++R):=by have ht:Srt lt (la.take na):=gw (j3 _ _) hA;refine⟨?_,ei.mpr ⟨ht,m.srt,m.geA⟩⟩;have p:=ip (la.take na) m.perm;rw[jv,<-bq,e9]at p;exact p
def MidH.firstB(m:MidH lt la lb R na 1)(o:nN lt)(hA:Srt lt la)(hB:Srt lt lb)(hl:∀y∈la,∀x∈lb.take 1,lt x y=true):o9 lt la lb (lb.take 1++la.take na++R):=by have m2:=m.pushA hA (f8 na) λx hx y hy=>o.asy _ _<|hl y (ca<|gr hy) x hx;rw[jv]at m2;have:=m2.endA hB;rw[bq];exact this
end
noncomputable def aot:Array aI->Array aI->StateT aN nP (Array aI):=sortPriv% PySem.Builtin.mergeHi
section
variable{prog:aK}{w:aO}{A:Around}{E:aA->aB->Prop}{s:aB}
variable{κ:aW}{mem:aI->Prop}{lt:aI->aI->Bool}
def qK(lt:aI->aI->Bool)(a b out:Array aI)(na nb:Nat):Prop:=MidH lt a.toList b.toList out.reverse.toList na nb/\0<na/\1<nb/\na<=a.size/\nb<=b.size
def Ej{arr:Array aI}{n:Nat}{x:aI}(h:arr[n]?=some x):(arr.toList.take<|n+1).drop n=[x]:=by
 obtain⟨hi,e⟩:=bx.mp h;have hl:n<arr.toList.length:=by simpa using hi
 rw[List.take_succ,List.drop_append,List.drop_eq_nil_of_le<|by rw[bf];lia];have e2:n-iA n arr.size=0:=by lia
 simp[h,e2]
def Ea{arr:Array aI}(o:nN lt)(hs:Srt lt arr.toList){n:Nat}{x y:aI}(hx:arr[n]?=some x)(h:lt y x=false):∀z∈arr.toList.take (n+1),lt y z=false:=λz hz=>by
 obtain⟨i,hi⟩:=fk.mp hz;have bS:i<n+1:=by have:=(af.mp hi).1;rw[bf]at this;lia
 rw[fy bS]at hi;exact o.tr z x y (xo o hs (show i<=n by lia) (by simpa using hi) hx) h
def Lw(out arr:Array aI){i n:Nat}(h:i<=n):(out++(arr.extract i n).reverse).reverse.toList=(arr.toList.take n).drop i++out.reverse.toList:=by simp[List.take_drop,show i+(n-i)=n by lia]
def LQ{arr:Array aI}{P:aI->Prop}{i n:Nat}(h:∀j z,i<=j->j<n->arr[j]?=some z->P z):∀z∈(arr.toList.take n).drop i,P z:=λz hz=>by
 obtain⟨k,hk⟩:=fk.mp hz;rw[gl]at hk;have bS:i+k<n:=by have:=(af.mp hk).1;rw[bf]at this;lia
 rw[fy bS]at hk;exact h (i+k) z (by lia) bS<|by simpa using hk
def Lb{a b out:Array aI}{na nb:Nat}{y:aI}(T:Two mem lt a b)(m:MidH lt a.toList b.toList out.reverse.toList (na+1) nb)(hy:a[na]?=some y)(h:∀x∈b.toList.take nb,lt y x=false):MidH lt a.toList b.toList (out.push y).reverse.toList na nb:=by
 have m2:=m.pushA T.sA (Nat.le_succ na) λx hx u hu=>by rw[Ej hy]at hu;rw[ar.mp hu];exact h x hx
 rw[Ej hy]at m2;simpa using m2
def apo{a b out:Array aI}{na nb:Nat}{y:aI}(T:Two mem lt a b)(m:MidH lt a.toList b.toList out.reverse.toList na (nb+1))(hy:b[nb]?=some y)(h:∀x∈a.toList.take na,lt y x=false):MidH lt a.toList b.toList (out.push y).reverse.toList na nb:=by
 have m2:=m.pushB T.sB (Nat.le_succ nb) λx hx u hu=>by rw[Ej hy]at hu;rw[ar.mp hu];exact h x hx
 rw[Ej hy]at m2;simpa using m2
def D7{a b out:Array aI}{na nb:Nat}(T:Two mem lt a b)(m:MidH lt a.toList b.toList out.reverse.toList na nb)(h:na=0):o9 lt a.toList b.toList (a.extract 0 na++b.extract 0 nb++out.reverse).toList:=by subst h;have:=m.endA T.sB;simpa using this
def avn{a b out:Array aI}{na nb:Nat}(T:Two mem lt a b)(m:MidH lt a.toList b.toList out.reverse.toList na nb)(h:nb=0):o9 lt a.toList b.toList (a.extract 0 na++b.extract 0 nb++out.reverse).toList:=by subst h;have:=m.endB T.sA;simpa using this
theorem Gd{a b out:Array aI}{na nb:Nat}(o:nN lt)(T:Two mem lt a b)(m:MidH lt a.toList b.toList out.reverse.toList na nb)(h:nb=1):o9 lt a.toList b.toList (b.extract 0 nb++a.extract 0 na++out.reverse).toList:=by
 subst h;have pB:=T.pB;have pA:=T.pA;have qC:b[0]?=some (b[0]'T.pB):=by simp[T.pB]
 have De:a[0]?=some (a[0]'T.pA):=by simp[T.pA]
 have:=m.firstB o T.sA T.sB λy hy x hx=>by
  have e1:=Ej qC;rw[jv]at e1;rw[e1]at hx;rw[ar.mp hx];have hya:lt y a[0]=false:=GK o (GG T.sA 0) (vc De) y (by rw[jv];exact hy);cases q:lt b[0] y with
  | true=>rfl
  | false=>have:=o.tr _ _ _ hya q;rw[T.first _ _ qC De]at this;cases this
 simpa using this
theorem agf(C:mP prog w A s κ mem lt)(o:nN lt){st:aN}(hk:kindOf st=κ){a b:Array aI}(T:Two mem lt a b){Q:Array aI->aN->Prop}
  (h:∀out aQ,SameG st aQ->o9 lt a.toList b.toList out.toList->Q out aQ):iW (aH prog w) A E s (aot a b) Q st:=by
 refine be<|hU<|jl ⟨rfl,?_⟩;have gX:∀i z,a[i]?=some z->mem z:=λi z hz=>T.mA z (by obtain⟨h1,h2⟩:=bx.mp hz;rw[<-h2];simp);have mC:∀i z,b[i]?=some z->mem z:=λi z hz=>T.mB z (by obtain⟨h1,h2⟩:=bx.mp hz;rw[<-h2];simp);have hpA:=T.pA;have hpB:=T.pB;have Jo:a[a.size-1]?=some (a[a.size-1]'(by lia)):=by simp
 refine be<|ox Jo ?_;have m0:MidH lt a.toList b.toList (#[]:Array aI).reverse.toList (a.size-1+1) b.size:=by rw[show a.size-1+1=a.size by lia];exact⟨by simp,List.Pairwise.nil,by simp,by simp⟩
 have m1:=Lb T m0 Jo λx hx=>o.asy _ _<|T.last x (ca hx) _ Jo;dsimp only;refine nh (λ(vE:(a.size-1==0)=true)=>?_) λ(vE:¬(a.size-1==0)=true)=>?_
 .exact bv<|h _ _ (SameG.refl _)<|D7 T m1<|by simpa using vE
 refine nh (λ(vD:(b.size==1)=true)=>?_) λ(vD:¬(b.size==1)=true)=>?_
 .exact bv<|h _ _ (SameG.refl _)<|Gd o T m1<|by simpa using vD
 have Fi:¬a.size-1=0:=by simpa using vE
 have kQ:¬b.size=1:=by simpa using vD
 refine be<|dU ?_;refine be (jb (gv (I:=λx c aQ=>SameG st aQ/\∃na nb out mg,c=(none,na,nb,out,mg)/\qK lt a b out na nb/\na+nb+x+1<=a.size+b.size)
  (Q:=λc aQ=>SameG st aQ/\∃res r,c=(some res,r)/\o9 lt a.toList b.toList res.toList) ?step ?fin ?init) ?post)
 case init=>exact⟨SameG.refl _,(l9 _ _ _ _ ⟨rfl,⟨m1,by lia,by lia,by lia,by lia⟩,by lia⟩)⟩
 case fin=>
  intro c aQ bV;refine hid λCg bW=>?_;obtain⟨_,na,nb,out,mg,rfl,⟨_,h1,h2,h3,h4⟩,h5⟩:=bV;refine bW ?_;lia
 case post=>
  intro c aQ bV;refine hid λCg bW=>?_;obtain⟨sg,res,r,rfl,hm⟩:=bV;refine bW ?_;exact bv<|h _ _ sg hm
 case step=>
  intro x c aQ _ hx bV;refine hid λCg bW=>?_;obtain⟨sg,na,nb,out,mg,rfl,L,hp⟩:=bV;refine bW ?_;dsimp only;refine be (jb (gv (I:=λy c aQ=>SameG st aQ/\∃kW kU cR ac bc,c=(none,kW,kU,cR,ac,bc)/\qK lt a b cR kW kU/\kW+kU<=na+nb)
   (Q:=λc aQ=>SameG st aQ/\((∃res r,c=(some res,r)/\o9 lt a.toList b.toList res.toList)\/∃kW kU cR ac bc,c=(none,kW,kU,cR,ac,bc)/\qK lt a b cR kW kU/\kW+kU<=na+nb)) ?istep ?ifin ?iinit) ?ipost)
  case iinit=>exact⟨sg,(lv _ _ _ _ _ ⟨rfl,L,ao _⟩)⟩
  case ifin=>
   rintro c lW ⟨bM,aY⟩;exact⟨bM,.inr aY⟩
  case istep=>
   intro y c lW _ hy bV;refine hid λCg bW=>?_;obtain⟨bM,kW,kU,cR,ac,bc,rfl,⟨m,l1,l2,l3,l4⟩,nJ⟩:=bV;refine bW ?_;obtain⟨n1,rfl⟩:∃n1,kW=n1+1:=⟨kW-1,by lia⟩;obtain⟨n2,rfl⟩:∃n2,kU=n2+1:=⟨kU-1,by lia⟩;dsimp only[Nat.add_sub_cancel];have gY:b[n2]?=some (b[n2]'(by lia)):=by simp
   have gP:a[n1]?=some (a[n1]'(by lia)):=by simp
   refine be<|ox gY<|be<|ox gP<|be<|Ed C (bM.1.trans hk) (mC _ _ gY) (gX _ _ gP) ?_;cases hl:lt b[n2] a[n1]with
   | true=>
    dsimp only;simp only[if_true];refine be<|ox gP ?_;have m2:=Lb T m gP<|Ea o T.sB gY<|o.asy _ _ hl;try simp only[Nat.add_sub_cancel]
    refine nh (λ(he:(n1==0)=true)=>?_) λ(he:¬(n1==0)=true)=>?_
    .exact bv ⟨bM,.inl<|l0 _ _ ⟨rfl,D7 T m2<|by simpa using he⟩⟩
    .have iZ:¬n1=0:=by simpa using he
     have L2:qK lt a b (cR.push a[n1]) n1 (n2+1):=⟨m2,by lia,by lia,by lia,by lia⟩;split
     .exact bv ⟨bM,.inr<|lv _ _ _ _ _ ⟨rfl,L2,by lia⟩⟩
     .exact bv ⟨bM,(lv _ _ _ _ _ ⟨rfl,L2,by lia⟩)⟩
   | false=>
    dsimp only;simp only[a9,if_false];refine be<|ox gY ?_;have m2:=apo T m gY<|Ea o T.sA gP hl;try simp only[Nat.add_sub_cancel]
    refine nh (λ(he:(n2==1)=true)=>?_) λ(he:¬(n2==1)=true)=>?_
    .exact bv ⟨bM,.inl<|l0 _ _ ⟨rfl,Gd o T m2<|by simpa using he⟩⟩
    .have iZ:¬n2=1:=by simpa using he
     have L2:qK lt a b (cR.push b[n2]) (n1+1) n2:=⟨m2,by lia,by lia,by lia,by lia⟩;split
     .exact bv ⟨bM,.inr<|lv _ _ _ _ _ ⟨rfl,L2,by lia⟩⟩
     .exact bv ⟨bM,(lv _ _ _ _ _ ⟨rfl,L2,by lia⟩)⟩
  case ipost=>
   intro c lW bV;refine hid λCg bW=>?_
   (rcases bV with ⟨bM,(⟨res,r,rfl,hm⟩|⟨kW,kU,cR,ac,bc,rfl,L2,wP⟩)⟩)<;>refine bW ?_
   .dsimp only;exact bv ⟨bM,(l0 _ _ ⟨rfl,hm⟩)⟩
   .dsimp only;refine be<|hU<|jl ⟨rfl,?_⟩;refine be (jb (gv (I:=λy c aQ=>SameG st aQ/\∃eC bK bB dL ac bc,c=(none,eC,bK,bB,dL,ac,bc)/\qK lt a b bB eC bK/\eC+bK+y<=kW+kU)
     (Q:=λc aQ=>SameG st aQ/\((∃res r,c=(some res,r)/\o9 lt a.toList b.toList res.toList)\/∃eC bK bB dL ac bc,c=(none,eC,bK,bB,dL,ac,bc)/\qK lt a b bB eC bK/\eC+bK+1<=kW+kU)) ?jstep ?jfin ?jinit) ?jpost)
    case jinit=>exact⟨bM,(lv _ _ _ _ _ ⟨_,rfl,L2,ao _⟩)⟩
    case jfin=>
     intro c jZ bV;refine hid λCg bW=>?_;obtain⟨dB,eC,bK,bB,dL,Ef,vL,rfl,L3,rO⟩:=bV;refine bW ?_;exact⟨dB,.inr<|lv _ _ _ _ _ ⟨_,rfl,L3,by lia⟩⟩
    case jpost=>
     intro c jZ bV;refine hid λCg bW=>?_
     (rcases bV with ⟨dB,(⟨res,r,rfl,hm⟩|⟨eC,bK,bB,dL,Ef,vL,rfl,L3,rO⟩)⟩)<;>refine bW ?_
     .dsimp only;exact bv ⟨dB,(l0 _ _ ⟨rfl,hm⟩)⟩
     .dsimp only;refine be<|Bw ?_;exact bv ⟨dB.gal _,(l9 _ _ _ _ ⟨rfl,L3,by lia⟩)⟩
    case jstep=>
     intro y c jZ _ hy bV;refine hid λCg bW=>?_;obtain⟨dB,eC,bK,bB,dL,Ef,vL,rfl,⟨m3,l1,l2,l3,l4⟩,rO⟩:=bV;refine bW ?_;dsimp only;have gY:b[bK-1]?=some (b[bK-1]'(by lia)):=by simp
     have lX:∀(fR:Array aI)(cK rA eQ k k1:Nat)(cW:aN),SameG st cW->MidH lt a.toList b.toList fR.reverse.toList cK rA->0<cK->1<rA->cK<=a.size->rA<=b.size->(∀z,a[cK-1]?=some z->∀u∈b.toList.take rA,lt z u=false)->cK+rA+y+1<=kW+kU->
       iW (aH prog w) A E s (do
        let z2 <-jM a (cK-1)
        if (cK-1==0)=true then
         aR (ForInStep.done (some<|a.extract 0 (cK-1)++b.extract 0 rA++(fR.push z2).reverse,cK-1,rA,fR.push z2,eQ,k,k1))
        else if (decide (k<7)&&decide (k1<7))=true then aR (ForInStep.done (none,cK-1,rA,fR.push z2,eQ,k,k1))
        else aR (ForInStep.yield (none,cK-1,rA,fR.push z2,eQ,k,k1)))
       (λr aQ=>match r with
        | .done c'=>SameG st aQ/\((∃res r,c'=(some res,r)/\o9 lt a.toList b.toList res.toList)\/∃eC bK bB dL ac bc,c'=(none,eC,bK,bB,dL,ac,bc)/\qK lt a b bB eC bK/\eC+bK+1<=kW+kU)
        | .yield c'=>SameG st aQ/\∃eC bK bB dL ac bc,c'=(none,eC,bK,bB,dL,ac,bc)/\qK lt a b bB eC bK/\eC+bK+(y+1)<=kW+kU) cW:=by
      intro fR cK rA eQ k k1 cW dJ m5 q1 q2 q3 q4 hu CF;have gP:a[cK-1]?=some (a[cK-1]'(by lia)):=by simp
      refine be<|ox gP ?_;have m6:=Lb (na:=cK-1) T (by rw[show cK-1+1=cK by lia];exact m5) gP<|hu _ gP;refine nh (λ(he:(cK-1==0)=true)=>?_) λ(he:¬(cK-1==0)=true)=>?_
      .exact bv ⟨dJ,.inl<|l0 _ _ ⟨rfl,D7 T m6<|by simpa using he⟩⟩
      .have iZ:¬cK-1=0:=by simpa using he
       have L6:qK lt a b (fR.push a[cK-1]) (cK-1) rA:=⟨m6,by lia,by lia,by lia,by lia⟩;split
       .exact bv ⟨dJ,.inr<|lv _ _ _ _ _ ⟨_,rfl,L6,by lia⟩⟩
       .exact bv ⟨dJ,(lv _ _ _ _ _ ⟨_,rfl,L6,by lia⟩)⟩
     have aY:∀(bJ:Array aI)(cK eQ k:Nat)(cW:aN),SameG st cW->MidH lt a.toList b.toList bJ.reverse.toList cK bK->0<cK->cK<=a.size->(∀z∈a.toList.take cK,lt b[bK-1] z=false)->cK+bK+y<=kW+kU->
       iW (aH prog w) A E s (do
        let z <-jM b (bK-1)
        if (bK-1==1)=true then
         aR (ForInStep.done (some<|b.extract 0 (bK-1)++a.extract 0 cK++(bJ.push z).reverse,cK,bK-1,bJ.push z,eQ,k,vL))
        else do
         let z1 <-jM a (cK-1)
         let x <-Ek true z1 b 0 (bK-1) (bK-1-1)
         match x with
         | some bY=>
          if bK-1-bY>0 then
           if (bY==1)=true then
            aR (ForInStep.done (some<|b.extract 0 bY++a.extract 0 cK++(bJ.push z++(b.extract bY<|bK-1).reverse).reverse,cK,bY,(bJ.push z++(b.extract bY<|bK-1).reverse),eQ,k,bK-1-bY))
           else if (bY==0)=true then
            aR (ForInStep.done (some<|a.extract 0 cK++b.extract 0 bY++(bJ.push z++(b.extract bY<|bK-1).reverse).reverse,cK,bY,(bJ.push z++(b.extract bY<|bK-1).reverse),eQ,k,bK-1-bY))
           else do
            let z2 <-jM a (cK-1)
            if (cK-1==0)=true then
             aR (ForInStep.done (some<|a.extract 0 (cK-1)++b.extract 0 bY++((bJ.push z++(b.extract bY<|bK-1).reverse).push z2).reverse,cK-1,bY,(bJ.push z++(b.extract bY<|bK-1).reverse).push z2,eQ,k,bK-1-bY))
            else if (decide (k<7)&&decide (bK-1-bY<7))=true then aR (ForInStep.done (none,cK-1,bY,(bJ.push z++(b.extract bY<|bK-1).reverse).push z2,eQ,k,bK-1-bY))
            else aR (ForInStep.yield (none,cK-1,bY,(bJ.push z++(b.extract bY<|bK-1).reverse).push z2,eQ,k,bK-1-bY))
          else do
           let z2 <-jM a (cK-1)
           if (cK-1==0)=true then
            aR (ForInStep.done (some<|a.extract 0 (cK-1)++b.extract 0 (bK-1)++((bJ.push z).push z2).reverse,cK-1,(bK-1),(bJ.push z).push z2,eQ,k,bK-1-bY))
           else if (decide (k<7)&&decide (bK-1-bY<7))=true then aR (ForInStep.done (none,cK-1,(bK-1),(bJ.push z).push z2,eQ,k,bK-1-bY))
           else aR (ForInStep.yield (none,cK-1,(bK-1),(bJ.push z).push z2,eQ,k,bK-1-bY))
         | _=>aR<|ForInStep.done (some<|a.extract 0 cK++b.extract 0 (bK-1)++(bJ.push z).reverse,cK,bK-1,bJ.push z,eQ,k,vL))
       (λr aQ=>match r with
        | .done c'=>SameG st aQ/\((∃res r,c'=(some res,r)/\o9 lt a.toList b.toList res.toList)\/∃eC bK bB dL ac bc,c'=(none,eC,bK,bB,dL,ac,bc)/\qK lt a b bB eC bK/\eC+bK+1<=kW+kU)
        | .yield c'=>SameG st aQ/\∃eC bK bB dL ac bc,c'=(none,eC,bK,bB,dL,ac,bc)/\qK lt a b bB eC bK/\eC+bK+(y+1)<=kW+kU) cW:=by
      intro bJ cK eQ k cW dJ m4 q1 q3 mE Ii;refine be<|ox gY ?_;have m5:=apo (nb:=bK-1) T (by rw[show bK-1+1=bK by lia];exact m4) gY mE;refine nh (λ(he:(bK-1==1)=true)=>?_) λ(he:¬(bK-1==1)=true)=>?_
      .exact bv ⟨dJ,.inl<|l0 _ _ ⟨rfl,Gd o T m5<|by simpa using he⟩⟩
      have iZ:¬bK-1=1:=by simpa using he
      have gP:a[cK-1]?=some (a[cK-1]'(by lia)):=by simp
      refine be<|ox gP ?_;refine be<|LZ (st:=cW) (base:=0) (n:=bK-1) (hint:=bK-1-1) C o (dJ.1.trans hk) (gX _ _ gP) (by lia) (λi z hi hz=>mC _ z hz) (by lia) (λi j y z cN hj hy hz=>xo o T.sB (show 0+i<=0+j by lia) hy hz) λbY kN h1 h2=>?_;dsimp only;have m6:=m5.pushB T.sB (i:=bY) kN λx hx u hu=>by have Cq:lt u a[cK-1]=false:=LQ (P:=λu=>lt u a[cK-1]=false) (λi z hi hn hz=>h2 i z hi hn<|by rw[Nat.zero_add];exact hz) u hu;exact Ea o T.sA gP Cq x<|by rw[show cK-1+1=cK by lia];exact hx
      have e6:(bJ.push b[bK-1]++(b.extract bY<|bK-1).reverse).reverse.toList=(b.toList.take<|bK-1).drop bY++(bJ.push b[bK-1]).reverse.toList:=Lw _ _ kN;rw[<-e6]at m6;have AK:∀z,a[cK-1]?=some z->∀u∈b.toList.take bY,lt z u=false:=λz hz=>by rw[gP]at hz;cases hz;intro u hu;refine o.asy _ _<|x9 (base:=0) (P:=λu=>lt u a[cK-1]=true) h1 u ?_;rw[jv];exact hu
      refine nh (λ(iY:bK-1-bY>0)=>?_) λ(iY:¬(bK-1-bY>0))=>?_
      .refine nh (λ(lM:(bY==1)=true)=>?_) λ(lM:¬(bY==1)=true)=>?_
       .exact bv ⟨dJ,.inl<|l0 _ _ ⟨rfl,Gd o T m6<|by simpa using lM⟩⟩
       have Jc:¬bY=1:=by simpa using lM
       refine nh (λ(Jb:(bY==0)=true)=>?_) λ(Jb:¬(bY==0)=true)=>?_
       .exact bv ⟨dJ,.inl<|l0 _ _ ⟨rfl,avn T m6<|by simpa using Jb⟩⟩
       have he5:¬bY=0:=by simpa using Jb
       exact lX _ cK bY eQ k _ cW dJ m6 q1 (by lia) q3 (by lia) AK<|by lia
      .have e0:bY=bK-1:=by lia
       rw[e0]at AK;exact lX _ cK (bK-1) eQ k _ cW dJ m5 q1 (by lia) q3 (by lia) AK<|by lia
     refine nh (λ(uT:dL>1)=>?_) λ(uT:¬(dL>1))=>?_
     .refine be<|Bw ?_;have dJ:SameG st (vo jZ<|dL-1):=dB.gal _;refine be<|ox gY ?_;refine be<|xt (st:=vo jZ<|dL-1) (base:=0) (n:=eC) (hint:=eC-1) C o (dJ.1.trans hk) (mC _ _ gY) (by lia) (λi z hi hz=>gX _ z hz) (by lia) (λi j y z cN hj hy hz=>xo o T.sA (show 0+i<=0+j by lia) hy hz) λbY kN h1 h2=>?_;have m4:=m3.pushA T.sA (i:=bY) kN λx hx u hu=>by
       have Cq:lt b[bK-1] u=true:=LQ (P:=λu=>lt b[bK-1] u=true) (λi z hi hn hz=>h2 i z hi hn<|by rw[Nat.zero_add];exact hz) u hu;exact Ea o T.sB gY (o.asy _ _ Cq) x<|by rw[show bK-1+1=bK by lia];exact hx
      have e4:(bB++(a.extract bY eC).reverse).reverse.toList=(a.toList.take eC).drop bY++bB.reverse.toList:=Lw _ _ kN;rw[<-e4]at m4;have mE:∀z∈a.toList.take bY,lt b[bK-1] z=false:=λz hz=>x9 (base:=0) (P:=λz=>lt b[bK-1] z=false) h1 z (by rw[jv];exact hz);dsimp only;refine nh (λ(iY:eC-bY>0)=>?_) λ(iY:¬(eC-bY>0))=>?_
      .refine nh (λ(he:(bY==0)=true)=>?_) λ(he:¬(bY==0)=true)=>?_
       .exact bv ⟨dJ,.inl<|l0 _ _ ⟨rfl,D7 T m4<|by simpa using he⟩⟩
       have iZ:¬bY=0:=by simpa using he
       refine jb (aY _ bY (dL-1) _ _ dJ m4 (by lia) (by lia) mE<|by lia) λr aQ hr=>?_;cases r<;>exact hr
      .have e0:bY=eC:=by lia
       rw[e0]at mE;refine jb (aY bB eC (dL-1) _ _ dJ m3 (by lia) (by lia) mE rO) λr aQ hr=>?_;cases r<;>exact hr
     .refine be<|Bw ?_;have dJ:SameG st (vo jZ<|dL):=dB.gal _;refine be<|ox gY ?_;refine be<|xt (st:=vo jZ<|dL) (base:=0) (n:=eC) (hint:=eC-1) C o (dJ.1.trans hk) (mC _ _ gY) (by lia) (λi z hi hz=>gX _ z hz) (by lia) (λi j y z cN hj hy hz=>xo o T.sA (show 0+i<=0+j by lia) hy hz) λbY kN h1 h2=>?_;have m4:=m3.pushA T.sA (i:=bY) kN λx hx u hu=>by
       have Cq:lt b[bK-1] u=true:=LQ (P:=λu=>lt b[bK-1] u=true) (λi z hi hn hz=>h2 i z hi hn<|by rw[Nat.zero_add];exact hz) u hu;exact Ea o T.sB gY (o.asy _ _ Cq) x<|by rw[show bK-1+1=bK by lia];exact hx
      have e4:(bB++(a.extract bY eC).reverse).reverse.toList=(a.toList.take eC).drop bY++bB.reverse.toList:=Lw _ _ kN;rw[<-e4]at m4;have mE:∀z∈a.toList.take bY,lt b[bK-1] z=false:=λz hz=>x9 (base:=0) (P:=λz=>lt b[bK-1] z=false) h1 z (by rw[jv];exact hz);dsimp only;refine nh (λ(iY:eC-bY>0)=>?_) λ(iY:¬(eC-bY>0))=>?_
      .refine nh (λ(he:(bY==0)=true)=>?_) λ(he:¬(bY==0)=true)=>?_
       .exact bv ⟨dJ,.inl<|l0 _ _ ⟨rfl,D7 T m4<|by simpa using he⟩⟩
       have iZ:¬bY=0:=by simpa using he
       refine jb (aY _ bY (dL) _ _ dJ m4 (by lia) (by lia) mE<|by lia) λr aQ hr=>?_;cases r<;>exact hr
      .have e0:bY=eC:=by lia
       rw[e0]at mE;refine jb (aY bB eC (dL) _ _ dJ m3 (by lia) (by lia) mE rO) λr aQ hr=>?_;cases r<;>exact hr
end
noncomputable def Fk(f:aI->Int)(xs:Array aI)(i:Nat):Int:=(xs[i]?.map f).getD 0
noncomputable abbrev fl(f:aI->Int)(x y:aI):Bool:=decide<|f x<f y
def Gb(f:aI->Int):nN (fl f):=⟨λx y h=>by simp at h⊢;omega,λx y z h1 h2=>by simp at h1 h2⊢;omega⟩
def Seg(f:aI->Int)(xs:Array aI)(lo n:Nat):Prop:=∀i j,lo<=i->i<=j->j<lo+n->Fk f xs i<=Fk f xs j
def Dsc(f:aI->Int)(xs:Array aI)(lo n:Nat):Prop:=∀i j,lo<=i->i<=j->j<lo+n->Fk f xs j<=Fk f xs i
structure TB(κ:aW)(a₀:Array aI)(st:aN):Prop where
 perm:(aJ st).Perm a₀
 kind:kindOf st=κ
 failed:bO st=none
structure Fr(lo:Nat)(st aQ:aN):Prop where
 pend:aM aQ=aM st
 low:∀i,i<lo->(aJ aQ)[i]?=(aJ st)[i]?
def Fr.refl(lo:Nat)(st:aN):Fr lo st st:=⟨rfl,λ_ _=>rfl⟩
theorem Fr.trans{lo:Nat}{a b c:aN}(h:Fr lo a b)(k:Fr lo b c):Fr lo a c:=⟨k.pend.trans h.pend,λi hi=>(k.low i hi).trans (h.low i hi)⟩
theorem TB.size{κ:aW}{a₀:Array aI}{st:aN}(h:TB κ a₀ st):(aJ st).size=a₀.size:=h.perm.size_eq
def TB.set{κ:aW}{a₀:Array aI}{st:aN}(h:TB κ a₀ st){xs:Array aI}(hp:xs.Perm (aJ st)):TB κ a₀ (jQ st xs):=⟨hp.trans h.perm,h.kind,h.failed⟩
def yw{f:aI->Int}{xs ys:Array aI}{i j:Nat}(h:xs[i]?=ys[j]?):Fk f xs i=Fk f ys j:=by unfold Fk;rw[h]
def Lg{f:aI->Int}{xs:Array aI}{i j:Nat}(hj:j<=xs.size)(k:Nat):Fk f (hZ xs i j<|(j-i)/2) k=if i<=k/\k<j then Fk f xs (i+j-1-k)else Fk f xs k:=by
 have e:=zO (i:=i) hj k;split
 .rename_i h;rw[if_pos h]at e;exact yw e
 .rename_i h;rw[if_neg h]at e;exact yw e
def ye{f:aI->Int}{xs:Array aI}{i j:Nat}(hj:j<=xs.size)(he:∀k,i<=k->k<j->Fk f xs k=Fk f xs (j-1))(k:Nat):Fk f (hZ xs i j<|(j-i)/2) k=Fk f xs k:=by
 rw[Lg hj];split
 .rw[he _ (by omega) (by omega),he k (by omega)<|by omega]
 .rfl
def ap7{f:aI->Int}{xs:Array aI}{c d:Nat}(hs:c<xs.size)(hd:d<=c)(k:Nat) :
  Fk f (Bg xs c d) k=if k=c-d then Fk f xs c else if c-d<k/\k<=c then Fk f xs (k-1)else Fk f xs k:=by
 have e:=JD hs d hd k;split
 .rename_i h;rw[if_pos h]at e;exact yw e
 .rename_i h
  rw[if_neg h]at e;split
  .rename_i h2;rw[if_pos h2]at e;exact yw e
  .rename_i h2;rw[if_neg h2]at e;exact yw e
def Fr.mir{lo:Nat}{st:aN}{i j:Nat}(hi:lo<=i)(hj:j<=(aJ st).size):Fr lo st (jQ st<|hZ (aJ st) i j<|(j-i)/2):=
 ⟨rfl,λk hk=>by show(hZ (aJ st) i j<|(j-i)/2)[k]?=_;rw[zO hj,if_neg<|by omega]⟩
def Fr.bub{lo:Nat}{st:aN}{c d:Nat}(hs:c<(aJ st).size)(hd:lo<=c-d)(jJ:d<=c):Fr lo st (jQ st<|Bg (aJ st) c d):=
 ⟨rfl,λk hk=>by show(Bg (aJ st) c d)[k]?=_;rw[JD hs d jJ,if_neg<|by omega,if_neg<|by omega]⟩
section
variable{prog:aK}{w:aO}{A:Around}{E:aA->aB->Prop}{s:aB}
variable{κ:aW}{mem:aI->Prop}{f:aI->Int}{a₀:Array aI}
def TB.at{st:aN}(h:TB κ a₀ st)(hm:∀x∈a₀.toList,mem x){i:Nat}(hi:i<a₀.size):∃x,(aJ st)[i]?=some x/\mem x/\f x=Fk f (aJ st) i:=by
 have dO:i<(aJ st).size:=by rw[h.size];exact hi
 have e:(aJ st)[i]?=some (aJ st)[i]:=getElem?_pos _ i dO;refine⟨_,e,hm _<|(jn.mp h.perm).mem_iff.mp (by simp),?_⟩;unfold Fk;rw[e];rfl
def Eg(C:mP prog w A s κ mem (fl f))(hm:∀x∈a₀.toList,mem x){st:aN}(B:TB κ a₀ st){i j:Nat}(hi:i<a₀.size)(hj:j<a₀.size){Q:Option Bool->aN->Prop}
  (h:Q (some<|decide<|Fk f (aJ st) i<Fk f (aJ st) j) st):iW (aH prog w) A E s (ltAt' i j) Q st:=by
 obtain⟨x,e1,m1,k1⟩:=B.at (f:=f) hm hi;obtain⟨y,e2,m2,k2⟩:=B.at (f:=f) hm hj;rw[ltAt'_eq];refine be<|dU<|be<|ox e1<|be<|ox e2<|Ed C B.kind m1 m2 ?_;rw[<-k1,<-k2]at h;exact h
def Gi{st:aN}{i j:Nat}{Q:Unit->aN->Prop}(h:Q () (jQ st<|hZ (aJ st) i j<|(j-i)/2)):iW (aH prog w) A E s (fH i j) Q st:=by rw[reverseSlice'_eq];exact cD h
noncomputable abbrev UpS:=Option (Option Nat)×Nat
noncomputable abbrev DnS:=Option (Option Nat)×Nat×Nat
noncomputable def D9(lo a bF:Nat):StateT aN nP UpS:=xH [a:bF] ((none,a):UpS) λ_ c=>do
 let q <-ltAt' (lo+c.snd) (lo+c.snd-1)
 match q with
 | some b=>if b=true then aR (.done (none,c.snd))else aR (.yield (none,c.snd+1))
 | _=>aR<|.done (some none,c.snd)
noncomputable def DX(lo n bF:Nat):StateT aN nP (Option Nat):=do
 fH lo (lo+n)
 let c <-D9 lo n bF
 match c.fst with
 | some r=>aR r
 | none=>aR<|some c.snd
noncomputable def F1(lo n bF:Nat):StateT aN nP DnS:=xH [n:bF] ((none,n,0):DnS) λ_ c=>do
 let q <-ltAt' (lo+c.snd.fst) (lo+c.snd.fst-1)
 match q with
 | some b=>
  if b=true then
   if c.snd.snd>0 then do
    fH (lo+c.snd.fst-(c.snd.snd+1)) (lo+c.snd.fst)
    aR (.yield (none,c.snd.fst+1,0))
   else aR (.yield (none,c.snd.fst+1,0))
  else do
   let q2 <-ltAt' (lo+c.snd.fst-1) (lo+c.snd.fst)
   match q2 with
   | some b2=>if b2=true then aR (.done (none,c.snd.fst,c.snd.snd))else aR (.yield (none,c.snd.fst+1,c.snd.snd+1))
   | _=>aR (.done (some none,c.snd.fst,c.snd.snd))
 | _=>aR<|.done (some none,c.snd.fst,c.snd.snd)
noncomputable def DY(lo n bF:Nat):StateT aN nP (Option Nat):=do
 liftM (tJ "list.sort.descending-run")
 let c <-F1 lo (n+1) bF
 match c.fst with
 | some r=>aR r
 | none=>
  if c.snd.snd>0 then do
   fH (lo+c.snd.fst-(c.snd.snd+1)) (lo+c.snd.fst)
   DX lo c.snd.fst bF
  else DX lo c.snd.fst bF
theorem anr(lo bF:Nat):countRun' lo bF=(do
  let c <-D9 lo 1 bF
  match c.fst with
  | some r=>aR r
  | none=>
   if (c.snd==bF)=true then aR (some c.snd)
   else if c.snd>1 then do
    let q <-ltAt' lo (lo+c.snd-1)
    match q with
    | some b=>if b=true then aR (some c.snd)else do
      fH lo (lo+c.snd)
      DY lo c.snd bF
    | _=>aR none
   else DY lo c.snd bF):=by
 rw[countRun'_eq];dsimp only;unfold DY DX F1 D9
 congr 1
 funext c
 obtain⟨r,n⟩:=c;cases r with
 | some r=>rfl
 | none=>
  dsimp only;split
  .rfl
  .split
   .congr 1
    funext x
    cases x with
    | none=>rfl
    | some b=>
     dsimp only;split
     .rfl
     .congr 1
      funext _r
      (congr 1;funext _u;congr 1;congr 1;funext c2;obtain⟨r2,n2,q2⟩:=c2;cases r2 with
       | some r2=>rfl
       | none=>(dsimp only;split;(congr 1;funext _v;(congr 1;funext _w;congr 1;(funext c3;obtain⟨r3,n3⟩:=c3;cases r3<;>rfl)));(congr 1;funext _w;congr 1;(funext c3;obtain⟨r3,n3⟩:=c3;cases r3<;>rfl))))
   ·(congr 1;funext _u;congr 1;congr 1;funext c2;obtain⟨r2,n2,q2⟩:=c2;cases r2 with
     | some r2=>rfl
     | none=>(dsimp only;split;(congr 1;funext _v;(congr 1;funext _w;congr 1;(funext c3;obtain⟨r3,n3⟩:=c3;cases r3<;>rfl)));(congr 1;funext _w;congr 1;(funext c3;obtain⟨r3,n3⟩:=c3;cases r3<;>rfl))))
def apf(C:mP prog w A s κ mem (fl f))(hm:∀x∈a₀.toList,mem x){st:aN}{lo a bF:Nat}{Q:UpS->aN->Prop}(hn:lo+bF<=a₀.size)(ha:1<=a)(han:a<=bF)(B:TB κ a₀ st)(hs:Seg f (aJ st) lo a)
  (h:∀n,a<=n->n<=bF->Seg f (aJ st) lo n->(n=bF\/Fk f (aJ st) (lo+n)<Fk f (aJ st) (lo+n-1))->Q (none,n) st):iW (aH prog w) A E s (D9 lo a bF) Q st:=by
 unfold D9;refine gv (I:=λx c aQ=>aQ=st/\c=(none,x)/\Seg f (aJ st) lo x) ?step ?fin ⟨rfl,rfl,hs⟩
 case fin=>
  rintro c aQ ⟨rfl,rfl,eS⟩;rw[show ET a bF=bF from Nat.max_eq_right<|by lia]at eS⊢;exact h bF han (ao _) eS<|.inl rfl
 case step=>
  rintro x c aQ Jm hxn ⟨rfl,rfl,eS⟩;dsimp only;refine be<|Eg C hm B (by lia) (by lia) ?_;by_cases hl:Fk f (aJ aQ) (lo+x)<Fk f (aJ aQ) (lo+x-1)
  .simp only[hl,decide_true,if_true];exact bv<|h x Jm (by lia) eS<|.inr hl
  .simp only[hl,decide_false,a9,if_false];refine bv ⟨rfl,rfl,λi j hi cN hj=>?_⟩;by_cases IP:j<lo+x
   .exact eS i j hi cN IP
   .obtain rfl:j=lo+x:=by lia
    by_cases dO:i=lo+x
    .rw[dO];exact jm _
    .have:=eS i (lo+x-1) hi (by lia) (by lia);lia
noncomputable abbrev LU(f:aI->Int)(κ:aW)(a₀:Array aI)(lo bF:Nat)(st:aN)(Q:Option Nat->aN->Prop):Prop:=
 ∀m aQ,TB κ a₀ aQ->Fr lo st aQ->1<=m->m<=bF->Seg f (aJ aQ) lo m->Q (some m) aQ
def ab9(C:mP prog w A s κ mem (fl f))(hm:∀x∈a₀.toList,mem x){st0 st:aN}{lo n bF:Nat}{Q:Option Nat->aN->Prop}(hn:lo+bF<=a₀.size)(h1:1<=n)(uR:n<=bF)(B:TB κ a₀ st)(F:Fr lo st0 st)(hs:Dsc f (aJ st) lo n)
  (h:LU f κ a₀ lo bF st0 Q):iW (aH prog w) A E s (DX lo n bF) Q st:=by
 unfold DX;have hsz:lo+n<=(aJ st).size:=by rw[B.size];lia
 refine be<|Gi ?_;have B':TB κ a₀ (jQ st<|hZ (aJ st) lo (lo+n)<|(lo+n-lo)/2):=B.set<|lZ _ _ _ _;have F':=F.trans<|Fr.mir (ao lo) hsz;refine be<|apf C hm hn h1 uR B' ?_ λm AR pZ hsm _=>bv<|h m _ B' F' (by lia) pZ hsm;intro i j hi cN hj;show Fk f (hZ (aJ st) lo (lo+n)<|(lo+n-lo)/2) i<=Fk f (hZ (aJ st) lo (lo+n)<|(lo+n-lo)/2) j;rw[Lg hsz,Lg hsz,if_pos<|by lia,if_pos<|by lia];exact hs _ _ (by lia) (by lia)<|by lia
def yb{xs ys:Array aI}{lo x:Nat}(h1:1<=x)(hs:Dsc f xs lo x)(hk:∀k,Fk f ys k=Fk f xs k)(hl:Fk f xs (lo+x)<=Fk f xs (lo+x-1)):Dsc f ys lo (x+1):=by
 intro i j hi cN hj;rw[hk,hk];by_cases IP:j<lo+x
 .exact hs i j hi cN IP
 .obtain rfl:j=lo+x:=by lia
  by_cases dO:i=lo+x
  .rw[dO];exact jm _
  .have:=hs i (lo+x-1) hi (by lia) (by lia);lia
def ai9(C:mP prog w A s κ mem (fl f))(hm:∀x∈a₀.toList,mem x){st0 st:aN}{lo n bF:Nat}{Q:DnS->aN->Prop}(hn:lo+bF<=a₀.size)(h1:1<=n)(uR:n<=bF)(B:TB κ a₀ st)(F:Fr lo st0 st)(hs:Dsc f (aJ st) lo n)
  (h:∀m q aQ,TB κ a₀ aQ->Fr lo st0 aQ->n<=m->m<=bF->Dsc f (aJ aQ) lo m->q+1<=m->(∀i,lo+m-(q+1)<=i->i<lo+m->Fk f (aJ aQ) i=Fk f (aJ aQ) (lo+m-1))->Q (none,m,q) aQ) :
  iW (aH prog w) A E s (F1 lo n bF) Q st:=by
 unfold F1;refine gv (I:=λx c aQ=>∃q,c=(none,x,q)/\TB κ a₀ aQ/\Fr lo st0 aQ/\Dsc f (aJ aQ) lo x/\q+1<=x/\∀i,lo+x-(q+1)<=i->i<lo+x->Fk f (aJ aQ) i=Fk f (aJ aQ) (lo+x-1)) ?step ?fin ⟨0,rfl,B,F,hs,by lia,λi h1 h2=>by congr 1;lia⟩
 case fin=>
  intro c aQ bV;refine hid λCg bW=>?_;obtain⟨q,rfl,B',F',eS,hq,he⟩:=bV;refine bW ?_;rw[show ET n bF=bF from Nat.max_eq_right<|by lia]at eS hq he⊢;exact h bF q aQ B' F' uR (ao _) eS hq he
 case step=>
  intro x c aQ Jm hxn bV;refine hid λCg bW=>?_;obtain⟨q,rfl,B',F',eS,hq,he⟩:=bV;refine bW ?_;dsimp only;have hsz:lo+x<=(aJ aQ).size:=by rw[B'.size];lia
  refine be<|Eg C hm B' (by lia) (by lia) ?_;by_cases hl:Fk f (aJ aQ) (lo+x)<Fk f (aJ aQ) (lo+x-1)
  .simp only[hl,decide_true,if_true];refine nh (λ(Ia:q>0)=>?_) λ(Ia:¬(q>0))=>?_
   .exact be<|Gi<|bv ⟨0,rfl,B'.set<|lZ _ _ _ _,F'.trans<|Fr.mir (by lia) hsz,yb (by lia) eS (ye hsz he)<|Int.le_of_lt hl,by lia,λi h1 h2=>by congr 1;lia⟩
   .exact bv ⟨0,rfl,B',F',yb (by lia) eS (λ_=>rfl)<|Int.le_of_lt hl,by lia,λi h1 h2=>by congr 1;lia⟩
  .simp only[hl,decide_false,a9,if_false];refine be<|Eg C hm B' (by lia) (by lia) ?_;by_cases hg:Fk f (aJ aQ) (lo+x-1)<Fk f (aJ aQ) (lo+x)
   .simp only[hg,decide_true,if_true];exact bv<|h x q aQ B' F' Jm (by lia) eS hq he
   .simp only[hg,decide_false,a9,if_false];have hx:Fk f (aJ aQ) (lo+x)=Fk f (aJ aQ) (lo+x-1):=by lia
    refine bv ⟨q+1,rfl,B',F',yb (by lia) eS (λ_=>rfl)<|by lia,by lia,λi h1 h2=>?_⟩;rw[show lo+(x+1)-1=lo+x by lia];by_cases yZ:i=lo+x
    .rw[yZ]
    .rw[hx];exact he i (by lia)<|by lia
def acj(C:mP prog w A s κ mem (fl f))(hm:∀x∈a₀.toList,mem x){st0 st:aN}{lo n bF:Nat}{Q:Option Nat->aN->Prop}(hn:lo+bF<=a₀.size)(uR:n+1<=bF)(B:TB κ a₀ st)(F:Fr lo st0 st)(hs:Dsc f (aJ st) lo (n+1))
  (h:LU f κ a₀ lo bF st0 Q):iW (aH prog w) A E s (DY lo n bF) Q st:=by
 unfold DY;refine be<|hU<|jl ⟨rfl,?_⟩;refine be<|ai9 C hm hn (by lia) uR B F hs λm q aQ B' F' AR pZ eS hq he=>?_;dsimp only;have hsz:lo+m<=(aJ aQ).size:=by rw[B'.size];lia
 refine nh (λ(Ia:q>0)=>?_) λ(Ia:¬(q>0))=>?_
 .refine be<|Gi<|ab9 C hm hn (by lia) pZ (B'.set<|lZ _ _ _ _) (F'.trans<|Fr.mir (by lia) hsz) ?_ h;intro i j hi cN hj;show Fk f (hZ (aJ aQ) _ _ _) j<=Fk f (hZ (aJ aQ) _ _ _) i;rw[ye hsz he,ye hsz he];exact eS i j hi cN hj
 .exact ab9 C hm hn (by lia) pZ B' F' eS h
def asm(C:mP prog w A s κ mem (fl f))(hm:∀x∈a₀.toList,mem x){st:aN}{lo bF:Nat}{Q:Option Nat->aN->Prop}(hn:lo+bF<=a₀.size)(h1:1<=bF)(B:TB κ a₀ st)(h:LU f κ a₀ lo bF st Q) :
  iW (aH prog w) A E s (countRun' lo bF) Q st:=by
 rw[anr]
 refine be (apf C hm hn (ao 1) h1 B (λi j hi cN hj=>by obtain rfl:i=j:=by lia
                                                       exact jm _) λn AQ wR E3 hor=>?_)
 dsimp only;by_cases uR:n=bF
 .rw[if_pos (by simpa using uR)];exact bv<|h n st B (Fr.refl _ _) AQ wR E3
 .rw[if_neg (by simpa using uR)];have bS:Fk f (aJ st) (lo+n)<Fk f (aJ st) (lo+n-1):=hor.resolve_left uR;refine nh (λ(hgt:n>1)=>?_) λ(hgt:¬(n>1))=>?_
  .refine be<|Eg C hm B (by lia) (by lia) ?_;by_cases hr:Fk f (aJ st) lo<Fk f (aJ st) (lo+n-1)
   .simp only[hr,decide_true,if_true];exact bv<|h n st B (Fr.refl _ _) AQ wR E3
   .simp only[hr,decide_false,a9,if_false];have hsz:lo+n<=(aJ st).size:=by rw[B.size];lia
    have aS:∀k,lo<=k->k<lo+n->Fk f (aJ st) k=Fk f (aJ st) (lo+n-1):=by intro k hlk hk;have a1:=E3 lo k (by lia) hlk hk;have a2:=E3 k (lo+n-1) (by lia) (by lia) (by lia);lia
    refine be<|Gi<|acj C hm hn (by lia) (B.set<|lZ _ _ _ _) (Fr.mir (ao lo) hsz) (yb (xs:=aJ st) AQ ?_ (ye hsz aS)<|Int.le_of_lt bS) h;intro i j hi cN hj;rw[aS i (by lia) (by lia),aS j (by lia) hj];exact jm _
  .obtain rfl:n=1:=by lia
   refine acj C hm hn (by lia) B (Fr.refl _ _) (yb (xs:=aJ st) AQ ?_ (λ_=>rfl)<|Int.le_of_lt bS) h;intro i j hi cN hj;obtain rfl:i=j:=by lia
   exact jm _
theorem ar8(C:mP prog w A s κ mem (fl f))(hm:∀x∈a₀.toList,mem x){st:aN}{lo n ok:Nat}{Q:Bool->aN->Prop}(hn:lo+n<=a₀.size)(hok:ok<=n)(B:TB κ a₀ st)(hs:Seg f (aJ st) lo ok)
  (h:∀aQ,TB κ a₀ aQ->Fr lo st aQ->Seg f (aJ aQ) lo n->Q true aQ):iW (aH prog w) A E s (binarySort' lo n ok) Q st:=by
 rw[binarySort'_eq];refine be<|jb (gv (I:=λk c aQ=>c=(none,())/\TB κ a₀ aQ/\Fr lo st aQ/\Seg f (aJ aQ) lo (iA k n)) (Q:=λc aQ=>c=(none,())/\TB κ a₀ aQ/\Fr lo st aQ/\Seg f (aJ aQ) lo n) ?step ?fin ?init) ?post
 case post=>
  intro c aQ bV;refine hid λCg bW=>?_;obtain⟨rfl,B',F',eS⟩:=bV;refine bW ?_;exact bv<|h aQ B' F' eS
 case init=>
  refine⟨rfl,B,Fr.refl _ _,λi j hi cN hj=>?_⟩;by_cases h1:ok=0
  .obtain rfl:i=j:=by lia
   exact jm _
  .exact hs i j hi cN<|by lia
 case fin=>
  intro c aQ bV;refine hid λCg bW=>?_;obtain⟨hc,B',F',eS⟩:=bV;refine bW ?_;refine⟨hc,B',F',?_⟩
  rwa [show iA (ET (ET ok 1) n) n=n from Nat.min_eq_right<|Nat.le_max_right _ _]at eS
 case step=>
  intro k c aQ hak kN bV;refine hid λCg bW=>?_;obtain⟨rfl,B',F',eS⟩:=bV;refine bW ?_;rw[show iA k n=k from gd<|by lia]at eS;have hk:lo+k<a₀.size:=by lia
  refine be (jb (gv (I:=λx c cM=>cM=aQ/\∃l r,c=(none,l,r)/\l<=r/\r<=k/\r-l<=k-x/\(∀i,i<l->Fk f (aJ aQ) (lo+i)<=Fk f (aJ aQ) (lo+k))/\∀i,r<=i->i<k->Fk f (aJ aQ) (lo+k)<Fk f (aJ aQ) (lo+i))
   (Q:=λc cM=>cM=aQ/\∃l r,c=(none,l,r)/\l<=k/\(∀i,i<l->Fk f (aJ aQ) (lo+i)<=Fk f (aJ aQ) (lo+k))/\∀i,l<=i->i<k->Fk f (aJ aQ) (lo+k)<Fk f (aJ aQ) (lo+i)) ?istep ?ifin ?iinit) ?ipost)
  case iinit=>exact⟨rfl,(l0 0 k ⟨rfl,by lia,by lia,by lia,λi hi=>by lia,λi h1 h2=>by lia⟩)⟩
  case ifin=>
   intro c cM bV;refine hid λCg bW=>?_;obtain⟨rfl,l,r,rfl,hlr,HV,E8,tQ,AU⟩:=bV;refine bW ?_;obtain rfl:l=r:=by lia
   exact⟨rfl,(l0 l l ⟨rfl,HV,tQ,AU⟩)⟩
  case istep=>
   intro x c cM _ hxk bV;refine hid λCg bW=>?_;obtain⟨rfl,l,r,rfl,hlr,HV,E8,tQ,AU⟩:=bV;refine bW ?_;dsimp only;refine nh (λ(oK:l>=r)=>?_) λ(oK:¬(l>=r))=>?_
   .obtain rfl:l=r:=by lia
    exact bv ⟨rfl,(l0 l l ⟨rfl,HV,tQ,AU⟩)⟩
   .refine be<|Eg C hm B' hk (by lia) ?_;by_cases hl:Fk f (aJ cM) (lo+k)<Fk f (aJ cM) (lo+(l+r)/2)
    .simp only[hl,decide_true,if_true];refine bv ⟨rfl,(l0 l ((l+r)/2) ⟨rfl,by lia,by lia,by lia,tQ,λi h1 h2=>?_⟩)⟩;have:=eS (lo+(l+r)/2) (lo+i) (by lia) (by lia) (by lia);lia
    .simp only[hl,decide_false,a9,if_false];refine bv ⟨rfl,(l0 ((l+r)/2+1) r ⟨rfl,by lia,by lia,by lia,λi h1=>?_,AU⟩)⟩;have:=eS (lo+i) (lo+(l+r)/2) (by lia) (by lia) (by lia);lia
  case ipost=>
   intro c cM bV;refine hid λCg bW=>?_;obtain⟨rfl,l,r,rfl,hlk,tQ,AU⟩:=bV;refine bW ?_;show iW _ _ _ _ (do moveDown' (lo+k) (lo+l);aR (ForInStep.yield (none,()))) _ _;rw[moveDown'_eq];have dY:lo+k<(aJ cM).size:=by rw[B'.size];exact hk
   refine be<|cD<|bv ⟨rfl,B'.set<|bubble_perm _ _ _,F'.trans<|Fr.bub dY (by lia)<|by lia,?_⟩;rw[show iA (k+1) n=k+1 from gd<|by lia];intro i j hi cN hj;show Fk f (Bg (aJ cM) (lo+k)<|lo+k-(lo+l)) i<=Fk f (Bg (aJ cM) (lo+k)<|lo+k-(lo+l)) j;rw[ap7 dY (by lia),ap7 dY<|by lia,show lo+k-(lo+k-(lo+l))=lo+l by lia];have ID:∀i,lo<=i->i<lo+l->Fk f (aJ cM) i<=Fk f (aJ cM) (lo+k):=λi a1 a2=>by
    have:=tQ (i-lo) (by lia)
    rwa [show lo+(i-lo)=i by lia]at this
   have IR:∀i,lo+l<=i->i<lo+k->Fk f (aJ cM) (lo+k)<Fk f (aJ cM) i:=λi a1 a2=>by
    have:=AU (i-lo) (by lia) (by lia)
    rwa [show lo+(i-lo)=i by lia]at this
   repeat' split
   all_goals first
    | (exfalso;lia)
    | exact jm _
    | exact ID _ (by lia) (by lia)
    | exact Int.le_of_lt (IR _ (by lia)<|by lia)
    | exact eS _ _ (by lia) (by lia)<|by lia
end
noncomputable def uj(arr:Array aI)(l:Z (aI×Nat))(sa:Nat):Array aI:=l.foldl (λa q=>a.setIfInBounds (sa+q.2) q.1) arr
theorem tz(sa:Nat):∀(l:Z aI)(o:Nat)(arr:Array aI),sa+o+l.length<=arr.size->∀k,(uj arr (l.zipIdx o) sa)[k]?=if sa+o<=k/\k<sa+o+l.length then l[k-(sa+o)]? else arr[k]?
 | [],o,arr,h,k=>by show arr[k]?=_;rw[if_neg (by show ¬(sa+o<=k/\k<sa+o+0);lia)]
 | x::l,o,arr,h,k=>by
  have h':sa+o+(l.length+1)<=arr.size:=by simpa using h
  show(uj (arr.setIfInBounds (sa+o) x) (l.zipIdx<|o+1) sa)[k]?=_;rw[tz sa l (o+1) _ (by simp;lia) k];by_cases hk:k=sa+o
  .rw[if_neg (by lia),if_pos<|by simp;lia,hk];simp[Array.getElem?_setIfInBounds];lia
  .by_cases h2:sa+(o+1)<=k/\k<sa+(o+1)+l.length
   .rw[if_pos h2,if_pos<|by simp;lia];obtain⟨d,hd⟩:∃d,k-(sa+o)=d+1:=⟨k-(sa+o)-1,by lia⟩;rw[hd,List.getElem?_cons_succ]
    congr 1
    lia
   .rw[if_neg h2,if_neg<|by simp;lia,Array.getElem?_setIfInBounds_ne<|by lia]
def ahb{arr:Array aI}{l:Z aI}{sa:Nat}(h:sa+l.length<=arr.size):(uj arr l.zipIdx sa).toList=arr.toList.take sa++l++arr.toList.drop (sa+l.length):=by
 apply List.ext_getElem?;intro k;have e:=tz sa l 0 arr (by lia) k;rw[bm,e];have hs:arr.toList.length=arr.size:=by simp
 by_cases h1:k<sa
 .rw[if_neg (by lia),bq,db<|by simp;lia,fy h1,bm]
 .by_cases h2:k<sa+l.length
  .rw[if_pos (by lia),bq,cf<|by simp;lia,db<|by simp;lia]
   congr 1
   simp;lia
  .rw[if_neg (by lia),cf<|by simp;lia,gl,bm]
   congr 1
   simp;lia
def af9{arr:Array aI}{l:Z aI}{sa e:Nat}(he:sa<=e)(h:e<=arr.size)(hp:l.Perm (arr.extract sa e).toList):(uj arr l.zipIdx sa).Perm arr:=by
 have hl:l.length=e-sa:=by rw[hp.length_eq,a0,jq,gd h]
 rw[jn,ahb<|by lia];have e2:arr.toList=arr.toList.take sa++(arr.extract sa e).toList++arr.toList.drop (sa+l.length):=by
  rw[hl,show sa+(e-sa)=e by lia];have:(arr.extract sa e).toList=(arr.toList.drop sa).take (e-sa):=by simp
  rw[this]
  conv=>lhs;rw[<-e9 sa arr.toList,<-e9 (e-sa) (arr.toList.drop sa),List.drop_drop,show sa+(e-sa)=e by lia]
  rw[bq]
 refine List.Perm.trans ?_<|List.Perm.of_eq e2.symm;exact(ip _ hp).append_right _
def agx{f:aI->Int}{arr:Array aI}{l:Z aI}{sa e:Nat}(he:sa<=e)(h:e<=arr.size)(hp:l.Perm (arr.extract sa e).toList){k:Nat}(h1:sa<=k)(h2:k<e):∃q,sa<=q/\q<e/\Fk f (uj arr l.zipIdx sa) k=Fk f arr q:=by
 have hl:l.length=e-sa:=by rw[hp.length_eq,a0,jq,gd h]
 have e1:=tz sa l 0 arr (by lia) k;rw[if_pos (by lia)]at e1;have hk:k-(sa+0)<l.length:=by lia
 have hx:l[k-(sa+0)]∈(arr.extract sa e).toList:=hp.mem_iff.mp<|gp hk;obtain⟨q,hq⟩:=fk.mp hx;rw[bm]at hq;have nI:q<(arr.extract sa e).size:=(bx.mp hq).1;have HZ:q<e-sa:=by rw[jq,gd h]at nI;exact nI
 rw[Array.getElem?_extract,if_pos<|by rw[gd h];exact HZ]at hq;refine⟨sa+q,by lia,by lia,yw ?_⟩;rw[e1,hq,getElem?_pos l _ hk]
def ajf{f:aI->Int}{arr:Array aI}{l:Z aI}{sa e:Nat}(he:sa<=e)(h:e<=arr.size)(hl:l.length=e-sa){k:Nat}(h1:k<sa\/e<=k):(uj arr l.zipIdx sa)[k]?=arr[k]?:=by rw[tz sa l 0 arr (by lia) k,if_neg<|by lia]
def air{f:aI->Int}{arr:Array aI}{l:Z aI}{sa e:Nat}(he:sa<=e)(h:e<=arr.size)(hl:l.length=e-sa)(hs:Srt (fl f) l):Seg f (uj arr l.zipIdx sa) sa (e-sa):=by
 intro i j hi cN hj;have e1:=tz sa l 0 arr (by lia) i;have e2:=tz sa l 0 arr (by lia) j;rw[if_pos (by lia)]at e1 e2;have oJ:i-(sa+0)<l.length:=by lia
 have wV:j-(sa+0)<l.length:=by lia
 rw[getElem?_pos l _ oJ]at e1;rw[getElem?_pos l _ wV]at e2;unfold Fk;rw[e1,e2];show f _<=f _;by_cases hq:i=j
 .subst hq;exact jm _
 .have:=fq.mp hs (i-(sa+0)) (j-(sa+0)) oJ wV (by lia);simpa using this
section
variable{prog:aK}{w:aO}{A:Around}{E:aA->aB->Prop}{s:aB}
variable{κ:aW}{mem:aI->Prop}{f:aI->Int}{a₀:Array aI}
def avw{st aQ:aN}{Q:PUnit->aN->Prop}(h:Q ⟨⟩ aQ):iW (aH prog w) A E s (set aQ:StateT aN nP PUnit) Q st:=by unfold iW;rw[StateT.run_set];exact aj ⟨rfl,h⟩
def vy{xs:Array aI}{i:Nat}{x:aI}(h:xs[i]?=some x):Fk f xs i=f x:=by unfold Fk;rw[h];rfl
def ag2(C:mP prog w A s κ mem (fl f))(hm:∀x∈a₀.toList,mem x){st:aN}{i sa na pa sb nb pb:Nat}(B:TB κ a₀ st)(hi:(aM st)[i]?=some (sa,na,pa))(Fd:(aM st)[i+1]?=some (sb,nb,pb))(mF:sb=sa+na)(hna:1<=na)(hnb:1<=nb)(hsz:sb+nb<=a₀.size)
  (sA:Seg f (aJ st) sa na) (sB:Seg f (aJ st) sb nb) {Q:Bool->aN->Prop}
  (h:∀aQ,TB κ a₀ aQ->aM aQ=((aM st).setIfInBounds i (sa,na+nb,pa)).eraseIdxIfInBounds (i+1)->(∀k,k<sa\/sb+nb<=k->(aJ aQ)[k]?=(aJ st)[k]?)->Seg f (aJ aQ) sa (na+nb)->Q true aQ) :
  iW (aH prog w) A E s (mergeAt' i) Q st:=by
 refine be<|dU ?_;rw[hi,Fd];dsimp only;refine be<|avw ?_;have B1:TB κ a₀ (aN.mk' (kindOf st) (aJ st) (((aM st).setIfInBounds i (sa,na+nb,pa)).eraseIdxIfInBounds (i+1)) (oP st)<|bO st):=⟨B.perm,B.kind,B.failed⟩;have h1:=h _ B1 rfl;have h2:∀(g:Nat)(pL:Array aI),pL.Perm (aJ st)->(∀k,k<sa\/sb+nb<=k->pL[k]?=(aJ st)[k]?)->Seg f pL sa (na+nb)->Q true (aN.mk' (kindOf st) pL (((aM st).setIfInBounds i (sa,na+nb,pa)).eraseIdxIfInBounds (i+1)) g<|bO st):=
  λg pL hp ho hs=>h (aN.mk' (kindOf st) pL (((aM st).setIfInBounds i (sa,na+nb,pa)).eraseIdxIfInBounds (i+1)) g<|bO st) ⟨hp.trans B.perm,B.kind,B.failed⟩ rfl ho hs
 have oG:=B.size;show iW (aH prog w) A E s _ Q (aN.mk' (kindOf st) (aJ st) (((aM st).setIfInBounds i (sa,na+nb,pa)).eraseIdxIfInBounds (i+1)) (oP st)<|bO st);generalize Cw:aN.mk' (kindOf st) (aJ st) (((aM st).setIfInBounds i (sa,na+nb,pa)).eraseIdxIfInBounds (i+1)) (oP st) (bO st)=BS at B1 h1⊢;obtain⟨xb,exb,mxb,fxb⟩:=B.at (f:=f) hm (show sb<a₀.size by lia);have gX:∀i z,(aJ st)[i]?=some z->mem z:=λi z hz=>hm z<|(jn.mp B.perm).mem_iff.mp (by obtain⟨h1,h2⟩:=bx.mp hz;rw[<-h2];simp);have EW:aJ BS=aJ st:=by rw[<-Cw]
 refine be<|ox exb<|be<|xt (st:=BS) (base:=sa) (n:=na) (hint:=0) C (Gb f) B1.kind mxb (by lia) (λi z hi hz=>gX _ z hz) (by lia) (λi j y z cN hj hy hz=>?_) λk kN g1 g2=>?_
 .have:=sA (sa+i) (sa+j) (by lia) (by lia) (by lia);rw[vy hy,vy hz]at this;simpa using this
 have g1':∀q,sa<=q->q<sa+k->Fk f (aJ st) q<=Fk f (aJ st) sb:=λq q1 q2=>by obtain⟨z,ez,_,fz⟩:=B.at (f:=f) hm (show q<a₀.size by lia);have:=g1 (q-sa) z (by lia) (by rw[show sa+(q-sa)=q by lia];exact ez);rw[<-fxb,<-fz];simpa using this
 dsimp only;refine nh (λ(iY:(na-k==0)=true)=>?_) λ(iY:¬(na-k==0)=true)=>?_
 .have lB:na-k=0:=by simpa using iY
  refine bv<|h1 (λq _=>by rw[EW]) ?_;rw[EW];intro i j hi cN hj;by_cases wV:j<sb
  .exact sA i j hi cN<|by lia
  .by_cases oJ:i<sb
   .have a1:=g1' i hi (by lia);have a2:=sB sb j (ao _) (by lia) (by lia);lia
   .exact sB i j (by lia) cN<|by lia
 have lB:k<na:=by have:¬na-k=0:=by simpa using iY
                  lia
 obtain⟨xl,exl,mxl,fxl⟩:=B.at (f:=f) hm (show sb-1<a₀.size by lia);have JG:(aJ st)[sa+k+(na-k)-1]?=some xl:=by rw[show sa+k+(na-k)-1=sb-1 by rw[Nat.add_assoc,Nat.add_sub_cancel'<|fh lB,<-mF]];exact exl
 refine be<|ox JG<|be<|LZ (st:=BS) (base:=sb) (n:=nb) (hint:=nb-1) C (Gb f) B1.kind mxl (by lia) (λi z hi hz=>gX _ z hz) (by lia) (λi j y z cN hj hy hz=>?_) λn2 wR g3 g4=>?_
 .have:=sB (sb+i) (sb+j) (by lia) (by lia) (by lia);rw[vy hy,vy hz]at this;simpa using this
 have g4':∀q,sb+n2<=q->q<sb+nb->Fk f (aJ st) (sb-1)<=Fk f (aJ st) q:=λq q1 q2=>by obtain⟨z,ez,_,fz⟩:=B.at (f:=f) hm (show q<a₀.size by lia);have:=g4 (q-sb) z (by lia) (by lia) (by rw[show sb+(q-sb)=q by lia];exact ez);rw[<-fxl,<-fz];simpa using this
 dsimp only;refine nh (λ(CK:(n2==0)=true)=>?_) λ(CK:¬(n2==0)=true)=>?_
 .have AQ:n2=0:=by simpa using CK
  refine bv<|h1 (λq _=>by rw[EW]) ?_;rw[EW];intro i j hi cN hj;by_cases wV:j<sb
  .exact sA i j hi cN<|by lia
  .by_cases oJ:i<sb
   .have a1:=sA i (sb-1) hi (by lia) (by lia);have a2:=g4' j (by lia) (by lia);lia
   .exact sB i j (by lia) cN<|by lia
 have AQ:1<=n2:=by have:¬n2=0:=by simpa using CK
                   lia
 have ga:∀q,((aJ st).extract (sa+k) sb)[q]?=if q<sb-(sa+k)then(aJ st)[sa+k+q]? else none:=λq=>by rw[Array.getElem?_extract];have:iA sb (aJ st).size=sb:=gd (by lia);rw[this]
 have gb:∀q,((aJ st).extract sb (sb+n2))[q]?=if q<n2 then(aJ st)[sb+q]? else none:=λq=>by
  rw[Array.getElem?_extract];have:iA (sb+n2) (aJ st).size-sb=n2:=by rw[gd (by lia)];exact Nat.add_sub_cancel_left _ _
  rw[this]
 have za:((aJ st).extract (sa+k) sb).size=sb-(sa+k):=by rw[jq,gd<|by lia]
 have zb:((aJ st).extract sb (sb+n2)).size=n2:=by rw[jq,gd<|by lia];exact Nat.add_sub_cancel_left _ _
 have inA:∀z∈((aJ st).extract (sa+k) sb).toList,∃q,sa+k<=q/\q<sb/\(aJ st)[q]?=some z:=λz hz=>by
  obtain⟨q,hq⟩:=fk.mp hz;rw[bm,ga]at hq;by_cases nI:q<sb-(sa+k)
  .rw[if_pos nI]at hq;exact⟨_,by lia,by lia,hq⟩
  .rw[if_neg nI]at hq;cases hq
 have inB:∀z∈((aJ st).extract sb (sb+n2)).toList,∃q,q<n2/\(aJ st)[sb+q]?=some z:=λz hz=>by
  obtain⟨q,hq⟩:=fk.mp hz;rw[bm,gb]at hq;by_cases nI:q<n2
  .rw[if_pos nI]at hq;exact⟨_,nI,hq⟩
  .rw[if_neg nI]at hq;cases hq
 have wA:∀(lo m:Nat),lo+m<=(aJ st).size->Seg f (aJ st) lo m->Srt (fl f) ((aJ st).extract lo (lo+m)).toList:=λlo m uW hs=>by
  refine fq.mpr λi j hi hj cN=>?_;have zi:((aJ st).extract lo (lo+m)).toList.length=m:=by rw[a0,jq,gd uW];exact Nat.add_sub_cancel_left _ _
  have:=hs (lo+i) (lo+j) (by lia) (by lia) (by lia);rw[vy (getElem?_pos (aJ st) (lo+i)<|by lia),vy<|getElem?_pos (aJ st) (lo+j)<|by lia]at this;simpa using this
 have T:Two mem (fl f) ((aJ st).extract (sa+k) sb) ((aJ st).extract sb (sb+n2)):=by
  refine⟨λz hz=>?_,λz hz=>?_,?_,wA sb n2 (by lia) λi j hi cN hj=>sB i j hi cN<|by lia,by lia,by lia,λx y hx hy=>?_,λy hy x hx=>?_⟩
  .obtain⟨q,_,_,hq⟩:=inA z hz;exact gX q z hq
  .obtain⟨q,_,hq⟩:=inB z hz;exact gX _ z hq
  .have:=wA (sa+k) (na-k) (by lia) λi j hi cN hj=>sA i j (by lia) cN (by lia)
   rwa [show sa+k+(na-k)=sb by rw[Nat.add_assoc,Nat.add_sub_cancel'<|fh lB,<-mF]]at this
  .rw[gb,if_pos<|by lia]at hx;rw[ga,if_pos<|by lia]at hy;have e0:x=xb:=by rw[Nat.add_zero,exb]at hx;exact(ii hx).symm
   rw[e0];exact g2 k y (ao _) lB<|by simpa using hy
  .obtain⟨q,pC,hq⟩:=inB y hy;rw[za,ga,if_pos<|by lia,show sa+k+(sb-(sa+k)-1)=sb-1 by rw[<-Nat.add_sub_assoc (by lia),Nat.add_sub_cancel'<|by lia],exl]at hx;rw[<-ii hx];exact g3 q y pC hq
 have kH:((aJ st).extract (sa+k) sb).toList++((aJ st).extract sb (sb+n2)).toList=((aJ st).extract (sa+k) (sb+n2)).toList:=by
  rw[<-Array.toList_append,Array.extract_append_extract]
  congr 2<;>lia
 have fin:∀(out:Array aI)(aQ:aN),SameG BS aQ->o9 (fl f) ((aJ st).extract (sa+k) sb).toList ((aJ st).extract sb (sb+n2)).toList out.toList->Q true (jQ aQ<|uj (aJ aQ) out.toList.zipIdx<|sa+k):=by
  intro out aQ G M;have hp:out.toList.Perm ((aJ st).extract (sa+k) (sb+n2)).toList:=by rw[<-kH];exact M.1
  have hl:out.toList.length=sb+n2-(sa+k):=by rw[hp.length_eq,a0,jq,gd<|by lia]
  have e1:jQ aQ (uj (aJ aQ) out.toList.zipIdx<|sa+k)=aN.mk' (kindOf st) (uj (aJ st) out.toList.zipIdx<|sa+k) (((aM st).setIfInBounds i (sa,na+nb,pa)).eraseIdxIfInBounds (i+1)) (oP aQ) (bO st):=by show aN.mk' (kindOf aQ) (uj (aJ aQ) _ _) (aM aQ) (oP aQ) (bO aQ)=_;rw[G.1,G.2.1,G.2.2.1,G.2.2.2,<-Cw]
  rw[e1];have sM:=air (f:=f) (arr:=aJ st) (show sa+k<=sb+n2 by lia) (by lia) hl M.2;have xG:∀q,sa+k<=q->q<sb+n2->∃p,sa+k<=p/\p<sb+n2/\Fk f (uj (aJ st) out.toList.zipIdx<|sa+k) q=Fk f (aJ st) p:=λq q1 q2=>agx (f:=f) (show sa+k<=sb+n2 by lia) (by lia) hp q1 q2;have cR:∀q,q<sa+k\/sb+n2<=q->(uj (aJ st) out.toList.zipIdx<|sa+k)[q]?=(aJ st)[q]?:=λq hq=>ajf (f:=f) (show sa+k<=sb+n2 by lia) (by lia) hl hq;refine h2 _ _ (af9 (show sa+k<=sb+n2 by lia) (by lia) hp) (λq hq=>cR q<|by lia) ?_;have rB:∀i p,sa<=i->i<sa+k->sa+k<=p->p<sb+nb->Fk f (aJ st) i<=Fk f (aJ st) p:=λi p i1 i2 p1 p2=>by
   by_cases wP:p<sb
   .exact sA i p i1 (by lia)<|by lia
   .have a1:=g1' i i1 i2;have a2:=sB sb p (ao _) (by lia) (by lia);lia
  have C3:∀p j,sa<=p->p<sb+n2->sb+n2<=j->j<sb+nb->Fk f (aJ st) p<=Fk f (aJ st) j:=λp j p1 p2 j1 j2=>by
   by_cases wP:p<sb
   .have a1:=sA p (sb-1) p1 (by lia) (by lia);have a2:=g4' j j1 j2;lia
   .exact sB p j (by lia) (by lia)<|by lia
  intro i j hi cN hj;by_cases oJ:i<sa+k
  .rw[yw (f:=f) (cR i<|.inl oJ)];by_cases wV:j<sa+k
   .rw[yw (f:=f) (cR j<|.inl wV)];exact sA i j hi cN<|by lia
   .by_cases hj3:j<sb+n2
    .obtain⟨p,p1,p2,ep⟩:=xG j (by lia) hj3;rw[ep];exact rB i p hi oJ p1<|by lia
    .rw[yw (f:=f) (cR j<|.inr<|by lia)];exact rB i j hi oJ (by lia)<|by lia
  .by_cases hi3:i<sb+n2
   .by_cases hj3:j<sb+n2
    .exact sM i j (by lia) cN<|by lia
    .obtain⟨p,p1,p2,ep⟩:=xG i (by lia) hi3;rw[ep,yw (f:=f)<|cR j<|.inr<|by lia];exact C3 p j (by lia) p2 (by lia)<|by lia
   .rw[yw (f:=f) (cR i<|.inr<|by lia),yw (f:=f)<|cR j<|.inr<|by lia];exact sB i j (by lia) cN<|by lia
 have done:∀(out:Array aI)(aQ:aN),SameG BS aQ->o9 (fl f) ((aJ st).extract (sa+k) sb).toList ((aJ st).extract sb (sb+n2)).toList out.toList->
   iW (aH prog w) A E s (do
    modify λz=>jQ z<|uj (aJ z) out.toList.zipIdx<|sa+k
    let z <-get
    aR (bO z).isNone) Q aQ:=by
  intro out aQ G M;refine be<|cD<|be<|dU<|bv ?_;have e:(bO<|jQ aQ<|uj (aJ aQ) out.toList.zipIdx<|sa+k).isNone=true:=by show(bO aQ).isNone=true;rw[G.2.2.2,B1.failed];rfl
  rw[e];exact fin out aQ G M
 refine nh (λ(rS:na-k<=n2)=>?_) λ(rS:¬(na-k<=n2))=>?_
 .exact be<|ag3 C (Gb f) B1.kind T done
 .exact be<|agf C (Gb f) B1.kind T done
end
def sZ:Nat->Z (Nat×Nat×Nat)->Nat->Prop
 | a,[],b=>a=b
 | a,e::r,b=>e.1=a/\1<=e.2.1/\sZ (a+e.2.1) r b
theorem tile_app:∀{l1 l2:Z (Nat×Nat×Nat)} {a b:Nat},sZ a (l1++l2) b↔∃c,sZ a l1 c/\sZ c l2 b
 | [],l2,a,b=>⟨λh=>⟨a,rfl,h⟩,λ⟨c,h1,h2⟩=>by cases h1;exact h2⟩
 | e::r,l2,a,b=>⟨λh=>by obtain⟨c,h1,h2⟩:=tile_app.mp h.2.2;exact⟨c,⟨h.1,h.2.1,h1⟩,h2⟩,λ⟨c,h1,h2⟩=>⟨h1.1,h1.2.1,tile_app.mpr ⟨c,h1.2.2,h2⟩⟩⟩
theorem GC:∀{l:Z (Nat×Nat×Nat)} {a b:Nat},sZ a l b->a+l.length<=b
 | [],a,b,h=>by cases h;exact ao _
 | e::r,a,b,h=>by have:=GC h.2.2;have:=h.2.1;simp only[bp];lia
theorem GJ:∀{l:Z (Nat×Nat×Nat)} {a b:Nat},sZ a l b->∀e∈l,a<=e.1/\e.1+e.2.1<=b
 | [],a,b,h,e,he=>by simp at he
 | d::r,a,b,h,e,he=>by
  have l:=GC h.2.2;have:=h.1;have:=h.2.1;rcases a7.mp he with rfl|he
  .lia
  .have:=GJ h.2.2 e he;lia
noncomputable abbrev prT(e:Nat×Nat×Nat):Nat×Nat:=(e.1,e.2.1)
theorem aef:∀{l l':Z (Nat×Nat×Nat)} {a b:Nat},l'.map prT=l.map prT->sZ a l b->sZ a l' b
 | [],[],a,b,_,h=>h
 | [],e::r,a,b,q,h=>by simp at q
 | d::r,[],a,b,q,h=>by simp at q
 | d::r,e::r',a,b,q,h=>by rw[eu,eu]at q;obtain⟨q1,q2⟩:=List.cons.inj q;obtain⟨e1,e2⟩:e.1=d.1/\e.2.1=d.2.1:=Prod.mk.inj q1;refine⟨e1.trans h.1,by rw[e2];exact h.2.1,?_⟩;rw[e2];exact aef q2 h.2.2
def afa(p:Array (Nat×Nat×Nat))(k w:Nat):(p.modify k λx=>(x.fst,x.2.fst,w)).toList.map prT=p.toList.map prT:=by
 apply List.ext_getElem?;intro i;rw[bo,bo,bm,bm,Array.getElem?_modify];split
 .cases p[i]?<;>rfl
 .rfl
structure PInv(f:aI->Int)(κ:aW)(a₀:Array aI)(lo:Nat)(st:aN):Prop where
 base:TB κ a₀ st
 tile:sZ 0 (aM st).toList lo
 segs:∀e∈(aM st).toList,Seg f (aJ st) e.1 e.2.1
 top:lo<=a₀.size
def yy{f:aI->Int}{xs ys:Array aI}{lo n:Nat}(h:Seg f xs lo n)(e:∀k,lo<=k->k<lo+n->ys[k]?=xs[k]?):Seg f ys lo n:=λi j hi cN hj=>by rw[yw (f:=f) (e i hi<|by lia),yw (f:=f)<|e j (by lia) hj];exact h i j hi cN hj
section
variable{κ:aW}{f:aI->Int}{a₀:Array aI}{lo:Nat}{st aQ:aN}
def PInv.frame(P:PInv f κ a₀ lo st)(B:TB κ a₀ aQ)(F:Fr lo st aQ):PInv f κ a₀ lo aQ:=by refine⟨B,by rw[F.pend];exact P.tile,λe he=>?_,P.top⟩;rw[F.pend]at he;have:=GJ P.tile e he;exact yy (P.segs e he) λk h1 h2=>F.low k<|by lia
def PInv.like(P:PInv f κ a₀ lo st){p:Array (Nat×Nat×Nat)}(h:p.toList.map prT=(aM st).toList.map prT):PInv f κ a₀ lo (setPending st p):=by
 refine⟨⟨P.base.perm,P.base.kind,P.base.failed⟩,aef h P.tile,λe he=>?_,P.top⟩;have h1:prT e∈(aM st).toList.map prT:=by rw[<-h];exact ay.mpr ⟨e,he,rfl⟩
 obtain⟨d,hd,ed⟩:=ay.mp h1;obtain⟨e1,e2⟩:d.1=e.1/\d.2.1=e.2.1:=Prod.mk.inj ed;have:=P.segs d hd;rw[e1,e2]at this;exact this
theorem PInv.push(P:PInv f κ a₀ lo st){n w:Nat}(h1:1<=n)(ht:lo+n<=a₀.size)(hs:Seg f (aJ st) lo n):PInv f κ a₀ (lo+n) (setPending st<|(aM st).push (lo,n,w)):=by
 refine⟨⟨P.base.perm,P.base.kind,P.base.failed⟩,?_,λe he=>?_,ht⟩
 .show sZ 0 ((aM st).push (lo,n,w)).toList (lo+n);rw[Array.toList_push];exact tile_app.mpr ⟨lo,P.tile,rfl,h1,rfl⟩
 .have iZ:e∈((aM st).push (lo,n,w)).toList:=he;rw[Array.toList_push]at iZ;rcases a8.mp iZ with h|h
  .exact P.segs e h
  .rw[ar.mp h];exact hs
end
section
variable{prog:aK}{w:aO}{A:Around}{E:aA->aB->Prop}{s:aB}
variable{κ:aW}{mem:aI->Prop}{f:aI->Int}{a₀:Array aI}
def zv(C:mP prog w A s κ mem (fl f))(hm:∀x∈a₀.toList,mem x){st:aN}{i lo:Nat}(P:PInv f κ a₀ lo st)(hi:i+1<(aM st).size){Q:Bool->aN->Prop}
  (h:∀aQ,PInv f κ a₀ lo aQ->(aM aQ).size+1=(aM st).size->(∀k,lo<=k->(aJ aQ)[k]?=(aJ st)[k]?)->Q true aQ):iW (aH prog w) A E s (mergeAt' i) Q st:=by
 obtain⟨⟨sa,na,pa⟩,e1⟩:∃e,(aM st)[i]?=some e:=⟨_,getElem?_pos _ i<|by lia⟩;obtain⟨⟨sb,nb,pb⟩,e2⟩:∃e,(aM st)[i+1]?=some e:=⟨_,getElem?_pos _ (i+1) hi⟩;obtain⟨l1,l2,hl,aZ⟩:∃l1 l2,(aM st).toList=l1++(sa,na,pa)::(sb,nb,pb)::l2/\l1.length=i:=by
  refine(l0 ((aM st).toList.take i) ((aM st).toList.drop (i+2)) ⟨?_,by simp;lia⟩);have hi0:i<(aM st).toList.length:=by simp;lia
  have Fd:i+1<(aM st).toList.length:=by simp;lia
  conv=>lhs;rw[<-e9 i (aM st).toList,List.drop_eq_getElem_cons hi0,List.drop_eq_getElem_cons Fd]
  have a1:(aM st).toList[i]=(sa,na,pa):=by have:=e1;rw[<-bm,getElem?_pos _ i hi0]at this;exact ii this
  have a2:(aM st).toList[i+1]=(sb,nb,pb):=by have:=e2;rw[<-bm,getElem?_pos _ (i+1) Fd]at this;exact ii this
  rw[a1,a2]
 have ht:=P.tile;rw[hl]at ht;obtain⟨c,t1,t2⟩:=tile_app.mp ht;obtain⟨h1,h2,h3,h4,t3⟩:=t2;dsimp only at h1 h2 h3 h4 t3;have hlast:=GC t3;have sA:=P.segs (sa,na,pa) (by rw[hl];simp);have sB:=P.segs (sb,nb,pb) (by rw[hl];simp);have top:=P.top;refine ag2 C hm P.base e1 e2 (by lia) h2 h4 (by lia) sA sB λaQ B' hp ho hs=>h aQ ?_ ?_ λk hk=>ho k<|.inr<|by lia
 .have wP:(aM aQ).toList=l1++(sa,na+nb,pa)::l2:=by
   rw[hp,Array.toList_eraseIdxIfInBounds,Array.toList_setIfInBounds,hl];rw[List.set_append_right _ _ (by lia),aZ,j7,List.set_cons_zero,List.eraseIdx_append_of_length_le<|by lia,aZ,show i+1-i=1 by lia];rfl
  refine⟨B',?_,λe he=>?_,top⟩
  .rw[wP];refine tile_app.mpr ⟨c,t1,h1,by show 1<=na+nb;lia,?_⟩;show sZ (c+(na+nb)) l2 lo;rw[show c+(na+nb)=c+na+nb by lia];exact t3
  .rw[wP]at he;rcases a8.mp he with q|q
   .have a1:=GJ t1 e q;exact yy (P.segs e<|by rw[hl];exact g9 _ q) λk k1 k2=>ho k<|.inl<|by lia
   .rcases a7.mp q with q|q
    .rw[q];exact hs
    .have a1:=GJ t3 e q;exact yy (P.segs e<|by rw[hl];simp[q]) λk k1 k2=>ho k<|.inr<|by lia
 .have:=congrArg List.length (show(aM aQ).toList=l1++(sa,na+nb,pa)::l2 by
   rw[hp,Array.toList_eraseIdxIfInBounds,Array.toList_setIfInBounds,hl];rw[List.set_append_right _ _ (by lia),aZ,j7,List.set_cons_zero,List.eraseIdx_append_of_length_le<|by lia,aZ,show i+1-i=1 by lia];rfl)
  have q:=congrArg List.length hl;simp at this q;lia
theorem agq(C:mP prog w A s κ mem (fl f))(hm:∀x∈a₀.toList,mem x){st:aN}(B:TB κ a₀ st)(h0:aM st=#[]){Q:Unit->aN->Prop}
  (h:∀aQ,TB κ a₀ aQ->Seg f (aJ aQ) 0 a₀.size->Q () aQ):iW (aH prog w) A E s sortRuns' Q st:=by
 rw[sortRuns'_eq];refine be<|dU ?_;dsimp only;simp only[B.size];refine be<|jb (gv (I:=λx c aQ=>∃lo,c=(none,lo)/\x<=lo/\PInv f κ a₀ lo aQ) (Q:=λc aQ=>c=(none,a₀.size)/\PInv f κ a₀ a₀.size aQ) ?step ?fin ?init) ?post
 case init=>exact⟨0,rfl,ao _,B,by rw[h0];rfl,λe he=>by rw[h0]at he;simp at he,f8 _⟩
 case fin=>
  intro c aQ bV;refine hid λCg bW=>?_;obtain⟨lo,rfl,hx,P⟩:=bV;refine bW ?_;have:=P.top;obtain rfl:lo=a₀.size:=by lia
  exact⟨rfl,P⟩
 case step=>
  intro x c aQ _ hx bV;refine hid λCg bW=>?_;obtain⟨lo,rfl,tQ,P⟩:=bV;refine bW ?_;dsimp only;have top:=P.top;refine nh (λ(oK:lo>=a₀.size)=>?_) λ(oK:¬(lo>=a₀.size))=>?_
  .obtain rfl:lo=a₀.size:=by lia
   exact bv ⟨rfl,P⟩
  refine be<|asm C hm (by lia) (by lia) P.base λn lW B2 F2 n1 n2 s2=>?_;dsimp only;refine nh (λ(yS:n<nG a₀.size a₀.size 0)=>?_) λ(yS:¬(n<nG a₀.size a₀.size 0))=>?_
  .refine be<|hU<|jl ⟨rfl,?_⟩;refine be<|ar8 C hm (by lia) (by lia) B2 s2 λjZ B3 F3 s3=>?_;rw[if_neg (by simp)];have f1:1<=(iA (a₀.size-lo)<|nG a₀.size a₀.size 0):=by lia
   have P3:PInv f κ a₀ lo jZ:=P.frame B3<|F2.trans F3;refine be<|dU ?_;cases hb:(aM jZ).back? with
   | none=>
    dsimp only;exact be (cD<|bv ⟨_,rfl,by lia,P3.push f1 (by lia) s3⟩)
   | some e=>
    obtain⟨s1,m1,w1⟩:=e;dsimp only;refine be<|jb (gv (I:=λ_ c cW=>c=(none,())/\PInv f κ a₀ lo cW/\Seg f (aJ cW) lo (iA (a₀.size-lo)<|nG a₀.size a₀.size 0)) (Q:=λc cW=>c=(none,())/\PInv f κ a₀ lo cW/\Seg f (aJ cW) lo (iA (a₀.size-lo)<|nG a₀.size a₀.size 0)) ?_ (λ_ _ hh=>hh) ⟨rfl,P3,s3⟩) ?_
    .rintro y c cW _ hy ⟨rfl,P4,s4⟩;refine be<|dU ?_;by_cases h2:(aM cW).size>1
     .rw[if_pos h2,getElem?_pos (aM cW) ((aM cW).size-2)<|by lia];dsimp only;split
      .exact bv ⟨rfl,P4,s4⟩
      .refine be<|zv C hm P4 (by lia) λuI P5 _ ho=>?_;rw[if_neg (by simp)];exact bv ⟨rfl,P5,yy s4 λk k1 _=>ho k k1⟩
     .rw[if_neg h2];exact bv ⟨rfl,P4,s4⟩
    .rintro c cW ⟨rfl,P4,s4⟩;dsimp only;refine be<|cD ?_;have P5:=P4.like (p:=(aM cW).modify ((aM cW).size-1) λx=>(x.fst,x.2.fst,power' a₀.size (2*s1+m1) (2*s1+m1+m1+(iA (a₀.size-lo)<|nG a₀.size a₀.size 0)) a₀.size))<|afa _ _ _;exact be<|cD<|bv ⟨_,rfl,by lia,P5.push f1 (by lia) s4⟩
  .have P3:PInv f κ a₀ lo lW:=P.frame B2 F2;refine be<|dU ?_;cases hb:(aM lW).back? with
   | none=>
    dsimp only;exact be (cD<|bv ⟨_,rfl,by lia,P3.push n1 (by lia) s2⟩)
   | some e=>
    obtain⟨s1,m1,w1⟩:=e;dsimp only;refine be<|jb (gv (I:=λ_ c cW=>c=(none,())/\PInv f κ a₀ lo cW/\Seg f (aJ cW) lo n) (Q:=λc cW=>c=(none,())/\PInv f κ a₀ lo cW/\Seg f (aJ cW) lo n) ?_ (λ_ _ hh=>hh) ⟨rfl,P3,s2⟩) ?_
    .rintro y c cW _ hy ⟨rfl,P4,s4⟩;refine be<|dU ?_;by_cases h2:(aM cW).size>1
     .rw[if_pos h2,getElem?_pos (aM cW) ((aM cW).size-2)<|by lia];dsimp only;split
      .exact bv ⟨rfl,P4,s4⟩
      .refine be<|zv C hm P4 (by lia) λuI P5 _ ho=>?_;rw[if_neg (by simp)];exact bv ⟨rfl,P5,yy s4 λk k1 _=>ho k k1⟩
     .rw[if_neg h2];exact bv ⟨rfl,P4,s4⟩
    .rintro c cW ⟨rfl,P4,s4⟩;dsimp only;refine be<|cD ?_;have P5:=P4.like (p:=(aM cW).modify ((aM cW).size-1) λx=>(x.fst,x.2.fst,power' a₀.size (2*s1+m1) (2*s1+m1+m1+n) a₀.size))<|afa _ _ _;exact be<|cD<|bv ⟨_,rfl,by lia,P5.push n1 (by lia) s4⟩
 case post=>
  rintro c aQ ⟨rfl,P⟩;dsimp only;refine be<|jb (gv (I:=λx c cM=>c=(none,())/\PInv f κ a₀ a₀.size cM/\(aM cM).size<=ET 1 (a₀.size-x)) (Q:=λc cM=>c=(none,())/\PInv f κ a₀ a₀.size cM/\(aM cM).size<=1) ?_ ?_ ?_) ?_
  .rintro x c cM _ hx ⟨rfl,P2,hsz⟩;refine be<|dU ?_;refine nh (λ(h1:(aM cM).size<=1)=>?_) λ(h1:¬((aM cM).size<=1))=>?_
   .exact bv ⟨rfl,P2,h1⟩
   .refine be<|zv C hm P2 (by(repeat' split)<;>lia) λuI P5 hz _=>?_;rw[if_neg (by simp)];exact bv ⟨rfl,P5,by lia⟩
  .rintro c cM ⟨rfl,P2,hsz⟩;exact⟨rfl,P2,by lia⟩
  .refine⟨rfl,P,?_⟩;have:=GC P.tile;simp at this;lia
  .rintro c cM ⟨rfl,P2,hsz⟩;refine bv<|h cM P2.base ?_;have t:=P2.tile;have sg:=P2.segs;have hl:(aM cM).toList.length<=1:=by simpa using hsz
   match hq:(aM cM).toList,hl with
   | [],_=>
    rw[hq]at t;intro i j hi cN hj;have:0=a₀.size:=t;lia
   | [e],_=>
    rw[hq]at t sg;have a1:=t.1;have a2:0+e.2.1=a₀.size:=t.2.2;have a3:=sg e (by simp);rw[a1,show e.2.1=a₀.size by lia]at a3;exact a3
end
end L3
namespace L3
open PySem PySem.Spec PyProof.Rows L2
structure CZ where
 cl:Z (Str×aF)
 C:aF
 s:aB
 H:Hp
 ex:Z aF
noncomputable def nv(X:Cx)(N:Z Str)(scope:dA)(z:CZ):Cx where
 prog:=X.prog
 w:=X.w
 K:=X.K
 mg:=X.mg
 base:=X.base
 A:=X.A
 N:=N
 s₀:=z.s
 H₀:=z.H
 env:=compEnvC scope z.cl z.C X.env
 outer:=X.stack
 stack:=X.stack
 ex:=z.ex
 calm:=X.calm
 fn:=λ_=>false
 pn:=[]
 xe:=λ_ _=>False
noncomputable def qw(cells:Z (Str×aF)):Z (Str×aT)->Z (Str×aF)->Z (Str×aF)
 | [],cs=>cs
 | (n,k)::r,cs=>if (k==aT.free)=true then(match cells.lookup n with|some c=>qw cells r ((n,c)::cs)|none=>qw cells r cs)else qw cells r cs
theorem x8{scope:dA}{env:qL}(h:∀x∈scope.names,x.2=.free->∃c,env.cells.lookup x.1=some c):oR scope env=aR (qw env.cells scope.names []):=by
 have go:∀(l:Z (Str×aT)) (cs:Z (Str×aF)),(∀x∈l,x.2=.free->∃c,env.cells.lookup x.1=some c)->
   (xH l cs λ(x:Str×aT) (cs:Z (Str×aF))=>if (x.2==aT.free)=true then do let a <-cellOf env x.1;aR (ForInStep.yield ((x.1,a)::cs))else aR (ForInStep.yield cs):nP (Z<|Str×aF))=aR (qw env.cells l cs):=by
  intro l;induction l with
  | nil=>intro cs _;rfl
  | cons x r ih=>
   intro cs hx;obtain⟨n,k⟩:=x;rw[List.forIn_cons];have ih':=λcs=>ih cs λy hy=>hx y<|av _ hy;unfold qw;dsimp only;by_cases hk:(k==aT.free)=true
   .obtain⟨c,hc⟩:=hx (n,k) aq (by simpa using hk);rw[if_pos hk,if_pos hk];simp only at hc;simp only[cellOf,hc,pure_bind];exact ih' _
   .rw[if_neg hk,if_neg hk];simp only[pure_bind];exact ih' _
 unfold oR;have e:=go scope.names [] h;simp only[bind_pure]at e⊢;exact e
theorem yh{cells:Z (Str×aF)}{x:Str}{c:aF}:∀{l:Z (Str×aT)} {cs:Z (Str×aF)},(qw cells l cs).lookup x=some c->cells.lookup x=some c\/cs.lookup x=some c
 | [],cs,h=>.inr h
 | (n,k)::r,cs,h=>by
  unfold qw at h;split at h
  .split at h
   .rename_i c0 e
    rcases yh h with q|q
    .exact .inl q
    .rw[jh]at q;split at q
     .rename_i hx
      have oX:x=n:=by simpa using hx
      cases q;rw[oX];exact .inl e
     .exact .inr q
   .exact yh h
  .exact yh h
theorem ul{cells:Z (Str×aF)}{x:Str}:∀{l:Z (Str×aT)} {cs:Z (Str×aF)},(∃c,cs.lookup x=some c)->∃c,(qw cells l cs).lookup x=some c
 | [],cs,h=>h
 | (n,k)::r,cs,h=>by
  unfold qw;split
  .split
   .refine ul ?_;rw[jh];split
    .exact⟨_,rfl⟩
    .exact h
   .exact ul h
  .exact ul h
theorem wm{cells:Z (Str×aF)}{x:Str}:∀{l:Z (Str×aT)} {cs:Z (Str×aF)},(x,aT.free)∈l->(∃c,cells.lookup x=some c)->∃c,(qw cells l cs).lookup x=some c
 | (n,k)::r,cs,hm,h=>by
  unfold qw;rcases a7.mp hm with e|hm
  .cases e;obtain⟨c,hc⟩:=h;rw[if_pos (show(aT.free==aT.free)=true from rfl),hc];refine ul ?_;rw[jh];simp
  .split
   .split
    .exact wm hm h
    .exact wm hm h
   .exact wm hm h
def af2{scope:dA}{env:qL}{x:Str}(oI:∀y∈scope.names,y.2≠.cell)(h:(relabel scope env).names.lookup x=some .cell\/(relabel scope env).names.lookup x=some .free):(x,aT.free)∈scope.names:=by
 rcases h with h|h
 .have hm:=ja h;obtain⟨⟨n,k⟩,hy,e⟩:=ay.mp hm;dsimp only at e;split at e
  .rename_i hc
   simp only[gh,beq_iff_eq]at hc;cases e;rw[hc.1.1]at hy;exact hy
  .cases e;exact absurd rfl<|oI _ hy
 .have hm:=ja h;obtain⟨⟨n,k⟩,hy,e⟩:=ay.mp hm;dsimp only at e;split at e
  .cases e
  .cases e;exact hy
theorem aaa{env:qL}:∀{names:Z (Str×aT)} {x:Str},names.lookup x=some .free->
  ((names.map λ(n,k)=>if (k==aT.free&&env.scope.kind==.function&&env.kindOf n==some .cell)then(n,aT.cell)else(n,k)).lookup x=some .cell\/
   (names.map λ(n,k)=>if (k==aT.free&&env.scope.kind==.function&&env.kindOf n==some .cell)then(n,aT.cell)else(n,k)).lookup x=some .free)
 | [],_,h=>by simp at h
 | (n,k)::r,x,h=>by
  have ih:=@aaa env r x;show(List.lookup x ((if (k==aT.free&&env.scope.kind==.function&&env.kindOf n==some .cell)=true then(n,aT.cell)else(n,k))::_)=_)\/(List.lookup x ((if (k==aT.free&&env.scope.kind==.function&&env.kindOf n==some .cell)=true then(n,aT.cell)else(n,k))::_)=_);cases hx:x==n with
  | true=>
   simp only[jh,hx]at h;cases h;by_cases hc:((aT.free:aT)==aT.free&&env.scope.kind==.function&&env.kindOf n==some .cell)=true
   .rw[if_pos hc];left;simp only[jh,hx]
   .rw[if_neg hc];right;simp only[jh,hx]
  | false=>
   simp only[jh,hx]at h;by_cases hc:(k==aT.free&&env.scope.kind==.function&&env.kindOf n==some .cell)=true
   .rw[if_pos hc];simp only[jh,hx];exact ih h
   .rw[if_neg hc];simp only[jh,hx];exact ih h
noncomputable def su(sl:Z (Option Nat))(σ:L2.St):L2.St:=sl.map λo=>o.bind λj=>(σ[j]?).getD none
noncomputable def slOk(N N':Z Str)(sl:Z (Option Nat))(sc osc:dA):Bool:=
 sl.length==N'.length&&(List.zip N' sl).all λp=>match p.2 with
  | none=>true
  | some j=>N[j]?==some p.1&&sc.names.lookup p.1==some .free&&(osc.names.lookup p.1==some .cell||osc.names.lookup p.1==some .free)
def slOk.len{N N':Z Str}{sl:Z (Option Nat)}{sc osc:dA}(h:slOk N N' sl sc osc=true):sl.length=N'.length:=by unfold slOk at h;rw[gh]at h;simpa using h.1
theorem slOk.at{N N':Z Str}{sl:Z (Option Nat)}{sc osc:dA}(h:slOk N N' sl sc osc=true){k j:Nat}{x:Str}(h1:N'[k]?=some x)(h2:sl[k]?=some (some j)) :
  N[j]?=some x/\sc.names.lookup x=some .free/\(osc.names.lookup x=some .cell\/osc.names.lookup x=some .free):=by
 unfold slOk at h;rw[gh,kh]at h;have hm:(x,some j)∈List.zip N' sl:=by refine ai (i:=k) ?_;rw[List.getElem?_zip_eq_some];exact⟨h1,h2⟩
 have q:=h.2 _ hm;simp only[gh,Bool.or_eq_true,beq_iff_eq]at q;exact⟨q.1.1,q.1.2,q.2⟩
noncomputable def frOk(sc osc:dA):Bool:=sc.names.all λx=>!(x.2==.free)||(osc.names.lookup x.1==some .cell||osc.names.lookup x.1==some .free)
def frOk.of{sc osc:dA}(h:frOk sc osc=true):∀x∈sc.names,x.2=.free->osc.names.lookup x.1=some .cell\/osc.names.lookup x.1=some .free:=λx hx e=>by have q:=kh.mp h x hx;rw[e]at q;simp only[beq_self_eq_true,i6,Bool.false_or,Bool.or_eq_true,beq_iff_eq]at q;exact q
def Agree(σ σ':L2.St):Prop:=σ'.length=σ.length/\∀(i:Nat) v,σ[i]?=some (some v)->σ'[i]?=some (some v)
def Agree.refl(σ:L2.St):Agree σ σ:=⟨rfl,λ_ _ h=>h⟩
theorem Agree.set{σ σ':L2.St}(a:Agree σ σ'){i:Nat}{v:Option V}(h:σ[i]?=some none):Agree σ (σ'.set i v):=by
 refine⟨by rw[List.length_set];exact a.1,λj w e=>?_⟩;by_cases cN:i=j
 .subst cN;rw[h]at e;cases e
 .rw[List.getElem?_set_ne cN];exact a.2 j w e
section
variable{fs ex:Z aF}{H H':Hp}{h h1 h2:Heap}{C:aF}
def Un.but(u:Un fs ex H H' h h1)(hC:h.get? C=none)(sb:∀b o,b≠C->h1.get? b=some o->h2.get? b=some o):Un fs ex H H' h h2 where
 keep:=λb o e n hb hx=>sb b o (by rintro rfl;rw[hC]at e;cases e) (u.keep b o e n hb hx)
 slot:=λb o e n hb hx=>by obtain⟨sl,q⟩:=u.slot b o e n hb hx;exact⟨sl,sb b _ (by rintro rfl;rw[hC]at e;cases e) q⟩
 free:=u.free
 there:=λb o e hx=>by obtain⟨o',q⟩:=u.there b o e hx;exact⟨o',sb b o' (by rintro rfl;rw[hC]at e;cases e) q⟩
 tups:=u.tups
 frzs:=u.frzs
 tbls:=u.tbls
def HOk.but{P:aK}{w:aO}(x:HOk P w H h1)(hC:H C=none)(sb:∀b o,b≠C->h1.get? b=some o->h2.get? b=some o):HOk P w H h2:=λa o e=>
 (x a o e).stay (λb u hc q=>sb b u (by
  rintro rfl;rcases hc with hc|hc
  .rw[<-hc,hC]at e;cases e
  .rw[hC]at hc;cases hc) q) (λ_ q=>q) λ_ _ q=>q
end
theorem ajg{X:Cx}{aE:Z (aF×Obj)}{σ:L2.St}{H:Hp}{s:aB}(I:Inv X aE σ H s){scope:dA}{N':Z Str}{sl:Z (Option Nat)}{fp:Z aF}{h₁:Heap}{m:Str->Option aA}{tk:Nat}
  (hk:scope.kind=.function) (oI:∀y∈scope.names,y.2≠.cell) (bZ:∀x∈scope.names,x.2=.free->X.env.scope.names.lookup x.1=some .cell\/X.env.scope.names.lookup x.1=some .free)
  (mU:slOk X.N N' sl scope X.env.scope=true) (wX:∀b∈fp,mM X aE H b) (bS:∀b∈fp,b<s.heap.objs.size)
  (oH:h₁.Ns s.heap.objs.size m) (iG:∀b o,s.heap.get? b=some o->h₁.get? b=some o) :
  Inv (nv X N' scope ⟨qw X.env.cells scope.names [],s.heap.objs.size,s,H,fp⟩) [] (su sl σ) H {s with heap:=h₁,toks:=tk}:=by
 have Bd:∀x c,(qw X.env.cells scope.names []).lookup x=some c->X.env.cells.lookup x=some c:=λx c e=>by
  rcases yh e with q|q
  .exact q
  .cases q
 have has:∀x,(x,aT.free)∈scope.names->∃c,(qw X.env.cells scope.names []).lookup x=some c:=λx hx=>
  wm hx (I.ok.has x<|bZ _ hx rfl)
 refine⟨⟨I.ok.mod,hk,I.ok.glob,I.ok.blt,ao _,λx y c h1 h2=>I.ok.inj x y c (Bd x c h1)<|Bd y c h2,λx hx=>has x<|af2 oI hx,λx c hf _=>absurd hf am,I.ok.hd,I.ok.frames,.inl rfl,
   λb hb=>⟨da<|bS b hb,λx c e=>(wX b hb).2.2.2.2.1 x c (Bd x c e)⟩,I.bs,ie I.ok.bsz I.sz,λb o e hb=>?_,λb hb hz=>?_,I.stack,I.stkFree⟩,
  rfl,I.bare,Un.kept iG,⟨m,oH,λi x v h1 h2 _=>?_⟩,λx c e=>?_,I.hok.fresh<|ao _,λx c e=>I.freeC x c<|Bd x c e,λp hp=>absurd (show p∈([]:Z (aF×Obj))from hp)<|by simp,I.hok.kept iG,?_⟩
 .rcases(wX b hb).2.2.2.1 with z|z
  .exact I.ok.noex b o e z
  .exact absurd (ck (bi (I.ok.bs b o e).1) z)<|kb _
 .rcases a7.mp (I.stkSub b hz)with z|z
  .exact(wX b hb).2.1 z
  .exact(wX b hb).2.2.1 z
 .have fU:(su sl σ)[i]?=some (some v):=h2;unfold su at fU;rw[bo]at fU;cases q:sl[i]? with
  | none=>rw[q]at fU;cases fU
  | some o=>
   rw[q]at fU;cases o with
   | none=>cases fU
   | some j=>
    have e:(σ[j]?).getD none=some v:=by simpa using fU
    have e2:σ[j]?=some (some v):=by
     cases r:σ[j]? with
     | none=>rw[r]at e;cases e
     | some w=>rw[r]at e;simp at e;rw[e]
    obtain⟨a1,a2,a3⟩:=slOk.at mU h1 q;obtain⟨mo,_,hl⟩:=I.loc;obtain⟨u,r,l⟩:=hl j x v a1 e2<|.inr a3;refine⟨u,r,.inr ⟨aaa a2,?_⟩⟩;have a4:X.env.kindOf x=some .cell\/X.env.kindOf x=some .free:=a3;rcases l with ⟨l,_⟩|⟨_,c,e3,z⟩
    .rcases a4 with a4|a4 <;> · rw[l]at a4;cases a4
    .obtain⟨c',e4⟩:=has x<|ja a2;have e5:=Bd x c' e4;rw[e3]at e5;cases e5;obtain⟨o,ho,hd⟩:=z;exact(ny c e4 o ⟨iG _ _ ho,hd⟩)
 .obtain⟨v,o,ho,hd⟩:=I.cell x c<|Bd x c e;exact(l0 v o ⟨iG _ _ ho,hd⟩)
 .show(su sl σ).length=N'.length;unfold su;rw[ae];exact slOk.len mU
def PTs(X:Cx)(kB:Z Expr)(t:TT):Prop:=
 ∀(aE:Z (aF×Obj)) (s:aB) (σ:L2.St) (H:Hp) (Q:Bool->Hp->Prop),Inv X aE σ H s->t σ H Q->
  aG (aH X.prog X.w) X.A (xH kB true λc r=>if r=true then do let ok <-isTrue c X.env (bX c X.env);aR (ForInStep.yield ok)else aR (ForInStep.yield r)) (TP X aE σ Q) X.xe s
def jN:TT:=λ_ H Q=>Q true H
def ow{X:Cx}:PTs X [] jN:=λ_ _ _ H _ I h=>wpAny_tests_nil ⟨H,I,h⟩
def Gr{X:Cx}{c:Expr}{t:TT}(h:PT X c t):PTs X [c] t:=λaE s σ H Q I q=>wpAny_tests_one<|h aE s σ H Q I q
theorem afx{prog:aK}{w:aO}{A:Around}{R:jY->aB->Prop}{s:aB}{jU bA iter:Expr}{kB:Z Expr}{scope:dA}{pos:dQ}{it acc:aA}{env:qL}(I:Nat->aB->Prop)
  (turn:∀n s,I n s->aG (aH prog w) A (bH it) (λr s₁=>match r with
   | none=>R (.ok .next) s₁
   | some v=>aG (aH prog w) A (gI bA it v) (λ_ s₂=>aG (aH prog w) A (lQ bA env v) (λ_ s₃=>
     aG (aH prog w) A (xH kB true λc r=>if r=true then do let ok <-isTrue c env (bX c env);aR (ForInStep.yield ok)else aR (ForInStep.yield r)) (λok s₄=>
      if ok=true then aG (aH prog w) A (bX jU env) (λx s₅=>
       aG (aH prog w) A (call (.builtin "list.append") [acc,x]) (λ_ s₆=>∃m,m<n/\I m s₆) (λ_ _=>False) s₅) (λ_ _=>False) s₄
      else ∃m,m<n/\I m s₄) (λ_ _=>False) s₃) (λ_ _=>False) s₂) (λ_ _=>False) s₁) (λ_ _=>False) s)
  (n:Nat) (h:I n s) :
  cL (aH prog w) A (.compLoop (.ListComp jU [⟨bA,iter,kB,0⟩] scope pos) 0 it acc env) R s:=by
 refine codeAny_loop rfl I (λn s hI=>?_) n h;show aG _ A ((compTurn (.ListComp jU [⟨bA,iter,kB,0⟩] scope pos) 0 it acc env).onRaise (λx=>do noteFrame x env;theTreesLotGoes x)) _ _ s;refine wpAny_noted ?_;rw[compTurn_list];refine ab<|fG<|ab<|jf (turn n s hI) (λr s₁ h₁=>?_) λ_ _ h'=>h'.elim;cases r with
 | none=>exact aj h₁
 | some v=>
  refine ab<|jf h₁ (λ_ s₂ h₂=>?_) λ_ _ h'=>h'.elim;refine ab<|jf h₂ (λ_ s₃ h₃=>ab<|jf h₃ (λok s₄ h₄=>?_) λ_ _ h'=>h'.elim) λ_ _ h'=>h'.elim;cases ok with
  | false=>exact aj ⟨rfl,h₄⟩
  | true=>
   exact ab<|ab<|jf h₄ (λx s₅ h₅=>ab<|jf h₅ (λ_ s₆ h₆=>aj<|aj ⟨rfl,h₆⟩) λ_ _ h'=>h'.elim) λ_ _ h'=>h'.elim
def vU(J:It)(sl:Z (Option Nat))(g:TG)(tt:TT)(te:TE)(σ:L2.St)(H1:Hp)(D:aF)(Q:VK):Prop:=
 ∃W:Nat->Nat->Hp->Prop,(∃m,W 0 m<|upd H1 D<|.lst [])/\∀i m H,W i m H->(J.stop i H/\Q (.ref D) H)\/
  (J.go i H/\∃N:Hp->Prop,(∀H',N H'->∃m',m'<m/\W (i+1) m' H')/\∀x H',J.yld i H x H'->g x (su sl σ) H' λσ2 H2=>Agree (su sl σ) σ2/\tt σ2 H2 λb H3=>
   if b=true then te σ2 H3 λy H4=>∃xs,H4 D=some (.lst xs)/\xs.length<aC/\N (upd H4 D<|.lst<|xs++[y])else N H3)
def xS(wi:TI)(sl:Z (Option Nat))(g:TG)(tt:TT)(te:TE):TE:=λσ H Q=>wi σ H λJ H1=>∀D,H1 D=none->vU J sl g tt te σ H1 D Q
section
variable{X:Cx}{jU bA iter:Expr}{kB:Z Expr}{scope:dA}{pos:dQ}
theorem acd{N':Z Str}{sl:Z (Option Nat)}{g:TG}{tt:TT}{te:TE}{aE:Z (aF×Obj)}{s₂:aB}{σ:L2.St}{H2:Hp}{Q:VK}{RR:aA->aF->jY->aB->Prop}{E:aA->aB->Prop}
  {it:aF} {fp:Z aF} {tn:Nat->Heap->Prop} {J:It} (hc:X.calm=true) (dZ:scope.kind=.function)
  (oI:∀y∈scope.names,y.2≠.cell) (bZ:∀x∈scope.names,x.2=.free->X.env.scope.names.lookup x.1=some .cell\/X.env.scope.names.lookup x.1=some .free)
  (mU:slOk X.N N' sl scope X.env.scope=true)
  (hg:∀z,PG (nv X N' scope z) bA g) (ht:∀z,PTs (nv X N' scope z) kB tt) (he:∀z,PE (nv X N' scope z) jU te)
  (I2:Inv X aE σ H2 s₂) (T:tY X.prog X.w X.K bA J fp it tn) (lW:tn 0 s₂.heap) (f2:∀b∈fp,mM X aE H2 b) (hw:∀D,H2 D=none->vU J sl g tt te σ H2 D Q)
  (hR:∀D C H' s',H' C=none->(∃m,s'.heap.Ns C m)->mM X aE H' C->(∀h',b8 C s'.heap h'->Inv X aE σ H' {s' with heap:=h'})->Inv X aE σ H' s'->Q (.ref D) H'->RR (.ref D) C (.ok .next) s') :
  aG (aH X.prog X.w) X.A (newList []) (λacc s₃=>aG (aH X.prog X.w) X.A (newFunctionEnv scope X.env.globals (qw X.env.cells scope.names []) [] X.env.qual none .none<|some X.env) (λcenv s₄=>
   cL (aH X.prog X.w) X.A (.compStart (.ListComp jU [⟨bA,iter,kB,0⟩] scope pos) 0 (.ref it) acc {cenv with scope:=relabel scope X.env}) (RR acc cenv.locals) s₄) E s₃) E s₂:=by
 have CP:∀b∈fp,b<s₂.heap.objs.size:=λb hb=>by obtain⟨o,e,_⟩:=T.obj _ _ lW b hb;exact bi e
 have hD:H2 s₂.heap.objs.size=none:=I2.hok.fresh<|ao _;obtain⟨W,⟨m0,w0⟩,turn⟩:=hw _ hD;refine pN ?_<|f8 _;have I3:=I2.lnew (ys:=[]) (its:=[]) (t':=s₂.toks) .nil<|f8 _;refine wpAny_newFunctionEnv oI (by intro y hy;simp at hy) (λh₁ Ir HQ=>?_) dZ;generalize hs3:({s₂ with heap:=s₂.heap.push {cls:=.type "list",data:=.seq ([]:Z aA).toArray}}:aB)=s₃ at *;have CA:s₃.heap=s₂.heap.push {cls:=.type "list",data:=.seq ([]:Z aA).toArray}:=by rw[<-hs3]
 have kF:s₃.heap.objs.size=s₂.heap.objs.size+1:=by rw[CA,Heap.size_push]
 have yG:∀b o,s₂.heap.get? b=some o->s₃.heap.get? b=some o:=λb o e=>by rw[CA];exact ak _ e
 have wH:∀b o,s₃.heap.get? b=some o->h₁.get? b=some o:=λb o e=>HQ.extBut b o (da<|bi e)<|ak _ e;have fI:∀b∈fp,b≠s₂.heap.objs.size:=λb hb=>da<|CP b hb;have f3:∀b∈fp,mM X aE (upd H2 s₂.heap.objs.size<|.lst []) b:=λb hb=>⟨by rw[nu (fI b hb)];exact(f2 b hb).1,(f2 b hb).2⟩;have yT:∀b∈fp,b<s₃.heap.objs.size:=λb hb=>by rw[kF];exact Nat.lt_succ_of_lt<|CP b hb
 have I4:=ajg (tk:=s₃.toks+([]:Z (Str×aA)).length) I3 dZ oI bZ mU f3 yT Ir wH;have cW:tn 0 h₁:=T.keep _ _ _ lW λb _ o e=>wH b o<|yG b o e;generalize hz:(⟨qw X.env.cells scope.names [],s₃.heap.objs.size,s₃,upd H2 s₂.heap.objs.size<|.lst [],fp⟩:CZ)=z at I4;have ezC:z.C=s₃.heap.objs.size:=by rw[<-hz]
 have ezx:z.ex=fp:=by rw[<-hz]
 have nB:∀{H':Hp},(∀b∈fp,H' b=none)->∀b∈fp,mM (nv X _ scope z) [] H' b:=λhn b hb=>by subst hz;have q:=I4.ok.exf b hb;exact⟨hn b hb,q.1,I4.ok.exfs b hb,.inl hb,q.2,λp hp=>absurd (show p∈([]:Z (aF×Obj))from hp)<|by simp⟩
 have loop:∀s₄:aB,s₄={s₃ with heap:=h₁,toks:=s₃.toks+([]:Z (Str×aA)).length}->
   cL (aH X.prog X.w) X.A (.compLoop (.ListComp jU [⟨bA,iter,kB,0⟩] scope pos) 0 (.ref it) (.ref s₂.heap.objs.size) (nv X N' scope z).env) (RR (.ref s₂.heap.objs.size) s₃.heap.objs.size) s₄:=by
  rintro s₄ rfl;refine afx (λn s'=>∃i H',Inv (nv X N' scope z) [] (su sl σ) H' s'/\tn i s'.heap/\(∀b∈fp,H' b=none)/\W i n H') ?_ m0<|l0 0 _ ⟨I4,cW,λb hb=>(f3 b hb).1,w0⟩;rintro n s5 ⟨i,H5,I5,uI,FA,w5⟩;rcases turn i n H5 w5 with ⟨stop,qn⟩|⟨go,N,hN,step⟩
  .refine thn (T.done (nv X N' scope z) rfl rfl rfl hc i [] s5 _ H5 _ I5 (nB FA) uI stop) λr s6 ⟨hr,I6⟩=>?_;subst hr;have un:Un (frs X.stack) fp (upd H2 s₂.heap.objs.size<|.lst []) H5 s₃.heap s6.heap:=by subst hz;exact I6.base
   have os6:s6.os=s₃.os:=by subst hz;exact I6.os
   have fC:H5 s₃.heap.objs.size=none:=by subst hz;exact I6.free
   have pF:∀b∈fp,(b∈X.ex\/X.s₀.heap.objs.size<=b)/\b≠X.env.locals/\(∀x c,X.env.cells.lookup x=some c->c≠b)/\∀p∈X.pn++aE,p.1≠b:=λb hb=>⟨(f2 b hb).2.2.2.1,(f2 b hb).2.1,(f2 b hb).2.2.2.2.1,(f2 b hb).2.2.2.2.2⟩;have nC:s₃.heap.get? s₃.heap.objs.size=none:=Heap.get?_none_of_le<|ao _;have ns:∃m,s6.heap.Ns s₃.heap.objs.size m:=by subst hz;obtain⟨m,hn,_⟩:=I6.loc;exact⟨m,hn⟩
   refine hR _ _ H5 s6 fC ns (I3.fpOk (ao _) fC) (λh' sb=>?_) (I3.call' (ch:=fp) os6 un I6.hok I6.bare pF) qn;exact I3.call' (s':={s6 with heap:=h'}) (ch:=fp) os6 (Un.but un nC sb.extBut) (HOk.but I6.hok fC sb.extBut) I6.bare pF
  .refine thn (T.item (nv X N' scope z) rfl rfl rfl hc i [] s5 _ H5 _ I5 (nB FA) uI go) λr s6 ⟨u,hr,h6⟩=>?_;subst hr;refine thn h6 λ_ s7 ⟨x,H7,I7,r7,y7,GP,fr7⟩=>?_;have I7':=I7.pinned (nB fr7)<|T.obj _ _ GP;refine thn (hg z _ s7 _ H7 x u _ I7' r7<|step x H7 y7) λ_ s8 ⟨σ8,H8,I8,ag,q8⟩=>?_;have again:∀{s9:aB} {H9:Hp},Inv (nv X N' scope z) ([]++DW fp s7.heap) σ8 H9 s9->N H9->∃m,m<n/\∃i H',Inv (nv X N' scope z) [] (su sl σ) H' s9/\tn i s9.heap/\(∀b∈fp,H' b=none)/\W i m H':=λ{s9 H9} I9 n9=>by
    obtain⟨m',hm,w9⟩:=hN H9 n9;refine(nj m' hm (i+1) H9 ⟨(I9.weak ag.1.symm ag.2).unpinned,T.keep _ _ _ GP λb hb o e=>(I9.pin (b,o)<|cm _<|cm _<|wt hb e).1,λb hb=>?_,w9⟩);obtain⟨o,e,d⟩:=T.obj _ _ GP b hb;exact(I9.pin (b,o)<|cm _<|cm _<|wt hb e).2.1
   refine thn (ht z _ s8 σ8 H8 _ I8 q8) λok s9 ⟨H9,I9,q9⟩=>?_;cases ok with
   | false=>exact again I9 q9
   | true=>
    refine thn (he z _ s9 σ8 H9 _ I9 q9) λu10 pS ⟨y,H10,I10,r10,xs,hx,HA,Cd⟩=>?_;exact thn (pw _ pS σ8 H10 (.ref s₂.heap.objs.size) [y] (.ref s₂.heap.objs.size) [u10] (λ_ H'=>N H') I10 rfl (.cons r10 .nil)<|m9 _ xs y ⟨rfl,rfl,hx,HA,Cd⟩) λ_ s11 ⟨_,H11,I11,_,n11⟩=>again I11 n11
 have JK:(nv X N' scope z).env=compEnvC scope (qw X.env.cells scope.names []) s₃.heap.objs.size X.env:=by rw[<-hz];rfl
 rw[JK]at loop;exact codeAny_compStart_list (loop _ rfl)<|T.self _ 0 _ _ _ cW<|loop _ rfl
def are(N':Z Str)(sl:Z (Option Nat)){wi:TI}{g:TG}{tt:TT}{te:TE}(hc:X.calm=true)(dZ:scope.kind=.function)
  (fT:∀x∈scope.names,x.2=.local->scope.names.lookup x.1=some .local)
  (oI:∀y∈scope.names,y.2≠.cell) (mJ:frOk scope X.env.scope=true)
  (mU:slOk X.N N' sl scope X.env.scope=true) (hi:PI X bA iter wi)
  (hg:∀z,PG (nv X N' scope z) bA g) (ht:∀z,PTs (nv X N' scope z) kB tt) (he:∀z,PE (nv X N' scope z) jU te)
  (hs:∀x,cB iter X.env x=aR x:=by intro _;rfl) :
  PE X (.ListComp jU [⟨bA,iter,kB,0⟩] scope pos) (xS wi sl g tt te):=by
 have bZ:=frOk.of mJ;intro aE s σ H Q I h;rw[eval_ListComp];have kP:oR scope X.env=aR (qw X.env.cells scope.names []):=x8 λx hx hk=>I.ok.has x.1<|bZ x hx hk;refine pO (use:=none) rfl hs kP dZ fT<|thn (hi aE s σ H _ I h) λxv s₁ h₁=>thn h₁ λEV s₂ h₂=>?_;obtain⟨it,fp,tn,J,H2,e,I2,T,lW,f2,hw⟩:=h₂;subst e;refine acd (RR:=λacc C=>compPost (aH X.prog X.w) X.A X.xe none (EP X aE σ Q) acc C) hc dZ oI bZ mU hg ht he I2 T lW f2 hw ?_;intro D C H' s' fC ns _ hI _ q;obtain⟨m,hn⟩:=ns;exact⟨m,hn,λh' sb=>(l0 (.ref D) H' ⟨hI h' sb,rfl,q⟩)⟩
def arb(N':Z Str)(sl:Z (Option Nat)){wi:TI}{g:TG}{tt:TT}{te:TE}{i:Nat}{y:Str}{py qR:dQ}(hN:X.N.Nodup)(HC:X.N[i]?=some y)(hx:Loc X.env.scope y)
  (HM:iQ (.ListComp jU [⟨bA,iter,kB,0⟩] scope pos) (some<|.Name y py) qR.line X.env=aR true) (hc:X.calm=true) (dZ:scope.kind=.function)
  (fT:∀x∈scope.names,x.2=.local->scope.names.lookup x.1=some .local)
  (oI:∀y∈scope.names,y.2≠.cell) (mJ:frOk scope X.env.scope=true)
  (mU:slOk X.N N' sl scope X.env.scope=true) (hi:PI X bA iter wi)
  (hg:∀z,PG (nv X N' scope z) bA g) (ht:∀z,PTs (nv X N' scope z) kB tt) (he:∀z,PE (nv X N' scope z) jU te)
  (hs:∀x,cB iter X.env x=aR x:=by intro _;rfl) (hf:X.fn y=true\/X.env.scope.names.lookup y=some .local:=by first|exact .inl rfl|exact .inr rfl|assumption) :
  PS X (.Assign [.Name y py] (.ListComp jU [⟨bA,iter,kB,0⟩] scope pos) qR) (DJ (xS wi sl g tt te)<|uf i):=by
 have bZ:=frOk.of mJ;intro aE s σ H D I h;rw[exec_Assign_Name_used _ _ _ _ HM];refine ab<|fG<|ab ?_;show aG _ _ (do let _ <-comprehension (.ListComp jU [⟨bA,iter,kB,0⟩] scope pos) scope X.env _ (newList []) false (bX iter X.env) (some<|lQ (.Name y py) X.env)) _ _ s;have kP:oR scope X.env=aR (qw X.env.cells scope.names []):=x8 λx hx hk=>I.ok.has x.1<|bZ x hx hk;refine ab (jf (pO (use:=some<|lQ (.Name y py) X.env) (Q:=λ_ s'=>SP X aE D .next s') rfl hs kP dZ fT
  (thn (hi aE s σ H _ I h) λxv s₁ h₁=>thn h₁ λEV s₂ h₂=>?_)) (λ_ s' hq=>aj<|aj hq) λ_ _ e=>e)
 obtain⟨it,fp,tn,J,H2,e,I2,T,lW,f2,hw⟩:=h₂;subst e;refine acd (RR:=λacc C=>compPost (aH X.prog X.w) X.A X.xe (some<|lQ (.Name y py) X.env) (λ_ s'=>SP X aE D .next s') acc C) hc dZ oI bZ mU hg ht he I2 T lW f2 hw ?_;intro E C H' s' fC ns fp hI I' q;obtain⟨m,hn⟩:=ns;show aG _ _ (lQ (.Name y py) X.env<|.ref E) _ _ _;refine BM<|afe I' hN HC hx (v:=.ref E) rfl (λs2 I2 ⟨a,sb,ha⟩=>?_) hf;have hCa:C≠a:=by
  rcases ha with ha|ha
  .rw[ha];exact fp.2.1
  .exact λz=>fp.2.2.2.2.1 _ _ ha z.symm
 exact⟨m,hn.sameBut sb hCa,λh3 wE=>(l0 _ H' ⟨I2.turned (t':=s2.toks) (λb o hb e=>(wE.2 b hb).trans e) fp.1 fp.2.1 fp.2.2.2.1 fp.2.2.2.2.1 fp.2.2.2.2.2,q⟩)⟩
end
end L3
namespace L3
structure Ord(lt:Nat->Nat->Bool):Prop where
 asy:∀a b,lt a b=true->lt b a=false
 tr:∀a b c,lt b a=false->lt c b=false->lt c a=false
noncomputable def zU(lt:Nat->Nat->Bool)(x:Nat):Z Nat->Z Nat
 | []=>[x]
 | y::l=>if lt y x=true then y::zU lt x l else x::y::l
noncomputable def FL(lt:Nat->Nat->Bool):Z Nat->Z Nat
 | []=>[]
 | x::l=>zU lt x<|FL lt l
noncomputable def srt(lt:Nat->Nat->Bool)(n:Nat):Z Nat:=FL lt<|e8 n
theorem Mp(lt:Nat->Nat->Bool)(x:Nat):∀l,(zU lt x l).Perm (x::l)
 | []=>jw _
 | y::l=>by
  unfold zU;split
  .exact((Mp lt x l).cons y).trans (List.Perm.swap x y l)
  .exact jw _
theorem aek(lt:Nat->Nat->Bool):∀l,(FL lt l).Perm l
 | []=>jw _
 | x::l=>(Mp lt x _).trans ((aek lt l).cons x)
def L0(lt:Nat->Nat->Bool)(n:Nat):(srt lt n).Perm (e8 n):=aek lt _
def zg(lt:Nat->Nat->Bool)(n:Nat):(srt lt n).length=n:=by rw[(L0 lt n).length_eq,g0]
theorem Ord.irr{lt:Nat->Nat->Bool}(o:Ord lt)(a:Nat):lt a a=false:=by
 cases h:lt a a with
 | false=>rfl
 | true=>exact h.symm.trans<|o.asy a a h
theorem akx{lt:Nat->Nat->Bool}(o:Ord lt)(x:Nat):∀{l:Z Nat},l.Pairwise (λa b=>lt b a=false)->(zU lt x l).Pairwise (λa b=>lt b a=false)
 | [],_=>by simp[zU]
 | y::l,h=>by
  have h':=gk.mp h;unfold zU;split
  .rename_i hy
   refine gk.mpr ⟨λz hz=>?_,akx o x h'.2⟩;rcases a7.mp ((Mp lt x l).mem_iff.mp hz)with rfl|hz
   .exact o.asy _ _ hy
   .exact h'.1 z hz
  .rename_i hy
   have wK:lt y x=false:=by simpa using hy
   refine gk.mpr ⟨λz hz=>?_,h⟩;rcases a7.mp hz with rfl|hz
   .exact wK
   .exact o.tr _ _ _ wK<|h'.1 z hz
theorem amr{lt:Nat->Nat->Bool}(o:Ord lt):∀l,(FL lt l).Pairwise (λa b=>lt b a=false)
 | []=>List.Pairwise.nil
 | x::l=>akx o x<|amr o l
def apb{lt:Nat->Nat->Bool}(o:Ord lt)(n:Nat){i j:Nat}(h1:i<=j)(h2:j<n):lt ((srt lt n).getD j 0) ((srt lt n).getD i 0)=false:=by
 have hl:=zg lt n;have hj:j<(srt lt n).length:=by lia
 have hi:i<(srt lt n).length:=by lia
 rw[f9,f9,ah hj,ah hi];show lt (srt lt n)[j] (srt lt n)[i]=false;by_cases e:i=j
 .subst e;exact o.irr _
 .exact fq.mp (amr o<|e8 n) i j hi hj<|by lia
end L3
namespace L3
open PySem PySem.Spec PyProof.Rows L2
mutual
def Rep(H:Hp):U->V->Prop
 | .none,v=>v=.non
 | .bool b,v=>v=.bl b
 | .int i,v=>v=.int i
 | .str x,v=>v=.str x/\jk x=true
 | .tuple ds,v=>∃a xs,v=.ref a/\H a=some (.tup xs)/\RepAll H ds xs
 | .list ds,v=>∃a xs,v=.ref a/\H a=some (.lst xs)/\RepAll H ds xs
 | .dict _,_=>False
def RepAll(H:Hp):Z U->Z V->Prop
 | [],xs=>xs=[]
 | d::ds,xs=>∃x r,xs=x::r/\Rep H d x/\RepAll H ds r
end
mutual
noncomputable def imm:U->Bool
 | .none=>true
 | .bool _=>true
 | .int _=>true
 | .str _=>true
 | .tuple ds=>qe ds
 | .list _=>false
 | .dict _=>false
noncomputable def qe:Z U->Bool
 | []=>true
 | d::ds=>imm d&&qe ds
end
def Tk(H H':Hp):Prop:=∀b xs,H b=some (.tup xs)->H' b=some (.tup xs)
theorem Tk.lst{H:Hp}{p:aF}{xs:Z V}{o:HO}(h:H p=some (.lst xs)):Tk H (upd H p o):=λb ys q=>by rw[nu (K2 q h<|by intro z;cases z)];exact q
mutual
theorem Rep.tk{H H':Hp}(t:Tk H H'):∀{d:U} {v:V},imm d=true->Rep H d v->Rep H' d v
 | .none,_,_,h=>h
 | .bool _,_,_,h=>h
 | .int _,_,_,h=>h
 | .str _,_,_,h=>h
 | .tuple ds,v,hi,h=>by obtain⟨a,xs,e,ha,r⟩:=h;exact(l0 a xs ⟨e,t _ _ ha,RepAll.tk t hi r⟩)
 | .list _,_,hi,_=>absurd hi am
 | .dict _,_,hi,_=>absurd hi am
theorem RepAll.tk{H H':Hp}(t:Tk H H'):∀{ds:Z U} {xs:Z V},qe ds=true->RepAll H ds xs->RepAll H' ds xs
 | [],_,_,h=>h
 | d::ds,xs,hi,h=>by obtain⟨x,r,e,h1,h2⟩:=h;have dO:(imm d&&qe ds)=true:=hi;rw[gh]at dO;exact(l0 x r ⟨e,Rep.tk t dO.1 h1,RepAll.tk t dO.2 h2⟩)
end
mutual
theorem Rep.same{H H':Hp}(t:Same H H'):∀{d:U} {v:V},Rep H d v->Rep H' d v
 | .none,_,h=>h
 | .bool _,_,h=>h
 | .int _,_,h=>h
 | .str _,_,h=>h
 | .tuple ds,v,h=>by obtain⟨a,xs,e,ha,r⟩:=h;exact(l0 a xs ⟨e,t _ _ ha,RepAll.same t r⟩)
 | .list ds,v,h=>by obtain⟨a,xs,e,ha,r⟩:=h;exact(l0 a xs ⟨e,t _ _ ha,RepAll.same t r⟩)
 | .dict _,_,h=>h
theorem RepAll.same{H H':Hp}(t:Same H H'):∀{ds:Z U} {xs:Z V},RepAll H ds xs->RepAll H' ds xs
 | [],_,h=>h
 | d::ds,xs,h=>by obtain⟨x,r,e,h1,h2⟩:=h;exact(l0 x r ⟨e,Rep.same t h1,RepAll.same t h2⟩)
end
theorem RepAll.length{H:Hp}:∀{ds:Z U} {xs:Z V},RepAll H ds xs->xs.length=ds.length
 | [],xs,h=>by have e:xs=[]:=h;rw[e];rfl
 | d::ds,xs,h=>by obtain⟨x,r,e,_,h2⟩:=h;rw[e,bp,bp,RepAll.length h2]
theorem RepAll.get{H:Hp}:∀{ds:Z U} {xs:Z V} {i:Nat} {d:U},RepAll H ds xs->ds[i]?=some d->∃x,xs[i]?=some x/\Rep H d x
 | [],_,_,_,_,e=>by simp at e
 | d::ds,xs,0,d',h,e=>by obtain⟨x,r,e1,h1,_⟩:=h;subst e1;simp at e;subst e;exact⟨x,rfl,h1⟩
 | d::ds,xs,i+1,d',h,e=>by obtain⟨x,r,e1,_,h2⟩:=h;subst e1;obtain⟨y,h3,h4⟩:=RepAll.get (i:=i) h2 (by simpa using e);exact⟨y,by simpa using h3,h4⟩
theorem RepAll.at{H:Hp}{ds:Z U}{xs:Z V}{i:Nat}{x:V}(h:RepAll H ds xs)(e:xs[i]?=some x):∃d,ds[i]?=some d/\Rep H d x:=by
 have hi:i<xs.length:=(af.mp e).1;have dO:i<ds.length:=by rw[<-h.length];exact hi
 obtain⟨y,h1,h2⟩:=h.get<|ah dO;rw[e]at h1;cases h1;exact⟨_,ah dO,h2⟩
theorem RepAll.append{H:Hp}:∀{ds es:Z U} {xs ys:Z V},RepAll H ds xs->RepAll H es ys->RepAll H (ds++es) (xs++ys)
 | [],es,xs,ys,h,h'=>by have e:xs=[]:=h;rw[e];exact h'
 | d::ds,es,xs,ys,h,h'=>by obtain⟨x,r,e,h1,h2⟩:=h;subst e;exact(l0 x (r++ys) ⟨rfl,h1,RepAll.append h2 h'⟩)
def RepAll.snoc{H:Hp}{ds:Z U}{d:U}{xs:Z V}{x:V}(h:RepAll H ds xs)(h':Rep H d x):RepAll H (ds++[d]) (xs++[x]):=h.append<|l0 x ([]) ⟨rfl,h',rfl⟩
theorem RepAll.drop{H:Hp}:∀{ds:Z U} {xs:Z V} (n:Nat),RepAll H ds xs->RepAll H (ds.drop n) (xs.drop n)
 | _,_,0,h=>h
 | [],xs,n+1,h=>by have e:xs=[]:=h;rw[e];rfl
 | d::ds,xs,n+1,h=>by obtain⟨x,r,e,_,h2⟩:=h;subst e;exact RepAll.drop n h2
theorem RepAll.take{H:Hp}:∀{ds:Z U} {xs:Z V} (n:Nat),RepAll H ds xs->RepAll H (ds.take n) (xs.take n)
 | _,_,0,_=>rfl
 | [],xs,n+1,h=>by have e:xs=[]:=h;rw[e];rfl
 | d::ds,xs,n+1,h=>by obtain⟨x,r,e,h1,h2⟩:=h;subst e;exact(l0 x (r.take n) ⟨rfl,h1,RepAll.take n h2⟩)
mutual
theorem Rep.lay{H:Hp}:∀{d:U} {v:V},Rep H d v->d.canLay0=true
 | .none,_,_=>rfl
 | .bool _,_,_=>rfl
 | .int _,_,_=>rfl
 | .str _,_,h=>h.2
 | .tuple ds,_,h=>by obtain⟨_,_,_,_,r⟩:=h;exact RepAll.lay r
 | .list ds,_,h=>by obtain⟨_,_,_,_,r⟩:=h;exact RepAll.lay r
 | .dict _,_,h=>h.elim
theorem RepAll.lay{H:Hp}:∀{ds:Z U} {xs:Z V},RepAll H ds xs->iq ds=true
 | [],_,_=>rfl
 | d::ds,_,h=>by obtain⟨x,r,e,h1,h2⟩:=h;show(d.canLay0&&iq ds)=true;rw[Rep.lay h1,RepAll.lay h2];rfl
end
section
variable{X:Cx}{aE:Z (aF×Obj)}{σ:L2.St}{H:Hp}{s:aB}
mutual
theorem Rep.reads(I:Inv X aE σ H s):∀{d:U} {v:V} {u:aA},Rep H d v->RelV v u->∃as,Reads s.heap u d as
 | .none,v,u,h,r=>by cases (show v=.non from h);cases (show u=aA.none from r);exact⟨_,.none⟩
 | .bool b,v,u,h,r=>by cases (show v=.bl b from h);cases (show u=aA.bool b from r);exact⟨_,.bool b⟩
 | .int i,v,u,h,r=>by cases (show v=.int i from h);obtain⟨t,e⟩:=(show ∃t,u=aA.int i t from r);cases e;exact⟨_,.int i t⟩
 | .str x,v,u,h,r=>by cases (show v=.str x from h.1);obtain⟨t,e⟩:=(show ∃t,u=aA.str x t from r);cases e;exact⟨_,.str x t⟩
 | .tuple ds,v,u,h,r=>by obtain⟨a,xs,e,ha,q⟩:=h;subst e;cases (show u=aA.ref a from r);obtain⟨its,rv,⟨o,e1,e2,n,e3⟩,_⟩:=I.tuple<|SqT.of (K:=X.K) ha;obtain⟨as,z⟩:=RepAll.reads I q rv;exact⟨as,.tuple e1 e2 e3 z⟩
 | .list ds,v,u,h,r=>by obtain⟨a,xs,e,ha,q⟩:=h;subst e;cases (show u=aA.ref a from r);obtain⟨its,rv,⟨o,n,e1,e2,_,e3⟩,_⟩:=I.list<|SqL.of (K:=X.K) ha;obtain⟨as,z⟩:=RepAll.reads I q rv;exact⟨_,.list e1 e2 e3 z⟩
 | .dict _,_,_,h,_=>h.elim
theorem RepAll.reads(I:Inv X aE σ H s):∀{ds:Z U} {xs:Z V} {us:Z aA},RepAll H ds xs->Vals xs us->∃as,ReadsAll s.heap us ds as
 | [],xs,us,h,r=>by cases (show xs=[]from h);cases r;exact⟨_,.nil⟩
 | d::ds,xs,us,h,r=>by
  obtain⟨x,t,e,h1,h2⟩:=h;subst e;cases r with
  | cons r1 r2=>
   obtain⟨as,z1⟩:=Rep.reads I h1 r1;obtain⟨bs,z2⟩:=RepAll.reads I h2 r2;exact⟨_,.cons z1 z2⟩
end
end
def azm(neg:Bool):R2:=λx y H Q=>∃dx dy,Rep H dx x/\Rep H dy y/\dx.depth<=60/\Q (.bl (if neg then !PyData.eqv dx dy else br dx dy)) H
section
variable{X:Cx}
def La(hu:X.A.units+64<bI):OpR X (aV .NotEq) (azm true):=by intro aE s σ H x y v u Q I rx ry h;obtain⟨dx,dy,hx,hy,hd,q⟩:=h;obtain⟨as,r1⟩:=hx.reads I rx;obtain⟨bs,r2⟩:=hy.reads I ry;exact SeqAt.compareNe_reads r1 r2 hx.lay hy.lay (by have:=Nat.min_le_left dx.depth dy.depth;lia)<|l0 (.bl _) H ⟨I,rfl,q⟩
def ay2(neg:Bool):R2:=λx y H Q=>∃d p xs ds,Rep H d x/\y=.ref p/\(H p=some (.lst xs)\/H p=some (.tup xs))/\RepAll H ds xs/\d.depth<=60/\
 Q (.bl (if neg then !(ds.any λe=>br e d)else ds.any λe=>br e d)) H
def Gg(hu:X.A.units+64<bI):OpR X (aV .In) (ay2 false):=by
 intro aE s σ H x y v u Q I rx ry h;obtain⟨d,p,xs,ds,hx,rfl,hp,cY,hd,q⟩:=h;cases ry;obtain⟨bs,r2⟩:=hx.reads I rx;have room:X.A.units+1+iA (bu ds) d.depth<bI:=by have:=Nat.min_le_right (bu ds) d.depth;lia
 rcases hp with hp|hp
 .obtain⟨as,r1⟩:=Rep.reads I (d:=.list ds) (v:=.ref p) (u:=.ref p) (l0 p xs ⟨rfl,hp,cY⟩) rfl;exact SeqAt.in_list_reads r1 r2 cY.lay hx.lay room<|l0 (.bl _) H ⟨I,rfl,q⟩
 .obtain⟨as,r1⟩:=Rep.reads I (d:=.tuple ds) (v:=.ref p) (u:=.ref p) (l0 p xs ⟨rfl,hp,cY⟩) rfl;exact SeqAt.in_tuple_reads r1 r2 cY.lay hx.lay room<|l0 (.bl _) H ⟨I,rfl,q⟩
def vt(hu:X.A.units+64<bI):OpR X (aV .NotIn) (ay2 true):=by
 intro aE s σ H x y v u Q I rx ry h;obtain⟨d,p,xs,ds,hx,rfl,hp,cY,hd,q⟩:=h;cases ry;obtain⟨bs,r2⟩:=hx.reads I rx;have room:X.A.units+1+iA (bu ds) d.depth<bI:=by have:=Nat.min_le_right (bu ds) d.depth;lia
 rcases hp with hp|hp
 .obtain⟨as,r1⟩:=Rep.reads I (d:=.list ds) (v:=.ref p) (u:=.ref p) (l0 p xs ⟨rfl,hp,cY⟩) rfl;exact SeqAt.notIn_list_reads r1 r2 cY.lay hx.lay room<|l0 (.bl _) H ⟨I,rfl,q⟩
 .obtain⟨as,r1⟩:=Rep.reads I (d:=.tuple ds) (v:=.ref p) (u:=.ref p) (l0 p xs ⟨rfl,hp,cY⟩) rfl;exact SeqAt.notIn_tuple_reads r1 r2 cY.lay hx.lay room<|l0 (.bl _) H ⟨I,rfl,q⟩
def qt:ub X (.builtin "isinstance") (λxs H Q=>∃x T t b,xs=[x,.ty T]/\pM X.K H x t/\PySem.W.kitOne X.K t (.type T)=some b/\Q (.bl b) H):=by intro aE s σ H xs us Q I r h;obtain⟨x,T,t,b,rfl,ty,e,q⟩:=h;obtain⟨u,w',rfl,r1,r2⟩:=KY r;cases (show w'=aA.type T from r2);exact akt I r1 ty e λtk=>(l0 (.bl b) H ⟨I.tok _,rfl,q⟩)
end
noncomputable def KF:U->U->Bool
 | .int a,.int b=>decide (a<b)
 | .str a,.str b=>decide (a.cps.toList<b.cps.toList)
 | _,_=>false
noncomputable def qp:Z U->Z U->Bool
 | [],[]=>false
 | [],_::_=>true
 | _::_,[]=>false
 | x::xs,y::ys=>if br x y=true then qp xs ys else KF x y
def Row:Z Bool->Z U->Prop
 | [],ds=>ds=[]
 | true::ks,ds=>∃i r,ds=.int i::r/\Row ks r
 | false::ks,ds=>∃x r,ds=.str x::r/\Row ks r
noncomputable def uu:U->Z U
 | .tuple ds=>ds
 | _=>[]
noncomputable def tZ(ds:Z U)(i j:Nat):Bool:=qp (uu<|ds.getD i .none)<|uu<|ds.getD j .none
noncomputable def rq(ds:Z U):Z U:=(srt (tZ ds) ds.length).map λi=>ds.getD i .none
section
variable{prog:aK}{w:aO}{A:Around}{E:aA->aB->Prop}{s:aB}{Q:Bool->aB->Prop}
theorem Gw:∀{ks:Z Bool} {xs ys:Z U} {us vs:Z aA} {as bs:Z aF} {i:Nat},Row ks xs->Row ks ys->ReadsAll s.heap us xs as->ReadsAll s.heap vs ys bs->Q (qp xs ys) s->
  PySem.W.KatLex prog w A true false Q (us.zip vs) i s
 | [],xs,ys,us,vs,as,bs,i,h1,h2,r1,r2,q=>by cases (show xs=[]from h1);cases (show ys=[]from h2);cases r1;cases r2;exact q
 | true::ks,xs,ys,us,vs,as,bs,i,h1,h2,r1,r2,q=>by
  obtain⟨a,xr,rfl,h1⟩:=h1;obtain⟨b,yr,rfl,h2⟩:=h2;cases r1 with
  | cons ra r1=>
   cases r2 with
   | cons rb r2=>
    cases ra with
    | int _ t=>
     cases rb with
     | int _ u=>
      rw[List.zip_cons_cons];refine PySem.W.kat_cons<|SeqAt.EqAt.int_int a t b u prog w _ _ ?_;have q':Q (if br (.int a) (.int b)=true then qp xr yr else KF (.int a) (.int b)) s:=q;have e:br (.int a) (.int b)=(a==b):=rfl;rw[e]at q';cases hb:(a==b)with
      | true=>rw[hb,if_pos rfl]at q';exact PySem.W.kat_yes (Gw h1 h2 r1 r2 q')
      | false=>
       rw[hb,if_neg am]at q';refine PySem.W.kat_no ?_;cases hi:(i==0)with
       | true=>exact oneLt_int q'
       | false=>exact PySem.W.kat_one _ _ (lt_int q')
 | false::ks,xs,ys,us,vs,as,bs,i,h1,h2,r1,r2,q=>by
  obtain⟨a,xr,rfl,h1⟩:=h1;obtain⟨b,yr,rfl,h2⟩:=h2;cases r1 with
  | cons ra r1=>
   cases r2 with
   | cons rb r2=>
    cases ra with
    | str _ t=>
     cases rb with
     | str _ u=>
      rw[List.zip_cons_cons];refine PySem.W.kat_cons<|SeqAt.EqAt.str_str a t b u prog w _ _ ?_;have q':Q (if br (.str a) (.str b)=true then qp xr yr else KF (.str a) (.str b)) s:=q;have e:br (.str a) (.str b)=(a==b):=rfl;rw[e]at q';cases hb:(a==b)with
      | true=>rw[hb,if_pos rfl]at q';exact PySem.W.kat_yes (Gw h1 h2 r1 r2 q')
      | false=>
       rw[hb,if_neg am]at q';refine PySem.W.kat_no ?_;cases hi:(i==0)with
       | true=>exact oneLt_str q'
       | false=>exact PySem.W.kat_one _ _<|PyProof.Rows.lt_str q'
end
theorem Row.len{ks:Z Bool}:∀{ds:Z U},Row ks ds->ds.length=ks.length:=by
 induction ks with
 | nil=>intro ds h;cases (show ds=[]from h);rfl
 | cons k ks ih=>
  intro ds h;cases k with
  | true=>obtain⟨i,r,rfl,h⟩:=h;rw[bp,bp,ih h]
  | false=>obtain⟨i,r,rfl,h⟩:=h;rw[bp,bp,ih h]
def Rows(ks:Z Bool)(ds:Z U):Prop:=∀d∈ds,∃r,d=.tuple r/\Row (true::ks) r
section
variable{X:Cx}
theorem ap1(I:Inv X aE σ H s){ks:Z Bool}{d:U}{v:V}{u:aA}(h:Rep H d v)(r:RelV v u){row:Z U}(e:d=.tuple row)(hr:Row (true::ks) row) :
  ∃a o vs n as i t,u=.ref a/\s.heap.get? a=some o/\o.cls=.type "tuple"/\o.data=.seq vs n/\ReadsAll s.heap vs.toList row as/\vs[0]?=some (.int i t):=by
 subst e;obtain⟨as,z⟩:=h.reads I r;cases z with
 | @tuple a o vs n _ _ e1 e2 e3 z=>
  obtain⟨i,rr,rfl,_⟩:=hr;have z':=z;generalize hv:vs.toList=vl at z;cases z with
  | cons ra rb=>
   cases ra with
   | int _ t=>
    refine(lv a o vs n _<|l0 i t ⟨rfl,e1,e2,e3,z',?_⟩);rw[<-bm,hv];rfl
theorem ain(I:Inv X aE σ H s){ks:Z Bool}:∀{ds:Z U} {xs:Z V} {us:Z aA},RepAll H ds xs->Vals xs us->Rows ks ds->∃fs:Z aA,j4 s.heap us fs/\fs.length=ds.length/\∀v∈fs,∃i t,v=aA.int i t
 | [],xs,us,h,r,_=>by cases (show xs=[]from h);cases r;exact⟨[],trivial,rfl,λv hv=>by cases hv⟩
 | d::ds,xs,us,h,r,hr=>by
  obtain⟨x,t,e,h1,h2⟩:=h;subst e;cases r with
  | cons r1 r2=>
   obtain⟨row,e,oZ⟩:=hr d aq;obtain⟨a,o,vs,n,as,i,tk,rfl,e1,e2,e3,_,e4⟩:=ap1 I h1 r1 e oZ;obtain⟨fs,k1,k2,k3⟩:=ain I h2 r2 λd hd=>hr d<|av _ hd;refine⟨.int i tk::fs,j4.cons e1 e2 e3 e4 k1,by rw[bp,bp,k2],λv hv=>?_⟩;rcases a7.mp hv with rfl|hv
   .exact(l0 i tk rfl)
   .exact k3 v hv
theorem KatTups.keeps{h h':Heap}(k:∀b o,h.get? b=some o->h'.get? b=some o):∀{vs fs:Z aA},j4 h vs fs->j4 h' vs fs
 | [],[],_=>trivial
 | v::vs,f::fs,x=>by obtain⟨⟨a,o,xs,n,e,e1,e2⟩,r⟩:=x;exact⟨(l9 a o xs n ⟨e,k _ _ e1,e2⟩),KatTups.keeps k r⟩
 | [],_::_,x=>x.elim
 | _::_,[],x=>x.elim
end
end L3
namespace L3
open PySem PySem.Spec PyProof.Rows
def alx(a v:aA):Bp "max" ⟨[a],[(bw "default",v)]⟩:=by unfold Bp;kernel_rfl
section
variable{prog:aK}{w:aO}{A:Around}{E:aA->aB->Prop}{s:aB}
def akq{l:aF}{vs:Z aA}{ns:Z Int}{Q:aA->aB->Prop}(hh:A.handled=none)(hl:s.heap.IsList l vs.toArray)(hi:gB vs ns)(fI:0<ns.length)
  (h:∀h' M (t:uC) tk,(∀b o,s.heap.get? b=some o->h'.get? b=some o)->M∈ns->(∀a,a∈ns->M<=a)->Q (.int M t) {s with heap:=h',toks:=tk}) :
  aG (aH prog w) A (call (.builtin "min") [.ref l]) Q E s:=by
 obtain⟨xs,e⟩:=hi.allInts.items;have oH:ns=xs.toList.map (·.1):=by rw[<-hi.numsOf,<-nums_intItems,<-e]
 have hsz:0<xs.size:=by have h3:=fI;rw[oH,ae,a0]at h3;exact h3
 rw[e]at hl;refine min_intList hh hl hsz λv h' tk hv hk=>?_;obtain⟨t,rfl⟩:=wI hv;obtain⟨h1,h2⟩:=argBest_lt (numAt xs)<|xs.size-1;refine h _ _ t tk hk ?_ λa ha=>?_
 .rw[oH,wG];exact getD_mem<|by rw[ae,a0];omega
 .rw[oH]at ha;obtain⟨j,hj,rfl⟩:=mem_getD ha;rw[ae,a0]at hj;rw[<-wG];exact h2 j<|by omega
end
end L3
namespace L3
open PySem PySem.Spec PyProof.Rows L2
noncomputable def nw:Expr->Bool
 | .Starred _ _=>false
 | _=>true
def ou{e:Expr}{es:Z Expr}{env:qL}(h:nw e=true):aU (e::es) env=(false,bX e env)::aU es env:=by cases e<;>first|rfl|exact absurd h am
theorem uw{pos:dQ}{env:qL}:∀{es:Z Expr},es.all nw=true->(cV pos<|aU es env).any (·.1)=false
 | [],_=>rfl
 | e::es,h=>by rw[List.all_cons,gh]at h;rw[ou h.1];show(false||(cV pos<|aU es env).any (·.1))=false;rw[uw h.2];rfl
def lq{X:Cx}{e:Expr}{es:Z Expr}{te:TE}{t:TA}(ha:PE X e te)(hr:PA X es t)(h:nw e=true:=by rfl):PA X (e::es) (xg te t):=arl ha hr<|ou h
def ax9{X:Cx}{x:Str}{p pos:dQ}{e:Expr}{es:Z Expr}{t:TA}{id:String}{r:Z V->Hp->VK->Prop}(hc:ub X (.builtin id) r)(hg:Gl X x)(hm:X.mg x=none)(hv:bP x=some (.builtin id))(ha:PA X (e::es) t)
  (hn:x≠"__name__":=by decide) (mK:(x==("__debug__" : Str))=false:=by decide) (h1:nw e=true:=by rfl) (h2:es.all nw=true:=by rfl):PE X (.Call (.Name x p) (e::es) [] pos) (tCB r t):=
 ao3 hc hg hm hv ha hn mK (ou h1) (uw h2)
def axw{X:Cx}{x:Str}{p pos:dQ}{e:Expr}{es:Z Expr}{t:TA}{T:String}{r:Z V->Hp->VK->Prop}(hc:ub X (.type T) r)(hg:Gl X x)(hm:X.mg x=none)(hv:bP x=some (.type T))(ha:PA X (e::es) t)
  (hn:x≠"__name__":=by decide) (mK:(x==("__debug__" : Str))=false:=by decide) (h1:nw e=true:=by rfl) (h2:es.all nw=true:=by rfl):PE X (.Call (.Name x p) (e::es) [] pos) (tCB r t):=
 amb hc hg hm hv ha hn mK (ou h1) (uw h2)
def axr{X:Cx}{tg a:Expr}{ta:TA}{p pos:dQ}(hg:Gl X "range")(hm:X.mg "range" = none)(ha:PA X [a] ta)(h:nw a=true:=by rfl):PI X tg (.Call (.Name "range" p) [a] [] pos) (K0 ta):=
 amz hg hm ha (ou h)
def Fn(P:aK)(w:aO)(K:ax)(mg:Str->Option aA)(base:Heap)(x:Str)(k:Nat)(ps:Z Str)(sp:Sp):Prop:=
 ∃f fd,qr P w K mg base CX0 k f fd ps sp/\mg x=some (.ref f)/\kn K (.ref f)=true/\Binds K fd ps []
section
variable{X:Cx}{k j:Nat}{ps:Z Str}{sp:Sp}{x:Str}{p pos rC:dQ}{e e2:Expr}{es:Z Expr}{t tk:TA}{te:TE}
def ayc(F:Fn X.prog X.w X.K X.mg X.base x k ps sp)(hr:Room j X.A)(hk:k<=j)(hg:Gl X x)
  (ha:PA X (e::es) t) (mK:(x==("__debug__" : Str))=false:=by decide) (h1:nw e=true:=by rfl) (h2:es.all nw=true:=by rfl) :
  PE X (.Call (.Name x p) (e::es) [] pos) (KU sp [] E0 t):=by
 obtain⟨f,fd,F,m,kp,b⟩:=F;exact aqy F (hr.mono hk) hg m kp b .nil auz ha mK (ou h1)<|uw h2
def azh:Z V->Hp->VK->Prop:=λxs H Q=>∃q,∃ns:Z Int,xs=[.ref q]/\H q=some (.lst<|ns.map V.int)/\0<ns.length/\∀M,M∈ns->(∀a∈ns,M<=a)->Q (.int M) H
def ael(hc:X.calm=true):ub X (.builtin "min") azh:=by intro aE s σ H xs us Q I r h;obtain⟨q,ns,rfl,hq,hn,h⟩:=h;obtain⟨u,rfl,r1⟩:=va r;cases (show u=aA.ref q from r1);obtain⟨its,rv,pl,hz⟩:=I.list<|SqL.of (K:=X.K) hq;exact akq (I.ok.hd hc) pl.isList (act rv) hn λh' M t tk k h1 h2=>(l0 (.int M) H ⟨I.kept k,⟨_,rfl⟩,h M h1 h2⟩)
end
def qo{X:Cx}{N:Z Str}{scope:dA}{z:CZ}{es:Z Expr}{k:Nat}{pos:dQ}{t:TGs}{n:Nat}(hc:X.calm=true)(h:PGs (nv X N scope z) es t)
  (hn:(dS es (nv X N scope z).env).length=n:=by rfl) (gQ:(dS es (nv X N scope z).env).findIdx? (·.1)=none:=by rfl):PG (nv X N scope z) (.Tuple es k pos) (DH X.K n t):=
 qb (X:=nv X N scope z) hc h hn gQ
section
variable{X:Cx}{N:Z Str}{scope:dA}{z:CZ}
def um:IxR (nv X N scope z) (Ky X.K):=mf (X:=nv X N scope z)
def aof:IxR (nv X N scope z) (ayz X.K):=my (X:=nv X N scope z)
def ad8:ub (nv X N scope z) (.builtin "len") (λxs H Q=>∃p ys,xs=[.ref p]/\(SqL X.K H p ys\/SqT X.K H p ys)/\Q (.int ys.length) H):=mn (X:=nv X N scope z)
end
section
variable{K:ax}{a D:aF}{xs:Z V}{sl:Z (Option Nat)}{g:TG}{tt:TT}{te:TE}{σ:L2.St}{H1:Hp}{Q:VK}
def Nx(D:aF)(i:Nat)(Pv:Nat->Z V->Hp->Prop):Hp->Prop:=λH'=>∃ys,H' D=some (.lst ys)/\ys.length<=i+1/\Pv (i+1) ys H'
def qm{i:Nat}{Pv:Nat->Z V->Hp->Prop}{H:Hp}{ys:Z V}{y:V}(hi:i<1000)(hD:H D=some (.lst ys))(hl:ys.length<=i)(h:Pv (i+1) (ys++[y]) (upd H D<|.lst<|ys++[y])) :
  ∃xs,H D=some (.lst xs)/\xs.length<aC/\Nx D i Pv (upd H D<|.lst<|xs++[y]):=
 (ng ys hD (mr<|by lia) (ys++[y]) ⟨lr,by rw[au,cc];lia,h⟩)
def Gm(J:It)(n:Nat)(Pv:Nat->Z V->Hp->Prop)(h0:Pv 0 [] (upd H1 D<|.lst []))
  (AV:∀i ys H,i<n->Pv i ys H->J.go i H) (gQ:∀ys H,Pv n ys H->J.stop n H)
  (hs:∀i x ys H H',i<n->J.yld i H x H'->H D=some (.lst ys)->ys.length<=i->Pv i ys H->g x (su sl σ) H' λσ2 H2=>Agree (su sl σ) σ2/\tt σ2 H2 λb H3=>
   if b=true then te σ2 H3 λy H4=>∃xs,H4 D=some (.lst xs)/\xs.length<aC/\Nx D i Pv (upd H4 D<|.lst<|xs++[y])else Nx D i Pv H3)
  (hd:∀ys H,H D=some (.lst ys)->ys.length<=n->Pv n ys H->Q (.ref D) H):vU J sl g tt te σ H1 D Q:=by
 refine⟨λi m H=>m=n-i/\i<=n/\∃ys,H D=some (.lst ys)/\ys.length<=i/\Pv i ys H,(ng n (by simp) (f8 _) ([]) ⟨lr,ao _,h0⟩),?_⟩;rintro i m H ⟨rfl,hi,ys,hy,hl,p⟩;by_cases bS:i<n
 .refine .inr ⟨AV i ys H bS p,Nx D i Pv,λH' ⟨uD,e1,e2,e3⟩=>⟨n-(i+1),by lia,rfl,bS,uD,e1,e2,e3⟩,λx H' y=>hs i x ys H H' bS y hy hl p⟩
 .have e:i=n:=by lia
  subst e;exact .inl ⟨gQ ys H p,hd ys H hy hl p⟩
def o8(Pv:Nat->Z V->Hp->Prop)(h0:Pv 0 [] (upd H1 D<|.lst []))(hl:∀i ys H,Pv i ys H->SqL K H a xs)
  (hs:∀i x ys H,xs[i]?=some x->i<xs.length->H D=some (.lst ys)->ys.length<=i->Pv i ys H->g x (su sl σ) H λσ2 H2=>Agree (su sl σ) σ2/\tt σ2 H2 λb H3=>
   if b=true then te σ2 H3 λy H4=>∃xs,H4 D=some (.lst xs)/\xs.length<aC/\Nx D i Pv (upd H4 D<|.lst<|xs++[y])else Nx D i Pv H3)
  (hd:∀ys H,H D=some (.lst ys)->ys.length<=xs.length->Pv xs.length ys H->Q (.ref D) H):vU (Itl K a) sl g tt te σ H1 D Q:=by
 refine Gm (Itl K a) xs.length Pv h0 (λi ys H hi p=>(l0 xs (xs[i]) ⟨hl i ys H p,by simp[hi]⟩)) (λys H p=>⟨xs,hl _ ys H p,ao _⟩) (λi x ys H H' hi y hD gO p=>?_) hd;obtain⟨e,y⟩:=y;subst e;exact hs i x ys _ (y xs<|hl i ys _ p) hi hD gO p
def ze(Pv:Nat->Z V->Hp->Prop)(h0:Pv 0 [] (upd H1 D<|.lst []))(hl:∀i ys H,Pv i ys H->SqT K H a xs)
  (hs:∀i x ys H,xs[i]?=some x->i<xs.length->H D=some (.lst ys)->ys.length<=i->Pv i ys H->g x (su sl σ) H λσ2 H2=>Agree (su sl σ) σ2/\tt σ2 H2 λb H3=>
   if b=true then te σ2 H3 λy H4=>∃xs,H4 D=some (.lst xs)/\xs.length<aC/\Nx D i Pv (upd H4 D<|.lst<|xs++[y])else Nx D i Pv H3)
  (hd:∀ys H,H D=some (.lst ys)->ys.length<=xs.length->Pv xs.length ys H->Q (.ref D) H):vU (Itt K a) sl g tt te σ H1 D Q:=by
 refine Gm (Itt K a) xs.length Pv h0 (λi ys H hi p=>(l0 xs (xs[i]) ⟨hl i ys H p,by simp[hi]⟩)) (λys H p=>⟨xs,hl _ ys H p,ao _⟩) (λi x ys H H' hi y hD gO p=>?_) hd;obtain⟨e,y⟩:=y;subst e;exact hs i x ys _ (y xs<|hl i ys _ p) hi hD gO p
def zu{lo:Int}{n:Nat}(Pv:Nat->Z V->Hp->Prop)(h0:Pv 0 [] (upd H1 D<|.lst []))
  (hs:∀i ys H,i<n->H D=some (.lst ys)->ys.length<=i->Pv i ys H->g (.int<|lo+i) (su sl σ) H λσ2 H2=>Agree (su sl σ) σ2/\tt σ2 H2 λb H3=>
   if b=true then te σ2 H3 λy H4=>∃xs,H4 D=some (.lst xs)/\xs.length<aC/\Nx D i Pv (upd H4 D<|.lst<|xs++[y])else Nx D i Pv H3)
  (hd:∀ys H,H D=some (.lst ys)->ys.length<=n->Pv n ys H->Q (.ref D) H):vU (Itr lo n) sl g tt te σ H1 D Q:=by
 refine Gm (Itr lo n) n Pv h0 (λi ys H hi p=>hi) (λys H p=>ao _) (λi x ys H H' hi y hD gO p=>?_) hd;obtain⟨e,e2⟩:=y;subst e e2;exact hs i ys _ hi hD gO p
end
def Ex(W:Z aF)(H H':Hp):Prop:=∀b o,b∉W->H b=some o->H' b=some o
def Ex.refl(W:Z aF)(H:Hp):Ex W H H:=λ_ _ _ h=>h
def Ex.trans{W:Z aF}{H H1 H2:Hp}(a:Ex W H H1)(b:Ex W H1 H2):Ex W H H2:=λc o hc h=>b c o hc<|a c o hc h
def Ex.of_same{W:Z aF}{H H':Hp}(a:Same H H'):Ex W H H':=λc o _ h=>a c o h
theorem Ex.upd{W:Z aF}{H:Hp}{p:aF}{o:HO}(h:p∈W):Ex W H (upd H p o):=λb u hb q=>by rw[nu (show b≠p from λe=>hb<|by rw[e];exact h)];exact q
def Ex.tk{W:Z aF}{H H':Hp}(a:Ex W H H')(h:∀b∈W,∃xs,H b=some (.lst xs)):Tk H H':=λb xs q=>a b _ (λhb=>by obtain⟨ys,e⟩:=h b hb;rw[q]at e;cases e) q
def Ex.one{st:aF}{H H':Hp}{xs:Z V}(a:Ex [st] H H')(h:H st=some (.lst xs)):Tk H H':=a.tk λb hb=>⟨xs,by rw[ar.mp hb];exact h⟩
def Ex.at{st:aF}{H H':Hp}{b:aF}{o:HO}(a:Ex [st] H H')(hb:b≠st)(h:H b=some o):H' b=some o:=a b o (by simpa using hb) h
def an3{H:Hp}{p b:aF}{o:HO}(h:upd H p o b=none):b≠p/\H b=none:=by
 by_cases e:b=p
 .subst e;rw[lr]at h;cases h
 .rw[nu e]at h;exact⟨e,h⟩
def _root_.L2.Same.new{H H':Hp}{p:aF}{o:HO}(a:Same H H')(h:H p=none):Same H (upd H' p o):=λb u q=>by rw[nu (qv q h)];exact a b u q
def _root_.L2.Same.fresh{H:Hp}{p:aF}(o:HO)(h:H p=none):Same H (upd H p o):=(Same.refl H).new h
def Cells(cs:Z U):Prop:=∀d∈cs,∃r c:Int,d=.tuple [.int r,.int c]
def Spots(ds:Z U):Prop:=∀d∈ds,∃(r c:Int)(x:Str),d=.tuple [.int r,.int c,.str x]
theorem sr:∀{ds:Z U},(∀d∈ds,imm d=true)->qe ds=true
 | [],_=>rfl
 | d::ds,h=>by show(imm d&&qe ds)=true;rw[h d aq,sr λe he=>h e<|av _ he];rfl
def Cells.imm{cs:Z U}(h:Cells cs):qe cs=true:=sr λd hd=>by obtain⟨r,c,rfl⟩:=h d hd;rfl
def Spots.imm{ds:Z U}(h:Spots ds):qe ds=true:=sr λd hd=>by obtain⟨r,c,x,rfl⟩:=h d hd;rfl
def aob{H:Hp}{r c:Int}{v:V}(h:Rep H (.tuple [.int r,.int c]) v):∃a,v=.ref a/\H a=some (.tup [.int r,.int c]):=by obtain⟨a,xs,e,ha,x1,r1,e1,h1,x2,r2,e2,h2,e3⟩:=h;cases (show x1=.int r from h1);cases (show x2=.int c from h2);cases (show r2=[]from e3);subst e1 e2;exact⟨a,e,ha⟩
def rn{H:Hp}{r c:Int}{x:Str}{v:V}(h:Rep H (.tuple [.int r,.int c,.str x]) v):∃a,v=.ref a/\H a=some (.tup [.int r,.int c,.str x])/\jk x=true:=by obtain⟨a,xs,e,ha,x1,r1,e1,h1,x2,r2,e2,h2,x3,r3,e3,h3,e4⟩:=h;cases (show x1=.int r from h1);cases (show x2=.int c from h2);cases (show x3=.str x from h3.1);cases (show r3=[]from e4);subst e1 e2 e3;exact⟨a,e,ha,h3.2⟩
def qk{H:Hp}{a:aF}{r c:Int}(h:H a=some (.tup [.int r,.int c])):Rep H (.tuple [.int r,.int c]) (.ref a):=(mz a _ rfl h _ _ rfl rfl _ ⟨_,rfl,rfl,rfl⟩)
def x5{H:Hp}{a:aF}{r c:Int}{x:Str}(h:H a=some (.tup [.int r,.int c,.str x]))(hx:jk x=true):Rep H (.tuple [.int r,.int c,.str x]) (.ref a):=
 (mz a _ rfl h _ _ rfl rfl _<|ng _ rfl rfl _ ⟨_,rfl,⟨rfl,hx⟩,rfl⟩)
theorem Spots.at{H:Hp}{ds:Z U}{xs:Z V}{i:Nat}{v:V}(h:Spots ds)(r:RepAll H ds xs)(e:xs[i]?=some v) :
  ∃(a:aF)(p q:Int)(x:Str),v=.ref a/\H a=some (.tup [.int p,.int q,.str x])/\jk x=true/\ds[i]?=some (.tuple [.int p,.int q,.str x]):=by
 obtain⟨d,e1,e2⟩:=r.at e;obtain⟨p,q,x,rfl⟩:=h d<|ai e1;obtain⟨a,e3,e4,e5⟩:=rn e2;exact(l9 a p q x ⟨e3,e4,e5,e1⟩)
noncomputable def sy:U->Int
 | .tuple (.int r::_)=>r
 | _=>0
noncomputable def uh:U->Int
 | .tuple (_::.int c::_)=>c
 | _=>0
noncomputable def tj:Z Int->Int
 | []=>0
 | [a]=>a
 | a::b::r=>if a<=tj (b::r)then a else tj (b::r)
theorem vd:∀{ns:Z Int},0<ns.length->tj ns∈ns
 | [],h=>by simp at h
 | [a],_=>by simp[tj]
 | a::b::r,_=>by
  unfold tj;split
  .exact aq
  .exact av _<|vd<|by simp
theorem xm:∀{ns:Z Int},∀a∈ns,tj ns<=a
 | [],a,h=>by cases h
 | [a],b,h=>by
  have e:b=a:=by simpa using h
  rw[e];exact jm _
 | a::b::r,x,h=>by
  unfold tj;rcases a7.mp h with e|h
  .rw[e];split
   .exact jm _
   .lia
  .have:=xm (ns:=b::r) x h;split
   .lia
   .exact this
def xk{ns:Z Int}{M:Int}(h1:M∈ns)(h2:∀a∈ns,M<=a):M=tj ns:=by have hp:0<ns.length:=List.length_pos_of_mem h1;have a1:=h2 _<|vd hp;have a2:=xm M h1;lia
noncomputable def z0(t l:Int):U->U
 | .tuple [.int r,.int c,.str x]=>.tuple [.int (r-t),.int<|c-l,.str x]
 | d=>d
noncomputable def oa(ds:Z U):Z U:=ds.map<|z0 (tj<|ds.map sy)<|tj<|ds.map uh
section
variable{K:ax}{a:aF}{xs:Z V}{ds:Z U}{σ:L2.St}{H:Hp}{Q:VK}
def mq{α β:Type}(f:α->β){l:List α}{i:Nat}{x:α}(h:l[i]?=some x):(l.take<|i+1).map f=(l.take i).map f++[f x]:=by rw[gc,h];simp
end
section
variable{X:Cx}{x:Str}{pos:dQ}
def Gy{z:Str}(h:∃t,X.mg x=some (.str z t))(hg:Gl X x)(hd:(x==("__debug__" : Str))=false:=by decide):PE X (.Name x pos) (tC<|.str z):=by obtain⟨t,h⟩:=h;exact aly hg h ⟨t,rfl⟩ hd
end
section
variable{X:Cx}
def yz:OpR X (aV .LtE) (λx y H Q=>∃i j,x=.str i/\y=.str j/\Q (.bl<|!decide (j.cps.toList<i.cps.toList)) H):=by intro aE s σ H x y v u Q I rx ry h;obtain⟨i,j,rfl,rfl,q⟩:=h;obtain⟨t,rfl⟩:=rx;obtain⟨t',rfl⟩:=ry;exact PySem.P.le_str<|l0 (.bl _) H ⟨I,rfl,q⟩
def azs:Z V->Hp->VK->Prop:=λxs H Q=>∃(p:aF)(bs:Z Bool),xs=[.ref p]/\H p=some (.lst<|bs.map V.bl)/\Q (.bl<|bs.all id) H
def ams:∀(bs:Z Bool),((e8 bs.length).all λi=>(bs[i]?).getD true)=bs.all id:=λbs=>by
 rw[jd,kh,kh];constructor
 .intro h b hb;obtain⟨i,hi,rfl⟩:=List.mem_iff_getElem.mp hb;have:=h i (by simpa using hi);simpa [hi]using this
 .intro h i hi;have dO:i<bs.length:=by simpa using hi
  have:=h bs[i] (gp dO);simpa [dO]using this
def ang(hc:X.calm=true):ub X (.builtin "all") azs:=by
 intro aE s σ H xs us Q I r h;obtain⟨p,bs,rfl,hp,q⟩:=h;obtain⟨u,rfl,r1⟩:=va r;cases (show u=aA.ref p from r1);obtain⟨its,rv,pl,hz⟩:=I.list<|SqL.of (K:=X.K) hp;have bS:p<s.heap.objs.size:=by obtain⟨_,_,e,_⟩:=pl;exact bi e
 have aZ:its.length=bs.length:=by rw[<-rv.length,ae]
 refine call_all_walk<|eU pl.isList ?_;refine⟨s.heap.objs.size,[s.heap.objs.size,p],[s.heap.objs.size],its.toArray.size,_,_,λi=>(bs[i]?).getD true,rfl,tH.list (A:=X.A.in1) (I.ok.hd hc) _ p (da bS) its.toArray,
  ⟨⟨_,bh _ rfl,rfl,rfl⟩,pl.isList.push _⟩,λi v s' Q' E' hP hQ=>?_,λh' tk hk=>?_⟩
 .have hi:its[i]?=some v:=by simpa using hP
  have oJ:i<bs.length:=by rw[<-aZ];exact(af.mp hi).1
  obtain⟨u',e1,e2⟩:=rv.get (i:=i) (x:=.bl bs[i]) (by rw[bo,ah oJ];rfl);rw[hi]at e1;cases e1;cases (show v=aA.bool bs[i]from e2);have hQ2:Q' ((bs[i]?).getD true) s':=hQ;rw[ah oJ]at hQ2;exact gy hQ2
 .refine(l0 (.bl _) H ⟨I.kept λb o e=>hk b o (λhm=>?_)<|ak _ e,rfl,?_⟩)
  .rw[ar.mp hm]at e;exact kb _<|bi e
  .rw[bj,aZ,ams];exact q
end
theorem am4:∀{ys:Z V} {us:Z aA},ys.length=us.length->(∀(i:Nat)(y:V)(u:aA),ys[i]?=some y->us[i]?=some u->RelV y u)->Vals ys us
 | [],[],_,_=>.nil
 | [],_::_,h,_=>by cases h
 | _::_,[],h,_=>by cases h
 | y::ys,u::us,h,r=>.cons (r 0 y u rfl rfl)<|am4 (by simpa using h) λi y' u' e e'=>r (i+1) y' u' (by simpa using e)<|by simpa using e'
def Tx(z:Str):Prop:=z.length<=80/\∀c∈z.cps.toList,c<128
def Tx.ok{z:Str}(h:Tx z):jk z=true:=by unfold jk;rw[Array.all_eq_true'];intro c hc;have:=h.2 c (by simpa using hc);simp only[decide_eq_true_eq];lia
noncomputable def sgB(c:Nat):Bool:=(c==35||c==46||c==44)||(decide (65<=c)&&decide (c<=90))||(decide (97<=c)&&decide (c<=122))
section
variable{prog:aK}{w:aO}{A:Around}{E:aA->aB->Prop}{s:aB}
def atm{I a:aF}{k:Nat}{ys:Array aA}{v:aA}{R:aA->aB->Prop}(st:s.heap.IsTupleIter I a k)(tp:s.heap.IsTuple a ys)(hv:ys[k]?=some v)
  (q:∀g,g.IsTupleIter I a (k+1)->b8 I s.heap g->R v {s with heap:=g}):aG (aH prog w) A (de<|.ref I) R E s:=by
 obtain⟨u,hu,uc,ud⟩:=id st;obtain⟨z,hz,_,nz,zd⟩:=tp;unfold de;refine ab<|cr (name:=bw "__next__") st.typeIs F.slot_tuple_iterator_next<|dz F.slot_tuple_iterator_next st.typeIs F.entry_tuple_iterator_next ?_<|F.args_tuple_iterator_next_1 _;refine(ab (io hu ud (x:=.ref a) rfl ?_):aG _ _ (jL (.ref I) 0 >>= _) _ _ s);refine(?_:aG _ _ (if (aA.ref a==aA.none)=true then _ else _) _ _ s);rw[if_neg (show ¬(aA.ref a==aA.none)=true from am)];refine(ab (io hu ud (x:=.int k 0) rfl ?_):aG _ _ (jL (.ref I) 1 >>= _) _ _ s);refine(ab (jc hz zd ?_):aG _ _ (fP (.ref a) >>= _) _ _ s);simp only[cj,hv];refine ab<|ix hu ud (by simp)<|aj ⟨v,rfl,aj<|q _ ⟨_,cp _ hu<|Obj.isFreed_of_fields<|kx ud _,?_,?_⟩<|cu ..⟩
 .exact(Obj.cls_mapFields ..).trans uc
 .rw[kx ud];simp[dF]
def atv{I:aF}{z:Str}{t:uC}{k c:Nat}{R:aA->aB->Prop}(st:s.heap.IsStrIter I "str_ascii_iterator" z t k)(hv:z.cps[k]?=some c)
  (q:∀g,g.IsStrIter I "str_ascii_iterator" z t (k+1)->b8 I s.heap g->R (.str ⟨#[c]⟩ s.toks) {s with heap:=g,toks:=s.toks+1}):aG (aH prog w) A (de<|.ref I) R E s:=by
 obtain⟨u,hu,uc,ud⟩:=id st;unfold de;refine ab<|cr (name:=bw "__next__") st.typeIs j8<|dz j8 st.typeIs F.entry_str_ascii_iterator_next ?_<|F.args_str_ascii_iterator_next_1 _;refine(ab (io hu ud (x:=.str z t) rfl ?_):aG _ _ (jL (.ref I) 0 >>= _) _ _ s);refine(ab (io hu ud (x:=.int k 0) rfl ?_):aG _ _ (jL (.ref I) 1 >>= _) _ _ s);simp only[cj,hv];refine ab<|ix hu ud (by simp)<|ab<|wpAny_mkStr (aj ⟨_,rfl,aj<|q _ ⟨_,cp _ hu<|Obj.isFreed_of_fields<|kx ud _,?_,?_⟩<|cu ..⟩) sZ1
 .exact(Obj.cls_mapFields ..).trans uc
 .rw[kx ud];simp[dF]
def aay{X:aF}{h1:Heap}{k:aA->nP Fin}(hh:A.handled=none)(keep:ke X s.heap h1)
  (q:∀g e,ke X s.heap g->(∃o,g.get? e=some o/\o.cls=.type "StopIteration")->E (.ref e) {s with heap:=g}) {R:Fin->aB->Prop}
  (ek:∀v,k v=(nZ v:nP Fin)):aG (aH prog w) A (lJ (.type "StopIteration") [] >>= k) R E {s with heap:=h1}:=by
 refine ab ?_;simp only[lJ,kJ];refine ab (cz ?_<|by size_fits);refine ab (m:=dH _ _) (eW (a:=aA.none) (by first|rfl|(simp only[dH];rfl))<|cz ?_<|by size_fits);rw[ek];simp only[nZ];refine ab<|jF ?_;rw[hh];exact ab<|aj<|lU<|q _ _ ((keep.push _).push _) ⟨_,bh _ rfl,rfl⟩
def ait{I a:aF}{k:Nat}{ys:Array aA}{R:aA->aB->Prop}(hh:A.handled=none)(st:s.heap.IsTupleIter I a k)(tp:s.heap.IsTuple a ys)(hv:ys[k]?=none)
  (q:∀g e,ke I s.heap g->(∃o,g.get? e=some o/\o.cls=.type "StopIteration")->E (.ref e) {s with heap:=g}):aG (aH prog w) A (de<|.ref I) R E s:=by
 obtain⟨u,hu,uc,ud⟩:=id st;obtain⟨z,hz,_,nz,zd⟩:=tp;unfold de;refine ab<|cr (name:=bw "__next__") st.typeIs F.slot_tuple_iterator_next<|dz F.slot_tuple_iterator_next st.typeIs F.entry_tuple_iterator_next ?_<|F.args_tuple_iterator_next_1 _;refine(ab (io hu ud (x:=.ref a) rfl ?_):aG _ _ (jL (.ref I) 0 >>= _) _ _ s);refine(?_:aG _ _ (if (aA.ref a==aA.none)=true then _ else _) _ _ s);rw[if_neg (show ¬(aA.ref a==aA.none)=true from am)];refine(ab (io hu ud (x:=.int k 0) rfl ?_):aG _ _ (jL (.ref I) 1 >>= _) _ _ s);refine(ab (jc hz zd ?_):aG _ _ (fP (.ref a) >>= _) _ _ s);simp only[cj,hv];refine ab<|jl<|ab<|ix hu ud (by simp) ?_;exact aay (A:=A.in1) hh (cu ..).extBut q λ_=>rfl
def aja{I:aF}{z:Str}{t:uC}{k:Nat}{R:aA->aB->Prop}(hh:A.handled=none)(st:s.heap.IsStrIter I "str_ascii_iterator" z t k)(hv:z.cps[k]?=none)
  (q:∀g e,ke I s.heap g->(∃o,g.get? e=some o/\o.cls=.type "StopIteration")->E (.ref e) {s with heap:=g}):aG (aH prog w) A (de<|.ref I) R E s:=by
 obtain⟨u,hu,uc,ud⟩:=id st;unfold de;refine ab<|cr (name:=bw "__next__") st.typeIs j8<|dz j8 st.typeIs F.entry_str_ascii_iterator_next ?_<|F.args_str_ascii_iterator_next_1 _;refine(ab (io hu ud (x:=.str z t) rfl ?_):aG _ _ (jL (.ref I) 0 >>= _) _ _ s);refine(ab (io hu ud (x:=.int k 0) rfl ?_):aG _ _ (jL (.ref I) 1 >>= _) _ _ s);simp only[cj,hv];refine ab<|jl<|ab<|ix hu ud (by simp)<|ab<|dW ?_;exact aay (A:=A.in1) hh (cu ..).extBut q λ_=>rfl
def aj4{e I:aF}{i:Nat}{old:aA}{Y:aA->Prop}{N:Heap->Prop}{Q:Option aA->aB->Prop}(he:eE s.heap e I i old)(fI:e≠I)
  (hN:∀g g',N g->(∀o,g.get? I=some o->g'.get? I=some o)->N g')
  (jR:∀(A':Around)(R:aA->aB->Prop)(E':aA->aB->Prop),(∀x g tk,Y x->N g->b8 I s.heap g->R x {s with heap:=g,toks:=tk})->aG (aH prog w) A' (de<|.ref I) R E' s)
  (hQ:∀x g tk Au,Y x->GM g e I ((i:Int)+1) x s.heap.objs.size->N g->g.get? s.heap.objs.size=some {cls:=.type "tuple",data:=.seq #[.int i Au,x]}->(∀b o,b≠e->b≠I->s.heap.get? b=some o->g.get? b=some o)->Q (some<|.ref s.heap.objs.size) {s with heap:=g,toks:=tk}) :
  aG (aH prog w) A (bH<|.ref e) Q E s:=by
 obtain⟨h0,ga,dr,t0,os⟩:=s;have ty:aB.TypeIs ⟨h0,ga,dr,t0,os⟩ (.ref e) "enumerate":=⟨_,he,rfl⟩
 replace he:eE h0 e I i old:=he
 have iI:e<h0.objs.size:=bi he;unfold bH;refine ab<|kc<|cr (name:=bw "__next__") ty F.slot_enumerate_next<|dz F.slot_enumerate_next ty F.entry_enumerate_next ?_<|F.args_enumerate_next_1 _;show aG _ _ (jL (.ref e) 2 >>= _) _ _ ⟨h0,ga,dr,t0,os⟩;refine ab<|io he rfl (x:=.ref I) rfl<|ab<|jR _ _ _ λx g1 tk yx n1 Az=>?_
 replace Az:b8 I h0 g1:=Az
 have e1:eE g1 e I i old:=(Az.2 e fI).trans he;have z1:g1.objs.size=h0.objs.size:=Az.1;have k1:∀b o,b≠e->b≠I->h0.get? b=some o->g1.get? b=some o:=λb o _ hb h=>(Az.2 b hb).trans h;clear Az;show aG _ _ (jL (.ref e) 3 >>= _) _ _ ⟨g1,ga,dr,tk,os⟩;refine ab<|io e1 rfl (x:=dF i) rfl ?_;show aG _ _ (jL (.ref e) 4 >>= _) _ _ ⟨g1,ga,dr,tk,os⟩;refine ab<|io e1 rfl (x:=.none) rfl ?_;show aG _ _ (mkInt i >>= _) _ _ ⟨g1,ga,dr,tk,os⟩;refine ab<|wpAny_mkInt ?_;show aG _ _ (wC (.ref e) 3 (dF<|(i:Int)+1) >>= _) _ _ ⟨g1,ga,dr,tk+1,os⟩;refine ab<|cS e1 (by simp) λg2 e2 Ay=>?_
 replace Ay:b8 e g1 g2:=Ay
 replace e2:eE g2 e I ((i:Int)+1) old:=e2
 have z2:g2.objs.size=h0.objs.size:=Ay.1.trans z1;have n2:N g2:=hN _ _ n1 λo h=>(Ay.2 I<|Ne.symm fI).trans h;have k2:∀b o,b≠e->b≠I->h0.get? b=some o->g2.get? b=some o:=λb o hb hI h=>(Ay.2 b hb).trans (k1 b o hb hI h);clear Ay n1 k1 e1 z1;show aG _ _ (wC (.ref e) 4 .none >>= _) _ _ ⟨g2,ga,dr,tk+1,os⟩;refine ab<|cS e2 (by simp) λg3 e3 wE=>?_
 replace wE:b8 e g2 g3:=wE
 replace e3:eE g3 e I ((i:Int)+1) old:=e3
 have z3:g3.objs.size=h0.objs.size:=wE.1.trans z2;have n3:N g3:=hN _ _ n2 λo h=>(wE.2 I<|Ne.symm fI).trans h;have k3:∀b o,b≠e->b≠I->h0.get? b=some o->g3.get? b=some o:=λb o hb hI h=>(wE.2 b hb).trans (k2 b o hb hI h);clear wE n2 k2 e2 z2;show aG _ _ (kJ [.int i tk,x] >>= _) _ _ ⟨g3,ga,dr,tk+1,os⟩;refine ab<|wpAny_newTuple ?_;have e4:eE (g3.push {cls:=.type "tuple",data:=.seq #[.int i tk,x]}) e I ((i:Int)+1) old:=ak _ e3;have n4:N (g3.push {cls:=.type "tuple",data:=.seq #[.int i tk,x]}):=hN _ _ n3 λo h=>ak _ h;have k4:∀b o,b≠e->b≠I->h0.get? b=some o->(g3.push {cls:=.type "tuple",data:=.seq #[.int i tk,x]}).get? b=some o:=λb o hb hI h=>ak _<|k3 b o hb hI h;have t4:(g3.push {cls:=.type "tuple",data:=.seq #[.int i tk,x]}).get? h0.objs.size=some {cls:=.type "tuple",data:=.seq #[.int i tk,x]}:=by have h:=bh g3 (o:={cls:=.type "tuple",data:=.seq #[.int i tk,x]}) rfl;rw[z3]at h;exact h
 generalize hg4:g3.push {cls:=.type "tuple",data:=.seq #[.int i tk,x]}=g4 at *;show aG _ _ (Builtin.SmallTypes.ownedTupleIsFree (.ref e) >>= _) _ _ ⟨g4,ga,dr,tk+1,os⟩;rw[z3];clear hg4 n3 k3 e3 z3 g3;refine ab ?_;unfold Builtin.SmallTypes.ownedTupleIsFree;refine ab<|io e4 rfl (x:=.none) rfl<|aj ?_;simp only[if_true];refine ab<|jl<|ab<|io e4 rfl (x:=old) rfl<|ab<|cS e4 (by simp) λg5 e5 GW=>?_
 replace GW:b8 e g4 g5:=GW
 replace e5:eE g5 e I ((i:Int)+1) x:=e5
 show aG _ _ (Builtin.SmallTypes.ownedTupleHandOut (.ref e) (.ref h0.objs.size) >>= _) _ _ ⟨g5,ga,dr,tk+1,os⟩;refine ab ?_;unfold Builtin.SmallTypes.ownedTupleHandOut;refine ab<|cS e5 (by simp) λg6 e6 GV=>?_
 replace GV:b8 e g5 g6:=GV
 replace e6:GM g6 e I ((i:Int)+1) x h0.objs.size:=e6
 refine cS e6 (by simp) λg7 e7 GU=>?_
 replace GU:b8 e g6 g7:=GU
 replace e7:GM g7 e I ((i:Int)+1) x h0.objs.size:=e7
 have all:∀b o,b≠e->g4.get? b=some o->g7.get? b=some o:=λb o hb h=>(GU.2 b hb).trans ((GV.2 b hb).trans ((GW.2 b hb).trans h));exact ab<|dW<|aj ⟨_,rfl,aj<|hQ x g7 _ tk yx e7 (hN _ _ n4 λo h=>all I o (Ne.symm fI) h) (all _ _ (Nat.ne_of_gt iI) t4) λb o hb hI h=>all b o hb<|k4 b o hb hI h⟩
def anv{e I:aF}{i:Int}{old:aA}{Q:Option aA->aB->Prop}(he:eE s.heap e I i old)
  (jR:∀(R:aA->aB->Prop)(E':aA->aB->Prop),(∀g x,ke I s.heap g->(∃o,g.get? x=some o/\o.cls=.type "StopIteration")->E' (.ref x) {s with heap:=g})->aG (aH prog w) A.in1 (de<|.ref I) R E' s)
  (hQ:∀g,ke I s.heap g->Q none {s with heap:=g}):aG (aH prog w) A (bH<|.ref e) Q E s:=by
 have ty:s.TypeIs (.ref e) "enumerate":=⟨_,he,rfl⟩;unfold bH;refine ab<|kc<|cr (name:=bw "__next__") ty F.slot_enumerate_next<|dz F.slot_enumerate_next ty F.entry_enumerate_next ?_<|F.args_enumerate_next_1 _;show aG _ _ (jL (.ref e) 2 >>= _) _ _ s;refine ab<|io he rfl (x:=.ref I) rfl<|ab<|jR _ _ λg x kp ⟨o,ho,hc⟩=>?_;exact ab<|kj (T:="StopIteration") (b:=true) ⟨o,ho,hc⟩ iB<|aj<|hQ _ kp
end
def ak8(a:aF)(ys:Array aA)(n:Nat)(JP:Option aF)(sl:Array (Option aA)) :
  Meets (Builtin.«enumerate.__new__» ⟨[.type "enumerate",.ref a],[]⟩) (λ_ R s=>s.heap.get? a=some {cls:=.type "tuple",dict:=JP,data:=.seq ys n,slots:=sl}/\
   R (.ok<|.ret<|.ref (s.heap.push {cls:=.type "tuple_iterator",data:=.fields #[.ref a,.int 0 0]}).objs.size)
    {s with heap:=(s.heap.push {cls:=.type "tuple_iterator",data:=.fields #[.ref a,.int 0 0]}).push {cls:=.type "enumerate",data:=.fields #[.none,.bool false,.ref s.heap.objs.size,dF 0,.none,.none]}}):=
 .of_wp λprog w A R s h=>by
  obtain⟨h0,ga,dr,tk,os⟩:=s;obtain⟨ha,h⟩:=h;have Cu:=sub_enumerate;have hT:Heap.IsTuple (aB.heap ⟨h0,ga,dr,tk,os⟩) a ys:=(ng _ ha rfl n rfl)
  wp_walk using AutoSeq1.wpAny_loadPart' ha
  refine wpAny_stack_any λst=>aj ?_;split
  .rename_i c _ _ _ _ _
   cases (c==aA.type "enumerate")
   .wp_walk using AutoSeq1.wpAny_loadPart' ha,cT hT
    exact⟨_,rfl,h⟩
   .wp_walk using AutoSeq1.wpAny_loadPart' ha,cT hT
    exact⟨_,rfl,h⟩
  .wp_walk using AutoSeq1.wpAny_loadPart' ha,cT hT
   exact⟨_,rfl,h⟩
section
variable{prog:aK}{w:aO}{A:Around}{E:aA->aB->Prop}{s:aB}
def aiq{a:aF}{ys:Array aA}{Q:aA->aB->Prop}(hT:s.heap.IsTuple a ys)
  (h:∀g,eE g (s.heap.objs.size+1) s.heap.objs.size 0 .none->g.IsTupleIter s.heap.objs.size a 0->(∀b o,s.heap.get? b=some o->g.get? b=some o)->Q (.ref<|s.heap.objs.size+1) {s with heap:=g}) :
  aG (aH prog w) A (call (.type "enumerate") [.ref a]) Q E s:=by
 obtain⟨⟨c,JP,dt,sl⟩,ha,hc,n,hd⟩:=hT
 replace hc:c=.type "tuple":=hc
 replace hd:dt=.seq ys n:=hd
 subst hc hd;refine callType_new F.called_enumerate (by decide) (F.typeCall_enumerate_1 _) (F.newCall_enumerate_1 _) (λobj=>F.args_object_init_2 obj _) F.entry_enumerate_new (ak8 a ys n JP sl) ⟨ha,?_⟩;have hz:(s.heap.push {cls:=.type "tuple_iterator",data:=.fields #[.ref a,.int 0 0]}).objs.size=s.heap.objs.size+1:=Heap.size_push ..;refine(?_:_/\_);rw[hz];have he:eE ((s.heap.push {cls:=.type "tuple_iterator",data:=.fields #[.ref a,.int 0 0]}).push {cls:=.type "enumerate",data:=.fields #[.none,.bool false,.ref s.heap.objs.size,dF 0,.none,.none]}) (s.heap.objs.size+1) s.heap.objs.size 0 .none:=by have h:=bh (s.heap.push {cls:=.type "tuple_iterator",data:=.fields #[.ref a,.int 0 0]}) (o:={cls:=.type "enumerate",data:=.fields #[.none,.bool false,.ref s.heap.objs.size,dF 0,.none,.none]}) rfl;rw[hz]at h;exact h
 exact⟨⟨_,he,rfl⟩,h _ he ⟨_,ak _<|bh _ rfl,rfl,rfl⟩ λb o x=>ak _<|ak _ x⟩
end
section
variable{X:Cx}{aE:Z (aF×Obj)}{σ:L2.St}{H:Hp}{s:aB}{h':Heap}
def arw{t':Nat}{e it:aF}(I:Inv X aE σ H s)(k:∀b o,b≠e->b≠it->s.heap.get? b=some o->h'.get? b=some o)(fe:mM X aE H e)(fi:mM X aE H it):Inv X aE σ H {s with heap:=h',toks:=t'}:=by
 obtain⟨e0,e1,e2,e3,e4,e5⟩:=fe;obtain⟨i0,i1,i2,i3,i4,i5⟩:=fi;have nn:∀b u,H b=some u->b≠e/\b≠it:=λb u q=>⟨λz=>(by rw[z,e0]at q;cases q),λz=>(by rw[z,i0]at q;cases q)⟩;have sp:∀b,b∉[e,it]->b≠e/\b≠it:=λb hb=>by simpa using hb
 refine I.step (g':=s.gens) (d':=s.drawn) (ch:=[e,it]) (λb hb=>?_) (λb o _ _ hc q _=>k b o (sp b hc).1 (sp b hc).2 q) (λb o _ _ hc q _=>⟨o.slots,k b o (sp b hc).1 (sp b hc).2 q⟩) (λ_ _ _ _ n=>n)
  (λb o hc q=>⟨o,k b o (sp b hc).1 (sp b hc).2 q⟩) (λ_ _ q=>q) (λ_ _ _ q=>q) (λb ps q=>⟨#[],by rw[q];simp⟩) (λm hm=>?_) (λb u q=>?_) I.bare
 .rcases a7.mp hb with z|z
  .subst z;exact⟨e3,e1,e4,e5⟩
  .rw[ar.mp z];exact⟨i3,i1,i4,i5⟩
 .obtain⟨o,es,ep,ho,r⟩:=hm;exact(m9 o es ep ⟨k _ o (Ne.symm e1) (Ne.symm i1) ho,r⟩)
 .refine(I.hok b u q).stay (λc v hc r=>k c v ?_ ?_ r) (λ_ r=>r) λ_ _ r=>r
  .rcases hc with z|z
   .rw[z];exact(nn b u q).1
   .exact(nn c _ z).1
  .rcases hc with z|z
   .rw[z];exact(nn b u q).2
   .exact(nn c _ z).2
end
def Mk{P:aK}{w:aO}{K:ax}{eI:Z Expr}{x1}{pos:dQ}(J:It)(e I:aF)(fI:e≠I)(M:Nat->Heap->Prop)
  (pE:∀i h,M i h->∃o,h.get? I=some o/\∀v,o.data≠.cell v) (iG:∀i h h',M i h->(∀o,h.get? I=some o->h'.get? I=some o)->M i h')
  (C0:∀(X:Cx),X.prog=P->X.w=w->X.K=K->∀(i:Nat) aE (s:aB) σ H,Inv X aE σ H s->M i s.heap->J.go i H->∃Y:aA->Prop,
   (∀u,Y u->∃x,RelV x u/\J.yld i H (.ref s.heap.objs.size) (upd H s.heap.objs.size<|.tup [.int i,x]))/\
   ∀(A':Around)(R:aA->aB->Prop)(E':aA->aB->Prop),(∀u g tk,Y u->M (i+1) g->b8 I s.heap g->R u {s with heap:=g,toks:=tk})->aG (aH P w) A' (de<|.ref I) R E' s)
  (C7:∀(X:Cx),X.prog=P->X.w=w->X.K=K->∀(i:Nat) aE (s:aB) σ H,Inv X aE σ H s->M i s.heap->J.stop i H->
   ∀(A':Around)(R:aA->aB->Prop)(E':aA->aB->Prop),A'.handled=none->(∀g u,ke I s.heap g->(∃o,g.get? u=some o/\o.cls=.type "StopIteration")->E' (.ref u) {s with heap:=g})->aG (aH P w) A' (de<|.ref I) R E' s) :
  tY P w K (.Tuple eI x1 pos) J [e,I] e (λi h=>(∃old,eE h e I i old)/\M i h)where
 mem:=by simp
 obj:=λi h st b hb=>by
  obtain⟨⟨old,he⟩,m⟩:=st;rcases a7.mp hb with z|z
  .subst z;exact⟨_,he,λv z=>by cases z⟩
  .rw[ar.mp z];exact pE i h m
 keep:=λi h h' st k=>by obtain⟨⟨old,he⟩,m⟩:=st;exact⟨⟨old,k e (by simp) _ he⟩,iG i h h' m λo q=>k I (by simp) o q⟩
 item:=by
  intro X hP hw hK hc i aE s σ H E Iv hf st hg;obtain⟨⟨old,he⟩,m⟩:=st;obtain⟨Y,hY,jR⟩:=C0 X hP hw hK i aE s σ H Iv m hg;subst hP hw hK;have fe:=hf e (by simp);have fi:=hf I (by simp);have iI:e<s.heap.objs.size:=bi he;obtain⟨oi,hoi,_⟩:=pE i _ m;have zA:I<s.heap.objs.size:=bi hoi;refine aj4 he fI (N:=M<|i+1) (λg g' n k=>iG _ _ _ n k) jR λu g tk Au yu eo n t4 k=>⟨_,rfl,?_⟩;refine wpAny_letOwnedTupleGo_enum (s:={s with heap:=g,toks:=tk}) eo λg' e' sb=>?_;obtain⟨v,rv,yl⟩:=hY u yu;have I1:Inv X aE σ (upd H s.heap.objs.size<|.tup [.int i,v]) {s with heap:=s.heap.push {cls:=.type "tuple",data:=.seq #[.int i Au,u]},toks:=tk}:=
   Iv.laid (t':=tk) (λb o q=>ak _ q) (ao _) ⟨by show 2<=aC;decide,[.int i Au,u],.cons ⟨Au,rfl⟩<|.cons rv .nil,(ng _ (bh _ rfl) rfl _ rfl)⟩
  have up:∀b,b<s.heap.objs.size->mM X aE H b->mM X aE (upd H s.heap.objs.size<|.tup [.int i,v]) b:=λb hb q=>⟨by rw[nu (da hb)];exact q.1,q.2⟩;have I2:Inv X aE σ (upd H s.heap.objs.size<|.tup [.int i,v]) {s with heap:=g,toks:=tk}:=arw (s:={s with heap:=s.heap.push {cls:=.type "tuple",data:=.seq #[.int i Au,u]},toks:=tk}) (t':=tk) I1 (λb o h1 h2 q=>by
   rcases Heap.get?_push_cases q with ⟨z1,z2⟩|z
   .rw[z1,z2];exact t4
   .exact k b o h1 h2 z) (up e iI fe)<|up I zA fi
  have A9:=up e iI fe;have I3:Inv X aE σ (upd H s.heap.objs.size<|.tup [.int i,v]) {s with heap:=g',toks:=tk}:=Inv.turned (s:={s with heap:=g,toks:=tk}) (t':=tk) I2 (λb o hb q=>(sb.2 b hb).trans q) A9.1 A9.2.1 A9.2.2.2.1 A9.2.2.2.2.1 A9.2.2.2.2.2;refine(l0 (.ref s.heap.objs.size) _ ⟨I3,rfl,yl,⟨⟨u,e'⟩,iG _ _ _ n λo q=>(sb.2 I<|Ne.symm fI).trans q⟩,λb hb=>?_⟩);rcases a7.mp hb with z|z
  .subst z;exact A9.1
  .rw[ar.mp z];exact(up I zA fi).1
 done:=by intro X hP hw hK hc i aE s σ H E Iv hf st hg;obtain⟨⟨old,he⟩,m⟩:=st;have hd:=C7 X hP hw hK i aE s σ H Iv m hg;subst hP hw hK;have fi:=hf I (by simp);exact anv he (λR E' q=>hd _ R E' (Iv.ok.hd hc) q) λg kp=>⟨rfl,Iv.turned (t':=s.toks) (λb o hb q=>kp b o hb q) fi.1 fi.2.1 fi.2.2.2.1 fi.2.2.2.2.1 fi.2.2.2.2.2⟩
 self:=λ_ _ _ _ _ st h=>by obtain⟨⟨old,he⟩,_⟩:=st;exact eV he h
noncomputable def Jet(K:ax)(a:aF):It:=
 ⟨λi H=>∃xs x,SqT K H a xs/\xs[i]?=some x,λi H v H'=>∃p x,H p=none/\v=.ref p/\H'=upd H p (.tup [.int i,x])/\∀xs,SqT K H a xs->xs[i]?=some x,λi H=>∃xs,SqT K H a xs/\xs.length<=i⟩
noncomputable def Jes(z:Str):It:=
 ⟨λi _=>i<z.cps.toList.length,λi H v H'=>∃p c,H p=none/\v=.ref p/\H'=upd H p (.tup [.int i,.str ⟨#[c]⟩])/\z.cps.toList[i]?=some c,λi _=>z.cps.toList.length<=i⟩
def ai4{P:aK}{w:aO}{K:ax}{eI:Z Expr}{x1}{pos:dQ}(a e I:aF)(fI:e≠I) :
  tY P w K (.Tuple eI x1 pos) (Jet K a) [e,I] e (λi h=>(∃old,eE h e I i old)/\h.IsTupleIter I a i):=by
 refine Mk (Jet K a) e I fI (λi h=>h.IsTupleIter I a i) (λi h st=>?_) (λi h h' st k=>st.at k) (λX hP hw hK i aE s σ H Iv st hg=>?_) λX hP hw hK i aE s σ H Iv st hg A' R E' hh q=>?_
 .obtain⟨o,ho,c,d⟩:=st;exact⟨o,ho,λv z=>by rw[d]at z;cases z⟩
 .subst hP hw hK;obtain⟨xs,x,hq,hx⟩:=hg;obtain⟨its,rv,p,hz⟩:=Iv.tuple hq;obtain⟨u,hu,ru⟩:=rv.get hx;refine⟨λu'=>u'=u,λu' E2=>?_,λA' R E' q=>?_⟩
  .subst E2;exact(nj x ru s.heap.objs.size x ⟨Iv.hok.fresh<|ao _,rfl,rfl,λys hy=>by rw[Iv.tuple_inj hy hq];exact hx⟩)
  .exact atm st (show s.heap.IsTuple a its.toArray from p) (v:=u) (by simpa using hu) λg aQ sb=>q u g s.toks rfl aQ sb
 .subst hP hw hK;obtain⟨xs,hq,hx⟩:=hg;obtain⟨its,rv,p,hz⟩:=Iv.tuple hq;have hl:=rv.length;exact ait hh st (show s.heap.IsTuple a its.toArray from p) (by simp;lia) q
def ai2{P:aK}{w:aO}{K:ax}{eI:Z Expr}{x1}{pos:dQ}(z:Str)(t:uC)(e I:aF)(fI:e≠I) :
  tY P w K (.Tuple eI x1 pos) (Jes z) [e,I] e (λi h=>(∃old,eE h e I i old)/\h.IsStrIter I "str_ascii_iterator" z t i):=by
 refine Mk (Jes z) e I fI (λi h=>h.IsStrIter I "str_ascii_iterator" z t i) (λi h st=>?_) (λi h h' st k=>?_) (λX hP hw hK i aE s σ H Iv st hg=>?_) λX hP hw hK i aE s σ H Iv st hg A' R E' hh q=>?_
 .obtain⟨o,ho,c,d⟩:=st;exact⟨o,ho,λv z=>by rw[d]at z;cases z⟩
 .obtain⟨o,ho,r⟩:=st;exact⟨o,k o ho,r⟩
 .subst hP hw hK;have hi:i<z.cps.size:=by simpa [Jes]using hg
  refine⟨λu=>∃tk,u=.str ⟨#[z.cps[i]]⟩ tk,λu hu=>?_,λA' R E' q=>?_⟩
  .obtain⟨tk,rfl⟩:=hu;exact(nj (.str ⟨#[z.cps[i]]⟩) ⟨tk,rfl⟩ s.heap.objs.size (z.cps[i]) ⟨Iv.hok.fresh<|ao _,rfl,rfl,by simp[hi]⟩)
  .exact atv st (c:=z.cps[i]) (by simp[hi]) λg aQ sb=>q _ g _ ⟨_,rfl⟩ aQ sb
 .subst hP hw hK;have hi:z.cps.size<=i:=by simpa [Jes]using hg
  exact aja hh st (by simp;lia) q
section
variable{X:Cx}{eI:Z Expr}{x1:Nat}{jG p pos:dQ}{a:Expr}{ta:TA}
def ayv(K:ax)(ta:TA):TI:=λσ H R=>ta σ H λvs H1=>∃a,vs=[.ref a]/\(∃xs,SqT K H1 a xs)/\R (Jet K a) H1
def ay5(ta:TA):TI:=λσ H R=>ta σ H λvs H1=>∃z:Str,vs=[.str z]/\(∀c∈z.cps.toList,c<128)/\R (Jes z) H1
def av8(hg:Gl X "enumerate")(hm:X.mg "enumerate" = none)(ha:PA X [a] ta)(hs:nw a=true:=by rfl):PI X (.Tuple eI x1 jG) (.Call (.Name "enumerate" p) [a] [] pos) (ayv X.K ta):=by
 intro aE s σ H R I h;refine Call_<|uz I hg hm oS<|ft (thn (ha pos aE s σ H _ I h) λus s1 ⟨vs,H1,I1,r1,q1⟩=>?_) (ou hs) rfl;obtain⟨b,e,⟨xs,hq⟩,q⟩:=q1;subst e;obtain⟨u,rfl,ru⟩:=va r1;cases (show u=aA.ref b from ru);obtain⟨its,rv,pl,hz⟩:=I1.tuple hq;refine aiq (show s1.heap.IsTuple b its.toArray from pl) λg he hi kp=>eV (s:={s1 with heap:=g}) he ?_;refine(lv (s1.heap.objs.size+1) ([s1.heap.objs.size+1,s1.heap.objs.size]) _ _ H1 ⟨rfl,I1.kept (t':=s1.toks) kp,ai4 b (s1.heap.objs.size+1) s1.heap.objs.size<|Nat.succ_ne_self _,⟨⟨_,he⟩,hi⟩,λc hc=>?_,q⟩);rcases a7.mp hc with z|z
 .subst z;exact I1.fpOk (by lia)<|I1.hok.fresh<|by lia
 .rw[ar.mp z];exact I1.fpOk (ao _)<|I1.hok.fresh<|ao _
def at2(hg:Gl X "enumerate")(hm:X.mg "enumerate" = none)(ha:PA X [a] ta)(hs:nw a=true:=by rfl):PI X (.Tuple eI x1 jG) (.Call (.Name "enumerate" p) [a] [] pos) (ay5 ta):=by
 intro aE s σ H R I h;refine Call_<|uz I hg hm oS<|ft (thn (ha pos aE s σ H _ I h) λus s1 ⟨vs,H1,I1,r1,q1⟩=>?_) (ou hs) rfl;obtain⟨z,e,hz,q⟩:=q1;subst e;obtain⟨u,rfl,t,rfl⟩:=va r1;have asc:strIterType z="str_ascii_iterator":=by unfold strIterType;rw[if_pos];rw[Array.all_eq_true'];intro c hc;simpa using hz c (by simpa using hc)
 refine call_enumerate_str λg he hi _ kp=>eV (s:={s1 with heap:=g}) he ?_;rw[asc]at hi;refine(lv (s1.heap.objs.size+1) ([s1.heap.objs.size+1,s1.heap.objs.size]) _ _ H1 ⟨rfl,I1.kept (t':=s1.toks) kp,ai2 z t (s1.heap.objs.size+1) s1.heap.objs.size<|Nat.succ_ne_self _,⟨⟨_,he⟩,hi⟩,λc hc=>?_,q⟩);rcases a7.mp hc with z|z
 .subst z;exact I1.fpOk (by lia)<|I1.hok.fresh<|by lia
 .rw[ar.mp z];exact I1.fpOk (ao _)<|I1.hok.fresh<|ao _
end
def LD(J:It)(n:Nat){g:TG}{tb:TS}{D:lS}{σ:L2.St}{H:Hp}(Pv:Nat->L2.St->Hp->Prop)(h0:Pv 0 σ H)(AV:∀i σ H,i<n->Pv i σ H->J.go i H)(gQ:∀σ H,Pv n σ H->J.stop n H)
  (hs:∀i v σ H H',i<n->Pv i σ H->J.yld i H v H'->g v σ H' λσ2 H2=>tb {D with nx:=Pv<|i+1,ct:=Pv<|i+1,bk:=D.nx} σ2 H2) (hd:∀σ H,Pv n σ H->D.nx σ H) :
  ∃W:Nat->Nat->L2.St->Hp->Prop,(∃m,W 0 m σ H)/\∀i m σ H,W i m σ H->
   (J.stop i H/\D.nx σ H)\/(J.go i H/\∃N:L2.St->Hp->Prop,(∀σ' H',N σ' H'->∃m',m'<m/\W (i+1) m' σ' H')/\∀v H',J.yld i H v H'->g v σ H' λσ2 H2=>tb {D with nx:=N,ct:=N,bk:=D.nx} σ2 H2):=by
 refine⟨λi m σ H=>m=n-i/\i<=n/\Pv i σ H,⟨n,by simp,f8 _,h0⟩,?_⟩;rintro i m σ H ⟨rfl,hi,p⟩;by_cases bS:i<n
 .exact .inr ⟨AV i σ H bS p,Pv<|i+1,λσ' H' p'=>⟨n-(i+1),by lia,rfl,bS,p'⟩,λv H' y=>hs i v σ H H' bS p y⟩
 .have e:i=n:=by lia
  subst e;exact .inl ⟨gQ σ H p,hd σ H p⟩
def Gh{K:ax}{a:aF}{xs:Z V}{g:TG}{tb:TS}{D:lS}{σ:L2.St}{H:Hp}(Pv:Nat->L2.St->Hp->Prop)(h0:Pv 0 σ H)(hl:∀i σ H,Pv i σ H->SqT K H a xs)
  (hs:∀i x p σ H,xs[i]?=some x->H p=none->Pv i σ H->g (.ref p) σ (upd H p<|.tup [.int (i:Nat),x]) λσ2 H2=>tb {D with nx:=Pv<|i+1,ct:=Pv<|i+1,bk:=D.nx} σ2 H2) (hd:∀σ H,Pv xs.length σ H->D.nx σ H) :
  ∃W:Nat->Nat->L2.St->Hp->Prop,(∃m,W 0 m σ H)/\∀i m σ H,W i m σ H->
   ((Jet K a).stop i H/\D.nx σ H)\/((Jet K a).go i H/\∃N:L2.St->Hp->Prop,(∀σ' H',N σ' H'->∃m',m'<m/\W (i+1) m' σ' H')/\∀v H',(Jet K a).yld i H v H'->g v σ H' λσ2 H2=>tb {D with nx:=N,ct:=N,bk:=D.nx} σ2 H2):=by
 refine LD (Jet K a) xs.length Pv h0 (λi σ H hi p=>(l0 xs (xs[i]) ⟨hl i σ H p,by simp[hi]⟩)) (λσ H p=>⟨xs,hl _ σ H p,ao _⟩) (λi v σ H H' hi p y=>?_) hd;obtain⟨b,x,hb,rfl,rfl,hx⟩:=y;exact hs i x b σ H (hx xs<|hl i σ H p) hb p
def arn{z:Str}{g:TG}{tb:TS}{D:lS}{σ:L2.St}{H:Hp}(Pv:Nat->L2.St->Hp->Prop)(h0:Pv 0 σ H)
  (hs:∀i c p σ H,z.cps.toList[i]?=some c->H p=none->Pv i σ H->g (.ref p) σ (upd H p<|.tup [.int (i:Nat),.str ⟨#[c]⟩]) λσ2 H2=>tb {D with nx:=Pv<|i+1,ct:=Pv<|i+1,bk:=D.nx} σ2 H2) (hd:∀σ H,Pv z.cps.toList.length σ H->D.nx σ H) :
  ∃W:Nat->Nat->L2.St->Hp->Prop,(∃m,W 0 m σ H)/\∀i m σ H,W i m σ H->
   ((Jes z).stop i H/\D.nx σ H)\/((Jes z).go i H/\∃N:L2.St->Hp->Prop,(∀σ' H',N σ' H'->∃m',m'<m/\W (i+1) m' σ' H')/\∀v H',(Jes z).yld i H v H'->g v σ H' λσ2 H2=>tb {D with nx:=N,ct:=N,bk:=D.nx} σ2 H2):=by
 refine LD (Jes z) z.cps.toList.length Pv h0 (λi σ H hi p=>hi) (λσ H p=>ao _) (λi v σ H H' hi p y=>?_) hd;obtain⟨b,c,hb,rfl,rfl,hc⟩:=y;exact hs i c b σ H hc hb p
noncomputable def big(c:Nat):Bool:=decide (65<=c)&&decide (c<=90)
def an5:∀c,c<128->Txt.isupper ⟨#[c]⟩=big c:=by decide +kernel
def atk{c:Nat}(h:c<128):Txt.upper ⟨#[c]⟩=⟨#[up1 c]⟩:=by
 rw[upper_ascii (λd hd=>by have e:d=c:=by simpa using hd
                           lia)]
 simp
section
variable{X:Cx}
def ai6:MtR X "str.isupper" (λx vs H Q=>∃c:Nat,x=.str ⟨#[c]⟩/\vs=[]/\c<128/\Q (.bl<|big c) H):=by intro aE s σ H x vs v us Q I rx rv h;obtain⟨c,rfl,rfl,hc,q⟩:=h;obtain⟨t,rfl⟩:=rx;have Co:=rv.zero;subst Co;refine SC.isupper<|l0 (.bl _) H ⟨I,rfl,?_⟩;rw[an5 c hc];exact q
def ano:MtR X "str.upper" (λx vs H Q=>∃c:Nat,x=.str ⟨#[c]⟩/\vs=[]/\c<128/\Q (.str ⟨#[up1 c]⟩) H):=by intro aE s σ H x vs v us Q I rx rv h;obtain⟨c,rfl,rfl,hc,q⟩:=h;obtain⟨t,rfl⟩:=rx;have Co:=rv.zero;subst Co;refine SC.upper (fit_upper<|by show 1<=5592405;lia)<|l0 (.str _) H ⟨I.tok _,⟨_,rfl⟩,?_⟩;rw[atk hc];exact q
end
end L3
namespace L2
open PySem PySem.Spec PyProof.Rows
section
variable{κ:Type}[DecidableEq κ]
noncomputable def rs(kvs:Z (κ×V))(k:κ):Option V:=(kvs.find? λkv=>decide<|kv.1=k).map (·.2)
noncomputable def jE(kvs:Z (κ×V))(k:κ)(v:V):Z (κ×V):=
 if (kvs.any λkv=>decide<|kv.1=k)=true then kvs.map (λkv=>if kv.1=k then(kv.1,v)else kv)else kvs++[(k,v)]
def rm{p:κ×V}{r:Z (κ×V)}{k:κ}(e:p.1=k):rs (p::r) k=some p.2:=by simp[rs,List.find?_cons,e]
def rj{p:κ×V}{r:Z (κ×V)}{k:κ}(e:¬p.1=k):rs (p::r) k=rs r k:=by simp[rs,List.find?_cons,e]
theorem GI(k:κ):∀kvs:Z (κ×V),(kvs.any λkv=>decide<|kv.1=k)=(rs kvs k).isSome
 | []=>rfl
 | p::r=>by
  rw[List.any_cons];by_cases e:p.1=k
  .simp only[rm e,decide_eq_true e,Bool.true_or,Option.isSome_some]
  .rw[rj e,decide_eq_false e,Bool.false_or];exact GI k r
theorem ah4(k j:κ)(y:V):∀kvs:Z (κ×V),rs (kvs.map λkv=>if kv.1=k then(kv.1,y)else kv) j=(rs kvs j).map λx=>if j=k then y else x
 | []=>rfl
 | p::r=>by
  have ih:=ah4 k j y r;rw[eu];by_cases h:p.1=k
  .rw[if_pos h];by_cases e:p.1=j
   .rw[rm (p:=(p.1,y)) e,rm e,Option.map_some,if_pos<|e.symm.trans h]
   .rw[rj (p:=(p.1,y)) e,rj e,ih]
  .rw[if_neg h];by_cases e:p.1=j
   .rw[rm (p:=p) e,rm e,Option.map_some,if_neg λz=>h<|e.trans z]
   .rw[rj (p:=p) e,rj e,ih]
theorem ae9(k j:κ)(y:V):∀kvs:Z (κ×V),rs kvs k=none->rs (kvs++[(k,y)]) j=if j=k then some y else rs kvs j
 | [],_=>by
  by_cases e:k=j
  .rw[if_pos e.symm];exact rm (p:=(k,y)) e
  .rw[if_neg (λz=>e z.symm)];exact rj (p:=(k,y)) e
 | p::r,hn=>by
  rw[List.cons_append];have hk:¬p.1=k:=λz=>by rw[rm z]at hn;cases hn
  rw[rj hk]at hn;have ih:=ae9 k j y r hn;by_cases e:p.1=j
  .rw[rm e,rm e,if_neg λz=>hk<|e.trans z]
  .rw[rj e,rj e,ih]
theorem wn(kvs:Z (κ×V))(k j:κ)(y:V):rs (jE kvs k y) j=if j=k then some y else rs kvs j:=by
 unfold jE;by_cases a:(kvs.any λkv=>decide<|kv.1=k)=true
 .rw[if_pos a,ah4];rw[GI]at a;by_cases e:j=k
  .obtain⟨x,hx⟩:=Option.isSome_iff_exists.mp a;rw[if_pos e,e,hx,Option.map_some,if_pos rfl]
  .rw[if_neg e];cases rs kvs j with
   | none=>rfl
   | some x=>rw[Option.map_some,if_neg e]
 .rw[if_neg a];refine ae9 k j y kvs ?_;rw[GI]at a;cases q:rs kvs k with
  | none=>rfl
  | some x=>rw[q]at a;exact(a rfl).elim
def sd(kvs:Z (κ×V))(k:κ)(v:V):(jE kvs k v).length<=kvs.length+1:=by
 unfold jE;split
 .rw[ae];lia
 .rw[au,bp,je];lia
theorem RelO.isSome_eq{o:Option V}{u:Option aA}(r:RelO o u):o.isSome=u.isSome:=by
 cases o with
 | none=>cases u with
  | none=>rfl
  | some _=>exact(show False from r).elim
 | some _=>cases u with
  | none=>exact(show False from r).elim
  | some _=>rfl
theorem RelO.getD{o:Option V}{u:Option aA}{d:V}{d':aA}(r:RelO o u)(rd:RelV d d'):RelV (o.getD d) (u.getD d'):=by
 cases o with
 | none=>cases u with
  | none=>exact rd
  | some _=>exact(show False from r).elim
 | some _=>cases u with
  | none=>exact(show False from r).elim
  | some _=>exact r
theorem KV.val{kvs:Z (κ×V)}{vs:Z (κ×aA)}(r:KV kvs vs)(k:κ):RelO (rs kvs k) (fV vs k):=by
 unfold KV at r;induction r with
 | nil=>exact True.intro
 | @cons p q ps qs h t ih=>
  obtain⟨h1,h2⟩:=h;by_cases e:p.1=k
  .have e':q.1=k:=h1.symm.trans e;have b:fV (q::qs) k=some q.2:=by simp[fV,List.find?_cons,e']
   rw[rm e,b];exact h2
  .have e':¬q.1=k:=λz=>e<|h1.trans z;have b:fV (q::qs) k=fV qs k:=by simp[fV,List.find?_cons,e']
   rw[rj e,b];exact ih
theorem KV.any{kvs:Z (κ×V)}{vs:Z (κ×aA)}(r:KV kvs vs)(k:κ):(kvs.any λkv=>decide<|kv.1=k)=vs.any λkv=>decide (kv.1=k):=by
 unfold KV at r;induction r with
 | nil=>rfl
 | cons h t ih=>rw[List.any_cons,List.any_cons,ih,h.1]
theorem KV.repl{kvs:Z (κ×V)}{vs:Z (κ×aA)}(r:KV kvs vs)(k:κ){y:V}{u:aA}(ry:RelV y u) :
  KV (kvs.map λkv=>if kv.1=k then(kv.1,y)else kv) (vs.map λkv=>if kv.1=k then(kv.1,u)else kv):=by
 unfold KV at r⊢;induction r with
 | nil=>exact .nil
 | @cons p q ps qs h t ih=>
  rw[eu,eu];refine .cons ?_ ih;obtain⟨h1,h2⟩:=h;by_cases e:p.1=k
  .rw[if_pos e,if_pos<|h1.symm.trans e];exact⟨h1,ry⟩
  .rw[if_neg e,if_neg λz=>e<|h1.trans z];exact⟨h1,h2⟩
def KV.put{kvs:Z (κ×V)}{vs:Z (κ×aA)}(r:KV kvs vs)(k:κ){y:V}{u:aA}(ry:RelV y u):KV (jE kvs k y) (Av vs k u):=by
 unfold jE Av;rw[r.any k];by_cases e:(vs.any λkv=>decide<|kv.1=k)=true
 .rw[if_pos e,if_pos e];exact r.repl k ry
 .rw[if_neg e,if_neg e];exact dI.snoc r ⟨rfl,ry⟩
theorem KV.length{kvs:Z (κ×V)}{vs:Z (κ×aA)}(r:KV kvs vs):kvs.length=vs.length:=dI.length r
end
theorem Bq{P:aK}{w:aO}{k:Key}{u:aA}(r:RelV (kV k) u):(p8 P w).is k u=true:=by
 cases k with
 | inl i=>obtain⟨t,e⟩:=(show ∃t,u=aA.int i t from r);subst e;exact af1 P w i t
 | inr x=>obtain⟨t,e⟩:=(show ∃t,u=aA.str x t from r);subst e;exact aa5 P w x t
theorem aen{P:aK}{w:aO}:∀{ks:Z Key} {us:Z aA},Vals (ks.map kV) us->ItemsAre (p8 P w) ks us
 | [],_,r=>by rw[List.map_nil]at r;cases r;exact .nil
 | k::ks,_,r=>by
  rw[eu]at r;cases r with
  | cons h t=>exact .cons (Bq h)<|aen t
noncomputable abbrev KT(H:Hp):Z (Z Key×V)->Z (Z Key×aF×aA)->Prop:=dI λp q=>p.1=q.1/\H q.2.1=some (.tup<|p.1.map kV)/\RelV p.2 q.2.2
theorem KT.val{H:Hp}{kvs:Z (Z Key×V)}{xs:Z (Z Key×aF×aA)}(r:KT H kvs xs)(k:Z Key):RelO (rs kvs k) ((iN xs k).map (·.2)):=by
 induction r with
 | nil=>exact True.intro
 | @cons p q ps qs h t ih=>
  obtain⟨h1,_,h2⟩:=h;by_cases e:p.1=k
  .have e':q.1=k:=h1.symm.trans e;have b:iN (q::qs) k=some q.2:=by simp[iN,List.find?_cons,e']
   rw[rm e,b];exact h2
  .have e':¬q.1=k:=λz=>e<|h1.trans z;have b:iN (q::qs) k=iN qs k:=by simp[iN,List.find?_cons,e']
   rw[rj e,b];exact ih
theorem KT.repl{H:Hp}{kvs:Z (Z Key×V)}{xs:Z (Z Key×aF×aA)}(r:KT H kvs xs)(k:Z Key){y:V}{u:aA}(ry:RelV y u) :
  KT H (kvs.map λkv=>if kv.1=k then(kv.1,y)else kv) (xs.map<|putAt k u):=by
 induction r with
 | nil=>exact .nil
 | @cons p q ps qs h t ih=>
  rw[eu,eu];refine .cons ?_ ih;obtain⟨h1,h2,h3⟩:=h;unfold putAt;by_cases e:p.1=k
  .rw[if_pos e,if_pos<|h1.symm.trans e];exact⟨h1,h2,ry⟩
  .rw[if_neg e,if_neg λz=>e<|h1.trans z];exact⟨h1,h2,h3⟩
def KT.put{H:Hp}{kvs:Z (Z Key×V)}{xs:Z (Z Key×aF×aA)}(r:KT H kvs xs)(k:Z Key){b:aF}{y:V}{u:aA}(hb:H b=some (.tup<|k.map kV))(ry:RelV y u) :
  KT H (jE kvs k y) (BQ xs k b u):=by
 have e:(kvs.any λkv=>decide<|kv.1=k)=(iN xs k).isSome:=by rw[GI,(r.val k).isSome_eq,Option.isSome_map]
 unfold jE BQ;rw[e];by_cases q:(iN xs k).isSome=true
 .rw[if_pos q,if_pos q];exact r.repl k ry
 .rw[if_neg q,if_neg q];exact dI.snoc r ⟨rfl,hb,ry⟩
def KT.keeps{H H':Hp}{kvs:Z (Z Key×V)}{xs:Z (Z Key×aF×aA)}(r:KT H kvs xs)(ht:∀b ys,H b=some (.tup ys)->H' b=some (.tup ys)):KT H' kvs xs:=
 dI.mapP r λ_ _ z=>⟨z.1,ht _ _ z.2.1,z.2.2⟩
section
variable{P:aK}{w:aO}{H:Hp}{h:Heap}{a:aF}
def avg{u:HO}(ok:HOk P w H h)(e:Rd H a u):ObjOk P w H h a u:=e.ok ok
def zV{kvs:Z (Key×V)}(ok:HOk P w H h)(e:Rd H a (.dK kvs)):kvs.length<=aC/\(a==bE)=false/\∃vs,KV kvs vs/\h.DictOf (p8 P w) a vs:=
 show ObjOk P w H h a (.dK kvs)from avg ok e
def ax4{kvs:Z (Key×V)}(ok:HOk P w H h)(e:H a=some (.dK kvs)):kvs.length<=aC/\(a==bE)=false/\∃vs,KV kvs vs/\h.DictOf (p8 P w) a vs:=zV ok<|.inl e
def Ae{ks:Z Key}(ok:HOk P w H h)(e:H a=some (.tup<|ks.map kV)):(fO<|p8 P w).is h ks a:=by obtain⟨_,its,r,o,h1,h2,n,h3⟩:=(show ObjOk P w H h a (.tup<|ks.map kV)from ok a _ e);exact⟨o,its.toArray,n,h1,h2,h3,by simpa using aen r⟩
theorem zZ{kvs:Z (Z Key×V)}(ok:HOk P w H h)(e:Rd H a (.dT kvs)):kvs.length<=aC/\(a==bE)=false/\
  ∃xs,KT H kvs xs/\h.DictOfH (fO<|p8 P w) a xs:=by
 obtain⟨z,y,xs,r,o,es,ep,h1,h2,h3,h4,h5⟩:=(show ObjOk P w H h a (.dT kvs)from avg ok e);refine⟨z,y,xs,r,o,es,ep,h1,h2,h3,h4,λx hx=>?_,h5⟩;have all:∀{l:Z (Z Key×V)} {m:Z (Z Key×aF×aA)},KT H l m->∀x∈m,(fO<|p8 P w).is h x.1 x.2.1:=by
  intro l m q;induction q with
  | nil=>intro x hx;exact nomatch hx
  | @cons p q ps qs hq t ih=>
   intro x hx;rcases a7.mp hx with e|hx
   .subst e;exact Ae ok<|by rw[<-hq.1];exact hq.2.1
   .exact ih x hx
 exact all r x hx
def KZ{kvs:Z (Z Key×V)}(ok:HOk P w H h)(e:H a=some (.dT kvs)):kvs.length<=aC/\(a==bE)=false/\
  ∃xs,KT H kvs xs/\h.DictOfH (fO<|p8 P w) a xs:=zZ ok<|.inl e
end
def DGet(H:Hp)(a:aF)(y:V)(r:Option V):Prop:=
 (∃kvs k,Rd H a (.dK kvs)/\y=kV k/\r=rs kvs k)\/∃kvs k b,Rd H a (.dT kvs)/\y=.ref b/\H b=some (.tup<|k.map kV)/\r=rs kvs k
def DPut(H:Hp)(a:aF)(y v:V)(H':Hp):Prop:=
 (∃kvs k,H a=some (.dK kvs)/\y=kV k/\kvs.length<aC/\H'=upd H a (.dK<|jE kvs k v))\/
 ∃kvs k b,H a=some (.dT kvs)/\y=.ref b/\H b=some (.tup<|k.map kV)/\kvs.length<aC/\H'=upd H a (.dT<|jE kvs k v)
theorem DGet.k{H:Hp}{a:aF}{kvs:Z (Key×V)}{k:Key}(e:H a=some (.dK kvs)):DGet H a (kV k) (rs kvs k):=.inl ⟨kvs,k,.inl e,rfl,rfl⟩
def DGet.t{H:Hp}{a b:aF}{kvs:Z (Z Key×V)}{k:Z Key}(e:H a=some (.dT kvs))(eb:H b=some (.tup<|k.map kV)):DGet H a (.ref b) (rs kvs k):=.inr ⟨kvs,k,b,.inl e,rfl,eb,rfl⟩
def DPut.t{H:Hp}{a b:aF}{kvs:Z (Z Key×V)}{k:Z Key}{v:V}(e:H a=some (.dT kvs))(eb:H b=some (.tup<|k.map kV))(hl:kvs.length<aC) :
  DPut H a (.ref b) v (upd H a<|.dT<|jE kvs k v):=.inr ⟨kvs,k,b,e,rfl,eb,hl,rfl⟩
section
variable{X:Cx}{aE:Z (aF×Obj)}{σ:St}{H:Hp}{s:aB}{a:aF}{y v:V}{u r:aA}{o:Option V}{A:Around}{E:aA->aB->Prop}
def Inv.big(I:Inv X aE σ H s):bE<s.heap.objs.size:=by have h:aP<s.heap.objs.size:=(I.mod.glob.keeps I.bk).lt;exact Nat.lt_trans (by decide) h
def ak6{Q:aA->aB->Prop}(hu:A.units+1<bI)(I:Inv X aE σ H s)(g:DGet H a y (some v))(ry:RelV y u)(h:∀w' s',Inv X aE σ H s'->RelV v w'->Q w' s') :
  aG (aH X.prog X.w) A (fD (.ref a) u) Q E s:=by
 rcases g with ⟨kvs,k,e,ey,l⟩|⟨kvs,k,b,e,ey,eb,l⟩
 .subst ey;obtain⟨z,hd,vs,rel,dd⟩:=zV I.hok e;obtain⟨w',hw,nD⟩:=RelO.some_of (v:=v) (o:=fV vs k) (by rw[l];exact rel.val k);exact EG (Bq ry) dd.mapOf hw<|h w' _ (I.tok _) nD
 .subst ey;cases (show u=aA.ref b from ry);obtain⟨z,hd,xs,rel,dd⟩:=zZ I.hok e;obtain⟨w',hw,nD⟩:=RelO.some_of (v:=v) (o:=(iN xs k).map (·.2)) (by rw[l];exact rel.val k);obtain⟨p,hp,wP⟩:=fw.mp hw;refine wpAny_getItem_heap (ky hu) (Ae I.hok eb) dd hp ?_;rw[wP];exact h w' _ (I.tok _) nD
def az0{Q:aA->aB->Prop}(hu:A.units+1<bI)(I:Inv X aE σ H s)(g:DGet H a y o)(ry:RelV y u)(h:∀s',Inv X aE σ H s'->Q (.bool o.isSome) s') :
  aG (aH X.prog X.w) A (aV .In u<|.ref a) Q E s:=by
 rcases g with ⟨kvs,k,e,ey,l⟩|⟨kvs,k,b,e,ey,eb,l⟩
 .subst ey;obtain⟨z,hd,vs,rel,dd⟩:=zV I.hok e;refine wpAny_in_of (Bq ry) hd dd.mapOf ?_;rw[<-(rel.val k).isSome_eq,<-l];exact h _<|I.tok _
 .subst ey;cases (show u=aA.ref b from ry);obtain⟨z,hd,xs,rel,dd⟩:=zZ I.hok e;refine wpAny_in_heap (ky hu) (Ae I.hok eb) hd dd ?_;have q:=(rel.val k).isSome_eq;rw[Option.isSome_map]at q;rw[<-q,<-l];exact h _<|I.tok _
def ar5{Q:aA->aB->Prop}(hu:A.units+1<bI)(I:Inv X aE σ H s)(g:DGet H a y o)(ry:RelV y u)(h:∀s',Inv X aE σ H s'->Q (.bool<|!o.isSome) s') :
  aG (aH X.prog X.w) A (aV .NotIn u<|.ref a) Q E s:=by
 rcases g with ⟨kvs,k,e,ey,l⟩|⟨kvs,k,b,e,ey,eb,l⟩
 .subst ey;obtain⟨z,hd,vs,rel,dd⟩:=zV I.hok e;refine wpAny_notIn_of (Bq ry) hd dd.mapOf ?_;rw[<-(rel.val k).isSome_eq,<-l];exact h _<|I.tok _
 .subst ey;cases (show u=aA.ref b from ry);obtain⟨z,hd,xs,rel,dd⟩:=zZ I.hok e;refine wpAny_notIn_heap (ky hu) (Ae I.hok eb) hd dd ?_;have q:=(rel.val k).isSome_eq;rw[Option.isSome_map]at q;rw[<-q,<-l];exact h _<|I.tok _
def Gv{h':Heap}{t':Nat}{ob:HO}(I:Inv X aE σ H s)(mu:Mut (H a))(hs:b8 a s.heap h')(he:∃q,h'.get? a=some q)(new:ObjOk X.prog X.w (upd H a ob) h' a ob) :
  Inv X aE σ (upd H a ob) {s with heap:=h',toks:=t'}:=
 I.write (x:=a) (e:=a) mu (.inl rfl) (λb q hb z=>(hs.2 b hb).trans z) he new
def ate{P:aK}{w:aO}{H':Hp}{h':Heap}{kvs:Z (Key×V)}{vs:Z (Key×aA)}(z:kvs.length<=aC)(hd:(a==bE)=false)(rel:KV kvs vs)(dd:h'.DictOf (p8 P w) a vs) :
  ObjOk P w H' h' a (.dK kvs):=⟨z,hd,vs,rel,dd⟩
def akl{H':Hp}{Q:Unit->aB->Prop}(hu:A.units+1<bI)(I:Inv X aE σ H s)(g:DPut H a y v H')(ry:RelV y u)(rv:RelV v r)(h:∀s',Inv X aE σ H' s'->Q () s') :
  aG (aH X.prog X.w) A (setItem (.ref a) u r) Q E s:=by
 rcases g with ⟨kvs,k,e,ey,l,eH⟩|⟨kvs,k,b,e,ey,eb,l,eH⟩
 .subst ey eH;obtain⟨z,hd,vs,rel,dd⟩:=ax4 I.hok e;have hz:vs.length<=aC:=by rw[<-rel.length];exact z
  have hl:(jE kvs k v).length<=aC:=by have:=sd kvs k v;lia
  refine wpAny_setItem_pairs (hsz:=hz) (Bq ry) dd λh' Bc hs=>h _ ?_;have he:∃q,h'.get? a=some q:=let ⟨q,_,_,hq,_⟩:=Bc;⟨q,hq⟩
  exact Gv I (by rw[e];exact True.intro) hs he<|ate hl hd (rel.put k rv) Bc
 .subst ey eH;cases (show u=aA.ref b from ry);obtain⟨z,hd,xs,rel,dd⟩:=KZ I.hok e;have hz:xs.length<=aC:=by rw[<-dI.length rel];exact z
  have hl:(jE kvs k v).length<=aC:=by have:=sd kvs k v;lia
  refine wpAny_setItem_heap (hsz:=hz) (ky hu) (Ae I.hok eb) dd λh' Bc hs=>h _ ?_;obtain⟨q,es,ep,hq,h2,h3,h4,_,h5⟩:=Bc;refine Gv I (by rw[e];exact True.intro) hs ⟨q,hq⟩ ⟨hl,hd,_,(rel.put k eb rv).keeps λc ys ec=>?_,q,es,ep,hq,h2,h3,h4,h5⟩;rw[nu (K2 ec e λz=>nomatch z)];exact ec
end
def ayx(i:Expr):Prop:=∀ov iv,lV i false ov iv=operate [ov,iv] (fD ov iv)
theorem asf{prog:aK}{w:aO}{A:Around}{E:aA->aB->Prop}{s:aB}{env:qL}{value eY:Expr}{pos:dQ}{T id:String}{Q:aA->aB->Prop}
  (hl:jP (.type T) "__getitem__" = aR (some<|.builtin id)) (hs:ayx eY)
  (h:aG (aH prog w) A (bX value env) (λo s₁=>aG (aH prog w) A (bX eY env) (λi s₂=>s₂.TypeIs o T/\aG (aH prog w) A (fD o i) Q E s₂) E s₁) E s) :
  aG (aH prog w) A (bX (.Subscript value eY pos) env) Q E s:=by
 refine BA<|jf h (λo s₁ h₁=>jf h₁ (λi s₂ h₂=>?_) λ_ _ x=>x) λ_ _ x=>x;obtain⟨hT,h₂⟩:=h₂;unfold pP;refine ab ?_;rw[getitemInPython_of_ne hT.not_modules];refine ab<|j5 hT hl ?_;have fin:aG (aH prog w) A (lV eY false o i) (λr s₃=>aG (aH prog w) A (letTemporaryGo value o r >>= λ_=>aR r) Q E s₃) E s₂:=by rw[hs o i];exact wpAny_operating<|jf h₂ (λr s₃ h₃=>ab<|wpAny_letTemporaryGo<|aj h₃) λ_ _ x=>x
 first
  | exact aj (ab fin)
  | exact ab (aj<|ab fin)
  | exact ab fin
def agn{X:Cx}{aE:Z (aF×Obj)}{σ:St}{H:Hp}{s:aB}{a:aF}{y:V}{o:Option V}(I:Inv X aE σ H s)(g:DGet H a y o):s.TypeIs (.ref a) "dict":=by
 rcases g with ⟨kvs,k,e,_,_⟩|⟨kvs,k,b,e,_,_,_⟩
 .obtain⟨_,_,vs,_,dd⟩:=zV I.hok e;exact dd.typeIs
 .obtain⟨_,_,xs,_,dd⟩:=zZ I.hok e;exact dd.typeIs
def aw6(td ty:TE):TE:=λσ H Q=>td σ H λx H1=>ty σ H1 λy H2=>∃a v,x=.ref a/\DGet H2 a y (some v)/\Q v H2
def azx(ty td:TE):TE:=λσ H Q=>ty σ H λy H1=>td σ H1 λx H2=>∃a o,x=.ref a/\DGet H2 a y o/\Q (.bl o.isSome) H2
def aqt(ty td:TE):TE:=λσ H Q=>ty σ H λy H1=>td σ H1 λx H2=>∃a o,x=.ref a/\DGet H2 a y o/\Q (.bl<|!o.isSome) H2
def aw5(td ty tv:TE):TS:=λD σ H=>tv σ H λv H1=>td σ H1 λx H2=>ty σ H2 λy H3=>∃a H4,x=.ref a/\DPut H3 a y v H4/\D.nx σ H4
section
variable{X:Cx}{o i e value:Expr}{pos qX jG:dQ}{td ty tv:TE}
def vm(hu:X.A.units+1<bI)(ho:PE X o td)(hi:PE X i ty)(hs:ayx i):PE X (.Subscript o i pos) (aw6 td ty):=by intro aE s σ H Q I h;refine asf PySem.F.slot_dict_getitem.lookup hs<|thn (ho aE s σ H _ I h) λu s1 ⟨x,H1,I1,rx,q1⟩=>thn (hi aE s1 σ H1 _ I1 q1) λiv s2 ⟨y,H2,I2,ry,a,v,ex,g,q2⟩=>?_;subst ex;obtain rfl:u=aA.ref a:=rx;exact⟨agn I2 g,ak6 hu I2 g ry λw' s3 I3 nD=>⟨v,H2,I3,nD,q2⟩⟩
def apq(hu:X.A.units+1<bI)(hi:PE X i ty)(ho:PE X o td):PC X .In i o (azx ty td):=by intro aE s σ H Q I h;refine thn (hi aE s σ H _ I h) λiv s1 ⟨y,H1,I1,ry,q1⟩=>thn (ho aE s1 σ H1 _ I1 q1) λu s2 ⟨x,H2,I2,rx,a,ov,ex,g,q2⟩=>?_;subst ex;obtain rfl:u=aA.ref a:=rx;exact az0 hu I2 g ry λs3 I3=>⟨.bl ov.isSome,H2,I3,rfl,q2⟩
def afc(hu:X.A.units+1<bI)(hi:PE X i ty)(ho:PE X o td):PC X .NotIn i o (aqt ty td):=by intro aE s σ H Q I h;refine thn (hi aE s σ H _ I h) λiv s1 ⟨y,H1,I1,ry,q1⟩=>thn (ho aE s1 σ H1 _ I1 q1) λu s2 ⟨x,H2,I2,rx,a,ov,ex,g,q2⟩=>?_;subst ex;obtain rfl:u=aA.ref a:=rx;exact ar5 hu I2 g ry λs3 I3=>⟨.bl<|!ov.isSome,H2,I3,rfl,q2⟩
def LJ(hu:X.A.units+1<bI)(ho:PE X o td)(hi:PE X i ty)(hv:PE X value tv)(hs:iQ value (some<|.Subscript o i qX) pos.line X.env=aR false) :
  PS X (.Assign [.Subscript o i qX] value pos) (aw5 td ty tv):=by
 intro aE s σ H D I h;refine wpAny_Assign_Subscript (thn (hv aE s σ H _ I h) λr s1 ⟨v,H1,I1,rv,q1⟩=>thn (ho aE s1 σ H1 _ I1 q1) λu s2 ⟨x,H2,I2,rx,q2⟩=>thn (hi aE s2 σ H2 _ I2 q2) λiv s3 ⟨y,H3,I3,ry,a,H4,ex,g,q3⟩=>?_) hs;subst ex;obtain rfl:u=aA.ref a:=rx;exact akl hu I3 g ry rv λs4 I4=>⟨σ,H4,I4,q3⟩
end
def an2{P:aK}{w:aO}{H:Hp}(h:Heap)(hb:bE<h.objs.size):ObjOk P w H (h.push {cls:=.type "dict",data:=.dict #[]}) h.objs.size (.dK []):=
 ⟨f8 _,beq_eq_false_iff_ne.mpr<|Ne.symm<|da hb,[],.nil,Heap.DictOf.new h⟩
structure M2(X:Cx)(o:Expr)(m:Str)(gM:dQ)(e f:Expr)(eJ:dQ):Prop where
 base:qE o m X.env (bX o X.env)=bX o X.env
 few:((cV eJ<|aU [e,f] X.env).all (λx=>!x.1)&&(xP eJ<|mD [] X.env).all (λx=>x.1.isSome)
  && decide (([e,f]:Z Expr).length+([]:Z nQ).length+(if ([]:Z nQ).isEmpty then 0 else 1)<30))=true
 line:(gM.endLine==eJ.line)=true
 trees:cV eJ (aU [e,f] X.env)=[(false,bX e X.env),(false,bX f X.env)]
def IsD(H:Hp)(a:aF):Prop:=(∃kvs,Rd H a<|.dK kvs)\/∃kvs,Rd H a<|.dT kvs
def apu{X:Cx}{aE:Z (aF×Obj)}{σ:St}{H:Hp}{s:aB}{a:aF}(I:Inv X aE σ H s)(d:IsD H a) :
  s.TypeIs (.ref a) "dict"/\(∀b,aA.ref a=.ref b->∃ob,s.heap.get? b=some ob/\ob.dict=none)/\(a==bE)=false:=by
 rcases d with ⟨kvs,e⟩|⟨kvs,e⟩
 .obtain⟨_,hd,vs,_,dd⟩:=zV I.hok e;refine⟨dd.typeIs,λb q=>?_,hd⟩;cases q;obtain⟨ob,_,_,h1,h2,_⟩:=dd;exact⟨ob,h1,h2.2.1⟩
 .obtain⟨_,hd,xs,_,dd⟩:=zZ I.hok e;refine⟨dd.typeIs,λb q=>?_,hd⟩;cases q;obtain⟨ob,_,_,h1,h2,_⟩:=dd;exact⟨ob,h1,h2.2.1⟩
section
variable{X:Cx}{aE:Z (aF×Obj)}{σ:St}{H:Hp}{s:aB}{a:aF}{y d:V}{u r:aA}{o:Option V}{A:Around}{E:aA->aB->Prop}
def atu{Q:aA->aB->Prop}(hu:A.units+1<bI)(I:Inv X aE σ H s)(g:DGet H a y o)(ry:RelV y u)(rd:RelV d r)(h:∀w' s',Inv X aE σ H s'->RelV (o.getD d) w'->Q w' s') :
  aG (aH X.prog X.w) A (call (.builtin "dict.get") [.ref a,u,r]) Q E s:=by
 rcases g with ⟨kvs,k,e,ey,l⟩|⟨kvs,k,b,e,ey,eb,l⟩
 .subst ey;obtain⟨z,hd,vs,rel,dd⟩:=zV I.hok e;refine tX PySem.F.slot_dict_get dd.typeIs PySem.F.entry_dict_get (PySem.F.args_dict_get_3 _ _ _) (meets_dict_get_default (p8 X.prog X.w) a (Bq ry) hd r) ⟨_,dd.mapOf,h _ _ (I.tok _) ?_⟩;rw[l];exact(rel.val k).getD rd
 .subst ey;cases (show u=aA.ref b from ry);obtain⟨z,hd,xs,rel,dd⟩:=zZ I.hok e;refine tX PySem.F.slot_dict_get dd.typeIs PySem.F.entry_dict_get (PySem.F.args_dict_get_3 _ _ _) (meetsH_dict_get_default (fO<|p8 X.prog X.w) a b hd r) ⟨ky hu,k,xs,Ae I.hok eb,dd,h _ _ (I.tok _) ?_⟩;rw[l];exact(rel.val k).getD rd
end
def avh(td ty tx:TE):TE:=λσ H Q=>td σ H λx H1=>∃a,x=.ref a/\IsD H1 a/\ty σ H1 λy H2=>tx σ H2 λz H3=>∃o,DGet H3 a y o/\Q (o.getD z) H3
section
variable{X:Cx}{o e f:Expr}{gM eJ:dQ}{td ty tx:TE}
def anz(hu:X.A.units+1<bI)(ho:PE X o td)(he:PE X e ty)(hf:PE X f tx)(m:M2 X o "get" gM e f eJ):PE X (.Call (.Attribute o "get" gM) [e,f] [] eJ) (avh td ty tx):=by
 intro aE s σ H Q I h;refine BN m.base m.few m.line PySem.F.plainAttrs_dict PySem.F.slot_dict_get PySem.F.type_dict_get<|thn (ho aE s σ H _ I h) λu s1 ⟨x,H1,I1,rx,a,ex,d,q1⟩=>?_;subst ex;obtain rfl:u=aA.ref a:=rx;obtain⟨t1,t2,_⟩:=apu I1 d;refine⟨t1,t2,?_⟩;rw[m.trees];refine Calls.callWith_builtin rfl (Calls.evalArgs_plain (jp (thn (he aE s1 σ H1 _ I1 q1) λiv s2 ⟨y,H2,I2,ry,q2⟩=>
  jp (thn (hf aE s2 σ H2 _ I2 q2) λfv s3 ⟨z,H3,I3,rz,ov,g,q3⟩=>Calls.spliced_nil ?_))))
 exact atu hu I3 g ry rz λw' s4 I4 nD=>⟨_,H3,I4,nD,q3⟩
end
end L2
namespace L3
structure Mat where
 h:Nat
 w:Nat
 g:Nat->Nat->Nat
noncomputable def o7(M:Mat)(r:Nat):Z Nat:=(e8 M.w).map (M.g r)
structure OkM(P:Nat->Prop)(M:Mat):Prop where
 h1:0<M.h
 h8:M.h<=8
 w1:0<M.w
 w8:M.w<=8
 sg:∀r c,r<M.h->c<M.w->P (M.g r c)
theorem ab0{α:Type}{R:α->α->Prop}(as:∀x y,R x y->¬R y x):∀{xs ys:List α},xs.Pairwise R->ys.Pairwise R->(∀z,z∈xs↔z∈ys)->xs=ys
 | [],[],_,_,_=>rfl
 | [],y::ys,_,_,h=>absurd ((h y).mpr aq) (by simp)
 | x::xs,[],_,_,h=>absurd ((h x).mp aq) (by simp)
 | x::xs,y::ys,p,q,h=>by
  obtain⟨p1,p2⟩:=gk.mp p;obtain⟨q1,q2⟩:=gk.mp q;have e:x=y:=by
   rcases a7.mp ((h x).mp aq)with e|a
   .exact e
   .rcases a7.mp ((h y).mpr aq)with e|b
    .exact e.symm
    .exact absurd (q1 x a)<|as _ _<|p1 y b
  subst e;refine congrArg _<|ab0 as p2 q2 λz=>⟨λhz=>?_,λhz=>?_⟩
  .rcases a7.mp ((h z).mp (av _ hz))with e|a
   .subst e;exact absurd (p1 z hz) λk=>as _ _ k k
   .exact a
  .rcases a7.mp ((h z).mpr (av _ hz))with e|a
   .subst e;exact absurd (q1 z hz) λk=>as _ _ k k
   .exact a
end L3
namespace L3
open PySem PySem.Spec PyProof.Rows L2
noncomputable def sLt(x y:Str):Bool:=decide<|x.cps.toList<y.cps.toList
def aqg{x y:Str}(h:sLt x y=true):sLt y x=false:=by have h':x.cps.toList<y.cps.toList:=of_decide_eq_true h;exact decide_eq_false<|List.lt_asymm h'
def at6{a b c:Str}(h1:sLt b a=false)(h2:sLt c b=false):sLt c a=false:=by have fN:a.cps.toList<=b.cps.toList:=of_decide_eq_false h1;have fU:b.cps.toList<=c.cps.toList:=of_decide_eq_false h2;exact decide_eq_false<|List.le_trans fN fU
def Lj{a b:Str}(h1:sLt a b=false)(h2:sLt b a=false):a=b:=by
 have fN:b.cps.toList<=a.cps.toList:=of_decide_eq_false h1;have fU:a.cps.toList<=b.cps.toList:=of_decide_eq_false h2;have e:=List.le_antisymm fU fN;cases a;cases b;simp only at e
 congr
 exact Array.ext' e
def asi(a:Str):sLt a a=false:=decide_eq_false<|List.lt_irrefl _
def xw(i j:Int)(r r':Z U):qp (.int i::r) (.int j::r')=if i=j then qp r r' else decide (i<j):=by
 show(if (i==j)=true then qp r r' else decide (i<j))=_;by_cases h:i=j
 .rw[if_pos h,if_pos<|by rw[h];simp]
 .rw[if_neg h,if_neg<|by simpa using h]
def Ld(x y:Str)(r r':Z U):qp (.str x::r) (.str y::r')=if x=y then qp r r' else sLt x y:=by
 show(if (x==y)=true then qp r r' else decide (x.cps.toList<y.cps.toList))=_;by_cases h:x=y
 .rw[if_pos h,if_pos<|by rw[h];simp]
 .rw[if_neg h,if_neg<|by simpa using h];rfl
theorem DS:∀{ks:Z Bool} {xs ys:Z U},Row ks xs->Row ks ys->qp xs ys=true->qp ys xs=false
 | [],xs,ys,h1,h2,h=>by cases (show xs=[]from h1);cases (show ys=[]from h2);rfl
 | true::ks,xs,ys,h1,h2,h=>by
  obtain⟨i,r,rfl,h1⟩:=h1;obtain⟨j,r',rfl,h2⟩:=h2;rw[xw]at h⊢;by_cases e:i=j
  .rw[if_pos e]at h;rw[if_pos e.symm];exact DS h1 h2 h
  .rw[if_neg e]at h;rw[if_neg (Ne.symm e)];have:=of_decide_eq_true h;exact decide_eq_false (by omega)
 | false::ks,xs,ys,h1,h2,h=>by
  obtain⟨i,r,rfl,h1⟩:=h1;obtain⟨j,r',rfl,h2⟩:=h2;rw[Ld]at h⊢;by_cases e:i=j
  .rw[if_pos e]at h;rw[if_pos e.symm];exact DS h1 h2 h
  .rw[if_neg e]at h;rw[if_neg (Ne.symm e)];exact aqg h
theorem DP:∀{ks:Z Bool} {a b c:Z U},Row ks a->Row ks b->Row ks c->qp b a=false->qp c b=false->qp c a=false
 | [],a,b,c,h1,h2,h3,h4,h5=>by cases (show a=[]from h1);cases (show c=[]from h3);rfl
 | true::ks,a,b,c,h1,h2,h3,h4,h5=>by
  obtain⟨i,r,rfl,h1⟩:=h1;obtain⟨j,r',rfl,h2⟩:=h2;obtain⟨k,r'',rfl,h3⟩:=h3;rw[xw]at h4 h5⊢;by_cases e1:j=i
  .rw[if_pos e1]at h4;by_cases e2:k=j
   .rw[if_pos e2]at h5;rw[if_pos (e2.trans e1)];exact DP h1 h2 h3 h4 h5
   .rw[if_neg e2]at h5;rw[if_neg (by omega)];have:=of_decide_eq_false h5;exact decide_eq_false<|by omega
  .rw[if_neg e1]at h4;have q1:=of_decide_eq_false h4;by_cases e2:k=j
   .rw[if_neg (by omega)];exact decide_eq_false<|by omega
   .rw[if_neg e2]at h5;have q2:=of_decide_eq_false h5;rw[if_neg (by omega)];exact decide_eq_false (by omega)
 | false::ks,a,b,c,h1,h2,h3,h4,h5=>by
  obtain⟨i,r,rfl,h1⟩:=h1;obtain⟨j,r',rfl,h2⟩:=h2;obtain⟨k,r'',rfl,h3⟩:=h3;rw[Ld]at h4 h5⊢;by_cases e1:j=i
  .rw[if_pos e1]at h4;by_cases e2:k=j
   .rw[if_pos e2]at h5;rw[if_pos (e2.trans e1)];exact DP h1 h2 h3 h4 h5
   .rw[if_neg e2]at h5;rw[if_neg (by rw[<-e1];exact e2),<-e1];exact h5
  .rw[if_neg e1]at h4;by_cases e2:k=j
   .rw[if_neg (by rw[e2];exact e1),e2];exact h4
   .rw[if_neg e2]at h5;by_cases e3:k=i
    .subst e3;exact absurd (Lj h5 h4) e2
    .rw[if_neg e3];exact at6 h4 h5
theorem aqr{ks0:Z Bool}{ds:Z U}(h:Rows ks0 ds):Ord (tZ ds):=by
 obtain⟨ks,dY,hk⟩:∃ks,ks=true::ks0/\ks≠[]:=⟨_,rfl,by simp⟩;have at':∀i,uu (ds.getD i .none)=[]\/Row ks (uu<|ds.getD i .none):=λi=>by
  by_cases hi:i<ds.length
  .right;have e:ds.getD i .none=ds[i]:=by simp[List.getD,hi]
   obtain⟨r,e2,hr⟩:=h ds[i] (gp hi);rw[e,e2,dY];exact hr
  .left;have e:ds.getD i .none=.none:=by simp[List.getD,jr<|Nat.le_of_not_lt hi]
   rw[e];rfl
 have ne:∀{r:Z U},Row ks r->∃x xs,r=x::xs:=λ{r} hr=>by
  match ks,hk,hr with
  | true::ks,_,⟨i,r,e,_⟩=>exact(l0 _ _ e)
  | false::ks,_,⟨i,r,e,_⟩=>exact(l0 _ _ e)
 refine⟨λa b lD=>?_,λa b c h1 h2=>?_⟩
 .show qp (uu<|ds.getD b .none) (uu<|ds.getD a .none)=false;have zD:qp (uu<|ds.getD a .none) (uu<|ds.getD b .none)=true:=lD;rcases at' a with ea|ea<;>rcases at' b with eb|eb
  .rw[ea,eb];rfl
  .obtain⟨x,xs,e⟩:=ne eb;rw[ea,e];rfl
  .obtain⟨x,xs,e⟩:=ne ea;rw[e,eb]at zD;cases zD
  .exact DS ea eb zD
 .show qp (uu<|ds.getD c .none) (uu<|ds.getD a .none)=false;have fN:qp (uu<|ds.getD b .none) (uu<|ds.getD a .none)=false:=h1;have fU:qp (uu<|ds.getD c .none) (uu<|ds.getD b .none)=false:=h2;rcases at' a with ea|ea
  .rw[ea];rcases at' c with ec|ec
   .rw[ec];rfl
   .obtain⟨x,xs,e⟩:=ne ec;rw[e];rfl
  .obtain⟨x,xs,e⟩:=ne ea;rcases at' b with eb|eb
   .rw[eb,e]at fN;cases fN
   .obtain⟨y,ys,e2⟩:=ne eb;rcases at' c with ec|ec
    .rw[ec,e2]at fU;cases fU
    .exact DP ea eb ec fN fU
theorem FV:∀{ks:Z Bool} {a b:Z U},Row ks a->Row ks b->qp a b=false->qp b a=false->a=b
 | [],a,b,h1,h2,_,_=>by cases (show a=[]from h1);cases (show b=[]from h2);rfl
 | true::ks,a,b,h1,h2,h3,h4=>by
  obtain⟨i,r,rfl,h1⟩:=h1;obtain⟨j,r',rfl,h2⟩:=h2;rw[xw]at h3 h4;by_cases e:i=j
  .rw[if_pos e]at h3;rw[if_pos e.symm]at h4;rw[e,FV h1 h2 h3 h4]
  .rw[if_neg e]at h3;rw[if_neg (Ne.symm e)]at h4;have:=of_decide_eq_false h3;have:=of_decide_eq_false h4;exact absurd (by omega) e
 | false::ks,a,b,h1,h2,h3,h4=>by
  obtain⟨i,r,rfl,h1⟩:=h1;obtain⟨j,r',rfl,h2⟩:=h2;rw[Ld]at h3 h4;by_cases e:i=j
  .rw[if_pos e]at h3;rw[if_pos e.symm]at h4;rw[e,FV h1 h2 h3 h4]
  .rw[if_neg e]at h3;rw[if_neg (Ne.symm e)]at h4;exact absurd (Lj h3 h4) e
theorem Ml{α:Type}{R:α->α->Prop}:∀{xs ys:List α},xs.Perm ys->xs.Pairwise R->ys.Pairwise R->(∀x∈xs,∀y∈xs,R x y->R y x->x=y)->xs=ys
 | [],ys,p,_,_,_=>(List.Perm.nil_eq p).symm▸rfl
 | x::xs,[],p,_,_,_=>absurd p.length_eq (by simp)
 | x::xs,y::ys,p,hx,hy,ha=>by
  have oX:=gk.mp hx;have wK:=gk.mp hy;have m1:y∈x::xs:=p.mem_iff.mpr aq;have m2:x∈y::ys:=p.mem_iff.mp aq;have e:x=y:=by
   rcases a7.mp m1 with e|m
   .exact e.symm
   .rcases a7.mp m2 with e|m'
    .exact e
    .exact ha x aq y m1 (oX.1 y m)<|wK.1 x m'
  subst e;rw[Ml (List.Perm.cons_inv p) oX.2 wK.2 λa h1 b h2=>ha a (av _ h1) b<|av _ h2]
def wy(ds:Z U):((e8 ds.length).map λi=>ds.getD i .none)=ds:=by
 apply List.ext_getElem
 .simp
 .intro i h1 h2;simp[List.getD,h2]
def o0(ds:Z U):(rq ds).Perm ds:=by have h:=(L0 (tZ ds) ds.length).map λi=>ds.getD i .none;rw[wy]at h;exact h
theorem ah9{ks:Z Bool}{ds:Z U}(h:Rows ks ds){i j:Nat}{x y:U}(hx:(rq ds)[i]?=some x)(hy:(rq ds)[j]?=some y)(cN:i<=j):qp (uu y) (uu x)=false:=by
 unfold rq at hx hy;rw[bo]at hx hy;have hj:j<(srt (tZ ds) ds.length).length:=by
  cases e:(srt (tZ ds) ds.length)[j]? with
  | none=>rw[e]at hy;cases hy
  | some k=>exact(af.mp e).1
 have hi:i<(srt (tZ ds) ds.length).length:=by omega
 rw[ah hi]at hx;rw[ah hj]at hy;cases hx;cases hy;have u:=apb (aqr h) ds.length cN (by rw[zg]at hj;exact hj);have e1:(srt (tZ ds) ds.length).getD i 0=(srt (tZ ds) ds.length)[i]:=by simp[List.getD,hi]
 have e2:(srt (tZ ds) ds.length).getD j 0=(srt (tZ ds) ds.length)[j]:=by simp[List.getD,hj]
 rw[e1,e2]at u;exact u
end L3
namespace L3
open PySem PySem.Spec PyProof.Rows
section
variable{prog:aK}{w:aO}{A:Around}{R:jY->aB->Prop}{I:aF}{fp wr:Z aF}{n:Nat}{P:Nat->aA->Prop}{St:Nat->Heap->Prop}
theorem alg(kw:Z (Str×aA))(W:tH prog w A.in1 I fp wr n P St)(bt:Nat->Nat->Bool)(iU:CmpOf prog w A.in1 .Gt P bt)(S:aF)(nM:S∉fp) :
  ∀(k j:Nat)(s:aB)(vb:aA)(c:Nat),n-(j+1)=k->j+1<=n->St (j+1) s.heap->P (fZ bt j) vb->
  s.heap.get? S=some {cls:=.type "list",dict:=none,data:=.seq #[vb,vb] c,slots:=#[]}->
  (∀v h' tk,P (fZ bt<|n-1) v->(∀b o,b∉wr->b≠S->s.heap.get? b=some o->h'.get? b=some o)->R (.ok<|.ret v) {s with heap:=h',toks:=tk})->
  cL (aH prog w) A (.builtin "max.loop" ⟨[.ref I,.none,.ref S],kw⟩) R s:=by
 have A5:S∉wr:=λh=>nM<|W.sub _ h;have nm:(kI "max" ++ kI ".loop" : String)="max.loop":=by decide
 intro k;induction k with
 | zero=>
  intro j s vb c hk hj gQ Ft hS hR;have kO:j+1=n:=by omega
  refine i7 F.entry_max_loop ?_;rw[gt kl _];show aG _ A.in1 (fP (.ref S) >>= _) _ _ s;refine ab<|jc hS rfl ?_;show aG _ A.in1 (vX (bH<|.ref I) _ >>= _) _ _ s;refine ab<|hW<|W.done s _ _ (kO▸gQ) λh' tk eD=>?_;have jB:=eD S _ A5 hS;show aG _ A.in1 (iP S (λ_=>#[]) >>= _) _ _ _;refine ab<|k5 jB rfl<|ab<|dW<|aj ?_;exact hR vb _ tk (by rw[<-kO];exact Ft) λb o qB vC e=>(dq _ _<|Ne.symm vC).trans (eD b o qB e)
 | succ k ih=>
  intro j s vb c hk hj gQ Ft hS hR;have bS:j+1<n:=by omega
  refine i7 F.entry_max_loop ?_;rw[gt kl _];show aG _ A.in1 (fP (.ref S) >>= _) _ _ s;refine ab<|jc hS rfl ?_;show aG _ A.in1 (vX (bH<|.ref I) _ >>= _) _ _ s;refine ab<|hW<|W.item (j+1) s _ _ bS gQ λv h' tk hP oY eD=>?_;have jB:=eD S _ A5 hS;show aG _ A.in1 (vX (holding [v,v]<|richCompare .Gt v vb >>= _) _ >>= _) _ _ _;refine ab<|hW<|gm<|ab<|iU (j+1) (fZ bt j) v vb _ _ _ hP Ft ?_;refine ab<|gm<|gy ?_;refine ab<|dW<|aj ?_;cases hb:bt (j+1) (fZ bt j)with
  | true=>
   simp only[if_true];refine ab<|k5 jB rfl<|ab<|dW ?_;rw[nm];refine aj ⟨jt kl _,ih (j+1) _ v _ (by omega) bS (W.frame _ _ _ oY λb Jj o e=>?_) (by simp only[fZ,hb,if_true];exact hP) (cp _ jB rfl) λv' sS qQ zH rW=>?_⟩
   .exact(dq _ _ λh:S=b=>nM<|by rw[h];exact Jj).trans e
   .exact hR v' sS qQ zH λb o qB vC e=>rW b o qB vC ((dq _ _<|Ne.symm vC).trans (eD b o qB e))
  | false=>
   simp only[a9,if_false];refine ab<|dW ?_;rw[nm];refine aj ⟨jt kl _,ih (j+1) _ vb c (by omega) bS oY (by simp only[fZ,hb,a9,if_false];exact Ft) jB λv' sS qQ zH rW=>?_⟩;exact hR v' sS qQ zH λb o qB vC e=>rW b o qB vC<|eD b o qB e
def aiv(kw:Z (Str×aA))(W:tH prog w A.in1 I fp wr n P St)(bt:Nat->Nat->Bool)(iU:CmpOf prog w A.in1 .Gt P bt)(S:aF)(nM:S∉fp)(hn:0<n){s:aB}{c:Nat}(gQ:St 0 s.heap)
  (hS:s.heap.get? S=some {cls:=.type "list",dict:=none,data:=.seq #[] c,slots:=#[]})
  (hR:∀v h' tk,P (fZ bt<|n-1) v->(∀b o,b∉wr->b≠S->s.heap.get? b=some o->h'.get? b=some o)->R (.ok<|.ret v) {s with heap:=h',toks:=tk}) :
  cL (aH prog w) A (.builtin "max.loop" ⟨[.ref I,.none,.ref S],kw⟩) R s:=by
 have A5:S∉wr:=λh=>nM<|W.sub _ h;have nm:(kI "max" ++ kI ".loop" : String)="max.loop":=by decide
 refine i7 F.entry_max_loop ?_;rw[gt kl _];show aG _ A.in1 (fP (.ref S) >>= _) _ _ s;refine ab<|jc hS rfl ?_;show aG _ A.in1 (vX (bH<|.ref I) _ >>= _) _ _ s;refine ab<|hW<|W.item 0 s _ _ hn gQ λv h' tk hP oY eD=>?_;have jB:=eD S _ A5 hS;show aG _ A.in1 (iP S (λ_=>#[v,v]) >>= _) _ _ _;refine ab<|k5 jB rfl ?_;rw[nm];refine aj ⟨jt kl _,alg kw W bt iU S nM _ 0 _ v _ rfl hn (W.frame _ _ _ oY λb Jj o e=>?_) hP (cp _ jB rfl) λv' sS qQ zH rW=>?_⟩
 .exact(dq _ _ λh:S=b=>nM<|by rw[h];exact Jj).trans e
 .exact hR v' sS qQ zH λb o qB vC e=>rW b o qB vC<|(dq _ _<|Ne.symm vC).trans (eD b o qB e)
end
section
variable{prog:aK}{w:aO}{A:Around}{E:aA->aB->Prop}{s:aB}
theorem ag4{x d:aA}{Q:aA->aB->Prop}
  (h:aG (aH prog w) A.in1 (oA x) (λit s₂=>∃I fp wr n P St bt,it=.ref I/\tH prog w A.in1 I fp wr n P St/\St 0 s₂.heap/\(∀b∈fp,b<s₂.heap.objs.size)/\0<n/\CmpOf prog w A.in1 .Gt P bt/\
   ∀v h' tk,P (fZ bt<|n-1) v->(∀b o,b∉wr->s₂.heap.get? b=some o->h'.get? b=some o)->Q v {s₂ with heap:=h',toks:=tk}) E s) :
  aG (aH prog w) A (call (.builtin "max") [x] [(bw "default",d)]) Q E s:=by
 have nm:(kI "max" ++ kI ".loop" : String)="max.loop":=by decide
 refine As<|xM F.plain_max F.entry_max ?_;simp only[FH,F.kind_max];have go:aG (aH prog w) A.in1 (Builtin.«max» ⟨[x],[(bw "default",d)]⟩) (λfin s'=>match fin with
   | .done f=>(match (Except.ok f:jY)with|.ok (.ret v)=>Q v s'|.ok _=>False|.error e=>E e s')
   | .again c'=>c'.quiet=true/\cL (aH prog w) A c' (λr s'=>match r with|.ok (.ret v)=>Q v s'|.ok _=>False|.error e=>E e s') s') E s:=by
  show aG _ A.in1 (Builtin.Builtins.bindParams "max" ["key","default"] 0 ⟨[],[(bw "default",d)]⟩ >>= _) _ _ s;refine ab<|eW (show Builtin.Builtins.bindParams "max" ["key","default"] 0 ⟨[],[(bw "default",d)]⟩=aR [none,some d]from rfl) ?_;refine ab<|aj ?_;refine ab<|jf h (λit s₂ h₂=>?_) λ_ _ e=>e;obtain⟨I,fp,wr,n,P,St,bt,rfl,W,gQ,wX,hn,iU,hQ⟩:=h₂;refine ab<|cz ?_;have nM:s₂.heap.objs.size∉fp:=λhm=>kb _<|wX _ hm;rw[nm];refine aj ⟨jt kl _,aiv _ W bt iU s₂.heap.objs.size nM hn (W.frame _ _ _ gQ λb _ o e=>ak _ e) (bh _ rfl) λv h' tk hP hk=>?_⟩;exact hQ v h' tk hP λb o qB e=>hk b o qB (da<|bi e)<|ak _ e
 cases HN:Manifest.signature? "max" with
 | none=>exact aj go
 | some sig=>
  have ha':Bind.checkArgs "max" sig ⟨[x],[(bw "default",d)]⟩=aR ():=by have:=alx x d;simpa only [Bp,HN]using this
  simp only[ha'];exact aj go
def am7{l:aF}{d:aA}{vs:Z aA}{ns:Z Int}{Q:aA->aB->Prop}(hh:A.handled=none)(hl:s.heap.IsList l vs.toArray)(hi:gB vs ns)(fI:0<ns.length)
  (h:∀h' M (t:uC) tk,(∀b o,s.heap.get? b=some o->h'.get? b=some o)->M∈ns->(∀a,a∈ns->a<=M)->Q (.int M t) {s with heap:=h',toks:=tk}) :
  aG (aH prog w) A (call (.builtin "max") [.ref l] [(bw "default",d)]) Q E s:=by
 obtain⟨xs,e⟩:=hi.allInts.items;have oH:ns=xs.toList.map (·.1):=by rw[<-hi.numsOf,<-nums_intItems,<-e]
 have hsz:0<xs.size:=by have h3:=fI;rw[oH,ae,a0]at h3;exact h3
 rw[e]at hl;refine ag4<|iter_intList hl λs₂ e st wX hlI=>?_;subst e;refine(lv _ _ _ _ _<|l0 _ _ ⟨rfl,tH.list (A:=A.in1) hh _ l hlI<|wJ xs,st,wX,by simpa [wJ]using hsz,CmpOf.ints_gt (numAt xs) λ_ _=>wI,λv h' tk hP hk=>?_⟩);have hv:(wJ xs)[fZ (λi j=>decide<|numAt xs i>numAt xs j) (xs.size-1)]?=some v:=by simpa [wJ]using hP
 obtain⟨t,rfl⟩:=wI hv;obtain⟨h1,h2⟩:=argBest_gt (numAt xs)<|xs.size-1;refine h _ _ t tk (old_kept hk) ?_ λa ha=>?_
 .rw[oH,wG];exact getD_mem<|by rw[ae,a0];omega
 .rw[oH]at ha;obtain⟨j,hj,rfl⟩:=mem_getD ha;rw[ae,a0]at hj;rw[<-wG];exact h2 j<|by omega
end
end L3
namespace L3
open PySem PySem.Spec PyProof.Rows L2
section
variable{X:Cx}{x:Str}{p pos rC:dQ}{e e2:Expr}{es:Z Expr}{t tk:TA}{te:TE}
def azw:Z V->Hp->VK->Prop:=λxs H Q=>∃q,∃ns:Z Int,xs=[.ref q]/\H q=some (.lst<|ns.map V.int)/\0<ns.length/\∀M,M∈ns->(∀a∈ns,a<=M)->Q (.int M) H
def awv(t tk:TA):TE:=λσ H Q=>t σ H λvs H1=>tk σ H1 λzs H2=>zs.length=1/\azw vs H2 Q
theorem ali(hc:X.calm=true)(hg:Gl X "max")(hm:X.mg "max" = none)(ha:PA X [e] t)(hkw:PK X [⟨some "default",e2,rC⟩] tk)
  (he:cV pos (aU [e] X.env)=(false,bX e X.env)::cV pos (aU [] X.env):=by rfl) (iE:(cV pos<|aU [e] X.env).any (·.1)=false:=by rfl) :
  PE X (.Call (.Name "max" p) [e] [⟨some "default",e2,rC⟩] pos) (awv t tk):=by
 intro aE s σ H Q I h;refine iz (uz I hg hm boot_max ?_ (by decide)<|by decide);refine callWith_kw (thn (ha pos aE s σ H _ I h) λus s1 ⟨vs,H1,I1,r,q⟩=>thn (hkw pos aE s1 σ H1 _ I1 q) λws s2 ⟨zs,H2,I2,rz,HB,q2⟩=>?_) he iE;obtain⟨d,rfl⟩:∃d,ws=[d]:=by
  have hl:ws.length=1:=rz.length.symm.trans HB
  match ws,hl with
  | [d],_=>exact⟨d,rfl⟩
 obtain⟨l,ns,rfl,hq,hn,hQ⟩:=q2;obtain⟨u,rfl,r1⟩:=va r;cases (show u=aA.ref l from r1);obtain⟨its,rv,pl,hz⟩:=I2.list<|SqL.of (K:=X.K) hq;exact am7 (I2.ok.hd hc) pl.isList (act rv) hn λh' M t tk k h1 h2=>(l0 (.int M) H2 ⟨I2.kept k,⟨_,rfl⟩,hQ M h1 h2⟩)
end
noncomputable def xy:Z Int->Int
 | []=>0
 | [a]=>a
 | a::b::r=>if xy (b::r)<=a then a else xy (b::r)
theorem xx:∀{ns:Z Int},0<ns.length->xy ns∈ns
 | [],h=>by simp at h
 | [a],_=>by simp[xy]
 | a::b::r,_=>by
  unfold xy;split
  .exact aq
  .exact av _<|xx<|by simp
theorem Eo:∀{ns:Z Int},∀a∈ns,a<=xy ns
 | [],a,h=>by cases h
 | [a],b,h=>by
  have e:b=a:=by simpa using h
  rw[e];exact jm _
 | a::b::r,x,h=>by
  unfold xy;rcases a7.mp h with e|h
  .rw[e];split
   .exact jm _
   .lia
  .have:=Eo (ns:=b::r) x h;split
   .lia
   .exact this
def LA{ns:Z Int}{M:Int}(h1:M∈ns)(h2:∀a∈ns,a<=M):M=xy ns:=by have hp:0<ns.length:=List.length_pos_of_mem h1;have a1:=h2 _<|xx hp;have a2:=Eo M h1;lia
noncomputable def Bi(m:Int):U->U
 | .tuple [.int r,.int c,.str x]=>.tuple [.int r,.int<|m-c,.str x]
 | d=>d
noncomputable def Bh(m:Int):U->U
 | .tuple [.int r,.int c,.str x]=>.tuple [.int c,.int<|m-r,.str x]
 | d=>d
noncomputable def lR(ds:Z U):Z U:=ds.map<|Bi<|xy<|ds.map uh
noncomputable def mO(ds:Z U):Z U:=ds.map<|Bh<|xy<|ds.map sy
noncomputable def xu(t:Nat)(ds:Z U):Z U:=(e8<|t % 4).foldl (λa _=>mO a) (if 4<=t then lR ds else ds)
def ajx{ds:Z U}(h:Spots ds)(m:Int):Spots (ds.map<|Bi m):=λd hd=>by obtain⟨e,he,rfl⟩:=ay.mp hd;obtain⟨r,c,x,rfl⟩:=h e he;exact(m9 _ _ _ rfl)
def ak7{ds:Z U}(h:Spots ds)(m:Int):Spots (ds.map<|Bh m):=λd hd=>by obtain⟨e,he,rfl⟩:=ay.mp hd;obtain⟨r,c,x,rfl⟩:=h e he;exact(m9 _ _ _ rfl)
def wo{ds:Z U}(h:Spots ds):Rows [true,false] ds:=λd hd=>by obtain⟨r,c,x,rfl⟩:=h d hd;exact(nj _ rfl _ _ ⟨rfl,(l0 _ _ ⟨rfl,(l0 _ _ ⟨rfl,rfl⟩)⟩)⟩)
section
variable{K:ax}{a:aF}{xs:Z V}{ds:Z U}{σ:L2.St}{H:Hp}{Q:VK}
def acr{i0:Nat}(j:Int)(pr:U->Int)(hj:∀(r c:Int)(x:Str),atI [V.int r,.int c,.str x] j=some (.int<|pr<|.tuple [.int r,.int c,.str x]))
  (hσ:σ[i0]?=some (some<|.ref a)) (ha:H a=some (.lst xs)) (hr:RepAll H ds xs) (hs:Spots ds) (hl:ds.length<=64)
  (q:∀D H',Same H H'->H' D=some (.lst<|(ds.map pr).map V.int)->Q (.ref D) H') :
  xS (KO K<|mN i0) [none] (uf 0) jN (tOp (Ky K) (mN 0)<|tC<|.int j) σ H Q:=by
 have aZ:=hr.length;refine(ny _ hσ a ⟨rfl,⟨_,SqL.of ha⟩,λD hD=>?_⟩);refine o8 (xs:=xs) (λi ys H'=>Same H H'/\ys=((ds.take i).map pr).map V.int) ⟨Same.fresh _ hD,rfl⟩ (λi ys H' p=>SqL.of<|p.1 _ _ ha) (λi x ys H' hx hi bD gO p=>?_) λys H' bD gO p=>?_
 .obtain⟨p1,rfl⟩:=p;obtain⟨b,r,c,z,rfl,hb,hz,hd⟩:=hs.at hr hx;refine⟨Agree.set (Agree.refl _) rfl,?_⟩;dsimp only[jN];refine ux ?_;refine(lj _ rfl b _ _ _ ⟨rfl,rfl,SqT.of<|p1 _ _ hb,hj r c z,qm (by lia) bD gO ⟨p1.new hD,?_⟩⟩);rw[mq pr hd,b9];rfl
 .obtain⟨p1,rfl⟩:=p;refine q D H' p1 ?_;rw[bD,aw<|by lia]
def atn(r c:Int)(x:Str):atI [V.int r,.int c,.str x] 0=some (.int<|sy<|.tuple [.int r,.int c,.str x]):=rfl
def av2(r c:Int)(x:Str):atI [V.int r,.int c,.str x] 1=some (.int<|uh<|.tuple [.int r,.int c,.str x]):=rfl
def afu{m:Int}{i0 j:Nat}{ta tb:TE}(f:Int->U->U)(hσ:σ[i0]?=some (some<|.ref a))(h1:σ[j]?=some (some<|.int m))(ha:H a=some (.lst xs))(hr:RepAll H ds xs)(hs:Spots ds)(hl:ds.length<=64)
  (mG:∀(r c:Int)(z:Str)(H':Hp)(Q':VK),(∃u v:Int,f m (.tuple [.int r,.int c,.str z])=.tuple [.int u,.int v,.str z]/\∀n,H' n=none->Q' (.ref n) (upd H' n<|.tup [.int u,.int v,.str z]))->
   DI (xg ta<|xg tb<|xg (mN 2) Bl) [some (.int r),some<|.int c,some<|.str z,some<|.int m] H' Q')
  (q:∀D ys H',H D=none->Same H H'->H' D=some (.lst ys)->RepAll H' (ds.map<|f m) ys->Q (.ref D) H')
  (gZ:∀(r c:Int)(z:Str),∃u v:Int,f m (.tuple [.int r,.int c,.str z])=.tuple [.int u,.int v,.str z]) :
  xS (KO K<|mN i0) [none,none,none,some j] (DH K 3<|uA (uf 0)<|uA (uf 1)<|uA (uf 2) FM) jN (DI<|xg ta<|xg tb<|xg (mN 2) Bl) σ H Q:=by
 have aZ:=hr.length;refine(ny _ hσ a ⟨rfl,⟨_,SqL.of ha⟩,λD hD=>?_⟩);have hp:su [none,none,none,some j] σ=[none,none,none,some<|.int m]:=by unfold su;simp[h1]
 have im:∀es:Z U,(∀d∈es,d∈ds)->Spots (es.map<|f m):=λes he d hd=>by obtain⟨d0,h0,rfl⟩:=ay.mp hd;obtain⟨r0,c0,x0,rfl⟩:=hs d0<|he d0 h0;obtain⟨u,v,e⟩:=gZ r0 c0 x0;exact(m9 u v x0 e)
 refine o8 (xs:=xs) (λi ys H'=>Same H H'/\RepAll H' ((ds.take i).map (f m)) ys) ⟨Same.fresh _ hD,rfl⟩ (λi ys H' p=>SqL.of<|p.1 _ _ ha) (λi x ys H' hx hi bD gO p=>?_) λys H' bD gO p=>?_
 .obtain⟨p1,p2⟩:=p;obtain⟨b,r,c,z,rfl,hb,hz,hd⟩:=hs.at hr hx;rw[hp];refine(l7 b _ rfl (SqT.of<|p1 _ _ hb) rfl _ _ rfl _<|nj _ rfl _ _ ⟨rfl,rfl,?_⟩);refine⟨Agree.set (Agree.set (Agree.set (Agree.refl _) rfl) rfl) rfl,?_⟩;dsimp only[jN];refine ux ?_;obtain⟨u,v,ef⟩:=gZ r c z;refine mG r c z H' _<|l0 u v ⟨ef,λn hn=>?_⟩;have s2:Same H' (upd H' n<|.tup [.int u,.int v,.str z]):=Same.fresh _ hn;have n2:upd H' n (.tup [.int u,.int v,.str z]) n=some (.tup [.int u,.int v,.str z]):=lr;generalize upd H' n (.tup [.int u,.int v,.str z])=H2 at *;have eG:=s2 _ _ bD;refine qm (by lia) eG gO ⟨(p1.trans s2).new hD,?_⟩;have rep:RepAll H2 ((ds.take i).map (f m)++[f m (.tuple [.int r,.int c,.str z])]) (ys++[.ref n]):=by
   rw[ef];exact(p2.same s2).snoc (x5 n2 hz)
  rw[<-mq (f m) hd]at rep;exact rep.tk (Tk.lst eG)<|Spots.imm<|im _ λd vB=>ca vB
 .obtain⟨p1,p2⟩:=p;rw[aw (by lia)]at p2;exact q D ys H' hD p1 bD p2
end
end L3
namespace L3
open PySem PySem.W PySem.Calls PyProof.Rows
def alu{vs:Z aA}{p:aI}(h:p∈(vs.toArray.zip vs.toArray).toList):p.1=p.2/\p.1∈vs:=mem_zip_self<|by simpa using h
def ao2{vs:Z aA}{arr:Array aI}(h:arr.Perm (vs.toArray.zip vs.toArray)):(arr.map (·.2)).toList.Perm vs:=by
 have h1:=(jn.mp h).map (·.2);have e:(vs.toArray.zip vs.toArray).toList.map (·.2)=vs:=by rw[show(vs.toArray.zip vs.toArray).toList=vs.zip vs by simp];exact List.map_snd_zip<|ao _
 rw[e]at h1;rw[Array.toList_map];exact h1
def auc{g:aA->Int}{vs:Z aA}{arr:Array aI}(h:arr.Perm (vs.toArray.zip vs.toArray))(hs:Seg (λp=>g p.1) arr 0 (vs.toArray.zip vs.toArray).size):(arr.map (·.2)).toList.Pairwise λx y=>g x<=g y:=by
 have hsz:=h.size_eq;rw[Array.toList_map,gi];refine fq.mpr λi j hi hj cN=>?_;have dO:i<arr.size:=by simpa using hi
 have rX:j<arr.size:=by simpa using hj
 have q:=hs i j (f8 _) (by lia) (by lia);rw[vy (getElem?_pos arr i dO),vy<|getElem?_pos arr j rX]at q;have two:∀k (hk:k<arr.size),arr[k].1=arr[k].2:=λk hk=>(alu<|(jn.mp h).mem_iff.mp (by simp)).1;rw[two i dO,two j rX]at q;simpa using q
section
variable{prog:aK}{w:aO}{A:Around}{E:aA->aB->Prop}{s:aB}
def acv{a:aF}{vs:Z aA}{n:Nat}{κ:aW}{g:aA->Int}{P:PySem.Fin->aB->Prop}(ho:s.heap.get? a=some (dE "list" vs.toArray n))(hz:vs.length<=aC)
  (hk:2<=vs.length->∀s':aB,(∀b o,b≠a->s.heap.get? b=some o->s'.heap.get? b=some o)->
   (∀(Q:aW->aB->Prop)(E:aA->aB->Prop),Q κ s'->aG (aH prog w) A (kK vs.toArray) Q E s')/\
   ∀x y,x∈vs->y∈vs->∀(Q:Bool->aB->Prop),Q (decide<|g x<g y) s'->aG (aH prog w) A (lK κ x y) Q (λ_ _=>False) s')
  (h:∀us:Z aA,us.Perm vs->us.Pairwise (λx y=>g x<=g y)->P (.done<|.ret .none) {s with heap:=sortedHeap s.heap a vs us.toArray}) :
  aG (aH prog w) A (Builtin.«list.sort» ⟨[.ref a],[]⟩) P E s:=by
 have ha:a<s.heap.objs.size:=bi ho;obtain⟨e1,AO⟩:∃e1,(s.heap.update a<|jo λ_=>(#[]:Array aA)).get? a=some (dE "list" #[] e1):=⟨_,get?_update_seq ho λ_=>#[]⟩;have E7:(((s.heap.update a<|jo λ_=>(#[]:Array aA)).push (dE "tuple" vs.toArray 0)).push (dE "list" #[] 0)).get? a=some (dE "list" #[] e1):=
  ak _ (ak _ AO)
 have kept:∀b o,b≠a->s.heap.get? b=some o->(((s.heap.update a<|jo λ_=>(#[]:Array aA)).push (dE "tuple" vs.toArray 0)).push (dE "list" #[] 0)).get? b=some o:=λb o hb e=>
  ak _ (ak _<|(dq s.heap _<|Ne.symm hb).trans e)
 rw[list_sort_plain];refine ab<|listItems_at ho rfl ?_;refine ab<|pU ho rfl ?_ (by rw[bj];exact hz)<|f8 _;refine ab<|wD AO rfl ?_;refine ab (wpAny_newTuple ?_<|by show vs.length<=_;exact hz);refine ab<|pN ?_<|f8 _;refine gm ?_;show aG (aH prog w) A _ P E {s with heap:=((s.heap.update a<|jo λ_=>(#[]:Array aA)).push (dE "tuple" vs.toArray 0)).push (dE "list" #[] 0)};dsimp only;have aY:∀(aQ:aN),(aJ aQ).Perm (vs.toArray.zip vs.toArray)->bO aQ=none->Seg (λp=>g p.1) (aJ aQ) 0 (vs.toArray.zip vs.toArray).size->∃us:Z aA,us.Perm vs/\us.Pairwise (λx y=>g x<=g y)/\(aJ aQ).map (·.2)=us.toArray:=λaQ hp hf hs=>
  ⟨_,ao2 hp,auc hp hs,Array.toArray_toList.symm⟩
 by_cases h2:vs.toArray.size<2
 .have fU:vs.length<2:=by simpa using h2
  rw[if_pos h2,if_pos h2];refine ab<|aj ?_;rw[StateT.run_pure];refine ab<|aj ?_;dsimp only;obtain⟨us,u1,u2,e0⟩:=aY (aN.mk' general' (vs.toArray.zip vs.toArray) #[] 7 none) (Array.Perm.refl _) rfl (λi j hi cN hj=>by
   have AF:(vs.toArray.zip vs.toArray).size=vs.length:=by simp
   obtain rfl:i=j:=by lia
   exact jm _)
  have AJ:=u1.length_eq;rw[e0];refine ab<|wD E7 rfl ?_;refine ab (pU E7 rfl ?_ (f8 _)<|by rw[bj,AJ];exact Nat.le_succ_of_le hz);simp only[bne_self_eq_false,a9,if_false];exact aj<|h us u1 u2
 .have fU:2<=vs.length:=by have:¬vs.length<2:=by simpa using h2
                           lia
  rw[if_neg h2,if_neg h2];obtain⟨k1,k2⟩:=hk fU {s with heap:=((s.heap.update a<|jo λ_=>(#[]:Array aA)).push (dE "tuple" vs.toArray 0)).push (dE "list" #[] 0)} kept;refine ab<|k1 _ _ ?_;refine ab (jf (agq (E:=E) (κ:=κ) (a₀:=vs.toArray.zip vs.toArray) (f:=λp=>g p.1) (mem:=λp=>p.1∈vs) (Q:=λ_ aQ=>∃us:Z aA,us.Perm vs/\us.Pairwise (λx y=>g x<=g y)/\(aJ aQ).map (·.2)=us.toArray/\bO aQ=none)
   (λx y hx hy Q hq=>k2 x.1 y.1 hx hy Q hq) (λx hx=>(alu hx).2) ⟨Array.Perm.refl _,rfl,rfl⟩ rfl (λaQ B hs=>?_)) ?_ λ_ _ e=>e)
  .obtain⟨us,u1,u2,e0⟩:=aY aQ B.perm B.failed hs;exact⟨us,u1,u2,e0,B.failed⟩
  .rintro⟨⟨⟩,aQ⟩ s' ⟨rfl,us,u1,u2,hout,hf⟩;have AJ:=u1.length_eq;dsimp only at hout hf⊢;rw[hout];refine ab<|wD E7 rfl ?_;refine ab (pU E7 rfl ?_ (f8 _)<|by rw[bj,AJ];exact Nat.le_succ_of_le hz);rw[hf];simp only[bne_self_eq_false,a9,if_false];exact aj<|h us u1 u2
end
end L3
namespace L3
open PySem PySem.Spec PyProof.Rows L2
theorem akw{α β:Type}(g:α->β){us vs:List β}(p:us.Perm vs):∀{l:List α},l.map g=vs->∃l':List α,l'.Perm l/\l'.map g=us:=by
 induction p with
 | nil=>intro l e;exact⟨l,jw _,e⟩
 | cons x p ih=>
  intro l e
  match l,e with
  | a::l,e=>
   rw[eu]at e;obtain⟨e1,e2⟩:=List.cons.inj e;obtain⟨l',p1,e3⟩:=ih e2;exact⟨a::l',p1.cons a,by rw[eu,e1,e3]⟩
 | swap x y r=>
  intro l e
  match l,e with
  | a::b::l,e=>
   rw[eu,eu]at e;obtain⟨e1,e'⟩:=List.cons.inj e;obtain⟨e2,e3⟩:=List.cons.inj e';exact⟨b::a::l,List.Perm.swap _ _ _,by rw[eu,eu,e1,e2,e3]⟩
 | trans p q ih1 ih2=>
  intro l e;obtain⟨l1,p1,e1⟩:=ih2 e;obtain⟨l2,p2,e2⟩:=ih1 e1;exact⟨l2,p2.trans p1,e2⟩
theorem abq{α:Type}{p q:α->Bool}:∀{l:List α},(∀e∈l,p e=true->q e=true)->(∃e∈l,q e=true/\p e=false)->l.countP p<l.countP q
 | [],_,⟨e,he,_⟩=>by simp at he
 | a::l,h,⟨e,he,h1,h2⟩=>by
  have hl:∀e∈l,p e=true->q e=true:=λe he=>h e<|av _ he;have mono:l.countP p<=l.countP q:=List.countP_mono_left hl;rcases a7.mp he with rfl|he
  .rw[List.countP_cons_of_neg (by simp[h2]),List.countP_cons_of_pos h1];lia
  .have ih:=abq hl ⟨e,he,h1,h2⟩;cases hp:p a with
   | true=>rw[List.countP_cons_of_pos hp,List.countP_cons_of_pos<|h a aq hp];lia
   | false=>
    rw[List.countP_cons_of_neg (by simp[hp])];have:=List.countP_le_length (p:=q) (l:=l);cases hq:q a with
    | true=>rw[List.countP_cons_of_pos hq];lia
    | false=>rw[List.countP_cons_of_neg (by simp[hq])];exact ih
structure vM(lt:U->U->Bool)(ds:Z U):Prop where
 asy:∀x∈ds,∀y∈ds,lt x y=true->lt y x=false
 tr:∀x∈ds,∀y∈ds,∀z∈ds,lt y x=false->lt z y=false->lt z x=false
noncomputable def Bt(lt:U->U->Bool)(ds:Z U)(d:U):Int:=((ds.countP λe=>lt e d:Nat):Int)
theorem ak9{lt:U->U->Bool}{ds:Z U}(o:vM lt ds){d e:U}(hd:d∈ds)(he:e∈ds):decide (Bt lt ds d<Bt lt ds e)=lt d e:=by
 have irr:∀x∈ds,lt x x=false:=λx hx=>by
  cases q:lt x x with
  | false=>rfl
  | true=>have:=o.asy x hx x hx q;rw[q]at this;exact this
 unfold Bt;cases h:lt d e with
 | true=>
  refine decide_eq_true ?_;have:=abq (p:=λz=>lt z d) (q:=λz=>lt z e) (l:=ds) (λz hz h1=>?_) ⟨d,hd,h,irr d hd⟩
  .lia
  .show lt z e=true;cases q:lt z e with
   | true=>rfl
   | false=>rw[o.tr d hd e he z hz (o.asy d hd e he h) q]at h1;exact h1
 | false=>
  refine decide_eq_false ?_;have:=List.countP_mono_left (p:=λz=>lt z e) (q:=λz=>lt z d) (l:=ds) λz hz h1=>?_
  .lia
  .show lt z d=true;cases q:lt z d with
   | true=>rfl
   | false=>rw[o.tr e he d hd z hz h q]at h1;exact h1
open Classical in
def ajw{h:Heap}{lt:U->U->Bool}{os:Z aA}{bT:Z U}(hl:os.length=bT.length)(rd:∀(i:Nat)(v:aA)(d:U),os[i]?=some v->bT[i]?=some d->d.canLay0=true/\∃as,Reads h v d as)(o:vM lt bT) :
  ∃g:aA->Int,(∀(i j:Nat)(u v:aA)(d e:U),os[i]?=some u->bT[i]?=some d->os[j]?=some v->bT[j]?=some e->decide (g u<g v)=lt d e)/\
   ∀us:Z aA,us.Perm os->us.Pairwise (λx y=>g x<=g y)->∃T:Z (U×aA),T.map (·.2)=us/\(T.map (·.1)).Perm bT/\(T.map (·.1)).Pairwise (λx y=>lt y x=false)/\∀t∈T,∃i:Nat,bT[i]?=some t.1/\os[i]?=some t.2:=by
 obtain⟨g,hg⟩:∃g:aA->Int,∀(i:Nat)(d:U)(u:aA),bT[i]?=some d->os[i]?=some u->g u=Bt lt bT d:=by refine⟨λu=>if h:∃d,∃as,Reads h u d as/\d∈bT then Bt lt bT h.choose else 0,λi d u h1 h2=>?_⟩;obtain⟨lay,as,r⟩:=rd i u d h2 h1;have hx:∃d,∃as,Reads h u d as/\d∈bT:=(l0 d as ⟨r,ai h1⟩);show(if h:∃d,∃as,Reads h u d as/\d∈bT then Bt lt bT h.choose else 0)=_;rw[dif_pos hx];obtain⟨bs,rb,_⟩:=hx.choose_spec;rw[SeqAt.Reads.unique d hx.choose u as bs lay r rb]
 refine⟨g,λi j u v d e u1 d1 v1 e1=>?_,λus p up=>?_⟩
 .rw[hg i d u d1 u1,hg j e v e1 v1];exact ak9 o (ai d1)<|ai e1
 .have yC:(bT.zip os).map (λt=>t.2)=os:=List.map_snd_zip (by lia);have first:(bT.zip os).map (λt=>t.1)=bT:=List.map_fst_zip<|by lia
  obtain⟨T,tp,te⟩:=akw (λt:U×aA=>t.2) p yC;have tm:∀t∈T,∃i:Nat,bT[i]?=some t.1/\os[i]?=some t.2:=λt ht=>by obtain⟨i,hi⟩:=fk.mp<|tp.mem_iff.mp ht;obtain⟨a1,a2⟩:=List.getElem?_zip_eq_some.mp hi;exact⟨i,a1,a2⟩
  refine⟨T,te,?_,?_,tm⟩
  .have:=tp.map λt=>t.1;rw[first]at this;exact this
  .rw[gi];rw[<-te,gi]at up;refine gu (λ{a b} ha hb lD=>?_) up;obtain⟨i,a1,a3⟩:=tm a ha;obtain⟨j,b1,b3⟩:=tm b hb;rw[hg i _ _ a1 a3,hg j _ _ b1 b3]at lD;rw[<-ak9 o (ai b1) (ai a1)];exact decide_eq_false<|by lia
section
variable{prog:aK}{w:aO}{A:Around}{E:aA->aB->Prop}{s:aB}
def aiy{v:aA}{κ:aW}{Q:aA->aB->Prop}{P:Z aA->Z U->Prop}(hP:∀os bT,P os bT->os.length<=aC)
  (nL:∀(Q:Z aA->aB->Prop)(E:aA->aB->Prop),(∀os bT h1 tk dr,P os bT->(∀b o,s.heap.get? b=some o->h1.get? b=some o)->Q os {s with heap:=h1,toks:=tk,drawn:=dr})->aG (aH prog w) A.in1 (kR v) Q E s)
  (h:∀os bT,P os bT->∃g:aA->Int,(2<=os.length->∀s':aB,(∀b o,s.heap.get? b=some o->s'.heap.get? b=some o)->
   (∀(Q:aW->aB->Prop)(E:aA->aB->Prop),Q κ s'->aG (aH prog w) A.in1.in1 (kK os.toArray) Q E s')/\
   ∀x y,x∈os->y∈os->∀(Q:Bool->aB->Prop),Q (decide<|g x<g y) s'->aG (aH prog w) A.in1.in1 (lK κ x y) Q (λ_ _=>False) s')/\
   ∀(us:Z aA)(h1 h2:Heap)(tk:Nat) dr e,us.Perm os->us.Pairwise (λx y=>g x<=g y)->(∀b o,s.heap.get? b=some o->h1.get? b=some o)->(∀b o,h1.get? b=some o->h2.get? b=some o)->h2.get? h1.objs.size=some (dE "list" us.toArray e)->Q (.ref h1.objs.size) {s with heap:=h2,toks:=tk,drawn:=dr}) :
  aG (aH prog w) A (call (.builtin "sorted") [v]) Q E s:=by
 refine Calls.call_function_entry kind_sorted plain_sorted entry_sorted (args_sorted1 _) ?_;unfold Builtin.«sorted»;refine ab (m:=checkCount "sorted" 1 1 _)<|aj<|ab<|nL _ _ λos bT h1 tk dr hp k1=>?_;obtain⟨g,hk,h⟩:=h os bT hp;have rP:=hP os bT hp;refine ab<|pN ?_ rP;have CI:(h1.push<|dE "list" os.toArray 0).get? h1.objs.size=some (dE "list" os.toArray 0):=bh _ rfl;have keep:∀b o,h1.get? b=some o->(h1.push<|dE "list" os.toArray 0).get? b=some o:=λb o q=>ak _ q;refine(?_:aG _ _ _ _ _ {s with heap:=h1.push<|dE "list" os.toArray 0,toks:=tk,drawn:=dr});refine ab<|gm<|dz slot_list_sort ⟨_,CI,rfl⟩ entry_list_sort ?body<|args_list_sort _
 case body=>
  refine acv (κ:=κ) (g:=g) CI rP (λh2 s' k=>hk h2 s' λb o e=>k b o (da<|bi<|k1 b o e)<|keep b o<|k1 b o e) λus u1 u2=>?_;obtain⟨e,he⟩:=sortedHeap_at (out:=us.toArray) CI;refine⟨_,rfl,aj ⟨_,rfl,h us h1 _ tk dr e u1 u2 k1 (λb ob q=>?_) he⟩⟩;exact(sortedHeap_old (da<|bi q)<|by rw[size_push'];exact Nat.lt_succ_of_lt<|bi q).trans (keep b ob q)
end
section
variable{X:Cx}{aE:Z (aF×Obj)}{σ:L2.St}{H:Hp}{s:aB}{A:Around}{E:aA->aB->Prop}
theorem afi(I:L2.Inv X aE σ H s){v:aA}{ds:Z U}{κ:aW}{lt:U->U->Bool}{Q:VK}{P:Z aA->Z U->Prop}
  (hP:∀os bT,P os bT->os.length<=aC/\os.length=bT.length/\bT.Perm ds/\∀(i:Nat) u d,os[i]?=some u->bT[i]?=some d->∃x,RelV x u/\Rep H d x)
  (nL:∀(Q:Z aA->aB->Prop)(E:aA->aB->Prop),(∀os bT h1 tk dr,P os bT->(∀b o,s.heap.get? b=some o->h1.get? b=some o)->Q os {s with heap:=h1,toks:=tk,drawn:=dr})->aG (aH X.prog X.w) A.in1 (kR v) Q E s)
  (o:vM lt ds)
  (hk:∀os bT,P os bT->2<=os.length->∀s':aB,(∀b o,s.heap.get? b=some o->s'.heap.get? b=some o)->∀(Q:aW->aB->Prop)(E:aA->aB->Prop),Q κ s'->aG (aH X.prog X.w) A.in1.in1 (kK os.toArray) Q E s')
  (hc:∀os bT,P os bT->∀s':aB,(∀b o,s.heap.get? b=some o->s'.heap.get? b=some o)->∀(i j:Nat)(d e:U)(u v:aA),os[i]?=some u->bT[i]?=some d->os[j]?=some v->bT[j]?=some e->∀(Q:Bool->aB->Prop),Q (lt d e) s'->aG (aH X.prog X.w) A.in1.in1 (lK κ u v) Q (λ_ _=>False) s')
  (q:∀l ys es,H l=none->es.Perm ds->es.Pairwise (λx y=>lt y x=false)->RepAll (upd H l<|.lst ys) es ys->Q (.ref l) (upd H l<|.lst ys)) :
  aG (aH X.prog X.w) A (call (.builtin "sorted") [v]) (EP X aE σ Q) E s:=by
 refine aiy (κ:=κ) (λos bT h=>(hP os bT h).1) nL λos bT hp=>?_;obtain⟨hz,rP,pd,jU⟩:=hP os bT hp;have sub:∀d∈bT,d∈ds:=λd hd=>pd.mem_iff.mp hd;obtain⟨g,g1,g2⟩:=ajw (h:=s.heap) rP (λi v d h1 h2=>by obtain⟨x,e1,e2⟩:=jU i v d h1 h2;exact⟨e2.lay,e2.reads I e1⟩) (lt:=lt) ⟨λx hx y hy=>o.asy x (sub x hx) y<|sub y hy,λx hx y hy z hz=>o.tr x (sub x hx) y (sub y hy) z<|sub z hz⟩
 refine⟨g,λh2 s' k=>⟨hk os bT hp h2 s' k,λx y hx hy Q' hq=>?_⟩,λus h1 h2 tk dr e u1 u2 Cn Cm hg3=>?_⟩
 .obtain⟨i,hi⟩:=fk.mp hx;obtain⟨j,hj⟩:=fk.mp hy;have di:=ah (show i<bT.length by have:=(af.mp hi).1;lia);have dj:=ah (show j<bT.length by have:=(af.mp hj).1;lia);rw[g1 i j x y _ _ hi di hj dj]at hq;exact hc os bT hp s' k i j _ _ x y hi di hj dj Q' hq
 .obtain⟨T,te,tp,tu,tm⟩:=g2 us u1 u2;have tr:∀t∈T,∃x,RelV x t.2/\Rep H t.1 x:=λt ht=>by
   obtain⟨i,a1,a2⟩:=tm t ht;exact jU i _ _ a2 a1
  have htl:=(tp.trans pd).length_eq;have iE:=pd.length_eq;obtain⟨zs,v1,v2⟩:∃zs,Vals zs us/\RepAll H (T.map (·.1)) zs:=by
   rw[<-te];clear te tp tu tm htl;induction T with
   | nil=>exact⟨[],.nil,rfl⟩
   | cons t T ih=>
    obtain⟨x,x1,x2⟩:=tr t aq;obtain⟨ys,y1,y2⟩:=ih λt ht=>tr t<|av _ ht;exact(nj (x::ys) (.cons x1 y1) x ys ⟨rfl,x2,y2⟩)
  have I0:L2.Inv X aE σ H {s with drawn:=dr}:=⟨I.ok,I.os,I.bare,I.base,I.loc,I.cell,I.free,I.freeC,I.pin,I.hok,I.len⟩;have I3:L2.Inv X aE σ H {s with heap:=h1,toks:=tk,drawn:=dr}:=I0.kept Cn;have hn:H h1.objs.size=none:=I3.hok.fresh<|ao _;have gO:=v2.length;exact(l0 (.ref h1.objs.size) _ ⟨I3.laid (t':=tk) (o:=.lst zs) Cm (ao _) ⟨by lia,(l0 _ e ⟨v1,hg3⟩)⟩,rfl,q _ zs (T.map (·.1)) hn (tp.trans pd) tu<|v2.same λb o q=>by rw[nu (qv q hn)];exact q⟩)
def aqm{ds:Z U}{ys:Z V}{its:Z aA}(cY:RepAll H ds ys)(rv:Vals ys its)(i:Nat)(u:aA)(d:U)(h1:its[i]?=some u)(h2:ds[i]?=some d):∃x,RelV x u/\Rep H d x:=by obtain⟨x,e1,e2⟩:=cY.get h2;obtain⟨u',e3,e4⟩:=rv.get e1;rw[h1]at e3;cases e3;exact⟨x,e4,e2⟩
def zt(I:L2.Inv X aE σ H s){v:aA}{ds:Z U}{ys:Z V}{its:Z aA}{κ:aW}{lt:U->U->Bool}{Q:VK}(cY:RepAll H ds ys)(rv:Vals ys its)(hz:ys.length<=aC)
  (nL:∀(Q:Z aA->aB->Prop)(E:aA->aB->Prop),(∀h1 tk,(∀b o,s.heap.get? b=some o->h1.get? b=some o)->Q its {s with heap:=h1,toks:=tk})->aG (aH X.prog X.w) A.in1 (kR v) Q E s)
  (o:vM lt ds)
  (hk:2<=its.length->∀s':aB,(∀b o,s.heap.get? b=some o->s'.heap.get? b=some o)->∀(Q:aW->aB->Prop)(E:aA->aB->Prop),Q κ s'->aG (aH X.prog X.w) A.in1.in1 (kK its.toArray) Q E s')
  (hc:∀s':aB,(∀b o,s.heap.get? b=some o->s'.heap.get? b=some o)->∀(i j:Nat)(d e:U)(u v:aA),its[i]?=some u->ds[i]?=some d->its[j]?=some v->ds[j]?=some e->∀(Q:Bool->aB->Prop),Q (lt d e) s'->aG (aH X.prog X.w) A.in1.in1 (lK κ u v) Q (λ_ _=>False) s')
  (q:∀l ys es,H l=none->es.Perm ds->es.Pairwise (λx y=>lt y x=false)->RepAll (upd H l<|.lst ys) es ys->Q (.ref l) (upd H l<|.lst ys)) :
  aG (aH X.prog X.w) A (call (.builtin "sorted") [v]) (EP X aE σ Q) E s:=by
 have l1:ys.length=ds.length:=cY.length;have l2:ys.length=its.length:=rv.length;refine afi (κ:=κ) (P:=λos bT=>os=its/\bT=ds) I ?_ (λQ E h=>nL Q E λh1 tk k=>h its ds h1 tk s.drawn ⟨rfl,rfl⟩ k) o ?_ ?_ q
 .rintro _ _ ⟨rfl,rfl⟩;exact⟨by lia,by lia,.refl _,aqm cY rv⟩
 .rintro _ _ ⟨rfl,rfl⟩;exact hk
 .rintro _ _ ⟨rfl,rfl⟩;exact hc
def Lz{p:aF}{its:Z aA}(pl:s.heap.IsList p its.toArray)(hz:its.length<=aC)(Q:Z aA->aB->Prop)(E:aA->aB->Prop)(h:∀h1 tk,(∀b o,s.heap.get? b=some o->h1.get? b=some o)->Q its {s with heap:=h1,toks:=tk}):aG (aH X.prog X.w) A.in1 (kR<|.ref p) Q E s:=
 collect_list pl (h _ _ λb o q=>(dq _ _<|Ne.symm<|da<|bi q).trans (ak _ q)) hz
end
noncomputable def ltR(x y:U):Bool:=qp (uu x)<|uu y
def aoi{ks:Z Bool}{ds:Z U}(h:Rows ks ds):vM ltR ds:=by
 have at':∀d∈ds,Row (true::ks) (uu d):=λd hd=>by obtain⟨r,e,hr⟩:=h d hd;rw[e];exact hr
 exact⟨λx hx y hy q=>DS (at' x hx) (at' y hy) q,λx hx y hy z hz q1 q2=>DP (at' x hx) (at' y hy) (at' z hz) q1 q2⟩
section
variable{X:Cx}
def xn{aE:Z (aF×Obj)}{s:aB}{σ:L2.St}{H:Hp}{A:Around}{E:aA->aB->Prop}{v:aA}{ks:Z Bool}{ds:Z U}{xs:Z V}{its:Z aA}{Q:VK}(I:L2.Inv X aE σ H s)(cY:RepAll H ds xs)(rv:Vals xs its)(cP:Rows ks ds)(hz:xs.length<=aC)
  (nL:∀(Q:Z aA->aB->Prop)(E:aA->aB->Prop),(∀h1 tk,(∀b o,s.heap.get? b=some o->h1.get? b=some o)->Q its {s with heap:=h1,toks:=tk})->aG (aH X.prog X.w) A.in1 (kR v) Q E s)
  (q:∀l ys es,H l=none->es.Perm ds->es.Pairwise (λx y=>ltR y x=false)->RepAll (upd H l<|.lst ys) es ys->Q (.ref l) (upd H l<|.lst ys)) :
  aG (aH X.prog X.w) A (call (.builtin "sorted") [v]) (EP X aE σ Q) E s:=by
 have l1:xs.length=ds.length:=cY.length;have l2:xs.length=its.length:=rv.length;obtain⟨fs,kt,kf,ki⟩:=ain I cY rv cP;refine zt (κ:=nA true) (lt:=ltR) I cY rv hz nL (aoi cP) (λh2 s' k Q' E' hq=>?_) (λs' k i j d e u v ui di vj dj Q' hq=>?_) q
 .refine PySem.W.kat_kind (T:=aA.type "int") (KatTups.keeps k kt) (by lia) (λv hv=>?_) rfl hq;obtain⟨i,t,rfl⟩:=ki v hv;exact PySem.W.Looks.of_pure rfl
 .have tup:∀(i:Nat)(d:U)(u:aA),ds[i]?=some d->its[i]?=some u->∃a o vs n bs row,u=.ref a/\d=.tuple row/\Row (true::ks) row/\s'.heap.get? a=some o/\o.data=.seq vs n/\ReadsAll s'.heap vs.toList row bs:=λi d u hd hu=>by
   obtain⟨x,e1,e2⟩:=cY.get hd;obtain⟨u',e3,e4⟩:=rv.get e1;rw[hu]at e3;cases e3;obtain⟨row,e5,oZ⟩:=cP _<|ai hd;obtain⟨a,o,vs,n,bs,_,_,rfl,g1,_,g3,g4,_⟩:=ap1 I e2 e4 e5 oZ;exact(lv a o vs n bs ⟨row,rfl,e5,oZ,k _ _ g1,g3,ReadsAll.keeps k g4⟩)
  obtain⟨a,o,vs,n,as1,row,rfl,rfl,e3,e4,e5,e6⟩:=tup i d u di ui;obtain⟨a',o',xZ,n',as2,B0,rfl,rfl,f3,f4,f5,f6⟩:=tup j e v dj vj;have gR:Q' (qp row B0) s':=hq;have z1:vs.size=ks.length+1:=by have q1:=ir _ _ _ e6;have q2:=e3.len;simp at q1 q2;lia
  have z2:xZ.size=ks.length+1:=by have q1:=ir _ _ _ f6;have q2:=f3.len;simp at q1 q2;lia
  refine PySem.W.kat_lt e4 e5 f4 f5 ?_;rw[decide_eq_false (by lia)];exact Gw e3 f3 e6 f6 gR
def aab:ub X (.builtin "sorted") (λvs H Q=>∃p xs ds ks,vs=[.ref p]/\H p=some (.lst xs)/\RepAll H ds xs/\Rows ks ds/\
  ∀l ys es,H l=none->es.Perm ds->es.Pairwise (λx y=>ltR y x=false)->RepAll (upd H l<|.lst ys) es ys->Q (.ref l) (upd H l<|.lst ys)):=by
 intro aE s σ H xs us Q I r h;obtain⟨p,xs,ds,ks,rfl,hp,cY,cP,q⟩:=h;obtain⟨u,rfl,r1⟩:=va r;cases (show u=aA.ref p from r1);obtain⟨its,rv,pl,hz⟩:=I.list<|SqL.of (K:=X.K) hp;have l2:xs.length=its.length:=rv.length;exact xn I cY rv cP (by lia) (Lz pl.isList<|by lia) q
def aff{ks:Z Bool}{ds es:Z U}(h:Rows ks ds)(p:es.Perm ds)(u:es.Pairwise (λx y=>ltR y x=false)):es=rq ds:=by
 refine Ml (R:=λx y=>ltR y x=false) (p.trans (o0 ds).symm) u ?_ λx hx y hy h1 h2=>?_
 .rw[fq];intro i j hi hj cN;exact ah9 h (ah hi) (ah hj)<|fh cN
 .obtain⟨r,e,hr⟩:=h x<|p.mem_iff.mp hx;obtain⟨r',e',wO⟩:=h y<|p.mem_iff.mp hy;subst e e';have fU:qp r r'=false:=h2;have fN:qp r' r=false:=h1;rw[FV hr wO fU fN]
def afr:ub X (.builtin "sorted") (λvs H Q=>∃p xs ds ks,vs=[.ref p]/\H p=some (.lst xs)/\RepAll H ds xs/\Rows ks ds/\ds.length<64/\
  ∀l ys,H l=none->RepAll (upd H l<|.lst ys) (rq ds) ys->Q (.ref l) (upd H l<|.lst ys)):=by
 intro aE s σ H xs us Q I r h;obtain⟨p,xs,ds,ks,rfl,hp,cY,cP,oO,q⟩:=h;refine aab aE s σ H _ us Q I r<|l9 p xs ds ks ⟨rfl,hp,cY,cP,λl ys es hl pe ue re=>?_⟩;rw[aff cP pe ue]at re;exact q l ys hl re
end
noncomputable def FX(M:Mat)(r c:Nat):U:=.tuple [.int (r:Nat),.int (c:Nat),.str ⟨#[M.g r c]⟩]
noncomputable def qy(M:Mat):Z Str:=(e8 M.h).map λr=>⟨(o7 M r).toArray⟩
def Ad{w r c:Nat}(hc:c<w):(r*w+c)/w=r:=by rw[Nat.mul_comm,Nat.mul_add_div<|by omega,Nat.div_eq_of_lt hc,Nat.add_zero]
def Ah{w r c:Nat}(hc:c<w):(r*w+c) % w=c:=by rw[Nat.mul_comm,Nat.mul_add_mod,ik hc]
def lt2(x y:U):Prop:=sy x<sy y\/sy x=sy y/\uh x<uh y
def ars(x y:U)(h:lt2 x y):¬lt2 y x:=by unfold lt2 at *;omega
def SgP(c:Nat):Prop:=sgB c=true
def zX{c:Nat}(h:SgP c):c<128:=by unfold SgP sgB at h;simp at h;omega
def FlM(H:Hp)(a:aF)(M:Mat):Prop:=H a=some (.tup<|(qy M).map V.str)/\OkM SgP M
def FlM.same{H H':Hp}{a:aF}{M:Mat}(h:FlM H a M)(s:Same H H'):FlM H' a M:=⟨s _ _ h.1,h.2⟩
def ql(M:Mat):(qy M).length=M.h:=by unfold qy;simp
def Go{M:Mat}{r:Nat}(h:r<M.h):(qy M)[r]?=some ⟨(o7 M r).toArray⟩:=by unfold qy;rw[bo,List.getElem?_range h];rfl
def GF(M:Mat)(r:Nat):(o7 M r).length=M.w:=by unfold o7;simp
def zn{M:Mat}{r c:Nat}(h:c<M.w):(o7 M r)[c]?=some (M.g r c):=by unfold o7;rw[bo,List.getElem?_range h];rfl
def aq3{M:Mat}(o:OkM SgP M){r:Nat}(hr:r<M.h):∀c∈o7 M r,SgP c:=λc hc=>by unfold o7 at hc;obtain⟨k,hk,rfl⟩:=ay.mp hc;exact o.sg r k hr<|by simpa using hk
def aop{M:Mat}{z:Str}(h:z∈qy M):∃r,r<M.h/\z=⟨(o7 M r).toArray⟩:=by unfold qy at h;obtain⟨r,hr,rfl⟩:=ay.mp h;exact⟨r,by simpa using hr,rfl⟩
end L3
namespace L3
open PySem
noncomputable def sm5:Nat->Nat
 | 0=>0
 | m+1=>5*sm5 m+1
noncomputable def g5(m i:Nat):Nat:=5^m*i+sm5 m
def LN(m i:Nat):g5 (m+1) i=5*g5 m i+1:=by show 5^(m+1)*i+(5*sm5 m+1)=5*(5^m*i+sm5 m)+1;rw[j9,Nat.mul_add,Nat.mul_comm (5^m) 5,Nat.mul_assoc,Nat.add_assoc]
theorem apt(m n i:Nat):g5 (m+n) i=g5 m (g5 n i):=by
 induction m with
 | zero=>rw[Nat.zero_add];unfold g5 sm5;simp
 | succ m ih=>rw[Nat.succ_add,LN,ih,LN]
def aql(m n:Nat):sm5 (m+n)=5^m*sm5 n+sm5 m:=by have h:=apt m n 0;unfold g5 at h;simpa using h
theorem ahy:∀k,∃c d:Nat,5^(2^k)=1+2^(k+2)*c/\sm5 (2^k)=2^k*(2*d+1)
 | 0=>(l0 1 0 ⟨rfl,rfl⟩)
 | k+1=>by
  obtain⟨c,d,h1,h2⟩:=ahy k;have e:2^(k+1)=2^k+2^k:=by rw[j9];lia
  refine(l0 (c+2^(k+1)*c*c) (d+2^k*c*(2*d+1)) ⟨?_,?_⟩)
  .rw[e,Nat.pow_add,h1,show 2^(k+1+2)=8*2^k by rw[Nat.pow_add,Nat.pow_add];lia,show 2^(k+2)=4*2^k by rw[Nat.pow_add];lia];generalize 2^k=A
   grind
  .rw[e,aql,h1,h2,show 2^(k+2)=4*2^k by rw[Nat.pow_add];lia];generalize 2^k=A
   grind
def asj(k i:Nat):g5 (2^k) i % 2^(k+1)=(i+2^k) % 2^(k+1):=by
 obtain⟨c,d,h1,h2⟩:=ahy k;unfold g5;rw[h1,h2];have e3:2^(k+2)=2^(k+1)*2:=by rw[show k+2=(k+1)+1 by lia,j9]
 have e:(1+2^(k+2)*c)*i+2^k*(2*d+1)=(i+2^k)+2^(k+1)*(2*(c*i)+d):=by rw[e3,j9];generalize 2^k=A;simp only[Nat.add_mul,Nat.mul_add,Nat.one_mul,Nat.mul_one,Nat.mul_assoc,Nat.mul_comm,Nat.mul_left_comm];lia
 rw[e,Nat.add_mul_mod_self_left]
theorem Ls:∀(k i j:Nat),∃m,m<2^k/\g5 m i % 2^k=j % 2^k
 | 0,i,j=>⟨0,by decide,by simp[Nat.mod_one]⟩
 | k+1,i,j=>by
  obtain⟨m,hm,e⟩:=Ls k i j;have e2:2^(k+1)=2*2^k:=by rw[j9];lia
  by_cases h:g5 m i % 2^(k+1)=j % 2^(k+1)
  .exact⟨m,by lia,h⟩
  .refine⟨2^k+m,by lia,?_⟩;rw[apt,asj];have a:=Nat.mod_add_div (g5 m i)<|2^(k+1);have l1:g5 m i % 2^(k+1)<2^(k+1):=Nat.mod_lt _ (by rw[e2];have:=Nat.two_pow_pos k;lia);have l2:j % 2^(k+1)<2^(k+1):=Nat.mod_lt _ (by rw[e2];have:=Nat.two_pow_pos k;lia);have m1:g5 m i % 2^(k+1) % 2^k=g5 m i % 2^k:=Nat.mod_mod_of_dvd _ ⟨2,by rw[e2];lia⟩;have m2:j % 2^(k+1) % 2^k=j % 2^k:=Nat.mod_mod_of_dvd _ ⟨2,by rw[e2];lia⟩;rw[Nat.add_mod,ik (show 2^k<2^(k+1) by have:=Nat.two_pow_pos k;lia)];generalize g5 m i % 2^(k+1)=x at *;generalize j % 2^(k+1)=y at *;rw[<-m1,<-m2]at e;generalize 2^(k+1)=A at *;generalize 2^k=B at *;subst e2;have hx:x % B=if x<B then x else x-B:=by
    split
    .exact ik<|by assumption
    .rw[Nat.mod_eq_sub_mod (by lia),ik<|by lia]
   have hy:y % B=if y<B then y else y-B:=by
    split
    .exact ik<|by assumption
    .rw[Nat.mod_eq_sub_mod (by lia),ik<|by lia]
   rw[hx,hy]at e;have hz:(x+B) % (2*B)=if x+B<2*B then x+B else x+B-2*B:=by
    split
    .exact ik<|by assumption
    .rw[Nat.mod_eq_sub_mod (by lia),ik<|by lia]
   rw[hz];split at e<;>split at e<;>split<;>lia
open SetTable
noncomputable def itn{α:Type}(f:α->α):Nat->α->α
 | 0,x=>x
 | n+1,x=>itn f n<|f x
theorem uo{α:Type}(f:α->α):∀(m n:Nat)(x:α),itn f (m+n) x=itn f n (itn f m x)
 | 0,n,x=>by rw[Nat.zero_add];rfl
 | m+1,n,x=>by rw[Nat.succ_add];exact uo f m n<|f x
def Mf{α:Type}(f:α->α)(n:Nat)(x:α):itn f (n+1) x=f (itn f n x):=by rw[uo f n 1 x];rfl
noncomputable def adv(mask:Nat)(p:Probe):Probe:=
 if p.more>0 then{p with j:=p.j+1,more:=p.more-1}else
 {p with j:=(leap mask p.i p.perturb).1,more:=runEnd mask (leap mask p.i p.perturb).1-(leap mask p.i p.perturb).1,i:=(leap mask p.i p.perturb).1,perturb:=(leap mask p.i p.perturb).2}
noncomputable def lp(mask:Nat)(x:Nat×Nat):Nat×Nat:=leap mask x.1 x.2
noncomputable def at0(mask:Nat)(x:Nat×Nat)(d:Option Nat):Probe:=⟨x.1,runEnd mask x.1-x.1,x.1,x.2,d⟩
def apx(mask i:Nat):runEnd mask i-i<=9:=by unfold runEnd;split<;>lia
theorem Gu(mask:Nat):∀(m:Nat)(p:Probe),p.more=m->itn (adv mask) (m+1) p=at0 mask (lp mask (p.i,p.perturb)) p.dummy
 | 0,p,h=>by show adv mask p=_;unfold adv;rw[if_neg (by lia)];rfl
 | m+1,p,h=>by
  show itn (adv mask) (m+1) (adv mask p)=_;have e:adv mask p={p with j:=p.j+1,more:=p.more-1}:=by unfold adv;rw[if_pos (by lia)]
  rw[e,Gu mask m _<|by show p.more-1=m;lia]
theorem KQ(mask:Nat):∀(m:Nat)(x:Nat×Nat)(d:Option Nat),∃n,n<=10*m/\itn (adv mask) n (at0 mask x d)=at0 mask (itn (lp mask) m x) d
 | 0,x,d=>⟨0,ao _,rfl⟩
 | m+1,x,d=>by
  have h:=Gu mask _ (at0 mask x d) rfl;obtain⟨n,hn,e⟩:=KQ mask m (lp mask x) d;refine⟨((at0 mask x d).more+1)+n,?_,?_⟩
  .have:(at0 mask x d).more<=9:=apx mask x.1;lia
  .rw[uo,h];exact e
theorem Mo(mask:Nat):∀(m:Nat)(x:Nat×Nat)(b:Nat),x.2<32^b->(itn (lp mask) m x).2<32^(b-m)
 | 0,x,b,h=>by simpa [itn]using h
 | m+1,x,b,h=>by
  have h':(lp mask x).2<32^(b-1):=by
   show x.2/32<32^(b-1);cases b with
   | zero=>simp at h;simp[h]
   | succ b=>
    rw[j9]at h;simpa using Nat.div_lt_of_lt_mul (by lia)
  have:=Mo mask m (lp mask x) (b-1) h';rw[show b-(m+1)=b-1-m by lia];exact this
theorem wz{mask k:Nat}(hk:mask+1=2^k):∀(m i:Nat),i<2^k->itn (lp mask) m (i,0)=(g5 m i % 2^k,0)
 | 0,i,h=>by
  have e:g5 0 i=i:=by unfold g5 sm5;simp
  rw[e,ik h];rfl
 | m+1,i,h=>by
  rw[Mf,wz hk m i h];show((g5 m i % 2^k*5+1+0/32) % (mask+1),0/32)=_;rw[hk,LN];have e:(g5 m i % 2^k*5+1+0/32) % 2^k=(5*g5 m i+1) % 2^k:=by rw[show 0/32=0 from rfl,Nat.add_zero,Nat.mul_comm,Nat.add_mod,Nat.mul_mod,Nat.mod_mod,<-Nat.mul_mod,<-Nat.add_mod]
  rw[e]
def K5{mask k:Nat}(hk:mask+1=2^k)(x:Nat×Nat):(lp mask x).1<2^k:=by show(x.1*5+1+x.2/32) % (mask+1)<2^k;rw[hk];exact Nat.mod_lt _<|Nat.two_pow_pos k
def ave{mask k:Nat}(hk:mask+1=2^k)(p:Probe)(hm:p.more<=9)(hp:p.perturb<2^64)(j:Nat)(hj:j<=mask):∃n,n<10*turns mask/\(itn (adv mask) n p).j=j:=by
 have h1:=Gu mask p.more p rfl;obtain⟨n2,wR,e2⟩:=KQ mask 12 (lp mask (p.i,p.perturb)) p.dummy;have hz:(itn (lp mask) 12<|lp mask (p.i,p.perturb)).2<32^(13-13):=by have:=Mo mask 13 (p.i,p.perturb) 13 (by show p.perturb<32^13;exact ck hp<|by decide);exact this
 have AG:(itn (lp mask) 12<|lp mask (p.i,p.perturb)).2=0:=by simpa using hz
 have hi:(itn (lp mask) 12<|lp mask (p.i,p.perturb)).1<2^k:=by rw[Mf];exact K5 hk _
 generalize itn (lp mask) 12 (lp mask (p.i,p.perturb))=y at *;obtain⟨y1,y2⟩:=y;simp only at AG hi;subst AG;obtain⟨m,pZ,e3⟩:=Ls k y1 j;obtain⟨n3,hn3,e4⟩:=KQ mask m (y1,0) p.dummy;rw[wz hk m y1 hi,e3,ik<|by lia]at e4;refine⟨(p.more+1)+(n2+n3),?_,?_⟩
 .unfold turns;lia
 .rw[uo,h1,uo,e2,e4];rfl
end L3
namespace L3
open PySem SetTable
def Low(xs:Array Nat)(j b:Nat):Prop:=b<=xs.size/\(∀i v,i<b->xs[i]?=some v->v<j)/\(∀i v,b<=i->xs[i]?=some v->j<=v)
def Gj{xs:Array Nat}(h:xs.toList.Pairwise (· < ·)){i k v u:Nat}(hi:xs[i]?=some v)(hk:xs[k]?=some u)(wW:i<k):v<u:=by rw[<-bm]at hi hk;obtain⟨h1,rfl⟩:=af.mp hi;obtain⟨h2,rfl⟩:=af.mp hk;exact fq.mp h i k h1 h2 wW
theorem L4{xs:Array Nat}(h:xs.toList.Pairwise (· < ·))(j:Nat):∀(fuel lo hi:Nat),hi-lo<=fuel->lo<=hi->hi<=xs.size->(∀i v,i<lo->xs[i]?=some v->v<j)->(∀i v,hi<=i->xs[i]?=some v->j<=v)->
  Low xs j (below.go xs j fuel lo hi)
 | 0,lo,hi,h1,h2,h3,a,b=>by
  have e:lo=hi:=by lia
  subst e;exact⟨h3,a,b⟩
 | fuel+1,lo,hi,h1,h2,h3,a,b=>by
  unfold below.go;by_cases bS:lo<hi
  .rw[if_pos bS];have hm:(lo+hi)/2<xs.size:=by lia
   have e:xs.getD ((lo+hi)/2) j=xs[(lo+hi)/2]:=by simp[Array.getD,hm]
   have e':xs[(lo+hi)/2]?=some xs[(lo+hi)/2]:=by simp[hm]
   dsimp only;rw[e];by_cases hc:xs[(lo+hi)/2]<j
   .rw[if_pos hc];refine L4 h j fuel _ _ (by lia) (by lia) h3 (λi v dO hv=>?_) b;by_cases q:i=(lo+hi)/2
    .subst q;rw[e']at hv;cases hv;exact hc
    .have:=Gj h hv e' (by lia);lia
   .rw[if_neg hc];refine L4 h j fuel _ _ (by lia) (by lia) (by lia) a λi v dO hv=>?_;by_cases q:i=(lo+hi)/2
    .subst q;rw[e']at hv;cases hv;lia
    .have:=Gj h e' hv (by lia);lia
  .rw[if_neg bS];have e:lo=hi:=by lia
   subst e;exact⟨h3,a,b⟩
def v9{xs:Array Nat}(h:xs.toList.Pairwise (· < ·))(j:Nat):Low xs j (below xs j):=
 L4 h j xs.size 0 xs.size (by lia) (by lia) (ao _) (λi v hi=>by lia) (λi v hi hv=>by have:=(bx.mp hv).1;lia)
def L7{xs:Array Nat}(h:xs.toList.Pairwise (· < ·)){i j:Nat}(hi:xs[i]?=some j):below xs j=i:=by
 obtain⟨a,b,c⟩:=v9 h j;by_cases q:i<below xs j
 .have:=b i j q hi;lia
 by_cases q2:below xs j<i
 .have hl:=(bx.mp hi).1;have e':xs[below xs j]?=some xs[below xs j]:=by simp
  have:=Gj h e' hi q2;have:=c _ _ (ao _) e';lia
 .lia
def Mn{t:SetTable}(h:t.place.toList.Pairwise (· < ·)){i j:Nat}(hi:t.place[i]?=some j):t.slot j=.live i:=by unfold slot;rw[L7 h hi];dsimp only;rw[hi,if_pos<|by simp]
def ajd{t:SetTable}(h:t.place.toList.Pairwise (· < ·))(hd:t.dummies=#[]){j:Nat}(hj:j∉t.place.toList):t.slot j=.empty:=by
 unfold slot;dsimp only;rw[if_neg,if_neg]
 .rw[hd];unfold has;simp
 .intro e;have e':t.place[below t.place j]?=some j:=by simpa using e
  apply hj;rw[<-bm]at e';exact ai e'
def ann{t:SetTable}{j:Nat}(hj:j∈t.place.toList):∃i:Nat,t.place[i]?=some j:=by obtain⟨i,h⟩:=dg hj;exact⟨i,by rw[<-bm];exact h⟩
def pi{α:Type}(xs:Array α)(p:Nat)(x:α):(insertAt xs p x).toList=xs.toList.take p++x::xs.toList.drop p:=by unfold insertAt;simp[Array.toList_extract];rw[aw (by simp)]
def agj{xs:Array Nat}(h:xs.toList.Pairwise (· < ·)){j:Nat}(hj:j∉xs.toList):(insertAt xs (below xs j) j).toList.Pairwise (· < ·):=by
 obtain⟨a,b,c⟩:=v9 h j;rw[pi,ei];refine⟨h.sublist<|j3 _ _,?_,?_⟩
 .rw[gk];refine⟨λv hv=>?_,h.sublist<|List.drop_sublist _ _⟩;obtain⟨i,hi⟩:=dg hv;rw[gl,bm]at hi;have:=c _ v (by lia) hi;have:v≠j:=λe=>hj (by rw[<-e];rw[<-bm]at hi;exact ai hi);lia
 .intro u hu v hv;obtain⟨i,hi⟩:=dg hu;have oJ:i<below xs j:=by
   have:=(af.mp hi).1;rw[bf]at this;lia
  rw[fy oJ,bm]at hi;have h1:=b i u oJ hi;rcases a7.mp hv with rfl|hv
  .exact h1
  .obtain⟨i',dO⟩:=dg hv;rw[gl,bm]at dO;have:=c _ v (by lia) dO;lia
def Bj(ps:Z Nat)(es:Z (Int×aA))(j:Nat)(e:Int×aA):Prop:=∃i:Nat,ps[i]?=some j/\es[i]?=some e
theorem agr{ps:Z Nat}{es:Z (Int×aA)}(hl:ps.length=es.length)(p j0:Nat)(hp:p<=ps.length)(e0:Int×aA){j:Nat}{e:Int×aA} :
  Bj (ps.take p++j0::ps.drop p) (es.take p++e0::es.drop p) j e↔(j=j0/\e=e0)\/Bj ps es j e:=by
 have l1:(ps.take p).length=p:=by rw[bf];lia
 have l2:(es.take p).length=p:=by rw[bf];lia
 constructor
 .rintro⟨i,h1,h2⟩;by_cases hi:i<p
  .rw[db (by lia),fy hi]at h1 h2;exact .inr ⟨i,h1,h2⟩
  .rw[cf (by lia),l1]at h1;rw[cf (by lia),l2]at h2;cases hq:i-p with
   | zero=>rw[hq]at h1 h2;cases h1;cases h2;exact .inl ⟨rfl,rfl⟩
   | succ q=>
    rw[hq,List.getElem?_cons_succ,gl]at h1 h2;exact .inr ⟨p+q,h1,h2⟩
 .rintro(⟨rfl,rfl⟩|⟨i,h1,h2⟩)
  .exact⟨p,by rw[cf (by lia),l1,j7];rfl,by rw[cf (by lia),l2,j7];rfl⟩
  .by_cases hi:i<p
   .exact⟨i,by rw[db (by lia),fy hi];exact h1,by rw[db (by lia),fy hi];exact h2⟩
   .refine⟨i+1,?_,?_⟩
    .rw[cf (by lia),l1,show i+1-p=(i-p)+1 by lia,List.getElem?_cons_succ,gl,show p+(i-p)=i by lia];exact h1
    .rw[cf (by lia),l2,show i+1-p=(i-p)+1 by lia,List.getElem?_cons_succ,gl,show p+(i-p)=i by lia];exact h2
noncomputable def st0(mask:Nat)(h:Int):Probe:=at0 mask (bits h % (mask+1),bits h) none
def anj(t:SetTable)(h:Int):t.probeStart h=st0 t.mask h:=rfl
noncomputable def rg(mask:Nat)(h:Int)(n:Nat):Nat:=(itn (adv mask) n<|st0 mask h).j
def Lu(h:Int):bits h<2^64:=by unfold bits;lia
def vR(mask:Nat)(p:Probe):Prop:=p.more<=9/\p.perturb<2^64/\p.j+p.more<=mask
def ae0(mask:Nat)(x:Nat×Nat)(d:Option Nat)(h1:x.1<=mask)(h2:x.2<2^64):vR mask (at0 mask x d):=by refine⟨apx mask x.1,h2,?_⟩;show x.1+(runEnd mask x.1-x.1)<=mask;unfold runEnd;split<;>lia
def amx{mask:Nat}{p:Probe}(h:vR mask p):vR mask (adv mask p):=by
 obtain⟨h1,h2,h3⟩:=h;unfold adv;split
 .exact⟨by simp only;lia,h2,by simp only;lia⟩
 .refine ae0 mask (leap mask p.i p.perturb) p.dummy ?_ ?_
  .show(p.i*5+1+p.perturb/32) % (mask+1)<=mask;have:=Nat.mod_lt (p.i*5+1+p.perturb/32) (show 0<mask+1 by lia);lia
  .show p.perturb/32<2^64;lia
theorem Mi{mask:Nat}:∀(n:Nat) {p:Probe},vR mask p->vR mask (itn (adv mask) n p)
 | 0,_,h=>h
 | n+1,_,h=>Mi n<|amx h
def yk(mask:Nat)(h:Int):vR mask (st0 mask h):=ae0 mask _ _ (by
 have:=Nat.mod_lt (bits h) (show 0<mask+1 by lia);show bits h % (mask+1)<=mask;lia)<|Lu h
def aqu(mask:Nat)(h:Int)(n:Nat):rg mask h n<=mask:=by have:=(Mi n<|yk mask h).2.2;unfold rg;lia
structure TOk(t:SetTable)(es:Array (Int×aA)):Prop where
 two:∃k,t.mask+1=2^k/\3<=k/\k<=13/\k % 2=1
 dm:t.dummies=#[]
 rise:t.place.toList.Pairwise (· < ·)
 bd:∀j∈t.place.toList,j<=t.mask
 sz:t.place.size=es.size
 fit:t.place.size<=t.mask
 onroad:∀j e,Bj t.place.toList es.toList j e->∃n,rg t.mask e.1 n=j/\∀n',n'<n->rg t.mask e.1 n'∈t.place.toList
def apz{ps:Z Nat}{m:Nat}(h:ps.length<=m):∃j,j<=m/\j∉ps:=by apply ij;intro hn;have aS:∀j,j<=m->j∈ps:=λj hj=>ij λq=>hn ⟨j,hj,q⟩;have:=List.Nodup.length_le_of_subset (l₁:=e8<|m+1) (l₂:=ps) List.nodup_range (λj hj=>aS j<|by have:=gq.mp hj;lia);rw[g0]at this;lia
theorem alq{t:SetTable}{es:Array (Int×aA)}(ok:TOk t es)(cF:Nat->Int)(h:Int):∀(fuel:Nat)(p:Probe),(∃n,n<fuel/\(itn (adv t.mask) n p).j∉t.place.toList)->
  (∃n,probe.go t cF h fuel p=some (.empty (itn (adv t.mask) n p).j p.dummy)/\(itn (adv t.mask) n p).j∉t.place.toList/\∀n',n'<n->∃i:Nat,t.place[i]?=some (itn (adv t.mask) n' p).j/\cF i≠h)\/
  (∃n i,probe.go t cF h fuel p=some (.candidate (itn (adv t.mask) n p).j i (itn (adv t.mask) (n+1) p))/\t.place[i]?=some (itn (adv t.mask) n p).j/\cF i=h/\∀n',n'<n->∃i':Nat,t.place[i']?=some (itn (adv t.mask) n' p).j/\cF i'≠h)
 | 0,p,⟨n,hn,_⟩=>by lia
 | fuel+1,p,⟨n,hn,bZ⟩=>by
  by_cases hp:p.j∈t.place.toList
  .obtain⟨i,hi⟩:=ann hp;have hs:=Mn ok.rise hi;by_cases hh:cF i=h
   .refine .inr<|l0 0 i ⟨?_,hi,hh,λn' fM=>by lia⟩;unfold probe.go;rw[hs];dsimp only;rw[if_pos (by simp[hh])];rfl
   .have rL:∃n,n<fuel/\(itn (adv t.mask) n<|adv t.mask p).j∉t.place.toList:=by
     cases n with
     | zero=>exact absurd hp bZ
     | succ n=>exact⟨n,by lia,bZ⟩
    have AV:probe.go t cF h (fuel+1) p=probe.go t cF h fuel (adv t.mask p):=by rw[probe.go,hs];dsimp only;rw[if_neg (by simp[hh])];rfl
    have hd:(adv t.mask p).dummy=p.dummy:=by unfold adv;split<;>rfl
    have Ci:∀{n:Nat},(∀n',n'<n->∃i':Nat,t.place[i']?=some (itn (adv t.mask) n'<|adv t.mask p).j/\cF i'≠h)->∀n',n'<n+1->∃i':Nat,t.place[i']?=some (itn (adv t.mask) n' p).j/\cF i'≠h:=λH n' fM=>by
     cases n' with
     | zero=>exact⟨i,hi,hh⟩
     | succ n'=>exact H n'<|by lia
    rcases alq ok cF h fuel (adv t.mask p) rL with ⟨m,e,f,g⟩|⟨m,i',e,f,g,g'⟩
    .exact .inl ⟨m+1,by rw[AV,e,hd];rfl,f,Ci g⟩
    .exact .inr<|l0 (m+1) i' ⟨by rw[AV,e];rfl,f,g,Ci g'⟩
  .refine .inl ⟨0,?_,hp,λn' fM=>by lia⟩;unfold probe.go;rw[ajd ok.rise ok.dm hp];rfl
def ajb{t:SetTable}{es:Array (Int×aA)}(ok:TOk t es)(cF:Nat->Int)(h:Int){p:Probe}(st:vR t.mask p) :
  (∃n,t.probe cF h p=some (.empty (itn (adv t.mask) n p).j p.dummy)/\(itn (adv t.mask) n p).j∉t.place.toList/\∀n',n'<n->∃i:Nat,t.place[i]?=some (itn (adv t.mask) n' p).j/\cF i≠h)\/
  (∃n i,t.probe cF h p=some (.candidate (itn (adv t.mask) n p).j i (itn (adv t.mask) (n+1) p))/\t.place[i]?=some (itn (adv t.mask) n p).j/\cF i=h/\∀n',n'<n->∃i':Nat,t.place[i']?=some (itn (adv t.mask) n' p).j/\cF i'≠h):=by
 obtain⟨k,hk,_,_⟩:=ok.two;obtain⟨j,hj,hn⟩:=apz (ps:=t.place.toList) (m:=t.mask) (by rw[a0];exact ok.fit);obtain⟨n,hl,e⟩:=ave hk p st.1 st.2.1 j hj;exact alq ok cF h _ p ⟨n,hl,by rw[e];exact hn⟩
def TOk.ahead{t:SetTable}{es:Array (Int×aA)}(ok:TOk t es){j:Nat}{e:Int×aA}(hs:Bj t.place.toList es.toList j e){n:Nat}(hf:rg t.mask e.1 n∉t.place.toList):∃m,m<n/\rg t.mask e.1 m=j:=by
 obtain⟨m,h1,h2⟩:=ok.onroad j e hs;refine⟨m,?_,h1⟩;apply ij;intro hm;by_cases q:n<m
 .exact hf<|h2 n q
 .have:m=n:=by lia
  subst this;rw[h1]at hf;obtain⟨i,hi,_⟩:=hs;exact hf<|ai hi
theorem TOk.put{t:SetTable}{es:Array (Int×aA)}(ok:TOk t es){h:Int}{x:aA}{n:Nat}(hf:rg t.mask h n∉t.place.toList)(hr:∀n',n'<n->rg t.mask h n'∈t.place.toList)(rJ:t.place.size+1<=t.mask) :
  TOk (t.put<|rg t.mask h n).1 (insertAt es (t.put<|rg t.mask h n).2 (h,x))/\(t.put<|rg t.mask h n).1.mask=t.mask/\(t.put<|rg t.mask h n).2<=es.size/\(t.put<|rg t.mask h n).1.place.size=t.place.size+1:=by
 have uV:=v9 ok.rise<|rg t.mask h n;have Iu:has t.dummies (rg t.mask h n)=false:=by rw[ok.dm];unfold has;simp
 have Ib:t.put (rg t.mask h n)=({t with place:=insertAt t.place (below t.place<|rg t.mask h n)<|rg t.mask h n,dummies:=#[]},below t.place<|rg t.mask h n):=by unfold SetTable.put;rw[Iu,ok.dm];rfl
 rw[Ib];have oG:(insertAt t.place (below t.place<|rg t.mask h n)<|rg t.mask h n).size=t.place.size+1:=by rw[<-a0,pi,au,bp,bf,fg,a0];have:=uV.1;lia
 have hsz:=ok.sz;have hmem:∀j,j∈(insertAt t.place (below t.place<|rg t.mask h n)<|rg t.mask h n).toList↔j=rg t.mask h n\/j∈t.place.toList:=λj=>by
  rw[pi];constructor
  .intro hj;rcases a8.mp hj with q|q
   .exact .inr<|ca q
   .rcases a7.mp q with q|q
    .exact .inl q
    .exact .inr<|gr q
  .rintro(rfl|hj)
   .exact cm _ aq
   .rw[<-e9 (below t.place<|rg t.mask h n) t.place.toList]at hj;rcases a8.mp hj with q|q
    .exact g9 _ q
    .exact cm _<|av _ q
 refine⟨⟨ok.two,rfl,agj ok.rise hf,?_,?_,?_,?_⟩,rfl,?_,oG⟩
 .intro j hj;rcases(hmem j).mp hj with rfl|q
  .exact aqu _ _ _
  .exact ok.bd j q
 .show(insertAt t.place _ _).size=(insertAt es (below t.place<|rg t.mask h n) (h,x)).size;rw[oG,<-a0 (xs:=insertAt es _ _),pi,au,bp,bf,fg,a0];have:=uV.1;lia
 .show(insertAt t.place _ _).size<=t.mask;rw[oG];exact rJ
 .intro j e hs;have eS:Bj (t.place.toList.take (below t.place<|rg t.mask h n)++rg t.mask h n::t.place.toList.drop (below t.place<|rg t.mask h n)) (es.toList.take (below t.place<|rg t.mask h n)++(h,x)::es.toList.drop (below t.place<|rg t.mask h n)) j e:=by
   have E4:Bj (insertAt t.place (below t.place<|rg t.mask h n)<|rg t.mask h n).toList (insertAt es (below t.place<|rg t.mask h n) (h,x)).toList j e:=hs;rw[pi,pi]at E4;exact E4
  rcases(agr (by rw[a0,a0];exact hsz) _ _ (by rw[a0];exact uV.1) _).mp eS with ⟨rfl,rfl⟩|q
  .exact⟨n,rfl,λn' fM=>(hmem _).mpr (.inr<|hr n' fM)⟩
  .obtain⟨m,h1,h2⟩:=ok.onroad j e q;exact⟨m,h1,λn' fM=>(hmem _).mpr (.inr<|h2 n' fM)⟩
 .show below t.place _<=es.size;have:=uV.1;lia
theorem TOk.fits{t:SetTable}{es:Array (Int×aA)}(ok:TOk t es):t.fits es.size=true:=by unfold SetTable.fits SetTable.fill;rw[ok.dm];simp[ok.sz];have:=ok.fit;have:=ok.sz;lia
def TOk.noway{t:SetTable}{es:Array (Int×aA)}(ok:TOk t es):t.gaveWay=false:=by
 obtain⟨k,hk,h3,_⟩:=ok.two;unfold SetTable.gaveWay;have:2^k % 2=0:=by rw[show k=(k-1)+1 by lia,j9];lia
 simp;lia
theorem TOk.fresh(finger moves:Nat)(led:Bool):TOk (.fresh finger moves led) #[]:=
 ⟨⟨3,rfl,by decide,by decide,rfl⟩,rfl,List.Pairwise.nil,(λj hj=>by cases hj),rfl,(by show 0<=7;decide),(λj e ⟨i,h,_⟩=>by simp[SetTable.fresh]at h)⟩
def au0{mask k:Nat}(hk:mask+1=2^k)(x:Nat×Nat)(hp:x.2<2^64)(j:Nat)(hj:j<=mask):∃m,m<turns mask/\(itn (lp mask) m x).1=j:=by
 have hz:(itn (lp mask) 13 x).2<32^(13-13):=Mo mask 13 x 13 (ck hp<|by decide);have AG:(itn (lp mask) 13 x).2=0:=by simpa using hz
 have hi:(itn (lp mask) 13 x).1<2^k:=by rw[Mf];exact K5 hk _
 have e0:∀m,itn (lp mask) (13+m) x=itn (lp mask) m (itn (lp mask) 13 x):=λm=>uo _ _ _ _;generalize itn (lp mask) 13 x=y at *;obtain⟨y1,y2⟩:=y;simp only at AG hi;subst AG;obtain⟨m,pZ,e3⟩:=Ls k y1 j;refine⟨13+m,?_,?_⟩
 .unfold turns;lia
 .rw[e0,wz hk m y1 hi];show g5 m y1 % 2^k=j;rw[e3,ik<|by lia]
theorem ao9(mask:Nat):∀(q:Nat)(p:Probe),q<=p.more->(itn (adv mask) q p).j=p.j+q
 | 0,p,_=>rfl
 | q+1,p,h=>by
  show(itn (adv mask) q<|adv mask p).j=_;have e:adv mask p={p with j:=p.j+1,more:=p.more-1}:=by unfold adv;rw[if_pos (by lia)]
  rw[e,ao9 mask q _<|by show q<=p.more-1;lia];show p.j+1+q=p.j+(q+1);lia
def DR(owner:Array (Option Nat))(j:Nat):Prop:=∃q,owner[j]?=some (some q)
theorem afy{mask k:Nat}(hk:mask+1=2^k){owner:Array (Option Nat)}(hs:owner.size=mask+1){f:Nat}(hf:owner[f]?=some none):∀(fuel:Nat)(x:Nat×Nat),x.1<=mask->x.2<2^64->(∃m,m<fuel/\(itn (lp mask) m x).1=f)->
  ∃j n,layClean.free mask owner fuel x.1 x.2=some j/\(itn (adv mask) n<|at0 mask x none).j=j/\owner[j]?=some none/\∀n',n'<n->DR owner (itn (adv mask) n'<|at0 mask x none).j
 | 0,x,_,_,⟨m,hm,_⟩=>by lia
 | fuel+1,x,h1,h2,⟨m,hm,em⟩=>by
  have CB:(at0 mask x none).more=runEnd mask x.1-x.1:=rfl;have hend:runEnd mask x.1<=mask/\x.1<=runEnd mask x.1:=by unfold runEnd;split<;>lia
  have get:∀q,(hq:q<runEnd mask x.1+1-x.1)->owner.getD (x.1+q) (some 0)=owner[x.1+q]'(by lia):=λq hq=>by simp only[Array.getD];rw[dif_pos (show x.1+q<owner.size by lia)];rfl
  have pos:∀q,q<runEnd mask x.1+1-x.1->(itn (adv mask) q<|at0 mask x none).j=x.1+q:=λq hq=>ao9 mask q _ (by rw[CB];lia);have occ:∀q (hq:q<runEnd mask x.1+1-x.1),(owner.getD (x.1+q)<|some 0).isNone=false->DR owner (x.1+q):=λq hq hn=>by
   rw[get q hq]at hn;cases hv:owner[x.1+q]'(by lia)with
   | none=>rw[hv]at hn;cases hn
   | some v=>exact⟨v,by rw[bz (by lia),hv]⟩
  unfold layClean.free;cases C5:(e8<|runEnd mask x.1+1-x.1).find? λk=>(owner.getD (x.1+k)<|some 0).isNone with
  | some q=>
   rw[List.find?_range_eq_some]at C5;obtain⟨a,b,c⟩:=C5;have hq:q<runEnd mask x.1+1-x.1:=gq.mp b;refine(l0 (x.1+q) q ⟨rfl,pos q hq,?_,λn' fM=>?_⟩)
   .rw[get q hq]at a;rw[bz (by lia)];cases hv:owner[x.1+q]'(by lia)with
    | none=>rfl
    | some v=>rw[hv]at a;cases a
   .rw[pos n' (by lia)];exact occ n' (by lia) (by simpa using c n' fM)
  | none=>
   rw[List.find?_range_eq_none]at C5;dsimp only;cases m with
   | zero=>
    have e0:x.1=f:=em;have:=C5 0 (by lia);rw[Nat.add_zero]at this;have g:=get 0 (by lia);simp only[Nat.add_zero]at g;rw[g]at this;subst e0;rw[bz (by lia)]at hf;injection hf with hf
    rw[hf]at this;cases this
   | succ m=>
    have iX:(lp mask x).1<=mask:=by have:=K5 hk x;lia
    have fJ:(lp mask x).2<2^64:=by show x.2/32<2^64;lia
    obtain⟨j,n,e1,e2,e3,e4⟩:=afy hk hs hf fuel (lp mask x) iX fJ ⟨m,by lia,em⟩;have tl:=Gu mask _ (at0 mask x none) rfl;refine(l0 j ((at0 mask x none).more+1+n) ⟨e1,?_,e3,λn' fM=>?_⟩)
    .rw[uo,tl];exact e2
    .by_cases hq:n'<(at0 mask x none).more+1
     .have gR:n'<runEnd mask x.1+1-x.1:=by rw[CB]at hq;lia
      rw[pos n' gR];exact occ n' gR<|by simpa using C5 n' gR
     .have:=e4 (n'-((at0 mask x none).more+1)) (by lia);rw[show n'=(at0 mask x none).more+1+(n'-((at0 mask x none).more+1)) by lia,uo,tl];exact this
structure Own(mask:Nat)(hs:Z Int)(owner:Array (Option Nat))(k:Nat):Prop where
 size:owner.size=mask+1
 o1:∀j q:Nat,owner[j]?=some (some q)->q<k/\∃h,hs[q]?=some h/\∃n,rg mask h n=j/\∀n',n'<n->DR owner (rg mask h n')
 o2:∀q:Nat,q<k->∃j:Nat,owner[j]?=some (some q)
 o3:∀j j' q:Nat,owner[j]?=some (some q)->owner[j']?=some (some q)->j=j'
theorem Own.free{mask:Nat}{hs:Z Int}{owner:Array (Option Nat)}{k:Nat}(o:Own mask hs owner k)(hk:k<=mask):∃f,f<=mask/\owner[f]?=some none:=by
 apply ij;intro hn;have aS:∀j,j<=mask->∃q,owner[j]?=some (some q):=λj hj=>by
  have rX:j<owner.size:=by rw[o.size];lia
  cases hv:owner[j]with
  | none=>exact absurd ⟨j,hj,by rw[bz rX,hv]⟩ hn
  | some q=>exact⟨q,by rw[bz rX,hv]⟩
 have val:∀(j q:Nat),owner[j]?=some (some q)->((owner[j]?).getD none).getD 0=q:=λj q h=>by rw[h];rfl
 have nd:((e8<|mask+1).map λj=>((owner[j]?).getD none).getD 0).Nodup:=by show List.Pairwise _ _;rw[gi];refine gu ?_<|List.nodup_range (n:=mask+1);intro a b ha hb lD e;obtain⟨q,hq⟩:=aS a (by have:=gq.mp ha;lia);obtain⟨q',gR⟩:=aS b (by have:=gq.mp hb;lia);rw[val a q hq,val b q' gR]at e;subst e;exact lD<|o.o3 a b q hq gR
 have:=List.Nodup.length_le_of_subset (l₂:=e8 k) nd λv hv=>by obtain⟨j,hj,rfl⟩:=ay.mp hv;obtain⟨q,hq⟩:=aS j (by have:=gq.mp hj;lia);rw[val j q hq];exact gq.mpr (o.o1 j q hq).1
 rw[ae,g0,g0]at this;lia
noncomputable def LR(mask:Nat)(acc:Option (Array (Option Nat)×Nat))(h:Int):Option (Array (Option Nat)×Nat):=do
 let (owner,k) <-acc
 let j <-layClean.free mask owner (turns mask) (bits h % (mask+1)) (bits h)
 aR (owner.setIfInBounds j<|some k,k+1)
def agw(mask:Nat)(hs:Array Int):layClean mask hs=(hs.toList.foldl (LR mask)<|some (Array.replicate (mask+1) none,0)).map (·.1):=by unfold layClean;rw[<-Array.foldl_toList];rfl
def zp{owner:Array (Option Nat)}{j:Nat}{v:Option Nat}(hj:j<owner.size)(i:Nat):(owner.setIfInBounds j v)[i]?=if i=j then some v else owner[i]?:=by
 rw[Array.getElem?_setIfInBounds];by_cases e:j=i
 .subst e;rw[if_pos rfl,if_pos hj,if_pos rfl]
 .rw[if_neg e,if_neg<|Ne.symm e]
theorem ahg{mask k0:Nat}(iY:mask+1=2^k0)(hs:Z Int)(rS:hs.length<=mask):∀(aY:Z Int)(k:Nat) (owner:Array (Option Nat)),hs.drop k=aY->k<=hs.length->Own mask hs owner k->
  ∃qY,aY.foldl (LR mask) (some (owner,k))=some (qY,hs.length)/\Own mask hs qY hs.length
 | [],k,owner,hd,hk,o=>by
  have:hs.length<=k:=by have:=congrArg List.length hd;rw[fg]at this;simp at this;lia
  have e:k=hs.length:=by lia
  subst e;exact⟨owner,rfl,o⟩
 | h::aY,k,owner,hd,hk,o=>by
  have mI:k<hs.length:=by have:=congrArg List.length hd;rw[fg]at this;simp at this;lia
  have xA:hs[k]?=some h:=by
   have:(hs.drop k)[0]?=some h:=by rw[hd];rfl
   rw[gl]at this;simpa using this
  obtain⟨f,C4,hf⟩:=o.free (by lia);obtain⟨m,hm,em⟩:=au0 iY (bits h % (mask+1),bits h) (Lu h) f C4;have hb:bits h % (mask+1)<=mask:=by have:=Nat.mod_lt (bits h) (show 0<mask+1 by lia);lia
  obtain⟨j,n,e1,e2,e3,e4⟩:=afy iY o.size hf (turns mask) (bits h % (mask+1),bits h) hb (Lu h) ⟨m,hm,em⟩;have ej:rg mask h n=j:=e2;have uZ:j<owner.size:=by have:=(bx.mp e3).1;exact this
  have Cv:LR mask (some (owner,k)) h=some (owner.setIfInBounds j<|some k,k+1):=by show(layClean.free mask owner (turns mask) (bits h % (mask+1))<|bits h).bind _=_;rw[e1];rfl
  have tk:∀i,DR owner i->DR (owner.setIfInBounds j<|some k) i:=λi ⟨q,hq⟩=>by
   by_cases e:i=j
   .exact⟨k,by rw[zp uZ,if_pos e]⟩
   .exact⟨q,by rw[zp uZ,if_neg e];exact hq⟩
  have o':Own mask hs (owner.setIfInBounds j<|some k) (k+1):=by
   refine⟨by rw[Array.size_setIfInBounds];exact o.size,λi q hq=>?_,λq hq=>?_,λi i' q hq gR=>?_⟩
   .rw[zp uZ]at hq;by_cases e:i=j
    .rw[if_pos e]at hq;cases hq;exact⟨by lia,(ny h xA n ⟨by rw[ej,e],λn' fM=>tk _<|e4 n' fM⟩)⟩
    .rw[if_neg e]at hq;obtain⟨a,h',b,n',c,d⟩:=o.o1 i q hq;exact⟨by lia,(ny h' b n' ⟨c,λn'' Iy=>tk _<|d n'' Iy⟩)⟩
   .by_cases e:q=k
    .exact⟨j,by rw[zp uZ,if_pos rfl,e]⟩
    .obtain⟨i,hi⟩:=o.o2 q (by lia);have:i≠j:=λe'=>by rw[e',e3]at hi;cases hi
     exact⟨i,by rw[zp uZ,if_neg this];exact hi⟩
   .rw[zp uZ]at hq gR;by_cases e:i=j<;>by_cases e':i'=j
    .rw[e,e']
    .rw[if_pos e]at hq;rw[if_neg e']at gR;cases hq;have:=(o.o1 i' k gR).1;lia
    .rw[if_neg e]at hq;rw[if_pos e']at gR;cases gR;have:=(o.o1 i k hq).1;lia
    .rw[if_neg e]at hq;rw[if_neg e']at gR;exact o.o3 i i' q hq gR
  rw[List.foldl_cons,Cv];refine ahg iY hs rS aY (k+1) _ ?_ (by lia) o';rw[<-List.drop_drop,hd];rfl
def adc{mask k0:Nat}(iY:mask+1=2^k0)(hs:Array Int)(rS:hs.size<=mask):∃owner,layClean mask hs=some owner/\Own mask hs.toList owner hs.size:=by
 rw[agw];obtain⟨o,e,ok⟩:=ahg iY hs.toList (by rw[a0];exact rS) hs.toList 0 (Array.replicate (mask+1) none) rfl (f8 _) (by
  refine⟨by simp,λj q hq=>?_,λq hq=>by lia,λj j' q hq gR=>?_⟩
  .rw[Array.getElem?_replicate]at hq;split at hq<;>cases hq
  .rw[Array.getElem?_replicate]at hq;split at hq<;>cases hq)
 rw[e];exact⟨o,rfl,by rw[a0]at ok;exact ok⟩
theorem vq:∀(fuel k n:Nat),∃k',sizeAbove.go n fuel (2^k)=2^k'/\k<=k'/\k'<=k+fuel/\(n<2^(k+fuel)->n<2^k')/\(k'=k\/2^k'<=2*n)
 | 0,k,n=>⟨k,rfl,ao _,ao _,id,.inl rfl⟩
 | fuel+1,k,n=>by
  unfold sizeAbove.go;by_cases h:2^k<=n
  .rw[if_pos h,show 2^k*2=2^(k+1)from (j9 ..).symm];obtain⟨k',a,b,c,d,e⟩:=vq fuel (k+1) n;refine⟨k',a,by lia,by lia,λq=>d<|by rw[show k+1+fuel=k+(fuel+1) by lia];exact q,?_⟩;rcases e with e|e
   .rw[e,j9];lia
   .exact .inr e
  .rw[if_neg h];exact⟨k,rfl,ao _,by lia,λ_=>by lia,.inl rfl⟩
def uq(n:Nat)(hn:n<2^13):∃k,sizeAbove n=2^k/\3<=k/\k<=13/\n<2^k:=by
 obtain⟨k,a,b,c,d,e⟩:=vq 64 3 n;refine⟨k,a,b,?_,d<|Nat.lt_trans hn<|Nat.pow_lt_pow_right (by decide)<|by decide⟩;rcases e with e|e
 .lia
 .apply ij;intro h;have:2^14<=2^k:=ic (by decide) (by lia);have e14:2^14=2*2^13:=by decide
  lia
def ac4(n:Nat)(h8:8<=n)(hn:n<2^13){k:Nat}(e:sizeAbove n=2^k):k<=13/\n<2^k/\2^k<=2*n:=by
 obtain⟨k',a,b,c,d,e'⟩:=vq 64 3 n;obtain⟨k2,a2,_,b2,c2⟩:=uq n hn;have e1:k=k2:=(Nat.pow_right_inj<|by decide).mp (e.symm.trans a2);have e2:k2=k':=(Nat.pow_right_inj<|by decide).mp (a2.symm.trans a);subst e1;refine⟨b2,c2,?_⟩;rcases e' with e'|e'
 .rw[e2,e'];lia
 .rw[e2];exact e'
def ao1{m n k k':Nat}(hk:m+1=2^k)(k3:3<=k)(uM:k<=13)(ko:k % 2=1)(h1:m*3<=n*5)(h2:(n-1)*5<m*3)(h4:n<=4000)(iM:k'<=13)(l1:n*4<2^k')(l2:2^k'<=2*(n*4)):k' % 2=1:=by
 have p3:2^3<=2^k:=ic (by decide) k3;have a:¬k'<=k+1:=λh=>by have h:=ic (show 0<2 by decide) h;rw[j9]at h;lia
 have b:¬k+3<=k':=λh=>by have h:=ic (show 0<2 by decide) h;rw[Nat.pow_add]at h;lia
 lia
def ais{m n k:Nat}(hk:m+1=2^k)(k3:3<=k)(uM:k<=13)(ko:k % 2=1)(h1:m*3<=n*5)(h2:(n-1)*5<m*3)(h4:n<=4000):n*4<2^13/\2<=n:=by
 have p3:2^3<=2^k:=ic (by decide) k3;have a:k≠13:=λh=>by subst h;lia
 have h:=ic (show 0<2 by decide) (show k<=11 by lia);lia
theorem yp{α β:Type}{f:α->Option β}{g:α->β}:∀(l:List α),(∀x∈l,f x=some (g x))->l.filterMap f=l.map g
 | [],_=>rfl
 | a::l,h=>by rw[List.filterMap_cons,h a aq,eu,yp l λx hx=>h x<|av _ hx]
theorem agy{t:SetTable}{es:Array (Int×aA)}{cC:Nat}(hw:es.size*4<=cC)(EZ:cC<2^13)(yO:∀k,sizeAbove cC=2^k->k % 2=1)(gJ:0<es.size) :
  ∃t' gG,t.relaid (es.map (·.1)) cC=some (t',gG)/\TOk t' (gG.filterMap (es[·]?))/\(gG.filterMap (es[·]?)).toList.Perm es.toList/\t'.place.size*5<t'.mask*3/\t'.led=t.led:=by
 obtain⟨k,ek,k3,uM,hn⟩:=uq cC EZ;have ko:=yO k ek;have rR:sizeAbove cC-1+1=2^k:=by rw[ek];have:=Nat.two_pow_pos k;lia
 have rS:(es.map (·.1)).size<=sizeAbove cC-1:=by rw[Array.size_map,ek];lia
 obtain⟨owner,eo,ok⟩:=adc rR (es.map (·.1)) rS;rw[Array.size_map]at ok;generalize hm:sizeAbove cC-1=mask at *
 let live:=(e8<|mask+1).filterMap λj=>(owner.getD j none).map λq=>(j,q)
 have iF:∀j q,(j,q)∈live↔owner[j]?=some (some q):=λj q=>by
  show(j,q)∈(e8<|mask+1).filterMap _↔_;rw[List.mem_filterMap];constructor
  .rintro⟨a,ha,e⟩;have hs:a<owner.size:=by rw[ok.size];exact gq.mp ha
   simp only[Array.getD,dif_pos hs]at e;cases hv:owner[a]with
   | none=>
    have e':(owner[a]).map (λq=>(a,q))=some (j,q):=e;rw[hv]at e';cases e'
   | some v=>
    have e':(owner[a]).map (λq=>(a,q))=some (j,q):=e;rw[hv]at e';cases e';rw[bz hs,hv]
  .intro h;obtain⟨hs,hv⟩:=bx.mp h;refine⟨j,gq.mpr<|by rw[<-ok.size];exact hs,?_⟩;simp only[Array.getD,dif_pos hs];show(owner[j]).map (λq=>(j,q))=some (j,q);rw[hv];rfl
 have rK:(live.map (·.1)).Pairwise (· < ·):=by rw[gi];show((e8<|mask+1).filterMap _).Pairwise _;rw[List.pairwise_filterMap];refine List.Pairwise.imp ?_<|List.pairwise_lt_range (n:=mask+1);intro a b lD x hx y hy;obtain⟨q,_,rfl⟩:=fw.mp hx;obtain⟨q',_,rfl⟩:=fw.mp hy;exact lD
 have kM:(live.map (·.2)).Nodup:=by
  show List.Pairwise _ _;rw[gi];have h1:live.Pairwise λa b=>a.1<b.1:=by rw[gi]at rK;exact rK
  refine gu ?_ h1;intro a b ha hb lD e;have:=ok.o3 a.1 b.1 a.2 ((iF _ _).mp ha) (by rw[e];exact(iF _ _).mp hb);lia
 have jI:(live.map (·.2)).Perm (e8 es.size):=by
  rw[List.perm_ext_iff_of_nodup kM List.nodup_range];intro q;rw[ay,gq];constructor
  .rintro⟨⟨j,q'⟩,h,rfl⟩;exact(ok.o1 j q'<|(iF _ _).mp h).1
  .intro h;obtain⟨j,hj⟩:=ok.o2 q h;exact⟨(j,q),(iF _ _).mpr hj,rfl⟩
 have aZ:live.length=es.size:=by have:=jI.length_eq;rw[ae,g0]at this;exact this
 have C4:((live.map (·.2)).toArray.filterMap (es[·]?)).toList=live.map λx=>es[x.2]?.getD (0,.none):=by
  rw[Array.toList_filterMap];show List.filterMap _ (live.map (·.2))=_;rw[List.filterMap_map];have:∀x∈live,es[x.2]?=some (es[x.2]?.getD (0,.none)):=λx hx=>by have bS:=(ok.o1 x.1 x.2<|(iF x.1 x.2).mp hx).1;rw[bz bS];rfl
  exact yp live this
 have Ja:(live.map λx=>es[x.2]?.getD (0,.none)).Perm es.toList:=by
  have h1:=jI.map λq=>es[q]?.getD (0,.none);rw[b7]at h1;have h2:(e8 es.size).map (λq=>es[q]?.getD (0,.none))=es.toList:=by
   apply List.ext_getElem
   .simp
   .intro i a b;simp;rw[bz (by simpa using b)];rfl
  rw[h2]at h1;exact h1
 refine(l0 ⟨mask,(live.map (·.1)).toArray,#[],t.finger,t.led,t.movedTo mask,t.plain⟩ ((live.map (·.2)).toArray) ⟨?_,?_,?_,?_,rfl⟩)
 .unfold SetTable.relaid SetTable.laid;rw[hm,eo];rfl
 .refine⟨⟨k,rR,k3,uM,ko⟩,rfl,by simpa using rK,?_,?_,?_,?_⟩
  .intro j hj;have rX:j∈live.map (·.1):=by simpa using hj
   obtain⟨⟨j',q⟩,h,rfl⟩:=ay.mp rX;have:=(bx.mp<|(iF _ _).mp h).1;rw[ok.size]at this;show j'<=mask;lia
  .rw[<-a0 (xs:=Array.filterMap _ _),C4];simp
  .show(live.map (·.1)).toArray.size<=mask;simp;rw[Array.size_map]at rS;lia
  .intro j e hs;rw[C4]at hs;obtain⟨i,h1,h2⟩:=hs;have fN:(live.map (·.1))[i]?=some j:=by simpa using h1
   rw[bo]at fN h2;cases hl:live[i]? with
   | none=>rw[hl]at fN;cases fN
   | some x=>
    rw[hl]at fN h2;obtain⟨j',q⟩:=x;cases fN;obtain⟨hq,h,a,n,b,c⟩:=ok.o1 j' q<|(iF _ _).mp (ai hl);have e2:es[q]?.getD (0,.none)=e:=by cases h2;rfl
    have e3:e.1=h:=by
     rw[<-e2,bz hq];have a':(es.map (·.1))[q]?=some h:=by rw[<-bm];exact a
     rw[Array.getElem?_map,bz hq]at a';simpa using a'
    rw[e3];refine⟨n,b,λn' fM=>?_⟩;obtain⟨q',gR⟩:=c n' fM;have:rg mask h n'∈live.map (·.1):=ay.mpr ⟨(rg mask h n',q'),(iF _ _).mpr gR,rfl⟩;simpa using this
 .rw[C4];exact Ja
 .show(live.map (·.1)).toArray.size*5<mask*3;simp;rw[aZ];lia
end L3
namespace L3
open PySem
variable{Pv:aA->U->Prop}
mutual
noncomputable def kd:U->Bool
 | .int _=>true
 | .str _=>true
 | .tuple ds=>wv ds
 | .none=>false
 | .bool _=>false
 | .list _=>false
 | .dict _=>false
noncomputable def wv:Z U->Bool
 | []=>true
 | d::ds=>kd d&&wv ds
end
mutual
noncomputable def vT(w:aO):U->Int
 | .int i=>hashInt i
 | .str x=>eM w x
 | .tuple ds=>AB (jx<|vg w ds)
 | .none=>0
 | .bool _=>0
 | .list _=>0
 | .dict _=>0
noncomputable def vg(w:aO):Z U->Z Int
 | []=>[]
 | d::ds=>vT w d::vg w ds
end
def F4(d:U):Prop:=∀(prog:aK)(w:aO)(A:Around)(E:aA->aB->Prop)(s:aB)(v:aA)(as:Z aF)(Q:Int->aB->Prop),Reads s.heap v d as->A.units+d.depth<bI->(∀tk,s.toks<=tk->Q (vT w d) {s with toks:=tk})->aG (aH prog w) A (pyHash v) Q E s
theorem ajm{ds:Z U}(H:∀d∈ds,F4 d):F4 (.tuple ds):=λprog w A E s v as Q r hu h=>by
 cases r with
 | @tuple a o vs n _ _ ho hc hd hi=>
 have hT:s.TypeIs (.ref a) "tuple":=⟨o,ho,hc⟩;have E2:A.units+(bu ds+1)<bI:=hu;unfold pyHash;first|unfold pyHashByItsType|skip
 first|refine ab (wpAny_cRoomFor_or (.inr (show A.units<bI by lia)) ?_)|skip
 refine ab<|j5 (name:="__hash__") hT F.slot_tuple_hash.lookup ?_;show aG _ _ (if (some (aA.builtin "tuple.__hash__")==some aA.none)=true then _ else _) _ _ _;rw[if_neg (show ¬_ by rw[beq_builtin_none];exact am)];refine ab<|j5 (name:="__hash__") hT F.slot_tuple_hash.lookup ?_;show aG _ _ (callSpecialIfBoundUnlessNone? (.ref a) "__hash__" _ >>= _) _ _ _;refine ab<|wpAny_callSpecialIfBoundUnlessNone?_slot (name:="__hash__") hT F.slot_tuple_hash<|dz (name:="__hash__") F.slot_tuple_hash hT F.entry_tuple_hash ?_<|F.args_tuple_hash_1 _;show aG _ _ (Builtin.Tuple.tupleItemsOf (.ref a) >>= _) _ _ _;refine ab<|wpAny_tupleItemsOf (n:=n) ho hd ?_;refine ab ?_;rw[<-Array.forIn_toList];refine cI _
  (λaY (b:Array Int) s'=>∃done left bs tk,ds=done++left/\ReadsAll s.heap aY left bs/\b.toList=vg w done/\s'={s with toks:=tk}/\s.toks<=tk)
  _ (λx aY b s' hI=>?_) (λb s' hI=>?_) _ _ (l9 ([]) ds as s.toks ⟨rfl,hi,rfl,rfl,ao _⟩)
 .obtain⟨done,left,bs,tk,e,hl,hb,rfl,hk⟩:=hI;cases hl with
  | @cons _ _ d cZ _ _ h1 AS=>
   have hmem:d∈ds:=by rw[e];simp
   have vA:∀(l:Z U),d∈l->d.depth<=bu l:=λl=>by
    induction l with
    | nil=>intro q;cases q
    | cons y l ih=>
     intro q;show _<=ET y.depth (bu l);rcases a7.mp q with rfl|q
     .exact Nat.le_max_left _ _
     .exact ie (ih q)<|Nat.le_max_right _ _
   have wY:=vA ds hmem;refine ab<|H d hmem prog w _ E {s with toks:=tk} x _ _ h1 (by show A.units+1+d.depth<bI;lia) λEJ eD=>?_;have Fh:∀(l:Z U),vg w (l++[d])=vg w l++[vT w d]:=λl=>by
    induction l with
    | nil=>rfl
    | cons y l ih=>show vT w y::vg w (l++[d])=_;rw[ih];rfl
   first
    | exact aj (l9 (done++[d]) cZ _ EJ ⟨by simp[e],AS,by simp[hb,Fh],rfl,ie hk eD⟩)
    | exact ab<|aj<|aj ⟨done++[d],cZ,_,EJ,by simp[e],AS,by simp[hb,Fh],rfl,ie hk eD⟩
 .obtain⟨done,left,bs,tk,e,hl,hb,rfl,hk⟩:=hI;cases hl;rw[fj]at e;subst e;show aG _ _ (retInt<|jx b.toList) _ _ _;rw[hb];refine wpAny_ret_mkInt ?_;show aG _ _ (if (decide (-(2:Int)^63<=jx (vg w ds))&&decide (jx (vg w ds)<2^63))=true then _ else _) _ _ _;have h':∀tk,s.toks<=tk->Q (AB<|jx<|vg w ds) {s with toks:=tk}:=h;unfold AB at h';split
  .rename_i hr
   rw[if_pos hr]at h';exact aj<|h' _<|by simp only;lia
  .rename_i hr
   rw[if_neg hr]at h';exact ab<|jl<|aj<|h' _<|by simp only;lia
mutual
theorem acg:∀(d:U),kd d=true->F4 d
 | .int i,_=>λprog w A E s v as Q r hu h=>by
  cases r with
  | int=>exact EF (h _<|by lia)
 | .str x,_=>λprog w A E s v as Q r hu h=>by
  cases r with
  | str=>exact EE (h _<|by lia)
 | .tuple ds,hk=>ajm (x6 ds hk)
 | .none,hk=>absurd hk am
 | .bool _,hk=>absurd hk am
 | .list _,hk=>absurd hk am
 | .dict _,hk=>absurd hk am
theorem x6:∀(ds:Z U),wv ds=true->∀d∈ds,F4 d
 | [],_,d,hd=>by cases hd
 | e::ds,hk,d,hd=>by
  have eD:(kd e&&wv ds)=true:=hk;rw[gh]at eD;rcases a7.mp hd with h|hd
  .rw[h];exact acg e eD.1
  .exact x6 ds eD.2 d hd
end
mutual
theorem Bv:∀(d e:U),kd d=true->kd e=true->br d e=true->d=e
 | .int i,e,_,he,h=>by cases e<;>simp[br,kd]at h he⊢;exact h
 | .str x,e,_,he,h=>by cases e<;>simp[br,kd]at h he⊢;exact h
 | .tuple ds,e,hd,he,h=>by
  cases e with
  | tuple es=>
   have:=Mm ds es hd he (by simpa [br]using h);rw[this]
  | _=>simp[br,kd]at h he
 | .none,_,hd,_,_=>absurd hd am
 | .bool _,_,hd,_,_=>absurd hd am
 | .list _,_,hd,_,_=>absurd hd am
 | .dict _,_,hd,_,_=>absurd hd am
theorem Mm:∀(ds es:Z U),wv ds=true->wv es=true->df ds es=true->ds=es
 | [],[],_,_,_=>rfl
 | [],_::_,_,_,h=>by simp[df]at h
 | _::_,[],_,_,h=>by simp[df]at h
 | d::ds,e::es,hd,he,h=>by
  have vB:(kd d&&wv ds)=true:=hd;have iZ:(kd e&&wv es)=true:=he;rw[gh]at vB iZ;have h':br d e=true/\df ds es=true:=by simpa [df]using h
  rw[Bv d e vB.1 iZ.1 h'.1,Mm ds es vB.2 iZ.2 h'.2]
end
theorem sx{h:Heap}:∀{vs:Z aA} {ds:Z U} {as:Z aF},ReadsAll h vs ds as->∀v∈vs,∃d bs,d∈ds/\Reads h v d bs
 | _,_,_,.nil,v,hv=>by cases hv
 | _,_,_,.cons h1 h2,v,hv=>by
  rcases a7.mp hv with e|hv
  .rw[e];exact(l0 _ _ ⟨aq,h1⟩)
  .obtain⟨d,bs,q1,q2⟩:=sx h2 v hv;exact(l0 d bs ⟨av _ q1,q2⟩)
theorem Gc:∀{ds:Z U},wv ds=true->∀d∈ds,kd d=true
 | [],_,d,hd=>by cases hd
 | e::ds,hk,d,hd=>by
  have eD:(kd e&&wv ds)=true:=hk;rw[gh]at eD;rcases a7.mp hd with h|hd
  .rw[h];exact eD.1
  .exact Gc eD.2 d hd
theorem LS:∀{ds:Z U},∀d∈ds,d.depth<=bu ds
 | [],d,hd=>by cases hd
 | e::ds,d,hd=>by
  show _<=ET e.depth (bu ds);rcases a7.mp hd with h|hd
  .rw[h];exact Nat.le_max_left _ _
  .exact ie (LS d hd)<|Nat.le_max_right _ _
section
variable{prog:aK}{w:aO}{A:Around}{E:aA->aB->Prop}{s:aB}
theorem abz(n:Nat):∀{v:aA} {d:U} {as:Z aF} {Q:Bool->aB->Prop},kd d=true->Reads s.heap v d as->d.depth<n->Q true s->aG (aH prog w) A (eqIsQuiet n v) Q E s:=by
 induction n with
 | zero=>intro v d as Q hk r hn q;exact absurd hn (fu _)
 | succ n ih=>
  intro v d as Q hk r hn q;cases d with
  | int i=>cases r with|int=>rw[Dv _ rfl];exact aj q
  | str x=>cases r with|str=>rw[Dv _ rfl];exact aj q
  | tuple ds=>
    cases r with
    | @tuple a o vs m _ _ ho hc hd hi=>
    have hT:s.TypeIs (.ref a) "tuple":=⟨o,ho,hc⟩;have fM:bu ds+1<n+1:=hn;unfold eqIsQuiet;refine ab<|j5 (name:="__eq__") hT F.slot_tuple_eq.lookup ?_;show aG _ _ (isInstance (.ref a) (.type "tuple") >>= _) _ _ _;refine ab<|kj (T:="tuple") hT isSubtype_tuple_tuple ?_;simp only[i6,a9,if_false];refine ab<|jc (n:=m) ho hd ?_;refine ab ?_;show aG _ _ (xH vs _ _) _ _ _;rw[<-Array.forIn_toList];refine cI _ (λaY r s'=>r.1=none/\s'=s/\∀v∈aY,v∈vs.toList) _ (λv aY r s' hI=>?_) (λr s' hI=>?_) _ _ ⟨rfl,rfl,λv hv=>hv⟩
    .obtain⟨hr,es,aS⟩:=hI;rw[es];obtain⟨d,bs,wY,jJ⟩:=sx hi v<|aS v aq;refine ab<|ih (Gc hk d wY) jJ (by have:=LS d wY;lia) ?_;simp only[i6,a9,if_false];exact aj ⟨rfl,rfl,λu hu=>aS u<|av _ hu⟩
    .obtain⟨r1,r2⟩:=r;obtain⟨hr,rfl,_⟩:=hI;simp only at hr;subst hr;exact aj q
  | none=>exact absurd hk am
  | bool _=>exact absurd hk am
  | list _=>exact absurd hk am
  | dict _=>exact absurd hk am
theorem abb(n:Nat):∀{v:aA} {d:U} {as:Z aF} {Q:Bool->aB->Prop},kd d=true->Reads s.heap v d as->d.depth<n->Q false s->aG (aH prog w) A (fB n v) Q E s:=by
 induction n with
 | zero=>intro v d as Q hk r hn q;exact absurd hn (fu _)
 | succ n ih=>
  intro v d as Q hk r hn q;cases d with
  | int i=>cases r with|int=>unfold fB;exact aj q
  | str x=>cases r with|str=>unfold fB;exact aj q
  | tuple ds=>
    cases r with
    | @tuple a o vs m _ _ ho hc hd hi=>
    have hT:s.TypeIs (.ref a) "tuple":=⟨o,ho,hc⟩;have fM:bu ds+1<n+1:=hn;unfold fB;refine ab<|dC (T:="tuple") hT ?_;dsimp only;rw[if_pos (by decide)];refine ab<|aj ?_;simp only[i6,a9,if_false];refine ab<|jc (n:=m) ho hd ?_;dsimp only;refine ab ?_;rw[<-Array.forIn_toList];refine cI _ (λaY r s'=>r.1=none/\s'=s/\∀v∈aY,v∈vs.toList) _ (λv aY r s' hI=>?_) (λr s' hI=>?_) _ _ ⟨rfl,rfl,λv hv=>hv⟩
    .obtain⟨hr,es,aS⟩:=hI;rw[es];obtain⟨d,bs,wY,jJ⟩:=sx hi v<|aS v aq;refine ab<|ih (Gc hk d wY) jJ (by have:=LS d wY;lia) ?_;simp only[a9,if_false];exact aj ⟨rfl,rfl,λu hu=>aS u<|av _ hu⟩
    .obtain⟨r1,r2⟩:=r;obtain⟨hr,rfl,_⟩:=hI;simp only at hr;subst hr;exact aj q
  | none=>exact absurd hk am
  | bool _=>exact absurd hk am
  | list _=>exact absurd hk am
  | dict _=>exact absurd hk am
theorem aaw:∀(n:Nat) {v:aA} {d:U} {as:Z aF} {Q:Bool->aB->Prop},kd d=true->Reads s.heap v d as->(∀b,Q b s)->aG (aH prog w) A (iK n v) Q E s
 | n,v,.int i,as,Q,hk,r,q=>by cases r with|int=>unfold iK;exact aj (q _)
 | n,v,.str x,as,Q,hk,r,q=>by cases r with|str=>unfold iK;exact aj (q _)
 | 0,v,.tuple ds,as,Q,hk,r,q=>by cases r with|tuple=>unfold iK;exact aj (q _)
 | n+1,v,.tuple ds,as,Q,hk,r,q=>by
  cases r with
  | @tuple a o vs m _ _ ho hc hd hi=>
  have hT:s.TypeIs (.ref a) "tuple":=⟨o,ho,hc⟩;unfold iK;refine ab<|j5 (name:="__hash__") hT F.slot_tuple_hash.lookup ?_;dsimp only;refine ab<|jc (n:=m) ho hd ?_;refine ab ?_;show aG _ _ (xH vs _ _) _ _ _;rw[<-Array.forIn_toList];refine cI _ (λaY r s'=>r.1=none/\s'=s/\∀v∈aY,v∈vs.toList) _ (λv aY r s' hI=>?_) (λr s' hI=>?_) _ _ ⟨rfl,rfl,λv hv=>hv⟩
  .obtain⟨hr,es,aS⟩:=hI;rw[es];obtain⟨d,bs,wY,jJ⟩:=sx hi v<|aS v aq;refine ab<|aaw n (Gc hk d wY) jJ λb=>?_;cases b with
   | true=>
    simp only[i6,a9,if_false];exact aj ⟨rfl,rfl,λu hu=>aS u<|av _ hu⟩
   | false=>
    simp only[Bool.not_false,if_true];exact aj<|aj<|q _
  .obtain⟨r1,r2⟩:=r;obtain⟨hr,rfl,_⟩:=hI;simp only at hr;subst hr;exact aj (q _)
 | _,_,.none,_,_,hk,_,_=>absurd hk am
 | _,_,.bool _,_,_,hk,_,_=>absurd hk am
 | _,_,.list _,_,_,hk,_,_=>absurd hk am
 | _,_,.dict _,_,_,hk,_,_=>absurd hk am
structure El(Pv:aA->U->Prop)(w:aO)(h:Heap)(e:Int×aA)(d:U):Prop where
 own:Pv e.2 d
 hash:e.1=vT w d
 key:kd d=true
 tup:∃ds,d=.tuple ds
 lay:d.canLay0=true
 deep:d.depth<8
 reads:∃as,Reads h e.2 d as
theorem El.ref{w:aO}{h:Heap}{e:Int×aA}{d:U}(x:El Pv w h e d):∃a,e.2=.ref a:=by
 obtain⟨ds,rfl⟩:=x.tup;obtain⟨as,r⟩:=x.reads;generalize e.2=v at r;cases r with
 | tuple=>exact⟨_,rfl⟩
def El.eq{h:Heap}{A:Around}{e e':Int×aA}{d d':U}(hs:s.heap=h)(x:El Pv w h e d)(y:El Pv w h e' d')(hu:A.units+8<bI){Q:Bool->aB->Prop}(q:∀b:Bool,(b=true↔d=d')->Q b s):aG (aH prog w) A (eqBool e.2 e'.2) Q E s:=by subst hs;obtain⟨as,r⟩:=x.reads;obtain⟨bs,r'⟩:=y.reads;refine SeqAt.eqBoolOverData prog w A E s _ _ d d' as bs Q r r' x.lay y.lay (by have:=x.deep;have:=Nat.min_le_left d.depth d'.depth;lia) ?_;refine q _ ⟨λz=>Bv d d' x.key y.key z,λz=>?_⟩;rw[<-z];exact jy _ x.lay
theorem aqx{x:Int×aA}{d:U}(hx:El Pv w s.heap x d):∀(ys:Z aA) {Q:Bool->aB->Prop},(∀y∈ys,∃h e,El Pv w s.heap (h,y) e)->Q false s->aG (aH prog w) A (BW x.2 ys) Q E s:=by
 intro ys Q hy q;unfold BW;refine ab ?_;refine cI _ (λaY r s'=>r.1=none/\s'=s/\∀v∈aY,v∈ys) _ (λv aY r s' hI=>?_) (λr s' hI=>?_) _ _ ⟨rfl,rfl,λv hv=>hv⟩
 .obtain⟨hr,rfl,aS⟩:=hI;obtain⟨h,e,hE⟩:=hy v<|aS v aq;obtain⟨a,ea⟩:=hx.ref;obtain⟨b,eb⟩:=hE.ref;obtain⟨as,r1⟩:=hx.reads;obtain⟨bs,r2⟩:=hE.reads;have nxt:∀u∈aY,u∈ys:=λu hu=>aS u<|av _ hu;simp only at eb r2;have stay:aG (aH prog w) A (aR (ForInStep.yield ((none:Option Bool),())):nP (ForInStep<|Option Bool×Unit)) (λr BY=>match r with
   | ForInStep.yield b'=>b'.fst=none/\BY=s'/\∀(v:aA),v∈aY->v∈ys
   | ForInStep.done b'=>aG (aH prog w) A (match b'.fst with|some r=>aR r|none=>aR false) Q E BY) E s':=aj ⟨rfl,rfl,nxt⟩
  subst eb;rw[ea]at r1⊢;dsimp only;split
  .exact stay
  .refine ab<|abz 8 hx.key r1 hx.deep ?_;simp only[i6,a9,if_false];refine ab<|abz 8 hE.key r2 hE.deep ?_;simp only[i6,a9,if_false];refine ab<|abb 8 hx.key r1 hx.deep ?_;simp only[a9,if_false];refine ab<|abb 8 hE.key r2 hE.deep ?_;simp only[a9,if_false];exact stay
 .obtain⟨r1,r2⟩:=r;obtain⟨hr,rfl,_⟩:=hI;simp only at hr;subst hr;exact aj q
def Els(Pv:aA->U->Prop)(w:aO)(h:Heap)(es:Z (Int×aA))(ds:Z U):Prop:=es.length=ds.length/\∀(i:Nat) e d,es[i]?=some e->ds[i]?=some d->El Pv w h e d
def Els.at{h:Heap}{es:Z (Int×aA)}{ds:Z U}(x:Els Pv w h es ds){i:Nat}{e:Int×aA}(he:es[i]?=some e):∃d,ds[i]?=some d/\El Pv w h e d:=by have hl:=(af.mp he).1;have hd:ds[i]?=some (ds[i]'(by rw[<-x.1];exact hl)):=ah _;exact⟨_,hd,x.2 i e _ he hd⟩
def am0{t:SetTable}{es:Array (Int×aA)}(ok:TOk t es){f:Nat->Int}{h:Int}{p:SetTable.Probe}(st:vR t.mask p) :
  ∃met,t.probe f h p=some met/\((∃n,met=.empty (itn (adv t.mask) n p).j p.dummy/\(itn (adv t.mask) n p).j∉t.place.toList/\∀n',n'<n->∃i:Nat,t.place[i]?=some (itn (adv t.mask) n' p).j/\f i≠h)\/
  (∃n i,met=.candidate (itn (adv t.mask) n p).j i (itn (adv t.mask) (n+1) p)/\t.place[i]?=some (itn (adv t.mask) n p).j/\f i=h/\∀n',n'<n->∃i':Nat,t.place[i']?=some (itn (adv t.mask) n' p).j/\f i'≠h)):=by
 rcases ajb ok f h st with ⟨n,e,r⟩|⟨n,i,e,r⟩
 .exact⟨_,e,.inl ⟨n,rfl,r⟩⟩
 .exact⟨_,e,.inr<|l0 n i ⟨rfl,r⟩⟩
theorem aed(mask:Nat):∀(n:Nat)(p:SetTable.Probe),(itn (adv mask) n p).dummy=p.dummy
 | 0,_=>rfl
 | n+1,p=>by show(itn (adv mask) n<|adv mask p).dummy=_;rw[aed mask n];unfold adv;split<;>rfl
theorem acb{a:aF}{o:Obj}{es:Array (Int×aA)}{ep:Nat}{t:SetTable}{ds:Z U}{x:Int×aA}{d:U}{Q:SetFound->aB->Prop}
  (ho:s.heap.get? a=some o) (hd:o.data=.set es ep t) (ok:TOk t es) (els:Els Pv w s.heap es.toList ds) (hx:El Pv w s.heap x d) (hu:A.units+8<bI)
  (q1:d∈ds->Q (.there none) s) (q2:∀n,d∉ds->rg t.mask x.1 n∉t.place.toList->(∀n',n'<n->rg t.mask x.1 n'∈t.place.toList)->Q (.free (rg t.mask x.1 n) false) s) :
  ∀(fuel m N:Nat)(nU:Option SetTable.Probe),nU.getD (st0 t.mask x.1)=itn (adv t.mask) m (st0 t.mask x.1)->rg t.mask x.1 N∉t.place.toList->N<m+fuel->
   (∀n',n'<m->∃i:Nat,t.place[i]?=some (rg t.mask x.1 n')/\ds[i]?≠some d)->aG (aH prog w) A (pQ a x.2 x.1 true fuel nU) Q E s
 | 0,m,N,nU,gQ,hN,hf,hm=>by exfalso;obtain⟨i,h1,h2⟩:=hm N (by lia);exact hN (by rw[<-bm]at h1;exact ai h1)
 | fuel+1,m,N,nU,gQ,hN,hf,hm=>by
  unfold pQ;refine ab<|g8 ho hd ok.fits ?_;dsimp only;rw[ok.noway];simp only[a9,if_false];rw[anj,gQ];have yK:vR t.mask (itn (adv t.mask) m<|st0 t.mask x.1):=Mi m<|yk _ _;have nY:∀n,(itn (adv t.mask) n<|itn (adv t.mask) m<|st0 t.mask x.1).j=rg t.mask x.1 (m+n):=λn=>by unfold rg;rw[uo]
  have inj:∀{i i' j:Nat},t.place[i]?=some j->t.place[i']?=some j->i=i':=λ{i i' j} h1 h2=>by rw[<-L7 ok.rise h1,L7 ok.rise h2]
  have xJ:∀{i j:Nat},t.place[i]?=some j->∃e di,es[i]?=some e/\ds[i]?=some di/\El Pv w s.heap e di:=λ{i j} h1=>by have hl:=(bx.mp h1).1;have he:es[i]?=some (es[i]'(by rw[<-ok.sz];exact hl)):=bz _;obtain⟨di,h2,h3⟩:=els.at (by rw[bm];exact he);exact(l0 _ di ⟨he,h2,h3⟩)
  obtain⟨met,hp,Iz⟩:=am0 ok (f:=_) (h:=x.1) yK;rw[hp];have DG:∀{n i:Nat},t.place[i]?=some (itn (adv t.mask) n<|itn (adv t.mask) m<|st0 t.mask x.1).j->(es[i]?.map (·.1)).getD 0≠x.1->ds[i]?≠some d:=λ{n i} h1 h2 h3=>by obtain⟨e,di,g1,g2,g3⟩:=xJ h1;rw[g2]at h3;cases h3;apply h2;rw[g1];show e.1=x.1;rw[g3.hash,hx.hash]
  rcases Iz with ⟨n,rfl,bZ,zB⟩|⟨n,i,rfl,iE,hfi,zB⟩
  .have Dc:∀n',n'<n->∃i:Nat,t.place[i]?=some (itn (adv t.mask) n'<|itn (adv t.mask) m<|st0 t.mask x.1).j/\ds[i]?≠some d:=λn' fM=>by
    obtain⟨i',h1,h2⟩:=zB n' fM;exact⟨i',h1,DG h1 h2⟩
   dsimp only;rw[aed];show aG _ _ (aR _) _ _ _;rw[nY]at bZ⊢;have sX:∀n',n'<m+n->∃i:Nat,t.place[i]?=some (rg t.mask x.1 n')/\ds[i]?≠some d:=λn' fM=>by
    by_cases hq:n'<m
    .exact hm n' hq
    .obtain⟨i',h1,h2⟩:=Dc (n'-m) (by lia);rw[nY,show m+(n'-m)=n' by lia]at h1;exact⟨i',h1,h2⟩
   refine aj<|q2 (m+n) (λkO=>?_) bZ λn' fM=>?_
   .obtain⟨k,hk⟩:=dg kO;have mI:=(af.mp hk).1;have hke:es.toList[k]?=some (es.toList[k]'(by rw[els.1];exact mI)):=ah _;have iI:=els.2 k _ d hke hk;have tR:t.place[k]?=some (t.place[k]'(by rw[ok.sz,<-a0,els.1];exact mI)):=bz _;obtain⟨n',fM,hr⟩:=ok.ahead (j:=t.place[k]'(by rw[ok.sz,<-a0,els.1];exact mI)) (e:=es.toList[k]'(by rw[els.1];exact mI)) ⟨k,by rw[bm];exact tR,hke⟩ (n:=m+n) (by rw[iI.hash,<-hx.hash];exact bZ);rw[iI.hash,<-hx.hash]at hr;obtain⟨i',g1,g2⟩:=sX n' fM;rw[hr]at g1;have e:=inj tR g1;rw[<-e]at g2;exact g2 hk
   .obtain⟨i',g1,_⟩:=sX n' fM;rw[<-bm]at g1;exact ai g1
  .obtain⟨e,di,g1,g2,g3⟩:=xJ iE;obtain⟨eh,y⟩:=e;obtain⟨ya,ey⟩:=g3.ref;have ey':y=.ref ya:=ey;subst ey';dsimp only;have fin:aG (aH prog w) A (pQ a x.2 x.1 true fuel<|some<|itn (adv t.mask) (n+1)<|itn (adv t.mask) m<|st0 t.mask x.1) Q E s\/di=d:=by
    by_cases hq:di=d
    .exact .inr hq
    .refine .inl<|acb ho hd ok els hx hu q1 q2 fuel (m+n+1) N _ ?_ hN (by lia) λn' fM=>?_
     .show itn (adv t.mask) (n+1) (itn (adv t.mask) m<|st0 t.mask x.1)=_;rw[<-uo];rfl
     .by_cases pC:n'<m
      .exact hm n' pC
      .by_cases nI:n'-m<n
       .obtain⟨i',h1,h2⟩:=zB (n'-m) nI;have h3:=DG h1 h2;rw[nY,show m+(n'-m)=n' by lia]at h1;exact⟨i',h1,h3⟩
       .rw[nY,show m+n=n' by lia]at iE;exact⟨i,iE,by rw[g2];intro z;cases z;exact hq rfl⟩
   have DF:∀(b:Bool),(b=true↔di=d)->(b=true->aG (aH prog w) A (aR<|SetFound.there none) Q E s):=λb hb hbt=>aj (q1 (by
    rw[<-hb.mp hbt];exact ai g2))
   rw[g1];dsimp only;have sm:t.sameMemory t.moves t.mask=some true:=by unfold SetTable.sameMemory;simp
   cases cX:t.led with
   | true=>
    simp only[i6,a9,if_false];refine ab<|gm<|El.eq rfl g3 hx hu λb hb=>?_;refine ab<|g8 ho hd ok.fits ?_;cases b with
    | true=>
     simp only[Bool.and_self,if_true];exact DF true hb rfl
    | false=>
     simp only[Bool.and_false,a9,if_false];rw[sm];dsimp only;rw[if_pos rfl,Mn ok.rise iE];dsimp only;rw[g1];dsimp only;refine ab<|uG ?_;refine ab<|aj ?_;simp only[if_true,a9,if_false];rcases fin with f|f
     .exact f
     .exact absurd (hb.mpr f) (by simp)
   | false=>
    simp only[Bool.not_false,if_true];refine ab<|aqx hx _ (λy hy=>?_) ?_
    .obtain⟨e,he,rfl⟩:=ay.mp hy;have iZ:e∈es.toList:=by
      rw[Array.toList_filter]at he;exact(List.mem_filter.mp he).1
     obtain⟨k,hk⟩:=dg iZ;obtain⟨dk,_,hE⟩:=els.at hk;exact(l0 e.1 dk hE)
    simp only[a9,if_false];refine ab<|gm<|El.eq rfl g3 hx hu λb hb=>?_;refine ab<|g8 ho hd ok.fits ?_;cases b with
    | true=>
     simp only[Bool.and_self,if_true];exact DF true hb rfl
    | false=>
     simp only[Bool.and_false,a9,if_false];rw[sm];dsimp only;rw[if_pos rfl,Mn ok.rise iE];dsimp only;rw[g1];dsimp only;refine ab<|uG ?_;refine ab<|aj ?_;simp only[if_true,a9,if_false];rcases fin with f|f
     .exact f
     .exact absurd (hb.mpr f)<|by simp
end
end L3
namespace L3
open PySem
variable{Pv:aA->U->Prop}
def amm{w:aO}{h:Heap}{ds:Z U}(x:Els Pv w h [] ds):ds=[]:=List.length_eq_zero_iff.mp x.1.symm
theorem ym{w:aO}{h:Heap}{e:Int×aA}{es:Z (Int×aA)}{ds:Z U}(x:Els Pv w h (e::es) ds):∃d cZ,ds=d::cZ/\El Pv w h e d/\Els Pv w h es cZ:=by
 match ds,x with
 | [],x=>exact absurd x.1 (by simp)
 | d::cZ,x=>exact(l0 d cZ ⟨rfl,x.2 0 e d rfl rfl,by have:=x.1;simpa using this,λi e' d' h1 h2=>x.2 (i+1) e' d' h1 h2⟩)
theorem Els.cons{w:aO}{h:Heap}{e:Int×aA}{d:U}{es:Z (Int×aA)}{ds:Z U}(hd:El Pv w h e d)(x:Els Pv w h es ds):Els Pv w h (e::es) (d::ds):=by
 refine⟨by rw[bp,bp,x.1],λi e' d' h1 h2=>?_⟩;cases i with
 | zero=>cases h1;cases h2;exact hd
 | succ i=>exact x.2 i e' d' h1 h2
def Els.nil{w:aO}{h:Heap}:Els Pv w h [] []:=⟨rfl,λi e d h1 _=>by simp at h1⟩
theorem Els.append{w:aO}{h:Heap}:∀{es fs:Z (Int×aA)} {ds gs:Z U},Els Pv w h es ds->Els Pv w h fs gs->Els Pv w h (es++fs) (ds++gs)
 | [],fs,ds,gs,x,y=>by rw[amm x];exact y
 | e::es,fs,ds,gs,x,y=>by obtain⟨d,cZ,rfl,h1,h2⟩:=ym x;exact Els.cons h1<|h2.append y
theorem Els.take{w:aO}{h:Heap}{es:Z (Int×aA)}{ds:Z U}(x:Els Pv w h es ds)(n:Nat):Els Pv w h (es.take n) (ds.take n):=by
 refine⟨by rw[bf,bf,x.1],λi e d h1 h2=>?_⟩;have hi:i<n:=by have:=(af.mp h1).1;rw[bf]at this;lia
 rw[fy hi]at h1 h2;exact x.2 i e d h1 h2
theorem Els.drop{w:aO}{h:Heap}{es:Z (Int×aA)}{ds:Z U}(x:Els Pv w h es ds)(n:Nat):Els Pv w h (es.drop n) (ds.drop n):=by refine⟨by rw[fg,fg,x.1],λi e d h1 h2=>?_⟩;rw[gl]at h1 h2;exact x.2 _ e d h1 h2
theorem Els.perm{w:aO}{h:Heap}{es fs:Z (Int×aA)}(p:es.Perm fs):∀{ds:Z U},Els Pv w h fs ds->∃cZ,cZ.Perm ds/\Els Pv w h es cZ:=by
 induction p with
 | nil=>intro ds x;exact⟨ds,jw _,x⟩
 | cons e p ih=>
  intro ds x;obtain⟨d,jD,rfl,h1,h2⟩:=ym x;obtain⟨DA,p2,x2⟩:=ih h2;exact⟨d::DA,p2.cons d,x2.cons h1⟩
 | swap a b l=>
  intro ds x;obtain⟨d,jD,rfl,h1,h2⟩:=ym x;obtain⟨d',DA,rfl,h3,h4⟩:=ym h2;exact⟨d'::d::DA,List.Perm.swap _ _ _,(h4.cons h1).cons h3⟩
 | trans p1 p2 ih1 ih2=>
  intro ds x;obtain⟨jD,q1,x1⟩:=ih2 x;obtain⟨DA,q2,x2⟩:=ih1 x1;exact⟨DA,q2.trans q1,x2⟩
def u6(h h':Heap):Prop:=∀b ob,h.get? b=some ob->ob.cls=.type "tuple"->h'.get? b=some ob
mutual
theorem acu{h h':Heap}(t:u6 h h'):∀(d:U) {v:aA} {as:Z aF},kd d=true->Reads h v d as->Reads h' v d as
 | .int i,v,as,_,r=>by cases r with|int=>exact .int _ _
 | .str x,v,as,_,r=>by cases r with|str=>exact .str _ _
 | .tuple ds,v,as,hk,r=>by
  cases r with
  | tuple ho hc hd hi=>exact .tuple (t _ _ ho hc) hc hd (yg t ds hk hi)
 | .none,_,_,hk,_=>absurd hk am
 | .bool _,_,_,hk,_=>absurd hk am
 | .list _,_,_,hk,_=>absurd hk am
 | .dict _,_,_,hk,_=>absurd hk am
theorem yg{h h':Heap}(t:u6 h h'):∀(ds:Z U) {vs:Z aA} {as:Z aF},wv ds=true->ReadsAll h vs ds as->ReadsAll h' vs ds as
 | [],vs,as,_,r=>by cases r;exact .nil
 | d::ds,vs,as,hk,r=>by
  have eD:(kd d&&wv ds)=true:=hk;rw[gh]at eD;cases r with
  | cons h1 h2=>exact .cons (acu t d eD.1 h1)<|yg t ds eD.2 h2
end
def El.stay{w:aO}{h h':Heap}(t:u6 h h'){e:Int×aA}{d:U}(x:El Pv w h e d):El Pv w h' e d:=
 ⟨x.own,x.hash,x.key,x.tup,x.lay,x.deep,let ⟨as,r⟩:=x.reads;⟨as,acu t d x.key r⟩⟩
theorem Els.stay{w:aO}{h h':Heap}(t:u6 h h'){es:Z (Int×aA)}{ds:Z U}(x:Els Pv w h es ds):Els Pv w h' es ds:=⟨x.1,λi e d h1 h2=>(x.2 i e d h1 h2).stay t⟩
def aij{h h':Heap}{a:aF}{o:Obj}(ho:h.get? a=some o)(hc:o.cls=.type "set")(hs:b8 a h h'):u6 h h':=λb ob hb ht=>by
 have:b≠a:=λe=>by subst e;rw[ho]at hb;cases hb;rw[hc]at ht;exact absurd ht<|by decide
 rw[hs.2 b this];exact hb
noncomputable def byT(w:aO):Bool:=w.params.followText "set-order"
def SetD(Pv:aA->U->Prop)(w:aO)(h:Heap)(a:aF)(ds:Z U):Prop:=
 ∃o es ep t,h.get? a=some o/\o.ExactSet/\o.data=.set es ep t/\TOk t es/\t.place.size*5<t.mask*3/\Els Pv w h es.toList ds/\ds.Nodup/\t.led = !byT w
theorem SetD.fresh{w:aO}{h:Heap}{led:Bool}(cX:led = !byT w):SetD Pv w (h.push {cls:=.type "set",dict:=none,data:=.set #[] 0 (.fresh 0 0 led)}) h.objs.size []:=
 (l9 _ (#[]) 0 _ ⟨bh _ rfl,⟨rfl,rfl,rfl⟩,rfl,TOk.fresh 0 0 led,(by show 0*5<7*3;decide),Els.nil,List.nodup_nil,cX⟩)
def TOk.withPlain{t:SetTable}{es:Array (Int×aA)}(ok:TOk t es)(b:Bool):TOk {t with plain:=b} es:=⟨ok.two,ok.dm,ok.rise,ok.bd,ok.sz,ok.fit,ok.onroad⟩
section
variable{prog:aK}{w:aO}{A:Around}{E:aA->aB->Prop}{s:aB}
def ao8{a:aF}{o:Obj}{es:Array (Int×aA)}{ep:Nat}{t:SetTable}{ds:Z U}{cC:Nat}{Q:Unit->aB->Prop}
  (ho:s.heap.get? a=some o) (kC:o.ExactSet) (hd:o.data=.set es ep t) (ok:TOk t es) (els:Els Pv w s.heap es.toList ds) (kM:ds.Nodup) (cX:t.led = !byT w) (hw:es.size*4<=cC) (EZ:cC<2^13) (yO:∀k,SetTable.sizeAbove cC=2^k->k % 2=1) (gJ:0<es.size)
  (q:∀h' cZ,b8 a s.heap h'->SetD Pv w h' a cZ->cZ.Perm ds->Q () {s with heap:=h'}):aG (aH prog w) A (setRelay a cC) Q E s:=by
 obtain⟨t',gG,e,ok',pm,few,JJ⟩:=agy (t:=t) hw EZ yO gJ;obtain⟨k,ek,k3,uM,hn⟩:=uq cC EZ;have gK:¬SetTable.sizeAbove cC>aC:=by rw[ek,cE];have:2^k<=2^13:=ic (by decide) uM;lia
 have hsz:(gG.filterMap (es[·]?)).size=es.size:=by have:=pm.length_eq;rw[a0,a0]at this;exact this
 obtain⟨cZ,pd,JI⟩:=els.perm pm;unfold setRelay;refine ab<|g8 ho hd ok.fits ?_;dsimp only;rw[if_neg gK,e];refine ab ?_;show aG _ _ (ite _ _ _) _ _ _;rw[if_neg (by simp[hsz])];refine aj ?_;have HS:es.size<=aC:=by rw[cE];lia
 refine BI ho hd ?_ (by rw[hsz];exact HS);have hg:(s.heap.update a<|Obj.putSet (gG.filterMap (es[·]?)) t').get? a=some {o with data:=.set (gG.filterMap (es[·]?)) (ep+1) t'}:=by have:=cp (Obj.putSet (gG.filterMap (es[·]?)) t') ho (by rw[qW _ t' hd];rfl);rw[qW _ t' hd]at this;exact this
 have mF:=cu s.heap a<|Obj.putSet (gG.filterMap (es[·]?)) t';exact q _ cZ mF (l9 _ _ _ _ ⟨hg,kC,rfl,ok',few,JI.stay<|aij ho kC.1 mF,(pd.nodup_iff).mpr kM,JJ.trans cX⟩) pd
theorem aiw{a:aF}{ds:Z U}{x:Int×aA}{d:U}{Q:Bool->aB->Prop}(hS:SetD Pv w s.heap a ds)(hx:El Pv w s.heap x d)(hu:A.units+8<bI)(rJ:ds.length<4000)
  (q:∀h' cZ b,b8 a s.heap h'->SetD Pv w h' a cZ->(d∈ds->cZ=ds)->(d∉ds->cZ.Perm (d::ds))->Q b {s with heap:=h'}) :
  aG (aH prog w) A (setAddHashed a x.2 x.1) Q E s:=by
 obtain⟨o,es,ep,t,ho,kC,hd,ok,few,els,kM,cX⟩:=hS;obtain⟨xa,ex⟩:=hx.ref;obtain⟨k,hk,k3,uM,ko⟩:=ok.two;have iI:=els.1;rw[a0]at iI;have hsz:=ok.sz;obtain⟨j,hj,bZ⟩:=apz (ps:=t.place.toList) (m:=t.mask) (by rw[a0];exact ok.fit);unfold setAddHashed setAddHashedIn;refine gm<|ab<|g8 ho hd ok.fits ?_;dsimp only;have oH:byScan x.2 es=false:=by rw[ex];rfl
 rw[oH];simp only[a9,if_false];unfold setSearch;obtain⟨N,hN,eN⟩:=ave hk (st0 t.mask x.1) (yk _ _).1 (yk _ _).2.1 j hj;have rR:10*SetTable.turns t.mask<=100000:=by unfold SetTable.turns;have:2^k<=2^13:=ic (by decide) uM;lia
 refine ab<|acb ho hd ok els hx hu (λkO=>?_) (λn yQ hf hr=>?_) 100000 0 N none rfl (by unfold rg;rw[eN];exact bZ) (by lia) λn' fM=>by lia
 .dsimp only;refine aj ?_;have e:s={s with heap:=s.heap}:=by cases s;rfl
  rw[e];exact q s.heap ds false (b8.refl a s.heap) (l9 o es ep t ⟨ho,kC,hd,ok,few,els,kM,cX⟩) (λ_=>rfl) λz=>absurd kO z
 .dsimp only;have hm7:7<=t.mask:=by
   have:2^3<=2^k:=ic (by decide) k3;lia
  obtain⟨ok1,em,AN,E5⟩:=ok.put (x:=x.2) hf hr (by lia);have Dx:Els Pv w s.heap (iu es (t.put<|rg t.mask x.1 n).2 (x.1,x.2)).toList (ds.take (t.put<|rg t.mask x.1 n).2++d::ds.drop (t.put<|rg t.mask x.1 n).2):=by rw[pi];exact(els.take _).append ((els.drop _).cons hx)
  have EO:(ds.take (t.put<|rg t.mask x.1 n).2++d::ds.drop (t.put<|rg t.mask x.1 n).2).Perm (d::ds):=by have:=List.perm_middle (a:=d) (l₁:=ds.take (t.put<|rg t.mask x.1 n).2) (l₂:=ds.drop (t.put<|rg t.mask x.1 n).2);rw[e9]at this;exact this
  have Ho:(ds.take (t.put<|rg t.mask x.1 n).2++d::ds.drop (t.put<|rg t.mask x.1 n).2).Nodup:=by rw[EO.nodup_iff,jz];exact⟨yQ,kM⟩
  have zP:(iu es (t.put<|rg t.mask x.1 n).2 (x.1,x.2)).size=es.size+1:=by rw[<-ok1.sz,E5,hsz]
  refine ab<|g8 ho hd ok.fits ?_;dsimp only;have wU:(t.put<|rg t.mask x.1 n).1.led=t.led:=rfl;generalize hpt:t.put (rg t.mask x.1 n)=pt at *;obtain⟨t1,p⟩:=pt;simp only at ok1 em AN E5 Dx EO Ho zP wU⊢;have fin:∀t2:SetTable,TOk t2 (iu es p (x.1,x.2))->t2.mask=t1.mask->t2.place=t1.place->t2.led=t1.led->aG (aH prog w) A (storeSet a (iu es p (x.1,x.2)) t2 >>= λ_=>if (!false&&t2.tooFull)=true then setRelay a (SetTable.grown<|es.size+1) >>= λ_=>aR true else aR true) Q E s:=λt2 B8 e1 e2 e3=>by
   have wT:t2.led = !byT w:=e3.trans<|wU.trans cX;have gK:(iu es p (x.1,x.2)).size<=aC:=by rw[zP,cE];lia
   refine ab<|BI ho hd ?_ gK;have hg:(s.heap.update a<|Obj.putSet (iu es p (x.1,x.2)) t2).get? a=some {o with data:=.set (iu es p (x.1,x.2)) (ep+1) t2}:=by have:=cp (Obj.putSet (iu es p (x.1,x.2)) t2) ho (by rw[qW _ t2 hd];rfl);rw[qW _ t2 hd]at this;exact this
   have mF:=cu s.heap a<|Obj.putSet (iu es p (x.1,x.2)) t2;have Dw:=Dx.stay<|aij ho kC.1 mF;by_cases iH:t2.tooFull=true
   .rw[if_pos (by rw[iH];rfl)];have AX:es.size<4000:=by rw[iI];exact rJ
    have htf:t2.mask*3<=(es.size+1)*5:=by unfold SetTable.tooFull SetTable.fill at iH;rw[B8.dm]at iH;have:=B8.sz;have:=zP;simp at iH;lia
    have hmk:t2.mask+1=2^k:=by rw[e1,em];exact hk
    have hfw:(es.size+1-1)*5<t2.mask*3:=by rw[e1,em];have:=ok.sz;lia
    have hgs:=ais hmk k3 uM ko htf hfw (by lia);have IT:SetTable.grown (es.size+1)=(es.size+1)*4:=by unfold SetTable.grown;rw[if_neg (by lia)]
    refine ab<|ao8 (s:={s with heap:=s.heap.update a<|Obj.putSet (iu es p (x.1,x.2)) t2}) hg kC rfl B8 Dw Ho wT (by rw[zP,IT];exact ao _) (by rw[IT];exact hgs.1) (λk' ek'=>?_) (by rw[zP];lia) λh' cZ HR jB pd'=>?_
    .rw[IT]at ek';obtain⟨a1,a2,a3⟩:=ac4 _ (by lia) hgs.1 ek';exact ao1 hmk k3 uM ko htf hfw (by lia) a1 a2 a3
    .exact aj<|q h' cZ true (mF.trans HR) jB (λz=>absurd z yQ) λ_=>pd'.trans EO
   .rw[if_neg (by simpa using iH)];have JF:t2.place.size*5<t2.mask*3:=by
     unfold SetTable.tooFull SetTable.fill at iH;rw[B8.dm]at iH;simpa using iH
    exact aj<|q _ _ true mF (l9 _ _ _ _ ⟨hg,kC,rfl,B8,JF,Dw,Ho,wT⟩) (λz=>absurd z yQ) λ_=>EO
  obtain⟨as,rx⟩:=hx.reads;split
  .refine ab<|aaw 8 hx.key rx λb=>?_;cases b with
   | true=>
    simp only[if_true];exact fin t1 ok1 rfl rfl rfl
   | false=>
    simp only[a9,if_false];exact fin _ (ok1.withPlain false) rfl rfl rfl
  .refine ab<|aj ?_;simp only[if_true];exact fin t1 ok1 rfl rfl rfl
end
end L3
namespace L3
open PySem PyProof.Rows
variable{Pv:aA->U->Prop}
def Keep(h0 h:Heap):Prop:=∀b o,h0.get? b=some o->h.get? b=some o
def Keep.tups{h0 h:Heap}(k:Keep h0 h):u6 h0 h:=λb o e _=>k b o e
def SetD.moved{w:aO}{h h':Heap}{S:aF}{ds:Z U}(x:SetD Pv w h S ds)(hS:∀o,h.get? S=some o->h'.get? S=some o)(t:u6 h h'):SetD Pv w h' S ds:=by obtain⟨o,es,ep,tb,ho,kC,hd,ok,few,els,nd,cX⟩:=x;exact(l9 o es ep tb ⟨hS o ho,kC,hd,ok,few,els.stay t,nd,cX⟩)
section
variable{prog:aK}{w:aO}{A:Around}{R:jY->aB->Prop}{I:aF}{fp wr:Z aF}{G:Array xV->Array xV->Prop}{n:Nat}{P:Nat->aA->Prop}{St:Nat->aB->Prop}
theorem aeh(W:WalksS prog w A.in1 I fp wr G n P St)(S:aF)(nM:S∉fp)(h0:Heap)(hwr:∀b∈wr,h0.get? b=none)(hS0:h0.get? S=none)(hwt:∀i s,St i s->∀b∈wr,∀ob,s.heap.get? b=some ob->ob.cls≠.type "tuple")
  (val:Nat->U) (yJ:∀i v,P i v->El Pv w h0 (vT w<|val i,v) (val i)) (hu:A.units+9<bI) (hb:n<4000) :
  ∀(k i:Nat)(s:aB)(ds:Z U),n-i=k->i<=n->St i s->Keep h0 s.heap->SetD Pv w s.heap S ds->(∀d,d∈ds↔∃j,j<i/\val j=d)->ds.length<=i->
   (∀s' cZ,Moved (S::wr) G s s'->Keep h0 s'.heap->SetD Pv w s'.heap S cZ->(∀d,d∈cZ↔∃j,j<n/\val j=d)->cZ.length<=n->R (.ok<|.ret .none) s')->
   cL (aH prog w) A (.builtin "set.update.loop" ⟨[.ref S,.ref I],[]⟩) R s:=by
 have A5:S∉wr:=λh=>nM<|W.sub _ h;have mono:∀b∈wr,b∈S::wr:=λb hb=>av _ hb;have mv:∀{i:Nat} {s s':aB} {ds:Z U},St i s->Moved wr G s s'->Keep h0 s.heap->SetD Pv w s.heap S ds->Keep h0 s'.heap/\SetD Pv w s'.heap S ds:=λ{i s s' ds} gQ hm hk hS=>by refine⟨λb o e=>hm.heap b o (λz=>by rw[hwr b z]at e;cases e)<|hk b o e,hS.moved (λo e=>hm.heap S o A5 e) λb o e ht=>hm.heap b o (λz=>hwt i s gQ b z o e ht) e⟩
 intro k;induction k with
 | zero=>
  intro i s ds hk hi gQ tR hS hmem aZ hR;have kO:i=n:=by lia
  subst kO;refine i7 F.entry_set_update_loop (show _ from ?_);rw[gt F.plain_set_update_loop (_:Args)];show aG _ A.in1 (bH (.ref I) >>= _) _ _ _;refine ab<|W.done s _ _ gQ λs' hm=>?_;obtain⟨k1,S1⟩:=mv gQ hm tR hS;exact aj (hR s' ds (hm.mono mono) k1 S1 hmem aZ)
 | succ k ih=>
  intro i s ds hk hi gQ tR hS hmem aZ hR;have bS:i<n:=by lia
  refine i7 F.entry_set_update_loop (show _ from ?_);rw[gt F.plain_set_update_loop (_:Args)];show aG _ A.in1 (bH (.ref I) >>= _) _ _ _;refine ab<|W.item i s _ _ bS gQ λv s' hP oY hm=>?_;obtain⟨k1,S1⟩:=mv gQ hm tR hS;have hE:=(yJ i v hP).stay k1.tups;obtain⟨as,rv⟩:=hE.reads;show aG _ A.in1 (holding [v] (setAdd S v) >>= _) _ _ _;refine ab<|gm ?_;unfold setAdd;refine gm ?_;refine ab<|acg (val i) hE.key prog w A.in1 _ s' v as _ rv (by show A.units+1+_<bI;have:=hE.deep;lia) λtk htk=>?_;refine aiw (s:={s' with toks:=tk}) (x:=(vT w<|val i,v)) S1 hE (by show A.units+1+8<bI;lia) (by lia) λh' cZ b mF jB e1 e2=>?_;have k2:Keep h0 h':=λb o e=>by rw[mF.2 b (λz=>by rw[z,hS0]at e;cases e)];exact k1 b o e
  have CM:∀d,d∈cZ↔∃j,j<i+1/\val j=d:=λd=>by
   have base:(∃j,j<i+1/\val j=d)↔(d∈ds\/val i=d):=by
    rw[hmem d];constructor
    .rintro⟨j,hj,e⟩;by_cases q:j=i
     .subst q;exact .inr e
     .exact .inl ⟨j,by lia,e⟩
    .rintro(⟨j,hj,e⟩|e)
     .exact⟨j,by lia,e⟩
     .exact⟨i,by lia,e⟩
   rw[base];by_cases q:val i∈ds
   .rw[e1 q];exact⟨.inl,λz=>z.elim id λe=>e▸q⟩
   .rw[(e2 q).mem_iff,a7];exact⟨λz=>z.elim (λe=>.inr e.symm) .inl,λz=>z.elim .inr λe=>.inl e.symm⟩
  have CT:cZ.length<=i+1:=by
   by_cases q:val i∈ds
   .rw[e1 q];lia
   .rw[(e2 q).length_eq,bp];lia
  refine aj ⟨jt F.plain_set_update_loop _,ih (i+1) _ cZ (by lia) bS (W.frame _ s' _ _ oY htk λb hb o e=>?_) k2 jB CM CT λBZ JO IA k'' S'' m'' l''=>?_⟩
  .rw[mF.2 b (λh:b=S=>nM<|by rw[<-h];exact hb)];exact e
  .refine hR BZ JO (Moved.trans W.gtrans ((hm.mono mono).then_heap htk λb o hb e=>?_) IA) k'' S'' m'' l'';rw[mF.2 b (λh:b=S=>hb<|by rw[h];exact aq)];exact e
end
section
variable{prog:aK}{w:aO}{A:Around}{E:aA->aB->Prop}{s:aB}
def ad7(a:aA){Q₁:aA->aB->Prop}
  (h:Q₁ (.ref s.heap.objs.size) {s with heap:=s.heap.push {cls:=.type "set",dict:=none,data:=.set #[] 0 (.fresh 0 0<|!byT w)}}) :
  cL (aH prog w) A (.call (.builtin "set.__new__") ⟨[.type "set",a],[]⟩) (wants Q₁ E) s:=by
 refine JR (show _ from ?_);show aG _ A.in1 (do FH "set.__new__" ⟨[.type "set",a],[]⟩;again (.builtin "set.__new__" ⟨[.type "set",a],[]⟩)) _ _ _;refine ab<|eW (PySem.F.newCall_set_1 a)<|aj ⟨jt PySem.F.plain_set_new _,i7 PySem.F.entry_set_new (show _ from ?_)⟩;rw[gt PySem.F.plain_set_new (_:Args)];unfold Builtin.«set.__new__» Builtin.Frozenset.newClass;have Cu:=sub_set_self;obtain⟨hp,g,d,tk,os⟩:=s;dsimp only
 wp_walk
 refine cJ<|aj ?_;dsimp only;simp only[newObj];refine ab<|wpAny_alloc<|aj ?_;exact aj h
theorem akv{l:aF}{items:Array aA}{ds:Z U}{Q:aA->aB->Prop}
  (hh:A.handled=none) (hl:s.heap.IsList l items) (hi:items.size=ds.length) (hE:∀(i:Nat) v d,items[i]?=some v->ds[i]?=some d->El Pv w s.heap (vT w d,v) d) (hb:ds.length<4000) (hu:A.units+20<bI)
  (h:∀(h':Heap)(tk:Nat)(cZ:Z U),SetD Pv w h' s.heap.objs.size cZ->(∀d,d∈cZ↔d∈ds)->cZ.length<=ds.length->Keep s.heap h'->s.toks<=tk->Q (.ref s.heap.objs.size) {s with heap:=h',toks:=tk}) :
  aG (aH prog w) A (call (.type "set") [.ref l]) Q E s:=by
 obtain⟨c,tl,hmro⟩:=jg.mro;have hmade:=jg.made;have Cu:=jg.sub;refine As<|JR (show _ from ?_);show aG _ _ (callAny (.type "set") _) _ _ s;refine aj ⟨Code.quiet_builtin _<|by decide +kernel,i7 F.entry_type_call (show _ from ?_)⟩;rw[Around.under_plain (weight_type_call_type "set" [.ref l] []) (rfl:_=_)];have h1:=jg.notType;have h2:=jg.canCreate;have hct:=PySem.F.typeCall_set_1 (.ref l)
 repeat (any_goals (first|assumption|(wp_step)))
 refine fY (ad7 (.ref l) (E:=E) (Q₁:=λobj s₁=>∃led:Bool,led=(!byT w)/\obj=.ref s.heap.objs.size/\s₁={s with heap:=s.heap.push {cls:=.type "set",dict:=none,data:=.set #[] 0 (.fresh 0 0 led)}}) ⟨_,rfl,rfl,rfl⟩) λr s₁ hr=>?_
 match r,hr with
 | .error e,hr=>exact hr
 | .ok (.ret obj),hr=>
   obtain⟨led,cX,rfl,rfl⟩:=hr;obtain⟨Bb,sI⟩:∃ob:Obj,ob={cls:=.type "set",dict:=none,data:=.set #[] 0 (.fresh 0 0 led)}:=⟨_,rfl⟩;have hS:(s.heap.push Bb).get? s.heap.objs.size=some Bb:=bh _ (by rw[sI];rfl);have hT:aB.TypeIs {s with heap:=s.heap.push Bb} (.ref s.heap.objs.size) "set":=⟨_,hS,by rw[sI]⟩;have hSD:SetD Pv w (s.heap.push Bb) s.heap.objs.size []:=by rw[sI];exact SetD.fresh cX
   rw[<-sI];have hli:=jg.init.lookup;have A2:=jg.init.bind (.ref s.heap.objs.size)
   repeat (any_goals (first|assumption|(wp_step)))
   refine fY (xM (R:=wants (λr s₂=>r=.none/\∃h' tk cZ,s₂={s with heap:=h',toks:=tk}/\SetD Pv w h' s.heap.objs.size cZ/\(∀d,d∈cZ↔d∈ds)/\cZ.length<=ds.length/\Keep s.heap h'/\s.toks<=tk) E) jg.init.plain F.entry_set_init<|check_set_init_1 hT ?_) λr₂ s₂ rH=>?_
   .obtain⟨ol,rP,kP,nl,Fe⟩:=hl;obtain⟨ocls,B9,odata,yD⟩:=ol;simp only at kP Fe;subst kP;subst Fe;have Im:(s.heap.push Bb).get? l=some {cls:=.type "list",dict:=B9,data:=.seq items nl,slots:=yD}:=ak _ rP;have hsls:=PySem.F.sub_list_set;have hslf:=PySem.F.sub_list_frozenset;have fI:(aA.type "list" == aA.type "dict")=false:=by decide
    have iX:(s.heap.push Bb).IsList l items:=(ng _ Im rfl nl rfl);unfold Builtin.«set.__init__» noKeywords Builtin.Frozenset.updateFrom;generalize hPI:oA=PI;subst sI
    wp_walk
    subst hPI;refine eU iX ?_;refine ab<|wpAny_runValue ?_;have oB:∀b,s.heap.objs.size<=b->s.heap.get? b=none:=λb cU=>by
     cases hq:s.heap.get? b with
     | none=>rfl
     | some ob=>exact absurd (bi hq)<|Nat.not_lt.mpr cU
    have hlS:l<s.heap.objs.size:=bi rP;have hh3:A.in1.in1.in1.handled=none:=by simp[hh]
    have Jx:(s.heap.push {cls:=.type "set",dict:=none,data:=.set #[] 0 (.fresh 0 0 led)}).objs.size=s.heap.objs.size+1:=Heap.size_push _ _;have Iw:l≠(s.heap.push {cls:=.type "set",dict:=none,data:=.set #[] 0 (.fresh 0 0 led)}).objs.size:=by rw[Jx];exact da<|Nat.lt_succ_of_lt hlS
    have nM:s.heap.objs.size∉[(s.heap.push {cls:=.type "set",dict:=none,data:=.set #[] 0 (.fresh 0 0 led)}).objs.size,l]:=by rw[Jx];simp only[a7,i9,or_false,not_or];exact⟨da<|Nat.lt_succ_self _,Nat.ne_of_gt hlS⟩
    have yJ:∀(i:Nat)(v:aA),items[i]?=some v->El Pv w s.heap (vT w<|ds.getD i .none,v) (ds.getD i .none):=λi v hv=>by
     have bS:=(bx.mp hv).1;have hd:ds[i]?=some (ds.getD i .none):=by rw[f9,ah<|by lia];rfl
     exact hE i v _ hv hd
    refine aeh (A:=A.in1.in1) ((tH.list hh3 _ l Iw items).toS) s.heap.objs.size nM s.heap (λb cU=>oB b<|by rw[ar.mp cU,Jx];exact Nat.le_succ _) (oB _<|ao _) (λi s' gQ b cU ob e=>?hwt)
     (λi=>ds.getD i .none) yJ (by show A.units+1+1+9<bI;lia) (by lia) (items.size-0) 0 _ [] (by lia) (f8 _)
     ⟨⟨_,bh _ rfl,rfl,rfl⟩,(iX.push _)⟩ ?hK0 ?hS0 (λd=>by simp) (by simp) ?hR
    case hwt=>
     obtain⟨⟨oi,ho,hc,_⟩,_⟩:=gQ;rw[ar.mp cU,ho]at e;cases e;rw[hc];decide
    case hK0=>exact λb o e=>ak _<|ak _ e
    case hS0=>exact hSD.moved (λo e=>ak _ e) λb o e _=>ak _ e
    case hR=>
     intro s' cZ hm k' S' m' l';obtain⟨h',g',d',EJ,Hj⟩:=s';have eg:g'=s.gens:=hm.gens;have ed:d'=s.drawn:=hm.drawn;have eo:Hj=s.os:=hm.os;subst eg;subst ed;subst eo;show aG _ _ _ _ _ _;refine aj ?_;show aG _ _ (ret aA.none) _ _ _;refine aj ⟨rfl,(m9 h' EJ cZ ⟨rfl,S',λd=>?_,by lia,k',hm.toks⟩)⟩;rw[m' d];constructor
     .rintro⟨j,hj,rfl⟩;rw[f9,ah<|by lia];exact gp _
     .intro hd;obtain⟨j,hj⟩:=dg hd;have Fc:=(af.mp hj).1;exact⟨j,by lia,by rw[f9,hj];rfl⟩
   .match r₂,rH with
    | .error e,rH=>exact rH
    | .ok (.ret r),rH=>
      obtain⟨rfl,h',tk,cZ,rfl,jB,uU,AS,eD,ht'⟩:=rH
      repeat (any_goals (first|assumption|(wp_step)))
      exact h _ _ cZ jB uU AS eD ht'
    | .ok .next,rH=>exact rH.elim
    | .ok .brk,rH=>exact rH.elim
    | .ok .cont,rH=>exact rH.elim
 | .ok .next,hr=>exact hr.elim
 | .ok .brk,hr=>exact hr.elim
 | .ok .cont,hr=>exact hr.elim
end
end L3
namespace L3
open PySem PySem.Spec PyProof.Rows L2
variable{Pv:aA->U->Prop}
def Bn(d:U):Prop:=kd d=true/\(∃ds,d=.tuple ds)/\d.depth<8
theorem yo{h:Heap}:∀{us:Z aA} {ds:Z U} {as:Z aF} {i:Nat} {u:aA} {d:U},ReadsAll h us ds as->us[i]?=some u->ds[i]?=some d->∃bs,Reads h u d bs
 | _,_,_,i,u,d,.nil,h1,_=>by simp at h1
 | _,_,_,0,u,d,.cons a b,h1,h2=>by cases h1;cases h2;exact⟨_,a⟩
 | _,_,_,i+1,u,d,.cons a b,h1,h2=>yo b (by simpa using h1)<|by simpa using h2
theorem amu:∀{ds:Z U},iq ds=true->∀d∈ds,d.canLay0=true
 | [],_,d,hd=>by cases hd
 | e::ds,hk,d,hd=>by
  have eD:(e.canLay0&&iq ds)=true:=hk;rw[gh]at eD;rcases a7.mp hd with h|hd
  .rw[h];exact eD.1
  .exact amu eD.2 d hd
end L3
namespace L3
open PySem
def slot_setit_next:Slot "set_iterator" "__next__" "set_iterator.__next__":=
 .of (owner:="set_iterator") (n:="__next__") (by rw[gE,dP];kernel_rfl) (by decide +kernel) (by decide +kernel) (by decide +kernel) (by first|exact .inl (by decide +kernel)|exact .inr<|by decide +kernel) (by rw[oE];kernel_rfl)
def qq:entryFor table "set_iterator.__next__" = some Builtin.«set_iterator.__next__»:=entryFor_of_tree<|by kernel_rfl
def ri(a:aA):Bp "set_iterator.__next__" ⟨[a],[]⟩:=by unfold Bp;kernel_rfl
def abl:entryFor table "set.__iter__" = some Builtin.«frozenset.__iter__»:=entryFor_alias (id':="frozenset.__iter__") (by kernel_rfl) rfl (by decide +kernel)<|by kernel_rfl
theorem zo{α:Type}:∀(l:List α)(i:Nat)(h:i<l.length),(l[i]::l.eraseIdx i).Perm l
 | a::l,0,h=>jw _
 | a::l,i+1,h=>by
  have h':i<l.length:=by simpa using h
  show(l[i]::a::l.eraseIdx i).Perm (a::l);exact(List.Perm.swap _ _ _).trans ((zo l i h').cons a)
theorem aks{α:Type}(next:Nat->Nat):∀(fuel k:Nat)(left:List α)(out:Array α),left.length=fuel->((iT.go next fuel k left out).toList).Perm (out.toList++left)
 | 0,k,left,out,h=>by have:left=[]:=List.length_eq_zero_iff.mp h;subst this;rw[fj];exact jw _
 | fuel+1,k,left,out,h=>by unfold iT.go;have hl:next k % left.length<left.length:=Nat.mod_lt _ (by lia);rw[ah hl];dsimp only;refine(aks next fuel (k+1) _ _<|by rw[List.length_eraseIdx_of_lt hl];lia).trans ?_;rw[Array.toList_push,bq];refine ip _ ?_;exact(zo _ _ hl)
def akn{α:Type}(next:Nat->Nat)(xs:Array α):(iT next xs).toList.Perm xs.toList:=by unfold iT;have:=aks next xs.size 0 xs.toList #[] (by simp);simpa using this
section
variable{prog:aK}{w:aO}{A:Around}{E:aA->aB->Prop}{s:aB}
def adg{src:Source}{n:Nat}{Q:Nat->aB->Prop}(hn:0<n)(h:∀i dr,i<n->Q i {s with drawn:=dr}):aG (aH prog w) A (choose src n) Q E s:=λΓ p hΓ=>by show n≠0/\_;exact⟨by lia,h _ _<|Nat.mod_lt _ hn⟩
theorem aeb{α:Type}:∀(n:Nat)(xs:List α)(s:aB) {Q:List α->aB->Prop},xs.length=n->(∀ys dr,ys.Perm xs->Q ys {s with drawn:=dr})->aG (aH prog w) A (FF n xs) Q E s
 | 0,xs,s,Q,h,q=>by have:xs=[]:=List.length_eq_zero_iff.mp h;subst this;unfold FF;exact aj (q [] s.drawn<|jw _)
 | n+1,[],s,Q,h,q=>by simp at h
 | n+1,x::xs,s,Q,h,q=>by unfold FF;refine ab<|adg (by simp) λi dr hi=>?_;rw[ah hi];dsimp only;refine ab<|aeb n _ {s with drawn:=dr} (by rw[List.length_eraseIdx_of_lt hi];lia) λys dr' p=>?_;exact aj<|q _ dr'<|(List.Perm.cons _ p).trans (zo _ _ hi)
noncomputable def xh(first:aA)(i:Nat)(a:aF)(n ep:Nat):Obj:={cls:=.type "set_iterator",data:=.fields #[first,.int i 0,.ref a,.int n 0,.int ep 0]}
def ahx{I a:aF}{slot slot' i ep:Nat}{o:Obj}{es:Array (Int×aA)}{t:SetTable}{x:aA}{Q:Option aA->aB->Prop}(eR:s.heap.get? I=some (xh (.int slot 0) i a es.size ep))(ho:s.heap.get? a=some o)(hd:o.data=.set es ep t)(hf:t.fits es.size=true)
  (jR:∀{A:Around} {E:aA->aB->Prop} {Q:Option (aA×Nat)->aB->Prop},Q (some (x,slot')) s->aG (aH prog w) A (iR a slot i ep) Q E s)
  (hQ:∀h',h'.get? I=some (xh (.int slot' 0) (i+1) a es.size ep)->b8 I s.heap h'->Q (some x) {s with heap:=h'}):aG (aH prog w) A (bH<|.ref I) Q E s:=by
 have hT:s.TypeIs (.ref I) "set_iterator":=⟨_,eR,rfl⟩;unfold bH;refine ab<|kc<|cr (name:=bw "__next__") hT slot_setit_next<|dz slot_setit_next hT qq ?_<|ri _;unfold Builtin.«set_iterator.__next__» nV;simp only[List.isEmpty_nil,i6,a9,↓reduceIte,jW,je,bne_self_eq_false];refine ab<|aj ?_;dsimp only;refine ab<|dD eR rfl ?_;show aG _ _ (nX a >>= _) _ _ _;refine ab<|cO ho hd hf ?_;rw[if_neg (by simp)];show aG _ _ (iR a (slot:Int).toNat (i:Int).toNat (ep:Int).toNat >>= _) _ _ _;simp only[cj];refine ab<|jR ?_;dsimp only;refine ab<|ix eR rfl (by show 0<5;decide) ?_;have g1:=cp (Obj.mapFields (·.setIfInBounds 0 (dF slot'))) eR rfl;refine ab<|ix g1 rfl (by show 1<5;decide) ?_;have g2:=cp (Obj.mapFields (·.setIfInBounds 1 (dF<|i+1))) g1 rfl;exact aj ⟨x,rfl,aj<|hQ _ g2<|(cu ..).trans (cu ..)⟩
def akp{I a:aF}{slot i ep:Nat}{o:Obj}{es:Array (Int×aA)}{t:SetTable}{Q:Option aA->aB->Prop}(hh:A.handled=none)(eR:s.heap.get? I=some (xh (.int slot 0) i a es.size ep))(ho:s.heap.get? a=some o)(hd:o.data=.set es ep t)(hf:t.fits es.size=true)
  (jR:∀{A:Around} {E:aA->aB->Prop} {Q:Option (aA×Nat)->aB->Prop},Q none s->aG (aH prog w) A (iR a slot i ep) Q E s)
  (hQ:∀h',ke I s.heap h'->Q none {s with heap:=h'}):aG (aH prog w) A (bH<|.ref I) Q E s:=by
 have hT:s.TypeIs (.ref I) "set_iterator":=⟨_,eR,rfl⟩;unfold bH;refine ab<|kc<|cr (name:=bw "__next__") hT slot_setit_next<|dz slot_setit_next hT qq ?_<|ri _;unfold Builtin.«set_iterator.__next__» nV;simp only[List.isEmpty_nil,i6,a9,↓reduceIte,jW,je,bne_self_eq_false];refine ab<|aj ?_;dsimp only;refine ab<|dD eR rfl ?_;show aG _ _ (nX a >>= _) _ _ _;refine ab<|cO ho hd hf ?_;rw[if_neg (by simp)];show aG _ _ (iR a (slot:Int).toNat (i:Int).toNat (ep:Int).toNat >>= _) _ _ _;simp only[cj];refine ab<|jR ?_;dsimp only;refine ab<|ix eR rfl (by show 2<5;decide) ?_;show aG _ _ (lJ (.type "StopIteration") [] >>= _) _ _ _;refine ab ?_;simp only[lJ,kJ];refine ab (cz ?_<|by size_fits);refine ab (m:=dH _ _)<|eW (a:=aA.none) (by first|rfl|(simp only[dH];rfl)) ?_;refine cz ?_ (by size_fits);simp only[nZ];refine ab<|jF ?_;rw[show A.in1.handled=none from hh];refine ab<|aj<|lU ?_;refine ab<|kj (T:="StopIteration") (b:=true) ⟨_,bh _ rfl,rfl⟩ iB ?_;exact aj<|hQ _<|((cu ..).extBut.push _).push _
def al6{I a tp:aF}{i ep p:Nat}{o op:Obj}{es:Array (Int×aA)}{t:SetTable}{ps:Array aA}{c:Nat}{e:Int×aA}{Q:Option aA->aB->Prop}(eR:s.heap.get? I=some (xh (.ref tp) i a es.size ep))(ho:s.heap.get? a=some o)(hd:o.data=.set es ep t)(hf:t.fits es.size=true)
  (hp:s.heap.get? tp=some op) (Ie:op.data=.seq ps c) (Ic:ps[i]?=some (.int p 0)) (AX:es[p]?=some e)
  (hQ:∀h',h'.get? I=some (xh (.ref tp) (i+1) a es.size ep)->b8 I s.heap h'->Q (some e.2) {s with heap:=h'}):aG (aH prog w) A (bH<|.ref I) Q E s:=by
 have hT:s.TypeIs (.ref I) "set_iterator":=⟨_,eR,rfl⟩;unfold bH;refine ab<|kc<|cr (name:=bw "__next__") hT slot_setit_next<|dz slot_setit_next hT qq ?_<|ri _;unfold Builtin.«set_iterator.__next__» nV;simp only[List.isEmpty_nil,i6,a9,↓reduceIte,jW,je,bne_self_eq_false];refine ab<|aj ?_;dsimp only;refine ab<|dD eR rfl ?_;show aG _ _ (nX a >>= _) _ _ _;refine ab<|cO ho hd hf ?_;rw[if_neg (by simp)];show aG _ _ (fP (.ref tp) >>= _) _ _ _;refine ab<|jc hp Ie ?_;dsimp only;simp only[cj,Ic];refine ab ?_;unfold setNextDrawn;refine ab<|g8 ho hd hf ?_;dsimp only;rw[if_neg (by simp)];simp only[cj,AX];refine aj ?_;refine ab<|ix eR rfl (by show 1<5;decide) ?_;have g2:=cp (Obj.mapFields (·.setIfInBounds 1 (dF<|i+1))) eR rfl;exact aj ⟨e.2,rfl,aj<|hQ _ g2<|cu ..⟩
def anu{I a tp:aF}{i ep:Nat}{o op:Obj}{es:Array (Int×aA)}{t:SetTable}{ps:Array aA}{c:Nat}{Q:Option aA->aB->Prop}(hh:A.handled=none)(eR:s.heap.get? I=some (xh (.ref tp) i a es.size ep))(ho:s.heap.get? a=some o)(hd:o.data=.set es ep t)(hf:t.fits es.size=true)
  (hp:s.heap.get? tp=some op) (Ie:op.data=.seq ps c) (Ic:ps[i]?=none)
  (hQ:∀h',ke I s.heap h'->Q none {s with heap:=h'}):aG (aH prog w) A (bH<|.ref I) Q E s:=by
 have hT:s.TypeIs (.ref I) "set_iterator":=⟨_,eR,rfl⟩;unfold bH;refine ab<|kc<|cr (name:=bw "__next__") hT slot_setit_next<|dz slot_setit_next hT qq ?_<|ri _;unfold Builtin.«set_iterator.__next__» nV;simp only[List.isEmpty_nil,i6,a9,↓reduceIte,jW,je,bne_self_eq_false];refine ab<|aj ?_;dsimp only;refine ab<|dD eR rfl ?_;show aG _ _ (nX a >>= _) _ _ _;refine ab<|cO ho hd hf ?_;rw[if_neg (by simp)];show aG _ _ (fP (.ref tp) >>= _) _ _ _;refine ab<|jc hp Ie ?_;dsimp only;simp only[cj,Ic];refine ab<|ix eR rfl (by show 0<5;decide) ?_;have g1:=cp (Obj.mapFields (·.setIfInBounds 0 (dF 0))) eR rfl;refine ab<|ix g1 rfl (by show 2<5;decide) ?_;show aG _ _ (lJ (.type "StopIteration") [] >>= _) _ _ _;refine ab ?_;simp only[lJ,kJ];refine ab (cz ?_<|by size_fits);refine ab (m:=dH _ _)<|eW (a:=aA.none) (by first|rfl|(simp only[dH];rfl)) ?_;refine cz ?_ (by size_fits);simp only[nZ];refine ab<|jF ?_;rw[show A.in1.handled=none from hh];refine ab<|aj<|lU ?_;refine ab<|kj (T:="StopIteration") (b:=true) ⟨_,bh _ rfl,rfl⟩ iB ?_;exact aj<|hQ _<|(((cu ..).trans (cu ..)).extBut.push _).push _
def zy{a:aF}{slot given ep:Nat}{o:Obj}{es:Array (Int×aA)}{t:SetTable}{Q:Option (aA×Nat)->aB->Prop}(hb:byT w=true)(ho:s.heap.get? a=some o)(hd:o.data=.set es ep t)(hf:t.fits es.size=true)
  (h:Q (((iT (w.params.setOrder a ep) es)[given]?).map λe=>(e.2,slot)) s):aG (aH prog w) A (iR a slot given ep) Q E s:=by
 have cU:w.params.followText "set-order" = true:=hb;unfold iR;refine ab<|g8 ho hd hf ?_;dsimp only;unfold nW;refine ab<|ab<|cJ<|aj ?_;show aG _ _ (if w.params.followText "set-order" = true then _ else _) _ _ _;rw[if_pos cU];rw[if_neg (by simp)];refine ab ?_;unfold setWalk;refine ab<|g8 ho hd hf ?_;dsimp only;unfold nW;refine ab<|ab<|cJ<|aj ?_;show aG _ _ (if w.params.followText "set-order" = true then _ else _) _ _ _;rw[if_pos cU];refine ab<|cJ<|aj ?_;exact aj h
def xz{a:aF}{slot given ep:Nat}{o:Obj}{es:Array (Int×aA)}{t:SetTable}{Q:Option (aA×Nat)->aB->Prop}(hb:byT w=false)(cX:t.led=true)(hdr:(!t.plain&&decide (es.size>1))=false)(ho:s.heap.get? a=some o)(hd:o.data=.set es ep t)(hf:t.fits es.size=true)
  (h:Q (match es[SetTable.below t.place slot]?,t.place[SetTable.below t.place slot]? with|some (_,x),some j=>some (x,j+1)|_,_=>none) s):aG (aH prog w) A (iR a slot given ep) Q E s:=by
 have cU:w.params.followText "set-order" = false:=hb;unfold iR;refine ab<|g8 ho hd hf ?_;dsimp only;unfold nW;refine ab<|ab<|cJ<|aj ?_;show aG _ _ (if w.params.followText "set-order" = true then _ else _) _ _ _;rw[if_neg (by rw[cU];exact am)];show aG _ _ (if (!t.plain&&decide (es.size>1))=true then _ else _) _ _ _;rw[hdr,if_neg am];refine ab ?_;show aG _ _ (if (!t.led && !es.isEmpty)=true then _ else _) _ _ _;rw[cX,if_neg<|by simp];refine aj ?_;exact aj h
end
def aji{xs:Array Nat}(h:xs.toList.Pairwise (· < ·)):SetTable.below xs 0=0:=by
 obtain⟨a,b,c⟩:=v9 h 0;apply ij;intro hn;have h0:0<xs.size:=by lia
 have:=b 0 xs[0] (by lia) (by simp[h0]);lia
def aje{xs:Array Nat}(h:xs.toList.Pairwise (· < ·)){i j:Nat}(hi:xs[i]?=some j):SetTable.below xs (j+1)=i+1:=by
 obtain⟨a,b,c⟩:=v9 h<|j+1;have hl:=(bx.mp hi).1;by_cases q:SetTable.below xs (j+1)<=i
 .have:=c i j q hi;lia
 by_cases q2:i+1<SetTable.below xs (j+1)
 .have fJ:i+1<xs.size:=by lia
  have e:xs[i+1]?=some xs[i+1]:=by simp[fJ]
  have h1:=b (i+1) _ q2 e;have h2:=Gj h hi e (by lia);lia
 .lia
def WalkAt(w:aO)(a I:aF)(es:Array (Int×aA))(ep:Nat)(t:SetTable)(os:Z aA)(i:Nat)(h:Heap):Prop:=
 (∃o,h.get? a=some o/\o.cls=.type "set"/\o.data=.set es ep t)/\
 ((byT w=true/\os=(iT (w.params.setOrder a ep) es).toList.map (·.2)/\∃slot,h.get? I=some (xh (.int (slot:Nat) 0) i a es.size ep))\/
  (byT w=false/\(!t.plain&&decide (es.size>1))=false/\os=es.toList.map (·.2)/\∃slot,h.get? I=some (xh (.int (slot:Nat) 0) i a es.size ep)/\SetTable.below t.place slot=i)\/
  (∃tp op c,∃ord:Z Nat,h.get? I=some (xh (.ref tp) i a es.size ep)/\h.get? tp=some op/\op.cls=.type "tuple"/\op.data=.seq (ord.map λ(p:Nat)=>aA.int (p:Int) 0).toArray c/\os.length=ord.length/\∀(k:Nat) p,ord[k]?=some p->∃e,es[p]?=some e/\os[k]?=some e.2))
section
variable{prog:aK}{w:aO}{A:Around}{E:aA->aB->Prop}{s:aB}{a I:aF}{es:Array (Int×aA)}{ep:Nat}{t:SetTable}{os:Z aA}{i:Nat}
def WalkAt.keep{h h':Heap}(x:WalkAt w a I es ep t os i h)(k:∀b o,h.get? b=some o->(o.cls=.type "set"\/o.cls=.type "set_iterator"\/o.cls=.type "tuple")->h'.get? b=some o):WalkAt w a I es ep t os i h':=by
 obtain⟨⟨o,h1,h2,h3⟩,hm⟩:=x;refine⟨⟨o,k _ _ h1<|.inl h2,h2,h3⟩,?_⟩;rcases hm with ⟨b1,b2,slot,b3⟩|⟨b1,b2,b3,slot,b4,b5⟩|⟨tp,op,c,ord,b1,b2,b3,b4,b5,b6⟩
 .exact .inl ⟨b1,b2,slot,k _ _ b3<|.inr<|.inl rfl⟩
 .exact .inr<|.inl ⟨b1,b2,b3,slot,k _ _ b4<|.inr<|.inl rfl,b5⟩
 .exact .inr<|.inr<|l9 tp op c ord ⟨k _ _ b1<|.inr<|.inl rfl,k _ _ b2<|.inr<|.inr b3,b3,b4,b5,b6⟩
def alh{x:aA}{Q:Option aA->aB->Prop}(ok:TOk t es)(cX:t.led = !byT w)(hw:WalkAt w a I es ep t os i s.heap)(hx:os[i]?=some x)
  (hQ:∀h',WalkAt w a I es ep t os (i+1) h'->b8 I s.heap h'->Q (some x) {s with heap:=h'}):aG (aH prog w) A (bH<|.ref I) Q E s:=by
 obtain⟨⟨o,h1,h2,h3⟩,hm⟩:=hw;have rD:∀{h':Heap} {fo:Obj},s.heap.get? I=some fo->fo.cls=.type "set_iterator"->b8 I s.heap h'->h'.get? a=some o:=λ{h' fo} hi hc sb=>by rw[sb.2 a (λe=>by subst e;rw[h1]at hi;cases hi;rw[h2]at hc;exact absurd hc<|by decide)];exact h1
 rcases hm with ⟨b1,b2,slot,b3⟩|⟨b1,b2,b3,slot,b4,b5⟩|⟨tp,op,c,ord,b1,b2,b3,b4,b5,b6⟩
 .subst b2;rw[bo,bm]at hx;obtain⟨e,he,rfl⟩:=fw.mp hx;refine ahx (slot':=slot) b3 h1 h3 ok.fits (λq=>zy b1 h1 h3 ok.fits<|by rw[he];exact q) λh' g sb=>?_;exact hQ h' ⟨⟨o,rD b3 rfl sb,h2,h3⟩,.inl ⟨b1,rfl,slot,g⟩⟩ sb
 .subst b3;rw[bo,bm]at hx;obtain⟨e,he,rfl⟩:=fw.mp hx;have zA:=(bx.mp he).1;have iE:t.place[i]?=some (t.place[i]'(by rw[ok.sz];exact zA)):=bz _;have hl:t.led=true:=by rw[cX,b1];rfl
  obtain⟨eh,ev⟩:=e;refine ahx (slot':=t.place[i]'(by rw[ok.sz];exact zA)+1) b4 h1 h3 ok.fits (λq=>xz b1 hl b2 h1 h3 ok.fits<|by rw[b5,he,iE];exact q) λh' g sb=>?_;exact hQ h' ⟨⟨o,rD b4 rfl sb,h2,h3⟩,.inr<|.inl ⟨b1,b2,rfl,_,g,aje ok.rise iE⟩⟩ sb
 .have zA:=(af.mp hx).1;have hio:ord[i]?=some (ord[i]'(by lia)):=ah _;obtain⟨e,e1,e2⟩:=b6 i _ hio;rw[hx]at e2;cases e2;refine al6 b1 h1 h3 ok.fits b2 b4 (by rw[List.getElem?_toArray,bo,hio];rfl) e1 λh' g sb=>?_;have nt:tp≠I:=λe=>by subst e;rw[b2]at b1;cases b1;exact absurd b3<|by show ¬(aA.type "set_iterator" = aA.type "tuple");decide
  exact hQ h' ⟨⟨o,rD b1 rfl sb,h2,h3⟩,.inr<|.inr<|l9 tp op c ord ⟨g,by rw[sb.2 tp nt];exact b2,b3,b4,b5,b6⟩⟩ sb
def anx{Q:Option aA->aB->Prop}(hh:A.handled=none)(ok:TOk t es)(cX:t.led = !byT w)(hw:WalkAt w a I es ep t os i s.heap)(hx:os.length<=i)
  (hQ:∀h',ke I s.heap h'->Q none {s with heap:=h'}):aG (aH prog w) A (bH<|.ref I) Q E s:=by
 obtain⟨⟨o,h1,h2,h3⟩,hm⟩:=hw;rcases hm with ⟨b1,b2,slot,b3⟩|⟨b1,b2,b3,slot,b4,b5⟩|⟨tp,op,c,ord,b1,b2,b3,b4,b5,b6⟩
 .subst b2;rw[ae,a0]at hx;refine akp hh b3 h1 h3 ok.fits (λq=>zy b1 h1 h3 ok.fits<|by rw[kq hx];exact q) hQ
 .subst b3;rw[ae,a0]at hx;have hl:t.led=true:=by rw[cX,b1];rfl
  refine akp hh b4 h1 h3 ok.fits (λq=>xz b1 hl b2 h1 h3 ok.fits<|by rw[b5,kq hx];exact q) hQ
 .exact anu hh b1 h1 h3 ok.fits b2 b4 (by rw[List.getElem?_toArray,bo,jr<|by lia];rfl) hQ
theorem aix{o:Obj}{Q:aA->aB->Prop}(ho:s.heap.get? a=some o)(kC:o.ExactSet)(hd:o.data=.set es ep t)(ok:TOk t es)(cX:t.led = !byT w)(hsz:es.size<=4000)
  (hQ:∀h' I os dr,os.Perm (es.toList.map (·.2))->WalkAt w a I es ep t os 0 h'->(∀b o,s.heap.get? b=some o->h'.get? b=some o)->s.heap.objs.size<=I->Q (.ref I) {s with heap:=h',drawn:=dr}):aG (aH prog w) A (oA<|.ref a) Q E s:=by
 have hT:s.TypeIs (.ref a) "set":=⟨o,ho,kC.1⟩;refine BL hT PySem.F.slot_set_iter<|dz PySem.F.slot_set_iter hT abl ?_<|PySem.F.args_set_iter_1 _;unfold Builtin.«frozenset.__iter__» Builtin.Frozenset.slot0 nV;simp only[List.isEmpty_nil,i6,a9,↓reduceIte,jW,je,bne_self_eq_false];unfold Builtin.Frozenset.addrOf Builtin.Frozenset.sizeOf;refine ab<|aj ?_;dsimp only;refine ab<|aj ?_;refine ab<|ab<|cO ho hd ok.fits<|aj ?_;have Jd:∀{Q:Bool->aB->Prop},Q (!byT w&&(!t.plain&&decide (es.size>1))) s->aG (aH prog w) A.in1 (setDrawn a) Q E s:=λ{Q} q=>by unfold setDrawn;refine ab<|g8 ho hd ok.fits ?_;dsimp only;unfold nW;refine ab<|ab<|cJ<|aj ?_;exact aj q
 refine ab<|Jd ?_;cases hc:(!byT w&&(!t.plain&&decide (es.size>1)))with
 | true=>
  rw[if_pos rfl];refine ab<|aeb es.size (e8 es.size) s (by rw[g0]) λord dr hp=>?_;simp only[kJ];have rP:ord.length=es.size:=by rw[hp.length_eq,g0]
  obtain⟨vY,uN⟩:∃ob:Obj,ob={cls:=.type "tuple",data:=.seq (ord.map λ(p:Nat)=>aA.int (p:Int) 0).toArray}:=⟨_,rfl⟩;have gK:((ord.map λ(p:Nat)=>aA.int (p:Int) 0).toArray).size<=aC:=by rw[bj,ae,rP,cE];lia
  refine ab<|cz ?_ gK;show aG _ _ _ _ _ {s with heap:=s.heap.push {cls:=.type "tuple",data:=.seq (ord.map λ(p:Nat)=>aA.int (p:Int) 0).toArray},drawn:=dr};rw[<-uN];have Cn:∀b ob,s.heap.get? b=some ob->(s.heap.push vY).get? b=some ob:=λb ob e=>ak _ e;have pY:(s.heap.push vY).get? s.heap.objs.size=some vY:=bh _ (by rw[uN];rfl);refine ab<|BJ (Cn _ _ ho) hd ok.fits ?_;have hg:((s.heap.push vY).push (xh (.ref s.heap.objs.size) 0 a es.size ep)).get? (s.heap.push vY).objs.size=some (xh (.ref s.heap.objs.size) 0 a es.size ep):=bh _ rfl;have Cm:∀b ob,(s.heap.push vY).get? b=some ob->((s.heap.push vY).push (xh (.ref s.heap.objs.size) 0 a es.size ep)).get? b=some ob:=λb ob e=>ak _ e;refine ab<|cz<|aj<|nj _ rfl ("set_iterator") _ ⟨⟨_,hg,rfl⟩,slot_setit_next.lookup,?_⟩;have jI:(ord.map λp=>(es[p]?.map (·.2)).getD aA.none).Perm (es.toList.map (·.2)):=by
   have h1:=hp.map λp=>(es[p]?.map (·.2)).getD aA.none;have h2:(e8 es.size).map (λp=>(es[p]?.map (·.2)).getD aA.none)=es.toList.map (·.2):=by
    apply List.ext_getElem
    .simp
    .intro k a1 b1;have hk:k<es.size:=by simpa using b1
     simp[hk]
   rw[h2]at h1;exact h1
  refine hQ _ _ _ dr jI ⟨⟨o,Cm _ _<|Cn _ _ ho,kC.1,hd⟩,.inr<|.inr<|l9 s.heap.objs.size vY 0 ord ⟨hg,Cm _ _ pY,by rw[uN],by rw[uN],by rw[ae],λk p hk=>?_⟩⟩ (λb ob e=>Cm _ _<|Cn _ _ e) (by rw[Heap.size_push];exact Nat.le_succ _);have iE:p<es.size:=gq.mp<|hp.mem_iff.mp<|ai hk;refine⟨es[p],bz iE,?_⟩;rw[bo,hk];show some ((es[p]?.map (·.2)).getD aA.none)=_;rw[bz iE];rfl
 | false=>
  rw[if_neg am];refine ab<|aj ?_;refine ab<|BJ ho hd ok.fits ?_;have hg:(s.heap.push<|xh (.int ((0:Nat):Int) 0) 0 a es.size ep).get? s.heap.objs.size=some (xh (.int ((0:Nat):Int) 0) 0 a es.size ep):=bh _ rfl;have kp:∀b ob,s.heap.get? b=some ob->(s.heap.push<|xh (.int ((0:Nat):Int) 0) 0 a es.size ep).get? b=some ob:=λb ob e=>ak _ e;refine ab<|cz<|aj<|nj _ rfl ("set_iterator") _ ⟨⟨_,hg,rfl⟩,slot_setit_next.lookup,?_⟩;cases hb:byT w with
  | true=>exact hQ _ _ _ s.drawn ((akn _ es).map _) ⟨⟨o,kp _ _ ho,kC.1,hd⟩,.inl ⟨hb,rfl,0,hg⟩⟩ kp (ao _)
  | false=>
   rw[hb]at hc;exact hQ _ _ _ s.drawn (jw _) ⟨⟨o,kp _ _ ho,kC.1,hd⟩,.inr<|.inl ⟨hb,by simpa using hc,rfl,0,hg,aji ok.rise⟩⟩ kp<|ao _
end
def aod:jP (.type "set") "__len__" = aR (some<|.builtin "set.__len__"):=by rw[gE,dP];kernel_rfl
section
variable{prog:aK}{w:aO}{A:Around}{a I S:aF}{es:Array (Int×aA)}{ep:Nat}{t:SetTable}{os:Z aA}{R:jY->aB->Prop}
theorem aer(hh:A.in1.handled=none)(ok:TOk t es)(cX:t.led = !byT w)(tN:os.length<=4000)(res:aA)(h0:Heap)(Fv:h0.get? I=none)(hS0:h0.get? S=none) :
  ∀(k i:Nat)(s:aB)(c:Nat),os.length-i=k->i<=os.length->WalkAt w a I es ep t os i s.heap->s.heap.get? S=some {cls:=.type "list",dict:=none,data:=.seq (os.take i).toArray c,slots:=#[]}->(∀b o,h0.get? b=some o->s.heap.get? b=some o)->
  (∀h' c',h'.get? S=some {cls:=.type "list",dict:=none,data:=.seq os.toArray c',slots:=#[]}->(∀b o,h0.get? b=some o->h'.get? b=some o)->R (.ok<|.ret res) {s with heap:=h'})->
  cL (aH prog w) A (.builtin "list.extend.loop" ⟨[.ref S,.ref I,res],[]⟩) R s:=by
 intro k;induction k with
 | zero=>
  intro i s c hk hi hw hS tR hR;have kO:i=os.length:=by lia
  subst kO;rw[List.take_length]at hS;refine i7 PySem.F.entry_extend_loop (show _ from ?_);rw[gt PySem.F.plain_extend_loop (_:Args)];show aG _ A.in1 (bH (.ref I) >>= _) _ _ s;have Hr:S≠I:=λe=>by
   subst e;rcases hw.2 with ⟨_,_,slot,b3⟩|⟨_,_,_,slot,b4,_⟩|⟨tp,op,c,ord,b1,_⟩
   .rw[hS]at b3;injection b3 with b3;injection b3 with b3;exact absurd b3<|by decide
   .rw[hS]at b4;injection b4 with b4;injection b4 with b4;exact absurd b4<|by decide
   .rw[hS]at b1;injection b1 with b1;injection b1 with b1;exact absurd b1<|by decide
  refine ab<|anx hh ok cX hw (ao _) λh' hx=>?_;exact aj (hR h' c (hx S _ Hr hS) λb o e=>hx b o (λz=>by rw[z,Fv]at e;cases e)<|tR b o e)
 | succ k ih=>
  intro i s c hk hi hw hS tR hR;have bS:i<os.length:=by lia
  refine i7 PySem.F.entry_extend_loop (show _ from ?_);rw[gt PySem.F.plain_extend_loop (_:Args)];show aG _ A.in1 (bH (.ref I) >>= _) _ _ s;have Hr:S≠I:=λe=>by
   subst e;rcases hw.2 with ⟨_,_,slot,b3⟩|⟨_,_,_,slot,b4,_⟩|⟨tp,op,c,ord,b1,_⟩
   .rw[hS]at b3;injection b3 with b3;injection b3 with b3;exact absurd b3<|by decide
   .rw[hS]at b4;injection b4 with b4;injection b4 with b4;exact absurd b4<|by decide
   .rw[hS]at b1;injection b1 with b1;injection b1 with b1;exact absurd b1<|by decide
  refine ab<|alh ok cX hw (ah bS) λh' hw' sb=>?_;have jB:h'.get? S=some {cls:=.type "list",dict:=none,data:=.seq (os.take i).toArray c,slots:=#[]}:=by rw[sb.2 S Hr];exact hS
  show aG _ A.in1 (iP S (·.push os[i]) >>= _) _ _ _;refine ab ?_;have HB:(os.take i).toArray.size<=aC:=by rw[bj,bf,cE];lia
  have AF:((os.take i).toArray.push os[i]).size<=aC+1:=by rw[Array.size_push];lia
  refine k5 jB rfl (aj ⟨jt PySem.F.plain_extend_loop _,ih (i+1) _ (c+1) (by lia) bS (hw'.keep λb o e hc=>?_) ?_ (λb o e=>?_) λsS c' g kp=>?_⟩) HB AF
  .have:b≠S:=λz=>by
    subst z;rw[jB]at e;cases e;have jA:aA.type "list" = .type "set"\/aA.type "list" = .type "set_iterator"\/aA.type "list" = .type "tuple":=hc;revert jA;decide
   exact(dq _ _<|Ne.symm this).trans e
  .have g:=cp (jo (·.push os[i])) jB rfl;have e1:(os.take i).toArray.push os[i]=(os.take<|i+1).toArray:=by rw[List.push_toArray,List.take_append_getElem bS]
   rw[<-e1];exact g.trans<|congrArg some<|Obj.mapSeq_push_plain _ _ _
  .have nb:b≠S:=λz=>by rw[z,hS0]at e;cases e
   refine(dq _ _<|Ne.symm nb).trans ?_;rw[sb.2 b (λz=>by rw[z,Fv]at e;cases e)];exact tR b o e
  .exact hR sS c' g kp
theorem ae2{o:Obj}{E:aA->aB->Prop}{Q:Z aA->aB->Prop}{s:aB}(hh:A.handled=none)(ho:s.heap.get? a=some o)(kC:o.ExactSet)(hd:o.data=.set es ep t)(ok:TOk t es)(cX:t.led = !byT w)(hsz:es.size<=4000)
  (hQ:∀h' os dr,os.Perm (es.toList.map (·.2))->(∀b o,s.heap.get? b=some o->h'.get? b=some o)->Q os {s with heap:=h',drawn:=dr}):aG (aH prog w) A (kR<|.ref a) Q E s:=by
 unfold kR;refine ab<|wpAny_runValue<|i7 PySem.F.entry_proto_collect ?_;rw[gt PySem.F.plain_proto_collect _];show aG _ A.in1 (newList [] >>= λl=>again<|.builtin "list.__iadd__" ⟨[l,.ref a],[]⟩) _ _ s;refine ab<|cz ?_;refine aj ⟨jt PySem.F.plain_list_iadd _,i7 PySem.F.entry_list_iadd ?_⟩;rw[gt PySem.F.plain_list_iadd _];show aG _ A.in1 (i8 (.ref s.heap.objs.size) (.ref a)<|.ref s.heap.objs.size) _ _ _;have hla:=bi ho;unfold i8;generalize hH:s.heap.push {cls:=.type "list",data:=.seq ([]:Z aA).toArray}=H;have hHs:H.objs.size=s.heap.objs.size+1:=by rw[<-hH,Heap.size_push]
 have kp:∀b ob,s.heap.get? b=some ob->H.get? b=some ob:=λb ob e=>hH▸ak _ e;have hHS:H.get? s.heap.objs.size=some {cls:=.type "list",data:=.seq ([]:Z aA).toArray}:=hH▸bh _ rfl;have hT:∀(s':aB),s'.heap.get? a=some o->s'.TypeIs (.ref a) "set":=λs' e=>⟨o,e,kC.1⟩;refine ab<|dC (T:="set") (hT _<|kp _ _ ho) ?_;have h1:Builtin.List.listSameRef (.ref s.heap.objs.size) (.ref a)=false:=by show(s.heap.objs.size==a)=false;exact beq_false_of_ne<|Nat.ne_of_gt hla
 have h2:(aA.type "set" == aA.type "list")=false:=by decide
 have h3:(aA.type "set" == aA.type "tuple")=false:=by decide
 simp only[h1,h2,h3,Bool.or_false,a9,if_false];refine ab<|aix (kp _ _ ho) kC hd ok cX hsz λh1 I os dr hp hw k1 hI=>?_;refine ab<|gm ?_;unfold Builtin.List.listLengthHint;have AO:h1.get? a=some o:=k1 _ _<|kp _ _ ho;refine ab (j5 (T:="set") (v:=.ref a) (hT _ AO) aod ?_)
 wp_delta
 refine ab<|kj (T:="set") (v:=.ref a) (b:=true) (hT _ AO) (by rw[oE];kernel_rfl) ?_;show aG _ A.in1 (typeOf (aA.ref a) >>= _) _ _ _;refine ab<|dC (T:="set") (v:=.ref a) (hT _ AO) ?_;refine aj ?_;rw[if_pos (by decide)];show aG _ A.in1 (tJ "list.extend.makes-room" >>= λ_=>Builtin.List.listTouch (.ref s.heap.objs.size) >>= λ_=>
  again (.builtin "list.extend.loop" ⟨[.ref s.heap.objs.size,.ref I,.ref s.heap.objs.size],[]⟩)) _ _ _
 refine ab<|jl ?_;refine ab ?_;show aG _ A.in1 (iP s.heap.objs.size (·.push .none) >>= λ_=>iP s.heap.objs.size (·.pop)) _ _ _;have hS:h1.get? s.heap.objs.size=some {cls:=.type "list",data:=.seq ([]:Z aA).toArray}:=k1 _ _ hHS;refine ab<|k5 hS rfl ?_;have Fj:=cp (jo (·.push aA.none)) hS rfl;refine k5 (hz:=by seq_fits) Fj rfl ?_;have hS₃:=cp (jo (·.pop)) Fj rfl;have oth:∀b ob,b≠s.heap.objs.size->h1.get? b=some ob->((h1.update s.heap.objs.size<|jo (·.push aA.none)).update s.heap.objs.size (jo (·.pop))).get? b=some ob:=
  λb ob hb e=>(dq _ _<|Ne.symm hb).trans ((dq _ _<|Ne.symm hb).trans e)
 have Fv:s.heap.get? I=none:=by
  cases q:s.heap.get? I with
  | none=>rfl
  | some ob=>
   have hI':H.objs.size<=I:=hI;exact absurd (bi q)<|Nat.not_lt.mpr<|ie (by rw[hHs];exact Nat.le_succ _) hI'
 have hS0:s.heap.get? s.heap.objs.size=none:=by
  cases q:s.heap.get? s.heap.objs.size with
  | none=>rfl
  | some ob=>exact absurd (bi q)<|kb _
 refine aj ⟨jt PySem.F.plain_extend_loop _,aer hh ok cX (by rw[hp.length_eq,ae,a0];exact hsz) _ s.heap Fv hS0 os.length 0 _ _ rfl (f8 _) (hw.keep λb ob e hc=>oth b ob (λz=>?_) e) hS₃ (λb ob e=>oth b ob (λz=>?_)<|k1 _ _<|kp _ _ e) λh2 c2 g2 k2=>?_⟩
 .subst z;rw[hS]at e;cases e;have jA:aA.type "list" = .type "set"\/aA.type "list" = .type "set_iterator"\/aA.type "list" = .type "tuple":=hc;revert jA;decide
 .subst z;rw[hS0]at e;cases e
 .show aG _ A (load s.heap.objs.size >>= _) _ _ _;refine ab<|wpAny_load g2 ?_;refine aj ?_;exact hQ h2 os dr hp k2
end
end L3
namespace L3
open PySem PySem.Spec PyProof.Rows L2
mutual
def Cmp:U->U->Prop
 | .int _,.int _=>True
 | .str _,.str _=>True
 | .tuple xs,.tuple ys=>mX xs ys
 | _,_=>False
def mX:Z U->Z U->Prop
 | [],_=>True
 | _::_,[]=>True
 | x::xs,y::ys=>Cmp x y/\mX xs ys
end
mutual
noncomputable def ltD:U->U->Bool
 | .int a,.int b=>decide (a<b)
 | .str a,.str b=>sLt a b
 | .tuple xs,.tuple ys=>ltL xs ys
 | _,_=>false
noncomputable def ltL:Z U->Z U->Bool
 | [],[]=>false
 | [],_::_=>true
 | _::_,[]=>false
 | x::xs,y::ys=>if br x y=true then ltL xs ys else ltD x y
end
noncomputable def tF(xs:Z Nat):Z Int:=xs.map λ(c:Nat)=>(c:Int)+1
mutual
noncomputable def enc:U->Z Int
 | .int a=>[1,a]
 | .str x=>2::(tF x.cps.toList++[0])
 | .tuple ds=>3::(nO ds++[0])
 | .none=>[9]
 | .bool _=>[9]
 | .list _=>[9]
 | .dict _=>[9]
noncomputable def nO:Z U->Z Int
 | []=>[]
 | d::ds=>enc d++nO ds
end
theorem amh:∀(xs ys:Z Nat)(r r':Z Int),(tF xs++0::r<tF ys++0::r')↔(xs<ys\/xs=ys/\r<r')
 | [],[],r,r'=>by simp[tF,gf]
 | [],y::ys,r,r'=>by
  have:(0:Int)<(y:Int)+1:=by lia
  simp[tF,gf,this]
 | x::xs,[],r,r'=>by
  have h1:¬((x:Int)+1<0):=by lia
  have h2:¬((x:Int)+1=0):=by lia
  simp[tF,gf,h1,h2]
 | x::xs,y::ys,r,r'=>by
  have ih:=amh xs ys r r';unfold tF at ih⊢;simp only[eu,List.cons_append,gf,ih,List.cons.injEq];have h1:((x:Int)+1<(y:Int)+1)↔x<y:=by lia
  have h2:((x:Int)+1=(y:Int)+1)↔x=y:=by lia
  rw[h1,h2];constructor
  .rintro(h|⟨h,h'|⟨h',sS⟩⟩)
   .exact .inl<|.inl h
   .exact .inl<|.inr ⟨h,h'⟩
   .exact .inr ⟨⟨h,h'⟩,sS⟩
  .rintro((h|⟨h,h'⟩)|⟨⟨h,h'⟩,sS⟩)
   .exact .inl h
   .exact .inr ⟨h,.inl h'⟩
   .exact .inr ⟨h,.inr ⟨h',sS⟩⟩
theorem aki:∀(d:U)(r:Z Int),∃a t,enc d++r=a::t/\(0:Int)<a
 | .int a,r=>(l0 1 _ ⟨rfl,by decide⟩)
 | .str x,r=>(l0 2 _ ⟨rfl,by decide⟩)
 | .tuple ds,r=>(l0 3 _ ⟨rfl,by decide⟩)
 | .none,r=>(l0 9 _ ⟨rfl,by decide⟩)
 | .bool _,r=>(l0 9 _ ⟨rfl,by decide⟩)
 | .list _,r=>(l0 9 _ ⟨rfl,by decide⟩)
 | .dict _,r=>(l0 9 _ ⟨rfl,by decide⟩)
mutual
theorem aph:∀(x y:U)(r r':Z Int),Cmp x y->((enc x++r<enc y++r')↔(if br x y=true then r<r' else ltD x y=true))
 | .int a,.int b,r,r',_=>by
  have e:br (.int a) (.int b)=(a==b):=rfl;rw[e];show(1::a::r<1::b::r')↔_;simp only[gf,ltD];by_cases h:a=b
  .subst h;simp
  .simp[h]
 | .str a,.str b,r,r',_=>by
  have e:br (.str a) (.str b)=(a==b):=rfl;rw[e];show(2::((tF a.cps.toList++[0])++r)<2::((tF b.cps.toList++[0])++r'))↔_;rw[gf,bq,bq];show(_\/_/\(tF a.cps.toList++0::r<tF b.cps.toList++0::r'))↔_;rw[amh];have hx:a=b↔a.cps.toList=b.cps.toList:=⟨λh=>by rw[h],λh=>by cases a;cases b;simp only at h;congr;exact Array.ext' h⟩;by_cases h:a=b
  .subst h;simp[List.lt_irrefl]
  .have h':¬a.cps.toList=b.cps.toList:=λz=>h<|hx.mpr z;simp[h,h',ltD,sLt]
 | .tuple xs,.tuple ys,r,r',hc=>by
  have e:br (.tuple xs) (.tuple ys)=df xs ys:=by simp[br]
  rw[e];show(3::((nO xs++[0])++r)<3::((nO ys++[0])++r'))↔_;rw[gf,bq,bq];show(_\/_/\(nO xs++0::r<nO ys++0::r'))↔(if df xs ys=true then r<r' else ltL xs ys=true);rw[amv xs ys r r' hc];simp
theorem amv:∀(xs ys:Z U)(r r':Z Int),mX xs ys->((nO xs++0::r<nO ys++0::r')↔(if df xs ys=true then r<r' else ltL xs ys=true))
 | [],[],r,r',_=>by simp[nO,df,gf]
 | [],y::ys,r,r',_=>by obtain⟨a,t,e,h⟩:=aki y (nO ys++0::r');show(0::r<(enc y++nO ys)++0::r')↔_;rw[bq,e,gf];simp[h,df,ltL]
 | x::xs,[],r,r',_=>by
  obtain⟨a,t,e,h⟩:=aki x (nO xs++0::r);show((enc x++nO xs)++0::r<0::r')↔_;rw[bq,e,gf];have h1:¬a<0:=by lia
  have h2:¬a=0:=by lia
  simp[h1,h2,df,ltL]
 | x::xs,y::ys,r,r',hc=>by
  have jA:Cmp x y/\mX xs ys:=hc;show((enc x++nO xs)++0::r<(enc y++nO ys)++0::r')↔(if (br x y&&df xs ys)=true then r<r' else(if br x y=true then ltL xs ys else ltD x y)=true);rw[bq,bq,aph x y _ _ jA.1];cases h:br x y with
  | true=>
   simp only[if_true,Bool.true_and];exact amv xs ys r r' jA.2
  | false=>simp
end
mutual
theorem am9:∀(x y:U),Cmp x y->br x y=true->ltD x y=false
 | .int a,.int b,_,h=>by
  have e:br (.int a) (.int b)=(a==b):=rfl;rw[e]at h;have:a=b:=by simpa using h
  subst this;simp[ltD]
 | .str a,.str b,_,h=>by
  have e:br (.str a) (.str b)=(a==b):=rfl;rw[e]at h;have:a=b:=by simpa using h
  subst this;exact asi a
 | .tuple xs,.tuple ys,hc,h=>ahm xs ys hc<|by simpa [br]using h
theorem ahm:∀(xs ys:Z U),mX xs ys->df xs ys=true->ltL xs ys=false
 | [],[],_,_=>rfl
 | [],_::_,_,h=>by simp[df]at h
 | _::_,[],_,h=>by simp[df]at h
 | x::xs,y::ys,hc,h=>by
  have h':br x y=true/\df xs ys=true:=by simpa [df]using h
  show(if br x y=true then ltL xs ys else ltD x y)=false;rw[if_pos h'.1];exact ahm xs ys (show Cmp x y/\mX xs ys from hc).2 h'.2
end
mutual
theorem al4:∀(x y:U),Cmp x y->br y x=br x y
 | .int a,.int b,_=>by show(b==a)=(a==b);exact Bool.beq_comm
 | .str a,.str b,_=>by show(b==a)=(a==b);exact Bool.beq_comm
 | .tuple xs,.tuple ys,hc=>by have:=ah5 xs ys hc;simpa [br]using this
theorem ah5:∀(xs ys:Z U),mX xs ys->df ys xs=df xs ys
 | [],[],_=>rfl
 | [],_::_,_=>rfl
 | _::_,[],_=>rfl
 | x::xs,y::ys,hc=>by have jA:Cmp x y/\mX xs ys:=hc;show(br y x&&df ys xs)=(br x y&&df xs ys);rw[al4 x y jA.1,ah5 xs ys jA.2]
end
mutual
theorem aj5:∀(x y:U),Cmp x y->br x y=false->ltD x y=true\/ltD y x=true
 | .int a,.int b,_,h=>by
  have e:br (.int a) (.int b)=(a==b):=rfl;rw[e]at h;have:a≠b:=by simpa using h
  simp only[ltD,decide_eq_true_eq];lia
 | .str a,.str b,_,h=>by
  have e:br (.str a) (.str b)=(a==b):=rfl;rw[e]at h;have:a≠b:=by simpa using h
  show sLt a b=true\/sLt b a=true;cases h1:sLt a b with
  | true=>exact .inl rfl
  | false=>
   cases h2:sLt b a with
   | true=>exact .inr rfl
   | false=>exact absurd (Lj h1 h2) this
 | .tuple xs,.tuple ys,hc,h=>amk xs ys hc<|by simpa [br]using h
theorem amk:∀(xs ys:Z U),mX xs ys->df xs ys=false->ltL xs ys=true\/ltL ys xs=true
 | [],[],_,h=>by simp[df]at h
 | [],_::_,_,h=>.inl rfl
 | _::_,[],_,h=>.inr rfl
 | x::xs,y::ys,hc,h=>by
  have jA:Cmp x y/\mX xs ys:=hc;show(if br x y=true then ltL xs ys else ltD x y)=true\/(if br y x=true then ltL ys xs else ltD y x)=true;have hs:br y x=br x y:=al4 x y jA.1;rw[hs];cases h1:br x y with
  | true=>
   have h2:df xs ys=false:=by simpa [df,h1]using h
   simpa using amk xs ys jA.2 h2
  | false=>simpa using aj5 x y jA.1 h1
end
theorem vz{x y:U}(h:Cmp x y):ltD x y=decide (enc x<enc y):=by
 have k:=aph x y [] [] h;rw[fj,fj]at k;cases he:br x y with
 | true=>
  rw[he,if_pos rfl]at k;rw[am9 x y h he];exact(decide_eq_false λz=>List.lt_irrefl _<|k.mp z).symm
 | false=>
  rw[he,if_neg am]at k;cases hl:ltD x y with
  | true=>exact(decide_eq_true<|k.mpr hl).symm
  | false=>exact(decide_eq_false λz=>by have:=k.mp z;rw[hl]at this;cases this).symm
theorem aq4{x y:U}(h:Cmp x y)(h':Cmp y x)(hx:kd x=true)(hy:kd y=true)(h1:¬enc x<enc y)(h2:¬enc y<enc x):x=y:=by
 cases he:br x y with
 | true=>exact Bv x y hx hy he
 | false=>
  rcases aj5 x y h he with z|z
  .rw[vz h]at z;exact absurd (of_decide_eq_true z) h1
  .rw[vz h']at z;exact absurd (of_decide_eq_true z) h2
noncomputable def ltE(ds:Z U)(i j:Nat):Bool:=decide<|enc (ds.getD i .none)<enc (ds.getD j .none)
noncomputable def xq(ds:Z U):Z U:=(srt (ltE ds) ds.length).map λi=>ds.getD i .none
def aso(ds:Z U):Ord (ltE ds)where
 asy:=λa b h=>decide_eq_false (List.lt_asymm<|of_decide_eq_true h)
 tr:=λa b c h1 h2=>by have fN:enc (ds.getD a .none)<=enc (ds.getD b .none):=of_decide_eq_false h1;have fU:enc (ds.getD b .none)<=enc (ds.getD c .none):=of_decide_eq_false h2;exact decide_eq_false<|List.le_trans fN fU
def qx(ds:Z U):(xq ds).Perm ds:=by have h:=(L0 (ltE ds) ds.length).map λi=>ds.getD i .none;rw[wy]at h;exact h
def zx(ds:Z U):(xq ds).length=ds.length:=(qx ds).length_eq
def LW(ds:Z U):(xq ds).Pairwise λx y=>¬enc y<enc x:=by
 rw[fq];intro i j hi hj cN;have rX:j<ds.length:=by rw[zx]at hj;exact hj
 have u:=apb (aso ds) ds.length (fh cN) rX;have uZ:j<(srt (ltE ds) ds.length).length:=by rw[zg];exact rX
 have C2:i<(srt (ltE ds) ds.length).length:=by lia
 rw[f9,f9,ah uZ,ah C2]at u;have u':=of_decide_eq_false u;have e:∀k (h:k<(xq ds).length) (h':k<(srt (ltE ds) ds.length).length),(xq ds)[k]=ds.getD (srt (ltE ds) ds.length)[k] .none:=λk h h'=>by simp[xq]
 rw[e j hj uZ,e i hi C2];exact u'
def CmpA(ds:Z U):Prop:=(∀x∈ds,∀y∈ds,Cmp x y)/\∀x∈ds,kd x=true
def CmpA.sub{ds es:Z U}(h:CmpA ds)(hs:∀x∈es,x∈ds):CmpA es:=⟨λx hx y hy=>h.1 x (hs x hx) y<|hs y hy,λx hx=>h.2 x<|hs x hx⟩
theorem LC:∀{xs ys:Z U},xs.Perm ys->CmpA xs->xs.Pairwise (λx y=>¬enc y<enc x)->ys.Pairwise (λx y=>¬enc y<enc x)->xs=ys
 | [],ys,p,_,_,_=>(List.Perm.nil_eq p).symm▸rfl
 | x::xs,[],p,_,_,_=>absurd p.length_eq (by simp)
 | x::xs,y::ys,p,hc,hx,hy=>by
  have oX:=gk.mp hx;have wK:=gk.mp hy;have m1:y∈x::xs:=p.mem_iff.mpr aq;have m2:x∈y::ys:=p.mem_iff.mp aq;have a1:¬enc y<enc x:=by
   rcases a7.mp m1 with e|m
   .rw[e];exact List.lt_irrefl _
   .exact oX.1 y m
  have a2:¬enc x<enc y:=by
   rcases a7.mp m2 with e|m
   .rw[e];exact List.lt_irrefl _
   .exact wK.1 x m
  have e:x=y:=aq4 (hc.1 x aq y m1) (hc.1 y m1 x aq) (hc.2 x aq) (hc.2 y m1) a2 a1;subst e;rw[LC (List.Perm.cons_inv p) (hc.sub λz hz=>av _ hz) oX.2 wK.2]
def ab5{xs ys:Z U}(p:xs.Perm ys)(hc:CmpA xs):xq xs=xq ys:=
 LC ((qx xs).trans (p.trans (qx ys).symm)) (hc.sub λx hx=>(qx xs).mem_iff.mp hx) (LW xs) (LW ys)
def LtAt(A:Around)(s:aB)(u v:aA)(b:Bool):Prop:=∀(prog:aK)(w:aO)(E:aA->aB->Prop)(Q:aA->aB->Prop),Q (.bool b) s->aG (aH prog w) A (richCompare .Lt u v) Q E s
theorem LtAt.int{A:Around}{s:aB}(a:Int)(t:uC)(c:Int)(u:uC):LtAt A s (.int a t) (.int c u) (decide<|a<c):=λprog w E Q h=>
 (PyProof.Rows.lt_int h:aG (aH prog w) A (aV .Lt (.int a t)<|.int c u) Q E s)
theorem LtAt.str{A:Around}{s:aB}(a:Str)(t:uC)(c:Str)(u:uC):LtAt A s (.str a t) (.str c u) (sLt a c):=λprog w E Q h=>
 (PyProof.Rows.lt_str h:aG (aH prog w) A (aV .Lt (.str a t)<|.str c u) Q E s)
def DV(A:Around)(s:aB):Z aA->Z aA->Z U->Z U->Prop
 | v::vs,w::ws,x::xs,y::ys=>SeqAt.EqAt A s v w (br x y)/\LtAt A s v w (ltD x y)/\DV A s vs ws xs ys
 | [],_,[],_=>True
 | _::_,[],_::_,[]=>True
 | _,_,_,_=>False
section
open PySem.SeqAt
open PySem.AutoSeq1 (wpAny_loadPart')
open PySem.MeetsSeq PySem.MeetsSeq2 PySem.MeetsSeq3
theorem adm(l b:aF)(items fS:Array aA)(n n2:Nat)(dd xL:Option aF)(sl wB:Array (Option aA))(xs ys:Z U)(hi:items.toList.length=xs.length)(hj:fS.toList.length=ys.length) :
  Meets (Builtin.«tuple.__lt__» ⟨[.ref l,.ref b],[]⟩)
   (λA R s=>s.heap.get? l=some {cls:=.type "tuple",dict:=dd,data:=.seq items n,slots:=sl}/\s.heap.get? b=some {cls:=.type "tuple",dict:=xL,data:=.seq fS n2,slots:=wB}/\
    DV A.in1 s items.toList fS.toList xs ys/\R (.ok<|.ret<|.bool<|ltL xs ys) s):=
 .of_wp λprog w A R s h=>by
  obtain⟨hp,g,d,tk,os⟩:=s;obtain⟨hl,hb,hP,h⟩:=h;have f2:=AutoSeq1.sub_tuple_tuple;have z1:items.size=xs.length:=by rw[<-hi];simp
  have z2:fS.size=ys.length:=by rw[<-hj];simp
  wp_walk using wpAny_loadPart' hl,wpAny_loadPart' hb,cI _ (λaY b s'=>b.1=none/\s'=⟨hp,g,d,tk,os⟩/\∃(vs ws:Z aA)(qZ pT:Z U),aY=vs.zip ws/\
   vs.length=qZ.length/\ws.length=pT.length/\DV A.in1 ⟨hp,g,d,tk,os⟩ vs ws qZ pT/\qZ.length+fS.size=pT.length+items.size/\R (.ok<|.ret<|.bool<|ltL qZ pT) ⟨hp,g,d,tk,os⟩) _
  case turn=>
   rintro⟨y,x⟩ aY b s' ⟨cU,rfl,vs,ws,qZ,pT,hz,E1,EY,hpa,aZ,hR⟩;cases vs with
   | nil=>rw[List.zip_nil_left]at hz;cases hz
   | cons v vs=>
    cases ws with
    | nil=>rw[List.zip_nil_right]at hz;cases hz
    | cons w' ws=>
     cases qZ with
     | nil=>cases E1
     | cons n' qZ=>
      cases pT with
      | nil=>cases EY
      | cons m' pT=>
       rw[List.zip_cons_cons]at hz;injection hz with hyx rL
       injection hyx with hy hx
       subst hy hx;obtain⟨he,bS,Ih⟩:=hpa;have Fq:R (.ok<|.ret<|.bool (if br n' m'=true then ltL qZ pT else ltD n' m')) ⟨hp,g,d,tk,os⟩:=hR;simp only[bp]at aZ E1 EY;refine ab<|he prog w _ _ ?_;cases hq:br n' m' with
       | true=>
        rw[hq,if_pos rfl]at Fq
        wp_walk
        exact⟨rfl,rfl,(l9 _ _ _ _ ⟨rL,by lia,by lia,Ih,by lia,Fq⟩)⟩
       | false=>
        rw[hq,if_neg am]at Fq;have hri:=bS prog w
        wp_walk using hri
        exact⟨_,rfl,by simpa using Fq⟩
  case fin=>
   rintro⟨b1,b2⟩ s' ⟨cU,rfl,vs,ws,qZ,pT,hz,E1,EY,hpa,aZ,hR⟩;simp only at cU;subst cU;have hv:ltL qZ pT=decide (items.size<fS.size):=by
    cases qZ with
    | nil=>
     cases pT with
     | nil=>
      simp only[je]at aZ;show false=_;exact(decide_eq_false<|by lia).symm
     | cons c u=>
      simp only[je,bp]at aZ;show true=_;exact(decide_eq_true<|by lia).symm
    | cons a t=>
     cases pT with
     | nil=>
      simp only[je,bp]at aZ;show false=_;exact(decide_eq_false<|by lia).symm
     | cons c u=>
      cases vs with
      | nil=>cases E1
      | cons v vs=>
       cases ws with
       | nil=>cases EY
       | cons w' ws=>
        rw[List.zip_cons_cons]at hz;cases hz
   rw[hv]at hR
   wp_walk
   exact⟨_,rfl,by simpa [Builtin.Tuple.tupleCompareSizes]using hR⟩
  case h=>
   exact⟨rfl,rfl,(l9 items.toList fS.toList xs ys ⟨rfl,hi,hj,hP,by lia,h⟩)⟩
end
mutual
theorem ajo:∀(x y:U),Cmp x y->∀(A:Around)(s:aB)(u v:aA)(as bs:Z aF),Reads s.heap u x as->Reads s.heap v y bs->x.canLay0=true->y.canLay0=true->
  A.units+iA x.depth y.depth<bI->LtAt A s u v (ltD x y)
 | .int a,.int b,_=>by intro A s u v as bs r1 r2 _ _ _;cases r1;cases r2;exact LtAt.int _ _ _ _
 | .str a,.str b,_=>by intro A s u v as bs r1 r2 _ _ _;cases r1;cases r2;exact LtAt.str _ _ _ _
 | .tuple xs,.tuple ys,hc=>by
  intro A s u v as bs r1 r2 h1 h2 hu;cases r1 with
  | @tuple a o vs n _ _ e1 e2 e3 z=>
   cases r2 with
   | @tuple a' o' xZ n' _ _ f1 f2 f3 z'=>
    obtain⟨cls,dd,data,sl⟩:=o;obtain⟨DD,xL,data2,wB⟩:=o';simp only at e2 e3 f2 f3;subst e2 e3 f2 f3;intro prog w E Q hq;have hp:=wk xs ys hc A.in1 s _ _ _ _ z z' h1 h2<|SeqAt.room_in hu;exact richCompare_meets_room (op:=.Lt) ⟨_,e1,rfl⟩ ⟨_,f1,rfl⟩ PySem.F.slot_tuple_lt PySem.F.entry_tuple_lt (PySem.F.args_tuple_lt_2 _ _) (adm a a' vs xZ n n' dd xL sl wB xs ys (ir _ _ _ z)<|ir _ _ _ z')
     ⟨e1,f1,hp,show aA.bool (ltL xs ys)≠aA.notImplemented/\Q (.bool<|ltL xs ys) s from ⟨(λx=>nomatch x),hq⟩⟩ (SeqAt.room_here hu)
theorem wk:∀(xs ys:Z U),mX xs ys->∀(A:Around)(s:aB)(vs ws:Z aA)(as bs:Z aF),ReadsAll s.heap vs xs as->ReadsAll s.heap ws ys bs->iq xs=true->iq ys=true->
  A.units+iA (bu xs) (bu ys)<bI->DV A s vs ws xs ys
 | [],_,_=>by
  intro A s vs ws as bs r1 r2 _ _ _;cases r1;cases r2 with
  | nil=>exact True.intro
  | cons _ _=>exact True.intro
 | x::xs,[],_=>by intro A s vs ws as bs r1 r2 _ _ _;cases r1;cases r2;exact True.intro
 | x::xs,y::ys,hc=>by
  intro A s vs ws as bs r1 r2 h1 h2 hu;have fN:x.canLay0=true/\iq xs=true:=by simpa [iq]using h1
  have fU:y.canLay0=true/\iq ys=true:=by simpa [iq]using h2
  cases r1 with
  | cons ra rb=>
   cases r2 with
   | cons rc rd=>
    exact⟨SeqAt.eqAt_reads x y A s _ _ _ _ ra rc fN.1 fU.1<|SeqAt.room_head hu,ajo x y (show Cmp x y/\mX xs ys from hc).1 A s _ _ _ _ ra rc fN.1 fU.1 (SeqAt.room_head hu),
     wk xs ys (show Cmp x y/\mX xs ys from hc).2 A s _ _ _ _ rb rd fN.2 fU.2 (SeqAt.room_tail hu)⟩
end
section
variable{prog:aK}{w:aO}{A:Around}{E:aA->aB->Prop}{s:aB}{Q:Bool->aB->Prop}
theorem ahz{b fin:Bool}:∀(xs ys:Z U)(vs ws:Z aA)(i:Nat),(b=false\/0<i)->vs.length=xs.length->ws.length=ys.length->DV A s vs ws xs ys->fin=decide (xs.length<ys.length)->Q (ltL xs ys) s->
  PySem.W.KatLex prog w A b fin Q (vs.zip ws) i s
 | [],ys,vs,ws,i,hb,l1,l2,hp,hf,q=>by
  cases vs with
  | cons v vs=>cases l1
  | nil=>
   rw[List.zip_nil_left];refine PySem.W.kat_nil ?_;rw[hf];cases ys with
   | nil=>exact q
   | cons y ys=>exact q
 | x::xs,[],vs,ws,i,hb,l1,l2,hp,hf,q=>by
  cases ws with
  | cons v vs=>cases l2
  | nil=>
   rw[List.zip_nil_right];refine PySem.W.kat_nil ?_;rw[hf];exact q
 | x::xs,y::ys,vs,ws,i,hb,l1,l2,hp,hf,q=>by
  cases vs with
  | nil=>cases l1
  | cons v vs=>
   cases ws with
   | nil=>cases l2
   | cons w' ws=>
    rw[List.zip_cons_cons];obtain⟨he,bS,nJ⟩:=hp;have q':Q (if br x y=true then ltL xs ys else ltD x y) s:=q;refine PySem.W.kat_cons<|he prog w _ _ ?_;cases hq:br x y with
    | true=>
     rw[hq,if_pos rfl]at q';refine PySem.W.kat_yes<|ahz xs ys vs ws (i+1) (.inr<|Nat.succ_pos _) (by simpa using l1) (by simpa using l2) nJ ?_ q';rw[hf];simp
    | false=>
     rw[hq,if_neg am]at q';refine PySem.W.kat_no ?_;have cU:(b&&i==0)=false:=by
      rcases hb with h|h
      .rw[h];rfl
      .have:(i==0)=false:=by simp;lia
       rw[this];simp
     rw[cU];exact PySem.W.kat_one _ _<|bS prog w _ _ q'
theorem avc{u v:aA}{x y:U}{as bs:Z aF}(r1:Reads s.heap u x as)(r2:Reads s.heap v y bs)(hx:∃xs,x=.tuple xs)(hy:∃ys,y=.tuple ys)(l1:x.canLay0=true)(l2:y.canLay0=true)(hc:Cmp x y)
  (hu:A.units+iA x.depth y.depth<bI) (q:Q (ltD x y) s):aG (aH prog w) A (lK (nA false) u v) Q E s:=by
 obtain⟨xs,rfl⟩:=hx;obtain⟨ys,rfl⟩:=hy;cases r1 with
 | @tuple a o vs n _ _ e1 e2 e3 z=>
  cases r2 with
  | @tuple a' o' xZ n' _ _ f1 f2 f3 z'=>
   have k1:=ir _ _ _ z;have k2:=ir _ _ _ z';refine PySem.W.kat_lt e1 e3 f1 f3<|ahz xs ys _ _ 0 (.inl rfl) k1 k2 (wk xs ys hc A s _ _ _ _ z z' l1 l2 ?_) ?_ q
   .have h1:(PyData.tuple xs).depth=bu xs+1:=rfl;have h2:(PyData.tuple ys).depth=bu ys+1:=rfl;rw[h1,h2]at hu;lia
   .rw[a0]at k1 k2;rw[k1,k2]
end
def TT(d:U):Prop:=∃r aY,d=.tuple (.tuple r::aY)
theorem ah3{h:Heap}:∀(os:Z aA)(ds:Z U),os.length=ds.length->(∀(i:Nat) v d,os[i]?=some v->ds[i]?=some d->TT d/\∃as,Reads h v d as)->
  ∃fs:Z aA,j4 h os fs/\fs.length=os.length/\∀v∈fs,∃a o,v=.ref a/\h.get? a=some o/\o.cls=.type "tuple"
 | [],_,_,_=>⟨[],trivial,rfl,λv hv=>by cases hv⟩
 | v::os,[],hl,_=>by cases hl
 | v::os,d::ds,hl,hr=>by
  obtain⟨⟨r,aY,rfl⟩,as,rd⟩:=hr 0 v d rfl rfl;obtain⟨fs,k1,k2,k3⟩:=ah3 os ds (by simpa using hl) λi v d h1 h2=>hr (i+1) v d (by simpa using h1) (by simpa using h2);cases rd with
  | @tuple a o vs n _ _ e1 e2 e3 z=>
   generalize hv:vs.toList=vl at z;cases z with
   | cons ra rb=>
    cases ra with
    | @tuple a' o' xZ n' _ _ f1 f2 f3 z'=>
     refine⟨.ref a'::fs,j4.cons e1 e2 e3 (by rw[<-bm,hv];rfl) k1,by rw[bp,bp,k2],λv hv=>?_⟩;rcases a7.mp hv with rfl|hv
     .exact(l0 a' o' ⟨rfl,f1,f2⟩)
     .exact k3 v hv
def RL(R:aA->U->Prop):Z aA->Z U->Prop
 | [],[]=>True
 | v::vs,d::ds=>R v d/\RL R vs ds
 | _,_=>False
theorem RL.perm{R:aA->U->Prop}{os vs:Z aA}(p:os.Perm vs):∀{ds:Z U},RL R vs ds->∃bT,bT.Perm ds/\RL R os bT:=by
 induction p with
 | nil=>intro ds h;exact⟨ds,.refl _,h⟩
 | cons x p ih=>
  intro ds h;cases ds with
  | nil=>exact h.elim
  | cons d ds=>
   obtain⟨bT,p',h'⟩:=ih h.2;exact⟨d::bT,p'.cons d,h.1,h'⟩
 | swap x y l=>
  intro ds h
  match ds,h with
  | d1::d2::ds,h=>exact⟨d2::d1::ds,.swap _ _ _,h.2.1,h.1,h.2.2⟩
 | trans p1 p2 ih1 ih2=>
  intro ds h;obtain⟨d1,q1,h1⟩:=ih2 h;obtain⟨d2,q2,h2⟩:=ih1 h1;exact⟨d2,q2.trans q1,h2⟩
theorem RL.length{R:aA->U->Prop}:∀{vs:Z aA} {ds:Z U},RL R vs ds->vs.length=ds.length
 | [],[],_=>rfl
 | v::vs,d::ds,h=>by rw[bp,bp,RL.length h.2]
 | [],_::_,h=>h.elim
 | _::_,[],h=>h.elim
theorem RL.at{R:aA->U->Prop}:∀{vs:Z aA} {ds:Z U} {i:Nat} {v:aA} {d:U},RL R vs ds->vs[i]?=some v->ds[i]?=some d->R v d
 | v::vs,d::ds,0,_,_,h,h1,h2=>by cases h1;cases h2;exact h.1
 | v::vs,d::ds,i+1,_,_,h,h1,h2=>RL.at h.2 (by simpa using h1) (by simpa using h2)
 | [],_,_,_,_,_,h1,_=>by simp at h1
 | _::_,[],_,_,_,h,_,_=>h.elim
theorem RL.els{Pv:aA->U->Prop}{w:aO}{h:Heap}:∀{es:Z (Int×aA)} {ds:Z U},Els Pv w h es ds->RL (λv d=>∃k,El Pv w h (k,v) d) (es.map (·.2)) ds
 | [],ds,x=>by rw[amm x];exact True.intro
 | e::es,ds,x=>by obtain⟨d,cZ,rfl,h1,h2⟩:=ym x;exact⟨⟨e.1,h1⟩,RL.els h2⟩
def azy(prog:aK)(w:aO)(K:ax):R2:=λx y H Q=>∃(p:aF)(k:Str)(o:Obj) (kvs:Z (Str×aA)) (v:Int) (t:uC),x=.ref p/\y=.str k/\K.lookup p=some o/\o.IsDictOf (strKind prog w) kvs/\fV kvs k=some (.int v t)/\Q (.int v) H
section
variable{X:Cx}{x:Str}{pos:dQ}
def ar1:IxR X (azy X.prog X.w X.K):=by intro value eY aE s σ H x y v u Q I rx ry h hs;obtain⟨p,k,o,kvs,n,t,rfl,rfl,hk,hd,hv,q⟩:=h;cases rx;obtain⟨t',rfl⟩:=ry;have hm:s.heap.DictOf (strKind X.prog X.w) p kvs:=Heap.dictOf_iff.mpr ⟨o,I.kIn p o hk,hd⟩;exact tail_any hm.typeIs slot_dict_getitem.lookup (EG (eO _ _ k t') hm.mapOf hv<|l0 (.int n) H ⟨I.tok _,⟨t,rfl⟩,q⟩) hs
def aia{a:aF}(h:X.mg x=some (.ref a))(hg:Gl X x)(hd:(x==("__debug__" : Str))=false:=by decide):PE X (.Name x pos) (tC<|.ref a):=aly hg h rfl hd
end
def DM(ks:Z Bool)(ds:Z U):Prop:=∀d∈ds,∃r,d=.tuple r/\Row (false::ks) r
def alb{ks:Z Bool}{ds:Z U}(h:DM ks ds):vM ltR ds:=by
 have at':∀d∈ds,Row (false::ks) (uu d):=λd hd=>by obtain⟨r,e,hr⟩:=h d hd;rw[e];exact hr
 exact⟨λx hx y hy q=>DS (at' x hx) (at' y hy) q,λx hx y hy z hz q1 q2=>DP (at' x hx) (at' y hy) (at' z hz) q1 q2⟩
theorem LF{h:Heap}{ks:Z Bool}{d:U}{u:aA}{bs:Z aF}(z:Reads h u d bs){row:Z U}(e:d=.tuple row)(hr:Row (false::ks) row) :
  ∃a o vs n as i t,u=.ref a/\h.get? a=some o/\o.cls=.type "tuple"/\o.data=.seq vs n/\ReadsAll h vs.toList row as/\vs[0]?=some (.str i t):=by
 subst e;cases z with
 | @tuple a o vs n _ _ e1 e2 e3 z=>
  obtain⟨i,rr,rfl,_⟩:=hr;have z':=z;generalize hv:vs.toList=vl at z;cases z with
  | cons ra rb=>
   cases ra with
   | str _ t=>
    refine(lv a o vs n _<|l0 i t ⟨rfl,e1,e2,e3,z',?_⟩);rw[<-bm,hv];rfl
theorem aez{h:Heap}{ks:Z Bool}:∀{ds:Z U} {us:Z aA},us.length=ds.length->(∀(i:Nat) u d,us[i]?=some u->ds[i]?=some d->∃as,Reads h u d as)->DM ks ds->∃fs:Z aA,j4 h us fs/\fs.length=ds.length/\∀v∈fs,∃i t,v=aA.str i t
 | [],[],_,_,_=>⟨[],trivial,rfl,λv hv=>by cases hv⟩
 | [],u::us,hl,_,_=>by cases hl
 | d::ds,[],hl,_,_=>by cases hl
 | d::ds,u::us,hl,r,hr=>by
  obtain⟨row,e,oZ⟩:=hr d aq;obtain⟨bs,z⟩:=r 0 u d rfl rfl;obtain⟨a,o,vs,n,as,i,tk,rfl,e1,e2,e3,_,e4⟩:=LF z e oZ;obtain⟨fs,k1,k2,k3⟩:=aez (ds:=ds) (us:=us) (by simpa using hl) (λi u d h1 h2=>r (i+1) u d (by simpa using h1)<|by simpa using h2) λd hd=>hr d<|av _ hd;refine⟨.str i tk::fs,j4.cons e1 e2 e3 e4 k1,by rw[bp,bp,k2],λv hv=>?_⟩;rcases a7.mp hv with rfl|hv
  .exact(l0 i tk rfl)
  .exact k3 v hv
section
variable{prog:aK}{w:aO}{A:Around}{s:aB}{E:aA->aB->Prop}
def ay6{ks:Z Bool}{d e:U}{u v:aA}{as bs:Z aF}(r1:Reads s.heap u d as)(r2:Reads s.heap v e bs)(hd:∃r,d=.tuple r/\Row (false::ks) r)(he:∃r,e=.tuple r/\Row (false::ks) r){Q:Bool->aB->Prop}(hq:Q (ltR d e) s) :
  aG (aH prog w) A (lK (nA true) u v) Q (λ_ _=>False) s:=by
 obtain⟨row,rfl,hr⟩:=hd;obtain⟨B0,rfl,wO⟩:=he;obtain⟨a,o,vs,n,as1,_,_,rfl,e4,_,e5,e6,_⟩:=LF r1 rfl hr;obtain⟨a',o',xZ,n',as2,_,_,rfl,f4,_,f5,f6,_⟩:=LF r2 rfl wO;have z1:vs.size=ks.length+1:=by have q1:=ir _ _ _ e6;have q2:=hr.len;simp at q1 q2;lia
 have z2:xZ.size=ks.length+1:=by have q1:=ir _ _ _ f6;have q2:=wO.len;simp at q1 q2;lia
 refine PySem.W.kat_lt e4 e5 f4 f5 ?_;rw[decide_eq_false (by lia)];exact Gw hr wO e6 f6 hq
def axf{ks:Z Bool}{ds:Z U}{us:Z aA}(hl:us.length=ds.length)(h2:2<=us.length)(r:∀(i:Nat) u d,us[i]?=some u->ds[i]?=some d->∃as,Reads s.heap u d as)(hr:DM ks ds){Q:aW->aB->Prop}(hq:Q (nA true) s) :
  aG (aH prog w) A (kK us.toArray) Q E s:=by
 obtain⟨fs,kt,kf,ki⟩:=aez hl r hr;refine PySem.W.kat_kind (T:=aA.type "str") kt (by lia) (λv hv=>?_) rfl hq;obtain⟨i,t,rfl⟩:=ki v hv;exact PySem.W.Looks.of_pure rfl
end
section
variable{X:Cx}
def afs:ub X (.builtin "sorted") (λvs H Q=>∃p xs ds ks,vs=[.ref p]/\H p=some (.lst xs)/\RepAll H ds xs/\DM ks ds/\
  ∀l ys es,H l=none->es.Perm ds->es.Pairwise (λx y=>ltR y x=false)->RepAll (upd H l<|.lst ys) es ys->Q (.ref l) (upd H l<|.lst ys)):=by
 intro aE s σ H xs us Q I r h;obtain⟨p,xs,ds,ks,rfl,hp,cY,cP,q⟩:=h;obtain⟨u,rfl,r1⟩:=va r;cases (show u=aA.ref p from r1);obtain⟨its,rv,pl,hz⟩:=I.list<|SqL.of (K:=X.K) hp;have l1:xs.length=ds.length:=cY.length;have l2:xs.length=its.length:=rv.length;obtain⟨as,B6⟩:=RepAll.reads I cY rv;refine zt (κ:=nA true) (lt:=ltR) I cY rv (by lia) (Lz pl.isList<|by lia) (alb cP) (λh2 s' k Q' E' hq=>?_) (λs' k i j d e u v ui di vj dj Q' hq=>?_) q
 .refine axf (by lia) h2 (λi u d h1 h2=>?_) cP hq;obtain⟨bs,rd⟩:=yo B6 h1 h2;exact⟨bs,Reads.keeps k rd⟩
 .obtain⟨bs,rd⟩:=yo B6 ui di;obtain⟨bs',Hg⟩:=yo B6 vj dj;exact ay6 (Reads.keeps k rd) (Reads.keeps k Hg) (cP d<|ai di) (cP e<|ai dj) hq
end
structure aj6(prog:aK)(w:aO)(A:Around)(κ:aW)(lt:U->U->Bool)(ds:Z U):Prop where
 ord:vM lt ds
 kind:∀(s:aB)(os:Z aA)(bT:Z U),(∀d∈bT,d∈ds)->os.length=bT.length->2<=os.length->(∀(i:Nat)(v:aA)(d:U),os[i]?=some v->bT[i]?=some d->∃as,Reads s.heap v d as)->
  ∀(Q:aW->aB->Prop)(E:aA->aB->Prop),Q κ s->aG (aH prog w) A (kK os.toArray) Q E s
 key:∀(s:aB)(u v:aA)(d e:U)(as bs:Z aF),d∈ds->e∈ds->Reads s.heap u d as->Reads s.heap v e bs->d.canLay0=true->e.canLay0=true->∀(Q:Bool->aB->Prop),Q (lt d e) s->aG (aH prog w) A (lK κ u v) Q (λ_ _=>False) s
section
variable{X:Cx}{aE:Z (aF×Obj)}{σ:L2.St}{H:Hp}{s:aB}
def abr(I:Inv X aE σ H s){Pv:aA->U->Prop}(hPv:∀v d,Pv v d->∃x,RelV x v/\Rep H d x){a:aF}{ds:Z U}(hc:X.calm=true)(hS:SetD Pv X.w s.heap a ds)(aZ:ds.length<=4000){κ:aW}{lt:U->U->Bool}(sa:aj6 X.prog X.w X.A.in1.in1 κ lt ds){Q:VK}
  (q:∀(es:Z U)(l:aF)(ys:Z V),es.Perm ds->es.Pairwise (λx y=>lt y x=false)->H l=none->RepAll (upd H l<|.lst ys) es ys->Q (.ref l) (upd H l<|.lst ys)) :
  aG (aH X.prog X.w) X.A (call (.builtin "sorted") [.ref a]) (EP X aE σ Q) X.xe s:=by
 obtain⟨o,es,ep,tb,ho,kC,lC,ok,few,els,nd,cX⟩:=hS;have hsz:es.size=ds.length:=by have:=els.1;rw[a0]at this;exact this
 refine afi (κ:=κ) (P:=λos bT=>os.Perm (es.toList.map (·.2))/\bT.Perm ds/\RL (λx d=>∃k,El Pv X.w s.heap (k,x) d) os bT) I ?_ (λQ' E' hq=>?_) sa.ord ?_ ?_ λl ys es h1 h2 h3 h4=>q es l ys h2 h3 h1 h4
 .rintro os bT ⟨_,pd,rl⟩;have:=pd.length_eq;have rP:=rl.length;refine⟨by rw[cE];lia,rP,pd,λi v d h1 h2=>?_⟩;obtain⟨k,el⟩:=rl.at h1 h2;exact hPv _ _ el.own
 .refine ae2 (A:=X.A.in1) (I.ok.hd hc) ho kC lC ok cX (by lia) λh1 os dr jI k1=>?_;obtain⟨bT,pd,rl⟩:=RL.perm jI<|RL.els els;exact hq os bT h1 s.toks dr ⟨jI,pd,rl⟩ k1
 .rintro os bT ⟨_,pd,rl⟩ h2 s' kp Q' E' hq;refine sa.kind s' os bT (λd hd=>pd.mem_iff.mp hd) rl.length h2 (λi v d h1 h2=>?_) Q' E' hq;obtain⟨k,el⟩:=rl.at h1 h2;obtain⟨bs,rd⟩:=el.reads;exact⟨bs,Reads.keeps kp rd⟩
 .rintro os bT ⟨_,pd,rl⟩ s' kp i j d e u v hi di hj dj Q' hq;obtain⟨k,el⟩:=rl.at hi di;obtain⟨k',el'⟩:=rl.at hj dj;obtain⟨bs,rd⟩:=el.reads;obtain⟨bs',Hg⟩:=el'.reads;exact sa.key s' u v d e bs bs' (pd.mem_iff.mp<|ai di) (pd.mem_iff.mp<|ai dj) (Reads.keeps kp rd) (Reads.keeps kp Hg) el.lay el'.lay Q' hq
end
def aq1{ds:Z U}(h:CmpA ds):vM ltD ds:=⟨λx hx y hy q=>by
  rw[vz (h.1 x hx y hy)]at q;rw[vz (h.1 y hy x hx)];exact decide_eq_false<|List.lt_asymm<|of_decide_eq_true q,λx hx y hy z hz q1 q2=>by
  rw[vz (h.1 y hy x hx)]at q1;rw[vz (h.1 z hz y hy)]at q2;rw[vz (h.1 z hz x hx)];have h1:enc x<=enc y:=of_decide_eq_false q1;have h2:enc y<=enc z:=of_decide_eq_false q2;exact decide_eq_false<|List.le_trans h1 h2⟩
def akd{prog:aK}{w:aO}{A B:Around}{ds:Z U}(hu:B.units+64<bI)(hB:A=B.in1.in1)(dN:∀d∈ds,Bn d/\TT d)(iU:CmpA ds):aj6 prog w A (nA false) ltD ds where
 ord:=aq1 iU
 kind:=λs os bT hs hl h2 r Q E q=>by
  obtain⟨fs,k1,k2,k3⟩:=ah3 (h:=s.heap) os bT hl λi v d h1 h2=>by obtain⟨bs,rd⟩:=r i v d h1 h2;exact⟨(dN d<|hs d<|ai h2).2,bs,rd⟩
  refine PySem.W.kat_kind (T:=aA.type "tuple") k1 (by lia) (λv hv=>?_) rfl q;obtain⟨a,o,rfl,g1,g2⟩:=k3 v hv;rw[<-g2];exact(PySem.W.Looks.ld g1).andThen .now
 key:=λs u v d e as bs hd he r1 r2 l1 l2 Q q=>by refine avc r1 r2 (dN _ hd).1.2.1 (dN _ he).1.2.1 l1 l2 (iU.1 _ hd _ he) ?_ q;have:=(dN _ hd).1.2.2;have:=Nat.min_le_left d.depth e.depth;subst hB;show B.units+1+1+_<_;lia
def aoq:Z V->Hp->VK->Prop:=λvs H Q=>∃(p:aF)(xs:Z V)(ds:Z U),vs=[.ref p]/\H p=some (.lst xs)/\RepAll H ds xs/\(∀d∈ds,Bn d/\TT d)/\CmpA ds/\ds.length<4000/\
 ∀(cZ:Z U)(l:aF)(ys:Z V),cZ.Nodup->(∀d,d∈cZ↔d∈ds)->H l=none->RepAll (upd H l<|.lst ys) (xq cZ) ys->Q (.ref l) (upd H l<|.lst ys)
section
variable{X:Cx}{p p2 pos nF:dQ}{e:Expr}{t:TA}
def zk(hc:X.calm=true)(hu:X.A.units+64<bI)(hg:Gl X "sorted")(hm:X.mg "sorted" = none)(IU:Gl X "set")(pZ:X.mg "set" = none)(ha:PA X [e] t)(h1:nw e=true:=by rfl) :
  PE X (.Call (.Name "sorted" p) [.Call (.Name "set" p2) [e] [] nF] [] pos) (tCB aoq t):=by
 intro aE s σ H Q I h;refine iz (uz I hg hm kg ?_ (by decide)<|by decide);refine PyProof.Rows.callWith_builtin1 ?_ (ou rfl) rfl;rw[ou rfl];show aG _ _ (BU ((false,bX (.Call (.Name "set" p2) [e] [] nF) X.env)::cV pos (aU [] X.env))) _ _ s;refine jp ?_;refine iz (uz I IU pZ boot_set ?_ (by decide)<|by decide);refine ft (thn (ha nF aE s σ H _ I h) λus s1 ⟨vs,H1,I1,r1,q1⟩=>?_) (ou h1) rfl;obtain⟨pl,xs,ds,rfl,hp,cY,dN,iU,hb,q⟩:=q1;obtain⟨u,rfl,ru⟩:=va r1;cases (show u=aA.ref pl from ru);obtain⟨its,rv,il,hz⟩:=I1.list<|SqL.of (K:=X.K) hp;obtain⟨as,B6⟩:=RepAll.reads I1 cY rv;have CU:=cY.lay;have iX:xs.length=ds.length:=cY.length;have fJ:xs.length=its.length:=rv.length;refine akv (Pv:=λv d=>∃i:Nat,its[i]?=some v/\ds[i]?=some d) (ds:=ds) (I1.ok.hd hc) il.isList (by rw[bj];lia) (λi v d hv hd=>?_) (by lia) (by lia) λh' tk cZ hS hmem aZ hk ht=>?_
 .rw[List.getElem?_toArray]at hv;obtain⟨bs,rd⟩:=yo B6 hv hd;have uU:=ai hd;exact⟨⟨i,hv,hd⟩,rfl,(dN d uU).1.1,(dN d uU).1.2.1,amu CU d uU,(dN d uU).1.2.2,bs,rd⟩
 .refine Calls.spliced_nil ?_;have I2:Inv X aE σ H1 {s1 with heap:=h',toks:=tk}:=I1.kept hk;obtain⟨_,_,_,_,_,_,_,_,_,_,nd,_⟩:=id hS;have sub:∀d∈cZ,d∈ds:=λd hd=>(hmem d).mp hd;refine abr I2 (λv d hg=>by
   obtain⟨i,g1,g2⟩:=hg;obtain⟨x,x1,x2⟩:=cY.get g2;obtain⟨u,u1,u2⟩:=rv.get x1;have:u=v:=by rw[u1]at g1;cases g1;rfl
   subst this;exact⟨x,u2,x2⟩) hc hS (by lia) (akd (B:=X.A) hu rfl (λd hd=>dN d<|sub d hd)<|iU.sub sub) λes l ys pe ue hl re=>?_
  have ee:es=xq cZ:=by refine LC (pe.trans (qx cZ).symm) ((iU.sub sub).sub λx hx=>pe.mem_iff.mp hx) (gu (λ{a b} ha hb lD=>?_) ue)<|LW cZ;rw[vz (iU.1 _ (sub _<|pe.mem_iff.mp hb) _<|sub _<|pe.mem_iff.mp ha)]at lD;exact of_decide_eq_false lD
  rw[ee]at re;exact q cZ l ys nd hmem hl re
end
section
variable{X:Cx}
def L1:MtR X "str.lower" (λx vs H Q=>∃c:Nat,x=.str ⟨#[c]⟩/\vs=[]/\c<128/\Q (.str ⟨#[lo1 c]⟩) H):=by
 intro aE s σ H x vs v us Q I rx rv h;obtain⟨c,rfl,rfl,hc,q⟩:=h;obtain⟨t,rfl⟩:=rx;have Co:=rv.zero;subst Co;refine SC.lower (fit_lower<|by show 1<=5592405;lia)<|l0 (.str _) H ⟨I.tok _,⟨_,rfl⟩,?_⟩
 rw[lower_ascii (λd hd=>by have e:d=c:=by simpa using hd
                           lia)]
 simpa using q
end
end L3
namespace HT
open PySem PyProof.Rows
section
variable{prog:aK}{w:aO}{A:Around}{E:aA->aB->Prop}{s:aB}
def getItem_tuple_all{t sl:aF}{items:Array aA}{vl vu:aA}{lo hi:Option Int}{Q:aA->aB->Prop}(ht:mR s.heap t items)(hs:s.heap.IsSliceOf sl vl vu .none)(pl:iO vl lo)(pu:iO vu hi)
  (hw:sIx items.size 0 lo=0/\sIx items.size items.size hi=items.size) (h:Q (.ref t) s):aG (aH prog w) A (fD (.ref t)<|.ref sl) Q E s:=by
 obtain⟨os,tN,lN,cY⟩:=id hs;have Jp:s.TypeIs (.ref sl) "slice":=⟨os,tN,lN⟩;unfold fD;try with_reducible refine gm ?_
 first|refine ab (aj ?_)|skip
 refine ab<|BK ht.typeIs (by decide) ?_;refine ab (cr (name:=bw "__getitem__") ht.typeIs gz
  (dz gz ht.typeIs zQ ?_<|Bo _ _))
 show aG _ _ (Builtin.Tuple.tupleItemsOf (.ref t) >>= _) _ _ s;refine ab<|tupleItemsOf_ ht ?_;refine ab<|dC Jp ?_;rw[if_pos (by decide)];refine ab<|vi hs pl pu ?_;have HD:(((sIx items.size 0 lo:Nat):Int)==0&&(1:Int)==1&&(sIx items.size items.size hi-sIx items.size 0 lo)==items.size)=true:=by rw[hw.1,hw.2];simp
 show aG _ _ (if (((sIx items.size 0 lo:Nat):Int)==0&&(1:Int)==1&&(sIx items.size items.size hi-sIx items.size 0 lo)==items.size)=true then _ else _) _ _ s;rw[if_pos HD];refine ab (m:=Builtin.Tuple.tupleIsExact _) ?_;unfold Builtin.Tuple.tupleIsExact;refine ab<|dC ht.typeIs<|aj ?_;rw[if_pos (by decide)];exact ab<|jl<|aj ⟨_,rfl,aj h⟩
end
end HT
namespace L3
open PySem PySem.Spec PyProof.Rows L2
section
variable{X:Cx}
def ayr(K:ax):V->Option Int->Option Int->Hp->VK->Prop:=λx lo hi H Q=>∃a xs,x=.ref a/\SqT K H a xs/\
 ((HT.sIx xs.length 0 lo=0/\HT.sIx xs.length xs.length hi=xs.length)->Q (.ref a) H)/\(¬(HT.sIx xs.length 0 lo=0/\HT.sIx xs.length xs.length hi=xs.length)->∀p,H p=none->Q (.ref p) (upd H p<|.tup<|w6 xs lo hi))
def aro:SlR X (ayr X.K):=by
 intro aE s σ H x v vl vu lo hi sl Q I rx hs pl pu h;obtain⟨a,xs,rfl,hx,q1,q2⟩:=h;by_cases hw:HT.sIx xs.length 0 lo=0/\HT.sIx xs.length xs.length hi=xs.length
 .cases rx;obtain⟨its,r,ht,hz⟩:=I.tuple hx;have aZ:its.toArray.size=xs.length:=by rw[bj];exact r.length.symm
  refine(l0 ("tuple") _ ⟨gz.lookup,ht.typeIs,?_⟩);exact HT.getItem_tuple_all ht hs pl pu (by rw[aZ];exact hw)<|l0 (.ref a) H ⟨I,rfl,q1 hw⟩
 .exact aua aE s σ H _ v vl vu lo hi sl Q I rx hs pl pu<|l0 a xs ⟨rfl,hx,hw,q2 hw⟩
end
def CMulW(i j:Int):Prop:=(-(2^128)<i/\i<2^128)/\(-(2^128)<j/\j<2^128)
def amd{k:Int}{n:Nat}(h1:-(2^n)<k)(h2:k<2^n):Builtin.Int.intBits k<=n:=by
 have hk:k.natAbs<2^n:=by
  have e:((2^n:Nat):Int)=(2:Int)^n:=by simp
  omega
 unfold Builtin.Int.intBits;split
 .exact f8 _
 .rename_i h0
  have:k≠0:=λe=>h0 (by rw[e];rfl);exact(Nat.log2_lt<|by omega).mpr hk
def CMulW.ok{i j:Int}(h:CMulW i j):IntMulOk i j:=by
 have b1:=amd h.1.1 h.1.2;have b2:=amd h.2.1 h.2.2;unfold IntMulOk;intro hh;rw[gh]at hh;have h3:=hh.2;unfold Builtin.Int.intTooBig at h3;have h4:=of_decide_eq_true h3;have h5:(256:Nat)<=bitsLine:=by decide
 omega
section
variable{X:Cx}
def arx:OpR X (cQ .Mult) (rI CMulW λi j=>.int<|i*j):=opI λ_ _ _ _ _ _ _ hc q=>mul_int q hc.ok
end
end L3
namespace L3
open PySem PyProof.Rows L2
def axv{P:Z aA->Prop}(h:P []):∀us:Z aA,us.length=0->P us:=λus e=>by cases us with|nil=>exact h|cons a t=>cases e
def DO{P:Z aA->Prop}{n:Nat}(h:∀a (t:Z aA),t.length=n->P (a::t)):∀us:Z aA,us.length=n+1->P us:=λus e=>by cases us with|nil=>cases e|cons a t=>exact h a t<|Nat.succ.inj e
def aue{P:Z aA->Prop}(h:∀a,P [a]):∀us:Z aA,us.length=1->P us:=DO (n:=0) λa=>axv (P:=λt=>P (a::t))<|h a
def at3{P:Z aA->Prop}(h:∀a b,P [a,b]):∀us:Z aA,us.length=2->P us:=DO (n:=1) λa=>aue (P:=λt=>P (a::t))<|h a
def av7{P:Z aA->Prop}(h:∀a b c,P [a,b,c]):∀us:Z aA,us.length=3->P us:=DO (n:=2) λa=>at3 (P:=λt=>P (a::t))<|h a
def aud{P:Z aA->Prop}(h:∀a b c d,P [a,b,c,d]):∀us:Z aA,us.length=4->P us:=DO (n:=3) λa=>av7 (P:=λt=>P (a::t))<|h a
def Df(K:ax)(n:Str)(st:aX):Prop:=∃f fd,dh K aP n=some (some<|.ref f)/\Fun K n n st f fd
def df_mk{K:ax}{n:Str}{st:aX}{f:aF}{oc:aA}{od an:Option aF}{sl:Array (Option aA)}{kV dc pm cd ct:aA}(a:dh K aP n=some (some<|.ref f))
  (l:K.lookup f=some ⟨oc,od,.func<|kz n n (xj st) (wf st) (lw st) .none kV dc pm an cd ct,sl⟩) (c:PySem.W.codeIn K cd n=true) (k:kn K (.ref f)=true):Df K n st:=(l0 f _ ⟨a,avi l c k⟩)
def DfX(P:aK)(w:aO)(K:ax)(mg:Str->Option aA)(base h:Heap):Prop:=P=P/\w=w/\base=base/\K.In h/\h.Ns aP mg
theorem Df.fx{P:aK}{w:aO}{K:ax}{h base:Heap}{mg:Str->Option aA}{n:Str}{st:aX}{d:Nat}{ps:Z Str}{sp:Sp}(D:Df K n st)(Y:DfX P w K mg base h)(ok:∀{f fd},Fun K n n st f fd->qr P w K mg base CX0 d f fd ps sp)
  (b:∀(kV jV pm:aA)(an:Option aF)(bQ ct:aA)(us:Z aA),us.length=ps.length->bindArgs (kz n n (xj st) (wf st) (lw st) .none kV jV pm an bQ ct) ⟨us,[]⟩=aR (ps.zip us):=by
   intro _ _ _ _ _ _;first
   | exact aue (λ_=>rfl)
   | exact at3 (λ_ _=>rfl)
   | exact av7 (λ_ _ _=>rfl)
   | exact aud λ_ _ _ _=>rfl):Fn P w K mg base n d ps sp:=by
 obtain⟨f,fd,a,F⟩:=D;exact(l0 f fd ⟨ok F,ji Y.2.2.2.1 Y.2.2.2.2 a,F.kp,F.binds b⟩)
end L3
namespace L3
open PySem PySem.Spec PyProof.Rows L2
section
variable{X:Cx}{N N':Z Str}{scope:dA}{z:CZ}{x y:Str}{p pos py qR:dQ}{e e2 o v:Expr}{es:Z Expr}{te ti:TE}{t:TA}{wi:TI}{g:TG}{tt:L2.TT}{tb:TS}{bA iter jU tg:Expr}{kB:Z Expr}{body:Z aX}
def pgC(i:Nat)(hN:N.Nodup:=by decide +kernel)(hi:N[i]?=some x:=by rfl)(hx:Loc (nv X N scope z).env.scope x:=by exact Or.inl rfl)(hf:(nv X N scope z).fn x=true\/(nv X N scope z).env.scope.names.lookup x=some .local:=by first|exact .inl rfl|exact .inr rfl):PG (nv X N scope z) (.Name x pos) (uf i):=zw (X:=nv X N scope z) hN hi hx hf
def pgN(i:Nat)(hN:X.N.Nodup)(hi:X.N[i]?=some x:=by rfl)(hx:Loc X.env.scope x:=by exact Or.inl rfl)(hf:X.fn x=true\/X.env.scope.names.lookup x=some .local:=by first|exact .inl rfl|exact .inr rfl):PG X (.Name x pos) (uf i):=zw hN hi hx hf
def psN(i:Nat)(hN:X.N.Nodup)(he:PE X e te)(hi:X.N[i]?=some x:=by rfl)(hx:Loc X.env.scope x:=by exact Or.inl rfl)(hs:iQ e (some<|.Name x py) pos.line X.env=aR false:=by rfl)(hf:X.fn x=true\/X.env.scope.names.lookup x=some .local:=by first|exact .inl rfl|exact .inr rfl):PS X (.Assign [.Name x py] e pos) (DJ te<|uf i):=yq hN hi hx he hs hf
def pcm(N':Z Str)(sl:Z (Option Nat))(hi:PI X bA iter wi)(hg:∀z,PG (nv X N' scope z) bA g)(ht:∀z,PTs (nv X N' scope z) kB tt)(he:∀z,PE (nv X N' scope z) jU te)(hc:X.calm=true:=by rfl)(dZ:scope.kind=.function:=by rfl)
  (fT:∀x∈scope.names,x.2=.local->scope.names.lookup x.1=some .local:=by decide +kernel) (oI:∀y∈scope.names,y.2≠.cell:=by decide +kernel) (mJ:frOk scope X.env.scope=true:=by rfl) (mU:slOk X.N N' sl scope X.env.scope=true:=by rfl)
  (hs:∀x,cB iter X.env x=aR x:=by intro _;rfl):PE X (.ListComp jU [⟨bA,iter,kB,0⟩] scope pos) (xS wi sl g tt te):=are N' sl hc dZ fT oI mJ mU hi hg ht he hs
def psC(i:Nat)(N':Z Str)(sl:Z (Option Nat))(hN:X.N.Nodup)(hi:PI X bA iter wi)(hg:∀z,PG (nv X N' scope z) bA g)(ht:∀z,PTs (nv X N' scope z) kB tt)(he:∀z,PE (nv X N' scope z) jU te)(HC:X.N[i]?=some y:=by rfl)(hx:Loc X.env.scope y:=by exact Or.inl rfl)
  (HM:iQ (.ListComp jU [⟨bA,iter,kB,0⟩] scope pos) (some<|.Name y py) qR.line X.env=aR true:=by rfl) (hc:X.calm=true:=by rfl) (dZ:scope.kind=.function:=by rfl)
  (fT:∀x∈scope.names,x.2=.local->scope.names.lookup x.1=some .local:=by decide +kernel) (oI:∀y∈scope.names,y.2≠.cell:=by decide +kernel) (mJ:frOk scope X.env.scope=true:=by rfl) (mU:slOk X.N N' sl scope X.env.scope=true:=by rfl)
  (hs:∀x,cB iter X.env x=aR x:=by intro _;rfl) (hf:X.fn y=true\/X.env.scope.names.lookup y=some .local:=by first|exact .inl rfl|exact .inr rfl):PS X (.Assign [.Name y py] (.ListComp jU [⟨bA,iter,kB,0⟩] scope pos) qR) (DJ (xS wi sl g tt te)<|uf i):=
 arb N' sl hN HC hx HM hc dZ fT oI mJ mU hi hg ht he hs hf
def pfo(hi:PI X tg iter wi)(hg:PG X tg g)(hb:PSs X body tb)(hp:GL (aH X.prog X.w) X.A X.env X.xe:=by exact GL.never)(hc:X.calm=true:=by rfl)(hs:∀x,cB iter X.env x=aR x:=by intro _;rfl):PS X (.For tg iter body [] pos) (ay3 wi g tb):=aur hp hc hi hg hb hs
def pfn{k j:Nat}{ps:Z Str}{sp:Sp}(F:Fn X.prog X.w X.K X.mg X.base x k ps sp)(ha:PA X (e::es) t)(hr:Room j X.A:=by assumption)(hk:k<=j:=by decide)(hg:Gl X x:=by rfl)(mK:(x==("__debug__" : Str))=false:=by decide)(h1:nw e=true:=by rfl)(h2:es.all nw=true:=by rfl) :
  PE X (.Call (.Name x p) (e::es) [] pos) (KU sp [] E0 t):=ayc F hr hk hg ha mK h1 h2
def pix{r:R2}(hr:IxR X r)(ha:PE X e te)(hb:PE X e2 ti)(hs:alm e2:=by exact λ_ _=>rfl):PE X (.Subscript e e2 pos) (tOp r te ti):=axj hr ha hb hs
end
noncomputable def Jel(K:ax)(a:aF):It:=
 ⟨λi H=>∃xs x,SqL K H a xs/\xs[i]?=some x,λi H v H'=>∃p x,H p=none/\v=.ref p/\H'=upd H p (.tup [.int i,x])/\∀xs,SqL K H a xs->xs[i]?=some x,λi H=>∃xs,SqL K H a xs/\xs.length<=i⟩
def ai3{P:aK}{w:aO}{K:ax}{eI:Z Expr}{x1}{pos:dQ}(a e I:aF)(fI:e≠I) :
  tY P w K (.Tuple eI x1 pos) (Jel K a) [e,I] e (λi h=>(∃old,eE h e I i old)/\h.IsListIter I a i):=by
 refine Mk (Jel K a) e I fI (λi h=>h.IsListIter I a i) (λi h st=>?_) (λi h h' st k=>?_) (λX hP hw hK i aE s σ H Iv st hg=>?_) λX hP hw hK i aE s σ H Iv st hg A' R E' hh q=>?_
 .obtain⟨o,ho,c,d⟩:=st;exact⟨o,ho,λv z=>by rw[d]at z;cases z⟩
 .obtain⟨o,ho,r⟩:=st;exact⟨o,k o ho,r⟩
 .subst hP hw hK;obtain⟨xs,x,hq,hx⟩:=hg;obtain⟨its,rv,p,hz⟩:=Iv.list hq;obtain⟨u,hu,ru⟩:=rv.get hx;refine⟨λu'=>u'=u,λu' E2=>?_,λA' R E' q=>?_⟩
  .subst E2;exact⟨x,ru,s.heap.objs.size,x,Iv.hok.fresh<|ao _,rfl,rfl,λys hy=>by rw[Iv.list_inj hy hq];exact hx⟩
  .exact wpAny_nextOf_list_item st p.isList (x:=u) (by simpa using hu) λg aQ sb=>q u g s.toks rfl aQ sb
 .subst hP hw hK;obtain⟨xs,hq,hx⟩:=hg;obtain⟨its,rv,p,hz⟩:=Iv.list hq;have hl:=rv.length;exact wpAny_nextOf_list_end hh st p.isList (by simp;lia) q
section
variable{X:Cx}{eI:Z Expr}{x1:Nat}{jG p pos:dQ}{a:Expr}{ta:TA}
def ay1(K:ax)(ta:TA):TI:=λσ H R=>ta σ H λvs H1=>∃a,vs=[.ref a]/\(∃xs,SqL K H1 a xs)/\R (Jel K a) H1
def au2(hg:Gl X "enumerate")(hm:X.mg "enumerate" = none)(ha:PA X [a] ta)(hs:nw a=true:=by rfl):PI X (.Tuple eI x1 jG) (.Call (.Name "enumerate" p) [a] [] pos) (ay1 X.K ta):=by
 intro aE s σ H R I h;refine Call_<|uz I hg hm oS<|ft (thn (ha pos aE s σ H _ I h) λus s1 ⟨vs,H1,I1,r1,q1⟩=>?_) (ou hs) rfl;obtain⟨b,e,⟨xs,hq⟩,q⟩:=q1;subst e;obtain⟨u,rfl,ru⟩:=va r1;cases (show u=aA.ref b from ru);obtain⟨its,rv,pl,hz⟩:=I1.list hq;refine call_enumerate_list (l:=b) pl.isList λg he hi _ kp=>eV (s:={s1 with heap:=g}) he ?_;refine⟨s1.heap.objs.size+1,[s1.heap.objs.size+1,s1.heap.objs.size],_,_,H1,rfl,I1.kept (t':=s1.toks) kp,ai3 b (s1.heap.objs.size+1) s1.heap.objs.size<|Nat.succ_ne_self _,⟨⟨_,he⟩,hi⟩,λc hc=>?_,q⟩;rcases a7.mp hc with z|z
 .subst z;exact I1.fpOk (by lia)<|I1.hok.fresh<|by lia
 .rw[ar.mp z];exact I1.fpOk (ao _)<|I1.hok.fresh<|ao _
end
def zq{K:ax}{a:aF}{xs:Z V}{g:TG}{tb:TS}{D:lS}{σ:L2.St}{H:Hp}(Pv:Nat->L2.St->Hp->Prop)(h0:Pv 0 σ H)(hl:∀i σ H,Pv i σ H->SqL K H a xs)
  (hs:∀i x p σ H,xs[i]?=some x->H p=none->Pv i σ H->g (.ref p) σ (upd H p<|.tup [.int (i:Nat),x]) λσ2 H2=>tb {D with nx:=Pv<|i+1,ct:=Pv<|i+1,bk:=D.nx} σ2 H2) (hd:∀σ H,Pv xs.length σ H->D.nx σ H) :
  ∃W:Nat->Nat->L2.St->Hp->Prop,(∃m,W 0 m σ H)/\∀i m σ H,W i m σ H->
   ((Jel K a).stop i H/\D.nx σ H)\/((Jel K a).go i H/\∃N:L2.St->Hp->Prop,(∀σ' H',N σ' H'->∃m',m'<m/\W (i+1) m' σ' H')/\∀v H',(Jel K a).yld i H v H'->g v σ H' λσ2 H2=>tb {D with nx:=N,ct:=N,bk:=D.nx} σ2 H2):=by
 refine LD (Jel K a) xs.length Pv h0 (λi σ H hi p=>⟨xs,xs[i],hl i σ H p,by simp[hi]⟩) (λσ H p=>⟨xs,hl _ σ H p,ao _⟩) (λi v σ H H' hi p y=>?_) hd;obtain⟨b,x,hb,rfl,rfl,hx⟩:=y;exact hs i x b σ H (hx xs<|hl i σ H p) hb p
noncomputable def cl(d:U):Int×Int:=(sy d,uh d)
def SgD(d:U):Prop:=∃(r c:Int)(k:Nat),d=.tuple [.int r,.int c,.str ⟨#[k]⟩]/\65<=k/\k<=90
structure Pre(ds:Z U):Prop where
 sg:∀d∈ds,SgD d
 pos:0<ds.length
 six:ds.length<=6
 nd:(ds.map cl).Nodup
structure Zr(ds:Z U):Prop where
 pre:Pre ds
 r0:tj (ds.map sy)=0
 c0:tj (ds.map uh)=0
def Pre.spots{ds:Z U}(h:Pre ds):Spots ds:=λd hd=>by obtain⟨r,c,k,e,_⟩:=h.sg d hd;exact(m9 r c _ e)
theorem Pre.map{ds:Z U}(h:Pre ds){f:U->U}{g:Int×Int->Int×Int}(hf:∀d,SgD d->SgD (f d)/\cl (f d)=g (cl d))(hi:∀a b,g a=g b->a=b):Pre (ds.map f):=by
 have e:(ds.map f).map cl=(ds.map cl).map g:=by rw[b7,b7];exact gx λd hd=>(hf d<|h.sg d hd).2
 refine⟨λd hd=>?_,by rw[ae];exact h.pos,by rw[ae];exact h.six,?_⟩
 .obtain⟨x,hx,rfl⟩:=ay.mp hd;exact(hf x<|h.sg x hx).1
 .rw[e];exact List.Pairwise.map g (λa b lD z=>lD<|hi a b z) h.nd
def Pre.perm{ds es:Z U}(h:Pre ds)(p:es.Perm ds):Pre es:=
 ⟨λd hd=>h.sg d<|p.mem_iff.mp hd,by rw[p.length_eq];exact h.pos,by rw[p.length_eq];exact h.six,(p.map cl).nodup_iff.mpr h.nd⟩
def ahr{ns ms:Z Int}(p:ns.Perm ms)(h:0<ns.length):tj ns=tj ms:=
 xk (p.mem_iff.mp<|vd h) λa ha=>xm a<|p.mem_iff.mpr ha
theorem Zr.perm{ds es:Z U}(h:Zr ds)(p:es.Perm ds):Zr es:=by have hp:=h.pre.perm p;exact⟨hp,(ahr (p.map sy)<|by rw[ae];exact hp.pos).trans h.r0,(ahr (p.map uh)<|by rw[ae];exact hp.pos).trans h.c0⟩
def Lx{d:U}(m:Int)(h:SgD d):SgD (Bi m d)/\cl (Bi m d)=((cl d).1,m-(cl d).2):=by obtain⟨r,c,k,rfl,h1,h2⟩:=h;exact⟨(m9 r (m-c) k ⟨rfl,h1,h2⟩),rfl⟩
def LL{d:U}(m:Int)(h:SgD d):SgD (Bh m d)/\cl (Bh m d)=((cl d).2,m-(cl d).1):=by obtain⟨r,c,k,rfl,h1,h2⟩:=h;exact⟨(m9 c (m-r) k ⟨rfl,h1,h2⟩),rfl⟩
def zc{d:U}(a b:Int)(h:SgD d):SgD (z0 a b d)/\cl (z0 a b d)=((cl d).1-a,(cl d).2-b):=by obtain⟨r,c,k,rfl,h1,h2⟩:=h;exact⟨(m9 (r-a) (c-b) k ⟨rfl,h1,h2⟩),rfl⟩
def Lh(d:U):sy d=(cl d).1:=rfl
def Lr(d:U):uh d=(cl d).2:=rfl
def aib{ns:Z Int}(h:0<ns.length):tj (ns.map λx=>xy ns-x)=0:=by
 refine(xk ?_ λa ha=>?_).symm
 .exact ay.mpr ⟨xy ns,xx h,by lia⟩
 .obtain⟨x,hx,rfl⟩:=ay.mp ha;have:=Eo x hx;lia
def al9{ns:Z Int}(h:0<ns.length):tj (ns.map λx=>x-tj ns)=0:=by
 refine(xk ?_ λa ha=>?_).symm
 .exact ay.mpr ⟨tj ns,vd h,by lia⟩
 .obtain⟨x,hx,rfl⟩:=ay.mp ha;have:=xm x hx;lia
def Zr.mir{ds:Z U}(h:Zr ds):Zr (lR ds):=by
 have hp:Pre (lR ds):=h.pre.map (g:=λa=>(a.1,xy (ds.map uh)-a.2)) (λd hd=>Lx _ hd) (λa b e=>by
  injection e with e1 e2
  exact Prod.ext e1<|by lia)
 refine⟨hp,?_,?_⟩
 .rw[show(lR ds).map sy=ds.map sy by
   unfold lR;rw[b7];exact gx λd hd=>by rw[Function.comp,Lh,(Lx _<|h.pre.sg d hd).2];rfl]
  exact h.r0
 .rw[show(lR ds).map uh=(ds.map uh).map λx=>xy (ds.map uh)-x by
   unfold lR;rw[b7,b7];exact gx λd hd=>by rw[Function.comp,Lr,(Lx _<|h.pre.sg d hd).2];rfl]
  exact aib<|by rw[ae];exact h.pre.pos
def Zr.tur{ds:Z U}(h:Zr ds):Zr (mO ds):=by
 have hp:Pre (mO ds):=h.pre.map (g:=λa=>(a.2,xy (ds.map sy)-a.1)) (λd hd=>LL _ hd) (λa b e=>by
  injection e with e1 e2
  exact Prod.ext (by lia) e1)
 refine⟨hp,?_,?_⟩
 .rw[show(mO ds).map sy=ds.map uh by
   unfold mO;rw[b7];exact gx λd hd=>by rw[Function.comp,Lh,(LL _<|h.pre.sg d hd).2];rfl]
  exact h.c0
 .rw[show(mO ds).map uh=(ds.map sy).map λx=>xy (ds.map sy)-x by
   unfold mO;rw[b7,b7];exact gx λd hd=>by rw[Function.comp,Lr,(LL _<|h.pre.sg d hd).2];rfl]
  exact aib<|by rw[ae];exact h.pre.pos
def Zr.shift{ds:Z U}(h:Pre ds):Zr (oa ds):=by
 have hp:Pre (oa ds):=h.map (g:=λa=>(a.1-tj (ds.map sy),a.2-tj (ds.map uh))) (λd hd=>zc _ _ hd) (λa b e=>by
  injection e with e1 e2
  exact Prod.ext (by lia)<|by lia)
 refine⟨hp,?_,?_⟩
 .rw[show(oa ds).map sy=(ds.map sy).map λx=>x-tj (ds.map sy) by
   unfold oa;rw[b7,b7];exact gx λd hd=>by rw[Function.comp,Lh,(zc _ _<|h.sg d hd).2];rfl]
  exact al9<|by rw[ae];exact h.pos
 .rw[show(oa ds).map uh=(ds.map uh).map λx=>x-tj (ds.map uh) by
   unfold oa;rw[b7,b7];exact gx λd hd=>by rw[Function.comp,Lr,(zc _ _<|h.sg d hd).2];rfl]
  exact al9<|by rw[ae];exact h.pos
noncomputable def zW(i:Nat)(ds:Z U):Z U:=(e8 i).foldl (λa _=>mO a) ds
def acf(i:Nat)(ds:Z U):zW (i+1) ds=mO (zW i ds):=by unfold zW;rw[j6,List.foldl_append];rfl
theorem Zr.iter{ds:Z U}(h:Zr ds):∀i,Zr (zW i ds)
 | 0=>h
 | i+1=>by rw[acf];exact(h.iter i).tur
def Zr.turned{ds:Z U}(h:Zr ds)(t:Nat):Zr (xu t ds):=by
 show Zr (zW (t % 4) (if 4<=t then lR ds else ds));refine Zr.iter ?_ _;split
 .exact h.mir
 .exact h
noncomputable def we(es:Z U)(t:Nat):U:=.tuple<|rq<|xu t es
noncomputable def r6(es:Z U)(n:Nat):Z U:=(e8 n).map (we es)
def mem_forms{es:Z U}{n:Nat}{d:U}:d∈r6 es n↔∃t,t<n/\we es t=d:=by simp[r6]
def axa{d:U}(h:SgD d):kd d=true:=by obtain⟨r,c,k,rfl,_⟩:=h;rfl
theorem Ai:∀{ds:Z U},(∀d∈ds,SgD d)->wv ds=true
 | [],_=>rfl
 | d::ds,h=>by show(kd d&&wv ds)=true;rw[axa (h d aq),Ai λe he=>h e<|av _ he];rfl
def au6{d e:U}(h:SgD d)(h':SgD e):Cmp d e:=by obtain⟨r,c,k,rfl,_⟩:=h;obtain⟨r',c',k',rfl,_⟩:=h';exact⟨True.intro,True.intro,True.intro,True.intro⟩
theorem LO:∀{ds es:Z U},(∀d∈ds,SgD d)->(∀d∈es,SgD d)->mX ds es
 | [],_,_,_=>by unfold mX;exact True.intro
 | d::ds,[],_,_=>by unfold mX;exact True.intro
 | d::ds,e::es,h,h'=>⟨au6 (h d aq)<|h' e aq,LO (λx hx=>h x<|av _ hx) λx hx=>h' x<|av _ hx⟩
theorem ua{ds:Z U}(h:Spots ds):bu ds<=2:=by
 induction ds with
 | nil=>simp[bu]
 | cons d t ih=>
  obtain⟨r,c,x,rfl⟩:=h d (by simp);have:=ih λe he=>h e (by simp[he]);simp[bu,f7];lia
def vf{es:Z U}(h:Zr es)(t:Nat):Zr (rq<|xu t es):=(h.turned t).perm (o0 _)
def ai1{es:Z U}(h:Zr es)(t:Nat):(we es t).depth<=3:=by have:=ua (vf h t).pre.spots;unfold we;simp[f7];lia
theorem ahu{es:Z U}(h:Zr es)(t:Nat):Bn (we es t)/\TT (we es t):=by
 have hd:=ai1 h t;refine⟨⟨Ai (vf h t).pre.sg,⟨_,rfl⟩,by lia⟩,?_⟩;have hp:=(vf h t).pre.pos;have hs:=(vf h t).pre.sg;unfold we;cases e:rq (xu t es)with
 | nil=>rw[e]at hp;exact absurd hp (by simp)
 | cons d ds=>
  rw[e]at hs;obtain⟨r,c,k,rfl,_⟩:=hs d aq;exact(l0 _ _ rfl)
def ae8{es ds:Z U}(h:Zr es)(hm:∀d∈ds,∃t,we es t=d):∀d∈ds,Bn d/\TT d:=λd hd=>by obtain⟨t,rfl⟩:=hm d hd;exact ahu h t
def Mj{es ds:Z U}(h:Zr es)(hm:∀d∈ds,∃t,we es t=d):CmpA ds:=
 ⟨λx hx y hy=>by
  obtain⟨t,rfl⟩:=hm x hx;obtain⟨t',rfl⟩:=hm y hy;exact LO (vf h t).pre.sg (vf h t').pre.sg,λx hx=>by
  obtain⟨t,rfl⟩:=hm x hx;exact(ahu h t).1.1⟩
def ao7{es:Z U}(h:Zr es)(t:Nat):imm (we es t)=true:=Spots.imm (vf h t).pre.spots
theorem Mg{es:Z U}(h:Zr es):∀{ds:Z U},(∀d∈ds,∃t,we es t=d)->qe ds=true
 | [],_=>rfl
 | d::ds,hm=>by obtain⟨t,rfl⟩:=hm d aq;show(imm (we es t)&&qe ds)=true;rw[ao7 h t,Mg h λe he=>hm e<|av _ he];rfl
def ab6(es:Z U)(n:Nat):r6 es (n+1)=r6 es n++[we es n]:=by unfold r6;rw[j6,b9];rfl
def pf{es:Z U}{n:Nat}:∀d∈r6 es n,∃t,we es t=d:=λd hd=>by obtain⟨t,_,e⟩:=mem_forms.mp hd;exact⟨t,e⟩
def Pre.strict{ds es:Z U}(h:Pre ds)(p:es.Perm ds)(u:es.Pairwise λx y=>ltR y x=false):es.Pairwise lt2:=by
 have hp:=h.perm p;have nd:es.Pairwise λx y=>cl x≠cl y:=gi.mp hp.nd;refine gu (λ{a b} ha hb lD=>?_)<|u.and nd;obtain⟨r,c,k,rfl,_⟩:=hp.sg a ha;obtain⟨r',c',k',rfl,_⟩:=hp.sg b hb;obtain⟨h1,h2⟩:=lD;have fN:qp [.int r',.int c',.str ⟨#[k']⟩] [.int r,.int c,.str ⟨#[k]⟩]=false:=h1;rw[xw,xw]at fN;show r<r'\/r=r'/\c<c';by_cases er:r'=r
 .rw[if_pos er]at fN;right;refine⟨er.symm,?_⟩;by_cases ec:c'=c
  .exfalso;subst er;subst ec;exact h2 rfl
  .rw[if_neg ec]at fN;have:=of_decide_eq_false fN;lia
 .rw[if_neg er]at fN;have:=of_decide_eq_false fN;left;lia
def wq{ds:Z U}(h:Spots ds):(rq ds).Pairwise λx y=>ltR y x=false:=by rw[fq];intro i j hi hj cN;exact ah9 (wo h) (ah hi) (ah hj)<|fh cN
def Pre.sorted{ds es:Z U}(h:Pre ds)(p:es.Perm ds)(u:es.Pairwise λx y=>ltR y x=false):es=rq ds:=
 ab0 ars (h.strict p u) (h.strict (o0 ds)<|wq h.spots) λz=>by rw[p.mem_iff,(o0 ds).mem_iff]
noncomputable def ng1:U->U
 | .tuple [.int r,.int c,.str x]=>.tuple [.int r,.int<|-c,.str x]
 | d=>d
noncomputable def nt1:U->U
 | .tuple [.int r,.int c,.str x]=>.tuple [.int c,.int<|-r,.str x]
 | d=>d
noncomputable def vN(i:Nat)(ds:Z U):Z U:=(e8 i).foldl (λa _=>a.map nt1) ds
noncomputable def JW(t:Nat)(ds:Z U):Z U:=vN (t % 4) (if 4<=t then ds.map ng1 else ds)
def yf(i:Nat)(ds:Z U):vN (i+1) ds=(vN i ds).map nt1:=by unfold vN;rw[j6,List.foldl_append];rfl
def ah8{ds:Z U}(h:Spots ds):Spots (ds.map ng1):=λd hd=>by obtain⟨x,hx,rfl⟩:=ay.mp hd;obtain⟨r,c,z,rfl⟩:=h x hx;exact(m9 _ _ _ rfl)
def ao0{ds:Z U}(h:Spots ds):Spots (ds.map nt1):=λd hd=>by obtain⟨x,hx,rfl⟩:=ay.mp hd;obtain⟨r,c,z,rfl⟩:=h x hx;exact(m9 _ _ _ rfl)
theorem wp{ds:Z U}(h:Spots ds):∀i,Spots (vN i ds)
 | 0=>h
 | i+1=>by rw[yf];exact ao0<|wp h i
theorem yi(ds:Z U):∀i,(vN i ds).length=ds.length
 | 0=>rfl
 | i+1=>by rw[yf,ae];exact yi ds i
def alf{ns:Z Int}(h:0<ns.length)(m:Int):xy (ns.map λx=>x-m)=xy ns-m:=by
 refine(LA ?_ λa ha=>?_).symm
 .exact ay.mpr ⟨xy ns,xx h,rfl⟩
 .obtain⟨x,hx,rfl⟩:=ay.mp ha;have:=Eo x hx;lia
def aka{ns:Z Int}(h:0<ns.length):tj (ns.map λx=>-x) = -xy ns:=by
 refine(xk ?_ λa ha=>?_).symm
 .exact ay.mpr ⟨xy ns,xx h,rfl⟩
 .obtain⟨x,hx,rfl⟩:=ay.mp ha;have:=Eo x hx;lia
def o6{α:Type}{ds:Z U}(h:Spots ds){f g:U->α}(e:∀(r c:Int)(z:Str),f (.tuple [.int r,.int c,.str z])=g (.tuple [.int r,.int c,.str z])):ds.map f=ds.map g:=
 gx λd hd=>by obtain⟨r,c,z,rfl⟩:=h d hd;exact e r c z
def akb{X:Z U}(h:Spots X)(hp:0<X.length):mO (oa X)=oa (X.map nt1):=by
 have r1:(oa X).map sy=(X.map sy).map λx=>x-tj (X.map sy):=by unfold oa;rw[b7,b7];exact o6 h λr c z=>rfl
 have r2:(X.map nt1).map sy=X.map uh:=by rw[b7];exact o6 h λr c z=>rfl
 have c2:(X.map nt1).map uh=(X.map sy).map λx=>-x:=by rw[b7,b7];exact o6 h λr c z=>rfl
 have nJ:0<(X.map sy).length:=by rw[ae];exact hp
 unfold mO;rw[r1,alf nJ];unfold oa;rw[r2,c2,aka nJ,b7,b7];refine o6 h λr c z=>?_;show PyData.tuple [.int (c-tj (X.map uh)),.int<|xy (X.map sy)-tj (X.map sy)-(r-tj (X.map sy)),.str z]=.tuple [.int (c-tj (X.map uh)),.int<|-r - -xy (X.map sy),.str z];rw[show xy (X.map sy)-tj (X.map sy)-(r-tj (X.map sy)) = -r - -xy (X.map sy) by lia]
def aj8{X:Z U}(h:Spots X)(hp:0<X.length):lR (oa X)=oa (X.map ng1):=by
 have r1:(oa X).map uh=(X.map uh).map λx=>x-tj (X.map uh):=by unfold oa;rw[b7,b7];exact o6 h λr c z=>rfl
 have r2:(X.map ng1).map sy=X.map sy:=by rw[b7];exact o6 h λr c z=>rfl
 have c2:(X.map ng1).map uh=(X.map uh).map λx=>-x:=by rw[b7,b7];exact o6 h λr c z=>rfl
 have nJ:0<(X.map uh).length:=by rw[ae];exact hp
 unfold lR;rw[r1,alf nJ];unfold oa;rw[r2,c2,aka nJ,b7,b7];refine o6 h λr c z=>?_;show PyData.tuple [.int (r-tj (X.map sy)),.int<|xy (X.map uh)-tj (X.map uh)-(c-tj (X.map uh)),.str z]=.tuple [.int (r-tj (X.map sy)),.int<|-c - -xy (X.map uh),.str z];rw[show xy (X.map uh)-tj (X.map uh)-(c-tj (X.map uh)) = -c - -xy (X.map uh) by lia]
def Zr.same{ds:Z U}(h:Zr ds):oa ds=ds:=by
 unfold oa;rw[h.r0,h.c0];have e:ds.map (z0 0 0)=ds.map id:=o6 h.pre.spots λr c z=>by show PyData.tuple [.int (r-0),.int<|c-0,.str z]=_;rw[Int.sub_zero,Int.sub_zero];rfl
 rw[e,List.map_id]
theorem zj{X:Z U}(h:Spots X)(hp:0<X.length):∀i,zW i (oa X)=oa (vN i X)
 | 0=>rfl
 | i+1=>by rw[acf,zj h hp i,yf,akb (wp h i)<|by rw[yi];exact hp]
def Zr.raw{ds:Z U}(h:Zr ds)(t:Nat):oa (JW t ds)=xu t ds:=by
 show _=zW (t % 4) (if 4<=t then lR ds else ds);unfold JW;by_cases h4:4<=t
 .rw[if_pos h4,if_pos h4,<-zj (ah8 h.pre.spots) (by rw[ae];exact h.pre.pos),<-aj8 h.pre.spots h.pre.pos,h.same]
 .rw[if_neg h4,if_neg h4,<-zj h.pre.spots h.pre.pos,h.same]
def Kw(K:ax)(tl:TE):TI:=λσ H R=>tl σ H λx H1=>∃a,x=.ref a/\(((∃xs,SqL K H1 a xs)/\R (Itl K a) H1)\/((∃xs,SqT K H1 a xs)/\R (Itt K a) H1))
section
variable{X:Cx}{tg:Expr}
def Bu{l:Expr}{tl:TE}(hl:PE X l tl):PI X tg l (Kw X.K tl):=by
 intro aE s σ H R I h;refine thn (hl aE s σ H _ I h) λv s1 ⟨x,H1,I1,r1,q1⟩=>?_;obtain⟨a,e,⟨⟨xs,hq⟩,q⟩|⟨⟨xs,hq⟩,q⟩⟩:=q1
 .subst e;cases r1;obtain⟨its,rv,p,hz⟩:=I1.list hq;refine eU p.isList ?_;refine(lv s1.heap.objs.size ([s1.heap.objs.size]) _ _ H1 ⟨rfl,I1.kept (t':=s1.toks) λb o e=>ak _ e,ae1 a _,⟨_,bh _ rfl,rfl,rfl⟩,λb hb=>?_,q⟩);have e:b=s1.heap.objs.size:=by simpa using hb
  subst e;exact I1.fpOk (ao _)<|I1.hok.fresh<|ao _
 .subst e;cases r1;obtain⟨its,rv,p,hz⟩:=I1.tuple hq;refine cT (show s1.heap.IsTuple a its.toArray from p) ?_;refine(lv s1.heap.objs.size ([s1.heap.objs.size]) _ _ H1 ⟨rfl,I1.kept (t':=s1.toks) λb o e=>ak _ e,acq a _,⟨_,bh _ rfl,rfl,rfl⟩,λb hb=>?_,q⟩);have e:b=s1.heap.objs.size:=by simpa using hb
  subst e;exact I1.fpOk (ao _)<|I1.hok.fresh<|ao _
end
section
variable{K:ax}{a:aF}{xs:Z V}{ds:Z U}{σ:L2.St}{H:Hp}{Q:VK}{sl:Z (Option Nat)}{g:TG}{tt:L2.TT}{te:TE}
def aip(ha:H a=some (.lst xs)\/H a=some (.tup xs))(Pv:aF->Nat->Z V->Hp->Prop)(h0:∀D,H D=none->Pv D 0 [] (upd H D<|.lst []))(hk:∀D i ys G,Pv D i ys G->Same H G)
  (hs:∀D i x ys G,H D=none->xs[i]?=some x->i<xs.length->G D=some (.lst ys)->ys.length<=i->Pv D i ys G->g x (su sl σ) G λσ2 H2=>Agree (su sl σ) σ2/\tt σ2 H2 λb H3=>
   if b=true then te σ2 H3 λy H4=>∃xs,H4 D=some (.lst xs)/\xs.length<aC/\Nx D i (Pv D) (upd H4 D<|.lst<|xs++[y])else Nx D i (Pv D) H3)
  (hd:∀D ys G,H D=none->G D=some (.lst ys)->ys.length<=xs.length->Pv D xs.length ys G->Q (.ref D) G) :
  ((∃xs,SqL K H a xs)/\∀D,H D=none->vU (Itl K a) sl g tt te σ H D Q)\/((∃xs,SqT K H a xs)/\∀D,H D=none->vU (Itt K a) sl g tt te σ H D Q):=by
 rcases ha with ha|ha
 .exact .inl ⟨⟨_,SqL.of ha⟩,λD hD=>o8 (xs:=xs) (Pv D) (h0 D hD) (λi ys G p=>SqL.of<|hk D i ys G p _ _ ha) (λi x ys G=>hs D i x ys G hD) λys G=>hd D ys G hD⟩
 .exact .inr ⟨⟨_,SqT.of ha⟩,λD hD=>ze (xs:=xs) (Pv D) (h0 D hD) (λi ys G p=>SqT.of<|hk D i ys G p _ _ ha) (λi x ys G=>hs D i x ys G hD) λys G=>hd D ys G hD⟩
def acp{i0:Nat}{aY:L2.St}(pr:U->Int)(hσ:σ[i0]?=some (some<|.ref a))(hp:su sl σ=none::none::none::aY)(ha:H a=some (.lst xs)\/H a=some (.tup xs))(hr:RepAll H ds xs)(hs:Spots ds)(hl:ds.length<=64)
  (mG:∀(r c:Int)(z:Str)(H':Hp)(Q':VK),Q' (.int<|pr<|.tuple [.int r,.int c,.str z]) H'->te (some (.int r)::some (.int c)::some (.str z)::aY) H' Q')
  (q:∀D H',Same H H'->H' D=some (.lst<|(ds.map pr).map V.int)->Q (.ref D) H') :
  xS (Kw K<|mN i0) sl (DH K 3<|uA (uf 0)<|uA (uf 1)<|uA (uf 2) FM) jN te σ H Q:=by
 have aZ:=hr.length;refine(ny _ hσ a ⟨rfl,aip ha (λD i ys H'=>Same H H'/\ys=((ds.take i).map pr).map V.int) (λD hD=>⟨Same.fresh _ hD,rfl⟩) (λD i ys H' p=>p.1) (λD i x ys H' hD hx hi bD gO p=>?_) λD ys H' hD bD gO p=>?_⟩)
 .obtain⟨p1,rfl⟩:=p;obtain⟨b,r,c,z,rfl,hb,hz,hd⟩:=hs.at hr hx;rw[hp];refine(l7 b _ rfl (SqT.of<|p1 _ _ hb) rfl _ _ rfl _<|nj _ rfl _ _ ⟨rfl,rfl,?_⟩);refine⟨Agree.set (Agree.set (Agree.set (Agree.refl _) rfl) rfl) rfl,?_⟩;dsimp only[jN];refine ux ?_;refine mG r c z H' _<|qm (by lia) bD gO ⟨p1.new hD,?_⟩;rw[mq pr hd,b9];rfl
 .obtain⟨p1,rfl⟩:=p;refine q D H' p1 ?_;rw[bD,aw<|by lia]
def wu{i0:Nat}{aY:L2.St}(f:U->U)(hσ:σ[i0]?=some (some<|.ref a))(hp:su sl σ=none::none::none::aY)(ha:H a=some (.lst xs)\/H a=some (.tup xs))(hr:RepAll H ds xs)(hs:Spots ds)(hl:ds.length<=64)
  (mG:∀(r c:Int)(z:Str)(H':Hp)(Q':VK),(∃u v:Int,f (.tuple [.int r,.int c,.str z])=.tuple [.int u,.int v,.str z]/\∀n,H' n=none->Q' (.ref n) (upd H' n<|.tup [.int u,.int v,.str z]))->
   te (some (.int r)::some (.int c)::some (.str z)::aY) H' Q')
  (gZ:∀(r c:Int)(z:Str),∃u v:Int,f (.tuple [.int r,.int c,.str z])=.tuple [.int u,.int v,.str z])
  (q:∀D ys H',H D=none->Same H H'->H' D=some (.lst ys)->RepAll H' (ds.map f) ys->Q (.ref D) H') :
  xS (Kw K<|mN i0) sl (DH K 3<|uA (uf 0)<|uA (uf 1)<|uA (uf 2) FM) jN te σ H Q:=by
 have aZ:=hr.length;have im:∀es:Z U,(∀d∈es,d∈ds)->Spots (es.map f):=λes he d hd=>by obtain⟨d0,h0,rfl⟩:=ay.mp hd;obtain⟨r0,c0,x0,rfl⟩:=hs d0<|he d0 h0;obtain⟨u,v,e⟩:=gZ r0 c0 x0;exact(m9 u v x0 e)
 refine(ny _ hσ a ⟨rfl,aip ha (λD i ys H'=>Same H H'/\RepAll H' ((ds.take i).map f) ys) (λD hD=>⟨Same.fresh _ hD,rfl⟩) (λD i ys H' p=>p.1) (λD i x ys H' hD hx hi bD gO p=>?_) λD ys H' hD bD gO p=>?_⟩)
 .obtain⟨p1,p2⟩:=p;obtain⟨b,r,c,z,rfl,hb,hz,hd⟩:=hs.at hr hx;rw[hp];refine(l7 b _ rfl (SqT.of<|p1 _ _ hb) rfl _ _ rfl _<|nj _ rfl _ _ ⟨rfl,rfl,?_⟩);refine⟨Agree.set (Agree.set (Agree.set (Agree.refl _) rfl) rfl) rfl,?_⟩;dsimp only[jN];refine ux ?_;obtain⟨u,v,ef⟩:=gZ r c z;refine mG r c z H' _<|l0 u v ⟨ef,λn hn=>?_⟩;have s2:Same H' (upd H' n<|.tup [.int u,.int v,.str z]):=Same.fresh _ hn;have n2:upd H' n (.tup [.int u,.int v,.str z]) n=some (.tup [.int u,.int v,.str z]):=lr;generalize upd H' n (.tup [.int u,.int v,.str z])=H2 at *;have eG:=s2 _ _ bD;refine qm (by lia) eG gO ⟨(p1.trans s2).new hD,?_⟩;have rep:RepAll H2 ((ds.take i).map f++[f (.tuple [.int r,.int c,.str z])]) (ys++[.ref n]):=by
   rw[ef];exact(p2.same s2).snoc (x5 n2 hz)
  rw[<-mq f hd]at rep;exact rep.tk (Tk.lst eG)<|Spots.imm<|im _ λd vB=>ca vB
 .obtain⟨p1,p2⟩:=p;rw[aw (by lia)]at p2;exact q D ys H' hD p1 bD p2
end
noncomputable def kvI(ps:Z (Str×Int)):Z (Key×V):=ps.map λp=>(Sum.inr p.1,.int p.2)
def Kp:Z (Str×Int)->Z (aA×aA)->Prop
 | [],[]=>True
 | p::ps,v::vs=>(∃t u,v=(.str p.1 t,.int p.2 u))/\Kp ps vs
 | _,_=>False
section
variable{X:Cx}{pos:dQ}{aE:Z (aF×Obj)}{σ:L2.St}{H:Hp}
noncomputable def Lv(X:Cx)(pos:dQ)(es:Z (Expr×Expr)):Z (nP aA×nP aA):=es.map λp=>(bX p.1 X.env,do let x <-bX p.2 X.env;BR pos;aR x)
theorem ahf:∀(es:Z (Expr×Expr)) (ps:Z (Str×Int)),es.length=ps.length->(∀(i:Nat) e p,es[i]?=some e->ps[i]?=some p->PE X e.1 (tC<|.str p.1)/\PE X e.2 (tC<|.int p.2))->∀(s:aB) (Q:Z (aA×aA)->aB->Prop),Inv X aE σ H s->
  (∀s' vs,Inv X aE σ H s'->Kp ps vs->Q vs s')->aG (aH X.prog X.w) X.A (FB<|Lv X pos es) Q X.xe s
 | [],[],_,_,s,Q,I,q=>aj (q s [] I True.intro)
 | e::es,[],hl,_,_,_,_,_=>by cases hl
 | [],p::ps,hl,_,_,_,_,_=>by cases hl
 | e::es,p::ps,hl,he,s,Q,I,q=>by obtain⟨h1,h2⟩:=he 0 e p rfl rfl;show aG _ _ (FB ((bX e.1 X.env,do let x <-bX e.2 X.env;BR pos;aR x)::Lv X pos es)) _ _ _;unfold FB;refine ab<|thn (h1 aE s σ H (λv G=>V.str p.1=v/\H=G) I ⟨rfl,rfl⟩) λkv s1 ⟨x,H1,I1,r1,e1,e2⟩=>?_;subst e1;subst e2;obtain⟨t,rfl⟩:=r1;refine ab<|gm<|ab<|thn (h2 aE s1 σ _ (λv G=>V.int p.2=v/\H=G) I1 ⟨rfl,rfl⟩) λvv s2 ⟨x,H2,I2,r2,e1,e2⟩=>ab<|fG<|aj ?_;subst e1;subst e2;obtain⟨u,rfl⟩:=r2;refine ab<|gm<|ahf es ps (by simpa using hl) (λi e p h1 h2=>he (i+1) e p (by simpa using h1)<|by simpa using h2) s2 _ I2 λs3 vs I3 pr=>aj ?_;exact q s3 _ I3 ⟨(l0 t u rfl),pr⟩
theorem ab7:∀{ps:Z (Str×Int)} {vs:Z (aA×aA)},Kp ps vs->∃kvs:Z (Key×aA),Carries (p8 X.prog X.w) vs kvs/\KV (kvI ps) kvs/\kvs.map (·.1)=ps.map λp=>Sum.inr p.1
 | [],[],_=>⟨[],True.intro,.nil,rfl⟩
 | [],_::_,h=>h.elim
 | _::_,[],h=>h.elim
 | p::ps,v::vs,h=>by obtain⟨⟨t,u,rfl⟩,h2⟩:=h;obtain⟨kvs,c1,c2,c3⟩:=ab7 h2;refine⟨(Sum.inr p.1,.int p.2 u)::kvs,⟨?_,rfl,c1⟩,.cons ⟨rfl,u,rfl⟩ c2,by rw[eu,eu,c3]⟩;exact aa5 _ _ _ _
theorem afh:∀(acc more:Z (Key×aA)),((acc++more).map (·.1)).Nodup->merged acc more=acc++more
 | acc,[],_=>(fj acc).symm
 | acc,kv::more,h=>by
  have e:Av acc kv.1 kv.2=acc++[kv]:=by unfold Av;rw[if_neg];intro hh;obtain⟨x,hx,hq⟩:=List.any_eq_true.mp hh;rw[b9,List.nodup_append]at h;exact h.2.2 x.1 (ay.mpr ⟨x,hx,rfl⟩) kv.1 (by simp)<|of_decide_eq_true hq
  show merged (Av acc kv.1 kv.2) more=_;rw[e,afh (acc++[kv]) more<|by rw[bq];exact h,bq];rfl
def ak2{ps:Z (Str×Int)}(h:(ps.map (·.1)).Nodup):(ps.map λp=>(Sum.inr p.1:Key)).Nodup:=by
 have e:(ps.map λp=>(Sum.inr p.1:Key))=(ps.map (·.1)).map Sum.inr:=by rw[b7];rfl
 rw[e];exact List.Pairwise.map _ (λa b lD z=>lD<|Sum.inr.inj z) h
def av6(ps:Z (Str×Int)):TE:=λ_ H Q=>∀D,H D=none->Q (.ref D) (upd H D<|.dK<|kvI ps)
theorem aqp{keys:Z (Option Expr)}{qP:Z Expr}(es:Z (Expr×Expr))(ps:Z (Str×Int))(hk:keys=es.map λe=>some e.1)(hv:qP=es.map λe=>e.2)(hl:es.length=ps.length)(h0:es≠[])(h15:es.length<=15)
  (he:∀(i:Nat) e p,es[i]?=some e->ps[i]?=some p->PE X e.1 (tC<|.str p.1)/\PE X e.2 (tC<|.int p.2)) (nd:(ps.map (·.1)).Nodup):PE X (.Dict keys qP pos) (av6 ps):=by
 subst hk;subst hv;intro aE s σ H Q I h;have hn:H s.heap.objs.size=none:=I.hok.fresh<|ao _;have I1:Inv X aE σ (upd H s.heap.objs.size<|.dK []) {s with heap:=s.heap.push {cls:=.type "dict",data:=.dict #[]}}:=I.laid (a:=s.heap.objs.size) (o:=.dK []) (t':=s.toks) (λ_ _ q=>ak _ q) (ao _)<|an2 s.heap I.big;refine wpAny_Dict_walk (knd:=p8 X.prog X.w) (by simp) (by simp) (by simpa using h0) (by simpa using h15) ?_;have e:pairTrees (es.map λe=>some e.1) (es.map λe=>e.2) X.env pos=Lv X pos es:=by
  clear he hl h0 h15;induction es with
  | nil=>rfl
  | cons a t ih=>show(_::pairTrees _ _ _ _)=_;rw[ih];rfl
 rw[e];refine ahf es ps hl he _ _ I1 λs' vs I2 pr=>?_;obtain⟨kvs,c1,c2,c3⟩:=ab7 (X:=X) pr;have hD:upd H s.heap.objs.size (.dK []) s.heap.objs.size=some (.dK []):=lr;obtain⟨_,hS,vs0,r0,m0⟩:=I2.hok _ _ hD;cases r0;refine⟨kvs,c1,m0,λh' hd mF=>?_⟩;rw[afh [] kvs (by rw[List.nil_append,c3];exact ak2 nd)]at hd;have pW:upd (upd H s.heap.objs.size<|.dK []) s.heap.objs.size (.dK<|kvI ps)=upd H s.heap.objs.size (.dK<|kvI ps):=by
  funext b
  by_cases hb:b=s.heap.objs.size
  .subst hb;rw[lr,lr]
  .rw[nu hb,nu hb,nu hb]
 have aZ:(kvI ps).length<=aC:=by unfold kvI;rw[ae,<-hl];exact fh<|mr<|by lia
 have I3:=Gv (t':=s'.toks+vs.length) (ob:=.dK<|kvI ps) I2 (by rw[hD];exact True.intro) mF (by obtain⟨o,ho,_⟩:=Heap.dictOf_iff.mp hd;exact⟨o,ho⟩) ⟨aZ,hS,kvs,c2,hd⟩;rw[pW]at I3;exact(l0 (.ref s.heap.objs.size) _ ⟨I3,rfl,h _ hn⟩)
theorem ao4{k1 k2 k3 v1 v2 v3:Expr}{a b c:Str}{i j k:Int}(h1:PE X k1 (tC<|.str a))(g1:PE X v1 (tC<|.int i))(h2:PE X k2 (tC<|.str b))(g2:PE X v2 (tC<|.int j))(h3:PE X k3 (tC<|.str c))(g3:PE X v3 (tC<|.int k))(nd:[a,b,c].Nodup) :
  PE X (.Dict [some k1,some k2,some k3] [v1,v2,v3] pos) (av6 [(a,i),(b,j),(c,k)]):=
 aqp [(k1,v1),(k2,v2),(k3,v3)] [(a,i),(b,j),(c,k)] rfl rfl rfl (by simp) (by show 3<=15;decide) (λn e p q1 q2=>by
  match n,q1,q2 with
  | 0,q1,q2=>cases q1;cases q2;exact⟨h1,g1⟩
  | 1,q1,q2=>cases q1;cases q2;exact⟨h2,g2⟩
  | 2,q1,q2=>cases q1;cases q2;exact⟨h3,g3⟩
  | n+3,q1,q2=>cases q1) nd
end
section
variable{X:Cx}{aE:Z (aF×Obj)}{σ:L2.St}{H:Hp}{s:aB}{h':Heap}
def ak0{t':Nat}{fp:Z aF}(I:Inv X aE σ H s)(k:∀b o,b∉fp->s.heap.get? b=some o->h'.get? b=some o)(hf:∀b∈fp,mM X aE H b):Inv X aE σ H {s with heap:=h',toks:=t'}:=by
 have nn:∀b u,H b=some u->b∉fp:=λb u q z=>by rw[(hf b z).1]at q;cases q
 refine I.step (g':=s.gens) (d':=s.drawn) (ch:=fp) (λb hb=>?_) (λb o _ _ hc q _=>k b o hc q) (λb o _ _ hc q _=>⟨o.slots,k b o hc q⟩) (λ_ _ _ _ n=>n)
  (λb o hc q=>⟨o,k b o hc q⟩) (λ_ _ q=>q) (λ_ _ _ q=>q) (λb ps q=>⟨#[],by rw[q];simp⟩) (λm hm=>?_) (λb u q=>?_) I.bare
 .obtain⟨e0,e1,e2,e3,e4,e5⟩:=hf b hb;exact⟨e3,e1,e4,e5⟩
 .obtain⟨o,es,ep,ho,r⟩:=hm;exact(m9 o es ep ⟨k _ o (λz=>(hf _ z).2.1 rfl) ho,r⟩)
 .refine(I.hok b u q).stay (λc v hc r=>k c v ?_ r) (λ_ r=>r) λ_ _ r=>r;rcases hc with z|z
  .rw[z];exact nn b u q
  .exact nn c _ z
end
noncomputable def Jzp(l1 l2:aF):It:=
 ⟨λi H=>∃xs ys x y,H l1=some (.lst xs)/\H l2=some (.lst ys)/\xs[i]?=some x/\ys[i]?=some y,
  λi H v H'=>∃p x y,H p=none/\v=.ref p/\H'=upd H p (.tup [x,y])/\(∀xs,H l1=some (.lst xs)->xs[i]?=some x)/\∀ys,H l2=some (.lst ys)->ys[i]?=some y,
  λi H=>∃xs ys,H l1=some (.lst xs)/\H l2=some (.lst ys)/\(xs.length<=i\/ys.length<=i)⟩
def aw1(z TI TO i1 i2 l1 l2:aF)(i:Nat)(h:Heap):Prop:=IsZip h z TI TO .none/\IsPair h TI (.ref i1) (.ref i2)/\(∃a b,IsPair h TO a b)/\h.IsListIter i1 l1 i/\h.IsListIter i2 l2 i
def aoo{P:aK}{w:aO}{K:ax}{eI:Z Expr}{x1}{pos:dQ}{z TI TO i1 i2 l1 l2:aF}(nd:[z,TI,TO,i1,i2].Nodup) :
  tY P w K (.Tuple eI x1 pos) (Jzp l1 l2) [z,TI,TO,i1,i2] z (aw1 z TI TO i1 i2 l1 l2)where
 mem:=by simp
 obj:=λi h st b hb=>by
  obtain⟨a1,a2,⟨a,b',a3⟩,⟨o4,h4,c4,d4⟩,⟨o5,h5,c5,d5⟩⟩:=st;simp only[a7,i9,or_false]at hb;rcases hb with rfl|rfl|rfl|rfl|rfl
  .exact⟨_,a1,λv z=>by cases z⟩
  .exact⟨_,a2,λv z=>by cases z⟩
  .exact⟨_,a3,λv z=>by cases z⟩
  .exact⟨_,h4,λv z=>by rw[d4]at z;cases z⟩
  .exact⟨_,h5,λv z=>by rw[d5]at z;cases z⟩
 keep:=λi h h' st k=>by obtain⟨a1,a2,⟨a,b',a3⟩,⟨o4,h4,c4⟩,⟨o5,h5,c5⟩⟩:=st;exact⟨k _ (by simp) _ a1,k _ (by simp) _ a2,(l0 a b'<|k _ (by simp) _ a3),⟨o4,k _ (by simp) _ h4,c4⟩,⟨o5,k _ (by simp) _ h5,c5⟩⟩
 item:=by
  intro X hP hw hK hc i aE s σ H E Iv hf st hg;subst hP hw hK;obtain⟨a1,a2,⟨a,b',a3⟩,h4,h5⟩:=st;obtain⟨xs,ys,x,y,iX,fJ,hx,hy⟩:=hg;obtain⟨is1,r1,p1,z1⟩:=Iv.list<|SqL.of (K:=X.K) iX;obtain⟨is2,r2,p2,z2⟩:=Iv.list<|SqL.of (K:=X.K) fJ;obtain⟨u,hu,ru⟩:=r1.get hx;obtain⟨v,hv,rv⟩:=r2.get hy;have uL:∀b∈[z,TI,TO,i1,i2],l1≠b:=λb hb e=>by rw[e,(hf b hb).1]at iX;cases iX
  have uK:∀b∈[z,TI,TO,i1,i2],l2≠b:=λb hb e=>by rw[e,(hf b hb).1]at fJ;cases fJ
  simp only[jz,a7,i9,or_false,not_or]at nd;obtain⟨⟨n1,n2,n3,n4⟩,⟨n5,n6,n7⟩,⟨n8,n9⟩,Cd,_⟩:=nd;have ap:ZipApart z TI TO i1 i2 l1 l2:=⟨Ne.symm n1,Ne.symm n2,Ne.symm n3,Ne.symm n4,n5,n6,n7,n8,n9,Cd,uL _<|by simp,uL _<|by simp,uL _<|by simp,uL _<|by simp,uK _<|by simp,uK _<|by simp,uK _<|by simp,uK _<|by simp⟩;refine wpAny_pyNext_zip_item ap a1 a2 a3 h4 h5 p1.isList p2.isList (x:=u) (y:=v) (by simpa using hu) (by simpa using hv) λg g1 g2 g3 g4 g5 g6 g7=>⟨_,rfl,?_⟩;refine wpAny_letOwnedTupleGo_zip (s:={s with heap:=g}) g1 λg' e' sb=>?_;have lz:∀b∈[z,TI,TO,i1,i2],b<s.heap.objs.size:=λb hb=>by
   simp only[a7,i9,or_false]at hb;rcases hb with rfl|rfl|rfl|rfl|rfl
   .exact bi a1
   .exact bi a2
   .exact bi a3
   .obtain⟨o,ho,_⟩:=h4;exact bi ho
   .obtain⟨o,ho,_⟩:=h5;exact bi ho
  have I1:Inv X aE σ (upd H s.heap.objs.size<|.tup [x,y]) {s with heap:=s.heap.push {cls:=.type "tuple",data:=.seq #[u,v]}}:=
   Iv.laid (t':=s.toks) (λb o q=>ak _ q) (ao _) ⟨by show 2<=aC;decide,[u,v],.cons ru<|.cons rv .nil,(ng _ (bh _ rfl) rfl _ rfl)⟩
  have hf':∀b∈[z,TI,TO,i1,i2],mM X aE (upd H s.heap.objs.size<|.tup [x,y]) b:=λb hb=>⟨by rw[nu (da<|lz b hb)];exact(hf b hb).1,(hf b hb).2⟩;have nz:s.heap.objs.size≠z:=Nat.ne_of_gt (lz z<|by simp);have I2:Inv X aE σ (upd H s.heap.objs.size<|.tup [x,y]) {s with heap:=g'}:=ak0 (s:={s with heap:=s.heap.push {cls:=.type "tuple",data:=.seq #[u,v]}}) (t':=s.toks) I1 (λb o hb q=>by
   simp only[a7,i9,or_false,not_or]at hb;rcases Heap.get?_push_cases q with ⟨e1,e2⟩|e
   .rw[e1,e2];exact(sb.2 _ nz).trans g5
   .exact(sb.2 b hb.1).trans (g7 b o hb.1 hb.2.2.1 hb.2.2.2.1 hb.2.2.2.2 e)) hf'
  have kp:∀b o,b≠z->g.get? b=some o->g'.get? b=some o:=λb o hb q=>(sb.2 b hb).trans q;obtain⟨o3,q3,r3⟩:=g3;obtain⟨o4,q4,r4⟩:=g4;refine(l0 (.ref s.heap.objs.size) _ ⟨I2,rfl,(m9 _ x y ⟨Iv.hok.fresh<|ao _,rfl,rfl,λGN e=>?_,λuD e=>?_⟩),⟨e',kp _ _ (Ne.symm n1)<|g7 _ _ (Ne.symm n1) n5 n6 n7 a2,(l0 _ _<|kp _ _ (Ne.symm n2) g2),⟨o3,kp _ _ (Ne.symm n3) q3,r3⟩,⟨o4,kp _ _ (Ne.symm n4) q4,r4⟩⟩,λb hb=>(hf' b hb).1⟩)
  .rw[iX]at e;cases e;exact hx
  .rw[fJ]at e;cases e;exact hy
 done:=by
  intro X hP hw hK hc i aE s σ H E Iv hf st hg;subst hP hw hK;obtain⟨a1,a2,⟨a,b',a3⟩,h4,h5⟩:=st;obtain⟨xs,ys,iX,fJ,hx⟩:=hg;obtain⟨is1,r1,p1,z1⟩:=Iv.list<|SqL.of (K:=X.K) iX;obtain⟨is2,r2,p2,z2⟩:=Iv.list<|SqL.of (K:=X.K) fJ;have uL:∀b∈[z,TI,TO,i1,i2],l1≠b:=λb hb e=>by rw[e,(hf b hb).1]at iX;cases iX
  have uK:∀b∈[z,TI,TO,i1,i2],l2≠b:=λb hb e=>by rw[e,(hf b hb).1]at fJ;cases fJ
  simp only[jz,a7,i9,or_false,not_or]at nd;obtain⟨⟨n1,n2,n3,n4⟩,⟨n5,n6,n7⟩,⟨n8,n9⟩,Cd,_⟩:=nd;have ap:ZipApart z TI TO i1 i2 l1 l2:=⟨Ne.symm n1,Ne.symm n2,Ne.symm n3,Ne.symm n4,n5,n6,n7,n8,n9,Cd,uL _<|by simp,uL _<|by simp,uL _<|by simp,uL _<|by simp,uK _<|by simp,uK _<|by simp,uK _<|by simp,uK _<|by simp⟩;have Kj:=r1.length;have len2:=r2.length;refine wpAny_pyNext_zip_end (Iv.ok.hd hc) ap a1 a2 a3 h4 h5 p1.isList p2.isList (hx.imp (λh=>?_) λh=>?_) λg kp=>⟨rfl,ak0 (t':=s.toks) Iv (λb o hb q=>?_) hf⟩
  .simp;lia
  .simp;lia
  .simp only[a7,i9,or_false,not_or]at hb;exact kp b o hb.1 hb.2.2.1 hb.2.2.2.1 hb.2.2.2.2 q
 self:=λ_ _ _ _ _ st h=>ED st.1 h
section
variable{X:Cx}{eI:Z Expr}{x1:Nat}{jG p pos:dQ}{a b:Expr}{ta:TA}
def ay9(ta:TA):TI:=λσ H R=>ta σ H λvs H1=>∃l1 l2 xs ys,vs=[.ref l1,.ref l2]/\H1 l1=some (.lst xs)/\H1 l2=some (.lst ys)/\R (Jzp l1 l2) H1
def avy(hg:Gl X "zip")(hm:X.mg "zip" = none)(ha:PA X [a,b] ta)(h1:nw a=true:=by rfl)(h2:nw b=true:=by rfl):PI X (.Tuple eI x1 jG) (.Call (.Name "zip" p) [a,b] [] pos) (ay9 ta):=by
 intro aE s σ H R I h;refine Call_ (uz I hg hm boot_zip<|ft (thn (ha pos aE s σ H _ I h) λus s1 ⟨vs,H1,I1,r1,q1⟩=>?_) (ou h1)<|uw<|by simp[h2]);obtain⟨l1,l2,xs,ys,e,iX,fJ,q⟩:=q1;subst e;obtain⟨u,v,rfl,ru,rv⟩:=KY r1;cases (show u=aA.ref l1 from ru);cases (show v=aA.ref l2 from rv);obtain⟨is1,_,p1,_⟩:=I1.list<|SqL.of (K:=X.K) iX;obtain⟨is2,_,p2,_⟩:=I1.list<|SqL.of (K:=X.K) fJ;refine call_zip_2 p1.isList p2.isList λg g1 g2 g3 g4 g5 g6 kp=>ED (s:={s1 with heap:=g}) g1 ?_;refine(lv (s1.heap.objs.size+4) ([s1.heap.objs.size+4,s1.heap.objs.size+2,s1.heap.objs.size+3,s1.heap.objs.size,s1.heap.objs.size+1]) _ _ H1 ⟨rfl,I1.kept (t':=s1.toks) kp,aoo (l1:=l1) (l2:=l2)<|by simp,⟨g1,g2,(l0 _ _ g3),g4,g5⟩,λc hc=>?_,q⟩);have:s1.heap.objs.size<=c:=by simp only[a7,i9,or_false]at hc;rcases hc with rfl|rfl|rfl|rfl|rfl<;>lia
 exact I1.fpOk this<|I1.hok.fresh this
end
def anq{l1 l2:aF}{xs ys:Z V}{sl:Z (Option Nat)}{g:TG}{tt:L2.TT}{te:TE}{σ:L2.St}{H1:Hp}{D:aF}{Q:VK}(Pv:Nat->Z V->Hp->Prop)(h0:Pv 0 [] (upd H1 D<|.lst []))(hk:∀i zs G,Pv i zs G->G l1=some (.lst xs)/\G l2=some (.lst ys))
  (hs:∀i x y p zs G,xs[i]?=some x->ys[i]?=some y->G p=none->G D=some (.lst zs)->zs.length<=i->Pv i zs G->g (.ref p) (su sl σ) (upd G p<|.tup [x,y]) λσ2 H2=>Agree (su sl σ) σ2/\tt σ2 H2 λb H3=>
   if b=true then te σ2 H3 λy H4=>∃xs,H4 D=some (.lst xs)/\xs.length<aC/\Nx D i Pv (upd H4 D<|.lst<|xs++[y])else Nx D i Pv H3)
  (hd:∀zs G,G D=some (.lst zs)->zs.length<=iA xs.length ys.length->Pv (iA xs.length ys.length) zs G->Q (.ref D) G):vU (Jzp l1 l2) sl g tt te σ H1 D Q:=by
 refine Gm (Jzp l1 l2) (iA xs.length ys.length) Pv h0 (λi zs G hi p=>(l9 xs ys (xs[i]'(by lia)) (ys[i]'(by lia)) ⟨(hk i zs G p).1,(hk i zs G p).2,ah _,ah _⟩)) (λzs G p=>(l0 xs ys ⟨(hk _ zs G p).1,(hk _ zs G p).2,by lia⟩)) (λi v zs G G' hi y hD dR p=>?_) hd;obtain⟨b,x,y',hb,rfl,rfl,e1,e2⟩:=y;exact hs i x y' b zs G (e1 xs (hk i zs G p).1) (e2 ys (hk i zs G p).2) hb hD dR p
end L3
namespace L2
open PySem PySem.Spec PyProof.Rows
def aoh{P:aK}{w:aO}{H:Hp}(h:Heap)(hb:bE<h.objs.size):ObjOk P w H (h.push {cls:=.type "dict",data:=.dict #[]}) h.objs.size (.dT []):=
 ⟨f8 _,beq_eq_false_iff_ne.mpr<|Ne.symm<|da hb,[],.nil,_,#[],0,bh _ rfl,⟨rfl,rfl,rfl⟩,rfl,rfl,List.nodup_nil⟩
def aug:TE:=λ_ H Q=>∀p,H p=none->Q (.ref p) (upd H p<|.dT [])
section
variable{X:Cx}{pos:dQ}
def Gx:PE X (.Dict [] [] pos) aug:=λaE s σ H Q I h=>
 wpAny_Dict_empty ⟨.ref s.heap.objs.size,_,I.laid (a:=s.heap.objs.size) (o:=.dT []) (t':=s.toks) (λ_ _ q=>ak _ q) (ao _)<|aoh s.heap I.big,rfl,h _<|I.hok.fresh<|ao _⟩
end
end L2
namespace L3
open PySem PyProof.Rows L2
def tf{s1 s2:TS}{D:lS}{σ:L2.St}{H:Hp}(h:∀D':lS,(∀σ' G',s2 D σ' G'->D'.nx σ' G')->D'.rt=D.rt->s1 D' σ H):FO s1 s2 D σ H:=h {D with nx:=s2 D} (λ_ _ z=>z) rfl
def aju{i:Nat}{v:V}{s1 s2:TS}{D:lS}{σ:L2.St}{H:Hp}(h:∀D':lS,(∀σ' G',s2 D σ' G'->D'.nx σ' G')->D'.rt=D.rt->s1 D' (σ.set i<|some v) H):uf i v σ H λσ2 H2=>FO s1 s2 D σ2 H2:=h {D with nx:=s2 D} (λ_ _ z=>z) rfl
def yn{σ:L2.St}{H:Hp}{Q:Option Int->Hp->Prop}(h:Q none H):amg σ H Q:=h
def GH{s1 s2:TS}{D:lS}{σ:L2.St}{H:Hp}(R:L2.St->Hp->Prop)(h:∀σ' G',R σ' G'->s2 D σ' G')(h1:∀D':lS,(∀σ' G',R σ' G'->D'.nx σ' G')->D'.rt=D.rt->s1 D' σ H):FO s1 s2 D σ H:=h1 {D with nx:=s2 D} h rfl
end L3
namespace L3
open PySem PySem.Spec PyProof.Rows L2
def DE(h:Heap)(d:aF)(es:Array fQ)(ep:Nat):Prop:=∃o,h.get? d=some o/\o.ExactDict/\o.data=.dict es ep
def DE.ty{s:aB}{d:aF}{es:Array fQ}{ep:Nat}(x:DE s.heap d es ep):s.TypeIs (.ref d) "dict":=by obtain⟨o,h1,h2,_⟩:=x;exact⟨o,h1,h2.1⟩
def DE.on{h h':Heap}{d:aF}{es:Array fQ}{ep:Nat}(x:DE h d es ep)(k:∀o,h.get? d=some o->h'.get? d=some o):DE h' d es ep:=by obtain⟨o,h1,h2⟩:=x;exact⟨o,k o h1,h2⟩
section
variable{prog:aK}{w:aO}{A:Around}{E:aA->aB->Prop}{s:aB}{d it:aF}{es:Array fQ}{ep i:Nat}
def ax8{Q:aA->aB->Prop}(lo:(d==bE)=false)(hm:DE s.heap d es ep)(q:Q (.ref s.heap.objs.size) {s with heap:=s.heap.push {cls:=.type "dict_keyiterator",data:=.fields #[.ref d,.int 0 0,.int es.size 0,.int ep 0]}}):aG (aH prog w) A (oA<|.ref d) Q E s:=by
 have T:=hm.ty;obtain⟨o,ho,_,lC⟩:=id hm;refine BL T F.slot_dict_iter<|dz F.slot_dict_iter T F.entry_dict_iter (ab<|ab<|uE T ?_)<|F.args_dict_iter_1 _;refine(aj ?_:aG _ _ (aR<|aA.ref d) _ _ s);have sh:Builtin.Dict.showsAll d=aR ():=by unfold Builtin.Dict.showsAll;rw[if_neg (by rw[lo];simp)]
 refine(?_:aG _ _ (Builtin.Dict.showsAll d >>= _) _ _ s);rw[sh];refine ab<|aj<|ab<|eX ho lC<|ab<|mT ho lC<|ab<|cz<|aj<|nj _ rfl "dict_keyiterator" _ ⟨⟨_,bh _ rfl,rfl⟩,jj.lookup,?_⟩;simpa [dF]using q
def am2:Builtin.Dict_items.ownsTuple "dict_keyiterator" = false:=by decide
def ayp{Q:Option aA->aB->Prop}(eR:s.heap.IsKeyIter it d i es.size ep)(hm:DE s.heap d es ep){e:fQ}(hx:es[i]?=some e)
  (q:∀h',h'.IsKeyIter it d (i+1) es.size ep->b8 it s.heap h'->Q (some e.key) {s with heap:=h'}):aG (aH prog w) A (bH<|.ref it) Q E s:=by
 have T:=eR.typeIs;obtain⟨o,ho,hc,hd⟩:=id eR;obtain⟨od,CG,_,tT⟩:=id hm;unfold bH;refine ab<|kc<|cr (name:="__next__") T jj<|dz jj T F.entry_dict_keyiterator_next (ab<|aj<|ab<|ab<|?_)<|F.args_dict_keyiterator_next_1 _;refine ab<|km T<|aj<|ab<|dD ho hd ?_;rw[if_neg (by rw[am2];simp)];refine(?_:aG _ _ (if (aA.ref d==aA.none)=true then _ else _) _ _ s);rw[if_neg (by intro z;cases z)];refine ab<|aj<|ab<|eX CG tT ?_;rw[if_neg (by simp)];refine ab<|aj<|ab<|mT CG tT ?_;rw[if_neg (by simp)];refine aj ?_;have nn:¬((i:Int)<0):=by lia
 simp only[nn,if_false,cj,hx];refine ab<|ab<|km T<|aj<|ab<|uH T ?_;refine(ab (ix ho hd (by simp) ?_):aG _ _ (wC (.ref it) 1 (dF<|(i:Int)+1) >>= _) _ _ s);have C1:(s.heap.update it<|Obj.mapFields (·.setIfInBounds 1 (dF<|(i:Int)+1))).IsKeyIter it d (i+1) es.size ep:=
  ⟨_,cp _ ho<|Obj.isFreed_of_fields<|kx hd _,by rw[Obj.cls_mapFields];exact hc,by rw[kx hd];simp[dF]⟩
 refine ab<|gm<|ab<|uH (s:={s with heap:=_}) C1.typeIs ?_;refine(?_:aG _ _ (aR e.key) _ _ _);refine aj<|aj ⟨_,rfl,?_⟩;exact aj<|q _ C1<|cu ..
def azg{Q:Option aA->aB->Prop}(hh:A.handled=none)(eR:s.heap.IsKeyIter it d es.size es.size ep)(hm:DE s.heap d es ep)
  (q:∀h',ke it s.heap h'->Q none {s with heap:=h'}):aG (aH prog w) A (bH<|.ref it) Q E s:=by
 have T:=eR.typeIs;obtain⟨o,ho,hc,hd⟩:=id eR;obtain⟨od,CG,_,tT⟩:=id hm;unfold bH;refine ab<|kc<|cr (name:="__next__") T jj<|dz jj T F.entry_dict_keyiterator_next (ab<|aj<|ab<|ab<|?_)<|F.args_dict_keyiterator_next_1 _;refine ab<|km T<|aj<|ab<|dD ho hd ?_;rw[if_neg (by rw[am2];simp)];refine(?_:aG _ _ (if (aA.ref d==aA.none)=true then _ else _) _ _ s);rw[if_neg (by intro z;cases z)];refine ab<|aj<|ab<|eX CG tT ?_;rw[if_neg (by simp)];refine ab<|aj<|ab<|mT CG tT ?_;rw[if_neg (by simp)];refine aj ?_;have nn:¬((es.size:Int)<0):=by lia
 have no:es[es.size]?=none:=kq<|ao _;simp only[nn,if_false,cj,no];refine ab<|ab<|km T<|aj ?_;refine(ab (ix ho hd (by simp) ?_):aG _ _ (wC (.ref it) 0 .none >>= _) _ _ s);refine(ab ?_:aG _ _ (lJ (.type "StopIteration") [] >>= _) _ _ _);unfold lJ kJ;refine ab (cz (ab<|eW (a:=aA.none) rfl<|cz ?_<|by size_fits)<|by size_fits);unfold nZ;refine ab<|jF ?_;rw[show A.in1.handled=none from hh];refine ab<|aj<|lU<|ab ?_;refine kj (T:="StopIteration") (b:=true) (⟨_,bh _ rfl,rfl⟩) iB ?_;exact aj<|q _<|((cu ..).extBut.push _).push _
def azt(lo:(d==bE)=false):PySem.W.KdlSrc prog w "dict" d d es.size (λi v=>∃e,es[i]?=some e/\v=e.key) (λh=>DE h d es ep)where
 type:=λ_ hm=>hm.ty
 there:=λ_ ⟨_,h1,_⟩=>⟨bi h1,bi h1⟩
 keep:=λ_ _ hm k=>hm.on (k d<|.inl rfl)
 notList:=by decide
 notTuple:=by decide
 hint:=λ_ _ _ _ hm q=>PySem.W.kdl_hint_dict hm.ty q
 iter:=λA s hh hm=>by
  refine⟨_,λi h=>h.IsKeyIter s.heap.objs.size d i es.size ep/\DE h d es ep,λ_ _ q=>ax8 lo hm q,?_,⟨_,bh _ rfl,rfl,rfl⟩,hm.on λo e=>ak _ e⟩;have fI:d≠s.heap.objs.size:=by obtain⟨_,h1,_⟩:=hm;exact da<|bi h1
  exact{
   sub:=λb hb=>by rw[ar.mp hb];exact aq
   frame:=λ_ _ _ st hk=>⟨st.1.at λo e=>hk _ aq o e,st.2.on λo e=>hk d (av _ aq) o e⟩
   item:=λi s' Q E hi st q=>by refine ayp st.1 st.2 (bz hi) λh' k sb=>?_;exact q _ h' s'.toks ⟨_,bz hi,rfl⟩ ⟨k,st.2.on λo e=>sb.extBut d o fI e⟩ λb o hb e=>sb.extBut b o (λz=>hb<|by rw[z];exact aq) e
   done:=λs' Q E st q=>azg hh st.1 st.2 λh' eb=>q h' s'.toks λb o hb e=>eb b o (λz=>hb<|by rw[z];exact aq) e
   self:=λ_ _ _ _ st q=>wpAny_pyIter_keyiter st.1 q}
end
noncomputable def kD:Key->U
 | .inl i=>.int i
 | .inr z=>.str z
noncomputable def kT(k:Z Key):U:=.tuple<|k.map kD
def KOk(k:Z Key):Prop:=∀x∈k,∀z,x=Sum.inr z->jk z=true
theorem Ma{H:Hp}:∀{k:Z Key},KOk k->RepAll H (k.map kD) (k.map kV)
 | [],_=>rfl
 | .inl i::k,h=>⟨_,_,rfl,rfl,Ma λx hx=>h x<|av _ hx⟩
 | .inr z::k,h=>⟨_,_,rfl,⟨rfl,h _ aq z rfl⟩,Ma λx hx=>h x<|av _ hx⟩
theorem vn:∀{ns:Z Int} {its:Z aA},Vals (ns.map V.int) its->gB its ns
 | [],_,.nil=>.nil
 | n::ns,_,.cons ⟨t,e⟩ r=>by subst e;exact .cons _ _<|vn r
section
variable{X:Cx}
def azi(K:ax):V->Z V->Hp->VK->Prop:=λx vs H Q=>∃(l:aF)(ns:Z Int)(k:Int),x=.ref l/\vs=[.int k]/\SqL K H l (ns.map V.int)/\Q (.int (ns.count k:Nat)) H
def aht:MtR X "list.count" (azi X.K):=by intro aE s σ H x vs v us Q I rx rv h;obtain⟨l,ns,k,rfl,rfl,hl,q⟩:=h;cases rx;obtain⟨u,rfl,t,rfl⟩:=rv.one;obtain⟨its,r,pl,hz⟩:=I.list hl;exact count_list_ints pl.isList (vn r)<|l0 (.int _) H ⟨I.tok _,⟨_,rfl⟩,q⟩
def axo(K:ax):R2:=λx y H Q=>∃a b xs ys,x=.ref a/\y=.ref b/\SqT K H a xs/\SqT K H b ys/\xs.length+ys.length<=aC/\
 (xs=[]->Q (.ref b) H)/\(xs≠[]->ys=[]->Q (.ref a) H)/\(xs≠[]->ys≠[]->∀p,H p=none->Q (.ref p) (upd H p<|.tup<|xs++ys))
def aqb:OpR X (cQ .Add) (axo X.K):=by
 intro aE s σ H x y v u Q I rx ry h;obtain⟨a,b,xs,ys,rfl,rfl,ha,hb,hz,q0,q1,q2⟩:=h;cases rx;cases ry;obtain⟨its,r1,p1,_⟩:=I.tuple ha;obtain⟨kX,r2,p2,_⟩:=I.tuple hb;by_cases hx:xs=[]
 .have hv:its=[]:=r1.nil_iff.mpr hx;obtain⟨⟨cls,dd,data,sl⟩,ho,hc,n,hd⟩:=p1;obtain⟨⟨DD,xL,data2,wB⟩,yP,sO,n2,jJ⟩:=p2;simp only at hc hd sO jJ;subst hc hd sO jJ;exact tW ⟨_,ho,rfl⟩ ⟨_,yP,rfl⟩ lI pR PySem.F.slot_tuple_add PySem.F.entry_tuple_add (PySem.F.args_tuple_add_2 _ _)
   (tuple_addW0 a b its.toArray kX.toArray n n2 dd xL sl wB<|by simp[hv]) ⟨ho,yP,(l0 (.ref b) H ⟨I,rfl,q0 hx⟩)⟩
 .refine HT.cat_tup p1 p2 (λz=>hx<|r1.nil_iff.mp z) (λz=>(l0 (.ref a) H ⟨I,rfl,q1 hx<|r2.nil_iff.mp z⟩)) (λz=>?_) (by rw[<-r1.length,<-r2.length];exact hz);refine(l0 (.ref s.heap.objs.size) _ ⟨I.laid (t':=s.toks) (o:=.tup<|xs++ys) (λb ob q=>ak _ q) (ao _) ?_,rfl,q2 hx (λe=>z<|r2.nil_iff.mpr e) _<|I.hok.fresh<|ao _⟩);exact⟨by rw[au];exact hz,_,r1.append r2,mR.new _ _⟩
def ays:R2:=λx y H Q=>∃a b xs ys,x=.ref a/\y=.ref b/\H a=some (.tup xs)/\H b=some (.tup ys)/\xs.length+ys.length<=aC/\∀c H',Same H H'->H' c=some (.tup<|xs++ys)->Q (.ref c) H'
def aq0:OpR X (cQ .Add) ays:=by
 intro aE s σ H x y v u Q I rx ry h;obtain⟨a,b,xs,ys,rfl,rfl,ha,hb,hz,q⟩:=h;refine aqb aE s σ H _ _ v u Q I rx ry<|l9 a b xs ys ⟨rfl,rfl,SqT.of ha,SqT.of hb,hz,λe=>?_,λ_ e=>?_,λ_ _ p hp=>?_⟩
 .subst e;exact q b H (Same.refl _) hb
 .subst e;exact q a H (Same.refl _)<|by rw[fj];exact ha
 .exact q p _ (Same.fresh _ hp) lr
def awr:V->Option Int->Option Int->Hp->VK->Prop:=λx lo hi H Q=>∃a xs,x=.ref a/\H a=some (.tup xs)/\∀c H',Same H H'->H' c=some (.tup<|w6 xs lo hi)->Q (.ref c) H'
def alo:SlR X awr:=by
 intro aE s σ H x v vl vu lo hi sl Q I rx hs pl pu h;obtain⟨a,xs,rfl,ha,q⟩:=h;refine aro aE s σ H _ v vl vu lo hi sl Q I rx hs pl pu<|l0 a xs ⟨rfl,SqT.of ha,λe=>?_,λ_ p hp=>?_⟩
 .refine q a H (Same.refl _) ?_;have:w6 xs lo hi=xs:=by unfold w6;rw[e.1,e.2];simp
  rw[this];exact ha
 .exact q p _ (Same.fresh _ hp) lr
end
noncomputable def ltX:U->U->Bool
 | .str a,.str b=>decide (a.cps.toList<b.cps.toList)
 | _,_=>false
def azd{ds:Z U}(h:∀d∈ds,∃z,d=.str z):vM ltX ds:=⟨λx hx y hy q=>by
  obtain⟨a,rfl⟩:=h x hx;obtain⟨b,rfl⟩:=h y hy;exact decide_eq_false<|List.lt_asymm<|of_decide_eq_true q,λx hx y hy z hz q1 q2=>by
  obtain⟨a,rfl⟩:=h x hx;obtain⟨b,rfl⟩:=h y hy;obtain⟨c,rfl⟩:=h z hz;have h1:a.cps.toList<=b.cps.toList:=of_decide_eq_false q1;have h2:b.cps.toList<=c.cps.toList:=of_decide_eq_false q2;exact decide_eq_false<|List.le_trans h1 h2⟩
section
variable{X:Cx}
def v8:ub X (.builtin "sorted") (λvs H Q=>∃p xs ds,vs=[.ref p]/\H p=some (.lst xs)/\RepAll H ds xs/\(∀d∈ds,∃z,d=.str z)/\
  ∀l ys es,H l=none->es.Perm ds->es.Pairwise (λx y=>ltX y x=false)->RepAll (upd H l<|.lst ys) es ys->Q (.ref l) (upd H l<|.lst ys)):=by
 intro aE s σ H xs us Q I r h;obtain⟨p,xs,ds,rfl,hp,cY,uO,q⟩:=h;obtain⟨u,rfl,r1⟩:=va r;cases (show u=aA.ref p from r1);obtain⟨its,rv,pl,hz⟩:=I.list<|SqL.of (K:=X.K) hp;have l1:xs.length=ds.length:=cY.length;have l2:xs.length=its.length:=rv.length;have kG:∀(i:Nat)(d:U)(u:aA),ds[i]?=some d->its[i]?=some u->∃z t,d=.str z/\u=.str z t:=λi d u hd hu=>by obtain⟨x,e1,e2⟩:=cY.get hd;obtain⟨u',e3,e4⟩:=rv.get e1;rw[hu]at e3;cases e3;obtain⟨z,rfl⟩:=uO d<|ai hd;obtain⟨rfl,_⟩:=e2;obtain⟨t,rfl⟩:=e4;exact⟨z,t,rfl,rfl⟩
 refine zt (κ:=oneType') (lt:=ltX) I cY rv (by lia) (Lz pl.isList<|by lia) (azd uO) (λh2 s' k Q' E' hq=>?_) (λs' k i j d e u v ui di vj dj Q' hq=>?_) q
 .refine PySem.W.kas_kind (T:=aA.type "str") h2 (λv hv=>?_) (by decide) rfl hq;obtain⟨i,hi⟩:=fk.mp hv;obtain⟨z,t,_,rfl⟩:=kG i _ v (ah<|by have:=(af.mp hi).1;lia) hi;exact PySem.W.Looks.of_pure rfl
 .obtain⟨z,t,rfl,rfl⟩:=kG i d u di ui;obtain⟨z',t',rfl,rfl⟩:=kG j e v dj vj;exact PySem.W.kas_lt_str hq
def afj:ub X (.builtin "sorted") (λvs H Q=>∃p xs ds,vs=[.ref p]/\H p=some (.lst xs)/\RepAll H ds xs/\(∀d∈ds,∃z,d=.str z)/\
  ∀l ys es,H l=none->es.Perm ds->RepAll (upd H l<|.lst ys) es ys->Q (.ref l) (upd H l<|.lst ys)):=λaE s σ H xs us Q I r ⟨p,xs,ds,e,hp,cY,uO,q⟩=>v8 aE s σ H _ us Q I r ⟨p,xs,ds,e,hp,cY,uO,λl ys es h1 h2 _ h3=>q l ys es h1 h2 h3⟩
end
def avp(X:Cx)(i:Nat)(t:TA):TE:=λσ H Q=>∃f k fd ps sp,σ[i]?=some (some<|.ref f)/\qr X.prog X.w X.K X.mg X.base CX0 k f fd ps sp/\Room k X.A/\kn X.K (.ref f)=true/\Binds X.K fd ps []/\t σ H λvs H1=>sp vs H1 Q E0
section
variable{X:Cx}{x:Str}{p pos:dQ}{e:Expr}{es:Z Expr}{t:TA}{i:Nat}
def at9(hN:X.N[i]?=some x)(hv:Vis X.env.scope x)(ha:PA X (e::es) t)(hd:(x==("__debug__" : Str))=false:=by decide)(oM:(x==("__classdict__" : Str))=false:=by decide)(h1:nw e=true:=by rfl)(h2:es.all nw=true:=by rfl) :
  PE X (.Call (.Name x p) (e::es) [] pos) (avp X i t):=by
 intro aE s σ H Q I h;obtain⟨f,k,fd,ps,sp,e1,F,hr,hk,hb,q⟩:=h;refine iz<|thn (apk (pos:=p) hN hv hd oM aE s σ H (λv H1=>v=.ref f/\H1=H) I ⟨_,e1,rfl,rfl⟩) λu s1 ⟨v,H1,I1,r,ev,eH⟩=>?_;subst ev eH;cases (show u=aA.ref f from r);refine PySem.W.callWith_K (h₀:=X.base) I1.ok.mod.kin hk (thn (ha pos aE s1 σ _ _ I1 q) λus s2 ⟨vs,H2,I2,r2,q2⟩=>⟨I2.kIn,?_⟩) (ou h1)<|uw h2;exact ap8 F hr hb .nil auz I2 r2<|by rw[fj];exact q2
end
section
variable{X:Cx}
def ax1:V->Z V->Hp->VK->Prop:=λx vs H Q=>∃(l:aF)(xs:Z V)(v:V)(ds:Z U)(d:U),x=.ref l/\vs=[v]/\H l=some (.lst xs)/\RepAll H ds xs/\Rep H d v/\d.depth<=50/\Q (.int (ds.countP (λe=>br e d):Nat)) H
theorem akj(hu:X.A.units+64<bI):MtR X "list.count" ax1:=by
 intro aE s σ H x vs v us Q I rx rv h;obtain⟨l,xs,v',ds,d,rfl,rfl,hl,rep,rd,vA,q⟩:=h;cases rx;obtain⟨u,rfl,ru⟩:=rv.one;obtain⟨bs,r2⟩:=rd.reads I ru;obtain⟨as,r1⟩:=Rep.reads I (d:=.list ds) (v:=.ref l) (u:=.ref l) (l0 l xs ⟨rfl,hl,rep⟩) rfl;have room:X.A.units+1+iA (bu ds) d.depth<bI:=by have:=Nat.min_le_right (bu ds) d.depth;lia
 cases r1 with
 | @list _ o vs n _ as' h1 h2 h3 h4=>
  obtain⟨cls,dd,data,sl⟩:=o;simp only at h2 h3;subst h2 h3;refine Be PySem.F.slot_list_count ⟨_,h1,rfl⟩ PySem.F.entry_list_count (PySem.F.args_list_count_2 _ _) (SeqAt.list_countAt l vs n dd sl u λy=>br (SeqAt.readOf s.heap y) d) ⟨h1,λy hy=>?_,?_⟩
  .exact SeqAt.items_eqAt h4 r2 rep.lay rd.lay room y hy
  .have e:vs.toList.countP (λy=>br (SeqAt.readOf s.heap y) d)=ds.countP λe=>br e d:=by
    rw[<-SeqAt.readsAll_map ds _ _ rep.lay h4,List.countP_map];rfl
   rw[e];exact l0 (.int _) H ⟨I.tok _,⟨_,rfl⟩,q⟩
end
section
variable{prog:aK}{w:aO}{K:Type}[DecidableEq K]{knd:HeapKind prog w K}{A:Around}{E:aA->aB->Prop}{s:aB}
def abd{d a:aF}{xs:Z (K×aF×aA)}{k:K}{v:aA}{Q:aA->aB->Prop}(hu:knd.room A)(dN:knd.is s.heap k a)(hm:s.heap.DictOfH knd d xs)
  (hS:∀p,iN xs k=some p->Q p.2 {s with toks:=s.toks+knd.draws k})
  (hN:iN xs k=none->∀h',h'.DictOfH knd d (BQ xs k a v)->b8 d s.heap h'->Q v {s with heap:=h',toks:=s.toks+knd.draws k})
  (hsz:xs.length<=aC):aG (aH prog w) A (oQ d (.ref a) v) Q E s:=by
 obtain⟨o,es,ep,ho,hc,hd,he,C2,hn⟩:=hm;unfold oQ;try with_reducible refine gm ?_
 refine ab<|knd.pyHash hu dN ?_;refine ab<|wpAny_dictFind_heap (s:={s with toks:=s.toks+knd.draws k}) hu dN ho hd he C2 hn ?_ ?_
 .intro mV;have Is:k∉xs.map (·.1):=not_mem_keys_of_get mV;refine ab (jl (ab (wpAny_updateDictKeys (hz:=by have e:=size_of_entries he;lia) (s:={s with toks:=s.toks+knd.draws k}) ho hd (aj (hN (fF mV) _ ⟨_,_,ep+1,cp _ ho<|Obj.isFreed_of_dict<|Obj.data_mapDictKeys hd _,
   hc.mapDictKeys _,Obj.data_mapDictKeys hd _,?_,?_,?_⟩<|cu ..)))))
  .rw[vZ (fF mV)];simp[he,entryOfKey]
  .rw[vZ (fF mV)];intro x hx;rcases a8.mp hx with hx|hx
   .exact knd.keeps (C2 x hx) ho hd<|cu ..
   .simp only[ar]at hx;subst hx;exact knd.keeps dN ho hd<|cu ..
  .rw[vZ (fF mV)];rw[b9,List.nodup_append];refine⟨hn,by simp,?_⟩;intro x hx y hy;simp only[eu,List.map_nil,ar]at hy;subst hy;exact λe=>Is<|e▸hx
 .intro j p hj;refine ab<|eX (s:={s with toks:=s.toks+knd.draws k}) ho hd ?_;rw[entry_at he j,hj];exact ab<|jl<|aj<|hS p<|atKey_of_get hn hj
end
def zm{prog:aK}{w:aO}{K:Type}[DecidableEq K]{knd:HeapKind prog w K}{d a:aF}(hd:(d==bE)=false)(dflt:aA) :
  MeetsIn prog w (Builtin.«dict.setdefault» ⟨[.ref d,.ref a,dflt],[]⟩) (λA R s=>knd.room A.in1/\∃k xs,knd.is s.heap k a/\s.heap.DictOfH knd d xs/\xs.length<=aC/\
   (∀p,iN xs k=some p->R (.ok<|.ret p.2) {s with toks:=s.toks+knd.draws k})/\(iN xs k=none->∀h',h'.DictOfH knd d (BQ xs k a dflt)->b8 d s.heap h'->R (.ok<|.ret dflt) {s with heap:=h',toks:=s.toks+knd.draws k})):=
 .of_wp λA R s ⟨hu,k,xs,dN,hm,hz,h1,h2⟩=>by unfold Builtin.«dict.setdefault»;refine ab ?_;unfold Builtin.Dict.keyAndDefault;refine ab<|uE hm.typeIs ?_;show aG _ _ (aR (d,aA.ref a,some dflt)) _ _ s;refine aj ?_;show aG _ _ (if (d==bE)=true then _ else(oQ d (.ref a) dflt >>= _)) _ _ s;rw[if_neg (by rw[hd];exact am)];exact ab<|abd hu dN hm (λp hp=>aj ⟨p.2,rfl,h1 p hp⟩) (λhn h' uU eS=>aj ⟨dflt,rfl,h2 hn h' uU eS⟩) hz
def aza(td ty tx:TE):TE:=λσ H Q=>td σ H λx H1=>∃a,x=.ref a/\IsD H1 a/\ty σ H1 λy H2=>tx σ H2 λz H3=>∃kvs k b,H3 a=some (.dT kvs)/\y=.ref b/\H3 b=some (.tup<|k.map kV)/\kvs.length<aC/\
 match rs kvs k with|some v=>Q v H3|none=>Q z<|upd H3 a<|.dT<|jE kvs k z
section
variable{X:Cx}{o e f:Expr}{gM eJ:dQ}{td ty tx:TE}
theorem as3(hu:X.A.units+1<bI)(ho:PE X o td)(he:PE X e ty)(hf:PE X f tx)(m:M2 X o "setdefault" gM e f eJ):PE X (.Call (.Attribute o "setdefault" gM) [e,f] [] eJ) (aza td ty tx):=by
 intro aE s σ H Q I h;refine BN m.base m.few m.line PySem.F.plainAttrs_dict PySem.F.slot_dict_setdefault PySem.F.type_dict_setdefault<|thn (ho aE s σ H _ I h) λu s1 ⟨x,H1,I1,rx,a,ex,d,q1⟩=>?_;subst ex;obtain rfl:u=aA.ref a:=rx;obtain⟨t1,t2,_⟩:=apu I1 d;refine⟨t1,t2,?_⟩;rw[m.trees];refine Calls.callWith_builtin rfl (Calls.evalArgs_plain (jp (thn (he aE s1 σ H1 _ I1 q1) λiv s2 ⟨y,H2,I2,ry,q2⟩=>
  jp (thn (hf aE s2 σ H2 _ I2 q2) λfv s3 ⟨z,H3,I3,rz,kvs,k,b,hA,ey,hb,hl,q3⟩=>Calls.spliced_nil ?_))))
 subst ey;cases (show iv=aA.ref b from ry);obtain⟨z1,hd,xs,rel,dd⟩:=KZ I3.hok hA;have hz:xs.length<=aC:=by rw[<-dI.length rel];exact z1
 refine tX PySem.F.slot_dict_setdefault dd.typeIs PySem.F.entry_dict_setdefault (PySem.F.args_dict_setdefault_3 _ _ _) (zm (knd:=fO<|p8 X.prog X.w) hd fv) ⟨ky hu,k,xs,Ae I3.hok hb,dd,hz,λp hp=>?_,λhn h' Bc hs=>?_⟩
 .have rv:=rel.val k;rw[hp]at rv;cases hv:rs kvs k with
  | none=>rw[hv]at rv;exact absurd rv (λz=>by cases z)
  | some v=>
   rw[hv]at rv q3;obtain⟨w',hw,nD⟩:=RelO.some_of rv;cases hw;exact⟨v,H3,I3.tok _,nD,q3⟩
 .have rv:=rel.val k;rw[hn]at rv;cases hv:rs kvs k with
  | some v=>rw[hv]at rv;exact absurd rv (λz=>by cases z)
  | none=>
   rw[hv]at q3;have fJ:(jE kvs k z).length<=aC:=by have:=sd kvs k z;lia
   obtain⟨q,es,ep,hq,h2,h3,h4,_,h5⟩:=Bc;refine⟨z,upd H3 a<|.dT<|jE kvs k z,Gv I3 (ob:=.dT<|jE kvs k z) (by rw[hA];exact True.intro) hs ⟨q,hq⟩ ⟨fJ,hd,_,(rel.put k hb rz).keeps λc ys ec=>?_,q,es,ep,hq,h2,h3,h4,h5⟩,rz,q3⟩;rw[nu (K2 ec hA λz=>nomatch z)];exact ec
end
section
variable{X:Cx}{aE:Z (aF×Obj)}{s:aB}{σ:L2.St}{H:Hp}
theorem u8(hc:X.calm=true):ub X (.builtin "sorted") (λvs H Q=>∃a kvs ks,vs=[.ref a]/\H a=some (.dT kvs)/\(∀kv∈kvs,KOk kv.1)/\Rows ks (kvs.map λkv=>kT kv.1)/\kvs.length<=4000/\
  ∀l ys es,H l=none->es.Perm (kvs.map λkv=>kT kv.1)->es.Pairwise (λx y=>ltR y x=false)->(kvs.map (·.1)).Nodup->RepAll (upd H l<|.lst ys) es ys->Q (.ref l) (upd H l<|.lst ys)):=by
 intro aE s σ H xs us Q I r h;obtain⟨a,kvs,ks,rfl,ha,hko,cP,h4,q⟩:=h;obtain⟨u,rfl,r1⟩:=va r;cases (show u=aA.ref a from r1);obtain⟨hz,lo,xs,kt,o,es,ep,ho,kC,lC,AX,_,kM⟩:=KZ I.hok ha;have pl:∀{l:Z (Z Key×V)} {m:Z (Z Key×aF×aA)},KT H l m->(∀kv∈l,KOk kv.1)->RepAll H (l.map λkv=>kT kv.1) (m.map λx=>V.ref x.2.1)/\Vals (m.map λx=>V.ref x.2.1) (m.map λx=>aA.ref x.2.1)/\m.length=l.length:=by
  intro l m k;induction k with
  | nil=>intro _;exact⟨rfl,.nil,rfl⟩
  | @cons p q ps qs hq t ih=>
   intro hk;obtain⟨i1,i2,i3⟩:=ih λkv eL=>hk kv<|av _ eL;exact⟨⟨_,_,rfl,⟨_,_,rfl,hq.2.1,Ma<|hk p aq⟩,i1⟩,.cons rfl i2,by rw[bp,bp,i3]⟩
 obtain⟨cY,rv,lx⟩:=pl kt hko;have ek:∀{l:Z (Z Key×V)} {m:Z (Z Key×aF×aA)},KT H l m->l.map (·.1)=m.map (·.1):=by
  intro l m k;induction k with
  | nil=>rfl
  | @cons p q ps qs hq t ih=>rw[eu,eu,ih,hq.1]
 rw[<-ek kt]at kM;generalize hys:(xs.map λx=>V.ref x.2.1)=ys at *;generalize tT:(kvs.map λkv=>kT kv.1)=ds at *;have aZ:ds.length=kvs.length:=by rw[<-tT,ae]
 have tN:es.toList.map (·.key)=xs.map λx=>aA.ref x.2.1:=by rw[AX,b7];rfl
 generalize (xs.map λx=>aA.ref x.2.1)=its at *;have esz:es.size=kvs.length:=by rw[<-a0,AX,ae,lx]
 have:=cY.length;refine xn I cY rv cP (by lia) (λQ' E' hq=>PySem.W.kdu_collect (A:=X.A.in1) (azt lo) (I.ok.hd hc) ⟨o,ho,kC,lC⟩ (by rw[cE];lia) λh1 tk acc k1 jK=>?_) λl ys es hl pe up re=>q l ys es hl pe up kM re;have JM:acc.toList=its:=by
  rw[<-tN];apply List.ext_getElem?;intro i;rw[bo,bm,bm];by_cases hi:i<acc.size
  .obtain⟨e,e1,e2⟩:=jK.2 i _<|bz hi;rw[e1,bz hi,e2];rfl
  .rw[kq (by lia),kq<|by have:=jK.1;lia];rfl
 rw[JM];exact hq h1 tk k1
def ade:ub X (.builtin "sorted") (λvs H Q=>∃p xs ds ks,vs=[.ref p]/\SqT X.K H p xs/\RepAll H ds xs/\Rows ks ds/\ds.length<64/\∀l ys,H l=none->RepAll (upd H l<|.lst ys) (rq ds) ys->Q (.ref l) (upd H l<|.lst ys)):=by intro aE s σ H xs us Q I r h;obtain⟨p,xs,ds,ks,rfl,hp,cY,cP,oO,q⟩:=h;obtain⟨u,rfl,r1⟩:=va r;cases (show u=aA.ref p from r1);obtain⟨its,rv,pl,hz⟩:=I.tuple hp;have l2:xs.length=its.length:=rv.length;obtain⟨o,ho,hc,n,hd⟩:=pl;refine xn I cY rv cP (by lia) (λQ' E' hq=>wpAny_collect_seq p (.inr rfl) ho hc hd (λh' k=>hq h' _ k)<|by rw[bj];lia) λl ys es hl pe up re=>?_;rw[aff cP pe up]at re;exact q l ys hl re
end
end L3
namespace L3
open PySem
open AutoSeq1 (wpAny_loadPart')
def alv:jP (.type "list_reverseiterator") "__len__" = aR none:=by rw[gE,dP];kernel_rfl
def ajk:jP (.type "list_reverseiterator") "__length_hint__" = aR (some<|.builtin "list_reverseiterator.__length_hint__"):=by rw[gE,dP];kernel_rfl
section
variable{prog:aK}{w:aO}{A:Around}{E:aA->aB->Prop}{s:aB}
def an1{I l:aF}{i:Int}{Q:Bool->aB->Prop}(eR:s.heap.IsRevIter I l i)(h:Q false s):aG (aH prog w) A (Builtin.List.listLengthHint<|.ref I) Q E s:=by
 obtain⟨o,ho,hc,hd⟩:=id eR;have hT:s.TypeIs (.ref I) "list_reverseiterator":=⟨o,ho,hc⟩;unfold Builtin.List.listLengthHint;refine ab<|j5 (T:="list_reverseiterator") (v:=.ref I) hT alv ?_;refine(ab (j5 (T:="list_reverseiterator") (v:=.ref I) hT ajk ?_):aG _ _ (specialOf (.ref I) "__length_hint__" >>= _) _ _ _)
 wp_delta
 refine ab<|kj (T:="list_reverseiterator") (v:=.ref I) (b:=true) hT (by rw[oE];kernel_rfl) ?_;exact aj h
def ajh{R:jY->aB->Prop}{I l:aF}{items:Array aA}(hh:A.handled=none)(eR:s.heap.IsRevIter I l ((items.size:Int)-1))(hl:s.heap.IsList l items)(fI:l≠I)(hz:items.size<=aC)
  (S:aF) (res:aA) (c₀:Nat) (hS:s.heap.get? S=some {cls:=.type "list",data:=.seq #[] c₀}) (Fm:S≠l)
  (hR:∀h' tk eK c',(∀b o,b≠S->b≠I->s.heap.get? b=some o->h'.get? b=some o)->h'.get? S=some {cls:=.type "list",dict:=none,data:=.seq eK c',slots:=#[]}->
   Er (λi v=>items[items.size-1-i]?=some v) eK items.size->R (.ok<|.ret res) {s with heap:=h',toks:=tk}) :
  aG (aH prog w) A.in1 (i8 (.ref S) (.ref I) res)
   (λfin s'=>match fin with|.done f=>R (.ok f) s'|.again c'=>c'.quiet=true/\cL (aH prog w) A c' R s') (λe s'=>R (.error e) s') s:=by
 obtain⟨o,ho,hc,hd⟩:=id eR;have hT:s.TypeIs (.ref I) "list_reverseiterator":=⟨o,ho,hc⟩;have Fo:S≠I:=λe=>by rw[e,ho]at hS;cases hS;exact absurd (show aA.type "list" = aA.type "list_reverseiterator" from hc)<|by decide
 have nM:S∉[I,l]:=λhm=>by
  rcases a7.mp hm with z|z
  .exact Fo z
  .exact Fm<|ar.mp z
 have W:=(tH.listRev (prog:=prog) (w:=w) (A:=A.in1) hh I l fI items).toS;unfold i8;refine ab<|dC (T:="list_reverseiterator") hT ?_;have h1:Builtin.List.listSameRef (.ref S) (.ref I)=false:=by simp[Builtin.List.listSameRef,Fo]
 have h2:(aA.type "list_reverseiterator" == aA.type "list")=false:=by decide
 have h3:(aA.type "list_reverseiterator" == aA.type "tuple")=false:=by decide
 simp only[h1,h2,h3,Bool.or_false,a9,if_false];refine ab<|wpAny_pyIter_revIter eR ?_;refine ab<|gm<|an1 eR ?_;refine wpAny_ite_split (λlD=>absurd lD<|by decide) λ_=>aj ⟨jt F.plain_extend_loop _,?_⟩;refine codeAny_extend_loopS W hz S nM res items.size 0 _ #[] c₀ rfl (f8 _) ⟨f8 _,by simpa using eR,hl⟩ hS (Er.nil _) λs' eK c' hm jB jK=>?_;rw[Moved.eq_with hm];refine hR s'.heap s'.toks eK c' (λb ob hb kQ e=>hm.heap b ob (λhmem=>?_) e) jB jK;rcases a7.mp hmem with e'|hmem
 .exact hb e'
 .exact kQ<|ar.mp hmem
def adk{R:jY->aB->Prop}{I l:aF}{items:Array aA}(hh:A.handled=none)(eR:s.heap.IsRevIter I l ((items.size:Int)-1))(hl:s.heap.IsList l items)(fI:l≠I)(hz:items.size<=aC)
  (S:aF) (hS:s.heap.get? S=some {cls:=.type "list",data:=.seq #[]}) (Fm:S≠l)
  (hR:∀h' tk eK c',(∀b o,b≠S->b≠I->s.heap.get? b=some o->h'.get? b=some o)->h'.get? S=some {cls:=.type "list",dict:=none,data:=.seq eK c',slots:=#[]}->
   Er (λi v=>items[items.size-1-i]?=some v) eK items.size->R (.ok<|.ret .none) {s with heap:=h',toks:=tk}) :
  aG (aH prog w) A.in1 (Builtin.«list.__init__» ⟨[.ref S,.ref I],[]⟩)
   (λfin s'=>match fin with|.done f=>R (.ok f) s'|.again c'=>c'.quiet=true/\cL (aH prog w) A c' R s') (λe s'=>R (.error e) s') s:=by
 have Fo:S≠I:=λe=>by obtain⟨o,ho,hc,_⟩:=eR;rw[e,ho]at hS;cases hS;exact absurd (show aA.type "list" = aA.type "list_reverseiterator" from hc)<|by decide
 show aG _ _ (do let old <-Builtin.List.listItems (.ref S);Builtin.List.listUpdate (.ref S) (λ_=>#[]);letGo old.toList.reverse;i8 (.ref S) (.ref I) .none) _ _ s;refine ab ?_;unfold Builtin.List.listItems;refine ab<|jc hS rfl<|aj ?_;show aG _ _ (iP S (λ_=>#[]) >>= λ_=>letGo (#[]:Array aA).toList.reverse >>= λ_=>i8 (.ref S) (.ref I) .none) _ _ s;refine ab<|k5 hS rfl ?_;have Fj:=cp (jo λ_=>(#[]:Array aA)) hS rfl;have oth:∀b o,b≠S->s.heap.get? b=some o->(s.heap.update S<|jo λ_=>(#[]:Array aA)).get? b=some o:=
  λb o hb e=>(dq _ _<|Ne.symm hb).trans e
 refine ab<|dW ?_;refine ajh hh (eR.at λo e=>oth _ o (Ne.symm Fo) e) (hl.at λo e=>oth _ o (Ne.symm Fm) e) fI hz S .none _ Fj Fm λh' tk eK c' hk jB jK=>?_;exact hR h' tk eK c' (λb o hb kQ e=>hk b o hb kQ<|oth b o hb e) jB jK
def acw{Q:aA->aB->Prop}{I l:aF}{items:Array aA}(hh:A.handled=none)(eR:s.heap.IsRevIter I l ((items.size:Int)-1))(hl:s.heap.IsList l items)(fI:l≠I)(hz:items.size<=aC)
  (hQ:∀h' tk eK c',(∀b o,b≠I->s.heap.get? b=some o->h'.get? b=some o)->
   h'.get? s.heap.objs.size=some {cls:=.type "list",dict:=none,data:=.seq eK c',slots:=#[]}->Er (λi v=>items[items.size-1-i]?=some v) eK items.size->Q (.ref s.heap.objs.size) {s with heap:=h',toks:=tk}) :
  aG (aH prog w) A (call (.type "list") [.ref I]) Q E s:=by
 have wS:l<s.heap.objs.size:=by obtain⟨o,ho,_⟩:=hl;exact bi ho
 refine callType_codes (Q₁:=λobj s₁=>obj=.ref s.heap.objs.size/\s₁={s with heap:=s.heap.push {cls:=.type "list",data:=.seq #[]}}) F.called_list (F.typeCall_list_1 _) F.entry_list_init
  (code_list_new _ ⟨rfl,rfl⟩) λobj s₁ h₁=>?_
 obtain⟨rfl,rfl⟩:=h₁;have hS:(s.heap.push {cls:=.type "list",data:=.seq #[]}).get? s.heap.objs.size=some {cls:=.type "list",data:=.seq #[]}:=bh _ rfl;refine⟨⟨_,hS,rfl⟩,F.args_list_init_2 _ _,adk (A:=A.in1) hh (eR.at λo e=>ak _ e) (hl.at λo e=>ak _ e) fI hz _ hS (Nat.ne_of_gt wS) λh' tk eK c' hk jB jK=>?_⟩;exact⟨rfl,hQ h' tk eK c' (λb o hb e=>hk b o (da<|bi e) hb<|ak _ e) jB jK⟩
end
end L3
namespace L3
open PySem PySem.Spec PyProof.Rows L2
def ans:Z V->Hp->VK->Prop:=λvs H Q=>∃(p:aF)(xs:Z V),vs=[.ref p]/\H p=some (.lst xs)/\∀l,H l=none->Q (.ref l) (upd H l<|.lst xs.reverse)
section
variable{X:Cx}{e:Expr}{p p2 pos nF:dQ}{t:TA}
def ai7(hc:X.calm=true)(hg:Gl X "list")(hm:X.mg "list" = none)(IU:Gl X "reversed")(pZ:X.mg "reversed" = none)(ha:PA X [e] t)(h1:nw e=true:=by rfl) :
  PE X (.Call (.Name "list" p) [.Call (.Name "reversed" p2) [e] [] nF] [] pos) (tCB ans t):=by
 intro aE s σ H Q I h;refine iz (uz I hg hm sU ?_ (by decide)<|by decide);refine ft ?_ (ou rfl) rfl;rw[ou rfl];show aG _ _ (BU ((false,bX (.Call (.Name "reversed" p2) [e] [] nF) X.env)::cV pos (aU [] X.env))) _ _ s;refine jp ?_;refine iz (uz I IU pZ boot_reversed ?_ (by decide)<|by decide);refine ft (thn (ha nF aE s σ H _ I h) λus s1 ⟨vs,H1,I1,r1,q1⟩=>?_) (ou h1) rfl;obtain⟨pl,xs,rfl,hp,q⟩:=q1;obtain⟨u,rfl,ru⟩:=va r1;cases (show u=aA.ref pl from ru);obtain⟨z,its,n,rv,hl,e1⟩:=I1.lstM hp;have l2:xs.length=its.length:=rv.length;refine call_reversed_list ⟨_,e1,rfl,n,rfl⟩ ?_;refine Calls.spliced_nil ?_;have iE:pl<s1.heap.objs.size:=bi e1;have eR:Heap.IsRevIter (s1.heap.push<|revObj pl<|(its.toArray.size:Int)-1) s1.heap.objs.size pl ((its.toArray.size:Int)-1):=⟨_,bh _ rfl,rfl,rfl⟩;have hLs:Heap.IsList (s1.heap.push<|revObj pl<|(its.toArray.size:Int)-1) pl its.toArray:=⟨_,ak _ e1,rfl,n,rfl⟩;have hsz:(s1.heap.push<|revObj pl<|(its.toArray.size:Int)-1).objs.size=s1.heap.objs.size+1:=Heap.size_push ..;refine acw (I1.ok.hd hc) eR hLs (da iE) (by rw[bj];omega) λh' tk eK c' kp e2 jK=>?_;have hn:H1 (s1.heap.objs.size+1)=none:=I1.hok.fresh<|Nat.le_succ _;have hv:Vals xs.reverse eK.toList:=by
  refine am4 ?_ λi y u' h1 h2=>?_
  .have h5:eK.size=its.toArray.size:=jK.1;have h6:its.toArray.size=its.length:=bj;have h7:eK.toList.length=eK.size:=a0;rw[List.length_reverse,h7,h5,h6];exact l2
  .have hi:i<xs.length:=by have:=(af.mp h1).1;rwa [List.length_reverse]at this
   rw[List.getElem?_reverse hi]at h1;have h3:=jK.2 i u' (by simpa using h2);obtain⟨u2,a1,a2⟩:=rv.get h1;have h3':its[its.length-1-i]?=some u':=by simpa using h3
   rw[<-l2,a1]at h3';cases h3';exact a2
 rw[hsz]at e2;rw[hsz];refine⟨.ref<|s1.heap.objs.size+1,_,I1.laid (t':=tk) (o:=.lst xs.reverse) (λb o hb=>kp b o (da<|bi hb)<|ak _ hb) (Nat.le_succ _) ⟨by rw[List.length_reverse];omega,eK.toList,c',hv,by simpa using e2⟩,rfl,q _ hn⟩
end
end L3
namespace K16
open PySem PyProof.Rows L2 L3
noncomputable def top(i:Nat):aX:=PySem.Challenge.pw_coverpieces_k16_judged_in_order.main.body.getD i<|.Pass ⟨0,0,0,0⟩
noncomputable abbrev Ks:aX:=top 1
noncomputable abbrev Lk:aX:=top 2
noncomputable abbrev sTd:aX:=top 5
noncomputable abbrev J7:aX:=top 6
noncomputable abbrev sTr:aX:=top 7
noncomputable abbrev Ll:aX:=top 8
noncomputable abbrev sAt:aX:=top 12
noncomputable abbrev K7:aX:=top 13
noncomputable abbrev KS:aX:=top 14
noncomputable abbrev K9:aX:=top 15
noncomputable abbrev sOc:aX:=top 16
noncomputable abbrev Lq:aX:=top 17
noncomputable abbrev Ko:aX:=top 19
noncomputable abbrev Kd:aX:=top 20
noncomputable abbrev Kb:aX:=top 21
noncomputable abbrev Kn:aX:=top 22
noncomputable abbrev KE:aX:=top 23
noncomputable abbrev Kc:aX:=top 25
noncomputable abbrev KB:aX:=top 27
noncomputable abbrev J1:aX:=top 28
noncomputable abbrev Kf:aX:=top 29
noncomputable abbrev Kr:aX:=top 30
noncomputable abbrev Kt:aX:=top 31
noncomputable abbrev Ka:aX:=top 32
noncomputable abbrev JX:aX:=top 33
noncomputable abbrev Kl:aX:=top 34
noncomputable abbrev Km:aX:=top 36
noncomputable abbrev KJ:aX:=top 38
noncomputable abbrev J9:aX:=top 39
noncomputable abbrev LV:aX:=top 40
noncomputable abbrev KR:aX:=top 41
noncomputable abbrev sLt:aX:=top 42
noncomputable abbrev LI:aX:=top 43
noncomputable abbrev Kz:aX:=top 44
noncomputable abbrev Lp:aX:=top 45
noncomputable abbrev KM:aX:=top 46
noncomputable abbrev Lc:aX:=top 47
noncomputable abbrev Kg:aX:=top 48
noncomputable abbrev Kq:aX:=top 49
noncomputable abbrev J0:aX:=top 50
noncomputable abbrev Ki:aX:=top 51
noncomputable abbrev KL:aX:=top 52
noncomputable abbrev Kx:aX:=top 53
noncomputable abbrev KC:aX:=top 54
noncomputable abbrev Kk:aX:=top 55
noncomputable abbrev Kh:aX:=top 56
noncomputable abbrev KA:aX:=top 57
noncomputable abbrev Ke:aX:=top 58
noncomputable abbrev KN:aX:=top 59
noncomputable abbrev Bm:aX:=top 60
noncomputable def sv:Z Str:=["len","min","max","sorted","tuple","list","isinstance","bool","range","str","int","enumerate","all","set","zip","reversed"]
def al{H H':Hp}{a:aF}{o:HO}(h:H a=none)(g:upd H a o=H'):Same H H'/\H' a=some o:=by subst g;exact⟨Same.fresh _ h,lr⟩
section
variable{X:Cx}{p pos jG:dQ}{e tg:Expr}{es eI:Z Expr}{t:TA}{x1:Nat}
def pCB{x:Str}{id:String}{r:Z V->Hp->VK->Prop}(hc:ub X (.builtin id) r)(hv:bP x=some (.builtin id))(ha:PA X (e::es) t)(hB:∀x∈sv,X.mg x=none:=by assumption)(hx:x∈sv:=by decide)(hg:Gl X x:=by rfl)(hn:x≠"__name__":=by decide)(mK:(x==("__debug__" : Str))=false:=by decide)(h1:nw e=true:=by rfl)(h2:es.all nw=true:=by rfl):PE X (.Call (.Name x p) (e::es) [] pos) (tCB r t):=ax9 hc hg (hB x hx) hv ha hn mK h1 h2
def pCT{x:Str}{T:String}{r:Z V->Hp->VK->Prop}(hc:ub X (.type T) r)(hv:bP x=some (.type T))(ha:PA X (e::es) t)(hB:∀x∈sv,X.mg x=none:=by assumption)(hx:x∈sv:=by decide)(hg:Gl X x:=by rfl)(hn:x≠"__name__":=by decide)(mK:(x==("__debug__" : Str))=false:=by decide)(h1:nw e=true:=by rfl)(h2:es.all nw=true:=by rfl):PE X (.Call (.Name x p) (e::es) [] pos) (tCB r t):=axw hc hg (hB x hx) hv ha hn mK h1 h2
def pR1(ha:PA X [e] t)(hB:∀x∈sv,X.mg x=none:=by assumption)(hg:Gl X "range":=by rfl)(h:nw e=true:=by rfl):PI X tg (.Call (.Name "range" p) [e] [] pos) (K0 t):=axr hg (hB "range"<|by decide) ha h
def pEL(ha:PA X [e] t)(hB:∀x∈sv,X.mg x=none:=by assumption)(hg:Gl X "enumerate":=by rfl)(h:nw e=true:=by rfl):PI X (.Tuple eI x1 jG) (.Call (.Name "enumerate" p) [e] [] pos) (ay1 X.K t):=au2 hg (hB "enumerate"<|by decide) ha h
def pET(ha:PA X [e] t)(hB:∀x∈sv,X.mg x=none:=by assumption)(hg:Gl X "enumerate":=by rfl)(h:nw e=true:=by rfl):PI X (.Tuple eI x1 jG) (.Call (.Name "enumerate" p) [e] [] pos) (ayv X.K t):=av8 hg (hB "enumerate"<|by decide) ha h
def pES(ha:PA X [e] t)(hB:∀x∈sv,X.mg x=none:=by assumption)(hg:Gl X "enumerate":=by rfl)(h:nw e=true:=by rfl):PI X (.Tuple eI x1 jG) (.Call (.Name "enumerate" p) [e] [] pos) (ay5 t):=at2 hg (hB "enumerate"<|by decide) ha h
end
noncomputable abbrev MX:Int:=2305843009213693951
def Mxs(ns:Z Int)(n:Nat):Prop:=ns.length=n/\∀x∈ns,0<=x/\x<MX
section
variable{P:aK}{w:aO}{K:ax}{mg:Str->Option aA}{base:Heap}{f:aF}{fd:cG}
def Ab:Sp:=λvs H Q _=>∃(c:Int)(n:Nat),vs=[.int c,.int (n:Nat)]/\n<=64/\∀(D:aF)(ns:Z Int)(H':Hp),Mxs ns n->Same H H'->H D=none->H' D=some (.lst<|ns.map V.int)->Q (.ref D) H'
def scMix:mh ["_law_cell","_law_many","_law_found","_law_number","_law_k"] Z5 (lw J9):={}
def au3(B:∀x∈sv,mg x=none)(F:Fun K "_law_mixed" "_law_mixed" J9 f fd):qr P w K mg base CX0 1 f fd Z5 Ab:=by
 refine F.ok (k:=0) scMix (λvs H Q E h=>?_) λbQ A outer s H vs Q E hr h=>?_
 .obtain⟨c,n,rfl,_⟩:=h;rfl
 obtain⟨c,n,rfl,hn,q⟩:=h;refine⟨_,(k9 (psN 2 scMix.nd<|oz k7)
  (k9 (psN 3 scMix.nd<|mj oq (mj Bz (mj oo (pv 0) k8) k8) k8)
  (k9 (pfo (pR1<|lq (pv 1) k7) (pgN 4 scMix.nd) (k9 (psN 3 scMix.nd<|mj oo (mj oq (mj oq (mj arx (pv 3)<|mj oq (pv 3) k8)<|mj Bz k8<|pv 4) k8) k8)
  (lh<|r9<|ww ci fc ff pw (pv 2)<|lq (pv 3) k7)))
  (lh<|ma<|pv 2)))),?_⟩
 refine⟨sZ0,λD hD=>?_⟩;generalize g1:upd H D _=H1 at *;obtain⟨s1,d1⟩:=al hD g1;have d1:H1 D=some (.lst ([]:Z V)):=d1;have E9:=gj c (show(MX:Int)≠0 by decide);have AR:=ig c (show(0:Int)<MX by decide);refine(pj _ rfl _ _ rfl rfl (by show(0:Int)<MX;decide) _ _ ⟨rfl,rfl,.inr ⟨by decide,by decide⟩,(l0 _ _ ⟨rfl,rfl,_,rfl,?_⟩)⟩);have ms:MX=2305843009213693951:=rfl;refine⟨(n:Nat),rfl,by lia,by lia,?_⟩;refine sq (lo:=0) (n:=n) (λi σ' H'=>∃(y4:Option V)(m:Int)(ns:Z Int),σ'=[some (.int c),some<|.int (n:Nat),some<|.ref D,some<|.int m,y4]/\0<=m/\m<2^100/\Mxs ns i/\Same H H'/\H' D=some (.lst<|ns.map V.int)) ?_ (λi σ' H' hi h=>?_) λσ' H' h=>?_
 .refine(m9 _ _ ([]) ⟨rfl,?_,?_,⟨rfl,λx hx=>by cases hx⟩,s1,d1⟩)
  .lia
  .rw[show(2:Int)^100=1267650600228229401496703205376 by decide];lia
 .obtain⟨y4,m,ns,rfl,pZ,hm3,⟨hl,hb⟩,sm,kE⟩:=h;have e100:(2:Int)^100=1267650600228229401496703205376:=by decide
  have e128:(2:Int)^128=340282366920938463463374607431768211456:=by decide
  refine(ni _ rfl _ rfl _ _ rfl rfl _ ⟨_,rfl,rfl,⟨by lia,by lia⟩,(pj _ rfl _ _ rfl rfl (.inl ⟨by decide,by decide⟩) _ _ ⟨rfl,rfl,(qi _ _ rfl rfl _ _ ⟨rfl,rfl,(by show(0:Int)<MX;decide),?_⟩)⟩)⟩);refine(se _ rfl (.inl ⟨rfl,_,SqL.of kE⟩) _ rfl D _ _ ⟨rfl,rfl,kE,mr<|by rw[ae,hl];lia,?_⟩);refine(m9 _ _ (ns++[(m*(m+32452843)+17*(0+(i:Nat))+7) % 2305843009213693951]) ⟨rfl,gj _<|by decide,?_,⟨?_,?_⟩,sm.new hD,?_⟩)
  .have:=ig (m*(m+32452843)+17*(0+(i:Nat))+7) (show(0:Int)<2305843009213693951 by decide);lia
  .rw[au,hl];rfl
  .intro x hx;rcases a8.mp hx with h|h
   .exact hb x h
   .rw[ar.mp h];exact⟨gj _<|by decide,ig _<|by decide⟩
  .rw[lr,b9];rfl
 .obtain⟨y4,m,ns,rfl,pZ,hm3,hx,sm,kE⟩:=h;exact⟨_,rfl,q D ns H' hx sm hD kE⟩
def apd(K:ax):Sp:=λvs H Q _=>∃(a:aF)(ns:Z Int)(k:Int),vs=[.ref a,.int k]/\SqL K H a (ns.map V.int)/\0<=k/\∀c:Int,Q (.int c) H
def aul:mh ZZ ZZ (lw KJ):={}
def aqo(B:∀x∈sv,mg x=none)(F:Fun K "_law_cell_at" "_law_cell_at" KJ f fd):qr P w K mg base CX0 1 f fd ZZ (apd K):=by
 refine F.ok (k:=0) aul (λvs H Q E h=>?_) λbQ A outer s H vs Q E hr h=>?_
 .obtain⟨a,ns,k,rfl,_⟩:=h;rfl
 obtain⟨a,ns,k,rfl,ha,hk,q⟩:=h;refine⟨_,(k9 (qa (m7 vQ (pv 1) (pCB mn cg<|lq (pv 0) k7)<|nr _) (lh<|ma<|pix my (pv 0)<|pv 1) np)
  (lh<|ma k8)),?_⟩
 refine(ni _ rfl _ rfl a _ rfl (.inl ha) _<|ng _ rfl rfl _ ⟨rfl,?_⟩);refine qz (λc=>?_) λc=>?_
 .have c':k<(((ns.map V.int).length:Nat):Int):=of_decide_eq_true c;rw[ae]at c';obtain⟨j,rfl⟩:=Int.eq_ofNat_of_zero_le hk;have hj:j<ns.length:=by lia
  have hv:atI (ns.map V.int) (j:Int)=some (.int ns[j]):=lg (by rw[bo,ah hj];rfl);exact(me _ rfl _ rfl a _ _ ⟨_,rfl,rfl,ha,hv,q _⟩)
 .exact q _
def FU(g:Z U->Z U):Sp:=λvs H Q _=>∃(a:aF)(xs:Z V)(ds:Z U),vs=[.ref a]/\H a=some (.lst xs)/\RepAll H ds xs/\Spots ds/\0<ds.length/\ds.length<=64/\
 ∀(D:aF)(ys:Z V)(H':Hp),Same H H'->H' D=some (.lst ys)->RepAll H' (g ds) ys->Q (.ref D) H'
def scMir:mh ["spots","last"] ["spots"] (lw J7):={}
def scTr:mh ["spots","last"] ["spots"] (lw sTr):={}
def azv(m:Int)(r c:Int)(z:Str)(H':Hp)(Q':VK)(h:∃u v:Int,Bi m (.tuple [.int r,.int c,.str z])=.tuple [.int u,.int v,.str z]/\∀n,H' n=none->Q' (.ref n) (upd H' n<|.tup [.int u,.int v,.str z])) :
  DI (xg (mN 0)<|xg (tOp (rI0 λi j=>.int<|i-j) (mN 3)<|mN 1)<|xg (mN 2) Bl) [some (.int r),some<|.int c,some<|.str z,some<|.int m] H' Q':=by
 obtain⟨u,v,e,q⟩:=h;cases (show PyData.tuple [.int r,.int<|m-c,.str z]=.tuple [.int u,.int v,.str z]from e);exact(oj _ rfl _ rfl _ rfl _ _ ⟨rfl,rfl,_,rfl,sZ3,q⟩)
def azo(m:Int)(r c:Int)(z:Str)(H':Hp)(Q':VK)(h:∃u v:Int,Bh m (.tuple [.int r,.int c,.str z])=.tuple [.int u,.int v,.str z]/\∀n,H' n=none->Q' (.ref n) (upd H' n<|.tup [.int u,.int v,.str z])) :
  DI (xg (mN 1)<|xg (tOp (rI0 λi j=>.int<|i-j) (mN 3)<|mN 0)<|xg (mN 2) Bl) [some (.int r),some<|.int c,some<|.str z,some<|.int m] H' Q':=by
 obtain⟨u,v,e,q⟩:=h;cases (show PyData.tuple [.int c,.int<|m-r,.str z]=.tuple [.int u,.int v,.str z]from e);exact(oj _ rfl _ rfl _ rfl _ _ ⟨rfl,rfl,_,rfl,sZ3,q⟩)
def av1(B:∀x∈sv,mg x=none)(F:Fun K "mirrored" "mirrored" J7 f fd):qr P w K mg base CX0 1 f fd ["spots"] (FU lR):=by
 refine F.ok (k:=0) scMir (λvs H Q E h=>?_) λbQ A outer s H vs Q E hr h=>?_
 .obtain⟨a,xs,ds,rfl,_⟩:=h;rfl
 obtain⟨a,xs,ds,rfl,ha,kY,hs,gJ,oO,q⟩:=h;refine⟨_,(k9 (yq (i:=1) scMir.nd rfl (Or.inr rfl)<|ali rfl rfl (B "max"<|by decide) (lq (pcm ["spot"] [none] (og<|pv 0) (λ_=>(pgC 0)) (λ_=>ow) λ_=>(pix um (pv 0) k8)) k7)<|alr k8 apv)
  (lh<|ma<|pcm ["row","column","sign","last"] [none,none,none,some 1] (og<|pv 0) (λ_=>(qo (n:=3) rfl<|ln (pgC 0)<|ln (pgC 1)<|ln (pgC 2) nc)) (λ_=>ow) λ_=>(mw<|lq (pv 0)<|lq (mj Eb (pv 3)<|pv 1)<|lq (pv 2) k7))),?_⟩
 refine acr 1 uh av2 rfl ha kY hs oO λD1 H1 s1 kE=>?_;refine⟨rfl,(l0 D1 _ ⟨rfl,kE,by rw[ae];exact gJ,λM1 m1 Ce=>?_⟩)⟩;have em:=LA m1 Ce;refine afu Bi rfl rfl (s1 _ _ ha) (kY.same s1) hs oO (azv M1) (λD ys H' hD s2 bD rep=>q D ys H' (s1.trans s2) bD<|by unfold lR;rw[<-em];exact rep) λr c z=>(l0 _ _ rfl)
def ayg(B:∀x∈sv,mg x=none)(F:Fun K "turned_right" "turned_right" sTr f fd):qr P w K mg base CX0 1 f fd ["spots"] (FU mO):=by
 refine F.ok (k:=0) scTr (λvs H Q E h=>?_) λbQ A outer s H vs Q E hr h=>?_
 .obtain⟨a,xs,ds,rfl,_⟩:=h;rfl
 obtain⟨a,xs,ds,rfl,ha,kY,hs,gJ,oO,q⟩:=h;refine⟨_,(k9 (yq (i:=1) scTr.nd rfl (Or.inr rfl)<|ali rfl rfl (B "max"<|by decide) (lq (pcm ["spot"] [none] (og<|pv 0) (λ_=>(pgC 0)) (λ_=>ow) λ_=>(pix um (pv 0) k8)) k7)<|alr k8 apv)
  (lh<|ma<|pcm ["row","column","sign","last"] [none,none,none,some 1] (og<|pv 0) (λ_=>(qo (n:=3) rfl<|ln (pgC 0)<|ln (pgC 1)<|ln (pgC 2) nc)) (λ_=>ow) λ_=>(mw<|lq (pv 1)<|lq (mj Eb (pv 3)<|pv 0)<|lq (pv 2) k7))),?_⟩
 refine acr 0 sy atn rfl ha kY hs oO λD1 H1 s1 kE=>?_;refine⟨rfl,(l0 D1 _ ⟨rfl,kE,by rw[ae];exact gJ,λM1 m1 Ce=>?_⟩)⟩;have em:=LA m1 Ce;refine afu Bh rfl rfl (s1 _ _ ha) (kY.same s1) hs oO (azo M1) (λD ys H' hD s2 bD rep=>q D ys H' (s1.trans s2) bD<|by unfold mO;rw[<-em];exact rep) λr c z=>(l0 _ _ rfl)
noncomputable def iter(i:Nat)(ds:Z U):Z U:=(e8 i).foldl (λa _=>mO a) ds
def Mh(i:Nat)(ds:Z U):iter (i+1) ds=mO (iter i ds):=by unfold iter;rw[j6,List.foldl_append];rfl
def ay4:Sp:=λvs H Q _=>∃(a:aF)(t:Nat)(xs:Z V)(ds:Z U),vs=[.ref a,.int (t:Nat)]/\(H a=some (.lst xs)\/H a=some (.tup xs))/\RepAll H ds xs/\Spots ds/\0<ds.length/\ds.length<=64/\t<8/\
 ∀(r:aF)(H':Hp)(es:Z U),Same H H'->es.Perm (xu t ds)->es.Pairwise (λx y=>ltR y x=false)->Rep H' (.tuple es) (.ref r)->Q (.ref r) H'
def scTd:mh ["form","t","spots","step"] ["form","t"] (lw sTd):={}
def awy(B:∀x∈sv,mg x=none)(Mz:Fn P w K mg base "mirrored" 1 ["spots"] (FU lR))(Ftr:Fn P w K mg base "turned_right" 1 ["spots"] (FU mO))(F:Fun K "turned" "turned" sTd f fd):qr P w K mg base CX0 2 f fd ["form","t"] ay4:=by
 refine F.ok (k:=1) scTd (λvs H Q E h=>?_) λbQ A outer s H vs Q E hr h=>?_
 .obtain⟨a,t,xs,ds,rfl,_⟩:=h;rfl
 obtain⟨a,t,ys,ds,rfl,ha,Hd,E6,gJ,oO,ht,q⟩:=h;refine⟨_,(k9 (psN 2 scTd.nd<|pCT wj sU<|lq (pv 0) k7)
  (k9 (qa (m7 auu (pv 1) k8<|nr _) (lh<|psN 2 scTd.nd<|pfn Mz<|lq (pv 2) k7) np)
  (k9 (pfo (pR1<|lq (mj oo (pv 1) k8) k7) (pgN 3 scTd.nd)<|lh<|psN 2 scTd.nd<|pfn Ftr<|lq (pv 2) k7)
  (lh<|ma<|pCT ot bU<|lq (pCB aab kg<|lq (pv 2) k7) k7)))),?_⟩
 refine(nj _ rfl a ys ⟨rfl,ha.imp SqL.of SqT.of,λD xE=>?_⟩);have sm:Same H (upd H D<|.lst ys):=Same.fresh _ xE;have bD:upd H D (.lst ys) D=some (.lst ys):=lr;have rep:=Hd.same sm;generalize upd H D (.lst ys)=H2 at *;refine(m8 _ rfl _ _ rfl rfl _ ⟨rfl,?_⟩);refine qz (λh4=>?ga) λh4=>?gb
 case' ga=>
  have zN:4<=t:=by have:(t:Int)>=4:=of_decide_eq_true h4
                   lia
  refine(ph _ rfl D ys ds ⟨rfl,bD,rep,E6,gJ,oO,λD ys H3 s3 bD rep=>?_⟩)
  replace sm:=sm.trans s3
  obtain⟨jD,e1⟩:∃d,d=(if 4<=t then lR ds else ds):=⟨_,rfl⟩;have e2:jD=lR ds:=by rw[e1,if_pos zN]
  rw[<-e2]at rep;have Aw:Spots jD:=by rw[e2];exact ajx E6 _
  have l1:jD.length=ds.length:=by rw[e2];simp[lR]
  generalize H3=H2 at *
 case' gb=>
  have zN:¬4<=t:=by have:¬(t:Int)>=4:=by simpa using h4
                    lia
  obtain⟨jD,e1⟩:∃d,d=(if 4<=t then lR ds else ds):=⟨_,rfl⟩;have e2:jD=ds:=by rw[e1,if_neg zN]
  rw[<-e2]at rep;have Aw:Spots jD:=by rw[e2];exact E6
  have l1:jD.length=ds.length:=by rw[e2]
 all_goals
  refine(ur _ rfl _ _ rfl rfl (by show(0:Int)<4;decide) _ ⟨rfl,by lia,by lia,?_⟩);refine sq (lo:=0) (λi σ' H'=>∃(y3:Option V)(D:aF)(ys:Z V),σ'=[some (.ref a),some<|.int (t:Nat),some<|.ref D,y3]/\Same H H'/\H' D=some (.lst ys)/\RepAll H' (iter i jD) ys/\Spots (iter i jD)/\(iter i jD).length=ds.length) ?_ (λi σ' H' hi h=>?_) λσ' H' h=>?_
  .exact(m9 _ D ys ⟨rfl,sm,bD,rep,Aw,l1⟩)
  .obtain⟨y3,D,ys,rfl,sm,bD,rep,sp,hl⟩:=h;refine(ph _ rfl D ys _ ⟨rfl,bD,rep,sp,by lia,by lia,λD2 xX H3 s3 jC dM=>?_⟩);refine(m9 _ D2 xX ⟨rfl,sm.trans s3,jC,by rw[Mh];exact dM,by rw[Mh];exact ak7 sp _,by rw[Mh];simp[mO,hl]⟩)
  .obtain⟨y3,D,ys,rfl,sm,bD,rep,sp,hl⟩:=h;have et:(((t:Nat):Int) % 4).toNat=t % 4:=by lia
   rw[et]at rep sp hl;refine(lj _ rfl D ys _ ([true,false]) ⟨rfl,bD,rep,wo sp,λl zs es iX pe ue hz=>?_⟩);refine(l0 l zs ⟨rfl,.inl ⟨SqL.of lr,λl2 fJ=>?_⟩⟩);have s1:Same H' (upd H' l<|.lst zs):=Same.fresh _ iX;have s2:Same (upd H' l<|.lst zs) (upd (upd H' l<|.lst zs) l2<|.tup zs):=Same.fresh _ fJ;refine q l2 _ es ((sm.trans s1).trans s2) ?_ ue<|l0 l2 zs ⟨rfl,lr,hz.same s2⟩;rw[show xu t ds=iter (t % 4) jD by rw[e1];rfl];exact pe
def zY(m:Str)(n:Nat):Prop:=(m="still"/\n=1)\/(m="turn"/\n=4)\/(m="flip"/\n=8)
def KH(P:aK)(w:aO)(K:ax)(mg:Str->Option aA):Prop:=∃aD oD kvs,mg "TURNINGS_BY_MODE" = some (.ref aD)/\K.lookup aD=some oD/\oD.IsDictOf (strKind P w) kvs/\∀m n,zY m n->∃t,fV kvs m=some (.int (n:Nat) t)
def amn:Sp:=λvs H Q _=>∃(r:aF)(m:Str)(n:Nat)(xs:Z V)(es:Z U),vs=[.ref r,.str m]/\H r=some (.tup xs)/\RepAll H es xs/\Zr es/\zY m n/\
 ∀(l:aF)(ys:Z V)(ds:Z U)(H':Hp),Same H H'->H l=none->H' l=some (.lst ys)->ds.Nodup->(∀d,d∈ds↔d∈r6 es n)->RepAll H' (xq ds) ys->Q (.ref l) H'
def arm:mh ZY ZY (lw Ll):={}
theorem ant(B:∀x∈sv,mg x=none)(hM:KH P w K mg)(Ftd:Fn P w K mg base "turned" 2 ["form","t"] ay4)
  (F:Fun K "forms_of" "forms_of" Ll f fd):qr P w K mg base CX0 3 f fd ZY amn:=by
 obtain⟨aD,oD,kvs,hD,hL,hI,hV⟩:=hM;refine F.ok (k:=2) arm (λvs H Q E h=>?_) λbQ A outer s H vs Q E hr h=>?_
 .obtain⟨r,m,n,xs,es,rfl,_⟩:=h;rfl
 obtain⟨r,m,n,xs,es,rfl,yL,rep,hz,hm,q⟩:=h;have hu:=hr.units;obtain⟨tk,hv⟩:=hV m n hm;refine⟨_,(lh<|ma<|zk rfl hu rfl (B "sorted"<|by decide) rfl (B "set"<|by decide)<|lq (pcm ["t","form"] [none,some 0] (pR1<|lq (pix ar1 (aia hD rfl)<|pv 1) k7) (λ_=>(pgC 0)) (λ_=>ow) λ_=>(pfn Ftd<|lq (pv 1)<|lq (pv 0) k7)) k7),?_⟩;refine(lj _ rfl aD m oD kvs<|l0 n tk ⟨rfl,rfl,hL,hI,hv,?_⟩);have hn:n<=8:=by rcases hm with h|h|h<;>lia
 refine⟨(n:Nat),rfl,by lia,by lia,λD xE=>?_⟩;rw[cj];refine zu (lo:=0) (n:=n) (λi ys G=>Same H G/\RepAll G (r6 es i) ys) ⟨Same.fresh _ xE,rfl⟩ (λi ys G hi bD gO p=>?_) λys G bD gO p=>?_
 .obtain⟨p1,p2⟩:=p;refine⟨Agree.set (Agree.refl _) rfl,?_⟩;dsimp only[jN];refine ux ?_;refine(me _ rfl _ rfl r i xs ⟨es,by rw[iw];rfl,.inr<|p1 _ _ yL,rep.same p1,hz.pre.spots,hz.pre.pos,by have:=hz.pre.six;lia,by lia,λr2 H2 e2 s2 pe ue fL=>?_⟩);rw[(hz.turned i).pre.sorted pe ue]at fL;have eG:=s2 _ _ bD;refine qm (by lia) eG gO ⟨(p1.trans s2).new xE,?_⟩;rw[ab6];refine((p2.same s2).snoc fL).tk (Tk.lst eG) (Mg hz λd hd=>?_);rcases a8.mp hd with h|h
  .exact pf d h
  .exact⟨i,(ar.mp h).symm⟩
 .obtain⟨p1,p2⟩:=p;refine(m9 D ys (r6 es n) ⟨rfl,bD,p2,ae8 hz pf,Mj hz pf,by simp[r6];lia,λds l zs kM hmem hl rz=>?_⟩);have IF:H l=none:=by
   cases e:H l with
   | none=>rfl
   | some o=>rw[p1 _ _ e]at hl;cases hl
  exact q l zs ds _ (p1.trans<|Same.fresh _ hl) IF lr kM hmem rz
def Ku(z:Str):z.cps.toList.length=z.length:=by simp[Str.length]
def ok1{c:Nat}(h:c<128):jk (⟨#[c]⟩:Str)=true:=Tx.ok ⟨by show 1<=80;lia,λx hx=>by
 have:x=c:=by simpa using hx
 lia⟩
def Rw(zs:Z Str):Prop:=0<zs.length/\zs.length<=8/\∃wd,0<wd/\wd<=8/\∀z∈zs,(Tx z/\∀c∈z.cps.toList,sgB c=true)/\z.length=wd
def Fl(H:Hp)(a:aF)(zs:Z Str):Prop:=H a=some (.tup<|zs.map V.str)/\Rw zs
def Fl.tx{H:Hp}{a:aF}{zs:Z Str}(h:Fl H a zs):∀z∈zs,Tx z:=λz hz=>by obtain⟨_,_,_,wd,_,_,hw⟩:=h;exact(hw z hz).1.1
noncomputable def tG(r:Nat)(cs:Z Nat):Nat->Z U
 | 0=>[]
 | k+1=>tG r cs k++(match cs[k]? with|some c=>[.tuple [.int r,.int k,.str ⟨#[c]⟩]]|none=>[])
noncomputable def zr(zs:Z Str):Nat->Z U
 | 0=>[]
 | k+1=>zr zs k++(match zs[k]? with|some z=>tG k z.cps.toList z.cps.toList.length|none=>[])
theorem xc(r:Nat)(cs:Z Nat):∀k,Spots (tG r cs k)
 | 0,d,h=>by cases h
 | k+1,d,h=>by
  unfold tG at h;rcases a8.mp h with h|h
  .exact xc r cs k d h
  .cases e:cs[k]? with
   | none=>rw[e]at h;cases h
   | some c=>rw[e]at h;rw[ar.mp h];exact(m9 _ _ _ rfl)
theorem aaz(zs:Z Str):∀k,Spots (zr zs k)
 | 0,d,h=>by cases h
 | k+1,d,h=>by
  unfold zr at h;rcases a8.mp h with h|h
  .exact aaz zs k d h
  .cases e:zs[k]? with
   | none=>rw[e]at h;cases h
   | some z=>rw[e]at h;exact xc _ _ _ d h
def Spots.app{a b:Z U}(h:Spots a)(k:Spots b):Spots (a++b):=λd hd=>(a8.mp hd).elim (h d) (k d)
def acn{r:Nat}{cs:Z Nat}{k c:Nat}(h:cs[k]?=some c):tG r cs (k+1)=tG r cs k++[.tuple [.int r,.int k,.str ⟨#[c]⟩]]:=by show tG r cs k++_=_;rw[h]
def aco{zs:Z Str}{k:Nat}{z:Str}(h:zs[k]?=some z):zr zs (k+1)=zr zs k++tG k z.cps.toList z.cps.toList.length:=by show zr zs k++_=_;rw[h]
def LM:Sp:=λvs H Q _=>∃(a:aF)(zs:Z Str),vs=[.ref a]/\Fl H a zs/\∀(D:aF)(ys:Z V)(H':Hp),Same H H'->H' D=some (.lst ys)->ys.length<=64->RepAll H' (zr zs zs.length) ys->Q (.ref D) H'
def scSpots:mh ["floor","spots","row","signs","column","sign"] Z7 (lw Lq):={}
theorem an6(B:∀x∈sv,mg x=none)(F:Fun K "floor_spots" "floor_spots" Lq f fd):qr P w K mg base CX0 1 f fd Z7 LM:=by
 refine F.ok (k:=0) scSpots (λvs H Q E h=>?_) λbQ A outer s H vs Q E hr h=>?_
 .obtain⟨a,zs,rfl,_⟩:=h;rfl
 obtain⟨a,zs,rfl,hf,q⟩:=h;have htx:=hf.tx;obtain⟨ha,AG,hz8,wd,hw0,HH,hw⟩:=hf;refine⟨_,(k9 (psN 1 scSpots.nd<|oz k7)
  (k9 (pfo (pET<|lq (pv 0) k7) (qb (n:=2) rfl<|ln (pgN 2 scSpots.nd)<|ln (pgN 3 scSpots.nd) nc)<|lh<|pfo (pES<|lq (pv 3) k7) (qb (n:=2) rfl<|ln (pgN 4 scSpots.nd)<|ln (pgN 5 scSpots.nd) nc)<|lh<|r9<|ww ci fc ff pw (pv 1)<|lq (mw<|lq (pv 2)<|lq (pv 4)<|lq (pv 5) k7) k7)
  (lh<|ma<|pv 1))),?_⟩
 refine⟨sZ0,λD hD=>?_⟩;refine(ny _ rfl a ⟨rfl,⟨_,SqT.of<|by rw[nu (qv ha hD)];exact ha⟩,?_⟩);refine Gh (xs:=zs.map V.str) (λi σ' H'=>∃(y2 y3 y4 y5:Option V)(ys:Z V),σ'=[some (.ref a),some<|.ref D,y2,y3,y4,y5]/\Same H H'/\H' D=some (.lst ys)/\RepAll H' (zr zs i) ys/\ys.length<=8*i) ?_ (λi σ' H' h=>?_) (λi x p σ' H' hx hp h=>?_) λσ' H' h=>?_
 .exact(lv _ _ _ _ ([]) ⟨rfl,Same.fresh _ hD,lr,rfl,f8 _⟩)
 .obtain⟨_,_,_,_,_,_,s1,_⟩:=h;exact SqT.of<|s1 _ _ ha
 .obtain⟨y2,y3,y4,y5,ys,rfl,s1,bD,rep,gO⟩:=h;rw[bo]at hx;cases hz:zs[i]? with
  | none=>rw[hz]at hx;cases hx
  | some z=>
   rw[hz]at hx;cases hx;have Hy:=ai hz;have zA:i<zs.length:=(af.mp hz).1;have dR:=(hw z Hy).2;have hL:=Ku z;refine(l7 p _ rfl (SqT.of lr) rfl _ _ rfl _ ⟨_,rfl,rfl,?_⟩);generalize g1:upd H' p _=H2 at *;obtain⟨s2,_⟩:=al hp g1;refine(ny _ rfl z ⟨rfl,(htx z Hy).2,?_⟩);refine arn (z:=z) (λj σ' H3=>∃(y4 y5:Option V)(ys:Z V),σ'=[some (.ref a),some<|.ref D,some<|.int (i:Nat),some<|.str z,y4,y5]/\Same H H3/\H3 D=some (.lst ys)/\RepAll H3 (zr zs i++tG i z.cps.toList j) ys/\ys.length<=8*i+j) ?_ (λj c p3 σ' H3 hc rO h=>?_) λσ' H3 h=>?_
   .refine(m9 _ _ ys ⟨rfl,s1.trans s2,s2 _ _ bD,?_,by lia⟩);show RepAll H2 (zr zs i++[]) ys;rw[fj];exact rep.same s2
   .obtain⟨y4,y5,BG,rfl,s3,jC,dM,lA⟩:=h;have Fc:j<z.cps.toList.length:=(af.mp hc).1;have Da:c<128:=(htx z Hy).2 c (ai hc);refine(l7 p3 _ rfl (SqT.of lr) rfl _ _ rfl _ ⟨_,rfl,rfl,?_⟩);generalize g1:upd H3 p3 _=H4 at *;obtain⟨s4,_⟩:=al rO g1;have pJ:=s4 _ _ jC;refine(ng _ rfl (.inl ⟨rfl,_,SqL.of pJ⟩) _ ⟨rfl,(ny _ rfl _ ⟨rfl,sZ3,λt ht=>?_⟩)⟩);generalize g1:upd H4 t _=H5 at *;obtain⟨s5,t5⟩:=al ht g1;have Dr:=s5 _ _ pJ;refine(m9 D BG (.ref t) ⟨rfl,rfl,Dr,mr<|by lia,?_⟩);have qV:RepAll H5 ((zr zs i++tG i z.cps.toList j)++[.tuple [.int (i:Nat),.int (j:Nat),.str ⟨#[c]⟩]]) (BG++[.ref t]):=((dM.same s4).same s5).snoc (x5 t5<|ok1 Da);rw[bq,<-acn hc]at qV;refine(m9 _ _ (BG++[.ref t]) ⟨rfl,((s3.trans s4).trans s5).new hD,lr,qV.tk (Tk.lst Dr)<|Spots.imm<|Spots.app (aaz _ _)<|xc _ _ _,?_⟩);rw[au,cc];lia
   .obtain⟨y4,y5,BG,rfl,s3,jC,dM,lA⟩:=h;rw[<-aco hz]at dM;exact(lv _ _ _ _ BG ⟨rfl,s3,jC,dM,by lia⟩)
 .obtain⟨y2,y3,y4,y5,ys,rfl,s1,bD,rep,gO⟩:=h;rw[ae]at rep gO;exact⟨_,rfl,q D ys H' s1 bD (by lia) rep⟩
theorem ace(M:Mat)(r:Nat):∀c,c<=M.w->tG r (o7 M r) c=(e8 c).map λk=>FX M r k
 | 0,_=>rfl
 | c+1,h=>by rw[acn (zn (M:=M) (r:=r) (c:=c)<|by lia),ace M r c<|by lia,j6,b9];rfl
theorem zf(M:Mat):∀k,k<=M.h->zr (qy M) k=(e8<|k*M.w).map λi=>FX M (i/M.w) (i % M.w)
 | 0,_=>by simp[zr]
 | k+1,h=>by
  rw[aco (Go (M:=M) (r:=k)<|by lia),zf M k<|by lia];have e:((⟨(o7 M k).toArray⟩:Str).cps.toList)=o7 M k:=by simp
  rw[e,GF,ace M k M.w<|ao _,Nat.add_mul,Nat.one_mul,List.range_add,b9,b7]
  congr 1
  refine gx λc hc=>?_;have jA:c<M.w:=by simpa using hc
  show FX M k c=FX M ((k*M.w+c)/M.w) ((k*M.w+c) % M.w);rw[Ad jA,Ah jA]
def akf{M:Mat}(o:OkM SgP M){z:Str}(h:z∈qy M):(Tx z/\∀c∈z.cps.toList,sgB c=true)/\z.length=M.w:=by
 obtain⟨r,hr,rfl⟩:=aop h;have hs:=aq3 o hr;have hl:(⟨(o7 M r).toArray⟩:Str).length=M.w:=by show(o7 M r).toArray.size=_;rw[bj,GF]
 have hw:=o.w8;have e:((⟨(o7 M r).toArray⟩:Str).cps.toList)=o7 M r:=by simp
 refine⟨⟨⟨by lia,λc hc=>?_⟩,λc hc=>?_⟩,hl⟩
 .rw[e]at hc;exact zX<|hs c hc
 .rw[e]at hc;exact hs c hc
def FlM.fl{H:Hp}{a:aF}{M:Mat}(h:FlM H a M):Fl H a (qy M):=
 ⟨h.1,by rw[ql];exact h.2.h1,by rw[ql];exact h.2.h8,M.w,h.2.w1,h.2.w8,λz hz=>akf h.2 hz⟩
def aum{zs:Z Str}(h:Rw zs):∃M:Mat,zs=qy M/\OkM SgP M:=by
 obtain⟨h1,h8,wd,w1,w8,hz⟩:=h;refine⟨⟨zs.length,wd,λr c=>((zs[r]?.map λz=>z.cps.toList).getD []).getD c 0⟩,?_,⟨h1,h8,w1,w8,λr c hr hc=>?_⟩⟩
 .apply List.ext_getElem?;intro r;by_cases hr:r<zs.length
  .rw[Go (M:=⟨zs.length,wd,_⟩) hr,ah hr];have pV:=hz _<|gp hr;have hl:zs[r].cps.toList.length=wd:=by rw[Ku];exact pV.2
   have e:o7 ⟨zs.length,wd,λr c=>((zs[r]?.map λz=>z.cps.toList).getD []).getD c 0⟩ r=zs[r].cps.toList:=by
    apply List.ext_getElem?;intro c;by_cases hc:c<wd
    .rw[zn (M:=⟨zs.length,wd,λr c=>((zs[r]?.map λz=>z.cps.toList).getD []).getD c 0⟩) hc];show some (((zs[r]?.map λz=>z.cps.toList).getD []).getD c 0)=_;rw[ah hr];show some (zs[r].cps.toList.getD c 0)=_;rw[f9,ah<|by lia];rfl
    .rw[jr (by rw[GF];exact Nat.le_of_not_lt hc),jr<|by lia]
   rw[e]
  .rw[jr (by lia),jr<|by rw[ql];exact Nat.le_of_not_lt hr]
 .have wO:r<zs.length:=hr;have jA:c<wd:=hc;have pV:=hz _<|gp wO;have hl:zs[r].cps.toList.length=wd:=by rw[Ku];exact pV.2
  show sgB (((zs[r]?.map λz=>z.cps.toList).getD []).getD c 0)=true;rw[ah wO];show sgB (zs[r].cps.toList.getD c 0)=true;rw[f9,ah<|by lia];exact pV.1.2 _<|gp _
open Classical in
noncomputable def ddp:Z U->Z U
 | []=>[]
 | x::xs=>if x∈ddp xs then ddp xs else x::ddp xs
theorem ddp_mem:∀{xs:Z U} {d:U},d∈ddp xs↔d∈xs
 | [],d=>Iff.rfl
 | x::xs,d=>by
  have ih:=@ddp_mem xs;unfold ddp;split
  .rename_i h
   rw[a7,ih];exact⟨.inr,λz=>z.elim (λe=>by rw[e];exact ih.mp h) id⟩
  .rw[a7,a7,ih]
theorem Ga:∀(xs:Z U),(ddp xs).Nodup
 | []=>List.nodup_nil
 | x::xs=>by
  unfold ddp;split
  .exact Ga xs
  .rename_i h
   exact jz.mpr ⟨h,Ga xs⟩
theorem akg:∀(xs:Z U),(ddp xs).length<=xs.length
 | []=>ao _
 | x::xs=>by
  have:=akg xs;unfold ddp;split
  .rw[bp];lia
  .rw[bp,bp];lia
noncomputable def FS(es:Z U)(n:Nat):Z U:=xq<|ddp<|r6 es n
def awa{es ds:Z U}{n:Nat}(h:Zr es)(nd:ds.Nodup)(hm:∀d,d∈ds↔d∈r6 es n):xq ds=FS es n:=
 ab5 ((List.perm_ext_iff_of_nodup nd<|Ga _).mpr λd=>(hm d).trans ddp_mem.symm) (Mj h λd hd=>pf d<|(hm d).mp hd)
def ape{es:Z U}{n:Nat}:∀d∈FS es n,∃t,we es t=d:=λd hd=>pf d<|ddp_mem.mp<|(qx _).mem_iff.mp hd
def ap6{es:Z U}{n:Nat}:(FS es n).length<=n:=by
 have:=akg<|r6 es n;unfold FS;rw[zx];have e:(r6 es n).length=n:=by simp[r6]
 lia
def FrmD(d:U):Prop:=∃es,d=.tuple es/\Zr es
theorem FrmD.key{d:U}(h:FrmD d):Bn d/\TT d:=by
 obtain⟨es,rfl,hz⟩:=h;have hd:=ua hz.pre.spots;refine⟨⟨Ai hz.pre.sg,⟨_,rfl⟩,by simp[f7];lia⟩,?_⟩;cases e:es with
 | nil=>have:=hz.pre.pos;rw[e]at this;exact absurd this (by simp)
 | cons d ds=>
  have hs:=hz.pre.sg;rw[e]at hs;obtain⟨r,c,k,rfl,_⟩:=hs d aq;exact(l0 _ _ rfl)
def Ac{es:Z U}{n:Nat}(h:Zr es):∀d∈FS es n,FrmD d:=λd hd=>by obtain⟨t,rfl⟩:=ape d hd;exact⟨_,rfl,vf h t⟩
def KindK(H:Hp)(v:V)(k:Z U×Nat):Prop:=∃b nm u1 u2 m fr xs,v=.ref b/\H b=some (.tup [.str nm,u1,u2,.str m,.ref fr])/\H fr=some (.tup xs)/\RepAll H k.1 xs/\Zr k.1/\zY m k.2
theorem KindK.same{H H':Hp}{v:V}{k:Z U×Nat}(h:KindK H v k)(s:Same H H'):KindK H' v k:=by obtain⟨b,nm,u1,u2,m,fr,xs,rfl,h1,h2,h3,h4,h5⟩:=h;exact(lv b nm u1 u2 m<|l0 fr xs ⟨rfl,s _ _ h1,s _ _ h2,h3.same s,h4,h5⟩)
def KindsK(H:Hp)(kvs:Z V)(ks:Z (Z U×Nat)):Prop:=kvs.length=ks.length/\∀(i:Nat) v k,kvs[i]?=some v->ks[i]?=some k->KindK H v k
theorem KindsK.same{H H':Hp}{kvs:Z V}{ks:Z (Z U×Nat)}(h:KindsK H kvs ks)(s:Same H H'):KindsK H' kvs ks:=⟨h.1,λi v k h1 h2=>(h.2 i v k h1 h2).same s⟩
def PzK(H:Hp)(p:aF)(M:Mat)(ks:Z (Z U×Nat)):Prop:=∃fl kr e kvs,H p=some (.tup [.ref fl,.ref kr,.ref e])/\FlM H fl M/\H kr=some (.tup kvs)/\KindsK H kvs ks/\ks.length<=6
def GB:Sp:=λvs H Q _=>∃a xs ds,vs=[.ref a]/\(H a=some (.lst xs)\/H a=some (.tup xs))/\RepAll H ds xs/\Spots ds/\0<ds.length/\ds.length<64/\∀r H',Same H H'->Rep H' (.tuple<|rq<|oa ds) (.ref r)->Q (.ref r) H'
def scFormed:mh ["_law_spots","_law_top","_law_left"] Z1 (lw LV):={}
def ake(B:∀x∈sv,mg x=none)(F:Fun K "_law_formed" "_law_formed" LV f fd):qr P w K mg base CX0 1 f fd Z1 GB:=by
 refine F.ok (k:=0) scFormed (λvs H Q E h=>?_) λbQ A outer s H vs Q E hr h=>?_
 .obtain⟨a,xs,ds,rfl,_⟩:=h;rfl
 obtain⟨a,xs,ds,rfl,ha,kY,hs,gJ,oO,q⟩:=h;refine⟨_,(k9 (yq (i:=1) scFormed.nd rfl (Or.inr rfl)<|pCB (ael rfl) boot_min<|lq (pcm Z0 [none,none,none] (Bu<|pv 0) (λ_=>(qo (n:=3) rfl<|ln (pgC 0)<|ln (pgC 1)<|ln (pgC 2) nc)) (λ_=>ow) λ_=>(pv 0)) k7)
  (k9 (yq (i:=2) scFormed.nd rfl (Or.inr rfl)<|pCB (ael rfl) boot_min<|lq (pcm Z0 [none,none,none] (Bu<|pv 0) (λ_=>(qo (n:=3) rfl<|ln (pgC 0)<|ln (pgC 1)<|ln (pgC 2) nc)) (λ_=>ow) λ_=>(pv 1)) k7)
  (lh<|ma<|pCT ot bU<|lq (pCB afr kg<|lq (pcm ["_law_row","_law_column","_law_sign","_law_top","_law_left"] [none,none,none,some 1,some 2] (Bu<|pv 0) (λ_=>(qo (n:=3) rfl<|ln (pgC 0)<|ln (pgC 1)<|ln (pgC 2) nc)) (λ_=>ow) λ_=>(mw<|lq (mj Eb (pv 0)<|pv 3)<|lq (mj Eb (pv 1)<|pv 4)<|lq (pv 2) k7)) k7) k7))),?_⟩
 refine acp sy rfl rfl ha kY hs (by lia) (λr c z H' Q' q=>⟨_,rfl,q⟩) λD1 H1 s1 kE=>?_;refine(l0 D1 _ ⟨rfl,kE,by rw[ae];exact gJ,λM1 m1 Ce=>?_⟩);refine acp uh rfl rfl (ha.imp (s1 _ _)<|s1 _ _) (kY.same s1) hs (by lia) (λr c z H' Q' q=>⟨_,rfl,q⟩) λD2 H2 s2 eG=>?_;refine(l0 D2 _ ⟨rfl,eG,by rw[ae];exact gJ,λM2 m2 m2'=>?_⟩);have gT:=s1.trans s2;refine wu (z0 M1 M2) rfl rfl (ha.imp (gT _ _)<|gT _ _) (kY.same gT) hs (by lia) (λr c z H' Q' h=>?_) (λr c z=>(l0 _ _ rfl)) λD ys H3 hD s3 jC dM=>?_
 .obtain⟨u,v,e,q⟩:=h;cases (show PyData.tuple [.int (r-M1),.int<|c-M2,.str z]=.tuple [.int u,.int v,.str z]from e);exact(ni _ rfl _ rfl _ _ rfl rfl _ ⟨rfl,(m8 _ rfl _ _ rfl rfl _ ⟨rfl,sZ3,q⟩)⟩)
 .have e:ds.map (z0 M1 M2)=oa ds:=by unfold oa;rw[xk m1 Ce,xk m2 m2']
  rw[e]at dM;have sp3:Spots (oa ds):=λd hd=>by obtain⟨x,hx,rfl⟩:=ay.mp hd;obtain⟨r,c,z,rfl⟩:=hs x hx;exact(m9 _ _ _ rfl)
  refine(l9 D ys _ ([true,false]) ⟨rfl,jC,dM,wo sp3,by unfold oa;rw[ae];exact oO,λl1 zs iX hz=>?_⟩);refine(l0 l1 zs ⟨rfl,.inl ⟨SqL.of lr,λl2 fJ=>?_⟩⟩);have s4:Same H3 (upd H3 l1<|.lst zs):=Same.fresh _ iX;have s5:Same (upd H3 l1<|.lst zs) (upd (upd H3 l1<|.lst zs) l2<|.tup zs):=Same.fresh _ fJ;exact q l2 _ (((gT.trans s3).trans s4).trans s5)<|l0 l2 zs ⟨rfl,lr,hz.same s5⟩
def ayy:Sp:=λvs H Q _=>∃(a:aF)(t:Nat)(xs:Z V)(ds:Z U),vs=[.ref a,.int (t:Nat)]/\H a=some (.tup xs)/\RepAll H ds xs/\Zr ds/\t<8/\∀r H',Same H H'->Rep H' (.tuple<|rq<|xu t ds) (.ref r)->Q (.ref r) H'
def scLt:mh ["_law_spots","_law_t","_law_quarter"] ZP (lw sLt):={}
def aw0(B:∀x∈sv,mg x=none)(gN:Fn P w K mg base "_law_formed" 1 Z1 GB)(F:Fun K "_law_turned" "_law_turned" sLt f fd):qr P w K mg base CX0 2 f fd ZP ayy:=by
 refine F.ok (k:=1) scLt (λvs H Q E h=>?_) λbQ A outer s H vs Q E hr h=>?_
 .obtain⟨a,t,xs,ds,rfl,_⟩:=h;rfl
 obtain⟨a,t,xs,ds,rfl,ha,rep,hz,ht,q⟩:=h;have hp:=hz.pre.pos;have h6:=hz.pre.six;rw[<-hz.raw t]at q;refine⟨_,(k9 (qa (m7 auu (pv 1) k8<|nr _) (lh<|psC 0 Z0 [none,none,none] scLt.nd (Bu<|pv 0) (λ_=>(qo (n:=3) rfl<|ln (pgC 0)<|ln (pgC 1)<|ln (pgC 2) nc)) (λ_=>ow) λ_=>(mw<|lq (pv 0)<|lq (Aa Aj<|pv 1)<|lq (pv 2) k7)) np)
  (k9 (pfo (pR1<|lq (mj oo (pv 1) k8) k7) (pgN 2 scLt.nd)<|lh<|psC 0 Z0 [none,none,none] scLt.nd (Bu<|pv 0) (λ_=>(qo (n:=3) rfl<|ln (pgC 0)<|ln (pgC 1)<|ln (pgC 2) nc)) (λ_=>ow) λ_=>(mw<|lq (pv 1)<|lq (Aa Aj<|pv 0)<|lq (pv 2) k7))
  (lh<|ma<|pfn gN<|lq (pv 0) k7))),?_⟩
 refine(m8 _ rfl _ _ rfl rfl _ ⟨rfl,?_⟩);refine qz (λh4=>?ga) λh4=>?gb
 case' ga=>
  have zN:4<=t:=by have:(t:Int)>=4:=of_decide_eq_true h4
                   lia
  refine wu ng1 rfl rfl (.inr ha) rep hz.pre.spots (by lia) (λr c z H' Q' h=>?gn) (λr c z=>(l0 _ _ rfl)) λD ys H2 hD sm bD rep=>?ge
  case' gn=>
   obtain⟨u,v,e,q⟩:=h;cases (show PyData.tuple [.int r,.int<|-c,.str z]=.tuple [.int u,.int v,.str z]from e);exact(qg _ rfl _ rfl _ ⟨rfl,_,rfl,sZ3,q⟩)
  case' ge=>
   obtain⟨jD,e1⟩:∃d,d=(if 4<=t then ds.map ng1 else ds):=⟨_,rfl⟩;have e2:jD=ds.map ng1:=by rw[e1,if_pos zN]
   rw[<-e2]at rep;have Aw:Spots jD:=by rw[e2];exact ah8 hz.pre.spots
   have l1:jD.length=ds.length:=by rw[e2,ae]
   have bD:H2 D=some (.lst ys)\/H2 D=some (.tup ys):=.inl bD
 case' gb=>
  have zN:¬4<=t:=by have:¬(t:Int)>=4:=by simpa using h4
                    lia
  obtain⟨jD,e1⟩:∃d,d=(if 4<=t then ds.map ng1 else ds):=⟨_,rfl⟩;have e2:jD=ds:=by rw[e1,if_neg zN]
  rw[<-e2]at rep;have Aw:Spots jD:=by rw[e2];exact hz.pre.spots
  have l1:jD.length=ds.length:=by rw[e2]
  have sm:=Same.refl H;have bD:H a=some (.lst xs)\/H a=some (.tup xs):=.inr ha
 all_goals
  refine(ur _ rfl _ _ rfl rfl (by show(0:Int)<4;decide) _ ⟨rfl,by lia,by lia,?_⟩);refine sq (lo:=0) (λi σ' H'=>∃(y2:Option V)(D:aF)(ys:Z V),σ'=[some (.ref D),some<|.int (t:Nat),y2]/\Same H H'/\(H' D=some (.lst ys)\/H' D=some (.tup ys))/\RepAll H' (vN i jD) ys) ?_ (λi σ' H' hi h=>?_) λσ' H' h=>?_
  .exact(m9 _ _ _ ⟨rfl,sm,bD,rep⟩)
  .obtain⟨y2,D,ys,rfl,sm,bD,rep⟩:=h;refine wu nt1 rfl rfl bD rep (wp Aw i) (by rw[yi];lia) (λr c z H' Q' h=>?_) (λr c z=>(l0 _ _ rfl)) λD2 xX H3 eG s3 jC dM=>?_
   .obtain⟨u,v,e,q⟩:=h;cases (show PyData.tuple [.int c,.int<|-r,.str z]=.tuple [.int u,.int v,.str z]from e);exact(qg _ rfl _ rfl _ ⟨rfl,_,rfl,sZ3,q⟩)
   .exact(m9 _ D2 xX ⟨rfl,sm.trans s3,.inl jC,by rw[yf];exact dM⟩)
  .obtain⟨y2,D,ys,rfl,sm,bD,rep⟩:=h;have et:(((t:Nat):Int) % 4).toNat=t % 4:=by lia
   rw[et]at rep;refine(ph _ rfl D ys _ ⟨rfl,bD,rep,wp Aw _,by rw[yi];lia,by rw[yi];lia,λr H3 s3 dM=>?_⟩);refine q r H3 (sm.trans s3) ?_;rw[show JW t ds=vN (t % 4) jD by rw[e1];rfl];exact dM
seal L2.PE L2.PT L2.PW L2.PA L2.PS L2.PSs L2.PG L2.PGs L2.PI L2.PO
def Mb:Sp:=λvs H Q _=>∃(v:V)(k:Z U×Nat),vs=[v]/\KindK H v k/\∀(l:aF)(ys:Z V)(H':Hp),Same H H'->H l=none->H' l=some (.lst ys)->RepAll H' (FS k.1 k.2) ys->Q (.ref l) H'
def scLforms:mh ["_law_kind","_law_many"] ["_law_kind"] (lw LI):={}
def ari{m:Str}{n:Nat}(h:zY m n):rs (kvI [(bw "still",1),(bw "turn",4),(bw "flip",8)]) (Sum.inr m)=some (.int (n:Nat)):=by rcases h with ⟨rfl,rfl⟩|⟨rfl,rfl⟩|⟨rfl,rfl⟩<;>decide +kernel
theorem aln(B:∀x∈sv,mg x=none)(Flt:Fn P w K mg base "_law_turned" 2 ZP ayy)(F:Fun K "_law_forms" "_law_forms" LI f fd):qr P w K mg base CX0 3 f fd ["_law_kind"] Mb:=by
 refine F.ok (k:=2) scLforms (λvs H Q E h=>?_) λbQ A outer s H vs Q E hr h=>?_
 .obtain⟨v,k,rfl,_⟩:=h;rfl
 obtain⟨v,⟨es,n⟩,rfl,⟨b,nm,u1,u2,m,fr,xs,rfl,hb,mJ,rep,hz,hm⟩,q⟩:=h;have rep:RepAll H es xs:=rep;have hz:Zr es:=hz;have hm:zY m n:=hm;have hu:=hr.units;refine⟨_,(k9 (psN 1 scLforms.nd<|vm (cy (cw (by decide) _) hu) (ao4 oh k8 oh k8 oh k8<|by decide +kernel) (pix mf (pv 0) k8) λ_ _=>rfl)
  (lh<|ma<|zk rfl hu rfl (B "sorted"<|by decide) rfl (B "set"<|by decide)<|lq (pcm ["_law_t","_law_kind"] [none,some 0] (pR1<|lq (pv 1) k7) (λ_=>(pgC 0)) (λ_=>ow) λ_=>(pfn Flt<|lq (pix um (pv 1) k8)<|lq (pv 0) k7)) k7)),?_⟩
 intro dd tT;generalize g1:upd H dd _=H0 at *;obtain⟨s0,d0⟩:=al tT g1;refine(lj _ rfl b _ _ _ ⟨rfl,rfl,SqT.of<|s0 _ _ hb,lg (j:=3) rfl,(l0 dd (.int (n:Nat)) ⟨rfl,by rw[<-ari hm];exact DGet.k (k:=Sum.inr m) d0,?_⟩)⟩);have hn:n<=8:=by rcases hm with h|h|h<;>lia
 refine(ny _ rfl (n:Nat) ⟨rfl,by lia,by lia,λD xE=>?_⟩);rw[cj];refine zu (lo:=0) (n:=n) (λi ys G=>Same H0 G/\RepAll G (r6 es i) ys) ⟨Same.fresh _ xE,rfl⟩ (λi ys G hi bD gO p=>?_) λys G bD gO p=>?_
 .obtain⟨p1,p2⟩:=p;refine⟨Agree.set (Agree.refl _) rfl,?_⟩;dsimp only[jN];refine ux ?_;have sG:=s0.trans p1;refine(lj _ rfl b _ _ _ ⟨rfl,rfl,SqT.of<|sG _ _ hb,lg (j:=4) rfl,(lj _ rfl fr i xs es ⟨by rw[iw];rfl,sG _ _ mJ,rep.same sG,hz,by lia,λr2 H2 s2 fL=>?_⟩)⟩);have eG:=s2 _ _ bD;refine qm (by lia) eG gO ⟨(p1.trans s2).new xE,?_⟩;rw[ab6];refine((p2.same s2).snoc fL).tk (Tk.lst eG) (Mg hz λd hd=>?_);rcases a8.mp hd with h|h
  .exact pf d h
  .exact⟨i,(ar.mp h).symm⟩
 .obtain⟨p1,p2⟩:=p;refine(m9 D ys (r6 es n) ⟨rfl,bD,p2,ae8 hz pf,Mj hz pf,by simp[r6];lia,λds l zs kM hmem hl rz=>?_⟩);have sG:=s0.trans p1;have IF:H l=none:=by
   cases e:H l with
   | none=>rfl
   | some o=>rw[sG _ _ e]at hl;cases hl
  rw[awa hz kM hmem]at rz;exact q l zs _ (sG.trans<|Same.fresh _ hl) IF lr rz
noncomputable abbrev AZ:Str:=bw "ABCDEFGHIJKLMNOPQRSTUVWXYZ"
def axe{i:Nat}(h:i<26):AZ.cps.toList[i]?=some (65+i):=by
 have:∀i<26,AZ.cps.toList[i]?=some (65+i):=by decide +kernel
 exact this i h
def txL{z:Str}(h:z.length<=80/\z.cps.toList.all (· < 128)=true):Tx z:=⟨h.1,λc hc=>by simpa using kh.mp h.2 c hc⟩
def ajt{z:Str}(h:Tx z):z.length<=aC:=fh (mr<|by have:=h.1;lia)
def Ltr(c:Nat):Prop:=65<=c/\c<=90
noncomputable def lG(cs:Z Nat):Z V:=cs.map λc=>V.str ⟨#[c]⟩
def atp:Sp:=λvs H Q _=>∃x:Int,vs=[.int x]/\∀(D:aF)(cs:Z Nat)(H':Hp),cs.length=3->(∀c∈cs,Ltr c)->Same H H'->H D=none->H' D=some (.lst<|lG cs)->Q (.ref D) H'
def scLet:mh ["_law_x","_law_some"] ["_law_x"] (lw Kz):={}
def avm(B:∀x∈sv,mg x=none)(F:Fun K "_law_letters" "_law_letters" Kz f fd):qr P w K mg base CX0 1 f fd ["_law_x"] atp:=by
 refine F.ok (k:=0) scLet (λvs H Q E h=>?_) λbQ A outer s H vs Q E hr h=>?_
 .obtain⟨x,rfl,_⟩:=h;rfl
 obtain⟨x,rfl,q⟩:=h;refine⟨_,(k9 (yq (i:=1) scLet.nd rfl (Or.inr rfl) oh)
  (lh<|ma<|pcm ["_law_k","_law_some","_law_x"] [none,some 1,some 0] (pR1<|lq k8 k7) (λ_=>(pgC 0)) (λ_=>ow) λ_=>(pix Bx (pv 1)<|mj oo (mj oq (pv 2)<|mj Bz (pv 0)<|mj oq k8<|mj oo (mj wg (pv 2) k8) k8) k8))),?_⟩
 refine⟨3,rfl,by decide,by decide,λD hD=>?_⟩;refine zu (lo:=0) (n:=3) (λi zs G=>Same H G/\∃cs:Z Nat,cs.length=i/\(∀c∈cs,Ltr c)/\zs=lG cs) ⟨Same.fresh _ hD,[],rfl,(λc hc=>by cases hc),rfl⟩ (λi zs G hi bD dR p=>?_) λzs G bD dR p=>?_
 .obtain⟨s1,cs,hl,hc,rfl⟩:=p;refine⟨Agree.set (Agree.refl _) rfl,?_⟩;dsimp only[jN];refine ux ?_;refine(qg _ rfl _ rfl _ ⟨rfl,(pj _ rfl _ _ rfl rfl ⟨by decide,by decide⟩ _ _ ⟨rfl,rfl,(by show(0:Int)<8;decide),(qi _ _ rfl rfl _ _ ⟨rfl,rfl,.inl ⟨by lia,by lia⟩,(qi _ _ rfl rfl _ _ ⟨rfl,rfl,(by show(0:Int)<26;decide),?_⟩)⟩)⟩)⟩);obtain⟨m,hm,em⟩:∃m:Nat,m<26/\(x+(0+(i:Nat))*(1+x/26 % 8)) % 26=(m:Nat):=⟨((x+(0+(i:Nat))*(1+x/26 % 8)) % 26).toNat,by lia,by lia⟩;refine(m9 _ _ (65+m) ⟨rfl,rfl,?_,?_,?_⟩)
  .show AZ.length<=aC;exact ajt<|txL<|by decide +kernel
  .show atI _ ((x+(0+(i:Nat))*(1+x/26 % 8)) % 26)=_;rw[em];exact lg<|axe hm
  .refine qm (by lia) bD dR ⟨s1.new hD,cs++[65+m],by rw[au,hl];rfl,λc jA=>?_,by unfold lG;rw[b9];rfl⟩;rcases a8.mp jA with h|h
   .exact hc c h
   .rw[ar.mp h];exact⟨by lia,by lia⟩
 .obtain⟨s1,cs,hl,hc,rfl⟩:=p;exact q D cs G hl hc s1 hD bD
def aow{xs:Z V}{lo hi:Option Int}{x:V}(h:x∈w6 xs lo hi):x∈xs:=by unfold w6 at h;exact gr<|ca h
def LY{xs:Z V}{k:Nat}(hk:k<=xs.length):w6 xs (some (k:Int)) none=xs.drop k:=by unfold w6;rw[HT.sIx_none,HT.sIx_nat,show iA k xs.length=k by lia,aw<|by rw[fg];exact ao _]
def an7(xs:Z V){m:Int}(h0:0<=m)(h1:m<6):(w6 xs (some 1)<|some<|1+m).length<=5:=by unfold w6;rw[bf];unfold HT.sIx;have:∀a b:Nat,iA (a-b) (List.drop b xs).length<=a-b:=λa b=>Nat.min_le_left _ _;refine ie (Nat.min_le_left _ _) ?_;simp only[HT.sIx];split<;>split<;>lia
def ahw{H:Hp}{cs:Z U}{xs:Z V}{i:Nat}{v:V}(h:Cells cs)(r:RepAll H cs xs)(e:xs[i]?=some v):∃(a:aF)(p q:Int),v=.ref a/\H a=some (.tup [.int p,.int q])/\cs[i]?=some (.tuple [.int p,.int q]):=by obtain⟨d,e1,e2⟩:=r.at e;obtain⟨p,q,rfl⟩:=h d<|ai e1;obtain⟨a,e3,e4⟩:=aob e2;exact(m9 a p q ⟨e3,e4,e1⟩)
def apl:Sp:=λvs H Q _=>∃(x:Int)(lt:aF)(cs:Z Nat),vs=[.int x,.ref lt,.int 6]/\H lt=some (.lst<|lG cs)/\cs.length=3/\(∀c∈cs,Ltr c)/\∀(r:aF)(es:Z U)(H':Hp),Same H H'->Zr es->Rep H' (.tuple es) (.ref r)->Q (.ref r) H'
def scForm:mh ["_law_x","_law_letters_here","_law_most","_law_xs","_law_cells","_law_y","_law_cell","_law_step"] Z3 (lw KR):={}
theorem ar2(B:∀x∈sv,mg x=none)(jO:Fn P w K mg base "_law_mixed" 1 Z5 Ab)(gN:Fn P w K mg base "_law_formed" 1 Z1 GB)(F:Fun K "_law_form" "_law_form" KR f fd):qr P w K mg base CX0 2 f fd Z3 apl:=by
 refine F.ok (k:=1) scForm (λvs H Q E h=>?_) λbQ A outer s H vs Q E hr h=>?_
 .obtain⟨x,lt,cs,rfl,_⟩:=h;rfl
 obtain⟨x,lt,cs,rfl,bS,qA,sN,q⟩:=h;have hu:=hr.units;refine⟨_,(k9 (psN 3 scForm.nd<|pfn jO<|lq (pv 0)<|lq k8 k7)
  (k9 (psN 4 scForm.nd<|oz<|lq (mw<|lq k8<|lq k8 k7) k7)
  (k9 (pfo (og<|qj ug (pv 3) (qf k8)<|qf<|mj oq k8<|mj oo (pix my (pv 3) k8)<|pv 2) (pgN 5 scForm.nd) (k9 (psN 6 scForm.nd<|pix my (pv 4)<|mj oo (pv 5)<|pCB mn cg<|lq (pv 4) k7)
  (k9 (psN 7 scForm.nd<|pix my (oz<|lq (mw<|lq k8<|lq k8 k7)<|lq (mw<|lq k8<|lq k8 k7)<|lq (mw<|lq k8<|lq (Aa Aj k8) k7)<|lq (mw<|lq (Aa Aj k8)<|lq k8 k7) k7)<|mj oo (mj wg (pv 5) k8) k8)
  (k9 (psN 6 scForm.nd<|mw<|lq (mj oq (pix mf (pv 6) k8)<|pix mf (pv 7) k8)<|lq (mj oq (pix mf (pv 6) k8)<|pix mf (pv 7) k8) k7)
  (lh<|qa (m7 (vt hu) (pv 6) (pv 4) rfl) (lh<|r9<|ww ci fc ff pw (pv 4)<|lq (pv 6) k7) np)))))
  (lh<|ma<|pfn gN<|lq (pcm ["_law_cell","_law_y","_law_letters_here"] [none,none,some 1] (avy rfl (B "zip"<|by decide)<|lq (pv 4)<|lq (qj ug (pv 3) (qf k8) u9) k7) (λ_=>(qo (n:=2) rfl<|ln (pgC 0)<|ln (pgC 1) nc)) (λ_=>ow) λ_=>(mw<|lq (pix um (pv 0) k8)<|lq (pix um (pv 0) k8)<|lq (pix aof (pv 2)<|mj oo (pv 1)<|pCB ad8 cg<|lq (pv 2) k7) k7)) k7)))),?_⟩
 refine tf λDh gH gU=>?_;refine(nj _ rfl x 13 ⟨rfl,by decide,λX ns H1 ⟨hn13,tP⟩ s1 Dg hX=>?_⟩);refine gH _ _ ?_;clear gH gU Dh;refine tf λDh gH gU=>?_;refine⟨sZ2,λp1 AN=>⟨sZ1,λC hC=>?_⟩⟩;obtain⟨hCp,hCH⟩:=an3 hC;have s2:Same H1 (upd (upd H1 p1<|.tup [.int 0,.int 0]) C<|.lst [.ref p1]):=(Same.fresh _ AN).trans (Same.fresh _ hC);have c2:upd (upd H1 p1<|.tup [.int 0,.int 0]) C (.lst [.ref p1]) C=some (.lst [.ref p1]):=lr;have b2:upd (upd H1 p1<|.tup [.int 0,.int 0]) C (.lst [.ref p1]) p1=some (.tup [.int 0,.int 0]):=by rw[nu (Ne.symm hCp)];exact lr
 generalize upd (upd H1 p1<|.tup [.int 0,.int 0]) C (.lst [.ref p1])=H2 at *;have A4:=s2 _ _ hX;obtain⟨n0,CK⟩:∃n0,ns[0]?=some n0:=⟨_,ah<|by lia⟩;have E9:=gj n0 (show(6:Int)≠0 by decide);have AR:=ig n0 (show(0:Int)<6 by decide);refine gH _ _ ?_;clear gH gU Dh;refine tf λDh gH gU=>?_;refine(oj _ rfl _ rfl _ rfl X _<|aby _ _ rfl rfl (SqL.of A4) (lg (j:=0)<|by rw[bo,CK];rfl) _ rfl _ ⟨_,rfl,rfl,(by show(0:Int)<6;decide),(l0 _ _ ⟨rfl,rfl,(nj _ rfl X _ ⟨rfl,SqL.of A4,λS hS=>?_⟩)⟩)⟩);obtain⟨zs,Hx⟩:∃zs,zs=w6 (ns.map V.int) (some 1) (some<|1+n0 % 6):=⟨_,rfl⟩;have hz5:zs.length<=5:=by rw[Hx];exact an7 _ E9 AR
 have hzI:∀z∈zs,∃y:Int,z=.int y/\0<=y:=λz hz=>by rw[Hx]at hz;obtain⟨y,hy,rfl⟩:=ay.mp<|aow hz;exact⟨y,rfl,(tP y hy).1⟩
 have s3:Same H2 (upd H2 S<|.lst zs):=Same.fresh _ hS;have l3:upd H2 S (.lst zs) S=some (.lst zs):=lr;have nSC:S≠C:=λe=>by rw[e,c2]at hS;cases hS
 rw[<-Hx];generalize upd H2 S (.lst zs)=H3 at *;have sA:=(s1.trans s2).trans s3;have hCn:H C=none:=s1.free hCH;refine⟨S,rfl,⟨_,SqL.of l3⟩,?_⟩;refine qc (xs:=zs) (λi σ' G=>∃(y5 y6 y7:Option V)(xs:Z V)(ds:Z U),σ'=[some (.int x),some<|.ref lt,some<|.int 6,some<|.ref X,some<|.ref C,y5,y6,y7]/\Ex [C] H3 G/\G C=some (.lst xs)/\RepAll G ds xs/\Cells ds/\(ds.map cl).Nodup/\0<ds.length/\ds.length<=i+1) ?_ (λi σ' G hi h=>?_) (λi v σ' G hv h=>?_) λσ' G h=>?_
 .refine(lv _ _ _ _ ([.tuple [.int 0,.int 0]]) ⟨rfl,Ex.refl _ _,s3 _ _ c2,(l0 _ _ ⟨rfl,qk<|s3 _ _ b2,rfl⟩),λd hd=>?_,by simp,by simp,by simp⟩);rw[ar.mp hd];exact(l0 0 0 rfl)
 .obtain⟨_,_,_,_,_,_,ex,_⟩:=h;exact SqL.of<|ex.at nSC l3
 .obtain⟨y5,y6,y7,xs,ds,rfl,ex,hG,rep,lN,kM,gJ,aZ⟩:=h;obtain⟨y,rfl,EX⟩:=hzI v<|ai hv;have hi5:i<5:=ck (af.mp hv).1 hz5;have hxl:=rep.length;have k0:=gj y (show((xs.length:Nat):Int)≠0 by lia);have k1:=ig y (show(0:Int)<(xs.length:Nat) by lia);obtain⟨j,ej⟩:∃j:Nat,y % ((xs.length:Nat):Int)=(j:Nat):=⟨(y % ((xs.length:Nat):Int)).toNat,by lia⟩;have hj:j<xs.length:=by lia
  obtain⟨b,r,c,hvb,hb,lC⟩:=ahw lN rep<|ah hj;refine aju λDh gH gU=>?_;refine(oj _ rfl _ rfl _ rfl C xs ⟨rfl,.inl<|SqL.of hG,(r8 _ _ rfl rfl (by lia) C xs _ ⟨.ref b,rfl,rfl,SqL.of hG,?_,?_⟩)⟩)
  .show atI xs (y % ((xs.length:Nat):Int))=_;rw[ej];exact lg<|by rw[ah hj,hvb]
  refine gH _ _ ?_;clear gH gU Dh;refine tf λDh gH gU=>?_;refine⟨sZ2,λq1 pC=>⟨sZ2,λq2 nI=>?_⟩⟩;refine⟨_,rfl,sZ2,λq3 HZ=>?_⟩;refine⟨_,rfl,sZ2,λq4 HY=>⟨sZ4,λq5 HX=>?_⟩⟩;have u1:upd G q1 (.tup [.int 0,.int 1]) q1=some (.tup [.int 0,.int 1]):=lr;generalize g1:upd G q1 _=G1 at *;obtain⟨t1,_⟩:=al pC g1;clear g1;have u2:upd G1 q2 (.tup [.int 1,.int 0]) q2=some (.tup [.int 1,.int 0]):=lr;generalize g1:upd G1 q2 _=G2 at *;obtain⟨t2,_⟩:=al nI g1;clear g1;have u3:upd G2 q3 (.tup [.int 0,.int<|-1]) q3=some (.tup [.int 0,.int<|-1]):=lr;generalize g1:upd G2 q3 _=G3 at *;obtain⟨t3,_⟩:=al HZ g1;clear g1;have u4:upd G3 q4 (.tup [.int (-1),.int 0]) q4=some (.tup [.int (-1),.int 0]):=lr;generalize g1:upd G3 q4 _=G4 at *;obtain⟨t4,_⟩:=al HY g1;clear g1;have u5:upd G4 q5 (.lst [.ref q1,.ref q2,.ref q3,.ref q4]) q5=some (.lst [.ref q1,.ref q2,.ref q3,.ref q4]):=lr;generalize g1:upd G4 q5 _=G5 at *;obtain⟨t5,_⟩:=al HX g1;clear g1;have tA:Same G G5:=(((t1.trans t2).trans t3).trans t4).trans t5;have JE:∀m:Nat,m<4->∃(b':aF)(d e:Int),[V.ref q1,.ref q2,.ref q3,.ref q4][m]?=some (.ref b')/\G5 b'=some (.tup [.int d,.int e]):=λm hm=>by
   match m,hm with
   | 0,_=>exact(m9 q1 _ _ ⟨rfl,t5 _ _<|t4 _ _<|t3 _ _<|t2 _ _ u1⟩)
   | 1,_=>exact(m9 q2 _ _ ⟨rfl,t5 _ _<|t4 _ _<|t3 _ _ u2⟩)
   | 2,_=>exact(m9 q3 _ _ ⟨rfl,t5 _ _<|t4 _ _ u3⟩)
   | 3,_=>exact(m9 q4 _ _ ⟨rfl,t5 _ _ u4⟩)
  obtain⟨m,hm,em⟩:∃m:Nat,m<4/\y/8 % 4=(m:Nat):=⟨(y/8 % 4).toNat,by lia,by lia⟩;obtain⟨b',d,e,cU,hbd⟩:=JE m hm;refine(pj _ rfl _ _ rfl rfl ⟨by decide,by decide⟩ _ _ ⟨rfl,rfl,(by show(0:Int)<4;decide),(l9 q5 _ _ (.ref b') ⟨rfl,rfl,SqL.of u5,?_,?_⟩)⟩)
  .show atI _ (y/8 % 4)=_;rw[em];exact lg cU
  refine gH _ _ ?_;clear gH gU Dh;refine tf λDh gH gU=>?_;refine(lj _ rfl b _ _ _ ⟨rfl,rfl,SqT.of<|tA _ _ hb,lg (j:=0) rfl,(lj _ rfl b' _ _ _ ⟨rfl,rfl,SqT.of hbd,lg (j:=0) rfl,(l0 _ _ ⟨rfl,rfl,(lj _ rfl b _ _ _ ⟨rfl,rfl,SqT.of<|tA _ _ hb,lg (j:=1) rfl,(lj _ rfl b' _ _ _ ⟨rfl,rfl,SqT.of hbd,lg (j:=1) rfl,(l0 _ _ ⟨rfl,rfl,sZ2,λp hp=>?_⟩)⟩)⟩)⟩)⟩)⟩);generalize g1:upd G5 p _=G6 at *;obtain⟨t6,c6⟩:=al hp g1;clear g1;have tB:=tA.trans t6;have zL:=tB _ _ hG;have iS:=rep.same tB;have Ba:=ex.trans<|Ex.of_same (W:=[C]) tB;refine gH _ _ ?_;clear gH gU Dh;refine(me _ rfl _ rfl (.tuple [.int (r+d),.int<|c+e]) C xs ⟨ds,qk c6,rfl,.inl zL,iS,by simp[f7,bu],_,rfl,?_⟩);refine qz (λuS=>?_) λ_=>?_
  .refine(se _ rfl (.inl ⟨rfl,_,SqL.of zL⟩) _ rfl C xs (.ref p) ⟨rfl,rfl,zL,mr<|by lia,?_⟩);have C9:Cells (ds++[.tuple [.int (r+d),.int<|c+e]]):=λz hz=>by
    rcases a8.mp hz with h|h
    .exact lN z h
    .rw[ar.mp h];exact(l0 _ _ rfl)
   refine(lv _ _ _ (xs++[.ref p]) (ds++[.tuple [.int (r+d),.int<|c+e]]) ⟨rfl,Ba.trans<|Ex.upd<|by simp,lr,((iS.snoc<|qk c6).tk (Tk.lst zL) C9.imm),C9,?_,by simp,by simp;lia⟩);rw[b9,List.nodup_append];refine⟨kM,by simp,λx hx y hy=>?_⟩;have ey:y=(r+d,c+e):=ar.mp hy;intro exy;rw[exy,ey]at hx;obtain⟨z,hz,ez⟩:=ay.mp hx;obtain⟨r0,c0,rfl⟩:=lN z hz;have ez':(r0,c0)=(r+d,c+e):=ez;injection ez' with e1 e2
   rw[if_pos rfl,Bool.not_eq_true',List.any_eq_false]at uS;exact uS _ hz<|by rw[e1,e2];exact jy _ (qk c6).lay
  .exact(lv _ _ _ xs ds ⟨rfl,Ba,zL,iS,lN,kM,gJ,by lia⟩)
 .obtain⟨y5,y6,y7,xs,ds,rfl,ex,hG,rep,lN,kM,gJ,aZ⟩:=h;have hxl:=rep.length;have nXC:X≠C:=λe=>by rw[e,hCH]at hX;cases hX
  have zF:=ex.at nXC<|s3 _ _ A4;have lA:G lt=some (.lst<|lG cs):=ex.at (λe=>by rw[e,hCn]at bS;cases bS)<|sA _ _ bS;have sG:Same H G:=λb o hb=>ex.at (λe=>by rw[e,hCn]at hb;cases hb)<|sA _ _ hb;refine gH _ _ ?_;clear gH gU Dh;refine(qg _ rfl _ rfl _ ⟨rfl,yn<|l0 X _ ⟨rfl,SqL.of zF,λS2 pG=>?_⟩⟩);rw[show(7:Int)=((7:Nat):Int)from rfl,LY<|by rw[ae];lia];generalize g1:upd G S2 _=G4 at *;obtain⟨s4,l4⟩:=al pG g1;clear g1;have Fw:=s4 _ _ hG;have eZ:=rep.same s4;have hl4:=s4 _ _ lA;have wS:(lG cs).length=3:=by unfold lG;rw[ae];exact qA
  have gO:((ns.map V.int).drop 7).length=6:=by rw[fg,ae];lia
  refine(l9 C S2 xs _ ⟨rfl,Fw,l4,λD hD=>?_⟩);refine anq (xs:=xs) (ys:=(ns.map V.int).drop 7) (λi BE G2=>Same G4 G2/\∃es:Z U,es.length=i/\RepAll G2 es BE/\(∀d∈es,SgD d)/\es.map cl=(ds.take i).map cl) ⟨Same.fresh _ hD,[],rfl,rfl,(λd hd=>by cases hd),rfl⟩ (λi BE G2 p=>⟨p.1 _ _ Fw,p.1 _ _ l4⟩) (λi xv yv p BE G2 hxv hyv hp bD dR pv=>?_) λBE G2 bD dR pv=>?_
  .obtain⟨p1,es,iI,bR,tM,sJ⟩:=pv;obtain⟨b,r,c,rfl,hb,lC⟩:=ahw lN eZ hxv;obtain⟨n,rfl,hn0'⟩:∃n:Int,yv=.int n/\0<=n:=by
    obtain⟨n,hn,e⟩:=ay.mp<|gr<|ai hyv;exact⟨n,e.symm,(tP n hn).1⟩
   have hi6:i<xs.length:=(af.mp hxv).1;generalize g1:upd G2 p _=G5 at *;obtain⟨s5,c5⟩:=al hp g1;clear g1;have sB:=p1.trans s5;refine(l7 p _ rfl (SqT.of c5) rfl _ _ rfl _ ⟨_,rfl,rfl,?_⟩);refine⟨Agree.set (Agree.set (Agree.refl _) rfl) rfl,?_⟩;dsimp only[jN];refine ux ?_;obtain⟨m,hm,em⟩:∃m:Nat,m<3/\n % ((3:Nat):Int)=(m:Nat):=⟨(n % 3).toNat,by lia,by lia⟩;have CN:cs[m]?=some (cs[m]'(by lia)):=ah _;have yX:=sN _<|ai CN;generalize cs[m]'(by lia)=k at *;refine(lj _ rfl b _ _ _ ⟨rfl,rfl,SqT.of<|sB _ _ hb,lg (j:=0) rfl,(lj _ rfl b _ _ _ ⟨rfl,rfl,SqT.of<|sB _ _ hb,lg (j:=1) rfl,(oj _ rfl _ rfl _ rfl lt _ ⟨rfl,.inl<|SqL.of<|sB _ _ hl4,(r8 _ _ rfl rfl (by rw[wS];show(0:Int)<((3:Nat):Int);decide) lt _ _ ⟨.str ⟨#[k]⟩,rfl,rfl,SqL.of<|sB _ _ hl4,?_,sZ3,λq1 pC=>?_⟩)⟩)⟩)⟩)
   .show atI (lG cs) (n % (((lG cs).length:Nat):Int))=_;rw[wS,em];exact lg<|by unfold lG;rw[bo,CN];rfl
   .have s6:Same G5 (upd G5 q1<|.tup [.int r,.int c,.str ⟨#[k]⟩]):=Same.fresh _ pC;have c6:upd G5 q1 (.tup [.int r,.int c,.str ⟨#[k]⟩]) q1=some (.tup [.int r,.int c,.str ⟨#[k]⟩]):=lr;generalize upd G5 q1 (.tup [.int r,.int c,.str ⟨#[k]⟩])=G6 at *;have pI:=s6 _ _<|s5 _ _ bD;refine qm (by lia) pI dR ⟨((p1.trans s5).trans s6).new hD,es++[.tuple [.int r,.int c,.str ⟨#[k]⟩]],by rw[au,iI];rfl,?_,?_,?_⟩
    .refine((bR.same<|s5.trans s6).snoc (x5 c6 (ok1<|by have:=yX.2;lia))).tk (Tk.lst pI) ?_;refine Spots.imm λd hd=>?_;rcases a8.mp hd with h|h
     .obtain⟨r',c',k',e,_⟩:=tM d h;exact(m9 r' c' _ e)
     .rw[ar.mp h];exact(m9 _ _ _ rfl)
    .intro d hd;rcases a8.mp hd with h|h
     .exact tM d h
     .rw[ar.mp h];exact(m9 r c k ⟨rfl,yX.1,yX.2⟩)
    .rw[b9,sJ,mq cl lC];rfl
  .obtain⟨p1,es,iI,bR,tM,sJ⟩:=pv;have yS:iA xs.length ((ns.map V.int).drop 7).length=ds.length:=by lia
   rw[yS]at iI sJ;rw[aw (ao _)]at sJ;have pre:Pre es:=⟨tM,by lia,by lia,by rw[sJ];exact kM⟩;refine(m9 D BE es ⟨rfl,.inl bD,bR,pre.spots,by lia,by lia,λr H9 s9 qU=>?_⟩);exact q r _ H9 (((sG.trans s4).trans p1).trans s9) ((Zr.shift pre).perm (o0 _)) qU
noncomputable abbrev az:Str:=bw "abcdefghijklmnopqrstuvwxyz"
def apw{i:Nat}(h:i<26):az.cps.toList[i]?=some (97+i):=by
 have:∀i<26,az.cps.toList[i]?=some (97+i):=by decide +kernel
 exact this i h
theorem KindK.tk{H H':Hp}{v:V}{k:Z U×Nat}(h:KindK H v k)(s:Tk H H'):KindK H' v k:=by obtain⟨b,nm,u1,u2,m,fr,xs,rfl,h1,h2,h3,h4,h5⟩:=h;exact(lv b nm u1 u2 m<|l0 fr xs ⟨rfl,s _ _ h1,s _ _ h2,h3.tk s<|Spots.imm h4.pre.spots,h4,h5⟩)
def KindsK.snoc{H H':Hp}{kvs:Z V}{ks:Z (Z U×Nat)}{v:V}{k:Z U×Nat}(h:KindsK H kvs ks)(t:Tk H H')(hv:KindK H' v k):KindsK H' (kvs++[v]) (ks++[k]):=by
 refine⟨by rw[au,au,h.1];rfl,λi u k' h1 h2=>?_⟩;by_cases hi:i<kvs.length
 .rw[db hi]at h1;rw[db (by rw[<-h.1];exact hi)]at h2;exact(h.2 i u k' h1 h2).tk t
 .have e1:i=kvs.length:=by
   have:=(af.mp h1).1;rw[au,cc]at this;lia
  subst e1;rw[cf (ao _),j7]at h1;rw[h.1,cf<|ao _,j7]at h2;cases h1;cases h2;exact hv
def alw:Sp:=λvs H Q _=>∃(x:Int)(lt:aF)(cs:Z Nat),vs=[.int x,.ref lt,.int 6]/\H lt=some (.lst<|lG cs)/\cs.length=3/\(∀c∈cs,Ltr c)/\∀(D:aF)(kvs:Z V) (ks:Z (Z U×Nat)) (H':Hp),Same H H'->H D=none->H' D=some (.lst kvs)->KindsK H' kvs ks->0<ks.length->ks.length<=6->Q (.ref D) H'
def scKinds:mh ["_law_x","_law_letters_here","_law_most","_law_xs","_law_some","_law_one","_law_other","_law_names","_law_kinds_here","_law_k","_law_mode"] Z3 (lw Lp):={}
theorem anp(B:∀x∈sv,mg x=none)(jO:Fn P w K mg base "_law_mixed" 1 Z5 Ab)(Ez:Fn P w K mg base "_law_form" 2 Z3 apl)(F:Fun K "_law_kinds" "_law_kinds" Lp f fd):qr P w K mg base CX0 3 f fd Z3 alw:=by
 refine F.ok (k:=2) scKinds (λvs H Q E h=>?_) λbQ A outer s H vs Q E hr h=>?_
 .obtain⟨x,lt,cs,rfl,_⟩:=h;rfl
 obtain⟨x,lt,cs,rfl,bS,qA,sN,q⟩:=h;have hu:=hr.units;refine⟨_,(k9 (psN 3 scKinds.nd<|pfn jO<|lq (pv 0)<|lq k8 k7)
  (k9 (psN 4 scKinds.nd oh)
  (k9 (psN 5 scKinds.nd<|pix Bx (pv 4)<|mj oo (pix my (pv 3) k8) k8)
  (k9 (psN 6 scKinds.nd<|pix Bx (pv 4)<|mj oo (mj oq (mj oq (pix my (pv 3) k8) k8)<|mj oo (pix my (pv 3) k8) k8) k8)
  (k9 (psN 7 scKinds.nd<|oz<|lq (mj tq (pv 5)<|pv 6)<|lq (pv 5)<|lq (pv 6)<|lq (mj tq (pv 6)<|pv 5)<|lq (mj tq (pv 5)<|pv 5)<|lq (mj tq (pv 6)<|pv 6) k7)
  (k9 (psN 8 scKinds.nd<|oz k7)
  (k9 (pfo (pR1<|lq (mj oq k8<|mj oo (pix my (pv 3) k8) k8) k7) (pgN 9 scKinds.nd) (k9 (psN 10 scKinds.nd<|pix my (oz<|lq oh<|lq oh<|lq oh k7)<|mj oo (mj wg (pix my (pv 3) k8)<|mj oq (pv 9) k8) k8)
  (lh<|r9<|ww ci fc ff pw (pv 8)<|lq (mw<|lq (pix my (pv 7)<|pv 9)<|lq k8<|lq sw<|lq (pv 10)<|lq (pfn Ez<|lq (pix my (pv 3)<|mj oq k8<|pv 9)<|lq (pv 1)<|lq (pv 2) k7) k7) k7)))
  (lh<|ma<|pv 8)))))))),?_⟩
 refine(nj _ rfl x 10 ⟨rfl,by decide,λX ns H1 ⟨Ix,tP⟩ s1 Dg hX=>?_⟩);have gW:∀i:Nat,i<10->∃n:Int,(ns.map V.int)[i]?=some (.int n)/\0<=n:=λi hi=>⟨ns[i]'(by lia),by rw[bo,ah<|by lia];rfl,(tP _<|gp _).1⟩;obtain⟨n0,e0,_⟩:=gW 0 (by decide);obtain⟨n1,e1,_⟩:=gW 1 (by decide);obtain⟨n2,e2,_⟩:=gW 2 (by decide);obtain⟨n3,e3,_⟩:=gW 3 (by decide);have Dd:az.length<=aC:=ajt (txL<|by decide +kernel);obtain⟨m0,E9,em0⟩:∃m:Nat,m<26/\n0 % 26=(m:Nat):=⟨(n0 % 26).toNat,by lia,by lia⟩;refine(me _ rfl _ rfl X _ _<|pq _ rfl rfl (SqL.of hX) (lg (j:=0) e0) _ _ ⟨rfl,rfl,(by show(0:Int)<26;decide),(m9 az _ (97+m0) ⟨rfl,rfl,Dd,?_,?_⟩)⟩)
 .show atI _ (n0 % 26)=_;rw[em0];exact lg<|apw E9
 obtain⟨m1,AR,em1⟩:∃m:Nat,m<26/\(n0+1+n1 % 25) % 26=(m:Nat):=⟨((n0+1+n1 % 25) % 26).toNat,by lia,by lia⟩;refine(me _ rfl _ rfl X _ _<|pq _ rfl rfl (SqL.of hX) (lg (j:=0) e0) _ _ ⟨rfl,rfl,(lj _ rfl X _ _ _ ⟨rfl,rfl,SqL.of hX,lg (j:=1) e1,(yt _ _ rfl rfl (by show(0:Int)<25;decide) _ _ ⟨rfl,rfl,(r8 _ _ rfl rfl (by show(0:Int)<26;decide) az _ (97+m1) ⟨rfl,rfl,Dd,?_,?_⟩)⟩)⟩)⟩)
 .show atI _ ((n0+1+n1 % 25) % 26)=_;rw[em1];exact lg<|apw AR
 have two:∀a b:Nat,(⟨#[a]⟩:Str).length+(⟨#[b]⟩:Str).length<=aC:=λa b=>by show 1+1<=aC;decide
 refine(rh _ rfl _ rfl _ _ ⟨rfl,rfl,two _ _,(qg _ rfl _ rfl _ ⟨rfl,(ur _ rfl _ _ rfl rfl (two _ _) _ ⟨rfl,(ur _ rfl _ _ rfl rfl (two _ _) _ ⟨rfl,(nj _ rfl _ _ ⟨rfl,rfl,two _ _,sZ6,λL hL=>?_⟩)⟩)⟩)⟩)⟩);obtain⟨nm,hnm,CJ⟩:∃nm:Z Str,nm.length=6/\nm.map V.str=[V.str ((⟨#[97+m0]⟩:Str)++(⟨#[97+m1]⟩:Str)),.str ⟨#[97+m0]⟩,.str ⟨#[97+m1]⟩,.str<|(⟨#[97+m1]⟩:Str)++(⟨#[97+m0]⟩:Str),.str<|(⟨#[97+m0]⟩:Str)++(⟨#[97+m0]⟩:Str),.str<|(⟨#[97+m1]⟩:Str)++(⟨#[97+m1]⟩:Str)]:=⟨[_,_,_,_,_,_],rfl,rfl⟩;rw[<-CJ];generalize g1:upd H1 L _=H2 at *;obtain⟨s2,l2⟩:=al hL g1;refine⟨sZ0,λD hD=>?_⟩;generalize g1:upd H2 D _=H3 at *;obtain⟨s3,l3⟩:=al hD g1;have l3:H3 D=some (.lst ([]:Z V)):=l3;have gT:=s1.trans s2;have Dq:H D=none:=gT.free hD;have sA:=gT.trans s3;have zF:=s3 _ _<|s2 _ _ hX;have hL3:=s3 _ _ l2;have yT:=sA _ _ bS;have Hq:X≠D:=λe=>by rw[e]at hX;rw[s2 _ _ hX]at hD;cases hD
 have Hs:L≠D:=λe=>by rw[e]at l2;rw[l2]at hD;cases hD
 have Hn:lt≠D:=λe=>by rw[e,Dq]at bS;cases bS
 obtain⟨cnt,hcnt,JL⟩:∃cnt:Nat,(0<cnt/\cnt<=6)/\1+n2 % 6=(cnt:Nat):=⟨(1+n2 % 6).toNat,by lia,by lia⟩;refine(lj _ rfl X _ _ _ ⟨rfl,rfl,SqL.of zF,lg (j:=2) e2,(yt _ _ rfl rfl (by show(0:Int)<6;decide) _ _ ⟨rfl,rfl,(cnt:Nat),by rw[<-JL],by lia,by lia,?_⟩)⟩);rw[cj];refine sq (lo:=0) (λi σ' G=>∃(y9 hJ:Option V)(kvs:Z V) (ks:Z (Z U×Nat)),σ'=[some (.int x),some<|.ref lt,some<|.int 6,some<|.ref X,some<|.str az,some<|.str ⟨#[97+m0]⟩,some<|.str ⟨#[97+m1]⟩,some<|.ref L,some<|.ref D,y9,hJ]/\Ex [D] H3 G/\G D=some (.lst kvs)/\KindsK G kvs ks/\ks.length=i) ?_ (λi σ' G hi h=>?_) λσ' G h=>?_
 .exact(l9 _ _ ([]) ([]) ⟨rfl,Ex.refl _ _,l3,⟨rfl,λi v k h=>by simp at h⟩,rfl⟩)
 .obtain⟨y9,hJ,kvs,ks,rfl,ex,hG,dY,mI⟩:=h;have zE:=ex.at Hq zF;have hL4:=ex.at Hs hL3;have IC:=ex.at Hn yT;refine⟨sZ3,λq1 pC=>?_⟩;generalize g1:upd G q1 _=G5 at *;obtain⟨s5,l5⟩:=al pC g1;obtain⟨mm,E8,emm⟩:∃m:Nat,m<3/\n3/(0+(i:Nat)+1) % 3=(m:Nat):=⟨(n3/(0+(i:Nat)+1) % 3).toNat,by lia,by lia⟩;have BP:∃(z:Str)(k:Nat),[V.str (bw "still"),.str<|bw "turn",.str<|bw "flip"][mm]?=some (.str z)/\zY z k:=by
   match mm,E8 with
   | 0,_=>exact(l0 _ 1 ⟨rfl,.inl ⟨rfl,rfl⟩⟩)
   | 1,_=>exact(l0 _ 4 ⟨rfl,.inr<|.inl ⟨rfl,rfl⟩⟩)
   | 2,_=>exact(l0 _ 8 ⟨rfl,.inr<|.inr ⟨rfl,rfl⟩⟩)
  obtain⟨z,k,hz,CL⟩:=BP;refine(lj _ rfl X _ _ _ ⟨rfl,rfl,SqL.of<|s5 _ _ zE,lg (j:=3) e3,(m8 _ rfl _ _ rfl rfl _ ⟨_,rfl,rfl,⟨by show(0:Int)<0+(i:Nat)+1;lia,by show 0+((i:Nat):Int)+1<1073741824;lia⟩,(r8 _ _ rfl rfl (by show(0:Int)<3;decide) q1 _ _ ⟨.str z,rfl,rfl,SqL.of l5,?_,?_⟩)⟩)⟩)
  .show atI _ (n3/(0+(i:Nat)+1) % 3)=_;rw[emm];exact lg hz
  obtain⟨nx,enx,hnx0⟩:=gW (4+i) (by lia);obtain⟨nz,hnz⟩:∃nz,nm[i]?=some nz:=⟨_,ah<|by lia⟩;have mW:=s5 _ _ hG;refine(ng _ rfl (.inl ⟨rfl,_,SqL.of mW⟩) _ ⟨rfl,(lj _ rfl L _ _ (.str nz) ⟨rfl,rfl,SqL.of<|s5 _ _ hL4,?_,(oj _ rfl _ rfl _ rfl _ _ ⟨rfl,rfl,(l9 X _ _ (.int nx) ⟨rfl,rfl,SqL.of<|s5 _ _ zE,?_,(me _ rfl _ rfl nx lt cs ⟨rfl,s5 _ _ IC,qA,sN,λr es G6 s6 hzr rep=>?_⟩)⟩)⟩)⟩)⟩)
  .rw[iw];exact lg<|by rw[bo,hnz];rfl
  .rw[iw,show(4:Int)+(i:Nat)=((4+i:Nat):Int) by lia];exact lg enx
  obtain⟨r',xs6,er,hr6,nE⟩:=rep;cases er;refine⟨sZ5,λt7 Cr=>?_⟩;generalize g1:upd G6 t7 _=G7 at *;obtain⟨s7,c7⟩:=al Cr g1;have sB:=(s5.trans s6).trans s7;have xD:=sB _ _ hG;have CV:KindK G7 (.ref t7) (es,k):=(lv t7 nz _ _ z<|l0 r xs6 ⟨rfl,c7,s7 _ _ hr6,nE.same s7,hzr,CL⟩);have eL:=dY.1;refine(m9 D kvs (.ref t7) ⟨rfl,rfl,xD,mr<|by lia,?_⟩);refine(l9 _ _ (kvs++[.ref t7]) (ks++[(es,k)]) ⟨rfl,(ex.trans<|Ex.of_same (W:=[D]) sB).trans (Ex.upd<|by simp),lr,(dY.same sB).snoc (Tk.lst xD) (CV.tk<|Tk.lst xD),by rw[au,mI];rfl⟩)
 .obtain⟨y9,hJ,kvs,ks,rfl,ex,hG,dY,mI⟩:=h;refine⟨_,rfl,q D kvs ks G (λb o hb=>ex.at (λe=>by rw[e,Dq]at hb;cases hb)<|sA _ _ hb) Dq hG dY (by lia)<|by lia⟩
def KI:Sp:=λvs H Q _=>∃c:Nat,vs=[.str ⟨#[c]⟩]/\Q (.bl<|decide (65<=c)&&decide (c<=90)) H
def ald:Sp:=λvs H Q _=>∃c:Nat,vs=[.str ⟨#[c]⟩]/\Q (.bl<|decide (97<=c)&&decide (c<=122)) H
def ayq:mh Z6 Z6 (lw Ks):={}
def ar6:mh Z6 Z6 (lw Lk):={}
def le1(a b:Nat):(!decide ([b]<[a]))=decide (a<=b):=by
 have h:([b]<[a])↔b<a:=by simp[gf]
 rw[decide_eq_decide.mpr h];by_cases c:b<a
 .rw[decide_eq_true c,decide_eq_false<|by lia];rfl
 .rw[decide_eq_false c,decide_eq_true<|by lia];rfl
def ako{c lo hi:Nat}{a z:Str}{R:V->Prop}{A B:Prop}(ha:a.cps.toList=[lo])(hz:z.cps.toList=[hi])(q:R (.bl<|decide (lo<=c)&&decide (c<=hi)))
  (hA:R (.bl<|!decide (z.cps.toList<[c]))->A) (hB:R (.bl false)->B):if (!decide ((⟨#[c]⟩:Str).cps.toList<a.cps.toList))=true then A else B:=by
 have e:(⟨#[c]⟩:Str).cps.toList=[c]:=rfl;rw[e,ha,le1];rw[hz,le1]at hA;by_cases h:lo<=c
 .rw[decide_eq_true h]at *;rw[if_pos rfl];exact hA q
 .rw[decide_eq_false h]at *;rw[if_neg am];exact hB q
def Kj(c:Nat):(⟨#[c]⟩:Str).length<=aC:=by show 1<=aC;decide
def aty(B:∀x∈sv,mg x=none)(F:Fun K "is_sign" "is_sign" Ks f fd):qr P w K mg base CX0 1 f fd Z6 KI:=by
 refine F.ok (k:=0) ayq (λvs H Q E h=>?_) λbQ A outer s H vs Q E hr h=>?_
 .obtain⟨c,rfl,_⟩:=h;rfl
 obtain⟨c,rfl,q⟩:=h;refine⟨_,(lh<|ma<|Ag (pCB qt k6<|lq (pv 0)<|lq (xi (v:=.ty "str") rfl (B "str"<|by decide) boot_str rfl) k7)<|Ag (wb uv (pCB qd cg<|lq (pv 0) k7) k8<|nr _)<|By<|ah7 yz yz oh (pv 0) oh),?_⟩;refine(lj _ rfl _ _ _ true ⟨rfl,.str _,rfl,true,rfl,?_⟩);refine ux ?_;refine(ny _ rfl _ ⟨rfl,Kj c,rfl,true,rfl,?_⟩);refine ux ?_;exact(m8 _ rfl _ _ rfl rfl _ ⟨rfl,ako (a:=bw "A") (z:=bw "Z") (R:=λv=>Q v H) (by decide +kernel) (by decide +kernel) q (λh=>(l0 _ _ ⟨rfl,rfl,h⟩)) λh=>h⟩)
def anh(B:∀x∈sv,mg x=none)(F:Fun K "is_small" "is_small" Lk f fd):qr P w K mg base CX0 1 f fd Z6 ald:=by
 refine F.ok (k:=0) ar6 (λvs H Q E h=>?_) λbQ A outer s H vs Q E hr h=>?_
 .obtain⟨c,rfl,_⟩:=h;rfl
 obtain⟨c,rfl,q⟩:=h;refine⟨_,(lh<|ma<|Ag (pCB qt k6<|lq (pv 0)<|lq (xi (v:=.ty "str") rfl (B "str"<|by decide) boot_str rfl) k7)<|Ag (wb uv (pCB qd cg<|lq (pv 0) k7) k8<|nr _)<|By<|ah7 yz yz oh (pv 0) oh),?_⟩;refine(lj _ rfl _ _ _ true ⟨rfl,.str _,rfl,true,rfl,?_⟩);refine ux ?_;refine(ny _ rfl _ ⟨rfl,Kj c,rfl,true,rfl,?_⟩);refine ux ?_;exact(m8 _ rfl _ _ rfl rfl _ ⟨rfl,ako (a:=bw "a") (z:=bw "z") (R:=λv=>Q v H) (by decide +kernel) (by decide +kernel) q (λh=>(l0 _ _ ⟨rfl,rfl,h⟩)) λh=>h⟩)
def GS(mg:Str->Option aA)(x z:Str):Prop:=∃t,mg x=some (.str z t)
def eH:bw "#" = ⟨#[35]⟩:=by decide +kernel
def xf(c d:Nat){z:Str}(hz:z=⟨#[d]⟩):decide (V.str ⟨#[c]⟩=V.str z)=(c==d):=by
 subst hz;rw[jd,decide_eq_true_eq,beq_iff_eq];constructor
 .intro h;injection h with h
  injection h with h
  injection h with h
  injection h with h
 .intro h;rw[h]
def wl{M:Mat}{r:Nat}(h:r<M.h):((qy M).map V.str)[r]?=some (V.str ⟨(o7 M r).toArray⟩):=by rw[bo,Go h];rfl
def oe(N:Mat)(r:Nat):(⟨(o7 N r).toArray⟩:Str).length=N.w:=by show(o7 N r).toArray.size=_;rw[bj,GF]
def DU{N:Mat}(o:OkM SgP N):N.w<=aC:=fh (mr<|by have:=o.w8;lia)
noncomputable def gA(M:Mat)(r c:Nat):Nat:=if r<M.h/\c<M.w then M.g r c else 35
def KG{M:Mat}(o:OkM SgP M)(r c:Nat):sgB (gA M r c)=true:=by
 unfold gA;split
 .rename_i h;exact o.sg r c h.1 h.2
 .decide
noncomputable def big(c:Nat):Bool:=decide (65<=c)&&decide (c<=90)
noncomputable def uB(c:Nat):Bool:=decide (97<=c)&&decide (c<=122)
noncomputable def okS(g k:Nat):Bool:=g==46||g==44||g==k||g==lo1 k
def au8{g k:Nat}(h:sgB g=true)(h1:65<=k)(h2:k<=90):(!(g==35)&&(!(big g||uB g)||up1 g==k))=okS g k:=by
 have:∀g<128,sgB g=true->∀k<91,65<=k->(!(g==35)&&(!(big g||uB g)||up1 g==k))=okS g k:=by decide +kernel
 exact this g (zX h) h k (by lia) h1
def xQ(R:Nat->V):Sp:=λvs H Q _=>∃(a b:aF)(M:Mat)(r c:Nat),vs=[.ref a,.ref b]/\FlM H a M/\H b=some (.tup [.int (r:Nat),.int (c:Nat)])/\Q (R<|gA M r c) H
def scAt:mh ["floor","cell","row","column"] Z8 (lw sAt):={}
def ayh(B:∀x∈sv,mg x=none)(gC:GS mg "CLOSED" "#")(F:Fun K "sign_at" "sign_at" sAt f fd):qr P w K mg base CX0 1 f fd Z8 (xQ λk=>.str ⟨#[k]⟩):=by
 refine F.ok (k:=0) scAt (λvs H Q E h=>?_) λbQ A outer s H vs Q E hr h=>?_
 .obtain⟨a,b,M,r,c,rfl,_⟩:=h;rfl
 obtain⟨a,b,M,r,c,rfl,hf,hb,q⟩:=h;dsimp only at q;obtain⟨ha,fX⟩:=hf;have out:¬(r<M.h/\c<M.w)->Q (.str<|bw "#") H:=λh=>by unfold gA at q;rw[if_neg h]at q;rw[eH];exact q
 refine⟨_,(k9 (psN 2 scAt.nd<|pix mf (pv 1) k8)
  (k9 (psN 3 scAt.nd<|pix mf (pv 1) k8)
  (k9 (qa (PW.pt<|vh (GD FW vQ k8 (pv 2)<|pCB mn cg<|lq (pv 0) k7)<|uk<|GD FW vQ k8 (pv 3)<|pCB qd cg<|lq (pix mf (pv 0)<|pv 2) k7) (lh<|ma<|pix Bx (pix mf (pv 0)<|pv 2)<|pv 3) np)
  (lh<|ma<|Gy gC rfl)))),?_⟩
 refine(lj _ rfl b _ _ _ ⟨rfl,rfl,SqT.of hb,lg (j:=0) rfl,?_⟩);refine(lj _ rfl b _ _ _ ⟨rfl,rfl,SqT.of hb,lg (j:=1) rfl,?_⟩);refine(m8 _ rfl _ _ rfl rfl _ ⟨rfl,?_⟩);refine qz (λc1=>?_) λc1=>absurd (decide_eq_true<|by show(0:Int)<=(r:Nat);lia) c1;refine(m8 _ rfl a _ rfl (.inr<|SqT.of ha) _<|ng _ rfl rfl _ ⟨rfl,?_⟩);refine qz (λc2=>?_) λc2=>?_
 .have AL:r<M.h:=by
   have:((r:Nat):Int)<(((qy M).map V.str).length:Nat):=of_decide_eq_true c2;rw[ae,ql]at this;lia
  have xA:atI ((qy M).map V.str) (r:Int)=some (.str ⟨(o7 M r).toArray⟩):=lg<|wl AL;have zl:(⟨(o7 M r).toArray⟩:Str).length<=aC:=by rw[oe];exact DU fX
  refine(m8 _ rfl _ _ rfl rfl _ ⟨rfl,?_⟩);refine qz (λc3=>?_) λc3=>absurd (decide_eq_true<|by show(0:Int)<=(c:Nat);lia) c3;refine(me _ rfl _ rfl a _ _ ⟨_,rfl,rfl,SqT.of ha,xA,(ng _ rfl zl _<|ng _ rfl rfl _ ⟨rfl,?_⟩)⟩);refine qz (λc4=>?_) λc4=>?_
  .have A1:c<M.w:=by
    have:((c:Nat):Int)<((⟨(o7 M r).toArray⟩:Str).length:Nat):=of_decide_eq_true c4;rw[oe]at this;lia
   unfold gA at q;rw[if_pos ⟨AL,A1⟩]at q;refine(me _ rfl _ rfl a _ _ ⟨_,rfl,rfl,SqT.of ha,xA,(ph _ rfl _ _ (M.g r c) ⟨rfl,rfl,zl,?_,q⟩)⟩);refine lg ?_;show(o7 M r).toArray.toList[c]?=_;rw[List.toList_toArray];exact zn A1
  .have JS:¬(((c:Nat):Int)<((⟨(o7 M r).toArray⟩:Str).length:Nat)):=by simpa using c4
   rw[oe]at JS;exact out<|by lia
 .have JT:¬(((r:Nat):Int)<(((qy M).map V.str).length:Nat)):=by simpa using c2
  rw[ae,ql]at JT;refine iV ?_;exact out<|by lia
def atr:mh Z8 Z8 (lw K7):={}
def scWant:mh Z2 Z8 (lw K9):={}
noncomputable abbrev JZ(P:aK)(w:aO)(K:ax)(mg:Str->Option aA)(base:Heap):Prop:=Fn P w K mg base "sign_at" 1 Z8<|xQ λk=>.str ⟨#[k]⟩
def arz(gC:GS mg "CLOSED" "#")(EB:JZ P w K mg base)(F:Fun K "is_open" "is_open" K7 f fd):qr P w K mg base CX0 2 f fd Z8 (xQ λk=>.bl<|!(k==35)):=by
 refine F.ok (k:=1) atr (λvs H Q E h=>?_) λbQ A outer s H vs Q E hr h=>?_
 .obtain⟨a,b,M,r,c,rfl,_⟩:=h;rfl
 obtain⟨a,b,M,r,c,rfl,hf,hb,q⟩:=h;dsimp only at q;refine⟨_,(lh<|ma<|wb DN (pfn EB<|lq (pv 0)<|lq (pv 1) k7) (Gy gC rfl)<|nr _),?_⟩;refine(me _ rfl _ rfl a b M<|l0 r c ⟨rfl,hf,hb,rfl,?_⟩);rw[xf _ 35 eH];exact q
noncomputable def KW(k:Nat):V:=if (big k||uB k)=true then .str ⟨#[up1 k]⟩else .non
def asa(EB:JZ P w K mg base)(Ar:Fn P w K mg base "is_sign" 1 Z6 KI)(Am:Fn P w K mg base "is_small" 1 Z6 ald)(F:Fun K "wanted" "wanted" K9 f fd) :
  qr P w K mg base CX0 2 f fd Z8 (xQ KW):=by
 refine F.ok (k:=1) scWant (λvs H Q E h=>?_) λbQ A outer s H vs Q E hr h=>?_
 .obtain⟨a,b,M,r,c,rfl,_⟩:=h;rfl
 obtain⟨a,b,M,r,c,rfl,hf,hb,q⟩:=h;have vI:=zX<|KG hf.2 r c;refine⟨_,(k9 (psN 2 scWant.nd<|pfn EB<|lq (pv 0)<|lq (pv 1) k7)
  (lh<|ma<|an9 (PW.pt<|qJ (uy<|pfn Ar<|lq (pv 2) k7)<|wx<|uy<|pfn Am<|lq (pv 2) k7) (D0 ku PySem.F.slot_str_upper PySem.F.type_str_upper ano<|pv 2) sw)),?_⟩
 refine(me _ rfl _ rfl a b M<|l0 r c ⟨rfl,hf,hb,?_⟩);generalize gA M r c=g at *;refine(qg _ rfl _ rfl _ ⟨rfl,?_⟩);have q':∀t:Bool,(big g||uB g)=t->Q (if t=true then .str ⟨#[up1 g]⟩else .non) H:=λt ht=>by rw[<-ht];exact q
 refine qz (λh1=>?_) λh1=>?_
 .refine ux ?_;refine(ng _ rfl rfl _ ⟨rfl,rfl,vI,q' true ?_⟩);have fN:big g=true:=h1;rw[fN];rfl
 .have fN:big g=false:=Bool.eq_false_iff.mpr h1;refine(qg _ rfl _ rfl _ ⟨rfl,?_⟩);refine qz (λh2=>?_) λh2=>?_
  .refine(ng _ rfl rfl _ ⟨rfl,rfl,vI,q' true ?_⟩);have fU:uB g=true:=h2;rw[fU,Bool.or_true]
  .refine q' false ?_;have fU:uB g=false:=Bool.eq_false_iff.mpr h2;rw[fN,fU];rfl
def SgN(d:U):Prop:=∃r c k:Nat,d=.tuple [.int (r:Nat),.int (c:Nat),.str ⟨#[k]⟩]/\65<=k/\k<=90
def SgN.spots{ds:Z U}(h:∀d∈ds,SgN d):Spots ds:=λd hd=>by obtain⟨r,c,k,e,_⟩:=h d hd;exact(m9 r c _ e)
noncomputable def tD(M:Mat):U->Bool
 | .tuple [.int r,.int c,.str z]=>okS (gA M r.toNat c.toNat) (z.cps.toList.headD 0)
 | _=>false
def D8(M:Mat)(r c k:Nat):tD M (.tuple [.int (r:Nat),.int (c:Nat),.str ⟨#[k]⟩])=okS (gA M r c) k:=by show okS (gA M (Int.toNat (r:Nat))<|Int.toNat (c:Nat)) k=_;rw[cj,cj]
noncomputable def sh1(dn rt:Int):U->U
 | .tuple [.int r,.int c,.str z]=>.tuple [.int (r+dn),.int<|c+rt,.str z]
 | d=>d
def SgN.sh{dn rt:Nat}{d:U}(h:SgN d):SgN (sh1 (dn:Nat) (rt:Nat) d):=by obtain⟨r,c,k,rfl,hk⟩:=h;refine(m9 (r+dn) (c+rt) k ⟨?_,hk⟩);show PyData.tuple [.int ((r:Nat)+(dn:Nat)),.int<|(c:Nat)+(rt:Nat),.str ⟨#[k]⟩]=_;rw[Int.natCast_add,Int.natCast_add]
def SgN.shs{dn rt:Nat}{ds:Z U}(h:∀d∈ds,SgN d):∀d∈ds.map (sh1 (dn:Nat) (rt:Nat)),SgN d:=λd hd=>by obtain⟨e,he,rfl⟩:=ay.mp hd;exact(h e he).sh
def awz{g:Nat}(h:g<128):up1 g<128:=by
 have:∀g<128,up1 g<128:=by decide +kernel
 exact this g h
def ao5{g k:Nat}:([PyData.none,PyData.str ⟨#[k]⟩].any λe=>br e (if (big g||uB g)=true then .str ⟨#[up1 g]⟩else .none))=(!(big g||uB g)||up1 g==k):=by
 by_cases h:(big g||uB g)=true
 .rw[if_pos h,h];show(false||(((⟨#[k]⟩:Str)==⟨#[up1 g]⟩)||false))=(false||up1 g==k);rw[Bool.false_or,Bool.or_false,Bool.false_or,jd,beq_iff_eq,beq_iff_eq];constructor
  .intro e;injection e with e
   injection e with e
   injection e with e
   exact e.symm
  .intro e;rw[e]
 .rw[if_neg h,Bool.eq_false_iff.mpr h];rfl
def auo:Sp:=λvs H Q _=>∃(a b:aF)(M:Mat)(r c k:Nat),vs=[.ref a,.ref b,.str ⟨#[k]⟩]/\FlM H a M/\H b=some (.tup [.int (r:Nat),.int (c:Nat)])/\65<=k/\k<=90/\∀H',Same H H'->Q (.bl<|okS (gA M r c) k) H'
def axk:mh Z2 Z2 (lw KE):={}
def atz(Ev:Fn P w K mg base "is_open" 2 Z8 (xQ λk=>.bl<|!(k==35)))(Es:Fn P w K mg base "wanted" 2 Z8 (xQ KW))(F:Fun K "may_cover" "may_cover" KE f fd):qr P w K mg base CX0 3 f fd Z2 auo:=by
 refine F.ok (k:=2) axk (λvs H Q E h=>?_) λbQ A outer s H vs Q E hr h=>?_
 .obtain⟨a,b,M,r,c,k,rfl,_⟩:=h;rfl
 obtain⟨a,b,M,r,c,k,rfl,hf,hb,lB,AT,q⟩:=h;have hu:=hr.units;have hm:=au8 (KG hf.2 r c) lB AT;have vI:=zX<|KG hf.2 r c;rw[<-hm]at q;refine⟨_,(lh<|ma<|Ag (pfn Ev<|lq (pv 0)<|lq (pv 1) k7)<|By<|wb (Gg hu) (pfn Es<|lq (pv 0)<|lq (pv 1) k7) (mw<|lq sw<|lq (pv 2) k7) rfl),?_⟩;refine(me _ rfl _ rfl a b M<|l0 r c ⟨rfl,hf,hb,_,rfl,?_⟩);refine qz (λh1=>?_) λh1=>?_
 .rw[h1,Bool.true_and]at q;refine(me _ rfl _ rfl a b M<|l0 r c ⟨rfl,hf,hb,_,rfl,sZ2,λp hp=>?_⟩);generalize g1:upd H p _=H1 at *;obtain⟨s1,c1⟩:=al hp g1;generalize gA M r c=g at *;refine(l9 (if (big g||uB g)=true then .str ⟨#[up1 g]⟩else .none) p _ ([.none,.str ⟨#[k]⟩]) ⟨?_,rfl,.inr c1,?_,?_,?_⟩)
  .unfold KW;split
   .exact⟨rfl,ok1<|awz vI⟩
   .rfl
  .exact(qi _ _ rfl rfl _ _ ⟨rfl,⟨rfl,ok1<|by lia⟩,rfl⟩)
  .split<;>simp[f7]
  .rw[if_neg am,ao5];exact q H1 s1
 .rw[Bool.eq_false_iff.mpr h1,Bool.false_and]at q;exact q H<|Same.refl _
noncomputable def mY(M:Mat):U->Bool
 | .tuple es=>es.all (tD M)
 | _=>false
noncomputable def shT(M:Mat)(es:Z U)(i:Nat):U:=.tuple<|es.map<|sh1 ((i/M.w:Nat):Int) ((i % M.w:Nat):Int)
noncomputable def plS(M:Mat)(es:Z U)(k:Nat):Z U:=((e8 k).map (shT M es)).filter (mY M)
def aie(M:Mat)(es:Z U)(k:Nat):plS M es (k+1)=plS M es k++if mY M (shT M es k)=true then[shT M es k]else[]:=by
 unfold plS;rw[j6,b9,List.filter_append]
 congr 1
 cases h:mY M (shT M es k)<;>simp[h]
def aq9(M:Mat)(es:Z U)(k:Nat):(plS M es k).length<=k:=by have:=List.length_filter_le (mY M)<|(e8 k).map (shT M es);rw[ae,g0]at this;exact this
def plS_mem{M:Mat}{es:Z U}{k:Nat}{d:U}:d∈plS M es k↔∃i,i<k/\d=shT M es i/\mY M d=true:=by
 unfold plS;rw[List.mem_filter,ay];constructor
 .rintro⟨⟨i,hi,rfl⟩,h⟩;exact⟨i,gq.mp hi,rfl,h⟩
 .rintro⟨i,hi,rfl,h⟩;exact⟨⟨i,gq.mpr hi,rfl⟩,h⟩
def al3{M:Mat}{es:Z U}(h:∀d∈es,SgN d){ds:Z U}(hd:∀d∈ds,∃i,d=shT M es i):qe ds=true:=sr λd hx=>by obtain⟨i,rfl⟩:=hd d hx;exact Spots.imm<|SgN.spots<|SgN.shs h
def ar0{M:Mat}{es:Z U}{i:Nat}{d:U}(h:es[i]?=some d):((es.take<|i+1).map (tD M)).map V.bl=((es.take i).map (tD M)).map V.bl++[V.bl (tD M d)]:=by rw[mq (tD M) h,b9];rfl
def FY:Sp:=λvs H Q _=>∃(a b:aF)(M:Mat)(xs:Z V)(es:Z U),vs=[.ref a,.ref b]/\FlM H a M/\H b=some (.tup xs)/\RepAll H es xs/\(∀d∈es,SgN d)/\es.length<=6/\∀H',Same H H'->Q (.bl<|mY M<|.tuple es) H'
def axb:mh ZX ZX (lw Kn):={}
def ara(B:∀x∈sv,mg x=none)(MA:Fn P w K mg base "may_cover" 3 Z2 auo)(F:Fun K "may_lie" "may_lie" Kn f fd):qr P w K mg base CX0 4 f fd ZX FY:=by
 refine F.ok (k:=3) axb (λvs H Q E h=>?_) λbQ A outer s H vs Q E hr h=>?_
 .obtain⟨a,b,M,xs,es,rfl,_⟩:=h;rfl
 obtain⟨a,b,M,xs,es,rfl,hf,hb,rep,hs,h6,q⟩:=h;have hl:=rep.length;refine⟨_,(lh<|ma<|pCB (ang rfl) boot_all<|lq (pcm ["row","column","sign","floor"] [none,none,none,some 0] (vx<|pv 1) (λ_=>(qo (n:=3) rfl<|ln (pgC 0)<|ln (pgC 1)<|ln (pgC 2) nc)) (λ_=>ow) λ_=>(pfn MA<|lq (pv 3)<|lq (mw<|lq (pv 0)<|lq (pv 1) k7)<|lq (pv 2) k7)) k7),?_⟩;refine(ny _ rfl b ⟨rfl,⟨_,SqT.of hb⟩,λD hD=>?_⟩);refine ze (xs:=xs) (λi zs G=>Same H G/\zs=((es.take i).map (tD M)).map V.bl) ⟨Same.fresh _ hD,rfl⟩ (λi zs G p=>SqT.of<|p.1 _ _ hb) (λi x zs G hx hi bD dR p=>?_) λzs G bD dR p=>?_
 .obtain⟨p1,rfl⟩:=p;obtain⟨d,hd,rd⟩:=rep.at hx;obtain⟨r,c,k,rfl,lB,AT⟩:=hs d<|ai hd;obtain⟨b',rfl,cU,_⟩:=rn rd;refine(l7 b' _ rfl (SqT.of<|p1 _ _ cU) rfl _ _ rfl _<|nj _ rfl _ _ ⟨rfl,rfl,?_⟩);refine⟨Agree.set (Agree.set (Agree.set (Agree.refl _) rfl) rfl) rfl,?_⟩;dsimp only[jN];refine ux ?_;refine(qg _ rfl _ rfl _ ⟨rfl,sZ2,λp hp=>?_⟩);generalize g1:upd G p _=G2 at *;obtain⟨s2,c2⟩:=al hp g1;refine(lj _ rfl a p M r<|l0 c k ⟨rfl,hf.same<|p1.trans s2,c2,lB,AT,λG3 s3=>?_⟩);refine qm (by lia) (s3 _ _<|s2 _ _ bD) dR ⟨((p1.trans s2).trans s3).new hD,?_⟩;rw[ar0 hd,D8]
 .obtain⟨p1,rfl⟩:=p;rw[aw (by lia)]at bD;refine(l0 D _ ⟨rfl,bD,?_⟩);rw[List.all_map];exact q G p1
def atb:Sp:=λvs H Q _=>∃(b:aF)(dn rt:Int)(xs:Z V)(es:Z U),vs=[.ref b,.int dn,.int rt]/\H b=some (.tup xs)/\RepAll H es xs/\Spots es/\es.length<=64/\∀r ys H',Same H H'->H r=none->H' r=some (.tup ys)->RepAll H' (es.map<|sh1 dn rt) ys->Q (.ref r) H'
def axt:mh ZW ZW (lw Kb):={}
def asz(B:∀x∈sv,mg x=none)(F:Fun K "shifted" "shifted" Kb f fd):qr P w K mg base CX0 1 f fd ZW atb:=by
 refine F.ok (k:=0) axt (λvs H Q E h=>?_) λbQ A outer s H vs Q E hr h=>?_
 .obtain⟨b,dn,rt,xs,es,rfl,_⟩:=h;rfl
 obtain⟨b,dn,rt,xs,es,rfl,hb,rep,hs,oO,q⟩:=h;refine⟨_,(lh<|ma<|pCT ot bU<|lq (pcm ["row","column","sign","down","right"] [none,none,none,some 1,some 2] (Bu<|pv 0) (λ_=>(qo (n:=3) rfl<|ln (pgC 0)<|ln (pgC 1)<|ln (pgC 2) nc)) (λ_=>ow) λ_=>(mw<|lq (mj oq (pv 0)<|pv 3)<|lq (mj oq (pv 1)<|pv 4)<|lq (pv 2) k7)) k7),?_⟩;refine wu (sh1 dn rt) rfl rfl (.inr hb) rep hs oO (λr c z H' Q' h=>?_) (λr c z=>(l0 _ _ rfl)) λD ys H2 hD sm bD fL=>?_
 .obtain⟨u,v,e,q⟩:=h;cases (show PyData.tuple [.int (r+dn),.int<|c+rt,.str z]=.tuple [.int u,.int v,.str z]from e);exact(ni _ rfl _ rfl _ _ rfl rfl _ ⟨rfl,(m8 _ rfl _ _ rfl rfl _ ⟨rfl,sZ3,q⟩)⟩)
 .refine(l0 D ys ⟨rfl,.inl ⟨SqL.of bD,λl hl=>?_⟩⟩);have s2:Same H2 (upd H2 l<|.tup ys):=Same.fresh _ hl;exact q l ys _ (sm.trans s2) (sm.free hl) lr<|fL.same s2
def av4:Sp:=λvs H Q _=>∃(a b:aF)(M:Mat)(xs:Z V)(es:Z U),vs=[.ref a,.ref b]/\FlM H a M/\H b=some (.tup xs)/\RepAll H es xs/\(∀d∈es,SgN d)/\es.length<=6/\
 ∀(D:aF)(ys:Z V)(H':Hp),Same H H'->H' D=some (.lst ys)->RepAll H' (plS M es<|M.h*M.w) ys->Q (.ref D) H'
def scPla:mh ["floor","form","shifts"] ["floor","form"] (lw Kd):={}
def atf(B:∀x∈sv,mg x=none)(nR:Fn P w K mg base "floor_spots" 1 Z7 LM)(Mv:Fn P w K mg base "shifted" 1 ZW atb)(MB:Fn P w K mg base "may_lie" 4 ZX FY)(F:Fun K "places" "places" Kd f fd):qr P w K mg base CX0 5 f fd ["floor","form"] av4:=by
 refine F.ok (k:=4) scPla (λvs H Q E h=>?_) λbQ A outer s H vs Q E hr h=>?_
 .obtain⟨a,b,M,xs,es,rfl,_⟩:=h;rfl
 obtain⟨a,b,M,xs,es,rfl,hf,hb,rep,hs,h6,q⟩:=h;have fX:=hf.2;have AI:=fX.w1;have hhw:M.h*M.w<=64:=Nat.mul_le_mul fX.h8 fX.w8;refine⟨_,(k9 (psC 2 ["row","column","sign","form"] [none,none,none,some 1] scPla.nd (og<|pfn nR<|lq (pv 0) k7) (λ_=>(qo (n:=3) rfl<|ln (pgC 0)<|ln (pgC 1)<|ln (pgC 2) nc)) (λ_=>ow) λ_=>(pfn Mv<|lq (pv 3)<|lq (pv 0)<|lq (pv 1) k7))
  (lh<|ma<|pcm ["spots","floor"] [none,some 0] (og<|pv 2) (λ_=>(pgC 0)) (λ_=>Gr<|uy<|pfn MB<|lq (pv 1)<|lq (pv 0) k7) λ_=>(pv 0))),?_⟩
 refine(nj _ rfl a (qy M) ⟨rfl,FlM.fl hf,λD1 BH H1 s1 kE iX jH=>?_⟩);rw[ql,zf M M.h<|ao _]at jH;have Cf:=jH.length;rw[ae,g0]at Cf;refine⟨D1,rfl,⟨_,SqL.of kE⟩,λD hD=>?_⟩;refine o8 (xs:=BH) (λi zs G=>Same H1 G/\RepAll G ((e8 i).map (shT M es)) zs) ⟨Same.fresh _ hD,rfl⟩ (λi zs G p=>SqL.of<|p.1 _ _ kE) (λi x zs G hx hi bD dR p=>?_) λzs G bD dR p=>?_
 .obtain⟨p1,p2⟩:=p;obtain⟨d,hd,rd⟩:=jH.at hx;rw[bo,List.getElem?_range<|by lia]at hd;cases hd;obtain⟨b',rfl,cU,_⟩:=rn rd;refine(l7 b' _ rfl (SqT.of<|p1 _ _ cU) rfl _ _ rfl _<|nj _ rfl _ _ ⟨rfl,rfl,?_⟩);refine⟨Agree.set (Agree.set (Agree.set (Agree.refl _) rfl) rfl) rfl,?_⟩;dsimp only[jN];refine ux ?_;have sG:=s1.trans p1;refine(oj _ rfl _ rfl _ rfl b ((i/M.w:Nat):Int)<|m9 ((i % M.w:Nat):Int) xs es ⟨rfl,sG _ _ hb,rep.same sG,SgN.spots hs,by lia,λr ys G2 s2 _ hr2 fL=>?_⟩);have eG:=s2 _ _ bD;refine qm (by lia) eG dR ⟨(p1.trans s2).new hD,?_⟩;rw[j6,b9];refine((p2.same s2).snoc (show Rep G2 (shT M es i) (.ref r)from ⟨r,ys,rfl,hr2,fL⟩)).tk (Tk.lst eG) (al3 (M:=M) hs λd hd=>?_);rcases a8.mp hd with h|h
  .obtain⟨j,_,rfl⟩:=ay.mp h;exact⟨j,rfl⟩
  .exact⟨i,ar.mp h⟩
 .obtain⟨p1,p2⟩:=p;have lz:=p2.length;rw[ae,g0]at lz;have sG:=s1.trans p1;refine(ny _ rfl D ⟨rfl,⟨_,SqL.of bD⟩,λD3 jC=>?_⟩);refine o8 (xs:=zs) (λi us G3=>Same G G3/\RepAll G3 (plS M es i) us) ⟨Same.fresh _ jC,rfl⟩ (λi us G3 p=>SqL.of<|p.1 _ _ bD) (λi x us G3 hx hi zK AJ p=>?_) λus G3 zK AJ p=>?_
  .obtain⟨p3,p4⟩:=p;obtain⟨d,hd,rd⟩:=p2.at hx;rw[bo,List.getElem?_range<|by lia]at hd;cases hd;have Hf:=id rd;obtain⟨c',uD,rfl,jA,oW⟩:=rd;refine⟨Agree.set (Agree.refl _) rfl,?_⟩;refine(me _ rfl _ rfl a c' M<|l0 uD _ ⟨rfl,hf.same<|sG.trans p3,p3 _ _ jA,oW.same p3,SgN.shs hs,by rw[ae];exact h6,λG4 s4=>?_⟩);refine⟨_,rfl,?_⟩;have pJ:=s4 _ _ zK;have im:qe (plS M es<|i+1)=true:=al3 (M:=M) hs λd hd=>by
    obtain⟨j,_,e,_⟩:=plS_mem.mp hd;exact⟨j,e⟩
   refine qz (λh1=>?_) λh1=>?_
   .refine⟨_,rfl,?_⟩;refine qm (by lia) pJ AJ ⟨(p3.trans s4).new jC,?_⟩;have e1:plS M es (i+1)=plS M es i++[shT M es i]:=by rw[aie,if_pos (show mY M (shT M es i)=true from h1)]
    rw[e1]at im;rw[e1];exact((p4.same s4).snoc (Rep.same (p3.trans s4) Hf)).tk (Tk.lst pJ) im
   .refine⟨_,pJ,by lia,p3.trans s4,?_⟩;rw[aie,if_neg (show ¬mY M (shT M es i)=true from h1),fj];exact p4.same s4
  .obtain⟨p3,p4⟩:=p;rw[lz,Cf]at p4;exact q D3 us G3 (sG.trans p3) zK p4
def tE{es:Z U}(h:Zr es):∀d∈es,SgN d:=λd hd=>by obtain⟨r,c,k,rfl,hk⟩:=h.pre.sg d hd;have h1:tj (es.map sy)<=r:=xm _<|gg (f:=sy) hd;have h2:tj (es.map uh)<=c:=xm _<|gg (f:=uh) hd;rw[h.r0]at h1;rw[h.c0]at h2;refine(m9 r.toNat c.toNat k ⟨?_,hk⟩);rw[Int.toNat_of_nonneg h1,Int.toNat_of_nonneg h2]
noncomputable def unT:U->Z U
 | .tuple es=>es
 | _=>[]
noncomputable def plN(M:Mat)(n:Nat)(d:U):Z U:=(plS M (unT d)<|M.h*M.w).map λs=>.tuple [s,.int (n:Nat)]
noncomputable def plK(M:Mat)(n:Nat)(k:Z U×Nat):Z U:=(FS k.1 k.2).flatMap (plN M n)
noncomputable def raw(M:Mat)(ks:Z (Z U×Nat)):Nat->Z U
 | 0=>[]
 | i+1=>raw M ks i++(match ks[i]? with|some k=>plK M i k|none=>[])
def an0{M:Mat}{ks:Z (Z U×Nat)}{i:Nat}{k:Z U×Nat}(h:ks[i]?=some k):raw M ks (i+1)=raw M ks i++plK M i k:=by show raw M ks i++_=_;rw[h]
def PlD(d:U):Prop:=∃es n,d=.tuple [.tuple es,.int n]/\(∀e∈es,SgN e)/\0<es.length/\es.length<=6
def mem_plN{M:Mat}{n:Nat}{es:Z U}{d:U}:d∈plN M n (.tuple es)↔∃i,i<M.h*M.w/\d=.tuple [shT M es i,.int (n:Nat)]/\mY M (shT M es i)=true:=by
 unfold plN;rw[ay];constructor
 .rintro⟨s,hs,rfl⟩;obtain⟨i,hi,rfl,h⟩:=plS_mem.mp hs;exact⟨i,hi,rfl,h⟩
 .rintro⟨i,hi,rfl,h⟩;exact⟨_,plS_mem.mpr ⟨i,hi,rfl,h⟩,rfl⟩
theorem mem_raw{M:Mat}{ks:Z (Z U×Nat)}{d:U}:∀{j:Nat},d∈raw M ks j↔∃(n:Nat)(k:Z U×Nat),n<j/\ks[n]?=some k/\d∈plK M n k
 | 0=>⟨λh=>(by cases h),λ⟨n,_,h,_⟩=>absurd h<|fu _⟩
 | j+1=>by
  show d∈raw M ks j++_↔_;rw[a8,mem_raw];constructor
  .rintro(⟨n,k,h1,h2,h3⟩|h)
   .exact(l0 n k ⟨by lia,h2,h3⟩)
   .cases e:ks[j]? with
    | none=>rw[e]at h;cases h
    | some k=>rw[e]at h;exact(l0 j k ⟨by lia,e,h⟩)
  .rintro⟨n,k,h1,h2,h3⟩;by_cases hn:n<j
   .exact .inl<|l0 n k ⟨hn,h2,h3⟩
   .have:n=j:=by lia
    subst this;rw[h2];exact .inr h3
def Eh{M:Mat}{n:Nat}{k:Z U×Nat}(hz:Zr k.1){d:U}:d∈plK M n k↔∃es i,.tuple es∈FS k.1 k.2/\i<M.h*M.w/\d=.tuple [shT M es i,.int (n:Nat)]/\mY M (shT M es i)=true:=by
 unfold plK;rw[List.mem_flatMap];constructor
 .rintro⟨x,hx,h⟩;obtain⟨es,rfl,_⟩:=Ac hz x hx;obtain⟨i,h1,h2,h3⟩:=mem_plN.mp h;exact(l0 es i ⟨hx,h1,h2,h3⟩)
 .rintro⟨es,i,h1,h2,h3,h4⟩;exact⟨_,h1,mem_plN.mpr ⟨i,h2,h3,h4⟩⟩
def KsZ(ks:Z (Z U×Nat)):Prop:=∀k∈ks,Zr k.1/\k.2<=8
def F9(es:Z U)(a b:Int):(es.map<|sh1 a b).length=es.length:=ae _
def Lm{M:Mat}{n:Nat}{k:Z U×Nat}(hz:Zr k.1){d:U}(h:d∈plK M n k):PlD d:=by obtain⟨es,i,h1,h2,rfl,h4⟩:=(Eh hz).mp h;obtain⟨xI,e,pV⟩:=Ac hz _ h1;cases e;exact(l0 _ _ ⟨rfl,SgN.shs<|tE pV,by rw[F9];exact pV.pre.pos,by rw[F9];exact pV.pre.six⟩)
def Ge{M:Mat}{ks:Z (Z U×Nat)}(h:KsZ ks){j:Nat}:∀d∈raw M ks j,PlD d:=λd hd=>by obtain⟨n,k,_,h2,h3⟩:=mem_raw.mp hd;exact Lm (h k<|ai h2).1 h3
def aml{ns:Z Int}(h:0<ns.length)(m:Int):tj (ns.map λx=>x+m)=tj ns+m:=by
 refine(xk ?_ λa ha=>?_).symm
 .exact ay.mpr ⟨tj ns,vd h,rfl⟩
 .obtain⟨x,hx,rfl⟩:=ay.mp ha;have:=xm x hx;lia
def auf{es:Z U}(h:Spots es)(a b:Int):(es.map<|sh1 a b).map sy=(es.map sy).map λx=>x+a:=by rw[b7,b7];exact o6 h λr c z=>rfl
def au7{es:Z U}(h:Spots es)(a b:Int):(es.map<|sh1 a b).map uh=(es.map uh).map λx=>x+b:=by rw[b7,b7];exact o6 h λr c z=>rfl
theorem Me{α β:Type}{f:α->List β}{m:Nat}:∀{l:List α},(∀x∈l,(f x).length<=m)->(l.flatMap f).length<=l.length*m
 | [],_=>by simp
 | x::l,h=>by have h1:=h x aq;have h2:=Me λy hy=>h y<|av _ hy;rw[List.flatMap_cons,au,bp,Nat.add_mul,Nat.one_mul];lia
def LP{M:Mat}(o:OkM SgP M)(n:Nat)(d:U):(plN M n d).length<=64:=by have:=aq9 M (unT d)<|M.h*M.w;have oO:M.h*M.w<=64:=Nat.mul_le_mul o.h8 o.w8;unfold plN;rw[ae];lia
def aq2{M:Mat}(o:OkM SgP M)(n:Nat){k:Z U×Nat}(h8:k.2<=8):(plK M n k).length<=512:=by have h1:=Me (f:=plN M n) (m:=64) (l:=FS k.1 k.2) λx _=>LP o n x;have h2:=ap6 (es:=k.1) (n:=k.2);have:(plK M n k).length<=(FS k.1 k.2).length*64:=h1;lia
theorem LH{M:Mat}(o:OkM SgP M){ks:Z (Z U×Nat)}(h:KsZ ks):∀j,(raw M ks j).length<=j*512
 | 0=>by simp[raw]
 | j+1=>by
  have h1:=LH o h j;show(raw M ks j++_).length<=_;rw[au];cases e:ks[j]? with
  | none=>simp only[je];lia
  | some k=>have:=aq2 o j (h k<|ai e).2;simp only;lia
def SgN.sg{d:U}(h:SgN d):SgD d:=by obtain⟨r,c,k,e,hk⟩:=h;exact(m9 r c k ⟨e,hk⟩)
def PlD.key{d:U}(h:PlD d):Bn d/\L3.TT d:=by obtain⟨es,n,rfl,hs,_⟩:=h;have hd:=ua<|SgN.spots hs;refine⟨⟨?_,⟨_,rfl⟩,by simp[f7,bu];lia⟩,(l0 _ _ rfl)⟩;show(wv es&&(true&&true))=true;rw[Ai λd hd=>(hs d hd).sg];rfl
def PlD.cmp{ds:Z U}(h:∀d∈ds,PlD d):CmpA ds:=
 ⟨λx hx y hy=>by obtain⟨es,n,rfl,hs,_⟩:=h x hx;obtain⟨fs,m,rfl,eS,_⟩:=h y hy;exact⟨LO (λd hd=>(hs d hd).sg) λd hd=>(eS d hd).sg,trivial,trivial⟩,λx hx=>(h x hx).key.1.1⟩
theorem PlD.imm:∀{ds:Z U},(∀d∈ds,PlD d)->qe ds=true
 | [],_=>rfl
 | d::ds,a=>by obtain⟨es,n,rfl,hs,_⟩:=a d aq;have h1:=Spots.imm<|SgN.spots hs;have h2:=PlD.imm λx hx=>a x<|av _ hx;show(_root_.L3.imm (.tuple [.tuple es,.int n])&&qe ds)=true;rw[h2,Bool.and_true];show(qe es&&true)=true;rw[h1];rfl
theorem PlD.depth{d:U}(h:PlD d):d.depth<=4:=by obtain⟨es,n,rfl,hs,_⟩:=h;have hd:=ua<|SgN.spots hs;simp[f7,bu];lia
theorem PlD.depths:∀{ds:Z U},(∀d∈ds,PlD d)->bu ds<=4
 | [],_=>by simp[bu]
 | d::ds,h=>by have h1:=(h d aq).depth;have h2:=PlD.depths λe he=>h e<|av _ he;show ET d.depth (bu ds)<=4;lia
noncomputable def PL(M:Mat)(ks:Z (Z U×Nat)):Z U:=xq<|ddp<|raw M ks ks.length
def PL_mem{M:Mat}{ks:Z (Z U×Nat)}{d:U}:d∈PL M ks↔d∈raw M ks ks.length:=(qx _).mem_iff.trans ddp_mem
def ay8(M:Mat)(nk:Nat)(d:U):Prop:=∃es i n,Zr es/\d=.tuple [shT M es i,.int (n:Nat)]/\mY M (shT M es i)=true/\n<nk
def as5{M:Mat}{ks:Z (Z U×Nat)}(h:KsZ ks):∀d∈PL M ks,ay8 M ks.length d:=λd hd=>by obtain⟨n,k,h1,h2,h3⟩:=mem_raw.mp<|PL_mem.mp hd;have hz:=(h k<|ai h2).1;obtain⟨es,i,h4,_,rfl,h6⟩:=(Eh hz).mp h3;obtain⟨xI,e,pV⟩:=Ac hz _ h4;cases e;exact(m9 es i n ⟨pV,rfl,h6,h1⟩)
def KindsK.z{H:Hp}{kvs:Z V}{ks:Z (Z U×Nat)}(h:KindsK H kvs ks):KsZ ks:=λk hk=>by
 obtain⟨i,hi,rfl⟩:=List.getElem_of_mem hk;have dO:i<kvs.length:=by rw[h.1];exact hi
 obtain⟨b,nm,u1,u2,m,fr,xs,_,_,_,_,hz,hm⟩:=h.2 i _ _ (ah dO)<|ah hi;exact⟨hz,by rcases hm with h|h|h<;>lia⟩
def aew{α β:Type}{f:α->List β}{l:List α}{i:Nat}{x:α}(h:l[i]?=some x):(l.take<|i+1).flatMap f=(l.take i).flatMap f++f x:=by rw[gc,h,List.flatMap_append];simp
def ary{s:Z U}{n:Nat}{i:Nat}{x:U}(h:s[i]?=some x):(s.take<|i+1).map (λs=>PyData.tuple [s,.int (n:Nat)])=(s.take i).map (λs=>PyData.tuple [s,.int (n:Nat)])++[.tuple [x,.int (n:Nat)]]:=mq _ h
def avo:Sp:=λvs H Q _=>∃(p:aF)(M:Mat) (ks:Z (Z U×Nat)),vs=[.ref p]/\PzK H p M ks/\∀(l:aF)(ys:Z V)(H':Hp),Same H H'->H l=none->H' l=some (.lst ys)->RepAll H' (PL M ks) ys->Q (.ref l) H'
def scPlc:mh ["puzzle","found","number","kind","form"] ["puzzle"] (lw Ko):={}
def av5(B:∀x∈sv,mg x=none)(Ao:Fn P w K mg base "forms_of" 3 ZY amn)(Mx:Fn P w K mg base "places" 5 ["floor","form"] av4)(F:Fun K "placements" "placements" Ko f fd):qr P w K mg base CX0 6 f fd ["puzzle"] avo:=by
 refine F.ok (k:=5) scPlc (λvs H Q E h=>?_) λbQ A outer s H vs Q E hr h=>?_
 .obtain⟨p,M,ks,rfl,_⟩:=h;rfl
 obtain⟨p,M,ks,rfl,⟨fl,kr,e,kvs,hp,jS,mH,dY,h6⟩,q⟩:=h;have hu:=hr.units;have fX:=jS.2;have mL:=dY.z;refine⟨_,(k9 (psN 1 scPlc.nd<|oz k7)
  (k9 (pfo (pET<|lq (pix mf (pv 0) k8) k7) (qb (n:=2) rfl<|ln (zw (i:=2) scPlc.nd rfl<|Or.inr rfl)<|ln (pgN 3 scPlc.nd) nc)<|lh<|pfo (og<|pfn Ao<|lq (pix mf (pv 3) k8)<|lq (pix mf (pv 3) k8) k7) (pgN 4 scPlc.nd)<|lh<|r9<|ww ci PySem.F.slot_list_extend PySem.F.type_list_extend aeu (pv 1)<|lq (pcm ["spots","number"] [none,some 2] (og<|pfn Mx<|lq (pix mf (pv 0) k8)<|lq (pv 4) k7) (λ_=>(pgC 0)) (λ_=>ow) λ_=>(mw<|lq (pv 0)<|lq (pv 1) k7)) k7)
  (lh<|ma<|zk rfl hu rfl (B "sorted"<|by decide) rfl (B "set"<|by decide)<|lq (pv 1) k7))),?_⟩
 refine⟨sZ0,λD hD=>?_⟩;generalize g1:upd H D _=H1 at *;obtain⟨s1,d1⟩:=al hD g1;have d1:H1 D=some (.lst ([]:Z V)):=d1;refine(lj _ rfl p _ _ _ ⟨rfl,rfl,SqT.of<|s1 _ _ hp,lg (j:=1) rfl,kr,rfl,⟨_,SqT.of<|s1 _ _ mH⟩,?_⟩);refine Gh (xs:=kvs) (λi σ' G=>∃(y2 y3 y4:Option V)(ys:Z V),σ'=[some (.ref p),some<|.ref D,y2,y3,y4]/\Same H G/\G D=some (.lst ys)/\RepAll G (raw M ks i) ys) ?_ (λi σ' G h=>?_) (λi x pr σ' G hx kZ h=>?_) λσ' G h=>?_
 .exact(l9 _ _ _ ([]) ⟨rfl,s1,d1,rfl⟩)
 .obtain⟨_,_,_,_,_,sg,_⟩:=h;exact SqT.of<|sg _ _ mH
 .obtain⟨y2,y3,y4,ys,rfl,sg,hG,rep⟩:=h;have hi:i<kvs.length:=(af.mp hx).1;have wW:i<ks.length:=by rw[<-dY.1];exact hi
  have uX:=ah wW;have hk:=(dY.2 i x _ hx uX).same sg;rw[an0 uX];generalize ks[i]=kk at *;obtain⟨es,n⟩:=kk;obtain⟨b,nm,u1,u2,m,fr,xs,rfl,hb,mJ,bR,hz,hm⟩:=hk;have bR:RepAll G es xs:=bR;have hz:Zr es:=hz;have hm:zY m n:=hm;have hn:n<=8:=by rcases hm with h|h|h<;>lia
  refine(l7 pr _ rfl (SqT.of lr) rfl _ _ rfl _ ⟨_,rfl,rfl,?_⟩);generalize g1:upd G pr _=G2 at *;obtain⟨s2,_⟩:=al kZ g1;refine(lj _ rfl b _ _ _ ⟨rfl,rfl,SqT.of<|s2 _ _ hb,lg (j:=4) rfl,(lj _ rfl b _ _ _ ⟨rfl,rfl,SqT.of<|s2 _ _ hb,lg (j:=3) rfl,?_⟩)⟩);refine(lv fr m n xs es ⟨rfl,s2 _ _ mJ,bR.same s2,hz,hm,λl fs ds G3 s3 IH hl nd mem gF=>?_⟩);rw[awa hz nd mem]at gF;have hF:=Ac (n:=n) hz;have hFl:=ap6 (es:=es) (n:=n);have lf:=gF.length;have dB:=(sg.trans s2).trans s3;refine⟨l,rfl,⟨_,SqL.of hl⟩,?_⟩;have GZ:∀j,(raw M ks i++((FS es n).take j).flatMap (plN M i)).length<=4000:=λj=>by
   have h1:=LH fX mL i;have h2:=Me (f:=plN M i) (m:=64) (l:=(FS es n).take j) λx _=>LP fX i x;have h3:((FS es n).take j).length<=8:=by rw[bf];lia
   rw[au];lia
  have rpl:∀j,∀d∈raw M ks i++((FS es n).take j).flatMap (plN M i),PlD d:=λj d hd=>by
   rcases a8.mp hd with h|h
   .exact Ge mL d h
   .obtain⟨x,hx,h⟩:=List.mem_flatMap.mp h;exact Lm (k:=(es,n)) (M:=M) (n:=i) hz<|List.mem_flatMap.mpr ⟨x,ca hx,h⟩
  refine qc (xs:=fs) (λj σ' G4=>∃(y4:Option V)(zs:Z V),σ'=[some (.ref p),some<|.ref D,some<|.int (i:Nat),some<|.ref b,y4]/\Ex [D] G3 G4/\Same H G4/\G4 D=some (.lst zs)/\RepAll G4 (raw M ks i++((FS es n).take j).flatMap (plN M i)) zs) ?_ (λj σ' G4 hj h=>?_) (λj x σ' G4 hx h=>?_) λσ' G4 h=>?_
  .refine(l0 _ ys ⟨rfl,Ex.refl _ _,dB,s3 _ _<|s2 _ _ hG,?_⟩);rw[List.take_zero,List.flatMap_nil,fj];exact rep.same<|s2.trans s3
  .obtain⟨_,_,_,ex,_⟩:=h;exact SqL.of<|ex.at (λz=>by rw[z,s2 _ _ hG]at IH;cases IH) hl
  .obtain⟨y4,zs,rfl,ex,dJ,qD,eZ⟩:=h;have hj:j<fs.length:=(af.mp hx).1;obtain⟨d,hd,rd⟩:=gF.at hx;obtain⟨vK,rfl,AF⟩:=hF d<|ai hd;obtain⟨fb,xs2,rfl,AW,fL⟩:=rd;have nfb:fb≠D:=λz=>by rw[z,s3 _ _<|s2 _ _ hG]at AW;cases AW
   have GO:Tk G3 G4:=ex.one<|s3 _ _<|s2 _ _ hG;refine⟨_,rfl,.inl ⟨rfl,_,SqL.of qD⟩,?_⟩;refine(lj _ rfl p _ _ _ ⟨rfl,rfl,SqT.of<|dJ _ _ hp,lg (j:=0) rfl,(lj _ rfl fl fb M xs2 ⟨vK,rfl,jS.same dJ,ex.at nfb AW,fL.tk GO<|Spots.imm AF.pre.spots,tE AF,AF.pre.six,λD5 EC G5 s5 Dr qV=>?_⟩)⟩);have l5:=qV.length;have hp64:=LP fX i<|.tuple vK;have lpn:(plN M i<|.tuple vK).length=(plS M vK<|M.h*M.w).length:=ae _;refine⟨D5,rfl,⟨_,SqL.of Dr⟩,λD6 pI=>?_⟩;refine o8 (xs:=EC) (λt us G6=>Same G5 G6/\RepAll G6 (((plS M vK<|M.h*M.w).take t).map λs=>PyData.tuple [s,.int (i:Nat)]) us) ⟨Same.fresh _ pI,rfl⟩ (λt us G6 p=>SqL.of<|p.1 _ _ Dr) (λt x us G6 hx6 hi6 zJ Cp p=>?_) λus G6 zJ Cp p=>?_
   .obtain⟨p1,p2⟩:=p;obtain⟨d6,hd6,rd6⟩:=qV.at hx6;refine⟨Agree.set (Agree.refl _) rfl,?_⟩;dsimp only[jN];refine ux ?_;refine(ny _ rfl _ ⟨rfl,sZ2,λt7 Cr=>?_⟩);generalize g1:upd G6 t7 _=G7 at *;obtain⟨s7,c7⟩:=al Cr g1;have vG:=s7 _ _ zJ;refine qm (by lia) vG Cp ⟨(p1.trans s7).new pI,?_⟩;rw[ary hd6];have rx:Rep G7 (.tuple [d6,.int (i:Nat)]) (.ref t7):=(mz t7 _ rfl c7 _ _ rfl (Rep.same (p1.trans s7) rd6) _ ⟨_,rfl,rfl,rfl⟩);refine((p2.same s7).snoc rx).tk (Tk.lst vG) (PlD.imm λdx hdx=>?_);have hm6:dx∈plN M i (.tuple vK):=by
     rcases a8.mp hdx with h|h
     .obtain⟨y,hy,rfl⟩:=ay.mp h;exact gg<|ca hy
     .rw[ar.mp h];exact gg<|ai hd6
    exact Lm (k:=(es,n)) (M:=M) (n:=i) hz<|List.mem_flatMap.mpr ⟨_,ai hd,hm6⟩
   .obtain⟨p1,p2⟩:=p;rw[aw (by lia)]at p2;have p2:RepAll G6 (plN M i<|.tuple vK) us:=p2;have sB:=s5.trans p1;have hG6:=sB _ _ qD;have lz:=eZ.length;have lu:=p2.length;have:=GZ j;refine(l9 D D6 zs us ⟨rfl,rfl,hG6,zJ,fh<|by rw[cE];lia,?_⟩);refine(l0 _ (zs++us) ⟨rfl,(ex.trans<|Ex.of_same (W:=[D]) sB).trans (Ex.upd<|by simp),(dJ.trans sB).new hD,lr,?_⟩);rw[aew hd,<-bq];have ap:=(eZ.same sB).append p2;refine ap.tk (Tk.lst hG6)<|PlD.imm ?_;have:=rpl<|j+1;rw[aew hd,<-bq]at this;exact this
  .obtain⟨y4,zs,rfl,ex,dJ,qD,eZ⟩:=h;rw[aw (by lia)]at eZ;exact(l9 _ _ _ zs ⟨rfl,dJ,qD,eZ⟩)
 .obtain⟨y2,y3,y4,ys,rfl,sg,hG,rep⟩:=h;have yL:=LH fX mL ks.length;have hl:=dY.1;rw[hl]at rep;refine(ph _ rfl D ys (raw M ks ks.length) ⟨rfl,hG,rep,λd hd=>(Ge mL d hd).key,PlD.cmp<|Ge mL,by lia,λds l zs nd mem fJ rz=>?_⟩);have e:xq ds=PL M ks:=ab5 ((List.perm_ext_iff_of_nodup nd<|Ga _).mpr λd=>(mem d).trans ddp_mem.symm)<|(PlD.cmp<|Ge (M:=M) mL (j:=ks.length)).sub λd hd=>(mem d).mp hd;rw[e]at rz;exact q l zs _ (sg.trans<|Same.fresh _ fJ) (sg.free fJ) lr rz
def an4{g k:Nat}:([PyData.str ⟨#[46]⟩,PyData.str ⟨#[44]⟩,.str ⟨#[k]⟩,.str ⟨#[lo1 k]⟩].any λe=>br e<|.str ⟨#[g]⟩)=okS g k:=by
 have e1:∀a:Nat,br (.str ⟨#[a]⟩) (.str ⟨#[g]⟩)=(g==a):=λa=>by
  show((⟨#[a]⟩:Str)==⟨#[g]⟩)=_;rw[jd,beq_iff_eq,beq_iff_eq];constructor
  .intro e;injection e with e
   injection e with e
   injection e with e
   exact e.symm
  .intro e;rw[e]
 simp only[List.any_cons,List.any_nil,Bool.or_false,e1];unfold okS;rw[Bool.or_assoc,Bool.or_assoc]
def scRoom:mh ["_law_floor_here","_law_spots","_law_row","_law_column","_law_sign"] ZO (lw KL):={}
def art(B:∀x∈sv,mg x=none)(F:Fun K "_law_room" "_law_room" KL f fd):qr P w K mg base CX0 1 f fd ZO FY:=by
 refine F.ok (k:=0) scRoom (λvs H Q E h=>?_) λbQ A outer s H vs Q E hr h=>?_
 .obtain⟨a,b,M,xs,es,rfl,_⟩:=h;rfl
 obtain⟨a,b,M,xs,es,rfl,hf,hb,rep,hs,h6,q⟩:=h;have hl:=rep.length;have hu:=hr.units;obtain⟨ha,fX⟩:=id hf;have h1:=fX.h1;refine⟨_,(k9 (pfo (vx<|pv 1) (qb (n:=3) rfl<|ln (pgN 2 scRoom.nd)<|ln (pgN 3 scRoom.nd)<|ln (pgN 4 scRoom.nd) nc) (k9 (qa (PW.pt<|qJ (zz<|GD FW vQ k8 (pv 2)<|pCB mn cg<|lq (pv 0) k7)<|wx<|zz<|GD FW vQ k8 (pv 3)<|pCB qd cg<|lq (pix mf (pv 0) k8) k7) (lh<|ma vS) np)
  (lh<|qa (m7 (vt hu) (pix Bx (pix mf (pv 0)<|pv 2)<|pv 3) (mw<|lq oh<|lq oh<|lq (pv 4)<|lq (D0 ku PySem.F.slot_str_lower PySem.F.type_str_lower L1<|pv 4) k7) rfl) (lh<|ma vS) np)))
  (lh<|ma vS)),?_⟩
 refine(ny _ rfl b ⟨rfl,⟨_,SqT.of hb⟩,?_⟩);refine xp (xs:=xs) (λi σ' G=>∃(y2 y3 y4:Option V),σ'=[some (.ref a),some<|.ref b,y2,y3,y4]/\Same H G/\(es.take i).all (tD M)=true) ?_ (λi σ' G hi h=>?_) (λi x σ' G hx h=>?_) λσ' G h=>?_
 .exact(m9 _ _ _ ⟨rfl,Same.refl _,rfl⟩)
 .obtain⟨_,_,_,_,sg,_⟩:=h;exact SqT.of<|sg _ _ hb
 .obtain⟨y2,y3,y4,rfl,sg,aS⟩:=h;obtain⟨d,hd,rd⟩:=rep.at hx;obtain⟨r,c,k,rfl,lB,AT⟩:=hs d<|ai hd;obtain⟨b',rfl,cU,_⟩:=rn rd;have pK:okS (gA M r c) k=false->∀G',Same H G'->Q (.bl false) G':=λhb G' s'=>by
   have e:mY M (.tuple es)=false:=by show es.all (tD M)=false;rw[List.all_eq_false];exact⟨_,ai hd,by rw[D8,hb];exact am⟩
   rw[e]at q;exact q G' s'
  have out:¬(r<M.h/\c<M.w)->okS (gA M r c) k=false:=λh=>by
   unfold gA;rw[if_neg h];have:∀k<91,65<=k->okS 35 k=false:=by decide +kernel
   exact this k (by lia) lB
  refine(l7 b' _ rfl (SqT.of<|sg _ _ cU) rfl _ _ rfl _<|nj _ rfl _ _ ⟨rfl,rfl,?_⟩);have rZ:=sg _ _ ha;refine(m8 _ rfl _ _ rfl rfl _ ⟨rfl,?_⟩);refine qz (λc1=>?_) λc1=>absurd (decide_eq_true<|by show(0:Int)<=(r:Nat);lia) c1;refine(m8 _ rfl a _ rfl (.inr<|SqT.of rZ) _<|ng _ rfl rfl _ ⟨rfl,?_⟩);refine qz (λc2=>?_) λc2=>?_
  .have JT:¬(((r:Nat):Int)<(((qy M).map V.str).length:Nat)):=by simpa using c2
   rw[ae,ql]at JT;refine ux ?_;exact pK (out<|by lia) G sg
  have AL:r<M.h:=by
   have:((r:Nat):Int)<(((qy M).map V.str).length:Nat):=by simpa using c2
   rw[ae,ql]at this;lia
  have xA:atI ((qy M).map V.str) (r:Int)=some (.str ⟨(o7 M r).toArray⟩):=lg<|wl AL;have sR:atI ((qy M).map V.str) 0=some (.str ⟨(o7 M 0).toArray⟩):=lg (j:=0)<|wl h1;have zl:∀r,(⟨(o7 M r).toArray⟩:Str).length<=aC:=λr=>by rw[oe];exact DU fX
  refine(m8 _ rfl _ _ rfl rfl _ ⟨rfl,?_⟩);refine qz (λc3=>?_) λc3=>absurd (decide_eq_true<|by show(0:Int)<=(c:Nat);lia) c3;refine(lj _ rfl a _ _ _ ⟨rfl,rfl,SqT.of rZ,sR,(ng _ rfl (zl 0) _<|ng _ rfl rfl _ ⟨rfl,?_⟩)⟩);refine qz (λc4=>?_) λc4=>?_
  .have JS:¬(((c:Nat):Int)<((⟨(o7 M 0).toArray⟩:Str).length:Nat)):=by simpa using c4
   rw[oe]at JS;exact pK (out<|by lia) G sg
  have A1:c<M.w:=by
   have:((c:Nat):Int)<((⟨(o7 M 0).toArray⟩:Str).length:Nat):=by simpa using c4
   rw[oe]at this;lia
  have eg:gA M r c=M.g r c:=by unfold gA;rw[if_pos ⟨AL,A1⟩]
  refine(me _ rfl _ rfl a _ _ ⟨_,rfl,rfl,SqT.of rZ,xA,(ph _ rfl _ _ (M.g r c) ⟨rfl,rfl,zl r,?_,?_⟩)⟩)
  .refine lg ?_;show(o7 M r).toArray.toList[c]?=_;rw[List.toList_toArray];exact zn A1
  refine(ny _ rfl _ ⟨rfl,rfl,k,rfl,rfl,by lia,sZ4,λp hp=>?_⟩);have zR:bw "." = ⟨#[46]⟩:=by decide +kernel
  have FE:bw "," = ⟨#[44]⟩:=by decide +kernel
  rw[zR,FE];generalize g1:upd G p _=G2 at *;obtain⟨s2,c2⟩:=al hp g1;have tQ:lo1 k<128:=by
   have:∀k<128,lo1 k<128:=by decide +kernel
   exact this k<|by lia
  have hg:=zX<|fX.sg r c AL A1;refine(l9 (.str ⟨#[M.g r c]⟩) p _ ([.str ⟨#[46]⟩,.str ⟨#[44]⟩,.str ⟨#[k]⟩,.str ⟨#[lo1 k]⟩]) ⟨⟨rfl,ok1 hg⟩,rfl,.inr c2,(mz _ _ rfl ⟨rfl,ok1<|by decide⟩ _ _ rfl ⟨rfl,ok1<|by decide⟩ _<|ng _ rfl ⟨rfl,ok1<|by lia⟩ _ ⟨_,rfl,⟨rfl,ok1 tQ⟩,rfl⟩),by simp[f7],_,rfl,?_⟩);rw[an4,<-eg];refine qz (λh1=>?_) λh1=>?_
  .rw[if_pos rfl]at h1;exact pK (by simpa using h1) G2<|sg.trans s2
  .rw[if_pos rfl]at h1;refine(m9 _ _ _ ⟨rfl,sg.trans s2,?_⟩);rw[gc,hd];rw[List.all_append,aS,Bool.true_and];show(tD M _&&true)=true;rw[Bool.and_true,D8];simpa using h1
 .obtain⟨y2,y3,y4,rfl,sg,aS⟩:=h;rw[aw (by lia)]at aS;rw[show mY M (.tuple es)=true from aS]at q;exact q G sg
noncomputable def clD(r c:Int):U:=.tuple [.int r,.int c]
def as9{H:Hp}{r c:Int}{v:V}(h:Rep H (clD r c) v):∃a,v=.ref a/\H a=some (.tup [.int r,.int c]):=by obtain⟨a,xs,rfl,ha,z1,t1,rfl,h1,z2,t2,rfl,h2,rfl⟩:=h;cases (show z1=_ from h1);cases (show z2=_ from h2);exact⟨a,rfl,ha⟩
noncomputable def chV(k:Nat):V:=.str ⟨#[k]⟩
noncomputable def ve(k:Nat):Bool:=k==46||big k
noncomputable def oix(M:Mat)(k:Nat):Z Nat:=(e8 k).filter λi=>!(M.g (i/M.w) (i % M.w)==35)
noncomputable def cdx(M:Mat)(i:Nat):U:=clD ((i/M.w:Nat):Int) ((i % M.w:Nat):Int)
def aox(M:Mat)(k:Nat):oix M (k+1)=oix M k++if (!(M.g (k/M.w) (k % M.w)==35))=true then[k]else[]:=by
 unfold oix;rw[j6,List.filter_append]
 congr 1
 cases h:!(M.g (k/M.w) (k % M.w)==35)<;>simp[h]
def ar9(M:Mat)(l:Z Nat):qe (l.map<|cdx M)=true:=sr λd hd=>by obtain⟨i,_,rfl⟩:=ay.mp hd;rfl
def scMust:mh Z2 Z8 (lw KS):={}
def asq(gV:GS mg "COVERED" ".")(EB:JZ P w K mg base)(Ar:Fn P w K mg base "is_sign" 1 Z6 KI)(F:Fun K "must_be" "must_be" KS f fd):qr P w K mg base CX0 2 f fd Z8 (xQ λk=>.bl<|ve k):=by
 refine F.ok (k:=1) scMust (λvs H Q E h=>?_) λbQ A outer s H vs Q E hr h=>?_
 .obtain⟨a,b,M,r,c,rfl,_⟩:=h;rfl
 obtain⟨a,b,M,r,c,rfl,hf,hb,q⟩:=h;dsimp only at q;refine⟨_,(k9 (psN 2 scMust.nd<|pfn EB<|lq (pv 0)<|lq (pv 1) k7)
  (lh<|ma<|ax2 (wb uv (pv 2) (Gy gV rfl)<|nr _)<|By<|pfn Ar<|lq (pv 2) k7)),?_⟩
 refine(me _ rfl _ rfl a b M<|l0 r c ⟨rfl,hf,hb,?_⟩);generalize gA M r c=g at *;have zR:bw "." = ⟨#[46]⟩:=by decide +kernel
 have ed:decide (V.str ⟨#[g]⟩=V.str (bw "."))=(g==46):=xf _ 46 zR;refine(ng _ rfl rfl _ ⟨rfl,?_⟩);rw[ed];refine qz (λh=>?_) λh=>?_
 .unfold ve at q;rw[h,Bool.true_or]at q;exact q
 .have h':(g==46)=false:=Bool.eq_false_iff.mpr h;unfold ve at q;rw[h',Bool.false_or]at q;exact(ny _ rfl _ ⟨rfl,q⟩)
def JV:Sp:=λvs H Q _=>∃(a:aF)(M:Mat),vs=[.ref a]/\FlM H a M/\∀(D:aF)(ys:Z V)(H':Hp),Same H H'->H D=none->H' D=some (.lst ys)->RepAll H' ((oix M<|M.h*M.w).map (cdx M)) ys->Q (.ref D) H'
def az1:mh Z7 Z7 (lw sOc):={}
def aya(gC:GS mg "CLOSED" "#")(nR:Fn P w K mg base "floor_spots" 1 Z7 LM)(F:Fun K "open_cells" "open_cells" sOc f fd):qr P w K mg base CX0 2 f fd Z7 JV:=by
 refine F.ok (k:=1) az1 (λvs H Q E h=>?_) λbQ A outer s H vs Q E hr h=>?_
 .obtain⟨a,M,rfl,_⟩:=h;rfl
 obtain⟨a,M,rfl,hf,q⟩:=h;have fX:=hf.2;have AI:=fX.w1;have hhw:M.h*M.w<=64:=Nat.mul_le_mul fX.h8 fX.w8;refine⟨_,(lh<|ma<|pcm ["row","column","sign"] [none,none,none] (og<|pfn nR<|lq (pv 0) k7) (λ_=>(qo (n:=3) rfl<|ln (pgC 0)<|ln (pgC 1)<|ln (pgC 2) nc)) (λ_=>Gr<|m7 DN (pv 2) (Gy gC rfl)<|nr _) λ_=>(mw<|lq (pv 0)<|lq (pv 1) k7)),?_⟩;refine(nj _ rfl a (qy M) ⟨rfl,FlM.fl hf,λD1 BH H1 s1 kE iX jH=>?_⟩);rw[ql,zf M M.h<|ao _]at jH;have Cf:=jH.length;rw[ae,g0]at Cf;refine⟨D1,rfl,⟨_,SqL.of kE⟩,λD hD=>?_⟩;refine o8 (xs:=BH) (λi zs G=>Same H1 G/\RepAll G ((oix M i).map (cdx M)) zs) ⟨Same.fresh _ hD,rfl⟩ (λi zs G p=>SqL.of<|p.1 _ _ kE) (λi x zs G hx hi bD dR p=>?_) λzs G bD dR p=>?_
 .obtain⟨p1,p2⟩:=p;obtain⟨d,hd,rd⟩:=jH.at hx;rw[bo,List.getElem?_range<|by lia]at hd;cases hd;obtain⟨b',rfl,cU,_⟩:=rn rd;refine(l7 b' _ rfl (SqT.of<|p1 _ _ cU) rfl _ _ rfl _<|nj _ rfl _ _ ⟨rfl,rfl,?_⟩);refine⟨Agree.set (Agree.set (Agree.set (Agree.refl _) rfl) rfl) rfl,?_⟩;have JN:bw "#" = ⟨#[35]⟩:=by decide +kernel
  have ed:(!decide (V.str ⟨#[M.g (i/M.w) (i % M.w)]⟩=V.str (bw "#"))) = !(M.g (i/M.w) (i % M.w)==35):=by rw[xf _ 35 JN]
  refine(ng _ rfl rfl _ ⟨rfl,?_⟩);rw[ed];have os:=aox M i;refine qz (λh=>?_) λh=>?_
  .rw[if_pos h]at os;refine(ny _ rfl _ ⟨rfl,sZ2,λt ht=>?_⟩);generalize g1:upd G t _=G2 at *;obtain⟨s2,e2⟩:=al ht g1;have eG:=s2 _ _ bD;refine qm (by lia) eG dR ⟨(p1.trans s2).new hD,?_⟩;rw[os,b9];refine((p2.same s2).snoc (qk e2)).tk (Tk.lst eG) ?_;have:=ar9 M<|oix M i++[i];rw[b9]at this;exact this
  .rw[if_neg h,fj]at os;exact⟨_,bD,Nat.le_succ_of_le dR,p1,by rw[os];exact p2⟩
 .obtain⟨p1,p2⟩:=p;rw[Cf]at p2;exact q D zs G (s1.trans p1) (s1.free hD) bD p2
noncomputable def chD(a:Nat):U:=.str ⟨#[a]⟩
noncomputable def prB(bG:Z U)(a b:Nat):Bool:=bG.any λe=>br e<|.tuple [chD a,chD b]
noncomputable def DK(bG:Z U)(a b:Nat):Bool:=prB bG (iA a b)<|ET a b
theorem aa1{a b:Nat}{es:Z U}(pe:es.Perm [chD a,chD b])(so:es.Pairwise (λx y=>ltX y x=false)):es=[chD (iA a b),chD<|ET a b]:=by
 have hl:=pe.length_eq
 match es,hl with
 | [x,y],_=>
  have hx:=pe.mem_iff.mp<|aq (a:=x) (l:=[y]);have rS:∀c d:Nat,ltX (chD d) (chD c)=false->c<=d:=λc d h=>by have h:=of_decide_eq_false h;exact Nat.le_of_not_lt λz=>h<|List.Lex.rel z
  have h1:=(gk.mp so).1 y (ar.mpr rfl);rcases a7.mp hx with rfl|hx
  .have hy:y=chD b:=List.singleton_perm_singleton.mp<|(List.perm_cons _).mp pe;subst hy;have:=rS _ _ h1;rw[gd this,Nat.max_eq_right this]
  .have hx:=ar.mp hx;subst hx;have hy:y=chD a:=List.singleton_perm_singleton.mp<|(List.perm_cons _).mp (pe.trans<|List.Perm.swap _ _ _);subst hy;have:=rS _ _ h1;rw[Nat.min_eq_right this,Nat.max_eq_left this]
def avr:Sp:=λvs H Q _=>∃(e:aF)(a b:Nat)(gS:Z V)(bG:Z U),vs=[.ref e,chV a,chV b]/\a<128/\b<128/\H e=some (.tup gS)/\RepAll H bG gS/\∀(H':Hp),Same H H'->Q (.bl<|DK bG a b) H'
def axm:mh ZV ZV (lw Kc):={}
def atc(B:∀x∈sv,mg x=none)(F:Fun K "is_kept_apart" "is_kept_apart" Kc f fd):qr P w K mg base CX0 1 f fd ZV avr:=by
 refine F.ok (k:=0) axm (λvs H Q E h=>?_) λbQ A outer s H vs Q E hr h=>?_
 .obtain⟨_,_,_,_,_,rfl,_⟩:=h;rfl
 obtain⟨e,a,b,gS,bG,rfl,ha,hb,he,rep,q⟩:=h;have hu:=hr.units;refine⟨_,(lh<|ma<|wb (Gg hu) (pCT ot bU<|lq (pCB v8 kg<|lq (oz<|lq (pv 1)<|lq (pv 2) k7) k7) k7) (pv 0) rfl),?_⟩;refine(ny _ rfl _ ⟨rfl,sZ2,λl hl=>?_⟩);generalize g1:upd H l _=H1 at *;obtain⟨s1,e1⟩:=al hl g1;refine(m9 l _ ([.str ⟨#[a]⟩,.str ⟨#[b]⟩]) ⟨rfl,e1,(qi _ _ rfl ⟨rfl,ok1 ha⟩ _ _ ⟨rfl,⟨rfl,ok1 hb⟩,rfl⟩),(λd hd=>?_),λl2 ys es fJ pe so re=>?_⟩)
 .simp only[a7,i9,or_false]at hd;rcases hd with rfl|rfl<;>exact⟨_,rfl⟩
 generalize g1:upd H1 l2 _=H2 at *;obtain⟨s2,e2⟩:=al fJ g1;refine(l0 l2 ys ⟨rfl,.inl ⟨SqL.of e2,λt ht=>?_⟩⟩);generalize g1:upd H2 t _=H3 at *;obtain⟨s3,e3⟩:=al ht g1;have kA:=(s1.trans s2).trans s3;cases aa1 pe so;exact(lj _ rfl (.tuple _) e gS bG ⟨(l0 t ys ⟨rfl,e3,re.same s3⟩),rfl,.inr<|kA _ _ he,rep.same kA,(by simp[f7,bu,chD]),q H3 kA⟩)
noncomputable def rf(r c:Nat):Z Key:=[Sum.inl ((r:Nat):Int),Sum.inl ((c:Nat):Int)]
def sk{r c r' c':Nat}(h:rf r c=rf r' c'):r=r'/\c=c':=by
 unfold rf at h;injection h with h1 h2
 injection h2 with h2 _
 exact⟨Int.ofNat.inj<|Sum.inl.inj h1,Int.ofNat.inj<|Sum.inl.inj h2⟩
def TkD(kvs:Z (Z Key×V)):Prop:=∀r c v,rs kvs (rf r c)=some v->∃k:Nat,v=.str ⟨#[k]⟩/\65<=k/\k<=90
def TkS(kvs:Z (Z Key×V))(h w:Nat)(e:U):Prop:=∃r c k:Nat,e=.tuple [.int (r:Nat),.int (c:Nat),.str ⟨#[k]⟩]/\r<h/\c<w/\65<=k/\k<=90/\rs kvs (rf r c)=some (.str ⟨#[k]⟩)
def FrS(kvs:Z (Z Key×V))(h w:Nat)(e:U):Prop:=∃r c k:Nat,e=.tuple [.int (r:Nat),.int (c:Nat),.str ⟨#[k]⟩]/\r<h/\c<w/\65<=k/\k<=90/\rs kvs (rf r c)=none
def LdD(kvs:Z (Z Key×V))(h w:Nat)(ks:Z (Z U×Nat))(d:U):Prop:=∃(n:Nat)(k:Z U×Nat)(es:Z U)(dn rt:Nat),ks[n]?=some k/\.tuple es∈FS k.1 k.2/\dn<h/\rt<w/\d=.tuple [.tuple (es.map<|sh1 (dn:Nat) (rt:Nat)),.int (n:Nat)]/\∀e∈es.map (sh1 (dn:Nat) (rt:Nat)),TkS kvs h w e
def LdD.pl{kvs:Z (Z Key×V)}{h w:Nat}{ks:Z (Z U×Nat)}{d:U}(hk:KsZ ks)(a:LdD kvs h w ks d):PlD d:=by obtain⟨n,k,es,dn,rt,h1,h2,h3,h4,rfl,h5⟩:=a;obtain⟨xI,e,hz⟩:=Ac (hk k<|ai h1).1 _ h2;cases e;exact(l0 _ _ ⟨rfl,SgN.shs<|tE hz,by rw[F9];exact hz.pre.pos,by rw[F9];exact hz.pre.six⟩)
def av9{es:Z U}{n:Nat}(h:0<n):0<(FS es n).length:=by have:we es 0∈FS es n:=(qx _).mem_iff.mpr (ddp_mem.mpr<|mem_forms.mpr ⟨0,h,rfl⟩);exact List.length_pos_of_mem this
def awu{es:Z U}(h:Zr es)(a b:Int):((es.map<|sh1 a b).map cl).Nodup:=by
 have e:(es.map<|sh1 a b).map cl=(es.map cl).map λp=>(p.1+a,p.2+b):=by rw[b7,b7];exact o6 h.pre.spots λr c z=>rfl
 rw[e];refine gi.mpr<|List.Pairwise.imp ?_ h.pre.nd;intro p q hpq e;injection e with e1 e2
 exact hpq<|Prod.ext (by lia)<|by lia
structure Li(H G:Hp)(ly tk:aF)(kvs:Z (Z Key×V))(xs:Z V)(fW:Z U):Prop where
 sm:Same H G
 htk:G tk=some (.dT kvs)
 hly:G ly=some (.lst xs)
 rep:RepAll G fW xs
theorem Li.same{H G G':Hp}{ly tk:aF}{kvs:Z (Z Key×V)}{xs:Z V}{fW:Z U}(a:Li H G ly tk kvs xs fW)(s:Same G G'):Li H G' ly tk kvs xs fW:=⟨a.sm.trans s,s _ _ a.htk,s _ _ a.hly,a.rep.same s⟩
def K8{G:Hp}{tk:aF}{kvs bN:Z (Z Key×V)}(h:G tk=some (.dT kvs)):Tk G (upd G tk<|.dT bN):=λc zs hc=>by rw[nu (λe=>by rw[e,h]at hc;cases hc)];exact hc
def ap4:Sp:=λvs H Q _=>∃(kd cl:aF)(h wd:Nat)(kv:Z V) (ks:Z (Z U×Nat)) (ns:Z Int),vs=[.ref kd,.int (h:Nat),.int (wd:Nat),.ref cl]/\H kd=some (.lst kv)/\KindsK H kv ks/\0<ks.length/\ks.length<=6/\H cl=some (.lst<|ns.map V.int)/\ns.length<=12/\0<h/\h<=8/\0<wd/\wd<=8/\
 ∀(p ly tk:aF)(G:Hp) (kvs:Z (Z Key×V)) (xs:Z V) (fW:Z U),Li H G ly tk kvs xs fW->H ly=none->G p=some (.tup [.ref ly,.ref tk])->TkD kvs->(∀d∈fW,LdD kvs h wd ks d)->fW.length<=12->Q (.ref p) G
def scLaid:mh ["_law_kinds_here","_law_high","_law_wide","_law_cells","_law_laid_here","_law_taken","_law_cell","_law_xs","_law_number","_law_forms_here","_law_spots","_law_row","_law_column","_law_sign","_law_free"] ZN (lw KM):={}
theorem aqd(B:∀x∈sv,mg x=none)(jO:Fn P w K mg base "_law_mixed" 1 Z5 Ab)(lH:Fn P w K mg base "_law_forms" 3 ["_law_kind"] Mb)(F:Fun K "_law_laid" "_law_laid" KM f fd):qr P w K mg base CX0 4 f fd ZN ap4:=by
 refine F.ok (k:=3) scLaid (λvs H Q E h=>?_) λbQ A outer s H vs Q E hr h=>?_
 .obtain⟨kd,cl,h,wd,kv,ks,ns,rfl,_⟩:=h;rfl
 obtain⟨kd,cA,h,wd,kv,ks,ns,rfl,yW,dY,lB,tS,kP,yR,IS,hh8,AI,HH,q⟩:=h;have hu:=hr.units;have mL:=dY.z;refine⟨_,(k9 (psN 4 scLaid.nd<|oz k7)
  (k9 (yq (i:=5) scLaid.nd rfl (Or.inr rfl) Gx)
  (k9 (pfo (og<|pv 3) (pgN 6 scLaid.nd) (k9 (psN 7 scLaid.nd<|pfn jO<|lq (pv 6)<|lq k8 k7)
  (k9 (psN 8 scLaid.nd<|mj oo (pix my (pv 7) k8)<|pCB mn cg<|lq (pv 0) k7)
  (k9 (psN 9 scLaid.nd<|pfn lH<|lq (pix my (pv 0)<|pv 8) k7)
  (k9 (psN 10 scLaid.nd<|oz k7)
  (k9 (pfo (vx<|pix my (pv 9)<|mj oo (pix my (pv 7) k8)<|pCB mn cg<|lq (pv 9) k7) (qb (n:=3) rfl<|ln (pgN 11 scLaid.nd)<|ln (pgN 12 scLaid.nd)<|ln (pgN 13 scLaid.nd) nc)<|lh<|r9<|ww ci fc ff pw (pv 10)<|lq (mw<|lq (mj oq (pv 11)<|mj oo (pix my (pv 7) k8)<|pv 1)<|lq (mj oq (pv 12)<|mj oo (pix my (pv 7) k8)<|pv 2)<|lq (pv 13) k7) k7)
  (k9 (psC 14 ["_law_spot","_law_high","_law_wide","_law_taken"] [none,some 1,some 2,some 5] scLaid.nd (og<|pv 10) (λ_=>(pgC 0)) (λ_=>Gr<|PW.pt<|vh (m7 vQ (pix um (pv 0) k8) (pv 1)<|nr _)<|vh (m7 vQ (pix um (pv 0) k8) (pv 2)<|nr _)<|uk<|F5<|afc (cy (cw (by decide) _) hu) (qj alo (pv 0) u9<|qf k8)<|pv 3) λ_=>(pv 0))
  (lh (qa (m7 uv (pCB mn cg<|lq (pv 14) k7) (pCB mn cg<|lq (pv 10) k7)<|nr _) (k9 (r9<|ww ci fc ff pw (pv 4)<|lq (mw<|lq (pCT ot bU<|lq (pv 10) k7)<|lq (pv 8) k7) k7)
  (lh<|pfo (og<|pv 10) (qb (n:=3) rfl<|ln (pgN 11 scLaid.nd)<|ln (pgN 12 scLaid.nd)<|ln (pgN 13 scLaid.nd) nc)<|lh<|LJ (cy (cw (by decide) _) hu) (pv 5) (mw<|lq (pv 11)<|lq (pv 12) k7) (pv 13) rfl)) np)))))))))
  (lh<|ma<|mw<|lq (pv 4)<|lq (pv 5) k7)))),?_⟩
 refine⟨sZ0,λly hly=>?_⟩;generalize g1:upd H ly _=H1 at *;obtain⟨s1,l1⟩:=al hly g1;have l1:H1 ly=some (.lst ([]:Z V)):=l1;intro tk htk;generalize g1:upd H1 tk _=H2 at *;obtain⟨s2,d2⟩:=al htk g1;have HJ:H tk=none:=s1.free htk;have nlt:ly≠tk:=λe=>by rw[<-e,l1]at htk;cases htk
 have I0:Li H H2 ly tk [] [] []:=⟨s1.trans s2,d2,s2 _ _ l1,rfl⟩;refine(ny _ rfl cA ⟨rfl,⟨_,SqL.of<|I0.sm _ _ kP⟩,?_⟩);refine qc (xs:=ns.map V.int) (λi σ' G=>∃(y6 y7 y8 y9 hJ qO qN qM xY:Option V) (kvs:Z (Z Key×V)) (xs:Z V) (fW:Z U),σ'=[some (.ref kd),some<|.int (h:Nat),some<|.int (wd:Nat),some<|.ref cA,some<|.ref ly,some<|.ref tk,y6,y7,y8,y9,hJ,qO,qN,qM,xY]/\Li H G ly tk kvs xs fW/\TkD kvs/\(∀d∈fW,LdD kvs h wd ks d)/\fW.length<=i/\kvs.length<=i*6) ?_ (λi σ' G hi hI=>?_) (λi v σ' G hv hI=>?_) λσ' G hI=>?_
 .exact(lv _ _ _ _ _<|lv _ _ _ _ ([])<|l0 ([]) ([]) ⟨rfl,I0,(λr c v e=>by cases e),(λd hd=>by cases hd),ao _,ao _⟩)
 .obtain⟨_,_,_,_,_,_,_,_,_,_,_,_,_,L,_⟩:=hI;exact SqL.of<|L.sm _ _ kP
 .obtain⟨y6,y7,y8,y9,hJ,qO,qN,qM,xY,kvs,xs,fW,rfl,L,hT,hP,iE,mI⟩:=hI;have imP:qe fW=true:=PlD.imm λd hd=>(hP d hd).pl mL;have hi12:i<12:=ck (af.mp hv).1 (by rw[ae];exact yR);obtain⟨c0,hc0,rfl⟩:=ay.mp<|ai hv;refine(nj _ rfl c0 4 ⟨rfl,by decide,λX ms G2 ⟨hm4,hmB⟩ s3 Dg hX=>?_⟩);have L2:=L.same s3;have gW:∀i:Nat,i<4->∃n:Int,(ms.map V.int)[i]?=some (.int n)/\0<=n:=λi hi=>⟨ms[i]'(by lia),by rw[bo,ah<|by lia];rfl,(hmB _<|gp _).1⟩;obtain⟨n0,e0,_⟩:=gW 0 (by decide);obtain⟨n1,e1,_⟩:=gW 1 (by decide);obtain⟨n2,e2,_⟩:=gW 2 (by decide);obtain⟨n3,e3,_⟩:=gW 3 (by decide);have lkv:kv.length=ks.length:=dY.1;obtain⟨j,hj,ej⟩:∃j:Nat,j<kv.length/\n0 % ((kv.length:Nat):Int)=(j:Nat):=⟨(n0 % ((kv.length:Nat):Int)).toNat,by have:=gj n0 (show((kv.length:Nat):Int)≠0 by lia);have:=ig n0 (show(0:Int)<(kv.length:Nat) by lia);lia,by have:=gj n0 (show((kv.length:Nat):Int)≠0 by lia);lia⟩;refine(lj _ rfl X _ _ _ ⟨rfl,rfl,SqL.of hX,lg (j:=0) e0,(m8 _ rfl kd kv rfl (.inl<|SqL.of<|L2.sm _ _ yW) _ ⟨_,rfl,rfl,by lia,?_⟩)⟩);have hjk:j<ks.length:=by lia
  have uX:=ah hjk;have hvj:=ah hj;have hK:=(dY.2 j _ _ hvj uX).same L2.sm;generalize ks[j]=kk at *;generalize kv[j]=vk at *;refine(me _ rfl _ rfl kd _ _<|pq vk rfl rfl (SqL.of<|L2.sm _ _ yW) (by show atI kv (n0 % ((kv.length:Nat):Int))=_;rw[ej];exact lg hvj) vk kk ⟨rfl,hK,λfA tU G3 s4 hfA0 hfA gF=>?_⟩);have L3:=L2.same s4;have hzk:=mL kk<|ai uX;have hF:=Ac (n:=kk.2) hzk.1;have lf:=gF.length;have fpos:0<(FS kk.1 kk.2).length:=av9 (by
   obtain⟨b,nm,u1,u2,m,fr,xs,_,_,_,_,_,hm⟩:=hK;rcases hm with h|h|h<;>lia)
  refine⟨sZ0,λD hD=>?_⟩;generalize g1:upd G3 D _=G5 at *;obtain⟨s5,d5⟩:=al hD g1;have d5:G5 D=some (.lst ([]:Z V)):=d5;have L5:=L3.same s5;have A3:=s5 _ _<|s4 _ _ hX;obtain⟨t,ht,et⟩:∃t:Nat,t<tU.length/\n1 % ((tU.length:Nat):Int)=(t:Nat):=⟨(n1 % ((tU.length:Nat):Int)).toNat,by have:=gj n1 (show((tU.length:Nat):Int)≠0 by lia);have:=ig n1 (show(0:Int)<(tU.length:Nat) by lia);lia,by have:=gj n1 (show((tU.length:Nat):Int)≠0 by lia);lia⟩;obtain⟨dt,hdt,rdt⟩:=gF.at<|ah ht;have hdm:=ai hdt;obtain⟨es,rfl,hz⟩:=hF dt hdm;obtain⟨fb,fE,efb,AW,bR⟩:=rdt;have IZ:=s5 _ _ AW;have repE5:=bR.same s5;have le:=bR.length;have h6:=hz.pre.six;obtain⟨dn,hdn,Dz⟩:∃dn:Nat,dn<h/\n2 % ((h:Nat):Int)=(dn:Nat):=⟨(n2 % ((h:Nat):Int)).toNat,by have:=gj n2 (show((h:Nat):Int)≠0 by lia);have:=ig n2 (show(0:Int)<(h:Nat) by lia);lia,by have:=gj n2 (show((h:Nat):Int)≠0 by lia);lia⟩;obtain⟨rt,hrt,Du⟩:∃rt:Nat,rt<wd/\n3 % ((wd:Nat):Int)=(rt:Nat):=⟨(n3 % ((wd:Nat):Int)).toNat,by have:=gj n3 (show((wd:Nat):Int)≠0 by lia);have:=ig n3 (show(0:Int)<(wd:Nat) by lia);lia,by have:=gj n3 (show((wd:Nat):Int)≠0 by lia);lia⟩;refine(me _ rfl _ rfl X _ _ ⟨_,rfl,rfl,SqL.of A3,lg (j:=1) e1,(m8 _ rfl fA tU rfl (.inl<|SqL.of<|s5 _ _ hfA) _ ⟨_,rfl,rfl,by lia,(l9 fA tU _ (.ref fb) ⟨rfl,rfl,SqL.of<|s5 _ _ hfA,?_,fb,rfl,⟨_,SqT.of IZ⟩,?_⟩)⟩)⟩)
  .show atI tU (n1 % ((tU.length:Nat):Int))=_;rw[et];exact lg<|by rw[ah ht,efb]
  have shi:∀k,∀d∈(es.take k).map (sh1 (dn:Nat) (rt:Nat)),SgN d:=λk=>SgN.shs λd hd=>tE hz d<|ca hd;refine xp (xs:=fE) (λk σ' G6=>∃(qO qN qM xY:Option V)(ys:Z V),σ'=[some (.ref kd),some<|.int (h:Nat),some<|.int (wd:Nat),some<|.ref cA,some<|.ref ly,some<|.ref tk,some<|.int c0,some<|.ref X,some<|.int<|n0 % ((kv.length:Nat):Int),some<|.ref fA,some<|.ref D,qO,qN,qM,xY]/\Ex [D] G5 G6/\Same G3 G6/\G6 D=some (.lst ys)/\RepAll G6 ((es.take k).map (sh1 (dn:Nat) (rt:Nat))) ys) ?_ (λk σ' G6 hk hI=>?_) (λk x σ' G6 hx hI=>?_) λσ' G6 hI=>?_
  .exact(lv _ _ _ _ ([]) ⟨rfl,Ex.refl _ _,s5,d5,rfl⟩)
  .obtain⟨_,_,_,_,_,_,_,Ax,_⟩:=hI;exact SqT.of<|Ax _ _ AW
  .obtain⟨qO,qN,qM,xY,ys,rfl,Ba,Ax,pI,iS⟩:=hI;have hk:k<fE.length:=(af.mp hx).1;obtain⟨d,hd,rd⟩:=bR.at hx;obtain⟨r0,c1,k0,rfl,rV,rT⟩:=tE hz d<|ai hd;obtain⟨b,rfl,hb,Hz⟩:=rn rd;have Hq:X≠D:=λe=>by rw[<-e,s4 _ _ hX]at hD;cases hD
   have hX6:=Ba.at Hq A3;refine(l7 b _ rfl (SqT.of<|Ax _ _ hb) rfl _ _ rfl _<|nj _ rfl _ _ ⟨rfl,rfl,?_⟩);refine(ng _ rfl (.inl ⟨rfl,_,SqL.of pI⟩) _ ⟨rfl,(lj _ rfl X _ _ _ ⟨rfl,rfl,SqL.of hX6,lg (j:=2) e2,(pj _ rfl _ _ rfl rfl (by show(0:Int)<(h:Nat);lia) _ _ ⟨rfl,rfl,(me _ rfl _ rfl X _ _ ⟨_,rfl,rfl,SqL.of hX6,lg (j:=3) e3,(pj _ rfl _ _ rfl rfl (by show(0:Int)<(wd:Nat);lia) _ _ ⟨rfl,rfl,_,rfl,sZ3,λt8 ht8=>?_⟩)⟩)⟩)⟩)⟩);rw[Dz,Du]at *;generalize g1:upd G6 t8 _=G8 at *;obtain⟨s8,c8⟩:=al ht8 g1;have A8:=s8 _ _ pI;have l6:=iS.length;rw[ae,bf]at l6;refine(m9 D ys (.ref t8) ⟨rfl,rfl,A8,mr<|by lia,?_⟩);refine(lv _ _ _ _ (ys++[.ref t8]) ⟨rfl,(Ba.trans<|Ex.of_same (W:=[D]) s8).trans (Ex.upd<|by simp),(Ax.trans s8).new hD,lr,?_⟩);have im:=shi<|k+1;rw[mq _ hd]at im;rw[mq _ hd];exact((iS.same s8).snoc (show Rep G8 (sh1 (dn:Nat) (rt:Nat)<|.tuple [.int (r0:Nat),.int (c1:Nat),.str ⟨#[k0]⟩]) (.ref t8)from x5 c8 Hz)).tk (Tk.lst A8) (Spots.imm<|SgN.spots im)
  obtain⟨qO,qN,qM,xY,ys,rfl,Ba,Ax,pI,iS⟩:=hI;rw[aw (by lia)]at iS;have uP:∀d∈es.map (sh1 (dn:Nat) (rt:Nat)),SgN d:=SgN.shs<|tE hz;have kM:=awu hz ((dn:Nat):Int) ((rt:Nat):Int);have Fa:(es.map<|sh1 (dn:Nat) (rt:Nat)).length=es.length:=ae _;have L6:=L3.same Ax;generalize Cy:es.map (sh1 (dn:Nat) (rt:Nat))=ss at *;have hys:=iS.length;have key:∀{G':Hp},Same G6 G'->G' D=some (.lst ys)/\RepAll G' ss ys:=λs'=>⟨s' _ _ pI,iS.same s'⟩;refine(ny _ rfl D ⟨rfl,⟨_,SqL.of pI⟩,λD2 eG=>?_⟩);refine o8 (xs:=ys) (λk zs G8=>Same G6 G8/\(zs.length=k->∀e∈ss.take k,FrS kvs h wd e)) ⟨Same.fresh _ eG,λ_ e he=>by cases he⟩ (λk zs G8 p=>SqL.of<|p.1 _ _ pI) (λk x zs G8 hx hk vF dR p=>?_) λzs G8 vF dR p=>?_
  .obtain⟨p2,aS⟩:=p;obtain⟨d,hd,rd⟩:=iS.at hx;obtain⟨r0,c1,k0,rfl,rV,rT⟩:=uP d<|ai hd;obtain⟨b,rfl,hb,Hz⟩:=rn rd;have Jk:=p2 _ _ hb;have EI:=p2 _ _ L6.htk;refine⟨Agree.set (Agree.refl _) rfl,?_⟩;have no:∀G9:Hp,Same G8 G9->Nx D2 k (λk zs G8=>Same G6 G8/\(zs.length=k->∀e∈ss.take k,FrS kvs h wd e)) G9:=λG9 s9=>⟨zs,s9 _ _ vF,by lia,p2.trans s9,λe=>by lia⟩;refine(lj _ rfl b _ _ _ ⟨rfl,rfl,SqT.of Jk,lg (j:=0) rfl,(m8 _ rfl _ _ rfl rfl _ ⟨rfl,?_⟩)⟩);refine qz (λh1=>?_) λh1=>iV<|no _<|Same.refl _;have fN:(r0:Int)<(h:Nat):=of_decide_eq_true h1;refine(lj _ rfl b _ _ _ ⟨rfl,rfl,SqT.of Jk,lg (j:=1) rfl,(m8 _ rfl _ _ rfl rfl _ ⟨rfl,?_⟩)⟩);refine qz (λh2=>?_) λh2=>iV<|no _<|Same.refl _;have fU:(c1:Int)<(wd:Nat):=of_decide_eq_true h2;refine⟨_,rfl,yn<|nj _ rfl b _ ⟨rfl,Jk,λt9 G9 s9 c9=>?_⟩⟩;have c9:G9 t9=some (.tup<|(rf r0 c1).map kV):=c9;refine(m8 _ rfl tk _ rfl (DGet.t (s9 _ _ EI) c9) _ ⟨rfl,?_⟩);refine qz (λh3=>?_) λh3=>no _ s9;refine⟨_,rfl,?_⟩;refine qm (by lia) (s9 _ _ vF) dR ⟨(p2.trans s9).new eG,λe=>?_⟩;have e':zs.length=k:=by rw[au,cc]at e;lia
   intro e2 lM;rw[gc,hd]at lM;rcases a8.mp lM with h|h
   .exact aS e' e2 h
   .have h:e2=.tuple [.int (r0:Nat),.int (c1:Nat),.str ⟨#[k0]⟩]:=by simpa using h
    rw[h];refine(m9 r0 c1 k0 ⟨rfl,by lia,by lia,rV,rT,?_⟩);cases hv:rs kvs (rf r0 c1)with
    | none=>rfl
    | some v=>rw[hv]at h3;cases h3
  obtain⟨p2,aS⟩:=p;have L8:=L6.same p2;have zI:=p2 _ _ pI;have lY:=iS.same p2;refine(m8 _ rfl D2 _ rfl (.inl<|SqL.of vF) _ ⟨rfl,(l0 D _ ⟨rfl,.inl<|SqL.of zI,rfl,_,rfl,?_⟩)⟩);refine qz (λh4=>?_) λh4=>?_
  .have el:zs.length=ys.length:=by
    have:=of_decide_eq_true h4;injection this with this
    lia
   have kO:=aS el;rw[aw (by lia)]at kO;refine(ng _ rfl (.inl ⟨rfl,_,SqL.of L8.hly⟩) _ ⟨rfl,(l0 D ys ⟨rfl,.inl ⟨SqL.of zI,λAC yU=>?_⟩⟩)⟩);generalize g1:upd G8 AC _=BC at *;obtain⟨gT,JU⟩:=al yU g1;refine⟨_,rfl,sZ2,λoC IG=>?_⟩;have kA:Same BC (upd BC oC<|.tup [.ref AC,.int<|n0 % ((kv.length:Nat):Int)]):=Same.fresh _ IG;have c13:upd BC oC (.tup [.ref AC,.int<|n0 % ((kv.length:Nat):Int)]) oC=some (.tup [.ref AC,.int (j:Nat)]):=by rw[lr,ej]
   generalize upd BC oC (.tup [.ref AC,.int<|n0 % ((kv.length:Nat):Int)])=Ak at *;have BB:=(L8.same gT).same kA;have lxs:=BB.rep.length;refine(m9 ly xs (.ref oC) ⟨rfl,rfl,BB.hly,mr<|by lia,?_⟩);have Hb:Rep Ak (.tuple [.tuple ss,.int (j:Nat)]) (.ref oC):=(mz oC _ rfl c13 _ _ rfl (l0 AC ys ⟨rfl,kA _ _ JU,(lY.same gT).same kA⟩) _ ⟨_,rfl,rfl,rfl⟩);have uS:PlD (.tuple [.tuple ss,.int (j:Nat)]):=(l0 ss _ ⟨rfl,uP,by have:=hz.pre.pos;lia,by lia⟩);have im2:qe (fW++[.tuple [.tuple ss,.int (j:Nat)]])=true:=PlD.imm λd hd=>by
    rcases a8.mp hd with h|h
    .exact(hP d h).pl mL
    .rw[ar.mp h];exact uS
   have Hn:D≠ly:=λe=>by have:=L3.hly;rw[<-e,hD]at this;cases this
   have ntD:D≠tk:=λe=>by have:=L3.htk;rw[<-e,hD]at this;cases this
   have BO:Tk Ak (upd Ak ly<|.lst<|xs++[.ref oC]):=Tk.lst BB.hly;have L14:Li H (upd Ak ly<|.lst<|xs++[.ref oC]) ly tk kvs (xs++[.ref oC]) (fW++[.tuple [.tuple ss,.int (j:Nat)]]):=⟨BB.sm.new hly,by rw[nu (Ne.symm nlt)];exact BB.htk,lr,(BB.rep.snoc Hb).tk BO im2⟩;have Ds:upd Ak ly (.lst<|xs++[.ref oC]) D=some (.lst ys):=by rw[nu Hn];exact kA _ _<|gT _ _ zI
   have B5:RepAll (upd Ak ly<|.lst<|xs++[.ref oC]) ss ys:=((lY.same gT).same kA).tk BO (Spots.imm<|SgN.spots uP);generalize upd Ak ly (.lst<|xs++[.ref oC])=G14 at *;refine(ny _ rfl D ⟨rfl,⟨_,SqL.of Ds⟩,?_⟩);refine qc (xs:=ys) (λk σ' G9=>∃(qO qN qM:Option V) (bN:Z (Z Key×V)),σ'=[some (.ref kd),some<|.int (h:Nat),some<|.int (wd:Nat),some<|.ref cA,some<|.ref ly,some<|.ref tk,some<|.int c0,some<|.ref X,some<|.int<|n0 % ((kv.length:Nat):Int),some<|.ref fA,some<|.ref D,qO,qN,qM,some<|.ref D2]/\Li H G9 ly tk bN (xs++[.ref oC]) (fW++[.tuple [.tuple ss,.int (j:Nat)]])/\G9 D=some (.lst ys)/\RepAll G9 ss ys/\TkD bN/\bN.length<=kvs.length+k/\(∀r c,(∀e∈ss.take k,cl e≠(((r:Nat):Int),((c:Nat):Int)))->rs bN (rf r c)=rs kvs (rf r c))/\∀e∈ss.take k,TkS bN h wd e) ?_ (λk σ' G9 hk hI=>?_) (λk v σ' G9 hv hI=>?_) λσ' G9 hI=>?_
   .exact(l9 _ _ _ kvs ⟨rfl,L14,Ds,B5,hT,ao _,(λ_ _ _=>rfl),λe he=>by cases he⟩)
   .obtain⟨_,_,_,_,_,_,h9,_⟩:=hI;exact SqL.of h9
   .obtain⟨qO,qN,qM,bN,rfl,L9,hD9,qU,Jq,IK,Fx,Fy⟩:=hI;have tS:k<ys.length:=(af.mp hv).1;obtain⟨d,hd,rd⟩:=qU.at hv;obtain⟨r0,c1,k0,rfl,yL,Ji,rV,rT,mV⟩:=kO d<|ai hd;obtain⟨b,rfl,hb,Hz⟩:=rn rd;refine(l7 b _ rfl (SqT.of hb) rfl _ _ rfl _<|nj _ rfl _ _ ⟨rfl,rfl,?_⟩);refine(qg _ rfl _ rfl _ ⟨rfl,_,rfl,sZ2,λt9 HK=>?_⟩);generalize g1:upd G9 t9 _=xW at *;obtain⟨s9,c9⟩:=al HK g1;have c9:xW t9=some (.tup<|(rf r0 c1).map kV):=c9;have Ep:=L9.same s9;refine(l0 tk _ ⟨rfl,DPut.t (k:=rf r0 c1) Ep.htk c9<|mr<|by lia,?_⟩);have tkk:Tk xW (upd xW tk<|.dT<|jE bN (rf r0 c1)<|.str ⟨#[k0]⟩):=K8 Ep.htk;have kP:∀e∈ss.take k,cl e≠(((r0:Nat):Int),((c1:Nat):Int)):=λe he e2=>by
     have h1:((ss.take<|k+1).map cl).Nodup:=List.Nodup.sublist (List.Sublist.map _<|j3 _ _) kM;rw[gc,hd,b9,List.nodup_append]at h1;exact h1.2.2 _ (gg he) (cl<|.tuple [.int (r0:Nat),.int (c1:Nat),.str ⟨#[k0]⟩]) (gg<|ar.mpr rfl) e2
    refine(l9 _ _ _ _ ⟨rfl,⟨Ep.sm.new HJ,lr,by rw[nu nlt];exact Ep.hly,Ep.rep.tk tkk im2⟩,by rw[nu ntD];exact s9 _ _ hD9,(qU.same s9).tk tkk (Spots.imm<|SgN.spots uP),λr1 c2 v1 e1=>?_,?_,λr1 c2 fI=>?_,λe he=>?_⟩)
    .rw[wn]at e1;split at e1
     .cases e1;exact⟨k0,rfl,rV,rT⟩
     .exact Jq r1 c2 v1 e1
    .have:=sd bN (rf r0 c1)<|V.str ⟨#[k0]⟩;lia
    .rw[wn,if_neg λe=>?_]
     .exact Fx r1 c2 λe he=>fI e<|by rw[gc];exact g9 _ he
     .obtain⟨e3,e4⟩:=sk e;exact fI (.tuple [.int (r0:Nat),.int (c1:Nat),.str ⟨#[k0]⟩]) (by rw[gc,hd];exact cm _<|ar.mpr rfl)<|by show(((r0:Nat):Int),((c1:Nat):Int))=_;rw[e3,e4]
    .rw[gc,hd]at he;rcases a8.mp he with h|h
     .obtain⟨r1,c2,k1,rfl,a1,a2,a3,a4,a5⟩:=Fy e h;refine(m9 r1 c2 k1 ⟨rfl,a1,a2,a3,a4,?_⟩);rw[wn,if_neg λe=>?_]
      .exact a5
      .obtain⟨e3,e4⟩:=sk e;subst e3;subst e4;exact kP _ h rfl
     .have h:e=.tuple [.int (r0:Nat),.int (c1:Nat),.str ⟨#[k0]⟩]:=by simpa using h
      rw[h];refine(m9 r0 c1 k0 ⟨rfl,yL,Ji,rV,rT,?_⟩);rw[wn,if_pos rfl]
   .obtain⟨qO,qN,qM,bN,rfl,L9,hD9,qU,Jq,IK,Fx,Fy⟩:=hI;rw[aw (by lia)]at Fy Fx;refine(lv _ _ _ _ _<|lv _ _ _ _ bN<|l0 _ _ ⟨rfl,L9,Jq,λd hd=>?_,by rw[au,cc];lia,by lia⟩);rcases a8.mp hd with h|h
    .obtain⟨n,k,xI,dn',rt',a1,a2,a3,a4,a5,a6⟩:=hP d h;refine(lv n k xI dn' rt' ⟨a1,a2,a3,a4,a5,λe he=>?_⟩);obtain⟨r1,c2,k1,rfl,b1,b2,b3,b4,b5⟩:=a6 e he;refine(m9 r1 c2 k1 ⟨rfl,b1,b2,b3,b4,?_⟩);rw[Fx r1 c2 λe' iZ e2=>?_]
     .exact b5
     .obtain⟨r3,c3,k3,rfl,_,_,_,_,mV⟩:=kO e' iZ;injection e2 with e3 e4
      have e3:((r3:Nat):Int)=(r1:Nat):=e3;have e4:((c3:Nat):Int)=(c2:Nat):=e4;rw[show r3=r1 by lia,show c3=c2 by lia,b5]at mV;cases mV
    .rw[ar.mp h];exact(lv j kk es dn rt ⟨uX,hdm,hdn,hrt,by rw[Cy],by rw[Cy];exact Fy⟩)
  .exact(lv _ _ _ _ _<|lv _ _ _ _ kvs<|l0 xs fW ⟨rfl,L8,hT,hP,by lia,by lia⟩)
 .obtain⟨y6,y7,y8,y9,hJ,qO,qN,qM,xY,kvs,xs,fW,rfl,L,hT,hP,iE,mI⟩:=hI;rw[ae]at iE;refine(ny _ rfl _ ⟨rfl,sZ2,λp hp=>?_⟩);exact q p ly tk _ kvs xs fW (L.same<|Same.fresh _ hp) hly lr hT hP<|by lia
noncomputable abbrev Sg:=Nat×Nat×Nat
noncomputable def sgD(s:Sg):U:=.tuple [.int (s.1:Nat),.int (s.2.1:Nat),.str ⟨#[s.2.2]⟩]
noncomputable abbrev Pc:=Z Sg×Nat
noncomputable def pcD(p:Pc):U:=.tuple [.tuple (p.1.map sgD),.int (p.2:Nat)]
def PcO(p:Pc):Prop:=(∀s∈p.1,Ltr s.2.2)/\0<p.1.length/\p.1.length<=6
def LyO(nk:Nat)(L:Z Pc):Prop:=∀p∈L,PcO p/\p.2<nk
def Ln{ss:Z Sg}(h:∀s∈ss,Ltr s.2.2):∀d∈ss.map sgD,SgN d:=λd hd=>by obtain⟨s,hs,rfl⟩:=ay.mp hd;exact(m9 _ _ _ ⟨rfl,h s hs⟩)
def PcO.pl{p:Pc}(h:PcO p):PlD (pcD p):=(l0 _ _ ⟨rfl,Ln h.1,by rw[ae];exact h.2.1,by rw[ae];exact h.2.2⟩)
theorem LyO.pl{nk:Nat}{L:Z Pc}(h:LyO nk L):∀d∈L.map pcD,PlD d:=λd hd=>by obtain⟨p,hp,rfl⟩:=ay.mp hd;exact(h p hp).1.pl
theorem K3:∀{es:Z U},(∀e∈es,SgN e)->∃ss:Z Sg,es=ss.map sgD/\∀s∈ss,Ltr s.2.2
 | [],_=>⟨[],rfl,λs hs=>by cases hs⟩
 | e::es,h=>by
  obtain⟨r,c,k,rfl,hk⟩:=h e aq;obtain⟨ss,rfl,hs⟩:=K3 λx hx=>h x<|av _ hx;refine⟨(r,c,k)::ss,rfl,λs eS=>?_⟩;rcases a7.mp eS with rfl|h'
  .exact hk
  .exact hs s h'
def aux{M:Mat}{ks:Z (Z U×Nat)}(hK:KsZ ks){d:U}(h:d∈raw M ks ks.length):∃p:Pc,d=pcD p/\PcO p/\p.2<ks.length:=by obtain⟨es,i,n,hz,rfl,hf,hn⟩:=as5 hK d<|PL_mem.mpr h;obtain⟨ss,e,hs⟩:=K3<|SgN.shs (dn:=i/M.w) (rt:=i % M.w)<|tE hz;have hl:=congrArg List.length e;rw[ae,ae]at hl;exact⟨(ss,n),by unfold shT pcD;rw[e],⟨hs,by rw[<-hl];exact hz.pre.pos,by rw[<-hl];exact hz.pre.six⟩,hn⟩
theorem ap0{M:Mat}{ks:Z (Z U×Nat)}(hK:KsZ ks):∀{ds:Z U},(∀d∈ds,d∈raw M ks ks.length)->∃L:Z Pc,ds=L.map pcD/\LyO ks.length L
 | [],_=>⟨[],rfl,λp hp=>by cases hp⟩
 | d::ds,h=>by
  obtain⟨p,rfl,h1⟩:=aux hK<|h d aq;obtain⟨L,rfl,h2⟩:=ap0 hK λx hx=>h x<|av _ hx;refine⟨p::L,rfl,λq hq=>?_⟩;rcases a7.mp hq with rfl|hq
  .exact h1
  .exact h2 q hq
def Lie(M:Mat)(ks:Z (Z U×Nat))(p:Pc):Prop:=pcD p∈raw M ks ks.length
noncomputable abbrev Up(es:Z U):Prop:=es.Pairwise λx y=>ltR y x=false
def LB{es:Z U}(h:Spots es)(u:Up es):rq es=es:=
 Ml (o0 es) (wq h) u λx hx y hy h1 h2=>by have ro:∀d∈es,∃r c z,d=.tuple [.int r,.int c,.str z]:=h;obtain⟨r,c,z,rfl⟩:=ro x<|(o0 es).mem_iff.mp hx;obtain⟨r',c',z',rfl⟩:=ro y<|(o0 es).mem_iff.mp hy;have:=FV (ks:=[true,true,false]) (l0 _ _ ⟨rfl,(l0 _ _ ⟨rfl,(l0 _ _ ⟨rfl,rfl⟩)⟩)⟩) (l0 _ _ ⟨rfl,(l0 _ _ ⟨rfl,(l0 _ _ ⟨rfl,rfl⟩)⟩)⟩) h2 h1;exact congrArg PyData.tuple this
def api{es:Z U}(h:Spots es){a b:Int}{f:U->U}(hf:∀(r c:Int)(z:Str),f (.tuple [.int r,.int c,.str z])=.tuple [.int (r+a),.int<|c+b,.str z])(u:Up es):Up (es.map f):=by
 refine gi.mpr<|gu (λ{x y} hx hy AH=>?_) u;obtain⟨r,c,z,rfl⟩:=h x hx;obtain⟨r',c',z',rfl⟩:=h y hy;rw[hf,hf];have h1:qp [.int r',.int c',.str z'] [.int r,.int c,.str z]=false:=AH;show qp [.int (r'+a),.int<|c'+b,.str z'] [.int (r+a),.int<|c+b,.str z]=false;rw[xw,xw]at h1⊢;by_cases e1:r'=r
 .rw[if_pos e1]at h1;rw[if_pos (by lia)];by_cases e2:c'=c
  .rw[if_pos e2]at h1;rw[if_pos (by lia)];exact h1
  .rw[if_neg e2]at h1;rw[if_neg (by lia)];have:=of_decide_eq_false h1;exact decide_eq_false<|by lia
 .rw[if_neg e1]at h1;rw[if_neg (by lia)];have:=of_decide_eq_false h1;exact decide_eq_false<|by lia
def ap2{M:Mat}{ss:Z Sg}(hL:∀s∈ss,Ltr s.2.2)(h:mY M (.tuple<|ss.map sgD)=true):∀s∈ss,s.1<M.h/\s.2.1<M.w/\M.g s.1 s.2.1≠35:=λs hs=>by
 have h1:=kh.mp h (sgD s)<|gg hs;have h2:okS (gA M s.1 s.2.1) s.2.2=true:=by rw[<-D8];exact h1
 have h35:∀k<91,65<=k->okS 35 k=false:=by decide +kernel
 have hk:=hL s hs;have ES:gA M s.1 s.2.1≠35:=λe=>by rw[e,h35 _ (by have:=hk.2;lia) hk.1]at h2;cases h2
 unfold gA at ES;split at ES
 .rename_i h;exact⟨h.1,h.2,ES⟩
 .exact absurd rfl ES
def ami{M:Mat}{ks:Z (Z U×Nat)}{p:Pc}{k:Z U×Nat}(hP:PcO p)(hk:ks[p.2]?=some k)(hK:KsZ ks) :
  Lie M ks p↔rq (p.1.map sgD)=p.1.map sgD/\mY M (.tuple<|p.1.map sgD)=true/\.tuple (rq<|oa<|p.1.map sgD)∈FS k.1 k.2:=by
 have gZ:Spots (p.1.map sgD):=SgN.spots<|Ln hP.1;have hz:=(hK k<|ai hk).1;constructor
 .intro h;obtain⟨n,k',hn,eD,hm⟩:=mem_raw.mp h;obtain⟨es,i,h1,h2,h3,h4⟩:=(Eh (hK k'<|ai eD).1).mp hm;unfold pcD at h3;injection h3 with h3
  injection h3 with e1 h3
  injection h3 with e2 _
  injection e2 with e2
  have en:p.2=n:=by lia
  subst en;rw[hk]at eD;cases eD;obtain⟨t,ht⟩:=ape _ h1;unfold we at ht;injection ht with ht
  have rE:=vf hz t;have hsz:Spots (xu t k.1):=λd hd=>rE.pre.spots d<|(o0 _).mem_iff.mpr hd;have pW:Up es:=by rw[<-ht];exact wq hsz
  rw[ht]at rE;unfold shT at e1;injection e1 with e1
  rw[e1]at gZ⊢;have u2:=api rE.pre.spots (a:=((i/M.w:Nat):Int)) (b:=((i % M.w:Nat):Int)) (f:=sh1 ((i/M.w:Nat):Int) ((i % M.w:Nat):Int)) (λr c z=>rfl) pW;refine⟨LB gZ u2,h4,?_⟩;have e3:oa (es.map<|sh1 ((i/M.w:Nat):Int) ((i % M.w:Nat):Int))=es:=by
   unfold oa;rw[auf rE.pre.spots,au7 rE.pre.spots,aml<|by rw[ae];exact rE.pre.pos,aml<|by rw[ae];exact rE.pre.pos,rE.r0,rE.c0,iw,iw,b7]
   conv=>rhs;rw[<-List.map_id es]
   exact o6 rE.pre.spots λr c z=>by show PyData.tuple [.int (r+_-_),.int<|c+_-_,.str z]=.tuple [.int r,.int c,.str z];rw[Int.add_sub_cancel,Int.add_sub_cancel]
  rw[e3,LB rE.pre.spots pW];exact h1
 .rintro⟨h1,h2,h3⟩;have pW:Up (p.1.map sgD):=by rw[<-h1];exact wq gZ
  have tO:=ap2 hP.1 h2;have hl:0<(p.1.map sgD).length:=by rw[ae];exact hP.2.1
  have m1:=vd (ns:=(p.1.map sgD).map sy) (by rw[ae];exact hl);have m2:=vd (ns:=(p.1.map sgD).map uh) (by rw[ae];exact hl);have FC:rq (oa<|p.1.map sgD)=oa (p.1.map sgD):=by have u2:=api gZ (a:=-tj ((p.1.map sgD).map sy)) (b:=-tj ((p.1.map sgD).map uh)) (f:=z0 (tj<|(p.1.map sgD).map sy)<|tj<|(p.1.map sgD).map uh) (λr c z=>rfl) pW;refine LB (λd hd=>?_) u2;obtain⟨x,hx,rfl⟩:=ay.mp hd;obtain⟨r,c,z,rfl⟩:=gZ x hx;exact(m9 _ _ _ rfl)
  rw[FC]at h3;unfold oa at h3;generalize tj ((p.1.map sgD).map sy)=a at *;generalize tj ((p.1.map sgD).map uh)=b at *;rw[b7]at m1 m2;obtain⟨s1,E5,e1⟩:=ay.mp m1;obtain⟨s2,E4,e2⟩:=ay.mp m2;have e1:((s1.1:Nat):Int)=a:=e1;have e2:((s2.2.1:Nat):Int)=b:=e2;have b1:=(tO s1 E5).1;have b2:=(tO s2 E4).2.1;subst e1;subst e2;have hn:=(af.mp hk).1;have e4:shT M ((p.1.map sgD).map (z0 (s1.1:Nat) (s2.2.1:Nat))) (s1.1*M.w+s2.2.1)=.tuple (p.1.map sgD):=by
   unfold shT;rw[Ad b2,Ah b2,b7]
   conv=>rhs;rw[<-List.map_id (p.1.map sgD)]
   refine congrArg PyData.tuple<|o6 gZ λr c z=>?_;show PyData.tuple [.int (r-_+_),.int<|c-_+_,.str z]=.tuple [.int r,.int c,.str z];rw[Int.sub_add_cancel,Int.sub_add_cancel]
  refine mem_raw.mpr<|l0 p.2 k ⟨hn,hk,(Eh hz).mpr (l0 _ (s1.1*M.w+s2.2.1) ⟨h3,?_,?_,?_⟩)⟩
  .have:(s1.1+1)*M.w<=M.h*M.w:=Nat.mul_le_mul_right _ b1;rw[Nat.add_mul,Nat.one_mul]at this;lia
  .rw[e4];rfl
  .rw[e4];exact h2
open Classical in
noncomputable def qG(P:Nat->Prop)(n:Nat):Option Nat:=(e8 n).find? λi=>decide<|P i
open Classical in
def sf{P:Nat->Prop}{n k:Nat}(h:k<n)(hP:P k)(hl:∀j,j<k->¬P j):qG P n=some k:=
 List.find?_range_eq_some.mpr ⟨decide_eq_true hP,gq.mpr h,λj hj=>by simp[hl j hj]⟩
open Classical in
def si{P:Nat->Prop}{n:Nat}(h:∀j,j<n->¬P j):qG P n=none:=
 List.find?_range_eq_none.mpr λj hj=>by simp[h j hj]
noncomputable def ce(s:Sg):Nat×Nat:=(s.1,s.2.1)
noncomputable def cls(L:Z Pc):Z (Nat×Nat):=L.flatMap λp=>p.1.map ce
noncomputable def ut(q:Nat×Nat):U:=clD (q.1:Nat) (q.2:Nat)
noncomputable def cq(w i:Nat):Nat×Nat:=(i/w,i % w)
noncomputable abbrev En:=(Nat×Nat)×(Nat×Nat)
noncomputable def en(k:Nat)(s:Sg):En:=(ce s,(k,s.2.2))
noncomputable def ens:Z Pc->Nat->Z En
 | [],_=>[]
 | p::L,k=>p.1.map (en k)++ens L (k+1)
theorem alz:∀(A B:Z Pc)(k:Nat),ens (A++B) k=ens A k++ens B (k+A.length)
 | [],B,k=>rfl
 | p::A,B,k=>by show p.1.map (en k)++ens (A++B) (k+1)=p.1.map (en k)++ens A (k+1)++_;rw[alz,bq,bp,show k+1+A.length=k+(A.length+1)from by lia]
def ahq{L:Z Pc}{i:Nat}{p:Pc}(h:L[i]?=some p):ens (L.take<|i+1) 0=ens (L.take i) 0++p.1.map (en i):=by have hi:=(af.mp h).1;rw[gc,h,alz,bf,gd<|fh hi,Nat.zero_add];show _++(p.1.map (en i)++[])=_;rw[fj]
theorem Gn:∀(L:Z Pc)(k:Nat),(ens L k).map (·.1)=cls L
 | [],_=>rfl
 | p::L,k=>by show(p.1.map (en k)++ens L (k+1)).map (·.1)=p.1.map ce++cls L;rw[b9,Gn,b7];rfl
noncomputable def mQ(es:Z En):Nat×Nat->Option (Nat×Nat):=es.foldl (λf e q=>if q=e.1 then some e.2 else f q) λ_=>none
def LX(es:Z En)(e:En)(q:Nat×Nat):mQ (es++[e]) q=if q=e.1 then some e.2 else mQ es q:=by unfold mQ;rw[List.foldl_append];rfl
theorem ajy:∀(es:Z En) (f:Nat×Nat->Option (Nat×Nat)) {q v:Nat×Nat},es.foldl (λf e q=>if q=e.1 then some e.2 else f q) f q=some v->f q=some v\/(q,v)∈es
 | [],f,q,v,h=>.inl h
 | e::es,f,q,v,h=>by
  rcases ajy es _ h with h|h
  .by_cases hq:q=e.1
   .simp only[hq,if_true]at h;cases h;subst hq;exact .inr aq
   .simp only[hq,if_false]at h;exact .inl h
  .exact .inr<|av _ h
def F6{es:Z En}{q v:Nat×Nat}(h:mQ es q=some v):(q,v)∈es:=by
 rcases ajy es _ h with h|h
 .cases h
 .exact h
def amf{L:Z Pc}{q v:Nat×Nat}(h:mQ (ens L 0) q=some v):q∈cls L:=by rw[<-Gn L 0];exact gg (f:=(·.1))<|F6 h
noncomputable def oth(w j:Nat):Nat×Nat:=if j % 2=0 then(j/2/w,j/2 % w+1)else(j/2/w+1,j/2 % w)
def Tch(w:Nat)(es:Z En)(j:Nat):Prop:=∃k s k' s',mQ es (cq w<|j/2)=some (k,s)/\mQ es (oth w j)=some (k',s')/\k≠k'
def Ap4(w:Nat)(es:Z En)(bG:Z U)(j:Nat):Prop:=∃k s k' s',mQ es (cq w<|j/2)=some (k,s)/\mQ es (oth w j)=some (k',s')/\k≠k'/\DK bG s s'=true
def Bad(bC:Z (Int×Option Int))(L:Z Pc)(n:Nat):Prop:=∃q,bC[n]?=some q/\(((L.map (·.2)).count n:Nat)<q.1\/∃m,q.2=some m/\m<((L.map (·.2)).count n:Nat))
noncomputable def sY(o:Option Nat)(f:Nat->U):U:=match o with|some k=>f k|none=>.none
noncomputable def lk1(M:Mat)(ks:Z (Z U×Nat))(L:Z Pc):U:=sY (qG (λk=>∃p,L[k]?=some p/\¬Lie M ks p) L.length) λk=>.tuple [.str "piece",.int (k:Nat)]
noncomputable def lk2(M:Mat)(L:Z Pc):U:=sY (qG (λi=>1<(cls L).count (cq M.w i))<|M.h*M.w) λi=>.tuple [.str "twice",cdx M i]
noncomputable def lk3(M:Mat)(L:Z Pc):U:=sY (qG (λi=>ve (M.g (i/M.w)<|i % M.w)=true/\cq M.w i∉cls L)<|M.h*M.w) λi=>.tuple [.str "bare",cdx M i]
noncomputable def lk4(M:Mat)(bG:Z U)(L:Z Pc):U:=sY (qG (Ap4 M.w (ens L 0) bG)<|2*(M.h*M.w)) λj=>.tuple [.str "apart",cdx M<|j/2,ut<|oth M.w j]
noncomputable def lk5(bC:Z (Int×Option Int))(L:Z Pc):U:=sY (qG (Bad bC L) bC.length) λn=>.tuple [.str "count",.int (n:Nat)]
noncomputable def orD(a b:U):U:=match a with|.none=>b|a=>a
noncomputable def vP(M:Mat)(ks:Z (Z U×Nat))(bG:Z U)(bC:Z (Int×Option Int))(L:Z Pc):U:=orD (lk1 M ks L)<|orD (lk2 M L)<|orD (lk3 M L)<|orD (lk4 M bG L)<|orD (lk5 bC L)<|.tuple [.str "good"]
noncomputable def ixD(w:Nat):U->Nat
 | .tuple [.int r,.int c]=>r.toNat*w+c.toNat
 | _=>0
noncomputable def cdw(w i:Nat):U:=clD ((i/w:Nat):Int) ((i % w:Nat):Int)
def akk{w:Nat}{kvs:Z (Z Key×V)}{es:Z U}(hk:∀kv∈kvs,∃q:Nat×Nat,kv.1=rf q.1 q.2/\q.2<w)(nd:(kvs.map (·.1)).Nodup)(pe:es.Perm (kvs.map λkv=>kT kv.1))(u:Up es) :
  ∃is:Z Nat,es=is.map (cdw w)/\is.Pairwise (· < ·)/\∀i,i∈is↔∃kv∈kvs,kv.1=rf (i/w) (i % w):=by
 have kG:∀d∈es,∃q:Nat×Nat,d=ut q/\q.2<w/\∃kv∈kvs,kv.1=rf q.1 q.2:=λd hd=>by obtain⟨kv,eL,rfl⟩:=ay.mp<|pe.mem_iff.mp hd;obtain⟨q,e,hq⟩:=hk kv eL;exact(ng q (by rw[e];rfl) hq kv ⟨eL,e⟩)
 have yZ:∀q:Nat×Nat,ixD w (ut q)=q.1*w+q.2:=λq=>by show((q.1:Nat):Int).toNat*w+((q.2:Nat):Int).toNat=_;rw[cj,cj]
 have hb:∀q:Nat×Nat,q.2<w->cdw w (q.1*w+q.2)=ut q:=λq hq=>by unfold cdw;rw[Ad hq,Ah hq];rfl
 have nde:es.Nodup:=by
  refine pe.nodup_iff.mpr<|gi.mpr<|gu (λ{x y} hx hy AH=>?_)<|gi.mp nd;intro e;obtain⟨q,e1,_⟩:=hk x hx;obtain⟨q',e2,_⟩:=hk y hy;rw[e1,e2]at AH e;have e:ut q=ut q':=e;unfold ut clD at e;injection e with e
  injection e with e3 e
  injection e with e4 _
  injection e3 with e3
  injection e4 with e4
  exact AH<|by rw[show q.1=q'.1 from by lia,show q.2=q'.2 from by lia]
 refine⟨es.map<|ixD w,?_,?_,λi=>?_⟩
 .rw[b7]
  conv=>lhs;rw[<-List.map_id es]
  refine gx λd hd=>?_;obtain⟨q,rfl,hq,_⟩:=kG d hd;show _=cdw w (ixD w<|ut q);rw[yZ,hb q hq];rfl
 .refine gi.mpr<|gu (λ{x y} hx hy AH=>?_)<|u.and nde;obtain⟨q,rfl,hq,_⟩:=kG x hx;obtain⟨q',rfl,gR,_⟩:=kG y hy;obtain⟨h1,h2⟩:=AH;rw[yZ,yZ];have h1:qp [.int (q'.1:Nat),.int (q'.2:Nat)] [.int (q.1:Nat),.int (q.2:Nat)]=false:=h1;rw[xw,xw]at h1;by_cases er:q.1=q'.1
  .rw[if_pos (by lia)]at h1;by_cases ec:q.2=q'.2
   .exact absurd (by rw[show q=q' from Prod.ext er ec]) h2
   .rw[if_neg (by lia)]at h1;have:=of_decide_eq_false h1;rw[er];lia
  .rw[if_neg (by lia)]at h1;have:=of_decide_eq_false h1;have h3:(q.1+1)*w<=q'.1*w:=Nat.mul_le_mul_right _ (by lia);rw[Nat.add_mul,Nat.one_mul]at h3;lia
 .rw[ay];constructor
  .rintro⟨d,hd,rfl⟩;obtain⟨q,rfl,hq,kv,eL,e⟩:=kG d hd;rw[yZ,Ad hq,Ah hq];exact⟨kv,eL,e⟩
  .rintro⟨kv,eL,e⟩;obtain⟨q,e2,hq⟩:=hk kv eL;rw[e2]at e;obtain⟨a1,a2⟩:=sk e;refine⟨ut q,pe.mem_iff.mpr<|ay.mpr ⟨kv,eL,by rw[e2];rfl⟩,?_⟩;rw[yZ,a1,a2,Nat.mul_comm];exact Nat.div_add_mod i w
def yj{P:Nat->Prop}{is:Z Nat}(u:is.Pairwise (· < ·))(hm:∀i,P i->i∈is){t i:Nat}(ht:is[t]?=some i)(hb:∀j i',j<t->is[j]?=some i'->¬P i'):∀m,m<i->¬P m:=λm hmi hP=>by
 obtain⟨j,hj⟩:=dg<|hm m hP;by_cases Fb:j<t
 .exact hb j m Fb hj hP
 .obtain⟨h1,e1⟩:=af.mp ht;obtain⟨h2,e2⟩:=af.mp hj;by_cases e:j=t
  .subst e;lia
  .have:=fq.mp u t j h1 h2 (by lia);lia
def F7{a b:Nat×Nat}:br (ut a) (ut b)=decide (a=b):=by
 rw[jd,decide_eq_true_iff];constructor
 .intro h;have:=Bv _ _ rfl rfl h;unfold ut clD at this;injection this with this
  injection this with e1 this
  injection this with e2 _
  injection e1 with e1
  injection e2 with e2
  exact Prod.ext (by lia)<|by lia
 .rintro rfl;exact jy _ rfl
noncomputable def FR:Option Int->V
 | some m=>.int m
 | none=>.non
def BndK(H:Hp)(kvs:Z V)(bC:Z (Int×Option Int)):Prop:=kvs.length=bC.length/\∀(i:Nat) v q,kvs[i]?=some v->bC[i]?=some q->∃b u0 u3 u4,v=.ref b/\H b=some (.tup [u0,.int q.1,FR q.2,u3,u4])
def BndK.same{H H':Hp}{kvs:Z V}{bC:Z (Int×Option Int)}(h:BndK H kvs bC)(s:Same H H'):BndK H' kvs bC:=⟨h.1,λi v m h1 h2=>by obtain⟨b,u0,u3,u4,rfl,hb⟩:=h.2 i v m h1 h2;exact(l9 b u0 u3 u4 ⟨rfl,s _ _ hb⟩)⟩
def PzJ(H:Hp)(p:aF)(M:Mat)(ks:Z (Z U×Nat))(bC:Z (Int×Option Int))(bG:Z U):Prop:=∃fl kr e kvs gS,H p=some (.tup [.ref fl,.ref kr,.ref e])/\FlM H fl M/\H kr=some (.tup kvs)/\KindsK H kvs ks/\ks.length<=6/\BndK H kvs bC/\H e=some (.tup gS)/\RepAll H bG gS
theorem PzJ.same{H H':Hp}{p:aF}{M:Mat}{ks:Z (Z U×Nat)}{bC:Z (Int×Option Int)}{bG:Z U}(h:PzJ H p M ks bC bG)(s:Same H H'):PzJ H' p M ks bC bG:=by obtain⟨fl,kr,e,kvs,gS,h1,h2,h3,h4,h5,h6,h7,h8⟩:=h;exact(lv fl kr e kvs gS ⟨s _ _ h1,h2.same s,s _ _ h3,h4.same s,h5,h6.same s,s _ _ h7,h8.same s⟩)
def PzJ.pz{H:Hp}{p:aF}{M:Mat}{ks:Z (Z U×Nat)}{bC:Z (Int×Option Int)}{bG:Z U}(h:PzJ H p M ks bC bG):PzK H p M ks:=by obtain⟨fl,kr,e,kvs,gS,h1,h2,h3,h4,h5,_⟩:=h;exact(l9 fl kr e kvs ⟨h1,h2,h3,h4,h5⟩)
def LyH(H:Hp)(l:aF)(L:Z Pc):Prop:=∃xs,H l=some (.lst xs)/\RepAll H (L.map pcD) xs
theorem LyH.same{H H':Hp}{l:aF}{L:Z Pc}(h:LyH H l L)(s:Same H H'):LyH H' l L:=by obtain⟨xs,h1,h2⟩:=h;exact⟨xs,s _ _ h1,h2.same s⟩
def vV{H:Hp}{L:Z Pc}{xs:Z V}{i:Nat}{x:V}(rep:RepAll H (L.map pcD) xs)(hx:xs[i]?=some x):∃p,L[i]?=some p/\Rep H (pcD p) x:=by obtain⟨d,hd,rd⟩:=rep.at hx;rw[bo]at hd;obtain⟨p,hp,rfl⟩:=fw.mp hd;exact⟨p,hp,rd⟩
def xU{H:Hp}{p:Pc}{x:V}(h:Rep H (pcD p) x):∃b eb fE,x=.ref b/\H b=some (.tup [.ref eb,.int (p.2:Nat)])/\H eb=some (.tup fE)/\RepAll H (p.1.map sgD) fE:=by obtain⟨b,bxs,rfl,hb,x0,r0,rfl,⟨eb,fE,rfl,iJ,bR⟩,x1,r1,rfl,h1,h2⟩:=h;cases (show r1=[]from h2);cases (show x1=_ from h1);exact(m9 b eb fE ⟨rfl,hb,iJ,bR⟩)
def Br{H:Hp}{ss:Z Sg}{xs:Z V}{i:Nat}{x:V}(rep:RepAll H (ss.map sgD) xs)(hx:xs[i]?=some x):∃s b,ss[i]?=some s/\x=.ref b/\H b=some (.tup [.int (s.1:Nat),.int (s.2.1:Nat),.str ⟨#[s.2.2]⟩]):=by obtain⟨d,hd,rd⟩:=rep.at hx;rw[bo]at hd;obtain⟨s,hs,rfl⟩:=fw.mp hd;obtain⟨b,rfl,hb,_⟩:=rn rd;exact(l0 s b ⟨hs,rfl,hb⟩)
def F8{M:Mat}{ks:Z (Z U×Nat)}(hK:KsZ ks){L:Z Pc}(hO:LyO ks.length L)(hL:∀p∈L,Lie M ks p){q:Nat×Nat}(h:q∈cls L):q.1<M.h/\q.2<M.w/\M.g q.1 q.2≠35:=by obtain⟨p,hp,h⟩:=List.mem_flatMap.mp h;obtain⟨s,hs,rfl⟩:=ay.mp h;obtain⟨hP,hn⟩:=hO p hp;exact ap2 hP.1 ((ami hP (ah hn) hK).mp (hL p hp)).2.1 s hs
def oix_mem{M:Mat}{i:Nat}:i∈oix M (M.h*M.w)↔i<M.h*M.w/\M.g (i/M.w) (i % M.w)≠35:=by unfold oix;rw[List.mem_filter,gq];simp
def ap5(M:Mat)(n:Nat):(oix M n).Pairwise (· < ·):=List.Pairwise.filter _ List.pairwise_lt_range
def FP{M:Mat}{i:Nat}(hw:0<M.w)(h:i/M.w<M.h):i<M.h*M.w:=(Nat.div_lt_iff_lt_mul hw).mp h
def ard{M:Mat}{ks:Z (Z U×Nat)}(hw:0<M.w)(hK:KsZ ks){L:Z Pc}(hO:LyO ks.length L)(hL:∀p∈L,Lie M ks p){i:Nat}(h:cq M.w i∈cls L):i∈oix M (M.h*M.w):=by obtain⟨h1,h2,h3⟩:=F8 hK hO hL h;exact oix_mem.mpr ⟨FP hw h1,h3⟩
theorem Ei{nk:Nat}:∀{L:Z Pc},LyO nk L->(cls L).length<=L.length*6
 | [],_=>f8 _
 | p::L,h=>by have h1:=Ei (L:=L) λq hq=>h q<|av _ hq;have h2:=(h p aq).1.2.2;show(p.1.map ce++cls L).length<=_;rw[au,ae,bp];lia
def aif{L:Z Pc}{i:Nat}{p:Pc}(h:L[i]?=some p):cls (L.take<|i+1)=cls (L.take i)++p.1.map ce:=by unfold cls;rw[gc,h,List.flatMap_append];show _++(p.1.map ce++[])=_;rw[fj]
def amo(l:Z (Nat×Nat)):qe (l.map ut)=true:=sr λd hd=>by obtain⟨i,_,rfl⟩:=ay.mp hd;rfl
def arv(l:Z (Nat×Nat))(q:Nat×Nat):(l.map ut).countP (λe=>br e<|ut q)=l.count q:=by rw[List.countP_map];unfold List.count;refine List.countP_congr λx _=>?_;show br (ut x) (ut q)=true↔_;rw[F7];simp
def aq7(l:Z (Nat×Nat))(q:Nat×Nat):((l.map ut).any λe=>br e<|ut q)=decide (q∈l):=by
 rw[List.any_map,jd,List.any_eq_true,decide_eq_true_iff];constructor
 .rintro⟨x,hx,h⟩;have h:br (ut x) (ut q)=true:=h;rw[F7]at h;rw[<-of_decide_eq_true h];exact hx
 .intro h;exact⟨q,h,by show br (ut q) (ut q)=true;rw[F7];exact decide_eq_true rfl⟩
def qH(R:Mat->Z (Z U×Nat)->Z (Int×Option Int)->Z U->Z Pc->U)(pre:Mat->Z (Z U×Nat)->Pc->Prop):Sp:=λvs H Q _=>∃(pz l:aF)(M:Mat) (ks:Z (Z U×Nat)) (bC:Z (Int×Option Int)) (bG:Z U) (L:Z Pc),vs=[.ref pz,.ref l]/\PzJ H pz M ks bC bG/\LyH H l L/\LyO ks.length L/\L.length<=13/\(∀p∈L,pre M ks p)/\
 ∀(v:V)(H':Hp),Same H H'->Rep H' (R M ks bC bG L) v->Q v H'
def scStr:mh ["puzzle","laying","known","k","placement"] Z9 (lw KB):={}
def at5(B:∀x∈sv,mg x=none)(Mw:Fn P w K mg base "placements" 6 ["puzzle"] avo)(F:Fun K "strange_piece" "strange_piece" KB f fd):qr P w K mg base CX0 7 f fd Z9 (qH (λM ks _ _ L=>lk1 M ks L) λ_ _ _=>True):=by
 refine F.ok (k:=6) scStr (λvs H Q E h=>?_) λbQ A outer s H vs Q E hr h=>?_
 .obtain⟨_,_,_,_,_,_,_,rfl,_⟩:=h;rfl
 obtain⟨pz,l,M,ks,bC,bG,L,rfl,hP,⟨xs,hl,rep⟩,hO,iM,_,q⟩:=h;have q:∀(v:V)(H':Hp),Same H H'->Rep H' (lk1 M ks L) v->Q v H':=q;have hu:=hr.units;have Dl:=hP.pz;obtain⟨_,_,_,_,_,_,_,dY,_⟩:=id Dl;have mL:=dY.z;have lx:=rep.length;rw[ae]at lx;refine⟨_,(k9 (psN 2 scStr.nd<|pfn Mw<|lq (pv 0) k7)
  (k9 (pfo (pEL<|lq (pv 1) k7) (qb (n:=2) rfl<|ln (pgN 3 scStr.nd)<|ln (pgN 4 scStr.nd) nc)<|lh<|qa (m7 (vt hu) (pv 4) (pv 2) rfl) (lh<|ma<|mw<|lq oh<|lq (pv 3) k7) np)
  (lh<|ma sw))),?_⟩
 refine(ph _ rfl pz M ks ⟨rfl,Dl,λD ys H1 s1 xE hD Ha=>?_⟩);refine(ny _ rfl l ⟨rfl,⟨_,SqL.of<|s1 _ _ hl⟩,?_⟩);refine zq (xs:=xs) (λi σ' G=>∃(y3 y4:Option V),σ'=[some (.ref pz),some<|.ref l,some<|.ref D,y3,y4]/\Same H1 G/\∀j,j<i->¬∃p,L[j]?=some p/\¬Lie M ks p) ?_ (λi σ' G hI=>?_) (λi x pr σ' G hx kZ hI=>?_) λσ' G hI=>?_
 .exact(l0 _ _ ⟨rfl,Same.refl _,λj hj=>absurd hj<|fu _⟩)
 .obtain⟨_,_,_,sg,_⟩:=hI;exact SqL.of<|sg _ _<|s1 _ _ hl
 .obtain⟨y3,y4,rfl,sg,aS⟩:=hI;obtain⟨p,hp,rd⟩:=vV rep hx;have iL:=(hO p<|ai hp).1;refine(l7 pr _ rfl (SqT.of lr) rfl _ _ rfl _ ⟨_,rfl,rfl,?_⟩);generalize g1:upd G pr _=G2 at *;obtain⟨s2,e2⟩:=al kZ g1;have bM:=sg.trans s2;have tT:=iL.pl.depth;refine(me _ rfl _ rfl (pcD p) D ys ⟨PL M ks,Rep.same (s1.trans bM) rd,rfl,.inl<|bM _ _ hD,Ha.same bM,by lia,_,rfl,?_⟩);have ea:((PL M ks).any λe=>br e<|pcD p)=true↔Lie M ks p:=by
   rw[List.any_eq_true];constructor
   .rintro⟨e,he,h⟩;obtain⟨p',e',zH,_⟩:=aux mL<|PL_mem.mp he;have:=Bv _ _ (by rw[e'];exact zH.pl.key.1.1) iL.pl.key.1.1 h;rw[this]at he;exact PL_mem.mp he
   .intro h;exact⟨pcD p,PL_mem.mpr h,jy _ rd.lay⟩
  refine qz (λh1=>?_) λh1=>?_
  .rw[if_pos rfl]at h1;have hn:¬Lie M ks p:=λz=>by rw[ea.mpr z]at h1;cases h1
   refine⟨_,rfl,sZ2,λt ht=>?_⟩;generalize g1:upd G2 t _=G3 at *;obtain⟨s3,e3⟩:=al ht g1;refine q _ G3 (s1.trans<|bM.trans s3) ?_;have hi:i<L.length:=(af.mp hp).1;unfold lk1;rw[sf hi ⟨p,hp,hn⟩ aS];exact(mz t _ rfl e3 _ _ rfl ⟨rfl,by decide +kernel⟩ _ ⟨_,rfl,rfl,rfl⟩)
  .rw[if_pos rfl]at h1;refine(l0 _ _ ⟨rfl,bM,λj hj=>?_⟩);by_cases e:j=i
   .subst e;rintro⟨p',nJ,hn⟩;rw[hp]at nJ;cases nJ;refine hn<|ea.mp ?_;simpa using h1
   .exact aS j<|by lia
 .obtain⟨y3,y4,rfl,sg,aS⟩:=hI;refine q _ G (s1.trans sg) ?_;unfold lk1;rw[si (λj hj=>aS j<|by lia)];exact rfl
def K6:Sp:=λvs H Q _=>∃(l:aF)(nk:Nat)(L:Z Pc),vs=[.ref l]/\LyH H l L/\LyO nk L/\L.length<=13/\∀(D:aF)(ys:Z V)(H':Hp),Same H H'->H' D=some (.lst ys)->RepAll H' ((cls L).map ut) ys->Q (.ref D) H'
def scCvc:mh ["laying","cells","spots","number"] Z4 (lw Kf):={}
def auk(F:Fun K "covered_cells" "covered_cells" Kf f fd):qr P w K mg base CX0 1 f fd Z4 K6:=by
 refine F.ok (k:=0) scCvc (λvs H Q E h=>?_) λbQ A outer s H vs Q E hr h=>?_
 .obtain⟨_,_,_,rfl,_⟩:=h;rfl
 obtain⟨l,nk,L,rfl,⟨xs,hl,rep⟩,hO,iM,q⟩:=h;have lx:=rep.length;rw[ae]at lx;refine⟨_,(k9 (psN 1 scCvc.nd<|oz k7)
  (k9 (pfo (og<|pv 0) (qb (n:=2) rfl<|ln (pgN 2 scCvc.nd)<|ln (pgN 3 scCvc.nd) nc)<|lh<|r9<|ww ci PySem.F.slot_list_extend PySem.F.type_list_extend aeu (pv 1)<|lq (pcm ["row","column","sign"] [none,none,none] (vx<|pv 2) (λ_=>(qo (n:=3) rfl<|ln (pgC 0)<|ln (pgC 1)<|ln (pgC 2) nc)) (λ_=>ow) λ_=>(mw<|lq (pv 0)<|lq (pv 1) k7)) k7)
  (lh<|ma<|pv 1))),?_⟩
 refine⟨sZ0,λD hD=>?_⟩;generalize g1:upd H D _=H1 at *;obtain⟨s1,e1⟩:=al hD g1;refine(ny _ rfl l ⟨rfl,⟨_,SqL.of<|s1 _ _ hl⟩,?_⟩);refine qc (xs:=xs) (λi σ' G=>∃(y2 y3:Option V)(ys:Z V),σ'=[some (.ref l),some<|.ref D,y2,y3]/\Same H G/\G D=some (.lst ys)/\RepAll G ((cls<|L.take i).map ut) ys) ?_ (λi σ' G hi hI=>?_) (λi x σ' G hx hI=>?_) λσ' G hI=>?_
 .exact(m9 _ _ ([]) ⟨rfl,s1,e1,rfl⟩)
 .obtain⟨_,_,_,_,sg,_⟩:=hI;exact SqL.of<|sg _ _ hl
 .obtain⟨y2,y3,ys,rfl,sg,hG,qT⟩:=hI;obtain⟨p,hp,rd⟩:=vV rep hx;have hi:i<L.length:=(af.mp hp).1;have iL:=(hO p<|ai hp).1;obtain⟨b,eb,fE,rfl,hb,iJ,bR⟩:=xU<|Rep.same sg rd;have le:=bR.length;rw[ae]at le;have h6:=iL.2.2;refine(l7 b _ rfl (SqT.of hb) rfl _ _ rfl _ ⟨_,rfl,rfl,?_⟩);refine(ng _ rfl (.inl ⟨rfl,_,SqL.of hG⟩) _ ⟨rfl,eb,rfl,⟨_,SqT.of iJ⟩,λD2 eG=>?_⟩);refine ze (xs:=fE) (λk zs J=>Same G J/\RepAll J ((p.1.take k).map λs=>ut<|ce s) zs) ⟨Same.fresh _ eG,rfl⟩ (λk zs J p=>SqT.of<|p.1 _ _ iJ) (λk x zs J hx hk bD dR pp=>?_) λzs J bD dR pp=>?_
  .obtain⟨p1,p2⟩:=pp;obtain⟨s,b',hs,rfl,cU⟩:=Br bR hx;refine(l7 b' _ rfl (SqT.of<|p1 _ _ cU) rfl _ _ rfl _<|nj _ rfl _ _ ⟨rfl,rfl,?_⟩);refine⟨Agree.set (Agree.set (Agree.set (Agree.refl _) rfl) rfl) rfl,?_⟩;dsimp only[jN];refine ux ?_;refine(ny _ rfl _ ⟨rfl,sZ2,λt ht=>?_⟩);generalize g1:upd J t _=J2 at *;obtain⟨s2,e2⟩:=al ht g1;have jC:=s2 _ _ bD;refine qm (by lia) jC dR ⟨(p1.trans s2).new eG,?_⟩;have im:=amo<|(p.1.take<|k+1).map ce;rw[b7]at im;rw[mq (λs=>ut<|ce s) hs];refine((p2.same s2).snoc (show Rep J2 (ut<|ce s) (.ref t)from qk e2)).tk (Tk.lst jC) ?_;rw[<-mq (λs=>ut<|ce s) hs];exact im
  .obtain⟨p1,p2⟩:=pp;rw[aw (by lia)]at p2;have hGJ:=p1 _ _ hG;have ly:=qT.length;have lz:=p2.length;rw[ae]at ly lz;have kP:=Ei (L:=L.take i) (nk:=nk) λq hq=>hO q<|ca hq;rw[bf]at kP;refine(l9 D D2 ys zs ⟨rfl,rfl,hGJ,bD,fh<|mr<|by lia,?_⟩);refine(m9 _ _ (ys++zs) ⟨rfl,(sg.trans p1).new hD,lr,?_⟩);have im:=amo<|cls<|L.take<|i+1;rw[aif hp,b9,b7]at im⊢;exact((qT.same p1).append p2).tk (Tk.lst hGJ) im
 .obtain⟨y2,y3,ys,rfl,sg,hG,qT⟩:=hI;rw[aw (by lia)]at qT;exact⟨_,rfl,q D ys G sg hG qT⟩
def ap3{M:Mat}{ys:Z V}{H:Hp}{i:Nat}{x:V}{l:Z Nat}(rep:RepAll H (l.map<|cdx M) ys)(hx:ys[i]?=some x):∃k b,l[i]?=some k/\x=.ref b/\H b=some (.tup [.int ((k/M.w:Nat):Int),.int ((k % M.w:Nat):Int)]):=by obtain⟨d,hd,rd⟩:=rep.at hx;rw[bo]at hd;obtain⟨k,hk,rfl⟩:=fw.mp hd;obtain⟨b,rfl,hb⟩:=as9 rd;exact(l0 k b ⟨hk,rfl,hb⟩)
noncomputable abbrev xR:Mat->Z (Z U×Nat)->Pc->Prop:=λM ks p=>Lie M ks p
def scTwi:mh ["puzzle","laying","cells","cell"] Z9 (lw J1):={}
def att(Aq:Fn P w K mg base "covered_cells" 1 Z4 K6)(My:Fn P w K mg base "open_cells" 2 Z7 JV)(F:Fun K "cell_twice" "cell_twice" J1 f fd):qr P w K mg base CX0 3 f fd Z9 (qH (λM _ _ _ L=>lk2 M L) xR):=by
 refine F.ok (k:=2) scTwi (λvs H Q E h=>?_) λbQ A outer s H vs Q E hr h=>?_
 .obtain⟨_,_,_,_,_,_,_,rfl,_⟩:=h;rfl
 obtain⟨pz,l,M,ks,bC,bG,L,rfl,⟨fl,kr,e,kvs,gS,hp,jS,_,dY,_⟩,hl,hO,iM,hL,q⟩:=h;have q:∀(v:V)(H':Hp),Same H H'->Rep H' (lk2 M L) v->Q v H':=q;have hu:=hr.units;have hw:=jS.2.w1;have kO:∀i,1<(cls L).count (cq M.w i)->i∈oix M (M.h*M.w):=λi hi=>ard hw dY.z hO hL (List.count_pos_iff.mp<|by lia);refine⟨_,(k9 (psN 2 scTwi.nd<|pfn Aq<|lq (pv 1) k7)
  (k9 (pfo (og<|pfn My<|lq (pix mf (pv 0) k8) k7) (pgN 3 scTwi.nd)<|lh<|qa (m7 F0 (ww ci PySem.F.slot_list_count PySem.F.type_list_count (akj hu) (pv 2)<|lq (pv 3) k7) k8<|nr _) (lh<|ma<|mw<|lq oh<|lq (pv 3) k7) np)
  (lh<|ma sw))),?_⟩
 refine(ph _ rfl l ks.length L ⟨rfl,hl,hO,iM,λD ys H1 s1 hD jH=>?_⟩);refine(lj _ rfl pz _ _ _ ⟨rfl,rfl,SqT.of<|s1 _ _ hp,lg (j:=0) rfl,(l0 fl M ⟨rfl,jS.same s1,λD2 xX H2 s2 Jz eG fL=>?_⟩)⟩);have ly:=fL.length;rw[ae]at ly;refine⟨D2,rfl,⟨_,SqL.of eG⟩,?_⟩;refine qc (xs:=xX) (λi σ' G=>∃(y3:Option V),σ'=[some (.ref pz),some<|.ref l,some<|.ref D,y3]/\Same H2 G/\∀j k,j<i->(oix M<|M.h*M.w)[j]?=some k->¬1<(cls L).count (cq M.w k)) ?_ (λi σ' G hi hI=>?_) (λi x σ' G hx hI=>?_) λσ' G hI=>?_
 .exact⟨_,rfl,Same.refl _,λj _ hj=>absurd hj<|fu _⟩
 .obtain⟨_,_,sg,_⟩:=hI;exact SqL.of<|sg _ _ eG
 .obtain⟨y3,rfl,sg,aS⟩:=hI;obtain⟨k,b,hk,rfl,hb⟩:=ap3 fL hx;have bM:=s2.trans sg;have rk:Rep G (ut<|cq M.w k) (.ref b):=qk<|sg _ _ hb;refine(se _ rfl (.inl ⟨rfl,_,SqL.of<|bM _ _ hD⟩) _ rfl D ys (.ref b)<|l0 _ (ut<|cq M.w k) ⟨rfl,rfl,bM _ _ hD,jH.same bM,rk,by simp[ut,clD,f7,bu],?_⟩);rw[arv];refine(l0 _ _ ⟨rfl,rfl,_,rfl,?_⟩);refine qz (λh1=>?_) λh1=>?_
  .have h1:1<(cls L).count (cq M.w k):=by have:=of_decide_eq_true h1;lia
   refine⟨_,rfl,sZ2,λt ht=>?_⟩;generalize g1:upd G t _=G3 at *;obtain⟨s3,e3⟩:=al ht g1;refine q _ G3 (s1.trans<|bM.trans s3) ?_;have mI:=(oix_mem.mp<|ai hk).1;unfold lk2;rw[sf (P:=λi=>1<(cls L).count (cq M.w i)) mI h1 (yj (ap5 M _) kO hk λj i' hj dO=>aS j i' hj dO)];exact(mz t _ rfl e3 _ _ rfl ⟨rfl,by decide +kernel⟩ _ ⟨_,rfl,Rep.same s3 rk,rfl⟩)
  .have h1:¬1<(cls L).count (cq M.w k):=λz=>h1 (decide_eq_true<|by lia);refine⟨_,rfl,sg,λj k' hj eD=>?_⟩;by_cases e:j=i
   .subst e;rw[hk]at eD;cases eD;exact h1
   .exact aS j k' (by lia) eD
 .obtain⟨y3,rfl,sg,aS⟩:=hI;refine q _ G (s1.trans<|s2.trans sg) ?_;unfold lk2;rw[si (P:=λi=>1<(cls L).count (cq M.w i)) λj _ hj=>?_]
  .exact rfl
  .obtain⟨t,ht⟩:=dg<|kO j hj;exact aS t j (by have:=(af.mp ht).1;lia) ht hj
def scBar:mh ["puzzle","laying","cells","cell"] Z9 (lw Kr):={}
def ath(Aq:Fn P w K mg base "covered_cells" 1 Z4 K6)(My:Fn P w K mg base "open_cells" 2 Z7 JV)(Ew:Fn P w K mg base "must_be" 2 Z8 (xQ λk=>.bl<|ve k))(F:Fun K "bare_cell" "bare_cell" Kr f fd):qr P w K mg base CX0 3 f fd Z9 (qH (λM _ _ _ L=>lk3 M L) xR):=by
 refine F.ok (k:=2) scBar (λvs H Q E h=>?_) λbQ A outer s H vs Q E hr h=>?_
 .obtain⟨_,_,_,_,_,_,_,rfl,_⟩:=h;rfl
 obtain⟨pz,l,M,ks,bC,bG,L,rfl,⟨fl,kr,e,kvs,gS,hp,jS,_,dY,_⟩,hl,hO,iM,hL,q⟩:=h;have q:∀(v:V)(H':Hp),Same H H'->Rep H' (lk3 M L) v->Q v H':=q;have hu:=hr.units;have hw:=jS.2.w1;have m35:ve 35=false:=by decide
 refine⟨_,(k9 (psN 2 scBar.nd<|pfn Aq<|lq (pv 1) k7)
  (k9 (pfo (og<|pfn My<|lq (pix mf (pv 0) k8) k7) (pgN 3 scBar.nd)<|lh<|qa (PW.pt<|vh (uy<|pfn Ew<|lq (pix mf (pv 0) k8)<|lq (pv 3) k7)<|uk<|m7 (vt hu) (pv 3) (pv 2) rfl) (lh<|ma<|mw<|lq oh<|lq (pv 3) k7) np)
  (lh<|ma sw))),?_⟩
 refine(ph _ rfl l ks.length L ⟨rfl,hl,hO,iM,λD ys H1 s1 hD jH=>?_⟩);refine(lj _ rfl pz _ _ _ ⟨rfl,rfl,SqT.of<|s1 _ _ hp,lg (j:=0) rfl,(l0 fl M ⟨rfl,jS.same s1,λD2 xX H2 s2 Jz eG fL=>?_⟩)⟩);have ly:=fL.length;rw[ae]at ly;refine⟨D2,rfl,⟨_,SqL.of eG⟩,?_⟩;generalize xC:(λi=>ve (M.g (i/M.w)<|i % M.w)=true/\cq M.w i∉cls L)=Pb at *;have kO:∀i,i<M.h*M.w->Pb i->i∈oix M (M.h*M.w):=λi hi hb=>oix_mem.mpr ⟨hi,λz=>by rw[<-xC]at hb;have:=hb.1;rw[z,m35]at this;cases this⟩
 refine qc (xs:=xX) (λi σ' G=>∃(y3:Option V),σ'=[some (.ref pz),some<|.ref l,some<|.ref D,y3]/\Same H2 G/\∀j k,j<i->(oix M<|M.h*M.w)[j]?=some k->¬Pb k) ?_ (λi σ' G hi hI=>?_) (λi x σ' G hx hI=>?_) λσ' G hI=>?_
 .exact⟨_,rfl,Same.refl _,λj _ hj=>absurd hj<|fu _⟩
 .obtain⟨_,_,sg,_⟩:=hI;exact SqL.of<|sg _ _ eG
 .obtain⟨y3,rfl,sg,aS⟩:=hI;obtain⟨k,b,hk,rfl,hb⟩:=ap3 fL hx;have bM:=s2.trans sg;have rk:Rep G (ut<|cq M.w k) (.ref b):=qk<|sg _ _ hb;have hkm:=oix_mem.mp<|ai hk;have go:¬Pb k->∀y3:Option V,∃(z3:Option V),[some (V.ref pz),some<|.ref l,some<|.ref D,y3]=[some (.ref pz),some<|.ref l,some<|.ref D,z3]/\Same H2 G/\∀j k,j<i+1->(oix M<|M.h*M.w)[j]?=some k->¬Pb k:=λhn y3=>⟨_,rfl,sg,λj k' hj eD=>by
   by_cases e:j=i
   .subst e;rw[hk]at eD;cases eD;exact hn
   .exact aS j k' (by lia) eD⟩
  refine(lj _ rfl pz _ _ _ ⟨rfl,rfl,SqT.of<|bM _ _<|s1 _ _ hp,lg (j:=0) rfl,(lj _ rfl fl b M (k/M.w) ⟨k % M.w,rfl,(jS.same s1).same bM,sg _ _ hb,?_⟩)⟩);have eg:gA M (k/M.w) (k % M.w)=M.g (k/M.w) (k % M.w):=by unfold gA;rw[if_pos ⟨(Nat.div_lt_iff_lt_mul hw).mpr hkm.1,Nat.mod_lt _ hw⟩]
  dsimp only;rw[eg];refine⟨_,rfl,?_⟩;refine qz (λh1=>?_) λh1=>iV<|go (λz=>h1<|by rw[<-xC]at z;exact z.1) _;refine(me _ rfl _ rfl (ut<|cq M.w k) D ys ⟨_,rk,rfl,.inl<|bM _ _ hD,jH.same bM,by simp[ut,clD,f7,bu],_,rfl,?_⟩);rw[aq7];refine qz (λh2=>?_) λh2=>go (λz=>?_) _
  .rw[if_pos rfl]at h2;have hn:Pb k:=by rw[<-xC];exact⟨h1,by simpa using h2⟩
   refine⟨_,rfl,sZ2,λt ht=>?_⟩;generalize g1:upd G t _=G3 at *;obtain⟨s3,e3⟩:=al ht g1;refine q _ G3 (s1.trans<|bM.trans s3) ?_;unfold lk3;rw[xC,sf hkm.1 hn λm hm hP=>yj (P:=λm=>m<M.h*M.w/\Pb m) (ap5 M _) (λm hm=>kO m hm.1 hm.2) hk (λj i' hj dO z=>aS j i' hj dO z.2) m hm ⟨by lia,hP⟩];exact(mz t _ rfl e3 _ _ rfl ⟨rfl,by decide +kernel⟩ _ ⟨_,rfl,Rep.same s3 rk,rfl⟩)
  .rw[if_pos rfl]at h2;rw[<-xC]at z;exact h2<|by simpa using z.2
 .obtain⟨y3,rfl,sg,aS⟩:=hI;refine q _ G (s1.trans<|s2.trans sg) ?_;unfold lk3;rw[xC,si λj IQ hj=>?_]
  .exact rfl
  .obtain⟨t,ht⟩:=dg<|kO j IQ hj;exact aS t j (by have:=(af.mp ht).1;lia) ht hj
def aik{kvs:Z (Z Key×V)}{k:Z Key}{v:V}{kv:Z Key×V}(h:kv∈jE kvs k v):kv∈kvs\/kv=(k,v):=by
 unfold jE at h;split at h
 .obtain⟨x,hx,e⟩:=ay.mp h;split at e
  .rename_i hk
   exact .inr<|by rw[<-e,hk]
  .exact .inl<|by rw[<-e];exact hx
 .rcases a8.mp h with h|h
  .exact .inl h
  .exact .inr<|ar.mp h
def Gk{kvs:Z (Z Key×V)}{k:Z Key}{v:V}(h:rs kvs k=some v):(k,v)∈kvs:=by unfold rs at h;obtain⟨kv,h1,rfl⟩:=fw.mp h;have h2:kv.1=k:=of_decide_eq_true<|List.find?_some (p:=λkv:Z Key×V=>decide<|kv.1=k) h1;rw[<-h2];exact List.mem_of_find?_eq_some h1
def Md{kvs:Z (Z Key×V)}(h:∀kv∈kvs,∃q:Nat×Nat,kv.1=rf q.1 q.2):(∀kv∈kvs,KOk kv.1)/\Rows [true] (kvs.map λkv=>kT kv.1):=by
 refine⟨λkv eL x hx z e=>?_,λd hd=>?_⟩
 .obtain⟨q,e1⟩:=h kv eL;subst e;rw[e1]at hx;have:(Sum.inr z:Key)∈[Sum.inl ((q.1:Nat):Int),Sum.inl ((q.2:Nat):Int)]:=hx;simp at this
 .obtain⟨kv,eL,rfl⟩:=ay.mp hd;obtain⟨q,e1⟩:=h kv eL;rw[e1];exact(nj ([.int (q.1:Nat),.int (q.2:Nat)]) rfl _ _ ⟨rfl,(l0 _ _ ⟨rfl,rfl⟩)⟩)
def CvD(G:Hp)(g:Nat×Nat->Z V)(kvs:Z (Z Key×V))(es:Z En):Prop:=
 (∀kv∈kvs,∃q:Nat×Nat,kv.1=rf q.1 q.2/\∃v,mQ es q=some v)/\(∀q v,mQ es q=some v->∃t,rs kvs (rf q.1 q.2)=some (.ref t)/\G t=some (.tup<|g v))/\kvs.length<=es.length
def CvD.tk{G G':Hp}{g:Nat×Nat->Z V}{kvs:Z (Z Key×V)}{es:Z En}(h:CvD G g kvs es)(s:Tk G G'):CvD G' g kvs es:=⟨h.1,λq v hv=>by obtain⟨t,h1,h2⟩:=h.2.1 q v hv;exact⟨t,h1,s _ _ h2⟩,h.2.2⟩
def CvD.put{G:Hp}{g:Nat×Nat->Z V}{kvs:Z (Z Key×V)}{es:Z En}(h:CvD G g kvs es){q v:Nat×Nat}{t:aF}(ht:G t=some (.tup<|g v)):CvD G g (jE kvs (rf q.1 q.2)<|.ref t) (es++[(q,v)]):=by
 refine⟨λkv eL=>?_,λq' v' hv=>?_,?_⟩
 .rcases aik eL with h'|rfl
  .obtain⟨q',e,v',hv⟩:=h.1 kv h';refine⟨q',e,?_⟩;rw[LX];by_cases e2:q'=q
   .exact⟨v,if_pos e2⟩
   .exact⟨v',by rw[if_neg e2];exact hv⟩
  .exact(ny q rfl v<|by rw[LX,if_pos rfl])
 .rw[LX]at hv;rw[wn];by_cases e:q'=q
  .rw[if_pos e]at hv;cases hv;rw[if_pos (by rw[e])];exact⟨t,rfl,ht⟩
  .rw[if_neg e]at hv;rw[if_neg λz=>e<|Prod.ext (sk z).1 (sk z).2];exact h.2.1 q' v' hv
 .have h1:=sd kvs (rf q.1 q.2)<|V.ref t;have h2:=h.2.2;rw[au,cc];lia
def CvD.has{G:Hp}{g:Nat×Nat->Z V}{kvs:Z (Z Key×V)}{es:Z En}(h:CvD G g kvs es){q:Nat×Nat}(hs:(rs kvs<|rf q.1 q.2).isSome=true):∃v,mQ es q=some v:=by obtain⟨x,hx⟩:=Option.isSome_iff_exists.mp hs;obtain⟨q',e,v,hv⟩:=h.1 _<|Gk hx;obtain⟨e1,e2⟩:=sk e;rw[show q=q' from Prod.ext e1 e2];exact⟨v,hv⟩
def CvD.keys{G:Hp}{g:Nat×Nat->Z V}{kvs:Z (Z Key×V)}{L:Z Pc}{wd:Nat}{es:Z U}(h:CvD G g kvs (ens L 0))(hw:∀q∈cls L,q.2<wd)(nd:(kvs.map (·.1)).Nodup)(pe:es.Perm (kvs.map λkv=>kT kv.1))(u:Up es) :
  ∃is:Z Nat,es=is.map (cdw wd)/\is.Pairwise (· < ·)/\∀i,i∈is↔∃v,mQ (ens L 0) (cq wd i)=some v:=by
 obtain⟨is,h1,h2,h3⟩:=akk (w:=wd) (λkv eL=>by obtain⟨q,e,v,hv⟩:=h.1 kv eL;exact⟨q,e,hw q<|amf hv⟩) nd pe u
 refine⟨is,h1,h2,λi=>(h3 i).trans ⟨λ⟨kv,eL,e⟩=>?_,λ⟨v,hv⟩=>?_⟩⟩
 .obtain⟨q,e1,v,hv⟩:=h.1 kv eL;rw[e1]at e;obtain⟨a1,a2⟩:=sk e;exact⟨v,by rw[show cq wd i=q from Prod.ext a1.symm a2.symm];exact hv⟩
 .obtain⟨t,ht,_⟩:=h.2.1 _ v hv;exact⟨_,Gk ht,rfl⟩
def Gs{nk:Nat}{L:Z Pc}(h:LyO nk L):(ens L 0).length<=L.length*6:=by have:=Ei h;rw[<-Gn L 0,ae]at this;exact this
def aku(k i:Nat){ss:Z Sg}{s:Sg}(h:ss[i]?=some s):(ss.take<|i+1).map (en k)=(ss.take i).map (en k)++[en k s]:=mq _ h
def ank{w:Nat}{es:Z En}{bG:Z U}{is:Z Nat}(u:is.Pairwise (· < ·))(hm:∀i,(∃v,mQ es (cq w i)=some v)->i∈is){t i b:Nat}(ht:is[t]?=some i)(kQ:b<2)(hb:∀j i',j<t->is[j]?=some i'->∀b,b<2->¬Ap4 w es bG (2*i'+b))(hi:∀b',b'<b->¬Ap4 w es bG (2*i+b')):∀m,m<2*i+b->¬Ap4 w es bG m:=λm hmb hA=>by
 have e:m=2*(m/2)+m % 2:=by lia
 by_cases h:m/2<i
 .refine yj (P:=λi=>∃b,b<2/\Ap4 w es bG (2*i+b)) u (λi' dO=>?_) ht (λj i' hj dO z=>?_) (m/2) h ⟨m % 2,by lia,by rw[<-e];exact hA⟩
  .obtain⟨b',cU,k,s,k',s',h1,_⟩:=dO;rw[show(2*i'+b')/2=i' from by lia]at h1;exact hm i' ⟨_,h1⟩
  .obtain⟨b',cU,h1⟩:=z;exact hb j i' hj dO b' cU h1
 .rw[e,show m/2=i from by lia]at hA;exact hi (m % 2) (by lia) hA
noncomputable def cvV(v:Nat×Nat):Z V:=[.int (v.1:Nat),.str ⟨#[v.2]⟩]
def au9:Sp:=λvs H Q _=>∃(l:aF)(nk:Nat)(L:Z Pc),vs=[.ref l]/\LyH H l L/\LyO nk L/\L.length<=13/\∀(D:aF) (kvs:Z (Z Key×V)) (H':Hp),Same H H'->H' D=some (.dT kvs)->CvD H' cvV kvs (ens L 0)->Q (.ref D) H'
def scCby:mh ["laying","covers","k","placement","row","column","sign"] Z4 (lw Ka):={}
def at7(B:∀x∈sv,mg x=none)(F:Fun K "covers_by_cell" "covers_by_cell" Ka f fd):qr P w K mg base CX0 1 f fd Z4 au9:=by
 refine F.ok (k:=0) scCby (λvs H Q E h=>?_) λbQ A outer s H vs Q E hr h=>?_
 .obtain⟨_,_,_,rfl,_⟩:=h;rfl
 obtain⟨l,nk,L,rfl,⟨xs,hl,rep⟩,hO,iM,q⟩:=h;have hu:=hr.units;have lx:=rep.length;rw[ae]at lx;refine⟨_,(k9 (psN 1 scCby.nd Gx)
  (k9 (pfo (pEL<|lq (pv 0) k7) (qb (n:=2) rfl<|ln (pgN 2 scCby.nd)<|ln (pgN 3 scCby.nd) nc)<|lh<|pfo (vx<|pix mf (pv 3) k8) (qb (n:=3) rfl<|ln (pgN 4 scCby.nd)<|ln (pgN 5 scCby.nd)<|ln (pgN 6 scCby.nd) nc)<|lh<|LJ (cy (cw (by decide) _) hu) (pv 1) (mw<|lq (pv 4)<|lq (pv 5) k7) (mw<|lq (pv 2)<|lq (pv 6) k7) rfl)
  (lh<|ma<|pv 1))),?_⟩
 intro wh wL;generalize g1:upd H wh _=H1 at *;obtain⟨s1,d1⟩:=al wL g1;refine(ny _ rfl l ⟨rfl,⟨_,SqL.of<|s1 _ _ hl⟩,?_⟩);refine zq (xs:=xs) (λi σ' G=>∃(y2 y3 y4 y5 y6:Option V) (kvs:Z (Z Key×V)),σ'=[some (.ref l),some<|.ref wh,y2,y3,y4,y5,y6]/\Same H G/\G wh=some (.dT kvs)/\CvD G cvV kvs (ens (L.take i) 0)) ?_ (λi σ' G hI=>?_) (λi x pr σ' G hx kZ hI=>?_) λσ' G hI=>?_
 .exact(lv _ _ _ _ _ ⟨[],rfl,s1,d1,(λkv h=>by cases h),(λq v h=>by cases h),ao _⟩)
 .obtain⟨_,_,_,_,_,_,_,sg,_⟩:=hI;exact SqL.of<|sg _ _ hl
 .obtain⟨y2,y3,y4,y5,y6,kvs,rfl,sg,hG,hC⟩:=hI;obtain⟨p,hp,rd⟩:=vV rep hx;have hi:i<L.length:=(af.mp hp).1;have iL:=(hO p<|ai hp).1;have h6:=iL.2.2;have iI:=Gs (L:=L.take i) (nk:=nk) λq hq=>hO q<|ca hq;rw[bf]at iI;obtain⟨b,eb,fE,rfl,hb,iJ,bR⟩:=xU rd;have le:=bR.length;rw[ae]at le;refine(l7 pr _ rfl (SqT.of lr) rfl _ _ rfl _ ⟨_,rfl,rfl,?_⟩);generalize g1:upd G pr _=G2 at *;obtain⟨s2,_⟩:=al kZ g1;have bM:=sg.trans s2;refine(lj _ rfl b _ _ _ ⟨rfl,rfl,SqT.of<|bM _ _ hb,lg (j:=0) rfl,eb,rfl,⟨_,SqT.of<|bM _ _ iJ⟩,?_⟩);refine xp (xs:=fE) (λk σ' G3=>∃(y4 y5 y6:Option V) (bN:Z (Z Key×V)),σ'=[some (.ref l),some<|.ref wh,some<|.int (i:Nat),some<|.ref b,y4,y5,y6]/\Same H G3/\G3 wh=some (.dT bN)/\CvD G3 cvV bN (ens (L.take i) 0++(p.1.take k).map (en i))) ?_ (λk σ' G3 hk hI=>?_) (λk x σ' G3 hx hI=>?_) λσ' G3 hI=>?_
  .exact(l9 _ _ _ kvs ⟨rfl,bM,s2 _ _ hG,by rw[List.take_zero,List.map_nil,fj];exact hC.tk λc zs h=>s2 _ _ h⟩)
  .obtain⟨_,_,_,_,_,dB,_⟩:=hI;exact SqT.of<|dB _ _ iJ
  .obtain⟨y4,y5,y6,bN,rfl,dB,pH,kF⟩:=hI;have hk:k<fE.length:=(af.mp hx).1;obtain⟨sp,b',hs,rfl,cU⟩:=Br bR hx;refine(l7 b' _ rfl (SqT.of<|dB _ _ cU) rfl _ _ rfl _<|nj _ rfl _ _ ⟨rfl,rfl,?_⟩);refine(ny _ rfl _ ⟨rfl,sZ2,λt4 Ct=>?_⟩);generalize g1:upd G3 t4 _=G4 at *;obtain⟨s4,c4⟩:=al Ct g1;refine(qg _ rfl _ rfl _ ⟨rfl,sZ2,λt5 pX=>?_⟩);generalize g1:upd G4 t5 _=G5 at *;obtain⟨s5,c5⟩:=al pX g1;have mW:=s5 _ _<|s4 _ _ pH;have aZ:=kF.2.2;rw[au,ae,bf]at aZ;refine(l0 wh _ ⟨rfl,DPut.t (k:=rf sp.1 sp.2.1) mW c5<|mr<|by lia,?_⟩);have xF:CvD G5 cvV bN _:=kF.tk λc zs h=>s5 _ _<|s4 _ _ h;refine(l9 _ _ _ _ ⟨rfl,((dB.trans s4).trans s5).new wL,lr,?_⟩);rw[aku i k hs,<-bq];exact(xF.put (q:=ce sp) (v:=(i,sp.2.2))<|s5 _ _ c4).tk (K8 mW)
  .obtain⟨y4,y5,y6,bN,rfl,dB,pH,kF⟩:=hI;rw[aw (l:=p.1) (by lia),<-ahq hp]at kF;exact(lv _ _ _ _ _ ⟨bN,rfl,dB,pH,kF⟩)
 .obtain⟨y2,y3,y4,y5,y6,kvs,rfl,sg,hG,hC⟩:=hI;rw[aw (by lia)]at hC;exact⟨_,rfl,q wh kvs G sg hG hC⟩
def au4:Sp:=λvs H Q _=>∃(e c1 c2:aF)(v v':Nat×Nat)(gS:Z V)(bG:Z U),vs=[.ref e,.ref c1,.ref c2]/\H e=some (.tup gS)/\RepAll H bG gS/\H c1=some (.tup<|cvV v)/\H c2=some (.tup<|cvV v')/\v.2<128/\v'.2<128/\∀(b:Bool)(H':Hp),Same H H'->(b=true↔v.1≠v'.1/\DK bG v.2 v'.2=true)->Q (.bl b) H'
def axh:mh ZU ZU (lw JX):={}
def avt(MG:Fn P w K mg base "is_kept_apart" 1 ZV avr)(F:Fun K "are_apart" "are_apart" JX f fd):qr P w K mg base CX0 2 f fd ZU au4:=by
 refine F.ok (k:=1) axh (λvs H Q E h=>?_) λbQ A outer s H vs Q E hr h=>?_
 .obtain⟨_,_,_,_,_,_,_,rfl,_⟩:=h;rfl
 obtain⟨e,c1,c2,v,v',gS,bG,rfl,he,rep,h1,h2,b1,b2,q⟩:=h;refine⟨_,(lh<|ma<|Ag (wb DN (pix mf (pv 1) k8) (pix mf (pv 2) k8)<|nr _)<|By<|pfn MG<|lq (pv 0)<|lq (pix mf (pv 1) k8)<|lq (pix mf (pv 2) k8) k7),?_⟩;refine(lj _ rfl c1 _ _ _ ⟨rfl,rfl,SqT.of h1,lg (j:=0) rfl,(lj _ rfl c2 _ _ _ ⟨rfl,rfl,SqT.of h2,lg (j:=0) rfl,rfl,_,rfl,?_⟩)⟩);have ed:(!decide (V.int (v.1:Nat)=V.int (v'.1:Nat)))=true↔v.1≠v'.1:=by
  rw[Bool.not_eq_true',decide_eq_false_iff_not];constructor
  .intro h z;exact h<|by rw[z]
  .intro h z;injection z with z
   lia
 refine qz (λh=>?_) λh=>q false H (Same.refl _) ⟨λz=>(by cases z),λz=>absurd (ed.mpr z.1) h⟩;refine(me _ rfl _ rfl c1 _ _ ⟨_,rfl,rfl,SqT.of h1,lg (j:=1) rfl,(lj _ rfl c2 _ _ _ ⟨rfl,rfl,SqT.of h2,lg (j:=1) rfl,(lv e v.2 v'.2 gS bG ⟨rfl,b1,b2,he,rep,λH' s'=>?_⟩)⟩)⟩);exact q _ H' s' ⟨λz=>⟨ed.mp h,z⟩,λz=>z.2⟩
def Lf{wd:Nat}{ys:Z V}{H:Hp}{i:Nat}{x:V}{l:Z Nat}(rep:RepAll H (l.map<|cdw wd) ys)(hx:ys[i]?=some x):∃k b,l[i]?=some k/\x=.ref b/\H b=some (.tup [.int ((k/wd:Nat):Int),.int ((k % wd:Nat):Int)]):=by obtain⟨d,hd,rd⟩:=rep.at hx;rw[bo]at hd;obtain⟨k,hk,rfl⟩:=fw.mp hd;obtain⟨b,rfl,hb⟩:=as9 rd;exact(l0 k b ⟨hk,rfl,hb⟩)
def awb(w i:Nat):oth w (2*i+0)=(i/w,i % w+1):=by unfold oth;rw[if_pos (by lia),show(2*i+0)/2=i from by lia]
def as4(w i:Nat):oth w (2*i+1)=(i/w+1,i % w):=by unfold oth;rw[if_neg (by lia),show(2*i+1)/2=i from by lia]
theorem LG{nk:Nat}:∀{L:Z Pc} (k:Nat),LyO nk L->∀e∈ens L k,e.2.2<128
 | [],_,_,e,he=>by cases he
 | p::L,k,h,e,he=>by
  rcases a8.mp (show e∈p.1.map (en k)++ens L (k+1)from he)with h1|h1
  .obtain⟨s,hs,rfl⟩:=ay.mp h1;have:=((h p aq).1.1 s hs).2;show s.2.2<128;lia
  .exact LG (k+1) (λq hq=>h q<|av _ hq) e h1
def ama(L:Z Pc)(n:Nat):(L.map λp=>((p.2:Nat):Int)).count ((n:Nat):Int)=(L.map (·.2)).count n:=by rw[show(L.map λp=>((p.2:Nat):Int))=(L.map (·.2)).map (λx:Nat=>(x:Int))from by rw[b7];rfl];unfold List.count;rw[List.countP_map];refine List.countP_congr λx _=>?_;show(((x:Nat):Int)==((n:Nat):Int))=true↔(x==n)=true;rw[beq_iff_eq,beq_iff_eq];lia
def apn{bC:Z (Int×Option Int)}{L:Z Pc}{n:Nat}{lm:Int×Option Int}(uW:bC[n]?=some lm):Bad bC L n↔((((L.map (·.2)).count n:Nat):Int)<lm.1\/∃m,lm.2=some m/\m<(((L.map (·.2)).count n:Nat):Int)):=by
 unfold Bad;rw[uW];constructor
 .rintro⟨q,e,h⟩;cases e;exact h
 .intro h;exact⟨lm,rfl,h⟩
def scTpr:mh ["puzzle","laying","covers","cell","other"] Z9 (lw Kt):={}
theorem atj(B:∀x∈sv,mg x=none)(MK:Fn P w K mg base "covers_by_cell" 1 Z4 au9)(MO:Fn P w K mg base "are_apart" 2 ZU au4)(F:Fun K "touching_pair" "touching_pair" Kt f fd):qr P w K mg base CX0 3 f fd Z9 (qH (λM _ _ bG L=>lk4 M bG L) xR):=by
 refine F.ok (k:=2) scTpr (λvs H Q E h=>?_) λbQ A outer s H vs Q E hr h=>?_
 .obtain⟨_,_,_,_,_,_,_,rfl,_⟩:=h;rfl
 obtain⟨pz,l,M,ks,bC,bG,L,rfl,⟨fl,kr,e,Ck,gS,hp,jS,_,dY,_,_,he,nE⟩,hl,hO,iM,hL,q⟩:=h;have q:∀(v:V)(H':Hp),Same H H'->Rep H' (lk4 M bG L) v->Q v H':=q;have hu:=hr.units;have hw:=jS.2.w1;have tO:=λ(c:Nat×Nat)=>F8 (q:=c) dY.z hO hL;have iI:=Gs hO;refine⟨_,(k9 (psN 2 scTpr.nd<|pfn MK<|lq (pv 1) k7)
  (k9 (pfo (og<|pCB (u8 rfl) kg<|lq (pv 2) k7) (pgN 3 scTpr.nd)<|lh<|pfo (vx<|mw<|lq (mw<|lq (pix mf (pv 3) k8)<|lq (mj oq (pix mf (pv 3) k8) k8) k7)<|lq (mw<|lq (mj oq (pix mf (pv 3) k8) k8)<|lq (pix mf (pv 3) k8) k7) k7) (pgN 4 scTpr.nd)<|lh<|qa (PW.pt<|vh (F5<|apq (cy (cw (by decide) _) hu) (pv 4)<|pv 2)<|uk<|uy<|pfn MO<|lq (pix mf (pv 0) k8)<|lq (vm (cy (cw (by decide) _) hu) (pv 2) (pv 3) λ_ _=>rfl)<|lq (vm (cy (cw (by decide) _) hu) (pv 2) (pv 4) λ_ _=>rfl) k7) (lh<|ma<|mw<|lq oh<|lq (pv 3)<|lq (pv 4) k7) np)
  (lh<|ma sw))),?_⟩
 refine(ph _ rfl l ks.length L ⟨rfl,hl,hO,iM,λD kvs H1 s1 hD hC=>?_⟩);have wM:=Md (kvs:=kvs) λkv eL=>by obtain⟨c,e1,_⟩:=hC.1 kv eL;exact⟨c,e1⟩
 have mI:=hC.2.2;refine(ph _ rfl D kvs ([true]) ⟨rfl,hD,wM.1,wM.2,by lia,λS ls es hS pe up nd re=>?_⟩);generalize g1:upd H1 S _=H2 at *;obtain⟨s2,d2⟩:=al hS g1;obtain⟨is,rfl,pW,hmem⟩:=hC.keys (wd:=M.w) (λc hc=>(tO c hc).2.1) nd pe up;have lL:=re.length;rw[ae]at lL;refine⟨S,rfl,⟨_,SqL.of d2⟩,?_⟩;generalize hE:ens L 0=E at *;have bS:∀{c v:Nat×Nat},mQ E c=some v->v.2<128:=λhv=>LG 0 hO _ (by rw[hE];exact F6 hv);refine qc (xs:=ls) (λt σ' G=>∃(y3 y4:Option V),σ'=[some (.ref pz),some<|.ref l,some<|.ref D,y3,y4]/\Same H2 G/\∀j i',j<t->is[j]?=some i'->∀b,b<2->¬Ap4 M.w E bG (2*i'+b)) ?_ (λt σ' G ht hI=>?_) (λt x σ' G hx hI=>?_) λσ' G hI=>?_
 .exact(l0 _ _ ⟨rfl,Same.refl _,λj _ hj=>absurd hj<|fu _⟩)
 .obtain⟨_,_,_,sg,_⟩:=hI;exact SqL.of<|sg _ _ d2
 .obtain⟨y3,y4,rfl,sg,aS⟩:=hI;obtain⟨i,cb,hi,rfl,lO⟩:=Lf re hx;have lO:=sg _ _ lO;have sgA:=s2.trans sg;obtain⟨v,hv⟩:=(hmem i).mp (ai hi);have him:=tO _ (by rw[<-Gn L 0,hE];exact gg (f:=(·.1))<|F6 hv);have hih:i<M.h*M.w:=FP hw him.1;refine(lj _ rfl cb _ _ _ ⟨rfl,rfl,SqT.of lO,lg (j:=0) rfl,(lj _ rfl cb _ _ _ ⟨rfl,rfl,SqT.of lO,lg (j:=1) rfl,(l0 _ _ ⟨rfl,rfl,sZ2,λp5 CF=>?_⟩)⟩)⟩);generalize g1:upd G p5 _=G5 at *;obtain⟨s5,c5⟩:=al CF g1;refine(lj _ rfl cb _ _ _ ⟨rfl,rfl,SqT.of<|s5 _ _ lO,lg (j:=0) rfl,(l0 _ _ ⟨rfl,rfl,(lj _ rfl cb _ _ _ ⟨rfl,rfl,SqT.of<|s5 _ _ lO,lg (j:=1) rfl,sZ2,λp6 yN=>?_⟩)⟩)⟩);generalize g1:upd G5 p6 _=G6 at *;obtain⟨s6,c6⟩:=al yN g1;refine⟨sZ2,λp7 CD=>?_⟩;generalize g1:upd G6 p7 _=G7 at *;obtain⟨s7,c7⟩:=al CD g1;have sA:=(s5.trans s6).trans s7;have zT:∀(b:Nat) x,[V.ref p5,V.ref p6][b]?=some x->b<2/\∃ob:aF,x=.ref ob/\G7 ob=some (.tup [.int ((oth M.w<|2*i+b).1:Nat),.int ((oth M.w<|2*i+b).2:Nat)]):=λb x hx=>by
   match b,hx with
   | 0,hx=>cases hx;rw[awb];exact⟨by decide,p5,rfl,s7 _ _<|s6 _ _ c5⟩
   | 1,hx=>cases hx;rw[as4];exact⟨by decide,p6,rfl,s7 _ _ c6⟩
  refine⟨p7,rfl,⟨_,SqT.of c7⟩,?_⟩;refine xp (xs:=[V.ref p5,V.ref p6]) (λb σ' G8=>∃(y4:Option V),σ'=[some (.ref pz),some<|.ref l,some<|.ref D,some<|.ref cb,y4]/\Same G7 G8/\∀b',b'<b->¬Ap4 M.w E bG (2*i+b')) ?_ (λb σ' G8 hb hI=>?_) (λb x σ' G8 hx hI=>?_) λσ' G8 hI=>?_
  .exact⟨_,rfl,Same.refl _,λb' cU=>absurd cU<|fu _⟩
  .obtain⟨_,_,s8,_⟩:=hI;exact SqT.of<|s8 _ _ c7
  .obtain⟨y4,rfl,s8,mV⟩:=hI;obtain⟨kQ,ob,rfl,wQ⟩:=zT b x hx;have sB:=sgA.trans<|sA.trans s8;have wQ:=s8 _ _ wQ;have sK:=(sA.trans s8) _ _ lO;have A8:=sB _ _ hD;have vH:=hC.tk (G':=G8) λc zs h=>sB _ _ h;have AD:G8 ob=some (.tup<|(rf (oth M.w<|2*i+b).1 (oth M.w<|2*i+b).2).map kV):=wQ;have AE:G8 cb=some (.tup<|(rf (cq M.w i).1 (cq M.w i).2).map kV):=sK;have go:¬Ap4 M.w E bG (2*i+b)->∀G9,Same G8 G9->∀y4:Option V,∃(z4:Option V),[some (V.ref pz),some<|.ref l,some<|.ref D,some<|.ref cb,y4]=[some (.ref pz),some<|.ref l,some<|.ref D,some<|.ref cb,z4]/\Same G7 G9/\∀b',b'<b+1->¬Ap4 M.w E bG (2*i+b'):=λhn G9 s9 y4=>⟨_,rfl,s8.trans s9,λb' cU=>by
    by_cases e:b'=b
    .rw[e];exact hn
    .exact mV b'<|by lia⟩
   refine(ni _ rfl _ rfl D _ rfl (DGet.t A8 AD) _ ⟨rfl,?_⟩);refine qz (λh1=>?_) λh1=>iV<|go (λz=>?_) G8 (Same.refl _) _
   .obtain⟨v',tL⟩:=vH.has h1;obtain⟨t1,pY,e1⟩:=vH.2.1 _ _ tL;obtain⟨t2,kL,e2⟩:=vH.2.1 _ _ hv;refine(lj _ rfl pz _ _ _ ⟨rfl,rfl,SqT.of<|sB _ _<|s1 _ _ hp,lg (j:=2) rfl,(ni _ rfl _ rfl D _ rfl (by rw[<-kL];exact DGet.t A8 AE) _ ⟨rfl,(nj _ rfl D _ ⟨rfl,by rw[<-pY];exact DGet.t A8 AD,?_⟩)⟩)⟩);refine(lv e t2 t1 v v'<|l0 gS bG ⟨rfl,sB _ _<|s1 _ _ he,(nE.same s1).same sB,e2,e1,bS hv,bS tL,λbb H9 s9 Fg=>⟨_,rfl,?_⟩⟩);have eA:Ap4 M.w E bG (2*i+b)↔v.1≠v'.1/\DK bG v.2 v'.2=true:=by
     unfold Ap4;rw[show(2*i+b)/2=i from by lia];constructor
     .rintro⟨k,s,k',s',a1,a2,a3⟩;rw[hv]at a1;rw[tL]at a2;cases a1;cases a2;exact a3
     .intro h;exact(l9 v.1 v.2 v'.1 v'.2 ⟨hv,tL,h⟩)
    refine qz (λh2=>?_) λh2=>go (λz=>h2<|Fg.mpr<|eA.mp z) H9 s9 _;have hA:=eA.mpr<|Fg.mp h2;refine(ny _ rfl _ ⟨rfl,sZ3,λt9 HK=>?_⟩);generalize g1:upd H9 t9 _=xW at *;obtain⟨pS,FJ⟩:=al HK g1;have sC:=s9.trans pS;refine q _ xW (s1.trans<|sB.trans sC) ?_;unfold lk4;rw[hE,sf (show 2*i+b<2*(M.h*M.w) by lia) hA<|ank pW (λi hi=>(hmem i).mpr hi) hi kQ aS mV];show Rep xW (.tuple [.str "apart",cdx M<|(2*i+b)/2,ut<|oth M.w<|2*i+b]) (.ref t9);rw[show(2*i+b)/2=i from by lia];exact(mz t9 _ rfl FJ _ _ rfl ⟨rfl,by decide +kernel⟩ _<|ng _ rfl (qk<|sC _ _ sK) _ ⟨_,rfl,qk<|sC _ _ wQ,rfl⟩)
   .obtain⟨k,s,k',s',_,a2,_⟩:=z;obtain⟨t1,pY,_⟩:=vH.2.1 _ _ a2;exact h1<|by rw[pY];rfl
  .obtain⟨y4,rfl,s8,mV⟩:=hI;refine(l0 _ _ ⟨rfl,sg.trans<|sA.trans s8,λj i' hj dO b hb=>?_⟩);by_cases ej:j=t
   .subst ej;rw[hi]at dO;cases dO;exact mV b hb
   .exact aS j i' (by lia) dO b hb
 .obtain⟨y3,y4,rfl,sg,aS⟩:=hI;refine q _ G (s1.trans<|s2.trans sg) ?_;unfold lk4;rw[hE,si λj _ hj=>?_]
  .exact rfl
  .obtain⟨k,s,k',s',a1,a2⟩:=id hj;obtain⟨t,ht⟩:=dg<|(hmem<|j/2).mpr ⟨_,a1⟩;refine aS t _ (by have:=(af.mp ht).1;lia) ht (j % 2) (by lia) ?_;rw[show 2*(j/2)+j % 2=j from by lia];exact hj
def scWrc:mh ["puzzle","laying","numbers","k","kind","laid"] Z9 (lw Kl):={}
def avv(B:∀x∈sv,mg x=none)(F:Fun K "wrong_count" "wrong_count" Kl f fd):qr P w K mg base CX0 1 f fd Z9 (qH (λ_ _ bC _ L=>lk5 bC L) xR):=by
 refine F.ok (k:=0) scWrc (λvs H Q E h=>?_) λbQ A outer s H vs Q E hr h=>?_
 .obtain⟨_,_,_,_,_,_,_,rfl,_⟩:=h;rfl
 obtain⟨pz,l,M,ks,bC,bG,L,rfl,⟨fl,kr,e,kvs,gS,hp,_,mH,dY,tS,hB,_⟩,⟨xs,hl,rep⟩,hO,iM,hL,q⟩:=h;have q:∀(v:V)(H':Hp),Same H H'->Rep H' (lk5 bC L) v->Q v H':=q;have lx:=rep.length;rw[ae]at lx;refine⟨_,(k9 (psC 2 ["placement"] [none] scWrc.nd (og<|pv 1) (λ_=>(pgC 0)) (λ_=>ow) λ_=>(pix um (pv 0) k8))
  (k9 (pfo (pET<|lq (pix mf (pv 0) k8) k7) (qb (n:=2) rfl<|ln (pgN 3 scWrc.nd)<|ln (pgN 4 scWrc.nd) nc) (k9 (psN 5 scWrc.nd<|ww ci PySem.F.slot_list_count PySem.F.type_list_count aht (pv 2)<|lq (pv 3) k7)
  (lh<|qa (PW.pt<|qJ (m7 vQ (pv 5) (pix mf (pv 4) k8)<|nr _)<|wx<|PW.pt<|vh (m7 Em (pix mf (pv 4) k8) sw<|nr _)<|uk<|m7 F0 (pv 5) (pix mf (pv 4) k8)<|nr _) (lh<|ma<|mw<|lq oh<|lq (pv 3) k7) np)))
  (lh<|ma sw))),?_⟩
 refine(ny _ rfl l ⟨rfl,⟨_,SqL.of hl⟩,λD hD=>?_⟩);refine o8 (xs:=xs) (λi zs G=>Same H G/\zs=((L.take i).map λp=>((p.2:Nat):Int)).map V.int) ⟨Same.fresh _ hD,rfl⟩ (λi zs G p=>SqL.of<|p.1 _ _ hl) (λi x zs G hx hi bD dR pp=>?_) λzs G bD dR pp=>?_
 .obtain⟨p1,rfl⟩:=pp;obtain⟨p,hp,rd⟩:=vV rep hx;obtain⟨b,eb,fE,rfl,hb,_⟩:=xU<|Rep.same p1 rd;refine⟨Agree.set (Agree.refl _) rfl,?_⟩;dsimp only[jN];refine ux ?_;refine(lj _ rfl b _ _ _ ⟨rfl,rfl,SqT.of hb,lg (j:=1) rfl,?_⟩);exact qm (by lia) bD dR ⟨p1.new hD,by rw[mq _ hp,b9];rfl⟩
 obtain⟨p1,rfl⟩:=pp;rw[aw (by lia)]at bD;refine(lj _ rfl pz _ _ _ ⟨rfl,rfl,SqT.of<|p1 _ _ hp,lg (j:=1) rfl,kr,rfl,⟨_,SqT.of<|p1 _ _ mH⟩,?_⟩);refine Gh (xs:=kvs) (λn σ' J=>∃(y3 y4 y5:Option V),σ'=[some (.ref pz),some<|.ref l,some<|.ref D,y3,y4,y5]/\Same G J/\∀j,j<n->¬Bad bC L j) ?_ (λn σ' J hI=>?_) (λn x pr σ' J hx kZ hI=>?_) λσ' J hI=>?_
 .exact(m9 _ _ _ ⟨rfl,Same.refl _,λj hj=>absurd hj<|fu _⟩)
 .obtain⟨_,_,_,_,sg,_⟩:=hI;exact SqT.of<|sg _ _<|p1 _ _ mH
 .obtain⟨y3,y4,y5,rfl,sg,aS⟩:=hI;have hn:n<kvs.length:=(af.mp hx).1;obtain⟨hBl,JB⟩:=id hB;obtain⟨lm,uW⟩:∃lm,bC[n]?=some lm:=⟨_,ah<|by lia⟩;obtain⟨b,u0,u3,u4,rfl,hb⟩:=JB n x lm hx uW;refine(l7 pr _ rfl (SqT.of lr) rfl _ _ rfl _ ⟨_,rfl,rfl,?_⟩);generalize g1:upd J pr _=J2 at *;obtain⟨s2,_⟩:=al kZ g1;have bM:=sg.trans s2;have kQ:=(p1.trans bM) _ _ hb;refine(se _ rfl (.inl ⟨rfl,_,SqL.of<|bM _ _ bD⟩) _ rfl D _ ((n:Nat):Int) ⟨rfl,rfl,SqL.of<|bM _ _ bD,?_⟩);rw[ama L n];have pK:Bad bC L n↔((((L.map (·.2)).count n:Nat):Int)<lm.1\/∃m,lm.2=some m/\m<(((L.map (·.2)).count n:Nat):Int)):=apn uW;have vW:∀y5:Option V,Bad bC L n->_:=λ_ zM=>(show ∀(t:aF)(J3:Hp),J2 t=none->J3=upd J2 t (.tup [.str "count",.int (n:Nat)])->Q (.ref t) J3 from λt J3 ht e=>by
   obtain⟨s3,e3⟩:=al ht e.symm;refine q _ J3 (p1.trans<|bM.trans s3) ?_;unfold lk5;rw[sf (by lia) zM aS];exact(mz t _ rfl e3 _ _ rfl ⟨rfl,by decide +kernel⟩ _ ⟨_,rfl,rfl,rfl⟩))
  have no:∀y5:Option V,¬Bad bC L n->∃(z3 z4 z5:Option V),[some (V.ref pz),some<|.ref l,some<|.ref D,some<|.int (n:Nat),some<|.ref b,y5]=[some (.ref pz),some<|.ref l,some<|.ref D,z3,z4,z5]/\Same G J2/\∀j,j<n+1->¬Bad bC L j:=λy5 hn=>⟨_,_,_,rfl,bM,λj hj=>by
   by_cases e:j=n
   .rw[e];exact hn
   .exact aS j<|by lia⟩
  refine(me _ rfl _ rfl b _ _<|pq _ rfl rfl (SqT.of kQ) (lg (j:=1) rfl) _ _ ⟨rfl,rfl,_,rfl,?_⟩);refine qz (λh1=>ux ?_) λh1=>?_
  .exact⟨_,rfl,sZ2,λt ht=>vW none (pK.mpr<|.inl<|of_decide_eq_true h1) t _ ht rfl⟩
  have h1:¬_:=λz=>h1<|decide_eq_true z;obtain⟨le,mo⟩:=lm;refine(lj _ rfl b _ _ _ ⟨rfl,rfl,SqT.of kQ,lg (j:=2) rfl,rfl,_,rfl,?_⟩);obtain _|m:=mo
  .refine iV<|iV<|no _ λz=>?_;rcases pK.mp z with h|⟨m,h,_⟩
   .exact h1 h
   .cases h
  .refine ux ?_;refine(me _ rfl _ rfl b _ _<|pq _ rfl rfl (SqT.of kQ) (lg (j:=2) rfl) _ _ ⟨rfl,rfl,_,rfl,?_⟩);refine qz (λh2=>?_) λh2=>no _ λz=>?_
   .exact⟨_,rfl,sZ2,λt ht=>vW none (pK.mpr<|.inr ⟨m,rfl,of_decide_eq_true h2⟩) t _ ht rfl⟩
   .rcases pK.mp z with h|⟨m',h,h3⟩
    .exact h1 h
    .cases h;exact h2<|decide_eq_true h3
 .obtain⟨y3,y4,y5,rfl,sg,aS⟩:=hI;refine q _ J (p1.trans sg) ?_;unfold lk5;rw[si (λj hj=>aS j<|by rw[hB.1];exact hj)];exact rfl
noncomputable def lks(M:Mat)(ks:Z (Z U×Nat))(bC:Z (Int×Option Int))(bG:Z U)(L:Z Pc):Z U:=[lk1 M ks L,lk2 M L,lk3 M L,lk4 M bG L,lk5 bC L]
theorem Ec(o:Option Nat){g:Nat->Z U}:sY o (λk=>.tuple<|g k)=.none\/∃ds,sY o (λk=>.tuple<|g k)=.tuple ds:=by
 cases o with
 | none=>exact .inl rfl
 | some k=>exact .inr ⟨_,rfl⟩
theorem as7{M:Mat}{ks:Z (Z U×Nat)}{bC:Z (Int×Option Int)}{bG:Z U}{L:Z Pc}{i:Nat}{d:U}(h:(lks M ks bC bG L)[i]?=some d):d=.none\/∃ds,d=.tuple ds:=by
 match i,h with
 | 0,h=>cases h;exact Ec _
 | 1,h=>cases h;exact Ec _
 | 2,h=>cases h;exact Ec _
 | 3,h=>cases h;exact Ec _
 | 4,h=>cases h;exact Ec _
def qu{a b:U}(h:a=.none):orD a b=b:=by rw[h];rfl
def DT{a b:U}{ds:Z U}(h:a=.tuple ds):orD a b=a:=by rw[h];rfl
theorem apr{M:Mat}{ks:Z (Z U×Nat)}{bC:Z (Int×Option Int)}{bG:Z U}{L:Z Pc}{i:Nat}{ds:Z U}(hn:∀j d,j<i->(lks M ks bC bG L)[j]?=some d->d=.none)(h:(lks M ks bC bG L)[i]?=some (.tuple ds)):vP M ks bG bC L=.tuple ds:=by
 unfold vP
 match i,h,hn with
 | 0,h,hn=>injection h with h;rw[DT h,h]
 | 1,h,hn=>injection h with h;rw[qu (hn 0 _ (by decide) rfl),DT h,h]
 | 2,h,hn=>injection h with h;rw[qu (hn 0 _ (by decide) rfl),qu<|hn 1 _ (by decide) rfl,DT h,h]
 | 3,h,hn=>injection h with h;rw[qu (hn 0 _ (by decide) rfl),qu<|hn 1 _ (by decide) rfl,qu<|hn 2 _ (by decide) rfl,DT h,h]
 | 4,h,hn=>injection h with h;rw[qu (hn 0 _ (by decide) rfl),qu<|hn 1 _ (by decide) rfl,qu<|hn 2 _ (by decide) rfl,qu<|hn 3 _ (by decide) rfl,DT h,h]
def ahh{M:Mat}{ks:Z (Z U×Nat)}{bC:Z (Int×Option Int)}{bG:Z U}{L:Z Pc}(hn:∀j d,j<5->(lks M ks bC bG L)[j]?=some d->d=.none):vP M ks bG bC L=.tuple [.str "good"]:=by unfold vP;rw[qu (hn 0 _ (by decide) rfl),qu<|hn 1 _ (by decide) rfl,qu<|hn 2 _ (by decide) rfl,qu<|hn 3 _ (by decide) rfl,qu<|hn 4 _ (by decide) rfl]
open Classical in
theorem ahp{M:Mat}{ks:Z (Z U×Nat)}{L:Z Pc}(h:lk1 M ks L=.none):∀p∈L,Lie M ks p:=λp hp=>by
 unfold lk1 at h;cases e:qG (λk=>∃p,L[k]?=some p/\¬Lie M ks p) L.length with
 | some k=>rw[e]at h;cases h
 | none=>
  obtain⟨i,hi⟩:=dg hp;have h1:=List.find?_range_eq_none.mp e i (af.mp hi).1;have h2:¬∃p,L[i]?=some p/\¬Lie M ks p:=by simpa using h1
  exact ij λz=>h2 ⟨p,hi,z⟩
def Ee{x:Str}{k:Nat}{ps:Z Str}{sp:Sp}{a:aF}(F:Fn P w K mg base x k ps sp)(h:mg x=some (.ref a)):∃fd,qr P w K mg base CX0 k a fd ps sp/\kn K (.ref a)=true/\Binds K fd ps []:=by obtain⟨f,fd,F,m,kp,b⟩:=F;rw[h]at m;cases m;exact⟨fd,F,kp,b⟩
noncomputable abbrev FZ:Sp:=qH (λM ks bC bG L=>vP M ks bG bC L) λ_ _ _=>True
def scJud:mh ["puzzle","laying","look","found"] Z9 (lw Km):={}
theorem avq{lk f1 f2 f3 f4 f5:aF}(gL:mg "LOOKS" = some (.ref lk))(hLk:∀H,SqT K H lk [.ref f1,.ref f2,.ref f3,.ref f4,.ref f5])(m1:mg "strange_piece" = some (.ref f1))(m2:mg "cell_twice" = some (.ref f2))(m3:mg "bare_cell" = some (.ref f3))(m4:mg "touching_pair" = some (.ref f4))(m5:mg "wrong_count" = some (.ref f5))
  (Mt:Fn P w K mg base "strange_piece" 7 Z9 (qH (λM ks _ _ L=>lk1 M ks L) λ_ _ _=>True)) (Mr:Fn P w K mg base "cell_twice" 3 Z9 (qH (λM _ _ _ L=>lk2 M L) xR)) (MN:Fn P w K mg base "bare_cell" 3 Z9 (qH (λM _ _ _ L=>lk3 M L) xR)) (Ms:Fn P w K mg base "touching_pair" 3 Z9 (qH (λM _ _ bG L=>lk4 M bG L) xR)) (Mq:Fn P w K mg base "wrong_count" 1 Z9 (qH (λ_ _ bC _ L=>lk5 bC L) xR))
  (F:Fun K "judged" "judged" Km f fd):qr P w K mg base CX0 8 f fd Z9 FZ:=by
 refine F.ok (k:=7) scJud (λvs H Q E h=>?_) λbQ A outer s H vs Q E hr h=>?_
 .obtain⟨_,_,_,_,_,_,_,rfl,_⟩:=h;rfl
 obtain⟨pz,l,M,ks,bC,bG,L,rfl,hP,hl,hO,iM,_,q⟩:=h;have q:∀(v:V)(H':Hp),Same H H'->Rep H' (vP M ks bG bC L) v->Q v H':=q;have look:∀i x,[V.ref f1,.ref f2,.ref f3,.ref f4,.ref f5][i]?=some x->∃f k fd R pre,x=.ref f/\qr P w K mg base CX0 k f fd Z9 (qH R pre)/\k<=7/\kn K (.ref f)=true/\Binds K fd Z9 []/\(lks M ks bC bG L)[i]?=some (R M ks bC bG L)/\((0<i->∀p∈L,Lie M ks p)->∀p∈L,pre M ks p):=λi x hx=>by
  match i,hx with
  | 0,hx=>cases hx;obtain⟨fd,a,b,c⟩:=Ee Mt m1;exact(lv f1 7 fd _ _ ⟨rfl,a,by decide,b,c,rfl,λ_ _ _=>trivial⟩)
  | 1,hx=>cases hx;obtain⟨fd,a,b,c⟩:=Ee Mr m2;exact(lv f2 3 fd _ _ ⟨rfl,a,by decide,b,c,rfl,λh=>h<|by decide⟩)
  | 2,hx=>cases hx;obtain⟨fd,a,b,c⟩:=Ee MN m3;exact(lv f3 3 fd _ _ ⟨rfl,a,by decide,b,c,rfl,λh=>h<|by decide⟩)
  | 3,hx=>cases hx;obtain⟨fd,a,b,c⟩:=Ee Ms m4;exact(lv f4 3 fd _ _ ⟨rfl,a,by decide,b,c,rfl,λh=>h<|by decide⟩)
  | 4,hx=>cases hx;obtain⟨fd,a,b,c⟩:=Ee Mq m5;exact(lv f5 1 fd _ _ ⟨rfl,a,by decide,b,c,rfl,λh=>h<|by decide⟩)
 refine⟨_,(k9 (pfo (vx<|aia gL rfl) (pgN 2 scJud.nd) (k9 (psN 3 scJud.nd<|at9 (i:=2) rfl (by first|exact Or.inl rfl|exact Or.inr<|Or.inl rfl)<|lq (pv 0)<|lq (pv 1) k7)
  (lh<|qa (m7 Em (pv 3) sw<|nr _) (lh<|ma<|pv 3) np)))
  (lh<|ma<|mw<|lq oh k7)),?_⟩
 refine⟨lk,rfl,⟨_,hLk H⟩,?_⟩;refine xp (xs:=[.ref f1,.ref f2,.ref f3,.ref f4,.ref f5]) (λi σ' G=>∃(y2 y3:Option V),σ'=[some (.ref pz),some<|.ref l,y2,y3]/\Same H G/\∀j d,j<i->(lks M ks bC bG L)[j]?=some d->d=.none) ?_ (λi σ' G hi hI=>hLk G) (λi x σ' G hx hI=>?_) λσ' G hI=>?_
 .exact(l0 _ _ ⟨rfl,Same.refl _,λj _ hj=>absurd hj<|fu _⟩)
 .obtain⟨y2,y3,rfl,sg,aS⟩:=hI;obtain⟨f,k,fd,R,pre,rfl,F,hk,kp,b,hR,pD⟩:=look i x hx;refine(lv f k fd _ _ ⟨rfl,F,hr.mono hk,kp,b,(ny _ rfl _ ⟨rfl,?_⟩)⟩);refine(lv pz l M ks bC<|l0 bG L ⟨rfl,hP.same sg,hl.same sg,hO,iM,pD λh0=>ahp<|aS 0 _ h0 rfl,λv H' s' rv=>?_⟩);refine(ng _ rfl rfl _ ⟨rfl,?_⟩);have sg':=sg.trans s';rcases as7 hR with e|⟨ds,e⟩
  .rw[e]at rv hR;cases (show v=V.non from rv);refine iV ?_;refine(l0 _ _ ⟨rfl,sg',λj d hj hd=>?_⟩);by_cases ej:j=i
   .subst ej;rw[hR]at hd;cases hd;rfl
   .exact aS j d (by lia) hd
  .rw[e]at rv hR;obtain⟨a,xs,rfl,ha⟩:=id rv;refine ux ?_;refine⟨_,rfl,q _ H' sg' ?_⟩;rw[apr aS hR];exact rv
 .obtain⟨y2,y3,rfl,sg,aS⟩:=hI;refine⟨sZ1,λt ht=>?_⟩;generalize g1:upd G t _=G2 at *;obtain⟨s2,e2⟩:=al ht g1;refine q _ G2 (sg.trans s2) ?_;rw[ahh aS];exact(qi t _ rfl e2 _ _ ⟨rfl,⟨rfl,by decide +kernel⟩,rfl⟩)
def aoy(cs:Z Nat)(c:Nat):(⟨cs.toArray⟩:Str)++(⟨#[c]⟩:Str)=⟨(cs++[c]).toArray⟩:=by show(⟨cs.toArray ++ #[c]⟩:Str)=_;simp
def zh(cs:Z Nat):(⟨cs.toArray⟩:Str).length=cs.length:=bj
def avj{cs:Z Nat}(h:∀c∈cs,sgB c=true)(hl:cs.length<=8):Tx ⟨cs.toArray⟩/\∀c∈(⟨cs.toArray⟩:Str).cps.toList,sgB c=true:=by
 have e:(⟨cs.toArray⟩:Str).cps.toList=cs:=by simp
 rw[e];exact⟨⟨by rw[zh];lia,λc hc=>by rw[e]at hc;exact zX<|h c hc⟩,h⟩
def ata{ls:Z (Z Nat)}{wd:Nat}(h1:0<ls.length)(h8:ls.length<=8)(w1:0<wd)(w8:wd<=8)(hz:∀l∈ls,(∀c∈l,sgB c=true)/\l.length=wd) :
  ∃M:Mat,ls.map (λl=>(⟨l.toArray⟩:Str))=qy M/\OkM SgP M/\M.h=ls.length/\M.w=wd/\∀r c l,ls[r]?=some l->c<wd->l[c]?=some (M.g r c):=by
 obtain⟨M,e,o⟩:=aum (zs:=ls.map λl=>(⟨l.toArray⟩:Str)) ⟨by rw[ae];exact h1,by rw[ae];exact h8,wd,w1,w8,λz pV=>by obtain⟨l,hl,rfl⟩:=ay.mp pV;obtain⟨a,b⟩:=hz l hl;exact⟨avj a<|by lia,by rw[zh];exact b⟩⟩
 have eh:M.h=ls.length:=by rw[<-ql,<-e,ae]
 have ew:M.w=wd:=by have hm:=gp h1;have b:=(akf o (z:=⟨(ls[0]).toArray⟩)<|by rw[<-e];exact gg hm).2;rw[zh]at b;have:=(hz _ hm).2;lia
 refine⟨M,e,o,eh,ew,λr c l hr hc=>?_⟩;have HU:=(af.mp hr).1;have h2:=Go (M:=M) (r:=r) (by lia);rw[<-e,bo,hr]at h2;have h3:(⟨l.toArray⟩:Str)=⟨(o7 M r).toArray⟩:=by injection h2
 have h4:l.toArray=(o7 M r).toArray:=by injection h3
 have h5:l=o7 M r:=by have:=congrArg Array.toList h4;simpa using this
 rw[h5];exact zn<|by lia
def atl{k:Nat}(h1:65<=k)(h2:k<=90):sgB k=true/\sgB (lo1 k)=true:=by
 have:∀k<91,65<=k->sgB k=true/\sgB (lo1 k)=true:=by decide +kernel
 exact this k (by lia) h1
def aqj(k:Nat):okS 46 k=true/\okS 44 k=true/\okS k k=true/\okS (lo1 k) k=true:=by unfold okS;refine⟨by simp,by simp,by simp,by simp⟩
def Kv(kvs:Z (Z Key×V))(i:Nat)(cs:Z Nat):Prop:=∀c k g,rs kvs (rf i c)=some (.str ⟨#[k]⟩)->cs[c]?=some g->okS g k=true
def amj:Sp:=λvs H Q _=>∃(tk lt:aF)(h wd:Nat)(x:Int) (kvs:Z (Z Key×V)) (cs:Z Nat),vs=[.ref tk,.int (h:Nat),.int (wd:Nat),.int x,.ref lt]/\H tk=some (.dT kvs)/\TkD kvs/\H lt=some (.lst<|lG cs)/\cs.length=3/\(∀c∈cs,Ltr c)/\0<h/\h<=8/\0<wd/\wd<=8/\
 ∀(r:aF)(G:Hp)(M:Mat),Same H G->FlM G r M->M.h=h->M.w=wd->(∀r c k,r<h->c<wd->rs kvs (rf r c)=some (.str ⟨#[k]⟩)->okS (M.g r c) k=true)->Q (.ref r) G
def scFloor:mh ["_law_taken","_law_high","_law_wide","_law_x","_law_letters_here","_law_rows","_law_row","_law_signs","_law_y","_law_sign"] ZM (lw Lc):={}
theorem aov(B:∀x∈sv,mg x=none)(jO:Fn P w K mg base "_law_mixed" 1 Z5 Ab)(F:Fun K "_law_floor" "_law_floor" Lc f fd):qr P w K mg base CX0 2 f fd ZM amj:=by
 refine F.ok (k:=1) scFloor (λvs H Q E h=>?_) λbQ A outer s H vs Q E hr h=>?_
 .obtain⟨tk,lt,h,wd,x,kvs,ls,rfl,_⟩:=h;rfl
 obtain⟨tk,lt,h,wd,x,kvs,EU,rfl,htk,hT,bS,qA,sN,IS,hh8,AI,HH,q⟩:=h;have hu:=hr.units;refine⟨_,(k9 (psN 5 scFloor.nd<|oz k7)
  (k9 (pfo (pR1<|lq (pv 1) k7) (pgN 6 scFloor.nd) (k9 (psN 7 scFloor.nd oh)
  (k9 (pfo (og<|pfn jO<|lq (mj wg (pv 3)<|mj oq (pv 6) k8)<|lq (pv 2) k7) (pgN 8 scFloor.nd) (k9 (psN 9 scFloor.nd<|anz (cy (cw (by decide) _) hu) (pv 0) (mw<|lq (pv 6)<|lq (pCB qd cg<|lq (pv 7) k7) k7) oh ⟨rfl,rfl,rfl,rfl⟩)
  (lh<|qa (m7 uv (pv 9) oh<|nr _) (lh<|psN 7 scFloor.nd<|mj tq (pv 7)<|pix my (oz<|lq oh<|lq oh<|lq oh<|lq (D0 ku PySem.F.slot_str_lower PySem.F.type_str_lower L1<|pix my (pv 4)<|mj oo (mj wg (pv 8) k8) k8)<|lq oh k7)<|mj oo (pv 8) k8)<|lh<|psN 7 scFloor.nd<|mj tq (pv 7)<|pix my (oz<|lq oh<|lq oh<|lq (pv 9)<|lq (D0 ku PySem.F.slot_str_lower PySem.F.type_str_lower L1<|pv 9)<|lq oh k7)<|mj oo (pv 8) k8)))
  (lh<|r9<|ww ci fc ff pw (pv 5)<|lq (pv 7) k7))))
  (lh<|ma<|pCT ot bU<|lq (pv 5) k7))),?_⟩
 refine⟨sZ0,λD hD=>?_⟩;generalize g1:upd H D _=H1 at *;obtain⟨s1,d1⟩:=al hD g1;have d1:H1 D=some (.lst ([]:Z V)):=d1;refine(ny _ rfl (h:Nat) ⟨rfl,by lia,by lia,?_⟩);rw[cj];refine sq (lo:=0) (λi σ' G=>∃(y6 y7 y8 y9:Option V) (ls:Z (Z Nat)),σ'=[some (.ref tk),some<|.int (h:Nat),some<|.int (wd:Nat),some<|.int x,some<|.ref lt,some<|.ref D,y6,y7,y8,y9]/\Same H G/\G D=some (.lst<|(ls.map λl=>(⟨l.toArray⟩:Str)).map V.str)/\ls.length=i/\(∀l∈ls,(∀c∈l,sgB c=true)/\l.length=wd)/\∀r l,ls[r]?=some l->Kv kvs r l) ?_ (λi σ' G hi hI=>?_) λσ' G hI=>?_
 .exact(lv _ _ _ _ ([]) ⟨rfl,s1,d1,rfl,(λl hl=>by cases hl),(λr l hl=>by simp at hl)⟩)
 .obtain⟨y6,y7,y8,y9,ls,rfl,sm,kE,wS,Fa,Il⟩:=hI;refine(ni _ rfl _ rfl _ _ rfl rfl _ ⟨_,rfl,rfl,⟨by show(0:Int)<0+(i:Nat)+1;lia,by show 0+((i:Nat):Int)+1<1073741824;lia⟩,(nj _ rfl _ wd ⟨rfl,by lia,λX ns G2 ⟨hnw,tP⟩ s2 Dg hX=>?_⟩)⟩);refine⟨X,rfl,⟨_,SqL.of hX⟩,?_⟩;have eG:=s2 _ _ kE;refine qc (xs:=ns.map V.int) (λj σ' G3=>∃(y8 y9:Option V)(cs:Z Nat),σ'=[some (.ref tk),some<|.int (h:Nat),some<|.int (wd:Nat),some<|.int x,some<|.ref lt,some<|.ref D,some<|.int<|0+(i:Nat),some<|.str ⟨cs.toArray⟩,y8,y9]/\Same G2 G3/\cs.length=j/\(∀c∈cs,sgB c=true)/\Kv kvs i cs) ?_ (λj σ' G3 hj hI=>?_) (λj v σ' G3 hv hI=>?_) λσ' G3 hI=>?_
  .exact(m9 _ _ ([]) ⟨rfl,Same.refl _,rfl,(λc hc=>by cases hc),(λc k g _ hc=>by simp at hc)⟩)
  .obtain⟨_,_,_,_,yB,_⟩:=hI;exact SqL.of<|yB _ _ hX
  .obtain⟨y8,y9,cs,rfl,yB,kP,lN,Jf⟩:=hI;have hjw:j<wd:=by have:=(af.mp hv).1;rw[ae]at this;lia
   obtain⟨y,hy,rfl⟩:=ay.mp<|ai hv;have EX:=(tP y hy).1;have smA:=(sm.trans s2).trans yB;have tk3:=smA _ _ htk;have Ch:∀c:Nat,(⟨cs.toArray⟩:Str).length+(⟨#[c]⟩:Str).length<=aC:=λc=>by rw[zh];exact fh (mr<|by show cs.length+1<=1000;lia)
   refine(ny _ rfl tk ⟨rfl,.inr ⟨_,.inl tk3⟩,(qg _ rfl _ rfl _ ⟨rfl,by rw[zh];exact fh<|mr<|by lia,sZ2,λp4 Ii=>?_⟩)⟩);have s4:Same G3 (upd G3 p4<|.tup [.int (0+(i:Nat)),.int (((⟨cs.toArray⟩:Str).length:Nat):Int)]):=Same.fresh _ Ii;have c4:upd G3 p4 (.tup [.int (0+(i:Nat)),.int (((⟨cs.toArray⟩:Str).length:Nat):Int)]) p4=some (.tup<|(rf i j).map kV):=by rw[lr,iw,zh,kP];rfl
   generalize upd G3 p4 (.tup [.int (0+(i:Nat)),.int (((⟨cs.toArray⟩:Str).length:Nat):Int)])=G4 at *;refine⟨_,DGet.t (s4 _ _ tk3) c4,?_⟩;have fin:∀(c:Nat)(G':Hp),Same G4 G'->sgB c=true->(∀k,rs kvs (rf i j)=some (.str ⟨#[k]⟩)->okS c k=true)->∀y9:Option V,∃(z8 z9:Option V)(FG:Z Nat),[some (V.ref tk),some<|.int (h:Nat),some<|.int (wd:Nat),some<|.int x,some<|.ref lt,some<|.ref D,some<|.int<|0+(i:Nat),some<|.str<|(⟨cs.toArray⟩:Str)++(⟨#[c]⟩:Str),some<|.int y,y9]=[some (.ref tk),some<|.int (h:Nat),some<|.int (wd:Nat),some<|.int x,some<|.ref lt,some<|.ref D,some<|.int<|0+(i:Nat),some<|.str ⟨FG.toArray⟩,z8,z9]/\Same G2 G'/\FG.length=j+1/\(∀c∈FG,sgB c=true)/\Kv kvs i FG:=λc G' s' hc sO y9=>by
    refine(m9 _ y9 (cs++[c]) ⟨by rw[aoy],(yB.trans s4).trans s',by rw[au,kP];rfl,λd hd=>?_,λd k g hk e=>?_⟩)
    .rcases a8.mp hd with h|h
     .exact lN d h
     .rw[ar.mp h];exact hc
    .by_cases hdj:d<cs.length
     .rw[db hdj]at e;exact Jf d k g hk e
     .have hl:=(af.mp e).1;rw[au,cc]at hl;have e5:d=j:=by lia
      subst e5;rw[cf (by lia),kP,j7]at e;have e6:c=g:=by simpa using e
      rw[<-e6];exact sO k hk
   obtain⟨yF,CQ,Dy⟩:∃yF:Nat,yF<5/\y % 5=(yF:Nat):=⟨(y % 5).toNat,by lia,by lia⟩;have zR:bw "." = ⟨#[46]⟩:=by decide +kernel
   have FE:bw "," = ⟨#[44]⟩:=by decide +kernel
   have JN:bw "#" = ⟨#[35]⟩:=by decide +kernel
   cases hv:rs kvs (rf i j)with
   | none=>
    refine(ng _ rfl rfl _ ⟨rfl,?_⟩);refine ux ?_;obtain⟨m3,hm3,em3⟩:∃m:Nat,m<3/\y/5 % 3=(m:Nat):=⟨(y/5 % 3).toNat,by lia,by lia⟩;have CN:EU[m3]?=some (EU[m3]'(by lia)):=ah _;have yX:=sN _<|ai CN;generalize EU[m3]'(by lia)=k at *;have hk:=atl yX.1 yX.2;refine(oj _ rfl _ rfl _ rfl _ _ ⟨rfl,rfl,⟨by decide,by decide⟩,(r8 _ _ rfl rfl (by show(0:Int)<3;decide) lt _ _ ⟨.str ⟨#[k]⟩,rfl,rfl,SqL.of<|s4 _ _<|smA _ _ bS,?_,rfl,k,rfl,rfl,by have:=yX.2;lia,sZ5,λp6 yN=>?_⟩)⟩)
    .show atI (lG EU) (y/5 % 3)=_;rw[em3];exact lg<|by unfold lG;rw[bo,CN];rfl
    rw[JN,FE];generalize g1:upd G4 p6 _=G6 at *;obtain⟨s6,c6⟩:=al yN g1;obtain⟨c,hc,Jh⟩:∃c,[V.str ⟨#[35]⟩,.str ⟨#[44]⟩,.str ⟨#[35]⟩,.str ⟨#[lo1 k]⟩,.str ⟨#[44]⟩][yF]?=some (.str ⟨#[c]⟩)/\sgB c=true:=by
     match yF,CQ with
     | 0,_=>exact⟨35,rfl,by decide⟩
     | 1,_=>exact⟨44,rfl,by decide⟩
     | 2,_=>exact⟨35,rfl,by decide⟩
     | 3,_=>exact⟨lo1 k,rfl,hk.2⟩
     | 4,_=>exact⟨44,rfl,by decide⟩
    refine(pj _ rfl _ _ rfl rfl (by show(0:Int)<5;decide) p6 _<|l0 _ (.str ⟨#[c]⟩) ⟨rfl,rfl,SqL.of c6,?_,(l0 _ _ ⟨rfl,rfl,Ch c,?_⟩)⟩)
    .show atI _ (y % 5)=_;rw[Dy];exact lg hc
    exact fin c _ s6 Jh (λk' z=>by rw[hv]at z;cases z) _
   | some v=>
    obtain⟨k,rfl,lB,AT⟩:=hT _ _ _ hv;have hk:=atl lB AT;refine(ng _ rfl rfl _ ⟨rfl,?_⟩);have ne:decide (V.str ⟨#[k]⟩=V.str (bw ""))=false:=decide_eq_false λe=>by
     injection e with e
     have:=congrArg Str.length e;have e0:(bw "").length=0:=by decide +kernel
     rw[e0]at this;cases this
    rw[show(some (V.str ⟨#[k]⟩):Option V).getD (V.str<|bw "")=V.str ⟨#[k]⟩from rfl,ne];refine iV ?_;refine(qg _ rfl _ rfl _ ⟨rfl,rfl,k,rfl,rfl,by lia,sZ5,λp6 yN=>?_⟩);rw[zR,FE];generalize g1:upd G4 p6 _=G6 at *;obtain⟨s6,c6⟩:=al yN g1;obtain⟨c,hc,Jh,sO⟩:∃c,[V.str ⟨#[46]⟩,.str ⟨#[44]⟩,.str ⟨#[k]⟩,.str ⟨#[lo1 k]⟩,.str ⟨#[46]⟩][yF]?=some (.str ⟨#[c]⟩)/\sgB c=true/\okS c k=true:=by
     have ha:=aqj k
     match yF,CQ with
     | 0,_=>exact⟨46,rfl,by decide,ha.1⟩
     | 1,_=>exact⟨44,rfl,by decide,ha.2.1⟩
     | 2,_=>exact⟨k,rfl,hk.1,ha.2.2.1⟩
     | 3,_=>exact⟨lo1 k,rfl,hk.2,ha.2.2.2⟩
     | 4,_=>exact⟨46,rfl,by decide,ha.1⟩
    refine(pj _ rfl _ _ rfl rfl (by show(0:Int)<5;decide) p6 _<|l0 _ (.str ⟨#[c]⟩) ⟨rfl,rfl,SqL.of c6,?_,(l0 _ _ ⟨rfl,rfl,Ch c,?_⟩)⟩)
    .show atI _ (y % 5)=_;rw[Dy];exact lg hc
    exact fin c _ s6 Jh (λk' z=>by rw[hv]at z;cases z;exact sO) _
  .obtain⟨y8,y9,cs,rfl,yB,kP,lN,Jf⟩:=hI;rw[ae]at kP;have jC:=yB _ _ eG;refine(se _ rfl (.inl ⟨rfl,_,SqL.of jC⟩) _ rfl D _ (.str ⟨cs.toArray⟩) ⟨rfl,rfl,jC,mr<|by rw[ae,ae];lia,?_⟩);refine(lv _ _ _ _ (ls++[cs]) ⟨rfl,((sm.trans s2).trans yB).new hD,by rw[lr,b9,b9];rfl,by rw[au,wS];rfl,λl hl=>?_,λr l hl=>?_⟩)
   .rcases a8.mp hl with h|h
    .exact Fa l h
    .rw[ar.mp h];exact⟨lN,by lia⟩
   .by_cases hr:r<ls.length
    .rw[db hr]at hl;exact Il r l hl
    .have fJ:=(af.mp hl).1;rw[au,cc]at fJ;have e5:r=i:=by lia
     subst e5;rw[cf (by lia),wS,j7]at hl;have e6:cs=l:=by simpa using hl
     rw[<-e6];exact Jf
 .obtain⟨y6,y7,y8,y9,ls,rfl,sm,kE,wS,Fa,Il⟩:=hI;obtain⟨M,e,o,eh,ew,hg⟩:=ata (by lia) (by lia) AI HH Fa;rw[e]at kE;refine(nj _ rfl D _ ⟨rfl,.inl ⟨SqL.of kE,λl hl=>?_⟩⟩);refine q l _ M (sm.trans<|Same.fresh _ hl) ⟨lr,o⟩ (by lia) ew λr c k hr hc hv=>?_;have HU:r<ls.length:=by lia
  exact Il r _ (ah HU) c k _ hv<|hg r c _ (ah HU) hc
noncomputable def whV(v:Nat×Nat):Z V:=[.str ⟨#[v.2]⟩,.int (v.1:Nat)]
noncomputable def sgn(E:Z En)(c:Nat×Nat):Nat:=((mQ E c).map (·.2)).getD 0
noncomputable def prT(a b:Nat):U:=.tuple [chD (iA a b),chD<|ET a b]
noncomputable def tqD(wd:Nat)(E:Z En)(j:Nat):U:=.tuple [cdw wd (j/2),ut<|oth wd j,prT (sgn E<|cq wd<|j/2)<|sgn E<|oth wd j]
def as8(wd:Nat)(E:Z En)(js:Z Nat):qe (js.map<|tqD wd E)=true:=sr λd hd=>by obtain⟨j,_,rfl⟩:=ay.mp hd;rfl
def aru{is:Z Nat}(u:is.Pairwise (· < ·)){t i k:Nat}(hi:is[t]?=some i)(hk:k∈is.take t):k<i:=by
 obtain⟨j,hj⟩:=dg hk;have Fb:j<t:=by have:=(af.mp hj).1;rw[bf]at this;lia
 rw[List.getElem?_take,if_pos Fb]at hj;obtain⟨h1,e1⟩:=af.mp hi;obtain⟨h2,e2⟩:=af.mp hj;have:=fq.mp u j t h2 h1 Fb;lia
def aom{G:Hp}{a b:Nat}{es:Z U}{ys:Z V}(pe:es.Perm [chD a,chD b])(so:es.Pairwise (λx y=>ltX y x=false))(re:RepAll G es ys):ys=[chV (iA a b),chV<|ET a b]/\jk (⟨#[iA a b]⟩:Str)=true/\jk (⟨#[ET a b]⟩:Str)=true:=by cases aa1 pe so;obtain⟨v1,r1,rfl,h1,v2,r2,rfl,h2,h3⟩:=re;cases (show r2=[]from h3);exact⟨by rw[h1.1,h2.1];rfl,h1.2,h2.2⟩
def K4:Sp:=λvs H Q _=>∃(l:aF)(nk wd:Nat)(L:Z Pc),vs=[.ref l]/\LyH H l L/\LyO nk L/\L.length<=13/\(∀c∈cls L,c.2<wd)/\
 ∀(D:aF)(ys:Z V)(js:Z Nat)(H':Hp),Same H H'->H' D=some (.lst ys)->RepAll H' (js.map<|tqD wd<|ens L 0) ys->js.Pairwise (· < ·)->(∀j,j∈js↔Tch wd (ens L 0) j)->js.length<=200->Q (.ref D) H'
def scTch:mh ["_law_laid_here","_law_whose","_law_k","_law_placement","_law_row","_law_column","_law_sign","_law_pairs","_law_cell","_law_other","_law_signs"] ZT (lw Kg):={}
theorem au5(B:∀x∈sv,mg x=none)(F:Fun K "_law_touching" "_law_touching" Kg f fd):qr P w K mg base CX0 1 f fd ZT K4:=by
 refine F.ok (k:=0) scTch (λvs H Q E h=>?_) λbQ A outer s H vs Q E hr h=>?_
 .obtain⟨_,_,_,_,rfl,_⟩:=h;rfl
 obtain⟨l,nk,wd,L,rfl,⟨xs,hl,rep⟩,hO,iM,HG,q⟩:=h;have hu:=hr.units;have lx:=rep.length;rw[ae]at lx;refine⟨_,(k9 (psN 1 scTch.nd Gx)
  (k9 (pfo (pEL<|lq (pv 0) k7) (qb (n:=2) rfl<|ln (pgN 2 scTch.nd)<|ln (pgN 3 scTch.nd) nc)<|lh<|pfo (vx<|pix mf (pv 3) k8) (qb (n:=3) rfl<|ln (pgN 4 scTch.nd)<|ln (pgN 5 scTch.nd)<|ln (pgN 6 scTch.nd) nc)<|lh<|LJ (cy (cw (by decide) _) hu) (pv 1) (mw<|lq (pv 4)<|lq (pv 5) k7) (mw<|lq (pv 6)<|lq (pv 2) k7) rfl)
  (k9 (psN 7 scTch.nd<|oz k7)
  (k9 (pfo (og<|pCB (u8 rfl) kg<|lq (pv 1) k7) (pgN 8 scTch.nd) (lh (pfo (og<|oz<|lq (mw<|lq (pix mf (pv 8) k8)<|lq (mj oq (pix mf (pv 8) k8) k8) k7)<|lq (mw<|lq (mj oq (pix mf (pv 8) k8) k8)<|lq (pix mf (pv 8) k8) k7) k7) (pgN 9 scTch.nd) (lh (qa (PW.pt<|vh (F5<|apq (cy (cw (by decide) _) hu) (pv 9)<|pv 1)<|uk<|m7 DN (pix mf (vm (cy (cw (by decide) _) hu) (pv 1) (pv 9) λ_ _=>rfl) k8) (pix mf (vm (cy (cw (by decide) _) hu) (pv 1) (pv 8) λ_ _=>rfl) k8)<|nr _) (k9 (psN 10 scTch.nd<|pCB v8 kg<|lq (oz<|lq (pix mf (vm (cy (cw (by decide) _) hu) (pv 1) (pv 8) λ_ _=>rfl) k8)<|lq (pix mf (vm (cy (cw (by decide) _) hu) (pv 1) (pv 9) λ_ _=>rfl) k8) k7) k7)
  (lh<|r9<|ww ci fc ff pw (pv 7)<|lq (mw<|lq (pv 8)<|lq (pv 9)<|lq (mw<|lq (pix my (pv 10) k8)<|lq (pix my (pv 10) k8) k7) k7) k7)) np)))))
  (lh<|ma<|pv 7))))),?_⟩
 intro wh wL;generalize g1:upd H wh _=H1 at *;obtain⟨s1,d1⟩:=al wL g1;refine(ny _ rfl l ⟨rfl,⟨_,SqL.of<|s1 _ _ hl⟩,?_⟩);refine zq (xs:=xs) (λi σ' G=>∃(y2 y3 y4 y5 y6 y7 y8 y9 hJ:Option V) (kvs:Z (Z Key×V)),σ'=[some (.ref l),some<|.ref wh,y2,y3,y4,y5,y6,y7,y8,y9,hJ]/\Same H G/\G wh=some (.dT kvs)/\CvD G whV kvs (ens (L.take i) 0)) ?_ (λi σ' G hI=>?_) (λi x pr σ' G hx kZ hI=>?_) λσ' G hI=>?_
 .exact(lv _ _ _ _ _<|lv _ _ _ _ ([]) ⟨rfl,s1,d1,(λkv h=>by cases h),(λq v h=>by cases h),ao _⟩)
 .obtain⟨_,_,_,_,_,_,_,_,_,_,_,sg,_⟩:=hI;exact SqL.of<|sg _ _ hl
 .obtain⟨y2,y3,y4,y5,y6,y7,y8,y9,hJ,kvs,rfl,sg,hG,hC⟩:=hI;obtain⟨p,hp,rd⟩:=vV rep hx;have hi:i<L.length:=(af.mp hp).1;have iL:=(hO p<|ai hp).1;have h6:=iL.2.2;have iI:=Gs (L:=L.take i) (nk:=nk) λq hq=>hO q<|ca hq;rw[bf]at iI;obtain⟨b,eb,fE,rfl,hb,iJ,bR⟩:=xU rd;have le:=bR.length;rw[ae]at le;refine(l7 pr _ rfl (SqT.of lr) rfl _ _ rfl _ ⟨_,rfl,rfl,?_⟩);generalize g1:upd G pr _=G2 at *;obtain⟨s2,_⟩:=al kZ g1;have bM:=sg.trans s2;refine(lj _ rfl b _ _ _ ⟨rfl,rfl,SqT.of<|bM _ _ hb,lg (j:=0) rfl,eb,rfl,⟨_,SqT.of<|bM _ _ iJ⟩,?_⟩);refine xp (xs:=fE) (λk σ' G3=>∃(y4 y5 y6 y7 y8 y9 hJ:Option V) (bN:Z (Z Key×V)),σ'=[some (.ref l),some<|.ref wh,some<|.int (i:Nat),some<|.ref b,y4,y5,y6,y7,y8,y9,hJ]/\Same H G3/\G3 wh=some (.dT bN)/\CvD G3 whV bN (ens (L.take i) 0++(p.1.take k).map (en i))) ?_ (λk σ' G3 hk hI=>?_) (λk x σ' G3 hx hI=>?_) λσ' G3 hI=>?_
  .exact(lv _ _ _ _ _<|m9 _ _ kvs ⟨rfl,bM,s2 _ _ hG,by rw[List.take_zero,List.map_nil,fj];exact hC.tk λc zs h=>s2 _ _ h⟩)
  .obtain⟨_,_,_,_,_,_,_,_,_,dB,_⟩:=hI;exact SqT.of<|dB _ _ iJ
  .obtain⟨y4,y5,y6,y7,y8,y9,hJ,bN,rfl,dB,pH,kF⟩:=hI;have hk:k<fE.length:=(af.mp hx).1;obtain⟨sp,b',hs,rfl,cU⟩:=Br bR hx;refine(l7 b' _ rfl (SqT.of<|dB _ _ cU) rfl _ _ rfl _<|nj _ rfl _ _ ⟨rfl,rfl,?_⟩);refine(ny _ rfl _ ⟨rfl,sZ2,λt4 Ct=>?_⟩);generalize g1:upd G3 t4 _=G4 at *;obtain⟨s4,c4⟩:=al Ct g1;refine(qg _ rfl _ rfl _ ⟨rfl,sZ2,λt5 pX=>?_⟩);generalize g1:upd G4 t5 _=G5 at *;obtain⟨s5,c5⟩:=al pX g1;have mW:=s5 _ _<|s4 _ _ pH;have aZ:=kF.2.2;rw[au,ae,bf]at aZ;refine(l0 wh _ ⟨rfl,DPut.t (k:=rf sp.1 sp.2.1) mW c5<|mr<|by lia,?_⟩);have xF:CvD G5 whV bN _:=kF.tk λc zs h=>s5 _ _<|s4 _ _ h;refine(lv _ _ _ _ _<|m9 _ _ _ ⟨rfl,((dB.trans s4).trans s5).new wL,lr,?_⟩);rw[aku i k hs,<-bq];exact(xF.put (q:=ce sp) (v:=(i,sp.2.2))<|s5 _ _ c4).tk (K8 mW)
  .obtain⟨y4,y5,y6,y7,y8,y9,hJ,bN,rfl,dB,pH,kF⟩:=hI;rw[aw (l:=p.1) (by lia),<-ahq hp]at kF;exact(lv _ _ _ _ _<|lv _ _ _ _ bN ⟨rfl,dB,pH,kF⟩)
 .obtain⟨y2,y3,y4,y5,y6,y7,y8,y9,hJ,kvs,rfl,sg,hG,hC⟩:=hI;rw[aw (by lia)]at hC;have iI:=Gs hO;have mI:=hC.2.2;have bS:∀{c v:Nat×Nat},mQ (ens L 0) c=some v->v.2<128:=λhv=>LG 0 hO _<|F6 hv;refine⟨sZ0,λD hD=>?_⟩;generalize g1:upd G D _=G2 at *;obtain⟨s2,d2⟩:=al hD g1;have Dq:H D=none:=sg.free hD;have wM:=Md (kvs:=kvs) λkv eL=>by
   obtain⟨c,e1,_⟩:=hC.1 kv eL;exact⟨c,e1⟩
  refine(ph _ rfl wh kvs ([true]) ⟨rfl,s2 _ _ hG,wM.1,wM.2,by lia,λS ls es hS pe up nd re=>?_⟩);generalize g1:upd G2 S _=G3 at *;obtain⟨s3,l3⟩:=al hS g1;obtain⟨is,rfl,pW,hmem⟩:=hC.keys (wd:=wd) HG nd pe up;generalize hE:ens L 0=E at *;have lL:=re.length;have lP:=pe.length_eq;rw[ae]at lL;rw[ae,ae]at lP;have Hs:S≠D:=λe=>by rw[e,d2]at hS;cases hS
  refine⟨S,rfl,⟨_,SqL.of l3⟩,?_⟩;have jC:=s3 _ _ d2;refine qc (xs:=ls) (λt σ' G4=>∃(y8 y9 hJ:Option V)(ys:Z V)(js:Z Nat),σ'=[some (.ref l),some<|.ref wh,y2,y3,y4,y5,y6,some<|.ref D,y8,y9,hJ]/\Ex [D] G3 G4/\G4 D=some (.lst ys)/\RepAll G4 (js.map<|tqD wd E) ys/\js.Pairwise (· < ·)/\(∀j,j∈js↔Tch wd E j/\j/2∈is.take t)/\js.length<=2*t) ?_ (λt σ' G4 ht hI=>?_) (λt x σ' G4 hx hI=>?_) λσ' G4 hI=>?_
  .exact(lv _ _ _ ([]) ([]) ⟨rfl,Ex.refl _ _,jC,rfl,List.Pairwise.nil,(λj=>⟨λh=>(by cases h),λh=>(by cases h.2)⟩),ao _⟩)
  .obtain⟨_,_,_,_,_,_,ex,_⟩:=hI;exact SqL.of<|ex.at Hs l3
  .obtain⟨y8,y9,hJ,ys,js,rfl,ex,qD,eZ,CW,yY,Fc⟩:=hI;have ht:t<ls.length:=(af.mp hx).1;obtain⟨i,cb,hi,rfl,lO⟩:=Lf re hx;obtain⟨v,hv⟩:=(hmem i).mp (ai hi);have tkA:Tk G G4:=λc zs h=>ex.at (λe=>by rw[e,hD]at h;cases h)<|s3 _ _<|s2 _ _ h;have sL:=ex.at (λe=>by rw[e,jC]at lO;cases lO) lO;have yI:G4 wh=some (.dT kvs):=ex.at (λe=>by rw[e,hD]at hG;cases hG)<|s3 _ _<|s2 _ _ hG;have Fw:=hC.tk tkA;refine(lj _ rfl cb _ _ _ ⟨rfl,rfl,SqT.of sL,lg (j:=0) rfl,(lj _ rfl cb _ _ _ ⟨rfl,rfl,SqT.of sL,lg (j:=1) rfl,(l0 _ _ ⟨rfl,rfl,sZ2,λp5 CF=>?_⟩)⟩)⟩);generalize g1:upd G4 p5 _=G5 at *;obtain⟨s5,c5⟩:=al CF g1;refine(lj _ rfl cb _ _ _ ⟨rfl,rfl,SqT.of<|s5 _ _ sL,lg (j:=0) rfl,(l0 _ _ ⟨rfl,rfl,(lj _ rfl cb _ _ _ ⟨rfl,rfl,SqT.of<|s5 _ _ sL,lg (j:=1) rfl,sZ2,λp6 yN=>?_⟩)⟩)⟩);generalize g1:upd G5 p6 _=G6 at *;obtain⟨s6,c6⟩:=al yN g1;refine⟨sZ2,λp7 CD=>?_⟩;generalize g1:upd G6 p7 _=G7 at *;obtain⟨s7,c7⟩:=al CD g1;have sA:=(s5.trans s6).trans s7;have np7:p7≠D:=λe=>by rw[e,s6 _ _<|s5 _ _ qD]at CD;cases CD
   have zT:∀(b:Nat) x,[V.ref p5,V.ref p6][b]?=some x->b<2/\∃ob:aF,x=.ref ob/\G7 ob=some (.tup [.int ((oth wd<|2*i+b).1:Nat),.int ((oth wd<|2*i+b).2:Nat)]):=λb x hx=>by
    match b,hx with
    | 0,hx=>cases hx;rw[awb];exact⟨by decide,p5,rfl,s7 _ _<|s6 _ _ c5⟩
    | 1,hx=>cases hx;rw[as4];exact⟨by decide,p6,rfl,s7 _ _ c6⟩
   refine⟨p7,rfl,⟨_,SqL.of c7⟩,?_⟩;refine qc (xs:=[V.ref p5,V.ref p6]) (λb σ' G8=>∃(y9 hJ:Option V)(ys:Z V)(js:Z Nat),σ'=[some (.ref l),some<|.ref wh,y2,y3,y4,y5,y6,some<|.ref D,some<|.ref cb,y9,hJ]/\Ex [D] G7 G8/\G8 D=some (.lst ys)/\RepAll G8 (js.map<|tqD wd E) ys/\js.Pairwise (· < ·)/\(∀j,j∈js↔Tch wd E j/\(j/2∈is.take t\/∃b',b'<b/\j=2*i+b'))/\js.length<=2*t+b) ?_ (λb σ' G8 hj hI=>?_) (λb x σ' G8 hx hI=>?_) λσ' G8 hI=>?_
   .exact(l9 _ _ ys js ⟨rfl,Ex.refl _ _,sA _ _ qD,eZ.same sA,CW,(λj=>(yY j).trans ⟨λh=>⟨h.1,.inl h.2⟩,λh=>⟨h.1,h.2.elim id λ⟨b',cU,_⟩=>absurd cU<|fu _⟩⟩),by lia⟩)
   .obtain⟨_,_,_,_,_,vJ,_⟩:=hI;exact SqL.of<|vJ.at np7 c7
   .obtain⟨y9,hJ,BF,yH,rfl,vJ,Do,lY,uY,nK,CY⟩:=hI;obtain⟨kQ,ob,rfl,wQ⟩:=zT b x hx;have nob:ob≠D:=λe=>by rw[e,sA _ _ qD]at wQ;cases wQ
    have EI:Tk G7 G8:=vJ.one<|sA _ _ qD;have CH:=vJ.at nob wQ;have sK:=EI _ _<|sA _ _ sL;have nwh:wh≠D:=λe=>by rw[e,qD]at yI;cases yI
    have rG:=vJ.at nwh<|sA _ _ yI;have vH:CvD G8 whV kvs E:=Fw.tk λc zs h=>EI _ _<|sA _ _ h;have AD:G8 ob=some (.tup<|(rf (oth wd<|2*i+b).1 (oth wd<|2*i+b).2).map kV):=CH;have AE:G8 cb=some (.tup<|(rf (cq wd i).1 (cq wd i).2).map kV):=sK;have e2i:(2*i+b)/2=i:=by lia
    have hmn:¬Tch wd E (2*i+b)->∀j,j∈yH↔Tch wd E j/\(j/2∈is.take t\/∃b',b'<b+1/\j=2*i+b'):=λhn j=>(nK j).trans ⟨λh=>⟨h.1,h.2.imp id λ⟨b',cU,e⟩=>⟨b',by lia,e⟩⟩,λh=>⟨h.1,h.2.imp id λ⟨b',cU,e⟩=>⟨b',by
     by_cases eb:b'=b
     .subst eb;subst e;exact absurd h.1 hn
     .lia,e⟩⟩⟩
    have no:¬Tch wd E (2*i+b)->∀hJ:Option V,∃(z9 z10:Option V)(ys:Z V)(js:Z Nat),[some (V.ref l),some<|.ref wh,y2,y3,y4,y5,y6,some<|.ref D,some<|.ref cb,some<|.ref ob,hJ]=[some (.ref l),some<|.ref wh,y2,y3,y4,y5,y6,some<|.ref D,some<|.ref cb,z9,z10]/\Ex [D] G7 G8/\G8 D=some (.lst ys)/\RepAll G8 (js.map<|tqD wd E) ys/\js.Pairwise (· < ·)/\(∀j,j∈js↔Tch wd E j/\(j/2∈is.take t\/∃b',b'<b+1/\j=2*i+b'))/\js.length<=2*t+(b+1):=λhn hJ=>(l9 _ _ BF yH ⟨rfl,vJ,Do,lY,uY,hmn hn,by lia⟩);refine(ni _ rfl _ rfl wh _ rfl (DGet.t rG AD) _ ⟨rfl,?_⟩);refine qz (λh1=>?_) (λh1=>iV<|no (λz=>?_) _)
    rotate_left
    .obtain⟨_,_,_,_,_,a2,_⟩:=z;obtain⟨t1,pY,_⟩:=vH.2.1 _ _ a2;exact h1<|by rw[pY];rfl
    obtain⟨v',tL⟩:=vH.has h1;obtain⟨t1,pY,e1⟩:=vH.2.1 _ _ tL;obtain⟨t2,kL,e2⟩:=vH.2.1 _ _ hv;have eT:Tch wd E (2*i+b)↔v'.1≠v.1:=by
     unfold Tch;rw[e2i];constructor
     .rintro⟨k,s,k',s',a1,a2,a3⟩;rw[hv]at a1;rw[tL]at a2;cases a1;cases a2;exact λz=>a3 z.symm
     .intro h;exact(l9 v.1 v.2 v'.1 v'.2 ⟨hv,tL,λz=>h z.symm⟩)
    have ed:(!decide (V.int (v'.1:Nat)=V.int (v.1:Nat)))=true↔v'.1≠v.1:=by
     rw[Bool.not_eq_true',decide_eq_false_iff_not];constructor
     .intro h z;exact h<|by rw[z]
     .intro h z;injection z with z
      lia
    refine(ni _ rfl _ rfl wh _ rfl (by rw[<-pY];exact DGet.t rG AD) t1<|m9 _ _ _ ⟨rfl,rfl,SqT.of e1,lg (j:=1) rfl,?_⟩);refine(ni _ rfl _ rfl wh _ rfl (by rw[<-kL];exact DGet.t rG AE) t2<|m9 _ _ _ ⟨rfl,rfl,SqT.of e2,lg (j:=1) rfl,rfl,_,rfl,?_⟩);refine qz (λh2=>?_) λh2=>no (λz=>h2<|ed.mpr<|eT.mp z) _;have hT:=eT.mpr<|ed.mp h2;refine(ni _ rfl _ rfl wh _ rfl (by rw[<-kL];exact DGet.t rG AE) t2<|m9 _ _ _ ⟨rfl,rfl,SqT.of e2,lg (j:=0) rfl,?_⟩);refine(ni _ rfl _ rfl wh _ rfl (by rw[<-pY];exact DGet.t rG AD) t1<|m9 _ _ _ ⟨rfl,rfl,SqT.of e1,lg (j:=0) rfl,sZ2,λp9 hp9=>?_⟩);generalize g1:upd G8 p9 _=G9 at *;obtain⟨s9,c9⟩:=al hp9 g1;refine(m9 p9 _ ([chD v.2,chD v'.2]) ⟨rfl,c9,(qi _ _ rfl ⟨rfl,ok1<|bS hv⟩ _ _ ⟨rfl,⟨rfl,ok1<|bS tL⟩,rfl⟩),(λd hd=>by simp at hd;rcases hd with h|h<;>exact⟨_,h⟩),λHi ys10 es10 Ik Hh GQ He=>?_⟩);generalize g1:upd G9 Hi _=xW at *;obtain⟨pS,FJ⟩:=al Ik g1;obtain⟨rfl,vE,Fi⟩:=aom Hh GQ He;have sB:=s9.trans pS;refine(ng _ rfl (.inl ⟨rfl,_,SqL.of<|sB _ _ Do⟩) _ ⟨rfl,(me _ rfl _ rfl Hi _ _ ⟨_,rfl,rfl,SqL.of FJ,lg (j:=0) rfl,(lj _ rfl Hi _ _ _ ⟨rfl,rfl,SqL.of FJ,lg (j:=1) rfl,sZ2,λp11 Ij=>?_⟩)⟩)⟩);generalize g1:upd xW p11 _=G11 at *;obtain⟨s11,c11⟩:=al Ij g1;refine⟨sZ3,λB7 uQ=>?_⟩;generalize g1:upd G11 B7 _=BC at *;obtain⟨gT,JU⟩:=al uQ g1;have sC:=(sB.trans s11).trans gT;have Dp:=sC _ _ Do;have l8:=lY.length;rw[ae]at l8;refine(m9 D BF (.ref B7) ⟨rfl,rfl,Dp,mr<|by lia,?_⟩);have zP:sgn E (cq wd i)=v.2:=by unfold sgn;rw[hv];rfl
    have vK:sgn E (oth wd<|2*i+b)=v'.2:=by unfold sgn;rw[tL];rfl
    have rN:Rep BC (tqD wd E<|2*i+b) (.ref B7):=by unfold tqD;rw[e2i,zP,vK];exact(mz B7 _ rfl JU _ _ rfl (qk<|sC _ _ sK) _<|ng _ rfl (qk<|sC _ _ CH) _ ⟨_,rfl,(mz p11 _ rfl (gT _ _ c11) _ _ rfl ⟨rfl,vE⟩ _ ⟨_,rfl,⟨rfl,Fi⟩,rfl⟩),rfl⟩)
    refine(l9 _ _ (BF++[.ref B7]) (yH++[2*i+b]) ⟨rfl,(vJ.trans<|Ex.of_same (W:=[D]) sC).trans (Ex.upd<|by simp),lr,?_,?_,λj=>?_,by rw[au,cc];lia⟩)
    .have im:=as8 wd E<|yH++[2*i+b];rw[b9]at im⊢;exact((lY.same sC).snoc rN).tk (Tk.lst Dp) im
    .refine ei.mpr ⟨uY,List.pairwise_singleton _ _,λa ha c hc=>?_⟩;rw[ar.mp hc];rcases((nK a).mp ha).2 with h|⟨b',cU,e⟩
     .have:=aru pW hi h;lia
     .lia
    .rw[a8,ar];constructor
     .rintro(h|rfl)
      .have:=(nK j).mp h;exact⟨this.1,this.2.imp id λ⟨b',cU,e⟩=>⟨b',by lia,e⟩⟩
      .exact⟨hT,.inr ⟨b,by lia,rfl⟩⟩
     .rintro⟨h,h'|⟨b',cU,e⟩⟩
      .exact .inl<|(nK j).mpr ⟨h,.inl h'⟩
      .by_cases eb:b'=b
       .subst eb;exact .inr e
       .exact .inl<|(nK j).mpr ⟨h,.inr ⟨b',by lia,e⟩⟩
   .obtain⟨y9,hJ,BF,yH,rfl,vJ,Do,lY,uY,nK,CY⟩:=hI;refine(lv _ _ _ BF yH ⟨rfl,(ex.trans<|Ex.of_same (W:=[D]) sA).trans vJ,Do,lY,uY,(λj=>(nK j).trans ⟨λh=>⟨h.1,?_⟩,λh=>⟨h.1,?_⟩⟩),by have:yH.length<=2*t+2:=CY;lia⟩)
    .rw[gc,hi,a8];rcases h.2 with h'|⟨b',cU,e⟩
     .exact .inl h'
     .have cU:b'<2:=cU;exact .inr<|by rw[show j/2=i from by lia];exact ar.mpr rfl
    .have h2:=h.2;rw[gc,hi,a8]at h2;rcases h2 with h'|h'
     .exact .inl h'
     .have h':j/2=i:=ar.mp h';exact .inr ⟨j % 2,by show j % 2<2;lia,by lia⟩
  .obtain⟨y8,y9,hJ,ys,js,rfl,ex,qD,eZ,CW,yY,Fc⟩:=hI;rw[aw (by lia)]at yY;refine⟨_,rfl,q D ys js G4 (λb o hb=>ex.at (λe=>by rw[e,Dq]at hb;cases hb)<|s3 _ _<|s2 _ _<|sg _ _ hb) qD eZ CW (λj=>(yY j).trans ⟨λh=>h.1,λh=>⟨h,?_⟩⟩)<|by lia⟩;obtain⟨_,_,_,_,a1,_⟩:=id h;exact(hmem _).mpr ⟨_,a1⟩
def PrD(d:U):Prop:=∃(a b e f:Int)(k m:Nat),d=.tuple [.tuple [.int a,.int b],.tuple [.int e,.int f],.tuple [.str ⟨#[k]⟩,.str ⟨#[m]⟩]]
def awh(wd:Nat)(E:Z En)(js:Z Nat):∀d∈js.map (tqD wd E),PrD d:=λd hd=>by obtain⟨j,_,rfl⟩:=ay.mp hd;exact(lv _ _ _ _ _ ⟨_,rfl⟩)
noncomputable def thd:U->U
 | .tuple [_,_,c]=>c
 | d=>d
def PS(d:U):Prop:=∃k m:Nat,d=.tuple [.str ⟨#[k]⟩,.str ⟨#[m]⟩]
theorem PS.imm:∀{ds:Z U},(∀d∈ds,PS d)->qe ds=true
 | [],_=>rfl
 | d::ds,a=>by obtain⟨_,_,rfl⟩:=a d aq;have h2:=PS.imm λx hx=>a x<|av _ hx;show(_root_.L3.imm _&&qe ds)=true;rw[h2,Bool.and_true];rfl
theorem ab8{G:Hp}:∀{es:Z U} {ys:Z V},(∀d∈es,∃c:Nat,d=.str ⟨#[c]⟩)->RepAll G es ys->∃ks:Z Nat,ks.length=es.length/\ys=lG ks/\∀k∈ks,jk (⟨#[k]⟩:Str)=true
 | [],ys,_,h=>⟨[],rfl,h,λk hk=>by cases hk⟩
 | d::es,_,hd,h=>by
  obtain⟨v,r,rfl,h1,h2⟩:=h;obtain⟨c,rfl⟩:=hd d aq;obtain⟨ks,a1,rfl,a3⟩:=ab8 (λx hx=>hd x<|av _ hx) h2;refine⟨c::ks,by rw[bp,bp,a1],by rw[h1.1];rfl,λk hk=>?_⟩;rcases a7.mp hk with rfl|hk
  .exact h1.2
  .exact a3 k hk
theorem ahs{G:Hp}:∀{cs:Z Nat},(∀c∈cs,Ltr c)->RepAll G (cs.map λc=>PyData.str ⟨#[c]⟩) (lG cs)
 | [],_=>rfl
 | c::cs,h=>(l0 _ _ ⟨rfl,⟨rfl,ok1<|by have:=(h c aq).2;lia⟩,ahs λx hx=>h x<|av _ hx⟩)
def avf:Sp:=λvs H Q _=>∃(l lt:aF)(x:Int)(nk wd:Nat)(L:Z Pc)(cs:Z Nat),vs=[.ref l,.ref lt,.int x]/\LyH H l L/\LyO nk L/\L.length<=13/\(∀c∈cls L,c.2<wd)/\H lt=some (.lst<|lG cs)/\cs.length=3/\(∀c∈cs,Ltr c)/\∀(r:aF)(gS:Z V)(bG:Z U)(H':Hp),Same H H'->H' r=some (.tup gS)->RepAll H' bG gS->Q (.ref r) H'
def scApt:mh ["_law_laid_here","_law_letters_here","_law_x","_law_some","_law_met","_law_signs","_law_k","_law_pair"] ZL (lw Kq):={}
theorem at8(B:∀x∈sv,mg x=none)(Al:Fn P w K mg base "_law_touching" 1 ZT K4)(F:Fun K "_law_apart" "_law_apart" Kq f fd):qr P w K mg base CX0 2 f fd ZL avf:=by
 refine F.ok (k:=1) scApt (λvs H Q E h=>?_) λbQ A outer s H vs Q E hr h=>?_
 .obtain⟨l,lt,x,nk,wd,L,cs,rfl,_⟩:=h;rfl
 obtain⟨l,lt,x,nk,wd,L,cs,rfl,hl,hO,iM,HG,bS,qA,sN,q⟩:=h;have hu:=hr.units;refine⟨_,(k9 (psN 3 scApt.nd<|oz k7)
  (k9 (psC 4 ["_law_cell","_law_other","_law_pair"] [none,none,none] scApt.nd (og<|pfn Al<|lq (pv 0) k7) (λ_=>(qo (n:=3) rfl<|ln (pgC 0)<|ln (pgC 1)<|ln (pgC 2) nc)) (λ_=>ow) λ_=>(pv 2))
  (k9 (psN 5 scApt.nd<|pCB afj kg<|lq (pv 1) k7)
  (k9 (pfo (pR1<|lq k8 k7) (pgN 6 scApt.nd) (k9 (psN 7 scApt.nd<|mw<|lq (pix my (pv 5)<|pix my (oz<|lq k8<|lq k8<|lq k8<|lq k8<|lq k8<|lq k8 k7)<|pv 6)<|lq (pix my (pv 5)<|pix my (oz<|lq k8<|lq k8<|lq k8<|lq k8<|lq k8<|lq k8 k7)<|pv 6) k7)
  (lh<|qa (PW.pt<|vh (m7 uv (mj oo (mj wg (pv 2)<|mj oq (mj Bz k8<|pv 6) k8) k8) k8<|nr _)<|uk<|PW.pt<|qJ (m7 (vt hu) (pv 7) (pv 4) rfl)<|wx<|m7 uv (mj oo (pv 2) k8) k8<|nr _) (lh<|r9<|ww ci fc ff pw (pv 3)<|lq (pv 7) k7) np)))
  (lh<|ma<|pCT ot bU<|lq (pCB afs kg<|lq (pv 3) k7) k7))))),?_⟩
 refine⟨sZ0,λD hD=>?_⟩;generalize g1:upd H D _=H1 at *;obtain⟨s1,d1⟩:=al hD g1;have d1:H1 D=some (.lst ([]:Z V)):=d1;refine(lj _ rfl l nk wd L ⟨rfl,hl.same s1,hO,iM,HG,λT ts js H2 s2 hT qS _ _ CC=>?_⟩);have hQ:=awh wd (ens L 0) js;have hq144:(js.map<|tqD wd<|ens L 0).length<=200:=by rw[ae];exact CC
 generalize js.map (tqD wd<|ens L 0)=qs at *;have lT:=qS.length;refine⟨T,rfl,⟨_,SqL.of hT⟩,λM hM=>?_⟩;have hth:∀i,∀d∈(qs.take i).map thd,PS d:=λi d hd=>by obtain⟨y,hy,rfl⟩:=ay.mp hd;obtain⟨_,_,_,_,k,m,rfl⟩:=hQ y<|ca hy;exact(l0 k m rfl)
 refine o8 (xs:=ts) (λi zs G=>Same H2 G/\RepAll G ((qs.take i).map thd) zs) ⟨Same.fresh _ hM,rfl⟩ (λi zs G p=>SqL.of<|p.1 _ _ hT) (λi v zs G hv hi bD dR p=>?_) λzs G bD dR p=>?_
 .obtain⟨p1,p2⟩:=p;obtain⟨d,hd,rd⟩:=qS.at hv;obtain⟨_,_,_,_,k,m,rfl⟩:=hQ d<|ai hd;obtain⟨b,bxs,rfl,hb,v1,r1,rfl,_,v2,r2,rfl,_,v3,r3,rfl,h3,h4⟩:=rd;cases (show r3=[]from h4);refine(l7 b _ rfl (SqT.of<|p1 _ _ hb) rfl _ _ rfl _<|nj _ rfl _ _ ⟨rfl,rfl,?_⟩);refine⟨Agree.set (Agree.set (Agree.set (Agree.refl _) rfl) rfl) rfl,?_⟩;dsimp only[jN];refine ux ?_;refine⟨_,rfl,?_⟩;refine qm (by lia) bD dR ⟨p1.new hM,?_⟩;have im:=hth<|i+1;rw[mq thd hd]at im;rw[mq thd hd];exact(p2.snoc<|Rep.same p1 h3).tk (Tk.lst bD) (PS.imm im)
 obtain⟨p1,p2⟩:=p;have hmt:=hth ts.length;generalize E8:(qs.take ts.length).map thd=mt at *;have sA:=(s1.trans s2).trans p1;have Jy:=p1 _ _<|s2 _ _ d1;refine(ph _ rfl lt _ (cs.map λc=>PyData.str ⟨#[c]⟩) ⟨rfl,sA _ _ bS,ahs sN,(λd hd=>by obtain⟨c,_,rfl⟩:=ay.mp hd;exact⟨_,rfl⟩),λS ys es hS pe re=>?_⟩);generalize g1:upd G S _=G3 at *;obtain⟨s3,c3⟩:=al hS g1;obtain⟨sg,mU,rfl,tM⟩:=ab8 (λd hd=>by obtain⟨c,_,rfl⟩:=ay.mp<|pe.mem_iff.mp hd;exact⟨c,rfl⟩) re;have hs3:sg.length=3:=by rw[mU,pe.length_eq,ae,qA]
 have nSD:S≠D:=λe=>by rw[e,Jy]at hS;cases hS
 have nMD:M≠D:=λe=>by rw[e,s2 _ _ d1]at hM;cases hM
 have sgn:∀i:Nat,i<3->∃k:Nat,(lG sg)[i]?=some (.str ⟨#[k]⟩)/\jk (⟨#[k]⟩:Str)=true:=λi hi=>⟨sg[i]'(by lia),by unfold lG;rw[bo,ah<|by lia];rfl,tM _<|gp _⟩;refine⟨6,rfl,by decide,by decide,?_⟩;refine sq (lo:=0) (n:=6) (λi σ' G4=>∃(y6 y7:Option V)(mZ:Z V)(ds:Z U),σ'=[some (.ref l),some<|.ref lt,some<|.int x,some<|.ref D,some<|.ref M,some<|.ref S,y6,y7]/\Ex [D] G3 G4/\G4 D=some (.lst mZ)/\RepAll G4 ds mZ/\(∀d∈ds,PS d)/\ds.length<=i) ?_ (λi σ' G4 hi hI=>?_) λσ' G4 hI=>?_
 .exact(l9 _ _ ([]) ([]) ⟨rfl,Ex.refl _ _,s3 _ _ Jy,rfl,(λd hd=>by cases hd),ao _⟩)
 .obtain⟨y6,y7,mZ,ds,rfl,ex,pJ,eZ,Fu,Fe⟩:=hI;have A6:=ex.at nSD c3;have hM4:=ex.at nMD<|s3 _ _ bD;have GO:Tk G3 G4:=ex.one<|s3 _ _ Jy;have Hc:RepAll G4 mt zs:=(p2.same s3).tk GO (PS.imm hmt);refine⟨_,rfl,sZ6,λq1 pC=>?_⟩;generalize g1:upd G4 q1 _=G5 at *;obtain⟨t1,u1⟩:=al pC g1;obtain⟨j1,IQ,ej1⟩:∃j:Nat,j<3/\[V.int 0,.int 0,.int 0,.int 1,.int 1,.int 2][i]?=some (.int (j:Nat)):=by
   match i,hi with
   | 0,_=>exact⟨0,by decide,rfl⟩
   | 1,_=>exact⟨0,by decide,rfl⟩
   | 2,_=>exact⟨0,by decide,rfl⟩
   | 3,_=>exact⟨1,by decide,rfl⟩
   | 4,_=>exact⟨1,by decide,rfl⟩
   | 5,_=>exact⟨2,by decide,rfl⟩
  obtain⟨k1,ek1,Hl⟩:=sgn j1 IQ;refine(lj _ rfl q1 _ _ _ ⟨rfl,rfl,SqL.of u1,(by rw[iw];exact lg ej1),(l9 S _ _ _ ⟨rfl,rfl,SqL.of<|t1 _ _ A6,lg ek1,?_⟩)⟩);refine⟨_,rfl,sZ6,λq2 nI=>?_⟩;generalize g1:upd G5 q2 _=G6 at *;obtain⟨t2,u2⟩:=al nI g1;obtain⟨j2,wV,ej2⟩:∃j:Nat,j<3/\[V.int 0,.int 1,.int 2,.int 1,.int 2,.int 2][i]?=some (.int (j:Nat)):=by
   match i,hi with
   | 0,_=>exact⟨0,by decide,rfl⟩
   | 1,_=>exact⟨1,by decide,rfl⟩
   | 2,_=>exact⟨2,by decide,rfl⟩
   | 3,_=>exact⟨1,by decide,rfl⟩
   | 4,_=>exact⟨2,by decide,rfl⟩
   | 5,_=>exact⟨2,by decide,rfl⟩
  obtain⟨k2,ek2,Hk⟩:=sgn j2 wV;refine(lj _ rfl q2 _ _ _ ⟨rfl,rfl,SqL.of u2,(by rw[iw];exact lg ej2),(l9 S _ _ _ ⟨rfl,rfl,SqL.of<|t2 _ _<|t1 _ _ A6,lg ek2,sZ2,λpA hpA=>?_⟩)⟩);generalize g1:upd G6 pA _=G7 at *;obtain⟨t3,u3⟩:=al hpA g1;have tA:=(t1.trans t2).trans t3;have vG:=tA _ _ pJ;have rp:Rep G7 (.tuple [.str ⟨#[k1]⟩,.str ⟨#[k2]⟩]) (.ref pA):=(mz pA _ rfl u3 _ _ rfl ⟨rfl,Hl⟩ _ ⟨_,rfl,⟨rfl,Hk⟩,rfl⟩);have no:∀y7:Option V,∃(z6 z7:Option V)(mZ:Z V)(ds:Z U),[some (V.ref l),some<|.ref lt,some<|.int x,some<|.ref D,some<|.ref M,some<|.ref S,some<|.int<|0+(i:Nat),y7]=[some (.ref l),some<|.ref lt,some<|.int x,some<|.ref D,some<|.ref M,some<|.ref S,z6,z7]/\Ex [D] G3 G7/\G7 D=some (.lst mZ)/\RepAll G7 ds mZ/\(∀d∈ds,PS d)/\ds.length<=i+1:=λy7=>(l9 _ _ mZ ds ⟨rfl,ex.trans<|Ex.of_same (W:=[D]) tA,vG,eZ.same tA,Fu,by lia⟩);have vW:∀y7:Option V,∃(z6 z7:Option V)(BD:Z V)(ds:Z U),[some (V.ref l),some<|.ref lt,some<|.int x,some<|.ref D,some<|.ref M,some<|.ref S,some<|.int<|0+(i:Nat),y7]=[some (.ref l),some<|.ref lt,some<|.int x,some<|.ref D,some<|.ref M,some<|.ref S,z6,z7]/\Ex [D] G3 (upd G7 D<|.lst<|mZ++[.ref pA])/\upd G7 D (.lst<|mZ++[.ref pA]) D=some (.lst BD)/\RepAll (upd G7 D<|.lst<|mZ++[.ref pA]) ds BD/\(∀d∈ds,PS d)/\ds.length<=i+1:=λy7=>by
   have Dm:∀d∈ds++[PyData.tuple [.str ⟨#[k1]⟩,.str ⟨#[k2]⟩]],PS d:=λd hd=>by
    rcases a8.mp hd with h|h
    .exact Fu d h
    .rw[ar.mp h];exact(l0 _ _ rfl)
   exact(l9 _ _ (mZ++[.ref pA]) _ ⟨rfl,(ex.trans<|Ex.of_same (W:=[D]) tA).trans (Ex.upd<|by simp),lr,((eZ.same tA).snoc rp).tk (Tk.lst vG) (PS.imm Dm),Dm,by rw[au,cc];lia⟩)
  have l4:=eZ.length;refine(rh _ rfl _ rfl _ _ ⟨rfl,rfl,.inl ⟨by decide,by decide⟩,(qi _ _ rfl rfl _ _ ⟨rfl,rfl,⟨by show(0:Int)<4*(0+(i:Nat))+3;lia,by show 4*(0+((i:Nat):Int))+3<1073741824;lia⟩,(l0 _ _ ⟨rfl,rfl,(by show(0:Int)<3;decide),rfl,_,rfl,?_⟩)⟩)⟩);refine qz (λh1=>?_) λh1=>iV<|no _;refine(me _ rfl _ rfl (.tuple [.str ⟨#[k1]⟩,.str ⟨#[k2]⟩]) M zs ⟨mt,rp,rfl,.inl<|tA _ _ hM4,Hc.same tA,by simp[f7,bu],_,rfl,?_⟩);refine qz (λh2=>?_) λh2=>?_
  .refine ux ?_;exact(se _ rfl (.inl ⟨rfl,_,SqL.of vG⟩) _ rfl D mZ (.ref pA) ⟨rfl,rfl,vG,mr<|by lia,vW _⟩)
  .refine(nj _ rfl _ _ ⟨rfl,rfl,(by show(0:Int)<4;decide),rfl,_,rfl,?_⟩);refine qz (λh3=>?_) λh3=>no _;exact(se _ rfl (.inl ⟨rfl,_,SqL.of vG⟩) _ rfl D mZ (.ref pA) ⟨rfl,rfl,vG,mr<|by lia,vW _⟩)
 .obtain⟨y6,y7,mZ,ds,rfl,ex,pJ,eZ,Fu,Fe⟩:=hI;have hRS:DM [false] ds:=λd hd=>by
   obtain⟨k,m,rfl⟩:=Fu d hd;exact(nj _ rfl _ _ ⟨rfl,(l0 _ _ ⟨rfl,rfl⟩)⟩)
  refine(lj _ rfl D mZ ds ([false]) ⟨rfl,pJ,eZ,hRS,λl5 EC es5 hl5 _ _ re5=>?_⟩);refine(l0 l5 EC ⟨rfl,.inl ⟨SqL.of lr,λl6 hl6=>?_⟩⟩);have sm:Same H G4:=λb o hb=>ex.at (λe=>by rw[e,hD]at hb;cases hb)<|s3 _ _<|sA _ _ hb;exact q l6 EC es5 _ ((sm.trans<|Same.fresh _ hl5).trans (Same.fresh _ hl6)) lr<|re5.same<|Same.fresh _ hl6
def BndK.tk{H H':Hp}{kvs:Z V}{bC:Z (Int×Option Int)}(h:BndK H kvs bC)(s:Tk H H'):BndK H' kvs bC:=⟨h.1,λi v m h1 h2=>by obtain⟨b,u0,u3,u4,rfl,hb⟩:=h.2 i v m h1 h2;exact(l9 b u0 u3 u4 ⟨rfl,s _ _ hb⟩)⟩
def BndK.snoc{H:Hp}{kvs:Z V}{bC:Z (Int×Option Int)}(h:BndK H kvs bC){b:aF}{u0 u3 u4:V}{a:Int}{o:Option Int}(hb:H b=some (.tup [u0,.int a,FR o,u3,u4])):BndK H (kvs++[.ref b]) (bC++[(a,o)]):=by
 refine⟨by rw[au,au,h.1];rfl,λi v q h1 h2=>?_⟩;by_cases hi:i<kvs.length
 .rw[db hi]at h1;rw[db (by rw[<-h.1];exact hi)]at h2;exact h.2 i v q h1 h2
 .have hl:=(af.mp h1).1;rw[au,cc]at hl;have e:i=kvs.length:=by lia
  subst e;rw[cf (by lia),j7]at h1;rw[h.1,cf<|by lia,j7]at h2;cases h1;cases h2;exact(l9 b u0 u3 u4 ⟨rfl,hb⟩)
def av0:Sp:=λvs H Q _=>∃(kd l:aF)(x:Int)(kv xs:Z V) (ks:Z (Z U×Nat)) (fW:Z U),vs=[.ref kd,.ref l,.int x]/\H kd=some (.lst kv)/\KindsK H kv ks/\ks.length<=6/\H l=some (.lst xs)/\RepAll H fW xs/\(∀d∈fW,PlD d)/\fW.length<=13/\
 ∀(r:aF)(nH:Z V) (bC:Z (Int×Option Int)) (H':Hp),Same H H'->H' r=some (.tup nH)->KindsK H' nH ks->BndK H' nH bC->Q (.ref r) H'
def scBnd:mh ["_law_kinds_here","_law_laid_here","_law_x","_law_found","_law_k","_law_kind","_law_many","_law_least","_law_most"] ZK (lw J0):={}
theorem as6(B:∀x∈sv,mg x=none)(F:Fun K "_law_bounded" "_law_bounded" J0 f fd):qr P w K mg base CX0 1 f fd ZK av0:=by
 refine F.ok (k:=0) scBnd (λvs H Q E h=>?_) λbQ A outer s H vs Q E hr h=>?_
 .obtain⟨kd,l,x,kv,xs,ks,fW,rfl,_⟩:=h;rfl
 obtain⟨kd,l,x,kv,xs,ks,fW,rfl,yW,dY,tS,hl,rep,hP,JC,q⟩:=h;have lkv:=dY.1;have lx:=rep.length;refine⟨_,(k9 (psN 3 scBnd.nd<|oz k7)
  (k9 (pfo (pEL<|lq (pv 0) k7) (qb (n:=2) rfl<|ln (zw (i:=4) scBnd.nd rfl<|Or.inr rfl)<|ln (pgN 5 scBnd.nd) nc) (k9 (psN 6 scBnd.nd<|pCB mn cg<|lq (pcm ["_law_placement","_law_k"] [none,some 4] (og<|pv 1) (λ_=>(pgC 0)) (λ_=>Gr<|m7 uv (pix um (pv 0) k8) (pv 1)<|nr _) λ_=>(pv 0)) k7)
  (k9 (psN 7 scBnd.nd<|pCB (ale rfl) boot_max<|lq k8<|lq (mj Eb (pv 6)<|pix my (oz<|lq k8<|lq k8<|lq k8<|lq k8 k7)<|mj oo (mj wg (pv 2)<|mj oq (mj Bz k8<|pv 4) k8) k8) k7)
  (k9 (psN 8 scBnd.nd<|pix my (oz<|lq sw<|lq (pv 6)<|lq (mj oq (pv 6) k8)<|lq (pv 6) k7)<|mj oo (mj wg (pv 2)<|mj oq (mj Bz k8<|pv 4) k8) k8)
  (lh<|r9<|ww ci fc ff pw (pv 3)<|lq (mw<|lq (pix mf (pv 5) k8)<|lq (pv 7)<|lq (pv 8)<|lq (pix mf (pv 5) k8)<|lq (pix mf (pv 5) k8) k7) k7)))))
  (lh<|ma<|pCT ot bU<|lq (pv 3) k7))),?_⟩
 refine⟨sZ0,λD hD=>?_⟩;generalize g1:upd H D _=H1 at *;obtain⟨s1,d1⟩:=al hD g1;have d1:H1 D=some (.lst ([]:Z V)):=d1;refine(ny _ rfl kd ⟨rfl,⟨_,SqL.of<|s1 _ _ yW⟩,?_⟩);refine zq (xs:=kv) (λi σ' G=>∃(y4 y5 y6 y7 y8:Option V)(nH:Z V) (bC:Z (Int×Option Int)),σ'=[some (.ref kd),some<|.ref l,some<|.int x,some<|.ref D,y4,y5,y6,y7,y8]/\Same H G/\G D=some (.lst nH)/\KindsK G nH (ks.take i)/\BndK G nH bC) ?_ (λi σ' G hI=>?_) (λi v pr σ' G hv kZ hI=>?_) λσ' G hI=>?_
 .exact(lv _ _ _ _ _<|l0 ([]) ([]) ⟨rfl,s1,d1,⟨rfl,λi v k h=>by simp at h⟩,rfl,λi v k h=>by simp at h⟩)
 .obtain⟨_,_,_,_,_,_,_,_,sg,_⟩:=hI;exact SqL.of<|sg _ _ yW
 .obtain⟨y4,y5,y6,y7,y8,nH,bC,rfl,sg,hG,hK,Dt⟩:=hI;have hi:i<kv.length:=(af.mp hv).1;have wW:i<ks.length:=by lia
  have uX:=ah wW;have hk:=dY.2 i v _ hv uX;generalize ks[i]=kk at *;obtain⟨b,nm,u1,u2,m,fr,Fz,rfl,hb,mJ,gF,hz,hm⟩:=hk;refine(l7 pr _ rfl (SqT.of lr) rfl _ _ rfl _ ⟨_,rfl,rfl,?_⟩);generalize g1:upd G pr _=G2 at *;obtain⟨s2,_⟩:=al kZ g1;have bM:=sg.trans s2;refine(ny _ rfl l ⟨rfl,⟨_,SqL.of<|bM _ _ hl⟩,λD3 jC=>?_⟩);refine o8 (xs:=xs) (λj zs G3=>Same G2 G3) (Same.fresh _ jC) (λj zs G3 p=>SqL.of<|p _ _<|bM _ _ hl) (λj u zs G3 hu hj vF dR p=>?_) λzs G3 vF dR p=>?_
  .obtain⟨d,hd,rd⟩:=rep.at hu;obtain⟨es,n,rfl,_⟩:=hP d<|ai hd;obtain⟨pb,pxs,rfl,Ig,x0,r0,rfl,_,x1,r1,rfl,hx1,hr1⟩:=rd;cases (show r1=[]from hr1);cases (show x1=V.int n from hx1);refine⟨Agree.set (Agree.refl _) rfl,?_⟩;refine(lj _ rfl pb _ _ _ ⟨rfl,rfl,SqT.of<|p _ _<|bM _ _ Ig,lg (j:=1) rfl,(ng _ rfl rfl _ ⟨rfl,?_⟩)⟩);refine qz (λh1=>?_) λh1=>?_
   .refine⟨_,rfl,?_⟩;exact qm (by lia) vF dR<|p.new jC
   .exact⟨_,vF,by lia,p⟩
  refine(l0 D3 zs ⟨rfl,.inl<|SqL.of vF,?_⟩);have dB:=bM.trans p;have hzl12:zs.length<=13:=by lia
  obtain⟨m4,hm4,em4⟩:∃m:Nat,m<4/\x/(5*(i:Nat)+2) % 4=(m:Nat):=⟨(x/(5*(i:Nat)+2) % 4).toNat,by lia,by lia⟩;refine⟨_,rfl,sZ4,λq4 HY=>?_⟩;generalize g1:upd G3 q4 _=G4 at *;obtain⟨t4,v4⟩:=al HY g1;obtain⟨n4,e4⟩:∃n:Int,[V.int 0,.int 0,.int 1,.int 2][m4]?=some (.int n):=by
   match m4,hm4 with
   | 0,_=>exact⟨0,rfl⟩
   | 1,_=>exact⟨0,rfl⟩
   | 2,_=>exact⟨1,rfl⟩
   | 3,_=>exact⟨2,rfl⟩
  refine(rh _ rfl _ rfl _ _ ⟨rfl,rfl,.inl ⟨by decide,by decide⟩,(qi _ _ rfl rfl _ _ ⟨rfl,rfl,⟨by show(0:Int)<5*(i:Nat)+2;lia,by show 5*((i:Nat):Int)+2<1073741824;lia⟩,(r8 _ _ rfl rfl (by show(0:Int)<4;decide) q4 _ _<|pq (.int n4) rfl rfl (SqL.of v4) ?_ _ _ ⟨rfl,rfl,(l0 _ _ ⟨rfl,?_⟩)⟩)⟩)⟩)
  .show atI _ (x/(5*(i:Nat)+2) % 4)=_;rw[em4];exact lg e4
  refine(ni _ rfl _ rfl _ _ rfl rfl _ ⟨rfl,sZ4,λq5 HX=>?_⟩);generalize g1:upd G4 q5 _=G5 at *;obtain⟨t5,v5⟩:=al HX g1;obtain⟨m5,hm5,em5⟩:∃m:Nat,m<4/\x/(7*(i:Nat)+3) % 4=(m:Nat):=⟨(x/(7*(i:Nat)+3) % 4).toNat,by lia,by lia⟩;obtain⟨om,e5⟩:∃o:Option Int,[V.non,.int ((zs.length:Nat):Int),.int<|((zs.length:Nat):Int)+1,.int ((zs.length:Nat):Int)][m5]?=some (FR o):=by
   match m5,hm5 with
   | 0,_=>exact⟨none,rfl⟩
   | 1,_=>exact⟨some _,rfl⟩
   | 2,_=>exact⟨some _,rfl⟩
   | 3,_=>exact⟨some _,rfl⟩
  refine(rh _ rfl _ rfl _ _ ⟨rfl,rfl,.inl ⟨by decide,by decide⟩,(qi _ _ rfl rfl _ _ ⟨rfl,rfl,⟨by show(0:Int)<7*(i:Nat)+3;lia,by show 7*((i:Nat):Int)+3<1073741824;lia⟩,(r8 _ _ rfl rfl (by show(0:Int)<4;decide) q5 _ _ ⟨FR om,rfl,rfl,SqL.of v5,?_,?_⟩)⟩)⟩)
  .show atI _ (x/(7*(i:Nat)+3) % 4)=_;rw[em5];exact lg e5
  have sg5:=(dB.trans t4).trans t5;have sB:=((s2.trans p).trans t4).trans t5;have mW:=sB _ _ hG;have Jl:=sg5 _ _ hb;refine⟨_,rfl,.inl ⟨rfl,_,SqL.of mW⟩,?_⟩;refine(lj _ rfl b _ _ _ ⟨rfl,rfl,SqT.of Jl,lg (j:=0) rfl,(oj _ rfl _ rfl _ rfl b _<|aby _ _ rfl rfl (SqT.of Jl) (lg (j:=3) rfl) _ rfl b<|m9 _ _ _ ⟨rfl,rfl,SqT.of Jl,lg (j:=4) rfl,sZ5,λt7 Cr=>?_⟩)⟩);generalize g1:upd G5 t7 _=G7 at *;obtain⟨s7,c7⟩:=al Cr g1;have xD:=s7 _ _ mW;have GT:=sg5.trans s7;have CV:KindK G7 (.ref t7) kk:=(lv t7 nm _ _ m<|l0 fr Fz ⟨rfl,c7,GT _ _ mJ,gF.same GT,hz,hm⟩);have mI:=hK.1;rw[bf]at mI;refine(m9 D nH (.ref t7) ⟨rfl,rfl,xD,mr<|by lia,?_⟩);refine(lv _ _ _ _ _<|l0 (nH++[.ref t7]) _ ⟨rfl,GT.new hD,lr,?_,((Dt.same<|sB.trans s7).snoc c7).tk (Tk.lst xD)⟩);rw[gc,uX];exact(hK.same<|sB.trans s7).snoc (Tk.lst xD) (CV.tk<|Tk.lst xD)
 .obtain⟨y4,y5,y6,y7,y8,nH,bC,rfl,sg,hG,hK,Dt⟩:=hI;rw[aw (by lia)]at hK;refine(nj _ rfl D nH ⟨rfl,.inl ⟨SqL.of hG,λr hr=>?_⟩⟩);exact q r nH bC _ (sg.trans<|Same.fresh _ hr) lr (hK.same<|Same.fresh _ hr)<|Dt.same<|Same.fresh _ hr
def auw{M:Mat}{kvs:Z (Z Key×V)}{h wd:Nat}{ks:Z (Z U×Nat)}{d:U}(hK:KsZ ks)(eh:M.h=h)(ew:M.w=wd)
  (hf:∀r c k,r<h->c<wd->rs kvs (rf r c)=some (.str ⟨#[k]⟩)->okS (M.g r c) k=true) (a:LdD kvs h wd ks d):d∈raw M ks ks.length:=by
 subst eh;subst ew;obtain⟨n,k,es,dn,rt,h1,h2,h3,h4,rfl,h5⟩:=a;have hn:=(af.mp h1).1;have FC:shT M es (dn*M.w+rt)=.tuple (es.map<|sh1 ((dn:Nat):Int) ((rt:Nat):Int)):=by unfold shT;rw[Ad h4,Ah h4]
 refine mem_raw.mpr<|l0 n k ⟨hn,h1,(Eh (hK k<|ai h1).1).mpr (l0 es (dn*M.w+rt) ⟨h2,?_,by rw[FC],?_⟩)⟩
 .have:(dn+1)*M.w<=M.h*M.w:=Nat.mul_le_mul_right _ h3;rw[Nat.add_mul,Nat.one_mul]at this;lia
 .rw[FC];show(es.map<|sh1 ((dn:Nat):Int) ((rt:Nat):Int)).all (tD M)=true;rw[kh];intro e he;obtain⟨r,c,k',rfl,a1,a2,a3,a4,a5⟩:=h5 e he;rw[D8];unfold gA;rw[if_pos ⟨a1,a2⟩];exact hf r c k' a1 a2 a5
def avd:Sp:=λvs H Q _=>∃(hd:Int)(cA:aF)(ns:Z Int),vs=[.int hd,.ref cA,.bl false]/\H cA=some (.lst<|ns.map V.int)/\ns.length<=12/\
 ∀(p pz ly:aF)(M:Mat) (ks:Z (Z U×Nat)) (bC:Z (Int×Option Int)) (bG:Z U) (L:Z Pc) (G:Hp),Same H G->G p=some (.tup [.ref pz,.ref ly])->PzJ G pz M ks bC bG->LyH G ly L->LyO ks.length L->L.length<=12->0<ks.length->Q (.ref p) G
def scBlt:mh ["_law_head","_law_cells","_law_small","_law_hs","_law_letters_here","_law_kinds_here","_law_high","_law_wide","_law_laid_here","_law_taken","_law_floor_here"] ZJ (lw Ki):={}
def ato(B:∀x∈sv,mg x=none)(jO:Fn P w K mg base "_law_mixed" 1 Z5 Ab)(MD:Fn P w K mg base "_law_letters" 1 ["_law_x"] atp)(An:Fn P w K mg base "_law_kinds" 3 Z3 alw)(Ey:Fn P w K mg base "_law_laid" 4 ZN ap4)(Ap:Fn P w K mg base "_law_floor" 2 ZM amj)(ML:Fn P w K mg base "_law_bounded" 1 ZK av0)(MP:Fn P w K mg base "_law_apart" 2 ZL avf)(F:Fun K "_law_built" "_law_built" Ki f fd):qr P w K mg base CX0 5 f fd ZJ avd:=by
 refine F.ok (k:=4) scBlt (λvs H Q E h=>?_) λbQ A outer s H vs Q E hr h=>?_
 .obtain⟨hd,cA,ns,rfl,_⟩:=h;rfl
 obtain⟨hd,cA,ns,rfl,hcA,yR,q⟩:=h;refine⟨_,(k9 (psN 3 scBlt.nd<|pfn jO<|lq (pv 0)<|lq k8 k7)
  (k9 (psN 4 scBlt.nd<|pfn MD<|lq (pix my (pv 3) k8) k7)
  (k9 (psN 5 scBlt.nd<|pfn An<|lq (pix my (pv 3) k8)<|lq (pv 4)<|lq (pix my (oz<|lq k8<|lq k8 k7)<|pCT als PyProof.Rows.boot_int<|lq (pv 2) k7) k7)
  (k9 (psN 6 scBlt.nd<|mj oq k8<|mj oo (pix my (pv 3) k8) k8)
  (k9 (psN 7 scBlt.nd<|mj oq k8<|mj oo (pix my (pv 3) k8) k8)
  (k9 (qa (PW.pt<|vh (zz<|uy<|pv 2)<|uk<|m7 uv (mj oo (pix my (pv 3) k8) k8) k8<|nr _) (k9 (psN 6 scBlt.nd k8)
  (lh<|psN 7 scBlt.nd k8)) np)
  (k9 (Gf (pfn Ey<|lq (pv 5)<|lq (pv 6)<|lq (pv 7)<|lq (pv 1) k7)<|qb (n:=2) rfl<|ln (pgN 8 scBlt.nd)<|ln (pgN 9 scBlt.nd) nc)
  (k9 (psN 10 scBlt.nd<|pfn Ap<|lq (pv 9)<|lq (pv 6)<|lq (pv 7)<|lq (pix my (pv 3) k8)<|lq (pv 4) k7)
  (lh<|ma<|mw<|lq (mw<|lq (pv 10)<|lq (pfn ML<|lq (pv 5)<|lq (pv 8)<|lq (pix my (pv 3) k8) k7)<|lq (pfn MP<|lq (pv 8)<|lq (pv 4)<|lq (pix my (pv 3) k8) k7) k7)<|lq (pv 8) k7))))))))),?_⟩
 refine(nj _ rfl hd 10 ⟨rfl,by decide,λX ms G1 ⟨Ix,tP⟩ s1 Dg hX=>?_⟩);have gW:∀i:Nat,i<10->∃n:Int,(ms.map V.int)[i]?=some (.int n)/\0<=n:=λi hi=>⟨ms[i]'(by lia),by rw[bo,ah<|by lia];rfl,(tP _<|gp _).1⟩;obtain⟨n0,e0,_⟩:=gW 0 (by decide);obtain⟨n1,e1,_⟩:=gW 1 (by decide);obtain⟨n2,e2,_⟩:=gW 2 (by decide);obtain⟨n3,e3,_⟩:=gW 3 (by decide);obtain⟨n4,e4,_⟩:=gW 4 (by decide);obtain⟨n5,e5,_⟩:=gW 5 (by decide);obtain⟨n6,e6,_⟩:=gW 6 (by decide);obtain⟨n7,e7,_⟩:=gW 7 (by decide);clear gW;refine(lj _ rfl X _ _ _ ⟨rfl,rfl,SqL.of hX,lg (j:=0) e0,n0,rfl,λLT cs G2 qA sN t2 hLT0 hLT=>?_⟩);have A4:=t2 _ _ hX;refine(lj _ rfl X _ _ _ ⟨rfl,rfl,SqL.of A4,lg (j:=1) e1,_,rfl,sZ2,λq1 pC=>?_⟩);generalize g1:upd G2 q1 _=G3 at *;obtain⟨t3,l3⟩:=al pC g1;refine⟨_,rfl,.inr<|lj false rfl q1 _ _ (.int 6) ⟨rfl,rfl,SqL.of l3,lg (j:=0) rfl,?_⟩⟩;refine(m9 n1 LT cs ⟨rfl,t3 _ _ hLT,qA,sN,λKD kv ks G4 t4 hKD0 hKD dY lB tS=>?_⟩);have zE:=t4 _ _<|t3 _ _ A4;have Jv:=t4 _ _<|t3 _ _ hLT;have sA:Same H G4:=((s1.trans t2).trans t3).trans t4;obtain⟨h0,IS,hh4,eh⟩:∃h:Nat,0<h/\h<=4/\1+n2 % 4=(h:Nat):=⟨(1+n2 % 4).toNat,by lia,by lia,by lia⟩;obtain⟨w0,AI,hw5,ew⟩:∃h:Nat,0<h/\h<=5/\1+n3 % 5=(h:Nat):=⟨(1+n3 % 5).toNat,by lia,by lia,by lia⟩;refine(lj _ rfl X _ _ _ ⟨rfl,rfl,SqL.of zE,lg (j:=2) e2,(yt _ _ rfl rfl (by show(0:Int)<4;decide) _ _ ⟨rfl,rfl,?_⟩)⟩);refine(lj _ rfl X _ _ _ ⟨rfl,rfl,SqL.of zE,lg (j:=3) e3,(yt _ _ rfl rfl (by show(0:Int)<5;decide) _ _ ⟨rfl,rfl,?_⟩)⟩);dsimp only[uf];refine GH (λσ' G'=>∃hN wN:Nat,0<hN/\hN<=8/\0<wN/\wN<=8/\σ'=[some (.int hd),some<|.ref cA,some<|.bl false,some<|.ref X,some<|.ref LT,some<|.ref KD,some<|.int (hN:Nat),some<|.int (wN:Nat),none,none,none]/\G4=G') ?_ λDh jR gU=>?_
 case' refine_2=>
  refine(ny _ rfl _ ⟨rfl,?_⟩);refine ux ?_;refine(lj _ rfl X _ _ _ ⟨rfl,rfl,SqL.of zE,lg (j:=4) e4,(l0 _ _ ⟨rfl,rfl,(by show(0:Int)<8;decide),rfl,_,rfl,?_⟩)⟩);refine qz (λh4=>?_) λh4=>?_
  .exact jR _ _<|l0 8 8 ⟨by decide,by decide,by decide,by decide,rfl,rfl⟩
  .exact jR _ _<|l0 h0 w0 ⟨IS,by lia,AI,by lia,by rw[<-eh,<-ew];rfl,rfl⟩
 rintro σ' G' ⟨hN,wN,hN1,hN8,wN1,wN8,rfl,rfl⟩;refine(qg _ rfl _ rfl _ ⟨rfl,(lj _ rfl KD cA hN wN<|m9 kv ks ns ⟨rfl,hKD,dY,lB,tS,sA _ _ hcA,yR,hN1,hN8,wN1,wN8,λpr ly tk G5 kvs xs fW L hly0 kZ hT hP uQ=>?_⟩)⟩);refine(l7 pr _ rfl (SqT.of kZ) rfl _ _ rfl _ ⟨_,rfl,rfl,?_⟩);have A3:=L.sm _ _ zE;have Dn:=L.sm _ _ Jv;refine(qg _ rfl _ rfl _ ⟨rfl,(lj _ rfl X _ _ _ ⟨rfl,rfl,SqL.of A3,lg (j:=5) e5,(lj _ rfl tk LT hN wN<|m9 n5 kvs cs ⟨rfl,L.htk,hT,Dn,qA,sN,hN1,hN8,wN1,wN8,λfl G6 M s6 jS eMh eMw Jt=>?_⟩)⟩)⟩);have mL:=dY.z;have hPl:∀d∈fW,PlD d:=λd hd=>(hP d hd).pl mL;have hra:∀d∈fW,d∈raw M ks ks.length:=λd hd=>auw mL eMh eMw Jt<|hP d hd;obtain⟨Ly,FD,hO⟩:=ap0 mL hra;have Ju:∀p∈Ly,Lie M ks p:=λp hp=>hra _ (by rw[FD];exact gg hp);have yU:Ly.length<=12:=by rw[FD,ae]at uQ;exact uQ
 have sB:=L.sm.trans s6;refine(qg _ rfl _ rfl _ ⟨rfl,(lj _ rfl X _ _ _ ⟨rfl,rfl,SqL.of<|s6 _ _ A3,lg (j:=6) e6,(lv KD ly n6 kv xs<|l0 ks fW ⟨rfl,sB _ _ hKD,dY.same sB,tS,s6 _ _ L.hly,L.rep.same s6,hPl,by lia,λkr nH bC G7 s7 mH II Dt=>?_⟩)⟩)⟩);have sC:=s6.trans s7;refine(oj _ rfl _ rfl _ rfl X _<|l0 _ _ ⟨rfl,rfl,SqL.of<|sC _ _ A3,lg (j:=7) e7,(lv ly LT n7 ks.length M.w<|l0 Ly cs ⟨rfl,⟨xs,sC _ _ L.hly,by rw[<-FD];exact L.rep.same sC⟩,hO,by lia,(λc hc=>(F8 mL hO Ju hc).2.1),sC _ _ Dn,qA,sN,λap gS bG G8 s8 Fh nE=>?_⟩)⟩);refine⟨sZ3,λpz hpz=>?_⟩;generalize g1:upd G8 pz _=G9 at *;obtain⟨s9,c9⟩:=al hpz g1;refine⟨_,rfl,sZ2,λp hp=>?_⟩;have pS:Same G9 (upd G9 p<|.tup [.ref pz,.ref ly]):=Same.fresh _ hp;have sD:=((s7.trans s8).trans s9).trans pS;have sE:=s6.trans sD;have sF:=(s8.trans s9).trans pS;have sH:=s9.trans pS;exact q p pz ly M ks bC bG Ly _ ((sA.trans L.sm).trans sE) lr (lv fl kr ap nH gS ⟨pS _ _ c9,jS.same sD,sF _ _ mH,II.same sF,tS,Dt.same sF,sH _ _ Fh,nE.same sH⟩) ⟨xs,sE _ _ L.hly,by rw[<-FD];exact L.rep.same sE⟩ hO yU lB
def agu{ds:Z U}(h:Spots ds):Spots (oa ds):=λd hd=>by obtain⟨x,hx,rfl⟩:=ay.mp hd;obtain⟨r,c,z,rfl⟩:=h x hx;exact(m9 _ _ _ rfl)
def aon{ds:Z U}(h:∀d∈ds,SgD d):∀d∈rq (oa ds),SgD d:=λd hd=>by obtain⟨x,hx,rfl⟩:=ay.mp<|(o0 _).mem_iff.mp hd;exact(zc _ _<|h x hx).1
def as0:Sp:=λvs H Q _=>∃(pz:aF)(x:V)(M:Mat) (ks:Z (Z U×Nat)) (p:Pc),vs=[.ref pz,x]/\PzK H pz M ks/\Rep H (pcD p) x/\PcO p/\p.2<ks.length/\∀(b:Bool)(H':Hp),Same H H'->(b=true↔Lie M ks p)->Q (.bl b) H'
def scLie:mh ["_law_puzzle","_law_placement","_law_spots","_law_number"] ZI (lw Kx):={}
def aus(B:∀x∈sv,mg x=none)(Eu:Fn P w K mg base "_law_room" 1 ZO FY)(gN:Fn P w K mg base "_law_formed" 1 Z1 GB)(lH:Fn P w K mg base "_law_forms" 3 ["_law_kind"] Mb)(F:Fun K "_law_lies" "_law_lies" Kx f fd):qr P w K mg base CX0 4 f fd ZI as0:=by
 refine F.ok (k:=3) scLie (λvs H Q E h=>?_) λbQ A outer s H vs Q E hr h=>?_
 .obtain⟨_,_,_,_,_,rfl,_⟩:=h;rfl
 obtain⟨pz,x,M,ks,p,rfl,⟨fl,kr,e,kvs,hp,jS,mH,dY,tS⟩,rd,iL,hn,q⟩:=h;have hu:=hr.units;obtain⟨b,eb,fE,rfl,hb,iJ,bR⟩:=xU rd;have tM:=Ln iL.1;have gZ:=SgN.spots tM;have HP:∀d∈p.1.map sgD,SgD d:=λd hd=>(tM d hd).sg;have hl:(p.1.map sgD).length=p.1.length:=ae _;have h6:=iL.2.2;have h1:=iL.2.1;obtain⟨k,hk⟩:∃k,ks[p.2]?=some k:=⟨_,ah hn⟩;obtain⟨kv,eL⟩:∃kv,kvs[p.2]?=some kv:=⟨_,ah<|by rw[dY.1];exact hn⟩;have CV:=dY.2 _ _ _ eL hk;have Hv:=ami iL hk dY.z (M:=M);have vA:=ua gZ;generalize AX:p.1.map sgD=es at *;refine⟨_,(k9 (Gf (pv 1)<|qb (n:=2) rfl<|ln (pgN 2 scLie.nd)<|ln (pgN 3 scLie.nd) nc)
  (k9 (qa (PW.pt<|qJ (m7 (La hu) (pCT wj sU<|lq (pv 2) k7) (pCB ade kg<|lq (pv 2) k7)<|nr _)<|wx<|zz<|uy<|pfn Eu<|lq (pix mf (pv 0) k8)<|lq (pv 2) k7) (lh<|ma vS) np)
  (lh<|ma<|wb (Gg hu) (pfn gN<|lq (pv 2) k7) (pfn lH<|lq (pix mf (pix mf (pv 0) k8)<|pv 3) k7) rfl))),?_⟩
 refine(pj _ rfl b _ rfl (SqT.of hb) rfl _ _ ⟨rfl,(l0 _ _ ⟨rfl,rfl,?_⟩)⟩);refine(nj _ rfl eb _ ⟨rfl,.inr<|SqT.of iJ,λl1 iX=>?_⟩);generalize g1:upd H l1 _=H1 at *;obtain⟨s1,e1⟩:=al iX g1;refine(lj _ rfl eb _ es ([true,false]) ⟨rfl,SqT.of<|s1 _ _ iJ,bR.same s1,wo gZ,by lia,λl2 ys fJ re=>?_⟩);generalize g1:upd H1 l2 _=H2 at *;obtain⟨s2,e2⟩:=al fJ g1;have gT:=s1.trans s2;have r1:Rep H2 (.list es) (.ref l1):=(l0 l1 _ ⟨rfl,s2 _ _ e1,bR.same gT⟩);have r2:Rep H2 (.list<|rq es) (.ref l2):=(l0 l2 _ ⟨rfl,e2,re⟩);refine(l0 (.list es) (.list<|rq es) ⟨r1,r2,by simp[f7];lia,_,rfl,?_⟩);have yW:=Ai HP;have IL:wv (rq es)=true:=Ai λd hd=>HP d<|(o0 _).mem_iff.mp hd;have eq1:br (.list es) (.list<|rq es)=true↔rq es=es:=by
  constructor
  .intro h;exact(Mm _ _ yW IL h).symm
  .intro h;rw[h];exact jy _ r1.lay
 refine qz (λc1=>ux ?_) λc1=>?_
 .rw[if_pos rfl]at c1;refine q false H2 gT ⟨λz=>(by cases z),λz=>?_⟩;rw[eq1.mpr (Hv.mp z).1]at c1;cases c1
 rw[if_pos rfl]at c1;have hso:rq es=es:=eq1.mp (by simpa using c1);refine(lj _ rfl pz _ _ _ ⟨rfl,rfl,SqT.of<|gT _ _ hp,lg (j:=0) rfl,(lj _ rfl fl eb M fE ⟨es,rfl,jS.same gT,gT _ _ iJ,bR.same gT,tM,by lia,λH3 s3=>⟨_,rfl,?_⟩⟩)⟩);have kA:=gT.trans s3;refine qz (λc2=>?_) λc2=>?_
 .refine q false H3 kA ⟨λz=>(by cases z),λz=>?_⟩;rw[(Hv.mp z).2.1]at c2;cases c2
 have IX:mY M (.tuple es)=true:=by simpa using c2
 refine(ph _ rfl eb fE es ⟨rfl,.inr<|kA _ _ iJ,bR.same kA,gZ,by lia,by lia,λr H4 s4 rF=>?_⟩);have EN:=kA.trans s4;refine(lj _ rfl pz _ _ _ ⟨rfl,rfl,SqT.of<|EN _ _ hp,lg (j:=1) rfl,(lj _ rfl kr _ _ _ ⟨rfl,rfl,SqT.of<|EN _ _ mH,lg eL,?_⟩)⟩);refine(l0 kv k ⟨rfl,CV.same EN,λl fs H5 s5 IH hl gF=>?_⟩);have hz:=(dY.z k<|ai hk).1;have hFF:=Ac (n:=k.2) hz;have cY:(PyData.tuple<|rq<|oa es).depth<=60:=by have:=ua (ds:=rq<|oa es) λd hd=>agu gZ d<|(o0 _).mem_iff.mp hd;simp[f7];lia
 refine(l9 (.tuple<|rq<|oa es) l fs (FS k.1 k.2) ⟨Rep.same s5 rF,rfl,.inl hl,gF,cY,?_⟩);refine q _ H5 (EN.trans s5) ?_;rw[if_neg am,List.any_eq_true,Hv];constructor
 .rintro⟨e,he,h⟩;have:=Bv _ _ (hFF e he).key.1.1 (show kd (.tuple<|rq<|oa es)=true from Ai<|aon HP) h;rw[this]at he;exact⟨hso,IX,he⟩
 .rintro⟨_,_,h⟩;exact⟨_,h,jy _ rF.lay⟩
structure CnD(H G:Hp)(kvs:Z (Z Key×V))(cs:Z (Nat×Nat)):Prop where
 ks:∀kv∈kvs,∃q:Nat×Nat,kv.1=rf q.1 q.2/\q∈cs
 at':∀q∈cs,∃t ys,rs kvs (rf q.1 q.2)=some (.ref t)/\G t=some (.lst ys)/\ys.length=cs.count q/\H t=none
 inj:∀(q q':Nat×Nat) t,rs kvs (rf q.1 q.2)=some (.ref t)->rs kvs (rf q'.1 q'.2)=some (.ref t)->q=q'
 len:kvs.length<=cs.length
def CnD.in'{H G:Hp}{kvs:Z (Z Key×V)}{cs:Z (Nat×Nat)}(h:CnD H G kvs cs){q:Nat×Nat}{v:V}(hv:rs kvs (rf q.1 q.2)=some v):q∈cs:=by obtain⟨q',e,hq⟩:=h.ks _<|Gk hv;obtain⟨e1,e2⟩:=sk e;rw[show q=q' from Prod.ext e1 e2];exact hq
def CnD.on{H G G':Hp}{kvs:Z (Z Key×V)}{cs:Z (Nat×Nat)}(h:CnD H G kvs cs)(s:∀t ys,(∃q:Nat×Nat,rs kvs (rf q.1 q.2)=some (.ref t))->G t=some (.lst ys)->G' t=some (.lst ys)):CnD H G' kvs cs:=
 ⟨h.ks,λq hq=>by obtain⟨t,ys,h1,h2,h3⟩:=h.at' q hq;exact(l0 t ys ⟨h1,s t ys ⟨q,h1⟩ h2,h3⟩),h.inj,h.len⟩
def Gz(cs:Z (Nat×Nat))(q q':Nat×Nat):(cs++[q]).count q'=cs.count q'+if q=q' then 1 else 0:=by
 rw[List.count_append,List.count_singleton]
 congr 1
 by_cases e:q=q'
 .rw[if_pos e,if_pos<|by rw[e];exact beq_self_eq_true _]
 .rw[if_neg e,if_neg<|by simpa using e]
def CnD.old{H G:Hp}{kvs:Z (Z Key×V)}{cs:Z (Nat×Nat)}(h:CnD H G kvs cs){q:Nat×Nat}{t:aF}{ys:Z V}{x:V}(hv:rs kvs (rf q.1 q.2)=some (.ref t))(ht:G t=some (.lst ys)):CnD H (upd G t<|.lst<|ys++[x]) kvs (cs++[q]):=by
 have hq:=h.in' hv;refine⟨λkv eL=>?_,λq' gR=>?_,h.inj,by rw[au];exact Nat.le_add_right_of_le h.len⟩
 .obtain⟨c,e,hc⟩:=h.ks kv eL;exact⟨c,e,g9 _ hc⟩
 .have gR:q'∈cs:=(a8.mp gR).elim id λz=>by rw[ar.mp z];exact hq
  obtain⟨t',uD,h1,h2,h3,h4⟩:=h.at' q' gR;by_cases e:q=q'
  .subst e;rw[hv]at h1;cases h1;rw[ht]at h2;cases h2;exact(l0 t _ ⟨hv,lr,by rw[au,cc,h3,Gz,if_pos rfl],h4⟩)
  .have ne:t'≠t:=λz=>e (h.inj q q' t hv<|by rw[<-z];exact h1);exact(l0 t' uD ⟨h1,by rw[nu ne];exact h2,by rw[h3,Gz,if_neg e];rfl,h4⟩)
def CnD.new{H G:Hp}{kvs:Z (Z Key×V)}{cs:Z (Nat×Nat)}(h:CnD H G kvs cs){q:Nat×Nat}{l:aF}{x:V}(hv:rs kvs (rf q.1 q.2)=none)(hl:H l=none)(hf:∀q':Nat×Nat,rs kvs (rf q'.1 q'.2)≠some (.ref l)):CnD H (upd G l<|.lst [x]) (jE kvs (rf q.1 q.2)<|.ref l) (cs++[q]):=by
 have hq:q∉cs:=λz=>by obtain⟨t,ys,h1,_⟩:=h.at' q z;rw[hv]at h1;cases h1
 have vp:∀c:Nat×Nat,rs (jE kvs (rf q.1 q.2)<|.ref l) (rf c.1 c.2)=if c=q then some (.ref l)else rs kvs (rf c.1 c.2):=λc=>by
  rw[wn];by_cases e:c=q
  .rw[if_pos e,if_pos<|by rw[e]]
  .rw[if_neg e,if_neg λz=>e<|Prod.ext (sk z).1 (sk z).2]
 refine⟨λkv eL=>?_,λq' gR=>?_,λa b t ha hb=>?_,?_⟩
 .rcases aik eL with h'|rfl
  .obtain⟨c,e,hc⟩:=h.ks kv h';exact⟨c,e,g9 _ hc⟩
  .exact⟨q,rfl,cm _<|ar.mpr rfl⟩
 .rw[vp];by_cases e:q'=q
  .rw[if_pos e];exact(l0 l _ ⟨rfl,lr,by rw[e,Gz,if_pos rfl,List.count_eq_zero_of_not_mem hq];rfl,hl⟩)
  .rw[if_neg e];have gR:q'∈cs:=(a8.mp gR).elim id λz=>absurd (ar.mp z) e;obtain⟨t',uD,h1,h2,h3,h4⟩:=h.at' q' gR;have ne:t'≠l:=λz=>hf q' (by rw[<-z];exact h1);exact(l0 t' uD ⟨h1,by rw[nu ne];exact h2,by rw[h3,Gz,if_neg λz=>e z.symm];rfl,h4⟩)
 .rw[vp]at ha hb;by_cases e1:a=q
  .by_cases e2:b=q
   .rw[e1,e2]
   .rw[if_pos e1]at ha;rw[if_neg e2]at hb;cases ha;exact absurd hb<|hf b
  .rw[if_neg e1]at ha;by_cases e2:b=q
   .rw[if_pos e2]at hb;cases hb;exact absurd ha<|hf a
   .rw[if_neg e2]at hb;exact h.inj a b t ha hb
 .have h1:=sd kvs (rf q.1 q.2)<|V.ref l;have h2:=h.len;rw[au,cc];lia
def CnD.iff{H G:Hp}{kvs:Z (Z Key×V)}{cs:Z (Nat×Nat)}(h:CnD H G kvs cs)(q:Nat×Nat):(rs kvs<|rf q.1 q.2).isSome=true↔q∈cs:=by
 constructor
 .intro hs;obtain⟨v,hv⟩:=Option.isSome_iff_exists.mp hs;exact h.in' hv
 .intro hq;obtain⟨t,ys,h1,_⟩:=h.at' q hq;rw[h1];rfl
def ava:Sp:=λvs H Q _=>∃(l:aF)(nk:Nat)(L:Z Pc),vs=[.ref l]/\LyH H l L/\LyO nk L/\L.length<=13/\∀(D:aF) (kvs:Z (Z Key×V)) (H':Hp),Same H H'->H' D=some (.dT kvs)->CnD H H' kvs (cls L)->Q (.ref D) H'
def scCns:mh ["_law_laying","_law_found","_law_k","_law_placement","_law_row","_law_column","_law_sign"] ["_law_laying"] (lw Kk):={}
theorem auj(B:∀x∈sv,mg x=none)(F:Fun K "_law_counts" "_law_counts" Kk f fd):qr P w K mg base CX0 1 f fd ["_law_laying"] ava:=by
 refine F.ok (k:=0) scCns (λvs H Q E h=>?_) λbQ A outer s H vs Q E hr h=>?_
 .obtain⟨_,_,_,rfl,_⟩:=h;rfl
 obtain⟨l,nk,L,rfl,⟨xs,hl,rep⟩,hO,iM,q⟩:=h;have hu:=hr.units;have lx:=rep.length;rw[ae]at lx;refine⟨_,(k9 (psN 1 scCns.nd Gx)
  (k9 (pfo (pEL<|lq (pv 0) k7) (qb (n:=2) rfl<|ln (pgN 2 scCns.nd)<|ln (pgN 3 scCns.nd) nc)<|lh<|pfo (vx<|pix mf (pv 3) k8) (qb (n:=3) rfl<|ln (pgN 4 scCns.nd)<|ln (pgN 5 scCns.nd)<|ln (pgN 6 scCns.nd) nc)<|lh<|r9<|ww ci fc ff pw (as3 (cy (cw (by decide) _) hu) (pv 1) (mw<|lq (pv 4)<|lq (pv 5) k7) (oz k7) ⟨rfl,rfl,rfl,rfl⟩)<|lq (mw<|lq (pv 6)<|lq (pv 2) k7) k7)
  (lh<|ma<|pv 1))),?_⟩
 intro wh wL;generalize g1:upd H wh _=H1 at *;obtain⟨s1,d1⟩:=al wL g1;refine(ny _ rfl l ⟨rfl,⟨_,SqL.of<|s1 _ _ hl⟩,?_⟩);refine zq (xs:=xs) (λi σ' G=>∃(y2 y3 y4 y5 y6:Option V) (kvs:Z (Z Key×V)),σ'=[some (.ref l),some<|.ref wh,y2,y3,y4,y5,y6]/\Same H G/\G wh=some (.dT kvs)/\CnD H G kvs (cls<|L.take i)) ?_ (λi σ' G hI=>?_) (λi x pr σ' G hx kZ hI=>?_) λσ' G hI=>?_
 .exact(lv _ _ _ _ _ ⟨[],rfl,s1,d1,(λkv h=>by cases h),(λq h=>by cases h),(λq q' t h=>by cases h),ao _⟩)
 .obtain⟨_,_,_,_,_,_,_,sg,_⟩:=hI;exact SqL.of<|sg _ _ hl
 .obtain⟨y2,y3,y4,y5,y6,kvs,rfl,sg,hG,hC⟩:=hI;obtain⟨p,hp,rd⟩:=vV rep hx;have hi:i<L.length:=(af.mp hp).1;have iL:=(hO p<|ai hp).1;have h6:=iL.2.2;have iI:=Ei (L:=L.take i) (nk:=nk) λq hq=>hO q<|ca hq;rw[bf]at iI;obtain⟨b,eb,fE,rfl,hb,iJ,bR⟩:=xU rd;have le:=bR.length;rw[ae]at le;refine(l7 pr _ rfl (SqT.of lr) rfl _ _ rfl _ ⟨_,rfl,rfl,?_⟩);generalize g1:upd G pr _=G2 at *;obtain⟨s2,_⟩:=al kZ g1;have bM:=sg.trans s2;refine(lj _ rfl b _ _ _ ⟨rfl,rfl,SqT.of<|bM _ _ hb,lg (j:=0) rfl,eb,rfl,⟨_,SqT.of<|bM _ _ iJ⟩,?_⟩);refine xp (xs:=fE) (λk σ' G3=>∃(y4 y5 y6:Option V) (bN:Z (Z Key×V)),σ'=[some (.ref l),some<|.ref wh,some<|.int (i:Nat),some<|.ref b,y4,y5,y6]/\Same H G3/\G3 wh=some (.dT bN)/\CnD H G3 bN (cls (L.take i)++(p.1.take k).map ce)) ?_ (λk σ' G3 hk hI=>?_) (λk x σ' G3 hx hI=>?_) λσ' G3 hI=>?_
  .exact(l9 _ _ _ kvs ⟨rfl,bM,s2 _ _ hG,by rw[List.take_zero,List.map_nil,fj];exact hC.on λt ys _ h=>s2 _ _ h⟩)
  .obtain⟨_,_,_,_,_,dB,_⟩:=hI;exact SqT.of<|dB _ _ iJ
  .obtain⟨y4,y5,y6,bN,rfl,dB,pH,kF⟩:=hI;have hk:k<fE.length:=(af.mp hx).1;obtain⟨sp,b',hs,rfl,cU⟩:=Br bR hx;refine(l7 b' _ rfl (SqT.of<|dB _ _ cU) rfl _ _ rfl _<|nj _ rfl _ _ ⟨rfl,rfl,?_⟩);refine(ny _ rfl wh ⟨rfl,.inr ⟨bN,.inl pH⟩,(ny _ rfl _ ⟨rfl,sZ2,λt4 Ct=>?_⟩)⟩);generalize g1:upd G3 t4 _=G4 at *;obtain⟨s4,c4⟩:=al Ct g1;refine⟨sZ0,λt5 pX=>?_⟩;generalize g1:upd G4 t5 _=G5 at *;obtain⟨s5,c5⟩:=al pX g1;have EM:=s4.trans s5;have mW:=EM _ _ pH;have aZ:=kF.len;rw[au,ae,bf]at aZ;have xF:CnD H G5 bN _:=kF.on λt ys _ h=>EM _ _ h;refine(m9 bN (rf sp.1 sp.2.1) t4 ⟨mW,rfl,s5 _ _ c4,mr<|by lia,?_⟩);have et:cls (L.take i)++(p.1.take<|k+1).map ce=cls (L.take i)++(p.1.take k).map ce++[ce sp]:=by rw[mq ce hs,bq]
   have cl0:(cls (L.take i)++(p.1.take k).map ce).length<=100:=by rw[au,ae,bf];lia
   rw[et];generalize cls (L.take i)++(p.1.take k).map ce=cs at *;cases hv:rs bN (rf sp.1 sp.2.1)with
   | some v=>
    obtain⟨t,ys,h1,h2,h3,h4⟩:=xF.at' (ce sp)<|xF.in' (q:=ce sp) hv;have h1:rs bN (rf sp.1 sp.2.1)=some (.ref t):=h1;rw[hv]at h1;cases h1;refine⟨.inl ⟨rfl,_,SqL.of h2⟩,(ny _ rfl _ ⟨rfl,sZ2,λt6 Cs=>?_⟩)⟩;generalize g1:upd G5 t6 _=G6 at *;obtain⟨s6,c6⟩:=al Cs g1;have hcn:=List.count_le_length (a:=ce sp) (l:=cs);refine(m9 t ys _ ⟨rfl,rfl,s6 _ _ h2,mr<|by lia,?_⟩);have nt:wh≠t:=λe=>by rw[e,h2]at mW;cases mW
    exact(l9 _ _ _ bN ⟨rfl,((dB.trans EM).trans s6).new h4,by rw[nu nt];exact s6 _ _ mW,(xF.on λt ys _ h=>s6 _ _ h).old (q:=ce sp) hv (s6 _ _ h2)⟩)
   | none=>
    have h5n:H t5=none:=(dB.trans s4).free pX;have ntw:t5≠wh:=λe=>by rw[e,s4 _ _ pH]at pX;cases pX
    generalize g1:upd G5 wh _=G6 at *;have c5':G6 t5=some (.lst []):=by rw[<-g1,nu ntw];exact c5
    have dw:G6 wh=some (.dT<|jE bN (rf sp.1 sp.2.1)<|.ref t5):=by rw[<-g1];exact lr
    have sg6:Same H G6:=by rw[<-g1];exact(dB.trans EM).new wL
    have zL:CnD H G6 bN cs:=xF.on λt ys _ h=>by rw[<-g1,nu λe=>by rw[e,mW]at h;cases h];exact h
    clear g1;refine⟨.inl ⟨rfl,_,SqL.of c5'⟩,(ny _ rfl _ ⟨rfl,sZ2,λt6 Cs=>?_⟩)⟩;generalize g1:upd G6 t6 _=G7 at *;obtain⟨s7,c7⟩:=al Cs g1;refine(m9 t5 ([]) _ ⟨rfl,rfl,s7 _ _ c5',mr<|by decide,?_⟩);refine(l9 _ _ _ _ ⟨rfl,(sg6.trans s7).new h5n,by rw[nu ntw.symm];exact s7 _ _ dw,(zL.on λt ys _ h=>s7 _ _ h).new (q:=ce sp) hv h5n λq' z=>?_⟩);obtain⟨t',uD,h1,h2,_⟩:=kF.at' q'<|kF.in' z;rw[z]at h1;cases h1;rw[s4 _ _ h2]at pX;cases pX
  .obtain⟨y4,y5,y6,bN,rfl,dB,pH,kF⟩:=hI;rw[aw (l:=p.1) (by lia),<-aif hp]at kF;exact(lv _ _ _ _ _ ⟨bN,rfl,dB,pH,kF⟩)
 .obtain⟨y2,y3,y4,y5,y6,kvs,rfl,sg,hG,hC⟩:=hI;rw[aw (by lia)]at hC;exact⟨_,rfl,q wh kvs G sg hG hC⟩
def avx:Sp:=λvs H Q _=>∃(fl D:aF)(M:Mat) (kvs:Z (Z Key×V)) (cs:Z (Nat×Nat)),vs=[.ref fl,.ref D]/\FlM H fl M/\H D=some (.dT kvs)/\(∀q:Nat×Nat,(rs kvs<|rf q.1 q.2).isSome=true↔q∈cs)/\
 ∀(v:V)(H':Hp),Same H H'->Rep H' (sY (qG (λi=>ve (M.g (i/M.w)<|i % M.w)=true/\cq M.w i∉cs)<|M.h*M.w)<|cdx M) v->Q v H'
def scLba:mh ["_law_floor_here","_law_counts_here","_law_row","_law_column","_law_sign"] ZH (lw Kh):={}
def aun(B:∀x∈sv,mg x=none)(F:Fun K "_law_bare" "_law_bare" Kh f fd):qr P w K mg base CX0 1 f fd ZH avx:=by
 refine F.ok (k:=0) scLba (λvs H Q E h=>?_) λbQ A outer s H vs Q E hr h=>?_
 .obtain⟨_,_,_,_,_,rfl,_⟩:=h;rfl
 obtain⟨fl,D,M,kvs,cs,rfl,jS,hD,lN,q⟩:=h;have hu:=hr.units;obtain⟨rZ,fX⟩:=id jS;have h1:=fX.h1;have h8:=fX.h8;have w8:=fX.w8;have w1:=fX.w1;have sR:atI ((qy M).map V.str) 0=some (.str ⟨(o7 M 0).toArray⟩):=lg (j:=0)<|wl h1;generalize xC:(λi=>ve (M.g (i/M.w)<|i % M.w)=true/\cq M.w i∉cs)=Pb at *;refine⟨_,(k9 (pfo (pR1<|lq (pCB mn cg<|lq (pv 0) k7) k7) (pgN 2 scLba.nd) (lh (pfo (pR1<|lq (pCB qd cg<|lq (pix mf (pv 0) k8) k7) k7) (pgN 3 scLba.nd) (k9 (psN 4 scLba.nd<|pix Bx (pix mf (pv 0)<|pv 2)<|pv 3)
  (lh<|qa (PW.pt<|vh (PW.pt<|qJ (m7 uv (pv 4) oh<|nr _)<|wx<|uy<|D0 ku PySem.F.slot_str_isupper PySem.F.type_str_isupper ai6<|pv 4)<|uk<|F5<|afc (cy (cw (by decide) _) hu) (mw<|lq (pv 2)<|lq (pv 3) k7)<|pv 1) (lh<|ma<|mw<|lq (pv 2)<|lq (pv 3) k7) np)))))
  (lh<|ma sw)),?_⟩
 refine(m8 _ rfl fl _ rfl (.inr<|SqT.of rZ) (M.h:Nat) ⟨by rw[ae,ql],by lia,by lia,?_⟩);rw[cj];refine sq (lo:=0) (λr σ' G=>∃(y2 y3 y4:Option V),σ'=[some (.ref fl),some<|.ref D,y2,y3,y4]/\Same H G/\∀j,j<r*M.w->¬Pb j) ?_ (λr σ' G HW hI=>?_) λσ' G hI=>?_
 .exact(m9 _ _ _ ⟨rfl,Same.refl _,λj hj=>absurd hj<|by lia⟩)
 .obtain⟨y2,y3,y4,rfl,sg,aS⟩:=hI;refine(lj _ rfl fl _ _ _ ⟨rfl,rfl,SqT.of<|sg _ _ rZ,sR,(ng _ rfl (by rw[oe];exact DU fX) (M.w:Nat) ⟨by rw[oe],by lia,by lia,?_⟩)⟩);rw[cj];refine sq (lo:=0) (λc σ' G2=>∃(y3 y4:Option V),σ'=[some (.ref fl),some<|.ref D,some<|.int<|0+(r:Nat),y3,y4]/\Same H G2/\∀j,j<r*M.w+c->¬Pb j) ?_ (λc σ' G2 A0 hI=>?_) λσ' G2 hI=>?_
  .exact(l0 _ _ ⟨rfl,sg,aS⟩)
  .obtain⟨y3,y4,rfl,bM,oN⟩:=hI;have xA:atI ((qy M).map V.str) (0+(r:Nat))=some (.str ⟨(o7 M r).toArray⟩):=by rw[iw];exact lg<|wl HW
   have zl:(⟨(o7 M r).toArray⟩:Str).length<=aC:=by rw[oe];exact DU fX
   refine(me _ rfl _ rfl fl _ _ ⟨_,rfl,rfl,SqT.of<|bM _ _ rZ,xA,(ph _ rfl _ _ (M.g r c) ⟨rfl,rfl,zl,?_,?_⟩)⟩)
   .rw[iw];refine lg ?_;show(o7 M r).toArray.toList[c]?=_;rw[List.toList_toArray];exact zn A0
   have hg:=zX<|fX.sg r c HW A0;have eP:Pb (r*M.w+c)↔ve (M.g r c)=true/\(r,c)∉cs:=by rw[<-xC];show ve (M.g ((r*M.w+c)/M.w)<|(r*M.w+c) % M.w)=true/\((r*M.w+c)/M.w,(r*M.w+c) % M.w)∉cs↔_;rw[Ad A0,Ah A0]
   have bS:r*M.w+c<M.h*M.w:=by have:(r+1)*M.w<=M.h*M.w:=Nat.mul_le_mul_right _ HW;rw[Nat.add_mul,Nat.one_mul]at this;lia
   generalize M.g r c=g at *;have no:∀G3,Same H G3->∀y4:Option V,¬Pb (r*M.w+c)->∃(z3 z4:Option V),[some (V.ref fl),some<|.ref D,some<|.int<|0+(r:Nat),some<|.int<|0+(c:Nat),y4]=[some (.ref fl),some<|.ref D,some<|.int<|0+(r:Nat),z3,z4]/\Same H G3/\∀j,j<r*M.w+(c+1)->¬Pb j:=λG3 s3 y4 hn=>⟨_,_,rfl,s3,λj hj=>by
    by_cases e:j=r*M.w+c
    .rw[e];exact hn
    .exact oN j<|by lia⟩
   have fin:ve g=true->∀t,G2 t=none->(∀G3,G3=upd G2 t (.tup [.int (0+(r:Nat)),.int<|0+(c:Nat)])->Same H G3/\DGet G3 D (.ref t) (rs kvs<|rf r c)):=λhm t ht G3 e=>by obtain⟨s3,e3⟩:=al ht e.symm;refine⟨bM.trans s3,DGet.t ((bM.trans s3) _ _ hD) ?_⟩;rw[e3,iw,iw];rfl
   have zR:bw "." = ⟨#[46]⟩:=by decide +kernel
   have ed:decide (V.str ⟨#[g]⟩=V.str (bw "."))=(g==46):=xf _ 46 zR;have last:ve g=true->∀t,G2 t=none->∀G3,G3=upd G2 t (.tup [.int (0+(r:Nat)),.int<|0+(c:Nat)])->((!(rs kvs<|rf r c).isSome)=true->∀t2,G3 t2=none->Q (.ref t2) (upd G3 t2<|.tup [.int (0+(r:Nat)),.int<|0+(c:Nat)]))/\(¬(!(rs kvs<|rf r c).isSome)=true->¬Pb (r*M.w+c)):=λhm t ht G3 e=>by
    obtain⟨s3,e3⟩:=al ht e.symm;refine⟨λhn t2 kL=>?_,λhn z=>hn ?_⟩
    .generalize g1:upd G3 t2 _=G4 at *;obtain⟨s4,e4⟩:=al kL g1;clear g1;have hP:Pb (r*M.w+c):=eP.mpr ⟨hm,λz=>by rw[(lN (r,c)).mpr z]at hn;cases hn⟩;refine q _ G4 (bM.trans<|s3.trans s4) ?_;rw[sf bS hP oN];refine(l0 t2 _ ⟨rfl,e4,?_⟩);rw[iw,iw];rw[Ad A0,Ah A0];exact(qi _ _ rfl rfl _ _ ⟨rfl,rfl,rfl⟩)
    .have:=(eP.mp z).2;have h2:¬(rs kvs<|rf r c).isSome=true:=λy=>this<|(lN (r,c)).mp y;simpa using h2
   refine(ng _ rfl rfl _ ⟨rfl,?_⟩);rw[ed];refine qz (λc1=>ux ?_) λc1=>?_
   .have hm:ve g=true:=by unfold ve;rw[c1];rfl
    refine(ny _ rfl _ ⟨rfl,sZ2,λt ht=>?_⟩);obtain⟨s3,Je⟩:=fin hm t ht _ rfl;obtain⟨l1,l2⟩:=last hm t ht _ rfl;refine(m8 _ rfl D _ rfl Je _ ⟨rfl,?_⟩);exact qz (λc2=>(ny _ rfl _ ⟨rfl,sZ2,l1 c2⟩)) λc2=>no _ s3 _<|l2 c2
   .have c1':(g==46)=false:=Bool.eq_false_iff.mpr c1;refine(ng _ rfl rfl g ⟨rfl,rfl,hg,_,rfl,?_⟩);refine qz (λc3=>?_) λc3=>iV<|no G2 bM _ λz=>c3 ?_
    .have hm:ve g=true:=by unfold ve;rw[show big g=true from c3,Bool.or_true]
     refine(ny _ rfl _ ⟨rfl,sZ2,λt ht=>?_⟩);obtain⟨s3,Je⟩:=fin hm t ht _ rfl;obtain⟨l1,l2⟩:=last hm t ht _ rfl;refine(m8 _ rfl D _ rfl Je _ ⟨rfl,?_⟩);exact qz (λc2=>(ny _ rfl _ ⟨rfl,sZ2,l1 c2⟩)) λc2=>no _ s3 _<|l2 c2
    .have:=(eP.mp z).1;unfold ve at this;rw[c1',Bool.false_or]at this;exact this
  .obtain⟨y3,y4,rfl,bM,oN⟩:=hI;exact(m9 _ _ _ ⟨rfl,bM,λj hj=>oN j<|by rw[Nat.add_mul,Nat.one_mul]at hj;exact hj⟩)
 .obtain⟨y2,y3,y4,rfl,sg,aS⟩:=hI;refine q _ G sg ?_;rw[si aS];exact rfl
def auy:Sp:=λvs H Q _=>∃(kr l:aF)(kvs:Z V) (bC:Z (Int×Option Int)) (L:Z Pc),vs=[.ref kr,.ref l]/\H kr=some (.tup kvs)/\BndK H kvs bC/\LyH H l L/\L.length<=13/\∀(v:V)(H':Hp),Same H H'->Rep H' (sY (qG (Bad bC L) bC.length) λn=>.int (n:Nat)) v->Q v H'
def scLco:mh ["_law_kinds_here","_law_laying","_law_number","_law_kind","_law_many"] ZG (lw KA):={}
def atg(B:∀x∈sv,mg x=none)(F:Fun K "_law_count" "_law_count" KA f fd):qr P w K mg base CX0 1 f fd ZG auy:=by
 refine F.ok (k:=0) scLco (λvs H Q E h=>?_) λbQ A outer s H vs Q E hr h=>?_
 .obtain⟨_,_,_,_,_,rfl,_⟩:=h;rfl
 obtain⟨kr,l,kvs,bC,L,rfl,mH,hB,⟨xs,hl,rep⟩,iM,q⟩:=h;have lx:=rep.length;rw[ae]at lx;refine⟨_,(k9 (pfo (pET<|lq (pv 0) k7) (qb (n:=2) rfl<|ln (pgN 2 scLco.nd)<|ln (pgN 3 scLco.nd) nc) (k9 (psN 4 scLco.nd<|ww ci PySem.F.slot_list_count PySem.F.type_list_count aht (pcm ["_law_placement"] [none] (og<|pv 1) (λ_=>(pgC 0)) (λ_=>ow) λ_=>(pix um (pv 0) k8))<|lq (pv 2) k7)
  (lh<|qa (PW.pt<|qJ (m7 vQ (pv 4) (pix mf (pv 3) k8)<|nr _)<|wx<|PW.pt<|vh (m7 Em (pix mf (pv 3) k8) sw<|nr _)<|uk<|m7 F0 (pv 4) (pix mf (pv 3) k8)<|nr _) (lh<|ma<|pv 2) np)))
  (lh<|ma sw)),?_⟩
 refine(ny _ rfl kr ⟨rfl,⟨_,SqT.of mH⟩,?_⟩);refine Gh (xs:=kvs) (λn σ' J=>∃(y2 y3 y4:Option V),σ'=[some (.ref kr),some<|.ref l,y2,y3,y4]/\Same H J/\∀j,j<n->¬Bad bC L j) ?_ (λn σ' J hI=>?_) (λn x pr σ' J hx kZ hI=>?_) λσ' J hI=>?_
 .exact(m9 _ _ _ ⟨rfl,Same.refl _,λj hj=>absurd hj<|fu _⟩)
 .obtain⟨_,_,_,_,sg,_⟩:=hI;exact SqT.of<|sg _ _ mH
 .obtain⟨y2,y3,y4,rfl,sg,aS⟩:=hI;have hn:n<kvs.length:=(af.mp hx).1;obtain⟨hBl,JB⟩:=id hB;obtain⟨lm,uW⟩:∃lm,bC[n]?=some lm:=⟨_,ah<|by lia⟩;obtain⟨b,u0,u3,u4,rfl,hb⟩:=JB n x lm hx uW;refine(l7 pr _ rfl (SqT.of lr) rfl _ _ rfl _ ⟨_,rfl,rfl,?_⟩);generalize g1:upd J pr _=J2 at *;obtain⟨s2,_⟩:=al kZ g1;have bM:=sg.trans s2;refine(ny _ rfl l ⟨rfl,⟨_,SqL.of<|bM _ _ hl⟩,λD hD=>?_⟩);refine o8 (xs:=xs) (λi zs G=>Same J2 G/\zs=((L.take i).map λp=>((p.2:Nat):Int)).map V.int) ⟨Same.fresh _ hD,rfl⟩ (λi zs G p=>SqL.of<|p.1 _ _<|bM _ _ hl) (λi x zs G hx hi bD dR pp=>?_) λzs G bD dR pp=>?_
  .obtain⟨p1,rfl⟩:=pp;obtain⟨p,hp,rd⟩:=vV rep hx;obtain⟨b,eb,fE,rfl,hb,_⟩:=xU<|Rep.same (bM.trans p1) rd;refine⟨Agree.set (Agree.refl _) rfl,?_⟩;dsimp only[jN];refine ux ?_;refine(lj _ rfl b _ _ _ ⟨rfl,rfl,SqT.of hb,lg (j:=1) rfl,?_⟩);exact qm (by lia) bD dR ⟨p1.new hD,by rw[mq _ hp,b9];rfl⟩
  obtain⟨p1,rfl⟩:=pp;rw[aw (by lia)]at bD;refine⟨.inl ⟨rfl,_,SqL.of bD⟩,(ph _ rfl D _ ((n:Nat):Int) ⟨rfl,rfl,SqL.of bD,?_⟩)⟩;have dB:=bM.trans p1;have kQ:=dB _ _ hb;rw[show(L.map λp=>((p.2:Nat):Int)).count ((n:Nat):Int)=(L.map (·.2)).count n from ama L n];have pK:Bad bC L n↔((((L.map (·.2)).count n:Nat):Int)<lm.1\/∃m,lm.2=some m/\m<(((L.map (·.2)).count n:Nat):Int)):=apn uW;have vW:Bad bC L n->Q (.int (n:Nat)) G:=λzM=>by refine q _ G dB ?_;rw[sf (by lia) zM aS];exact rfl
  have no:∀y5:Option V,¬Bad bC L n->∃(z3 z4 z5:Option V),[some (V.ref kr),some<|.ref l,some<|.int (n:Nat),some<|.ref b,y5]=[some (.ref kr),some<|.ref l,z3,z4,z5]/\Same H G/\∀j,j<n+1->¬Bad bC L j:=λy5 hn=>⟨_,_,_,rfl,dB,λj hj=>by
   by_cases e:j=n
   .rw[e];exact hn
   .exact aS j<|by lia⟩
  refine(me _ rfl _ rfl b _ _<|pq _ rfl rfl (SqT.of kQ) (lg (j:=1) rfl) _ _ ⟨rfl,rfl,_,rfl,?_⟩);refine qz (λh1=>ux ?_) λh1=>?_
  .exact⟨_,rfl,vW<|pK.mpr<|.inl<|of_decide_eq_true h1⟩
  have h1:¬_:=λz=>h1<|decide_eq_true z;obtain⟨le,mo⟩:=lm;refine(lj _ rfl b _ _ _ ⟨rfl,rfl,SqT.of kQ,lg (j:=2) rfl,rfl,_,rfl,?_⟩);obtain _|m:=mo
  .refine iV<|iV<|no _ λz=>?_;rcases pK.mp z with h|⟨m,h,_⟩
   .exact h1 h
   .cases h
  .refine ux ?_;refine(me _ rfl _ rfl b _ _<|pq _ rfl rfl (SqT.of kQ) (lg (j:=2) rfl) _ _ ⟨rfl,rfl,_,rfl,?_⟩);refine qz (λh2=>?_) λh2=>no _ λz=>?_
   .exact⟨_,rfl,vW<|pK.mpr<|.inr ⟨m,rfl,of_decide_eq_true h2⟩⟩
   .rcases pK.mp z with h|⟨m',h,h3⟩
    .exact h1 h
    .cases h;exact h2<|decide_eq_true h3
 .obtain⟨y2,y3,y4,rfl,sg,aS⟩:=hI;refine q _ J sg ?_;rw[si (λj hj=>aS j<|by rw[hB.1];exact hj)];exact rfl
def D4{M:Mat}{ks:Z (Z U×Nat)}{bC:Z (Int×Option Int)}{bG:Z U}{L:Z Pc}{d:U}(i:Nat){ds:Z U}(hn:∀j d,j<i->(lks M ks bC bG L)[j]?=some d->d=.none)(h:(lks M ks bC bG L)[i]?=some d)(e:d=.tuple ds):vP M ks bG bC L=.tuple ds:=apr hn<|by rw[h,e]
def v0{M:Mat}{ks:Z (Z U×Nat)}{bC:Z (Int×Option Int)}{bG:Z U}{L:Z Pc}{i:Nat}{d:U}(hn:∀j d,j<i->(lks M ks bC bG L)[j]?=some d->d=.none)(h:(lks M ks bC bG L)[i]?=some d)(e:d=.none):∀j d,j<i+1->(lks M ks bC bG L)[j]?=some d->d=.none:=λj d' hj hd=>by
 by_cases ej:j=i
 .subst ej;rw[h]at hd;cases hd;exact e
 .exact hn j d' (by lia) hd
def ap_iff{wd:Nat}{E:Z En}{bG:Z U}{j:Nat}:Ap4 wd E bG j↔Tch wd E j/\DK bG (sgn E<|cq wd<|j/2) (sgn E<|oth wd j)=true:=by
 unfold Ap4 Tch sgn;constructor
 .rintro⟨k,s,k',s',a1,a2,a3,a4⟩;exact⟨(l9 k s k' s' ⟨a1,a2,a3⟩),by rw[a1,a2];exact a4⟩
 .rintro⟨⟨k,s,k',s',a1,a2,a3⟩,h⟩;rw[a1,a2]at h;exact(l9 k s k' s' ⟨a1,a2,a3,h⟩)
def awj{G:Hp}{wd:Nat}{E:Z En}{j:Nat}{x:V}(h:Rep G (tqD wd E j) x):∃b u1 u2 u3,x=.ref b/\G b=some (.tup [u1,u2,u3])/\Rep G (cdw wd<|j/2) u1/\Rep G (ut<|oth wd j) u2/\Rep G (prT (sgn E<|cq wd<|j/2)<|sgn E<|oth wd j) u3:=by obtain⟨b,bxs,rfl,hb,v1,r1,rfl,h1,v2,r2,rfl,h2,v3,r3,rfl,h3,h4⟩:=h;cases (show r3=[]from h4);exact(l9 b v1 v2 v3 ⟨rfl,hb,h1,h2,h3⟩)
def scDue:mh ["_law_puzzle","_law_laying","_law_k","_law_placement","_law_counts_here","_law_cell","_law_bare_here","_law_other","_law_pair","_law_wrong"] ZF (lw Ke):={}
theorem ati(B:∀x∈sv,mg x=none)(MC:Fn P w K mg base "_law_lies" 4 ZI as0)(MJ:Fn P w K mg base "_law_counts" 1 ["_law_laying"] ava)(MF:Fn P w K mg base "_law_bare" 1 ZH avx)(Al:Fn P w K mg base "_law_touching" 1 ZT K4)(ME:Fn P w K mg base "_law_count" 1 ZG auy)(F:Fun K "_law_due" "_law_due" Ke f fd):qr P w K mg base CX0 5 f fd ZF FZ:=by
 refine F.ok (k:=4) scDue (λvs H Q E h=>?_) λbQ A outer s H vs Q E hr h=>?_
 .obtain⟨_,_,_,_,_,_,_,rfl,_⟩:=h;rfl
 obtain⟨pz,l,M,ks,bC,bG,L,rfl,hP,hl,hO,iM,_,q⟩:=h;have q:∀(v:V)(H':Hp),Same H H'->Rep H' (vP M ks bG bC L) v->Q v H':=q;have hu:=hr.units;obtain⟨fl,kr,e,Ck,gS,hp,jS,mH,dY,tS,hB,he,nE⟩:=id hP;obtain⟨xs,hlx,rep⟩:=id hl;have hw:=jS.2.w1;have lx:=rep.length;rw[ae]at lx;refine⟨_,(k9 (pfo (pEL<|lq (pv 1) k7) (qb (n:=2) rfl<|ln (pgN 2 scDue.nd)<|ln (pgN 3 scDue.nd) nc)<|lh<|qa (zz<|uy<|pfn MC<|lq (pv 0)<|lq (pv 3) k7) (lh<|ma<|mw<|lq oh<|lq (pv 2) k7) np)
  (k9 (psN 4 scDue.nd<|pfn MJ<|lq (pv 1) k7)
  (k9 (pfo (og<|pCB (u8 rfl) kg<|lq (pv 4) k7) (pgN 5 scDue.nd)<|lh<|qa (m7 F0 (pCB mn cg<|lq (vm (cy (cw (by decide) _) hu) (pv 4) (pv 5) λ_ _=>rfl) k7) k8<|nr _) (lh<|ma<|mw<|lq oh<|lq (pv 5) k7) np)
  (k9 (psN 6 scDue.nd<|pfn MF<|lq (pix mf (pv 0) k8)<|lq (pv 4) k7)
  (k9 (qa (m7 Em (pv 6) sw<|nr _) (lh<|ma<|mw<|lq oh<|lq (pv 6) k7) np)
  (k9 (pfo (og<|pfn Al<|lq (pv 1) k7) (qb (n:=3) rfl<|ln (pgN 5 scDue.nd)<|ln (pgN 7 scDue.nd)<|ln (pgN 8 scDue.nd) nc)<|lh<|qa (m7 (Gg hu) (pv 8) (pix mf (pv 0) k8) rfl) (lh<|ma<|mw<|lq oh<|lq (pv 5)<|lq (pv 7) k7) np)
  (k9 (psN 9 scDue.nd<|pfn ME<|lq (pix mf (pv 0) k8)<|lq (pv 1) k7)
  (k9 (qa (m7 Em (pv 9) sw<|nr _) (lh<|ma<|mw<|lq oh<|lq (pv 9) k7) np)
  (lh<|ma<|mw<|lq oh k7))))))))),?_⟩
 refine(ny _ rfl l ⟨rfl,⟨_,SqL.of hlx⟩,?_⟩);refine zq (xs:=xs) (λi σ' G=>∃(y2 y3:Option V),σ'=[some (.ref pz),some<|.ref l,y2,y3,none,none,none,none,none,none]/\Same H G/\∀j,j<i->¬∃p,L[j]?=some p/\¬Lie M ks p) ?_ (λi σ' G hI=>?_) (λi x pr σ' G hx kZ hI=>?_) λσ' G hI=>?_
 .exact(l0 _ _ ⟨rfl,Same.refl _,λj hj=>absurd hj<|fu _⟩)
 .obtain⟨_,_,_,sg,_⟩:=hI;exact SqL.of<|sg _ _ hlx
 .obtain⟨y2,y3,rfl,sg,aS⟩:=hI;obtain⟨p,AM,rd⟩:=vV rep hx;obtain⟨iL,hn⟩:=hO p<|ai AM;refine(l7 pr _ rfl (SqT.of lr) rfl _ _ rfl _ ⟨_,rfl,rfl,?_⟩);generalize g1:upd G pr _=G2 at *;obtain⟨s2,e2⟩:=al kZ g1;have bM:=sg.trans s2;refine(me _ rfl _ rfl pz x M<|l0 ks p ⟨rfl,(hP.same bM).pz,Rep.same bM rd,iL,hn,λb G3 s3 hb=>⟨_,rfl,?_⟩⟩);have dB:=bM.trans s3;refine qz (λh1=>?_) λh1=>?_
  .have CJ:¬Lie M ks p:=λz=>by rw[hb.mpr z]at h1;cases h1
   refine⟨_,rfl,sZ2,λt ht=>?_⟩;generalize g1:upd G3 t _=G4 at *;obtain⟨s4,e4⟩:=al ht g1;refine q _ G4 (dB.trans s4) ?_;rw[D4 (d:=lk1 M ks L) 0 (λj _ hj=>absurd hj<|fu _) rfl (by unfold lk1;rw[sf (af.mp AM).1 ⟨p,AM,CJ⟩ aS];rfl)];exact(mz t _ rfl e4 _ _ rfl ⟨rfl,by decide +kernel⟩ _ ⟨_,rfl,rfl,rfl⟩)
  .refine(l0 _ _ ⟨rfl,dB,λj hj=>?_⟩);by_cases ej:j=i
   .subst ej;rintro⟨p',nJ,CJ⟩;rw[AM]at nJ;cases nJ;exact CJ<|hb.mp<|by simpa using h1
   .exact aS j<|by lia
 obtain⟨y2,y3,rfl,sg,aS⟩:=hI;have n1:∀j d,j<1->(lks M ks bC bG L)[j]?=some d->d=.none:=v0 (λj _ hj=>absurd hj<|fu _) rfl (by unfold lk1;rw[si λj hj=>aS j<|by lia];rfl);have hL:=ahp<|n1 0 _ (by decide) rfl;clear aS;have tO:=λ(c:Nat×Nat)=>F8 (q:=c) dY.z hO hL;refine(ph _ rfl l ks.length L ⟨rfl,hl.same sg,hO,iM,λD kvs H1 s1 hD hC=>?_⟩);have kP:=Ei hO;have mI:=hC.len;have wM:=Md (kvs:=kvs) λkv eL=>by obtain⟨c,e1,_⟩:=hC.ks kv eL;exact⟨c,e1⟩
 refine(ph _ rfl D kvs ([true]) ⟨rfl,hD,wM.1,wM.2,by lia,λS ls es hS pe up nd re=>?_⟩);generalize g1:upd H1 S _=H2 at *;obtain⟨s2,d2⟩:=al hS g1;obtain⟨is,rfl,pW,hmem⟩:=akk (w:=M.w) (λkv eL=>by obtain⟨c,e1,hc⟩:=hC.ks kv eL;exact⟨c,e1,(tO c hc).2.1⟩) nd pe up
 have hmem:∀i,cq M.w i∈cls L->i∈is:=λi hi=>(hmem i).mpr (by
  obtain⟨t,ys,h1,_⟩:=hC.at' _ hi;exact⟨_,Gk h1,rfl⟩)
 have sA:Same H H2:=(sg.trans s1).trans s2;refine⟨S,rfl,⟨_,SqL.of d2⟩,?_⟩;refine qc (xs:=ls) (λt σ' J=>∃(y5:Option V),σ'=[some (.ref pz),some<|.ref l,y2,y3,some<|.ref D,y5,none,none,none,none]/\Same H2 J/\∀j i',j<t->is[j]?=some i'->¬1<(cls L).count (cq M.w i')) ?_ (λt σ' J ht hI=>?_) (λt x σ' J hx hI=>?_) λσ' J hI=>?_
 .exact⟨_,rfl,Same.refl _,λj _ hj=>absurd hj<|fu _⟩
 .obtain⟨_,_,sj,_⟩:=hI;exact SqL.of<|sj _ _ d2
 .obtain⟨y5,rfl,sj,aS⟩:=hI;obtain⟨i,cb,hi,rfl,lO⟩:=Lf re hx;have lO:=sj _ _ lO;have s2j:=s2.trans sj;have AE:J cb=some (.tup<|(rf (cq M.w i).1 (cq M.w i).2).map kV):=lO;have hic:cq M.w i∈cls L:=by
   obtain⟨kv,eL,ek⟩:=ay.mp<|pe.mem_iff.mp<|gg (f:=cdw M.w)<|ai hi;obtain⟨c,e1,hc⟩:=hC.ks kv eL;rw[e1]at ek;have ek:ut c=ut (cq M.w i):=ek;have:=F7 (a:=c) (b:=cq M.w i);rw[ek,jy _ rfl]at this;rw[<-of_decide_eq_true this.symm];exact hc
  obtain⟨t1,BH,v1,e1,l1,_⟩:=hC.at' _ hic;refine(ni _ rfl _ rfl D _ rfl (by rw[<-v1];exact DGet.t (s2j _ _ hD) AE) t1 ⟨BH,rfl,.inl<|SqL.of<|s2j _ _ e1,?_⟩);rw[l1];refine(l0 _ _ ⟨rfl,rfl,_,rfl,?_⟩);refine qz (λh1=>?_) λh1=>?_
  .have h1:1<(cls L).count (cq M.w i):=by have:=of_decide_eq_true h1;lia
   refine⟨_,rfl,sZ2,λt ht=>?_⟩;generalize g1:upd J t _=J3 at *;obtain⟨s3,e3⟩:=al ht g1;refine q _ J3 (sA.trans<|sj.trans s3) ?_;rw[D4 (d:=lk2 M L) 1 n1 rfl (by unfold lk2;rw[sf (P:=λi=>1<(cls L).count (cq M.w i)) (FP hw (tO _ hic).1) h1 (yj pW (λm hm=>hmem m<|List.count_pos_iff.mp<|by lia) hi λj i' hj dO=>aS j i' hj dO)];rfl)];exact(mz t _ rfl e3 _ _ rfl ⟨rfl,by decide +kernel⟩ _ ⟨_,rfl,qk<|s3 _ _ lO,rfl⟩)
  .refine⟨_,rfl,sj,λj i' hj dO=>?_⟩;by_cases ej:j=t
   .subst ej;rw[hi]at dO;cases dO;exact λz=>h1<|decide_eq_true<|by lia
   .exact aS j i' (by lia) dO
 obtain⟨y5,rfl,sj,aS⟩:=hI;have lL:=re.length;rw[ae]at lL;have n2:=v0 n1 (d:=lk2 M L) rfl (by
  unfold lk2;rw[si (P:=λi=>1<(cls L).count (cq M.w i)) λj _ hj=>?_]
  .rfl
  .obtain⟨t,ht⟩:=dg (hmem j<|List.count_pos_iff.mp<|by lia);exact aS t j (by have:=(af.mp ht).1;lia) ht hj)
 clear aS;have sB:=sA.trans sj;refine(lj _ rfl pz _ _ _ ⟨rfl,rfl,SqT.of<|sB _ _ hp,lg (j:=0) rfl,(lj _ rfl fl D M kvs ⟨cls L,rfl,jS.same sB,(s2.trans sj) _ _ hD,hC.iff,λv J2 sj2 rv=>?_⟩)⟩);refine(ng _ rfl rfl _ ⟨rfl,?_⟩);have sC:=sB.trans sj2;cases hb:qG (λi=>ve (M.g (i/M.w)<|i % M.w)=true/\cq M.w i∉cls L) (M.h*M.w)with
 | some i=>
  rw[hb]at rv;obtain⟨a,axs,rfl,_⟩:=id rv;refine ux ?_;refine⟨_,rfl,sZ2,λt ht=>?_⟩;generalize g1:upd J2 t _=J3 at *;obtain⟨s3,e3⟩:=al ht g1;refine q _ J3 (sC.trans s3) ?_;rw[D4 (d:=lk3 M L) 2 n2 rfl (by unfold lk3;rw[hb];rfl)];exact(mz t _ rfl e3 _ _ rfl ⟨rfl,by decide +kernel⟩ _ ⟨_,rfl,Rep.same s3 rv,rfl⟩)
 | none=>
  rw[hb]at rv;cases (show v=V.non from rv);refine iV ?_;have n3:=v0 n2 (d:=lk3 M L) rfl (by unfold lk3;rw[hb];rfl);refine(lj _ rfl l ks.length M.w L ⟨rfl,hl.same sC,hO,iM,(λc hc=>(tO c hc).2.1),λT ts js J3 s3 hT qS CW yY Fc=>?_⟩);have sD:=sC.trans s3;have lT:=qS.length;rw[ae]at lT;have hA:∀j,Ap4 M.w (ens L 0) bG j->j∈js:=λj hj=>(yY j).mpr (ap_iff.mp hj).1;refine⟨T,rfl,⟨_,SqL.of hT⟩,?_⟩;refine qc (xs:=ts) (λt σ' J4=>∃(y5 y7 y8:Option V),σ'=[some (.ref pz),some<|.ref l,y2,y3,some<|.ref D,y5,some .non,y7,y8,none]/\Same J3 J4/\∀j i',j<t->js[j]?=some i'->¬Ap4 M.w (ens L 0) bG i') ?_ (λt σ' J4 ht hI=>?_) (λt x σ' J4 hx hI=>?_) λσ' J4 hI=>?_
  .exact(m9 _ _ _ ⟨rfl,Same.refl _,λj _ hj=>absurd hj<|fu _⟩)
  .obtain⟨_,_,_,_,s4,_⟩:=hI;exact SqL.of<|s4 _ _ hT
  .obtain⟨y5,y7,y8,rfl,s4,aS⟩:=hI;obtain⟨d,hd,rd⟩:=qS.at hx;rw[bo]at hd;obtain⟨j,hj,rfl⟩:=fw.mp hd;obtain⟨b,u1,u2,u3,rfl,hb4,r1,r2,r3⟩:=awj<|Rep.same s4 rd;have sE:=sD.trans s4;refine(l7 b _ rfl (SqT.of hb4) rfl _ _ rfl _<|nj _ rfl _ _ ⟨rfl,rfl,?_⟩);refine(me _ rfl _ rfl pz _ _<|pq _ rfl rfl (SqT.of<|sE _ _ hp) (lg (j:=2) rfl) (prT _ _) e<|l0 gS bG ⟨r3,rfl,.inr<|sE _ _ he,nE.same sE,by simp[prT,chD,f7,bu],_,rfl,?_⟩);have hTc:=(yY j).mp (ai hj);refine qz (λh1=>?_) λh1=>?_
   .rw[if_neg am]at h1;have hAj:Ap4 M.w (ens L 0) bG j:=ap_iff.mpr ⟨hTc,h1⟩;obtain⟨_,_,_,_,a1,_⟩:=id hTc;have hjh:=FP hw (tO _<|amf a1).1;refine(ny _ rfl _ ⟨rfl,sZ3,λt2 kL=>?_⟩);generalize g1:upd J4 t2 _=J5 at *;obtain⟨s5,e5⟩:=al kL g1;refine q _ J5 (sE.trans s5) ?_;rw[D4 (d:=lk4 M bG L) 3 n3 rfl (by unfold lk4;rw[sf (show j<2*(M.h*M.w) by lia) hAj (yj CW hA hj aS)];rfl)];exact(mz t2 _ rfl e5 _ _ rfl ⟨rfl,by decide +kernel⟩ _<|ng _ rfl (Rep.same s5 r1) _ ⟨_,rfl,Rep.same s5 r2,rfl⟩)
   .rw[if_neg am]at h1;refine(m9 _ _ _ ⟨rfl,s4,λj' i' rX dO=>?_⟩);by_cases ej:j'=t
    .subst ej;rw[hj]at dO;cases dO;exact λz=>h1 (ap_iff.mp z).2
    .exact aS j' i' (by lia) dO
  obtain⟨y5,y7,y8,rfl,s4,aS⟩:=hI;have n4:=v0 n3 (d:=lk4 M bG L) rfl (by
   unfold lk4;rw[si λj _ hj=>?_]
   .rfl
   .obtain⟨t,ht⟩:=dg<|hA j hj;exact aS t j (by have:=(af.mp ht).1;lia) ht hj)
  clear aS;have sE:=sD.trans s4;refine(lj _ rfl pz _ _ _ ⟨rfl,rfl,SqT.of<|sE _ _ hp,lg (j:=1) rfl,(lj _ rfl kr l Ck bC ⟨L,rfl,sE _ _ mH,hB.same sE,hl.same sE,iM,λv J5 s5 rv=>?_⟩)⟩);refine(ng _ rfl rfl _ ⟨rfl,?_⟩);have sF:=sE.trans s5;cases hb:qG (Bad bC L) bC.length with
  | some n=>
   rw[hb]at rv;cases (show v=V.int (n:Nat)from rv);refine ux ?_;refine⟨_,rfl,sZ2,λt ht=>?_⟩;generalize g1:upd J5 t _=J6 at *;obtain⟨s6,e6⟩:=al ht g1;refine q _ J6 (sF.trans s6) ?_;rw[D4 (d:=lk5 bC L) 4 n4 rfl (by unfold lk5;rw[hb];rfl)];exact(mz t _ rfl e6 _ _ rfl ⟨rfl,by decide +kernel⟩ _ ⟨_,rfl,rfl,rfl⟩)
  | none=>
   rw[hb]at rv;cases (show v=V.non from rv);refine iV ?_;refine⟨sZ1,λt ht=>?_⟩;generalize g1:upd J5 t _=J6 at *;obtain⟨s6,e6⟩:=al ht g1;refine q _ J6 (sF.trans s6) ?_;rw[ahh (v0 n4 (d:=lk5 bC L) rfl<|by unfold lk5;rw[hb];rfl)];exact(qi t _ rfl e6 _ _ ⟨rfl,⟨rfl,by decide +kernel⟩,rfl⟩)
theorem amc{H:Hp}:∀{ds:Z U} {xs:Z V},RepAll H ds xs->RepAll H ds.reverse xs.reverse
 | [],xs,h=>by cases (show xs=[]from h);exact rfl
 | d::ds,xs,⟨x,r,e,h1,h2⟩=>by subst e;rw[List.reverse_cons,List.reverse_cons];exact(amc h2).snoc h1
def aub{xs:Z V}{k:Nat}(hk:k<=xs.length):w6 xs none (some (k:Int))=xs.take k:=by unfold w6;rw[HT.sIx_none,HT.sIx_nat,show iA k xs.length=k by lia];rfl
def asg{xs:Z V}(h:0<xs.length):w6 xs none (some<|-1)=xs.take (xs.length-1):=by unfold w6;rw[HT.sIx_none];show(xs.drop 0).take ((-1+(xs.length:Int)).toNat-0)=_;rw[show(-1+(xs.length:Int)).toNat-0=xs.length-1 by lia];rfl
def aps{xs:Z V}{v:V}(h:0<xs.length)(hv:xs[xs.length-1]?=some v):atI xs (-1)=some v:=by
 obtain⟨hl,e⟩:=af.mp hv;have:xs=xs.take (xs.length-1)++[v]:=by
  conv=>lhs;rw[<-List.take_length (l:=xs),show xs.length=xs.length-1+1 by lia,gc,hv]
  rfl
 rw[this];exact anm _ _
def LyO.sub{nk:Nat}{L L':Z Pc}(h:LyO nk L)(s:∀p∈L',p∈L):LyO nk L':=λp hp=>h p<|s p hp
def LyO.app{nk:Nat}{L L':Z Pc}(h:LyO nk L)(h':LyO nk L'):LyO nk (L++L'):=λp hp=>(a8.mp hp).elim (h p) (h' p)
def LyO.one{nk:Nat}{p:Pc}(h:PcO p)(h':p.2<nk):LyO nk [p]:=λq hq=>by rw[ar.mp hq];exact⟨h,h'⟩
def JdS(d:U):Prop:=∃z ds,d=.tuple (.str z::ds)/\d.depth<=50/\(ds=[]\/(∃k:Int,ds=[.int k])\/(∃c,ds=[.tuple c])\/∃c c',ds=[.tuple c,.tuple c'])
def JdS.or{a b:U}(h:a=.none\/JdS a)(h':JdS b):JdS (orD a b):=by
 rcases h with rfl|h
 .exact h'
 .obtain⟨z,ds,rfl,r⟩:=h;exact(l0 z ds ⟨rfl,r⟩)
theorem awt{M:Mat}{ks:Z (Z U×Nat)}{bC:Z (Int×Option Int)}{bG:Z U}{L:Z Pc}:JdS (vP M ks bG bC L):=by
 have o:∀(x:Option Nat)(f:Nat->U),(∀k,JdS<|f k)->sY x f=.none\/JdS (sY x f):=λx f h=>by
  cases x with
  | none=>exact .inl rfl
  | some k=>exact .inr<|h k
 refine JdS.or (o _ _ λk=>?_)<|JdS.or (o _ _ λk=>?_)<|JdS.or (o _ _ λk=>?_)<|JdS.or (o _ _ λk=>?_)<|JdS.or (o _ _ λk=>?_) ?_
 .exact(l0 _ _ ⟨rfl,by simp[f7,bu],.inr<|.inl ⟨_,rfl⟩⟩)
 .exact(l0 _ _ ⟨rfl,by simp[cdx,clD,f7,bu],.inr<|.inr<|.inl ⟨_,rfl⟩⟩)
 .exact(l0 _ _ ⟨rfl,by simp[cdx,clD,f7,bu],.inr<|.inr<|.inl ⟨_,rfl⟩⟩)
 .exact(l0 _ _ ⟨rfl,by simp[cdx,ut,clD,f7,bu],.inr<|.inr<|.inr<|l0 _ _ rfl⟩)
 .exact(l0 _ _ ⟨rfl,by simp[f7,bu],.inr<|.inl ⟨_,rfl⟩⟩)
 .exact(l0 _ _ ⟨rfl,by simp[f7,bu],.inl rfl⟩)
def apa:Sp:=λvs H Q _=>∃(v u:V)(d:U),vs=[v,u]/\JdS d/\Rep H d v/\Rep H d u/\∀H',Same H H'->Q (.bl true) H'
def av3:mh ZS ZS (lw KN):={}
def aqs(B:∀x∈sv,mg x=none)(F:Fun K "_law_told" "_law_told" KN f fd):qr P w K mg base CX0 1 f fd ZS apa:=by
 refine F.ok (k:=0) av3 (λvs H Q E h=>?_) λbQ A outer s H vs Q E hr h=>?_
 .obtain⟨_,_,_,rfl,_⟩:=h;rfl
 obtain⟨v,u,d,rfl,⟨z,ds,rfl,vA,cY⟩,rv,ru,q⟩:=h;have hu:=hr.units;obtain⟨a,xs,rfl,ha,x0,r0,rfl,⟨rfl,_⟩,yL⟩:=id rv;obtain⟨b,ys,rfl,hb,y0,t0,rfl,⟨rfl,_⟩,HL⟩:=id ru;have l1:r0.length=ds.length:=RepAll.length yL;have l2:t0.length=ds.length:=RepAll.length HL;refine⟨_,(k9 (qa (PW.pt<|qJ (zz<|uy<|pCB qt k6<|lq (pv 0)<|lq (xi (v:=.ty "tuple") rfl (B "tuple"<|by decide) bU rfl) k7)<|qJ (m7 DN (pCB mn cg<|lq (pv 0) k7) (pCB mn cg<|lq (pv 1) k7)<|nr _)<|qJ (m7 (La hu) (pv 0) (pv 1)<|nr _)<|wx<|zz<|uy<|pCB qt k6<|lq (pix mf (pv 0) k8)<|lq (xi (v:=.ty "str") rfl (B "str"<|by decide) boot_str rfl) k7) (lh<|ma vS) np)
  (k9 (qa (PW.pt<|vh (m7 uv (pCB mn cg<|lq (pv 1) k7) k8<|nr _)<|uk<|uy<|pCB qt k6<|lq (pix mf (pv 1) k8)<|lq (xi (v:=.ty "int") rfl (B "int"<|by decide) PyProof.Rows.boot_int rfl) k7) (lh<|ma<|Ag (pCB qt k6<|lq (pix mf (pv 0) k8)<|lq (xi (v:=.ty "int") rfl (B "int"<|by decide) PyProof.Rows.boot_int rfl) k7)<|By<|avk<|pCB qt k6<|lq (pix mf (pv 0) k8)<|lq (xi (v:=.ty "bool") rfl (B "bool"<|by decide) boot_bool rfl) k7) np)
  (lh<|ma vS))),?_⟩
 refine(lj _ rfl _ _ _ true ⟨rfl,.tup ha,rfl,true,rfl,?_⟩);refine iV ?_;refine(m8 _ rfl a _ rfl (.inr<|SqT.of ha) _ ⟨rfl,(l0 b _ ⟨rfl,.inr<|SqT.of hb,rfl,_,rfl,?_⟩)⟩);rw[bp,bp,l1,l2,decide_eq_true rfl];refine iV ?_;refine(rh _ rfl _ rfl _ _ ⟨rv,ru,by lia,_,rfl,?_⟩);refine qz (λh=>absurd h<|by rw[if_pos rfl,jy _ rv.lay];decide) λ_=>?_;refine(lj _ rfl a _ _ _ ⟨rfl,rfl,SqT.of ha,lg (j:=0) rfl,(l9 _ _ _ true ⟨rfl,.str _,rfl,true,rfl,?_⟩)⟩);refine iV ?_;refine(ur _ rfl b _ rfl (.inr<|SqT.of hb) rfl _ ⟨rfl,?_⟩);rw[bp,l2];rcases cY with rfl|⟨k,rfl⟩|⟨c,rfl⟩|⟨c,c',rfl⟩
 .refine iV<|iV<|q H<|Same.refl _
 .obtain⟨x1,r1,rfl,h1,h2⟩:=yL;cases (show x1=_ from h1);obtain⟨y1,t1,rfl,g1,g2⟩:=HL;cases (show y1=_ from g1);refine ux ?_;refine(lj _ rfl b _ _ _ ⟨rfl,rfl,SqT.of hb,lg (j:=1) rfl,(l9 _ _ _ true ⟨rfl,.int k,rfl,true,rfl,?_⟩)⟩);refine ux ?_;refine(lj _ rfl a _ _ _ ⟨rfl,rfl,SqT.of ha,lg (j:=1) rfl,(l9 _ _ _ true ⟨rfl,.int k,rfl,true,rfl,?_⟩)⟩);refine ux ?_;exact(lj _ rfl a _ _ _ ⟨rfl,rfl,SqT.of ha,lg (j:=1) rfl,(l9 _ _ _ false ⟨rfl,.int k,rfl,false,rfl,q H<|Same.refl _⟩)⟩)
 .obtain⟨y1,t1,rfl,⟨cb,cxs,rfl,lO,_⟩,g2⟩:=HL;refine ux ?_;refine(lj _ rfl b _ _ _ ⟨rfl,rfl,SqT.of hb,lg (j:=1) rfl,(l9 _ _ _ false ⟨rfl,.tup lO,rfl,false,rfl,?_⟩)⟩);exact iV<|q H<|Same.refl _
 .refine iV<|iV<|q H<|Same.refl _
def au1:Sp:=λvs H Q _=>∃(l pz:aF)(c:Int)(M:Mat) (ks:Z (Z U×Nat)) (L:Z Pc),vs=[.ref l,.ref pz,.int c]/\PzK H pz M ks/\0<ks.length/\LyH H l L/\LyO ks.length L/\L.length<=12/\
 ∀(l':aF)(L':Z Pc)(H':Hp),Same H H'->H l'=none->LyH H' l' L'->LyO ks.length L'->L'.length<=13->Q (.ref l') H'
def scSpo:mh ["_law_laying","_law_puzzle","_law_cell","_law_xs","_law_floor_here","_law_kinds_here","_law_form_here","_law_down","_law_right","_law_more","_law_way","_law_spot","_law_spots","_law_number"] ZE (lw KC):={}
def auq(B:∀x∈sv,mg x=none)(jO:Fn P w K mg base "_law_mixed" 1 Z5 Ab)(F:Fun K "_law_spoilt" "_law_spoilt" KC f fd):qr P w K mg base CX0 2 f fd ZE au1:=by
 refine F.ok (k:=1) scSpo (λvs H Q E h=>?_) λbQ A outer s H vs Q E hr h=>?_
 .obtain⟨_,_,_,_,_,_,rfl,_⟩:=h;rfl
 obtain⟨l,pz,c,M,ks,L,rfl,⟨fl,kr,e,kvs,hp,jS,mH,dY,tS⟩,lB,⟨xs,hl,rep⟩,hO,JC,q⟩:=h;obtain⟨rZ,fX⟩:=id jS;have h1:=fX.h1;have w1:=fX.w1;have lx:=rep.length;rw[ae]at lx;have lk:=dY.1;refine⟨_,(k9 (psN 3 scSpo.nd<|pfn jO<|lq (pv 2)<|lq k8 k7)
  (k9 (aup (i:=4) (j:=5) rfl scSpo.nd rfl rfl (by decide) rfl rfl (lq (pix mf (pv 1) k8)<|lq (pix mf (pv 1) k8) k7) rfl)
  (k9 (psN 6 scSpo.nd<|pix mf (pix mf (pv 5)<|mj oo (pix my (pv 3) k8)<|pCB mn cg<|lq (pv 5) k7) k8)
  (k9 (yq (i:=7) scSpo.nd rfl (Or.inr rfl)<|mj oo (pix my (pv 3) k8)<|pCB mn cg<|lq (pv 4) k7)
  (k9 (yq (i:=8) scSpo.nd rfl (Or.inr rfl)<|mj oo (pix my (pv 3) k8)<|pCB qd cg<|lq (pix mf (pv 4) k8) k7)
  (k9 (psN 9 scSpo.nd<|mw<|lq (pCT ot bU<|lq (pcm ["_law_row","_law_column","_law_sign","_law_down","_law_right"] [none,none,none,some 7,some 8] (vx<|pv 6) (λ_=>(qo (n:=3) rfl<|ln (pgC 0)<|ln (pgC 1)<|ln (pgC 2) nc)) (λ_=>ow) λ_=>(mw<|lq (mj oq (pv 0)<|pv 3)<|lq (mj oq (pv 1)<|pv 4)<|lq (pv 2) k7)) k7)<|lq (mj oo (pix my (pv 3) k8)<|pCB mn cg<|lq (pv 5) k7) k7)
  (k9 (psN 10 scSpo.nd<|mj oo (pix my (pv 3) k8) k8)
  (k9 (psN 11 scSpo.nd<|mj oo (pix my (pv 3) k8)<|mj oq (pCB mn cg<|lq (pv 0) k7) k8)
  (k9 (qa (m7 uv (pv 10) k8<|nr _) (lh<|ma<|mj Af (mj Af (qj ug (pv 0) u9<|qf<|pv 11)<|oz<|lq (pv 9) k7)<|qj ug (pv 0) (qf<|pv 11) u9) np)
  (k9 (qa (PW.pt<|qJ (m7 uv (pv 11) (pCB mn cg<|lq (pv 0) k7)<|nr _)<|wx<|m7 uv (pv 10) k8<|nr _) (lh<|ma<|ai7 rfl rfl (B "list"<|by decide) rfl (B "reversed"<|by decide)<|lq (pv 0) k7) np)
  (k9 (Gf (pix my (pv 0)<|pv 11)<|qb (n:=2) rfl<|ln (pgN 12 scSpo.nd)<|ln (pgN 13 scSpo.nd) nc)
  (k9 (qa (m7 uv (pv 10) k8<|nr _) (lh<|ma<|mj Af (qj ug (pv 0) u9<|qf<|pv 11)<|qj ug (pv 0) (qf<|mj oq (pv 11) k8) u9) np)
  (k9 (qa (m7 uv (pv 10) k8<|nr _) (lh<|ma<|mj Af (pv 0)<|oz<|lq (pix my (pv 0)<|pv 11) k7) np)
  (k9 (qa (m7 uv (pv 10) k8<|nr _) (lh<|psN 12 scSpo.nd<|pCT ot bU<|lq (pcm Z0 [none,none,none] (vx<|pv 12) (λ_=>(qo (n:=3) rfl<|ln (pgC 0)<|ln (pgC 1)<|ln (pgC 2) nc)) (λ_=>ow) λ_=>(mw<|lq (pv 0)<|lq (mj oq (pv 1) k8)<|lq (pv 2) k7)) k7)<|lh<|qa (m7 uv (pv 10) k8<|nr _) (lh<|psN 13 scSpo.nd<|mj oo (mj oq (pv 13) k8)<|pCB mn cg<|lq (pv 5) k7)<|lh<|qa (m7 uv (pv 10) k8<|nr _) (lh<|psN 12 scSpo.nd<|mj aq0 (qj alo (pv 12) u9<|qf<|Aa Aj k8)<|mw<|lq (mw<|lq (pix mf (pix mf (pv 12)<|Aa Aj k8) k8)<|lq (pix mf (pix mf (pv 12)<|Aa Aj k8) k8)<|lq (pix mf (pix mf (pv 6) k8) k8) k7) k7) np)
  (lh<|ma<|mj Af (mj Af (qj ug (pv 0) u9<|qf<|pv 11)<|oz<|lq (mw<|lq (pv 12)<|lq (pv 13) k7) k7)<|qj ug (pv 0) (qf<|mj oq (pv 11) k8) u9))))))))))))))),?_⟩
 refine(nj _ rfl c 5 ⟨rfl,by decide,λX ms G1 ⟨hn5,tP⟩ s1 Dg hX=>?_⟩);have gW:∀i:Nat,i<5->∃n:Int,(ms.map V.int)[i]?=some (.int n)/\0<=n:=λi hi=>⟨ms[i]'(by lia),by rw[bo,ah<|by lia];rfl,(tP _<|gp _).1⟩;obtain⟨n0,e0,_⟩:=gW 0 (by decide);obtain⟨n1,e1,_⟩:=gW 1 (by decide);obtain⟨n2,e2,_⟩:=gW 2 (by decide);obtain⟨n3,e3,_⟩:=gW 3 (by decide);obtain⟨n4,e4,_⟩:=gW 4 (by decide);clear gW;have BV:∀(n:Int)(m:Nat),0<m->∃k:Nat,k<m/\n % ((m:Nat):Int)=(k:Nat):=λn m hm=>⟨(n % ((m:Nat):Int)).toNat,by
  have:=ig n (show(0:Int)<(m:Nat) by lia);have:=gj n (show((m:Nat):Int)≠0 by lia);lia,by
  have:=gj n (show((m:Nat):Int)≠0 by lia);lia⟩
 obtain⟨m,hm,em⟩:=BV n1 kvs.length (by lia);obtain⟨dn,hdn,Dz⟩:=BV n2 M.h h1;obtain⟨rt,hrt,Du⟩:=BV n3 M.w w1;obtain⟨sp,gZ,sT⟩:=BV n4 (xs.length+1) (by lia);have ex1:(((xs.length:Nat):Int)+1)=((xs.length+1:Nat):Int):=by lia
 obtain⟨kv,eL⟩:∃kv,kvs[m]?=some kv:=⟨_,ah hm⟩;obtain⟨k,hk⟩:∃k,ks[m]?=some k:=⟨_,ah<|by lia⟩;obtain⟨b,nm,u1,u2,md,fr,Fz,rfl,hb,mJ,gF,hz,hmd⟩:=(dY.2 m kv k eL hk).same s1;have AN:=s1 _ _ hp;have yV:=s1 _ _ mH;have C6:=s1 _ _ rZ;have sR:atI ((qy M).map V.str) 0=some (.str ⟨(o7 M 0).toArray⟩):=lg (j:=0)<|wl h1;refine(lj _ rfl pz _ _ _ ⟨rfl,rfl,SqT.of AN,lg (j:=0) rfl,(lj _ rfl pz _ _ _ ⟨rfl,rfl,SqT.of AN,lg (j:=1) rfl,(l0 _ _ ⟨rfl,?_⟩)⟩)⟩);refine(me _ rfl _ rfl X _ _ ⟨_,rfl,rfl,SqL.of hX,lg (j:=1) e1,(m8 _ rfl kr _ rfl (.inr<|SqT.of yV) _ ⟨_,rfl,rfl,(by show(0:Int)<(kvs.length:Nat);lia),(l9 kr _ _ (.ref b) ⟨rfl,rfl,SqT.of yV,(by rw[em];exact lg eL),(l9 b _ _ _ ⟨rfl,rfl,SqT.of hb,lg (j:=4) rfl,?_⟩)⟩)⟩)⟩);refine(lj _ rfl X _ _ _ ⟨rfl,rfl,SqL.of hX,lg (j:=2) e2,(m8 _ rfl fl _ rfl (.inr<|SqT.of C6) _ ⟨_,rfl,rfl,(by show(0:Int)<(((qy M).map V.str).length:Nat);rw[ae,ql];lia),?_⟩)⟩);refine(lj _ rfl X _ _ _ ⟨rfl,rfl,SqL.of hX,lg (j:=3) e3,(lj _ rfl fl _ _ _ ⟨rfl,rfl,SqT.of C6,sR,(ng _ rfl (by rw[oe];exact DU fX) _ ⟨_,rfl,rfl,(by rw[oe];show(0:Int)<(M.w:Nat);lia),?_⟩)⟩)⟩);have Dz:n2 % ((((qy M).map V.str).length:Nat):Int)=(dn:Nat):=by rw[ae,ql];exact Dz
 have Du:n3 % (((⟨(o7 M 0).toArray⟩:Str).length:Nat):Int)=(rt:Nat):=by rw[oe];exact Du
 have sT:n4 % (((xs.length:Nat):Int)+1)=(sp:Nat):=by rw[ex1];exact sT
 have lF:=gF.length;have h6:=hz.pre.six;obtain⟨ss,Cy,mU⟩:=K3<|SgN.shs (dn:=dn) (rt:=rt)<|tE hz;have Hu:=congrArg List.length Cy;rw[ae,ae]at Hu;have hMo:PcO (ss,m):=⟨mU,by show 0<ss.length;rw[<-Hu];exact hz.pre.pos,by show ss.length<=6;rw[<-Hu];exact h6⟩;have Jt:m<ks.length:=by lia
 dsimp only[uf];refine GH (λσ' G'=>∃t2:aF,σ'=[some (.ref l),some<|.ref pz,some<|.int c,some<|.ref X,some<|.ref fl,some<|.ref kr,some<|.ref fr,some<|.int<|n2 % ((((qy M).map V.str).length:Nat):Int),some<|.int<|n3 % (((⟨(o7 M 0).toArray⟩:Str).length:Nat):Int),some<|.ref t2,none,none,none,none]/\Same G1 G'/\Rep G' (pcD (ss,m)) (.ref t2)) ?_ λDh jR gU=>?_
 case' refine_2=>
  refine(ny _ rfl fr ⟨rfl,⟨_,SqT.of mJ⟩,λD hD=>?_⟩);refine ze (xs:=Fz) (λi zs G=>Same G1 G/\RepAll G ((k.1.take i).map (sh1 (dn:Nat) (rt:Nat))) zs) ⟨Same.fresh _ hD,rfl⟩ (λi zs G p=>SqT.of<|p.1 _ _ mJ) (λi x zs G hx hi bD dR pp=>?_) λzs G bD dR pp=>?_
  .obtain⟨p1,p2⟩:=pp;obtain⟨d,hd,rd⟩:=gF.at hx;obtain⟨r0,c0,k0,rfl,iY⟩:=tE hz d<|ai hd;obtain⟨b',rfl,cU,hok⟩:=rn<|Rep.same p1 rd;refine(l7 b' _ rfl (SqT.of cU) rfl _ _ rfl _<|nj _ rfl _ _ ⟨rfl,rfl,?_⟩);refine⟨Agree.set (Agree.set (Agree.set (Agree.refl _) rfl) rfl) rfl,?_⟩;dsimp only[jN];refine ux ?_;refine(ni _ rfl _ rfl _ _ rfl rfl _ ⟨rfl,(m8 _ rfl _ _ rfl rfl _ ⟨rfl,sZ3,λt ht=>?_⟩)⟩);generalize g1:upd G t _=G2 at *;obtain⟨s2,c2⟩:=al ht g1;have c2:G2 t=some (.tup [.int ((r0:Nat)+n2 % ((((qy M).map V.str).length:Nat):Int)),.int<|(c0:Nat)+n3 % (((⟨(o7 M 0).toArray⟩:Str).length:Nat):Int),.str ⟨#[k0]⟩]):=c2;rw[Dz,Du]at c2;have eG:=s2 _ _ bD;refine qm (by lia) eG dR ⟨(p1.trans s2).new hD,?_⟩;have im:=Spots.imm<|SgN.spots<|SgN.shs (dn:=dn) (rt:=rt) (ds:=k.1.take<|i+1) λd hd=>tE hz d<|ca hd;rw[mq (sh1 (dn:Nat) (rt:Nat)) hd]at im⊢;exact((p2.same s2).snoc (show Rep G2 (sh1 (dn:Nat) (rt:Nat)<|.tuple [.int (r0:Nat),.int (c0:Nat),.str ⟨#[k0]⟩]) (.ref t)from (mz t _ rfl c2 _ _ rfl rfl _<|ng _ rfl rfl _ ⟨_,rfl,⟨rfl,hok⟩,rfl⟩))).tk (Tk.lst eG) im
  obtain⟨p1,p2⟩:=pp;rw[aw (by lia),Cy]at p2;refine(l0 D zs ⟨rfl,.inl ⟨SqL.of bD,λt1 pY=>?_⟩⟩);generalize g1:upd G t1 _=G2 at *;obtain⟨s2,c2⟩:=al pY g1;have gT:=p1.trans s2;refine(lj _ rfl X _ _ _ ⟨rfl,rfl,SqL.of<|gT _ _ hX,lg (j:=1) e1,(m8 _ rfl kr _ rfl (.inr<|SqT.of<|gT _ _ yV) _ ⟨_,rfl,rfl,(by show(0:Int)<(kvs.length:Nat);lia),sZ2,λt2 kL=>?_⟩)⟩);generalize g1:upd G2 t2 _=G3 at *;obtain⟨s3,c3⟩:=al kL g1;have c3:G3 t2=some (.tup [.ref t1,.int<|n1 % ((kvs.length:Nat):Int)]):=c3;rw[em]at c3;have kA:Same G1 G3:=gT.trans s3;have rM:Rep G3 (pcD (ss,m)) (.ref t2):=(mz t2 _ rfl c3 _ _ rfl (l0 t1 zs ⟨rfl,s3 _ _ c2,p2.same<|s2.trans s3⟩) _ ⟨_,rfl,rfl,rfl⟩);exact jR _ _ ⟨t2,rfl,kA,rM⟩
 rintro σ' G3 ⟨t2,rfl,kA,rM⟩;have oV:=s1.trans kA;have zF:=kA _ _ hX;have lA:=oV _ _ hl;have dM:=rep.same oV;have IJ:=oV _ _ mH;have IV:=kA _ _ mJ;have B4:=gF.same kA;refine(lj _ rfl X _ _ _ ⟨rfl,rfl,SqL.of zF,lg (j:=0) e0,(l0 _ _ ⟨rfl,rfl,(by show(0:Int)<8;decide),?_⟩)⟩);refine(lj _ rfl X _ _ _ ⟨rfl,rfl,SqL.of zF,lg (j:=4) e4,(m8 _ rfl l _ rfl (.inl<|SqL.of lA) _<|ng _ rfl rfl _ ⟨_,rfl,rfl,(by show(0:Int)<((xs.length:Nat):Int)+1;lia),?_⟩)⟩);have Cz:sp<=xs.length:=by lia
 have zS:∀{i:Int},i=(sp:Nat)->w6 xs none (some i)=xs.take sp:=λe=>by rw[e];exact aub Cz
 have JQ:∀{i:Int},i=(sp:Nat)->w6 xs (some i) none=xs.drop sp:=λe=>by rw[e];exact LY Cz
 dsimp only[uf];refine tf λDh gH gU=>?_;have qh:∀(l':aF)(L':Z Pc)(H':Hp),Same H H'->H l'=none->LyH H' l' L'->LyO ks.length L'->L'.length<=13->Dh.rt (.ref l') H':=by rw[gU];exact q
 refine(ng _ rfl rfl _ ⟨rfl,?_⟩);refine qz (λ_=>?_) λ_=>?_
 .refine⟨_,rfl,yn<|rh _ rfl _ rfl l xs ⟨rfl,SqL.of lA,λS1 zG=>?_⟩⟩;generalize g1:upd G3 S1 _=G4 at *;obtain⟨s4,c4⟩:=al zG g1;rw[zS sT]at c4;refine⟨_,rfl,sZ1,λS2 pG=>?_⟩;generalize g1:upd G4 S2 _=G5 at *;obtain⟨s5,c5⟩:=al pG g1;refine(l9 S1 S2 _ _ ⟨rfl,rfl,s5 _ _ c4,c5,fh<|mr<|by rw[bf];simp;lia,λS3 xB=>?_⟩);generalize g1:upd G5 S3 _=G6 at *;obtain⟨s6,c6⟩:=al xB g1;have AA:=(s4.trans s5).trans s6;refine(qg _ rfl _ rfl _ ⟨rfl,yn<|l0 l xs ⟨rfl,SqL.of<|AA _ _ lA,λS4 A6=>?_⟩⟩);generalize g1:upd G6 S4 _=G7 at *;obtain⟨s7,c7⟩:=al A6 g1;rw[JQ sT]at c7;refine(l9 S3 S4 _ _ ⟨rfl,rfl,s7 _ _ c6,c7,fh<|mr<|by rw[au,bf,fg];simp;lia,λS5 Fp=>?_⟩);generalize g1:upd G7 S5 _=G8 at *;obtain⟨s8,c8⟩:=al Fp g1;have s48:=(AA.trans s7).trans s8;refine qh S5 (L.take sp++[(ss,m)]++L.drop sp) G8 (oV.trans s48) ((oV.trans<|AA.trans s7).free Fp) ⟨_,c8,?_⟩ ?_ ?_
  .rw[b9,b9,List.map_take,List.map_drop];exact(((RepAll.take sp dM).snoc rM).append (RepAll.drop sp dM)).same s48
  .exact((hO.sub λp hp=>ca hp).app (LyO.one hMo Jt)).app (hO.sub λp hp=>gr hp)
  .rw[au,au,bf,fg,cc];lia
 refine gH _ _ ?_;clear gH gU qh Dh;refine tf λDh gH gU=>?_;have qh:∀(l':aF)(L':Z Pc)(H':Hp),Same H H'->H l'=none->LyH H' l' L'->LyO ks.length L'->L'.length<=13->Dh.rt (.ref l') H':=by rw[gU];exact q
 have rev:∀S,G3 S=none->Dh.rt (.ref S) (upd G3 S<|.lst xs.reverse):=λS hS=>by generalize g1:upd G3 S _=G4 at *;obtain⟨s4,c4⟩:=al hS g1;refine qh S L.reverse G4 (oV.trans s4) (oV.free hS) ⟨_,c4,?_⟩ (hO.sub λp hp=>List.mem_reverse.mp hp) (by rw[List.length_reverse];lia);rw[List.map_reverse];exact(amc dM).same s4
 refine(rh _ rfl _ rfl l _ ⟨rfl,.inl<|SqL.of lA,rfl,_,rfl,?_⟩);refine qz (λ_=>ux<|nj _ rfl l xs ⟨rfl,lA,rev⟩) λfI=>?_;refine(ng _ rfl rfl _ ⟨rfl,?_⟩);refine qz (λ_=>(nj _ rfl l xs ⟨rfl,lA,rev⟩)) λ_=>?_;have bS:sp<xs.length:=by have:sp≠xs.length:=λz=>fI (decide_eq_true<|congrArg V.int<|sT.trans<|by rw[z]);lia
 refine gH _ _ ?_;clear fI rev gH gU qh Dh;obtain⟨x,hx⟩:∃x,xs[sp]?=some x:=⟨_,ah bS⟩;obtain⟨p,AM,rd⟩:=vV dM hx;obtain⟨iL,Fs⟩:=hO p<|ai AM;obtain⟨pb,eb,fE,rfl,Ig,iJ,bR⟩:=xU rd;have lE:=bR.length;rw[ae]at lE;have hP6:=iL.2.2;have hP1:=iL.2.1;have DB:∀{i:Int},i=((sp+1:Nat):Int)->w6 xs (some i) none=xs.drop (sp+1):=λe=>by rw[e];exact LY<|by lia
 refine(me _ rfl _ rfl l _ _<|pq _ rfl rfl (SqL.of lA) (by rw[sT];exact lg hx) pb _ ⟨rfl,SqT.of Ig,rfl,(l0 _ _ ⟨rfl,(l0 _ _ ⟨rfl,rfl,?_⟩)⟩)⟩);dsimp only[uf];refine tf λDh gH gU=>?_;have qh:∀(l':aF)(L':Z Pc)(H':Hp),Same H H'->H l'=none->LyH H' l' L'->LyO ks.length L'->L'.length<=13->Dh.rt (.ref l') H':=by rw[gU];exact q
 refine(ng _ rfl rfl _ ⟨rfl,?_⟩);refine qz (λ_=>?_) λ_=>?_
 .refine⟨_,rfl,yn<|rh _ rfl _ rfl l xs ⟨rfl,SqL.of lA,λS1 zG=>?_⟩⟩;generalize g1:upd G3 S1 _=G4 at *;obtain⟨s4,c4⟩:=al zG g1;rw[zS sT]at c4;refine(ni _ rfl _ rfl _ _ rfl rfl _ ⟨rfl,yn<|l0 l xs ⟨rfl,SqL.of<|s4 _ _ lA,λS2 pG=>?_⟩⟩);generalize g1:upd G4 S2 _=G5 at *;obtain⟨s5,c5⟩:=al pG g1;rw[DB (by rw[sT];rfl)]at c5;refine(l9 S1 S2 _ _ ⟨rfl,rfl,s5 _ _ c4,c5,fh<|mr<|by rw[bf,fg];lia,λS3 xB=>?_⟩);generalize g1:upd G5 S3 _=G6 at *;obtain⟨s6,c6⟩:=al xB g1;have AA:=(s4.trans s5).trans s6;refine qh S3 (L.take sp++L.drop (sp+1)) G6 (oV.trans AA) ((oV.trans<|s4.trans s5).free xB) ⟨_,c6,?_⟩ ?_ ?_
  .rw[b9,List.map_take,List.map_drop];exact((RepAll.take sp dM).append (RepAll.drop (sp+1) dM)).same AA
  .exact(hO.sub λp hp=>ca hp).app (hO.sub λp hp=>gr hp)
  .rw[au,bf,fg];lia
 refine gH _ _ ?_;clear gH gU qh Dh;refine tf λDh gH gU=>?_;have qh:∀(l':aF)(L':Z Pc)(H':Hp),Same H H'->H l'=none->LyH H' l' L'->LyO ks.length L'->L'.length<=13->Dh.rt (.ref l') H':=by rw[gU];exact q
 refine(ng _ rfl rfl _ ⟨rfl,?_⟩);refine qz (λ_=>?_) λ_=>?_
 .refine(oj _ rfl _ rfl _ rfl l _<|l0 _ _ ⟨rfl,rfl,SqL.of lA,(by rw[sT];exact lg hx),sZ1,λS1 zG=>?_⟩);generalize g1:upd G3 S1 _=G4 at *;obtain⟨s4,c4⟩:=al zG g1;refine(l9 l S1 _ _ ⟨rfl,rfl,s4 _ _ lA,c4,fh<|mr<|by simp;lia,λS2 pG=>?_⟩);generalize g1:upd G4 S2 _=G5 at *;obtain⟨s5,c5⟩:=al pG g1;refine qh S2 (L++[p]) G5 (oV.trans<|s4.trans s5) ((oV.trans s4).free pG) ⟨_,c5,?_⟩ (hO.app<|LyO.one iL Fs) (by rw[au,cc];lia);rw[b9];exact(dM.snoc rd).same (s4.trans s5)
 refine gH _ _ ?_;clear gH gU qh Dh;refine GH (λσ' G'=>∃(sb:aF)(EL:Z V)(s2:Z Sg)(nq:Nat),σ'=[some (.ref l),some<|.ref pz,some<|.int c,some<|.ref X,some<|.ref fl,some<|.ref kr,some<|.ref fr,some<|.int<|n2 % ((((qy M).map V.str).length:Nat):Int),some<|.int<|n3 % (((⟨(o7 M 0).toArray⟩:Str).length:Nat):Int),some<|.ref t2,some<|.int<|n0 % 8,some<|.int<|n4 % (((xs.length:Nat):Int)+1),some<|.ref sb,some<|.int (nq:Nat)]/\Same G3 G'/\G' sb=some (.tup EL)/\RepAll G' (s2.map sgD) EL/\PcO (s2,nq)/\nq<ks.length) ?_ λDh jR gU=>?_
 case' refine_2=>
  refine(ng _ rfl rfl _ ⟨rfl,?_⟩);refine qz (λ_=>?_) λ_=>?_
  .refine(ny _ rfl eb ⟨rfl,⟨_,SqT.of iJ⟩,λD hD=>?_⟩);refine ze (xs:=fE) (λi zs G=>Same G3 G/\RepAll G ((p.1.take i).map λs=>sgD (s.1,s.2.1+1,s.2.2)) zs) ⟨Same.fresh _ hD,rfl⟩ (λi zs G p=>SqT.of<|p.1 _ _ iJ) (λi x zs G hx hi bD dR pp=>?_) λzs G bD dR pp=>?_
   .obtain⟨p1,p2⟩:=pp;obtain⟨sg,b',hs,rfl,cU⟩:=Br bR hx;have hL:=iL.1 sg<|ai hs;refine(l7 b' _ rfl (SqT.of<|p1 _ _ cU) rfl _ _ rfl _<|nj _ rfl _ _ ⟨rfl,rfl,?_⟩);refine⟨Agree.set (Agree.set (Agree.set (Agree.refl _) rfl) rfl) rfl,?_⟩;dsimp only[jN];refine ux ?_;refine(ni _ rfl _ rfl _ _ rfl rfl _ ⟨rfl,sZ3,λt ht=>?_⟩);generalize g1:upd G t _=G4 at *;obtain⟨s4,c4⟩:=al ht g1;have pJ:=s4 _ _ bD;refine qm (by lia) pJ dR ⟨(p1.trans s4).new hD,?_⟩;have im:qe ((p.1.take<|i+1).map λs=>sgD (s.1,s.2.1+1,s.2.2))=true:=sr λd hd=>by
     obtain⟨s,_,rfl⟩:=ay.mp hd;rfl
    rw[mq (λs:Sg=>sgD (s.1,s.2.1+1,s.2.2)) hs]at im⊢;exact((p2.same s4).snoc (show Rep G4 (sgD (sg.1,sg.2.1+1,sg.2.2)) (.ref t)from (mz t _ rfl c4 _ _ rfl rfl _<|ng _ rfl rfl _ ⟨_,rfl,⟨rfl,ok1 (show sg.2.2<128 by have:=hL.2;lia)⟩,rfl⟩))).tk (Tk.lst pJ) im
   .obtain⟨p1,p2⟩:=pp;rw[aw (by lia)]at p2;refine(l0 D zs ⟨rfl,.inl ⟨SqL.of bD,λt ht=>?_⟩⟩);generalize g1:upd G t _=G4 at *;obtain⟨s4,c4⟩:=al ht g1;refine jR _ _<|l9 t zs (p.1.map λs=>(s.1,s.2.1+1,s.2.2)) p.2 ⟨rfl,p1.trans s4,c4,by rw[b7];exact p2.same s4,⟨λs hs=>?_,?_,?_⟩,Fs⟩
    .obtain⟨s',eS,rfl⟩:=ay.mp hs;exact iL.1 s' eS
    .show 0<(p.1.map _).length;rw[ae];exact hP1
    .show(p.1.map _).length<=6;rw[ae];exact hP6
  refine(ng _ rfl rfl _ ⟨rfl,?_⟩);refine qz (λ_=>?_) λ_=>?_
  .obtain⟨m',uU,em'⟩:=BV ((p.2:Nat)+1) kvs.length (by lia);refine(m8 _ rfl _ _ rfl rfl _ ⟨rfl,(qi kr _ rfl (.inr<|SqT.of IJ) _ _ ⟨rfl,rfl,(by show(0:Int)<(kvs.length:Nat);lia),?_⟩)⟩);exact jR _ _<|l9 eb fE p.1 m' ⟨by rw[<-em'];rfl,Same.refl _,iJ,bR,iL,by lia⟩
  refine(ng _ rfl rfl _ ⟨rfl,?_⟩);refine qz (λ_=>?_) λ_=>jR _ _<|l9 eb fE p.1 p.2 ⟨rfl,Same.refl _,iJ,bR,iL,Fs⟩;have iI:0<fE.length:=by lia
  obtain⟨x0,HE⟩:∃x,fE[fE.length-1]?=some x:=⟨_,ah<|by lia⟩;obtain⟨s0,b0,E6,rfl,qC⟩:=Br bR HE;obtain⟨y0,EX⟩:∃y,Fz[0]?=some y:=⟨_,ah<|by have:=hz.pre.pos;lia⟩;obtain⟨d0,hd0,Hf⟩:=B4.at EX;obtain⟨r1,c1,k1,rfl,IN,IM⟩:=tE hz d0<|ai hd0;obtain⟨b1,rfl,vD,Io⟩:=rn Hf;refine⟨_,rfl,yn<|rh _ rfl _ rfl eb fE ⟨rfl,iJ,λt3 G4 s4 c4=>?_⟩⟩;have c4:G4 t3=some (.tup<|w6 fE none<|some<|-1):=c4;rw[asg iI]at c4;refine(me _ rfl _ rfl eb _ _<|pq _ rfl rfl (SqT.of<|s4 _ _ iJ) (aps iI HE) b0 _<|l0 _ _ ⟨rfl,rfl,SqT.of<|s4 _ _ qC,lg (j:=0) rfl,?_⟩);refine(me _ rfl _ rfl eb _ _<|pq _ rfl rfl (SqT.of<|s4 _ _ iJ) (aps iI HE) b0 _<|l0 _ _ ⟨rfl,rfl,SqT.of<|s4 _ _ qC,lg (j:=1) rfl,?_⟩);refine(lj _ rfl fr _ _ _ ⟨rfl,rfl,SqT.of<|s4 _ _ IV,lg (j:=0) EX,(l9 b1 _ _ _ ⟨rfl,rfl,SqT.of<|s4 _ _ vD,lg (j:=2) rfl,sZ3,λt5 pX=>?_⟩)⟩);generalize g1:upd G4 t5 _=G5 at *;obtain⟨s5,c5⟩:=al pX g1;refine⟨sZ1,λt6 Cs=>?_⟩;generalize g1:upd G5 t6 _=G6 at *;obtain⟨s6,c6⟩:=al Cs g1;refine(l9 t3 t6 _ _ ⟨rfl,rfl,s6 _ _<|s5 _ _ c4,c6,fh<|mr<|by rw[bf];simp;lia,λt7 G7 s7 c7=>?_⟩);have s37:=((s4.trans s5).trans s6).trans s7;refine jR _ _<|l9 t7 _ (p.1.take (fE.length-1)++[(s0.1,s0.2.1,k1)]) p.2 ⟨rfl,s37,c7,?_,⟨λs hs=>?_,?_,?_⟩,Fs⟩
  .rw[b9,List.map_take];refine((RepAll.take _ bR).same s37).snoc ?_;exact(mz t5 _ rfl (s7 _ _<|s6 _ _ c5) _ _ rfl rfl _<|ng _ rfl rfl _ ⟨_,rfl,⟨rfl,Io⟩,rfl⟩)
  .rcases a8.mp hs with h|h
   .exact iL.1 s<|ca h
   .rw[ar.mp h];exact⟨IN,IM⟩
  .show 0<(p.1.take (fE.length-1)++[(s0.1,s0.2.1,k1)]).length;rw[au,cc];lia
  .show(p.1.take (fE.length-1)++[(s0.1,s0.2.1,k1)]).length<=6;rw[au,cc,bf];lia
 rintro σ' G' ⟨sb,EL,s2,n2',rfl,s4,mF,G0,hP2,wR⟩;refine⟨_,rfl,yn<|rh _ rfl _ rfl l xs ⟨rfl,SqL.of<|s4 _ _ lA,λS1 zG=>?_⟩⟩;generalize g1:upd G' S1 _=G5 at *;obtain⟨s5,c5⟩:=al zG g1;rw[zS sT]at c5;refine(ny _ rfl _ ⟨rfl,sZ2,λS2 pG=>?_⟩);generalize g1:upd G5 S2 _=G6 at *;obtain⟨s6,c6⟩:=al pG g1;refine⟨sZ1,λS3 xB=>?_⟩;generalize g1:upd G6 S3 _=G7 at *;obtain⟨s7,c7⟩:=al xB g1;refine(l9 S1 S3 _ _ ⟨rfl,rfl,s7 _ _<|s6 _ _ c5,c7,fh<|mr<|by rw[bf];simp;lia,λS4 A6=>?_⟩);generalize g1:upd G7 S4 _=G8 at *;obtain⟨s8,c8⟩:=al A6 g1;have GY:=((s5.trans s6).trans s7).trans s8;refine(ni _ rfl _ rfl _ _ rfl rfl _ ⟨rfl,yn<|l0 l xs ⟨rfl,SqL.of<|GY _ _<|s4 _ _ lA,λS5 Fp=>?_⟩⟩);generalize g1:upd G8 S5 _=G9 at *;obtain⟨s9,c9⟩:=al Fp g1;rw[DB (by rw[sT];rfl)]at c9;refine(l9 S4 S5 _ _ ⟨rfl,rfl,s9 _ _ c8,c9,fh<|mr<|by rw[au,bf,fg];simp;lia,λS6 hS6=>?_⟩);generalize g1:upd G9 S6 _=GA at *;obtain⟨sA,cA⟩:=al hS6 g1;have GX:=(GY.trans s9).trans sA;refine q S6 (L.take sp++[(s2,n2')]++L.drop (sp+1)) GA (oV.trans<|s4.trans GX) ((oV.trans<|s4.trans<|GY.trans s9).free hS6) ⟨_,cA,?_⟩ ?_ ?_
 .rw[b9,b9,List.map_take,List.map_drop];have rN:Rep G6 (pcD (s2,n2')) (.ref S2):=(mz S2 _ rfl c6 _ _ rfl (l0 sb EL ⟨rfl,(s5.trans s6) _ _ mF,G0.same<|s5.trans s6⟩) _ ⟨_,rfl,rfl,rfl⟩);exact(((RepAll.take sp dM).same (s4.trans GX)).snoc (Rep.same (((s7.trans s8).trans s9).trans sA) rN)).append ((RepAll.drop (sp+1) dM).same (s4.trans GX))
 .exact((hO.sub λp hp=>ca hp).app (LyO.one hP2 wR)).app (hO.sub λp hp=>gr hp)
 .rw[au,au,bf,fg,cc];lia
def ahv{K:ax}{H H':Hp}{a:aF}{xs:Z V}(h:SqL K H a xs)(s:Same H H'):SqL K H' a xs:=h.imp (λr=>r.imp (s _ _) λ⟨o,e⟩=>⟨o,s _ _ e⟩) id
def Mc(ns:Z Int)(lo hi:Option Int):∃ms:Z Int,w6 (ns.map V.int) lo hi=ms.map V.int/\ms.length=(w6 (ns.map V.int) lo hi).length:=by
 refine⟨?ms,?e,?l⟩
 case e=>
  unfold w6;rw[<-List.map_drop,<-List.map_take]
 case l=>
  unfold w6;rw[<-List.map_drop,<-List.map_take];exact(ae _).symm
def am1(xs:Z V):(w6 xs (some 1)<|some 13).length<=12:=by unfold w6;rw[bf];refine ie (Nat.min_le_left _ _) ?_;unfold HT.sIx;simp only[HT.sIx];split<;>split<;>lia
theorem LyH.upd{G:Hp}{l D:aF}{L:Z Pc}{nk:Nat}{ys zs:Z V}(h:LyH G l L)(hO:LyO nk L)(hD:G D=some (.lst ys))(ne:l≠D):LyH (upd G D<|.lst zs) l L:=by obtain⟨xs,h1,h2⟩:=h;exact⟨xs,by rw[nu ne];exact h1,h2.tk (Tk.lst hD)<|PlD.imm hO.pl⟩
def Lys(G:Hp)(nk:Nat)(D:aF)(zs:Z V):Prop:=∀v∈zs,∃l L,v=V.ref l/\l≠D/\LyH G l L/\LyO nk L/\L.length<=13
def FQ(K:ax):Sp:=λvs H Q _=>∃(a:aF)(ns:Z Int),vs=[.ref a]/\SqL K H a (ns.map V.int)/\ns.length<=63/\∀H',Q (.bl true) H'
def scLaw:mh ["_law_script","_law_puzzle","_law_laid_here","_law_cells","_law_laying","_law_handed"] ZR (lw Bm):={}
def atx(B:∀x∈sv,mg x=none)(EA:Fn P w K mg base "_law_cell_at" 1 ZZ (apd K))(MM:Fn P w K mg base "_law_built" 5 ZJ avd)(Mu:Fn P w K mg base "_law_spoilt" 2 ZE au1)(MH:Fn P w K mg base "judged" 8 Z9 FZ)(MI:Fn P w K mg base "_law_due" 5 ZF FZ)(Et:Fn P w K mg base "_law_told" 1 ZS apa)
  (F:Fun K "law" "law" Bm f fd):qr P w K mg base CX0 9 f fd ZR (FQ K):=by
 refine F.ok (k:=8) scLaw (λvs H Q E h=>?_) λbQ A outer s H vs Q E hr h=>?_
 .obtain⟨a,ns,rfl,_⟩:=h;rfl
 obtain⟨a,ns,rfl,hS,hn63,q⟩:=h;have hu:=hr.units;refine⟨_,(k9 (Gf (pfn MM<|lq (pfn EA<|lq (pv 0)<|lq k8 k7)<|lq (qj ug (pv 0) (qf k8)<|qf k8)<|lq vS k7)<|qb (n:=2) rfl<|ln (zw (i:=1) scLaw.nd rfl<|Or.inr rfl)<|ln (zw (i:=2) scLaw.nd rfl<|Or.inr rfl) nc)
  (k9 (psN 3 scLaw.nd<|qj ug (pv 0) (qf k8)<|qf k8)
  (k9 (qa (m7 uv (pCB mn cg<|lq (pix mf (pv 1) k8) k7) k8<|nr _) (lh<|psN 3 scLaw.nd<|qj ug (pv 0) (qf k8)<|qf k8) np)
  (k9 (pfo (og<|mj Af (oz<|lq (pv 2) k7)<|pcm ["_law_cell","_law_laid_here","_law_puzzle"] [none,some 2,some 1] (og<|pv 3) (λ_=>(pgC 0)) (λ_=>ow) λ_=>(pfn Mu<|lq (pv 1)<|lq (pv 2)<|lq (pv 0) k7)) (pgN 4 scLaw.nd) (k9 (psN 5 scLaw.nd<|pCT wj sU<|lq (pv 4) k7)
  (lh<|qa (PW.pt<|qJ (zz<|uy<|pfn Et<|lq (pfn MH<|lq (pv 1)<|lq (pv 5) k7)<|lq (pfn MI<|lq (pv 1)<|lq (pv 4) k7) k7)<|wx<|m7 (La hu) (pv 5) (pv 4)<|nr _) (lh<|ma vS) np)))
  (lh<|ma vS))))),?_⟩
 refine(ph _ rfl a ns 0 ⟨rfl,hS,by decide,λc=>?_⟩);refine(oj _ rfl _ rfl _ rfl a _ ⟨rfl,hS,λS hS0=>?_⟩);obtain⟨ms,Ff,hml⟩:=Mc ns (some 1)<|some 13;have hms:=am1<|ns.map V.int;rw[<-hml]at hms;rw[Ff];generalize g1:upd H S _=H1 at *;obtain⟨s1,u1⟩:=al hS0 g1;refine(m9 c S ms ⟨rfl,u1,hms,λp pz ly M ks bC bG L G s2 hp Dl hly hO JC lB=>?_⟩);have pG:=ahv hS<|s1.trans s2;refine(l7 p _ rfl (SqT.of hp) rfl _ _ rfl _ ⟨_,rfl,rfl,?_⟩);refine(oj _ rfl _ rfl _ rfl a _ ⟨rfl,pG,λS2 Jr=>?_⟩);obtain⟨ms2,sO,fJ⟩:=Mc ns (some 1)<|some 11;have kQ:=u7 (ns.map V.int) (some 1)<|some 11;rw[sO];generalize g1:upd G S2 _=G2 at *;obtain⟨s3,u3⟩:=al Jr g1;obtain⟨fl,kr,e,kvs,gS,b1,b2,_⟩:=id<|Dl.same s3;dsimp only[uf];refine GH (λσ' G'=>∃(Sc:aF)(cs:Z Int),σ'=[some (.ref a),some<|.ref pz,some<|.ref ly,some<|.ref Sc,none,none]/\Same G2 G'/\G' Sc=some (.lst<|cs.map V.int)/\cs.length<=63) ?_ λDh jR gU=>?_
 case' refine_2=>
  refine(lj _ rfl pz _ _ _ ⟨rfl,rfl,SqT.of b1,lg (j:=0) rfl,(l0 fl _ ⟨rfl,.inr<|SqT.of b2.1,rfl,_,rfl,?_⟩)⟩);refine qz (λ_=>?_) λ_=>?_
  .refine(oj _ rfl _ rfl _ rfl a _ ⟨rfl,ahv pG s3,λS3 xB=>?_⟩);obtain⟨ms3,qA,lA⟩:=Mc ns (some 1)<|some 3;have hb3:=u7 (ns.map V.int) (some 1)<|some 3;rw[qA];generalize g1:upd G2 S3 _=G3 at *;obtain⟨s4,u4⟩:=al xB g1;exact jR _ _<|l0 S3 ms3 ⟨rfl,s4,u4,by rw[lA];rw[ae]at hb3;lia⟩
  .exact jR _ _<|l0 S2 ms2 ⟨rfl,Same.refl _,u3,by rw[fJ];rw[ae]at kQ;lia⟩
 rintro σ' G3 ⟨Sc,cs,rfl,s4,hSc,hc63⟩;have s34:=s3.trans s4;have Js:=Dl.same s34;have IB:=hly.same s34;refine⟨_,rfl,sZ1,λT1 hT1=>?_⟩;generalize g1:upd G3 T1 _=G4 at *;obtain⟨s5,v5⟩:=al hT1 g1;have Di:=s5 _ _ hSc;have Dk:=Js.same s5;have CO:=IB.same s5;refine(ny _ rfl Sc ⟨rfl,⟨_,SqL.of Di⟩,λD hD=>?_⟩);refine o8 (xs:=cs.map V.int) (λi zs J=>Same G4 J/\Lys J ks.length D zs) ⟨Same.fresh _ hD,λv hv=>by cases hv⟩ (λi zs J p=>SqL.of<|p.1 _ _ Di) (λi x zs J hx hi bD dR pp=>?_) λzs J bD dR pp=>?_
 .obtain⟨p1,p2⟩:=pp;rw[ae]at hi;obtain⟨cx,_,rfl⟩:=ay.mp<|ai hx;refine⟨Agree.set (Agree.refl _) rfl,?_⟩;dsimp only[jN];refine ux ?_;refine(oj _ rfl _ rfl _ rfl ly pz<|l9 cx M ks L ⟨rfl,(Dk.same p1).pz,lB,CO.same p1,hO,JC,λl' L' J2 s6 fM Jw A7 iM=>?_⟩);have eG:=s6 _ _ bD;have ne:l'≠D:=λz=>by rw[z,bD]at fM;cases fM
  refine qm (by lia) eG dR ⟨(p1.trans s6).new hD,λv hv=>?_⟩;rcases a8.mp hv with h|h
  .obtain⟨l2,L2,rfl,n2,h2,o2,c2⟩:=p2 v h;exact(l0 l2 L2 ⟨rfl,n2,(h2.same s6).upd o2 eG n2,o2,c2⟩)
  .rw[ar.mp h];exact(l0 l' L' ⟨rfl,ne,Jw.upd A7 eG ne,A7,iM⟩)
 obtain⟨p1,p2⟩:=pp;rw[ae]at dR;refine(l9 T1 D _ _ ⟨rfl,rfl,p1 _ _ v5,bD,fh<|mr<|by simp;lia,λT2 hT2=>?_⟩);generalize g1:upd J T2 _=J2 at *;obtain⟨s6,v6⟩:=al hT2 g1;have Dj:=(Dk.same p1).same s6;have kG:∀v∈[V.ref ly]++zs,∃l L,v=V.ref l/\LyH J2 l L/\LyO ks.length L/\L.length<=13:=λv hv=>by
  rcases a8.mp hv with h|h
  .rw[ar.mp h];exact(l0 ly L ⟨rfl,(CO.same p1).same s6,hO,by lia⟩)
  .obtain⟨l2,L2,rfl,_,h2,o2,c2⟩:=p2 v h;exact(l0 l2 L2 ⟨rfl,h2.same s6,o2,c2⟩)
 refine⟨T2,rfl,⟨_,SqL.of v6⟩,?_⟩;refine qc (xs:=[V.ref ly]++zs) (λi σ' N=>∃(y4 y5:Option V),σ'=[some (.ref a),some<|.ref pz,some<|.ref ly,some<|.ref Sc,y4,y5]/\Same J2 N) ?_ (λi σ' N hi hI=>?_) (λi x σ' N hx hI=>?_) λσ' N hI=>?_
 .exact(l0 _ _ ⟨rfl,Same.refl _⟩)
 .obtain⟨_,_,_,sn⟩:=hI;exact SqL.of<|sn _ _ v6
 .obtain⟨y4,y5,rfl,sn⟩:=hI;obtain⟨l',L',rfl,Jw,A7,iM⟩:=kG x<|ai hx;obtain⟨GN,oX,oW⟩:=Jw.same sn;refine(nj _ rfl l' _ ⟨rfl,.inl<|SqL.of oX,λhd hhd=>?_⟩);generalize g1:upd N hd _=N2 at *;obtain⟨s7,v7⟩:=al hhd g1;have GR:=sn.trans s7;refine(me _ rfl _ rfl pz hd M<|l9 ks bC bG L' ⟨rfl,Dj.same GR,⟨GN,v7,oW.same s7⟩,A7,iM,(λ_ _=>trivial),λv N3 s8 rv=>?_⟩);refine(me _ rfl _ rfl pz l' M<|l9 ks bC bG L' ⟨rfl,(Dj.same GR).same s8,⟨GN,s8 _ _<|s7 _ _ oX,(oW.same s7).same s8⟩,A7,iM,(λ_ _=>trivial),λu N4 s9 ru=>?_⟩);refine(m9 v u _ ⟨rfl,awt,Rep.same s9 rv,ru,λN5 pS=>⟨_,rfl,iV ?_⟩⟩);have BX:=(s8.trans s9).trans pS;have r1:Rep N5 (.list<|L'.map pcD) (.ref hd):=(l0 hd _ ⟨rfl,BX _ _ v7,(oW.same s7).same BX⟩);have r2:Rep N5 (.list<|L'.map pcD) (.ref l'):=(l0 l' _ ⟨rfl,BX _ _<|s7 _ _ oX,(oW.same s7).same BX⟩);refine(rh _ rfl _ rfl _ _ ⟨r1,r2,by have:=PlD.depths A7.pl;simp[f7];lia,_,rfl,?_⟩);refine qz (λh=>absurd h<|by rw[if_pos rfl,jy _ r1.lay];decide) λ_=>?_;exact(l0 _ _ ⟨rfl,GR.trans BX⟩)
 .obtain⟨y4,y5,rfl,sn⟩:=hI;exact q N
end
def ayl{P:Z aA->Prop}(h:∀a b c d e,P [a,b,c,d,e]):∀us:Z aA,us.length=5->P us:=DO (n:=4) λa=>aud (P:=λt=>P (a::t))<|h a
def auv{P:aK}{w:aO}{K:ax}{mg:Str->Option aA}{aD:aF}{u1 v1 u2 v2 u3 v3:uC}{ep:Nat}(h:mg "TURNINGS_BY_MODE" = some (.ref aD))(ld:K.lookup aD=some ⟨.type "dict",none,.dict #[⟨eM w "still",.str "still" u1,.int 1 v1⟩,⟨eM w "turn",.str "turn" u2,.int 4 v2⟩,⟨eM w "flip",.str "flip" u3,.int 8 v3⟩] ep,#[]⟩):KH P w K mg:=by
 refine⟨aD,_,[("still",.int 1 v1),("turn",.int 4 v2),("flip",.int 8 v3)],h,ld,⟨_,ep,⟨rfl,rfl,rfl⟩,rfl,λe he=>?_,?_,(show((["still","turn","flip"]:Z Str).Nodup) by decide)⟩,λm n hm=>?_⟩
 .have iZ:e=⟨eM w "still",.str "still" u1,.int 1 v1⟩\/e=⟨eM w "turn",.str "turn" u2,.int 4 v2⟩\/e=⟨eM w "flip",.str "flip" u3,.int 8 v3⟩:=by simpa using he
  rcases iZ with rfl|rfl|rfl
  .exact⟨"still",eO P w _ u1,rfl⟩
  .exact⟨"turn",eO P w _ u2,rfl⟩
  .exact⟨"flip",eO P w _ u3,rfl⟩
 .exact .cons (eO P w _ u1) rfl<|.cons (eO P w _ u2) rfl<|.cons (eO P w _ u3) rfl .nil
 .rcases hm with ⟨rfl,rfl⟩|⟨rfl,rfl⟩|⟨rfl,rfl⟩
  .exact⟨v1,rfl⟩
  .exact⟨v2,rfl⟩
  .exact⟨v3,rfl⟩
def all_mk{l:PySem.W.OpenLaw}{w:aO}{K:ax}{h:Heap}{mg:Str->Option aA}{fa:aF}(X:K.In h)(G:h.Ns aP mg)(rZ:mg "law" = some (.ref fa))
  (d1:Df K "is_sign" Ks)
  (d2:Df K "is_small" Lk)
  (d3:Df K "turned" sTd)
  (d4:Df K "mirrored" J7)
  (d5:Df K "turned_right" sTr)
  (d6:Df K "forms_of" Ll)
  (d7:Df K "sign_at" sAt)
  (d8:Df K "is_open" K7)
  (d9:Df K "must_be" KS)
  (d10:Df K "wanted" K9)
  (d11:Df K "open_cells" sOc)
  (d12:Df K "floor_spots" Lq)
  (d13:Df K "placements" Ko)
  (d14:Df K "places" Kd)
  (d15:Df K "shifted" Kb)
  (d16:Df K "may_lie" Kn)
  (d17:Df K "may_cover" KE)
  (d18:Df K "is_kept_apart" Kc)
  (d19:Df K "strange_piece" KB)
  (d20:Df K "cell_twice" J1)
  (d21:Df K "covered_cells" Kf)
  (d22:Df K "bare_cell" Kr)
  (d23:Df K "touching_pair" Kt)
  (d24:Df K "covers_by_cell" Ka)
  (d25:Df K "are_apart" JX)
  (d26:Df K "wrong_count" Kl)
  (d27:Df K "judged" Km)
  (d28:Df K "_law_cell_at" KJ)
  (d29:Df K "_law_mixed" J9)
  (d30:Df K "_law_formed" LV)
  (d31:Df K "_law_form" KR)
  (d32:Df K "_law_turned" sLt)
  (d33:Df K "_law_forms" LI)
  (d34:Df K "_law_letters" Kz)
  (d35:Df K "_law_kinds" Lp)
  (d36:Df K "_law_laid" KM)
  (d37:Df K "_law_floor" Lc)
  (d38:Df K "_law_touching" Kg)
  (d39:Df K "_law_apart" Kq)
  (d40:Df K "_law_bounded" J0)
  (d41:Df K "_law_built" Ki)
  (d42:Df K "_law_room" KL)
  (d43:Df K "_law_lies" Kx)
  (d44:Df K "_law_spoilt" KC)
  (d45:Df K "_law_counts" Kk)
  (d46:Df K "_law_bare" Kh)
  (d47:Df K "_law_count" KA)
  (d48:Df K "_law_due" Ke)
  (d49:Df K "_law_told" KN)
  (d50:Df K "law" Bm)
  {aD aL f1 f2 f3 f4 f5:aF} {u1 v1 u2 v2 u3 v3 tC tV:uC} {ep nq:Nat} (yd:dh K aP "TURNINGS_BY_MODE" = some (some<|.ref aD)) (ld:K.lookup aD=some ⟨.type "dict",none,.dict #[⟨eM w "still",.str "still" u1,.int 1 v1⟩,⟨eM w "turn",.str "turn" u2,.int 4 v2⟩,⟨eM w "flip",.str "flip" u3,.int 8 v3⟩] ep,#[]⟩) (yc:dh K aP "CLOSED" = some (some<|.str "#" tC)) (yv:dh K aP "COVERED" = some (some<|.str "." tV)) (yl:dh K aP "LOOKS" = some (some<|.ref aL)) (ll:K.lookup aL=some ⟨.type "tuple",none,.seq #[.ref f1,.ref f2,.ref f3,.ref f4,.ref f5] nq,#[]⟩) (w1:dh K aP "strange_piece" = some (some<|.ref f1)) (w2:dh K aP "cell_twice" = some (some<|.ref f2)) (w3:dh K aP "bare_cell" = some (some<|.ref f3)) (w4:dh K aP "touching_pair" = some (some<|.ref f4)) (w5:dh K aP "wrong_count" = some (some<|.ref f5))
  (z1:dh K aP "len" = some none) (z2:dh K aP "min" = some none) (z3:dh K aP "max" = some none) (z4:dh K aP "sorted" = some none) (z5:dh K aP "tuple" = some none) (z6:dh K aP "list" = some none) (z7:dh K aP "isinstance" = some none) (z8:dh K aP "bool" = some none) (z9:dh K aP "range" = some none) (z10:dh K aP "str" = some none) (z11:dh K aP "int" = some none) (z12:dh K aP "enumerate" = some none) (z13:dh K aP "all" = some none) (z14:dh K aP "set" = some none) (z15:dh K aP "zip" = some none) (z16:dh K aP "reversed" = some none) :
  ∃fd:cG,(∀(s:aB)(v:aA),nS s fd ⟨[v],[]⟩ [("_law_script",v)])/\∀base:Heap,K.In base->base.Ns aP mg->qr l.prog w K mg base CX0 9 fa fd ZR (FQ K):=by
 obtain⟨f,fd,a,F⟩:=d50;cases rZ.symm.trans (ji X G a);have B:∀x∈sv,mg x=none:=by
  intro x hx;simp only[sv,a7,i9,or_false]at hx;rcases hx with rfl|rfl|rfl|rfl|rfl|rfl|rfl|rfl|rfl|rfl|rfl|rfl|rfl|rfl|rfl|rfl
  .exact dv X G z1
  .exact dv X G z2
  .exact dv X G z3
  .exact dv X G z4
  .exact dv X G z5
  .exact dv X G z6
  .exact dv X G z7
  .exact dv X G z8
  .exact dv X G z9
  .exact dv X G z10
  .exact dv X G z11
  .exact dv X G z12
  .exact dv X G z13
  .exact dv X G z14
  .exact dv X G z15
  .exact dv X G z16
 obtain⟨oc,od,kV,jV,pm,an,bQ,ct,uJ,rfl,lk,oM⟩:=id F.ex;refine⟨kz "law" "law" (xj Bm) (wf Bm) (lw Bm) .none kV jV pm an bQ ct,λs v=>.of_eq rfl,λbase _ _=>?_⟩;have dm:KH l.prog w K mg:=auv (ji X G yd) ld;have gC:GS mg "CLOSED" "#":=⟨_,ji X G yc⟩;have gV:GS mg "COVERED" ".":=⟨_,ji X G yv⟩;have hL:∀H,SqT K H aL [.ref f1,.ref f2,.ref f3,.ref f4,.ref f5]:=λH=>.inr ⟨_,_,_,ll,rfl,rfl,sZ5,.cons rfl<|.cons rfl<|.cons rfl<|.cons rfl<|.cons rfl .nil⟩;have Y:L3.DfX l.prog w K mg base h:=⟨rfl,rfl,rfl,X,G⟩;have bg:=d1.fx Y<|aty B;have sm:=d2.fx Y<|anh B;have mi:=d4.fx Y<|av1 B;have tr:=d5.fx Y<|ayg B;have td:=d3.fx Y<|awy B mi tr;have fo:=d6.fx Y<|ant B dm td;have ta:=d7.fx Y<|ayh B gC;have op:=d8.fx Y<|arz gC ta;have wa:=d10.fx Y<|asa ta bg sm;have sp:=d12.fx Y<|an6 B;have mc:=d17.fx Y<|atz op wa;have ml:=d16.fx Y<|ara B mc;have sh:=d15.fx Y<|asz B;have pl:=d14.fx Y<|atf B sp sh ml;have pc:=d13.fx Y<|av5 B fo pl;have ce:=d28.fx Y<|aqo B;have mx:=d29.fx Y<|au3 B;have fd:=d30.fx Y<|ake B;have lt:=d32.fx Y<|aw0 B fd;have lf:=d33.fx Y<|aln B lt;have le:=d34.fx Y<|avm B;have fm:=d31.fx Y<|ar2 B mx fd;have kd:=d35.fx Y<|anp B mx fm;have la:=d36.fx Y<|aqd B mx lf;have fl:=d37.fx Y (aov B mx) λ_ _ _ _ _ _=>ayl λ_ _ _ _ _=>rfl;have ro:=d42.fx Y<|art B;have mu:=d9.fx Y<|asq gV ta bg;have oc:=d11.fx Y<|aya gC sp;have ka:=d18.fx Y<|atc B;have st:=d19.fx Y<|at5 B pc;have cv:=d21.fx Y<|auk;have tw:=d20.fx Y<|att cv oc;have ba:=d22.fx Y<|ath cv oc mu;have cb:=d24.fx Y<|at7 B;have aa:=d25.fx Y<|avt ka;have tp:=d23.fx Y<|atj B cb aa;have wc:=d26.fx Y<|avv B;have ju:=d27.fx Y<|avq (ji X G yl) hL (ji X G w1) (ji X G w2) (ji X G w3) (ji X G w4) (ji X G w5) st tw ba tp wc;have tc:=d38.fx Y<|au5 B;have ap:=d39.fx Y<|at8 B tc;have bn:=d40.fx Y<|as6 B;have bt:=d41.fx Y<|ato B mx le kd la fl bn ap;have li:=d43.fx Y<|aus B ro fd lf;have cn:=d45.fx Y<|auj B;have lb:=d46.fx Y<|aun B;have lc:=d47.fx Y<|atg B;have du:=d48.fx Y<|ati B li cn lb tc lc;have to:=d49.fx Y<|aqs B;have so:=d44.fx Y<|auq B mx;exact atx B ce bt so ju du to F
def walk{l:PySem.W.OpenLaw}{q:aK}{loose:Z Str}{XP:(Str->Option aA)->Heap->Prop}{YP:aO->Heap->Prop}{d:DefRec}{K:Params->ax}(hn:l.most=some 63)(C8:d.params.defaults=[])
  (hY:∀(w:aO)(h:Heap),YP w h->(K w.params).In h)
  (F:∀(w:aO)(mg:Str->Option aA)(fa:aF)(h:Heap),(K w.params).In h->h.Ns aP mg->mg d.name=some (.ref fa)->
   ∃fd:cG,(∀(s:aB)(u:aA),nS s fd ⟨[u],[]⟩ [("_law_script",u)])/\∀base:Heap,(K w.params).In base->base.Ns aP mg->qr l.prog w (K w.params) mg base CX0 9 fa fd ZR (FQ<|K w.params)) :
  PySem.W.WalkO q loose XP YP l.row.toRowW d [] (λf vs=>PySem.call f vs):=
 L2.walk_of (n:=63) (k:=9) (x:="_law_script") (CX:=λ_=>CX0) (sp:=λw=>FQ<|K w.params) hn (by decide) C8 ⟨rfl,by decide,by decide⟩ hY F (λ_ _ a ns hl _ hS=>⟨a,ns,rfl,hS,hl,λ_=>rfl⟩) λ_ _ _ _ _ z=>z
end K16
open PySem PySem.W PyProof.Rows
set_option maxRecDepth 100000 in
set_option maxHeartbeats 0 in
theorem PySem.Challenge.cw_coverpieces_k16_judged_in_order_holds : PySem.Challenge.rw_coverpieces_k16_judged_in_order.Holds := by
 refine K16.hd ⟨K16.left,?_⟩
 k_fill
 refine K16.walk (l:=PySem.Challenge.rw_coverpieces_k16_judged_in_order) rfl rfl (λw h Y=>PySem.W.kIn_of Y) ?F
 case F=>
  intro w mg fa h KX G uT;refine' K16.all_mk KX G uT ?d1 ?d2 ?d3 ?d4 ?d5 ?d6 ?d7 ?d8 ?d9 ?d10 ?d11 ?d12 ?d13 ?d14 ?d15 ?d16 ?d17 ?d18 ?d19 ?d20 ?d21 ?d22 ?d23 ?d24 ?d25 ?d26 ?d27 ?d28 ?d29 ?d30 ?d31 ?d32 ?d33 ?d34 ?d35 ?d36 ?d37 ?d38 ?d39 ?d40 ?d41 ?d42 ?d43 ?d44 ?d45 ?d46 ?d47 ?d48 ?d49 ?d50 ?yd ?ld ?yc ?yv ?yl ?ll ?w1 ?w2 ?w3 ?w4 ?w5 ?z1 ?z2 ?z3 ?z4 ?z5 ?z6 ?z7 ?z8 ?z9 ?z10 ?z11 ?z12 ?z13 ?z14 ?z15 ?z16
  case d1|d2|d3|d4|d5|d6|d7|d8|d9|d10|d11|d12|d13|d14|d15|d16|d17|d18|d19|d20|d21|d22|d23|d24|d25|d26|d27|d28|d29|d30|d31|d32|d33|d34|d35|d36|d37|d38|d39|d40|d41|d42|d43|d44|d45|d46|d47|d48|d49|d50=>refine' L3.df_mk ?a ?l ?c ?k;(case a=>k_is);(case l=>k_is);(case c=>k_is);(case k=>k_is)
  case yd=>k_is
  case ld=>k_is
  case yc=>k_is
  case yv=>k_is
  case yl=>k_is
  case ll=>k_is
  case w1=>k_is
  case w2=>k_is
  case w3=>k_is
  case w4=>k_is
  case w5=>k_is
  case z1|z2|z3|z4|z5|z6|z7|z8|z9|z10|z11|z12|z13|z14|z15|z16=>k_is
