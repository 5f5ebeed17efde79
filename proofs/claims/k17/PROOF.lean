import PyProof.Rows.All
import Wide.All
import OpenK.AllK
import Wide.FinOn
import Lean
import PyProof.EqAt
import PyProof.EqKinds
import PyProof.TupleCall
import PyProof.Rows.SortRuns
import PyProof.CompFree
import KE.KSortTup
import PyProof.P3Eq
import PyProof.P3In
import PyProof.NeData
import PyProof.WalkInts
import PyProof.Rows.MinMaxN
import PyProof.StrWalks
import PyProof.StrBlockH
import PyProof.StrLawsIn
import PyProof.FString5
import PyProof.StrOps2
import PyProof.ListStr
import PyProof.ConsumeWalk
import PyProof.Rows.StrJoin2
import PyProof.EnumMake
import PyProof.EnumFor
import PyProof.LayNew
import PyProof.Rows.EnumRows
import PyProof.StrCalls
import PyProof.Rows.StrCase
import PyProof.Rows.StrAscii2
import PyProof.Rows.StrFit
import PyProof.IsRules
import PyProof.DictWalks
import PyProof.TupleOfStr
import PyProof.CollectWalk
import PyProof.WalkLemmas
import PyProof.Rows.Range3
import PyProof.Cells
import KE.KRevSl
import PySem.SetTable
import PySem.SetOps
import PyProof.SetKind
import PyProof.TupleKey
import PyProof.DictKinds
import PyProof.Rows.SetFrom
import PyProof.Seq
import PyProof.SetRoads
import PyProof.Walk
import PyProof.MinMaxWalk
import PyProof.DictRoads
import PyProof.AutoListH
import PyProof.FactsAll.list_3
import PyProof.NeKinds
import PyProof.StrCalls2
import PyProof.Rows.StrItems
import PyProof.StrLawsTight
import PyProof.StrLawsChain
import KE.KIntText
import PyProof.ZipIter
import PyProof.EnumIter
import PyProof.DictRoadsH
import KE.KDictSum
import PyProof.Rows.SeqMore
import PyProof.Rows.TupAdd
import PyProof.TupleOfSeq
import PySem.Challenge.RW_coverpieces_k17_whole_judged_side_by_sid
set_option compiler.extract_closed false
set_option Elab.async false
set_option linter.all false
set_option maxRecDepth 100000
abbrev Z(α:Type u):=List α
abbrev U:=PySem.PyData
noncomputable abbrev Z9:Z PySem.Str:=["puzzle","laying"]
noncomputable abbrev Z8:Z PySem.Str:=["floor","cell"]
noncomputable abbrev Z7:Z PySem.Str:=["floor"]
noncomputable abbrev Z6:Z PySem.Str:=["found"]
noncomputable abbrev Z5:Z PySem.Str:=["laying"]
noncomputable abbrev Z4:Z PySem.Str:=["_law_script"]
noncomputable abbrev Z3:Z PySem.Str:=["floor","cell","sign"]
noncomputable abbrev Z2:Z PySem.Str:=["_law_row","_law_column","_law_sign"]
noncomputable abbrev Z1:Z PySem.Str:=["form","mode"]
noncomputable abbrev Z0:Z PySem.Str:=["_law_spots"]
noncomputable abbrev ZZ:Z PySem.Str:=["floor","spots"]
noncomputable abbrev ZY:Z PySem.Str:=["spots","down","right"]
noncomputable abbrev ZX:Z PySem.Str:=["apart","sign","other"]
noncomputable abbrev ZW:Z PySem.Str:=["apart","cover","other"]
noncomputable abbrev ZV:Z PySem.Str:=["_law_state","_law_kinds_here","_law_high","_law_wide"]
noncomputable abbrev ZU:Z PySem.Str:=["_law_found"]
noncomputable abbrev ZT:Z PySem.Str:=["TURNINGS_BY_MODE","LOOKS"]
noncomputable abbrev ZS:Z PySem.Str:=["_law_spots","_law_t"]
noncomputable abbrev ZR:Z PySem.Str:=["_law_state","_law_many"]
noncomputable abbrev ZQ:Z PySem.Str:=["_law_state","_law_letters_here","_law_most"]
noncomputable abbrev ZP:Z PySem.Str:=["_law_state","_law_letters_here","_law_many","_law_most","_law_bounded"]
noncomputable abbrev ZO:Z PySem.Str:=["_law_state","_law_letters_here"]
noncomputable abbrev ZN:Z PySem.Str:=["_law_state","_law_kinds_here","_law_letters_here","_law_high","_law_wide"]
noncomputable abbrev ZM:Z PySem.Str:=["_law_state","_law_laying","_law_kinds_here","_law_letters_here","_law_high","_law_wide"]
open PySem renaming Value->aA,Shared->aB,sizeLine->aE,Addr->aF,wpAny->aG,model->aH,Program->aK,mainGlobals->aO,World->aP,NameKind->aS,starEach->aT,compareOp->aU,Stmt->aY,pyNext->bF,cLine->bH,sysModules->bL,bootBuiltins->bO,eval->bT,foldedSetIterable->bY,wpAny_letGo->cC,sizeLine_eq->cD,rawInt->cE,FuncData->cH,wpAny_forIn_list->cK,wpAny_askSetting->cL,wpAny_setEntries_of->cN,binaryOp->cP,wpAny_updateSeq->cQ,wpAny_specialOf->cR,tupleKind_room_in1->cT,Scope->cW,wpAny_pyIter_list->cY,wpAny_fieldsOf->cZ,firstArgMember->dC,codeAny->dD,backTo->dE,IsPair->dF,assignEach->dM,Paired->dN,sliceBounds->dQ,Pos->dU,wpAny_passesOwn->dY,IsEnum->eI,wpAny_typeOf->eO,hashStr->eP,strKind_is->eT,isSubtype_stop->eV,wpAny_pyIter_enum->eX,wpAny_of_eq->eY,ofAClassStatement->fE,getItem->fH,field->fI,wpAny_standAt->fL,behindInMarks->fN,seqItems?->fQ,DictEntry->fV,valueAt->fZ,codeAny_mono->gF,argBest->gG,letOwnedTupleGo->gK,wpAny_updateSeq_pair->gZ,wpAny_tryCatch->hJ,hashByValue->iE,IsZip->iF,IsPart->iG,tupleKind->iH,swapsWith->iI,setNext->iJ,pickOrder->iK,wpAny_onRaise->iY,wpAny_handled->iZ,call_meets->jN,assign->jP,wpAny_dictEntries->kA,newTuple->kE,collect->kL,callerA->kM,updateSeq->kW,pyIter->kX,noFill_tuple_add->kY,newExc->kZ,wpAny_throw->lG,subscripted->lH,keywordEach->lO,wpAny_execs_nil->mI,wpAny_dictEpoch->mJ,holding->mV,Sem->nG,Keyword->nH,BindsTo->nJ,wpAny_newTuple->nK,slotArgs->nN,setsByText->nO,setEntries->nP,raiseNew->nS,closureFor->oH,atKey->oK,Result->oO,CmpOp->oQ,wpAny_newList->pH,wpAny_comprehension_free->pI,setSearchFrom->pK,seq_tuple_add->pL,attributeBase->pW,Env->qA,seqIndex?->qF,putSet_of->qI,bindL->rQ,bindC->rR,wpAny_nextOf_list_item->rX,standAt->rZ,seqIndex_neg->sD,concat_meets->sO,Tok->sV,wpAny_nextOf_list_end->sX,wpAny_isTrue_Compare1->sZ,wpAny_isSame_ref_self->tD,wpAny_isOneOf_keyiter->tE,builtinLookup_eq_fast->uB,setField->uP,seqIndex_of->uQ,rule->uU,numAt_eq->uW,intItems_at->uY,intItems->uZ,codeAny_call_builtin->vR,backToKw->vT,Walks->wF,GenState->wG,wpAny_call->yT,wpAny_Name->yU,typeLookup->yV,stored->yX,reduceHash->zC,builtinsNs->Ad,argsOk->Ag,wpAny_storeSet_of->AL,wpAny_setEpoch_of->AM,wpAny_sequenceKey->AN,wpAny_pyIter_slot->AO,wpAny_assign_Name->AQ,searchCouldBeSeen->AU,eqIsQuiet_byValue->B8,wpAny_pyIter_zip->Dc,wpAny_pyHash_str->Dd,wpAny_pyHash_int->De,wpAny_getItem_of->Dg,wpAny_execs_cons->Di,evalPairs->Ei,drawOrder->Ek,checkBuiltinCall->Er,cellsFrom->Es,PassesOwn->Ff,IsEnumOut->Fg,typeLookup_type->Fo,codeAny_of_tree->HH
open PyProof.Rows renaming Keyed->aI,arrOf->aJ,pendingOf->aM,SortSt->aN,SortKind->aV,failedOf->bN,wpS_modify->cB,seqObj->dA,wpS_get->dO,boot_sorted->fK,reverseSlice'->fM,IntsAre->gH,AllBare->gI,wpS_lift->gY,mirror->hW,wpS->iT,elem'->jF,setArr->jH,envOfC->jK,mirror_perm->lM,minRun'->mT,keyLt'->nV,keyKind'->nW,gallopOf->oG,boot_enumerate->oI,IsTup->oP,subscriptTail->pJ,listUpdate_at->pN,subscriptTail_builtinR->rY,seqEpoch_at->uR,getElem?_mirror_all->yE,entry_tuple_getitem->yG,bubble->Ae,args_tuple_getitem->Af,Subscript_->AI,boot_list->Et,getElem?_bubble->Hs,boot_isinstance->HK
open Pure renaming pure->aR
open PySem.W renaming hashAt->cG
open Min renaming min->hX
open LawfulMonad renaming bind_assoc->jO
open ToString renaming toString->kC
open MonadExcept renaming tryCatch->uL
open ForIn renaming forIn->vN
section
def sZ0:0<=aE:=by decide
def sZ1:1<=aE:=by decide
def sZ2:2<=aE:=by decide
def sZ3:3<=aE:=by decide
def sZ5:5<=aE:=by decide
namespace K17
open PySem PyProof.Rows
noncomputable def vw:aK:=PySem.W.view PySem.Challenge.pw_coverpieces_k17_whole_judged_side_by_sid [1,2,4,5,6,7,8,10,11,12,13,14,15,16,17,19,20,21,22,23,25,27,28,29,30,31,32,33,34,35,36,38,39,40,41,42,43,44,45,46,47,48,49,50,51]
set_option maxHeartbeats 0 in
def said:PySem.W.OpenLaw.wellSaid PySem.Challenge.rw_coverpieces_k17_whole_judged_side_by_sid=true:=by kernel_rfl
end K17
open PySem PySem.W PyProof.Rows
local macro_rules | `(tactic| o_law)=>`(tactic| refine holds_law K17.said λsaid=>?_)
local macro_rules | `(tactic| o_head $H)=>`(tactic| refine(λh hw=>holds_open (q:=K17.vw) (loose:=ZT) (Xt:=(λs=>xlAt K17.vw [] s&&recOk (RowW.records (OpenLaw.row PySem.Challenge.rw_coverpieces_k17_whole_judged_side_by_sid).toRowW) s)) (XP:=XL K17.vw []) (Yf:=Hook.obs $H) (Ya:=Hook.val $H) (YP:=Hook.says $H) (N:=2828) (And.left h) (Hook.of $H) (Hook.keeps $H) (λs e=>xl_of s (Bool.and_eq_true_iff.mp e).1) XL.keeps (by rfl) (by rfl) (by rfl) (λs e=>recFacts_of (Bool.and_eq_true_iff.mp e).2) (by rfl) (by assumption) (by decide +kernel) ⟨rfl,rfl,rfl,rfl,rfl,by decide +kernel⟩ hw (And.right h)) ?hc ?hw)
set_option maxRecDepth 100000 in
set_option maxHeartbeats 0 in
open_top K17.hd for PySem.Challenge.rw_coverpieces_k17_whole_judged_side_by_sid
namespace K17
noncomputable def hk:Hook:=kHook K17.hd.heap_1 [2,3,15,17,18,20,21,22,24,25,27,28,29,30,32,33,35,36,37,40,41,42,45,46,47,50,51,52,54,55,57,58,59,61,62,64,65,66,68,69,71,72,73,75,76,78,79,80,83,84,85,87,88,90,91,92,95,96,97,100,101,102,105,106,107,110,111,112,114,115,117,118,119,121,122,124,125,126,128,129,131,132,133,135,136,138,139,140,143,144,145,147,148,150,151,152,154,155,157,158,159,161,162,164,165,166,168,169,171,172,173,176,177,178,179,181,182,184,185,186,188,189,191,192,193,195,196,198,199,200,203,204,205,208,209,210,213,214,215,218,219,220,222,223,225,226,227,229,230,232,233,234,237,238,239,242,243,244,247,248,249,252,253,254,256,257,259,260,261,264,265] λ_=>by kernel_rfl
def Lo(w:aP):Prop:=(openEnds treeTable PySem.Challenge.pw_coverpieces_k17_whole_judged_side_by_sid w 2828).map (λs=>(openSeen vw ZT (importedModules PySem.Challenge.pw_coverpieces_k17_whole_judged_side_by_sid.main.body) (λs=>xlAt vw [] s&&recOk (RowW.records (OpenLaw.row PySem.Challenge.rw_coverpieces_k17_whole_judged_side_by_sid).toRowW) s) true s,hk.obs s))=some (openGood vw ZT,hk.val w)
set_option maxHeartbeats 0 in
def lf(w:aP):Lo (w.withFollow "special-get-raises" false):=by unfold Lo;kernel_rfl
set_option maxHeartbeats 0 in
def lt(w:aP):Lo (w.withFollow "special-get-raises" true):=by unfold Lo;kernel_rfl
def left:∀w,Lo w:=byRow2 "special-get-raises" lf lt
end K17
end
set_option Elab.async false
set_option linter.all false
set_option maxRecDepth 100000
set_option maxHeartbeats 8000000
def l8{α0:Sort u0}{α1:Sort u1}{t:α0->α1->Prop}(x0:α0)(x1:α1)(h:t x0 x1):∃x0,∃x1,t x0 x1:=⟨x0,x1,h⟩
def oo{α0:Sort u0}{α1:Sort u1}{p0:α0->Prop}{t:α0->α1->Prop}(x0:α0)(h0:p0 x0)(x1:α1)(h:t x0 x1):∃x0,p0 x0/\∃x1,t x0 x1:=⟨x0,h0,x1,h⟩
def mz{α0:Sort u0}{α1:Sort u1}{α2:Sort u2}{t:α0->α1->α2->Prop}(x0:α0)(x1:α1)(x2:α2)(h:t x0 x1 x2):∃x0,∃x1,∃x2,t x0 x1 x2:=⟨x0,x1,x2,h⟩
def np{α0:Sort u0}{α1:Sort u1}{p0:α0->Prop}{p1:α0->Prop}{t:α0->α1->Prop}(x0:α0)(h0:p0 x0)(h1:p1 x0)(x1:α1)(h:t x0 x1):∃x0,p0 x0/\p1 x0/\∃x1,t x0 x1:=⟨x0,h0,h1,x1,h⟩
def nu{α0:Sort u0}{α1:Sort u1}{α2:Sort u2}{p0:α0->Prop}{t:α0->α1->α2->Prop}(x0:α0)(h0:p0 x0)(x1:α1)(x2:α2)(h:t x0 x1 x2):∃x0,p0 x0/\∃x1,∃x2,t x0 x1 x2:=⟨x0,h0,x1,x2,h⟩
def mf{α0:Sort u0}{α1:Sort u1}{α2:Sort u2}{α3:Sort u3}{t:α0->α1->α2->α3->Prop}(x0:α0)(x1:α1)(x2:α2)(x3:α3)(h:t x0 x1 x2 x3):∃x0,∃x1,∃x2,∃x3,t x0 x1 x2 x3:=⟨x0,x1,x2,x3,h⟩
def qi{α0:Sort u0}{α1:Sort u1}{α2:Sort u2}{p0:α0->Prop}{p1:α0->α1->Prop}{t:α0->α1->α2->Prop}(x0:α0)(h0:p0 x0)(x1:α1)(h1:p1 x0 x1)(x2:α2)(h:t x0 x1 x2):∃x0,p0 x0/\∃x1,p1 x0 x1/\∃x2,t x0 x1 x2:=⟨x0,h0,x1,h1,x2,h⟩
def oj{α0:Sort u0}{α1:Sort u1}{α2:Sort u2}{α3:Sort u3}{p0:α0->Prop}{t:α0->α1->α2->α3->Prop}(x0:α0)(h0:p0 x0)(x1:α1)(x2:α2)(x3:α3)(h:t x0 x1 x2 x3):∃x0,p0 x0/\∃x1,∃x2,∃x3,t x0 x1 x2 x3:=⟨x0,h0,x1,x2,x3,h⟩
def lw{α0:Sort u0}{α1:Sort u1}{α2:Sort u2}{α3:Sort u3}{α4:Sort u4}{t:α0->α1->α2->α3->α4->Prop}(x0:α0)(x1:α1)(x2:α2)(x3:α3)(x4:α4)(h:t x0 x1 x2 x3 x4):∃x0,∃x1,∃x2,∃x3,∃x4,t x0 x1 x2 x3 x4:=⟨x0,x1,x2,x3,x4,h⟩
def ago{α0:Sort u0}{α1:Sort u1}{α2:Sort u2}{α3:Sort u3}{p0:α0->Prop}{p1:α0->α1->Prop}{t:α0->α1->α2->α3->Prop}(x0:α0)(h0:p0 x0)(x1:α1)(h1:p1 x0 x1)(x2:α2)(x3:α3)(h:t x0 x1 x2 x3):∃x0,p0 x0/\∃x1,p1 x0 x1/\∃x2,∃x3,t x0 x1 x2 x3:=⟨x0,h0,x1,h1,x2,x3,h⟩
def lr{α0:Sort u0}{α1:Sort u1}{α2:Sort u2}{α3:Sort u3}{α4:Sort u4}{p0:α0->Prop}{t:α0->α1->α2->α3->α4->Prop}(x0:α0)(h0:p0 x0)(x1:α1)(x2:α2)(x3:α3)(x4:α4)(h:t x0 x1 x2 x3 x4):∃x0,p0 x0/\∃x1,∃x2,∃x3,∃x4,t x0 x1 x2 x3 x4:=⟨x0,h0,x1,x2,x3,x4,h⟩
def sq{α0:Sort u0}{α1:Sort u1}{α2:Sort u2}{α3:Sort u3}{p0:α0->α1->Prop}{p1:α0->α1->Prop}{t:α0->α1->α2->α3->Prop}(x0:α0)(x1:α1)(h0:p0 x0 x1)(h1:p1 x0 x1)(x2:α2)(x3:α3)(h:t x0 x1 x2 x3):∃x0,∃x1,p0 x0 x1/\p1 x0 x1/\∃x2,∃x3,t x0 x1 x2 x3:=⟨x0,x1,h0,h1,x2,x3,h⟩
def r9{α0:Sort u0}{α1:Sort u1}{α2:Sort u2}{p0:α0->Prop}{p1:α0->Prop}{p2:α0->Prop}{p3:α0->Prop}{t:α0->α1->α2->Prop}(x0:α0)(h0:p0 x0)(h1:p1 x0)(h2:p2 x0)(h3:p3 x0)(x1:α1)(x2:α2)(h:t x0 x1 x2):∃x0,p0 x0/\p1 x0/\p2 x0/\p3 x0/\∃x1,∃x2,t x0 x1 x2:=⟨x0,h0,h1,h2,h3,x1,x2,h⟩
def mh{α0:Sort u0}{α1:Sort u1}{α2:Sort u2}{α3:Sort u3}{α4:Sort u4}{p0:α0->Prop}{p1:α0->α1->Prop}{t:α0->α1->α2->α3->α4->Prop}(x0:α0)(h0:p0 x0)(x1:α1)(h1:p1 x0 x1)(x2:α2)(x3:α3)(x4:α4)(h:t x0 x1 x2 x3 x4):∃x0,p0 x0/\∃x1,p1 x0 x1/\∃x2,∃x3,∃x4,t x0 x1 x2 x3 x4:=⟨x0,h0,x1,h1,x2,x3,x4,h⟩
def ng{α0:Sort u0}{α1:Sort u1}{α2:Sort u2}{α3:Sort u3}{p0:α0->Prop}{p1:α0->α1->α2->Prop}{p2:α0->α1->α2->Prop}{t:α0->α1->α2->α3->Prop}(x0:α0)(h0:p0 x0)(x1:α1)(x2:α2)(h1:p1 x0 x1 x2)(h2:p2 x0 x1 x2)(x3:α3)(h:t x0 x1 x2 x3):∃x0,p0 x0/\∃x1,∃x2,p1 x0 x1 x2/\p2 x0 x1 x2/\∃x3,t x0 x1 x2 x3:=⟨x0,h0,x1,x2,h1,h2,x3,h⟩
def Kj{α0:Sort u0}{α1:Sort u1}{α2:Sort u2}{α3:Sort u3}{p0:α0->α1->Prop}{p1:α0->α1->Prop}{p2:α0->α1->Prop}{t:α0->α1->α2->α3->Prop}(x0:α0)(x1:α1)(h0:p0 x0 x1)(h1:p1 x0 x1)(h2:p2 x0 x1)(x2:α2)(x3:α3)(h:t x0 x1 x2 x3):∃x0,∃x1,p0 x0 x1/\p1 x0 x1/\p2 x0 x1/\∃x2,∃x3,t x0 x1 x2 x3:=⟨x0,x1,h0,h1,h2,x2,x3,h⟩
def ql{α0:Sort u0}{α1:Sort u1}{α2:Sort u2}{α3:Sort u3}{α4:Sort u4}{p0:α0->Prop}{p1:α0->Prop}{p2:α0->α1->Prop}{t:α0->α1->α2->α3->α4->Prop}(x0:α0)(h0:p0 x0)(h1:p1 x0)(x1:α1)(h2:p2 x0 x1)(x2:α2)(x3:α3)(x4:α4)(h:t x0 x1 x2 x3 x4):∃x0,p0 x0/\p1 x0/\∃x1,p2 x0 x1/\∃x2,∃x3,∃x4,t x0 x1 x2 x3 x4:=⟨x0,h0,h1,x1,h2,x2,x3,x4,h⟩
def pf{α0:Sort u0}{α1:Sort u1}{α2:Sort u2}{α3:Sort u3}{α4:Sort u4}{p0:α0->Prop}{p1:α0->α1->Prop}{p2:α0->α1->α2->Prop}{t:α0->α1->α2->α3->α4->Prop}(x0:α0)(h0:p0 x0)(x1:α1)(h1:p1 x0 x1)(x2:α2)(h2:p2 x0 x1 x2)(x3:α3)(x4:α4)(h:t x0 x1 x2 x3 x4):∃x0,p0 x0/\∃x1,p1 x0 x1/\∃x2,p2 x0 x1 x2/\∃x3,∃x4,t x0 x1 x2 x3 x4:=⟨x0,h0,x1,h1,x2,h2,x3,x4,h⟩
def uw{α0:Sort u0}{α1:Sort u1}{α2:Sort u2}{α3:Sort u3}{p0:α0->Prop}{p1:α0->α1->α2->Prop}{p2:α0->α1->α2->Prop}{p3:α0->α1->α2->Prop}{t:α0->α1->α2->α3->Prop}(x0:α0)(h0:p0 x0)(x1:α1)(x2:α2)(h1:p1 x0 x1 x2)(h2:p2 x0 x1 x2)(h3:p3 x0 x1 x2)(x3:α3)(h:t x0 x1 x2 x3):∃x0,p0 x0/\∃x1,∃x2,p1 x0 x1 x2/\p2 x0 x1 x2/\p3 x0 x1 x2/\∃x3,t x0 x1 x2 x3:=⟨x0,h0,x1,x2,h1,h2,h3,x3,h⟩
def og{α0:Sort u0}{α1:Sort u1}{α2:Sort u2}{α3:Sort u3}{α4:Sort u4}{p0:α0->Prop}{p1:α0->α1->Prop}{p2:α0->α1->α2->α3->Prop}{p3:α0->α1->α2->α3->Prop}{t:α0->α1->α2->α3->α4->Prop}(x0:α0)(h0:p0 x0)(x1:α1)(h1:p1 x0 x1)(x2:α2)(x3:α3)(h2:p2 x0 x1 x2 x3)(h3:p3 x0 x1 x2 x3)(x4:α4)(h:t x0 x1 x2 x3 x4):∃x0,p0 x0/\∃x1,p1 x0 x1/\∃x2,∃x3,p2 x0 x1 x2 x3/\p3 x0 x1 x2 x3/\∃x4,t x0 x1 x2 x3 x4:=⟨x0,h0,x1,h1,x2,x3,h2,h3,x4,h⟩
def me{α0:Sort u0}{α1:Sort u1}{α2:Sort u2}{α3:Sort u3}{α4:Sort u4}{p0:α0->α1->Prop}{p1:α0->α1->Prop}{p2:α0->α1->Prop}{p3:α0->α1->α2->α3->Prop}{t:α0->α1->α2->α3->α4->Prop}(x0:α0)(x1:α1)(h0:p0 x0 x1)(h1:p1 x0 x1)(h2:p2 x0 x1)(x2:α2)(x3:α3)(h3:p3 x0 x1 x2 x3)(x4:α4)(h:t x0 x1 x2 x3 x4):∃x0,∃x1,p0 x0 x1/\p1 x0 x1/\p2 x0 x1/\∃x2,∃x3,p3 x0 x1 x2 x3/\∃x4,t x0 x1 x2 x3 x4:=⟨x0,x1,h0,h1,h2,x2,x3,h3,x4,h⟩
def mq{α0:Sort u0}{α1:Sort u1}{α2:Sort u2}{α3:Sort u3}{α4:Sort u4}{p0:α0->α1->Prop}{p1:α0->α1->Prop}{p2:α0->α1->α2->α3->Prop}{p3:α0->α1->α2->α3->Prop}{t:α0->α1->α2->α3->α4->Prop}(x0:α0)(x1:α1)(h0:p0 x0 x1)(h1:p1 x0 x1)(x2:α2)(x3:α3)(h2:p2 x0 x1 x2 x3)(h3:p3 x0 x1 x2 x3)(x4:α4)(h:t x0 x1 x2 x3 x4):∃x0,∃x1,p0 x0 x1/\p1 x0 x1/\∃x2,∃x3,p2 x0 x1 x2 x3/\p3 x0 x1 x2 x3/\∃x4,t x0 x1 x2 x3 x4:=⟨x0,x1,h0,h1,x2,x3,h2,h3,x4,h⟩
open PySem renaming wpAny_bind->ab,wpAny_pure->af,wpAny_callSpecial?_slot->cg,wpAny_call_entry->cu,wpAny_newObj_type->cy,wpAny_field->fg,boot_len->fy,wpAny_holding->f9,wpAny_seqItems->gj,wpAny_setField_rec->gu,wpAny_setState_of->g9,wpAny_truthy_bool->ii,wpAny_setField->ip,codeAny_builtin->iw,mem_of_lookup->iy,wpAny_mono->jc,wpAny_attempt->jf,wpAny_rule->jr,wpAny_Call_Name_kw->jt,plainId_quiet->kg,wpAny_isInstance->kj,wpAny_typeNameOfWhole_keyiter->km,wpAny_pyIter_tuple->k6
open List renaming length_map->ae,getElem?_eq_getElem->ah,getElem?_eq_some_iff->aj,mem_of_getElem?->ak,mem_cons_self->ao,mem_singleton->ar,mem_cons_of_mem->au,mem_map->aw,mem_cons->ax,mem_append->ay,size_toArray->a7,length_append->be,take_of_length_le->bi,map_map->bm,append_assoc->bp,map_append->bu,getElem?_map->bz,length_cons->b7,length_take->b8,mem_append_right->cf,getElem?_append_right->ck,mem_map_of_mem->cm,mem_of_mem_take->cn,range->cp,not_mem_nil->df,take_append_drop->dh,map_cons->dq,map_congr_left->dv,pairwise_append->dy,getElem?_of_mem->dz,getElem?_append_left->ei,mem_iff_getElem?->eu,append_nil->ff,getElem?_take_of_lt->fh,getD_eq_getElem?_getD->fk,length_singleton->fq,cons_lt_cons_iff->fu,pairwise_iff_getElem->fw,mem_range->gg,pairwise_cons->gh,getElem?_drop->gi,length_drop->gm,pairwise_map->gq,mem_append_left->gr,length_range->g0,getElem_mem->ix,length_nil->ja,lookup_cons->je,nodup_cons->jl,range_succ->jo,getElem?_eq_none->jw,drop_zero->jz,mem_of_mem_drop->j9,length_eq_zero_iff->kh
open PySem.Heap renaming get?_push_of_some->ai,get?_push_size->a6,lt_size->bn,SameBut->b9,get?_update_self->cr,get?_update_other->da,size_push->i9,ExtBut->j6
open Nat renaming le_refl->am,lt_of_lt_of_le->cw,le_of_lt->dg,ne_of_lt->dw,zero_le->fj,min_eq_left->ft,pow_le_pow_right->ic,mod_eq_of_lt->ie,le_trans->ig,lt_of_le_of_lt->ir,add_le_add_left->iz,not_lt_zero->jb,lt_irrefl->js,pow_succ->kc,le_succ->ke
open Bool renaming false_ne_true->aq,false_eq_true->bf,and_eq_true->gp,not_true->iu,eq_iff_iff->jk
open PySem.W renaming Frag->av,nsIn->cz,mg_none_of->de,kia_one->iq,mg_of->jg,keepIn->kq,fnOf->k8
open Array renaming length_toList->a8,getElem?_toList->bj,getElem?_eq_some_iff->br,getElem?_eq_getElem->bx,perm_iff_toList_perm->jq,size_extract->jv,getElem?_eq_none->kx
open PyProof.Rows renaming wpS_bind->a9,wpS_pure->bq,callWith_type1->gw,wpS_forRange->gx,slot_tuple_getitem->gz,wpS_mono->i7,boot_tuple->ku
open PySem.Str renaming ofString->bh
open PySem.PyData renaming eqv->bo,depthAll->ca,eqvAll->cx,canLayAll0->ik,depth->jy,strOk->k9
open PySem.Builtin.SmallTypes renaming nextOf->bw,ownedTupleIsFree->gk,ownedTupleHandOut->ji
open Int renaming eq_ofNat_of_zero_le->cc,toNat_natCast->ci,le_refl->jm
open PySem.F renaming plainAttrs_list->cj,slot_list_append->gc,type_list_append->gd,called_set->jd,slot_dict_keyiterator_next->jh,plainAttrs_str->jp,slot_str_ascii_iterator_next->kb,plain_max_loop->kl,slot_str_lower->ky,type_str_lower->kz
open Option renaming map_eq_some_iff->db
open PySem.Heap.SameBut renaming update->du
open Classical renaming byContradiction->fc
open Option.some renaming inj->gl
open PySem.Around renaming under_plainId->gt
open List.Pairwise renaming imp_of_mem->gv,sublist->gy
open List.Perm renaming append_left->ij,refl->j4
open PySem.SetTable renaming insertAt->io
open PySem.Obj renaming mapSeq->jj,data_mapFields->k7
open PySem.SeqAt.ReadsAll renaming length->jx
open PySem.Builtin.Tuple renaming tupleHashOf->j7
namespace L2
open PySem PySem.Spec PyProof.Rows
noncomputable abbrev Key:=Sum Int Str
noncomputable def Ap:Key->aA->Bool
 | .inl k,v=>aA.isInt k v
 | .inr x,v=>aA.isStrOf x v
noncomputable def azk(w:aP):Key->Int
 | .inl k=>hashInt k
 | .inr x=>eP w x
theorem o8:∀{k:Key} {v:aA},Ap k v=true->(∃i t,k=Sum.inl i/\v=aA.int i t)\/(∃x t,k=Sum.inr x/\v=aA.str x t)
 | .inl i,v,h=>by obtain⟨t,e⟩:=aA.isInt_shape (k:=i) (v:=v) h;exact .inl ⟨i,t,rfl,e⟩
 | .inr x,v,h=>by obtain⟨t,e⟩:=aA.isStrOf_shape (x:=x) (v:=v) h;exact .inr ⟨x,t,rfl,e⟩
def ai5(i:Int)(t:sV):Ap (.inl i) (.int i t)=true:=by simp[Ap,aA.isInt]
def ale(x:Str)(t:sV):Ap (.inr x) (.str x t)=true:=by simp[Ap,aA.isStrOf]
def au8(a b:Int):decide ((Sum.inl a:Key)=Sum.inl b)=(a==b):=by
 by_cases e:a=b
 .subst e;simp
 .have h:¬(Sum.inl a:Key)=Sum.inl b:=λq=>e<|Sum.inl.inj q;rw[decide_eq_false h];exact(beq_eq_false_iff_ne.mpr e).symm
def avc(a b:Str):decide ((Sum.inr a:Key)=Sum.inr b)=decide (a=b):=by
 by_cases e:a=b
 .subst e;simp
 .have h:¬(Sum.inr a:Key)=Sum.inr b:=λq=>e<|Sum.inr.inj q;rw[decide_eq_false h,decide_eq_false e]
def as7(a:Int)(b:Str):decide ((Sum.inl a:Key)=Sum.inr b)=false:=decide_eq_false λq=>nomatch q
def ate(a:Str)(b:Int):decide ((Sum.inr a:Key)=Sum.inl b)=false:=decide_eq_false λq=>nomatch q
noncomputable def pi(prog:aK)(w:aP):PySem.KeyKind prog w Key where
 is:=Ap
 hash:=azk w
 inj:=λv a b ha hb=>by
  rcases o8 ha with ⟨i,t,rfl,rfl⟩|⟨x,t,rfl,rfl⟩
  .rcases o8 hb with ⟨j,u,rfl,e⟩|⟨y,u,rfl,e⟩
   .injection e with e1 _;rw[e1]
   .exact nomatch e
  .rcases o8 hb with ⟨j,u,rfl,e⟩|⟨y,u,rfl,e⟩
   .exact nomatch e
   .injection e with e1 _;rw[e1]
 byValue:=λk v h=>by rcases o8 h with ⟨i,t,rfl,rfl⟩|⟨x,t,rfl,rfl⟩<;>rfl
 pyHash:=λhv h=>by
  rcases o8 hv with ⟨i,t,rfl,rfl⟩|⟨x,t,rfl,rfl⟩
  .exact De h
  .exact Dd h
 eqBool:=λhu hv h=>by
  rcases o8 hu with ⟨i,t,rfl,rfl⟩|⟨x,t,rfl,rfl⟩
  .rcases o8 hv with ⟨j,u,rfl,rfl⟩|⟨y,u,rfl,rfl⟩
   .rw[au8]at h;exact wpAny_eqBool_int h
   .rw[as7]at h;exact SeqAt.EqAt.int_str i t y u _ _ _ _ h
  .rcases o8 hv with ⟨j,u,rfl,rfl⟩|⟨y,u,rfl,rfl⟩
   .rw[ate]at h;exact SeqAt.EqAt.str_int x t j u _ _ _ _ h
   .rw[avc]at h;exact wpAny_eqBool_str h
 «strs»:=λk x t v h=>by
  rcases o8 h with ⟨i,u,rfl,e⟩|⟨y,u,rfl,e⟩
  .exact nomatch e
  .injection e with e1 _
   subst e1;cases v<;>rfl
def ae1(prog:aK)(w:aP)(i:Int)(t:sV):(pi prog w).is (.inl i) (.int i t)=true:=ai5 i t
def zx(prog:aK)(w:aP)(x:Str)(t:sV):(pi prog w).is (.inr x) (.str x t)=true:=ale x t
inductive V where
 | non|bl (b:Bool)|int (i:Int)|str (x:Str)|byt (b:Array UInt8)|flt (b:UInt64)|ref (a:aF)|ty (n:String)
 deriving DecidableEq
def RelV:V->aA->Prop
 | .non,u=>u=aA.none
 | .bl b,u=>u=aA.bool b
 | .int i,u=>∃t,u=aA.int i t
 | .str x,u=>∃t,u=aA.str x t
 | .byt b,u=>∃t,u=aA.bytes b t
 | .flt b,u=>∃t,u=aA.float b t
 | .ref a,u=>u=aA.ref a
 | .ty n,u=>u=aA.type n
noncomputable abbrev Vals:Z V->Z aA->Prop:=dN RelV
theorem Vals.length{xs:Z V}{us:Z aA}(r:Vals xs us):xs.length=us.length:=dN.length r
theorem Vals.get:∀{xs:Z V} {us:Z aA} {i:Nat} {x:V},Vals xs us->xs[i]?=some x->∃u,us[i]?=some u/\RelV x u
 | _,_,_,_,.nil,e=>by simp at e
 | _,_,0,_,.cons r _,e=>by simp at e;subst e;exact⟨_,rfl,r⟩
 | _,_,i+1,x,.cons _ t,e=>by obtain⟨u,h1,h2⟩:=Vals.get (i:=i) (x:=x) t (by simpa using e);exact⟨u,by simpa using h1,h2⟩
theorem Vals.set{x:V}{u:aA}(r:RelV x u):∀{xs:Z V} {us:Z aA} (i:Nat),Vals xs us->Vals (xs.set i x) (us.set i u)
 | _,_,_,.nil=>.nil
 | _,_,0,.cons _ t=>.cons r t
 | _,_,i+1,.cons q t=>.cons q<|Vals.set r i t
theorem Vals.append:∀{xs ys:Z V} {us ws:Z aA},Vals xs us->Vals ys ws->Vals (xs++ys) (us++ws)
 | _,_,_,_,.nil,s=>s
 | _,_,_,_,.cons r t,s=>.cons r<|Vals.append t s
theorem Vals.take:∀{xs:Z V} {us:Z aA} (n:Nat),Vals xs us->Vals (xs.take n) (us.take n)
 | _,_,0,_=>.nil
 | _,_,_+1,.nil=>.nil
 | _,_,n+1,.cons r t=>.cons r<|Vals.take n t
theorem Vals.drop:∀{xs:Z V} {us:Z aA} (n:Nat),Vals xs us->Vals (xs.drop n) (us.drop n)
 | _,_,0,r=>r
 | _,_,_+1,.nil=>.nil
 | _,_,n+1,.cons _ t=>Vals.drop n t
def RelO:Option V->Option aA->Prop
 | some v,some u=>RelV v u
 | none,none=>True
 | _,_=>False
def KV{κ:Type}:Z (κ×V)->Z (κ×aA)->Prop:=dN λ(p:κ×V) (q:κ×aA)=>p.1=q.1/\RelV p.2 q.2
noncomputable def kV:Key->V
 | .inl i=>.int i
 | .inr x=>.str x
inductive HO where
 | lst (xs:Z V)
 | tup (xs:Z V)
 | dK (kvs:Z (Key×V))|dT (kvs:Z (Z Key×V))
 | set (S:Int->Bool) (n:Nat)
 | ins (C dx:aF) (fs:Z (Str×V))
 | own (x:aF)
 | xd (fs:Z (Str×V))
 | met (f x:aF)
 | rng (lo hi:Int)
 | frz (o:Obj) (u:HO)
 | tbl (ps:Array aA)
 | ext (φ:Heap->Prop)
noncomputable abbrev Hp:=aF->Option HO
noncomputable def upd(H:Hp)(a:aF)(o:HO):Hp:=λb=>if b=a then some o else H b
def l9{H:Hp}{a:aF}{o:HO}:upd H a o a=some o:=by unfold upd;rw[if_pos rfl]
def ma{H:Hp}{a b:aF}{o:HO}(h:b≠a):upd H a o b=H b:=by unfold upd;rw[if_neg h]
def As{H:Hp}{a b:aF}{o u:HO}(h:H a=some o)(h':H b=some u)(d:o≠u):a≠b:=by intro e;subst e;rw[h]at h';exact d<|gl h'
def ou{H:Hp}{a b:aF}{o:HO}(h:H a=some o)(h':H b=none):a≠b:=by intro e;subst e;rw[h]at h';cases h'
section
variable(P:aK)(w:aP)
def ObjOk(H:Hp)(h:Heap)(a:aF):HO->Prop
 | .lst xs=>xs.length<=aE/\∃(its:Z aA)(n:Nat),Vals xs its/\h.get? a=some {cls:=.type "list",data:=.seq its.toArray n}
 | .tup xs=>xs.length<=aE/\∃its:Z aA,Vals xs its/\oP h a its.toArray
 | .dK kvs=>kvs.length<=aE/\(a==bL)=false/\∃vs,KV kvs vs/\h.DictOf (pi P w) a vs
 | .dT kvs=>kvs.length<=aE/\(a==bL)=false/\∃xs:Z (Z Key×aF×aA),
   dN (λ(p:Z Key×V) (q:Z Key×aF×aA)=>p.1=q.1/\H q.2.1=some (.tup<|p.1.map kV)/\RelV p.2 q.2.2) kvs xs/\
   ∃o es ep,h.get? a=some o/\o.ExactDict/\o.data=.dict es ep/\es.toList=xs.map (entryOfKey<|iH<|pi P w)/\(xs.map (·.1)).Nodup
 | .set S n=>h.SetOf (intKind P w) a S n
 | .ins C dx fs=>H dx=some (.own a)/\fs.length<=1000/\dx≠a/\h.get? a=some (PySem.W.instObj C dx)/\
   ∃mA,h.Ns1 dx mA/\(∀f,RelO (fs.lookup f)<|mA f)/\PySem.Within mA (fs.map (·.1))
 | .own _=>∃o,h.get? a=some o
 | .xd fs=>∃mA,h.Ns1 a mA/\∀f,RelO (fs.lookup f) (mA f)
 | .rng lo hi=>∃t u v,h.get? a=some {cls:=.type "range",data:=.fields #[.int lo t,.int hi u,.int 1 v]}
 | .frz o u=>h.get? a=some o/\ObjOk H h a u
 | .tbl ps=>h.get? a=some {cls:=.none,data:=.fields ps}
 | .met f x=>h.get? a=some (PySem.W.methodObj (.ref f)<|.ref x)
 | .ext φ=>φ h/\(∃o,h.get? a=some o)/\∀h1 h2:Heap,φ h1->(∀o,h1.get? a=some o->h2.get? a=some o)->φ h2
def HOk(H:Hp)(h:Heap):Prop:=∀a o,H a=some o->ObjOk P w H h a o
end
section
variable{P:aK}{w:aP}{H H':Hp}{h h':Heap}{a:aF}{o:HO}
theorem ObjOk.lt(x:ObjOk P w H h a o):a<h.objs.size:=by
 cases o with
 | lst xs=>obtain⟨_,_,_,_,e⟩:=x;exact bn e
 | tup xs=>obtain⟨_,_,_,p⟩:=x;exact p.lt
 | dK kvs=>obtain⟨_,_,_,_,o,_,_,e,_⟩:=x;exact bn e
 | dT kvs=>obtain⟨_,_,_,_,o,_,_,e,_⟩:=x;exact bn e
 | set S n=>obtain⟨o,_,_,_,e,_⟩:=x;exact bn e
 | ins C dx fs=>obtain⟨_,_,_,e,_⟩:=x;exact bn e
 | own y=>obtain⟨_,e⟩:=x;exact bn e
 | xd fs=>obtain⟨_,⟨_,_,_,e,_⟩,_⟩:=x;exact bn e
 | rng lo hi=>obtain⟨_,_,_,e⟩:=x;exact bn e
 | frz ob u=>obtain⟨e,_⟩:=x;exact bn e
 | tbl ps=>exact bn (show h.get? a=some _ from x)
 | met f y=>exact bn (show h.get? a=some _ from x)
 | ext φ=>obtain⟨_,⟨_,e⟩,_⟩:=x;exact bn e
theorem dN.mapP{α β:Type}{F G:α->β->Prop}:∀{l₁:List α} {l₂:List β},dN F l₁ l₂->(∀a b,F a b->G a b)->dN G l₁ l₂
 | _,_,.nil,_=>.nil
 | _,_,.cons r t,f=>.cons (f _ _ r)<|dN.mapP t f
theorem ObjOk.stay(x:ObjOk P w H h a o)(k:∀b u,(b=a\/H b=some (.own a))->h.get? b=some u->h'.get? b=some u)
  (ho:∀b,H b=some (.own a)->H' b=some (.own a)) (ht:∀b xs,H b=some (.tup xs)->H' b=some (.tup xs)):ObjOk P w H' h' a o:=by
 induction o with
 | lst xs=>obtain⟨z,its,n,r,e⟩:=x;exact⟨z,its,n,r,k _ _ (.inl rfl) e⟩
 | tup xs=>obtain⟨z,its,r,ob,e,c⟩:=x;exact⟨z,its,r,ob,k _ _ (.inl rfl) e,c⟩
 | dK kvs=>obtain⟨z,y,vs,r,ob,es,ep,e,c⟩:=x;exact⟨z,y,vs,r,ob,es,ep,k _ _ (.inl rfl) e,c⟩
 | dT kvs=>
  obtain⟨z,y,xs,r,ob,es,ep,e,c⟩:=x;exact⟨z,y,xs,dN.mapP r λp q z=>⟨z.1,ht _ _ z.2.1,z.2.2⟩,ob,es,ep,k _ _ (.inl rfl) e,c⟩
 | set S n=>obtain⟨ob,es,ep,t,e,c⟩:=x;exact⟨ob,es,ep,t,k _ _ (.inl rfl) e,c⟩
 | ins C dx fs=>
  obtain⟨d,z,ne,e,mA,⟨od,es,ep,e2,c⟩,r⟩:=x;exact⟨ho _ d,z,ne,k _ _ (.inl rfl) e,mA,⟨od,es,ep,k _ _ (.inr d) e2,c⟩,r⟩
 | own y=>obtain⟨ob,e⟩:=x;exact⟨ob,k _ _ (.inl rfl) e⟩
 | xd fs=>obtain⟨mA,⟨od,es,ep,e,c⟩,r⟩:=x;exact⟨mA,⟨od,es,ep,k _ _ (.inl rfl) e,c⟩,r⟩
 | rng lo hi=>obtain⟨t,u,v,e⟩:=x;exact⟨t,u,v,k _ _ (.inl rfl) e⟩
 | frz ob u ih=>obtain⟨e,q⟩:=x;exact⟨k _ _ (.inl rfl) e,ih q⟩
 | tbl ps=>
  have e:h.get? a=some {cls:=.none,data:=.fields ps}:=x;show h'.get? a=some {cls:=.none,data:=.fields ps};exact k a _ (.inl rfl) e
 | met f y=>
  have e:h.get? a=some (PySem.W.methodObj (.ref f)<|.ref y):=x;show h'.get? a=some (PySem.W.methodObj (.ref f)<|.ref y);exact k a _ (.inl rfl) e
 | ext φ=>obtain⟨p,⟨o,e⟩,st⟩:=x;exact⟨st _ _ p λo q=>k _ _ (.inl rfl) q,⟨o,k _ _ (.inl rfl) e⟩,st⟩
theorem HOk.lt(x:HOk P w H h)(e:H a=some o):a<h.objs.size:=(x a o e).lt
theorem HOk.fresh(x:HOk P w H h)(e:h.objs.size<=a):H a=none:=by
 cases q:H a with
 | none=>rfl
 | some u=>exact absurd (cw (x.lt q) e)<|js _
def HOk.kept(x:HOk P w H h)(k:∀b u,h.get? b=some u->h'.get? b=some u):HOk P w H h':=λa o e=>
 (x a o e).stay (λb u _ q=>k b u q) (λ_ q=>q) λ_ _ q=>q
def HOk.laid(x:HOk P w H h)(k:∀b u,h.get? b=some u->h'.get? b=some u)(hp:h.objs.size<=a)(new:ObjOk P w (upd H a o) h' a o):HOk P w (upd H a o) h':=λb u e=>by
 have hn:=x.fresh hp;by_cases hb:b=a
 .subst hb;rw[l9]at e;cases e;exact new
 .rw[ma hb]at e;exact(x b u e).stay (λc v _ q=>k c v q) (λc q=>by rw[ma (ou q hn)];exact q) λc xs q=>by rw[ma (ou q hn)];exact q
end
def Rd(H:Hp)(a:aF)(u:HO):Prop:=H a=some u\/∃o,H a=some (.frz o u)
def Rd.ok{P:aK}{w:aP}{H:Hp}{h:Heap}{a:aF}{u:HO}(r:Rd H a u)(x:HOk P w H h):ObjOk P w H h a u:=by
 rcases r with r|⟨o,r⟩
 .exact x a u r
 .obtain⟨_,q⟩:=x a _ r;exact q
def Mut:Option HO->Prop
 | some (.lst _)=>True
 | some (.dK _)=>True
 | some (.dT _)=>True
 | some (.set _ _)=>True
 | some (.ins _ _ _)=>True
 | some (.ext _)=>True
 | _=>False
section
variable{P:aK}{w:aP}{H:Hp}{h h':Heap}{x e:aF}{o':HO}
def HOk.write(ok:HOk P w H h)(mu:Mut (H x))(he:e=x\/H e=some (.own x))(k:∀b u,b≠e->h.get? b=some u->h'.get? b=some u)(zV:∃u,h'.get? e=some u)
  (new:ObjOk P w (upd H x o') h' x o'):HOk P w (upd H x o') h':=λb u q=>by
 have A5:∀c y,H c=some (.own y)->c≠x:=λc y r z=>by subst z;rw[r]at mu;exact mu
 have FH:∀c xs,H c=some (.tup xs)->c≠x:=λc xs r z=>by subst z;rw[r]at mu;exact mu
 by_cases hb:b=x
 .subst hb;rw[l9]at q;cases q;exact new
 .rw[ma hb]at q;by_cases xS:b=e
  .have q':H b=some (.own x):=by
    rcases he with z|z
    .exact absurd (xS.trans z) hb
    .rw[xS];exact z
   rw[q]at q';cases q';obtain⟨v,hv⟩:=zV;exact⟨v,by rw[xS];exact hv⟩
  .refine(ok b u q).stay (λc v hc r=>k c v ?_ r) (λc r=>by rw[ma (A5 c b r)];exact r) λc xs r=>by rw[ma (FH c xs r)];exact r
   rcases hc with rfl|hc
   .exact xS
   .rintro rfl;rcases he with z|z
    .exact A5 c b hc z
    .rw[hc]at z;cases z;exact hb rfl
end
structure Un(fs ex:Z aF)(H H':Hp)(h h':Heap):Prop where
 keep:∀b o,h.get? b=some o->H b=none->b∉fs->b∉ex->h'.get? b=some o
 slot:∀b o,h.get? b=some o->H b=none->b∈fs->b∉ex->∃sl,h'.get? b=some {o with slots:=sl}
 free:∀b o,h.get? b=some o->H b=none->b∉ex->H' b=none
 there:∀b o,h.get? b=some o->b∉ex->∃o',h'.get? b=some o'
 tups:∀b xs,H b=some (.tup xs)->H' b=some (.tup xs)
 frzs:∀b o u,H b=some (.frz o u)->H' b=some (.frz o u)
 tbls:∀b ps,H b=some (.tbl ps)->∃more,H' b=some (.tbl<|ps++more)
section
variable{fs fs' ex ex':Z aF}{H H1 H2:Hp}{h h1 h2 h':Heap}{a x e:aF}{o:HO}
def Un.any(u:Un fs ex H H1 h h1){b:aF}{ob:Obj}(q:h.get? b=some ob)(n:H b=none)(hx:b∉ex):∃sl,h1.get? b=some {ob with slots:=sl}:=by
 by_cases hb:b∈fs
 .exact u.slot b ob q n hb hx
 .exact⟨ob.slots,u.keep b ob q n hb hx⟩
def Un.kept(k:∀b u,h.get? b=some u->h'.get? b=some u):Un fs ex H H h h':=
 ⟨λb ob q _ _ _=>k b ob q,λb ob q _ _ _=>⟨ob.slots,k b ob q⟩,λ_ _ _ n _=>n,λb ob q _=>⟨ob,k b ob q⟩,λ_ _ q=>q,λ_ _ _ q=>q,λ_ ps q=>⟨#[],by rw[q];simp⟩⟩
def Un.refl:Un fs ex H H h h:=Un.kept λ_ _ q=>q
def Un.laid(k:∀b u,h.get? b=some u->h'.get? b=some u)(hp:h.objs.size<=a)(hn:H a=none):Un fs ex H (upd H a o) h h' where
 keep:=λb u q _ _ _=>k b u q
 slot:=λb u q _ _ _=>⟨u.slots,k b u q⟩
 free:=λb u q n _=>by rw[ma (dw<|cw (bn q) hp)];exact n
 there:=λb u q _=>⟨u,k b u q⟩
 tups:=λb xs q=>by rw[ma (ou q hn)];exact q
 frzs:=λb u xs q=>by rw[ma (ou q hn)];exact q
 tbls:=λb ps q=>⟨#[],by rw[ma (ou q hn),q];simp⟩
def Un.write(mu:Mut (H x))(he:e=x\/H e=some (.own x))(k:∀b u,b≠e->h.get? b=some u->h'.get? b=some u)(zV:∃u,h'.get? e=some u):Un fs ex H (upd H x o) h h':=by
 have hx:∀b,H b=none->b≠x:=λb n z=>by subst z;rw[n]at mu;exact mu
 have hb:∀b,H b=none->b≠e:=λb n z=>by
  subst z;rcases he with r|r
  .exact hx b n r
  .rw[n]at r;cases r
 have hm:∀b u,H b=some u->¬Mut (some u)->b≠x:=λb u q nm z=>by subst z;rw[q]at mu;exact nm mu
 refine⟨λb u q n _ _=>k b u (hb b n) q,λb u q n _ _=>⟨u.slots,k b u (hb b n) q⟩,λb u q n _=>by rw[ma (hx b n)];exact n,λb u q _=>?_,
  λb xs q=>by rw[ma (hm b _ q λz=>z)];exact q,λb u xs q=>by rw[ma (hm b _ q λz=>z)];exact q,λb ps q=>⟨#[],by rw[ma (hm b _ q λz=>z),q];simp⟩⟩
 by_cases xS:b=e
 .subst xS;exact zV
 .exact⟨u,k b u xS q⟩
end
noncomputable def trk(h:Heap)(H:Hp):Z aF:=(cp h.objs.size).filter λa=>(H a).isSome
noncomputable def uE(h:Heap)(H:Hp):Heap:=PySem.W.hideAll h<|trk h H
def aiv(h:Heap)(H:Hp):(uE h H).objs.size=h.objs.size:=PySem.W.hideAll_size _ _
def anc{h:Heap}{H:Hp}{b:aF}{o:Obj}(e:h.get? b=some o)(n:H b=none):(uE h H).get? b=some o:=
 PySem.W.hideAll_get _ e λhm=>by have q:(H b).isSome=true:=(List.mem_filter.mp hm).2;rw[n]at q;simp at q
theorem arx{h:Heap}{H:Hp}{b:aF}{o:Obj}(e:(uE h H).get? b=some o):h.get? b=some o/\H b=none:=by
 have e':h.get? b=some o:=PySem.W.of_hideAll (trk h H) e;refine⟨e',?_⟩;cases q:H b with
 | none=>rfl
 | some x=>
  have hm:b∈trk h H:=List.mem_filter.mpr ⟨gg.mpr<|bn e',by simp[q]⟩;have z:(uE h H).get? b=none:=PySem.W.hideAll_none (trk h H) hm;rw[z]at e;cases e
structure Mod(K:av)(mg:Str->Option aA)(base:Heap):Prop where
 kin:K.In base
 glob:base.Ns aO mg
 blt:∃mb,base.Ns Ad mb/\∀x:Str,x≠"__name__"->mb x=bO x
 nolimit:base.NoLimit
structure Cx where
 prog:aK
 w:aP
 K:av
 mg:Str->Option aA
 base:Heap
 A:Around
 N:Z Str
 s₀:aB
 H₀:Hp
 env:qA
 outer:Z qA
 stack:Z qA
 ex:Z aF
 fn:Str->Bool
 calm:Bool
 pn:Z (aF×Obj)
 xe:aA->aB->Prop
noncomputable def frs(l:Z qA):Z aF:=l.filterMap (·.frame)
noncomputable abbrev Cx.fs(X:Cx):Z aF:=frs X.outer
def Vis(sc:cW)(x:Str):Prop:=sc.names.lookup x=some .local\/sc.names.lookup x=some .cell\/sc.names.lookup x=some .free
def Loc(sc:cW)(x:Str):Prop:=sc.names.lookup x=some .local\/sc.names.lookup x=some .cell
def ay0(env:qA)(h:Heap)(m:Str->Option aA)(x:Str)(u:aA):Prop:=
 (env.kindOf x=some .local/\m x=some u)\/((env.kindOf x=some .cell\/env.kindOf x=some .free)/\∃c,env.cells.lookup x=some c/\h.IsCell c (some u))
structure Cx.Ok(X:Cx):Prop where
 mod:Mod X.K X.mg X.base
 kind:X.env.scope.kind=.function
 glob:X.env.globals=aO
 blt:X.env.builtins=Ad
 above:X.s₀.heap.objs.size<=X.env.locals
 inj:∀x y c,X.env.cells.lookup x=some c->X.env.cells.lookup y=some c->x=y
 has:∀x,(X.env.kindOf x=some .cell\/X.env.kindOf x=some .free)->∃c,X.env.cells.lookup x=some c
 cab:∀x c,X.fn x=true->X.env.cells.lookup x=some c->X.s₀.heap.objs.size<=c
 hd:X.calm=true->X.A.handled=none
 frames:X.A.frames=some X.stack
 stk:X.stack=X.outer\/(X.stack=X.env::X.outer/\X.env.frame=some X.env.locals)
 exf:∀b∈X.ex,b≠X.env.locals/\∀x c,X.env.cells.lookup x=some c->c≠b
 bs:∀b o,X.base.get? b=some o->X.s₀.heap.get? b=some o/\X.H₀ b=none
 bsz:X.base.objs.size<=X.s₀.heap.objs.size
 noex:∀b o,X.base.get? b=some o->b∉X.ex
 exfs:∀b∈X.ex,b∉X.fs
 funs:X.s₀.heap.FunFrames X.base X.outer
 frf:∀b∈X.fs,X.H₀ b=none
structure Inv(X:Cx)(aC:Z (aF×Obj))(σ:Z (Option V))(H:Hp)(s:aB):Prop where
 ok:X.Ok
 os:s.os=X.s₀.os
 bare:gI s.gens
 base:Un X.fs X.ex X.H₀ H X.s₀.heap s.heap
 loc:∃m,s.heap.Ns X.env.locals m/\∀(i:Nat)(x:Str)(v:V),X.N[i]?=some x->σ[i]?=some (some v)->Vis X.env.scope x->∃u,RelV v u/\ay0 X.env s.heap m x u
 cell:∀x c,X.env.cells.lookup x=some c->∃v,s.heap.IsCell c v
 free:H X.env.locals=none
 freeC:∀x c,X.env.cells.lookup x=some c->H c=none
 pin:∀p∈X.pn++aC,s.heap.get? p.1=some p.2/\H p.1=none/\p.1≠X.env.locals/\p.1∉X.fs/\∀v,p.2.data≠.cell v
 hok:HOk X.prog X.w H s.heap
 len:σ.length=X.N.length
section
variable{X:Cx}{aC:Z (aF×Obj)}{σ:Z (Option V)}{H H':Hp}{s:aB}{h':Heap}
def Cx.Ok.nofr(ok:X.Ok){b:aF}{o:Obj}(e:X.base.get? b=some o):b∉X.fs:=λhb=>by have:=(ok.funs.mem hb).1;rw[e]at this;cases this
theorem Inv.bs(I:Inv X aC σ H s):∀b o,X.base.get? b=some o->s.heap.get? b=some o/\H b=none:=λb o e=>
 ⟨I.base.keep b o (I.ok.bs b o e).1 (I.ok.bs b o e).2 (I.ok.nofr e) (I.ok.noex b o e),I.base.free b o (I.ok.bs b o e).1 (I.ok.bs b o e).2 (I.ok.noex b o e)⟩
def Inv.bk(I:Inv X aC σ H s):∀b o,X.base.get? b=some o->s.heap.get? b=some o:=λb o e=>(I.bs b o e).1
theorem Inv.mod(I:Inv X aC σ H s):Mod X.K X.mg X.base:=I.ok.mod
def Inv.kIn(I:Inv X aC σ H s):X.K.In s.heap:=I.ok.mod.kin.keeps I.bk
theorem Inv.lt(I:Inv X aC σ H s):X.env.locals<s.heap.objs.size:=let ⟨_,hn,_⟩:=I.loc;hn.lt
def Inv.sz(I:Inv X aC σ H s):X.s₀.heap.objs.size<=s.heap.objs.size:=ig I.ok.above<|dg I.lt
def Inv.nofs(I:Inv X aC σ H s){a:aF}(h:s.heap.objs.size<=a):a∉X.fs:=λhb=>by obtain⟨_,o,ho,_⟩:=I.ok.funs.mem hb;exact absurd (cw (bn ho)<|ig I.sz h)<|js _
def Inv.cne(I:Inv X aC σ H s):∀x c,X.env.cells.lookup x=some c->c≠X.env.locals:=λx c e z=>by obtain⟨v,o,ho,hd⟩:=I.cell x c e;obtain⟨m,⟨o',es,ep,qX,tU,_⟩,_⟩:=I.loc;rw[z,qX]at ho;cases ho;rw[tU]at hd;cases hd
theorem Inv.funs(I:Inv X aC σ H s):s.heap.FunFrames X.base X.outer:=by
 have all:∀(l:Z qA),(∀b∈frs l,b∈X.fs)->X.s₀.heap.FunFrames X.base l->s.heap.FunFrames X.base l:=by
  intro l;induction l with
  | nil=>intro _ _;trivial
  | cons env r ih=>
   intro hs hl;obtain⟨hk,⟨L,o,hf,hn,ho,hd⟩,hr⟩:=hl;have hL:L∈X.fs:=hs L (by unfold frs;rw[List.filterMap_cons,hf];exact ao);obtain⟨sl,e⟩:=I.base.slot L o ho (I.ok.frf L hL) hL λz=>I.ok.exfs L z hL;exact⟨hk,⟨L,_,hf,hn,e,hd⟩,ih (λb hb=>hs b<|by unfold frs;rw[List.filterMap_cons,hf];exact au _ hb) hr⟩
 exact all X.outer (λ_ hb=>hb) I.ok.funs
theorem Inv.stack(I:Inv X aC σ H s):s.heap.FunFrames X.base X.stack:=by
 rcases I.ok.stk with e|⟨e,hf⟩
 .rw[e];exact I.funs
 .rw[e];obtain⟨m,hn,_⟩:=I.loc;refine .cons (by rw[I.ok.kind];decide) hf hn ?_ I.funs;exact Heap.get?_none_of_le<|ig I.ok.bsz I.ok.above
def Inv.stkSub(I:Inv X aC σ H s):∀b∈frs X.stack,b∈X.env.locals::X.fs:=λb hb=>by
 rcases I.ok.stk with e|⟨e,hf⟩
 .rw[e]at hb;exact au _ hb
 .rw[e]at hb;unfold frs at hb;rw[List.filterMap_cons,hf]at hb;exact hb
def Inv.stkFree(I:Inv X aC σ H s):∀b∈frs X.stack,H b=none:=λb hb=>by
 rcases ax.mp (I.stkSub b hb)with e|hb
 .rw[e];exact I.free
 .obtain⟨_,o,ho,_⟩:=I.ok.funs.mem hb;exact I.base.free b o ho (I.ok.frf b hb) λz=>I.ok.exfs b z hb
def Inv.step{g':Array wG}{t':Nat}{d':Drawn}{ch:Z aF}(I:Inv X aC σ H s)
  (lZ:∀b∈ch,(b∈X.ex\/X.s₀.heap.objs.size<=b)/\b≠X.env.locals/\(∀x c,X.env.cells.lookup x=some c->c≠b)/\∀p∈X.pn++aC,p.1≠b)
  (keep:∀b o,b≠X.env.locals->b∉X.fs->b∉ch->s.heap.get? b=some o->H b=none->h'.get? b=some o)
  (slot:∀b o,b≠X.env.locals->b∈X.fs->b∉ch->s.heap.get? b=some o->H b=none->∃sl,h'.get? b=some {o with slots:=sl}) (free:∀b o,b∉ch->s.heap.get? b=some o->H b=none->H' b=none)
  (there:∀b o,b∉ch->s.heap.get? b=some o->∃o',h'.get? b=some o')
  (tups:∀b xs,H b=some (.tup xs)->H' b=some (.tup xs)) (frzs:∀b o u,H b=some (.frz o u)->H' b=some (.frz o u)) (tbls:∀b ps,H b=some (.tbl ps)->∃more,H' b=some (.tbl<|ps++more))
  (ns:∀m,s.heap.Ns X.env.locals m->h'.Ns X.env.locals m) (hok:HOk X.prog X.w H' h') (hg:gI g') :
  Inv X aC σ H' {s with heap:=h',gens:=g',drawn:=d',toks:=t'}:=by
 have neL:∀b o,X.s₀.heap.get? b=some o->b≠X.env.locals:=λb o e=>dw<|cw (bn e) I.ok.above;have Dr:∀b o,X.s₀.heap.get? b=some o->b∉X.ex->b∉ch:=λb o e hx hb=>by
  rcases(lZ b hb).1 with z|z
  .exact hx z
  .exact absurd (cw (bn e) z)<|js _
 have vS:∀x c,X.env.cells.lookup x=some c->∀v,s.heap.IsCell c v->h'.IsCell c v:=λx c e v ⟨o,ho,hd⟩=>by
  have A7:c∉ch:=λz=>(lZ c z).2.2.1 x c e rfl;by_cases hc:c∈X.fs
  .obtain⟨sl,q⟩:=slot c o (I.cne x c e) hc A7 ho<|I.freeC x c e;exact⟨_,q,hd⟩
  .exact⟨o,keep c o (I.cne x c e) hc A7 ho<|I.freeC x c e,hd⟩
 refine⟨I.ok,I.os,hg,⟨λb o e n hb hx=>?_,λb o e n hb hx=>?_,λb o e n hx=>?_,λb o e hx=>?_,λb xs e=>tups b xs<|I.base.tups b xs e,λb o xs e=>frzs b o xs<|I.base.frzs b o xs e,λb ps e=>?_⟩,?_,λx c e=>?_,?_,λx c e=>?_,λp hp=>?_,hok,I.len⟩
 .exact keep b o (neL b o e) hb (Dr b o e hx) (I.base.keep b o e n hb hx)<|I.base.free b o e n hx
 .obtain⟨sl,e1⟩:=I.base.slot b o e n hb hx;obtain⟨sl',e2⟩:=slot b _ (neL b o e) hb (Dr b o e hx) e1<|I.base.free b o e n hx;exact⟨sl',e2⟩
 .obtain⟨o',e1⟩:=I.base.there b o e hx;exact free b o' (Dr b o e hx) e1<|I.base.free b o e n hx
 .obtain⟨o',e1⟩:=I.base.there b o e hx;exact there b o' (Dr b o e hx) e1
 .obtain⟨m1,e1⟩:=I.base.tbls b ps e;obtain⟨m2,e2⟩:=tbls b _ e1;exact⟨m1++m2,by rw[e2,Array.append_assoc]⟩
 .obtain⟨m,hn,hl⟩:=I.loc;refine⟨m,ns m hn,λi x v e1 e2 e3=>?_⟩;obtain⟨u,r,l⟩:=hl i x v e1 e2 e3;refine⟨u,r,?_⟩;rcases l with l|⟨k,c,e,z⟩
  .exact .inl l
  .exact .inr ⟨k,c,e,vS x c e _ z⟩
 .obtain⟨v,z⟩:=I.cell x c e;exact⟨v,vS x c e v z⟩
 .obtain⟨m,⟨o,_,_,ho,_⟩,_⟩:=I.loc;exact free _ o (λz=>(lZ _ z).2.1 rfl) ho I.free
 .obtain⟨v,o,ho,hd⟩:=I.cell x c e;exact free c o (λz=>(lZ c z).2.2.1 x c e rfl) ho<|I.freeC x c e
 .obtain⟨e,n,ne,nf,d⟩:=I.pin p hp;have A7:p.1∉ch:=λz=>(lZ p.1 z).2.2.2 p hp rfl;exact⟨keep p.1 p.2 ne nf A7 e n,free p.1 p.2 A7 e n,ne,nf,d⟩
def Inv.un{t':Nat}(I:Inv X aC σ H s)(u:Un X.fs [] H H' s.heap h')(hok:HOk X.prog X.w H' h'):Inv X aC σ H' {s with heap:=h',toks:=t'}:=by
 obtain⟨m,⟨o,es,ep,ho,r⟩,_⟩:=id I.loc;obtain⟨sl,hL⟩:=u.any ho I.free (by simp);exact I.step (g':=s.gens) (d':=s.drawn) (ch:=[]) (λ_ z=>nomatch z) (λb o _ hb _ e n=>u.keep b o e n hb<|by simp) (λb o _ hb _ e n=>u.slot b o e n hb<|by simp) (λb o _ e n=>u.free b o e n<|by simp) (λb o _ e=>u.there b o e<|by simp) u.tups u.frzs u.tbls (λm' hm=>by obtain⟨o',mZ,Hz,qX,r'⟩:=hm;rw[ho]at qX;cases qX;exact⟨_,mZ,Hz,hL,r'⟩) hok I.bare
def Inv.call{g':Array wG}{t':Nat}{d':Drawn}{ch:Z aF}(I:Inv X aC σ H s)(u:Un (frs X.stack) ch H H' s.heap h')(hok:HOk X.prog X.w H' h')(hg:gI g')
  (lZ:∀b∈ch,(b∈X.ex\/X.s₀.heap.objs.size<=b)/\b≠X.env.locals/\(∀x c,X.env.cells.lookup x=some c->c≠b)/\∀p∈X.pn++aC,p.1≠b) :
  Inv X aC σ H' {s with heap:=h',gens:=g',drawn:=d',toks:=t'}:=by
 obtain⟨m,⟨o,es,ep,ho,r⟩,_⟩:=id I.loc;obtain⟨sl,hL⟩:=u.any ho I.free λz=>(lZ _ z).2.1 rfl;exact I.step (ch:=ch) lZ (λb o hL hb hc e n=>u.keep b o e n (λz=>(ax.mp<|I.stkSub b z).elim hL hb) hc) (λb o _ _ hc e n=>u.any e n hc) (λb o hc e n=>u.free b o e n hc) (λb o hc e=>u.there b o e hc) u.tups u.frzs u.tbls (λm' hm=>by obtain⟨o',mZ,Hz,qX,r'⟩:=hm;rw[ho]at qX;cases qX;exact⟨_,mZ,Hz,hL,r'⟩) hok hg
def Inv.turned{t':Nat}{it:aF}(I:Inv X aC σ H s)(k:∀b o,b≠it->s.heap.get? b=some o->h'.get? b=some o)(hn:H it=none)(hL:it≠X.env.locals)
  (h1:it∈X.ex\/X.s₀.heap.objs.size<=it) (h2:∀x c,X.env.cells.lookup x=some c->c≠it) (h3:∀p∈X.pn++aC,p.1≠it):Inv X aC σ H {s with heap:=h',toks:=t'}:=by
 have nit:∀b u,H b=some u->b≠it:=λb u e z=>by rw[z,hn]at e;cases e
 refine I.step (g':=s.gens) (d':=s.drawn) (ch:=[it]) (λb hb=>?_) (λb o _ _ hc e _=>k b o (λz=>hc<|by simp[z]) e) (λb o _ _ hc e _=>⟨o.slots,k b o (λz=>hc<|by simp[z]) e⟩) (λ_ _ _ _ n=>n)
  (λb o hc e=>⟨o,k b o (λz=>hc<|by simp[z]) e⟩) (λ_ _ e=>e) (λ_ _ _ e=>e) (λb ps e=>⟨#[],by rw[e];simp⟩) (λm hm=>?_) (λb u e=>?_) I.bare
 .have e:b=it:=by simpa using hb
  subst e;exact⟨h1,hL,h2,h3⟩
 .obtain⟨o,es,ep,ho,r⟩:=hm;exact⟨o,es,ep,k _ o (Ne.symm hL) ho,r⟩
 .refine(I.hok b u e).stay (λc v hc q=>k c v ?_ q) (λ_ q=>q) λ_ _ q=>q;rcases hc with z|z
  .rw[z];exact nit b u e
  .exact nit c _ z
def Inv.tok(I:Inv X aC σ H s)(t:Nat):Inv X aC σ H {s with toks:=t}:=I.un (h':=s.heap) (t':=t) Un.refl I.hok
theorem Inv.kept{t':Nat}(I:Inv X aC σ H s)(k:∀b u,s.heap.get? b=some u->h'.get? b=some u):Inv X aC σ H {s with heap:=h',toks:=t'}:=I.un (Un.kept k)<|I.hok.kept k
theorem Inv.laid{a:aF}{o:HO}{t':Nat}(I:Inv X aC σ H s)(k:∀b u,s.heap.get? b=some u->h'.get? b=some u)(hp:s.heap.objs.size<=a)(new:ObjOk X.prog X.w (upd H a o) h' a o) :
  Inv X aC σ (upd H a o) {s with heap:=h',toks:=t'}:=I.un (Un.laid k hp<|I.hok.fresh hp)<|I.hok.laid k hp new
theorem Inv.write{x e:aF}{o:HO}{t':Nat}(I:Inv X aC σ H s)(mu:Mut (H x))(he:e=x\/H e=some (.own x))(k:∀b u,b≠e->s.heap.get? b=some u->h'.get? b=some u)(zV:∃u,h'.get? e=some u)
  (new:ObjOk X.prog X.w (upd H x o) h' x o):Inv X aC σ (upd H x o) {s with heap:=h',toks:=t'}:=I.un (Un.write mu he k zV)<|I.hok.write mu he k zV new
def Inv.weak{σ':Z (Option V)}(I:Inv X aC σ H s)(hl:σ'.length=σ.length)(w:∀(i:Nat) v,σ'[i]?=some (some v)->σ[i]?=some (some v)):Inv X aC σ' H s:=
 ⟨I.ok,I.os,I.bare,I.base,let ⟨m,hn,rD⟩:=I.loc;⟨m,hn,λi x v e1 e2 e3=>rD i x v e1 (w i v e2) e3⟩,I.cell,I.free,I.freeC,I.pin,I.hok,hl.trans I.len⟩
def Inv.pins_of{uV:Z (aF×Obj)}(I:Inv X aC σ H s)(h:∀p∈uV,s.heap.get? p.1=some p.2/\H p.1=none/\p.1≠X.env.locals/\p.1∉X.fs/\∀v,p.2.data≠.cell v):Inv X uV σ H s:=
 ⟨I.ok,I.os,I.bare,I.base,I.loc,I.cell,I.free,I.freeC,λp hp=>(ay.mp hp).elim (λz=>I.pin p<|gr _ z) (h p),I.hok,I.len⟩
def agm{N:Z Str}(hN:N.Nodup){i j:Nat}{x:Str}(a:N[i]?=some x)(b:N[j]?=some x):i=j:=by obtain⟨h1,e1⟩:=aj.mp a;obtain⟨h2,e2⟩:=aj.mp b;exact(List.getElem_inj hN).mp (e1.trans e2.symm)
def aee{M:Model}{A:Around}{E:aA->aB->Prop}{i:Nat}{x:Str}{v:V}{u:aA}{Q:Unit->aB->Prop}(I:Inv X aC σ H s)(hN:X.N.Nodup)(hi:X.N[i]?=some x)(hx:Loc X.env.scope x)(r:RelV v u)
  (h:∀s',Inv X aC (σ.set i<|some v) H s'->(∃a,b9 a s.heap s'.heap/\(a=X.env.locals\/X.env.cells.lookup x=some a))->Q () s') (hf:X.fn x=true\/X.env.scope.names.lookup x=some .local:=by first|exact .inl rfl|exact .inr rfl|assumption):aG M A (storeName X.env x u) Q E s:=by
 obtain⟨m,hn,hl⟩:=id I.loc;have Hd:(X.env.scope.kind==.class||(X.env.scope.kind==.module&&X.env.locals != X.env.globals))=false:=by rw[I.ok.kind];rfl
 have hiσ:i<σ.length:=by rw[I.len];exact(aj.mp hi).1
 have cne:=I.cne;have nL:∀{a:aF} {h':Heap},(∃o,s.heap.get? a=some o/\H a=none)->b9 a s.heap h'->HOk X.prog X.w H h':=λ{a h'} ha hs b ob e=>by
  obtain⟨_,_,bX⟩:=ha;refine(I.hok b ob e).stay (λc w' hc q=>(hs.2 c ?_).trans q) (λ_ q=>q) λ_ _ q=>q;rintro rfl;rcases hc with rfl|hc
  .rw[bX]at e;cases e
  .rw[bX]at hc;cases hc
 rcases hx with hk|hk
 .refine wpAny_storeName_local hk hn (λh' gB hs=>?_) Hd;obtain⟨oL,_,_,Bs,_⟩:=id hn;refine h _ ⟨I.ok,I.os,I.bare,⟨λb o e n hb hx=>?_,λb o e n hb hx=>?_,I.base.free,λb o e hx=>?_,I.base.tups,I.base.frzs,I.base.tbls⟩,⟨_,gB,λj y v' e1 e2 e3=>?_⟩,λy c e=>?_,I.free,I.freeC,λp hp=>?_,nL ⟨oL,Bs,I.free⟩ hs,by simpa using I.len⟩ ⟨_,hs,.inl rfl⟩
  .exact(hs.2 b<|dw<|cw (bn e) I.ok.above).trans (I.base.keep b o e n hb hx)
  .obtain⟨sl,e1⟩:=I.base.slot b o e n hb hx;exact⟨sl,(hs.2 b<|dw<|cw (bn e) I.ok.above).trans e1⟩
  .obtain⟨o',e1⟩:=I.base.there b o e hx;exact⟨o',(hs.2 b<|dw<|cw (bn e) I.ok.above).trans e1⟩
  .by_cases hj:j=i
   .subst hj;rw[hi]at e1;cases e1;rw[List.getElem?_set_self hiσ]at e2;cases e2;exact⟨u,r,.inl ⟨hk,by simp⟩⟩
   .rw[List.getElem?_set_ne (Ne.symm hj)]at e2;obtain⟨u',r',q⟩:=hl j y v' e1 e2 e3;refine⟨u',r',?_⟩;rcases q with ⟨k,e⟩|⟨k,c,e,z⟩
    .refine .inl ⟨k,?_⟩;have:y≠x:=λe=>hj<|agm hN e1<|e▸hi;simp[this,e]
    .exact .inr ⟨k,c,e,z.sameBut hs<|cne y c e⟩
  .obtain⟨w',z⟩:=I.cell y c e;exact⟨w',z.sameBut hs<|cne y c e⟩
  .obtain⟨e,n,ne,nf,d⟩:=I.pin p hp;exact⟨(hs.2 p.1 ne).trans e,n,ne,nf,d⟩
 .have GX:X.fn x=true:=by
   rcases hf with z|z
   .exact z
   .rw[z]at hk;cases hk
  obtain⟨c,hc⟩:=I.ok.has x<|.inl hk;obtain⟨w',z⟩:=I.cell x c hc;refine wpAny_storeName_cell I.ok.kind hk hc z λh' iW hs=>?_;obtain⟨oc,hoc,Gy⟩:=id z;refine h {s with heap:=h'} ⟨I.ok,I.os,I.bare,⟨λb o e n hb hx=>?_,λb o e n hb hx=>?_,I.base.free,λb o e hx=>?_,I.base.tups,I.base.frzs,I.base.tbls⟩,⟨m,hn.sameBut hs<|Ne.symm<|cne x c hc,λj y v' e1 e2 e3=>?_⟩,λy c' e=>?_,I.free,I.freeC,λp hp=>?_,nL ⟨oc,hoc,I.freeC x c hc⟩ hs,by simpa using I.len⟩ ⟨c,hs,.inr hc⟩
  .exact(hs.2 b<|dw<|cw (bn e)<|I.ok.cab x c GX hc).trans (I.base.keep b o e n hb hx)
  .obtain⟨sl,e1⟩:=I.base.slot b o e n hb hx;exact⟨sl,(hs.2 b<|dw<|cw (bn e)<|I.ok.cab x c GX hc).trans e1⟩
  .obtain⟨o',e1⟩:=I.base.there b o e hx;exact⟨o',(hs.2 b<|dw<|cw (bn e)<|I.ok.cab x c GX hc).trans e1⟩
  .by_cases hj:j=i
   .subst hj;rw[hi]at e1;cases e1;rw[List.getElem?_set_self hiσ]at e2;cases e2;exact⟨u,r,.inr ⟨.inl hk,c,hc,iW⟩⟩
   .rw[List.getElem?_set_ne (Ne.symm hj)]at e2;obtain⟨u',r',q⟩:=hl j y v' e1 e2 e3;refine⟨u',r',?_⟩;rcases q with q|⟨k,c',e,z'⟩
    .exact .inl q
    .refine .inr ⟨k,c',e,z'.sameBut hs ?_⟩;rintro rfl;exact hj<|agm hN e1<|I.ok.inj _ _ _ e hc▸hi
  .by_cases hcc:c'=c
   .subst hcc;exact⟨_,iW⟩
   .obtain⟨w2,z2⟩:=I.cell y c' e;exact⟨w2,z2.sameBut hs hcc⟩
  .obtain⟨e,n,ne,nf,d⟩:=I.pin p hp;refine⟨(hs.2 p.1 ?_).trans e,n,ne,nf,d⟩;intro q;rw[q,hoc]at e;have q':oc=p.2:=gl e;exact d w'<|by rw[<-q'];exact Gy
def ahb{M:Model}{A:Around}{E:aA->aB->Prop}{i:Nat}{x:Str}{v:V}{u:aA}{Q:Unit->aB->Prop}(I:Inv X aC σ H s)(hN:X.N.Nodup)(hi:X.N[i]?=some x)(hx:Loc X.env.scope x)(r:RelV v u)
  (h:∀s',Inv X aC (σ.set i<|some v) H s'->Q () s') (hf:X.fn x=true\/X.env.scope.names.lookup x=some .local:=by first|exact .inl rfl|exact .inr rfl|assumption):aG M A (storeName X.env x u) Q E s:=
 aee I hN hi hx r (λs' I' _=>h s' I') hf
def Inv.call'{s':aB}{ch:Z aF}(I:Inv X aC σ H s)(ho:s'.os=s.os)(u:Un (frs X.stack) ch H H' s.heap s'.heap)(hok:HOk X.prog X.w H' s'.heap)(hg:gI s'.gens)
  (lZ:∀b∈ch,(b∈X.ex\/X.s₀.heap.objs.size<=b)/\b≠X.env.locals/\(∀x c,X.env.cells.lookup x=some c->c≠b)/\∀p∈X.pn++aC,p.1≠b):Inv X aC σ H' s':=by
 obtain⟨h',g',d',t',o'⟩:=s';have e:o'=s.os:=ho;subst e;exact I.call (g':=g') (t':=t') (d':=d') u hok hg lZ
end
abbrev XK:=aA->Option aF->Hp->Prop
noncomputable abbrev St:=Z<|Option V
abbrev VK:=V->Hp->Prop
abbrev TE:=St->Hp->VK->Prop
abbrev TT:=St->Hp->(Bool->Hp->Prop)->Prop
abbrev TA:=St->Hp->(Z V->Hp->Prop)->Prop
structure mP where
 nx:St->Hp->Prop
 rt:VK
 bk:St->Hp->Prop:=λ_ _=>False
 ct:St->Hp->Prop:=λ_ _=>False
abbrev TS:=mP->St->Hp->Prop
def EP(X:Cx)(aC:Z (aF×Obj))(σ:St)(Q:VK)(u:aA)(s':aB):Prop:=∃v H',Inv X aC σ H' s'/\RelV v u/\Q v H'
def TP(X:Cx)(aC:Z (aF×Obj))(σ:St)(Q:Bool->Hp->Prop)(b:Bool)(s':aB):Prop:=∃H',Inv X aC σ H' s'/\Q b H'
def AP(X:Cx)(aC:Z (aF×Obj))(σ:St)(Q:Z V->Hp->Prop)(us:Z aA)(s':aB):Prop:=∃vs H',Inv X aC σ H' s'/\Vals vs us/\Q vs H'
def SP(X:Cx)(aC:Z (aF×Obj))(D:mP)(f:Flow)(s':aB):Prop:=
 match f with
 | .next=>∃σ' H',Inv X aC σ' H' s'/\D.nx σ' H'
 | .brk=>∃σ' H',Inv X aC σ' H' s'/\D.bk σ' H'
 | .cont=>∃σ' H',Inv X aC σ' H' s'/\D.ct σ' H'
 | .ret u=>∃v σ' H',Inv X aC σ' H' s'/\RelV v u/\D.rt v H'
def PE(X:Cx)(e:Expr)(t:TE):Prop:=
 ∀(aC:Z (aF×Obj)) (s:aB) (σ:St) (H:Hp) (Q:VK),Inv X aC σ H s->t σ H Q->aG (aH X.prog X.w) X.A (bT e X.env) (EP X aC σ Q) X.xe s
def PT(X:Cx)(e:Expr)(t:TT):Prop:=
 ∀(aC:Z (aF×Obj)) (s:aB) (σ:St) (H:Hp) (Q:Bool->Hp->Prop),Inv X aC σ H s->t σ H Q->aG (aH X.prog X.w) X.A (isTrue e X.env<|bT e X.env) (TP X aC σ Q) X.xe s
def PW(X:Cx)(e:Expr)(t:TT):Prop:=
 ∀(kB:nG aA) (aC:Z (aF×Obj)) (s:aB) (σ:St) (H:Hp) (Q:Bool->Hp->Prop),Inv X aC σ H s->t σ H Q->aG (aH X.prog X.w) X.A (isTrue e X.env kB) (TP X aC σ Q) X.xe s
def PW.pt{X:Cx}{e:Expr}{t:TT}(h:PW X e t):PT X e t:=h _
def PA(X:Cx)(es:Z Expr)(t:TA):Prop:=
 ∀(pos:dU) (aC:Z (aF×Obj)) (s:aB) (σ:St) (H:Hp) (Q:Z V->Hp->Prop),Inv X aC σ H s->t σ H Q->aG (aH X.prog X.w) X.A (spliced<|dE pos<|aT es X.env) (AP X aC σ Q) X.xe s
def PS(X:Cx)(st:aY)(t:TS):Prop:=
 ∀(aC:Z (aF×Obj)) (s:aB) (σ:St) (H:Hp) (D:mP),Inv X aC σ H s->t D σ H->aG (aH X.prog X.w) X.A (exec st X.env) (SP X aC D) X.xe s
def PSs(X:Cx)(st:Z aY)(t:TS):Prop:=
 ∀(aC:Z (aF×Obj)) (s:aB) (σ:St) (H:Hp) (D:mP),Inv X aC σ H s->t D σ H->aG (aH X.prog X.w) X.A (execs st X.env) (SP X aC D) X.xe s
def thn{α:Type}{t:nG α}{Q Q':α->aB->Prop}{M:Model}{A:Around}{E:aA->aB->Prop}{s:aB}(h:aG M A t Q E s)(hQ:∀a s,Q a s->Q' a s):aG M A t Q' E s:=jc h hQ λ_ _ x=>x
section
variable{X:Cx}
def mG(i:Nat):TE:=λσ H Q=>∃v,σ[i]?=some (some v)/\Q v H
def tC(v:V):TE:=λ_ H Q=>Q v H
def aor{i:Nat}{x:Str}{pos:dU}(hN:X.N[i]?=some x)(hv:Vis X.env.scope x)(hd:(x==("__debug__" : Str))=false:=by decide)(oF:(x==("__classdict__" : Str))=false:=by decide):PE X (.Name x pos) (mG i):=by
 intro aC s σ H Q I h;obtain⟨v,e,h⟩:=h;obtain⟨m,hn,hl⟩:=I.loc;obtain⟨u,r,l⟩:=hl i x v hN e hv;have fin:EP X aC σ Q u s:=⟨v,H,I,r,h⟩;rcases l with ⟨hk,hm⟩|⟨hk,c,hc,vJ⟩
 .exact yU (wpAny_loadName_local I.ok.kind hk hn hm fin) hd
 .rcases hk with hk|hk
  .exact yU (wpAny_loadName_cell I.ok.kind hk hc vJ fin) hd
  .exact yU (wpAny_loadName_free I.ok.kind hk hc vJ fin oF) hd
def lh{i j pos}:PE X (.Constant (.int i) j pos) (tC<|.int i):=λ_ _ _ H _ I h=>wpAny_Constant_int ⟨.int i,H,I.tok _,⟨_,rfl⟩,h⟩
def aw8{b j pos}:PE X (.Constant (.bool b) j pos) (tC<|.bl b):=λ_ _ _ H _ I h=>Constant_bool ⟨.bl b,H,I,rfl,h⟩
def tj{j pos}:PE X (.Constant .none j pos) (tC .non):=λ_ _ _ H _ I h=>Constant_none ⟨.non,H,I,rfl,h⟩
def m9{x j pos}:PE X (.Constant (.str x) j pos) (tC<|.str x):=λ_ _ _ H _ I h=>Calls.Constant_str ⟨.str x,H,I.tok _,⟨_,rfl⟩,h⟩
def Gl(X:Cx)(x:Str):Prop:=X.env.kindOf x=some .globalImplicit
def al8{E:aA->aB->Prop}{aC:Z (aF×Obj)}{s:aB}{σ:St}{H:Hp}{x:Str}{u:aA}{pos:dU}{Q:aA->aB->Prop}(I:Inv X aC σ H s)(hg:Gl X x)(hm:X.mg x=some u)(h:Q u s)
  (hd:(x==("__debug__" : Str))=false:=by decide):aG (aH X.prog X.w) X.A (bT (.Name x pos) X.env) Q E s:=
 Calls.Name_function_global I.ok.kind hg (Calls.loadGlobal_global (by rw[I.ok.glob];exact I.mod.glob.keeps I.bk) hm h) hd
def uq{E:aA->aB->Prop}{aC:Z (aF×Obj)}{s:aB}{σ:St}{H:Hp}{x:Str}{u:aA}{pos:dU}{Q:aA->aB->Prop}(I:Inv X aC σ H s)(hg:Gl X x)(hm:X.mg x=none)(hv:bO x=some u)(h:Q u s)
  (hn:x≠"__name__":=by decide) (hd:(x==("__debug__" : Str))=false:=by decide):aG (aH X.prog X.w) X.A (bT (.Name x pos) X.env) Q E s:=by
 obtain⟨mb,h1,h2⟩:=I.mod.blt;exact Calls.Name_function_global I.ok.kind hg (Calls.loadGlobal_builtin (by rw[I.ok.glob];exact I.mod.glob.keeps I.bk) hm (by rw[I.ok.blt];exact h1.keeps I.bk) ((h2 x hn).trans hv) h) hd
def ak6{x:Str}{v:V}{u:aA}{pos:dU}(hg:Gl X x)(hm:X.mg x=some u)(r:RelV v u)(hd:(x==("__debug__" : Str))=false:=by decide):PE X (.Name x pos) (tC v):=
 λ_ _ _ H _ I h=>al8 I hg hm ⟨v,H,I,r,h⟩ hd
def aj9{x:Str}{v:V}{u:aA}{pos:dU}(hg:Gl X x)(hm:X.mg x=none)(hv:bO x=some u)(r:RelV v u)(hn:x≠"__name__":=by decide)(hd:(x==("__debug__" : Str))=false:=by decide):PE X (.Name x pos) (tC v):=
 λ_ _ _ H _ I h=>uq I hg hm hv ⟨v,H,I,r,h⟩ hn hd
variable{a b:Expr}{ta tb:TE}{pos:dU}
def PC(X:Cx)(op:oQ)(a b:Expr)(t:TE):Prop:=
 ∀(aC:Z (aF×Obj)) (s:aB) (σ:St) (H:Hp) (Q:VK),Inv X aC σ H s->t σ H Q->
  aG (aH X.prog X.w) X.A (bT a X.env) (λv s₁=>aG (aH X.prog X.w) X.A (bT b X.env) (λu s₂=>aG (aH X.prog X.w) X.A (aU op v u) (EP X aC σ Q) X.xe s₂) X.xe s₁) X.xe s
def tB(t:TE):TT:=λσ H Q=>t σ H λx H1=>∃c,x=.bl c/\Q c H1
def ao8{op:oQ}{t:TE}(h:PC X op a b t)(h1:fN op b=false:=by first|exact nobehind _ (by decide) (by decide)|rfl):PT X (.Compare a [op] [b] pos) (tB t):=by intro aC s σ H Q I hw;refine sZ (thn (h aC s σ H _ I hw) λv s1 h1=>thn h1 λu s2 h2=>thn h2 λc s3 ⟨x,H1,I1,r1,q1⟩=>?_) h1;obtain⟨d,rfl,q⟩:=q1;cases r1;exact ii ⟨H1,I1,q⟩
def yo{e:Expr}{t:TE}(h:PE X e t)(he:∀kB,isTrue e X.env kB=(do let v <-kB;rZ e.pos;mV [v] (truthy v)):=by intro _;rfl):PT X e (tB t):=by intro aC s σ H Q I hw;refine isTrue_plain (thn (h aC s σ H _ I hw) λv s1 ⟨x,H1,I1,r1,q1⟩=>?_)<|he _;obtain⟨d,rfl,q⟩:=q1;cases r1;exact ii ⟨H1,I1,q⟩
variable{tA Dl:TT}{aW:Z Expr}
def ayl(t u:TT):TT:=λσ H Q=>t σ H λc H1=>if c=true then u σ H1 Q else Q false H1
def tOr(t u:TT):TT:=λσ H Q=>t σ H λc H1=>if c=true then Q true H1 else u σ H1 Q
theorem um(ha:PT X a tA):PW X (.BoolOp .And [a] pos) tA:=by
 intro wh aC s σ H Q I h;refine isTrue_and<|thn (ha aC s σ H Q I h) λc s1 e=>?_;cases c with
 | true=>exact isTrue_and_nil e
 | false=>exact e
theorem Ji(ha:PT X a tA):PW X (.BoolOp .Or [a] pos) tA:=by
 intro wh aC s σ H Q I h;refine isTrue_or<|thn (ha aC s σ H Q I h) λc s1 e=>?_;cases c with
 | false=>exact isTrue_or_nil e
 | true=>exact e
theorem wn(ha:PT X a tA)(hb:PW X (.BoolOp .And (b::aW) pos) Dl):PW X (.BoolOp .And (a::b::aW) pos) (ayl tA Dl):=by
 intro wh aC s σ H Q I h;refine isTrue_and<|thn (ha aC s σ H _ I h) λc s1 ⟨H1,I1,q1⟩=>?_;cases c with
 | true=>exact hb wh aC s1 σ H1 Q I1 q1
 | false=>exact⟨H1,I1,q1⟩
theorem IK(ha:PT X a tA)(hb:PW X (.BoolOp .Or (b::aW) pos) Dl):PW X (.BoolOp .Or (a::b::aW) pos) (tOr tA Dl):=by
 intro wh aC s σ H Q I h;refine isTrue_or<|thn (ha aC s σ H _ I h) λc s1 ⟨H1,I1,q1⟩=>?_;cases c with
 | true=>exact⟨H1,I1,q1⟩
 | false=>exact hb wh aC s1 σ H1 Q I1 q1
def awd(ta tb:TE):TE:=λσ H Q=>ta σ H λx H1=>∃c,x=.bl c/\if c=true then tb σ H1 Q else Q (.bl false) H1
def ay3(ta tb:TE):TE:=λσ H Q=>ta σ H λx H1=>∃c,x=.bl c/\if c=true then Q (.bl true) H1 else tb σ H1 Q
def CF{op}{t:TE}(h:PE X a t):PE X (.BoolOp op [a] pos) t:=λaC s σ H Q I hw=>BoolOp_one<|h aC s σ H Q I hw
theorem AG(ha:PE X a ta)(hb:PE X (.BoolOp .And (b::aW) pos) tb):PE X (.BoolOp .And (a::b::aW) pos) (awd ta tb):=by
 intro aC s σ H Q I h;refine BoolOp_and<|thn (ha aC s σ H _ I h) λv s1 ⟨x,H1,I1,r1,q1⟩=>?_;obtain⟨c,rfl,q1⟩:=q1;cases r1;refine ii ?_;cases c with
 | true=>exact hb aC s1 σ H1 Q I1 q1
 | false=>exact⟨.bl false,H1,I1,rfl,q1⟩
theorem axc(ha:PE X a ta)(hb:PE X (.BoolOp .Or (b::aW) pos) tb):PE X (.BoolOp .Or (a::b::aW) pos) (ay3 ta tb):=by
 intro aC s σ H Q I h;refine BoolOp_or<|thn (ha aC s σ H _ I h) λv s1 ⟨x,H1,I1,r1,q1⟩=>?_;obtain⟨c,rfl,q1⟩:=q1;cases r1;refine ii ?_;cases c with
 | false=>exact hb aC s1 σ H1 Q I1 q1
 | true=>exact⟨.bl true,H1,I1,rfl,q1⟩
def tIf(t:TT)(ta tb:TE):TE:=λσ H Q=>t σ H λc H1=>if c=true then ta σ H1 Q else tb σ H1 Q
theorem ana{c:Expr}(hc:PT X c tA)(ha:PE X a ta)(hb:PE X b tb):PE X (.IfExp c a b pos) (tIf tA ta tb):=by
 intro aC s σ H Q I h;refine wpAny_IfExp<|thn (hc aC s σ H _ I h) λd s1 ⟨H1,I1,q1⟩=>?_;cases d with
 | true=>exact ha aC s1 σ H1 Q I1 q1
 | false=>exact hb aC s1 σ H1 Q I1 q1
end
def SqL(K:av)(H:Hp)(a:aF)(xs:Z V):Prop:=
 Rd H a (.lst xs)\/
  ∃(o:Obj)(its:Array aA)(n:Nat),K.lookup a=some o/\o.cls=.type "list"/\o.dict=none/\o.data=.seq its n/\its.size<=aE/\Vals xs its.toList
def SqT(K:av)(H:Hp)(a:aF)(xs:Z V):Prop:=
 Rd H a (.tup xs)\/
  ∃(o:Obj)(its:Array aA)(n:Nat),K.lookup a=some o/\o.cls=.type "tuple"/\o.data=.seq its n/\its.size<=aE/\Vals xs its.toList
noncomputable def azn:aA->Option V
 | .none=>some .non
 | .bool b=>some (.bl b)
 | .int i _=>some (.int i)
 | .str x _=>some (.str x)
 | .bytes b _=>some (.byt b)
 | .float b _=>some (.flt b)
 | .ref a=>some (.ref a)
 | .type n=>some (.ty n)
 | _=>none
theorem RelV.abs{x:V}{u:aA}(r:RelV x u):azn u=some x:=by
 cases x with
 | non=>cases r;rfl
 | bl _=>cases r;rfl
 | int _=>obtain⟨t,rfl⟩:=r;rfl
 | str _=>obtain⟨t,rfl⟩:=r;rfl
 | byt _=>obtain⟨t,rfl⟩:=r;rfl
 | flt _=>obtain⟨t,rfl⟩:=r;rfl
 | ref _=>cases r;rfl
 | ty _=>cases r;rfl
def RelV.inj{x y:V}{u:aA}(r:RelV x u)(q:RelV y u):x=y:=gl<|r.abs.symm.trans q.abs
theorem Vals.inj:∀{xs ys:Z V} {us:Z aA},Vals xs us->Vals ys us->xs=ys
 | _,_,_,.nil,.nil=>rfl
 | _,_,_,.cons r t,.cons r' t'=>by rw[r.inj r',Vals.inj t t']
section
variable{X:Cx}{aC:Z (aF×Obj)}{σ:St}{H:Hp}{s:aB}{a:aF}{xs ys:Z V}
def SqL.of{K:av}(h:H a=some (.lst xs)):SqL K H a xs:=.inl<|.inl h
def SqT.of{K:av}(h:H a=some (.tup xs)):SqT K H a xs:=.inl<|.inl h
def Inv.list(I:Inv X aC σ H s)(h:SqL X.K H a xs):∃its:Z aA,Vals xs its/\PlainL s.heap a its.toArray/\xs.length<=aE:=by
 rcases h with h|⟨o,its,n,hk,hc,hd,hs,hz,r⟩
 .obtain⟨z,its,n,r,e⟩:=h.ok I.hok;exact⟨its,r,⟨_,n,e,rfl,rfl,rfl⟩,z⟩
 .refine⟨its.toList,r,⟨o,n,I.kIn a o hk,hc,hd,by simpa using hs⟩,?_⟩;have e:=r.length;simp only[a8]at e;lia
def Inv.tuple(I:Inv X aC σ H s)(h:SqT X.K H a xs):∃its:Z aA,Vals xs its/\oP s.heap a its.toArray/\xs.length<=aE:=by
 rcases h with h|⟨o,its,n,hk,hc,hs,hz,r⟩
 .obtain⟨z,its,r,p⟩:=h.ok I.hok;exact⟨its,r,p,z⟩
 .refine⟨its.toList,r,⟨o,I.kIn a o hk,hc,n,by simpa using hs⟩,?_⟩;have e:=r.length;simp only[a8]at e;lia
def Inv.list_inj(I:Inv X aC σ H s)(h:SqL X.K H a xs)(h':SqL X.K H a ys):xs=ys:=by
 obtain⟨its,r,⟨o,n,e,_,_,d⟩,_⟩:=I.list h;obtain⟨its',r',⟨o',n',e',_,_,d'⟩,_⟩:=I.list h';rw[e]at e';cases e';rw[d]at d';injection d' with d1 _
 have:its=its':=by simpa using congrArg Array.toList d1
 subst this;exact r.inj r'
def Inv.tuple_inj(I:Inv X aC σ H s)(h:SqT X.K H a xs)(h':SqT X.K H a ys):xs=ys:=by
 obtain⟨its,r,⟨o,e,_,n,d⟩,_⟩:=I.tuple h;obtain⟨its',r',⟨o',e',_,n',d'⟩,_⟩:=I.tuple h';rw[e]at e';cases e';rw[d]at d';injection d' with d1 _
 have:its=its':=by simpa using congrArg Array.toList d1
 subst this;exact r.inj r'
end
noncomputable abbrev Cx.wish(X:Cx)(E:aA->aB->Prop):Cx:={X with xe:=E}
noncomputable abbrev Cx.nox(X:Cx):Cx:=X.wish λ_ _=>False
theorem Cx.Ok.wish{X:Cx}(ok:X.Ok)(E:aA->aB->Prop):(X.wish E).Ok:=
 ⟨ok.mod,ok.kind,ok.glob,ok.blt,ok.above,ok.inj,ok.has,ok.cab,ok.hd,ok.frames,ok.stk,ok.exf,ok.bs,ok.bsz,ok.noex,ok.exfs,ok.funs,ok.frf⟩
def Cx.Ok.unwish{X:Cx}{E:aA->aB->Prop}(ok:(X.wish E).Ok):X.Ok:=
 ⟨ok.mod,ok.kind,ok.glob,ok.blt,ok.above,ok.inj,ok.has,ok.cab,ok.hd,ok.frames,ok.stk,ok.exf,ok.bs,ok.bsz,ok.noex,ok.exfs,ok.funs,ok.frf⟩
section
variable{X:Cx}{aC:Z (aF×Obj)}{σ:St}{H:Hp}{s:aB}{E:aA->aB->Prop}
theorem Inv.wish(I:Inv X aC σ H s)(E:aA->aB->Prop):Inv (X.wish E) aC σ H s:=⟨I.ok.wish E,I.os,I.bare,I.base,I.loc,I.cell,I.free,I.freeC,I.pin,I.hok,I.len⟩
theorem Inv.unwish(I:Inv (X.wish E) aC σ H s):Inv X aC σ H s:=⟨I.ok.unwish,I.os,I.bare,I.base,I.loc,I.cell,I.free,I.freeC,I.pin,I.hok,I.len⟩
theorem SP.unwish{D:mP}{f:Flow}{s':aB}(h:SP (X.wish E) aC D f s'):SP X aC D f s':=by
 cases f with
 | next=>obtain⟨σ',H',I,q⟩:=h;exact⟨σ',H',I.unwish,q⟩
 | brk=>obtain⟨σ',H',I,q⟩:=h;exact⟨σ',H',I.unwish,q⟩
 | cont=>obtain⟨σ',H',I,q⟩:=h;exact⟨σ',H',I.unwish,q⟩
 | ret u=>obtain⟨v,σ',H',I,r,q⟩:=h;exact⟨v,σ',H',I.unwish,r,q⟩
theorem PSs.nox{st:Z aY}{t:TS}(h:PSs X.nox st t):PSs X st t:=λaC s σ H D I hw=>
 jc (h aC s σ H D (I.wish _) hw) (λ_ _ q=>q.unwish) λ_ _ z=>False.elim z
end
section
variable{X:Cx}{st:aY}{aW:Z aY}{t u:TS}{e:Expr}{te:TE}{pos:dU}
def awo:TS:=λD σ H=>D.nx σ H
def Il(t u:TS):TS:=λD σ H=>t {D with nx:=u D} σ H
def o0:PSs X [] awo:=λ_ _ σ H _ I h=>mI ⟨σ,H,I,h⟩
theorem lg(h1:PS X st t)(h2:PSs X aW u):PSs X (st::aW) (Il t u):=by
 intro aC s σ H D I h;refine Di<|thn (h1 aC s σ H {D with nx:=u D} I h) λf s1 q=>?_;cases f with
 | next=>
  obtain⟨σ',H',I',q⟩:=q;exact h2 aC s1 σ' H' D I' q
 | ret v=>exact q
 | brk=>exact q
 | cont=>exact q
theorem lq(h1:PS X st t):PSs X [st] t:=by
 intro aC s σ H D I h;refine Di<|thn (h1 aC s σ H D I h) λf s1 q=>?_;cases f with
 | next=>exact mI q
 | ret v=>exact q
 | brk=>exact q
 | cont=>exact q
def Inv.quiet{aC:Z (aF×Obj)}{σ:St}{H:Hp}{s:aB}(I:Inv X aC σ H s):interactive X.env=false:=by simp[interactive,I.ok.kind]
def aw5(te:TE):TS:=λD σ H=>te σ H λ_ H1=>D.nx σ H1
def qr(he:PE X e te)(hs:iI e none pos.line X.env=aR false:=by rfl):PS X (.Expr e pos) (aw5 te):=by intro aC s σ H D I h;exact wpAny_Expr_any (thn (he aC s σ H _ I h) λv s1 ⟨x,H1,I1,r1,q1⟩=>⟨σ,H1,I1,q1⟩) I.quiet hs
def ay1(te:TE):TS:=λD σ H=>te σ H D.rt
def mr(he:PE X e te):PS X (.Return (some e) pos) (ay1 te):=by intro aC s σ H D I h;exact wpAny_Return_some<|thn (he aC s σ H _ I h) λv s1 ⟨x,H1,I1,r1,q1⟩=>⟨x,σ,H1,I1,r1,q1⟩
def azg(c:TT)(t u:TS):TS:=λD σ H=>c σ H λb H1=>if b=true then t D σ H1 else u D σ H1
theorem rg{c:Expr}{a b:Z aY}{tc:TT}(hc:PT X c tc)(ha:PSs X a t)(hb:PSs X b u):PS X (.If c a b pos) (azg tc t u):=by
 intro aC s σ H D I h;refine wpAny_If<|thn (hc aC s σ H _ I h) λd s1 ⟨H1,I1,q1⟩=>?_;cases d with
 | true=>exact ha aC s1 σ H1 D I1 q1
 | false=>exact hb aC s1 σ H1 D I1 q1
end
abbrev TG:=V->St->Hp->(St->Hp->Prop)->Prop
abbrev TGs:=Z V->St->Hp->(St->Hp->Prop)->Prop
def PG(X:Cx)(aZ:Expr)(t:TG):Prop:=
 ∀(aC:Z (aF×Obj)) (s:aB) (σ:St) (H:Hp) (v:V) (u:aA) (Q:St->Hp->Prop),Inv X aC σ H s->RelV v u->t v σ H Q->
  aG (aH X.prog X.w) X.A (jP aZ X.env u) (λ_ s'=>∃σ' H',Inv X aC σ' H' s'/\Q σ' H') X.xe s
def PGs(X:Cx)(ts:Z Expr)(t:TGs):Prop:=
 ∀(aC:Z (aF×Obj)) (s:aB) (σ:St) (H:Hp) (vs:Z V) (us:Z aA) (Q:St->Hp->Prop),Inv X aC σ H s->Vals vs us->t vs σ H Q->
  aG (aH X.prog X.w) X.A (assignInOrder ((dM ts X.env).map (·.2)) us) (λ_ s'=>∃σ' H',Inv X aC σ' H' s'/\Q σ' H') X.xe s
abbrev HW:=V->V->V->Hp->(Hp->Prop)->Prop
def ayf(X:Cx)(t:HW):Prop:=
 ∀(aC:Z (aF×Obj)) (s:aB) (σ:St) (H:Hp) (o i v:V) (ov iv u:aA) (Q:Hp->Prop),Inv X aC σ H s->RelV o ov->RelV i iv->RelV v u->t o i v H Q->
  aG (aH X.prog X.w) X.A (setItem ov iv u) (λ_ s'=>∃H',Inv X aC σ H' s'/\Q H') X.xe s
section
variable{X:Cx}{pos:dU}
def rq(i:Nat):TG:=λv σ H Q=>Q (σ.set i<|some v) H
def Jw{i:Nat}{x:Str}(hN:X.N.Nodup)(hi:X.N[i]?=some x)(hx:Loc X.env.scope x)(hf:X.fn x=true\/X.env.scope.names.lookup x=some .local:=by first|exact .inl rfl|exact .inr rfl|assumption):PG X (.Name x pos) (rq i):=by intro aC s σ H v u Q I r h;exact AQ<|ahb I hN hi hx r (λs' I'=>⟨_,H,I',h⟩) hf
def Ey:TGs:=λvs σ H Q=>vs=[]/\Q σ H
def sS(t:TG)(u:TGs):TGs:=λvs σ H Q=>∃v r,vs=v::r/\t v σ H λσ' H'=>u r σ' H' Q
def ni:PGs X [] Ey:=by intro aC s σ H vs us Q I r h;obtain⟨e,h⟩:=h;subst e;cases r;exact assignInOrder_nil ⟨σ,H,I,h⟩
theorem ln{e:Expr}{es:Z Expr}{t:TG}{u:TGs}(h1:PG X e t)(h2:PGs X es u)
  (hs:(dM (e::es) X.env).map (·.2)=jP e X.env::(dM es X.env).map (·.2):=by rfl):PGs X (e::es) (sS t u):=by
 intro aC s σ H vs us Q I r h;obtain⟨v,vr,e1,h⟩:=h;subst e1;cases r with
 | cons r rr=>
  rw[hs];refine assignInOrder_cons<|thn (h1 aC s σ H _ _ _ I r h) λ_ s1 ⟨σ1,H1,I1,q1⟩=>?_;exact h2 aC s1 σ1 H1 _ _ Q I1 rr q1
def Cj(K:av)(n:Nat)(t:TGs):TG:=λv σ H Q=>∃a xs,v=.ref a/\SqT K H a xs/\xs.length=n/\t xs σ H Q
def si{es:Z Expr}{k:Nat}{t:TGs}{n:Nat}(hc:X.calm=true)(h:PGs X es t)
  (hn:(dM es X.env).length=n:=by rfl) (hst:(dM es X.env).findIdx? (·.1)=none:=by rfl):PG X (.Tuple es k pos) (Cj X.K n t):=by
 intro aC s σ H v u Q I r hw;obtain⟨a,xs,e1,hq,hl,hw⟩:=hw;subst e1;cases r;obtain⟨its,rv,ht,hz⟩:=I.tuple hq;refine assign_Tuple_tuple (I.ok.hd hc) ht (by simp[hn,<-hl,rv.length]) hst λh' hx=>?_;have I1:Inv X aC σ H {s with heap:=h'}:=I.kept (t':=s.toks) λb o e=>hx b o (dw<|bn e) e;exact h aC _ σ H xs _ Q I1 (by simpa using rv) hw
def aza(to ti:TE)(t:HW):TG:=λv σ H Q=>to σ H λo H1=>ti σ H1 λi H2=>t o i v H2 λH3=>Q σ H3
def aob{o i:Expr}{to ti:TE}{t:HW}(ho:PE X o to)(hi:PE X i ti)(hs:ayf X t)
  (ha:∀v,jP (.Subscript o i pos) X.env v=(do
   let ov <-mV [v] (bT o X.env)
   let iv <-mV [v,ov] (bT i X.env)
   rZ pos
   mV [v,ov,iv] (setItem ov iv v)
   release [v,ov,iv] []):=by intro _;rfl):PG X (.Subscript o i pos) (aza to ti t):=by
 intro aC s σ H v u Q I r h;rw[ha];refine ab<|f9<|thn (ho aC s σ H _ I h) λov s1 ⟨x,H1,I1,r1,q1⟩=>?_;refine ab<|f9<|thn (hi aC s1 σ H1 _ I1 q1) λiv s2 ⟨y,H2,I2,r2,q2⟩=>?_;refine ab<|fL<|ab<|f9<|thn (hs aC s2 σ H2 x y v ov iv u _ I2 r1 r2 r q2) λ_ s3 ⟨H3,I3,q3⟩=>?_;exact wpAny_release ⟨σ,H3,I3,q3⟩
def Co(te:TE)(g:TG):TS:=λD σ H=>te σ H λx H1=>g x σ H1 D.nx
def EY{tg e:Expr}{te:TE}{g:TG}(he:PE X e te)(hg:PG X tg g)(hs:swapsWithSole [tg] e pos.line X.env=aR false:=by rfl)(hw:swappedStores [tg] e X.env=aR none:=by rfl)
  (h1:(dM [tg] X.env).map (·.2)=[jP tg X.env]:=by rfl):PS X (.Assign [tg] e pos) (Co te g):=by
 intro aC s σ H D I h;refine wpAny_Assign_stores (thn (he aC s σ H _ I h) λv s1 ⟨x,H1,I1,r1,q1⟩=>?_) hs hw;rw[h1];exact thn (hg aC s1 σ H1 x v _ I1 r1 q1) λ_ s2 q=>q
def wz{i:Nat}{x:Str}{e:Expr}{te:TE}{qJ:dU}(hN:X.N.Nodup)(hi:X.N[i]?=some x)(hx:Loc X.env.scope x)(he:PE X e te)(hs:iI e (some<|.Name x qJ) pos.line X.env=aR false:=by rfl)(hf:X.fn x=true\/X.env.scope.names.lookup x=some .local:=by first|exact .inl rfl|exact .inr rfl|assumption) :
  PS X (.Assign [.Name x qJ] e pos) (Co te<|rq i):=by
 intro aC s σ H D I h;refine wpAny_Assign_Name (thn (he aC s σ H _ I h) λv s1 ⟨y,H1,I1,r1,q1⟩=>?_) hs;exact ahb I1 hN hi hx r1 (λs2 I2=>⟨_,H1,I2,q1⟩) hf
end
structure It where
 go:Nat->Hp->Prop
 yld:Nat->Hp->V->Hp->Prop
 stop:Nat->Hp->Prop
def mE(X:Cx)(aC:Z (aF×Obj))(H:Hp)(b:aF):Prop:=
 H b=none/\b≠X.env.locals/\b∉X.fs/\(b∈X.ex\/X.s₀.heap.objs.size<=b)/\(∀x c,X.env.cells.lookup x=some c->c≠b)/\∀p∈X.pn++aC,p.1≠b
def Inv.fpOk{X:Cx}{aC:Z (aF×Obj)}{σ:St}{H H':Hp}{s:aB}{b:aF}(I:Inv X aC σ H s)(hb:s.heap.objs.size<=b)(hn:H' b=none):mE X aC H' b:=by
 refine⟨hn,Nat.ne_of_gt<|cw I.lt hb,I.nofs hb,.inr<|ig I.sz hb,λx c e z=>?_,λp hp z=>?_⟩
 .obtain⟨v,q⟩:=I.cell x c e;exact absurd (cw q.lt<|by rw[z];exact hb)<|js _
 .exact absurd (cw (bn (I.pin p hp).1)<|by rw[z];exact hb)<|js _
structure sQ(P:aK)(w:aP)(K:av)(tg:Expr)(J:It)(fp:Z aF)(it:aF)(tn:Nat->Heap->Prop):Prop where
 mem:it∈fp
 obj:∀i h,tn i h->∀b∈fp,∃o,h.get? b=some o/\∀v,o.data≠.cell v
 keep:∀i h h',tn i h->(∀b∈fp,∀o,h.get? b=some o->h'.get? b=some o)->tn i h'
 item:∀(X:Cx),X.prog=P->X.w=w->X.K=K->X.calm=true->∀(i:Nat) (aC:Z (aF×Obj)) (s:aB) (σ:St) (H:Hp) (E:aA->aB->Prop),Inv X aC σ H s->(∀b∈fp,mE X aC H b)->tn i s.heap->J.go i H->
  aG (aH P w) X.A (bF<|.ref it) (λr s1=>∃u,r=some u/\
   aG (aH P w) X.A (gK tg (.ref it) u) (λ_ s2=>∃x H',Inv X aC σ H' s2/\RelV x u/\J.yld i H x H'/\tn (i+1) s2.heap/\∀b∈fp,H' b=none) E s1) E s
 done:∀(X:Cx),X.prog=P->X.w=w->X.K=K->X.calm=true->∀(i:Nat) (aC:Z (aF×Obj)) (s:aB) (σ:St) (H:Hp) (E:aA->aB->Prop),Inv X aC σ H s->(∀b∈fp,mE X aC H b)->tn i s.heap->J.stop i H->
  aG (aH P w) X.A (bF<|.ref it) (λr s1=>r=none/\Inv X aC σ H s1) E s
 self:∀(A:Around)(i:Nat)(s:aB)(Q:aA->aB->Prop)(E:aA->aB->Prop),tn i s.heap->Q (.ref it) s->aG (aH P w) A (kX<|.ref it) Q E s
abbrev TI:=St->Hp->(It->Hp->Prop)->Prop
def PIE(X:Cx)(aC:Z (aF×Obj))(σ:St)(tg:Expr)(R:It->Hp->Prop)(Dv:aA)(s2:aB):Prop:=
 ∃(it:aF)(fp:Z aF)(tn:Nat->Heap->Prop)(J:It)(H':Hp),Dv=.ref it/\Inv X aC σ H' s2/\sQ X.prog X.w X.K tg J fp it tn/\tn 0 s2.heap/\(∀b∈fp,mE X aC H' b)/\R J H'
def PI(X:Cx)(tg iter:Expr)(wi:TI):Prop:=
 ∀(aC:Z (aF×Obj)) (s:aB) (σ:St) (H:Hp) (R:It->Hp->Prop),Inv X aC σ H s->wi σ H R->
  aG (aH X.prog X.w) X.A (bT iter X.env) (λv s1=>aG (aH X.prog X.w) X.A (kX v) (PIE X aC σ tg R) X.xe s1) X.xe s
theorem IU{M:Model}{A:Around}{E:aA->aB->Prop}{s:aB}{tg:Expr}{it:aF}{u:aA}{o:Obj}{n:String}{vs:Array aA}{Q:Unit->aB->Prop}(ho:s.heap.get? it=some o)(hc:o.cls=.type n)(hd:o.data=.fields vs)
  (hn:["enumerate","zip","dict_itemiterator","dict_reverseitemiterator","odict_iterator","itertools.zip_longest","itertools.pairwise"].contains n=false) (hQ:Q () s):aG M A (gK tg (.ref it) u) Q E s:=by
 unfold gK;cases tg<;>first
  | exact af hQ
  | (cases u<;>first
    | exact af hQ
    | (refine ab<|wpAny_load ho ?_
       rw[hc,hd];show aG M A (if (["enumerate","zip","dict_itemiterator","dict_reverseitemiterator","odict_iterator","itertools.zip_longest","itertools.pairwise"].contains n&&vs[0]?==some (cE _))=true then _ else _) Q E s;rw[if_neg (by intro h;rw[hn,Bool.false_and]at h;cases h)];exact af hQ))
noncomputable def Itl(K:av)(a:aF):It:=
 ⟨λi H=>∃xs x,SqL K H a xs/\xs[i]?=some x,λi H x H'=>H'=H/\∀xs,SqL K H a xs->xs[i]?=some x,λi H=>∃xs,SqL K H a xs/\xs.length<=i⟩
noncomputable def Itt(K:av)(a:aF):It:=
 ⟨λi H=>∃xs x,SqT K H a xs/\xs[i]?=some x,λi H x H'=>H'=H/\∀xs,SqT K H a xs->xs[i]?=some x,λi H=>∃xs,SqT K H a xs/\xs.length<=i⟩
noncomputable def Itr(lo:Int)(n:Nat):It:=⟨λi _=>i<n,λi H x H'=>H'=H/\x=.int (lo+i),λi _=>n<=i⟩
def ad0{P:aK}{w:aP}{K:av}{tg:Expr}(a it:aF):sQ P w K tg (Itl K a) [it] it (λi h=>h.IsListIter it a i)where
 mem:=by simp
 obj:=λi h st b hb=>by
  have e:b=it:=by simpa using hb
  subst e;obtain⟨o,e,c,d⟩:=st;exact⟨o,e,λv z=>by rw[d]at z;cases z⟩
 keep:=λi h h' st k=>st.at λo e=>k it (by simp) o e
 item:=by intro X hP hw hK hc i aC s σ H E I hf st hg;subst hP hw hK;obtain⟨xs,x,hq,hx⟩:=hg;obtain⟨its,rv,p,hz⟩:=I.list hq;obtain⟨u,hu,ru⟩:=rv.get hx;obtain⟨f0,f1,f2,f3,f4,f5⟩:=hf it (by simp);refine wpAny_pyNext_list_item st p.isList (x:=u) (by simpa using hu) λh' aQ sb=>?_;have I1:Inv X aC σ H {s with heap:=h'}:=I.turned (t':=s.toks) (λb o hb e=>(sb.2 b hb).trans e) f0 f1 f3 f4 f5;obtain⟨o,e,c,d⟩:=id aQ;exact⟨u,rfl,IU (s:={s with heap:=h'}) e c d (by decide) ⟨x,H,I1,ru,⟨rfl,λys hy=>by rw[I.list_inj hy hq];exact hx⟩,aQ,λb hb=>(hf b hb).1⟩⟩
 done:=by intro X hP hw hK hc i aC s σ H E I hf st hg;subst hP hw hK;obtain⟨xs,hq,hx⟩:=hg;obtain⟨its,rv,p,hz⟩:=I.list hq;obtain⟨f0,f1,f2,f3,f4,f5⟩:=hf it (by simp);have hl:=rv.length;exact wpAny_pyNext_list_end (I.ok.hd hc) st p.isList (by simp;lia) λh' eb=>⟨rfl,I.turned (t':=s.toks) (λb o hb e=>eb b o hb e) f0 f1 f3 f4 f5⟩
 self:=λ_ _ _ _ _ st h=>wpAny_pyIter_listiter st h
def abr{P:aK}{w:aP}{K:av}{tg:Expr}(a it:aF):sQ P w K tg (Itt K a) [it] it (λi h=>h.IsTupleIter it a i)where
 mem:=by simp
 obj:=λi h st b hb=>by
  have e:b=it:=by simpa using hb
  subst e;obtain⟨o,e,c,d⟩:=st;exact⟨o,e,λv z=>by rw[d]at z;cases z⟩
 keep:=λi h h' st k=>st.at λo e=>k it (by simp) o e
 item:=by intro X hP hw hK hc i aC s σ H E I hf st hg;subst hP hw hK;obtain⟨xs,x,hq,hx⟩:=hg;obtain⟨its,rv,p,hz⟩:=I.tuple hq;obtain⟨u,hu,ru⟩:=rv.get hx;obtain⟨f0,f1,f2,f3,f4,f5⟩:=hf it (by simp);refine wpAny_pyNext_tuple_item st (show s.heap.IsTuple a its.toArray from p) (x:=u) (by simpa using hu) λh' aQ sb=>?_;have I1:Inv X aC σ H {s with heap:=h'}:=I.turned (t':=s.toks) (λb o hb e=>(sb.2 b hb).trans e) f0 f1 f3 f4 f5;obtain⟨o,e,c,d⟩:=id aQ;exact⟨u,rfl,IU (s:={s with heap:=h'}) e c d (by decide) ⟨x,H,I1,ru,⟨rfl,λys hy=>by rw[I.tuple_inj hy hq];exact hx⟩,aQ,λb hb=>(hf b hb).1⟩⟩
 done:=by intro X hP hw hK hc i aC s σ H E I hf st hg;subst hP hw hK;obtain⟨xs,hq,hx⟩:=hg;obtain⟨its,rv,p,hz⟩:=I.tuple hq;obtain⟨f0,f1,f2,f3,f4,f5⟩:=hf it (by simp);have hl:=rv.length;exact wpAny_pyNext_tuple_end (I.ok.hd hc) st (show s.heap.IsTuple a its.toArray from p) (by simp;lia) λh' eb=>⟨rfl,I.turned (t':=s.toks) (λb o hb e=>eb b o hb e) f0 f1 f3 f4 f5⟩
 self:=λ_ _ _ _ _ st h=>wpAny_pyIter_tupleiter st h
def aid{P:aK}{w:aP}{K:av}{tg:Expr}(it:aF)(lo:Int)(n:Nat):sQ P w K tg (Itr lo n) [it] it (λi h=>IsRangeIter h it (lo+(i:Nat)*1) ((n:Int)-(i:Nat)) 1)where
 mem:=by simp
 obj:=λi h st b hb=>by
  have e:b=it:=by simpa using hb
  subst e;exact⟨_,st,λv z=>by have z':Data.fields _=Data.cell v:=z;cases z'⟩
 keep:=λi h h' st k=>k it (by simp) _ st
 item:=by intro X hP hw hK hc i aC s σ H E I hf st hg;subst hP hw hK;obtain⟨f0,f1,f2,f3,f4,f5⟩:=hf it (by simp);have W:=wF.range (prog:=X.prog) (w:=X.w) (I.ok.hd hc) it lo 1 n;refine W.item i s _ _ hg st λv h' tk hv aQ kk=>?_;obtain⟨t,rfl⟩:=hv;have I1:Inv X aC σ H {s with heap:=h',toks:=tk}:=I.turned (λb o hb e=>kk b o (by simpa using hb) e) f0 f1 f3 f4 f5;refine⟨_,rfl,IU (s:={s with heap:=h',toks:=tk}) (n:="range_iterator") aQ rfl rfl (by decide) ⟨.int<|lo+i,H,I1,⟨t,?_⟩,⟨rfl,rfl⟩,aQ,λb hb=>(hf b hb).1⟩⟩;rw[Int.mul_one]
 done:=by intro X hP hw hK hc i aC s σ H E I hf st hg;subst hP hw hK;obtain⟨f0,f1,f2,f3,f4,f5⟩:=hf it (by simp);exact wpAny_pyNext_range_end (I.ok.hd hc) st (by have:n<=i:=hg;lia) λh' eb=>⟨rfl,I.turned (t':=s.toks) (λb o hb e=>eb b o hb e) f0 f1 f3 f4 f5⟩
 self:=λ_ _ _ _ _ st h=>wpAny_pyIter_rangeiter st h
section
variable{X:Cx}{tg:Expr}
def IL(K:av)(tl:TE):TI:=λσ H R=>tl σ H λx H1=>∃a,x=.ref a/\(∃xs,SqL K H1 a xs)/\R (Itl K a) H1
def azl(K:av)(tl:TE):TI:=λσ H R=>tl σ H λx H1=>∃a,x=.ref a/\(∃xs,SqT K H1 a xs)/\R (Itt K a) H1
def o7{l:Expr}{tl:TE}(hl:PE X l tl):PI X tg l (IL X.K tl):=by
 intro aC s σ H R I h;refine thn (hl aC s σ H _ I h) λv s1 ⟨x,H1,I1,r1,q1⟩=>?_;obtain⟨a,e,⟨xs,hq⟩,q⟩:=q1;subst e;cases r1;obtain⟨its,rv,p,hz⟩:=I1.list hq;refine cY p.isList ?_;refine⟨s1.heap.objs.size,[s1.heap.objs.size],_,_,H1,rfl,I1.kept (t':=s1.toks) λb o e=>ai _ e,ad0 a _,⟨_,a6 _ rfl,rfl,rfl⟩,λb hb=>?_,q⟩;have e:b=s1.heap.objs.size:=by simpa using hb
 subst e;exact I1.fpOk (am _)<|I1.hok.fresh<|am _
def wl{l:Expr}{tl:TE}(hl:PE X l tl):PI X tg l (azl X.K tl):=by
 intro aC s σ H R I h;refine thn (hl aC s σ H _ I h) λv s1 ⟨x,H1,I1,r1,q1⟩=>?_;obtain⟨a,e,⟨xs,hq⟩,q⟩:=q1;subst e;cases r1;obtain⟨its,rv,p,hz⟩:=I1.tuple hq;refine k6 (show s1.heap.IsTuple a its.toArray from p) ?_;refine⟨s1.heap.objs.size,[s1.heap.objs.size],_,_,H1,rfl,I1.kept (t':=s1.toks) λb o e=>ai _ e,abr a _,⟨_,a6 _ rfl,rfl,rfl⟩,λb hb=>?_,q⟩;have e:b=s1.heap.objs.size:=by simpa using hb
 subst e;exact I1.fpOk (am _)<|I1.hok.fresh<|am _
def ami{aC:Z (aF×Obj)}{σ:St}{H:Hp}{s:aB}{R:It->Hp->Prop}{E:aA->aB->Prop}{lo hi:Int}{t u v:sV}{tk:Nat}(I:Inv X aC σ H s)(h1:-(2^62)<=lo)(h2:lo<2^62)(h3:-(2^62)<=hi)(h4:hi<2^62)
  (q:R (Itr lo (hi-lo).toNat) H):aG (aH X.prog X.w) X.A (kX<|.ref s.heap.objs.size) (PIE X aC σ tg R) E {s with heap:=s.heap.push {cls:=.type "range",data:=.fields #[.int lo t,.int hi u,.int 1 v]},toks:=tk}:=by
 refine wpAny_pyIter_range (IsRange.new ..) (small_one h1 h2 h3 h4) ?_;have I1:Inv X aC σ H {s with heap:=s.heap.push {cls:=.type "range",data:=.fields #[.int lo t,.int hi u,.int 1 v]},toks:=tk}:=I.kept λb o e=>ai _ e;refine⟨(s.heap.push {cls:=.type "range",data:=.fields #[.int lo t,.int hi u,.int 1 v]}).objs.size,[(s.heap.push {cls:=.type "range",data:=.fields #[.int lo t,.int hi u,.int 1 v]}).objs.size],_,_,H,rfl,
  I1.kept (t':=tk) λb o e=>ai _ e,aid _ lo (hi-lo).toNat,?_,λb hb=>?_,q⟩
 .have e1:lo+((0:Nat):Int)*1=lo:=by simp
  have e2:(((hi-lo).toNat:Nat):Int)-((0:Nat):Int)=Builtin.Range.rangeSize lo hi 1:=by rw[rangeSize_one];split<;>lia
  show IsRangeIter _ _ (lo+((0:Nat):Int)*1) ((((hi-lo).toNat:Nat):Int)-((0:Nat):Int)) 1;rw[e1,e2];exact a6 _ rfl
 .have e:b=(s.heap.push {cls:=.type "range",data:=.fields #[.int lo t,.int hi u,.int 1 v]}).objs.size:=by simpa using hb
  subst e;exact I1.fpOk (am _)<|I1.hok.fresh<|am _
def IT(ta:TA):TI:=λσ H R=>ta σ H λvs H1=>∃j:Int,vs=[.int j]/\-(2^62)<=j/\j<2^62/\R (Itr 0 j.toNat) H1
theorem al5{a:Expr}{ta:TA}{p pos:dU}(hg:Gl X "range")(hm:X.mg "range" = none)(ha:PA X [a] ta)(hs:aT [a] X.env=[(false,bT a X.env)]:=by rfl):PI X tg (.Call (.Name "range" p) [a] [] pos) (IT ta):=by
 intro aC s σ H R I h;refine Call_<|uq I hg hm boot_range<|gw (thn (ha pos aC s σ H _ I h) λus s1 ⟨vs,H1,I1,r1,q1⟩=>?_) hs rfl;obtain⟨j,e,q1,q2,q⟩:=q1;subst e;cases r1 with
 | cons r rr=>
  cases rr;obtain⟨t,rfl⟩:=r;exact call_range_1<|ami I1 (by lia) (by lia) q1 q2<|by simpa using q
def ayh(wi:TI)(g:TG)(tb:TS):TS:=λD σ H=>wi σ H λJ H1=>∃W:Nat->Nat->St->Hp->Prop,(∃m,W 0 m σ H1)/\∀i m σ H,W i m σ H->
 (J.stop i H/\D.nx σ H)\/(J.go i H/\∃N:St->Hp->Prop,(∀σ' H',N σ' H'->∃m',m'<m/\W (i+1) m' σ' H')/\∀x H',J.yld i H x H'->g x σ H' λσ2 H2=>tb {D with nx:=N,ct:=N,bk:=D.nx} σ2 H2)
noncomputable def Cz(fp:Z aF)(h:Heap):Z (aF×Obj):=fp.filterMap λb=>(h.get? b).map λo=>(b,o)
def uz{fp:Z aF}{h:Heap}{b:aF}{o:Obj}(hb:b∈fp)(e:h.get? b=some o):(b,o)∈Cz fp h:=List.mem_filterMap.mpr ⟨b,hb,by rw[e];rfl⟩
theorem akb{fp:Z aF}{h:Heap}{p:aF×Obj}(hp:p∈Cz fp h):p.1∈fp/\h.get? p.1=some p.2:=by
 obtain⟨b,hb,e⟩:=List.mem_filterMap.mp hp;cases q:h.get? b with
 | none=>rw[q]at e;cases e
 | some o=>
  rw[q]at e;have e':(b,o)=p:=gl e;subst e';exact⟨hb,q⟩
def Inv.pinned{aC:Z (aF×Obj)}{σ:St}{H:Hp}{s:aB}{fp:Z aF}(I:Inv X aC σ H s)(hf:∀b∈fp,mE X aC H b)(ho:∀b∈fp,∃o,s.heap.get? b=some o/\∀v,o.data≠.cell v):Inv X (aC++Cz fp s.heap) σ H s:=
 I.pins_of λp hp=>(ay.mp hp).elim (λz=>I.pin p<|cf _ z) λz=>by obtain⟨hb,e⟩:=akb z;obtain⟨f0,f1,f2,_⟩:=hf p.1 hb;obtain⟨o,e',d⟩:=ho p.1 hb;rw[e]at e';cases e';exact⟨e,f0,f1,f2,d⟩
def Inv.unpinned{aC pl:Z (aF×Obj)}{σ:St}{H:Hp}{s:aB}(I:Inv X (aC++pl) σ H s):Inv X aC σ H s:=I.pins_of λp hp=>I.pin p<|cf _<|gr _ hp
theorem at8{iter:Expr}{body:Z aY}{wi:TI}{g:TG}{tb:TS}{pos:dU}(hp:Ff (aH X.prog X.w) X.A X.env X.xe)(hc:X.calm=true)(hi:PI X tg iter wi)(hg:PG X tg g)(hb:PSs X body tb)
  (hs:∀x,bY iter X.env x=aR x:=by intro _;rfl):PS X (.For tg iter body [] pos) (ayh wi g tb):=by
 intro aC s σ H D I h;refine wpAny_For (thn (hi aC s σ H _ I h) λv s1 h1=>thn h1 λDv s2 h2=>?_) hs;obtain⟨it,fp,tn,J,H2,e,I2,T,dL,f2,W,⟨m0,w0⟩,turn⟩:=h2;subst e;have mR:∀{H':Hp},(∀b∈fp,H' b=none)->∀b∈fp,mE X aC H' b:=λhn b hb=>⟨hn b hb,(f2 b hb).2⟩;refine codeAny_forLoop_any (λn s'=>∃i σ' H',Inv X aC σ' H' s'/\tn i s'.heap/\(∀b∈fp,H' b=none)/\W i n σ' H') ?_ m0 ⟨0,σ,H2,I2,dL,λb hb=>(f2 b hb).1,w0⟩;rintro n s3 ⟨i,σ3,H3,I3,dI,fr3,w3⟩;rcases turn i n σ3 H3 w3 with ⟨stop,qn⟩|⟨go,N,hN,step⟩
 .refine dY hp<|thn (T.done X rfl rfl rfl hc i aC s3 σ3 H3 X.xe I3 (mR fr3) dI stop) λr s4 ⟨hr,I4⟩=>?_;subst hr;exact mI ⟨σ3,H3,I4,qn⟩
 .refine dY hp<|thn (T.item X rfl rfl rfl hc i aC s3 σ3 H3 X.xe I3 (mR fr3) dI go) λr s4 ⟨u,hr,h4⟩=>?_;subst hr;refine dY hp<|thn h4 λ_ s5 ⟨x,H5,I5,r5,y5,eZ,Eg⟩=>?_;have I5':=I5.pinned (mR Eg)<|T.obj _ _ eZ;refine dY hp<|thn (hg _ s5 σ3 H5 x u _ I5' r5<|step x H5 y5) λ_ s6 ⟨σ6,H6,I6,q6⟩=>?_;refine dY hp<|thn (hb _ s6 σ6 H6 _ I6 q6) λf s7 q7=>?_;have again:∀{σ7:St} {H7:Hp},Inv X (aC++Cz fp s5.heap) σ7 H7 s7->N σ7 H7->∃m,m<n/\∃i σ' H',Inv X aC σ' H' s7/\tn i s7.heap/\(∀b∈fp,H' b=none)/\W i m σ' H':=λ{σ7 H7} I7 n7=>by
   obtain⟨m',hm,w7⟩:=hN σ7 H7 n7;refine⟨m',hm,i+1,σ7,H7,I7.unpinned,T.keep _ _ _ eZ λb hb o e=>(I7.pin (b,o)<|cf _<|cf _<|uz hb e).1,λb hb=>?_,w7⟩;obtain⟨o,e,d⟩:=T.obj _ _ eZ b hb;exact(I7.pin (b,o)<|cf _<|cf _<|uz hb e).2.1
  cases f with
  | next=>obtain⟨σ7,H7,I7,n7⟩:=q7;exact again I7 n7
  | cont=>obtain⟨σ7,H7,I7,n7⟩:=q7;exact again I7 n7
  | brk=>obtain⟨σ7,H7,I7,q7⟩:=q7;exact⟨σ7,H7,I7.unpinned,q7⟩
  | ret v=>obtain⟨x7,σ7,H7,I7,r7,q7⟩:=q7;exact⟨x7,σ7,H7,I7.unpinned,r7,q7⟩
end
def rn{K:av}{a:aF}{xs:Z V}{g:TG}{tb:TS}{D:mP}{σ:St}{H:Hp}(Pv:Nat->St->Hp->Prop)(h0:Pv 0 σ H)(hl:∀i σ H,i<=xs.length->Pv i σ H->SqL K H a xs)
  (hs:∀i x σ H,xs[i]?=some x->Pv i σ H->g x σ H λσ2 H2=>tb {D with nx:=Pv<|i+1,ct:=Pv<|i+1,bk:=D.nx} σ2 H2) (hd:∀σ H,Pv xs.length σ H->D.nx σ H) :
  ∃W:Nat->Nat->St->Hp->Prop,(∃m,W 0 m σ H)/\∀i m σ H,W i m σ H->
   ((Itl K a).stop i H/\D.nx σ H)\/((Itl K a).go i H/\∃N:St->Hp->Prop,(∀σ' H',N σ' H'->∃m',m'<m/\W (i+1) m' σ' H')/\∀x H',(Itl K a).yld i H x H'->g x σ H' λσ2 H2=>tb {D with nx:=N,ct:=N,bk:=D.nx} σ2 H2):=by
 refine⟨λi m σ H=>m=xs.length-i/\i<=xs.length/\Pv i σ H,⟨xs.length,by simp,fj _,h0⟩,?_⟩;rintro i m σ H ⟨rfl,hi,p⟩;have q:=hl i σ H hi p;by_cases bQ:i<xs.length
 .refine .inr ⟨⟨xs,xs[i],q,by simp[bQ]⟩,Pv<|i+1,λσ' H' p'=>⟨xs.length-(i+1),by lia,rfl,bQ,p'⟩,λx H' y=>?_⟩;obtain⟨e,y⟩:=y;subst e;exact hs i x σ _ (y xs q) p
 .have e:i=xs.length:=by lia
  subst e;exact .inl ⟨⟨xs,q,am _⟩,hd σ H p⟩
def JN{K:av}{a:aF}{xs:Z V}{g:TG}{tb:TS}{D:mP}{σ:St}{H:Hp}(Pv:Nat->St->Hp->Prop)(h0:Pv 0 σ H)(hl:∀i σ H,i<=xs.length->Pv i σ H->SqT K H a xs)
  (hs:∀i x σ H,xs[i]?=some x->Pv i σ H->g x σ H λσ2 H2=>tb {D with nx:=Pv<|i+1,ct:=Pv<|i+1,bk:=D.nx} σ2 H2) (hd:∀σ H,Pv xs.length σ H->D.nx σ H) :
  ∃W:Nat->Nat->St->Hp->Prop,(∃m,W 0 m σ H)/\∀i m σ H,W i m σ H->
   ((Itt K a).stop i H/\D.nx σ H)\/((Itt K a).go i H/\∃N:St->Hp->Prop,(∀σ' H',N σ' H'->∃m',m'<m/\W (i+1) m' σ' H')/\∀x H',(Itt K a).yld i H x H'->g x σ H' λσ2 H2=>tb {D with nx:=N,ct:=N,bk:=D.nx} σ2 H2):=by
 refine⟨λi m σ H=>m=xs.length-i/\i<=xs.length/\Pv i σ H,⟨xs.length,by simp,fj _,h0⟩,?_⟩;rintro i m σ H ⟨rfl,hi,p⟩;have q:=hl i σ H hi p;by_cases bQ:i<xs.length
 .refine .inr ⟨⟨xs,xs[i],q,by simp[bQ]⟩,Pv<|i+1,λσ' H' p'=>⟨xs.length-(i+1),by lia,rfl,bQ,p'⟩,λx H' y=>?_⟩;obtain⟨e,y⟩:=y;subst e;exact hs i x σ _ (y xs q) p
 .have e:i=xs.length:=by lia
  subst e;exact .inl ⟨⟨xs,q,am _⟩,hd σ H p⟩
def qq{lo:Int}{n:Nat}{g:TG}{tb:TS}{D:mP}{σ:St}{H:Hp}(Pv:Nat->St->Hp->Prop)(h0:Pv 0 σ H)
  (hs:∀i σ H,i<n->Pv i σ H->g (.int<|lo+i) σ H λσ2 H2=>tb {D with nx:=Pv<|i+1,ct:=Pv<|i+1,bk:=D.nx} σ2 H2) (hd:∀σ H,Pv n σ H->D.nx σ H) :
  ∃W:Nat->Nat->St->Hp->Prop,(∃m,W 0 m σ H)/\∀i m σ H,W i m σ H->
   ((Itr lo n).stop i H/\D.nx σ H)\/((Itr lo n).go i H/\∃N:St->Hp->Prop,(∀σ' H',N σ' H'->∃m',m'<m/\W (i+1) m' σ' H')/\∀x H',(Itr lo n).yld i H x H'->g x σ H' λσ2 H2=>tb {D with nx:=N,ct:=N,bk:=D.nx} σ2 H2):=by
 refine⟨λi m σ H=>m=n-i/\i<=n/\Pv i σ H,⟨n,by simp,fj _,h0⟩,?_⟩;rintro i m σ H ⟨rfl,hi,p⟩;by_cases bQ:i<n
 .refine .inr ⟨bQ,Pv<|i+1,λσ' H' p'=>⟨n-(i+1),by lia,rfl,bQ,p'⟩,λx H' y=>?_⟩;obtain⟨e,y⟩:=y;subst e y;exact hs i σ _ bQ p
 .have e:i=n:=by lia
  subst e;exact .inl ⟨am _,hd σ H p⟩
abbrev R2:=V->V->Hp->VK->Prop
def OpR(X:Cx)(f:aA->aA->nG aA)(r:R2):Prop:=
 ∀(aC:Z (aF×Obj)) (s:aB) (σ:St) (H:Hp) (x y:V) (v u:aA) (Q:VK),Inv X aC σ H s->RelV x v->RelV y u->r x y H Q->
  aG (aH X.prog X.w) X.A (f v u) (EP X aC σ Q) X.xe s
def UnR(X:Cx)(f:aA->nG aA)(r:V->Hp->VK->Prop):Prop:=
 ∀(aC:Z (aF×Obj)) (s:aB) (σ:St) (H:Hp) (x:V) (v:aA) (Q:VK),Inv X aC σ H s->RelV x v->r x H Q->
  aG (aH X.prog X.w) X.A (f v) (EP X aC σ Q) X.xe s
def tz(X:Cx)(f:aA)(r:Z V->Hp->VK->Prop):Prop:=
 ∀(aC:Z (aF×Obj)) (s:aB) (σ:St) (H:Hp) (xs:Z V) (us:Z aA) (Q:VK),Inv X aC σ H s->Vals xs us->r xs H Q->
  aG (aH X.prog X.w) X.A (call f us) (EP X aC σ Q) X.xe s
def tOp(r:R2)(ta tb:TE):TE:=λσ H Q=>ta σ H λx H1=>tb σ H1 λy H2=>r x y H2 Q
def tUn(r:V->Hp->VK->Prop)(ta:TE):TE:=λσ H Q=>ta σ H λx H1=>r x H1 Q
def rI(C:Int->Int->Prop)(g:Int->Int->V):R2:=λx y H Q=>∃i j,x=.int i/\y=.int j/\C i j/\Q (g i j) H
def rI0(g:Int->Int->V):R2:=λx y H Q=>∃i j,x=.int i/\y=.int j/\Q (g i j) H
def rU(g:Int->V):V->Hp->VK->Prop:=λx H Q=>∃i,x=.int i/\Q (g i) H
section
variable{X:Cx}{a b c:Expr}{ta tb tc:TE}{pos:dU}
def HM(ha:PE X a ta)(hb:PE X b tb){aC:Z (aF×Obj)}{s:aB}{σ:St}{H:Hp}{R:V->V->Hp->Prop}(I:Inv X aC σ H s)
  (h:ta σ H λx H1=>tb σ H1 λy H2=>R x y H2) {Q:aA->aB->Prop} {f:aA->aA->nG aA}
  (hf:∀v u s2 x y H2,Inv X aC σ H2 s2->RelV x v->RelV y u->R x y H2->aG (aH X.prog X.w) X.A (f v u) Q X.xe s2) :
  aG (aH X.prog X.w) X.A (bT a X.env) (λv s₁=>aG (aH X.prog X.w) X.A (bT b X.env) (λu s₂=>aG (aH X.prog X.w) X.A (f v u) Q X.xe s₂) X.xe s₁) X.xe s:=by
 refine thn (ha aC s σ H _ I h) λv s1 ⟨x,H1,I1,r1,q1⟩=>?_;refine thn (hb aC s1 σ H1 _ I1 q1) λu s2 ⟨y,H2,I2,r2,q2⟩=>?_;exact hf v u s2 x y H2 I2 r1 r2 q2
def nj{op:Operator}{r:R2}(ho:OpR X (cP op) r)(ha:PE X a ta)(hb:PE X b tb):PE X (.BinOp a op b pos) (tOp r ta tb):=by intro aC s σ H Q I h;exact wpAny_BinOp<|HM ha hb I h λv u s2 x y H2 I2 rx ry q=>ho aC s2 σ H2 x y v u Q I2 rx ry q
def vZ{op:UnaryOp}{r:V->Hp->VK->Prop}(ho:UnR X (unaryOp op) r)(ha:PE X a ta):PE X (.UnaryOp op a pos) (tUn r ta):=by intro aC s σ H Q I h;exact UnaryOp_<|thn (ha aC s σ H _ I h) λv s1 ⟨x,H1,I1,r1,q1⟩=>ho aC s1 σ H1 x v Q I1 r1 q1
def opI{f:aA->aA->nG aA}{C:Int->Int->Prop}{g:Int->Int->Int}
  (uU:∀(i j:Int)(t u:sV)(s:aB)(Q:aA->aB->Prop)(E:aA->aB->Prop),C i j->Q (.int (g i j) s.toks) {s with toks:=s.toks+1}->aG (aH X.prog X.w) X.A (f (.int i t)<|.int j u) Q E s) :
  OpR X f (rI C λi j=>.int<|g i j):=by
 intro aC s σ H x y v u Q I rx ry h;obtain⟨i,j,rfl,rfl,hc,q⟩:=h;obtain⟨t,rfl⟩:=rx;obtain⟨t',rfl⟩:=ry;exact uU i j t t' s _ _ hc ⟨.int<|g i j,H,I.tok _,⟨_,rfl⟩,q⟩
def ax8{f:aA->aA->nG aA}{g:Int->Int->Int}
  (uU:∀(i j:Int)(t u:sV)(s:aB)(Q:aA->aB->Prop)(E:aA->aB->Prop),Q (.int (g i j) s.toks) {s with toks:=s.toks+1}->aG (aH X.prog X.w) X.A (f (.int i t)<|.int j u) Q E s) :
  OpR X f (rI0 λi j=>.int<|g i j):=by
 intro aC s σ H x y v u Q I rx ry h;obtain⟨i,j,rfl,rfl,q⟩:=h;obtain⟨t,rfl⟩:=rx;obtain⟨t',rfl⟩:=ry;exact uU i j t t' s _ _ ⟨.int<|g i j,H,I.tok _,⟨_,rfl⟩,q⟩
def Ev{f:aA->aA->nG aA}{g:Int->Int->Bool}
  (uU:∀(i j:Int)(t u:sV)(s:aB)(Q:aA->aB->Prop)(E:aA->aB->Prop),Q (.bool<|g i j) s->aG (aH X.prog X.w) X.A (f (.int i t)<|.int j u) Q E s) :
  OpR X f (rI0 λi j=>.bl<|g i j):=by
 intro aC s σ H x y v u Q I rx ry h;obtain⟨i,j,rfl,rfl,q⟩:=h;obtain⟨t,rfl⟩:=rx;obtain⟨t',rfl⟩:=ry;exact uU i j t t' s _ _ ⟨.bl<|g i j,H,I,rfl,q⟩
def ays(i j:Int):Prop:=0<j/\j<1073741824
def ayv(i j:Int):Prop:=0<=j/\j<=1000000/\i.natAbs<2^64
def CMul(i j:Int):Prop:=(-(2^64)<i/\i<2^64)\/(-(2^64)<j/\j<2^64)
def CMul.ok{i j:Int}(h:CMul i j):IntMulOk i j:=by
 rcases h with ⟨h1,h2⟩|⟨h1,h2⟩
 .exact .of_left<|intBits_le_64 h1 h2
 .exact .of_right<|intBits_le_64 h1 h2
def pj:OpR X (cP .Add) (rI0 λi j=>.int<|i+j):=ax8 λ_ _ _ _ _ _ _ q=>add_int q
def AE:OpR X (cP .Sub) (rI0 λi j=>.int<|i-j):=ax8 λ_ _ _ _ _ _ _ q=>sub_int q
def aoe:OpR X (cP .Mult) (rI CMul λi j=>.int<|i*j):=opI λ_ _ _ _ _ _ _ hc q=>mul_int q hc.ok
def JM:OpR X (cP .FloorDiv) (rI ays λi j=>.int<|i/j):=opI λi j _ _ _ _ _ hc q=>by have h1:(0:Int)<j:=hc.1;have h2:j<1073741824:=hc.2;exact floordiv_int (by lia) (by rw[Int.fdiv_eq_ediv_of_nonneg i (by lia)];exact q)<|.inl<|PyProof.noPylong_small<|by lia
def u9:OpR X (cP .Mod) (rI (λ_ j=>0<j) λi j=>.int<|i % j):=opI λi j _ _ _ _ _ hc q=>by have h1:(0:Int)<j:=hc;exact mod_int' (by lia)<|by rw[Int.fmod_eq_emod_of_nonneg i (by lia)];exact q
def Jc:OpR X (cP .Pow) (rI ayv λi j=>.int<|i^j.toNat):=opI λ_ _ _ _ _ _ _ hc q=>pow_int_small hc.1 hc.2.1 hc.2.2 q
def unI{f:aA->nG aA}{g:Int->Int}
  (uU:∀(i:Int)(t:sV)(s:aB)(Q:aA->aB->Prop)(E:aA->aB->Prop),Q (.int (g i) s.toks) {s with toks:=s.toks+1}->aG (aH X.prog X.w) X.A (f<|.int i t) Q E s) :
  UnR X f (rU λi=>.int<|g i):=by
 intro aC s σ H x v Q I rx h;obtain⟨i,rfl,q⟩:=h;obtain⟨t,rfl⟩:=rx;exact uU i t s _ _ ⟨.int<|g i,H,I.tok _,⟨_,rfl⟩,q⟩
def yk:UnR X (unaryOp .USub) (rU λi=>.int<|-i):=unI λ_ _ _ _ _ q=>neg_int q
end
noncomputable def ayd:V->V->Bool
 | .non,.non=>true|.non,.int _=>true|.int _,.non=>true|.non,.bl _=>true|.bl _,.non=>true|.non,.str _=>true|.str _,.non=>true
 | .int _,.int _=>true|.bl _,.bl _=>true|.str _,.str _=>true|.byt _,.byt _=>true
 | .int _,.str _=>true|.str _,.int _=>true|.bl _,.str _=>true|.str _,.bl _=>true
 | _,_=>false
def rEq:R2:=λx y H Q=>ayd x y=true/\Q (.bl<|decide<|x=y) H
def rNe:R2:=λx y H Q=>ayd x y=true/\Q (.bl<|!decide (x=y)) H
def akm{i j:Int}:decide (V.int i=V.int j)=(i==j):=by rw[jk];simp
def aou{i j:Bool}:decide (V.bl i=V.bl j)=(i==j):=by rw[jk];simp
def xp{i j:Str}:decide (V.str i=V.str j)=(i==j):=by rw[jk];simp
def al9{i j:Array UInt8}:decide (V.byt i=V.byt j)=(i.toList==j.toList):=by rw[jk];cases i;cases j;simp
section
variable{X:Cx}{a b c:Expr}{ta tb tc:TE}{pos:dU}
def n0{aC:Z (aF×Obj)}{σ:St}{H:Hp}{s:aB}{Q:VK}{k k':Bool}(I:Inv X aC σ H s)(q:Q (.bl k) H)(e:k=k'):EP X aC σ Q (.bool k') s:=by subst e;exact⟨.bl k,H,I,rfl,q⟩
theorem xt:OpR X (aU .Eq) rEq:=by
 intro aC s σ H x y v u Q I rx ry h;obtain⟨hs,q⟩:=h;cases x with
 | non=>
  cases rx;cases y with
  | non=>cases ry;exact PySem.EqNone.eq_none_none (n0 I q<|by simp)
  | bl j=>cases ry;exact PySem.EqNone.eq_none_bool (n0 I q<|by simp)
  | int j=>obtain⟨t',rfl⟩:=ry;exact PySem.EqNone.eq_none_int (n0 I q<|by simp)
  | str j=>obtain⟨t',rfl⟩:=ry;exact PySem.EqNone.eq_none_str (n0 I q<|by simp)
  | _=>exact absurd (show false=true from hs) aq
 | bl i=>
  cases rx;cases y with
  | non=>cases ry;exact PySem.EqNone.eq_bool_none (n0 I q<|by simp)
  | bl j=>cases ry;exact eq_bool (n0 I q aou)
  | str j=>obtain⟨t',rfl⟩:=ry;exact PySem.EqMixed.eq_bool_str (n0 I q<|by simp)
  | _=>exact absurd (show false=true from hs) aq
 | int i=>
  obtain⟨t,rfl⟩:=rx;cases y with
  | non=>cases ry;exact PySem.EqNone.eq_int_none (n0 I q<|by simp)
  | int j=>obtain⟨t',rfl⟩:=ry;exact eq_int (n0 I q akm)
  | str j=>obtain⟨t',rfl⟩:=ry;exact PySem.EqMixed.eq_int_str (n0 I q<|by simp)
  | _=>exact absurd (show false=true from hs) aq
 | str i=>
  obtain⟨t,rfl⟩:=rx;cases y with
  | non=>cases ry;exact PySem.EqNone.eq_str_none (n0 I q<|by simp)
  | bl j=>cases ry;exact PySem.EqMixed.eq_str_bool (n0 I q<|by simp)
  | int j=>obtain⟨t',rfl⟩:=ry;exact PySem.EqMixed.eq_str_int (n0 I q<|by simp)
  | str j=>obtain⟨t',rfl⟩:=ry;exact eq_str (n0 I q xp)
  | _=>exact absurd (show false=true from hs) aq
 | byt i=>
  obtain⟨t,rfl⟩:=rx;cases y with
  | byt j=>obtain⟨t',rfl⟩:=ry;exact PySem.W.eq_bytes (n0 I q al9)
  | _=>exact absurd (show false=true from hs) aq
 | _=>cases y<;>exact absurd (show false=true from hs) aq
theorem EF:OpR X (aU .NotEq) rNe:=by
 intro aC s σ H x y v u Q I rx ry h;obtain⟨hs,q⟩:=h;cases x with
 | non=>
  cases rx;cases y with
  | non=>cases ry;exact PySem.EqNone.ne_none_none (n0 I q<|by simp)
  | bl j=>cases ry;exact PySem.EqNone.ne_none_bool (n0 I q<|by simp)
  | int j=>obtain⟨t',rfl⟩:=ry;exact PySem.EqNone.ne_none_int (n0 I q<|by simp)
  | str j=>obtain⟨t',rfl⟩:=ry;exact PySem.EqNone.ne_none_str (n0 I q<|by simp)
  | _=>exact absurd (show false=true from hs) aq
 | bl i=>
  cases rx;cases y with
  | non=>cases ry;exact PySem.EqNone.ne_bool_none (n0 I q<|by simp)
  | bl j=>cases ry;exact ne_bool (n0 I q<|congrArg not aou)
  | str j=>obtain⟨t',rfl⟩:=ry;exact PySem.EqMixed.ne_bool_str (n0 I q<|by simp)
  | _=>exact absurd (show false=true from hs) aq
 | int i=>
  obtain⟨t,rfl⟩:=rx;cases y with
  | non=>cases ry;exact PySem.EqNone.ne_int_none (n0 I q<|by simp)
  | int j=>obtain⟨t',rfl⟩:=ry;exact ne_int (n0 I q<|congrArg not akm)
  | str j=>obtain⟨t',rfl⟩:=ry;exact PySem.EqMixed.ne_int_str (n0 I q<|by simp)
  | _=>exact absurd (show false=true from hs) aq
 | str i=>
  obtain⟨t,rfl⟩:=rx;cases y with
  | non=>cases ry;exact PySem.EqNone.ne_str_none (n0 I q<|by simp)
  | bl j=>cases ry;exact PySem.EqMixed.ne_str_bool (n0 I q<|by simp)
  | int j=>obtain⟨t',rfl⟩:=ry;exact PySem.EqMixed.ne_str_int (n0 I q<|by simp)
  | str j=>obtain⟨t',rfl⟩:=ry;exact ne_str (n0 I q<|congrArg not xp)
  | _=>exact absurd (show false=true from hs) aq
 | byt i=>
  obtain⟨t,rfl⟩:=rx;cases y with
  | byt j=>obtain⟨t',rfl⟩:=ry;exact PySem.W.ne_bytes (n0 I q<|congrArg not al9)
  | _=>exact absurd (show false=true from hs) aq
 | _=>cases y<;>exact absurd (show false=true from hs) aq
def Cp:OpR X (aU .Lt) (rI0 λi j=>.bl<|decide<|i<j):=Ev λ_ _ _ _ _ _ _ q=>lt_int q
def asb:OpR X (aU .LtE) (rI0 λi j=>.bl<|decide<|i<=j):=Ev λ_ _ _ _ _ _ _ q=>le_int q
def Cu:OpR X (aU .Gt) (rI0 λi j=>.bl<|decide<|j<i):=Ev λ_ _ _ _ _ _ _ q=>gt_int q
def aub:OpR X (aU .GtE) (rI0 λi j=>.bl<|decide<|j<=i):=Ev λ_ _ _ _ _ _ _ q=>ge_int q
theorem ajz:OpR X (aU .IsNot) (λx y H Q=>y=.non/\Q (.bl<|!decide (x=.non)) H):=by
 intro aC s σ H x y v u Q I rx ry h;obtain⟨rfl,q⟩:=h;cases ry;refine isnot_none_gen<|n0 I q ?_;cases x<;>first
  | (cases rx;rfl)
  | (obtain⟨t,rfl⟩:=rx;rfl)
def oh(b:Expr){op:oQ}(h:op≠.In:=by decide)(h2:op≠.NotIn:=by decide):fN op b=false:=by
 have e1:(op==oQ.In)=false:=by cases op<;>first|rfl|exact absurd rfl h
 have e2:(op==oQ.NotIn)=false:=by cases op<;>first|rfl|exact absurd rfl h2
 cases b<;>simp[fN,e1,e2]
def sw{op:oQ}{r:R2}(ho:OpR X (aU op) r)(ha:PE X a ta)(hb:PE X b tb)(hm:fN op b=false):PE X (.Compare a [op] [b] pos) (tOp r ta tb):=by intro aC s σ H Q I h;exact wpAny_Compare1 (HM ha hb I h λv u s2 x y H2 I2 rx ry q=>ho aC s2 σ H2 x y v u Q I2 rx ry q) hm
def atx(t:TE):TT:=λσ H Q=>t σ H λx H'=>∃k,x=.bl k/\Q k H'
def nv{op:oQ}{r:R2}(ho:OpR X (aU op) r)(ha:PE X a ta)(hb:PE X b tb)(hm:fN op b=false):PT X (.Compare a [op] [b] pos) (atx<|tOp r ta tb):=by
 intro aC s σ H Q I h;refine sZ (thn (ha aC s σ H _ I h) λv s1 ⟨x,H1,I1,r1,q1⟩=>thn (hb aC s1 σ H1 _ I1 q1) λu s2 ⟨y,H2,I2,r2,q2⟩=>
  thn (ho aC s2 σ H2 x y v u _ I2 r1 r2 q2) λc s3 ⟨z,H3,I3,r3,k,e,q3⟩=>?_) hm
 subst e;cases r3;exact ii ⟨H3,I3,q3⟩
def aok(r r':R2)(ta tb tc:TE):TE:=λσ H Q=>ta σ H λx H1=>tb σ H1 λy H2=>r x y H2 λz H3=>∃k,z=.bl k/\
 (if k=true then tc σ H3 λw' H4=>r' y w' H4 Q else Q (.bl false) H3)
theorem ag8{op wP:oQ}{r r':R2}(ho:OpR X (aU op) r)(qX:OpR X (aU wP) r')(ha:PE X a ta)(hb:PE X b tb)(hc:PE X c tc)
  (hm:lastMarks [op,wP] [b,c]=false:=by with_unfolding_all rfl):PE X (.Compare a [op,wP] [b,c] pos) (aok r r' ta tb tc):=by
 intro aC s σ H Q I h;refine Compare_chain (thn (ha aC s σ H _ I h) λv s1 ⟨x,H1,I1,r1,q1⟩=>chain_link (thn (hb aC s1 σ H1 _ I1 q1) λu s2 ⟨y,H2,I2,r2,q2⟩=>
  thn (ho aC s2 σ H2 x y v u _ I2 r1 r2 q2) λd s3 ⟨z,H3,I3,r3,k,e,q3⟩=>?_)) hm
 subst e;cases r3;refine ii ?_;cases k with
 | false=>exact ite_ff ⟨.bl false,H3,I3,rfl,q3⟩
 | true=>exact ite_tt<|chain_last<|thn (hc aC s3 σ H3 _ I3 q3) λw' s4 ⟨z',H4,I4,r4,q4⟩=>qX aC s4 σ H4 y z' u w' Q I4 r2 r4 q4
theorem ahc{op wP:oQ}{r r':R2}(ho:OpR X (aU op) r)(qX:OpR X (aU wP) r')(ha:PE X a ta)(hb:PE X b tb)(hc:PE X c tc)
  (hm:lastMarks [op,wP] [b,c]=false:=by with_unfolding_all rfl):PT X (.Compare a [op,wP] [b,c] pos) (atx<|aok r r' ta tb tc):=by
 intro aC s σ H Q I h;refine isTrue_chain (thn (ha aC s σ H _ I h) λv s1 ⟨x,H1,I1,r1,q1⟩=>test_link (thn (hb aC s1 σ H1 _ I1 q1) λu s2 ⟨y,H2,I2,r2,q2⟩=>
  thn (ho aC s2 σ H2 x y v u _ I2 r1 r2 q2) λd s3 ⟨z,H3,I3,r3,k,e,q3⟩=>?_)) hm
 subst e;cases r3;refine ii ?_;cases k with
 | false=>
  obtain⟨k',e',q'⟩:=q3;cases e';exact ite_ff ⟨H3,I3,q'⟩
 | true=>
  refine ite_tt<|test_last<|thn (hc aC s3 σ H3 _ I3 q3) λw' s4 ⟨z',H4,I4,r4,q4⟩=>thn (qX aC s4 σ H4 y z' u w' _ I4 r2 r4 q4) λd' s5 ⟨z2,H5,I5,r5,k2,e2,q5⟩=>?_;subst e2;cases r5;exact ii ⟨H5,I5,q5⟩
def AB:(aE:Nat)<2^63:=by rw[cD];decide
def ux:OpR X (cP .Add) (λx y H Q=>∃i j,x=.str i/\y=.str j/\i.length+j.length<=aE/\Q (.str<|i++j) H):=by intro aC s σ H x y v u Q I rx ry h;obtain⟨i,j,rfl,rfl,hz,q⟩:=h;obtain⟨t,rfl⟩:=rx;obtain⟨t',rfl⟩:=ry;exact add_str (λt' tk=>⟨.str<|i++j,H,I.tok _,⟨_,rfl⟩,q⟩) hz
theorem wm{x:V}{us:Z aA}(r:Vals [x] us):∃u,us=[u]/\RelV x u:=by
 cases r with
 | cons r1 r2=>cases r2;exact⟨_,rfl,r1⟩
theorem asu{x y:V}{us:Z aA}(r:Vals [x,y] us):∃u w',us=[u,w']/\RelV x u/\RelV y w':=by
 cases r with
 | cons r1 r2=>
  cases r2 with
  | cons r3 r4=>cases r4;exact⟨_,_,rfl,r1,r3⟩
end
structure ObjM(h:Heap)(x dx C:aF)(mA:Str->Option aA):Prop where
 obj:h.get? x=some (PySem.W.instObj C dx)
 ns:h.Ns1 dx mA
 ne:dx≠x
def alg{h:Heap}{dx:aF}{mA:Str->Option aA}(n:h.Ns1 dx mA):∃od,h.get? dx=some od/\∀name,PySem.W.lookIn name od=some (mA name):=by
 obtain⟨o,es,ep,ho,hd,hk,_,hm⟩:=n;refine⟨o,ho,λname=>?_⟩;have e:=hm name;unfold nsFind findBy at e;rw[<-Array.find?_toList]at e;unfold PySem.W.lookIn;rw[hd];dsimp only;split
 .rename_i y q
  rw[q]at e;exact congrArg some e
 .rename_i q
  rw[q]at e;have a:es.toList.any (·.refKey)=false:=by rw[List.any_eq_false];intro y hy;obtain⟨z,t,fG⟩:=hk y<|Array.mem_toList_iff.mp hy;simp[fV.refKey,fG]
  have a':¬es.toList.any (·.refKey)=true:=by rw[a];exact aq
  rw[if_neg a'];exact congrArg some e
def ObjM.look{h:Heap}{x dx C:aF}{mA:Str->Option aA}(I:ObjM h x dx C mA):∃od,PySem.W.InstAt h x (PySem.W.instObj C dx) C (some od)/\∀name,PySem.W.lookIn name od=some (mA name):=
 let ⟨od,ho,hl⟩:=alg I.ns
 ⟨od,⟨I.obj,rfl,rfl,ho⟩,hl⟩
theorem RelO.some_of{v:V}{o:Option aA}(r:RelO (some v) o):∃u,o=some u/\RelV v u:=by
 cases o with
 | none=>exact(show False from r).elim
 | some u=>exact⟨u,rfl,r⟩
section
variable{P:aK}{w:aP}{H H':Hp}{h h':Heap}{a C dx:aF}{fs fs':Z (Str×V)}
def aqk(hok:HOk P w H h)(e:H a=some (.ins C dx fs)):∃mA,ObjM h a dx C mA/\(∀f,RelO (fs.lookup f)<|mA f)/\PySem.Within mA (fs.map (·.1))/\fs.length<=1000/\H dx=some (.own a):=by obtain⟨d,z,ne,ob,mA,n,r,q⟩:=(show ObjOk P w H h a (.ins C dx fs)from hok a _ e);exact⟨mA,⟨ob,n,ne⟩,r,q,z,d⟩
end
structure Cls(K:av)(C:aF):Prop where
 pg:PySem.W.plainGet K C Str.empty=true
 hd:PySem.W.hasDictIn K C=true
 po:PySem.W.plainOver K C=true
 sa:PySem.W.findIn K (.ref C) "__setattr__" = some (some<|.builtin "object.__setattr__")
def Cls.get{K:av}{C:aF}(c:Cls K C)(f:Str):PySem.W.plainGet K C f=true:=c.pg
section
variable{X:Cx}{aC:Z (aF×Obj)}{σ:St}{H:Hp}{s:aB}{A:Around}{E:aA->aB->Prop}{Q:aA->aB->Prop}{c:aA}{b:Bool}
inductive pG(K:av)(H:Hp):V->aA->Prop where
 | non:pG K H .non (.type "NoneType")
 | bl (x:Bool):pG K H (.bl x) (.type "bool")
 | int (i:Int):pG K H (.int i) (.type "int")
 | str (x:Str):pG K H (.str x) (.type "str")
 | flt (x:UInt64):pG K H (.flt x) (.type "float")
 | lst {a:aF} {xs:Z V} (e:H a=some (.lst xs)):pG K H (.ref a) (.type "list")
 | frz {a:aF} {o:Obj} {xs:Z V} (e:H a=some (.frz o<|.lst xs)):pG K H (.ref a) (.type "list")
 | tup {a:aF} {xs:Z V} (e:H a=some (.tup xs)):pG K H (.ref a) (.type "tuple")
 | dK {a:aF} {kvs:Z (Key×V)} (e:H a=some (.dK kvs)):pG K H (.ref a) (.type "dict")
 | dT {a:aF} {kvs:Z (Z Key×V)} (e:H a=some (.dT kvs)):pG K H (.ref a) (.type "dict")
 | ins {a C dx:aF} {fs:Z (Str×V)} (e:H a=some (.ins C dx fs)) (cl:Cls K C) (ha:PySem.W.findIn K (.ref C) "__class__" = some (some<|.builtin "object.__class__"))
   (hn:PySem.W.specialIn K (.builtin "object.__class__") "__get__" = some (some<|.builtin "getset_descriptor.__get__")) (htk:PySem.W.takesIn K (.builtin "object.__class__")=some true)
   (hm:PySem.W.mroIn K C (.type "object")=some true):pG K H (.ref a) (.ref C)
theorem aj1{x:V}{u t:aA}(I:Inv X aC σ H s)(rx:RelV x u)(ty:pG X.K H x t)(e:PySem.W.kitOne X.K t c=some b)(h:∀tk,Q (.bool b) {s with toks:=tk}) :
  aG (aH X.prog X.w) A (call (.builtin "isinstance") [u,c]) Q E s:=by
 cases ty with
 | non=>cases (show u=aA.none from rx);exact iq PySem.W.kitx_none I.kIn True.intro e (λz=>nomatch z) h
 | bl y=>cases (show u=aA.bool y from rx);exact iq PySem.W.kitx_bool I.kIn True.intro e (λz=>nomatch z) h
 | int i=>obtain⟨t,q⟩:=(show ∃t,u=aA.int i t from rx);cases q;exact iq PySem.W.kitx_int I.kIn True.intro e (λz=>nomatch z) h
 | str y=>obtain⟨t,q⟩:=(show ∃t,u=aA.str y t from rx);cases q;exact iq PySem.W.kitx_str I.kIn True.intro e (λz=>nomatch z) h
 | flt y=>obtain⟨t,q⟩:=(show ∃t,u=aA.float y t from rx);cases q;exact iq PySem.W.kitx_float I.kIn True.intro e (λz=>nomatch z) h
 | @lst a xs ea=>
  cases (show u=aA.ref a from rx);obtain⟨_,_,n,_,h1⟩:=(show ObjOk X.prog X.w H s.heap a (.lst xs)from I.hok a _ ea);exact iq PySem.W.kitx_list I.kIn ⟨_,h1,rfl⟩ e (λz=>nomatch z) h
 | @frz a ob xs ea=>
  cases (show u=aA.ref a from rx);obtain⟨_,_,_,n,_,h1⟩:=(show ObjOk X.prog X.w H s.heap a (.frz ob<|.lst xs)from I.hok a _ ea);exact iq PySem.W.kitx_list I.kIn ⟨_,h1,rfl⟩ e (λz=>nomatch z) h
 | @tup a xs ea=>
  cases (show u=aA.ref a from rx);obtain⟨_,_,_,p⟩:=(show ObjOk X.prog X.w H s.heap a (.tup xs)from I.hok a _ ea);obtain⟨o,h1,h2,_⟩:=p;exact iq PySem.W.kitx_tuple I.kIn ⟨o,h1,h2⟩ e (λz=>nomatch z) h
 | @dK a kvs ea=>
  cases (show u=aA.ref a from rx);obtain⟨_,_,vs,_,p⟩:=(show ObjOk X.prog X.w H s.heap a (.dK kvs)from I.hok a _ ea);obtain⟨o,es,ep,h1,h2,_⟩:=p;exact iq PySem.W.kitx_dict I.kIn ⟨o,h1,h2.1⟩ e (λz=>nomatch z) h
 | @dT a kvs ea=>
  cases (show u=aA.ref a from rx);obtain⟨_,_,xs,_,o,es,ep,h1,h2,_⟩:=(show ObjOk X.prog X.w H s.heap a (.dT kvs)from I.hok a _ ea);exact iq PySem.W.kitx_dict I.kIn ⟨o,h1,h2.1⟩ e (λz=>nomatch z) h
 | @ins a C dx fs ea cl ha hn htk hm=>
  cases (show u=aA.ref a from rx);obtain⟨mA,O,_⟩:=aqk I.hok ea;obtain⟨od,J,_⟩:=O.look;exact iq (PySem.W.kitx_own (cl.get _) cl.hd ha hn htk hm) I.kIn J e (λz=>nomatch z) h
end
structure Room(k:Nat)(A:Around):Prop where
 hd:A.handled=none
 dp:A.depth+3*k+5<recursionLimit
 un:A.units+16*k+200<bH
def Room.mono{j k:Nat}{A:Around}(r:Room k A)(h:j<=k):Room j A:=⟨r.hd,by have:=r.dp;lia,by have:=r.un;lia⟩
theorem Room.deeper{k:Nat}{A:Around}(r:Room (k+1) A)(env:qA):Room k (A.deeper env):=
 ⟨r.hd,by have:=r.dp;show A.depth+1+3*k+5<_;lia,by have:=r.un;show A.units+3+16*k+200<_;lia⟩
theorem Room.depth{k:Nat}{A:Around}(r:Room k A):A.depth<recursionLimit:=by have:=r.dp;lia
theorem Room.units{k:Nat}{A:Around}(r:Room k A):A.units+64<bH:=by have:=r.un;lia
def Al:TA:=λ_ H Q=>Q [] H
def vf(ta:TE)(tr:TA):TA:=λσ H Q=>ta σ H λx H1=>tr σ H1 λxs H2=>Q (x::xs) H2
section
variable{X:Cx}{e:Expr}{es:Z Expr}{te:TE}{t:TA}{pos:dU}
def lc:PA X [] Al:=λ_ _ _ _ H Q I h=>Calls.spliced_nil ⟨[],H,I,.nil,h⟩
def aqm(ha:PE X e te)(hr:PA X es t)(hs:aT (e::es) X.env=(false,bT e X.env)::aT es X.env:=by rfl):PA X (e::es) (vf te t):=by intro pos aC s σ H Q I h;rw[hs];show aG _ _ (spliced ((false,bT e X.env)::dE pos (aT es X.env))) _ _ s;refine Calls.spliced_cons<|thn (ha aC s σ H _ I h) λu s1 ⟨x,H1,I1,r1,q1⟩=>?_;exact thn (hr pos aC s1 σ H1 _ I1 q1) λus s2 ⟨xs,H2,I2,r2,q2⟩=>⟨x::xs,H2,I2,.cons r1 r2,q2⟩
def Ck(t:TA):TE:=λσ H Q=>t σ H λxs H1=>xs.length<=aE/\∀p,H1 p=none->Q (.ref p) (upd H1 p<|.tup xs)
def ayo(t:TA):TE:=λσ H Q=>t σ H λxs H1=>xs.length<=aE/\∀p,H1 p=none->Q (.ref p) (upd H1 p<|.lst xs)
def my{x1}(h:PA X es t):PE X (.Tuple es x1 pos) (Ck t):=by intro aC s σ H Q I hq;refine wpAny_Tuple_spliced<|thn (h pos aC s σ H _ I hq) λus s1 ⟨xs,H1,I1,r,z,q⟩=>⟨by rw[<-r.length];exact z,?_⟩;have hf:H1 s1.heap.objs.size=none:=I1.hok.fresh<|am _;refine⟨.ref s1.heap.objs.size,upd H1 s1.heap.objs.size<|.tup xs,I1.laid (t':=s1.toks) (λb u e=>ai _ e) (am _) ?_,rfl,q _ hf⟩;exact⟨z,us,r,⟨_,a6 _ rfl,rfl,_,rfl⟩⟩
def ot(h:PA X es t):PE X (.List es pos) (ayo t):=by intro aC s σ H Q I hq;refine wpAny_List_spliced<|thn (h pos aC s σ H _ I hq) λus s1 ⟨xs,H1,I1,r,z,q⟩=>⟨by rw[<-r.length];exact z,?_⟩;have hf:H1 s1.heap.objs.size=none:=I1.hok.fresh<|am _;refine⟨.ref s1.heap.objs.size,upd H1 s1.heap.objs.size<|.lst xs,I1.laid (t':=s1.toks) (λb u e=>ai _ e) (am _) ?_,rfl,q _ hf⟩;exact⟨z,us,0,r,a6 _ rfl⟩
end
abbrev Sp:=Z V->Hp->VK->XK->Prop
abbrev CXT:=Z qA->Hp->aB->XK->aA->aB->Prop
structure Ez(P:aK)(w:aP)(K:av)(mg:Str->Option aA)(base:Heap)(A:Around)(outer:Z qA)(s:aB)(H:Hp):Prop where
 frames:A.frames=some outer
 mod:Mod K mg base
 bs:∀b o,base.get? b=some o->s.heap.get? b=some o/\H b=none
 bsz:base.objs.size<=s.heap.objs.size
 funs:s.heap.FunFrames base outer
 frf:∀b∈frs outer,H b=none
 hok:HOk P w H s.heap
 bare:gI s.gens
def CE(outer:Z qA)(P:aK)(w:aP)(H:Hp)(s:aB)(Q:VK)(u:aA)(s':aB):Prop:=
 ∃v H',s'.os=s.os/\gI s'.gens/\Un (frs outer) [] H H' s.heap s'.heap/\HOk P w H' s'.heap/\RelV v u/\Q v H'
def CR(CX:CXT)(outer:Z qA)(P:aK)(w:aP)(H:Hp)(s:aB)(Q:VK)(E:XK)(r:oO)(s':aB):Prop:=
 match r with
 | .ok (.ret u)=>CE outer P w H s Q u s'
 | .ok _=>False
 | .error e=>CX outer H s E e s'
structure qm(P:aK)(w:aP)(K:av)(mg:Str->Option aA)(base:Heap)(CX:CXT)(k:Nat)(f:aF)(fd:cH)(ps:Z Str)(sp:Sp):Prop where
 len:∀vs H Q E,sp vs H Q E->vs.length=ps.length
 run:∀(A:Around)(outer:Z qA)(s:aB)(H:Hp)(args:Args)(us:Z aA)(vs:Z V)(Q:VK)(E:XK),Room k A->Ez P w K mg base A outer s H->nJ s fd args (ps.zip us)->Vals vs us->sp vs H Q E->
  dD (aH P w) A (.call (.ref f) args) (CR CX outer P w H s Q E) s
section
variable{X:Cx}{aC:Z (aF×Obj)}{σ:St}{H:Hp}{s s':aB}
def Inv.env0(I:Inv X aC σ H s):Ez X.prog X.w X.K X.mg X.base X.A X.stack s H:=
 ⟨I.ok.frames,I.ok.mod,I.bs,ig I.ok.bsz I.sz,I.stack,I.stkFree,I.hok,I.bare⟩
def Inv.after{Q:VK}{u:aA}(I:Inv X aC σ H s)(h:CE X.stack X.prog X.w H s Q u s'):EP X aC σ Q u s':=by obtain⟨v,H',os,bare,un,hok,r,q⟩:=h;obtain⟨hh,g,d,t,FG⟩:=s';obtain rfl:FG=s.os:=os;exact⟨v,H',I.call (h':=hh) (g':=g) (d':=d) (t':=t) (ch:=[]) un hok bare λb z=>absurd z<|by simp,r,q⟩
end
def IR(sp:Sp)(vP:Z V)(E:XK)(t:TA):TE:=λσ H Q=>t σ H λvs H1=>sp (vs++vP) H1 Q E
def Binds(K:av)(fd:cH)(ps:Z Str)(ds:Z aA):Prop:=
 ∀(s:aB)(us:Z aA),K.In s.heap->(us++ds).length=ps.length->nJ s fd ⟨us,[]⟩ (ps.zip<|us++ds)
def Binds.all{K:av}{fd:cH}{ps:Z Str}(h:∀us:Z aA,us.length=ps.length->bindArgs fd ⟨us,[]⟩=aR (ps.zip us)):Binds K fd ps []:=λs us _ hl=>by rw[ff]at hl⊢;exact .of_eq<|h us hl
def Jg(CX:CXT)(X:Cx)(E:XK):Prop:=∀(aC:Z (aF×Obj)) (σ:St) (H:Hp) (s:aB) (e:aA) (s':aB),Inv X aC σ H s->CX X.stack H s E e s'->X.xe e s'
section
variable{X:Cx}{CX:CXT}{k:Nat}{f C:aF}{fd:cH}{ps:Z Str}{sp:Sp}{vP:Z V}{ds:Z aA}{E:XK}{x m:Str}{p pos jG:dU}{e o:Expr}{es:Z Expr}{ta:TE}{t:TA}
theorem apd{aC:Z (aF×Obj)}{σ:St}{H:Hp}{s:aB}{Q:VK}{us:Z aA}{vs:Z V}(F:qm X.prog X.w X.K X.mg X.base CX k f fd ps sp)(hr:Room k X.A)(hb:Binds X.K fd ps ds)(hd:Vals vP ds)(hx:Jg CX X E)
  (I:Inv X aC σ H s) (r:Vals vs us) (h:sp (vs++vP) H Q E):aG (aH X.prog X.w) X.A (call (.ref f) us) (EP X aC σ Q) X.xe s:=by
 have r2:Vals (vs++vP) (us++ds):=r.append hd;have hl:(us++ds).length=ps.length:=by rw[<-r2.length];exact F.len _ _ _ _ h
 refine yT<|gF (F.run X.A X.stack s H ⟨us,[]⟩ (us++ds) (vs++vP) Q E hr I.env0 (hb s us I.kIn hl) r2 h) λr s' hq=>?_;cases r with
 | error e=>exact hx aC σ H s e s' I hq
 | ok fl=>
  cases fl with
  | ret u=>exact I.after hq
  | next=>exact False.elim hq
  | brk=>exact False.elim hq
  | cont=>exact False.elim hq
def apy(F:qm X.prog X.w X.K X.mg X.base CX k f fd ps sp)(hr:Room k X.A)(hg:Gl X x)(hm:X.mg x=some (.ref f))(hk:kq X.K (.ref f)=true)(hb:Binds X.K fd ps ds)(hd:Vals vP ds)(hx:Jg CX X E)
  (ha:PA X (e::es) t) (lX:(x==("__debug__" : Str))=false:=by decide) (he:aT (e::es) X.env=(false,bT e X.env)::aT es X.env:=by rfl) (iM:(dE pos<|aT es X.env).any (·.1)=false:=by rfl) :
  PE X (.Call (.Name x p) (e::es) [] pos) (IR sp vP E t):=by
 intro aC s σ H Q I h;refine jt<|al8 I hg hm ?_ lX;refine PySem.W.callWith_K (h₀:=X.base) I.ok.mod.kin hk (thn (ha pos aC s σ H _ I h) λus s1 ⟨vs,H1,I1,r,q⟩=>⟨I1.kIn,?_⟩) he iM;exact apd F hr hb hd hx I1 r q
end
def PK(X:Cx)(Bb:Z nH)(t:TA):Prop:=
 ∀(pos:dU) (aC:Z (aF×Obj)) (s:aB) (σ:St) (H:Hp) (Q:Z V->Hp->Prop),Inv X aC σ H s->t σ H Q->aG (aH X.prog X.w) X.A (evalAll<|(vT pos<|lO Bb X.env).map (·.2)) (AP X aC σ Q) X.xe s
section
variable{X:Cx}{CX:CXT}{k:Nat}{f C:aF}{fd:cH}{ps ks:Z Str}{sp:Sp}{E:XK}{x m:Str}{p pos jG qN:dU}{e o:Expr}{es:Z Expr}{Bb:Z nH}{te ta:TE}{t tk:TA}{nm:Option Str}
def ao0:PK X [] Al:=λ_ _ _ _ H Q I h=>wpAny_evalAll_nil ⟨[],H,I,.nil,h⟩
def ak0(ha:PE X e te)(hr:PK X Bb t):PK X (⟨nm,e,qN⟩::Bb) (vf te t):=by intro pos aC s σ H Q I h;show aG _ _ (evalAll ((do let v <-bT e X.env;rZ pos;aR v)::(vT pos<|lO Bb X.env).map (·.2))) _ _ s;refine wpAny_evalAll_cons<|ab<|thn (ha aC s σ H _ I h) λu s1 ⟨x,H1,I1,r1,q1⟩=>ab<|fL<|af ?_;exact thn (hr pos aC s1 σ H1 _ I1 q1) λus s2 ⟨xs,H2,I2,r2,q2⟩=>⟨x::xs,H2,I2,.cons r1 r2,q2⟩
variable{g:Z aA->Z aA->Z aA}{gV:Z V->Z V->Z V}
end
structure mj(N P:Z Str)(sc:cW):Prop where
 kind:sc.kind=.function:=by rfl
 co:sc.isCoroutine=false:=by rfl
 gen:sc.isGenerator=false:=by rfl
 nd:N.Nodup:=by decide +kernel
 pre:N.take P.length=P:=by rfl
 par:∀x∈P,sc.names.lookup x=some .local\/sc.names.lookup x=some .cell:=by decide +kernel
 nofree:∀y∈sc.names,y.2≠.free:=by decide +kernel
theorem ad5{kindOf:Str->Option aS}{x:Str}:∀{binds:Z (Str×aA)} {m:Str->Option aA},(∀v,(x,v)∉binds)->rQ kindOf binds m x=m x
 | [],_,_=>rfl
 | (n,v)::r,m,h=>by
  unfold rQ;rw[ad5 λw hw=>h w<|au _ hw];split
  .have:x≠n:=by rintro rfl;exact h v ao
   simp[this]
  .rfl
theorem aeu{kindOf:Str->Option aS}{x:Str}:∀{binds:Z (Str×aA)} {m:Str->Option aA},(∀v,(x,v)∉binds)->rR kindOf binds m x=m x
 | [],_,_=>rfl
 | (n,v)::r,m,h=>by
  unfold rR;rw[aeu λw hw=>h w<|au _ hw];split
  .rfl
  .have:x≠n:=by rintro rfl;exact h v ao
   simp[this]
theorem ado{kindOf:Str->Option aS}{x:Str}{v:aA}:∀{P:Z Str} {vs:Z aA} {i:Nat} {m:Str->Option aA},P.Nodup->P[i]?=some x->vs[i]?=some v->kindOf x=some .local->
  rQ kindOf (P.zip vs) m x=some v
 | [],_,_,_,_,h,_,_=>by simp at h
 | _::_,[],_,_,_,_,h,_=>by simp at h
 | p::P,w::vs,0,m,nd,h1,h2,hk=>by simp at h1 h2;subst h1;subst h2;show rQ kindOf ((p,w)::P.zip vs) m p=_;unfold rQ;rw[ad5 λv hv=>(jl.mp nd).1 (List.of_mem_zip hv).1,if_pos hk];simp
 | p::P,w::vs,i+1,m,nd,h1,h2,hk=>by show rQ kindOf ((p,w)::P.zip vs) m x=_;unfold rQ;exact ado (i:=i) (jl.mp nd).2 (by simpa using h1) (by simpa using h2) hk
theorem aep{kindOf:Str->Option aS}{x:Str}{v:aA}:∀{P:Z Str} {vs:Z aA} {i:Nat} {m:Str->Option aA},P.Nodup->P[i]?=some x->vs[i]?=some v->kindOf x≠some .local->
  rR kindOf (P.zip vs) m x=some v
 | [],_,_,_,_,h,_,_=>by simp at h
 | _::_,[],_,_,_,_,h,_=>by simp at h
 | p::P,w::vs,0,m,nd,h1,h2,hk=>by simp at h1 h2;subst h1;subst h2;show rR kindOf ((p,w)::P.zip vs) m p=_;unfold rR;rw[aeu λv hv=>(jl.mp nd).1 (List.of_mem_zip hv).1,if_neg hk];simp
 | p::P,w::vs,i+1,m,nd,h1,h2,hk=>by show rR kindOf ((p,w)::P.zip vs) m x=_;unfold rR;exact aep (i:=i) (jl.mp nd).2 (by simpa using h1) (by simpa using h2) hk
noncomputable def wD(N:Z Str)(vs:Z V):St:=vs.map some++List.replicate (N.length-vs.length) none
noncomputable def Ak(CX:CXT)(P:aK)(w:aP)(K:av)(mg:Str->Option aA)(base:Heap)(N:Z Str)(qual:Str)(scope:cW)(f:aF)(cd:aA)(A:Around)(outer:Z qA)(s:aB)(H:Hp)(E:XK):Cx where
 prog:=P
 w:=w
 K:=K
 mg:=mg
 base:=base
 A:=A.deeper (jK qual scope s.heap.objs.size f cd)
 N:=N
 s₀:=s
 H₀:=H
 env:=jK qual scope s.heap.objs.size f cd
 outer:=outer
 stack:=jK qual scope s.heap.objs.size f cd::outer
 ex:=[]
 calm:=true
 fn:=λ_=>true
 pn:=[]
 xe:=λe s'=>aG (aH P w) (A.deeper<|jK qual scope s.heap.objs.size f cd) (leaving (jK qual scope s.heap.objs.size f cd) e) (λ_ AX=>CX outer H s E e AX) (λe' AX=>CX outer H s E e' AX) s'
def agr{sc:cW}{n:Nat}{x:Str}(h:sc.names.lookup x=some .cell):∃c,(Es n sc.names []).lookup x=some c:=by have q:=PySem.W.cellsFrom_some sc.names n []<|.inl h;exact Option.isSome_iff_exists.mp q
theorem akg{CX:CXT}{P:aK}{w:aP}{K:av}{mg:Str->Option aA}{base:Heap}{N ps:Z Str}{qual:Str}{scope:cW}{f:aF}{cd:aA}{A:Around}{outer:Z qA}{s s1:aB}{H:Hp}{E:XK}{us:Z aA}{vs:Z V}
  (S:mj N ps scope) (hd:A.handled=none) (e0:Ez P w K mg base A outer s H) (hl:vs.length=ps.length) (r:Vals vs us)
  (x:InCallC s s.heap.objs.size (rQ (jK qual scope s.heap.objs.size f cd).kindOf (ps.zip us) λ_=>none) (Es (s.heap.objs.size+1) scope.names []) (rR (jK qual scope s.heap.objs.size f cd).kindOf (ps.zip us) λ_=>none) s1) :
  Inv (Ak CX P w K mg base N qual scope f cd A outer s H E) [] (wD N vs) H s1:=by
 have iM:ps.length<=N.length:=by have:=congrArg List.length S.pre;rw[b8]at this;lia
 obtain⟨h1,tk,rfl,hk⟩:=x.done;have A6:∀b:aF,b∉(Ak CX P w K mg base N qual scope f cd A outer s H E).ex:=λb z=>absurd (show b∈([]:Z aF)from z) (by simp);refine⟨⟨e0.mod,S.kind,rfl,rfl,am _,λy z c h1 h2=>?_,λy hy=>?_,λy c _ h=>?_,λ_=>hd,Around.frames_deeper e0.frames,.inr ⟨rfl,rfl⟩,λb z=>absurd z<|A6 b,e0.bs,e0.bsz,λb _ _=>A6 b,λb z=>absurd z<|A6 b,e0.funs,e0.frf⟩,
  rfl,e0.bare,Un.kept hk,⟨_,x.toInCall.ns,λi y v h1 h2 h3=>?_⟩,λy c h=>⟨_,x.cell y c h⟩,e0.hok.fresh<|am _,λy c h=>?_,λp hp=>absurd (show p∈([]:Z (aF×Obj))from hp)<|by simp,e0.hok.kept hk,?_⟩
 .exact name_of_addr x.apart (iy h1)<|iy h2
 .have hy:scope.names.lookup y=some .cell\/scope.names.lookup y=some .free:=hy;rcases hy with hy|hy
  .exact agr hy
  .exact absurd rfl<|S.nofree _<|iy hy
 .exact dg<|x.above y c<|iy h
 .have hi:i<vs.length:=by
   unfold wD at h2;by_cases hi:i<vs.length
   .exact hi
   .rw[ck (by simpa using hi)]at h2;rw[List.getElem?_replicate]at h2;split at h2<;>cases h2
  have ha:vs[i]?=some v:=by
   unfold wD at h2;rw[ei (by simpa using hi),bz]at h2;cases e:vs[i]? with
   | none=>rw[e]at h2;cases h2
   | some a=>rw[e]at h2;cases h2;rfl
  obtain⟨u,hu,rv⟩:=r.get ha;have hp:ps[i]?=some y:=by rw[<-S.pre,fh<|by lia];exact h1
  have ndP:ps.Nodup:=by rw[<-S.pre];exact S.nd.sublist<|List.take_sublist _ _
  refine⟨u,rv,?_⟩;rcases S.par y (ak hp)with k|k
  .exact .inl ⟨k,ado ndP hp hu k⟩
  .obtain⟨c,e⟩:=agr (n:=s.heap.objs.size+1) k;refine .inr ⟨.inl k,c,e,?_⟩;have q:=x.cell y c e;rw[aep ndP hp hu (by show scope.names.lookup y≠_;rw[k];decide)]at q;exact q
 .exact e0.hok.fresh<|dg<|x.above y c<|iy h
 .unfold wD;show _=N.length;rw[be,ae,List.length_replicate];lia
theorem avv{CX:CXT}{P:aK}{w:aP}{K:av}{mg:Str->Option aA}{base:Heap}{k:Nat}{f:aF}{name qual:Str}{params:Arguments}{body:Z aY}{scope:cW}{dV kV jM pm bW ct oc:aA}{an od:Option aF}
  {tG:Array (Option aA)} {N ps:Z Str} {sp:Sp} (lk:K.lookup f=some ⟨oc,od,.func<|k8 name qual params body scope dV kV jM pm an bW ct,tG⟩) (oF:PySem.W.codeIn K bW qual=true) (S:mj N ps scope)
  (len:∀vs H Q E,sp vs H Q E->vs.length=ps.length)
  (rK:∀(A:Around)(outer:Z qA)(s:aB)(H:Hp)(vs:Z V)(Q:VK)(E:XK),Room k (A.deeper<|jK qual scope s.heap.objs.size f bW)->sp vs H Q E->
   ∃t,PSs (Ak CX P w K mg base N qual scope f bW A outer s H E) body t/\t {nx:=λ_ H'=>Q .non H',rt:=Q} (wD N vs) H) :
  qm P w K mg base CX (k+1) f (k8 name qual params body scope dV kV jM pm an bW ct) ps sp:=by
 refine⟨len,λA outer s H args us vs Q E hr e0 hb r gM=>?_⟩;have hl:=len _ _ _ _ gM;have KX:K.In s.heap:=e0.mod.kin.keeps λb o e=>(e0.bs b o e).1;have lim:s.heap.NoLimit:=e0.mod.nolimit.keeps λb o e=>(e0.bs b o e).1;have dR:∀y∈ps.zip us,scope.names.lookup y.1=some .local\/(scope.names.lookup y.1=some .cell/\((Es (s.heap.objs.size+1) scope.names []).lookup y.1).isSome=true):=λ⟨n,v⟩ hy=>by
  rcases S.par n (List.of_mem_zip hy).1 with q|q
  .exact .inl q
  .exact .inr ⟨q,PySem.W.cellsFrom_some _ _ _<|.inl q⟩
 refine codeAny_call_function hr.depth (KX _ _ lk) rfl S.co S.gen rfl (PySem.W.codeRec_of KX oF)<|hb _ _ _ _ ?_;refine wpAny_newFunctionEnv_cells S.kind dR λenv he s1 x=>?_;subst he;refine⟨lim.keeps x.toInCall.keep,codeAny_func ?_⟩;obtain⟨t,ht,hq⟩:=rK A outer s H vs Q E (hr.deeper _) gM;have I:Inv (Ak CX P w K mg base N qual scope f bW A outer s H E) [] (wD N vs) H s1:=akg S hr.hd e0 hl r x;refine jc (ht [] s1 (wD N vs) H _ I hq) (λfl s' hs=>?_) λe s' hs=>hs;have fin:∀{σ':St} {H':Hp} {v:V} {u:aA},Inv (Ak CX P w K mg base N qual scope f bW A outer s H E) [] σ' H' s'->RelV v u->Q v H'->CE outer P w H s Q u s':=
  λ{σ' H' v u} J rv q=>⟨v,H',J.os,J.bare,J.base,J.hok,rv,q⟩
 cases fl with
 | ret u=>
  obtain⟨v,σ',H',J,rv,q⟩:=hs;exact fin J rv q
 | next=>
  obtain⟨σ',H',J,q⟩:=hs;exact fin (v:=V.non) (u:=aA.none) J rfl q
 | brk=>
  obtain⟨_,_,_,q⟩:=hs;exact False.elim q
 | cont=>
  obtain⟨_,_,_,q⟩:=hs;exact False.elim q
section
variable{X:Cx}{x:Str}{p pos:dU}{e:Expr}{es:Z Expr}{t:TA}{id T:String}{r:Z V->Hp->VK->Prop}
def tCB(r:Z V->Hp->VK->Prop)(t:TA):TE:=λσ H Q=>t σ H λvs H1=>r vs H1 Q
def an3(hc:tz X (.builtin id) r)(hg:Gl X x)(hm:X.mg x=none)(hv:bO x=some (.builtin id))(ha:PA X (e::es) t)(hn:x≠"__name__":=by decide)(lX:(x==("__debug__" : Str))=false:=by decide)
  (he:aT (e::es) X.env=(false,bT e X.env)::aT es X.env:=by rfl) (iM:(dE pos<|aT es X.env).any (·.1)=false:=by rfl):PE X (.Call (.Name x p) (e::es) [] pos) (tCB r t):=by
 intro aC s σ H Q I h;refine jt<|uq I hg hm hv ?_ hn lX;exact PyProof.Rows.callWith_builtin1 (thn (ha pos aC s σ H _ I h) λus s1 ⟨vs,H1,I1,r1,q1⟩=>hc aC s1 σ H1 vs us Q I1 r1 q1) he iM
def alj(hc:tz X (.type T) r)(hg:Gl X x)(hm:X.mg x=none)(hv:bO x=some (.type T))(ha:PA X (e::es) t)(hn:x≠"__name__":=by decide)(lX:(x==("__debug__" : Str))=false:=by decide)
  (he:aT (e::es) X.env=(false,bT e X.env)::aT es X.env:=by rfl) (iM:(dE pos<|aT es X.env).any (·.1)=false:=by rfl):PE X (.Call (.Name x p) (e::es) [] pos) (tCB r t):=by
 intro aC s σ H Q I h;refine jt<|uq I hg hm hv ?_ hn lX;exact gw (thn (ha pos aC s σ H _ I h) λus s1 ⟨vs,H1,I1,r1,q1⟩=>hc aC s1 σ H1 vs us Q I1 r1 q1) he iM
end
end L2
namespace HT
open PySem PyProof.Rows
section
variable{prog:aK}{w:aP}{A:Around}{E:aA->aB->Prop}{s:aB}
def cat_tup{t b:aF}{vs ws:Z aA}{Q:aA->aB->Prop}(ht:oP s.heap t vs.toArray)(hb:oP s.heap b ws.toArray)(hv:vs≠[])
  (h1:ws=[]->Q (.ref t) s) (h2:ws≠[]->Q (.ref s.heap.objs.size) {s with heap:=s.heap.push {cls:=.type "tuple",data:=.seq (vs++ws).toArray}})
  (hsz:vs.length+ws.length<=aE):aG (aH prog w) A (cP .Add (.ref t)<|.ref b) Q E s:=by
 obtain⟨⟨cls,dd,data,sl⟩,ho,hc,n,hd⟩:=id ht;obtain⟨⟨Cd,vQ,data2,uO⟩,xH,jX,n2,jE⟩:=id hb;simp only at hc hd jX jE;subst hc hd jX jE;have e:vs.toArray++ws.toArray=(vs++ws).toArray:=by simp
 by_cases hw:ws=[]
 .exact sO ⟨_,ho,rfl⟩ ⟨_,xH,rfl⟩ kY pL PySem.F.slot_tuple_add PySem.F.entry_tuple_add (PySem.F.args_tuple_add_2 _ _)
   (tuple_addW1 t b vs.toArray ws.toArray n n2 dd vQ sl uO (by simpa using hv)<|by simp[hw]) ⟨ho,xH,h1 hw⟩
 .refine sO ⟨_,ho,rfl⟩ ⟨_,xH,rfl⟩ kY pL PySem.F.slot_tuple_add PySem.F.entry_tuple_add (PySem.F.args_tuple_add_2 _ _)
   (tuple_addW2 t b vs.toArray ws.toArray n n2 dd vQ sl uO (by simpa using hv) (by simpa using hw)<|by rw[a7,a7];exact hsz) ⟨ho,xH,?_⟩
  rw[e];exact h2 hw
noncomputable def sIx(n d:Nat):Option Int->Nat
 | none=>d
 | some v=>if v<0 then(v+(n:Int)).toNat else hX v.toNat n
def sIx_none(n d:Nat):sIx n d none=d:=rfl
def sIx_nat(n d k:Nat):sIx n d (some (k:Int))=hX k n:=by show(if (k:Int)<0 then((k:Int)+(n:Int)).toNat else hX (k:Int).toNat n)=hX k n;rw[if_neg (by lia),ci]
theorem atv(n d:Nat)(hd:d<=n)(o:Option Int):sIx n d o<=n:=by
 cases o with
 | none=>exact hd
 | some v=>
  show(if v<0 then(v+(n:Int)).toNat else hX v.toNat n)<=n;by_cases hv:v<0
  .rw[if_pos hv];lia
  .rw[if_neg hv];exact Nat.min_le_right _ _
def ai6(v:Int)(n d:Nat):(if v<0 then max (v+(n:Int)) 0 else hX v (n:Int))=((sIx n d (some v):Nat):Int):=by
 show(if v<0 then max (v+(n:Int)) 0 else hX v (n:Int))=(((if v<0 then(v+(n:Int)).toNat else hX v.toNat n):Nat):Int);by_cases hv:v<0
 .simp only[if_pos hv];lia
 .simp only[if_neg hv];lia
theorem ah7(lo hi:Option Int)(n:Nat):Builtin.Slice.sliceAdjust lo hi 1 (n:Int)=(((sIx n 0 lo:Nat):Int),((sIx n n hi:Nat):Int)):=by
 have h1:¬((1:Int)<0):=by lia
 unfold Builtin.Slice.sliceAdjust;simp only[h1,if_false];refine Prod.ext ?_ ?_
 .cases lo with
  | none=>rfl
  | some v=>exact ai6 v n 0
 .cases hi with
  | none=>rfl
  | some v=>exact ai6 v n n
def aij(i j:Nat):Builtin.Slice.slicePlaces (i:Int) (j:Int) 1=j-i:=by
 unfold Builtin.Slice.slicePlaces;have h1:(1:Int)>0:=by lia
 simp only[h1,if_true,Int.ediv_one];split<;>lia
theorem abv{v:aA}{o:Option Int}{Q:Option Int->aB->Prop}(p:iG v o)(h:Q o s):aG (aH prog w) A (Builtin.Slice.slicePartIndex v) Q E s:=by
 cases p with
 | none=>exact slicePart_none h
 | int i t=>exact slicePart_int h
def tq{sl:aF}{vl vu:aA}{lo hi:Option Int}{n:Nat}{Q:Int×Int×Nat->aB->Prop}(hs:s.heap.IsSliceOf sl vl vu .none)(pl:iG vl lo)(pu:iG vu hi)
  (h:Q (((sIx n 0 lo:Nat):Int),1,sIx n n hi-sIx n 0 lo) s):aG (aH prog w) A (Builtin.Slice.sliceApplied (.ref sl)<|aR (n:Int)) Q E s:=by
 obtain⟨os,sF,lY,dJ⟩:=id hs;unfold Builtin.Slice.sliceApplied Builtin.Slice.sliceFields;refine ab<|ab<|fg sF dJ (x:=vl) rfl<|ab<|fg sF dJ (x:=vu) rfl<|ab<|fg sF dJ (x:=.none) rfl<|af ?_;refine ab<|slicePart_none ?_;show aG _ _ (if ((1:Int)==0)=true then _ else _) _ _ s;rw[if_neg (by decide)];refine ab<|abv pl<|ab<|abv pu<|ab<|af ?_;show aG _ _ (match Builtin.Slice.sliceAdjust lo hi 1 (n:Int)with|(lo,hi)=>aR (lo,(1:Int),Builtin.Slice.slicePlaces lo hi 1)) _ _ s;rw[ah7 lo hi n];show aG _ _ (aR (((sIx n 0 lo:Nat):Int),(1:Int),Builtin.Slice.slicePlaces ((sIx n 0 lo:Nat):Int) ((sIx n n hi:Nat):Int) 1)) _ _ s;rw[aij];exact af h
def ano(xs:Array aA)(i k:Nat):((cp k).filterMap λ(m:Nat)=>xs[((i:Int)+(m:Int)*1).toNat]?).toArray=((xs.toList.drop i).take k).toArray:=by
 have e:(λ(m:Nat)=>xs[((i:Int)+(m:Int)*1).toNat]?)=λm=>xs[i+m]?:=by
  funext m
  have:((i:Int)+(m:Int)*1).toNat=i+m:=by lia
  rw[this]
 rw[e];have:=pick_run xs i k;rw[List.filterMap_map]at this;have e2:((λx=>xs[x]?)∘λx=>i+x)=λm=>xs[i+m]?:=rfl;rw[e2]at this;rw[this]
theorem getItem_tuple_cut{t sl:aF}{items:Array aA}{vl vu:aA}{lo hi:Option Int}{Q:aA->aB->Prop}(ht:oP s.heap t items)(hs:s.heap.IsSliceOf sl vl vu .none)(pl:iG vl lo)(pu:iG vu hi)
  (hw:¬(sIx items.size 0 lo=0/\sIx items.size items.size hi=items.size))
  (h:Q (.ref s.heap.objs.size) {s with heap:=s.heap.push {cls:=.type "tuple",data:=.seq ((items.toList.drop<|sIx items.size 0 lo).take (sIx items.size items.size hi-sIx items.size 0 lo)).toArray}})
  (hsz:items.size<=aE):aG (aH prog w) A (fH (.ref t)<|.ref sl) Q E s:=by
 have nX:sizeOk (.seq ((items.toList.drop<|sIx items.size 0 lo).take (sIx items.size items.size hi-sIx items.size 0 lo)).toArray):=by show((items.toList.drop<|sIx items.size 0 lo).take (sIx items.size items.size hi-sIx items.size 0 lo)).toArray.size<=aE;rw[a7,b8,gm,a8];lia
 have hj:sIx items.size items.size hi<=items.size:=atv _ _ (am _) hi;obtain⟨os,sF,lY,dJ⟩:=id hs;have Hk:s.TypeIs (.ref sl) "slice":=⟨os,sF,lY⟩;unfold fH;try with_reducible refine f9 ?_
 first|refine ab (af ?_)|skip
 refine ab<|AN ht.typeIs (by decide) ?_;refine ab (cg (name:=bh "__getitem__") ht.typeIs gz
  (cu gz ht.typeIs yG ?_<|Af _ _))
 show aG _ _ (Builtin.Tuple.tupleItemsOf (.ref t) >>= _) _ _ s;refine ab<|tupleItemsOf_ ht ?_;refine ab<|eO Hk ?_;rw[if_pos (by decide)];refine ab<|tq hs pl pu ?_;have vC:¬((((sIx items.size 0 lo:Nat):Int)==0&&(1:Int)==1&&(sIx items.size items.size hi-sIx items.size 0 lo)==items.size)=true):=by intro q;rw[gp,gp]at q;have q1:((sIx items.size 0 lo:Nat):Int)=0:=eq_of_beq q.1.1;have q2:sIx items.size items.size hi-sIx items.size 0 lo=items.size:=eq_of_beq q.2;exact hw ⟨by lia,by lia⟩
 show aG _ _ (if (((sIx items.size 0 lo:Nat):Int)==0&&(1:Int)==1&&(sIx items.size items.size hi-sIx items.size 0 lo)==items.size)=true then _ else _) _ _ s;rw[if_neg vC,ano];first
  | exact ab (m:=Builtin.Tuple.tupleExact _) (cy (af ⟨_,rfl,af h⟩) nX)
  | exact ab (m:=Builtin.Tuple.tupleExact _) (cy (ab<|af<|af ⟨_,rfl,af h⟩) nX)
  | exact ab (ab (m:=Builtin.Tuple.tupleExact _)<|cy (af<|af ⟨_,rfl,af h⟩) nX)
  | exact ab<|ab (m:=Builtin.Tuple.tupleExact _)<|cy (af ⟨_,rfl,af h⟩) nX
end
end HT
namespace L2
open PySem PySem.Spec PyProof.Rows
abbrev TO:=St->Hp->(Option Int->Hp->Prop)->Prop
def PO(X:Cx)(e:Option Expr)(t:TO):Prop:=
 ∀(aC:Z (aF×Obj)) (s:aB) (σ:St) (H:Hp) (Q:Option Int->Hp->Prop),Inv X aC σ H s->t σ H Q->
  aG (aH X.prog X.w) X.A (evalPart e X.env) (λu s'=>∃o H',Inv X aC σ H' s'/\iG u o/\Q o H') X.xe s
noncomputable def alp:TO:=λ_ H Q=>Q none H
noncomputable def awl(t:TE):TO:=λσ H Q=>t σ H λx H1=>∃i,x=.int i/\Q (some i) H1
theorem abw{ns:Z Int}:∀{us:Z aA},Vals (ns.map V.int) us->gH us ns:=by
 induction ns with
 | nil=>intro us r;rw[List.map_nil]at r;cases r;exact .nil
 | cons n ns ih=>
  intro us r;rw[dq]at r;cases r with
  | cons r1 r2=>
   obtain⟨t,e⟩:=r1;subst e;exact .cons n t<|ih r2
section
variable{X:Cx}{e:Expr}{te:TE}{lo hi:Option Expr}{tl th:TO}{pos p2:dU}
def E9:PO X none alp:=by intro aC s σ H Q I h;rw[evalPart_none];exact af ⟨none,H,I,.none,h⟩
def xx(h:PE X e te):PO X (some e) (awl te):=by intro aC s σ H Q I hw;rw[evalPart_some];refine thn (h aC s σ H _ I hw) λu s1 ⟨x,H1,I1,r1,q1⟩=>?_;obtain⟨i,rfl,q⟩:=q1;obtain⟨t,rfl⟩:=r1;exact⟨some i,H1,I1,.int i t,q⟩
def SlR(X:Cx)(r:V->Option Int->Option Int->Hp->VK->Prop):Prop:=
 ∀(aC:Z (aF×Obj)) (s:aB) (σ:St) (H:Hp) (x:V) (v vl vu:aA) (lo hi:Option Int) (sl:aF) (Q:VK),Inv X aC σ H s->RelV x v->s.heap.IsSliceOf sl vl vu .none->iG vl lo->iG vu hi->r x lo hi H Q->
  ∃T id,yV (.type T) "__getitem__" = aR (some<|.builtin id)/\s.TypeIs v T/\aG (aH X.prog X.w) X.A (fH v<|.ref sl) (EP X aC σ Q) X.xe s
def tSl(r:V->Option Int->Option Int->Hp->VK->Prop)(te:TE)(tl th:TO):TE:=λσ H Q=>te σ H λx H1=>tl σ H1 λl H2=>th σ H2 λu H3=>r x l u H3 Q
def wq{r:V->Option Int->Option Int->Hp->VK->Prop}(hr:SlR X r)(he:PE X e te)(hl:PO X lo tl)(hu:PO X hi th):PE X (.Subscript e (.Slice lo hi none p2) pos) (tSl r te tl th):=by intro aC s σ H Q I h;refine AI<|thn (he aC s σ H _ I h) λv s1 ⟨x,H1,I1,r1,q1⟩=>?_;refine wpAny_Slice<|thn (hl aC s1 σ H1 _ I1 q1) λvl s2 ⟨l,H2,I2,pl,q2⟩=>thn (hu aC s2 σ H2 _ I2 q2) λvu s3 ⟨u,H3,I3,pu,q3⟩=>?_;rw[evalPart_none];refine af ?_;have I4:Inv X aC σ H3 {s3 with heap:=s3.heap.push {cls:=.type "slice",data:=.fields #[vl,vu,.none]}}:=I3.kept (t':=s3.toks) λb ob q=>ai _ q;obtain⟨T,id,hT,ht,hg⟩:=hr aC {s3 with heap:=s3.heap.push {cls:=.type "slice",data:=.fields #[vl,vu,.none]}} σ H3 x v vl vu l u s3.heap.objs.size Q I4 r1 (Heap.IsSliceOf.new ..) pl pu q3;show aG (aH X.prog X.w) X.A (pJ e (.Slice lo hi none p2) v<|.ref s3.heap.objs.size) (EP X aC σ Q) X.xe {s3 with heap:=s3.heap.push {cls:=.type "slice",data:=.fields #[vl,vu,.none]}};exact tail_any (ops:=[.ref s3.heap.objs.size,v]) ht hT hg<|by with_unfolding_all rfl
noncomputable def kO(xs:Z V)(lo hi:Option Int):Z V:=(xs.drop<|HT.sIx xs.length 0 lo).take (HT.sIx xs.length xs.length hi-HT.sIx xs.length 0 lo)
def zq(xs:Z V)(lo hi:Option Int):(kO xs lo hi).length<=xs.length:=by unfold kO;rw[b8,gm];lia
def ay5(K:av):V->Option Int->Option Int->Hp->VK->Prop:=λx lo hi H Q=>∃a xs,x=.ref a/\SqT K H a xs/\
 ¬(HT.sIx xs.length 0 lo=0/\HT.sIx xs.length xs.length hi=xs.length)/\∀p,H p=none->Q (.ref p) (upd H p<|.tup<|kO xs lo hi)
def atl:SlR X (ay5 X.K):=by
 intro aC s σ H x v vl vu lo hi sl Q I rx hs pl pu h;obtain⟨a,xs,rfl,hx,hw,q⟩:=h;cases rx;obtain⟨its,r,ht,hz⟩:=I.tuple hx;have bD:its.toArray.size=xs.length:=by rw[a7];exact r.length.symm
 refine⟨"tuple",_,gz.lookup,ht.typeIs,?_⟩;refine HT.getItem_tuple_cut ht hs pl pu (by rw[bD];exact hw) ?_ (by rw[bD];exact hz);rw[bD];refine⟨.ref s.heap.objs.size,_,I.laid (t':=s.toks) (o:=.tup<|kO xs lo hi) (λb ob q=>ai _ q) (am _) ?_,rfl,q _<|I.hok.fresh<|am _⟩;exact⟨ig (zq xs lo hi) hz,_,(r.drop<|HT.sIx xs.length 0 lo).take (HT.sIx xs.length xs.length hi-HT.sIx xs.length 0 lo),oP.new _ _⟩
theorem Vals.nil_iff{xs:Z V}{us:Z aA}(r:Vals xs us):us=[]↔xs=[]:=by
 cases r with
 | nil=>simp
 | cons _ _=>simp
end
noncomputable def ixN(n:Nat)(i:Int):Option Nat:=if 0<=i then(if i<n then some i.toNat else none)else if -(n:Int)<=i then some (i+n).toNat else none
noncomputable def atI{α:Type}(xs:List α)(i:Int):Option α:=(ixN xs.length i).bind λj=>xs[j]?
def ajr{n:Nat}{i:Int}{j:Nat}(h:ixN n i=some j):qF i n=some j/\j<n/\-(n:Int)<=i/\i<n:=by
 unfold ixN at h;by_cases h0:0<=i
 .rw[if_pos h0]at h;by_cases h1:i<n
  .rw[if_pos h1]at h;have e:i.toNat=j:=gl h;exact⟨by rw[uQ h0 h1,e],by lia,by lia,h1⟩
  .rw[if_neg h1]at h;cases h
 .rw[if_neg h0]at h;by_cases h1:-(n:Int)<=i
  .rw[if_pos h1]at h;have e:(i+n).toNat=j:=gl h;exact⟨by rw[sD (by lia) h1,e],by lia,h1,by lia⟩
  .rw[if_neg h1]at h;cases h
theorem JK{α:Type}{xs:List α}{i:Int}{v:α}(h:atI xs i=some v):∃j,qF i xs.length=some j/\xs[j]?=some v/\j<xs.length/\-(xs.length:Int)<=i/\i<xs.length:=by
 unfold atI at h;cases e:ixN xs.length i with
 | none=>rw[e]at h;cases h
 | some j=>
  rw[e]at h;obtain⟨h1,h2,h3,h4⟩:=ajr e;exact⟨j,h1,h,h2,h3,h4⟩
def lv{α:Type}{xs:List α}{j:Nat}{v:α}(h:xs[j]?=some v):atI xs (j:Int)=some v:=by
 have hj:j<xs.length:=(aj.mp h).1;have e:ixN xs.length (j:Int)=some j:=by unfold ixN;rw[if_pos (by lia),if_pos<|by lia];simp
 unfold atI;rw[e];exact h
def amq{α:Type}(xs:List α)(v:α):atI (xs++[v]) (-1)=some v:=by
 have hl:(xs++[v]).length=xs.length+1:=by simp
 have e:ixN (xs++[v]).length (-1)=some xs.length:=by
  unfold ixN;rw[hl,if_neg<|by decide,if_pos<|by lia]
  congr 1
  lia
 unfold atI;rw[e];show(xs++[v])[xs.length]?=some v;simp
def akv(b:Expr):Prop:=∀o i,lH b false o i=operate [o,i] (fH o i)
def IxR(X:Cx)(r:R2):Prop:=
 ∀(value fB:Expr) (aC:Z (aF×Obj)) (s:aB) (σ:St) (H:Hp) (x y:V) (v u:aA) (Q:VK),Inv X aC σ H s->RelV x v->RelV y u->r x y H Q->
  lH fB false v u=operate [v,u] (fH v u)->aG (aH X.prog X.w) X.A (pJ value fB v u) (EP X aC σ Q) X.xe s
def MtR(X:Cx)(id:String)(r:V->Z V->Hp->VK->Prop):Prop:=
 ∀(aC:Z (aF×Obj)) (s:aB) (σ:St) (H:Hp) (x:V) (xs:Z V) (v:aA) (us:Z aA) (Q:VK),Inv X aC σ H s->RelV x v->Vals xs us->r x xs H Q->
  aG (aH X.prog X.w) X.A (call (.builtin id) (v::us)) (EP X aC σ Q) X.xe s
section
variable{X:Cx}{a b:Expr}{ta tb:TE}{pos:dU}
def awr{r:R2}(hr:IxR X r)(ha:PE X a ta)(hb:PE X b tb)(hs:akv b):PE X (.Subscript a b pos) (tOp r ta tb):=by intro aC s σ H Q I h;exact AI<|HM ha hb I h λv u s2 x y H2 I2 rx ry q=>hr a b aC s2 σ H2 x y v u Q I2 rx ry q<|hs _ _
def ayc(K:av):R2:=λx y H Q=>∃p xs i v,x=.ref p/\y=.int i/\SqL K H p xs/\atI xs i=some v/\Q v H
def Is(K:av):R2:=λx y H Q=>∃p xs i v,x=.ref p/\y=.int i/\SqT K H p xs/\atI xs i=some v/\Q v H
def ayn:R2:=λx y H Q=>∃z i c,x=.str z/\y=.int i/\z.length<=aE/\atI z.cps.toList i=some c/\Q (.str ⟨#[c]⟩) H
def mx:IxR X (ayc X.K):=by
 intro value fB aC s σ H x y v u Q I rx ry h hs;obtain⟨p,xs,i,z,rfl,rfl,hq,he,q⟩:=h;cases rx;obtain⟨t,rfl⟩:=ry;obtain⟨its,r,pl,hz⟩:=I.list hq;obtain⟨j,h1,h2,h3,h4,h5⟩:=JK he;obtain⟨w,ew,gP⟩:=r.get h2;have hl:=r.length;have hn:=AB;have fin:EP X aC σ Q w s:=⟨z,H,I,gP,q⟩;by_cases h0:0<=i
 .have hj:i.toNat=j:=by
   rw[uQ h0 h5]at h1;exact gl h1
  exact item_listR pl.isList h0 (by lia) (by rw[hj];simpa using ew) fin hs
 .have hj:(i+(its.toArray.size:Int)).toNat=j:=by
   rw[sD (by lia) h4]at h1;rw[a7,<-hl];exact gl h1
  exact rY (x:=w) pl.isList.typeIs slot_list_getitem.lookup
   (wpAny_getItem_list_neg (Q:=λr s'=>r=w/\EP X aC σ Q r s') pl.isList (by lia) (by rw[a7]<;>lia) (by lia) (by rw[hj];simpa using ew) ⟨rfl,fin⟩) hs
def nh:IxR X (Is X.K):=by
 intro value fB aC s σ H x y v u Q I rx ry h hs;obtain⟨p,xs,i,z,rfl,rfl,hq,he,q⟩:=h;cases rx;obtain⟨t,rfl⟩:=ry;obtain⟨its,r,pl,hz⟩:=I.tuple hq;obtain⟨j,h1,h2,h3,h4,h5⟩:=JK he;obtain⟨w,ew,gP⟩:=r.get h2;have hl:=r.length;have hn:=AB;have fin:EP X aC σ Q w s:=⟨z,H,I,gP,q⟩;exact rY (x:=w) pl.typeIs slot_tuple_getitem.lookup
  (getItem_tuple (j:=j) (Q:=λr s'=>r=w/\EP X aC σ Q r s') pl (by lia) (by lia) (by rw[a7,<-hl];exact h1) (by simpa using ew) ⟨rfl,fin⟩) hs
def CC:IxR X ayn:=by
 intro value fB aC s σ H x y v u Q I rx ry h hs;obtain⟨z,i,c,rfl,rfl,hz,he,q⟩:=h;obtain⟨t,rfl⟩:=rx;obtain⟨t',rfl⟩:=ry;obtain⟨j,h1,h2,h3,h4,h5⟩:=JK he;have hl:z.cps.toList.length=z.length:=by simp[Str.length]
 rw[hl]at h1 h4 h5;have hn:=AB;exact tail_any (typeIs_str s z t) slot_str_getitem.lookup (getItem_str (c:=c) (by
  have e1:decide (i < -(2^63:Int))=false:=decide_eq_false (by lia);have e2:decide (i>=2^63)=false:=decide_eq_false (by lia);rw[e1,e2,Bool.or_false]) (by rw[h1];simpa using h2) ⟨.str ⟨#[c]⟩,H,I.tok _,⟨_,rfl⟩,q⟩) hs
def ah1(its:Z aA)(n j:Nat)(u:aA):jj (·.setIfInBounds j u) {cls:=.type "list",data:=.seq its.toArray n}={cls:=.type "list",data:=.seq (its.set j u).toArray n}:=by simp[jj]
theorem Inv.lst{aC:Z (aF×Obj)}{σ:St}{H:Hp}{s:aB}{p:aF}{xs:Z V}(I:Inv X aC σ H s)(h:H p=some (.lst xs)) :
  ∃(its:Z aA)(n:Nat),Vals xs its/\s.heap.get? p=some {cls:=.type "list",data:=.seq its.toArray n}/\xs.length<=aE:=by
 obtain⟨z,its,n,r,e⟩:=I.hok p _ h;exact⟨its,n,r,e,z⟩
def Inv.lstUpd{aC:Z (aF×Obj)}{σ:St}{H:Hp}{s:aB}{p:aF}{xs ys:Z V}{its its':Z aA}{n n':Nat}{f:Obj->Obj}(I:Inv X aC σ H s)(h:H p=some (.lst xs))
  (ho:s.heap.get? p=some {cls:=.type "list",data:=.seq its.toArray n}) (hf:f {cls:=.type "list",data:=.seq its.toArray n}={cls:=.type "list",data:=.seq its'.toArray n'}) (r:Vals ys its') (hz:ys.length<=aE) (t:Nat) :
  Inv X aC σ (upd H p<|.lst ys) {s with heap:=s.heap.update p f,toks:=t}:=by
 have e:(s.heap.update p f).get? p=some {cls:=.type "list",data:=.seq its'.toArray n'}:=by rw[cr f ho (by rw[hf]<;>rfl),hf]
 refine I.write (x:=p) (e:=p) (by rw[h];trivial) (.inl rfl) (λb u hb q=>(da _ _<|Ne.symm hb).trans q) ⟨_,e⟩ ?_;exact⟨hz,its',n',r,e⟩
def av2:V->V->V->Hp->(Hp->Prop)->Prop:=λo i v H Q=>∃p xs k j,o=.ref p/\i=.int k/\H p=some (.lst xs)/\ixN xs.length k=some j/\Q (upd H p<|.lst<|xs.set j v)
def aho:ayf X av2:=by
 intro aC s σ H o i v ov iv u Q I ro ri rv h;obtain⟨p,xs,k,j,rfl,rfl,hp,hj,q⟩:=h;cases ro;obtain⟨t,rfl⟩:=ri;obtain⟨its,n,r,ho,hz⟩:=I.lst hp;obtain⟨h1,h2,h3,h4⟩:=ajr hj;have hl:=r.length;have hn:=AB;have I':Inv X aC σ (upd H p<|.lst<|xs.set j v) {s with heap:=s.heap.update p<|jj (·.setIfInBounds j u)}:=
  I.lstUpd hp ho (ah1 its n j u) (r.set rv j) (by rw[List.length_set];exact hz) s.toks
 by_cases h0:0<=k
 .have hk:k.toNat=j:=by
   rw[uQ h0 h4]at h1;exact gl h1
  exact PySem.W.ki_setAt ho h0 (by lia) (by rw[a7,<-hl];exact h4)<|by rw[hk];exact⟨_,I',q⟩
 .have hk:(k+(its.toArray.size:Int)).toNat=j:=by
   rw[sD (by lia) h3]at h1;rw[a7,<-hl];exact gl h1
  exact PySem.W.ki_setBack ho (by lia) (by rw[a7,<-hl];exact h3) (by lia)<|by rw[hk];exact⟨_,I',q⟩
theorem ad6(lo hi:Option Int)(n:Nat):(dQ lo hi none n).1=((HT.sIx n 0 lo:Nat):Int)/\(dQ lo hi none n).2.1=((HT.sIx n n hi:Nat):Int)/\(dQ lo hi none n).2.2=1:=by
 refine⟨?_,?_,rfl⟩
 .cases lo with
  | none=>simp[dQ,HT.sIx]
  | some i=>
   simp only[dQ,HT.sIx,Option.getD_none,show(1:Int)>0 by decide,if_true];by_cases h:i<0
   .simp only[h,if_true]<;>lia
   .simp only[h,if_false]<;>lia
 .cases hi with
  | none=>simp[dQ,HT.sIx]
  | some i=>
   simp only[dQ,HT.sIx,Option.getD_none,show(1:Int)>0 by decide,if_true];by_cases h:i<0
   .simp only[h,if_true]<;>lia
   .simp only[h,if_false]<;>lia
def ab7(its:Z aA)(lo hi:Option Int):slicePick its.toArray lo hi none=((its.drop<|HT.sIx its.length 0 lo).take (HT.sIx its.length its.length hi-HT.sIx its.length 0 lo)).toArray:=by obtain⟨h1,h2,h3⟩:=ad6 lo hi its.toArray.size;unfold slicePick;rw[h1,h2,h3];simp only[sliceRange_one,pick_run,a7]<;>rfl
def ayx(K:av):V->Option Int->Option Int->Hp->VK->Prop:=λx lo hi H Q=>∃a xs,x=.ref a/\SqL K H a xs/\∀p,H p=none->Q (.ref p) (upd H p<|.lst<|kO xs lo hi)
def JS:SlR X (ayx X.K):=by intro aC s σ H x v vl vu lo hi sl Q I rx hs pl pu h;obtain⟨a,xs,rfl,hx,q⟩:=h;cases rx;obtain⟨its,r,ht,hz⟩:=I.list hx;have bD:=r.length;refine⟨"list",_,slot_list_getitem.lookup,ht.isList.typeIs,?_⟩;refine wpAny_getItem_list_slice ht.isList hs pl pu .none (by simp) ?_ (by rw[a7]<;>lia);rw[ab7,<-bD];refine⟨.ref s.heap.objs.size,_,I.laid (t':=s.toks) (o:=.lst<|kO xs lo hi) (λb ob q=>ai _ q) (am _) ?_,rfl,q _<|I.hok.fresh<|am _⟩;exact⟨ig (zq xs lo hi) hz,_,0,(r.drop<|HT.sIx xs.length 0 lo).take (HT.sIx xs.length xs.length hi-HT.sIx xs.length 0 lo),a6 _ rfl⟩
def m8:tz X (.builtin "len") (λxs H Q=>∃p ys,xs=[.ref p]/\(SqL X.K H p ys\/SqT X.K H p ys)/\Q (.int ys.length) H):=by
 intro aC s σ H xs us Q I r h;obtain⟨p,ys,rfl,hq,q⟩:=h;obtain⟨u,rfl,rx⟩:=wm r;cases rx;have hn:=AB;rcases hq with hq|hq
 .obtain⟨its,r',pl,hz⟩:=I.list hq;have bD:=r'.length;exact Calls.call_len_list pl.isList (by simp only[a7]<;>lia) ⟨.int ys.length,H,I.tok _,⟨s.toks+1,by rw[a7,bD]⟩,q⟩
 .obtain⟨its,r',pl,hz⟩:=I.tuple hq;have bD:=r'.length;exact len_tuple pl (by simp only[a7]<;>lia) ⟨.int ys.length,H,I.tok _,⟨s.toks+1,by rw[a7,bD]⟩,q⟩
def rh:tz X (.builtin "len") (λxs H Q=>∃z,xs=[.str z]/\z.length<=aE/\Q (.int z.length) H):=by intro aC s σ H xs us Q I r h;obtain⟨z,rfl,hz,q⟩:=h;obtain⟨u,rfl,t,rfl⟩:=wm r;have hn:=AB;exact len_str (by lia) ⟨.int z.length,H,I.tok _,⟨_,rfl⟩,q⟩
def ut:tz X (.type "list") (λxs H Q=>∃p ys,xs=[.ref p]/\(SqL X.K H p ys\/SqT X.K H p ys)/\∀l,H l=none->Q (.ref l) (upd H l<|.lst ys)):=by
 intro aC s σ H xs us Q I r h;obtain⟨p,ys,rfl,hq,q⟩:=h;obtain⟨u,rfl,rx⟩:=wm r;cases rx;have fin:∀(its:Z aA),Vals ys its->ys.length<=aE->∀(h':Heap)(c':Nat),(∀b o',s.heap.get? b=some o'->h'.get? b=some o')->
   h'.get? s.heap.objs.size=some {cls:=.type "list",dict:=none,data:=.seq its.toArray c',slots:=#[]}->EP X aC σ Q (.ref s.heap.objs.size) {s with heap:=h'}:=λits r' hz h' c' kp e=>
  ⟨.ref s.heap.objs.size,_,I.laid (t':=s.toks) kp (am _) (show ObjOk X.prog X.w _ h' _ (.lst ys)from ⟨hz,its,c',r',e⟩),rfl,q _<|I.hok.fresh<|am _⟩
 rcases hq with hq|hq
 .obtain⟨its,r',pl,hz⟩:=I.list hq;have bD:=r'.length;obtain⟨o,ho,hc,n,hd⟩:=pl.isList;exact call_list_seq p (.inl rfl) ho hc hd (λh' c' kp e=>fin its r' hz h' c' kp e)<|by simp only[a7]<;>lia
 .obtain⟨its,r',pl,hz⟩:=I.tuple hq;have bD:=r'.length;obtain⟨o,ho,hc,n,hd⟩:=pl;exact call_list_seq p (.inr rfl) ho hc hd (λh' c' kp e=>fin its r' hz h' c' kp e)<|by simp only[a7]<;>lia
def m7:tz X (.type "tuple") (λxs H Q=>∃p ys,xs=[.ref p]/\((SqL X.K H p ys/\∀l,H l=none->Q (.ref l) (upd H l<|.tup ys))\/(SqT X.K H p ys/\Q (.ref p) H))):=by
 intro aC s σ H xs us Q I r h;obtain⟨p,ys,rfl,h⟩:=h;obtain⟨u,rfl,rx⟩:=wm r;cases rx;rcases h with ⟨hq,q⟩|⟨hq,q⟩
 .obtain⟨its,r',pl,hz⟩:=I.list hq;have bD:=r'.length;refine call_tuple_list pl.isList (λh' kp=>?_) (by simp only[a7]<;>lia);have I1:Inv X aC σ H {s with heap:=h'}:=I.kept (t':=s.toks) kp;have I2:Inv X aC σ (upd H h'.objs.size<|.tup ys) {s with heap:=h'.push {cls:=.type "tuple",data:=.seq its.toArray}}:=
   I1.laid (t':=s.toks) (λb o e=>ai _ e) (am _) (show ObjOk X.prog X.w _ _ _ (.tup ys)from ⟨hz,its,r',oP.new _ _⟩)
  exact⟨.ref h'.objs.size,_,I2,rfl,q _<|I1.hok.fresh<|am _⟩
 .obtain⟨its,r',pl,hz⟩:=I.tuple hq;exact call_tuple_same pl ⟨.ref p,H,I,rfl,q⟩
def tyV(K:av)(T:String)(x:V)(H:Hp):Prop:=match x with
 | .str _=>T="str"
 | .int _=>T="int"
 | .ref p=>(T="list"/\∃xs,SqL K H p xs)\/(T="tuple"/\∃o,K.lookup p=some o/\o.cls=.type "tuple"/\o.dict=none)\/
   (T="dict"/\((∃kvs,H p=some (.dK kvs))\/∃kvs,H p=some (.dT kvs)))\/(T="set"/\∃S n,H p=some (.set S n))
 | _=>False
theorem aon{aC:Z (aF×Obj)}{σ:St}{H:Hp}{s:aB}{T:String}{x:V}{v:aA}(I:Inv X aC σ H s)(r:RelV x v)(ty:tyV X.K T x H) :
  s.TypeIs v T/\∀a,v=.ref a->∃ob,s.heap.get? a=some ob/\ob.dict=none:=by
 cases x with
 | str z=>
  obtain⟨t,rfl⟩:=r;cases (show T="str" from ty);exact⟨typeIs_str s z t,λ_ e=>nomatch e⟩
 | int i=>
  obtain⟨t,rfl⟩:=r;cases (show T="int" from ty);exact⟨typeIs_int s i t,λ_ e=>nomatch e⟩
 | ref p=>
  cases r;rcases ty with ⟨rfl,xs,hq⟩|⟨rfl,o,hk,hc,hd⟩|⟨rfl,hk⟩|⟨rfl,S,n,hk⟩
  .obtain⟨its,_,pl,_⟩:=I.list hq;refine⟨pl.isList.typeIs,λa e=>?_⟩;cases e;obtain⟨o,n,e,c,hd,_⟩:=pl;exact⟨o,e,hd⟩
  .refine⟨⟨o,I.kIn p o hk,hc⟩,λa e=>?_⟩;cases e;exact⟨o,I.kIn _ o hk,hd⟩
  .have z:∃o,s.heap.get? p=some o/\o.ExactDict:=by
    rcases hk with ⟨kvs,hk⟩|⟨kvs,hk⟩
    .obtain⟨_,_,_,_,o,_,_,e,ex,_⟩:=I.hok p _ hk;exact⟨o,e,ex⟩
    .obtain⟨_,_,_,_,o,_,_,e,ex,_⟩:=I.hok p _ hk;exact⟨o,e,ex⟩
   obtain⟨o,e,ex⟩:=z;refine⟨⟨o,e,ex.1⟩,λa e2=>?_⟩;cases e2;exact⟨o,e,ex.2.1⟩
  .obtain⟨o,_,_,_,e,ex,_⟩:=I.hok p _ hk;refine⟨⟨o,e,ex.1⟩,λa e2=>?_⟩;cases e2;exact⟨o,e,ex.2.1⟩
 | _=>exact False.elim ty
def ay7(K:av)(T:String)(r:V->Z V->Hp->VK->Prop)(to:TE):TE:=λσ H Q=>to σ H λx H1=>tyV K T x H1/\r x [] H1 Q
def tBM(K:av)(T:String)(r:V->Z V->Hp->VK->Prop)(to:TE)(t:TA):TE:=λσ H Q=>to σ H λx H1=>tyV K T x H1/\t σ H1 λxs H2=>r x xs H2 Q
variable{o e:Expr}{es:Z Expr}{to:TE}{t:TA}{name:Str}{jG fJ:dU}{T id:String}{r:V->Z V->Hp->VK->Prop}
def AD(pa:PlainAttrs T)(slot:Slot T name id)(F6:typeOf (.builtin id)=aR (.type "method_descriptor"))(hm:MtR X id r)(ho:PE X o to)
  (rL:pW o name X.env (bT o X.env)=bT o X.env:=by rfl) (gN:(jG.endLine==fJ.line)=true:=by rfl):PE X (.Call (.Attribute o name jG) [] [] fJ) (ay7 X.K T r to):=by
 intro aC s σ H Q I h;refine wpAny_Call_method0_late rL gN<|thn (ho aC s σ H _ I h) λv s1 ⟨x,H1,I1,r1,ty,q1⟩=>?_;obtain⟨h1,h2⟩:=aon I1 r1 ty;exact⟨T,id,pa,slot,F6,h1,h2,Calls.callWith_builtin rfl<|PySem.evalArgs_none<|hm aC s1 σ H1 x [] v [] Q I1 r1 .nil q1⟩
def vn(pa:PlainAttrs T)(slot:Slot T name id)(F6:typeOf (.builtin id)=aR (.type "method_descriptor"))(hm:MtR X id r)(ho:PE X o to)(ha:PA X (e::es) t)
  (rL:pW o name X.env (bT o X.env)=bT o X.env:=by rfl)
  (GY:((dE fJ<|aT (e::es) X.env).all (λx=>!x.1)&&(vT fJ<|lO [] X.env).all (λx=>x.1.isSome)
   && decide ((e::es).length+([]:Z nH).length+(if ([]:Z nH).isEmpty then 0 else 1)<30))=true:=by rfl)
  (gN:(jG.endLine==fJ.line)=true:=by rfl) (hs:aT (e::es) X.env=(false,bT e X.env)::aT es X.env:=by rfl) (xD:(dE fJ<|aT es X.env).any (·.1)=false:=by rfl) :
  PE X (.Call (.Attribute o name jG) (e::es) [] fJ) (tBM X.K T r to t):=by
 intro aC s σ H Q I h;refine wpAny_Call_method_late rL GY gN rfl<|thn (ho aC s σ H _ I h) λv s1 ⟨x,H1,I1,r1,ty,q1⟩=>?_;obtain⟨h1,h2⟩:=aon I1 r1 ty;refine⟨T,id,pa,slot,F6,h1,h2,?_⟩;have hA:=ha fJ aC s1 σ H1 _ I1 q1;rw[hs]at hA⊢;refine Calls.callWith_builtin (by show(false||(dE fJ<|aT es X.env).any (·.1))=false;rw[xD]<;>rfl)<|Calls.evalArgs_plain ?_;exact thn hA λus s2 ⟨vs,H2,I2,r2,q2⟩=>hm aC s2 σ H2 x vs v us Q I2 r1 r2 q2
end
def MtM(X:Cx)(id:String)(r:V->Z V->Hp->VK->Prop):Prop:=
 ∀(aC:Z (aF×Obj)) (s:aB) (σ:St) (H:Hp) (x:V) (xs:Z V) (v:aA) (us:Z aA) (Q:VK),Inv X aC σ H s->RelV x v->Vals xs us->r x xs H Q->
  aG (aH X.prog X.w) X.A (call (.builtin id) (v::us)) (EP X aC σ Q) X.xe s
theorem Vals.one:∀{x:V} {us:Z aA},Vals [x] us->∃u,us=[u]/\RelV x u
 | _,_,.cons r .nil=>⟨_,rfl,r⟩
theorem Vals.zero:∀{us:Z aA},Vals [] us->us=[]
 | _,.nil=>rfl
theorem Vals.eraseIdx:∀{xs:Z V} {us:Z aA} (i:Nat),Vals xs us->Vals (xs.eraseIdx i) (us.eraseIdx i)
 | _,_,_,.nil=>.nil
 | _,_,0,.cons _ t=>t
 | _,_,i+1,.cons r t=>.cons r<|Vals.eraseIdx i t
theorem adi{α:Type}:∀(l:List α)(i:Nat),(l.eraseIdx i).length<=l.length
 | [],_=>am _
 | _::_,0=>ke _
 | _::r,i+1=>Nat.succ_le_succ<|adi r i
section
variable{X:Cx}{aC:Z (aF×Obj)}{σ:St}{H:Hp}{s:aB}{l b:aF}{xs ys zs:Z V}
def Inv.lset{its its':Z aA}{n:Nat}{f:Array aA->Array aA}{t':Nat}(I:Inv X aC σ H s)(hH:H l=some (.lst xs))
  (e:s.heap.get? l=some {cls:=.type "list",data:=.seq its.toArray n}) (hf:f its.toArray=its'.toArray) (hv:Vals ys its') (hz:ys.length<=aE) :
  Inv X aC σ (upd H l<|.lst ys) {s with heap:=s.heap.update l<|jj f,toks:=t'}:=by
 have q:=PySem.IsL.update e f;rw[hf]at q;refine I.write (x:=l) (e:=l) (by rw[hH];exact trivial) (.inl rfl) (λb' u hb hu=>(da s.heap (jj f)<|Ne.symm hb).trans hu) ⟨_,q⟩ ?_;exact⟨hz,its',_,hv,q⟩
def Inv.lnew{its:Z aA}{t':Nat}(I:Inv X aC σ H s)(hv:Vals ys its)(hz:ys.length<=aE) :
  Inv X aC σ (upd H s.heap.objs.size<|.lst ys) {s with heap:=s.heap.push {cls:=.type "list",data:=.seq its.toArray},toks:=t'}:=
 I.laid (λ_ _ q=>ai _ q) (am _) ⟨hz,its,0,hv,a6 _ rfl⟩
theorem Inv.fresh(I:Inv X aC σ H s):H s.heap.objs.size=none:=I.hok.fresh<|am _
def Inv.lstM(I:Inv X aC σ H s)(hH:H l=some (.lst xs)):xs.length<=aE/\∃(its:Z aA)(n:Nat),Vals xs its/\xs.length=its.length/\s.heap.get? l=some {cls:=.type "list",data:=.seq its.toArray n}:=by obtain⟨z,its,n,r,e⟩:=I.hok l _ hH;exact⟨z,its,n,r,r.length,e⟩
def anv{n:Nat}(h:n<=aE):Builtin.List.listTooLong n=false:=by unfold Builtin.List.listTooLong;exact decide_eq_false<|by lia
end
section
variable{X:Cx}
def aqq:V->Z V->Hp->VK->Prop:=λx vs H Q=>∃l xs y,x=.ref l/\vs=[y]/\H l=some (.lst xs)/\xs.length<aE/\Q .non (upd H l<|.lst<|xs++[y])
def pq:MtM X "list.append" aqq:=by intro aC s σ H x vs v us Q I rx rv h;obtain⟨l,xs,y,rfl,rfl,hH,hz,q⟩:=h;cases rx;obtain⟨u,rfl,ru⟩:=rv.one;obtain⟨z,its,n,r,hl,e⟩:=I.lstM hH;refine jN F.slot_list_append ⟨_,e,rfl⟩ F.entry_list_append (F.args_list_append_2 _ _) (PySem.list_append l its.toArray n u<|by rw[a7];lia) ⟨e,?_⟩;refine⟨.non,_,I.lset (its':=its++[u]) hH e (by simp) (r.append<|.cons ru .nil) ?_,rfl,q⟩;rw[be,fq];lia
def arv:V->Z V->Hp->VK->Prop:=λx vs H Q=>∃l b xs zs,x=.ref l/\vs=[.ref b]/\H l=some (.lst xs)/\H b=some (.lst zs)/\xs.length+zs.length<=aE/\Q .non (upd H l<|.lst<|xs++zs)
def adr:MtM X "list.extend" arv:=by
 intro aC s σ H x vs v us Q I rx rv h;obtain⟨l,b,xs,zs,rfl,rfl,hH,hB,hz,q⟩:=h;cases rx;obtain⟨u,rfl,ru⟩:=rv.one;cases ru;obtain⟨z,its,n,r,hl,e⟩:=I.lstM hH;obtain⟨z2,jC,n2,r2,fP,e2⟩:=I.lstM hB;have hsz:its.toArray.size+jC.toArray.size<=aE:=by rw[a7,a7];lia
 have Bw:¬(!its.toArray.isEmpty&&Builtin.List.listTooLong (its.toArray.size+jC.toArray.size))=true:=by rw[anv hsz,Bool.and_false];exact aq
 refine jN F.slot_list_extend ⟨_,e,rfl⟩ F.entry_list_extend (F.args_list_extend_2 _ _)
  (AutoSeq1.list_extend_list_list_0 l its.toArray n b jC.toArray n2 Bw (by rw[a7];lia)<|by lia) ⟨e,e2,?_⟩
 refine⟨.non,_,I.lset (its':=its++jC) hH e (by simp) (r.append r2) ?_,rfl,q⟩;rw[be];lia
def aui:V->Z V->Hp->VK->Prop:=λx vs H Q=>∃l xs i k y,x=.ref l/\vs=[.int i]/\H l=some (.lst xs)/\-(2^63)<=i/\i<2^63/\qF i xs.length=some k/\xs[k]?=some y/\Q y (upd H l<|.lst<|xs.eraseIdx k)
def am4:MtM X "list.pop" aui:=by
 intro aC s σ H x vs v us Q I rx rv h;obtain⟨l,xs,i,k,y,rfl,rfl,hH,h1,h2,hk,hy,q⟩:=h;cases rx;obtain⟨u,rfl,ru⟩:=rv.one;obtain⟨t,rfl⟩:=ru;obtain⟨z,its,n,r,hl,e⟩:=I.lstM hH;obtain⟨w,hw,gP⟩:=r.get hy;refine jN F.slot_list_pop ⟨_,e,rfl⟩ F.entry_list_pop (F.args_list_pop_2 _ _)
  (MeetsSeq.list_pop_at l its.toArray n i t k w (fitsIndex_both h1 h2) (by rw[a7,<-hl];exact hk) (by rw[<-bj];exact hw)<|by rw[a7];lia) ⟨e,?_⟩
 refine⟨y,_,I.lset (its':=its.eraseIdx k) hH e ?_ (r.eraseIdx k) ?_,gP,q⟩
 .show its.toArray.eraseIdxIfInBounds k=(its.eraseIdx k).toArray;rw[List.eraseIdxIfInBounds_toArray]
 .have:=adi xs k;lia
def ay6:R2:=λx y H Q=>∃l b xs zs,x=.ref l/\y=.ref b/\H l=some (.lst xs)/\H b=some (.lst zs)/\xs.length+zs.length<=aE/\∀p,H p=none->Q (.ref p) (upd H p<|.lst<|xs++zs)
def Az:OpR X (cP .Add) ay6:=by
 intro aC s σ H x y v u Q I rx ry h;obtain⟨l,b,xs,zs,rfl,rfl,hH,hB,hz,q⟩:=h;cases rx;cases ry;obtain⟨z,its,n,r,hl,e⟩:=I.lstM hH;obtain⟨z2,jC,n2,r2,fP,e2⟩:=I.lstM hB;refine PySem.P.add_list e e2 ?_ (by rw[a7,a7];lia);have ea:its.toArray++jC.toArray=(its++jC).toArray:=by simp
 rw[ea];exact⟨.ref _,_,I.lnew (t':=s.toks) (r.append r2)<|by rw[be];lia,rfl,q _ I.fresh⟩
end
end L2
namespace Att
open PySem PySem.W PySem.Calls PyProof.Rows
theorem aap{P:Params}{h:Heap}:∀(ns:Z Int)(vs:Z aA),WellAll P h vs (ns.map WData.int)->gH vs ns:=by
 intro ns;induction ns with
 | nil=>
  intro vs w;rw[List.map_nil]at w;cases w;exact .nil
 | cons n ns ih=>
  intro vs w;rw[dq]at w;cases w with
  | cons a b=>
   cases a;exact .cons _ _<|ih _ b
theorem al2{l:OpenLaw}{n:Nat}(hn:l.most=some n){P:Params}{h:Heap}{args:Z WData}{wJ:Z aA}
  (oV:l.row.toRowW.claim.pre args=true) (wU:WellAll P h wJ args) :
  ∃a vs ns,wJ=[aA.ref a]/\args=[WData.list (ns.map WData.int)]/\h.get? a=some {cls:=.type "list",data:=.seq vs.toArray}/\gH vs ns/\ns.length<=n:=by
 have hsh:WShape.hasAll [] args [.list .int]=true:=(pre_splitW oV).1;have hc:l.pre.holds [] {args:=args}=true:=(pre_splitW oV).2;obtain⟨d,r,rfl,h1,h2⟩:=hasAllW_cons hsh;obtain rfl:=hasAllW_nil h2;obtain⟨xs,rfl,h3⟩:=hasW_list h1;obtain⟨ns,rfl⟩:=items_int h3;have bD:ns.length<=n:=by
  unfold OpenLaw.pre at hc;have h4:(WTm.not<|.lt (.lit<|.int (n:Int))<|.len<|.arg 0).holds [] {args:=[.list (ns.map .int)]}=true:=by have h4:=(holds_andW hc).1;rw[hn]at h4;exact h4
  have h5:=condW_of h4<|w_not<|w_lt w_lit<|w_len_list<|w_arg rfl;rw[ae]at h5;refine Nat.le_of_not_lt λq=>?_;have q':(n:Int)<((ns.length:Nat):Int):=by lia
  first
   | (rw[decide_eq_true q']at h5;exact absurd h5<|by decide)
   | (simp at h5;lia)
 cases wU with
 | cons w1 w2=>
  cases w2;cases w1 with
  | list ho bB=>exact⟨_,_,ns,rfl,rfl,ho,aap ns _ bB,bD⟩
def aku(l:OpenLaw)(args:Z WData):l.row.toRowW.claim.post args (.bool true) args=true:=
 postW_of (r:=l.row.toRowW) (X:=(true==true))
  (show WShape.has [] (.bool true) .bool=true by first|rfl|decide|simp[WShape.has,WShape.arms,WShape.armsAll])
  (show(WTm.eq .res<|.lit<|.bool true).value [] {args:=args,res:=some<|.bool true,after:=args}=some (.bool<|true==true)from w_eq_bool (w_res rfl) w_lit) rfl
def attach_call{l:OpenLaw}{n:Nat}{q:aK}{loose:Z Str}{XP:(Str->Option aA)->Heap->Prop}{YP:aP->Heap->Prop}{d:DefRec}
  (hn:l.most=some n) (BM:d.params.defaults=[])
  (call:∀(w:aP)(s₀ s₁:aB)(mg mb:Str->Option aA)(fa:aF)(o:Obj)(pm cd jM:aA)(a:aF)(vs:Z aA)(ns:Z Int),
   Ground q loose [] XP w s₀ mg mb s₁.heap->YP w s₁.heap->
   s₁.heap.get? fa=some o->o.data=.func (docDef d.name d.params d.body d.scope pm cd jM)->s₁.heap.CodeRec cd d.name->mg d.name=some (.ref fa)->
   s₁.heap.get? a=some {cls:=.type "list",data:=.seq vs.toArray}->gH vs ns->ns.length<=n->s₁.gens=#[]->
   dD (aH l.prog w) kM (.call (.ref fa) ⟨[.ref a],[]⟩) (λr s'=>r=.ok (.ret<|.bool true)/\OldK s₁.heap s'.heap/\s'.os=s₁.os/\gI s'.gens) s₁) :
  WalkO q loose XP YP l.row.toRowW d [] (λf vs=>PySem.call f vs):=by
 intro w s₀ s₁ mg mb G Y fa o pm cd jM dV kV ho hd oF hD tN hg args wJ as oV By hrd wU vD;obtain rfl:dV=.none:=Dflts.none hD BM;obtain rfl:kV=.none:=Dflts.noKw hD;obtain⟨a,vs,ns,rfl,rfl,oW,rF,bD⟩:=al2 hn oV wU;refine enter_call<|gF (call w s₀ s₁ mg mb fa o pm cd jM a vs ns G Y ho (fd_plain hd) oF tN oW rF bD hg) λr s' hq=>?_;obtain⟨rfl,h2,h3,h4⟩:=hq;exact⟨.inl ⟨.bool true,.bool true,[],rfl,λ_=>rfl,.bool true,aku l _,λ_=>⟨List.Pairwise.nil,λ_ hm=>(nomatch hm)⟩⟩,h2,h3,h4⟩
end Att
namespace L2
open PySem PySem.Spec PyProof.Rows
theorem ug:∀{vs:Z aA} {ns:Z Int},gH vs ns->Vals (ns.map V.int) vs
 | _,_,.nil=>.nil
 | _,_,.cons n t h=>.cons ⟨t,rfl⟩<|ug h
def HR(H:Hp):Prop:=∀b,H b=none\/∃o xs,H b=some (.frz o<|.lst xs)
theorem anm{P:aK}{w:aP}{K:av}{mg mb:Str->Option aA}{CX:CXT}{k:Nat}{fa a:aF}{fd:cH}{x:Str}{sp:Sp}{s₁:aB}{vs:Z aA}{ns:Z Int}
  (KX:K.In s₁.heap) (oC:s₁.heap.Ns aO mg) (hb:s₁.heap.Ns Ad mb) (DS:∀x:Str,x≠"__name__"->mb x=bO x) (GN:s₁.heap.NoLimit) (hg:s₁.gens=#[])
  (ha:s₁.heap.get? a=some {cls:=.type "list",data:=.seq vs.toArray}) (hi:gH vs ns) (hl:ns.length<=aE) (hr:Room k kM)
  (F:∀base:Heap,K.In base->base.Ns aO mg->qm P w K mg base CX k fa fd [x] sp) (BR:∀(s:aB)(u:aA),nJ s fd ⟨[u],[]⟩ [(x,u)])
  (gM:∀H:Hp,HR H->SqL K H a (ns.map V.int)->sp [.ref a] H (λv _=>v=.bl true) λ_ _ _=>False)
  (Hq:∀H e s',CX [] H s₁ (λ_ _ _=>False) e s'->False) :
  dD (aH P w) kM (.call (.ref fa) ⟨[.ref a],[]⟩) (λr s'=>r=.ok (.ret<|.bool true)/\OldK s₁.heap s'.heap/\s'.os=s₁.os/\gI s'.gens) s₁:=by
 have rv:=ug hi;have FQ:=hi.length;have Cc:∀H:Hp,HR H->SqL K H a (ns.map V.int)->HOk P w H s₁.heap->(∀b,H b≠none->b=a)->(H a≠none->K.lookup a=none)->
   dD (aH P w) kM (.call (.ref fa) ⟨[.ref a],[]⟩) (λr s'=>r=.ok (.ret<|.bool true)/\OldK s₁.heap s'.heap/\s'.os=s₁.os/\gI s'.gens) s₁:=by
  intro H hO hS hok hA hK;have oJ:∀{b:aF} {o:Obj},s₁.heap.get? b=some o->H b=none->(uE s₁.heap H).get? b=some o:=λe n=>anc e n;have A6:∀{b:aF} {o:Obj} {es:Array fV} {ep:Nat},s₁.heap.get? b=some o->o.data=.dict es ep->H b=none:=λ{b o es ep} e d=>by
   cases q:H b with
   | none=>rfl
   | some u=>
    have e':b=a:=hA b (by rw[q];simp);subst e';rw[ha]at e;cases e;have d':Data.seq vs.toArray _=Data.dict es ep:=d;cases d'
  have Dq:∀{b:aF} {m:Str->Option aA},s₁.heap.Ns b m->(uE s₁.heap H).Ns b m:=λ{b m} ⟨o,es,ep,e,d,r⟩=>⟨o,es,ep,oJ e<|A6 e d,d,r⟩;have hKb:K.In (uE s₁.heap H):=λb o e=>oJ (KX b o e) (by
   cases q:H b with
   | none=>rfl
   | some u=>
    have e':b=a:=hA b (by rw[q];simp);subst e';rw[hK (by rw[q];simp)]at e;cases e)
  have hM:Mod K mg (uE s₁.heap H):=⟨hKb,Dq oC,⟨mb,Dq hb,DS⟩,let ⟨mc,h1,h2⟩:=GN;⟨mc,Dq h1,h2⟩⟩;have e0:Ez P w K mg (uE s₁.heap H) kM [] s₁ H:=⟨rfl,hM,λb o e=>arx e,Nat.le_of_eq<|aiv _ _,trivial,λb hb=>absurd (show b∈([]:Z aF)from hb)<|by simp,hok,.of_eq hg⟩;refine gF ((F _ hKb<|Dq oC).run kM [] s₁ H ⟨[.ref a],[]⟩ [.ref a] [.ref a] _ _ hr e0 (BR s₁<|.ref a) (.cons rfl .nil) (gM H hO hS)) λr s' h=>?_;cases r with
  | error e=>exact(Hq H e s' h).elim
  | ok fl=>
   cases fl with
   | next=>exact False.elim h
   | brk=>exact False.elim h
   | cont=>exact False.elim h
   | ret u=>
    obtain⟨v,H',os,bare,un,Gx,r',q⟩:=h;have q':v=.bl true:=q;subst q';obtain rfl:u=aA.bool true:=r';refine⟨rfl,OldK.of_keep λb o e=>?_,os,bare⟩;cases q:H b with
    | none=>exact un.keep b o e q (by intro z;exact absurd (show b∈([]:Z aF)from z)<|by simp) (by simp)
    | some u=>
     rcases hO b with z|⟨ob,xs,z⟩
     .rw[q]at z;cases z
     .have z2:=un.frzs b ob _ z;obtain⟨e1,_⟩:=hok b _ z;obtain⟨e2,_⟩:=Gx b _ z2;rw[e]at e1;cases e1;exact e2
 cases hk:K.lookup a with
 | some o=>
  have e:=KX a o hk;rw[ha]at e;cases e;refine Cc (λ_=>none) (λ_=>.inl rfl) (.inr ⟨_,vs.toArray,_,hk,rfl,rfl,rfl,by rw[a7,FQ];exact hl,by simpa using rv⟩) (λb u z=>by have z':(none:Option HO)=some u:=z;cases z') (λb z=>absurd rfl z) λz=>absurd rfl z
 | none=>
  refine Cc (λb=>if b=a then some (.frz {cls:=.type "list",data:=.seq vs.toArray}<|.lst<|ns.map V.int)else none) (λb=>?_) (.inl<|.inr ⟨{cls:=.type "list",data:=.seq vs.toArray},if_pos rfl⟩) (λb u z=>?_) (λb z=>?_) λ_=>hk
  .by_cases hb:b=a
   .exact .inr ⟨_,_,if_pos hb⟩
   .exact .inl<|if_neg hb
  .by_cases hb:b=a
   .have z':=(if_pos hb).symm.trans z;cases z';subst hb;exact⟨ha,by rw[ae];exact hl,vs,_,rv,ha⟩
   .have z':=(if_neg hb).symm.trans z;cases z'
  .by_cases hb:b=a
   .exact hb
   .exact absurd (if_neg hb) z
def walk_of{l:PySem.W.OpenLaw}{n k:Nat}{q:aK}{loose:Z Str}{XP:(Str->Option aA)->Heap->Prop}{YP:aP->Heap->Prop}{d:DefRec}{K:Params->av}{CX:aP->CXT}{sp:aP->Sp}{x:Str}
  (hn:l.most=some n) (kJ:n<=aE) (BM:d.params.defaults=[]) (hr:Room k kM)
  (hY:∀(w:aP)(h:Heap),YP w h->(K w.params).In h)
  (F:∀(w:aP)(mg:Str->Option aA)(fa:aF)(h:Heap),(K w.params).In h->h.Ns aO mg->mg d.name=some (.ref fa)->
   ∃fd:cH,(∀(s:aB)(u:aA),nJ s fd ⟨[u],[]⟩ [(x,u)])/\
    ∀base:Heap,(K w.params).In base->base.Ns aO mg->qm l.prog w (K w.params) mg base (CX w) k fa fd [x] (sp w))
  (gM:∀(w:aP)(H:Hp)(a:aF)(ns:Z Int),ns.length<=n->HR H->SqL (K w.params) H a (ns.map V.int)->sp w [.ref a] H (λv _=>v=.bl true) λ_ _ _=>False)
  (Hq:∀(w:aP)(H:Hp)(s:aB)(e:aA)(s':aB),CX w [] H s (λ_ _ _=>False) e s'->False) :
  PySem.W.WalkO q loose XP YP l.row.toRowW d [] (λf vs=>PySem.call f vs):=by
 refine Att.attach_call hn BM λw s₀ s₁ mg mb fa o pm cd jM a vs ns G Y ho hd oF tN oW rF bD hg=>?_;have KX:=hY w _ Y;obtain⟨fd,hb,hF⟩:=F w mg fa _ KX G.T.g tN;exact anm KX G.T.g G.T.b G.T.builtins G.T.nolimit hg oW rF (ig bD kJ) hr hF hb (λH hO hS=>gM w H a ns bD hO hS) λH e s'=>Hq w H s₁ e s'
noncomputable def vh(s:aY):Arguments:=match s with
 | .FunctionDef _ a _ _ _ _ _ _ _ _=>a
 | _=>{posonlyargs:=[],args:=[],vararg:=none,kwonlyargs:=[],kw_defaults:=[],kwarg:=none,defaults:=[]}
noncomputable def ur(s:aY):Z aY:=match s with
 | .FunctionDef _ _ b _ _ _ _ _ _ _=>b
 | _=>[]
noncomputable def l0(s:aY):cW:=match s with
 | .FunctionDef _ _ _ _ _ _ sc _ _ _=>sc
 | _=>{kind:=.function,names:=[],isGenerator:=false,isCoroutine:=false}
noncomputable abbrev CX0:CXT:=λ_ _ _ _ _ _=>False
noncomputable abbrev E0:XK:=λ_ _ _=>False
def aud{X:Cx}:Jg CX0 X E0:=λ_ _ _ _ _ _ _ h=>h.elim
structure Fun(K:av)(x qual:Str)(st:aY)(f:aF)(fd:cH):Prop where
 ex:∃(oc:aA)(od:Option aF)(kV jM pm:aA)(an:Option aF)(bW ct:aA) (tG:Array (Option aA)),
  fd=k8 x qual (vh st) (ur st) (l0 st) .none kV jM pm an bW ct/\K.lookup f=some ⟨oc,od,.func fd,tG⟩/\PySem.W.codeIn K bW qual=true
 kp:kq K (.ref f)=true
section
variable{P:aK}{w:aP}{K:av}{mg:Str->Option aA}{base:Heap}
def Fun.ok{x qual:Str}{st:aY}{f:aF}{fd:cH}{N ps:Z Str}{k:Nat}{sp:Sp}(F:Fun K x qual st f fd)(S:mj N ps (l0 st))(len:∀vs H Q E,sp vs H Q E->vs.length=ps.length)
  (rK:∀(bW:aA)(A:Around)(outer:Z qA)(s:aB)(H:Hp)(vs:Z V)(Q:VK)(E:XK),Room k (A.deeper<|jK qual (l0 st) s.heap.objs.size f bW)->sp vs H Q E->
   ∃t,PSs (Ak CX0 P w K mg base N qual (l0 st) f bW A outer s H E).nox (ur st) t/\t {nx:=λ_ H'=>Q .non H',rt:=Q} (wD N vs) H):qm P w K mg base CX0 (k+1) f fd ps sp:=by
 obtain⟨oc,od,kV,jM,pm,an,bW,ct,tG,rfl,lk,oF⟩:=F.ex;refine avv lk oF S len λA outer s H vs Q E hr gM=>?_;obtain⟨t,h,q⟩:=rK bW A outer s H vs Q E hr gM;exact⟨t,h.nox,q⟩
def Fun.binds{x qual:Str}{st:aY}{f:aF}{fd:cH}{ps:Z Str}(F:Fun K x qual st f fd)
  (h:∀(kV jM pm:aA)(an:Option aF)(bW ct:aA)(us:Z aA),us.length=ps.length->bindArgs (k8 x qual (vh st) (ur st) (l0 st) .none kV jM pm an bW ct) ⟨us,[]⟩=aR (ps.zip us)):Binds K fd ps []:=by
 obtain⟨oc,od,kV,jM,pm,an,bW,ct,tG,rfl,lk,oF⟩:=F.ex;exact .all<|h kV jM pm an bW ct
def auy{x qual:Str}{st:aY}{f:aF}{oc:aA}{od an:Option aF}{tG:Array (Option aA)}{kV jM pm bW ct:aA}(l:K.lookup f=some ⟨oc,od,.func<|k8 x qual (vh st) (ur st) (l0 st) .none kV jM pm an bW ct,tG⟩)
  (c:PySem.W.codeIn K bW qual=true) (k:kq K (.ref f)=true):Fun K x qual st f (k8 x qual (vh st) (ur st) (l0 st) .none kV jM pm an bW ct):=⟨⟨oc,od,kV,jM,pm,an,bW,ct,tG,rfl,l,c⟩,k⟩
end
def mm{n:Nat}(h:n<=1000):n<aE:=ir h<|by decide
section
variable{X:Cx}
def pv(i:Nat){x:Str}{pos:dU}(hN:X.N[i]?=some x:=by rfl)(hv:Vis X.env.scope x:=by first|exact Or.inl rfl|exact Or.inr (Or.inl rfl)|exact Or.inr<|Or.inr rfl)(hd:(x==("__debug__" : Str))=false:=by decide)
  (oF:(x==("__classdict__" : Str))=false:=by decide):PE X (.Name x pos) (mG i):=aor hN hv hd oF
end
def oN{A B:Prop}(h:B):if false=true then A else B:=by rw[if_neg aq];exact h
def xy{A B:Prop}(h:A):if true=true then A else B:=by rw[if_pos rfl];exact h
def sr{c A B:Prop}[Decidable c](h1:c->A)(h2:¬c->B):if c then A else B:=by
 by_cases h:c
 .rw[if_pos h];exact h1 h
 .rw[if_neg h];exact h2 h
def Same(H H':Hp):Prop:=∀b o,H b=some o->H' b=some o
def Same.refl(H:Hp):Same H H:=λ_ _ h=>h
def Same.trans{H H1 H2:Hp}(a:Same H H1)(b:Same H1 H2):Same H H2:=λc o h=>b c o<|a c o h
theorem Same.free{H H':Hp}(e:Same H H'){l:aF}(h:H' l=Option.none):H l=Option.none:=by
 cases q:H l with
 | none=>rfl
 | some o=>
  rw[e l o q]at h;cases h
end L2
namespace L3
def hid{G:Prop}(h:∀C:Prop,(G->C)->C):G:=h G id
end L3
namespace L3
open PySem PyProof.Rows
noncomputable def CT:Bool->aI->Array aI->Nat->Nat->Nat->StateT aN nG (Option Nat):=sortPriv% PySem.Builtin.gallop
noncomputable def Fb(left:Bool)(key:aI)(arr:Array aI)(base i:Nat):StateT aN nG (Option Bool):=do
 let x <-jF arr (base+i)
 if left then lt' x key else return (<-lt' key x).map (!·)
def mw{M:Model}{A:Around}{E:aA->aB->Prop}{s:aB}{σ α:Type}{c:Prop}[Decidable c]{t e:StateT σ nG α}{Q:α->σ->Prop}{st:σ}(a:c->iT M A E s t Q st)(b:¬c->iT M A E s e Q st):iT M A E s (if c then t else e) Q st:=by
 by_cases h:c
 .rw[if_pos h];exact a h
 .rw[if_neg h];exact b h
section
variable{prog:aK}{w:aP}{A:Around}{E:aA->aB->Prop}{s:aB}
def mH(prog:aK)(w:aP)(A:Around)(s:aB)(κ:aV)(mem:aI->Prop)(lt:aI->aI->Bool):Prop:=
 ∀x y,mem x->mem y->∀(Q:Bool->aB->Prop),Q (lt x y) s->aG (aH prog w) A (nV κ x.1 y.1) Q (λ_ _=>False) s
variable{κ:aV}{mem:aI->Prop}{lt:aI->aI->Bool}
def CL(C:mH prog w A s κ mem lt){st:aN}(hk:kindOf st=κ){x y:aI}(hx:mem x)(hy:mem y){Q:Option Bool->aN->Prop}(h:Q (some<|lt x y) st):iT (aH prog w) A E s (lt' x y) Q st:=by rw[lt'_eq];refine a9<|dO ?_;rw[hk];refine a9<|gY<|jf<|jc (C x y hx hy (λb s'=>s'=s/\b=lt x y) ⟨rfl,rfl⟩) (λb s' hb=>⟨hb.1,?_⟩) λ_ _ z=>z.elim;rw[hb.2];exact bq h
theorem ah2(C:mH prog w A s κ mem lt){st:aN}(hk:kindOf st=κ){left:Bool}{key:aI}{arr:Array aI}{base i:Nat}{x:aI}(hx:arr[base+i]?=some x)(hm:mem x)(hy:mem key){Q:Option Bool->aN->Prop}(h:Q (some (if left=true then lt x key else !lt key x)) st) :
  iT (aH prog w) A E s (Fb left key arr base i) Q st:=by
 unfold Fb;rw[elem'_eq,hx];refine a9<|bq ?_;cases left with
 | true=>exact CL C hk hm hy h
 | false=>exact a9<|CL C hk hy hm<|bq h
theorem abn(C:mH prog w A s κ mem lt){st:aN}(hk:kindOf st=κ){left:Bool}{key:aI}{arr:Array aI}{base n hint:Nat}(fG:mem key)
  (Hh:∀i,i<n->∃x,arr[base+i]?=some x/\mem x) (hh:hint<n) (B:Nat->Bool) (hB:∀i x,i<n->arr[base+i]?=some x->B i=(if left=true then lt x key else !lt key x))
  (mono:∀i j,i<=j->j<n->B j=true->B i=true) {Q:Option Nat->aN->Prop} (h:∀k,k<=n->(∀i,i<k->B i=true)->(∀i,k<=i->i<n->B i=false)->Q (some k) st) :
  iT (aH prog w) A E s (CT left key arr base n hint) Q st:=by
 have ask:∀(i:Nat)(Q:Option Bool->aN->Prop),i<n->Q (some<|B i) st->iT (aH prog w) A E s (Fb left key arr base i) Q st:=λi Q hi q=>by obtain⟨x,hx,hm⟩:=Hh i hi;rw[hB i x hi hx]at q;exact ah2 C hk hx hm fG q
 have fin:∀(lo hi:Nat) ,lo<=hi->hi<=n->(∀i,i<lo->B i=true)->(∀i,hi<=i->i<n->B i=false)->
   iT (aH prog w) A E s (do
    let mut l:=lo
    let mut r:=hi
    for _ in [0:n] do
     if l>=r then break
     let FM:=l+(r-l)/2
     let some up <-Fb left key arr base FM|return none
     if up then l:=FM+1 else r:=FM
    return some r) Q st:=by
  intro lo hi h1 h2 h3 h4;refine a9 (i7 (gx (I:=λx c aQ=>aQ=st/\∃l r,c=(none,l,r)/\l<=r/\r<=n/\r-l<=n-x/\(∀i,i<l->B i=true)/\(∀i,r<=i->i<n->B i=false))
   (Q:=λc aQ=>aQ=st/\∃l r,c=(none,l,r)/\l=r/\r<=n/\(∀i,i<l->B i=true)/\(∀i,r<=i->i<n->B i=false)) ?step ?fin ?init) ?post)
  case init=>exact⟨rfl,(l8 lo hi ⟨rfl,h1,h2,by omega,h3,h4⟩)⟩
  case fin=>
   intro c aQ bU;refine hid λCg bV=>?_;obtain⟨rfl,l,r,rfl,a1,a2,a3,a4,a5⟩:=bU;refine bV ?_;exact⟨rfl,(l8 l r ⟨rfl,by omega,a2,a4,a5⟩)⟩
  case post=>
   intro c aQ bU;refine hid λCg bV=>?_;obtain⟨rfl,l,r,rfl,rfl,a2,a4,a5⟩:=bU;refine bV ?_;exact bq<|h l a2 a4 a5
  case step=>
   intro x c aQ _ hx bU;refine hid λCg bV=>?_;obtain⟨rfl,l,r,rfl,a1,a2,a3,a4,a5⟩:=bU;refine bV ?_;dsimp only;by_cases mN:l>=r
   .rw[if_pos mN];exact bq ⟨rfl,(l8 l r ⟨rfl,by omega,a2,a4,a5⟩)⟩
   .rw[if_neg mN];refine a9<|ask _ _ (by omega) ?_;cases hb:B (l+(r-l)/2)with
    | true=>exact bq ⟨rfl,(l8 (l+(r-l)/2+1) r ⟨rfl,by omega,a2,by omega,λi hi=>mono _ _ (show i<=l+(r-l)/2 by omega) (by omega) hb,a5⟩)⟩
    | false=>
     refine bq ⟨rfl,(l8 l (l+(r-l)/2) ⟨rfl,by omega,by omega,by omega,a4,λi hi hn=>?_⟩)⟩;cases zW:B i with
     | false=>rfl
     | true=>rw[mono _ _ hi hn zW]at hb;cases hb
 refine a9<|ask hint _ hh ?_;cases pR:B hint with
 | true=>
  dsimp only;simp only[if_true];refine a9 (i7 (gx (I:=λx c aQ=>aQ=st/\∃lo eK,c=(none,lo,eK)/\x+1<=eK/\lo<eK/\hint+lo<n/\B (hint+lo)=true)
   (Q:=λc aQ=>aQ=st/\∃lo eK,c=(none,lo,eK)/\lo<eK/\hint+lo<n/\B (hint+lo)=true/\(n-hint<=eK\/(eK<n-hint/\B (hint+eK)=false))) ?step ?fin ?init) ?post)
  case init=>exact⟨rfl,(l8 0 1 ⟨rfl,by omega,by omega,by omega,pR⟩)⟩
  case fin=>
   intro c aQ bU;refine hid λCg bV=>?_;obtain⟨rfl,lo,eK,rfl,a1,a2,a3,a4⟩:=bU;refine bV ?_;exact⟨rfl,(l8 lo eK ⟨rfl,a2,a3,a4,.inl<|by omega⟩)⟩
  case step=>
   intro x c aQ _ hx bU;refine hid λCg bV=>?_;obtain⟨rfl,lo,eK,rfl,a1,a2,a3,a4⟩:=bU;refine bV ?_;dsimp only;by_cases mN:eK>=n-hint
   .rw[if_pos mN];exact bq ⟨rfl,(l8 lo eK ⟨rfl,a2,a3,a4,.inl mN⟩)⟩
   .rw[if_neg mN];refine a9<|ask _ _ (by omega) ?_;cases hb:B (hint+eK)with
    | false=>exact bq ⟨rfl,(l8 lo eK ⟨rfl,a2,a3,a4,.inr ⟨by omega,hb⟩⟩)⟩
    | true=>exact bq ⟨rfl,(l8 eK (2*eK+1) ⟨rfl,by omega,by omega,by omega,hb⟩)⟩
  case post=>
   intro c aQ bU;refine hid λCg bV=>?_;obtain⟨rfl,lo,eK,rfl,a2,a3,a4,a5⟩:=bU;refine bV ?_;dsimp only;refine fin _ _ ?_ ?_ (λi hi=>mono _ _ (show i<=hint+lo by omega) a3 a4) λi hi hn=>?_
   .omega
   .omega
   .rcases a5 with h5|⟨h5,h6⟩
    .omega
    .cases zW:B i with
     | false=>rfl
     | true=>rw[mono _ _ (show hint+eK<=i by omega) hn zW]at h6;cases h6
 | false=>
  dsimp only;simp only[bf,if_false];refine a9 (i7 (gx (I:=λx c aQ=>aQ=st/\∃lo eK,c=(none,lo,eK)/\x+1<=eK/\lo<eK/\lo<=hint/\B (hint-lo)=false)
   (Q:=λc aQ=>aQ=st/\∃lo eK,c=(none,lo,eK)/\lo<eK/\lo<=hint/\B (hint-lo)=false/\(hint+1<=eK\/(eK<hint+1/\B (hint-eK)=true))) ?step ?fin ?init) ?post)
  case init=>exact⟨rfl,(l8 0 1 ⟨rfl,by omega,by omega,by omega,pR⟩)⟩
  case fin=>
   intro c aQ bU;refine hid λCg bV=>?_;obtain⟨rfl,lo,eK,rfl,a1,a2,a3,a4⟩:=bU;refine bV ?_;exact⟨rfl,(l8 lo eK ⟨rfl,a2,a3,a4,.inl<|by omega⟩)⟩
  case step=>
   intro x c aQ _ hx bU;refine hid λCg bV=>?_;obtain⟨rfl,lo,eK,rfl,a1,a2,a3,a4⟩:=bU;refine bV ?_;dsimp only;by_cases mN:eK>=hint+1
   .rw[if_pos mN];exact bq ⟨rfl,(l8 lo eK ⟨rfl,a2,a3,a4,.inl mN⟩)⟩
   .rw[if_neg mN];refine a9<|ask _ _ (by omega) ?_;cases hb:B (hint-eK)with
    | true=>exact bq ⟨rfl,(l8 lo eK ⟨rfl,a2,a3,a4,.inr ⟨by omega,hb⟩⟩)⟩
    | false=>exact bq ⟨rfl,(l8 eK (2*eK+1) ⟨rfl,by omega,by omega,by omega,hb⟩)⟩
  case post=>
   intro c aQ bU;refine hid λCg bV=>?_;obtain⟨rfl,lo,eK,rfl,a2,a3,a4,a5⟩:=bU;refine bV ?_;dsimp only;refine fin _ _ ?_ ?_ (λi hi=>?_) λi hi hn=>?_
   .omega
   .omega
   .rcases a5 with h5|⟨h5,h6⟩
    .omega
    .exact mono _ _ (show i<=hint-eK by omega) (by omega) h6
   .cases zW:B i with
    | false=>rfl
    | true=>rw[mono _ _ (show hint-lo<=i by omega) hn zW]at a4;cases a4
end
structure nE(lt:aI->aI->Bool):Prop where
 asy:∀x y,lt x y=true->lt y x=false
 tr:∀x y z,lt y x=false->lt z y=false->lt z x=false
def Srt(lt:aI->aI->Bool)(l:Z aI):Prop:=l.Pairwise λx y=>lt y x=false
structure Mid(lt:aI->aI->Bool)(la lb out:Z aI)(ia ib:Nat):Prop where
 perm:out.Perm (la.take ia++lb.take ib)
 srt:Srt lt out
 leA:∀x∈out,∀y∈la.drop ia,lt y x=false
 leB:∀x∈out,∀y∈lb.drop ib,lt y x=false
section
variable{lt:aI->aI->Bool}{la lb out:Z aI}{ia ib:Nat}
def aeo{l:Z aI}{i k:Nat}:l.take (i+k)=l.take i++(l.drop i).take k:=by rw[List.take_add]
def Mid.pushA(m:Mid lt la lb out ia ib)(hA:Srt lt la)(k:Nat)(h:∀x∈(la.drop ia).take k,∀y∈lb.drop ib,lt y x=false):Mid lt la lb (out++(la.drop ia).take k) (ia+k) ib:=by
 have hd:Srt lt (la.drop ia):=gy (List.drop_sublist _ _) hA;have hs:(la.drop ia).take k++la.drop (ia+k)=la.drop ia:=by rw[<-List.drop_drop];exact dh k _
 have jE:=hd;unfold Srt at jE;rw[<-hs,dy]at jE;refine⟨?_,?_,λx hx y hy=>?_,λx hx y hy=>?_⟩
 .rw[aeo];refine((m.perm.append_right _).trans ?_);rw[bp,bp];exact ij _ List.perm_append_comm
 .exact dy.mpr ⟨m.srt,jE.1,λx hx y hy=>m.leA x hx y<|cn hy⟩
 .rcases ay.mp hx with h1|h1
  .exact m.leA x h1 y<|by rw[<-hs];exact cf _ hy
  .exact jE.2.2 x h1 y hy
 .rcases ay.mp hx with h1|h1
  .exact m.leB x h1 y hy
  .exact h x h1 y hy
def Mid.pushB(m:Mid lt la lb out ia ib)(hB:Srt lt lb)(k:Nat)(h:∀x∈(lb.drop ib).take k,∀y∈la.drop ia,lt y x=false):Mid lt la lb (out++(lb.drop ib).take k) ia (ib+k):=by
 have hd:Srt lt (lb.drop ib):=gy (List.drop_sublist _ _) hB;have hs:(lb.drop ib).take k++lb.drop (ib+k)=lb.drop ib:=by rw[<-List.drop_drop];exact dh k _
 have jE:=hd;unfold Srt at jE;rw[<-hs,dy]at jE;refine⟨?_,?_,λx hx y hy=>?_,λx hx y hy=>?_⟩
 .rw[aeo,<-bp];exact m.perm.append_right _
 .exact dy.mpr ⟨m.srt,jE.1,λx hx y hy=>m.leB x hx y<|cn hy⟩
 .rcases ay.mp hx with h1|h1
  .exact m.leA x h1 y hy
  .exact h x h1 y hy
 .rcases ay.mp hx with h1|h1
  .exact m.leB x h1 y<|by rw[<-hs];exact cf _ hy
  .exact jE.2.2 x h1 y hy
def oy(lt:aI->aI->Bool)(la lb out:Z aI):Prop:=out.Perm (la++lb)/\Srt lt out
def Mid.endB(m:Mid lt la lb out ia ib)(hA:Srt lt la)(h:lb.length<=ib):oy lt la lb (out++la.drop ia):=by have hd:Srt lt (la.drop ia):=gy (List.drop_sublist _ _) hA;refine⟨?_,dy.mpr ⟨m.srt,hd,m.leA⟩⟩;have e:lb.take ib=lb:=bi h;have p:=m.perm.append_right<|la.drop ia;rw[e,bp]at p;refine p.trans<|(ij _ List.perm_append_comm).trans ?_;rw[<-bp,dh]
def Mid.endA(m:Mid lt la lb out ia ib)(hB:Srt lt lb)(h:la.length<=ia):oy lt la lb (out++lb.drop ib):=by have hd:Srt lt (lb.drop ib):=gy (List.drop_sublist _ _) hB;refine⟨?_,dy.mpr ⟨m.srt,hd,m.leB⟩⟩;have e:la.take ia=la:=bi h;have p:=m.perm.append_right<|lb.drop ib;rw[e,bp,dh]at p;exact p
def Mid.lastA(m:Mid lt la lb out ia ib)(o:nE lt)(hA:Srt lt la)(hB:Srt lt lb)(h:ia+1=la.length)(hl:∀y∈lb,∀x∈la.drop ia,lt y x=true):oy lt la lb (out++lb.drop ib++la.drop ia):=by have m2:=m.pushB hB (lb.length-ib) λx hx y hy=>o.asy _ _<|hl x (j9<|cn hx) y hy;have e:(lb.drop ib).take (lb.length-ib)=lb.drop ib:=bi (by rw[gm];exact am _);rw[e]at m2;exact m2.endB hA<|by lia
end
noncomputable def aco:Nat->StateT aN nG Unit:=sortPriv% PySem.Builtin.setMinGallop
noncomputable abbrev uh(st:aN)(g:Nat):aN:=aN.mk' (kindOf st) (aJ st) (aM st) g<|bN st
noncomputable def ant:Array aI->Array aI->StateT aN nG (Array aI):=sortPriv% PySem.Builtin.mergeLo
def SameG(st aQ:aN):Prop:=kindOf aQ=kindOf st/\aJ aQ=aJ st/\aM aQ=aM st/\bN aQ=bN st
def SameG.refl(st:aN):SameG st st:=⟨rfl,rfl,rfl,rfl⟩
def SameG.gal{st aQ:aN}(h:SameG st aQ)(g:Nat):SameG st (uh aQ g):=h
section
variable{prog:aK}{w:aP}{A:Around}{E:aA->aB->Prop}{s:aB}
variable{κ:aV}{mem:aI->Prop}{lt:aI->aI->Bool}
structure Two(mem:aI->Prop)(lt:aI->aI->Bool)(a b:Array aI):Prop where
 mA:∀x∈a.toList,mem x
 mB:∀x∈b.toList,mem x
 sA:Srt lt a.toList
 sB:Srt lt b.toList
 pA:0<a.size
 pB:0<b.size
 first:∀x y,b[0]?=some x->a[0]?=some y->lt x y=true
 last:∀y∈b.toList,∀x,a[a.size-1]?=some x->lt y x=true
def Ay{st:aN}{g:Nat}{Q:Unit->aN->Prop}(q:Q () (uh st g)):iT (aH prog w) A E s (aco g) Q st:=
 show iT (aH prog w) A E s (modify λz=>uh z g) Q st from cB q
def ny{arr:Array aI}{i:Nat}{x:aI}(h:arr[i]?=some x){st:aN}{Q:aI->aN->Prop}(q:Q x st):iT (aH prog w) A E s (jF arr i) Q st:=by rw[elem'_eq,h];exact bq q
def su{arr:Array aI}{i:Nat}{x:aI}(h:arr[i]?=some x):arr.toList.drop i=x::arr.toList.drop (i+1):=by obtain⟨hi,e⟩:=br.mp h;have:=List.drop_eq_getElem_cons (l:=arr.toList) (i:=i) (by simpa using hi);rw[this];simp[e]
theorem yz{l:Z aI}{x:aI}{r:Z aI}(o:nE lt)(hs:Srt lt l)(e:l=x::r):∀z∈l,lt z x=false:=by
 subst e;intro z hz;rcases ax.mp hz with h|h
 .rw[h];cases q:lt x x with
  | false=>rfl
  | true=>have:=o.asy _ _ q;rw[q]at this;cases this
 .exact(gh.mp hs).1 z h
def zg{l:Z aI}(hs:Srt lt l)(i:Nat):Srt lt (l.drop i):=gy (List.drop_sublist _ _) hs
def vo{arr:Array aI}(o:nE lt)(hs:Srt lt arr.toList){i j:Nat}{x y:aI}(cO:i<=j)(hx:arr[i]?=some x)(hy:arr[j]?=some y):lt y x=false:=by
 have e:=su hx;have hm:y∈arr.toList.drop i:=by rw[eu];exact⟨j-i,by rw[gi,show i+(j-i)=j by lia];simpa using hy⟩
 exact yz o (zg hs i) e y hm
def pZ(lt:aI->aI->Bool)(a b out:Array aI)(ia ib:Nat):Prop:=Mid lt a.toList b.toList out.toList ia ib/\ia+1<a.size/\ib<b.size
def IM{a b out:Array aI}{ia ib:Nat}{x:aI}(o:nE lt)(T:Two mem lt a b)(m:Mid lt a.toList b.toList out.toList ia ib)(hx:b[ib]?=some x)(h:∀z∈a.toList.drop ia,lt z x=false) :
  Mid lt a.toList b.toList (out.push x).toList ia (ib+1):=by
 have m2:=m.pushB T.sB 1 λu hu y hy=>by
  rw[su hx]at hu;have:u=x:=by simpa using hu
  rw[this];exact h y hy
 rw[su hx]at m2;simpa using m2
def au0{a b out:Array aI}{ia ib:Nat}{y:aI}(o:nE lt)(T:Two mem lt a b)(m:Mid lt a.toList b.toList out.toList ia ib)(hy:a[ia]?=some y)(h:∀z∈b.toList.drop ib,lt z y=false) :
  Mid lt a.toList b.toList (out.push y).toList (ia+1) ib:=by
 have m2:=m.pushA T.sA 1 λu hu z hz=>by
  rw[su hy]at hu;have:u=y:=by simpa using hu
  rw[this];exact h z hz
 rw[su hy]at m2;simpa using m2
def EZ{arr:Array aI}(o:nE lt)(hs:Srt lt arr.toList){i:Nat}{x y:aI}(hx:arr[i]?=some x)(h:lt x y=false):∀z∈arr.toList.drop i,lt z y=false:=λz hz=>
 o.tr y x z h (yz o (zg hs i) (su hx) z hz)
def EJ{a b out:Array aI}{ia ib:Nat}(T:Two mem lt a b)(m:Mid lt a.toList b.toList out.toList ia ib)(h:ib=b.size):oy lt a.toList b.toList (out++a.extract ia a.size++b.extract ib b.size).toList:=by have:=m.endB T.sA (by simp[h]);have e:List.take (a.size-ia) (a.toList.drop ia)=a.toList.drop ia:=bi (by simp);simpa [h,e]using this
def asx{a b out:Array aI}{ia ib:Nat}(T:Two mem lt a b)(m:Mid lt a.toList b.toList out.toList ia ib)(h:ia=a.size):oy lt a.toList b.toList (out++a.extract ia a.size++b.extract ib b.size).toList:=by have:=m.endA T.sB (by simp[h]);have e:List.take (b.size-ib) (b.toList.drop ib)=b.toList.drop ib:=bi (by simp);simpa [h,e]using this
def Cq{a b out:Array aI}{ia ib:Nat}(o:nE lt)(T:Two mem lt a b)(m:Mid lt a.toList b.toList out.toList ia ib)(h:ia+1=a.size):oy lt a.toList b.toList (out++b.extract ib b.size++a.extract ia a.size).toList:=by
 have:=m.lastA o T.sA T.sB (by simpa using h) λy hy x hx=>by
  have hl:a[ia]?=some (a[ia]'(by lia)):=by simp
  rw[su hl,List.drop_eq_nil_of_le<|by simp;lia]at hx;have e:x=a[ia]'(by lia):=by simpa using hx
  refine T.last y hy x ?_;rw[e,show a.size-1=ia by lia];exact hl
 have e:List.take (a.size-ia) (a.toList.drop ia)=a.toList.drop ia:=bi (by simp);have e2:List.take (b.size-ib) (b.toList.drop ib)=b.toList.drop ib:=bi (by simp);simpa [e,e2]using this
def we{arr:Array aI}{P:aI->Prop}{base k:Nat}(h:∀i z,i<k->arr[base+i]?=some z->P z):∀z∈(arr.toList.drop base).take k,P z:=λz hz=>by
 obtain⟨i,hi⟩:=eu.mp hz;have zS:i<k:=by have:=(aj.mp hi).1;rw[b8]at this;lia
 rw[fh zS,gi]at hi;exact h i z zS<|by simpa using hi
def ade{arr:Array aI}{P:aI->Prop}{base k:Nat}(h:∀i z,k<=i->arr[base+i]?=some z->P z):∀z∈arr.toList.drop (base+k),P z:=λz hz=>by obtain⟨i,hi⟩:=eu.mp hz;rw[gi]at hi;exact h (k+i) z (by lia)<|by rw[<-Nat.add_assoc];simpa using hi
def vq(C:mH prog w A s κ mem lt)(o:nE lt){st:aN}(hk:kindOf st=κ){key:aI}{arr:Array aI}{base n hint:Nat}(fG:mem key)(hn:base+n<=arr.size)(hm:∀i z,i<n->arr[base+i]?=some z->mem z)(hh:hint<n)
  (hs:∀i j y z,i<=j->j<n->arr[base+i]?=some y->arr[base+j]?=some z->lt z y=false) {Q:Option Nat->aN->Prop}
  (h:∀k,k<=n->(∀i z,i<k->arr[base+i]?=some z->lt key z=false)->(∀i z,k<=i->i<n->arr[base+i]?=some z->lt key z=true)->Q (some k) st):iT (aH prog w) A E s (CT false key arr base n hint) Q st:=by
 have ex:∀i,i<n->∃z,arr[base+i]?=some z:=λi hi=>⟨arr[base+i]'(by lia),by simp⟩;refine abn C hk fG (λi hi=>?_) hh (λi=>match arr[base+i]? with|some z=>!lt key z|none=>false) (λi z hi hz=>by simp[hz]) (λi j cO hj hb=>?_) λk kK h1 h2=>h k kK (λi z hi hz=>?_) λi z hi gB hz=>?_
 .obtain⟨z,hz⟩:=ex i hi;exact⟨z,hz,hm i z hi hz⟩
 .obtain⟨y,hy⟩:=ex i (by lia);obtain⟨z,hz⟩:=ex j hj;simp only[hz,hy,Bool.not_eq_true']at hb⊢;exact o.tr _ _ _ (hs i j y z cO hj hy hz) hb
 .have:=h1 i hi;simpa [hz]using this
 .have:=h2 i hi gB;simpa [hz]using this
theorem J9(C:mH prog w A s κ mem lt)(o:nE lt){st:aN}(hk:kindOf st=κ){key:aI}{arr:Array aI}{base n hint:Nat}(fG:mem key)(hn:base+n<=arr.size)(hm:∀i z,i<n->arr[base+i]?=some z->mem z)(hh:hint<n)
  (hs:∀i j y z,i<=j->j<n->arr[base+i]?=some y->arr[base+j]?=some z->lt z y=false) {Q:Option Nat->aN->Prop}
  (h:∀k,k<=n->(∀i z,i<k->arr[base+i]?=some z->lt z key=true)->(∀i z,k<=i->i<n->arr[base+i]?=some z->lt z key=false)->Q (some k) st):iT (aH prog w) A E s (CT true key arr base n hint) Q st:=by
 have ex:∀i,i<n->∃z,arr[base+i]?=some z:=λi hi=>⟨arr[base+i]'(by lia),by simp⟩;refine abn C hk fG (λi hi=>?_) hh (λi=>match arr[base+i]? with|some z=>lt z key|none=>false) (λi z hi hz=>by simp[hz]) (λi j cO hj hb=>?_) λk kK h1 h2=>h k kK (λi z hi hz=>?_) λi z hi gB hz=>?_
 .obtain⟨z,hz⟩:=ex i hi;exact⟨z,hz,hm i z hi hz⟩
 .obtain⟨y,hy⟩:=ex i (by lia);obtain⟨z,hz⟩:=ex j hj;simp only[hz,hy]at hb⊢;cases q:lt y key with
  | true=>rfl
  | false=>rw[o.tr _ _ _ q (hs i j y z cO hj hy hz)]at hb;cases hb
 .have:=h1 i hi;simpa [hz]using this
 .have:=h2 i hi gB;simpa [hz]using this
theorem afz(C:mH prog w A s κ mem lt)(o:nE lt){st:aN}(hk:kindOf st=κ){a b:Array aI}(T:Two mem lt a b){Q:Array aI->aN->Prop}
  (h:∀out aQ,SameG st aQ->oy lt a.toList b.toList out.toList->Q out aQ):iT (aH prog w) A E s (ant a b) Q st:=by
 refine a9<|gY<|jr ⟨rfl,?_⟩;have pR:b[0]?=some (b[0]'T.pB):=by simp[T.pB]
 have BV:a[0]?=some (a[0]'T.pA):=by simp[T.pA]
 refine a9<|ny pR ?_;have m0:Mid lt a.toList b.toList (#[]:Array aI).toList 0 0:=⟨by simp,List.Pairwise.nil,by simp,by simp⟩;have m1:=IM o T m0 pR λz hz=>o.tr _ _ _ (o.asy _ _<|T.first _ _ pR BV)<|yz o (zg T.sA 0) (su BV) z hz;dsimp only;refine mw (λ(xT:(1==b.size)=true)=>?_) λ(xT:¬(1==b.size)=true)=>?_
 .exact bq<|h _ _ (SameG.refl _)<|EJ T m1<|by simpa using xT
 refine mw (λ(xV:(0+1==a.size)=true)=>?_) λ(xV:¬(0+1==a.size)=true)=>?_
 .exact bq<|h _ _ (SameG.refl _)<|Cq o T m1<|by simpa using xV
 have tX:1<b.size:=by have:¬1=b.size:=by simpa using xT
                      have:=T.pB;lia
 have ha2:0+1<a.size:=by have:¬0+1=a.size:=by simpa using xV
                         have:=T.pA;lia
 refine a9<|dO ?_;refine a9 (i7 (gx (I:=λx c aQ=>SameG st aQ/\∃out ia ib mg,c=(none,out,ia,ib,mg)/\pZ lt a b out ia ib/\x+1<=ia+ib)
  (Q:=λc aQ=>SameG st aQ/\∃res r,c=(some res,r)/\oy lt a.toList b.toList res.toList) ?step ?fin ?init) ?post)
 case init=>exact⟨SameG.refl _,(mf _ _ _ _ ⟨rfl,⟨m1,ha2,tX⟩,am _⟩)⟩
 case fin=>
  intro c aQ bU;refine hid λCg bV=>?_;obtain⟨_,out,ia,ib,mg,rfl,⟨_,h1,h2⟩,h3⟩:=bU;refine bV ?_;lia
 case post=>
  intro c aQ bU;refine hid λCg bV=>?_;obtain⟨sg,res,r,rfl,hm⟩:=bU;refine bV ?_;exact bq<|h _ _ sg hm
 case step=>
  intro x c aQ _ hx bU;refine hid λCg bV=>?_;obtain⟨sg,out,ia,ib,mg,rfl,L,hp⟩:=bU;refine bV ?_;dsimp only;refine a9 (i7 (gx (I:=λy c aQ=>SameG st aQ/\∃cS iA hZ ac bc,c=(none,cS,iA,hZ,ac,bc)/\pZ lt a b cS iA hZ/\ia+ib<=iA+hZ)
   (Q:=λc aQ=>SameG st aQ/\((∃res r,c=(some res,r)/\oy lt a.toList b.toList res.toList)\/∃cS iA hZ ac bc,c=(none,cS,iA,hZ,ac,bc)/\pZ lt a b cS iA hZ/\ia+ib<=iA+hZ)) ?istep ?ifin ?iinit) ?ipost)
  case iinit=>exact⟨sg,(lw _ _ _ _ _ ⟨rfl,L,am _⟩)⟩
  case ifin=>
   rintro c dL ⟨cX,aW⟩;exact⟨cX,.inr aW⟩
  case istep=>
   intro y c dL _ hy bU;refine hid λCg bV=>?_;obtain⟨cX,cS,iA,hZ,ac,bc,rfl,⟨m,l1,l2⟩,mK⟩:=bU;refine bV ?_;dsimp only;have gU:b[hZ]?=some (b[hZ]'l2):=by simp[l2]
   have gQ:a[iA]?=some (a[iA]'(by lia)):=by simp
   refine a9<|ny gU<|a9<|ny gQ<|a9<|CL C (cX.1.trans hk) (T.mB _<|by simp) (T.mA _<|by simp) ?_;cases hl:lt b[hZ] a[iA]with
   | true=>
    dsimp only;simp only[if_true];refine a9<|ny gU ?_;have m2:=IM o T m gU<|EZ o T.sA gQ<|o.asy _ _ hl;try dsimp only
    refine mw (λ(he:(hZ+1==b.size)=true)=>?_) λ(he:¬(hZ+1==b.size)=true)=>?_
    .exact bq ⟨cX,.inl<|l8 _ _ ⟨rfl,EJ T m2<|by simpa using he⟩⟩
    .have jJ:¬hZ+1=b.size:=by simpa using he
     have L2:pZ lt a b (cS.push b[hZ]) iA (hZ+1):=⟨m2,l1,by lia⟩;split
     .exact bq ⟨cX,.inr<|lw _ _ _ _ _ ⟨rfl,L2,by lia⟩⟩
     .exact bq ⟨cX,(lw _ _ _ _ _ ⟨rfl,L2,by lia⟩)⟩
   | false=>
    dsimp only;simp only[bf,if_false];refine a9<|ny gQ ?_;have m2:=au0 o T m gQ<|EZ o T.sB gU hl;try dsimp only
    refine mw (λ(he:(iA+1+1==a.size)=true)=>?_) λ(he:¬(iA+1+1==a.size)=true)=>?_
    .exact bq ⟨cX,.inl<|l8 _ _ ⟨rfl,Cq o T m2<|by simpa using he⟩⟩
    .have jJ:¬iA+1+1=a.size:=by simpa using he
     have L2:pZ lt a b (cS.push a[iA]) (iA+1) hZ:=⟨m2,by lia,l2⟩;split
     .exact bq ⟨cX,.inr<|lw _ _ _ _ _ ⟨rfl,L2,by lia⟩⟩
     .exact bq ⟨cX,(lw _ _ _ _ _ ⟨rfl,L2,by lia⟩)⟩
  case ipost=>
   intro c dL bU;refine hid λCg bV=>?_
   (rcases bU with ⟨cX,(⟨res,r,rfl,hm⟩|⟨cS,iA,hZ,ac,bc,rfl,L2,qV⟩)⟩)<;>refine bV ?_
   .dsimp only;exact bq ⟨cX,(l8 _ _ ⟨rfl,hm⟩)⟩
   .dsimp only;refine a9<|gY<|jr ⟨rfl,?_⟩;refine a9 (i7 (gx (I:=λy c aQ=>SameG st aQ/\∃bA cJ bM dH ac bc,c=(none,bA,cJ,bM,dH,ac,bc)/\pZ lt a b bA cJ bM/\iA+hZ+y<=cJ+bM)
     (Q:=λc aQ=>SameG st aQ/\((∃res r,c=(some res,r)/\oy lt a.toList b.toList res.toList)\/∃bA cJ bM dH ac bc,c=(none,bA,cJ,bM,dH,ac,bc)/\pZ lt a b bA cJ bM/\iA+hZ+1<=cJ+bM)) ?jstep ?jfin ?jinit) ?jpost)
    case jinit=>exact⟨cX,(lw _ _ _ _ _ ⟨_,rfl,L2,am _⟩)⟩
    case jfin=>
     intro c dI bU;refine hid λCg bV=>?_;obtain⟨hU,bA,cJ,bM,dH,CN,uC,rfl,L3,qU⟩:=bU;refine bV ?_;exact⟨hU,.inr<|lw _ _ _ _ _ ⟨_,rfl,L3,by have:=T.pA;lia⟩⟩
    case jpost=>
     intro c dI bU;refine hid λCg bV=>?_
     (rcases bU with ⟨hU,(⟨res,r,rfl,hm⟩|⟨bA,cJ,bM,dH,CN,uC,rfl,L3,qU⟩)⟩)<;>refine bV ?_
     .dsimp only;exact bq ⟨hU,(l8 _ _ ⟨rfl,hm⟩)⟩
     .dsimp only;refine a9<|Ay ?_;exact bq ⟨hU.gal _,(mf _ _ _ _ ⟨rfl,L3,by lia⟩)⟩
    case jstep=>
     intro y c dI _ hy bU;refine hid λCg bV=>?_;obtain⟨hU,bA,cJ,bM,dH,CN,uC,rfl,⟨m3,l3,l4⟩,qU⟩:=bU;refine bV ?_;dsimp only;have gU:b[bM]?=some (b[bM]'l4):=by simp[l4]
     have gS:∀i z,a[i]?=some z->mem z:=λi z hz=>T.mA z (by obtain⟨h1,h2⟩:=br.mp hz;rw[<-h2];simp);have lN:∀i z,b[i]?=some z->mem z:=λi z hz=>T.mB z (by obtain⟨h1,h2⟩:=br.mp hz;rw[<-h2];simp);have body:∀(eU:Nat)(bP:aN),SameG st bP->∀(k:Nat),k<=a.size-cJ->(∀i z,i<k->a[cJ+i]?=some z->lt b[bM] z=false)->(∀i z,k<=i->i<a.size-cJ->a[cJ+i]?=some z->lt b[bM] z=true)->
       ∃bI:Array aI,bI=bA++a.extract cJ (cJ+k)/\Mid lt a.toList b.toList bI.toList (cJ+k) bM/\∀z∈a.toList.drop (cJ+k),lt z b[bM]=false:=by
      intro eU bP dG k kK h1 h2;refine⟨_,rfl,?_,?_⟩
      .have m4:=m3.pushA T.sA k λz hz y hy=>EZ o T.sB gU (we (P:=λz=>lt b[bM] z=false) h1 z hz) y hy;have e:(bA++a.extract cJ (cJ+k)).toList=bA.toList++(a.toList.drop cJ).take k:=by
        simp
       rw[e];exact m4
      .exact ade (P:=λz=>lt z b[bM]=false) λi z hi hz=>o.asy _ _<|h2 i z hi (by have:=(br.mp hz).1;lia) hz
     have lI:∀(fW:Array aI)(dB sE eU k k1:Nat)(bP:aN),SameG st bP->Mid lt a.toList b.toList fW.toList dB sE->dB+1<a.size->sE<b.size->(∀z,a[dB]?=some z->∀u∈b.toList.drop sE,lt u z=false)->iA+hZ+y+1<=dB+sE->
       iT (aH prog w) A E s (do
        let z2 <-jF a dB
        if (dB+1+1==a.size)=true then
         aR (ForInStep.done (some<|fW.push z2++b.extract sE b.size++a.extract (dB+1) a.size,fW.push z2,dB+1,sE,eU,k,k1))
        else if (decide (k<7)&&decide (k1<7))=true then aR (ForInStep.done (none,fW.push z2,dB+1,sE,eU,k,k1))
        else aR (ForInStep.yield (none,fW.push z2,dB+1,sE,eU,k,k1)))
       (λr aQ=>match r with
        | .done c'=>SameG st aQ/\((∃res r,c'=(some res,r)/\oy lt a.toList b.toList res.toList)\/∃bA cJ bM dH ac bc,c'=(none,bA,cJ,bM,dH,ac,bc)/\pZ lt a b bA cJ bM/\iA+hZ+1<=cJ+bM)
        | .yield c'=>SameG st aQ/\∃bA cJ bM dH ac bc,c'=(none,bA,cJ,bM,dH,ac,bc)/\pZ lt a b bA cJ bM/\iA+hZ+(y+1)<=cJ+bM) bP:=by
      intro fW dB sE eU k k1 bP dG m5 l5 l6 hu Gu;have gQ:a[dB]?=some (a[dB]'(by lia)):=by simp
      refine a9<|ny gQ ?_;have m6:=au0 o T m5 gQ<|hu _ gQ;refine mw (λ(he:(dB+1+1==a.size)=true)=>?_) λ(he:¬(dB+1+1==a.size)=true)=>?_
      .exact bq ⟨dG,.inl<|l8 _ _ ⟨rfl,Cq o T m6<|by simpa using he⟩⟩
      .have jJ:¬dB+1+1=a.size:=by simpa using he
       have L6:pZ lt a b (fW.push a[dB]) (dB+1) sE:=⟨m6,by lia,l6⟩;split
       .exact bq ⟨dG,.inr<|lw _ _ _ _ _ ⟨_,rfl,L6,by lia⟩⟩
       .exact bq ⟨dG,(lw _ _ _ _ _ ⟨_,rfl,L6,by lia⟩)⟩
     have aW:∀(bI:Array aI)(dB eU k:Nat)(bP:aN),SameG st bP->Mid lt a.toList b.toList bI.toList dB bM->dB+1<a.size->(∀z∈a.toList.drop dB,lt z b[bM]=false)->iA+hZ+y<=dB+bM->
       iT (aH prog w) A E s (do
        let z <-jF b bM
        if (bM+1==b.size)=true then
         aR (ForInStep.done (some<|bI.push z++a.extract dB a.size++b.extract (bM+1) b.size,bI.push z,dB,bM+1,eU,k,uC))
        else do
         let z1 <-jF a dB
         let x <-CT true z1 b (bM+1) (b.size-(bM+1)) 0
         match x with
         | some k1=>
          if k1>0 then
           if (bM+1+k1==b.size)=true then
            aR (ForInStep.done (some<|bI.push z++b.extract (bM+1) (bM+1+k1)++a.extract dB a.size++b.extract (bM+1+k1) b.size,bI.push z++b.extract (bM+1) (bM+1+k1),dB,bM+1+k1,eU,k,k1))
           else do
            let z2 <-jF a dB
            if (dB+1+1==a.size)=true then
             aR (ForInStep.done (some<|(bI.push z++b.extract (bM+1) (bM+1+k1)).push z2++b.extract (bM+1+k1) b.size++a.extract (dB+1) a.size,(bI.push z++b.extract (bM+1) (bM+1+k1)).push z2,dB+1,bM+1+k1,eU,k,k1))
            else if (decide (k<7)&&decide (k1<7))=true then aR (ForInStep.done (none,(bI.push z++b.extract (bM+1) (bM+1+k1)).push z2,dB+1,bM+1+k1,eU,k,k1))
            else aR (ForInStep.yield (none,(bI.push z++b.extract (bM+1) (bM+1+k1)).push z2,dB+1,bM+1+k1,eU,k,k1))
          else do
           let z2 <-jF a dB
           if (dB+1+1==a.size)=true then
            aR (ForInStep.done (some<|(bI.push z).push z2++b.extract (bM+1) b.size++a.extract (dB+1) a.size,(bI.push z).push z2,dB+1,bM+1,eU,k,k1))
           else if (decide (k<7)&&decide (k1<7))=true then aR (ForInStep.done (none,(bI.push z).push z2,dB+1,bM+1,eU,k,k1))
           else aR (ForInStep.yield (none,(bI.push z).push z2,dB+1,bM+1,eU,k,k1))
         | _=>aR<|ForInStep.done (some<|bI.push z++a.extract dB a.size++b.extract (bM+1) b.size,bI.push z,dB,bM+1,eU,k,uC))
       (λr aQ=>match r with
        | .done c'=>SameG st aQ/\((∃res r,c'=(some res,r)/\oy lt a.toList b.toList res.toList)\/∃bA cJ bM dH ac bc,c'=(none,bA,cJ,bM,dH,ac,bc)/\pZ lt a b bA cJ bM/\iA+hZ+1<=cJ+bM)
        | .yield c'=>SameG st aQ/\∃bA cJ bM dH ac bc,c'=(none,bA,cJ,bM,dH,ac,bc)/\pZ lt a b bA cJ bM/\iA+hZ+(y+1)<=cJ+bM) bP:=by
      intro bI dB eU k bP dG m4 l5 lP DL;refine a9<|ny gU ?_;have m5:=IM o T m4 gU lP;refine mw (λ(he:(bM+1==b.size)=true)=>?_) λ(he:¬(bM+1==b.size)=true)=>?_
      .exact bq ⟨dG,.inl<|l8 _ _ ⟨rfl,EJ T m5<|by simpa using he⟩⟩
      have jJ:¬bM+1=b.size:=by simpa using he
      have gQ:a[dB]?=some (a[dB]'(by lia)):=by simp
      refine a9<|ny gQ ?_;refine a9<|J9 (st:=bP) (base:=bM+1) (n:=b.size-(bM+1)) (hint:=0) C o (dG.1.trans hk) (gS _ _ gQ) (by lia) (λi z hi hz=>lN _ z hz) (by lia) (λi j y z cO hj hy hz=>vo o T.sB (show bM+1+i<=bM+1+j by lia) hy hz) λk1 kK h1 h2=>?_;dsimp only;have m6:=m5.pushB T.sB k1 λz hz u hu=>EZ o T.sA gQ (o.asy _ _<|we (P:=λz=>lt z a[dB]=true) h1 z hz) u hu;have e6:(bI.push b[bM]++b.extract (bM+1) (bM+1+k1)).toList=(bI.push b[bM]).toList++(b.toList.drop<|bM+1).take k1:=by simp
      rw[<-e6]at m6;have zK:∀z,a[dB]?=some z->∀u∈b.toList.drop (bM+1+k1),lt u z=false:=λz hz=>by rw[gQ]at hz;cases hz;exact ade (P:=λu=>lt u a[dB]=false) λi z hi hz=>h2 i z hi (by have:=(br.mp hz).1;lia) hz
      refine mw (λ(iU:k1>0)=>?_) λ(iU:¬(k1>0))=>?_
      .refine mw (λ(mX:(bM+1+k1==b.size)=true)=>?_) λ(mX:¬(bM+1+k1==b.size)=true)=>?_
       .exact bq ⟨dG,.inl<|l8 _ _ ⟨rfl,EJ T m6<|by simpa using mX⟩⟩
       .have Hb:¬bM+1+k1=b.size:=by simpa using mX
        exact lI _ dB (bM+1+k1) eU k k1 bP dG m6 l5 (by lia) zK<|by lia
      .have e0:k1=0:=by lia
       subst e0;exact lI _ dB (bM+1) eU k 0 bP dG m5 l5 (by lia) zK<|by lia
     refine mw (λ(tN:dH>1)=>?_) λ(tN:¬(dH>1))=>?_
     .refine a9<|Ay ?_;have dG:SameG st (uh dI<|dH-1):=hU.gal _;refine a9<|ny gU ?_;refine a9<|vq (st:=uh dI<|dH-1) (base:=cJ) (n:=a.size-cJ) (hint:=0) C o (dG.1.trans hk) (lN _ _ gU) (by lia) (λi z hi hz=>gS _ z hz) (by lia) (λi j y z cO hj hy hz=>vo o T.sA (show cJ+i<=cJ+j by lia) hy hz) λk kK h1 h2=>?_;obtain⟨bI,e3,m4,lP⟩:=body 0 dI hU k kK h1 h2;dsimp only;by_cases iU:k>0
      .rw[if_pos iU,<-e3];refine mw (λ(he:(cJ+k+1==a.size)=true)=>?_) λ(he:¬(cJ+k+1==a.size)=true)=>?_
       .exact bq ⟨dG,.inl<|l8 _ _ ⟨rfl,Cq o T m4<|by simpa using he⟩⟩
       have jJ:¬cJ+k+1=a.size:=by simpa using he
       refine mw (λ(mX:(cJ+k==a.size)=true)=>?_) λ(mX:¬(cJ+k==a.size)=true)=>?_
       .exact bq ⟨dG,.inl<|l8 _ _ ⟨rfl,asx T m4<|by simpa using mX⟩⟩
       have Hb:¬cJ+k=a.size:=by simpa using mX
       refine i7 (aW bI (cJ+k) (dH-1) k _ dG m4 (by lia) lP<|by lia) λr aQ hr=>?_;cases r<;>exact hr
      .rw[if_neg iU];have e0:k=0:=by lia
       subst e0;have e5:bI=bA:=Array.ext' (by rw[e3];simp);rw[e5]at m4;refine i7 (aW bA cJ (dH-1) 0 _ dG m4 l3 lP qU) λr aQ hr=>?_;cases r<;>exact hr
     .refine a9<|Ay ?_;have dG:SameG st (uh dI<|dH):=hU.gal _;refine a9<|ny gU ?_;refine a9<|vq (st:=uh dI<|dH) (base:=cJ) (n:=a.size-cJ) (hint:=0) C o (dG.1.trans hk) (lN _ _ gU) (by lia) (λi z hi hz=>gS _ z hz) (by lia) (λi j y z cO hj hy hz=>vo o T.sA (show cJ+i<=cJ+j by lia) hy hz) λk kK h1 h2=>?_;obtain⟨bI,e3,m4,lP⟩:=body 0 dI hU k kK h1 h2;dsimp only;by_cases iU:k>0
      .rw[if_pos iU,<-e3];refine mw (λ(he:(cJ+k+1==a.size)=true)=>?_) λ(he:¬(cJ+k+1==a.size)=true)=>?_
       .exact bq ⟨dG,.inl<|l8 _ _ ⟨rfl,Cq o T m4<|by simpa using he⟩⟩
       have jJ:¬cJ+k+1=a.size:=by simpa using he
       refine mw (λ(mX:(cJ+k==a.size)=true)=>?_) λ(mX:¬(cJ+k==a.size)=true)=>?_
       .exact bq ⟨dG,.inl<|l8 _ _ ⟨rfl,asx T m4<|by simpa using mX⟩⟩
       have Hb:¬cJ+k=a.size:=by simpa using mX
       refine i7 (aW bI (cJ+k) (dH) k _ dG m4 (by lia) lP<|by lia) λr aQ hr=>?_;cases r<;>exact hr
      .rw[if_neg iU];have e0:k=0:=by lia
       subst e0;have e5:bI=bA:=Array.ext' (by rw[e3];simp);rw[e5]at m4;refine i7 (aW bA cJ (dH) 0 _ dG m4 l3 lP qU) λr aQ hr=>?_;cases r<;>exact hr
end
structure MidH(lt:aI->aI->Bool)(la lb R:Z aI)(na nb:Nat):Prop where
 perm:R.Perm (la.drop na++lb.drop nb)
 srt:Srt lt R
 geA:∀x∈la.take na,∀y∈R,lt y x=false
 geB:∀x∈lb.take nb,∀y∈R,lt y x=false
section
variable{lt:aI->aI->Bool}{la lb R:Z aI}{na nb:Nat}
def ahm{l:Z aI}{i n:Nat}(h:i<=n):l.take i++(l.take n).drop i=l.take n:=by have:=dh i<|l.take n;rw[List.take_take,ft h]at this;exact this
def ahk{l:Z aI}{i n:Nat}(h:i<=n):(l.take n).drop i++l.drop n=l.drop i:=by
 have e:=dh n l;have:=congrArg (List.drop i) e;rw[List.drop_append]at this;by_cases hl:n<=l.length
 .rw[b8,ft hl,show i-n=0 by lia,jz]at this;exact this
 .rw[List.drop_eq_nil_of_le (show l.length<=n by lia),ff,bi<|by lia]
def MidH.pushA(m:MidH lt la lb R na nb)(hA:Srt lt la){i:Nat}(hi:i<=na)(h:∀x∈lb.take nb,∀y∈(la.take na).drop i,lt y x=false):MidH lt la lb ((la.take na).drop i++R) i nb:=by
 have ht:Srt lt (la.take na):=gy (List.take_sublist _ _) hA;have hs:=ahm (l:=la) hi;have mU:=ht;unfold Srt at mU;rw[<-hs,dy]at mU;refine⟨?_,?_,λx hx y hy=>?_,λx hx y hy=>?_⟩
 .rw[<-ahk (l:=la) hi,bp];exact ij _ m.perm
 .exact dy.mpr ⟨mU.2.1,m.srt,λx hx y hy=>m.geA x (j9 hx) y hy⟩
 .rcases ay.mp hy with h1|h1
  .exact mU.2.2 x hx y h1
  .exact m.geA x (by rw[<-hs];exact gr _ hx) y h1
 .rcases ay.mp hy with h1|h1
  .exact h x hx y h1
  .exact m.geB x hx y h1
def MidH.pushB(m:MidH lt la lb R na nb)(hB:Srt lt lb){i:Nat}(hi:i<=nb)(h:∀x∈la.take na,∀y∈(lb.take nb).drop i,lt y x=false):MidH lt la lb ((lb.take nb).drop i++R) na i:=by
 have ht:Srt lt (lb.take nb):=gy (List.take_sublist _ _) hB;have hs:=ahm (l:=lb) hi;have mU:=ht;unfold Srt at mU;rw[<-hs,dy]at mU;refine⟨?_,?_,λx hx y hy=>?_,λx hx y hy=>?_⟩
 .rw[<-ahk (l:=lb) hi];refine(ij _ m.perm).trans ?_;rw[<-bp,<-bp];exact List.Perm.append_right _ List.perm_append_comm
 .exact dy.mpr ⟨mU.2.1,m.srt,λx hx y hy=>m.geB x (j9 hx) y hy⟩
 .rcases ay.mp hy with h1|h1
  .exact h x hx y h1
  .exact m.geA x hx y h1
 .rcases ay.mp hy with h1|h1
  .exact mU.2.2 x hx y h1
  .exact m.geB x (by rw[<-hs];exact gr _ hx) y h1
def MidH.endA(m:MidH lt la lb R 0 nb)(hB:Srt lt lb):oy lt la lb (lb.take nb++R):=by have ht:Srt lt (lb.take nb):=gy (List.take_sublist _ _) hB;refine⟨?_,dy.mpr ⟨ht,m.srt,m.geB⟩⟩;have p:=ij (lb.take nb) m.perm;rw[jz]at p;refine p.trans ?_;rw[<-bp];refine(List.Perm.append_right _ List.perm_append_comm).trans ?_;rw[bp,dh]
def MidH.endB(m:MidH lt la lb R na 0)(hA:Srt lt la):oy lt la lb (la.take na++R):=by have ht:Srt lt (la.take na):=gy (List.take_sublist _ _) hA;refine⟨?_,dy.mpr ⟨ht,m.srt,m.geA⟩⟩;have p:=ij (la.take na) m.perm;rw[jz,<-bp,dh]at p;exact p
def MidH.firstB(m:MidH lt la lb R na 1)(o:nE lt)(hA:Srt lt la)(hB:Srt lt lb)(hl:∀y∈la,∀x∈lb.take 1,lt x y=true):oy lt la lb (lb.take 1++la.take na++R):=by have m2:=m.pushA hA (fj na) λx hx y hy=>o.asy _ _<|hl y (cn<|j9 hy) x hx;rw[jz]at m2;have:=m2.endA hB;rw[bp];exact this
end
noncomputable def anu:Array aI->Array aI->StateT aN nG (Array aI):=sortPriv% PySem.Builtin.mergeHi
section
variable{prog:aK}{w:aP}{A:Around}{E:aA->aB->Prop}{s:aB}
variable{κ:aV}{mem:aI->Prop}{lt:aI->aI->Bool}
def yw(lt:aI->aI->Bool)(a b out:Array aI)(na nb:Nat):Prop:=MidH lt a.toList b.toList out.reverse.toList na nb/\0<na/\1<nb/\na<=a.size/\nb<=b.size
def CS{arr:Array aI}{n:Nat}{x:aI}(h:arr[n]?=some x):(arr.toList.take<|n+1).drop n=[x]:=by
 obtain⟨hi,e⟩:=br.mp h;have hl:n<arr.toList.length:=by simpa using hi
 rw[List.take_succ,List.drop_append,List.drop_eq_nil_of_le<|by rw[b8];lia];have e2:n-hX n arr.size=0:=by lia
 simp[h,e2]
def CI{arr:Array aI}(o:nE lt)(hs:Srt lt arr.toList){n:Nat}{x y:aI}(hx:arr[n]?=some x)(h:lt y x=false):∀z∈arr.toList.take (n+1),lt y z=false:=λz hz=>by
 obtain⟨i,hi⟩:=eu.mp hz;have bQ:i<n+1:=by have:=(aj.mp hi).1;rw[b8]at this;lia
 rw[fh bQ]at hi;exact o.tr z x y (vo o hs (show i<=n by lia) (by simpa using hi) hx) h
def Jz(out arr:Array aI){i n:Nat}(h:i<=n):(out++(arr.extract i n).reverse).reverse.toList=(arr.toList.take n).drop i++out.reverse.toList:=by simp[List.take_drop,show i+(n-i)=n by lia]
def JR{arr:Array aI}{P:aI->Prop}{i n:Nat}(h:∀j z,i<=j->j<n->arr[j]?=some z->P z):∀z∈(arr.toList.take n).drop i,P z:=λz hz=>by
 obtain⟨k,hk⟩:=eu.mp hz;rw[gi]at hk;have bQ:i+k<n:=by have:=(aj.mp hk).1;rw[b8]at this;lia
 rw[fh bQ]at hk;exact h (i+k) z (by lia) bQ<|by simpa using hk
def Jb{a b out:Array aI}{na nb:Nat}{y:aI}(T:Two mem lt a b)(m:MidH lt a.toList b.toList out.reverse.toList (na+1) nb)(hy:a[na]?=some y)(h:∀x∈b.toList.take nb,lt y x=false):MidH lt a.toList b.toList (out.push y).reverse.toList na nb:=by
 have m2:=m.pushA T.sA (ke na) λx hx u hu=>by rw[CS hy]at hu;rw[ar.mp hu];exact h x hx
 rw[CS hy]at m2;simpa using m2
def aow{a b out:Array aI}{na nb:Nat}{y:aI}(T:Two mem lt a b)(m:MidH lt a.toList b.toList out.reverse.toList na (nb+1))(hy:b[nb]?=some y)(h:∀x∈a.toList.take na,lt y x=false):MidH lt a.toList b.toList (out.push y).reverse.toList na nb:=by
 have m2:=m.pushB T.sB (ke nb) λx hx u hu=>by rw[CS hy]at hu;rw[ar.mp hu];exact h x hx
 rw[CS hy]at m2;simpa using m2
def CG{a b out:Array aI}{na nb:Nat}(T:Two mem lt a b)(m:MidH lt a.toList b.toList out.reverse.toList na nb)(h:na=0):oy lt a.toList b.toList (a.extract 0 na++b.extract 0 nb++out.reverse).toList:=by subst h;have:=m.endA T.sB;simpa using this
def au2{a b out:Array aI}{na nb:Nat}(T:Two mem lt a b)(m:MidH lt a.toList b.toList out.reverse.toList na nb)(h:nb=0):oy lt a.toList b.toList (a.extract 0 na++b.extract 0 nb++out.reverse).toList:=by subst h;have:=m.endB T.sA;simpa using this
theorem EW{a b out:Array aI}{na nb:Nat}(o:nE lt)(T:Two mem lt a b)(m:MidH lt a.toList b.toList out.reverse.toList na nb)(h:nb=1):oy lt a.toList b.toList (b.extract 0 nb++a.extract 0 na++out.reverse).toList:=by
 subst h;have pB:=T.pB;have pA:=T.pA;have pR:b[0]?=some (b[0]'T.pB):=by simp[T.pB]
 have BV:a[0]?=some (a[0]'T.pA):=by simp[T.pA]
 have:=m.firstB o T.sA T.sB λy hy x hx=>by
  have e1:=CS pR;rw[jz]at e1;rw[e1]at hx;rw[ar.mp hx];have hya:lt y a[0]=false:=yz o (zg T.sA 0) (su BV) y (by rw[jz];exact hy);cases q:lt b[0] y with
  | true=>rfl
  | false=>have:=o.tr _ _ _ hya q;rw[T.first _ _ pR BV]at this;cases this
 simpa using this
theorem aff(C:mH prog w A s κ mem lt)(o:nE lt){st:aN}(hk:kindOf st=κ){a b:Array aI}(T:Two mem lt a b){Q:Array aI->aN->Prop}
  (h:∀out aQ,SameG st aQ->oy lt a.toList b.toList out.toList->Q out aQ):iT (aH prog w) A E s (anu a b) Q st:=by
 refine a9<|gY<|jr ⟨rfl,?_⟩;have gS:∀i z,a[i]?=some z->mem z:=λi z hz=>T.mA z (by obtain⟨h1,h2⟩:=br.mp hz;rw[<-h2];simp);have lN:∀i z,b[i]?=some z->mem z:=λi z hz=>T.mB z (by obtain⟨h1,h2⟩:=br.mp hz;rw[<-h2];simp);have hpA:=T.pA;have hpB:=T.pB;have Hi:a[a.size-1]?=some (a[a.size-1]'(by lia)):=by simp
 refine a9<|ny Hi ?_;have m0:MidH lt a.toList b.toList (#[]:Array aI).reverse.toList (a.size-1+1) b.size:=by rw[show a.size-1+1=a.size by lia];exact⟨by simp,List.Pairwise.nil,by simp,by simp⟩
 have m1:=Jb T m0 Hi λx hx=>o.asy _ _<|T.last x (cn hx) _ Hi;dsimp only;refine mw (λ(xV:(a.size-1==0)=true)=>?_) λ(xV:¬(a.size-1==0)=true)=>?_
 .exact bq<|h _ _ (SameG.refl _)<|CG T m1<|by simpa using xV
 refine mw (λ(xT:(b.size==1)=true)=>?_) λ(xT:¬(b.size==1)=true)=>?_
 .exact bq<|h _ _ (SameG.refl _)<|EW o T m1<|by simpa using xT
 have ha2:¬a.size-1=0:=by simpa using xV
 have tX:¬b.size=1:=by simpa using xT
 refine a9<|dO ?_;refine a9 (i7 (gx (I:=λx c aQ=>SameG st aQ/\∃na nb out mg,c=(none,na,nb,out,mg)/\yw lt a b out na nb/\na+nb+x+1<=a.size+b.size)
  (Q:=λc aQ=>SameG st aQ/\∃res r,c=(some res,r)/\oy lt a.toList b.toList res.toList) ?step ?fin ?init) ?post)
 case init=>exact⟨SameG.refl _,(mf _ _ _ _ ⟨rfl,⟨m1,by lia,by lia,by lia,by lia⟩,by lia⟩)⟩
 case fin=>
  intro c aQ bU;refine hid λCg bV=>?_;obtain⟨_,na,nb,out,mg,rfl,⟨_,h1,h2,h3,h4⟩,h5⟩:=bU;refine bV ?_;lia
 case post=>
  intro c aQ bU;refine hid λCg bV=>?_;obtain⟨sg,res,r,rfl,hm⟩:=bU;refine bV ?_;exact bq<|h _ _ sg hm
 case step=>
  intro x c aQ _ hx bU;refine hid λCg bV=>?_;obtain⟨sg,na,nb,out,mg,rfl,L,hp⟩:=bU;refine bV ?_;dsimp only;refine a9 (i7 (gx (I:=λy c aQ=>SameG st aQ/\∃kQ jQ cS ac bc,c=(none,kQ,jQ,cS,ac,bc)/\yw lt a b cS kQ jQ/\kQ+jQ<=na+nb)
   (Q:=λc aQ=>SameG st aQ/\((∃res r,c=(some res,r)/\oy lt a.toList b.toList res.toList)\/∃kQ jQ cS ac bc,c=(none,kQ,jQ,cS,ac,bc)/\yw lt a b cS kQ jQ/\kQ+jQ<=na+nb)) ?istep ?ifin ?iinit) ?ipost)
  case iinit=>exact⟨sg,(lw _ _ _ _ _ ⟨rfl,L,am _⟩)⟩
  case ifin=>
   rintro c dL ⟨cX,aW⟩;exact⟨cX,.inr aW⟩
  case istep=>
   intro y c dL _ hy bU;refine hid λCg bV=>?_;obtain⟨cX,kQ,jQ,cS,ac,bc,rfl,⟨m,l1,l2,l3,l4⟩,mK⟩:=bU;refine bV ?_;obtain⟨n1,rfl⟩:∃n1,kQ=n1+1:=⟨kQ-1,by lia⟩;obtain⟨n2,rfl⟩:∃n2,jQ=n2+1:=⟨jQ-1,by lia⟩;dsimp only[Nat.add_sub_cancel];have gU:b[n2]?=some (b[n2]'(by lia)):=by simp
   have gQ:a[n1]?=some (a[n1]'(by lia)):=by simp
   refine a9<|ny gU<|a9<|ny gQ<|a9<|CL C (cX.1.trans hk) (lN _ _ gU) (gS _ _ gQ) ?_;cases hl:lt b[n2] a[n1]with
   | true=>
    dsimp only;simp only[if_true];refine a9<|ny gQ ?_;have m2:=Jb T m gQ<|CI o T.sB gU<|o.asy _ _ hl;try simp only[Nat.add_sub_cancel]
    refine mw (λ(he:(n1==0)=true)=>?_) λ(he:¬(n1==0)=true)=>?_
    .exact bq ⟨cX,.inl<|l8 _ _ ⟨rfl,CG T m2<|by simpa using he⟩⟩
    .have jJ:¬n1=0:=by simpa using he
     have L2:yw lt a b (cS.push a[n1]) n1 (n2+1):=⟨m2,by lia,by lia,by lia,by lia⟩;split
     .exact bq ⟨cX,.inr<|lw _ _ _ _ _ ⟨rfl,L2,by lia⟩⟩
     .exact bq ⟨cX,(lw _ _ _ _ _ ⟨rfl,L2,by lia⟩)⟩
   | false=>
    dsimp only;simp only[bf,if_false];refine a9<|ny gU ?_;have m2:=aow T m gU<|CI o T.sA gQ hl;try simp only[Nat.add_sub_cancel]
    refine mw (λ(he:(n2==1)=true)=>?_) λ(he:¬(n2==1)=true)=>?_
    .exact bq ⟨cX,.inl<|l8 _ _ ⟨rfl,EW o T m2<|by simpa using he⟩⟩
    .have jJ:¬n2=1:=by simpa using he
     have L2:yw lt a b (cS.push b[n2]) (n1+1) n2:=⟨m2,by lia,by lia,by lia,by lia⟩;split
     .exact bq ⟨cX,.inr<|lw _ _ _ _ _ ⟨rfl,L2,by lia⟩⟩
     .exact bq ⟨cX,(lw _ _ _ _ _ ⟨rfl,L2,by lia⟩)⟩
  case ipost=>
   intro c dL bU;refine hid λCg bV=>?_
   (rcases bU with ⟨cX,(⟨res,r,rfl,hm⟩|⟨kQ,jQ,cS,ac,bc,rfl,L2,qV⟩)⟩)<;>refine bV ?_
   .dsimp only;exact bq ⟨cX,(l8 _ _ ⟨rfl,hm⟩)⟩
   .dsimp only;refine a9<|gY<|jr ⟨rfl,?_⟩;refine a9 (i7 (gx (I:=λy c aQ=>SameG st aQ/\∃dZ bK bA dH ac bc,c=(none,dZ,bK,bA,dH,ac,bc)/\yw lt a b bA dZ bK/\dZ+bK+y<=kQ+jQ)
     (Q:=λc aQ=>SameG st aQ/\((∃res r,c=(some res,r)/\oy lt a.toList b.toList res.toList)\/∃dZ bK bA dH ac bc,c=(none,dZ,bK,bA,dH,ac,bc)/\yw lt a b bA dZ bK/\dZ+bK+1<=kQ+jQ)) ?jstep ?jfin ?jinit) ?jpost)
    case jinit=>exact⟨cX,(lw _ _ _ _ _ ⟨_,rfl,L2,am _⟩)⟩
    case jfin=>
     intro c dI bU;refine hid λCg bV=>?_;obtain⟨hU,dZ,bK,bA,dH,CN,uC,rfl,L3,qU⟩:=bU;refine bV ?_;exact⟨hU,.inr<|lw _ _ _ _ _ ⟨_,rfl,L3,by lia⟩⟩
    case jpost=>
     intro c dI bU;refine hid λCg bV=>?_
     (rcases bU with ⟨hU,(⟨res,r,rfl,hm⟩|⟨dZ,bK,bA,dH,CN,uC,rfl,L3,qU⟩)⟩)<;>refine bV ?_
     .dsimp only;exact bq ⟨hU,(l8 _ _ ⟨rfl,hm⟩)⟩
     .dsimp only;refine a9<|Ay ?_;exact bq ⟨hU.gal _,(mf _ _ _ _ ⟨rfl,L3,by lia⟩)⟩
    case jstep=>
     intro y c dI _ hy bU;refine hid λCg bV=>?_;obtain⟨hU,dZ,bK,bA,dH,CN,uC,rfl,⟨m3,l1,l2,l3,l4⟩,qU⟩:=bU;refine bV ?_;dsimp only;have gU:b[bK-1]?=some (b[bK-1]'(by lia)):=by simp
     have lI:∀(fW:Array aI)(cF qL eU k k1:Nat)(bP:aN),SameG st bP->MidH lt a.toList b.toList fW.reverse.toList cF qL->0<cF->1<qL->cF<=a.size->qL<=b.size->(∀z,a[cF-1]?=some z->∀u∈b.toList.take qL,lt z u=false)->cF+qL+y+1<=kQ+jQ->
       iT (aH prog w) A E s (do
        let z2 <-jF a (cF-1)
        if (cF-1==0)=true then
         aR (ForInStep.done (some<|a.extract 0 (cF-1)++b.extract 0 qL++(fW.push z2).reverse,cF-1,qL,fW.push z2,eU,k,k1))
        else if (decide (k<7)&&decide (k1<7))=true then aR (ForInStep.done (none,cF-1,qL,fW.push z2,eU,k,k1))
        else aR (ForInStep.yield (none,cF-1,qL,fW.push z2,eU,k,k1)))
       (λr aQ=>match r with
        | .done c'=>SameG st aQ/\((∃res r,c'=(some res,r)/\oy lt a.toList b.toList res.toList)\/∃dZ bK bA dH ac bc,c'=(none,dZ,bK,bA,dH,ac,bc)/\yw lt a b bA dZ bK/\dZ+bK+1<=kQ+jQ)
        | .yield c'=>SameG st aQ/\∃dZ bK bA dH ac bc,c'=(none,dZ,bK,bA,dH,ac,bc)/\yw lt a b bA dZ bK/\dZ+bK+(y+1)<=kQ+jQ) bP:=by
      intro fW cF qL eU k k1 bP dG m5 q1 q2 q3 q4 hu Gu;have gQ:a[cF-1]?=some (a[cF-1]'(by lia)):=by simp
      refine a9<|ny gQ ?_;have m6:=Jb (na:=cF-1) T (by rw[show cF-1+1=cF by lia];exact m5) gQ<|hu _ gQ;refine mw (λ(he:(cF-1==0)=true)=>?_) λ(he:¬(cF-1==0)=true)=>?_
      .exact bq ⟨dG,.inl<|l8 _ _ ⟨rfl,CG T m6<|by simpa using he⟩⟩
      .have jJ:¬cF-1=0:=by simpa using he
       have L6:yw lt a b (fW.push a[cF-1]) (cF-1) qL:=⟨m6,by lia,by lia,by lia,by lia⟩;split
       .exact bq ⟨dG,.inr<|lw _ _ _ _ _ ⟨_,rfl,L6,by lia⟩⟩
       .exact bq ⟨dG,(lw _ _ _ _ _ ⟨_,rfl,L6,by lia⟩)⟩
     have aW:∀(bI:Array aI)(cF eU k:Nat)(bP:aN),SameG st bP->MidH lt a.toList b.toList bI.reverse.toList cF bK->0<cF->cF<=a.size->(∀z∈a.toList.take cF,lt b[bK-1] z=false)->cF+bK+y<=kQ+jQ->
       iT (aH prog w) A E s (do
        let z <-jF b (bK-1)
        if (bK-1==1)=true then
         aR (ForInStep.done (some<|b.extract 0 (bK-1)++a.extract 0 cF++(bI.push z).reverse,cF,bK-1,bI.push z,eU,k,uC))
        else do
         let z1 <-jF a (cF-1)
         let x <-CT true z1 b 0 (bK-1) (bK-1-1)
         match x with
         | some bS=>
          if bK-1-bS>0 then
           if (bS==1)=true then
            aR (ForInStep.done (some<|b.extract 0 bS++a.extract 0 cF++(bI.push z++(b.extract bS<|bK-1).reverse).reverse,cF,bS,(bI.push z++(b.extract bS<|bK-1).reverse),eU,k,bK-1-bS))
           else if (bS==0)=true then
            aR (ForInStep.done (some<|a.extract 0 cF++b.extract 0 bS++(bI.push z++(b.extract bS<|bK-1).reverse).reverse,cF,bS,(bI.push z++(b.extract bS<|bK-1).reverse),eU,k,bK-1-bS))
           else do
            let z2 <-jF a (cF-1)
            if (cF-1==0)=true then
             aR (ForInStep.done (some<|a.extract 0 (cF-1)++b.extract 0 bS++((bI.push z++(b.extract bS<|bK-1).reverse).push z2).reverse,cF-1,bS,(bI.push z++(b.extract bS<|bK-1).reverse).push z2,eU,k,bK-1-bS))
            else if (decide (k<7)&&decide (bK-1-bS<7))=true then aR (ForInStep.done (none,cF-1,bS,(bI.push z++(b.extract bS<|bK-1).reverse).push z2,eU,k,bK-1-bS))
            else aR (ForInStep.yield (none,cF-1,bS,(bI.push z++(b.extract bS<|bK-1).reverse).push z2,eU,k,bK-1-bS))
          else do
           let z2 <-jF a (cF-1)
           if (cF-1==0)=true then
            aR (ForInStep.done (some<|a.extract 0 (cF-1)++b.extract 0 (bK-1)++((bI.push z).push z2).reverse,cF-1,(bK-1),(bI.push z).push z2,eU,k,bK-1-bS))
           else if (decide (k<7)&&decide (bK-1-bS<7))=true then aR (ForInStep.done (none,cF-1,(bK-1),(bI.push z).push z2,eU,k,bK-1-bS))
           else aR (ForInStep.yield (none,cF-1,(bK-1),(bI.push z).push z2,eU,k,bK-1-bS))
         | _=>aR<|ForInStep.done (some<|a.extract 0 cF++b.extract 0 (bK-1)++(bI.push z).reverse,cF,bK-1,bI.push z,eU,k,uC))
       (λr aQ=>match r with
        | .done c'=>SameG st aQ/\((∃res r,c'=(some res,r)/\oy lt a.toList b.toList res.toList)\/∃dZ bK bA dH ac bc,c'=(none,dZ,bK,bA,dH,ac,bc)/\yw lt a b bA dZ bK/\dZ+bK+1<=kQ+jQ)
        | .yield c'=>SameG st aQ/\∃dZ bK bA dH ac bc,c'=(none,dZ,bK,bA,dH,ac,bc)/\yw lt a b bA dZ bK/\dZ+bK+(y+1)<=kQ+jQ) bP:=by
      intro bI cF eU k bP dG m4 q1 q3 lP DL;refine a9<|ny gU ?_;have m5:=aow (nb:=bK-1) T (by rw[show bK-1+1=bK by lia];exact m4) gU lP;refine mw (λ(he:(bK-1==1)=true)=>?_) λ(he:¬(bK-1==1)=true)=>?_
      .exact bq ⟨dG,.inl<|l8 _ _ ⟨rfl,EW o T m5<|by simpa using he⟩⟩
      have jJ:¬bK-1=1:=by simpa using he
      have gQ:a[cF-1]?=some (a[cF-1]'(by lia)):=by simp
      refine a9<|ny gQ ?_;refine a9<|J9 (st:=bP) (base:=0) (n:=bK-1) (hint:=bK-1-1) C o (dG.1.trans hk) (gS _ _ gQ) (by lia) (λi z hi hz=>lN _ z hz) (by lia) (λi j y z cO hj hy hz=>vo o T.sB (show 0+i<=0+j by lia) hy hz) λbS kK h1 h2=>?_;dsimp only;have m6:=m5.pushB T.sB (i:=bS) kK λx hx u hu=>by have Bg:lt u a[cF-1]=false:=JR (P:=λu=>lt u a[cF-1]=false) (λi z hi hn hz=>h2 i z hi hn<|by rw[Nat.zero_add];exact hz) u hu;exact CI o T.sA gQ Bg x<|by rw[show cF-1+1=cF by lia];exact hx
      have e6:(bI.push b[bK-1]++(b.extract bS<|bK-1).reverse).reverse.toList=(b.toList.take<|bK-1).drop bS++(bI.push b[bK-1]).reverse.toList:=Jz _ _ kK;rw[<-e6]at m6;have zK:∀z,a[cF-1]?=some z->∀u∈b.toList.take bS,lt z u=false:=λz hz=>by rw[gQ]at hz;cases hz;intro u hu;refine o.asy _ _<|we (base:=0) (P:=λu=>lt u a[cF-1]=true) h1 u ?_;rw[jz];exact hu
      refine mw (λ(iU:bK-1-bS>0)=>?_) λ(iU:¬(bK-1-bS>0))=>?_
      .refine mw (λ(mX:(bS==1)=true)=>?_) λ(mX:¬(bS==1)=true)=>?_
       .exact bq ⟨dG,.inl<|l8 _ _ ⟨rfl,EW o T m6<|by simpa using mX⟩⟩
       have Hb:¬bS=1:=by simpa using mX
       refine mw (λ(G0:(bS==0)=true)=>?_) λ(G0:¬(bS==0)=true)=>?_
       .exact bq ⟨dG,.inl<|l8 _ _ ⟨rfl,au2 T m6<|by simpa using G0⟩⟩
       have he5:¬bS=0:=by simpa using G0
       exact lI _ cF bS eU k _ bP dG m6 q1 (by lia) q3 (by lia) zK<|by lia
      .have e0:bS=bK-1:=by lia
       rw[e0]at zK;exact lI _ cF (bK-1) eU k _ bP dG m5 q1 (by lia) q3 (by lia) zK<|by lia
     refine mw (λ(tN:dH>1)=>?_) λ(tN:¬(dH>1))=>?_
     .refine a9<|Ay ?_;have dG:SameG st (uh dI<|dH-1):=hU.gal _;refine a9<|ny gU ?_;refine a9<|vq (st:=uh dI<|dH-1) (base:=0) (n:=dZ) (hint:=dZ-1) C o (dG.1.trans hk) (lN _ _ gU) (by lia) (λi z hi hz=>gS _ z hz) (by lia) (λi j y z cO hj hy hz=>vo o T.sA (show 0+i<=0+j by lia) hy hz) λbS kK h1 h2=>?_;have m4:=m3.pushA T.sA (i:=bS) kK λx hx u hu=>by
       have Bg:lt b[bK-1] u=true:=JR (P:=λu=>lt b[bK-1] u=true) (λi z hi hn hz=>h2 i z hi hn<|by rw[Nat.zero_add];exact hz) u hu;exact CI o T.sB gU (o.asy _ _ Bg) x<|by rw[show bK-1+1=bK by lia];exact hx
      have e4:(bA++(a.extract bS dZ).reverse).reverse.toList=(a.toList.take dZ).drop bS++bA.reverse.toList:=Jz _ _ kK;rw[<-e4]at m4;have lP:∀z∈a.toList.take bS,lt b[bK-1] z=false:=λz hz=>we (base:=0) (P:=λz=>lt b[bK-1] z=false) h1 z (by rw[jz];exact hz);dsimp only;refine mw (λ(iU:dZ-bS>0)=>?_) λ(iU:¬(dZ-bS>0))=>?_
      .refine mw (λ(he:(bS==0)=true)=>?_) λ(he:¬(bS==0)=true)=>?_
       .exact bq ⟨dG,.inl<|l8 _ _ ⟨rfl,CG T m4<|by simpa using he⟩⟩
       have jJ:¬bS=0:=by simpa using he
       refine i7 (aW _ bS (dH-1) _ _ dG m4 (by lia) (by lia) lP<|by lia) λr aQ hr=>?_;cases r<;>exact hr
      .have e0:bS=dZ:=by lia
       rw[e0]at lP;refine i7 (aW bA dZ (dH-1) _ _ dG m3 (by lia) (by lia) lP qU) λr aQ hr=>?_;cases r<;>exact hr
     .refine a9<|Ay ?_;have dG:SameG st (uh dI<|dH):=hU.gal _;refine a9<|ny gU ?_;refine a9<|vq (st:=uh dI<|dH) (base:=0) (n:=dZ) (hint:=dZ-1) C o (dG.1.trans hk) (lN _ _ gU) (by lia) (λi z hi hz=>gS _ z hz) (by lia) (λi j y z cO hj hy hz=>vo o T.sA (show 0+i<=0+j by lia) hy hz) λbS kK h1 h2=>?_;have m4:=m3.pushA T.sA (i:=bS) kK λx hx u hu=>by
       have Bg:lt b[bK-1] u=true:=JR (P:=λu=>lt b[bK-1] u=true) (λi z hi hn hz=>h2 i z hi hn<|by rw[Nat.zero_add];exact hz) u hu;exact CI o T.sB gU (o.asy _ _ Bg) x<|by rw[show bK-1+1=bK by lia];exact hx
      have e4:(bA++(a.extract bS dZ).reverse).reverse.toList=(a.toList.take dZ).drop bS++bA.reverse.toList:=Jz _ _ kK;rw[<-e4]at m4;have lP:∀z∈a.toList.take bS,lt b[bK-1] z=false:=λz hz=>we (base:=0) (P:=λz=>lt b[bK-1] z=false) h1 z (by rw[jz];exact hz);dsimp only;refine mw (λ(iU:dZ-bS>0)=>?_) λ(iU:¬(dZ-bS>0))=>?_
      .refine mw (λ(he:(bS==0)=true)=>?_) λ(he:¬(bS==0)=true)=>?_
       .exact bq ⟨dG,.inl<|l8 _ _ ⟨rfl,CG T m4<|by simpa using he⟩⟩
       have jJ:¬bS=0:=by simpa using he
       refine i7 (aW _ bS (dH) _ _ dG m4 (by lia) (by lia) lP<|by lia) λr aQ hr=>?_;cases r<;>exact hr
      .have e0:bS=dZ:=by lia
       rw[e0]at lP;refine i7 (aW bA dZ (dH) _ _ dG m3 (by lia) (by lia) lP qU) λr aQ hr=>?_;cases r<;>exact hr
end
noncomputable def Fk(f:aI->Int)(xs:Array aI)(i:Nat):Int:=(xs[i]?.map f).getD 0
noncomputable abbrev fl(f:aI->Int)(x y:aI):Bool:=decide<|f x<f y
def EU(f:aI->Int):nE (fl f):=⟨λx y h=>by simp at h⊢;omega,λx y z h1 h2=>by simp at h1 h2⊢;omega⟩
def Seg(f:aI->Int)(xs:Array aI)(lo n:Nat):Prop:=∀i j,lo<=i->i<=j->j<lo+n->Fk f xs i<=Fk f xs j
def Dsc(f:aI->Int)(xs:Array aI)(lo n:Nat):Prop:=∀i j,lo<=i->i<=j->j<lo+n->Fk f xs j<=Fk f xs i
structure TB(κ:aV)(a₀:Array aI)(st:aN):Prop where
 perm:(aJ st).Perm a₀
 kind:kindOf st=κ
 failed:bN st=none
structure Fr(lo:Nat)(st aQ:aN):Prop where
 pend:aM aQ=aM st
 low:∀i,i<lo->(aJ aQ)[i]?=(aJ st)[i]?
def Fr.refl(lo:Nat)(st:aN):Fr lo st st:=⟨rfl,λ_ _=>rfl⟩
theorem Fr.trans{lo:Nat}{a b c:aN}(h:Fr lo a b)(k:Fr lo b c):Fr lo a c:=⟨k.pend.trans h.pend,λi hi=>(k.low i hi).trans (h.low i hi)⟩
theorem TB.size{κ:aV}{a₀:Array aI}{st:aN}(h:TB κ a₀ st):(aJ st).size=a₀.size:=h.perm.size_eq
def TB.set{κ:aV}{a₀:Array aI}{st:aN}(h:TB κ a₀ st){xs:Array aI}(hp:xs.Perm (aJ st)):TB κ a₀ (jH st xs):=⟨hp.trans h.perm,h.kind,h.failed⟩
def w6{f:aI->Int}{xs ys:Array aI}{i j:Nat}(h:xs[i]?=ys[j]?):Fk f xs i=Fk f ys j:=by unfold Fk;rw[h]
def Je{f:aI->Int}{xs:Array aI}{i j:Nat}(hj:j<=xs.size)(k:Nat):Fk f (hW xs i j<|(j-i)/2) k=if i<=k/\k<j then Fk f xs (i+j-1-k)else Fk f xs k:=by
 have e:=yE (i:=i) hj k;split
 .rename_i h;rw[if_pos h]at e;exact w6 e
 .rename_i h;rw[if_neg h]at e;exact w6 e
def wg{f:aI->Int}{xs:Array aI}{i j:Nat}(hj:j<=xs.size)(he:∀k,i<=k->k<j->Fk f xs k=Fk f xs (j-1))(k:Nat):Fk f (hW xs i j<|(j-i)/2) k=Fk f xs k:=by
 rw[Je hj];split
 .rw[he _ (by omega) (by omega),he k (by omega)<|by omega]
 .rfl
def apc{f:aI->Int}{xs:Array aI}{c d:Nat}(hs:c<xs.size)(hd:d<=c)(k:Nat) :
  Fk f (Ae xs c d) k=if k=c-d then Fk f xs c else if c-d<k/\k<=c then Fk f xs (k-1)else Fk f xs k:=by
 have e:=Hs hs d hd k;split
 .rename_i h;rw[if_pos h]at e;exact w6 e
 .rename_i h
  rw[if_neg h]at e;split
  .rename_i h2;rw[if_pos h2]at e;exact w6 e
  .rename_i h2;rw[if_neg h2]at e;exact w6 e
def Fr.mir{lo:Nat}{st:aN}{i j:Nat}(hi:lo<=i)(hj:j<=(aJ st).size):Fr lo st (jH st<|hW (aJ st) i j<|(j-i)/2):=
 ⟨rfl,λk hk=>by show(hW (aJ st) i j<|(j-i)/2)[k]?=_;rw[yE hj,if_neg<|by omega]⟩
def Fr.bub{lo:Nat}{st:aN}{c d:Nat}(hs:c<(aJ st).size)(hd:lo<=c-d)(jE:d<=c):Fr lo st (jH st<|Ae (aJ st) c d):=
 ⟨rfl,λk hk=>by show(Ae (aJ st) c d)[k]?=_;rw[Hs hs d jE,if_neg<|by omega,if_neg<|by omega]⟩
section
variable{prog:aK}{w:aP}{A:Around}{E:aA->aB->Prop}{s:aB}
variable{κ:aV}{mem:aI->Prop}{f:aI->Int}{a₀:Array aI}
def TB.at{st:aN}(h:TB κ a₀ st)(hm:∀x∈a₀.toList,mem x){i:Nat}(hi:i<a₀.size):∃x,(aJ st)[i]?=some x/\mem x/\f x=Fk f (aJ st) i:=by
 have eW:i<(aJ st).size:=by rw[h.size];exact hi
 have e:(aJ st)[i]?=some (aJ st)[i]:=getElem?_pos _ i eW;refine⟨_,e,hm _<|(jq.mp h.perm).mem_iff.mp (by simp),?_⟩;unfold Fk;rw[e];rfl
def CO(C:mH prog w A s κ mem (fl f))(hm:∀x∈a₀.toList,mem x){st:aN}(B:TB κ a₀ st){i j:Nat}(hi:i<a₀.size)(hj:j<a₀.size){Q:Option Bool->aN->Prop}
  (h:Q (some<|decide<|Fk f (aJ st) i<Fk f (aJ st) j) st):iT (aH prog w) A E s (ltAt' i j) Q st:=by
 obtain⟨x,e1,m1,k1⟩:=B.at (f:=f) hm hi;obtain⟨y,e2,m2,k2⟩:=B.at (f:=f) hm hj;rw[ltAt'_eq];refine a9<|dO<|a9<|ny e1<|a9<|ny e2<|CL C B.kind m1 m2 ?_;rw[<-k1,<-k2]at h;exact h
def E2{st:aN}{i j:Nat}{Q:Unit->aN->Prop}(h:Q () (jH st<|hW (aJ st) i j<|(j-i)/2)):iT (aH prog w) A E s (fM i j) Q st:=by rw[reverseSlice'_eq];exact cB h
noncomputable abbrev UpS:=Option (Option Nat)×Nat
noncomputable abbrev DnS:=Option (Option Nat)×Nat×Nat
noncomputable def CH(lo a bG:Nat):StateT aN nG UpS:=vN [a:bG] ((none,a):UpS) λ_ c=>do
 let q <-ltAt' (lo+c.snd) (lo+c.snd-1)
 match q with
 | some b=>if b=true then aR (.done (none,c.snd))else aR (.yield (none,c.snd+1))
 | _=>aR<|.done (some none,c.snd)
noncomputable def CB(lo n bG:Nat):StateT aN nG (Option Nat):=do
 fM lo (lo+n)
 let c <-CH lo n bG
 match c.fst with
 | some r=>aR r
 | none=>aR<|some c.snd
noncomputable def EL(lo n bG:Nat):StateT aN nG DnS:=vN [n:bG] ((none,n,0):DnS) λ_ c=>do
 let q <-ltAt' (lo+c.snd.fst) (lo+c.snd.fst-1)
 match q with
 | some b=>
  if b=true then
   if c.snd.snd>0 then do
    fM (lo+c.snd.fst-(c.snd.snd+1)) (lo+c.snd.fst)
    aR (.yield (none,c.snd.fst+1,0))
   else aR (.yield (none,c.snd.fst+1,0))
  else do
   let q2 <-ltAt' (lo+c.snd.fst-1) (lo+c.snd.fst)
   match q2 with
   | some b2=>if b2=true then aR (.done (none,c.snd.fst,c.snd.snd))else aR (.yield (none,c.snd.fst+1,c.snd.snd+1))
   | _=>aR (.done (some none,c.snd.fst,c.snd.snd))
 | _=>aR<|.done (some none,c.snd.fst,c.snd.snd)
noncomputable def CD(lo n bG:Nat):StateT aN nG (Option Nat):=do
 liftM (uU "list.sort.descending-run")
 let c <-EL lo (n+1) bG
 match c.fst with
 | some r=>aR r
 | none=>
  if c.snd.snd>0 then do
   fM (lo+c.snd.fst-(c.snd.snd+1)) (lo+c.snd.fst)
   CB lo c.snd.fst bG
  else CB lo c.snd.fst bG
theorem amv(lo bG:Nat):countRun' lo bG=(do
  let c <-CH lo 1 bG
  match c.fst with
  | some r=>aR r
  | none=>
   if (c.snd==bG)=true then aR (some c.snd)
   else if c.snd>1 then do
    let q <-ltAt' lo (lo+c.snd-1)
    match q with
    | some b=>if b=true then aR (some c.snd)else do
      fM lo (lo+c.snd)
      CD lo c.snd bG
    | _=>aR none
   else CD lo c.snd bG):=by
 rw[countRun'_eq];dsimp only;unfold CD CB EL CH
 congr 1
 funext c
 obtain⟨r,n⟩:=c;cases r with
 | some r=>rfl
 | none=>
  dsimp only;split
  .rfl
  .split
   .congr 1
    funext x
    cases x with
    | none=>rfl
    | some b=>
     dsimp only;split
     .rfl
     .congr 1
      funext _r
      (congr 1;funext _u;congr 1;congr 1;funext c2;obtain⟨r2,n2,q2⟩:=c2;cases r2 with
       | some r2=>rfl
       | none=>(dsimp only;split;(congr 1;funext _v;(congr 1;funext _w;congr 1;(funext c3;obtain⟨r3,n3⟩:=c3;cases r3<;>rfl)));(congr 1;funext _w;congr 1;(funext c3;obtain⟨r3,n3⟩:=c3;cases r3<;>rfl))))
   ·(congr 1;funext _u;congr 1;congr 1;funext c2;obtain⟨r2,n2,q2⟩:=c2;cases r2 with
     | some r2=>rfl
     | none=>(dsimp only;split;(congr 1;funext _v;(congr 1;funext _w;congr 1;(funext c3;obtain⟨r3,n3⟩:=c3;cases r3<;>rfl)));(congr 1;funext _w;congr 1;(funext c3;obtain⟨r3,n3⟩:=c3;cases r3<;>rfl))))
def aom(C:mH prog w A s κ mem (fl f))(hm:∀x∈a₀.toList,mem x){st:aN}{lo a bG:Nat}{Q:UpS->aN->Prop}(hn:lo+bG<=a₀.size)(ha:1<=a)(han:a<=bG)(B:TB κ a₀ st)(hs:Seg f (aJ st) lo a)
  (h:∀n,a<=n->n<=bG->Seg f (aJ st) lo n->(n=bG\/Fk f (aJ st) (lo+n)<Fk f (aJ st) (lo+n-1))->Q (none,n) st):iT (aH prog w) A E s (CH lo a bG) Q st:=by
 unfold CH;refine gx (I:=λx c aQ=>aQ=st/\c=(none,x)/\Seg f (aJ st) lo x) ?step ?fin ⟨rfl,rfl,hs⟩
 case fin=>
  rintro c aQ ⟨rfl,rfl,eB⟩;rw[show max a bG=bG from Nat.max_eq_right<|by lia]at eB⊢;exact h bG han (am _) eB<|.inl rfl
 case step=>
  rintro x c aQ Hg hxn ⟨rfl,rfl,eB⟩;dsimp only;refine a9<|CO C hm B (by lia) (by lia) ?_;by_cases hl:Fk f (aJ aQ) (lo+x)<Fk f (aJ aQ) (lo+x-1)
  .simp only[hl,decide_true,if_true];exact bq<|h x Hg (by lia) eB<|.inr hl
  .simp only[hl,decide_false,bf,if_false];refine bq ⟨rfl,rfl,λi j hi cO hj=>?_⟩;by_cases GU:j<lo+x
   .exact eB i j hi cO GU
   .obtain rfl:j=lo+x:=by lia
    by_cases eW:i=lo+x
    .rw[eW];exact jm _
    .have:=eB i (lo+x-1) hi (by lia) (by lia);lia
noncomputable abbrev JW(f:aI->Int)(κ:aV)(a₀:Array aI)(lo bG:Nat)(st:aN)(Q:Option Nat->aN->Prop):Prop:=
 ∀m aQ,TB κ a₀ aQ->Fr lo st aQ->1<=m->m<=bG->Seg f (aJ aQ) lo m->Q (some m) aQ
def aba(C:mH prog w A s κ mem (fl f))(hm:∀x∈a₀.toList,mem x){st0 st:aN}{lo n bG:Nat}{Q:Option Nat->aN->Prop}(hn:lo+bG<=a₀.size)(h1:1<=n)(tM:n<=bG)(B:TB κ a₀ st)(F:Fr lo st0 st)(hs:Dsc f (aJ st) lo n)
  (h:JW f κ a₀ lo bG st0 Q):iT (aH prog w) A E s (CB lo n bG) Q st:=by
 unfold CB;have hsz:lo+n<=(aJ st).size:=by rw[B.size];lia
 refine a9<|E2 ?_;have B':TB κ a₀ (jH st<|hW (aJ st) lo (lo+n)<|(lo+n-lo)/2):=B.set<|lM _ _ _ _;have F':=F.trans<|Fr.mir (am lo) hsz;refine a9<|aom C hm hn h1 tM B' ?_ λm DP kS hsm _=>bq<|h m _ B' F' (by lia) kS hsm;intro i j hi cO hj;show Fk f (hW (aJ st) lo (lo+n)<|(lo+n-lo)/2) i<=Fk f (hW (aJ st) lo (lo+n)<|(lo+n-lo)/2) j;rw[Je hsz,Je hsz,if_pos<|by lia,if_pos<|by lia];exact hs _ _ (by lia) (by lia)<|by lia
def wf{xs ys:Array aI}{lo x:Nat}(h1:1<=x)(hs:Dsc f xs lo x)(hk:∀k,Fk f ys k=Fk f xs k)(hl:Fk f xs (lo+x)<=Fk f xs (lo+x-1)):Dsc f ys lo (x+1):=by
 intro i j hi cO hj;rw[hk,hk];by_cases GU:j<lo+x
 .exact hs i j hi cO GU
 .obtain rfl:j=lo+x:=by lia
  by_cases eW:i=lo+x
  .rw[eW];exact jm _
  .have:=hs i (lo+x-1) hi (by lia) (by lia);lia
def aig(C:mH prog w A s κ mem (fl f))(hm:∀x∈a₀.toList,mem x){st0 st:aN}{lo n bG:Nat}{Q:DnS->aN->Prop}(hn:lo+bG<=a₀.size)(h1:1<=n)(tM:n<=bG)(B:TB κ a₀ st)(F:Fr lo st0 st)(hs:Dsc f (aJ st) lo n)
  (h:∀m q aQ,TB κ a₀ aQ->Fr lo st0 aQ->n<=m->m<=bG->Dsc f (aJ aQ) lo m->q+1<=m->(∀i,lo+m-(q+1)<=i->i<lo+m->Fk f (aJ aQ) i=Fk f (aJ aQ) (lo+m-1))->Q (none,m,q) aQ) :
  iT (aH prog w) A E s (EL lo n bG) Q st:=by
 unfold EL;refine gx (I:=λx c aQ=>∃q,c=(none,x,q)/\TB κ a₀ aQ/\Fr lo st0 aQ/\Dsc f (aJ aQ) lo x/\q+1<=x/\∀i,lo+x-(q+1)<=i->i<lo+x->Fk f (aJ aQ) i=Fk f (aJ aQ) (lo+x-1)) ?step ?fin ⟨0,rfl,B,F,hs,by lia,λi h1 h2=>by congr 1;lia⟩
 case fin=>
  intro c aQ bU;refine hid λCg bV=>?_;obtain⟨q,rfl,B',F',eB,hq,he⟩:=bU;refine bV ?_;rw[show max n bG=bG from Nat.max_eq_right<|by lia]at eB hq he⊢;exact h bG q aQ B' F' tM (am _) eB hq he
 case step=>
  intro x c aQ Hg hxn bU;refine hid λCg bV=>?_;obtain⟨q,rfl,B',F',eB,hq,he⟩:=bU;refine bV ?_;dsimp only;have hsz:lo+x<=(aJ aQ).size:=by rw[B'.size];lia
  refine a9<|CO C hm B' (by lia) (by lia) ?_;by_cases hl:Fk f (aJ aQ) (lo+x)<Fk f (aJ aQ) (lo+x-1)
  .simp only[hl,decide_true,if_true];refine mw (λ(Gn:q>0)=>?_) λ(Gn:¬(q>0))=>?_
   .exact a9<|E2<|bq ⟨0,rfl,B'.set<|lM _ _ _ _,F'.trans<|Fr.mir (by lia) hsz,wf (by lia) eB (wg hsz he)<|Int.le_of_lt hl,by lia,λi h1 h2=>by congr 1;lia⟩
   .exact bq ⟨0,rfl,B',F',wf (by lia) eB (λ_=>rfl)<|Int.le_of_lt hl,by lia,λi h1 h2=>by congr 1;lia⟩
  .simp only[hl,decide_false,bf,if_false];refine a9<|CO C hm B' (by lia) (by lia) ?_;by_cases hg:Fk f (aJ aQ) (lo+x-1)<Fk f (aJ aQ) (lo+x)
   .simp only[hg,decide_true,if_true];exact bq<|h x q aQ B' F' Hg (by lia) eB hq he
   .simp only[hg,decide_false,bf,if_false];have hx:Fk f (aJ aQ) (lo+x)=Fk f (aJ aQ) (lo+x-1):=by lia
    refine bq ⟨q+1,rfl,B',F',wf (by lia) eB (λ_=>rfl)<|by lia,by lia,λi h1 h2=>?_⟩;rw[show lo+(x+1)-1=lo+x by lia];by_cases xL:i=lo+x
    .rw[xL]
    .rw[hx];exact he i (by lia)<|by lia
def abj(C:mH prog w A s κ mem (fl f))(hm:∀x∈a₀.toList,mem x){st0 st:aN}{lo n bG:Nat}{Q:Option Nat->aN->Prop}(hn:lo+bG<=a₀.size)(tM:n+1<=bG)(B:TB κ a₀ st)(F:Fr lo st0 st)(hs:Dsc f (aJ st) lo (n+1))
  (h:JW f κ a₀ lo bG st0 Q):iT (aH prog w) A E s (CD lo n bG) Q st:=by
 unfold CD;refine a9<|gY<|jr ⟨rfl,?_⟩;refine a9<|aig C hm hn (by lia) tM B F hs λm q aQ B' F' DP kS eB hq he=>?_;dsimp only;have hsz:lo+m<=(aJ aQ).size:=by rw[B'.size];lia
 refine mw (λ(Gn:q>0)=>?_) λ(Gn:¬(q>0))=>?_
 .refine a9<|E2<|aba C hm hn (by lia) kS (B'.set<|lM _ _ _ _) (F'.trans<|Fr.mir (by lia) hsz) ?_ h;intro i j hi cO hj;show Fk f (hW (aJ aQ) _ _ _) j<=Fk f (hW (aJ aQ) _ _ _) i;rw[wg hsz he,wg hsz he];exact eB i j hi cO hj
 .exact aba C hm hn (by lia) kS B' F' eB h
def art(C:mH prog w A s κ mem (fl f))(hm:∀x∈a₀.toList,mem x){st:aN}{lo bG:Nat}{Q:Option Nat->aN->Prop}(hn:lo+bG<=a₀.size)(h1:1<=bG)(B:TB κ a₀ st)(h:JW f κ a₀ lo bG st Q) :
  iT (aH prog w) A E s (countRun' lo bG) Q st:=by
 rw[amv]
 refine a9 (aom C hm hn (am 1) h1 B (λi j hi cO hj=>by obtain rfl:i=j:=by lia
                                                       exact jm _) λn iN kJ DF hor=>?_)
 dsimp only;by_cases tM:n=bG
 .rw[if_pos (by simpa using tM)];exact bq<|h n st B (Fr.refl _ _) iN kJ DF
 .rw[if_neg (by simpa using tM)];have bQ:Fk f (aJ st) (lo+n)<Fk f (aJ st) (lo+n-1):=hor.resolve_left tM;refine mw (λ(hgt:n>1)=>?_) λ(hgt:¬(n>1))=>?_
  .refine a9<|CO C hm B (by lia) (by lia) ?_;by_cases hr:Fk f (aJ st) lo<Fk f (aJ st) (lo+n-1)
   .simp only[hr,decide_true,if_true];exact bq<|h n st B (Fr.refl _ _) iN kJ DF
   .simp only[hr,decide_false,bf,if_false];have hsz:lo+n<=(aJ st).size:=by rw[B.size];lia
    have bB:∀k,lo<=k->k<lo+n->Fk f (aJ st) k=Fk f (aJ st) (lo+n-1):=by intro k hlk hk;have a1:=DF lo k (by lia) hlk hk;have a2:=DF k (lo+n-1) (by lia) (by lia) (by lia);lia
    refine a9<|E2<|abj C hm hn (by lia) (B.set<|lM _ _ _ _) (Fr.mir (am lo) hsz) (wf (xs:=aJ st) iN ?_ (wg hsz bB)<|Int.le_of_lt bQ) h;intro i j hi cO hj;rw[bB i (by lia) (by lia),bB j (by lia) hj];exact jm _
  .obtain rfl:n=1:=by lia
   refine abj C hm hn (by lia) B (Fr.refl _ _) (wf (xs:=aJ st) iN ?_ (λ_=>rfl)<|Int.le_of_lt bQ) h;intro i j hi cO hj;obtain rfl:i=j:=by lia
   exact jm _
theorem arb(C:mH prog w A s κ mem (fl f))(hm:∀x∈a₀.toList,mem x){st:aN}{lo n ok:Nat}{Q:Bool->aN->Prop}(hn:lo+n<=a₀.size)(hok:ok<=n)(B:TB κ a₀ st)(hs:Seg f (aJ st) lo ok)
  (h:∀aQ,TB κ a₀ aQ->Fr lo st aQ->Seg f (aJ aQ) lo n->Q true aQ):iT (aH prog w) A E s (binarySort' lo n ok) Q st:=by
 rw[binarySort'_eq];refine a9<|i7 (gx (I:=λk c aQ=>c=(none,())/\TB κ a₀ aQ/\Fr lo st aQ/\Seg f (aJ aQ) lo (hX k n)) (Q:=λc aQ=>c=(none,())/\TB κ a₀ aQ/\Fr lo st aQ/\Seg f (aJ aQ) lo n) ?step ?fin ?init) ?post
 case post=>
  intro c aQ bU;refine hid λCg bV=>?_;obtain⟨rfl,B',F',eB⟩:=bU;refine bV ?_;exact bq<|h aQ B' F' eB
 case init=>
  refine⟨rfl,B,Fr.refl _ _,λi j hi cO hj=>?_⟩;by_cases h1:ok=0
  .obtain rfl:i=j:=by lia
   exact jm _
  .exact hs i j hi cO<|by lia
 case fin=>
  intro c aQ bU;refine hid λCg bV=>?_;obtain⟨hc,B',F',eB⟩:=bU;refine bV ?_;refine⟨hc,B',F',?_⟩
  rwa [show hX (max (max ok 1) n) n=n from Nat.min_eq_right<|Nat.le_max_right _ _]at eB
 case step=>
  intro k c aQ hak kK bU;refine hid λCg bV=>?_;obtain⟨rfl,B',F',eB⟩:=bU;refine bV ?_;rw[show hX k n=k from ft<|by lia]at eB;have hk:lo+k<a₀.size:=by lia
  refine a9 (i7 (gx (I:=λx c cM=>cM=aQ/\∃l r,c=(none,l,r)/\l<=r/\r<=k/\r-l<=k-x/\(∀i,i<l->Fk f (aJ aQ) (lo+i)<=Fk f (aJ aQ) (lo+k))/\∀i,r<=i->i<k->Fk f (aJ aQ) (lo+k)<Fk f (aJ aQ) (lo+i))
   (Q:=λc cM=>cM=aQ/\∃l r,c=(none,l,r)/\l<=k/\(∀i,i<l->Fk f (aJ aQ) (lo+i)<=Fk f (aJ aQ) (lo+k))/\∀i,l<=i->i<k->Fk f (aJ aQ) (lo+k)<Fk f (aJ aQ) (lo+i)) ?istep ?ifin ?iinit) ?ipost)
  case iinit=>exact⟨rfl,(l8 0 k ⟨rfl,by lia,by lia,by lia,λi hi=>by lia,λi h1 h2=>by lia⟩)⟩
  case ifin=>
   intro c cM bU;refine hid λCg bV=>?_;obtain⟨rfl,l,r,rfl,hlr,Gj,hmm,vD,zT⟩:=bU;refine bV ?_;obtain rfl:l=r:=by lia
   exact⟨rfl,(l8 l l ⟨rfl,Gj,vD,zT⟩)⟩
  case istep=>
   intro x c cM _ hxk bU;refine hid λCg bV=>?_;obtain⟨rfl,l,r,rfl,hlr,Gj,hmm,vD,zT⟩:=bU;refine bV ?_;dsimp only;refine mw (λ(mN:l>=r)=>?_) λ(mN:¬(l>=r))=>?_
   .obtain rfl:l=r:=by lia
    exact bq ⟨rfl,(l8 l l ⟨rfl,Gj,vD,zT⟩)⟩
   .refine a9<|CO C hm B' hk (by lia) ?_;by_cases hl:Fk f (aJ cM) (lo+k)<Fk f (aJ cM) (lo+(l+r)/2)
    .simp only[hl,decide_true,if_true];refine bq ⟨rfl,(l8 l ((l+r)/2) ⟨rfl,by lia,by lia,by lia,vD,λi h1 h2=>?_⟩)⟩;have:=eB (lo+(l+r)/2) (lo+i) (by lia) (by lia) (by lia);lia
    .simp only[hl,decide_false,bf,if_false];refine bq ⟨rfl,(l8 ((l+r)/2+1) r ⟨rfl,by lia,by lia,by lia,λi h1=>?_,zT⟩)⟩;have:=eB (lo+i) (lo+(l+r)/2) (by lia) (by lia) (by lia);lia
  case ipost=>
   intro c cM bU;refine hid λCg bV=>?_;obtain⟨rfl,l,r,rfl,hlk,vD,zT⟩:=bU;refine bV ?_;show iT _ _ _ _ (do moveDown' (lo+k) (lo+l);aR (ForInStep.yield (none,()))) _ _;rw[moveDown'_eq];have lA:lo+k<(aJ cM).size:=by rw[B'.size];exact hk
   refine a9<|cB<|bq ⟨rfl,B'.set<|bubble_perm _ _ _,F'.trans<|Fr.bub lA (by lia)<|by lia,?_⟩;rw[show hX (k+1) n=k+1 from ft<|by lia];intro i j hi cO hj;show Fk f (Ae (aJ cM) (lo+k)<|lo+k-(lo+l)) i<=Fk f (Ae (aJ cM) (lo+k)<|lo+k-(lo+l)) j;rw[apc lA (by lia),apc lA<|by lia,show lo+k-(lo+k-(lo+l))=lo+l by lia];have GL:∀i,lo<=i->i<lo+l->Fk f (aJ cM) i<=Fk f (aJ cM) (lo+k):=λi a1 a2=>by
    have:=vD (i-lo) (by lia)
    rwa [show lo+(i-lo)=i by lia]at this
   have GV:∀i,lo+l<=i->i<lo+k->Fk f (aJ cM) (lo+k)<Fk f (aJ cM) i:=λi a1 a2=>by
    have:=zT (i-lo) (by lia) (by lia)
    rwa [show lo+(i-lo)=i by lia]at this
   repeat' split
   all_goals first
    | (exfalso;lia)
    | exact jm _
    | exact GL _ (by lia) (by lia)
    | exact Int.le_of_lt (GV _ (by lia)<|by lia)
    | exact eB _ _ (by lia) (by lia)<|by lia
end
noncomputable def rf(arr:Array aI)(l:Z (aI×Nat))(sa:Nat):Array aI:=l.foldl (λa q=>a.setIfInBounds (sa+q.2) q.1) arr
theorem qy(sa:Nat):∀(l:Z aI)(o:Nat)(arr:Array aI),sa+o+l.length<=arr.size->∀k,(rf arr (l.zipIdx o) sa)[k]?=if sa+o<=k/\k<sa+o+l.length then l[k-(sa+o)]? else arr[k]?
 | [],o,arr,h,k=>by show arr[k]?=_;rw[if_neg (by show ¬(sa+o<=k/\k<sa+o+0);lia)]
 | x::l,o,arr,h,k=>by
  have h':sa+o+(l.length+1)<=arr.size:=by simpa using h
  show(rf (arr.setIfInBounds (sa+o) x) (l.zipIdx<|o+1) sa)[k]?=_;rw[qy sa l (o+1) _ (by simp;lia) k];by_cases hk:k=sa+o
  .rw[if_neg (by lia),if_pos<|by simp;lia,hk];simp[Array.getElem?_setIfInBounds];lia
  .by_cases h2:sa+(o+1)<=k/\k<sa+(o+1)+l.length
   .rw[if_pos h2,if_pos<|by simp;lia];obtain⟨d,hd⟩:∃d,k-(sa+o)=d+1:=⟨k-(sa+o)-1,by lia⟩;rw[hd,List.getElem?_cons_succ]
    congr 1
    lia
   .rw[if_neg h2,if_neg<|by simp;lia,Array.getElem?_setIfInBounds_ne<|by lia]
def agb{arr:Array aI}{l:Z aI}{sa:Nat}(h:sa+l.length<=arr.size):(rf arr l.zipIdx sa).toList=arr.toList.take sa++l++arr.toList.drop (sa+l.length):=by
 apply List.ext_getElem?;intro k;have e:=qy sa l 0 arr (by lia) k;rw[bj,e];have hs:arr.toList.length=arr.size:=by simp
 by_cases h1:k<sa
 .rw[if_neg (by lia),bp,ei<|by simp;lia,fh h1,bj]
 .by_cases h2:k<sa+l.length
  .rw[if_pos (by lia),bp,ck<|by simp;lia,ei<|by simp;lia]
   congr 1
   simp;lia
  .rw[if_neg (by lia),ck<|by simp;lia,gi,bj]
   congr 1
   simp;lia
def afa{arr:Array aI}{l:Z aI}{sa e:Nat}(he:sa<=e)(h:e<=arr.size)(hp:l.Perm (arr.extract sa e).toList):(rf arr l.zipIdx sa).Perm arr:=by
 have hl:l.length=e-sa:=by rw[hp.length_eq,a8,jv,ft h]
 rw[jq,agb<|by lia];have e2:arr.toList=arr.toList.take sa++(arr.extract sa e).toList++arr.toList.drop (sa+l.length):=by
  rw[hl,show sa+(e-sa)=e by lia];have:(arr.extract sa e).toList=(arr.toList.drop sa).take (e-sa):=by simp
  rw[this]
  conv=>lhs;rw[<-dh sa arr.toList,<-dh (e-sa) (arr.toList.drop sa),List.drop_drop,show sa+(e-sa)=e by lia]
  rw[bp]
 refine List.Perm.trans ?_<|List.Perm.of_eq e2.symm;exact(ij _ hp).append_right _
def afr{f:aI->Int}{arr:Array aI}{l:Z aI}{sa e:Nat}(he:sa<=e)(h:e<=arr.size)(hp:l.Perm (arr.extract sa e).toList){k:Nat}(h1:sa<=k)(h2:k<e):∃q,sa<=q/\q<e/\Fk f (rf arr l.zipIdx sa) k=Fk f arr q:=by
 have hl:l.length=e-sa:=by rw[hp.length_eq,a8,jv,ft h]
 have e1:=qy sa l 0 arr (by lia) k;rw[if_pos (by lia)]at e1;have hk:k-(sa+0)<l.length:=by lia
 have hx:l[k-(sa+0)]∈(arr.extract sa e).toList:=hp.mem_iff.mp<|ix hk;obtain⟨q,hq⟩:=eu.mp hx;rw[bj]at hq;have oU:q<(arr.extract sa e).size:=(br.mp hq).1;have Gm:q<e-sa:=by rw[jv,ft h]at oU;exact oU
 rw[Array.getElem?_extract,if_pos<|by rw[ft h];exact Gm]at hq;refine⟨sa+q,by lia,by lia,w6 ?_⟩;rw[e1,hq,getElem?_pos l _ hk]
def aim{f:aI->Int}{arr:Array aI}{l:Z aI}{sa e:Nat}(he:sa<=e)(h:e<=arr.size)(hl:l.length=e-sa){k:Nat}(h1:k<sa\/e<=k):(rf arr l.zipIdx sa)[k]?=arr[k]?:=by rw[qy sa l 0 arr (by lia) k,if_neg<|by lia]
def ahy{f:aI->Int}{arr:Array aI}{l:Z aI}{sa e:Nat}(he:sa<=e)(h:e<=arr.size)(hl:l.length=e-sa)(hs:Srt (fl f) l):Seg f (rf arr l.zipIdx sa) sa (e-sa):=by
 intro i j hi cO hj;have e1:=qy sa l 0 arr (by lia) i;have e2:=qy sa l 0 arr (by lia) j;rw[if_pos (by lia)]at e1 e2;have mW:i-(sa+0)<l.length:=by lia
 have tT:j-(sa+0)<l.length:=by lia
 rw[getElem?_pos l _ mW]at e1;rw[getElem?_pos l _ tT]at e2;unfold Fk;rw[e1,e2];show f _<=f _;by_cases hq:i=j
 .subst hq;exact jm _
 .have:=fw.mp hs (i-(sa+0)) (j-(sa+0)) mW tT (by lia);simpa using this
section
variable{prog:aK}{w:aP}{A:Around}{E:aA->aB->Prop}{s:aB}
variable{κ:aV}{mem:aI->Prop}{f:aI->Int}{a₀:Array aI}
def ava{st aQ:aN}{Q:PUnit->aN->Prop}(h:Q ⟨⟩ aQ):iT (aH prog w) A E s (set aQ:StateT aN nG PUnit) Q st:=by unfold iT;rw[StateT.run_set];exact af ⟨rfl,h⟩
def uk{xs:Array aI}{i:Nat}{x:aI}(h:xs[i]?=some x):Fk f xs i=f x:=by unfold Fk;rw[h];rfl
def afy(C:mH prog w A s κ mem (fl f))(hm:∀x∈a₀.toList,mem x){st:aN}{i sa na pa sb nb pb:Nat}(B:TB κ a₀ st)(hi:(aM st)[i]?=some (sa,na,pa))(DQ:(aM st)[i+1]?=some (sb,nb,pb))(lQ:sb=sa+na)(hna:1<=na)(hnb:1<=nb)(hsz:sb+nb<=a₀.size)
  (sA:Seg f (aJ st) sa na) (sB:Seg f (aJ st) sb nb) {Q:Bool->aN->Prop}
  (h:∀aQ,TB κ a₀ aQ->aM aQ=((aM st).setIfInBounds i (sa,na+nb,pa)).eraseIdxIfInBounds (i+1)->(∀k,k<sa\/sb+nb<=k->(aJ aQ)[k]?=(aJ st)[k]?)->Seg f (aJ aQ) sa (na+nb)->Q true aQ) :
  iT (aH prog w) A E s (mergeAt' i) Q st:=by
 refine a9<|dO ?_;rw[hi,DQ];dsimp only;refine a9<|ava ?_;have B1:TB κ a₀ (aN.mk' (kindOf st) (aJ st) (((aM st).setIfInBounds i (sa,na+nb,pa)).eraseIdxIfInBounds (i+1)) (oG st)<|bN st):=⟨B.perm,B.kind,B.failed⟩;have h1:=h _ B1 rfl;have h2:∀(g:Nat)(pF:Array aI),pF.Perm (aJ st)->(∀k,k<sa\/sb+nb<=k->pF[k]?=(aJ st)[k]?)->Seg f pF sa (na+nb)->Q true (aN.mk' (kindOf st) pF (((aM st).setIfInBounds i (sa,na+nb,pa)).eraseIdxIfInBounds (i+1)) g<|bN st):=
  λg pF hp ho hs=>h (aN.mk' (kindOf st) pF (((aM st).setIfInBounds i (sa,na+nb,pa)).eraseIdxIfInBounds (i+1)) g<|bN st) ⟨hp.trans B.perm,B.kind,B.failed⟩ rfl ho hs
 have nZ:=B.size;show iT (aH prog w) A E s _ Q (aN.mk' (kindOf st) (aJ st) (((aM st).setIfInBounds i (sa,na+nb,pa)).eraseIdxIfInBounds (i+1)) (oG st)<|bN st);generalize Bj:aN.mk' (kindOf st) (aJ st) (((aM st).setIfInBounds i (sa,na+nb,pa)).eraseIdxIfInBounds (i+1)) (oG st) (bN st)=gO at B1 h1⊢;obtain⟨xb,exb,mxb,fxb⟩:=B.at (f:=f) hm (show sb<a₀.size by lia);have gS:∀i z,(aJ st)[i]?=some z->mem z:=λi z hz=>hm z<|(jq.mp B.perm).mem_iff.mp (by obtain⟨h1,h2⟩:=br.mp hz;rw[<-h2];simp);have Dw:aJ gO=aJ st:=by rw[<-Bj]
 refine a9<|ny exb<|a9<|vq (st:=gO) (base:=sa) (n:=na) (hint:=0) C (EU f) B1.kind mxb (by lia) (λi z hi hz=>gS _ z hz) (by lia) (λi j y z cO hj hy hz=>?_) λk kK g1 g2=>?_
 .have:=sA (sa+i) (sa+j) (by lia) (by lia) (by lia);rw[uk hy,uk hz]at this;simpa using this
 have g1':∀q,sa<=q->q<sa+k->Fk f (aJ st) q<=Fk f (aJ st) sb:=λq q1 q2=>by obtain⟨z,ez,_,fz⟩:=B.at (f:=f) hm (show q<a₀.size by lia);have:=g1 (q-sa) z (by lia) (by rw[show sa+(q-sa)=q by lia];exact ez);rw[<-fxb,<-fz];simpa using this
 dsimp only;refine mw (λ(iU:(na-k==0)=true)=>?_) λ(iU:¬(na-k==0)=true)=>?_
 .have mL:na-k=0:=by simpa using iU
  refine bq<|h1 (λq _=>by rw[Dw]) ?_;rw[Dw];intro i j hi cO hj;by_cases tT:j<sb
  .exact sA i j hi cO<|by lia
  .by_cases mW:i<sb
   .have a1:=g1' i hi (by lia);have a2:=sB sb j (am _) (by lia) (by lia);lia
   .exact sB i j (by lia) cO<|by lia
 have mL:k<na:=by have:¬na-k=0:=by simpa using iU
                  lia
 obtain⟨xl,exl,mxl,fxl⟩:=B.at (f:=f) hm (show sb-1<a₀.size by lia);have Hv:(aJ st)[sa+k+(na-k)-1]?=some xl:=by rw[show sa+k+(na-k)-1=sb-1 by rw[Nat.add_assoc,Nat.add_sub_cancel'<|dg mL,<-lQ]];exact exl
 refine a9<|ny Hv<|a9<|J9 (st:=gO) (base:=sb) (n:=nb) (hint:=nb-1) C (EU f) B1.kind mxl (by lia) (λi z hi hz=>gS _ z hz) (by lia) (λi j y z cO hj hy hz=>?_) λn2 kJ g3 g4=>?_
 .have:=sB (sb+i) (sb+j) (by lia) (by lia) (by lia);rw[uk hy,uk hz]at this;simpa using this
 have g4':∀q,sb+n2<=q->q<sb+nb->Fk f (aJ st) (sb-1)<=Fk f (aJ st) q:=λq q1 q2=>by obtain⟨z,ez,_,fz⟩:=B.at (f:=f) hm (show q<a₀.size by lia);have:=g4 (q-sb) z (by lia) (by lia) (by rw[show sb+(q-sb)=q by lia];exact ez);rw[<-fxl,<-fz];simpa using this
 dsimp only;refine mw (λ(GF:(n2==0)=true)=>?_) λ(GF:¬(n2==0)=true)=>?_
 .have iN:n2=0:=by simpa using GF
  refine bq<|h1 (λq _=>by rw[Dw]) ?_;rw[Dw];intro i j hi cO hj;by_cases tT:j<sb
  .exact sA i j hi cO<|by lia
  .by_cases mW:i<sb
   .have a1:=sA i (sb-1) hi (by lia) (by lia);have a2:=g4' j (by lia) (by lia);lia
   .exact sB i j (by lia) cO<|by lia
 have iN:1<=n2:=by have:¬n2=0:=by simpa using GF
                   lia
 have ga:∀q,((aJ st).extract (sa+k) sb)[q]?=if q<sb-(sa+k)then(aJ st)[sa+k+q]? else none:=λq=>by rw[Array.getElem?_extract];have:hX sb (aJ st).size=sb:=ft (by lia);rw[this]
 have gb:∀q,((aJ st).extract sb (sb+n2))[q]?=if q<n2 then(aJ st)[sb+q]? else none:=λq=>by
  rw[Array.getElem?_extract];have:hX (sb+n2) (aJ st).size-sb=n2:=by rw[ft (by lia)];exact Nat.add_sub_cancel_left _ _
  rw[this]
 have za:((aJ st).extract (sa+k) sb).size=sb-(sa+k):=by rw[jv,ft<|by lia]
 have zb:((aJ st).extract sb (sb+n2)).size=n2:=by rw[jv,ft<|by lia];exact Nat.add_sub_cancel_left _ _
 have inA:∀z∈((aJ st).extract (sa+k) sb).toList,∃q,sa+k<=q/\q<sb/\(aJ st)[q]?=some z:=λz hz=>by
  obtain⟨q,hq⟩:=eu.mp hz;rw[bj,ga]at hq;by_cases oU:q<sb-(sa+k)
  .rw[if_pos oU]at hq;exact⟨_,by lia,by lia,hq⟩
  .rw[if_neg oU]at hq;cases hq
 have inB:∀z∈((aJ st).extract sb (sb+n2)).toList,∃q,q<n2/\(aJ st)[sb+q]?=some z:=λz hz=>by
  obtain⟨q,hq⟩:=eu.mp hz;rw[bj,gb]at hq;by_cases oU:q<n2
  .rw[if_pos oU]at hq;exact⟨_,oU,hq⟩
  .rw[if_neg oU]at hq;cases hq
 have uN:∀(lo m:Nat),lo+m<=(aJ st).size->Seg f (aJ st) lo m->Srt (fl f) ((aJ st).extract lo (lo+m)).toList:=λlo m zP hs=>by
  refine fw.mpr λi j hi hj cO=>?_;have zi:((aJ st).extract lo (lo+m)).toList.length=m:=by rw[a8,jv,ft zP];exact Nat.add_sub_cancel_left _ _
  have:=hs (lo+i) (lo+j) (by lia) (by lia) (by lia);rw[uk (getElem?_pos (aJ st) (lo+i)<|by lia),uk<|getElem?_pos (aJ st) (lo+j)<|by lia]at this;simpa using this
 have T:Two mem (fl f) ((aJ st).extract (sa+k) sb) ((aJ st).extract sb (sb+n2)):=by
  refine⟨λz hz=>?_,λz hz=>?_,?_,uN sb n2 (by lia) λi j hi cO hj=>sB i j hi cO<|by lia,by lia,by lia,λx y hx hy=>?_,λy hy x hx=>?_⟩
  .obtain⟨q,_,_,hq⟩:=inA z hz;exact gS q z hq
  .obtain⟨q,_,hq⟩:=inB z hz;exact gS _ z hq
  .have:=uN (sa+k) (na-k) (by lia) λi j hi cO hj=>sA i j (by lia) cO (by lia)
   rwa [show sa+k+(na-k)=sb by rw[Nat.add_assoc,Nat.add_sub_cancel'<|dg mL,<-lQ]]at this
  .rw[gb,if_pos<|by lia]at hx;rw[ga,if_pos<|by lia]at hy;have e0:x=xb:=by rw[Nat.add_zero,exb]at hx;exact(gl hx).symm
   rw[e0];exact g2 k y (am _) mL<|by simpa using hy
  .obtain⟨q,wZ,hq⟩:=inB y hy;rw[za,ga,if_pos<|by lia,show sa+k+(sb-(sa+k)-1)=sb-1 by rw[<-Nat.add_sub_assoc (by lia),Nat.add_sub_cancel'<|by lia],exl]at hx;rw[<-gl hx];exact g3 q y wZ hq
 have kB:((aJ st).extract (sa+k) sb).toList++((aJ st).extract sb (sb+n2)).toList=((aJ st).extract (sa+k) (sb+n2)).toList:=by
  rw[<-Array.toList_append,Array.extract_append_extract]
  congr 2<;>lia
 have fin:∀(out:Array aI)(aQ:aN),SameG gO aQ->oy (fl f) ((aJ st).extract (sa+k) sb).toList ((aJ st).extract sb (sb+n2)).toList out.toList->Q true (jH aQ<|rf (aJ aQ) out.toList.zipIdx<|sa+k):=by
  intro out aQ G M;have hp:out.toList.Perm ((aJ st).extract (sa+k) (sb+n2)).toList:=by rw[<-kB];exact M.1
  have hl:out.toList.length=sb+n2-(sa+k):=by rw[hp.length_eq,a8,jv,ft<|by lia]
  have e1:jH aQ (rf (aJ aQ) out.toList.zipIdx<|sa+k)=aN.mk' (kindOf st) (rf (aJ st) out.toList.zipIdx<|sa+k) (((aM st).setIfInBounds i (sa,na+nb,pa)).eraseIdxIfInBounds (i+1)) (oG aQ) (bN st):=by show aN.mk' (kindOf aQ) (rf (aJ aQ) _ _) (aM aQ) (oG aQ) (bN aQ)=_;rw[G.1,G.2.1,G.2.2.1,G.2.2.2,<-Bj]
  rw[e1];have sM:=ahy (f:=f) (arr:=aJ st) (show sa+k<=sb+n2 by lia) (by lia) hl M.2;have vM:∀q,sa+k<=q->q<sb+n2->∃p,sa+k<=p/\p<sb+n2/\Fk f (rf (aJ st) out.toList.zipIdx<|sa+k) q=Fk f (aJ st) p:=λq q1 q2=>afr (f:=f) (show sa+k<=sb+n2 by lia) (by lia) hp q1 q2;have cS:∀q,q<sa+k\/sb+n2<=q->(rf (aJ st) out.toList.zipIdx<|sa+k)[q]?=(aJ st)[q]?:=λq hq=>aim (f:=f) (show sa+k<=sb+n2 by lia) (by lia) hl hq;refine h2 _ _ (afa (show sa+k<=sb+n2 by lia) (by lia) hp) (λq hq=>cS q<|by lia) ?_;have qM:∀i p,sa<=i->i<sa+k->sa+k<=p->p<sb+nb->Fk f (aJ st) i<=Fk f (aJ st) p:=λi p i1 i2 p1 p2=>by
   by_cases qV:p<sb
   .exact sA i p i1 (by lia)<|by lia
   .have a1:=g1' i i1 i2;have a2:=sB sb p (am _) (by lia) (by lia);lia
  have BC:∀p j,sa<=p->p<sb+n2->sb+n2<=j->j<sb+nb->Fk f (aJ st) p<=Fk f (aJ st) j:=λp j p1 p2 j1 j2=>by
   by_cases qV:p<sb
   .have a1:=sA p (sb-1) p1 (by lia) (by lia);have a2:=g4' j j1 j2;lia
   .exact sB p j (by lia) (by lia)<|by lia
  intro i j hi cO hj;by_cases mW:i<sa+k
  .rw[w6 (f:=f) (cS i<|.inl mW)];by_cases tT:j<sa+k
   .rw[w6 (f:=f) (cS j<|.inl tT)];exact sA i j hi cO<|by lia
   .by_cases hj3:j<sb+n2
    .obtain⟨p,p1,p2,ep⟩:=vM j (by lia) hj3;rw[ep];exact qM i p hi mW p1<|by lia
    .rw[w6 (f:=f) (cS j<|.inr<|by lia)];exact qM i j hi mW (by lia)<|by lia
  .by_cases hi3:i<sb+n2
   .by_cases hj3:j<sb+n2
    .exact sM i j (by lia) cO<|by lia
    .obtain⟨p,p1,p2,ep⟩:=vM i (by lia) hi3;rw[ep,w6 (f:=f)<|cS j<|.inr<|by lia];exact BC p j (by lia) p2 (by lia)<|by lia
   .rw[w6 (f:=f) (cS i<|.inr<|by lia),w6 (f:=f)<|cS j<|.inr<|by lia];exact sB i j (by lia) cO<|by lia
 have done:∀(out:Array aI)(aQ:aN),SameG gO aQ->oy (fl f) ((aJ st).extract (sa+k) sb).toList ((aJ st).extract sb (sb+n2)).toList out.toList->
   iT (aH prog w) A E s (do
    modify λz=>jH z<|rf (aJ z) out.toList.zipIdx<|sa+k
    let z <-get
    aR (bN z).isNone) Q aQ:=by
  intro out aQ G M;refine a9<|cB<|a9<|dO<|bq ?_;have e:(bN<|jH aQ<|rf (aJ aQ) out.toList.zipIdx<|sa+k).isNone=true:=by show(bN aQ).isNone=true;rw[G.2.2.2,B1.failed];rfl
  rw[e];exact fin out aQ G M
 refine mw (λ(oX:na-k<=n2)=>?_) λ(oX:¬(na-k<=n2))=>?_
 .exact a9<|afz C (EU f) B1.kind T done
 .exact a9<|aff C (EU f) B1.kind T done
end
def rT:Nat->Z (Nat×Nat×Nat)->Nat->Prop
 | a,[],b=>a=b
 | a,e::r,b=>e.1=a/\1<=e.2.1/\rT (a+e.2.1) r b
theorem tile_app:∀{l1 l2:Z (Nat×Nat×Nat)} {a b:Nat},rT a (l1++l2) b↔∃c,rT a l1 c/\rT c l2 b
 | [],l2,a,b=>⟨λh=>⟨a,rfl,h⟩,λ⟨c,h1,h2⟩=>by cases h1;exact h2⟩
 | e::r,l2,a,b=>⟨λh=>by obtain⟨c,h1,h2⟩:=tile_app.mp h.2.2;exact⟨c,⟨h.1,h.2.1,h1⟩,h2⟩,λ⟨c,h1,h2⟩=>⟨h1.1,h1.2.1,tile_app.mpr ⟨c,h1.2.2,h2⟩⟩⟩
theorem zj:∀{l:Z (Nat×Nat×Nat)} {a b:Nat},rT a l b->a+l.length<=b
 | [],a,b,h=>by cases h;exact am _
 | e::r,a,b,h=>by have:=zj h.2.2;have:=h.2.1;simp only[b7];lia
theorem zc:∀{l:Z (Nat×Nat×Nat)} {a b:Nat},rT a l b->∀e∈l,a<=e.1/\e.1+e.2.1<=b
 | [],a,b,h,e,he=>by simp at he
 | d::r,a,b,h,e,he=>by
  have l:=zj h.2.2;have:=h.1;have:=h.2.1;rcases ax.mp he with rfl|he
  .lia
  .have:=zc h.2.2 e he;lia
noncomputable abbrev prT(e:Nat×Nat×Nat):Nat×Nat:=(e.1,e.2.1)
theorem adf:∀{l l':Z (Nat×Nat×Nat)} {a b:Nat},l'.map prT=l.map prT->rT a l b->rT a l' b
 | [],[],a,b,_,h=>h
 | [],e::r,a,b,q,h=>by simp at q
 | d::r,[],a,b,q,h=>by simp at q
 | d::r,e::r',a,b,q,h=>by rw[dq,dq]at q;obtain⟨q1,q2⟩:=List.cons.inj q;obtain⟨e1,e2⟩:e.1=d.1/\e.2.1=d.2.1:=Prod.mk.inj q1;refine⟨e1.trans h.1,by rw[e2];exact h.2.1,?_⟩;rw[e2];exact adf q2 h.2.2
def aeb(p:Array (Nat×Nat×Nat))(k w:Nat):(p.modify k λx=>(x.fst,x.2.fst,w)).toList.map prT=p.toList.map prT:=by
 apply List.ext_getElem?;intro i;rw[bz,bz,bj,bj,Array.getElem?_modify];split
 .cases p[i]?<;>rfl
 .rfl
structure PInv(f:aI->Int)(κ:aV)(a₀:Array aI)(lo:Nat)(st:aN):Prop where
 base:TB κ a₀ st
 tile:rT 0 (aM st).toList lo
 segs:∀e∈(aM st).toList,Seg f (aJ st) e.1 e.2.1
 top:lo<=a₀.size
def xc{f:aI->Int}{xs ys:Array aI}{lo n:Nat}(h:Seg f xs lo n)(e:∀k,lo<=k->k<lo+n->ys[k]?=xs[k]?):Seg f ys lo n:=λi j hi cO hj=>by rw[w6 (f:=f) (e i hi<|by lia),w6 (f:=f)<|e j (by lia) hj];exact h i j hi cO hj
section
variable{κ:aV}{f:aI->Int}{a₀:Array aI}{lo:Nat}{st aQ:aN}
def PInv.frame(P:PInv f κ a₀ lo st)(B:TB κ a₀ aQ)(F:Fr lo st aQ):PInv f κ a₀ lo aQ:=by refine⟨B,by rw[F.pend];exact P.tile,λe he=>?_,P.top⟩;rw[F.pend]at he;have:=zc P.tile e he;exact xc (P.segs e he) λk h1 h2=>F.low k<|by lia
def PInv.like(P:PInv f κ a₀ lo st){p:Array (Nat×Nat×Nat)}(h:p.toList.map prT=(aM st).toList.map prT):PInv f κ a₀ lo (setPending st p):=by
 refine⟨⟨P.base.perm,P.base.kind,P.base.failed⟩,adf h P.tile,λe he=>?_,P.top⟩;have h1:prT e∈(aM st).toList.map prT:=by rw[<-h];exact aw.mpr ⟨e,he,rfl⟩
 obtain⟨d,hd,ed⟩:=aw.mp h1;obtain⟨e1,e2⟩:d.1=e.1/\d.2.1=e.2.1:=Prod.mk.inj ed;have:=P.segs d hd;rw[e1,e2]at this;exact this
theorem PInv.push(P:PInv f κ a₀ lo st){n w:Nat}(h1:1<=n)(ht:lo+n<=a₀.size)(hs:Seg f (aJ st) lo n):PInv f κ a₀ (lo+n) (setPending st<|(aM st).push (lo,n,w)):=by
 refine⟨⟨P.base.perm,P.base.kind,P.base.failed⟩,?_,λe he=>?_,ht⟩
 .show rT 0 ((aM st).push (lo,n,w)).toList (lo+n);rw[Array.toList_push];exact tile_app.mpr ⟨lo,P.tile,rfl,h1,rfl⟩
 .have jJ:e∈((aM st).push (lo,n,w)).toList:=he;rw[Array.toList_push]at jJ;rcases ay.mp jJ with h|h
  .exact P.segs e h
  .rw[ar.mp h];exact hs
end
section
variable{prog:aK}{w:aP}{A:Around}{E:aA->aB->Prop}{s:aB}
variable{κ:aV}{mem:aI->Prop}{f:aI->Int}{a₀:Array aI}
def yf(C:mH prog w A s κ mem (fl f))(hm:∀x∈a₀.toList,mem x){st:aN}{i lo:Nat}(P:PInv f κ a₀ lo st)(hi:i+1<(aM st).size){Q:Bool->aN->Prop}
  (h:∀aQ,PInv f κ a₀ lo aQ->(aM aQ).size+1=(aM st).size->(∀k,lo<=k->(aJ aQ)[k]?=(aJ st)[k]?)->Q true aQ):iT (aH prog w) A E s (mergeAt' i) Q st:=by
 obtain⟨⟨sa,na,pa⟩,e1⟩:∃e,(aM st)[i]?=some e:=⟨_,getElem?_pos _ i<|by lia⟩;obtain⟨⟨sb,nb,pb⟩,e2⟩:∃e,(aM st)[i+1]?=some e:=⟨_,getElem?_pos _ (i+1) hi⟩;obtain⟨l1,l2,hl,bD⟩:∃l1 l2,(aM st).toList=l1++(sa,na,pa)::(sb,nb,pb)::l2/\l1.length=i:=by
  refine(l8 ((aM st).toList.take i) ((aM st).toList.drop (i+2)) ⟨?_,by simp;lia⟩);have hi0:i<(aM st).toList.length:=by simp;lia
  have DQ:i+1<(aM st).toList.length:=by simp;lia
  conv=>lhs;rw[<-dh i (aM st).toList,List.drop_eq_getElem_cons hi0,List.drop_eq_getElem_cons DQ]
  have a1:(aM st).toList[i]=(sa,na,pa):=by have:=e1;rw[<-bj,getElem?_pos _ i hi0]at this;exact gl this
  have a2:(aM st).toList[i+1]=(sb,nb,pb):=by have:=e2;rw[<-bj,getElem?_pos _ (i+1) DQ]at this;exact gl this
  rw[a1,a2]
 have ht:=P.tile;rw[hl]at ht;obtain⟨c,t1,t2⟩:=tile_app.mp ht;obtain⟨h1,h2,h3,h4,t3⟩:=t2;dsimp only at h1 h2 h3 h4 t3;have hlast:=zj t3;have sA:=P.segs (sa,na,pa) (by rw[hl];simp);have sB:=P.segs (sb,nb,pb) (by rw[hl];simp);have top:=P.top;refine afy C hm P.base e1 e2 (by lia) h2 h4 (by lia) sA sB λaQ B' hp ho hs=>h aQ ?_ ?_ λk hk=>ho k<|.inr<|by lia
 .have qV:(aM aQ).toList=l1++(sa,na+nb,pa)::l2:=by
   rw[hp,Array.toList_eraseIdxIfInBounds,Array.toList_setIfInBounds,hl];rw[List.set_append_right _ _ (by lia),bD,Nat.sub_self,List.set_cons_zero,List.eraseIdx_append_of_length_le<|by lia,bD,show i+1-i=1 by lia];rfl
  refine⟨B',?_,λe he=>?_,top⟩
  .rw[qV];refine tile_app.mpr ⟨c,t1,h1,by show 1<=na+nb;lia,?_⟩;show rT (c+(na+nb)) l2 lo;rw[show c+(na+nb)=c+na+nb by lia];exact t3
  .rw[qV]at he;rcases ay.mp he with q|q
   .have a1:=zc t1 e q;exact xc (P.segs e<|by rw[hl];exact gr _ q) λk k1 k2=>ho k<|.inl<|by lia
   .rcases ax.mp q with q|q
    .rw[q];exact hs
    .have a1:=zc t3 e q;exact xc (P.segs e<|by rw[hl];simp[q]) λk k1 k2=>ho k<|.inr<|by lia
 .have:=congrArg List.length (show(aM aQ).toList=l1++(sa,na+nb,pa)::l2 by
   rw[hp,Array.toList_eraseIdxIfInBounds,Array.toList_setIfInBounds,hl];rw[List.set_append_right _ _ (by lia),bD,Nat.sub_self,List.set_cons_zero,List.eraseIdx_append_of_length_le<|by lia,bD,show i+1-i=1 by lia];rfl)
  have q:=congrArg List.length hl;simp at this q;lia
theorem afm(C:mH prog w A s κ mem (fl f))(hm:∀x∈a₀.toList,mem x){st:aN}(B:TB κ a₀ st)(h0:aM st=#[]){Q:Unit->aN->Prop}
  (h:∀aQ,TB κ a₀ aQ->Seg f (aJ aQ) 0 a₀.size->Q () aQ):iT (aH prog w) A E s sortRuns' Q st:=by
 rw[sortRuns'_eq];refine a9<|dO ?_;dsimp only;simp only[B.size];refine a9<|i7 (gx (I:=λx c aQ=>∃lo,c=(none,lo)/\x<=lo/\PInv f κ a₀ lo aQ) (Q:=λc aQ=>c=(none,a₀.size)/\PInv f κ a₀ a₀.size aQ) ?step ?fin ?init) ?post
 case init=>exact⟨0,rfl,am _,B,by rw[h0];rfl,λe he=>by rw[h0]at he;simp at he,fj _⟩
 case fin=>
  intro c aQ bU;refine hid λCg bV=>?_;obtain⟨lo,rfl,hx,P⟩:=bU;refine bV ?_;have:=P.top;obtain rfl:lo=a₀.size:=by lia
  exact⟨rfl,P⟩
 case step=>
  intro x c aQ _ hx bU;refine hid λCg bV=>?_;obtain⟨lo,rfl,vD,P⟩:=bU;refine bV ?_;dsimp only;have top:=P.top;refine mw (λ(mN:lo>=a₀.size)=>?_) λ(mN:¬(lo>=a₀.size))=>?_
  .obtain rfl:lo=a₀.size:=by lia
   exact bq ⟨rfl,P⟩
  refine a9<|art C hm (by lia) (by lia) P.base λn dL B2 F2 n1 n2 s2=>?_;dsimp only;refine mw (λ(GH:n<mT a₀.size a₀.size 0)=>?_) λ(GH:¬(n<mT a₀.size a₀.size 0))=>?_
  .refine a9<|gY<|jr ⟨rfl,?_⟩;refine a9<|arb C hm (by lia) (by lia) B2 s2 λdI B3 F3 s3=>?_;rw[if_neg (by simp)];have f1:1<=(hX (a₀.size-lo)<|mT a₀.size a₀.size 0):=by lia
   have P3:PInv f κ a₀ lo dI:=P.frame B3<|F2.trans F3;refine a9<|dO ?_;cases hb:(aM dI).back? with
   | none=>
    dsimp only;exact a9 (cB<|bq ⟨_,rfl,by lia,P3.push f1 (by lia) s3⟩)
   | some e=>
    obtain⟨s1,m1,w1⟩:=e;dsimp only;refine a9<|i7 (gx (I:=λ_ c bP=>c=(none,())/\PInv f κ a₀ lo bP/\Seg f (aJ bP) lo (hX (a₀.size-lo)<|mT a₀.size a₀.size 0)) (Q:=λc bP=>c=(none,())/\PInv f κ a₀ lo bP/\Seg f (aJ bP) lo (hX (a₀.size-lo)<|mT a₀.size a₀.size 0)) ?_ (λ_ _ hh=>hh) ⟨rfl,P3,s3⟩) ?_
    .rintro y c bP _ hy ⟨rfl,P4,s4⟩;refine a9<|dO ?_;by_cases h2:(aM bP).size>1
     .rw[if_pos h2,getElem?_pos (aM bP) ((aM bP).size-2)<|by lia];dsimp only;split
      .exact bq ⟨rfl,P4,s4⟩
      .refine a9<|yf C hm P4 (by lia) λeZ P5 _ ho=>?_;rw[if_neg (by simp)];exact bq ⟨rfl,P5,xc s4 λk k1 _=>ho k k1⟩
     .rw[if_neg h2];exact bq ⟨rfl,P4,s4⟩
    .rintro c bP ⟨rfl,P4,s4⟩;dsimp only;refine a9<|cB ?_;have P5:=P4.like (p:=(aM bP).modify ((aM bP).size-1) λx=>(x.fst,x.2.fst,power' a₀.size (2*s1+m1) (2*s1+m1+m1+(hX (a₀.size-lo)<|mT a₀.size a₀.size 0)) a₀.size))<|aeb _ _ _;exact a9<|cB<|bq ⟨_,rfl,by lia,P5.push f1 (by lia) s4⟩
  .have P3:PInv f κ a₀ lo dL:=P.frame B2 F2;refine a9<|dO ?_;cases hb:(aM dL).back? with
   | none=>
    dsimp only;exact a9 (cB<|bq ⟨_,rfl,by lia,P3.push n1 (by lia) s2⟩)
   | some e=>
    obtain⟨s1,m1,w1⟩:=e;dsimp only;refine a9<|i7 (gx (I:=λ_ c bP=>c=(none,())/\PInv f κ a₀ lo bP/\Seg f (aJ bP) lo n) (Q:=λc bP=>c=(none,())/\PInv f κ a₀ lo bP/\Seg f (aJ bP) lo n) ?_ (λ_ _ hh=>hh) ⟨rfl,P3,s2⟩) ?_
    .rintro y c bP _ hy ⟨rfl,P4,s4⟩;refine a9<|dO ?_;by_cases h2:(aM bP).size>1
     .rw[if_pos h2,getElem?_pos (aM bP) ((aM bP).size-2)<|by lia];dsimp only;split
      .exact bq ⟨rfl,P4,s4⟩
      .refine a9<|yf C hm P4 (by lia) λeZ P5 _ ho=>?_;rw[if_neg (by simp)];exact bq ⟨rfl,P5,xc s4 λk k1 _=>ho k k1⟩
     .rw[if_neg h2];exact bq ⟨rfl,P4,s4⟩
    .rintro c bP ⟨rfl,P4,s4⟩;dsimp only;refine a9<|cB ?_;have P5:=P4.like (p:=(aM bP).modify ((aM bP).size-1) λx=>(x.fst,x.2.fst,power' a₀.size (2*s1+m1) (2*s1+m1+m1+n) a₀.size))<|aeb _ _ _;exact a9<|cB<|bq ⟨_,rfl,by lia,P5.push n1 (by lia) s4⟩
 case post=>
  rintro c aQ ⟨rfl,P⟩;dsimp only;refine a9<|i7 (gx (I:=λx c cM=>c=(none,())/\PInv f κ a₀ a₀.size cM/\(aM cM).size<=max 1 (a₀.size-x)) (Q:=λc cM=>c=(none,())/\PInv f κ a₀ a₀.size cM/\(aM cM).size<=1) ?_ ?_ ?_) ?_
  .rintro x c cM _ hx ⟨rfl,P2,hsz⟩;refine a9<|dO ?_;refine mw (λ(h1:(aM cM).size<=1)=>?_) λ(h1:¬((aM cM).size<=1))=>?_
   .exact bq ⟨rfl,P2,h1⟩
   .refine a9<|yf C hm P2 (by(repeat' split)<;>lia) λeZ P5 hz _=>?_;rw[if_neg (by simp)];exact bq ⟨rfl,P5,by lia⟩
  .rintro c cM ⟨rfl,P2,hsz⟩;exact⟨rfl,P2,by lia⟩
  .refine⟨rfl,P,?_⟩;have:=zj P.tile;simp at this;lia
  .rintro c cM ⟨rfl,P2,hsz⟩;refine bq<|h cM P2.base ?_;have t:=P2.tile;have sg:=P2.segs;have hl:(aM cM).toList.length<=1:=by simpa using hsz
   match hq:(aM cM).toList,hl with
   | [],_=>
    rw[hq]at t;intro i j hi cO hj;have:0=a₀.size:=t;lia
   | [e],_=>
    rw[hq]at t sg;have a1:=t.1;have a2:0+e.2.1=a₀.size:=t.2.2;have a3:=sg e (by simp);rw[a1,show e.2.1=a₀.size by lia]at a3;exact a3
end
end L3
namespace L3
open PySem PySem.Spec PyProof.Rows L2
structure CZ where
 cl:Z (Str×aF)
 C:aF
 s:aB
 H:Hp
 ex:Z aF
noncomputable def nc(X:Cx)(N:Z Str)(scope:cW)(z:CZ):Cx where
 prog:=X.prog
 w:=X.w
 K:=X.K
 mg:=X.mg
 base:=X.base
 A:=X.A
 N:=N
 s₀:=z.s
 H₀:=z.H
 env:=compEnvC scope z.cl z.C X.env
 outer:=X.stack
 stack:=X.stack
 ex:=z.ex
 calm:=X.calm
 fn:=λ_=>false
 pn:=[]
 xe:=λ_ _=>False
noncomputable def qa(cells:Z (Str×aF)):Z (Str×aS)->Z (Str×aF)->Z (Str×aF)
 | [],cs=>cs
 | (n,k)::r,cs=>if (k==aS.free)=true then(match cells.lookup n with|some c=>qa cells r ((n,c)::cs)|none=>qa cells r cs)else qa cells r cs
theorem wb{scope:cW}{env:qA}(h:∀x∈scope.names,x.2=.free->∃c,env.cells.lookup x.1=some c):oH scope env=aR (qa env.cells scope.names []):=by
 have go:∀(l:Z (Str×aS)) (cs:Z (Str×aF)),(∀x∈l,x.2=.free->∃c,env.cells.lookup x.1=some c)->
   (vN l cs λ(x:Str×aS) (cs:Z (Str×aF))=>if (x.2==aS.free)=true then do let a <-cellOf env x.1;aR (ForInStep.yield ((x.1,a)::cs))else aR (ForInStep.yield cs):nG (Z<|Str×aF))=aR (qa env.cells l cs):=by
  intro l;induction l with
  | nil=>intro cs _;rfl
  | cons x r ih=>
   intro cs hx;obtain⟨n,k⟩:=x;rw[List.forIn_cons];have ih':=λcs=>ih cs λy hy=>hx y<|au _ hy;unfold qa;dsimp only;by_cases hk:(k==aS.free)=true
   .obtain⟨c,hc⟩:=hx (n,k) ao (by simpa using hk);rw[if_pos hk,if_pos hk];simp only at hc;simp only[cellOf,hc,pure_bind];exact ih' _
   .rw[if_neg hk,if_neg hk];simp only[pure_bind];exact ih' _
 unfold oH;have e:=go scope.names [] h;simp only[bind_pure]at e⊢;exact e
theorem wp{cells:Z (Str×aF)}{x:Str}{c:aF}:∀{l:Z (Str×aS)} {cs:Z (Str×aF)},(qa cells l cs).lookup x=some c->cells.lookup x=some c\/cs.lookup x=some c
 | [],cs,h=>.inr h
 | (n,k)::r,cs,h=>by
  unfold qa at h;split at h
  .split at h
   .rename_i c0 e
    rcases wp h with q|q
    .exact .inl q
    .rw[je]at q;split at q
     .rename_i hx
      have wT:x=n:=by simpa using hx
      cases q;rw[wT];exact .inl e
     .exact .inr q
   .exact wp h
  .exact wp h
theorem rm{cells:Z (Str×aF)}{x:Str}:∀{l:Z (Str×aS)} {cs:Z (Str×aF)},(∃c,cs.lookup x=some c)->∃c,(qa cells l cs).lookup x=some c
 | [],cs,h=>h
 | (n,k)::r,cs,h=>by
  unfold qa;split
  .split
   .refine rm ?_;rw[je];split
    .exact⟨_,rfl⟩
    .exact h
   .exact rm h
  .exact rm h
theorem uv{cells:Z (Str×aF)}{x:Str}:∀{l:Z (Str×aS)} {cs:Z (Str×aF)},(x,aS.free)∈l->(∃c,cells.lookup x=some c)->∃c,(qa cells l cs).lookup x=some c
 | (n,k)::r,cs,hm,h=>by
  unfold qa;rcases ax.mp hm with e|hm
  .cases e;obtain⟨c,hc⟩:=h;rw[if_pos (show(aS.free==aS.free)=true from rfl),hc];refine rm ?_;rw[je];simp
  .split
   .split
    .exact uv hm h
    .exact uv hm h
   .exact uv hm h
def ae2{scope:cW}{env:qA}{x:Str}(oE:∀y∈scope.names,y.2≠.cell)(h:(relabel scope env).names.lookup x=some .cell\/(relabel scope env).names.lookup x=some .free):(x,aS.free)∈scope.names:=by
 rcases h with h|h
 .have hm:=iy h;obtain⟨⟨n,k⟩,hy,e⟩:=aw.mp hm;dsimp only at e;split at e
  .rename_i hc
   simp only[gp,beq_iff_eq]at hc;cases e;rw[hc.1.1]at hy;exact hy
  .cases e;exact absurd rfl<|oE _ hy
 .have hm:=iy h;obtain⟨⟨n,k⟩,hy,e⟩:=aw.mp hm;dsimp only at e;split at e
  .cases e
  .cases e;exact hy
theorem yq{env:qA}:∀{names:Z (Str×aS)} {x:Str},names.lookup x=some .free->
  ((names.map λ(n,k)=>if (k==aS.free&&env.scope.kind==.function&&env.kindOf n==some .cell)then(n,aS.cell)else(n,k)).lookup x=some .cell\/
   (names.map λ(n,k)=>if (k==aS.free&&env.scope.kind==.function&&env.kindOf n==some .cell)then(n,aS.cell)else(n,k)).lookup x=some .free)
 | [],_,h=>by simp at h
 | (n,k)::r,x,h=>by
  have ih:=@yq env r x;show(List.lookup x ((if (k==aS.free&&env.scope.kind==.function&&env.kindOf n==some .cell)=true then(n,aS.cell)else(n,k))::_)=_)\/(List.lookup x ((if (k==aS.free&&env.scope.kind==.function&&env.kindOf n==some .cell)=true then(n,aS.cell)else(n,k))::_)=_);cases hx:x==n with
  | true=>
   simp only[je,hx]at h;cases h;by_cases hc:((aS.free:aS)==aS.free&&env.scope.kind==.function&&env.kindOf n==some .cell)=true
   .rw[if_pos hc];left;simp only[je,hx]
   .rw[if_neg hc];right;simp only[je,hx]
  | false=>
   simp only[je,hx]at h;by_cases hc:(k==aS.free&&env.scope.kind==.function&&env.kindOf n==some .cell)=true
   .rw[if_pos hc];simp only[je,hx];exact ih h
   .rw[if_neg hc];simp only[je,hx];exact ih h
noncomputable def qt(sl:Z (Option Nat))(σ:L2.St):L2.St:=sl.map λo=>o.bind λj=>(σ[j]?).getD none
noncomputable def slOk(N N':Z Str)(sl:Z (Option Nat))(sc osc:cW):Bool:=
 sl.length==N'.length&&(List.zip N' sl).all λp=>match p.2 with
  | none=>true
  | some j=>N[j]?==some p.1&&sc.names.lookup p.1==some .free&&(osc.names.lookup p.1==some .cell||osc.names.lookup p.1==some .free)
def slOk.len{N N':Z Str}{sl:Z (Option Nat)}{sc osc:cW}(h:slOk N N' sl sc osc=true):sl.length=N'.length:=by unfold slOk at h;rw[gp]at h;simpa using h.1
theorem slOk.at{N N':Z Str}{sl:Z (Option Nat)}{sc osc:cW}(h:slOk N N' sl sc osc=true){k j:Nat}{x:Str}(h1:N'[k]?=some x)(h2:sl[k]?=some (some j)) :
  N[j]?=some x/\sc.names.lookup x=some .free/\(osc.names.lookup x=some .cell\/osc.names.lookup x=some .free):=by
 unfold slOk at h;rw[gp,List.all_eq_true]at h;have hm:(x,some j)∈List.zip N' sl:=by refine ak (i:=k) ?_;rw[List.getElem?_zip_eq_some];exact⟨h1,h2⟩
 have q:=h.2 _ hm;simp only[gp,Bool.or_eq_true,beq_iff_eq]at q;exact⟨q.1.1,q.1.2,q.2⟩
noncomputable def frOk(sc osc:cW):Bool:=sc.names.all λx=>!(x.2==.free)||(osc.names.lookup x.1==some .cell||osc.names.lookup x.1==some .free)
def frOk.of{sc osc:cW}(h:frOk sc osc=true):∀x∈sc.names,x.2=.free->osc.names.lookup x.1=some .cell\/osc.names.lookup x.1=some .free:=λx hx e=>by have q:=List.all_eq_true.mp h x hx;rw[e]at q;simp only[beq_self_eq_true,iu,Bool.false_or,Bool.or_eq_true,beq_iff_eq]at q;exact q
def Agree(σ σ':L2.St):Prop:=σ'.length=σ.length/\∀(i:Nat) v,σ[i]?=some (some v)->σ'[i]?=some (some v)
def Agree.refl(σ:L2.St):Agree σ σ:=⟨rfl,λ_ _ h=>h⟩
theorem Agree.set{σ σ':L2.St}(a:Agree σ σ'){i:Nat}{v:Option V}(h:σ[i]?=some none):Agree σ (σ'.set i v):=by
 refine⟨by rw[List.length_set];exact a.1,λj w e=>?_⟩;by_cases cO:i=j
 .subst cO;rw[h]at e;cases e
 .rw[List.getElem?_set_ne cO];exact a.2 j w e
section
variable{fs ex:Z aF}{H H':Hp}{h h1 h2:Heap}{C:aF}
def Un.but(u:Un fs ex H H' h h1)(hC:h.get? C=none)(sb:∀b o,b≠C->h1.get? b=some o->h2.get? b=some o):Un fs ex H H' h h2 where
 keep:=λb o e n hb hx=>sb b o (by rintro rfl;rw[hC]at e;cases e) (u.keep b o e n hb hx)
 slot:=λb o e n hb hx=>by obtain⟨sl,q⟩:=u.slot b o e n hb hx;exact⟨sl,sb b _ (by rintro rfl;rw[hC]at e;cases e) q⟩
 free:=u.free
 there:=λb o e hx=>by obtain⟨o',q⟩:=u.there b o e hx;exact⟨o',sb b o' (by rintro rfl;rw[hC]at e;cases e) q⟩
 tups:=u.tups
 frzs:=u.frzs
 tbls:=u.tbls
def HOk.but{P:aK}{w:aP}(x:HOk P w H h1)(hC:H C=none)(sb:∀b o,b≠C->h1.get? b=some o->h2.get? b=some o):HOk P w H h2:=λa o e=>
 (x a o e).stay (λb u hc q=>sb b u (by
  rintro rfl;rcases hc with hc|hc
  .rw[<-hc,hC]at e;cases e
  .rw[hC]at hc;cases hc) q) (λ_ q=>q) λ_ _ q=>q
end
theorem ain{X:Cx}{aC:Z (aF×Obj)}{σ:L2.St}{H:Hp}{s:aB}(I:Inv X aC σ H s){scope:cW}{N':Z Str}{sl:Z (Option Nat)}{fp:Z aF}{h₁:Heap}{m:Str->Option aA}{tk:Nat}
  (hk:scope.kind=.function) (oE:∀y∈scope.names,y.2≠.cell) (bX:∀x∈scope.names,x.2=.free->X.env.scope.names.lookup x.1=some .cell\/X.env.scope.names.lookup x.1=some .free)
  (nY:slOk X.N N' sl scope X.env.scope=true) (vG:∀b∈fp,mE X aC H b) (bQ:∀b∈fp,b<s.heap.objs.size)
  (oC:h₁.Ns s.heap.objs.size m) (iC:∀b o,s.heap.get? b=some o->h₁.get? b=some o) :
  Inv (nc X N' scope ⟨qa X.env.cells scope.names [],s.heap.objs.size,s,H,fp⟩) [] (qt sl σ) H {s with heap:=h₁,toks:=tk}:=by
 have Ac:∀x c,(qa X.env.cells scope.names []).lookup x=some c->X.env.cells.lookup x=some c:=λx c e=>by
  rcases wp e with q|q
  .exact q
  .cases q
 have has:∀x,(x,aS.free)∈scope.names->∃c,(qa X.env.cells scope.names []).lookup x=some c:=λx hx=>
  uv hx (I.ok.has x<|bX _ hx rfl)
 refine⟨⟨I.ok.mod,hk,I.ok.glob,I.ok.blt,am _,λx y c h1 h2=>I.ok.inj x y c (Ac x c h1)<|Ac y c h2,λx hx=>has x<|ae2 oE hx,λx c hf _=>absurd hf aq,I.ok.hd,I.ok.frames,.inl rfl,
   λb hb=>⟨dw<|bQ b hb,λx c e=>(vG b hb).2.2.2.2.1 x c (Ac x c e)⟩,I.bs,ig I.ok.bsz I.sz,λb o e hb=>?_,λb hb hz=>?_,I.stack,I.stkFree⟩,
  rfl,I.bare,Un.kept iC,⟨m,oC,λi x v h1 h2 _=>?_⟩,λx c e=>?_,I.hok.fresh<|am _,λx c e=>I.freeC x c<|Ac x c e,λp hp=>absurd (show p∈([]:Z (aF×Obj))from hp)<|by simp,I.hok.kept iC,?_⟩
 .rcases(vG b hb).2.2.2.1 with z|z
  .exact I.ok.noex b o e z
  .exact absurd (cw (bn (I.ok.bs b o e).1) z)<|js _
 .rcases ax.mp (I.stkSub b hz)with z|z
  .exact(vG b hb).2.1 z
  .exact(vG b hb).2.2.1 z
 .have gD:(qt sl σ)[i]?=some (some v):=h2;unfold qt at gD;rw[bz]at gD;cases q:sl[i]? with
  | none=>rw[q]at gD;cases gD
  | some o=>
   rw[q]at gD;cases o with
   | none=>cases gD
   | some j=>
    have e:(σ[j]?).getD none=some v:=by simpa using gD
    have e2:σ[j]?=some (some v):=by
     cases r:σ[j]? with
     | none=>rw[r]at e;cases e
     | some w=>rw[r]at e;simp at e;rw[e]
    obtain⟨a1,a2,a3⟩:=slOk.at nY h1 q;obtain⟨mo,_,hl⟩:=I.loc;obtain⟨u,r,l⟩:=hl j x v a1 e2<|.inr a3;refine⟨u,r,.inr ⟨yq a2,?_⟩⟩;have a4:X.env.kindOf x=some .cell\/X.env.kindOf x=some .free:=a3;rcases l with ⟨l,_⟩|⟨_,c,e3,z⟩
    .rcases a4 with a4|a4 <;> · rw[l]at a4;cases a4
    .obtain⟨c',e4⟩:=has x<|iy a2;have e5:=Ac x c' e4;rw[e3]at e5;cases e5;obtain⟨o,ho,hd⟩:=z;exact(oo c e4 o ⟨iC _ _ ho,hd⟩)
 .obtain⟨v,o,ho,hd⟩:=I.cell x c<|Ac x c e;exact(l8 v o ⟨iC _ _ ho,hd⟩)
 .show(qt sl σ).length=N'.length;unfold qt;rw[ae];exact slOk.len nY
def PTs(X:Cx)(jR:Z Expr)(t:TT):Prop:=
 ∀(aC:Z (aF×Obj)) (s:aB) (σ:L2.St) (H:Hp) (Q:Bool->Hp->Prop),Inv X aC σ H s->t σ H Q->
  aG (aH X.prog X.w) X.A (vN jR true λc r=>if r=true then do let ok <-isTrue c X.env (bT c X.env);aR (ForInStep.yield ok)else aR (ForInStep.yield r)) (TP X aC σ Q) X.xe s
def jY:TT:=λ_ H Q=>Q true H
def om{X:Cx}:PTs X [] jY:=λ_ _ _ H _ I h=>wpAny_tests_nil ⟨H,I,h⟩
def Fe{X:Cx}{c:Expr}{t:TT}(h:PT X c t):PTs X [c] t:=λaC s σ H Q I q=>wpAny_tests_one<|h aC s σ H Q I q
theorem aev{prog:aK}{w:aP}{A:Around}{R:oO->aB->Prop}{s:aB}{jL aZ iter:Expr}{jR:Z Expr}{scope:cW}{pos:dU}{it acc:aA}{env:qA}(I:Nat->aB->Prop)
  (turn:∀n s,I n s->aG (aH prog w) A (bF it) (λr s₁=>match r with
   | none=>R (.ok .next) s₁
   | some v=>aG (aH prog w) A (gK aZ it v) (λ_ s₂=>aG (aH prog w) A (jP aZ env v) (λ_ s₃=>
     aG (aH prog w) A (vN jR true λc r=>if r=true then do let ok <-isTrue c env (bT c env);aR (ForInStep.yield ok)else aR (ForInStep.yield r)) (λok s₄=>
      if ok=true then aG (aH prog w) A (bT jL env) (λx s₅=>
       aG (aH prog w) A (call (.builtin "list.append") [acc,x]) (λ_ s₆=>∃m,m<n/\I m s₆) (λ_ _=>False) s₅) (λ_ _=>False) s₄
      else ∃m,m<n/\I m s₄) (λ_ _=>False) s₃) (λ_ _=>False) s₂) (λ_ _=>False) s₁) (λ_ _=>False) s)
  (n:Nat) (h:I n s) :
  dD (aH prog w) A (.compLoop (.ListComp jL [⟨aZ,iter,jR,0⟩] scope pos) 0 it acc env) R s:=by
 refine codeAny_loop rfl I (λn s hI=>?_) n h;show aG _ A ((compTurn (.ListComp jL [⟨aZ,iter,jR,0⟩] scope pos) 0 it acc env).onRaise (λx=>do noteFrame x env;theTreesLotGoes x)) _ _ s;refine wpAny_noted ?_;rw[compTurn_list];refine ab<|fL<|ab<|jc (turn n s hI) (λr s₁ h₁=>?_) λ_ _ h'=>h'.elim;cases r with
 | none=>exact af h₁
 | some v=>
  refine ab<|jc h₁ (λ_ s₂ h₂=>?_) λ_ _ h'=>h'.elim;refine ab<|jc h₂ (λ_ s₃ h₃=>ab<|jc h₃ (λok s₄ h₄=>?_) λ_ _ h'=>h'.elim) λ_ _ h'=>h'.elim;cases ok with
  | false=>exact af ⟨rfl,h₄⟩
  | true=>
   exact ab<|ab<|jc h₄ (λx s₅ h₅=>ab<|jc h₅ (λ_ s₆ h₆=>af<|af ⟨rfl,h₆⟩) λ_ _ h'=>h'.elim) λ_ _ h'=>h'.elim
def uJ(J:It)(sl:Z (Option Nat))(g:TG)(tt:TT)(te:TE)(σ:L2.St)(H1:Hp)(D:aF)(Q:VK):Prop:=
 ∃W:Nat->Nat->Hp->Prop,(∃m,W 0 m<|upd H1 D<|.lst [])/\∀i m H,W i m H->(J.stop i H/\Q (.ref D) H)\/
  (J.go i H/\∃N:Hp->Prop,(∀H',N H'->∃m',m'<m/\W (i+1) m' H')/\∀x H',J.yld i H x H'->g x (qt sl σ) H' λσ2 H2=>Agree (qt sl σ) σ2/\tt σ2 H2 λb H3=>
   if b=true then te σ2 H3 λy H4=>∃xs,H4 D=some (.lst xs)/\xs.length<aE/\N (upd H4 D<|.lst<|xs++[y])else N H3)
def vY(wi:TI)(sl:Z (Option Nat))(g:TG)(tt:TT)(te:TE):TE:=λσ H Q=>wi σ H λJ H1=>∀D,H1 D=none->uJ J sl g tt te σ H1 D Q
section
variable{X:Cx}{jL aZ iter:Expr}{jR:Z Expr}{scope:cW}{pos:dU}
theorem abd{N':Z Str}{sl:Z (Option Nat)}{g:TG}{tt:TT}{te:TE}{aC:Z (aF×Obj)}{s₂:aB}{σ:L2.St}{H2:Hp}{Q:VK}{RR:aA->aF->oO->aB->Prop}{E:aA->aB->Prop}
  {it:aF} {fp:Z aF} {tn:Nat->Heap->Prop} {J:It} (hc:X.calm=true) (dR:scope.kind=.function)
  (oE:∀y∈scope.names,y.2≠.cell) (bX:∀x∈scope.names,x.2=.free->X.env.scope.names.lookup x.1=some .cell\/X.env.scope.names.lookup x.1=some .free)
  (nY:slOk X.N N' sl scope X.env.scope=true)
  (hg:∀z,PG (nc X N' scope z) aZ g) (ht:∀z,PTs (nc X N' scope z) jR tt) (he:∀z,PE (nc X N' scope z) jL te)
  (I2:Inv X aC σ H2 s₂) (T:sQ X.prog X.w X.K aZ J fp it tn) (dL:tn 0 s₂.heap) (f2:∀b∈fp,mE X aC H2 b) (hw:∀D,H2 D=none->uJ J sl g tt te σ H2 D Q)
  (hR:∀D C H' s',H' C=none->(∃m,s'.heap.Ns C m)->mE X aC H' C->(∀h',b9 C s'.heap h'->Inv X aC σ H' {s' with heap:=h'})->Inv X aC σ H' s'->Q (.ref D) H'->RR (.ref D) C (.ok .next) s') :
  aG (aH X.prog X.w) X.A (newList []) (λacc s₃=>aG (aH X.prog X.w) X.A (newFunctionEnv scope X.env.globals (qa X.env.cells scope.names []) [] X.env.qual none .none<|some X.env) (λcenv s₄=>
   dD (aH X.prog X.w) X.A (.compStart (.ListComp jL [⟨aZ,iter,jR,0⟩] scope pos) 0 (.ref it) acc {cenv with scope:=relabel scope X.env}) (RR acc cenv.locals) s₄) E s₃) E s₂:=by
 have Bv:∀b∈fp,b<s₂.heap.objs.size:=λb hb=>by obtain⟨o,e,_⟩:=T.obj _ _ dL b hb;exact bn e
 have hD:H2 s₂.heap.objs.size=none:=I2.hok.fresh<|am _;obtain⟨W,⟨m0,w0⟩,turn⟩:=hw _ hD;refine pH ?_<|fj _;have I3:=I2.lnew (ys:=[]) (its:=[]) (t':=s₂.toks) .nil<|fj _;refine wpAny_newFunctionEnv oE (by intro y hy;simp at hy) (λh₁ Gz Ge=>?_) dR;generalize hs3:({s₂ with heap:=s₂.heap.push {cls:=.type "list",data:=.seq ([]:Z aA).toArray}}:aB)=s₃ at *;have Bl:s₃.heap=s₂.heap.push {cls:=.type "list",data:=.seq ([]:Z aA).toArray}:=by rw[<-hs3]
 have yB:s₃.heap.objs.size=s₂.heap.objs.size+1:=by rw[Bl,i9]
 have wR:∀b o,s₂.heap.get? b=some o->s₃.heap.get? b=some o:=λb o e=>by rw[Bl];exact ai _ e
 have uX:∀b o,s₃.heap.get? b=some o->h₁.get? b=some o:=λb o e=>Ge.extBut b o (dw<|bn e)<|ai _ e;have gW:∀b∈fp,b≠s₂.heap.objs.size:=λb hb=>dw<|Bv b hb;have f3:∀b∈fp,mE X aC (upd H2 s₂.heap.objs.size<|.lst []) b:=λb hb=>⟨by rw[ma (gW b hb)];exact(f2 b hb).1,(f2 b hb).2⟩;have GK:∀b∈fp,b<s₃.heap.objs.size:=λb hb=>by rw[yB];exact Nat.lt_succ_of_lt<|Bv b hb
 have I4:=ain (tk:=s₃.toks+([]:Z (Str×aA)).length) I3 dR oE bX nY f3 GK Gz uX;have bP:tn 0 h₁:=T.keep _ _ _ dL λb _ o e=>uX b o<|wR b o e;generalize hz:(⟨qa X.env.cells scope.names [],s₃.heap.objs.size,s₃,upd H2 s₂.heap.objs.size<|.lst [],fp⟩:CZ)=z at I4;have ezC:z.C=s₃.heap.objs.size:=by rw[<-hz]
 have ezx:z.ex=fp:=by rw[<-hz]
 have mR:∀{H':Hp},(∀b∈fp,H' b=none)->∀b∈fp,mE (nc X _ scope z) [] H' b:=λhn b hb=>by subst hz;have q:=I4.ok.exf b hb;exact⟨hn b hb,q.1,I4.ok.exfs b hb,.inl hb,q.2,λp hp=>absurd (show p∈([]:Z (aF×Obj))from hp)<|by simp⟩
 have loop:∀s₄:aB,s₄={s₃ with heap:=h₁,toks:=s₃.toks+([]:Z (Str×aA)).length}->
   dD (aH X.prog X.w) X.A (.compLoop (.ListComp jL [⟨aZ,iter,jR,0⟩] scope pos) 0 (.ref it) (.ref s₂.heap.objs.size) (nc X N' scope z).env) (RR (.ref s₂.heap.objs.size) s₃.heap.objs.size) s₄:=by
  rintro s₄ rfl;refine aev (λn s'=>∃i H',Inv (nc X N' scope z) [] (qt sl σ) H' s'/\tn i s'.heap/\(∀b∈fp,H' b=none)/\W i n H') ?_ m0<|l8 0 _ ⟨I4,bP,λb hb=>(f3 b hb).1,w0⟩;rintro n s5 ⟨i,H5,I5,eZ,Eg,w5⟩;rcases turn i n H5 w5 with ⟨stop,qn⟩|⟨go,N,hN,step⟩
  .refine thn (T.done (nc X N' scope z) rfl rfl rfl hc i [] s5 _ H5 _ I5 (mR Eg) eZ stop) λr s6 ⟨hr,I6⟩=>?_;subst hr;have un:Un (frs X.stack) fp (upd H2 s₂.heap.objs.size<|.lst []) H5 s₃.heap s6.heap:=by subst hz;exact I6.base
   have os6:s6.os=s₃.os:=by subst hz;exact I6.os
   have fC:H5 s₃.heap.objs.size=none:=by subst hz;exact I6.free
   have lZ:∀b∈fp,(b∈X.ex\/X.s₀.heap.objs.size<=b)/\b≠X.env.locals/\(∀x c,X.env.cells.lookup x=some c->c≠b)/\∀p∈X.pn++aC,p.1≠b:=λb hb=>⟨(f2 b hb).2.2.2.1,(f2 b hb).2.1,(f2 b hb).2.2.2.2.1,(f2 b hb).2.2.2.2.2⟩;have nC:s₃.heap.get? s₃.heap.objs.size=none:=Heap.get?_none_of_le<|am _;have ns:∃m,s6.heap.Ns s₃.heap.objs.size m:=by subst hz;obtain⟨m,hn,_⟩:=I6.loc;exact⟨m,hn⟩
   refine hR _ _ H5 s6 fC ns (I3.fpOk (am _) fC) (λh' sb=>?_) (I3.call' (ch:=fp) os6 un I6.hok I6.bare lZ) qn;exact I3.call' (s':={s6 with heap:=h'}) (ch:=fp) os6 (Un.but un nC sb.extBut) (HOk.but I6.hok fC sb.extBut) I6.bare lZ
  .refine thn (T.item (nc X N' scope z) rfl rfl rfl hc i [] s5 _ H5 _ I5 (mR Eg) eZ go) λr s6 ⟨u,hr,h6⟩=>?_;subst hr;refine thn h6 λ_ s7 ⟨x,H7,I7,r7,y7,AT,fr7⟩=>?_;have I7':=I7.pinned (mR fr7)<|T.obj _ _ AT;refine thn (hg z _ s7 _ H7 x u _ I7' r7<|step x H7 y7) λ_ s8 ⟨σ8,H8,I8,ag,q8⟩=>?_;have again:∀{s9:aB} {H9:Hp},Inv (nc X N' scope z) ([]++Cz fp s7.heap) σ8 H9 s9->N H9->∃m,m<n/\∃i H',Inv (nc X N' scope z) [] (qt sl σ) H' s9/\tn i s9.heap/\(∀b∈fp,H' b=none)/\W i m H':=λ{s9 H9} I9 n9=>by
    obtain⟨m',hm,w9⟩:=hN H9 n9;refine(nu m' hm (i+1) H9 ⟨(I9.weak ag.1.symm ag.2).unpinned,T.keep _ _ _ AT λb hb o e=>(I9.pin (b,o)<|cf _<|cf _<|uz hb e).1,λb hb=>?_,w9⟩);obtain⟨o,e,d⟩:=T.obj _ _ AT b hb;exact(I9.pin (b,o)<|cf _<|cf _<|uz hb e).2.1
   refine thn (ht z _ s8 σ8 H8 _ I8 q8) λok s9 ⟨H9,I9,q9⟩=>?_;cases ok with
   | false=>exact again I9 q9
   | true=>
    refine thn (he z _ s9 σ8 H9 _ I9 q9) λu10 Fv ⟨y,H10,I10,r10,xs,hx,FU,wQ⟩=>?_;exact thn (pq _ Fv σ8 H10 (.ref s₂.heap.objs.size) [y] (.ref s₂.heap.objs.size) [u10] (λ_ H'=>N H') I10 rfl (.cons r10 .nil)<|mz _ xs y ⟨rfl,rfl,hx,FU,wQ⟩) λ_ s11 ⟨_,H11,I11,_,n11⟩=>again I11 n11
 have HC:(nc X N' scope z).env=compEnvC scope (qa X.env.cells scope.names []) s₃.heap.objs.size X.env:=by rw[<-hz];rfl
 rw[HC]at loop;exact codeAny_compStart_list (loop _ rfl)<|T.self _ 0 _ _ _ bP<|loop _ rfl
def aqh(N':Z Str)(sl:Z (Option Nat)){wi:TI}{g:TG}{tt:TT}{te:TE}(hc:X.calm=true)(dR:scope.kind=.function)
  (fY:∀x∈scope.names,x.2=.local->scope.names.lookup x.1=some .local)
  (oE:∀y∈scope.names,y.2≠.cell) (rG:frOk scope X.env.scope=true)
  (nY:slOk X.N N' sl scope X.env.scope=true) (hi:PI X aZ iter wi)
  (hg:∀z,PG (nc X N' scope z) aZ g) (ht:∀z,PTs (nc X N' scope z) jR tt) (he:∀z,PE (nc X N' scope z) jL te)
  (hs:∀x,bY iter X.env x=aR x:=by intro _;rfl) :
  PE X (.ListComp jL [⟨aZ,iter,jR,0⟩] scope pos) (vY wi sl g tt te):=by
 have bX:=frOk.of rG;intro aC s σ H Q I h;rw[eval_ListComp];have vI:oH scope X.env=aR (qa X.env.cells scope.names []):=wb λx hx hk=>I.ok.has x.1<|bX x hx hk;refine pI (use:=none) rfl hs vI dR fY<|thn (hi aC s σ H _ I h) λxv s₁ h₁=>thn h₁ λDv s₂ h₂=>?_;obtain⟨it,fp,tn,J,H2,e,I2,T,dL,f2,hw⟩:=h₂;subst e;refine abd (RR:=λacc C=>compPost (aH X.prog X.w) X.A X.xe none (EP X aC σ Q) acc C) hc dR oE bX nY hg ht he I2 T dL f2 hw ?_;intro D C H' s' fC ns _ hI _ q;obtain⟨m,hn⟩:=ns;exact⟨m,hn,λh' sb=>(l8 (.ref D) H' ⟨hI h' sb,rfl,q⟩)⟩
def aqe(N':Z Str)(sl:Z (Option Nat)){wi:TI}{g:TG}{tt:TT}{te:TE}{i:Nat}{y:Str}{py qE:dU}(hN:X.N.Nodup)(FW:X.N[i]?=some y)(hx:Loc X.env.scope y)
  (Gb:iI (.ListComp jL [⟨aZ,iter,jR,0⟩] scope pos) (some<|.Name y py) qE.line X.env=aR true) (hc:X.calm=true) (dR:scope.kind=.function)
  (fY:∀x∈scope.names,x.2=.local->scope.names.lookup x.1=some .local)
  (oE:∀y∈scope.names,y.2≠.cell) (rG:frOk scope X.env.scope=true)
  (nY:slOk X.N N' sl scope X.env.scope=true) (hi:PI X aZ iter wi)
  (hg:∀z,PG (nc X N' scope z) aZ g) (ht:∀z,PTs (nc X N' scope z) jR tt) (he:∀z,PE (nc X N' scope z) jL te)
  (hs:∀x,bY iter X.env x=aR x:=by intro _;rfl) (hf:X.fn y=true\/X.env.scope.names.lookup y=some .local:=by first|exact .inl rfl|exact .inr rfl|assumption) :
  PS X (.Assign [.Name y py] (.ListComp jL [⟨aZ,iter,jR,0⟩] scope pos) qE) (Co (vY wi sl g tt te)<|rq i):=by
 have bX:=frOk.of rG;intro aC s σ H D I h;rw[exec_Assign_Name_used _ _ _ _ Gb];refine ab<|fL<|ab ?_;show aG _ _ (do let _ <-comprehension (.ListComp jL [⟨aZ,iter,jR,0⟩] scope pos) scope X.env _ (newList []) false (bT iter X.env) (some<|jP (.Name y py) X.env)) _ _ s;have vI:oH scope X.env=aR (qa X.env.cells scope.names []):=wb λx hx hk=>I.ok.has x.1<|bX x hx hk;refine ab (jc (pI (use:=some<|jP (.Name y py) X.env) (Q:=λ_ s'=>SP X aC D .next s') rfl hs vI dR fY
  (thn (hi aC s σ H _ I h) λxv s₁ h₁=>thn h₁ λDv s₂ h₂=>?_)) (λ_ s' hq=>af<|af hq) λ_ _ e=>e)
 obtain⟨it,fp,tn,J,H2,e,I2,T,dL,f2,hw⟩:=h₂;subst e;refine abd (RR:=λacc C=>compPost (aH X.prog X.w) X.A X.xe (some<|jP (.Name y py) X.env) (λ_ s'=>SP X aC D .next s') acc C) hc dR oE bX nY hg ht he I2 T dL f2 hw ?_;intro E C H' s' fC ns fp hI I' q;obtain⟨m,hn⟩:=ns;show aG _ _ (jP (.Name y py) X.env<|.ref E) _ _ _;refine AQ<|aee I' hN FW hx (v:=.ref E) rfl (λs2 I2 ⟨a,sb,ha⟩=>?_) hf;have hCa:C≠a:=by
  rcases ha with ha|ha
  .rw[ha];exact fp.2.1
  .exact λz=>fp.2.2.2.2.1 _ _ ha z.symm
 exact⟨m,hn.sameBut sb hCa,λh3 uS=>(l8 _ H' ⟨I2.turned (t':=s2.toks) (λb o hb e=>(uS.2 b hb).trans e) fp.1 fp.2.1 fp.2.2.2.1 fp.2.2.2.2.1 fp.2.2.2.2.2,q⟩)⟩
end
end L3
namespace L3
structure Ord(lt:Nat->Nat->Bool):Prop where
 asy:∀a b,lt a b=true->lt b a=false
 tr:∀a b c,lt b a=false->lt c b=false->lt c a=false
noncomputable def yI(lt:Nat->Nat->Bool)(x:Nat):Z Nat->Z Nat
 | []=>[x]
 | y::l=>if lt y x=true then y::yI lt x l else x::y::l
noncomputable def Ew(lt:Nat->Nat->Bool):Z Nat->Z Nat
 | []=>[]
 | x::l=>yI lt x<|Ew lt l
noncomputable def srt(lt:Nat->Nat->Bool)(n:Nat):Z Nat:=Ew lt<|cp n
theorem zp(lt:Nat->Nat->Bool)(x:Nat):∀l,(yI lt x l).Perm (x::l)
 | []=>j4 _
 | y::l=>by
  unfold yI;split
  .exact((zp lt x l).cons y).trans (List.Perm.swap x y l)
  .exact j4 _
theorem adk(lt:Nat->Nat->Bool):∀l,(Ew lt l).Perm l
 | []=>j4 _
 | x::l=>(zp lt x _).trans ((adk lt l).cons x)
def Ka(lt:Nat->Nat->Bool)(n:Nat):(srt lt n).Perm (cp n):=adk lt _
def xj(lt:Nat->Nat->Bool)(n:Nat):(srt lt n).length=n:=by rw[(Ka lt n).length_eq,g0]
theorem Ord.irr{lt:Nat->Nat->Bool}(o:Ord lt)(a:Nat):lt a a=false:=by
 cases h:lt a a with
 | false=>rfl
 | true=>exact h.symm.trans<|o.asy a a h
theorem aj8{lt:Nat->Nat->Bool}(o:Ord lt)(x:Nat):∀{l:Z Nat},l.Pairwise (λa b=>lt b a=false)->(yI lt x l).Pairwise (λa b=>lt b a=false)
 | [],_=>by simp[yI]
 | y::l,h=>by
  have h':=gh.mp h;unfold yI;split
  .rename_i hy
   refine gh.mpr ⟨λz hz=>?_,aj8 o x h'.2⟩;rcases ax.mp ((zp lt x l).mem_iff.mp hz)with rfl|hz
   .exact o.asy _ _ hy
   .exact h'.1 z hz
  .rename_i hy
   have vA:lt y x=false:=by simpa using hy
   refine gh.mpr ⟨λz hz=>?_,h⟩;rcases ax.mp hz with rfl|hz
   .exact vA
   .exact o.tr _ _ _ vA<|h'.1 z hz
theorem aly{lt:Nat->Nat->Bool}(o:Ord lt):∀l,(Ew lt l).Pairwise (λa b=>lt b a=false)
 | []=>List.Pairwise.nil
 | x::l=>aj8 o x<|aly o l
def aoh{lt:Nat->Nat->Bool}(o:Ord lt)(n:Nat){i j:Nat}(h1:i<=j)(h2:j<n):lt ((srt lt n).getD j 0) ((srt lt n).getD i 0)=false:=by
 have hl:=xj lt n;have hj:j<(srt lt n).length:=by lia
 have hi:i<(srt lt n).length:=by lia
 rw[fk,fk,ah hj,ah hi];show lt (srt lt n)[j] (srt lt n)[i]=false;by_cases e:i=j
 .subst e;exact o.irr _
 .exact fw.mp (aly o<|cp n) i j hi hj<|by lia
end L3
namespace L3
open PySem PySem.Spec PyProof.Rows L2
mutual
def Rep(H:Hp):U->V->Prop
 | .none,v=>v=.non
 | .bool b,v=>v=.bl b
 | .int i,v=>v=.int i
 | .str x,v=>v=.str x/\k9 x=true
 | .tuple ds,v=>∃a xs,v=.ref a/\H a=some (.tup xs)/\RepAll H ds xs
 | .list ds,v=>∃a xs,v=.ref a/\H a=some (.lst xs)/\RepAll H ds xs
 | .dict _,_=>False
def RepAll(H:Hp):Z U->Z V->Prop
 | [],xs=>xs=[]
 | d::ds,xs=>∃x r,xs=x::r/\Rep H d x/\RepAll H ds r
end
mutual
noncomputable def imm:U->Bool
 | .none=>true
 | .bool _=>true
 | .int _=>true
 | .str _=>true
 | .tuple ds=>o9 ds
 | .list _=>false
 | .dict _=>false
noncomputable def o9:Z U->Bool
 | []=>true
 | d::ds=>imm d&&o9 ds
end
def Tk(H H':Hp):Prop:=∀b xs,H b=some (.tup xs)->H' b=some (.tup xs)
def Tk.trans{H H1 H2:Hp}(a:Tk H H1)(b:Tk H1 H2):Tk H H2:=λc o h=>b c o<|a c o h
def Tk.of_same{H H':Hp}(h:Same H H'):Tk H H':=λb xs q=>h b _ q
theorem Tk.lst{H:Hp}{p:aF}{xs:Z V}{o:HO}(h:H p=some (.lst xs)):Tk H (upd H p o):=λb ys q=>by rw[ma (As q h<|by intro z;cases z)];exact q
mutual
theorem Rep.tk{H H':Hp}(t:Tk H H'):∀{d:U} {v:V},imm d=true->Rep H d v->Rep H' d v
 | .none,_,_,h=>h
 | .bool _,_,_,h=>h
 | .int _,_,_,h=>h
 | .str _,_,_,h=>h
 | .tuple ds,v,hi,h=>by obtain⟨a,xs,e,ha,r⟩:=h;exact(l8 a xs ⟨e,t _ _ ha,RepAll.tk t hi r⟩)
 | .list _,_,hi,_=>absurd hi aq
 | .dict _,_,hi,_=>absurd hi aq
theorem RepAll.tk{H H':Hp}(t:Tk H H'):∀{ds:Z U} {xs:Z V},o9 ds=true->RepAll H ds xs->RepAll H' ds xs
 | [],_,_,h=>h
 | d::ds,xs,hi,h=>by obtain⟨x,r,e,h1,h2⟩:=h;have eW:(imm d&&o9 ds)=true:=hi;rw[gp]at eW;exact(l8 x r ⟨e,Rep.tk t eW.1 h1,RepAll.tk t eW.2 h2⟩)
end
mutual
theorem Rep.same{H H':Hp}(t:Same H H'):∀{d:U} {v:V},Rep H d v->Rep H' d v
 | .none,_,h=>h
 | .bool _,_,h=>h
 | .int _,_,h=>h
 | .str _,_,h=>h
 | .tuple ds,v,h=>by obtain⟨a,xs,e,ha,r⟩:=h;exact(l8 a xs ⟨e,t _ _ ha,RepAll.same t r⟩)
 | .list ds,v,h=>by obtain⟨a,xs,e,ha,r⟩:=h;exact(l8 a xs ⟨e,t _ _ ha,RepAll.same t r⟩)
 | .dict _,_,h=>h
theorem RepAll.same{H H':Hp}(t:Same H H'):∀{ds:Z U} {xs:Z V},RepAll H ds xs->RepAll H' ds xs
 | [],_,h=>h
 | d::ds,xs,h=>by obtain⟨x,r,e,h1,h2⟩:=h;exact(l8 x r ⟨e,Rep.same t h1,RepAll.same t h2⟩)
end
theorem RepAll.length{H:Hp}:∀{ds:Z U} {xs:Z V},RepAll H ds xs->xs.length=ds.length
 | [],xs,h=>by have e:xs=[]:=h;rw[e];rfl
 | d::ds,xs,h=>by obtain⟨x,r,e,_,h2⟩:=h;rw[e,b7,b7,RepAll.length h2]
theorem RepAll.get{H:Hp}:∀{ds:Z U} {xs:Z V} {i:Nat} {d:U},RepAll H ds xs->ds[i]?=some d->∃x,xs[i]?=some x/\Rep H d x
 | [],_,_,_,_,e=>by simp at e
 | d::ds,xs,0,d',h,e=>by obtain⟨x,r,e1,h1,_⟩:=h;subst e1;simp at e;subst e;exact⟨x,rfl,h1⟩
 | d::ds,xs,i+1,d',h,e=>by obtain⟨x,r,e1,_,h2⟩:=h;subst e1;obtain⟨y,h3,h4⟩:=RepAll.get (i:=i) h2 (by simpa using e);exact⟨y,by simpa using h3,h4⟩
theorem RepAll.at{H:Hp}{ds:Z U}{xs:Z V}{i:Nat}{x:V}(h:RepAll H ds xs)(e:xs[i]?=some x):∃d,ds[i]?=some d/\Rep H d x:=by
 have hi:i<xs.length:=(aj.mp e).1;have eW:i<ds.length:=by rw[<-h.length];exact hi
 obtain⟨y,h1,h2⟩:=h.get<|ah eW;rw[e]at h1;cases h1;exact⟨_,ah eW,h2⟩
theorem RepAll.append{H:Hp}:∀{ds es:Z U} {xs ys:Z V},RepAll H ds xs->RepAll H es ys->RepAll H (ds++es) (xs++ys)
 | [],es,xs,ys,h,h'=>by have e:xs=[]:=h;rw[e];exact h'
 | d::ds,es,xs,ys,h,h'=>by obtain⟨x,r,e,h1,h2⟩:=h;subst e;exact(l8 x (r++ys) ⟨rfl,h1,RepAll.append h2 h'⟩)
def RepAll.snoc{H:Hp}{ds:Z U}{d:U}{xs:Z V}{x:V}(h:RepAll H ds xs)(h':Rep H d x):RepAll H (ds++[d]) (xs++[x]):=h.append<|l8 x ([]) ⟨rfl,h',rfl⟩
theorem RepAll.drop{H:Hp}:∀{ds:Z U} {xs:Z V} (n:Nat),RepAll H ds xs->RepAll H (ds.drop n) (xs.drop n)
 | _,_,0,h=>h
 | [],xs,n+1,h=>by have e:xs=[]:=h;rw[e];rfl
 | d::ds,xs,n+1,h=>by obtain⟨x,r,e,_,h2⟩:=h;subst e;exact RepAll.drop n h2
theorem RepAll.take{H:Hp}:∀{ds:Z U} {xs:Z V} (n:Nat),RepAll H ds xs->RepAll H (ds.take n) (xs.take n)
 | _,_,0,_=>rfl
 | [],xs,n+1,h=>by have e:xs=[]:=h;rw[e];rfl
 | d::ds,xs,n+1,h=>by obtain⟨x,r,e,h1,h2⟩:=h;subst e;exact(l8 x (r.take n) ⟨rfl,h1,RepAll.take n h2⟩)
mutual
theorem Rep.lay{H:Hp}:∀{d:U} {v:V},Rep H d v->d.canLay0=true
 | .none,_,_=>rfl
 | .bool _,_,_=>rfl
 | .int _,_,_=>rfl
 | .str _,_,h=>h.2
 | .tuple ds,_,h=>by obtain⟨_,_,_,_,r⟩:=h;exact RepAll.lay r
 | .list ds,_,h=>by obtain⟨_,_,_,_,r⟩:=h;exact RepAll.lay r
 | .dict _,_,h=>h.elim
theorem RepAll.lay{H:Hp}:∀{ds:Z U} {xs:Z V},RepAll H ds xs->ik ds=true
 | [],_,_=>rfl
 | d::ds,_,h=>by obtain⟨x,r,e,h1,h2⟩:=h;show(d.canLay0&&ik ds)=true;rw[Rep.lay h1,RepAll.lay h2];rfl
end
section
variable{X:Cx}{aC:Z (aF×Obj)}{σ:L2.St}{H:Hp}{s:aB}
mutual
theorem Rep.reads(I:Inv X aC σ H s):∀{d:U} {v:V} {u:aA},Rep H d v->RelV v u->∃as,Reads s.heap u d as
 | .none,v,u,h,r=>by cases (show v=.non from h);cases (show u=aA.none from r);exact⟨_,.none⟩
 | .bool b,v,u,h,r=>by cases (show v=.bl b from h);cases (show u=aA.bool b from r);exact⟨_,.bool b⟩
 | .int i,v,u,h,r=>by cases (show v=.int i from h);obtain⟨t,e⟩:=(show ∃t,u=aA.int i t from r);cases e;exact⟨_,.int i t⟩
 | .str x,v,u,h,r=>by cases (show v=.str x from h.1);obtain⟨t,e⟩:=(show ∃t,u=aA.str x t from r);cases e;exact⟨_,.str x t⟩
 | .tuple ds,v,u,h,r=>by obtain⟨a,xs,e,ha,q⟩:=h;subst e;cases (show u=aA.ref a from r);obtain⟨its,rv,⟨o,e1,e2,n,e3⟩,_⟩:=I.tuple<|SqT.of (K:=X.K) ha;obtain⟨as,z⟩:=RepAll.reads I q rv;exact⟨as,.tuple e1 e2 e3 z⟩
 | .list ds,v,u,h,r=>by obtain⟨a,xs,e,ha,q⟩:=h;subst e;cases (show u=aA.ref a from r);obtain⟨its,rv,⟨o,n,e1,e2,_,e3⟩,_⟩:=I.list<|SqL.of (K:=X.K) ha;obtain⟨as,z⟩:=RepAll.reads I q rv;exact⟨_,.list e1 e2 e3 z⟩
 | .dict _,_,_,h,_=>h.elim
theorem RepAll.reads(I:Inv X aC σ H s):∀{ds:Z U} {xs:Z V} {us:Z aA},RepAll H ds xs->Vals xs us->∃as,ReadsAll s.heap us ds as
 | [],xs,us,h,r=>by cases (show xs=[]from h);cases r;exact⟨_,.nil⟩
 | d::ds,xs,us,h,r=>by
  obtain⟨x,t,e,h1,h2⟩:=h;subst e;cases r with
  | cons r1 r2=>
   obtain⟨as,z1⟩:=Rep.reads I h1 r1;obtain⟨bs,z2⟩:=RepAll.reads I h2 r2;exact⟨_,.cons z1 z2⟩
end
end
section
variable{X:Cx}
def ayg(neg:Bool):R2:=λx y H Q=>∃d p xs ds,Rep H d x/\y=.ref p/\(H p=some (.lst xs)\/H p=some (.tup xs))/\RepAll H ds xs/\d.depth<=60/\
 Q (.bl (if neg then !(ds.any λe=>bo e d)else ds.any λe=>bo e d)) H
def Jq(hu:X.A.units+64<bH):OpR X (aU .In) (ayg false):=by
 intro aC s σ H x y v u Q I rx ry h;obtain⟨d,p,xs,ds,hx,rfl,hp,dJ,hd,q⟩:=h;cases ry;obtain⟨bs,r2⟩:=hx.reads I rx;have kP:X.A.units+1+hX (ca ds) d.depth<bH:=by have:=Nat.min_le_right (ca ds) d.depth;lia
 rcases hp with hp|hp
 .obtain⟨as,r1⟩:=Rep.reads I (d:=.list ds) (v:=.ref p) (u:=.ref p) (l8 p xs ⟨rfl,hp,dJ⟩) rfl;exact SeqAt.in_list_reads r1 r2 dJ.lay hx.lay kP<|l8 (.bl _) H ⟨I,rfl,q⟩
 .obtain⟨as,r1⟩:=Rep.reads I (d:=.tuple ds) (v:=.ref p) (u:=.ref p) (l8 p xs ⟨rfl,hp,dJ⟩) rfl;exact SeqAt.in_tuple_reads r1 r2 dJ.lay hx.lay kP<|l8 (.bl _) H ⟨I,rfl,q⟩
def zw(hu:X.A.units+64<bH):OpR X (aU .NotIn) (ayg true):=by
 intro aC s σ H x y v u Q I rx ry h;obtain⟨d,p,xs,ds,hx,rfl,hp,dJ,hd,q⟩:=h;cases ry;obtain⟨bs,r2⟩:=hx.reads I rx;have kP:X.A.units+1+hX (ca ds) d.depth<bH:=by have:=Nat.min_le_right (ca ds) d.depth;lia
 rcases hp with hp|hp
 .obtain⟨as,r1⟩:=Rep.reads I (d:=.list ds) (v:=.ref p) (u:=.ref p) (l8 p xs ⟨rfl,hp,dJ⟩) rfl;exact SeqAt.notIn_list_reads r1 r2 dJ.lay hx.lay kP<|l8 (.bl _) H ⟨I,rfl,q⟩
 .obtain⟨as,r1⟩:=Rep.reads I (d:=.tuple ds) (v:=.ref p) (u:=.ref p) (l8 p xs ⟨rfl,hp,dJ⟩) rfl;exact SeqAt.notIn_tuple_reads r1 r2 dJ.lay hx.lay kP<|l8 (.bl _) H ⟨I,rfl,q⟩
def aaf:tz X (.builtin "isinstance") (λxs H Q=>∃x T t b,xs=[x,.ty T]/\pG X.K H x t/\PySem.W.kitOne X.K t (.type T)=some b/\Q (.bl b) H):=by intro aC s σ H xs us Q I r h;obtain⟨x,T,t,b,rfl,ty,e,q⟩:=h;obtain⟨u,w',rfl,r1,r2⟩:=asu r;cases (show w'=aA.type T from r2);exact aj1 I r1 ty e λtk=>(l8 (.bl b) H ⟨I.tok _,rfl,q⟩)
end
noncomputable def IC:U->U->Bool
 | .int a,.int b=>decide (a<b)
 | .str a,.str b=>decide (a.cps.toList<b.cps.toList)
 | _,_=>false
noncomputable def pk:Z U->Z U->Bool
 | [],[]=>false
 | [],_::_=>true
 | _::_,[]=>false
 | x::xs,y::ys=>if bo x y=true then pk xs ys else IC x y
def Row:Z Bool->Z U->Prop
 | [],ds=>ds=[]
 | true::ks,ds=>∃i r,ds=.int i::r/\Row ks r
 | false::ks,ds=>∃x r,ds=.str x::r/\Row ks r
noncomputable def sn:U->Z U
 | .tuple ds=>ds
 | _=>[]
noncomputable def sR(ds:Z U)(i j:Nat):Bool:=pk (sn<|ds.getD i .none)<|sn<|ds.getD j .none
noncomputable def ub(ds:Z U):Z U:=(srt (sR ds) ds.length).map λi=>ds.getD i .none
section
variable{prog:aK}{w:aP}{A:Around}{E:aA->aB->Prop}{s:aB}{Q:Bool->aB->Prop}
theorem Kc:∀{ks:Z Bool} {xs ys:Z U} {us vs:Z aA} {as bs:Z aF} {i:Nat},Row ks xs->Row ks ys->ReadsAll s.heap us xs as->ReadsAll s.heap vs ys bs->Q (pk xs ys) s->
  PySem.W.KatLex prog w A true false Q (us.zip vs) i s
 | [],xs,ys,us,vs,as,bs,i,h1,h2,r1,r2,q=>by cases (show xs=[]from h1);cases (show ys=[]from h2);cases r1;cases r2;exact q
 | true::ks,xs,ys,us,vs,as,bs,i,h1,h2,r1,r2,q=>by
  obtain⟨a,xr,rfl,h1⟩:=h1;obtain⟨b,yr,rfl,h2⟩:=h2;cases r1 with
  | cons ra r1=>
   cases r2 with
   | cons rb r2=>
    cases ra with
    | int _ t=>
     cases rb with
     | int _ u=>
      rw[List.zip_cons_cons];refine PySem.W.kat_cons<|SeqAt.EqAt.int_int a t b u prog w _ _ ?_;have q':Q (if bo (.int a) (.int b)=true then pk xr yr else IC (.int a) (.int b)) s:=q;have e:bo (.int a) (.int b)=(a==b):=rfl;rw[e]at q';cases hb:(a==b)with
      | true=>rw[hb,if_pos rfl]at q';exact PySem.W.kat_yes (Kc h1 h2 r1 r2 q')
      | false=>
       rw[hb,if_neg aq]at q';refine PySem.W.kat_no ?_;cases hi:(i==0)with
       | true=>exact oneLt_int q'
       | false=>exact PySem.W.kat_one _ _ (lt_int q')
 | false::ks,xs,ys,us,vs,as,bs,i,h1,h2,r1,r2,q=>by
  obtain⟨a,xr,rfl,h1⟩:=h1;obtain⟨b,yr,rfl,h2⟩:=h2;cases r1 with
  | cons ra r1=>
   cases r2 with
   | cons rb r2=>
    cases ra with
    | str _ t=>
     cases rb with
     | str _ u=>
      rw[List.zip_cons_cons];refine PySem.W.kat_cons<|SeqAt.EqAt.str_str a t b u prog w _ _ ?_;have q':Q (if bo (.str a) (.str b)=true then pk xr yr else IC (.str a) (.str b)) s:=q;have e:bo (.str a) (.str b)=(a==b):=rfl;rw[e]at q';cases hb:(a==b)with
      | true=>rw[hb,if_pos rfl]at q';exact PySem.W.kat_yes (Kc h1 h2 r1 r2 q')
      | false=>
       rw[hb,if_neg aq]at q';refine PySem.W.kat_no ?_;cases hi:(i==0)with
       | true=>exact oneLt_str q'
       | false=>exact PySem.W.kat_one _ _<|PyProof.Rows.lt_str q'
end
theorem Row.len{ks:Z Bool}:∀{ds:Z U},Row ks ds->ds.length=ks.length:=by
 induction ks with
 | nil=>intro ds h;cases (show ds=[]from h);rfl
 | cons k ks ih=>
  intro ds h;cases k with
  | true=>obtain⟨i,r,rfl,h⟩:=h;rw[b7,b7,ih h]
  | false=>obtain⟨i,r,rfl,h⟩:=h;rw[b7,b7,ih h]
def Rows(ks:Z Bool)(ds:Z U):Prop:=∀d∈ds,∃r,d=.tuple r/\Row (true::ks) r
section
variable{X:Cx}
theorem ao7(I:Inv X aC σ H s){ks:Z Bool}{d:U}{v:V}{u:aA}(h:Rep H d v)(r:RelV v u){row:Z U}(e:d=.tuple row)(hr:Row (true::ks) row) :
  ∃a o vs n as i t,u=.ref a/\s.heap.get? a=some o/\o.cls=.type "tuple"/\o.data=.seq vs n/\ReadsAll s.heap vs.toList row as/\vs[0]?=some (.int i t):=by
 subst e;obtain⟨as,z⟩:=h.reads I r;cases z with
 | @tuple a o vs n _ _ e1 e2 e3 z=>
  obtain⟨i,rr,rfl,_⟩:=hr;have z':=z;generalize hv:vs.toList=vl at z;cases z with
  | cons ra rb=>
   cases ra with
   | int _ t=>
    refine(lw a o vs n _<|l8 i t ⟨rfl,e1,e2,e3,z',?_⟩);rw[<-bj,hv];rfl
theorem ahq(I:Inv X aC σ H s){ks:Z Bool}:∀{ds:Z U} {xs:Z V} {us:Z aA},RepAll H ds xs->Vals xs us->Rows ks ds->∃fs:Z aA,PySem.W.KatTups s.heap us fs/\fs.length=ds.length/\∀v∈fs,∃i t,v=aA.int i t
 | [],xs,us,h,r,_=>by cases (show xs=[]from h);cases r;exact⟨[],trivial,rfl,λv hv=>by cases hv⟩
 | d::ds,xs,us,h,r,hr=>by
  obtain⟨x,t,e,h1,h2⟩:=h;subst e;cases r with
  | cons r1 r2=>
   obtain⟨row,e,tL⟩:=hr d ao;obtain⟨a,o,vs,n,as,i,tk,rfl,e1,e2,e3,_,e4⟩:=ao7 I h1 r1 e tL;obtain⟨fs,k1,k2,k3⟩:=ahq I h2 r2 λd hd=>hr d<|au _ hd;refine⟨.int i tk::fs,PySem.W.KatTups.cons e1 e2 e3 e4 k1,by rw[b7,b7,k2],λv hv=>?_⟩;rcases ax.mp hv with rfl|hv
   .exact(l8 i tk rfl)
   .exact k3 v hv
theorem KatTups.keeps{h h':Heap}(k:∀b o,h.get? b=some o->h'.get? b=some o):∀{vs fs:Z aA},PySem.W.KatTups h vs fs->PySem.W.KatTups h' vs fs
 | [],[],_=>trivial
 | v::vs,f::fs,x=>by obtain⟨⟨a,o,xs,n,e,e1,e2⟩,r⟩:=x;exact⟨(mf a o xs n ⟨e,k _ _ e1,e2⟩),KatTups.keeps k r⟩
 | [],_::_,x=>x.elim
 | _::_,[],x=>x.elim
end
end L3
namespace L3
open PySem PySem.Spec PyProof.Rows
def ak5(a v:aA):Ag "max" ⟨[a],[(bh "default",v)]⟩:=by unfold Ag;kernel_rfl
section
variable{prog:aK}{w:aP}{A:Around}{E:aA->aB->Prop}{s:aB}
def ajy{l:aF}{vs:Z aA}{ns:Z Int}{Q:aA->aB->Prop}(hh:A.handled=none)(hl:s.heap.IsList l vs.toArray)(hi:gH vs ns)(gW:0<ns.length)
  (h:∀h' M (t:sV) tk,(∀b o,s.heap.get? b=some o->h'.get? b=some o)->M∈ns->(∀a,a∈ns->M<=a)->Q (.int M t) {s with heap:=h',toks:=tk}) :
  aG (aH prog w) A (call (.builtin "min") [.ref l]) Q E s:=by
 obtain⟨xs,e⟩:=hi.allInts.items;have oC:ns=xs.toList.map (·.1):=by rw[<-hi.numsOf,<-nums_intItems,<-e]
 have hsz:0<xs.size:=by have h3:=gW;rw[oC,ae,a8]at h3;exact h3
 rw[e]at hl;refine min_intList hh hl hsz λv h' tk hv hk=>?_;obtain⟨t,rfl⟩:=uY hv;obtain⟨h1,h2⟩:=argBest_lt (numAt xs)<|xs.size-1;refine h _ _ t tk hk ?_ λa ha=>?_
 .rw[oC,uW];exact getD_mem<|by rw[ae,a8];omega
 .rw[oC]at ha;obtain⟨j,hj,rfl⟩:=mem_getD ha;rw[ae,a8]at hj;rw[<-uW];exact h2 j<|by omega
end
end L3
namespace L3
open PySem PySem.Spec PyProof.Rows L2
noncomputable def nr:Expr->Bool
 | .Starred _ _=>false
 | _=>true
def oq{e:Expr}{es:Z Expr}{env:qA}(h:nr e=true):aT (e::es) env=(false,bT e env)::aT es env:=by cases e<;>first|rfl|exact absurd h aq
theorem sf{pos:dU}{env:qA}:∀{es:Z Expr},es.all nr=true->(dE pos<|aT es env).any (·.1)=false
 | [],_=>rfl
 | e::es,h=>by rw[List.all_cons,gp]at h;rw[oq h.1];show(false||(dE pos<|aT es env).any (·.1))=false;rw[sf h.2];rfl
def lj{X:Cx}{e:Expr}{es:Z Expr}{te:TE}{t:TA}(ha:PE X e te)(hr:PA X es t)(h:nr e=true:=by rfl):PA X (e::es) (vf te t):=aqm ha hr<|oq h
def axk{X:Cx}{x:Str}{p pos:dU}{e:Expr}{es:Z Expr}{t:TA}{id:String}{r:Z V->Hp->VK->Prop}(hc:tz X (.builtin id) r)(hg:Gl X x)(hm:X.mg x=none)(hv:bO x=some (.builtin id))(ha:PA X (e::es) t)
  (hn:x≠"__name__":=by decide) (lX:(x==("__debug__" : Str))=false:=by decide) (h1:nr e=true:=by rfl) (h2:es.all nr=true:=by rfl):PE X (.Call (.Name x p) (e::es) [] pos) (tCB r t):=
 an3 hc hg hm hv ha hn lX (oq h1) (sf h2)
def aw4{X:Cx}{x:Str}{p pos:dU}{e:Expr}{es:Z Expr}{t:TA}{T:String}{r:Z V->Hp->VK->Prop}(hc:tz X (.type T) r)(hg:Gl X x)(hm:X.mg x=none)(hv:bO x=some (.type T))(ha:PA X (e::es) t)
  (hn:x≠"__name__":=by decide) (lX:(x==("__debug__" : Str))=false:=by decide) (h1:nr e=true:=by rfl) (h2:es.all nr=true:=by rfl):PE X (.Call (.Name x p) (e::es) [] pos) (tCB r t):=
 alj hc hg hm hv ha hn lX (oq h1) (sf h2)
def awy{X:Cx}{tg a:Expr}{ta:TA}{p pos:dU}(hg:Gl X "range")(hm:X.mg "range" = none)(ha:PA X [a] ta)(h:nr a=true:=by rfl):PI X tg (.Call (.Name "range" p) [a] [] pos) (IT ta):=
 al5 hg hm ha (oq h)
def Fn(P:aK)(w:aP)(K:av)(mg:Str->Option aA)(base:Heap)(x:Str)(k:Nat)(ps:Z Str)(sp:Sp):Prop:=
 ∃f fd,qm P w K mg base CX0 k f fd ps sp/\mg x=some (.ref f)/\kq K (.ref f)=true/\Binds K fd ps []
section
variable{X:Cx}{k j:Nat}{ps:Z Str}{sp:Sp}{x:Str}{p pos qN:dU}{e e2:Expr}{es:Z Expr}{t tk:TA}{te:TE}
def axo(F:Fn X.prog X.w X.K X.mg X.base x k ps sp)(hr:Room j X.A)(hk:k<=j)(hg:Gl X x)
  (ha:PA X (e::es) t) (lX:(x==("__debug__" : Str))=false:=by decide) (h1:nr e=true:=by rfl) (h2:es.all nr=true:=by rfl) :
  PE X (.Call (.Name x p) (e::es) [] pos) (IR sp [] E0 t):=by
 obtain⟨f,fd,F,m,kp,b⟩:=F;exact apy F (hr.mono hk) hg m kp b .nil aud ha lX (oq h1)<|sf h2
def ayu:Z V->Hp->VK->Prop:=λxs H Q=>∃q,∃ns:Z Int,xs=[.ref q]/\H q=some (.lst<|ns.map V.int)/\0<ns.length/\∀M,M∈ns->(∀a∈ns,M<=a)->Q (.int M) H
def zt(hc:X.calm=true):tz X (.builtin "min") ayu:=by intro aC s σ H xs us Q I r h;obtain⟨q,ns,rfl,hq,hn,h⟩:=h;obtain⟨u,rfl,r1⟩:=wm r;cases (show u=aA.ref q from r1);obtain⟨its,rv,pl,hz⟩:=I.list<|SqL.of (K:=X.K) hq;exact ajy (I.ok.hd hc) pl.isList (abw rv) hn λh' M t tk k h1 h2=>(l8 (.int M) H ⟨I.kept k,⟨_,rfl⟩,h M h1 h2⟩)
end
def ph{X:Cx}{N:Z Str}{scope:cW}{z:CZ}{es:Z Expr}{k:Nat}{pos:dU}{t:TGs}{n:Nat}(hc:X.calm=true)(h:PGs (nc X N scope z) es t)
  (hn:(dM es (nc X N scope z).env).length=n:=by rfl) (hst:(dM es (nc X N scope z).env).findIdx? (·.1)=none:=by rfl):PG (nc X N scope z) (.Tuple es k pos) (Cj X.K n t):=
 si (X:=nc X N scope z) hc h hn hst
section
variable{X:Cx}{N:Z Str}{scope:cW}{z:CZ}
def xk:IxR (nc X N scope z) (Is X.K):=nh (X:=nc X N scope z)
def anh:IxR (nc X N scope z) (ayc X.K):=mx (X:=nc X N scope z)
def ac9:tz (nc X N scope z) (.builtin "len") (λxs H Q=>∃p ys,xs=[.ref p]/\(SqL X.K H p ys\/SqT X.K H p ys)/\Q (.int ys.length) H):=m8 (X:=nc X N scope z)
end
section
variable{K:av}{a D:aF}{xs:Z V}{sl:Z (Option Nat)}{g:TG}{tt:TT}{te:TE}{σ:L2.St}{H1:Hp}{Q:VK}
def Nx(D:aF)(i:Nat)(Pv:Nat->Z V->Hp->Prop):Hp->Prop:=λH'=>∃ys,H' D=some (.lst ys)/\ys.length<=i+1/\Pv (i+1) ys H'
def p9{i:Nat}{Pv:Nat->Z V->Hp->Prop}{H:Hp}{ys:Z V}{y:V}(hi:i<1000)(hD:H D=some (.lst ys))(hl:ys.length<=i)(h:Pv (i+1) (ys++[y]) (upd H D<|.lst<|ys++[y])) :
  ∃xs,H D=some (.lst xs)/\xs.length<aE/\Nx D i Pv (upd H D<|.lst<|xs++[y]):=
 (np ys hD (mm<|by lia) (ys++[y]) ⟨l9,by rw[be,fq];lia,h⟩)
def E8(J:It)(n:Nat)(Pv:Nat->Z V->Hp->Prop)(h0:Pv 0 [] (upd H1 D<|.lst []))
  (zU:∀i ys H,i<n->Pv i ys H->J.go i H) (hst:∀ys H,Pv n ys H->J.stop n H)
  (hs:∀i x ys H H',i<n->J.yld i H x H'->H D=some (.lst ys)->ys.length<=i->Pv i ys H->g x (qt sl σ) H' λσ2 H2=>Agree (qt sl σ) σ2/\tt σ2 H2 λb H3=>
   if b=true then te σ2 H3 λy H4=>∃xs,H4 D=some (.lst xs)/\xs.length<aE/\Nx D i Pv (upd H4 D<|.lst<|xs++[y])else Nx D i Pv H3)
  (hd:∀ys H,H D=some (.lst ys)->ys.length<=n->Pv n ys H->Q (.ref D) H):uJ J sl g tt te σ H1 D Q:=by
 refine⟨λi m H=>m=n-i/\i<=n/\∃ys,H D=some (.lst ys)/\ys.length<=i/\Pv i ys H,(np n (by simp) (fj _) ([]) ⟨l9,am _,h0⟩),?_⟩;rintro i m H ⟨rfl,hi,ys,hy,hl,p⟩;by_cases bQ:i<n
 .refine .inr ⟨zU i ys H bQ p,Nx D i Pv,λH' ⟨Da,e1,e2,e3⟩=>⟨n-(i+1),by lia,rfl,bQ,Da,e1,e2,e3⟩,λx H' y=>hs i x ys H H' bQ y hy hl p⟩
 .have e:i=n:=by lia
  subst e;exact .inl ⟨hst ys H p,hd ys H hy hl p⟩
def pw(Pv:Nat->Z V->Hp->Prop)(h0:Pv 0 [] (upd H1 D<|.lst []))(hl:∀i ys H,Pv i ys H->SqL K H a xs)
  (hs:∀i x ys H,xs[i]?=some x->i<xs.length->H D=some (.lst ys)->ys.length<=i->Pv i ys H->g x (qt sl σ) H λσ2 H2=>Agree (qt sl σ) σ2/\tt σ2 H2 λb H3=>
   if b=true then te σ2 H3 λy H4=>∃xs,H4 D=some (.lst xs)/\xs.length<aE/\Nx D i Pv (upd H4 D<|.lst<|xs++[y])else Nx D i Pv H3)
  (hd:∀ys H,H D=some (.lst ys)->ys.length<=xs.length->Pv xs.length ys H->Q (.ref D) H):uJ (Itl K a) sl g tt te σ H1 D Q:=by
 refine E8 (Itl K a) xs.length Pv h0 (λi ys H hi p=>(l8 xs (xs[i]) ⟨hl i ys H p,by simp[hi]⟩)) (λys H p=>⟨xs,hl _ ys H p,am _⟩) (λi x ys H H' hi y hD gT p=>?_) hd;obtain⟨e,y⟩:=y;subst e;exact hs i x ys _ (y xs<|hl i ys _ p) hi hD gT p
def tf(Pv:Nat->Z V->Hp->Prop)(h0:Pv 0 [] (upd H1 D<|.lst []))(hl:∀i ys H,Pv i ys H->SqT K H a xs)
  (hs:∀i x ys H,xs[i]?=some x->i<xs.length->H D=some (.lst ys)->ys.length<=i->Pv i ys H->g x (qt sl σ) H λσ2 H2=>Agree (qt sl σ) σ2/\tt σ2 H2 λb H3=>
   if b=true then te σ2 H3 λy H4=>∃xs,H4 D=some (.lst xs)/\xs.length<aE/\Nx D i Pv (upd H4 D<|.lst<|xs++[y])else Nx D i Pv H3)
  (hd:∀ys H,H D=some (.lst ys)->ys.length<=xs.length->Pv xs.length ys H->Q (.ref D) H):uJ (Itt K a) sl g tt te σ H1 D Q:=by
 refine E8 (Itt K a) xs.length Pv h0 (λi ys H hi p=>(l8 xs (xs[i]) ⟨hl i ys H p,by simp[hi]⟩)) (λys H p=>⟨xs,hl _ ys H p,am _⟩) (λi x ys H H' hi y hD gT p=>?_) hd;obtain⟨e,y⟩:=y;subst e;exact hs i x ys _ (y xs<|hl i ys _ p) hi hD gT p
def aby{lo:Int}{n:Nat}(Pv:Nat->Z V->Hp->Prop)(h0:Pv 0 [] (upd H1 D<|.lst []))
  (hs:∀i ys H,i<n->H D=some (.lst ys)->ys.length<=i->Pv i ys H->g (.int<|lo+i) (qt sl σ) H λσ2 H2=>Agree (qt sl σ) σ2/\tt σ2 H2 λb H3=>
   if b=true then te σ2 H3 λy H4=>∃xs,H4 D=some (.lst xs)/\xs.length<aE/\Nx D i Pv (upd H4 D<|.lst<|xs++[y])else Nx D i Pv H3)
  (hd:∀ys H,H D=some (.lst ys)->ys.length<=n->Pv n ys H->Q (.ref D) H):uJ (Itr lo n) sl g tt te σ H1 D Q:=by
 refine E8 (Itr lo n) n Pv h0 (λi ys H hi p=>hi) (λys H p=>am _) (λi x ys H H' hi y hD gT p=>?_) hd;obtain⟨e,e2⟩:=y;subst e e2;exact hs i ys _ hi hD gT p
end
def Ex(W:Z aF)(H H':Hp):Prop:=∀b o,b∉W->H b=some o->H' b=some o
def Ex.refl(W:Z aF)(H:Hp):Ex W H H:=λ_ _ _ h=>h
def Ex.trans{W:Z aF}{H H1 H2:Hp}(a:Ex W H H1)(b:Ex W H1 H2):Ex W H H2:=λc o hc h=>b c o hc<|a c o hc h
def Ex.of_same{W:Z aF}{H H':Hp}(a:Same H H'):Ex W H H':=λc o _ h=>a c o h
def Ex.fresh{W:Z aF}{H:Hp}{p:aF}{o:HO}(h:H p=none):Ex W H (upd H p o):=λb u _ q=>by rw[ma (ou q h)];exact q
theorem Ex.upd{W:Z aF}{H:Hp}{p:aF}{o:HO}(h:p∈W):Ex W H (upd H p o):=λb u hb q=>by rw[ma (show b≠p from λe=>hb<|by rw[e];exact h)];exact q
def Ex.new{W:Z aF}{H H':Hp}{p:aF}{o:HO}(a:Ex W H H')(h:H p=none):Ex W H (L2.upd H' p o):=λb u hb q=>by rw[ma (ou q h)];exact a b u hb q
def Ex.tk{W:Z aF}{H H':Hp}(a:Ex W H H')(h:∀b∈W,∃xs,H b=some (.lst xs)):Tk H H':=λb xs q=>a b _ (λhb=>by obtain⟨ys,e⟩:=h b hb;rw[q]at e;cases e) q
def Ex.one{st:aF}{H H':Hp}{xs:Z V}(a:Ex [st] H H')(h:H st=some (.lst xs)):Tk H H':=a.tk λb hb=>⟨xs,by rw[ar.mp hb];exact h⟩
def Ex.at{st:aF}{H H':Hp}{b:aF}{o:HO}(a:Ex [st] H H')(hb:b≠st)(h:H b=some o):H' b=some o:=a b o (by simpa using hb) h
def _root_.L2.Same.new{H H':Hp}{p:aF}{o:HO}(a:Same H H')(h:H p=none):Same H (upd H' p o):=λb u q=>by rw[ma (ou q h)];exact a b u q
def _root_.L2.Same.fresh{H:Hp}{p:aF}(o:HO)(h:H p=none):Same H (upd H p o):=(Same.refl H).new h
def Cells(cs:Z U):Prop:=∀d∈cs,∃r c:Int,d=.tuple [.int r,.int c]
def Spots(ds:Z U):Prop:=∀d∈ds,∃(r c:Int)(x:Str),d=.tuple [.int r,.int c,.str x]
theorem qj:∀{ds:Z U},(∀d∈ds,imm d=true)->o9 ds=true
 | [],_=>rfl
 | d::ds,h=>by show(imm d&&o9 ds)=true;rw[h d ao,qj λe he=>h e<|au _ he];rfl
def Cells.imm{cs:Z U}(h:Cells cs):o9 cs=true:=qj λd hd=>by obtain⟨r,c,rfl⟩:=h d hd;rfl
def Spots.imm{ds:Z U}(h:Spots ds):o9 ds=true:=qj λd hd=>by obtain⟨r,c,x,rfl⟩:=h d hd;rfl
def ane{H:Hp}{r c:Int}{v:V}(h:Rep H (.tuple [.int r,.int c]) v):∃a,v=.ref a/\H a=some (.tup [.int r,.int c]):=by obtain⟨a,xs,e,ha,x1,r1,e1,h1,x2,r2,e2,h2,e3⟩:=h;cases (show x1=.int r from h1);cases (show x2=.int c from h2);cases (show r2=[]from e3);subst e1 e2;exact⟨a,e,ha⟩
def u6{H:Hp}{r c:Int}{x:Str}{v:V}(h:Rep H (.tuple [.int r,.int c,.str x]) v):∃a,v=.ref a/\H a=some (.tup [.int r,.int c,.str x])/\k9 x=true:=by obtain⟨a,xs,e,ha,x1,r1,e1,h1,x2,r2,e2,h2,x3,r3,e3,h3,e4⟩:=h;cases (show x1=.int r from h1);cases (show x2=.int c from h2);cases (show x3=.str x from h3.1);cases (show r3=[]from e4);subst e1 e2 e3;exact⟨a,e,ha,h3.2⟩
def qp{H:Hp}{a:aF}{r c:Int}(h:H a=some (.tup [.int r,.int c])):Rep H (.tuple [.int r,.int c]) (.ref a):=(mq a _ rfl h _ _ rfl rfl _ ⟨_,rfl,rfl,rfl⟩)
def v0{H:Hp}{a:aF}{r c:Int}{x:Str}(h:H a=some (.tup [.int r,.int c,.str x]))(hx:k9 x=true):Rep H (.tuple [.int r,.int c,.str x]) (.ref a):=
 (mq a _ rfl h _ _ rfl rfl _<|np _ rfl rfl _ ⟨_,rfl,⟨rfl,hx⟩,rfl⟩)
theorem Spots.at{H:Hp}{ds:Z U}{xs:Z V}{i:Nat}{v:V}(h:Spots ds)(r:RepAll H ds xs)(e:xs[i]?=some v) :
  ∃(a:aF)(p q:Int)(x:Str),v=.ref a/\H a=some (.tup [.int p,.int q,.str x])/\k9 x=true/\ds[i]?=some (.tuple [.int p,.int q,.str x]):=by
 obtain⟨d,e1,e2⟩:=r.at e;obtain⟨p,q,x,rfl⟩:=h d<|ak e1;obtain⟨a,e3,e4,e5⟩:=u6 e2;exact(mf a p q x ⟨e3,e4,e5,e1⟩)
noncomputable def qw:U->Int
 | .tuple (.int r::_)=>r
 | _=>0
noncomputable def qu:U->Int
 | .tuple (_::.int c::_)=>c
 | _=>0
noncomputable def qx:Z Int->Int
 | []=>0
 | [a]=>a
 | a::b::r=>if a<=qx (b::r)then a else qx (b::r)
theorem rj:∀{ns:Z Int},0<ns.length->qx ns∈ns
 | [],h=>by simp at h
 | [a],_=>by simp[qx]
 | a::b::r,_=>by
  unfold qx;split
  .exact ao
  .exact au _<|rj<|by simp
theorem vm:∀{ns:Z Int},∀a∈ns,qx ns<=a
 | [],a,h=>by cases h
 | [a],b,h=>by
  have e:b=a:=by simpa using h
  rw[e];exact jm _
 | a::b::r,x,h=>by
  unfold qx;rcases ax.mp h with e|h
  .rw[e];split
   .exact jm _
   .lia
  .have:=vm (ns:=b::r) x h;split
   .lia
   .exact this
def vi{ns:Z Int}{M:Int}(h1:M∈ns)(h2:∀a∈ns,M<=a):M=qx ns:=by have hp:0<ns.length:=List.length_pos_of_mem h1;have a1:=h2 _<|rj hp;have a2:=vm M h1;lia
noncomputable def ym(t l:Int):U->U
 | .tuple [.int r,.int c,.str x]=>.tuple [.int (r-t),.int<|c-l,.str x]
 | d=>d
noncomputable def nw(ds:Z U):Z U:=ds.map<|ym (qx<|ds.map qw)<|qx<|ds.map qu
section
variable{K:av}{a:aF}{xs:Z V}{ds:Z U}{σ:L2.St}{H:Hp}{Q:VK}
def mn{α β:Type}(f:α->β){l:List α}{i:Nat}{x:α}(h:l[i]?=some x):(l.take<|i+1).map f=(l.take i).map f++[f x]:=by rw[List.take_add_one,h];simp
end
section
variable{X:Cx}{x:Str}{pos:dU}
def zk{z:Str}(h:∃t,X.mg x=some (.str z t))(hg:Gl X x)(hd:(x==("__debug__" : Str))=false:=by decide):PE X (.Name x pos) (tC<|.str z):=by obtain⟨t,h⟩:=h;exact ak6 hg h ⟨t,rfl⟩ hd
end
section
variable{X:Cx}
def xf:OpR X (aU .LtE) (λx y H Q=>∃i j,x=.str i/\y=.str j/\Q (.bl<|!decide (j.cps.toList<i.cps.toList)) H):=by intro aC s σ H x y v u Q I rx ry h;obtain⟨i,j,rfl,rfl,q⟩:=h;obtain⟨t,rfl⟩:=rx;obtain⟨t',rfl⟩:=ry;exact PySem.P.le_str<|l8 (.bl _) H ⟨I,rfl,q⟩
def ay8:Z V->Hp->VK->Prop:=λxs H Q=>∃(p:aF)(bs:Z Bool),xs=[.ref p]/\H p=some (.lst<|bs.map V.bl)/\Q (.bl<|bs.all id) H
def alz:∀(bs:Z Bool),((cp bs.length).all λi=>(bs[i]?).getD true)=bs.all id:=λbs=>by
 rw[jk,List.all_eq_true,List.all_eq_true];constructor
 .intro h b hb;obtain⟨i,hi,rfl⟩:=List.mem_iff_getElem.mp hb;have:=h i (by simpa using hi);simpa [hi]using this
 .intro h i hi;have eW:i<bs.length:=by simpa using hi
  have:=h bs[i] (ix eW);simpa [eW]using this
def amj(hc:X.calm=true):tz X (.builtin "all") ay8:=by
 intro aC s σ H xs us Q I r h;obtain⟨p,bs,rfl,hp,q⟩:=h;obtain⟨u,rfl,r1⟩:=wm r;cases (show u=aA.ref p from r1);obtain⟨its,rv,pl,hz⟩:=I.list<|SqL.of (K:=X.K) hp;have bQ:p<s.heap.objs.size:=by obtain⟨_,_,e,_⟩:=pl;exact bn e
 have bD:its.length=bs.length:=by rw[<-rv.length,ae]
 refine call_all_walk<|cY pl.isList ?_;refine⟨s.heap.objs.size,[s.heap.objs.size,p],[s.heap.objs.size],its.toArray.size,_,_,λi=>(bs[i]?).getD true,rfl,wF.list (A:=X.A.in1) (I.ok.hd hc) _ p (dw bQ) its.toArray,
  ⟨⟨_,a6 _ rfl,rfl,rfl⟩,pl.isList.push _⟩,λi v s' Q' E' hP hQ=>?_,λh' tk hk=>?_⟩
 .have hi:its[i]?=some v:=by simpa using hP
  have mW:i<bs.length:=by rw[<-bD];exact(aj.mp hi).1
  obtain⟨u',e1,e2⟩:=rv.get (i:=i) (x:=.bl bs[i]) (by rw[bz,ah mW];rfl);rw[hi]at e1;cases e1;cases (show v=aA.bool bs[i]from e2);have hQ2:Q' ((bs[i]?).getD true) s':=hQ;rw[ah mW]at hQ2;exact ii hQ2
 .refine(l8 (.bl _) H ⟨I.kept λb o e=>hk b o (λhm=>?_)<|ai _ e,rfl,?_⟩)
  .rw[ar.mp hm]at e;exact js _<|bn e
  .rw[a7,bD,alz];exact q
end
def Tx(z:Str):Prop:=z.length<=80/\∀c∈z.cps.toList,c<128
def Tx.ok{z:Str}(h:Tx z):k9 z=true:=by unfold k9;rw[Array.all_eq_true'];intro c hc;have:=h.2 c (by simpa using hc);simp only[decide_eq_true_eq];lia
noncomputable def sgB(c:Nat):Bool:=(c==35||c==46||c==44)||(decide (65<=c)&&decide (c<=90))||(decide (97<=c)&&decide (c<=122))
section
variable{prog:aK}{w:aP}{A:Around}{E:aA->aB->Prop}{s:aB}
def aoi{I a:aF}{k:Nat}{ys:Array aA}{v:aA}{R:aA->aB->Prop}(st:s.heap.IsTupleIter I a k)(tp:s.heap.IsTuple a ys)(hv:ys[k]?=some v)
  (q:∀g,g.IsTupleIter I a (k+1)->b9 I s.heap g->R v {s with heap:=g}):aG (aH prog w) A (bw<|.ref I) R E s:=by
 obtain⟨u,hu,uc,ud⟩:=id st;obtain⟨z,hz,_,nz,zd⟩:=tp;unfold bw;refine ab<|cg (name:=bh "__next__") st.typeIs F.slot_tuple_iterator_next<|cu F.slot_tuple_iterator_next st.typeIs F.entry_tuple_iterator_next ?_<|F.args_tuple_iterator_next_1 _;refine(ab (fg hu ud (x:=.ref a) rfl ?_):aG _ _ (fI (.ref I) 0 >>= _) _ _ s);refine(?_:aG _ _ (if (aA.ref a==aA.none)=true then _ else _) _ _ s);rw[if_neg (show ¬(aA.ref a==aA.none)=true from aq)];refine(ab (fg hu ud (x:=.int k 0) rfl ?_):aG _ _ (fI (.ref I) 1 >>= _) _ _ s);refine(ab (gj hz zd ?_):aG _ _ (fQ (.ref a) >>= _) _ _ s);simp only[ci,hv];refine ab<|ip hu ud (by simp)<|af ⟨v,rfl,af<|q _ ⟨_,cr _ hu<|Obj.isFreed_of_fields<|k7 ud _,?_,?_⟩<|du ..⟩
 .exact(Obj.cls_mapFields ..).trans uc
 .rw[k7 ud];simp[cE]
def as6{I:aF}{z:Str}{t:sV}{k c:Nat}{R:aA->aB->Prop}(st:s.heap.IsStrIter I "str_ascii_iterator" z t k)(hv:z.cps[k]?=some c)
  (q:∀g,g.IsStrIter I "str_ascii_iterator" z t (k+1)->b9 I s.heap g->R (.str ⟨#[c]⟩ s.toks) {s with heap:=g,toks:=s.toks+1}):aG (aH prog w) A (bw<|.ref I) R E s:=by
 obtain⟨u,hu,uc,ud⟩:=id st;unfold bw;refine ab<|cg (name:=bh "__next__") st.typeIs kb<|cu kb st.typeIs F.entry_str_ascii_iterator_next ?_<|F.args_str_ascii_iterator_next_1 _;refine(ab (fg hu ud (x:=.str z t) rfl ?_):aG _ _ (fI (.ref I) 0 >>= _) _ _ s);refine(ab (fg hu ud (x:=.int k 0) rfl ?_):aG _ _ (fI (.ref I) 1 >>= _) _ _ s);simp only[ci,hv];refine ab<|ip hu ud (by simp)<|ab<|wpAny_mkStr (af ⟨_,rfl,af<|q _ ⟨_,cr _ hu<|Obj.isFreed_of_fields<|k7 ud _,?_,?_⟩<|du ..⟩) sZ1
 .exact(Obj.cls_mapFields ..).trans uc
 .rw[k7 ud];simp[cE]
def zn{X:aF}{h1:Heap}{k:aA->nG Fin}(hh:A.handled=none)(keep:j6 X s.heap h1)
  (q:∀g e,j6 X s.heap g->(∃o,g.get? e=some o/\o.cls=.type "StopIteration")->E (.ref e) {s with heap:=g}) {R:Fin->aB->Prop}
  (ek:∀v,k v=(nS v:nG Fin)):aG (aH prog w) A (kZ (.type "StopIteration") [] >>= k) R E {s with heap:=h1}:=by
 refine ab ?_;simp only[kZ,kE];refine ab (cy ?_<|by size_fits);refine ab (m:=dC _ _) (eY (a:=aA.none) (by first|rfl|(simp only[dC];rfl))<|cy ?_<|by size_fits);rw[ek];simp only[nS];refine ab<|iZ ?_;rw[hh];exact ab<|af<|lG<|q _ _ ((keep.push _).push _) ⟨_,a6 _ rfl,rfl⟩
def aa8{I a:aF}{k:Nat}{ys:Array aA}{R:aA->aB->Prop}(hh:A.handled=none)(st:s.heap.IsTupleIter I a k)(tp:s.heap.IsTuple a ys)(hv:ys[k]?=none)
  (q:∀g e,j6 I s.heap g->(∃o,g.get? e=some o/\o.cls=.type "StopIteration")->E (.ref e) {s with heap:=g}):aG (aH prog w) A (bw<|.ref I) R E s:=by
 obtain⟨u,hu,uc,ud⟩:=id st;obtain⟨z,hz,_,nz,zd⟩:=tp;unfold bw;refine ab<|cg (name:=bh "__next__") st.typeIs F.slot_tuple_iterator_next<|cu F.slot_tuple_iterator_next st.typeIs F.entry_tuple_iterator_next ?_<|F.args_tuple_iterator_next_1 _;refine(ab (fg hu ud (x:=.ref a) rfl ?_):aG _ _ (fI (.ref I) 0 >>= _) _ _ s);refine(?_:aG _ _ (if (aA.ref a==aA.none)=true then _ else _) _ _ s);rw[if_neg (show ¬(aA.ref a==aA.none)=true from aq)];refine(ab (fg hu ud (x:=.int k 0) rfl ?_):aG _ _ (fI (.ref I) 1 >>= _) _ _ s);refine(ab (gj hz zd ?_):aG _ _ (fQ (.ref a) >>= _) _ _ s);simp only[ci,hv];refine ab<|jr<|ab<|ip hu ud (by simp) ?_;exact zn (A:=A.in1) hh (du ..).extBut q λ_=>rfl
def aih{I:aF}{z:Str}{t:sV}{k:Nat}{R:aA->aB->Prop}(hh:A.handled=none)(st:s.heap.IsStrIter I "str_ascii_iterator" z t k)(hv:z.cps[k]?=none)
  (q:∀g e,j6 I s.heap g->(∃o,g.get? e=some o/\o.cls=.type "StopIteration")->E (.ref e) {s with heap:=g}):aG (aH prog w) A (bw<|.ref I) R E s:=by
 obtain⟨u,hu,uc,ud⟩:=id st;unfold bw;refine ab<|cg (name:=bh "__next__") st.typeIs kb<|cu kb st.typeIs F.entry_str_ascii_iterator_next ?_<|F.args_str_ascii_iterator_next_1 _;refine(ab (fg hu ud (x:=.str z t) rfl ?_):aG _ _ (fI (.ref I) 0 >>= _) _ _ s);refine(ab (fg hu ud (x:=.int k 0) rfl ?_):aG _ _ (fI (.ref I) 1 >>= _) _ _ s);simp only[ci,hv];refine ab<|jr<|ab<|ip hu ud (by simp)<|ab<|cC ?_;exact zn (A:=A.in1) hh (du ..).extBut q λ_=>rfl
def ai7{e I:aF}{i:Nat}{jB:aA}{Y:aA->Prop}{N:Heap->Prop}{Q:Option aA->aB->Prop}(he:eI s.heap e I i jB)(gW:e≠I)
  (hN:∀g g',N g->(∀o,g.get? I=some o->g'.get? I=some o)->N g')
  (kH:∀(A':Around)(R:aA->aB->Prop)(E':aA->aB->Prop),(∀x g tk,Y x->N g->b9 I s.heap g->R x {s with heap:=g,toks:=tk})->aG (aH prog w) A' (bw<|.ref I) R E' s)
  (hQ:∀x g tk yW,Y x->Fg g e I ((i:Int)+1) x s.heap.objs.size->N g->g.get? s.heap.objs.size=some {cls:=.type "tuple",data:=.seq #[.int i yW,x]}->(∀b o,b≠e->b≠I->s.heap.get? b=some o->g.get? b=some o)->Q (some<|.ref s.heap.objs.size) {s with heap:=g,toks:=tk}) :
  aG (aH prog w) A (bF<|.ref e) Q E s:=by
 obtain⟨h0,ga,dr,t0,os⟩:=s;have ty:aB.TypeIs ⟨h0,ga,dr,t0,os⟩ (.ref e) "enumerate":=⟨_,he,rfl⟩
 replace he:eI h0 e I i jB:=he
 have jU:e<h0.objs.size:=bn he;unfold bF;refine ab<|jf<|cg (name:=bh "__next__") ty F.slot_enumerate_next<|cu F.slot_enumerate_next ty F.entry_enumerate_next ?_<|F.args_enumerate_next_1 _;show aG _ _ (fI (.ref e) 2 >>= _) _ _ ⟨h0,ga,dr,t0,os⟩;refine ab<|fg he rfl (x:=.ref I) rfl<|ab<|kH _ _ _ λx g1 tk yx n1 zB=>?_
 replace zB:b9 I h0 g1:=zB
 have e1:eI g1 e I i jB:=(zB.2 e gW).trans he;have z1:g1.objs.size=h0.objs.size:=zB.1;have k1:∀b o,b≠e->b≠I->h0.get? b=some o->g1.get? b=some o:=λb o _ hb h=>(zB.2 b hb).trans h;clear zB;show aG _ _ (fI (.ref e) 3 >>= _) _ _ ⟨g1,ga,dr,tk,os⟩;refine ab<|fg e1 rfl (x:=cE i) rfl ?_;show aG _ _ (fI (.ref e) 4 >>= _) _ _ ⟨g1,ga,dr,tk,os⟩;refine ab<|fg e1 rfl (x:=.none) rfl ?_;show aG _ _ (mkInt i >>= _) _ _ ⟨g1,ga,dr,tk,os⟩;refine ab<|wpAny_mkInt ?_;show aG _ _ (uP (.ref e) 3 (cE<|(i:Int)+1) >>= _) _ _ ⟨g1,ga,dr,tk+1,os⟩;refine ab<|gu e1 (by simp) λg2 e2 zA=>?_
 replace zA:b9 e g1 g2:=zA
 replace e2:eI g2 e I ((i:Int)+1) jB:=e2
 have z2:g2.objs.size=h0.objs.size:=zA.1.trans z1;have n2:N g2:=hN _ _ n1 λo h=>(zA.2 I<|Ne.symm gW).trans h;have k2:∀b o,b≠e->b≠I->h0.get? b=some o->g2.get? b=some o:=λb o hb hI h=>(zA.2 b hb).trans (k1 b o hb hI h);clear zA n1 k1 e1 z1;show aG _ _ (uP (.ref e) 4 .none >>= _) _ _ ⟨g2,ga,dr,tk+1,os⟩;refine ab<|gu e2 (by simp) λg3 e3 uS=>?_
 replace uS:b9 e g2 g3:=uS
 replace e3:eI g3 e I ((i:Int)+1) jB:=e3
 have z3:g3.objs.size=h0.objs.size:=uS.1.trans z2;have n3:N g3:=hN _ _ n2 λo h=>(uS.2 I<|Ne.symm gW).trans h;have k3:∀b o,b≠e->b≠I->h0.get? b=some o->g3.get? b=some o:=λb o hb hI h=>(uS.2 b hb).trans (k2 b o hb hI h);clear uS n2 k2 e2 z2;show aG _ _ (kE [.int i tk,x] >>= _) _ _ ⟨g3,ga,dr,tk+1,os⟩;refine ab<|nK ?_;have e4:eI (g3.push {cls:=.type "tuple",data:=.seq #[.int i tk,x]}) e I ((i:Int)+1) jB:=ai _ e3;have n4:N (g3.push {cls:=.type "tuple",data:=.seq #[.int i tk,x]}):=hN _ _ n3 λo h=>ai _ h;have k4:∀b o,b≠e->b≠I->h0.get? b=some o->(g3.push {cls:=.type "tuple",data:=.seq #[.int i tk,x]}).get? b=some o:=λb o hb hI h=>ai _<|k3 b o hb hI h;have t4:(g3.push {cls:=.type "tuple",data:=.seq #[.int i tk,x]}).get? h0.objs.size=some {cls:=.type "tuple",data:=.seq #[.int i tk,x]}:=by have h:=a6 g3 (o:={cls:=.type "tuple",data:=.seq #[.int i tk,x]}) rfl;rw[z3]at h;exact h
 generalize hg4:g3.push {cls:=.type "tuple",data:=.seq #[.int i tk,x]}=g4 at *;show aG _ _ (gk (.ref e) >>= _) _ _ ⟨g4,ga,dr,tk+1,os⟩;rw[z3];clear hg4 n3 k3 e3 z3 g3;refine ab ?_;unfold gk;refine ab<|fg e4 rfl (x:=.none) rfl<|af ?_;simp only[if_true];refine ab<|jr<|ab<|fg e4 rfl (x:=jB) rfl<|ab<|gu e4 (by simp) λg5 e5 Ft=>?_
 replace Ft:b9 e g4 g5:=Ft
 replace e5:eI g5 e I ((i:Int)+1) x:=e5
 show aG _ _ (ji (.ref e) (.ref h0.objs.size) >>= _) _ _ ⟨g5,ga,dr,tk+1,os⟩;refine ab ?_;unfold ji;refine ab<|gu e5 (by simp) λg6 e6 Fs=>?_
 replace Fs:b9 e g5 g6:=Fs
 replace e6:Fg g6 e I ((i:Int)+1) x h0.objs.size:=e6
 refine gu e6 (by simp) λg7 e7 Fq=>?_
 replace Fq:b9 e g6 g7:=Fq
 replace e7:Fg g7 e I ((i:Int)+1) x h0.objs.size:=e7
 have all:∀b o,b≠e->g4.get? b=some o->g7.get? b=some o:=λb o hb h=>(Fq.2 b hb).trans ((Fs.2 b hb).trans ((Ft.2 b hb).trans h));exact ab<|cC<|af ⟨_,rfl,af<|hQ x g7 _ tk yx e7 (hN _ _ n4 λo h=>all I o (Ne.symm gW) h) (all _ _ (Nat.ne_of_gt jU) t4) λb o hb hI h=>all b o hb<|k4 b o hb hI h⟩
def amz{e I:aF}{i:Int}{jB:aA}{Q:Option aA->aB->Prop}(he:eI s.heap e I i jB)
  (kH:∀(R:aA->aB->Prop)(E':aA->aB->Prop),(∀g x,j6 I s.heap g->(∃o,g.get? x=some o/\o.cls=.type "StopIteration")->E' (.ref x) {s with heap:=g})->aG (aH prog w) A.in1 (bw<|.ref I) R E' s)
  (hQ:∀g,j6 I s.heap g->Q none {s with heap:=g}):aG (aH prog w) A (bF<|.ref e) Q E s:=by
 have ty:s.TypeIs (.ref e) "enumerate":=⟨_,he,rfl⟩;unfold bF;refine ab<|jf<|cg (name:=bh "__next__") ty F.slot_enumerate_next<|cu F.slot_enumerate_next ty F.entry_enumerate_next ?_<|F.args_enumerate_next_1 _;show aG _ _ (fI (.ref e) 2 >>= _) _ _ s;refine ab<|fg he rfl (x:=.ref I) rfl<|ab<|kH _ _ λg x kp ⟨o,ho,hc⟩=>?_;exact ab<|kj (T:="StopIteration") (b:=true) ⟨o,ho,hc⟩ eV<|af<|hQ _ kp
end
def akk(a:aF)(ys:Array aA)(n:Nat)(HG:Option aF)(sl:Array (Option aA)) :
  Meets (Builtin.«enumerate.__new__» ⟨[.type "enumerate",.ref a],[]⟩) (λ_ R s=>s.heap.get? a=some {cls:=.type "tuple",dict:=HG,data:=.seq ys n,slots:=sl}/\
   R (.ok<|.ret<|.ref (s.heap.push {cls:=.type "tuple_iterator",data:=.fields #[.ref a,.int 0 0]}).objs.size)
    {s with heap:=(s.heap.push {cls:=.type "tuple_iterator",data:=.fields #[.ref a,.int 0 0]}).push {cls:=.type "enumerate",data:=.fields #[.none,.bool false,.ref s.heap.objs.size,cE 0,.none,.none]}}):=
 .of_wp λprog w A R s h=>by
  obtain⟨h0,ga,dr,tk,os⟩:=s;obtain⟨ha,h⟩:=h;have wW:=sub_enumerate;have hT:Heap.IsTuple (aB.heap ⟨h0,ga,dr,tk,os⟩) a ys:=(np _ ha rfl n rfl)
  wp_walk using AutoSeq1.wpAny_loadPart' ha
  refine wpAny_stack_any λst=>af ?_;split
  .rename_i c _ _ _ _ _
   cases (c==aA.type "enumerate")
   .wp_walk using AutoSeq1.wpAny_loadPart' ha,k6 hT
    exact⟨_,rfl,h⟩
   .wp_walk using AutoSeq1.wpAny_loadPart' ha,k6 hT
    exact⟨_,rfl,h⟩
  .wp_walk using AutoSeq1.wpAny_loadPart' ha,k6 hT
   exact⟨_,rfl,h⟩
section
variable{prog:aK}{w:aP}{A:Around}{E:aA->aB->Prop}{s:aB}
def ahx{a:aF}{ys:Array aA}{Q:aA->aB->Prop}(hT:s.heap.IsTuple a ys)
  (h:∀g,eI g (s.heap.objs.size+1) s.heap.objs.size 0 .none->g.IsTupleIter s.heap.objs.size a 0->(∀b o,s.heap.get? b=some o->g.get? b=some o)->Q (.ref<|s.heap.objs.size+1) {s with heap:=g}) :
  aG (aH prog w) A (call (.type "enumerate") [.ref a]) Q E s:=by
 obtain⟨⟨c,HG,dt,sl⟩,ha,hc,n,hd⟩:=hT
 replace hc:c=.type "tuple":=hc
 replace hd:dt=.seq ys n:=hd
 subst hc hd;refine callType_new F.called_enumerate (by decide) (F.typeCall_enumerate_1 _) (F.newCall_enumerate_1 _) (λobj=>F.args_object_init_2 obj _) F.entry_enumerate_new (akk a ys n HG sl) ⟨ha,?_⟩;have hz:(s.heap.push {cls:=.type "tuple_iterator",data:=.fields #[.ref a,.int 0 0]}).objs.size=s.heap.objs.size+1:=i9 ..;refine(?_:_/\_);rw[hz];have he:eI ((s.heap.push {cls:=.type "tuple_iterator",data:=.fields #[.ref a,.int 0 0]}).push {cls:=.type "enumerate",data:=.fields #[.none,.bool false,.ref s.heap.objs.size,cE 0,.none,.none]}) (s.heap.objs.size+1) s.heap.objs.size 0 .none:=by have h:=a6 (s.heap.push {cls:=.type "tuple_iterator",data:=.fields #[.ref a,.int 0 0]}) (o:={cls:=.type "enumerate",data:=.fields #[.none,.bool false,.ref s.heap.objs.size,cE 0,.none,.none]}) rfl;rw[hz]at h;exact h
 exact⟨⟨_,he,rfl⟩,h _ he ⟨_,ai _<|a6 _ rfl,rfl,rfl⟩ λb o x=>ai _<|ai _ x⟩
end
section
variable{X:Cx}{aC:Z (aF×Obj)}{σ:L2.St}{H:Hp}{s:aB}{h':Heap}
def aqv{t':Nat}{e it:aF}(I:Inv X aC σ H s)(k:∀b o,b≠e->b≠it->s.heap.get? b=some o->h'.get? b=some o)(fe:mE X aC H e)(fi:mE X aC H it):Inv X aC σ H {s with heap:=h',toks:=t'}:=by
 obtain⟨e0,e1,e2,e3,e4,e5⟩:=fe;obtain⟨i0,i1,i2,i3,i4,i5⟩:=fi;have nn:∀b u,H b=some u->b≠e/\b≠it:=λb u q=>⟨λz=>(by rw[z,e0]at q;cases q),λz=>(by rw[z,i0]at q;cases q)⟩;have sp:∀b,b∉[e,it]->b≠e/\b≠it:=λb hb=>by simpa using hb
 refine I.step (g':=s.gens) (d':=s.drawn) (ch:=[e,it]) (λb hb=>?_) (λb o _ _ hc q _=>k b o (sp b hc).1 (sp b hc).2 q) (λb o _ _ hc q _=>⟨o.slots,k b o (sp b hc).1 (sp b hc).2 q⟩) (λ_ _ _ _ n=>n)
  (λb o hc q=>⟨o,k b o (sp b hc).1 (sp b hc).2 q⟩) (λ_ _ q=>q) (λ_ _ _ q=>q) (λb ps q=>⟨#[],by rw[q];simp⟩) (λm hm=>?_) (λb u q=>?_) I.bare
 .rcases ax.mp hb with z|z
  .subst z;exact⟨e3,e1,e4,e5⟩
  .rw[ar.mp z];exact⟨i3,i1,i4,i5⟩
 .obtain⟨o,es,ep,ho,r⟩:=hm;exact(mz o es ep ⟨k _ o (Ne.symm e1) (Ne.symm i1) ho,r⟩)
 .refine(I.hok b u q).stay (λc v hc r=>k c v ?_ ?_ r) (λ_ r=>r) λ_ _ r=>r
  .rcases hc with z|z
   .rw[z];exact(nn b u q).1
   .exact(nn c _ z).1
  .rcases hc with z|z
   .rw[z];exact(nn b u q).2
   .exact(nn c _ z).2
end
def Kp{P:aK}{w:aP}{K:av}{eL:Z Expr}{x1}{pos:dU}(J:It)(e I:aF)(gW:e≠I)(M:Nat->Heap->Prop)
  (oW:∀i h,M i h->∃o,h.get? I=some o/\∀v,o.data≠.cell v) (iC:∀i h h',M i h->(∀o,h.get? I=some o->h'.get? I=some o)->M i h')
  (BA:∀(X:Cx),X.prog=P->X.w=w->X.K=K->∀(i:Nat) aC (s:aB) σ H,Inv X aC σ H s->M i s.heap->J.go i H->∃Y:aA->Prop,
   (∀u,Y u->∃x,RelV x u/\J.yld i H (.ref s.heap.objs.size) (upd H s.heap.objs.size<|.tup [.int i,x]))/\
   ∀(A':Around)(R:aA->aB->Prop)(E':aA->aB->Prop),(∀u g tk,Y u->M (i+1) g->b9 I s.heap g->R u {s with heap:=g,toks:=tk})->aG (aH P w) A' (bw<|.ref I) R E' s)
  (BK:∀(X:Cx),X.prog=P->X.w=w->X.K=K->∀(i:Nat) aC (s:aB) σ H,Inv X aC σ H s->M i s.heap->J.stop i H->
   ∀(A':Around)(R:aA->aB->Prop)(E':aA->aB->Prop),A'.handled=none->(∀g u,j6 I s.heap g->(∃o,g.get? u=some o/\o.cls=.type "StopIteration")->E' (.ref u) {s with heap:=g})->aG (aH P w) A' (bw<|.ref I) R E' s) :
  sQ P w K (.Tuple eL x1 pos) J [e,I] e (λi h=>(∃jB,eI h e I i jB)/\M i h)where
 mem:=by simp
 obj:=λi h st b hb=>by
  obtain⟨⟨jB,he⟩,m⟩:=st;rcases ax.mp hb with z|z
  .subst z;exact⟨_,he,λv z=>by cases z⟩
  .rw[ar.mp z];exact oW i h m
 keep:=λi h h' st k=>by obtain⟨⟨jB,he⟩,m⟩:=st;exact⟨⟨jB,k e (by simp) _ he⟩,iC i h h' m λo q=>k I (by simp) o q⟩
 item:=by
  intro X hP hw hK hc i aC s σ H E Iv hf st hg;obtain⟨⟨jB,he⟩,m⟩:=st;obtain⟨Y,hY,kH⟩:=BA X hP hw hK i aC s σ H Iv m hg;subst hP hw hK;have fe:=hf e (by simp);have fi:=hf I (by simp);have jU:e<s.heap.objs.size:=bn he;obtain⟨oi,hoi,_⟩:=oW i _ m;have xM:I<s.heap.objs.size:=bn hoi;refine ai7 he gW (N:=M<|i+1) (λg g' n k=>iC _ _ _ n k) kH λu g tk yW yu eo n t4 k=>⟨_,rfl,?_⟩;refine wpAny_letOwnedTupleGo_enum (s:={s with heap:=g,toks:=tk}) eo λg' e' sb=>?_;obtain⟨v,rv,yl⟩:=hY u yu;have I1:Inv X aC σ (upd H s.heap.objs.size<|.tup [.int i,v]) {s with heap:=s.heap.push {cls:=.type "tuple",data:=.seq #[.int i yW,u]},toks:=tk}:=
   Iv.laid (t':=tk) (λb o q=>ai _ q) (am _) ⟨by show 2<=aE;decide,[.int i yW,u],.cons ⟨yW,rfl⟩<|.cons rv .nil,(np _ (a6 _ rfl) rfl _ rfl)⟩
  have up:∀b,b<s.heap.objs.size->mE X aC H b->mE X aC (upd H s.heap.objs.size<|.tup [.int i,v]) b:=λb hb q=>⟨by rw[ma (dw hb)];exact q.1,q.2⟩;have I2:Inv X aC σ (upd H s.heap.objs.size<|.tup [.int i,v]) {s with heap:=g,toks:=tk}:=aqv (s:={s with heap:=s.heap.push {cls:=.type "tuple",data:=.seq #[.int i yW,u]},toks:=tk}) (t':=tk) I1 (λb o h1 h2 q=>by
   rcases Heap.get?_push_cases q with ⟨z1,z2⟩|z
   .rw[z1,z2];exact t4
   .exact k b o h1 h2 z) (up e jU fe)<|up I xM fi
  have zZ:=up e jU fe;have I3:Inv X aC σ (upd H s.heap.objs.size<|.tup [.int i,v]) {s with heap:=g',toks:=tk}:=Inv.turned (s:={s with heap:=g,toks:=tk}) (t':=tk) I2 (λb o hb q=>(sb.2 b hb).trans q) zZ.1 zZ.2.1 zZ.2.2.2.1 zZ.2.2.2.2.1 zZ.2.2.2.2.2;refine(l8 (.ref s.heap.objs.size) _ ⟨I3,rfl,yl,⟨⟨u,e'⟩,iC _ _ _ n λo q=>(sb.2 I<|Ne.symm gW).trans q⟩,λb hb=>?_⟩);rcases ax.mp hb with z|z
  .subst z;exact zZ.1
  .rw[ar.mp z];exact(up I xM fi).1
 done:=by intro X hP hw hK hc i aC s σ H E Iv hf st hg;obtain⟨⟨jB,he⟩,m⟩:=st;have hd:=BK X hP hw hK i aC s σ H Iv m hg;subst hP hw hK;have fi:=hf I (by simp);exact amz he (λR E' q=>hd _ R E' (Iv.ok.hd hc) q) λg kp=>⟨rfl,Iv.turned (t':=s.toks) (λb o hb q=>kp b o hb q) fi.1 fi.2.1 fi.2.2.2.1 fi.2.2.2.2.1 fi.2.2.2.2.2⟩
 self:=λ_ _ _ _ _ st h=>by obtain⟨⟨jB,he⟩,_⟩:=st;exact eX he h
noncomputable def Jet(K:av)(a:aF):It:=
 ⟨λi H=>∃xs x,SqT K H a xs/\xs[i]?=some x,λi H v H'=>∃p x,H p=none/\v=.ref p/\H'=upd H p (.tup [.int i,x])/\∀xs,SqT K H a xs->xs[i]?=some x,λi H=>∃xs,SqT K H a xs/\xs.length<=i⟩
noncomputable def Jes(z:Str):It:=
 ⟨λi _=>i<z.cps.toList.length,λi H v H'=>∃p c,H p=none/\v=.ref p/\H'=upd H p (.tup [.int i,.str ⟨#[c]⟩])/\z.cps.toList[i]?=some c,λi _=>z.cps.toList.length<=i⟩
def aic{P:aK}{w:aP}{K:av}{eL:Z Expr}{x1}{pos:dU}(a e I:aF)(gW:e≠I) :
  sQ P w K (.Tuple eL x1 pos) (Jet K a) [e,I] e (λi h=>(∃jB,eI h e I i jB)/\h.IsTupleIter I a i):=by
 refine Kp (Jet K a) e I gW (λi h=>h.IsTupleIter I a i) (λi h st=>?_) (λi h h' st k=>st.at k) (λX hP hw hK i aC s σ H Iv st hg=>?_) λX hP hw hK i aC s σ H Iv st hg A' R E' hh q=>?_
 .obtain⟨o,ho,c,d⟩:=st;exact⟨o,ho,λv z=>by rw[d]at z;cases z⟩
 .subst hP hw hK;obtain⟨xs,x,hq,hx⟩:=hg;obtain⟨its,rv,p,hz⟩:=Iv.tuple hq;obtain⟨u,hu,ru⟩:=rv.get hx;refine⟨λu'=>u'=u,λu' zL=>?_,λA' R E' q=>?_⟩
  .subst zL;exact(nu x ru s.heap.objs.size x ⟨Iv.hok.fresh<|am _,rfl,rfl,λys hy=>by rw[Iv.tuple_inj hy hq];exact hx⟩)
  .exact aoi st (show s.heap.IsTuple a its.toArray from p) (v:=u) (by simpa using hu) λg aQ sb=>q u g s.toks rfl aQ sb
 .subst hP hw hK;obtain⟨xs,hq,hx⟩:=hg;obtain⟨its,rv,p,hz⟩:=Iv.tuple hq;have hl:=rv.length;exact aa8 hh st (show s.heap.IsTuple a its.toArray from p) (by simp;lia) q
def aia{P:aK}{w:aP}{K:av}{eL:Z Expr}{x1}{pos:dU}(z:Str)(t:sV)(e I:aF)(gW:e≠I) :
  sQ P w K (.Tuple eL x1 pos) (Jes z) [e,I] e (λi h=>(∃jB,eI h e I i jB)/\h.IsStrIter I "str_ascii_iterator" z t i):=by
 refine Kp (Jes z) e I gW (λi h=>h.IsStrIter I "str_ascii_iterator" z t i) (λi h st=>?_) (λi h h' st k=>?_) (λX hP hw hK i aC s σ H Iv st hg=>?_) λX hP hw hK i aC s σ H Iv st hg A' R E' hh q=>?_
 .obtain⟨o,ho,c,d⟩:=st;exact⟨o,ho,λv z=>by rw[d]at z;cases z⟩
 .obtain⟨o,ho,r⟩:=st;exact⟨o,k o ho,r⟩
 .subst hP hw hK;have hi:i<z.cps.size:=by simpa [Jes]using hg
  refine⟨λu=>∃tk,u=.str ⟨#[z.cps[i]]⟩ tk,λu hu=>?_,λA' R E' q=>?_⟩
  .obtain⟨tk,rfl⟩:=hu;exact(nu (.str ⟨#[z.cps[i]]⟩) ⟨tk,rfl⟩ s.heap.objs.size (z.cps[i]) ⟨Iv.hok.fresh<|am _,rfl,rfl,by simp[hi]⟩)
  .exact as6 st (c:=z.cps[i]) (by simp[hi]) λg aQ sb=>q _ g _ ⟨_,rfl⟩ aQ sb
 .subst hP hw hK;have hi:z.cps.size<=i:=by simpa [Jes]using hg
  exact aih hh st (by simp;lia) q
section
variable{X:Cx}{eL:Z Expr}{x1:Nat}{jA p pos:dU}{a:Expr}{ta:TA}
def ax7(K:av)(ta:TA):TI:=λσ H R=>ta σ H λvs H1=>∃a,vs=[.ref a]/\(∃xs,SqT K H1 a xs)/\R (Jet K a) H1
def ayk(ta:TA):TI:=λσ H R=>ta σ H λvs H1=>∃z:Str,vs=[.str z]/\(∀c∈z.cps.toList,c<128)/\R (Jes z) H1
def avj(hg:Gl X "enumerate")(hm:X.mg "enumerate" = none)(ha:PA X [a] ta)(hs:nr a=true:=by rfl):PI X (.Tuple eL x1 jA) (.Call (.Name "enumerate" p) [a] [] pos) (ax7 X.K ta):=by
 intro aC s σ H R I h;refine Call_<|uq I hg hm oI<|gw (thn (ha pos aC s σ H _ I h) λus s1 ⟨vs,H1,I1,r1,q1⟩=>?_) (oq hs) rfl;obtain⟨b,e,⟨xs,hq⟩,q⟩:=q1;subst e;obtain⟨u,rfl,ru⟩:=wm r1;cases (show u=aA.ref b from ru);obtain⟨its,rv,pl,hz⟩:=I1.tuple hq;refine ahx (show s1.heap.IsTuple b its.toArray from pl) λg he hi kp=>eX (s:={s1 with heap:=g}) he ?_;refine(lw (s1.heap.objs.size+1) ([s1.heap.objs.size+1,s1.heap.objs.size]) _ _ H1 ⟨rfl,I1.kept (t':=s1.toks) kp,aic b (s1.heap.objs.size+1) s1.heap.objs.size<|Nat.succ_ne_self _,⟨⟨_,he⟩,hi⟩,λc hc=>?_,q⟩);rcases ax.mp hc with z|z
 .subst z;exact I1.fpOk (by lia)<|I1.hok.fresh<|by lia
 .rw[ar.mp z];exact I1.fpOk (am _)<|I1.hok.fresh<|am _
def atc(hg:Gl X "enumerate")(hm:X.mg "enumerate" = none)(ha:PA X [a] ta)(hs:nr a=true:=by rfl):PI X (.Tuple eL x1 jA) (.Call (.Name "enumerate" p) [a] [] pos) (ayk ta):=by
 intro aC s σ H R I h;refine Call_<|uq I hg hm oI<|gw (thn (ha pos aC s σ H _ I h) λus s1 ⟨vs,H1,I1,r1,q1⟩=>?_) (oq hs) rfl;obtain⟨z,e,hz,q⟩:=q1;subst e;obtain⟨u,rfl,t,rfl⟩:=wm r1;have asc:strIterType z="str_ascii_iterator":=by unfold strIterType;rw[if_pos];rw[Array.all_eq_true'];intro c hc;simpa using hz c (by simpa using hc)
 refine call_enumerate_str λg he hi _ kp=>eX (s:={s1 with heap:=g}) he ?_;rw[asc]at hi;refine(lw (s1.heap.objs.size+1) ([s1.heap.objs.size+1,s1.heap.objs.size]) _ _ H1 ⟨rfl,I1.kept (t':=s1.toks) kp,aia z t (s1.heap.objs.size+1) s1.heap.objs.size<|Nat.succ_ne_self _,⟨⟨_,he⟩,hi⟩,λc hc=>?_,q⟩);rcases ax.mp hc with z|z
 .subst z;exact I1.fpOk (by lia)<|I1.hok.fresh<|by lia
 .rw[ar.mp z];exact I1.fpOk (am _)<|I1.hok.fresh<|am _
end
def JH(J:It)(n:Nat){g:TG}{tb:TS}{D:mP}{σ:L2.St}{H:Hp}(Pv:Nat->L2.St->Hp->Prop)(h0:Pv 0 σ H)(zU:∀i σ H,i<n->Pv i σ H->J.go i H)(hst:∀σ H,Pv n σ H->J.stop n H)
  (hs:∀i v σ H H',i<n->Pv i σ H->J.yld i H v H'->g v σ H' λσ2 H2=>tb {D with nx:=Pv<|i+1,ct:=Pv<|i+1,bk:=D.nx} σ2 H2) (hd:∀σ H,Pv n σ H->D.nx σ H) :
  ∃W:Nat->Nat->L2.St->Hp->Prop,(∃m,W 0 m σ H)/\∀i m σ H,W i m σ H->
   (J.stop i H/\D.nx σ H)\/(J.go i H/\∃N:L2.St->Hp->Prop,(∀σ' H',N σ' H'->∃m',m'<m/\W (i+1) m' σ' H')/\∀v H',J.yld i H v H'->g v σ H' λσ2 H2=>tb {D with nx:=N,ct:=N,bk:=D.nx} σ2 H2):=by
 refine⟨λi m σ H=>m=n-i/\i<=n/\Pv i σ H,⟨n,by simp,fj _,h0⟩,?_⟩;rintro i m σ H ⟨rfl,hi,p⟩;by_cases bQ:i<n
 .exact .inr ⟨zU i σ H bQ p,Pv<|i+1,λσ' H' p'=>⟨n-(i+1),by lia,rfl,bQ,p'⟩,λv H' y=>hs i v σ H H' bQ p y⟩
 .have e:i=n:=by lia
  subst e;exact .inl ⟨hst σ H p,hd σ H p⟩
def JO{K:av}{a:aF}{xs:Z V}{g:TG}{tb:TS}{D:mP}{σ:L2.St}{H:Hp}(Pv:Nat->L2.St->Hp->Prop)(h0:Pv 0 σ H)(hl:∀i σ H,Pv i σ H->SqT K H a xs)
  (hs:∀i x p σ H,xs[i]?=some x->H p=none->Pv i σ H->g (.ref p) σ (upd H p<|.tup [.int (i:Nat),x]) λσ2 H2=>tb {D with nx:=Pv<|i+1,ct:=Pv<|i+1,bk:=D.nx} σ2 H2) (hd:∀σ H,Pv xs.length σ H->D.nx σ H) :
  ∃W:Nat->Nat->L2.St->Hp->Prop,(∃m,W 0 m σ H)/\∀i m σ H,W i m σ H->
   ((Jet K a).stop i H/\D.nx σ H)\/((Jet K a).go i H/\∃N:L2.St->Hp->Prop,(∀σ' H',N σ' H'->∃m',m'<m/\W (i+1) m' σ' H')/\∀v H',(Jet K a).yld i H v H'->g v σ H' λσ2 H2=>tb {D with nx:=N,ct:=N,bk:=D.nx} σ2 H2):=by
 refine JH (Jet K a) xs.length Pv h0 (λi σ H hi p=>(l8 xs (xs[i]) ⟨hl i σ H p,by simp[hi]⟩)) (λσ H p=>⟨xs,hl _ σ H p,am _⟩) (λi v σ H H' hi p y=>?_) hd;obtain⟨b,x,hb,rfl,rfl,hx⟩:=y;exact hs i x b σ H (hx xs<|hl i σ H p) hb p
def aqo{z:Str}{g:TG}{tb:TS}{D:mP}{σ:L2.St}{H:Hp}(Pv:Nat->L2.St->Hp->Prop)(h0:Pv 0 σ H)
  (hs:∀i c p σ H,z.cps.toList[i]?=some c->H p=none->Pv i σ H->g (.ref p) σ (upd H p<|.tup [.int (i:Nat),.str ⟨#[c]⟩]) λσ2 H2=>tb {D with nx:=Pv<|i+1,ct:=Pv<|i+1,bk:=D.nx} σ2 H2) (hd:∀σ H,Pv z.cps.toList.length σ H->D.nx σ H) :
  ∃W:Nat->Nat->L2.St->Hp->Prop,(∃m,W 0 m σ H)/\∀i m σ H,W i m σ H->
   ((Jes z).stop i H/\D.nx σ H)\/((Jes z).go i H/\∃N:L2.St->Hp->Prop,(∀σ' H',N σ' H'->∃m',m'<m/\W (i+1) m' σ' H')/\∀v H',(Jes z).yld i H v H'->g v σ H' λσ2 H2=>tb {D with nx:=N,ct:=N,bk:=D.nx} σ2 H2):=by
 refine JH (Jes z) z.cps.toList.length Pv h0 (λi σ H hi p=>hi) (λσ H p=>am _) (λi v σ H H' hi p y=>?_) hd;obtain⟨b,c,hb,rfl,rfl,hc⟩:=y;exact hs i c b σ H hc hb p
def ast{c:Nat}(h:c<128):Txt.upper ⟨#[c]⟩=⟨#[up1 c]⟩:=by
 rw[upper_ascii (λd hd=>by have e:d=c:=by simpa using hd
                           lia)]
 simp
section
variable{X:Cx}
def ams:MtR X "str.upper" (λx vs H Q=>∃c:Nat,x=.str ⟨#[c]⟩/\vs=[]/\c<128/\Q (.str ⟨#[up1 c]⟩) H):=by intro aC s σ H x vs v us Q I rx rv h;obtain⟨c,rfl,rfl,hc,q⟩:=h;obtain⟨t,rfl⟩:=rx;have F1:=rv.zero;subst F1;refine SC.upper (fit_upper<|by show 1<=5592405;lia)<|l8 (.str _) H ⟨I.tok _,⟨_,rfl⟩,?_⟩;rw[ast hc];exact q
end
end L3
namespace L2
open PySem PySem.Spec PyProof.Rows
section
variable{κ:Type}[DecidableEq κ]
noncomputable def wt(kvs:Z (κ×V))(k:κ):Option V:=(kvs.find? λkv=>decide<|kv.1=k).map (·.2)
noncomputable def mF(kvs:Z (κ×V))(k:κ)(v:V):Z (κ×V):=
 if (kvs.any λkv=>decide<|kv.1=k)=true then kvs.map (λkv=>if kv.1=k then(kv.1,v)else kv)else kvs++[(k,v)]
def qg{p:κ×V}{r:Z (κ×V)}{k:κ}(e:p.1=k):wt (p::r) k=some p.2:=by simp[wt,List.find?_cons,e]
def qf{p:κ×V}{r:Z (κ×V)}{k:κ}(e:¬p.1=k):wt (p::r) k=wt r k:=by simp[wt,List.find?_cons,e]
theorem ze(k:κ):∀kvs:Z (κ×V),(kvs.any λkv=>decide<|kv.1=k)=(wt kvs k).isSome
 | []=>rfl
 | p::r=>by
  rw[List.any_cons];by_cases e:p.1=k
  .simp only[qg e,decide_eq_true e,Bool.true_or,Option.isSome_some]
  .rw[qf e,decide_eq_false e,Bool.false_or];exact ze k r
theorem ag4(k j:κ)(y:V):∀kvs:Z (κ×V),wt (kvs.map λkv=>if kv.1=k then(kv.1,y)else kv) j=(wt kvs j).map λx=>if j=k then y else x
 | []=>rfl
 | p::r=>by
  have ih:=ag4 k j y r;rw[dq];by_cases h:p.1=k
  .rw[if_pos h];by_cases e:p.1=j
   .rw[qg (p:=(p.1,y)) e,qg e,Option.map_some,if_pos<|e.symm.trans h]
   .rw[qf (p:=(p.1,y)) e,qf e,ih]
  .rw[if_neg h];by_cases e:p.1=j
   .rw[qg (p:=p) e,qg e,Option.map_some,if_neg λz=>h<|e.trans z]
   .rw[qf (p:=p) e,qf e,ih]
theorem aea(k j:κ)(y:V):∀kvs:Z (κ×V),wt kvs k=none->wt (kvs++[(k,y)]) j=if j=k then some y else wt kvs j
 | [],_=>by
  by_cases e:k=j
  .rw[if_pos e.symm];exact qg (p:=(k,y)) e
  .rw[if_neg (λz=>e z.symm)];exact qf (p:=(k,y)) e
 | p::r,hn=>by
  rw[List.cons_append];have hk:¬p.1=k:=λz=>by rw[qg z]at hn;cases hn
  rw[qf hk]at hn;have ih:=aea k j y r hn;by_cases e:p.1=j
  .rw[qg e,qg e,if_neg λz=>hk<|e.trans z]
  .rw[qf e,qf e,ih]
theorem agp(kvs:Z (κ×V))(k j:κ)(y:V):wt (mF kvs k y) j=if j=k then some y else wt kvs j:=by
 unfold mF;by_cases a:(kvs.any λkv=>decide<|kv.1=k)=true
 .rw[if_pos a,ag4];rw[ze]at a;by_cases e:j=k
  .obtain⟨x,hx⟩:=Option.isSome_iff_exists.mp a;rw[if_pos e,e,hx,Option.map_some,if_pos rfl]
  .rw[if_neg e];cases wt kvs j with
   | none=>rfl
   | some x=>rw[Option.map_some,if_neg e]
 .rw[if_neg a];refine aea k j y kvs ?_;rw[ze]at a;cases q:wt kvs k with
  | none=>rfl
  | some x=>rw[q]at a;exact(a rfl).elim
def sy(kvs:Z (κ×V))(k:κ)(v:V):(mF kvs k v).length<=kvs.length+1:=by
 unfold mF;split
 .rw[ae];lia
 .rw[be,b7,ja];lia
theorem RelO.isSome_eq{o:Option V}{u:Option aA}(r:RelO o u):o.isSome=u.isSome:=by
 cases o with
 | none=>cases u with
  | none=>rfl
  | some _=>exact(show False from r).elim
 | some _=>cases u with
  | none=>exact(show False from r).elim
  | some _=>rfl
theorem RelO.getD{o:Option V}{u:Option aA}{d:V}{d':aA}(r:RelO o u)(rd:RelV d d'):RelV (o.getD d) (u.getD d'):=by
 cases o with
 | none=>cases u with
  | none=>exact rd
  | some _=>exact(show False from r).elim
 | some _=>cases u with
  | none=>exact(show False from r).elim
  | some _=>exact r
theorem KV.val{kvs:Z (κ×V)}{vs:Z (κ×aA)}(r:KV kvs vs)(k:κ):RelO (wt kvs k) (fZ vs k):=by
 unfold KV at r;induction r with
 | nil=>exact True.intro
 | @cons p q ps qs h t ih=>
  obtain⟨h1,h2⟩:=h;by_cases e:p.1=k
  .have e':q.1=k:=h1.symm.trans e;have b:fZ (q::qs) k=some q.2:=by simp[fZ,List.find?_cons,e']
   rw[qg e,b];exact h2
  .have e':¬q.1=k:=λz=>e<|h1.trans z;have b:fZ (q::qs) k=fZ qs k:=by simp[fZ,List.find?_cons,e']
   rw[qf e,b];exact ih
theorem KV.any{kvs:Z (κ×V)}{vs:Z (κ×aA)}(r:KV kvs vs)(k:κ):(kvs.any λkv=>decide<|kv.1=k)=vs.any λkv=>decide (kv.1=k):=by
 unfold KV at r;induction r with
 | nil=>rfl
 | cons h t ih=>rw[List.any_cons,List.any_cons,ih,h.1]
theorem KV.repl{kvs:Z (κ×V)}{vs:Z (κ×aA)}(r:KV kvs vs)(k:κ){y:V}{u:aA}(ry:RelV y u) :
  KV (kvs.map λkv=>if kv.1=k then(kv.1,y)else kv) (vs.map λkv=>if kv.1=k then(kv.1,u)else kv):=by
 unfold KV at r⊢;induction r with
 | nil=>exact .nil
 | @cons p q ps qs h t ih=>
  rw[dq,dq];refine .cons ?_ ih;obtain⟨h1,h2⟩:=h;by_cases e:p.1=k
  .rw[if_pos e,if_pos<|h1.symm.trans e];exact⟨h1,ry⟩
  .rw[if_neg e,if_neg λz=>e<|h1.trans z];exact⟨h1,h2⟩
def KV.put{kvs:Z (κ×V)}{vs:Z (κ×aA)}(r:KV kvs vs)(k:κ){y:V}{u:aA}(ry:RelV y u):KV (mF kvs k y) (yX vs k u):=by
 unfold mF yX;rw[r.any k];by_cases e:(vs.any λkv=>decide<|kv.1=k)=true
 .rw[if_pos e,if_pos e];exact r.repl k ry
 .rw[if_neg e,if_neg e];exact dN.snoc r ⟨rfl,ry⟩
theorem KV.length{kvs:Z (κ×V)}{vs:Z (κ×aA)}(r:KV kvs vs):kvs.length=vs.length:=dN.length r
end
theorem Ao{P:aK}{w:aP}{k:Key}{u:aA}(r:RelV (kV k) u):(pi P w).is k u=true:=by
 cases k with
 | inl i=>obtain⟨t,e⟩:=(show ∃t,u=aA.int i t from r);subst e;exact ae1 P w i t
 | inr x=>obtain⟨t,e⟩:=(show ∃t,u=aA.str x t from r);subst e;exact zx P w x t
theorem adn{P:aK}{w:aP}:∀{ks:Z Key} {us:Z aA},Vals (ks.map kV) us->ItemsAre (pi P w) ks us
 | [],_,r=>by rw[List.map_nil]at r;cases r;exact .nil
 | k::ks,_,r=>by
  rw[dq]at r;cases r with
  | cons h t=>exact .cons (Ao h)<|adn t
noncomputable abbrev KT(H:Hp):Z (Z Key×V)->Z (Z Key×aF×aA)->Prop:=dN λp q=>p.1=q.1/\H q.2.1=some (.tup<|p.1.map kV)/\RelV p.2 q.2.2
theorem KT.val{H:Hp}{kvs:Z (Z Key×V)}{xs:Z (Z Key×aF×aA)}(r:KT H kvs xs)(k:Z Key):RelO (wt kvs k) ((oK xs k).map (·.2)):=by
 induction r with
 | nil=>exact True.intro
 | @cons p q ps qs h t ih=>
  obtain⟨h1,_,h2⟩:=h;by_cases e:p.1=k
  .have e':q.1=k:=h1.symm.trans e;have b:oK (q::qs) k=some q.2:=by simp[oK,List.find?_cons,e']
   rw[qg e,b];exact h2
  .have e':¬q.1=k:=λz=>e<|h1.trans z;have b:oK (q::qs) k=oK qs k:=by simp[oK,List.find?_cons,e']
   rw[qf e,b];exact ih
theorem KT.repl{H:Hp}{kvs:Z (Z Key×V)}{xs:Z (Z Key×aF×aA)}(r:KT H kvs xs)(k:Z Key){y:V}{u:aA}(ry:RelV y u) :
  KT H (kvs.map λkv=>if kv.1=k then(kv.1,y)else kv) (xs.map<|putAt k u):=by
 induction r with
 | nil=>exact .nil
 | @cons p q ps qs h t ih=>
  rw[dq,dq];refine .cons ?_ ih;obtain⟨h1,h2,h3⟩:=h;unfold putAt;by_cases e:p.1=k
  .rw[if_pos e,if_pos<|h1.symm.trans e];exact⟨h1,h2,ry⟩
  .rw[if_neg e,if_neg λz=>e<|h1.trans z];exact⟨h1,h2,h3⟩
def KT.put{H:Hp}{kvs:Z (Z Key×V)}{xs:Z (Z Key×aF×aA)}(r:KT H kvs xs)(k:Z Key){b:aF}{y:V}{u:aA}(hb:H b=some (.tup<|k.map kV))(ry:RelV y u) :
  KT H (mF kvs k y) (storedH xs k b u):=by
 have e:(kvs.any λkv=>decide<|kv.1=k)=(oK xs k).isSome:=by rw[ze,(r.val k).isSome_eq,Option.isSome_map]
 unfold mF storedH;rw[e];by_cases q:(oK xs k).isSome=true
 .rw[if_pos q,if_pos q];exact r.repl k ry
 .rw[if_neg q,if_neg q];exact dN.snoc r ⟨rfl,hb,ry⟩
def KT.keeps{H H':Hp}{kvs:Z (Z Key×V)}{xs:Z (Z Key×aF×aA)}(r:KT H kvs xs)(ht:∀b ys,H b=some (.tup ys)->H' b=some (.tup ys)):KT H' kvs xs:=
 dN.mapP r λ_ _ z=>⟨z.1,ht _ _ z.2.1,z.2.2⟩
section
variable{P:aK}{w:aP}{H:Hp}{h:Heap}{a:aF}
def auw{u:HO}(ok:HOk P w H h)(e:Rd H a u):ObjOk P w H h a u:=e.ok ok
def yJ{kvs:Z (Key×V)}(ok:HOk P w H h)(e:Rd H a (.dK kvs)):kvs.length<=aE/\(a==bL)=false/\∃vs,KV kvs vs/\h.DictOf (pi P w) a vs:=
 show ObjOk P w H h a (.dK kvs)from auw ok e
def axe{kvs:Z (Key×V)}(ok:HOk P w H h)(e:H a=some (.dK kvs)):kvs.length<=aE/\(a==bL)=false/\∃vs,KV kvs vs/\h.DictOf (pi P w) a vs:=yJ ok<|.inl e
def Ax{ks:Z Key}(ok:HOk P w H h)(e:H a=some (.tup<|ks.map kV)):(iH<|pi P w).is h ks a:=by obtain⟨_,its,r,o,h1,h2,n,h3⟩:=(show ObjOk P w H h a (.tup<|ks.map kV)from ok a _ e);exact⟨o,its.toArray,n,h1,h2,h3,by simpa using adn r⟩
theorem yM{kvs:Z (Z Key×V)}(ok:HOk P w H h)(e:Rd H a (.dT kvs)):kvs.length<=aE/\(a==bL)=false/\
  ∃xs,KT H kvs xs/\h.DictOfH (iH<|pi P w) a xs:=by
 obtain⟨z,y,xs,r,o,es,ep,h1,h2,h3,h4,h5⟩:=(show ObjOk P w H h a (.dT kvs)from auw ok e);refine⟨z,y,xs,r,o,es,ep,h1,h2,h3,h4,λx hx=>?_,h5⟩;have all:∀{l:Z (Z Key×V)} {m:Z (Z Key×aF×aA)},KT H l m->∀x∈m,(iH<|pi P w).is h x.1 x.2.1:=by
  intro l m q;induction q with
  | nil=>intro x hx;exact nomatch hx
  | @cons p q ps qs hq t ih=>
   intro x hx;rcases ax.mp hx with e|hx
   .subst e;exact Ax ok<|by rw[<-hq.1];exact hq.2.1
   .exact ih x hx
 exact all r x hx
def asl{kvs:Z (Z Key×V)}(ok:HOk P w H h)(e:H a=some (.dT kvs)):kvs.length<=aE/\(a==bL)=false/\
  ∃xs,KT H kvs xs/\h.DictOfH (iH<|pi P w) a xs:=yM ok<|.inl e
end
def DGet(H:Hp)(a:aF)(y:V)(r:Option V):Prop:=
 (∃kvs k,Rd H a (.dK kvs)/\y=kV k/\r=wt kvs k)\/∃kvs k b,Rd H a (.dT kvs)/\y=.ref b/\H b=some (.tup<|k.map kV)/\r=wt kvs k
def DPut(H:Hp)(a:aF)(y v:V)(H':Hp):Prop:=
 (∃kvs k,H a=some (.dK kvs)/\y=kV k/\kvs.length<aE/\H'=upd H a (.dK<|mF kvs k v))\/
 ∃kvs k b,H a=some (.dT kvs)/\y=.ref b/\H b=some (.tup<|k.map kV)/\kvs.length<aE/\H'=upd H a (.dT<|mF kvs k v)
theorem DGet.k{H:Hp}{a:aF}{kvs:Z (Key×V)}{k:Key}(e:H a=some (.dK kvs)):DGet H a (kV k) (wt kvs k):=.inl ⟨kvs,k,.inl e,rfl,rfl⟩
def DGet.t{H:Hp}{a b:aF}{kvs:Z (Z Key×V)}{k:Z Key}(e:H a=some (.dT kvs))(eb:H b=some (.tup<|k.map kV)):DGet H a (.ref b) (wt kvs k):=.inr ⟨kvs,k,b,.inl e,rfl,eb,rfl⟩
def DPut.t{H:Hp}{a b:aF}{kvs:Z (Z Key×V)}{k:Z Key}{v:V}(e:H a=some (.dT kvs))(eb:H b=some (.tup<|k.map kV))(hl:kvs.length<aE) :
  DPut H a (.ref b) v (upd H a<|.dT<|mF kvs k v):=.inr ⟨kvs,k,b,e,rfl,eb,hl,rfl⟩
section
variable{X:Cx}{aC:Z (aF×Obj)}{σ:St}{H:Hp}{s:aB}{a:aF}{y v:V}{u r:aA}{o:Option V}{A:Around}{E:aA->aB->Prop}
def Inv.big(I:Inv X aC σ H s):bL<s.heap.objs.size:=by have h:aO<s.heap.objs.size:=(I.mod.glob.keeps I.bk).lt;exact Nat.lt_trans (by decide) h
def aki{Q:aA->aB->Prop}(hu:A.units+1<bH)(I:Inv X aC σ H s)(g:DGet H a y (some v))(ry:RelV y u)(h:∀w' s',Inv X aC σ H s'->RelV v w'->Q w' s') :
  aG (aH X.prog X.w) A (fH (.ref a) u) Q E s:=by
 rcases g with ⟨kvs,k,e,ey,l⟩|⟨kvs,k,b,e,ey,eb,l⟩
 .subst ey;obtain⟨z,hd,vs,rel,dd⟩:=yJ I.hok e;obtain⟨w',hw,gP⟩:=RelO.some_of (v:=v) (o:=fZ vs k) (by rw[l];exact rel.val k);exact Dg (Ao ry) dd.mapOf hw<|h w' _ (I.tok _) gP
 .subst ey;cases (show u=aA.ref b from ry);obtain⟨z,hd,xs,rel,dd⟩:=yM I.hok e;obtain⟨w',hw,gP⟩:=RelO.some_of (v:=v) (o:=(oK xs k).map (·.2)) (by rw[l];exact rel.val k);obtain⟨p,hp,qV⟩:=db.mp hw;refine wpAny_getItem_heap (cT hu) (Ax I.hok eb) dd hp ?_;rw[qV];exact h w' _ (I.tok _) gP
def azi{Q:aA->aB->Prop}(hu:A.units+1<bH)(I:Inv X aC σ H s)(g:DGet H a y o)(ry:RelV y u)(h:∀s',Inv X aC σ H s'->Q (.bool o.isSome) s') :
  aG (aH X.prog X.w) A (aU .In u<|.ref a) Q E s:=by
 rcases g with ⟨kvs,k,e,ey,l⟩|⟨kvs,k,b,e,ey,eb,l⟩
 .subst ey;obtain⟨z,hd,vs,rel,dd⟩:=yJ I.hok e;refine wpAny_in_of (Ao ry) hd dd.mapOf ?_;rw[<-(rel.val k).isSome_eq,<-l];exact h _<|I.tok _
 .subst ey;cases (show u=aA.ref b from ry);obtain⟨z,hd,xs,rel,dd⟩:=yM I.hok e;refine wpAny_in_heap (cT hu) (Ax I.hok eb) hd dd ?_;have q:=(rel.val k).isSome_eq;rw[Option.isSome_map]at q;rw[<-q,<-l];exact h _<|I.tok _
def aq8{Q:aA->aB->Prop}(hu:A.units+1<bH)(I:Inv X aC σ H s)(g:DGet H a y o)(ry:RelV y u)(h:∀s',Inv X aC σ H s'->Q (.bool<|!o.isSome) s') :
  aG (aH X.prog X.w) A (aU .NotIn u<|.ref a) Q E s:=by
 rcases g with ⟨kvs,k,e,ey,l⟩|⟨kvs,k,b,e,ey,eb,l⟩
 .subst ey;obtain⟨z,hd,vs,rel,dd⟩:=yJ I.hok e;refine wpAny_notIn_of (Ao ry) hd dd.mapOf ?_;rw[<-(rel.val k).isSome_eq,<-l];exact h _<|I.tok _
 .subst ey;cases (show u=aA.ref b from ry);obtain⟨z,hd,xs,rel,dd⟩:=yM I.hok e;refine wpAny_notIn_heap (cT hu) (Ax I.hok eb) hd dd ?_;have q:=(rel.val k).isSome_eq;rw[Option.isSome_map]at q;rw[<-q,<-l];exact h _<|I.tok _
def JU{h':Heap}{t':Nat}{ob:HO}(I:Inv X aC σ H s)(mu:Mut (H a))(hs:b9 a s.heap h')(he:∃q,h'.get? a=some q)(new:ObjOk X.prog X.w (upd H a ob) h' a ob) :
  Inv X aC σ (upd H a ob) {s with heap:=h',toks:=t'}:=
 I.write (x:=a) (e:=a) mu (.inl rfl) (λb q hb z=>(hs.2 b hb).trans z) he new
def asn{P:aK}{w:aP}{H':Hp}{h':Heap}{kvs:Z (Key×V)}{vs:Z (Key×aA)}(z:kvs.length<=aE)(hd:(a==bL)=false)(rel:KV kvs vs)(dd:h'.DictOf (pi P w) a vs) :
  ObjOk P w H' h' a (.dK kvs):=⟨z,hd,vs,rel,dd⟩
def ajt{H':Hp}{Q:Unit->aB->Prop}(hu:A.units+1<bH)(I:Inv X aC σ H s)(g:DPut H a y v H')(ry:RelV y u)(rv:RelV v r)(h:∀s',Inv X aC σ H' s'->Q () s') :
  aG (aH X.prog X.w) A (setItem (.ref a) u r) Q E s:=by
 rcases g with ⟨kvs,k,e,ey,l,eH⟩|⟨kvs,k,b,e,ey,eb,l,eH⟩
 .subst ey eH;obtain⟨z,hd,vs,rel,dd⟩:=axe I.hok e;have hz:vs.length<=aE:=by rw[<-rel.length];exact z
  have hl:(mF kvs k v).length<=aE:=by have:=sy kvs k v;lia
  refine wpAny_setItem_pairs (hsz:=hz) (Ao ry) dd λh' Em hs=>h _ ?_;have he:∃q,h'.get? a=some q:=let ⟨q,_,_,hq,_⟩:=Em;⟨q,hq⟩
  exact JU I (by rw[e];exact True.intro) hs he<|asn hl hd (rel.put k rv) Em
 .subst ey eH;cases (show u=aA.ref b from ry);obtain⟨z,hd,xs,rel,dd⟩:=asl I.hok e;have hz:xs.length<=aE:=by rw[<-dN.length rel];exact z
  have hl:(mF kvs k v).length<=aE:=by have:=sy kvs k v;lia
  refine wpAny_setItem_heap (hsz:=hz) (cT hu) (Ax I.hok eb) dd λh' Em hs=>h _ ?_;obtain⟨q,es,ep,hq,h2,h3,h4,_,h5⟩:=Em;refine JU I (by rw[e];exact True.intro) hs ⟨q,hq⟩ ⟨hl,hd,_,(rel.put k eb rv).keeps λc ys ec=>?_,q,es,ep,hq,h2,h3,h4,h5⟩;rw[ma (As ec e λz=>nomatch z)];exact ec
end
def aya(i:Expr):Prop:=∀ov iv,lH i false ov iv=operate [ov,iv] (fH ov iv)
theorem arj{prog:aK}{w:aP}{A:Around}{E:aA->aB->Prop}{s:aB}{env:qA}{value fB:Expr}{pos:dU}{T id:String}{Q:aA->aB->Prop}
  (hl:yV (.type T) "__getitem__" = aR (some<|.builtin id)) (hs:aya fB)
  (h:aG (aH prog w) A (bT value env) (λo s₁=>aG (aH prog w) A (bT fB env) (λi s₂=>s₂.TypeIs o T/\aG (aH prog w) A (fH o i) Q E s₂) E s₁) E s) :
  aG (aH prog w) A (bT (.Subscript value fB pos) env) Q E s:=by
 refine AI<|jc h (λo s₁ h₁=>jc h₁ (λi s₂ h₂=>?_) λ_ _ x=>x) λ_ _ x=>x;obtain⟨hT,h₂⟩:=h₂;unfold pJ;refine ab ?_;rw[getitemInPython_of_ne hT.not_modules];refine ab<|cR hT hl ?_;have fin:aG (aH prog w) A (lH fB false o i) (λr s₃=>aG (aH prog w) A (letTemporaryGo value o r >>= λ_=>aR r) Q E s₃) E s₂:=by rw[hs o i];exact wpAny_operating<|jc h₂ (λr s₃ h₃=>ab<|wpAny_letTemporaryGo<|af h₃) λ_ _ x=>x
 first
  | exact af (ab fin)
  | exact ab (af<|ab fin)
  | exact ab fin
def afk{X:Cx}{aC:Z (aF×Obj)}{σ:St}{H:Hp}{s:aB}{a:aF}{y:V}{o:Option V}(I:Inv X aC σ H s)(g:DGet H a y o):s.TypeIs (.ref a) "dict":=by
 rcases g with ⟨kvs,k,e,_,_⟩|⟨kvs,k,b,e,_,_,_⟩
 .obtain⟨_,_,vs,_,dd⟩:=yJ I.hok e;exact dd.typeIs
 .obtain⟨_,_,xs,_,dd⟩:=yM I.hok e;exact dd.typeIs
def awi(td ty:TE):TE:=λσ H Q=>td σ H λx H1=>ty σ H1 λy H2=>∃a v,x=.ref a/\DGet H2 a y (some v)/\Q v H2
def aze(ty td:TE):TE:=λσ H Q=>ty σ H λy H1=>td σ H1 λx H2=>∃a o,x=.ref a/\DGet H2 a y o/\Q (.bl o.isSome) H2
def apt(ty td:TE):TE:=λσ H Q=>ty σ H λy H1=>td σ H1 λx H2=>∃a o,x=.ref a/\DGet H2 a y o/\Q (.bl<|!o.isSome) H2
def awh(td ty tv:TE):TS:=λD σ H=>tv σ H λv H1=>td σ H1 λx H2=>ty σ H2 λy H3=>∃a H4,x=.ref a/\DPut H3 a y v H4/\D.nx σ H4
section
variable{X:Cx}{o i e value:Expr}{pos qJ jA:dU}{td ty tv:TE}
def JY(hu:X.A.units+1<bH)(ho:PE X o td)(hi:PE X i ty)(hs:aya i):PE X (.Subscript o i pos) (awi td ty):=by intro aC s σ H Q I h;refine arj PySem.F.slot_dict_getitem.lookup hs<|thn (ho aC s σ H _ I h) λu s1 ⟨x,H1,I1,rx,q1⟩=>thn (hi aC s1 σ H1 _ I1 q1) λiv s2 ⟨y,H2,I2,ry,a,v,ex,g,q2⟩=>?_;subst ex;obtain rfl:u=aA.ref a:=rx;exact⟨afk I2 g,aki hu I2 g ry λw' s3 I3 gP=>⟨v,H2,I3,gP,q2⟩⟩
def at6(hu:X.A.units+1<bH)(hi:PE X i ty)(ho:PE X o td):PC X .In i o (aze ty td):=by intro aC s σ H Q I h;refine thn (hi aC s σ H _ I h) λiv s1 ⟨y,H1,I1,ry,q1⟩=>thn (ho aC s1 σ H1 _ I1 q1) λu s2 ⟨x,H2,I2,rx,a,ov,ex,g,q2⟩=>?_;subst ex;obtain rfl:u=aA.ref a:=rx;exact azi hu I2 g ry λs3 I3=>⟨.bl ov.isSome,H2,I3,rfl,q2⟩
def alc(hu:X.A.units+1<bH)(hi:PE X i ty)(ho:PE X o td):PC X .NotIn i o (apt ty td):=by intro aC s σ H Q I h;refine thn (hi aC s σ H _ I h) λiv s1 ⟨y,H1,I1,ry,q1⟩=>thn (ho aC s1 σ H1 _ I1 q1) λu s2 ⟨x,H2,I2,rx,a,ov,ex,g,q2⟩=>?_;subst ex;obtain rfl:u=aA.ref a:=rx;exact aq8 hu I2 g ry λs3 I3=>⟨.bl<|!ov.isSome,H2,I3,rfl,q2⟩
def ajd(hu:X.A.units+1<bH)(ho:PE X o td)(hi:PE X i ty)(hv:PE X value tv)(hs:iI value (some<|.Subscript o i qJ) pos.line X.env=aR false) :
  PS X (.Assign [.Subscript o i qJ] value pos) (awh td ty tv):=by
 intro aC s σ H D I h;refine wpAny_Assign_Subscript (thn (hv aC s σ H _ I h) λr s1 ⟨v,H1,I1,rv,q1⟩=>thn (ho aC s1 σ H1 _ I1 q1) λu s2 ⟨x,H2,I2,rx,q2⟩=>thn (hi aC s2 σ H2 _ I2 q2) λiv s3 ⟨y,H3,I3,ry,a,H4,ex,g,q3⟩=>?_) hs;subst ex;obtain rfl:u=aA.ref a:=rx;exact ajt hu I3 g ry rv λs4 I4=>⟨σ,H4,I4,q3⟩
end
def am8{P:aK}{w:aP}{H:Hp}(h:Heap)(hb:bL<h.objs.size):ObjOk P w H (h.push {cls:=.type "dict",data:=.dict #[]}) h.objs.size (.dK []):=
 ⟨fj _,beq_eq_false_iff_ne.mpr<|Ne.symm<|dw hb,[],.nil,Heap.DictOf.new h⟩
structure M2(X:Cx)(o:Expr)(m:Str)(jG:dU)(e f:Expr)(fJ:dU):Prop where
 base:pW o m X.env (bT o X.env)=bT o X.env
 few:((dE fJ<|aT [e,f] X.env).all (λx=>!x.1)&&(vT fJ<|lO [] X.env).all (λx=>x.1.isSome)
  && decide (([e,f]:Z Expr).length+([]:Z nH).length+(if ([]:Z nH).isEmpty then 0 else 1)<30))=true
 line:(jG.endLine==fJ.line)=true
 trees:dE fJ (aT [e,f] X.env)=[(false,bT e X.env),(false,bT f X.env)]
def IsD(H:Hp)(a:aF):Prop:=(∃kvs,Rd H a<|.dK kvs)\/∃kvs,Rd H a<|.dT kvs
def aul{X:Cx}{aC:Z (aF×Obj)}{σ:St}{H:Hp}{s:aB}{a:aF}(I:Inv X aC σ H s)(d:IsD H a) :
  s.TypeIs (.ref a) "dict"/\(∀b,aA.ref a=.ref b->∃ob,s.heap.get? b=some ob/\ob.dict=none)/\(a==bL)=false:=by
 rcases d with ⟨kvs,e⟩|⟨kvs,e⟩
 .obtain⟨_,hd,vs,_,dd⟩:=yJ I.hok e;refine⟨dd.typeIs,λb q=>?_,hd⟩;cases q;obtain⟨ob,_,_,h1,h2,_⟩:=dd;exact⟨ob,h1,h2.2.1⟩
 .obtain⟨_,hd,xs,_,dd⟩:=yM I.hok e;refine⟨dd.typeIs,λb q=>?_,hd⟩;cases q;obtain⟨ob,_,_,h1,h2,_⟩:=dd;exact⟨ob,h1,h2.2.1⟩
section
variable{X:Cx}{aC:Z (aF×Obj)}{σ:St}{H:Hp}{s:aB}{a:aF}{y d:V}{u r:aA}{o:Option V}{A:Around}{E:aA->aB->Prop}
def as4{Q:aA->aB->Prop}(hu:A.units+1<bH)(I:Inv X aC σ H s)(g:DGet H a y o)(ry:RelV y u)(rd:RelV d r)(h:∀w' s',Inv X aC σ H s'->RelV (o.getD d) w'->Q w' s') :
  aG (aH X.prog X.w) A (call (.builtin "dict.get") [.ref a,u,r]) Q E s:=by
 rcases g with ⟨kvs,k,e,ey,l⟩|⟨kvs,k,b,e,ey,eb,l⟩
 .subst ey;obtain⟨z,hd,vs,rel,dd⟩:=yJ I.hok e;refine call_meetsIn PySem.F.slot_dict_get dd.typeIs PySem.F.entry_dict_get (PySem.F.args_dict_get_3 _ _ _) (meets_dict_get_default (pi X.prog X.w) a (Ao ry) hd r) ⟨_,dd.mapOf,h _ _ (I.tok _) ?_⟩;rw[l];exact(rel.val k).getD rd
 .subst ey;cases (show u=aA.ref b from ry);obtain⟨z,hd,xs,rel,dd⟩:=yM I.hok e;refine call_meetsIn PySem.F.slot_dict_get dd.typeIs PySem.F.entry_dict_get (PySem.F.args_dict_get_3 _ _ _) (meetsH_dict_get_default (iH<|pi X.prog X.w) a b hd r) ⟨cT hu,k,xs,Ax I.hok eb,dd,h _ _ (I.tok _) ?_⟩;rw[l];exact(rel.val k).getD rd
end
def aux(td ty tx:TE):TE:=λσ H Q=>td σ H λx H1=>∃a,x=.ref a/\IsD H1 a/\ty σ H1 λy H2=>tx σ H2 λz H3=>∃o,DGet H3 a y o/\Q (o.getD z) H3
section
variable{X:Cx}{o e f:Expr}{jG fJ:dU}{td ty tx:TE}
def am5(hu:X.A.units+1<bH)(ho:PE X o td)(he:PE X e ty)(hf:PE X f tx)(m:M2 X o "get" jG e f fJ):PE X (.Call (.Attribute o "get" jG) [e,f] [] fJ) (aux td ty tx):=by
 intro aC s σ H Q I h;refine wpAny_Call_method m.base m.few m.line PySem.F.plainAttrs_dict PySem.F.slot_dict_get PySem.F.type_dict_get<|thn (ho aC s σ H _ I h) λu s1 ⟨x,H1,I1,rx,a,ex,d,q1⟩=>?_;subst ex;obtain rfl:u=aA.ref a:=rx;obtain⟨t1,t2,_⟩:=aul I1 d;refine⟨t1,t2,?_⟩;rw[m.trees];refine Calls.callWith_builtin rfl (Calls.evalArgs_plain (Calls.spliced_cons (thn (he aC s1 σ H1 _ I1 q1) λiv s2 ⟨y,H2,I2,ry,q2⟩=>
  Calls.spliced_cons (thn (hf aC s2 σ H2 _ I2 q2) λfv s3 ⟨z,H3,I3,rz,ov,g,q3⟩=>Calls.spliced_nil ?_))))
 exact as4 hu I3 g ry rz λw' s4 I4 gP=>⟨_,H3,I4,gP,q3⟩
end
end L2
namespace L3
structure Mat where
 h:Nat
 w:Nat
 g:Nat->Nat->Nat
noncomputable def ox(M:Mat)(r:Nat):Z Nat:=(cp M.w).map (M.g r)
structure OkM(P:Nat->Prop)(M:Mat):Prop where
 h1:0<M.h
 h8:M.h<=8
 w1:0<M.w
 w8:M.w<=8
 sg:∀r c,r<M.h->c<M.w->P (M.g r c)
theorem aau{α:Type}{R:α->α->Prop}(as:∀x y,R x y->¬R y x):∀{xs ys:List α},xs.Pairwise R->ys.Pairwise R->(∀z,z∈xs↔z∈ys)->xs=ys
 | [],[],_,_,_=>rfl
 | [],y::ys,_,_,h=>absurd ((h y).mpr ao) (by simp)
 | x::xs,[],_,_,h=>absurd ((h x).mp ao) (by simp)
 | x::xs,y::ys,p,q,h=>by
  obtain⟨p1,p2⟩:=gh.mp p;obtain⟨q1,q2⟩:=gh.mp q;have e:x=y:=by
   rcases ax.mp ((h x).mp ao)with e|a
   .exact e
   .rcases ax.mp ((h y).mpr ao)with e|b
    .exact e.symm
    .exact absurd (q1 x a)<|as _ _<|p1 y b
  subst e;refine congrArg _<|aau as p2 q2 λz=>⟨λhz=>?_,λhz=>?_⟩
  .rcases ax.mp ((h z).mp (au _ hz))with e|a
   .subst e;exact absurd (p1 z hz) λk=>as _ _ k k
   .exact a
  .rcases ax.mp ((h z).mpr (au _ hz))with e|a
   .subst e;exact absurd (q1 z hz) λk=>as _ _ k k
   .exact a
end L3
namespace L3
open PySem PySem.Spec PyProof.Rows L2
noncomputable def sLt(x y:Str):Bool:=decide<|x.cps.toList<y.cps.toList
def api{x y:Str}(h:sLt x y=true):sLt y x=false:=by have h':x.cps.toList<y.cps.toList:=of_decide_eq_true h;exact decide_eq_false<|List.lt_asymm h'
def ath{a b c:Str}(h1:sLt b a=false)(h2:sLt c b=false):sLt c a=false:=by have fU:a.cps.toList<=b.cps.toList:=of_decide_eq_false h1;have gD:b.cps.toList<=c.cps.toList:=of_decide_eq_false h2;exact decide_eq_false<|List.le_trans fU gD
def Jj{a b:Str}(h1:sLt a b=false)(h2:sLt b a=false):a=b:=by
 have fU:b.cps.toList<=a.cps.toList:=of_decide_eq_false h1;have gD:a.cps.toList<=b.cps.toList:=of_decide_eq_false h2;have e:=List.le_antisymm gD fU;cases a;cases b;simp only at e
 congr
 exact Array.ext' e
def aro(a:Str):sLt a a=false:=decide_eq_false<|List.lt_irrefl _
def vt(i j:Int)(r r':Z U):pk (.int i::r) (.int j::r')=if i=j then pk r r' else decide (i<j):=by
 show(if (i==j)=true then pk r r' else decide (i<j))=_;by_cases h:i=j
 .rw[if_pos h,if_pos<|by rw[h];simp]
 .rw[if_neg h,if_neg<|by simpa using h]
def Ja(x y:Str)(r r':Z U):pk (.str x::r) (.str y::r')=if x=y then pk r r' else sLt x y:=by
 show(if (x==y)=true then pk r r' else decide (x.cps.toList<y.cps.toList))=_;by_cases h:x=y
 .rw[if_pos h,if_pos<|by rw[h];simp]
 .rw[if_neg h,if_neg<|by simpa using h];rfl
theorem EK:∀{ks:Z Bool} {xs ys:Z U},Row ks xs->Row ks ys->pk xs ys=true->pk ys xs=false
 | [],xs,ys,h1,h2,h=>by cases (show xs=[]from h1);cases (show ys=[]from h2);rfl
 | true::ks,xs,ys,h1,h2,h=>by
  obtain⟨i,r,rfl,h1⟩:=h1;obtain⟨j,r',rfl,h2⟩:=h2;rw[vt]at h⊢;by_cases e:i=j
  .rw[if_pos e]at h;rw[if_pos e.symm];exact EK h1 h2 h
  .rw[if_neg e]at h;rw[if_neg (Ne.symm e)];have:=of_decide_eq_true h;exact decide_eq_false (by omega)
 | false::ks,xs,ys,h1,h2,h=>by
  obtain⟨i,r,rfl,h1⟩:=h1;obtain⟨j,r',rfl,h2⟩:=h2;rw[Ja]at h⊢;by_cases e:i=j
  .rw[if_pos e]at h;rw[if_pos e.symm];exact EK h1 h2 h
  .rw[if_neg e]at h;rw[if_neg (Ne.symm e)];exact api h
theorem EC:∀{ks:Z Bool} {a b c:Z U},Row ks a->Row ks b->Row ks c->pk b a=false->pk c b=false->pk c a=false
 | [],a,b,c,h1,h2,h3,h4,h5=>by cases (show a=[]from h1);cases (show c=[]from h3);rfl
 | true::ks,a,b,c,h1,h2,h3,h4,h5=>by
  obtain⟨i,r,rfl,h1⟩:=h1;obtain⟨j,r',rfl,h2⟩:=h2;obtain⟨k,r'',rfl,h3⟩:=h3;rw[vt]at h4 h5⊢;by_cases e1:j=i
  .rw[if_pos e1]at h4;by_cases e2:k=j
   .rw[if_pos e2]at h5;rw[if_pos (e2.trans e1)];exact EC h1 h2 h3 h4 h5
   .rw[if_neg e2]at h5;rw[if_neg (by omega)];have:=of_decide_eq_false h5;exact decide_eq_false<|by omega
  .rw[if_neg e1]at h4;have q1:=of_decide_eq_false h4;by_cases e2:k=j
   .rw[if_neg (by omega)];exact decide_eq_false<|by omega
   .rw[if_neg e2]at h5;have q2:=of_decide_eq_false h5;rw[if_neg (by omega)];exact decide_eq_false (by omega)
 | false::ks,a,b,c,h1,h2,h3,h4,h5=>by
  obtain⟨i,r,rfl,h1⟩:=h1;obtain⟨j,r',rfl,h2⟩:=h2;obtain⟨k,r'',rfl,h3⟩:=h3;rw[Ja]at h4 h5⊢;by_cases e1:j=i
  .rw[if_pos e1]at h4;by_cases e2:k=j
   .rw[if_pos e2]at h5;rw[if_pos (e2.trans e1)];exact EC h1 h2 h3 h4 h5
   .rw[if_neg e2]at h5;rw[if_neg (by rw[<-e1];exact e2),<-e1];exact h5
  .rw[if_neg e1]at h4;by_cases e2:k=j
   .rw[if_neg (by rw[e2];exact e1),e2];exact h4
   .rw[if_neg e2]at h5;by_cases e3:k=i
    .subst e3;exact absurd (Jj h5 h4) e2
    .rw[if_neg e3];exact ath h4 h5
theorem apr{ks0:Z Bool}{ds:Z U}(h:Rows ks0 ds):Ord (sR ds):=by
 obtain⟨ks,lA,hk⟩:∃ks,ks=true::ks0/\ks≠[]:=⟨_,rfl,by simp⟩;have pX:∀i,sn (ds.getD i .none)=[]\/Row ks (sn<|ds.getD i .none):=λi=>by
  by_cases hi:i<ds.length
  .right;have e:ds.getD i .none=ds[i]:=by simp[List.getD,hi]
   obtain⟨r,e2,hr⟩:=h ds[i] (ix hi);rw[e,e2,lA];exact hr
  .left;have e:ds.getD i .none=.none:=by simp[List.getD,jw<|Nat.le_of_not_lt hi]
   rw[e];rfl
 have ne:∀{r:Z U},Row ks r->∃x xs,r=x::xs:=λ{r} hr=>by
  match ks,hk,hr with
  | true::ks,_,⟨i,r,e,_⟩=>exact(l8 _ _ e)
  | false::ks,_,⟨i,r,e,_⟩=>exact(l8 _ _ e)
 refine⟨λa b mD=>?_,λa b c h1 h2=>?_⟩
 .show pk (sn<|ds.getD b .none) (sn<|ds.getD a .none)=false;have xU:pk (sn<|ds.getD a .none) (sn<|ds.getD b .none)=true:=mD;rcases pX a with ea|ea<;>rcases pX b with eb|eb
  .rw[ea,eb];rfl
  .obtain⟨x,xs,e⟩:=ne eb;rw[ea,e];rfl
  .obtain⟨x,xs,e⟩:=ne ea;rw[e,eb]at xU;cases xU
  .exact EK ea eb xU
 .show pk (sn<|ds.getD c .none) (sn<|ds.getD a .none)=false;have fU:pk (sn<|ds.getD b .none) (sn<|ds.getD a .none)=false:=h1;have gD:pk (sn<|ds.getD c .none) (sn<|ds.getD b .none)=false:=h2;rcases pX a with ea|ea
  .rw[ea];rcases pX c with ec|ec
   .rw[ec];rfl
   .obtain⟨x,xs,e⟩:=ne ec;rw[e];rfl
  .obtain⟨x,xs,e⟩:=ne ea;rcases pX b with eb|eb
   .rw[eb,e]at fU;cases fU
   .obtain⟨y,ys,e2⟩:=ne eb;rcases pX c with ec|ec
    .rw[ec,e2]at gD;cases gD
    .exact EC ea eb ec fU gD
theorem EH:∀{ks:Z Bool} {a b:Z U},Row ks a->Row ks b->pk a b=false->pk b a=false->a=b
 | [],a,b,h1,h2,_,_=>by cases (show a=[]from h1);cases (show b=[]from h2);rfl
 | true::ks,a,b,h1,h2,h3,h4=>by
  obtain⟨i,r,rfl,h1⟩:=h1;obtain⟨j,r',rfl,h2⟩:=h2;rw[vt]at h3 h4;by_cases e:i=j
  .rw[if_pos e]at h3;rw[if_pos e.symm]at h4;rw[e,EH h1 h2 h3 h4]
  .rw[if_neg e]at h3;rw[if_neg (Ne.symm e)]at h4;have:=of_decide_eq_false h3;have:=of_decide_eq_false h4;exact absurd (by omega) e
 | false::ks,a,b,h1,h2,h3,h4=>by
  obtain⟨i,r,rfl,h1⟩:=h1;obtain⟨j,r',rfl,h2⟩:=h2;rw[Ja]at h3 h4;by_cases e:i=j
  .rw[if_pos e]at h3;rw[if_pos e.symm]at h4;rw[e,EH h1 h2 h3 h4]
  .rw[if_neg e]at h3;rw[if_neg (Ne.symm e)]at h4;exact absurd (Jj h3 h4) e
theorem Kq{α:Type}{R:α->α->Prop}:∀{xs ys:List α},xs.Perm ys->xs.Pairwise R->ys.Pairwise R->(∀x∈xs,∀y∈xs,R x y->R y x->x=y)->xs=ys
 | [],ys,p,_,_,_=>(List.Perm.nil_eq p).symm▸rfl
 | x::xs,[],p,_,_,_=>absurd p.length_eq (by simp)
 | x::xs,y::ys,p,hx,hy,ha=>by
  have wT:=gh.mp hx;have vA:=gh.mp hy;have m1:y∈x::xs:=p.mem_iff.mpr ao;have m2:x∈y::ys:=p.mem_iff.mp ao;have e:x=y:=by
   rcases ax.mp m1 with e|m
   .exact e.symm
   .rcases ax.mp m2 with e|m'
    .exact e
    .exact ha x ao y m1 (wT.1 y m)<|vA.1 x m'
  subst e;rw[Kq (List.Perm.cons_inv p) wT.2 vA.2 λa h1 b h2=>ha a (au _ h1) b<|au _ h2]
def vc(ds:Z U):((cp ds.length).map λi=>ds.getD i .none)=ds:=by
 apply List.ext_getElem
 .simp
 .intro i h1 h2;simp[List.getD,h2]
def ow(ds:Z U):(ub ds).Perm ds:=by have h:=(Ka (sR ds) ds.length).map λi=>ds.getD i .none;rw[vc]at h;exact h
theorem aha{ks:Z Bool}{ds:Z U}(h:Rows ks ds){i j:Nat}{x y:U}(hx:(ub ds)[i]?=some x)(hy:(ub ds)[j]?=some y)(cO:i<=j):pk (sn y) (sn x)=false:=by
 unfold ub at hx hy;rw[bz]at hx hy;have hj:j<(srt (sR ds) ds.length).length:=by
  cases e:(srt (sR ds) ds.length)[j]? with
  | none=>rw[e]at hy;cases hy
  | some k=>exact(aj.mp e).1
 have hi:i<(srt (sR ds) ds.length).length:=by omega
 rw[ah hi]at hx;rw[ah hj]at hy;cases hx;cases hy;have u:=aoh (apr h) ds.length cO (by rw[xj]at hj;exact hj);have e1:(srt (sR ds) ds.length).getD i 0=(srt (sR ds) ds.length)[i]:=by simp[List.getD,hi]
 have e2:(srt (sR ds) ds.length).getD j 0=(srt (sR ds) ds.length)[j]:=by simp[List.getD,hj]
 rw[e1,e2]at u;exact u
end L3
namespace L3
open PySem PySem.Spec PyProof.Rows
section
variable{prog:aK}{w:aP}{A:Around}{R:oO->aB->Prop}{I:aF}{fp wr:Z aF}{n:Nat}{P:Nat->aA->Prop}{St:Nat->Heap->Prop}
theorem akq(kw:Z (Str×aA))(W:wF prog w A.in1 I fp wr n P St)(bt:Nat->Nat->Bool)(iO:CmpOf prog w A.in1 .Gt P bt)(S:aF)(oZ:S∉fp) :
  ∀(k j:Nat)(s:aB)(vb:aA)(c:Nat),n-(j+1)=k->j+1<=n->St (j+1) s.heap->P (gG bt j) vb->
  s.heap.get? S=some {cls:=.type "list",dict:=none,data:=.seq #[vb,vb] c,slots:=#[]}->
  (∀v h' tk,P (gG bt<|n-1) v->(∀b o,b∉wr->b≠S->s.heap.get? b=some o->h'.get? b=some o)->R (.ok<|.ret v) {s with heap:=h',toks:=tk})->
  dD (aH prog w) A (.builtin "max.loop" ⟨[.ref I,.none,.ref S],kw⟩) R s:=by
 have zX:S∉wr:=λh=>oZ<|W.sub _ h;have nm:(kC "max" ++ kC ".loop" : String)="max.loop":=by decide
 intro k;induction k with
 | zero=>
  intro j s vb c hk hj hst DY hS hR;have mM:j+1=n:=by omega
  refine iw F.entry_max_loop ?_;rw[gt kl _];show aG _ A.in1 (fQ (.ref S) >>= _) _ _ s;refine ab<|gj hS rfl ?_;show aG _ A.in1 (uL (bF<|.ref I) _ >>= _) _ _ s;refine ab<|hJ<|W.done s _ _ (mM▸hst) λh' tk eD=>?_;have gX:=eD S _ zX hS;show aG _ A.in1 (kW S (λ_=>#[]) >>= _) _ _ _;refine ab<|cQ gX rfl<|ab<|cC<|af ?_;exact hR vb _ tk (by rw[<-mM];exact DY) λb o pQ tW e=>(da _ _<|Ne.symm tW).trans (eD b o pQ e)
 | succ k ih=>
  intro j s vb c hk hj hst DY hS hR;have bQ:j+1<n:=by omega
  refine iw F.entry_max_loop ?_;rw[gt kl _];show aG _ A.in1 (fQ (.ref S) >>= _) _ _ s;refine ab<|gj hS rfl ?_;show aG _ A.in1 (uL (bF<|.ref I) _ >>= _) _ _ s;refine ab<|hJ<|W.item (j+1) s _ _ bQ hst λv h' tk hP oT eD=>?_;have gX:=eD S _ zX hS;show aG _ A.in1 (uL (mV [v,v]<|richCompare .Gt v vb >>= _) _ >>= _) _ _ _;refine ab<|hJ<|f9<|ab<|iO (j+1) (gG bt j) v vb _ _ _ hP DY ?_;refine ab<|f9<|ii ?_;refine ab<|cC<|af ?_;cases hb:bt (j+1) (gG bt j)with
  | true=>
   simp only[if_true];refine ab<|cQ gX rfl<|ab<|cC ?_;rw[nm];refine af ⟨kg kl _,ih (j+1) _ v _ (by omega) bQ (W.frame _ _ _ oT λb He o e=>?_) (by simp only[gG,hb,if_true];exact hP) (cr _ gX rfl) λv' rO qD xY rE=>?_⟩
   .exact(da _ _ λh:S=b=>oZ<|by rw[h];exact He).trans e
   .exact hR v' rO qD xY λb o pQ tW e=>rE b o pQ tW ((da _ _<|Ne.symm tW).trans (eD b o pQ e))
  | false=>
   simp only[bf,if_false];refine ab<|cC ?_;rw[nm];refine af ⟨kg kl _,ih (j+1) _ vb c (by omega) bQ oT (by simp only[gG,hb,bf,if_false];exact DY) gX λv' rO qD xY rE=>?_⟩;exact hR v' rO qD xY λb o pQ tW e=>rE b o pQ tW<|eD b o pQ e
def ah3(kw:Z (Str×aA))(W:wF prog w A.in1 I fp wr n P St)(bt:Nat->Nat->Bool)(iO:CmpOf prog w A.in1 .Gt P bt)(S:aF)(oZ:S∉fp)(hn:0<n){s:aB}{c:Nat}(hst:St 0 s.heap)
  (hS:s.heap.get? S=some {cls:=.type "list",dict:=none,data:=.seq #[] c,slots:=#[]})
  (hR:∀v h' tk,P (gG bt<|n-1) v->(∀b o,b∉wr->b≠S->s.heap.get? b=some o->h'.get? b=some o)->R (.ok<|.ret v) {s with heap:=h',toks:=tk}) :
  dD (aH prog w) A (.builtin "max.loop" ⟨[.ref I,.none,.ref S],kw⟩) R s:=by
 have zX:S∉wr:=λh=>oZ<|W.sub _ h;have nm:(kC "max" ++ kC ".loop" : String)="max.loop":=by decide
 refine iw F.entry_max_loop ?_;rw[gt kl _];show aG _ A.in1 (fQ (.ref S) >>= _) _ _ s;refine ab<|gj hS rfl ?_;show aG _ A.in1 (uL (bF<|.ref I) _ >>= _) _ _ s;refine ab<|hJ<|W.item 0 s _ _ hn hst λv h' tk hP oT eD=>?_;have gX:=eD S _ zX hS;show aG _ A.in1 (kW S (λ_=>#[v,v]) >>= _) _ _ _;refine ab<|cQ gX rfl ?_;rw[nm];refine af ⟨kg kl _,akq kw W bt iO S oZ _ 0 _ v _ rfl hn (W.frame _ _ _ oT λb He o e=>?_) hP (cr _ gX rfl) λv' rO qD xY rE=>?_⟩
 .exact(da _ _ λh:S=b=>oZ<|by rw[h];exact He).trans e
 .exact hR v' rO qD xY λb o pQ tW e=>rE b o pQ tW<|(da _ _<|Ne.symm tW).trans (eD b o pQ e)
end
section
variable{prog:aK}{w:aP}{A:Around}{E:aA->aB->Prop}{s:aB}
theorem af0{x d:aA}{Q:aA->aB->Prop}
  (h:aG (aH prog w) A.in1 (kX x) (λit s₂=>∃I fp wr n P St bt,it=.ref I/\wF prog w A.in1 I fp wr n P St/\St 0 s₂.heap/\(∀b∈fp,b<s₂.heap.objs.size)/\0<n/\CmpOf prog w A.in1 .Gt P bt/\
   ∀v h' tk,P (gG bt<|n-1) v->(∀b o,b∉wr->s₂.heap.get? b=some o->h'.get? b=some o)->Q v {s₂ with heap:=h',toks:=tk}) E s) :
  aG (aH prog w) A (call (.builtin "max") [x] [(bh "default",d)]) Q E s:=by
 have nm:(kC "max" ++ kC ".loop" : String)="max.loop":=by decide
 refine yT<|vR F.plain_max F.entry_max ?_;simp only[Er,F.kind_max];have go:aG (aH prog w) A.in1 (Builtin.«max» ⟨[x],[(bh "default",d)]⟩) (λfin s'=>match fin with
   | .done f=>(match (Except.ok f:oO)with|.ok (.ret v)=>Q v s'|.ok _=>False|.error e=>E e s')
   | .again c'=>c'.quiet=true/\dD (aH prog w) A c' (λr s'=>match r with|.ok (.ret v)=>Q v s'|.ok _=>False|.error e=>E e s') s') E s:=by
  show aG _ A.in1 (Builtin.Builtins.bindParams "max" ["key","default"] 0 ⟨[],[(bh "default",d)]⟩ >>= _) _ _ s;refine ab<|eY (show Builtin.Builtins.bindParams "max" ["key","default"] 0 ⟨[],[(bh "default",d)]⟩=aR [none,some d]from rfl) ?_;refine ab<|af ?_;refine ab<|jc h (λit s₂ h₂=>?_) λ_ _ e=>e;obtain⟨I,fp,wr,n,P,St,bt,rfl,W,hst,vG,hn,iO,hQ⟩:=h₂;refine ab<|cy ?_;have oZ:s₂.heap.objs.size∉fp:=λhm=>js _<|vG _ hm;rw[nm];refine af ⟨kg kl _,ah3 _ W bt iO s₂.heap.objs.size oZ hn (W.frame _ _ _ hst λb _ o e=>ai _ e) (a6 _ rfl) λv h' tk hP hk=>?_⟩;exact hQ v h' tk hP λb o pQ e=>hk b o pQ (dw<|bn e)<|ai _ e
 cases Gd:Manifest.signature? "max" with
 | none=>exact af go
 | some sig=>
  have BW:Bind.checkArgs "max" sig ⟨[x],[(bh "default",d)]⟩=aR ():=by have:=ak5 x d;simpa only [Ag,Gd]using this
  simp only[BW];exact af go
def amc{l:aF}{d:aA}{vs:Z aA}{ns:Z Int}{Q:aA->aB->Prop}(hh:A.handled=none)(hl:s.heap.IsList l vs.toArray)(hi:gH vs ns)(gW:0<ns.length)
  (h:∀h' M (t:sV) tk,(∀b o,s.heap.get? b=some o->h'.get? b=some o)->M∈ns->(∀a,a∈ns->a<=M)->Q (.int M t) {s with heap:=h',toks:=tk}) :
  aG (aH prog w) A (call (.builtin "max") [.ref l] [(bh "default",d)]) Q E s:=by
 obtain⟨xs,e⟩:=hi.allInts.items;have oC:ns=xs.toList.map (·.1):=by rw[<-hi.numsOf,<-nums_intItems,<-e]
 have hsz:0<xs.size:=by have h3:=gW;rw[oC,ae,a8]at h3;exact h3
 rw[e]at hl;refine af0<|iter_intList hl λs₂ e st vG hlI=>?_;subst e;refine(lw _ _ _ _ _<|l8 _ _ ⟨rfl,wF.list (A:=A.in1) hh _ l hlI<|uZ xs,st,vG,by simpa [uZ]using hsz,CmpOf.ints_gt (numAt xs) λ_ _=>uY,λv h' tk hP hk=>?_⟩);have hv:(uZ xs)[gG (λi j=>decide<|numAt xs i>numAt xs j) (xs.size-1)]?=some v:=by simpa [uZ]using hP
 obtain⟨t,rfl⟩:=uY hv;obtain⟨h1,h2⟩:=argBest_gt (numAt xs)<|xs.size-1;refine h _ _ t tk (old_kept hk) ?_ λa ha=>?_
 .rw[oC,uW];exact getD_mem<|by rw[ae,a8];omega
 .rw[oC]at ha;obtain⟨j,hj,rfl⟩:=mem_getD ha;rw[ae,a8]at hj;rw[<-uW];exact h2 j<|by omega
end
end L3
namespace L3
open PySem PySem.Spec PyProof.Rows L2
section
variable{X:Cx}{x:Str}{p pos qN:dU}{e e2:Expr}{es:Z Expr}{t tk:TA}{te:TE}
def azd:Z V->Hp->VK->Prop:=λxs H Q=>∃q,∃ns:Z Int,xs=[.ref q]/\H q=some (.lst<|ns.map V.int)/\0<ns.length/\∀M,M∈ns->(∀a∈ns,a<=M)->Q (.int M) H
def av5(t tk:TA):TE:=λσ H Q=>t σ H λvs H1=>tk σ H1 λzs H2=>zs.length=1/\azd vs H2 Q
theorem aks(hc:X.calm=true)(hg:Gl X "max")(hm:X.mg "max" = none)(ha:PA X [e] t)(hkw:PK X [⟨some "default",e2,qN⟩] tk)
  (he:dE pos (aT [e] X.env)=(false,bT e X.env)::dE pos (aT [] X.env):=by rfl) (iM:(dE pos<|aT [e] X.env).any (·.1)=false:=by rfl) :
  PE X (.Call (.Name "max" p) [e] [⟨some "default",e2,qN⟩] pos) (av5 t tk):=by
 intro aC s σ H Q I h;refine jt (uq I hg hm boot_max ?_ (by decide)<|by decide);refine callWith_kw (thn (ha pos aC s σ H _ I h) λus s1 ⟨vs,H1,I1,r,q⟩=>thn (hkw pos aC s1 σ H1 _ I1 q) λws s2 ⟨zs,H2,I2,rz,FV,q2⟩=>?_) he iM;obtain⟨d,rfl⟩:∃d,ws=[d]:=by
  have hl:ws.length=1:=rz.length.symm.trans FV
  match ws,hl with
  | [d],_=>exact⟨d,rfl⟩
 obtain⟨l,ns,rfl,hq,hn,hQ⟩:=q2;obtain⟨u,rfl,r1⟩:=wm r;cases (show u=aA.ref l from r1);obtain⟨its,rv,pl,hz⟩:=I2.list<|SqL.of (K:=X.K) hq;exact amc (I2.ok.hd hc) pl.isList (abw rv) hn λh' M t tk k h1 h2=>(l8 (.int M) H2 ⟨I2.kept k,⟨_,rfl⟩,hQ M h1 h2⟩)
end
noncomputable def vy:Z Int->Int
 | []=>0
 | [a]=>a
 | a::b::r=>if vy (b::r)<=a then a else vy (b::r)
theorem vx:∀{ns:Z Int},0<ns.length->vy ns∈ns
 | [],h=>by simp at h
 | [a],_=>by simp[vy]
 | a::b::r,_=>by
  unfold vy;split
  .exact ao
  .exact au _<|vx<|by simp
theorem zu:∀{ns:Z Int},∀a∈ns,a<=vy ns
 | [],a,h=>by cases h
 | [a],b,h=>by
  have e:b=a:=by simpa using h
  rw[e];exact jm _
 | a::b::r,x,h=>by
  unfold vy;rcases ax.mp h with e|h
  .rw[e];split
   .exact jm _
   .lia
  .have:=zu (ns:=b::r) x h;split
   .lia
   .exact this
def JE{ns:Z Int}{M:Int}(h1:M∈ns)(h2:∀a∈ns,a<=M):M=vy ns:=by have hp:0<ns.length:=List.length_pos_of_mem h1;have a1:=h2 _<|vx hp;have a2:=zu M h1;lia
noncomputable def Ai(m:Int):U->U
 | .tuple [.int r,.int c,.str x]=>.tuple [.int r,.int<|m-c,.str x]
 | d=>d
noncomputable def Ah(m:Int):U->U
 | .tuple [.int r,.int c,.str x]=>.tuple [.int c,.int<|m-r,.str x]
 | d=>d
noncomputable def kN(ds:Z U):Z U:=ds.map<|Ai<|vy<|ds.map qu
noncomputable def lD(ds:Z U):Z U:=ds.map<|Ah<|vy<|ds.map qw
noncomputable def u8(t:Nat)(ds:Z U):Z U:=(cp<|t % 4).foldl (λa _=>lD a) (if 4<=t then kN ds else ds)
def ai0{ds:Z U}(h:Spots ds)(m:Int):Spots (ds.map<|Ai m):=λd hd=>by obtain⟨e,he,rfl⟩:=aw.mp hd;obtain⟨r,c,x,rfl⟩:=h e he;exact(mz _ _ _ rfl)
def akj{ds:Z U}(h:Spots ds)(m:Int):Spots (ds.map<|Ah m):=λd hd=>by obtain⟨e,he,rfl⟩:=aw.mp hd;obtain⟨r,c,x,rfl⟩:=h e he;exact(mz _ _ _ rfl)
def xn{ds:Z U}(h:Spots ds):Rows [true,false] ds:=λd hd=>by obtain⟨r,c,x,rfl⟩:=h d hd;exact(nu _ rfl _ _ ⟨rfl,(l8 _ _ ⟨rfl,(l8 _ _ ⟨rfl,rfl⟩)⟩)⟩)
section
variable{K:av}{a:aF}{xs:Z V}{ds:Z U}{σ:L2.St}{H:Hp}{Q:VK}
def abt{i0:Nat}(j:Int)(pr:U->Int)(hj:∀(r c:Int)(x:Str),atI [V.int r,.int c,.str x] j=some (.int<|pr<|.tuple [.int r,.int c,.str x]))
  (hσ:σ[i0]?=some (some<|.ref a)) (ha:H a=some (.lst xs)) (hr:RepAll H ds xs) (hs:Spots ds) (hl:ds.length<=64)
  (q:∀D H',Same H H'->H' D=some (.lst<|(ds.map pr).map V.int)->Q (.ref D) H') :
  vY (IL K<|mG i0) [none] (rq 0) jY (tOp (Is K) (mG 0)<|tC<|.int j) σ H Q:=by
 have bD:=hr.length;refine(oo _ hσ a ⟨rfl,⟨_,SqL.of ha⟩,λD hD=>?_⟩);refine pw (xs:=xs) (λi ys H'=>Same H H'/\ys=((ds.take i).map pr).map V.int) ⟨Same.fresh _ hD,rfl⟩ (λi ys H' p=>SqL.of<|p.1 _ _ ha) (λi x ys H' hx hi bJ gT p=>?_) λys H' bJ gT p=>?_
 .obtain⟨p1,rfl⟩:=p;obtain⟨b,r,c,z,rfl,hb,hz,hd⟩:=hs.at hr hx;refine⟨Agree.set (Agree.refl _) rfl,?_⟩;dsimp only[jY];refine xy ?_;refine(lr _ rfl b _ _ _ ⟨rfl,rfl,SqT.of<|p1 _ _ hb,hj r c z,p9 (by lia) bJ gT ⟨p1.new hD,?_⟩⟩);rw[mn pr hd,bu];rfl
 .obtain⟨p1,rfl⟩:=p;refine q D H' p1 ?_;rw[bJ,bi<|by lia]
def asv(r c:Int)(x:Str):atI [V.int r,.int c,.str x] 0=some (.int<|qw<|.tuple [.int r,.int c,.str x]):=rfl
def ave(r c:Int)(x:Str):atI [V.int r,.int c,.str x] 1=some (.int<|qu<|.tuple [.int r,.int c,.str x]):=rfl
def aet{m:Int}{i0 j:Nat}{ta tb:TE}(f:Int->U->U)(hσ:σ[i0]?=some (some<|.ref a))(h1:σ[j]?=some (some<|.int m))(ha:H a=some (.lst xs))(hr:RepAll H ds xs)(hs:Spots ds)(hl:ds.length<=64)
  (lT:∀(r c:Int)(z:Str)(H':Hp)(Q':VK),(∃u v:Int,f m (.tuple [.int r,.int c,.str z])=.tuple [.int u,.int v,.str z]/\∀n,H' n=none->Q' (.ref n) (upd H' n<|.tup [.int u,.int v,.str z]))->
   Ck (vf ta<|vf tb<|vf (mG 2) Al) [some (.int r),some<|.int c,some<|.str z,some<|.int m] H' Q')
  (q:∀D ys H',H D=none->Same H H'->H' D=some (.lst ys)->RepAll H' (ds.map<|f m) ys->Q (.ref D) H')
  (gM:∀(r c:Int)(z:Str),∃u v:Int,f m (.tuple [.int r,.int c,.str z])=.tuple [.int u,.int v,.str z]) :
  vY (IL K<|mG i0) [none,none,none,some j] (Cj K 3<|sS (rq 0)<|sS (rq 1)<|sS (rq 2) Ey) jY (Ck<|vf ta<|vf tb<|vf (mG 2) Al) σ H Q:=by
 have bD:=hr.length;refine(oo _ hσ a ⟨rfl,⟨_,SqL.of ha⟩,λD hD=>?_⟩);have hp:qt [none,none,none,some j] σ=[none,none,none,some<|.int m]:=by unfold qt;simp[h1]
 have im:∀es:Z U,(∀d∈es,d∈ds)->Spots (es.map<|f m):=λes he d hd=>by obtain⟨d0,h0,rfl⟩:=aw.mp hd;obtain⟨r0,c0,x0,rfl⟩:=hs d0<|he d0 h0;obtain⟨u,v,e⟩:=gM r0 c0 x0;exact(mz u v x0 e)
 refine pw (xs:=xs) (λi ys H'=>Same H H'/\RepAll H' ((ds.take i).map (f m)) ys) ⟨Same.fresh _ hD,rfl⟩ (λi ys H' p=>SqL.of<|p.1 _ _ ha) (λi x ys H' hx hi bJ gT p=>?_) λys H' bJ gT p=>?_
 .obtain⟨p1,p2⟩:=p;obtain⟨b,r,c,z,rfl,hb,hz,hd⟩:=hs.at hr hx;rw[hp];refine(me b _ rfl (SqT.of<|p1 _ _ hb) rfl _ _ rfl _<|nu _ rfl _ _ ⟨rfl,rfl,?_⟩);refine⟨Agree.set (Agree.set (Agree.set (Agree.refl _) rfl) rfl) rfl,?_⟩;dsimp only[jY];refine xy ?_;obtain⟨u,v,ef⟩:=gM r c z;refine lT r c z H' _<|l8 u v ⟨ef,λn hn=>?_⟩;have s2:Same H' (upd H' n<|.tup [.int u,.int v,.str z]):=Same.fresh _ hn;have n2:upd H' n (.tup [.int u,.int v,.str z]) n=some (.tup [.int u,.int v,.str z]):=l9;generalize upd H' n (.tup [.int u,.int v,.str z])=H2 at *;have eG:=s2 _ _ bJ;refine p9 (by lia) eG gT ⟨(p1.trans s2).new hD,?_⟩;have rep:RepAll H2 ((ds.take i).map (f m)++[f m (.tuple [.int r,.int c,.str z])]) (ys++[.ref n]):=by
   rw[ef];exact(p2.same s2).snoc (v0 n2 hz)
  rw[<-mn (f m) hd]at rep;exact rep.tk (Tk.lst eG)<|Spots.imm<|im _ λd tU=>cn tU
 .obtain⟨p1,p2⟩:=p;rw[bi (by lia)]at p2;exact q D ys H' hD p1 bJ p2
end
end L3
namespace L3
open PySem PySem.W PySem.Calls PyProof.Rows
def ak2{vs:Z aA}{p:aI}(h:p∈(vs.toArray.zip vs.toArray).toList):p.1=p.2/\p.1∈vs:=mem_zip_self<|by simpa using h
def an2{vs:Z aA}{arr:Array aI}(h:arr.Perm (vs.toArray.zip vs.toArray)):(arr.map (·.2)).toList.Perm vs:=by
 have h1:=(jq.mp h).map (·.2);have e:(vs.toArray.zip vs.toArray).toList.map (·.2)=vs:=by rw[show(vs.toArray.zip vs.toArray).toList=vs.zip vs by simp];exact List.map_snd_zip<|am _
 rw[e]at h1;rw[Array.toList_map];exact h1
def atn{g:aA->Int}{vs:Z aA}{arr:Array aI}(h:arr.Perm (vs.toArray.zip vs.toArray))(hs:Seg (λp=>g p.1) arr 0 (vs.toArray.zip vs.toArray).size):(arr.map (·.2)).toList.Pairwise λx y=>g x<=g y:=by
 have hsz:=h.size_eq;rw[Array.toList_map,gq];refine fw.mpr λi j hi hj cO=>?_;have eW:i<arr.size:=by simpa using hi
 have sL:j<arr.size:=by simpa using hj
 have q:=hs i j (fj _) (by lia) (by lia);rw[uk (getElem?_pos arr i eW),uk<|getElem?_pos arr j sL]at q;have two:∀k (hk:k<arr.size),arr[k].1=arr[k].2:=λk hk=>(ak2<|(jq.mp h).mem_iff.mp (by simp)).1;rw[two i eW,two j sL]at q;simpa using q
section
variable{prog:aK}{w:aP}{A:Around}{E:aA->aB->Prop}{s:aB}
def ab1{a:aF}{vs:Z aA}{n:Nat}{κ:aV}{g:aA->Int}{P:PySem.Fin->aB->Prop}(ho:s.heap.get? a=some (dA "list" vs.toArray n))(hz:vs.length<=aE)
  (hk:2<=vs.length->∀s':aB,(∀b o,b≠a->s.heap.get? b=some o->s'.heap.get? b=some o)->
   (∀(Q:aV->aB->Prop)(E:aA->aB->Prop),Q κ s'->aG (aH prog w) A (nW vs.toArray) Q E s')/\
   ∀x y,x∈vs->y∈vs->∀(Q:Bool->aB->Prop),Q (decide<|g x<g y) s'->aG (aH prog w) A (nV κ x y) Q (λ_ _=>False) s')
  (h:∀us:Z aA,us.Perm vs->us.Pairwise (λx y=>g x<=g y)->P (.done<|.ret .none) {s with heap:=sortedHeap s.heap a vs us.toArray}) :
  aG (aH prog w) A (Builtin.«list.sort» ⟨[.ref a],[]⟩) P E s:=by
 have ha:a<s.heap.objs.size:=bn ho;obtain⟨e1,zN⟩:∃e1,(s.heap.update a<|jj λ_=>(#[]:Array aA)).get? a=some (dA "list" #[] e1):=⟨_,get?_update_seq ho λ_=>#[]⟩;have DN:(((s.heap.update a<|jj λ_=>(#[]:Array aA)).push (dA "tuple" vs.toArray 0)).push (dA "list" #[] 0)).get? a=some (dA "list" #[] e1):=
  ai _ (ai _ zN)
 have kept:∀b o,b≠a->s.heap.get? b=some o->(((s.heap.update a<|jj λ_=>(#[]:Array aA)).push (dA "tuple" vs.toArray 0)).push (dA "list" #[] 0)).get? b=some o:=λb o hb e=>
  ai _ (ai _<|(da s.heap _<|Ne.symm hb).trans e)
 rw[list_sort_plain];refine ab<|listItems_at ho rfl ?_;refine ab<|pN ho rfl ?_ (by rw[a7];exact hz)<|fj _;refine ab<|uR zN rfl ?_;refine ab (nK ?_<|by show vs.length<=_;exact hz);refine ab<|pH ?_<|fj _;refine f9 ?_;show aG (aH prog w) A _ P E {s with heap:=((s.heap.update a<|jj λ_=>(#[]:Array aA)).push (dA "tuple" vs.toArray 0)).push (dA "list" #[] 0)};dsimp only;have aW:∀(aQ:aN),(aJ aQ).Perm (vs.toArray.zip vs.toArray)->bN aQ=none->Seg (λp=>g p.1) (aJ aQ) 0 (vs.toArray.zip vs.toArray).size->∃us:Z aA,us.Perm vs/\us.Pairwise (λx y=>g x<=g y)/\(aJ aQ).map (·.2)=us.toArray:=λaQ hp hf hs=>
  ⟨_,an2 hp,atn hp hs,Array.toArray_toList.symm⟩
 by_cases h2:vs.toArray.size<2
 .have gD:vs.length<2:=by simpa using h2
  rw[if_pos h2,if_pos h2];refine ab<|af ?_;rw[StateT.run_pure];refine ab<|af ?_;dsimp only;obtain⟨us,u1,u2,e0⟩:=aW (aN.mk' general' (vs.toArray.zip vs.toArray) #[] 7 none) (Array.Perm.refl _) rfl (λi j hi cO hj=>by
   have zF:(vs.toArray.zip vs.toArray).size=vs.length:=by simp
   obtain rfl:i=j:=by lia
   exact jm _)
  have zJ:=u1.length_eq;rw[e0];refine ab<|uR DN rfl ?_;refine ab (pN DN rfl ?_ (fj _)<|by rw[a7,zJ];exact Nat.le_succ_of_le hz);simp only[bne_self_eq_false,bf,if_false];exact af<|h us u1 u2
 .have gD:2<=vs.length:=by have:¬vs.length<2:=by simpa using h2
                           lia
  rw[if_neg h2,if_neg h2];obtain⟨k1,k2⟩:=hk gD {s with heap:=((s.heap.update a<|jj λ_=>(#[]:Array aA)).push (dA "tuple" vs.toArray 0)).push (dA "list" #[] 0)} kept;refine ab<|k1 _ _ ?_;refine ab (jc (afm (E:=E) (κ:=κ) (a₀:=vs.toArray.zip vs.toArray) (f:=λp=>g p.1) (mem:=λp=>p.1∈vs) (Q:=λ_ aQ=>∃us:Z aA,us.Perm vs/\us.Pairwise (λx y=>g x<=g y)/\(aJ aQ).map (·.2)=us.toArray/\bN aQ=none)
   (λx y hx hy Q hq=>k2 x.1 y.1 hx hy Q hq) (λx hx=>(ak2 hx).2) ⟨Array.Perm.refl _,rfl,rfl⟩ rfl (λaQ B hs=>?_)) ?_ λ_ _ e=>e)
  .obtain⟨us,u1,u2,e0⟩:=aW aQ B.perm B.failed hs;exact⟨us,u1,u2,e0,B.failed⟩
  .rintro⟨⟨⟩,aQ⟩ s' ⟨rfl,us,u1,u2,hout,hf⟩;have zJ:=u1.length_eq;dsimp only at hout hf⊢;rw[hout];refine ab<|uR DN rfl ?_;refine ab (pN DN rfl ?_ (fj _)<|by rw[a7,zJ];exact Nat.le_succ_of_le hz);rw[hf];simp only[bne_self_eq_false,bf,if_false];exact af<|h us u1 u2
end
end L3
namespace L3
open PySem PySem.Spec PyProof.Rows L2
theorem aj6{α β:Type}(g:α->β){us vs:List β}(p:us.Perm vs):∀{l:List α},l.map g=vs->∃l':List α,l'.Perm l/\l'.map g=us:=by
 induction p with
 | nil=>intro l e;exact⟨l,j4 _,e⟩
 | cons x p ih=>
  intro l e
  match l,e with
  | a::l,e=>
   rw[dq]at e;obtain⟨e1,e2⟩:=List.cons.inj e;obtain⟨l',p1,e3⟩:=ih e2;exact⟨a::l',p1.cons a,by rw[dq,e1,e3]⟩
 | swap x y r=>
  intro l e
  match l,e with
  | a::b::l,e=>
   rw[dq,dq]at e;obtain⟨e1,e'⟩:=List.cons.inj e;obtain⟨e2,e3⟩:=List.cons.inj e';exact⟨b::a::l,List.Perm.swap _ _ _,by rw[dq,dq,e1,e2,e3]⟩
 | trans p q ih1 ih2=>
  intro l e;obtain⟨l1,p1,e1⟩:=ih2 e;obtain⟨l2,p2,e2⟩:=ih1 e1;exact⟨l2,p2.trans p1,e2⟩
theorem aak{α:Type}{p q:α->Bool}:∀{l:List α},(∀e∈l,p e=true->q e=true)->(∃e∈l,q e=true/\p e=false)->l.countP p<l.countP q
 | [],_,⟨e,he,_⟩=>by simp at he
 | a::l,h,⟨e,he,h1,h2⟩=>by
  have hl:∀e∈l,p e=true->q e=true:=λe he=>h e<|au _ he;have mono:l.countP p<=l.countP q:=List.countP_mono_left hl;rcases ax.mp he with rfl|he
  .rw[List.countP_cons_of_neg (by simp[h2]),List.countP_cons_of_pos h1];lia
  .have ih:=aak hl ⟨e,he,h1,h2⟩;cases hp:p a with
   | true=>rw[List.countP_cons_of_pos hp,List.countP_cons_of_pos<|h a ao hp];lia
   | false=>
    rw[List.countP_cons_of_neg (by simp[hp])];have:=List.countP_le_length (p:=q) (l:=l);cases hq:q a with
    | true=>rw[List.countP_cons_of_pos hq];lia
    | false=>rw[List.countP_cons_of_neg (by simp[hq])];exact ih
structure vW(lt:U->U->Bool)(ds:Z U):Prop where
 asy:∀x∈ds,∀y∈ds,lt x y=true->lt y x=false
 tr:∀x∈ds,∀y∈ds,∀z∈ds,lt y x=false->lt z y=false->lt z x=false
noncomputable def At(lt:U->U->Bool)(ds:Z U)(d:U):Int:=((ds.countP λe=>lt e d:Nat):Int)
theorem akl{lt:U->U->Bool}{ds:Z U}(o:vW lt ds){d e:U}(hd:d∈ds)(he:e∈ds):decide (At lt ds d<At lt ds e)=lt d e:=by
 have irr:∀x∈ds,lt x x=false:=λx hx=>by
  cases q:lt x x with
  | false=>rfl
  | true=>have:=o.asy x hx x hx q;rw[q]at this;exact this
 unfold At;cases h:lt d e with
 | true=>
  refine decide_eq_true ?_;have:=aak (p:=λz=>lt z d) (q:=λz=>lt z e) (l:=ds) (λz hz h1=>?_) ⟨d,hd,h,irr d hd⟩
  .lia
  .show lt z e=true;cases q:lt z e with
   | true=>rfl
   | false=>rw[o.tr d hd e he z hz (o.asy d hd e he h) q]at h1;exact h1
 | false=>
  refine decide_eq_false ?_;have:=List.countP_mono_left (p:=λz=>lt z e) (q:=λz=>lt z d) (l:=ds) λz hz h1=>?_
  .lia
  .show lt z d=true;cases q:lt z d with
   | true=>rfl
   | false=>rw[o.tr e he d hd z hz h q]at h1;exact h1
open Classical in
def aiz{h:Heap}{lt:U->U->Bool}{os:Z aA}{bR:Z U}(hl:os.length=bR.length)(rd:∀(i:Nat)(v:aA)(d:U),os[i]?=some v->bR[i]?=some d->d.canLay0=true/\∃as,Reads h v d as)(o:vW lt bR) :
  ∃g:aA->Int,(∀(i j:Nat)(u v:aA)(d e:U),os[i]?=some u->bR[i]?=some d->os[j]?=some v->bR[j]?=some e->decide (g u<g v)=lt d e)/\
   ∀us:Z aA,us.Perm os->us.Pairwise (λx y=>g x<=g y)->∃T:Z (U×aA),T.map (·.2)=us/\(T.map (·.1)).Perm bR/\(T.map (·.1)).Pairwise (λx y=>lt y x=false)/\∀t∈T,∃i:Nat,bR[i]?=some t.1/\os[i]?=some t.2:=by
 obtain⟨g,hg⟩:∃g:aA->Int,∀(i:Nat)(d:U)(u:aA),bR[i]?=some d->os[i]?=some u->g u=At lt bR d:=by refine⟨λu=>if h:∃d,∃as,Reads h u d as/\d∈bR then At lt bR h.choose else 0,λi d u h1 h2=>?_⟩;obtain⟨lay,as,r⟩:=rd i u d h2 h1;have hx:∃d,∃as,Reads h u d as/\d∈bR:=(l8 d as ⟨r,ak h1⟩);show(if h:∃d,∃as,Reads h u d as/\d∈bR then At lt bR h.choose else 0)=_;rw[dif_pos hx];obtain⟨bs,rb,_⟩:=hx.choose_spec;rw[SeqAt.Reads.unique d hx.choose u as bs lay r rb]
 refine⟨g,λi j u v d e u1 d1 v1 e1=>?_,λus p up=>?_⟩
 .rw[hg i d u d1 u1,hg j e v e1 v1];exact akl o (ak d1)<|ak e1
 .have wK:(bR.zip os).map (λt=>t.2)=os:=List.map_snd_zip (by lia);have first:(bR.zip os).map (λt=>t.1)=bR:=List.map_fst_zip<|by lia
  obtain⟨T,tp,te⟩:=aj6 (λt:U×aA=>t.2) p wK;have tm:∀t∈T,∃i:Nat,bR[i]?=some t.1/\os[i]?=some t.2:=λt ht=>by obtain⟨i,hi⟩:=eu.mp<|tp.mem_iff.mp ht;obtain⟨a1,a2⟩:=List.getElem?_zip_eq_some.mp hi;exact⟨i,a1,a2⟩
  refine⟨T,te,?_,?_,tm⟩
  .have:=tp.map λt=>t.1;rw[first]at this;exact this
  .rw[gq];rw[<-te,gq]at up;refine gv (λ{a b} ha hb mD=>?_) up;obtain⟨i,a1,a3⟩:=tm a ha;obtain⟨j,b1,b3⟩:=tm b hb;rw[hg i _ _ a1 a3,hg j _ _ b1 b3]at mD;rw[<-akl o (ak b1) (ak a1)];exact decide_eq_false<|by lia
section
variable{prog:aK}{w:aP}{A:Around}{E:aA->aB->Prop}{s:aB}
def ah6{v:aA}{κ:aV}{Q:aA->aB->Prop}{P:Z aA->Z U->Prop}(hP:∀os bR,P os bR->os.length<=aE)
  (mY:∀(Q:Z aA->aB->Prop)(E:aA->aB->Prop),(∀os bR h1 tk dr,P os bR->(∀b o,s.heap.get? b=some o->h1.get? b=some o)->Q os {s with heap:=h1,toks:=tk,drawn:=dr})->aG (aH prog w) A.in1 (kL v) Q E s)
  (h:∀os bR,P os bR->∃g:aA->Int,(2<=os.length->∀s':aB,(∀b o,s.heap.get? b=some o->s'.heap.get? b=some o)->
   (∀(Q:aV->aB->Prop)(E:aA->aB->Prop),Q κ s'->aG (aH prog w) A.in1.in1 (nW os.toArray) Q E s')/\
   ∀x y,x∈os->y∈os->∀(Q:Bool->aB->Prop),Q (decide<|g x<g y) s'->aG (aH prog w) A.in1.in1 (nV κ x y) Q (λ_ _=>False) s')/\
   ∀(us:Z aA)(h1 h2:Heap)(tk:Nat) dr e,us.Perm os->us.Pairwise (λx y=>g x<=g y)->(∀b o,s.heap.get? b=some o->h1.get? b=some o)->(∀b o,h1.get? b=some o->h2.get? b=some o)->h2.get? h1.objs.size=some (dA "list" us.toArray e)->Q (.ref h1.objs.size) {s with heap:=h2,toks:=tk,drawn:=dr}) :
  aG (aH prog w) A (call (.builtin "sorted") [v]) Q E s:=by
 refine Calls.call_function_entry kind_sorted plain_sorted entry_sorted (args_sorted1 _) ?_;unfold Builtin.«sorted»;refine ab (m:=checkCount "sorted" 1 1 _)<|af<|ab<|mY _ _ λos bR h1 tk dr hp k1=>?_;obtain⟨g,hk,h⟩:=h os bR hp;have qW:=hP os bR hp;refine ab<|pH ?_ qW;have Bs:(h1.push<|dA "list" os.toArray 0).get? h1.objs.size=some (dA "list" os.toArray 0):=a6 _ rfl;have keep:∀b o,h1.get? b=some o->(h1.push<|dA "list" os.toArray 0).get? b=some o:=λb o q=>ai _ q;refine(?_:aG _ _ _ _ _ {s with heap:=h1.push<|dA "list" os.toArray 0,toks:=tk,drawn:=dr});refine ab<|f9<|cu slot_list_sort ⟨_,Bs,rfl⟩ entry_list_sort ?body<|args_list_sort _
 case body=>
  refine ab1 (κ:=κ) (g:=g) Bs qW (λh2 s' k=>hk h2 s' λb o e=>k b o (dw<|bn<|k1 b o e)<|keep b o<|k1 b o e) λus u1 u2=>?_;obtain⟨e,he⟩:=sortedHeap_at (out:=us.toArray) Bs;refine⟨_,rfl,af ⟨_,rfl,h us h1 _ tk dr e u1 u2 k1 (λb ob q=>?_) he⟩⟩;exact(sortedHeap_old (dw<|bn q)<|by rw[size_push'];exact Nat.lt_succ_of_lt<|bn q).trans (keep b ob q)
end
section
variable{X:Cx}{aC:Z (aF×Obj)}{σ:L2.St}{H:Hp}{s:aB}{A:Around}{E:aA->aB->Prop}
theorem aei(I:L2.Inv X aC σ H s){v:aA}{ds:Z U}{κ:aV}{lt:U->U->Bool}{Q:VK}{P:Z aA->Z U->Prop}
  (hP:∀os bR,P os bR->os.length<=aE/\os.length=bR.length/\bR.Perm ds/\∀(i:Nat) u d,os[i]?=some u->bR[i]?=some d->∃x,RelV x u/\Rep H d x)
  (mY:∀(Q:Z aA->aB->Prop)(E:aA->aB->Prop),(∀os bR h1 tk dr,P os bR->(∀b o,s.heap.get? b=some o->h1.get? b=some o)->Q os {s with heap:=h1,toks:=tk,drawn:=dr})->aG (aH X.prog X.w) A.in1 (kL v) Q E s)
  (o:vW lt ds)
  (hk:∀os bR,P os bR->2<=os.length->∀s':aB,(∀b o,s.heap.get? b=some o->s'.heap.get? b=some o)->∀(Q:aV->aB->Prop)(E:aA->aB->Prop),Q κ s'->aG (aH X.prog X.w) A.in1.in1 (nW os.toArray) Q E s')
  (hc:∀os bR,P os bR->∀s':aB,(∀b o,s.heap.get? b=some o->s'.heap.get? b=some o)->∀(i j:Nat)(d e:U)(u v:aA),os[i]?=some u->bR[i]?=some d->os[j]?=some v->bR[j]?=some e->∀(Q:Bool->aB->Prop),Q (lt d e) s'->aG (aH X.prog X.w) A.in1.in1 (nV κ u v) Q (λ_ _=>False) s')
  (q:∀l ys es,H l=none->es.Perm ds->es.Pairwise (λx y=>lt y x=false)->RepAll (upd H l<|.lst ys) es ys->Q (.ref l) (upd H l<|.lst ys)) :
  aG (aH X.prog X.w) A (call (.builtin "sorted") [v]) (EP X aC σ Q) E s:=by
 refine ah6 (κ:=κ) (λos bR h=>(hP os bR h).1) mY λos bR hp=>?_;obtain⟨hz,qW,pd,jL⟩:=hP os bR hp;have sub:∀d∈bR,d∈ds:=λd hd=>pd.mem_iff.mp hd;obtain⟨g,g1,g2⟩:=aiz (h:=s.heap) qW (λi v d h1 h2=>by obtain⟨x,e1,e2⟩:=jL i v d h1 h2;exact⟨e2.lay,e2.reads I e1⟩) (lt:=lt) ⟨λx hx y hy=>o.asy x (sub x hx) y<|sub y hy,λx hx y hy z hz=>o.tr x (sub x hx) y (sub y hy) z<|sub z hz⟩
 refine⟨g,λh2 s' k=>⟨hk os bR hp h2 s' k,λx y hx hy Q' hq=>?_⟩,λus h1 h2 tk dr e u1 u2 Bd Bc hg3=>?_⟩
 .obtain⟨i,hi⟩:=eu.mp hx;obtain⟨j,hj⟩:=eu.mp hy;have di:=ah (show i<bR.length by have:=(aj.mp hi).1;lia);have dj:=ah (show j<bR.length by have:=(aj.mp hj).1;lia);rw[g1 i j x y _ _ hi di hj dj]at hq;exact hc os bR hp s' k i j _ _ x y hi di hj dj Q' hq
 .obtain⟨T,te,tp,tu,tm⟩:=g2 us u1 u2;have tr:∀t∈T,∃x,RelV x t.2/\Rep H t.1 x:=λt ht=>by
   obtain⟨i,a1,a2⟩:=tm t ht;exact jL i _ _ a2 a1
  have htl:=(tp.trans pd).length_eq;have iM:=pd.length_eq;obtain⟨zs,v1,v2⟩:∃zs,Vals zs us/\RepAll H (T.map (·.1)) zs:=by
   rw[<-te];clear te tp tu tm htl;induction T with
   | nil=>exact⟨[],.nil,rfl⟩
   | cons t T ih=>
    obtain⟨x,x1,x2⟩:=tr t ao;obtain⟨ys,y1,y2⟩:=ih λt ht=>tr t<|au _ ht;exact(nu (x::ys) (.cons x1 y1) x ys ⟨rfl,x2,y2⟩)
  have I0:L2.Inv X aC σ H {s with drawn:=dr}:=⟨I.ok,I.os,I.bare,I.base,I.loc,I.cell,I.free,I.freeC,I.pin,I.hok,I.len⟩;have I3:L2.Inv X aC σ H {s with heap:=h1,toks:=tk,drawn:=dr}:=I0.kept Bd;have hn:H h1.objs.size=none:=I3.hok.fresh<|am _;have gT:=v2.length;exact(l8 (.ref h1.objs.size) _ ⟨I3.laid (t':=tk) (o:=.lst zs) Bc (am _) ⟨by lia,(l8 _ e ⟨v1,hg3⟩)⟩,rfl,q _ zs (T.map (·.1)) hn (tp.trans pd) tu<|v2.same λb o q=>by rw[ma (ou q hn)];exact q⟩)
def apn{ds:Z U}{ys:Z V}{its:Z aA}(dJ:RepAll H ds ys)(rv:Vals ys its)(i:Nat)(u:aA)(d:U)(h1:its[i]?=some u)(h2:ds[i]?=some d):∃x,RelV x u/\Rep H d x:=by obtain⟨x,e1,e2⟩:=dJ.get h2;obtain⟨u',e3,e4⟩:=rv.get e1;rw[h1]at e3;cases e3;exact⟨x,e4,e2⟩
def abx(I:L2.Inv X aC σ H s){v:aA}{ds:Z U}{ys:Z V}{its:Z aA}{κ:aV}{lt:U->U->Bool}{Q:VK}(dJ:RepAll H ds ys)(rv:Vals ys its)(hz:ys.length<=aE)
  (mY:∀(Q:Z aA->aB->Prop)(E:aA->aB->Prop),(∀h1 tk,(∀b o,s.heap.get? b=some o->h1.get? b=some o)->Q its {s with heap:=h1,toks:=tk})->aG (aH X.prog X.w) A.in1 (kL v) Q E s)
  (o:vW lt ds)
  (hk:2<=its.length->∀s':aB,(∀b o,s.heap.get? b=some o->s'.heap.get? b=some o)->∀(Q:aV->aB->Prop)(E:aA->aB->Prop),Q κ s'->aG (aH X.prog X.w) A.in1.in1 (nW its.toArray) Q E s')
  (hc:∀s':aB,(∀b o,s.heap.get? b=some o->s'.heap.get? b=some o)->∀(i j:Nat)(d e:U)(u v:aA),its[i]?=some u->ds[i]?=some d->its[j]?=some v->ds[j]?=some e->∀(Q:Bool->aB->Prop),Q (lt d e) s'->aG (aH X.prog X.w) A.in1.in1 (nV κ u v) Q (λ_ _=>False) s')
  (q:∀l ys es,H l=none->es.Perm ds->es.Pairwise (λx y=>lt y x=false)->RepAll (upd H l<|.lst ys) es ys->Q (.ref l) (upd H l<|.lst ys)) :
  aG (aH X.prog X.w) A (call (.builtin "sorted") [v]) (EP X aC σ Q) E s:=by
 have l1:ys.length=ds.length:=dJ.length;have l2:ys.length=its.length:=rv.length;refine aei (κ:=κ) (P:=λos bR=>os=its/\bR=ds) I ?_ (λQ E h=>mY Q E λh1 tk k=>h its ds h1 tk s.drawn ⟨rfl,rfl⟩ k) o ?_ ?_ q
 .rintro _ _ ⟨rfl,rfl⟩;exact⟨by lia,by lia,.refl _,apn dJ rv⟩
 .rintro _ _ ⟨rfl,rfl⟩;exact hk
 .rintro _ _ ⟨rfl,rfl⟩;exact hc
def ak1{p:aF}{its:Z aA}(pl:s.heap.IsList p its.toArray)(hz:its.length<=aE)(Q:Z aA->aB->Prop)(E:aA->aB->Prop)(h:∀h1 tk,(∀b o,s.heap.get? b=some o->h1.get? b=some o)->Q its {s with heap:=h1,toks:=tk}):aG (aH X.prog X.w) A.in1 (kL<|.ref p) Q E s:=
 collect_list pl (h _ _ λb o q=>(da _ _<|Ne.symm<|dw<|bn q).trans (ai _ q)) hz
end
noncomputable def ltR(x y:U):Bool:=pk (sn x)<|sn y
def anl{ks:Z Bool}{ds:Z U}(h:Rows ks ds):vW ltR ds:=by
 have pX:∀d∈ds,Row (true::ks) (sn d):=λd hd=>by obtain⟨r,e,hr⟩:=h d hd;rw[e];exact hr
 exact⟨λx hx y hy q=>EK (pX x hx) (pX y hy) q,λx hx y hy z hz q1 q2=>EC (pX x hx) (pX y hy) (pX z hz) q1 q2⟩
section
variable{X:Cx}
def aaj{aC:Z (aF×Obj)}{s:aB}{σ:L2.St}{H:Hp}{A:Around}{E:aA->aB->Prop}{v:aA}{ks:Z Bool}{ds:Z U}{xs:Z V}{its:Z aA}{Q:VK}(I:L2.Inv X aC σ H s)(dJ:RepAll H ds xs)(rv:Vals xs its)(fT:Rows ks ds)(hz:xs.length<=aE)
  (mY:∀(Q:Z aA->aB->Prop)(E:aA->aB->Prop),(∀h1 tk,(∀b o,s.heap.get? b=some o->h1.get? b=some o)->Q its {s with heap:=h1,toks:=tk})->aG (aH X.prog X.w) A.in1 (kL v) Q E s)
  (q:∀l ys es,H l=none->es.Perm ds->es.Pairwise (λx y=>ltR y x=false)->RepAll (upd H l<|.lst ys) es ys->Q (.ref l) (upd H l<|.lst ys)) :
  aG (aH X.prog X.w) A (call (.builtin "sorted") [v]) (EP X aC σ Q) E s:=by
 have l1:xs.length=ds.length:=dJ.length;have l2:xs.length=its.length:=rv.length;obtain⟨fs,kt,kf,ki⟩:=ahq I dJ rv fT;refine abx (κ:=tuples' true) (lt:=ltR) I dJ rv hz mY (anl fT) (λh2 s' k Q' E' hq=>?_) (λs' k i j d e u v ui di vj dj Q' hq=>?_) q
 .refine PySem.W.kat_kind (T:=aA.type "int") (KatTups.keeps k kt) (by lia) (λv hv=>?_) rfl hq;obtain⟨i,t,rfl⟩:=ki v hv;exact PySem.W.Looks.of_pure rfl
 .have tup:∀(i:Nat)(d:U)(u:aA),ds[i]?=some d->its[i]?=some u->∃a o vs n bs row,u=.ref a/\d=.tuple row/\Row (true::ks) row/\s'.heap.get? a=some o/\o.data=.seq vs n/\ReadsAll s'.heap vs.toList row bs:=λi d u hd hu=>by
   obtain⟨x,e1,e2⟩:=dJ.get hd;obtain⟨u',e3,e4⟩:=rv.get e1;rw[hu]at e3;cases e3;obtain⟨row,e5,tL⟩:=fT _<|ak hd;obtain⟨a,o,vs,n,bs,_,_,rfl,g1,_,g3,g4,_⟩:=ao7 I e2 e4 e5 tL;exact(lw a o vs n bs ⟨row,rfl,e5,tL,k _ _ g1,g3,ReadsAll.keeps k g4⟩)
  obtain⟨a,o,vs,n,as1,row,rfl,rfl,e3,e4,e5,e6⟩:=tup i d u di ui;obtain⟨a',o',AR,n',as2,Fx,rfl,rfl,f3,f4,f5,f6⟩:=tup j e v dj vj;have kG:Q' (pk row Fx) s':=hq;have z1:vs.size=ks.length+1:=by have q1:=jx _ _ _ e6;have q2:=e3.len;simp at q1 q2;lia
  have z2:AR.size=ks.length+1:=by have q1:=jx _ _ _ f6;have q2:=f3.len;simp at q1 q2;lia
  refine PySem.W.kat_lt e4 e5 f4 f5 ?_;rw[decide_eq_false (by lia)];exact Kc e3 f3 e6 f6 kG
def yt:tz X (.builtin "sorted") (λvs H Q=>∃p xs ds ks,vs=[.ref p]/\H p=some (.lst xs)/\RepAll H ds xs/\Rows ks ds/\
  ∀l ys es,H l=none->es.Perm ds->es.Pairwise (λx y=>ltR y x=false)->RepAll (upd H l<|.lst ys) es ys->Q (.ref l) (upd H l<|.lst ys)):=by
 intro aC s σ H xs us Q I r h;obtain⟨p,xs,ds,ks,rfl,hp,dJ,fT,q⟩:=h;obtain⟨u,rfl,r1⟩:=wm r;cases (show u=aA.ref p from r1);obtain⟨its,rv,pl,hz⟩:=I.list<|SqL.of (K:=X.K) hp;have l2:xs.length=its.length:=rv.length;exact aaj I dJ rv fT (by lia) (ak1 pl.isList<|by lia) q
def alk{ks:Z Bool}{ds es:Z U}(h:Rows ks ds)(p:es.Perm ds)(u:es.Pairwise (λx y=>ltR y x=false)):es=ub ds:=by
 refine Kq (R:=λx y=>ltR y x=false) (p.trans (ow ds).symm) u ?_ λx hx y hy h1 h2=>?_
 .rw[fw];intro i j hi hj cO;exact aha h (ah hi) (ah hj)<|dg cO
 .obtain⟨r,e,hr⟩:=h x<|p.mem_iff.mp hx;obtain⟨r',e',DK⟩:=h y<|p.mem_iff.mp hy;subst e e';have gD:pk r r'=false:=h2;have fU:pk r' r=false:=h1;rw[EH hr DK gD fU]
def aer:tz X (.builtin "sorted") (λvs H Q=>∃p xs ds ks,vs=[.ref p]/\H p=some (.lst xs)/\RepAll H ds xs/\Rows ks ds/\ds.length<64/\
  ∀l ys,H l=none->RepAll (upd H l<|.lst ys) (ub ds) ys->Q (.ref l) (upd H l<|.lst ys)):=by
 intro aC s σ H xs us Q I r h;obtain⟨p,xs,ds,ks,rfl,hp,dJ,fT,pE,q⟩:=h;refine yt aC s σ H _ us Q I r<|mf p xs ds ks ⟨rfl,hp,dJ,fT,λl ys es hl pe ue re=>?_⟩;rw[alk fT pe ue]at re;exact q l ys hl re
end
noncomputable def EI(M:Mat)(r c:Nat):U:=.tuple [.int (r:Nat),.int (c:Nat),.str ⟨#[M.g r c]⟩]
noncomputable def qz(M:Mat):Z Str:=(cp M.h).map λr=>⟨(ox M r).toArray⟩
def Aw{w r c:Nat}(hc:c<w):(r*w+c)/w=r:=by rw[Nat.mul_comm,Nat.mul_add_div<|by omega,Nat.div_eq_of_lt hc,Nat.add_zero]
def AH{w r c:Nat}(hc:c<w):(r*w+c) % w=c:=by rw[Nat.mul_comm,Nat.mul_add_mod,ie hc]
def lt2(x y:U):Prop:=qw x<qw y\/qw x=qw y/\qu x<qu y
def aqr(x y:U)(h:lt2 x y):¬lt2 y x:=by unfold lt2 at *;omega
def SgP(c:Nat):Prop:=sgB c=true
def Ct{c:Nat}(h:SgP c):c<128:=by unfold SgP sgB at h;simp at h;omega
def FlM(H:Hp)(a:aF)(M:Mat):Prop:=H a=some (.tup<|(qz M).map V.str)/\OkM SgP M
def FlM.same{H H':Hp}{a:aF}{M:Mat}(h:FlM H a M)(s:Same H H'):FlM H' a M:=⟨s _ _ h.1,h.2⟩
def p8(M:Mat):(qz M).length=M.h:=by unfold qz;simp
def Fa{M:Mat}{r:Nat}(h:r<M.h):(qz M)[r]?=some ⟨(ox M r).toArray⟩:=by unfold qz;rw[bz,List.getElem?_range h];rfl
def zh(M:Mat)(r:Nat):(ox M r).length=M.w:=by unfold ox;simp
def JF{M:Mat}{r c:Nat}(h:c<M.w):(ox M r)[c]?=some (M.g r c):=by unfold ox;rw[bz,List.getElem?_range h];rfl
def ap6{M:Mat}(o:OkM SgP M){r:Nat}(hr:r<M.h):∀c∈ox M r,SgP c:=λc hc=>by unfold ox at hc;obtain⟨k,hk,rfl⟩:=aw.mp hc;exact o.sg r k hr<|by simpa using hk
def anq{M:Mat}{z:Str}(h:z∈qz M):∃r,r<M.h/\z=⟨(ox M r).toArray⟩:=by unfold qz at h;obtain⟨r,hr,rfl⟩:=aw.mp h;exact⟨r,by simpa using hr,rfl⟩
end L3
namespace L3
open PySem
noncomputable def sm5:Nat->Nat
 | 0=>0
 | m+1=>5*sm5 m+1
noncomputable def g5(m i:Nat):Nat:=5^m*i+sm5 m
def JQ(m i:Nat):g5 (m+1) i=5*g5 m i+1:=by show 5^(m+1)*i+(5*sm5 m+1)=5*(5^m*i+sm5 m)+1;rw[kc,Nat.mul_add,Nat.mul_comm (5^m) 5,Nat.mul_assoc,Nat.add_assoc]
theorem aoz(m n i:Nat):g5 (m+n) i=g5 m (g5 n i):=by
 induction m with
 | zero=>rw[Nat.zero_add];unfold g5 sm5;simp
 | succ m ih=>rw[Nat.succ_add,JQ,ih,JQ]
def apl(m n:Nat):sm5 (m+n)=5^m*sm5 n+sm5 m:=by have h:=aoz m n 0;unfold g5 at h;simpa using h
theorem agz:∀k,∃c d:Nat,5^(2^k)=1+2^(k+2)*c/\sm5 (2^k)=2^k*(2*d+1)
 | 0=>(l8 1 0 ⟨rfl,rfl⟩)
 | k+1=>by
  obtain⟨c,d,h1,h2⟩:=agz k;have e:2^(k+1)=2^k+2^k:=by rw[kc];lia
  refine(l8 (c+2^(k+1)*c*c) (d+2^k*c*(2*d+1)) ⟨?_,?_⟩)
  .rw[e,Nat.pow_add,h1,show 2^(k+1+2)=8*2^k by rw[Nat.pow_add,Nat.pow_add];lia,show 2^(k+2)=4*2^k by rw[Nat.pow_add];lia];generalize 2^k=A
   grind
  .rw[e,apl,h1,h2,show 2^(k+2)=4*2^k by rw[Nat.pow_add];lia];generalize 2^k=A
   grind
def arq(k i:Nat):g5 (2^k) i % 2^(k+1)=(i+2^k) % 2^(k+1):=by
 obtain⟨c,d,h1,h2⟩:=agz k;unfold g5;rw[h1,h2];have e3:2^(k+2)=2^(k+1)*2:=by rw[show k+2=(k+1)+1 by lia,kc]
 have e:(1+2^(k+2)*c)*i+2^k*(2*d+1)=(i+2^k)+2^(k+1)*(2*(c*i)+d):=by rw[e3,kc];generalize 2^k=A;simp only[Nat.add_mul,Nat.mul_add,Nat.one_mul,Nat.mul_one,Nat.mul_assoc,Nat.mul_comm,Nat.mul_left_comm];lia
 rw[e,Nat.add_mul_mod_self_left]
theorem Ju:∀(k i j:Nat),∃m,m<2^k/\g5 m i % 2^k=j % 2^k
 | 0,i,j=>⟨0,by decide,by simp[Nat.mod_one]⟩
 | k+1,i,j=>by
  obtain⟨m,hm,e⟩:=Ju k i j;have e2:2^(k+1)=2*2^k:=by rw[kc];lia
  by_cases h:g5 m i % 2^(k+1)=j % 2^(k+1)
  .exact⟨m,by lia,h⟩
  .refine⟨2^k+m,by lia,?_⟩;rw[aoz,arq];have a:=Nat.mod_add_div (g5 m i)<|2^(k+1);have l1:g5 m i % 2^(k+1)<2^(k+1):=Nat.mod_lt _ (by rw[e2];have:=Nat.two_pow_pos k;lia);have l2:j % 2^(k+1)<2^(k+1):=Nat.mod_lt _ (by rw[e2];have:=Nat.two_pow_pos k;lia);have m1:g5 m i % 2^(k+1) % 2^k=g5 m i % 2^k:=Nat.mod_mod_of_dvd _ ⟨2,by rw[e2];lia⟩;have m2:j % 2^(k+1) % 2^k=j % 2^k:=Nat.mod_mod_of_dvd _ ⟨2,by rw[e2];lia⟩;rw[Nat.add_mod,ie (show 2^k<2^(k+1) by have:=Nat.two_pow_pos k;lia)];generalize g5 m i % 2^(k+1)=x at *;generalize j % 2^(k+1)=y at *;rw[<-m1,<-m2]at e;generalize 2^(k+1)=A at *;generalize 2^k=B at *;subst e2;have hx:x % B=if x<B then x else x-B:=by
    split
    .exact ie<|by assumption
    .rw[Nat.mod_eq_sub_mod (by lia),ie<|by lia]
   have hy:y % B=if y<B then y else y-B:=by
    split
    .exact ie<|by assumption
    .rw[Nat.mod_eq_sub_mod (by lia),ie<|by lia]
   rw[hx,hy]at e;have hz:(x+B) % (2*B)=if x+B<2*B then x+B else x+B-2*B:=by
    split
    .exact ie<|by assumption
    .rw[Nat.mod_eq_sub_mod (by lia),ie<|by lia]
   rw[hz];split at e<;>split at e<;>split<;>lia
open SetTable
noncomputable def itn{α:Type}(f:α->α):Nat->α->α
 | 0,x=>x
 | n+1,x=>itn f n<|f x
theorem r6{α:Type}(f:α->α):∀(m n:Nat)(x:α),itn f (m+n) x=itn f n (itn f m x)
 | 0,n,x=>by rw[Nat.zero_add];rfl
 | m+1,n,x=>by rw[Nat.succ_add];exact r6 f m n<|f x
def Ki{α:Type}(f:α->α)(n:Nat)(x:α):itn f (n+1) x=f (itn f n x):=by rw[r6 f n 1 x];rfl
noncomputable def adv(mask:Nat)(p:Probe):Probe:=
 if p.more>0 then{p with j:=p.j+1,more:=p.more-1}else
 {p with j:=(leap mask p.i p.perturb).1,more:=runEnd mask (leap mask p.i p.perturb).1-(leap mask p.i p.perturb).1,i:=(leap mask p.i p.perturb).1,perturb:=(leap mask p.i p.perturb).2}
noncomputable def lp(mask:Nat)(x:Nat×Nat):Nat×Nat:=leap mask x.1 x.2
noncomputable def at0(mask:Nat)(x:Nat×Nat)(d:Option Nat):Probe:=⟨x.1,runEnd mask x.1-x.1,x.1,x.2,d⟩
def ao3(mask i:Nat):runEnd mask i-i<=9:=by unfold runEnd;split<;>lia
theorem Fd(mask:Nat):∀(m:Nat)(p:Probe),p.more=m->itn (adv mask) (m+1) p=at0 mask (lp mask (p.i,p.perturb)) p.dummy
 | 0,p,h=>by show adv mask p=_;unfold adv;rw[if_neg (by lia)];rfl
 | m+1,p,h=>by
  show itn (adv mask) (m+1) (adv mask p)=_;have e:adv mask p={p with j:=p.j+1,more:=p.more-1}:=by unfold adv;rw[if_pos (by lia)]
  rw[e,Fd mask m _<|by show p.more-1=m;lia]
theorem IJ(mask:Nat):∀(m:Nat)(x:Nat×Nat)(d:Option Nat),∃n,n<=10*m/\itn (adv mask) n (at0 mask x d)=at0 mask (itn (lp mask) m x) d
 | 0,x,d=>⟨0,am _,rfl⟩
 | m+1,x,d=>by
  have h:=Fd mask _ (at0 mask x d) rfl;obtain⟨n,hn,e⟩:=IJ mask m (lp mask x) d;refine⟨((at0 mask x d).more+1)+n,?_,?_⟩
  .have:(at0 mask x d).more<=9:=ao3 mask x.1;lia
  .rw[r6,h];exact e
theorem zv(mask:Nat):∀(m:Nat)(x:Nat×Nat)(b:Nat),x.2<32^b->(itn (lp mask) m x).2<32^(b-m)
 | 0,x,b,h=>by simpa [itn]using h
 | m+1,x,b,h=>by
  have h':(lp mask x).2<32^(b-1):=by
   show x.2/32<32^(b-1);cases b with
   | zero=>simp at h;simp[h]
   | succ b=>
    rw[kc]at h;simpa using Nat.div_lt_of_lt_mul (by lia)
  have:=zv mask m (lp mask x) (b-1) h';rw[show b-(m+1)=b-1-m by lia];exact this
theorem vd{mask k:Nat}(hk:mask+1=2^k):∀(m i:Nat),i<2^k->itn (lp mask) m (i,0)=(g5 m i % 2^k,0)
 | 0,i,h=>by
  have e:g5 0 i=i:=by unfold g5 sm5;simp
  rw[e,ie h];rfl
 | m+1,i,h=>by
  rw[Ki,vd hk m i h];show((g5 m i % 2^k*5+1+0/32) % (mask+1),0/32)=_;rw[hk,JQ];have e:(g5 m i % 2^k*5+1+0/32) % 2^k=(5*g5 m i+1) % 2^k:=by rw[show 0/32=0 from rfl,Nat.add_zero,Nat.mul_comm,Nat.add_mod,Nat.mul_mod,Nat.mod_mod,<-Nat.mul_mod,<-Nat.add_mod]
  rw[e]
def IW{mask k:Nat}(hk:mask+1=2^k)(x:Nat×Nat):(lp mask x).1<2^k:=by show(x.1*5+1+x.2/32) % (mask+1)<2^k;rw[hk];exact Nat.mod_lt _<|Nat.two_pow_pos k
def auv{mask k:Nat}(hk:mask+1=2^k)(p:Probe)(hm:p.more<=9)(hp:p.perturb<2^64)(j:Nat)(hj:j<=mask):∃n,n<10*turns mask/\(itn (adv mask) n p).j=j:=by
 have h1:=Fd mask p.more p rfl;obtain⟨n2,kJ,e2⟩:=IJ mask 12 (lp mask (p.i,p.perturb)) p.dummy;have hz:(itn (lp mask) 12<|lp mask (p.i,p.perturb)).2<32^(13-13):=by have:=zv mask 13 (p.i,p.perturb) 13 (by show p.perturb<32^13;exact cw hp<|by decide);exact this
 have zG:(itn (lp mask) 12<|lp mask (p.i,p.perturb)).2=0:=by simpa using hz
 have hi:(itn (lp mask) 12<|lp mask (p.i,p.perturb)).1<2^k:=by rw[Ki];exact IW hk _
 generalize itn (lp mask) 12 (lp mask (p.i,p.perturb))=y at *;obtain⟨y1,y2⟩:=y;simp only at zG hi;subst zG;obtain⟨m,kS,e3⟩:=Ju k y1 j;obtain⟨n3,jI,e4⟩:=IJ mask m (y1,0) p.dummy;rw[vd hk m y1 hi,e3,ie<|by lia]at e4;refine⟨(p.more+1)+(n2+n3),?_,?_⟩
 .unfold turns;lia
 .rw[r6,h1,r6,e2,e4];rfl
end L3
namespace L3
open PySem SetTable
def Low(xs:Array Nat)(j b:Nat):Prop:=b<=xs.size/\(∀i v,i<b->xs[i]?=some v->v<j)/\(∀i v,b<=i->xs[i]?=some v->j<=v)
def E3{xs:Array Nat}(h:xs.toList.Pairwise (· < ·)){i k v u:Nat}(hi:xs[i]?=some v)(hk:xs[k]?=some u)(zS:i<k):v<u:=by rw[<-bj]at hi hk;obtain⟨h1,rfl⟩:=aj.mp hi;obtain⟨h2,rfl⟩:=aj.mp hk;exact fw.mp h i k h1 h2 zS
theorem Kd{xs:Array Nat}(h:xs.toList.Pairwise (· < ·))(j:Nat):∀(fuel lo hi:Nat),hi-lo<=fuel->lo<=hi->hi<=xs.size->(∀i v,i<lo->xs[i]?=some v->v<j)->(∀i v,hi<=i->xs[i]?=some v->j<=v)->
  Low xs j (below.go xs j fuel lo hi)
 | 0,lo,hi,h1,h2,h3,a,b=>by
  have e:lo=hi:=by lia
  subst e;exact⟨h3,a,b⟩
 | fuel+1,lo,hi,h1,h2,h3,a,b=>by
  unfold below.go;by_cases bQ:lo<hi
  .rw[if_pos bQ];have hm:(lo+hi)/2<xs.size:=by lia
   have e:xs.getD ((lo+hi)/2) j=xs[(lo+hi)/2]:=by simp[Array.getD,hm]
   have e':xs[(lo+hi)/2]?=some xs[(lo+hi)/2]:=by simp[hm]
   dsimp only;rw[e];by_cases hc:xs[(lo+hi)/2]<j
   .rw[if_pos hc];refine Kd h j fuel _ _ (by lia) (by lia) h3 (λi v eW hv=>?_) b;by_cases q:i=(lo+hi)/2
    .subst q;rw[e']at hv;cases hv;exact hc
    .have:=E3 h hv e' (by lia);lia
   .rw[if_neg hc];refine Kd h j fuel _ _ (by lia) (by lia) (by lia) a λi v eW hv=>?_;by_cases q:i=(lo+hi)/2
    .subst q;rw[e']at hv;cases hv;lia
    .have:=E3 h e' hv (by lia);lia
  .rw[if_neg bQ];have e:lo=hi:=by lia
   subst e;exact⟨h3,a,b⟩
def uo{xs:Array Nat}(h:xs.toList.Pairwise (· < ·))(j:Nat):Low xs j (below xs j):=
 Kd h j xs.size 0 xs.size (by lia) (by lia) (am _) (λi v hi=>by lia) (λi v hi hv=>by have:=(br.mp hv).1;lia)
def Ke{xs:Array Nat}(h:xs.toList.Pairwise (· < ·)){i j:Nat}(hi:xs[i]?=some j):below xs j=i:=by
 obtain⟨a,b,c⟩:=uo h j;by_cases q:i<below xs j
 .have:=b i j q hi;lia
 by_cases q2:below xs j<i
 .have hl:=(br.mp hi).1;have e':xs[below xs j]?=some xs[below xs j]:=by simp
  have:=E3 h e' hi q2;have:=c _ _ (am _) e';lia
 .lia
def zy{t:SetTable}(h:t.place.toList.Pairwise (· < ·)){i j:Nat}(hi:t.place[i]?=some j):t.slot j=.live i:=by unfold slot;rw[Ke h hi];dsimp only;rw[hi,if_pos<|by simp]
def aik{t:SetTable}(h:t.place.toList.Pairwise (· < ·))(hd:t.dummies=#[]){j:Nat}(hj:j∉t.place.toList):t.slot j=.empty:=by
 unfold slot;dsimp only;rw[if_neg,if_neg]
 .rw[hd];unfold has;simp
 .intro e;have e':t.place[below t.place j]?=some j:=by simpa using e
  apply hj;rw[<-bj]at e';exact ak e'
def amr{t:SetTable}{j:Nat}(hj:j∈t.place.toList):∃i:Nat,t.place[i]?=some j:=by obtain⟨i,h⟩:=dz hj;exact⟨i,by rw[<-bj];exact h⟩
def o6{α:Type}(xs:Array α)(p:Nat)(x:α):(insertAt xs p x).toList=xs.toList.take p++x::xs.toList.drop p:=by unfold insertAt;simp[Array.toList_extract];rw[bi (by simp)]
def afi{xs:Array Nat}(h:xs.toList.Pairwise (· < ·)){j:Nat}(hj:j∉xs.toList):(insertAt xs (below xs j) j).toList.Pairwise (· < ·):=by
 obtain⟨a,b,c⟩:=uo h j;rw[o6,dy];refine⟨h.sublist<|List.take_sublist _ _,?_,?_⟩
 .rw[gh];refine⟨λv hv=>?_,h.sublist<|List.drop_sublist _ _⟩;obtain⟨i,hi⟩:=dz hv;rw[gi,bj]at hi;have:=c _ v (by lia) hi;have:v≠j:=λe=>hj (by rw[<-e];rw[<-bj]at hi;exact ak hi);lia
 .intro u hu v hv;obtain⟨i,hi⟩:=dz hu;have mW:i<below xs j:=by
   have:=(aj.mp hi).1;rw[b8]at this;lia
  rw[fh mW,bj]at hi;have h1:=b i u mW hi;rcases ax.mp hv with rfl|hv
  .exact h1
  .obtain⟨i',eW⟩:=dz hv;rw[gi,bj]at eW;have:=c _ v (by lia) eW;lia
def Aj(ps:Z Nat)(es:Z (Int×aA))(j:Nat)(e:Int×aA):Prop:=∃i:Nat,ps[i]?=some j/\es[i]?=some e
theorem afn{ps:Z Nat}{es:Z (Int×aA)}(hl:ps.length=es.length)(p j0:Nat)(hp:p<=ps.length)(e0:Int×aA){j:Nat}{e:Int×aA} :
  Aj (ps.take p++j0::ps.drop p) (es.take p++e0::es.drop p) j e↔(j=j0/\e=e0)\/Aj ps es j e:=by
 have l1:(ps.take p).length=p:=by rw[b8];lia
 have l2:(es.take p).length=p:=by rw[b8];lia
 constructor
 .rintro⟨i,h1,h2⟩;by_cases hi:i<p
  .rw[ei (by lia),fh hi]at h1 h2;exact .inr ⟨i,h1,h2⟩
  .rw[ck (by lia),l1]at h1;rw[ck (by lia),l2]at h2;cases hq:i-p with
   | zero=>rw[hq]at h1 h2;cases h1;cases h2;exact .inl ⟨rfl,rfl⟩
   | succ q=>
    rw[hq,List.getElem?_cons_succ,gi]at h1 h2;exact .inr ⟨p+q,h1,h2⟩
 .rintro(⟨rfl,rfl⟩|⟨i,h1,h2⟩)
  .exact⟨p,by rw[ck (by lia),l1,Nat.sub_self];rfl,by rw[ck (by lia),l2,Nat.sub_self];rfl⟩
  .by_cases hi:i<p
   .exact⟨i,by rw[ei (by lia),fh hi];exact h1,by rw[ei (by lia),fh hi];exact h2⟩
   .refine⟨i+1,?_,?_⟩
    .rw[ck (by lia),l1,show i+1-p=(i-p)+1 by lia,List.getElem?_cons_succ,gi,show p+(i-p)=i by lia];exact h1
    .rw[ck (by lia),l2,show i+1-p=(i-p)+1 by lia,List.getElem?_cons_succ,gi,show p+(i-p)=i by lia];exact h2
noncomputable def st0(mask:Nat)(h:Int):Probe:=at0 mask (bits h % (mask+1),bits h) none
def amm(t:SetTable)(h:Int):t.probeStart h=st0 t.mask h:=rfl
noncomputable def qd(mask:Nat)(h:Int)(n:Nat):Nat:=(itn (adv mask) n<|st0 mask h).j
def Jx(h:Int):bits h<2^64:=by unfold bits;lia
def uG(mask:Nat)(p:Probe):Prop:=p.more<=9/\p.perturb<2^64/\p.j+p.more<=mask
def adz(mask:Nat)(x:Nat×Nat)(d:Option Nat)(h1:x.1<=mask)(h2:x.2<2^64):uG mask (at0 mask x d):=by refine⟨ao3 mask x.1,h2,?_⟩;show x.1+(runEnd mask x.1-x.1)<=mask;unfold runEnd;split<;>lia
def al3{mask:Nat}{p:Probe}(h:uG mask p):uG mask (adv mask p):=by
 obtain⟨h1,h2,h3⟩:=h;unfold adv;split
 .exact⟨by simp only;lia,h2,by simp only;lia⟩
 .refine adz mask (leap mask p.i p.perturb) p.dummy ?_ ?_
  .show(p.i*5+1+p.perturb/32) % (mask+1)<=mask;have:=Nat.mod_lt (p.i*5+1+p.perturb/32) (show 0<mask+1 by lia);lia
  .show p.perturb/32<2^64;lia
theorem Km{mask:Nat}:∀(n:Nat) {p:Probe},uG mask p->uG mask (itn (adv mask) n p)
 | 0,_,h=>h
 | n+1,_,h=>Km n<|al3 h
def wv(mask:Nat)(h:Int):uG mask (st0 mask h):=adz mask _ _ (by
 have:=Nat.mod_lt (bits h) (show 0<mask+1 by lia);show bits h % (mask+1)<=mask;lia)<|Jx h
def apu(mask:Nat)(h:Int)(n:Nat):qd mask h n<=mask:=by have:=(Km n<|wv mask h).2.2;unfold qd;lia
structure TOk(t:SetTable)(es:Array (Int×aA)):Prop where
 two:∃k,t.mask+1=2^k/\3<=k/\k<=13/\k % 2=1
 dm:t.dummies=#[]
 rise:t.place.toList.Pairwise (· < ·)
 bd:∀j∈t.place.toList,j<=t.mask
 sz:t.place.size=es.size
 fit:t.place.size<=t.mask
 onroad:∀j e,Aj t.place.toList es.toList j e->∃n,qd t.mask e.1 n=j/\∀n',n'<n->qd t.mask e.1 n'∈t.place.toList
def ao6{ps:Z Nat}{m:Nat}(h:ps.length<=m):∃j,j<=m/\j∉ps:=by apply fc;intro hn;have bB:∀j,j<=m->j∈ps:=λj hj=>fc λq=>hn ⟨j,hj,q⟩;have:=List.Nodup.length_le_of_subset (l₁:=cp<|m+1) (l₂:=ps) List.nodup_range (λj hj=>bB j<|by have:=gg.mp hj;lia);rw[g0]at this;lia
theorem akz{t:SetTable}{es:Array (Int×aA)}(ok:TOk t es)(cG:Nat->Int)(h:Int):∀(fuel:Nat)(p:Probe),(∃n,n<fuel/\(itn (adv t.mask) n p).j∉t.place.toList)->
  (∃n,probe.go t cG h fuel p=some (.empty (itn (adv t.mask) n p).j p.dummy)/\(itn (adv t.mask) n p).j∉t.place.toList/\∀n',n'<n->∃i:Nat,t.place[i]?=some (itn (adv t.mask) n' p).j/\cG i≠h)\/
  (∃n i,probe.go t cG h fuel p=some (.candidate (itn (adv t.mask) n p).j i (itn (adv t.mask) (n+1) p))/\t.place[i]?=some (itn (adv t.mask) n p).j/\cG i=h/\∀n',n'<n->∃i':Nat,t.place[i']?=some (itn (adv t.mask) n' p).j/\cG i'≠h)
 | 0,p,⟨n,hn,_⟩=>by lia
 | fuel+1,p,⟨n,hn,bX⟩=>by
  by_cases hp:p.j∈t.place.toList
  .obtain⟨i,hi⟩:=amr hp;have hs:=zy ok.rise hi;by_cases hh:cG i=h
   .refine .inr<|l8 0 i ⟨?_,hi,hh,λn' gB=>by lia⟩;unfold probe.go;rw[hs];dsimp only;rw[if_pos (by simp[hh])];rfl
   .have qT:∃n,n<fuel/\(itn (adv t.mask) n<|adv t.mask p).j∉t.place.toList:=by
     cases n with
     | zero=>exact absurd hp bX
     | succ n=>exact⟨n,by lia,bX⟩
    have zU:probe.go t cG h (fuel+1) p=probe.go t cG h fuel (adv t.mask p):=by rw[probe.go,hs];dsimp only;rw[if_neg (by simp[hh])];rfl
    have hd:(adv t.mask p).dummy=p.dummy:=by unfold adv;split<;>rfl
    have Ba:∀{n:Nat},(∀n',n'<n->∃i':Nat,t.place[i']?=some (itn (adv t.mask) n'<|adv t.mask p).j/\cG i'≠h)->∀n',n'<n+1->∃i':Nat,t.place[i']?=some (itn (adv t.mask) n' p).j/\cG i'≠h:=λH n' gB=>by
     cases n' with
     | zero=>exact⟨i,hi,hh⟩
     | succ n'=>exact H n'<|by lia
    rcases akz ok cG h fuel (adv t.mask p) qT with ⟨m,e,f,g⟩|⟨m,i',e,f,g,g'⟩
    .exact .inl ⟨m+1,by rw[zU,e,hd];rfl,f,Ba g⟩
    .exact .inr<|l8 (m+1) i' ⟨by rw[zU,e];rfl,f,g,Ba g'⟩
  .refine .inl ⟨0,?_,hp,λn' gB=>by lia⟩;unfold probe.go;rw[aik ok.rise ok.dm hp];rfl
def aii{t:SetTable}{es:Array (Int×aA)}(ok:TOk t es)(cG:Nat->Int)(h:Int){p:Probe}(st:uG t.mask p) :
  (∃n,t.probe cG h p=some (.empty (itn (adv t.mask) n p).j p.dummy)/\(itn (adv t.mask) n p).j∉t.place.toList/\∀n',n'<n->∃i:Nat,t.place[i]?=some (itn (adv t.mask) n' p).j/\cG i≠h)\/
  (∃n i,t.probe cG h p=some (.candidate (itn (adv t.mask) n p).j i (itn (adv t.mask) (n+1) p))/\t.place[i]?=some (itn (adv t.mask) n p).j/\cG i=h/\∀n',n'<n->∃i':Nat,t.place[i']?=some (itn (adv t.mask) n' p).j/\cG i'≠h):=by
 obtain⟨k,hk,_,_⟩:=ok.two;obtain⟨j,hj,hn⟩:=ao6 (ps:=t.place.toList) (m:=t.mask) (by rw[a8];exact ok.fit);obtain⟨n,hl,e⟩:=auv hk p st.1 st.2.1 j hj;exact akz ok cG h _ p ⟨n,hl,by rw[e];exact hn⟩
def TOk.ahead{t:SetTable}{es:Array (Int×aA)}(ok:TOk t es){j:Nat}{e:Int×aA}(hs:Aj t.place.toList es.toList j e){n:Nat}(hf:qd t.mask e.1 n∉t.place.toList):∃m,m<n/\qd t.mask e.1 m=j:=by
 obtain⟨m,h1,h2⟩:=ok.onroad j e hs;refine⟨m,?_,h1⟩;apply fc;intro hm;by_cases q:n<m
 .exact hf<|h2 n q
 .have:m=n:=by lia
  subst this;rw[h1]at hf;obtain⟨i,hi,_⟩:=hs;exact hf<|ak hi
theorem TOk.put{t:SetTable}{es:Array (Int×aA)}(ok:TOk t es){h:Int}{x:aA}{n:Nat}(hf:qd t.mask h n∉t.place.toList)(hr:∀n',n'<n->qd t.mask h n'∈t.place.toList)(qR:t.place.size+1<=t.mask) :
  TOk (t.put<|qd t.mask h n).1 (insertAt es (t.put<|qd t.mask h n).2 (h,x))/\(t.put<|qd t.mask h n).1.mask=t.mask/\(t.put<|qd t.mask h n).2<=es.size/\(t.put<|qd t.mask h n).1.place.size=t.place.size+1:=by
 have tS:=uo ok.rise<|qd t.mask h n;have GB:has t.dummies (qd t.mask h n)=false:=by rw[ok.dm];unfold has;simp
 have Gp:t.put (qd t.mask h n)=({t with place:=insertAt t.place (below t.place<|qd t.mask h n)<|qd t.mask h n,dummies:=#[]},below t.place<|qd t.mask h n):=by unfold SetTable.put;rw[GB,ok.dm];rfl
 rw[Gp];have nZ:(insertAt t.place (below t.place<|qd t.mask h n)<|qd t.mask h n).size=t.place.size+1:=by rw[<-a8,o6,be,b7,b8,gm,a8];have:=tS.1;lia
 have hsz:=ok.sz;have dX:∀j,j∈(insertAt t.place (below t.place<|qd t.mask h n)<|qd t.mask h n).toList↔j=qd t.mask h n\/j∈t.place.toList:=λj=>by
  rw[o6];constructor
  .intro hj;rcases ay.mp hj with q|q
   .exact .inr<|cn q
   .rcases ax.mp q with q|q
    .exact .inl q
    .exact .inr<|j9 q
  .rintro(rfl|hj)
   .exact cf _ ao
   .rw[<-dh (below t.place<|qd t.mask h n) t.place.toList]at hj;rcases ay.mp hj with q|q
    .exact gr _ q
    .exact cf _<|au _ q
 refine⟨⟨ok.two,rfl,afi ok.rise hf,?_,?_,?_,?_⟩,rfl,?_,nZ⟩
 .intro j hj;rcases(dX j).mp hj with rfl|q
  .exact apu _ _ _
  .exact ok.bd j q
 .show(insertAt t.place _ _).size=(insertAt es (below t.place<|qd t.mask h n) (h,x)).size;rw[nZ,<-a8 (xs:=insertAt es _ _),o6,be,b7,b8,gm,a8];have:=tS.1;lia
 .show(insertAt t.place _ _).size<=t.mask;rw[nZ];exact qR
 .intro j e hs;have eB:Aj (t.place.toList.take (below t.place<|qd t.mask h n)++qd t.mask h n::t.place.toList.drop (below t.place<|qd t.mask h n)) (es.toList.take (below t.place<|qd t.mask h n)++(h,x)::es.toList.drop (below t.place<|qd t.mask h n)) j e:=by
   have DH:Aj (insertAt t.place (below t.place<|qd t.mask h n)<|qd t.mask h n).toList (insertAt es (below t.place<|qd t.mask h n) (h,x)).toList j e:=hs;rw[o6,o6]at DH;exact DH
  rcases(afn (by rw[a8,a8];exact hsz) _ _ (by rw[a8];exact tS.1) _).mp eB with ⟨rfl,rfl⟩|q
  .exact⟨n,rfl,λn' gB=>(dX _).mpr (.inr<|hr n' gB)⟩
  .obtain⟨m,h1,h2⟩:=ok.onroad j e q;exact⟨m,h1,λn' gB=>(dX _).mpr (.inr<|h2 n' gB)⟩
 .show below t.place _<=es.size;have:=tS.1;lia
theorem TOk.fits{t:SetTable}{es:Array (Int×aA)}(ok:TOk t es):t.fits es.size=true:=by unfold SetTable.fits SetTable.fill;rw[ok.dm];simp[ok.sz];have:=ok.fit;have:=ok.sz;lia
def TOk.noway{t:SetTable}{es:Array (Int×aA)}(ok:TOk t es):t.gaveWay=false:=by
 obtain⟨k,hk,h3,_⟩:=ok.two;unfold SetTable.gaveWay;have:2^k % 2=0:=by rw[show k=(k-1)+1 by lia,kc];lia
 simp;lia
theorem TOk.fresh(finger moves:Nat)(led:Bool):TOk (.fresh finger moves led) #[]:=
 ⟨⟨3,rfl,by decide,by decide,rfl⟩,rfl,List.Pairwise.nil,(λj hj=>by cases hj),rfl,(by show 0<=7;decide),(λj e ⟨i,h,_⟩=>by simp[SetTable.fresh]at h)⟩
def aue{mask k:Nat}(hk:mask+1=2^k)(x:Nat×Nat)(hp:x.2<2^64)(j:Nat)(hj:j<=mask):∃m,m<turns mask/\(itn (lp mask) m x).1=j:=by
 have hz:(itn (lp mask) 13 x).2<32^(13-13):=zv mask 13 x 13 (cw hp<|by decide);have zG:(itn (lp mask) 13 x).2=0:=by simpa using hz
 have hi:(itn (lp mask) 13 x).1<2^k:=by rw[Ki];exact IW hk _
 have e0:∀m,itn (lp mask) (13+m) x=itn (lp mask) m (itn (lp mask) 13 x):=λm=>r6 _ _ _ _;generalize itn (lp mask) 13 x=y at *;obtain⟨y1,y2⟩:=y;simp only at zG hi;subst zG;obtain⟨m,kS,e3⟩:=Ju k y1 j;refine⟨13+m,?_,?_⟩
 .unfold turns;lia
 .rw[e0,vd hk m y1 hi];show g5 m y1 % 2^k=j;rw[e3,ie<|by lia]
theorem aod(mask:Nat):∀(q:Nat)(p:Probe),q<=p.more->(itn (adv mask) q p).j=p.j+q
 | 0,p,_=>rfl
 | q+1,p,h=>by
  show(itn (adv mask) q<|adv mask p).j=_;have e:adv mask p={p with j:=p.j+1,more:=p.more-1}:=by unfold adv;rw[if_pos (by lia)]
  rw[e,aod mask q _<|by show q<=p.more-1;lia];show p.j+1+q=p.j+(q+1);lia
def Cr(owner:Array (Option Nat))(j:Nat):Prop:=∃q,owner[j]?=some (some q)
theorem aew{mask k:Nat}(hk:mask+1=2^k){owner:Array (Option Nat)}(hs:owner.size=mask+1){f:Nat}(hf:owner[f]?=some none):∀(fuel:Nat)(x:Nat×Nat),x.1<=mask->x.2<2^64->(∃m,m<fuel/\(itn (lp mask) m x).1=f)->
  ∃j n,layClean.free mask owner fuel x.1 x.2=some j/\(itn (adv mask) n<|at0 mask x none).j=j/\owner[j]?=some none/\∀n',n'<n->Cr owner (itn (adv mask) n'<|at0 mask x none).j
 | 0,x,_,_,⟨m,hm,_⟩=>by lia
 | fuel+1,x,h1,h2,⟨m,hm,em⟩=>by
  have Bn:(at0 mask x none).more=runEnd mask x.1-x.1:=rfl;have BI:runEnd mask x.1<=mask/\x.1<=runEnd mask x.1:=by unfold runEnd;split<;>lia
  have get:∀q,(hq:q<runEnd mask x.1+1-x.1)->owner.getD (x.1+q) (some 0)=owner[x.1+q]'(by lia):=λq hq=>by simp only[Array.getD];rw[dif_pos (show x.1+q<owner.size by lia)];rfl
  have pos:∀q,q<runEnd mask x.1+1-x.1->(itn (adv mask) q<|at0 mask x none).j=x.1+q:=λq hq=>aod mask q _ (by rw[Bn];lia);have occ:∀q (hq:q<runEnd mask x.1+1-x.1),(owner.getD (x.1+q)<|some 0).isNone=false->Cr owner (x.1+q):=λq hq hn=>by
   rw[get q hq]at hn;cases hv:owner[x.1+q]'(by lia)with
   | none=>rw[hv]at hn;cases hn
   | some v=>exact⟨v,by rw[bx (by lia),hv]⟩
  unfold layClean.free;cases BE:(cp<|runEnd mask x.1+1-x.1).find? λk=>(owner.getD (x.1+k)<|some 0).isNone with
  | some q=>
   rw[List.find?_range_eq_some]at BE;obtain⟨a,b,c⟩:=BE;have hq:q<runEnd mask x.1+1-x.1:=gg.mp b;refine(l8 (x.1+q) q ⟨rfl,pos q hq,?_,λn' gB=>?_⟩)
   .rw[get q hq]at a;rw[bx (by lia)];cases hv:owner[x.1+q]'(by lia)with
    | none=>rfl
    | some v=>rw[hv]at a;cases a
   .rw[pos n' (by lia)];exact occ n' (by lia) (by simpa using c n' gB)
  | none=>
   rw[List.find?_range_eq_none]at BE;dsimp only;cases m with
   | zero=>
    have e0:x.1=f:=em;have:=BE 0 (by lia);rw[Nat.add_zero]at this;have g:=get 0 (by lia);simp only[Nat.add_zero]at g;rw[g]at this;subst e0;rw[bx (by lia)]at hf;injection hf with hf
    rw[hf]at this;cases this
   | succ m=>
    have gR:(lp mask x).1<=mask:=by have:=IW hk x;lia
    have fP:(lp mask x).2<2^64:=by show x.2/32<2^64;lia
    obtain⟨j,n,e1,e2,e3,e4⟩:=aew hk hs hf fuel (lp mask x) gR fP ⟨m,by lia,em⟩;have tl:=Fd mask _ (at0 mask x none) rfl;refine(l8 j ((at0 mask x none).more+1+n) ⟨e1,?_,e3,λn' gB=>?_⟩)
    .rw[r6,tl];exact e2
    .by_cases hq:n'<(at0 mask x none).more+1
     .have kG:n'<runEnd mask x.1+1-x.1:=by rw[Bn]at hq;lia
      rw[pos n' kG];exact occ n' kG<|by simpa using BE n' kG
     .have:=e4 (n'-((at0 mask x none).more+1)) (by lia);rw[show n'=(at0 mask x none).more+1+(n'-((at0 mask x none).more+1)) by lia,r6,tl];exact this
structure Own(mask:Nat)(hs:Z Int)(owner:Array (Option Nat))(k:Nat):Prop where
 size:owner.size=mask+1
 o1:∀j q:Nat,owner[j]?=some (some q)->q<k/\∃h,hs[q]?=some h/\∃n,qd mask h n=j/\∀n',n'<n->Cr owner (qd mask h n')
 o2:∀q:Nat,q<k->∃j:Nat,owner[j]?=some (some q)
 o3:∀j j' q:Nat,owner[j]?=some (some q)->owner[j']?=some (some q)->j=j'
theorem Own.free{mask:Nat}{hs:Z Int}{owner:Array (Option Nat)}{k:Nat}(o:Own mask hs owner k)(hk:k<=mask):∃f,f<=mask/\owner[f]?=some none:=by
 apply fc;intro hn;have bB:∀j,j<=mask->∃q,owner[j]?=some (some q):=λj hj=>by
  have sL:j<owner.size:=by rw[o.size];lia
  cases hv:owner[j]with
  | none=>exact absurd ⟨j,hj,by rw[bx sL,hv]⟩ hn
  | some q=>exact⟨q,by rw[bx sL,hv]⟩
 have val:∀(j q:Nat),owner[j]?=some (some q)->((owner[j]?).getD none).getD 0=q:=λj q h=>by rw[h];rfl
 have nd:((cp<|mask+1).map λj=>((owner[j]?).getD none).getD 0).Nodup:=by show List.Pairwise _ _;rw[gq];refine gv ?_<|List.nodup_range (n:=mask+1);intro a b ha hb mD e;obtain⟨q,hq⟩:=bB a (by have:=gg.mp ha;lia);obtain⟨q',kG⟩:=bB b (by have:=gg.mp hb;lia);rw[val a q hq,val b q' kG]at e;subst e;exact mD<|o.o3 a b q hq kG
 have:=List.Nodup.length_le_of_subset (l₂:=cp k) nd λv hv=>by obtain⟨j,hj,rfl⟩:=aw.mp hv;obtain⟨q,hq⟩:=bB j (by have:=gg.mp hj;lia);rw[val j q hq];exact gg.mpr (o.o1 j q hq).1
 rw[ae,g0,g0]at this;lia
noncomputable def JT(mask:Nat)(acc:Option (Array (Option Nat)×Nat))(h:Int):Option (Array (Option Nat)×Nat):=do
 let (owner,k) <-acc
 let j <-layClean.free mask owner (turns mask) (bits h % (mask+1)) (bits h)
 aR (owner.setIfInBounds j<|some k,k+1)
def afq(mask:Nat)(hs:Array Int):layClean mask hs=(hs.toList.foldl (JT mask)<|some (Array.replicate (mask+1) none,0)).map (·.1):=by unfold layClean;rw[<-Array.foldl_toList];rfl
def x9{owner:Array (Option Nat)}{j:Nat}{v:Option Nat}(hj:j<owner.size)(i:Nat):(owner.setIfInBounds j v)[i]?=if i=j then some v else owner[i]?:=by
 rw[Array.getElem?_setIfInBounds];by_cases e:j=i
 .subst e;rw[if_pos rfl,if_pos hj,if_pos rfl]
 .rw[if_neg e,if_neg<|Ne.symm e]
theorem agi{mask k0:Nat}(iU:mask+1=2^k0)(hs:Z Int)(oX:hs.length<=mask):∀(aW:Z Int)(k:Nat) (owner:Array (Option Nat)),hs.drop k=aW->k<=hs.length->Own mask hs owner k->
  ∃qK,aW.foldl (JT mask) (some (owner,k))=some (qK,hs.length)/\Own mask hs qK hs.length
 | [],k,owner,hd,hk,o=>by
  have:hs.length<=k:=by have:=congrArg List.length hd;rw[gm]at this;simp at this;lia
  have e:k=hs.length:=by lia
  subst e;exact⟨owner,rfl,o⟩
 | h::aW,k,owner,hd,hk,o=>by
  have oY:k<hs.length:=by have:=congrArg List.length hd;rw[gm]at this;simp at this;lia
  have DU:hs[k]?=some h:=by
   have:(hs.drop k)[0]?=some h:=by rw[hd];rfl
   rw[gi]at this;simpa using this
  obtain⟨f,BD,hf⟩:=o.free (by lia);obtain⟨m,hm,em⟩:=aue iU (bits h % (mask+1),bits h) (Jx h) f BD;have hb:bits h % (mask+1)<=mask:=by have:=Nat.mod_lt (bits h) (show 0<mask+1 by lia);lia
  obtain⟨j,n,e1,e2,e3,e4⟩:=aew iU o.size hf (turns mask) (bits h % (mask+1),bits h) hb (Jx h) ⟨m,hm,em⟩;have ej:qd mask h n=j:=e2;have pP:j<owner.size:=by have:=(br.mp e3).1;exact this
  have Bi:JT mask (some (owner,k)) h=some (owner.setIfInBounds j<|some k,k+1):=by show(layClean.free mask owner (turns mask) (bits h % (mask+1))<|bits h).bind _=_;rw[e1];rfl
  have tk:∀i,Cr owner i->Cr (owner.setIfInBounds j<|some k) i:=λi ⟨q,hq⟩=>by
   by_cases e:i=j
   .exact⟨k,by rw[x9 pP,if_pos e]⟩
   .exact⟨q,by rw[x9 pP,if_neg e];exact hq⟩
  have o':Own mask hs (owner.setIfInBounds j<|some k) (k+1):=by
   refine⟨by rw[Array.size_setIfInBounds];exact o.size,λi q hq=>?_,λq hq=>?_,λi i' q hq kG=>?_⟩
   .rw[x9 pP]at hq;by_cases e:i=j
    .rw[if_pos e]at hq;cases hq;exact⟨by lia,(oo h DU n ⟨by rw[ej,e],λn' gB=>tk _<|e4 n' gB⟩)⟩
    .rw[if_neg e]at hq;obtain⟨a,h',b,n',c,d⟩:=o.o1 i q hq;exact⟨by lia,(oo h' b n' ⟨c,λn'' GG=>tk _<|d n'' GG⟩)⟩
   .by_cases e:q=k
    .exact⟨j,by rw[x9 pP,if_pos rfl,e]⟩
    .obtain⟨i,hi⟩:=o.o2 q (by lia);have:i≠j:=λe'=>by rw[e',e3]at hi;cases hi
     exact⟨i,by rw[x9 pP,if_neg this];exact hi⟩
   .rw[x9 pP]at hq kG;by_cases e:i=j<;>by_cases e':i'=j
    .rw[e,e']
    .rw[if_pos e]at hq;rw[if_neg e']at kG;cases hq;have:=(o.o1 i' k kG).1;lia
    .rw[if_neg e]at hq;rw[if_pos e']at kG;cases kG;have:=(o.o1 i k hq).1;lia
    .rw[if_neg e]at hq;rw[if_neg e']at kG;exact o.o3 i i' q hq kG
  rw[List.foldl_cons,Bi];refine agi iU hs oX aW (k+1) _ ?_ (by lia) o';rw[<-List.drop_drop,hd];rfl
def ace{mask k0:Nat}(iU:mask+1=2^k0)(hs:Array Int)(oX:hs.size<=mask):∃owner,layClean mask hs=some owner/\Own mask hs.toList owner hs.size:=by
 rw[afq];obtain⟨o,e,ok⟩:=agi iU hs.toList (by rw[a8];exact oX) hs.toList 0 (Array.replicate (mask+1) none) rfl (fj _) (by
  refine⟨by simp,λj q hq=>?_,λq hq=>by lia,λj j' q hq kG=>?_⟩
  .rw[Array.getElem?_replicate]at hq;split at hq<;>cases hq
  .rw[Array.getElem?_replicate]at hq;split at hq<;>cases hq)
 rw[e];exact⟨o,rfl,by rw[a8]at ok;exact ok⟩
theorem uj:∀(fuel k n:Nat),∃k',sizeAbove.go n fuel (2^k)=2^k'/\k<=k'/\k'<=k+fuel/\(n<2^(k+fuel)->n<2^k')/\(k'=k\/2^k'<=2*n)
 | 0,k,n=>⟨k,rfl,am _,am _,id,.inl rfl⟩
 | fuel+1,k,n=>by
  unfold sizeAbove.go;by_cases h:2^k<=n
  .rw[if_pos h,show 2^k*2=2^(k+1)from (kc ..).symm];obtain⟨k',a,b,c,d,e⟩:=uj fuel (k+1) n;refine⟨k',a,by lia,by lia,λq=>d<|by rw[show k+1+fuel=k+(fuel+1) by lia];exact q,?_⟩;rcases e with e|e
   .rw[e,kc];lia
   .exact .inr e
  .rw[if_neg h];exact⟨k,rfl,am _,by lia,λ_=>by lia,.inl rfl⟩
def r8(n:Nat)(hn:n<2^13):∃k,sizeAbove n=2^k/\3<=k/\k<=13/\n<2^k:=by
 obtain⟨k,a,b,c,d,e⟩:=uj 64 3 n;refine⟨k,a,b,?_,d<|Nat.lt_trans hn<|Nat.pow_lt_pow_right (by decide)<|by decide⟩;rcases e with e|e
 .lia
 .apply fc;intro h;have:2^14<=2^k:=ic (by decide) (by lia);have e14:2^14=2*2^13:=by decide
  lia
def ab5(n:Nat)(h8:8<=n)(hn:n<2^13){k:Nat}(e:sizeAbove n=2^k):k<=13/\n<2^k/\2^k<=2*n:=by
 obtain⟨k',a,b,c,d,e'⟩:=uj 64 3 n;obtain⟨k2,a2,_,b2,c2⟩:=r8 n hn;have e1:k=k2:=(Nat.pow_right_inj<|by decide).mp (e.symm.trans a2);have e2:k2=k':=(Nat.pow_right_inj<|by decide).mp (a2.symm.trans a);subst e1;refine⟨b2,c2,?_⟩;rcases e' with e'|e'
 .rw[e2,e'];lia
 .rw[e2];exact e'
def an1{m n k k':Nat}(hk:m+1=2^k)(k3:3<=k)(tH:k<=13)(ko:k % 2=1)(h1:m*3<=n*5)(h2:(n-1)*5<m*3)(h4:n<=4000)(pV:k'<=13)(l1:n*4<2^k')(l2:2^k'<=2*(n*4)):k' % 2=1:=by
 have p3:2^3<=2^k:=ic (by decide) k3;have a:¬k'<=k+1:=λh=>by have h:=ic (show 0<2 by decide) h;rw[kc]at h;lia
 have b:¬k+3<=k':=λh=>by have h:=ic (show 0<2 by decide) h;rw[Nat.pow_add]at h;lia
 lia
def ahz{m n k:Nat}(hk:m+1=2^k)(k3:3<=k)(tH:k<=13)(ko:k % 2=1)(h1:m*3<=n*5)(h2:(n-1)*5<m*3)(h4:n<=4000):n*4<2^13/\2<=n:=by
 have p3:2^3<=2^k:=ic (by decide) k3;have a:k≠13:=λh=>by subst h;lia
 have h:=ic (show 0<2 by decide) (show k<=11 by lia);lia
theorem wx{α β:Type}{f:α->Option β}{g:α->β}:∀(l:List α),(∀x∈l,f x=some (g x))->l.filterMap f=l.map g
 | [],_=>rfl
 | a::l,h=>by rw[List.filterMap_cons,h a ao,dq,wx l λx hx=>h x<|au _ hx]
theorem aft{t:SetTable}{es:Array (Int×aA)}{bZ:Nat}(hw:es.size*4<=bZ)(DB:bZ<2^13)(xG:∀k,sizeAbove bZ=2^k->k % 2=1)(hpos:0<es.size) :
  ∃t' gJ,t.relaid (es.map (·.1)) bZ=some (t',gJ)/\TOk t' (gJ.filterMap (es[·]?))/\(gJ.filterMap (es[·]?)).toList.Perm es.toList/\t'.place.size*5<t'.mask*3/\t'.led=t.led:=by
 obtain⟨k,ek,k3,tH,hn⟩:=r8 bZ DB;have ko:=xG k ek;have qZ:sizeAbove bZ-1+1=2^k:=by rw[ek];have:=Nat.two_pow_pos k;lia
 have oX:(es.map (·.1)).size<=sizeAbove bZ-1:=by rw[Array.size_map,ek];lia
 obtain⟨owner,eo,ok⟩:=ace qZ (es.map (·.1)) oX;rw[Array.size_map]at ok;generalize hm:sizeAbove bZ-1=mask at *
 let live:=(cp<|mask+1).filterMap λj=>(owner.getD j none).map λq=>(j,q)
 have iB:∀j q,(j,q)∈live↔owner[j]?=some (some q):=λj q=>by
  show(j,q)∈(cp<|mask+1).filterMap _↔_;rw[List.mem_filterMap];constructor
  .rintro⟨a,ha,e⟩;have hs:a<owner.size:=by rw[ok.size];exact gg.mp ha
   simp only[Array.getD,dif_pos hs]at e;cases hv:owner[a]with
   | none=>
    have e':(owner[a]).map (λq=>(a,q))=some (j,q):=e;rw[hv]at e';cases e'
   | some v=>
    have e':(owner[a]).map (λq=>(a,q))=some (j,q):=e;rw[hv]at e';cases e';rw[bx hs,hv]
  .intro h;obtain⟨hs,hv⟩:=br.mp h;refine⟨j,gg.mpr<|by rw[<-ok.size];exact hs,?_⟩;simp only[Array.getD,dif_pos hs];show(owner[j]).map (λq=>(j,q))=some (j,q);rw[hv];rfl
 have qS:(live.map (·.1)).Pairwise (· < ·):=by rw[gq];show((cp<|mask+1).filterMap _).Pairwise _;rw[List.pairwise_filterMap];refine List.Pairwise.imp ?_<|List.pairwise_lt_range (n:=mask+1);intro a b mD x hx y hy;obtain⟨q,_,rfl⟩:=db.mp hx;obtain⟨q',_,rfl⟩:=db.mp hy;exact mD
 have kI:(live.map (·.2)).Nodup:=by
  show List.Pairwise _ _;rw[gq];have h1:live.Pairwise λa b=>a.1<b.1:=by rw[gq]at qS;exact qS
  refine gv ?_ h1;intro a b ha hb mD e;have:=ok.o3 a.1 b.1 a.2 ((iB _ _).mp ha) (by rw[e];exact(iB _ _).mp hb);lia
 have jD:(live.map (·.2)).Perm (cp es.size):=by
  rw[List.perm_ext_iff_of_nodup kI List.nodup_range];intro q;rw[aw,gg];constructor
  .rintro⟨⟨j,q'⟩,h,rfl⟩;exact(ok.o1 j q'<|(iB _ _).mp h).1
  .intro h;obtain⟨j,hj⟩:=ok.o2 q h;exact⟨(j,q),(iB _ _).mpr hj,rfl⟩
 have bD:live.length=es.size:=by have:=jD.length_eq;rw[ae,g0]at this;exact this
 have BD:((live.map (·.2)).toArray.filterMap (es[·]?)).toList=live.map λx=>es[x.2]?.getD (0,.none):=by
  rw[Array.toList_filterMap];show List.filterMap _ (live.map (·.2))=_;rw[List.filterMap_map];have:∀x∈live,es[x.2]?=some (es[x.2]?.getD (0,.none)):=λx hx=>by have bQ:=(ok.o1 x.1 x.2<|(iB x.1 x.2).mp hx).1;rw[bx bQ];rfl
  exact wx live this
 have GZ:(live.map λx=>es[x.2]?.getD (0,.none)).Perm es.toList:=by
  have h1:=jD.map λq=>es[q]?.getD (0,.none);rw[bm]at h1;have h2:(cp es.size).map (λq=>es[q]?.getD (0,.none))=es.toList:=by
   apply List.ext_getElem
   .simp
   .intro i a b;simp;rw[bx (by simpa using b)];rfl
  rw[h2]at h1;exact h1
 refine(l8 ⟨mask,(live.map (·.1)).toArray,#[],t.finger,t.led,t.movedTo mask,t.plain⟩ ((live.map (·.2)).toArray) ⟨?_,?_,?_,?_,rfl⟩)
 .unfold SetTable.relaid SetTable.laid;rw[hm,eo];rfl
 .refine⟨⟨k,qZ,k3,tH,ko⟩,rfl,by simpa using qS,?_,?_,?_,?_⟩
  .intro j hj;have sL:j∈live.map (·.1):=by simpa using hj
   obtain⟨⟨j',q⟩,h,rfl⟩:=aw.mp sL;have:=(br.mp<|(iB _ _).mp h).1;rw[ok.size]at this;show j'<=mask;lia
  .rw[<-a8 (xs:=Array.filterMap _ _),BD];simp
  .show(live.map (·.1)).toArray.size<=mask;simp;rw[Array.size_map]at oX;lia
  .intro j e hs;rw[BD]at hs;obtain⟨i,h1,h2⟩:=hs;have fU:(live.map (·.1))[i]?=some j:=by simpa using h1
   rw[bz]at fU h2;cases hl:live[i]? with
   | none=>rw[hl]at fU;cases fU
   | some x=>
    rw[hl]at fU h2;obtain⟨j',q⟩:=x;cases fU;obtain⟨hq,h,a,n,b,c⟩:=ok.o1 j' q<|(iB _ _).mp (ak hl);have e2:es[q]?.getD (0,.none)=e:=by cases h2;rfl
    have e3:e.1=h:=by
     rw[<-e2,bx hq];have a':(es.map (·.1))[q]?=some h:=by rw[<-bj];exact a
     rw[Array.getElem?_map,bx hq]at a';simpa using a'
    rw[e3];refine⟨n,b,λn' gB=>?_⟩;obtain⟨q',kG⟩:=c n' gB;have:qd mask h n'∈live.map (·.1):=aw.mpr ⟨(qd mask h n',q'),(iB _ _).mpr kG,rfl⟩;simpa using this
 .rw[BD];exact GZ
 .show(live.map (·.1)).toArray.size*5<mask*3;simp;rw[bD];lia
end L3
namespace L3
open PySem
variable{Pv:aA->U->Prop}
mutual
noncomputable def kd:U->Bool
 | .int _=>true
 | .str _=>true
 | .tuple ds=>vk ds
 | .none=>false
 | .bool _=>false
 | .list _=>false
 | .dict _=>false
noncomputable def vk:Z U->Bool
 | []=>true
 | d::ds=>kd d&&vk ds
end
mutual
noncomputable def uI(w:aP):U->Int
 | .int i=>hashInt i
 | .str x=>eP w x
 | .tuple ds=>zC (j7<|sx w ds)
 | .none=>0
 | .bool _=>0
 | .list _=>0
 | .dict _=>0
noncomputable def sx(w:aP):Z U->Z Int
 | []=>[]
 | d::ds=>uI w d::sx w ds
end
def EM(d:U):Prop:=∀(prog:aK)(w:aP)(A:Around)(E:aA->aB->Prop)(s:aB)(v:aA)(as:Z aF)(Q:Int->aB->Prop),Reads s.heap v d as->A.units+d.depth<bH->(∀tk,s.toks<=tk->Q (uI w d) {s with toks:=tk})->aG (aH prog w) A (pyHash v) Q E s
theorem aiq{ds:Z U}(H:∀d∈ds,EM d):EM (.tuple ds):=λprog w A E s v as Q r hu h=>by
 cases r with
 | @tuple a o vs n _ _ ho hc hd hi=>
 have hT:s.TypeIs (.ref a) "tuple":=⟨o,ho,hc⟩;have zL:A.units+(ca ds+1)<bH:=hu;unfold pyHash;first|unfold pyHashByItsType|skip
 first|refine ab (wpAny_cRoomFor_or (.inr (show A.units<bH by lia)) ?_)|skip
 refine ab<|cR (name:="__hash__") hT F.slot_tuple_hash.lookup ?_;show aG _ _ (if (some (aA.builtin "tuple.__hash__")==some aA.none)=true then _ else _) _ _ _;rw[if_neg (show ¬_ by rw[beq_builtin_none];exact aq)];refine ab<|cR (name:="__hash__") hT F.slot_tuple_hash.lookup ?_;show aG _ _ (callSpecialIfBoundUnlessNone? (.ref a) "__hash__" _ >>= _) _ _ _;refine ab<|wpAny_callSpecialIfBoundUnlessNone?_slot (name:="__hash__") hT F.slot_tuple_hash<|cu (name:="__hash__") F.slot_tuple_hash hT F.entry_tuple_hash ?_<|F.args_tuple_hash_1 _;show aG _ _ (Builtin.Tuple.tupleItemsOf (.ref a) >>= _) _ _ _;refine ab<|wpAny_tupleItemsOf (n:=n) ho hd ?_;refine ab ?_;rw[<-Array.forIn_toList];refine cK _
  (λaW (b:Array Int) s'=>∃done left bs tk,ds=done++left/\ReadsAll s.heap aW left bs/\b.toList=sx w done/\s'={s with toks:=tk}/\s.toks<=tk)
  _ (λx aW b s' hI=>?_) (λb s' hI=>?_) _ _ (mf ([]) ds as s.toks ⟨rfl,hi,rfl,rfl,am _⟩)
 .obtain⟨done,left,bs,tk,e,hl,hb,rfl,hk⟩:=hI;cases hl with
  | @cons _ _ d cV _ _ h1 rD=>
   have dX:d∈ds:=by rw[e];simp
   have xP:∀(l:Z U),d∈l->d.depth<=ca l:=λl=>by
    induction l with
    | nil=>intro q;cases q
    | cons y l ih=>
     intro q;show _<=max y.depth (ca l);rcases ax.mp q with rfl|q
     .exact Nat.le_max_left _ _
     .exact ig (ih q)<|Nat.le_max_right _ _
   have vH:=xP ds dX;refine ab<|H d dX prog w _ E {s with toks:=tk} x _ _ h1 (by show A.units+1+d.depth<bH;lia) λDk eD=>?_;have hap:∀(l:Z U),sx w (l++[d])=sx w l++[uI w d]:=λl=>by
    induction l with
    | nil=>rfl
    | cons y l ih=>show uI w y::sx w (l++[d])=_;rw[ih];rfl
   first
    | exact af (mf (done++[d]) cV _ Dk ⟨by simp[e],rD,by simp[hb,hap],rfl,ig hk eD⟩)
    | exact ab<|af<|af ⟨done++[d],cV,_,Dk,by simp[e],rD,by simp[hb,hap],rfl,ig hk eD⟩
 .obtain⟨done,left,bs,tk,e,hl,hb,rfl,hk⟩:=hI;cases hl;rw[ff]at e;subst e;show aG _ _ (retInt<|j7 b.toList) _ _ _;rw[hb];refine wpAny_ret_mkInt ?_;show aG _ _ (if (decide (-(2:Int)^63<=j7 (sx w ds))&&decide (j7 (sx w ds)<2^63))=true then _ else _) _ _ _;have h':∀tk,s.toks<=tk->Q (zC<|j7<|sx w ds) {s with toks:=tk}:=h;unfold zC at h';split
  .rename_i hr
   rw[if_pos hr]at h';exact af<|h' _<|by simp only;lia
  .rename_i hr
   rw[if_neg hr]at h';exact ab<|jr<|af<|h' _<|by simp only;lia
mutual
theorem abf:∀(d:U),kd d=true->EM d
 | .int i,_=>λprog w A E s v as Q r hu h=>by
  cases r with
  | int=>exact De (h _<|by lia)
 | .str x,_=>λprog w A E s v as Q r hu h=>by
  cases r with
  | str=>exact Dd (h _<|by lia)
 | .tuple ds,hk=>aiq (v8 ds hk)
 | .none,hk=>absurd hk aq
 | .bool _,hk=>absurd hk aq
 | .list _,hk=>absurd hk aq
 | .dict _,hk=>absurd hk aq
theorem v8:∀(ds:Z U),vk ds=true->∀d∈ds,EM d
 | [],_,d,hd=>by cases hd
 | e::ds,hk,d,hd=>by
  have eD:(kd e&&vk ds)=true:=hk;rw[gp]at eD;rcases ax.mp hd with h|hd
  .rw[h];exact abf e eD.1
  .exact v8 ds eD.2 d hd
end
mutual
theorem CK:∀(d e:U),kd d=true->kd e=true->bo d e=true->d=e
 | .int i,e,_,he,h=>by cases e<;>simp[bo,kd]at h he⊢;exact h
 | .str x,e,_,he,h=>by cases e<;>simp[bo,kd]at h he⊢;exact h
 | .tuple ds,e,hd,he,h=>by
  cases e with
  | tuple es=>
   have:=ad4 ds es hd he (by simpa [bo]using h);rw[this]
  | _=>simp[bo,kd]at h he
 | .none,_,hd,_,_=>absurd hd aq
 | .bool _,_,hd,_,_=>absurd hd aq
 | .list _,_,hd,_,_=>absurd hd aq
 | .dict _,_,hd,_,_=>absurd hd aq
theorem ad4:∀(ds es:Z U),vk ds=true->vk es=true->cx ds es=true->ds=es
 | [],[],_,_,_=>rfl
 | [],_::_,_,_,h=>by simp[cx]at h
 | _::_,[],_,_,h=>by simp[cx]at h
 | d::ds,e::es,hd,he,h=>by
  have tU:(kd d&&vk ds)=true:=hd;have jJ:(kd e&&vk es)=true:=he;rw[gp]at tU jJ;have h':bo d e=true/\cx ds es=true:=by simpa [cx]using h
  rw[CK d e tU.1 jJ.1 h'.1,ad4 ds es tU.2 jJ.2 h'.2]
end
theorem qv{h:Heap}:∀{vs:Z aA} {ds:Z U} {as:Z aF},ReadsAll h vs ds as->∀v∈vs,∃d bs,d∈ds/\Reads h v d bs
 | _,_,_,.nil,v,hv=>by cases hv
 | _,_,_,.cons h1 h2,v,hv=>by
  rcases ax.mp hv with e|hv
  .rw[e];exact(l8 _ _ ⟨ao,h1⟩)
  .obtain⟨d,bs,q1,q2⟩:=qv h2 v hv;exact(l8 d bs ⟨au _ q1,q2⟩)
theorem EV:∀{ds:Z U},vk ds=true->∀d∈ds,kd d=true
 | [],_,d,hd=>by cases hd
 | e::ds,hk,d,hd=>by
  have eD:(kd e&&vk ds)=true:=hk;rw[gp]at eD;rcases ax.mp hd with h|hd
  .rw[h];exact eD.1
  .exact EV eD.2 d hd
theorem JV:∀{ds:Z U},∀d∈ds,d.depth<=ca ds
 | [],d,hd=>by cases hd
 | e::ds,d,hd=>by
  show _<=max e.depth (ca ds);rcases ax.mp hd with h|hd
  .rw[h];exact Nat.le_max_left _ _
  .exact ig (JV d hd)<|Nat.le_max_right _ _
section
variable{prog:aK}{w:aP}{A:Around}{E:aA->aB->Prop}{s:aB}
theorem aat(n:Nat):∀{v:aA} {d:U} {as:Z aF} {Q:Bool->aB->Prop},kd d=true->Reads s.heap v d as->d.depth<n->Q true s->aG (aH prog w) A (eqIsQuiet n v) Q E s:=by
 induction n with
 | zero=>intro v d as Q hk r hn q;exact absurd hn (jb _)
 | succ n ih=>
  intro v d as Q hk r hn q;cases d with
  | int i=>cases r with|int=>rw[B8 _ rfl];exact af q
  | str x=>cases r with|str=>rw[B8 _ rfl];exact af q
  | tuple ds=>
    cases r with
    | @tuple a o vs m _ _ ho hc hd hi=>
    have hT:s.TypeIs (.ref a) "tuple":=⟨o,ho,hc⟩;have gB:ca ds+1<n+1:=hn;unfold eqIsQuiet;refine ab<|cR (name:="__eq__") hT F.slot_tuple_eq.lookup ?_;show aG _ _ (isInstance (.ref a) (.type "tuple") >>= _) _ _ _;refine ab<|kj (T:="tuple") hT isSubtype_tuple_tuple ?_;simp only[iu,bf,if_false];refine ab<|gj (n:=m) ho hd ?_;refine ab ?_;show aG _ _ (vN vs _ _) _ _ _;rw[<-Array.forIn_toList];refine cK _ (λaW r s'=>r.1=none/\s'=s/\∀v∈aW,v∈vs.toList) _ (λv aW r s' hI=>?_) (λr s' hI=>?_) _ _ ⟨rfl,rfl,λv hv=>hv⟩
    .obtain⟨hr,es,bB⟩:=hI;rw[es];obtain⟨d,bs,vH,jE⟩:=qv hi v<|bB v ao;refine ab<|ih (EV hk d vH) jE (by have:=JV d vH;lia) ?_;simp only[iu,bf,if_false];exact af ⟨rfl,rfl,λu hu=>bB u<|au _ hu⟩
    .obtain⟨r1,r2⟩:=r;obtain⟨hr,rfl,_⟩:=hI;simp only at hr;subst hr;exact af q
  | none=>exact absurd hk aq
  | bool _=>exact absurd hk aq
  | list _=>exact absurd hk aq
  | dict _=>exact absurd hk aq
theorem zz(n:Nat):∀{v:aA} {d:U} {as:Z aF} {Q:Bool->aB->Prop},kd d=true->Reads s.heap v d as->d.depth<n->Q false s->aG (aH prog w) A (fE n v) Q E s:=by
 induction n with
 | zero=>intro v d as Q hk r hn q;exact absurd hn (jb _)
 | succ n ih=>
  intro v d as Q hk r hn q;cases d with
  | int i=>cases r with|int=>unfold fE;exact af q
  | str x=>cases r with|str=>unfold fE;exact af q
  | tuple ds=>
    cases r with
    | @tuple a o vs m _ _ ho hc hd hi=>
    have hT:s.TypeIs (.ref a) "tuple":=⟨o,ho,hc⟩;have gB:ca ds+1<n+1:=hn;unfold fE;refine ab<|eO (T:="tuple") hT ?_;dsimp only;rw[if_pos (by decide)];refine ab<|af ?_;simp only[iu,bf,if_false];refine ab<|gj (n:=m) ho hd ?_;dsimp only;refine ab ?_;rw[<-Array.forIn_toList];refine cK _ (λaW r s'=>r.1=none/\s'=s/\∀v∈aW,v∈vs.toList) _ (λv aW r s' hI=>?_) (λr s' hI=>?_) _ _ ⟨rfl,rfl,λv hv=>hv⟩
    .obtain⟨hr,es,bB⟩:=hI;rw[es];obtain⟨d,bs,vH,jE⟩:=qv hi v<|bB v ao;refine ab<|ih (EV hk d vH) jE (by have:=JV d vH;lia) ?_;simp only[bf,if_false];exact af ⟨rfl,rfl,λu hu=>bB u<|au _ hu⟩
    .obtain⟨r1,r2⟩:=r;obtain⟨hr,rfl,_⟩:=hI;simp only at hr;subst hr;exact af q
  | none=>exact absurd hk aq
  | bool _=>exact absurd hk aq
  | list _=>exact absurd hk aq
  | dict _=>exact absurd hk aq
theorem zm:∀(n:Nat) {v:aA} {d:U} {as:Z aF} {Q:Bool->aB->Prop},kd d=true->Reads s.heap v d as->(∀b,Q b s)->aG (aH prog w) A (iE n v) Q E s
 | n,v,.int i,as,Q,hk,r,q=>by cases r with|int=>unfold iE;exact af (q _)
 | n,v,.str x,as,Q,hk,r,q=>by cases r with|str=>unfold iE;exact af (q _)
 | 0,v,.tuple ds,as,Q,hk,r,q=>by cases r with|tuple=>unfold iE;exact af (q _)
 | n+1,v,.tuple ds,as,Q,hk,r,q=>by
  cases r with
  | @tuple a o vs m _ _ ho hc hd hi=>
  have hT:s.TypeIs (.ref a) "tuple":=⟨o,ho,hc⟩;unfold iE;refine ab<|cR (name:="__hash__") hT F.slot_tuple_hash.lookup ?_;dsimp only;refine ab<|gj (n:=m) ho hd ?_;refine ab ?_;show aG _ _ (vN vs _ _) _ _ _;rw[<-Array.forIn_toList];refine cK _ (λaW r s'=>r.1=none/\s'=s/\∀v∈aW,v∈vs.toList) _ (λv aW r s' hI=>?_) (λr s' hI=>?_) _ _ ⟨rfl,rfl,λv hv=>hv⟩
  .obtain⟨hr,es,bB⟩:=hI;rw[es];obtain⟨d,bs,vH,jE⟩:=qv hi v<|bB v ao;refine ab<|zm n (EV hk d vH) jE λb=>?_;cases b with
   | true=>
    simp only[iu,bf,if_false];exact af ⟨rfl,rfl,λu hu=>bB u<|au _ hu⟩
   | false=>
    simp only[Bool.not_false,if_true];exact af<|af<|q _
  .obtain⟨r1,r2⟩:=r;obtain⟨hr,rfl,_⟩:=hI;simp only at hr;subst hr;exact af (q _)
 | _,_,.none,_,_,hk,_,_=>absurd hk aq
 | _,_,.bool _,_,_,hk,_,_=>absurd hk aq
 | _,_,.list _,_,_,hk,_,_=>absurd hk aq
 | _,_,.dict _,_,_,hk,_,_=>absurd hk aq
structure El(Pv:aA->U->Prop)(w:aP)(h:Heap)(e:Int×aA)(d:U):Prop where
 own:Pv e.2 d
 hash:e.1=uI w d
 key:kd d=true
 tup:∃ds,d=.tuple ds
 lay:d.canLay0=true
 deep:d.depth<8
 reads:∃as,Reads h e.2 d as
theorem El.ref{w:aP}{h:Heap}{e:Int×aA}{d:U}(x:El Pv w h e d):∃a,e.2=.ref a:=by
 obtain⟨ds,rfl⟩:=x.tup;obtain⟨as,r⟩:=x.reads;generalize e.2=v at r;cases r with
 | tuple=>exact⟨_,rfl⟩
def El.eq{h:Heap}{A:Around}{e e':Int×aA}{d d':U}(hs:s.heap=h)(x:El Pv w h e d)(y:El Pv w h e' d')(hu:A.units+8<bH){Q:Bool->aB->Prop}(q:∀b:Bool,(b=true↔d=d')->Q b s):aG (aH prog w) A (eqBool e.2 e'.2) Q E s:=by subst hs;obtain⟨as,r⟩:=x.reads;obtain⟨bs,r'⟩:=y.reads;refine SeqAt.eqBoolOverData prog w A E s _ _ d d' as bs Q r r' x.lay y.lay (by have:=x.deep;have:=Nat.min_le_left d.depth d'.depth;lia) ?_;refine q _ ⟨λz=>CK d d' x.key y.key z,λz=>?_⟩;rw[<-z];exact SeqAt.eqv_refl _ x.lay
theorem apx{x:Int×aA}{d:U}(hx:El Pv w s.heap x d):∀(ys:Z aA) {Q:Bool->aB->Prop},(∀y∈ys,∃h e,El Pv w s.heap (h,y) e)->Q false s->aG (aH prog w) A (AU x.2 ys) Q E s:=by
 intro ys Q hy q;unfold AU;refine ab ?_;refine cK _ (λaW r s'=>r.1=none/\s'=s/\∀v∈aW,v∈ys) _ (λv aW r s' hI=>?_) (λr s' hI=>?_) _ _ ⟨rfl,rfl,λv hv=>hv⟩
 .obtain⟨hr,rfl,bB⟩:=hI;obtain⟨h,e,hE⟩:=hy v<|bB v ao;obtain⟨a,ea⟩:=hx.ref;obtain⟨b,eb⟩:=hE.ref;obtain⟨as,r1⟩:=hx.reads;obtain⟨bs,r2⟩:=hE.reads;have nxt:∀u∈aW,u∈ys:=λu hu=>bB u<|au _ hu;simp only at eb r2;have stay:aG (aH prog w) A (aR (ForInStep.yield ((none:Option Bool),())):nG (ForInStep<|Option Bool×Unit)) (λr AW=>match r with
   | ForInStep.yield b'=>b'.fst=none/\AW=s'/\∀(v:aA),v∈aW->v∈ys
   | ForInStep.done b'=>aG (aH prog w) A (match b'.fst with|some r=>aR r|none=>aR false) Q E AW) E s':=af ⟨rfl,rfl,nxt⟩
  subst eb;rw[ea]at r1⊢;dsimp only;split
  .exact stay
  .refine ab<|aat 8 hx.key r1 hx.deep ?_;simp only[iu,bf,if_false];refine ab<|aat 8 hE.key r2 hE.deep ?_;simp only[iu,bf,if_false];refine ab<|zz 8 hx.key r1 hx.deep ?_;simp only[bf,if_false];refine ab<|zz 8 hE.key r2 hE.deep ?_;simp only[bf,if_false];exact stay
 .obtain⟨r1,r2⟩:=r;obtain⟨hr,rfl,_⟩:=hI;simp only at hr;subst hr;exact af q
def Els(Pv:aA->U->Prop)(w:aP)(h:Heap)(es:Z (Int×aA))(ds:Z U):Prop:=es.length=ds.length/\∀(i:Nat) e d,es[i]?=some e->ds[i]?=some d->El Pv w h e d
def Els.at{h:Heap}{es:Z (Int×aA)}{ds:Z U}(x:Els Pv w h es ds){i:Nat}{e:Int×aA}(he:es[i]?=some e):∃d,ds[i]?=some d/\El Pv w h e d:=by have hl:=(aj.mp he).1;have hd:ds[i]?=some (ds[i]'(by rw[<-x.1];exact hl)):=ah _;exact⟨_,hd,x.2 i e _ he hd⟩
def al6{t:SetTable}{es:Array (Int×aA)}(ok:TOk t es){f:Nat->Int}{h:Int}{p:SetTable.Probe}(st:uG t.mask p) :
  ∃met,t.probe f h p=some met/\((∃n,met=.empty (itn (adv t.mask) n p).j p.dummy/\(itn (adv t.mask) n p).j∉t.place.toList/\∀n',n'<n->∃i:Nat,t.place[i]?=some (itn (adv t.mask) n' p).j/\f i≠h)\/
  (∃n i,met=.candidate (itn (adv t.mask) n p).j i (itn (adv t.mask) (n+1) p)/\t.place[i]?=some (itn (adv t.mask) n p).j/\f i=h/\∀n',n'<n->∃i':Nat,t.place[i']?=some (itn (adv t.mask) n' p).j/\f i'≠h)):=by
 rcases aii ok f h st with ⟨n,e,r⟩|⟨n,i,e,r⟩
 .exact⟨_,e,.inl ⟨n,rfl,r⟩⟩
 .exact⟨_,e,.inr<|l8 n i ⟨rfl,r⟩⟩
theorem adc(mask:Nat):∀(n:Nat)(p:SetTable.Probe),(itn (adv mask) n p).dummy=p.dummy
 | 0,_=>rfl
 | n+1,p=>by show(itn (adv mask) n<|adv mask p).dummy=_;rw[adc mask n];unfold adv;split<;>rfl
theorem abb{a:aF}{o:Obj}{es:Array (Int×aA)}{ep:Nat}{t:SetTable}{ds:Z U}{x:Int×aA}{d:U}{Q:SetFound->aB->Prop}
  (ho:s.heap.get? a=some o) (hd:o.data=.set es ep t) (ok:TOk t es) (els:Els Pv w s.heap es.toList ds) (hx:El Pv w s.heap x d) (hu:A.units+8<bH)
  (q1:d∈ds->Q (.there none) s) (q2:∀n,d∉ds->qd t.mask x.1 n∉t.place.toList->(∀n',n'<n->qd t.mask x.1 n'∈t.place.toList)->Q (.free (qd t.mask x.1 n) false) s) :
  ∀(fuel m N:Nat)(nM:Option SetTable.Probe),nM.getD (st0 t.mask x.1)=itn (adv t.mask) m (st0 t.mask x.1)->qd t.mask x.1 N∉t.place.toList->N<m+fuel->
   (∀n',n'<m->∃i:Nat,t.place[i]?=some (qd t.mask x.1 n')/\ds[i]?≠some d)->aG (aH prog w) A (pK a x.2 x.1 true fuel nM) Q E s
 | 0,m,N,nM,hst,hN,hf,hm=>by exfalso;obtain⟨i,h1,h2⟩:=hm N (by lia);exact hN (by rw[<-bj]at h1;exact ak h1)
 | fuel+1,m,N,nM,hst,hN,hf,hm=>by
  unfold pK;refine ab<|g9 ho hd ok.fits ?_;dsimp only;rw[ok.noway];simp only[bf,if_false];rw[amm,hst];have wX:uG t.mask (itn (adv t.mask) m<|st0 t.mask x.1):=Km m<|wv _ _;have nR:∀n,(itn (adv t.mask) n<|itn (adv t.mask) m<|st0 t.mask x.1).j=qd t.mask x.1 (m+n):=λn=>by unfold qd;rw[r6]
  have inj:∀{i i' j:Nat},t.place[i]?=some j->t.place[i']?=some j->i=i':=λ{i i' j} h1 h2=>by rw[<-Ke ok.rise h1,Ke ok.rise h2]
  have vO:∀{i j:Nat},t.place[i]?=some j->∃e di,es[i]?=some e/\ds[i]?=some di/\El Pv w s.heap e di:=λ{i j} h1=>by have hl:=(br.mp h1).1;have he:es[i]?=some (es[i]'(by rw[<-ok.sz];exact hl)):=bx _;obtain⟨di,h2,h3⟩:=els.at (by rw[bj];exact he);exact(l8 _ di ⟨he,h2,h3⟩)
  obtain⟨met,hp,GI⟩:=al6 ok (f:=_) (h:=x.1) wX;rw[hp];have Ch:∀{n i:Nat},t.place[i]?=some (itn (adv t.mask) n<|itn (adv t.mask) m<|st0 t.mask x.1).j->(es[i]?.map (·.1)).getD 0≠x.1->ds[i]?≠some d:=λ{n i} h1 h2 h3=>by obtain⟨e,di,g1,g2,g3⟩:=vO h1;rw[g2]at h3;cases h3;apply h2;rw[g1];show e.1=x.1;rw[g3.hash,hx.hash]
  rcases GI with ⟨n,rfl,bX,xR⟩|⟨n,i,rfl,iM,hfi,xR⟩
  .have BS:∀n',n'<n->∃i:Nat,t.place[i]?=some (itn (adv t.mask) n'<|itn (adv t.mask) m<|st0 t.mask x.1).j/\ds[i]?≠some d:=λn' gB=>by
    obtain⟨i',h1,h2⟩:=xR n' gB;exact⟨i',h1,Ch h1 h2⟩
   dsimp only;rw[adc];show aG _ _ (aR _) _ _ _;rw[nR]at bX⊢;have rS:∀n',n'<m+n->∃i:Nat,t.place[i]?=some (qd t.mask x.1 n')/\ds[i]?≠some d:=λn' gB=>by
    by_cases hq:n'<m
    .exact hm n' hq
    .obtain⟨i',h1,h2⟩:=BS (n'-m) (by lia);rw[nR,show m+(n'-m)=n' by lia]at h1;exact⟨i',h1,h2⟩
   refine af<|q2 (m+n) (λmM=>?_) bX λn' gB=>?_
   .obtain⟨k,hk⟩:=dz mM;have oY:=(aj.mp hk).1;have hke:es.toList[k]?=some (es.toList[k]'(by rw[els.1];exact oY)):=ah _;have jU:=els.2 k _ d hke hk;have sI:t.place[k]?=some (t.place[k]'(by rw[ok.sz,<-a8,els.1];exact oY)):=bx _;obtain⟨n',gB,hr⟩:=ok.ahead (j:=t.place[k]'(by rw[ok.sz,<-a8,els.1];exact oY)) (e:=es.toList[k]'(by rw[els.1];exact oY)) ⟨k,by rw[bj];exact sI,hke⟩ (n:=m+n) (by rw[jU.hash,<-hx.hash];exact bX);rw[jU.hash,<-hx.hash]at hr;obtain⟨i',g1,g2⟩:=rS n' gB;rw[hr]at g1;have e:=inj sI g1;rw[<-e]at g2;exact g2 hk
   .obtain⟨i',g1,_⟩:=rS n' gB;rw[<-bj]at g1;exact ak g1
  .obtain⟨e,di,g1,g2,g3⟩:=vO iM;obtain⟨eh,y⟩:=e;obtain⟨ya,ey⟩:=g3.ref;have ey':y=.ref ya:=ey;subst ey';dsimp only;have fin:aG (aH prog w) A (pK a x.2 x.1 true fuel<|some<|itn (adv t.mask) (n+1)<|itn (adv t.mask) m<|st0 t.mask x.1) Q E s\/di=d:=by
    by_cases hq:di=d
    .exact .inr hq
    .refine .inl<|abb ho hd ok els hx hu q1 q2 fuel (m+n+1) N _ ?_ hN (by lia) λn' gB=>?_
     .show itn (adv t.mask) (n+1) (itn (adv t.mask) m<|st0 t.mask x.1)=_;rw[<-r6];rfl
     .by_cases wZ:n'<m
      .exact hm n' wZ
      .by_cases oU:n'-m<n
       .obtain⟨i',h1,h2⟩:=xR (n'-m) oU;have h3:=Ch h1 h2;rw[nR,show m+(n'-m)=n' by lia]at h1;exact⟨i',h1,h3⟩
       .rw[nR,show m+n=n' by lia]at iM;exact⟨i,iM,by rw[g2];intro z;cases z;exact hq rfl⟩
   have Ce:∀(b:Bool),(b=true↔di=d)->(b=true->aG (aH prog w) A (aR<|SetFound.there none) Q E s):=λb hb hbt=>af (q1 (by
    rw[<-hb.mp hbt];exact ak g2))
   rw[g1];dsimp only;have sm:t.sameMemory t.moves t.mask=some true:=by unfold SetTable.sameMemory;simp
   cases cU:t.led with
   | true=>
    simp only[iu,bf,if_false];refine ab<|f9<|El.eq rfl g3 hx hu λb hb=>?_;refine ab<|g9 ho hd ok.fits ?_;cases b with
    | true=>
     simp only[Bool.and_self,if_true];exact Ce true hb rfl
    | false=>
     simp only[Bool.and_false,bf,if_false];rw[sm];dsimp only;rw[if_pos rfl,zy ok.rise iM];dsimp only;rw[g1];dsimp only;refine ab<|tD ?_;refine ab<|af ?_;simp only[if_true,bf,if_false];rcases fin with f|f
     .exact f
     .exact absurd (hb.mpr f) (by simp)
   | false=>
    simp only[Bool.not_false,if_true];refine ab<|apx hx _ (λy hy=>?_) ?_
    .obtain⟨e,he,rfl⟩:=aw.mp hy;have jJ:e∈es.toList:=by
      rw[Array.toList_filter]at he;exact(List.mem_filter.mp he).1
     obtain⟨k,hk⟩:=dz jJ;obtain⟨dk,_,hE⟩:=els.at hk;exact(l8 e.1 dk hE)
    simp only[bf,if_false];refine ab<|f9<|El.eq rfl g3 hx hu λb hb=>?_;refine ab<|g9 ho hd ok.fits ?_;cases b with
    | true=>
     simp only[Bool.and_self,if_true];exact Ce true hb rfl
    | false=>
     simp only[Bool.and_false,bf,if_false];rw[sm];dsimp only;rw[if_pos rfl,zy ok.rise iM];dsimp only;rw[g1];dsimp only;refine ab<|tD ?_;refine ab<|af ?_;simp only[if_true,bf,if_false];rcases fin with f|f
     .exact f
     .exact absurd (hb.mpr f)<|by simp
end
end L3
namespace L3
open PySem
variable{Pv:aA->U->Prop}
def alu{w:aP}{h:Heap}{ds:Z U}(x:Els Pv w h [] ds):ds=[]:=kh.mp x.1.symm
theorem ww{w:aP}{h:Heap}{e:Int×aA}{es:Z (Int×aA)}{ds:Z U}(x:Els Pv w h (e::es) ds):∃d cV,ds=d::cV/\El Pv w h e d/\Els Pv w h es cV:=by
 match ds,x with
 | [],x=>exact absurd x.1 (by simp)
 | d::cV,x=>exact(l8 d cV ⟨rfl,x.2 0 e d rfl rfl,by have:=x.1;simpa using this,λi e' d' h1 h2=>x.2 (i+1) e' d' h1 h2⟩)
theorem Els.cons{w:aP}{h:Heap}{e:Int×aA}{d:U}{es:Z (Int×aA)}{ds:Z U}(hd:El Pv w h e d)(x:Els Pv w h es ds):Els Pv w h (e::es) (d::ds):=by
 refine⟨by rw[b7,b7,x.1],λi e' d' h1 h2=>?_⟩;cases i with
 | zero=>cases h1;cases h2;exact hd
 | succ i=>exact x.2 i e' d' h1 h2
def Els.nil{w:aP}{h:Heap}:Els Pv w h [] []:=⟨rfl,λi e d h1 _=>by simp at h1⟩
theorem Els.append{w:aP}{h:Heap}:∀{es fs:Z (Int×aA)} {ds gs:Z U},Els Pv w h es ds->Els Pv w h fs gs->Els Pv w h (es++fs) (ds++gs)
 | [],fs,ds,gs,x,y=>by rw[alu x];exact y
 | e::es,fs,ds,gs,x,y=>by obtain⟨d,cV,rfl,h1,h2⟩:=ww x;exact Els.cons h1<|h2.append y
theorem Els.take{w:aP}{h:Heap}{es:Z (Int×aA)}{ds:Z U}(x:Els Pv w h es ds)(n:Nat):Els Pv w h (es.take n) (ds.take n):=by
 refine⟨by rw[b8,b8,x.1],λi e d h1 h2=>?_⟩;have hi:i<n:=by have:=(aj.mp h1).1;rw[b8]at this;lia
 rw[fh hi]at h1 h2;exact x.2 i e d h1 h2
theorem Els.drop{w:aP}{h:Heap}{es:Z (Int×aA)}{ds:Z U}(x:Els Pv w h es ds)(n:Nat):Els Pv w h (es.drop n) (ds.drop n):=by refine⟨by rw[gm,gm,x.1],λi e d h1 h2=>?_⟩;rw[gi]at h1 h2;exact x.2 _ e d h1 h2
theorem Els.perm{w:aP}{h:Heap}{es fs:Z (Int×aA)}(p:es.Perm fs):∀{ds:Z U},Els Pv w h fs ds->∃cV,cV.Perm ds/\Els Pv w h es cV:=by
 induction p with
 | nil=>intro ds x;exact⟨ds,j4 _,x⟩
 | cons e p ih=>
  intro ds x;obtain⟨d,iX,rfl,h1,h2⟩:=ww x;obtain⟨Cb,p2,x2⟩:=ih h2;exact⟨d::Cb,p2.cons d,x2.cons h1⟩
 | swap a b l=>
  intro ds x;obtain⟨d,iX,rfl,h1,h2⟩:=ww x;obtain⟨d',Cb,rfl,h3,h4⟩:=ww h2;exact⟨d'::d::Cb,List.Perm.swap _ _ _,(h4.cons h1).cons h3⟩
 | trans p1 p2 ih1 ih2=>
  intro ds x;obtain⟨iX,q1,x1⟩:=ih2 x;obtain⟨Cb,q2,x2⟩:=ih1 x1;exact⟨Cb,q2.trans q1,x2⟩
def sj(h h':Heap):Prop:=∀b ob,h.get? b=some ob->ob.cls=.type "tuple"->h'.get? b=some ob
mutual
theorem abz{h h':Heap}(t:sj h h'):∀(d:U) {v:aA} {as:Z aF},kd d=true->Reads h v d as->Reads h' v d as
 | .int i,v,as,_,r=>by cases r with|int=>exact .int _ _
 | .str x,v,as,_,r=>by cases r with|str=>exact .str _ _
 | .tuple ds,v,as,hk,r=>by
  cases r with
  | tuple ho hc hd hi=>exact .tuple (t _ _ ho hc) hc hd (wk t ds hk hi)
 | .none,_,_,hk,_=>absurd hk aq
 | .bool _,_,_,hk,_=>absurd hk aq
 | .list _,_,_,hk,_=>absurd hk aq
 | .dict _,_,_,hk,_=>absurd hk aq
theorem wk{h h':Heap}(t:sj h h'):∀(ds:Z U) {vs:Z aA} {as:Z aF},vk ds=true->ReadsAll h vs ds as->ReadsAll h' vs ds as
 | [],vs,as,_,r=>by cases r;exact .nil
 | d::ds,vs,as,hk,r=>by
  have eD:(kd d&&vk ds)=true:=hk;rw[gp]at eD;cases r with
  | cons h1 h2=>exact .cons (abz t d eD.1 h1)<|wk t ds eD.2 h2
end
def El.stay{w:aP}{h h':Heap}(t:sj h h'){e:Int×aA}{d:U}(x:El Pv w h e d):El Pv w h' e d:=
 ⟨x.own,x.hash,x.key,x.tup,x.lay,x.deep,let ⟨as,r⟩:=x.reads;⟨as,abz t d x.key r⟩⟩
theorem Els.stay{w:aP}{h h':Heap}(t:sj h h'){es:Z (Int×aA)}{ds:Z U}(x:Els Pv w h es ds):Els Pv w h' es ds:=⟨x.1,λi e d h1 h2=>(x.2 i e d h1 h2).stay t⟩
def ahl{h h':Heap}{a:aF}{o:Obj}(ho:h.get? a=some o)(hc:o.cls=.type "set")(hs:b9 a h h'):sj h h':=λb ob hb ht=>by
 have:b≠a:=λe=>by subst e;rw[ho]at hb;cases hb;rw[hc]at ht;exact absurd ht<|by decide
 rw[hs.2 b this];exact hb
noncomputable def byT(w:aP):Bool:=w.params.followText "set-order"
def SetD(Pv:aA->U->Prop)(w:aP)(h:Heap)(a:aF)(ds:Z U):Prop:=
 ∃o es ep t,h.get? a=some o/\o.ExactSet/\o.data=.set es ep t/\TOk t es/\t.place.size*5<t.mask*3/\Els Pv w h es.toList ds/\ds.Nodup/\t.led = !byT w
theorem SetD.fresh{w:aP}{h:Heap}{led:Bool}(cU:led = !byT w):SetD Pv w (h.push {cls:=.type "set",dict:=none,data:=.set #[] 0 (.fresh 0 0 led)}) h.objs.size []:=
 (mf _ (#[]) 0 _ ⟨a6 _ rfl,⟨rfl,rfl,rfl⟩,rfl,TOk.fresh 0 0 led,(by show 0*5<7*3;decide),Els.nil,List.nodup_nil,cU⟩)
def TOk.withPlain{t:SetTable}{es:Array (Int×aA)}(ok:TOk t es)(b:Bool):TOk {t with plain:=b} es:=⟨ok.two,ok.dm,ok.rise,ok.bd,ok.sz,ok.fit,ok.onroad⟩
section
variable{prog:aK}{w:aP}{A:Around}{E:aA->aB->Prop}{s:aB}
def aoa{a:aF}{o:Obj}{es:Array (Int×aA)}{ep:Nat}{t:SetTable}{ds:Z U}{bZ:Nat}{Q:Unit->aB->Prop}
  (ho:s.heap.get? a=some o) (jT:o.ExactSet) (hd:o.data=.set es ep t) (ok:TOk t es) (els:Els Pv w s.heap es.toList ds) (kI:ds.Nodup) (cU:t.led = !byT w) (hw:es.size*4<=bZ) (DB:bZ<2^13) (xG:∀k,SetTable.sizeAbove bZ=2^k->k % 2=1) (hpos:0<es.size)
  (q:∀h' cV,b9 a s.heap h'->SetD Pv w h' a cV->cV.Perm ds->Q () {s with heap:=h'}):aG (aH prog w) A (setRelay a bZ) Q E s:=by
 obtain⟨t',gJ,e,ok',pm,few,HB⟩:=aft (t:=t) hw DB xG hpos;obtain⟨k,ek,k3,tH,hn⟩:=r8 bZ DB;have gN:¬SetTable.sizeAbove bZ>aE:=by rw[ek,cD];have:2^k<=2^13:=ic (by decide) tH;lia
 have hsz:(gJ.filterMap (es[·]?)).size=es.size:=by have:=pm.length_eq;rw[a8,a8]at this;exact this
 obtain⟨cV,pd,HA⟩:=els.perm pm;unfold setRelay;refine ab<|g9 ho hd ok.fits ?_;dsimp only;rw[if_neg gN,e];refine ab ?_;show aG _ _ (ite _ _ _) _ _ _;rw[if_neg (by simp[hsz])];refine af ?_;have Gh:es.size<=aE:=by rw[cD];lia
 refine AL ho hd ?_ (by rw[hsz];exact Gh);have hg:(s.heap.update a<|Obj.putSet (gJ.filterMap (es[·]?)) t').get? a=some {o with data:=.set (gJ.filterMap (es[·]?)) (ep+1) t'}:=by have:=cr (Obj.putSet (gJ.filterMap (es[·]?)) t') ho (by rw[qI _ t' hd];rfl);rw[qI _ t' hd]at this;exact this
 have lQ:=du s.heap a<|Obj.putSet (gJ.filterMap (es[·]?)) t';exact q _ cV lQ (mf _ _ _ _ ⟨hg,jT,rfl,ok',few,HA.stay<|ahl ho jT.1 lQ,(pd.nodup_iff).mpr kI,HB.trans cU⟩) pd
theorem ah4{a:aF}{ds:Z U}{x:Int×aA}{d:U}{Q:Bool->aB->Prop}(hS:SetD Pv w s.heap a ds)(hx:El Pv w s.heap x d)(hu:A.units+8<bH)(qR:ds.length<4000)
  (q:∀h' cV b,b9 a s.heap h'->SetD Pv w h' a cV->(d∈ds->cV=ds)->(d∉ds->cV.Perm (d::ds))->Q b {s with heap:=h'}) :
  aG (aH prog w) A (setAddHashed a x.2 x.1) Q E s:=by
 obtain⟨o,es,ep,t,ho,jT,hd,ok,few,els,kI,cU⟩:=hS;obtain⟨xa,ex⟩:=hx.ref;obtain⟨k,hk,k3,tH,ko⟩:=ok.two;have jU:=els.1;rw[a8]at jU;have hsz:=ok.sz;obtain⟨j,hj,bX⟩:=ao6 (ps:=t.place.toList) (m:=t.mask) (by rw[a8];exact ok.fit);unfold setAddHashed setAddHashedIn;refine f9<|ab<|g9 ho hd ok.fits ?_;dsimp only;have oC:byScan x.2 es=false:=by rw[ex];rfl
 rw[oC];simp only[bf,if_false];unfold setSearch;obtain⟨N,hN,eN⟩:=auv hk (st0 t.mask x.1) (wv _ _).1 (wv _ _).2.1 j hj;have qZ:10*SetTable.turns t.mask<=100000:=by unfold SetTable.turns;have:2^k<=2^13:=ic (by decide) tH;lia
 refine ab<|abb ho hd ok els hx hu (λmM=>?_) (λn xI hf hr=>?_) 100000 0 N none rfl (by unfold qd;rw[eN];exact bX) (by lia) λn' gB=>by lia
 .dsimp only;refine af ?_;have e:s={s with heap:=s.heap}:=by cases s;rfl
  rw[e];exact q s.heap ds false (b9.refl a s.heap) (mf o es ep t ⟨ho,jT,hd,ok,few,els,kI,cU⟩) (λ_=>rfl) λz=>absurd mM z
 .dsimp only;have hm7:7<=t.mask:=by
   have:2^3<=2^k:=ic (by decide) k3;lia
  obtain⟨ok1,em,Gv,DI⟩:=ok.put (x:=x.2) hf hr (by lia);have Ca:Els Pv w s.heap (io es (t.put<|qd t.mask x.1 n).2 (x.1,x.2)).toList (ds.take (t.put<|qd t.mask x.1 n).2++d::ds.drop (t.put<|qd t.mask x.1 n).2):=by rw[o6];exact(els.take _).append ((els.drop _).cons hx)
  have Do:(ds.take (t.put<|qd t.mask x.1 n).2++d::ds.drop (t.put<|qd t.mask x.1 n).2).Perm (d::ds):=by have:=List.perm_middle (a:=d) (l₁:=ds.take (t.put<|qd t.mask x.1 n).2) (l₂:=ds.drop (t.put<|qd t.mask x.1 n).2);rw[dh]at this;exact this
  have FK:(ds.take (t.put<|qd t.mask x.1 n).2++d::ds.drop (t.put<|qd t.mask x.1 n).2).Nodup:=by rw[Do.nodup_iff,jl];exact⟨xI,kI⟩
  have B7:(io es (t.put<|qd t.mask x.1 n).2 (x.1,x.2)).size=es.size+1:=by rw[<-ok1.sz,DI,hsz]
  refine ab<|g9 ho hd ok.fits ?_;dsimp only;have vF:(t.put<|qd t.mask x.1 n).1.led=t.led:=rfl;generalize hpt:t.put (qd t.mask x.1 n)=pt at *;obtain⟨t1,p⟩:=pt;simp only at ok1 em Gv DI Ca Do FK B7 vF⊢;have fin:∀t2:SetTable,TOk t2 (io es p (x.1,x.2))->t2.mask=t1.mask->t2.place=t1.place->t2.led=t1.led->aG (aH prog w) A (storeSet a (io es p (x.1,x.2)) t2 >>= λ_=>if (!false&&t2.tooFull)=true then setRelay a (SetTable.grown<|es.size+1) >>= λ_=>aR true else aR true) Q E s:=λt2 A3 e1 e2 e3=>by
   have vE:t2.led = !byT w:=e3.trans<|vF.trans cU;have gN:(io es p (x.1,x.2)).size<=aE:=by rw[B7,cD];lia
   refine ab<|AL ho hd ?_ gN;have hg:(s.heap.update a<|Obj.putSet (io es p (x.1,x.2)) t2).get? a=some {o with data:=.set (io es p (x.1,x.2)) (ep+1) t2}:=by have:=cr (Obj.putSet (io es p (x.1,x.2)) t2) ho (by rw[qI _ t2 hd];rfl);rw[qI _ t2 hd]at this;exact this
   have lQ:=du s.heap a<|Obj.putSet (io es p (x.1,x.2)) t2;have B9:=Ca.stay<|ahl ho jT.1 lQ;by_cases iD:t2.tooFull=true
   .rw[if_pos (by rw[iD];rfl)];have BH:es.size<4000:=by rw[jU];exact qR
    have htf:t2.mask*3<=(es.size+1)*5:=by unfold SetTable.tooFull SetTable.fill at iD;rw[A3.dm]at iD;have:=A3.sz;have:=B7;simp at iD;lia
    have hmk:t2.mask+1=2^k:=by rw[e1,em];exact hk
    have hfw:(es.size+1-1)*5<t2.mask*3:=by rw[e1,em];have:=ok.sz;lia
    have hgs:=ahz hmk k3 tH ko htf hfw (by lia);have GW:SetTable.grown (es.size+1)=(es.size+1)*4:=by unfold SetTable.grown;rw[if_neg (by lia)]
    refine ab<|aoa (s:={s with heap:=s.heap.update a<|Obj.putSet (io es p (x.1,x.2)) t2}) hg jT rfl A3 B9 FK vE (by rw[B7,GW];exact am _) (by rw[GW];exact hgs.1) (λk' ek'=>?_) (by rw[B7];lia) λh' cV Gg gX pd'=>?_
    .rw[GW]at ek';obtain⟨a1,a2,a3⟩:=ab5 _ (by lia) hgs.1 ek';exact an1 hmk k3 tH ko htf hfw (by lia) a1 a2 a3
    .exact af<|q h' cV true (lQ.trans Gg) gX (λz=>absurd z xI) λ_=>pd'.trans Do
   .rw[if_neg (by simpa using iD)];have Hu:t2.place.size*5<t2.mask*3:=by
     unfold SetTable.tooFull SetTable.fill at iD;rw[A3.dm]at iD;simpa using iD
    exact af<|q _ _ true lQ (mf _ _ _ _ ⟨hg,jT,rfl,A3,Hu,B9,FK,vE⟩) (λz=>absurd z xI) λ_=>Do
  obtain⟨as,rx⟩:=hx.reads;split
  .refine ab<|zm 8 hx.key rx λb=>?_;cases b with
   | true=>
    simp only[if_true];exact fin t1 ok1 rfl rfl rfl
   | false=>
    simp only[bf,if_false];exact fin _ (ok1.withPlain false) rfl rfl rfl
  .refine ab<|af ?_;simp only[if_true];exact fin t1 ok1 rfl rfl rfl
end
end L3
namespace L3
open PySem PyProof.Rows
variable{Pv:aA->U->Prop}
def Keep(h0 h:Heap):Prop:=∀b o,h0.get? b=some o->h.get? b=some o
def Keep.tups{h0 h:Heap}(k:Keep h0 h):sj h0 h:=λb o e _=>k b o e
def SetD.moved{w:aP}{h h':Heap}{S:aF}{ds:Z U}(x:SetD Pv w h S ds)(hS:∀o,h.get? S=some o->h'.get? S=some o)(t:sj h h'):SetD Pv w h' S ds:=by obtain⟨o,es,ep,tb,ho,jT,hd,ok,few,els,nd,cU⟩:=x;exact(mf o es ep tb ⟨hS o ho,jT,hd,ok,few,els.stay t,nd,cU⟩)
section
variable{prog:aK}{w:aP}{A:Around}{R:oO->aB->Prop}{I:aF}{fp wr:Z aF}{G:Array wG->Array wG->Prop}{n:Nat}{P:Nat->aA->Prop}{St:Nat->aB->Prop}
theorem adg(W:WalksS prog w A.in1 I fp wr G n P St)(S:aF)(oZ:S∉fp)(h0:Heap)(hwr:∀b∈wr,h0.get? b=none)(hS0:h0.get? S=none)(hwt:∀i s,St i s->∀b∈wr,∀ob,s.heap.get? b=some ob->ob.cls≠.type "tuple")
  (val:Nat->U) (wV:∀i v,P i v->El Pv w h0 (uI w<|val i,v) (val i)) (hu:A.units+9<bH) (hb:n<4000) :
  ∀(k i:Nat)(s:aB)(ds:Z U),n-i=k->i<=n->St i s->Keep h0 s.heap->SetD Pv w s.heap S ds->(∀d,d∈ds↔∃j,j<i/\val j=d)->ds.length<=i->
   (∀s' cV,Moved (S::wr) G s s'->Keep h0 s'.heap->SetD Pv w s'.heap S cV->(∀d,d∈cV↔∃j,j<n/\val j=d)->cV.length<=n->R (.ok<|.ret .none) s')->
   dD (aH prog w) A (.builtin "set.update.loop" ⟨[.ref S,.ref I],[]⟩) R s:=by
 have zX:S∉wr:=λh=>oZ<|W.sub _ h;have mono:∀b∈wr,b∈S::wr:=λb hb=>au _ hb;have mv:∀{i:Nat} {s s':aB} {ds:Z U},St i s->Moved wr G s s'->Keep h0 s.heap->SetD Pv w s.heap S ds->Keep h0 s'.heap/\SetD Pv w s'.heap S ds:=λ{i s s' ds} hst hm hk hS=>by refine⟨λb o e=>hm.heap b o (λz=>by rw[hwr b z]at e;cases e)<|hk b o e,hS.moved (λo e=>hm.heap S o zX e) λb o e ht=>hm.heap b o (λz=>hwt i s hst b z o e ht) e⟩
 intro k;induction k with
 | zero=>
  intro i s ds hk hi hst sI hS dX bD hR;have mM:i=n:=by lia
  subst mM;refine iw F.entry_set_update_loop (show _ from ?_);rw[gt F.plain_set_update_loop (_:Args)];show aG _ A.in1 (bF (.ref I) >>= _) _ _ _;refine ab<|W.done s _ _ hst λs' hm=>?_;obtain⟨k1,S1⟩:=mv hst hm sI hS;exact af (hR s' ds (hm.mono mono) k1 S1 dX bD)
 | succ k ih=>
  intro i s ds hk hi hst sI hS dX bD hR;have bQ:i<n:=by lia
  refine iw F.entry_set_update_loop (show _ from ?_);rw[gt F.plain_set_update_loop (_:Args)];show aG _ A.in1 (bF (.ref I) >>= _) _ _ _;refine ab<|W.item i s _ _ bQ hst λv s' hP oT hm=>?_;obtain⟨k1,S1⟩:=mv hst hm sI hS;have hE:=(wV i v hP).stay k1.tups;obtain⟨as,rv⟩:=hE.reads;show aG _ A.in1 (mV [v] (setAdd S v) >>= _) _ _ _;refine ab<|f9 ?_;unfold setAdd;refine f9 ?_;refine ab<|abf (val i) hE.key prog w A.in1 _ s' v as _ rv (by show A.units+1+_<bH;have:=hE.deep;lia) λtk htk=>?_;refine ah4 (s:={s' with toks:=tk}) (x:=(uI w<|val i,v)) S1 hE (by show A.units+1+8<bH;lia) (by lia) λh' cV b lQ gX e1 e2=>?_;have k2:Keep h0 h':=λb o e=>by rw[lQ.2 b (λz=>by rw[z,hS0]at e;cases e)];exact k1 b o e
  have Bt:∀d,d∈cV↔∃j,j<i+1/\val j=d:=λd=>by
   have base:(∃j,j<i+1/\val j=d)↔(d∈ds\/val i=d):=by
    rw[dX d];constructor
    .rintro⟨j,hj,e⟩;by_cases q:j=i
     .subst q;exact .inr e
     .exact .inl ⟨j,by lia,e⟩
    .rintro(⟨j,hj,e⟩|e)
     .exact⟨j,by lia,e⟩
     .exact⟨i,by lia,e⟩
   rw[base];by_cases q:val i∈ds
   .rw[e1 q];exact⟨.inl,λz=>z.elim id λe=>e▸q⟩
   .rw[(e2 q).mem_iff,ax];exact⟨λz=>z.elim (λe=>.inr e.symm) .inl,λz=>z.elim .inr λe=>.inl e.symm⟩
  have Bx:cV.length<=i+1:=by
   by_cases q:val i∈ds
   .rw[e1 q];lia
   .rw[(e2 q).length_eq,b7];lia
  refine af ⟨kg F.plain_set_update_loop _,ih (i+1) _ cV (by lia) bQ (W.frame _ s' _ _ oT htk λb hb o e=>?_) k2 gX Bt Bx λAX HF GJ k'' S'' m'' l''=>?_⟩
  .rw[lQ.2 b (λh:b=S=>oZ<|by rw[<-h];exact hb)];exact e
  .refine hR AX HF (Moved.trans W.gtrans ((hm.mono mono).then_heap htk λb o hb e=>?_) GJ) k'' S'' m'' l'';rw[lQ.2 b (λh:b=S=>hb<|by rw[h];exact ao)];exact e
end
section
variable{prog:aK}{w:aP}{A:Around}{E:aA->aB->Prop}{s:aB}
def ac8(a:aA){Q₁:aA->aB->Prop}
  (h:Q₁ (.ref s.heap.objs.size) {s with heap:=s.heap.push {cls:=.type "set",dict:=none,data:=.set #[] 0 (.fresh 0 0<|!byT w)}}) :
  dD (aH prog w) A (.call (.builtin "set.__new__") ⟨[.type "set",a],[]⟩) (wants Q₁ E) s:=by
 refine HH (show _ from ?_);show aG _ A.in1 (do Er "set.__new__" ⟨[.type "set",a],[]⟩;again (.builtin "set.__new__" ⟨[.type "set",a],[]⟩)) _ _ _;refine ab<|eY (PySem.F.newCall_set_1 a)<|af ⟨kg PySem.F.plain_set_new _,iw PySem.F.entry_set_new (show _ from ?_)⟩;rw[gt PySem.F.plain_set_new (_:Args)];unfold Builtin.«set.__new__» Builtin.Frozenset.newClass;have wW:=sub_set_self;obtain⟨hp,g,d,tk,os⟩:=s;dsimp only
 wp_walk
 refine cL<|af ?_;dsimp only;simp only[newObj];refine ab<|wpAny_alloc<|af ?_;exact af h
theorem aj3{l:aF}{items:Array aA}{ds:Z U}{Q:aA->aB->Prop}
  (hh:A.handled=none) (hl:s.heap.IsList l items) (hi:items.size=ds.length) (hE:∀(i:Nat) v d,items[i]?=some v->ds[i]?=some d->El Pv w s.heap (uI w d,v) d) (hb:ds.length<4000) (hu:A.units+20<bH)
  (h:∀(h':Heap)(tk:Nat)(cV:Z U),SetD Pv w h' s.heap.objs.size cV->(∀d,d∈cV↔d∈ds)->cV.length<=ds.length->Keep s.heap h'->s.toks<=tk->Q (.ref s.heap.objs.size) {s with heap:=h',toks:=tk}) :
  aG (aH prog w) A (call (.type "set") [.ref l]) Q E s:=by
 obtain⟨c,tl,hmro⟩:=jd.mro;have hmade:=jd.made;have wW:=jd.sub;refine yT<|HH (show _ from ?_);show aG _ _ (callAny (.type "set") _) _ _ s;refine af ⟨Code.quiet_builtin _<|by decide +kernel,iw F.entry_type_call (show _ from ?_)⟩;rw[Around.under_plain (weight_type_call_type "set" [.ref l] []) (rfl:_=_)];have h1:=jd.notType;have h2:=jd.canCreate;have hct:=PySem.F.typeCall_set_1 (.ref l)
 repeat (any_goals (first|assumption|(wp_step)))
 refine gF (ac8 (.ref l) (E:=E) (Q₁:=λobj s₁=>∃led:Bool,led=(!byT w)/\obj=.ref s.heap.objs.size/\s₁={s with heap:=s.heap.push {cls:=.type "set",dict:=none,data:=.set #[] 0 (.fresh 0 0 led)}}) ⟨_,rfl,rfl,rfl⟩) λr s₁ hr=>?_
 match r,hr with
 | .error e,hr=>exact hr
 | .ok (.ret obj),hr=>
   obtain⟨led,cU,rfl,rfl⟩:=hr;obtain⟨Aa,rH⟩:∃ob:Obj,ob={cls:=.type "set",dict:=none,data:=.set #[] 0 (.fresh 0 0 led)}:=⟨_,rfl⟩;have hS:(s.heap.push Aa).get? s.heap.objs.size=some Aa:=a6 _ (by rw[rH];rfl);have hT:aB.TypeIs {s with heap:=s.heap.push Aa} (.ref s.heap.objs.size) "set":=⟨_,hS,by rw[rH]⟩;have hSD:SetD Pv w (s.heap.push Aa) s.heap.objs.size []:=by rw[rH];exact SetD.fresh cU
   rw[<-rH];have hli:=jd.init.lookup;have zW:=jd.init.bind (.ref s.heap.objs.size)
   repeat (any_goals (first|assumption|(wp_step)))
   refine gF (vR (R:=wants (λr s₂=>r=.none/\∃h' tk cV,s₂={s with heap:=h',toks:=tk}/\SetD Pv w h' s.heap.objs.size cV/\(∀d,d∈cV↔d∈ds)/\cV.length<=ds.length/\Keep s.heap h'/\s.toks<=tk) E) jd.init.plain F.entry_set_init<|check_set_init_1 hT ?_) λr₂ s₂ qP=>?_
   .obtain⟨ol,qW,vI,nl,hdl⟩:=hl;obtain⟨ocls,A4,odata,wO⟩:=ol;simp only at vI hdl;subst vI;subst hdl;have Gw:(s.heap.push Aa).get? l=some {cls:=.type "list",dict:=A4,data:=.seq items nl,slots:=wO}:=ai _ qW;have hsls:=PySem.F.sub_list_set;have hslf:=PySem.F.sub_list_frozenset;have gW:(aA.type "list" == aA.type "dict")=false:=by decide
    have gR:(s.heap.push Aa).IsList l items:=(np _ Gw rfl nl rfl);unfold Builtin.«set.__init__» noKeywords Builtin.Frozenset.updateFrom;generalize hPI:kX=PI;subst rH
    wp_walk
    subst hPI;refine cY gR ?_;refine ab<|wpAny_runValue ?_;have nU:∀b,s.heap.objs.size<=b->s.heap.get? b=none:=λb dS=>by
     cases hq:s.heap.get? b with
     | none=>rfl
     | some ob=>exact absurd (bn hq)<|Nat.not_lt.mpr dS
    have hlS:l<s.heap.objs.size:=bn qW;have hh3:A.in1.in1.in1.handled=none:=by simp[hh]
    have Hl:(s.heap.push {cls:=.type "set",dict:=none,data:=.set #[] 0 (.fresh 0 0 led)}).objs.size=s.heap.objs.size+1:=i9 _ _;have GE:l≠(s.heap.push {cls:=.type "set",dict:=none,data:=.set #[] 0 (.fresh 0 0 led)}).objs.size:=by rw[Hl];exact dw<|Nat.lt_succ_of_lt hlS
    have oZ:s.heap.objs.size∉[(s.heap.push {cls:=.type "set",dict:=none,data:=.set #[] 0 (.fresh 0 0 led)}).objs.size,l]:=by rw[Hl];simp only[ax,df,or_false,not_or];exact⟨dw<|Nat.lt_succ_self _,Nat.ne_of_gt hlS⟩
    have wV:∀(i:Nat)(v:aA),items[i]?=some v->El Pv w s.heap (uI w<|ds.getD i .none,v) (ds.getD i .none):=λi v hv=>by
     have bQ:=(br.mp hv).1;have hd:ds[i]?=some (ds.getD i .none):=by rw[fk,ah<|by lia];rfl
     exact hE i v _ hv hd
    refine adg (A:=A.in1.in1) ((wF.list hh3 _ l GE items).toS) s.heap.objs.size oZ s.heap (λb dS=>nU b<|by rw[ar.mp dS,Hl];exact ke _) (nU _<|am _) (λi s' hst b dS ob e=>?hwt)
     (λi=>ds.getD i .none) wV (by show A.units+1+1+9<bH;lia) (by lia) (items.size-0) 0 _ [] (by lia) (fj _)
     ⟨⟨_,a6 _ rfl,rfl,rfl⟩,(gR.push _)⟩ ?hK0 ?hS0 (λd=>by simp) (by simp) ?hR
    case hwt=>
     obtain⟨⟨oi,ho,hc,_⟩,_⟩:=hst;rw[ar.mp dS,ho]at e;cases e;rw[hc];decide
    case hK0=>exact λb o e=>ai _<|ai _ e
    case hS0=>exact hSD.moved (λo e=>ai _ e) λb o e _=>ai _ e
    case hR=>
     intro s' cV hm k' S' m' l';obtain⟨h',g',d',Dk,FG⟩:=s';have eg:g'=s.gens:=hm.gens;have ed:d'=s.drawn:=hm.drawn;have eo:FG=s.os:=hm.os;subst eg;subst ed;subst eo;show aG _ _ _ _ _ _;refine af ?_;show aG _ _ (ret aA.none) _ _ _;refine af ⟨rfl,(mz h' Dk cV ⟨rfl,S',λd=>?_,by lia,k',hm.toks⟩)⟩;rw[m' d];constructor
     .rintro⟨j,hj,rfl⟩;rw[fk,ah<|by lia];exact ix _
     .intro hd;obtain⟨j,hj⟩:=dz hd;have hjl:=(aj.mp hj).1;exact⟨j,by lia,by rw[fk,hj];rfl⟩
   .match r₂,qP with
    | .error e,qP=>exact qP
    | .ok (.ret r),qP=>
      obtain⟨rfl,h',tk,cV,rfl,gX,tO,rD,eD,ht'⟩:=qP
      repeat (any_goals (first|assumption|(wp_step)))
      exact h _ _ cV gX tO rD eD ht'
    | .ok .next,qP=>exact qP.elim
    | .ok .brk,qP=>exact qP.elim
    | .ok .cont,qP=>exact qP.elim
 | .ok .next,hr=>exact hr.elim
 | .ok .brk,hr=>exact hr.elim
 | .ok .cont,hr=>exact hr.elim
end
end L3
namespace L3
open PySem PySem.Spec PyProof.Rows L2
variable{Pv:aA->U->Prop}
def Cn(d:U):Prop:=kd d=true/\(∃ds,d=.tuple ds)/\d.depth<8
theorem ahi{h:Heap}:∀{us:Z aA} {ds:Z U} {as:Z aF} {i:Nat} {u:aA} {d:U},ReadsAll h us ds as->us[i]?=some u->ds[i]?=some d->∃bs,Reads h u d bs
 | _,_,_,i,u,d,.nil,h1,_=>by simp at h1
 | _,_,_,0,u,d,.cons a b,h1,h2=>by cases h1;cases h2;exact⟨_,a⟩
 | _,_,_,i+1,u,d,.cons a b,h1,h2=>ahi b (by simpa using h1)<|by simpa using h2
theorem al0:∀{ds:Z U},ik ds=true->∀d∈ds,d.canLay0=true
 | [],_,d,hd=>by cases hd
 | e::ds,hk,d,hd=>by
  have eD:(e.canLay0&&ik ds)=true:=hk;rw[gp]at eD;rcases ax.mp hd with h|hd
  .rw[h];exact eD.1
  .exact al0 eD.2 d hd
end L3
namespace L3
open PySem
def slot_setit_next:Slot "set_iterator" "__next__" "set_iterator.__next__":=
 .of (owner:="set_iterator") (n:="__next__") (by rw[Fo,uB];kernel_rfl) (by decide +kernel) (by decide +kernel) (by decide +kernel) (by first|exact .inl (by decide +kernel)|exact .inr<|by decide +kernel) (by rw[isSubtype_type];kernel_rfl)
def px:entryFor table "set_iterator.__next__" = some Builtin.«set_iterator.__next__»:=entryFor_of_tree<|by kernel_rfl
def qe(a:aA):Ag "set_iterator.__next__" ⟨[a],[]⟩:=by unfold Ag;kernel_rfl
def aag:entryFor table "set.__iter__" = some Builtin.«frozenset.__iter__»:=entryFor_alias (id':="frozenset.__iter__") (by kernel_rfl) rfl (by decide +kernel)<|by kernel_rfl
theorem xz{α:Type}:∀(l:List α)(i:Nat)(h:i<l.length),(l[i]::l.eraseIdx i).Perm l
 | a::l,0,h=>j4 _
 | a::l,i+1,h=>by
  have h':i<l.length:=by simpa using h
  show(l[i]::a::l.eraseIdx i).Perm (a::l);exact(List.Perm.swap _ _ _).trans ((xz l i h').cons a)
theorem aj0{α:Type}(next:Nat->Nat):∀(fuel k:Nat)(left:List α)(out:Array α),left.length=fuel->((iK.go next fuel k left out).toList).Perm (out.toList++left)
 | 0,k,left,out,h=>by have:left=[]:=kh.mp h;subst this;rw[ff];exact j4 _
 | fuel+1,k,left,out,h=>by unfold iK.go;have hl:next k % left.length<left.length:=Nat.mod_lt _ (by lia);rw[ah hl];dsimp only;refine(aj0 next fuel (k+1) _ _<|by rw[List.length_eraseIdx_of_lt hl];lia).trans ?_;rw[Array.toList_push,bp];refine ij _ ?_;exact(xz _ _ hl)
def aju{α:Type}(next:Nat->Nat)(xs:Array α):(iK next xs).toList.Perm xs.toList:=by unfold iK;have:=aj0 next xs.size 0 xs.toList #[] (by simp);simpa using this
section
variable{prog:aK}{w:aP}{A:Around}{E:aA->aB->Prop}{s:aB}
def acg{src:Source}{n:Nat}{Q:Nat->aB->Prop}(hn:0<n)(h:∀i dr,i<n->Q i {s with drawn:=dr}):aG (aH prog w) A (choose src n) Q E s:=λΓ p hΓ=>by show n≠0/\_;exact⟨by lia,h _ _<|Nat.mod_lt _ hn⟩
theorem adb{α:Type}:∀(n:Nat)(xs:List α)(s:aB) {Q:List α->aB->Prop},xs.length=n->(∀ys dr,ys.Perm xs->Q ys {s with drawn:=dr})->aG (aH prog w) A (Ek n xs) Q E s
 | 0,xs,s,Q,h,q=>by have:xs=[]:=kh.mp h;subst this;unfold Ek;exact af (q [] s.drawn<|j4 _)
 | n+1,[],s,Q,h,q=>by simp at h
 | n+1,x::xs,s,Q,h,q=>by unfold Ek;refine ab<|acg (by simp) λi dr hi=>?_;rw[ah hi];dsimp only;refine ab<|adb n _ {s with drawn:=dr} (by rw[List.length_eraseIdx_of_lt hi];lia) λys dr' p=>?_;exact af<|q _ dr'<|(List.Perm.cons _ p).trans (xz _ _ hi)
noncomputable def vg(first:aA)(i:Nat)(a:aF)(n ep:Nat):Obj:={cls:=.type "set_iterator",data:=.fields #[first,.int i 0,.ref a,.int n 0,.int ep 0]}
def agy{I a:aF}{slot slot' i ep:Nat}{o:Obj}{es:Array (Int×aA)}{t:SetTable}{x:aA}{Q:Option aA->aB->Prop}(iV:s.heap.get? I=some (vg (.int slot 0) i a es.size ep))(ho:s.heap.get? a=some o)(hd:o.data=.set es ep t)(hf:t.fits es.size=true)
  (kH:∀{A:Around} {E:aA->aB->Prop} {Q:Option (aA×Nat)->aB->Prop},Q (some (x,slot')) s->aG (aH prog w) A (iJ a slot i ep) Q E s)
  (hQ:∀h',h'.get? I=some (vg (.int slot' 0) (i+1) a es.size ep)->b9 I s.heap h'->Q (some x) {s with heap:=h'}):aG (aH prog w) A (bF<|.ref I) Q E s:=by
 have hT:s.TypeIs (.ref I) "set_iterator":=⟨_,iV,rfl⟩;unfold bF;refine ab<|jf<|cg (name:=bh "__next__") hT slot_setit_next<|cu slot_setit_next hT px ?_<|qe _;unfold Builtin.«set_iterator.__next__» nN;simp only[List.isEmpty_nil,iu,bf,↓reduceIte,jO,ja,bne_self_eq_false];refine ab<|af ?_;dsimp only;refine ab<|cZ iV rfl ?_;show aG _ _ (nP a >>= _) _ _ _;refine ab<|cN ho hd hf ?_;rw[if_neg (by simp)];show aG _ _ (iJ a (slot:Int).toNat (i:Int).toNat (ep:Int).toNat >>= _) _ _ _;simp only[ci];refine ab<|kH ?_;dsimp only;refine ab<|ip iV rfl (by show 0<5;decide) ?_;have g1:=cr (Obj.mapFields (·.setIfInBounds 0 (cE slot'))) iV rfl;refine ab<|ip g1 rfl (by show 1<5;decide) ?_;have g2:=cr (Obj.mapFields (·.setIfInBounds 1 (cE<|i+1))) g1 rfl;exact af ⟨x,rfl,af<|hQ _ g2<|(du ..).trans (du ..)⟩
def ajw{I a:aF}{slot i ep:Nat}{o:Obj}{es:Array (Int×aA)}{t:SetTable}{Q:Option aA->aB->Prop}(hh:A.handled=none)(iV:s.heap.get? I=some (vg (.int slot 0) i a es.size ep))(ho:s.heap.get? a=some o)(hd:o.data=.set es ep t)(hf:t.fits es.size=true)
  (kH:∀{A:Around} {E:aA->aB->Prop} {Q:Option (aA×Nat)->aB->Prop},Q none s->aG (aH prog w) A (iJ a slot i ep) Q E s)
  (hQ:∀h',j6 I s.heap h'->Q none {s with heap:=h'}):aG (aH prog w) A (bF<|.ref I) Q E s:=by
 have hT:s.TypeIs (.ref I) "set_iterator":=⟨_,iV,rfl⟩;unfold bF;refine ab<|jf<|cg (name:=bh "__next__") hT slot_setit_next<|cu slot_setit_next hT px ?_<|qe _;unfold Builtin.«set_iterator.__next__» nN;simp only[List.isEmpty_nil,iu,bf,↓reduceIte,jO,ja,bne_self_eq_false];refine ab<|af ?_;dsimp only;refine ab<|cZ iV rfl ?_;show aG _ _ (nP a >>= _) _ _ _;refine ab<|cN ho hd hf ?_;rw[if_neg (by simp)];show aG _ _ (iJ a (slot:Int).toNat (i:Int).toNat (ep:Int).toNat >>= _) _ _ _;simp only[ci];refine ab<|kH ?_;dsimp only;refine ab<|ip iV rfl (by show 2<5;decide) ?_;show aG _ _ (kZ (.type "StopIteration") [] >>= _) _ _ _;refine ab ?_;simp only[kZ,kE];refine ab (cy ?_<|by size_fits);refine ab (m:=dC _ _)<|eY (a:=aA.none) (by first|rfl|(simp only[dC];rfl)) ?_;refine cy ?_ (by size_fits);simp only[nS];refine ab<|iZ ?_;rw[show A.in1.handled=none from hh];refine ab<|af<|lG ?_;refine ab<|kj (T:="StopIteration") (b:=true) ⟨_,a6 _ rfl,rfl⟩ eV ?_;exact af<|hQ _<|((du ..).extBut.push _).push _
def alf{I a tp:aF}{i ep p:Nat}{o op:Obj}{es:Array (Int×aA)}{t:SetTable}{ps:Array aA}{c:Nat}{e:Int×aA}{Q:Option aA->aB->Prop}(iV:s.heap.get? I=some (vg (.ref tp) i a es.size ep))(ho:s.heap.get? a=some o)(hd:o.data=.set es ep t)(hf:t.fits es.size=true)
  (hp:s.heap.get? tp=some op) (Gr:op.data=.seq ps c) (Gq:ps[i]?=some (.int p 0)) (BH:es[p]?=some e)
  (hQ:∀h',h'.get? I=some (vg (.ref tp) (i+1) a es.size ep)->b9 I s.heap h'->Q (some e.2) {s with heap:=h'}):aG (aH prog w) A (bF<|.ref I) Q E s:=by
 have hT:s.TypeIs (.ref I) "set_iterator":=⟨_,iV,rfl⟩;unfold bF;refine ab<|jf<|cg (name:=bh "__next__") hT slot_setit_next<|cu slot_setit_next hT px ?_<|qe _;unfold Builtin.«set_iterator.__next__» nN;simp only[List.isEmpty_nil,iu,bf,↓reduceIte,jO,ja,bne_self_eq_false];refine ab<|af ?_;dsimp only;refine ab<|cZ iV rfl ?_;show aG _ _ (nP a >>= _) _ _ _;refine ab<|cN ho hd hf ?_;rw[if_neg (by simp)];show aG _ _ (fQ (.ref tp) >>= _) _ _ _;refine ab<|gj hp Gr ?_;dsimp only;simp only[ci,Gq];refine ab ?_;unfold setNextDrawn;refine ab<|g9 ho hd hf ?_;dsimp only;rw[if_neg (by simp)];simp only[ci,BH];refine af ?_;refine ab<|ip iV rfl (by show 1<5;decide) ?_;have g2:=cr (Obj.mapFields (·.setIfInBounds 1 (cE<|i+1))) iV rfl;exact af ⟨e.2,rfl,af<|hQ _ g2<|du ..⟩
def amy{I a tp:aF}{i ep:Nat}{o op:Obj}{es:Array (Int×aA)}{t:SetTable}{ps:Array aA}{c:Nat}{Q:Option aA->aB->Prop}(hh:A.handled=none)(iV:s.heap.get? I=some (vg (.ref tp) i a es.size ep))(ho:s.heap.get? a=some o)(hd:o.data=.set es ep t)(hf:t.fits es.size=true)
  (hp:s.heap.get? tp=some op) (Gr:op.data=.seq ps c) (Gq:ps[i]?=none)
  (hQ:∀h',j6 I s.heap h'->Q none {s with heap:=h'}):aG (aH prog w) A (bF<|.ref I) Q E s:=by
 have hT:s.TypeIs (.ref I) "set_iterator":=⟨_,iV,rfl⟩;unfold bF;refine ab<|jf<|cg (name:=bh "__next__") hT slot_setit_next<|cu slot_setit_next hT px ?_<|qe _;unfold Builtin.«set_iterator.__next__» nN;simp only[List.isEmpty_nil,iu,bf,↓reduceIte,jO,ja,bne_self_eq_false];refine ab<|af ?_;dsimp only;refine ab<|cZ iV rfl ?_;show aG _ _ (nP a >>= _) _ _ _;refine ab<|cN ho hd hf ?_;rw[if_neg (by simp)];show aG _ _ (fQ (.ref tp) >>= _) _ _ _;refine ab<|gj hp Gr ?_;dsimp only;simp only[ci,Gq];refine ab<|ip iV rfl (by show 0<5;decide) ?_;have g1:=cr (Obj.mapFields (·.setIfInBounds 0 (cE 0))) iV rfl;refine ab<|ip g1 rfl (by show 2<5;decide) ?_;show aG _ _ (kZ (.type "StopIteration") [] >>= _) _ _ _;refine ab ?_;simp only[kZ,kE];refine ab (cy ?_<|by size_fits);refine ab (m:=dC _ _)<|eY (a:=aA.none) (by first|rfl|(simp only[dC];rfl)) ?_;refine cy ?_ (by size_fits);simp only[nS];refine ab<|iZ ?_;rw[show A.in1.handled=none from hh];refine ab<|af<|lG ?_;refine ab<|kj (T:="StopIteration") (b:=true) ⟨_,a6 _ rfl,rfl⟩ eV ?_;exact af<|hQ _<|(((du ..).trans (du ..)).extBut.push _).push _
def yj{a:aF}{slot given ep:Nat}{o:Obj}{es:Array (Int×aA)}{t:SetTable}{Q:Option (aA×Nat)->aB->Prop}(hb:byT w=true)(ho:s.heap.get? a=some o)(hd:o.data=.set es ep t)(hf:t.fits es.size=true)
  (h:Q (((iK (w.params.setOrder a ep) es)[given]?).map λe=>(e.2,slot)) s):aG (aH prog w) A (iJ a slot given ep) Q E s:=by
 have dS:w.params.followText "set-order" = true:=hb;unfold iJ;refine ab<|g9 ho hd hf ?_;dsimp only;unfold nO;refine ab<|ab<|cL<|af ?_;show aG _ _ (if w.params.followText "set-order" = true then _ else _) _ _ _;rw[if_pos dS];rw[if_neg (by simp)];refine ab ?_;unfold setWalk;refine ab<|g9 ho hd hf ?_;dsimp only;unfold nO;refine ab<|ab<|cL<|af ?_;show aG _ _ (if w.params.followText "set-order" = true then _ else _) _ _ _;rw[if_pos dS];refine ab<|cL<|af ?_;exact af h
def vz{a:aF}{slot given ep:Nat}{o:Obj}{es:Array (Int×aA)}{t:SetTable}{Q:Option (aA×Nat)->aB->Prop}(hb:byT w=false)(cU:t.led=true)(hdr:(!t.plain&&decide (es.size>1))=false)(ho:s.heap.get? a=some o)(hd:o.data=.set es ep t)(hf:t.fits es.size=true)
  (h:Q (match es[SetTable.below t.place slot]?,t.place[SetTable.below t.place slot]? with|some (_,x),some j=>some (x,j+1)|_,_=>none) s):aG (aH prog w) A (iJ a slot given ep) Q E s:=by
 have dS:w.params.followText "set-order" = false:=hb;unfold iJ;refine ab<|g9 ho hd hf ?_;dsimp only;unfold nO;refine ab<|ab<|cL<|af ?_;show aG _ _ (if w.params.followText "set-order" = true then _ else _) _ _ _;rw[if_neg (by rw[dS];exact aq)];show aG _ _ (if (!t.plain&&decide (es.size>1))=true then _ else _) _ _ _;rw[hdr,if_neg aq];refine ab ?_;show aG _ _ (if (!t.led && !es.isEmpty)=true then _ else _) _ _ _;rw[cU,if_neg<|by simp];refine af ?_;exact af h
end
def aio{xs:Array Nat}(h:xs.toList.Pairwise (· < ·)):SetTable.below xs 0=0:=by
 obtain⟨a,b,c⟩:=uo h 0;apply fc;intro hn;have h0:0<xs.size:=by lia
 have:=b 0 xs[0] (by lia) (by simp[h0]);lia
def ail{xs:Array Nat}(h:xs.toList.Pairwise (· < ·)){i j:Nat}(hi:xs[i]?=some j):SetTable.below xs (j+1)=i+1:=by
 obtain⟨a,b,c⟩:=uo h<|j+1;have hl:=(br.mp hi).1;by_cases q:SetTable.below xs (j+1)<=i
 .have:=c i j q hi;lia
 by_cases q2:i+1<SetTable.below xs (j+1)
 .have fP:i+1<xs.size:=by lia
  have e:xs[i+1]?=some xs[i+1]:=by simp[fP]
  have h1:=b (i+1) _ q2 e;have h2:=E3 h hi e (by lia);lia
 .lia
def WalkAt(w:aP)(a I:aF)(es:Array (Int×aA))(ep:Nat)(t:SetTable)(os:Z aA)(i:Nat)(h:Heap):Prop:=
 (∃o,h.get? a=some o/\o.cls=.type "set"/\o.data=.set es ep t)/\
 ((byT w=true/\os=(iK (w.params.setOrder a ep) es).toList.map (·.2)/\∃slot,h.get? I=some (vg (.int (slot:Nat) 0) i a es.size ep))\/
  (byT w=false/\(!t.plain&&decide (es.size>1))=false/\os=es.toList.map (·.2)/\∃slot,h.get? I=some (vg (.int (slot:Nat) 0) i a es.size ep)/\SetTable.below t.place slot=i)\/
  (∃tp op c,∃ord:Z Nat,h.get? I=some (vg (.ref tp) i a es.size ep)/\h.get? tp=some op/\op.cls=.type "tuple"/\op.data=.seq (ord.map λ(p:Nat)=>aA.int (p:Int) 0).toArray c/\os.length=ord.length/\∀(k:Nat) p,ord[k]?=some p->∃e,es[p]?=some e/\os[k]?=some e.2))
section
variable{prog:aK}{w:aP}{A:Around}{E:aA->aB->Prop}{s:aB}{a I:aF}{es:Array (Int×aA)}{ep:Nat}{t:SetTable}{os:Z aA}{i:Nat}
def WalkAt.keep{h h':Heap}(x:WalkAt w a I es ep t os i h)(k:∀b o,h.get? b=some o->(o.cls=.type "set"\/o.cls=.type "set_iterator"\/o.cls=.type "tuple")->h'.get? b=some o):WalkAt w a I es ep t os i h':=by
 obtain⟨⟨o,h1,h2,h3⟩,hm⟩:=x;refine⟨⟨o,k _ _ h1<|.inl h2,h2,h3⟩,?_⟩;rcases hm with ⟨b1,b2,slot,b3⟩|⟨b1,b2,b3,slot,b4,b5⟩|⟨tp,op,c,ord,b1,b2,b3,b4,b5,b6⟩
 .exact .inl ⟨b1,b2,slot,k _ _ b3<|.inr<|.inl rfl⟩
 .exact .inr<|.inl ⟨b1,b2,b3,slot,k _ _ b4<|.inr<|.inl rfl,b5⟩
 .exact .inr<|.inr<|mf tp op c ord ⟨k _ _ b1<|.inr<|.inl rfl,k _ _ b2<|.inr<|.inr b3,b3,b4,b5,b6⟩
def akr{x:aA}{Q:Option aA->aB->Prop}(ok:TOk t es)(cU:t.led = !byT w)(hw:WalkAt w a I es ep t os i s.heap)(hx:os[i]?=some x)
  (hQ:∀h',WalkAt w a I es ep t os (i+1) h'->b9 I s.heap h'->Q (some x) {s with heap:=h'}):aG (aH prog w) A (bF<|.ref I) Q E s:=by
 obtain⟨⟨o,h1,h2,h3⟩,hm⟩:=hw;have qO:∀{h':Heap} {fo:Obj},s.heap.get? I=some fo->fo.cls=.type "set_iterator"->b9 I s.heap h'->h'.get? a=some o:=λ{h' fo} hi hc sb=>by rw[sb.2 a (λe=>by subst e;rw[h1]at hi;cases hi;rw[h2]at hc;exact absurd hc<|by decide)];exact h1
 rcases hm with ⟨b1,b2,slot,b3⟩|⟨b1,b2,b3,slot,b4,b5⟩|⟨tp,op,c,ord,b1,b2,b3,b4,b5,b6⟩
 .subst b2;rw[bz,bj]at hx;obtain⟨e,he,rfl⟩:=db.mp hx;refine agy (slot':=slot) b3 h1 h3 ok.fits (λq=>yj b1 h1 h3 ok.fits<|by rw[he];exact q) λh' g sb=>?_;exact hQ h' ⟨⟨o,qO b3 rfl sb,h2,h3⟩,.inl ⟨b1,rfl,slot,g⟩⟩ sb
 .subst b3;rw[bz,bj]at hx;obtain⟨e,he,rfl⟩:=db.mp hx;have xM:=(br.mp he).1;have iM:t.place[i]?=some (t.place[i]'(by rw[ok.sz];exact xM)):=bx _;have hl:t.led=true:=by rw[cU,b1];rfl
  obtain⟨eh,ev⟩:=e;refine agy (slot':=t.place[i]'(by rw[ok.sz];exact xM)+1) b4 h1 h3 ok.fits (λq=>vz b1 hl b2 h1 h3 ok.fits<|by rw[b5,he,iM];exact q) λh' g sb=>?_;exact hQ h' ⟨⟨o,qO b4 rfl sb,h2,h3⟩,.inr<|.inl ⟨b1,b2,rfl,_,g,ail ok.rise iM⟩⟩ sb
 .have xM:=(aj.mp hx).1;have hio:ord[i]?=some (ord[i]'(by lia)):=ah _;obtain⟨e,e1,e2⟩:=b6 i _ hio;rw[hx]at e2;cases e2;refine alf b1 h1 h3 ok.fits b2 b4 (by rw[List.getElem?_toArray,bz,hio];rfl) e1 λh' g sb=>?_;have nt:tp≠I:=λe=>by subst e;rw[b2]at b1;cases b1;exact absurd b3<|by show ¬(aA.type "set_iterator" = aA.type "tuple");decide
  exact hQ h' ⟨⟨o,qO b1 rfl sb,h2,h3⟩,.inr<|.inr<|mf tp op c ord ⟨g,by rw[sb.2 tp nt];exact b2,b3,b4,b5,b6⟩⟩ sb
def am2{Q:Option aA->aB->Prop}(hh:A.handled=none)(ok:TOk t es)(cU:t.led = !byT w)(hw:WalkAt w a I es ep t os i s.heap)(hx:os.length<=i)
  (hQ:∀h',j6 I s.heap h'->Q none {s with heap:=h'}):aG (aH prog w) A (bF<|.ref I) Q E s:=by
 obtain⟨⟨o,h1,h2,h3⟩,hm⟩:=hw;rcases hm with ⟨b1,b2,slot,b3⟩|⟨b1,b2,b3,slot,b4,b5⟩|⟨tp,op,c,ord,b1,b2,b3,b4,b5,b6⟩
 .subst b2;rw[ae,a8]at hx;refine ajw hh b3 h1 h3 ok.fits (λq=>yj b1 h1 h3 ok.fits<|by rw[kx hx];exact q) hQ
 .subst b3;rw[ae,a8]at hx;have hl:t.led=true:=by rw[cU,b1];rfl
  refine ajw hh b4 h1 h3 ok.fits (λq=>vz b1 hl b2 h1 h3 ok.fits<|by rw[b5,kx hx];exact q) hQ
 .exact amy hh b1 h1 h3 ok.fits b2 b4 (by rw[List.getElem?_toArray,bz,jw<|by lia];rfl) hQ
theorem ah5{o:Obj}{Q:aA->aB->Prop}(ho:s.heap.get? a=some o)(jT:o.ExactSet)(hd:o.data=.set es ep t)(ok:TOk t es)(cU:t.led = !byT w)(hsz:es.size<=4000)
  (hQ:∀h' I os dr,os.Perm (es.toList.map (·.2))->WalkAt w a I es ep t os 0 h'->(∀b o,s.heap.get? b=some o->h'.get? b=some o)->s.heap.objs.size<=I->Q (.ref I) {s with heap:=h',drawn:=dr}):aG (aH prog w) A (kX<|.ref a) Q E s:=by
 have hT:s.TypeIs (.ref a) "set":=⟨o,ho,jT.1⟩;refine AO hT PySem.F.slot_set_iter<|cu PySem.F.slot_set_iter hT aag ?_<|PySem.F.args_set_iter_1 _;unfold Builtin.«frozenset.__iter__» Builtin.Frozenset.slot0 nN;simp only[List.isEmpty_nil,iu,bf,↓reduceIte,jO,ja,bne_self_eq_false];unfold Builtin.Frozenset.addrOf Builtin.Frozenset.sizeOf;refine ab<|af ?_;dsimp only;refine ab<|af ?_;refine ab<|ab<|cN ho hd ok.fits<|af ?_;have Hc:∀{Q:Bool->aB->Prop},Q (!byT w&&(!t.plain&&decide (es.size>1))) s->aG (aH prog w) A.in1 (setDrawn a) Q E s:=λ{Q} q=>by unfold setDrawn;refine ab<|g9 ho hd ok.fits ?_;dsimp only;unfold nO;refine ab<|ab<|cL<|af ?_;exact af q
 refine ab<|Hc ?_;cases hc:(!byT w&&(!t.plain&&decide (es.size>1)))with
 | true=>
  rw[if_pos rfl];refine ab<|adb es.size (cp es.size) s (by rw[g0]) λord dr hp=>?_;simp only[kE];have qW:ord.length=es.size:=by rw[hp.length_eq,g0]
  obtain⟨uM,tI⟩:∃ob:Obj,ob={cls:=.type "tuple",data:=.seq (ord.map λ(p:Nat)=>aA.int (p:Int) 0).toArray}:=⟨_,rfl⟩;have gN:((ord.map λ(p:Nat)=>aA.int (p:Int) 0).toArray).size<=aE:=by rw[a7,ae,qW,cD];lia
  refine ab<|cy ?_ gN;show aG _ _ _ _ _ {s with heap:=s.heap.push {cls:=.type "tuple",data:=.seq (ord.map λ(p:Nat)=>aA.int (p:Int) 0).toArray},drawn:=dr};rw[<-tI];have Bd:∀b ob,s.heap.get? b=some ob->(s.heap.push uM).get? b=some ob:=λb ob e=>ai _ e;have tJ:(s.heap.push uM).get? s.heap.objs.size=some uM:=a6 _ (by rw[tI];rfl);refine ab<|AM (Bd _ _ ho) hd ok.fits ?_;have hg:((s.heap.push uM).push (vg (.ref s.heap.objs.size) 0 a es.size ep)).get? (s.heap.push uM).objs.size=some (vg (.ref s.heap.objs.size) 0 a es.size ep):=a6 _ rfl;have Bc:∀b ob,(s.heap.push uM).get? b=some ob->((s.heap.push uM).push (vg (.ref s.heap.objs.size) 0 a es.size ep)).get? b=some ob:=λb ob e=>ai _ e;refine ab<|cy<|af<|nu _ rfl ("set_iterator") _ ⟨⟨_,hg,rfl⟩,slot_setit_next.lookup,?_⟩;have jD:(ord.map λp=>(es[p]?.map (·.2)).getD aA.none).Perm (es.toList.map (·.2)):=by
   have h1:=hp.map λp=>(es[p]?.map (·.2)).getD aA.none;have h2:(cp es.size).map (λp=>(es[p]?.map (·.2)).getD aA.none)=es.toList.map (·.2):=by
    apply List.ext_getElem
    .simp
    .intro k a1 b1;have hk:k<es.size:=by simpa using b1
     simp[hk]
   rw[h2]at h1;exact h1
  refine hQ _ _ _ dr jD ⟨⟨o,Bc _ _<|Bd _ _ ho,jT.1,hd⟩,.inr<|.inr<|mf s.heap.objs.size uM 0 ord ⟨hg,Bc _ _ tJ,by rw[tI],by rw[tI],by rw[ae],λk p hk=>?_⟩⟩ (λb ob e=>Bc _ _<|Bd _ _ e) (by rw[i9];exact ke _);have iM:p<es.size:=gg.mp<|hp.mem_iff.mp<|ak hk;refine⟨es[p],bx iM,?_⟩;rw[bz,hk];show some ((es[p]?.map (·.2)).getD aA.none)=_;rw[bx iM];rfl
 | false=>
  rw[if_neg aq];refine ab<|af ?_;refine ab<|AM ho hd ok.fits ?_;have hg:(s.heap.push<|vg (.int ((0:Nat):Int) 0) 0 a es.size ep).get? s.heap.objs.size=some (vg (.int ((0:Nat):Int) 0) 0 a es.size ep):=a6 _ rfl;have kp:∀b ob,s.heap.get? b=some ob->(s.heap.push<|vg (.int ((0:Nat):Int) 0) 0 a es.size ep).get? b=some ob:=λb ob e=>ai _ e;refine ab<|cy<|af<|nu _ rfl ("set_iterator") _ ⟨⟨_,hg,rfl⟩,slot_setit_next.lookup,?_⟩;cases hb:byT w with
  | true=>exact hQ _ _ _ s.drawn ((aju _ es).map _) ⟨⟨o,kp _ _ ho,jT.1,hd⟩,.inl ⟨hb,rfl,0,hg⟩⟩ kp (am _)
  | false=>
   rw[hb]at hc;exact hQ _ _ _ s.drawn (j4 _) ⟨⟨o,kp _ _ ho,jT.1,hd⟩,.inr<|.inl ⟨hb,by simpa using hc,rfl,0,hg,aio ok.rise⟩⟩ kp<|am _
end
def ang:yV (.type "set") "__len__" = aR (some<|.builtin "set.__len__"):=by rw[Fo,uB];kernel_rfl
section
variable{prog:aK}{w:aP}{A:Around}{a I S:aF}{es:Array (Int×aA)}{ep:Nat}{t:SetTable}{os:Z aA}{R:oO->aB->Prop}
theorem adq(hh:A.in1.handled=none)(ok:TOk t es)(cU:t.led = !byT w)(sF:os.length<=4000)(res:aA)(h0:Heap)(D0:h0.get? I=none)(hS0:h0.get? S=none) :
  ∀(k i:Nat)(s:aB)(c:Nat),os.length-i=k->i<=os.length->WalkAt w a I es ep t os i s.heap->s.heap.get? S=some {cls:=.type "list",dict:=none,data:=.seq (os.take i).toArray c,slots:=#[]}->(∀b o,h0.get? b=some o->s.heap.get? b=some o)->
  (∀h' c',h'.get? S=some {cls:=.type "list",dict:=none,data:=.seq os.toArray c',slots:=#[]}->(∀b o,h0.get? b=some o->h'.get? b=some o)->R (.ok<|.ret res) {s with heap:=h'})->
  dD (aH prog w) A (.builtin "list.extend.loop" ⟨[.ref S,.ref I,res],[]⟩) R s:=by
 intro k;induction k with
 | zero=>
  intro i s c hk hi hw hS sI hR;have mM:i=os.length:=by lia
  subst mM;rw[List.take_length]at hS;refine iw PySem.F.entry_extend_loop (show _ from ?_);rw[gt PySem.F.plain_extend_loop (_:Args)];show aG _ A.in1 (bF (.ref I) >>= _) _ _ s;have FL:S≠I:=λe=>by
   subst e;rcases hw.2 with ⟨_,_,slot,b3⟩|⟨_,_,_,slot,b4,_⟩|⟨tp,op,c,ord,b1,_⟩
   .rw[hS]at b3;injection b3 with b3;injection b3 with b3;exact absurd b3<|by decide
   .rw[hS]at b4;injection b4 with b4;injection b4 with b4;exact absurd b4<|by decide
   .rw[hS]at b1;injection b1 with b1;injection b1 with b1;exact absurd b1<|by decide
  refine ab<|am2 hh ok cU hw (am _) λh' hx=>?_;exact af (hR h' c (hx S _ FL hS) λb o e=>hx b o (λz=>by rw[z,D0]at e;cases e)<|sI b o e)
 | succ k ih=>
  intro i s c hk hi hw hS sI hR;have bQ:i<os.length:=by lia
  refine iw PySem.F.entry_extend_loop (show _ from ?_);rw[gt PySem.F.plain_extend_loop (_:Args)];show aG _ A.in1 (bF (.ref I) >>= _) _ _ s;have FL:S≠I:=λe=>by
   subst e;rcases hw.2 with ⟨_,_,slot,b3⟩|⟨_,_,_,slot,b4,_⟩|⟨tp,op,c,ord,b1,_⟩
   .rw[hS]at b3;injection b3 with b3;injection b3 with b3;exact absurd b3<|by decide
   .rw[hS]at b4;injection b4 with b4;injection b4 with b4;exact absurd b4<|by decide
   .rw[hS]at b1;injection b1 with b1;injection b1 with b1;exact absurd b1<|by decide
  refine ab<|akr ok cU hw (ah bQ) λh' hw' sb=>?_;have gX:h'.get? S=some {cls:=.type "list",dict:=none,data:=.seq (os.take i).toArray c,slots:=#[]}:=by rw[sb.2 S FL];exact hS
  show aG _ A.in1 (kW S (·.push os[i]) >>= _) _ _ _;refine ab ?_;have FV:(os.take i).toArray.size<=aE:=by rw[a7,b8,cD];lia
  have zF:((os.take i).toArray.push os[i]).size<=aE+1:=by rw[Array.size_push];lia
  refine cQ gX rfl (af ⟨kg PySem.F.plain_extend_loop _,ih (i+1) _ (c+1) (by lia) bQ (hw'.keep λb o e hc=>?_) ?_ (λb o e=>?_) λrO c' g kp=>?_⟩) FV zF
  .have:b≠S:=λz=>by
    subst z;rw[gX]at e;cases e;have iW:aA.type "list" = .type "set"\/aA.type "list" = .type "set_iterator"\/aA.type "list" = .type "tuple":=hc;revert iW;decide
   exact(da _ _<|Ne.symm this).trans e
  .have g:=cr (jj (·.push os[i])) gX rfl;have e1:(os.take i).toArray.push os[i]=(os.take<|i+1).toArray:=by rw[List.push_toArray,List.take_append_getElem bQ]
   rw[<-e1];exact g.trans<|congrArg some<|Obj.mapSeq_push_plain _ _ _
  .have nb:b≠S:=λz=>by rw[z,hS0]at e;cases e
   refine(da _ _<|Ne.symm nb).trans ?_;rw[sb.2 b (λz=>by rw[z,D0]at e;cases e)];exact sI b o e
  .exact hR rO c' g kp
theorem ad1{o:Obj}{E:aA->aB->Prop}{Q:Z aA->aB->Prop}{s:aB}(hh:A.handled=none)(ho:s.heap.get? a=some o)(jT:o.ExactSet)(hd:o.data=.set es ep t)(ok:TOk t es)(cU:t.led = !byT w)(hsz:es.size<=4000)
  (hQ:∀h' os dr,os.Perm (es.toList.map (·.2))->(∀b o,s.heap.get? b=some o->h'.get? b=some o)->Q os {s with heap:=h',drawn:=dr}):aG (aH prog w) A (kL<|.ref a) Q E s:=by
 unfold kL;refine ab<|wpAny_runValue<|iw PySem.F.entry_proto_collect ?_;rw[gt PySem.F.plain_proto_collect _];show aG _ A.in1 (newList [] >>= λl=>again<|.builtin "list.__iadd__" ⟨[l,.ref a],[]⟩) _ _ s;refine ab<|cy ?_;refine af ⟨kg PySem.F.plain_list_iadd _,iw PySem.F.entry_list_iadd ?_⟩;rw[gt PySem.F.plain_list_iadd _];show aG _ A.in1 (Builtin.List.listExtendWith (.ref s.heap.objs.size) (.ref a)<|.ref s.heap.objs.size) _ _ _;have hla:=bn ho;unfold Builtin.List.listExtendWith;generalize hH:s.heap.push {cls:=.type "list",data:=.seq ([]:Z aA).toArray}=H;have hHs:H.objs.size=s.heap.objs.size+1:=by rw[<-hH,i9]
 have kp:∀b ob,s.heap.get? b=some ob->H.get? b=some ob:=λb ob e=>hH▸ai _ e;have hHS:H.get? s.heap.objs.size=some {cls:=.type "list",data:=.seq ([]:Z aA).toArray}:=hH▸a6 _ rfl;have hT:∀(s':aB),s'.heap.get? a=some o->s'.TypeIs (.ref a) "set":=λs' e=>⟨o,e,jT.1⟩;refine ab<|eO (T:="set") (hT _<|kp _ _ ho) ?_;have h1:Builtin.List.listSameRef (.ref s.heap.objs.size) (.ref a)=false:=by show(s.heap.objs.size==a)=false;exact beq_false_of_ne<|Nat.ne_of_gt hla
 have h2:(aA.type "set" == aA.type "list")=false:=by decide
 have h3:(aA.type "set" == aA.type "tuple")=false:=by decide
 simp only[h1,h2,h3,Bool.or_false,bf,if_false];refine ab<|ah5 (kp _ _ ho) jT hd ok cU hsz λh1 I os dr hp hw k1 hI=>?_;refine ab<|f9 ?_;unfold Builtin.List.listLengthHint;have zN:h1.get? a=some o:=k1 _ _<|kp _ _ ho;refine ab (cR (T:="set") (v:=.ref a) (hT _ zN) ang ?_)
 wp_delta
 refine ab<|kj (T:="set") (v:=.ref a) (b:=true) (hT _ zN) (by rw[isSubtype_type];kernel_rfl) ?_;show aG _ A.in1 (typeOf (aA.ref a) >>= _) _ _ _;refine ab<|eO (T:="set") (v:=.ref a) (hT _ zN) ?_;refine af ?_;rw[if_pos (by decide)];show aG _ A.in1 (uU "list.extend.makes-room" >>= λ_=>Builtin.List.listTouch (.ref s.heap.objs.size) >>= λ_=>
  again (.builtin "list.extend.loop" ⟨[.ref s.heap.objs.size,.ref I,.ref s.heap.objs.size],[]⟩)) _ _ _
 refine ab<|jr ?_;refine ab ?_;show aG _ A.in1 (kW s.heap.objs.size (·.push .none) >>= λ_=>kW s.heap.objs.size (·.pop)) _ _ _;have hS:h1.get? s.heap.objs.size=some {cls:=.type "list",data:=.seq ([]:Z aA).toArray}:=k1 _ _ hHS;refine ab<|cQ hS rfl ?_;have hS₂:=cr (jj (·.push aA.none)) hS rfl;refine cQ (hz:=by seq_fits) hS₂ rfl ?_;have hS₃:=cr (jj (·.pop)) hS₂ rfl;have oth:∀b ob,b≠s.heap.objs.size->h1.get? b=some ob->((h1.update s.heap.objs.size<|jj (·.push aA.none)).update s.heap.objs.size (jj (·.pop))).get? b=some ob:=
  λb ob hb e=>(da _ _<|Ne.symm hb).trans ((da _ _<|Ne.symm hb).trans e)
 have D0:s.heap.get? I=none:=by
  cases q:s.heap.get? I with
  | none=>rfl
  | some ob=>
   have hI':H.objs.size<=I:=hI;exact absurd (bn q)<|Nat.not_lt.mpr<|ig (by rw[hHs];exact ke _) hI'
 have hS0:s.heap.get? s.heap.objs.size=none:=by
  cases q:s.heap.get? s.heap.objs.size with
  | none=>rfl
  | some ob=>exact absurd (bn q)<|js _
 refine af ⟨kg PySem.F.plain_extend_loop _,adq hh ok cU (by rw[hp.length_eq,ae,a8];exact hsz) _ s.heap D0 hS0 os.length 0 _ _ rfl (fj _) (hw.keep λb ob e hc=>oth b ob (λz=>?_) e) hS₃ (λb ob e=>oth b ob (λz=>?_)<|k1 _ _<|kp _ _ e) λh2 c2 g2 k2=>?_⟩
 .subst z;rw[hS]at e;cases e;have iW:aA.type "list" = .type "set"\/aA.type "list" = .type "set_iterator"\/aA.type "list" = .type "tuple":=hc;revert iW;decide
 .subst z;rw[hS0]at e;cases e
 .show aG _ A (load s.heap.objs.size >>= _) _ _ _;refine ab<|wpAny_load g2 ?_;refine af ?_;exact hQ h2 os dr hp k2
end
end L3
namespace L3
open PySem PySem.Spec PyProof.Rows L2
mutual
def Cmp:U->U->Prop
 | .int _,.int _=>True
 | .str _,.str _=>True
 | .tuple xs,.tuple ys=>mQ xs ys
 | _,_=>False
def mQ:Z U->Z U->Prop
 | [],_=>True
 | _::_,[]=>True
 | x::xs,y::ys=>Cmp x y/\mQ xs ys
end
mutual
noncomputable def ltD:U->U->Bool
 | .int a,.int b=>decide (a<b)
 | .str a,.str b=>sLt a b
 | .tuple xs,.tuple ys=>ltL xs ys
 | _,_=>false
noncomputable def ltL:Z U->Z U->Bool
 | [],[]=>false
 | [],_::_=>true
 | _::_,[]=>false
 | x::xs,y::ys=>if bo x y=true then ltL xs ys else ltD x y
end
noncomputable def rV(xs:Z Nat):Z Int:=xs.map λ(c:Nat)=>(c:Int)+1
mutual
noncomputable def enc:U->Z Int
 | .int a=>[1,a]
 | .str x=>2::(rV x.cps.toList++[0])
 | .tuple ds=>3::(nF ds++[0])
 | .none=>[9]
 | .bool _=>[9]
 | .list _=>[9]
 | .dict _=>[9]
noncomputable def nF:Z U->Z Int
 | []=>[]
 | d::ds=>enc d++nF ds
end
theorem alq:∀(xs ys:Z Nat)(r r':Z Int),(rV xs++0::r<rV ys++0::r')↔(xs<ys\/xs=ys/\r<r')
 | [],[],r,r'=>by simp[rV,fu]
 | [],y::ys,r,r'=>by
  have:(0:Int)<(y:Int)+1:=by lia
  simp[rV,fu,this]
 | x::xs,[],r,r'=>by
  have h1:¬((x:Int)+1<0):=by lia
  have h2:¬((x:Int)+1=0):=by lia
  simp[rV,fu,h1,h2]
 | x::xs,y::ys,r,r'=>by
  have ih:=alq xs ys r r';unfold rV at ih⊢;simp only[dq,List.cons_append,fu,ih,List.cons.injEq];have h1:((x:Int)+1<(y:Int)+1)↔x<y:=by lia
  have h2:((x:Int)+1=(y:Int)+1)↔x=y:=by lia
  rw[h1,h2];constructor
  .rintro(h|⟨h,h'|⟨h',rO⟩⟩)
   .exact .inl<|.inl h
   .exact .inl<|.inr ⟨h,h'⟩
   .exact .inr ⟨⟨h,h'⟩,rO⟩
  .rintro((h|⟨h,h'⟩)|⟨⟨h,h'⟩,rO⟩)
   .exact .inl h
   .exact .inr ⟨h,.inl h'⟩
   .exact .inr ⟨h,.inr ⟨h',rO⟩⟩
theorem ajq:∀(d:U)(r:Z Int),∃a t,enc d++r=a::t/\(0:Int)<a
 | .int a,r=>(l8 1 _ ⟨rfl,by decide⟩)
 | .str x,r=>(l8 2 _ ⟨rfl,by decide⟩)
 | .tuple ds,r=>(l8 3 _ ⟨rfl,by decide⟩)
 | .none,r=>(l8 9 _ ⟨rfl,by decide⟩)
 | .bool _,r=>(l8 9 _ ⟨rfl,by decide⟩)
 | .list _,r=>(l8 9 _ ⟨rfl,by decide⟩)
 | .dict _,r=>(l8 9 _ ⟨rfl,by decide⟩)
mutual
theorem aoo:∀(x y:U)(r r':Z Int),Cmp x y->((enc x++r<enc y++r')↔(if bo x y=true then r<r' else ltD x y=true))
 | .int a,.int b,r,r',_=>by
  have e:bo (.int a) (.int b)=(a==b):=rfl;rw[e];show(1::a::r<1::b::r')↔_;simp only[fu,ltD];by_cases h:a=b
  .subst h;simp
  .simp[h]
 | .str a,.str b,r,r',_=>by
  have e:bo (.str a) (.str b)=(a==b):=rfl;rw[e];show(2::((rV a.cps.toList++[0])++r)<2::((rV b.cps.toList++[0])++r'))↔_;rw[fu,bp,bp];show(_\/_/\(rV a.cps.toList++0::r<rV b.cps.toList++0::r'))↔_;rw[alq];have hx:a=b↔a.cps.toList=b.cps.toList:=⟨λh=>by rw[h],λh=>by cases a;cases b;simp only at h;congr;exact Array.ext' h⟩;by_cases h:a=b
  .subst h;simp[List.lt_irrefl]
  .have h':¬a.cps.toList=b.cps.toList:=λz=>h<|hx.mpr z;simp[h,h',ltD,sLt]
 | .tuple xs,.tuple ys,r,r',hc=>by
  have e:bo (.tuple xs) (.tuple ys)=cx xs ys:=by simp[bo]
  rw[e];show(3::((nF xs++[0])++r)<3::((nF ys++[0])++r'))↔_;rw[fu,bp,bp];show(_\/_/\(nF xs++0::r<nF ys++0::r'))↔(if cx xs ys=true then r<r' else ltL xs ys=true);rw[al1 xs ys r r' hc];simp
theorem al1:∀(xs ys:Z U)(r r':Z Int),mQ xs ys->((nF xs++0::r<nF ys++0::r')↔(if cx xs ys=true then r<r' else ltL xs ys=true))
 | [],[],r,r',_=>by simp[nF,cx,fu]
 | [],y::ys,r,r',_=>by obtain⟨a,t,e,h⟩:=ajq y (nF ys++0::r');show(0::r<(enc y++nF ys)++0::r')↔_;rw[bp,e,fu];simp[h,cx,ltL]
 | x::xs,[],r,r',_=>by
  obtain⟨a,t,e,h⟩:=ajq x (nF xs++0::r);show((enc x++nF xs)++0::r<0::r')↔_;rw[bp,e,fu];have h1:¬a<0:=by lia
  have h2:¬a=0:=by lia
  simp[h1,h2,cx,ltL]
 | x::xs,y::ys,r,r',hc=>by
  have iW:Cmp x y/\mQ xs ys:=hc;show((enc x++nF xs)++0::r<(enc y++nF ys)++0::r')↔(if (bo x y&&cx xs ys)=true then r<r' else(if bo x y=true then ltL xs ys else ltD x y)=true);rw[bp,bp,aoo x y _ _ iW.1];cases h:bo x y with
  | true=>
   simp only[if_true,Bool.true_and];exact al1 xs ys r r' iW.2
  | false=>simp
end
mutual
theorem amf:∀(x y:U),Cmp x y->bo x y=true->ltD x y=false
 | .int a,.int b,_,h=>by
  have e:bo (.int a) (.int b)=(a==b):=rfl;rw[e]at h;have:a=b:=by simpa using h
  subst this;simp[ltD]
 | .str a,.str b,_,h=>by
  have e:bo (.str a) (.str b)=(a==b):=rfl;rw[e]at h;have:a=b:=by simpa using h
  subst this;exact aro a
 | .tuple xs,.tuple ys,hc,h=>agn xs ys hc<|by simpa [bo]using h
theorem agn:∀(xs ys:Z U),mQ xs ys->cx xs ys=true->ltL xs ys=false
 | [],[],_,_=>rfl
 | [],_::_,_,h=>by simp[cx]at h
 | _::_,[],_,h=>by simp[cx]at h
 | x::xs,y::ys,hc,h=>by
  have h':bo x y=true/\cx xs ys=true:=by simpa [cx]using h
  show(if bo x y=true then ltL xs ys else ltD x y)=false;rw[if_pos h'.1];exact agn xs ys (show Cmp x y/\mQ xs ys from hc).2 h'.2
end
mutual
theorem ald:∀(x y:U),Cmp x y->bo y x=bo x y
 | .int a,.int b,_=>by show(b==a)=(a==b);exact Bool.beq_comm
 | .str a,.str b,_=>by show(b==a)=(a==b);exact Bool.beq_comm
 | .tuple xs,.tuple ys,hc=>by have:=ag6 xs ys hc;simpa [bo]using this
theorem ag6:∀(xs ys:Z U),mQ xs ys->cx ys xs=cx xs ys
 | [],[],_=>rfl
 | [],_::_,_=>rfl
 | _::_,[],_=>rfl
 | x::xs,y::ys,hc=>by have iW:Cmp x y/\mQ xs ys:=hc;show(bo y x&&cx ys xs)=(bo x y&&cx xs ys);rw[ald x y iW.1,ag6 xs ys iW.2]
end
mutual
theorem ai8:∀(x y:U),Cmp x y->bo x y=false->ltD x y=true\/ltD y x=true
 | .int a,.int b,_,h=>by
  have e:bo (.int a) (.int b)=(a==b):=rfl;rw[e]at h;have:a≠b:=by simpa using h
  simp only[ltD,decide_eq_true_eq];lia
 | .str a,.str b,_,h=>by
  have e:bo (.str a) (.str b)=(a==b):=rfl;rw[e]at h;have:a≠b:=by simpa using h
  show sLt a b=true\/sLt b a=true;cases h1:sLt a b with
  | true=>exact .inl rfl
  | false=>
   cases h2:sLt b a with
   | true=>exact .inr rfl
   | false=>exact absurd (Jj h1 h2) this
 | .tuple xs,.tuple ys,hc,h=>alr xs ys hc<|by simpa [bo]using h
theorem alr:∀(xs ys:Z U),mQ xs ys->cx xs ys=false->ltL xs ys=true\/ltL ys xs=true
 | [],[],_,h=>by simp[cx]at h
 | [],_::_,_,h=>.inl rfl
 | _::_,[],_,h=>.inr rfl
 | x::xs,y::ys,hc,h=>by
  have iW:Cmp x y/\mQ xs ys:=hc;show(if bo x y=true then ltL xs ys else ltD x y)=true\/(if bo y x=true then ltL ys xs else ltD y x)=true;have hs:bo y x=bo x y:=ald x y iW.1;rw[hs];cases h1:bo x y with
  | true=>
   have h2:cx xs ys=false:=by simpa [cx,h1]using h
   simpa using alr xs ys iW.2 h2
  | false=>simpa using ai8 x y iW.1 h1
end
theorem ul{x y:U}(h:Cmp x y):ltD x y=decide (enc x<enc y):=by
 have k:=aoo x y [] [] h;rw[ff,ff]at k;cases he:bo x y with
 | true=>
  rw[he,if_pos rfl]at k;rw[amf x y h he];exact(decide_eq_false λz=>List.lt_irrefl _<|k.mp z).symm
 | false=>
  rw[he,if_neg aq]at k;cases hl:ltD x y with
  | true=>exact(decide_eq_true<|k.mpr hl).symm
  | false=>exact(decide_eq_false λz=>by have:=k.mp z;rw[hl]at this;cases this).symm
theorem ap7{x y:U}(h:Cmp x y)(h':Cmp y x)(hx:kd x=true)(hy:kd y=true)(h1:¬enc x<enc y)(h2:¬enc y<enc x):x=y:=by
 cases he:bo x y with
 | true=>exact CK x y hx hy he
 | false=>
  rcases ai8 x y h he with z|z
  .rw[ul h]at z;exact absurd (of_decide_eq_true z) h1
  .rw[ul h']at z;exact absurd (of_decide_eq_true z) h2
noncomputable def ltE(ds:Z U)(i j:Nat):Bool:=decide<|enc (ds.getD i .none)<enc (ds.getD j .none)
noncomputable def vp(ds:Z U):Z U:=(srt (ltE ds) ds.length).map λi=>ds.getD i .none
def arw(ds:Z U):Ord (ltE ds)where
 asy:=λa b h=>decide_eq_false (List.lt_asymm<|of_decide_eq_true h)
 tr:=λa b c h1 h2=>by have fU:enc (ds.getD a .none)<=enc (ds.getD b .none):=of_decide_eq_false h1;have gD:enc (ds.getD b .none)<=enc (ds.getD c .none):=of_decide_eq_false h2;exact decide_eq_false<|List.le_trans fU gD
def qc(ds:Z U):(vp ds).Perm ds:=by have h:=(Ka (ltE ds) ds.length).map λi=>ds.getD i .none;rw[vc]at h;exact h
def yh(ds:Z U):(vp ds).length=ds.length:=(qc ds).length_eq
def JZ(ds:Z U):(vp ds).Pairwise λx y=>¬enc y<enc x:=by
 rw[fw];intro i j hi hj cO;have sL:j<ds.length:=by rw[yh]at hj;exact hj
 have u:=aoh (arw ds) ds.length (dg cO) sL;have pP:j<(srt (ltE ds) ds.length).length:=by rw[xj];exact sL
 have his:i<(srt (ltE ds) ds.length).length:=by lia
 rw[fk,fk,ah pP,ah his]at u;have u':=of_decide_eq_false u;have e:∀k (h:k<(vp ds).length) (h':k<(srt (ltE ds) ds.length).length),(vp ds)[k]=ds.getD (srt (ltE ds) ds.length)[k] .none:=λk h h'=>by simp[vp]
 rw[e j hj pP,e i hi his];exact u'
def CmpA(ds:Z U):Prop:=(∀x∈ds,∀y∈ds,Cmp x y)/\∀x∈ds,kd x=true
def CmpA.sub{ds es:Z U}(h:CmpA ds)(hs:∀x∈es,x∈ds):CmpA es:=⟨λx hx y hy=>h.1 x (hs x hx) y<|hs y hy,λx hx=>h.2 x<|hs x hx⟩
theorem JG:∀{xs ys:Z U},xs.Perm ys->CmpA xs->xs.Pairwise (λx y=>¬enc y<enc x)->ys.Pairwise (λx y=>¬enc y<enc x)->xs=ys
 | [],ys,p,_,_,_=>(List.Perm.nil_eq p).symm▸rfl
 | x::xs,[],p,_,_,_=>absurd p.length_eq (by simp)
 | x::xs,y::ys,p,hc,hx,hy=>by
  have wT:=gh.mp hx;have vA:=gh.mp hy;have m1:y∈x::xs:=p.mem_iff.mpr ao;have m2:x∈y::ys:=p.mem_iff.mp ao;have a1:¬enc y<enc x:=by
   rcases ax.mp m1 with e|m
   .rw[e];exact List.lt_irrefl _
   .exact wT.1 y m
  have a2:¬enc x<enc y:=by
   rcases ax.mp m2 with e|m
   .rw[e];exact List.lt_irrefl _
   .exact vA.1 x m
  have e:x=y:=ap7 (hc.1 x ao y m1) (hc.1 y m1 x ao) (hc.2 x ao) (hc.2 y m1) a2 a1;subst e;rw[JG (List.Perm.cons_inv p) (hc.sub λz hz=>au _ hz) wT.2 vA.2]
def aa4{xs ys:Z U}(p:xs.Perm ys)(hc:CmpA xs):vp xs=vp ys:=
 JG ((qc xs).trans (p.trans (qc ys).symm)) (hc.sub λx hx=>(qc xs).mem_iff.mp hx) (JZ xs) (JZ ys)
def LtAt(A:Around)(s:aB)(u v:aA)(b:Bool):Prop:=∀(prog:aK)(w:aP)(E:aA->aB->Prop)(Q:aA->aB->Prop),Q (.bool b) s->aG (aH prog w) A (richCompare .Lt u v) Q E s
theorem LtAt.int{A:Around}{s:aB}(a:Int)(t:sV)(c:Int)(u:sV):LtAt A s (.int a t) (.int c u) (decide<|a<c):=λprog w E Q h=>
 (PyProof.Rows.lt_int h:aG (aH prog w) A (aU .Lt (.int a t)<|.int c u) Q E s)
theorem LtAt.str{A:Around}{s:aB}(a:Str)(t:sV)(c:Str)(u:sV):LtAt A s (.str a t) (.str c u) (sLt a c):=λprog w E Q h=>
 (PyProof.Rows.lt_str h:aG (aH prog w) A (aU .Lt (.str a t)<|.str c u) Q E s)
def Cy(A:Around)(s:aB):Z aA->Z aA->Z U->Z U->Prop
 | v::vs,w::ws,x::xs,y::ys=>SeqAt.EqAt A s v w (bo x y)/\LtAt A s v w (ltD x y)/\Cy A s vs ws xs ys
 | [],_,[],_=>True
 | _::_,[],_::_,[]=>True
 | _,_,_,_=>False
section
open PySem.SeqAt
open PySem.AutoSeq1 (wpAny_loadPart')
open PySem.MeetsSeq PySem.MeetsSeq2 PySem.MeetsSeq3
theorem acl(l b:aF)(items fX:Array aA)(n n2:Nat)(dd vQ:Option aF)(sl uO:Array (Option aA))(xs ys:Z U)(hi:items.toList.length=xs.length)(hj:fX.toList.length=ys.length) :
  Meets (Builtin.«tuple.__lt__» ⟨[.ref l,.ref b],[]⟩)
   (λA R s=>s.heap.get? l=some {cls:=.type "tuple",dict:=dd,data:=.seq items n,slots:=sl}/\s.heap.get? b=some {cls:=.type "tuple",dict:=vQ,data:=.seq fX n2,slots:=uO}/\
    Cy A.in1 s items.toList fX.toList xs ys/\R (.ok<|.ret<|.bool<|ltL xs ys) s):=
 .of_wp λprog w A R s h=>by
  obtain⟨hp,g,d,tk,os⟩:=s;obtain⟨hl,hb,hP,h⟩:=h;have f2:=AutoSeq1.sub_tuple_tuple;have z1:items.size=xs.length:=by rw[<-hi];simp
  have z2:fX.size=ys.length:=by rw[<-hj];simp
  wp_walk using wpAny_loadPart' hl,wpAny_loadPart' hb,cK _ (λaW b s'=>b.1=none/\s'=⟨hp,g,d,tk,os⟩/\∃(vs ws:Z aA)(oS pM:Z U),aW=vs.zip ws/\
   vs.length=oS.length/\ws.length=pM.length/\Cy A.in1 ⟨hp,g,d,tk,os⟩ vs ws oS pM/\oS.length+fX.size=pM.length+items.size/\R (.ok<|.ret<|.bool<|ltL oS pM) ⟨hp,g,d,tk,os⟩) _
  case turn=>
   rintro⟨y,x⟩ aW b s' ⟨dS,rfl,vs,ws,oS,pM,hz,DC,DA,hpa,bD,hR⟩;cases vs with
   | nil=>rw[List.zip_nil_left]at hz;cases hz
   | cons v vs=>
    cases ws with
    | nil=>rw[List.zip_nil_right]at hz;cases hz
    | cons w' ws=>
     cases oS with
     | nil=>cases DC
     | cons n' oS=>
      cases pM with
      | nil=>cases DA
      | cons m' pM=>
       rw[List.zip_cons_cons]at hz;injection hz with hyx qT
       injection hyx with hy hx
       subst hy hx;obtain⟨he,bQ,Gs⟩:=hpa;have DW:R (.ok<|.ret<|.bool (if bo n' m'=true then ltL oS pM else ltD n' m')) ⟨hp,g,d,tk,os⟩:=hR;simp only[b7]at bD DC DA;refine ab<|he prog w _ _ ?_;cases hq:bo n' m' with
       | true=>
        rw[hq,if_pos rfl]at DW
        wp_walk
        exact⟨rfl,rfl,(mf _ _ _ _ ⟨qT,by lia,by lia,Gs,by lia,DW⟩)⟩
       | false=>
        rw[hq,if_neg aq]at DW;have hri:=bQ prog w
        wp_walk using hri
        exact⟨_,rfl,by simpa using DW⟩
  case fin=>
   rintro⟨b1,b2⟩ s' ⟨dS,rfl,vs,ws,oS,pM,hz,DC,DA,hpa,bD,hR⟩;simp only at dS;subst dS;have hv:ltL oS pM=decide (items.size<fX.size):=by
    cases oS with
    | nil=>
     cases pM with
     | nil=>
      simp only[ja]at bD;show false=_;exact(decide_eq_false<|by lia).symm
     | cons c u=>
      simp only[ja,b7]at bD;show true=_;exact(decide_eq_true<|by lia).symm
    | cons a t=>
     cases pM with
     | nil=>
      simp only[ja,b7]at bD;show false=_;exact(decide_eq_false<|by lia).symm
     | cons c u=>
      cases vs with
      | nil=>cases DC
      | cons v vs=>
       cases ws with
       | nil=>cases DA
       | cons w' ws=>
        rw[List.zip_cons_cons]at hz;cases hz
   rw[hv]at hR
   wp_walk
   exact⟨_,rfl,by simpa [Builtin.Tuple.tupleCompareSizes]using hR⟩
  case h=>
   exact⟨rfl,rfl,(mf items.toList fX.toList xs ys ⟨rfl,hi,hj,hP,by lia,h⟩)⟩
end
mutual
theorem ais:∀(x y:U),Cmp x y->∀(A:Around)(s:aB)(u v:aA)(as bs:Z aF),Reads s.heap u x as->Reads s.heap v y bs->x.canLay0=true->y.canLay0=true->
  A.units+hX x.depth y.depth<bH->LtAt A s u v (ltD x y)
 | .int a,.int b,_=>by intro A s u v as bs r1 r2 _ _ _;cases r1;cases r2;exact LtAt.int _ _ _ _
 | .str a,.str b,_=>by intro A s u v as bs r1 r2 _ _ _;cases r1;cases r2;exact LtAt.str _ _ _ _
 | .tuple xs,.tuple ys,hc=>by
  intro A s u v as bs r1 r2 h1 h2 hu;cases r1 with
  | @tuple a o vs n _ _ e1 e2 e3 z=>
   cases r2 with
   | @tuple a' o' AR n' _ _ f1 f2 f3 z'=>
    obtain⟨cls,dd,data,sl⟩:=o;obtain⟨Cd,vQ,data2,uO⟩:=o';simp only at e2 e3 f2 f3;subst e2 e3 f2 f3;intro prog w E Q hq;have hp:=uu xs ys hc A.in1 s _ _ _ _ z z' h1 h2<|SeqAt.room_in hu;exact richCompare_meets_room (op:=.Lt) ⟨_,e1,rfl⟩ ⟨_,f1,rfl⟩ PySem.F.slot_tuple_lt PySem.F.entry_tuple_lt (PySem.F.args_tuple_lt_2 _ _) (acl a a' vs AR n n' dd vQ sl uO xs ys (jx _ _ _ z)<|jx _ _ _ z')
     ⟨e1,f1,hp,show aA.bool (ltL xs ys)≠aA.notImplemented/\Q (.bool<|ltL xs ys) s from ⟨(λx=>nomatch x),hq⟩⟩ (SeqAt.room_here hu)
theorem uu:∀(xs ys:Z U),mQ xs ys->∀(A:Around)(s:aB)(vs ws:Z aA)(as bs:Z aF),ReadsAll s.heap vs xs as->ReadsAll s.heap ws ys bs->ik xs=true->ik ys=true->
  A.units+hX (ca xs) (ca ys)<bH->Cy A s vs ws xs ys
 | [],_,_=>by
  intro A s vs ws as bs r1 r2 _ _ _;cases r1;cases r2 with
  | nil=>exact True.intro
  | cons _ _=>exact True.intro
 | x::xs,[],_=>by intro A s vs ws as bs r1 r2 _ _ _;cases r1;cases r2;exact True.intro
 | x::xs,y::ys,hc=>by
  intro A s vs ws as bs r1 r2 h1 h2 hu;have fU:x.canLay0=true/\ik xs=true:=by simpa [ik]using h1
  have gD:y.canLay0=true/\ik ys=true:=by simpa [ik]using h2
  cases r1 with
  | cons ra rb=>
   cases r2 with
   | cons rc rd=>
    exact⟨SeqAt.eqAt_reads x y A s _ _ _ _ ra rc fU.1 gD.1<|SeqAt.room_head hu,ais x y (show Cmp x y/\mQ xs ys from hc).1 A s _ _ _ _ ra rc fU.1 gD.1 (SeqAt.room_head hu),
     uu xs ys (show Cmp x y/\mQ xs ys from hc).2 A s _ _ _ _ rb rd fU.2 gD.2 (SeqAt.room_tail hu)⟩
end
section
variable{prog:aK}{w:aP}{A:Around}{E:aA->aB->Prop}{s:aB}{Q:Bool->aB->Prop}
theorem ag0{b fin:Bool}:∀(xs ys:Z U)(vs ws:Z aA)(i:Nat),(b=false\/0<i)->vs.length=xs.length->ws.length=ys.length->Cy A s vs ws xs ys->fin=decide (xs.length<ys.length)->Q (ltL xs ys) s->
  PySem.W.KatLex prog w A b fin Q (vs.zip ws) i s
 | [],ys,vs,ws,i,hb,l1,l2,hp,hf,q=>by
  cases vs with
  | cons v vs=>cases l1
  | nil=>
   rw[List.zip_nil_left];refine PySem.W.kat_nil ?_;rw[hf];cases ys with
   | nil=>exact q
   | cons y ys=>exact q
 | x::xs,[],vs,ws,i,hb,l1,l2,hp,hf,q=>by
  cases ws with
  | cons v vs=>cases l2
  | nil=>
   rw[List.zip_nil_right];refine PySem.W.kat_nil ?_;rw[hf];exact q
 | x::xs,y::ys,vs,ws,i,hb,l1,l2,hp,hf,q=>by
  cases vs with
  | nil=>cases l1
  | cons v vs=>
   cases ws with
   | nil=>cases l2
   | cons w' ws=>
    rw[List.zip_cons_cons];obtain⟨he,bQ,mK⟩:=hp;have q':Q (if bo x y=true then ltL xs ys else ltD x y) s:=q;refine PySem.W.kat_cons<|he prog w _ _ ?_;cases hq:bo x y with
    | true=>
     rw[hq,if_pos rfl]at q';refine PySem.W.kat_yes<|ag0 xs ys vs ws (i+1) (.inr<|Nat.succ_pos _) (by simpa using l1) (by simpa using l2) mK ?_ q';rw[hf];simp
    | false=>
     rw[hq,if_neg aq]at q';refine PySem.W.kat_no ?_;have dS:(b&&i==0)=false:=by
      rcases hb with h|h
      .rw[h];rfl
      .have:(i==0)=false:=by simp;lia
       rw[this];simp
     rw[dS];exact PySem.W.kat_one _ _<|bQ prog w _ _ q'
theorem aut{u v:aA}{x y:U}{as bs:Z aF}(r1:Reads s.heap u x as)(r2:Reads s.heap v y bs)(hx:∃xs,x=.tuple xs)(hy:∃ys,y=.tuple ys)(l1:x.canLay0=true)(l2:y.canLay0=true)(hc:Cmp x y)
  (hu:A.units+hX x.depth y.depth<bH) (q:Q (ltD x y) s):aG (aH prog w) A (nV (tuples' false) u v) Q E s:=by
 obtain⟨xs,rfl⟩:=hx;obtain⟨ys,rfl⟩:=hy;cases r1 with
 | @tuple a o vs n _ _ e1 e2 e3 z=>
  cases r2 with
  | @tuple a' o' AR n' _ _ f1 f2 f3 z'=>
   have k1:=jx _ _ _ z;have k2:=jx _ _ _ z';refine PySem.W.kat_lt e1 e3 f1 f3<|ag0 xs ys _ _ 0 (.inl rfl) k1 k2 (uu xs ys hc A s _ _ _ _ z z' l1 l2 ?_) ?_ q
   .have h1:(PyData.tuple xs).depth=ca xs+1:=rfl;have h2:(PyData.tuple ys).depth=ca ys+1:=rfl;rw[h1,h2]at hu;lia
   .rw[a8]at k1 k2;rw[k1,k2]
end
def TT(d:U):Prop:=∃r aW,d=.tuple (.tuple r::aW)
theorem ag3{h:Heap}:∀(os:Z aA)(ds:Z U),os.length=ds.length->(∀(i:Nat) v d,os[i]?=some v->ds[i]?=some d->TT d/\∃as,Reads h v d as)->
  ∃fs:Z aA,PySem.W.KatTups h os fs/\fs.length=os.length/\∀v∈fs,∃a o,v=.ref a/\h.get? a=some o/\o.cls=.type "tuple"
 | [],_,_,_=>⟨[],trivial,rfl,λv hv=>by cases hv⟩
 | v::os,[],hl,_=>by cases hl
 | v::os,d::ds,hl,hr=>by
  obtain⟨⟨r,aW,rfl⟩,as,rd⟩:=hr 0 v d rfl rfl;obtain⟨fs,k1,k2,k3⟩:=ag3 os ds (by simpa using hl) λi v d h1 h2=>hr (i+1) v d (by simpa using h1) (by simpa using h2);cases rd with
  | @tuple a o vs n _ _ e1 e2 e3 z=>
   generalize hv:vs.toList=vl at z;cases z with
   | cons ra rb=>
    cases ra with
    | @tuple a' o' AR n' _ _ f1 f2 f3 z'=>
     refine⟨.ref a'::fs,PySem.W.KatTups.cons e1 e2 e3 (by rw[<-bj,hv];rfl) k1,by rw[b7,b7,k2],λv hv=>?_⟩;rcases ax.mp hv with rfl|hv
     .exact(l8 a' o' ⟨rfl,f1,f2⟩)
     .exact k3 v hv
def RL(R:aA->U->Prop):Z aA->Z U->Prop
 | [],[]=>True
 | v::vs,d::ds=>R v d/\RL R vs ds
 | _,_=>False
theorem RL.perm{R:aA->U->Prop}{os vs:Z aA}(p:os.Perm vs):∀{ds:Z U},RL R vs ds->∃bR,bR.Perm ds/\RL R os bR:=by
 induction p with
 | nil=>intro ds h;exact⟨ds,.refl _,h⟩
 | cons x p ih=>
  intro ds h;cases ds with
  | nil=>exact h.elim
  | cons d ds=>
   obtain⟨bR,p',h'⟩:=ih h.2;exact⟨d::bR,p'.cons d,h.1,h'⟩
 | swap x y l=>
  intro ds h
  match ds,h with
  | d1::d2::ds,h=>exact⟨d2::d1::ds,.swap _ _ _,h.2.1,h.1,h.2.2⟩
 | trans p1 p2 ih1 ih2=>
  intro ds h;obtain⟨d1,q1,h1⟩:=ih2 h;obtain⟨d2,q2,h2⟩:=ih1 h1;exact⟨d2,q2.trans q1,h2⟩
theorem RL.length{R:aA->U->Prop}:∀{vs:Z aA} {ds:Z U},RL R vs ds->vs.length=ds.length
 | [],[],_=>rfl
 | v::vs,d::ds,h=>by rw[b7,b7,RL.length h.2]
 | [],_::_,h=>h.elim
 | _::_,[],h=>h.elim
theorem RL.at{R:aA->U->Prop}:∀{vs:Z aA} {ds:Z U} {i:Nat} {v:aA} {d:U},RL R vs ds->vs[i]?=some v->ds[i]?=some d->R v d
 | v::vs,d::ds,0,_,_,h,h1,h2=>by cases h1;cases h2;exact h.1
 | v::vs,d::ds,i+1,_,_,h,h1,h2=>RL.at h.2 (by simpa using h1) (by simpa using h2)
 | [],_,_,_,_,_,h1,_=>by simp at h1
 | _::_,[],_,_,_,h,_,_=>h.elim
theorem RL.els{Pv:aA->U->Prop}{w:aP}{h:Heap}:∀{es:Z (Int×aA)} {ds:Z U},Els Pv w h es ds->RL (λv d=>∃k,El Pv w h (k,v) d) (es.map (·.2)) ds
 | [],ds,x=>by rw[alu x];exact True.intro
 | e::es,ds,x=>by obtain⟨d,cV,rfl,h1,h2⟩:=ww x;exact⟨⟨e.1,h1⟩,RL.els h2⟩
def azf(prog:aK)(w:aP)(K:av):R2:=λx y H Q=>∃(p:aF)(k:Str)(o:Obj) (kvs:Z (Str×aA)) (v:Int) (t:sV),x=.ref p/\y=.str k/\K.lookup p=some o/\o.IsDictOf (strKind prog w) kvs/\fZ kvs k=some (.int v t)/\Q (.int v) H
section
variable{X:Cx}{x:Str}{pos:dU}
def aq2:IxR X (azf X.prog X.w X.K):=by intro value fB aC s σ H x y v u Q I rx ry h hs;obtain⟨p,k,o,kvs,n,t,rfl,rfl,hk,hd,hv,q⟩:=h;cases rx;obtain⟨t',rfl⟩:=ry;have hm:s.heap.DictOf (strKind X.prog X.w) p kvs:=Heap.dictOf_iff.mpr ⟨o,I.kIn p o hk,hd⟩;exact tail_any hm.typeIs slot_dict_getitem.lookup (Dg (eT _ _ k t') hm.mapOf hv<|l8 (.int n) H ⟨I.tok _,⟨t,rfl⟩,q⟩) hs
def ahd{a:aF}(h:X.mg x=some (.ref a))(hg:Gl X x)(hd:(x==("__debug__" : Str))=false:=by decide):PE X (.Name x pos) (tC<|.ref a):=ak6 hg h rfl hd
end
structure aja(prog:aK)(w:aP)(A:Around)(κ:aV)(lt:U->U->Bool)(ds:Z U):Prop where
 ord:vW lt ds
 kind:∀(s:aB)(os:Z aA)(bR:Z U),(∀d∈bR,d∈ds)->os.length=bR.length->2<=os.length->(∀(i:Nat)(v:aA)(d:U),os[i]?=some v->bR[i]?=some d->∃as,Reads s.heap v d as)->
  ∀(Q:aV->aB->Prop)(E:aA->aB->Prop),Q κ s->aG (aH prog w) A (nW os.toArray) Q E s
 key:∀(s:aB)(u v:aA)(d e:U)(as bs:Z aF),d∈ds->e∈ds->Reads s.heap u d as->Reads s.heap v e bs->d.canLay0=true->e.canLay0=true->∀(Q:Bool->aB->Prop),Q (lt d e) s->aG (aH prog w) A (nV κ u v) Q (λ_ _=>False) s
section
variable{X:Cx}{aC:Z (aF×Obj)}{σ:L2.St}{H:Hp}{s:aB}
def aam(I:Inv X aC σ H s){Pv:aA->U->Prop}(hPv:∀v d,Pv v d->∃x,RelV x v/\Rep H d x){a:aF}{ds:Z U}(hc:X.calm=true)(hS:SetD Pv X.w s.heap a ds)(bD:ds.length<=4000){κ:aV}{lt:U->U->Bool}(sa:aja X.prog X.w X.A.in1.in1 κ lt ds){Q:VK}
  (q:∀(es:Z U)(l:aF)(ys:Z V),es.Perm ds->es.Pairwise (λx y=>lt y x=false)->H l=none->RepAll (upd H l<|.lst ys) es ys->Q (.ref l) (upd H l<|.lst ys)) :
  aG (aH X.prog X.w) X.A (call (.builtin "sorted") [.ref a]) (EP X aC σ Q) X.xe s:=by
 obtain⟨o,es,ep,tb,ho,jT,jW,ok,few,els,nd,cU⟩:=hS;have hsz:es.size=ds.length:=by have:=els.1;rw[a8]at this;exact this
 refine aei (κ:=κ) (P:=λos bR=>os.Perm (es.toList.map (·.2))/\bR.Perm ds/\RL (λx d=>∃k,El Pv X.w s.heap (k,x) d) os bR) I ?_ (λQ' E' hq=>?_) sa.ord ?_ ?_ λl ys es h1 h2 h3 h4=>q es l ys h2 h3 h1 h4
 .rintro os bR ⟨_,pd,rl⟩;have:=pd.length_eq;have qW:=rl.length;refine⟨by rw[cD];lia,qW,pd,λi v d h1 h2=>?_⟩;obtain⟨k,el⟩:=rl.at h1 h2;exact hPv _ _ el.own
 .refine ad1 (A:=X.A.in1) (I.ok.hd hc) ho jT jW ok cU (by lia) λh1 os dr jD k1=>?_;obtain⟨bR,pd,rl⟩:=RL.perm jD<|RL.els els;exact hq os bR h1 s.toks dr ⟨jD,pd,rl⟩ k1
 .rintro os bR ⟨_,pd,rl⟩ h2 s' kp Q' E' hq;refine sa.kind s' os bR (λd hd=>pd.mem_iff.mp hd) rl.length h2 (λi v d h1 h2=>?_) Q' E' hq;obtain⟨k,el⟩:=rl.at h1 h2;obtain⟨bs,rd⟩:=el.reads;exact⟨bs,Reads.keeps kp rd⟩
 .rintro os bR ⟨_,pd,rl⟩ s' kp i j d e u v hi di hj dj Q' hq;obtain⟨k,el⟩:=rl.at hi di;obtain⟨k',el'⟩:=rl.at hj dj;obtain⟨bs,rd⟩:=el.reads;obtain⟨bs',rd'⟩:=el'.reads;exact sa.key s' u v d e bs bs' (pd.mem_iff.mp<|ak di) (pd.mem_iff.mp<|ak dj) (Reads.keeps kp rd) (Reads.keeps kp rd') el.lay el'.lay Q' hq
end
def ap1{ds:Z U}(h:CmpA ds):vW ltD ds:=⟨λx hx y hy q=>by
  rw[ul (h.1 x hx y hy)]at q;rw[ul (h.1 y hy x hx)];exact decide_eq_false<|List.lt_asymm<|of_decide_eq_true q,λx hx y hy z hz q1 q2=>by
  rw[ul (h.1 y hy x hx)]at q1;rw[ul (h.1 z hz y hy)]at q2;rw[ul (h.1 z hz x hx)];have h1:enc x<=enc y:=of_decide_eq_false q1;have h2:enc y<=enc z:=of_decide_eq_false q2;exact decide_eq_false<|List.le_trans h1 h2⟩
def ajk{prog:aK}{w:aP}{A B:Around}{ds:Z U}(hu:B.units+64<bH)(hB:A=B.in1.in1)(fG:∀d∈ds,Cn d/\TT d)(iO:CmpA ds):aja prog w A (tuples' false) ltD ds where
 ord:=ap1 iO
 kind:=λs os bR hs hl h2 r Q E q=>by
  obtain⟨fs,k1,k2,k3⟩:=ag3 (h:=s.heap) os bR hl λi v d h1 h2=>by obtain⟨bs,rd⟩:=r i v d h1 h2;exact⟨(fG d<|hs d<|ak h2).2,bs,rd⟩
  refine PySem.W.kat_kind (T:=aA.type "tuple") k1 (by lia) (λv hv=>?_) rfl q;obtain⟨a,o,rfl,g1,g2⟩:=k3 v hv;rw[<-g2];exact(PySem.W.Looks.ld g1).andThen .now
 key:=λs u v d e as bs hd he r1 r2 l1 l2 Q q=>by refine aut r1 r2 (fG _ hd).1.2.1 (fG _ he).1.2.1 l1 l2 (iO.1 _ hd _ he) ?_ q;have:=(fG _ hd).1.2.2;have:=Nat.min_le_left d.depth e.depth;subst hB;show B.units+1+1+_<_;lia
def anr:Z V->Hp->VK->Prop:=λvs H Q=>∃(p:aF)(xs:Z V)(ds:Z U),vs=[.ref p]/\H p=some (.lst xs)/\RepAll H ds xs/\(∀d∈ds,Cn d/\TT d)/\CmpA ds/\ds.length<4000/\
 ∀(cV:Z U)(l:aF)(ys:Z V),cV.Nodup->(∀d,d∈cV↔d∈ds)->H l=none->RepAll (upd H l<|.lst ys) (vp cV) ys->Q (.ref l) (upd H l<|.lst ys)
section
variable{X:Cx}{p p2 pos wN:dU}{e:Expr}{t:TA}
def xw(hc:X.calm=true)(hu:X.A.units+64<bH)(hg:Gl X "sorted")(hm:X.mg "sorted" = none)(hg2:Gl X "set")(kS:X.mg "set" = none)(ha:PA X [e] t)(h1:nr e=true:=by rfl) :
  PE X (.Call (.Name "sorted" p) [.Call (.Name "set" p2) [e] [] wN] [] pos) (tCB anr t):=by
 intro aC s σ H Q I h;refine jt (uq I hg hm fK ?_ (by decide)<|by decide);refine PyProof.Rows.callWith_builtin1 ?_ (oq rfl) rfl;rw[oq rfl];show aG _ _ (spliced ((false,bT (.Call (.Name "set" p2) [e] [] wN) X.env)::dE pos (aT [] X.env))) _ _ s;refine Calls.spliced_cons ?_;refine jt (uq I hg2 kS boot_set ?_ (by decide)<|by decide);refine gw (thn (ha wN aC s σ H _ I h) λus s1 ⟨vs,H1,I1,r1,q1⟩=>?_) (oq h1) rfl;obtain⟨pl,xs,ds,rfl,hp,dJ,fG,iO,hb,q⟩:=q1;obtain⟨u,rfl,ru⟩:=wm r1;cases (show u=aA.ref pl from ru);obtain⟨its,rv,il,hz⟩:=I1.list<|SqL.of (K:=X.K) hp;obtain⟨as,rds⟩:=RepAll.reads I1 dJ rv;have By:=dJ.lay;have gR:xs.length=ds.length:=dJ.length;have fP:xs.length=its.length:=rv.length;refine aj3 (Pv:=λv d=>∃i:Nat,its[i]?=some v/\ds[i]?=some d) (ds:=ds) (I1.ok.hd hc) il.isList (by rw[a7];lia) (λi v d hv hd=>?_) (by lia) (by lia) λh' tk cV hS dX bD hk ht=>?_
 .rw[List.getElem?_toArray]at hv;obtain⟨bs,rd⟩:=ahi rds hv hd;have tO:=ak hd;exact⟨⟨i,hv,hd⟩,rfl,(fG d tO).1.1,(fG d tO).1.2.1,al0 By d tO,(fG d tO).1.2.2,bs,rd⟩
 .refine Calls.spliced_nil ?_;have I2:Inv X aC σ H1 {s1 with heap:=h',toks:=tk}:=I1.kept hk;obtain⟨_,_,_,_,_,_,_,_,_,_,nd,_⟩:=id hS;have sub:∀d∈cV,d∈ds:=λd hd=>(dX d).mp hd;refine aam I2 (λv d hg=>by
   obtain⟨i,g1,g2⟩:=hg;obtain⟨x,x1,x2⟩:=dJ.get g2;obtain⟨u,u1,u2⟩:=rv.get x1;have:u=v:=by rw[u1]at g1;cases g1;rfl
   subst this;exact⟨x,u2,x2⟩) hc hS (by lia) (ajk (B:=X.A) hu rfl (λd hd=>fG d<|sub d hd)<|iO.sub sub) λes l ys pe ue hl re=>?_
  have ee:es=vp cV:=by refine JG (pe.trans (qc cV).symm) ((iO.sub sub).sub λx hx=>pe.mem_iff.mp hx) (gv (λ{a b} ha hb mD=>?_) ue)<|JZ cV;rw[ul (iO.1 _ (sub _<|pe.mem_iff.mp hb) _<|sub _<|pe.mem_iff.mp ha)]at mD;exact of_decide_eq_false mD
  rw[ee]at re;exact q cV l ys nd dX hl re
end
section
variable{X:Cx}
def wo:MtR X "str.lower" (λx vs H Q=>∃c:Nat,x=.str ⟨#[c]⟩/\vs=[]/\c<128/\Q (.str ⟨#[lo1 c]⟩) H):=by
 intro aC s σ H x vs v us Q I rx rv h;obtain⟨c,rfl,rfl,hc,q⟩:=h;obtain⟨t,rfl⟩:=rx;have F1:=rv.zero;subst F1;refine SC.lower (fit_lower<|by show 1<=5592405;lia)<|l8 (.str _) H ⟨I.tok _,⟨_,rfl⟩,?_⟩
 rw[lower_ascii (λd hd=>by have e:d=c:=by simpa using hd
                           lia)]
 simpa using q
end
end L3
namespace HT
open PySem PyProof.Rows
section
variable{prog:aK}{w:aP}{A:Around}{E:aA->aB->Prop}{s:aB}
def getItem_tuple_all{t sl:aF}{items:Array aA}{vl vu:aA}{lo hi:Option Int}{Q:aA->aB->Prop}(ht:oP s.heap t items)(hs:s.heap.IsSliceOf sl vl vu .none)(pl:iG vl lo)(pu:iG vu hi)
  (hw:sIx items.size 0 lo=0/\sIx items.size items.size hi=items.size) (h:Q (.ref t) s):aG (aH prog w) A (fH (.ref t)<|.ref sl) Q E s:=by
 obtain⟨os,sF,lY,dJ⟩:=id hs;have Hk:s.TypeIs (.ref sl) "slice":=⟨os,sF,lY⟩;unfold fH;try with_reducible refine f9 ?_
 first|refine ab (af ?_)|skip
 refine ab<|AN ht.typeIs (by decide) ?_;refine ab (cg (name:=bh "__getitem__") ht.typeIs gz
  (cu gz ht.typeIs yG ?_<|Af _ _))
 show aG _ _ (Builtin.Tuple.tupleItemsOf (.ref t) >>= _) _ _ s;refine ab<|tupleItemsOf_ ht ?_;refine ab<|eO Hk ?_;rw[if_pos (by decide)];refine ab<|tq hs pl pu ?_;have FX:(((sIx items.size 0 lo:Nat):Int)==0&&(1:Int)==1&&(sIx items.size items.size hi-sIx items.size 0 lo)==items.size)=true:=by rw[hw.1,hw.2];simp
 show aG _ _ (if (((sIx items.size 0 lo:Nat):Int)==0&&(1:Int)==1&&(sIx items.size items.size hi-sIx items.size 0 lo)==items.size)=true then _ else _) _ _ s;rw[if_pos FX];refine ab (m:=Builtin.Tuple.tupleIsExact _) ?_;unfold Builtin.Tuple.tupleIsExact;refine ab<|eO ht.typeIs<|af ?_;rw[if_pos (by decide)];exact ab<|jr<|af ⟨_,rfl,af h⟩
end
end HT
namespace L3
open PySem PySem.Spec PyProof.Rows L2
section
variable{X:Cx}
def ax2(K:av):V->Option Int->Option Int->Hp->VK->Prop:=λx lo hi H Q=>∃a xs,x=.ref a/\SqT K H a xs/\
 ((HT.sIx xs.length 0 lo=0/\HT.sIx xs.length xs.length hi=xs.length)->Q (.ref a) H)/\(¬(HT.sIx xs.length 0 lo=0/\HT.sIx xs.length xs.length hi=xs.length)->∀p,H p=none->Q (.ref p) (upd H p<|.tup<|kO xs lo hi))
def aqp:SlR X (ax2 X.K):=by
 intro aC s σ H x v vl vu lo hi sl Q I rx hs pl pu h;obtain⟨a,xs,rfl,hx,q1,q2⟩:=h;by_cases hw:HT.sIx xs.length 0 lo=0/\HT.sIx xs.length xs.length hi=xs.length
 .cases rx;obtain⟨its,r,ht,hz⟩:=I.tuple hx;have bD:its.toArray.size=xs.length:=by rw[a7];exact r.length.symm
  refine(l8 ("tuple") _ ⟨gz.lookup,ht.typeIs,?_⟩);exact HT.getItem_tuple_all ht hs pl pu (by rw[bD];exact hw)<|l8 (.ref a) H ⟨I,rfl,q1 hw⟩
 .exact atl aC s σ H _ v vl vu lo hi sl Q I rx hs pl pu<|l8 a xs ⟨rfl,hx,hw,q2 hw⟩
end
end L3
namespace L3
open PySem PyProof.Rows L2
def aw3{P:Z aA->Prop}(h:P []):∀us:Z aA,us.length=0->P us:=λus e=>by cases us with|nil=>exact h|cons a t=>cases e
def Ar{P:Z aA->Prop}{n:Nat}(h:∀a (t:Z aA),t.length=n->P (a::t)):∀us:Z aA,us.length=n+1->P us:=λus e=>by cases us with|nil=>cases e|cons a t=>exact h a t<|Nat.succ.inj e
def atr{P:Z aA->Prop}(h:∀a,P [a]):∀us:Z aA,us.length=1->P us:=Ar (n:=0) λa=>aw3 (P:=λt=>P (a::t))<|h a
def atd{P:Z aA->Prop}(h:∀a b,P [a,b]):∀us:Z aA,us.length=2->P us:=Ar (n:=1) λa=>atr (P:=λt=>P (a::t))<|h a
def avi{P:Z aA->Prop}(h:∀a b c,P [a,b,c]):∀us:Z aA,us.length=3->P us:=Ar (n:=2) λa=>atd (P:=λt=>P (a::t))<|h a
def atq{P:Z aA->Prop}(h:∀a b c d,P [a,b,c,d]):∀us:Z aA,us.length=4->P us:=Ar (n:=3) λa=>avi (P:=λt=>P (a::t))<|h a
def Df(K:av)(n:Str)(st:aY):Prop:=∃f fd,cz K aO n=some (some<|.ref f)/\Fun K n n st f fd
def df_mk{K:av}{n:Str}{st:aY}{f:aF}{oc:aA}{od an:Option aF}{sl:Array (Option aA)}{kV dc pm cd ct:aA}(a:cz K aO n=some (some<|.ref f))
  (l:K.lookup f=some ⟨oc,od,.func<|k8 n n (vh st) (ur st) (l0 st) .none kV dc pm an cd ct,sl⟩) (c:PySem.W.codeIn K cd n=true) (k:kq K (.ref f)=true):Df K n st:=(l8 f _ ⟨a,auy l c k⟩)
def DfX(P:aK)(w:aP)(K:av)(mg:Str->Option aA)(base h:Heap):Prop:=P=P/\w=w/\base=base/\K.In h/\h.Ns aO mg
theorem Df.fx{P:aK}{w:aP}{K:av}{h base:Heap}{mg:Str->Option aA}{n:Str}{st:aY}{d:Nat}{ps:Z Str}{sp:Sp}(D:Df K n st)(Y:DfX P w K mg base h)(ok:∀{f fd},Fun K n n st f fd->qm P w K mg base CX0 d f fd ps sp)
  (b:∀(kV jM pm:aA)(an:Option aF)(bW ct:aA)(us:Z aA),us.length=ps.length->bindArgs (k8 n n (vh st) (ur st) (l0 st) .none kV jM pm an bW ct) ⟨us,[]⟩=aR (ps.zip us):=by
   intro _ _ _ _ _ _;first
   | exact atr (λ_=>rfl)
   | exact atd (λ_ _=>rfl)
   | exact avi (λ_ _ _=>rfl)
   | exact atq λ_ _ _ _=>rfl):Fn P w K mg base n d ps sp:=by
 obtain⟨f,fd,a,F⟩:=D;exact(l8 f fd ⟨ok F,jg Y.2.2.2.1 Y.2.2.2.2 a,F.kp,F.binds b⟩)
end L3
namespace L3
open PySem PySem.Spec PyProof.Rows L2
section
variable{X:Cx}{N N':Z Str}{scope:cW}{z:CZ}{x y:Str}{p pos py qE:dU}{e e2 o v:Expr}{es:Z Expr}{te ti:TE}{t:TA}{wi:TI}{g:TG}{tt:L2.TT}{tb:TS}{aZ iter jL tg:Expr}{jR:Z Expr}{body:Z aY}
def pgC(i:Nat)(hN:N.Nodup:=by decide +kernel)(hi:N[i]?=some x:=by rfl)(hx:Loc (nc X N scope z).env.scope x:=by exact Or.inl rfl)(hf:(nc X N scope z).fn x=true\/(nc X N scope z).env.scope.names.lookup x=some .local:=by first|exact .inl rfl|exact .inr rfl):PG (nc X N scope z) (.Name x pos) (rq i):=Jw (X:=nc X N scope z) hN hi hx hf
def pgN(i:Nat)(hN:X.N.Nodup)(hi:X.N[i]?=some x:=by rfl)(hx:Loc X.env.scope x:=by exact Or.inl rfl)(hf:X.fn x=true\/X.env.scope.names.lookup x=some .local:=by first|exact .inl rfl|exact .inr rfl):PG X (.Name x pos) (rq i):=Jw hN hi hx hf
def psN(i:Nat)(hN:X.N.Nodup)(he:PE X e te)(hi:X.N[i]?=some x:=by rfl)(hx:Loc X.env.scope x:=by exact Or.inl rfl)(hs:iI e (some<|.Name x py) pos.line X.env=aR false:=by rfl)(hf:X.fn x=true\/X.env.scope.names.lookup x=some .local:=by first|exact .inl rfl|exact .inr rfl):PS X (.Assign [.Name x py] e pos) (Co te<|rq i):=wz hN hi hx he hs hf
def pcm(N':Z Str)(sl:Z (Option Nat))(hi:PI X aZ iter wi)(hg:∀z,PG (nc X N' scope z) aZ g)(ht:∀z,PTs (nc X N' scope z) jR tt)(he:∀z,PE (nc X N' scope z) jL te)(hc:X.calm=true:=by rfl)(dR:scope.kind=.function:=by rfl)
  (fY:∀x∈scope.names,x.2=.local->scope.names.lookup x.1=some .local:=by decide +kernel) (oE:∀y∈scope.names,y.2≠.cell:=by decide +kernel) (rG:frOk scope X.env.scope=true:=by rfl) (nY:slOk X.N N' sl scope X.env.scope=true:=by rfl)
  (hs:∀x,bY iter X.env x=aR x:=by intro _;rfl):PE X (.ListComp jL [⟨aZ,iter,jR,0⟩] scope pos) (vY wi sl g tt te):=aqh N' sl hc dR fY oE rG nY hi hg ht he hs
def psC(i:Nat)(N':Z Str)(sl:Z (Option Nat))(hN:X.N.Nodup)(hi:PI X aZ iter wi)(hg:∀z,PG (nc X N' scope z) aZ g)(ht:∀z,PTs (nc X N' scope z) jR tt)(he:∀z,PE (nc X N' scope z) jL te)(FW:X.N[i]?=some y:=by rfl)(hx:Loc X.env.scope y:=by exact Or.inl rfl)
  (Gb:iI (.ListComp jL [⟨aZ,iter,jR,0⟩] scope pos) (some<|.Name y py) qE.line X.env=aR true:=by rfl) (hc:X.calm=true:=by rfl) (dR:scope.kind=.function:=by rfl)
  (fY:∀x∈scope.names,x.2=.local->scope.names.lookup x.1=some .local:=by decide +kernel) (oE:∀y∈scope.names,y.2≠.cell:=by decide +kernel) (rG:frOk scope X.env.scope=true:=by rfl) (nY:slOk X.N N' sl scope X.env.scope=true:=by rfl)
  (hs:∀x,bY iter X.env x=aR x:=by intro _;rfl) (hf:X.fn y=true\/X.env.scope.names.lookup y=some .local:=by first|exact .inl rfl|exact .inr rfl):PS X (.Assign [.Name y py] (.ListComp jL [⟨aZ,iter,jR,0⟩] scope pos) qE) (Co (vY wi sl g tt te)<|rq i):=
 aqe N' sl hN FW hx Gb hc dR fY oE rG nY hi hg ht he hs hf
def pfo(hi:PI X tg iter wi)(hg:PG X tg g)(hb:PSs X body tb)(hp:Ff (aH X.prog X.w) X.A X.env X.xe:=by exact Ff.never)(hc:X.calm=true:=by rfl)(hs:∀x,bY iter X.env x=aR x:=by intro _;rfl):PS X (.For tg iter body [] pos) (ayh wi g tb):=at8 hp hc hi hg hb hs
def pfn{k j:Nat}{ps:Z Str}{sp:Sp}(F:Fn X.prog X.w X.K X.mg X.base x k ps sp)(ha:PA X (e::es) t)(hr:Room j X.A:=by assumption)(hk:k<=j:=by decide)(hg:Gl X x:=by rfl)(lX:(x==("__debug__" : Str))=false:=by decide)(h1:nr e=true:=by rfl)(h2:es.all nr=true:=by rfl) :
  PE X (.Call (.Name x p) (e::es) [] pos) (IR sp [] E0 t):=axo F hr hk hg ha lX h1 h2
def pix{r:R2}(hr:IxR X r)(ha:PE X e te)(hb:PE X e2 ti)(hs:akv e2:=by exact λ_ _=>rfl):PE X (.Subscript e e2 pos) (tOp r te ti):=awr hr ha hb hs
end
end L3
namespace L2
open PySem PySem.Spec PyProof.Rows
def ank{P:aK}{w:aP}{H:Hp}(h:Heap)(hb:bL<h.objs.size):ObjOk P w H (h.push {cls:=.type "dict",data:=.dict #[]}) h.objs.size (.dT []):=
 ⟨fj _,beq_eq_false_iff_ne.mpr<|Ne.symm<|dw hb,[],.nil,_,#[],0,a6 _ rfl,⟨rfl,rfl,rfl⟩,rfl,rfl,List.nodup_nil⟩
def att:TE:=λ_ H Q=>∀p,H p=none->Q (.ref p) (upd H p<|.dT [])
section
variable{X:Cx}{pos:dU}
def ahn:PE X (.Dict [] [] pos) att:=λaC s σ H Q I h=>
 wpAny_Dict_empty ⟨.ref s.heap.objs.size,_,I.laid (a:=s.heap.objs.size) (o:=.dT []) (t':=s.toks) (λ_ _ q=>ai _ q) (am _)<|ank s.heap I.big,rfl,h _<|I.hok.fresh<|am _⟩
end
end L2
namespace L3
open PySem PyProof.Rows L2
def ahr{s1 s2:TS}{D:mP}{σ:L2.St}{H:Hp}(h:∀D':mP,(∀σ' G',s2 D σ' G'->D'.nx σ' G')->D'.rt=D.rt->s1 D' σ H):Il s1 s2 D σ H:=h {D with nx:=s2 D} (λ_ _ z=>z) rfl
def EQ{σ:L2.St}{H:Hp}{Q:Option Int->Hp->Prop}(h:Q none H):alp σ H Q:=h
def Kb{s1 s2:TS}{D:mP}{σ:L2.St}{H:Hp}(R:L2.St->Hp->Prop)(h:∀σ' G',R σ' G'->s2 D σ' G')(h1:∀D':mP,(∀σ' G',R σ' G'->D'.nx σ' G')->D'.rt=D.rt->s1 D' σ H):Il s1 s2 D σ H:=h1 {D with nx:=s2 D} h rfl
end L3
namespace L3
open PySem PySem.Spec PyProof.Rows L2
def Ir(K:av)(tl:TE):TI:=λσ H R=>tl σ H λx H1=>∃a,x=.ref a/\(((∃xs,SqL K H1 a xs)/\R (Itl K a) H1)\/((∃xs,SqT K H1 a xs)/\R (Itt K a) H1))
section
variable{X:Cx}{tg:Expr}
def Av{l:Expr}{tl:TE}(hl:PE X l tl):PI X tg l (Ir X.K tl):=by
 intro aC s σ H R I h;refine thn (hl aC s σ H _ I h) λv s1 ⟨x,H1,I1,r1,q1⟩=>?_;obtain⟨a,e,⟨⟨xs,hq⟩,q⟩|⟨⟨xs,hq⟩,q⟩⟩:=q1
 .subst e;cases r1;obtain⟨its,rv,p,hz⟩:=I1.list hq;refine cY p.isList ?_;refine(lw s1.heap.objs.size ([s1.heap.objs.size]) _ _ H1 ⟨rfl,I1.kept (t':=s1.toks) λb o e=>ai _ e,ad0 a _,⟨_,a6 _ rfl,rfl,rfl⟩,λb hb=>?_,q⟩);have e:b=s1.heap.objs.size:=by simpa using hb
  subst e;exact I1.fpOk (am _)<|I1.hok.fresh<|am _
 .subst e;cases r1;obtain⟨its,rv,p,hz⟩:=I1.tuple hq;refine k6 (show s1.heap.IsTuple a its.toArray from p) ?_;refine(lw s1.heap.objs.size ([s1.heap.objs.size]) _ _ H1 ⟨rfl,I1.kept (t':=s1.toks) λb o e=>ai _ e,abr a _,⟨_,a6 _ rfl,rfl,rfl⟩,λb hb=>?_,q⟩);have e:b=s1.heap.objs.size:=by simpa using hb
  subst e;exact I1.fpOk (am _)<|I1.hok.fresh<|am _
end
section
variable{K:av}{a:aF}{xs:Z V}{ds:Z U}{σ:L2.St}{H:Hp}{Q:VK}{sl:Z (Option Nat)}{g:TG}{tt:L2.TT}{te:TE}
def ahu(ha:H a=some (.lst xs)\/H a=some (.tup xs))(Pv:aF->Nat->Z V->Hp->Prop)(h0:∀D,H D=none->Pv D 0 [] (upd H D<|.lst []))(hk:∀D i ys G,Pv D i ys G->Same H G)
  (hs:∀D i x ys G,H D=none->xs[i]?=some x->i<xs.length->G D=some (.lst ys)->ys.length<=i->Pv D i ys G->g x (qt sl σ) G λσ2 H2=>Agree (qt sl σ) σ2/\tt σ2 H2 λb H3=>
   if b=true then te σ2 H3 λy H4=>∃xs,H4 D=some (.lst xs)/\xs.length<aE/\Nx D i (Pv D) (upd H4 D<|.lst<|xs++[y])else Nx D i (Pv D) H3)
  (hd:∀D ys G,H D=none->G D=some (.lst ys)->ys.length<=xs.length->Pv D xs.length ys G->Q (.ref D) G) :
  ((∃xs,SqL K H a xs)/\∀D,H D=none->uJ (Itl K a) sl g tt te σ H D Q)\/((∃xs,SqT K H a xs)/\∀D,H D=none->uJ (Itt K a) sl g tt te σ H D Q):=by
 rcases ha with ha|ha
 .exact .inl ⟨⟨_,SqL.of ha⟩,λD hD=>pw (xs:=xs) (Pv D) (h0 D hD) (λi ys G p=>SqL.of<|hk D i ys G p _ _ ha) (λi x ys G=>hs D i x ys G hD) λys G=>hd D ys G hD⟩
 .exact .inr ⟨⟨_,SqT.of ha⟩,λD hD=>tf (xs:=xs) (Pv D) (h0 D hD) (λi ys G p=>SqT.of<|hk D i ys G p _ _ ha) (λi x ys G=>hs D i x ys G hD) λys G=>hd D ys G hD⟩
def abq{i0:Nat}{aW:L2.St}(pr:U->Int)(hσ:σ[i0]?=some (some<|.ref a))(hp:qt sl σ=none::none::none::aW)(ha:H a=some (.lst xs)\/H a=some (.tup xs))(hr:RepAll H ds xs)(hs:Spots ds)(hl:ds.length<=64)
  (lT:∀(r c:Int)(z:Str)(H':Hp)(Q':VK),Q' (.int<|pr<|.tuple [.int r,.int c,.str z]) H'->te (some (.int r)::some (.int c)::some (.str z)::aW) H' Q')
  (q:∀D H',Same H H'->H' D=some (.lst<|(ds.map pr).map V.int)->Q (.ref D) H') :
  vY (Ir K<|mG i0) sl (Cj K 3<|sS (rq 0)<|sS (rq 1)<|sS (rq 2) Ey) jY te σ H Q:=by
 have bD:=hr.length;refine(oo _ hσ a ⟨rfl,ahu ha (λD i ys H'=>Same H H'/\ys=((ds.take i).map pr).map V.int) (λD hD=>⟨Same.fresh _ hD,rfl⟩) (λD i ys H' p=>p.1) (λD i x ys H' hD hx hi bJ gT p=>?_) λD ys H' hD bJ gT p=>?_⟩)
 .obtain⟨p1,rfl⟩:=p;obtain⟨b,r,c,z,rfl,hb,hz,hd⟩:=hs.at hr hx;rw[hp];refine(me b _ rfl (SqT.of<|p1 _ _ hb) rfl _ _ rfl _<|nu _ rfl _ _ ⟨rfl,rfl,?_⟩);refine⟨Agree.set (Agree.set (Agree.set (Agree.refl _) rfl) rfl) rfl,?_⟩;dsimp only[jY];refine xy ?_;refine lT r c z H' _<|p9 (by lia) bJ gT ⟨p1.new hD,?_⟩;rw[mn pr hd,bu];rfl
 .obtain⟨p1,rfl⟩:=p;refine q D H' p1 ?_;rw[bJ,bi<|by lia]
def u7{i0:Nat}{aW:L2.St}(f:U->U)(hσ:σ[i0]?=some (some<|.ref a))(hp:qt sl σ=none::none::none::aW)(ha:H a=some (.lst xs)\/H a=some (.tup xs))(hr:RepAll H ds xs)(hs:Spots ds)(hl:ds.length<=64)
  (lT:∀(r c:Int)(z:Str)(H':Hp)(Q':VK),(∃u v:Int,f (.tuple [.int r,.int c,.str z])=.tuple [.int u,.int v,.str z]/\∀n,H' n=none->Q' (.ref n) (upd H' n<|.tup [.int u,.int v,.str z]))->
   te (some (.int r)::some (.int c)::some (.str z)::aW) H' Q')
  (gM:∀(r c:Int)(z:Str),∃u v:Int,f (.tuple [.int r,.int c,.str z])=.tuple [.int u,.int v,.str z])
  (q:∀D ys H',H D=none->Same H H'->H' D=some (.lst ys)->RepAll H' (ds.map f) ys->Q (.ref D) H') :
  vY (Ir K<|mG i0) sl (Cj K 3<|sS (rq 0)<|sS (rq 1)<|sS (rq 2) Ey) jY te σ H Q:=by
 have bD:=hr.length;have im:∀es:Z U,(∀d∈es,d∈ds)->Spots (es.map f):=λes he d hd=>by obtain⟨d0,h0,rfl⟩:=aw.mp hd;obtain⟨r0,c0,x0,rfl⟩:=hs d0<|he d0 h0;obtain⟨u,v,e⟩:=gM r0 c0 x0;exact(mz u v x0 e)
 refine(oo _ hσ a ⟨rfl,ahu ha (λD i ys H'=>Same H H'/\RepAll H' ((ds.take i).map f) ys) (λD hD=>⟨Same.fresh _ hD,rfl⟩) (λD i ys H' p=>p.1) (λD i x ys H' hD hx hi bJ gT p=>?_) λD ys H' hD bJ gT p=>?_⟩)
 .obtain⟨p1,p2⟩:=p;obtain⟨b,r,c,z,rfl,hb,hz,hd⟩:=hs.at hr hx;rw[hp];refine(me b _ rfl (SqT.of<|p1 _ _ hb) rfl _ _ rfl _<|nu _ rfl _ _ ⟨rfl,rfl,?_⟩);refine⟨Agree.set (Agree.set (Agree.set (Agree.refl _) rfl) rfl) rfl,?_⟩;dsimp only[jY];refine xy ?_;obtain⟨u,v,ef⟩:=gM r c z;refine lT r c z H' _<|l8 u v ⟨ef,λn hn=>?_⟩;have s2:Same H' (upd H' n<|.tup [.int u,.int v,.str z]):=Same.fresh _ hn;have n2:upd H' n (.tup [.int u,.int v,.str z]) n=some (.tup [.int u,.int v,.str z]):=l9;generalize upd H' n (.tup [.int u,.int v,.str z])=H2 at *;have eG:=s2 _ _ bJ;refine p9 (by lia) eG gT ⟨(p1.trans s2).new hD,?_⟩;have rep:RepAll H2 ((ds.take i).map f++[f (.tuple [.int r,.int c,.str z])]) (ys++[.ref n]):=by
   rw[ef];exact(p2.same s2).snoc (v0 n2 hz)
  rw[<-mn f hd]at rep;exact rep.tk (Tk.lst eG)<|Spots.imm<|im _ λd tU=>cn tU
 .obtain⟨p1,p2⟩:=p;rw[bi (by lia)]at p2;exact q D ys H' hD p1 bJ p2
end
noncomputable def kvI(ps:Z (Str×Int)):Z (Key×V):=ps.map λp=>(Sum.inr p.1,.int p.2)
def Io:Z (Str×Int)->Z (aA×aA)->Prop
 | [],[]=>True
 | p::ps,v::vs=>(∃t u,v=(.str p.1 t,.int p.2 u))/\Io ps vs
 | _,_=>False
section
variable{X:Cx}{pos:dU}{aC:Z (aF×Obj)}{σ:L2.St}{H:Hp}
noncomputable def Jy(X:Cx)(pos:dU)(es:Z (Expr×Expr)):Z (nG aA×nG aA):=es.map λp=>(bT p.1 X.env,do let x <-bT p.2 X.env;rZ pos;aR x)
theorem agg:∀(es:Z (Expr×Expr)) (ps:Z (Str×Int)),es.length=ps.length->(∀(i:Nat) e p,es[i]?=some e->ps[i]?=some p->PE X e.1 (tC<|.str p.1)/\PE X e.2 (tC<|.int p.2))->∀(s:aB) (Q:Z (aA×aA)->aB->Prop),Inv X aC σ H s->
  (∀s' vs,Inv X aC σ H s'->Io ps vs->Q vs s')->aG (aH X.prog X.w) X.A (Ei<|Jy X pos es) Q X.xe s
 | [],[],_,_,s,Q,I,q=>af (q s [] I True.intro)
 | e::es,[],hl,_,_,_,_,_=>by cases hl
 | [],p::ps,hl,_,_,_,_,_=>by cases hl
 | e::es,p::ps,hl,he,s,Q,I,q=>by obtain⟨h1,h2⟩:=he 0 e p rfl rfl;show aG _ _ (Ei ((bT e.1 X.env,do let x <-bT e.2 X.env;rZ pos;aR x)::Jy X pos es)) _ _ _;unfold Ei;refine ab<|thn (h1 aC s σ H (λv G=>V.str p.1=v/\H=G) I ⟨rfl,rfl⟩) λkv s1 ⟨x,H1,I1,r1,e1,e2⟩=>?_;subst e1;subst e2;obtain⟨t,rfl⟩:=r1;refine ab<|f9<|ab<|thn (h2 aC s1 σ _ (λv G=>V.int p.2=v/\H=G) I1 ⟨rfl,rfl⟩) λvv s2 ⟨x,H2,I2,r2,e1,e2⟩=>ab<|fL<|af ?_;subst e1;subst e2;obtain⟨u,rfl⟩:=r2;refine ab<|f9<|agg es ps (by simpa using hl) (λi e p h1 h2=>he (i+1) e p (by simpa using h1)<|by simpa using h2) s2 _ I2 λs3 vs I3 pr=>af ?_;exact q s3 _ I3 ⟨(l8 t u rfl),pr⟩
theorem aa6:∀{ps:Z (Str×Int)} {vs:Z (aA×aA)},Io ps vs->∃kvs:Z (Key×aA),Carries (pi X.prog X.w) vs kvs/\KV (kvI ps) kvs/\kvs.map (·.1)=ps.map λp=>Sum.inr p.1
 | [],[],_=>⟨[],True.intro,.nil,rfl⟩
 | [],_::_,h=>h.elim
 | _::_,[],h=>h.elim
 | p::ps,v::vs,h=>by obtain⟨⟨t,u,rfl⟩,h2⟩:=h;obtain⟨kvs,c1,c2,c3⟩:=aa6 h2;refine⟨(Sum.inr p.1,.int p.2 u)::kvs,⟨?_,rfl,c1⟩,.cons ⟨rfl,u,rfl⟩ c2,by rw[dq,dq,c3]⟩;exact zx _ _ _ _
theorem aeh:∀(acc more:Z (Key×aA)),((acc++more).map (·.1)).Nodup->merged acc more=acc++more
 | acc,[],_=>(ff acc).symm
 | acc,kv::more,h=>by
  have e:yX acc kv.1 kv.2=acc++[kv]:=by unfold yX;rw[if_neg];intro hh;obtain⟨x,hx,hq⟩:=List.any_eq_true.mp hh;rw[bu,List.nodup_append]at h;exact h.2.2 x.1 (aw.mpr ⟨x,hx,rfl⟩) kv.1 (by simp)<|of_decide_eq_true hq
  show merged (yX acc kv.1 kv.2) more=_;rw[e,aeh (acc++[kv]) more<|by rw[bp];exact h,bp];rfl
def ake{ps:Z (Str×Int)}(h:(ps.map (·.1)).Nodup):(ps.map λp=>(Sum.inr p.1:Key)).Nodup:=by
 have e:(ps.map λp=>(Sum.inr p.1:Key))=(ps.map (·.1)).map Sum.inr:=by rw[bm];rfl
 rw[e];exact List.Pairwise.map _ (λa b mD z=>mD<|Sum.inr.inj z) h
def avh(ps:Z (Str×Int)):TE:=λ_ H Q=>∀D,H D=none->Q (.ref D) (upd H D<|.dK<|kvI ps)
theorem apq{keys:Z (Option Expr)}{qC:Z Expr}(es:Z (Expr×Expr))(ps:Z (Str×Int))(hk:keys=es.map λe=>some e.1)(hv:qC=es.map λe=>e.2)(hl:es.length=ps.length)(h0:es≠[])(h15:es.length<=15)
  (he:∀(i:Nat) e p,es[i]?=some e->ps[i]?=some p->PE X e.1 (tC<|.str p.1)/\PE X e.2 (tC<|.int p.2)) (nd:(ps.map (·.1)).Nodup):PE X (.Dict keys qC pos) (avh ps):=by
 subst hk;subst hv;intro aC s σ H Q I h;have hn:H s.heap.objs.size=none:=I.hok.fresh<|am _;have I1:Inv X aC σ (upd H s.heap.objs.size<|.dK []) {s with heap:=s.heap.push {cls:=.type "dict",data:=.dict #[]}}:=I.laid (a:=s.heap.objs.size) (o:=.dK []) (t':=s.toks) (λ_ _ q=>ai _ q) (am _)<|am8 s.heap I.big;refine wpAny_Dict_walk (knd:=pi X.prog X.w) (by simp) (by simp) (by simpa using h0) (by simpa using h15) ?_;have e:pairTrees (es.map λe=>some e.1) (es.map λe=>e.2) X.env pos=Jy X pos es:=by
  clear he hl h0 h15;induction es with
  | nil=>rfl
  | cons a t ih=>show(_::pairTrees _ _ _ _)=_;rw[ih];rfl
 rw[e];refine agg es ps hl he _ _ I1 λs' vs I2 pr=>?_;obtain⟨kvs,c1,c2,c3⟩:=aa6 (X:=X) pr;have hD:upd H s.heap.objs.size (.dK []) s.heap.objs.size=some (.dK []):=l9;obtain⟨_,hS,vs0,r0,m0⟩:=I2.hok _ _ hD;cases r0;refine⟨kvs,c1,m0,λh' hd lQ=>?_⟩;rw[aeh [] kvs (by rw[List.nil_append,c3];exact ake nd)]at hd;have vB:upd (upd H s.heap.objs.size<|.dK []) s.heap.objs.size (.dK<|kvI ps)=upd H s.heap.objs.size (.dK<|kvI ps):=by
  funext b
  by_cases hb:b=s.heap.objs.size
  .subst hb;rw[l9,l9]
  .rw[ma hb,ma hb,ma hb]
 have bD:(kvI ps).length<=aE:=by unfold kvI;rw[ae,<-hl];exact dg<|mm<|by lia
 have I3:=JU (t':=s'.toks+vs.length) (ob:=.dK<|kvI ps) I2 (by rw[hD];exact True.intro) lQ (by obtain⟨o,ho,_⟩:=Heap.dictOf_iff.mp hd;exact⟨o,ho⟩) ⟨bD,hS,kvs,c2,hd⟩;rw[vB]at I3;exact(l8 (.ref s.heap.objs.size) _ ⟨I3,rfl,h _ hn⟩)
theorem an5{k1 k2 k3 v1 v2 v3:Expr}{a b c:Str}{i j k:Int}(h1:PE X k1 (tC<|.str a))(g1:PE X v1 (tC<|.int i))(h2:PE X k2 (tC<|.str b))(g2:PE X v2 (tC<|.int j))(h3:PE X k3 (tC<|.str c))(g3:PE X v3 (tC<|.int k))(nd:[a,b,c].Nodup) :
  PE X (.Dict [some k1,some k2,some k3] [v1,v2,v3] pos) (avh [(a,i),(b,j),(c,k)]):=
 apq [(k1,v1),(k2,v2),(k3,v3)] [(a,i),(b,j),(c,k)] rfl rfl rfl (by simp) (by show 3<=15;decide) (λn e p q1 q2=>by
  match n,q1,q2 with
  | 0,q1,q2=>cases q1;cases q2;exact⟨h1,g1⟩
  | 1,q1,q2=>cases q1;cases q2;exact⟨h2,g2⟩
  | 2,q1,q2=>cases q1;cases q2;exact⟨h3,g3⟩
  | n+3,q1,q2=>cases q1) nd
end
def SqO:Bool->Heap->aF->Array aA->Prop
 | true,h,l,xs=>h.IsList l xs
 | false,h,l,xs=>h.IsTuple l xs
def SqI:Bool->Heap->aF->aF->Nat->Prop
 | true,h,i,l,k=>h.IsListIter i l k
 | false,h,i,l,k=>h.IsTupleIter i l k
def SqO.on{t:Bool}{h h':Heap}{l:aF}{xs:Array aA}(x:SqO t h l xs)(e:∀o,h.get? l=some o->h'.get? l=some o):SqO t h' l xs:=by
 cases t;all_goals
  obtain⟨o,a,r⟩:=x;exact⟨o,e o a,r⟩
def SqI.on{t:Bool}{h h':Heap}{i l:aF}{k:Nat}(x:SqI t h i l k)(e:∀o,h.get? i=some o->h'.get? i=some o):SqI t h' i l k:=by
 cases t;all_goals
  obtain⟨o,a,r⟩:=x;exact⟨o,e o a,r⟩
def SqI.obj{t:Bool}{h:Heap}{i l:aF}{k:Nat}(x:SqI t h i l k):∃o,h.get? i=some o/\o.data=.fields #[.ref l,.int k 0]:=by
 cases t;all_goals
  obtain⟨o,a,c,r⟩:=x;exact⟨o,a,r⟩
section
variable{prog:aK}{w:aP}{A:Around}{E:aA->aB->Prop}{s:aB}{t t1 t2:Bool}
def SqI.nx{I a:aF}{k:Nat}{ys:Array aA}{v:aA}{R:aA->aB->Prop}(st:SqI t s.heap I a k)(tp:SqO t s.heap a ys)(hv:ys[k]?=some v)
  (q:∀g,SqI t g I a (k+1)->b9 I s.heap g->R v {s with heap:=g}):aG (aH prog w) A (bw<|.ref I) R E s:=by
 cases t
 .exact aoi st tp hv q
 .exact rX st tp hv q
def SqI.stop{I a:aF}{k:Nat}{ys:Array aA}{R:aA->aB->Prop}(hh:A.handled=none)(st:SqI t s.heap I a k)(tp:SqO t s.heap a ys)(hv:ys[k]?=none)
  (q:∀g e,j6 I s.heap g->(∃o,g.get? e=some o/\o.cls=.type "StopIteration")->E (.ref e) {s with heap:=g}):aG (aH prog w) A (bw<|.ref I) R E s:=by
 cases t
 .exact aa8 hh st tp hv q
 .exact sX hh st tp hv q
def SqO.iter{a:aF}{ys:Array aA}{Q:aA->aB->Prop}(tp:SqO t s.heap a ys)
  (q:∀g,SqI t g s.heap.objs.size a 0->g.objs.size=s.heap.objs.size+1->(∀b o,s.heap.get? b=some o->g.get? b=some o)->Q (.ref s.heap.objs.size) {s with heap:=g}):aG (aH prog w) A (kX<|.ref a) Q E s:=by
 cases t
 .exact k6 tp<|q _ ⟨_,a6 _ rfl,rfl,rfl⟩ (i9 ..) λb o e=>ai _ e
 .exact cY tp<|q _ ⟨_,a6 _ rfl,rfl,rfl⟩ (i9 ..) λb o e=>ai _ e
structure ZAp(z TI TO i1 i2 l1 l2:aF):Prop where
 nd:[z,TI,TO,i1,i2].Nodup
 a1:l1∉[z,TI,TO,i1,i2]
 a2:l2∉[z,TI,TO,i1,i2]
def arz{z TI TO i1 i2 l1 l2:aF}{k1 k2:Nat}{xs ys:Array aA}{x y a b:aA}{Q:aA->aB->Prop}(D:ZAp z TI TO i1 i2 l1 l2)
  (hz:iF s.heap z TI TO .none) (hI:dF s.heap TI (.ref i1) (.ref i2)) (hO:dF s.heap TO a b)
  (p1:SqI t1 s.heap i1 l1 k1) (p2:SqI t2 s.heap i2 l2 k2) (o1:SqO t1 s.heap l1 xs) (o2:SqO t2 s.heap l2 ys) (hx:xs[k1]?=some x) (hy:ys[k2]?=some y)
  (q:∀g,iF g z TI TO (cE s.heap.objs.size)->dF g TO x y->SqI t1 g i1 l1 (k1+1)->SqI t2 g i2 l2 (k2+1)->dF g s.heap.objs.size x y->
   (∀c o,c≠z->c≠TO->c≠i1->c≠i2->s.heap.get? c=some o->g.get? c=some o)->Q (.ref s.heap.objs.size) {s with heap:=g}) :
  aG (aH prog w) A (Builtin.«zip.__next__» ⟨[.ref z],[]⟩) (λfin s'=>∃v,fin=.done (.ret v)/\Q v s') E s:=by
 obtain⟨nd,a1,a2⟩:=D;simp only[jl,ax,df,or_false,not_or]at nd a1 a2;obtain⟨⟨n1,n2,n3,n4⟩,⟨n5,n6,n7⟩,⟨n8,n9⟩,wQ,_⟩:=nd;refine(ab (fg hz rfl (x:=.bool false) rfl ?_):aG _ _ (fI (.ref z) 2 >>= _) _ _ _);refine(ab (fg hz rfl (x:=.ref TI) rfl ?_):aG _ _ (fI (.ref z) 3 >>= _) _ _ _);refine ab<|gj hI rfl ?_;refine(ab ?_:aG _ _ (gk (.ref z) >>= _) _ _ _);unfold gk;refine ab<|fg hz rfl (x:=.none) rfl<|af ?_;simp only[if_true];refine ab<|jr<|ab<|fg hz rfl (x:=.ref TO) rfl<|ab<|gu hz (by simp) λg1 z1 s1=>?_
 replace z1:iF g1 z TI TO .ellipsis:=z1
 refine ab ?_;simp only[List.zipIdx_cons,List.zipIdx_nil,List.forIn_cons,List.forIn_nil];refine ab<|ab<|iY ?_;refine(?_:aG _ _ (bw (.ref i1) >>= _) _ _ _);refine ab<|SqI.nx (s:={s with heap:=g1}) (p1.on λo e=>s1.extBut _ o (Ne.symm n3) e) (o1.on λo e=>s1.extBut _ o a1.1 e) hx λg2 p12 s2=>af ?_;have O2:dF g2 TO a b:=s2.extBut _ _ n8<|s1.extBut _ _ (Ne.symm n2) hO;refine ab<|gj O2 rfl<|ab<|gZ O2 λg3 O3 s3=>ab<|cC<|af ?_
 replace O3:dF g3 TO x b:=O3
 refine ab<|ab<|iY ?_;refine(?_:aG _ _ (bw (.ref i2) >>= _) _ _ _);refine ab<|SqI.nx (s:={s with heap:=g3}) (p2.on λo e=>s3.extBut _ o (Ne.symm n9)<|s2.extBut _ o (Ne.symm wQ)<|s1.extBut _ o (Ne.symm n4) e) (o2.on λo e=>s3.extBut _ o a2.2.2.1<|s2.extBut _ o a2.2.2.2.1<|s1.extBut _ o a2.1 e) hy λg4 p24 s4=>af ?_;have O4:dF g4 TO x b:=s4.extBut _ _ n9 O3;refine ab<|gj O4 rfl<|ab<|gZ O4 λg5 O5 s5=>ab<|cC<|af<|af ?_
 replace O5:dF g5 TO x y:=O5
 refine ab<|gj O5 rfl<|ab<|nK ?_;have sz:g5.objs.size=s.heap.objs.size:=by rw[s5.1,s4.1,s3.1,s2.1,s1.1]
 have z5:iF g5 z TI TO .ellipsis:=s5.extBut _ _ n2<|s4.extBut _ _ n4<|s3.extBut _ _ n2<|s2.extBut _ _ n3 z1;have k5:∀c o,c≠z->c≠TO->c≠i1->c≠i2->s.heap.get? c=some o->g5.get? c=some o:=λc o c1 c2 c3 c4 e=>s5.extBut _ _ c2<|s4.extBut _ _ c4<|s3.extBut _ _ c2<|s2.extBut _ _ c3<|s1.extBut _ _ c1 e;have p15:SqI t1 g5 i1 l1 (k1+1):=p12.on λo e=>s5.extBut _ _ (Ne.symm n8)<|s4.extBut _ _ wQ<|s3.extBut _ _ (Ne.symm n8) e;have p25:SqI t2 g5 i2 l2 (k2+1):=p24.on λo e=>s5.extBut _ _ (Ne.symm n9) e;have lz:=bn z5;refine(ab ?_:aG _ _ (ji (.ref z) (.ref g5.objs.size) >>= _) _ _ _);unfold ji;have z6:iF (g5.push {cls:=.type "tuple",data:=.seq #[x,y]}) z TI TO .ellipsis:=ai _ z5;refine ab<|gu z6 (by simp) λg7 z7 s7=>?_
 replace z7:iF g7 z TI TO (cE g5.objs.size):=z7
 refine gu z7 (by simp) λg8 z8 s8=>?_
 replace z8:iF g8 z TI TO (cE g5.objs.size):=z8
 have up:∀c o,c≠z->(g5.push {cls:=.type "tuple",data:=.seq #[x,y]}).get? c=some o->g8.get? c=some o:=λc o c1 e=>s8.extBut _ _ c1<|s7.extBut _ _ c1 e;have T8:dF g8 g5.objs.size x y:=up _ _ (Nat.ne_of_gt lz)<|a6 _ rfl;rw[sz]at z8 T8;refine af ⟨_,rfl,(?_:Q (.ref g5.objs.size) _)⟩;rw[sz];exact q g8 z8 (up _ _ (Ne.symm n2)<|ai _ O5) (p15.on λo e=>up _ o (Ne.symm n3)<|ai _ e) (p25.on λo e=>up _ o (Ne.symm n4)<|ai _ e) T8 λc o c1 c2 c3 c4 e=>up c o c1<|ai _<|k5 c o c1 c2 c3 c4 e
theorem atg{z TI TO i1 i2 l1 l2:aF}{k1 k2:Nat}{xs ys:Array aA}{a b:aA}{Q:Fin->aB->Prop}(hh:A.handled=none)(D:ZAp z TI TO i1 i2 l1 l2)
  (hz:iF s.heap z TI TO .none) (hI:dF s.heap TI (.ref i1) (.ref i2)) (hO:dF s.heap TO a b)
  (p1:SqI t1 s.heap i1 l1 k1) (p2:SqI t2 s.heap i2 l2 k2) (o1:SqO t1 s.heap l1 xs) (o2:SqO t2 s.heap l2 ys) (BI:xs[k1]?=none\/ys[k2]?=none)
  (q:∀g e,(∀c o,c≠z->c≠TO->c≠i1->c≠i2->s.heap.get? c=some o->g.get? c=some o)->(∃o,g.get? e=some o/\o.cls=.type "StopIteration")->E (.ref e) {s with heap:=g}) :
  aG (aH prog w) A (Builtin.«zip.__next__» ⟨[.ref z],[]⟩) Q E s:=by
 obtain⟨nd,a1,a2⟩:=D;simp only[jl,ax,df,or_false,not_or]at nd a1 a2;obtain⟨⟨n1,n2,n3,n4⟩,⟨n5,n6,n7⟩,⟨n8,n9⟩,wQ,_⟩:=nd;refine(ab (fg hz rfl (x:=.bool false) rfl ?_):aG _ _ (fI (.ref z) 2 >>= _) _ _ _);refine(ab (fg hz rfl (x:=.ref TI) rfl ?_):aG _ _ (fI (.ref z) 3 >>= _) _ _ _);refine ab<|gj hI rfl ?_;refine(ab ?_:aG _ _ (gk (.ref z) >>= _) _ _ _);unfold gk;refine ab<|fg hz rfl (x:=.none) rfl<|af ?_;simp only[if_true];refine ab<|jr<|ab<|fg hz rfl (x:=.ref TO) rfl<|ab<|gu hz (by simp) λg1 z1 s1=>?_
 replace z1:iF g1 z TI TO .ellipsis:=z1
 refine ab ?_;simp only[List.zipIdx_cons,List.zipIdx_nil,List.forIn_cons,List.forIn_nil];refine ab<|ab<|iY ?_;have p11:=p1.on λo e=>s1.extBut _ o (Ne.symm n3) e;have o11:=o1.on λo e=>s1.extBut _ o a1.1 e;cases hx:xs[k1]? with
 | none=>
  refine(?_:aG _ _ (bw (.ref i1) >>= _) _ _ _);refine ab<|SqI.stop (s:={s with heap:=g1}) hh p11 o11 hx λg2 e s2 he=>?_;obtain⟨oe,xF,BO⟩:=he;have z2:iF g2 z TI TO .ellipsis:=s2 _ _ n3 z1;have ez:e≠z:=λc=>by rw[c,z2]at xF;cases xF;simp at BO
  exact gu z2 (by simp) λg3 _ s3=>q g3 e (λc o c1 _ c3 _ x=>s3.extBut _ _ c1<|s2 _ _ c3<|s1.extBut _ _ c1 x) ⟨oe,s3.extBut _ _ ez xF,BO⟩
 | some x=>
  have hy:ys[k2]?=none:=BI.resolve_left λc=>by rw[hx]at c;cases c
  refine(?_:aG _ _ (bw (.ref i1) >>= _) _ _ _);refine ab<|SqI.nx (s:={s with heap:=g1}) p11 o11 hx λg2 p12 s2=>af ?_;have O2:dF g2 TO a b:=s2.extBut _ _ n8<|s1.extBut _ _ (Ne.symm n2) hO;refine ab<|gj O2 rfl<|ab<|gZ O2 λg3 O3 s3=>ab<|cC<|af ?_;refine ab<|ab<|iY ?_;refine(?_:aG _ _ (bw (.ref i2) >>= _) _ _ _);refine ab<|SqI.stop (s:={s with heap:=g3}) hh (p2.on λo e=>s3.extBut _ o (Ne.symm n9)<|s2.extBut _ o (Ne.symm wQ)<|s1.extBut _ o (Ne.symm n4) e) (o2.on λo e=>s3.extBut _ o a2.2.2.1<|s2.extBut _ o a2.2.2.2.1<|s1.extBut _ o a2.1 e) hy λg4 e s4 he=>?_;obtain⟨oe,xF,BO⟩:=he;have z4:iF g4 z TI TO .ellipsis:=s4 _ _ n4<|s3.extBut _ _ n2<|s2.extBut _ _ n3 z1;have ez:e≠z:=λc=>by rw[c,z4]at xF;cases xF;simp at BO
  exact gu z4 (by simp) λg5 _ s5=>q g5 e (λc o c1 c2 c3 c4 x=>s5.extBut _ _ c1<|s4 _ _ c4<|s3.extBut _ _ c2<|s2.extBut _ _ c3<|s1.extBut _ _ c1 x) ⟨oe,s5.extBut _ _ ez xF,BO⟩
def ax9(t1 t2:Bool)(h g:Heap)(l1 l2:aF):Prop:=iF g (h.objs.size+4) (h.objs.size+2) (h.objs.size+3) .none/\dF g (h.objs.size+2) (.ref h.objs.size) (.ref<|h.objs.size+1)/\
 dF g (h.objs.size+3) .none .none/\SqI t1 g h.objs.size l1 0/\SqI t2 g (h.objs.size+1) l2 0/\∀c o,h.get? c=some o->g.get? c=some o
def awb(g:Heap){A B C:Obj}(a:A.isFreed=false)(b:B.isFreed=false)(c:C.isFreed=false):(((g.push A).push B).push C).get? g.objs.size=some A/\(((g.push A).push B).push C).get? (g.objs.size+1)=some B/\
  (((g.push A).push B).push C).get? (g.objs.size+2)=some C/\∀x o,g.get? x=some o->(((g.push A).push B).push C).get? x=some o:=by
 have e1:(g.push A).objs.size=g.objs.size+1:=i9 ..;have e2:((g.push A).push B).objs.size=g.objs.size+2:=by rw[i9,e1]
 refine⟨ai _<|ai _<|a6 _ a,?_,?_,λx o h=>ai _<|ai _<|ai _ h⟩
 .rw[<-e1];exact ai _<|a6 _ b
 .rw[<-e2];exact a6 _ c
def ans(t1 t2:Bool)(l1 l2:aF)(xs ys:Array aA) :
  Meets (Builtin.«zip.__new__» ⟨[.type "zip",.ref l1,.ref l2],[]⟩) (λ_ R s=>SqO t1 s.heap l1 xs/\SqO t2 s.heap l2 ys/\∀g,ax9 t1 t2 s.heap g l1 l2->R (.ok<|.ret<|.ref<|s.heap.objs.size+4) {s with heap:=g}):=
 .of_wp λprog w A R s h=>by
  obtain⟨hp,gs,d,tk,os⟩:=s;obtain⟨h1,h2,h⟩:=h;have wW:=sub_zip;have L1:SqO t1 (aB.heap ⟨hp,gs,d,tk,os⟩) l1 xs:=h1
  wp_walk using SqO.iter L1
  intro g1 i1 z1 k1;have L2:SqO t2 (aB.heap ⟨g1,gs,d,tk,os⟩) l2 ys:=h2.on λo e=>k1 _ o e
  wp_walk using SqO.iter L2
  intro g2 i2 z2 k2
  wp_walk
  replace z1:g1.objs.size=hp.objs.size+1:=z1
  replace z2:g2.objs.size=g1.objs.size+1:=z2
  refine⟨_,rfl,?_⟩;have e3:(g2.push {cls:=.type "tuple",data:=.seq #[.ref hp.objs.size,.ref g1.objs.size]}).objs.size=hp.objs.size+3:=by rw[i9,z2,z1]
  have e4:((g2.push {cls:=.type "tuple",data:=.seq #[.ref hp.objs.size,.ref g1.objs.size]}).push {cls:=.type "tuple",data:=.seq #[.none,.none]}).objs.size=hp.objs.size+4:=by rw[i9,e3]
  have e2:g2.objs.size=hp.objs.size+2:=by rw[z2,z1]
  refine(?_:R (.ok<|.ret<|.ref ((g2.push {cls:=.type "tuple",data:=.seq #[.ref hp.objs.size,.ref g1.objs.size]}).push {cls:=.type "tuple",data:=.seq #[.none,.none]}).objs.size) ⟨((g2.push {cls:=.type "tuple",data:=.seq #[.ref hp.objs.size,.ref g1.objs.size]}).push {cls:=.type "tuple",data:=.seq #[.none,.none]}).push {cls:=.type "zip",data:=.fields #[.none,.bool false,.bool false,.ref g2.objs.size,.ref (g2.push {cls:=.type "tuple",data:=.seq #[.ref hp.objs.size,.ref g1.objs.size]}).objs.size]},gs,d,tk,os⟩);obtain⟨G2,G3,G4,kp⟩:=awb g2 (A:={cls:=.type "tuple",data:=.seq #[.ref hp.objs.size,.ref g1.objs.size]}) (B:={cls:=.type "tuple",data:=.seq #[.none,.none]}) (C:={cls:=.type "zip",data:=.fields #[.none,.bool false,.bool false,.ref g2.objs.size,.ref (g2.push {cls:=.type "tuple",data:=.seq #[.ref hp.objs.size,.ref g1.objs.size]}).objs.size]}) rfl rfl rfl;generalize ((g2.push _).push _).push _=G at *;rw[e3,e2]at G4;rw[e2]at G3;rw[e2,z1]at G2;rw[e4];refine h G ⟨G4,G2,G3,i1.on λo e=>kp _ _<|k2 _ _ e,?_,λc o e=>kp _ _<|k2 _ _<|k1 _ _ e⟩;have i2':SqI t2 g2 g1.objs.size l2 0:=i2;rw[z1]at i2';exact i2'.on λo e=>kp _ _ e
def aq6{l1 l2:aF}{xs ys:Array aA}{Q:aA->aB->Prop}(h1:SqO t1 s.heap l1 xs)(h2:SqO t2 s.heap l2 ys)(q:∀g,ax9 t1 t2 s.heap g l1 l2->Q (.ref<|s.heap.objs.size+4) {s with heap:=g}) :
  aG (aH prog w) A (call (.type "zip") [.ref l1,.ref l2]) Q E s:=
 callType_new F.called_zip (by decide) (F.typeCall_zip_2 _ _) (F.newCall_zip_2 _ _) (λobj=>F.args_object_init_3 obj _ _) F.entry_zip_new
  (ans t1 t2 l1 l2 xs ys) ⟨h1,h2,λg z=>⟨⟨_,z.1,rfl⟩,q g z⟩⟩
end
noncomputable def sqH:Bool->Z V->HO
 | true,xs=>.lst xs
 | false,xs=>.tup xs
def xi{X:Cx}{aC:Z (aF×Obj)}{σ:L2.St}{H:Hp}{s:aB}{t:Bool}{a:aF}{xs:Z V}(I:Inv X aC σ H s)(h:H a=some (sqH t xs)):∃its:Z aA,Vals xs its/\SqO t s.heap a its.toArray:=by
 cases t
 .obtain⟨its,r,p,_⟩:=I.tuple<|SqT.of (K:=X.K) h;exact⟨its,r,p⟩
 .obtain⟨its,r,p,_⟩:=I.list<|SqL.of (K:=X.K) h;exact⟨its,r,p.isList⟩
section
variable{X:Cx}{aC:Z (aF×Obj)}{σ:L2.St}{H:Hp}{s:aB}{h':Heap}
def akn{t':Nat}{fp:Z aF}(I:Inv X aC σ H s)(k:∀b o,b∉fp->s.heap.get? b=some o->h'.get? b=some o)(hf:∀b∈fp,mE X aC H b):Inv X aC σ H {s with heap:=h',toks:=t'}:=by
 have nn:∀b u,H b=some u->b∉fp:=λb u q z=>by rw[(hf b z).1]at q;cases q
 refine I.step (g':=s.gens) (d':=s.drawn) (ch:=fp) (λb hb=>?_) (λb o _ _ hc q _=>k b o hc q) (λb o _ _ hc q _=>⟨o.slots,k b o hc q⟩) (λ_ _ _ _ n=>n)
  (λb o hc q=>⟨o,k b o hc q⟩) (λ_ _ q=>q) (λ_ _ _ q=>q) (λb ps q=>⟨#[],by rw[q];simp⟩) (λm hm=>?_) (λb u q=>?_) I.bare
 .obtain⟨e0,e1,e2,e3,e4,e5⟩:=hf b hb;exact⟨e3,e1,e4,e5⟩
 .obtain⟨o,es,ep,ho,r⟩:=hm;exact(mz o es ep ⟨k _ o (λz=>(hf _ z).2.1 rfl) ho,r⟩)
 .refine(I.hok b u q).stay (λc v hc r=>k c v ?_ r) (λ_ r=>r) λ_ _ r=>r;rcases hc with z|z
  .rw[z];exact nn b u q
  .exact nn c _ z
end
noncomputable def Jzq(t1 t2:Bool)(l1 l2:aF):It:=
 ⟨λi H=>∃xs ys x y,H l1=some (sqH t1 xs)/\H l2=some (sqH t2 ys)/\xs[i]?=some x/\ys[i]?=some y,
  λi H v H'=>∃p x y,H p=none/\v=.ref p/\H'=upd H p (.tup [x,y])/\(∀xs,H l1=some (sqH t1 xs)->xs[i]?=some x)/\∀ys,H l2=some (sqH t2 ys)->ys[i]?=some y,
  λi H=>∃xs ys,H l1=some (sqH t1 xs)/\H l2=some (sqH t2 ys)/\(xs.length<=i\/ys.length<=i)⟩
def als{t:Bool}{xs ys:Z V}{o:Option HO}(a:o=some (sqH t xs))(b:o=some (sqH t ys)):xs=ys:=by
 rw[a]at b;cases t;all_goals
  cases b;rfl
def azb(t1 t2:Bool)(z TI TO i1 i2 l1 l2:aF)(i:Nat)(h:Heap):Prop:=iF h z TI TO .none/\dF h TI (.ref i1) (.ref i2)/\(∃a b,dF h TO a b)/\SqI t1 h i1 l1 i/\SqI t2 h i2 l2 i
def apm{P:aK}{w:aP}{K:av}{eL:Z Expr}{x1}{pos:dU}{t1 t2:Bool}{z TI TO i1 i2 l1 l2:aF}(nd:[z,TI,TO,i1,i2].Nodup) :
  sQ P w K (.Tuple eL x1 pos) (Jzq t1 t2 l1 l2) [z,TI,TO,i1,i2] z (azb t1 t2 z TI TO i1 i2 l1 l2)where
 mem:=by simp
 obj:=λi h st b hb=>by
  obtain⟨a1,a2,⟨a,b',a3⟩,p4,p5⟩:=st;obtain⟨o4,h4,d4⟩:=p4.obj;obtain⟨o5,h5,d5⟩:=p5.obj;simp only[ax,df,or_false]at hb;rcases hb with rfl|rfl|rfl|rfl|rfl
  .exact⟨_,a1,λv z=>by cases z⟩
  .exact⟨_,a2,λv z=>by cases z⟩
  .exact⟨_,a3,λv z=>by cases z⟩
  .exact⟨_,h4,λv z=>by rw[d4]at z;cases z⟩
  .exact⟨_,h5,λv z=>by rw[d5]at z;cases z⟩
 keep:=λi h h' st k=>by obtain⟨a1,a2,⟨a,b',a3⟩,p4,p5⟩:=st;exact⟨k _ (by simp) _ a1,k _ (by simp) _ a2,(l8 a b'<|k _ (by simp) _ a3),p4.on<|k _<|by simp,p5.on<|k _<|by simp⟩
 item:=by
  intro X hP hw hK hc i aC s σ H E Iv hf st hg;subst hP hw hK;obtain⟨a1,a2,⟨a,b',a3⟩,h4,h5⟩:=st;obtain⟨xs,ys,x,y,gR,fP,hx,hy⟩:=hg;obtain⟨is1,r1,p1⟩:=xi Iv gR;obtain⟨is2,r2,p2⟩:=xi Iv fP;obtain⟨u,hu,ru⟩:=r1.get hx;obtain⟨v,hv,rv⟩:=r2.get hy;have ap:ZAp z TI TO i1 i2 l1 l2:=⟨nd,(λm=>by rw[(hf _ m).1]at gR;cases gR),λm=>by rw[(hf _ m).1]at fP;cases fP⟩;have hT:s.TypeIs (.ref z) "zip":=⟨_,a1,rfl⟩;simp only[jl,ax,df,or_false,not_or]at nd;obtain⟨⟨n1,n2,n3,n4⟩,⟨n5,n6,n7⟩,⟨n8,n9⟩,wQ,_⟩:=nd;unfold bF;refine ab (jf (cg (name:=bh "__next__") hT F.slot_zip_next (cu F.slot_zip_next hT F.entry_zip_next
   (arz ap a1 a2 a3 h4 h5 p1 p2 (x:=u) (y:=v) (by simpa using hu) (by simpa using hv) λg g1 g2 g3 g4 g5 g7=>af ⟨_,rfl,?_⟩) (F.args_zip_next_1 _))))
  refine wpAny_letOwnedTupleGo_zip (s:={s with heap:=g}) g1 λg' e' sb=>?_;have lz:∀b∈[z,TI,TO,i1,i2],b<s.heap.objs.size:=λb hb=>by
   simp only[ax,df,or_false]at hb;rcases hb with rfl|rfl|rfl|rfl|rfl
   .exact bn a1
   .exact bn a2
   .exact bn a3
   .exact bn h4.obj.choose_spec.1
   .exact bn h5.obj.choose_spec.1
  have I1:Inv X aC σ (upd H s.heap.objs.size<|.tup [x,y]) {s with heap:=s.heap.push {cls:=.type "tuple",data:=.seq #[u,v]}}:=
   Iv.laid (t':=s.toks) (λb o q=>ai _ q) (am _) ⟨by show 2<=aE;decide,[u,v],.cons ru<|.cons rv .nil,(np _ (a6 _ rfl) rfl _ rfl)⟩
  have hf':∀b∈[z,TI,TO,i1,i2],mE X aC (upd H s.heap.objs.size<|.tup [x,y]) b:=λb hb=>⟨by rw[ma (dw<|lz b hb)];exact(hf b hb).1,(hf b hb).2⟩;have nz:s.heap.objs.size≠z:=Nat.ne_of_gt (lz z<|by simp);have I2:Inv X aC σ (upd H s.heap.objs.size<|.tup [x,y]) {s with heap:=g'}:=akn (s:={s with heap:=s.heap.push {cls:=.type "tuple",data:=.seq #[u,v]}}) (t':=s.toks) I1 (λb o hb q=>by
   simp only[ax,df,or_false,not_or]at hb;rcases Heap.get?_push_cases q with ⟨e1,e2⟩|e
   .rw[e1,e2];exact(sb.2 _ nz).trans g5
   .exact(sb.2 b hb.1).trans (g7 b o hb.1 hb.2.2.1 hb.2.2.2.1 hb.2.2.2.2 e)) hf'
  have kp:∀b o,b≠z->g.get? b=some o->g'.get? b=some o:=λb o hb q=>(sb.2 b hb).trans q;refine(l8 (.ref s.heap.objs.size) _ ⟨I2,rfl,(mz _ x y ⟨Iv.hok.fresh<|am _,rfl,rfl,λxs' e=>?_,λDa e=>?_⟩),⟨e',kp _ _ (Ne.symm n1)<|g7 _ _ (Ne.symm n1) n5 n6 n7 a2,(l8 _ _<|kp _ _ (Ne.symm n2) g2),g3.on λo e=>kp _ _ (Ne.symm n3) e,g4.on λo e=>kp _ _ (Ne.symm n4) e⟩,λb hb=>(hf' b hb).1⟩)
  .rw[als e gR];exact hx
  .rw[als e fP];exact hy
 done:=by
  intro X hP hw hK hc i aC s σ H E Iv hf st hg;subst hP hw hK;obtain⟨a1,a2,⟨a,b',a3⟩,h4,h5⟩:=st;obtain⟨xs,ys,gR,fP,hx⟩:=hg;obtain⟨is1,r1,p1⟩:=xi Iv gR;obtain⟨is2,r2,p2⟩:=xi Iv fP;have ap:ZAp z TI TO i1 i2 l1 l2:=⟨nd,(λm=>by rw[(hf _ m).1]at gR;cases gR),λm=>by rw[(hf _ m).1]at fP;cases fP⟩;have hT:s.TypeIs (.ref z) "zip":=⟨_,a1,rfl⟩;have Ii:=r1.length;have len2:=r2.length;unfold bF;refine ab (jf (cg (name:=bh "__next__") hT F.slot_zip_next (cu F.slot_zip_next hT F.entry_zip_next
   (atg (Iv.ok.hd hc) ap a1 a2 a3 h4 h5 p1 p2 (hx.imp (λh=>?_) λh=>?_) λg e kp he=>?_) (F.args_zip_next_1 _))))
  .simp;lia
  .simp;lia
  .obtain⟨o,ho,iW⟩:=he;refine ab<|kj (T:="StopIteration") (b:=true) ⟨o,ho,iW⟩ eV<|af ⟨rfl,akn (t':=s.toks) Iv (λb o hb q=>?_) hf⟩;simp only[ax,df,or_false,not_or]at hb;exact kp b o hb.1 hb.2.2.1 hb.2.2.2.1 hb.2.2.2.2 q
 self:=λ_ _ _ _ _ st h=>Dc st.1 h
section
variable{X:Cx}{eL:Z Expr}{x1:Nat}{jA p pos:dU}{a b:Expr}{ta:TA}
def iZq(t1 t2:Bool)(ta:TA):TI:=λσ H R=>ta σ H λvs H1=>∃l1 l2 xs ys,vs=[.ref l1,.ref l2]/\H1 l1=some (sqH t1 xs)/\H1 l2=some (sqH t2 ys)/\R (Jzq t1 t2 l1 l2) H1
def awf(t1 t2:Bool)(hg:Gl X "zip")(hm:X.mg "zip" = none)(ha:PA X [a,b] ta)(h1:nr a=true:=by rfl)(h2:nr b=true:=by rfl):PI X (.Tuple eL x1 jA) (.Call (.Name "zip" p) [a,b] [] pos) (iZq t1 t2 ta):=by
 intro aC s σ H R I h;refine Call_ (uq I hg hm boot_zip<|gw (thn (ha pos aC s σ H _ I h) λus s1 ⟨vs,H1,I1,r1,q1⟩=>?_) (oq h1)<|sf<|by simp[h2]);obtain⟨l1,l2,xs,ys,e,gR,fP,q⟩:=q1;subst e;obtain⟨u,v,rfl,ru,rv⟩:=asu r1;cases (show u=aA.ref l1 from ru);cases (show v=aA.ref l2 from rv);obtain⟨is1,_,p1⟩:=xi I1 gR;obtain⟨is2,_,p2⟩:=xi I1 fP;refine aq6 p1 p2 λg ⟨g1,g2,g3,g4,g5,kp⟩=>Dc (s:={s1 with heap:=g}) g1 ?_;refine(lw (s1.heap.objs.size+4) ([s1.heap.objs.size+4,s1.heap.objs.size+2,s1.heap.objs.size+3,s1.heap.objs.size,s1.heap.objs.size+1]) _ _ H1 ⟨rfl,I1.kept (t':=s1.toks) kp,apm (l1:=l1) (l2:=l2)<|by simp,⟨g1,g2,(l8 _ _ g3),g4,g5⟩,λc hc=>?_,q⟩);have:s1.heap.objs.size<=c:=by simp only[ax,df,or_false]at hc;rcases hc with rfl|rfl|rfl|rfl|rfl<;>lia
 exact I1.fpOk this<|I1.hok.fresh this
end
def aq0{t1 t2:Bool}{l1 l2:aF}{xs ys:Z V}{sl:Z (Option Nat)}{g:TG}{tt:L2.TT}{te:TE}{σ:L2.St}{H1:Hp}{D:aF}{Q:VK}(Pv:Nat->Z V->Hp->Prop)(h0:Pv 0 [] (upd H1 D<|.lst []))(hk:∀i zs G,Pv i zs G->G l1=some (sqH t1 xs)/\G l2=some (sqH t2 ys))
  (hs:∀i x y p zs G,xs[i]?=some x->ys[i]?=some y->G p=none->G D=some (.lst zs)->zs.length<=i->Pv i zs G->g (.ref p) (qt sl σ) (upd G p<|.tup [x,y]) λσ2 H2=>Agree (qt sl σ) σ2/\tt σ2 H2 λb H3=>
   if b=true then te σ2 H3 λy H4=>∃xs,H4 D=some (.lst xs)/\xs.length<aE/\Nx D i Pv (upd H4 D<|.lst<|xs++[y])else Nx D i Pv H3)
  (hd:∀zs G,G D=some (.lst zs)->zs.length<=hX xs.length ys.length->Pv (hX xs.length ys.length) zs G->Q (.ref D) G):uJ (Jzq t1 t2 l1 l2) sl g tt te σ H1 D Q:=by
 refine E8 (Jzq t1 t2 l1 l2) (hX xs.length ys.length) Pv h0 (λi zs G hi p=>(mf xs ys (xs[i]'(by lia)) (ys[i]'(by lia)) ⟨(hk i zs G p).1,(hk i zs G p).2,ah _,ah _⟩)) (λzs G p=>(l8 xs ys ⟨(hk _ zs G p).1,(hk _ zs G p).2,by lia⟩)) (λi v zs G G' hi y hD dP p=>?_) hd;obtain⟨b,x,y',hb,rfl,rfl,e1,e2⟩:=y;exact hs i x y' b zs G (e1 xs (hk i zs G p).1) (e2 ys (hk i zs G p).2) hb hD dP p
noncomputable def Jel(K:av)(a:aF):It:=
 ⟨λi H=>∃xs x,SqL K H a xs/\xs[i]?=some x,λi H v H'=>∃p x,H p=none/\v=.ref p/\H'=upd H p (.tup [.int i,x])/\∀xs,SqL K H a xs->xs[i]?=some x,λi H=>∃xs,SqL K H a xs/\xs.length<=i⟩
def aib{P:aK}{w:aP}{K:av}{eL:Z Expr}{x1}{pos:dU}(a e I:aF)(gW:e≠I) :
  sQ P w K (.Tuple eL x1 pos) (Jel K a) [e,I] e (λi h=>(∃jB,eI h e I i jB)/\h.IsListIter I a i):=by
 refine Kp (Jel K a) e I gW (λi h=>h.IsListIter I a i) (λi h st=>?_) (λi h h' st k=>?_) (λX hP hw hK i aC s σ H Iv st hg=>?_) λX hP hw hK i aC s σ H Iv st hg A' R E' hh q=>?_
 .obtain⟨o,ho,c,d⟩:=st;exact⟨o,ho,λv z=>by rw[d]at z;cases z⟩
 .obtain⟨o,ho,r⟩:=st;exact⟨o,k o ho,r⟩
 .subst hP hw hK;obtain⟨xs,x,hq,hx⟩:=hg;obtain⟨its,rv,p,hz⟩:=Iv.list hq;obtain⟨u,hu,ru⟩:=rv.get hx;refine⟨λu'=>u'=u,λu' zL=>?_,λA' R E' q=>?_⟩
  .subst zL;exact⟨x,ru,s.heap.objs.size,x,Iv.hok.fresh<|am _,rfl,rfl,λys hy=>by rw[Iv.list_inj hy hq];exact hx⟩
  .exact rX st p.isList (x:=u) (by simpa using hu) λg aQ sb=>q u g s.toks rfl aQ sb
 .subst hP hw hK;obtain⟨xs,hq,hx⟩:=hg;obtain⟨its,rv,p,hz⟩:=Iv.list hq;have hl:=rv.length;exact sX hh st p.isList (by simp;lia) q
section
variable{X:Cx}{eL:Z Expr}{x1:Nat}{jA p pos:dU}{a:Expr}{ta:TA}
def aye(K:av)(ta:TA):TI:=λσ H R=>ta σ H λvs H1=>∃a,vs=[.ref a]/\(∃xs,SqL K H1 a xs)/\R (Jel K a) H1
def auk(hg:Gl X "enumerate")(hm:X.mg "enumerate" = none)(ha:PA X [a] ta)(hs:nr a=true:=by rfl):PI X (.Tuple eL x1 jA) (.Call (.Name "enumerate" p) [a] [] pos) (aye X.K ta):=by
 intro aC s σ H R I h;refine Call_<|uq I hg hm oI<|gw (thn (ha pos aC s σ H _ I h) λus s1 ⟨vs,H1,I1,r1,q1⟩=>?_) (oq hs) rfl;obtain⟨b,e,⟨xs,hq⟩,q⟩:=q1;subst e;obtain⟨u,rfl,ru⟩:=wm r1;cases (show u=aA.ref b from ru);obtain⟨its,rv,pl,hz⟩:=I1.list hq;refine call_enumerate_list (l:=b) pl.isList λg he hi _ kp=>eX (s:={s1 with heap:=g}) he ?_;refine⟨s1.heap.objs.size+1,[s1.heap.objs.size+1,s1.heap.objs.size],_,_,H1,rfl,I1.kept (t':=s1.toks) kp,aib b (s1.heap.objs.size+1) s1.heap.objs.size<|Nat.succ_ne_self _,⟨⟨_,he⟩,hi⟩,λc hc=>?_,q⟩;rcases ax.mp hc with z|z
 .subst z;exact I1.fpOk (by lia)<|I1.hok.fresh<|by lia
 .rw[ar.mp z];exact I1.fpOk (am _)<|I1.hok.fresh<|am _
end
def alt{K:av}{a:aF}{xs:Z V}{g:TG}{tb:TS}{D:mP}{σ:L2.St}{H:Hp}(Pv:Nat->L2.St->Hp->Prop)(h0:Pv 0 σ H)(hl:∀i σ H,Pv i σ H->SqL K H a xs)
  (hs:∀i x p σ H,xs[i]?=some x->H p=none->Pv i σ H->g (.ref p) σ (upd H p<|.tup [.int (i:Nat),x]) λσ2 H2=>tb {D with nx:=Pv<|i+1,ct:=Pv<|i+1,bk:=D.nx} σ2 H2) (hd:∀σ H,Pv xs.length σ H->D.nx σ H) :
  ∃W:Nat->Nat->L2.St->Hp->Prop,(∃m,W 0 m σ H)/\∀i m σ H,W i m σ H->
   ((Jel K a).stop i H/\D.nx σ H)\/((Jel K a).go i H/\∃N:L2.St->Hp->Prop,(∀σ' H',N σ' H'->∃m',m'<m/\W (i+1) m' σ' H')/\∀v H',(Jel K a).yld i H v H'->g v σ H' λσ2 H2=>tb {D with nx:=N,ct:=N,bk:=D.nx} σ2 H2):=by
 refine JH (Jel K a) xs.length Pv h0 (λi σ H hi p=>⟨xs,xs[i],hl i σ H p,by simp[hi]⟩) (λσ H p=>⟨xs,hl _ σ H p,am _⟩) (λi v σ H H' hi p y=>?_) hd;obtain⟨b,x,hb,rfl,rfl,hx⟩:=y;exact hs i x b σ H (hx xs<|hl i σ H p) hb p
noncomputable def cl(d:U):Int×Int:=(qw d,qu d)
def SgD(d:U):Prop:=∃(r c:Int)(k:Nat),d=.tuple [.int r,.int c,.str ⟨#[k]⟩]/\65<=k/\k<=90
structure Pre(ds:Z U):Prop where
 sg:∀d∈ds,SgD d
 pos:0<ds.length
 six:ds.length<=6
 nd:(ds.map cl).Nodup
structure Zr(ds:Z U):Prop where
 pre:Pre ds
 r0:qx (ds.map qw)=0
 c0:qx (ds.map qu)=0
def Pre.spots{ds:Z U}(h:Pre ds):Spots ds:=λd hd=>by obtain⟨r,c,k,e,_⟩:=h.sg d hd;exact(mz r c _ e)
theorem Pre.map{ds:Z U}(h:Pre ds){f:U->U}{g:Int×Int->Int×Int}(hf:∀d,SgD d->SgD (f d)/\cl (f d)=g (cl d))(hi:∀a b,g a=g b->a=b):Pre (ds.map f):=by
 have e:(ds.map f).map cl=(ds.map cl).map g:=by rw[bm,bm];exact dv λd hd=>(hf d<|h.sg d hd).2
 refine⟨λd hd=>?_,by rw[ae];exact h.pos,by rw[ae];exact h.six,?_⟩
 .obtain⟨x,hx,rfl⟩:=aw.mp hd;exact(hf x<|h.sg x hx).1
 .rw[e];exact List.Pairwise.map g (λa b mD z=>mD<|hi a b z) h.nd
def Pre.perm{ds es:Z U}(h:Pre ds)(p:es.Perm ds):Pre es:=
 ⟨λd hd=>h.sg d<|p.mem_iff.mp hd,by rw[p.length_eq];exact h.pos,by rw[p.length_eq];exact h.six,(p.map cl).nodup_iff.mpr h.nd⟩
def agt{ns ms:Z Int}(p:ns.Perm ms)(h:0<ns.length):qx ns=qx ms:=
 vi (p.mem_iff.mp<|rj h) λa ha=>vm a<|p.mem_iff.mpr ha
theorem Zr.perm{ds es:Z U}(h:Zr ds)(p:es.Perm ds):Zr es:=by have hp:=h.pre.perm p;exact⟨hp,(agt (p.map qw)<|by rw[ae];exact hp.pos).trans h.r0,(agt (p.map qu)<|by rw[ae];exact hp.pos).trans h.c0⟩
def E6{d:U}(m:Int)(h:SgD d):SgD (Ai m d)/\cl (Ai m d)=((cl d).1,m-(cl d).2):=by obtain⟨r,c,k,rfl,h1,h2⟩:=h;exact⟨(mz r (m-c) k ⟨rfl,h1,h2⟩),rfl⟩
def Fc{d:U}(m:Int)(h:SgD d):SgD (Ah m d)/\cl (Ah m d)=((cl d).2,m-(cl d).1):=by obtain⟨r,c,k,rfl,h1,h2⟩:=h;exact⟨(mz c (m-r) k ⟨rfl,h1,h2⟩),rfl⟩
def xg{d:U}(a b:Int)(h:SgD d):SgD (ym a b d)/\cl (ym a b d)=((cl d).1-a,(cl d).2-b):=by obtain⟨r,c,k,rfl,h1,h2⟩:=h;exact⟨(mz (r-a) (c-b) k ⟨rfl,h1,h2⟩),rfl⟩
def Jk(d:U):qw d=(cl d).1:=rfl
def Jt(d:U):qu d=(cl d).2:=rfl
def ahe{ns:Z Int}(h:0<ns.length):qx (ns.map λx=>vy ns-x)=0:=by
 refine(vi ?_ λa ha=>?_).symm
 .exact aw.mpr ⟨vy ns,vx h,by lia⟩
 .obtain⟨x,hx,rfl⟩:=aw.mp ha;have:=zu x hx;lia
def alh{ns:Z Int}(h:0<ns.length):qx (ns.map λx=>x-qx ns)=0:=by
 refine(vi ?_ λa ha=>?_).symm
 .exact aw.mpr ⟨qx ns,rj h,by lia⟩
 .obtain⟨x,hx,rfl⟩:=aw.mp ha;have:=vm x hx;lia
def Zr.mir{ds:Z U}(h:Zr ds):Zr (kN ds):=by
 have hp:Pre (kN ds):=h.pre.map (g:=λa=>(a.1,vy (ds.map qu)-a.2)) (λd hd=>E6 _ hd) (λa b e=>by
  injection e with e1 e2
  exact Prod.ext e1<|by lia)
 refine⟨hp,?_,?_⟩
 .rw[show(kN ds).map qw=ds.map qw by
   unfold kN;rw[bm];exact dv λd hd=>by rw[Function.comp,Jk,(E6 _<|h.pre.sg d hd).2];rfl]
  exact h.r0
 .rw[show(kN ds).map qu=(ds.map qu).map λx=>vy (ds.map qu)-x by
   unfold kN;rw[bm,bm];exact dv λd hd=>by rw[Function.comp,Jt,(E6 _<|h.pre.sg d hd).2];rfl]
  exact ahe<|by rw[ae];exact h.pre.pos
def Zr.tur{ds:Z U}(h:Zr ds):Zr (lD ds):=by
 have hp:Pre (lD ds):=h.pre.map (g:=λa=>(a.2,vy (ds.map qw)-a.1)) (λd hd=>Fc _ hd) (λa b e=>by
  injection e with e1 e2
  exact Prod.ext (by lia) e1)
 refine⟨hp,?_,?_⟩
 .rw[show(lD ds).map qw=ds.map qu by
   unfold lD;rw[bm];exact dv λd hd=>by rw[Function.comp,Jk,(Fc _<|h.pre.sg d hd).2];rfl]
  exact h.c0
 .rw[show(lD ds).map qu=(ds.map qw).map λx=>vy (ds.map qw)-x by
   unfold lD;rw[bm,bm];exact dv λd hd=>by rw[Function.comp,Jt,(Fc _<|h.pre.sg d hd).2];rfl]
  exact ahe<|by rw[ae];exact h.pre.pos
def Zr.shift{ds:Z U}(h:Pre ds):Zr (nw ds):=by
 have hp:Pre (nw ds):=h.map (g:=λa=>(a.1-qx (ds.map qw),a.2-qx (ds.map qu))) (λd hd=>xg _ _ hd) (λa b e=>by
  injection e with e1 e2
  exact Prod.ext (by lia)<|by lia)
 refine⟨hp,?_,?_⟩
 .rw[show(nw ds).map qw=(ds.map qw).map λx=>x-qx (ds.map qw) by
   unfold nw;rw[bm,bm];exact dv λd hd=>by rw[Function.comp,Jk,(xg _ _<|h.sg d hd).2];rfl]
  exact alh<|by rw[ae];exact h.pos
 .rw[show(nw ds).map qu=(ds.map qu).map λx=>x-qx (ds.map qu) by
   unfold nw;rw[bm,bm];exact dv λd hd=>by rw[Function.comp,Jt,(xg _ _<|h.sg d hd).2];rfl]
  exact alh<|by rw[ae];exact h.pos
noncomputable def uH(i:Nat)(ds:Z U):Z U:=(cp i).foldl (λa _=>lD a) ds
def xu(i:Nat)(ds:Z U):uH (i+1) ds=lD (uH i ds):=by unfold uH;rw[jo,List.foldl_append];rfl
theorem Zr.iter{ds:Z U}(h:Zr ds):∀i,Zr (uH i ds)
 | 0=>h
 | i+1=>by rw[xu];exact(h.iter i).tur
def Zr.turned{ds:Z U}(h:Zr ds)(t:Nat):Zr (u8 t ds):=by
 show Zr (uH (t % 4) (if 4<=t then kN ds else ds));refine Zr.iter ?_ _;split
 .exact h.mir
 .exact h
noncomputable def ua(es:Z U)(t:Nat):U:=.tuple<|ub<|u8 t es
noncomputable def qk(es:Z U)(n:Nat):Z U:=(cp n).map (ua es)
def mem_forms{es:Z U}{n:Nat}{d:U}:d∈qk es n↔∃t,t<n/\ua es t=d:=by simp[qk]
def awm{d:U}(h:SgD d):kd d=true:=by obtain⟨r,c,k,rfl,_⟩:=h;rfl
theorem Jr:∀{ds:Z U},(∀d∈ds,SgD d)->vk ds=true
 | [],_=>rfl
 | d::ds,h=>by show(kd d&&vk ds)=true;rw[awm (h d ao),Jr λe he=>h e<|au _ he];rfl
def aup{d e:U}(h:SgD d)(h':SgD e):Cmp d e:=by obtain⟨r,c,k,rfl,_⟩:=h;obtain⟨r',c',k',rfl,_⟩:=h';exact⟨True.intro,True.intro,True.intro,True.intro⟩
theorem JA:∀{ds es:Z U},(∀d∈ds,SgD d)->(∀d∈es,SgD d)->mQ ds es
 | [],_,_,_=>by unfold mQ;exact True.intro
 | d::ds,[],_,_=>by unfold mQ;exact True.intro
 | d::ds,e::es,h,h'=>⟨aup (h d ao)<|h' e ao,JA (λx hx=>h x<|au _ hx) λx hx=>h' x<|au _ hx⟩
theorem yg{ds:Z U}(h:Spots ds):ca ds<=2:=by
 induction ds with
 | nil=>simp[ca]
 | cons d t ih=>
  obtain⟨r,c,x,rfl⟩:=h d (by simp);have:=ih λe he=>h e (by simp[he]);simp[ca,jy];lia
def sv{es:Z U}(h:Zr es)(t:Nat):Zr (ub<|u8 t es):=(h.turned t).perm (ow _)
def ah9{es:Z U}(h:Zr es)(t:Nat):(ua es t).depth<=3:=by have:=yg (sv h t).pre.spots;unfold ua;simp[jy];lia
theorem agv{es:Z U}(h:Zr es)(t:Nat):Cn (ua es t)/\TT (ua es t):=by
 have hd:=ah9 h t;refine⟨⟨Jr (sv h t).pre.sg,⟨_,rfl⟩,by lia⟩,?_⟩;have hp:=(sv h t).pre.pos;have hs:=(sv h t).pre.sg;unfold ua;cases e:ub (u8 t es)with
 | nil=>rw[e]at hp;exact absurd hp (by simp)
 | cons d ds=>
  rw[e]at hs;obtain⟨r,c,k,rfl,_⟩:=hs d ao;exact(l8 _ _ rfl)
def ad9{es ds:Z U}(h:Zr es)(hm:∀d∈ds,∃t,ua es t=d):∀d∈ds,Cn d/\TT d:=λd hd=>by obtain⟨t,rfl⟩:=hm d hd;exact agv h t
def Ko{es ds:Z U}(h:Zr es)(hm:∀d∈ds,∃t,ua es t=d):CmpA ds:=
 ⟨λx hx y hy=>by
  obtain⟨t,rfl⟩:=hm x hx;obtain⟨t',rfl⟩:=hm y hy;exact JA (sv h t).pre.sg (sv h t').pre.sg,λx hx=>by
  obtain⟨t,rfl⟩:=hm x hx;exact(agv h t).1.1⟩
def an9{es:Z U}(h:Zr es)(t:Nat):imm (ua es t)=true:=Spots.imm (sv h t).pre.spots
theorem Kk{es:Z U}(h:Zr es):∀{ds:Z U},(∀d∈ds,∃t,ua es t=d)->o9 ds=true
 | [],_=>rfl
 | d::ds,hm=>by obtain⟨t,rfl⟩:=hm d ao;show(imm (ua es t)&&o9 ds)=true;rw[an9 h t,Kk h λe he=>hm e<|au _ he];rfl
def aa5(es:Z U)(n:Nat):qk es (n+1)=qk es n++[ua es n]:=by unfold qk;rw[jo,bu];rfl
def oz{es:Z U}{n:Nat}:∀d∈qk es n,∃t,ua es t=d:=λd hd=>by obtain⟨t,_,e⟩:=mem_forms.mp hd;exact⟨t,e⟩
def Pre.strict{ds es:Z U}(h:Pre ds)(p:es.Perm ds)(u:es.Pairwise λx y=>ltR y x=false):es.Pairwise lt2:=by
 have hp:=h.perm p;have nd:es.Pairwise λx y=>cl x≠cl y:=gq.mp hp.nd;refine gv (λ{a b} ha hb mD=>?_)<|u.and nd;obtain⟨r,c,k,rfl,_⟩:=hp.sg a ha;obtain⟨r',c',k',rfl,_⟩:=hp.sg b hb;obtain⟨h1,h2⟩:=mD;have fU:pk [.int r',.int c',.str ⟨#[k']⟩] [.int r,.int c,.str ⟨#[k]⟩]=false:=h1;rw[vt,vt]at fU;show r<r'\/r=r'/\c<c';by_cases er:r'=r
 .rw[if_pos er]at fU;right;refine⟨er.symm,?_⟩;by_cases ec:c'=c
  .exfalso;subst er;subst ec;exact h2 rfl
  .rw[if_neg ec]at fU;have:=of_decide_eq_false fU;lia
 .rw[if_neg er]at fU;have:=of_decide_eq_false fU;left;lia
def se{ds:Z U}(h:Spots ds):(ub ds).Pairwise λx y=>ltR y x=false:=by rw[fw];intro i j hi hj cO;exact aha (xn h) (ah hi) (ah hj)<|dg cO
def Pre.sorted{ds es:Z U}(h:Pre ds)(p:es.Perm ds)(u:es.Pairwise λx y=>ltR y x=false):es=ub ds:=
 aau aqr (h.strict p u) (h.strict (ow ds)<|se h.spots) λz=>by rw[p.mem_iff,(ow ds).mem_iff]
noncomputable def ng1:U->U
 | .tuple [.int r,.int c,.str x]=>.tuple [.int r,.int<|-c,.str x]
 | d=>d
noncomputable def nt1:U->U
 | .tuple [.int r,.int c,.str x]=>.tuple [.int c,.int<|-r,.str x]
 | d=>d
noncomputable def uD(i:Nat)(ds:Z U):Z U:=(cp i).foldl (λa _=>a.map nt1) ds
noncomputable def Ie(t:Nat)(ds:Z U):Z U:=uD (t % 4) (if 4<=t then ds.map ng1 else ds)
def wj(i:Nat)(ds:Z U):uD (i+1) ds=(uD i ds).map nt1:=by unfold uD;rw[jo,List.foldl_append];rfl
def ag9{ds:Z U}(h:Spots ds):Spots (ds.map ng1):=λd hd=>by obtain⟨x,hx,rfl⟩:=aw.mp hd;obtain⟨r,c,z,rfl⟩:=h x hx;exact(mz _ _ _ rfl)
def anz{ds:Z U}(h:Spots ds):Spots (ds.map nt1):=λd hd=>by obtain⟨x,hx,rfl⟩:=aw.mp hd;obtain⟨r,c,z,rfl⟩:=h x hx;exact(mz _ _ _ rfl)
theorem uy{ds:Z U}(h:Spots ds):∀i,Spots (uD i ds)
 | 0=>h
 | i+1=>by rw[wj];exact anz<|uy h i
theorem wu(ds:Z U):∀i,(uD i ds).length=ds.length
 | 0=>rfl
 | i+1=>by rw[wj,ae];exact wu ds i
def akp{ns:Z Int}(h:0<ns.length)(m:Int):vy (ns.map λx=>x-m)=vy ns-m:=by
 refine(JE ?_ λa ha=>?_).symm
 .exact aw.mpr ⟨vy ns,vx h,rfl⟩
 .obtain⟨x,hx,rfl⟩:=aw.mp ha;have:=zu x hx;lia
def ajf{ns:Z Int}(h:0<ns.length):qx (ns.map λx=>-x) = -vy ns:=by
 refine(vi ?_ λa ha=>?_).symm
 .exact aw.mpr ⟨vy ns,vx h,rfl⟩
 .obtain⟨x,hx,rfl⟩:=aw.mp ha;have:=zu x hx;lia
def oa{α:Type}{ds:Z U}(h:Spots ds){f g:U->α}(e:∀(r c:Int)(z:Str),f (.tuple [.int r,.int c,.str z])=g (.tuple [.int r,.int c,.str z])):ds.map f=ds.map g:=
 dv λd hd=>by obtain⟨r,c,z,rfl⟩:=h d hd;exact e r c z
def ajg{X:Z U}(h:Spots X)(hp:0<X.length):lD (nw X)=nw (X.map nt1):=by
 have r1:(nw X).map qw=(X.map qw).map λx=>x-qx (X.map qw):=by unfold nw;rw[bm,bm];exact oa h λr c z=>rfl
 have r2:(X.map nt1).map qw=X.map qu:=by rw[bm];exact oa h λr c z=>rfl
 have c2:(X.map nt1).map qu=(X.map qw).map λx=>-x:=by rw[bm,bm];exact oa h λr c z=>rfl
 have mK:0<(X.map qw).length:=by rw[ae];exact hp
 unfold lD;rw[r1,akp mK];unfold nw;rw[r2,c2,ajf mK,bm,bm];refine oa h λr c z=>?_;show PyData.tuple [.int (c-qx (X.map qu)),.int<|vy (X.map qw)-qx (X.map qw)-(r-qx (X.map qw)),.str z]=.tuple [.int (c-qx (X.map qu)),.int<|-r - -vy (X.map qw),.str z];rw[show vy (X.map qw)-qx (X.map qw)-(r-qx (X.map qw)) = -r - -vy (X.map qw) by lia]
def ajc{X:Z U}(h:Spots X)(hp:0<X.length):kN (nw X)=nw (X.map ng1):=by
 have r1:(nw X).map qu=(X.map qu).map λx=>x-qx (X.map qu):=by unfold nw;rw[bm,bm];exact oa h λr c z=>rfl
 have r2:(X.map ng1).map qw=X.map qw:=by rw[bm];exact oa h λr c z=>rfl
 have c2:(X.map ng1).map qu=(X.map qu).map λx=>-x:=by rw[bm,bm];exact oa h λr c z=>rfl
 have mK:0<(X.map qu).length:=by rw[ae];exact hp
 unfold kN;rw[r1,akp mK];unfold nw;rw[r2,c2,ajf mK,bm,bm];refine oa h λr c z=>?_;show PyData.tuple [.int (r-qx (X.map qw)),.int<|vy (X.map qu)-qx (X.map qu)-(c-qx (X.map qu)),.str z]=.tuple [.int (r-qx (X.map qw)),.int<|-c - -vy (X.map qu),.str z];rw[show vy (X.map qu)-qx (X.map qu)-(c-qx (X.map qu)) = -c - -vy (X.map qu) by lia]
def Zr.same{ds:Z U}(h:Zr ds):nw ds=ds:=by
 unfold nw;rw[h.r0,h.c0];have e:ds.map (ym 0 0)=ds.map id:=oa h.pre.spots λr c z=>by show PyData.tuple [.int (r-0),.int<|c-0,.str z]=_;rw[Int.sub_zero,Int.sub_zero];rfl
 rw[e,List.map_id]
theorem xq{X:Z U}(h:Spots X)(hp:0<X.length):∀i,uH i (nw X)=nw (uD i X)
 | 0=>rfl
 | i+1=>by rw[xu,xq h hp i,wj,ajg (uy h i)<|by rw[wu];exact hp]
def Zr.raw{ds:Z U}(h:Zr ds)(t:Nat):nw (Ie t ds)=u8 t ds:=by
 show _=uH (t % 4) (if 4<=t then kN ds else ds);unfold Ie;by_cases h4:4<=t
 .rw[if_pos h4,if_pos h4,<-xq (ag9 h.pre.spots) (by rw[ae];exact h.pre.pos),<-ajc h.pre.spots h.pre.pos,h.same]
 .rw[if_neg h4,if_neg h4,<-xq h.pre.spots h.pre.pos,h.same]
def DE(h:Heap)(d:aF)(es:Array fV)(ep:Nat):Prop:=∃o,h.get? d=some o/\o.ExactDict/\o.data=.dict es ep
def DE.ty{s:aB}{d:aF}{es:Array fV}{ep:Nat}(x:DE s.heap d es ep):s.TypeIs (.ref d) "dict":=by obtain⟨o,h1,h2,_⟩:=x;exact⟨o,h1,h2.1⟩
def DE.on{h h':Heap}{d:aF}{es:Array fV}{ep:Nat}(x:DE h d es ep)(k:∀o,h.get? d=some o->h'.get? d=some o):DE h' d es ep:=by obtain⟨o,h1,h2⟩:=x;exact⟨o,k o h1,h2⟩
section
variable{prog:aK}{w:aP}{A:Around}{E:aA->aB->Prop}{s:aB}{d it:aF}{es:Array fV}{ep i:Nat}
def axj{Q:aA->aB->Prop}(lo:(d==bL)=false)(hm:DE s.heap d es ep)(q:Q (.ref s.heap.objs.size) {s with heap:=s.heap.push {cls:=.type "dict_keyiterator",data:=.fields #[.ref d,.int 0 0,.int es.size 0,.int ep 0]}}):aG (aH prog w) A (kX<|.ref d) Q E s:=by
 have T:=hm.ty;obtain⟨o,ho,_,jW⟩:=id hm;refine AO T F.slot_dict_iter<|cu F.slot_dict_iter T F.entry_dict_iter (ab<|ab<|wpAny_notOrdered_dict T ?_)<|F.args_dict_iter_1 _;refine(af ?_:aG _ _ (aR<|aA.ref d) _ _ s);have sh:Builtin.Dict.showsAll d=aR ():=by unfold Builtin.Dict.showsAll;rw[if_neg (by rw[lo];simp)]
 refine(?_:aG _ _ (Builtin.Dict.showsAll d >>= _) _ _ s);rw[sh];refine ab<|af<|ab<|kA ho jW<|ab<|mJ ho jW<|ab<|cy<|af<|nu _ rfl "dict_keyiterator" _ ⟨⟨_,a6 _ rfl,rfl⟩,jh.lookup,?_⟩;simpa [cE]using q
def al7:Builtin.Dict_items.ownsTuple "dict_keyiterator" = false:=by decide
def ax0{Q:Option aA->aB->Prop}(iV:s.heap.IsKeyIter it d i es.size ep)(hm:DE s.heap d es ep){e:fV}(hx:es[i]?=some e)
  (q:∀h',h'.IsKeyIter it d (i+1) es.size ep->b9 it s.heap h'->Q (some e.key) {s with heap:=h'}):aG (aH prog w) A (bF<|.ref it) Q E s:=by
 have T:=iV.typeIs;obtain⟨o,ho,hc,hd⟩:=id iV;obtain⟨od,Br,_,sN⟩:=id hm;unfold bF;refine ab<|jf<|cg (name:="__next__") T jh<|cu jh T F.entry_dict_keyiterator_next (ab<|af<|ab<|ab<|?_)<|F.args_dict_keyiterator_next_1 _;refine ab<|km T<|af<|ab<|cZ ho hd ?_;rw[if_neg (by rw[al7];simp)];refine(?_:aG _ _ (if (aA.ref d==aA.none)=true then _ else _) _ _ s);rw[if_neg (by intro z;cases z)];refine ab<|af<|ab<|kA Br sN ?_;rw[if_neg (by simp)];refine ab<|af<|ab<|mJ Br sN ?_;rw[if_neg (by simp)];refine af ?_;have nn:¬((i:Int)<0):=by lia
 simp only[nn,if_false,ci,hx];refine ab<|ab<|km T<|af<|ab<|tE T ?_;refine(ab (ip ho hd (by simp) ?_):aG _ _ (uP (.ref it) 1 (cE<|(i:Int)+1) >>= _) _ _ s);have BB:(s.heap.update it<|Obj.mapFields (·.setIfInBounds 1 (cE<|(i:Int)+1))).IsKeyIter it d (i+1) es.size ep:=
  ⟨_,cr _ ho<|Obj.isFreed_of_fields<|k7 hd _,by rw[Obj.cls_mapFields];exact hc,by rw[k7 hd];simp[cE]⟩
 refine ab<|f9<|ab<|tE (s:={s with heap:=_}) BB.typeIs ?_;refine(?_:aG _ _ (aR e.key) _ _ _);refine af<|af ⟨_,rfl,?_⟩;exact af<|q _ BB<|du ..
def ayt{Q:Option aA->aB->Prop}(hh:A.handled=none)(iV:s.heap.IsKeyIter it d es.size es.size ep)(hm:DE s.heap d es ep)
  (q:∀h',j6 it s.heap h'->Q none {s with heap:=h'}):aG (aH prog w) A (bF<|.ref it) Q E s:=by
 have T:=iV.typeIs;obtain⟨o,ho,hc,hd⟩:=id iV;obtain⟨od,Br,_,sN⟩:=id hm;unfold bF;refine ab<|jf<|cg (name:="__next__") T jh<|cu jh T F.entry_dict_keyiterator_next (ab<|af<|ab<|ab<|?_)<|F.args_dict_keyiterator_next_1 _;refine ab<|km T<|af<|ab<|cZ ho hd ?_;rw[if_neg (by rw[al7];simp)];refine(?_:aG _ _ (if (aA.ref d==aA.none)=true then _ else _) _ _ s);rw[if_neg (by intro z;cases z)];refine ab<|af<|ab<|kA Br sN ?_;rw[if_neg (by simp)];refine ab<|af<|ab<|mJ Br sN ?_;rw[if_neg (by simp)];refine af ?_;have nn:¬((es.size:Int)<0):=by lia
 have no:es[es.size]?=none:=kx<|am _;simp only[nn,if_false,ci,no];refine ab<|ab<|km T<|af ?_;refine(ab (ip ho hd (by simp) ?_):aG _ _ (uP (.ref it) 0 .none >>= _) _ _ s);refine(ab ?_:aG _ _ (kZ (.type "StopIteration") [] >>= _) _ _ _);unfold kZ kE;refine ab (cy (ab<|eY (a:=aA.none) rfl<|cy ?_<|by size_fits)<|by size_fits);unfold nS;refine ab<|iZ ?_;rw[show A.in1.handled=none from hh];refine ab<|af<|lG<|ab ?_;refine kj (T:="StopIteration") (b:=true) (⟨_,a6 _ rfl,rfl⟩) eV ?_;exact af<|q _<|((du ..).extBut.push _).push _
def ay9(lo:(d==bL)=false):PySem.W.KdlSrc prog w "dict" d d es.size (λi v=>∃e,es[i]?=some e/\v=e.key) (λh=>DE h d es ep)where
 type:=λ_ hm=>hm.ty
 there:=λ_ ⟨_,h1,_⟩=>⟨bn h1,bn h1⟩
 keep:=λ_ _ hm k=>hm.on (k d<|.inl rfl)
 notList:=by decide
 notTuple:=by decide
 hint:=λ_ _ _ _ hm q=>PySem.W.kdl_hint_dict hm.ty q
 iter:=λA s hh hm=>by
  refine⟨_,λi h=>h.IsKeyIter s.heap.objs.size d i es.size ep/\DE h d es ep,λ_ _ q=>axj lo hm q,?_,⟨_,a6 _ rfl,rfl,rfl⟩,hm.on λo e=>ai _ e⟩;have gW:d≠s.heap.objs.size:=by obtain⟨_,h1,_⟩:=hm;exact dw<|bn h1
  exact{
   sub:=λb hb=>by rw[ar.mp hb];exact ao
   frame:=λ_ _ _ st hk=>⟨st.1.at λo e=>hk _ ao o e,st.2.on λo e=>hk d (au _ ao) o e⟩
   item:=λi s' Q E hi st q=>by refine ax0 st.1 st.2 (bx hi) λh' k sb=>?_;exact q _ h' s'.toks ⟨_,bx hi,rfl⟩ ⟨k,st.2.on λo e=>sb.extBut d o gW e⟩ λb o hb e=>sb.extBut b o (λz=>hb<|by rw[z];exact ao) e
   done:=λs' Q E st q=>ayt hh st.1 st.2 λh' eb=>q h' s'.toks λb o hb e=>eb b o (λz=>hb<|by rw[z];exact ao) e
   self:=λ_ _ _ _ st q=>wpAny_pyIter_keyiter st.1 q}
end
noncomputable def kD:Key->U
 | .inl i=>.int i
 | .inr z=>.str z
noncomputable def kT(k:Z Key):U:=.tuple<|k.map kD
def KOk(k:Z Key):Prop:=∀x∈k,∀z,x=Sum.inr z->k9 z=true
theorem Kf{H:Hp}:∀{k:Z Key},KOk k->RepAll H (k.map kD) (k.map kV)
 | [],_=>rfl
 | .inl i::k,h=>⟨_,_,rfl,rfl,Kf λx hx=>h x<|au _ hx⟩
 | .inr z::k,h=>⟨_,_,rfl,⟨rfl,h _ ao z rfl⟩,Kf λx hx=>h x<|au _ hx⟩
theorem ug:∀{ns:Z Int} {its:Z aA},Vals (ns.map V.int) its->gH its ns
 | [],_,.nil=>.nil
 | n::ns,_,.cons ⟨t,e⟩ r=>by subst e;exact .cons _ _<|ug r
section
variable{X:Cx}
def ayw(K:av):V->Z V->Hp->VK->Prop:=λx vs H Q=>∃(l:aF)(ns:Z Int)(k:Int),x=.ref l/\vs=[.int k]/\SqL K H l (ns.map V.int)/\Q (.int (ns.count k:Nat)) H
def am3:MtR X "list.count" (ayw X.K):=by intro aC s σ H x vs v us Q I rx rv h;obtain⟨l,ns,k,rfl,rfl,hl,q⟩:=h;cases rx;obtain⟨u,rfl,t,rfl⟩:=rv.one;obtain⟨its,r,pl,hz⟩:=I.list hl;exact count_list_ints pl.isList (ug r)<|l8 (.int _) H ⟨I.tok _,⟨_,rfl⟩,q⟩
def awv(K:av):R2:=λx y H Q=>∃a b xs ys,x=.ref a/\y=.ref b/\SqT K H a xs/\SqT K H b ys/\xs.length+ys.length<=aE/\
 (xs=[]->Q (.ref b) H)/\(xs≠[]->ys=[]->Q (.ref a) H)/\(xs≠[]->ys≠[]->∀p,H p=none->Q (.ref p) (upd H p<|.tup<|xs++ys))
def apg:OpR X (cP .Add) (awv X.K):=by
 intro aC s σ H x y v u Q I rx ry h;obtain⟨a,b,xs,ys,rfl,rfl,ha,hb,hz,q0,q1,q2⟩:=h;cases rx;cases ry;obtain⟨its,r1,p1,_⟩:=I.tuple ha;obtain⟨jC,r2,p2,_⟩:=I.tuple hb;by_cases hx:xs=[]
 .have hv:its=[]:=r1.nil_iff.mpr hx;obtain⟨⟨cls,dd,data,sl⟩,ho,hc,n,hd⟩:=p1;obtain⟨⟨Cd,vQ,data2,uO⟩,xH,jX,n2,jE⟩:=p2;simp only at hc hd jX jE;subst hc hd jX jE;exact sO ⟨_,ho,rfl⟩ ⟨_,xH,rfl⟩ kY pL PySem.F.slot_tuple_add PySem.F.entry_tuple_add (PySem.F.args_tuple_add_2 _ _)
   (tuple_addW0 a b its.toArray jC.toArray n n2 dd vQ sl uO<|by simp[hv]) ⟨ho,xH,(l8 (.ref b) H ⟨I,rfl,q0 hx⟩)⟩
 .refine HT.cat_tup p1 p2 (λz=>hx<|r1.nil_iff.mp z) (λz=>(l8 (.ref a) H ⟨I,rfl,q1 hx<|r2.nil_iff.mp z⟩)) (λz=>?_) (by rw[<-r1.length,<-r2.length];exact hz);refine(l8 (.ref s.heap.objs.size) _ ⟨I.laid (t':=s.toks) (o:=.tup<|xs++ys) (λb ob q=>ai _ q) (am _) ?_,rfl,q2 hx (λe=>z<|r2.nil_iff.mpr e) _<|I.hok.fresh<|am _⟩);exact⟨by rw[be];exact hz,_,r1.append r2,oP.new _ _⟩
def ax3:R2:=λx y H Q=>∃a b xs ys,x=.ref a/\y=.ref b/\H a=some (.tup xs)/\H b=some (.tup ys)/\xs.length+ys.length<=aE/\∀c H',Same H H'->H' c=some (.tup<|xs++ys)->Q (.ref c) H'
def apz:OpR X (cP .Add) ax3:=by
 intro aC s σ H x y v u Q I rx ry h;obtain⟨a,b,xs,ys,rfl,rfl,ha,hb,hz,q⟩:=h;refine apg aC s σ H _ _ v u Q I rx ry<|mf a b xs ys ⟨rfl,rfl,SqT.of ha,SqT.of hb,hz,λe=>?_,λ_ e=>?_,λ_ _ p hp=>?_⟩
 .subst e;exact q b H (Same.refl _) hb
 .subst e;exact q a H (Same.refl _)<|by rw[ff];exact ha
 .exact q p _ (Same.fresh _ hp) l9
def av3:V->Option Int->Option Int->Hp->VK->Prop:=λx lo hi H Q=>∃a xs,x=.ref a/\H a=some (.tup xs)/\∀c H',Same H H'->H' c=some (.tup<|kO xs lo hi)->Q (.ref c) H'
def akx:SlR X av3:=by
 intro aC s σ H x v vl vu lo hi sl Q I rx hs pl pu h;obtain⟨a,xs,rfl,ha,q⟩:=h;refine aqp aC s σ H _ v vl vu lo hi sl Q I rx hs pl pu<|l8 a xs ⟨rfl,SqT.of ha,λe=>?_,λ_ p hp=>?_⟩
 .refine q a H (Same.refl _) ?_;have:kO xs lo hi=xs:=by unfold kO;rw[e.1,e.2];simp
  rw[this];exact ha
 .exact q p _ (Same.fresh _ hp) l9
end
noncomputable def ltX:U->U->Bool
 | .str a,.str b=>decide (a.cps.toList<b.cps.toList)
 | _,_=>false
def ayq{ds:Z U}(h:∀d∈ds,∃z,d=.str z):vW ltX ds:=⟨λx hx y hy q=>by
  obtain⟨a,rfl⟩:=h x hx;obtain⟨b,rfl⟩:=h y hy;exact decide_eq_false<|List.lt_asymm<|of_decide_eq_true q,λx hx y hy z hz q1 q2=>by
  obtain⟨a,rfl⟩:=h x hx;obtain⟨b,rfl⟩:=h y hy;obtain⟨c,rfl⟩:=h z hz;have h1:a.cps.toList<=b.cps.toList:=of_decide_eq_false q1;have h2:b.cps.toList<=c.cps.toList:=of_decide_eq_false q2;exact decide_eq_false<|List.le_trans h1 h2⟩
section
variable{X:Cx}
def yn:tz X (.builtin "sorted") (λvs H Q=>∃p xs ds,vs=[.ref p]/\H p=some (.lst xs)/\RepAll H ds xs/\(∀d∈ds,∃z,d=.str z)/\
  ∀l ys es,H l=none->es.Perm ds->es.Pairwise (λx y=>ltX y x=false)->RepAll (upd H l<|.lst ys) es ys->Q (.ref l) (upd H l<|.lst ys)):=by
 intro aC s σ H xs us Q I r h;obtain⟨p,xs,ds,rfl,hp,dJ,Bh,q⟩:=h;obtain⟨u,rfl,r1⟩:=wm r;cases (show u=aA.ref p from r1);obtain⟨its,rv,pl,hz⟩:=I.list<|SqL.of (K:=X.K) hp;have l1:xs.length=ds.length:=dJ.length;have l2:xs.length=its.length:=rv.length;have iQ:∀(i:Nat)(d:U)(u:aA),ds[i]?=some d->its[i]?=some u->∃z t,d=.str z/\u=.str z t:=λi d u hd hu=>by obtain⟨x,e1,e2⟩:=dJ.get hd;obtain⟨u',e3,e4⟩:=rv.get e1;rw[hu]at e3;cases e3;obtain⟨z,rfl⟩:=Bh d<|ak hd;obtain⟨rfl,_⟩:=e2;obtain⟨t,rfl⟩:=e4;exact⟨z,t,rfl,rfl⟩
 refine abx (κ:=oneType') (lt:=ltX) I dJ rv (by lia) (ak1 pl.isList<|by lia) (ayq Bh) (λh2 s' k Q' E' hq=>?_) (λs' k i j d e u v ui di vj dj Q' hq=>?_) q
 .refine PySem.W.kas_kind (T:=aA.type "str") h2 (λv hv=>?_) (by decide) rfl hq;obtain⟨i,hi⟩:=eu.mp hv;obtain⟨z,t,_,rfl⟩:=iQ i _ v (ah<|by have:=(aj.mp hi).1;lia) hi;exact PySem.W.Looks.of_pure rfl
 .obtain⟨z,t,rfl,rfl⟩:=iQ i d u di ui;obtain⟨z',t',rfl,rfl⟩:=iQ j e v dj vj;exact PySem.W.kas_lt_str hq
end
def au4(X:Cx)(i:Nat)(t:TA):TE:=λσ H Q=>∃f k fd ps sp,σ[i]?=some (some<|.ref f)/\qm X.prog X.w X.K X.mg X.base CX0 k f fd ps sp/\Room k X.A/\kq X.K (.ref f)=true/\Binds X.K fd ps []/\t σ H λvs H1=>sp vs H1 Q E0
section
variable{X:Cx}{x:Str}{p pos:dU}{e:Expr}{es:Z Expr}{t:TA}{i:Nat}
def atk(hN:X.N[i]?=some x)(hv:Vis X.env.scope x)(ha:PA X (e::es) t)(hd:(x==("__debug__" : Str))=false:=by decide)(oF:(x==("__classdict__" : Str))=false:=by decide)(h1:nr e=true:=by rfl)(h2:es.all nr=true:=by rfl) :
  PE X (.Call (.Name x p) (e::es) [] pos) (au4 X i t):=by
 intro aC s σ H Q I h;obtain⟨f,k,fd,ps,sp,e1,F,hr,hk,hb,q⟩:=h;refine jt<|thn (aor (pos:=p) hN hv hd oF aC s σ H (λv H1=>v=.ref f/\H1=H) I ⟨_,e1,rfl,rfl⟩) λu s1 ⟨v,H1,I1,r,ev,eH⟩=>?_;subst ev eH;cases (show u=aA.ref f from r);refine PySem.W.callWith_K (h₀:=X.base) I1.ok.mod.kin hk (thn (ha pos aC s1 σ _ _ I1 q) λus s2 ⟨vs,H2,I2,r2,q2⟩=>⟨I2.kIn,?_⟩) (oq h1)<|sf h2;exact apd F hr hb .nil aud I2 r2<|by rw[ff];exact q2
end
section
variable{X:Cx}
def axb:V->Z V->Hp->VK->Prop:=λx vs H Q=>∃(l:aF)(xs:Z V)(v:V)(ds:Z U)(d:U),x=.ref l/\vs=[v]/\H l=some (.lst xs)/\RepAll H ds xs/\Rep H d v/\d.depth<=50/\Q (.int (ds.countP (λe=>bo e d):Nat)) H
theorem ajs(hu:X.A.units+64<bH):MtR X "list.count" axb:=by
 intro aC s σ H x vs v us Q I rx rv h;obtain⟨l,xs,v',ds,d,rfl,rfl,hl,rep,rd,xP,q⟩:=h;cases rx;obtain⟨u,rfl,ru⟩:=rv.one;obtain⟨bs,r2⟩:=rd.reads I ru;obtain⟨as,r1⟩:=Rep.reads I (d:=.list ds) (v:=.ref l) (u:=.ref l) (l8 l xs ⟨rfl,hl,rep⟩) rfl;have kP:X.A.units+1+hX (ca ds) d.depth<bH:=by have:=Nat.min_le_right (ca ds) d.depth;lia
 cases r1 with
 | @list _ o vs n _ as' h1 h2 h3 h4=>
  obtain⟨cls,dd,data,sl⟩:=o;simp only at h2 h3;subst h2 h3;refine jN PySem.F.slot_list_count ⟨_,h1,rfl⟩ PySem.F.entry_list_count (PySem.F.args_list_count_2 _ _) (SeqAt.list_countAt l vs n dd sl u λy=>bo (SeqAt.readOf s.heap y) d) ⟨h1,λy hy=>?_,?_⟩
  .exact SeqAt.items_eqAt h4 r2 rep.lay rd.lay kP y hy
  .have e:vs.toList.countP (λy=>bo (SeqAt.readOf s.heap y) d)=ds.countP λe=>bo e d:=by
    rw[<-SeqAt.readsAll_map ds _ _ rep.lay h4,List.countP_map];rfl
   rw[e];exact l8 (.int _) H ⟨I.tok _,⟨_,rfl⟩,q⟩
end
section
variable{X:Cx}{aC:Z (aF×Obj)}{s:aB}{σ:L2.St}{H:Hp}
theorem aca(hc:X.calm=true):tz X (.builtin "sorted") (λvs H Q=>∃a kvs ks,vs=[.ref a]/\H a=some (.dT kvs)/\(∀kv∈kvs,KOk kv.1)/\Rows ks (kvs.map λkv=>kT kv.1)/\kvs.length<=4000/\
  ∀l ys es,H l=none->es.Perm (kvs.map λkv=>kT kv.1)->es.Pairwise (λx y=>ltR y x=false)->(kvs.map (·.1)).Nodup->RepAll (upd H l<|.lst ys) es ys->Q (.ref l) (upd H l<|.lst ys)):=by
 intro aC s σ H xs us Q I r h;obtain⟨a,kvs,ks,rfl,ha,hko,fT,h4,q⟩:=h;obtain⟨u,rfl,r1⟩:=wm r;cases (show u=aA.ref a from r1);obtain⟨hz,lo,xs,kt,o,es,ep,ho,jT,jW,BH,_,kI⟩:=asl I.hok ha;have pl:∀{l:Z (Z Key×V)} {m:Z (Z Key×aF×aA)},KT H l m->(∀kv∈l,KOk kv.1)->RepAll H (l.map λkv=>kT kv.1) (m.map λx=>V.ref x.2.1)/\Vals (m.map λx=>V.ref x.2.1) (m.map λx=>aA.ref x.2.1)/\m.length=l.length:=by
  intro l m k;induction k with
  | nil=>intro _;exact⟨rfl,.nil,rfl⟩
  | @cons p q ps qs hq t ih=>
   intro hk;obtain⟨i1,i2,i3⟩:=ih λkv jS=>hk kv<|au _ jS;exact⟨⟨_,_,rfl,⟨_,_,rfl,hq.2.1,Kf<|hk p ao⟩,i1⟩,.cons rfl i2,by rw[b7,b7,i3]⟩
 obtain⟨dJ,rv,lx⟩:=pl kt hko;have ek:∀{l:Z (Z Key×V)} {m:Z (Z Key×aF×aA)},KT H l m->l.map (·.1)=m.map (·.1):=by
  intro l m k;induction k with
  | nil=>rfl
  | @cons p q ps qs hq t ih=>rw[dq,dq,ih,hq.1]
 rw[<-ek kt]at kI;generalize hys:(xs.map λx=>V.ref x.2.1)=ys at *;generalize sN:(kvs.map λkv=>kT kv.1)=ds at *;have bD:ds.length=kvs.length:=by rw[<-sN,ae]
 have sF:es.toList.map (·.key)=xs.map λx=>aA.ref x.2.1:=by rw[BH,bm];rfl
 generalize (xs.map λx=>aA.ref x.2.1)=its at *;have esz:es.size=kvs.length:=by rw[<-a8,BH,ae,lx]
 have:=dJ.length;refine aaj I dJ rv fT (by lia) (λQ' E' hq=>PySem.W.kdu_collect (A:=X.A.in1) (ay9 lo) (I.ok.hd hc) ⟨o,ho,jT,jW⟩ (by rw[cD];lia) λh1 tk acc k1 BU=>?_) λl ys es hl pe up re=>q l ys es hl pe up kI re;have HD:acc.toList=its:=by
  rw[<-sF];apply List.ext_getElem?;intro i;rw[bz,bj,bj];by_cases hi:i<acc.size
  .obtain⟨e,e1,e2⟩:=BU.2 i _<|bx hi;rw[e1,bx hi,e2];rfl
  .rw[kx (by lia),kx<|by have:=BU.1;lia];rfl
 rw[HD];exact hq h1 tk k1
end
section
variable{X:Cx}
def awk:V->Z V->Hp->VK->Prop:=λx vs H Q=>∃(l:aF)(xs:Z V)(v:V)(ds:Z U)(d:U)(j:Nat),x=.ref l/\vs=[v]/\H l=some (.lst xs)/\RepAll H ds xs/\Rep H d v/\d.depth<=50/\(∃e,ds[j]?=some e/\bo e d=true)/\(∀m e,m<j->ds[m]?=some e->bo e d=false)/\j<1000/\Q (.int (j:Nat)) H
theorem ak8(hu:X.A.units+64<bH):MtR X "list.index" awk:=by
 intro aC s σ H x vs v us Q I rx rv h;obtain⟨l,xs,v',ds,d,j,rfl,rfl,hl,rep,rd,xP,⟨e,he,hq⟩,vC,hj,q⟩:=h;cases rx;obtain⟨u,rfl,ru⟩:=rv.one;obtain⟨bs,r2⟩:=rd.reads I ru;obtain⟨as,r1⟩:=Rep.reads I (d:=.list ds) (v:=.ref l) (u:=.ref l) (l8 l xs ⟨rfl,hl,rep⟩) rfl;have kP:X.A.units+1+hX (ca ds) d.depth<bH:=by have:=Nat.min_le_right (ca ds) d.depth;lia
 cases r1 with
 | @list _ o vs n _ as' h1 h2 h3 h4=>
  obtain⟨cls,dd,data,sl⟩:=o;simp only at h2 h3;subst h2 h3;have em:vs.toList.map (SeqAt.readOf s.heap)=ds:=SeqAt.readsAll_map ds _ _ rep.lay h4;have bS:∀m (hm:m<vs.size),ds[m]?=some (SeqAt.readOf s.heap vs[m]):=λm hm=>by rw[<-em,bz,ah<|by simpa using hm];simp
  have pP:j<vs.size:=by have:=(aj.mp he).1;rw[<-em,ae]at this;simpa using this
  refine jN PySem.F.slot_list_index ⟨_,h1,rfl⟩ PySem.F.entry_list_index (PySem.F.args_list_index_2 _ _) (SeqAt.list_indexAt l vs n dd sl u (λy=>bo (SeqAt.readOf s.heap y) d) j pP (by lia) ?_ ?_) ⟨h1,λy hy=>?_,?_⟩
  .have:=bS j pP;rw[he]at this;cases this;exact hq
  .intro m hm bQ;exact vC m _ bQ<|bS m hm
  .exact SeqAt.items_eqAt h4 r2 rep.lay rd.lay kP y hy
  .exact l8 (.int _) H ⟨I.tok _,⟨_,rfl⟩,q⟩
def ayz:R2:=λx y H Q=>∃(p q:aF)(xs:Z V),x=.ref p/\y=.ref q/\H p=some (.lst xs)/\H q=some (.lst [])/\Q (.bl xs.isEmpty) H
theorem auo(hu:X.A.units+64<bH):OpR X (aU .Eq) ayz:=by
 intro aC s σ H x y v u Q I rx ry h;obtain⟨p,q',xs,rfl,rfl,hp,hq,q⟩:=h;cases rx;cases ry;obtain⟨its,r1,l1,_⟩:=I.list<|SqL.of (K:=X.K) hp;obtain⟨jC,r2,l2,_⟩:=I.list<|SqL.of (K:=X.K) hq;have e2:jC=[]:=kh.mp r2.length.symm;subst e2;have hl:=r1.length;cases xs with
 | nil=>
  have e1:its=[]:=kh.mp r1.length.symm;subst e1;exact SeqAt.RcAt.lists (e:=λ_=>true) l1.isList l2.isList rfl (by lia) (λj h1 h2=>absurd h1<|by simp) X.prog X.w X.xe _ (l8 (.bl _) H ⟨I,rfl,q⟩)
 | cons x t=>
  refine SeqAt.RcAt.lists_lengths l1.isList l2.isList ?_ (by lia) X.prog X.w X.xe _<|l8 (.bl _) H ⟨I,rfl,q⟩;rw[a7,<-hl];simp
end
end L3
namespace K17
open PySem PyProof.Rows L2 L3
noncomputable def top(i:Nat):aY:=PySem.Challenge.pw_coverpieces_k17_whole_judged_side_by_sid.main.body.getD i<|.Pass ⟨0,0,0,0⟩
noncomputable abbrev Ix:aY:=top 1
noncomputable abbrev Jn:aY:=top 2
noncomputable abbrev sTd:aY:=top 5
noncomputable abbrev HQ:aY:=top 6
noncomputable abbrev sTr:aY:=top 7
noncomputable abbrev Jh:aY:=top 8
noncomputable abbrev sAt:aY:=top 12
noncomputable abbrev IY:aY:=top 13
noncomputable abbrev IQ:aY:=top 14
noncomputable abbrev IX:aY:=top 15
noncomputable abbrev sOc:aY:=top 16
noncomputable abbrev Jp:aY:=top 17
noncomputable abbrev Ia:aY:=top 19
noncomputable abbrev Iq:aY:=top 20
noncomputable abbrev HV:aY:=top 21
noncomputable abbrev HZ:aY:=top 22
noncomputable abbrev Im:aY:=top 23
noncomputable abbrev Ip:aY:=top 25
noncomputable abbrev Ij:aY:=top 27
noncomputable abbrev HP:aY:=top 28
noncomputable abbrev Ig:aY:=top 29
noncomputable abbrev Iw:aY:=top 30
noncomputable abbrev Iy:aY:=top 31
noncomputable abbrev HU:aY:=top 32
noncomputable abbrev HL:aY:=top 33
noncomputable abbrev HX:aY:=top 34
noncomputable abbrev HY:aY:=top 36
noncomputable abbrev II:aY:=top 38
noncomputable abbrev Ib:aY:=top 39
noncomputable abbrev JX:aY:=top 40
noncomputable abbrev sLt:aY:=top 41
noncomputable abbrev JJ:aY:=top 42
noncomputable abbrev IP:aY:=top 43
noncomputable abbrev Iu:aY:=top 44
noncomputable abbrev Jo:aY:=top 45
noncomputable abbrev Ih:aY:=top 46
noncomputable abbrev sLy:aY:=top 47
noncomputable abbrev IE:aY:=top 48
noncomputable abbrev Ik:aY:=top 49
noncomputable abbrev IB:aY:=top 50
noncomputable abbrev An:aY:=top 51
noncomputable def sk:Z Str:=["len","min","max","sorted","tuple","list","isinstance","bool","range","str","int","enumerate","all","set","zip","reversed"]
def al{H H':Hp}{a:aF}{o:HO}(h:H a=none)(g:upd H a o=H'):Same H H'/\H' a=some o:=by subst g;exact⟨Same.fresh _ h,l9⟩
section
variable{X:Cx}{p pos jA:dU}{e tg:Expr}{es eL:Z Expr}{t:TA}{x1:Nat}
def pCB{x:Str}{id:String}{r:Z V->Hp->VK->Prop}(hc:tz X (.builtin id) r)(hv:bO x=some (.builtin id))(ha:PA X (e::es) t)(hB:∀x∈sk,X.mg x=none:=by assumption)(hx:x∈sk:=by decide)(hg:Gl X x:=by rfl)(hn:x≠"__name__":=by decide)(lX:(x==("__debug__" : Str))=false:=by decide)(h1:nr e=true:=by rfl)(h2:es.all nr=true:=by rfl):PE X (.Call (.Name x p) (e::es) [] pos) (tCB r t):=axk hc hg (hB x hx) hv ha hn lX h1 h2
def pCT{x:Str}{T:String}{r:Z V->Hp->VK->Prop}(hc:tz X (.type T) r)(hv:bO x=some (.type T))(ha:PA X (e::es) t)(hB:∀x∈sk,X.mg x=none:=by assumption)(hx:x∈sk:=by decide)(hg:Gl X x:=by rfl)(hn:x≠"__name__":=by decide)(lX:(x==("__debug__" : Str))=false:=by decide)(h1:nr e=true:=by rfl)(h2:es.all nr=true:=by rfl):PE X (.Call (.Name x p) (e::es) [] pos) (tCB r t):=aw4 hc hg (hB x hx) hv ha hn lX h1 h2
def pR1(ha:PA X [e] t)(hB:∀x∈sk,X.mg x=none:=by assumption)(hg:Gl X "range":=by rfl)(h:nr e=true:=by rfl):PI X tg (.Call (.Name "range" p) [e] [] pos) (IT t):=awy hg (hB "range"<|by decide) ha h
def pEL(ha:PA X [e] t)(hB:∀x∈sk,X.mg x=none:=by assumption)(hg:Gl X "enumerate":=by rfl)(h:nr e=true:=by rfl):PI X (.Tuple eL x1 jA) (.Call (.Name "enumerate" p) [e] [] pos) (aye X.K t):=auk hg (hB "enumerate"<|by decide) ha h
def pET(ha:PA X [e] t)(hB:∀x∈sk,X.mg x=none:=by assumption)(hg:Gl X "enumerate":=by rfl)(h:nr e=true:=by rfl):PI X (.Tuple eL x1 jA) (.Call (.Name "enumerate" p) [e] [] pos) (ax7 X.K t):=avj hg (hB "enumerate"<|by decide) ha h
def pES(ha:PA X [e] t)(hB:∀x∈sk,X.mg x=none:=by assumption)(hg:Gl X "enumerate":=by rfl)(h:nr e=true:=by rfl):PI X (.Tuple eL x1 jA) (.Call (.Name "enumerate" p) [e] [] pos) (ayk t):=atc hg (hB "enumerate"<|by decide) ha h
end
noncomputable abbrev AZ:Str:=bh "ABCDEFGHIJKLMNOPQRSTUVWXYZ"
def ato{i:Nat}(h:i<26):AZ.cps.toList[i]?=some (65+i):=by
 have:∀i<26,AZ.cps.toList[i]?=some (65+i):=by decide +kernel
 exact this i h
def txL{z:Str}(h:z.length<=80/\z.cps.toList.all (· < 128)=true):Tx z:=⟨h.1,λc hc=>by simpa using List.all_eq_true.mp h.2 c hc⟩
def aiw{z:Str}(h:Tx z):z.length<=aE:=dg (mm<|by have:=h.1;lia)
def Ltr(c:Nat):Prop:=65<=c/\c<=90
noncomputable def nB(cs:Z Nat):Z V:=cs.map λc=>V.str ⟨#[c]⟩
noncomputable abbrev az:Str:=bh "abcdefghijklmnopqrstuvwxyz"
def aum{i:Nat}(h:i<26):az.cps.toList[i]?=some (97+i):=by
 have:∀i<26,az.cps.toList[i]?=some (97+i):=by decide +kernel
 exact this i h
section
variable{P:aK}{w:aP}{K:av}{mg:Str->Option aA}{base:Heap}{f:aF}{fd:cH}
def EG(g:Z U->Z U):Sp:=λvs H Q _=>∃(a:aF)(xs:Z V)(ds:Z U),vs=[.ref a]/\H a=some (.lst xs)/\RepAll H ds xs/\Spots ds/\0<ds.length/\ds.length<=64/\
 ∀(D:aF)(ys:Z V)(H':Hp),Same H H'->H' D=some (.lst ys)->RepAll H' (g ds) ys->Q (.ref D) H'
def scMir:mj ["spots","last"] ["spots"] (l0 HQ):={}
def scTr:mj ["spots","last"] ["spots"] (l0 sTr):={}
def azc(m:Int)(r c:Int)(z:Str)(H':Hp)(Q':VK)(h:∃u v:Int,Ai m (.tuple [.int r,.int c,.str z])=.tuple [.int u,.int v,.str z]/\∀n,H' n=none->Q' (.ref n) (upd H' n<|.tup [.int u,.int v,.str z])) :
  Ck (vf (mG 0)<|vf (tOp (rI0 λi j=>.int<|i-j) (mG 3)<|mG 1)<|vf (mG 2) Al) [some (.int r),some<|.int c,some<|.str z,some<|.int m] H' Q':=by
 obtain⟨u,v,e,q⟩:=h;cases (show PyData.tuple [.int r,.int<|m-c,.str z]=.tuple [.int u,.int v,.str z]from e);exact(pf _ rfl _ rfl _ rfl _ _ ⟨rfl,rfl,_,rfl,sZ3,q⟩)
def ay4(m:Int)(r c:Int)(z:Str)(H':Hp)(Q':VK)(h:∃u v:Int,Ah m (.tuple [.int r,.int c,.str z])=.tuple [.int u,.int v,.str z]/\∀n,H' n=none->Q' (.ref n) (upd H' n<|.tup [.int u,.int v,.str z])) :
  Ck (vf (mG 1)<|vf (tOp (rI0 λi j=>.int<|i-j) (mG 3)<|mG 0)<|vf (mG 2) Al) [some (.int r),some<|.int c,some<|.str z,some<|.int m] H' Q':=by
 obtain⟨u,v,e,q⟩:=h;cases (show PyData.tuple [.int c,.int<|m-r,.str z]=.tuple [.int u,.int v,.str z]from e);exact(pf _ rfl _ rfl _ rfl _ _ ⟨rfl,rfl,_,rfl,sZ3,q⟩)
def avd(B:∀x∈sk,mg x=none)(F:Fun K "mirrored" "mirrored" HQ f fd):qm P w K mg base CX0 1 f fd ["spots"] (EG kN):=by
 refine F.ok (k:=0) scMir (λvs H Q E h=>?_) λbW A outer s H vs Q E hr h=>?_
 .obtain⟨a,xs,ds,rfl,_⟩:=h;rfl
 obtain⟨a,xs,ds,rfl,ha,kR,hs,hpos,pE,q⟩:=h;refine⟨_,(lg (wz (i:=1) scMir.nd rfl (Or.inr rfl)<|aks rfl rfl (B "max"<|by decide) (lj (pcm ["spot"] [none] (o7<|pv 0) (λ_=>(pgC 0)) (λ_=>om) λ_=>(pix xk (pv 0) lh)) lc)<|ak0 lh ao0)
  (lq<|mr<|pcm ["row","column","sign","last"] [none,none,none,some 1] (o7<|pv 0) (λ_=>(ph (n:=3) rfl<|ln (pgC 0)<|ln (pgC 1)<|ln (pgC 2) ni)) (λ_=>om) λ_=>(my<|lj (pv 0)<|lj (nj AE (pv 3)<|pv 1)<|lj (pv 2) lc))),?_⟩
 refine abt 1 qu ave rfl ha kR hs pE λD1 H1 s1 rM=>?_;refine⟨rfl,(l8 D1 _ ⟨rfl,rM,by rw[ae];exact hpos,λM1 m1 A8=>?_⟩)⟩;have em:=JE m1 A8;refine aet Ai rfl rfl (s1 _ _ ha) (kR.same s1) hs pE (azc M1) (λD ys H' hD s2 bJ rep=>q D ys H' (s1.trans s2) bJ<|by unfold kN;rw[<-em];exact rep) λr c z=>(l8 _ _ rfl)
def axt(B:∀x∈sk,mg x=none)(F:Fun K "turned_right" "turned_right" sTr f fd):qm P w K mg base CX0 1 f fd ["spots"] (EG lD):=by
 refine F.ok (k:=0) scTr (λvs H Q E h=>?_) λbW A outer s H vs Q E hr h=>?_
 .obtain⟨a,xs,ds,rfl,_⟩:=h;rfl
 obtain⟨a,xs,ds,rfl,ha,kR,hs,hpos,pE,q⟩:=h;refine⟨_,(lg (wz (i:=1) scTr.nd rfl (Or.inr rfl)<|aks rfl rfl (B "max"<|by decide) (lj (pcm ["spot"] [none] (o7<|pv 0) (λ_=>(pgC 0)) (λ_=>om) λ_=>(pix xk (pv 0) lh)) lc)<|ak0 lh ao0)
  (lq<|mr<|pcm ["row","column","sign","last"] [none,none,none,some 1] (o7<|pv 0) (λ_=>(ph (n:=3) rfl<|ln (pgC 0)<|ln (pgC 1)<|ln (pgC 2) ni)) (λ_=>om) λ_=>(my<|lj (pv 1)<|lj (nj AE (pv 3)<|pv 0)<|lj (pv 2) lc))),?_⟩
 refine abt 0 qw asv rfl ha kR hs pE λD1 H1 s1 rM=>?_;refine⟨rfl,(l8 D1 _ ⟨rfl,rM,by rw[ae];exact hpos,λM1 m1 A8=>?_⟩)⟩;have em:=JE m1 A8;refine aet Ah rfl rfl (s1 _ _ ha) (kR.same s1) hs pE (ay4 M1) (λD ys H' hD s2 bJ rep=>q D ys H' (s1.trans s2) bJ<|by unfold lD;rw[<-em];exact rep) λr c z=>(l8 _ _ rfl)
noncomputable def iter(i:Nat)(ds:Z U):Z U:=(cp i).foldl (λa _=>lD a) ds
def Kl(i:Nat)(ds:Z U):iter (i+1) ds=lD (iter i ds):=by unfold iter;rw[jo,List.foldl_append];rfl
def ayi:Sp:=λvs H Q _=>∃(a:aF)(t:Nat)(xs:Z V)(ds:Z U),vs=[.ref a,.int (t:Nat)]/\(H a=some (.lst xs)\/H a=some (.tup xs))/\RepAll H ds xs/\Spots ds/\0<ds.length/\ds.length<=64/\t<8/\
 ∀(r:aF)(H':Hp)(es:Z U),Same H H'->es.Perm (u8 t ds)->es.Pairwise (λx y=>ltR y x=false)->Rep H' (.tuple es) (.ref r)->Q (.ref r) H'
def scTd:mj ["form","t","spots","step"] ["form","t"] (l0 sTd):={}
def av8(B:∀x∈sk,mg x=none)(KB:Fn P w K mg base "mirrored" 1 ["spots"] (EG kN))(Ftr:Fn P w K mg base "turned_right" 1 ["spots"] (EG lD))(F:Fun K "turned" "turned" sTd f fd):qm P w K mg base CX0 2 f fd ["form","t"] ayi:=by
 refine F.ok (k:=1) scTd (λvs H Q E h=>?_) λbW A outer s H vs Q E hr h=>?_
 .obtain⟨a,t,xs,ds,rfl,_⟩:=h;rfl
 obtain⟨a,t,ys,ds,rfl,ha,FE,Bm,hpos,pE,ht,q⟩:=h;refine⟨_,(lg (psN 2 scTd.nd<|pCT ut Et<|lj (pv 0) lc)
  (lg (rg (nv aub (pv 1) lh<|oh _) (lq<|psN 2 scTd.nd<|pfn KB<|lj (pv 2) lc) o0)
  (lg (pfo (pR1<|lj (nj u9 (pv 1) lh) lc) (pgN 3 scTd.nd)<|lq<|psN 2 scTd.nd<|pfn Ftr<|lj (pv 2) lc)
  (lq<|mr<|pCT m7 ku<|lj (pCB yt fK<|lj (pv 2) lc) lc)))),?_⟩
 refine(nu _ rfl a ys ⟨rfl,ha.imp SqL.of SqT.of,λD vK=>?_⟩);have sm:Same H (upd H D<|.lst ys):=Same.fresh _ vK;have bJ:upd H D (.lst ys) D=some (.lst ys):=l9;have rep:=FE.same sm;generalize upd H D (.lst ys)=H2 at *;refine(ng _ rfl _ _ rfl rfl _ ⟨rfl,?_⟩);refine sr (λh4=>?ga) λh4=>?gb
 case' ga=>
  have yC:4<=t:=by have:(t:Int)>=4:=of_decide_eq_true h4
                   lia
  refine(oj _ rfl D ys ds ⟨rfl,bJ,rep,Bm,hpos,pE,λD ys H3 s3 bJ rep=>?_⟩)
  replace sm:=sm.trans s3
  obtain⟨iX,e1⟩:∃d,d=(if 4<=t then kN ds else ds):=⟨_,rfl⟩;have e2:iX=kN ds:=by rw[e1,if_pos yC]
  rw[<-e2]at rep;have yZ:Spots iX:=by rw[e2];exact ai0 Bm _
  have l1:iX.length=ds.length:=by rw[e2];simp[kN]
  generalize H3=H2 at *
 case' gb=>
  have yC:¬4<=t:=by have:¬(t:Int)>=4:=by simpa using h4
                    lia
  obtain⟨iX,e1⟩:∃d,d=(if 4<=t then kN ds else ds):=⟨_,rfl⟩;have e2:iX=ds:=by rw[e1,if_neg yC]
  rw[<-e2]at rep;have yZ:Spots iX:=by rw[e2];exact Bm
  have l1:iX.length=ds.length:=by rw[e2]
 all_goals
  refine(uw _ rfl _ _ rfl rfl (by show(0:Int)<4;decide) _ ⟨rfl,by lia,by lia,?_⟩);refine qq (lo:=0) (λi σ' H'=>∃(y3:Option V)(D:aF)(ys:Z V),σ'=[some (.ref a),some<|.int (t:Nat),some<|.ref D,y3]/\Same H H'/\H' D=some (.lst ys)/\RepAll H' (iter i iX) ys/\Spots (iter i iX)/\(iter i iX).length=ds.length) ?_ (λi σ' H' hi h=>?_) λσ' H' h=>?_
  .exact(mz _ D ys ⟨rfl,sm,bJ,rep,yZ,l1⟩)
  .obtain⟨y3,D,ys,rfl,sm,bJ,rep,sp,hl⟩:=h;refine(oj _ rfl D ys _ ⟨rfl,bJ,rep,sp,by lia,by lia,λD2 wI H3 s3 lC fD=>?_⟩);refine(mz _ D2 wI ⟨rfl,sm.trans s3,lC,by rw[Kl];exact fD,by rw[Kl];exact akj sp _,by rw[Kl];simp[lD,hl]⟩)
  .obtain⟨y3,D,ys,rfl,sm,bJ,rep,sp,hl⟩:=h;have et:(((t:Nat):Int) % 4).toNat=t % 4:=by lia
   rw[et]at rep sp hl;refine(lr _ rfl D ys _ ([true,false]) ⟨rfl,bJ,rep,xn sp,λl zs es gR pe ue hz=>?_⟩);refine(l8 l zs ⟨rfl,.inl ⟨SqL.of l9,λl2 fP=>?_⟩⟩);have s1:Same H' (upd H' l<|.lst zs):=Same.fresh _ gR;have s2:Same (upd H' l<|.lst zs) (upd (upd H' l<|.lst zs) l2<|.tup zs):=Same.fresh _ fP;refine q l2 _ es ((sm.trans s1).trans s2) ?_ ue<|l8 l2 zs ⟨rfl,l9,hz.same s2⟩;rw[show u8 t ds=iter (t % 4) iX by rw[e1];rfl];exact pe
def yK(m:Str)(n:Nat):Prop:=(m="still"/\n=1)\/(m="turn"/\n=4)\/(m="flip"/\n=8)
def IF(P:aK)(w:aP)(K:av)(mg:Str->Option aA):Prop:=∃aD oD kvs,mg "TURNINGS_BY_MODE" = some (.ref aD)/\K.lookup aD=some oD/\oD.IsDictOf (strKind P w) kvs/\∀m n,yK m n->∃t,fZ kvs m=some (.int (n:Nat) t)
def alv:Sp:=λvs H Q _=>∃(r:aF)(m:Str)(n:Nat)(xs:Z V)(es:Z U),vs=[.ref r,.str m]/\H r=some (.tup xs)/\RepAll H es xs/\Zr es/\yK m n/\
 ∀(l:aF)(ys:Z V)(ds:Z U)(H':Hp),Same H H'->H l=none->H' l=some (.lst ys)->ds.Nodup->(∀d,d∈ds↔d∈qk es n)->RepAll H' (vp ds) ys->Q (.ref l) H'
def aqn:mj Z1 Z1 (l0 Jh):={}
theorem amx(B:∀x∈sk,mg x=none)(hM:IF P w K mg)(Ftd:Fn P w K mg base "turned" 2 ["form","t"] ayi)
  (F:Fun K "forms_of" "forms_of" Jh f fd):qm P w K mg base CX0 3 f fd Z1 alv:=by
 obtain⟨aD,oD,kvs,hD,hL,hI,hV⟩:=hM;refine F.ok (k:=2) aqn (λvs H Q E h=>?_) λbW A outer s H vs Q E hr h=>?_
 .obtain⟨r,m,n,xs,es,rfl,_⟩:=h;rfl
 obtain⟨r,m,n,xs,es,rfl,DJ,rep,hz,hm,q⟩:=h;have hu:=hr.units;obtain⟨tk,hv⟩:=hV m n hm;refine⟨_,(lq<|mr<|xw rfl hu rfl (B "sorted"<|by decide) rfl (B "set"<|by decide)<|lj (pcm ["t","form"] [none,some 0] (pR1<|lj (pix aq2 (ahd hD rfl)<|pv 1) lc) (λ_=>(pgC 0)) (λ_=>om) λ_=>(pfn Ftd<|lj (pv 1)<|lj (pv 0) lc)) lc),?_⟩;refine(lr _ rfl aD m oD kvs<|l8 n tk ⟨rfl,rfl,hL,hI,hv,?_⟩);have hn:n<=8:=by rcases hm with h|h|h<;>lia
 refine⟨(n:Nat),rfl,by lia,by lia,λD vK=>?_⟩;rw[ci];refine aby (lo:=0) (n:=n) (λi ys G=>Same H G/\RepAll G (qk es i) ys) ⟨Same.fresh _ vK,rfl⟩ (λi ys G hi bJ gT p=>?_) λys G bJ gT p=>?_
 .obtain⟨p1,p2⟩:=p;refine⟨Agree.set (Agree.refl _) rfl,?_⟩;dsimp only[jY];refine xy ?_;refine(mh _ rfl _ rfl r i xs ⟨es,by rw[Int.zero_add];rfl,.inr<|p1 _ _ DJ,rep.same p1,hz.pre.spots,hz.pre.pos,by have:=hz.pre.six;lia,by lia,λr2 H2 e2 s2 pe ue dW=>?_⟩);rw[(hz.turned i).pre.sorted pe ue]at dW;have eG:=s2 _ _ bJ;refine p9 (by lia) eG gT ⟨(p1.trans s2).new vK,?_⟩;rw[aa5];refine((p2.same s2).snoc dW).tk (Tk.lst eG) (Kk hz λd hd=>?_);rcases ay.mp hd with h|h
  .exact oz d h
  .exact⟨i,(ar.mp h).symm⟩
 .obtain⟨p1,p2⟩:=p;refine(mz D ys (qk es n) ⟨rfl,bJ,p2,ad9 hz oz,Ko hz oz,by simp[qk];lia,λds l zs kI dX hl rz=>?_⟩);have GO:H l=none:=by
   cases e:H l with
   | none=>rfl
   | some o=>rw[p1 _ _ e]at hl;cases hl
  exact q l zs ds _ (p1.trans<|Same.fresh _ hl) GO l9 kI dX rz
def Iz(z:Str):z.cps.toList.length=z.length:=by simp[Str.length]
def ok1{c:Nat}(h:c<128):k9 (⟨#[c]⟩:Str)=true:=Tx.ok ⟨by show 1<=80;lia,λx hx=>by
 have:x=c:=by simpa using hx
 lia⟩
def Rw(zs:Z Str):Prop:=0<zs.length/\zs.length<=8/\∃wd,0<wd/\wd<=8/\∀z∈zs,(Tx z/\∀c∈z.cps.toList,sgB c=true)/\z.length=wd
def Fl(H:Hp)(a:aF)(zs:Z Str):Prop:=H a=some (.tup<|zs.map V.str)/\Rw zs
def Fl.tx{H:Hp}{a:aF}{zs:Z Str}(h:Fl H a zs):∀z∈zs,Tx z:=λz hz=>by obtain⟨_,_,_,wd,_,_,hw⟩:=h;exact(hw z hz).1.1
noncomputable def rW(r:Nat)(cs:Z Nat):Nat->Z U
 | 0=>[]
 | k+1=>rW r cs k++(match cs[k]? with|some c=>[.tuple [.int r,.int k,.str ⟨#[c]⟩]]|none=>[])
noncomputable def ye(zs:Z Str):Nat->Z U
 | 0=>[]
 | k+1=>ye zs k++(match zs[k]? with|some z=>rW k z.cps.toList z.cps.toList.length|none=>[])
theorem ve(r:Nat)(cs:Z Nat):∀k,Spots (rW r cs k)
 | 0,d,h=>by cases h
 | k+1,d,h=>by
  unfold rW at h;rcases ay.mp h with h|h
  .exact ve r cs k d h
  .cases e:cs[k]? with
   | none=>rw[e]at h;cases h
   | some c=>rw[e]at h;rw[ar.mp h];exact(mz _ _ _ rfl)
theorem zo(zs:Z Str):∀k,Spots (ye zs k)
 | 0,d,h=>by cases h
 | k+1,d,h=>by
  unfold ye at h;rcases ay.mp h with h|h
  .exact zo zs k d h
  .cases e:zs[k]? with
   | none=>rw[e]at h;cases h
   | some z=>rw[e]at h;exact ve _ _ _ d h
def Spots.app{a b:Z U}(h:Spots a)(k:Spots b):Spots (a++b):=λd hd=>(ay.mp hd).elim (h d) (k d)
def abo{r:Nat}{cs:Z Nat}{k c:Nat}(h:cs[k]?=some c):rW r cs (k+1)=rW r cs k++[.tuple [.int r,.int k,.str ⟨#[c]⟩]]:=by show rW r cs k++_=_;rw[h]
def abp{zs:Z Str}{k:Nat}{z:Str}(h:zs[k]?=some z):ye zs (k+1)=ye zs k++rW k z.cps.toList z.cps.toList.length:=by show ye zs k++_=_;rw[h]
def JP:Sp:=λvs H Q _=>∃(a:aF)(zs:Z Str),vs=[.ref a]/\Fl H a zs/\∀(D:aF)(ys:Z V)(H':Hp),Same H H'->H' D=some (.lst ys)->ys.length<=64->RepAll H' (ye zs zs.length) ys->Q (.ref D) H'
def scSpots:mj ["floor","spots","row","signs","column","sign"] Z7 (l0 Jp):={}
theorem am9(B:∀x∈sk,mg x=none)(F:Fun K "floor_spots" "floor_spots" Jp f fd):qm P w K mg base CX0 1 f fd Z7 JP:=by
 refine F.ok (k:=0) scSpots (λvs H Q E h=>?_) λbW A outer s H vs Q E hr h=>?_
 .obtain⟨a,zs,rfl,_⟩:=h;rfl
 obtain⟨a,zs,rfl,hf,q⟩:=h;have htx:=hf.tx;obtain⟨ha,zG,hz8,wd,hw0,Be,hw⟩:=hf;refine⟨_,(lg (psN 1 scSpots.nd<|ot lc)
  (lg (pfo (pET<|lj (pv 0) lc) (si (n:=2) rfl<|ln (pgN 2 scSpots.nd)<|ln (pgN 3 scSpots.nd) ni)<|lq<|pfo (pES<|lj (pv 3) lc) (si (n:=2) rfl<|ln (pgN 4 scSpots.nd)<|ln (pgN 5 scSpots.nd) ni)<|lq<|qr<|vn cj gc gd pq (pv 1)<|lj (my<|lj (pv 2)<|lj (pv 4)<|lj (pv 5) lc) lc)
  (lq<|mr<|pv 1))),?_⟩
 refine⟨sZ0,λD hD=>?_⟩;refine(oo _ rfl a ⟨rfl,⟨_,SqT.of<|by rw[ma (ou ha hD)];exact ha⟩,?_⟩);refine JO (xs:=zs.map V.str) (λi σ' H'=>∃(y2 y3 y4 y5:Option V)(ys:Z V),σ'=[some (.ref a),some<|.ref D,y2,y3,y4,y5]/\Same H H'/\H' D=some (.lst ys)/\RepAll H' (ye zs i) ys/\ys.length<=8*i) ?_ (λi σ' H' h=>?_) (λi x p σ' H' hx hp h=>?_) λσ' H' h=>?_
 .exact(lw _ _ _ _ ([]) ⟨rfl,Same.fresh _ hD,l9,rfl,fj _⟩)
 .obtain⟨_,_,_,_,_,_,s1,_⟩:=h;exact SqT.of<|s1 _ _ ha
 .obtain⟨y2,y3,y4,y5,ys,rfl,s1,bJ,rep,gT⟩:=h;rw[bz]at hx;cases hz:zs[i]? with
  | none=>rw[hz]at hx;cases hx
  | some z=>
   rw[hz]at hx;cases hx;have FT:=ak hz;have xM:i<zs.length:=(aj.mp hz).1;have dP:=(hw z FT).2;have hL:=Iz z;refine(me p _ rfl (SqT.of l9) rfl _ _ rfl _ ⟨_,rfl,rfl,?_⟩);generalize g1:upd H' p _=H2 at *;obtain⟨s2,_⟩:=al hp g1;clear g1;refine(oo _ rfl z ⟨rfl,(htx z FT).2,?_⟩);refine aqo (z:=z) (λj σ' H3=>∃(y4 y5:Option V)(ys:Z V),σ'=[some (.ref a),some<|.ref D,some<|.int (i:Nat),some<|.str z,y4,y5]/\Same H H3/\H3 D=some (.lst ys)/\RepAll H3 (ye zs i++rW i z.cps.toList j) ys/\ys.length<=8*i+j) ?_ (λj c p3 σ' H3 hc qU h=>?_) λσ' H3 h=>?_
   .refine(mz _ _ ys ⟨rfl,s1.trans s2,s2 _ _ bJ,?_,by lia⟩);show RepAll H2 (ye zs i++[]) ys;rw[ff];exact rep.same s2
   .obtain⟨y4,y5,AK,rfl,s3,lC,fD,GP⟩:=h;have hjl:j<z.cps.toList.length:=(aj.mp hc).1;have BQ:c<128:=(htx z FT).2 c (ak hc);refine(me p3 _ rfl (SqT.of l9) rfl _ _ rfl _ ⟨_,rfl,rfl,?_⟩);generalize g1:upd H3 p3 _=H4 at *;obtain⟨s4,_⟩:=al qU g1;clear g1;have pU:=s4 _ _ lC;refine(np _ rfl (.inl ⟨rfl,_,SqL.of pU⟩) _ ⟨rfl,(oo _ rfl _ ⟨rfl,sZ3,λt ht=>?_⟩)⟩);generalize g1:upd H4 t _=H5 at *;obtain⟨s5,t5⟩:=al ht g1;clear g1;have B5:=s5 _ _ pU;refine(mz D AK (.ref t) ⟨rfl,rfl,B5,mm<|by lia,?_⟩);have mS:RepAll H5 ((ye zs i++rW i z.cps.toList j)++[.tuple [.int (i:Nat),.int (j:Nat),.str ⟨#[c]⟩]]) (AK++[.ref t]):=((fD.same s4).same s5).snoc (v0 t5<|ok1 BQ);rw[bp,<-abo hc]at mS;refine(mz _ _ (AK++[.ref t]) ⟨rfl,((s3.trans s4).trans s5).new hD,l9,mS.tk (Tk.lst B5)<|Spots.imm<|Spots.app (zo _ _)<|ve _ _ _,?_⟩);rw[be,fq];lia
   .obtain⟨y4,y5,AK,rfl,s3,lC,fD,GP⟩:=h;rw[<-abp hz]at fD;exact(lw _ _ _ _ AK ⟨rfl,s3,lC,fD,by lia⟩)
 .obtain⟨y2,y3,y4,y5,ys,rfl,s1,bJ,rep,gT⟩:=h;rw[ae]at rep gT;exact⟨_,rfl,q D ys H' s1 bJ (by lia) rep⟩
theorem abe(M:Mat)(r:Nat):∀c,c<=M.w->rW r (ox M r) c=(cp c).map λk=>EI M r k
 | 0,_=>rfl
 | c+1,h=>by rw[abo (JF (M:=M) (r:=r) (c:=c)<|by lia),abe M r c<|by lia,jo,bu];rfl
theorem xh(M:Mat):∀k,k<=M.h->ye (qz M) k=(cp<|k*M.w).map λi=>EI M (i/M.w) (i % M.w)
 | 0,_=>by simp[ye]
 | k+1,h=>by
  rw[abp (Fa (M:=M) (r:=k)<|by lia),xh M k<|by lia];have e:((⟨(ox M k).toArray⟩:Str).cps.toList)=ox M k:=by simp
  rw[e,zh,abe M k M.w<|am _,Nat.add_mul,Nat.one_mul,List.range_add,bu,bm]
  congr 1
  refine dv λc hc=>?_;have iW:c<M.w:=by simpa using hc
  show EI M k c=EI M ((k*M.w+c)/M.w) ((k*M.w+c) % M.w);rw[Aw iW,AH iW]
def ajm{M:Mat}(o:OkM SgP M){z:Str}(h:z∈qz M):(Tx z/\∀c∈z.cps.toList,sgB c=true)/\z.length=M.w:=by
 obtain⟨r,hr,rfl⟩:=anq h;have hs:=ap6 o hr;have hl:(⟨(ox M r).toArray⟩:Str).length=M.w:=by show(ox M r).toArray.size=_;rw[a7,zh]
 have hw:=o.w8;have e:((⟨(ox M r).toArray⟩:Str).cps.toList)=ox M r:=by simp
 refine⟨⟨⟨by lia,λc hc=>?_⟩,λc hc=>?_⟩,hl⟩
 .rw[e]at hc;exact Ct<|hs c hc
 .rw[e]at hc;exact hs c hc
def FlM.fl{H:Hp}{a:aF}{M:Mat}(h:FlM H a M):Fl H a (qz M):=
 ⟨h.1,by rw[p8];exact h.2.h1,by rw[p8];exact h.2.h8,M.w,h.2.w1,h.2.w8,λz hz=>ajm h.2 hz⟩
def atz{zs:Z Str}(h:Rw zs):∃M:Mat,zs=qz M/\OkM SgP M:=by
 obtain⟨h1,h8,wd,w1,w8,hz⟩:=h;refine⟨⟨zs.length,wd,λr c=>((zs[r]?.map λz=>z.cps.toList).getD []).getD c 0⟩,?_,⟨h1,h8,w1,w8,λr c hr hc=>?_⟩⟩
 .apply List.ext_getElem?;intro r;by_cases hr:r<zs.length
  .rw[Fa (M:=⟨zs.length,wd,_⟩) hr,ah hr];have pO:=hz _<|ix hr;have hl:zs[r].cps.toList.length=wd:=by rw[Iz];exact pO.2
   have e:ox ⟨zs.length,wd,λr c=>((zs[r]?.map λz=>z.cps.toList).getD []).getD c 0⟩ r=zs[r].cps.toList:=by
    apply List.ext_getElem?;intro c;by_cases hc:c<wd
    .rw[JF (M:=⟨zs.length,wd,λr c=>((zs[r]?.map λz=>z.cps.toList).getD []).getD c 0⟩) hc];show some (((zs[r]?.map λz=>z.cps.toList).getD []).getD c 0)=_;rw[ah hr];show some (zs[r].cps.toList.getD c 0)=_;rw[fk,ah<|by lia];rfl
    .rw[jw (by rw[zh];exact Nat.le_of_not_lt hc),jw<|by lia]
   rw[e]
  .rw[jw (by lia),jw<|by rw[p8];exact Nat.le_of_not_lt hr]
 .have DK:r<zs.length:=hr;have iW:c<wd:=hc;have pO:=hz _<|ix DK;have hl:zs[r].cps.toList.length=wd:=by rw[Iz];exact pO.2
  show sgB (((zs[r]?.map λz=>z.cps.toList).getD []).getD c 0)=true;rw[ah DK];show sgB (zs[r].cps.toList.getD c 0)=true;rw[fk,ah<|by lia];exact pO.1.2 _<|ix _
open Classical in
noncomputable def ddp:Z U->Z U
 | []=>[]
 | x::xs=>if x∈ddp xs then ddp xs else x::ddp xs
theorem ddp_mem:∀{xs:Z U} {d:U},d∈ddp xs↔d∈xs
 | [],d=>Iff.rfl
 | x::xs,d=>by
  have ih:=@ddp_mem xs;unfold ddp;split
  .rename_i h
   rw[ax,ih];exact⟨.inr,λz=>z.elim (λe=>by rw[e];exact ih.mp h) id⟩
  .rw[ax,ax,ih]
theorem ET:∀(xs:Z U),(ddp xs).Nodup
 | []=>List.nodup_nil
 | x::xs=>by
  unfold ddp;split
  .exact ET xs
  .rename_i h
   exact jl.mpr ⟨h,ET xs⟩
theorem ajo:∀(xs:Z U),(ddp xs).length<=xs.length
 | []=>am _
 | x::xs=>by
  have:=ajo xs;unfold ddp;split
  .rw[b7];lia
  .rw[b7,b7];lia
noncomputable def FS(es:Z U)(n:Nat):Z U:=vp<|ddp<|qk es n
def avl{es ds:Z U}{n:Nat}(h:Zr es)(nd:ds.Nodup)(hm:∀d,d∈ds↔d∈qk es n):vp ds=FS es n:=
 aa4 ((List.perm_ext_iff_of_nodup nd<|ET _).mpr λd=>(hm d).trans ddp_mem.symm) (Ko h λd hd=>oz d<|(hm d).mp hd)
def Jl{es:Z U}{n:Nat}:∀d∈FS es n,∃t,ua es t=d:=λd hd=>oz d<|ddp_mem.mp<|(qc _).mem_iff.mp hd
def Jf{es:Z U}{n:Nat}:(FS es n).length<=n:=by
 have:=ajo<|qk es n;unfold FS;rw[yh];have e:(qk es n).length=n:=by simp[qk]
 lia
def ayp(d:U):Prop:=∃es,d=.tuple es/\Zr es
def Cw{es:Z U}{n:Nat}(h:Zr es):∀d∈FS es n,ayp d:=λd hd=>by obtain⟨t,rfl⟩:=Jl d hd;exact⟨_,rfl,sv h t⟩
def KindK(H:Hp)(v:V)(k:Z U×Nat):Prop:=∃b nm u1 u2 m fr xs,v=.ref b/\H b=some (.tup [.str nm,u1,u2,.str m,.ref fr])/\H fr=some (.tup xs)/\RepAll H k.1 xs/\Zr k.1/\yK m k.2
theorem KindK.same{H H':Hp}{v:V}{k:Z U×Nat}(h:KindK H v k)(s:Same H H'):KindK H' v k:=by obtain⟨b,nm,u1,u2,m,fr,xs,rfl,h1,h2,h3,h4,h5⟩:=h;exact(lw b nm u1 u2 m<|l8 fr xs ⟨rfl,s _ _ h1,s _ _ h2,h3.same s,h4,h5⟩)
def KindsK(H:Hp)(kvs:Z V)(ks:Z (Z U×Nat)):Prop:=kvs.length=ks.length/\∀(i:Nat) v k,kvs[i]?=some v->ks[i]?=some k->KindK H v k
theorem KindsK.same{H H':Hp}{kvs:Z V}{ks:Z (Z U×Nat)}(h:KindsK H kvs ks)(s:Same H H'):KindsK H' kvs ks:=⟨h.1,λi v k h1 h2=>(h.2 i v k h1 h2).same s⟩
def PzK(H:Hp)(p:aF)(M:Mat)(ks:Z (Z U×Nat)):Prop:=∃fl kr e kvs,H p=some (.tup [.ref fl,.ref kr,.ref e])/\FlM H fl M/\H kr=some (.tup kvs)/\KindsK H kvs ks/\ks.length<=6
def J0:Sp:=λvs H Q _=>∃a xs ds,vs=[.ref a]/\(H a=some (.lst xs)\/H a=some (.tup xs))/\RepAll H ds xs/\Spots ds/\0<ds.length/\ds.length<64/\∀r H',Same H H'->Rep H' (.tuple<|ub<|nw ds) (.ref r)->Q (.ref r) H'
def scFormed:mj ["_law_spots","_law_top","_law_left"] Z0 (l0 JX):={}
def ajl(B:∀x∈sk,mg x=none)(F:Fun K "_law_formed" "_law_formed" JX f fd):qm P w K mg base CX0 1 f fd Z0 J0:=by
 refine F.ok (k:=0) scFormed (λvs H Q E h=>?_) λbW A outer s H vs Q E hr h=>?_
 .obtain⟨a,xs,ds,rfl,_⟩:=h;rfl
 obtain⟨a,xs,ds,rfl,ha,kR,hs,hpos,pE,q⟩:=h;refine⟨_,(lg (wz (i:=1) scFormed.nd rfl (Or.inr rfl)<|pCB (zt rfl) boot_min<|lj (pcm Z2 [none,none,none] (Av<|pv 0) (λ_=>(ph (n:=3) rfl<|ln (pgC 0)<|ln (pgC 1)<|ln (pgC 2) ni)) (λ_=>om) λ_=>(pv 0)) lc)
  (lg (wz (i:=2) scFormed.nd rfl (Or.inr rfl)<|pCB (zt rfl) boot_min<|lj (pcm Z2 [none,none,none] (Av<|pv 0) (λ_=>(ph (n:=3) rfl<|ln (pgC 0)<|ln (pgC 1)<|ln (pgC 2) ni)) (λ_=>om) λ_=>(pv 1)) lc)
  (lq<|mr<|pCT m7 ku<|lj (pCB aer fK<|lj (pcm ["_law_row","_law_column","_law_sign","_law_top","_law_left"] [none,none,none,some 1,some 2] (Av<|pv 0) (λ_=>(ph (n:=3) rfl<|ln (pgC 0)<|ln (pgC 1)<|ln (pgC 2) ni)) (λ_=>om) λ_=>(my<|lj (nj AE (pv 0)<|pv 3)<|lj (nj AE (pv 1)<|pv 4)<|lj (pv 2) lc)) lc) lc))),?_⟩
 refine abq qw rfl rfl ha kR hs (by lia) (λr c z H' Q' q=>⟨_,rfl,q⟩) λD1 H1 s1 rM=>?_;refine(l8 D1 _ ⟨rfl,rM,by rw[ae];exact hpos,λM1 m1 A8=>?_⟩);refine abq qu rfl rfl (ha.imp (s1 _ _)<|s1 _ _) (kR.same s1) hs (by lia) (λr c z H' Q' q=>⟨_,rfl,q⟩) λD2 H2 s2 eG=>?_;refine(l8 D2 _ ⟨rfl,eG,by rw[ae];exact hpos,λM2 m2 m2'=>?_⟩);have qG:=s1.trans s2;refine u7 (ym M1 M2) rfl rfl (ha.imp (qG _ _)<|qG _ _) (kR.same qG) hs (by lia) (λr c z H' Q' h=>?_) (λr c z=>(l8 _ _ rfl)) λD ys H3 hD s3 lC fD=>?_
 .obtain⟨u,v,e,q⟩:=h;cases (show PyData.tuple [.int (r-M1),.int<|c-M2,.str z]=.tuple [.int u,.int v,.str z]from e);exact(og _ rfl _ rfl _ _ rfl rfl _ ⟨rfl,(ng _ rfl _ _ rfl rfl _ ⟨rfl,sZ3,q⟩)⟩)
 .have e:ds.map (ym M1 M2)=nw ds:=by unfold nw;rw[vi m1 A8,vi m2 m2']
  rw[e]at fD;have sp3:Spots (nw ds):=λd hd=>by obtain⟨x,hx,rfl⟩:=aw.mp hd;obtain⟨r,c,z,rfl⟩:=hs x hx;exact(mz _ _ _ rfl)
  refine(mf D ys _ ([true,false]) ⟨rfl,lC,fD,xn sp3,by unfold nw;rw[ae];exact pE,λl1 zs gR hz=>?_⟩);refine(l8 l1 zs ⟨rfl,.inl ⟨SqL.of l9,λl2 fP=>?_⟩⟩);have s4:Same H3 (upd H3 l1<|.lst zs):=Same.fresh _ gR;have s5:Same (upd H3 l1<|.lst zs) (upd (upd H3 l1<|.lst zs) l2<|.tup zs):=Same.fresh _ fP;exact q l2 _ (((qG.trans s3).trans s4).trans s5)<|l8 l2 zs ⟨rfl,l9,hz.same s5⟩
def ayb:Sp:=λvs H Q _=>∃(a:aF)(t:Nat)(xs:Z V)(ds:Z U),vs=[.ref a,.int (t:Nat)]/\H a=some (.tup xs)/\RepAll H ds xs/\Zr ds/\t<8/\∀r H',Same H H'->Rep H' (.tuple<|ub<|u8 t ds) (.ref r)->Q (.ref r) H'
def scLt:mj ["_law_spots","_law_t","_law_quarter"] ZS (l0 sLt):={}
def awa(B:∀x∈sk,mg x=none)(kU:Fn P w K mg base "_law_formed" 1 Z0 J0)(F:Fun K "_law_turned" "_law_turned" sLt f fd):qm P w K mg base CX0 2 f fd ZS ayb:=by
 refine F.ok (k:=1) scLt (λvs H Q E h=>?_) λbW A outer s H vs Q E hr h=>?_
 .obtain⟨a,t,xs,ds,rfl,_⟩:=h;rfl
 obtain⟨a,t,xs,ds,rfl,ha,rep,hz,ht,q⟩:=h;have hp:=hz.pre.pos;have h6:=hz.pre.six;rw[<-hz.raw t]at q;refine⟨_,(lg (rg (nv aub (pv 1) lh<|oh _) (lq<|psC 0 Z2 [none,none,none] scLt.nd (Av<|pv 0) (λ_=>(ph (n:=3) rfl<|ln (pgC 0)<|ln (pgC 1)<|ln (pgC 2) ni)) (λ_=>om) λ_=>(my<|lj (pv 0)<|lj (vZ yk<|pv 1)<|lj (pv 2) lc)) o0)
  (lg (pfo (pR1<|lj (nj u9 (pv 1) lh) lc) (pgN 2 scLt.nd)<|lq<|psC 0 Z2 [none,none,none] scLt.nd (Av<|pv 0) (λ_=>(ph (n:=3) rfl<|ln (pgC 0)<|ln (pgC 1)<|ln (pgC 2) ni)) (λ_=>om) λ_=>(my<|lj (pv 1)<|lj (vZ yk<|pv 0)<|lj (pv 2) lc))
  (lq<|mr<|pfn kU<|lj (pv 0) lc))),?_⟩
 refine(ng _ rfl _ _ rfl rfl _ ⟨rfl,?_⟩);refine sr (λh4=>?ga) λh4=>?gb
 case' ga=>
  have yC:4<=t:=by have:(t:Int)>=4:=of_decide_eq_true h4
                   lia
  refine u7 ng1 rfl rfl (.inr ha) rep hz.pre.spots (by lia) (λr c z H' Q' h=>?gn) (λr c z=>(l8 _ _ rfl)) λD ys H2 hD sm bJ rep=>?ge
  case' gn=>
   obtain⟨u,v,e,q⟩:=h;cases (show PyData.tuple [.int r,.int<|-c,.str z]=.tuple [.int u,.int v,.str z]from e);exact(qi _ rfl _ rfl _ ⟨rfl,_,rfl,sZ3,q⟩)
  case' ge=>
   obtain⟨iX,e1⟩:∃d,d=(if 4<=t then ds.map ng1 else ds):=⟨_,rfl⟩;have e2:iX=ds.map ng1:=by rw[e1,if_pos yC]
   rw[<-e2]at rep;have yZ:Spots iX:=by rw[e2];exact ag9 hz.pre.spots
   have l1:iX.length=ds.length:=by rw[e2,ae]
   have bJ:H2 D=some (.lst ys)\/H2 D=some (.tup ys):=.inl bJ
 case' gb=>
  have yC:¬4<=t:=by have:¬(t:Int)>=4:=by simpa using h4
                    lia
  obtain⟨iX,e1⟩:∃d,d=(if 4<=t then ds.map ng1 else ds):=⟨_,rfl⟩;have e2:iX=ds:=by rw[e1,if_neg yC]
  rw[<-e2]at rep;have yZ:Spots iX:=by rw[e2];exact hz.pre.spots
  have l1:iX.length=ds.length:=by rw[e2]
  have sm:=Same.refl H;have bJ:H a=some (.lst xs)\/H a=some (.tup xs):=.inr ha
 all_goals
  refine(uw _ rfl _ _ rfl rfl (by show(0:Int)<4;decide) _ ⟨rfl,by lia,by lia,?_⟩);refine qq (lo:=0) (λi σ' H'=>∃(y2:Option V)(D:aF)(ys:Z V),σ'=[some (.ref D),some<|.int (t:Nat),y2]/\Same H H'/\(H' D=some (.lst ys)\/H' D=some (.tup ys))/\RepAll H' (uD i iX) ys) ?_ (λi σ' H' hi h=>?_) λσ' H' h=>?_
  .exact(mz _ _ _ ⟨rfl,sm,bJ,rep⟩)
  .obtain⟨y2,D,ys,rfl,sm,bJ,rep⟩:=h;refine u7 nt1 rfl rfl bJ rep (uy yZ i) (by rw[wu];lia) (λr c z H' Q' h=>?_) (λr c z=>(l8 _ _ rfl)) λD2 wI H3 eG s3 lC fD=>?_
   .obtain⟨u,v,e,q⟩:=h;cases (show PyData.tuple [.int c,.int<|-r,.str z]=.tuple [.int u,.int v,.str z]from e);exact(qi _ rfl _ rfl _ ⟨rfl,_,rfl,sZ3,q⟩)
   .exact(mz _ D2 wI ⟨rfl,sm.trans s3,.inl lC,by rw[wj];exact fD⟩)
  .obtain⟨y2,D,ys,rfl,sm,bJ,rep⟩:=h;have et:(((t:Nat):Int) % 4).toNat=t % 4:=by lia
   rw[et]at rep;refine(oj _ rfl D ys _ ⟨rfl,bJ,rep,uy yZ _,by rw[wu];lia,by rw[wu];lia,λr H3 s3 fD=>?_⟩);refine q r H3 (sm.trans s3) ?_;rw[show Ie t ds=uD (t % 4) iX by rw[e1];rfl];exact fD
theorem KindK.tk{H H':Hp}{v:V}{k:Z U×Nat}(h:KindK H v k)(s:Tk H H'):KindK H' v k:=by obtain⟨b,nm,u1,u2,m,fr,xs,rfl,h1,h2,h3,h4,h5⟩:=h;exact(lw b nm u1 u2 m<|l8 fr xs ⟨rfl,s _ _ h1,s _ _ h2,h3.tk s<|Spots.imm h4.pre.spots,h4,h5⟩)
def KindsK.snoc{H H':Hp}{kvs:Z V}{ks:Z (Z U×Nat)}{v:V}{k:Z U×Nat}(h:KindsK H kvs ks)(t:Tk H H')(hv:KindK H' v k):KindsK H' (kvs++[v]) (ks++[k]):=by
 refine⟨by rw[be,be,h.1];rfl,λi u k' h1 h2=>?_⟩;by_cases hi:i<kvs.length
 .rw[ei hi]at h1;rw[ei (by rw[<-h.1];exact hi)]at h2;exact(h.2 i u k' h1 h2).tk t
 .have e1:i=kvs.length:=by
   have:=(aj.mp h1).1;rw[be,fq]at this;lia
  subst e1;rw[ck (am _),Nat.sub_self]at h1;rw[h.1,ck<|am _,Nat.sub_self]at h2;cases h1;cases h2;exact hv
def agx{H:Hp}{cs:Z U}{xs:Z V}{i:Nat}{v:V}(h:Cells cs)(r:RepAll H cs xs)(e:xs[i]?=some v):∃(a:aF)(p q:Int),v=.ref a/\H a=some (.tup [.int p,.int q])/\cs[i]?=some (.tuple [.int p,.int q]):=by obtain⟨d,e1,e2⟩:=r.at e;obtain⟨p,q,rfl⟩:=h d<|ak e1;obtain⟨a,e3,e4⟩:=ane e2;exact(mz a p q ⟨e3,e4,e1⟩)
seal L2.PE L2.PT L2.PW L2.PA L2.PS L2.PSs L2.PG L2.PGs L2.PI L2.PO
def agh:Sp:=λvs H Q _=>∃(v:V)(k:Z U×Nat),vs=[v]/\KindK H v k/\∀(l:aF)(ys:Z V)(H':Hp),Same H H'->H l=none->H' l=some (.lst ys)->RepAll H' (FS k.1 k.2) ys->Q (.ref l) H'
def scLforms:mj ["_law_kind","_law_many"] ["_law_kind"] (l0 JJ):={}
def aql{m:Str}{n:Nat}(h:yK m n):wt (kvI [(bh "still",1),(bh "turn",4),(bh "flip",8)]) (Sum.inr m)=some (.int (n:Nat)):=by rcases h with ⟨rfl,rfl⟩|⟨rfl,rfl⟩|⟨rfl,rfl⟩<;>decide +kernel
theorem akw(B:∀x∈sk,mg x=none)(Flt:Fn P w K mg base "_law_turned" 2 ZS ayb)(F:Fun K "_law_forms" "_law_forms" JJ f fd):qm P w K mg base CX0 3 f fd ["_law_kind"] agh:=by
 refine F.ok (k:=2) scLforms (λvs H Q E h=>?_) λbW A outer s H vs Q E hr h=>?_
 .obtain⟨v,k,rfl,_⟩:=h;rfl
 obtain⟨v,⟨es,n⟩,rfl,⟨b,nm,u1,u2,m,fr,xs,rfl,hb,rG,rep,hz,hm⟩,q⟩:=h;have rep:RepAll H es xs:=rep;have hz:Zr es:=hz;have hm:yK m n:=hm;have hu:=hr.units;refine⟨_,(lg (psN 1 scLforms.nd<|JY (ir (iz (by decide) _) hu) (an5 m9 lh m9 lh m9 lh<|by decide +kernel) (pix nh (pv 0) lh) λ_ _=>rfl)
  (lq<|mr<|xw rfl hu rfl (B "sorted"<|by decide) rfl (B "set"<|by decide)<|lj (pcm ["_law_t","_law_kind"] [none,some 0] (pR1<|lj (pv 1) lc) (λ_=>(pgC 0)) (λ_=>om) λ_=>(pfn Flt<|lj (pix xk (pv 1) lh)<|lj (pv 0) lc)) lc)),?_⟩
 intro dd sN;generalize g1:upd H dd _=H0 at *;obtain⟨s0,d0⟩:=al sN g1;clear g1;refine(lr _ rfl b _ _ _ ⟨rfl,rfl,SqT.of<|s0 _ _ hb,lv (j:=3) rfl,(l8 dd (.int (n:Nat)) ⟨rfl,by rw[<-aql hm];exact DGet.k (k:=Sum.inr m) d0,?_⟩)⟩);have hn:n<=8:=by rcases hm with h|h|h<;>lia
 refine(oo _ rfl (n:Nat) ⟨rfl,by lia,by lia,λD vK=>?_⟩);rw[ci];refine aby (lo:=0) (n:=n) (λi ys G=>Same H0 G/\RepAll G (qk es i) ys) ⟨Same.fresh _ vK,rfl⟩ (λi ys G hi bJ gT p=>?_) λys G bJ gT p=>?_
 .obtain⟨p1,p2⟩:=p;refine⟨Agree.set (Agree.refl _) rfl,?_⟩;dsimp only[jY];refine xy ?_;have sG:=s0.trans p1;refine(lr _ rfl b _ _ _ ⟨rfl,rfl,SqT.of<|sG _ _ hb,lv (j:=4) rfl,(lr _ rfl fr i xs es ⟨by rw[Int.zero_add];rfl,sG _ _ rG,rep.same sG,hz,by lia,λr2 H2 s2 dW=>?_⟩)⟩);have eG:=s2 _ _ bJ;refine p9 (by lia) eG gT ⟨(p1.trans s2).new vK,?_⟩;rw[aa5];refine((p2.same s2).snoc dW).tk (Tk.lst eG) (Kk hz λd hd=>?_);rcases ay.mp hd with h|h
  .exact oz d h
  .exact⟨i,(ar.mp h).symm⟩
 .obtain⟨p1,p2⟩:=p;refine(mz D ys (qk es n) ⟨rfl,bJ,p2,ad9 hz oz,Ko hz oz,by simp[qk];lia,λds l zs kI dX hl rz=>?_⟩);have sG:=s0.trans p1;have GO:H l=none:=by
   cases e:H l with
   | none=>rfl
   | some o=>rw[sG _ _ e]at hl;cases hl
  rw[avl hz kI dX]at rz;exact q l zs _ (sG.trans<|Same.fresh _ hl) GO l9 rz
def IG:Sp:=λvs H Q _=>∃c:Nat,vs=[.str ⟨#[c]⟩]/\Q (.bl<|decide (65<=c)&&decide (c<=90)) H
def ako:Sp:=λvs H Q _=>∃c:Nat,vs=[.str ⟨#[c]⟩]/\Q (.bl<|decide (97<=c)&&decide (c<=122)) H
def ax1:mj Z6 Z6 (l0 Ix):={}
def aq9:mj Z6 Z6 (l0 Jn):={}
def le1(a b:Nat):(!decide ([b]<[a]))=decide (a<=b):=by
 have h:([b]<[a])↔b<a:=by simp[fu]
 rw[decide_eq_decide.mpr h];by_cases c:b<a
 .rw[decide_eq_true c,decide_eq_false<|by lia];rfl
 .rw[decide_eq_false c,decide_eq_true<|by lia];rfl
def ajv{c lo hi:Nat}{a z:Str}{R:V->Prop}{A B:Prop}(ha:a.cps.toList=[lo])(hz:z.cps.toList=[hi])(q:R (.bl<|decide (lo<=c)&&decide (c<=hi)))
  (hA:R (.bl<|!decide (z.cps.toList<[c]))->A) (hB:R (.bl false)->B):if (!decide ((⟨#[c]⟩:Str).cps.toList<a.cps.toList))=true then A else B:=by
 have e:(⟨#[c]⟩:Str).cps.toList=[c]:=rfl;rw[e,ha,le1];rw[hz,le1]at hA;by_cases h:lo<=c
 .rw[decide_eq_true h]at *;rw[if_pos rfl];exact hA q
 .rw[decide_eq_false h]at *;rw[if_neg aq];exact hB q
def Ii(c:Nat):(⟨#[c]⟩:Str).length<=aE:=by show 1<=aE;decide
def as9(B:∀x∈sk,mg x=none)(F:Fun K "is_sign" "is_sign" Ix f fd):qm P w K mg base CX0 1 f fd Z6 IG:=by
 refine F.ok (k:=0) ax1 (λvs H Q E h=>?_) λbW A outer s H vs Q E hr h=>?_
 .obtain⟨c,rfl,_⟩:=h;rfl
 obtain⟨c,rfl,q⟩:=h;refine⟨_,(lq<|mr<|AG (pCB aaf HK<|lj (pv 0)<|lj (aj9 (v:=.ty "str") rfl (B "str"<|by decide) boot_str rfl) lc)<|AG (sw xt (pCB rh fy<|lj (pv 0) lc) lh<|oh _)<|CF<|ag8 xf xf m9 (pv 0) m9),?_⟩;refine(lr _ rfl _ _ _ true ⟨rfl,.str _,rfl,true,rfl,?_⟩);refine xy ?_;refine(oo _ rfl _ ⟨rfl,Ii c,rfl,true,rfl,?_⟩);refine xy ?_;exact(ng _ rfl _ _ rfl rfl _ ⟨rfl,ajv (a:=bh "A") (z:=bh "Z") (R:=λv=>Q v H) (by decide +kernel) (by decide +kernel) q (λh=>(l8 _ _ ⟨rfl,rfl,h⟩)) λh=>h⟩)
def amk(B:∀x∈sk,mg x=none)(F:Fun K "is_small" "is_small" Jn f fd):qm P w K mg base CX0 1 f fd Z6 ako:=by
 refine F.ok (k:=0) aq9 (λvs H Q E h=>?_) λbW A outer s H vs Q E hr h=>?_
 .obtain⟨c,rfl,_⟩:=h;rfl
 obtain⟨c,rfl,q⟩:=h;refine⟨_,(lq<|mr<|AG (pCB aaf HK<|lj (pv 0)<|lj (aj9 (v:=.ty "str") rfl (B "str"<|by decide) boot_str rfl) lc)<|AG (sw xt (pCB rh fy<|lj (pv 0) lc) lh<|oh _)<|CF<|ag8 xf xf m9 (pv 0) m9),?_⟩;refine(lr _ rfl _ _ _ true ⟨rfl,.str _,rfl,true,rfl,?_⟩);refine xy ?_;refine(oo _ rfl _ ⟨rfl,Ii c,rfl,true,rfl,?_⟩);refine xy ?_;exact(ng _ rfl _ _ rfl rfl _ ⟨rfl,ajv (a:=bh "a") (z:=bh "z") (R:=λv=>Q v H) (by decide +kernel) (by decide +kernel) q (λh=>(l8 _ _ ⟨rfl,rfl,h⟩)) λh=>h⟩)
def GS(mg:Str->Option aA)(x z:Str):Prop:=∃t,mg x=some (.str z t)
def eH:bh "#" = ⟨#[35]⟩:=by decide +kernel
def xp(c d:Nat){z:Str}(hz:z=⟨#[d]⟩):decide (V.str ⟨#[c]⟩=V.str z)=(c==d):=by
 subst hz;rw[jk,decide_eq_true_eq,beq_iff_eq];constructor
 .intro h;injection h with h
  injection h with h
  injection h with h
  injection h with h
 .intro h;rw[h]
def y0{M:Mat}{r:Nat}(h:r<M.h):((qz M).map V.str)[r]?=some (V.str ⟨(ox M r).toArray⟩):=by rw[bz,Fa h];rfl
def qb(N:Mat)(r:Nat):(⟨(ox N r).toArray⟩:Str).length=N.w:=by show(ox N r).toArray.size=_;rw[a7,zh]
def ao9{N:Mat}(o:OkM SgP N):N.w<=aE:=dg (mm<|by have:=o.w8;lia)
noncomputable def gA(M:Mat)(r c:Nat):Nat:=if r<M.h/\c<M.w then M.g r c else 35
def ID{M:Mat}(o:OkM SgP M)(r c:Nat):sgB (gA M r c)=true:=by
 unfold gA;split
 .rename_i h;exact o.sg r c h.1 h.2
 .decide
noncomputable def big(c:Nat):Bool:=decide (65<=c)&&decide (c<=90)
noncomputable def sT(c:Nat):Bool:=decide (97<=c)&&decide (c<=122)
noncomputable def okS(g k:Nat):Bool:=g==46||g==44||g==k||g==lo1 k
def auq{g k:Nat}(h:sgB g=true)(h1:65<=k)(h2:k<=90):(!(g==35)&&(!(big g||sT g)||up1 g==k))=okS g k:=by
 have:∀g<128,sgB g=true->∀k<91,65<=k->(!(g==35)&&(!(big g||sT g)||up1 g==k))=okS g k:=by decide +kernel
 exact this g (Ct h) h k (by lia) h1
def vX(R:Nat->V):Sp:=λvs H Q _=>∃(a b:aF)(M:Mat)(r c:Nat),vs=[.ref a,.ref b]/\FlM H a M/\H b=some (.tup [.int (r:Nat),.int (c:Nat)])/\Q (R<|gA M r c) H
def scAt:mj ["floor","cell","row","column"] Z8 (l0 sAt):={}
def axu(B:∀x∈sk,mg x=none)(gC:GS mg "CLOSED" "#")(F:Fun K "sign_at" "sign_at" sAt f fd):qm P w K mg base CX0 1 f fd Z8 (vX λk=>.str ⟨#[k]⟩):=by
 refine F.ok (k:=0) scAt (λvs H Q E h=>?_) λbW A outer s H vs Q E hr h=>?_
 .obtain⟨a,b,M,r,c,rfl,_⟩:=h;rfl
 obtain⟨a,b,M,r,c,rfl,hf,hb,q⟩:=h;dsimp only at q;obtain⟨ha,nT⟩:=hf;have out:¬(r<M.h/\c<M.w)->Q (.str<|bh "#") H:=λh=>by unfold gA at q;rw[if_neg h]at q;rw[eH];exact q
 refine⟨_,(lg (psN 2 scAt.nd<|pix nh (pv 1) lh)
  (lg (psN 3 scAt.nd<|pix nh (pv 1) lh)
  (lg (rg (PW.pt<|wn (ahc asb Cp lh (pv 2)<|pCB m8 fy<|lj (pv 0) lc)<|um<|ahc asb Cp lh (pv 3)<|pCB rh fy<|lj (pix nh (pv 0)<|pv 2) lc) (lq<|mr<|pix CC (pix nh (pv 0)<|pv 2)<|pv 3) o0)
  (lq<|mr<|zk gC rfl)))),?_⟩
 refine(lr _ rfl b _ _ _ ⟨rfl,rfl,SqT.of hb,lv (j:=0) rfl,?_⟩);refine(lr _ rfl b _ _ _ ⟨rfl,rfl,SqT.of hb,lv (j:=1) rfl,?_⟩);refine(ng _ rfl _ _ rfl rfl _ ⟨rfl,?_⟩);refine sr (λc1=>?_) λc1=>absurd (decide_eq_true<|by show(0:Int)<=(r:Nat);lia) c1;refine(ng _ rfl a _ rfl (.inr<|SqT.of ha) _<|np _ rfl rfl _ ⟨rfl,?_⟩);refine sr (λc2=>?_) λc2=>?_
 .have hrM:r<M.h:=by
   have:((r:Nat):Int)<(((qz M).map V.str).length:Nat):=of_decide_eq_true c2;rw[ae,p8]at this;lia
  have DU:atI ((qz M).map V.str) (r:Int)=some (.str ⟨(ox M r).toArray⟩):=lv<|y0 hrM;have zl:(⟨(ox M r).toArray⟩:Str).length<=aE:=by rw[qb];exact ao9 nT
  refine(ng _ rfl _ _ rfl rfl _ ⟨rfl,?_⟩);refine sr (λc3=>?_) λc3=>absurd (decide_eq_true<|by show(0:Int)<=(c:Nat);lia) c3;refine(mh _ rfl _ rfl a _ _ ⟨_,rfl,rfl,SqT.of ha,DU,(np _ rfl zl _<|np _ rfl rfl _ ⟨rfl,?_⟩)⟩);refine sr (λc4=>?_) λc4=>?_
  .have hcM:c<M.w:=by
    have:((c:Nat):Int)<((⟨(ox M r).toArray⟩:Str).length:Nat):=of_decide_eq_true c4;rw[qb]at this;lia
   unfold gA at q;rw[if_pos ⟨hrM,hcM⟩]at q;refine(mh _ rfl _ rfl a _ _ ⟨_,rfl,rfl,SqT.of ha,DU,(oj _ rfl _ _ (M.g r c) ⟨rfl,rfl,zl,?_,q⟩)⟩);refine lv ?_;show(ox M r).toArray.toList[c]?=_;rw[List.toList_toArray];exact JF hcM
  .have c4':¬(((c:Nat):Int)<((⟨(ox M r).toArray⟩:Str).length:Nat)):=by simpa using c4
   rw[qb]at c4';exact out<|by lia
 .have HI:¬(((r:Nat):Int)<(((qz M).map V.str).length:Nat)):=by simpa using c2
  rw[ae,p8]at HI;refine oN ?_;exact out<|by lia
def asz:mj Z8 Z8 (l0 IY):={}
def scWant:mj Z3 Z8 (l0 IX):={}
noncomputable abbrev HN(P:aK)(w:aP)(K:av)(mg:Str->Option aA)(base:Heap):Prop:=Fn P w K mg base "sign_at" 1 Z8<|vX λk=>.str ⟨#[k]⟩
def aqy(gC:GS mg "CLOSED" "#")(C9:HN P w K mg base)(F:Fun K "is_open" "is_open" IY f fd):qm P w K mg base CX0 2 f fd Z8 (vX λk=>.bl<|!(k==35)):=by
 refine F.ok (k:=1) asz (λvs H Q E h=>?_) λbW A outer s H vs Q E hr h=>?_
 .obtain⟨a,b,M,r,c,rfl,_⟩:=h;rfl
 obtain⟨a,b,M,r,c,rfl,hf,hb,q⟩:=h;dsimp only at q;refine⟨_,(lq<|mr<|sw EF (pfn C9<|lj (pv 0)<|lj (pv 1) lc) (zk gC rfl)<|oh _),?_⟩;refine(mh _ rfl _ rfl a b M<|l8 r c ⟨rfl,hf,hb,rfl,?_⟩);rw[xp _ 35 eH];exact q
noncomputable def IS(k:Nat):V:=if (big k||sT k)=true then .str ⟨#[up1 k]⟩else .non
def are(C9:HN P w K mg base)(yR:Fn P w K mg base "is_sign" 1 Z6 IG)(yN:Fn P w K mg base "is_small" 1 Z6 ako)(F:Fun K "wanted" "wanted" IX f fd) :
  qm P w K mg base CX0 2 f fd Z8 (vX IS):=by
 refine F.ok (k:=1) scWant (λvs H Q E h=>?_) λbW A outer s H vs Q E hr h=>?_
 .obtain⟨a,b,M,r,c,rfl,_⟩:=h;rfl
 obtain⟨a,b,M,r,c,rfl,hf,hb,q⟩:=h;have tZ:=Ct<|ID hf.2 r c;refine⟨_,(lg (psN 2 scWant.nd<|pfn C9<|lj (pv 0)<|lj (pv 1) lc)
  (lq<|mr<|ana (PW.pt<|IK (yo<|pfn yR<|lj (pv 2) lc)<|Ji<|yo<|pfn yN<|lj (pv 2) lc) (AD jp PySem.F.slot_str_upper PySem.F.type_str_upper ams<|pv 2) tj)),?_⟩
 refine(mh _ rfl _ rfl a b M<|l8 r c ⟨rfl,hf,hb,?_⟩);generalize gA M r c=g at *;refine(qi _ rfl _ rfl _ ⟨rfl,?_⟩);have q':∀t:Bool,(big g||sT g)=t->Q (if t=true then .str ⟨#[up1 g]⟩else .non) H:=λt ht=>by rw[<-ht];exact q
 refine sr (λh1=>?_) λh1=>?_
 .refine xy ?_;refine(np _ rfl rfl _ ⟨rfl,rfl,tZ,q' true ?_⟩);have fU:big g=true:=h1;rw[fU];rfl
 .have fU:big g=false:=Bool.eq_false_iff.mpr h1;refine(qi _ rfl _ rfl _ ⟨rfl,?_⟩);refine sr (λh2=>?_) λh2=>?_
  .refine(np _ rfl rfl _ ⟨rfl,rfl,tZ,q' true ?_⟩);have gD:sT g=true:=h2;rw[gD,Bool.or_true]
  .refine q' false ?_;have gD:sT g=false:=Bool.eq_false_iff.mpr h2;rw[fU,gD];rfl
def SgN(d:U):Prop:=∃r c k:Nat,d=.tuple [.int (r:Nat),.int (c:Nat),.str ⟨#[k]⟩]/\65<=k/\k<=90
def SgN.spots{ds:Z U}(h:∀d∈ds,SgN d):Spots ds:=λd hd=>by obtain⟨r,c,k,e,_⟩:=h d hd;exact(mz r c _ e)
noncomputable def vU(M:Mat):U->Bool
 | .tuple [.int r,.int c,.str z]=>okS (gA M r.toNat c.toNat) (z.cps.toList.headD 0)
 | _=>false
def Jm(M:Mat)(r c k:Nat):vU M (.tuple [.int (r:Nat),.int (c:Nat),.str ⟨#[k]⟩])=okS (gA M r c) k:=by show okS (gA M (Int.toNat (r:Nat))<|Int.toNat (c:Nat)) k=_;rw[ci,ci]
noncomputable def sh1(dn rt:Int):U->U
 | .tuple [.int r,.int c,.str z]=>.tuple [.int (r+dn),.int<|c+rt,.str z]
 | d=>d
def SgN.sh{dn rt:Nat}{d:U}(h:SgN d):SgN (sh1 (dn:Nat) (rt:Nat) d):=by obtain⟨r,c,k,rfl,hk⟩:=h;refine(mz (r+dn) (c+rt) k ⟨?_,hk⟩);show PyData.tuple [.int ((r:Nat)+(dn:Nat)),.int<|(c:Nat)+(rt:Nat),.str ⟨#[k]⟩]=_;rw[Int.natCast_add,Int.natCast_add]
def SgN.shs{dn rt:Nat}{ds:Z U}(h:∀d∈ds,SgN d):∀d∈ds.map (sh1 (dn:Nat) (rt:Nat)),SgN d:=λd hd=>by obtain⟨e,he,rfl⟩:=aw.mp hd;exact(h e he).sh
def av9{g:Nat}(h:g<128):up1 g<128:=by
 have:∀g<128,up1 g<128:=by decide +kernel
 exact this g h
def an6{g k:Nat}:([PyData.none,PyData.str ⟨#[k]⟩].any λe=>bo e (if (big g||sT g)=true then .str ⟨#[up1 g]⟩else .none))=(!(big g||sT g)||up1 g==k):=by
 by_cases h:(big g||sT g)=true
 .rw[if_pos h,h];show(false||(((⟨#[k]⟩:Str)==⟨#[up1 g]⟩)||false))=(false||up1 g==k);rw[Bool.false_or,Bool.or_false,Bool.false_or,jk,beq_iff_eq,beq_iff_eq];constructor
  .intro e;injection e with e
   injection e with e
   injection e with e
   exact e.symm
  .intro e;rw[e]
 .rw[if_neg h,Bool.eq_false_iff.mpr h];rfl
def at4:Sp:=λvs H Q _=>∃(a b:aF)(M:Mat)(r c k:Nat),vs=[.ref a,.ref b,.str ⟨#[k]⟩]/\FlM H a M/\H b=some (.tup [.int (r:Nat),.int (c:Nat)])/\65<=k/\k<=90/\∀H',Same H H'->Q (.bl<|okS (gA M r c) k) H'
def aws:mj Z3 Z3 (l0 Im):={}
def atb(CW:Fn P w K mg base "is_open" 2 Z8 (vX λk=>.bl<|!(k==35)))(CV:Fn P w K mg base "wanted" 2 Z8 (vX IS))(F:Fun K "may_cover" "may_cover" Im f fd):qm P w K mg base CX0 3 f fd Z3 at4:=by
 refine F.ok (k:=2) aws (λvs H Q E h=>?_) λbW A outer s H vs Q E hr h=>?_
 .obtain⟨a,b,M,r,c,k,rfl,_⟩:=h;rfl
 obtain⟨a,b,M,r,c,k,rfl,hf,hb,mL,GR,q⟩:=h;have hu:=hr.units;have hm:=auq (ID hf.2 r c) mL GR;have tZ:=Ct<|ID hf.2 r c;rw[<-hm]at q;refine⟨_,(lq<|mr<|AG (pfn CW<|lj (pv 0)<|lj (pv 1) lc)<|CF<|sw (Jq hu) (pfn CV<|lj (pv 0)<|lj (pv 1) lc) (my<|lj tj<|lj (pv 2) lc) rfl),?_⟩;refine(mh _ rfl _ rfl a b M<|l8 r c ⟨rfl,hf,hb,_,rfl,?_⟩);refine sr (λh1=>?_) λh1=>?_
 .rw[h1,Bool.true_and]at q;refine(mh _ rfl _ rfl a b M<|l8 r c ⟨rfl,hf,hb,_,rfl,sZ2,λp hp=>?_⟩);generalize g1:upd H p _=H1 at *;obtain⟨s1,c1⟩:=al hp g1;clear g1;generalize gA M r c=g at *;refine(mf (if (big g||sT g)=true then .str ⟨#[up1 g]⟩else .none) p _ ([.none,.str ⟨#[k]⟩]) ⟨?_,rfl,.inr c1,?_,?_,?_⟩)
  .unfold IS;split
   .exact⟨rfl,ok1<|av9 tZ⟩
   .rfl
  .exact(sq _ _ rfl rfl _ _ ⟨rfl,⟨rfl,ok1<|by lia⟩,rfl⟩)
  .split<;>simp[jy]
  .rw[if_neg aq,an6];exact q H1 s1
 .rw[Bool.eq_false_iff.mpr h1,Bool.false_and]at q;exact q H<|Same.refl _
noncomputable def mO(M:Mat):U->Bool
 | .tuple es=>es.all (vU M)
 | _=>false
noncomputable def shT(M:Mat)(es:Z U)(i:Nat):U:=.tuple<|es.map<|sh1 ((i/M.w:Nat):Int) ((i % M.w:Nat):Int)
noncomputable def plS(M:Mat)(es:Z U)(k:Nat):Z U:=((cp k).map (shT M es)).filter (mO M)
def ahf(M:Mat)(es:Z U)(k:Nat):plS M es (k+1)=plS M es k++if mO M (shT M es k)=true then[shT M es k]else[]:=by
 unfold plS;rw[jo,bu,List.filter_append]
 congr 1
 cases h:mO M (shT M es k)<;>simp[h]
def aqb(M:Mat)(es:Z U)(k:Nat):(plS M es k).length<=k:=by have:=List.length_filter_le (mO M)<|(cp k).map (shT M es);rw[ae,g0]at this;exact this
def plS_mem{M:Mat}{es:Z U}{k:Nat}{d:U}:d∈plS M es k↔∃i,i<k/\d=shT M es i/\mO M d=true:=by
 unfold plS;rw[List.mem_filter,aw];constructor
 .rintro⟨⟨i,hi,rfl⟩,h⟩;exact⟨i,gg.mp hi,rfl,h⟩
 .rintro⟨i,hi,rfl,h⟩;exact⟨⟨i,gg.mpr hi,rfl⟩,h⟩
def alb{M:Mat}{es:Z U}(h:∀d∈es,SgN d){ds:Z U}(hd:∀d∈ds,∃i,d=shT M es i):o9 ds=true:=qj λd hx=>by obtain⟨i,rfl⟩:=hd d hx;exact Spots.imm<|SgN.spots<|SgN.shs h
def aq1{M:Mat}{es:Z U}{i:Nat}{d:U}(h:es[i]?=some d):((es.take<|i+1).map (vU M)).map V.bl=((es.take i).map (vU M)).map V.bl++[V.bl (vU M d)]:=by rw[mn (vU M) h,bu];rfl
def ar9:Sp:=λvs H Q _=>∃(a b:aF)(M:Mat)(xs:Z V)(es:Z U),vs=[.ref a,.ref b]/\FlM H a M/\H b=some (.tup xs)/\RepAll H es xs/\(∀d∈es,SgN d)/\es.length<=6/\∀H',Same H H'->Q (.bl<|mO M<|.tuple es) H'
def awn:mj ZZ ZZ (l0 HZ):={}
def aqc(B:∀x∈sk,mg x=none)(KC:Fn P w K mg base "may_cover" 3 Z3 at4)(F:Fun K "may_lie" "may_lie" HZ f fd):qm P w K mg base CX0 4 f fd ZZ ar9:=by
 refine F.ok (k:=3) awn (λvs H Q E h=>?_) λbW A outer s H vs Q E hr h=>?_
 .obtain⟨a,b,M,xs,es,rfl,_⟩:=h;rfl
 obtain⟨a,b,M,xs,es,rfl,hf,hb,rep,hs,h6,q⟩:=h;have hl:=rep.length;refine⟨_,(lq<|mr<|pCB (amj rfl) boot_all<|lj (pcm ["row","column","sign","floor"] [none,none,none,some 0] (wl<|pv 1) (λ_=>(ph (n:=3) rfl<|ln (pgC 0)<|ln (pgC 1)<|ln (pgC 2) ni)) (λ_=>om) λ_=>(pfn KC<|lj (pv 3)<|lj (my<|lj (pv 0)<|lj (pv 1) lc)<|lj (pv 2) lc)) lc),?_⟩;refine(oo _ rfl b ⟨rfl,⟨_,SqT.of hb⟩,λD hD=>?_⟩);refine tf (xs:=xs) (λi zs G=>Same H G/\zs=((es.take i).map (vU M)).map V.bl) ⟨Same.fresh _ hD,rfl⟩ (λi zs G p=>SqT.of<|p.1 _ _ hb) (λi x zs G hx hi bJ dP p=>?_) λzs G bJ dP p=>?_
 .obtain⟨p1,rfl⟩:=p;obtain⟨d,hd,rd⟩:=rep.at hx;obtain⟨r,c,k,rfl,mL,GR⟩:=hs d<|ak hd;obtain⟨b',rfl,dS,_⟩:=u6 rd;refine(me b' _ rfl (SqT.of<|p1 _ _ dS) rfl _ _ rfl _<|nu _ rfl _ _ ⟨rfl,rfl,?_⟩);refine⟨Agree.set (Agree.set (Agree.set (Agree.refl _) rfl) rfl) rfl,?_⟩;dsimp only[jY];refine xy ?_;refine(qi _ rfl _ rfl _ ⟨rfl,sZ2,λp hp=>?_⟩);generalize g1:upd G p _=G2 at *;obtain⟨s2,c2⟩:=al hp g1;clear g1;refine(lr _ rfl a p M r<|l8 c k ⟨rfl,hf.same<|p1.trans s2,c2,mL,GR,λG3 s3=>?_⟩);refine p9 (by lia) (s3 _ _<|s2 _ _ bJ) dP ⟨((p1.trans s2).trans s3).new hD,?_⟩;rw[aq1 hd,Jm]
 .obtain⟨p1,rfl⟩:=p;rw[bi (by lia)]at bJ;refine(l8 D _ ⟨rfl,bJ,?_⟩);rw[List.all_map];exact q G p1
def asi:Sp:=λvs H Q _=>∃(b:aF)(dn rt:Int)(xs:Z V)(es:Z U),vs=[.ref b,.int dn,.int rt]/\H b=some (.tup xs)/\RepAll H es xs/\Spots es/\es.length<=64/\∀r ys H',Same H H'->H r=none->H' r=some (.tup ys)->RepAll H' (es.map<|sh1 dn rt) ys->Q (.ref r) H'
def awz:mj ZY ZY (l0 HV):={}
def ar8(B:∀x∈sk,mg x=none)(F:Fun K "shifted" "shifted" HV f fd):qm P w K mg base CX0 1 f fd ZY asi:=by
 refine F.ok (k:=0) awz (λvs H Q E h=>?_) λbW A outer s H vs Q E hr h=>?_
 .obtain⟨b,dn,rt,xs,es,rfl,_⟩:=h;rfl
 obtain⟨b,dn,rt,xs,es,rfl,hb,rep,hs,pE,q⟩:=h;refine⟨_,(lq<|mr<|pCT m7 ku<|lj (pcm ["row","column","sign","down","right"] [none,none,none,some 1,some 2] (Av<|pv 0) (λ_=>(ph (n:=3) rfl<|ln (pgC 0)<|ln (pgC 1)<|ln (pgC 2) ni)) (λ_=>om) λ_=>(my<|lj (nj pj (pv 0)<|pv 3)<|lj (nj pj (pv 1)<|pv 4)<|lj (pv 2) lc)) lc),?_⟩;refine u7 (sh1 dn rt) rfl rfl (.inr hb) rep hs pE (λr c z H' Q' h=>?_) (λr c z=>(l8 _ _ rfl)) λD ys H2 hD sm bJ dW=>?_
 .obtain⟨u,v,e,q⟩:=h;cases (show PyData.tuple [.int (r+dn),.int<|c+rt,.str z]=.tuple [.int u,.int v,.str z]from e);exact(og _ rfl _ rfl _ _ rfl rfl _ ⟨rfl,(ng _ rfl _ _ rfl rfl _ ⟨rfl,sZ3,q⟩)⟩)
 .refine(l8 D ys ⟨rfl,.inl ⟨SqL.of bJ,λl hl=>?_⟩⟩);have s2:Same H2 (upd H2 l<|.tup ys):=Same.fresh _ hl;exact q l ys _ (sm.trans s2) (sm.free hl) l9<|dW.same s2
def avf:Sp:=λvs H Q _=>∃(a b:aF)(M:Mat)(xs:Z V)(es:Z U),vs=[.ref a,.ref b]/\FlM H a M/\H b=some (.tup xs)/\RepAll H es xs/\(∀d∈es,SgN d)/\es.length<=6/\
 ∀(D:aF)(ys:Z V)(H':Hp),Same H H'->H' D=some (.lst ys)->RepAll H' (plS M es<|M.h*M.w) ys->Q (.ref D) H'
def scPla:mj ["floor","form","shifts"] ["floor","form"] (l0 Iq):={}
def asp(B:∀x∈sk,mg x=none)(nI:Fn P w K mg base "floor_spots" 1 Z7 JP)(Kw:Fn P w K mg base "shifted" 1 ZY asi)(KD:Fn P w K mg base "may_lie" 4 ZZ ar9)(F:Fun K "places" "places" Iq f fd):qm P w K mg base CX0 5 f fd ["floor","form"] avf:=by
 refine F.ok (k:=4) scPla (λvs H Q E h=>?_) λbW A outer s H vs Q E hr h=>?_
 .obtain⟨a,b,M,xs,es,rfl,_⟩:=h;rfl
 obtain⟨a,b,M,xs,es,rfl,hf,hb,rep,hs,h6,q⟩:=h;have nT:=hf.2;have zI:=nT.w1;have hhw:M.h*M.w<=64:=Nat.mul_le_mul nT.h8 nT.w8;refine⟨_,(lg (psC 2 ["row","column","sign","form"] [none,none,none,some 1] scPla.nd (o7<|pfn nI<|lj (pv 0) lc) (λ_=>(ph (n:=3) rfl<|ln (pgC 0)<|ln (pgC 1)<|ln (pgC 2) ni)) (λ_=>om) λ_=>(pfn Kw<|lj (pv 3)<|lj (pv 0)<|lj (pv 1) lc))
  (lq<|mr<|pcm ["spots","floor"] [none,some 0] (o7<|pv 2) (λ_=>(pgC 0)) (λ_=>Fe<|yo<|pfn KD<|lj (pv 1)<|lj (pv 0) lc) λ_=>(pv 0))),?_⟩
 refine(nu _ rfl a (qz M) ⟨rfl,FlM.fl hf,λD1 Fh H1 s1 rM gR eJ=>?_⟩);rw[p8,xh M M.h<|am _]at eJ;have A9:=eJ.length;rw[ae,g0]at A9;refine⟨D1,rfl,⟨_,SqL.of rM⟩,λD hD=>?_⟩;refine pw (xs:=Fh) (λi zs G=>Same H1 G/\RepAll G ((cp i).map (shT M es)) zs) ⟨Same.fresh _ hD,rfl⟩ (λi zs G p=>SqL.of<|p.1 _ _ rM) (λi x zs G hx hi bJ dP p=>?_) λzs G bJ dP p=>?_
 .obtain⟨p1,p2⟩:=p;obtain⟨d,hd,rd⟩:=eJ.at hx;rw[bz,List.getElem?_range<|by lia]at hd;cases hd;obtain⟨b',rfl,dS,_⟩:=u6 rd;refine(me b' _ rfl (SqT.of<|p1 _ _ dS) rfl _ _ rfl _<|nu _ rfl _ _ ⟨rfl,rfl,?_⟩);refine⟨Agree.set (Agree.set (Agree.set (Agree.refl _) rfl) rfl) rfl,?_⟩;dsimp only[jY];refine xy ?_;have sG:=s1.trans p1;refine(pf _ rfl _ rfl _ rfl b ((i/M.w:Nat):Int)<|mz ((i % M.w:Nat):Int) xs es ⟨rfl,sG _ _ hb,rep.same sG,SgN.spots hs,by lia,λr ys G2 s2 _ zM dW=>?_⟩);have eG:=s2 _ _ bJ;refine p9 (by lia) eG dP ⟨(p1.trans s2).new hD,?_⟩;rw[jo,bu];refine((p2.same s2).snoc (show Rep G2 (shT M es i) (.ref r)from ⟨r,ys,rfl,zM,dW⟩)).tk (Tk.lst eG) (alb (M:=M) hs λd hd=>?_);rcases ay.mp hd with h|h
  .obtain⟨j,_,rfl⟩:=aw.mp h;exact⟨j,rfl⟩
  .exact⟨i,ar.mp h⟩
 .obtain⟨p1,p2⟩:=p;have lz:=p2.length;rw[ae,g0]at lz;have sG:=s1.trans p1;refine(oo _ rfl D ⟨rfl,⟨_,SqL.of bJ⟩,λD3 lC=>?_⟩);refine pw (xs:=zs) (λi us G3=>Same G G3/\RepAll G3 (plS M es i) us) ⟨Same.fresh _ lC,rfl⟩ (λi us G3 p=>SqL.of<|p.1 _ _ bJ) (λi x us G3 hx hi yA zJ p=>?_) λus G3 yA zJ p=>?_
  .obtain⟨p3,p4⟩:=p;obtain⟨d,hd,rd⟩:=p2.at hx;rw[bz,List.getElem?_range<|by lia]at hd;cases hd;have rd0:=id rd;obtain⟨c',Da,rfl,iW,FF⟩:=rd;refine⟨Agree.set (Agree.refl _) rfl,?_⟩;refine(mh _ rfl _ rfl a c' M<|l8 Da _ ⟨rfl,hf.same<|sG.trans p3,p3 _ _ iW,FF.same p3,SgN.shs hs,by rw[ae];exact h6,λG4 s4=>?_⟩);refine⟨_,rfl,?_⟩;have pU:=s4 _ _ yA;have im:o9 (plS M es<|i+1)=true:=alb (M:=M) hs λd hd=>by
    obtain⟨j,_,e,_⟩:=plS_mem.mp hd;exact⟨j,e⟩
   refine sr (λh1=>?_) λh1=>?_
   .refine⟨_,rfl,?_⟩;refine p9 (by lia) pU zJ ⟨(p3.trans s4).new lC,?_⟩;have e1:plS M es (i+1)=plS M es i++[shT M es i]:=by rw[ahf,if_pos (show mO M (shT M es i)=true from h1)]
    rw[e1]at im;rw[e1];exact((p4.same s4).snoc (Rep.same (p3.trans s4) rd0)).tk (Tk.lst pU) im
   .refine⟨_,pU,by lia,p3.trans s4,?_⟩;rw[ahf,if_neg (show ¬mO M (shT M es i)=true from h1),ff];exact p4.same s4
  .obtain⟨p3,p4⟩:=p;rw[lz,A9]at p4;exact q D3 us G3 (sG.trans p3) yA p4
def Am{es:Z U}(h:Zr es):∀d∈es,SgN d:=λd hd=>by obtain⟨r,c,k,rfl,hk⟩:=h.pre.sg d hd;have h1:qx (es.map qw)<=r:=vm _<|cm (f:=qw) hd;have h2:qx (es.map qu)<=c:=vm _<|cm (f:=qu) hd;rw[h.r0]at h1;rw[h.c0]at h2;refine(mz r.toNat c.toNat k ⟨?_,hk⟩);rw[Int.toNat_of_nonneg h1,Int.toNat_of_nonneg h2]
noncomputable def unT:U->Z U
 | .tuple es=>es
 | _=>[]
noncomputable def plN(M:Mat)(n:Nat)(d:U):Z U:=(plS M (unT d)<|M.h*M.w).map λs=>.tuple [s,.int (n:Nat)]
noncomputable def plK(M:Mat)(n:Nat)(k:Z U×Nat):Z U:=(FS k.1 k.2).flatMap (plN M n)
noncomputable def raw(M:Mat)(ks:Z (Z U×Nat)):Nat->Z U
 | 0=>[]
 | i+1=>raw M ks i++(match ks[i]? with|some k=>plK M i k|none=>[])
def am6{M:Mat}{ks:Z (Z U×Nat)}{i:Nat}{k:Z U×Nat}(h:ks[i]?=some k):raw M ks (i+1)=raw M ks i++plK M i k:=by show raw M ks i++_=_;rw[h]
def PlD(d:U):Prop:=∃es n,d=.tuple [.tuple es,.int n]/\(∀e∈es,SgN e)/\0<es.length/\es.length<=6
def mem_plN{M:Mat}{n:Nat}{es:Z U}{d:U}:d∈plN M n (.tuple es)↔∃i,i<M.h*M.w/\d=.tuple [shT M es i,.int (n:Nat)]/\mO M (shT M es i)=true:=by
 unfold plN;rw[aw];constructor
 .rintro⟨s,hs,rfl⟩;obtain⟨i,hi,rfl,h⟩:=plS_mem.mp hs;exact⟨i,hi,rfl,h⟩
 .rintro⟨i,hi,rfl,h⟩;exact⟨_,plS_mem.mpr ⟨i,hi,rfl,h⟩,rfl⟩
theorem mem_raw{M:Mat}{ks:Z (Z U×Nat)}{d:U}:∀{j:Nat},d∈raw M ks j↔∃(n:Nat)(k:Z U×Nat),n<j/\ks[n]?=some k/\d∈plK M n k
 | 0=>⟨λh=>(by cases h),λ⟨n,_,h,_⟩=>absurd h<|jb _⟩
 | j+1=>by
  show d∈raw M ks j++_↔_;rw[ay,mem_raw];constructor
  .rintro(⟨n,k,h1,h2,h3⟩|h)
   .exact(l8 n k ⟨by lia,h2,h3⟩)
   .cases e:ks[j]? with
    | none=>rw[e]at h;cases h
    | some k=>rw[e]at h;exact(l8 j k ⟨by lia,e,h⟩)
  .rintro⟨n,k,h1,h2,h3⟩;by_cases hn:n<j
   .exact .inl<|l8 n k ⟨hn,h2,h3⟩
   .have:n=j:=by lia
    subst this;rw[h2];exact .inr h3
def E5{M:Mat}{n:Nat}{k:Z U×Nat}(hz:Zr k.1){d:U}:d∈plK M n k↔∃es i,.tuple es∈FS k.1 k.2/\i<M.h*M.w/\d=.tuple [shT M es i,.int (n:Nat)]/\mO M (shT M es i)=true:=by
 unfold plK;rw[List.mem_flatMap];constructor
 .rintro⟨x,hx,h⟩;obtain⟨es,rfl,_⟩:=Cw hz x hx;obtain⟨i,h1,h2,h3⟩:=mem_plN.mp h;exact(l8 es i ⟨hx,h1,h2,h3⟩)
 .rintro⟨es,i,h1,h2,h3,h4⟩;exact⟨_,h1,mem_plN.mpr ⟨i,h2,h3,h4⟩⟩
def KsZ(ks:Z (Z U×Nat)):Prop:=∀k∈ks,Zr k.1/\k.2<=8
def aol(es:Z U)(a b:Int):(es.map<|sh1 a b).length=es.length:=ae _
def Jv{M:Mat}{n:Nat}{k:Z U×Nat}(hz:Zr k.1){d:U}(h:d∈plK M n k):PlD d:=by obtain⟨es,i,h1,h2,rfl,h4⟩:=(E5 hz).mp h;obtain⟨mZ,e,pO⟩:=Cw hz _ h1;cases e;exact(l8 _ _ ⟨rfl,SgN.shs<|Am pO,by rw[aol];exact pO.pre.pos,by rw[aol];exact pO.pre.six⟩)
def EX{M:Mat}{ks:Z (Z U×Nat)}(h:KsZ ks){j:Nat}:∀d∈raw M ks j,PlD d:=λd hd=>by obtain⟨n,k,_,h2,h3⟩:=mem_raw.mp hd;exact Jv (h k<|ak h2).1 h3
def E1{ns:Z Int}(h:0<ns.length)(m:Int):qx (ns.map λx=>x+m)=qx ns+m:=by
 refine(vi ?_ λa ha=>?_).symm
 .exact aw.mpr ⟨qx ns,rj h,rfl⟩
 .obtain⟨x,hx,rfl⟩:=aw.mp ha;have:=vm x hx;lia
def aot{es:Z U}(h:Spots es)(a b:Int):(es.map<|sh1 a b).map qw=(es.map qw).map λx=>x+a:=by rw[bm,bm];exact oa h λr c z=>rfl
def ao2{es:Z U}(h:Spots es)(a b:Int):(es.map<|sh1 a b).map qu=(es.map qu).map λx=>x+b:=by rw[bm,bm];exact oa h λr c z=>rfl
def ark{es:Z U}(h:Spots es)(a b:Int):(es.map<|sh1 a b).map (sh1 (-a)<|-b)=es:=by
 rw[bm]
 conv=>rhs;rw[<-List.map_id es]
 exact oa h λr c z=>by show PyData.tuple [.int (r+a + -a),.int<|c+b + -b,.str z]=.tuple [.int r,.int c,.str z];rw[Int.add_neg_cancel_right,Int.add_neg_cancel_right]
theorem Kh{α β:Type}{f:α->List β}{m:Nat}:∀{l:List α},(∀x∈l,(f x).length<=m)->(l.flatMap f).length<=l.length*m
 | [],_=>by simp
 | x::l,h=>by have h1:=h x ao;have h2:=Kh λy hy=>h y<|au _ hy;rw[List.flatMap_cons,be,b7,Nat.add_mul,Nat.one_mul];lia
def JB{M:Mat}(o:OkM SgP M)(n:Nat)(d:U):(plN M n d).length<=64:=by have:=aqb M (unT d)<|M.h*M.w;have pE:M.h*M.w<=64:=Nat.mul_le_mul o.h8 o.w8;unfold plN;rw[ae];lia
def ap2{M:Mat}(o:OkM SgP M)(n:Nat){k:Z U×Nat}(h8:k.2<=8):(plK M n k).length<=512:=by have h1:=Kh (f:=plN M n) (m:=64) (l:=FS k.1 k.2) λx _=>JB o n x;have h2:=Jf (es:=k.1) (n:=k.2);have:(plK M n k).length<=(FS k.1 k.2).length*64:=h1;lia
theorem JI{M:Mat}(o:OkM SgP M){ks:Z (Z U×Nat)}(h:KsZ ks):∀j,(raw M ks j).length<=j*512
 | 0=>by simp[raw]
 | j+1=>by
  have h1:=JI o h j;show(raw M ks j++_).length<=_;rw[be];cases e:ks[j]? with
  | none=>simp only[ja];lia
  | some k=>have:=ap2 o j (h k<|ak e).2;simp only;lia
def SgN.sg{d:U}(h:SgN d):SgD d:=by obtain⟨r,c,k,e,hk⟩:=h;exact(mz r c k ⟨e,hk⟩)
def PlD.key{d:U}(h:PlD d):Cn d/\L3.TT d:=by obtain⟨es,n,rfl,hs,_⟩:=h;have hd:=yg<|SgN.spots hs;refine⟨⟨?_,⟨_,rfl⟩,by simp[jy,ca];lia⟩,(l8 _ _ rfl)⟩;show(vk es&&(true&&true))=true;rw[Jr λd hd=>(hs d hd).sg];rfl
def PlD.cmp{ds:Z U}(h:∀d∈ds,PlD d):CmpA ds:=
 ⟨λx hx y hy=>by obtain⟨es,n,rfl,hs,_⟩:=h x hx;obtain⟨fs,m,rfl,eB,_⟩:=h y hy;exact⟨JA (λd hd=>(hs d hd).sg) λd hd=>(eB d hd).sg,trivial,trivial⟩,λx hx=>(h x hx).key.1.1⟩
theorem PlD.imm:∀{ds:Z U},(∀d∈ds,PlD d)->o9 ds=true
 | [],_=>rfl
 | d::ds,a=>by obtain⟨es,n,rfl,hs,_⟩:=a d ao;have h1:=Spots.imm<|SgN.spots hs;have h2:=PlD.imm λx hx=>a x<|au _ hx;show(_root_.L3.imm (.tuple [.tuple es,.int n])&&o9 ds)=true;rw[h2,Bool.and_true];show(o9 es&&true)=true;rw[h1];rfl
theorem PlD.depth{d:U}(h:PlD d):d.depth<=4:=by obtain⟨es,n,rfl,hs,_⟩:=h;have hd:=yg<|SgN.spots hs;simp[jy,ca];lia
noncomputable def PL(M:Mat)(ks:Z (Z U×Nat)):Z U:=vp<|ddp<|raw M ks ks.length
def PL_mem{M:Mat}{ks:Z (Z U×Nat)}{d:U}:d∈PL M ks↔d∈raw M ks ks.length:=(qc _).mem_iff.trans ddp_mem
def aym(M:Mat)(nk:Nat)(d:U):Prop:=∃es i n,Zr es/\d=.tuple [shT M es i,.int (n:Nat)]/\mO M (shT M es i)=true/\n<nk
def ase{M:Mat}{ks:Z (Z U×Nat)}(h:KsZ ks):∀d∈PL M ks,aym M ks.length d:=λd hd=>by obtain⟨n,k,h1,h2,h3⟩:=mem_raw.mp<|PL_mem.mp hd;have hz:=(h k<|ak h2).1;obtain⟨es,i,h4,_,rfl,h6⟩:=(E5 hz).mp h3;obtain⟨mZ,e,pO⟩:=Cw hz _ h4;cases e;exact(mz es i n ⟨pO,rfl,h6,h1⟩)
def KindsK.z{H:Hp}{kvs:Z V}{ks:Z (Z U×Nat)}(h:KindsK H kvs ks):KsZ ks:=λk hk=>by
 obtain⟨i,hi,rfl⟩:=List.getElem_of_mem hk;have eW:i<kvs.length:=by rw[h.1];exact hi
 obtain⟨b,nm,u1,u2,m,fr,xs,_,_,_,_,hz,hm⟩:=h.2 i _ _ (ah eW)<|ah hi;exact⟨hz,by rcases hm with h|h|h<;>lia⟩
def adw{α β:Type}{f:α->List β}{l:List α}{i:Nat}{x:α}(h:l[i]?=some x):(l.take<|i+1).flatMap f=(l.take i).flatMap f++f x:=by rw[List.take_add_one,h,List.flatMap_append];simp
def aqw{s:Z U}{n:Nat}{i:Nat}{x:U}(h:s[i]?=some x):(s.take<|i+1).map (λs=>PyData.tuple [s,.int (n:Nat)])=(s.take i).map (λs=>PyData.tuple [s,.int (n:Nat)])++[.tuple [x,.int (n:Nat)]]:=mn _ h
def au3:Sp:=λvs H Q _=>∃(p:aF)(M:Mat) (ks:Z (Z U×Nat)),vs=[.ref p]/\PzK H p M ks/\∀(l:aF)(ys:Z V)(H':Hp),Same H H'->H l=none->H' l=some (.lst ys)->RepAll H' (PL M ks) ys->Q (.ref l) H'
def scPlc:mj ["puzzle","found","number","kind","form"] ["puzzle"] (l0 Ia):={}
def avg(B:∀x∈sk,mg x=none)(yP:Fn P w K mg base "forms_of" 3 Z1 alv)(Kz:Fn P w K mg base "places" 5 ["floor","form"] avf)(F:Fun K "placements" "placements" Ia f fd):qm P w K mg base CX0 6 f fd ["puzzle"] au3:=by
 refine F.ok (k:=5) scPlc (λvs H Q E h=>?_) λbW A outer s H vs Q E hr h=>?_
 .obtain⟨p,M,ks,rfl,_⟩:=h;rfl
 obtain⟨p,M,ks,rfl,⟨fl,kr,e,kvs,hp,lW,Bz,lA,h6⟩,q⟩:=h;have hu:=hr.units;have nT:=lW.2;have pT:=lA.z;refine⟨_,(lg (psN 1 scPlc.nd<|ot lc)
  (lg (pfo (pET<|lj (pix nh (pv 0) lh) lc) (si (n:=2) rfl<|ln (Jw (i:=2) scPlc.nd rfl<|Or.inr rfl)<|ln (pgN 3 scPlc.nd) ni)<|lq<|pfo (o7<|pfn yP<|lj (pix nh (pv 3) lh)<|lj (pix nh (pv 3) lh) lc) (pgN 4 scPlc.nd)<|lq<|qr<|vn cj PySem.F.slot_list_extend PySem.F.type_list_extend adr (pv 1)<|lj (pcm ["spots","number"] [none,some 2] (o7<|pfn Kz<|lj (pix nh (pv 0) lh)<|lj (pv 4) lc) (λ_=>(pgC 0)) (λ_=>om) λ_=>(my<|lj (pv 0)<|lj (pv 1) lc)) lc)
  (lq<|mr<|xw rfl hu rfl (B "sorted"<|by decide) rfl (B "set"<|by decide)<|lj (pv 1) lc))),?_⟩
 refine⟨sZ0,λD hD=>?_⟩;generalize g1:upd H D _=H1 at *;obtain⟨s1,d1⟩:=al hD g1;clear g1;have d1:H1 D=some (.lst ([]:Z V)):=d1;refine(lr _ rfl p _ _ _ ⟨rfl,rfl,SqT.of<|s1 _ _ hp,lv (j:=1) rfl,kr,rfl,⟨_,SqT.of<|s1 _ _ Bz⟩,?_⟩);refine JO (xs:=kvs) (λi σ' G=>∃(y2 y3 y4:Option V)(ys:Z V),σ'=[some (.ref p),some<|.ref D,y2,y3,y4]/\Same H G/\G D=some (.lst ys)/\RepAll G (raw M ks i) ys) ?_ (λi σ' G h=>?_) (λi x pr σ' G hx xB h=>?_) λσ' G h=>?_
 .exact(mf _ _ _ ([]) ⟨rfl,s1,d1,rfl⟩)
 .obtain⟨_,_,_,_,_,sg,_⟩:=h;exact SqT.of<|sg _ _ Bz
 .obtain⟨y2,y3,y4,ys,rfl,sg,hG,rep⟩:=h;have hi:i<kvs.length:=(aj.mp hx).1;have zS:i<ks.length:=by rw[<-lA.1];exact hi
  have hkj:=ah zS;have hk:=(lA.2 i x _ hx hkj).same sg;rw[am6 hkj];generalize ks[i]=kk at *;obtain⟨es,n⟩:=kk;obtain⟨b,nm,u1,u2,m,fr,xs,rfl,hb,rG,cI,hz,hm⟩:=hk;have cI:RepAll G es xs:=cI;have hz:Zr es:=hz;have hm:yK m n:=hm;have hn:n<=8:=by rcases hm with h|h|h<;>lia
  refine(me pr _ rfl (SqT.of l9) rfl _ _ rfl _ ⟨_,rfl,rfl,?_⟩);generalize g1:upd G pr _=G2 at *;obtain⟨s2,_⟩:=al xB g1;clear g1;refine(lr _ rfl b _ _ _ ⟨rfl,rfl,SqT.of<|s2 _ _ hb,lv (j:=4) rfl,(lr _ rfl b _ _ _ ⟨rfl,rfl,SqT.of<|s2 _ _ hb,lv (j:=3) rfl,?_⟩)⟩);refine(lw fr m n xs es ⟨rfl,s2 _ _ rG,cI.same s2,hz,hm,λl fs ds G3 s3 lV hl nd mem oR=>?_⟩);rw[avl hz nd mem]at oR;have hF:=Cw (n:=n) hz;have hFl:=Jf (es:=es) (n:=n);have lf:=oR.length;have hU:=(sg.trans s2).trans s3;refine⟨l,rfl,⟨_,SqL.of hl⟩,?_⟩;have Fy:∀j,(raw M ks i++((FS es n).take j).flatMap (plN M i)).length<=4000:=λj=>by
   have h1:=JI nT pT i;have h2:=Kh (f:=plN M i) (m:=64) (l:=(FS es n).take j) λx _=>JB nT i x;have h3:((FS es n).take j).length<=8:=by rw[b8];lia
   rw[be];lia
  have rpl:∀j,∀d∈raw M ks i++((FS es n).take j).flatMap (plN M i),PlD d:=λj d hd=>by
   rcases ay.mp hd with h|h
   .exact EX pT d h
   .obtain⟨x,hx,h⟩:=List.mem_flatMap.mp h;exact Jv (k:=(es,n)) (M:=M) (n:=i) hz<|List.mem_flatMap.mpr ⟨x,cn hx,h⟩
  refine rn (xs:=fs) (λj σ' G4=>∃(y4:Option V)(zs:Z V),σ'=[some (.ref p),some<|.ref D,some<|.int (i:Nat),some<|.ref b,y4]/\Ex [D] G3 G4/\Same H G4/\G4 D=some (.lst zs)/\RepAll G4 (raw M ks i++((FS es n).take j).flatMap (plN M i)) zs) ?_ (λj σ' G4 hj h=>?_) (λj x σ' G4 hx h=>?_) λσ' G4 h=>?_
  .refine(l8 _ ys ⟨rfl,Ex.refl _ _,hU,s3 _ _<|s2 _ _ hG,?_⟩);rw[List.take_zero,List.flatMap_nil,ff];exact rep.same<|s2.trans s3
  .obtain⟨_,_,_,ex,_⟩:=h;exact SqL.of<|ex.at (λz=>by rw[z,s2 _ _ hG]at lV;cases lV) hl
  .obtain⟨y4,zs,rfl,ex,dG,D4,lJ⟩:=h;have hj:j<fs.length:=(aj.mp hx).1;obtain⟨d,hd,rd⟩:=oR.at hx;obtain⟨yF,rfl,zF⟩:=hF d<|ak hd;obtain⟨fb,yS,rfl,BF,dW⟩:=rd;have nfb:fb≠D:=λz=>by rw[z,s3 _ _<|s2 _ _ hG]at BF;cases BF
   have tk4:Tk G3 G4:=ex.one<|s3 _ _<|s2 _ _ hG;refine⟨_,rfl,.inl ⟨rfl,_,SqL.of D4⟩,?_⟩;refine(lr _ rfl p _ _ _ ⟨rfl,rfl,SqT.of<|dG _ _ hp,lv (j:=0) rfl,(lr _ rfl fl fb M yS ⟨yF,rfl,lW.same dG,ex.at nfb BF,dW.tk tk4<|Spots.imm zF.pre.spots,Am zF,zF.pre.six,λD5 ys5 G5 s5 B5 mS=>?_⟩)⟩);have l5:=mS.length;have hp64:=JB nT i<|.tuple yF;have lpn:(plN M i<|.tuple yF).length=(plS M yF<|M.h*M.w).length:=ae _;refine⟨D5,rfl,⟨_,SqL.of B5⟩,λD6 hD6=>?_⟩;refine pw (xs:=ys5) (λt us G6=>Same G5 G6/\RepAll G6 (((plS M yF<|M.h*M.w).take t).map λs=>PyData.tuple [s,.int (i:Nat)]) us) ⟨Same.fresh _ hD6,rfl⟩ (λt us G6 p=>SqL.of<|p.1 _ _ B5) (λt x us G6 hx6 hi6 xZ Bf p=>?_) λus G6 xZ Bf p=>?_
   .obtain⟨p1,p2⟩:=p;obtain⟨d6,hd6,rd6⟩:=mS.at hx6;refine⟨Agree.set (Agree.refl _) rfl,?_⟩;dsimp only[jY];refine xy ?_;refine(oo _ rfl _ ⟨rfl,sZ2,λt7 ht7=>?_⟩);generalize g1:upd G6 t7 _=G7 at *;obtain⟨s7,c7⟩:=al ht7 g1;clear g1;have B4:=s7 _ _ xZ;refine p9 (by lia) B4 Bf ⟨(p1.trans s7).new hD6,?_⟩;rw[aqw hd6];have rx:Rep G7 (.tuple [d6,.int (i:Nat)]) (.ref t7):=(mq t7 _ rfl c7 _ _ rfl (Rep.same (p1.trans s7) rd6) _ ⟨_,rfl,rfl,rfl⟩);refine((p2.same s7).snoc rx).tk (Tk.lst B4) (PlD.imm λdx hdx=>?_);have hm6:dx∈plN M i (.tuple yF):=by
     rcases ay.mp hdx with h|h
     .obtain⟨y,hy,rfl⟩:=aw.mp h;exact cm<|cn hy
     .rw[ar.mp h];exact cm<|ak hd6
    exact Jv (k:=(es,n)) (M:=M) (n:=i) hz<|List.mem_flatMap.mpr ⟨_,ak hd,hm6⟩
   .obtain⟨p1,p2⟩:=p;rw[bi (by lia)]at p2;have p2:RepAll G6 (plN M i<|.tuple yF) us:=p2;have sB:=s5.trans p1;have hG6:=sB _ _ D4;have lz:=lJ.length;have lu:=p2.length;have:=Fy j;refine(mf D D6 zs us ⟨rfl,rfl,hG6,xZ,dg<|by rw[cD];lia,?_⟩);refine(l8 _ (zs++us) ⟨rfl,(ex.trans<|Ex.of_same (W:=[D]) sB).trans (Ex.upd<|by simp),(dG.trans sB).new hD,l9,?_⟩);rw[adw hd,<-bp];have ap:=(lJ.same sB).append p2;refine ap.tk (Tk.lst hG6)<|PlD.imm ?_;have:=rpl<|j+1;rw[adw hd,<-bp]at this;exact this
  .obtain⟨y4,zs,rfl,ex,dG,D4,lJ⟩:=h;rw[bi (by lia)]at lJ;exact(mf _ _ _ zs ⟨rfl,dG,D4,lJ⟩)
 .obtain⟨y2,y3,y4,ys,rfl,sg,hG,rep⟩:=h;have DJ:=JI nT pT ks.length;have hl:=lA.1;rw[hl]at rep;refine(oj _ rfl D ys (raw M ks ks.length) ⟨rfl,hG,rep,λd hd=>(EX pT d hd).key,PlD.cmp<|EX pT,by lia,λds l zs nd mem fP rz=>?_⟩);have e:vp ds=PL M ks:=aa4 ((List.perm_ext_iff_of_nodup nd<|ET _).mpr λd=>(mem d).trans ddp_mem.symm)<|(PlD.cmp<|EX (M:=M) pT (j:=ks.length)).sub λd hd=>(mem d).mp hd;rw[e]at rz;exact q l zs _ (sg.trans<|Same.fresh _ fP) (sg.free fP) l9 rz
noncomputable def clD(r c:Int):U:=.tuple [.int r,.int c]
def ash{H:Hp}{r c:Int}{v:V}(h:Rep H (clD r c) v):∃a,v=.ref a/\H a=some (.tup [.int r,.int c]):=by obtain⟨a,xs,rfl,ha,z1,t1,rfl,h1,z2,t2,rfl,h2,rfl⟩:=h;cases (show z1=_ from h1);cases (show z2=_ from h2);exact⟨a,rfl,ha⟩
noncomputable def chV(k:Nat):V:=.str ⟨#[k]⟩
noncomputable def yy(k:Nat):Bool:=k==46||big k
noncomputable def oix(M:Mat)(k:Nat):Z Nat:=(cp k).filter λi=>!(M.g (i/M.w) (i % M.w)==35)
noncomputable def cdx(M:Mat)(i:Nat):U:=clD ((i/M.w:Nat):Int) ((i % M.w:Nat):Int)
def anx(M:Mat)(k:Nat):oix M (k+1)=oix M k++if (!(M.g (k/M.w) (k % M.w)==35))=true then[k]else[]:=by
 unfold oix;rw[jo,List.filter_append]
 congr 1
 cases h:!(M.g (k/M.w) (k % M.w)==35)<;>simp[h]
def arc(M:Mat)(l:Z Nat):o9 (l.map<|cdx M)=true:=qj λd hd=>by obtain⟨i,_,rfl⟩:=aw.mp hd;rfl
def scMust:mj Z3 Z8 (l0 IQ):={}
def ary(gV:GS mg "COVERED" ".")(C9:HN P w K mg base)(yR:Fn P w K mg base "is_sign" 1 Z6 IG)(F:Fun K "must_be" "must_be" IQ f fd):qm P w K mg base CX0 2 f fd Z8 (vX λk=>.bl<|yy k):=by
 refine F.ok (k:=1) scMust (λvs H Q E h=>?_) λbW A outer s H vs Q E hr h=>?_
 .obtain⟨a,b,M,r,c,rfl,_⟩:=h;rfl
 obtain⟨a,b,M,r,c,rfl,hf,hb,q⟩:=h;dsimp only at q;refine⟨_,(lg (psN 2 scMust.nd<|pfn C9<|lj (pv 0)<|lj (pv 1) lc)
  (lq<|mr<|axc (sw xt (pv 2) (zk gV rfl)<|oh _)<|CF<|pfn yR<|lj (pv 2) lc)),?_⟩
 refine(mh _ rfl _ rfl a b M<|l8 r c ⟨rfl,hf,hb,?_⟩);generalize gA M r c=g at *;have Ej:bh "." = ⟨#[46]⟩:=by decide +kernel
 have ed:decide (V.str ⟨#[g]⟩=V.str (bh "."))=(g==46):=xp _ 46 Ej;refine(np _ rfl rfl _ ⟨rfl,?_⟩);rw[ed];refine sr (λh=>?_) λh=>?_
 .unfold yy at q;rw[h,Bool.true_or]at q;exact q
 .have h':(g==46)=false:=Bool.eq_false_iff.mpr h;unfold yy at q;rw[h',Bool.false_or]at q;exact(oo _ rfl _ ⟨rfl,q⟩)
def Ic:Sp:=λvs H Q _=>∃(a:aF)(M:Mat),vs=[.ref a]/\FlM H a M/\∀(D:aF)(ys:Z V)(H':Hp),Same H H'->H D=none->H' D=some (.lst ys)->RepAll H' ((oix M<|M.h*M.w).map (cdx M)) ys->Q (.ref D) H'
def azj:mj Z7 Z7 (l0 sOc):={}
def axm(gC:GS mg "CLOSED" "#")(nI:Fn P w K mg base "floor_spots" 1 Z7 JP)(F:Fun K "open_cells" "open_cells" sOc f fd):qm P w K mg base CX0 2 f fd Z7 Ic:=by
 refine F.ok (k:=1) azj (λvs H Q E h=>?_) λbW A outer s H vs Q E hr h=>?_
 .obtain⟨a,M,rfl,_⟩:=h;rfl
 obtain⟨a,M,rfl,hf,q⟩:=h;have nT:=hf.2;have zI:=nT.w1;have hhw:M.h*M.w<=64:=Nat.mul_le_mul nT.h8 nT.w8;refine⟨_,(lq<|mr<|pcm ["row","column","sign"] [none,none,none] (o7<|pfn nI<|lj (pv 0) lc) (λ_=>(ph (n:=3) rfl<|ln (pgC 0)<|ln (pgC 1)<|ln (pgC 2) ni)) (λ_=>Fe<|nv EF (pv 2) (zk gC rfl)<|oh _) λ_=>(my<|lj (pv 0)<|lj (pv 1) lc)),?_⟩;refine(nu _ rfl a (qz M) ⟨rfl,FlM.fl hf,λD1 Fh H1 s1 rM gR eJ=>?_⟩);rw[p8,xh M M.h<|am _]at eJ;have A9:=eJ.length;rw[ae,g0]at A9;refine⟨D1,rfl,⟨_,SqL.of rM⟩,λD hD=>?_⟩;refine pw (xs:=Fh) (λi zs G=>Same H1 G/\RepAll G ((oix M i).map (cdx M)) zs) ⟨Same.fresh _ hD,rfl⟩ (λi zs G p=>SqL.of<|p.1 _ _ rM) (λi x zs G hx hi bJ dP p=>?_) λzs G bJ dP p=>?_
 .obtain⟨p1,p2⟩:=p;obtain⟨d,hd,rd⟩:=eJ.at hx;rw[bz,List.getElem?_range<|by lia]at hd;cases hd;obtain⟨b',rfl,dS,_⟩:=u6 rd;refine(me b' _ rfl (SqT.of<|p1 _ _ dS) rfl _ _ rfl _<|nu _ rfl _ _ ⟨rfl,rfl,?_⟩);refine⟨Agree.set (Agree.set (Agree.set (Agree.refl _) rfl) rfl) rfl,?_⟩;have Ab:bh "#" = ⟨#[35]⟩:=by decide +kernel
  have ed:(!decide (V.str ⟨#[M.g (i/M.w) (i % M.w)]⟩=V.str (bh "#"))) = !(M.g (i/M.w) (i % M.w)==35):=by rw[xp _ 35 Ab]
  refine(np _ rfl rfl _ ⟨rfl,?_⟩);rw[ed];have os:=anx M i;refine sr (λh=>?_) λh=>?_
  .rw[if_pos h]at os;refine(oo _ rfl _ ⟨rfl,sZ2,λt ht=>?_⟩);generalize g1:upd G t _=G2 at *;obtain⟨s2,e2⟩:=al ht g1;have eG:=s2 _ _ bJ;refine p9 (by lia) eG dP ⟨(p1.trans s2).new hD,?_⟩;rw[os,bu];refine((p2.same s2).snoc (qp e2)).tk (Tk.lst eG) ?_;have:=arc M<|oix M i++[i];rw[bu]at this;exact this
  .rw[if_neg h,ff]at os;exact⟨_,bJ,Nat.le_succ_of_le dP,p1,by rw[os];exact p2⟩
 .obtain⟨p1,p2⟩:=p;rw[A9]at p2;exact q D zs G (s1.trans p1) (s1.free hD) bJ p2
noncomputable def chD(a:Nat):U:=.str ⟨#[a]⟩
noncomputable def prB(ads:Z U)(a b:Nat):Bool:=ads.any λe=>bo e<|.tuple [chD a,chD b]
noncomputable def Cm(ads:Z U)(a b:Nat):Bool:=prB ads (hX a b)<|max a b
theorem afc{a b:Nat}{es:Z U}(pe:es.Perm [chD a,chD b])(so:es.Pairwise (λx y=>ltX y x=false)):es=[chD (hX a b),chD<|max a b]:=by
 have hl:=pe.length_eq
 match es,hl with
 | [x,y],_=>
  have hx:=pe.mem_iff.mp<|ao (a:=x) (l:=[y]);have oX:∀c d:Nat,ltX (chD d) (chD c)=false->c<=d:=λc d h=>by have h:=of_decide_eq_false h;exact Nat.le_of_not_lt λz=>h<|List.Lex.rel z
  have h1:=(gh.mp so).1 y (ar.mpr rfl);rcases ax.mp hx with rfl|hx
  .have hy:y=chD b:=List.singleton_perm_singleton.mp<|(List.perm_cons _).mp pe;subst hy;have:=oX _ _ h1;rw[ft this,Nat.max_eq_right this]
  .have hx:=ar.mp hx;subst hx;have hy:y=chD a:=List.singleton_perm_singleton.mp<|(List.perm_cons _).mp (pe.trans<|List.Perm.swap _ _ _);subst hy;have:=oX _ _ h1;rw[Nat.min_eq_right this,Nat.max_eq_left this]
def au6:Sp:=λvs H Q _=>∃(e:aF)(a b:Nat)(eQ:Z V)(ads:Z U),vs=[.ref e,chV a,chV b]/\a<128/\b<128/\H e=some (.tup eQ)/\RepAll H ads eQ/\∀(H':Hp),Same H H'->Q (.bl<|Cm ads a b) H'
def awu:mj ZX ZX (l0 Ip):={}
def asj(B:∀x∈sk,mg x=none)(F:Fun K "is_kept_apart" "is_kept_apart" Ip f fd):qm P w K mg base CX0 1 f fd ZX au6:=by
 refine F.ok (k:=0) awu (λvs H Q E h=>?_) λbW A outer s H vs Q E hr h=>?_
 .obtain⟨_,_,_,_,_,rfl,_⟩:=h;rfl
 obtain⟨e,a,b,eQ,ads,rfl,ha,hb,he,rep,q⟩:=h;have hu:=hr.units;refine⟨_,(lq<|mr<|sw (Jq hu) (pCT m7 ku<|lj (pCB yn fK<|lj (ot<|lj (pv 1)<|lj (pv 2) lc) lc) lc) (pv 0) rfl),?_⟩;refine(oo _ rfl _ ⟨rfl,sZ2,λl hl=>?_⟩);generalize g1:upd H l _=H1 at *;obtain⟨s1,e1⟩:=al hl g1;clear g1;refine(mz l _ ([.str ⟨#[a]⟩,.str ⟨#[b]⟩]) ⟨rfl,e1,(sq _ _ rfl ⟨rfl,ok1 ha⟩ _ _ ⟨rfl,⟨rfl,ok1 hb⟩,rfl⟩),(λd hd=>?_),λl2 ys es fP pe so re=>?_⟩)
 .simp only[ax,df,or_false]at hd;rcases hd with rfl|rfl<;>exact⟨_,rfl⟩
 generalize g1:upd H1 l2 _=H2 at *;obtain⟨s2,e2⟩:=al fP g1;clear g1;refine(l8 l2 ys ⟨rfl,.inl ⟨SqL.of e2,λt ht=>?_⟩⟩);generalize g1:upd H2 t _=H3 at *;obtain⟨s3,e3⟩:=al ht g1;clear g1;have Fu:=(s1.trans s2).trans s3;cases afc pe so;exact(lr _ rfl (.tuple _) e eQ ads ⟨(l8 t ys ⟨rfl,e3,re.same s3⟩),rfl,.inr<|Fu _ _ he,rep.same Fu,(by simp[jy,ca,chD]),q H3 Fu⟩)
noncomputable def zf(r c:Nat):Z Key:=[Sum.inl ((r:Nat):Int),Sum.inl ((c:Nat):Int)]
def wy{r c r' c':Nat}(h:zf r c=zf r' c'):r=r'/\c=c':=by
 unfold zf at h;injection h with h1 h2
 injection h2 with h2 _
 exact⟨Int.ofNat.inj<|Sum.inl.inj h1,Int.ofNat.inj<|Sum.inl.inj h2⟩
def avk{es:Z U}{n:Nat}(h:0<n):0<(FS es n).length:=by have:ua es 0∈FS es n:=(qc _).mem_iff.mpr (ddp_mem.mpr<|mem_forms.mpr ⟨0,h,rfl⟩);exact List.length_pos_of_mem this
def ats{G:Hp}{tk:aF}{kvs fO:Z (Z Key×V)}(h:G tk=some (.dT kvs)):Tk G (upd G tk<|.dT fO):=λc zs hc=>by rw[ma (λe=>by rw[e,h]at hc;cases hc)];exact hc
noncomputable abbrev Sg:=Nat×Nat×Nat
noncomputable def sgD(s:Sg):U:=.tuple [.int (s.1:Nat),.int (s.2.1:Nat),.str ⟨#[s.2.2]⟩]
noncomputable abbrev Pc:=Z Sg×Nat
noncomputable def pcD(p:Pc):U:=.tuple [.tuple (p.1.map sgD),.int (p.2:Nat)]
def PcO(p:Pc):Prop:=(∀s∈p.1,Ltr s.2.2)/\0<p.1.length/\p.1.length<=6
def LyO(nk:Nat)(L:Z Pc):Prop:=∀p∈L,PcO p/\p.2<nk
def AF{ss:Z Sg}(h:∀s∈ss,Ltr s.2.2):∀d∈ss.map sgD,SgN d:=λd hd=>by obtain⟨s,hs,rfl⟩:=aw.mp hd;exact(mz _ _ _ ⟨rfl,h s hs⟩)
def PcO.pl{p:Pc}(h:PcO p):PlD (pcD p):=(l8 _ _ ⟨rfl,AF h.1,by rw[ae];exact h.2.1,by rw[ae];exact h.2.2⟩)
theorem LyO.pl{nk:Nat}{L:Z Pc}(h:LyO nk L):∀d∈L.map pcD,PlD d:=λd hd=>by obtain⟨p,hp,rfl⟩:=aw.mp hd;exact(h p hp).1.pl
theorem IV:∀{es:Z U},(∀e∈es,SgN e)->∃ss:Z Sg,es=ss.map sgD/\∀s∈ss,Ltr s.2.2
 | [],_=>⟨[],rfl,λs hs=>by cases hs⟩
 | e::es,h=>by
  obtain⟨r,c,k,rfl,hk⟩:=h e ao;obtain⟨ss,rfl,hs⟩:=IV λx hx=>h x<|au _ hx;refine⟨(r,c,k)::ss,rfl,λs eB=>?_⟩;rcases ax.mp eB with rfl|h'
  .exact hk
  .exact hs s h'
def aw2{M:Mat}{ks:Z (Z U×Nat)}(hK:KsZ ks){d:U}(h:d∈raw M ks ks.length):∃p:Pc,d=pcD p/\PcO p/\p.2<ks.length:=by obtain⟨es,i,n,hz,rfl,hf,hn⟩:=ase hK d<|PL_mem.mpr h;obtain⟨ss,e,hs⟩:=IV<|SgN.shs (dn:=i/M.w) (rt:=i % M.w)<|Am hz;have hl:=congrArg List.length e;rw[ae,ae]at hl;exact⟨(ss,n),by unfold shT pcD;rw[e],⟨hs,by rw[<-hl];exact hz.pre.pos,by rw[<-hl];exact hz.pre.six⟩,hn⟩
def Lie(M:Mat)(ks:Z (Z U×Nat))(p:Pc):Prop:=pcD p∈raw M ks ks.length
noncomputable abbrev Up(es:Z U):Prop:=es.Pairwise λx y=>ltR y x=false
def E7{es:Z U}(h:Spots es)(u:Up es):ub es=es:=
 Kq (ow es) (se h) u λx hx y hy h1 h2=>by have ro:∀d∈es,∃r c z,d=.tuple [.int r,.int c,.str z]:=h;obtain⟨r,c,z,rfl⟩:=ro x<|(ow es).mem_iff.mp hx;obtain⟨r',c',z',rfl⟩:=ro y<|(ow es).mem_iff.mp hy;have:=EH (ks:=[true,true,false]) (l8 _ _ ⟨rfl,(l8 _ _ ⟨rfl,(l8 _ _ ⟨rfl,rfl⟩)⟩)⟩) (l8 _ _ ⟨rfl,(l8 _ _ ⟨rfl,(l8 _ _ ⟨rfl,rfl⟩)⟩)⟩) h2 h1;exact congrArg PyData.tuple this
def ER{es:Z U}(h:Spots es){a b:Int}{f:U->U}(hf:∀(r c:Int)(z:Str),f (.tuple [.int r,.int c,.str z])=.tuple [.int (r+a),.int<|c+b,.str z])(u:Up es):Up (es.map f):=by
 refine gq.mpr<|gv (λ{x y} hx hy zH=>?_) u;obtain⟨r,c,z,rfl⟩:=h x hx;obtain⟨r',c',z',rfl⟩:=h y hy;rw[hf,hf];have h1:pk [.int r',.int c',.str z'] [.int r,.int c,.str z]=false:=zH;show pk [.int (r'+a),.int<|c'+b,.str z'] [.int (r+a),.int<|c+b,.str z]=false;rw[vt,vt]at h1⊢;by_cases e1:r'=r
 .rw[if_pos e1]at h1;rw[if_pos (by lia)];by_cases e2:c'=c
  .rw[if_pos e2]at h1;rw[if_pos (by lia)];exact h1
  .rw[if_neg e2]at h1;rw[if_neg (by lia)];have:=of_decide_eq_false h1;exact decide_eq_false<|by lia
 .rw[if_neg e1]at h1;rw[if_neg (by lia)];have:=of_decide_eq_false h1;exact decide_eq_false<|by lia
def EN{M:Mat}{ss:Z Sg}(hL:∀s∈ss,Ltr s.2.2)(h:mO M (.tuple<|ss.map sgD)=true):∀s∈ss,s.1<M.h/\s.2.1<M.w/\M.g s.1 s.2.1≠35:=λs hs=>by
 have h1:=List.all_eq_true.mp h (sgD s)<|cm hs;have h2:okS (gA M s.1 s.2.1) s.2.2=true:=by rw[<-Jm];exact h1
 have h35:∀k<91,65<=k->okS 35 k=false:=by decide +kernel
 have hk:=hL s hs;have Dt:gA M s.1 s.2.1≠35:=λe=>by rw[e,h35 _ (by have:=hk.2;lia) hk.1]at h2;cases h2
 unfold gA at Dt;split at Dt
 .rename_i h;exact⟨h.1,h.2,Dt⟩
 .exact absurd rfl Dt
def CP{M:Mat}{ks:Z (Z U×Nat)}{p:Pc}{k:Z U×Nat}(hP:PcO p)(hk:ks[p.2]?=some k)(hK:KsZ ks) :
  Lie M ks p↔ub (p.1.map sgD)=p.1.map sgD/\mO M (.tuple<|p.1.map sgD)=true/\.tuple (ub<|nw<|p.1.map sgD)∈FS k.1 k.2:=by
 have gM:Spots (p.1.map sgD):=SgN.spots<|AF hP.1;have hz:=(hK k<|ak hk).1;constructor
 .intro h;obtain⟨n,k',hn,eD,hm⟩:=mem_raw.mp h;obtain⟨es,i,h1,h2,h3,h4⟩:=(E5 (hK k'<|ak eD).1).mp hm;unfold pcD at h3;injection h3 with h3
  injection h3 with e1 h3
  injection h3 with e2 _
  injection e2 with e2
  have en:p.2=n:=by lia
  subst en;rw[hk]at eD;cases eD;obtain⟨t,ht⟩:=Jl _ h1;unfold ua at ht;injection ht with ht
  have kF:=sv hz t;have hsz:Spots (u8 t k.1):=λd hd=>kF.pre.spots d<|(ow _).mem_iff.mpr hd;have vB:Up es:=by rw[<-ht];exact se hsz
  rw[ht]at kF;unfold shT at e1;injection e1 with e1
  rw[e1]at gM⊢;have u2:=ER kF.pre.spots (a:=((i/M.w:Nat):Int)) (b:=((i % M.w:Nat):Int)) (f:=sh1 ((i/M.w:Nat):Int) ((i % M.w:Nat):Int)) (λr c z=>rfl) vB;refine⟨E7 gM u2,h4,?_⟩;have e3:nw (es.map<|sh1 ((i/M.w:Nat):Int) ((i % M.w:Nat):Int))=es:=by
   unfold nw;rw[aot kF.pre.spots,ao2 kF.pre.spots,E1<|by rw[ae];exact kF.pre.pos,E1<|by rw[ae];exact kF.pre.pos,kF.r0,kF.c0,Int.zero_add,Int.zero_add,bm]
   conv=>rhs;rw[<-List.map_id es]
   exact oa kF.pre.spots λr c z=>by show PyData.tuple [.int (r+_-_),.int<|c+_-_,.str z]=.tuple [.int r,.int c,.str z];rw[Int.add_sub_cancel,Int.add_sub_cancel]
  rw[e3,E7 kF.pre.spots vB];exact h1
 .rintro⟨h1,h2,h3⟩;have vB:Up (p.1.map sgD):=by rw[<-h1];exact se gM
  have xE:=EN hP.1 h2;have hl:0<(p.1.map sgD).length:=by rw[ae];exact hP.2.1
  have m1:=rj (ns:=(p.1.map sgD).map qw) (by rw[ae];exact hl);have m2:=rj (ns:=(p.1.map sgD).map qu) (by rw[ae];exact hl);have Hy:ub (nw<|p.1.map sgD)=nw (p.1.map sgD):=by have u2:=ER gM (a:=-qx ((p.1.map sgD).map qw)) (b:=-qx ((p.1.map sgD).map qu)) (f:=ym (qx<|(p.1.map sgD).map qw)<|qx<|(p.1.map sgD).map qu) (λr c z=>rfl) vB;refine E7 (λd hd=>?_) u2;obtain⟨x,hx,rfl⟩:=aw.mp hd;obtain⟨r,c,z,rfl⟩:=gM x hx;exact(mz _ _ _ rfl)
  rw[Hy]at h3;unfold nw at h3;generalize qx ((p.1.map sgD).map qw)=a at *;generalize qx ((p.1.map sgD).map qu)=b at *;rw[bm]at m1 m2;obtain⟨s1,DI,e1⟩:=aw.mp m1;obtain⟨s2,DH,e2⟩:=aw.mp m2;have e1:((s1.1:Nat):Int)=a:=e1;have e2:((s2.2.1:Nat):Int)=b:=e2;have b1:=(xE s1 DI).1;have b2:=(xE s2 DH).2.1;subst e1;subst e2;have hn:=(aj.mp hk).1;have e4:shT M ((p.1.map sgD).map (ym (s1.1:Nat) (s2.2.1:Nat))) (s1.1*M.w+s2.2.1)=.tuple (p.1.map sgD):=by
   unfold shT;rw[Aw b2,AH b2,bm]
   conv=>rhs;rw[<-List.map_id (p.1.map sgD)]
   refine congrArg PyData.tuple<|oa gM λr c z=>?_;show PyData.tuple [.int (r-_+_),.int<|c-_+_,.str z]=.tuple [.int r,.int c,.str z];rw[Int.sub_add_cancel,Int.sub_add_cancel]
  refine mem_raw.mpr<|l8 p.2 k ⟨hn,hk,(E5 hz).mpr (l8 _ (s1.1*M.w+s2.2.1) ⟨h3,?_,?_,?_⟩)⟩
  .have:(s1.1+1)*M.w<=M.h*M.w:=Nat.mul_le_mul_right _ b1;rw[Nat.add_mul,Nat.one_mul]at this;lia
  .rw[e4];rfl
  .rw[e4];exact h2
open Classical in
noncomputable def sP(P:Nat->Prop)(n:Nat):Option Nat:=(cp n).find? λi=>decide<|P i
open Classical in
def v9{P:Nat->Prop}{n k:Nat}(h:k<n)(hP:P k)(hl:∀j,j<k->¬P j):sP P n=some k:=
 List.find?_range_eq_some.mpr ⟨decide_eq_true hP,gg.mpr h,λj hj=>by simp[hl j hj]⟩
open Classical in
def qo{P:Nat->Prop}{n:Nat}(h:∀j,j<n->¬P j):sP P n=none:=
 List.find?_range_eq_none.mpr λj hj=>by simp[h j hj]
noncomputable def ce(s:Sg):Nat×Nat:=(s.1,s.2.1)
noncomputable def cls(L:Z Pc):Z (Nat×Nat):=L.flatMap λp=>p.1.map ce
noncomputable def uf(q:Nat×Nat):U:=clD (q.1:Nat) (q.2:Nat)
noncomputable def cq(w i:Nat):Nat×Nat:=(i/w,i % w)
noncomputable abbrev En:=(Nat×Nat)×(Nat×Nat)
noncomputable def en(k:Nat)(s:Sg):En:=(ce s,(k,s.2.2))
noncomputable def ens:Z Pc->Nat->Z En
 | [],_=>[]
 | p::L,k=>p.1.map (en k)++ens L (k+1)
theorem JD:∀(A B:Z Pc)(k:Nat),ens (A++B) k=ens A k++ens B (k+A.length)
 | [],B,k=>rfl
 | p::A,B,k=>by show p.1.map (en k)++ens (A++B) (k+1)=p.1.map (en k)++ens A (k+1)++_;rw[JD,bp,b7,show k+1+A.length=k+(A.length+1)from by lia]
def am0{L:Z Pc}{i:Nat}{p:Pc}(h:L[i]?=some p):ens (L.take<|i+1) 0=ens (L.take i) 0++p.1.map (en i):=by have hi:=(aj.mp h).1;rw[List.take_add_one,h,JD,b8,ft<|dg hi,Nat.zero_add];show _++(p.1.map (en i)++[])=_;rw[ff]
theorem xo:∀(L:Z Pc)(k:Nat),(ens L k).map (·.1)=cls L
 | [],_=>rfl
 | p::L,k=>by show(p.1.map (en k)++ens L (k+1)).map (·.1)=p.1.map ce++cls L;rw[bu,xo,bm];rfl
noncomputable def yi(es:Z En):Nat×Nat->Option (Nat×Nat):=es.foldl (λf e q=>if q=e.1 then some e.2 else f q) λ_=>none
def J5(es:Z En)(e:En)(q:Nat×Nat):yi (es++[e]) q=if q=e.1 then some e.2 else yi es q:=by unfold yi;rw[List.foldl_append];rfl
theorem ai1:∀(es:Z En) (f:Nat×Nat->Option (Nat×Nat)) {q v:Nat×Nat},es.foldl (λf e q=>if q=e.1 then some e.2 else f q) f q=some v->f q=some v\/(q,v)∈es
 | [],f,q,v,h=>.inl h
 | e::es,f,q,v,h=>by
  rcases ai1 es _ h with h|h
  .by_cases hq:q=e.1
   .simp only[hq,if_true]at h;cases h;subst hq;exact .inr ao
   .simp only[hq,if_false]at h;exact .inl h
  .exact .inr<|au _ h
def EO{es:Z En}{q v:Nat×Nat}(h:yi es q=some v):(q,v)∈es:=by
 rcases ai1 es _ h with h|h
 .cases h
 .exact h
def CQ{L:Z Pc}{q v:Nat×Nat}(h:yi (ens L 0) q=some v):q∈cls L:=by rw[<-xo L 0];exact cm (f:=(·.1))<|EO h
noncomputable def oth(w j:Nat):Nat×Nat:=if j % 2=0 then(j/2/w,j/2 % w+1)else(j/2/w+1,j/2 % w)
def Ap4(w:Nat)(es:Z En)(ads:Z U)(j:Nat):Prop:=∃k s k' s',yi es (cq w<|j/2)=some (k,s)/\yi es (oth w j)=some (k',s')/\k≠k'/\Cm ads s s'=true
def Bad(aX:Z (Int×Option Int))(L:Z Pc)(n:Nat):Prop:=∃q,aX[n]?=some q/\(((L.map (·.2)).count n:Nat)<q.1\/∃m,q.2=some m/\m<((L.map (·.2)).count n:Nat))
noncomputable def yH(o:Option Nat)(f:Nat->U):U:=match o with|some k=>f k|none=>.none
noncomputable def lk1(M:Mat)(ks:Z (Z U×Nat))(L:Z Pc):U:=yH (sP (λk=>∃p,L[k]?=some p/\¬Lie M ks p) L.length) λk=>.tuple [.str "piece",.int (k:Nat)]
noncomputable def lk2(M:Mat)(L:Z Pc):U:=yH (sP (λi=>1<(cls L).count (cq M.w i))<|M.h*M.w) λi=>.tuple [.str "twice",cdx M i]
noncomputable def lk3(M:Mat)(L:Z Pc):U:=yH (sP (λi=>yy (M.g (i/M.w)<|i % M.w)=true/\cq M.w i∉cls L)<|M.h*M.w) λi=>.tuple [.str "bare",cdx M i]
noncomputable def lk4(M:Mat)(ads:Z U)(L:Z Pc):U:=yH (sP (Ap4 M.w (ens L 0) ads)<|2*(M.h*M.w)) λj=>.tuple [.str "apart",cdx M<|j/2,uf<|oth M.w j]
noncomputable def lk5(aX:Z (Int×Option Int))(L:Z Pc):U:=yH (sP (Bad aX L) aX.length) λn=>.tuple [.str "count",.int (n:Nat)]
noncomputable def orD(a b:U):U:=match a with|.none=>b|a=>a
noncomputable def uF(M:Mat)(ks:Z (Z U×Nat))(ads:Z U)(aX:Z (Int×Option Int))(L:Z Pc):U:=orD (lk1 M ks L)<|orD (lk2 M L)<|orD (lk3 M L)<|orD (lk4 M ads L)<|orD (lk5 aX L)<|.tuple [.str "good"]
noncomputable def ixD(w:Nat):U->Nat
 | .tuple [.int r,.int c]=>r.toNat*w+c.toNat
 | _=>0
noncomputable def cdw(w i:Nat):U:=clD ((i/w:Nat):Int) ((i % w:Nat):Int)
def ap0{w:Nat}{kvs:Z (Z Key×V)}{es:Z U}(hk:∀kv∈kvs,∃q:Nat×Nat,kv.1=zf q.1 q.2/\q.2<w)(nd:(kvs.map (·.1)).Nodup)(pe:es.Perm (kvs.map λkv=>kT kv.1))(u:Up es) :
  ∃is:Z Nat,es=is.map (cdw w)/\is.Pairwise (· < ·)/\∀i,i∈is↔∃kv∈kvs,kv.1=zf (i/w) (i % w):=by
 have iQ:∀d∈es,∃q:Nat×Nat,d=uf q/\q.2<w/\∃kv∈kvs,kv.1=zf q.1 q.2:=λd hd=>by obtain⟨kv,jS,rfl⟩:=aw.mp<|pe.mem_iff.mp hd;obtain⟨q,e,hq⟩:=hk kv jS;exact(np q (by rw[e];rfl) hq kv ⟨jS,e⟩)
 have xL:∀q:Nat×Nat,ixD w (uf q)=q.1*w+q.2:=λq=>by show((q.1:Nat):Int).toNat*w+((q.2:Nat):Int).toNat=_;rw[ci,ci]
 have hb:∀q:Nat×Nat,q.2<w->cdw w (q.1*w+q.2)=uf q:=λq hq=>by unfold cdw;rw[Aw hq,AH hq];rfl
 have nde:es.Nodup:=by
  refine pe.nodup_iff.mpr<|gq.mpr<|gv (λ{x y} hx hy zH=>?_)<|gq.mp nd;intro e;obtain⟨q,e1,_⟩:=hk x hx;obtain⟨q',e2,_⟩:=hk y hy;rw[e1,e2]at zH e;have e:uf q=uf q':=e;unfold uf clD at e;injection e with e
  injection e with e3 e
  injection e with e4 _
  injection e3 with e3
  injection e4 with e4
  exact zH<|by rw[show q.1=q'.1 from by lia,show q.2=q'.2 from by lia]
 refine⟨es.map<|ixD w,?_,?_,λi=>?_⟩
 .rw[bm]
  conv=>lhs;rw[<-List.map_id es]
  refine dv λd hd=>?_;obtain⟨q,rfl,hq,_⟩:=iQ d hd;show _=cdw w (ixD w<|uf q);rw[xL,hb q hq];rfl
 .refine gq.mpr<|gv (λ{x y} hx hy zH=>?_)<|u.and nde;obtain⟨q,rfl,hq,_⟩:=iQ x hx;obtain⟨q',rfl,kG,_⟩:=iQ y hy;obtain⟨h1,h2⟩:=zH;rw[xL,xL];have h1:pk [.int (q'.1:Nat),.int (q'.2:Nat)] [.int (q.1:Nat),.int (q.2:Nat)]=false:=h1;rw[vt,vt]at h1;by_cases er:q.1=q'.1
  .rw[if_pos (by lia)]at h1;by_cases ec:q.2=q'.2
   .exact absurd (by rw[show q=q' from Prod.ext er ec]) h2
   .rw[if_neg (by lia)]at h1;have:=of_decide_eq_false h1;rw[er];lia
  .rw[if_neg (by lia)]at h1;have:=of_decide_eq_false h1;have h3:(q.1+1)*w<=q'.1*w:=Nat.mul_le_mul_right _ (by lia);rw[Nat.add_mul,Nat.one_mul]at h3;lia
 .rw[aw];constructor
  .rintro⟨d,hd,rfl⟩;obtain⟨q,rfl,hq,kv,jS,e⟩:=iQ d hd;rw[xL,Aw hq,AH hq];exact⟨kv,jS,e⟩
  .rintro⟨kv,jS,e⟩;obtain⟨q,e2,hq⟩:=hk kv jS;rw[e2]at e;obtain⟨a1,a2⟩:=wy e;refine⟨uf q,pe.mem_iff.mpr<|aw.mpr ⟨kv,jS,by rw[e2];rfl⟩,?_⟩;rw[xL,a1,a2,Nat.mul_comm];exact Nat.div_add_mod i w
def J4{P:Nat->Prop}{is:Z Nat}(u:is.Pairwise (· < ·))(hm:∀i,P i->i∈is){t i:Nat}(ht:is[t]?=some i)(hb:∀j i',j<t->is[j]?=some i'->¬P i'):∀m,m<i->¬P m:=λm hmi hP=>by
 obtain⟨j,hj⟩:=dz<|hm m hP;by_cases hjt:j<t
 .exact hb j m hjt hj hP
 .obtain⟨h1,e1⟩:=aj.mp ht;obtain⟨h2,e2⟩:=aj.mp hj;by_cases e:j=t
  .subst e;lia
  .have:=fw.mp u t j h1 h2 (by lia);lia
def Jd{a b:Nat×Nat}:bo (uf a) (uf b)=decide (a=b):=by
 rw[jk,decide_eq_true_iff];constructor
 .intro h;have:=CK _ _ rfl rfl h;unfold uf clD at this;injection this with this
  injection this with e1 this
  injection this with e2 _
  injection e1 with e1
  injection e2 with e2
  exact Prod.ext (by lia)<|by lia
 .rintro rfl;exact SeqAt.eqv_refl _ rfl
noncomputable def aua:Option Int->V
 | some m=>.int m
 | none=>.non
def BndK(H:Hp)(kvs:Z V)(aX:Z (Int×Option Int)):Prop:=kvs.length=aX.length/\∀(i:Nat) v q,kvs[i]?=some v->aX[i]?=some q->∃b u0 u3 u4,v=.ref b/\H b=some (.tup [u0,.int q.1,aua q.2,u3,u4])
def BndK.same{H H':Hp}{kvs:Z V}{aX:Z (Int×Option Int)}(h:BndK H kvs aX)(s:Same H H'):BndK H' kvs aX:=⟨h.1,λi v m h1 h2=>by obtain⟨b,u0,u3,u4,rfl,hb⟩:=h.2 i v m h1 h2;exact(mf b u0 u3 u4 ⟨rfl,s _ _ hb⟩)⟩
def PzJ(H:Hp)(p:aF)(M:Mat)(ks:Z (Z U×Nat))(aX:Z (Int×Option Int))(ads:Z U):Prop:=∃fl kr e kvs eQ,H p=some (.tup [.ref fl,.ref kr,.ref e])/\FlM H fl M/\H kr=some (.tup kvs)/\KindsK H kvs ks/\ks.length<=6/\BndK H kvs aX/\H e=some (.tup eQ)/\RepAll H ads eQ
theorem PzJ.same{H H':Hp}{p:aF}{M:Mat}{ks:Z (Z U×Nat)}{aX:Z (Int×Option Int)}{ads:Z U}(h:PzJ H p M ks aX ads)(s:Same H H'):PzJ H' p M ks aX ads:=by obtain⟨fl,kr,e,kvs,eQ,h1,h2,h3,h4,h5,h6,h7,h8⟩:=h;exact(lw fl kr e kvs eQ ⟨s _ _ h1,h2.same s,s _ _ h3,h4.same s,h5,h6.same s,s _ _ h7,h8.same s⟩)
def PzJ.pz{H:Hp}{p:aF}{M:Mat}{ks:Z (Z U×Nat)}{aX:Z (Int×Option Int)}{ads:Z U}(h:PzJ H p M ks aX ads):PzK H p M ks:=by obtain⟨fl,kr,e,kvs,eQ,h1,h2,h3,h4,h5,_⟩:=h;exact(mf fl kr e kvs ⟨h1,h2,h3,h4,h5⟩)
def LyH(H:Hp)(l:aF)(L:Z Pc):Prop:=∃xs,H l=some (.lst xs)/\RepAll H (L.map pcD) xs
theorem LyH.same{H H':Hp}{l:aF}{L:Z Pc}(h:LyH H l L)(s:Same H H'):LyH H' l L:=by obtain⟨xs,h1,h2⟩:=h;exact⟨xs,s _ _ h1,h2.same s⟩
def Au{H:Hp}{L:Z Pc}{xs:Z V}{i:Nat}{x:V}(rep:RepAll H (L.map pcD) xs)(hx:xs[i]?=some x):∃p,L[i]?=some p/\Rep H (pcD p) x:=by obtain⟨d,hd,rd⟩:=rep.at hx;rw[bz]at hd;obtain⟨p,hp,rfl⟩:=db.mp hd;exact⟨p,hp,rd⟩
def AC{H:Hp}{p:Pc}{x:V}(h:Rep H (pcD p) x):∃b eb gE,x=.ref b/\H b=some (.tup [.ref eb,.int (p.2:Nat)])/\H eb=some (.tup gE)/\RepAll H (p.1.map sgD) gE:=by obtain⟨b,bxs,rfl,hb,x0,r0,rfl,⟨eb,gE,rfl,jV,cI⟩,x1,r1,rfl,h1,h2⟩:=h;cases (show r1=[]from h2);cases (show x1=_ from h1);exact(mz b eb gE ⟨rfl,hb,jV,cI⟩)
def yL{H:Hp}{ss:Z Sg}{xs:Z V}{i:Nat}{x:V}(rep:RepAll H (ss.map sgD) xs)(hx:xs[i]?=some x):∃s b,ss[i]?=some s/\x=.ref b/\H b=some (.tup [.int (s.1:Nat),.int (s.2.1:Nat),.str ⟨#[s.2.2]⟩]):=by obtain⟨d,hd,rd⟩:=rep.at hx;rw[bz]at hd;obtain⟨s,hs,rfl⟩:=db.mp hd;obtain⟨b,rfl,hb,_⟩:=u6 rd;exact(l8 s b ⟨hs,rfl,hb⟩)
def CA{M:Mat}{ks:Z (Z U×Nat)}(hK:KsZ ks){L:Z Pc}(hO:LyO ks.length L)(hL:∀p∈L,Lie M ks p){q:Nat×Nat}(h:q∈cls L):q.1<M.h/\q.2<M.w/\M.g q.1 q.2≠35:=by obtain⟨p,hp,h⟩:=List.mem_flatMap.mp h;obtain⟨s,hs,rfl⟩:=aw.mp h;obtain⟨hP,hn⟩:=hO p hp;exact EN hP.1 ((CP hP (ah hn) hK).mp (hL p hp)).2.1 s hs
def oix_mem{M:Mat}{i:Nat}:i∈oix M (M.h*M.w)↔i<M.h*M.w/\M.g (i/M.w) (i % M.w)≠35:=by unfold oix;rw[List.mem_filter,gg];simp
def apb(M:Mat)(n:Nat):(oix M n).Pairwise (· < ·):=List.Pairwise.filter _ List.pairwise_lt_range
def auz{M:Mat}{i:Nat}(hw:0<M.w)(h:i/M.w<M.h):i<M.h*M.w:=(Nat.div_lt_iff_lt_mul hw).mp h
def aqg{M:Mat}{ks:Z (Z U×Nat)}(hw:0<M.w)(hK:KsZ ks){L:Z Pc}(hO:LyO ks.length L)(hL:∀p∈L,Lie M ks p){i:Nat}(h:cq M.w i∈cls L):i∈oix M (M.h*M.w):=by obtain⟨h1,h2,h3⟩:=CA hK hO hL h;exact oix_mem.mpr ⟨auz hw h1,h3⟩
theorem JC{nk:Nat}:∀{L:Z Pc},LyO nk L->(cls L).length<=L.length*6
 | [],_=>fj _
 | p::L,h=>by have h1:=JC (L:=L) λq hq=>h q<|au _ hq;have h2:=(h p ao).1.2.2;show(p.1.map ce++cls L).length<=_;rw[be,ae,b7];lia
def anw{L:Z Pc}{i:Nat}{p:Pc}(h:L[i]?=some p):cls (L.take<|i+1)=cls (L.take i)++p.1.map ce:=by unfold cls;rw[List.take_add_one,h,List.flatMap_append];show _++(p.1.map ce++[])=_;rw[ff]
def alw(l:Z (Nat×Nat)):o9 (l.map uf)=true:=qj λd hd=>by obtain⟨i,_,rfl⟩:=aw.mp hd;rfl
def aqt(l:Z (Nat×Nat))(q:Nat×Nat):(l.map uf).countP (λe=>bo e<|uf q)=l.count q:=by rw[List.countP_map];unfold List.count;refine List.countP_congr λx _=>?_;show bo (uf x) (uf q)=true↔_;rw[Jd];simp
def ap9(l:Z (Nat×Nat))(q:Nat×Nat):((l.map uf).any λe=>bo e<|uf q)=decide (q∈l):=by
 rw[List.any_map,jk,List.any_eq_true,decide_eq_true_iff];constructor
 .rintro⟨x,hx,h⟩;have h:bo (uf x) (uf q)=true:=h;rw[Jd]at h;rw[<-of_decide_eq_true h];exact hx
 .intro h;exact⟨q,h,by show bo (uf q) (uf q)=true;rw[Jd];exact decide_eq_true rfl⟩
def pY(R:Mat->Z (Z U×Nat)->Z (Int×Option Int)->Z U->Z Pc->U)(pre:Mat->Z (Z U×Nat)->Pc->Prop):Sp:=λvs H Q _=>∃(pz l:aF)(M:Mat) (ks:Z (Z U×Nat)) (aX:Z (Int×Option Int)) (ads:Z U) (L:Z Pc),vs=[.ref pz,.ref l]/\PzJ H pz M ks aX ads/\LyH H l L/\LyO ks.length L/\L.length<=14/\(∀p∈L,pre M ks p)/\
 ∀(v:V)(H':Hp),Same H H'->Rep H' (R M ks aX ads L) v->Q v H'
def scStr:mj ["puzzle","laying","known","k","placement"] Z9 (l0 Ij):={}
def atf(B:∀x∈sk,mg x=none)(Ky:Fn P w K mg base "placements" 6 ["puzzle"] au3)(F:Fun K "strange_piece" "strange_piece" Ij f fd):qm P w K mg base CX0 7 f fd Z9 (pY (λM ks _ _ L=>lk1 M ks L) λ_ _ _=>True):=by
 refine F.ok (k:=6) scStr (λvs H Q E h=>?_) λbW A outer s H vs Q E hr h=>?_
 .obtain⟨_,_,_,_,_,_,_,rfl,_⟩:=h;rfl
 obtain⟨pz,l,M,ks,aX,ads,L,rfl,hP,⟨xs,hl,rep⟩,hO,pV,_,q⟩:=h;have q:∀(v:V)(H':Hp),Same H H'->Rep H' (lk1 M ks L) v->Q v H':=q;have hu:=hr.units;have hPz:=hP.pz;obtain⟨_,_,_,_,_,_,_,lA,_⟩:=id hPz;have pT:=lA.z;have lx:=rep.length;rw[ae]at lx;refine⟨_,(lg (psN 2 scStr.nd<|pfn Ky<|lj (pv 0) lc)
  (lg (pfo (pEL<|lj (pv 1) lc) (si (n:=2) rfl<|ln (pgN 3 scStr.nd)<|ln (pgN 4 scStr.nd) ni)<|lq<|rg (nv (zw hu) (pv 4) (pv 2) rfl) (lq<|mr<|my<|lj m9<|lj (pv 3) lc) o0)
  (lq<|mr tj))),?_⟩
 refine(oj _ rfl pz M ks ⟨rfl,hPz,λD ys H1 s1 vK hD FB=>?_⟩);refine(oo _ rfl l ⟨rfl,⟨_,SqL.of<|s1 _ _ hl⟩,?_⟩);refine alt (xs:=xs) (λi σ' G=>∃(y3 y4:Option V),σ'=[some (.ref pz),some<|.ref l,some<|.ref D,y3,y4]/\Same H1 G/\∀j,j<i->¬∃p,L[j]?=some p/\¬Lie M ks p) ?_ (λi σ' G hI=>?_) (λi x pr σ' G hx xB hI=>?_) λσ' G hI=>?_
 .exact(l8 _ _ ⟨rfl,Same.refl _,λj hj=>absurd hj<|jb _⟩)
 .obtain⟨_,_,_,sg,_⟩:=hI;exact SqL.of<|sg _ _<|s1 _ _ hl
 .obtain⟨y3,y4,rfl,sg,bB⟩:=hI;obtain⟨p,hp,rd⟩:=Au rep hx;have lB:=(hO p<|ak hp).1;refine(me pr _ rfl (SqT.of l9) rfl _ _ rfl _ ⟨_,rfl,rfl,?_⟩);generalize g1:upd G pr _=G2 at *;obtain⟨s2,e2⟩:=al xB g1;clear g1;have cX:=sg.trans s2;have sN:=lB.pl.depth;refine(mh _ rfl _ rfl (pcD p) D ys ⟨PL M ks,Rep.same (s1.trans cX) rd,rfl,.inl<|cX _ _ hD,FB.same cX,by lia,_,rfl,?_⟩);have ea:((PL M ks).any λe=>bo e<|pcD p)=true↔Lie M ks p:=by
   rw[List.any_eq_true];constructor
   .rintro⟨e,he,h⟩;obtain⟨p',e',xY,_⟩:=aw2 pT<|PL_mem.mp he;have:=CK _ _ (by rw[e'];exact xY.pl.key.1.1) lB.pl.key.1.1 h;rw[this]at he;exact PL_mem.mp he
   .intro h;exact⟨pcD p,PL_mem.mpr h,SeqAt.eqv_refl _ rd.lay⟩
  refine sr (λh1=>?_) λh1=>?_
  .rw[if_pos rfl]at h1;have hn:¬Lie M ks p:=λz=>by rw[ea.mpr z]at h1;cases h1
   refine⟨_,rfl,sZ2,λt ht=>?_⟩;generalize g1:upd G2 t _=G3 at *;obtain⟨s3,e3⟩:=al ht g1;clear g1;refine q _ G3 (s1.trans<|cX.trans s3) ?_;have hi:i<L.length:=(aj.mp hp).1;unfold lk1;rw[v9 hi ⟨p,hp,hn⟩ bB];exact(mq t _ rfl e3 _ _ rfl ⟨rfl,by decide +kernel⟩ _ ⟨_,rfl,rfl,rfl⟩)
  .rw[if_pos rfl]at h1;refine(l8 _ _ ⟨rfl,cX,λj hj=>?_⟩);by_cases e:j=i
   .subst e;rintro⟨p',mK,hn⟩;rw[hp]at mK;cases mK;refine hn<|ea.mp ?_;simpa using h1
   .exact bB j<|by lia
 .obtain⟨y3,y4,rfl,sg,bB⟩:=hI;refine q _ G (s1.trans sg) ?_;unfold lk1;rw[qo (λj hj=>bB j<|by lia)];exact rfl
def IN:Sp:=λvs H Q _=>∃(l:aF)(nk:Nat)(L:Z Pc),vs=[.ref l]/\LyH H l L/\LyO nk L/\L.length<=14/\∀(D:aF)(ys:Z V)(H':Hp),Same H H'->H' D=some (.lst ys)->RepAll H' ((cls L).map uf) ys->Q (.ref D) H'
def scCvc:mj ["laying","cells","spots","number"] Z5 (l0 Ig):={}
def aty(F:Fun K "covered_cells" "covered_cells" Ig f fd):qm P w K mg base CX0 1 f fd Z5 IN:=by
 refine F.ok (k:=0) scCvc (λvs H Q E h=>?_) λbW A outer s H vs Q E hr h=>?_
 .obtain⟨_,_,_,rfl,_⟩:=h;rfl
 obtain⟨l,nk,L,rfl,⟨xs,hl,rep⟩,hO,pV,q⟩:=h;have lx:=rep.length;rw[ae]at lx;refine⟨_,(lg (psN 1 scCvc.nd<|ot lc)
  (lg (pfo (o7<|pv 0) (si (n:=2) rfl<|ln (pgN 2 scCvc.nd)<|ln (pgN 3 scCvc.nd) ni)<|lq<|qr<|vn cj PySem.F.slot_list_extend PySem.F.type_list_extend adr (pv 1)<|lj (pcm ["row","column","sign"] [none,none,none] (wl<|pv 2) (λ_=>(ph (n:=3) rfl<|ln (pgC 0)<|ln (pgC 1)<|ln (pgC 2) ni)) (λ_=>om) λ_=>(my<|lj (pv 0)<|lj (pv 1) lc)) lc)
  (lq<|mr<|pv 1))),?_⟩
 refine⟨sZ0,λD hD=>?_⟩;generalize g1:upd H D _=H1 at *;obtain⟨s1,e1⟩:=al hD g1;clear g1;refine(oo _ rfl l ⟨rfl,⟨_,SqL.of<|s1 _ _ hl⟩,?_⟩);refine rn (xs:=xs) (λi σ' G=>∃(y2 y3:Option V)(ys:Z V),σ'=[some (.ref l),some<|.ref D,y2,y3]/\Same H G/\G D=some (.lst ys)/\RepAll G ((cls<|L.take i).map uf) ys) ?_ (λi σ' G hi hI=>?_) (λi x σ' G hx hI=>?_) λσ' G hI=>?_
 .exact(mz _ _ ([]) ⟨rfl,s1,e1,rfl⟩)
 .obtain⟨_,_,_,_,sg,_⟩:=hI;exact SqL.of<|sg _ _ hl
 .obtain⟨y2,y3,ys,rfl,sg,hG,qH⟩:=hI;obtain⟨p,hp,rd⟩:=Au rep hx;have hi:i<L.length:=(aj.mp hp).1;have lB:=(hO p<|ak hp).1;obtain⟨b,eb,gE,rfl,hb,jV,cI⟩:=AC<|Rep.same sg rd;have le:=cI.length;rw[ae]at le;have h6:=lB.2.2;refine(me b _ rfl (SqT.of hb) rfl _ _ rfl _ ⟨_,rfl,rfl,?_⟩);refine(np _ rfl (.inl ⟨rfl,_,SqL.of hG⟩) _ ⟨rfl,eb,rfl,⟨_,SqT.of jV⟩,λD2 eG=>?_⟩);refine tf (xs:=gE) (λk zs J=>Same G J/\RepAll J ((p.1.take k).map λs=>uf<|ce s) zs) ⟨Same.fresh _ eG,rfl⟩ (λk zs J p=>SqT.of<|p.1 _ _ jV) (λk x zs J hx hk bJ dP pp=>?_) λzs J bJ dP pp=>?_
  .obtain⟨p1,p2⟩:=pp;obtain⟨s,b',hs,rfl,dS⟩:=yL cI hx;refine(me b' _ rfl (SqT.of<|p1 _ _ dS) rfl _ _ rfl _<|nu _ rfl _ _ ⟨rfl,rfl,?_⟩);refine⟨Agree.set (Agree.set (Agree.set (Agree.refl _) rfl) rfl) rfl,?_⟩;dsimp only[jY];refine xy ?_;refine(oo _ rfl _ ⟨rfl,sZ2,λt ht=>?_⟩);generalize g1:upd J t _=J2 at *;obtain⟨s2,e2⟩:=al ht g1;clear g1;have lC:=s2 _ _ bJ;refine p9 (by lia) lC dP ⟨(p1.trans s2).new eG,?_⟩;have im:=alw<|(p.1.take<|k+1).map ce;rw[bm]at im;rw[mn (λs=>uf<|ce s) hs];refine((p2.same s2).snoc (show Rep J2 (uf<|ce s) (.ref t)from qp e2)).tk (Tk.lst lC) ?_;rw[<-mn (λs=>uf<|ce s) hs];exact im
  .obtain⟨p1,p2⟩:=pp;rw[bi (by lia)]at p2;have hGJ:=p1 _ _ hG;have ly:=qH.length;have lz:=p2.length;rw[ae]at ly lz;have vI:=JC (L:=L.take i) (nk:=nk) λq hq=>hO q<|cn hq;rw[b8]at vI;refine(mf D D2 ys zs ⟨rfl,rfl,hGJ,bJ,dg<|mm<|by lia,?_⟩);refine(mz _ _ (ys++zs) ⟨rfl,(sg.trans p1).new hD,l9,?_⟩);have im:=alw<|cls<|L.take<|i+1;rw[anw hp,bu,bm]at im⊢;exact((qH.same p1).append p2).tk (Tk.lst hGJ) im
 .obtain⟨y2,y3,ys,rfl,sg,hG,qH⟩:=hI;rw[bi (by lia)]at qH;exact⟨_,rfl,q D ys G sg hG qH⟩
def apa{M:Mat}{ys:Z V}{H:Hp}{i:Nat}{x:V}{l:Z Nat}(rep:RepAll H (l.map<|cdx M) ys)(hx:ys[i]?=some x):∃k b,l[i]?=some k/\x=.ref b/\H b=some (.tup [.int ((k/M.w:Nat):Int),.int ((k % M.w:Nat):Int)]):=by obtain⟨d,hd,rd⟩:=rep.at hx;rw[bz]at hd;obtain⟨k,hk,rfl⟩:=db.mp hd;obtain⟨b,rfl,hb⟩:=ash rd;exact(l8 k b ⟨hk,rfl,hb⟩)
noncomputable abbrev vV:Mat->Z (Z U×Nat)->Pc->Prop:=λM ks p=>Lie M ks p
def scTwi:mj ["puzzle","laying","cells","cell"] Z9 (l0 HP):={}
def as3(yQ:Fn P w K mg base "covered_cells" 1 Z5 IN)(KA:Fn P w K mg base "open_cells" 2 Z7 Ic)(F:Fun K "cell_twice" "cell_twice" HP f fd):qm P w K mg base CX0 3 f fd Z9 (pY (λM _ _ _ L=>lk2 M L) vV):=by
 refine F.ok (k:=2) scTwi (λvs H Q E h=>?_) λbW A outer s H vs Q E hr h=>?_
 .obtain⟨_,_,_,_,_,_,_,rfl,_⟩:=h;rfl
 obtain⟨pz,l,M,ks,aX,ads,L,rfl,⟨fl,kr,e,kvs,eQ,hp,lW,_,lA,_⟩,hl,hO,pV,hL,q⟩:=h;have q:∀(v:V)(H':Hp),Same H H'->Rep H' (lk2 M L) v->Q v H':=q;have hu:=hr.units;have hw:=lW.2.w1;have mM:∀i,1<(cls L).count (cq M.w i)->i∈oix M (M.h*M.w):=λi hi=>aqg hw lA.z hO hL (List.count_pos_iff.mp<|by lia);refine⟨_,(lg (psN 2 scTwi.nd<|pfn yQ<|lj (pv 1) lc)
  (lg (pfo (o7<|pfn KA<|lj (pix nh (pv 0) lh) lc) (pgN 3 scTwi.nd)<|lq<|rg (nv Cu (vn cj PySem.F.slot_list_count PySem.F.type_list_count (ajs hu) (pv 2)<|lj (pv 3) lc) lh<|oh _) (lq<|mr<|my<|lj m9<|lj (pv 3) lc) o0)
  (lq<|mr tj))),?_⟩
 refine(oj _ rfl l ks.length L ⟨rfl,hl,hO,pV,λD ys H1 s1 hD eJ=>?_⟩);refine(lr _ rfl pz _ _ _ ⟨rfl,rfl,SqT.of<|s1 _ _ hp,lv (j:=0) rfl,(l8 fl M ⟨rfl,lW.same s1,λD2 wI H2 s2 Ho eG dW=>?_⟩)⟩);have ly:=dW.length;rw[ae]at ly;refine⟨D2,rfl,⟨_,SqL.of eG⟩,?_⟩;refine rn (xs:=wI) (λi σ' G=>∃(y3:Option V),σ'=[some (.ref pz),some<|.ref l,some<|.ref D,y3]/\Same H2 G/\∀j k,j<i->(oix M<|M.h*M.w)[j]?=some k->¬1<(cls L).count (cq M.w k)) ?_ (λi σ' G hi hI=>?_) (λi x σ' G hx hI=>?_) λσ' G hI=>?_
 .exact⟨_,rfl,Same.refl _,λj _ hj=>absurd hj<|jb _⟩
 .obtain⟨_,_,sg,_⟩:=hI;exact SqL.of<|sg _ _ eG
 .obtain⟨y3,rfl,sg,bB⟩:=hI;obtain⟨k,b,hk,rfl,hb⟩:=apa dW hx;have cX:=s2.trans sg;have rk:Rep G (uf<|cq M.w k) (.ref b):=qp<|sg _ _ hb;refine(ql _ rfl (.inl ⟨rfl,_,SqL.of<|cX _ _ hD⟩) _ rfl D ys (.ref b)<|l8 _ (uf<|cq M.w k) ⟨rfl,rfl,cX _ _ hD,eJ.same cX,rk,by simp[uf,clD,jy,ca],?_⟩);rw[aqt];refine(l8 _ _ ⟨rfl,rfl,_,rfl,?_⟩);refine sr (λh1=>?_) λh1=>?_
  .have h1:1<(cls L).count (cq M.w k):=by have:=of_decide_eq_true h1;lia
   refine⟨_,rfl,sZ2,λt ht=>?_⟩;generalize g1:upd G t _=G3 at *;obtain⟨s3,e3⟩:=al ht g1;clear g1;refine q _ G3 (s1.trans<|cX.trans s3) ?_;have oY:=(oix_mem.mp<|ak hk).1;unfold lk2;rw[v9 (P:=λi=>1<(cls L).count (cq M.w i)) oY h1 (J4 (apb M _) mM hk λj i' hj eW=>bB j i' hj eW)];exact(mq t _ rfl e3 _ _ rfl ⟨rfl,by decide +kernel⟩ _ ⟨_,rfl,Rep.same s3 rk,rfl⟩)
  .have h1:¬1<(cls L).count (cq M.w k):=λz=>h1 (decide_eq_true<|by lia);refine⟨_,rfl,sg,λj k' hj eD=>?_⟩;by_cases e:j=i
   .subst e;rw[hk]at eD;cases eD;exact h1
   .exact bB j k' (by lia) eD
 .obtain⟨y3,rfl,sg,bB⟩:=hI;refine q _ G (s1.trans<|s2.trans sg) ?_;unfold lk2;rw[qo (P:=λi=>1<(cls L).count (cq M.w i)) λj _ hj=>?_]
  .exact rfl
  .obtain⟨t,ht⟩:=dz<|mM j hj;exact bB t j (by have:=(aj.mp ht).1;lia) ht hj
def scBar:mj ["puzzle","laying","cells","cell"] Z9 (l0 Iw):={}
def asq(yQ:Fn P w K mg base "covered_cells" 1 Z5 IN)(KA:Fn P w K mg base "open_cells" 2 Z7 Ic)(CY:Fn P w K mg base "must_be" 2 Z8 (vX λk=>.bl<|yy k))(F:Fun K "bare_cell" "bare_cell" Iw f fd):qm P w K mg base CX0 3 f fd Z9 (pY (λM _ _ _ L=>lk3 M L) vV):=by
 refine F.ok (k:=2) scBar (λvs H Q E h=>?_) λbW A outer s H vs Q E hr h=>?_
 .obtain⟨_,_,_,_,_,_,_,rfl,_⟩:=h;rfl
 obtain⟨pz,l,M,ks,aX,ads,L,rfl,⟨fl,kr,e,kvs,eQ,hp,lW,_,lA,_⟩,hl,hO,pV,hL,q⟩:=h;have q:∀(v:V)(H':Hp),Same H H'->Rep H' (lk3 M L) v->Q v H':=q;have hu:=hr.units;have hw:=lW.2.w1;have m35:yy 35=false:=by decide
 refine⟨_,(lg (psN 2 scBar.nd<|pfn yQ<|lj (pv 1) lc)
  (lg (pfo (o7<|pfn KA<|lj (pix nh (pv 0) lh) lc) (pgN 3 scBar.nd)<|lq<|rg (PW.pt<|wn (yo<|pfn CY<|lj (pix nh (pv 0) lh)<|lj (pv 3) lc)<|um<|nv (zw hu) (pv 3) (pv 2) rfl) (lq<|mr<|my<|lj m9<|lj (pv 3) lc) o0)
  (lq<|mr tj))),?_⟩
 refine(oj _ rfl l ks.length L ⟨rfl,hl,hO,pV,λD ys H1 s1 hD eJ=>?_⟩);refine(lr _ rfl pz _ _ _ ⟨rfl,rfl,SqT.of<|s1 _ _ hp,lv (j:=0) rfl,(l8 fl M ⟨rfl,lW.same s1,λD2 wI H2 s2 Ho eG dW=>?_⟩)⟩);have ly:=dW.length;rw[ae]at ly;refine⟨D2,rfl,⟨_,SqL.of eG⟩,?_⟩;generalize zY:(λi=>yy (M.g (i/M.w)<|i % M.w)=true/\cq M.w i∉cls L)=Pb at *;have mM:∀i,i<M.h*M.w->Pb i->i∈oix M (M.h*M.w):=λi hi hb=>oix_mem.mpr ⟨hi,λz=>by rw[<-zY]at hb;have:=hb.1;rw[z,m35]at this;cases this⟩
 refine rn (xs:=wI) (λi σ' G=>∃(y3:Option V),σ'=[some (.ref pz),some<|.ref l,some<|.ref D,y3]/\Same H2 G/\∀j k,j<i->(oix M<|M.h*M.w)[j]?=some k->¬Pb k) ?_ (λi σ' G hi hI=>?_) (λi x σ' G hx hI=>?_) λσ' G hI=>?_
 .exact⟨_,rfl,Same.refl _,λj _ hj=>absurd hj<|jb _⟩
 .obtain⟨_,_,sg,_⟩:=hI;exact SqL.of<|sg _ _ eG
 .obtain⟨y3,rfl,sg,bB⟩:=hI;obtain⟨k,b,hk,rfl,hb⟩:=apa dW hx;have cX:=s2.trans sg;have rk:Rep G (uf<|cq M.w k) (.ref b):=qp<|sg _ _ hb;have hkm:=oix_mem.mp<|ak hk;have go:¬Pb k->∀y3:Option V,∃(z3:Option V),[some (V.ref pz),some<|.ref l,some<|.ref D,y3]=[some (.ref pz),some<|.ref l,some<|.ref D,z3]/\Same H2 G/\∀j k,j<i+1->(oix M<|M.h*M.w)[j]?=some k->¬Pb k:=λhn y3=>⟨_,rfl,sg,λj k' hj eD=>by
   by_cases e:j=i
   .subst e;rw[hk]at eD;cases eD;exact hn
   .exact bB j k' (by lia) eD⟩
  refine(lr _ rfl pz _ _ _ ⟨rfl,rfl,SqT.of<|cX _ _<|s1 _ _ hp,lv (j:=0) rfl,(lr _ rfl fl b M (k/M.w) ⟨k % M.w,rfl,(lW.same s1).same cX,sg _ _ hb,?_⟩)⟩);have eg:gA M (k/M.w) (k % M.w)=M.g (k/M.w) (k % M.w):=by unfold gA;rw[if_pos ⟨(Nat.div_lt_iff_lt_mul hw).mpr hkm.1,Nat.mod_lt _ hw⟩]
  dsimp only;rw[eg];refine⟨_,rfl,?_⟩;refine sr (λh1=>?_) λh1=>oN<|go (λz=>h1<|by rw[<-zY]at z;exact z.1) _;refine(mh _ rfl _ rfl (uf<|cq M.w k) D ys ⟨_,rk,rfl,.inl<|cX _ _ hD,eJ.same cX,by simp[uf,clD,jy,ca],_,rfl,?_⟩);rw[ap9];refine sr (λh2=>?_) λh2=>go (λz=>?_) _
  .rw[if_pos rfl]at h2;have hn:Pb k:=by rw[<-zY];exact⟨h1,by simpa using h2⟩
   refine⟨_,rfl,sZ2,λt ht=>?_⟩;generalize g1:upd G t _=G3 at *;obtain⟨s3,e3⟩:=al ht g1;clear g1;refine q _ G3 (s1.trans<|cX.trans s3) ?_;unfold lk3;rw[zY,v9 hkm.1 hn λm hm hP=>J4 (P:=λm=>m<M.h*M.w/\Pb m) (apb M _) (λm hm=>mM m hm.1 hm.2) hk (λj i' hj eW z=>bB j i' hj eW z.2) m hm ⟨by lia,hP⟩];exact(mq t _ rfl e3 _ _ rfl ⟨rfl,by decide +kernel⟩ _ ⟨_,rfl,Rep.same s3 rk,rfl⟩)
  .rw[if_pos rfl]at h2;rw[<-zY]at z;exact h2<|by simpa using z.2
 .obtain⟨y3,rfl,sg,bB⟩:=hI;refine q _ G (s1.trans<|s2.trans sg) ?_;unfold lk3;rw[zY,qo λj hj1 hj=>?_]
  .exact rfl
  .obtain⟨t,ht⟩:=dz<|mM j hj1 hj;exact bB t j (by have:=(aj.mp ht).1;lia) ht hj
def an0{kvs:Z (Z Key×V)}{k:Z Key}{v:V}{kv:Z Key×V}(h:kv∈mF kvs k v):kv∈kvs\/kv=(k,v):=by
 unfold mF at h;split at h
 .obtain⟨x,hx,e⟩:=aw.mp h;split at e
  .rename_i hk
   exact .inr<|by rw[<-e,hk]
  .exact .inl<|by rw[<-e];exact hx
 .rcases ay.mp h with h|h
  .exact .inl h
  .exact .inr<|ar.mp h
def alo{kvs:Z (Z Key×V)}{k:Z Key}{v:V}(h:wt kvs k=some v):(k,v)∈kvs:=by unfold wt at h;obtain⟨kv,h1,rfl⟩:=db.mp h;have h2:kv.1=k:=of_decide_eq_true<|List.find?_some (p:=λkv:Z Key×V=>decide<|kv.1=k) h1;rw[<-h2];exact List.mem_of_find?_eq_some h1
def amt{kvs:Z (Z Key×V)}(h:∀kv∈kvs,∃q:Nat×Nat,kv.1=zf q.1 q.2):(∀kv∈kvs,KOk kv.1)/\Rows [true] (kvs.map λkv=>kT kv.1):=by
 refine⟨λkv jS x hx z e=>?_,λd hd=>?_⟩
 .obtain⟨q,e1⟩:=h kv jS;subst e;rw[e1]at hx;have:(Sum.inr z:Key)∈[Sum.inl ((q.1:Nat):Int),Sum.inl ((q.2:Nat):Int)]:=hx;simp at this
 .obtain⟨kv,jS,rfl⟩:=aw.mp hd;obtain⟨q,e1⟩:=h kv jS;rw[e1];exact(nu ([.int (q.1:Nat),.int (q.2:Nat)]) rfl _ _ ⟨rfl,(l8 _ _ ⟨rfl,rfl⟩)⟩)
def CvD(G:Hp)(g:Nat×Nat->Z V)(kvs:Z (Z Key×V))(es:Z En):Prop:=
 (∀kv∈kvs,∃q:Nat×Nat,kv.1=zf q.1 q.2/\∃v,yi es q=some v)/\(∀q v,yi es q=some v->∃t,wt kvs (zf q.1 q.2)=some (.ref t)/\G t=some (.tup<|g v))/\kvs.length<=es.length
def CvD.tk{G G':Hp}{g:Nat×Nat->Z V}{kvs:Z (Z Key×V)}{es:Z En}(h:CvD G g kvs es)(s:Tk G G'):CvD G' g kvs es:=⟨h.1,λq v hv=>by obtain⟨t,h1,h2⟩:=h.2.1 q v hv;exact⟨t,h1,s _ _ h2⟩,h.2.2⟩
def CvD.put{G:Hp}{g:Nat×Nat->Z V}{kvs:Z (Z Key×V)}{es:Z En}(h:CvD G g kvs es){q v:Nat×Nat}{t:aF}(ht:G t=some (.tup<|g v)):CvD G g (mF kvs (zf q.1 q.2)<|.ref t) (es++[(q,v)]):=by
 refine⟨λkv jS=>?_,λq' v' hv=>?_,?_⟩
 .rcases an0 jS with h'|rfl
  .obtain⟨q',e,v',hv⟩:=h.1 kv h';refine⟨q',e,?_⟩;rw[J5];by_cases e2:q'=q
   .exact⟨v,if_pos e2⟩
   .exact⟨v',by rw[if_neg e2];exact hv⟩
  .exact(oo q rfl v<|by rw[J5,if_pos rfl])
 .rw[J5]at hv;rw[agp];by_cases e:q'=q
  .rw[if_pos e]at hv;cases hv;rw[if_pos (by rw[e])];exact⟨t,rfl,ht⟩
  .rw[if_neg e]at hv;rw[if_neg λz=>e<|Prod.ext (wy z).1 (wy z).2];exact h.2.1 q' v' hv
 .have h1:=sy kvs (zf q.1 q.2)<|V.ref t;have h2:=h.2.2;rw[be,fq];lia
def CvD.has{G:Hp}{g:Nat×Nat->Z V}{kvs:Z (Z Key×V)}{es:Z En}(h:CvD G g kvs es){q:Nat×Nat}(hs:(wt kvs<|zf q.1 q.2).isSome=true):∃v,yi es q=some v:=by obtain⟨x,hx⟩:=Option.isSome_iff_exists.mp hs;obtain⟨q',e,v,hv⟩:=h.1 _<|alo hx;obtain⟨e1,e2⟩:=wy e;rw[show q=q' from Prod.ext e1 e2];exact⟨v,hv⟩
def CvD.keys{G:Hp}{g:Nat×Nat->Z V}{kvs:Z (Z Key×V)}{L:Z Pc}{wd:Nat}{es:Z U}(h:CvD G g kvs (ens L 0))(hw:∀q∈cls L,q.2<wd)(nd:(kvs.map (·.1)).Nodup)(pe:es.Perm (kvs.map λkv=>kT kv.1))(u:Up es) :
  ∃is:Z Nat,es=is.map (cdw wd)/\is.Pairwise (· < ·)/\∀i,i∈is↔∃v,yi (ens L 0) (cq wd i)=some v:=by
 obtain⟨is,h1,h2,h3⟩:=ap0 (w:=wd) (λkv jS=>by obtain⟨q,e,v,hv⟩:=h.1 kv jS;exact⟨q,e,hw q<|CQ hv⟩) nd pe u
 refine⟨is,h1,h2,λi=>(h3 i).trans ⟨λ⟨kv,jS,e⟩=>?_,λ⟨v,hv⟩=>?_⟩⟩
 .obtain⟨q,e1,v,hv⟩:=h.1 kv jS;rw[e1]at e;obtain⟨a1,a2⟩:=wy e;exact⟨v,by rw[show cq wd i=q from Prod.ext a1.symm a2.symm];exact hv⟩
 .obtain⟨t,ht,_⟩:=h.2.1 _ v hv;exact⟨_,alo ht,rfl⟩
def aji{nk:Nat}{L:Z Pc}(h:LyO nk L):(ens L 0).length<=L.length*6:=by have:=JC h;rw[<-xo L 0,ae]at this;exact this
def ap4(k i:Nat){ss:Z Sg}{s:Sg}(h:ss[i]?=some s):(ss.take<|i+1).map (en k)=(ss.take i).map (en k)++[en k s]:=mn _ h
def amn{w:Nat}{es:Z En}{ads:Z U}{is:Z Nat}(u:is.Pairwise (· < ·))(hm:∀i,(∃v,yi es (cq w i)=some v)->i∈is){t i b:Nat}(ht:is[t]?=some i)(tX:b<2)(hb:∀j i',j<t->is[j]?=some i'->∀b,b<2->¬Ap4 w es ads (2*i'+b))(hi:∀b',b'<b->¬Ap4 w es ads (2*i+b')):∀m,m<2*i+b->¬Ap4 w es ads m:=λm hmb hA=>by
 have e:m=2*(m/2)+m % 2:=by lia
 by_cases h:m/2<i
 .refine J4 (P:=λi=>∃b,b<2/\Ap4 w es ads (2*i+b)) u (λi' eW=>?_) ht (λj i' hj eW z=>?_) (m/2) h ⟨m % 2,by lia,by rw[<-e];exact hA⟩
  .obtain⟨b',dS,k,s,k',s',h1,_⟩:=eW;rw[show(2*i'+b')/2=i' from by lia]at h1;exact hm i' ⟨_,h1⟩
  .obtain⟨b',dS,h1⟩:=z;exact hb j i' hj eW b' dS h1
 .rw[e,show m/2=i from by lia]at hA;exact hi (m % 2) (by lia) hA
noncomputable def cvV(v:Nat×Nat):Z V:=[.int (v.1:Nat),.str ⟨#[v.2]⟩]
def aur:Sp:=λvs H Q _=>∃(l:aF)(nk:Nat)(L:Z Pc),vs=[.ref l]/\LyH H l L/\LyO nk L/\L.length<=14/\∀(D:aF) (kvs:Z (Z Key×V)) (H':Hp),Same H H'->H' D=some (.dT kvs)->CvD H' cvV kvs (ens L 0)->Q (.ref D) H'
def scCby:mj ["laying","covers","k","placement","row","column","sign"] Z5 (l0 HU):={}
def ati(B:∀x∈sk,mg x=none)(F:Fun K "covers_by_cell" "covers_by_cell" HU f fd):qm P w K mg base CX0 1 f fd Z5 aur:=by
 refine F.ok (k:=0) scCby (λvs H Q E h=>?_) λbW A outer s H vs Q E hr h=>?_
 .obtain⟨_,_,_,rfl,_⟩:=h;rfl
 obtain⟨l,nk,L,rfl,⟨xs,hl,rep⟩,hO,pV,q⟩:=h;have hu:=hr.units;have lx:=rep.length;rw[ae]at lx;refine⟨_,(lg (psN 1 scCby.nd ahn)
  (lg (pfo (pEL<|lj (pv 0) lc) (si (n:=2) rfl<|ln (pgN 2 scCby.nd)<|ln (pgN 3 scCby.nd) ni)<|lq<|pfo (wl<|pix nh (pv 3) lh) (si (n:=3) rfl<|ln (pgN 4 scCby.nd)<|ln (pgN 5 scCby.nd)<|ln (pgN 6 scCby.nd) ni)<|lq<|ajd (ir (iz (by decide) _) hu) (pv 1) (my<|lj (pv 4)<|lj (pv 5) lc) (my<|lj (pv 2)<|lj (pv 6) lc) rfl)
  (lq<|mr<|pv 1))),?_⟩
 intro wh hwh;generalize g1:upd H wh _=H1 at *;obtain⟨s1,d1⟩:=al hwh g1;clear g1;refine(oo _ rfl l ⟨rfl,⟨_,SqL.of<|s1 _ _ hl⟩,?_⟩);refine alt (xs:=xs) (λi σ' G=>∃(y2 y3 y4 y5 y6:Option V) (kvs:Z (Z Key×V)),σ'=[some (.ref l),some<|.ref wh,y2,y3,y4,y5,y6]/\Same H G/\G wh=some (.dT kvs)/\CvD G cvV kvs (ens (L.take i) 0)) ?_ (λi σ' G hI=>?_) (λi x pr σ' G hx xB hI=>?_) λσ' G hI=>?_
 .exact(lw _ _ _ _ _ ⟨[],rfl,s1,d1,(λkv h=>by cases h),(λq v h=>by cases h),am _⟩)
 .obtain⟨_,_,_,_,_,_,_,sg,_⟩:=hI;exact SqL.of<|sg _ _ hl
 .obtain⟨y2,y3,y4,y5,y6,kvs,rfl,sg,hG,hC⟩:=hI;obtain⟨p,hp,rd⟩:=Au rep hx;have hi:i<L.length:=(aj.mp hp).1;have lB:=(hO p<|ak hp).1;have h6:=lB.2.2;have jU:=aji (L:=L.take i) (nk:=nk) λq hq=>hO q<|cn hq;rw[b8]at jU;obtain⟨b,eb,gE,rfl,hb,jV,cI⟩:=AC rd;have le:=cI.length;rw[ae]at le;refine(me pr _ rfl (SqT.of l9) rfl _ _ rfl _ ⟨_,rfl,rfl,?_⟩);generalize g1:upd G pr _=G2 at *;obtain⟨s2,_⟩:=al xB g1;clear g1;have cX:=sg.trans s2;refine(lr _ rfl b _ _ _ ⟨rfl,rfl,SqT.of<|cX _ _ hb,lv (j:=0) rfl,eb,rfl,⟨_,SqT.of<|cX _ _ jV⟩,?_⟩);refine JN (xs:=gE) (λk σ' G3=>∃(y4 y5 y6:Option V) (fO:Z (Z Key×V)),σ'=[some (.ref l),some<|.ref wh,some<|.int (i:Nat),some<|.ref b,y4,y5,y6]/\Same H G3/\G3 wh=some (.dT fO)/\CvD G3 cvV fO (ens (L.take i) 0++(p.1.take k).map (en i))) ?_ (λk σ' G3 hk hI=>?_) (λk x σ' G3 hx hI=>?_) λσ' G3 hI=>?_
  .exact(mf _ _ _ kvs ⟨rfl,cX,s2 _ _ hG,by rw[List.take_zero,List.map_nil,ff];exact hC.tk λc zs h=>s2 _ _ h⟩)
  .obtain⟨_,_,_,_,_,hU,_⟩:=hI;exact SqT.of<|hU _ _ jV
  .obtain⟨y4,y5,y6,fO,rfl,hU,Hm,yB⟩:=hI;have hk:k<gE.length:=(aj.mp hx).1;obtain⟨sp,b',hs,rfl,dS⟩:=yL cI hx;refine(me b' _ rfl (SqT.of<|hU _ _ dS) rfl _ _ rfl _<|nu _ rfl _ _ ⟨rfl,rfl,?_⟩);refine(oo _ rfl _ ⟨rfl,sZ2,λt4 Ga=>?_⟩);generalize g1:upd G3 t4 _=G4 at *;obtain⟨s4,c4⟩:=al Ga g1;clear g1;refine(qi _ rfl _ rfl _ ⟨rfl,sZ2,λt5 F9=>?_⟩);generalize g1:upd G4 t5 _=G5 at *;obtain⟨s5,c5⟩:=al F9 g1;clear g1;have hG5:=s5 _ _<|s4 _ _ Hm;have bD:=yB.2.2;rw[be,ae,b8]at bD;refine(l8 wh _ ⟨rfl,DPut.t (k:=zf sp.1 sp.2.1) hG5 c5<|mm<|by lia,?_⟩);have hC5:CvD G5 cvV fO _:=yB.tk λc zs h=>s5 _ _<|s4 _ _ h;refine(mf _ _ _ _ ⟨rfl,((hU.trans s4).trans s5).new hwh,l9,?_⟩);rw[ap4 i k hs,<-bp];exact(hC5.put (q:=ce sp) (v:=(i,sp.2.2))<|s5 _ _ c4).tk (ats hG5)
  .obtain⟨y4,y5,y6,fO,rfl,hU,Hm,yB⟩:=hI;rw[bi (l:=p.1) (by lia),<-am0 hp]at yB;exact(lw _ _ _ _ _ ⟨fO,rfl,hU,Hm,yB⟩)
 .obtain⟨y2,y3,y4,y5,y6,kvs,rfl,sg,hG,hC⟩:=hI;rw[bi (by lia)]at hC;exact⟨_,rfl,q wh kvs G sg hG hC⟩
def aun:Sp:=λvs H Q _=>∃(e c1 c2:aF)(v v':Nat×Nat)(eQ:Z V)(ads:Z U),vs=[.ref e,.ref c1,.ref c2]/\H e=some (.tup eQ)/\RepAll H ads eQ/\H c1=some (.tup<|cvV v)/\H c2=some (.tup<|cvV v')/\v.2<128/\v'.2<128/\∀(b:Bool)(H':Hp),Same H H'->(b=true↔v.1≠v'.1/\Cm ads v.2 v'.2=true)->Q (.bl b) H'
def awq:mj ZW ZW (l0 HL):={}
def au7(KG:Fn P w K mg base "is_kept_apart" 1 ZX au6)(F:Fun K "are_apart" "are_apart" HL f fd):qm P w K mg base CX0 2 f fd ZW aun:=by
 refine F.ok (k:=1) awq (λvs H Q E h=>?_) λbW A outer s H vs Q E hr h=>?_
 .obtain⟨_,_,_,_,_,_,_,rfl,_⟩:=h;rfl
 obtain⟨e,c1,c2,v,v',eQ,ads,rfl,he,rep,h1,h2,b1,b2,q⟩:=h;refine⟨_,(lq<|mr<|AG (sw EF (pix nh (pv 1) lh) (pix nh (pv 2) lh)<|oh _)<|CF<|pfn KG<|lj (pv 0)<|lj (pix nh (pv 1) lh)<|lj (pix nh (pv 2) lh) lc),?_⟩;refine(lr _ rfl c1 _ _ _ ⟨rfl,rfl,SqT.of h1,lv (j:=0) rfl,(lr _ rfl c2 _ _ _ ⟨rfl,rfl,SqT.of h2,lv (j:=0) rfl,rfl,_,rfl,?_⟩)⟩);have ed:(!decide (V.int (v.1:Nat)=V.int (v'.1:Nat)))=true↔v.1≠v'.1:=by
  rw[Bool.not_eq_true',decide_eq_false_iff_not];constructor
  .intro h z;exact h<|by rw[z]
  .intro h z;injection z with z
   lia
 refine sr (λh=>?_) λh=>q false H (Same.refl _) ⟨λz=>(by cases z),λz=>absurd (ed.mpr z.1) h⟩;refine(mh _ rfl _ rfl c1 _ _ ⟨_,rfl,rfl,SqT.of h1,lv (j:=1) rfl,(lr _ rfl c2 _ _ _ ⟨rfl,rfl,SqT.of h2,lv (j:=1) rfl,(lw e v.2 v'.2 eQ ads ⟨rfl,b1,b2,he,rep,λH' s'=>?_⟩)⟩)⟩);exact q _ H' s' ⟨λz=>⟨ed.mp h,z⟩,λz=>z.2⟩
def auu{wd:Nat}{ys:Z V}{H:Hp}{i:Nat}{x:V}{l:Z Nat}(rep:RepAll H (l.map<|cdw wd) ys)(hx:ys[i]?=some x):∃k b,l[i]?=some k/\x=.ref b/\H b=some (.tup [.int ((k/wd:Nat):Int),.int ((k % wd:Nat):Int)]):=by obtain⟨d,hd,rd⟩:=rep.at hx;rw[bz]at hd;obtain⟨k,hk,rfl⟩:=db.mp hd;obtain⟨b,rfl,hb⟩:=ash rd;exact(l8 k b ⟨hk,rfl,hb⟩)
def ax6(w i:Nat):oth w (2*i+0)=(i/w,i % w+1):=by unfold oth;rw[if_pos (by lia),show(2*i+0)/2=i from by lia]
def avu(w i:Nat):oth w (2*i+1)=(i/w+1,i % w):=by unfold oth;rw[if_neg (by lia),show(2*i+1)/2=i from by lia]
theorem aj2{nk:Nat}:∀{L:Z Pc} (k:Nat),LyO nk L->∀e∈ens L k,e.2.2<128
 | [],_,_,e,he=>by cases he
 | p::L,k,h,e,he=>by
  rcases ay.mp (show e∈p.1.map (en k)++ens L (k+1)from he)with h1|h1
  .obtain⟨s,hs,rfl⟩:=aw.mp h1;have:=((h p ao).1.1 s hs).2;show s.2.2<128;lia
  .exact aj2 (k+1) (λq hq=>h q<|au _ hq) e h1
def aq7(L:Z Pc)(n:Nat):(L.map λp=>((p.2:Nat):Int)).count ((n:Nat):Int)=(L.map (·.2)).count n:=by rw[show(L.map λp=>((p.2:Nat):Int))=(L.map (·.2)).map (λx:Nat=>(x:Int))from by rw[bm];rfl];unfold List.count;rw[List.countP_map];refine List.countP_congr λx _=>?_;show(((x:Nat):Int)==((n:Nat):Int))=true↔(x==n)=true;rw[beq_iff_eq,beq_iff_eq];lia
def atw{aX:Z (Int×Option Int)}{L:Z Pc}{n:Nat}{lm:Int×Option Int}(zP:aX[n]?=some lm):Bad aX L n↔((((L.map (·.2)).count n:Nat):Int)<lm.1\/∃m,lm.2=some m/\m<(((L.map (·.2)).count n:Nat):Int)):=by
 unfold Bad;rw[zP];constructor
 .rintro⟨q,e,h⟩;cases e;exact h
 .intro h;exact⟨lm,rfl,h⟩
def scTpr:mj ["puzzle","laying","covers","cell","other"] Z9 (l0 Iy):={}
theorem asr(B:∀x∈sk,mg x=none)(KI:Fn P w K mg base "covers_by_cell" 1 Z5 aur)(KL:Fn P w K mg base "are_apart" 2 ZW aun)(F:Fun K "touching_pair" "touching_pair" Iy f fd):qm P w K mg base CX0 3 f fd Z9 (pY (λM _ _ ads L=>lk4 M ads L) vV):=by
 refine F.ok (k:=2) scTpr (λvs H Q E h=>?_) λbW A outer s H vs Q E hr h=>?_
 .obtain⟨_,_,_,_,_,_,_,rfl,_⟩:=h;rfl
 obtain⟨pz,l,M,ks,aX,ads,L,rfl,⟨fl,kr,e,kvs0,eQ,hp,lW,_,lA,_,_,he,FC⟩,hl,hO,pV,hL,q⟩:=h;have q:∀(v:V)(H':Hp),Same H H'->Rep H' (lk4 M ads L) v->Q v H':=q;have hu:=hr.units;have hw:=lW.2.w1;have xE:=λ(c:Nat×Nat)=>CA (q:=c) lA.z hO hL;have jU:=aji hO;refine⟨_,(lg (psN 2 scTpr.nd<|pfn KI<|lj (pv 1) lc)
  (lg (pfo (o7<|pCB (aca rfl) fK<|lj (pv 2) lc) (pgN 3 scTpr.nd)<|lq<|pfo (wl<|my<|lj (my<|lj (pix nh (pv 3) lh)<|lj (nj pj (pix nh (pv 3) lh) lh) lc)<|lj (my<|lj (nj pj (pix nh (pv 3) lh) lh)<|lj (pix nh (pv 3) lh) lc) lc) (pgN 4 scTpr.nd)<|lq<|rg (PW.pt<|wn (ao8<|at6 (ir (iz (by decide) _) hu) (pv 4)<|pv 2)<|um<|yo<|pfn KL<|lj (pix nh (pv 0) lh)<|lj (JY (ir (iz (by decide) _) hu) (pv 2) (pv 3) λ_ _=>rfl)<|lj (JY (ir (iz (by decide) _) hu) (pv 2) (pv 4) λ_ _=>rfl) lc) (lq<|mr<|my<|lj m9<|lj (pv 3)<|lj (pv 4) lc) o0)
  (lq<|mr tj))),?_⟩
 refine(oj _ rfl l ks.length L ⟨rfl,hl,hO,pV,λD kvs H1 s1 hD hC=>?_⟩);have hro:=amt (kvs:=kvs) λkv jS=>by obtain⟨c,e1,_⟩:=hC.1 kv jS;exact⟨c,e1⟩
 have oY:=hC.2.2;refine(oj _ rfl D kvs ([true]) ⟨rfl,hD,hro.1,hro.2,by lia,λS ls es hS pe up nd re=>?_⟩);generalize g1:upd H1 S _=H2 at *;obtain⟨s2,d2⟩:=al hS g1;clear g1;obtain⟨is,rfl,vB,dX⟩:=hC.keys (wd:=M.w) (λc hc=>(xE c hc).2.1) nd pe up;have lL:=re.length;rw[ae]at lL;refine⟨S,rfl,⟨_,SqL.of d2⟩,?_⟩;generalize hE:ens L 0=E at *;have bQ:∀{c v:Nat×Nat},yi E c=some v->v.2<128:=λhv=>aj2 0 hO _ (by rw[hE];exact EO hv);refine rn (xs:=ls) (λt σ' G=>∃(y3 y4:Option V),σ'=[some (.ref pz),some<|.ref l,some<|.ref D,y3,y4]/\Same H2 G/\∀j i',j<t->is[j]?=some i'->∀b,b<2->¬Ap4 M.w E ads (2*i'+b)) ?_ (λt σ' G ht hI=>?_) (λt x σ' G hx hI=>?_) λσ' G hI=>?_
 .exact(l8 _ _ ⟨rfl,Same.refl _,λj _ hj=>absurd hj<|jb _⟩)
 .obtain⟨_,_,_,sg,_⟩:=hI;exact SqL.of<|sg _ _ d2
 .obtain⟨y3,y4,rfl,sg,bB⟩:=hI;obtain⟨i,cb,hi,rfl,xQ⟩:=auu re hx;have xQ:=sg _ _ xQ;have sgA:=s2.trans sg;obtain⟨v,hv⟩:=(dX i).mp (ak hi);have him:=xE _ (by rw[<-xo L 0,hE];exact cm (f:=(·.1))<|EO hv);have hih:i<M.h*M.w:=auz hw him.1;refine(lr _ rfl cb _ _ _ ⟨rfl,rfl,SqT.of xQ,lv (j:=0) rfl,(lr _ rfl cb _ _ _ ⟨rfl,rfl,SqT.of xQ,lv (j:=1) rfl,(l8 _ _ ⟨rfl,rfl,sZ2,λp5 Gu=>?_⟩)⟩)⟩);generalize g1:upd G p5 _=G5 at *;obtain⟨s5,c5⟩:=al Gu g1;clear g1;refine(lr _ rfl cb _ _ _ ⟨rfl,rfl,SqT.of<|s5 _ _ xQ,lv (j:=0) rfl,(l8 _ _ ⟨rfl,rfl,(lr _ rfl cb _ _ _ ⟨rfl,rfl,SqT.of<|s5 _ _ xQ,lv (j:=1) rfl,sZ2,λp6 hp6=>?_⟩)⟩)⟩);generalize g1:upd G5 p6 _=G6 at *;obtain⟨s6,c6⟩:=al hp6 g1;clear g1;refine⟨sZ2,λp7 hp7=>?_⟩;generalize g1:upd G6 p7 _=G7 at *;obtain⟨s7,c7⟩:=al hp7 g1;clear g1;have sA:=(s5.trans s6).trans s7;have HJ:∀(b:Nat) x,[V.ref p5,V.ref p6][b]?=some x->b<2/\∃ob:aF,x=.ref ob/\G7 ob=some (.tup [.int ((oth M.w<|2*i+b).1:Nat),.int ((oth M.w<|2*i+b).2:Nat)]):=λb x hx=>by
   match b,hx with
   | 0,hx=>cases hx;rw[ax6];exact⟨by decide,p5,rfl,s7 _ _<|s6 _ _ c5⟩
   | 1,hx=>cases hx;rw[avu];exact⟨by decide,p6,rfl,s7 _ _ c6⟩
  refine⟨p7,rfl,⟨_,SqT.of c7⟩,?_⟩;refine JN (xs:=[V.ref p5,V.ref p6]) (λb σ' G8=>∃(y4:Option V),σ'=[some (.ref pz),some<|.ref l,some<|.ref D,some<|.ref cb,y4]/\Same G7 G8/\∀b',b'<b->¬Ap4 M.w E ads (2*i+b')) ?_ (λb σ' G8 hb hI=>?_) (λb x σ' G8 hx hI=>?_) λσ' G8 hI=>?_
  .exact⟨_,rfl,Same.refl _,λb' dS=>absurd dS<|jb _⟩
  .obtain⟨_,_,s8,_⟩:=hI;exact SqT.of<|s8 _ _ c7
  .obtain⟨y4,rfl,s8,vC⟩:=hI;obtain⟨tX,ob,rfl,DM⟩:=HJ b x hx;have sB:=sgA.trans<|sA.trans s8;have DM:=s8 _ _ DM;have BP:=(sA.trans s8) _ _ xQ;have Hn:=sB _ _ hD;have D7:=hC.tk (G':=G8) λc zs h=>sB _ _ h;have kob:G8 ob=some (.tup<|(zf (oth M.w<|2*i+b).1 (oth M.w<|2*i+b).2).map kV):=DM;have kcb:G8 cb=some (.tup<|(zf (cq M.w i).1 (cq M.w i).2).map kV):=BP;have go:¬Ap4 M.w E ads (2*i+b)->∀G9,Same G8 G9->∀y4:Option V,∃(z4:Option V),[some (V.ref pz),some<|.ref l,some<|.ref D,some<|.ref cb,y4]=[some (.ref pz),some<|.ref l,some<|.ref D,some<|.ref cb,z4]/\Same G7 G9/\∀b',b'<b+1->¬Ap4 M.w E ads (2*i+b'):=λhn G9 s9 y4=>⟨_,rfl,s8.trans s9,λb' dS=>by
    by_cases e:b'=b
    .rw[e];exact hn
    .exact vC b'<|by lia⟩
   refine(og _ rfl _ rfl D _ rfl (DGet.t Hn kob) _ ⟨rfl,?_⟩);refine sr (λh1=>?_) λh1=>oN<|go (λz=>?_) G8 (Same.refl _) _
   .obtain⟨v',DD⟩:=D7.has h1;obtain⟨t1,tJ,e1⟩:=D7.2.1 _ _ DD;obtain⟨t2,mU,e2⟩:=D7.2.1 _ _ hv;refine(lr _ rfl pz _ _ _ ⟨rfl,rfl,SqT.of<|sB _ _<|s1 _ _ hp,lv (j:=2) rfl,(og _ rfl _ rfl D _ rfl (by rw[<-mU];exact DGet.t Hn kcb) _ ⟨rfl,(nu _ rfl D _ ⟨rfl,by rw[<-tJ];exact DGet.t Hn kob,?_⟩)⟩)⟩);refine(lw e t2 t1 v v'<|l8 eQ ads ⟨rfl,sB _ _<|s1 _ _ he,(FC.same s1).same sB,e2,e1,bQ hv,bQ DD,λbb H9 s9 DS=>⟨_,rfl,?_⟩⟩);have eA:Ap4 M.w E ads (2*i+b)↔v.1≠v'.1/\Cm ads v.2 v'.2=true:=by
     unfold Ap4;rw[show(2*i+b)/2=i from by lia];constructor
     .rintro⟨k,s,k',s',a1,a2,a3⟩;rw[hv]at a1;rw[DD]at a2;cases a1;cases a2;exact a3
     .intro h;exact(mf v.1 v.2 v'.1 v'.2 ⟨hv,DD,h⟩)
    refine sr (λh2=>?_) λh2=>go (λz=>h2<|DS.mpr<|eA.mp z) H9 s9 _;have hA:=eA.mpr<|DS.mp h2;refine(oo _ rfl _ ⟨rfl,sZ3,λt9 F7=>?_⟩);generalize g1:upd H9 t9 _=AJ at *;obtain⟨Fv,c10⟩:=al F7 g1;clear g1;have sC:=s9.trans Fv;refine q _ AJ (s1.trans<|sB.trans sC) ?_;unfold lk4;rw[hE,v9 (show 2*i+b<2*(M.h*M.w) by lia) hA<|amn vB (λi hi=>(dX i).mpr hi) hi tX bB vC];show Rep AJ (.tuple [.str "apart",cdx M<|(2*i+b)/2,uf<|oth M.w<|2*i+b]) (.ref t9);rw[show(2*i+b)/2=i from by lia];exact(mq t9 _ rfl c10 _ _ rfl ⟨rfl,by decide +kernel⟩ _<|np _ rfl (qp<|sC _ _ BP) _ ⟨_,rfl,qp<|sC _ _ DM,rfl⟩)
   .obtain⟨k,s,k',s',_,a2,_⟩:=z;obtain⟨t1,tJ,_⟩:=D7.2.1 _ _ a2;exact h1<|by rw[tJ];rfl
  .obtain⟨y4,rfl,s8,vC⟩:=hI;refine(l8 _ _ ⟨rfl,sg.trans<|sA.trans s8,λj i' hj eW b hb=>?_⟩);by_cases ej:j=t
   .subst ej;rw[hi]at eW;cases eW;exact vC b hb
   .exact bB j i' (by lia) eW b hb
 .obtain⟨y3,y4,rfl,sg,bB⟩:=hI;refine q _ G (s1.trans<|s2.trans sg) ?_;unfold lk4;rw[hE,qo λj _ hj=>?_]
  .exact rfl
  .obtain⟨k,s,k',s',a1,a2⟩:=id hj;obtain⟨t,ht⟩:=dz<|(dX<|j/2).mpr ⟨_,a1⟩;refine bB t _ (by have:=(aj.mp ht).1;lia) ht (j % 2) (by lia) ?_;rw[show 2*(j/2)+j % 2=j from by lia];exact hj
def scWrc:mj ["puzzle","laying","numbers","k","kind","laid"] Z9 (l0 HX):={}
def au9(B:∀x∈sk,mg x=none)(F:Fun K "wrong_count" "wrong_count" HX f fd):qm P w K mg base CX0 1 f fd Z9 (pY (λ_ _ aX _ L=>lk5 aX L) vV):=by
 refine F.ok (k:=0) scWrc (λvs H Q E h=>?_) λbW A outer s H vs Q E hr h=>?_
 .obtain⟨_,_,_,_,_,_,_,rfl,_⟩:=h;rfl
 obtain⟨pz,l,M,ks,aX,ads,L,rfl,⟨fl,kr,e,kvs,eQ,hp,_,Bz,lA,hk6,hB,_⟩,⟨xs,hl,rep⟩,hO,pV,hL,q⟩:=h;have q:∀(v:V)(H':Hp),Same H H'->Rep H' (lk5 aX L) v->Q v H':=q;have lx:=rep.length;rw[ae]at lx;refine⟨_,(lg (psC 2 ["placement"] [none] scWrc.nd (o7<|pv 1) (λ_=>(pgC 0)) (λ_=>om) λ_=>(pix xk (pv 0) lh))
  (lg (pfo (pET<|lj (pix nh (pv 0) lh) lc) (si (n:=2) rfl<|ln (pgN 3 scWrc.nd)<|ln (pgN 4 scWrc.nd) ni) (lg (psN 5 scWrc.nd<|vn cj PySem.F.slot_list_count PySem.F.type_list_count am3 (pv 2)<|lj (pv 3) lc)
  (lq<|rg (PW.pt<|IK (nv Cp (pv 5) (pix nh (pv 4) lh)<|oh _)<|Ji<|PW.pt<|wn (nv ajz (pix nh (pv 4) lh) tj<|oh _)<|um<|nv Cu (pv 5) (pix nh (pv 4) lh)<|oh _) (lq<|mr<|my<|lj m9<|lj (pv 3) lc) o0)))
  (lq<|mr tj))),?_⟩
 refine(oo _ rfl l ⟨rfl,⟨_,SqL.of hl⟩,λD hD=>?_⟩);refine pw (xs:=xs) (λi zs G=>Same H G/\zs=((L.take i).map λp=>((p.2:Nat):Int)).map V.int) ⟨Same.fresh _ hD,rfl⟩ (λi zs G p=>SqL.of<|p.1 _ _ hl) (λi x zs G hx hi bJ dP pp=>?_) λzs G bJ dP pp=>?_
 .obtain⟨p1,rfl⟩:=pp;obtain⟨p,hp,rd⟩:=Au rep hx;obtain⟨b,eb,gE,rfl,hb,_⟩:=AC<|Rep.same p1 rd;refine⟨Agree.set (Agree.refl _) rfl,?_⟩;dsimp only[jY];refine xy ?_;refine(lr _ rfl b _ _ _ ⟨rfl,rfl,SqT.of hb,lv (j:=1) rfl,?_⟩);exact p9 (by lia) bJ dP ⟨p1.new hD,by rw[mn _ hp,bu];rfl⟩
 obtain⟨p1,rfl⟩:=pp;rw[bi (by lia)]at bJ;refine(lr _ rfl pz _ _ _ ⟨rfl,rfl,SqT.of<|p1 _ _ hp,lv (j:=1) rfl,kr,rfl,⟨_,SqT.of<|p1 _ _ Bz⟩,?_⟩);refine JO (xs:=kvs) (λn σ' J=>∃(y3 y4 y5:Option V),σ'=[some (.ref pz),some<|.ref l,some<|.ref D,y3,y4,y5]/\Same G J/\∀j,j<n->¬Bad aX L j) ?_ (λn σ' J hI=>?_) (λn x pr σ' J hx xB hI=>?_) λσ' J hI=>?_
 .exact(mz _ _ _ ⟨rfl,Same.refl _,λj hj=>absurd hj<|jb _⟩)
 .obtain⟨_,_,_,_,sg,_⟩:=hI;exact SqT.of<|sg _ _<|p1 _ _ Bz
 .obtain⟨y3,y4,y5,rfl,sg,bB⟩:=hI;have hn:n<kvs.length:=(aj.mp hx).1;obtain⟨hBl,hBk⟩:=id hB;obtain⟨lm,zP⟩:∃lm,aX[n]?=some lm:=⟨_,ah<|by lia⟩;obtain⟨b,u0,u3,u4,rfl,hb⟩:=hBk n x lm hx zP;refine(me pr _ rfl (SqT.of l9) rfl _ _ rfl _ ⟨_,rfl,rfl,?_⟩);generalize g1:upd J pr _=J2 at *;obtain⟨s2,_⟩:=al xB g1;clear g1;have cX:=sg.trans s2;have tX:=(p1.trans cX) _ _ hb;refine(ql _ rfl (.inl ⟨rfl,_,SqL.of<|cX _ _ bJ⟩) _ rfl D _ ((n:Nat):Int) ⟨rfl,rfl,SqL.of<|cX _ _ bJ,?_⟩);rw[aq7 L n];have Eu:Bad aX L n↔((((L.map (·.2)).count n:Nat):Int)<lm.1\/∃m,lm.2=some m/\m<(((L.map (·.2)).count n:Nat):Int)):=atw zP;have yes:∀y5:Option V,Bad aX L n->_:=λ_ Hr=>(show ∀(t:aF)(J3:Hp),J2 t=none->J3=upd J2 t (.tup [.str "count",.int (n:Nat)])->Q (.ref t) J3 from λt J3 ht e=>by
   obtain⟨s3,e3⟩:=al ht e.symm;refine q _ J3 (p1.trans<|cX.trans s3) ?_;unfold lk5;rw[v9 (by lia) Hr bB];exact(mq t _ rfl e3 _ _ rfl ⟨rfl,by decide +kernel⟩ _ ⟨_,rfl,rfl,rfl⟩))
  have no:∀y5:Option V,¬Bad aX L n->∃(z3 z4 z5:Option V),[some (V.ref pz),some<|.ref l,some<|.ref D,some<|.int (n:Nat),some<|.ref b,y5]=[some (.ref pz),some<|.ref l,some<|.ref D,z3,z4,z5]/\Same G J2/\∀j,j<n+1->¬Bad aX L j:=λy5 hn=>⟨_,_,_,rfl,cX,λj hj=>by
   by_cases e:j=n
   .rw[e];exact hn
   .exact bB j<|by lia⟩
  refine(mh _ rfl _ rfl b _ _<|r9 _ rfl rfl (SqT.of tX) (lv (j:=1) rfl) _ _ ⟨rfl,rfl,_,rfl,?_⟩);refine sr (λh1=>xy ?_) λh1=>?_
  .exact⟨_,rfl,sZ2,λt ht=>yes none (Eu.mpr<|.inl<|of_decide_eq_true h1) t _ ht rfl⟩
  have h1:¬_:=λz=>h1<|decide_eq_true z;obtain⟨le,mo⟩:=lm;refine(lr _ rfl b _ _ _ ⟨rfl,rfl,SqT.of tX,lv (j:=2) rfl,rfl,_,rfl,?_⟩);obtain _|m:=mo
  .refine oN<|oN<|no _ λz=>?_;rcases Eu.mp z with h|⟨m,h,_⟩
   .exact h1 h
   .cases h
  .refine xy ?_;refine(mh _ rfl _ rfl b _ _<|r9 _ rfl rfl (SqT.of tX) (lv (j:=2) rfl) _ _ ⟨rfl,rfl,_,rfl,?_⟩);refine sr (λh2=>?_) λh2=>no _ λz=>?_
   .exact⟨_,rfl,sZ2,λt ht=>yes none (Eu.mpr<|.inr ⟨m,rfl,of_decide_eq_true h2⟩) t _ ht rfl⟩
   .rcases Eu.mp z with h|⟨m',h,h3⟩
    .exact h1 h
    .cases h;exact h2<|decide_eq_true h3
 .obtain⟨y3,y4,y5,rfl,sg,bB⟩:=hI;refine q _ J (p1.trans sg) ?_;unfold lk5;rw[qo (λj hj=>bB j<|by rw[hB.1];exact hj)];exact rfl
noncomputable def lks(M:Mat)(ks:Z (Z U×Nat))(aX:Z (Int×Option Int))(ads:Z U)(L:Z Pc):Z U:=[lk1 M ks L,lk2 M L,lk3 M L,lk4 M ads L,lk5 aX L]
theorem CJ(o:Option Nat){g:Nat->Z U}:yH o (λk=>.tuple<|g k)=.none\/∃ds,yH o (λk=>.tuple<|g k)=.tuple ds:=by
 cases o with
 | none=>exact .inl rfl
 | some k=>exact .inr ⟨_,rfl⟩
theorem asf{M:Mat}{ks:Z (Z U×Nat)}{aX:Z (Int×Option Int)}{ads:Z U}{L:Z Pc}{i:Nat}{d:U}(h:(lks M ks aX ads L)[i]?=some d):d=.none\/∃ds,d=.tuple ds:=by
 match i,h with
 | 0,h=>cases h;exact CJ _
 | 1,h=>cases h;exact CJ _
 | 2,h=>cases h;exact CJ _
 | 3,h=>cases h;exact CJ _
 | 4,h=>cases h;exact CJ _
def or_none{a b:U}(h:a=.none):orD a b=b:=by rw[h];rfl
def Cv{a b:U}{ds:Z U}(h:a=.tuple ds):orD a b=a:=by rw[h];rfl
theorem aug{M:Mat}{ks:Z (Z U×Nat)}{aX:Z (Int×Option Int)}{ads:Z U}{L:Z Pc}{i:Nat}{ds:Z U}(hn:∀j d,j<i->(lks M ks aX ads L)[j]?=some d->d=.none)(h:(lks M ks aX ads L)[i]?=some (.tuple ds)):uF M ks ads aX L=.tuple ds:=by
 unfold uF
 match i,h,hn with
 | 0,h,hn=>injection h with h;rw[Cv h,h]
 | 1,h,hn=>injection h with h;rw[or_none (hn 0 _ (by decide) rfl),Cv h,h]
 | 2,h,hn=>injection h with h;rw[or_none (hn 0 _ (by decide) rfl),or_none<|hn 1 _ (by decide) rfl,Cv h,h]
 | 3,h,hn=>injection h with h;rw[or_none (hn 0 _ (by decide) rfl),or_none<|hn 1 _ (by decide) rfl,or_none<|hn 2 _ (by decide) rfl,Cv h,h]
 | 4,h,hn=>injection h with h;rw[or_none (hn 0 _ (by decide) rfl),or_none<|hn 1 _ (by decide) rfl,or_none<|hn 2 _ (by decide) rfl,or_none<|hn 3 _ (by decide) rfl,Cv h,h]
def amp{M:Mat}{ks:Z (Z U×Nat)}{aX:Z (Int×Option Int)}{ads:Z U}{L:Z Pc}(hn:∀j d,j<5->(lks M ks aX ads L)[j]?=some d->d=.none):uF M ks ads aX L=.tuple [.str "good"]:=by unfold uF;rw[or_none (hn 0 _ (by decide) rfl),or_none<|hn 1 _ (by decide) rfl,or_none<|hn 2 _ (by decide) rfl,or_none<|hn 3 _ (by decide) rfl,or_none<|hn 4 _ (by decide) rfl]
open Classical in
theorem amw{M:Mat}{ks:Z (Z U×Nat)}{L:Z Pc}(h:lk1 M ks L=.none):∀p∈L,Lie M ks p:=λp hp=>by
 unfold lk1 at h;cases e:sP (λk=>∃p,L[k]?=some p/\¬Lie M ks p) L.length with
 | some k=>rw[e]at h;cases h
 | none=>
  obtain⟨i,hi⟩:=dz hp;have h1:=List.find?_range_eq_none.mp e i (aj.mp hi).1;have h2:¬∃p,L[i]?=some p/\¬Lie M ks p:=by simpa using h1
  exact fc λz=>h2 ⟨p,hi,z⟩
def CM{x:Str}{k:Nat}{ps:Z Str}{sp:Sp}{a:aF}(F:Fn P w K mg base x k ps sp)(h:mg x=some (.ref a)):∃fd,qm P w K mg base CX0 k a fd ps sp/\kq K (.ref a)=true/\Binds K fd ps []:=by obtain⟨f,fd,F,m,kp,b⟩:=F;rw[h]at m;cases m;exact⟨fd,F,kp,b⟩
noncomputable abbrev ar7:Sp:=pY (λM ks aX ads L=>uF M ks ads aX L) λ_ _ _=>True
def scJud:mj ["puzzle","laying","look","found"] Z9 (l0 HY):={}
theorem au5{lk f1 f2 f3 f4 f5:aF}(gL:mg "LOOKS" = some (.ref lk))(hLk:∀H,SqT K H lk [.ref f1,.ref f2,.ref f3,.ref f4,.ref f5])(m1:mg "strange_piece" = some (.ref f1))(m2:mg "cell_twice" = some (.ref f2))(m3:mg "bare_cell" = some (.ref f3))(m4:mg "touching_pair" = some (.ref f4))(m5:mg "wrong_count" = some (.ref f5))
  (Ku:Fn P w K mg base "strange_piece" 7 Z9 (pY (λM ks _ _ L=>lk1 M ks L) λ_ _ _=>True)) (Ks:Fn P w K mg base "cell_twice" 3 Z9 (pY (λM _ _ _ L=>lk2 M L) vV)) (KJ:Fn P w K mg base "bare_cell" 3 Z9 (pY (λM _ _ _ L=>lk3 M L) vV)) (Kt:Fn P w K mg base "touching_pair" 3 Z9 (pY (λM _ _ ads L=>lk4 M ads L) vV)) (Kr:Fn P w K mg base "wrong_count" 1 Z9 (pY (λ_ _ aX _ L=>lk5 aX L) vV))
  (F:Fun K "judged" "judged" HY f fd):qm P w K mg base CX0 8 f fd Z9 ar7:=by
 refine F.ok (k:=7) scJud (λvs H Q E h=>?_) λbW A outer s H vs Q E hr h=>?_
 .obtain⟨_,_,_,_,_,_,_,rfl,_⟩:=h;rfl
 obtain⟨pz,l,M,ks,aX,ads,L,rfl,hP,hl,hO,pV,_,q⟩:=h;have q:∀(v:V)(H':Hp),Same H H'->Rep H' (uF M ks ads aX L) v->Q v H':=q;have look:∀i x,[V.ref f1,.ref f2,.ref f3,.ref f4,.ref f5][i]?=some x->∃f k fd R pre,x=.ref f/\qm P w K mg base CX0 k f fd Z9 (pY R pre)/\k<=7/\kq K (.ref f)=true/\Binds K fd Z9 []/\(lks M ks aX ads L)[i]?=some (R M ks aX ads L)/\((0<i->∀p∈L,Lie M ks p)->∀p∈L,pre M ks p):=λi x hx=>by
  match i,hx with
  | 0,hx=>cases hx;obtain⟨fd,a,b,c⟩:=CM Ku m1;exact(lw f1 7 fd _ _ ⟨rfl,a,by decide,b,c,rfl,λ_ _ _=>trivial⟩)
  | 1,hx=>cases hx;obtain⟨fd,a,b,c⟩:=CM Ks m2;exact(lw f2 3 fd _ _ ⟨rfl,a,by decide,b,c,rfl,λh=>h<|by decide⟩)
  | 2,hx=>cases hx;obtain⟨fd,a,b,c⟩:=CM KJ m3;exact(lw f3 3 fd _ _ ⟨rfl,a,by decide,b,c,rfl,λh=>h<|by decide⟩)
  | 3,hx=>cases hx;obtain⟨fd,a,b,c⟩:=CM Kt m4;exact(lw f4 3 fd _ _ ⟨rfl,a,by decide,b,c,rfl,λh=>h<|by decide⟩)
  | 4,hx=>cases hx;obtain⟨fd,a,b,c⟩:=CM Kr m5;exact(lw f5 1 fd _ _ ⟨rfl,a,by decide,b,c,rfl,λh=>h<|by decide⟩)
 refine⟨_,(lg (pfo (wl<|ahd gL rfl) (pgN 2 scJud.nd) (lg (psN 3 scJud.nd<|atk (i:=2) rfl (by first|exact Or.inl rfl|exact Or.inr<|Or.inl rfl)<|lj (pv 0)<|lj (pv 1) lc)
  (lq<|rg (nv ajz (pv 3) tj<|oh _) (lq<|mr<|pv 3) o0)))
  (lq<|mr<|my<|lj m9 lc)),?_⟩
 refine⟨lk,rfl,⟨_,hLk H⟩,?_⟩;refine JN (xs:=[.ref f1,.ref f2,.ref f3,.ref f4,.ref f5]) (λi σ' G=>∃(y2 y3:Option V),σ'=[some (.ref pz),some<|.ref l,y2,y3]/\Same H G/\∀j d,j<i->(lks M ks aX ads L)[j]?=some d->d=.none) ?_ (λi σ' G hi hI=>hLk G) (λi x σ' G hx hI=>?_) λσ' G hI=>?_
 .exact(l8 _ _ ⟨rfl,Same.refl _,λj _ hj=>absurd hj<|jb _⟩)
 .obtain⟨y2,y3,rfl,sg,bB⟩:=hI;obtain⟨f,k,fd,R,pre,rfl,F,hk,kp,b,hR,oV⟩:=look i x hx;refine(lw f k fd _ _ ⟨rfl,F,hr.mono hk,kp,b,(oo _ rfl _ ⟨rfl,?_⟩)⟩);refine(lw pz l M ks aX<|l8 ads L ⟨rfl,hP.same sg,hl.same sg,hO,pV,oV λh0=>amw<|bB 0 _ h0 rfl,λv H' s' rv=>?_⟩);refine(np _ rfl rfl _ ⟨rfl,?_⟩);have sg':=sg.trans s';rcases asf hR with e|⟨ds,e⟩
  .rw[e]at rv hR;cases (show v=V.non from rv);refine oN ?_;refine(l8 _ _ ⟨rfl,sg',λj d hj hd=>?_⟩);by_cases ej:j=i
   .subst ej;rw[hR]at hd;cases hd;rfl
   .exact bB j d (by lia) hd
  .rw[e]at rv hR;obtain⟨a,xs,rfl,ha⟩:=id rv;refine xy ?_;refine⟨_,rfl,q _ H' sg' ?_⟩;rw[aug bB hR];exact rv
 .obtain⟨y2,y3,rfl,sg,bB⟩:=hI;refine⟨sZ1,λt ht=>?_⟩;generalize g1:upd G t _=G2 at *;obtain⟨s2,e2⟩:=al ht g1;clear g1;refine q _ G2 (sg.trans s2) ?_;rw[amp bB];exact(sq t _ rfl e2 _ _ ⟨rfl,⟨rfl,by decide +kernel⟩,rfl⟩)
def ayj:(0:Int)<2^(Int.toNat 61)-1:=by decide
def ayr:(0:Int)<10^(Int.toNat 30):=by decide
def ay2{α:Type}{xs:List α}{i:Int}(h0:0<=i)(h1:i<xs.length):∃x,atI xs i=some x/\x∈xs:=by
 obtain⟨j,rfl⟩:=cc h0;have hj:j<xs.length:=by lia
 exact⟨xs[j],lv<|ah hj,ix hj⟩
def StL(n:Z V):Prop:=∃(x:Int)(ns:Z Int),n=V.int x::ns.map V.int/\ns.length<=70
def aps{ds:Z U}{r c:Int}(lY:Cells ds)(kI:(ds.map cl).Nodup)(qY:(!(ds.any λe=>bo e<|.tuple [.int r,.int c]))=true)(hl:(PyData.tuple [.int r,.int c]).canLay0=true):((ds++[PyData.tuple [.int r,.int c]]).map cl).Nodup:=by
 rw[bu,List.nodup_append];refine⟨kI,by simp,λx hx y hy=>?_⟩;have ey:y=(r,c):=ar.mp hy;intro exy;rw[exy,ey]at hx;obtain⟨z,hz,ez⟩:=aw.mp hx;obtain⟨r0,c0,rfl⟩:=lY z hz;have ez':(r0,c0)=(r,c):=ez;injection ez' with e1 e2
 rw[Bool.not_eq_true',List.any_eq_false]at qY;exact qY _ hz<|by rw[e1,e2];exact SeqAt.eqv_refl _ hl
theorem xm{st a:aF}{H H':Hp}(ex:Ex [st] H H')(n:a≠st)(h:H' a=none):H a=none:=by
 cases z:H a with
 | none=>rfl
 | some o=>have z':=ex a o (by simpa using n) z;rw[z']at h;cases h
def aiy{n j:Nat}(h:j<n):ixN n (j:Int)=some j:=by unfold ixN;rw[if_pos (by lia),if_pos<|by lia];simp
def aof:Sp:=λvs H Q _=>∃(st:aF)(n:Z V)(m:Int),vs=[.ref st,.int m]/\H st=some (.lst n)/\StL n/\0<m/\m<=4000/\∀(n':Z V)(i:Int)(H':Hp),Ex [st] H H'->H' st=some (.lst n')->StL n'->0<=i->i<m->Q (.int i) H'
def scNext:mj ["_law_state","_law_many","_law_digit"] ZR (l0 II):={}
def ap3(B:∀x∈sk,mg x=none)(F:Fun K "_law_next" "_law_next" II f fd):qm P w K mg base CX0 1 f fd ZR aof:=by
 refine F.ok (k:=0) scNext (λvs H Q E h=>?_) λbW A outer s H vs Q E hr h=>?_
 .obtain⟨st,n,m,rfl,_⟩:=h;rfl
 obtain⟨st,_,m,rfl,hst,⟨x,ns,rfl,D8⟩,hm,DP,q⟩:=h;have hu:=hr.units;refine⟨_,(lg (rg (nv Cu (pCB m8 fy<|lj (pv 0) lc) lh<|oh _) (lg (psN 2 scNext.nd<|nj u9 (pix mx (pv 0) lh)<|pv 1)
  (lg (EY (nj JM (pix mx (pv 0) lh)<|pv 1)<|aob (pv 0) lh aho)
  (lg (rg (PW.pt<|wn (nv (Jq hu) (pix mx (pv 0) lh) (my<|lj lh<|lj (vZ yk lh) lc) rfl)<|um<|nv Cu (pCB m8 fy<|lj (pv 0) lc) lh<|oh _) (lq<|qr<|vn cj PySem.F.slot_list_pop PySem.F.type_list_pop am4 (pv 0)<|lj lh lc) o0)
  (lq<|mr<|pv 2)))) o0)
  (lg (EY (nj u9 (nj pj (nj aoe (pix mx (pv 0) lh) lh) lh)<|nj AE (nj Jc lh lh) lh)<|aob (pv 0) lh aho)
  (lq<|mr<|nj u9 (nj JM (pix mx (pv 0) lh) lh)<|pv 1))),?_⟩
 refine(ng _ rfl st _ rfl (.inl<|SqL.of hst) _<|np _ rfl rfl _ ⟨rfl,sr (λh1=>?_) λ_=>?_⟩)
 .refine(lr _ rfl st _ _ _ ⟨rfl,rfl,SqL.of hst,lv (j:=0) rfl,(nu _ rfl _ _ ⟨rfl,rfl,hm,?_⟩)⟩);refine(lr _ rfl st _ _ _ ⟨rfl,rfl,SqL.of hst,lv (j:=0) rfl,(nu _ rfl _ _ ⟨rfl,rfl,⟨hm,by lia⟩,?_⟩)⟩);refine(lr _ rfl st _ _ 0 ⟨rfl,rfl,hst,aiy (j:=0)<|Nat.succ_pos _,?_⟩);generalize g1:upd H st _=H1 at *;have ex1:Ex [st] H H1:=by rw[<-g1];exact Ex.upd<|by simp
  have e1:H1 st=some (.lst (V.int (x/m)::ns.map V.int)):=by rw[<-g1];exact l9
  clear g1;have r1:=Int.emod_nonneg x (b:=m) (by lia);have r2:=Int.emod_lt_of_pos x hm;refine(lr _ rfl st _ _ _ ⟨rfl,rfl,SqL.of e1,lv (j:=0) rfl,_,rfl,sZ2,λt ht=>?_⟩);generalize g1:upd H1 t _=H2 at *;obtain⟨s2,e2⟩:=al ht g1;clear g1;have e3:=s2 _ _ e1;have rP:=ex1.trans<|Ex.of_same s2;refine(mf (.int<|x/m) t _ ([.int 0,.int<|-1]) ⟨rfl,rfl,.inr e2,(sq _ _ rfl rfl _ _ ⟨rfl,rfl,rfl⟩),(by simp[jy]),_,rfl,?_⟩);refine sr (λ_=>?_) λ_=>oN ?_
  .refine(ng _ rfl st _ rfl (.inl<|SqL.of e3) _<|np _ rfl rfl _ ⟨rfl,sr (λh2=>?_) λ_=>?_⟩)
   .obtain _|⟨y,oS⟩:=ns
    .simp at h2
    refine(np _ rfl (.inl ⟨rfl,_,SqL.of e3⟩) st<|mf _ 0 0 _ ⟨rfl,rfl,e3,by decide,by decide,(by simp[qF];lia),rfl,?_⟩);rw[b7]at D8;exact⟨_,rfl,q _ _ _ (rP.trans<|Ex.upd<|by simp) l9 (l8 y oS ⟨rfl,by lia⟩) r1 r2⟩
   .exact⟨_,rfl,q _ _ _ rP e3 (l8 _ ns ⟨rfl,D8⟩) r1 r2⟩
  .exact⟨_,rfl,q _ _ _ rP e3 (l8 _ ns ⟨rfl,D8⟩) r1 r2⟩
 .refine(lr _ rfl st _ _ _ ⟨rfl,rfl,SqL.of hst,lv (j:=0) rfl,(Kj _ _ rfl rfl (.inr ⟨by decide,by decide⟩) _ _ ⟨rfl,rfl,(Kj _ _ rfl rfl ⟨by decide,by decide,by decide⟩ _ _ ⟨rfl,rfl,(l8 _ _ ⟨rfl,rfl,ayj,?_⟩)⟩)⟩)⟩);refine(lr _ rfl st _ _ 0 ⟨rfl,rfl,hst,aiy (j:=0)<|Nat.succ_pos _,?_⟩);refine(lr _ rfl st _ _ _ ⟨rfl,rfl,SqL.of l9,lv (j:=0) rfl,(l8 _ _ ⟨rfl,rfl,⟨by decide,by decide⟩,(nu _ rfl _ _ ⟨rfl,rfl,hm,?_⟩)⟩)⟩);exact q _ _ _ (Ex.upd<|by simp) l9 (l8 _ ns ⟨rfl,D8⟩) (Int.emod_nonneg _<|by lia)<|Int.emod_lt_of_pos _ hm
noncomputable abbrev yp(P:aK)(w:aP)(K:av)(mg:Str->Option aA)(base:Heap):Prop:=Fn P w K mg base "_law_next" 1 ZR aof
def atj(K:av):Sp:=λvs H Q _=>∃(a:aF)(ns:Z Int),vs=[.ref a]/\SqL K H a (ns.map V.int)/\ns.length<=63/\∀(p:aF)(n:Z V)(H':Hp),Same H H'->H p=none->H' p=some (.lst n)->StL n->Q (.ref p) H'
def scDrw:mj ["_law_script","_law_seed","_law_cell"] Z4 (l0 Ib):={}
def amh{K:av}{H H':Hp}{a:aF}{xs:Z V}(h:SqL K H a xs)(k:∀o,H a=some o->H' a=some o):SqL K H' a xs:=by
 rcases h with (h|⟨o,h⟩)|h
 .exact .inl<|.inl<|k _ h
 .exact .inl<|.inr ⟨o,k _ h⟩
 .exact .inr h
def asg(B:∀x∈sk,mg x=none)(F:Fun K "_law_drawn" "_law_drawn" Ib f fd):qm P w K mg base CX0 1 f fd Z4 (atj K):=by
 refine F.ok (k:=0) scDrw (λvs H Q E h=>?_) λbW A outer s H vs Q E hr h=>?_
 .obtain⟨_,_,rfl,_⟩:=h;rfl
 obtain⟨a,ns,rfl,ha,h63,q⟩:=h;refine⟨_,(lg (rg (PW.pt<|wn (nv Cu (pCB m8 fy<|lj (pv 0) lc) lh<|oh _)<|um<|nv xt (nj u9 (pix mx (pv 0) lh) lh) lh<|oh _) (lq<|mr<|nj Az (nj Az (ot<|lj (nj JM (pix mx (pv 0) lh) lh) lc)<|wq JS (pv 0) (xx lh)<|xx lh)<|ot<|lj lh lc) o0)
  (lg (psN 1 scDrw.nd lh)
  (lg (pfo (o7<|pv 0) (pgN 2 scDrw.nd)<|lq<|psN 1 scDrw.nd<|nj u9 (nj pj (nj pj (nj aoe (pv 1) lh)<|nj u9 (pv 2)<|nj Jc lh lh) lh)<|nj AE (nj Jc lh lh) lh)
  (lq<|mr<|ot<|lj (pv 1) lc)))),?_⟩
 refine(ng _ rfl a _ rfl (.inl ha) _<|np _ rfl rfl _ ⟨rfl,sr (λh1=>?p1) λ_=>oN ?f1⟩)
 case' p1=>
  rw[ae]at h1;have hpos:0<ns.length:=by simpa using h1
  have hx:(ns.map V.int)[0]?=some (.int<|ns[0]'hpos):=by rw[bz,ah hpos];rfl
  refine(lr _ rfl a _ _ _ ⟨rfl,rfl,ha,lv (j:=0) hx,(l8 _ _ ⟨rfl,rfl,(by show(0:Int)<2;decide),rfl,_,rfl,sr (λ_=>?ret) λ_=>?f2⟩)⟩)
 case ret=>
  refine(lr _ rfl a _ _ _ ⟨rfl,rfl,ha,lv (j:=0) hx,(l8 _ _ ⟨rfl,rfl,⟨by decide,by decide⟩,sZ1,λl1 gR=>?_⟩)⟩);generalize g1:upd H l1 _=H1 at *;obtain⟨s1,e1⟩:=al gR g1;clear g1;refine(pf _ rfl _ rfl _ rfl a _ ⟨rfl,amh ha λo h=>s1 _ _ h,λl2 fP=>?_⟩);generalize g1:upd H1 l2 _=H2 at *;obtain⟨s2,e2⟩:=al fP g1;clear g1;obtain⟨ms,em,lm⟩:∃ms:Z Int,kO (ns.map V.int) (some 1) (some 63)=ms.map V.int/\ms.length<=63:=by
   refine⟨(ns.drop<|HT.sIx (ns.map V.int).length 0 (some 1)).take (HT.sIx (ns.map V.int).length (ns.map V.int).length (some 63)-HT.sIx (ns.map V.int).length 0 (some 1)),?_,?_⟩
   .unfold kO;rw[List.map_take,List.map_drop]
   .rw[b8,gm];lia
  rw[em]at e2;refine(mf l1 l2 _ _ ⟨rfl,rfl,s2 _ _ e1,e2,dg (mm<|by rw[ae];show 1+ms.length<=1000;lia),λl3 GP=>?_⟩);generalize g1:upd H2 l3 _=H3 at *;obtain⟨s3,e3⟩:=al GP g1;clear g1;refine⟨sZ1,λl4 hl4=>?_⟩;generalize g1:upd H3 l4 _=H4 at *;obtain⟨s4,e4⟩:=al hl4 g1;clear g1;refine(mf l3 l4 _ _ ⟨rfl,rfl,s4 _ _ e3,e4,dg (mm<|by rw[be,ae];show 1+ms.length+1<=1000;lia),λl5 hl5=>?_⟩);generalize g1:upd H4 l5 _=H5 at *;obtain⟨s5,e5⟩:=al hl5 g1;clear g1;have s14:=((s1.trans s2).trans s3).trans s4;exact q l5 _ H5 (s14.trans s5) (s14.free hl5) e5 (l8 _ (ms++[0]) ⟨by rw[bu];rfl,by rw[be];show ms.length+1<=70;lia⟩)
 all_goals
  refine(oo _ rfl a ⟨rfl,⟨_,ha⟩,?_⟩);refine rn (xs:=ns.map V.int) (λi σ' G=>∃(n:Int)(y:Option V),σ'=[some (.ref a),some<|.int n,y]/\G=H) (l8 _ _ ⟨rfl,rfl⟩) (λi σ' G hi h=>by obtain⟨_,_,_,rfl⟩:=h;exact ha) (λi x σ' G hx h=>?_) λσ' G h=>?_
  .obtain⟨n,y,rfl,rfl⟩:=h;rw[bz]at hx;obtain⟨c,_,rfl⟩:=db.mp hx;refine(uw _ rfl _ _ rfl rfl (.inr ⟨by decide,by decide⟩) _ ⟨rfl,(Kj _ _ rfl rfl ⟨by decide,by decide,by decide⟩ _ _ ⟨rfl,rfl,ayr,(mq _ _ rfl rfl _ _ rfl rfl _ ⟨_,rfl,rfl,⟨by decide,by decide,by decide⟩,(sq _ _ rfl rfl _ _ ⟨rfl,rfl,ayj,?_⟩)⟩)⟩)⟩);exact(l8 _ _ ⟨rfl,rfl⟩)
  .obtain⟨n,y,rfl,rfl⟩:=h;refine⟨_,rfl,sZ1,λp hp=>?_⟩;exact q p _ _ (Same.fresh _ hp) hp l9<|l8 n ([]) ⟨rfl,fj _⟩
def Iv(S:Int->Prop):Prop:=∀a b k,S a->S b->a<=k->k<=b->S k
def Iv.of{S T:Int->Prop}(h:Iv S)(e:∀x,T x↔S x):Iv T:=λa b k ha hb h1 h2=>(e k).mpr (h a b k ((e a).mp ha) ((e b).mp hb) h1 h2)
def Iv.flip{S:Int->Prop}(h:Iv S)(m:Int):Iv (λx=>S<|m-x):=λa b k ha hb h1 h2=>h _ _ _ hb ha (by lia)<|by lia
def Iv.plus{S:Int->Prop}(h:Iv S)(m:Int):Iv (λx=>S<|x+m):=λa b k ha hb h1 h2=>h _ _ _ ha hb (by lia)<|by lia
def Iv.put{S:Int->Prop}(h:Iv S){x y:Int}(hx:S x)(h1:x-1<=y)(h2:y<=x+1):Iv (λz=>S z\/z=y):=λa b k ha hb l1 l2=>by
 by_cases e:k=y
 .exact .inr e
 .left;rcases ha with ha|rfl<;>rcases hb with hb|rfl
  .exact h a b k ha hb l1 l2
  .exact h a x k ha hx l1<|by lia
  .exact h x b k hx hb (by lia) l2
  .lia
def Gf(cs:Z (Int×Int)):Prop:=Iv (λx=>∃c∈cs,c.1=x)/\Iv (λx=>∃c∈cs,c.2=x)
def Gf.mem{cs ds:Z (Int×Int)}(h:Gf cs)(e:∀c,c∈ds↔c∈cs):Gf ds:=⟨h.1.of λx=>exists_congr λc=>and_congr_left λ_=>e c,h.2.of λx=>exists_congr λc=>and_congr_left λ_=>e c⟩
def AA{cs:Z (Int×Int)}{f:Int×Int->Int×Int}{g g':Int×Int->Int}{x y:Int}(e:∀p,g (f p)=x↔g' p=y):(∃c∈cs.map f,g c=x)↔∃c∈cs,g' c=y:=by
 constructor
 .rintro⟨c,hc,e1⟩;obtain⟨p,hp,rfl⟩:=aw.mp hc;exact⟨p,hp,(e p).mp e1⟩
 .rintro⟨p,hp,e1⟩;exact⟨f p,cm hp,(e p).mpr e1⟩
def Gf.mir{cs:Z (Int×Int)}(h:Gf cs)(m:Int):Gf (cs.map λp=>(p.1,m-p.2)):=⟨h.1.of λx=>AA λp=>Iff.rfl,(h.2.flip m).of λx=>AA λp=>by constructor<;>intro<;>lia⟩
def Gf.tur{cs:Z (Int×Int)}(h:Gf cs)(m:Int):Gf (cs.map λp=>(p.2,m-p.1)):=⟨h.2.of λx=>AA λp=>Iff.rfl,(h.1.flip m).of λx=>AA λp=>by constructor<;>intro<;>lia⟩
def Gf.shift{cs:Z (Int×Int)}(h:Gf cs)(a b:Int):Gf (cs.map λp=>(p.1-a,p.2-b)):=⟨(h.1.plus a).of λx=>AA λp=>by constructor<;>intro<;>lia,(h.2.plus b).of λx=>AA λp=>by constructor<;>intro<;>lia⟩
def Gf.snoc{cs:Z (Int×Int)}(h:Gf cs){c e:Int×Int}(hc:c∈cs)(h1:c.1-1<=e.1)(h2:e.1<=c.1+1)(h3:c.2-1<=e.2)(h4:e.2<=c.2+1):Gf (cs++[e]):=by
 have sp:∀(g:Int×Int->Int)(x:Int),(∃p∈cs++[e],g p=x)↔(∃p∈cs,g p=x)\/x=g e:=λg x=>by
  constructor
  .rintro⟨p,hp,rfl⟩;rcases ay.mp hp with h|h
   .exact .inl ⟨p,h,rfl⟩
   .rw[ar.mp h];exact .inr rfl
  .rintro(⟨p,hp,rfl⟩|rfl)
   .exact⟨p,gr _ hp,rfl⟩
   .exact⟨e,cf _ ao,rfl⟩
 exact⟨(h.1.put ⟨c,hc,rfl⟩ h1 h2).of (sp _),(h.2.put ⟨c,hc,rfl⟩ h3 h4).of (sp _)⟩
def GfD(es:Z U):Prop:=Gf<|es.map cl
theorem GfD.by{ds:Z U}(hs:∀d∈ds,SgD d){f:U->U}{g:Int×Int->Int×Int}(hf:∀d,SgD d->cl (f d)=g (cl d))(h:Gf ((ds.map cl).map g)):GfD (ds.map f):=by unfold GfD;rw[bm];rw[bm]at h;rw[dv (f:=cl∘f) (g:=g∘cl) λd hd=>hf d<|hs d hd];exact h
def GfD.perm{ds es:Z U}(h:GfD ds)(p:es.Perm ds):GfD es:=Gf.mem h λc=>(p.map cl).mem_iff
theorem GfD.shift{ds:Z U}(hs:∀d∈ds,SgD d)(h:GfD ds):GfD (nw ds):=GfD.by hs (λd hd=>(xg _ _ hd).2)<|Gf.shift h _ _
theorem GfD.mir{ds:Z U}(hs:∀d∈ds,SgD d)(h:GfD ds):GfD (kN ds):=GfD.by hs (λd hd=>(E6 _ hd).2)<|Gf.mir h _
theorem GfD.tur{ds:Z U}(hs:∀d∈ds,SgD d)(h:GfD ds):GfD (lD ds):=GfD.by hs (λd hd=>(Fc _ hd).2)<|Gf.tur h _
theorem GfD.iter{ds:Z U}(hz:Zr ds)(h:GfD ds):∀i,GfD (uH i ds)
 | 0=>h
 | i+1=>by rw[xu];exact GfD.tur (hz.iter i).pre.sg (GfD.iter hz h i)
def GfD.turned{ds:Z U}(hz:Zr ds)(h:GfD ds)(t:Nat):GfD (u8 t ds):=by
 show GfD (uH (t % 4) (if 4<=t then kN ds else ds));split
 .exact GfD.iter hz.mir (h.mir hz.pre.sg) _
 .exact GfD.iter hz h _
def axl{es fs:Z U}{n:Nat}(hz:Zr es)(h:GfD es)(hm:.tuple fs∈FS es n):GfD fs:=by
 obtain⟨t,ht⟩:=Jl _ hm;unfold ua at ht;injection ht with ht
 rw[<-ht];exact(h.turned hz t).perm (ow _)
def Sd(m:Nat)(p:Pc):Prop:=(∃s∈p.1,s.2.1<m)/\∀a∈p.1,∀b∈p.1,∀k,a.2.1<=k->k<=b.2.1->∃s∈p.1,s.2.1=k
def Sd.mono{m n:Nat}{p:Pc}(h:Sd m p)(l:m<=n):Sd n p:=by obtain⟨⟨s,hs,h1⟩,h2⟩:=h;exact⟨⟨s,hs,by lia⟩,h2⟩
def Sd.cols{m:Nat}{p q:Pc}(h:Sd m p)(e:∀k,(∃s∈q.1,s.2.1=k)↔∃s∈p.1,s.2.1=k):Sd m q:=by obtain⟨⟨s,hs,h1⟩,h2⟩:=h;obtain⟨s',eB,e'⟩:=(e _).mpr ⟨s,hs,rfl⟩;refine⟨⟨s',eB,by lia⟩,λa ha b hb k k1 k2=>(e k).mpr ?_⟩;obtain⟨a',BW,ea⟩:=(e _).mp ⟨a,ha,rfl⟩;obtain⟨b',dS,eb⟩:=(e _).mp ⟨b,hb,rfl⟩;exact h2 a' BW b' dS k (by lia)<|by lia
noncomputable def shS(m:Nat)(s:Sg):Sg:=(s.1,s.2.1+m,s.2.2)
noncomputable def shP(m:Nat)(p:Pc):Pc:=(p.1.map<|shS m,p.2)
def Sd.right{m:Nat}{p:Pc}(h:Sd m p):Sd (m+1) (shP 1 p):=by obtain⟨⟨s,hs,h1⟩,h2⟩:=h;refine⟨⟨shS 1 s,cm hs,by show s.2.1+1<m+1;lia⟩,λa ha b hb k k1 k2=>?_⟩;obtain⟨a',BW,rfl⟩:=aw.mp ha;obtain⟨b',dS,rfl⟩:=aw.mp hb;have k1:a'.2.1+1<=k:=k1;have k2:k<=b'.2.1+1:=k2;obtain⟨s',eB,e⟩:=h2 a' BW b' dS (k-1) (by lia) (by lia);exact⟨shS 1 s',cm eB,by show s'.2.1+1=k;lia⟩
def axp{es:Z U}(hz:Zr es)(g:GfD es){dn rt wd n:Nat}(h:rt<wd){ss:Z Sg}(e:es.map (sh1 (dn:Nat) (rt:Nat))=ss.map sgD):Sd wd (ss,n):=by
 have key:∀x:Int,(∃s∈ss,((s.2.1:Nat):Int)=x)↔∃c∈es.map cl,c.2=x-(rt:Nat):=λx=>by
  constructor
  .rintro⟨s,hs,rfl⟩;have hm:sgD s∈es.map (sh1 (dn:Nat) (rt:Nat)):=by rw[e];exact cm hs
   obtain⟨d,hd,ed⟩:=aw.mp hm;refine⟨cl d,cm hd,?_⟩;obtain⟨r,c,k,rfl,_⟩:=hz.pre.sg d hd;unfold sgD at ed;injection ed with ed
   injection ed with _ ed
   injection ed with ed _
   injection ed with ed
   show c=_;lia
  .rintro⟨c,hc,e1⟩;obtain⟨d,hd,rfl⟩:=aw.mp hc;have hm:sh1 (dn:Nat) (rt:Nat) d∈ss.map sgD:=by rw[<-e];exact cm hd
   obtain⟨s,hs,mZ⟩:=aw.mp hm;refine⟨s,hs,?_⟩;obtain⟨r,c,k,rfl,_⟩:=hz.pre.sg d hd;unfold sgD at mZ;injection mZ with mZ
   injection mZ with _ mZ
   injection mZ with mZ _
   injection mZ with mZ
   have e1:c=x-(rt:Nat):=e1;lia
 have z0:(0:Int)∈es.map qu:=by have:=rj (ns:=es.map qu) (by rw[ae];exact hz.pre.pos);rw[hz.c0]at this;exact this
 obtain⟨d,hd,e0⟩:=aw.mp z0;obtain⟨s,hs,e1⟩:=(key (rt:Nat)).mpr ⟨cl d,cm hd,by show qu d=_;rw[e0];lia⟩;refine⟨⟨s,hs,by lia⟩,λa ha b hb k k1 k2=>?_⟩;obtain⟨c1,hc1,ec1⟩:=(key _).mp ⟨a,ha,rfl⟩;obtain⟨c2,jX,ec2⟩:=(key _).mp ⟨b,hb,rfl⟩;obtain⟨s',eB,e'⟩:=(key (k:Nat)).mpr (g.2 c1.2 c2.2 ((k:Nat)-(rt:Nat)) ⟨c1,hc1,rfl⟩ ⟨c2,jX,rfl⟩ (by lia)<|by lia);exact⟨s',eB,by lia⟩
noncomputable def jn(A B:Mat):Mat:=⟨A.h,A.w+1+B.w,λr c=>if c<A.w then A.g r c else if c=A.w then 35 else B.g r (c-A.w-1)⟩
def azh{A B:Mat}{r c:Nat}(h:c<A.w):gA (jn A B) r c=gA A r c:=by
 unfold gA;have e:(jn A B).g r c=A.g r c:=if_pos h;rw[e];by_cases hr:r<A.h
 .rw[if_pos ⟨hr,by show c<A.w+1+B.w;lia⟩,if_pos ⟨hr,h⟩]
 .rw[if_neg (λz=>hr z.1),if_neg λz=>hr z.1]
def Ci{A B:Mat}{r c:Nat}:(jn A B).g r (c+(A.w+1))=B.g r c:=by show(if c+(A.w+1)<A.w then _ else if c+(A.w+1)=A.w then 35 else B.g r (c+(A.w+1)-A.w-1))=_;rw[if_neg (by lia),if_neg<|by lia,show c+(A.w+1)-A.w-1=c by lia]
def azm{A B:Mat}(hh:A.h=B.h){r c:Nat}:gA (jn A B) r (c+(A.w+1))=gA B r c:=by
 unfold gA;rw[Ci];by_cases hr:r<B.h/\c<B.w
 .rw[if_pos hr,if_pos ⟨by show r<A.h;lia,by show c+(A.w+1)<A.w+1+B.w;lia⟩]
 .rw[if_neg hr,if_neg λz=>hr ⟨by have:r<A.h:=z.1;lia,by have:c+(A.w+1)<A.w+1+B.w:=z.2;lia⟩]
def EA{A B:Mat}{r:Nat}:(jn A B).g r A.w=35:=by show(if A.w<A.w then _ else if A.w=A.w then 35 else _)=_;rw[if_neg (js _),if_pos rfl]
def E4(M:Mat)(ss:Z Sg):mO M (.tuple<|ss.map sgD)=ss.all λs=>okS (gA M s.1 s.2.1) s.2.2:=by show(ss.map sgD).all (vU M)=_;rw[List.all_map];exact congrArg ss.all<|funext λs=>Jm M s.1 s.2.1 s.2.2
theorem yb{α:Type}{f g:α->Bool}:∀{l:List α},(∀x∈l,f x=g x)->l.all f=l.all g
 | [],_=>rfl
 | x::l,h=>by rw[List.all_cons,List.all_cons,h x ao,yb λy hy=>h y<|au _ hy]
def auj{A B:Mat}{ks:Z (Z U×Nat)}(hK:KsZ ks){p:Pc}(hP:PcO p)(hn:p.2<ks.length)(hS:Sd (A.w+1) p):Lie (jn A B) ks p↔Lie A ks p:=by
 rw[CP hP (ah hn) hK,CP hP (ah hn) hK];have same:(∀s∈p.1,s.2.1<A.w)->mO (jn A B) (.tuple<|p.1.map sgD)=mO A (.tuple<|p.1.map sgD):=λh=>by rw[E4,E4];exact yb λs hs=>by rw[azh (h s hs)]
 refine and_congr Iff.rfl<|and_congr ⟨λh=>?_,λh=>?_⟩ Iff.rfl
 .have xE:=EN hP.1 h;rw[<-same λs hs=>?_]
  .exact h
  .refine Nat.lt_of_not_le λoX=>?_;obtain⟨⟨a,ha,h1⟩,h2⟩:=hS;obtain⟨s',eB,e⟩:=h2 a ha s hs A.w (by lia) oX;have:=(xE s' eB).2.2;rw[e,EA]at this;exact this rfl
 .rw[same λs hs=>(EN hP.1 h s hs).2.1];exact h
def PcO.sh{p:Pc}(h:PcO p)(m:Nat):PcO (shP m p):=⟨λs hs=>by obtain⟨s',eB,rfl⟩:=aw.mp hs;exact h.1 s' eB,by show 0<(p.1.map _).length;rw[ae];exact h.2.1,by show(p.1.map _).length<=6;rw[ae];exact h.2.2⟩
def aw0(m:Nat)(ss:Z Sg):(ss.map<|shS m).map sgD=(ss.map sgD).map (sh1 0 (m:Nat)):=by rw[bm,bm];refine dv λs _=>?_;show PyData.tuple [.int (s.1:Nat),.int ((s.2.1+m:Nat):Int),_]=.tuple [.int ((s.1:Nat)+0),.int<|(s.2.1:Nat)+(m:Nat),_];rw[Int.add_zero,Int.natCast_add];rfl
def avz{es:Z U}(h:Spots es)(a b:Int):Up (es.map<|sh1 a b)↔Up es:=by
 constructor
 .intro u;have:=ER (f:=sh1 (-a)<|-b) (a:=-a) (b:=-b) (es:=es.map<|sh1 a b) (λd hd=>by
   obtain⟨x,hx,rfl⟩:=aw.mp hd;obtain⟨r,c,z,rfl⟩:=h x hx;exact(mz _ _ _ rfl)) (λr c z=>rfl) u
  rw[ark h]at this;exact this
 .exact ER h λr c z=>rfl
def agu{es:Z U}(h:Spots es):ub es=es↔Up es:=⟨λe=>by rw[<-e];exact se h,E7 h⟩
def am7{es:Z U}(h:Spots es)(a b:Int):Spots (es.map<|sh1 a b):=λd hd=>by obtain⟨x,hx,rfl⟩:=aw.mp hd;obtain⟨r,c,z,rfl⟩:=h x hx;exact(mz _ _ _ rfl)
def an8{es:Z U}(h:Spots es)(hp:0<es.length)(a b:Int):nw (es.map<|sh1 a b)=nw es:=by unfold nw;rw[aot h,ao2 h,E1<|by rw[ae];exact hp,E1<|by rw[ae];exact hp,bm];refine oa h λr c z=>?_;show PyData.tuple [.int (r+a-(_+a)),.int<|c+b-(_+b),.str z]=.tuple [.int (r-_),.int<|c-_,.str z];rw[Int.add_sub_add_right,Int.add_sub_add_right]
def as5{A B:Mat}(hh:A.h=B.h){ks:Z (Z U×Nat)}(hK:KsZ ks){p:Pc}(hP:PcO p)(hn:p.2<ks.length):Lie (jn A B) ks (shP (A.w+1) p)↔Lie B ks p:=by
 rw[CP (hP.sh _) (show ks[(shP (A.w+1) p).2]?=some _ from ah hn) hK,CP hP (ah hn) hK];have gM:Spots (p.1.map sgD):=SgN.spots<|AF hP.1;have e:(shP (A.w+1) p).1.map sgD=(p.1.map sgD).map (sh1 0 ((A.w+1:Nat):Int)):=aw0 _ _;refine and_congr ?_<|and_congr ?_ ?_
 .rw[e,agu<|am7 gM _ _,agu gM];exact avz gM _ _
 .rw[E4,E4];show((p.1.map _).all _=true)↔_;rw[List.all_map];rw[yb (g:=λs=>okS (gA B s.1 s.2.1) s.2.2) λs _=>?_];show okS (gA (jn A B) s.1<|s.2.1+(A.w+1)) s.2.2=_;rw[azm hh]
 .rw[e,an8 gM<|by rw[ae];exact hP.2.1]
def EB:AZ.length<=aE:=aiw<|txL<|by decide +kernel
def asw:Sp:=λvs H Q _=>∃(st:aF)(n:Z V),vs=[.ref st]/\H st=some (.lst n)/\StL n/\∀(D:aF)(cs:Z Nat)(n':Z V)(H':Hp),cs.length=2->(∀c∈cs,Ltr c)->Ex [st] H H'->H' st=some (.lst n')->StL n'->D≠st->H' D=some (.lst<|nB cs)->Q (.ref D) H'
def scLet:mj ["_law_state","_law_some","_law_first"] ["_law_state"] (l0 Iu):={}
def au1(bE:yp P w K mg base)(F:Fun K "_law_letters" "_law_letters" Iu f fd):qm P w K mg base CX0 2 f fd ["_law_state"] asw:=by
 refine F.ok (k:=1) scLet (λvs H Q E h=>?_) λbW A outer s H vs Q E hr h=>?_
 .obtain⟨_,_,rfl,_⟩:=h;rfl
 obtain⟨st,n,rfl,hst,hn,q⟩:=h;refine⟨_,(lg (psN 1 scLet.nd m9)
  (lg (psN 2 scLet.nd<|pfn bE<|lj (pv 0)<|lj lh lc)
  (lq<|mr<|ot<|lj (pix CC (pv 1)<|pv 2)<|lj (pix CC (pv 1)<|nj u9 (nj pj (nj pj (pv 2) lh)<|pfn bE<|lj (pv 0)<|lj lh lc) lh) lc))),?_⟩
 refine(oj _ rfl st n 26 ⟨rfl,hst,hn,by decide,by decide,λn1 i1 H1 x1 gO iN yD Ef=>?_⟩);obtain⟨m,rfl⟩:=cc yD;refine(mh _ rfl _ rfl AZ _ (65+m) ⟨rfl,rfl,EB,lv<|ato<|by lia,?_⟩);refine(og _ rfl _ rfl _ _ rfl rfl _ ⟨rfl,(mz st n1 25 ⟨rfl,gO,iN,by decide,by decide,λn2 i2 H2 x2 dL kJ Ee h21=>?_⟩)⟩);obtain⟨m',tO,em⟩:∃m':Nat,m'<26/\((m:Nat)+1+i2) % 26=(m':Nat):=⟨(((m:Nat)+1+i2) % 26).toNat,by lia,by lia⟩;refine(sq _ _ rfl rfl _ _ ⟨rfl,rfl,(by show(0:Int)<26;decide),(mz AZ _ (65+m') ⟨rfl,rfl,EB,(by show atI _ (((m:Nat)+1+i2) % 26)=_;rw[em];exact lv<|ato tO),sZ2,λD hD=>?_⟩)⟩);generalize g1:upd H2 D _=H3 at *;obtain⟨s3,e3⟩:=al hD g1;clear g1;refine q D [65+m,65+m'] n2 H3 rfl (λc hc=>?_) ((x1.trans x2).trans (Ex.of_same s3)) (s3 _ _ dL) kJ (λz=>by rw[z,dL]at hD;cases hD) e3;simp only[ax,df,or_false]at hc;unfold Ltr;rcases hc with rfl|rfl<;>lia
def aos:Sp:=λvs H Q _=>∃(st lt:aF)(n:Z V)(cs:Z Nat),vs=[.ref st,.ref lt,.int 6]/\H st=some (.lst n)/\StL n/\H lt=some (.lst<|nB cs)/\cs.length=2/\(∀c∈cs,Ltr c)/\lt≠st/\
 ∀(r:aF)(H':Hp)(n':Z V)(es:Z U),Ex [st] H H'->H' st=some (.lst n')->StL n'->Zr es->GfD es->Rep H' (.tuple es) (.ref r)->Q (.ref r) H'
def scForm:mj ["_law_state","_law_letters_here","_law_most","_law_cells","_law_k","_law_cell","_law_step"] ZQ (l0 IP):={}
theorem aq3(B:∀x∈sk,mg x=none)(bE:yp P w K mg base)(kU:Fn P w K mg base "_law_formed" 1 Z0 J0)(F:Fun K "_law_form" "_law_form" IP f fd):qm P w K mg base CX0 2 f fd ZQ aos:=by
 refine F.ok (k:=1) scForm (λvs H Q E h=>?_) λbW A outer s H vs Q E hr h=>?_
 .obtain⟨_,_,_,_,rfl,_⟩:=h;rfl
 obtain⟨st,lt,n,ls,rfl,hst,hn,bQ,jX,mC,iL,q⟩:=h;have hu:=hr.units;refine⟨_,(lg (psN 3 scForm.nd<|ot<|lj (my<|lj lh<|lj lh lc) lc)
  (lg (pfo (pR1<|lj (pfn bE<|lj (pv 0)<|lj (pv 2) lc) lc) (pgN 4 scForm.nd) (lg (psN 5 scForm.nd<|pix mx (pv 3)<|pfn bE<|lj (pv 0)<|lj (pCB m8 fy<|lj (pv 3) lc) lc)
  (lg (psN 6 scForm.nd<|pix mx (ot<|lj (my<|lj lh<|lj lh lc)<|lj (my<|lj lh<|lj lh lc)<|lj (my<|lj lh<|lj (vZ yk lh) lc)<|lj (my<|lj (vZ yk lh)<|lj lh lc) lc)<|pfn bE<|lj (pv 0)<|lj lh lc)
  (lg (psN 5 scForm.nd<|my<|lj (nj pj (pix nh (pv 5) lh)<|pix nh (pv 6) lh)<|lj (nj pj (pix nh (pv 5) lh)<|pix nh (pv 6) lh) lc)
  (lq<|rg (nv (zw hu) (pv 5) (pv 3) rfl) (lq<|qr<|vn cj gc gd pq (pv 3)<|lj (pv 5) lc) o0)))))
  (lq<|mr<|pfn kU<|lj (pcm ["_law_row","_law_column","_law_letters_here","_law_state"] [none,none,some 1,some 0] (o7<|pv 3) (λ_=>(ph (n:=2) rfl<|ln (pgC 0)<|ln (pgC 1) ni)) (λ_=>om) λ_=>(my<|lj (pv 0)<|lj (pv 1)<|lj (pix anh (pv 2)<|pfn bE<|lj (pv 3)<|lj (pCB ac9 fy<|lj (pv 2) lc) lc) lc)) lc))),?_⟩
 refine⟨sZ2,λp1 Gv=>?_⟩;generalize g1:upd H p1 _=Ha at *;obtain⟨sa,ea⟩:=al Gv g1;clear g1;refine⟨sZ1,λp2 qV=>?_⟩;generalize g1:upd Ha p2 _=H1 at *;obtain⟨sb,c1⟩:=al qV g1;clear g1;have Bp:=sa.free qV;have n2:st≠p2:=ou hst Bp;have s1:=sa.trans sb;have b1:=sb _ _ ea;have gO:=s1 _ _ hst;have nb:p1≠st:=As b1 gO (by intro z;cases z);refine(mh _ rfl _ rfl st n 6 ⟨rfl,gO,hn,by decide,by decide,λn' j Hj Hw stj hnj hj0 hj1=>⟨j,rfl,by lia,by lia,?_⟩⟩);refine qq (n:=j.toNat) (lo:=0) (λi σ' G=>∃(x4 x5 x6:Option V)(n':Z V)(xs:Z V)(cs:Z U),σ'=[some (.ref st),some<|.ref lt,some<|.int 6,some<|.ref p2,x4,x5,x6]/\Ex [st] H G/\G st=some (.lst n')/\StL n'/\G p2=some (.lst xs)/\RepAll G cs xs/\Cells cs/\(cs.map cl).Nodup/\0<cs.length/\cs.length<=i+1/\Gf (cs.map cl)) ?_ (λi σ' G hi h=>?_) λσ' G h=>?_
 .refine(lw _ _ _ n' ([.ref p1]) ⟨[.tuple [.int 0,.int 0]],rfl,(Ex.of_same s1).trans Hw,stj,hnj,Hw.at (Ne.symm n2) c1,(l8 _ _ ⟨rfl,qp<|Hw.at nb b1,rfl⟩),λd hd=>?_,by simp,by simp,by simp,?_⟩)
  .rw[ar.mp hd];exact(l8 0 0 rfl)
  .have one:∀x:Int,(∃c∈[((0:Int),(0:Int))],c.1=x)->x=0:=λx ⟨c,hc,e⟩=>by rw[ar.mp hc]at e;exact e.symm
   have two:∀x:Int,(∃c∈[((0:Int),(0:Int))],c.2=x)->x=0:=λx ⟨c,hc,e⟩=>by rw[ar.mp hc]at e;exact e.symm
   exact⟨λa b k ha hb h1 h2=>⟨_,ar.mpr rfl,by have:=one a ha;have:=one b hb;show(0:Int)=k;lia⟩,λa b k ha hb h1 h2=>⟨_,ar.mpr rfl,by have:=two a ha;have:=two b hb;show(0:Int)=k;lia⟩⟩
 .obtain⟨x4,x5,x6,n1,xs,cs,rfl,ex,hs,iN,hp,rep,lY,kI,hpos,bD,DR⟩:=h;have hxl:=rep.length;refine(pf _ rfl _ rfl _ rfl p2 xs ⟨rfl,.inl<|SqL.of hp,(mz st n1 _ ⟨rfl,hs,iN,by lia,by lia,λn3 i2 GA xA stA hnA Ee h21=>?_⟩)⟩);obtain⟨j2,rfl⟩:=cc Ee;have tT:j2<xs.length:=by lia
  obtain⟨b,r,c,hv,hb,jW⟩:=agx lY rep<|ah tT;have Ds:b≠st:=As hb hs (by intro z;cases z);have exA:=ex.trans xA;have pA:=xA.at (Ne.symm n2) hp;have rA:=rep.tk (xA.one hs) lY.imm;refine(mf p2 xs _ (.ref b) ⟨rfl,rfl,SqL.of pA,lv<|by rw[ah tT,hv],?_⟩);refine⟨sZ2,λq1 wZ=>?_⟩;generalize g1:upd GA q1 _=G1 at *;obtain⟨t1,u1⟩:=al wZ g1;clear g1;refine⟨sZ2,λq2 oU=>?_⟩;generalize g1:upd G1 q2 _=G2 at *;obtain⟨t2,u2⟩:=al oU g1;clear g1;refine⟨_,rfl,sZ2,λq3 Gm=>?_⟩;generalize g1:upd G2 q3 _=G3 at *;obtain⟨t3,u3⟩:=al Gm g1;clear g1;refine⟨_,rfl,sZ2,λq4 hq4=>?_⟩;generalize g1:upd G3 q4 _=G4 at *;obtain⟨t4,u4⟩:=al hq4 g1;clear g1;refine⟨(by show 4<=aE;decide),λq5 Gk=>?_⟩;generalize g1:upd G4 q5 _=G5 at *;obtain⟨t5,u5⟩:=al Gk g1;clear g1;have tA:Same GA G5:=(((t1.trans t2).trans t3).trans t4).trans t5;have Ht:∀m:Nat,m<4->∃(b':aF)(d e:Int),[V.ref q1,.ref q2,.ref q3,.ref q4][m]?=some (.ref b')/\G5 b'=some (.tup [.int d,.int e])/\-1<=d/\d<=1/\-1<=e/\e<=1:=λm hm=>by
   match m,hm with
   | 0,_=>exact(mz q1 _ _ ⟨rfl,t5 _ _<|t4 _ _<|t3 _ _<|t2 _ _ u1,by decide,by decide,by decide,by decide⟩)
   | 1,_=>exact(mz q2 _ _ ⟨rfl,t5 _ _<|t4 _ _<|t3 _ _ u2,by decide,by decide,by decide,by decide⟩)
   | 2,_=>exact(mz q3 _ _ ⟨rfl,t5 _ _<|t4 _ _ u3,by decide,by decide,by decide,by decide⟩)
   | 3,_=>exact(mz q4 _ _ ⟨rfl,t5 _ _ u4,by decide,by decide,by decide,by decide⟩)
  have Fp:=tA _ _ stA;have nq5:q5≠st:=λe=>by rw[e,((((t1.trans t2).trans t3).trans t4)) _ _ stA]at Gk;cases Gk
  refine(oj _ rfl st n3 4 ⟨rfl,Fp,hnA,by decide,by decide,λn4 i3 GC xC stC hnC vL Ed=>?_⟩);obtain⟨j3,rfl⟩:=cc vL;obtain⟨b',d,e,dS,hbd,d1,d2,e1,e2⟩:=Ht j3 (by lia);have jQ:b'≠st:=As hbd Fp (by intro z;cases z);have exC:=(exA.trans<|Ex.of_same tA).trans xC;have pC:=xC.at (Ne.symm n2)<|tA _ _ pA;have rC:=(rA.same tA).tk (xC.one Fp) lY.imm;have bC:=xC.at Ds<|tA _ _<|xA.at Ds hb;have b'C:=xC.at jQ hbd;refine(mf q5 _ _ (.ref b') ⟨rfl,rfl,SqL.of<|xC.at nq5 u5,lv dS,?_⟩);refine(lr _ rfl b _ _ _ ⟨rfl,rfl,SqT.of bC,lv (j:=0) rfl,(lr _ rfl b' _ _ _ ⟨rfl,rfl,SqT.of b'C,lv (j:=0) rfl,(l8 _ _ ⟨rfl,rfl,(lr _ rfl b _ _ _ ⟨rfl,rfl,SqT.of bC,lv (j:=1) rfl,(lr _ rfl b' _ _ _ ⟨rfl,rfl,SqT.of b'C,lv (j:=1) rfl,(l8 _ _ ⟨rfl,rfl,sZ2,λt6 F8=>?_⟩)⟩)⟩)⟩)⟩)⟩);generalize g1:upd GC t6 _=GD at *;obtain⟨s6,c6⟩:=al F8 g1;clear g1;have pD:=s6 _ _ pC;refine(mh _ rfl _ rfl (.tuple [.int (r+d),.int<|c+e]) p2 xs ⟨cs,qp c6,rfl,.inl pD,rC.same s6,(by simp[jy,ca]),_,rfl,?_⟩);have exD:=exC.trans<|Ex.of_same s6;refine sr (λqY=>?_) λ_=>?_
  .refine(ql _ rfl (.inl ⟨rfl,_,SqL.of pD⟩) _ rfl p2 xs (.ref t6) ⟨rfl,rfl,pD,mm<|by lia,?_⟩);have BN:Cells (cs++[.tuple [.int (r+d),.int<|c+e]]):=λz hz=>by
    rcases ay.mp hz with h|h
    .exact lY z h
    .rw[ar.mp h];exact(l8 _ _ rfl)
   refine(lw _ _ _ n4 (xs++[.ref t6]) ⟨cs++[.tuple [.int (r+d),.int<|c+e]],rfl,exD.new Bp,by rw[ma n2];exact s6 _ _ stC,hnC,l9,((rC.same s6).snoc (qp c6)).tk (Tk.lst pD) BN.imm,BN,?_,by simp,by simp;lia,?_⟩)
   .exact aps lY kI (by rw[if_pos rfl]at qY;exact qY) (qp c6).lay
   .rw[bu];exact DR.snoc (c:=(r,c)) (e:=(r+d,c+e)) (aw.mpr ⟨_,ak jW,rfl⟩) (by show r-1<=r+d;lia) (by show r+d<=r+1;lia) (by show c-1<=c+e;lia)<|by show c+e<=c+1;lia
  .exact(lw _ _ _ n4 xs ⟨cs,rfl,exD,s6 _ _ stC,hnC,pD,rC.same s6,lY,kI,hpos,by lia,DR⟩)
 .obtain⟨x4,x5,x6,n1,xs,cs,rfl,ex,hs,iN,hp,rep,lY,kI,hpos,bD,DR⟩:=h;have hxl:=rep.length;have GM:(nB ls).length=2:=by unfold nB;rw[ae];exact jX
  have ltG:=ex.at iL bQ;refine(oo _ rfl p2 ⟨rfl,⟨_,SqL.of hp⟩,λD hD=>?_⟩);have nD:D≠st:=λe=>by rw[e,hs]at hD;cases hD
  refine pw (xs:=xs) (λi zs J=>∃(n5:Z V)(es:Z U),Ex [st] G J/\J st=some (.lst n5)/\StL n5/\es.length=i/\RepAll J es zs/\(∀d∈es,SgD d)/\es.map cl=(cs.take i).map cl) ?_ (λi zs J p=>?_) (λi x zs J hx hi bJ dP p=>?_) λzs J bJ dP p=>?_
  .exact(l8 n1 ([]) ⟨Ex.fresh hD,by rw[ma (Ne.symm nD)];exact hs,iN,rfl,rfl,(λd hd=>by cases hd),rfl⟩)
  .obtain⟨n5,es,fx,_⟩:=p;exact SqL.of<|fx.at (Ne.symm n2) hp
  .obtain⟨n5,es,fx,eZ,lU,jU,cI,wY,rJ⟩:=p;obtain⟨b,r,c,rfl,hb,jW⟩:=agx lY rep hx;have Ds:b≠st:=As hb hs (by intro z;cases z);have hi6:i<xs.length:=(aj.mp hx).1;refine(me b _ rfl (SqT.of<|fx.at Ds hb) rfl _ _ rfl _ ⟨_,rfl,rfl,?_⟩);refine⟨Agree.set (Agree.set (Agree.refl _) rfl) rfl,?_⟩;dsimp only[jY];refine xy ?_;have lt5:=fx.at iL ltG;refine(qi _ rfl _ rfl _ ⟨rfl,(og _ rfl _ rfl lt _ rfl (.inl<|SqL.of lt5) st<|l8 n5 _ ⟨rfl,eZ,lU,by rw[GM];decide,by rw[GM];decide,λn6 i6 J6 Db yY zO Eb Ea=>?_⟩)⟩);obtain⟨m,rfl⟩:=cc Eb;rw[GM]at Ea;have hm:m<ls.length:=by lia
   have hmc:ls[m]?=some (ls[m]'hm):=ah _;have zR:=mC _<|ak hmc;generalize ls[m]'hm=k at *;refine(mf lt _ _ (.str ⟨#[k]⟩) ⟨rfl,rfl,SqL.of<|Db.at iL lt5,lv<|by unfold nB;rw[bz,hmc];rfl,sZ3,λq1 wZ=>?_⟩);generalize g1:upd J6 q1 _=J7 at *;obtain⟨s7,c7⟩:=al wZ g1;clear g1;have B4:=s7 _ _<|Db.at nD bJ;have imE:o9 es=true:=Spots.imm λd hd=>by obtain⟨r',c',k',e,_⟩:=wY d hd;exact(mz r' c' _ e)
   refine p9 (by lia) B4 dP<|l8 n6 (es++[.tuple [.int r,.int c,.str ⟨#[k]⟩]]) ⟨((fx.trans Db).trans (Ex.of_same s7)).new hD,by rw[ma (Ne.symm nD)];exact s7 _ _ yY,zO,by rw[be,jU];rfl,?_,?_,?_⟩
   .refine(((cI.tk (Db.one eZ) imE).same s7).snoc (v0 c7 (ok1<|by have:=zR.2;lia))).tk (Tk.lst B4) (Spots.imm λd hd=>?_);rcases ay.mp hd with h|h
    .obtain⟨r',c',k',e,_⟩:=wY d h;exact(mz r' c' _ e)
    .rw[ar.mp h];exact(mz _ _ _ rfl)
   .intro d hd;rcases ay.mp hd with h|h
    .exact wY d h
    .rw[ar.mp h];exact(mz r c k ⟨rfl,zR.1,zR.2⟩)
   .rw[bu,rJ,mn cl jW];rfl
  .obtain⟨n5,es,fx,eZ,lU,jU,cI,wY,rJ⟩:=p;rw[bi (by lia)]at rJ;have pre:Pre es:=⟨wY,by lia,by lia,by rw[rJ];exact kI⟩;have gf:GfD es:=by unfold GfD;rw[rJ];exact DR
   refine(mz D zs es ⟨rfl,.inl bJ,cI,pre.spots,by lia,by lia,λr H9 s9 FD=>?_⟩);exact q r H9 n5 _ ((ex.trans fx).trans (Ex.of_same s9)) (s9 _ _ eZ) lU ((Zr.shift pre).perm (ow _)) ((gf.shift pre.sg).perm (ow _)) FD
theorem xyz{j:Nat}(h:j<3):∃c,(bh "xyz").cps.toList[j]?=some c:=⟨_,ah<|by rw[show(bh "xyz").cps.toList.length=3 by decide +kernel];exact h⟩
def BndK.tk{H H':Hp}{kvs:Z V}{aX:Z (Int×Option Int)}(h:BndK H kvs aX)(s:Tk H H'):BndK H' kvs aX:=⟨h.1,λi v m h1 h2=>by obtain⟨b,u0,u3,u4,rfl,hb⟩:=h.2 i v m h1 h2;exact(mf b u0 u3 u4 ⟨rfl,s _ _ hb⟩)⟩
def BndK.snoc{H:Hp}{kvs:Z V}{aX:Z (Int×Option Int)}(h:BndK H kvs aX){b:aF}{u0 u3 u4:V}{a:Int}{o:Option Int}(hb:H b=some (.tup [u0,.int a,aua o,u3,u4])):BndK H (kvs++[.ref b]) (aX++[(a,o)]):=by
 refine⟨by rw[be,be,h.1];rfl,λi v q h1 h2=>?_⟩;by_cases hi:i<kvs.length
 .rw[ei hi]at h1;rw[ei (by rw[<-h.1];exact hi)]at h2;exact h.2 i v q h1 h2
 .have hl:=(aj.mp h1).1;rw[be,fq]at hl;have e:i=kvs.length:=by lia
  subst e;rw[ck (by lia),Nat.sub_self]at h1;rw[h.1,ck<|by lia,Nat.sub_self]at h2;cases h1;cases h2;exact(mf b u0 u3 u4 ⟨rfl,hb⟩)
theorem KindsK.tk{H H':Hp}{kvs:Z V}{ks:Z (Z U×Nat)}(h:KindsK H kvs ks)(t:Tk H H'):KindsK H' kvs ks:=⟨h.1,λi v k h1 h2=>(h.2 i v k h1 h2).tk t⟩
structure Kn(H:Hp)(kvs:Z V)(ks:Z (Z U×Nat))(aX:Z (Int×Option Int)):Prop where
 k:KindsK H kvs ks
 b:BndK H kvs aX
 g:∀k∈ks,GfD k.1
 z:∀q∈aX,q=(0,none)
theorem Kn.tk{H H':Hp}{kvs:Z V}{ks:Z (Z U×Nat)}{aX:Z (Int×Option Int)}(h:Kn H kvs ks aX)(t:Tk H H'):Kn H' kvs ks aX:=⟨h.k.tk t,h.b.tk t,h.g,h.z⟩
def Kn.same{H H':Hp}{kvs:Z V}{ks:Z (Z U×Nat)}{aX:Z (Int×Option Int)}(h:Kn H kvs ks aX)(s:Same H H'):Kn H' kvs ks aX:=h.tk<|Tk.of_same s
def ak3:Sp:=λvs H Q _=>∃(st lt:aF)(n:Z V)(cs:Z Nat),vs=[.ref st,.ref lt,.int 3,.int 6,.bl false]/\H st=some (.lst n)/\StL n/\H lt=some (.lst<|nB cs)/\cs.length=2/\(∀c∈cs,Ltr c)/\lt≠st/\
 ∀(D:aF)(H':Hp)(n' kvs:Z V) (ks:Z (Z U×Nat)) (aX:Z (Int×Option Int)),Ex [st] H H'->H' st=some (.lst n')->StL n'->H D=none->H' D=some (.lst kvs)->Kn H' kvs ks aX->0<ks.length->ks.length<=3->Q (.ref D) H'
def scKinds:mj ["_law_state","_law_letters_here","_law_many","_law_most","_law_bounded","_law_some","_law_kinds_here","_law_k","_law_name","_law_mode","_law_form_here","_law_least","_law_top"] ZP (l0 Jo):={}
def amu(B:∀x∈sk,mg x=none)(bE:yp P w K mg base)(C7:Fn P w K mg base "_law_form" 2 ZQ aos)(F:Fun K "_law_kinds" "_law_kinds" Jo f fd):qm P w K mg base CX0 3 f fd ZP ak3:=by
 refine F.ok (k:=2) scKinds (λvs H Q E h=>?_) λbW A outer s H vs Q E hr h=>?_
 .obtain⟨_,_,_,_,rfl,_⟩:=h;rfl
 obtain⟨st,lt,n,cs,rfl,hst,hn,bQ,jX,mC,iL,q⟩:=h;have hu:=hr.units;have l3:(bh "xyz").length<=aE:=by decide +kernel
 have EB:az.length<=aE:=aiw (txL<|by decide +kernel);refine⟨_,(lg (psN 5 scKinds.nd m9)
  (lg (psN 6 scKinds.nd<|ot lc)
  (lg (pfo (pR1<|lj (nj pj lh<|pfn bE<|lj (pv 0)<|lj (pv 2) lc) lc) (pgN 7 scKinds.nd) (lg (psN 8 scKinds.nd<|nj ux (pix CC (pv 5)<|pfn bE<|lj (pv 0)<|lj lh lc)<|pix CC m9<|pv 7)
  (lg (psN 9 scKinds.nd<|pix mx (ot<|lj m9<|lj m9<|lj m9 lc)<|pfn bE<|lj (pv 0)<|lj lh lc)
  (lg (psN 10 scKinds.nd<|pfn C7<|lj (pv 0)<|lj (pv 1)<|lj (pv 3) lc)
  (lg (psN 11 scKinds.nd lh)
  (lg (psN 12 scKinds.nd tj)
  (lg (rg (yo<|pv 4) (lg (psN 11 scKinds.nd<|pix mx (ot<|lj lh<|lj lh<|lj lh<|lj (pfn bE<|lj (pv 0)<|lj lh lc) lc)<|pfn bE<|lj (pv 0)<|lj lh lc)
  (lq<|psN 12 scKinds.nd<|pix mx (ot<|lj tj<|lj tj<|lj (nj pj (pv 11)<|pfn bE<|lj (pv 0)<|lj lh lc)<|lj (nj pj lh<|pfn bE<|lj (pv 0)<|lj lh lc) lc)<|pfn bE<|lj (pv 0)<|lj lh lc)) o0)
  (lq<|qr<|vn cj gc gd pq (pv 6)<|lj (my<|lj (pv 8)<|lj (pv 11)<|lj (pv 12)<|lj (pv 9)<|lj (pv 10) lc) lc))))))))
  (lq<|mr<|pv 6)))),?_⟩
 refine⟨sZ0,λD hD=>?_⟩;generalize g1:upd H D _=H1 at *;obtain⟨s1,e1⟩:=al hD g1;clear g1;have nD:D≠st:=λe=>by rw[e,hst]at hD;cases hD
 refine(mh _ rfl _ rfl st n 3 ⟨rfl,s1 _ _ hst,hn,by decide,by decide,λn2 i2 H2 x2 dL kJ Ee h21=>(l8 _ _ ⟨rfl,rfl,?_⟩)⟩);obtain⟨m2,rfl⟩:=cc Ee;refine⟨((1+m2:Nat):Int),by rw[Int.natCast_add];rfl,by lia,by lia,?_⟩;rw[ci];refine qq (lo:=0) (λi σ' G=>∃(y7 y8 y9 jZ iS iR:Option V)(n kvs:Z V) (ks:Z (Z U×Nat)) (aX:Z (Int×Option Int)),σ'=[some (.ref st),some<|.ref lt,some<|.int 3,some<|.int 6,some<|.bl false,some<|.str az,some<|.ref D,y7,y8,y9,jZ,iS,iR]/\Ex [st] H G/\G st=some (.lst n)/\StL n/\G D=some (.lst kvs)/\Kn G kvs ks aX/\ks.length=i) ?_ (λi σ' G hi h=>?_) λσ' G h=>?_
 .exact(lw _ _ _ _ _<|lw _ n2 ([]) ([]) ([]) ⟨rfl,(Ex.of_same s1).trans x2,dL,kJ,x2.at nD e1,⟨⟨rfl,λi v k h=>by simp at h⟩,⟨rfl,λi v k h=>by simp at h⟩,(λk hk=>by cases hk),λk hk=>by cases hk⟩,rfl⟩)
 .obtain⟨y7,y8,y9,jZ,iS,iR,n3,kvs,ks,aX,rfl,ex,Dn,jI,hG,hK,oY⟩:=h;obtain⟨ch,lZ⟩:=xyz (j:=i) (by lia);refine(mh _ rfl _ rfl st n3 26 ⟨rfl,Dn,jI,by decide,by decide,λn4 i4 G4 x4 bP sH B6 h41=>?_⟩);obtain⟨m4,rfl⟩:=cc B6;refine(mz az _ (97+m4) ⟨rfl,rfl,EB,lv<|aum<|by lia,(oj _ rfl _ _ ch ⟨rfl,rfl,l3,(by rw[Int.zero_add];exact lv lZ),(l8 _ _ ⟨rfl,rfl,(by show 1+1<=aE;decide),?_⟩)⟩)⟩);generalize (⟨#[97+m4]⟩:Str)++(⟨#[ch]⟩:Str)=nm at *;refine⟨sZ3,λa3 h3=>?_⟩;generalize g1:upd G4 a3 _=G5 at *;obtain⟨s5,e5⟩:=al h3 g1;clear g1;have cF:a3≠st:=λe=>by rw[e,bP]at h3;cases h3
  refine(oj _ rfl st n4 3 ⟨rfl,s5 _ _ bP,sH,by decide,by decide,λn6 d6 G6 x6 yY zO Eb Ea=>?_⟩);obtain⟨v,hv,hvm⟩:=ay2 (α:=V) (xs:=[V.str "flip",V.str "turn",V.str "still"]) Eb Ea;obtain⟨md,kk,rfl,hmd⟩:∃md kk,v=.str md/\yK md kk:=by
   simp only[ax,df,or_false]at hvm;rcases hvm with rfl|rfl|rfl
   .exact(l8 _ 8 ⟨rfl,.inr<|.inr ⟨rfl,rfl⟩⟩)
   .exact(l8 _ 4 ⟨rfl,.inr<|.inl ⟨rfl,rfl⟩⟩)
   .exact(l8 _ 1 ⟨rfl,.inl ⟨rfl,rfl⟩⟩)
  refine(mf a3 _ _ (.str md) ⟨rfl,rfl,SqL.of<|x6.at cF e5,hv,?_⟩);have ex6:Ex [st] G G6:=(x4.trans<|Ex.of_same s5).trans x6;have lt6:=ex6.at iL<|ex.at iL bQ;refine(pf _ rfl _ rfl _ rfl st lt<|l8 n6 cs ⟨rfl,yY,zO,lt6,jX,mC,iL,λr G7 n7 es x7 AT hn7 zr gf wM=>?_⟩);have Hx:Ex [st] G G7:=ex6.trans x7;have tk7:Tk G G7:=Hx.one Dn;obtain⟨r',rxs,er,hr7,wM⟩:=wM;cases er;refine(oo _ rfl false ⟨rfl,oN ?_⟩);have hG7:=Hx.at nD hG;refine(np _ rfl (.inl ⟨rfl,_,SqL.of hG7⟩) _ ⟨rfl,(qi _ rfl _ rfl _ ⟨rfl,_,rfl,sZ5,λb hb=>?_⟩)⟩);generalize g1:upd G7 b _=G8 at *;obtain⟨s8,e8⟩:=al hb g1;clear g1;have hG8:=s8 _ _ hG7;have lk:=hK.k.1;have zQ:KindK G8 (.ref b) (es,kk):=(lw b nm _ _ md<|l8 r rxs ⟨rfl,e8,s8 _ _ hr7,wM.same s8,zr,hmd⟩);refine(mz D kvs (.ref b) ⟨rfl,rfl,hG8,mm<|by lia,?_⟩);have t8:=Tk.trans tk7<|Tk.of_same s8;have tl:Tk G8 (upd G8 D<|.lst<|kvs++[.ref b]):=Tk.lst hG8;refine(lw _ _ _ _ _<|lw _ n7 (kvs++[.ref b]) (ks++[(es,kk)]) (aX++[(0,none)]) ⟨rfl,((ex.trans Hx).trans (Ex.of_same s8)).new hD,by rw[ma (Ne.symm nD)];exact s8 _ _ AT,hn7,l9,⟨(hK.k.tk t8).snoc tl (zQ.tk tl),((hK.b.tk t8).snoc e8).tk tl,λk hk=>?_,λk hk=>?_⟩,by rw[be,oY];rfl⟩)
  .rcases ay.mp hk with h|h
   .exact hK.g k h
   .rw[ar.mp h];exact gf
  .rcases ay.mp hk with h|h
   .exact hK.z k h
   .exact ar.mp h
 .obtain⟨y7,y8,y9,jZ,iS,iR,n3,kvs,ks,aX,rfl,ex,Dn,jI,hG,hK,oY⟩:=h;exact⟨_,rfl,q D G n3 kvs ks aX ex Dn jI hD hG hK (by lia)<|by lia⟩
def at3:Sp:=λvs H Q _=>∃(st lt:aF)(n:Z V)(cs:Z Nat),vs=[.ref st,.ref lt]/\H st=some (.lst n)/\StL n/\H lt=some (.lst<|nB cs)/\cs.length=2/\(∀c∈cs,Ltr c)/\
 ∀(p:aF)(H':Hp)(n' eQ:Z V)(ads:Z U),Ex [st] H H'->H' st=some (.lst n')->StL n'->H' p=some (.tup eQ)->RepAll H' ads eQ->o9 ads=true->Q (.ref p) H'
def scPrs:mj ["_law_state","_law_letters_here","_law_signs","_law_some"] ZO (l0 Ih):={}
theorem ahv{H:Hp}:∀{cs:Z Nat},(∀c∈cs,Ltr c)->RepAll H (cs.map chD) (nB cs)
 | [],_=>rfl
 | c::cs,h=>(l8 _ _ ⟨rfl,⟨rfl,ok1<|by have:=(h c ao).2;lia⟩,ahv λx hx=>h x<|au _ hx⟩)
def at2(B:∀x∈sk,mg x=none)(bE:yp P w K mg base)(F:Fun K "_law_pairs" "_law_pairs" Ih f fd):qm P w K mg base CX0 2 f fd ZO at3:=by
 refine F.ok (k:=1) scPrs (λvs H Q E h=>?_) λbW A outer s H vs Q E hr h=>?_
 .obtain⟨_,_,_,_,rfl,_⟩:=h;rfl
 obtain⟨st,lt,n,cs,rfl,hst,hn,bQ,jX,mC,q⟩:=h;refine⟨_,(lg (psN 2 scPrs.nd<|pCB yn fK<|lj (pv 1) lc)
  (lg (psN 3 scPrs.nd<|ot<|lj (my<|lj (pix mx (pv 2) lh)<|lj (pix mx (pv 2) lh) lc)<|lj (my<|lj (pix mx (pv 2) lh)<|lj (pix mx (pv 2) lh) lc)<|lj (my<|lj (pix mx (pv 2) lh)<|lj (pix mx (pv 2) lh) lc) lc)
  (lq<|mr<|pCT m7 ku<|lj (pcm ["_law_pair","_law_state"] [none,some 0] (o7<|pv 3) (λ_=>(pgC 0)) (λ_=>Fe<|nv xt (pfn bE<|lj (pv 1)<|lj lh lc) lh<|oh _) λ_=>(pv 0)) lc))),?_⟩
 refine(oj _ rfl lt _ (cs.map chD) ⟨rfl,bQ,ahv mC,(λd hd=>?_),λl ys es hl pe _ re=>?_⟩)
 .obtain⟨c,_,rfl⟩:=aw.mp hd;exact⟨_,rfl⟩
 generalize g1:upd H l _=H1 at *;obtain⟨s1,e1⟩:=al hl g1;clear g1;have le:=pe.length_eq;have ly:=re.length;rw[ae]at le;have iQ:∀i:Nat,i<2->∃z:Nat,z<128/\ys[i]?=some (.str ⟨#[z]⟩):=λi hi=>by obtain⟨d,hd,rd⟩:=re.at<|ah (show i<ys.length by lia);obtain⟨c,hc,rfl⟩:=aw.mp<|pe.mem_iff.mp<|ak hd;refine⟨c,by have:=(mC c hc).2;lia,?_⟩;rw[ah (show i<ys.length by lia)];exact congrArg some rd.1
 obtain⟨a,ha,e0⟩:=iQ 0 (by decide);obtain⟨b,hb,e2⟩:=iQ 1 (by decide);clear iQ;refine(lr _ rfl l _ _ _ ⟨rfl,rfl,SqL.of e1,lv (j:=0) e0,(lr _ rfl l _ _ _ ⟨rfl,rfl,SqL.of e1,lv (j:=0) e0,sZ2,λa0 h0=>?_⟩)⟩);generalize g1:upd H1 a0 _=A0 at *;obtain⟨t0,u0⟩:=al h0 g1;clear g1;have FR:=t0 _ _ e1;refine(lr _ rfl l _ _ _ ⟨rfl,rfl,SqL.of FR,lv (j:=0) e0,(lr _ rfl l _ _ _ ⟨rfl,rfl,SqL.of FR,lv (j:=1) e2,sZ2,λa1 h1=>?_⟩)⟩);generalize g1:upd A0 a1 _=A1 at *;obtain⟨t1,u1⟩:=al h1 g1;clear g1;have le1:=t1 _ _ FR;refine(lr _ rfl l _ _ _ ⟨rfl,rfl,SqL.of le1,lv (j:=1) e2,(lr _ rfl l _ _ _ ⟨rfl,rfl,SqL.of le1,lv (j:=1) e2,sZ2,λa2 h2=>?_⟩)⟩);generalize g1:upd A1 a2 _=A2 at *;obtain⟨t2,u2⟩:=al h2 g1;clear g1;refine⟨sZ3,λpl iM=>?_⟩;generalize g1:upd A2 pl _=H2 at *;obtain⟨t3,u3⟩:=al iM g1;clear g1;have pr:∀{G:Hp} {c:aF} {x y:Nat},x<128->y<128->G c=some (.tup [.str ⟨#[x]⟩,.str ⟨#[y]⟩])->Rep G (.tuple [chD x,chD y]) (.ref c):=λhx hy h=>(mq _ _ rfl h _ _ rfl ⟨rfl,ok1 hx⟩ _ ⟨_,rfl,⟨rfl,ok1 hy⟩,rfl⟩);have rA:RepAll H2 [.tuple [chD a,chD a],.tuple [chD a,chD b],.tuple [chD b,chD b]] [.ref a0,.ref a1,.ref a2]:=
  (mq _ _ rfl (pr ha ha<|((t1.trans t2).trans t3) _ _ u0) _ _ rfl (pr ha hb<|(t2.trans t3) _ _ u1) _ ⟨_,rfl,pr hb hb<|t3 _ _ u2,rfl⟩)
 have qG:=(s1.trans t0).trans (t1.trans t2);have dL:=t3 _ _<|qG _ _ hst;have npl:pl≠st:=λe=>by rw[e,qG _ _ hst]at iM;cases iM
 refine(oo _ rfl pl ⟨rfl,⟨_,SqL.of u3⟩,λD hD=>?_⟩);have nD:D≠st:=λe=>by rw[e,dL]at hD;cases hD
 generalize hPS:[PyData.tuple [chD a,chD a],.tuple [chD a,chD b],.tuple [chD b,chD b]]=PS at *;have Dx:∀ds:Z U,(∀d∈ds,d∈PS)->o9 ds=true:=λds h=>qj λd hd=>by have:=h d hd;rw[<-hPS]at this;simp only[ax,df,or_false]at this;rcases this with rfl|rfl|rfl<;>rfl
 refine pw (xs:=[.ref a0,.ref a1,.ref a2]) (λi zs J=>Ex [st] H2 J/\(∃n:Z V,J st=some (.lst n)/\StL n)/\∃ds:Z U,RepAll J ds zs/\∀d∈ds,d∈PS) ⟨Ex.fresh hD,⟨n,by rw[ma (Ne.symm nD)];exact dL,hn⟩,[],rfl,λd hd=>by cases hd⟩ (λi zs J p=>SqL.of<|p.1.at npl u3) (λi x zs J hx hi bJ dP p=>?_) λzs J bJ dP p=>?_
 .obtain⟨p1,⟨n5,eZ,lU⟩,ds,rep,dJ⟩:=p;obtain⟨d,hd,rd⟩:=rA.at hx;have BL:=ak hd;refine⟨Agree.set (Agree.refl _) rfl,?_⟩;refine(oj _ rfl st n5 4 ⟨rfl,eZ,lU,by decide,by decide,λn6 i6 J6 x6 yY zO Eb Ea=>⟨rfl,_,rfl,?_⟩⟩);have imd:imm d=true:=by have:=Dx [d] (λe he=>by rw[ar.mp he];exact BL);simpa [o9]using this
  have AY:=rep.tk (x6.one eZ)<|Dx ds dJ;have D6:=x6.at nD bJ;refine sr (λ_=>?_) λ_=>?_
  .have BJ:∀e∈ds++[d],e∈PS:=λe he=>by
    rcases ay.mp he with h|h
    .exact dJ e h
    .rw[ar.mp h];exact BL
   refine⟨_,rfl,p9 (by have:i<3:=hi;lia) D6 dP ⟨(p1.trans x6).new hD,⟨n6,by rw[ma (Ne.symm nD)];exact yY,zO⟩,ds++[d],?_,BJ⟩⟩;exact(AY.snoc<|Rep.tk (Tk.trans (p1.one dL)<|x6.one eZ) imd rd).tk (Tk.lst D6) (Dx _ BJ)
  .exact⟨_,D6,Nat.le_succ_of_le dP,p1.trans x6,⟨n6,yY,zO⟩,ds,AY,dJ⟩
 .obtain⟨p1,⟨n5,eZ,lU⟩,ds,rep,dJ⟩:=p;refine(l8 D zs ⟨rfl,.inl ⟨SqL.of bJ,λt ht=>?_⟩⟩);generalize g1:upd J t _=J1 at *;obtain⟨s9,e9⟩:=al ht g1;exact q t J1 n5 zs ds ((Ex.of_same<|qG.trans t3).trans (p1.trans<|Ex.of_same s9)) (s9 _ _ eZ) lU e9 (rep.same s9)<|Dx ds dJ
def HS:Sp:=λvs H Q _=>∃(st kd:aF)(h wd:Nat)(n kvs:Z V) (ks:Z (Z U×Nat)) (aX:Z (Int×Option Int)),vs=[.ref st,.ref kd,.int (h:Nat),.int (wd:Nat)]/\H st=some (.lst n)/\StL n/\H kd=some (.lst kvs)/\kd≠st/\Kn H kvs ks aX/\0<ks.length/\ks.length<=3/\0<h/\h<=8/\0<wd/\wd<=8/\
 ∀(r:aF)(H':Hp)(n':Z V)(p:Pc),Ex [st] H H'->H' st=some (.lst n')->StL n'->Rep H' (pcD p) (.ref r)->PcO p->p.2<ks.length->Sd wd p->Q (.ref r) H'
def scLy:mj ["_law_state","_law_kinds_here","_law_high","_law_wide","_law_number","_law_forms_here","_law_form_here","_law_down","_law_right"] ZV (l0 sLy):={}
def aw1(B:∀x∈sk,mg x=none)(bE:yp P w K mg base)(uK:Fn P w K mg base "_law_forms" 3 ["_law_kind"] agh)(F:Fun K "_law_lie" "_law_lie" sLy f fd):qm P w K mg base CX0 4 f fd ZV HS:=by
 refine F.ok (k:=3) scLy (λvs H Q E h=>?_) λbW A outer s H vs Q E hr h=>?_
 .obtain⟨_,_,_,_,_,_,_,_,rfl,_⟩:=h;rfl
 obtain⟨st,kd,h,wd,n,kvs,ks,aX,rfl,hst,hn,sK,lK,hK,mL,xK,xO,xN,zI,Be,q⟩:=h;have hu:=hr.units;have lk:=hK.k.1;refine⟨_,(lg (psN 4 scLy.nd<|pfn bE<|lj (pv 0)<|lj (pCB m8 fy<|lj (pv 1) lc) lc)
  (lg (psN 5 scLy.nd<|pfn uK<|lj (pix mx (pv 1)<|pv 4) lc)
  (lg (psN 6 scLy.nd<|pix mx (pv 5)<|pfn bE<|lj (pv 0)<|lj (pCB m8 fy<|lj (pv 5) lc) lc)
  (lg (wz (i:=7) scLy.nd rfl (Or.inr rfl)<|pfn bE<|lj (pv 0)<|lj (pv 2) lc)
  (lg (wz (i:=8) scLy.nd rfl (Or.inr rfl)<|pfn bE<|lj (pv 0)<|lj (pv 3) lc)
  (lq<|mr<|my<|lj (pCT m7 ku<|lj (pcm ["_law_row","_law_column","_law_sign","_law_down","_law_right"] [none,none,none,some 7,some 8] (wl<|pv 6) (λ_=>(ph (n:=3) rfl<|ln (pgC 0)<|ln (pgC 1)<|ln (pgC 2) ni)) (λ_=>om) λ_=>(my<|lj (nj pj (pv 0)<|pv 3)<|lj (nj pj (pv 1)<|pv 4)<|lj (pv 2) lc)) lc)<|lj (pv 4) lc)))))),?_⟩
 refine(og _ rfl _ rfl kd _ rfl (.inl<|SqL.of sK) st<|l8 n _ ⟨rfl,hst,hn,by lia,by lia,λn1 i1 H1 x1 gO iN yD Ef=>?_⟩);obtain⟨m,rfl⟩:=cc yD;have hm:m<kvs.length:=by lia
 have Du:=x1.at lK sK;have DZ:=hK.tk<|x1.one hst;have hvk:=ah hm;have zQ:=ah (show m<ks.length by lia);have hz:=(hK.k.z _<|ak zQ).1;have hg:=hK.g _<|ak zQ;have hKK:=DZ.k.2 m _ _ hvk zQ;generalize ks[m]=k at *;generalize kvs[m]=v at *;refine(mh _ rfl _ rfl kd _ _<|r9 v rfl rfl (SqL.of Du) (lv hvk) v k ⟨rfl,hKK,λfA fys H2 s2 BG hfA oR=>?_⟩);have fpos:0<(FS k.1 k.2).length:=avk (by
  obtain⟨b,nm,u1,u2,m,fr,xs,_,_,_,_,_,hm⟩:=hKK;rcases hm with h|h|h<;>lia)
 have f8:(FS k.1 k.2).length<=8:=ig Jf (hK.k.z _<|ak zQ).2;have lf:=oR.length;have dL:=s2 _ _ gO;have nfA:fA≠st:=λe=>by rw[e,gO]at BG;cases BG
 refine(pf _ rfl _ rfl _ rfl fA _ ⟨rfl,.inl<|SqL.of hfA,(mz st n1 _ ⟨rfl,dL,iN,by lia,by lia,λn3 i3 H3 x3 dI jI vL Ed=>?_⟩)⟩);obtain⟨t,rfl⟩:=cc vL;have ht:t<fys.length:=by lia
 obtain⟨dt,hdt,rdt⟩:=oR.at<|ah ht;have BL:=ak hdt;obtain⟨es,rfl,kF⟩:=Cw (n:=k.2) hz dt BL;have mN:=axl hz hg BL;have rd3:=Rep.tk (x3.one dL) (show imm (.tuple es)=true from Spots.imm kF.pre.spots) rdt;obtain⟨fb,gE,efb,BF,cI⟩:=rd3;refine(mf fA fys _ (.ref fb) ⟨rfl,rfl,SqL.of<|x3.at nfA hfA,lv<|by rw[ah ht,efb],?_⟩);refine(mh _ rfl _ rfl st n3 _ ⟨rfl,dI,jI,by lia,by lia,λn4 i4 H4 x4 bP sH B6 h41=>?_⟩);obtain⟨dn,rfl⟩:=cc B6;refine(mh _ rfl _ rfl st n4 _ ⟨rfl,bP,sH,by lia,by lia,λn5 i5 H5 x5 eZ lU Ec h51=>?_⟩);obtain⟨rt,rfl⟩:=cc Ec;have t35:Tk H3 H5:=Tk.trans (x4.one dI)<|x5.one bP;have fb5:=t35 _ _ BF;have mS:=cI.tk t35<|Spots.imm kF.pre.spots;have le:=cI.length;have h6:=kF.pre.six;refine(oo _ rfl fb ⟨rfl,⟨_,SqT.of fb5⟩,λD hD=>?_⟩);refine tf (xs:=gE) (λi zs G=>Same H5 G/\RepAll G ((es.take i).map (sh1 (dn:Nat) (rt:Nat))) zs) ⟨Same.fresh _ hD,rfl⟩ (λi zs G p=>SqT.of<|p.1 _ _ fb5) (λi x zs G hx hi bJ dP pp=>?_) λzs G bJ dP pp=>?_
 .obtain⟨p1,p2⟩:=pp;obtain⟨d,hd,rd⟩:=mS.at hx;obtain⟨r0,c0,k0,rfl,iU⟩:=Am kF d<|ak hd;obtain⟨b',rfl,dS,hok⟩:=u6<|Rep.same p1 rd;refine(me b' _ rfl (SqT.of dS) rfl _ _ rfl _<|nu _ rfl _ _ ⟨rfl,rfl,?_⟩);refine⟨Agree.set (Agree.set (Agree.set (Agree.refl _) rfl) rfl) rfl,?_⟩;dsimp only[jY];refine xy ?_;refine(og _ rfl _ rfl _ _ rfl rfl _ ⟨rfl,(ng _ rfl _ _ rfl rfl _ ⟨rfl,sZ3,λt ht=>?_⟩)⟩);generalize g1:upd G t _=G2 at *;obtain⟨s2,c2⟩:=al ht g1;clear g1;have eG:=s2 _ _ bJ;refine p9 (by lia) eG dP ⟨(p1.trans s2).new hD,?_⟩;have im:=Spots.imm<|SgN.spots<|SgN.shs (dn:=dn) (rt:=rt) (ds:=es.take<|i+1) λd hd=>Am kF d<|cn hd;rw[mn (sh1 (dn:Nat) (rt:Nat)) hd]at im⊢;exact((p2.same s2).snoc (show Rep G2 (sh1 (dn:Nat) (rt:Nat)<|.tuple [.int (r0:Nat),.int (c0:Nat),.str ⟨#[k0]⟩]) (.ref t)from (mq t _ rfl c2 _ _ rfl rfl _<|np _ rfl rfl _ ⟨_,rfl,⟨rfl,hok⟩,rfl⟩))).tk (Tk.lst eG) im
 obtain⟨p1,p2⟩:=pp;obtain⟨ss,tK,nY⟩:=IV<|SgN.shs (dn:=dn) (rt:=rt)<|Am kF;rw[bi (by lia),tK]at p2;have FP:=congrArg List.length tK;rw[ae,ae]at FP;refine(l8 D zs ⟨rfl,.inl ⟨SqL.of bJ,λt1 tJ=>?_⟩⟩);generalize g1:upd G t1 _=G2 at *;obtain⟨s6,c6⟩:=al tJ g1;clear g1;refine⟨_,rfl,sZ2,λt2 mU=>?_⟩;generalize g1:upd G2 t2 _=G3 at *;obtain⟨s7,c7⟩:=al mU g1;clear g1;have sG:=(p1.trans s6).trans s7;refine q t2 G3 n5 (ss,m) ((((x1.trans<|Ex.of_same s2).trans x3).trans (x4.trans x5)).trans (Ex.of_same sG)) (sG _ _ eZ) lU (mq t2 _ rfl c7 _ _ rfl (l8 t1 zs ⟨rfl,s7 _ _ c6,(p2.same s6).same s7⟩) _ ⟨_,rfl,rfl,rfl⟩) ⟨nY,by show 0<ss.length;rw[<-FP];exact kF.pre.pos,by show ss.length<=6;rw[<-FP];exact h6⟩ (by show m<ks.length;lia)<|axp kF mN (by lia) tK
def ayy(ws:Z Nat)(k:Nat):(⟨ws.toArray⟩:Str)++(⟨#[k]⟩:Str)=⟨(ws++[k]).toArray⟩:=by
 show(⟨ws.toArray ++ #[k]⟩:Str)=_
 congr 1
 simp
def RwS(wd:Nat)(z:Str):Prop:=(Tx z/\∀c∈z.cps.toList,sgB c=true)/\z.length=wd
def at5{ws:Z Nat}(h:∀c∈ws,sgB c=true)(h8:ws.length<=8):RwS ws.length ⟨ws.toArray⟩:=by
 refine⟨⟨⟨by show ws.toArray.size<=80;rw[a7];lia,λc hc=>?_⟩,λc hc=>?_⟩,by show ws.toArray.size=_;rw[a7]⟩
 .exact Ct<|h c<|by simpa using hc
 .exact h c<|by simpa using hc
def wE{k:Nat}(h:Ltr k):sgB k=true/\sgB (lo1 k)=true:=by
 have:∀k<91,65<=k->sgB k=true/\sgB (lo1 k)=true:=by decide +kernel
 exact this k (by have:=h.2;lia) h.1
def TkD(kvs:Z (Z Key×V)):Prop:=∀r c v,wt kvs (zf r c)=some v->∃k:Nat,v=.str ⟨#[k]⟩/\Ltr k
structure Hf(H G:Hp)(st tk ly:aF)(n:Z V)(kvs:Z (Z Key×V))(xs:Z V)(L:Z Pc)(nk wd:Nat):Prop where
 ex:Ex [st] H G
 hst:G st=some (.lst n)
 sl:StL n
 htk:G tk=some (.dT kvs)
 hly:G ly=some (.lst xs)
 rep:RepAll G (L.map pcD) xs
 T:TkD kvs
 O:LyO nk L
 S:∀p∈L,Sd wd p
def Hf.go{H G G':Hp}{st tk ly:aF}{n n' xs:Z V}{kvs:Z (Z Key×V)}{L:Z Pc}{nk wd:Nat}(h:Hf H G st tk ly n kvs xs L nk wd)(x:Ex [st] G G')(hs:G' st=some (.lst n'))(sl:StL n')(n1:tk≠st)(n2:ly≠st):Hf H G' st tk ly n' kvs xs L nk wd:=⟨h.ex.trans x,hs,sl,x.at n1 h.htk,x.at n2 h.hly,h.rep.tk (x.one h.hst)<|PlD.imm h.O.pl,h.T,h.O,h.S⟩
theorem Hf.same{H G G':Hp}{st tk ly:aF}{n xs:Z V}{kvs:Z (Z Key×V)}{L:Z Pc}{nk wd:Nat}(h:Hf H G st tk ly n kvs xs L nk wd)(s:Same G G'):Hf H G' st tk ly n kvs xs L nk wd:=⟨h.ex.trans<|Ex.of_same s,s _ _ h.hst,h.sl,s _ _ h.htk,s _ _ h.hly,h.rep.same s,h.T,h.O,h.S⟩
theorem Hf.upd{H G:Hp}{st tk ly a:aF}{n xs ys zs:Z V}{kvs:Z (Z Key×V)}{L:Z Pc}{nk wd:Nat}(h:Hf H G st tk ly n kvs xs L nk wd)(ha:G a=some (.lst ys))(hH:H a=none)(m1:a≠st)(m2:a≠tk)(m3:a≠ly):Hf H (upd G a<|.lst zs) st tk ly n kvs xs L nk wd:=⟨h.ex.new hH,by rw[ma (Ne.symm m1)];exact h.hst,h.sl,by rw[ma (Ne.symm m2)];exact h.htk,by rw[ma (Ne.symm m3)];exact h.hly,h.rep.tk (Tk.lst ha)<|PlD.imm h.O.pl,h.T,h.O,h.S⟩
def ai9{P:Nat->Prop}{ls:Z Nat}{i:Nat}(h:∀c∈ls,P c)(hi:i<ls.length):∃c,(nB ls)[i]?=some (.str ⟨#[c]⟩)/\P c:=⟨ls[i],by unfold nB;rw[bz,ah hi];rfl,h _<|ix hi⟩
def aoj:Sp:=λvs H Q _=>∃(st kd lt:aF)(h wd:Nat)(n kvs:Z V) (ks:Z (Z U×Nat)) (aX:Z (Int×Option Int)) (cs:Z Nat),vs=[.ref st,.ref kd,.ref lt,.int (h:Nat),.int (wd:Nat)]/\H st=some (.lst n)/\StL n/\H kd=some (.lst kvs)/\kd≠st/\Kn H kvs ks aX/\0<ks.length/\ks.length<=3/\H lt=some (.lst<|nB cs)/\cs.length=2/\(∀c∈cs,Ltr c)/\lt≠st/\0<h/\h<=8/\0<wd/\wd<=8/\
 ∀(r fl ly:aF)(H':Hp)(n':Z V)(M:Mat)(L:Z Pc),Ex [st] H H'->H' st=some (.lst n')->StL n'->H' r=some (.tup [.ref fl,.ref ly])->FlM H' fl M->M.h=h->M.w=wd->LyH H' ly L->H ly=none->LyO ks.length L->L.length<=6->(∀p∈L,Sd wd p)->Q (.ref r) H'
def scHalf:mj ["_law_state","_law_kinds_here","_law_letters_here","_law_high","_law_wide","_law_signs","_law_laid","_law_k","_law_placement","_law_inside","_law_row","_law_column","_law_sign","_law_rows","_law_lets","_law_line","_law_menu"] ZN (l0 IE):={}
theorem arp(B:∀x∈sk,mg x=none)(bE:yp P w K mg base)(KE:Fn P w K mg base "_law_lie" 4 ZV HS)(F:Fun K "_law_half" "_law_half" IE f fd):qm P w K mg base CX0 5 f fd ZN aoj:=by
 refine F.ok (k:=4) scHalf (λvs H Q E h=>?_) λbW A outer s H vs Q E hr h=>?_
 .obtain⟨_,_,_,_,_,_,_,_,_,_,rfl,_⟩:=h;rfl
 obtain⟨st,kd,lt,h,wd,n,kv,ks,aX,cs,rfl,hst,hn,sK,lK,hK,mL,xK,bQ,jX,mC,iL,xO,xN,zI,Be,q⟩:=h;have hu:=hr.units;obtain⟨a,b,rfl⟩:∃a b,cs=[a,b]:=by
  match cs,jX with
  | [a,b],_=>exact(l8 a b rfl)
 have la:=mC a (by simp);have lb:=mC b (by simp);clear mC jX;refine⟨_,(lg (wz (i:=5) scHalf.nd rfl (Or.inr rfl) ahn)
  (lg (psN 6 scHalf.nd<|ot lc)
  (lg (pfo (pR1<|lj (pfn bE<|lj (pv 0)<|lj lh lc) lc) (pgN 7 scHalf.nd) (lg (psN 8 scHalf.nd<|pfn KE<|lj (pv 0)<|lj (pv 1)<|lj (pv 3)<|lj (pv 4) lc)
  (lg (psC 9 ["_law_spot","_law_high","_law_wide","_law_signs"] [none,some 3,some 4,some 5] scHalf.nd (wl<|pix nh (pv 8) lh) (λ_=>(pgC 0)) (λ_=>Fe<|PW.pt<|wn (nv Cp (pix xk (pv 0) lh) (pv 1)<|oh _)<|wn (nv Cp (pix xk (pv 0) lh) (pv 2)<|oh _)<|um<|ao8<|alc (ir (iz (by decide) _) hu) (wq akx (pv 0) E9<|xx lh)<|pv 3) λ_=>(pv 0))
  (lq (rg (nv xt (pCB m8 fy<|lj (pv 9) lc) (pCB m8 fy<|lj (pix nh (pv 8) lh) lc)<|oh _) (lg (qr<|vn cj gc gd pq (pv 6)<|lj (pv 8) lc)
  (lq<|pfo (o7<|pv 9) (si (n:=3) rfl<|ln (pgN 10 scHalf.nd)<|ln (pgN 11 scHalf.nd)<|ln (pgN 12 scHalf.nd) ni)<|lq<|ajd (ir (iz (by decide) _) hu) (pv 5) (my<|lj (pv 10)<|lj (pv 11) lc) (pv 12) rfl)) o0)))))
  (lg (psN 13 scHalf.nd<|ot lc)
  (lg (psN 14 scHalf.nd<|sw xt (pfn bE<|lj (pv 0)<|lj lh lc) lh<|oh _)
  (lg (pfo (pR1<|lj (pv 3) lc) (pgN 10 scHalf.nd) (lg (psN 15 scHalf.nd m9)
  (lg (pfo (pR1<|lj (pv 4) lc) (pgN 11 scHalf.nd) (lg (psN 16 scHalf.nd<|ot<|lj m9<|lj m9<|lj m9<|lj (pix mx (pv 2) lh)<|lj (pix mx (pv 2) lh)<|lj (AD jp ky kz wo<|pix mx (pv 2) lh)<|lj (AD jp ky kz wo<|pix mx (pv 2) lh)<|lj m9<|lj m9<|lj m9 lc)
  (lg (psN 12 scHalf.nd<|am5 (ir (iz (by decide) _) hu) (pv 5) (my<|lj (pv 10)<|lj (pv 11) lc) m9 ⟨rfl,rfl,rfl,rfl⟩)
  (lg (rg (PW.pt<|wn (yo<|pv 14)<|um<|nv EF (pv 12) m9<|oh _) (lq<|psN 16 scHalf.nd<|ot<|lj m9<|lj m9<|lj (pv 12)<|lj (AD jp ky kz wo<|pv 12)<|lj m9 lc)<|lq<|rg (yo<|pv 14) (lq<|psN 16 scHalf.nd<|ot<|lj m9<|lj m9<|lj m9<|lj (AD jp ky kz wo<|pix mx (pv 2) lh)<|lj (AD jp ky kz wo<|pix mx (pv 2) lh) lc) o0)
  (lq<|psN 15 scHalf.nd<|nj ux (pv 15)<|pix mx (pv 16)<|pfn bE<|lj (pv 0)<|lj (pCB m8 fy<|lj (pv 16) lc) lc)))))
  (lq<|qr<|vn cj gc gd pq (pv 13)<|lj (pv 15) lc))))
  (lq<|mr<|my<|lj (pCT m7 ku<|lj (pv 13) lc)<|lj (pv 6) lc))))))),?_⟩
 intro tk htk;generalize g1:upd H tk _=H1 at *;obtain⟨s1,d1⟩:=al htk g1;clear g1;refine⟨sZ0,λly hly=>?_⟩;generalize g1:upd H1 ly _=H2 at *;obtain⟨s2,d2⟩:=al hly g1;clear g1;have tP:=s1.free hly;have n1:tk≠st:=λe=>by rw[e,hst]at htk;cases htk
 have n2:ly≠st:=λe=>by rw[e,hst]at tP;cases tP
 have n3:ly≠tk:=λe=>by rw[e,d1]at hly;cases hly
 have qG:=s1.trans s2;refine(oj _ rfl st n 7 ⟨rfl,qG _ _ hst,hn,by decide,by decide,λn3' i3 H3 x3 dI jI vL Ed=>⟨i3,rfl,by lia,by lia,?_⟩⟩);obtain⟨m3,rfl⟩:=cc vL;rw[ci];refine qq (lo:=0) (λi σ' G=>∃(y7 y8 y9 jZ iS iR:Option V)(n:Z V) (kvs:Z (Z Key×V)) (xs:Z V) (L:Z Pc),σ'=[some (.ref st),some<|.ref kd,some<|.ref lt,some<|.int (h:Nat),some<|.int (wd:Nat),some<|.ref tk,some<|.ref ly,y7,y8,y9,jZ,iS,iR,none,none,none,none]/\Hf H G st tk ly n kvs xs L ks.length wd/\L.length<=i/\kvs.length<=i*6) ?_ (λi σ' G hi hI=>?_) λσ' G hI=>?_
 .exact(lw _ _ _ _ _<|lw _ n3' ([]) ([]) ([]) ⟨rfl,⟨(Ex.of_same qG).trans x3,dI,jI,x3.at n1<|s2 _ _ d1,x3.at n2 d2,rfl,(λr c v e=>by cases e),(λp hp=>by cases hp),λp hp=>by cases hp⟩,am _,am _⟩)
 .obtain⟨y7,y8,y9,jZ,iS,iR,n4,kvs,xs,L,rfl,I,hLl,oY⟩:=hI;have lx:=I.rep.length;rw[ae]at lx;refine(qi _ rfl _ rfl _ ⟨rfl,(lr _ rfl st kd h wd<|mf n4 kv ks aX ⟨rfl,I.hst,I.sl,I.ex.at lK sK,lK,hK.tk<|I.ex.one hst,mL,xK,xO,xN,zI,Be,λr G1 n5 p x1 gO iN rp BY xX xW=>?_⟩)⟩);have I1:=I.go x1 gO iN n1 n2;clear I;obtain⟨r',eb,gE,er,hr1,jV,cI⟩:=AC rp;cases er;have le:=cI.length;rw[ae]at le;have h6:=BY.2.2;refine(lr _ rfl r _ _ _ ⟨rfl,rfl,SqT.of hr1,lv (j:=0) rfl,eb,rfl,⟨_,SqT.of jV⟩,λD2 eG=>?_⟩);refine tf (xs:=gE) (λk zs J=>Same G1 J/\∃ss:Z Sg,RepAll J (ss.map sgD) zs/\∀s∈ss,Ltr s.2.2) ⟨Same.fresh _ eG,[],rfl,λs hs=>by cases hs⟩ (λk zs J p=>SqT.of<|p.1 _ _ jV) (λk x zs J hx hk tY dP pp=>?_) λzs J tY dP pp=>?_
  .obtain⟨p1,ss,rs,tK⟩:=pp;obtain⟨s,b',hs,rfl,hb⟩:=yL cI hx;have hL:=BY.1 s<|ak hs;have DT:=p1 _ _ hb;have tk8:=p1 _ _ I1.htk;refine⟨Agree.set (Agree.refl _) rfl,?_⟩;have no:∀J',Same J J'->Nx D2 k (λk zs J=>Same G1 J/\∃ss:Z Sg,RepAll J (ss.map sgD) zs/\∀s∈ss,Ltr s.2.2) J':=λJ' s9=>⟨zs,s9 _ _ tY,by lia,p1.trans s9,ss,rs.same s9,tK⟩;refine(lr _ rfl b' _ _ _ ⟨rfl,rfl,SqT.of DT,lv (j:=0) rfl,(ng _ rfl _ _ rfl rfl _ ⟨rfl,?_⟩)⟩);refine sr (λ_=>?_) λ_=>oN<|no _<|Same.refl _;refine(lr _ rfl b' _ _ _ ⟨rfl,rfl,SqT.of DT,lv (j:=1) rfl,(ng _ rfl _ _ rfl rfl _ ⟨rfl,?_⟩)⟩);refine sr (λ_=>?_) λ_=>oN<|no _<|Same.refl _;refine⟨_,rfl,EQ<|nu _ rfl b' _ ⟨rfl,DT,λt9 G9 s9 c9=>?_⟩⟩;have c9:G9 t9=some (.tup<|(zf s.1 s.2.1).map kV):=c9;refine(ng _ rfl tk _ rfl (DGet.t (s9 _ _ tk8) c9) _ ⟨rfl,?_⟩);refine sr (λ_=>?_) λ_=>no _ s9;refine⟨_,rfl,?_⟩;have D9:=s9 _ _ tY;have Bk:∀s'∈ss++[s],Ltr s'.2.2:=λs' h'=>by
    rcases ay.mp h' with h|h
    .exact tK s' h
    .rw[ar.mp h];exact hL
   refine p9 (by lia) D9 dP ⟨(p1.trans s9).new eG,ss++[s],?_,Bk⟩;have im:=Spots.imm<|SgN.spots<|AF Bk;rw[bu]at im⊢;exact((rs.same s9).snoc (show Rep G9 (sgD s) (.ref b')from v0 (s9 _ _ DT) (ok1<|by have:=hL.2;lia))).tk (Tk.lst D9) im
  obtain⟨p1,ss,rs,tK⟩:=pp;have I2:=I1.same p1;have zM:=p1 _ _ hr1;have ls:=rs.length;rw[ae]at ls;refine(ng _ rfl D2 _ rfl (.inl<|SqL.of tY) _ ⟨rfl,(mf r _ _ _ ⟨rfl,rfl,SqT.of zM,lv (j:=0) rfl,(l8 eb _ ⟨rfl,.inr<|SqT.of<|p1 _ _ jV,rfl,_,rfl,?_⟩)⟩)⟩);refine sr (λ_=>?_) λ_=>?_
  .refine(ql _ rfl (.inl ⟨rfl,_,SqL.of I2.hly⟩) _ rfl ly xs (.ref r) ⟨rfl,rfl,I2.hly,mm<|by lia,?_⟩);have tl:Tk J (upd J ly<|.lst<|xs++[.ref r]):=Tk.lst I2.hly;have hO':LyO ks.length (L++[p]):=λp' mK=>by
    rcases ay.mp mK with h|h
    .exact I2.O p' h
    .rw[ar.mp h];exact⟨BY,xX⟩
   have nD:D2≠ly:=λe=>by rw[e,I1.hly]at eG;cases eG
   have nD':D2≠tk:=λe=>by rw[e,I1.htk]at eG;cases eG
   have I3:Hf H (upd J ly<|.lst<|xs++[.ref r]) st tk ly n5 kvs (xs++[.ref r]) (L++[p]) ks.length wd:=⟨I2.ex.new tP,by rw[ma (Ne.symm n2)];exact I2.hst,I2.sl,by rw[ma (Ne.symm n3)];exact I2.htk,l9,by
    have im:=PlD.imm hO'.pl;rw[bu]at im⊢;exact(I2.rep.snoc<|Rep.same p1 rp).tk tl im,I2.T,hO',λp' mK=>by
    rcases ay.mp mK with h|h
    .exact I2.S p' h
    .rw[ar.mp h];exact xW⟩
   have lC:upd J ly (.lst<|xs++[.ref r]) D2=some (.lst zs):=by rw[ma nD];exact tY
   have imS:=Spots.imm<|SgN.spots<|AF tK;have rs3:=rs.tk tl imS;generalize upd J ly (.lst<|xs++[.ref r])=J3 at *;refine(oo _ rfl D2 ⟨rfl,⟨_,SqL.of lC⟩,?_⟩);refine rn (xs:=zs) (λk σ' G9=>∃(jZ iS iR:Option V) (fO:Z (Z Key×V)),σ'=[some (.ref st),some<|.ref kd,some<|.ref lt,some<|.int (h:Nat),some<|.int (wd:Nat),some<|.ref tk,some<|.ref ly,some<|.int<|0+(i:Nat),some<|.ref r,some<|.ref D2,jZ,iS,iR,none,none,none,none]/\Hf H G9 st tk ly n5 fO (xs++[.ref r]) (L++[p]) ks.length wd/\G9 D2=some (.lst zs)/\RepAll G9 (ss.map sgD) zs/\fO.length<=kvs.length+k) ?_ (λk σ' G9 hk hI=>?_) (λk v σ' G9 hv hI=>?_) λσ' G9 hI=>?_
   .exact(mf _ _ _ kvs ⟨rfl,I3,lC,rs3,am _⟩)
   .obtain⟨_,_,_,_,_,_,h9,_⟩:=hI;exact SqL.of h9
   .obtain⟨jZ,iS,iR,fO,rfl,I9,hD9,Fw,GQ⟩:=hI;have hkz:k<zs.length:=(aj.mp hv).1;obtain⟨s,b',hs,rfl,hb⟩:=yL Fw hv;have hL:=tK s<|ak hs;refine(me b' _ rfl (SqT.of hb) rfl _ _ rfl _<|nu _ rfl _ _ ⟨rfl,rfl,?_⟩);refine(qi _ rfl _ rfl _ ⟨rfl,_,rfl,sZ2,λt9 F7=>?_⟩);generalize g1:upd G9 t9 _=AJ at *;obtain⟨s9,c9⟩:=al F7 g1;clear g1;have c9:AJ t9=some (.tup<|(zf s.1 s.2.1).map kV):=c9;have IA:=I9.same s9;have AS:Tk AJ (upd AJ tk<|.dT<|mF fO (zf s.1 s.2.1)<|.str ⟨#[s.2.2]⟩):=ats IA.htk;refine(l8 tk _ ⟨rfl,DPut.t (k:=zf s.1 s.2.1) IA.htk c9<|mm<|by lia,?_⟩);refine(mf _ _ _ _ ⟨rfl,⟨IA.ex.new htk,by rw[ma (Ne.symm n1)];exact IA.hst,IA.sl,l9,by rw[ma n3];exact IA.hly,IA.rep.tk AS<|PlD.imm IA.O.pl,λr1 c2 v1 e1=>?_,IA.O,IA.S⟩,by rw[ma nD'];exact s9 _ _ hD9,(Fw.same s9).tk AS imS,?_⟩)
    .rw[agp]at e1;split at e1
     .cases e1;exact⟨_,rfl,hL⟩
     .exact IA.T r1 c2 v1 e1
    .have:=sy fO (zf s.1 s.2.1)<|V.str ⟨#[s.2.2]⟩;lia
   .obtain⟨jZ,iS,iR,fO,rfl,I9,hD9,Fw,GQ⟩:=hI;exact(lw _ _ _ _ _<|lw _ n5 fO _ _ ⟨rfl,I9,by simp;lia,by lia⟩)
  .exact(lw _ _ _ _ _<|lw _ n5 kvs xs L ⟨rfl,I2,by lia,by lia⟩)
 obtain⟨y7,y8,y9,jZ,iS,iR,n4,kvs,xs,L,rfl,I,hLl,oY⟩:=hI;clear hst d1 d2 dI x3 jI;refine⟨sZ0,λgP qQ=>?_⟩;generalize g1:upd G gP _=G1 at *;obtain⟨s5,d5⟩:=al qQ g1;clear g1;have I1:=I.same s5;have m1:gP≠st:=λe=>by rw[e,I.hst]at qQ;cases qQ
 have m2:gP≠tk:=λe=>by rw[e,I.htk]at qQ;cases qQ
 have m3':gP≠ly:=λe=>by rw[e,I.hly]at qQ;cases qQ
 have m4:gP≠lt:=λe=>by rw[e,I.ex.at iL bQ]at qQ;cases qQ
 have Gi:H gP=none:=xm I.ex m1 qQ;refine(oj _ rfl st n4 2 ⟨rfl,I1.hst,I1.sl,by decide,by decide,λn5 i5 G5 x5 eZ lU Ec h51=>⟨rfl,?_⟩⟩);have I5:=I1.go x5 eZ lU n1 n2;have d5:=x5.at m1 d5;clear I I1 x5 eZ lU s5 qQ;generalize hbv:decide (V.int i5=V.int 0)=bv at *;clear hbv;refine(oo _ rfl _ ⟨rfl,by lia,by lia,?_⟩);rw[ci];refine qq (lo:=0) (λi σ' J=>∃(jZ iS iR Fj qB:Option V)(n:Z V)(zs:Z Str),σ'=[some (.ref st),some<|.ref kd,some<|.ref lt,some<|.int (h:Nat),some<|.int (wd:Nat),some<|.ref tk,some<|.ref ly,y7,y8,y9,jZ,iS,iR,some<|.ref gP,some<|.bl bv,Fj,qB]/\Hf H J st tk ly n kvs xs L ks.length wd/\J gP=some (.lst<|zs.map V.str)/\zs.length=i/\∀z∈zs,RwS wd z) ?_ (λi σ' J hi hI=>?_) λσ' J hI=>?_
 .exact(lw _ _ _ _ _<|l8 n5 ([]) ⟨rfl,I5,d5,rfl,λz hz=>by cases hz⟩)
 .obtain⟨jZ,iS,iR,Fj,qB,n6,zs,rfl,I6,d6,dP,Dz⟩:=hI;clear I5 d5;refine(oo _ rfl _ ⟨rfl,by lia,by lia,?_⟩);rw[ci];refine qq (lo:=0) (λc σ' J=>∃(iS iR qB:Option V)(n:Z V)(ws:Z Nat),σ'=[some (.ref st),some<|.ref kd,some<|.ref lt,some<|.int (h:Nat),some<|.int (wd:Nat),some<|.ref tk,some<|.ref ly,y7,y8,y9,some<|.int<|0+(i:Nat),iS,iR,some<|.ref gP,some<|.bl bv,some<|.str ⟨ws.toArray⟩,qB]/\Hf H J st tk ly n kvs xs L ks.length wd/\J gP=some (.lst<|zs.map V.str)/\ws.length=c/\∀c∈ws,sgB c=true) ?_ (λc σ' J hc hI=>?_) λσ' J hI=>?_
  .exact(lw _ _ _ n6 ([]) ⟨rfl,I6,d6,rfl,λc hc=>by cases hc⟩)
  .obtain⟨iS,iR,qB,n7,ws,rfl,I7,d7,wU,FZ⟩:=hI;clear I6 d6;have zE:=I7.ex.at iL bQ;have Ej:bh "." = ⟨#[46]⟩:=by decide +kernel
   have HE:bh "," = ⟨#[44]⟩:=by decide +kernel
   have Ab:bh "#" = ⟨#[35]⟩:=by decide +kernel
   have CU:a<128:=by have:=la.2;lia
   have Cf:b<128:=by have:=lb.2;lia
   refine(lr _ rfl lt _ _ (.str ⟨#[a]⟩) ⟨rfl,rfl,SqL.of zE,lv (j:=0) rfl,(lr _ rfl lt _ _ (.str ⟨#[b]⟩) ⟨rfl,rfl,SqL.of zE,lv (j:=1) rfl,(lr _ rfl lt _ _ (.str ⟨#[a]⟩) ⟨rfl,rfl,SqL.of zE,lv (j:=0) rfl,rfl,a,rfl,rfl,CU,(lr _ rfl lt _ _ (.str ⟨#[b]⟩) ⟨rfl,rfl,SqL.of zE,lv (j:=1) rfl,rfl,b,rfl,rfl,Cf,(by show 10<=aE;decide),λmA DO=>?_⟩)⟩)⟩)⟩);generalize g1:upd J mA _=J1 at *;obtain⟨t1,u1⟩:=al DO g1;clear g1;rw[Ej,HE,Ab]at u1;have I8:=I7.same t1;refine(oo _ rfl tk ⟨rfl,.inr ⟨_,.inl I8.htk⟩,(oo _ rfl _ ⟨rfl,sZ2,λp4 DL=>?_⟩)⟩);generalize g1:upd J1 p4 _=J2 at *;obtain⟨t2,c4⟩:=al DL g1;clear g1;have c4:J2 p4=some (.tup<|(zf i c).map kV):=by rw[c4,Int.zero_add,Int.zero_add];rfl
   have I9:=I8.same t2;obtain⟨sg,wY,esg⟩:∃sg:Str,(sg=bh ""\/∃k,Ltr k/\sg=⟨#[k]⟩)/\(wt kvs<|zf i c).getD (V.str<|bh "")=.str sg:=by
    cases hv:wt kvs (zf i c)with
    | none=>exact⟨_,.inl rfl,rfl⟩
    | some v=>
     obtain⟨k,rfl,hk⟩:=I9.T _ _ _ hv;exact⟨_,.inr ⟨k,hk,rfl⟩,rfl⟩
   refine⟨_,DGet.t I9.htk c4,?_⟩;rw[esg];have uA:=t2 _ _ u1;have d9:=(t1.trans t2) _ _ d7;have lt9:=(t1.trans t2) _ _ zE;have nA:mA≠st:=λe=>by rw[e,I7.hst]at DO;cases DO
   clear I7 I8 u1 d7 zE DO DL c4 esg;dsimp only[rq];refine Kb (λσ' G'=>∃(m2:aF)(ls:Z Nat),σ'=[some (.ref st),some<|.ref kd,some<|.ref lt,some<|.int (h:Nat),some<|.int (wd:Nat),some<|.ref tk,some<|.ref ly,y7,y8,y9,some<|.int<|0+(i:Nat),some<|.int<|0+(c:Nat),some<|.str sg,some<|.ref gP,some<|.bl bv,some<|.str ⟨ws.toArray⟩,some<|.ref m2]/\Same J2 G'/\G' m2=some (.lst<|nB ls)/\m2≠st/\0<ls.length/\ls.length<=10/\∀c∈ls,sgB c=true) ?_ λDh kH tF=>?_
   case' refine_2=>
    have keep:Dh.nx [some (.ref st),some<|.ref kd,some<|.ref lt,some<|.int (h:Nat),some<|.int (wd:Nat),some<|.ref tk,some<|.ref ly,y7,y8,y9,some<|.int<|0+(i:Nat),some<|.int<|0+(c:Nat),some<|.str sg,some<|.ref gP,some<|.bl bv,some<|.str ⟨ws.toArray⟩,some<|.ref mA] J2:=kH _ _ ⟨mA,[35,46,44,a,b,lo1 a,lo1 b,44,46,35],rfl,Same.refl _,uA,nA,by simp,by simp,λc hc=>by
     simp only[ax,df,or_false]at hc;rcases hc with rfl|rfl|rfl|rfl|rfl|rfl|rfl|rfl|rfl|rfl
     .decide
     .decide
     .decide
     .exact(wE la).1
     .exact(wE lb).1
     .exact(wE la).2
     .exact(wE lb).2
     .decide
     .decide
     .decide⟩
    refine(oo _ rfl bv ⟨rfl,?_⟩);cases bv with
    | false=>exact oN (oN<|oo _ rfl false ⟨rfl,oN keep⟩)
    | true=>
     refine xy<|np _ rfl rfl _ ⟨rfl,sr (λgW=>?_) λ_=>?_⟩
     .obtain⟨k,hk,rfl⟩:∃k,Ltr k/\sg=⟨#[k]⟩:=by
       rcases wY with rfl|h
       .exact absurd gW<|by simp
       .exact h
      refine(oo _ rfl _ ⟨rfl,rfl,k,rfl,rfl,by have:=hk.2;lia,sZ5,λm2 kS=>?_⟩);generalize g1:upd J2 m2 _=J3 at *;obtain⟨t3,u3⟩:=al kS g1;clear g1;rw[Ej,HE]at u3;refine kH _ _<|l8 m2 ([46,44,k,lo1 k,46]) ⟨rfl,t3,u3,(λe=>by rw[e,I9.hst]at kS;cases kS),by simp,by simp,λc hc=>?_⟩;simp only[ax,df,or_false]at hc;rcases hc with rfl|rfl|rfl|rfl|rfl
      .decide
      .decide
      .exact(wE hk).1
      .exact(wE hk).2
      .decide
     .refine(oo _ rfl true ⟨rfl,xy ?_⟩);refine(lr _ rfl lt _ _ (.str ⟨#[a]⟩) ⟨rfl,rfl,SqL.of lt9,lv (j:=0) rfl,rfl,a,rfl,rfl,CU,(lr _ rfl lt _ _ (.str ⟨#[b]⟩) ⟨rfl,rfl,SqL.of lt9,lv (j:=1) rfl,rfl,b,rfl,rfl,Cf,sZ5,λm2 kS=>?_⟩)⟩);generalize g1:upd J2 m2 _=J3 at *;obtain⟨t3,u3⟩:=al kS g1;clear g1;rw[Ab,HE]at u3;refine kH _ _<|l8 m2 ([35,44,35,lo1 a,lo1 b]) ⟨rfl,t3,u3,(λe=>by rw[e,I9.hst]at kS;cases kS),by simp,by simp,λc hc=>?_⟩;simp only[ax,df,or_false]at hc;rcases hc with rfl|rfl|rfl|rfl|rfl
      .decide
      .decide
      .decide
      .exact(wE la).2
      .exact(wE lb).2
   rintro σ' J3 ⟨m2,ls,rfl,t3,u3,nm2,lV,hl10,hls⟩;have IA:=I9.same t3;have lL:(nB ls).length=ls.length:=ae _;refine(qi _ rfl _ rfl _ ⟨rfl,(ng _ rfl m2 _ rfl (.inl<|SqL.of u3) st<|l8 n7 _ ⟨rfl,IA.hst,IA.sl,by rw[lL];lia,by rw[lL];lia,λn8 i8 J8 x8 st8 hn8 h80 h81=>?_⟩)⟩);obtain⟨j8,rfl⟩:=cc h80;rw[lL]at h81;obtain⟨ch,lZ,lY⟩:=ai9 hls (show j8<ls.length by lia);refine(mf m2 _ _ (.str ⟨#[ch]⟩) ⟨rfl,rfl,SqL.of<|x8.at nm2 u3,lv lZ,(l8 _ _ ⟨rfl,rfl,(by show ws.toArray.size+1<=aE;rw[a7];exact dg<|mm<|by lia),?_⟩)⟩);rw[ayy];refine(lw _ _ _ n8 (ws++[ch]) ⟨rfl,IA.go x8 st8 hn8 n1 n2,x8.at m1<|t3 _ _ d9,by simp[wU],λw hw=>?_⟩);rcases ay.mp hw with h|h
   .exact FZ w h
   .rw[ar.mp h];exact lY
  .obtain⟨iS,iR,qB,n7,ws,rfl,I7,d7,wU,FZ⟩:=hI;refine(ql _ rfl (.inl ⟨rfl,_,SqL.of d7⟩) _ rfl gP (zs.map V.str) _ ⟨rfl,rfl,d7,mm<|by rw[ae];lia,?_⟩);have hz:=at5 FZ (by lia);rw[wU]at hz;refine(lw _ _ _ _ _<|l8 n7 (zs++[⟨ws.toArray⟩]) ⟨rfl,I7.upd d7 Gi m1 m2 m3',by rw[bu];exact l9,by simp[dP],λz pO=>?_⟩);rcases ay.mp pO with h|h
   .exact Dz z h
   .rw[ar.mp h];exact hz
 .obtain⟨jZ,iS,iR,Fj,qB,n6,zs,rfl,I6,d6,dP,Dz⟩:=hI;refine(nu _ rfl gP (zs.map V.str) ⟨rfl,.inl ⟨SqL.of d6,λfl lW=>?_⟩⟩);generalize g1:upd J fl _=J1 at *;obtain⟨t1,u1⟩:=al lW g1;clear g1;refine⟨_,rfl,sZ2,λr DJ=>?_⟩;generalize g1:upd J1 r _=J2 at *;obtain⟨t2,u2⟩:=al DJ g1;clear g1;obtain⟨M,eM,oM⟩:=atz (zs:=zs) ⟨by lia,by lia,wd,by lia,by lia,Dz⟩;have eh:M.h=h:=by rw[<-p8,<-eM];exact dP
  have ew:M.w=wd:=by have h0:=ix (show 0<zs.length by lia);have e1:=(Dz _ h0).2;have e2:=(ajm oM (z:=zs[0]'(by lia))<|by rw[<-eM];exact h0).2;lia
  have I8:=(I6.same t1).same t2;exact q r fl ly J2 n6 M L I8.ex I8.hst I8.sl u2 ⟨by rw[<-eM];exact t2 _ _ u1,oM⟩ eh ew ⟨xs,I8.hly,I8.rep⟩ tP I8.O (by lia) I8.S
def Pq(M:Mat)(ks:Z (Z U×Nat))(L:Z Pc):Prop:=∃p∈L,¬Lie M ks p
def Tq(L:Z Pc):Prop:=∃q,1<(cls L).count q
def Bq(M:Mat)(L:Z Pc):Prop:=∃q:Nat×Nat,q.1<M.h/\q.2<M.w/\yy (M.g q.1 q.2)=true/\q∉cls L
def Nb(q o:Nat×Nat):Prop:=o=(q.1,q.2+1)\/o=(q.1+1,q.2)
def Aq(ads:Z U)(L:Z Pc):Prop:=∃q o v v',Nb q o/\yi (ens L 0) q=some v/\yi (ens L 0) o=some v'/\v.1≠v'.1/\Cm ads v.2 v'.2=true
open Classical in
noncomputable def rk(M:Mat)(ks:Z (Z U×Nat))(ads:Z U)(L:Z Pc):Nat:=if Pq M ks L then 0 else if Tq L then 1 else if Bq M L then 2 else if Aq ads L then 3 else 4
noncomputable def wrd:Nat->Str
 | 0=>"piece"
 | 1=>"twice"
 | 2=>"bare"
 | 3=>"apart"
 | _=>"good"
open Classical in
theorem ES{P:Nat->Prop}{n i:Nat}(hi:i<n)(hP:P i):∃k,sP P n=some k:=by
 cases e:sP P n with
 | some k=>exact⟨k,rfl⟩
 | none=>
  have:=List.find?_range_eq_none.mp e i hi;simp[hP]at this
def IZ{M:Mat}{q:Nat×Nat}(h1:q.1<M.h)(h2:q.2<M.w):q.1*M.w+q.2<M.h*M.w/\cq M.w (q.1*M.w+q.2)=q:=by
 refine⟨?_,?_⟩
 .have:(q.1+1)*M.w<=M.h*M.w:=Nat.mul_le_mul_right _ h1;rw[Nat.add_mul,Nat.one_mul]at this;lia
 .unfold cq;rw[Aw h2,AH h2]
def ass(w j:Nat):Nb (cq w<|j/2) (oth w j):=by
 unfold oth cq;split
 .exact .inl rfl
 .exact .inr rfl
def atp{w i:Nat}{o:Nat×Nat}(h:Nb (cq w i) o):∃j,j/2=i/\j<=2*i+1/\oth w j=o:=by
 rcases h with rfl|rfl
 .exact⟨2*i,by lia,by lia,by unfold oth cq;rw[if_pos (by lia),show 2*i/2=i by lia]⟩
 .exact⟨2*i+1,by lia,by lia,by unfold oth cq;rw[if_neg (by lia),show(2*i+1)/2=i by lia]⟩
open Classical in
def atu{M:Mat}{ks:Z (Z U×Nat)}{ads:Z U}{aX:Z (Int×Option Int)}{L:Z Pc}(hK:KsZ ks)(hO:LyO ks.length L)(hw:0<M.w)(hl:∀q∈aX,q=(0,none)):∃ds,uF M ks ads aX L=.tuple (.str (wrd<|rk M ks ads L)::ds):=by
 unfold uF rk;by_cases hP:Pq M ks L
 .rw[if_pos hP];obtain⟨p,hp,hn⟩:=hP;obtain⟨i,hi⟩:=dz hp;obtain⟨k,hk⟩:=ES (P:=λk=>∃p,L[k]?=some p/\¬Lie M ks p) (aj.mp hi).1 ⟨p,hi,hn⟩;unfold lk1;rw[hk];exact⟨_,rfl⟩
 rw[if_neg hP];have hA:∀p∈L,Lie M ks p:=λp hp=>fc λz=>hP ⟨p,hp,z⟩;have on:=λ{q:Nat×Nat} (h:q∈cls L)=>CA hK hO hA h;have e1:lk1 M ks L=.none:=by unfold lk1;rw[qo λj _ ⟨p,hp,hn⟩=>hP ⟨p,ak hp,hn⟩];rfl
 rw[e1];show ∃ds,orD (lk2 M L) _=_;by_cases hT:Tq L
 .rw[if_pos hT];obtain⟨q,hq⟩:=hT;have hm:q∈cls L:=List.count_pos_iff.mp (by lia);obtain⟨b1,b2,_⟩:=on hm;obtain⟨h1,h2⟩:=IZ b1 b2;obtain⟨k,hk⟩:=ES (P:=λi=>1<(cls L).count (cq M.w i)) h1 (by rw[h2];exact hq);unfold lk2;rw[hk];exact⟨_,rfl⟩
 rw[if_neg hT];have e2:lk2 M L=.none:=by unfold lk2;rw[qo λj _ h=>hT ⟨_,h⟩];rfl
 rw[e2];show ∃ds,orD (lk3 M L) _=_;by_cases hB:Bq M L
 .rw[if_pos hB];obtain⟨q,b1,b2,hq⟩:=hB;obtain⟨h1,h2⟩:=IZ b1 b2;obtain⟨k,hk⟩:=ES (P:=λi=>yy (M.g (i/M.w)<|i % M.w)=true/\cq M.w i∉cls L) h1 (by rw[Aw b2,AH b2,h2];exact hq);unfold lk3;rw[hk];exact⟨_,rfl⟩
 rw[if_neg hB];have e3:lk3 M L=.none:=by unfold lk3;rw[qo (P:=λi=>yy (M.g (i/M.w)<|i % M.w)=true/\cq M.w i∉cls L) λj hj h=>hB ⟨cq M.w j,Nat.div_lt_of_lt_mul<|by rw[Nat.mul_comm];exact hj,Nat.mod_lt _ hw,h⟩];rfl
 rw[e3];show ∃ds,orD (lk4 M ads L) _=_;by_cases hQ:Aq ads L
 .rw[if_pos hQ];obtain⟨q,o,v,v',hN,c1,c2,hv,hk⟩:=hQ;obtain⟨b1,b2,_⟩:=on<|CQ c1;obtain⟨h1,h2⟩:=IZ b1 b2;rw[<-h2]at hN c1;obtain⟨j,ej,hj,eo⟩:=atp hN;obtain⟨k,hk⟩:=ES (P:=Ap4 M.w (ens L 0) ads) (n:=2*(M.h*M.w)) (i:=j) (by lia)<|mf v.1 v.2 v'.1 v'.2 ⟨by rw[ej];exact c1,by rw[eo];exact c2,hv,hk⟩;unfold lk4;rw[hk];exact⟨_,rfl⟩
 rw[if_neg hQ];have e4:lk4 M ads L=.none:=by unfold lk4;rw[qo λj _ ⟨k,s,k',s',c1,c2,hv,hk⟩=>hQ<|mf _ _ (k,s) (k',s') ⟨ass M.w j,c1,c2,hv,hk⟩];rfl
 rw[e4];show ∃ds,orD (lk5 aX L) _=_;have e5:lk5 aX L=.none:=by
  unfold lk5;have no:∀j,j<aX.length->¬Bad aX L j:=λj _ ⟨q,hq,h⟩=>by
   rw[hl q (ak hq)]at h;rcases h with h|⟨m,h,_⟩
   .have h:((List.count j (L.map (·.2)):Nat):Int)<0:=h;lia
   .cases h
  rw[qo no];rfl
 rw[e5];exact⟨_,rfl⟩
noncomputable def shc(m:Nat)(q:Nat×Nat):Nat×Nat:=(q.1,q.2+m)
def JL{m:Nat}{a b:Nat×Nat}(h:shc m a=shc m b):a=b:=by
 unfold shc at h;injection h with h1 h2
 exact Prod.ext h1<|by lia
def aqd(A B:Z Pc):cls (A++B)=cls A++cls B:=List.flatMap_append
theorem Js(m:Nat):∀L:Z Pc,cls (L.map<|shP m)=(cls L).map (shc m)
 | []=>rfl
 | p::L=>by show(p.1.map<|shS m).map ce++cls (L.map<|shP m)=(p.1.map ce++cls L).map (shc m);rw[Js m L,bu,bm,bm];rfl
def aog(m:Nat)(l:Z (Nat×Nat))(q:Nat×Nat):(l.map<|shc m).count (shc m q)=l.count q:=by unfold List.count;rw[List.countP_map];refine List.countP_congr λx _=>?_;show(shc m x==shc m q)=true↔_;rw[beq_iff_eq,beq_iff_eq];exact⟨JL,λe=>by rw[e]⟩
noncomputable def stp(f:Nat×Nat->Option (Nat×Nat))(e:En):Nat×Nat->Option (Nat×Nat):=λq=>if q=e.1 then some e.2 else f q
theorem Kg:∀(fs:Z En) (f:Nat×Nat->Option (Nat×Nat)) (q:Nat×Nat),fs.foldl stp f q=(fs.foldl stp (λ_=>none) q).or (f q)
 | [],f,q=>rfl
 | e::fs,f,q=>by
  show fs.foldl stp (stp f e) q=(fs.foldl stp (stp (λ_=>none) e) q).or (f q);rw[Kg fs (stp f e),Kg fs<|stp (λ_=>none) e,Option.or_assoc]
  congr 1
  unfold stp;split<;>rfl
def ak4(es fs:Z En)(q:Nat×Nat):yi (es++fs) q=(yi fs q).or (yi es q):=by show(es++fs).foldl stp _ q=_;rw[List.foldl_append];exact Kg fs _ q
theorem ag5{es:Z En}{q:Nat×Nat}(h:q∉es.map (·.1)):yi es q=none:=by
 cases e:yi es q with
 | none=>rfl
 | some v=>exact absurd (cm (f:=(·.1))<|EO e) h
noncomputable def shE(m k:Nat)(e:En):En:=(shc m e.1,(e.2.1+k,e.2.2))
noncomputable def up2(k:Nat)(v:Nat×Nat):Nat×Nat:=(v.1+k,v.2)
theorem aoc(m k:Nat):∀(L:Z Pc)(j:Nat),ens (L.map<|shP m) (j+k)=(ens L j).map (shE m k)
 | [],_=>rfl
 | p::L,j=>by show(p.1.map<|shS m).map (en<|j+k)++ens (L.map<|shP m) (j+k+1)=(p.1.map (en j)++ens L (j+1)).map (shE m k);rw[show j+k+1=j+1+k by lia,aoc m k L,bu,bm,bm];rfl
theorem ak7(m k:Nat):∀(es:Z En) (f f':Nat×Nat->Option (Nat×Nat)) (q:Nat×Nat),(∀q,f' (shc m q)=(f q).map (up2 k))->(es.map<|shE m k).foldl stp f' (shc m q)=(es.foldl stp f q).map (up2 k)
 | [],f,f',q,h=>h q
 | e::es,f,f',q,h=>by
  refine ak7 m k es (stp f e) (stp f'<|shE m k e) q λq=>?_;unfold stp;by_cases hq:q=e.1
  .rw[if_pos hq,if_pos (show shc m q=(shE m k e).1 by rw[hq];rfl)];rfl
  .rw[if_neg hq,if_neg (show ¬shc m q=(shE m k e).1 from λz=>hq<|JL z)];exact h q
def asa(m k:Nat)(L:Z Pc)(q:Nat×Nat):yi (ens (L.map<|shP m)<|0+k) (shc m q)=(yi (ens L 0) q).map (up2 k):=by rw[aoc];exact ak7 m k _ _ _ q λ_=>rfl
def EE{p p1 p2:Prop}[Decidable p][Decidable p1][Decidable p2]{k a b c:Nat}(e:p↔p1\/p2)(ha:k<=a)(hb:k<=b)(h:¬p1->¬p2->c=hX a b):(if p then k else c)=hX (if p1 then k else a) (if p2 then k else b):=by
 by_cases h1:p1
 .rw[if_pos (e.mpr<|.inl h1),if_pos h1];split<;>lia
 .by_cases h2:p2
  .rw[if_pos (e.mpr<|.inr h2),if_neg h1,if_pos h2];lia
  .rw[if_neg (λz=>(e.mp z).elim h1 h2),if_neg h1,if_neg h2];exact h h1 h2
open Classical in
def awx{A B:Mat}(hh:A.h=B.h){ks:Z (Z U×Nat)}(hK:KsZ ks){ads:Z U}{L1 L2:Z Pc}(B0:LyO ks.length L1)(BZ:LyO ks.length L2)(hS:∀p∈L1,Sd (A.w+1) p):rk (jn A B) ks ads (L1++L2.map (shP<|A.w+1))=hX (rk A ks ads L1) (rk B ks ads L2):=by
 unfold rk;have iP:Pq (jn A B) ks (L1++L2.map (shP<|A.w+1))↔Pq A ks L1\/Pq B ks L2:=by
  constructor
  .rintro⟨p,hp,hn⟩;rcases ay.mp hp with h|h
   .exact .inl ⟨p,h,λz=>hn<|(auj hK (B0 p h).1 (B0 p h).2 (hS p h)).mpr z⟩
   .obtain⟨p,h',rfl⟩:=aw.mp h;exact .inr ⟨p,h',λz=>hn<|(as5 hh hK (BZ p h').1 (BZ p h').2).mpr z⟩
  .rintro(⟨p,h,hn⟩|⟨p,h,hn⟩)
   .exact⟨p,gr _ h,λz=>hn<|(auj hK (B0 p h).1 (B0 p h).2 (hS p h)).mp z⟩
   .exact⟨_,cf _<|cm h,λz=>hn<|(as5 hh hK (BZ p h).1 (BZ p h).2).mp z⟩
 refine EE iP (fj _) (fj _) λn1 n2=>?_;have Dp:=λ{q:Nat×Nat} (h:q∈cls L1)=>CA hK B0 (λp hp=>fc λz=>n1 ⟨p,hp,z⟩) h;have on2:=λ{q:Nat×Nat} (h:q∈cls L2)=>CA hK BZ (λp hp=>fc λz=>n2 ⟨p,hp,z⟩) h;have eC:cls (L1++L2.map (shP<|A.w+1))=cls L1++(cls L2).map (shc<|A.w+1):=by rw[aqd,Js]
 have FJ:∀q:Nat×Nat,shc (A.w+1) q∉cls L1:=λq h=>by have:q.2+(A.w+1)<A.w:=(Dp h).2.1;lia
 have FI:∀q:Nat×Nat,q.2<A.w+1->q∉(cls L2).map (shc<|A.w+1):=λq hq h=>by obtain⟨q',_,rfl⟩:=aw.mp h;have:q'.2+(A.w+1)<A.w+1:=hq;lia
 have back:∀q:Nat×Nat,A.w<q.2->shc (A.w+1) (q.1,q.2-(A.w+1))=q:=λq hq=>Prod.ext rfl (by show q.2-(A.w+1)+(A.w+1)=q.2;lia);have in2:∀q:Nat×Nat,shc (A.w+1) q∈(cls L2).map (shc<|A.w+1)↔q∈cls L2:=λq=>⟨λh=>by obtain⟨q',h,e⟩:=aw.mp h;rw[<-JL e];exact h,λh=>cm h⟩
 refine EE ?_ ?_ ?_ λ_ _=>EE ?_ ?_ ?_ λ_ _=>EE ?_ (by decide) (by decide) λ_ _=>rfl
 .unfold Tq;rw[eC];constructor
  .rintro⟨q,hq⟩;rw[List.count_append]at hq;by_cases h:q.2<A.w+1
   .rw[List.count_eq_zero.mpr (FI q h)]at hq;exact .inl ⟨q,hq⟩
   .rw[<-back q (by lia),List.count_eq_zero.mpr<|FJ _,aog]at hq;exact .inr ⟨(q.1,q.2-(A.w+1)),by lia⟩
  .rintro(⟨q,hq⟩|⟨q,hq⟩)
   .exact⟨q,by rw[List.count_append];lia⟩
   .exact⟨shc (A.w+1) q,by rw[List.count_append,aog];lia⟩
 .split
  .decide
  .split<;>decide
 .split
  .decide
  .split<;>decide
 .unfold Bq;rw[eC];constructor
  .rintro⟨q,h1,h2,hm,hn⟩;have h1:q.1<A.h:=h1;have h2:q.2<A.w+1+B.w:=h2;rw[ay]at hn;by_cases h:q.2<A.w
   .have e:(jn A B).g q.1 q.2=A.g q.1 q.2:=if_pos h;rw[e]at hm;exact .inl ⟨q,h1,h,hm,λz=>hn<|.inl z⟩
   .by_cases e:q.2=A.w
    .rw[e,EA]at hm;exact absurd hm<|by decide
    .have hb:=back q (by lia);rw[<-hb]at hm hn;have hm:yy ((jn A B).g q.1 (q.2-(A.w+1)+(A.w+1)))=true:=hm;rw[Ci]at hm;exact .inr ⟨(q.1,q.2-(A.w+1)),by show q.1<B.h;lia,by show q.2-(A.w+1)<B.w;lia,hm,λz=>hn<|.inr<|(in2 _).mpr z⟩
  .rintro(⟨q,h1,h2,hm,hn⟩|⟨q,h1,h2,hm,hn⟩)
   .have e:(jn A B).g q.1 q.2=A.g q.1 q.2:=if_pos h2;refine⟨q,h1,by show q.2<A.w+1+B.w;lia,by rw[e];exact hm,λz=>?_⟩;rcases ay.mp z with z|z
    .exact hn z
    .exact FI q (by lia) z
   .refine⟨shc (A.w+1) q,by show q.1<A.h;lia,by show q.2+(A.w+1)<A.w+1+B.w;lia,by show yy ((jn A B).g q.1 (q.2+(A.w+1)))=true;rw[Ci];exact hm,λz=>?_⟩;rcases ay.mp z with z|z
    .exact FJ q z
    .exact hn<|(in2 q).mp z
 .split<;>decide
 .split<;>decide
 .have eE:ens (L1++L2.map (shP<|A.w+1)) 0=ens L1 0++ens (L2.map<|shP<|A.w+1) (0+L1.length):=JD _ _ _;have Ep:∀q:Nat×Nat,q.2<A.w+1->yi (ens (L1++L2.map (shP<|A.w+1)) 0) q=yi (ens L1 0) q:=λq hq=>by
   rw[eE,ak4,ag5<|by rw[xo,Js];exact FI q hq];rfl
  have Eo:∀q:Nat×Nat,yi (ens (L1++L2.map (shP<|A.w+1)) 0) (shc (A.w+1) q)=(yi (ens L2 0) q).map (up2 L1.length):=λq=>by rw[eE,ak4,asa,ag5 (es:=ens L1 0)<|by rw[xo];exact FJ q,Option.or_none]
  unfold Aq;constructor
  .rintro⟨q,o,v,v',hN,c1,c2,hv,hk⟩;by_cases h:q.2<A.w+1
   .rw[Ep q h]at c1;have hq:q.2<A.w:=(Dp<|CQ c1).2.1;rw[Ep o (by rcases hN with rfl|rfl<;>simp<;>lia)]at c2;exact .inl<|mf q o v v' ⟨hN,c1,c2,hv,hk⟩
   .have hb:=back q (by lia);have hbo:=back o (by rcases hN with rfl|rfl<;>simp<;>lia);rw[<-hb,Eo]at c1;rw[<-hbo,Eo]at c2;obtain⟨u,hu,rfl⟩:=db.mp c1;obtain⟨u',zL,rfl⟩:=db.mp c2;refine .inr<|mf _ _ u u' ⟨?_,hu,zL,λz=>hv<|by show u.1+_=u'.1+_;rw[z],hk⟩;rcases hN with rfl|rfl
    .exact .inl (Prod.ext rfl<|by show q.2+1-(A.w+1)=q.2-(A.w+1)+1;lia)
    .exact .inr rfl
  .rintro(⟨q,o,v,v',hN,c1,c2,hv,hk⟩|⟨q,o,v,v',hN,c1,c2,hv,hk⟩)
   .have hq:q.2<A.w:=(Dp<|CQ c1).2.1;have ho:o.2<A.w:=(Dp<|CQ c2).2.1;exact(mf q o v v' ⟨hN,by rw[Ep q (by lia)];exact c1,by rw[Ep o (by lia)];exact c2,hv,hk⟩)
   .refine(mf (shc (A.w+1) q) (shc (A.w+1) o) (up2 L1.length v) (up2 L1.length v') ⟨?_,by rw[Eo,c1];rfl,by rw[Eo,c2];rfl,λz=>hv<|by have z:v.1+_=v'.1+_:=z;lia,hk⟩);rcases hN with rfl|rfl
    .exact .inl (Prod.ext rfl<|by show q.2+1+(A.w+1)=q.2+(A.w+1)+1;lia)
    .exact .inr rfl
def anj{xs:Z V}{k:Nat}(hk:k<=xs.length):kO xs (some (k:Int)) none=xs.drop k:=by unfold kO;rw[HT.sIx_none,HT.sIx_nat,show hX k xs.length=k by lia,bi<|by rw[gm];exact am _]
def atm{xs:Z V}{k:Nat}(hk:k<=xs.length):kO xs none (some (k:Int))=xs.take k:=by unfold kO;rw[HT.sIx_none,HT.sIx_nat,show hX k xs.length=k by lia];rfl
def arm{xs:Z V}(h:0<xs.length):kO xs none (some<|-1)=xs.take (xs.length-1):=by unfold kO;rw[HT.sIx_none];show(xs.drop 0).take ((-1+(xs.length:Int)).toNat-0)=_;rw[show(-1+(xs.length:Int)).toNat-0=xs.length-1 by lia];rfl
def ama{α:Type}{xs:List α}{v:α}(h:0<xs.length)(hv:xs[xs.length-1]?=some v):xs=xs.take (xs.length-1)++[v]:=by
 conv=>lhs;rw[<-List.take_length (l:=xs),show xs.length=xs.length-1+1 by lia,List.take_add_one,hv]
 rfl
def aoy{xs:Z V}{v:V}(h:0<xs.length)(hv:xs[xs.length-1]?=some v):atI xs (-1)=some v:=by rw[ama h hv];exact amq _ _
def LyS(nk m:Nat)(L:Z Pc):Prop:=LyO nk L/\∀p∈L,Sd m p
def LyS.sub{nk m:Nat}{L L':Z Pc}(h:LyS nk m L)(s:∀p∈L',p∈L):LyS nk m L':=⟨λp hp=>h.1 p<|s p hp,λp hp=>h.2 p<|s p hp⟩
def LyS.app{nk m:Nat}{L L':Z Pc}(h:LyS nk m L)(h':LyS nk m L'):LyS nk m (L++L'):=⟨λp hp=>(ay.mp hp).elim (h.1 p) (h'.1 p),λp hp=>(ay.mp hp).elim (h.2 p) (h'.2 p)⟩
def LyS.one{nk m:Nat}{p:Pc}(h:PcO p)(h':p.2<nk)(s:Sd m p):LyS nk m [p]:=⟨λq hq=>by rw[ar.mp hq];exact⟨h,h'⟩,λq hq=>by rw[ar.mp hq];exact s⟩
def LyS.up{nk m:Nat}{L:Z Pc}(h:LyS nk m L):LyS nk (m+1) L:=⟨h.1,λp hp=>(h.2 p hp).mono (ke _)⟩
def Sd.last{m:Nat}{p:Pc}(h:Sd m p){s0:Sg}{n k n':Nat}(hn:n=p.1.length)(h0:0<n)(hs:p.1[n-1]?=some s0):Sd m (p.1.take (n-1)++[(s0.1,s0.2.1,k)],n'):=by
 subst hn;refine h.cols λc=>?_;rw[show(∃s∈p.1,s.2.1=c)↔∃s∈p.1.take (p.1.length-1)++[s0],s.2.1=c from by rw[<-ama h0 hs]];constructor
 .rintro⟨s,hs,e⟩;rcases ay.mp hs with h|h
  .exact⟨s,gr _ h,e⟩
  .rw[ar.mp h]at e;exact⟨s0,cf _<|ar.mpr rfl,e⟩
 .rintro⟨s,hs,e⟩;rcases ay.mp hs with h|h
  .exact⟨s,gr _ h,e⟩
  .rw[ar.mp h]at e;exact⟨_,cf _<|ar.mpr rfl,e⟩
def auh:Sp:=λvs H Q _=>∃(st l kd lt:aF)(h wd:Nat)(n kvs:Z V) (ks:Z (Z U×Nat)) (aX:Z (Int×Option Int)) (cs:Z Nat) (L:Z Pc),vs=[.ref st,.ref l,.ref kd,.ref lt,.int (h:Nat),.int (wd:Nat)]/\H st=some (.lst n)/\StL n/\LyH H l L/\l≠st/\LyS ks.length wd L/\L.length<=6/\H kd=some (.lst kvs)/\kd≠st/\Kn H kvs ks aX/\0<ks.length/\ks.length<=3/\H lt=some (.lst<|nB cs)/\cs.length=2/\(∀c∈cs,Ltr c)/\lt≠st/\0<h/\h<=8/\0<wd/\wd<=8/\
 ∀(l':aF)(L':Z Pc)(n':Z V)(H':Hp),Ex [st] H H'->H' st=some (.lst n')->StL n'->LyH H' l' L'->H l'=none->LyS ks.length (wd+1) L'->L'.length<=7->Q (.ref l') H'
def scSpo:mj ["_law_state","_law_laying","_law_kinds_here","_law_letters_here","_law_high","_law_wide","_law_way","_law_spot","_law_spots","_law_number"] ZM (l0 Ik):={}
theorem at7(B:∀x∈sk,mg x=none)(bE:yp P w K mg base)(KE:Fn P w K mg base "_law_lie" 4 ZV HS)(F:Fun K "_law_spoilt" "_law_spoilt" Ik f fd):qm P w K mg base CX0 5 f fd ZM auh:=by
 refine F.ok (k:=4) scSpo (λvs H Q E h=>?_) λbW A outer s H vs Q E hr h=>?_
 .obtain⟨_,_,_,_,_,_,_,_,_,_,_,_,rfl,_⟩:=h;rfl
 obtain⟨st,l,kd,lt,h,wd,n,kvs,ks,aX,cs,L,rfl,hst,hn,⟨xs,hl,rep⟩,nl,hO,h6L,sK,lK,hK,mL,xK,bQ,jX,mC,iL,xO,xN,zI,Be,q⟩:=h;have hu:=hr.units;have lx:=rep.length;rw[ae]at lx;have lk:=hK.k.1;have Dy:=PlD.imm hO.1.pl;refine⟨_,(lg (psN 6 scSpo.nd<|pfn bE<|lj (pv 0)<|lj lh lc)
  (lg (rg (PW.pt<|IK (nv xt (pv 6) lh<|oh _)<|Ji<|nv (auo hu) (pv 1) (ot lc)<|oh _) (lq<|mr<|nj Az (pv 1)<|ot<|lj (pfn KE<|lj (pv 0)<|lj (pv 2)<|lj (pv 4)<|lj (pv 5) lc) lc) o0)
  (lg (psN 7 scSpo.nd<|pfn bE<|lj (pv 0)<|lj (pCB m8 fy<|lj (pv 1) lc) lc)
  (lg (EY (pix mx (pv 1)<|pv 7)<|si (n:=2) rfl<|ln (pgN 8 scSpo.nd)<|ln (pgN 9 scSpo.nd) ni)
  (lg (rg (nv xt (pv 6) lh<|oh _) (lq<|mr<|nj Az (pv 1)<|ot<|lj (pix mx (pv 1)<|pv 7) lc) o0)
  (lg (rg (nv xt (pv 6) lh<|oh _) (lq<|psN 8 scSpo.nd<|pCT m7 ku<|lj (pcm Z2 [none,none,none] (wl<|pv 8) (λ_=>(ph (n:=3) rfl<|ln (pgC 0)<|ln (pgC 1)<|ln (pgC 2) ni)) (λ_=>om) λ_=>(my<|lj (pv 0)<|lj (nj pj (pv 1) lh)<|lj (pv 2) lc)) lc)<|lq<|rg (nv xt (pv 6) lh<|oh _) (lq<|psN 9 scSpo.nd<|nj u9 (nj pj (pv 9) lh)<|pCB m8 fy<|lj (pv 2) lc)<|lq<|psN 8 scSpo.nd<|nj apz (wq akx (pv 8) E9<|xx<|vZ yk lh)<|my<|lj (my<|lj (pix nh (pix nh (pv 8)<|vZ yk lh) lh)<|lj (pix nh (pix nh (pv 8)<|vZ yk lh) lh)<|lj (pix mx (pv 3)<|pfn bE<|lj (pv 0)<|lj lh lc) lc) lc)
  (lq<|mr<|nj Az (nj Az (wq JS (pv 1) E9<|xx<|pv 7)<|ot<|lj (my<|lj (pv 8)<|lj (pv 9) lc) lc)<|wq JS (pv 1) (xx<|nj pj (pv 7) lh) E9))))))),?_⟩
 refine(oj _ rfl st n 5 ⟨rfl,hst,hn,by decide,by decide,λn1 i1 H1 x1 gO iN yD Ef=>?_⟩);have l1:=x1.at nl hl;have eJ:=rep.tk (x1.one hst) Dy;have Du:=x1.at lK sK;have DZ:=hK.tk<|x1.one hst;have lt1:=x1.at iL bQ;dsimp only[rq];refine ahr λDh zD tF=>?_;have qh:∀(l':aF)(L':Z Pc)(n':Z V)(H':Hp),Ex [st] H H'->H' st=some (.lst n')->StL n'->LyH H' l' L'->H l'=none->LyS ks.length (wd+1) L'->L'.length<=7->Dh.rt (.ref l') H':=by rw[tF];exact q
 refine(np _ rfl rfl _ ⟨rfl,?_⟩);have s0:=Same.refl H1;refine sr (λ_=>xy ?wA) λ_=>?wB
 case' wB=>
  clear s0;refine⟨_,rfl,sZ0,λe0 he0=>?_⟩;generalize g1:upd H1 e0 _=H2 at *;obtain⟨s0,d2⟩:=al he0 g1;clear g1;refine(mz l e0 _ ⟨rfl,rfl,s0 _ _ l1,d2,_,rfl,?_⟩);refine sr (λ_=>?wA2) λgW=>?wC
 case wA|wA2=>
  clear zD tF;have st0:=s0 _ _ gO;refine(qi _ rfl _ rfl _ ⟨rfl,(mh _ rfl _ rfl st kd h<|lw wd n1 kvs ks aX ⟨rfl,st0,iN,s0 _ _ Du,lK,DZ.same s0,mL,xK,xO,xN,zI,Be,λr G1 n2 p x2 dL kJ rp BY xX xW=>?_⟩)⟩);refine⟨sZ1,λS1 BX=>?_⟩;generalize g1:upd G1 S1 _=G2 at *;obtain⟨s2,c2⟩:=al BX g1;clear g1;have l2:=s2 _ _<|x2.at nl<|s0 _ _ l1;refine(mf l S1 _ _ ⟨rfl,rfl,l2,c2,dg<|mm<|by simp;lia,λS2 pS=>?_⟩);generalize g1:upd G2 S2 _=G3 at *;obtain⟨s3,c3⟩:=al pS g1;clear g1;have rP:=((x1.trans<|Ex.of_same s0).trans x2).trans (Ex.of_same<|s2.trans s3);refine qh S2 (L++[p]) n2 G3 rP (s3 _ _<|s2 _ _ dL) kJ ⟨_,c3,?_⟩ ?_ (hO.up.app<|LyS.one BY xX<|xW.mono<|ke _)<|by rw[be,fq];lia
  .rw[bu];exact((((eJ.same s0).tk (x2.one st0) Dy).snoc rp).same (s2.trans s3))
  .exact xm (((x1.trans<|Ex.of_same s0).trans x2).trans (Ex.of_same s2)) (λe=>by rw[e,s2 _ _ dL]at pS;cases pS) pS
 have hpos:0<xs.length:=by
  cases xs with
  | nil=>exact absurd gW (by simp)
  | cons _ _=>exact Nat.succ_pos _
 refine zD _ _ ?_;clear zD tF qh Dh gW;have dL:=s0 _ _ gO;have l2:=s0 _ _ l1;refine(og _ rfl _ rfl l _ rfl (.inl<|SqL.of l2) st<|l8 n1 _ ⟨rfl,dL,iN,by lia,by lia,λn3 i3 G3 x3 dI jI vL Ed=>?_⟩);obtain⟨sp,rfl⟩:=cc vL;have gM:sp<xs.length:=by lia
 have rP:=(x1.trans<|Ex.of_same s0).trans x3;have l3:=x3.at nl l2;have fD:=(eJ.same s0).tk (x3.one dL) Dy;have kd3:=rP.at lK sK;have lt3:=rP.at iL bQ;clear DZ Du lt1 l1 l2 eJ gO dL x1 x3 s0 d2 he0 vL Ed yD Ef;obtain⟨x,hx⟩:∃x,xs[sp]?=some x:=⟨_,ah gM⟩;obtain⟨p,hpL,rd⟩:=Au fD hx;obtain⟨lB,xX⟩:=hO.1 p<|ak hpL;have DX:=hO.2 p<|ak hpL;obtain⟨pb,eb,gE,rfl,hpb,jV,cI⟩:=AC rd;have lE:=cI.length;rw[ae]at lE;have hP6:=lB.2.2;have hP1:=lB.2.1;refine(mh _ rfl _ rfl l _ _<|r9 _ rfl rfl (SqL.of l3) (lv hx) pb _ ⟨rfl,SqT.of hpb,rfl,(l8 _ _ ⟨rfl,(l8 _ _ ⟨rfl,rfl,?_⟩)⟩)⟩);dsimp only[rq];refine ahr λDh zD tF=>?_;have qh:∀(l':aF)(L':Z Pc)(n':Z V)(H':Hp),Ex [st] H H'->H' st=some (.lst n')->StL n'->LyH H' l' L'->H l'=none->LyS ks.length (wd+1) L'->L'.length<=7->Dh.rt (.ref l') H':=by rw[tF];exact q
 refine(np _ rfl rfl _ ⟨rfl,?_⟩);refine sr (λ_=>?_) λ_=>?_
 .refine(pf _ rfl _ rfl _ rfl l _<|l8 _ _ ⟨rfl,rfl,SqL.of l3,lv hx,sZ1,λS1 BX=>?_⟩);generalize g1:upd G3 S1 _=G4 at *;obtain⟨s4,c4⟩:=al BX g1;clear g1;refine(mf l S1 _ _ ⟨rfl,rfl,s4 _ _ l3,c4,dg<|mm<|by simp;lia,λS2 pS=>?_⟩);generalize g1:upd G4 S2 _=G5 at *;obtain⟨s5,c5⟩:=al pS g1;clear g1;refine qh S2 (L++[p]) n3 G5 (rP.trans<|Ex.of_same<|s4.trans s5) ((s4.trans s5) _ _ dI) jI ⟨_,c5,?_⟩ ?_ (hO.up.app<|LyS.one lB xX<|DX.mono<|ke _)<|by rw[be,fq];lia
  .rw[bu];exact(fD.snoc rd).same (s4.trans s5)
  .exact xm (rP.trans<|Ex.of_same s4) (λe=>by rw[e,s4 _ _ dI]at pS;cases pS) pS
 refine zD _ _ ?_;clear zD tF qh Dh;refine Kb (λσ' G'=>∃(sb:aF)(Dm:Z V)(s2:Z Sg)(nq:Nat)(n':Z V),σ'=[some (.ref st),some<|.ref l,some<|.ref kd,some<|.ref lt,some<|.int (h:Nat),some<|.int (wd:Nat),some<|.int i1,some<|.int (sp:Nat),some<|.ref sb,some<|.int (nq:Nat)]/\Ex [st] G3 G'/\G' st=some (.lst n')/\StL n'/\G' sb=some (.tup Dm)/\RepAll G' (s2.map sgD) Dm/\PcO (s2,nq)/\nq<ks.length/\Sd (wd+1) (s2,nq)) ?_ λDh kH tF=>?_
 case' refine_2=>
  refine(np _ rfl rfl _ ⟨rfl,?_⟩);refine sr (λ_=>?_) λ_=>?_
  .refine(oo _ rfl eb ⟨rfl,⟨_,SqT.of jV⟩,λD hD=>?_⟩);refine tf (xs:=gE) (λi zs G=>Same G3 G/\RepAll G ((p.1.take i).map λs=>sgD<|shS 1 s) zs) ⟨Same.fresh _ hD,rfl⟩ (λi zs G p=>SqT.of<|p.1 _ _ jV) (λi x zs G hx hi bJ dP pp=>?_) λzs G bJ dP pp=>?_
   .obtain⟨p1,p2⟩:=pp;obtain⟨sg,b',hs,rfl,dS⟩:=yL cI hx;have hL:=lB.1 sg<|ak hs;refine(me b' _ rfl (SqT.of<|p1 _ _ dS) rfl _ _ rfl _<|nu _ rfl _ _ ⟨rfl,rfl,?_⟩);refine⟨Agree.set (Agree.set (Agree.set (Agree.refl _) rfl) rfl) rfl,?_⟩;dsimp only[jY];refine xy ?_;refine(og _ rfl _ rfl _ _ rfl rfl _ ⟨rfl,sZ3,λt ht=>?_⟩);generalize g1:upd G t _=G4 at *;obtain⟨s4,c4⟩:=al ht g1;clear g1;have pU:=s4 _ _ bJ;refine p9 (by lia) pU dP ⟨(p1.trans s4).new hD,?_⟩;have im:o9 ((p.1.take<|i+1).map λs=>sgD<|shS 1 s)=true:=qj λd hd=>by
     obtain⟨s,_,rfl⟩:=aw.mp hd;rfl
    rw[mn (λs:Sg=>sgD<|shS 1 s) hs]at im⊢;exact((p2.same s4).snoc (show Rep G4 (sgD<|shS 1 sg) (.ref t)from (mq t _ rfl c4 _ _ rfl rfl _<|np _ rfl rfl _ ⟨_,rfl,⟨rfl,ok1 (show sg.2.2<128 by have:=hL.2;lia)⟩,rfl⟩))).tk (Tk.lst pU) im
   .obtain⟨p1,p2⟩:=pp;rw[bi (by lia)]at p2;refine(l8 D zs ⟨rfl,.inl ⟨SqL.of bJ,λt ht=>?_⟩⟩);generalize g1:upd G t _=G4 at *;obtain⟨s4,c4⟩:=al ht g1;clear g1;have sA:=p1.trans s4;exact kH _ _<|lw t zs (p.1.map<|shS 1) p.2 n3 ⟨rfl,Ex.of_same sA,sA _ _ dI,jI,c4,by rw[bm];exact p2.same s4,lB.sh 1,xX,DX.right⟩
  refine(np _ rfl rfl _ ⟨rfl,?_⟩);refine sr (λ_=>?_) λ_=>?_
  .obtain⟨m',tO,em'⟩:∃m':Nat,m'<kvs.length/\(((p.2:Nat):Int)+1) % ((kvs.length:Nat):Int)=(m':Nat):=⟨((((p.2:Nat):Int)+1) % ((kvs.length:Nat):Int)).toNat,by
    have:=Int.emod_lt_of_pos (((p.2:Nat):Int)+1) (show(0:Int)<(kvs.length:Nat) by lia);have:=Int.emod_nonneg (((p.2:Nat):Int)+1) (show((kvs.length:Nat):Int)≠0 by lia);lia,by
    have:=Int.emod_nonneg (((p.2:Nat):Int)+1) (show((kvs.length:Nat):Int)≠0 by lia);lia⟩
   refine(ng _ rfl _ _ rfl rfl _ ⟨rfl,(sq kd _ rfl (.inl<|SqL.of kd3) _ _ ⟨rfl,rfl,(by show(0:Int)<(kvs.length:Nat);lia),?_⟩)⟩);exact kH _ _<|lw eb gE p.1 m' n3 ⟨by rw[<-em'];rfl,Ex.refl _ _,dI,jI,jV,cI,lB,by lia,DX.mono<|ke _⟩
  have jU:0<gE.length:=by lia
  obtain⟨x0,FY⟩:∃x,gE[gE.length-1]?=some x:=⟨_,ah<|by lia⟩;obtain⟨s0,b0,Bm,rfl,pR⟩:=yL cI FY;refine⟨_,rfl,EQ<|ago _ rfl _ rfl eb gE ⟨rfl,jV,λt3 G4 s4 c4=>?_⟩⟩;have c4:G4 t3=some (.tup<|kO gE none<|some<|-1):=c4;rw[arm jU]at c4;refine(mh _ rfl _ rfl eb _ _<|r9 _ rfl rfl (SqT.of<|s4 _ _ jV) (aoy jU FY) b0 _<|l8 _ _ ⟨rfl,rfl,SqT.of<|s4 _ _ pR,lv (j:=0) rfl,?_⟩);refine(mh _ rfl _ rfl eb _ _<|r9 _ rfl rfl (SqT.of<|s4 _ _ jV) (aoy jU FY) b0 _<|l8 _ _ ⟨rfl,rfl,SqT.of<|s4 _ _ pR,lv (j:=1) rfl,?_⟩);refine(mh _ rfl _ rfl st n3 2 ⟨rfl,s4 _ _ dI,jI,by decide,by decide,λn5 i5 G5 x5 eZ lU Ec h51=>?_⟩);obtain⟨j5,rfl⟩:=cc Ec;obtain⟨k1,GT,zR⟩:=ai9 mC (show j5<cs.length by lia);refine(mf lt _ _ (.str ⟨#[k1]⟩) ⟨rfl,rfl,SqL.of<|x5.at iL<|s4 _ _ lt3,lv GT,sZ3,λt5 F9=>?_⟩);generalize g1:upd G5 t5 _=G6 at *;obtain⟨s6,c6⟩:=al F9 g1;clear g1;refine⟨sZ1,λt6 F8=>?_⟩;generalize g1:upd G6 t6 _=G7 at *;obtain⟨s7,c7⟩:=al F8 g1;clear g1;have n3t:t3≠st:=λe=>by rw[e,s4 _ _ dI]at c4;cases c4
  have t3c:=(s6.trans s7) _ _<|x5.at n3t c4;refine(mf t3 t6 _ _ ⟨rfl,rfl,t3c,c7,dg<|mm<|by rw[b8];simp;lia,λt7 G8 s8 c8=>?_⟩);have wL:=(s6.trans s7).trans s8;have Fz:RepAll G8 ((p.1.take<|gE.length-1).map sgD) (gE.take<|gE.length-1):=by rw[List.map_take];exact(RepAll.take _<|(cI.same s4).tk (x5.one<|s4 _ _ dI) (Spots.imm<|SgN.spots<|AF lB.1)).same wL
  refine kH _ _<|lw t7 _ (p.1.take (gE.length-1)++[(s0.1,s0.2.1,k1)]) p.2 n5 ⟨rfl,((Ex.of_same s4).trans x5).trans (Ex.of_same wL),wL _ _ eZ,lU,c8,?_,⟨λs hs=>?_,?_,?_⟩,xX,(DX.mono<|ke _).last (by lia) jU Bm⟩
  .rw[bu];refine Fz.snoc ?_;exact(mq t5 _ rfl (s8 _ _<|s7 _ _ c6) _ _ rfl rfl _<|np _ rfl rfl _ ⟨_,rfl,⟨rfl,ok1 (show k1<128 by have:=zR.2;lia)⟩,rfl⟩)
  .rcases ay.mp hs with h|h
   .exact lB.1 s<|cn h
   .rw[ar.mp h];exact zR
  .show 0<(p.1.take (gE.length-1)++[(s0.1,s0.2.1,k1)]).length;rw[be,fq];lia
  .show(p.1.take (gE.length-1)++[(s0.1,s0.2.1,k1)]).length<=6;rw[be,fq,b8];lia
 rintro σ' G' ⟨sb,Dm,s2,nq,n',rfl,x4,bP,sH,lQ,FA,hP2,kJ,pS⟩;have l4:=x4.at nl l3;have lJ:=fD.tk (x4.one dI) Dy;refine⟨_,rfl,EQ<|ago _ rfl _ rfl l xs ⟨rfl,SqL.of l4,λS1 BX=>?_⟩⟩;generalize g1:upd G' S1 _=G5 at *;obtain⟨s5,c5⟩:=al BX g1;clear g1;rw[atm (dg gM)]at c5;refine(oo _ rfl _ ⟨rfl,sZ2,λS2 pS=>?_⟩);generalize g1:upd G5 S2 _=G6 at *;obtain⟨s6,c6⟩:=al pS g1;clear g1;refine⟨sZ1,λS3 hS3=>?_⟩;generalize g1:upd G6 S3 _=G7 at *;obtain⟨s7,c7⟩:=al hS3 g1;clear g1;refine(mf S1 S3 _ _ ⟨rfl,rfl,s7 _ _<|s6 _ _ c5,c7,dg<|mm<|by rw[b8];simp;lia,λS4 hS4=>?_⟩);generalize g1:upd G7 S4 _=G8 at *;obtain⟨s8,c8⟩:=al hS4 g1;clear g1;have uT:=((s5.trans s6).trans s7).trans s8;refine(og _ rfl _ rfl _ _ rfl rfl _ ⟨rfl,EQ<|l8 l xs ⟨rfl,SqL.of<|uT _ _ l4,λS5 hS5=>?_⟩⟩);generalize g1:upd G8 S5 _=G9 at *;obtain⟨s9,c9⟩:=al hS5 g1;clear g1;have c9:G9 S5=some (.lst<|kO xs (some ((sp+1:Nat):Int)) none):=c9;rw[anj (by lia)]at c9;refine(mf S4 S5 _ _ ⟨rfl,rfl,s9 _ _ c8,c9,dg<|mm<|by rw[be,b8,gm];simp;lia,λS6 DV=>?_⟩);generalize g1:upd G9 S6 _=GA at *;obtain⟨sA,cA⟩:=al DV g1;clear g1;have nQ:=(uT.trans s9).trans sA;have ex4:=rP.trans x4;refine q S6 (L.take sp++[(s2,nq)]++L.drop (sp+1)) n' GA (ex4.trans<|Ex.of_same nQ) (nQ _ _ bP) sH ⟨_,cA,?_⟩ ?_ ?_ ?_
 .rw[bu,bu,List.map_take,List.map_drop];have rN:Rep G6 (pcD (s2,nq)) (.ref S2):=(mq S2 _ rfl c6 _ _ rfl (l8 sb Dm ⟨rfl,(s5.trans s6) _ _ lQ,FA.same<|s5.trans s6⟩) _ ⟨_,rfl,rfl,rfl⟩);exact(((RepAll.take sp lJ).same nQ).snoc (Rep.same (((s7.trans s8).trans s9).trans sA) rN)).append ((RepAll.drop (sp+1) lJ).same nQ)
 .exact xm (ex4.trans<|Ex.of_same<|uT.trans s9) (λe=>by rw[e,(uT.trans s9) _ _ bP]at DV;cases DV) DV
 .exact((hO.up.sub λp hp=>cn hp).app (LyS.one hP2 kJ<|by assumption)).app (hO.up.sub λp hp=>j9 hp)
 .rw[be,be,b8,gm,fq];lia
def aqx{a b:Str}(h:a≠b):bo (.str a) (.str b)=false:=by show(a==b)=false;exact beq_false_of_ne h
def ao1:Sp:=λvs H Q _=>∃(a:aF)(u:Z V)(r:Nat),vs=[.ref a]/\H a=some (.tup (.str (wrd r)::u))/\r<=4/\∀H',Same H H'->Q (.int (r:Nat)) H'
def aso:mj ZU ZU (l0 IB):={}
def aov:∀r≤4,k9 (wrd r)=true:=by decide +kernel
theorem aox:∀r≤4,[PyData.str (bh "piece"),.str<|bh "twice",.str<|bh "bare",.str<|bh "apart",.str<|bh "good"][r]?=some (.str<|wrd r):=λr hr=>by
 match r,hr with
 | 0,_=>rfl
 | 1,_=>rfl
 | 2,_=>rfl
 | 3,_=>rfl
 | 4,_=>rfl
def ata:∀r≤4,∀m<r,wrd m≠wrd r:=by decide +kernel
def aqz(F:Fun K "_law_rank" "_law_rank" IB f fd):qm P w K mg base CX0 1 f fd ZU ao1:=by
 refine F.ok (k:=0) aso (λvs H Q E h=>?_) λbW A outer s H vs Q E hr h=>?_
 .obtain⟨_,_,_,rfl,_⟩:=h;rfl
 obtain⟨a,u,r,rfl,ha,h4,q⟩:=h;have hu:=hr.units;refine⟨_,(lq<|mr<|vn cj PySem.F.slot_list_index PySem.F.type_list_index (ak8 hu) (ot<|lj m9<|lj m9<|lj m9<|lj m9<|lj m9 lc)<|lj (pix nh (pv 0) lh) lc),?_⟩;refine⟨sZ5,λl hl=>?_⟩;generalize g1:upd H l _=H1 at *;obtain⟨s1,e1⟩:=al hl g1;clear g1;refine⟨.inl ⟨rfl,_,SqL.of e1⟩,(lr _ rfl a _ _ _ ⟨rfl,rfl,SqT.of<|s1 _ _ ha,lv (j:=0) rfl,?_⟩)⟩;refine(lw l _ _ ([.str (bh "piece"),.str<|bh "twice",.str<|bh "bare",.str<|bh "apart",.str<|bh "good"]) (.str<|wrd r) ⟨r,rfl,rfl,e1,(mq _ _ rfl ⟨rfl,by decide +kernel⟩ _ _ rfl ⟨rfl,by decide +kernel⟩ _<|np _ rfl ⟨rfl,by decide +kernel⟩ _<|np _ rfl ⟨rfl,by decide +kernel⟩ _ ⟨_,rfl,⟨rfl,by decide +kernel⟩,rfl⟩),⟨rfl,aov r h4⟩,by simp[jy],⟨_,aox r h4,SeqAt.eqv_refl _<|aov r h4⟩,λm e hm he=>?_,by lia,q H1 s1⟩);rw[aox m (by lia)]at he;cases he;exact aqx<|ata r h4 m hm
structure Cs(G:Hp)(kd lt e:aF)(kvs eQ:Z V)(ks:Z (Z U×Nat))(aX:Z (Int×Option Int))(ads:Z U)(cs:Z Nat):Prop where
 kd:G kd=some (.lst kvs)
 kn:Kn G kvs ks aX
 e:G e=some (.tup eQ)
 r:RepAll G ads eQ
 lt:G lt=some (.lst<|nB cs)
def Cs.go{G G':Hp}{kd lt e:aF}{kvs eQ:Z V}{ks:Z (Z U×Nat)}{aX:Z (Int×Option Int)}{ads:Z U}{cs:Z Nat}(c:Cs G kd lt e kvs eQ ks aX ads cs)(im:o9 ads=true)(t:Tk G G')(h1:G' kd=G kd)(h2:G' lt=G lt):Cs G' kd lt e kvs eQ ks aX ads cs:=⟨h1.trans c.kd,c.kn.tk t,t _ _ c.e,c.r.tk t im,h2.trans c.lt⟩
theorem Cs.same{G G':Hp}{kd lt e:aF}{kvs eQ:Z V}{ks:Z (Z U×Nat)}{aX:Z (Int×Option Int)}{ads:Z U}{cs:Z Nat}(c:Cs G kd lt e kvs eQ ks aX ads cs)(s:Same G G'):Cs G' kd lt e kvs eQ ks aX ads cs:=⟨s _ _ c.kd,c.kn.same s,s _ _ c.e,c.r.same s,s _ _ c.lt⟩
noncomputable abbrev Sx:=aF×aF×Mat×Z Pc
structure Si(G:Hp)(h nk:Nat)(x:Sx):Prop where
 fl:FlM G x.1 x.2.2.1
 hh:x.2.2.1.h=h
 w3:x.2.2.1.w<=3
 ly:LyH G x.2.1 x.2.2.2
 s:LyS nk (x.2.2.1.w+1) x.2.2.2
 l7:x.2.2.2.length<=7
def LyH.keep{G G':Hp}{l:aF}{L:Z Pc}{nk:Nat}(h:LyH G l L)(hO:LyO nk L)(t:Tk G G')(e:G' l=G l):LyH G' l L:=by obtain⟨xs,h1,h2⟩:=h;exact⟨xs,e.trans h1,h2.tk t<|PlD.imm hO.pl⟩
def Si.go{G G':Hp}{h nk:Nat}{x:Sx}(a:Si G h nk x)(t:Tk G G')(e:G' x.2.1=G x.2.1):Si G' h nk x:=⟨⟨t _ _ a.fl.1,a.fl.2⟩,a.hh,a.w3,a.ly.keep a.s.1 t e,a.s,a.l7⟩
def LyH.nn{G:Hp}{l:aF}{L:Z Pc}(h:LyH G l L):∃o,G l=some o:=by obtain⟨xs,h,_⟩:=h;exact⟨_,h⟩
def sU{st b:aF}{G G':Hp}(x:Ex [st] G G')(hb:b≠st)(h:∃o,G b=some o):G' b=G b:=by obtain⟨o,h⟩:=h;rw[h];exact x.at hb h
noncomputable def rkS(ks:Z (Z U×Nat))(ads:Z U)(x:Sx):V:=.int (rk x.2.2.1 ks ads x.2.2.2:Nat)
structure Lp(G:Hp)(h:Nat)(st kd lt e F S R:aF)(n kvs eQ:Z V)(ks:Z (Z U×Nat))(aX:Z (Int×Option Int))(ads:Z U)(cs:Z Nat)(sd:Z Sx):Prop where
 t:G st=some (.lst n)
 sl:StL n
 c:Cs G kd lt e kvs eQ ks aX ads cs
 fF:G F=some (.lst<|sd.map λx=>V.ref x.1)
 fS:G S=some (.lst<|sd.map λx=>V.ref x.2.1)
 fR:G R=some (.lst<|sd.map<|rkS ks ads)
 i:∀x∈sd,Si G h ks.length x
 o:∀x∈sd,x.2.1≠st/\x.2.1≠F/\x.2.1≠S/\x.2.1≠R
def rk4(M:Mat)(ks:Z (Z U×Nat))(ads:Z U)(L:Z Pc):rk M ks ads L<=4:=by
 unfold rk;split
 .decide
 split
 .decide
 split
 .decide
 split<;>decide
def auf{H:Hp}{v:V}{M:Mat}{ks:Z (Z U×Nat)}{ads:Z U}{aX:Z (Int×Option Int)}{L:Z Pc}(hK:KsZ ks)(hO:LyO ks.length L)(hw:0<M.w)(hl:∀q∈aX,q=(0,none))(r:Rep H (uF M ks ads aX L) v):∃a u,v=.ref a/\H a=some (.tup (.str (wrd<|rk M ks ads L)::u)):=by obtain⟨ds,e⟩:=atu (ads:=ads) hK hO hw hl;rw[e]at r;obtain⟨a,xs,rfl,ha,x,r',rfl,hx,_⟩:=r;exact(l8 a r' ⟨rfl,by rw[<-hx.1];exact ha⟩)
def aqi{A B:Mat}(hh:A.h=B.h){i:Nat}(hi:i<A.h):(qz<|jn A B)[i]?=some ((⟨(ox A i).toArray⟩:Str)++bh "#" ++ (⟨(ox B i).toArray⟩:Str)):=by
 rw[Fa (M:=jn A B) hi];have e:ox (jn A B) i=ox A i++[35]++ox B i:=by
  unfold ox;show(cp<|A.w+1+B.w).map _=_;rw[List.range_add,bu,jo,bu,bm];have e1:(cp A.w).map ((jn A B).g i)=(cp A.w).map (A.g i):=dv λc hc=>if_pos<|gg.mp hc;have e2:[A.w].map ((jn A B).g i)=[35]:=by show[(jn A B).g i A.w]=_;rw[EA]
  have e3:(cp B.w).map ((jn A B).g i∘(λx=>A.w+1+x))=(cp B.w).map (B.g i):=dv λc _=>by show(jn A B).g i (A.w+1+c)=_;rw[Nat.add_comm];exact Ci
  rw[e1,e2,e3]
 have Ab:bh "#" = ⟨#[35]⟩:=by decide +kernel
 rw[e,Ab];show some (⟨_⟩:Str)=some (⟨(ox A i).toArray ++ #[35]++(ox B i).toArray⟩:Str)
 congr 2
 simp
def avy{A B:Mat}(oA:OkM SgP A)(oB:OkM SgP B)(hh:A.h=B.h)(wA:A.w<=3)(wB:B.w<=3):OkM SgP (jn A B):=by
 refine⟨oA.h1,oA.h8,by show 0<A.w+1+B.w;lia,by show A.w+1+B.w<=8;lia,λr c hr hc=>?_⟩;have hr:r<A.h:=hr;have hc:c<A.w+1+B.w:=hc;by_cases h1:c<A.w
 .have e:(jn A B).g r c=A.g r c:=if_pos h1;rw[e];exact oA.sg r c hr h1
 .by_cases h2:c=A.w
  .rw[h2,EA];show sgB 35=true;decide
  .rw[show c=c-(A.w+1)+(A.w+1) by lia,Ci];exact oB.sg r _ (by lia)<|by lia
def ED(K:av):Sp:=λvs H Q _=>∃(a:aF)(ns:Z Int),vs=[.ref a]/\SqL K H a (ns.map V.int)/\ns.length<=63/\∀H',Q (.bl true) H'
def scLaw:mj ["_law_script","_law_state","_law_letters_here","_law_kinds_here","_law_high","_law_pairs_here","_law_floors","_law_sides","_law_ranks","_law_k","_law_wide","_law_floor","_law_laid","_law_rows","_law_shift","_law_both","_law_spots","_law_number"] Z4 (l0 An):={}
theorem as8(B:∀x∈sk,mg x=none)(bE:yp P w K mg base)(KH:Fn P w K mg base "_law_drawn" 1 Z4 (atj K))(KF:Fn P w K mg base "_law_letters" 2 ["_law_state"] asw)(yO:Fn P w K mg base "_law_kinds" 3 ZP ak3)(Kx:Fn P w K mg base "_law_pairs" 2 ZO at3)(C6:Fn P w K mg base "_law_half" 5 ZN aoj)(Kv:Fn P w K mg base "_law_spoilt" 5 ZM auh)(wH:Fn P w K mg base "_law_rank" 1 ZU ao1)(C0:Fn P w K mg base "judged" 8 Z9 ar7)(F:Fun K "law" "law" An f fd):qm P w K mg base CX0 9 f fd Z4 (ED K):=by
 refine F.ok (k:=8) scLaw (λvs H Q E h=>?_) λbW A outer s H vs Q E hr h=>?_
 .obtain⟨a,ns,rfl,_⟩:=h;rfl
 obtain⟨a,ns,rfl,ha,h63,q⟩:=h;have hu:=hr.units;refine⟨_,(lg (psN 1 scLaw.nd<|pfn KH<|lj (pv 0) lc)
  (lg (psN 2 scLaw.nd<|pfn KF<|lj (pv 1) lc)
  (lg (psN 3 scLaw.nd<|pfn yO<|lj (pv 1)<|lj (pv 2)<|lj lh<|lj lh<|lj aw8 lc)
  (lg (psN 4 scLaw.nd<|nj pj lh<|pfn bE<|lj (pv 1)<|lj lh lc)
  (lg (psN 5 scLaw.nd<|pfn Kx<|lj (pv 1)<|lj (pv 2) lc)
  (lg (psN 6 scLaw.nd<|ot lc)
  (lg (psN 7 scLaw.nd<|ot lc)
  (lg (psN 8 scLaw.nd<|ot lc)
  (lg (pfo (pR1<|lj lh lc) (pgN 9 scLaw.nd) (lg (psN 10 scLaw.nd<|nj pj lh<|pfn bE<|lj (pv 1)<|lj lh lc)
  (lg (EY (pfn C6<|lj (pv 1)<|lj (pv 3)<|lj (pv 2)<|lj (pv 4)<|lj (pv 10) lc)<|si (n:=2) rfl<|ln (pgN 11 scLaw.nd)<|ln (pgN 12 scLaw.nd) ni)
  (lg (rg (nv xt (pfn bE<|lj (pv 1)<|lj lh lc) lh<|oh _) (lq<|psN 12 scLaw.nd<|pfn Kv<|lj (pv 1)<|lj (pv 12)<|lj (pv 3)<|lj (pv 2)<|lj (pv 4)<|lj (pv 10) lc) o0)
  (lg (qr<|vn cj gc gd pq (pv 6)<|lj (pv 11) lc)
  (lg (qr<|vn cj gc gd pq (pv 7)<|lj (pv 12) lc)
  (lq<|qr<|vn cj gc gd pq (pv 8)<|lj (pfn wH<|lj (pfn C0<|lj (my<|lj (pv 11)<|lj (pCT m7 ku<|lj (pv 3) lc)<|lj (pv 5) lc)<|lj (pCT ut Et<|lj (pv 12) lc) lc) lc) lc)))))))
  (lg (psC 13 ["_law_one","_law_other"] [none,none] scLaw.nd (awf false false rfl (B "zip"<|by decide)<|lj (pix mx (pv 6) lh)<|lj (pix mx (pv 6) lh) lc) (λ_=>(ph (n:=2) rfl<|ln (pgC 0)<|ln (pgC 1) ni)) (λ_=>om) λ_=>(nj ux (nj ux (pv 0) m9)<|pv 1))
  (lg (wz (i:=14) scLaw.nd rfl (Or.inr rfl)<|nj pj (pCB rh fy<|lj (pix nh (pix mx (pv 6) lh) lh) lc) lh)
  (lg (psN 15 scLaw.nd<|pCT ut Et<|lj (pix mx (pv 7) lh) lc)
  (lg (pfo (o7<|pix mx (pv 7) lh) (si (n:=2) rfl<|ln (pgN 16 scLaw.nd)<|ln (pgN 17 scLaw.nd) ni)<|lq<|qr<|vn cj gc gd pq (pv 15)<|lj (my<|lj (pCT m7 ku<|lj (pcm ["_law_row","_law_column","_law_sign","_law_shift"] [none,none,none,some 14] (wl<|pv 16) (λ_=>(ph (n:=3) rfl<|ln (pgC 0)<|ln (pgC 1)<|ln (pgC 2) ni)) (λ_=>om) λ_=>(my<|lj (pv 0)<|lj (nj pj (pv 1)<|pv 3)<|lj (pv 2) lc)) lc)<|lj (pv 17) lc) lc)
  (lq<|mr<|sw xt (pfn wH<|lj (pfn C0<|lj (my<|lj (pCT m7 ku<|lj (pv 13) lc)<|lj (pCT m7 ku<|lj (pv 3) lc)<|lj (pv 5) lc)<|lj (pv 15) lc) lc) (pCB (zt rfl) boot_min<|lj (pv 8) lc)<|oh _)))))))))))))),?_⟩
 refine(nu _ rfl a ns ⟨rfl,ha,h63,λst n1 H1 s1 Gc gO iN=>?_⟩);refine(nu _ rfl st n1 ⟨rfl,gO,iN,λlt cs n2 H2 jX mC x2 dL kJ iL bQ=>?_⟩);refine(mh _ rfl _ rfl st lt n2 ⟨cs,rfl,dL,kJ,bQ,jX,mC,iL,λkd H3 n3 kvs ks aX x3 dI jI xJ sK hK mL xK=>?_⟩);have lK:kd≠st:=λe=>by rw[e,dL]at xJ;cases xJ
 refine(oj _ rfl st n3 4 ⟨rfl,dI,jI,by decide,by decide,λn4 i4 H4 x4 bP sH B6 h41=>(l8 _ _ ⟨rfl,rfl,?_⟩)⟩);obtain⟨m4,rfl⟩:=cc B6;have FN:=x4.at iL<|x3.at iL bQ;refine(mh _ rfl _ rfl st lt n4 ⟨cs,rfl,bP,sH,FN,jX,mC,λe H5 n5 eQ ads x5 eZ lU he rA wS=>?_⟩);have C5:Cs H5 kd lt e kvs eQ ks aX ads cs:=⟨x5.at lK<|x4.at lK sK,(hK.tk<|x4.one dI).tk (x5.one bP),he,rA,x5.at iL FN⟩;have pT:=hK.k.z;have hlz:=hK.z;clear s1 Gc gO iN x2 dL kJ bQ x3 dI jI xJ sK hK x4 bP sH FN x5 he rA ha;refine⟨sZ0,λF hF=>?_⟩;generalize g1:upd H5 F _=H6 at *;obtain⟨s6,f6⟩:=al hF g1;clear g1;refine⟨sZ0,λS hS=>?_⟩;generalize g1:upd H6 S _=H7 at *;obtain⟨s7,f7⟩:=al hS g1;clear g1;refine⟨sZ0,λR hR=>?_⟩;generalize g1:upd H7 R _=H8 at *;obtain⟨s8,f8⟩:=al hR g1;clear g1;have ne:∀{G:Hp} {x y:aF} {o:HO},G x=some o->G y=none->x≠y:=λh1 h2 e=>by rw[e,h2]at h1;cases h1
 have a1:=ne eZ hF;have a2:=ne C5.kd hF;have a3:=ne C5.lt hF;have b1:=ne (s6 _ _ eZ) hS;have b2:=ne (s6 _ _ C5.kd) hS;have b3:=ne (s6 _ _ C5.lt) hS;have b4:=ne f6 hS;have AV:=s6.trans s7;have c1:=ne (AV _ _ eZ) hR;have c2:=ne (AV _ _ C5.kd) hR;have c3:=ne (AV _ _ C5.lt) hR;have c4:=ne (s7 _ _ f6) hR;have c5:=ne f7 hR;clear ne;have wL:=AV.trans s8;have L0:Lp H8 (1+m4) st kd lt e F S R n5 kvs eQ ks aX ads cs []:=⟨wL _ _ eZ,lU,C5.same wL,s8 _ _<|s7 _ _ f6,s8 _ _ f7,f8,(λx hx=>by cases hx),λx hx=>by cases hx⟩;clear s6 s7 s8 AV wL f6 f7 f8 hF hS hR C5 eZ lU;have xO:0<1+m4:=by lia
 have xN:1+m4<=8:=by lia
 have eh:(1:Int)+(m4:Nat)=((1+m4:Nat):Int):=by lia
 refine⟨2,rfl,by decide,by decide,?_⟩;refine qq (n:=2) (lo:=0) (λi σ' G=>∃(y9 jZ iS iR:Option V)(n:Z V)(sd:Z Sx),σ'=[some (.ref a),some<|.ref st,some<|.ref lt,some<|.ref kd,some<|.int<|1+(m4:Nat),some<|.ref e,some<|.ref F,some<|.ref S,some<|.ref R,y9,jZ,iS,iR,none,none,none,none,none]/\Lp G (1+m4) st kd lt e F S R n kvs eQ ks aX ads cs sd/\sd.length=i) ?_ (λi σ' G hi hI=>?_) λσ' G hI=>?_
 .exact(lw _ _ _ _ n5 ⟨[],rfl,L0,rfl⟩)
 .obtain⟨y9,jZ,iS,iR,n,sd,rfl,I,DG⟩:=hI;clear L0;refine(oj _ rfl st n 3 ⟨rfl,I.t,I.sl,by decide,by decide,λn1 i1 G1 x1 gO iN yD Ef=>(l8 _ _ ⟨rfl,rfl,?_⟩)⟩);obtain⟨m1,rfl⟩:=cc yD;have C1:=I.c.go wS (x1.one I.t) (sU x1 lK ⟨_,I.c.kd⟩)<|sU x1 iL ⟨_,I.c.lt⟩;refine(qi _ rfl _ rfl _ ⟨rfl,(mh _ rfl _ rfl st kd lt<|lw (1+m4) (1+m1) n1 kvs ks<|l8 aX cs ⟨by rw[eh];rfl,gO,iN,C1.kd,lK,C1.kn,mL,xK,C1.lt,jX,mC,iL,xO,xN,by lia,by lia,λr fl ly G2 n2 M L x2 dL kJ zM lW eM ew hly tQ hO h6 xW=>?_⟩)⟩);refine(me r _ rfl (SqT.of zM) rfl _ _ rfl _ ⟨_,rfl,rfl,?_⟩);have C2:=C1.go wS (x2.one gO) (sU x2 lK ⟨_,C1.kd⟩)<|sU x2 iL ⟨_,C1.lt⟩;have nly:ly≠st:=λe=>by rw[e,gO]at tQ;cases tQ
  dsimp only[rq];refine Kb (λσ' G'=>∃(l':aF)(L':Z Pc)(n':Z V),σ'=[some (.ref a),some<|.ref st,some<|.ref lt,some<|.ref kd,some<|.int<|1+(m4:Nat),some<|.ref e,some<|.ref F,some<|.ref S,some<|.ref R,some<|.int<|0+(i:Nat),some<|.int<|1+(m1:Nat),some<|.ref fl,some<|.ref l',none,none,none,none,none]/\Ex [st] G2 G'/\G' st=some (.lst n')/\StL n'/\LyH G' l' L'/\G1 l'=none/\LyS ks.length (1+m1+1) L'/\L'.length<=7) ?_ λDh kH tF=>?_
  case' refine_2=>
   refine(oj _ rfl st n2 2 ⟨rfl,dL,kJ,by decide,by decide,λn3 i3 G3 x3 dI jI _ _=>⟨rfl,_,rfl,?_⟩⟩);have Bu:=hly.keep hO (x3.one dL)<|sU x3 nly hly.nn;have C3:=C2.go wS (x3.one dL) (sU x3 lK ⟨_,C2.kd⟩)<|sU x3 iL ⟨_,C2.lt⟩;refine sr (λ_=>?_) λ_=>?_
   .refine(qi _ rfl _ rfl _ ⟨rfl,(pf _ rfl _ rfl _ rfl st ly<|lw kd lt (1+m4) (1+m1) n3<|lw kvs ks aX cs L ⟨by rw[eh];rfl,dI,jI,Bu,nly,⟨hO,xW⟩,h6,C3.kd,lK,C3.kn,mL,xK,C3.lt,jX,mC,iL,xO,xN,by lia,by lia,λl' L' n' G4 x4 bP sH rD lV gX h7=>?_⟩)⟩);have nl':l'≠st:=λe=>by rw[e,dI]at lV;cases lV
    exact kH _ _<|mz l' L' n' ⟨rfl,x3.trans x4,bP,sH,rD,xm x2 nl'<|xm x3 nl' lV,gX,h7⟩
   .exact kH _ _<|mz ly L n3 ⟨rfl,x3,dI,jI,Bu,tQ,LyS.up ⟨hO,xW⟩,by lia⟩
  rintro σ' G3 ⟨l',L',n',rfl,x3,dI,jI,rD,lV,gX,h7⟩;have x13:=x2.trans x3;have xA:=x1.trans x13;have tA:Tk G G3:=xA.one I.t;have C3:=I.c.go wS tA (sU xA lK ⟨_,I.c.kd⟩)<|sU xA iL ⟨_,I.c.lt⟩;have F3:=xA.at (Ne.symm a1) I.fF;have S3:=xA.at (Ne.symm b1) I.fS;have R3:=xA.at (Ne.symm c1) I.fR;have I3:∀x∈sd,Si G3 (1+m4) ks.length x:=λx hx=>(I.i x hx).go tA (sU xA (I.o x hx).1 (I.i x hx).ly.nn);have Eh:FlM G3 fl M:=⟨x3.one dL _ _ lW.1,lW.2⟩;have lF:l'≠F:=λe=>by rw[e,x1.at (Ne.symm a1) I.fF]at lV;cases lV
  have lS:l'≠S:=λe=>by rw[e,x1.at (Ne.symm b1) I.fS]at lV;cases lV
  have lR:l'≠R:=λe=>by rw[e,x1.at (Ne.symm c1) I.fR]at lV;cases lV
  have FO:l'≠st:=λe=>by rw[e,gO]at lV;cases lV
  have ho:=I.o;clear I C1 C2 hly zM x1 x2 x3 x13 xA tA lV gO dL iN kJ lW hO h6 xW tQ;have lsd:sd.length<=2:=by lia
  refine(ql _ rfl (.inl ⟨rfl,_,SqL.of F3⟩) _ rfl F _ (.ref fl) ⟨rfl,rfl,F3,mm<|by rw[ae];lia,?_⟩);have eF:(sd.map λx=>V.ref x.1)++[.ref fl]=(sd++[(fl,l',M,L')]).map λx=>V.ref x.1:=by rw[bu];rfl
  rw[eF];have t4:Tk G3 (upd G3 F<|.lst<|(sd++[(fl,l',M,L')]).map λx=>V.ref x.1):=Tk.lst F3;have C4:=C3.go wS t4 (ma a2)<|ma a3;have I4:∀x∈sd,Si (upd G3 F<|.lst<|(sd++[(fl,l',M,L')]).map λx=>V.ref x.1) (1+m4) ks.length x:=λx hx=>(I3 x hx).go t4 (ma (ho x hx).2.1);have l4:=rD.keep gX.1 t4<|ma lF;have fl4:=t4 _ _ Eh.1;have F4:upd G3 F (.lst<|(sd++[(fl,l',M,L')]).map λx=>V.ref x.1) F=some (.lst<|(sd++[(fl,l',M,L')]).map λx=>V.ref x.1):=l9;have S4:upd G3 F (.lst<|(sd++[(fl,l',M,L')]).map λx=>V.ref x.1) S=some (.lst<|sd.map λx=>V.ref x.2.1):=by rw[ma (Ne.symm b4)];exact S3
  have R4:upd G3 F (.lst<|(sd++[(fl,l',M,L')]).map λx=>V.ref x.1) R=some (.lst<|sd.map<|rkS ks ads):=by rw[ma (Ne.symm c4)];exact R3
  have bP:upd G3 F (.lst<|(sd++[(fl,l',M,L')]).map λx=>V.ref x.1) st=some (.lst n'):=by rw[ma a1];exact dI
  generalize upd G3 F _=G4 at *;clear t4 C3 I3 rD F3 S3 R3 dI;refine(ql _ rfl (.inl ⟨rfl,_,SqL.of S4⟩) _ rfl S _ (.ref l') ⟨rfl,rfl,S4,mm<|by rw[ae];lia,?_⟩);have eS:(sd.map λx=>V.ref x.2.1)++[.ref l']=(sd++[(fl,l',M,L')]).map λx=>V.ref x.2.1:=by rw[bu];rfl
  rw[eS];have t5:Tk G4 (upd G4 S<|.lst<|(sd++[(fl,l',M,L')]).map λx=>V.ref x.2.1):=Tk.lst S4;have C5:=C4.go wS t5 (ma b2)<|ma b3;have I5:∀x∈sd,Si (upd G4 S<|.lst<|(sd++[(fl,l',M,L')]).map λx=>V.ref x.2.1) (1+m4) ks.length x:=λx hx=>(I4 x hx).go t5 (ma (ho x hx).2.2.1);have l5:=l4.keep gX.1 t5<|ma lS;have fl5:=t5 _ _ fl4;have S5:upd G4 S (.lst<|(sd++[(fl,l',M,L')]).map λx=>V.ref x.2.1) S=some (.lst<|(sd++[(fl,l',M,L')]).map λx=>V.ref x.2.1):=l9;have F5:upd G4 S (.lst<|(sd++[(fl,l',M,L')]).map λx=>V.ref x.2.1) F=some (.lst<|(sd++[(fl,l',M,L')]).map λx=>V.ref x.1):=by rw[ma b4];exact F4
  have R5:upd G4 S (.lst<|(sd++[(fl,l',M,L')]).map λx=>V.ref x.2.1) R=some (.lst<|sd.map<|rkS ks ads):=by rw[ma (Ne.symm c5)];exact R4
  have eZ:upd G4 S (.lst<|(sd++[(fl,l',M,L')]).map λx=>V.ref x.2.1) st=some (.lst n'):=by rw[ma b1];exact bP
  generalize upd G4 S _=G5 at *;clear t5 C4 I4 l4 F4 S4 R4 bP fl4;refine(np _ rfl (.inl ⟨rfl,_,SqL.of R5⟩) _ ⟨rfl,(nu _ rfl kd _ ⟨rfl,.inl ⟨SqL.of C5.kd,λt ht=>?_⟩⟩)⟩);generalize g1:upd G5 t _=G6 at *;obtain⟨s6,e6⟩:=al ht g1;clear g1;refine⟨_,rfl,sZ3,λpz Go=>?_⟩;generalize g1:upd G6 pz _=G7 at *;obtain⟨s7,e7⟩:=al Go g1;clear g1;have s57:=s6.trans s7;obtain⟨lxs,hlx,rlx⟩:=id<|l5.same s57;refine(nu _ rfl l' _ ⟨rfl,.inl<|SqL.of hlx,λhd hhd=>?_⟩);generalize g1:upd G7 hd _=G8 at *;obtain⟨s8,e8⟩:=al hhd g1;clear g1;have uT:=s57.trans s8;have C8:=C5.same uT;refine(lw pz hd M ks aX<|l8 ads L' ⟨rfl,(lw fl t e kvs eQ ⟨s8 _ _ e7,⟨uT _ _ fl5,Eh.2⟩,s8 _ _<|s7 _ _ e6,C8.kn.k,by lia,C8.kn.b,C8.e,C8.r⟩),⟨lxs,e8,rlx.same s8⟩,gX.1,by lia,(λ_ _=>trivial),λv G9 s9 rv=>?_⟩);obtain⟨va,vu,rfl,F0⟩:=auf pT gX.1 Eh.2.w1 hlz rv;refine(mz va vu _ ⟨rfl,F0,rk4 _ _ _ _,λGA sA=>?_⟩);have nQ:=(uT.trans s9).trans sA;have RA:=nQ _ _ R5;refine(mz R _ (.int (rk M ks ads L':Nat)) ⟨rfl,rfl,RA,mm<|by rw[ae];lia,?_⟩);have eR:(sd.map<|rkS ks ads)++[V.int (rk M ks ads L':Nat)]=(sd++[(fl,l',M,L')]).map (rkS ks ads):=by rw[bu];rfl
  rw[eR];have tR:Tk GA (upd GA R<|.lst<|(sd++[(fl,l',M,L')]).map (rkS ks ads)):=Tk.lst RA;refine(lw _ _ _ _ n' ⟨sd++[(fl,l',M,L')],rfl,⟨by rw[ma c1];exact nQ _ _ eZ,jI,(C5.same nQ).go wS tR (ma c2) (ma c3),by rw[ma c4];exact nQ _ _ F5,by rw[ma c5];exact nQ _ _ S5,l9,λx hx=>?_,λx hx=>?_⟩,by rw[be,DG];rfl⟩)
  .rcases ay.mp hx with hx|hx
   .refine(I5 x hx).go (Tk.trans (Tk.of_same nQ) tR) ?_;rw[ma (ho x hx).2.2.2];obtain⟨o,h⟩:=(I5 x hx).ly.nn;rw[h];exact nQ _ _ h
   .rw[ar.mp hx];exact⟨⟨tR _ _<|nQ _ _ fl5,Eh.2⟩,eM,by show M.w<=3;lia,(l5.same nQ).keep gX.1 tR (ma lR),by show LyS ks.length (M.w+1) L';rw[ew];exact gX,h7⟩
  .rcases ay.mp hx with hx|hx
   .exact ho x hx
   .rw[ar.mp hx];exact⟨FO,lF,lS,lR⟩
 obtain⟨y9,jZ,iS,iR,n,sd,rfl,I,DG⟩:=hI;clear L0;obtain⟨⟨f1,l1,M1,L1⟩,⟨f2,l2,M2,L2⟩,rfl⟩:∃x y,sd=[x,y]:=by
  match sd,DG with
  | [x,y],_=>exact(l8 x y rfl)
 have i1:=I.i _ ao;have i2:=I.i _<|au _ ao;have fF:=I.fF;have fS:=I.fS;have fR:=I.fR;have C:=I.c;clear I DG;have hh:M1.h=M2.h:=i1.hh.trans i2.hh.symm;have o1:=i1.fl.2;have o2:=i2.fl.2;have lz:∀(M:Mat)(r:Nat),M.w<=3->(⟨(ox M r).toArray⟩:Str).length<=3:=λM r h=>by rw[qb];exact h
 refine(lr _ rfl F _ _ _ ⟨rfl,rfl,SqL.of fF,lv (j:=0) rfl,(lr _ rfl F _ _ _ ⟨rfl,rfl,SqL.of fF,lv (j:=1) rfl,(mf f1 f2 _ _ ⟨rfl,i1.fl.1,i2.fl.1,λD hD=>?_⟩)⟩)⟩);refine aq0 (t1:=false) (t2:=false) (xs:=(qz M1).map V.str) (ys:=(qz M2).map V.str) (λi zs J=>Same G J/\zs=((qz<|jn M1 M2).take i).map V.str) ⟨Same.fresh _ hD,rfl⟩ (λi zs J p=>⟨p.1 _ _ i1.fl.1,p.1 _ _ i2.fl.1⟩) (λi x y p zs J hx hy hp bJ dP pp=>?_) λzs J bJ dP pp=>?_
 .obtain⟨p1,rfl⟩:=pp;have hi:i<M1.h:=by have:=(aj.mp hx).1;rw[ae,p8]at this;exact this
  rw[y0 hi]at hx;rw[y0 (M:=M2) (by lia)]at hy;cases hx;cases hy;generalize g1:upd J p _=J1 at *;obtain⟨t1,u1⟩:=al hp g1;clear g1;refine(me p _ rfl (SqT.of u1) rfl _ _ rfl _ ⟨_,rfl,rfl,?_⟩);refine⟨Agree.set (Agree.set (Agree.refl _) rfl) rfl,?_⟩;dsimp only[jY];refine xy ?_;have z1:=lz M1 i i1.w3;have z2:=lz M2 i i2.w3;have e1:(bh "#").length=1:=by decide +kernel
  have e2:((⟨(ox M1 i).toArray⟩:Str)++bh "#").length=(⟨(ox M1 i).toArray⟩:Str).length+1:=by show((ox M1 i).toArray++(bh "#").cps).size=_;rw[Array.size_append];exact congrArg _ e1
  refine(uw _ rfl _ _ rfl rfl (by rw[e1];exact dg<|mm<|by lia) _ ⟨rfl,(l8 _ _ ⟨rfl,rfl,by rw[e2];exact dg<|mm<|by lia,?_⟩)⟩);have h8:M1.h<=8:=o1.h8;refine p9 (by lia) (t1 _ _ bJ) dP ⟨(p1.trans t1).new hD,?_⟩;rw[List.take_add_one,aqi hh hi,bu];rfl
 obtain⟨sJ,rfl⟩:=pp;have em:hX ((qz M1).map V.str).length ((qz M2).map V.str).length=M1.h:=by rw[ae,ae,p8,p8];lia
 rw[em,bi<|by rw[p8];exact am _]at bJ;have fF:=sJ _ _ fF;have fS:=sJ _ _ fS;have fR:=sJ _ _ fR;have C:=C.same sJ;have g1:FlM J f1 M1:=i1.fl.same sJ;obtain⟨Fm,gR,eJ⟩:=i1.ly.same sJ;obtain⟨yS,fP,dW⟩:=i2.ly.same sJ;have gR:J l1=some (.lst Fm):=gR;have fP:J l2=some (.lst yS):=fP;have eJ:RepAll J (L1.map pcD) Fm:=eJ;have dW:RepAll J (L2.map pcD) yS:=dW;have s1:LyS ks.length (M1.w+1) L1:=i1.s;have s2:LyS ks.length (M2.w+1) L2:=i2.s;have w1:M1.w<=3:=i1.w3;have w2:M2.w<=3:=i2.w3;have h71:L1.length<=7:=i1.l7;have h72:L2.length<=7:=i2.l7;clear dP em i1 i2 sJ hD;refine(lr _ rfl F _ _ _ ⟨rfl,rfl,SqL.of fF,lv (j:=0) rfl,(mf f1 _ _ _ ⟨rfl,rfl,SqT.of g1.1,lv (j:=0)<|y0 o1.h1,(np _ rfl (by rw[qb];exact ao9 o1) _ ⟨_,rfl,rfl,?_⟩)⟩)⟩);have Hy:(((⟨(ox M1 0).toArray⟩:Str).length:Nat):Int)+1=((M1.w+1:Nat):Int):=by rw[qb];lia
 refine(lr _ rfl S _ _ _ ⟨rfl,rfl,SqL.of fS,lv (j:=0) rfl,(l8 l1 _ ⟨rfl,.inl<|SqL.of gR,λBo hBo=>?_⟩)⟩);generalize g2:upd J Bo _=J1 at *;obtain⟨t1,u1⟩:=al hBo g2;clear g2;have lx1:=eJ.length;have lx2:=dW.length;rw[ae]at lx1 lx2;refine(lr _ rfl S _ _ _ ⟨rfl,rfl,SqL.of<|t1 _ _ fS,lv (j:=1) rfl,l2,rfl,⟨_,SqL.of<|t1 _ _ fP⟩,?_⟩);have imB:∀i,o9 ((L1++(L2.take i).map (shP<|M1.w+1)).map pcD)=true:=λi=>PlD.imm<|LyO.pl (nk:=ks.length) λp hp=>by
  rcases ay.mp hp with h|h
  .exact s1.1 p h
  .obtain⟨p,h',rfl⟩:=aw.mp h;have:=s2.1 p<|cn h';exact⟨this.1.sh _,this.2⟩
 refine rn (xs:=yS) (λi σ' W=>∃(qB Fi:Option V)(bs:Z V),σ'=[some (.ref a),some<|.ref st,some<|.ref lt,some<|.ref kd,some<|.int<|1+(m4:Nat),some<|.ref e,some<|.ref F,some<|.ref S,some<|.ref R,y9,jZ,iS,iR,some<|.ref D,some<|.int<|((⟨(ox M1 0).toArray⟩:Str).length:Nat)+1,some<|.ref Bo,qB,Fi]/\Same J W/\W Bo=some (.lst bs)/\RepAll W ((L1++(L2.take i).map (shP<|M1.w+1)).map pcD) bs) ?_ (λi σ' W hi hI=>?_) (λi x σ' W hx hI=>?_) λσ' W hI=>?_
 .exact(mz _ _ Fm ⟨rfl,t1,u1,by rw[List.take_zero,List.map_nil,ff];exact eJ.same t1⟩)
 .obtain⟨_,_,_,_,sW,_⟩:=hI;exact SqL.of<|sW _ _ fP
 .obtain⟨qB,Fi,bs,rfl,sW,hB,rB⟩:=hI;obtain⟨p,hp,rd⟩:=Au dW hx;have lB:=(s2.1 p<|ak hp).1;obtain⟨b,eb,gE,rfl,hb,jV,cI⟩:=AC<|Rep.same sW rd;have le:=cI.length;rw[ae]at le;have h6:=lB.2.2;have mW:i<yS.length:=(aj.mp hx).1;refine(me b _ rfl (SqT.of hb) rfl _ _ rfl _ ⟨_,rfl,rfl,?_⟩);refine(np _ rfl (.inl ⟨rfl,_,SqL.of hB⟩) _ ⟨rfl,eb,rfl,⟨_,SqT.of jV⟩,λD2 eG=>?_⟩);refine tf (xs:=gE) (λk zs Y=>Same W Y/\RepAll Y ((p.1.take k).map λs=>sgD<|shS (M1.w+1) s) zs) ⟨Same.fresh _ eG,rfl⟩ (λk zs Y p=>SqT.of<|p.1 _ _ jV) (λk x zs Y hx hk tY dP pp=>?_) λzs Y tY dP pp=>?_
  .obtain⟨p1,p2⟩:=pp;obtain⟨sg,b',hs,rfl,dS⟩:=yL cI hx;have hL:=lB.1 sg<|ak hs;refine(me b' _ rfl (SqT.of<|p1 _ _ dS) rfl _ _ rfl _<|nu _ rfl _ _ ⟨rfl,rfl,?_⟩);refine⟨Agree.set (Agree.set (Agree.set (Agree.refl _) rfl) rfl) rfl,?_⟩;dsimp only[jY];refine xy ?_;refine(pf _ rfl _ rfl _ rfl _ _ ⟨rfl,rfl,_,rfl,sZ3,λt ht=>?_⟩);generalize g1:upd Y t _=Y2 at *;obtain⟨s4,c4⟩:=al ht g1;clear g1;have c4:Y2 t=some (.tup [.int (sg.1:Nat),.int<|(sg.2.1:Nat)+((((⟨(ox M1 0).toArray⟩:Str).length:Nat):Int)+1),.str ⟨#[sg.2.2]⟩]):=c4;rw[Hy]at c4;have pU:=s4 _ _ tY;refine p9 (by lia) pU dP ⟨(p1.trans s4).new eG,?_⟩;have im:o9 ((p.1.take<|k+1).map λs=>sgD<|shS (M1.w+1) s)=true:=qj λd hd=>by
    obtain⟨s,_,rfl⟩:=aw.mp hd;rfl
   rw[mn (λs:Sg=>sgD<|shS (M1.w+1) s) hs]at im⊢;exact((p2.same s4).snoc (show Rep Y2 (sgD<|shS (M1.w+1) sg) (.ref t)from (mq t _ rfl c4 _ _ rfl rfl _<|np _ rfl rfl _ ⟨_,rfl,⟨rfl,ok1 (show sg.2.2<128 by have:=hL.2;lia)⟩,rfl⟩))).tk (Tk.lst pU) im
  obtain⟨p1,p2⟩:=pp;rw[bi (by lia)]at p2;refine(l8 D2 zs ⟨rfl,.inl ⟨SqL.of tY,λt1 tJ=>?_⟩⟩);generalize g1:upd Y t1 _=Y1 at *;obtain⟨v1,c1'⟩:=al tJ g1;clear g1;refine⟨_,rfl,sZ2,λt2 mU=>?_⟩;generalize g1:upd Y1 t2 _=Y2 at *;obtain⟨v2,HI⟩:=al mU g1;clear g1;have sY:=(p1.trans v1).trans v2;have hB2:=sY _ _ hB;have lb:=rB.length;rw[ae,be,ae,b8]at lb;refine(mz Bo bs (.ref t2) ⟨rfl,rfl,hB2,mm<|by lia,?_⟩);refine(mz _ _ (bs++[.ref t2]) ⟨rfl,(sW.trans sY).new hBo,l9,?_⟩);have rN:Rep Y2 (pcD<|shP (M1.w+1) p) (.ref t2):=(mq t2 _ rfl HI _ _ rfl (l8 t1 zs ⟨rfl,v2 _ _ c1',by show RepAll Y2 ((p.1.map<|shS<|M1.w+1).map sgD) zs;rw[bm];exact(p2.same v1).same v2⟩) _ ⟨_,rfl,rfl,rfl⟩);have im:=imB<|i+1;rw[mn (shP<|M1.w+1) hp,<-bp,bu]at im⊢;exact((rB.same sY).snoc rN).tk (Tk.lst hB2) im
 .obtain⟨qB,Fi,bs,rfl,sW,hB,rB⟩:=hI;rw[bi (by lia)]at rB;have C:=C.same sW;refine(nu _ rfl D _ ⟨rfl,.inl ⟨SqL.of<|sW _ _ bJ,λt3 ht3=>?_⟩⟩);generalize g1:upd W t3 _=W3 at *;obtain⟨v3,e3⟩:=al ht3 g1;clear g1;refine(nu _ rfl kd _ ⟨rfl,.inl ⟨SqL.of<|v3 _ _ C.kd,λt4 Ga=>?_⟩⟩);generalize g1:upd W3 t4 _=W4 at *;obtain⟨v4,e4⟩:=al Ga g1;clear g1;refine⟨_,rfl,sZ3,λpz Go=>?_⟩;generalize g1:upd W4 pz _=W5 at *;obtain⟨v5,e5⟩:=al Go g1;clear g1;have Dj:=(v3.trans v4).trans v5;have C5:=C.same Dj;have hOJ:LyO ks.length (L1++L2.map (shP<|M1.w+1)):=λp hp=>by
   rcases ay.mp hp with h|h
   .exact s1.1 p h
   .obtain⟨p,h',rfl⟩:=aw.mp h;have:=s2.1 p h';exact⟨this.1.sh _,this.2⟩
  have okJ:=avy o1 o2 hh w1 w2;refine(lr _ rfl pz Bo (jn M1 M2) ks<|mz aX ads (L1++L2.map (shP<|M1.w+1)) ⟨rfl,(lw t3 t4 e kvs eQ ⟨e5,⟨(v4.trans v5) _ _ e3,okJ⟩,v5 _ _ e4,C5.kn.k,by lia,C5.kn.b,C5.e,C5.r⟩),⟨bs,Dj _ _ hB,rB.same Dj⟩,hOJ,by rw[be,ae];lia,(λ_ _=>trivial),λv W6 v6 rv=>?_⟩);obtain⟨va,vu,rfl,F0⟩:=auf pT hOJ okJ.w1 hlz rv;refine(mz va vu _ ⟨rfl,F0,rk4 _ _ _ _,λW7 v7=>?_⟩);have fR7:=v7 _ _<|v6 _ _<|Dj _ _<|sW _ _ fR;refine(nu _ rfl R ([(rk M1 ks ads L1:Nat),(rk M2 ks ads L2:Nat)]) ⟨rfl,fR7,by simp,λMn DP kS=>⟨rfl,?_⟩⟩);have er:=awx (A:=M1) (B:=M2) hh pT (ads:=ads) s1.1 s2.1 s1.2;have k1:=kS _ ao;have k2:=kS _<|au _ ao;have eM:((rk (jn M1 M2) ks ads (L1++L2.map (shP<|M1.w+1)):Nat):Int)=Mn:=by simp only[ax,df,or_false]at DP;rw[er];lia
  rw[decide_eq_true (congrArg V.int eM)];exact q W7
end
def IH{P:Z aA->Prop}(h:∀a b c d e,P [a,b,c,d,e]):∀us:Z aA,us.length=5->P us:=Ar (n:=4) λa=>atq (P:=λt=>P (a::t))<|h a
def av7{P:Z aA->Prop}(h:∀a b c d e f,P [a,b,c,d,e,f]):∀us:Z aA,us.length=6->P us:=Ar (n:=5) λa=>IH (P:=λt=>P (a::t))<|h a
def auc{P:aK}{w:aP}{K:av}{mg:Str->Option aA}{aD:aF}{u1 v1 u2 v2 u3 v3:sV}{ep:Nat}(h:mg "TURNINGS_BY_MODE" = some (.ref aD))(ld:K.lookup aD=some ⟨.type "dict",none,.dict #[⟨eP w "still",.str "still" u1,.int 1 v1⟩,⟨eP w "turn",.str "turn" u2,.int 4 v2⟩,⟨eP w "flip",.str "flip" u3,.int 8 v3⟩] ep,#[]⟩):IF P w K mg:=by
 refine⟨aD,_,[("still",.int 1 v1),("turn",.int 4 v2),("flip",.int 8 v3)],h,ld,⟨_,ep,⟨rfl,rfl,rfl⟩,rfl,λe he=>?_,?_,(show((["still","turn","flip"]:Z Str).Nodup) by decide)⟩,λm n hm=>?_⟩
 .have jJ:e=⟨eP w "still",.str "still" u1,.int 1 v1⟩\/e=⟨eP w "turn",.str "turn" u2,.int 4 v2⟩\/e=⟨eP w "flip",.str "flip" u3,.int 8 v3⟩:=by simpa using he
  rcases jJ with rfl|rfl|rfl
  .exact⟨"still",eT P w _ u1,rfl⟩
  .exact⟨"turn",eT P w _ u2,rfl⟩
  .exact⟨"flip",eT P w _ u3,rfl⟩
 .exact .cons (eT P w _ u1) rfl<|.cons (eT P w _ u2) rfl<|.cons (eT P w _ u3) rfl .nil
 .rcases hm with ⟨rfl,rfl⟩|⟨rfl,rfl⟩|⟨rfl,rfl⟩
  .exact⟨v1,rfl⟩
  .exact⟨v2,rfl⟩
  .exact⟨v3,rfl⟩
def all_mk{l:PySem.W.OpenLaw}{w:aP}{K:av}{h:Heap}{mg:Str->Option aA}{fa:aF}(X:K.In h)(G:h.Ns aO mg)(hfa:mg "law" = some (.ref fa))
  (d1:Df K "is_sign" Ix)
  (d2:Df K "is_small" Jn)
  (d3:Df K "turned" sTd)
  (d4:Df K "mirrored" HQ)
  (d5:Df K "turned_right" sTr)
  (d6:Df K "forms_of" Jh)
  (d7:Df K "sign_at" sAt)
  (d8:Df K "is_open" IY)
  (d9:Df K "must_be" IQ)
  (d10:Df K "wanted" IX)
  (d11:Df K "open_cells" sOc)
  (d12:Df K "floor_spots" Jp)
  (d13:Df K "placements" Ia)
  (d14:Df K "places" Iq)
  (d15:Df K "shifted" HV)
  (d16:Df K "may_lie" HZ)
  (d17:Df K "may_cover" Im)
  (d18:Df K "is_kept_apart" Ip)
  (d19:Df K "strange_piece" Ij)
  (d20:Df K "cell_twice" HP)
  (d21:Df K "covered_cells" Ig)
  (d22:Df K "bare_cell" Iw)
  (d23:Df K "touching_pair" Iy)
  (d24:Df K "covers_by_cell" HU)
  (d25:Df K "are_apart" HL)
  (d26:Df K "wrong_count" HX)
  (d27:Df K "judged" HY)
  (d28:Df K "_law_next" II)
  (d29:Df K "_law_drawn" Ib)
  (d30:Df K "_law_formed" JX)
  (d31:Df K "_law_turned" sLt)
  (d32:Df K "_law_forms" JJ)
  (d33:Df K "_law_form" IP)
  (d34:Df K "_law_letters" Iu)
  (d35:Df K "_law_kinds" Jo)
  (d36:Df K "_law_pairs" Ih)
  (d37:Df K "_law_lie" sLy)
  (d38:Df K "_law_half" IE)
  (d39:Df K "_law_spoilt" Ik)
  (d40:Df K "_law_rank" IB)
  (d41:Df K "law" An)
  {aD aL f1 f2 f3 f4 f5:aF} {u1 v1 u2 v2 u3 v3 tC tV:sV} {ep nq:Nat} (yd:cz K aO "TURNINGS_BY_MODE" = some (some<|.ref aD)) (ld:K.lookup aD=some ⟨.type "dict",none,.dict #[⟨eP w "still",.str "still" u1,.int 1 v1⟩,⟨eP w "turn",.str "turn" u2,.int 4 v2⟩,⟨eP w "flip",.str "flip" u3,.int 8 v3⟩] ep,#[]⟩) (yc:cz K aO "CLOSED" = some (some<|.str "#" tC)) (yv:cz K aO "COVERED" = some (some<|.str "." tV)) (yl:cz K aO "LOOKS" = some (some<|.ref aL)) (ll:K.lookup aL=some ⟨.type "tuple",none,.seq #[.ref f1,.ref f2,.ref f3,.ref f4,.ref f5] nq,#[]⟩) (w1:cz K aO "strange_piece" = some (some<|.ref f1)) (w2:cz K aO "cell_twice" = some (some<|.ref f2)) (w3:cz K aO "bare_cell" = some (some<|.ref f3)) (w4:cz K aO "touching_pair" = some (some<|.ref f4)) (w5:cz K aO "wrong_count" = some (some<|.ref f5))
  (z1:cz K aO "len" = some none) (z2:cz K aO "min" = some none) (z3:cz K aO "max" = some none) (z4:cz K aO "sorted" = some none) (z5:cz K aO "tuple" = some none) (z6:cz K aO "list" = some none) (z7:cz K aO "isinstance" = some none) (z8:cz K aO "bool" = some none) (z9:cz K aO "range" = some none) (z10:cz K aO "str" = some none) (z11:cz K aO "int" = some none) (z12:cz K aO "enumerate" = some none) (z13:cz K aO "all" = some none) (z14:cz K aO "set" = some none) (z15:cz K aO "zip" = some none) (z16:cz K aO "reversed" = some none) :
  ∃fd:cH,(∀(s:aB)(v:aA),nJ s fd ⟨[v],[]⟩ [("_law_script",v)])/\∀base:Heap,K.In base->base.Ns aO mg->qm l.prog w K mg base CX0 9 fa fd Z4 (ED K):=by
 obtain⟨f,fd,a,F⟩:=d41;cases hfa.symm.trans (jg X G a);have B:∀x∈sk,mg x=none:=by
  intro x hx;simp only[sk,ax,df,or_false]at hx;rcases hx with rfl|rfl|rfl|rfl|rfl|rfl|rfl|rfl|rfl|rfl|rfl|rfl|rfl|rfl|rfl|rfl
  .exact de X G z1
  .exact de X G z2
  .exact de X G z3
  .exact de X G z4
  .exact de X G z5
  .exact de X G z6
  .exact de X G z7
  .exact de X G z8
  .exact de X G z9
  .exact de X G z10
  .exact de X G z11
  .exact de X G z12
  .exact de X G z13
  .exact de X G z14
  .exact de X G z15
  .exact de X G z16
 obtain⟨oc,od,kV,jM,pm,an,bW,ct,tG,rfl,lk,oF⟩:=id F.ex;refine⟨k8 "law" "law" (vh An) (ur An) (l0 An) .none kV jM pm an bW ct,λs v=>.of_eq rfl,λbase _ _=>?_⟩;have dm:IF l.prog w K mg:=auc (jg X G yd) ld;have gC:GS mg "CLOSED" "#":=⟨_,jg X G yc⟩;have gV:GS mg "COVERED" ".":=⟨_,jg X G yv⟩;have hL:∀H,SqT K H aL [.ref f1,.ref f2,.ref f3,.ref f4,.ref f5]:=λH=>.inr ⟨_,_,_,ll,rfl,rfl,sZ5,.cons rfl<|.cons rfl<|.cons rfl<|.cons rfl<|.cons rfl .nil⟩;have Y:L3.DfX l.prog w K mg base h:=⟨rfl,rfl,rfl,X,G⟩;have bg:=d1.fx Y<|as9 B;have sm:=d2.fx Y<|amk B;have mi:=d4.fx Y<|avd B;have tr:=d5.fx Y<|axt B;have td:=d3.fx Y<|av8 B mi tr;have fo:=d6.fx Y<|amx B dm td;have ta:=d7.fx Y<|axu B gC;have op:=d8.fx Y<|aqy gC ta;have wa:=d10.fx Y<|are ta bg sm;have sp:=d12.fx Y<|am9 B;have mc:=d17.fx Y<|atb op wa;have ml:=d16.fx Y<|aqc B mc;have sh:=d15.fx Y<|ar8 B;have pl:=d14.fx Y<|asp B sp sh ml;have pc:=d13.fx Y<|avg B fo pl;have mu:=d9.fx Y<|ary gV ta bg;have oc:=d11.fx Y<|axm gC sp;have ka:=d18.fx Y<|asj B;have st:=d19.fx Y<|atf B pc;have cv:=d21.fx Y<|aty;have tw:=d20.fx Y<|as3 cv oc;have ba:=d22.fx Y<|asq cv oc mu;have cb:=d24.fx Y<|ati B;have aa:=d25.fx Y<|au7 ka;have tp:=d23.fx Y<|asr B cb aa;have wc:=d26.fx Y<|au9 B;have ju:=d27.fx Y<|au5 (jg X G yl) hL (jg X G w1) (jg X G w2) (jg X G w3) (jg X G w4) (jg X G w5) st tw ba tp wc;have nx:=d28.fx Y<|ap3 B;have dr:=d29.fx Y<|asg B;have fd:=d30.fx Y<|ajl B;have lt:=d31.fx Y<|awa B fd;have lf:=d32.fx Y<|akw B lt;have fm:=d33.fx Y<|aq3 B nx fd;have le:=d34.fx Y<|au1 nx;have kd:=d35.fx Y (amu B nx fm) λ_ _ _ _ _ _=>IH λ_ _ _ _ _=>rfl;have pr:=d36.fx Y<|at2 B nx;have li:=d37.fx Y<|aw1 B nx lf;have ha:=d38.fx Y (arp B nx li) λ_ _ _ _ _ _=>IH λ_ _ _ _ _=>rfl;have so:=d39.fx Y (at7 B nx li) λ_ _ _ _ _ _=>av7 λ_ _ _ _ _ _=>rfl;have ra:=d40.fx Y<|aqz;exact as8 B nx dr le kd pr ha so ra ju F
def walk{l:PySem.W.OpenLaw}{q:aK}{loose:Z Str}{XP:(Str->Option aA)->Heap->Prop}{YP:aP->Heap->Prop}{d:DefRec}{K:Params->av}(hn:l.most=some 63)(BM:d.params.defaults=[])
  (hY:∀(w:aP)(h:Heap),YP w h->(K w.params).In h)
  (F:∀(w:aP)(mg:Str->Option aA)(fa:aF)(h:Heap),(K w.params).In h->h.Ns aO mg->mg d.name=some (.ref fa)->
   ∃fd:cH,(∀(s:aB)(u:aA),nJ s fd ⟨[u],[]⟩ [("_law_script",u)])/\∀base:Heap,(K w.params).In base->base.Ns aO mg->qm l.prog w (K w.params) mg base CX0 9 fa fd Z4 (ED<|K w.params)) :
  PySem.W.WalkO q loose XP YP l.row.toRowW d [] (λf vs=>PySem.call f vs):=
 L2.walk_of (n:=63) (k:=9) (x:="_law_script") (CX:=λ_=>CX0) (sp:=λw=>ED<|K w.params) hn (by decide) BM ⟨rfl,by decide,by decide⟩ hY F (λ_ _ a ns hl _ hS=>⟨a,ns,rfl,hS,hl,λ_=>rfl⟩) λ_ _ _ _ _ z=>z
end K17
open PySem PySem.W PyProof.Rows
set_option maxRecDepth 100000 in
set_option maxHeartbeats 0 in
theorem PySem.Challenge.cw_coverpieces_k17_whole_judged_side_by_sid_holds : PySem.Challenge.rw_coverpieces_k17_whole_judged_side_by_sid.Holds := by
 refine K17.hd ⟨K17.left,?_⟩
 k_fill
 refine K17.walk (l:=PySem.Challenge.rw_coverpieces_k17_whole_judged_side_by_sid) rfl rfl (λw h Y=>PySem.W.kIn_of Y) ?F
 case F=>
  intro w mg fa h KX G tN;refine' K17.all_mk KX G tN ?d1 ?d2 ?d3 ?d4 ?d5 ?d6 ?d7 ?d8 ?d9 ?d10 ?d11 ?d12 ?d13 ?d14 ?d15 ?d16 ?d17 ?d18 ?d19 ?d20 ?d21 ?d22 ?d23 ?d24 ?d25 ?d26 ?d27 ?d28 ?d29 ?d30 ?d31 ?d32 ?d33 ?d34 ?d35 ?d36 ?d37 ?d38 ?d39 ?d40 ?d41 ?yd ?ld ?yc ?yv ?yl ?ll ?w1 ?w2 ?w3 ?w4 ?w5 ?z1 ?z2 ?z3 ?z4 ?z5 ?z6 ?z7 ?z8 ?z9 ?z10 ?z11 ?z12 ?z13 ?z14 ?z15 ?z16
  case d1|d2|d3|d4|d5|d6|d7|d8|d9|d10|d11|d12|d13|d14|d15|d16|d17|d18|d19|d20|d21|d22|d23|d24|d25|d26|d27|d28|d29|d30|d31|d32|d33|d34|d35|d36|d37|d38|d39|d40|d41=>refine' L3.df_mk ?a ?l ?c ?k;(case a=>k_is);(case l=>k_is);(case c=>k_is);(case k=>k_is)
  case yd=>k_is
  case ld=>k_is
  case yc=>k_is
  case yv=>k_is
  case yl=>k_is
  case ll=>k_is
  case w1=>k_is
  case w2=>k_is
  case w3=>k_is
  case w4=>k_is
  case w5=>k_is
  case z1|z2|z3|z4|z5|z6|z7|z8|z9|z10|z11|z12|z13|z14|z15|z16=>k_is
