import PyProof.Rows.All
import Wide.All
import KE.KxBytes
import Wide.Once
import Wide.Head
import Wide.BytesRules
import Wide.Tac
import OpenK.KDescr
import Wide.Row
import KE.KSortTup
import Wide.Line
import KE.KDictSum
import ObjForm.Claim3
import OpenK.KGet
import Wide.BridgeG
import Wide.Tm
import OpenK.KMore
import OpenK.KWalk
import Wide.Pins
import KE.KIntText
import OpenK.KOps
import KE.KFromBytes
import OpenK.KCall
import KE.KDictList
import Open.Claim
import KE.KIsAll
import Wide.Vals
import Imp.Common
import OpenK.KMake
import OpenK.KLine
import Open.Line
import Open.Head
import Wide.Data
import Wide.Ends
import Wide.Bridge
import Wide.OneHead
import Wide.Reads
import Wide.Claim
import Wide.Well
import KE.KItem
import Wide.BytesFacts
import Wide.Lay
import OpenK.Peek
import OpenK.KCls
import Wide.ObjOpen
import Open.Row
import Wide.Loose
import Wide.FinOn
import Lean
import PyProof.EqAt
import PyProof.EqKinds
import PyProof.TupleCall
import PyProof.Rows.SortRuns
import PyProof.CompFree
import KE.KSortTup
import PyProof.P3Eq
import PyProof.P3In
import PyProof.NeData
import PyProof.WalkInts
import PyProof.Rows.MinMaxN
import PyProof.StrWalks
import PyProof.StrBlockH
import PyProof.StrLawsIn
import PyProof.FString5
import PyProof.StrOps2
import PyProof.ListStr
import PyProof.ConsumeWalk
import PyProof.Rows.StrJoin2
import PyProof.EnumMake
import PyProof.EnumFor
import PyProof.LayNew
import PyProof.Rows.EnumRows
import PyProof.StrCalls
import PyProof.Rows.StrCase
import PyProof.Rows.StrAscii2
import PyProof.Rows.StrFit
import PyProof.IsRules
import PyProof.AutoListH
import PyProof.FactsAll.list_3
import PySem.SetTable
import PySem.SetOps
import PyProof.SetKind
import PyProof.TupleKey
import PyProof.DictKinds
import PyProof.Rows.SetFrom
import PyProof.CollectWalk
import PyProof.Seq
import PyProof.SetRoads
import PyProof.Walk
import PyProof.WalkLemmas
import PyProof.MinMaxWalk
import PyProof.DictRoads
import PyProof.NeKinds
import PyProof.Rows.SetObj
import PyProof.StrCalls2
import PyProof.Rows.StrItems
import PyProof.StrLawsTight
import PyProof.StrLawsChain
import KE.KIntText
import PyProof.EnumIter
import PyProof.DictRoadsH
import KE.KDictSum
import PyProof.Rows.SeqMore
import PySem.Challenge.RW_coverpieces_k10_puzzles_read
set_option compiler.extract_closed false
set_option Elab.async false
set_option linter.all false
set_option maxRecDepth 100000
abbrev U(α:Type u):=List α
abbrev Z9:=PySem.PyData
noncomputable abbrev Z8:U PySem.Str:=["found"]
noncomputable abbrev Z7:U PySem.Str:=["_law_found"]
noncomputable abbrev Z6:U PySem.Str:=["words"]
noncomputable abbrev Z5:U PySem.Str:=["_law_spot"]
noncomputable abbrev Z4:U PySem.Str:=["_law_state_here"]
noncomputable abbrev Z0:U PySem.Str:=["sign"]
noncomputable abbrev ZZ:U PySem.Str:=["spot"]
noncomputable abbrev ZY:U PySem.Str:=["_law_state_here","_law_most"]
noncomputable abbrev ZX:U PySem.Str:=["words","first","more"]
noncomputable abbrev ZW:U PySem.Str:=["_law_script","_law_k"]
noncomputable abbrev ZV:U PySem.Str:=["_law_cell","_law_k"]
noncomputable abbrev ZU:U PySem.Str:=["_law_state_here","_law_many"]
noncomputable abbrev ZT:U PySem.Str:=["_law_row","_law_column","_law_sign","_law_top","_law_left"]
noncomputable abbrev ZS:U PySem.Str:=["cell","other"]
noncomputable abbrev ZR:U PySem.Str:=["cell","others"]
noncomputable abbrev ZQ:U PySem.Str:=["row","column","sign","top","left"]
noncomputable abbrev ZP:U PySem.Str:=["row","column","sign"]
noncomputable abbrev ZO:U PySem.Str:=["least","most"]
noncomputable abbrev ZN:U PySem.Str:=["_law_kind_here"]
noncomputable abbrev ZM:U PySem.Str:=["_law_k","_law_state_here"]
noncomputable abbrev ZL:U PySem.Str:=["word","most"]
noncomputable abbrev ZK:U PySem.Str:=["first","pieces","pairs"]
noncomputable abbrev ZJ:U PySem.Str:=["_law_script"]
noncomputable abbrev ZI:U PySem.Str:=["TURNINGS_BY_MODE"]
noncomputable abbrev ZH:U PySem.Str:=["_law_state_here","_law_most","_law_signs_here"]
noncomputable abbrev ZG:U PySem.Str:=["_law_state_here","_law_name","_law_most"]
noncomputable abbrev ZF:U PySem.Str:=["_law_state_here","_law_most","_law_spots","_law_many"]
noncomputable abbrev ZE:U PySem.Str:=["_law_form","_law_more"]
noncomputable abbrev ZD:U PySem.Str:=["_law_puzzle_here","_law_state_here"]
noncomputable abbrev ZC:U PySem.Str:=["_law_one","_law_other"]
noncomputable abbrev ZB:U PySem.Str:=["_law_column","_law_signs_here","_law_state_here"]
noncomputable abbrev ZA:U PySem.Str:=["_law_name","_law_state_here","_law_spots"]
noncomputable abbrev Zz:U PySem.Str:=["_law_column","_law_signs_here","_law_row"]
open PySem renaming Value->aA,Shared->aC,Addr->aF,sizeLine->aG,wpAny->aH,model->aI,Program->aJ,mainGlobals->aK,World->aL,starEach->aM,compareOp->aN,NameKind->aO,Stmt->aS,sysModules->aX,cLine->aY,pyNext->bA,backTo->bM,assignEach->bN,eval->bR,typeIs_str->bV,FuncData->bX,wpAny_askSetting->bY,bootBuiltins->cA,wpAny_setEntries_of->cC,Scope->cF,wpAny_updateSeq->cG,wpAny_specialOf->cH,codeAny->cI,wpAny_setField_rec->cJ,strKind_is->cK,wpAny_getItem_str_slice->cM,firstArgMember->cR,Paired->cS,wpAny_isInstance->cU,wpAny_attempt->cW,sliceBounds->cY,codeAny_call_builtin->dA,binaryOp->dB,Pos->dE,hashStr->dI,wpAny_pyIter_tuple->dN,wpAny_of_eq->dQ,wpAny_letGo->dR,ofAClassStatement->dS,argBest->eA,wpAny_standAt->eB,valueAt->eJ,call_meets->eM,IsEnum->eO,wpAny_execs_nil->eQ,post_val_or_str->eU,letOwnedTupleGo->eX,codeAny_of_tree->fA,weight_type_call_type->fB,wpAny_tryCatch->fH,wpAny_runValue->fI,wpAny_fieldsOf->fJ,keywordEach->fK,hashByValue->fP,tupleKind->fS,setNext->fT,pickOrder->fV,holding->fX,Keyword->gD,behindInMarks->gO,Walks->gQ,Tok->gR,wpAny_call->gT,pyIter->gW,assign->hX,wpAny_pyIter_enum->iI,numAt_eq->iJ,foldedSetIterable->iN,collect->iP,callerA->iQ,GenState->iU,updateSeq->jD,seqItems?->jF,rawInt->jG,check_set_init_1->jK,Result->jL,DictEntry->jM,richCompare->jN,intItems_at->jP,CmpOp->jX,spliced->kI,BindsTo->lF,wpAny_rule->lG,slotArgs->lK,setsByText->lL,setEntries->lO,newTuple->lQ,isSubtype_stop->lU,closureFor->mF,backToKw->mH,wpAny_newList->nF,wpAny_handled->nG,wpAny_comprehension_free->nH,setSearchFrom->nI,nums_intItems->nK,attributeBase->nV,swapsWith->nY,putSet_of->oF,field->pR,bindL->pX,bindC->pY,atKey->qA,Env->qE,wpAny_typeOf->qF,wpAny_pyNext_list_item->qG,seqIndex_neg->qJ,richCompare_meets_room->qL,newExc->qN,wpAny_pyNext_list_end->rR,wpAny_isSame_ref_self->rT,builtinLookup_eq_fast->sY,wpAny_throw->tL,wpAny_loadName_local->tM,seqIndex_of->tP,raiseNew->tS,intItems->uC,wpAny_loadName_cell->vN,wpAny_load->yC,wpAny_Name->yD,tupleKind_room_in1->yG,rule->yL,reduceHash->yM,noKeywords->yP,builtinsNs->zM,argsOk->zU,wpAny_storeSet_of->Ak,wpAny_setEpoch_of->Al,wpAny_assign_Name->Am,standAt->An,searchCouldBeSeen->Aq,numAt->AA,eqIsQuiet_byValue->BQ,Moved->Cs,wpAny_pyHash_str->CM,wpAny_pyHash_int->CN,wpAny_execs_cons->CO,storeName->CS,scanBound->CV,drawOrder->DD,checkBuiltinCall->DF,cellsFrom->DG,IsEnumOut->Ei,Args->Ej,typeLookup_type->En,Sem->Jr
open PySem.W renaming kas_desc->aT,hashAt->bW,kas_rev->cP,kas_asc->cQ,kas_place->cV,kas_sort->eE,kas_tail3->oN,kas_count->oO,kas_descPart->qO,kas_bin->qP,KasT->Eh
open PyProof.Rows renaming SortKind->bD,seqObj->bH,IntsAre->bO,boot_all->bP,boot_str->cE,boot_min->dP,AllBare->eP,keyKind'->fL,envOfC->hJ,boot_max->iR,boot_sorted->jW,tuples'->kE,keyLt'->lT,listUpdate_at->nM,subscriptTail_builtinR->qI,seqEpoch_at->tQ,bubble->zN
open Pure renaming pure->bQ
open ToString renaming toString->cX
open LawfulMonad renaming bind_assoc->hV
open Min renaming min->kO
open MonadExcept renaming tryCatch->tN
open Max renaming max->yQ
section
def sZ0:0<=aG:=by decide
def sZ1:1<=aG:=by decide
def sZ2:2<=aG:=by decide
def sZ3:3<=aG:=by decide
def sZ4:4<=aG:=by decide
def sZ5:5<=aG:=by decide
namespace K10
open PySem PyProof.Rows
noncomputable def vw:aJ:=PySem.W.view PySem.Challenge.pw_coverpieces_k10_puzzles_read [1,2,3,4,5,7,8,9,11,12,14,15,16,17,18,19,20,21,23,24,25,26,27,28,29,31,32,33,34,35,36,37,38,39,40,42,43,44,45,46,47,48,49,50,51,53,54,55,56,57,58,59,60,61,62,63,64,65,66,67,68,69,70,71,72,73,74,75,76]
set_option maxHeartbeats 0 in
def said:PySem.W.OpenLaw.wellSaid PySem.Challenge.rw_coverpieces_k10_puzzles_read=true:=by kernel_rfl
end K10
open PySem PySem.W PyProof.Rows
local macro_rules | `(tactic| o_law)=>`(tactic| refine holds_law K10.said fun said=>?_)
local macro_rules | `(tactic| o_head $H)=>`(tactic| refine(fun h hw=>holds_open (q:=K10.vw) (loose:=ZI) (Xt:=(fun s=>xlAt K10.vw [] s&&recOk (RowW.records (OpenLaw.row PySem.Challenge.rw_coverpieces_k10_puzzles_read).toRowW) s)) (XP:=XL K10.vw []) (Yf:=Hook.obs $H) (Ya:=Hook.val $H) (YP:=Hook.says $H) (N:=4840) (And.left h) (Hook.of $H) (Hook.keeps $H) (fun s e=>xl_of s (Bool.and_eq_true_iff.mp e).1) XL.keeps (by rfl) (by rfl) (by rfl) (fun s e=>recFacts_of (Bool.and_eq_true_iff.mp e).2) (by rfl) (by assumption) (by decide +kernel) ⟨rfl,rfl,rfl,rfl,rfl,by decide +kernel⟩ hw (And.right h)) ?hc ?hw)
set_option maxRecDepth 100000 in
set_option maxHeartbeats 0 in
open_top K10.hd for PySem.Challenge.rw_coverpieces_k10_puzzles_read
namespace K10
noncomputable def hk:Hook:=kHook K10.hd.heap_1 [2,3,15,17,18,20,21,22,24,25,27,28,29,31,32,34,35,36,39,40,41,48,49,50,51,54,61,62,63,66,73,74,75,78,79,81,82,84,85,86,89,90,91,94,95,96,98,99,101,102,103,105,106,108,109,110,112,113,115,116,117,120,121,122,125,126,127,129,130,132,133,134,137,138,139,142,143,144,146,147,149,150,151,154,155,156,158,159,161,162,163,165,166,168,169,170,173,174,175,178,179,180,182,183,185,186,187,190,191,192,195,196,197,199,200,202,203,204,206,207,209,210,211,214,215,216,218,219,221,222,223,226,227,228,230,231,233,234,235,237,238,240,241,242,244,245,247,248,249,251,252,254,255,256,258,259,261,262,263,266,267,268,270,271,273,274,275,277,278,280,281,282,284,285,287,288,289,291,292,294,295,296,299,300,301,304,305,306,308,309,311,312,313,316,317,318,320,321,323,324,325,328,329,330,332,333,335,336,337,340,341,342,344,345,347,348,349,352,353,354,357,358,359,362,363,364,367,368,369,371,372,374,375] λ_=>by kernel_rfl
def L_a(w:aL):Prop:=(openEnds treeTable PySem.Challenge.pw_coverpieces_k10_puzzles_read w 4840).map (λs=>(openSeen vw ZI (importedModules PySem.Challenge.pw_coverpieces_k10_puzzles_read.main.body) (λs=>xlAt vw [] s&&recOk (RowW.records (OpenLaw.row PySem.Challenge.rw_coverpieces_k10_puzzles_read).toRowW) s) true s).1)=some (openGood vw ZI).1
def L_c(w:aL):Prop:=(openEnds treeTable PySem.Challenge.pw_coverpieces_k10_puzzles_read w 4840).map (λs=>(openSeen vw ZI (importedModules PySem.Challenge.pw_coverpieces_k10_puzzles_read.main.body) (λs=>xlAt vw [] s&&recOk (RowW.records (OpenLaw.row PySem.Challenge.rw_coverpieces_k10_puzzles_read).toRowW) s) true s).2)=some (openGood vw ZI).2
def L_b(w:aL):Prop:=(openEnds treeTable PySem.Challenge.pw_coverpieces_k10_puzzles_read w 4840).map (λs=>hk.obs s)=some (hk.val w)
def Lo(w:aL):Prop:=(openEnds treeTable PySem.Challenge.pw_coverpieces_k10_puzzles_read w 4840).map (λs=>(openSeen vw ZI (importedModules PySem.Challenge.pw_coverpieces_k10_puzzles_read.main.body) (λs=>xlAt vw [] s&&recOk (RowW.records (OpenLaw.row PySem.Challenge.rw_coverpieces_k10_puzzles_read).toRowW) s) true s,hk.obs s))=some (openGood vw ZI,hk.val w)
theorem pr3{α β γ δ:Type}{x:Option α}{f:α->β×γ}{g:α->δ}{a:β×γ}{b:δ}(h0:x.map (λs=>(f s).1)=some a.1)(h1:x.map (λs=>(f s).2)=some a.2)(h2:x.map g=some b):x.map (λs=>(f s,g s))=some (a,b):=by
 cases x with
 | none=>cases h2
 | some s=>exact congrArg some (Prod.ext (Prod.ext (Option.some.inj h0) (Option.some.inj h1)) (Option.some.inj h2))
set_option maxHeartbeats 0 in
theorem lfa(w:aL):L_a (w.withFollow "special-get-raises" false):=by unfold L_a;kernel_rfl
set_option maxHeartbeats 0 in
theorem lfc(w:aL):L_c (w.withFollow "special-get-raises" false):=by unfold L_c;kernel_rfl
set_option maxHeartbeats 0 in
theorem lfb(w:aL):L_b (w.withFollow "special-get-raises" false):=by unfold L_b;kernel_rfl
theorem lf(w:aL):Lo (w.withFollow "special-get-raises" false):=pr3 (lfa w) (lfc w) (lfb w)
set_option maxHeartbeats 0 in
theorem lta(w:aL):L_a (w.withFollow "special-get-raises" true):=by unfold L_a;kernel_rfl
set_option maxHeartbeats 0 in
theorem ltc(w:aL):L_c (w.withFollow "special-get-raises" true):=by unfold L_c;kernel_rfl
set_option maxHeartbeats 0 in
theorem ltb(w:aL):L_b (w.withFollow "special-get-raises" true):=by unfold L_b;kernel_rfl
theorem lt(w:aL):Lo (w.withFollow "special-get-raises" true):=pr3 (lta w) (ltc w) (ltb w)
def left:∀w,Lo w:=byRow2 "special-get-raises" lf lt
end K10
end
set_option Elab.async false
set_option linter.all false
set_option maxRecDepth 100000
set_option maxHeartbeats 8000000
def kl{α0:Sort u0}{α1:Sort u1}{t:α0->α1->Prop}(x0:α0)(x1:α1)(h:t x0 x1):∃x0,∃x1,t x0 x1:=⟨x0,x1,h⟩
def lu{α0:Sort u0}{α1:Sort u1}{p0:α0->Prop}{t:α0->α1->Prop}(x0:α0)(h0:p0 x0)(x1:α1)(h:t x0 x1):∃x0,p0 x0/\∃x1,t x0 x1:=⟨x0,h0,x1,h⟩
def lq{α0:Sort u0}{α1:Sort u1}{α2:Sort u2}{t:α0->α1->α2->Prop}(x0:α0)(x1:α1)(x2:α2)(h:t x0 x1 x2):∃x0,∃x1,∃x2,t x0 x1 x2:=⟨x0,x1,x2,h⟩
def my{α0:Sort u0}{α1:Sort u1}{p0:α0->Prop}{p1:α0->Prop}{t:α0->α1->Prop}(x0:α0)(h0:p0 x0)(h1:p1 x0)(x1:α1)(h:t x0 x1):∃x0,p0 x0/\p1 x0/\∃x1,t x0 x1:=⟨x0,h0,h1,x1,h⟩
def m6{α0:Sort u0}{α1:Sort u1}{α2:Sort u2}{p0:α0->Prop}{t:α0->α1->α2->Prop}(x0:α0)(h0:p0 x0)(x1:α1)(x2:α2)(h:t x0 x1 x2):∃x0,p0 x0/\∃x1,∃x2,t x0 x1 x2:=⟨x0,h0,x1,x2,h⟩
def li{α0:Sort u0}{α1:Sort u1}{α2:Sort u2}{α3:Sort u3}{t:α0->α1->α2->α3->Prop}(x0:α0)(x1:α1)(x2:α2)(x3:α3)(h:t x0 x1 x2 x3):∃x0,∃x1,∃x2,∃x3,t x0 x1 x2 x3:=⟨x0,x1,x2,x3,h⟩
def uv{α0:Sort u0}{α1:Sort u1}{α2:Sort u2}{p0:α0->Prop}{p1:α0->α1->Prop}{t:α0->α1->α2->Prop}(x0:α0)(h0:p0 x0)(x1:α1)(h1:p1 x0 x1)(x2:α2)(h:t x0 x1 x2):∃x0,p0 x0/\∃x1,p1 x0 x1/\∃x2,t x0 x1 x2:=⟨x0,h0,x1,h1,x2,h⟩
def nk{α0:Sort u0}{α1:Sort u1}{α2:Sort u2}{α3:Sort u3}{p0:α0->Prop}{t:α0->α1->α2->α3->Prop}(x0:α0)(h0:p0 x0)(x1:α1)(x2:α2)(x3:α3)(h:t x0 x1 x2 x3):∃x0,p0 x0/\∃x1,∃x2,∃x3,t x0 x1 x2 x3:=⟨x0,h0,x1,x2,x3,h⟩
def me{α0:Sort u0}{α1:Sort u1}{α2:Sort u2}{α3:Sort u3}{α4:Sort u4}{t:α0->α1->α2->α3->α4->Prop}(x0:α0)(x1:α1)(x2:α2)(x3:α3)(x4:α4)(h:t x0 x1 x2 x3 x4):∃x0,∃x1,∃x2,∃x3,∃x4,t x0 x1 x2 x3 x4:=⟨x0,x1,x2,x3,x4,h⟩
def qf{α0:Sort u0}{α1:Sort u1}{α2:Sort u2}{α3:Sort u3}{p0:α0->Prop}{p1:α0->α1->Prop}{t:α0->α1->α2->α3->Prop}(x0:α0)(h0:p0 x0)(x1:α1)(h1:p1 x0 x1)(x2:α2)(x3:α3)(h:t x0 x1 x2 x3):∃x0,p0 x0/\∃x1,p1 x0 x1/\∃x2,∃x3,t x0 x1 x2 x3:=⟨x0,h0,x1,h1,x2,x3,h⟩
def j1{α0:Sort u0}{α1:Sort u1}{α2:Sort u2}{α3:Sort u3}{α4:Sort u4}{p0:α0->Prop}{t:α0->α1->α2->α3->α4->Prop}(x0:α0)(h0:p0 x0)(x1:α1)(x2:α2)(x3:α3)(x4:α4)(h:t x0 x1 x2 x3 x4):∃x0,p0 x0/\∃x1,∃x2,∃x3,∃x4,t x0 x1 x2 x3 x4:=⟨x0,h0,x1,x2,x3,x4,h⟩
def agj{α0:Sort u0}{α1:Sort u1}{α2:Sort u2}{α3:Sort u3}{p0:α0->α1->Prop}{p1:α0->α1->Prop}{t:α0->α1->α2->α3->Prop}(x0:α0)(x1:α1)(h0:p0 x0 x1)(h1:p1 x0 x1)(x2:α2)(x3:α3)(h:t x0 x1 x2 x3):∃x0,∃x1,p0 x0 x1/\p1 x0 x1/\∃x2,∃x3,t x0 x1 x2 x3:=⟨x0,x1,h0,h1,x2,x3,h⟩
def xg{α0:Sort u0}{α1:Sort u1}{α2:Sort u2}{p0:α0->Prop}{p1:α0->Prop}{p2:α0->Prop}{p3:α0->Prop}{t:α0->α1->α2->Prop}(x0:α0)(h0:p0 x0)(h1:p1 x0)(h2:p2 x0)(h3:p3 x0)(x1:α1)(x2:α2)(h:t x0 x1 x2):∃x0,p0 x0/\p1 x0/\p2 x0/\p3 x0/\∃x1,∃x2,t x0 x1 x2:=⟨x0,h0,h1,h2,h3,x1,x2,h⟩
def mw{α0:Sort u0}{α1:Sort u1}{α2:Sort u2}{α3:Sort u3}{α4:Sort u4}{p0:α0->Prop}{p1:α0->α1->Prop}{t:α0->α1->α2->α3->α4->Prop}(x0:α0)(h0:p0 x0)(x1:α1)(h1:p1 x0 x1)(x2:α2)(x3:α3)(x4:α4)(h:t x0 x1 x2 x3 x4):∃x0,p0 x0/\∃x1,p1 x0 x1/\∃x2,∃x3,∃x4,t x0 x1 x2 x3 x4:=⟨x0,h0,x1,h1,x2,x3,x4,h⟩
def mf{α0:Sort u0}{α1:Sort u1}{α2:Sort u2}{α3:Sort u3}{p0:α0->Prop}{p1:α0->α1->α2->Prop}{p2:α0->α1->α2->Prop}{t:α0->α1->α2->α3->Prop}(x0:α0)(h0:p0 x0)(x1:α1)(x2:α2)(h1:p1 x0 x1 x2)(h2:p2 x0 x1 x2)(x3:α3)(h:t x0 x1 x2 x3):∃x0,p0 x0/\∃x1,∃x2,p1 x0 x1 x2/\p2 x0 x1 x2/\∃x3,t x0 x1 x2 x3:=⟨x0,h0,x1,x2,h1,h2,x3,h⟩
def alh{α0:Sort u0}{α1:Sort u1}{α2:Sort u2}{α3:Sort u3}{p0:α0->α1->Prop}{p1:α0->α1->Prop}{p2:α0->α1->Prop}{t:α0->α1->α2->α3->Prop}(x0:α0)(x1:α1)(h0:p0 x0 x1)(h1:p1 x0 x1)(h2:p2 x0 x1)(x2:α2)(x3:α3)(h:t x0 x1 x2 x3):∃x0,∃x1,p0 x0 x1/\p1 x0 x1/\p2 x0 x1/\∃x2,∃x3,t x0 x1 x2 x3:=⟨x0,x1,h0,h1,h2,x2,x3,h⟩
def ab8{α0:Sort u0}{α1:Sort u1}{α2:Sort u2}{α3:Sort u3}{α4:Sort u4}{p0:α0->Prop}{p1:α0->Prop}{p2:α0->α1->Prop}{t:α0->α1->α2->α3->α4->Prop}(x0:α0)(h0:p0 x0)(h1:p1 x0)(x1:α1)(h2:p2 x0 x1)(x2:α2)(x3:α3)(x4:α4)(h:t x0 x1 x2 x3 x4):∃x0,p0 x0/\p1 x0/\∃x1,p2 x0 x1/\∃x2,∃x3,∃x4,t x0 x1 x2 x3 x4:=⟨x0,h0,h1,x1,h2,x2,x3,x4,h⟩
def vy{α0:Sort u0}{α1:Sort u1}{α2:Sort u2}{α3:Sort u3}{α4:Sort u4}{p0:α0->Prop}{p1:α0->α1->Prop}{p2:α0->α1->α2->Prop}{t:α0->α1->α2->α3->α4->Prop}(x0:α0)(h0:p0 x0)(x1:α1)(h1:p1 x0 x1)(x2:α2)(h2:p2 x0 x1 x2)(x3:α3)(x4:α4)(h:t x0 x1 x2 x3 x4):∃x0,p0 x0/\∃x1,p1 x0 x1/\∃x2,p2 x0 x1 x2/\∃x3,∃x4,t x0 x1 x2 x3 x4:=⟨x0,h0,x1,h1,x2,h2,x3,x4,h⟩
def qa{α0:Sort u0}{α1:Sort u1}{α2:Sort u2}{α3:Sort u3}{p0:α0->Prop}{p1:α0->α1->α2->Prop}{p2:α0->α1->α2->Prop}{p3:α0->α1->α2->Prop}{t:α0->α1->α2->α3->Prop}(x0:α0)(h0:p0 x0)(x1:α1)(x2:α2)(h1:p1 x0 x1 x2)(h2:p2 x0 x1 x2)(h3:p3 x0 x1 x2)(x3:α3)(h:t x0 x1 x2 x3):∃x0,p0 x0/\∃x1,∃x2,p1 x0 x1 x2/\p2 x0 x1 x2/\p3 x0 x1 x2/\∃x3,t x0 x1 x2 x3:=⟨x0,h0,x1,x2,h1,h2,h3,x3,h⟩
def o7{α0:Sort u0}{α1:Sort u1}{α2:Sort u2}{α3:Sort u3}{α4:Sort u4}{p0:α0->Prop}{p1:α0->α1->Prop}{p2:α0->α1->α2->α3->Prop}{p3:α0->α1->α2->α3->Prop}{t:α0->α1->α2->α3->α4->Prop}(x0:α0)(h0:p0 x0)(x1:α1)(h1:p1 x0 x1)(x2:α2)(x3:α3)(h2:p2 x0 x1 x2 x3)(h3:p3 x0 x1 x2 x3)(x4:α4)(h:t x0 x1 x2 x3 x4):∃x0,p0 x0/\∃x1,p1 x0 x1/\∃x2,∃x3,p2 x0 x1 x2 x3/\p3 x0 x1 x2 x3/\∃x4,t x0 x1 x2 x3 x4:=⟨x0,h0,x1,h1,x2,x3,h2,h3,x4,h⟩
def wm{α0:Sort u0}{α1:Sort u1}{α2:Sort u2}{α3:Sort u3}{α4:Sort u4}{p0:α0->Prop}{p1:α0->α1->α2->Prop}{p2:α0->α1->α2->Prop}{p3:α0->α1->α2->Prop}{t:α0->α1->α2->α3->α4->Prop}(x0:α0)(h0:p0 x0)(x1:α1)(x2:α2)(h1:p1 x0 x1 x2)(h2:p2 x0 x1 x2)(h3:p3 x0 x1 x2)(x3:α3)(x4:α4)(h:t x0 x1 x2 x3 x4):∃x0,p0 x0/\∃x1,∃x2,p1 x0 x1 x2/\p2 x0 x1 x2/\p3 x0 x1 x2/\∃x3,∃x4,t x0 x1 x2 x3 x4:=⟨x0,h0,x1,x2,h1,h2,h3,x3,x4,h⟩
def nw{α0:Sort u0}{α1:Sort u1}{α2:Sort u2}{α3:Sort u3}{α4:Sort u4}{p0:α0->α1->Prop}{p1:α0->α1->Prop}{p2:α0->α1->Prop}{p3:α0->α1->α2->α3->Prop}{t:α0->α1->α2->α3->α4->Prop}(x0:α0)(x1:α1)(h0:p0 x0 x1)(h1:p1 x0 x1)(h2:p2 x0 x1)(x2:α2)(x3:α3)(h3:p3 x0 x1 x2 x3)(x4:α4)(h:t x0 x1 x2 x3 x4):∃x0,∃x1,p0 x0 x1/\p1 x0 x1/\p2 x0 x1/\∃x2,∃x3,p3 x0 x1 x2 x3/\∃x4,t x0 x1 x2 x3 x4:=⟨x0,x1,h0,h1,h2,x2,x3,h3,x4,h⟩
def nh{α0:Sort u0}{α1:Sort u1}{α2:Sort u2}{α3:Sort u3}{α4:Sort u4}{p0:α0->α1->Prop}{p1:α0->α1->Prop}{p2:α0->α1->α2->α3->Prop}{p3:α0->α1->α2->α3->Prop}{t:α0->α1->α2->α3->α4->Prop}(x0:α0)(x1:α1)(h0:p0 x0 x1)(h1:p1 x0 x1)(x2:α2)(x3:α3)(h2:p2 x0 x1 x2 x3)(h3:p3 x0 x1 x2 x3)(x4:α4)(h:t x0 x1 x2 x3 x4):∃x0,∃x1,p0 x0 x1/\p1 x0 x1/\∃x2,∃x3,p2 x0 x1 x2 x3/\p3 x0 x1 x2 x3/\∃x4,t x0 x1 x2 x3 x4:=⟨x0,x1,h0,h1,x2,x3,h2,h3,x4,h⟩
open List renaming getElem?_eq_getElem->aa,length_map->ac,getElem?_eq_some_iff->af,mem_of_getElem?->ah,mem_cons_self->ak,mem_cons_of_mem->ao,mem_cons->ap,mem_singleton->ar,take_of_length_le->av,mem_map->aw,getElem?_map->a6,map_append->a7,length_cons->ba,length_append->be,size_toArray->bf,all_eq_true->bh,getElem?_append_right->bj,mem_append->bn,getD_eq_getElem?_getD->bo,getElem?_append_left->bp,mem_append_right->bu,not_mem_nil->bz,mem_map_of_mem->b9,mem_iff_getElem?->cj,pairwise_iff_getElem->cp,length_singleton->cv,range->cz,length_take->c8,map_cons->dh,getElem_mem->dq,pairwise_map->dt,getElem?_of_mem->dw,length_eq_zero_iff->fb,mem_append_left->fh,mem_filter->fj,pairwise_cons->f8,map_map->gb,length_nil->gc,getElem?_take_of_lt->gg,mem_of_mem_take->gt,take_length->gu,mem_range->gy,append_nil->gz,nodup_cons->g0,length_drop->ie,lookup_cons->ig,all_map->ik,length_range->ip,map_congr_left->iq,zip_cons_cons->iu,getElem?_eq_none->ix,getElem?_drop->iy,getElem?_toArray->i8,mem_iff_getElem->jb,take_add_one->jd,cons_lt_cons_iff->jx
open PySem renaming wpAny_bind->ab,wpAny_pure->am,boot_len->bb,wpAny_holding->db,wpAny_truthy_bool->dz,codeAny_builtin->et,wpAny_newObj_type->fq,wpAny_callSpecial?_slot->fu,wpAny_setState_of->fy,wpAny_Call_Name_kw->f9,wpAny_call_entry->gd,sizeLine_eq->gf,mem_of_lookup->gv,wpAny_loadPart'->g9,plainId_quiet->iw,wpAny_pyIter_list->jc,wpAny_forIn_list->jh,wpAny_mono->jj,wpAny_seqItems->jm,wpAny_setField->jn,wpAny_passesOwn->jr,codeAny_mono->js,wpAny_field->jv
open PySem.Str renaming ofString->ae,join->de
open PySem.Heap renaming get?_push_of_some->ai,get?_push_size->a0,lt_size->bc,SameBut->br,get?_update_other->cm,get?_update_self->cu,size_push->jl,ExtBut->jw
open Bool renaming false_ne_true->aj,false_eq_true->a9,and_eq_true->cb,false_and->cf,and_eq_true_iff->da,eq_iff_iff->du,not_true->gn,and_false->ij
open Nat renaming le_refl->aq,ne_of_lt->ca,lt_of_lt_of_le->ci,le_of_lt->cq,zero_le->dv,le_trans->fg,pow_le_pow_right->f7,mod_eq_of_lt->ge,lt_irrefl->gx,lt_succ_self->ir,sub_self->iz,pow_succ->jg
open PySem.W renaming Frag->au,nsIn->bw,mg_none_of->cn,mg_of->fz,kia_one->gm,kitOne->jk,fnOf->jt
open PySem.PyData renaming depthAll->ay,eqv->b8,depth->cy,canLayAll0->gi,strOk->ju
open Array renaming length_toList->a8,getElem?_eq_getElem->bq,getElem?_toList->bv,getElem?_eq_some_iff->ck
open Option renaming map_eq_some_iff->bg
open PyProof.Rows renaming boot_isinstance->bi,callWith_type1->en,boot_tuple->e9,callWith_builtin1->je,boot_int->jy
open PySem.F renaming called_set->bm,plainAttrs_str->c7,slot_list_append->eu,type_list_append->e8,plainAttrs_list->fc,slot_str_join->ia,type_str_join->ib,slot_str_ascii_iterator_next->jf,plain_min_loop->ji,slot_str_split->jo,type_str_split->jp
open Int renaming eq_ofNat_of_zero_le->b7,toNat_natCast->gh
open Option.some renaming inj->cg
open List.Nodup renaming length_le_of_subset->cw
open PySem.PassesOwn renaming never->cx
open Classical renaming byContradiction->dg
open PySem.Around renaming under_plainId->dn
open PySem.Builtin.SmallTypes renaming nextOf->ff
open PySem.Heap.SameBut renaming update->fk
open List.Pairwise renaming imp_of_mem->gj
open PySem.SetTable renaming insertAt->gk
open PySem.Builtin.Str renaming occurrences->gl
open PySem.StrLaws renaming sumLen_le->gp
open PySem.Obj renaming mapSeq->gq
open List.Perm renaming refl->gw
open PyProof.Rows.F renaming plain_set_update_loop->ii
open PySem.SeqAt.ReadsAll renaming length->i9
open PySem.Builtin.Tuple renaming tupleHashOf->ja
open PySem.Calls renaming spliced_cons->jq
namespace L3
structure Ord(lt:Nat->Nat->Bool):Prop where
 asy:∀a b,lt a b=true->lt b a=false
 tr:∀a b c,lt b a=false->lt c b=false->lt c a=false
noncomputable def xM(lt:Nat->Nat->Bool)(x:Nat):U Nat->U Nat
 | []=>[x]
 | y::l=>if lt y x=true then y::xM lt x l else x::y::l
noncomputable def DI(lt:Nat->Nat->Bool):U Nat->U Nat
 | []=>[]
 | x::l=>xM lt x<|DI lt l
noncomputable def srt(lt:Nat->Nat->Bool)(n:Nat):U Nat:=DI lt<|cz n
theorem Jo(lt:Nat->Nat->Bool)(x:Nat):∀l,(xM lt x l).Perm (x::l)
 | []=>gw _
 | y::l=>by
  unfold xM;split
  .exact((Jo lt x l).cons y).trans (List.Perm.swap x y l)
  .exact gw _
theorem adi(lt:Nat->Nat->Bool):∀l,(DI lt l).Perm l
 | []=>gw _
 | x::l=>(Jo lt x _).trans ((adi lt l).cons x)
def zl(lt:Nat->Nat->Bool)(n:Nat):(srt lt n).Perm (cz n):=adi lt _
def tf(lt:Nat->Nat->Bool)(n:Nat):(srt lt n).length=n:=by rw[(zl lt n).length_eq,ip]
theorem Ord.irr{lt:Nat->Nat->Bool}(o:Ord lt)(a:Nat):lt a a=false:=by
 cases h:lt a a with
 | false=>rfl
 | true=>exact h.symm.trans<|o.asy a a h
theorem aju{lt:Nat->Nat->Bool}(o:Ord lt)(x:Nat):∀{l:U Nat},l.Pairwise (λa b=>lt b a=false)->(xM lt x l).Pairwise (λa b=>lt b a=false)
 | [],_=>by simp[xM]
 | y::l,h=>by
  have h':=f8.mp h;unfold xM;split
  .rename_i hy
   refine f8.mpr ⟨λz hz=>?_,aju o x h'.2⟩;rcases ap.mp ((Jo lt x l).mem_iff.mp hz)with rfl|hz
   .exact o.asy _ _ hy
   .exact h'.1 z hz
  .rename_i hy
   have lX:lt y x=false:=by simpa using hy
   refine f8.mpr ⟨λz hz=>?_,h⟩;rcases ap.mp hz with rfl|hz
   .exact lX
   .exact o.tr _ _ _ lX<|h'.1 z hz
theorem ali{lt:Nat->Nat->Bool}(o:Ord lt):∀l,(DI lt l).Pairwise (λa b=>lt b a=false)
 | []=>List.Pairwise.nil
 | x::l=>aju o x<|ali o l
def Iu{lt:Nat->Nat->Bool}(o:Ord lt)(n:Nat){i j:Nat}(h1:i<=j)(h2:j<n):lt ((srt lt n).getD j 0) ((srt lt n).getD i 0)=false:=by
 have hl:=tf lt n;have hj:j<(srt lt n).length:=by lia
 have hi:i<(srt lt n).length:=by lia
 rw[bo,bo,aa hj,aa hi];show lt (srt lt n)[j] (srt lt n)[i]=false;by_cases e:i=j
 .subst e;exact o.irr _
 .exact cp.mp (ali o<|cz n) i j hi hj<|by lia
end L3
namespace L2
open PySem PySem.Spec PyProof.Rows
noncomputable abbrev Key:=Sum Int Str
noncomputable def zW:Key->aA->Bool
 | .inl k,v=>aA.isInt k v
 | .inr x,v=>aA.isStrOf x v
noncomputable def ayh(w:aL):Key->Int
 | .inl k=>hashInt k
 | .inr x=>dI w x
theorem ot:∀{k:Key} {v:aA},zW k v=true->(∃i t,k=Sum.inl i/\v=aA.int i t)\/(∃x t,k=Sum.inr x/\v=aA.str x t)
 | .inl i,v,h=>by obtain⟨t,e⟩:=aA.isInt_shape (k:=i) (v:=v) h;exact .inl ⟨i,t,rfl,e⟩
 | .inr x,v,h=>by obtain⟨t,e⟩:=aA.isStrOf_shape (x:=x) (v:=v) h;exact .inr ⟨x,t,rfl,e⟩
def ait(i:Int)(t:gR):zW (.inl i) (.int i t)=true:=by simp[zW,aA.isInt]
def aks(x:Str)(t:gR):zW (.inr x) (.str x t)=true:=by simp[zW,aA.isStrOf]
def auo(a b:Int):decide ((Sum.inl a:Key)=Sum.inl b)=(a==b):=by
 by_cases e:a=b
 .subst e;simp
 .have h:¬(Sum.inl a:Key)=Sum.inl b:=λq=>e<|Sum.inl.inj q;rw[decide_eq_false h];exact(beq_eq_false_iff_ne.mpr e).symm
def aus(a b:Str):decide ((Sum.inr a:Key)=Sum.inr b)=decide (a=b):=by
 by_cases e:a=b
 .subst e;simp
 .have h:¬(Sum.inr a:Key)=Sum.inr b:=λq=>e<|Sum.inr.inj q;rw[decide_eq_false h,decide_eq_false e]
def asr(a:Int)(b:Str):decide ((Sum.inl a:Key)=Sum.inr b)=false:=decide_eq_false λq=>nomatch q
def asz(a:Str)(b:Int):decide ((Sum.inr a:Key)=Sum.inl b)=false:=decide_eq_false λq=>nomatch q
noncomputable def pc(prog:aJ)(w:aL):PySem.KeyKind prog w Key where
 is:=zW
 hash:=ayh w
 inj:=λv a b ha hb=>by
  rcases ot ha with ⟨i,t,rfl,rfl⟩|⟨x,t,rfl,rfl⟩
  .rcases ot hb with ⟨j,u,rfl,e⟩|⟨y,u,rfl,e⟩
   .injection e with e1 _;rw[e1]
   .exact nomatch e
  .rcases ot hb with ⟨j,u,rfl,e⟩|⟨y,u,rfl,e⟩
   .exact nomatch e
   .injection e with e1 _;rw[e1]
 byValue:=λk v h=>by rcases ot h with ⟨i,t,rfl,rfl⟩|⟨x,t,rfl,rfl⟩<;>rfl
 pyHash:=λhv h=>by
  rcases ot hv with ⟨i,t,rfl,rfl⟩|⟨x,t,rfl,rfl⟩
  .exact CN h
  .exact CM h
 eqBool:=λhu hv h=>by
  rcases ot hu with ⟨i,t,rfl,rfl⟩|⟨x,t,rfl,rfl⟩
  .rcases ot hv with ⟨j,u,rfl,rfl⟩|⟨y,u,rfl,rfl⟩
   .rw[auo]at h;exact wpAny_eqBool_int h
   .rw[asr]at h;exact SeqAt.EqAt.int_str i t y u _ _ _ _ h
  .rcases ot hv with ⟨j,u,rfl,rfl⟩|⟨y,u,rfl,rfl⟩
   .rw[asz]at h;exact SeqAt.EqAt.str_int x t j u _ _ _ _ h
   .rw[aus]at h;exact wpAny_eqBool_str h
 «strs»:=λk x t v h=>by
  rcases ot h with ⟨i,u,rfl,e⟩|⟨y,u,rfl,e⟩
  .exact nomatch e
  .injection e with e1 _
   subst e1;cases v<;>rfl
def aet(prog:aJ)(w:aL)(i:Int)(t:gR):(pc prog w).is (.inl i) (.int i t)=true:=ait i t
def ae6(prog:aJ)(w:aL)(x:Str)(t:gR):(pc prog w).is (.inr x) (.str x t)=true:=aks x t
inductive V where
 | non|bl (b:Bool)|int (i:Int)|str (x:Str)|byt (b:Array UInt8)|flt (b:UInt64)|ref (a:aF)|ty (n:String)
 deriving DecidableEq
def RelV:V->aA->Prop
 | .non,u=>u=aA.none
 | .bl b,u=>u=aA.bool b
 | .int i,u=>∃t,u=aA.int i t
 | .str x,u=>∃t,u=aA.str x t
 | .byt b,u=>∃t,u=aA.bytes b t
 | .flt b,u=>∃t,u=aA.float b t
 | .ref a,u=>u=aA.ref a
 | .ty n,u=>u=aA.type n
noncomputable abbrev Vals:U V->U aA->Prop:=cS RelV
theorem Vals.length{xs:U V}{us:U aA}(r:Vals xs us):xs.length=us.length:=cS.length r
theorem Vals.get:∀{xs:U V} {us:U aA} {i:Nat} {x:V},Vals xs us->xs[i]?=some x->∃u,us[i]?=some u/\RelV x u
 | _,_,_,_,.nil,e=>by simp at e
 | _,_,0,_,.cons r _,e=>by simp at e;subst e;exact⟨_,rfl,r⟩
 | _,_,i+1,x,.cons _ t,e=>by obtain⟨u,h1,h2⟩:=Vals.get (i:=i) (x:=x) t (by simpa using e);exact⟨u,by simpa using h1,h2⟩
theorem Vals.set{x:V}{u:aA}(r:RelV x u):∀{xs:U V} {us:U aA} (i:Nat),Vals xs us->Vals (xs.set i x) (us.set i u)
 | _,_,_,.nil=>.nil
 | _,_,0,.cons _ t=>.cons r t
 | _,_,i+1,.cons q t=>.cons q<|Vals.set r i t
theorem Vals.append:∀{xs ys:U V} {us ws:U aA},Vals xs us->Vals ys ws->Vals (xs++ys) (us++ws)
 | _,_,_,_,.nil,s=>s
 | _,_,_,_,.cons r t,s=>.cons r<|Vals.append t s
theorem Vals.take:∀{xs:U V} {us:U aA} (n:Nat),Vals xs us->Vals (xs.take n) (us.take n)
 | _,_,0,_=>.nil
 | _,_,_+1,.nil=>.nil
 | _,_,n+1,.cons r t=>.cons r<|Vals.take n t
theorem Vals.drop:∀{xs:U V} {us:U aA} (n:Nat),Vals xs us->Vals (xs.drop n) (us.drop n)
 | _,_,0,r=>r
 | _,_,_+1,.nil=>.nil
 | _,_,n+1,.cons _ t=>Vals.drop n t
def RelO:Option V->Option aA->Prop
 | some v,some u=>RelV v u
 | none,none=>True
 | _,_=>False
def KV{κ:Type}:U (κ×V)->U (κ×aA)->Prop:=cS λ(p:κ×V) (q:κ×aA)=>p.1=q.1/\RelV p.2 q.2
noncomputable def kV:Key->V
 | .inl i=>.int i
 | .inr x=>.str x
inductive HO where
 | lst (xs:U V)
 | tup (xs:U V)
 | dK (aP:U (Key×V))|dT (aP:U (U Key×V))
 | set (S:Int->Bool) (n:Nat)
 | ins (C dx:aF) (fs:U (Str×V))
 | own (x:aF)
 | xd (fs:U (Str×V))
 | met (f x:aF)
 | rng (lo hi:Int)
 | frz (o:Obj) (u:HO)
 | tbl (ps:Array aA)
 | ext (φ:Heap->Prop)
noncomputable abbrev Hp:=aF->Option HO
noncomputable def upd(H:Hp)(a:aF)(o:HO):Hp:=λb=>if b=a then some o else H b
def j5{H:Hp}{a:aF}{o:HO}:upd H a o a=some o:=by unfold upd;rw[if_pos rfl]
def kg{H:Hp}{a b:aF}{o:HO}(h:b≠a):upd H a o b=H b:=by unfold upd;rw[if_neg h]
def HJ{H:Hp}{a b:aF}{o u:HO}(h:H a=some o)(h':H b=some u)(d:o≠u):a≠b:=by intro e;subst e;rw[h]at h';exact d<|cg h'
def l7{H:Hp}{a b:aF}{o:HO}(h:H a=some o)(h':H b=none):a≠b:=by intro e;subst e;rw[h]at h';cases h'
section
variable(P:aJ)(w:aL)
def ObjOk(H:Hp)(h:Heap)(a:aF):HO->Prop
 | .lst xs=>xs.length<=aG/\∃(its:U aA)(n:Nat),Vals xs its/\h.get? a=some {cls:=.type "list",data:=.seq its.toArray n}
 | .tup xs=>xs.length<=aG/\∃its:U aA,Vals xs its/\IsTup h a its.toArray
 | .dK aP=>aP.length<=aG/\(a==aX)=false/\∃vs,KV aP vs/\h.DictOf (pc P w) a vs
 | .dT aP=>aP.length<=aG/\(a==aX)=false/\∃xs:U (U Key×aF×aA),
   cS (λ(p:U Key×V) (q:U Key×aF×aA)=>p.1=q.1/\H q.2.1=some (.tup<|p.1.map kV)/\RelV p.2 q.2.2) aP xs/\
   ∃o es ep,h.get? a=some o/\o.ExactDict/\o.data=.dict es ep/\es.toList=xs.map (entryOfKey<|fS<|pc P w)/\(xs.map (·.1)).Nodup
 | .set S n=>h.SetOf (intKind P w) a S n
 | .ins C dx fs=>H dx=some (.own a)/\fs.length<=1000/\dx≠a/\h.get? a=some (PySem.W.instObj C dx)/\
   ∃mA,h.Ns1 dx mA/\(∀f,RelO (fs.lookup f)<|mA f)/\PySem.Within mA (fs.map (·.1))
 | .own _=>∃o,h.get? a=some o
 | .xd fs=>∃mA,h.Ns1 a mA/\∀f,RelO (fs.lookup f) (mA f)
 | .rng lo hi=>∃t u v,h.get? a=some {cls:=.type "range",data:=.fields #[.int lo t,.int hi u,.int 1 v]}
 | .frz o u=>h.get? a=some o/\ObjOk H h a u
 | .tbl ps=>h.get? a=some {cls:=.none,data:=.fields ps}
 | .met f x=>h.get? a=some (PySem.W.methodObj (.ref f)<|.ref x)
 | .ext φ=>φ h/\(∃o,h.get? a=some o)/\∀h1 h2:Heap,φ h1->(∀o,h1.get? a=some o->h2.get? a=some o)->φ h2
def HOk(H:Hp)(h:Heap):Prop:=∀a o,H a=some o->ObjOk P w H h a o
end
section
variable{P:aJ}{w:aL}{H H':Hp}{h h':Heap}{a:aF}{o:HO}
theorem ObjOk.lt(x:ObjOk P w H h a o):a<h.objs.size:=by
 cases o with
 | lst xs=>obtain⟨_,_,_,_,e⟩:=x;exact bc e
 | tup xs=>obtain⟨_,_,_,p⟩:=x;exact p.lt
 | dK aP=>obtain⟨_,_,_,_,o,_,_,e,_⟩:=x;exact bc e
 | dT aP=>obtain⟨_,_,_,_,o,_,_,e,_⟩:=x;exact bc e
 | set S n=>obtain⟨o,_,_,_,e,_⟩:=x;exact bc e
 | ins C dx fs=>obtain⟨_,_,_,e,_⟩:=x;exact bc e
 | own y=>obtain⟨_,e⟩:=x;exact bc e
 | xd fs=>obtain⟨_,⟨_,_,_,e,_⟩,_⟩:=x;exact bc e
 | rng lo hi=>obtain⟨_,_,_,e⟩:=x;exact bc e
 | frz ob u=>obtain⟨e,_⟩:=x;exact bc e
 | tbl ps=>exact bc (show h.get? a=some _ from x)
 | met f y=>exact bc (show h.get? a=some _ from x)
 | ext φ=>obtain⟨_,⟨_,e⟩,_⟩:=x;exact bc e
theorem cS.mapP{α β:Type}{F G:α->β->Prop}:∀{l₁:List α} {l₂:List β},cS F l₁ l₂->(∀a b,F a b->G a b)->cS G l₁ l₂
 | _,_,.nil,_=>.nil
 | _,_,.cons r t,f=>.cons (f _ _ r)<|cS.mapP t f
theorem ObjOk.stay(x:ObjOk P w H h a o)(k:∀b u,(b=a\/H b=some (.own a))->h.get? b=some u->h'.get? b=some u)
  (ho:∀b,H b=some (.own a)->H' b=some (.own a)) (ht:∀b xs,H b=some (.tup xs)->H' b=some (.tup xs)):ObjOk P w H' h' a o:=by
 induction o with
 | lst xs=>obtain⟨z,its,n,r,e⟩:=x;exact⟨z,its,n,r,k _ _ (.inl rfl) e⟩
 | tup xs=>obtain⟨z,its,r,ob,e,c⟩:=x;exact⟨z,its,r,ob,k _ _ (.inl rfl) e,c⟩
 | dK aP=>obtain⟨z,y,vs,r,ob,es,ep,e,c⟩:=x;exact⟨z,y,vs,r,ob,es,ep,k _ _ (.inl rfl) e,c⟩
 | dT aP=>
  obtain⟨z,y,xs,r,ob,es,ep,e,c⟩:=x;exact⟨z,y,xs,cS.mapP r λp q z=>⟨z.1,ht _ _ z.2.1,z.2.2⟩,ob,es,ep,k _ _ (.inl rfl) e,c⟩
 | set S n=>obtain⟨ob,es,ep,t,e,c⟩:=x;exact⟨ob,es,ep,t,k _ _ (.inl rfl) e,c⟩
 | ins C dx fs=>
  obtain⟨d,z,ne,e,mA,⟨od,es,ep,e2,c⟩,r⟩:=x;exact⟨ho _ d,z,ne,k _ _ (.inl rfl) e,mA,⟨od,es,ep,k _ _ (.inr d) e2,c⟩,r⟩
 | own y=>obtain⟨ob,e⟩:=x;exact⟨ob,k _ _ (.inl rfl) e⟩
 | xd fs=>obtain⟨mA,⟨od,es,ep,e,c⟩,r⟩:=x;exact⟨mA,⟨od,es,ep,k _ _ (.inl rfl) e,c⟩,r⟩
 | rng lo hi=>obtain⟨t,u,v,e⟩:=x;exact⟨t,u,v,k _ _ (.inl rfl) e⟩
 | frz ob u ih=>obtain⟨e,q⟩:=x;exact⟨k _ _ (.inl rfl) e,ih q⟩
 | tbl ps=>
  have e:h.get? a=some {cls:=.none,data:=.fields ps}:=x;show h'.get? a=some {cls:=.none,data:=.fields ps};exact k a _ (.inl rfl) e
 | met f y=>
  have e:h.get? a=some (PySem.W.methodObj (.ref f)<|.ref y):=x;show h'.get? a=some (PySem.W.methodObj (.ref f)<|.ref y);exact k a _ (.inl rfl) e
 | ext φ=>obtain⟨p,⟨o,e⟩,st⟩:=x;exact⟨st _ _ p λo q=>k _ _ (.inl rfl) q,⟨o,k _ _ (.inl rfl) e⟩,st⟩
theorem HOk.lt(x:HOk P w H h)(e:H a=some o):a<h.objs.size:=(x a o e).lt
theorem HOk.fresh(x:HOk P w H h)(e:h.objs.size<=a):H a=none:=by
 cases q:H a with
 | none=>rfl
 | some u=>exact absurd (ci (x.lt q) e)<|gx _
def HOk.kept(x:HOk P w H h)(k:∀b u,h.get? b=some u->h'.get? b=some u):HOk P w H h':=λa o e=>
 (x a o e).stay (λb u _ q=>k b u q) (λ_ q=>q) λ_ _ q=>q
def HOk.laid(x:HOk P w H h)(k:∀b u,h.get? b=some u->h'.get? b=some u)(hp:h.objs.size<=a)(new:ObjOk P w (upd H a o) h' a o):HOk P w (upd H a o) h':=λb u e=>by
 have hn:=x.fresh hp;by_cases hb:b=a
 .subst hb;rw[j5]at e;cases e;exact new
 .rw[kg hb]at e;exact(x b u e).stay (λc v _ q=>k c v q) (λc q=>by rw[kg (l7 q hn)];exact q) λc xs q=>by rw[kg (l7 q hn)];exact q
end
def Rd(H:Hp)(a:aF)(u:HO):Prop:=H a=some u\/∃o,H a=some (.frz o u)
def Rd.ok{P:aJ}{w:aL}{H:Hp}{h:Heap}{a:aF}{u:HO}(r:Rd H a u)(x:HOk P w H h):ObjOk P w H h a u:=by
 rcases r with r|⟨o,r⟩
 .exact x a u r
 .obtain⟨_,q⟩:=x a _ r;exact q
def Mut:Option HO->Prop
 | some (.lst _)=>True
 | some (.dK _)=>True
 | some (.dT _)=>True
 | some (.set _ _)=>True
 | some (.ins _ _ _)=>True
 | some (.ext _)=>True
 | _=>False
section
variable{P:aJ}{w:aL}{H:Hp}{h h':Heap}{x e:aF}{o':HO}
def HOk.write(ok:HOk P w H h)(mu:Mut (H x))(he:e=x\/H e=some (.own x))(k:∀b u,b≠e->h.get? b=some u->h'.get? b=some u)(zB:∃u,h'.get? e=some u)
  (new:ObjOk P w (upd H x o') h' x o'):HOk P w (upd H x o') h':=λb u q=>by
 have AD:∀c y,H c=some (.own y)->c≠x:=λc y r z=>by subst z;rw[r]at mu;exact mu
 have EO:∀c xs,H c=some (.tup xs)->c≠x:=λc xs r z=>by subst z;rw[r]at mu;exact mu
 by_cases hb:b=x
 .subst hb;rw[j5]at q;cases q;exact new
 .rw[kg hb]at q;by_cases wX:b=e
  .have q':H b=some (.own x):=by
    rcases he with z|z
    .exact absurd (wX.trans z) hb
    .rw[wX];exact z
   rw[q]at q';cases q';obtain⟨v,hv⟩:=zB;exact⟨v,by rw[wX];exact hv⟩
  .refine(ok b u q).stay (λc v hc r=>k c v ?_ r) (λc r=>by rw[kg (AD c b r)];exact r) λc xs r=>by rw[kg (EO c xs r)];exact r
   rcases hc with rfl|hc
   .exact wX
   .rintro rfl;rcases he with z|z
    .exact AD c b hc z
    .rw[hc]at z;cases z;exact hb rfl
end
structure Un(fs ex:U aF)(H H':Hp)(h h':Heap):Prop where
 keep:∀b o,h.get? b=some o->H b=none->b∉fs->b∉ex->h'.get? b=some o
 slot:∀b o,h.get? b=some o->H b=none->b∈fs->b∉ex->∃sl,h'.get? b=some {o with slots:=sl}
 free:∀b o,h.get? b=some o->H b=none->b∉ex->H' b=none
 there:∀b o,h.get? b=some o->b∉ex->∃o',h'.get? b=some o'
 tups:∀b xs,H b=some (.tup xs)->H' b=some (.tup xs)
 frzs:∀b o u,H b=some (.frz o u)->H' b=some (.frz o u)
 tbls:∀b ps,H b=some (.tbl ps)->∃more,H' b=some (.tbl<|ps++more)
section
variable{fs fs' ex ex':U aF}{H H1 H2:Hp}{h h1 h2 h':Heap}{a x e:aF}{o:HO}
def Un.any(u:Un fs ex H H1 h h1){b:aF}{ob:Obj}(q:h.get? b=some ob)(n:H b=none)(hx:b∉ex):∃sl,h1.get? b=some {ob with slots:=sl}:=by
 by_cases hb:b∈fs
 .exact u.slot b ob q n hb hx
 .exact⟨ob.slots,u.keep b ob q n hb hx⟩
def Un.kept(k:∀b u,h.get? b=some u->h'.get? b=some u):Un fs ex H H h h':=
 ⟨λb ob q _ _ _=>k b ob q,λb ob q _ _ _=>⟨ob.slots,k b ob q⟩,λ_ _ _ n _=>n,λb ob q _=>⟨ob,k b ob q⟩,λ_ _ q=>q,λ_ _ _ q=>q,λ_ ps q=>⟨#[],by rw[q];simp⟩⟩
def Un.refl:Un fs ex H H h h:=Un.kept λ_ _ q=>q
def Un.laid(k:∀b u,h.get? b=some u->h'.get? b=some u)(hp:h.objs.size<=a)(hn:H a=none):Un fs ex H (upd H a o) h h' where
 keep:=λb u q _ _ _=>k b u q
 slot:=λb u q _ _ _=>⟨u.slots,k b u q⟩
 free:=λb u q n _=>by rw[kg (ca<|ci (bc q) hp)];exact n
 there:=λb u q _=>⟨u,k b u q⟩
 tups:=λb xs q=>by rw[kg (l7 q hn)];exact q
 frzs:=λb u xs q=>by rw[kg (l7 q hn)];exact q
 tbls:=λb ps q=>⟨#[],by rw[kg (l7 q hn),q];simp⟩
def Un.write(mu:Mut (H x))(he:e=x\/H e=some (.own x))(k:∀b u,b≠e->h.get? b=some u->h'.get? b=some u)(zB:∃u,h'.get? e=some u):Un fs ex H (upd H x o) h h':=by
 have hx:∀b,H b=none->b≠x:=λb n z=>by subst z;rw[n]at mu;exact mu
 have hb:∀b,H b=none->b≠e:=λb n z=>by
  subst z;rcases he with r|r
  .exact hx b n r
  .rw[n]at r;cases r
 have hm:∀b u,H b=some u->¬Mut (some u)->b≠x:=λb u q nm z=>by subst z;rw[q]at mu;exact nm mu
 refine⟨λb u q n _ _=>k b u (hb b n) q,λb u q n _ _=>⟨u.slots,k b u (hb b n) q⟩,λb u q n _=>by rw[kg (hx b n)];exact n,λb u q _=>?_,
  λb xs q=>by rw[kg (hm b _ q λz=>z)];exact q,λb u xs q=>by rw[kg (hm b _ q λz=>z)];exact q,λb ps q=>⟨#[],by rw[kg (hm b _ q λz=>z),q];simp⟩⟩
 by_cases wX:b=e
 .subst wX;exact zB
 .exact⟨u,k b u wX q⟩
end
noncomputable def trk(h:Heap)(H:Hp):U aF:=(cz h.objs.size).filter λa=>(H a).isSome
noncomputable def tD(h:Heap)(H:Hp):Heap:=PySem.W.hideAll h<|trk h H
def aic(h:Heap)(H:Hp):(tD h H).objs.size=h.objs.size:=PySem.W.hideAll_size _ _
def amz{h:Heap}{H:Hp}{b:aF}{o:Obj}(e:h.get? b=some o)(n:H b=none):(tD h H).get? b=some o:=
 PySem.W.hideAll_get _ e λhm=>by have q:(H b).isSome=true:=(fj.mp hm).2;rw[n]at q;simp at q
theorem arr{h:Heap}{H:Hp}{b:aF}{o:Obj}(e:(tD h H).get? b=some o):h.get? b=some o/\H b=none:=by
 have e':h.get? b=some o:=PySem.W.of_hideAll (trk h H) e;refine⟨e',?_⟩;cases q:H b with
 | none=>rfl
 | some x=>
  have hm:b∈trk h H:=fj.mpr ⟨gy.mpr<|bc e',by simp[q]⟩;have z:(tD h H).get? b=none:=PySem.W.hideAll_none (trk h H) hm;rw[z]at e;cases e
structure Mod(K:au)(mg:Str->Option aA)(base:Heap):Prop where
 kin:K.In base
 glob:base.Ns aK mg
 blt:∃mb,base.Ns zM mb/\∀x:Str,x≠"__name__"->mb x=cA x
 nolimit:base.NoLimit
structure Cx where
 prog:aJ
 w:aL
 K:au
 mg:Str->Option aA
 base:Heap
 A:Around
 N:U Str
 s₀:aC
 H₀:Hp
 env:qE
 outer:U qE
 stack:U qE
 ex:U aF
 fn:Str->Bool
 calm:Bool
 pn:U (aF×Obj)
 xe:aA->aC->Prop
noncomputable def frs(l:U qE):U aF:=l.filterMap (·.frame)
noncomputable abbrev Cx.fs(X:Cx):U aF:=frs X.outer
def Vis(sc:cF)(x:Str):Prop:=sc.names.lookup x=some .local\/sc.names.lookup x=some .cell\/sc.names.lookup x=some .free
def Loc(sc:cF)(x:Str):Prop:=sc.names.lookup x=some .local\/sc.names.lookup x=some .cell
def axw(env:qE)(h:Heap)(m:Str->Option aA)(x:Str)(u:aA):Prop:=
 (env.kindOf x=some .local/\m x=some u)\/((env.kindOf x=some .cell\/env.kindOf x=some .free)/\∃c,env.cells.lookup x=some c/\h.IsCell c (some u))
structure Cx.Ok(X:Cx):Prop where
 mod:Mod X.K X.mg X.base
 kind:X.env.scope.kind=.function
 glob:X.env.globals=aK
 blt:X.env.builtins=zM
 above:X.s₀.heap.objs.size<=X.env.locals
 inj:∀x y c,X.env.cells.lookup x=some c->X.env.cells.lookup y=some c->x=y
 has:∀x,(X.env.kindOf x=some .cell\/X.env.kindOf x=some .free)->∃c,X.env.cells.lookup x=some c
 cab:∀x c,X.fn x=true->X.env.cells.lookup x=some c->X.s₀.heap.objs.size<=c
 hd:X.calm=true->X.A.handled=none
 frames:X.A.frames=some X.stack
 stk:X.stack=X.outer\/(X.stack=X.env::X.outer/\X.env.frame=some X.env.locals)
 exf:∀b∈X.ex,b≠X.env.locals/\∀x c,X.env.cells.lookup x=some c->c≠b
 bs:∀b o,X.base.get? b=some o->X.s₀.heap.get? b=some o/\X.H₀ b=none
 bsz:X.base.objs.size<=X.s₀.heap.objs.size
 noex:∀b o,X.base.get? b=some o->b∉X.ex
 exfs:∀b∈X.ex,b∉X.fs
 funs:X.s₀.heap.FunFrames X.base X.outer
 frf:∀b∈X.fs,X.H₀ b=none
structure Inv(X:Cx)(aE:U (aF×Obj))(σ:U (Option V))(H:Hp)(s:aC):Prop where
 ok:X.Ok
 os:s.os=X.s₀.os
 bare:eP s.gens
 base:Un X.fs X.ex X.H₀ H X.s₀.heap s.heap
 loc:∃m,s.heap.Ns X.env.locals m/\∀(i:Nat)(x:Str)(v:V),X.N[i]?=some x->σ[i]?=some (some v)->Vis X.env.scope x->∃u,RelV v u/\axw X.env s.heap m x u
 cell:∀x c,X.env.cells.lookup x=some c->∃v,s.heap.IsCell c v
 free:H X.env.locals=none
 freeC:∀x c,X.env.cells.lookup x=some c->H c=none
 pin:∀p∈X.pn++aE,s.heap.get? p.1=some p.2/\H p.1=none/\p.1≠X.env.locals/\p.1∉X.fs/\∀v,p.2.data≠.cell v
 hok:HOk X.prog X.w H s.heap
 len:σ.length=X.N.length
section
variable{X:Cx}{aE:U (aF×Obj)}{σ:U (Option V)}{H H':Hp}{s:aC}{h':Heap}
def Cx.Ok.nofr(ok:X.Ok){b:aF}{o:Obj}(e:X.base.get? b=some o):b∉X.fs:=λhb=>by have:=(ok.funs.mem hb).1;rw[e]at this;cases this
theorem Inv.bs(I:Inv X aE σ H s):∀b o,X.base.get? b=some o->s.heap.get? b=some o/\H b=none:=λb o e=>
 ⟨I.base.keep b o (I.ok.bs b o e).1 (I.ok.bs b o e).2 (I.ok.nofr e) (I.ok.noex b o e),I.base.free b o (I.ok.bs b o e).1 (I.ok.bs b o e).2 (I.ok.noex b o e)⟩
def Inv.bk(I:Inv X aE σ H s):∀b o,X.base.get? b=some o->s.heap.get? b=some o:=λb o e=>(I.bs b o e).1
theorem Inv.mod(I:Inv X aE σ H s):Mod X.K X.mg X.base:=I.ok.mod
def Inv.kIn(I:Inv X aE σ H s):X.K.In s.heap:=I.ok.mod.kin.keeps I.bk
theorem Inv.lt(I:Inv X aE σ H s):X.env.locals<s.heap.objs.size:=let ⟨_,hn,_⟩:=I.loc;hn.lt
def Inv.sz(I:Inv X aE σ H s):X.s₀.heap.objs.size<=s.heap.objs.size:=fg I.ok.above<|cq I.lt
def Inv.nofs(I:Inv X aE σ H s){a:aF}(h:s.heap.objs.size<=a):a∉X.fs:=λhb=>by obtain⟨_,o,ho,_⟩:=I.ok.funs.mem hb;exact absurd (ci (bc ho)<|fg I.sz h)<|gx _
def Inv.cne(I:Inv X aE σ H s):∀x c,X.env.cells.lookup x=some c->c≠X.env.locals:=λx c e z=>by obtain⟨v,o,ho,hd⟩:=I.cell x c e;obtain⟨m,⟨o',es,ep,mT,iY,_⟩,_⟩:=I.loc;rw[z,mT]at ho;cases ho;rw[iY]at hd;cases hd
theorem Inv.funs(I:Inv X aE σ H s):s.heap.FunFrames X.base X.outer:=by
 have all:∀(l:U qE),(∀b∈frs l,b∈X.fs)->X.s₀.heap.FunFrames X.base l->s.heap.FunFrames X.base l:=by
  intro l;induction l with
  | nil=>intro _ _;trivial
  | cons env r ih=>
   intro hs hl;obtain⟨hk,⟨L,o,hf,hn,ho,hd⟩,hr⟩:=hl;have hL:L∈X.fs:=hs L (by unfold frs;rw[List.filterMap_cons,hf];exact ak);obtain⟨sl,e⟩:=I.base.slot L o ho (I.ok.frf L hL) hL λz=>I.ok.exfs L z hL;exact⟨hk,⟨L,_,hf,hn,e,hd⟩,ih (λb hb=>hs b<|by unfold frs;rw[List.filterMap_cons,hf];exact ao _ hb) hr⟩
 exact all X.outer (λ_ hb=>hb) I.ok.funs
theorem Inv.stack(I:Inv X aE σ H s):s.heap.FunFrames X.base X.stack:=by
 rcases I.ok.stk with e|⟨e,hf⟩
 .rw[e];exact I.funs
 .rw[e];obtain⟨m,hn,_⟩:=I.loc;refine .cons (by rw[I.ok.kind];decide) hf hn ?_ I.funs;exact Heap.get?_none_of_le<|fg I.ok.bsz I.ok.above
def Inv.stkSub(I:Inv X aE σ H s):∀b∈frs X.stack,b∈X.env.locals::X.fs:=λb hb=>by
 rcases I.ok.stk with e|⟨e,hf⟩
 .rw[e]at hb;exact ao _ hb
 .rw[e]at hb;unfold frs at hb;rw[List.filterMap_cons,hf]at hb;exact hb
def Inv.stkFree(I:Inv X aE σ H s):∀b∈frs X.stack,H b=none:=λb hb=>by
 rcases ap.mp (I.stkSub b hb)with e|hb
 .rw[e];exact I.free
 .obtain⟨_,o,ho,_⟩:=I.ok.funs.mem hb;exact I.base.free b o ho (I.ok.frf b hb) λz=>I.ok.exfs b z hb
def Inv.step{g':Array iU}{t':Nat}{d':Drawn}{ch:U aF}(I:Inv X aE σ H s)
  (mX:∀b∈ch,(b∈X.ex\/X.s₀.heap.objs.size<=b)/\b≠X.env.locals/\(∀x c,X.env.cells.lookup x=some c->c≠b)/\∀p∈X.pn++aE,p.1≠b)
  (keep:∀b o,b≠X.env.locals->b∉X.fs->b∉ch->s.heap.get? b=some o->H b=none->h'.get? b=some o)
  (slot:∀b o,b≠X.env.locals->b∈X.fs->b∉ch->s.heap.get? b=some o->H b=none->∃sl,h'.get? b=some {o with slots:=sl}) (free:∀b o,b∉ch->s.heap.get? b=some o->H b=none->H' b=none)
  (there:∀b o,b∉ch->s.heap.get? b=some o->∃o',h'.get? b=some o')
  (tups:∀b xs,H b=some (.tup xs)->H' b=some (.tup xs)) (frzs:∀b o u,H b=some (.frz o u)->H' b=some (.frz o u)) (tbls:∀b ps,H b=some (.tbl ps)->∃more,H' b=some (.tbl<|ps++more))
  (ns:∀m,s.heap.Ns X.env.locals m->h'.Ns X.env.locals m) (hok:HOk X.prog X.w H' h') (hg:eP g') :
  Inv X aE σ H' {s with heap:=h',gens:=g',drawn:=d',toks:=t'}:=by
 have neL:∀b o,X.s₀.heap.get? b=some o->b≠X.env.locals:=λb o e=>ca<|ci (bc e) I.ok.above;have C4:∀b o,X.s₀.heap.get? b=some o->b∉X.ex->b∉ch:=λb o e hx hb=>by
  rcases(mX b hb).1 with z|z
  .exact hx z
  .exact absurd (ci (bc e) z)<|gx _
 have vG:∀x c,X.env.cells.lookup x=some c->∀v,s.heap.IsCell c v->h'.IsCell c v:=λx c e v ⟨o,ho,hd⟩=>by
  have AF:c∉ch:=λz=>(mX c z).2.2.1 x c e rfl;by_cases hc:c∈X.fs
  .obtain⟨sl,q⟩:=slot c o (I.cne x c e) hc AF ho<|I.freeC x c e;exact⟨_,q,hd⟩
  .exact⟨o,keep c o (I.cne x c e) hc AF ho<|I.freeC x c e,hd⟩
 refine⟨I.ok,I.os,hg,⟨λb o e n hb hx=>?_,λb o e n hb hx=>?_,λb o e n hx=>?_,λb o e hx=>?_,λb xs e=>tups b xs<|I.base.tups b xs e,λb o xs e=>frzs b o xs<|I.base.frzs b o xs e,λb ps e=>?_⟩,?_,λx c e=>?_,?_,λx c e=>?_,λp hp=>?_,hok,I.len⟩
 .exact keep b o (neL b o e) hb (C4 b o e hx) (I.base.keep b o e n hb hx)<|I.base.free b o e n hx
 .obtain⟨sl,e1⟩:=I.base.slot b o e n hb hx;obtain⟨sl',e2⟩:=slot b _ (neL b o e) hb (C4 b o e hx) e1<|I.base.free b o e n hx;exact⟨sl',e2⟩
 .obtain⟨o',e1⟩:=I.base.there b o e hx;exact free b o' (C4 b o e hx) e1<|I.base.free b o e n hx
 .obtain⟨o',e1⟩:=I.base.there b o e hx;exact there b o' (C4 b o e hx) e1
 .obtain⟨m1,e1⟩:=I.base.tbls b ps e;obtain⟨m2,e2⟩:=tbls b _ e1;exact⟨m1++m2,by rw[e2,Array.append_assoc]⟩
 .obtain⟨m,hn,hl⟩:=I.loc;refine⟨m,ns m hn,λi x v e1 e2 e3=>?_⟩;obtain⟨u,r,l⟩:=hl i x v e1 e2 e3;refine⟨u,r,?_⟩;rcases l with l|⟨k,c,e,z⟩
  .exact .inl l
  .exact .inr ⟨k,c,e,vG x c e _ z⟩
 .obtain⟨v,z⟩:=I.cell x c e;exact⟨v,vG x c e v z⟩
 .obtain⟨m,⟨o,_,_,ho,_⟩,_⟩:=I.loc;exact free _ o (λz=>(mX _ z).2.1 rfl) ho I.free
 .obtain⟨v,o,ho,hd⟩:=I.cell x c e;exact free c o (λz=>(mX c z).2.2.1 x c e rfl) ho<|I.freeC x c e
 .obtain⟨e,n,ne,nf,d⟩:=I.pin p hp;have AF:p.1∉ch:=λz=>(mX p.1 z).2.2.2 p hp rfl;exact⟨keep p.1 p.2 ne nf AF e n,free p.1 p.2 AF e n,ne,nf,d⟩
def Inv.un{t':Nat}(I:Inv X aE σ H s)(u:Un X.fs [] H H' s.heap h')(hok:HOk X.prog X.w H' h'):Inv X aE σ H' {s with heap:=h',toks:=t'}:=by
 obtain⟨m,⟨o,es,ep,ho,r⟩,_⟩:=id I.loc;obtain⟨sl,hL⟩:=u.any ho I.free (by simp);exact I.step (g':=s.gens) (d':=s.drawn) (ch:=[]) (λ_ z=>nomatch z) (λb o _ hb _ e n=>u.keep b o e n hb<|by simp) (λb o _ hb _ e n=>u.slot b o e n hb<|by simp) (λb o _ e n=>u.free b o e n<|by simp) (λb o _ e=>u.there b o e<|by simp) u.tups u.frzs u.tbls (λm' hm=>by obtain⟨o',Gv,Gw,mT,r'⟩:=hm;rw[ho]at mT;cases mT;exact⟨_,Gv,Gw,hL,r'⟩) hok I.bare
def Inv.call{g':Array iU}{t':Nat}{d':Drawn}{ch:U aF}(I:Inv X aE σ H s)(u:Un (frs X.stack) ch H H' s.heap h')(hok:HOk X.prog X.w H' h')(hg:eP g')
  (mX:∀b∈ch,(b∈X.ex\/X.s₀.heap.objs.size<=b)/\b≠X.env.locals/\(∀x c,X.env.cells.lookup x=some c->c≠b)/\∀p∈X.pn++aE,p.1≠b) :
  Inv X aE σ H' {s with heap:=h',gens:=g',drawn:=d',toks:=t'}:=by
 obtain⟨m,⟨o,es,ep,ho,r⟩,_⟩:=id I.loc;obtain⟨sl,hL⟩:=u.any ho I.free λz=>(mX _ z).2.1 rfl;exact I.step (ch:=ch) mX (λb o hL hb hc e n=>u.keep b o e n (λz=>(ap.mp<|I.stkSub b z).elim hL hb) hc) (λb o _ _ hc e n=>u.any e n hc) (λb o hc e n=>u.free b o e n hc) (λb o hc e=>u.there b o e hc) u.tups u.frzs u.tbls (λm' hm=>by obtain⟨o',Gv,Gw,mT,r'⟩:=hm;rw[ho]at mT;cases mT;exact⟨_,Gv,Gw,hL,r'⟩) hok hg
def Inv.turned{t':Nat}{it:aF}(I:Inv X aE σ H s)(k:∀b o,b≠it->s.heap.get? b=some o->h'.get? b=some o)(hn:H it=none)(hL:it≠X.env.locals)
  (h1:it∈X.ex\/X.s₀.heap.objs.size<=it) (h2:∀x c,X.env.cells.lookup x=some c->c≠it) (h3:∀p∈X.pn++aE,p.1≠it):Inv X aE σ H {s with heap:=h',toks:=t'}:=by
 have nit:∀b u,H b=some u->b≠it:=λb u e z=>by rw[z,hn]at e;cases e
 refine I.step (g':=s.gens) (d':=s.drawn) (ch:=[it]) (λb hb=>?_) (λb o _ _ hc e _=>k b o (λz=>hc<|by simp[z]) e) (λb o _ _ hc e _=>⟨o.slots,k b o (λz=>hc<|by simp[z]) e⟩) (λ_ _ _ _ n=>n)
  (λb o hc e=>⟨o,k b o (λz=>hc<|by simp[z]) e⟩) (λ_ _ e=>e) (λ_ _ _ e=>e) (λb ps e=>⟨#[],by rw[e];simp⟩) (λm hm=>?_) (λb u e=>?_) I.bare
 .have e:b=it:=by simpa using hb
  subst e;exact⟨h1,hL,h2,h3⟩
 .obtain⟨o,es,ep,ho,r⟩:=hm;exact⟨o,es,ep,k _ o (Ne.symm hL) ho,r⟩
 .refine(I.hok b u e).stay (λc v hc q=>k c v ?_ q) (λ_ q=>q) λ_ _ q=>q;rcases hc with z|z
  .rw[z];exact nit b u e
  .exact nit c _ z
def Inv.tok(I:Inv X aE σ H s)(t:Nat):Inv X aE σ H {s with toks:=t}:=I.un (h':=s.heap) (t':=t) Un.refl I.hok
theorem Inv.kept{t':Nat}(I:Inv X aE σ H s)(k:∀b u,s.heap.get? b=some u->h'.get? b=some u):Inv X aE σ H {s with heap:=h',toks:=t'}:=I.un (Un.kept k)<|I.hok.kept k
theorem Inv.laid{a:aF}{o:HO}{t':Nat}(I:Inv X aE σ H s)(k:∀b u,s.heap.get? b=some u->h'.get? b=some u)(hp:s.heap.objs.size<=a)(new:ObjOk X.prog X.w (upd H a o) h' a o) :
  Inv X aE σ (upd H a o) {s with heap:=h',toks:=t'}:=I.un (Un.laid k hp<|I.hok.fresh hp)<|I.hok.laid k hp new
theorem Inv.write{x e:aF}{o:HO}{t':Nat}(I:Inv X aE σ H s)(mu:Mut (H x))(he:e=x\/H e=some (.own x))(k:∀b u,b≠e->s.heap.get? b=some u->h'.get? b=some u)(zB:∃u,h'.get? e=some u)
  (new:ObjOk X.prog X.w (upd H x o) h' x o):Inv X aE σ (upd H x o) {s with heap:=h',toks:=t'}:=I.un (Un.write mu he k zB)<|I.hok.write mu he k zB new
def Inv.weak{σ':U (Option V)}(I:Inv X aE σ H s)(hl:σ'.length=σ.length)(w:∀(i:Nat) v,σ'[i]?=some (some v)->σ[i]?=some (some v)):Inv X aE σ' H s:=
 ⟨I.ok,I.os,I.bare,I.base,let ⟨m,hn,qR⟩:=I.loc;⟨m,hn,λi x v e1 e2 e3=>qR i x v e1 (w i v e2) e3⟩,I.cell,I.free,I.freeC,I.pin,I.hok,hl.trans I.len⟩
def Inv.pins_of{tT:U (aF×Obj)}(I:Inv X aE σ H s)(h:∀p∈tT,s.heap.get? p.1=some p.2/\H p.1=none/\p.1≠X.env.locals/\p.1∉X.fs/\∀v,p.2.data≠.cell v):Inv X tT σ H s:=
 ⟨I.ok,I.os,I.bare,I.base,I.loc,I.cell,I.free,I.freeC,λp hp=>(bn.mp hp).elim (λz=>I.pin p<|fh _ z) (h p),I.hok,I.len⟩
def af6{N:U Str}(hN:N.Nodup){i j:Nat}{x:Str}(a:N[i]?=some x)(b:N[j]?=some x):i=j:=by obtain⟨h1,e1⟩:=af.mp a;obtain⟨h2,e2⟩:=af.mp b;exact(List.getElem_inj hN).mp (e1.trans e2.symm)
def aea{M:Model}{A:Around}{E:aA->aC->Prop}{i:Nat}{x:Str}{v:V}{u:aA}{Q:Unit->aC->Prop}(I:Inv X aE σ H s)(hN:X.N.Nodup)(hi:X.N[i]?=some x)(hx:Loc X.env.scope x)(r:RelV v u)
  (h:∀s',Inv X aE (σ.set i<|some v) H s'->(∃a,br a s.heap s'.heap/\(a=X.env.locals\/X.env.cells.lookup x=some a))->Q () s') (hf:X.fn x=true\/X.env.scope.names.lookup x=some .local:=by first|exact .inl rfl|exact .inr rfl|assumption):aH M A (CS X.env x u) Q E s:=by
 obtain⟨m,hn,hl⟩:=id I.loc;have wV:(X.env.scope.kind==.class||(X.env.scope.kind==.module&&X.env.locals != X.env.globals))=false:=by rw[I.ok.kind];rfl
 have hiσ:i<σ.length:=by rw[I.len];exact(af.mp hi).1
 have cne:=I.cne;have lH:∀{a:aF} {h':Heap},(∃o,s.heap.get? a=some o/\H a=none)->br a s.heap h'->HOk X.prog X.w H h':=λ{a h'} ha hs b ob e=>by
  obtain⟨_,_,bS⟩:=ha;refine(I.hok b ob e).stay (λc w' hc q=>(hs.2 c ?_).trans q) (λ_ q=>q) λ_ _ q=>q;rintro rfl;rcases hc with rfl|hc
  .rw[bS]at e;cases e
  .rw[bS]at hc;cases hc
 rcases hx with hk|hk
 .refine wpAny_storeName_local hk hn (λh' fE hs=>?_) wV;obtain⟨oL,_,_,Bc,_⟩:=id hn;refine h _ ⟨I.ok,I.os,I.bare,⟨λb o e n hb hx=>?_,λb o e n hb hx=>?_,I.base.free,λb o e hx=>?_,I.base.tups,I.base.frzs,I.base.tbls⟩,⟨_,fE,λj y v' e1 e2 e3=>?_⟩,λy c e=>?_,I.free,I.freeC,λp hp=>?_,lH ⟨oL,Bc,I.free⟩ hs,by simpa using I.len⟩ ⟨_,hs,.inl rfl⟩
  .exact(hs.2 b<|ca<|ci (bc e) I.ok.above).trans (I.base.keep b o e n hb hx)
  .obtain⟨sl,e1⟩:=I.base.slot b o e n hb hx;exact⟨sl,(hs.2 b<|ca<|ci (bc e) I.ok.above).trans e1⟩
  .obtain⟨o',e1⟩:=I.base.there b o e hx;exact⟨o',(hs.2 b<|ca<|ci (bc e) I.ok.above).trans e1⟩
  .by_cases hj:j=i
   .subst hj;rw[hi]at e1;cases e1;rw[List.getElem?_set_self hiσ]at e2;cases e2;exact⟨u,r,.inl ⟨hk,by simp⟩⟩
   .rw[List.getElem?_set_ne (Ne.symm hj)]at e2;obtain⟨u',r',q⟩:=hl j y v' e1 e2 e3;refine⟨u',r',?_⟩;rcases q with ⟨k,e⟩|⟨k,c,e,z⟩
    .refine .inl ⟨k,?_⟩;have:y≠x:=λe=>hj<|af6 hN e1<|e▸hi;simp[this,e]
    .exact .inr ⟨k,c,e,z.sameBut hs<|cne y c e⟩
  .obtain⟨w',z⟩:=I.cell y c e;exact⟨w',z.sameBut hs<|cne y c e⟩
  .obtain⟨e,n,ne,nf,d⟩:=I.pin p hp;exact⟨(hs.2 p.1 ne).trans e,n,ne,nf,d⟩
 .have F0:X.fn x=true:=by
   rcases hf with z|z
   .exact z
   .rw[z]at hk;cases hk
  obtain⟨c,hc⟩:=I.ok.has x<|.inl hk;obtain⟨w',z⟩:=I.cell x c hc;refine wpAny_storeName_cell I.ok.kind hk hc z λh' nR hs=>?_;obtain⟨oc,hoc,FB⟩:=id z;refine h {s with heap:=h'} ⟨I.ok,I.os,I.bare,⟨λb o e n hb hx=>?_,λb o e n hb hx=>?_,I.base.free,λb o e hx=>?_,I.base.tups,I.base.frzs,I.base.tbls⟩,⟨m,hn.sameBut hs<|Ne.symm<|cne x c hc,λj y v' e1 e2 e3=>?_⟩,λy c' e=>?_,I.free,I.freeC,λp hp=>?_,lH ⟨oc,hoc,I.freeC x c hc⟩ hs,by simpa using I.len⟩ ⟨c,hs,.inr hc⟩
  .exact(hs.2 b<|ca<|ci (bc e)<|I.ok.cab x c F0 hc).trans (I.base.keep b o e n hb hx)
  .obtain⟨sl,e1⟩:=I.base.slot b o e n hb hx;exact⟨sl,(hs.2 b<|ca<|ci (bc e)<|I.ok.cab x c F0 hc).trans e1⟩
  .obtain⟨o',e1⟩:=I.base.there b o e hx;exact⟨o',(hs.2 b<|ca<|ci (bc e)<|I.ok.cab x c F0 hc).trans e1⟩
  .by_cases hj:j=i
   .subst hj;rw[hi]at e1;cases e1;rw[List.getElem?_set_self hiσ]at e2;cases e2;exact⟨u,r,.inr ⟨.inl hk,c,hc,nR⟩⟩
   .rw[List.getElem?_set_ne (Ne.symm hj)]at e2;obtain⟨u',r',q⟩:=hl j y v' e1 e2 e3;refine⟨u',r',?_⟩;rcases q with q|⟨k,c',e,z'⟩
    .exact .inl q
    .refine .inr ⟨k,c',e,z'.sameBut hs ?_⟩;rintro rfl;exact hj<|af6 hN e1<|I.ok.inj _ _ _ e hc▸hi
  .by_cases hcc:c'=c
   .subst hcc;exact⟨_,nR⟩
   .obtain⟨w2,z2⟩:=I.cell y c' e;exact⟨w2,z2.sameBut hs hcc⟩
  .obtain⟨e,n,ne,nf,d⟩:=I.pin p hp;refine⟨(hs.2 p.1 ?_).trans e,n,ne,nf,d⟩;intro q;rw[q,hoc]at e;have q':oc=p.2:=cg e;exact d w'<|by rw[<-q'];exact FB
def IU{M:Model}{A:Around}{E:aA->aC->Prop}{i:Nat}{x:Str}{v:V}{u:aA}{Q:Unit->aC->Prop}(I:Inv X aE σ H s)(hN:X.N.Nodup)(hi:X.N[i]?=some x)(hx:Loc X.env.scope x)(r:RelV v u)
  (h:∀s',Inv X aE (σ.set i<|some v) H s'->Q () s') (hf:X.fn x=true\/X.env.scope.names.lookup x=some .local:=by first|exact .inl rfl|exact .inr rfl|assumption):aH M A (CS X.env x u) Q E s:=
 aea I hN hi hx r (λs' I' _=>h s' I') hf
def Inv.call'{s':aC}{ch:U aF}(I:Inv X aE σ H s)(ho:s'.os=s.os)(u:Un (frs X.stack) ch H H' s.heap s'.heap)(hok:HOk X.prog X.w H' s'.heap)(hg:eP s'.gens)
  (mX:∀b∈ch,(b∈X.ex\/X.s₀.heap.objs.size<=b)/\b≠X.env.locals/\(∀x c,X.env.cells.lookup x=some c->c≠b)/\∀p∈X.pn++aE,p.1≠b):Inv X aE σ H' s':=by
 obtain⟨h',g',d',t',o'⟩:=s';have e:o'=s.os:=ho;subst e;exact I.call (g':=g') (t':=t') (d':=d') u hok hg mX
end
abbrev XK:=aA->Option aF->Hp->Prop
noncomputable abbrev St:=U<|Option V
abbrev VK:=V->Hp->Prop
abbrev TE:=St->Hp->VK->Prop
abbrev TT:=St->Hp->(Bool->Hp->Prop)->Prop
abbrev TA:=St->Hp->(U V->Hp->Prop)->Prop
structure mI where
 nx:St->Hp->Prop
 rt:VK
 bk:St->Hp->Prop:=λ_ _=>False
 ct:St->Hp->Prop:=λ_ _=>False
abbrev TS:=mI->St->Hp->Prop
def EP(X:Cx)(aE:U (aF×Obj))(σ:St)(Q:VK)(u:aA)(s':aC):Prop:=∃v H',Inv X aE σ H' s'/\RelV v u/\Q v H'
def TP(X:Cx)(aE:U (aF×Obj))(σ:St)(Q:Bool->Hp->Prop)(b:Bool)(s':aC):Prop:=∃H',Inv X aE σ H' s'/\Q b H'
def AP(X:Cx)(aE:U (aF×Obj))(σ:St)(Q:U V->Hp->Prop)(us:U aA)(s':aC):Prop:=∃vs H',Inv X aE σ H' s'/\Vals vs us/\Q vs H'
def SP(X:Cx)(aE:U (aF×Obj))(D:mI)(f:Flow)(s':aC):Prop:=
 match f with
 | .next=>∃σ' H',Inv X aE σ' H' s'/\D.nx σ' H'
 | .brk=>∃σ' H',Inv X aE σ' H' s'/\D.bk σ' H'
 | .cont=>∃σ' H',Inv X aE σ' H' s'/\D.ct σ' H'
 | .ret u=>∃v σ' H',Inv X aE σ' H' s'/\RelV v u/\D.rt v H'
def PE(X:Cx)(e:Expr)(t:TE):Prop:=
 ∀(aE:U (aF×Obj)) (s:aC) (σ:St) (H:Hp) (Q:VK),Inv X aE σ H s->t σ H Q->aH (aI X.prog X.w) X.A (bR e X.env) (EP X aE σ Q) X.xe s
def PT(X:Cx)(e:Expr)(t:TT):Prop:=
 ∀(aE:U (aF×Obj)) (s:aC) (σ:St) (H:Hp) (Q:Bool->Hp->Prop),Inv X aE σ H s->t σ H Q->aH (aI X.prog X.w) X.A (isTrue e X.env<|bR e X.env) (TP X aE σ Q) X.xe s
def PW(X:Cx)(e:Expr)(t:TT):Prop:=
 ∀(gE:Jr aA) (aE:U (aF×Obj)) (s:aC) (σ:St) (H:Hp) (Q:Bool->Hp->Prop),Inv X aE σ H s->t σ H Q->aH (aI X.prog X.w) X.A (isTrue e X.env gE) (TP X aE σ Q) X.xe s
def PW.pt{X:Cx}{e:Expr}{t:TT}(h:PW X e t):PT X e t:=h _
def PA(X:Cx)(es:U Expr)(t:TA):Prop:=
 ∀(pos:dE) (aE:U (aF×Obj)) (s:aC) (σ:St) (H:Hp) (Q:U V->Hp->Prop),Inv X aE σ H s->t σ H Q->aH (aI X.prog X.w) X.A (kI<|bM pos<|aM es X.env) (AP X aE σ Q) X.xe s
def PS(X:Cx)(st:aS)(t:TS):Prop:=
 ∀(aE:U (aF×Obj)) (s:aC) (σ:St) (H:Hp) (D:mI),Inv X aE σ H s->t D σ H->aH (aI X.prog X.w) X.A (exec st X.env) (SP X aE D) X.xe s
def PSs(X:Cx)(st:U aS)(t:TS):Prop:=
 ∀(aE:U (aF×Obj)) (s:aC) (σ:St) (H:Hp) (D:mI),Inv X aE σ H s->t D σ H->aH (aI X.prog X.w) X.A (execs st X.env) (SP X aE D) X.xe s
def thn{α:Type}{t:Jr α}{Q Q':α->aC->Prop}{M:Model}{A:Around}{E:aA->aC->Prop}{s:aC}(h:aH M A t Q E s)(hQ:∀a s,Q a s->Q' a s):aH M A t Q' E s:=jj h hQ λ_ _ x=>x
section
variable{X:Cx}
def yb(i:Nat):TE:=λσ H Q=>∃v,σ[i]?=some (some v)/\Q v H
def tC(v:V):TE:=λ_ H Q=>Q v H
def atd{i:Nat}{x:Str}{pos:dE}(hN:X.N[i]?=some x)(hv:Vis X.env.scope x)(hd:(x==("__debug__" : Str))=false:=by decide)(nQ:(x==("__classdict__" : Str))=false:=by decide):PE X (.Name x pos) (yb i):=by
 intro aE s σ H Q I h;obtain⟨v,e,h⟩:=h;obtain⟨m,hn,hl⟩:=I.loc;obtain⟨u,r,l⟩:=hl i x v hN e hv;have fin:EP X aE σ Q u s:=⟨v,H,I,r,h⟩;rcases l with ⟨hk,hm⟩|⟨hk,c,hc,mB⟩
 .exact yD (tM I.ok.kind hk hn hm fin) hd
 .rcases hk with hk|hk
  .exact yD (vN I.ok.kind hk hc mB fin) hd
  .exact yD (wpAny_loadName_free I.ok.kind hk hc mB fin nQ) hd
def j2{i j pos}:PE X (.Constant (.int i) j pos) (tC<|.int i):=λ_ _ _ H _ I h=>wpAny_Constant_int ⟨.int i,H,I.tok _,⟨_,rfl⟩,h⟩
def om{b j pos}:PE X (.Constant (.bool b) j pos) (tC<|.bl b):=λ_ _ _ H _ I h=>Constant_bool ⟨.bl b,H,I,rfl,h⟩
def Ck{j pos}:PE X (.Constant .none j pos) (tC .non):=λ_ _ _ H _ I h=>Constant_none ⟨.non,H,I,rfl,h⟩
def lv{x j pos}:PE X (.Constant (.str x) j pos) (tC<|.str x):=λ_ _ _ H _ I h=>Calls.Constant_str ⟨.str x,H,I.tok _,⟨_,rfl⟩,h⟩
def Gl(X:Cx)(x:Str):Prop:=X.env.kindOf x=some .globalImplicit
def alt{E:aA->aC->Prop}{aE:U (aF×Obj)}{s:aC}{σ:St}{H:Hp}{x:Str}{u:aA}{pos:dE}{Q:aA->aC->Prop}(I:Inv X aE σ H s)(hg:Gl X x)(hm:X.mg x=some u)(h:Q u s)
  (hd:(x==("__debug__" : Str))=false:=by decide):aH (aI X.prog X.w) X.A (bR (.Name x pos) X.env) Q E s:=
 Calls.Name_function_global I.ok.kind hg (Calls.loadGlobal_global (by rw[I.ok.glob];exact I.mod.glob.keeps I.bk) hm h) hd
def so{E:aA->aC->Prop}{aE:U (aF×Obj)}{s:aC}{σ:St}{H:Hp}{x:Str}{u:aA}{pos:dE}{Q:aA->aC->Prop}(I:Inv X aE σ H s)(hg:Gl X x)(hm:X.mg x=none)(hv:cA x=some u)(h:Q u s)
  (hn:x≠"__name__":=by decide) (hd:(x==("__debug__" : Str))=false:=by decide):aH (aI X.prog X.w) X.A (bR (.Name x pos) X.env) Q E s:=by
 obtain⟨mb,h1,h2⟩:=I.mod.blt;exact Calls.Name_function_global I.ok.kind hg (Calls.loadGlobal_builtin (by rw[I.ok.glob];exact I.mod.glob.keeps I.bk) hm (by rw[I.ok.blt];exact h1.keeps I.bk) ((h2 x hn).trans hv) h) hd
def IG{x:Str}{v:V}{u:aA}{pos:dE}(hg:Gl X x)(hm:X.mg x=some u)(r:RelV v u)(hd:(x==("__debug__" : Str))=false:=by decide):PE X (.Name x pos) (tC v):=
 λ_ _ _ H _ I h=>alt I hg hm ⟨v,H,I,r,h⟩ hd
def nc{x:Str}{v:V}{u:aA}{pos:dE}(hg:Gl X x)(hm:X.mg x=none)(hv:cA x=some u)(r:RelV v u)(hn:x≠"__name__":=by decide)(hd:(x==("__debug__" : Str))=false:=by decide):PE X (.Name x pos) (tC v):=
 λ_ _ _ H _ I h=>so I hg hm hv ⟨v,H,I,r,h⟩ hn hd
variable{a b:Expr}{ta tb:TE}{pos:dE}
def tB(t:TE):TT:=λσ H Q=>t σ H λx H1=>∃c,x=.bl c/\Q c H1
def mq{e:Expr}{t:TE}(h:PE X e t)(he:∀gE,isTrue e X.env gE=(do let v <-gE;An e.pos;fX [v] (truthy v)):=by intro _;rfl):PT X e (tB t):=by intro aE s σ H Q I hw;refine isTrue_plain (thn (h aE s σ H _ I hw) λv s1 ⟨x,H1,I1,r1,q1⟩=>?_)<|he _;obtain⟨d,rfl,q⟩:=q1;cases r1;exact dz ⟨H1,I1,q⟩
variable{tA CP:TT}{bB:U Expr}
def axk(t u:TT):TT:=λσ H Q=>t σ H λc H1=>if c=true then u σ H1 Q else Q false H1
def tOr(t u:TT):TT:=λσ H Q=>t σ H λc H1=>if c=true then Q true H1 else u σ H1 Q
def ayd(t:TT):TT:=λσ H Q=>t σ H λc H1=>Q (!c) H1
theorem aki(ha:PT X a tA):PW X (.BoolOp .And [a] pos) tA:=by
 intro wh aE s σ H Q I h;refine isTrue_and<|thn (ha aE s σ H Q I h) λc s1 e=>?_;cases c with
 | true=>exact isTrue_and_nil e
 | false=>exact e
theorem oe(ha:PT X a tA):PW X (.BoolOp .Or [a] pos) tA:=by
 intro wh aE s σ H Q I h;refine isTrue_or<|thn (ha aE s σ H Q I h) λc s1 e=>?_;cases c with
 | false=>exact isTrue_or_nil e
 | true=>exact e
theorem aod(ha:PT X a tA)(hb:PW X (.BoolOp .And (b::bB) pos) CP):PW X (.BoolOp .And (a::b::bB) pos) (axk tA CP):=by
 intro wh aE s σ H Q I h;refine isTrue_and<|thn (ha aE s σ H _ I h) λc s1 ⟨H1,I1,q1⟩=>?_;cases c with
 | true=>exact hb wh aE s1 σ H1 Q I1 q1
 | false=>exact⟨H1,I1,q1⟩
theorem o6(ha:PT X a tA)(hb:PW X (.BoolOp .Or (b::bB) pos) CP):PW X (.BoolOp .Or (a::b::bB) pos) (tOr tA CP):=by
 intro wh aE s σ H Q I h;refine isTrue_or<|thn (ha aE s σ H _ I h) λc s1 ⟨H1,I1,q1⟩=>?_;cases c with
 | true=>exact⟨H1,I1,q1⟩
 | false=>exact hb wh aE s1 σ H1 Q I1 q1
def k9(ha:PT X a tA):PT X (.UnaryOp .Not a pos) (ayd tA):=by intro aE s σ H Q I h;exact isTrue_not<|ha aE s σ H (λc H1=>Q (!c) H1) I h
def avt(ta tb:TE):TE:=λσ H Q=>ta σ H λx H1=>∃c,x=.bl c/\if c=true then tb σ H1 Q else Q (.bl false) H1
def ax3(ta tb:TE):TE:=λσ H Q=>ta σ H λx H1=>∃c,x=.bl c/\if c=true then Q (.bl true) H1 else tb σ H1 Q
def awc(ta:TE):TE:=λσ H Q=>ta σ H λx H1=>∃c,x=.bl c/\Q (.bl<|!c) H1
def o4{op}{t:TE}(h:PE X a t):PE X (.BoolOp op [a] pos) t:=λaE s σ H Q I hw=>BoolOp_one<|h aE s σ H Q I hw
theorem oa(ha:PE X a ta)(hb:PE X (.BoolOp .And (b::bB) pos) tb):PE X (.BoolOp .And (a::b::bB) pos) (avt ta tb):=by
 intro aE s σ H Q I h;refine BoolOp_and<|thn (ha aE s σ H _ I h) λv s1 ⟨x,H1,I1,r1,q1⟩=>?_;obtain⟨c,rfl,q1⟩:=q1;cases r1;refine dz ?_;cases c with
 | true=>exact hb aE s1 σ H1 Q I1 q1
 | false=>exact⟨.bl false,H1,I1,rfl,q1⟩
theorem zV(ha:PE X a ta)(hb:PE X (.BoolOp .Or (b::bB) pos) tb):PE X (.BoolOp .Or (a::b::bB) pos) (ax3 ta tb):=by
 intro aE s σ H Q I h;refine BoolOp_or<|thn (ha aE s σ H _ I h) λv s1 ⟨x,H1,I1,r1,q1⟩=>?_;obtain⟨c,rfl,q1⟩:=q1;cases r1;refine dz ?_;cases c with
 | false=>exact hb aE s1 σ H1 Q I1 q1
 | true=>exact⟨.bl true,H1,I1,rfl,q1⟩
def aoy(ha:PE X a ta):PE X (.UnaryOp .Not a pos) (awc ta):=by intro aE s σ H Q I h;refine UnaryOp_<|thn (ha aE s σ H _ I h) λv s1 ⟨x,H1,I1,r1,q1⟩=>?_;obtain⟨c,rfl,q1⟩:=q1;cases r1;exact not_of<|dz ⟨.bl<|!c,H1,I1,rfl,q1⟩
def tIf(t:TT)(ta tb:TE):TE:=λσ H Q=>t σ H λc H1=>if c=true then ta σ H1 Q else tb σ H1 Q
theorem amy{c:Expr}(hc:PT X c tA)(ha:PE X a ta)(hb:PE X b tb):PE X (.IfExp c a b pos) (tIf tA ta tb):=by
 intro aE s σ H Q I h;refine wpAny_IfExp<|thn (hc aE s σ H _ I h) λd s1 ⟨H1,I1,q1⟩=>?_;cases d with
 | true=>exact ha aE s1 σ H1 Q I1 q1
 | false=>exact hb aE s1 σ H1 Q I1 q1
end
def SqL(K:au)(H:Hp)(a:aF)(xs:U V):Prop:=
 Rd H a (.lst xs)\/
  ∃(o:Obj)(its:Array aA)(n:Nat),K.lookup a=some o/\o.cls=.type "list"/\o.dict=none/\o.data=.seq its n/\its.size<=aG/\Vals xs its.toList
def SqT(K:au)(H:Hp)(a:aF)(xs:U V):Prop:=
 Rd H a (.tup xs)\/
  ∃(o:Obj)(its:Array aA)(n:Nat),K.lookup a=some o/\o.cls=.type "tuple"/\o.data=.seq its n/\its.size<=aG/\Vals xs its.toList
noncomputable def aym:aA->Option V
 | .none=>some .non
 | .bool b=>some (.bl b)
 | .int i _=>some (.int i)
 | .str x _=>some (.str x)
 | .bytes b _=>some (.byt b)
 | .float b _=>some (.flt b)
 | .ref a=>some (.ref a)
 | .type n=>some (.ty n)
 | _=>none
theorem RelV.abs{x:V}{u:aA}(r:RelV x u):aym u=some x:=by
 cases x with
 | non=>cases r;rfl
 | bl _=>cases r;rfl
 | int _=>obtain⟨t,rfl⟩:=r;rfl
 | str _=>obtain⟨t,rfl⟩:=r;rfl
 | byt _=>obtain⟨t,rfl⟩:=r;rfl
 | flt _=>obtain⟨t,rfl⟩:=r;rfl
 | ref _=>cases r;rfl
 | ty _=>cases r;rfl
def RelV.inj{x y:V}{u:aA}(r:RelV x u)(q:RelV y u):x=y:=cg<|r.abs.symm.trans q.abs
theorem Vals.inj:∀{xs ys:U V} {us:U aA},Vals xs us->Vals ys us->xs=ys
 | _,_,_,.nil,.nil=>rfl
 | _,_,_,.cons r t,.cons r' t'=>by rw[r.inj r',Vals.inj t t']
section
variable{X:Cx}{aE:U (aF×Obj)}{σ:St}{H:Hp}{s:aC}{a:aF}{xs ys:U V}
def SqL.of{K:au}(h:H a=some (.lst xs)):SqL K H a xs:=.inl<|.inl h
def SqT.of{K:au}(h:H a=some (.tup xs)):SqT K H a xs:=.inl<|.inl h
def Inv.list(I:Inv X aE σ H s)(h:SqL X.K H a xs):∃its:U aA,Vals xs its/\PlainL s.heap a its.toArray/\xs.length<=aG:=by
 rcases h with h|⟨o,its,n,hk,hc,hd,hs,hz,r⟩
 .obtain⟨z,its,n,r,e⟩:=h.ok I.hok;exact⟨its,r,⟨_,n,e,rfl,rfl,rfl⟩,z⟩
 .refine⟨its.toList,r,⟨o,n,I.kIn a o hk,hc,hd,by simpa using hs⟩,?_⟩;have e:=r.length;simp only[a8]at e;lia
def Inv.tuple(I:Inv X aE σ H s)(h:SqT X.K H a xs):∃its:U aA,Vals xs its/\IsTup s.heap a its.toArray/\xs.length<=aG:=by
 rcases h with h|⟨o,its,n,hk,hc,hs,hz,r⟩
 .obtain⟨z,its,r,p⟩:=h.ok I.hok;exact⟨its,r,p,z⟩
 .refine⟨its.toList,r,⟨o,I.kIn a o hk,hc,n,by simpa using hs⟩,?_⟩;have e:=r.length;simp only[a8]at e;lia
def Inv.list_inj(I:Inv X aE σ H s)(h:SqL X.K H a xs)(h':SqL X.K H a ys):xs=ys:=by
 obtain⟨its,r,⟨o,n,e,_,_,d⟩,_⟩:=I.list h;obtain⟨its',r',⟨o',n',e',_,_,d'⟩,_⟩:=I.list h';rw[e]at e';cases e';rw[d]at d';injection d' with d1 _
 have:its=its':=by simpa using congrArg Array.toList d1
 subst this;exact r.inj r'
def Inv.tuple_inj(I:Inv X aE σ H s)(h:SqT X.K H a xs)(h':SqT X.K H a ys):xs=ys:=by
 obtain⟨its,r,⟨o,e,_,n,d⟩,_⟩:=I.tuple h;obtain⟨its',r',⟨o',e',_,n',d'⟩,_⟩:=I.tuple h';rw[e]at e';cases e';rw[d]at d';injection d' with d1 _
 have:its=its':=by simpa using congrArg Array.toList d1
 subst this;exact r.inj r'
end
noncomputable abbrev Cx.wish(X:Cx)(E:aA->aC->Prop):Cx:={X with xe:=E}
noncomputable abbrev Cx.nox(X:Cx):Cx:=X.wish λ_ _=>False
theorem Cx.Ok.wish{X:Cx}(ok:X.Ok)(E:aA->aC->Prop):(X.wish E).Ok:=
 ⟨ok.mod,ok.kind,ok.glob,ok.blt,ok.above,ok.inj,ok.has,ok.cab,ok.hd,ok.frames,ok.stk,ok.exf,ok.bs,ok.bsz,ok.noex,ok.exfs,ok.funs,ok.frf⟩
def Cx.Ok.unwish{X:Cx}{E:aA->aC->Prop}(ok:(X.wish E).Ok):X.Ok:=
 ⟨ok.mod,ok.kind,ok.glob,ok.blt,ok.above,ok.inj,ok.has,ok.cab,ok.hd,ok.frames,ok.stk,ok.exf,ok.bs,ok.bsz,ok.noex,ok.exfs,ok.funs,ok.frf⟩
section
variable{X:Cx}{aE:U (aF×Obj)}{σ:St}{H:Hp}{s:aC}{E:aA->aC->Prop}
theorem Inv.wish(I:Inv X aE σ H s)(E:aA->aC->Prop):Inv (X.wish E) aE σ H s:=⟨I.ok.wish E,I.os,I.bare,I.base,I.loc,I.cell,I.free,I.freeC,I.pin,I.hok,I.len⟩
theorem Inv.unwish(I:Inv (X.wish E) aE σ H s):Inv X aE σ H s:=⟨I.ok.unwish,I.os,I.bare,I.base,I.loc,I.cell,I.free,I.freeC,I.pin,I.hok,I.len⟩
theorem SP.unwish{D:mI}{f:Flow}{s':aC}(h:SP (X.wish E) aE D f s'):SP X aE D f s':=by
 cases f with
 | next=>obtain⟨σ',H',I,q⟩:=h;exact⟨σ',H',I.unwish,q⟩
 | brk=>obtain⟨σ',H',I,q⟩:=h;exact⟨σ',H',I.unwish,q⟩
 | cont=>obtain⟨σ',H',I,q⟩:=h;exact⟨σ',H',I.unwish,q⟩
 | ret u=>obtain⟨v,σ',H',I,r,q⟩:=h;exact⟨v,σ',H',I.unwish,r,q⟩
theorem PSs.nox{st:U aS}{t:TS}(h:PSs X.nox st t):PSs X st t:=λaE s σ H D I hw=>
 jj (h aE s σ H D (I.wish _) hw) (λ_ _ q=>q.unwish) λ_ _ z=>False.elim z
end
section
variable{X:Cx}{st:aS}{bB:U aS}{t u:TS}{e:Expr}{te:TE}{pos:dE}
def av6:TS:=λD σ H=>D.nx σ H
def aw2(t u:TS):TS:=λD σ H=>t {D with nx:=u D} σ H
def ku:PSs X [] av6:=λ_ _ σ H _ I h=>eQ ⟨σ,H,I,h⟩
theorem j3(h1:PS X st t)(h2:PSs X bB u):PSs X (st::bB) (aw2 t u):=by
 intro aE s σ H D I h;refine CO<|thn (h1 aE s σ H {D with nx:=u D} I h) λf s1 q=>?_;cases f with
 | next=>
  obtain⟨σ',H',I',q⟩:=q;exact h2 aE s1 σ' H' D I' q
 | ret v=>exact q
 | brk=>exact q
 | cont=>exact q
theorem j4(h1:PS X st t):PSs X [st] t:=by
 intro aE s σ H D I h;refine CO<|thn (h1 aE s σ H D I h) λf s1 q=>?_;cases f with
 | next=>exact eQ q
 | ret v=>exact q
 | brk=>exact q
 | cont=>exact q
def Inv.quiet{aE:U (aF×Obj)}{σ:St}{H:Hp}{s:aC}(I:Inv X aE σ H s):interactive X.env=false:=by simp[interactive,I.ok.kind]
def awh(te:TE):TS:=λD σ H=>te σ H λ_ H1=>D.nx σ H1
def uo(he:PE X e te)(hs:nY e none pos.line X.env=bQ false:=by rfl):PS X (.Expr e pos) (awh te):=by intro aE s σ H D I h;exact wpAny_Expr_any (thn (he aE s σ H _ I h) λv s1 ⟨x,H1,I1,r1,q1⟩=>⟨σ,H1,I1,q1⟩) I.quiet hs
def axy(te:TE):TS:=λD σ H=>te σ H D.rt
def ke(he:PE X e te):PS X (.Return (some e) pos) (axy te):=by intro aE s σ H D I h;exact wpAny_Return_some<|thn (he aE s σ H _ I h) λv s1 ⟨x,H1,I1,r1,q1⟩=>⟨x,σ,H1,I1,r1,q1⟩
def ayg(c:TT)(t u:TS):TS:=λD σ H=>c σ H λb H1=>if b=true then t D σ H1 else u D σ H1
theorem nv{c:Expr}{a b:U aS}{tc:TT}(hc:PT X c tc)(ha:PSs X a t)(hb:PSs X b u):PS X (.If c a b pos) (ayg tc t u):=by
 intro aE s σ H D I h;refine wpAny_If<|thn (hc aE s σ H _ I h) λd s1 ⟨H1,I1,q1⟩=>?_;cases d with
 | true=>exact ha aE s1 σ H1 D I1 q1
 | false=>exact hb aE s1 σ H1 D I1 q1
def ash:TS:=λ_ _ _=>False
def Jc:PS X st ash:=λ_ _ _ _ _ _ h=>h.elim
end
abbrev TG:=V->St->Hp->(St->Hp->Prop)->Prop
abbrev TGs:=U V->St->Hp->(St->Hp->Prop)->Prop
def PG(X:Cx)(bG:Expr)(t:TG):Prop:=
 ∀(aE:U (aF×Obj)) (s:aC) (σ:St) (H:Hp) (v:V) (u:aA) (Q:St->Hp->Prop),Inv X aE σ H s->RelV v u->t v σ H Q->
  aH (aI X.prog X.w) X.A (hX bG X.env u) (λ_ s'=>∃σ' H',Inv X aE σ' H' s'/\Q σ' H') X.xe s
def PGs(X:Cx)(ts:U Expr)(t:TGs):Prop:=
 ∀(aE:U (aF×Obj)) (s:aC) (σ:St) (H:Hp) (vs:U V) (us:U aA) (Q:St->Hp->Prop),Inv X aE σ H s->Vals vs us->t vs σ H Q->
  aH (aI X.prog X.w) X.A (assignInOrder ((bN ts X.env).map (·.2)) us) (λ_ s'=>∃σ' H',Inv X aE σ' H' s'/\Q σ' H') X.xe s
abbrev GV:=V->V->V->Hp->(Hp->Prop)->Prop
def axb(X:Cx)(t:GV):Prop:=
 ∀(aE:U (aF×Obj)) (s:aC) (σ:St) (H:Hp) (o i v:V) (ov iv u:aA) (Q:Hp->Prop),Inv X aE σ H s->RelV o ov->RelV i iv->RelV v u->t o i v H Q->
  aH (aI X.prog X.w) X.A (setItem ov iv u) (λ_ s'=>∃H',Inv X aE σ H' s'/\Q H') X.xe s
abbrev TIp:=V->V->Hp->VK->Prop
def PIp(X:Cx)(op:Operator)(t:TIp):Prop:=
 ∀(aE:U (aF×Obj)) (s:aC) (σ:St) (H:Hp) (x y:V) (v u:aA) (Q:VK),Inv X aE σ H s->RelV x v->RelV y u->t x y H Q->
  aH (aI X.prog X.w) X.A (inplaceOp op v u) (EP X aE σ Q) X.xe s
section
variable{X:Cx}{pos:dE}
def rn(i:Nat):TG:=λv σ H Q=>Q (σ.set i<|some v) H
def j9{i:Nat}{x:Str}(hN:X.N.Nodup)(hi:X.N[i]?=some x)(hx:Loc X.env.scope x)(hf:X.fn x=true\/X.env.scope.names.lookup x=some .local:=by first|exact .inl rfl|exact .inr rfl|assumption):PG X (.Name x pos) (rn i):=by intro aE s σ H v u Q I r h;exact Am<|IU I hN hi hx r (λs' I'=>⟨_,H,I',h⟩) hf
def B3:TGs:=λvs σ H Q=>vs=[]/\Q σ H
def yg(t:TG)(u:TGs):TGs:=λvs σ H Q=>∃v r,vs=v::r/\t v σ H λσ' H'=>u r σ' H' Q
def qm:PGs X [] B3:=by intro aE s σ H vs us Q I r h;obtain⟨e,h⟩:=h;subst e;cases r;exact assignInOrder_nil ⟨σ,H,I,h⟩
theorem k7{e:Expr}{es:U Expr}{t:TG}{u:TGs}(h1:PG X e t)(h2:PGs X es u)
  (hs:(bN (e::es) X.env).map (·.2)=hX e X.env::(bN es X.env).map (·.2):=by rfl):PGs X (e::es) (yg t u):=by
 intro aE s σ H vs us Q I r h;obtain⟨v,vr,e1,h⟩:=h;subst e1;cases r with
 | cons r rr=>
  rw[hs];refine assignInOrder_cons<|thn (h1 aE s σ H _ _ _ I r h) λ_ s1 ⟨σ1,H1,I1,q1⟩=>?_;exact h2 aE s1 σ1 H1 _ _ Q I1 rr q1
def zP(K:au)(n:Nat)(t:TGs):TG:=λv σ H Q=>∃a xs,v=.ref a/\SqT K H a xs/\xs.length=n/\t xs σ H Q
def wa{es:U Expr}{k:Nat}{t:TGs}{n:Nat}(hc:X.calm=true)(h:PGs X es t)
  (hn:(bN es X.env).length=n:=by rfl) (bJ:(bN es X.env).findIdx? (·.1)=none:=by rfl):PG X (.Tuple es k pos) (zP X.K n t):=by
 intro aE s σ H v u Q I r hw;obtain⟨a,xs,e1,hq,hl,hw⟩:=hw;subst e1;cases r;obtain⟨its,rv,ht,hz⟩:=I.tuple hq;refine assign_Tuple_tuple (I.ok.hd hc) ht (by simp[hn,<-hl,rv.length]) bJ λh' hx=>?_;have I1:Inv X aE σ H {s with heap:=h'}:=I.kept (t':=s.toks) λb o e=>hx b o (ca<|bc e) e;exact h aE _ σ H xs _ Q I1 (by simpa using rv) hw
def ayb(to ti:TE)(t:GV):TG:=λv σ H Q=>to σ H λo H1=>ti σ H1 λi H2=>t o i v H2 λH3=>Q σ H3
def ary{o i:Expr}{to ti:TE}{t:GV}(ho:PE X o to)(hi:PE X i ti)(hs:axb X t)
  (ha:∀v,hX (.Subscript o i pos) X.env v=(do
   let ov <-fX [v] (bR o X.env)
   let iv <-fX [v,ov] (bR i X.env)
   An pos
   fX [v,ov,iv] (setItem ov iv v)
   release [v,ov,iv] []):=by intro _;rfl):PG X (.Subscript o i pos) (ayb to ti t):=by
 intro aE s σ H v u Q I r h;rw[ha];refine ab<|db<|thn (ho aE s σ H _ I h) λov s1 ⟨x,H1,I1,r1,q1⟩=>?_;refine ab<|db<|thn (hi aE s1 σ H1 _ I1 q1) λiv s2 ⟨y,H2,I2,r2,q2⟩=>?_;refine ab<|eB<|ab<|db<|thn (hs aE s2 σ H2 x y v ov iv u _ I2 r1 r2 r q2) λ_ s3 ⟨H3,I3,q3⟩=>?_;exact wpAny_release ⟨σ,H3,I3,q3⟩
def G0(te:TE)(g:TG):TS:=λD σ H=>te σ H λx H1=>g x σ H1 D.nx
def Ac{tg e:Expr}{te:TE}{g:TG}(he:PE X e te)(hg:PG X tg g)(hs:swapsWithSole [tg] e pos.line X.env=bQ false:=by rfl)(hw:swappedStores [tg] e X.env=bQ none:=by rfl)
  (h1:(bN [tg] X.env).map (·.2)=[hX tg X.env]:=by rfl):PS X (.Assign [tg] e pos) (G0 te g):=by
 intro aE s σ H D I h;refine wpAny_Assign_stores (thn (he aE s σ H _ I h) λv s1 ⟨x,H1,I1,r1,q1⟩=>?_) hs hw;rw[h1];exact thn (hg aE s1 σ H1 x v _ I1 r1 q1) λ_ s2 q=>q
def ma{i:Nat}{x:Str}{e:Expr}{te:TE}{kJ:dE}(hN:X.N.Nodup)(hi:X.N[i]?=some x)(hx:Loc X.env.scope x)(he:PE X e te)(hs:nY e (some<|.Name x kJ) pos.line X.env=bQ false:=by rfl)(hf:X.fn x=true\/X.env.scope.names.lookup x=some .local:=by first|exact .inl rfl|exact .inr rfl|assumption) :
  PS X (.Assign [.Name x kJ] e pos) (G0 te<|rn i):=by
 intro aE s σ H D I h;refine wpAny_Assign_Name (thn (he aE s σ H _ I h) λv s1 ⟨y,H1,I1,r1,q1⟩=>?_) hs;exact IU I1 hN hi hx r1 (λs2 I2=>⟨_,H1,I2,q1⟩) hf
def ayl(i:Nat)(te:TE)(ti:TIp):TS:=λD σ H=>∃x,σ[i]?=some (some x)/\te σ H λy H1=>ti x y H1 λz H2=>D.nx (σ.set i<|some z) H2
def au4{i:Nat}{x:Str}{e:Expr}{te:TE}{op:Operator}{ti:TIp}{kJ:dE}(hN:X.N.Nodup)(hi:X.N[i]?=some x)(hx:Loc X.env.scope x)(he:PE X e te)(ho:PIp X op ti)(hf:X.fn x=true\/X.env.scope.names.lookup x=some .local:=by first|exact .inl rfl|exact .inr rfl|assumption) :
  PS X (.AugAssign (.Name x kJ) op e pos) (ayl i te ti):=by
 intro aE s σ H D I h;obtain⟨v,e1,h⟩:=h;obtain⟨m,hn,hl⟩:=I.loc;have vis:Vis X.env.scope x:=by rcases hx with k|k;exact .inl k;exact .inr<|.inl k
 obtain⟨u,r,l⟩:=hl i x v hi e1 vis;refine wpAny_AugAssign_Name ?_;have go:aH (aI X.prog X.w) X.A (bR e X.env) (λw s₂=>aH (aI X.prog X.w) X.A (inplaceOp op u w) (λr s₃=>aH (aI X.prog X.w) X.A (CS X.env x r) (λ_=>SP X aE D .next) X.xe s₃) X.xe s₂) X.xe s:=by refine thn (he aE s σ H _ I h) λw s1 ⟨y,H1,I1,r1,q1⟩=>?_;refine thn (ho aE s1 σ H1 v y u w _ I1 r r1 q1) λz s2 ⟨zv,H2,I2,r2,q2⟩=>?_;exact IU I2 hN hi hx r2 (λs3 I3=>⟨_,H2,I3,q2⟩) hf
 rcases l with ⟨hk,hm⟩|⟨hk,c,hc,mB⟩
 .exact tM I.ok.kind hk hn hm go
 .rcases hk with hk|hk
  .exact vN I.ok.kind hk hc mB go
  .rcases hx with k|k
   .have:X.env.scope.names.lookup x=some .free:=hk;rw[k]at this;cases this
   .have:X.env.scope.names.lookup x=some .free:=hk;rw[k]at this;cases this
def ipI(f:Int->Int->Int):TIp:=λx y H Q=>∃i j,x=.int i/\y=.int j/\Q (.int<|f i j) H
def aup:PIp X .Add (ipI λi j=>i+j):=by intro aE s σ H x y v u Q I r1 r2 h;obtain⟨i,j,e1,e2,q⟩:=h;subst e1;subst e2;obtain⟨t,rfl⟩:=r1;obtain⟨t',rfl⟩:=r2;exact iadd_int ⟨.int _,H,I.tok _,⟨_,rfl⟩,q⟩
def asu(c:TT)(tb:TS):TS:=λD σ H=>∃W:Nat->St->Hp->Prop,(∃m,W m σ H)/\∀m σ H,W m σ H->
 c σ H λb H1=>if b=true then ∃N:St->Hp->Prop,(∀σ' H',N σ' H'->∃m',m'<m/\W m' σ' H')/\tb {D with nx:=N,ct:=N,bk:=D.nx} σ H1 else D.nx σ H1
theorem ag9{c:Expr}{body:U aS}{tc:TT}{tb:TS}(hp:PassesOwn (aI X.prog X.w) X.A X.env X.xe)(hc:PT X c tc)(hb:PSs X body tb):PS X (.While c body [] pos) (asu tc tb):=by
 intro aE s σ H D I h;obtain⟨W,⟨m0,w0⟩,turn⟩:=h;refine wpAny_While<|codeAny_whileLoop (λn s'=>∃σ' H',Inv X aE σ' H' s'/\W n σ' H') ?_ m0 ⟨σ,H,I,w0⟩;rintro n s1 ⟨σ1,H1,I1,w1⟩;refine jr hp<|thn (hc aE s1 σ1 H1 _ I1<|turn n σ1 H1 w1) λb s2 ⟨H2,I2,q2⟩=>?_;cases b with
 | true=>
  obtain⟨N,hN,q2⟩:=q2;rw[if_pos rfl];refine jr hp<|thn (hb aE s2 σ1 H2 _ I2 q2) λf s3 q3=>?_;cases f with
  | next=>
   obtain⟨σ3,H3,I3,n3⟩:=q3;obtain⟨m',hm,w3⟩:=hN σ3 H3 n3;exact⟨m',hm,σ3,H3,I3,w3⟩
  | cont=>
   obtain⟨σ3,H3,I3,n3⟩:=q3;obtain⟨m',hm,w3⟩:=hN σ3 H3 n3;exact⟨m',hm,σ3,H3,I3,w3⟩
  | brk=>exact q3
  | ret v=>exact q3
 | false=>
  rw[if_neg aj];exact eQ ⟨σ1,H2,I2,q2⟩
end
structure It where
 go:Nat->Hp->Prop
 yld:Nat->Hp->V->Hp->Prop
 stop:Nat->Hp->Prop
def kZ(X:Cx)(aE:U (aF×Obj))(H:Hp)(b:aF):Prop:=
 H b=none/\b≠X.env.locals/\b∉X.fs/\(b∈X.ex\/X.s₀.heap.objs.size<=b)/\(∀x c,X.env.cells.lookup x=some c->c≠b)/\∀p∈X.pn++aE,p.1≠b
def Inv.fpOk{X:Cx}{aE:U (aF×Obj)}{σ:St}{H H':Hp}{s:aC}{b:aF}(I:Inv X aE σ H s)(hb:s.heap.objs.size<=b)(hn:H' b=none):kZ X aE H' b:=by
 refine⟨hn,Nat.ne_of_gt<|ci I.lt hb,I.nofs hb,.inr<|fg I.sz hb,λx c e z=>?_,λp hp z=>?_⟩
 .obtain⟨v,q⟩:=I.cell x c e;exact absurd (ci q.lt<|by rw[z];exact hb)<|gx _
 .exact absurd (ci (bc (I.pin p hp).1)<|by rw[z];exact hb)<|gx _
structure rH(P:aJ)(w:aL)(K:au)(tg:Expr)(J:It)(fp:U aF)(it:aF)(tn:Nat->Heap->Prop):Prop where
 mem:it∈fp
 obj:∀i h,tn i h->∀b∈fp,∃o,h.get? b=some o/\∀v,o.data≠.cell v
 keep:∀i h h',tn i h->(∀b∈fp,∀o,h.get? b=some o->h'.get? b=some o)->tn i h'
 item:∀(X:Cx),X.prog=P->X.w=w->X.K=K->X.calm=true->∀(i:Nat) (aE:U (aF×Obj)) (s:aC) (σ:St) (H:Hp) (E:aA->aC->Prop),Inv X aE σ H s->(∀b∈fp,kZ X aE H b)->tn i s.heap->J.go i H->
  aH (aI P w) X.A (bA<|.ref it) (λr s1=>∃u,r=some u/\
   aH (aI P w) X.A (eX tg (.ref it) u) (λ_ s2=>∃x H',Inv X aE σ H' s2/\RelV x u/\J.yld i H x H'/\tn (i+1) s2.heap/\∀b∈fp,H' b=none) E s1) E s
 done:∀(X:Cx),X.prog=P->X.w=w->X.K=K->X.calm=true->∀(i:Nat) (aE:U (aF×Obj)) (s:aC) (σ:St) (H:Hp) (E:aA->aC->Prop),Inv X aE σ H s->(∀b∈fp,kZ X aE H b)->tn i s.heap->J.stop i H->
  aH (aI P w) X.A (bA<|.ref it) (λr s1=>r=none/\Inv X aE σ H s1) E s
 self:∀(A:Around)(i:Nat)(s:aC)(Q:aA->aC->Prop)(E:aA->aC->Prop),tn i s.heap->Q (.ref it) s->aH (aI P w) A (gW<|.ref it) Q E s
abbrev TI:=St->Hp->(It->Hp->Prop)->Prop
def PIE(X:Cx)(aE:U (aF×Obj))(σ:St)(tg:Expr)(R:It->Hp->Prop)(C5:aA)(s2:aC):Prop:=
 ∃(it:aF)(fp:U aF)(tn:Nat->Heap->Prop)(J:It)(H':Hp),C5=.ref it/\Inv X aE σ H' s2/\rH X.prog X.w X.K tg J fp it tn/\tn 0 s2.heap/\(∀b∈fp,kZ X aE H' b)/\R J H'
def PI(X:Cx)(tg iter:Expr)(wi:TI):Prop:=
 ∀(aE:U (aF×Obj)) (s:aC) (σ:St) (H:Hp) (R:It->Hp->Prop),Inv X aE σ H s->wi σ H R->
  aH (aI X.prog X.w) X.A (bR iter X.env) (λv s1=>aH (aI X.prog X.w) X.A (gW v) (PIE X aE σ tg R) X.xe s1) X.xe s
theorem Cb{M:Model}{A:Around}{E:aA->aC->Prop}{s:aC}{tg:Expr}{it:aF}{u:aA}{o:Obj}{n:String}{vs:Array aA}{Q:Unit->aC->Prop}(ho:s.heap.get? it=some o)(hc:o.cls=.type n)(hd:o.data=.fields vs)
  (hn:["enumerate","zip","dict_itemiterator","dict_reverseitemiterator","odict_iterator","itertools.zip_longest","itertools.pairwise"].contains n=false) (hQ:Q () s):aH M A (eX tg (.ref it) u) Q E s:=by
 unfold eX;cases tg<;>first
  | exact am hQ
  | (cases u<;>first
    | exact am hQ
    | (refine ab<|yC ho ?_
       rw[hc,hd];show aH M A (if (["enumerate","zip","dict_itemiterator","dict_reverseitemiterator","odict_iterator","itertools.zip_longest","itertools.pairwise"].contains n&&vs[0]?==some (jG _))=true then _ else _) Q E s;rw[if_neg (by intro h;rw[hn,cf]at h;cases h)];exact am hQ))
noncomputable def Itl(K:au)(a:aF):It:=
 ⟨λi H=>∃xs x,SqL K H a xs/\xs[i]?=some x,λi H x H'=>H'=H/\∀xs,SqL K H a xs->xs[i]?=some x,λi H=>∃xs,SqL K H a xs/\xs.length<=i⟩
noncomputable def Itt(K:au)(a:aF):It:=
 ⟨λi H=>∃xs x,SqT K H a xs/\xs[i]?=some x,λi H x H'=>H'=H/\∀xs,SqT K H a xs->xs[i]?=some x,λi H=>∃xs,SqT K H a xs/\xs.length<=i⟩
noncomputable def Itr(lo:Int)(n:Nat):It:=⟨λi _=>i<n,λi H x H'=>H'=H/\x=.int (lo+i),λi _=>n<=i⟩
def adw{P:aJ}{w:aL}{K:au}{tg:Expr}(a it:aF):rH P w K tg (Itl K a) [it] it (λi h=>h.IsListIter it a i)where
 mem:=by simp
 obj:=λi h st b hb=>by
  have e:b=it:=by simpa using hb
  subst e;obtain⟨o,e,c,d⟩:=st;exact⟨o,e,λv z=>by rw[d]at z;cases z⟩
 keep:=λi h h' st k=>st.at λo e=>k it (by simp) o e
 item:=by intro X hP hw hK hc i aE s σ H E I hf st hg;subst hP hw hK;obtain⟨xs,x,hq,hx⟩:=hg;obtain⟨its,rv,p,hz⟩:=I.list hq;obtain⟨u,hu,ru⟩:=rv.get hx;obtain⟨f0,f1,f2,f3,f4,f5⟩:=hf it (by simp);refine qG st p.isList (x:=u) (by simpa using hu) λh' gH sb=>?_;have I1:Inv X aE σ H {s with heap:=h'}:=I.turned (t':=s.toks) (λb o hb e=>(sb.2 b hb).trans e) f0 f1 f3 f4 f5;obtain⟨o,e,c,d⟩:=id gH;exact⟨u,rfl,Cb (s:={s with heap:=h'}) e c d (by decide) ⟨x,H,I1,ru,⟨rfl,λys hy=>by rw[I.list_inj hy hq];exact hx⟩,gH,λb hb=>(hf b hb).1⟩⟩
 done:=by intro X hP hw hK hc i aE s σ H E I hf st hg;subst hP hw hK;obtain⟨xs,hq,hx⟩:=hg;obtain⟨its,rv,p,hz⟩:=I.list hq;obtain⟨f0,f1,f2,f3,f4,f5⟩:=hf it (by simp);have hl:=rv.length;exact rR (I.ok.hd hc) st p.isList (by simp;lia) λh' eb=>⟨rfl,I.turned (t':=s.toks) (λb o hb e=>eb b o hb e) f0 f1 f3 f4 f5⟩
 self:=λ_ _ _ _ _ st h=>wpAny_pyIter_listiter st h
def ab5{P:aJ}{w:aL}{K:au}{tg:Expr}(a it:aF):rH P w K tg (Itt K a) [it] it (λi h=>h.IsTupleIter it a i)where
 mem:=by simp
 obj:=λi h st b hb=>by
  have e:b=it:=by simpa using hb
  subst e;obtain⟨o,e,c,d⟩:=st;exact⟨o,e,λv z=>by rw[d]at z;cases z⟩
 keep:=λi h h' st k=>st.at λo e=>k it (by simp) o e
 item:=by intro X hP hw hK hc i aE s σ H E I hf st hg;subst hP hw hK;obtain⟨xs,x,hq,hx⟩:=hg;obtain⟨its,rv,p,hz⟩:=I.tuple hq;obtain⟨u,hu,ru⟩:=rv.get hx;obtain⟨f0,f1,f2,f3,f4,f5⟩:=hf it (by simp);refine wpAny_pyNext_tuple_item st (show s.heap.IsTuple a its.toArray from p) (x:=u) (by simpa using hu) λh' gH sb=>?_;have I1:Inv X aE σ H {s with heap:=h'}:=I.turned (t':=s.toks) (λb o hb e=>(sb.2 b hb).trans e) f0 f1 f3 f4 f5;obtain⟨o,e,c,d⟩:=id gH;exact⟨u,rfl,Cb (s:={s with heap:=h'}) e c d (by decide) ⟨x,H,I1,ru,⟨rfl,λys hy=>by rw[I.tuple_inj hy hq];exact hx⟩,gH,λb hb=>(hf b hb).1⟩⟩
 done:=by intro X hP hw hK hc i aE s σ H E I hf st hg;subst hP hw hK;obtain⟨xs,hq,hx⟩:=hg;obtain⟨its,rv,p,hz⟩:=I.tuple hq;obtain⟨f0,f1,f2,f3,f4,f5⟩:=hf it (by simp);have hl:=rv.length;exact wpAny_pyNext_tuple_end (I.ok.hd hc) st (show s.heap.IsTuple a its.toArray from p) (by simp;lia) λh' eb=>⟨rfl,I.turned (t':=s.toks) (λb o hb e=>eb b o hb e) f0 f1 f3 f4 f5⟩
 self:=λ_ _ _ _ _ st h=>wpAny_pyIter_tupleiter st h
def ahs{P:aJ}{w:aL}{K:au}{tg:Expr}(it:aF)(lo:Int)(n:Nat):rH P w K tg (Itr lo n) [it] it (λi h=>IsRangeIter h it (lo+(i:Nat)*1) ((n:Int)-(i:Nat)) 1)where
 mem:=by simp
 obj:=λi h st b hb=>by
  have e:b=it:=by simpa using hb
  subst e;exact⟨_,st,λv z=>by have z':Data.fields _=Data.cell v:=z;cases z'⟩
 keep:=λi h h' st k=>k it (by simp) _ st
 item:=by intro X hP hw hK hc i aE s σ H E I hf st hg;subst hP hw hK;obtain⟨f0,f1,f2,f3,f4,f5⟩:=hf it (by simp);have W:=gQ.range (prog:=X.prog) (w:=X.w) (I.ok.hd hc) it lo 1 n;refine W.item i s _ _ hg st λv h' tk hv gH kk=>?_;obtain⟨t,rfl⟩:=hv;have I1:Inv X aE σ H {s with heap:=h',toks:=tk}:=I.turned (λb o hb e=>kk b o (by simpa using hb) e) f0 f1 f3 f4 f5;refine⟨_,rfl,Cb (s:={s with heap:=h',toks:=tk}) (n:="range_iterator") gH rfl rfl (by decide) ⟨.int<|lo+i,H,I1,⟨t,?_⟩,⟨rfl,rfl⟩,gH,λb hb=>(hf b hb).1⟩⟩;rw[Int.mul_one]
 done:=by intro X hP hw hK hc i aE s σ H E I hf st hg;subst hP hw hK;obtain⟨f0,f1,f2,f3,f4,f5⟩:=hf it (by simp);exact wpAny_pyNext_range_end (I.ok.hd hc) st (by have:n<=i:=hg;lia) λh' eb=>⟨rfl,I.turned (t':=s.toks) (λb o hb e=>eb b o hb e) f0 f1 f3 f4 f5⟩
 self:=λ_ _ _ _ _ st h=>wpAny_pyIter_rangeiter st h
section
variable{X:Cx}{tg:Expr}
def B9(K:au)(tl:TE):TI:=λσ H R=>tl σ H λx H1=>∃a,x=.ref a/\(∃xs,SqL K H1 a xs)/\R (Itl K a) H1
def GN(K:au)(tl:TE):TI:=λσ H R=>tl σ H λx H1=>∃a,x=.ref a/\(∃xs,SqT K H1 a xs)/\R (Itt K a) H1
def oh{l:Expr}{tl:TE}(hl:PE X l tl):PI X tg l (B9 X.K tl):=by
 intro aE s σ H R I h;refine thn (hl aE s σ H _ I h) λv s1 ⟨x,H1,I1,r1,q1⟩=>?_;obtain⟨a,e,⟨xs,hq⟩,q⟩:=q1;subst e;cases r1;obtain⟨its,rv,p,hz⟩:=I1.list hq;refine jc p.isList ?_;refine⟨s1.heap.objs.size,[s1.heap.objs.size],_,_,H1,rfl,I1.kept (t':=s1.toks) λb o e=>ai _ e,adw a _,⟨_,a0 _ rfl,rfl,rfl⟩,λb hb=>?_,q⟩;have e:b=s1.heap.objs.size:=by simpa using hb
 subst e;exact I1.fpOk (aq _)<|I1.hok.fresh<|aq _
def rq{l:Expr}{tl:TE}(hl:PE X l tl):PI X tg l (GN X.K tl):=by
 intro aE s σ H R I h;refine thn (hl aE s σ H _ I h) λv s1 ⟨x,H1,I1,r1,q1⟩=>?_;obtain⟨a,e,⟨xs,hq⟩,q⟩:=q1;subst e;cases r1;obtain⟨its,rv,p,hz⟩:=I1.tuple hq;refine dN (show s1.heap.IsTuple a its.toArray from p) ?_;refine⟨s1.heap.objs.size,[s1.heap.objs.size],_,_,H1,rfl,I1.kept (t':=s1.toks) λb o e=>ai _ e,ab5 a _,⟨_,a0 _ rfl,rfl,rfl⟩,λb hb=>?_,q⟩;have e:b=s1.heap.objs.size:=by simpa using hb
 subst e;exact I1.fpOk (aq _)<|I1.hok.fresh<|aq _
def afy{aE:U (aF×Obj)}{σ:St}{H:Hp}{s:aC}{R:It->Hp->Prop}{E:aA->aC->Prop}{lo hi:Int}{t u v:gR}{tk:Nat}(I:Inv X aE σ H s)(h1:-(2^62)<=lo)(h2:lo<2^62)(h3:-(2^62)<=hi)(h4:hi<2^62)
  (q:R (Itr lo (hi-lo).toNat) H):aH (aI X.prog X.w) X.A (gW<|.ref s.heap.objs.size) (PIE X aE σ tg R) E {s with heap:=s.heap.push {cls:=.type "range",data:=.fields #[.int lo t,.int hi u,.int 1 v]},toks:=tk}:=by
 refine wpAny_pyIter_range (IsRange.new ..) (small_one h1 h2 h3 h4) ?_;have I1:Inv X aE σ H {s with heap:=s.heap.push {cls:=.type "range",data:=.fields #[.int lo t,.int hi u,.int 1 v]},toks:=tk}:=I.kept λb o e=>ai _ e;refine⟨(s.heap.push {cls:=.type "range",data:=.fields #[.int lo t,.int hi u,.int 1 v]}).objs.size,[(s.heap.push {cls:=.type "range",data:=.fields #[.int lo t,.int hi u,.int 1 v]}).objs.size],_,_,H,rfl,
  I1.kept (t':=tk) λb o e=>ai _ e,ahs _ lo (hi-lo).toNat,?_,λb hb=>?_,q⟩
 .have e1:lo+((0:Nat):Int)*1=lo:=by simp
  have e2:(((hi-lo).toNat:Nat):Int)-((0:Nat):Int)=Builtin.Range.rangeSize lo hi 1:=by rw[rangeSize_one];split<;>lia
  show IsRangeIter _ _ (lo+((0:Nat):Int)*1) ((((hi-lo).toNat:Nat):Int)-((0:Nat):Int)) 1;rw[e1,e2];exact a0 _ rfl
 .have e:b=(s.heap.push {cls:=.type "range",data:=.fields #[.int lo t,.int hi u,.int 1 v]}).objs.size:=by simpa using hb
  subst e;exact I1.fpOk (aq _)<|I1.hok.fresh<|aq _
def asb(ta:TA):TI:=λσ H R=>ta σ H λvs H1=>∃j:Int,vs=[.int j]/\-(2^62)<=j/\j<2^62/\R (Itr 0 j.toNat) H1
def atj(ta:TA):TI:=λσ H R=>ta σ H λvs H1=>∃i j:Int,vs=[.int i,.int j]/\(-(2^62)<=i/\i<2^62/\-(2^62)<=j/\j<2^62)/\R (Itr i (j-i).toNat) H1
theorem alq{a:Expr}{ta:TA}{p pos:dE}(hg:Gl X "range")(hm:X.mg "range" = none)(ha:PA X [a] ta)(hs:aM [a] X.env=[(false,bR a X.env)]:=by rfl):PI X tg (.Call (.Name "range" p) [a] [] pos) (asb ta):=by
 intro aE s σ H R I h;refine Call_<|so I hg hm boot_range<|en (thn (ha pos aE s σ H _ I h) λus s1 ⟨vs,H1,I1,r1,q1⟩=>?_) hs rfl;obtain⟨j,e,q1,q2,q⟩:=q1;subst e;cases r1 with
 | cons r rr=>
  cases rr;obtain⟨t,rfl⟩:=r;exact call_range_1<|afy I1 (by lia) (by lia) q1 q2<|by simpa using q
theorem ajj{a b:Expr}{ta:TA}{p pos:dE}(hg:Gl X "range")(hm:X.mg "range" = none)(ha:PA X [a,b] ta)(hs:aM [a,b] X.env=[(false,bR a X.env),(false,bR b X.env)]:=by rfl)(oR:aM [b] X.env=[(false,bR b X.env)]:=by rfl) :
  PI X tg (.Call (.Name "range" p) [a,b] [] pos) (atj ta):=by
 intro aE s σ H R I h;refine Call_ (so I hg hm boot_range<|en (thn (ha pos aE s σ H _ I h) λus s1 ⟨vs,H1,I1,r1,q1⟩=>?_) (by rw[hs,oR])<|by rw[oR];rfl);obtain⟨i,j,e,⟨q1,q2,q3,q4⟩,q⟩:=q1;subst e;cases r1 with
 | cons r rr=>
  cases rr with
  | cons r' rr=>
   cases rr;obtain⟨t,rfl⟩:=r;obtain⟨t',rfl⟩:=r';exact call_range_2<|afy I1 q1 q2 q3 q4 q
def ax9(wi:TI)(g:TG)(tb:TS):TS:=λD σ H=>wi σ H λJ H1=>∃W:Nat->Nat->St->Hp->Prop,(∃m,W 0 m σ H1)/\∀i m σ H,W i m σ H->
 (J.stop i H/\D.nx σ H)\/(J.go i H/\∃N:St->Hp->Prop,(∀σ' H',N σ' H'->∃m',m'<m/\W (i+1) m' σ' H')/\∀x H',J.yld i H x H'->g x σ H' λσ2 H2=>tb {D with nx:=N,ct:=N,bk:=D.nx} σ2 H2)
noncomputable def Ce(fp:U aF)(h:Heap):U (aF×Obj):=fp.filterMap λb=>(h.get? b).map λo=>(b,o)
def vx{fp:U aF}{h:Heap}{b:aF}{o:Obj}(hb:b∈fp)(e:h.get? b=some o):(b,o)∈Ce fp h:=List.mem_filterMap.mpr ⟨b,hb,by rw[e];rfl⟩
theorem ajw{fp:U aF}{h:Heap}{p:aF×Obj}(hp:p∈Ce fp h):p.1∈fp/\h.get? p.1=some p.2:=by
 obtain⟨b,hb,e⟩:=List.mem_filterMap.mp hp;cases q:h.get? b with
 | none=>rw[q]at e;cases e
 | some o=>
  rw[q]at e;have e':(b,o)=p:=cg e;subst e';exact⟨hb,q⟩
def Inv.pinned{aE:U (aF×Obj)}{σ:St}{H:Hp}{s:aC}{fp:U aF}(I:Inv X aE σ H s)(hf:∀b∈fp,kZ X aE H b)(ho:∀b∈fp,∃o,s.heap.get? b=some o/\∀v,o.data≠.cell v):Inv X (aE++Ce fp s.heap) σ H s:=
 I.pins_of λp hp=>(bn.mp hp).elim (λz=>I.pin p<|bu _ z) λz=>by obtain⟨hb,e⟩:=ajw z;obtain⟨f0,f1,f2,_⟩:=hf p.1 hb;obtain⟨o,e',d⟩:=ho p.1 hb;rw[e]at e';cases e';exact⟨e,f0,f1,f2,d⟩
def Inv.unpinned{aE pl:U (aF×Obj)}{σ:St}{H:Hp}{s:aC}(I:Inv X (aE++pl) σ H s):Inv X aE σ H s:=I.pins_of λp hp=>I.pin p<|bu _<|fh _ hp
theorem qt{iter:Expr}{body:U aS}{wi:TI}{g:TG}{tb:TS}{pos:dE}(hp:PassesOwn (aI X.prog X.w) X.A X.env X.xe)(hc:X.calm=true)(hi:PI X tg iter wi)(hg:PG X tg g)(hb:PSs X body tb)
  (hs:∀x,iN iter X.env x=bQ x:=by intro _;rfl):PS X (.For tg iter body [] pos) (ax9 wi g tb):=by
 intro aE s σ H D I h;refine wpAny_For (thn (hi aE s σ H _ I h) λv s1 h1=>thn h1 λC5 s2 h2=>?_) hs;obtain⟨it,fp,tn,J,H2,e,I2,T,eD,f2,W,⟨m0,w0⟩,turn⟩:=h2;subst e;have kG:∀{H':Hp},(∀b∈fp,H' b=none)->∀b∈fp,kZ X aE H' b:=λhn b hb=>⟨hn b hb,(f2 b hb).2⟩;refine codeAny_forLoop_any (λn s'=>∃i σ' H',Inv X aE σ' H' s'/\tn i s'.heap/\(∀b∈fp,H' b=none)/\W i n σ' H') ?_ m0 ⟨0,σ,H2,I2,eD,λb hb=>(f2 b hb).1,w0⟩;rintro n s3 ⟨i,σ3,H3,I3,gU,fr3,w3⟩;rcases turn i n σ3 H3 w3 with ⟨stop,qn⟩|⟨go,N,hN,step⟩
 .refine jr hp<|thn (T.done X rfl rfl rfl hc i aE s3 σ3 H3 X.xe I3 (kG fr3) gU stop) λr s4 ⟨hr,I4⟩=>?_;subst hr;exact eQ ⟨σ3,H3,I4,qn⟩
 .refine jr hp<|thn (T.item X rfl rfl rfl hc i aE s3 σ3 H3 X.xe I3 (kG fr3) gU go) λr s4 ⟨u,hr,h4⟩=>?_;subst hr;refine jr hp<|thn h4 λ_ s5 ⟨x,H5,I5,r5,y5,gG,DC⟩=>?_;have I5':=I5.pinned (kG DC)<|T.obj _ _ gG;refine jr hp<|thn (hg _ s5 σ3 H5 x u _ I5' r5<|step x H5 y5) λ_ s6 ⟨σ6,H6,I6,q6⟩=>?_;refine jr hp<|thn (hb _ s6 σ6 H6 _ I6 q6) λf s7 q7=>?_;have again:∀{σ7:St} {H7:Hp},Inv X (aE++Ce fp s5.heap) σ7 H7 s7->N σ7 H7->∃m,m<n/\∃i σ' H',Inv X aE σ' H' s7/\tn i s7.heap/\(∀b∈fp,H' b=none)/\W i m σ' H':=λ{σ7 H7} I7 n7=>by
   obtain⟨m',hm,w7⟩:=hN σ7 H7 n7;refine⟨m',hm,i+1,σ7,H7,I7.unpinned,T.keep _ _ _ gG λb hb o e=>(I7.pin (b,o)<|bu _<|bu _<|vx hb e).1,λb hb=>?_,w7⟩;obtain⟨o,e,d⟩:=T.obj _ _ gG b hb;exact(I7.pin (b,o)<|bu _<|bu _<|vx hb e).2.1
  cases f with
  | next=>obtain⟨σ7,H7,I7,n7⟩:=q7;exact again I7 n7
  | cont=>obtain⟨σ7,H7,I7,n7⟩:=q7;exact again I7 n7
  | brk=>obtain⟨σ7,H7,I7,q7⟩:=q7;exact⟨σ7,H7,I7.unpinned,q7⟩
  | ret v=>obtain⟨x7,σ7,H7,I7,r7,q7⟩:=q7;exact⟨x7,σ7,H7,I7.unpinned,r7,q7⟩
end
def ag1{K:au}{a:aF}{xs:U V}{g:TG}{tb:TS}{D:mI}{σ:St}{H:Hp}(Pv:Nat->St->Hp->Prop)(h0:Pv 0 σ H)(hl:∀i σ H,i<=xs.length->Pv i σ H->SqL K H a xs)
  (hs:∀i x σ H,xs[i]?=some x->Pv i σ H->g x σ H λσ2 H2=>tb {D with nx:=Pv<|i+1,ct:=Pv<|i+1,bk:=D.nx} σ2 H2) (hd:∀σ H,Pv xs.length σ H->D.nx σ H) :
  ∃W:Nat->Nat->St->Hp->Prop,(∃m,W 0 m σ H)/\∀i m σ H,W i m σ H->
   ((Itl K a).stop i H/\D.nx σ H)\/((Itl K a).go i H/\∃N:St->Hp->Prop,(∀σ' H',N σ' H'->∃m',m'<m/\W (i+1) m' σ' H')/\∀x H',(Itl K a).yld i H x H'->g x σ H' λσ2 H2=>tb {D with nx:=N,ct:=N,bk:=D.nx} σ2 H2):=by
 refine⟨λi m σ H=>m=xs.length-i/\i<=xs.length/\Pv i σ H,⟨xs.length,by simp,dv _,h0⟩,?_⟩;rintro i m σ H ⟨rfl,hi,p⟩;have q:=hl i σ H hi p;by_cases bL:i<xs.length
 .refine .inr ⟨⟨xs,xs[i],q,by simp[bL]⟩,Pv<|i+1,λσ' H' p'=>⟨xs.length-(i+1),by lia,rfl,bL,p'⟩,λx H' y=>?_⟩;obtain⟨e,y⟩:=y;subst e;exact hs i x σ _ (y xs q) p
 .have e:i=xs.length:=by lia
  subst e;exact .inl ⟨⟨xs,q,aq _⟩,hd σ H p⟩
def Ed{K:au}{a:aF}{xs:U V}{g:TG}{tb:TS}{D:mI}{σ:St}{H:Hp}(Pv:Nat->St->Hp->Prop)(h0:Pv 0 σ H)(hl:∀i σ H,i<=xs.length->Pv i σ H->SqT K H a xs)
  (hs:∀i x σ H,xs[i]?=some x->Pv i σ H->g x σ H λσ2 H2=>tb {D with nx:=Pv<|i+1,ct:=Pv<|i+1,bk:=D.nx} σ2 H2) (hd:∀σ H,Pv xs.length σ H->D.nx σ H) :
  ∃W:Nat->Nat->St->Hp->Prop,(∃m,W 0 m σ H)/\∀i m σ H,W i m σ H->
   ((Itt K a).stop i H/\D.nx σ H)\/((Itt K a).go i H/\∃N:St->Hp->Prop,(∀σ' H',N σ' H'->∃m',m'<m/\W (i+1) m' σ' H')/\∀x H',(Itt K a).yld i H x H'->g x σ H' λσ2 H2=>tb {D with nx:=N,ct:=N,bk:=D.nx} σ2 H2):=by
 refine⟨λi m σ H=>m=xs.length-i/\i<=xs.length/\Pv i σ H,⟨xs.length,by simp,dv _,h0⟩,?_⟩;rintro i m σ H ⟨rfl,hi,p⟩;have q:=hl i σ H hi p;by_cases bL:i<xs.length
 .refine .inr ⟨⟨xs,xs[i],q,by simp[bL]⟩,Pv<|i+1,λσ' H' p'=>⟨xs.length-(i+1),by lia,rfl,bL,p'⟩,λx H' y=>?_⟩;obtain⟨e,y⟩:=y;subst e;exact hs i x σ _ (y xs q) p
 .have e:i=xs.length:=by lia
  subst e;exact .inl ⟨⟨xs,q,aq _⟩,hd σ H p⟩
def qq{lo:Int}{n:Nat}{g:TG}{tb:TS}{D:mI}{σ:St}{H:Hp}(Pv:Nat->St->Hp->Prop)(h0:Pv 0 σ H)
  (hs:∀i σ H,i<n->Pv i σ H->g (.int<|lo+i) σ H λσ2 H2=>tb {D with nx:=Pv<|i+1,ct:=Pv<|i+1,bk:=D.nx} σ2 H2) (hd:∀σ H,Pv n σ H->D.nx σ H) :
  ∃W:Nat->Nat->St->Hp->Prop,(∃m,W 0 m σ H)/\∀i m σ H,W i m σ H->
   ((Itr lo n).stop i H/\D.nx σ H)\/((Itr lo n).go i H/\∃N:St->Hp->Prop,(∀σ' H',N σ' H'->∃m',m'<m/\W (i+1) m' σ' H')/\∀x H',(Itr lo n).yld i H x H'->g x σ H' λσ2 H2=>tb {D with nx:=N,ct:=N,bk:=D.nx} σ2 H2):=by
 refine⟨λi m σ H=>m=n-i/\i<=n/\Pv i σ H,⟨n,by simp,dv _,h0⟩,?_⟩;rintro i m σ H ⟨rfl,hi,p⟩;by_cases bL:i<n
 .refine .inr ⟨bL,Pv<|i+1,λσ' H' p'=>⟨n-(i+1),by lia,rfl,bL,p'⟩,λx H' y=>?_⟩;obtain⟨e,y⟩:=y;subst e y;exact hs i σ _ bL p
 .have e:i=n:=by lia
  subst e;exact .inl ⟨aq _,hd σ H p⟩
abbrev R2:=V->V->Hp->VK->Prop
def OpR(X:Cx)(f:aA->aA->Jr aA)(r:R2):Prop:=
 ∀(aE:U (aF×Obj)) (s:aC) (σ:St) (H:Hp) (x y:V) (v u:aA) (Q:VK),Inv X aE σ H s->RelV x v->RelV y u->r x y H Q->
  aH (aI X.prog X.w) X.A (f v u) (EP X aE σ Q) X.xe s
def UnR(X:Cx)(f:aA->Jr aA)(r:V->Hp->VK->Prop):Prop:=
 ∀(aE:U (aF×Obj)) (s:aC) (σ:St) (H:Hp) (x:V) (v:aA) (Q:VK),Inv X aE σ H s->RelV x v->r x H Q->
  aH (aI X.prog X.w) X.A (f v) (EP X aE σ Q) X.xe s
def qp(X:Cx)(f:aA)(r:U V->Hp->VK->Prop):Prop:=
 ∀(aE:U (aF×Obj)) (s:aC) (σ:St) (H:Hp) (xs:U V) (us:U aA) (Q:VK),Inv X aE σ H s->Vals xs us->r xs H Q->
  aH (aI X.prog X.w) X.A (call f us) (EP X aE σ Q) X.xe s
def ayf(X:Cx)(r:V->Hp->(Bool->Hp->Prop)->Prop):Prop:=
 ∀(aE:U (aF×Obj)) (s:aC) (σ:St) (H:Hp) (x:V) (v:aA) (Q:Bool->Hp->Prop),Inv X aE σ H s->RelV x v->r x H Q->
  aH (aI X.prog X.w) X.A (truthy v) (TP X aE σ Q) X.xe s
def tOp(r:R2)(ta tb:TE):TE:=λσ H Q=>ta σ H λx H1=>tb σ H1 λy H2=>r x y H2 Q
def tUn(r:V->Hp->VK->Prop)(ta:TE):TE:=λσ H Q=>ta σ H λx H1=>r x H1 Q
def rI(C:Int->Int->Prop)(g:Int->Int->V):R2:=λx y H Q=>∃i j,x=.int i/\y=.int j/\C i j/\Q (g i j) H
def rI0(g:Int->Int->V):R2:=λx y H Q=>∃i j,x=.int i/\y=.int j/\Q (g i j) H
def rU(g:Int->V):V->Hp->VK->Prop:=λx H Q=>∃i,x=.int i/\Q (g i) H
section
variable{X:Cx}{a b c:Expr}{ta tb tc:TE}{pos:dE}
def GO(ha:PE X a ta)(hb:PE X b tb){aE:U (aF×Obj)}{s:aC}{σ:St}{H:Hp}{R:V->V->Hp->Prop}(I:Inv X aE σ H s)
  (h:ta σ H λx H1=>tb σ H1 λy H2=>R x y H2) {Q:aA->aC->Prop} {f:aA->aA->Jr aA}
  (hf:∀v u s2 x y H2,Inv X aE σ H2 s2->RelV x v->RelV y u->R x y H2->aH (aI X.prog X.w) X.A (f v u) Q X.xe s2) :
  aH (aI X.prog X.w) X.A (bR a X.env) (λv s₁=>aH (aI X.prog X.w) X.A (bR b X.env) (λu s₂=>aH (aI X.prog X.w) X.A (f v u) Q X.xe s₂) X.xe s₁) X.xe s:=by
 refine thn (ha aE s σ H _ I h) λv s1 ⟨x,H1,I1,r1,q1⟩=>?_;refine thn (hb aE s1 σ H1 _ I1 q1) λu s2 ⟨y,H2,I2,r2,q2⟩=>?_;exact hf v u s2 x y H2 I2 r1 r2 q2
def m8{op:Operator}{r:R2}(ho:OpR X (dB op) r)(ha:PE X a ta)(hb:PE X b tb):PE X (.BinOp a op b pos) (tOp r ta tb):=by intro aE s σ H Q I h;exact wpAny_BinOp<|GO ha hb I h λv u s2 x y H2 I2 rx ry q=>ho aE s2 σ H2 x y v u Q I2 rx ry q
def auh{op:UnaryOp}{r:V->Hp->VK->Prop}(ho:UnR X (unaryOp op) r)(ha:PE X a ta):PE X (.UnaryOp op a pos) (tUn r ta):=by intro aE s σ H Q I h;exact UnaryOp_<|thn (ha aE s σ H _ I h) λv s1 ⟨x,H1,I1,r1,q1⟩=>ho aE s1 σ H1 x v Q I1 r1 q1
def opI{f:aA->aA->Jr aA}{C:Int->Int->Prop}{g:Int->Int->Int}
  (yL:∀(i j:Int)(t u:gR)(s:aC)(Q:aA->aC->Prop)(E:aA->aC->Prop),C i j->Q (.int (g i j) s.toks) {s with toks:=s.toks+1}->aH (aI X.prog X.w) X.A (f (.int i t)<|.int j u) Q E s) :
  OpR X f (rI C λi j=>.int<|g i j):=by
 intro aE s σ H x y v u Q I rx ry h;obtain⟨i,j,rfl,rfl,hc,q⟩:=h;obtain⟨t,rfl⟩:=rx;obtain⟨t',rfl⟩:=ry;exact yL i j t t' s _ _ hc ⟨.int<|g i j,H,I.tok _,⟨_,rfl⟩,q⟩
def aw7{f:aA->aA->Jr aA}{g:Int->Int->Int}
  (yL:∀(i j:Int)(t u:gR)(s:aC)(Q:aA->aC->Prop)(E:aA->aC->Prop),Q (.int (g i j) s.toks) {s with toks:=s.toks+1}->aH (aI X.prog X.w) X.A (f (.int i t)<|.int j u) Q E s) :
  OpR X f (rI0 λi j=>.int<|g i j):=by
 intro aE s σ H x y v u Q I rx ry h;obtain⟨i,j,rfl,rfl,q⟩:=h;obtain⟨t,rfl⟩:=rx;obtain⟨t',rfl⟩:=ry;exact yL i j t t' s _ _ ⟨.int<|g i j,H,I.tok _,⟨_,rfl⟩,q⟩
def axj{f:aA->aA->Jr aA}{g:Int->Int->Bool}
  (yL:∀(i j:Int)(t u:gR)(s:aC)(Q:aA->aC->Prop)(E:aA->aC->Prop),Q (.bool<|g i j) s->aH (aI X.prog X.w) X.A (f (.int i t)<|.int j u) Q E s) :
  OpR X f (rI0 λi j=>.bl<|g i j):=by
 intro aE s σ H x y v u Q I rx ry h;obtain⟨i,j,rfl,rfl,q⟩:=h;obtain⟨t,rfl⟩:=rx;obtain⟨t',rfl⟩:=ry;exact yL i j t t' s _ _ ⟨.bl<|g i j,H,I,rfl,q⟩
def axs(i j:Int):Prop:=0<j/\j<1073741824
def axu(i j:Int):Prop:=0<=j/\j<=1000000/\i.natAbs<2^64
def CMul(i j:Int):Prop:=(-(2^64)<i/\i<2^64)\/(-(2^64)<j/\j<2^64)
def CMul.ok{i j:Int}(h:CMul i j):IntMulOk i j:=by
 rcases h with ⟨h1,h2⟩|⟨h1,h2⟩
 .exact .of_left<|intBits_le_64 h1 h2
 .exact .of_right<|intBits_le_64 h1 h2
def o5:OpR X (dB .Add) (rI0 λi j=>.int<|i+j):=aw7 λ_ _ _ _ _ _ _ q=>add_int q
def tq:OpR X (dB .Sub) (rI0 λi j=>.int<|i-j):=aw7 λ_ _ _ _ _ _ _ q=>sub_int q
def Ci:OpR X (dB .Mult) (rI CMul λi j=>.int<|i*j):=opI λ_ _ _ _ _ _ _ hc q=>mul_int q hc.ok
def arh:OpR X (dB .FloorDiv) (rI axs λi j=>.int<|i/j):=opI λi j _ _ _ _ _ hc q=>by have h1:(0:Int)<j:=hc.1;have h2:j<1073741824:=hc.2;exact floordiv_int (by lia) (by rw[Int.fdiv_eq_ediv_of_nonneg i (by lia)];exact q)<|.inl<|PyProof.noPylong_small<|by lia
def Ad:OpR X (dB .Mod) (rI (λ_ j=>0<j) λi j=>.int<|i % j):=opI λi j _ _ _ _ _ hc q=>by have h1:(0:Int)<j:=hc;exact mod_int' (by lia)<|by rw[Int.fmod_eq_emod_of_nonneg i (by lia)];exact q
def aow:OpR X (dB .Pow) (rI axu λi j=>.int<|i^j.toNat):=opI λ_ _ _ _ _ _ _ hc q=>pow_int_small hc.1 hc.2.1 hc.2.2 q
def unI{f:aA->Jr aA}{g:Int->Int}
  (yL:∀(i:Int)(t:gR)(s:aC)(Q:aA->aC->Prop)(E:aA->aC->Prop),Q (.int (g i) s.toks) {s with toks:=s.toks+1}->aH (aI X.prog X.w) X.A (f<|.int i t) Q E s) :
  UnR X f (rU λi=>.int<|g i):=by
 intro aE s σ H x v Q I rx h;obtain⟨i,rfl,q⟩:=h;obtain⟨t,rfl⟩:=rx;exact yL i t s _ _ ⟨.int<|g i,H,I.tok _,⟨_,rfl⟩,q⟩
def an9:UnR X (unaryOp .USub) (rU λi=>.int<|-i):=unI λ_ _ _ _ _ q=>neg_int q
end
noncomputable def axa:V->V->Bool
 | .non,.non=>true|.non,.int _=>true|.int _,.non=>true|.non,.bl _=>true|.bl _,.non=>true|.non,.str _=>true|.str _,.non=>true
 | .int _,.int _=>true|.bl _,.bl _=>true|.str _,.str _=>true|.byt _,.byt _=>true
 | .int _,.str _=>true|.str _,.int _=>true|.bl _,.str _=>true|.str _,.bl _=>true
 | _,_=>false
def rEq:R2:=λx y H Q=>axa x y=true/\Q (.bl<|decide<|x=y) H
def rNe:R2:=λx y H Q=>axa x y=true/\Q (.bl<|!decide (x=y)) H
def IJ{i j:Int}:decide (V.int i=V.int j)=(i==j):=by rw[du];simp
def aoc{i j:Bool}:decide (V.bl i=V.bl j)=(i==j):=by rw[du];simp
def ai6{i j:Str}:decide (V.str i=V.str j)=(i==j):=by rw[du];simp
def alv{i j:Array UInt8}:decide (V.byt i=V.byt j)=(i.toList==j.toList):=by rw[du];cases i;cases j;simp
section
variable{X:Cx}{a b c:Expr}{ta tb tc:TE}{pos:dE}
def nj{aE:U (aF×Obj)}{σ:St}{H:Hp}{s:aC}{Q:VK}{k k':Bool}(I:Inv X aE σ H s)(q:Q (.bl k) H)(e:k=k'):EP X aE σ Q (.bool k') s:=by subst e;exact⟨.bl k,H,I,rfl,q⟩
theorem uf:OpR X (aN .Eq) rEq:=by
 intro aE s σ H x y v u Q I rx ry h;obtain⟨hs,q⟩:=h;cases x with
 | non=>
  cases rx;cases y with
  | non=>cases ry;exact PySem.EqNone.eq_none_none (nj I q<|by simp)
  | bl j=>cases ry;exact PySem.EqNone.eq_none_bool (nj I q<|by simp)
  | int j=>obtain⟨t',rfl⟩:=ry;exact PySem.EqNone.eq_none_int (nj I q<|by simp)
  | str j=>obtain⟨t',rfl⟩:=ry;exact PySem.EqNone.eq_none_str (nj I q<|by simp)
  | _=>exact absurd (show false=true from hs) aj
 | bl i=>
  cases rx;cases y with
  | non=>cases ry;exact PySem.EqNone.eq_bool_none (nj I q<|by simp)
  | bl j=>cases ry;exact eq_bool (nj I q aoc)
  | str j=>obtain⟨t',rfl⟩:=ry;exact PySem.EqMixed.eq_bool_str (nj I q<|by simp)
  | _=>exact absurd (show false=true from hs) aj
 | int i=>
  obtain⟨t,rfl⟩:=rx;cases y with
  | non=>cases ry;exact PySem.EqNone.eq_int_none (nj I q<|by simp)
  | int j=>obtain⟨t',rfl⟩:=ry;exact eq_int (nj I q IJ)
  | str j=>obtain⟨t',rfl⟩:=ry;exact PySem.EqMixed.eq_int_str (nj I q<|by simp)
  | _=>exact absurd (show false=true from hs) aj
 | str i=>
  obtain⟨t,rfl⟩:=rx;cases y with
  | non=>cases ry;exact PySem.EqNone.eq_str_none (nj I q<|by simp)
  | bl j=>cases ry;exact PySem.EqMixed.eq_str_bool (nj I q<|by simp)
  | int j=>obtain⟨t',rfl⟩:=ry;exact PySem.EqMixed.eq_str_int (nj I q<|by simp)
  | str j=>obtain⟨t',rfl⟩:=ry;exact eq_str (nj I q ai6)
  | _=>exact absurd (show false=true from hs) aj
 | byt i=>
  obtain⟨t,rfl⟩:=rx;cases y with
  | byt j=>obtain⟨t',rfl⟩:=ry;exact PySem.W.eq_bytes (nj I q alv)
  | _=>exact absurd (show false=true from hs) aj
 | _=>cases y<;>exact absurd (show false=true from hs) aj
theorem yq:OpR X (aN .NotEq) rNe:=by
 intro aE s σ H x y v u Q I rx ry h;obtain⟨hs,q⟩:=h;cases x with
 | non=>
  cases rx;cases y with
  | non=>cases ry;exact PySem.EqNone.ne_none_none (nj I q<|by simp)
  | bl j=>cases ry;exact PySem.EqNone.ne_none_bool (nj I q<|by simp)
  | int j=>obtain⟨t',rfl⟩:=ry;exact PySem.EqNone.ne_none_int (nj I q<|by simp)
  | str j=>obtain⟨t',rfl⟩:=ry;exact PySem.EqNone.ne_none_str (nj I q<|by simp)
  | _=>exact absurd (show false=true from hs) aj
 | bl i=>
  cases rx;cases y with
  | non=>cases ry;exact PySem.EqNone.ne_bool_none (nj I q<|by simp)
  | bl j=>cases ry;exact ne_bool (nj I q<|congrArg not aoc)
  | str j=>obtain⟨t',rfl⟩:=ry;exact PySem.EqMixed.ne_bool_str (nj I q<|by simp)
  | _=>exact absurd (show false=true from hs) aj
 | int i=>
  obtain⟨t,rfl⟩:=rx;cases y with
  | non=>cases ry;exact PySem.EqNone.ne_int_none (nj I q<|by simp)
  | int j=>obtain⟨t',rfl⟩:=ry;exact ne_int (nj I q<|congrArg not IJ)
  | str j=>obtain⟨t',rfl⟩:=ry;exact PySem.EqMixed.ne_int_str (nj I q<|by simp)
  | _=>exact absurd (show false=true from hs) aj
 | str i=>
  obtain⟨t,rfl⟩:=rx;cases y with
  | non=>cases ry;exact PySem.EqNone.ne_str_none (nj I q<|by simp)
  | bl j=>cases ry;exact PySem.EqMixed.ne_str_bool (nj I q<|by simp)
  | int j=>obtain⟨t',rfl⟩:=ry;exact PySem.EqMixed.ne_str_int (nj I q<|by simp)
  | str j=>obtain⟨t',rfl⟩:=ry;exact ne_str (nj I q<|congrArg not ai6)
  | _=>exact absurd (show false=true from hs) aj
 | byt i=>
  obtain⟨t,rfl⟩:=rx;cases y with
  | byt j=>obtain⟨t',rfl⟩:=ry;exact PySem.W.ne_bytes (nj I q<|congrArg not alv)
  | _=>exact absurd (show false=true from hs) aj
 | _=>cases y<;>exact absurd (show false=true from hs) aj
def Hz:OpR X (aN .Lt) (rI0 λi j=>.bl<|decide<|i<j):=axj λ_ _ _ _ _ _ _ q=>lt_int q
def qc:OpR X (aN .LtE) (rI0 λi j=>.bl<|decide<|i<=j):=axj λ_ _ _ _ _ _ _ q=>le_int q
def ale:OpR X (aN .Lt) (λx y H Q=>∃i j,x=.str i/\y=.str j/\Q (.bl<|decide<|i.cps.toList<j.cps.toList) H):=by intro aE s σ H x y v u Q I rx ry h;obtain⟨i,j,rfl,rfl,q⟩:=h;obtain⟨t,rfl⟩:=rx;obtain⟨t',rfl⟩:=ry;exact lt_str<|nj I q rfl
def xb:OpR X (aN .In) (λx y H Q=>∃i j,x=.str i/\y=.str j/\Q (.bl<|!(gl j i 0 j.length 1).isEmpty) H):=by intro aE s σ H x y v u Q I rx ry h;obtain⟨i,j,rfl,rfl,q⟩:=h;obtain⟨t,rfl⟩:=rx;obtain⟨t',rfl⟩:=ry;exact in_str<|nj I q rfl
theorem anw:OpR X (aN .Is) (λx y H Q=>y=.non/\Q (.bl<|decide<|x=.non) H):=by
 intro aE s σ H x y v u Q I rx ry h;obtain⟨rfl,q⟩:=h;cases ry;refine is_none_gen<|nj I q ?_;cases x<;>first
  | (cases rx;rfl)
  | (obtain⟨t,rfl⟩:=rx;rfl)
theorem ap4:OpR X (aN .IsNot) (λx y H Q=>y=.non/\Q (.bl<|!decide (x=.non)) H):=by
 intro aE s σ H x y v u Q I rx ry h;obtain⟨rfl,q⟩:=h;cases ry;refine isnot_none_gen<|nj I q ?_;cases x<;>first
  | (cases rx;rfl)
  | (obtain⟨t,rfl⟩:=rx;rfl)
def OpR.or{f:aA->aA->Jr aA}{r r':R2}(h:OpR X f r)(h':OpR X f r'):OpR X f (λx y H Q=>r x y H Q\/r' x y H Q):=by
 intro aE s σ H x y v u Q I rx ry q;rcases q with q|q
 .exact h aE s σ H x y v u Q I rx ry q
 .exact h' aE s σ H x y v u Q I rx ry q
def l4(b:Expr){op:jX}(h:op≠.In:=by decide)(h2:op≠.NotIn:=by decide):gO op b=false:=by
 have e1:(op==jX.In)=false:=by cases op<;>first|rfl|exact absurd rfl h
 have e2:(op==jX.NotIn)=false:=by cases op<;>first|rfl|exact absurd rfl h2
 cases b<;>simp[gO,e1,e2]
def m5{op:jX}{r:R2}(ho:OpR X (aN op) r)(ha:PE X a ta)(hb:PE X b tb)(hm:gO op b=false):PE X (.Compare a [op] [b] pos) (tOp r ta tb):=by intro aE s σ H Q I h;exact wpAny_Compare1 (GO ha hb I h λv u s2 x y H2 I2 rx ry q=>ho aE s2 σ H2 x y v u Q I2 rx ry q) hm
def atk(t:TE):TT:=λσ H Q=>t σ H λx H'=>∃k,x=.bl k/\Q k H'
def mi{op:jX}{r:R2}(ho:OpR X (aN op) r)(ha:PE X a ta)(hb:PE X b tb)(hm:gO op b=false):PT X (.Compare a [op] [b] pos) (atk<|tOp r ta tb):=by
 intro aE s σ H Q I h;refine wpAny_isTrue_Compare1 (thn (ha aE s σ H _ I h) λv s1 ⟨x,H1,I1,r1,q1⟩=>thn (hb aE s1 σ H1 _ I1 q1) λu s2 ⟨y,H2,I2,r2,q2⟩=>
  thn (ho aE s2 σ H2 x y v u _ I2 r1 r2 q2) λc s3 ⟨z,H3,I3,r3,k,e,q3⟩=>?_) hm
 subst e;cases r3;exact dz ⟨H3,I3,q3⟩
def an6(r r':R2)(ta tb tc:TE):TE:=λσ H Q=>ta σ H λx H1=>tb σ H1 λy H2=>r x y H2 λz H3=>∃k,z=.bl k/\
 (if k=true then tc σ H3 λw' H4=>r' y w' H4 Q else Q (.bl false) H3)
theorem IV{op vY:jX}{r r':R2}(ho:OpR X (aN op) r)(mT:OpR X (aN vY) r')(ha:PE X a ta)(hb:PE X b tb)(hc:PE X c tc)
  (hm:lastMarks [op,vY] [b,c]=false:=by with_unfolding_all rfl):PE X (.Compare a [op,vY] [b,c] pos) (an6 r r' ta tb tc):=by
 intro aE s σ H Q I h;refine Compare_chain (thn (ha aE s σ H _ I h) λv s1 ⟨x,H1,I1,r1,q1⟩=>chain_link (thn (hb aE s1 σ H1 _ I1 q1) λu s2 ⟨y,H2,I2,r2,q2⟩=>
  thn (ho aE s2 σ H2 x y v u _ I2 r1 r2 q2) λd s3 ⟨z,H3,I3,r3,k,e,q3⟩=>?_)) hm
 subst e;cases r3;refine dz ?_;cases k with
 | false=>exact ite_ff ⟨.bl false,H3,I3,rfl,q3⟩
 | true=>exact ite_tt<|chain_last<|thn (hc aE s3 σ H3 _ I3 q3) λw' s4 ⟨z',H4,I4,r4,q4⟩=>mT aE s4 σ H4 y z' u w' Q I4 r2 r4 q4
theorem ox{op vY:jX}{r r':R2}(ho:OpR X (aN op) r)(mT:OpR X (aN vY) r')(ha:PE X a ta)(hb:PE X b tb)(hc:PE X c tc)
  (hm:lastMarks [op,vY] [b,c]=false:=by with_unfolding_all rfl):PT X (.Compare a [op,vY] [b,c] pos) (atk<|an6 r r' ta tb tc):=by
 intro aE s σ H Q I h;refine isTrue_chain (thn (ha aE s σ H _ I h) λv s1 ⟨x,H1,I1,r1,q1⟩=>test_link (thn (hb aE s1 σ H1 _ I1 q1) λu s2 ⟨y,H2,I2,r2,q2⟩=>
  thn (ho aE s2 σ H2 x y v u _ I2 r1 r2 q2) λd s3 ⟨z,H3,I3,r3,k,e,q3⟩=>?_)) hm
 subst e;cases r3;refine dz ?_;cases k with
 | false=>
  obtain⟨k',e',q'⟩:=q3;cases e';exact ite_ff ⟨H3,I3,q'⟩
 | true=>
  refine ite_tt<|test_last<|thn (hc aE s3 σ H3 _ I3 q3) λw' s4 ⟨z',H4,I4,r4,q4⟩=>thn (mT aE s4 σ H4 y z' u w' _ I4 r2 r4 q4) λd' s5 ⟨z2,H5,I5,r5,k2,e2,q5⟩=>?_;subst e2;cases r5;exact dz ⟨H5,I5,q5⟩
def axh(K:au)(x:V)(H:Hp)(k:Bool):Prop:=
 match x with
 | .non=>k=false
 | .bl b=>k=b
 | .int i=>k=(i != 0)
 | .str y=>y.length<=aG/\k=((y.length:Int) != 0)
 | .byt y=>y.size<=aG/\k=((y.size:Int) != 0)
 | .ref p=>(∃xs,SqL K H p xs/\k = !xs.isEmpty)\/(∃xs,SqT K H p xs/\k = !xs.isEmpty)\/∃aP,H p=some (.dK aP)/\k = !aP.isEmpty
 | _=>False
def ahy{κ:Type}{aP:U (κ×V)}{vs:U (κ×aA)}(r:KV aP vs):(!vs.isEmpty) = !aP.isEmpty:=by cases r<;>rfl
def abe{xs:U V}{its:U aA}(r:Vals xs its):(!its.toArray.isEmpty) = !xs.isEmpty:=by cases r<;>simp
def xO:(aG:Nat)<2^63:=by rw[gf];decide
theorem as9:ayf X (λx H Q=>∃k,axh X.K x H k/\Q k H):=by
 intro aE s σ H x v Q I rx h;obtain⟨k,e,q⟩:=h;have hl:=xO;have hs:aG=16777216:=gf;cases x with
 | non=>
  cases rx;have e':k=false:=e;subst e';exact truthy_none ⟨H,I,q⟩
 | bl b=>
  cases rx;have e':k=b:=e;subst e';exact dz ⟨H,I,q⟩
 | int i=>
  obtain⟨t,rfl⟩:=rx;have e':k=(i != 0):=e;subst e';exact PySem.P.truthy_int ⟨H,I,q⟩
 | str y=>
  obtain⟨t,rfl⟩:=rx;obtain⟨hy,e'⟩:y.length<=aG/\k=((y.length:Int) != 0):=e;subst e';exact PySem.P.truthy_str (by lia) ⟨H,I.tok _,q⟩
 | byt y=>
  obtain⟨t,rfl⟩:=rx;obtain⟨hy,e'⟩:y.size<=aG/\k=((y.size:Int) != 0):=e;subst e';exact PySem.W.truthy_bytes (by lia) ⟨H,I.tok _,q⟩
 | ref p=>
  cases rx;have e':(∃xs,SqL X.K H p xs/\k = !xs.isEmpty)\/(∃xs,SqT X.K H p xs/\k = !xs.isEmpty)\/∃aP,H p=some (.dK aP)/\k = !aP.isEmpty:=e;rcases e' with ⟨xs,hx,e'⟩|⟨xs,hx,e'⟩|⟨aP,hx,e'⟩
  .subst e';obtain⟨its,r,pl,hz⟩:=I.list hx;have aR:=r.length;exact wpAny_truthy_list pl.isList (by simp only[bf];lia) ⟨H,I.tok _,by rw[abe r];exact q⟩
  .subst e';obtain⟨its,r,pl,hz⟩:=I.tuple hx;have aR:=r.length;exact truthy_tuple pl (by simp only[bf];lia) ⟨H,I.tok _,by rw[abe r];exact q⟩
  .subst e';obtain⟨hz,hS,vs,r,m⟩:aP.length<=aG/\(p==aX)=false/\∃vs,KV aP vs/\s.heap.DictOf (pc X.prog X.w) p vs:=I.hok p _ hx;have aR:aP.length=vs.length:=cS.length r;exact wpAny_truthy_dict hS m (by lia) ⟨H,I.tok _,by rw[ahy r];exact q⟩
 | _=>exact(show False from e).elim
def amq(ha:PE X a ta)(he:∀gE,isTrue a X.env gE=(do let v <-gE;An a.pos;fX [v] (truthy v))) :
  PT X a (λσ H Q=>ta σ H λx H'=>∃k,axh X.K x H' k/\Q k H'):=by
 intro aE s σ H Q I h;exact isTrue_plain (thn (ha aE s σ H _ I h) λv s1 ⟨x,H1,I1,r1,q1⟩=>as9 aE s1 σ H1 x v Q I1 r1 q1)<|he _
def t7:OpR X (dB .Add) (λx y H Q=>∃i j,x=.str i/\y=.str j/\i.length+j.length<=aG/\Q (.str<|i++j) H):=by intro aE s σ H x y v u Q I rx ry h;obtain⟨i,j,rfl,rfl,hz,q⟩:=h;obtain⟨t,rfl⟩:=rx;obtain⟨t',rfl⟩:=ry;exact add_str (λt' tk=>⟨.str<|i++j,H,I.tok _,⟨_,rfl⟩,q⟩) hz
theorem qv{x:V}{us:U aA}(r:Vals [x] us):∃u,us=[u]/\RelV x u:=by
 cases r with
 | cons r1 r2=>cases r2;exact⟨_,rfl,r1⟩
theorem Ca{x y:V}{us:U aA}(r:Vals [x,y] us):∃u w',us=[u,w']/\RelV x u/\RelV y w':=by
 cases r with
 | cons r1 r2=>
  cases r2 with
  | cons r3 r4=>cases r4;exact⟨_,_,rfl,r1,r3⟩
def agh:qp X (.builtin "abs") (λxs H Q=>∃i,xs=[.int i]/\Q (.int (if i<0 then -i else i)) H):=by intro aE s σ H xs us Q I r h;obtain⟨i,rfl,q⟩:=h;obtain⟨u,rfl,t,rfl⟩:=qv r;exact call_abs_int λu tk=>⟨.int (if i<0 then -i else i),H,I.tok _,⟨_,rfl⟩,q⟩
def adx(hc:X.calm=true):qp X (.builtin "max") (λxs H Q=>∃i j,xs=[.int i,.int j]/\Q (.int (if j>i then j else i)) H):=by
 intro aE s σ H xs us Q I r h;obtain⟨i,j,rfl,q⟩:=h;obtain⟨u,w',rfl,⟨t,rfl⟩,⟨t',rfl⟩⟩:=Ca r;refine max_two_ints (I.ok.hd hc) λh' tk k=>⟨_,H,I.kept k,?_,q⟩;by_cases hj:j>i
 .rw[if_pos hj,if_pos hj];exact⟨_,rfl⟩
 .rw[if_neg hj,if_neg hj];exact⟨_,rfl⟩
def adg(hc:X.calm=true):qp X (.builtin "min") (λxs H Q=>∃i j,xs=[.int i,.int j]/\Q (.int (if j<i then j else i)) H):=by
 intro aE s σ H xs us Q I r h;obtain⟨i,j,rfl,q⟩:=h;obtain⟨u,w',rfl,⟨t,rfl⟩,⟨t',rfl⟩⟩:=Ca r;refine min_two_ints (I.ok.hd hc) λh' tk k=>⟨_,H,I.kept k,?_,q⟩;by_cases hj:j<i
 .rw[if_pos hj,if_pos hj];exact⟨_,rfl⟩
 .rw[if_neg hj,if_neg hj];exact⟨_,rfl⟩
def akh:qp X (.type "int") (λxs H Q=>(∃i,xs=[.int i]/\Q (.int i) H)\/∃k,xs=[.bl k]/\Q (.int (if k then 1 else 0)) H):=by
 intro aE s σ H xs us Q I r h;rcases h with ⟨i,rfl,q⟩|⟨k,rfl,q⟩
 .obtain⟨u,rfl,t,rfl⟩:=qv r;exact call_int_int ⟨.int i,H,I,⟨_,rfl⟩,q⟩
 .obtain⟨u,rfl,r1⟩:=qv r;cases r1;exact call_int_bool ⟨.int (if k then 1 else 0),H,I.tok _,⟨_,rfl⟩,q⟩
def aec:qp X (.type "str") (λxs H Q=>∃i,xs=[.int i]/\i.natAbs.log2<1920/\Q (.str<|cX i) H):=by intro aE s σ H xs us Q I r h;obtain⟨i,rfl,hz,q⟩:=h;obtain⟨u,rfl,t,rfl⟩:=qv r;exact PySem.P.str_of_int hz ⟨.str _,H,I.tok _,⟨_,rfl⟩,q⟩
end
structure ObjM(h:Heap)(x dx C:aF)(mA:Str->Option aA):Prop where
 obj:h.get? x=some (PySem.W.instObj C dx)
 ns:h.Ns1 dx mA
 ne:dx≠x
def akx{h:Heap}{dx:aF}{mA:Str->Option aA}(n:h.Ns1 dx mA):∃od,h.get? dx=some od/\∀name,PySem.W.lookIn name od=some (mA name):=by
 obtain⟨o,es,ep,ho,hd,hk,_,hm⟩:=n;refine⟨o,ho,λname=>?_⟩;have e:=hm name;unfold nsFind findBy at e;rw[<-Array.find?_toList]at e;unfold PySem.W.lookIn;rw[hd];dsimp only;split
 .rename_i y q
  rw[q]at e;exact congrArg some e
 .rename_i q
  rw[q]at e;have a:es.toList.any (·.refKey)=false:=by rw[List.any_eq_false];intro y hy;obtain⟨z,t,fZ⟩:=hk y<|Array.mem_toList_iff.mp hy;simp[jM.refKey,fZ]
  have a':¬es.toList.any (·.refKey)=true:=by rw[a];exact aj
  rw[if_neg a'];exact congrArg some e
def ObjM.look{h:Heap}{x dx C:aF}{mA:Str->Option aA}(I:ObjM h x dx C mA):∃od,PySem.W.InstAt h x (PySem.W.instObj C dx) C (some od)/\∀name,PySem.W.lookIn name od=some (mA name):=
 let ⟨od,ho,hl⟩:=akx I.ns
 ⟨od,⟨I.obj,rfl,rfl,ho⟩,hl⟩
section
variable{P:aJ}{w:aL}{H H':Hp}{h h':Heap}{a C dx:aF}{fs fs':U (Str×V)}
def aqd(hok:HOk P w H h)(e:H a=some (.ins C dx fs)):∃mA,ObjM h a dx C mA/\(∀f,RelO (fs.lookup f)<|mA f)/\PySem.Within mA (fs.map (·.1))/\fs.length<=1000/\H dx=some (.own a):=by obtain⟨d,z,ne,ob,mA,n,r,q⟩:=(show ObjOk P w H h a (.ins C dx fs)from hok a _ e);exact⟨mA,⟨ob,n,ne⟩,r,q,z,d⟩
end
structure Cls(K:au)(C:aF):Prop where
 pg:PySem.W.plainGet K C Str.empty=true
 hd:PySem.W.hasDictIn K C=true
 po:PySem.W.plainOver K C=true
 sa:PySem.W.findIn K (.ref C) "__setattr__" = some (some<|.builtin "object.__setattr__")
def Cls.get{K:au}{C:aF}(c:Cls K C)(f:Str):PySem.W.plainGet K C f=true:=c.pg
section
variable{X:Cx}{aE:U (aF×Obj)}{σ:St}{H:Hp}{s:aC}{A:Around}{E:aA->aC->Prop}{Q:aA->aC->Prop}{c:aA}{b:Bool}
inductive jC(K:au)(H:Hp):V->aA->Prop where
 | non:jC K H .non (.type "NoneType")
 | bl (x:Bool):jC K H (.bl x) (.type "bool")
 | int (i:Int):jC K H (.int i) (.type "int")
 | str (x:Str):jC K H (.str x) (.type "str")
 | flt (x:UInt64):jC K H (.flt x) (.type "float")
 | lst {a:aF} {xs:U V} (e:H a=some (.lst xs)):jC K H (.ref a) (.type "list")
 | frz {a:aF} {o:Obj} {xs:U V} (e:H a=some (.frz o<|.lst xs)):jC K H (.ref a) (.type "list")
 | tup {a:aF} {xs:U V} (e:H a=some (.tup xs)):jC K H (.ref a) (.type "tuple")
 | dK {a:aF} {aP:U (Key×V)} (e:H a=some (.dK aP)):jC K H (.ref a) (.type "dict")
 | dT {a:aF} {aP:U (U Key×V)} (e:H a=some (.dT aP)):jC K H (.ref a) (.type "dict")
 | ins {a C dx:aF} {fs:U (Str×V)} (e:H a=some (.ins C dx fs)) (cl:Cls K C) (ha:PySem.W.findIn K (.ref C) "__class__" = some (some<|.builtin "object.__class__"))
   (hn:PySem.W.specialIn K (.builtin "object.__class__") "__get__" = some (some<|.builtin "getset_descriptor.__get__")) (uH:PySem.W.takesIn K (.builtin "object.__class__")=some true)
   (hm:PySem.W.mroIn K C (.type "object")=some true):jC K H (.ref a) (.ref C)
theorem ajm{x:V}{u t:aA}(I:Inv X aE σ H s)(rx:RelV x u)(ty:jC X.K H x t)(e:jk X.K t c=some b)(h:∀tk,Q (.bool b) {s with toks:=tk}) :
  aH (aI X.prog X.w) A (call (.builtin "isinstance") [u,c]) Q E s:=by
 cases ty with
 | non=>cases (show u=aA.none from rx);exact gm PySem.W.kitx_none I.kIn True.intro e (λz=>nomatch z) h
 | bl y=>cases (show u=aA.bool y from rx);exact gm PySem.W.kitx_bool I.kIn True.intro e (λz=>nomatch z) h
 | int i=>obtain⟨t,q⟩:=(show ∃t,u=aA.int i t from rx);cases q;exact gm PySem.W.kitx_int I.kIn True.intro e (λz=>nomatch z) h
 | str y=>obtain⟨t,q⟩:=(show ∃t,u=aA.str y t from rx);cases q;exact gm PySem.W.kitx_str I.kIn True.intro e (λz=>nomatch z) h
 | flt y=>obtain⟨t,q⟩:=(show ∃t,u=aA.float y t from rx);cases q;exact gm PySem.W.kitx_float I.kIn True.intro e (λz=>nomatch z) h
 | @lst a xs ea=>
  cases (show u=aA.ref a from rx);obtain⟨_,_,n,_,h1⟩:=(show ObjOk X.prog X.w H s.heap a (.lst xs)from I.hok a _ ea);exact gm PySem.W.kitx_list I.kIn ⟨_,h1,rfl⟩ e (λz=>nomatch z) h
 | @frz a ob xs ea=>
  cases (show u=aA.ref a from rx);obtain⟨_,_,_,n,_,h1⟩:=(show ObjOk X.prog X.w H s.heap a (.frz ob<|.lst xs)from I.hok a _ ea);exact gm PySem.W.kitx_list I.kIn ⟨_,h1,rfl⟩ e (λz=>nomatch z) h
 | @tup a xs ea=>
  cases (show u=aA.ref a from rx);obtain⟨_,_,_,p⟩:=(show ObjOk X.prog X.w H s.heap a (.tup xs)from I.hok a _ ea);obtain⟨o,h1,h2,_⟩:=p;exact gm PySem.W.kitx_tuple I.kIn ⟨o,h1,h2⟩ e (λz=>nomatch z) h
 | @dK a aP ea=>
  cases (show u=aA.ref a from rx);obtain⟨_,_,vs,_,p⟩:=(show ObjOk X.prog X.w H s.heap a (.dK aP)from I.hok a _ ea);obtain⟨o,es,ep,h1,h2,_⟩:=p;exact gm PySem.W.kitx_dict I.kIn ⟨o,h1,h2.1⟩ e (λz=>nomatch z) h
 | @dT a aP ea=>
  cases (show u=aA.ref a from rx);obtain⟨_,_,xs,_,o,es,ep,h1,h2,_⟩:=(show ObjOk X.prog X.w H s.heap a (.dT aP)from I.hok a _ ea);exact gm PySem.W.kitx_dict I.kIn ⟨o,h1,h2.1⟩ e (λz=>nomatch z) h
 | @ins a C dx fs ea cl ha hn uH hm=>
  cases (show u=aA.ref a from rx);obtain⟨mA,O,_⟩:=aqd I.hok ea;obtain⟨od,J,_⟩:=O.look;exact gm (PySem.W.kitx_own (cl.get _) cl.hd ha hn uH hm) I.kIn J e (λz=>nomatch z) h
end
structure Room(k:Nat)(A:Around):Prop where
 hd:A.handled=none
 dp:A.depth+3*k+5<recursionLimit
 un:A.units+16*k+200<aY
def Room.mono{j k:Nat}{A:Around}(r:Room k A)(h:j<=k):Room j A:=⟨r.hd,by have:=r.dp;lia,by have:=r.un;lia⟩
theorem Room.deeper{k:Nat}{A:Around}(r:Room (k+1) A)(env:qE):Room k (A.deeper env):=
 ⟨r.hd,by have:=r.dp;show A.depth+1+3*k+5<_;lia,by have:=r.un;show A.units+3+16*k+200<_;lia⟩
theorem Room.depth{k:Nat}{A:Around}(r:Room k A):A.depth<recursionLimit:=by have:=r.dp;lia
theorem Room.units{k:Nat}{A:Around}(r:Room k A):A.units+64<aY:=by have:=r.un;lia
def zS:TA:=λ_ H Q=>Q [] H
def ye(ta:TE)(tr:TA):TA:=λσ H Q=>ta σ H λx H1=>tr σ H1 λxs H2=>Q (x::xs) H2
section
variable{X:Cx}{e:Expr}{es:U Expr}{te:TE}{t:TA}{pos:dE}
def jz:PA X [] zS:=λ_ _ _ _ H Q I h=>Calls.spliced_nil ⟨[],H,I,.nil,h⟩
def aqh(ha:PE X e te)(hr:PA X es t)(hs:aM (e::es) X.env=(false,bR e X.env)::aM es X.env:=by rfl):PA X (e::es) (ye te t):=by intro pos aE s σ H Q I h;rw[hs];show aH _ _ (kI ((false,bR e X.env)::bM pos (aM es X.env))) _ _ s;refine jq<|thn (ha aE s σ H _ I h) λu s1 ⟨x,H1,I1,r1,q1⟩=>?_;exact thn (hr pos aE s1 σ H1 _ I1 q1) λus s2 ⟨xs,H2,I2,r2,q2⟩=>⟨x::xs,H2,I2,.cons r1 r2,q2⟩
def B2(t:TA):TE:=λσ H Q=>t σ H λxs H1=>xs.length<=aG/\∀p,H1 p=none->Q (.ref p) (upd H1 p<|.tup xs)
def axo(t:TA):TE:=λσ H Q=>t σ H λxs H1=>xs.length<=aG/\∀p,H1 p=none->Q (.ref p) (upd H1 p<|.lst xs)
def on{x1}(h:PA X es t):PE X (.Tuple es x1 pos) (B2 t):=by intro aE s σ H Q I hq;refine wpAny_Tuple_spliced<|thn (h pos aE s σ H _ I hq) λus s1 ⟨xs,H1,I1,r,z,q⟩=>⟨by rw[<-r.length];exact z,?_⟩;have hf:H1 s1.heap.objs.size=none:=I1.hok.fresh<|aq _;refine⟨.ref s1.heap.objs.size,upd H1 s1.heap.objs.size<|.tup xs,I1.laid (t':=s1.toks) (λb u e=>ai _ e) (aq _) ?_,rfl,q _ hf⟩;exact⟨z,us,r,⟨_,a0 _ rfl,rfl,_,rfl⟩⟩
def ou(h:PA X es t):PE X (.List es pos) (axo t):=by intro aE s σ H Q I hq;refine wpAny_List_spliced<|thn (h pos aE s σ H _ I hq) λus s1 ⟨xs,H1,I1,r,z,q⟩=>⟨by rw[<-r.length];exact z,?_⟩;have hf:H1 s1.heap.objs.size=none:=I1.hok.fresh<|aq _;refine⟨.ref s1.heap.objs.size,upd H1 s1.heap.objs.size<|.lst xs,I1.laid (t':=s1.toks) (λb u e=>ai _ e) (aq _) ?_,rfl,q _ hf⟩;exact⟨z,us,0,r,a0 _ rfl⟩
end
abbrev Sp:=U V->Hp->VK->XK->Prop
abbrev CXT:=U qE->Hp->aC->XK->aA->aC->Prop
structure DM(P:aJ)(w:aL)(K:au)(mg:Str->Option aA)(base:Heap)(A:Around)(outer:U qE)(s:aC)(H:Hp):Prop where
 frames:A.frames=some outer
 mod:Mod K mg base
 bs:∀b o,base.get? b=some o->s.heap.get? b=some o/\H b=none
 bsz:base.objs.size<=s.heap.objs.size
 funs:s.heap.FunFrames base outer
 frf:∀b∈frs outer,H b=none
 hok:HOk P w H s.heap
 bare:eP s.gens
def CE(outer:U qE)(P:aJ)(w:aL)(H:Hp)(s:aC)(Q:VK)(u:aA)(s':aC):Prop:=
 ∃v H',s'.os=s.os/\eP s'.gens/\Un (frs outer) [] H H' s.heap s'.heap/\HOk P w H' s'.heap/\RelV v u/\Q v H'
def CR(CX:CXT)(outer:U qE)(P:aJ)(w:aL)(H:Hp)(s:aC)(Q:VK)(E:XK)(r:jL)(s':aC):Prop:=
 match r with
 | .ok (.ret u)=>CE outer P w H s Q u s'
 | .ok _=>False
 | .error e=>CX outer H s E e s'
structure p9(P:aJ)(w:aL)(K:au)(mg:Str->Option aA)(base:Heap)(CX:CXT)(k:Nat)(f:aF)(fd:bX)(ps:U Str)(sp:Sp):Prop where
 len:∀vs H Q E,sp vs H Q E->vs.length=ps.length
 run:∀(A:Around)(outer:U qE)(s:aC)(H:Hp)(args:Ej)(us:U aA)(vs:U V)(Q:VK)(E:XK),Room k A->DM P w K mg base A outer s H->lF s fd args (ps.zip us)->Vals vs us->sp vs H Q E->
  cI (aI P w) A (.call (.ref f) args) (CR CX outer P w H s Q E) s
section
variable{X:Cx}{aE:U (aF×Obj)}{σ:St}{H:Hp}{s s':aC}
def Inv.env0(I:Inv X aE σ H s):DM X.prog X.w X.K X.mg X.base X.A X.stack s H:=
 ⟨I.ok.frames,I.ok.mod,I.bs,fg I.ok.bsz I.sz,I.stack,I.stkFree,I.hok,I.bare⟩
def Inv.after{Q:VK}{u:aA}(I:Inv X aE σ H s)(h:CE X.stack X.prog X.w H s Q u s'):EP X aE σ Q u s':=by obtain⟨v,H',os,bare,un,hok,r,q⟩:=h;obtain⟨hh,g,d,t,oH⟩:=s';obtain rfl:oH=s.os:=os;exact⟨v,H',I.call (h':=hh) (g':=g) (d':=d) (t':=t) (ch:=[]) un hok bare λb z=>absurd z<|by simp,r,q⟩
end
def ass(sp:Sp)(vE:U V)(E:XK)(t:TA):TE:=λσ H Q=>t σ H λvs H1=>sp (vs++vE) H1 Q E
def Binds(K:au)(fd:bX)(ps:U Str)(ds:U aA):Prop:=
 ∀(s:aC)(us:U aA),K.In s.heap->(us++ds).length=ps.length->lF s fd ⟨us,[]⟩ (ps.zip<|us++ds)
def Binds.all{K:au}{fd:bX}{ps:U Str}(h:∀us:U aA,us.length=ps.length->bindArgs fd ⟨us,[]⟩=bQ (ps.zip us)):Binds K fd ps []:=λs us _ hl=>by rw[gz]at hl⊢;exact .of_eq<|h us hl
def Ie(CX:CXT)(X:Cx)(E:XK):Prop:=∀(aE:U (aF×Obj)) (σ:St) (H:Hp) (s:aC) (e:aA) (s':aC),Inv X aE σ H s->CX X.stack H s E e s'->X.xe e s'
section
variable{X:Cx}{CX:CXT}{k:Nat}{f C:aF}{fd:bX}{ps:U Str}{sp:Sp}{vE:U V}{ds:U aA}{E:XK}{x m:Str}{p pos gB:dE}{e o:Expr}{es:U Expr}{ta:TE}{t:TA}
theorem au3{aE:U (aF×Obj)}{σ:St}{H:Hp}{s:aC}{Q:VK}{us:U aA}{vs:U V}(F:p9 X.prog X.w X.K X.mg X.base CX k f fd ps sp)(hr:Room k X.A)(hb:Binds X.K fd ps ds)(hd:Vals vE ds)(hx:Ie CX X E)
  (I:Inv X aE σ H s) (r:Vals vs us) (h:sp (vs++vE) H Q E):aH (aI X.prog X.w) X.A (call (.ref f) us) (EP X aE σ Q) X.xe s:=by
 have r2:Vals (vs++vE) (us++ds):=r.append hd;have hl:(us++ds).length=ps.length:=by rw[<-r2.length];exact F.len _ _ _ _ h
 refine gT<|js (F.run X.A X.stack s H ⟨us,[]⟩ (us++ds) (vs++vE) Q E hr I.env0 (hb s us I.kIn hl) r2 h) λr s' hq=>?_;cases r with
 | error e=>exact hx aE σ H s e s' I hq
 | ok fl=>
  cases fl with
  | ret u=>exact I.after hq
  | next=>exact False.elim hq
  | brk=>exact False.elim hq
  | cont=>exact False.elim hq
def apx(F:p9 X.prog X.w X.K X.mg X.base CX k f fd ps sp)(hr:Room k X.A)(hg:Gl X x)(hm:X.mg x=some (.ref f))(hk:PySem.W.keepIn X.K (.ref f)=true)(hb:Binds X.K fd ps ds)(hd:Vals vE ds)(hx:Ie CX X E)
  (ha:PA X (e::es) t) (pJ:(x==("__debug__" : Str))=false:=by decide) (he:aM (e::es) X.env=(false,bR e X.env)::aM es X.env:=by rfl) (eF:(bM pos<|aM es X.env).any (·.1)=false:=by rfl) :
  PE X (.Call (.Name x p) (e::es) [] pos) (ass sp vE E t):=by
 intro aE s σ H Q I h;refine f9<|alt I hg hm ?_ pJ;refine PySem.W.callWith_K (h₀:=X.base) I.ok.mod.kin hk (thn (ha pos aE s σ H _ I h) λus s1 ⟨vs,H1,I1,r,q⟩=>⟨I1.kIn,?_⟩) he eF;exact au3 F hr hb hd hx I1 r q
end
def PK(X:Cx)(AJ:U gD)(t:TA):Prop:=
 ∀(pos:dE) (aE:U (aF×Obj)) (s:aC) (σ:St) (H:Hp) (Q:U V->Hp->Prop),Inv X aE σ H s->t σ H Q->aH (aI X.prog X.w) X.A (evalAll<|(mH pos<|fK AJ X.env).map (·.2)) (AP X aE σ Q) X.xe s
section
variable{X:Cx}{CX:CXT}{k:Nat}{f C:aF}{fd:bX}{ps ks:U Str}{sp:Sp}{E:XK}{x m:Str}{p pos gB oK:dE}{e o:Expr}{es:U Expr}{AJ:U gD}{te ta:TE}{t tk:TA}{nm:Option Str}
def aoi:PK X [] zS:=λ_ _ _ _ H Q I h=>wpAny_evalAll_nil ⟨[],H,I,.nil,h⟩
def akg(ha:PE X e te)(hr:PK X AJ t):PK X (⟨nm,e,oK⟩::AJ) (ye te t):=by intro pos aE s σ H Q I h;show aH _ _ (evalAll ((do let v <-bR e X.env;An pos;bQ v)::(mH pos<|fK AJ X.env).map (·.2))) _ _ s;refine wpAny_evalAll_cons<|ab<|thn (ha aE s σ H _ I h) λu s1 ⟨x,H1,I1,r1,q1⟩=>ab<|eB<|am ?_;exact thn (hr pos aE s1 σ H1 _ I1 q1) λus s2 ⟨xs,H2,I2,r2,q2⟩=>⟨x::xs,H2,I2,.cons r1 r2,q2⟩
variable{g:U aA->U aA->U aA}{gV:U V->U V->U V}
end
structure km(N P:U Str)(sc:cF):Prop where
 kind:sc.kind=.function:=by rfl
 co:sc.isCoroutine=false:=by rfl
 gen:sc.isGenerator=false:=by rfl
 nd:N.Nodup:=by decide +kernel
 pre:N.take P.length=P:=by rfl
 par:∀x∈P,sc.names.lookup x=some .local\/sc.names.lookup x=some .cell:=by decide +kernel
 nofree:∀y∈sc.names,y.2≠.free:=by decide +kernel
theorem ad0{kindOf:Str->Option aO}{x:Str}:∀{binds:U (Str×aA)} {m:Str->Option aA},(∀v,(x,v)∉binds)->pX kindOf binds m x=m x
 | [],_,_=>rfl
 | (n,v)::r,m,h=>by
  unfold pX;rw[ad0 λw hw=>h w<|ao _ hw];split
  .have:x≠n:=by rintro rfl;exact h v ak
   simp[this]
  .rfl
theorem aem{kindOf:Str->Option aO}{x:Str}:∀{binds:U (Str×aA)} {m:Str->Option aA},(∀v,(x,v)∉binds)->pY kindOf binds m x=m x
 | [],_,_=>rfl
 | (n,v)::r,m,h=>by
  unfold pY;rw[aem λw hw=>h w<|ao _ hw];split
  .rfl
  .have:x≠n:=by rintro rfl;exact h v ak
   simp[this]
theorem adl{kindOf:Str->Option aO}{x:Str}{v:aA}:∀{P:U Str} {vs:U aA} {i:Nat} {m:Str->Option aA},P.Nodup->P[i]?=some x->vs[i]?=some v->kindOf x=some .local->
  pX kindOf (P.zip vs) m x=some v
 | [],_,_,_,_,h,_,_=>by simp at h
 | _::_,[],_,_,_,_,h,_=>by simp at h
 | p::P,w::vs,0,m,nd,h1,h2,hk=>by simp at h1 h2;subst h1;subst h2;show pX kindOf ((p,w)::P.zip vs) m p=_;unfold pX;rw[ad0 λv hv=>(g0.mp nd).1 (List.of_mem_zip hv).1,if_pos hk];simp
 | p::P,w::vs,i+1,m,nd,h1,h2,hk=>by show pX kindOf ((p,w)::P.zip vs) m x=_;unfold pX;exact adl (i:=i) (g0.mp nd).2 (by simpa using h1) (by simpa using h2) hk
theorem aei{kindOf:Str->Option aO}{x:Str}{v:aA}:∀{P:U Str} {vs:U aA} {i:Nat} {m:Str->Option aA},P.Nodup->P[i]?=some x->vs[i]?=some v->kindOf x≠some .local->
  pY kindOf (P.zip vs) m x=some v
 | [],_,_,_,_,h,_,_=>by simp at h
 | _::_,[],_,_,_,_,h,_=>by simp at h
 | p::P,w::vs,0,m,nd,h1,h2,hk=>by simp at h1 h2;subst h1;subst h2;show pY kindOf ((p,w)::P.zip vs) m p=_;unfold pY;rw[aem λv hv=>(g0.mp nd).1 (List.of_mem_zip hv).1,if_neg hk];simp
 | p::P,w::vs,i+1,m,nd,h1,h2,hk=>by show pY kindOf ((p,w)::P.zip vs) m x=_;unfold pY;exact aei (i:=i) (g0.mp nd).2 (by simpa using h1) (by simpa using h2) hk
noncomputable def vK(N:U Str)(vs:U V):St:=vs.map some++List.replicate (N.length-vs.length) none
noncomputable def zR(CX:CXT)(P:aJ)(w:aL)(K:au)(mg:Str->Option aA)(base:Heap)(N:U Str)(qual:Str)(scope:cF)(f:aF)(cd:aA)(A:Around)(outer:U qE)(s:aC)(H:Hp)(E:XK):Cx where
 prog:=P
 w:=w
 K:=K
 mg:=mg
 base:=base
 A:=A.deeper (hJ qual scope s.heap.objs.size f cd)
 N:=N
 s₀:=s
 H₀:=H
 env:=hJ qual scope s.heap.objs.size f cd
 outer:=outer
 stack:=hJ qual scope s.heap.objs.size f cd::outer
 ex:=[]
 calm:=true
 fn:=λ_=>true
 pn:=[]
 xe:=λe s'=>aH (aI P w) (A.deeper<|hJ qual scope s.heap.objs.size f cd) (leaving (hJ qual scope s.heap.objs.size f cd) e) (λ_ vT=>CX outer H s E e vT) (λe' vT=>CX outer H s E e' vT) s'
def agb{sc:cF}{n:Nat}{x:Str}(h:sc.names.lookup x=some .cell):∃c,(DG n sc.names []).lookup x=some c:=by have q:=PySem.W.cellsFrom_some sc.names n []<|.inl h;exact Option.isSome_iff_exists.mp q
theorem ajy{CX:CXT}{P:aJ}{w:aL}{K:au}{mg:Str->Option aA}{base:Heap}{N ps:U Str}{qual:Str}{scope:cF}{f:aF}{cd:aA}{A:Around}{outer:U qE}{s s1:aC}{H:Hp}{E:XK}{us:U aA}{vs:U V}
  (S:km N ps scope) (hd:A.handled=none) (e0:DM P w K mg base A outer s H) (hl:vs.length=ps.length) (r:Vals vs us)
  (x:InCallC s s.heap.objs.size (pX (hJ qual scope s.heap.objs.size f cd).kindOf (ps.zip us) λ_=>none) (DG (s.heap.objs.size+1) scope.names []) (pY (hJ qual scope s.heap.objs.size f cd).kindOf (ps.zip us) λ_=>none) s1) :
  Inv (zR CX P w K mg base N qual scope f cd A outer s H E) [] (vK N vs) H s1:=by
 have eF:ps.length<=N.length:=by have:=congrArg List.length S.pre;rw[c8]at this;lia
 obtain⟨h1,tk,rfl,hk⟩:=x.done;have AE:∀b:aF,b∉(zR CX P w K mg base N qual scope f cd A outer s H E).ex:=λb z=>absurd (show b∈([]:U aF)from z) (by simp);refine⟨⟨e0.mod,S.kind,rfl,rfl,aq _,λy z c h1 h2=>?_,λy hy=>?_,λy c _ h=>?_,λ_=>hd,Around.frames_deeper e0.frames,.inr ⟨rfl,rfl⟩,λb z=>absurd z<|AE b,e0.bs,e0.bsz,λb _ _=>AE b,λb z=>absurd z<|AE b,e0.funs,e0.frf⟩,
  rfl,e0.bare,Un.kept hk,⟨_,x.toInCall.ns,λi y v h1 h2 h3=>?_⟩,λy c h=>⟨_,x.cell y c h⟩,e0.hok.fresh<|aq _,λy c h=>?_,λp hp=>absurd (show p∈([]:U (aF×Obj))from hp)<|by simp,e0.hok.kept hk,?_⟩
 .exact name_of_addr x.apart (gv h1)<|gv h2
 .have hy:scope.names.lookup y=some .cell\/scope.names.lookup y=some .free:=hy;rcases hy with hy|hy
  .exact agb hy
  .exact absurd rfl<|S.nofree _<|gv hy
 .exact cq<|x.above y c<|gv h
 .have hi:i<vs.length:=by
   unfold vK at h2;by_cases hi:i<vs.length
   .exact hi
   .rw[bj (by simpa using hi)]at h2;rw[List.getElem?_replicate]at h2;split at h2<;>cases h2
  have ha:vs[i]?=some v:=by
   unfold vK at h2;rw[bp (by simpa using hi),a6]at h2;cases e:vs[i]? with
   | none=>rw[e]at h2;cases h2
   | some a=>rw[e]at h2;cases h2;rfl
  obtain⟨u,hu,rv⟩:=r.get ha;have hp:ps[i]?=some y:=by rw[<-S.pre,gg<|by lia];exact h1
  have ndP:ps.Nodup:=by rw[<-S.pre];exact S.nd.sublist<|List.take_sublist _ _
  refine⟨u,rv,?_⟩;rcases S.par y (ah hp)with k|k
  .exact .inl ⟨k,adl ndP hp hu k⟩
  .obtain⟨c,e⟩:=agb (n:=s.heap.objs.size+1) k;refine .inr ⟨.inl k,c,e,?_⟩;have q:=x.cell y c e;rw[aei ndP hp hu (by show scope.names.lookup y≠_;rw[k];decide)]at q;exact q
 .exact e0.hok.fresh<|cq<|x.above y c<|gv h
 .unfold vK;show _=N.length;rw[be,ac,List.length_replicate];lia
theorem avf{CX:CXT}{P:aJ}{w:aL}{K:au}{mg:Str->Option aA}{base:Heap}{k:Nat}{f:aF}{name qual:Str}{params:Arguments}{body:U aS}{scope:cF}{dV kV hU pm bE ct oc:aA}{an od:Option aF}
  {sI:Array (Option aA)} {N ps:U Str} {sp:Sp} (lk:K.lookup f=some ⟨oc,od,.func<|jt name qual params body scope dV kV hU pm an bE ct,sI⟩) (nQ:PySem.W.codeIn K bE qual=true) (S:km N ps scope)
  (len:∀vs H Q E,sp vs H Q E->vs.length=ps.length)
  (pN:∀(A:Around)(outer:U qE)(s:aC)(H:Hp)(vs:U V)(Q:VK)(E:XK),Room k (A.deeper<|hJ qual scope s.heap.objs.size f bE)->sp vs H Q E->
   ∃t,PSs (zR CX P w K mg base N qual scope f bE A outer s H E) body t/\t {nx:=λ_ H'=>Q .non H',rt:=Q} (vK N vs) H) :
  p9 P w K mg base CX (k+1) f (jt name qual params body scope dV kV hU pm an bE ct) ps sp:=by
 refine⟨len,λA outer s H args us vs Q E hr e0 hb r fG=>?_⟩;have hl:=len _ _ _ _ fG;have KX:K.In s.heap:=e0.mod.kin.keeps λb o e=>(e0.bs b o e).1;have lim:s.heap.NoLimit:=e0.mod.nolimit.keeps λb o e=>(e0.bs b o e).1;have eG:∀y∈ps.zip us,scope.names.lookup y.1=some .local\/(scope.names.lookup y.1=some .cell/\((DG (s.heap.objs.size+1) scope.names []).lookup y.1).isSome=true):=λ⟨n,v⟩ hy=>by
  rcases S.par n (List.of_mem_zip hy).1 with q|q
  .exact .inl q
  .exact .inr ⟨q,PySem.W.cellsFrom_some _ _ _<|.inl q⟩
 refine codeAny_call_function hr.depth (KX _ _ lk) rfl S.co S.gen rfl (PySem.W.codeRec_of KX nQ)<|hb _ _ _ _ ?_;refine wpAny_newFunctionEnv_cells S.kind eG λenv he s1 x=>?_;subst he;refine⟨lim.keeps x.toInCall.keep,codeAny_func ?_⟩;obtain⟨t,ht,hq⟩:=pN A outer s H vs Q E (hr.deeper _) fG;have I:Inv (zR CX P w K mg base N qual scope f bE A outer s H E) [] (vK N vs) H s1:=ajy S hr.hd e0 hl r x;refine jj (ht [] s1 (vK N vs) H _ I hq) (λfl s' hs=>?_) λe s' hs=>hs;have fin:∀{σ':St} {H':Hp} {v:V} {u:aA},Inv (zR CX P w K mg base N qual scope f bE A outer s H E) [] σ' H' s'->RelV v u->Q v H'->CE outer P w H s Q u s':=
  λ{σ' H' v u} J rv q=>⟨v,H',J.os,J.bare,J.base,J.hok,rv,q⟩
 cases fl with
 | ret u=>
  obtain⟨v,σ',H',J,rv,q⟩:=hs;exact fin J rv q
 | next=>
  obtain⟨σ',H',J,q⟩:=hs;exact fin (v:=V.non) (u:=aA.none) J rfl q
 | brk=>
  obtain⟨_,_,_,q⟩:=hs;exact False.elim q
 | cont=>
  obtain⟨_,_,_,q⟩:=hs;exact False.elim q
section
variable{X:Cx}{x:Str}{p pos:dE}{e:Expr}{es:U Expr}{t:TA}{id T:String}{r:U V->Hp->VK->Prop}
def tCB(r:U V->Hp->VK->Prop)(t:TA):TE:=λσ H Q=>t σ H λvs H1=>r vs H1 Q
def anq(hc:qp X (.builtin id) r)(hg:Gl X x)(hm:X.mg x=none)(hv:cA x=some (.builtin id))(ha:PA X (e::es) t)(hn:x≠"__name__":=by decide)(pJ:(x==("__debug__" : Str))=false:=by decide)
  (he:aM (e::es) X.env=(false,bR e X.env)::aM es X.env:=by rfl) (eF:(bM pos<|aM es X.env).any (·.1)=false:=by rfl):PE X (.Call (.Name x p) (e::es) [] pos) (tCB r t):=by
 intro aE s σ H Q I h;refine f9<|so I hg hm hv ?_ hn pJ;exact je (thn (ha pos aE s σ H _ I h) λus s1 ⟨vs,H1,I1,r1,q1⟩=>hc aE s1 σ H1 vs us Q I1 r1 q1) he eF
def ak1(hc:qp X (.type T) r)(hg:Gl X x)(hm:X.mg x=none)(hv:cA x=some (.type T))(ha:PA X (e::es) t)(hn:x≠"__name__":=by decide)(pJ:(x==("__debug__" : Str))=false:=by decide)
  (he:aM (e::es) X.env=(false,bR e X.env)::aM es X.env:=by rfl) (eF:(bM pos<|aM es X.env).any (·.1)=false:=by rfl):PE X (.Call (.Name x p) (e::es) [] pos) (tCB r t):=by
 intro aE s σ H Q I h;refine f9<|so I hg hm hv ?_ hn pJ;exact en (thn (ha pos aE s σ H _ I h) λus s1 ⟨vs,H1,I1,r1,q1⟩=>hc aE s1 σ H1 vs us Q I1 r1 q1) he eF
end
end L2
namespace HT
open PySem PyProof.Rows
noncomputable def lexLt:U Int->U Int->Bool
 | [],[]=>false
 | [],_::_=>true
 | _::_,[]=>false
 | x::xs,y::ys=>if x=y then lexLt xs ys else decide (x<y)
def lexLt_cons(x y:Int)(xs ys:U Int):lexLt (x::xs) (y::ys)=if x=y then lexLt xs ys else decide (x<y):=rfl
def lexLt_nil_nil:lexLt [] []=false:=rfl
def aa8(y:Int)(ys:U Int):lexLt [] (y::ys)=true:=rfl
def aba(x:Int)(xs:U Int):lexLt (x::xs) []=false:=rfl
def am2(A:Around)(s:aC)(a:Int)(t:gR)(c:Int)(u:gR):∃e,SeqAt.EqAt A s (.int a t) (.int c u) e/\(e=true↔a=c):=
 ⟨(a==c),SeqAt.EqAt.int_int a t c u,by simp⟩
def aly(A:Around)(s:aC)(a:Int)(t:gR)(c:Int)(u:gR)(prog:aJ)(w:aL)(E:aA->aC->Prop)(Q:aA->aC->Prop)(h:Q (.bool<|decide<|a<c) s) :
  aH (aI prog w) A (jN .Lt (.int a t)<|.int c u) Q E s:=
 (PyProof.Rows.lt_int h:aH (aI prog w) A (aN .Lt (.int a t)<|.int c u) Q E s)
section
open PySem.SeqAt
open PySem.AutoSeq1 (wpAny_loadPart')
open PySem.MeetsSeq PySem.MeetsSeq2 PySem.MeetsSeq3
theorem ac1(l b:aF)(items bI:Array aA)(n n2:Nat)(dd xI:Option aF)(sl vR:Array (Option aA))(ns ms:U Int)(hi:bO items.toList ns)(hj:bO bI.toList ms) :
  Meets (Builtin.«tuple.__lt__» ⟨[.ref l,.ref b],[]⟩)
   (λ_ R s=>s.heap.get? l=some {cls:=.type "tuple",dict:=dd,data:=.seq items n,slots:=sl}/\s.heap.get? b=some {cls:=.type "tuple",dict:=xI,data:=.seq bI n2,slots:=vR}/\
    R (.ok<|.ret<|.bool<|lexLt ns ms) s):=
 .of_wp λprog w A R s h=>by
  obtain⟨hp,g,d,tk,os⟩:=s;obtain⟨hl,hb,h⟩:=h;have f2:=AutoSeq1.sub_tuple_tuple;have z1:items.size=ns.length:=by rw[<-hi.length];simp
  have z2:bI.size=ms.length:=by rw[<-hj.length];simp
  wp_walk using g9 hl,g9 hb,jh _ (λbB b s'=>b.1=none/\s'=⟨hp,g,d,tk,os⟩/\∃(vs ws:U aA)(jH iV:U Int),bB=vs.zip ws/\
   bO vs jH/\bO ws iV/\jH.length+bI.size=iV.length+items.size/\R (.ok<|.ret<|.bool<|lexLt jH iV) ⟨hp,g,d,tk,os⟩) _
  case turn=>
   rintro⟨y,x⟩ bB b s' ⟨bZ,rfl,vs,ws,jH,iV,hz,uG,sN,aR,hR⟩;cases uG with
   | nil=>rw[List.zip_nil_left]at hz;cases hz
   | cons a t Fa=>
    cases sN with
    | nil=>rw[List.zip_nil_right]at hz;cases hz
    | cons c u E9=>
     rw[iu]at hz;injection hz with E5 jS
     injection E5 with hy hx
     subst hy hx;rw[lexLt_cons]at hR;simp only[ba]at aR;obtain⟨e,he,Bs⟩:=am2 A.in1 ⟨hp,g,d,tk,os⟩ a t c u;refine ab<|he prog w _ _ ?_;cases e with
     | true=>
      rw[if_pos (Bs.mp rfl)]at hR
      wp_walk
      exact⟨rfl,rfl,_,_,_,_,jS,Fa,E9,by lia,hR⟩
     | false=>
      rw[if_neg (λq=>absurd (Bs.mpr q) aj)]at hR;have Fs:=aly A.in1 ⟨hp,g,d,tk,os⟩ a t c u prog w
      wp_walk using Fs
      exact⟨_,rfl,by simpa using hR⟩
  case fin=>
   rintro⟨b1,b2⟩ s' ⟨bZ,rfl,vs,ws,jH,iV,hz,uG,sN,aR,hR⟩;simp only at bZ;subst bZ;have hv:lexLt jH iV=decide (items.size<bI.size):=by
    cases uG with
    | nil=>
     cases sN with
     | nil=>
      simp only[gc]at aR;rw[lexLt_nil_nil];exact(decide_eq_false<|by lia).symm
     | cons c u hw=>
      simp only[gc,ba]at aR;rw[aa8];exact(decide_eq_true<|by lia).symm
    | cons a t hv=>
     cases sN with
     | nil=>
      simp only[gc,ba]at aR;rw[aba];exact(decide_eq_false<|by lia).symm
     | cons c u hw=>
      rw[iu]at hz;cases hz
   rw[hv]at hR
   wp_walk
   exact⟨_,rfl,by simpa [Builtin.Tuple.tupleCompareSizes]using hR⟩
  case h=>
   exact⟨rfl,rfl,items.toList,bI.toList,ns,ms,rfl,hi,hj,by lia,h⟩
end
section
variable{prog:aJ}{w:aL}{A:Around}{E:aA->aC->Prop}{s:aC}
def lt_tupInts{l b:aF}{items bI:Array aA}{ns ms:U Int}{Q:aA->aC->Prop}(hl:IsTup s.heap l items)(hb:IsTup s.heap b bI)(hi:bO items.toList ns)(hj:bO bI.toList ms)
  (hu:A.units<aY) (h:Q (.bool<|lexLt ns ms) s):aH (aI prog w) A (aN .Lt (.ref l)<|.ref b) Q E s:=by
 obtain⟨⟨cls,dd,data,sl⟩,ho,hc,n,hd⟩:=id hl;obtain⟨⟨GE,xI,data2,vR⟩,ho2,hc2,n2,qV⟩:=id hb;simp only at hc hd hc2 qV;subst hc hd hc2 qV;exact qL (op:=.Lt) ⟨_,ho,rfl⟩ ⟨_,ho2,rfl⟩ PySem.F.slot_tuple_lt PySem.F.entry_tuple_lt (PySem.F.args_tuple_lt_2 _ _) (ac1 l b items bI n n2 dd xI sl vR ns ms hi hj)
  ⟨ho,ho2,show aA.bool (lexLt ns ms)≠aA.notImplemented/\Q (.bool<|lexLt ns ms) s from ⟨(λx=>nomatch x),h⟩⟩ hu
noncomputable def sIx(n d:Nat):Option Int->Nat
 | none=>d
 | some v=>if v<0 then(v+(n:Int)).toNat else kO v.toNat n
def sIx_none(n d:Nat):sIx n d none=d:=rfl
def sIx_nat(n d k:Nat):sIx n d (some (k:Int))=kO k n:=by show(if (k:Int)<0 then((k:Int)+(n:Int)).toNat else kO (k:Int).toNat n)=kO k n;rw[if_neg (by lia),gh]
end
end HT
namespace L2
open PySem PySem.Spec PyProof.Rows
abbrev TO:=St->Hp->(Option Int->Hp->Prop)->Prop
def PO(X:Cx)(e:Option Expr)(t:TO):Prop:=
 ∀(aE:U (aF×Obj)) (s:aC) (σ:St) (H:Hp) (Q:Option Int->Hp->Prop),Inv X aE σ H s->t σ H Q->
  aH (aI X.prog X.w) X.A (evalPart e X.env) (λu s'=>∃o H',Inv X aE σ H' s'/\IsPart u o/\Q o H') X.xe s
noncomputable def ak8:TO:=λ_ H Q=>Q none H
noncomputable def avz(t:TE):TO:=λσ H Q=>t σ H λx H1=>∃i,x=.int i/\Q (some i) H1
theorem uh{ns:U Int}:∀{us:U aA},Vals (ns.map V.int) us->bO us ns:=by
 induction ns with
 | nil=>intro us r;rw[List.map_nil]at r;cases r;exact .nil
 | cons n ns ih=>
  intro us r;rw[dh]at r;cases r with
  | cons r1 r2=>
   obtain⟨t,e⟩:=r1;subst e;exact .cons n t<|ih r2
section
variable{X:Cx}{e:Expr}{te:TE}{lo hi:Option Expr}{tl th:TO}{pos p2:dE}
def yf:PO X none ak8:=by intro aE s σ H Q I h;rw[evalPart_none];exact am ⟨none,H,I,.none,h⟩
def yh(h:PE X e te):PO X (some e) (avz te):=by intro aE s σ H Q I hw;rw[evalPart_some];refine thn (h aE s σ H _ I hw) λu s1 ⟨x,H1,I1,r1,q1⟩=>?_;obtain⟨i,rfl,q⟩:=q1;obtain⟨t,rfl⟩:=r1;exact⟨some i,H1,I1,.int i t,q⟩
def SlR(X:Cx)(r:V->Option Int->Option Int->Hp->VK->Prop):Prop:=
 ∀(aE:U (aF×Obj)) (s:aC) (σ:St) (H:Hp) (x:V) (v vl vu:aA) (lo hi:Option Int) (sl:aF) (Q:VK),Inv X aE σ H s->RelV x v->s.heap.IsSliceOf sl vl vu .none->IsPart vl lo->IsPart vu hi->r x lo hi H Q->
  ∃T id,typeLookup (.type T) "__getitem__" = bQ (some<|.builtin id)/\s.TypeIs v T/\aH (aI X.prog X.w) X.A (getItem v<|.ref sl) (EP X aE σ Q) X.xe s
def tSl(r:V->Option Int->Option Int->Hp->VK->Prop)(te:TE)(tl th:TO):TE:=λσ H Q=>te σ H λx H1=>tl σ H1 λl H2=>th σ H2 λu H3=>r x l u H3 Q
def vt{r:V->Option Int->Option Int->Hp->VK->Prop}(hr:SlR X r)(he:PE X e te)(hl:PO X lo tl)(hu:PO X hi th):PE X (.Subscript e (.Slice lo hi none p2) pos) (tSl r te tl th):=by intro aE s σ H Q I h;refine Subscript_<|thn (he aE s σ H _ I h) λv s1 ⟨x,H1,I1,r1,q1⟩=>?_;refine wpAny_Slice<|thn (hl aE s1 σ H1 _ I1 q1) λvl s2 ⟨l,H2,I2,pl,q2⟩=>thn (hu aE s2 σ H2 _ I2 q2) λvu s3 ⟨u,H3,I3,pu,q3⟩=>?_;rw[evalPart_none];refine am ?_;have I4:Inv X aE σ H3 {s3 with heap:=s3.heap.push {cls:=.type "slice",data:=.fields #[vl,vu,.none]}}:=I3.kept (t':=s3.toks) λb ob q=>ai _ q;obtain⟨T,id,hT,ht,hg⟩:=hr aE {s3 with heap:=s3.heap.push {cls:=.type "slice",data:=.fields #[vl,vu,.none]}} σ H3 x v vl vu l u s3.heap.objs.size Q I4 r1 (Heap.IsSliceOf.new ..) pl pu q3;show aH (aI X.prog X.w) X.A (subscriptTail e (.Slice lo hi none p2) v<|.ref s3.heap.objs.size) (EP X aE σ Q) X.xe {s3 with heap:=s3.heap.push {cls:=.type "slice",data:=.fields #[vl,vu,.none]}};exact tail_any (ops:=[.ref s3.heap.objs.size,v]) ht hT hg<|by with_unfolding_all rfl
noncomputable def lA(xs:U V)(lo hi:Option Int):U V:=(xs.drop<|HT.sIx xs.length 0 lo).take (HT.sIx xs.length xs.length hi-HT.sIx xs.length 0 lo)
def ae1(xs:U V)(lo hi:Option Int):(lA xs lo hi).length<=xs.length:=by unfold lA;rw[c8,ie];lia
def axz(K:au):R2:=λx y H Q=>∃a b ns ms,x=.ref a/\y=.ref b/\SqT K H a (ns.map V.int)/\SqT K H b (ms.map V.int)/\Q (.bl<|HT.lexLt ns ms) H
def at1(hu:X.A.units<aY):OpR X (aN .Lt) (axz X.K):=by intro aE s σ H x y v u Q I rx ry h;obtain⟨a,b,ns,ms,rfl,rfl,ha,hb,q⟩:=h;cases rx;cases ry;obtain⟨its,r1,p1,_⟩:=I.tuple ha;obtain⟨mO,r2,p2,_⟩:=I.tuple hb;have i1:bO its.toArray.toList ns:=uh r1;have i2:bO mO.toArray.toList ms:=uh r2;exact HT.lt_tupInts p1 p2 i1 i2 hu ⟨.bl<|HT.lexLt ns ms,H,I,rfl,q⟩
end
noncomputable def ixN(n:Nat)(i:Int):Option Nat:=if 0<=i then(if i<n then some i.toNat else none)else if -(n:Int)<=i then some (i+n).toNat else none
noncomputable def atI{α:Type}(xs:List α)(i:Int):Option α:=(ixN xs.length i).bind λj=>xs[j]?
def ai9{n:Nat}{i:Int}{j:Nat}(h:ixN n i=some j):seqIndex? i n=some j/\j<n/\-(n:Int)<=i/\i<n:=by
 unfold ixN at h;by_cases h0:0<=i
 .rw[if_pos h0]at h;by_cases h1:i<n
  .rw[if_pos h1]at h;have e:i.toNat=j:=cg h;exact⟨by rw[tP h0 h1,e],by lia,by lia,h1⟩
  .rw[if_neg h1]at h;cases h
 .rw[if_neg h0]at h;by_cases h1:-(n:Int)<=i
  .rw[if_pos h1]at h;have e:(i+n).toNat=j:=cg h;exact⟨by rw[qJ (by lia) h1,e],by lia,h1,by lia⟩
  .rw[if_neg h1]at h;cases h
theorem IS{α:Type}{xs:List α}{i:Int}{v:α}(h:atI xs i=some v):∃j,seqIndex? i xs.length=some j/\xs[j]?=some v/\j<xs.length/\-(xs.length:Int)<=i/\i<xs.length:=by
 unfold atI at h;cases e:ixN xs.length i with
 | none=>rw[e]at h;cases h
 | some j=>
  rw[e]at h;obtain⟨h1,h2,h3,h4⟩:=ai9 e;exact⟨j,h1,h,h2,h3,h4⟩
def mm{α:Type}{xs:List α}{j:Nat}{v:α}(h:xs[j]?=some v):atI xs (j:Int)=some v:=by
 have hj:j<xs.length:=(af.mp h).1;have e:ixN xs.length (j:Int)=some j:=by unfold ixN;rw[if_pos (by lia),if_pos<|by lia];simp
 unfold atI;rw[e];exact h
def aqo(b:Expr):Prop:=∀o i,subscripted b false o i=operate [o,i] (getItem o i)
def IxR(X:Cx)(r:R2):Prop:=
 ∀(value slice:Expr) (aE:U (aF×Obj)) (s:aC) (σ:St) (H:Hp) (x y:V) (v u:aA) (Q:VK),Inv X aE σ H s->RelV x v->RelV y u->r x y H Q->
  subscripted slice false v u=operate [v,u] (getItem v u)->aH (aI X.prog X.w) X.A (subscriptTail value slice v u) (EP X aE σ Q) X.xe s
def MtR(X:Cx)(id:String)(r:V->U V->Hp->VK->Prop):Prop:=
 ∀(aE:U (aF×Obj)) (s:aC) (σ:St) (H:Hp) (x:V) (xs:U V) (v:aA) (us:U aA) (Q:VK),Inv X aE σ H s->RelV x v->Vals xs us->r x xs H Q->
  aH (aI X.prog X.w) X.A (call (.builtin id) (v::us)) (EP X aE σ Q) X.xe s
section
variable{X:Cx}{a b:Expr}{ta tb:TE}{pos:dE}
def kr{r:R2}(hr:IxR X r)(ha:PE X a ta)(hb:PE X b tb)(hs:aqo b):PE X (.Subscript a b pos) (tOp r ta tb):=by intro aE s σ H Q I h;exact Subscript_<|GO ha hb I h λv u s2 x y H2 I2 rx ry q=>hr a b aE s2 σ H2 x y v u Q I2 rx ry q<|hs _ _
def aw9(K:au):R2:=λx y H Q=>∃p xs i v,x=.ref p/\y=.int i/\SqL K H p xs/\atI xs i=some v/\Q v H
def vH(K:au):R2:=λx y H Q=>∃p xs i v,x=.ref p/\y=.int i/\SqT K H p xs/\atI xs i=some v/\Q v H
def axn:R2:=λx y H Q=>∃z i c,x=.str z/\y=.int i/\z.length<=aG/\atI z.cps.toList i=some c/\Q (.str ⟨#[c]⟩) H
def m9:IxR X (aw9 X.K):=by
 intro value slice aE s σ H x y v u Q I rx ry h hs;obtain⟨p,xs,i,z,rfl,rfl,hq,he,q⟩:=h;cases rx;obtain⟨t,rfl⟩:=ry;obtain⟨its,r,pl,hz⟩:=I.list hq;obtain⟨j,h1,h2,h3,h4,h5⟩:=IS he;obtain⟨w,ew,oA⟩:=r.get h2;have hl:=r.length;have hn:=xO;have fin:EP X aE σ Q w s:=⟨z,H,I,oA,q⟩;by_cases h0:0<=i
 .have hj:i.toNat=j:=by
   rw[tP h0 h5]at h1;exact cg h1
  exact item_listR pl.isList h0 (by lia) (by rw[hj];simpa using ew) fin hs
 .have hj:(i+(its.toArray.size:Int)).toNat=j:=by
   rw[qJ (by lia) h4]at h1;rw[bf,<-hl];exact cg h1
  exact qI (x:=w) pl.isList.typeIs slot_list_getitem.lookup
   (wpAny_getItem_list_neg (Q:=λr s'=>r=w/\EP X aE σ Q r s') pl.isList (by lia) (by rw[bf]<;>lia) (by lia) (by rw[hj];simpa using ew) ⟨rfl,fin⟩) hs
def ml:IxR X (vH X.K):=by
 intro value slice aE s σ H x y v u Q I rx ry h hs;obtain⟨p,xs,i,z,rfl,rfl,hq,he,q⟩:=h;cases rx;obtain⟨t,rfl⟩:=ry;obtain⟨its,r,pl,hz⟩:=I.tuple hq;obtain⟨j,h1,h2,h3,h4,h5⟩:=IS he;obtain⟨w,ew,oA⟩:=r.get h2;have hl:=r.length;have hn:=xO;have fin:EP X aE σ Q w s:=⟨z,H,I,oA,q⟩;exact qI (x:=w) pl.typeIs slot_tuple_getitem.lookup
  (getItem_tuple (j:=j) (Q:=λr s'=>r=w/\EP X aE σ Q r s') pl (by lia) (by lia) (by rw[bf,<-hl];exact h1) (by simpa using ew) ⟨rfl,fin⟩) hs
def Ab:IxR X axn:=by
 intro value slice aE s σ H x y v u Q I rx ry h hs;obtain⟨z,i,c,rfl,rfl,hz,he,q⟩:=h;obtain⟨t,rfl⟩:=rx;obtain⟨t',rfl⟩:=ry;obtain⟨j,h1,h2,h3,h4,h5⟩:=IS he;have hl:z.cps.toList.length=z.length:=by simp[Str.length]
 rw[hl]at h1 h4 h5;have hn:=xO;exact tail_any (bV s z t) slot_str_getitem.lookup (getItem_str (c:=c) (by
  have e1:decide (i < -(2^63:Int))=false:=decide_eq_false (by lia);have e2:decide (i>=2^63)=false:=decide_eq_false (by lia);rw[e1,e2,Bool.or_false]) (by rw[h1];simpa using h2) ⟨.str ⟨#[c]⟩,H,I.tok _,⟨_,rfl⟩,q⟩) hs
def ahk(its:U aA)(n j:Nat)(u:aA):gq (·.setIfInBounds j u) {cls:=.type "list",data:=.seq its.toArray n}={cls:=.type "list",data:=.seq (its.set j u).toArray n}:=by simp[gq]
theorem Inv.lst{aE:U (aF×Obj)}{σ:St}{H:Hp}{s:aC}{p:aF}{xs:U V}(I:Inv X aE σ H s)(h:H p=some (.lst xs)) :
  ∃(its:U aA)(n:Nat),Vals xs its/\s.heap.get? p=some {cls:=.type "list",data:=.seq its.toArray n}/\xs.length<=aG:=by
 obtain⟨z,its,n,r,e⟩:=I.hok p _ h;exact⟨its,n,r,e,z⟩
def Inv.lstUpd{aE:U (aF×Obj)}{σ:St}{H:Hp}{s:aC}{p:aF}{xs ys:U V}{its its':U aA}{n n':Nat}{f:Obj->Obj}(I:Inv X aE σ H s)(h:H p=some (.lst xs))
  (ho:s.heap.get? p=some {cls:=.type "list",data:=.seq its.toArray n}) (hf:f {cls:=.type "list",data:=.seq its.toArray n}={cls:=.type "list",data:=.seq its'.toArray n'}) (r:Vals ys its') (hz:ys.length<=aG) (t:Nat) :
  Inv X aE σ (upd H p<|.lst ys) {s with heap:=s.heap.update p f,toks:=t}:=by
 have e:(s.heap.update p f).get? p=some {cls:=.type "list",data:=.seq its'.toArray n'}:=by rw[cu f ho (by rw[hf]<;>rfl),hf]
 refine I.write (x:=p) (e:=p) (by rw[h];trivial) (.inl rfl) (λb u hb q=>(cm _ _<|Ne.symm hb).trans q) ⟨_,e⟩ ?_;exact⟨hz,its',n',r,e⟩
def avp:V->V->V->Hp->(Hp->Prop)->Prop:=λo i v H Q=>∃p xs k j,o=.ref p/\i=.int k/\H p=some (.lst xs)/\ixN xs.length k=some j/\Q (upd H p<|.lst<|xs.set j v)
def ans:axb X avp:=by
 intro aE s σ H o i v ov iv u Q I ro ri rv h;obtain⟨p,xs,k,j,rfl,rfl,hp,hj,q⟩:=h;cases ro;obtain⟨t,rfl⟩:=ri;obtain⟨its,n,r,ho,hz⟩:=I.lst hp;obtain⟨h1,h2,h3,h4⟩:=ai9 hj;have hl:=r.length;have hn:=xO;have I':Inv X aE σ (upd H p<|.lst<|xs.set j v) {s with heap:=s.heap.update p<|gq (·.setIfInBounds j u)}:=
  I.lstUpd hp ho (ahk its n j u) (r.set rv j) (by rw[List.length_set];exact hz) s.toks
 by_cases h0:0<=k
 .have hk:k.toNat=j:=by
   rw[tP h0 h4]at h1;exact cg h1
  exact PySem.W.ki_setAt ho h0 (by lia) (by rw[bf,<-hl];exact h4)<|by rw[hk];exact⟨_,I',q⟩
 .have hk:(k+(its.toArray.size:Int)).toNat=j:=by
   rw[qJ (by lia) h3]at h1;rw[bf,<-hl];exact cg h1
  exact PySem.W.ki_setBack ho (by lia) (by rw[bf,<-hl];exact h3) (by lia)<|by rw[hk];exact⟨_,I',q⟩
theorem ad3(lo hi:Option Int)(n:Nat):(cY lo hi none n).1=((HT.sIx n 0 lo:Nat):Int)/\(cY lo hi none n).2.1=((HT.sIx n n hi:Nat):Int)/\(cY lo hi none n).2.2=1:=by
 refine⟨?_,?_,rfl⟩
 .cases lo with
  | none=>simp[cY,HT.sIx]
  | some i=>
   simp only[cY,HT.sIx,Option.getD_none,show(1:Int)>0 by decide,if_true];by_cases h:i<0
   .simp only[h,if_true]<;>lia
   .simp only[h,if_false]<;>lia
 .cases hi with
  | none=>simp[cY,HT.sIx]
  | some i=>
   simp only[cY,HT.sIx,Option.getD_none,show(1:Int)>0 by decide,if_true];by_cases h:i<0
   .simp only[h,if_true]<;>lia
   .simp only[h,if_false]<;>lia
def ack(its:U aA)(lo hi:Option Int):slicePick its.toArray lo hi none=((its.drop<|HT.sIx its.length 0 lo).take (HT.sIx its.length its.length hi-HT.sIx its.length 0 lo)).toArray:=by obtain⟨h1,h2,h3⟩:=ad3 lo hi its.toArray.size;unfold slicePick;rw[h1,h2,h3];simp only[sliceRange_one,pick_run,bf]<;>rfl
def aw6(K:au):V->Option Int->Option Int->Hp->VK->Prop:=λx lo hi H Q=>∃a xs,x=.ref a/\SqL K H a xs/\∀p,H p=none->Q (.ref p) (upd H p<|.lst<|lA xs lo hi)
def Cq:SlR X (aw6 X.K):=by intro aE s σ H x v vl vu lo hi sl Q I rx hs pl pu h;obtain⟨a,xs,rfl,hx,q⟩:=h;cases rx;obtain⟨its,r,ht,hz⟩:=I.list hx;have aR:=r.length;refine⟨"list",_,slot_list_getitem.lookup,ht.isList.typeIs,?_⟩;refine wpAny_getItem_list_slice ht.isList hs pl pu .none (by simp) ?_ (by rw[bf]<;>lia);rw[ack,<-aR];refine⟨.ref s.heap.objs.size,_,I.laid (t':=s.toks) (o:=.lst<|lA xs lo hi) (λb ob q=>ai _ q) (aq _) ?_,rfl,q _<|I.hok.fresh<|aq _⟩;exact⟨fg (ae1 xs lo hi) hz,_,0,(r.drop<|HT.sIx xs.length 0 lo).take (HT.sIx xs.length xs.length hi-HT.sIx xs.length 0 lo),a0 _ rfl⟩
def ad2:OpR X (aN .NotIn) (λx y H Q=>∃i j,x=.str i/\y=.str j/\Q (.bl<|!(!(gl j i 0 j.length 1).isEmpty)) H):=by intro aE s σ H x y v u Q I rx ry h;obtain⟨i,j,rfl,rfl,q⟩:=h;obtain⟨t,rfl⟩:=rx;obtain⟨t',rfl⟩:=ry;exact notIn_str ⟨.bl _,H,I,rfl,q⟩
def kj:qp X (.builtin "len") (λxs H Q=>∃p ys,xs=[.ref p]/\(SqL X.K H p ys\/SqT X.K H p ys)/\Q (.int ys.length) H):=by
 intro aE s σ H xs us Q I r h;obtain⟨p,ys,rfl,hq,q⟩:=h;obtain⟨u,rfl,rx⟩:=qv r;cases rx;have hn:=xO;rcases hq with hq|hq
 .obtain⟨its,r',pl,hz⟩:=I.list hq;have aR:=r'.length;exact Calls.call_len_list pl.isList (by simp only[bf]<;>lia) ⟨.int ys.length,H,I.tok _,⟨s.toks+1,by rw[bf,aR]⟩,q⟩
 .obtain⟨its,r',pl,hz⟩:=I.tuple hq;have aR:=r'.length;exact len_tuple pl (by simp only[bf]<;>lia) ⟨.int ys.length,H,I.tok _,⟨s.toks+1,by rw[bf,aR]⟩,q⟩
def lm:qp X (.builtin "len") (λxs H Q=>∃z,xs=[.str z]/\z.length<=aG/\Q (.int z.length) H):=by intro aE s σ H xs us Q I r h;obtain⟨z,rfl,hz,q⟩:=h;obtain⟨u,rfl,t,rfl⟩:=qv r;have hn:=xO;exact len_str (by lia) ⟨.int z.length,H,I.tok _,⟨_,rfl⟩,q⟩
def aek:qp X (.type "list") (λxs H Q=>∃p ys,xs=[.ref p]/\(SqL X.K H p ys\/SqT X.K H p ys)/\∀l,H l=none->Q (.ref l) (upd H l<|.lst ys)):=by
 intro aE s σ H xs us Q I r h;obtain⟨p,ys,rfl,hq,q⟩:=h;obtain⟨u,rfl,rx⟩:=qv r;cases rx;have fin:∀(its:U aA),Vals ys its->ys.length<=aG->∀(h':Heap)(c':Nat),(∀b o',s.heap.get? b=some o'->h'.get? b=some o')->
   h'.get? s.heap.objs.size=some {cls:=.type "list",dict:=none,data:=.seq its.toArray c',slots:=#[]}->EP X aE σ Q (.ref s.heap.objs.size) {s with heap:=h'}:=λits r' hz h' c' kp e=>
  ⟨.ref s.heap.objs.size,_,I.laid (t':=s.toks) kp (aq _) (show ObjOk X.prog X.w _ h' _ (.lst ys)from ⟨hz,its,c',r',e⟩),rfl,q _<|I.hok.fresh<|aq _⟩
 rcases hq with hq|hq
 .obtain⟨its,r',pl,hz⟩:=I.list hq;have aR:=r'.length;obtain⟨o,ho,hc,n,hd⟩:=pl.isList;exact call_list_seq p (.inl rfl) ho hc hd (λh' c' kp e=>fin its r' hz h' c' kp e)<|by simp only[bf]<;>lia
 .obtain⟨its,r',pl,hz⟩:=I.tuple hq;have aR:=r'.length;obtain⟨o,ho,hc,n,hd⟩:=pl;exact call_list_seq p (.inr rfl) ho hc hd (λh' c' kp e=>fin its r' hz h' c' kp e)<|by simp only[bf]<;>lia
def nq:qp X (.type "tuple") (λxs H Q=>∃p ys,xs=[.ref p]/\((SqL X.K H p ys/\∀l,H l=none->Q (.ref l) (upd H l<|.tup ys))\/(SqT X.K H p ys/\Q (.ref p) H))):=by
 intro aE s σ H xs us Q I r h;obtain⟨p,ys,rfl,h⟩:=h;obtain⟨u,rfl,rx⟩:=qv r;cases rx;rcases h with ⟨hq,q⟩|⟨hq,q⟩
 .obtain⟨its,r',pl,hz⟩:=I.list hq;have aR:=r'.length;refine call_tuple_list pl.isList (λh' kp=>?_) (by simp only[bf]<;>lia);have I1:Inv X aE σ H {s with heap:=h'}:=I.kept (t':=s.toks) kp;have I2:Inv X aE σ (upd H h'.objs.size<|.tup ys) {s with heap:=h'.push {cls:=.type "tuple",data:=.seq its.toArray}}:=
   I1.laid (t':=s.toks) (λb o e=>ai _ e) (aq _) (show ObjOk X.prog X.w _ _ _ (.tup ys)from ⟨hz,its,r',IsTup.new _ _⟩)
  exact⟨.ref h'.objs.size,_,I2,rfl,q _<|I1.hok.fresh<|aq _⟩
 .obtain⟨its,r',pl,hz⟩:=I.tuple hq;exact call_tuple_same pl ⟨.ref p,H,I,rfl,q⟩
def tyV(K:au)(T:String)(x:V)(H:Hp):Prop:=match x with
 | .str _=>T="str"
 | .int _=>T="int"
 | .ref p=>(T="list"/\∃xs,SqL K H p xs)\/(T="tuple"/\∃o,K.lookup p=some o/\o.cls=.type "tuple"/\o.dict=none)\/
   (T="dict"/\((∃aP,H p=some (.dK aP))\/∃aP,H p=some (.dT aP)))\/(T="set"/\∃S n,H p=some (.set S n))
 | _=>False
theorem as0{aE:U (aF×Obj)}{σ:St}{H:Hp}{s:aC}{T:String}{x:V}{v:aA}(I:Inv X aE σ H s)(r:RelV x v)(ty:tyV X.K T x H) :
  s.TypeIs v T/\∀a,v=.ref a->∃ob,s.heap.get? a=some ob/\ob.dict=none:=by
 cases x with
 | str z=>
  obtain⟨t,rfl⟩:=r;cases (show T="str" from ty);exact⟨bV s z t,λ_ e=>nomatch e⟩
 | int i=>
  obtain⟨t,rfl⟩:=r;cases (show T="int" from ty);exact⟨typeIs_int s i t,λ_ e=>nomatch e⟩
 | ref p=>
  cases r;rcases ty with ⟨rfl,xs,hq⟩|⟨rfl,o,hk,hc,hd⟩|⟨rfl,hk⟩|⟨rfl,S,n,hk⟩
  .obtain⟨its,_,pl,_⟩:=I.list hq;refine⟨pl.isList.typeIs,λa e=>?_⟩;cases e;obtain⟨o,n,e,c,hd,_⟩:=pl;exact⟨o,e,hd⟩
  .refine⟨⟨o,I.kIn p o hk,hc⟩,λa e=>?_⟩;cases e;exact⟨o,I.kIn _ o hk,hd⟩
  .have z:∃o,s.heap.get? p=some o/\o.ExactDict:=by
    rcases hk with ⟨aP,hk⟩|⟨aP,hk⟩
    .obtain⟨_,_,_,_,o,_,_,e,ex,_⟩:=I.hok p _ hk;exact⟨o,e,ex⟩
    .obtain⟨_,_,_,_,o,_,_,e,ex,_⟩:=I.hok p _ hk;exact⟨o,e,ex⟩
   obtain⟨o,e,ex⟩:=z;refine⟨⟨o,e,ex.1⟩,λa e2=>?_⟩;cases e2;exact⟨o,e,ex.2.1⟩
  .obtain⟨o,_,_,_,e,ex,_⟩:=I.hok p _ hk;refine⟨⟨o,e,ex.1⟩,λa e2=>?_⟩;cases e2;exact⟨o,e,ex.2.1⟩
 | _=>exact False.elim ty
def tBM(K:au)(T:String)(r:V->U V->Hp->VK->Prop)(to:TE)(t:TA):TE:=λσ H Q=>to σ H λx H1=>tyV K T x H1/\t σ H1 λxs H2=>r x xs H2 Q
variable{o e:Expr}{es:U Expr}{to:TE}{t:TA}{name:Str}{gB dC:dE}{T id:String}{r:V->U V->Hp->VK->Prop}
def sw(pa:PlainAttrs T)(slot:Slot T name id)(Fc:typeOf (.builtin id)=bQ (.type "method_descriptor"))(hm:MtR X id r)(ho:PE X o to)(ha:PA X (e::es) t)
  (pO:nV o name X.env (bR o X.env)=bR o X.env:=by rfl)
  (wT:((bM dC<|aM (e::es) X.env).all (λx=>!x.1)&&(mH dC<|fK [] X.env).all (λx=>x.1.isSome)
   && decide ((e::es).length+([]:U gD).length+(if ([]:U gD).isEmpty then 0 else 1)<30))=true:=by rfl)
  (dO:(gB.endLine==dC.line)=true:=by rfl) (hs:aM (e::es) X.env=(false,bR e X.env)::aM es X.env:=by rfl) (kT:(bM dC<|aM es X.env).any (·.1)=false:=by rfl) :
  PE X (.Call (.Attribute o name gB) (e::es) [] dC) (tBM X.K T r to t):=by
 intro aE s σ H Q I h;refine wpAny_Call_method_late pO wT dO rfl<|thn (ho aE s σ H _ I h) λv s1 ⟨x,H1,I1,r1,ty,q1⟩=>?_;obtain⟨h1,h2⟩:=as0 I1 r1 ty;refine⟨T,id,pa,slot,Fc,h1,h2,?_⟩;have hA:=ha dC aE s1 σ H1 _ I1 q1;rw[hs]at hA⊢;refine Calls.callWith_builtin (by show(false||(bM dC<|aM es X.env).any (·.1))=false;rw[kT]<;>rfl)<|Calls.evalArgs_plain ?_;exact thn hA λus s2 ⟨vs,H2,I2,r2,q2⟩=>hm aE s2 σ H2 x vs v us Q I2 r1 r2 q2
end
def MtM(X:Cx)(id:String)(r:V->U V->Hp->VK->Prop):Prop:=
 ∀(aE:U (aF×Obj)) (s:aC) (σ:St) (H:Hp) (x:V) (xs:U V) (v:aA) (us:U aA) (Q:VK),Inv X aE σ H s->RelV x v->Vals xs us->r x xs H Q->
  aH (aI X.prog X.w) X.A (call (.builtin id) (v::us)) (EP X aE σ Q) X.xe s
theorem Vals.one:∀{x:V} {us:U aA},Vals [x] us->∃u,us=[u]/\RelV x u
 | _,_,.cons r .nil=>⟨_,rfl,r⟩
section
variable{X:Cx}{aE:U (aF×Obj)}{σ:St}{H:Hp}{s:aC}{l b:aF}{xs ys zs:U V}
def Inv.lset{its its':U aA}{n:Nat}{f:Array aA->Array aA}{t':Nat}(I:Inv X aE σ H s)(hH:H l=some (.lst xs))
  (e:s.heap.get? l=some {cls:=.type "list",data:=.seq its.toArray n}) (hf:f its.toArray=its'.toArray) (hv:Vals ys its') (hz:ys.length<=aG) :
  Inv X aE σ (upd H l<|.lst ys) {s with heap:=s.heap.update l<|gq f,toks:=t'}:=by
 have q:=PySem.IsL.update e f;rw[hf]at q;refine I.write (x:=l) (e:=l) (by rw[hH];exact trivial) (.inl rfl) (λb' u hb hu=>(cm s.heap (gq f)<|Ne.symm hb).trans hu) ⟨_,q⟩ ?_;exact⟨hz,its',_,hv,q⟩
def Inv.lnew{its:U aA}{t':Nat}(I:Inv X aE σ H s)(hv:Vals ys its)(hz:ys.length<=aG) :
  Inv X aE σ (upd H s.heap.objs.size<|.lst ys) {s with heap:=s.heap.push {cls:=.type "list",data:=.seq its.toArray},toks:=t'}:=
 I.laid (λ_ _ q=>ai _ q) (aq _) ⟨hz,its,0,hv,a0 _ rfl⟩
theorem Inv.fresh(I:Inv X aE σ H s):H s.heap.objs.size=none:=I.hok.fresh<|aq _
def Inv.lstM(I:Inv X aE σ H s)(hH:H l=some (.lst xs)):xs.length<=aG/\∃(its:U aA)(n:Nat),Vals xs its/\xs.length=its.length/\s.heap.get? l=some {cls:=.type "list",data:=.seq its.toArray n}:=by obtain⟨z,its,n,r,e⟩:=I.hok l _ hH;exact⟨z,its,n,r,r.length,e⟩
end
section
variable{X:Cx}
def aqn:V->U V->Hp->VK->Prop:=λx vs H Q=>∃l xs y,x=.ref l/\vs=[y]/\H l=some (.lst xs)/\xs.length<aG/\Q .non (upd H l<|.lst<|xs++[y])
def pk:MtM X "list.append" aqn:=by intro aE s σ H x vs v us Q I rx rv h;obtain⟨l,xs,y,rfl,rfl,hH,hz,q⟩:=h;cases rx;obtain⟨u,rfl,ru⟩:=rv.one;obtain⟨z,its,n,r,hl,e⟩:=I.lstM hH;refine eM F.slot_list_append ⟨_,e,rfl⟩ F.entry_list_append (F.args_list_append_2 _ _) (PySem.list_append l its.toArray n u<|by rw[bf];lia) ⟨e,?_⟩;refine⟨.non,_,I.lset (its':=its++[u]) hH e (by simp) (r.append<|.cons ru .nil) ?_,rfl,q⟩;rw[be,cv];lia
def ax5:R2:=λx y H Q=>∃l b xs zs,x=.ref l/\y=.ref b/\H l=some (.lst xs)/\H b=some (.lst zs)/\xs.length+zs.length<=aG/\∀p,H p=none->Q (.ref p) (upd H p<|.lst<|xs++zs)
def Cg:OpR X (dB .Add) ax5:=by
 intro aE s σ H x y v u Q I rx ry h;obtain⟨l,b,xs,zs,rfl,rfl,hH,hB,hz,q⟩:=h;cases rx;cases ry;obtain⟨z,its,n,r,hl,e⟩:=I.lstM hH;obtain⟨z2,mO,n2,r2,gL,e2⟩:=I.lstM hB;refine PySem.P.add_list e e2 ?_ (by rw[bf,bf];lia);have ea:its.toArray++mO.toArray=(its++mO).toArray:=by simp
 rw[ea];exact⟨.ref _,_,I.lnew (t':=s.toks) (r.append r2)<|by rw[be];lia,rfl,q _ I.fresh⟩
end
end L2
namespace Att
open PySem PySem.W PySem.Calls PyProof.Rows
theorem aax{P:Params}{h:Heap}:∀(ns:U Int)(vs:U aA),WellAll P h vs (ns.map WData.int)->bO vs ns:=by
 intro ns;induction ns with
 | nil=>
  intro vs w;rw[List.map_nil]at w;cases w;exact .nil
 | cons n ns ih=>
  intro vs w;rw[dh]at w;cases w with
  | cons a b=>
   cases a;exact .cons _ _<|ih _ b
theorem alo{l:OpenLaw}{n:Nat}(hn:l.most=some n){P:Params}{h:Heap}{args:U WData}{vO:U aA}
  (sQ:l.row.toRowW.claim.pre args=true) (uF:WellAll P h vO args) :
  ∃a vs ns,vO=[aA.ref a]/\args=[WData.list (ns.map WData.int)]/\h.get? a=some {cls:=.type "list",data:=.seq vs.toArray}/\bO vs ns/\ns.length<=n:=by
 have hsh:WShape.hasAll [] args [.list .int]=true:=(pre_splitW sQ).1;have hc:l.pre.holds [] {args:=args}=true:=(pre_splitW sQ).2;obtain⟨d,r,rfl,h1,h2⟩:=hasAllW_cons hsh;obtain rfl:=hasAllW_nil h2;obtain⟨xs,rfl,h3⟩:=hasW_list h1;obtain⟨ns,rfl⟩:=items_int h3;have aR:ns.length<=n:=by
  unfold OpenLaw.pre at hc;have h4:(WTm.not<|.lt (.lit<|.int (n:Int))<|.len<|.arg 0).holds [] {args:=[.list (ns.map .int)]}=true:=by have h4:=(holds_andW hc).1;rw[hn]at h4;exact h4
  have h5:=condW_of h4<|w_not<|w_lt w_lit<|w_len_list<|w_arg rfl;rw[ac]at h5;refine Nat.le_of_not_lt λq=>?_;have q':(n:Int)<((ns.length:Nat):Int):=by lia
  first
   | (rw[decide_eq_true q']at h5;exact absurd h5<|by decide)
   | (simp at h5;lia)
 cases uF with
 | cons w1 w2=>
  cases w2;cases w1 with
  | list ho aU=>exact⟨_,_,ns,rfl,rfl,ho,aax ns _ aU,aR⟩
def akb(l:OpenLaw)(args:U WData):l.row.toRowW.claim.post args (.bool true) args=true:=
 postW_of (r:=l.row.toRowW) (X:=(true==true))
  (show WShape.has [] (.bool true) .bool=true by first|rfl|decide|simp[WShape.has,WShape.arms,WShape.armsAll])
  (show(WTm.eq .res<|.lit<|.bool true).value [] {args:=args,res:=some<|.bool true,after:=args}=some (.bool<|true==true)from w_eq_bool (w_res rfl) w_lit) rfl
def attach_call{l:OpenLaw}{n:Nat}{q:aJ}{loose:U Str}{XP:(Str->Option aA)->Heap->Prop}{YP:aL->Heap->Prop}{d:DefRec}
  (hn:l.most=some n) (Bz:d.params.defaults=[])
  (call:∀(w:aL)(s₀ s₁:aC)(mg mb:Str->Option aA)(fa:aF)(o:Obj)(pm cd hU:aA)(a:aF)(vs:U aA)(ns:U Int),
   Ground q loose [] XP w s₀ mg mb s₁.heap->YP w s₁.heap->
   s₁.heap.get? fa=some o->o.data=.func (docDef d.name d.params d.body d.scope pm cd hU)->s₁.heap.CodeRec cd d.name->mg d.name=some (.ref fa)->
   s₁.heap.get? a=some {cls:=.type "list",data:=.seq vs.toArray}->bO vs ns->ns.length<=n->s₁.gens=#[]->
   cI (aI l.prog w) iQ (.call (.ref fa) ⟨[.ref a],[]⟩) (λr s'=>r=.ok (.ret<|.bool true)/\OldK s₁.heap s'.heap/\s'.os=s₁.os/\eP s'.gens) s₁) :
  WalkO q loose XP YP l.row.toRowW d [] (λf vs=>PySem.call f vs):=by
 intro w s₀ s₁ mg mb G Y fa o pm cd hU dV kV ho hd nQ hD Bk hg args vO as sQ oZ Ft uF hlo;obtain rfl:dV=.none:=Dflts.none hD Bz;obtain rfl:kV=.none:=Dflts.noKw hD;obtain⟨a,vs,ns,rfl,rfl,mR,pH,aR⟩:=alo hn sQ uF;refine enter_call<|js (call w s₀ s₁ mg mb fa o pm cd hU a vs ns G Y ho (fd_plain hd) nQ Bk mR pH aR hg) λr s' hq=>?_;obtain⟨rfl,h2,h3,h4⟩:=hq;exact⟨.inl ⟨.bool true,.bool true,[],rfl,λ_=>rfl,.bool true,akb l _,λ_=>⟨List.Pairwise.nil,λ_ hm=>(nomatch hm)⟩⟩,h2,h3,h4⟩
end Att
namespace L2
open PySem PySem.Spec PyProof.Rows
theorem adf:∀{vs:U aA} {ns:U Int},bO vs ns->Vals (ns.map V.int) vs
 | _,_,.nil=>.nil
 | _,_,.cons n t h=>.cons ⟨t,rfl⟩<|adf h
def GR(H:Hp):Prop:=∀b,H b=none\/∃o xs,H b=some (.frz o<|.lst xs)
theorem ana{P:aJ}{w:aL}{K:au}{mg mb:Str->Option aA}{CX:CXT}{k:Nat}{fa a:aF}{fd:bX}{x:Str}{sp:Sp}{s₁:aC}{vs:U aA}{ns:U Int}
  (KX:K.In s₁.heap) (iF:s₁.heap.Ns aK mg) (hb:s₁.heap.Ns zM mb) (hbb:∀x:Str,x≠"__name__"->mb x=cA x) (FS:s₁.heap.NoLimit) (hg:s₁.gens=#[])
  (ha:s₁.heap.get? a=some {cls:=.type "list",data:=.seq vs.toArray}) (hi:bO vs ns) (hl:ns.length<=aG) (hr:Room k iQ)
  (F:∀base:Heap,K.In base->base.Ns aK mg->p9 P w K mg base CX k fa fd [x] sp) (BD:∀(s:aC)(u:aA),lF s fd ⟨[u],[]⟩ [(x,u)])
  (fG:∀H:Hp,GR H->SqL K H a (ns.map V.int)->sp [.ref a] H (λv _=>v=.bl true) λ_ _ _=>False)
  (Gh:∀H e s',CX [] H s₁ (λ_ _ _=>False) e s'->False) :
  cI (aI P w) iQ (.call (.ref fa) ⟨[.ref a],[]⟩) (λr s'=>r=.ok (.ret<|.bool true)/\OldK s₁.heap s'.heap/\s'.os=s₁.os/\eP s'.gens) s₁:=by
 have rv:=adf hi;have EX:=hi.length;have BX:∀H:Hp,GR H->SqL K H a (ns.map V.int)->HOk P w H s₁.heap->(∀b,H b≠none->b=a)->(H a≠none->K.lookup a=none)->
   cI (aI P w) iQ (.call (.ref fa) ⟨[.ref a],[]⟩) (λr s'=>r=.ok (.ret<|.bool true)/\OldK s₁.heap s'.heap/\s'.os=s₁.os/\eP s'.gens) s₁:=by
  intro H hO hS hok hA hK;have mG:∀{b:aF} {o:Obj},s₁.heap.get? b=some o->H b=none->(tD s₁.heap H).get? b=some o:=λe n=>amz e n;have AE:∀{b:aF} {o:Obj} {es:Array jM} {ep:Nat},s₁.heap.get? b=some o->o.data=.dict es ep->H b=none:=λ{b o es ep} e d=>by
   cases q:H b with
   | none=>rfl
   | some u=>
    have e':b=a:=hA b (by rw[q];simp);subst e';rw[ha]at e;cases e;have d':Data.seq vs.toArray _=Data.dict es ep:=d;cases d'
  have C3:∀{b:aF} {m:Str->Option aA},s₁.heap.Ns b m->(tD s₁.heap H).Ns b m:=λ{b m} ⟨o,es,ep,e,d,r⟩=>⟨o,es,ep,mG e<|AE e d,d,r⟩;have hKb:K.In (tD s₁.heap H):=λb o e=>mG (KX b o e) (by
   cases q:H b with
   | none=>rfl
   | some u=>
    have e':b=a:=hA b (by rw[q];simp);subst e';rw[hK (by rw[q];simp)]at e;cases e)
  have hM:Mod K mg (tD s₁.heap H):=⟨hKb,C3 iF,⟨mb,C3 hb,hbb⟩,let ⟨mc,h1,h2⟩:=FS;⟨mc,C3 h1,h2⟩⟩;have e0:DM P w K mg (tD s₁.heap H) iQ [] s₁ H:=⟨rfl,hM,λb o e=>arr e,Nat.le_of_eq<|aic _ _,trivial,λb hb=>absurd (show b∈([]:U aF)from hb)<|by simp,hok,.of_eq hg⟩;refine js ((F _ hKb<|C3 iF).run iQ [] s₁ H ⟨[.ref a],[]⟩ [.ref a] [.ref a] _ _ hr e0 (BD s₁<|.ref a) (.cons rfl .nil) (fG H hO hS)) λr s' h=>?_;cases r with
  | error e=>exact(Gh H e s' h).elim
  | ok fl=>
   cases fl with
   | next=>exact False.elim h
   | brk=>exact False.elim h
   | cont=>exact False.elim h
   | ret u=>
    obtain⟨v,H',os,bare,un,FA,r',q⟩:=h;have q':v=.bl true:=q;subst q';obtain rfl:u=aA.bool true:=r';refine⟨rfl,OldK.of_keep λb o e=>?_,os,bare⟩;cases q:H b with
    | none=>exact un.keep b o e q (by intro z;exact absurd (show b∈([]:U aF)from z)<|by simp) (by simp)
    | some u=>
     rcases hO b with z|⟨ob,xs,z⟩
     .rw[q]at z;cases z
     .have z2:=un.frzs b ob _ z;obtain⟨e1,_⟩:=hok b _ z;obtain⟨e2,_⟩:=FA b _ z2;rw[e]at e1;cases e1;exact e2
 cases hk:K.lookup a with
 | some o=>
  have e:=KX a o hk;rw[ha]at e;cases e;refine BX (λ_=>none) (λ_=>.inl rfl) (.inr ⟨_,vs.toArray,_,hk,rfl,rfl,rfl,by rw[bf,EX];exact hl,by simpa using rv⟩) (λb u z=>by have z':(none:Option HO)=some u:=z;cases z') (λb z=>absurd rfl z) λz=>absurd rfl z
 | none=>
  refine BX (λb=>if b=a then some (.frz {cls:=.type "list",data:=.seq vs.toArray}<|.lst<|ns.map V.int)else none) (λb=>?_) (.inl<|.inr ⟨{cls:=.type "list",data:=.seq vs.toArray},if_pos rfl⟩) (λb u z=>?_) (λb z=>?_) λ_=>hk
  .by_cases hb:b=a
   .exact .inr ⟨_,_,if_pos hb⟩
   .exact .inl<|if_neg hb
  .by_cases hb:b=a
   .have z':=(if_pos hb).symm.trans z;cases z';subst hb;exact⟨ha,by rw[ac];exact hl,vs,_,rv,ha⟩
   .have z':=(if_neg hb).symm.trans z;cases z'
  .by_cases hb:b=a
   .exact hb
   .exact absurd (if_neg hb) z
def walk_of{l:PySem.W.OpenLaw}{n k:Nat}{q:aJ}{loose:U Str}{XP:(Str->Option aA)->Heap->Prop}{YP:aL->Heap->Prop}{d:DefRec}{K:Params->au}{CX:aL->CXT}{sp:aL->Sp}{x:Str}
  (hn:l.most=some n) (jZ:n<=aG) (Bz:d.params.defaults=[]) (hr:Room k iQ)
  (hY:∀(w:aL)(h:Heap),YP w h->(K w.params).In h)
  (F:∀(w:aL)(mg:Str->Option aA)(fa:aF)(h:Heap),(K w.params).In h->h.Ns aK mg->mg d.name=some (.ref fa)->
   ∃fd:bX,(∀(s:aC)(u:aA),lF s fd ⟨[u],[]⟩ [(x,u)])/\
    ∀base:Heap,(K w.params).In base->base.Ns aK mg->p9 l.prog w (K w.params) mg base (CX w) k fa fd [x] (sp w))
  (fG:∀(w:aL)(H:Hp)(a:aF)(ns:U Int),ns.length<=n->GR H->SqL (K w.params) H a (ns.map V.int)->sp w [.ref a] H (λv _=>v=.bl true) λ_ _ _=>False)
  (Gh:∀(w:aL)(H:Hp)(s:aC)(e:aA)(s':aC),CX w [] H s (λ_ _ _=>False) e s'->False) :
  PySem.W.WalkO q loose XP YP l.row.toRowW d [] (λf vs=>PySem.call f vs):=by
 refine Att.attach_call hn Bz λw s₀ s₁ mg mb fa o pm cd hU a vs ns G Y ho hd nQ Bk mR pH aR hg=>?_;have KX:=hY w _ Y;obtain⟨fd,hb,hF⟩:=F w mg fa _ KX G.T.g Bk;exact ana KX G.T.g G.T.b G.T.builtins G.T.nolimit hg mR pH (fg aR jZ) hr hF hb (λH hO hS=>fG w H a ns aR hO hS) λH e s'=>Gh w H s₁ e s'
noncomputable def wk(s:aS):Arguments:=match s with
 | .FunctionDef _ a _ _ _ _ _ _ _ _=>a
 | _=>{posonlyargs:=[],args:=[],vararg:=none,kwonlyargs:=[],kw_defaults:=[],kwarg:=none,defaults:=[]}
noncomputable def vg(s:aS):U aS:=match s with
 | .FunctionDef _ _ b _ _ _ _ _ _ _=>b
 | _=>[]
noncomputable def kb(s:aS):cF:=match s with
 | .FunctionDef _ _ _ _ _ _ sc _ _ _=>sc
 | _=>{kind:=.function,names:=[],isGenerator:=false,isCoroutine:=false}
noncomputable abbrev CX0:CXT:=λ_ _ _ _ _ _=>False
noncomputable abbrev E0:XK:=λ_ _ _=>False
def awg{X:Cx}:Ie CX0 X E0:=λ_ _ _ _ _ _ _ h=>h.elim
structure Fun(K:au)(x qual:Str)(st:aS)(f:aF)(fd:bX):Prop where
 ex:∃(oc:aA)(od:Option aF)(kV hU pm:aA)(an:Option aF)(bE ct:aA) (sI:Array (Option aA)),
  fd=jt x qual (wk st) (vg st) (kb st) .none kV hU pm an bE ct/\K.lookup f=some ⟨oc,od,.func fd,sI⟩/\PySem.W.codeIn K bE qual=true
 kp:PySem.W.keepIn K (.ref f)=true
section
variable{P:aJ}{w:aL}{K:au}{mg:Str->Option aA}{base:Heap}
def Fun.ok{x qual:Str}{st:aS}{f:aF}{fd:bX}{N ps:U Str}{k:Nat}{sp:Sp}(F:Fun K x qual st f fd)(S:km N ps (kb st))(len:∀vs H Q E,sp vs H Q E->vs.length=ps.length)
  (pN:∀(bE:aA)(A:Around)(outer:U qE)(s:aC)(H:Hp)(vs:U V)(Q:VK)(E:XK),Room k (A.deeper<|hJ qual (kb st) s.heap.objs.size f bE)->sp vs H Q E->
   ∃t,PSs (zR CX0 P w K mg base N qual (kb st) f bE A outer s H E).nox (vg st) t/\t {nx:=λ_ H'=>Q .non H',rt:=Q} (vK N vs) H):p9 P w K mg base CX0 (k+1) f fd ps sp:=by
 obtain⟨oc,od,kV,hU,pm,an,bE,ct,sI,rfl,lk,nQ⟩:=F.ex;refine avf lk nQ S len λA outer s H vs Q E hr fG=>?_;obtain⟨t,h,q⟩:=pN bE A outer s H vs Q E hr fG;exact⟨t,h.nox,q⟩
def Fun.binds{x qual:Str}{st:aS}{f:aF}{fd:bX}{ps:U Str}(F:Fun K x qual st f fd)
  (h:∀(kV hU pm:aA)(an:Option aF)(bE ct:aA)(us:U aA),us.length=ps.length->bindArgs (jt x qual (wk st) (vg st) (kb st) .none kV hU pm an bE ct) ⟨us,[]⟩=bQ (ps.zip us)):Binds K fd ps []:=by
 obtain⟨oc,od,kV,hU,pm,an,bE,ct,sI,rfl,lk,nQ⟩:=F.ex;exact .all<|h kV hU pm an bE ct
def auf{x qual:Str}{st:aS}{f:aF}{oc:aA}{od an:Option aF}{sI:Array (Option aA)}{kV hU pm bE ct:aA}(l:K.lookup f=some ⟨oc,od,.func<|jt x qual (wk st) (vg st) (kb st) .none kV hU pm an bE ct,sI⟩)
  (c:PySem.W.codeIn K bE qual=true) (k:PySem.W.keepIn K (.ref f)=true):Fun K x qual st f (jt x qual (wk st) (vg st) (kb st) .none kV hU pm an bE ct):=⟨⟨oc,od,kV,hU,pm,an,bE,ct,sI,rfl,l,c⟩,k⟩
end
def lc{n:Nat}(h:n<=1000):n<aG:=Nat.lt_of_le_of_lt h<|by decide
section
variable{X:Cx}
def pv(i:Nat){x:Str}{pos:dE}(hN:X.N[i]?=some x:=by rfl)(hv:Vis X.env.scope x:=by first|exact Or.inl rfl|exact Or.inr (Or.inl rfl)|exact Or.inr<|Or.inr rfl)(hd:(x==("__debug__" : Str))=false:=by decide)
  (nQ:(x==("__classdict__" : Str))=false:=by decide):PE X (.Name x pos) (yb i):=atd hN hv hd nQ
end
def ny{A B:Prop}(h:B):if false=true then A else B:=by rw[if_neg aj];exact h
def mh{A B:Prop}(h:A):if true=true then A else B:=by rw[if_pos rfl];exact h
def oy{c A B:Prop}[Decidable c](h1:c->A)(h2:¬c->B):if c then A else B:=by
 by_cases h:c
 .rw[if_pos h];exact h1 h
 .rw[if_neg h];exact h2 h
def Same(H H':Hp):Prop:=∀b o,H b=some o->H' b=some o
def Same.refl(H:Hp):Same H H:=λ_ _ h=>h
def Same.trans{H H1 H2:Hp}(a:Same H H1)(b:Same H1 H2):Same H H2:=λc o h=>b c o<|a c o h
theorem Same.free{H H':Hp}(e:Same H H'){l:aF}(h:H' l=Option.none):H l=Option.none:=by
 cases q:H l with
 | none=>rfl
 | some o=>
  rw[e l o q]at h;cases h
end L2
namespace L3
open PySem PySem.Spec PyProof.Rows L2
structure CZ where
 cl:U (Str×aF)
 C:aF
 s:aC
 H:Hp
 ex:U aF
noncomputable def mr(X:Cx)(N:U Str)(scope:cF)(z:CZ):Cx where
 prog:=X.prog
 w:=X.w
 K:=X.K
 mg:=X.mg
 base:=X.base
 A:=X.A
 N:=N
 s₀:=z.s
 H₀:=z.H
 env:=compEnvC scope z.cl z.C X.env
 outer:=X.stack
 stack:=X.stack
 ex:=z.ex
 calm:=X.calm
 fn:=λ_=>false
 pn:=[]
 xe:=λ_ _=>False
noncomputable def qb(cells:U (Str×aF)):U (Str×aO)->U (Str×aF)->U (Str×aF)
 | [],cs=>cs
 | (n,k)::r,cs=>if (k==aO.free)=true then(match cells.lookup n with|some c=>qb cells r ((n,c)::cs)|none=>qb cells r cs)else qb cells r cs
theorem xc{scope:cF}{env:qE}(h:∀x∈scope.names,x.2=.free->∃c,env.cells.lookup x.1=some c):mF scope env=bQ (qb env.cells scope.names []):=by
 have go:∀(l:U (Str×aO)) (cs:U (Str×aF)),(∀x∈l,x.2=.free->∃c,env.cells.lookup x.1=some c)->
   (forIn l cs λ(x:Str×aO) (cs:U (Str×aF))=>if (x.2==aO.free)=true then do let a <-cellOf env x.1;bQ (ForInStep.yield ((x.1,a)::cs))else bQ (ForInStep.yield cs):Jr (U<|Str×aF))=bQ (qb env.cells l cs):=by
  intro l;induction l with
  | nil=>intro cs _;rfl
  | cons x r ih=>
   intro cs hx;obtain⟨n,k⟩:=x;rw[List.forIn_cons];have ih':=λcs=>ih cs λy hy=>hx y<|ao _ hy;unfold qb;dsimp only;by_cases hk:(k==aO.free)=true
   .obtain⟨c,hc⟩:=hx (n,k) ak (by simpa using hk);rw[if_pos hk,if_pos hk];simp only at hc;simp only[cellOf,hc,pure_bind];exact ih' _
   .rw[if_neg hk,if_neg hk];simp only[pure_bind];exact ih' _
 unfold mF;have e:=go scope.names [] h;simp only[bind_pure]at e⊢;exact e
theorem xk{cells:U (Str×aF)}{x:Str}{c:aF}:∀{l:U (Str×aO)} {cs:U (Str×aF)},(qb cells l cs).lookup x=some c->cells.lookup x=some c\/cs.lookup x=some c
 | [],cs,h=>.inr h
 | (n,k)::r,cs,h=>by
  unfold qb at h;split at h
  .split at h
   .rename_i c0 e
    rcases xk h with q|q
    .exact .inl q
    .rw[ig]at q;split at q
     .rename_i hx
      have iK:x=n:=by simpa using hx
      cases q;rw[iK];exact .inl e
     .exact .inr q
   .exact xk h
  .exact xk h
theorem sk{cells:U (Str×aF)}{x:Str}:∀{l:U (Str×aO)} {cs:U (Str×aF)},(∃c,cs.lookup x=some c)->∃c,(qb cells l cs).lookup x=some c
 | [],cs,h=>h
 | (n,k)::r,cs,h=>by
  unfold qb;split
  .split
   .refine sk ?_;rw[ig];split
    .exact⟨_,rfl⟩
    .exact h
   .exact sk h
  .exact sk h
theorem vm{cells:U (Str×aF)}{x:Str}:∀{l:U (Str×aO)} {cs:U (Str×aF)},(x,aO.free)∈l->(∃c,cells.lookup x=some c)->∃c,(qb cells l cs).lookup x=some c
 | (n,k)::r,cs,hm,h=>by
  unfold qb;rcases ap.mp hm with e|hm
  .cases e;obtain⟨c,hc⟩:=h;rw[if_pos (show(aO.free==aO.free)=true from rfl),hc];refine sk ?_;rw[ig];simp
  .split
   .split
    .exact vm hm h
    .exact vm hm h
   .exact vm hm h
def aev{scope:cF}{env:qE}{x:Str}(qQ:∀y∈scope.names,y.2≠.cell)(h:(relabel scope env).names.lookup x=some .cell\/(relabel scope env).names.lookup x=some .free):(x,aO.free)∈scope.names:=by
 rcases h with h|h
 .have hm:=gv h;obtain⟨⟨n,k⟩,hy,e⟩:=aw.mp hm;dsimp only at e;split at e
  .rename_i hc
   simp only[cb,beq_iff_eq]at hc;cases e;rw[hc.1.1]at hy;exact hy
  .cases e;exact absurd rfl<|qQ _ hy
 .have hm:=gv h;obtain⟨⟨n,k⟩,hy,e⟩:=aw.mp hm;dsimp only at e;split at e
  .cases e
  .cases e;exact hy
theorem zb{env:qE}:∀{names:U (Str×aO)} {x:Str},names.lookup x=some .free->
  ((names.map λ(n,k)=>if (k==aO.free&&env.scope.kind==.function&&env.kindOf n==some .cell)then(n,aO.cell)else(n,k)).lookup x=some .cell\/
   (names.map λ(n,k)=>if (k==aO.free&&env.scope.kind==.function&&env.kindOf n==some .cell)then(n,aO.cell)else(n,k)).lookup x=some .free)
 | [],_,h=>by simp at h
 | (n,k)::r,x,h=>by
  have ih:=@zb env r x;show(List.lookup x ((if (k==aO.free&&env.scope.kind==.function&&env.kindOf n==some .cell)=true then(n,aO.cell)else(n,k))::_)=_)\/(List.lookup x ((if (k==aO.free&&env.scope.kind==.function&&env.kindOf n==some .cell)=true then(n,aO.cell)else(n,k))::_)=_);cases hx:x==n with
  | true=>
   simp only[ig,hx]at h;cases h;by_cases hc:((aO.free:aO)==aO.free&&env.scope.kind==.function&&env.kindOf n==some .cell)=true
   .rw[if_pos hc];left;simp only[ig,hx]
   .rw[if_neg hc];right;simp only[ig,hx]
  | false=>
   simp only[ig,hx]at h;by_cases hc:(k==aO.free&&env.scope.kind==.function&&env.kindOf n==some .cell)=true
   .rw[if_pos hc];simp only[ig,hx];exact ih h
   .rw[if_neg hc];simp only[ig,hx];exact ih h
noncomputable def rj(sl:U (Option Nat))(σ:L2.St):L2.St:=sl.map λo=>o.bind λj=>(σ[j]?).getD none
noncomputable def slOk(N N':U Str)(sl:U (Option Nat))(sc osc:cF):Bool:=
 sl.length==N'.length&&(List.zip N' sl).all λp=>match p.2 with
  | none=>true
  | some j=>N[j]?==some p.1&&sc.names.lookup p.1==some .free&&(osc.names.lookup p.1==some .cell||osc.names.lookup p.1==some .free)
def slOk.len{N N':U Str}{sl:U (Option Nat)}{sc osc:cF}(h:slOk N N' sl sc osc=true):sl.length=N'.length:=by unfold slOk at h;rw[cb]at h;simpa using h.1
theorem slOk.at{N N':U Str}{sl:U (Option Nat)}{sc osc:cF}(h:slOk N N' sl sc osc=true){k j:Nat}{x:Str}(h1:N'[k]?=some x)(h2:sl[k]?=some (some j)) :
  N[j]?=some x/\sc.names.lookup x=some .free/\(osc.names.lookup x=some .cell\/osc.names.lookup x=some .free):=by
 unfold slOk at h;rw[cb,bh]at h;have hm:(x,some j)∈List.zip N' sl:=by refine ah (i:=k) ?_;rw[List.getElem?_zip_eq_some];exact⟨h1,h2⟩
 have q:=h.2 _ hm;simp only[cb,Bool.or_eq_true,beq_iff_eq]at q;exact⟨q.1.1,q.1.2,q.2⟩
noncomputable def frOk(sc osc:cF):Bool:=sc.names.all λx=>!(x.2==.free)||(osc.names.lookup x.1==some .cell||osc.names.lookup x.1==some .free)
def frOk.of{sc osc:cF}(h:frOk sc osc=true):∀x∈sc.names,x.2=.free->osc.names.lookup x.1=some .cell\/osc.names.lookup x.1=some .free:=λx hx e=>by have q:=bh.mp h x hx;rw[e]at q;simp only[beq_self_eq_true,gn,Bool.false_or,Bool.or_eq_true,beq_iff_eq]at q;exact q
def Agree(σ σ':L2.St):Prop:=σ'.length=σ.length/\∀(i:Nat) v,σ[i]?=some (some v)->σ'[i]?=some (some v)
def Agree.refl(σ:L2.St):Agree σ σ:=⟨rfl,λ_ _ h=>h⟩
theorem Agree.set{σ σ':L2.St}(a:Agree σ σ'){i:Nat}{v:Option V}(h:σ[i]?=some none):Agree σ (σ'.set i v):=by
 refine⟨by rw[List.length_set];exact a.1,λj w e=>?_⟩;by_cases eC:i=j
 .subst eC;rw[h]at e;cases e
 .rw[List.getElem?_set_ne eC];exact a.2 j w e
section
variable{fs ex:U aF}{H H':Hp}{h h1 h2:Heap}{C:aF}
def Un.but(u:Un fs ex H H' h h1)(hC:h.get? C=none)(sb:∀b o,b≠C->h1.get? b=some o->h2.get? b=some o):Un fs ex H H' h h2 where
 keep:=λb o e n hb hx=>sb b o (by rintro rfl;rw[hC]at e;cases e) (u.keep b o e n hb hx)
 slot:=λb o e n hb hx=>by obtain⟨sl,q⟩:=u.slot b o e n hb hx;exact⟨sl,sb b _ (by rintro rfl;rw[hC]at e;cases e) q⟩
 free:=u.free
 there:=λb o e hx=>by obtain⟨o',q⟩:=u.there b o e hx;exact⟨o',sb b o' (by rintro rfl;rw[hC]at e;cases e) q⟩
 tups:=u.tups
 frzs:=u.frzs
 tbls:=u.tbls
def HOk.but{P:aJ}{w:aL}(x:HOk P w H h1)(hC:H C=none)(sb:∀b o,b≠C->h1.get? b=some o->h2.get? b=some o):HOk P w H h2:=λa o e=>
 (x a o e).stay (λb u hc q=>sb b u (by
  rintro rfl;rcases hc with hc|hc
  .rw[<-hc,hC]at e;cases e
  .rw[hC]at hc;cases hc) q) (λ_ q=>q) λ_ _ q=>q
end
theorem ah2{X:Cx}{aE:U (aF×Obj)}{σ:L2.St}{H:Hp}{s:aC}(I:Inv X aE σ H s){scope:cF}{N':U Str}{sl:U (Option Nat)}{fp:U aF}{h₁:Heap}{m:Str->Option aA}{tk:Nat}
  (hk:scope.kind=.function) (qQ:∀y∈scope.names,y.2≠.cell) (bS:∀x∈scope.names,x.2=.free->X.env.scope.names.lookup x.1=some .cell\/X.env.scope.names.lookup x.1=some .free)
  (iX:slOk X.N N' sl scope X.env.scope=true) (uT:∀b∈fp,kZ X aE H b) (bL:∀b∈fp,b<s.heap.objs.size)
  (iF:h₁.Ns s.heap.objs.size m) (fN:∀b o,s.heap.get? b=some o->h₁.get? b=some o) :
  Inv (mr X N' scope ⟨qb X.env.cells scope.names [],s.heap.objs.size,s,H,fp⟩) [] (rj sl σ) H {s with heap:=h₁,toks:=tk}:=by
 have zL:∀x c,(qb X.env.cells scope.names []).lookup x=some c->X.env.cells.lookup x=some c:=λx c e=>by
  rcases xk e with q|q
  .exact q
  .cases q
 have has:∀x,(x,aO.free)∈scope.names->∃c,(qb X.env.cells scope.names []).lookup x=some c:=λx hx=>
  vm hx (I.ok.has x<|bS _ hx rfl)
 refine⟨⟨I.ok.mod,hk,I.ok.glob,I.ok.blt,aq _,λx y c h1 h2=>I.ok.inj x y c (zL x c h1)<|zL y c h2,λx hx=>has x<|aev qQ hx,λx c hf _=>absurd hf aj,I.ok.hd,I.ok.frames,.inl rfl,
   λb hb=>⟨ca<|bL b hb,λx c e=>(uT b hb).2.2.2.2.1 x c (zL x c e)⟩,I.bs,fg I.ok.bsz I.sz,λb o e hb=>?_,λb hb hz=>?_,I.stack,I.stkFree⟩,
  rfl,I.bare,Un.kept fN,⟨m,iF,λi x v h1 h2 _=>?_⟩,λx c e=>?_,I.hok.fresh<|aq _,λx c e=>I.freeC x c<|zL x c e,λp hp=>absurd (show p∈([]:U (aF×Obj))from hp)<|by simp,I.hok.kept fN,?_⟩
 .rcases(uT b hb).2.2.2.1 with z|z
  .exact I.ok.noex b o e z
  .exact absurd (ci (bc (I.ok.bs b o e).1) z)<|gx _
 .rcases ap.mp (I.stkSub b hz)with z|z
  .exact(uT b hb).2.1 z
  .exact(uT b hb).2.2.1 z
 .have eK:(rj sl σ)[i]?=some (some v):=h2;unfold rj at eK;rw[a6]at eK;cases q:sl[i]? with
  | none=>rw[q]at eK;cases eK
  | some o=>
   rw[q]at eK;cases o with
   | none=>cases eK
   | some j=>
    have e:(σ[j]?).getD none=some v:=by simpa using eK
    have e2:σ[j]?=some (some v):=by
     cases r:σ[j]? with
     | none=>rw[r]at e;cases e
     | some w=>rw[r]at e;simp at e;rw[e]
    obtain⟨a1,a2,a3⟩:=slOk.at iX h1 q;obtain⟨mo,_,hl⟩:=I.loc;obtain⟨u,r,l⟩:=hl j x v a1 e2<|.inr a3;refine⟨u,r,.inr ⟨zb a2,?_⟩⟩;have a4:X.env.kindOf x=some .cell\/X.env.kindOf x=some .free:=a3;rcases l with ⟨l,_⟩|⟨_,c,e3,z⟩
    .rcases a4 with a4|a4 <;> · rw[l]at a4;cases a4
    .obtain⟨c',e4⟩:=has x<|gv a2;have e5:=zL x c' e4;rw[e3]at e5;cases e5;obtain⟨o,ho,hd⟩:=z;exact(lu c e4 o ⟨fN _ _ ho,hd⟩)
 .obtain⟨v,o,ho,hd⟩:=I.cell x c<|zL x c e;exact(kl v o ⟨fN _ _ ho,hd⟩)
 .show(rj sl σ).length=N'.length;unfold rj;rw[ac];exact slOk.len iX
def PTs(X:Cx)(kQ:U Expr)(t:TT):Prop:=
 ∀(aE:U (aF×Obj)) (s:aC) (σ:L2.St) (H:Hp) (Q:Bool->Hp->Prop),Inv X aE σ H s->t σ H Q->
  aH (aI X.prog X.w) X.A (forIn kQ true λc r=>if r=true then do let ok <-isTrue c X.env (bR c X.env);bQ (ForInStep.yield ok)else bQ (ForInStep.yield r)) (TP X aE σ Q) X.xe s
def sq:TT:=λ_ H Q=>Q true H
def lr{X:Cx}:PTs X [] sq:=λ_ _ _ H _ I h=>wpAny_tests_nil ⟨H,I,h⟩
def wc{X:Cx}{c:Expr}{t:TT}(h:PT X c t):PTs X [c] t:=λaE s σ H Q I q=>wpAny_tests_one<|h aE s σ H Q I q
theorem aeq{prog:aJ}{w:aL}{A:Around}{R:jL->aC->Prop}{s:aC}{kC bG iter:Expr}{kQ:U Expr}{scope:cF}{pos:dE}{it fR:aA}{env:qE}(I:Nat->aC->Prop)
  (turn:∀n s,I n s->aH (aI prog w) A (bA it) (λr s₁=>match r with
   | none=>R (.ok .next) s₁
   | some v=>aH (aI prog w) A (eX bG it v) (λ_ s₂=>aH (aI prog w) A (hX bG env v) (λ_ s₃=>
     aH (aI prog w) A (forIn kQ true λc r=>if r=true then do let ok <-isTrue c env (bR c env);bQ (ForInStep.yield ok)else bQ (ForInStep.yield r)) (λok s₄=>
      if ok=true then aH (aI prog w) A (bR kC env) (λx s₅=>
       aH (aI prog w) A (call (.builtin "list.append") [fR,x]) (λ_ s₆=>∃m,m<n/\I m s₆) (λ_ _=>False) s₅) (λ_ _=>False) s₄
      else ∃m,m<n/\I m s₄) (λ_ _=>False) s₃) (λ_ _=>False) s₂) (λ_ _=>False) s₁) (λ_ _=>False) s)
  (n:Nat) (h:I n s) :
  cI (aI prog w) A (.compLoop (.ListComp kC [⟨bG,iter,kQ,0⟩] scope pos) 0 it fR env) R s:=by
 refine codeAny_loop rfl I (λn s hI=>?_) n h;show aH _ A ((compTurn (.ListComp kC [⟨bG,iter,kQ,0⟩] scope pos) 0 it fR env).onRaise (λx=>do noteFrame x env;theTreesLotGoes x)) _ _ s;refine wpAny_noted ?_;rw[compTurn_list];refine ab<|eB<|ab<|jj (turn n s hI) (λr s₁ h₁=>?_) λ_ _ h'=>h'.elim;cases r with
 | none=>exact am h₁
 | some v=>
  refine ab<|jj h₁ (λ_ s₂ h₂=>?_) λ_ _ h'=>h'.elim;refine ab<|jj h₂ (λ_ s₃ h₃=>ab<|jj h₃ (λok s₄ h₄=>?_) λ_ _ h'=>h'.elim) λ_ _ h'=>h'.elim;cases ok with
  | false=>exact am ⟨rfl,h₄⟩
  | true=>
   exact ab<|ab<|jj h₄ (λx s₅ h₅=>ab<|jj h₅ (λ_ s₆ h₆=>am<|am ⟨rfl,h₆⟩) λ_ _ h'=>h'.elim) λ_ _ h'=>h'.elim
def rM(J:It)(sl:U (Option Nat))(g:TG)(tt:TT)(te:TE)(σ:L2.St)(H1:Hp)(D:aF)(Q:VK):Prop:=
 ∃W:Nat->Nat->Hp->Prop,(∃m,W 0 m<|upd H1 D<|.lst [])/\∀i m H,W i m H->(J.stop i H/\Q (.ref D) H)\/
  (J.go i H/\∃N:Hp->Prop,(∀H',N H'->∃m',m'<m/\W (i+1) m' H')/\∀x H',J.yld i H x H'->g x (rj sl σ) H' λσ2 H2=>Agree (rj sl σ) σ2/\tt σ2 H2 λb H3=>
   if b=true then te σ2 H3 λy H4=>∃xs,H4 D=some (.lst xs)/\xs.length<aG/\N (upd H4 D<|.lst<|xs++[y])else N H3)
def rL(wi:TI)(sl:U (Option Nat))(g:TG)(tt:TT)(te:TE):TE:=λσ H Q=>wi σ H λJ H1=>∀D,H1 D=none->rM J sl g tt te σ H1 D Q
section
variable{X:Cx}{kC bG iter:Expr}{kQ:U Expr}{scope:cF}{pos:dE}
theorem abn{N':U Str}{sl:U (Option Nat)}{g:TG}{tt:TT}{te:TE}{aE:U (aF×Obj)}{s₂:aC}{σ:L2.St}{H2:Hp}{Q:VK}{RR:aA->aF->jL->aC->Prop}{E:aA->aC->Prop}
  {it:aF} {fp:U aF} {tn:Nat->Heap->Prop} {J:It} (hc:X.calm=true) (eG:scope.kind=.function)
  (qQ:∀y∈scope.names,y.2≠.cell) (bS:∀x∈scope.names,x.2=.free->X.env.scope.names.lookup x.1=some .cell\/X.env.scope.names.lookup x.1=some .free)
  (iX:slOk X.N N' sl scope X.env.scope=true)
  (hg:∀z,PG (mr X N' scope z) bG g) (ht:∀z,PTs (mr X N' scope z) kQ tt) (he:∀z,PE (mr X N' scope z) kC te)
  (I2:Inv X aE σ H2 s₂) (T:rH X.prog X.w X.K bG J fp it tn) (eD:tn 0 s₂.heap) (f2:∀b∈fp,kZ X aE H2 b) (hw:∀D,H2 D=none->rM J sl g tt te σ H2 D Q)
  (hR:∀D C H' s',H' C=none->(∃m,s'.heap.Ns C m)->kZ X aE H' C->(∀h',br C s'.heap h'->Inv X aE σ H' {s' with heap:=h'})->Inv X aE σ H' s'->Q (.ref D) H'->RR (.ref D) C (.ok .next) s') :
  aH (aI X.prog X.w) X.A (newList []) (λfR s₃=>aH (aI X.prog X.w) X.A (newFunctionEnv scope X.env.globals (qb X.env.cells scope.names []) [] X.env.qual none .none<|some X.env) (λcenv s₄=>
   cI (aI X.prog X.w) X.A (.compStart (.ListComp kC [⟨bG,iter,kQ,0⟩] scope pos) 0 (.ref it) fR {cenv with scope:=relabel scope X.env}) (RR fR cenv.locals) s₄) E s₃) E s₂:=by
 have Bm:∀b∈fp,b<s₂.heap.objs.size:=λb hb=>by obtain⟨o,e,_⟩:=T.obj _ _ eD b hb;exact bc e
 have hD:H2 s₂.heap.objs.size=none:=I2.hok.fresh<|aq _;obtain⟨W,⟨m0,w0⟩,turn⟩:=hw _ hD;refine nF ?_<|dv _;have I3:=I2.lnew (ys:=[]) (its:=[]) (t':=s₂.toks) .nil<|dv _;refine wpAny_newFunctionEnv qQ (by intro y hy;simp at hy) (λh₁ FC Fk=>?_) eG;generalize hs3:({s₂ with heap:=s₂.heap.push {cls:=.type "list",data:=.seq ([]:U aA).toArray}}:aC)=s₃ at *;have A2:s₃.heap=s₂.heap.push {cls:=.type "list",data:=.seq ([]:U aA).toArray}:=by rw[<-hs3]
 have hC3:s₃.heap.objs.size=s₂.heap.objs.size+1:=by rw[A2,jl]
 have wB:∀b o,s₂.heap.get? b=some o->s₃.heap.get? b=some o:=λb o e=>by rw[A2];exact ai _ e
 have tZ:∀b o,s₃.heap.get? b=some o->h₁.get? b=some o:=λb o e=>Fk.extBut b o (ca<|bc e)<|ai _ e;have dG:∀b∈fp,b≠s₂.heap.objs.size:=λb hb=>ca<|Bm b hb;have f3:∀b∈fp,kZ X aE (upd H2 s₂.heap.objs.size<|.lst []) b:=λb hb=>⟨by rw[kg (dG b hb)];exact(f2 b hb).1,(f2 b hb).2⟩;have FR:∀b∈fp,b<s₃.heap.objs.size:=λb hb=>by rw[hC3];exact Nat.lt_succ_of_lt<|Bm b hb
 have I4:=ah2 (tk:=s₃.toks+([]:U (Str×aA)).length) I3 eG qQ bS iX f3 FR FC tZ;have jE:tn 0 h₁:=T.keep _ _ _ eD λb _ o e=>tZ b o<|wB b o e;generalize hz:(⟨qb X.env.cells scope.names [],s₃.heap.objs.size,s₃,upd H2 s₂.heap.objs.size<|.lst [],fp⟩:CZ)=z at I4;have ezC:z.C=s₃.heap.objs.size:=by rw[<-hz]
 have ezx:z.ex=fp:=by rw[<-hz]
 have kG:∀{H':Hp},(∀b∈fp,H' b=none)->∀b∈fp,kZ (mr X _ scope z) [] H' b:=λhn b hb=>by subst hz;have q:=I4.ok.exf b hb;exact⟨hn b hb,q.1,I4.ok.exfs b hb,.inl hb,q.2,λp hp=>absurd (show p∈([]:U (aF×Obj))from hp)<|by simp⟩
 have loop:∀s₄:aC,s₄={s₃ with heap:=h₁,toks:=s₃.toks+([]:U (Str×aA)).length}->
   cI (aI X.prog X.w) X.A (.compLoop (.ListComp kC [⟨bG,iter,kQ,0⟩] scope pos) 0 (.ref it) (.ref s₂.heap.objs.size) (mr X N' scope z).env) (RR (.ref s₂.heap.objs.size) s₃.heap.objs.size) s₄:=by
  rintro s₄ rfl;refine aeq (λn s'=>∃i H',Inv (mr X N' scope z) [] (rj sl σ) H' s'/\tn i s'.heap/\(∀b∈fp,H' b=none)/\W i n H') ?_ m0<|kl 0 _ ⟨I4,jE,λb hb=>(f3 b hb).1,w0⟩;rintro n s5 ⟨i,H5,I5,gG,DC,w5⟩;rcases turn i n H5 w5 with ⟨stop,qn⟩|⟨go,N,hN,step⟩
  .refine thn (T.done (mr X N' scope z) rfl rfl rfl hc i [] s5 _ H5 _ I5 (kG DC) gG stop) λr s6 ⟨hr,I6⟩=>?_;subst hr;have un:Un (frs X.stack) fp (upd H2 s₂.heap.objs.size<|.lst []) H5 s₃.heap s6.heap:=by subst hz;exact I6.base
   have os6:s6.os=s₃.os:=by subst hz;exact I6.os
   have fC:H5 s₃.heap.objs.size=none:=by subst hz;exact I6.free
   have mX:∀b∈fp,(b∈X.ex\/X.s₀.heap.objs.size<=b)/\b≠X.env.locals/\(∀x c,X.env.cells.lookup x=some c->c≠b)/\∀p∈X.pn++aE,p.1≠b:=λb hb=>⟨(f2 b hb).2.2.2.1,(f2 b hb).2.1,(f2 b hb).2.2.2.2.1,(f2 b hb).2.2.2.2.2⟩;have nC:s₃.heap.get? s₃.heap.objs.size=none:=Heap.get?_none_of_le<|aq _;have ns:∃m,s6.heap.Ns s₃.heap.objs.size m:=by subst hz;obtain⟨m,hn,_⟩:=I6.loc;exact⟨m,hn⟩
   refine hR _ _ H5 s6 fC ns (I3.fpOk (aq _) fC) (λh' sb=>?_) (I3.call' (ch:=fp) os6 un I6.hok I6.bare mX) qn;exact I3.call' (s':={s6 with heap:=h'}) (ch:=fp) os6 (Un.but un nC sb.extBut) (HOk.but I6.hok fC sb.extBut) I6.bare mX
  .refine thn (T.item (mr X N' scope z) rfl rfl rfl hc i [] s5 _ H5 _ I5 (kG DC) gG go) λr s6 ⟨u,hr,h6⟩=>?_;subst hr;refine thn h6 λ_ s7 ⟨x,H7,I7,r7,y7,lJ,fr7⟩=>?_;have I7':=I7.pinned (kG fr7)<|T.obj _ _ lJ;refine thn (hg z _ s7 _ H7 x u _ I7' r7<|step x H7 y7) λ_ s8 ⟨σ8,H8,I8,ag,q8⟩=>?_;have again:∀{s9:aC} {H9:Hp},Inv (mr X N' scope z) ([]++Ce fp s7.heap) σ8 H9 s9->N H9->∃m,m<n/\∃i H',Inv (mr X N' scope z) [] (rj sl σ) H' s9/\tn i s9.heap/\(∀b∈fp,H' b=none)/\W i m H':=λ{s9 H9} I9 n9=>by
    obtain⟨m',hm,w9⟩:=hN H9 n9;refine(m6 m' hm (i+1) H9 ⟨(I9.weak ag.1.symm ag.2).unpinned,T.keep _ _ _ lJ λb hb o e=>(I9.pin (b,o)<|bu _<|bu _<|vx hb e).1,λb hb=>?_,w9⟩);obtain⟨o,e,d⟩:=T.obj _ _ lJ b hb;exact(I9.pin (b,o)<|bu _<|bu _<|vx hb e).2.1
   refine thn (ht z _ s8 σ8 H8 _ I8 q8) λok s9 ⟨H9,I9,q9⟩=>?_;cases ok with
   | false=>exact again I9 q9
   | true=>
    refine thn (he z _ s9 σ8 H9 _ I9 q9) λEm s10 ⟨y,Jt,I10,EK,xs,hx,AQ,lS⟩=>?_;exact thn (pk _ s10 σ8 Jt (.ref s₂.heap.objs.size) [y] (.ref s₂.heap.objs.size) [Em] (λ_ H'=>N H') I10 rfl (.cons EK .nil)<|lq _ xs y ⟨rfl,rfl,hx,AQ,lS⟩) λ_ s11 ⟨_,H11,I11,_,n11⟩=>again I11 n11
 have GB:(mr X N' scope z).env=compEnvC scope (qb X.env.cells scope.names []) s₃.heap.objs.size X.env:=by rw[<-hz];rfl
 rw[GB]at loop;exact codeAny_compStart_list (loop _ rfl)<|T.self _ 0 _ _ _ jE<|loop _ rfl
def mj(N':U Str)(sl:U (Option Nat)){wi:TI}{g:TG}{tt:TT}{te:TE}(hc:X.calm=true)(eG:scope.kind=.function)
  (kU:∀x∈scope.names,x.2=.local->scope.names.lookup x.1=some .local)
  (qQ:∀y∈scope.names,y.2≠.cell) (qS:frOk scope X.env.scope=true)
  (iX:slOk X.N N' sl scope X.env.scope=true) (hi:PI X bG iter wi)
  (hg:∀z,PG (mr X N' scope z) bG g) (ht:∀z,PTs (mr X N' scope z) kQ tt) (he:∀z,PE (mr X N' scope z) kC te)
  (hs:∀x,iN iter X.env x=bQ x:=by intro _;rfl) :
  PE X (.ListComp kC [⟨bG,iter,kQ,0⟩] scope pos) (rL wi sl g tt te):=by
 have bS:=frOk.of qS;intro aE s σ H Q I h;rw[eval_ListComp];have gZ:mF scope X.env=bQ (qb X.env.cells scope.names []):=xc λx hx hk=>I.ok.has x.1<|bS x hx hk;refine nH (use:=none) rfl hs gZ eG kU<|thn (hi aE s σ H _ I h) λxv s₁ h₁=>thn h₁ λC5 s₂ h₂=>?_;obtain⟨it,fp,tn,J,H2,e,I2,T,eD,f2,hw⟩:=h₂;subst e;refine abn (RR:=λfR C=>compPost (aI X.prog X.w) X.A X.xe none (EP X aE σ Q) fR C) hc eG qQ bS iX hg ht he I2 T eD f2 hw ?_;intro D C H' s' fC ns _ hI _ q;obtain⟨m,hn⟩:=ns;exact⟨m,hn,λh' sb=>(kl (.ref D) H' ⟨hI h' sb,rfl,q⟩)⟩
def sd(N':U Str)(sl:U (Option Nat)){wi:TI}{g:TG}{tt:TT}{te:TE}{i:Nat}{y:Str}{py Ap:dE}(hN:X.N.Nodup)(hyi:X.N[i]?=some y)(hx:Loc X.env.scope y)
  (hsw:nY (.ListComp kC [⟨bG,iter,kQ,0⟩] scope pos) (some<|.Name y py) Ap.line X.env=bQ true) (hc:X.calm=true) (eG:scope.kind=.function)
  (kU:∀x∈scope.names,x.2=.local->scope.names.lookup x.1=some .local)
  (qQ:∀y∈scope.names,y.2≠.cell) (qS:frOk scope X.env.scope=true)
  (iX:slOk X.N N' sl scope X.env.scope=true) (hi:PI X bG iter wi)
  (hg:∀z,PG (mr X N' scope z) bG g) (ht:∀z,PTs (mr X N' scope z) kQ tt) (he:∀z,PE (mr X N' scope z) kC te)
  (hs:∀x,iN iter X.env x=bQ x:=by intro _;rfl) (hf:X.fn y=true\/X.env.scope.names.lookup y=some .local:=by first|exact .inl rfl|exact .inr rfl|assumption) :
  PS X (.Assign [.Name y py] (.ListComp kC [⟨bG,iter,kQ,0⟩] scope pos) Ap) (G0 (rL wi sl g tt te)<|rn i):=by
 have bS:=frOk.of qS;intro aE s σ H D I h;rw[exec_Assign_Name_used _ _ _ _ hsw];refine ab<|eB<|ab ?_;show aH _ _ (do let _ <-comprehension (.ListComp kC [⟨bG,iter,kQ,0⟩] scope pos) scope X.env _ (newList []) false (bR iter X.env) (some<|hX (.Name y py) X.env)) _ _ s;have gZ:mF scope X.env=bQ (qb X.env.cells scope.names []):=xc λx hx hk=>I.ok.has x.1<|bS x hx hk;refine ab (jj (nH (use:=some<|hX (.Name y py) X.env) (Q:=λ_ s'=>SP X aE D .next s') rfl hs gZ eG kU
  (thn (hi aE s σ H _ I h) λxv s₁ h₁=>thn h₁ λC5 s₂ h₂=>?_)) (λ_ s' hq=>am<|am hq) λ_ _ e=>e)
 obtain⟨it,fp,tn,J,H2,e,I2,T,eD,f2,hw⟩:=h₂;subst e;refine abn (RR:=λfR C=>compPost (aI X.prog X.w) X.A X.xe (some<|hX (.Name y py) X.env) (λ_ s'=>SP X aE D .next s') fR C) hc eG qQ bS iX hg ht he I2 T eD f2 hw ?_;intro E C H' s' fC ns fp hI I' q;obtain⟨m,hn⟩:=ns;show aH _ _ (hX (.Name y py) X.env<|.ref E) _ _ _;refine Am<|aea I' hN hyi hx (v:=.ref E) rfl (λs2 I2 ⟨a,sb,ha⟩=>?_) hf;have hCa:C≠a:=by
  rcases ha with ha|ha
  .rw[ha];exact fp.2.1
  .exact λz=>fp.2.2.2.2.1 _ _ ha z.symm
 exact⟨m,hn.sameBut sb hCa,λh3 tR=>(kl _ H' ⟨I2.turned (t':=s2.toks) (λb o hb e=>(tR.2 b hb).trans e) fp.1 fp.2.1 fp.2.2.2.1 fp.2.2.2.2.1 fp.2.2.2.2.2,q⟩)⟩
end
mutual
def Rep(H:Hp):Z9->V->Prop
 | .none,v=>v=.non
 | .bool b,v=>v=.bl b
 | .int i,v=>v=.int i
 | .str x,v=>v=.str x/\ju x=true
 | .tuple ds,v=>∃a xs,v=.ref a/\H a=some (.tup xs)/\RepAll H ds xs
 | .list ds,v=>∃a xs,v=.ref a/\H a=some (.lst xs)/\RepAll H ds xs
 | .dict _,_=>False
def RepAll(H:Hp):U Z9->U V->Prop
 | [],xs=>xs=[]
 | d::ds,xs=>∃x r,xs=x::r/\Rep H d x/\RepAll H ds r
end
mutual
noncomputable def imm:Z9->Bool
 | .none=>true
 | .bool _=>true
 | .int _=>true
 | .str _=>true
 | .tuple ds=>oo ds
 | .list _=>false
 | .dict _=>false
noncomputable def oo:U Z9->Bool
 | []=>true
 | d::ds=>imm d&&oo ds
end
def Tk(H H':Hp):Prop:=∀b xs,H b=some (.tup xs)->H' b=some (.tup xs)
theorem Tk.lst{H:Hp}{p:aF}{xs:U V}{o:HO}(h:H p=some (.lst xs)):Tk H (upd H p o):=λb ys q=>by rw[kg (HJ q h<|by intro z;cases z)];exact q
mutual
theorem Rep.tk{H H':Hp}(t:Tk H H'):∀{d:Z9} {v:V},imm d=true->Rep H d v->Rep H' d v
 | .none,_,_,h=>h
 | .bool _,_,_,h=>h
 | .int _,_,_,h=>h
 | .str _,_,_,h=>h
 | .tuple ds,v,hi,h=>by obtain⟨a,xs,e,ha,r⟩:=h;exact(kl a xs ⟨e,t _ _ ha,RepAll.tk t hi r⟩)
 | .list _,_,hi,_=>absurd hi aj
 | .dict _,_,hi,_=>absurd hi aj
theorem RepAll.tk{H H':Hp}(t:Tk H H'):∀{ds:U Z9} {xs:U V},oo ds=true->RepAll H ds xs->RepAll H' ds xs
 | [],_,_,h=>h
 | d::ds,xs,hi,h=>by obtain⟨x,r,e,h1,h2⟩:=h;have eZ:(imm d&&oo ds)=true:=hi;rw[cb]at eZ;exact(kl x r ⟨e,Rep.tk t eZ.1 h1,RepAll.tk t eZ.2 h2⟩)
end
mutual
theorem Rep.same{H H':Hp}(t:Same H H'):∀{d:Z9} {v:V},Rep H d v->Rep H' d v
 | .none,_,h=>h
 | .bool _,_,h=>h
 | .int _,_,h=>h
 | .str _,_,h=>h
 | .tuple ds,v,h=>by obtain⟨a,xs,e,ha,r⟩:=h;exact(kl a xs ⟨e,t _ _ ha,RepAll.same t r⟩)
 | .list ds,v,h=>by obtain⟨a,xs,e,ha,r⟩:=h;exact(kl a xs ⟨e,t _ _ ha,RepAll.same t r⟩)
 | .dict _,_,h=>h
theorem RepAll.same{H H':Hp}(t:Same H H'):∀{ds:U Z9} {xs:U V},RepAll H ds xs->RepAll H' ds xs
 | [],_,h=>h
 | d::ds,xs,h=>by obtain⟨x,r,e,h1,h2⟩:=h;exact(kl x r ⟨e,Rep.same t h1,RepAll.same t h2⟩)
end
theorem RepAll.length{H:Hp}:∀{ds:U Z9} {xs:U V},RepAll H ds xs->xs.length=ds.length
 | [],xs,h=>by have e:xs=[]:=h;rw[e];rfl
 | d::ds,xs,h=>by obtain⟨x,r,e,_,h2⟩:=h;rw[e,ba,ba,RepAll.length h2]
theorem RepAll.get{H:Hp}:∀{ds:U Z9} {xs:U V} {i:Nat} {d:Z9},RepAll H ds xs->ds[i]?=some d->∃x,xs[i]?=some x/\Rep H d x
 | [],_,_,_,_,e=>by simp at e
 | d::ds,xs,0,d',h,e=>by obtain⟨x,r,e1,h1,_⟩:=h;subst e1;simp at e;subst e;exact⟨x,rfl,h1⟩
 | d::ds,xs,i+1,d',h,e=>by obtain⟨x,r,e1,_,h2⟩:=h;subst e1;obtain⟨y,h3,h4⟩:=RepAll.get (i:=i) h2 (by simpa using e);exact⟨y,by simpa using h3,h4⟩
theorem RepAll.at{H:Hp}{ds:U Z9}{xs:U V}{i:Nat}{x:V}(h:RepAll H ds xs)(e:xs[i]?=some x):∃d,ds[i]?=some d/\Rep H d x:=by
 have hi:i<xs.length:=(af.mp e).1;have eZ:i<ds.length:=by rw[<-h.length];exact hi
 obtain⟨y,h1,h2⟩:=h.get<|aa eZ;rw[e]at h1;cases h1;exact⟨_,aa eZ,h2⟩
theorem RepAll.append{H:Hp}:∀{ds es:U Z9} {xs ys:U V},RepAll H ds xs->RepAll H es ys->RepAll H (ds++es) (xs++ys)
 | [],es,xs,ys,h,h'=>by have e:xs=[]:=h;rw[e];exact h'
 | d::ds,es,xs,ys,h,h'=>by obtain⟨x,r,e,h1,h2⟩:=h;subst e;exact(kl x (r++ys) ⟨rfl,h1,RepAll.append h2 h'⟩)
def RepAll.snoc{H:Hp}{ds:U Z9}{d:Z9}{xs:U V}{x:V}(h:RepAll H ds xs)(h':Rep H d x):RepAll H (ds++[d]) (xs++[x]):=h.append<|kl x ([]) ⟨rfl,h',rfl⟩
theorem RepAll.drop{H:Hp}:∀{ds:U Z9} {xs:U V} (n:Nat),RepAll H ds xs->RepAll H (ds.drop n) (xs.drop n)
 | _,_,0,h=>h
 | [],xs,n+1,h=>by have e:xs=[]:=h;rw[e];rfl
 | d::ds,xs,n+1,h=>by obtain⟨x,r,e,_,h2⟩:=h;subst e;exact RepAll.drop n h2
theorem RepAll.take{H:Hp}:∀{ds:U Z9} {xs:U V} (n:Nat),RepAll H ds xs->RepAll H (ds.take n) (xs.take n)
 | _,_,0,_=>rfl
 | [],xs,n+1,h=>by have e:xs=[]:=h;rw[e];rfl
 | d::ds,xs,n+1,h=>by obtain⟨x,r,e,h1,h2⟩:=h;subst e;exact(kl x (r.take n) ⟨rfl,h1,RepAll.take n h2⟩)
mutual
theorem Rep.lay{H:Hp}:∀{d:Z9} {v:V},Rep H d v->d.canLay0=true
 | .none,_,_=>rfl
 | .bool _,_,_=>rfl
 | .int _,_,_=>rfl
 | .str _,_,h=>h.2
 | .tuple ds,_,h=>by obtain⟨_,_,_,_,r⟩:=h;exact RepAll.lay r
 | .list ds,_,h=>by obtain⟨_,_,_,_,r⟩:=h;exact RepAll.lay r
 | .dict _,_,h=>h.elim
theorem RepAll.lay{H:Hp}:∀{ds:U Z9} {xs:U V},RepAll H ds xs->gi ds=true
 | [],_,_=>rfl
 | d::ds,_,h=>by obtain⟨x,r,e,h1,h2⟩:=h;show(d.canLay0&&gi ds)=true;rw[Rep.lay h1,RepAll.lay h2];rfl
end
section
variable{X:Cx}{aE:U (aF×Obj)}{σ:L2.St}{H:Hp}{s:aC}
mutual
theorem Rep.reads(I:Inv X aE σ H s):∀{d:Z9} {v:V} {u:aA},Rep H d v->RelV v u->∃as,Reads s.heap u d as
 | .none,v,u,h,r=>by cases (show v=.non from h);cases (show u=aA.none from r);exact⟨_,.none⟩
 | .bool b,v,u,h,r=>by cases (show v=.bl b from h);cases (show u=aA.bool b from r);exact⟨_,.bool b⟩
 | .int i,v,u,h,r=>by cases (show v=.int i from h);obtain⟨t,e⟩:=(show ∃t,u=aA.int i t from r);cases e;exact⟨_,.int i t⟩
 | .str x,v,u,h,r=>by cases (show v=.str x from h.1);obtain⟨t,e⟩:=(show ∃t,u=aA.str x t from r);cases e;exact⟨_,.str x t⟩
 | .tuple ds,v,u,h,r=>by obtain⟨a,xs,e,ha,q⟩:=h;subst e;cases (show u=aA.ref a from r);obtain⟨its,rv,⟨o,e1,e2,n,e3⟩,_⟩:=I.tuple<|SqT.of (K:=X.K) ha;obtain⟨as,z⟩:=RepAll.reads I q rv;exact⟨as,.tuple e1 e2 e3 z⟩
 | .list ds,v,u,h,r=>by obtain⟨a,xs,e,ha,q⟩:=h;subst e;cases (show u=aA.ref a from r);obtain⟨its,rv,⟨o,n,e1,e2,_,e3⟩,_⟩:=I.list<|SqL.of (K:=X.K) ha;obtain⟨as,z⟩:=RepAll.reads I q rv;exact⟨_,.list e1 e2 e3 z⟩
 | .dict _,_,_,h,_=>h.elim
theorem RepAll.reads(I:Inv X aE σ H s):∀{ds:U Z9} {xs:U V} {us:U aA},RepAll H ds xs->Vals xs us->∃as,ReadsAll s.heap us ds as
 | [],xs,us,h,r=>by cases (show xs=[]from h);cases r;exact⟨_,.nil⟩
 | d::ds,xs,us,h,r=>by
  obtain⟨x,t,e,h1,h2⟩:=h;subst e;cases r with
  | cons r1 r2=>
   obtain⟨as,z1⟩:=Rep.reads I h1 r1;obtain⟨bs,z2⟩:=RepAll.reads I h2 r2;exact⟨_,.cons z1 z2⟩
end
end
def aw8(neg:Bool):R2:=λx y H Q=>∃dx dy,Rep H dx x/\Rep H dy y/\dx.depth<=60/\Q (.bl (if neg then !b8 dx dy else b8 dx dy)) H
section
variable{X:Cx}
def Ib(hu:X.A.units+64<aY):OpR X (aN .Eq) (aw8 false):=by intro aE s σ H x y v u Q I rx ry h;obtain⟨dx,dy,hx,hy,hd,q⟩:=h;obtain⟨as,r1⟩:=hx.reads I rx;obtain⟨bs,r2⟩:=hy.reads I ry;exact SeqAt.compareEq_reads r1 r2 hx.lay hy.lay (by have:=Nat.min_le_left dx.depth dy.depth;lia)<|kl (.bl _) H ⟨I,rfl,q⟩
def aoz(hu:X.A.units+64<aY):OpR X (aN .NotEq) (aw8 true):=by intro aE s σ H x y v u Q I rx ry h;obtain⟨dx,dy,hx,hy,hd,q⟩:=h;obtain⟨as,r1⟩:=hx.reads I rx;obtain⟨bs,r2⟩:=hy.reads I ry;exact SeqAt.compareNe_reads r1 r2 hx.lay hy.lay (by have:=Nat.min_le_left dx.depth dy.depth;lia)<|kl (.bl _) H ⟨I,rfl,q⟩
def axe(neg:Bool):R2:=λx y H Q=>∃d p xs ds,Rep H d x/\y=.ref p/\(H p=some (.lst xs)\/H p=some (.tup xs))/\RepAll H ds xs/\d.depth<=60/\
 Q (.bl (if neg then !(ds.any λe=>b8 e d)else ds.any λe=>b8 e d)) H
def DW(hu:X.A.units+64<aY):OpR X (aN .In) (axe false):=by
 intro aE s σ H x y v u Q I rx ry h;obtain⟨d,p,xs,ds,hx,rfl,hp,dH,hd,q⟩:=h;cases ry;obtain⟨bs,r2⟩:=hx.reads I rx;have oB:X.A.units+1+kO (ay ds) d.depth<aY:=by have:=Nat.min_le_right (ay ds) d.depth;lia
 rcases hp with hp|hp
 .obtain⟨as,r1⟩:=Rep.reads I (d:=.list ds) (v:=.ref p) (u:=.ref p) (kl p xs ⟨rfl,hp,dH⟩) rfl;exact SeqAt.in_list_reads r1 r2 dH.lay hx.lay oB<|kl (.bl _) H ⟨I,rfl,q⟩
 .obtain⟨as,r1⟩:=Rep.reads I (d:=.tuple ds) (v:=.ref p) (u:=.ref p) (kl p xs ⟨rfl,hp,dH⟩) rfl;exact SeqAt.in_tuple_reads r1 r2 dH.lay hx.lay oB<|kl (.bl _) H ⟨I,rfl,q⟩
def vc(hu:X.A.units+64<aY):OpR X (aN .NotIn) (axe true):=by
 intro aE s σ H x y v u Q I rx ry h;obtain⟨d,p,xs,ds,hx,rfl,hp,dH,hd,q⟩:=h;cases ry;obtain⟨bs,r2⟩:=hx.reads I rx;have oB:X.A.units+1+kO (ay ds) d.depth<aY:=by have:=Nat.min_le_right (ay ds) d.depth;lia
 rcases hp with hp|hp
 .obtain⟨as,r1⟩:=Rep.reads I (d:=.list ds) (v:=.ref p) (u:=.ref p) (kl p xs ⟨rfl,hp,dH⟩) rfl;exact SeqAt.notIn_list_reads r1 r2 dH.lay hx.lay oB<|kl (.bl _) H ⟨I,rfl,q⟩
 .obtain⟨as,r1⟩:=Rep.reads I (d:=.tuple ds) (v:=.ref p) (u:=.ref p) (kl p xs ⟨rfl,hp,dH⟩) rfl;exact SeqAt.notIn_tuple_reads r1 r2 dH.lay hx.lay oB<|kl (.bl _) H ⟨I,rfl,q⟩
def kh:qp X (.builtin "isinstance") (λxs H Q=>∃x T t b,xs=[x,.ty T]/\jC X.K H x t/\jk X.K t (.type T)=some b/\Q (.bl b) H):=by intro aE s σ H xs us Q I r h;obtain⟨x,T,t,b,rfl,ty,e,q⟩:=h;obtain⟨u,w',rfl,r1,r2⟩:=Ca r;cases (show w'=aA.type T from r2);exact ajm I r1 ty e λtk=>(kl (.bl b) H ⟨I.tok _,rfl,q⟩)
end
noncomputable def Hj:Z9->Z9->Bool
 | .int a,.int b=>decide (a<b)
 | .str a,.str b=>decide (a.cps.toList<b.cps.toList)
 | _,_=>false
noncomputable def pj:U Z9->U Z9->Bool
 | [],[]=>false
 | [],_::_=>true
 | _::_,[]=>false
 | x::xs,y::ys=>if b8 x y=true then pj xs ys else Hj x y
def Row:U Bool->U Z9->Prop
 | [],ds=>ds=[]
 | true::ks,ds=>∃i r,ds=.int i::r/\Row ks r
 | false::ks,ds=>∃x r,ds=.str x::r/\Row ks r
noncomputable def ua:Z9->U Z9
 | .tuple ds=>ds
 | _=>[]
noncomputable def rJ(ds:U Z9)(i j:Nat):Bool:=pj (ua<|ds.getD i .none)<|ua<|ds.getD j .none
noncomputable def qd(ds:U Z9):U Z9:=(srt (rJ ds) ds.length).map λi=>ds.getD i .none
section
variable{prog:aJ}{w:aL}{A:Around}{E:aA->aC->Prop}{s:aC}{Q:Bool->aC->Prop}
theorem zt:∀{ks:U Bool} {xs ys:U Z9} {us vs:U aA} {as bs:U aF} {i:Nat},Row ks xs->Row ks ys->ReadsAll s.heap us xs as->ReadsAll s.heap vs ys bs->Q (pj xs ys) s->
  PySem.W.KatLex prog w A true false Q (us.zip vs) i s
 | [],xs,ys,us,vs,as,bs,i,h1,h2,r1,r2,q=>by cases (show xs=[]from h1);cases (show ys=[]from h2);cases r1;cases r2;exact q
 | true::ks,xs,ys,us,vs,as,bs,i,h1,h2,r1,r2,q=>by
  obtain⟨a,xr,rfl,h1⟩:=h1;obtain⟨b,yr,rfl,h2⟩:=h2;cases r1 with
  | cons ra r1=>
   cases r2 with
   | cons rb r2=>
    cases ra with
    | int _ t=>
     cases rb with
     | int _ u=>
      rw[iu];refine PySem.W.kat_cons<|SeqAt.EqAt.int_int a t b u prog w _ _ ?_;have q':Q (if b8 (.int a) (.int b)=true then pj xr yr else Hj (.int a) (.int b)) s:=q;have e:b8 (.int a) (.int b)=(a==b):=rfl;rw[e]at q';cases hb:(a==b)with
      | true=>rw[hb,if_pos rfl]at q';exact PySem.W.kat_yes (zt h1 h2 r1 r2 q')
      | false=>
       rw[hb,if_neg aj]at q';refine PySem.W.kat_no ?_;cases hi:(i==0)with
       | true=>exact oneLt_int q'
       | false=>exact PySem.W.kat_one _ _ (lt_int q')
 | false::ks,xs,ys,us,vs,as,bs,i,h1,h2,r1,r2,q=>by
  obtain⟨a,xr,rfl,h1⟩:=h1;obtain⟨b,yr,rfl,h2⟩:=h2;cases r1 with
  | cons ra r1=>
   cases r2 with
   | cons rb r2=>
    cases ra with
    | str _ t=>
     cases rb with
     | str _ u=>
      rw[iu];refine PySem.W.kat_cons<|SeqAt.EqAt.str_str a t b u prog w _ _ ?_;have q':Q (if b8 (.str a) (.str b)=true then pj xr yr else Hj (.str a) (.str b)) s:=q;have e:b8 (.str a) (.str b)=(a==b):=rfl;rw[e]at q';cases hb:(a==b)with
      | true=>rw[hb,if_pos rfl]at q';exact PySem.W.kat_yes (zt h1 h2 r1 r2 q')
      | false=>
       rw[hb,if_neg aj]at q';refine PySem.W.kat_no ?_;cases hi:(i==0)with
       | true=>exact oneLt_str q'
       | false=>exact PySem.W.kat_one _ _<|PyProof.Rows.lt_str q'
end
theorem Row.len{ks:U Bool}:∀{ds:U Z9},Row ks ds->ds.length=ks.length:=by
 induction ks with
 | nil=>intro ds h;cases (show ds=[]from h);rfl
 | cons k ks ih=>
  intro ds h;cases k with
  | true=>obtain⟨i,r,rfl,h⟩:=h;rw[ba,ba,ih h]
  | false=>obtain⟨i,r,rfl,h⟩:=h;rw[ba,ba,ih h]
def Rows(ks:U Bool)(ds:U Z9):Prop:=∀d∈ds,∃r,d=.tuple r/\Row (true::ks) r
section
variable{X:Cx}
theorem aox(I:Inv X aE σ H s){ks:U Bool}{d:Z9}{v:V}{u:aA}(h:Rep H d v)(r:RelV v u){row:U Z9}(e:d=.tuple row)(hr:Row (true::ks) row) :
  ∃a o vs n as i t,u=.ref a/\s.heap.get? a=some o/\o.cls=.type "tuple"/\o.data=.seq vs n/\ReadsAll s.heap vs.toList row as/\vs[0]?=some (.int i t):=by
 subst e;obtain⟨as,z⟩:=h.reads I r;cases z with
 | @tuple a o vs n _ _ e1 e2 e3 z=>
  obtain⟨i,rr,rfl,_⟩:=hr;have z':=z;generalize hv:vs.toList=vl at z;cases z with
  | cons ra rb=>
   cases ra with
   | int _ t=>
    refine(me a o vs n _<|kl i t ⟨rfl,e1,e2,e3,z',?_⟩);rw[<-bv,hv];rfl
theorem ahd(I:Inv X aE σ H s){ks:U Bool}:∀{ds:U Z9} {xs:U V} {us:U aA},RepAll H ds xs->Vals xs us->Rows ks ds->∃fs:U aA,PySem.W.KatTups s.heap us fs/\fs.length=ds.length/\∀v∈fs,∃i t,v=aA.int i t
 | [],xs,us,h,r,_=>by cases (show xs=[]from h);cases r;exact⟨[],trivial,rfl,λv hv=>by cases hv⟩
 | d::ds,xs,us,h,r,hr=>by
  obtain⟨x,t,e,h1,h2⟩:=h;subst e;cases r with
  | cons r1 r2=>
   obtain⟨row,e,mQ⟩:=hr d ak;obtain⟨a,o,vs,n,as,i,tk,rfl,e1,e2,e3,_,e4⟩:=aox I h1 r1 e mQ;obtain⟨fs,k1,k2,k3⟩:=ahd I h2 r2 λd hd=>hr d<|ao _ hd;refine⟨.int i tk::fs,PySem.W.KatTups.cons e1 e2 e3 e4 k1,by rw[ba,ba,k2],λv hv=>?_⟩;rcases ap.mp hv with rfl|hv
   .exact(kl i tk rfl)
   .exact k3 v hv
theorem KatTups.keeps{h h':Heap}(k:∀b o,h.get? b=some o->h'.get? b=some o):∀{vs fs:U aA},PySem.W.KatTups h vs fs->PySem.W.KatTups h' vs fs
 | [],[],_=>trivial
 | v::vs,f::fs,x=>by obtain⟨⟨a,o,xs,n,e,e1,e2⟩,r⟩:=x;exact⟨(li a o xs n ⟨e,k _ _ e1,e2⟩),KatTups.keeps k r⟩
 | [],_::_,x=>x.elim
 | _::_,[],x=>x.elim
end
end L3
namespace L3
open PySem PySem.Spec PyProof.Rows
def ak3(a v:aA):zU "min" ⟨[a],[(ae "default",v)]⟩:=by unfold zU;kernel_rfl
section
variable{prog:aJ}{w:aL}{A:Around}{R:jL->aC->Prop}{I:aF}{fp wr:U aF}{n:Nat}{P:Nat->aA->Prop}{St:Nat->Heap->Prop}
theorem akt(kw:U (Str×aA))(W:gQ prog w A.in1 I fp wr n P St)(bt:Nat->Nat->Bool)(pK:CmpOf prog w A.in1 .Lt P bt)(S:aF)(iM:S∉fp) :
  ∀(k j:Nat)(s:aC)(vb:aA)(c:Nat),n-(j+1)=k->j+1<=n->St (j+1) s.heap->P (eA bt j) vb->
  s.heap.get? S=some {cls:=.type "list",dict:=none,data:=.seq #[vb,vb] c,slots:=#[]}->
  (∀v h' tk,P (eA bt<|n-1) v->(∀b o,b∉wr->b≠S->s.heap.get? b=some o->h'.get? b=some o)->R (.ok<|.ret v) {s with heap:=h',toks:=tk})->
  cI (aI prog w) A (.builtin "min.loop" ⟨[.ref I,.none,.ref S],kw⟩) R s:=by
 have uZ:S∉wr:=λh=>iM<|W.sub _ h;have nm:(cX "min" ++ cX ".loop" : String)="min.loop":=by decide
 intro k;induction k with
 | zero=>
  intro j s vb c hk hj bJ Dv hS hR;have nP:j+1=n:=by omega
  refine et F.entry_min_loop ?_;rw[dn ji _];show aH _ A.in1 (jF (.ref S) >>= _) _ _ s;refine ab<|jm hS rfl ?_;show aH _ A.in1 (tN (bA<|.ref I) _ >>= _) _ _ s;refine ab<|fH<|W.done s _ _ (nP▸bJ) λh' tk dX=>?_;have hG:=dX S _ uZ hS;show aH _ A.in1 (jD S (λ_=>#[]) >>= _) _ _ _;refine ab<|cG hG rfl<|ab<|dR<|am ?_;exact hR vb _ tk (by rw[<-nP];exact Dv) λb o nS sX e=>(cm _ _<|Ne.symm sX).trans (dX b o nS e)
 | succ k ih=>
  intro j s vb c hk hj bJ Dv hS hR;have bL:j+1<n:=by omega
  refine et F.entry_min_loop ?_;rw[dn ji _];show aH _ A.in1 (jF (.ref S) >>= _) _ _ s;refine ab<|jm hS rfl ?_;show aH _ A.in1 (tN (bA<|.ref I) _ >>= _) _ _ s;refine ab<|fH<|W.item (j+1) s _ _ bL bJ λv h' tk hP jR dX=>?_;have hG:=dX S _ uZ hS;show aH _ A.in1 (tN (fX [v,v]<|jN .Lt v vb >>= _) _ >>= _) _ _ _;refine ab<|fH<|db<|ab<|pK (j+1) (eA bt j) v vb _ _ _ hP Dv ?_;refine ab<|db<|dz ?_;refine ab<|dR<|am ?_;cases hb:bt (j+1) (eA bt j)with
  | true=>
   simp only[if_true];refine ab<|cG hG rfl<|ab<|dR ?_;rw[nm];refine am ⟨iw ji _,ih (j+1) _ v _ (by omega) bL (W.frame _ _ _ jR λb F8 o e=>?_) (by simp only[eA,hb,if_true];exact hP) (cu _ hG rfl) λv' xC nX qW pG=>?_⟩
   .exact(cm _ _ λh:S=b=>iM<|by rw[h];exact F8).trans e
   .exact hR v' xC nX qW λb o nS sX e=>pG b o nS sX ((cm _ _<|Ne.symm sX).trans (dX b o nS e))
  | false=>
   simp only[a9,if_false];refine ab<|dR ?_;rw[nm];refine am ⟨iw ji _,ih (j+1) _ vb c (by omega) bL jR (by simp only[eA,hb,a9,if_false];exact Dv) hG λv' xC nX qW pG=>?_⟩;exact hR v' xC nX qW λb o nS sX e=>pG b o nS sX<|dX b o nS e
def ahf(kw:U (Str×aA))(W:gQ prog w A.in1 I fp wr n P St)(bt:Nat->Nat->Bool)(pK:CmpOf prog w A.in1 .Lt P bt)(S:aF)(iM:S∉fp)(hn:0<n){s:aC}{c:Nat}(bJ:St 0 s.heap)
  (hS:s.heap.get? S=some {cls:=.type "list",dict:=none,data:=.seq #[] c,slots:=#[]})
  (hR:∀v h' tk,P (eA bt<|n-1) v->(∀b o,b∉wr->b≠S->s.heap.get? b=some o->h'.get? b=some o)->R (.ok<|.ret v) {s with heap:=h',toks:=tk}) :
  cI (aI prog w) A (.builtin "min.loop" ⟨[.ref I,.none,.ref S],kw⟩) R s:=by
 have uZ:S∉wr:=λh=>iM<|W.sub _ h;have nm:(cX "min" ++ cX ".loop" : String)="min.loop":=by decide
 refine et F.entry_min_loop ?_;rw[dn ji _];show aH _ A.in1 (jF (.ref S) >>= _) _ _ s;refine ab<|jm hS rfl ?_;show aH _ A.in1 (tN (bA<|.ref I) _ >>= _) _ _ s;refine ab<|fH<|W.item 0 s _ _ hn bJ λv h' tk hP jR dX=>?_;have hG:=dX S _ uZ hS;show aH _ A.in1 (jD S (λ_=>#[v,v]) >>= _) _ _ _;refine ab<|cG hG rfl ?_;rw[nm];refine am ⟨iw ji _,akt kw W bt pK S iM _ 0 _ v _ rfl hn (W.frame _ _ _ jR λb F8 o e=>?_) hP (cu _ hG rfl) λv' xC nX qW pG=>?_⟩
 .exact(cm _ _ λh:S=b=>iM<|by rw[h];exact F8).trans e
 .exact hR v' xC nX qW λb o nS sX e=>pG b o nS sX<|(cm _ _<|Ne.symm sX).trans (dX b o nS e)
end
section
variable{prog:aJ}{w:aL}{A:Around}{E:aA->aC->Prop}{s:aC}
theorem afn{x d:aA}{Q:aA->aC->Prop}
  (h:aH (aI prog w) A.in1 (gW x) (λit s₂=>∃I fp wr n P St bt,it=.ref I/\gQ prog w A.in1 I fp wr n P St/\St 0 s₂.heap/\(∀b∈fp,b<s₂.heap.objs.size)/\0<n/\CmpOf prog w A.in1 .Lt P bt/\
   ∀v h' tk,P (eA bt<|n-1) v->(∀b o,b∉wr->s₂.heap.get? b=some o->h'.get? b=some o)->Q v {s₂ with heap:=h',toks:=tk}) E s) :
  aH (aI prog w) A (call (.builtin "min") [x] [(ae "default",d)]) Q E s:=by
 have nm:(cX "min" ++ cX ".loop" : String)="min.loop":=by decide
 refine gT<|dA F.plain_min F.entry_min ?_;simp only[DF,F.kind_min];have go:aH (aI prog w) A.in1 (Builtin.«min» ⟨[x],[(ae "default",d)]⟩) (λfin s'=>match fin with
   | .done f=>(match (Except.ok f:jL)with|.ok (.ret v)=>Q v s'|.ok _=>False|.error e=>E e s')
   | .again c'=>c'.quiet=true/\cI (aI prog w) A c' (λr s'=>match r with|.ok (.ret v)=>Q v s'|.ok _=>False|.error e=>E e s') s') E s:=by
  show aH _ A.in1 (Builtin.Builtins.bindParams "min" ["key","default"] 0 ⟨[],[(ae "default",d)]⟩ >>= _) _ _ s;refine ab<|dQ (show Builtin.Builtins.bindParams "min" ["key","default"] 0 ⟨[],[(ae "default",d)]⟩=bQ [none,some d]from rfl) ?_;refine ab<|am ?_;refine ab<|jj h (λit s₂ h₂=>?_) λ_ _ e=>e;obtain⟨I,fp,wr,n,P,St,bt,rfl,W,bJ,uT,hn,pK,hQ⟩:=h₂;refine ab<|fq ?_;have iM:s₂.heap.objs.size∉fp:=λhm=>gx _<|uT _ hm;rw[nm];refine am ⟨iw ji _,ahf _ W bt pK s₂.heap.objs.size iM hn (W.frame _ _ _ bJ λb _ o e=>ai _ e) (a0 _ rfl) λv h' tk hP hk=>?_⟩;exact hQ v h' tk hP λb o nS e=>hk b o nS (ca<|bc e)<|ai _ e
 cases Fi:Manifest.signature? "min" with
 | none=>exact am go
 | some sig=>
  have bU:Bind.checkArgs "min" sig ⟨[x],[(ae "default",d)]⟩=bQ ():=by have:=ak3 x d;simpa only [zU,Fi]using this
  simp only[bU];exact am go
def aiv{l:aF}{d:aA}{vs:U aA}{ns:U Int}{Q:aA->aC->Prop}(hh:A.handled=none)(hl:s.heap.IsList l vs.toArray)(hi:bO vs ns)(dG:0<ns.length)
  (h:∀h' M (t:gR) tk,(∀b o,s.heap.get? b=some o->h'.get? b=some o)->M∈ns->(∀a,a∈ns->M<=a)->Q (.int M t) {s with heap:=h',toks:=tk}) :
  aH (aI prog w) A (call (.builtin "min") [.ref l] [(ae "default",d)]) Q E s:=by
 obtain⟨xs,e⟩:=hi.allInts.items;have iF:ns=xs.toList.map (·.1):=by rw[<-hi.numsOf,<-nK,<-e]
 have hsz:0<xs.size:=by have h3:=dG;rw[iF,ac,a8]at h3;exact h3
 rw[e]at hl;refine afn<|iter_intList hl λs₂ e st uT hlI=>?_;subst e;refine(me _ _ _ _ _<|kl _ _ ⟨rfl,gQ.list (A:=A.in1) hh _ l hlI<|uC xs,st,uT,by simpa [uC]using hsz,CmpOf.ints_lt (AA xs) λ_ _=>jP,λv h' tk hP hk=>?_⟩);have hv:(uC xs)[eA (λi j=>decide<|AA xs i<AA xs j) (xs.size-1)]?=some v:=by simpa [uC]using hP
 obtain⟨t,rfl⟩:=jP hv;obtain⟨h1,h2⟩:=argBest_lt (AA xs)<|xs.size-1;refine h _ _ t tk (old_kept hk) ?_ λa ha=>?_
 .rw[iF,iJ];exact getD_mem<|by rw[ac,a8];omega
 .rw[iF]at ha;obtain⟨j,hj,rfl⟩:=mem_getD ha;rw[ac,a8]at hj;rw[<-iJ];exact h2 j<|by omega
def aji{l:aF}{vs:U aA}{ns:U Int}{Q:aA->aC->Prop}(hh:A.handled=none)(hl:s.heap.IsList l vs.toArray)(hi:bO vs ns)(dG:0<ns.length)
  (h:∀h' M (t:gR) tk,(∀b o,s.heap.get? b=some o->h'.get? b=some o)->M∈ns->(∀a,a∈ns->M<=a)->Q (.int M t) {s with heap:=h',toks:=tk}) :
  aH (aI prog w) A (call (.builtin "min") [.ref l]) Q E s:=by
 obtain⟨xs,e⟩:=hi.allInts.items;have iF:ns=xs.toList.map (·.1):=by rw[<-hi.numsOf,<-nK,<-e]
 have hsz:0<xs.size:=by have h3:=dG;rw[iF,ac,a8]at h3;exact h3
 rw[e]at hl;refine min_intList hh hl hsz λv h' tk hv hk=>?_;obtain⟨t,rfl⟩:=jP hv;obtain⟨h1,h2⟩:=argBest_lt (AA xs)<|xs.size-1;refine h _ _ t tk hk ?_ λa ha=>?_
 .rw[iF,iJ];exact getD_mem<|by rw[ac,a8];omega
 .rw[iF]at ha;obtain⟨j,hj,rfl⟩:=mem_getD ha;rw[ac,a8]at hj;rw[<-iJ];exact h2 j<|by omega
end
end L3
namespace L3
open PySem PySem.Spec PyProof.Rows L2
noncomputable def oz:Expr->Bool
 | .Starred _ _=>false
 | _=>true
def m7{e:Expr}{es:U Expr}{env:qE}(h:oz e=true):aM (e::es) env=(false,bR e env)::aM es env:=by cases e<;>first|rfl|exact absurd h aj
theorem xl{pos:dE}{env:qE}:∀{es:U Expr},es.all oz=true->(bM pos<|aM es env).any (·.1)=false
 | [],_=>rfl
 | e::es,h=>by rw[List.all_cons,cb]at h;rw[m7 h.1];show(false||(bM pos<|aM es env).any (·.1))=false;rw[xl h.2];rfl
def j8{X:Cx}{e:Expr}{es:U Expr}{te:TE}{t:TA}(ha:PE X e te)(hr:PA X es t)(h:oz e=true:=by rfl):PA X (e::es) (ye te t):=aqh ha hr<|m7 h
def kq{X:Cx}{x:Str}{p pos:dE}{e:Expr}{es:U Expr}{t:TA}{id:String}{r:U V->Hp->VK->Prop}(hc:qp X (.builtin id) r)(hg:Gl X x)(hm:X.mg x=none)(hv:cA x=some (.builtin id))(ha:PA X (e::es) t)
  (hn:x≠"__name__":=by decide) (pJ:(x==("__debug__" : Str))=false:=by decide) (h1:oz e=true:=by rfl) (h2:es.all oz=true:=by rfl):PE X (.Call (.Name x p) (e::es) [] pos) (tCB r t):=
 anq hc hg hm hv ha hn pJ (m7 h1) (xl h2)
def wn{X:Cx}{x:Str}{p pos:dE}{e:Expr}{es:U Expr}{t:TA}{T:String}{r:U V->Hp->VK->Prop}(hc:qp X (.type T) r)(hg:Gl X x)(hm:X.mg x=none)(hv:cA x=some (.type T))(ha:PA X (e::es) t)
  (hn:x≠"__name__":=by decide) (pJ:(x==("__debug__" : Str))=false:=by decide) (h1:oz e=true:=by rfl) (h2:es.all oz=true:=by rfl):PE X (.Call (.Name x p) (e::es) [] pos) (tCB r t):=
 ak1 hc hg hm hv ha hn pJ (m7 h1) (xl h2)
def rQ{X:Cx}{tg a:Expr}{ta:TA}{p pos:dE}(hg:Gl X "range")(hm:X.mg "range" = none)(ha:PA X [a] ta)(h:oz a=true:=by rfl):PI X tg (.Call (.Name "range" p) [a] [] pos) (asb ta):=
 alq hg hm ha (m7 h)
def DO{X:Cx}{tg a b:Expr}{ta:TA}{p pos:dE}(hg:Gl X "range")(hm:X.mg "range" = none)(ha:PA X [a,b] ta)(h:oz a=true:=by rfl)(h2:oz b=true:=by rfl):PI X tg (.Call (.Name "range" p) [a,b] [] pos) (atj ta):=
 ajj hg hm ha (by rw[m7 h,m7 h2];rfl) (by rw[m7 h2];rfl)
def Fn(P:aJ)(w:aL)(K:au)(mg:Str->Option aA)(base:Heap)(x:Str)(k:Nat)(ps:U Str)(sp:Sp):Prop:=
 ∃f fd,p9 P w K mg base CX0 k f fd ps sp/\mg x=some (.ref f)/\PySem.W.keepIn K (.ref f)=true/\Binds K fd ps []
section
variable{X:Cx}{k j:Nat}{ps:U Str}{sp:Sp}{x:Str}{p pos oK:dE}{e e2:Expr}{es:U Expr}{t tk:TA}{te:TE}
def k8(F:Fn X.prog X.w X.K X.mg X.base x k ps sp)(hr:Room j X.A)(hk:k<=j)(hg:Gl X x)
  (ha:PA X (e::es) t) (pJ:(x==("__debug__" : Str))=false:=by decide) (h1:oz e=true:=by rfl) (h2:es.all oz=true:=by rfl) :
  PE X (.Call (.Name x p) (e::es) [] pos) (ass sp [] E0 t):=by
 obtain⟨f,fd,F,m,kp,b⟩:=F;exact apx F (hr.mono hk) hg m kp b .nil awg ha pJ (m7 h1)<|xl h2
def aw5:U V->Hp->VK->Prop:=λxs H Q=>∃q,∃ns:U Int,xs=[.ref q]/\H q=some (.lst<|ns.map V.int)/\0<ns.length/\∀M,M∈ns->(∀a∈ns,M<=a)->Q (.int M) H
def wy(hc:X.calm=true):qp X (.builtin "min") aw5:=by intro aE s σ H xs us Q I r h;obtain⟨q,ns,rfl,hq,hn,h⟩:=h;obtain⟨u,rfl,r1⟩:=qv r;cases (show u=aA.ref q from r1);obtain⟨its,rv,pl,hz⟩:=I.list<|SqL.of (K:=X.K) hq;exact aji (I.ok.hd hc) pl.isList (uh rv) hn λh' M t tk k h1 h2=>(kl (.int M) H ⟨I.kept k,⟨_,rfl⟩,h M h1 h2⟩)
def awo(t tk:TA):TE:=λσ H Q=>t σ H λvs H1=>tk σ H1 λzs H2=>zs.length=1/\aw5 vs H2 Q
theorem aig(hc:X.calm=true)(hg:Gl X "min")(hm:X.mg "min" = none)(ha:PA X [e] t)(FV:PK X [⟨some "default",e2,oK⟩] tk)
  (he:bM pos (aM [e] X.env)=(false,bR e X.env)::bM pos (aM [] X.env):=by rfl) (eF:(bM pos<|aM [e] X.env).any (·.1)=false:=by rfl) :
  PE X (.Call (.Name "min" p) [e] [⟨some "default",e2,oK⟩] pos) (awo t tk):=by
 intro aE s σ H Q I h;refine f9 (so I hg hm dP ?_ (by decide)<|by decide);refine callWith_kw (thn (ha pos aE s σ H _ I h) λus s1 ⟨vs,H1,I1,r,q⟩=>thn (FV pos aE s1 σ H1 _ I1 q) λws s2 ⟨zs,H2,I2,rz,yS,q2⟩=>?_) he eF;obtain⟨d,rfl⟩:∃d,ws=[d]:=by
  have hl:ws.length=1:=rz.length.symm.trans yS
  match ws,hl with
  | [d],_=>exact⟨d,rfl⟩
 obtain⟨l,ns,rfl,hq,hn,hQ⟩:=q2;obtain⟨u,rfl,r1⟩:=qv r;cases (show u=aA.ref l from r1);obtain⟨its,rv,pl,hz⟩:=I2.list<|SqL.of (K:=X.K) hq;exact aiv (I2.ok.hd hc) pl.isList (uh rv) hn λh' M t tk k h1 h2=>(kl (.int M) H2 ⟨I2.kept k,⟨_,rfl⟩,hQ M h1 h2⟩)
end
def D9{X:Cx}{N:U Str}{scope:cF}{z:CZ}{es:U Expr}{k:Nat}{pos:dE}{t:TGs}{n:Nat}(hc:X.calm=true)(h:PGs (mr X N scope z) es t)
  (hn:(bN es (mr X N scope z).env).length=n:=by rfl) (bJ:(bN es (mr X N scope z).env).findIdx? (·.1)=none:=by rfl):PG (mr X N scope z) (.Tuple es k pos) (zP X.K n t):=
 wa (X:=mr X N scope z) hc h hn bJ
section
variable{X:Cx}{N:U Str}{scope:cF}{z:CZ}
def pb:IxR (mr X N scope z) (vH X.K):=ml (X:=mr X N scope z)
def IW:IxR (mr X N scope z) (aw9 X.K):=m9 (X:=mr X N scope z)
def anc:SlR (mr X N scope z) (aw6 X.K):=Cq (X:=mr X N scope z)
end
section
variable{K:au}{a D:aF}{xs:U V}{sl:U (Option Nat)}{g:TG}{tt:TT}{te:TE}{σ:L2.St}{H1:Hp}{Q:VK}
def Nx(D:aF)(i:Nat)(Pv:Nat->U V->Hp->Prop):Hp->Prop:=λH'=>∃ys,H' D=some (.lst ys)/\ys.length<=i+1/\Pv (i+1) ys H'
def ng{i:Nat}{Pv:Nat->U V->Hp->Prop}{H:Hp}{ys:U V}{y:V}(hi:i<1000)(hD:H D=some (.lst ys))(hl:ys.length<=i)(h:Pv (i+1) (ys++[y]) (upd H D<|.lst<|ys++[y])) :
  ∃xs,H D=some (.lst xs)/\xs.length<aG/\Nx D i Pv (upd H D<|.lst<|xs++[y]):=
 (my ys hD (lc<|by lia) (ys++[y]) ⟨j5,by rw[be,cv];lia,h⟩)
def D8(J:It)(n:Nat)(Pv:Nat->U V->Hp->Prop)(h0:Pv 0 [] (upd H1 D<|.lst []))
  (sT:∀i ys H,i<n->Pv i ys H->J.go i H) (bJ:∀ys H,Pv n ys H->J.stop n H)
  (hs:∀i x ys H H',i<n->J.yld i H x H'->H D=some (.lst ys)->ys.length<=i->Pv i ys H->g x (rj sl σ) H' λσ2 H2=>Agree (rj sl σ) σ2/\tt σ2 H2 λb H3=>
   if b=true then te σ2 H3 λy H4=>∃xs,H4 D=some (.lst xs)/\xs.length<aG/\Nx D i Pv (upd H4 D<|.lst<|xs++[y])else Nx D i Pv H3)
  (hd:∀ys H,H D=some (.lst ys)->ys.length<=n->Pv n ys H->Q (.ref D) H):rM J sl g tt te σ H1 D Q:=by
 refine⟨λi m H=>m=n-i/\i<=n/\∃ys,H D=some (.lst ys)/\ys.length<=i/\Pv i ys H,(my n (by simp) (dv _) ([]) ⟨j5,aq _,h0⟩),?_⟩;rintro i m H ⟨rfl,hi,ys,hy,hl,p⟩;by_cases bL:i<n
 .refine .inr ⟨sT i ys H bL p,Nx D i Pv,λH' ⟨Ai,e1,e2,e3⟩=>⟨n-(i+1),by lia,rfl,bL,Ai,e1,e2,e3⟩,λx H' y=>hs i x ys H H' bL y hy hl p⟩
 .have e:i=n:=by lia
  subst e;exact .inl ⟨bJ ys H p,hd ys H hy hl p⟩
def ni(Pv:Nat->U V->Hp->Prop)(h0:Pv 0 [] (upd H1 D<|.lst []))(hl:∀i ys H,Pv i ys H->SqL K H a xs)
  (hs:∀i x ys H,xs[i]?=some x->i<xs.length->H D=some (.lst ys)->ys.length<=i->Pv i ys H->g x (rj sl σ) H λσ2 H2=>Agree (rj sl σ) σ2/\tt σ2 H2 λb H3=>
   if b=true then te σ2 H3 λy H4=>∃xs,H4 D=some (.lst xs)/\xs.length<aG/\Nx D i Pv (upd H4 D<|.lst<|xs++[y])else Nx D i Pv H3)
  (hd:∀ys H,H D=some (.lst ys)->ys.length<=xs.length->Pv xs.length ys H->Q (.ref D) H):rM (Itl K a) sl g tt te σ H1 D Q:=by
 refine D8 (Itl K a) xs.length Pv h0 (λi ys H hi p=>(kl xs (xs[i]) ⟨hl i ys H p,by simp[hi]⟩)) (λys H p=>⟨xs,hl _ ys H p,aq _⟩) (λi x ys H H' hi y hD aV p=>?_) hd;obtain⟨e,y⟩:=y;subst e;exact hs i x ys _ (y xs<|hl i ys _ p) hi hD aV p
def p8(Pv:Nat->U V->Hp->Prop)(h0:Pv 0 [] (upd H1 D<|.lst []))(hl:∀i ys H,Pv i ys H->SqT K H a xs)
  (hs:∀i x ys H,xs[i]?=some x->i<xs.length->H D=some (.lst ys)->ys.length<=i->Pv i ys H->g x (rj sl σ) H λσ2 H2=>Agree (rj sl σ) σ2/\tt σ2 H2 λb H3=>
   if b=true then te σ2 H3 λy H4=>∃xs,H4 D=some (.lst xs)/\xs.length<aG/\Nx D i Pv (upd H4 D<|.lst<|xs++[y])else Nx D i Pv H3)
  (hd:∀ys H,H D=some (.lst ys)->ys.length<=xs.length->Pv xs.length ys H->Q (.ref D) H):rM (Itt K a) sl g tt te σ H1 D Q:=by
 refine D8 (Itt K a) xs.length Pv h0 (λi ys H hi p=>(kl xs (xs[i]) ⟨hl i ys H p,by simp[hi]⟩)) (λys H p=>⟨xs,hl _ ys H p,aq _⟩) (λi x ys H H' hi y hD aV p=>?_) hd;obtain⟨e,y⟩:=y;subst e;exact hs i x ys _ (y xs<|hl i ys _ p) hi hD aV p
def rm{lo:Int}{n:Nat}(Pv:Nat->U V->Hp->Prop)(h0:Pv 0 [] (upd H1 D<|.lst []))
  (hs:∀i ys H,i<n->H D=some (.lst ys)->ys.length<=i->Pv i ys H->g (.int<|lo+i) (rj sl σ) H λσ2 H2=>Agree (rj sl σ) σ2/\tt σ2 H2 λb H3=>
   if b=true then te σ2 H3 λy H4=>∃xs,H4 D=some (.lst xs)/\xs.length<aG/\Nx D i Pv (upd H4 D<|.lst<|xs++[y])else Nx D i Pv H3)
  (hd:∀ys H,H D=some (.lst ys)->ys.length<=n->Pv n ys H->Q (.ref D) H):rM (Itr lo n) sl g tt te σ H1 D Q:=by
 refine D8 (Itr lo n) n Pv h0 (λi ys H hi p=>hi) (λys H p=>aq _) (λi x ys H H' hi y hD aV p=>?_) hd;obtain⟨e,e2⟩:=y;subst e e2;exact hs i ys _ hi hD aV p
end
def Ex(W:U aF)(H H':Hp):Prop:=∀b o,b∉W->H b=some o->H' b=some o
def Ex.refl(W:U aF)(H:Hp):Ex W H H:=λ_ _ _ h=>h
def Ex.trans{W:U aF}{H H1 H2:Hp}(a:Ex W H H1)(b:Ex W H1 H2):Ex W H H2:=λc o hc h=>b c o hc<|a c o hc h
def Ex.of_same{W:U aF}{H H':Hp}(a:Same H H'):Ex W H H':=λc o _ h=>a c o h
def Ex.fresh{W:U aF}{H:Hp}{p:aF}{o:HO}(h:H p=none):Ex W H (upd H p o):=λb u _ q=>by rw[kg (l7 q h)];exact q
theorem Ex.upd{W:U aF}{H:Hp}{p:aF}{o:HO}(h:p∈W):Ex W H (upd H p o):=λb u hb q=>by rw[kg (show b≠p from λe=>hb<|by rw[e];exact h)];exact q
def Ex.new{W:U aF}{H H':Hp}{p:aF}{o:HO}(a:Ex W H H')(h:H p=none):Ex W H (L2.upd H' p o):=λb u hb q=>by rw[kg (l7 q h)];exact a b u hb q
def Ex.tk{W:U aF}{H H':Hp}(a:Ex W H H')(h:∀b∈W,∃xs,H b=some (.lst xs)):Tk H H':=λb xs q=>a b _ (λhb=>by obtain⟨ys,e⟩:=h b hb;rw[q]at e;cases e) q
def Ex.one{st:aF}{H H':Hp}{xs:U V}(a:Ex [st] H H')(h:H st=some (.lst xs)):Tk H H':=a.tk λb hb=>⟨xs,by rw[ar.mp hb];exact h⟩
def Ex.at{st:aF}{H H':Hp}{b:aF}{o:HO}(a:Ex [st] H H')(hb:b≠st)(h:H b=some o):H' b=some o:=a b o (by simpa using hb) h
def qh{H:Hp}{p b:aF}{o:HO}(h:upd H p o b=none):b≠p/\H b=none:=by
 by_cases e:b=p
 .subst e;rw[j5]at h;cases h
 .rw[kg e]at h;exact⟨e,h⟩
def _root_.L2.Same.new{H H':Hp}{p:aF}{o:HO}(a:Same H H')(h:H p=none):Same H (upd H' p o):=λb u q=>by rw[kg (l7 q h)];exact a b u q
def _root_.L2.Same.fresh{H:Hp}{p:aF}(o:HO)(h:H p=none):Same H (upd H p o):=(Same.refl H).new h
def Cells(cs:U Z9):Prop:=∀d∈cs,∃r c:Int,d=.tuple [.int r,.int c]
def Spots(ds:U Z9):Prop:=∀d∈ds,∃(r c:Int)(x:Str),d=.tuple [.int r,.int c,.str x]
theorem p6:∀{ds:U Z9},(∀d∈ds,imm d=true)->oo ds=true
 | [],_=>rfl
 | d::ds,h=>by show(imm d&&oo ds)=true;rw[h d ak,p6 λe he=>h e<|ao _ he];rfl
def Cells.imm{cs:U Z9}(h:Cells cs):oo cs=true:=p6 λd hd=>by obtain⟨r,c,rfl⟩:=h d hd;rfl
def Spots.imm{ds:U Z9}(h:Spots ds):oo ds=true:=p6 λd hd=>by obtain⟨r,c,x,rfl⟩:=h d hd;rfl
def am0{H:Hp}{r c:Int}{v:V}(h:Rep H (.tuple [.int r,.int c]) v):∃a,v=.ref a/\H a=some (.tup [.int r,.int c]):=by obtain⟨a,xs,e,ha,x1,r1,e1,h1,x2,r2,e2,h2,e3⟩:=h;cases (show x1=.int r from h1);cases (show x2=.int c from h2);cases (show r2=[]from e3);subst e1 e2;exact⟨a,e,ha⟩
def zq{H:Hp}{r c:Int}{x:Str}{v:V}(h:Rep H (.tuple [.int r,.int c,.str x]) v):∃a,v=.ref a/\H a=some (.tup [.int r,.int c,.str x])/\ju x=true:=by obtain⟨a,xs,e,ha,x1,r1,e1,h1,x2,r2,e2,h2,x3,r3,e3,h3,e4⟩:=h;cases (show x1=.int r from h1);cases (show x2=.int c from h2);cases (show x3=.str x from h3.1);cases (show r3=[]from e4);subst e1 e2 e3;exact⟨a,e,ha,h3.2⟩
def o8{H:Hp}{a:aF}{r c:Int}(h:H a=some (.tup [.int r,.int c])):Rep H (.tuple [.int r,.int c]) (.ref a):=(nh a _ rfl h _ _ rfl rfl _ ⟨_,rfl,rfl,rfl⟩)
def vn{H:Hp}{a:aF}{r c:Int}{x:Str}(h:H a=some (.tup [.int r,.int c,.str x]))(hx:ju x=true):Rep H (.tuple [.int r,.int c,.str x]) (.ref a):=
 (nh a _ rfl h _ _ rfl rfl _<|my _ rfl rfl _ ⟨_,rfl,⟨rfl,hx⟩,rfl⟩)
theorem Spots.at{H:Hp}{ds:U Z9}{xs:U V}{i:Nat}{v:V}(h:Spots ds)(r:RepAll H ds xs)(e:xs[i]?=some v) :
  ∃(a:aF)(p q:Int)(x:Str),v=.ref a/\H a=some (.tup [.int p,.int q,.str x])/\ju x=true/\ds[i]?=some (.tuple [.int p,.int q,.str x]):=by
 obtain⟨d,e1,e2⟩:=r.at e;obtain⟨p,q,x,rfl⟩:=h d<|ah e1;obtain⟨a,e3,e4,e5⟩:=zq e2;exact(li a p q x ⟨e3,e4,e5,e1⟩)
noncomputable def v7:Z9->Int
 | .tuple (.int r::_)=>r
 | _=>0
noncomputable def wg:Z9->Int
 | .tuple (_::.int c::_)=>c
 | _=>0
noncomputable def x9:U Int->Int
 | []=>0
 | [a]=>a
 | a::b::r=>if a<=x9 (b::r)then a else x9 (b::r)
theorem vv:∀{ns:U Int},0<ns.length->x9 ns∈ns
 | [],h=>by simp at h
 | [a],_=>by simp[x9]
 | a::b::r,_=>by
  unfold x9;split
  .exact ak
  .exact ao _<|vv<|by simp
theorem ym:∀{ns:U Int},∀a∈ns,x9 ns<=a
 | [],a,h=>by cases h
 | [a],b,h=>by
  have e:b=a:=by simpa using h
  rw[e];exact Int.le_refl _
 | a::b::r,x,h=>by
  unfold x9;rcases ap.mp h with e|h
  .rw[e];split
   .exact Int.le_refl _
   .lia
  .have:=ym (ns:=b::r) x h;split
   .lia
   .exact this
def um{ns:U Int}{M:Int}(h1:M∈ns)(h2:∀a∈ns,M<=a):M=x9 ns:=by have hp:0<ns.length:=List.length_pos_of_mem h1;have a1:=h2 _<|vv hp;have a2:=ym M h1;lia
noncomputable def sj(t l:Int):Z9->Z9
 | .tuple [.int r,.int c,.str x]=>.tuple [.int (r-t),.int<|c-l,.str x]
 | d=>d
noncomputable def og(ds:U Z9):U Z9:=ds.map<|sj (x9<|ds.map v7)<|x9<|ds.map wg
section
variable{K:au}{a:aF}{xs:U V}{ds:U Z9}{σ:L2.St}{H:Hp}{Q:VK}
def kc{α β:Type}(f:α->β){l:List α}{i:Nat}{x:α}(h:l[i]?=some x):(l.take<|i+1).map f=(l.take i).map f++[f x]:=by rw[jd,h];simp
def adk(j:Int)(pr:Z9->Int)(hj:∀(r c:Int)(x:Str),atI [V.int r,.int c,.str x] j=some (.int<|pr<|.tuple [.int r,.int c,.str x]))
  (hσ:σ[0]?=some (some<|.ref a)) (ha:H a=some (.lst xs)) (hr:RepAll H ds xs) (hs:Spots ds) (hl:ds.length<64)
  (q:∀D H',Same H H'->H' D=some (.lst<|(ds.map pr).map V.int)->Q (.ref D) H') :
  rL (B9 K<|yb 0) [none] (rn 0) sq (tOp (vH K) (yb 0)<|tC<|.int j) σ H Q:=by
 have aR:=hr.length;refine(lu _ hσ a ⟨rfl,⟨_,SqL.of ha⟩,λD hD=>?_⟩);refine ni (xs:=xs) (λi ys H'=>Same H H'/\ys=((ds.take i).map pr).map V.int) ⟨Same.fresh _ hD,rfl⟩ (λi ys H' p=>SqL.of<|p.1 _ _ ha) (λi x ys H' hx hi aQ aV p=>?_) λys H' aQ aV p=>?_
 .obtain⟨p1,rfl⟩:=p;obtain⟨b,r,c,z,rfl,hb,hz,hd⟩:=hs.at hr hx;refine⟨Agree.set (Agree.refl _) rfl,?_⟩;dsimp only[sq];refine mh ?_;refine(j1 _ rfl b _ _ _ ⟨rfl,rfl,SqT.of<|p1 _ _ hb,hj r c z,ng (by lia) aQ aV ⟨p1.new hD,?_⟩⟩);rw[kc pr hd,a7];rfl
 .obtain⟨p1,rfl⟩:=p;refine q D H' p1 ?_;rw[aQ,av<|by lia]
def ah0{t l:Int}(hσ:σ[0]?=some (some<|.ref a))(h1:σ[1]?=some (some<|.int t))(h2:σ[2]?=some (some<|.int l))(ha:H a=some (.lst xs))(hr:RepAll H ds xs)(hs:Spots ds)(hl:ds.length<64)
  (q:∀D ys H',Same H H'->H' D=some (.lst ys)->RepAll H' (ds.map<|sj t l) ys->Q (.ref D) H') :
  rL (B9 K<|yb 0) [none,none,none,some 1,some 2] (zP K 3<|yg (rn 0)<|yg (rn 1)<|yg (rn 2) B3) sq
   (B2<|ye (tOp (rI0 λi j=>.int<|i-j) (yb 0)<|yb 3)<|ye (tOp (rI0 λi j=>.int<|i-j) (yb 1)<|yb 4)<|ye (yb 2) zS) σ H Q:=by
 have aR:=hr.length;refine(lu _ hσ a ⟨rfl,⟨_,SqL.of ha⟩,λD hD=>?_⟩);have hp:rj [none,none,none,some 1,some 2] σ=[none,none,none,some<|.int t,some<|.int l]:=by unfold rj;simp[h1,h2]
 refine ni (xs:=xs) (λi ys H'=>Same H H'/\RepAll H' ((ds.take i).map (sj t l)) ys) ⟨Same.fresh _ hD,rfl⟩ (λi ys H' p=>SqL.of<|p.1 _ _ ha) (λi x ys H' hx hi aQ aV p=>?_) λys H' aQ aV p=>?_
 .obtain⟨p1,p2⟩:=p;obtain⟨b,r,c,z,rfl,hb,hz,hd⟩:=hs.at hr hx;rw[hp];refine(nw b _ rfl (SqT.of<|p1 _ _ hb) rfl _ _ rfl _<|m6 _ rfl _ _ ⟨rfl,rfl,?_⟩);refine⟨Agree.set (Agree.set (Agree.set (Agree.refl _) rfl) rfl) rfl,?_⟩;dsimp only[sq];refine mh ?_;refine(o7 _ rfl _ rfl _ _ rfl rfl _ ⟨rfl,(mf _ rfl _ _ rfl rfl _ ⟨rfl,sZ3,λn hn=>?_⟩)⟩);have hnD:D≠n:=λe=>by rw[<-e,aQ]at hn;cases hn
  have hnH:H n=none:=p1.free hn;have im:oo (((ds.take i).map (sj t l))++[.tuple [.int (r-t),.int<|c-l,.str z]])=true:=p6 λd iY=>by
   rcases bn.mp iY with h|h
   .obtain⟨d0,h0,rfl⟩:=aw.mp h;obtain⟨r0,c0,x0,rfl⟩:=hs d0<|gt h0;rfl
   .rw[ar.mp h];rfl
  have pQ:upd H' n (.tup [.int (r-t),.int<|c-l,.str z]) D=some (.lst ys):=by rw[kg hnD];exact aQ
  have mP:Same H' (upd H' n<|.tup [.int (r-t),.int<|c-l,.str z]):=Same.fresh _ hn;have oR:RepAll (upd H' n<|.tup [.int (r-t),.int<|c-l,.str z]) (((ds.take i).map (sj t l))++[.tuple [.int (r-t),.int<|c-l,.str z]]) (ys++[.ref n]):=(p2.same mP).snoc (vn j5 hz);refine ng (by lia) pQ aV ⟨(p1.trans mP).new hD,?_⟩;rw[kc (sj t l) hd];exact oR.tk (Tk.lst pQ) im
 .obtain⟨p1,p2⟩:=p;rw[av (by lia)]at p2;exact q D ys H' p1 aQ p2
end
def abi{ds:U Z9}(hs:Spots ds)(t l:Int):Rows [true,false] (ds.map<|sj t l):=λd hd=>by obtain⟨e,he,rfl⟩:=aw.mp hd;obtain⟨r,c,x,rfl⟩:=hs e he;exact(m6 _ rfl _ _ ⟨rfl,(kl _ _ ⟨rfl,(kl _ _ ⟨rfl,rfl⟩)⟩)⟩)
noncomputable def sLt(x y:Str):Bool:=decide<|x.cps.toList<y.cps.toList
def apc{x y:Str}(h:sLt x y=true):sLt y x=false:=by have h':x.cps.toList<y.cps.toList:=of_decide_eq_true h;exact decide_eq_false<|List.lt_asymm h'
def as5{a b c:Str}(h1:sLt b a=false)(h2:sLt c b=false):sLt c a=false:=by have fQ:a.cps.toList<=b.cps.toList:=of_decide_eq_false h1;have eK:b.cps.toList<=c.cps.toList:=of_decide_eq_false h2;exact decide_eq_false<|List.le_trans fQ eK
def aoe{a b:Str}(h1:sLt a b=false)(h2:sLt b a=false):a=b:=by
 have fQ:b.cps.toList<=a.cps.toList:=of_decide_eq_false h1;have eK:a.cps.toList<=b.cps.toList:=of_decide_eq_false h2;have e:=List.le_antisymm eK fQ;cases a;cases b;simp only at e
 congr
 exact Array.ext' e
def Ch(i j:Int)(r r':U Z9):pj (.int i::r) (.int j::r')=if i=j then pj r r' else decide (i<j):=by
 show(if (i==j)=true then pj r r' else decide (i<j))=_;by_cases h:i=j
 .rw[if_pos h,if_pos<|by rw[h];simp]
 .rw[if_neg h,if_neg<|by simpa using h]
def Cc(x y:Str)(r r':U Z9):pj (.str x::r) (.str y::r')=if x=y then pj r r' else sLt x y:=by
 show(if (x==y)=true then pj r r' else decide (x.cps.toList<y.cps.toList))=_;by_cases h:x=y
 .rw[if_pos h,if_pos<|by rw[h];simp]
 .rw[if_neg h,if_neg<|by simpa using h];rfl
theorem Cd:∀{ks:U Bool} {xs ys:U Z9},Row ks xs->Row ks ys->pj xs ys=true->pj ys xs=false
 | [],xs,ys,h1,h2,h=>by cases (show xs=[]from h1);cases (show ys=[]from h2);rfl
 | true::ks,xs,ys,h1,h2,h=>by
  obtain⟨i,r,rfl,h1⟩:=h1;obtain⟨j,r',rfl,h2⟩:=h2;rw[Ch]at h⊢;by_cases e:i=j
  .rw[if_pos e]at h;rw[if_pos e.symm];exact Cd h1 h2 h
  .rw[if_neg e]at h;rw[if_neg (Ne.symm e)];have:=of_decide_eq_true h;exact decide_eq_false (by omega)
 | false::ks,xs,ys,h1,h2,h=>by
  obtain⟨i,r,rfl,h1⟩:=h1;obtain⟨j,r',rfl,h2⟩:=h2;rw[Cc]at h⊢;by_cases e:i=j
  .rw[if_pos e]at h;rw[if_pos e.symm];exact Cd h1 h2 h
  .rw[if_neg e]at h;rw[if_neg (Ne.symm e)];exact apc h
theorem B6:∀{ks:U Bool} {a b c:U Z9},Row ks a->Row ks b->Row ks c->pj b a=false->pj c b=false->pj c a=false
 | [],a,b,c,h1,h2,h3,h4,h5=>by cases (show a=[]from h1);cases (show c=[]from h3);rfl
 | true::ks,a,b,c,h1,h2,h3,h4,h5=>by
  obtain⟨i,r,rfl,h1⟩:=h1;obtain⟨j,r',rfl,h2⟩:=h2;obtain⟨k,r'',rfl,h3⟩:=h3;rw[Ch]at h4 h5⊢;by_cases e1:j=i
  .rw[if_pos e1]at h4;by_cases e2:k=j
   .rw[if_pos e2]at h5;rw[if_pos (e2.trans e1)];exact B6 h1 h2 h3 h4 h5
   .rw[if_neg e2]at h5;rw[if_neg (by omega)];have:=of_decide_eq_false h5;exact decide_eq_false<|by omega
  .rw[if_neg e1]at h4;have q1:=of_decide_eq_false h4;by_cases e2:k=j
   .rw[if_neg (by omega)];exact decide_eq_false<|by omega
   .rw[if_neg e2]at h5;have q2:=of_decide_eq_false h5;rw[if_neg (by omega)];exact decide_eq_false (by omega)
 | false::ks,a,b,c,h1,h2,h3,h4,h5=>by
  obtain⟨i,r,rfl,h1⟩:=h1;obtain⟨j,r',rfl,h2⟩:=h2;obtain⟨k,r'',rfl,h3⟩:=h3;rw[Cc]at h4 h5⊢;by_cases e1:j=i
  .rw[if_pos e1]at h4;by_cases e2:k=j
   .rw[if_pos e2]at h5;rw[if_pos (e2.trans e1)];exact B6 h1 h2 h3 h4 h5
   .rw[if_neg e2]at h5;rw[if_neg (by rw[<-e1];exact e2),<-e1];exact h5
  .rw[if_neg e1]at h4;by_cases e2:k=j
   .rw[if_neg (by rw[e2];exact e1),e2];exact h4
   .rw[if_neg e2]at h5;by_cases e3:k=i
    .subst e3;exact absurd (aoe h5 h4) e2
    .rw[if_neg e3];exact as5 h4 h5
theorem apr{ks0:U Bool}{ds:U Z9}(h:Rows ks0 ds):Ord (rJ ds):=by
 obtain⟨ks,FW,hk⟩:∃ks,ks=true::ks0/\ks≠[]:=⟨_,rfl,by simp⟩;have iH:∀i,ua (ds.getD i .none)=[]\/Row ks (ua<|ds.getD i .none):=λi=>by
  by_cases hi:i<ds.length
  .right;have e:ds.getD i .none=ds[i]:=by simp[List.getD,hi]
   obtain⟨r,e2,hr⟩:=h ds[i] (dq hi);rw[e,e2,FW];exact hr
  .left;have e:ds.getD i .none=.none:=by simp[List.getD,ix<|Nat.le_of_not_lt hi]
   rw[e];rfl
 have ne:∀{r:U Z9},Row ks r->∃x xs,r=x::xs:=λ{r} hr=>by
  match ks,hk,hr with
  | true::ks,_,⟨i,r,e,_⟩=>exact(kl _ _ e)
  | false::ks,_,⟨i,r,e,_⟩=>exact(kl _ _ e)
 refine⟨λa b iZ=>?_,λa b c h1 h2=>?_⟩
 .show pj (ua<|ds.getD b .none) (ua<|ds.getD a .none)=false;have xA:pj (ua<|ds.getD a .none) (ua<|ds.getD b .none)=true:=iZ;rcases iH a with ea|ea<;>rcases iH b with eb|eb
  .rw[ea,eb];rfl
  .obtain⟨x,xs,e⟩:=ne eb;rw[ea,e];rfl
  .obtain⟨x,xs,e⟩:=ne ea;rw[e,eb]at xA;cases xA
  .exact Cd ea eb xA
 .show pj (ua<|ds.getD c .none) (ua<|ds.getD a .none)=false;have fQ:pj (ua<|ds.getD b .none) (ua<|ds.getD a .none)=false:=h1;have eK:pj (ua<|ds.getD c .none) (ua<|ds.getD b .none)=false:=h2;rcases iH a with ea|ea
  .rw[ea];rcases iH c with ec|ec
   .rw[ec];rfl
   .obtain⟨x,xs,e⟩:=ne ec;rw[e];rfl
  .obtain⟨x,xs,e⟩:=ne ea;rcases iH b with eb|eb
   .rw[eb,e]at fQ;cases fQ
   .obtain⟨y,ys,e2⟩:=ne eb;rcases iH c with ec|ec
    .rw[ec,e2]at eK;cases eK
    .exact B6 ea eb ec fQ eK
theorem HK:∀{ks:U Bool} {a b:U Z9},Row ks a->Row ks b->pj a b=false->pj b a=false->a=b
 | [],a,b,h1,h2,_,_=>by cases (show a=[]from h1);cases (show b=[]from h2);rfl
 | true::ks,a,b,h1,h2,h3,h4=>by
  obtain⟨i,r,rfl,h1⟩:=h1;obtain⟨j,r',rfl,h2⟩:=h2;rw[Ch]at h3 h4;by_cases e:i=j
  .rw[if_pos e]at h3;rw[if_pos e.symm]at h4;rw[e,HK h1 h2 h3 h4]
  .rw[if_neg e]at h3;rw[if_neg (Ne.symm e)]at h4;have:=of_decide_eq_false h3;have:=of_decide_eq_false h4;exact absurd (by omega) e
 | false::ks,a,b,h1,h2,h3,h4=>by
  obtain⟨i,r,rfl,h1⟩:=h1;obtain⟨j,r',rfl,h2⟩:=h2;rw[Cc]at h3 h4;by_cases e:i=j
  .rw[if_pos e]at h3;rw[if_pos e.symm]at h4;rw[e,HK h1 h2 h3 h4]
  .rw[if_neg e]at h3;rw[if_neg (Ne.symm e)]at h4;exact absurd (aoe h3 h4) e
theorem ad4{α:Type}{R:α->α->Prop}:∀{xs ys:List α},xs.Perm ys->xs.Pairwise R->ys.Pairwise R->(∀x∈xs,∀y∈xs,R x y->R y x->x=y)->xs=ys
 | [],ys,p,_,_,_=>(List.Perm.nil_eq p).symm▸rfl
 | x::xs,[],p,_,_,_=>absurd p.length_eq (by simp)
 | x::xs,y::ys,p,hx,hy,ha=>by
  have iK:=f8.mp hx;have lX:=f8.mp hy;have m1:y∈x::xs:=p.mem_iff.mpr ak;have m2:x∈y::ys:=p.mem_iff.mp ak;have e:x=y:=by
   rcases ap.mp m1 with e|m
   .exact e.symm
   .rcases ap.mp m2 with e|m'
    .exact e
    .exact ha x ak y m1 (iK.1 y m)<|lX.1 x m'
  subst e;rw[ad4 (List.Perm.cons_inv p) iK.2 lX.2 λa h1 b h2=>ha a (ao _ h1) b<|ao _ h2]
def aa6(ds:U Z9):((cz ds.length).map λi=>ds.getD i .none)=ds:=by
 apply List.ext_getElem
 .simp
 .intro i h1 h2;simp[List.getD,h2]
def ug(ds:U Z9):(qd ds).Perm ds:=by have h:=(zl (rJ ds) ds.length).map λi=>ds.getD i .none;rw[aa6]at h;exact h
theorem agw{ks:U Bool}{ds:U Z9}(h:Rows ks ds){i j:Nat}{x y:Z9}(hx:(qd ds)[i]?=some x)(hy:(qd ds)[j]?=some y)(eC:i<=j):pj (ua y) (ua x)=false:=by
 unfold qd at hx hy;rw[a6]at hx hy;have hj:j<(srt (rJ ds) ds.length).length:=by
  cases e:(srt (rJ ds) ds.length)[j]? with
  | none=>rw[e]at hy;cases hy
  | some k=>exact(af.mp e).1
 have hi:i<(srt (rJ ds) ds.length).length:=by omega
 rw[aa hi]at hx;rw[aa hj]at hy;cases hx;cases hy;have u:=Iu (apr h) ds.length eC (by rw[tf]at hj;exact hj);have e1:(srt (rJ ds) ds.length).getD i 0=(srt (rJ ds) ds.length)[i]:=by simp[List.getD,hi]
 have e2:(srt (rJ ds) ds.length).getD j 0=(srt (rJ ds) ds.length)[j]:=by simp[List.getD,hj]
 rw[e1,e2]at u;exact u
end L3
namespace L3
open PySem PySem.Spec PyProof.Rows
section
variable{prog:aJ}{w:aL}{A:Around}{E:aA->aC->Prop}{s:aC}
def aiz{l:aF}{vs:U aA}{ns:U Int}{Q:aA->aC->Prop}(hh:A.handled=none)(hl:s.heap.IsList l vs.toArray)(hi:bO vs ns)(dG:0<ns.length)
  (h:∀h' M (t:gR) tk,(∀b o,s.heap.get? b=some o->h'.get? b=some o)->M∈ns->(∀a,a∈ns->a<=M)->Q (.int M t) {s with heap:=h',toks:=tk}) :
  aH (aI prog w) A (call (.builtin "max") [.ref l]) Q E s:=by
 obtain⟨xs,e⟩:=hi.allInts.items;have iF:ns=xs.toList.map (·.1):=by rw[<-hi.numsOf,<-nK,<-e]
 have hsz:0<xs.size:=by have h3:=dG;rw[iF,ac,a8]at h3;exact h3
 rw[e]at hl;refine max_intList hh hl hsz λv h' tk hv hk=>?_;obtain⟨t,rfl⟩:=jP hv;obtain⟨h1,h2⟩:=argBest_gt (AA xs)<|xs.size-1;refine h _ _ t tk hk ?_ λa ha=>?_
 .rw[iF,iJ];exact getD_mem<|by rw[ac,a8];omega
 .rw[iF]at ha;obtain⟨j,hj,rfl⟩:=mem_getD ha;rw[ac,a8]at hj;rw[<-iJ];exact h2 j<|by omega
end
end L3
namespace L3
noncomputable abbrev Cl:=Int×Int
def Tch(a b:Cl):Prop:=(a.1=b.1/\(b.2=a.2+1\/a.2=b.2+1))\/(a.2=b.2/\(b.1=a.1+1\/a.1=b.1+1))
def Tch.symm{a b:Cl}(h:Tch a b):Tch b a:=by unfold Tch at *;lia
def Conn(S:U Cl):Prop:=∀T:Cl->Prop,(∃a,a∈S/\T a)->(∀a b,a∈S->b∈S->T a->Tch a b->T b)->∀a,a∈S->T a
def Conn.one(a:Cl):Conn [a]:=λT ⟨b,hb,tb⟩ _ c hc=>by rw[ar.mp hc,<-ar.mp hb];exact tb
def Conn.snoc{S:U Cl}{a b:Cl}(h:Conn S)(ha:a∈S)(t:Tch a b):Conn (S++[b]):=λT ⟨c,hc,tc⟩ go d hd=>by
 have mS:∀{x},x∈S->x∈S++[b]:=λhx=>fh _ hx;have mb:b∈S++[b]:=bu _<|ar.mpr rfl;have inS:∃x,x∈S/\T x:=by
  rcases bn.mp hc with h1|h1
  .exact⟨c,h1,tc⟩
  .rw[ar.mp h1]at tc;exact⟨a,ha,go b a mb (mS ha) tc t.symm⟩
 have all:=h T inS λx y hx hy tx Eo=>go x y (mS hx) (mS hy) tx Eo;rcases bn.mp hd with h1|h1
 .exact all d h1
 .rw[ar.mp h1];exact go a b (mS ha) mb (all a ha) t
theorem Conn.map{S:U Cl}{f:Cl->Cl}(h:Conn S)(hf:∀a b,Tch a b->Tch (f a) (f b)):Conn (S.map f):=λT ⟨c,hc,tc⟩ go d hd=>by obtain⟨x,hx,rfl⟩:=aw.mp hc;obtain⟨y,hy,rfl⟩:=aw.mp hd;exact h (λa=>T<|f a) ⟨x,hx,tc⟩ (λa b ha hb ta tab=>go _ _ (b9 ha) (b9 hb) ta<|hf a b tab) y hy
def Conn.congr{S S':U Cl}(h:Conn S)(e:∀a,a∈S'↔a∈S):Conn S':=λT ⟨c,hc,tc⟩ go d hd=>
 h T ⟨c,(e c).mp hc,tc⟩ (λa b ha hb=>go a b ((e a).mpr ha)<|(e b).mpr hb) d ((e d).mp hd)
def Conn.closed{S R:U Cl}(h:Conn S)(hs:∀a,a∈R->a∈S)(dG:∃a,a∈R)(hc:∀a,a∈R->∀b,b∈S->Tch a b->b∈R):∀a,a∈S->a∈R:=by obtain⟨a,ha⟩:=dG;exact h (λx=>x∈R) ⟨a,hs a ha,ha⟩ λx y hx hy tx Eo=>hc x tx y hy Eo
def xz{α:Type}[DecidableEq α]{S R:List α}(hS:S.Nodup)(hR:R.Nodup)(e:∀a,a∈R↔a∈S):R.length=S.length:=by
 apply Nat.le_antisymm
 .exact cw hR λa ha=>(e a).mp ha
 .exact cw hS λa ha=>(e a).mpr ha
def Tch.shift(r c:Int){a b:Cl}(h:Tch a b):Tch (a.1-r,a.2-c) (b.1-r,b.2-c):=by unfold Tch at *;simp only;lia
end L3
namespace L3
open PySem PySem.Spec PyProof.Rows L2
section
variable{X:Cx}{x:Str}{p pos oK:dE}{e e2:Expr}{es:U Expr}{t tk:TA}{te:TE}
def aye:U V->Hp->VK->Prop:=λxs H Q=>∃q,∃ns:U Int,xs=[.ref q]/\H q=some (.lst<|ns.map V.int)/\0<ns.length/\∀M,M∈ns->(∀a∈ns,a<=M)->Q (.int M) H
def aeh(hc:X.calm=true):qp X (.builtin "max") aye:=by intro aE s σ H xs us Q I r h;obtain⟨q,ns,rfl,hq,hn,h⟩:=h;obtain⟨u,rfl,r1⟩:=qv r;cases (show u=aA.ref q from r1);obtain⟨its,rv,pl,hz⟩:=I.list<|SqL.of (K:=X.K) hq;exact aiz (I.ok.hd hc) pl.isList (uh rv) hn λh' M t tk k h1 h2=>(kl (.int M) H ⟨I.kept k,⟨_,rfl⟩,h M h1 h2⟩)
end
def ahi{ds:U Z9}(h:Spots ds):Rows [true,false] ds:=λd hd=>by obtain⟨r,c,x,rfl⟩:=h d hd;exact(m6 _ rfl _ _ ⟨rfl,(kl _ _ ⟨rfl,(kl _ _ ⟨rfl,rfl⟩)⟩)⟩)
section
variable{K:au}{a:aF}{xs:U V}{ds:U Z9}{σ:L2.St}{H:Hp}{Q:VK}
def Iz(r c:Int)(x:Str):atI [V.int r,.int c,.str x] 0=some (.int<|v7<|.tuple [.int r,.int c,.str x]):=rfl
def HV(r c:Int)(x:Str):atI [V.int r,.int c,.str x] 1=some (.int<|wg<|.tuple [.int r,.int c,.str x]):=rfl
end
section
variable{X:Cx}{x:Str}{pos:dE}
def sn{z:Str}(h:∃t,X.mg x=some (.str z t))(hg:Gl X x)(hd:(x==("__debug__" : Str))=false:=by decide):PE X (.Name x pos) (tC<|.str z):=by obtain⟨t,h⟩:=h;exact IG hg h ⟨t,rfl⟩ hd
def rg{z:Int}(h:∃t,X.mg x=some (.int z t))(hg:Gl X x)(hd:(x==("__debug__" : Str))=false:=by decide):PE X (.Name x pos) (tC<|.int z):=by obtain⟨t,h⟩:=h;exact IG hg h ⟨t,rfl⟩ hd
end
section
variable{X:Cx}
def vk:OpR X (aN .LtE) (λx y H Q=>∃i j,x=.str i/\y=.str j/\Q (.bl<|!decide (j.cps.toList<i.cps.toList)) H):=by intro aE s σ H x y v u Q I rx ry h;obtain⟨i,j,rfl,rfl,q⟩:=h;obtain⟨t,rfl⟩:=rx;obtain⟨t',rfl⟩:=ry;exact PySem.P.le_str<|kl (.bl _) H ⟨I,rfl,q⟩
def axx:V->Option Int->Option Int->Hp->VK->Prop:=λx lo hi H Q=>∃z,x=.str z/\z.length<=aG/\Q (.str<|Txt.slice z lo hi) H
theorem ar3:SlR X axx:=by
 intro aE s σ H x v vl vu lo hi sl Q I rx hs pl pu h;obtain⟨z,rfl,hz,q⟩:=h;obtain⟨t,rfl⟩:=rx;obtain⟨o,ho,hc,hd⟩:=hs;have fin:∀t' k,EP X aE σ Q (.str (Txt.slice z lo hi) t') {s with toks:=k}:=λt' k=>(kl (.str _) H ⟨I.tok _,⟨_,rfl⟩,q⟩);refine(kl ("str") _ ⟨F.slot_str_getitem.lookup,bV _ _ _,?_⟩);cases pl with
 | none=>
  cases pu with
  | none=>exact cM (l:=none) (u:=none) (st:=none) ⟨o,ho,hc,hd⟩ rfl (eU ⟨fg (Txt.slice_le z _ _) hz,fin⟩)
  | int j uj=>exact cM (l:=none) (u:=some (j,uj)) (st:=none) ⟨o,ho,hc,hd⟩ rfl (eU ⟨fg (Txt.slice_le z _ _) hz,fin⟩)
 | int i ui=>
  cases pu with
  | none=>exact cM (l:=some (i,ui)) (u:=none) (st:=none) ⟨o,ho,hc,hd⟩ rfl (eU ⟨fg (Txt.slice_le z _ _) hz,fin⟩)
  | int j uj=>exact cM (l:=some (i,ui)) (u:=some (j,uj)) (st:=none) ⟨o,ho,hc,hd⟩ rfl<|eU ⟨fg (Txt.slice_le z _ _) hz,fin⟩
theorem agz(x:Array Nat):∀(k:Nat)(fR:Array Nat),((List.replicate k x).foldl (· ++ ·) fR).size=fR.size+k*x.size
 | 0,fR=>by simp
 | k+1,fR=>by rw[List.replicate_succ,List.foldl_cons,agz x k];simp only[Array.size_append];rw[Nat.add_mul];lia
theorem afw(x:Array Nat):∀(k:Nat)(fR:Array Nat)(c:Nat),c∈((List.replicate k x).foldl (· ++ ·) fR).toList->c∈fR.toList\/c∈x.toList
 | 0,fR,c,h=>.inl (by simpa using h)
 | k+1,fR,c,h=>by
  rw[List.replicate_succ,List.foldl_cons]at h;rcases afw x k _ c h with h|h
  .simpa using h
  .exact .inr h
def awi:R2:=λx y H Q=>∃(z:Str)(n:Int),x=.str z/\y=.int n/\0<=n/\n<=1000/\z.length<=1000/\∀w:Str,w.length=z.length*n.toNat->(∀c∈w.cps.toList,c∈z.cps.toList)->Q (.str w) H
def arq:OpR X (dB .Mult) awi:=by
 intro aE s σ H x y v u Q I rx ry h;obtain⟨z,n,rfl,rfl,h0,h1,hz,q⟩:=h;obtain⟨t,rfl⟩:=rx;obtain⟨t',rfl⟩:=ry;have hprod:z.length*n.toNat<=1000000:=by
  have a1:n.toNat<=1000:=by lia
  calc z.length*n.toNat<=1000*1000:=Nat.mul_le_mul hz a1
   _=1000000:=rfl
 refine PySem.P.mul_str (by rw[decide_eq_false (by lia),decide_eq_false<|by lia];rfl) (λh2 _=>?_) (λ_ _=>?_) ?_
 .have h3:(1:Int)<=n:=by lia
  have h4:((2:Int)^63-1)/n>=(2^63-1)/1000:=by
   refine(Int.le_ediv_iff_mul_le<|by lia).mpr ?_
   calc ((2:Int)^63-1)/1000*n<=((2:Int)^63-1)/1000*1000:=Int.mul_le_mul_of_nonneg_left h1 (by decide)
    _<=2^63-1:=by decide
  have h5:((2:Int)^63-1)/1000>=1000:=by decide
  lia
 .unfold PySem.Builtin.Str.tooLong;rw[gf];exact decide_eq_false<|by lia
 .by_cases hn:n<1
  .rw[if_pos hn];have e:n=0:=by lia
   subst e;exact⟨by decide,(kl (.str Str.empty) H ⟨I.tok _,⟨_,rfl⟩,q _ (by simp[Str.empty,Str.length])<|by simp[Str.empty]⟩)⟩
  .rw[if_neg hn];by_cases hc:(n==1||z.length==0)=true
   .rw[if_pos hc];refine(kl (.str z) H ⟨I,⟨_,rfl⟩,q _ ?_ λc hc=>hc⟩);simp only[Bool.or_eq_true,beq_iff_eq]at hc;rcases hc with e|e
    .rw[e];simp
    .rw[e];simp
   .rw[if_neg hc];have e:(⟨(List.replicate n.toNat z.cps).foldl (· ++ ·) #[]⟩:Str).length=z.length*n.toNat:=by
     show((List.replicate n.toNat z.cps).foldl (· ++ ·) #[]).size=_;rw[agz,Nat.mul_comm];simp[Str.length]
    refine⟨by rw[e,gf];lia,(kl (.str _) H ⟨I.tok _,⟨_,rfl⟩,q _ e λc hc=>?_⟩)⟩;rcases afw z.cps n.toNat #[] c (by simpa using hc)with h|h
    .simp at h
    .exact h
theorem IQ:∀{ys:U Str} {us:U aA},Vals (ys.map V.str) us->StrsAre us ys
 | [],us,h=>by cases h;exact .nil
 | y::ys,us,h=>by
  cases h with
  | cons r t=>
   obtain⟨k,e⟩:=(show ∃t,_=aA.str y t from r);subst e;exact .cons y k<|IQ t
def av4:V->U V->Hp->VK->Prop:=λx vs H Q=>∃(z:Str)(l:aF)(ys:U Str),x=.str z/\vs=[.ref l]/\H l=some (.lst<|ys.map V.str)/\(ys.map (·.length)).sum+ys.length*z.length<=1000000/\Q (.str<|Txt.join z ys) H
def yc:MtR X "str.join" av4:=by intro aE s σ H x vs v us Q I rx rv h;obtain⟨z,l,ys,rfl,rfl,hl,hz,q⟩:=h;obtain⟨t,rfl⟩:=rx;obtain⟨u,rfl,r1⟩:=qv rv;cases (show u=aA.ref l from r1);obtain⟨its,r,pl,_⟩:=I.list<|SqL.of (K:=X.K) hl;exact join_list pl.isList (by simpa using IQ r) (by lia) λt' k=>(kl (.str _) H ⟨I.tok _,⟨_,rfl⟩,q⟩)
def ax8:U V->Hp->VK->Prop:=λxs H Q=>∃(p:aF)(bs:U Bool),xs=[.ref p]/\H p=some (.lst<|bs.map V.bl)/\Q (.bl<|bs.all id) H
def alj:∀(bs:U Bool),((cz bs.length).all λi=>(bs[i]?).getD true)=bs.all id:=λbs=>by
 rw[du,bh,bh];constructor
 .intro h b hb;obtain⟨i,hi,rfl⟩:=jb.mp hb;have:=h i (by simpa using hi);simpa [hi]using this
 .intro h i hi;have eZ:i<bs.length:=by simpa using hi
  have:=h bs[i] (dq eZ);simpa [eZ]using this
def ow(hc:X.calm=true):qp X (.builtin "all") ax8:=by
 intro aE s σ H xs us Q I r h;obtain⟨p,bs,rfl,hp,q⟩:=h;obtain⟨u,rfl,r1⟩:=qv r;cases (show u=aA.ref p from r1);obtain⟨its,rv,pl,hz⟩:=I.list<|SqL.of (K:=X.K) hp;have bL:p<s.heap.objs.size:=by obtain⟨_,_,e,_⟩:=pl;exact bc e
 have aR:its.length=bs.length:=by rw[<-rv.length,ac]
 refine call_all_walk<|jc pl.isList ?_;refine⟨s.heap.objs.size,[s.heap.objs.size,p],[s.heap.objs.size],its.toArray.size,_,_,λi=>(bs[i]?).getD true,rfl,gQ.list (A:=X.A.in1) (I.ok.hd hc) _ p (ca bL) its.toArray,
  ⟨⟨_,a0 _ rfl,rfl,rfl⟩,pl.isList.push _⟩,λi v s' Q' E' hP hQ=>?_,λh' tk hk=>?_⟩
 .have hi:its[i]?=some v:=by simpa using hP
  have pI:i<bs.length:=by rw[<-aR];exact(af.mp hi).1
  obtain⟨u',e1,e2⟩:=rv.get (i:=i) (x:=.bl bs[i]) (by rw[a6,aa pI];rfl);rw[hi]at e1;cases e1;cases (show v=aA.bool bs[i]from e2);have BG:Q' ((bs[i]?).getD true) s':=hQ;rw[aa pI]at BG;exact dz BG
 .refine(kl (.bl _) H ⟨I.kept λb o e=>hk b o (λhm=>?_)<|ai _ e,rfl,?_⟩)
  .rw[ar.mp hm]at e;exact gx _<|bc e
  .rw[bf,aR,alj];exact q
end
noncomputable def Its(x:Str):It:=⟨λi _=>i<x.cps.toList.length,λi H v H'=>H'=H/\∃c,x.cps.toList[i]?=some c/\v=.str ⟨#[c]⟩,λi _=>x.cps.toList.length<=i⟩
def ah8{P:aJ}{w:aL}{K:au}{tg:Expr}(x:Str)(t:gR)(it:aF):rH P w K tg (Its x) [it] it (λi h=>h.IsStrIter it "str_ascii_iterator" x t i)where
 mem:=by simp
 obj:=λi h st b hb=>by
  have e:b=it:=by simpa using hb
  subst e;obtain⟨o,e,c,d⟩:=st;exact⟨o,e,λv z=>by rw[d]at z;cases z⟩
 keep:=λi h h' st k=>by obtain⟨o,e,r⟩:=st;exact⟨o,k it (by simp) o e,r⟩
 item:=by
  intro X hP hw hK hc i aE s σ H E I hf st hg;subst hP hw hK;obtain⟨f0,f1,f2,f3,f4,f5⟩:=hf it (by simp);have hi:i<x.cps.size:=by simpa [Its]using hg
  refine wpAny_pyNext_ascii_item st (c:=x.cps[i]) (by simp[hi]) λh' gH sb=>?_;have I1:Inv X aE σ H {s with heap:=h',toks:=s.toks+1}:=I.turned (t':=s.toks+1) (λb o hb e=>(sb.2 b hb).trans e) f0 f1 f3 f4 f5;obtain⟨o,e,c,d⟩:=id gH;exact⟨_,rfl,Cb (s:={s with heap:=h',toks:=s.toks+1}) e c d (by decide)<|kl (.str ⟨#[x.cps[i]]⟩) H ⟨I1,⟨_,rfl⟩,⟨rfl,x.cps[i],by simp[hi],rfl⟩,gH,λb hb=>(hf b hb).1⟩⟩
 done:=by
  intro X hP hw hK hc i aE s σ H E I hf st hg;subst hP hw hK;obtain⟨f0,f1,f2,f3,f4,f5⟩:=hf it (by simp);have hi:x.cps.size<=i:=by simpa [Its]using hg
  exact wpAny_pyNext_ascii_end (I.ok.hd hc) st (by simp;lia) λh' eb=>⟨rfl,I.turned (t':=s.toks) (λb o hb e=>eb b o hb e) f0 f1 f3 f4 f5⟩
 self:=λ_ _ _ _ _ st h=>wpAny_pyIter_striter_ascii st h
def aj8{P:aJ}{w:aL}{K:au}{tg:Expr}(x:Str)(t:gR)(it:aF):rH P w K tg (Its x) [it] it (λi h=>h.IsStrIter it "str_iterator" x t i)where
 mem:=by simp
 obj:=λi h st b hb=>by
  have e:b=it:=by simpa using hb
  subst e;obtain⟨o,e,c,d⟩:=st;exact⟨o,e,λv z=>by rw[d]at z;cases z⟩
 keep:=λi h h' st k=>by obtain⟨o,e,r⟩:=st;exact⟨o,k it (by simp) o e,r⟩
 item:=by
  intro X hP hw hK hc i aE s σ H E I hf st hg;subst hP hw hK;obtain⟨f0,f1,f2,f3,f4,f5⟩:=hf it (by simp);have hi:i<x.cps.size:=by simpa [Its]using hg
  refine wpAny_pyNext_wide_item st (c:=x.cps[i]) (by simp[hi]) λh' gH sb=>?_;have I1:Inv X aE σ H {s with heap:=h',toks:=s.toks+1}:=I.turned (t':=s.toks+1) (λb o hb e=>(sb.2 b hb).trans e) f0 f1 f3 f4 f5;obtain⟨o,e,c,d⟩:=id gH;exact⟨_,rfl,Cb (s:={s with heap:=h',toks:=s.toks+1}) e c d (by decide)<|kl (.str ⟨#[x.cps[i]]⟩) H ⟨I1,⟨_,rfl⟩,⟨rfl,x.cps[i],by simp[hi],rfl⟩,gH,λb hb=>(hf b hb).1⟩⟩
 done:=by
  intro X hP hw hK hc i aE s σ H E I hf st hg;subst hP hw hK;obtain⟨f0,f1,f2,f3,f4,f5⟩:=hf it (by simp);have hi:x.cps.size<=i:=by simpa [Its]using hg
  exact wpAny_pyNext_wide_end (I.ok.hd hc) st (by simp;lia) λh' eb=>⟨rfl,I.turned (t':=s.toks) (λb o hb e=>eb b o hb e) f0 f1 f3 f4 f5⟩
 self:=λ_ _ _ _ _ st h=>wpAny_pyIter_striter_wide st h
def ax7(tl:TE):TI:=λσ H R=>tl σ H λx H1=>∃z,x=.str z/\R (Its z) H1
theorem Ae{X:Cx}{tg l:Expr}{tl:TE}(hl:PE X l tl):PI X tg l (ax7 tl):=by
 intro aE s σ H R I h;refine thn (hl aE s σ H _ I h) λv s1 ⟨x,H1,I1,r1,z,e,q⟩=>?_;subst e;obtain⟨t,rfl⟩:=r1;cases ha:z.cps.all (· < 128)with
 | true=>
  refine wpAny_pyIter_ascii ha ?_;have I2:Inv X aE σ H1 {s1 with heap:=s1.heap.push {cls:=.type "str_ascii_iterator",data:=.fields #[.str z t,.int 0 0]}}:=I1.kept (t':=s1.toks) λb o e=>ai _ e;exact(me _ _ _ (Its z) H1 ⟨rfl,I2,ah8 z t s1.heap.objs.size,⟨_,a0 _ rfl,rfl,rfl⟩,λb hb=>by rw[ar.mp hb];exact I1.fpOk (aq _)<|I1.hok.fresh<|aq _,q⟩)
 | false=>
  refine wpAny_pyIter_wide ha ?_;have I2:Inv X aE σ H1 {s1 with heap:=s1.heap.push {cls:=.type "str_iterator",data:=.fields #[.str z t,.int 0 0]}}:=I1.kept (t':=s1.toks) λb o e=>ai _ e;exact(me _ _ _ (Its z) H1 ⟨rfl,I2,aj8 z t s1.heap.objs.size,⟨_,a0 _ rfl,rfl,rfl⟩,λb hb=>by rw[ar.mp hb];exact I1.fpOk (aq _)<|I1.hok.fresh<|aq _,q⟩)
def apf{x:Str}{g:TG}{tb:TS}{D:mI}{σ:L2.St}{H:Hp}(Pv:Nat->L2.St->Hp->Prop)(h0:Pv 0 σ H)
  (hs:∀i c σ H,x.cps.toList[i]?=some c->Pv i σ H->g (.str ⟨#[c]⟩) σ H λσ2 H2=>tb {D with nx:=Pv<|i+1,ct:=Pv<|i+1,bk:=D.nx} σ2 H2) (hd:∀σ H,Pv x.cps.toList.length σ H->D.nx σ H) :
  ∃W:Nat->Nat->L2.St->Hp->Prop,(∃m,W 0 m σ H)/\∀i m σ H,W i m σ H->
   ((Its x).stop i H/\D.nx σ H)\/((Its x).go i H/\∃N:L2.St->Hp->Prop,(∀σ' H',N σ' H'->∃m',m'<m/\W (i+1) m' σ' H')/\∀v H',(Its x).yld i H v H'->g v σ H' λσ2 H2=>tb {D with nx:=N,ct:=N,bk:=D.nx} σ2 H2):=by
 refine⟨λi m σ H=>m=x.cps.toList.length-i/\i<=x.cps.toList.length/\Pv i σ H,⟨x.cps.toList.length,by simp,dv _,h0⟩,?_⟩;rintro i m σ H ⟨rfl,hi,p⟩;by_cases bL:i<x.cps.toList.length
 .refine .inr ⟨bL,Pv<|i+1,λσ' H' p'=>⟨x.cps.toList.length-(i+1),by lia,rfl,bL,p'⟩,λv H' y=>?_⟩;obtain⟨e,c,hc,rfl⟩:=y;subst e;exact hs i c σ _ hc p
 .have e:i=x.cps.toList.length:=by lia
  subst e;exact .inl ⟨aq _,hd σ H p⟩
def wu{x:Str}{D:aF}{sl:U (Option Nat)}{g:TG}{tt:TT}{te:TE}{σ:L2.St}{H1:Hp}{Q:VK}(Pv:Nat->U V->Hp->Prop)(h0:Pv 0 [] (upd H1 D<|.lst []))
  (hs:∀i c ys H,x.cps.toList[i]?=some c->i<x.cps.toList.length->H D=some (.lst ys)->ys.length<=i->Pv i ys H->g (.str ⟨#[c]⟩) (rj sl σ) H λσ2 H2=>Agree (rj sl σ) σ2/\tt σ2 H2 λb H3=>
   if b=true then te σ2 H3 λy H4=>∃xs,H4 D=some (.lst xs)/\xs.length<aG/\Nx D i Pv (upd H4 D<|.lst<|xs++[y])else Nx D i Pv H3)
  (hd:∀ys H,H D=some (.lst ys)->ys.length<=x.cps.toList.length->Pv x.cps.toList.length ys H->Q (.ref D) H):rM (Its x) sl g tt te σ H1 D Q:=by
 refine D8 (Its x) x.cps.toList.length Pv h0 (λi ys H hi p=>hi) (λys H p=>aq _) (λi v ys H H' hi y hD aV p=>?_) hd;obtain⟨e,c,hc,rfl⟩:=y;subst e;exact hs i c ys _ hc hi hD aV p
def NoStr(H:Hp)(v:V):Prop:=v=.non\/(∃i,v=.int i)\/∃a,v=.ref a/\((∃xs,H a=some (.lst xs))\/(∃xs,H a=some (.tup xs))\/H a=some (.dK []))
def NoTup(H:Hp)(v:V):Prop:=v=.non\/(∃i,v=.int i)\/(∃z,v=.str z)\/∃a,v=.ref a/\((∃xs,H a=some (.lst xs))\/H a=some (.dK []))
def NoStr.ty{K:au}{H:Hp}{v:V}(h:NoStr H v):∃t,jC K H v t/\jk K t (.type "str")=some false:=by
 rcases h with rfl|⟨i,rfl⟩|⟨a,rfl,⟨xs,h⟩|⟨xs,h⟩|h⟩
 .exact⟨_,.non,rfl⟩
 .exact⟨_,.int i,rfl⟩
 .exact⟨_,.lst h,rfl⟩
 .exact⟨_,.tup h,rfl⟩
 .exact⟨_,.dK h,rfl⟩
def NoTup.ty{K:au}{H:Hp}{v:V}(h:NoTup H v):∃t,jC K H v t/\jk K t (.type "tuple")=some false:=by
 rcases h with rfl|⟨i,rfl⟩|⟨z,rfl⟩|⟨a,rfl,⟨xs,h⟩|h⟩
 .exact⟨_,.non,rfl⟩
 .exact⟨_,.int i,rfl⟩
 .exact⟨_,.str z,rfl⟩
 .exact⟨_,.lst h,rfl⟩
 .exact⟨_,.dK h,rfl⟩
def NoStr.same{H H':Hp}{v:V}(h:NoStr H v)(s:Same H H'):NoStr H' v:=by
 rcases h with rfl|⟨i,rfl⟩|⟨a,rfl,⟨xs,h⟩|⟨xs,h⟩|h⟩
 .exact .inl rfl
 .exact .inr<|.inl ⟨i,rfl⟩
 .exact .inr<|.inr ⟨a,rfl,.inl ⟨xs,s _ _ h⟩⟩
 .exact .inr<|.inr ⟨a,rfl,.inr<|.inl ⟨xs,s _ _ h⟩⟩
 .exact .inr<|.inr ⟨a,rfl,.inr<|.inr<|s _ _ h⟩
def Tx(z:Str):Prop:=z.length<=80/\∀c∈z.cps.toList,c<128
def Itm(H:Hp)(v:V):Option Str->Prop
 | some z=>v=.str z/\Tx z
 | none=>NoStr H v
def Itms(H:Hp)(vs:U V)(os:U (Option Str)):Prop:=vs.length=os.length/\∀(i:Nat)(v:V)(o:Option Str),vs[i]?=some v->os[i]?=some o->Itm H v o
def Thing(H:Hp)(v:V):Option (U<|Option Str)->Prop
 | none=>NoTup H v
 | some os=>os.length<=500/\∃a vs,v=.ref a/\H a=some (.tup vs)/\Itms H vs os
theorem Itm.same{H H':Hp}{v:V}{o:Option Str}(h:Itm H v o)(s:Same H H'):Itm H' v o:=by
 cases o with
 | none=>exact NoStr.same h s
 | some z=>exact h
theorem Itms.same{H H':Hp}{vs:U V}{os:U (Option Str)}(h:Itms H vs os)(s:Same H H'):Itms H' vs os:=⟨h.1,λi v o e e'=>(h.2 i v o e e').same s⟩
def Itms.at{H:Hp}{vs:U V}{os:U (Option Str)}{i:Nat}{v:V}(h:Itms H vs os)(e:vs[i]?=some v):∃o,os[i]?=some o/\Itm H v o:=by
 have hi:i<vs.length:=(af.mp e).1;have eZ:i<os.length:=by rw[<-h.1];exact hi
 exact⟨os[i],aa eZ,h.2 i v _ e<|aa eZ⟩
def Tx.ok{z:Str}(h:Tx z):ju z=true:=by unfold ju;rw[Array.all_eq_true'];intro c hc;have:=h.2 c (by simpa using hc);simp only[decide_eq_true_eq];lia
noncomputable def sgB(c:Nat):Bool:=(c==35||c==46||c==44)||(decide (65<=c)&&decide (c<=90))||(decide (97<=c)&&decide (c<=122))
noncomputable def iT:Option Str->Bool
 | some z=>decide (1<=z.length)&&decide (z.length<=8)&&z.cps.toList.all sgB
 | none=>false
noncomputable def xw:Option Str->Nat
 | some z=>z.length
 | none=>0
noncomputable def flB:Option (U<|Option Str)->Bool
 | none=>false
 | some os=>decide (1<=os.length)&&decide (os.length<=8)&&os.all λo=>iT o&&(xw o==xw ((os[0]?).getD none))
def ai5{x:Str}{l u:Option Int}{c:Nat}(h:c∈(Txt.slice x l u).cps.toList):c∈x.cps.toList:=by
 unfold Txt.slice at h;split at h
 .exact h
 .simp only[List.mem_filterMap]at h;obtain⟨i,_,e⟩:=h;have e':x.cps.toList[i]?=some c:=by simpa using e
  exact ah e'
theorem Tx.slice{x:Str}(h:Tx x)(l u:Option Int):Tx (Txt.slice x l u):=⟨fg (Txt.slice_le x l u) h.1,λc hc=>h.2 c<|ai5 hc⟩
def len_cat(x y:Str):(x++y).length=x.length+y.length:=by show(x.cps++y.cps).size=_;simp[Str.length]
def Tx.cat{x y:Str}(hx:Tx x)(hy:Tx y)(hl:x.length+y.length<=80):Tx (x++y):=⟨by rw[len_cat];exact hl,λc hc=>by
 have nR:c∈(x.cps++y.cps).toList:=hc;rw[Array.toList_append,bn]at nR;rcases nR with h|h
 .exact hx.2 c h
 .exact hy.2 c h⟩
theorem ase{g:Array Nat}(hg:g=#[]):∀(l:U Str)(a:Array Nat),(l.foldl (λfR p=>fR++g++p.cps) a).toList=a.toList++(l.map λp=>p.cps.toList).flatten
 | [],a=>by simp
 | p::l,a=>by rw[List.foldl_cons,ase hg l,hg];simp
theorem qu{g:Str}(hg:g.cps=#[]):∀ys:U Str,(Txt.join g ys).cps.toList=(ys.map λp=>p.cps.toList).flatten
 | []=>by simp[Txt.join,PySem.Builtin.Str.glued,Str.empty]
 | y::ys=>by show((ys.foldl (λfR p=>fR++g.cps++p.cps) y.cps)).toList=_;rw[ase hg];simp
theorem af4:∀{ys:U Str},(∀y∈ys,y.length=1)->((ys.map λp=>p.cps.toList).flatten).length=ys.length
 | [],_=>rfl
 | y::ys,h=>by have h1:=h y ak;have h2:=af4 (ys:=ys) λz hz=>h z<|ao _ hz;unfold Str.length at h1;simp[h2,h1]<;>lia
theorem Tx.join{g:Str}{ys:U Str}(hg:g.cps=#[])(h1:∀y∈ys,y.length=1)(h2:∀y∈ys,Tx y)(hl:ys.length<=80):Tx (Txt.join g ys)/\(Txt.join g ys).length=ys.length:=by
 have e:=qu hg ys;have l:(Txt.join g ys).length=ys.length:=by rw[<-af4 h1,<-e];simp[Str.length]
 refine⟨⟨by lia,λc hc=>?_⟩,l⟩;rw[e,List.mem_flatten]at hc;obtain⟨t,ht,hc⟩:=hc;obtain⟨y,hy,rfl⟩:=aw.mp ht;exact(h2 y hy).2 c hc
section
variable{prog:aJ}{w:aL}{A:Around}{E:aA->aC->Prop}{s:aC}
def asq{I:aF}{z:Str}{t:gR}{k c:Nat}{R:aA->aC->Prop}(st:s.heap.IsStrIter I "str_ascii_iterator" z t k)(hv:z.cps[k]?=some c)
  (q:∀g,g.IsStrIter I "str_ascii_iterator" z t (k+1)->br I s.heap g->R (.str ⟨#[c]⟩ s.toks) {s with heap:=g,toks:=s.toks+1}):aH (aI prog w) A (ff<|.ref I) R E s:=by
 obtain⟨u,hu,uc,ud⟩:=id st;unfold ff;refine ab<|fu (name:=ae "__next__") st.typeIs jf<|gd jf st.typeIs F.entry_str_ascii_iterator_next ?_<|F.args_str_ascii_iterator_next_1 _;refine(ab (jv hu ud (x:=.str z t) rfl ?_):aH _ _ (pR (.ref I) 0 >>= _) _ _ s);refine(ab (jv hu ud (x:=.int k 0) rfl ?_):aH _ _ (pR (.ref I) 1 >>= _) _ _ s);simp only[gh,hv];refine ab<|jn hu ud (by simp)<|ab<|wpAny_mkStr (am ⟨_,rfl,am<|q _ ⟨_,cu _ hu<|Obj.isFreed_of_fields<|Obj.data_mapFields ud _,?_,?_⟩<|fk ..⟩) sZ1
 .exact(Obj.cls_mapFields ..).trans uc
 .rw[Obj.data_mapFields ud];simp[jG]
def aeu{X:aF}{h1:Heap}{k:aA->Jr Fin}(hh:A.handled=none)(keep:jw X s.heap h1)
  (q:∀g e,jw X s.heap g->(∃o,g.get? e=some o/\o.cls=.type "StopIteration")->E (.ref e) {s with heap:=g}) {R:Fin->aC->Prop}
  (ek:∀v,k v=(tS v:Jr Fin)):aH (aI prog w) A (qN (.type "StopIteration") [] >>= k) R E {s with heap:=h1}:=by
 refine ab ?_;simp only[qN,lQ];refine ab (fq ?_<|by size_fits);refine ab (m:=cR _ _) (dQ (a:=aA.none) (by first|rfl|(simp only[cR];rfl))<|fq ?_<|by size_fits);rw[ek];simp only[tS];refine ab<|nG ?_;rw[hh];exact ab<|am<|tL<|q _ _ ((keep.push _).push _) ⟨_,a0 _ rfl,rfl⟩
def ahv{I:aF}{z:Str}{t:gR}{k:Nat}{R:aA->aC->Prop}(hh:A.handled=none)(st:s.heap.IsStrIter I "str_ascii_iterator" z t k)(hv:z.cps[k]?=none)
  (q:∀g e,jw I s.heap g->(∃o,g.get? e=some o/\o.cls=.type "StopIteration")->E (.ref e) {s with heap:=g}):aH (aI prog w) A (ff<|.ref I) R E s:=by
 obtain⟨u,hu,uc,ud⟩:=id st;unfold ff;refine ab<|fu (name:=ae "__next__") st.typeIs jf<|gd jf st.typeIs F.entry_str_ascii_iterator_next ?_<|F.args_str_ascii_iterator_next_1 _;refine(ab (jv hu ud (x:=.str z t) rfl ?_):aH _ _ (pR (.ref I) 0 >>= _) _ _ s);refine(ab (jv hu ud (x:=.int k 0) rfl ?_):aH _ _ (pR (.ref I) 1 >>= _) _ _ s);simp only[gh,hv];refine ab<|lG<|ab<|jn hu ud (by simp)<|ab<|dR ?_;exact aeu (A:=A.in1) hh (fk ..).extBut q λ_=>rfl
def aiw{e I:aF}{i:Nat}{iC:aA}{Y:aA->Prop}{N:Heap->Prop}{Q:Option aA->aC->Prop}(he:eO s.heap e I i iC)(dG:e≠I)
  (hN:∀g g',N g->(∀o,g.get? I=some o->g'.get? I=some o)->N g')
  (jU:∀(A':Around)(R:aA->aC->Prop)(E':aA->aC->Prop),(∀x g tk,Y x->N g->br I s.heap g->R x {s with heap:=g,toks:=tk})->aH (aI prog w) A' (ff<|.ref I) R E' s)
  (hQ:∀x g tk rW,Y x->Ei g e I ((i:Int)+1) x s.heap.objs.size->N g->g.get? s.heap.objs.size=some {cls:=.type "tuple",data:=.seq #[.int i rW,x]}->(∀b o,b≠e->b≠I->s.heap.get? b=some o->g.get? b=some o)->Q (some<|.ref s.heap.objs.size) {s with heap:=g,toks:=tk}) :
  aH (aI prog w) A (bA<|.ref e) Q E s:=by
 obtain⟨h0,ga,dr,t0,os⟩:=s;have ty:aC.TypeIs ⟨h0,ga,dr,t0,os⟩ (.ref e) "enumerate":=⟨_,he,rfl⟩
 replace he:eO h0 e I i iC:=he
 have qU:e<h0.objs.size:=bc he;unfold bA;refine ab<|cW<|fu (name:=ae "__next__") ty F.slot_enumerate_next<|gd F.slot_enumerate_next ty F.entry_enumerate_next ?_<|F.args_enumerate_next_1 _;show aH _ _ (pR (.ref e) 2 >>= _) _ _ ⟨h0,ga,dr,t0,os⟩;refine ab<|jv he rfl (x:=.ref I) rfl<|ab<|jU _ _ _ λx g1 tk yx n1 yK=>?_
 replace yK:br I h0 g1:=yK
 have e1:eO g1 e I i iC:=(yK.2 e dG).trans he;have z1:g1.objs.size=h0.objs.size:=yK.1;have k1:∀b o,b≠e->b≠I->h0.get? b=some o->g1.get? b=some o:=λb o _ hb h=>(yK.2 b hb).trans h;clear yK;show aH _ _ (pR (.ref e) 3 >>= _) _ _ ⟨g1,ga,dr,tk,os⟩;refine ab<|jv e1 rfl (x:=jG i) rfl ?_;show aH _ _ (pR (.ref e) 4 >>= _) _ _ ⟨g1,ga,dr,tk,os⟩;refine ab<|jv e1 rfl (x:=.none) rfl ?_;show aH _ _ (mkInt i >>= _) _ _ ⟨g1,ga,dr,tk,os⟩;refine ab<|wpAny_mkInt ?_;show aH _ _ (setField (.ref e) 3 (jG<|(i:Int)+1) >>= _) _ _ ⟨g1,ga,dr,tk+1,os⟩;refine ab<|cJ e1 (by simp) λg2 e2 yJ=>?_
 replace yJ:br e g1 g2:=yJ
 replace e2:eO g2 e I ((i:Int)+1) iC:=e2
 have z2:g2.objs.size=h0.objs.size:=yJ.1.trans z1;have n2:N g2:=hN _ _ n1 λo h=>(yJ.2 I<|Ne.symm dG).trans h;have k2:∀b o,b≠e->b≠I->h0.get? b=some o->g2.get? b=some o:=λb o hb hI h=>(yJ.2 b hb).trans (k1 b o hb hI h);clear yJ n1 k1 e1 z1;show aH _ _ (setField (.ref e) 4 .none >>= _) _ _ ⟨g2,ga,dr,tk+1,os⟩;refine ab<|cJ e2 (by simp) λg3 e3 tR=>?_
 replace tR:br e g2 g3:=tR
 replace e3:eO g3 e I ((i:Int)+1) iC:=e3
 have z3:g3.objs.size=h0.objs.size:=tR.1.trans z2;have n3:N g3:=hN _ _ n2 λo h=>(tR.2 I<|Ne.symm dG).trans h;have k3:∀b o,b≠e->b≠I->h0.get? b=some o->g3.get? b=some o:=λb o hb hI h=>(tR.2 b hb).trans (k2 b o hb hI h);clear tR n2 k2 e2 z2;show aH _ _ (lQ [.int i tk,x] >>= _) _ _ ⟨g3,ga,dr,tk+1,os⟩;refine ab<|wpAny_newTuple ?_;have e4:eO (g3.push {cls:=.type "tuple",data:=.seq #[.int i tk,x]}) e I ((i:Int)+1) iC:=ai _ e3;have n4:N (g3.push {cls:=.type "tuple",data:=.seq #[.int i tk,x]}):=hN _ _ n3 λo h=>ai _ h;have k4:∀b o,b≠e->b≠I->h0.get? b=some o->(g3.push {cls:=.type "tuple",data:=.seq #[.int i tk,x]}).get? b=some o:=λb o hb hI h=>ai _<|k3 b o hb hI h;have t4:(g3.push {cls:=.type "tuple",data:=.seq #[.int i tk,x]}).get? h0.objs.size=some {cls:=.type "tuple",data:=.seq #[.int i tk,x]}:=by have h:=a0 g3 (o:={cls:=.type "tuple",data:=.seq #[.int i tk,x]}) rfl;rw[z3]at h;exact h
 generalize hg4:g3.push {cls:=.type "tuple",data:=.seq #[.int i tk,x]}=g4 at *;show aH _ _ (Builtin.SmallTypes.ownedTupleIsFree (.ref e) >>= _) _ _ ⟨g4,ga,dr,tk+1,os⟩;rw[z3];clear hg4 n3 k3 e3 z3 g3;refine ab ?_;unfold Builtin.SmallTypes.ownedTupleIsFree;refine ab<|jv e4 rfl (x:=.none) rfl<|am ?_;simp only[if_true];refine ab<|lG<|ab<|jv e4 rfl (x:=iC) rfl<|ab<|cJ e4 (by simp) λg5 e5 Ew=>?_
 replace Ew:br e g4 g5:=Ew
 replace e5:eO g5 e I ((i:Int)+1) x:=e5
 show aH _ _ (Builtin.SmallTypes.ownedTupleHandOut (.ref e) (.ref h0.objs.size) >>= _) _ _ ⟨g5,ga,dr,tk+1,os⟩;refine ab ?_;unfold Builtin.SmallTypes.ownedTupleHandOut;refine ab<|cJ e5 (by simp) λg6 e6 Ev=>?_
 replace Ev:br e g5 g6:=Ev
 replace e6:Ei g6 e I ((i:Int)+1) x h0.objs.size:=e6
 refine cJ e6 (by simp) λg7 e7 Eu=>?_
 replace Eu:br e g6 g7:=Eu
 replace e7:Ei g7 e I ((i:Int)+1) x h0.objs.size:=e7
 have all:∀b o,b≠e->g4.get? b=some o->g7.get? b=some o:=λb o hb h=>(Eu.2 b hb).trans ((Ev.2 b hb).trans ((Ew.2 b hb).trans h));exact ab<|dR<|am ⟨_,rfl,am<|hQ x g7 _ tk yx e7 (hN _ _ n4 λo h=>all I o (Ne.symm dG) h) (all _ _ (Nat.ne_of_gt qU) t4) λb o hb hI h=>all b o hb<|k4 b o hb hI h⟩
def amj{e I:aF}{i:Int}{iC:aA}{Q:Option aA->aC->Prop}(he:eO s.heap e I i iC)
  (jU:∀(R:aA->aC->Prop)(E':aA->aC->Prop),(∀g x,jw I s.heap g->(∃o,g.get? x=some o/\o.cls=.type "StopIteration")->E' (.ref x) {s with heap:=g})->aH (aI prog w) A.in1 (ff<|.ref I) R E' s)
  (hQ:∀g,jw I s.heap g->Q none {s with heap:=g}):aH (aI prog w) A (bA<|.ref e) Q E s:=by
 have ty:s.TypeIs (.ref e) "enumerate":=⟨_,he,rfl⟩;unfold bA;refine ab<|cW<|fu (name:=ae "__next__") ty F.slot_enumerate_next<|gd F.slot_enumerate_next ty F.entry_enumerate_next ?_<|F.args_enumerate_next_1 _;show aH _ _ (pR (.ref e) 2 >>= _) _ _ s;refine ab<|jv he rfl (x:=.ref I) rfl<|ab<|jU _ _ λg x kp ⟨o,ho,hc⟩=>?_;exact ab<|cU (T:="StopIteration") (b:=true) ⟨o,ho,hc⟩ lU<|am<|hQ _ kp
end
section
variable{X:Cx}{aE:U (aF×Obj)}{σ:L2.St}{H:Hp}{s:aC}{h':Heap}
def aqr{t':Nat}{e it:aF}(I:Inv X aE σ H s)(k:∀b o,b≠e->b≠it->s.heap.get? b=some o->h'.get? b=some o)(fe:kZ X aE H e)(fi:kZ X aE H it):Inv X aE σ H {s with heap:=h',toks:=t'}:=by
 obtain⟨e0,e1,e2,e3,e4,e5⟩:=fe;obtain⟨i0,i1,i2,i3,i4,i5⟩:=fi;have nn:∀b u,H b=some u->b≠e/\b≠it:=λb u q=>⟨λz=>(by rw[z,e0]at q;cases q),λz=>(by rw[z,i0]at q;cases q)⟩;have sp:∀b,b∉[e,it]->b≠e/\b≠it:=λb hb=>by simpa using hb
 refine I.step (g':=s.gens) (d':=s.drawn) (ch:=[e,it]) (λb hb=>?_) (λb o _ _ hc q _=>k b o (sp b hc).1 (sp b hc).2 q) (λb o _ _ hc q _=>⟨o.slots,k b o (sp b hc).1 (sp b hc).2 q⟩) (λ_ _ _ _ n=>n)
  (λb o hc q=>⟨o,k b o (sp b hc).1 (sp b hc).2 q⟩) (λ_ _ q=>q) (λ_ _ _ q=>q) (λb ps q=>⟨#[],by rw[q];simp⟩) (λm hm=>?_) (λb u q=>?_) I.bare
 .rcases ap.mp hb with z|z
  .subst z;exact⟨e3,e1,e4,e5⟩
  .rw[ar.mp z];exact⟨i3,i1,i4,i5⟩
 .obtain⟨o,es,ep,ho,r⟩:=hm;exact(lq o es ep ⟨k _ o (Ne.symm e1) (Ne.symm i1) ho,r⟩)
 .refine(I.hok b u q).stay (λc v hc r=>k c v ?_ ?_ r) (λ_ r=>r) λ_ _ r=>r
  .rcases hc with z|z
   .rw[z];exact(nn b u q).1
   .exact(nn c _ z).1
  .rcases hc with z|z
   .rw[z];exact(nn b u q).2
   .exact(nn c _ z).2
end
def ad5{P:aJ}{w:aL}{K:au}{jB:U Expr}{x1}{pos:dE}(J:It)(e I:aF)(dG:e≠I)(M:Nat->Heap->Prop)
  (mR:∀i h,M i h->∃o,h.get? I=some o/\∀v,o.data≠.cell v) (fN:∀i h h',M i h->(∀o,h.get? I=some o->h'.get? I=some o)->M i h')
  (Br:∀(X:Cx),X.prog=P->X.w=w->X.K=K->∀(i:Nat) aE (s:aC) σ H,Inv X aE σ H s->M i s.heap->J.go i H->∃Y:aA->Prop,
   (∀u,Y u->∃x,RelV x u/\J.yld i H (.ref s.heap.objs.size) (upd H s.heap.objs.size<|.tup [.int i,x]))/\
   ∀(A':Around)(R:aA->aC->Prop)(E':aA->aC->Prop),(∀u g tk,Y u->M (i+1) g->br I s.heap g->R u {s with heap:=g,toks:=tk})->aH (aI P w) A' (ff<|.ref I) R E' s)
  (By:∀(X:Cx),X.prog=P->X.w=w->X.K=K->∀(i:Nat) aE (s:aC) σ H,Inv X aE σ H s->M i s.heap->J.stop i H->
   ∀(A':Around)(R:aA->aC->Prop)(E':aA->aC->Prop),A'.handled=none->(∀g u,jw I s.heap g->(∃o,g.get? u=some o/\o.cls=.type "StopIteration")->E' (.ref u) {s with heap:=g})->aH (aI P w) A' (ff<|.ref I) R E' s) :
  rH P w K (.Tuple jB x1 pos) J [e,I] e (λi h=>(∃iC,eO h e I i iC)/\M i h)where
 mem:=by simp
 obj:=λi h st b hb=>by
  obtain⟨⟨iC,he⟩,m⟩:=st;rcases ap.mp hb with z|z
  .subst z;exact⟨_,he,λv z=>by cases z⟩
  .rw[ar.mp z];exact mR i h m
 keep:=λi h h' st k=>by obtain⟨⟨iC,he⟩,m⟩:=st;exact⟨⟨iC,k e (by simp) _ he⟩,fN i h h' m λo q=>k I (by simp) o q⟩
 item:=by
  intro X hP hw hK hc i aE s σ H E Iv hf st hg;obtain⟨⟨iC,he⟩,m⟩:=st;obtain⟨Y,hY,jU⟩:=Br X hP hw hK i aE s σ H Iv m hg;subst hP hw hK;have fe:=hf e (by simp);have fi:=hf I (by simp);have qU:e<s.heap.objs.size:=bc he;obtain⟨oi,hoi,_⟩:=mR i _ m;have jV:I<s.heap.objs.size:=bc hoi;refine aiw he dG (N:=M<|i+1) (λg g' n k=>fN _ _ _ n k) jU λu g tk rW yu eo n t4 k=>⟨_,rfl,?_⟩;refine wpAny_letOwnedTupleGo_enum (s:={s with heap:=g,toks:=tk}) eo λg' e' sb=>?_;obtain⟨v,rv,yl⟩:=hY u yu;have I1:Inv X aE σ (upd H s.heap.objs.size<|.tup [.int i,v]) {s with heap:=s.heap.push {cls:=.type "tuple",data:=.seq #[.int i rW,u]},toks:=tk}:=
   Iv.laid (t':=tk) (λb o q=>ai _ q) (aq _) ⟨by show 2<=aG;decide,[.int i rW,u],.cons ⟨rW,rfl⟩<|.cons rv .nil,(my _ (a0 _ rfl) rfl _ rfl)⟩
  have up:∀b,b<s.heap.objs.size->kZ X aE H b->kZ X aE (upd H s.heap.objs.size<|.tup [.int i,v]) b:=λb hb q=>⟨by rw[kg (ca hb)];exact q.1,q.2⟩;have I2:Inv X aE σ (upd H s.heap.objs.size<|.tup [.int i,v]) {s with heap:=g,toks:=tk}:=aqr (s:={s with heap:=s.heap.push {cls:=.type "tuple",data:=.seq #[.int i rW,u]},toks:=tk}) (t':=tk) I1 (λb o h1 h2 q=>by
   rcases Heap.get?_push_cases q with ⟨z1,z2⟩|z
   .rw[z1,z2];exact t4
   .exact k b o h1 h2 z) (up e qU fe)<|up I jV fi
  have zJ:=up e qU fe;have I3:Inv X aE σ (upd H s.heap.objs.size<|.tup [.int i,v]) {s with heap:=g',toks:=tk}:=Inv.turned (s:={s with heap:=g,toks:=tk}) (t':=tk) I2 (λb o hb q=>(sb.2 b hb).trans q) zJ.1 zJ.2.1 zJ.2.2.2.1 zJ.2.2.2.2.1 zJ.2.2.2.2.2;refine(kl (.ref s.heap.objs.size) _ ⟨I3,rfl,yl,⟨⟨u,e'⟩,fN _ _ _ n λo q=>(sb.2 I<|Ne.symm dG).trans q⟩,λb hb=>?_⟩);rcases ap.mp hb with z|z
  .subst z;exact zJ.1
  .rw[ar.mp z];exact(up I jV fi).1
 done:=by intro X hP hw hK hc i aE s σ H E Iv hf st hg;obtain⟨⟨iC,he⟩,m⟩:=st;have hd:=By X hP hw hK i aE s σ H Iv m hg;subst hP hw hK;have fi:=hf I (by simp);exact amj he (λR E' q=>hd _ R E' (Iv.ok.hd hc) q) λg kp=>⟨rfl,Iv.turned (t':=s.toks) (λb o hb q=>kp b o hb q) fi.1 fi.2.1 fi.2.2.2.1 fi.2.2.2.2.1 fi.2.2.2.2.2⟩
 self:=λ_ _ _ _ _ st h=>by obtain⟨⟨iC,he⟩,_⟩:=st;exact iI he h
noncomputable def Jes(z:Str):It:=
 ⟨λi _=>i<z.cps.toList.length,λi H v H'=>∃p c,H p=none/\v=.ref p/\H'=upd H p (.tup [.int i,.str ⟨#[c]⟩])/\z.cps.toList[i]?=some c,λi _=>z.cps.toList.length<=i⟩
def ahq{P:aJ}{w:aL}{K:au}{jB:U Expr}{x1}{pos:dE}(z:Str)(t:gR)(e I:aF)(dG:e≠I) :
  rH P w K (.Tuple jB x1 pos) (Jes z) [e,I] e (λi h=>(∃iC,eO h e I i iC)/\h.IsStrIter I "str_ascii_iterator" z t i):=by
 refine ad5 (Jes z) e I dG (λi h=>h.IsStrIter I "str_ascii_iterator" z t i) (λi h st=>?_) (λi h h' st k=>?_) (λX hP hw hK i aE s σ H Iv st hg=>?_) λX hP hw hK i aE s σ H Iv st hg A' R E' hh q=>?_
 .obtain⟨o,ho,c,d⟩:=st;exact⟨o,ho,λv z=>by rw[d]at z;cases z⟩
 .obtain⟨o,ho,r⟩:=st;exact⟨o,k o ho,r⟩
 .subst hP hw hK;have hi:i<z.cps.size:=by simpa [Jes]using hg
  refine⟨λu=>∃tk,u=.str ⟨#[z.cps[i]]⟩ tk,λu hu=>?_,λA' R E' q=>?_⟩
  .obtain⟨tk,rfl⟩:=hu;exact(m6 (.str ⟨#[z.cps[i]]⟩) ⟨tk,rfl⟩ s.heap.objs.size (z.cps[i]) ⟨Iv.hok.fresh<|aq _,rfl,rfl,by simp[hi]⟩)
  .exact asq st (c:=z.cps[i]) (by simp[hi]) λg gH sb=>q _ g _ ⟨_,rfl⟩ gH sb
 .subst hP hw hK;have hi:z.cps.size<=i:=by simpa [Jes]using hg
  exact ahv hh st (by simp;lia) q
section
variable{X:Cx}{jB:U Expr}{x1:Nat}{rV p pos:dE}{a:Expr}{ta:TA}
def ayk(ta:TA):TI:=λσ H R=>ta σ H λvs H1=>∃z:Str,vs=[.str z]/\(∀c∈z.cps.toList,c<128)/\R (Jes z) H1
def asw(hg:Gl X "enumerate")(hm:X.mg "enumerate" = none)(ha:PA X [a] ta)(hs:oz a=true:=by rfl):PI X (.Tuple jB x1 rV) (.Call (.Name "enumerate" p) [a] [] pos) (ayk ta):=by
 intro aE s σ H R I h;refine Call_<|so I hg hm boot_enumerate<|en (thn (ha pos aE s σ H _ I h) λus s1 ⟨vs,H1,I1,r1,q1⟩=>?_) (m7 hs) rfl;obtain⟨z,e,hz,q⟩:=q1;subst e;obtain⟨u,rfl,t,rfl⟩:=qv r1;have asc:strIterType z="str_ascii_iterator":=by unfold strIterType;rw[if_pos];rw[Array.all_eq_true'];intro c hc;simpa using hz c (by simpa using hc)
 refine call_enumerate_str λg he hi _ kp=>iI (s:={s1 with heap:=g}) he ?_;rw[asc]at hi;refine(me (s1.heap.objs.size+1) ([s1.heap.objs.size+1,s1.heap.objs.size]) _ _ H1 ⟨rfl,I1.kept (t':=s1.toks) kp,ahq z t (s1.heap.objs.size+1) s1.heap.objs.size<|Nat.succ_ne_self _,⟨⟨_,he⟩,hi⟩,λc hc=>?_,q⟩);rcases ap.mp hc with z|z
 .subst z;exact I1.fpOk (by lia)<|I1.hok.fresh<|by lia
 .rw[ar.mp z];exact I1.fpOk (aq _)<|I1.hok.fresh<|aq _
end
def ajq(J:It)(n:Nat){g:TG}{tb:TS}{D:mI}{σ:L2.St}{H:Hp}(Pv:Nat->L2.St->Hp->Prop)(h0:Pv 0 σ H)(sT:∀i σ H,i<n->Pv i σ H->J.go i H)(bJ:∀σ H,Pv n σ H->J.stop n H)
  (hs:∀i v σ H H',i<n->Pv i σ H->J.yld i H v H'->g v σ H' λσ2 H2=>tb {D with nx:=Pv<|i+1,ct:=Pv<|i+1,bk:=D.nx} σ2 H2) (hd:∀σ H,Pv n σ H->D.nx σ H) :
  ∃W:Nat->Nat->L2.St->Hp->Prop,(∃m,W 0 m σ H)/\∀i m σ H,W i m σ H->
   (J.stop i H/\D.nx σ H)\/(J.go i H/\∃N:L2.St->Hp->Prop,(∀σ' H',N σ' H'->∃m',m'<m/\W (i+1) m' σ' H')/\∀v H',J.yld i H v H'->g v σ H' λσ2 H2=>tb {D with nx:=N,ct:=N,bk:=D.nx} σ2 H2):=by
 refine⟨λi m σ H=>m=n-i/\i<=n/\Pv i σ H,⟨n,by simp,dv _,h0⟩,?_⟩;rintro i m σ H ⟨rfl,hi,p⟩;by_cases bL:i<n
 .exact .inr ⟨sT i σ H bL p,Pv<|i+1,λσ' H' p'=>⟨n-(i+1),by lia,rfl,bL,p'⟩,λv H' y=>hs i v σ H H' bL p y⟩
 .have e:i=n:=by lia
  subst e;exact .inl ⟨bJ σ H p,hd σ H p⟩
def aqi{z:Str}{g:TG}{tb:TS}{D:mI}{σ:L2.St}{H:Hp}(Pv:Nat->L2.St->Hp->Prop)(h0:Pv 0 σ H)
  (hs:∀i c p σ H,z.cps.toList[i]?=some c->H p=none->Pv i σ H->g (.ref p) σ (upd H p<|.tup [.int (i:Nat),.str ⟨#[c]⟩]) λσ2 H2=>tb {D with nx:=Pv<|i+1,ct:=Pv<|i+1,bk:=D.nx} σ2 H2) (hd:∀σ H,Pv z.cps.toList.length σ H->D.nx σ H) :
  ∃W:Nat->Nat->L2.St->Hp->Prop,(∃m,W 0 m σ H)/\∀i m σ H,W i m σ H->
   ((Jes z).stop i H/\D.nx σ H)\/((Jes z).go i H/\∃N:L2.St->Hp->Prop,(∀σ' H',N σ' H'->∃m',m'<m/\W (i+1) m' σ' H')/\∀v H',(Jes z).yld i H v H'->g v σ H' λσ2 H2=>tb {D with nx:=N,ct:=N,bk:=D.nx} σ2 H2):=by
 refine ajq (Jes z) z.cps.toList.length Pv h0 (λi σ H hi p=>hi) (λσ H p=>aq _) (λi v σ H H' hi p y=>?_) hd;obtain⟨b,c,hb,rfl,rfl,hc⟩:=y;exact hs i c b σ H hc hb p
section
variable{X:Cx}
def ayi:U V->Hp->VK->Prop:=λxs H Q=>∃(p:aF)(bs:U Bool),xs=[.ref p]/\H p=some (.lst<|bs.map V.bl)/\Q (.bl<|bs.any id) H
def als:∀(bs:U Bool),((cz bs.length).any λi=>(bs[i]?).getD true)=bs.any id:=λbs=>by
 rw[du,List.any_eq_true,List.any_eq_true];constructor
 .rintro⟨i,hi,h⟩;have eZ:i<bs.length:=by simpa using hi
  exact⟨bs[i],dq eZ,by simpa [eZ]using h⟩
 .rintro⟨b,hb,h⟩;obtain⟨i,hi,rfl⟩:=jb.mp hb;exact⟨i,by simpa using hi,by simpa [hi]using h⟩
def al2(hc:X.calm=true):qp X (.builtin "any") ayi:=by
 intro aE s σ H xs us Q I r h;obtain⟨p,bs,rfl,hp,q⟩:=h;obtain⟨u,rfl,r1⟩:=qv r;cases (show u=aA.ref p from r1);obtain⟨its,rv,pl,hz⟩:=I.list<|SqL.of (K:=X.K) hp;have bL:p<s.heap.objs.size:=by obtain⟨_,_,e,_⟩:=pl;exact bc e
 have aR:its.length=bs.length:=by rw[<-rv.length,ac]
 refine call_any_walk<|jc pl.isList ?_;refine⟨s.heap.objs.size,[s.heap.objs.size,p],[s.heap.objs.size],its.toArray.size,_,_,λi=>(bs[i]?).getD true,rfl,gQ.list (A:=X.A.in1) (I.ok.hd hc) _ p (ca bL) its.toArray,
  ⟨⟨_,a0 _ rfl,rfl,rfl⟩,pl.isList.push _⟩,λi v s' Q' E' hP hQ=>?_,λh' tk hk=>?_⟩
 .have hi:its[i]?=some v:=by simpa using hP
  have pI:i<bs.length:=by rw[<-aR];exact(af.mp hi).1
  obtain⟨u',e1,e2⟩:=rv.get (i:=i) (x:=.bl bs[i]) (by rw[a6,aa pI];rfl);rw[hi]at e1;cases e1;cases (show v=aA.bool bs[i]from e2);have BG:Q' ((bs[i]?).getD true) s':=hQ;rw[aa pI]at BG;exact dz BG
 .refine(kl (.bl _) H ⟨I.kept λb o e=>hk b o (λhm=>?_)<|ai _ e,rfl,?_⟩)
  .rw[ar.mp hm]at e;exact gx _<|bc e
  .rw[bf,aR,als];exact q
end
end L3
namespace L3
open PySem
noncomputable def sm5:Nat->Nat
 | 0=>0
 | m+1=>5*sm5 m+1
noncomputable def g5(m i:Nat):Nat:=5^m*i+sm5 m
def IC(m i:Nat):g5 (m+1) i=5*g5 m i+1:=by show 5^(m+1)*i+(5*sm5 m+1)=5*(5^m*i+sm5 m)+1;rw[jg,Nat.mul_add,Nat.mul_comm (5^m) 5,Nat.mul_assoc,Nat.add_assoc]
theorem aoh(m n i:Nat):g5 (m+n) i=g5 m (g5 n i):=by
 induction m with
 | zero=>rw[Nat.zero_add];unfold g5 sm5;simp
 | succ m ih=>rw[Nat.succ_add,IC,ih,IC]
def aph(m n:Nat):sm5 (m+n)=5^m*sm5 n+sm5 m:=by have h:=aoh m n 0;unfold g5 at h;simpa using h
theorem agl:∀k,∃c d:Nat,5^(2^k)=1+2^(k+2)*c/\sm5 (2^k)=2^k*(2*d+1)
 | 0=>(kl 1 0 ⟨rfl,rfl⟩)
 | k+1=>by
  obtain⟨c,d,h1,h2⟩:=agl k;have e:2^(k+1)=2^k+2^k:=by rw[jg];lia
  refine(kl (c+2^(k+1)*c*c) (d+2^k*c*(2*d+1)) ⟨?_,?_⟩)
  .rw[e,Nat.pow_add,h1,show 2^(k+1+2)=8*2^k by rw[Nat.pow_add,Nat.pow_add];lia,show 2^(k+2)=4*2^k by rw[Nat.pow_add];lia];generalize 2^k=A
   grind
  .rw[e,aph,h1,h2,show 2^(k+2)=4*2^k by rw[Nat.pow_add];lia];generalize 2^k=A
   grind
def arm(k i:Nat):g5 (2^k) i % 2^(k+1)=(i+2^k) % 2^(k+1):=by
 obtain⟨c,d,h1,h2⟩:=agl k;unfold g5;rw[h1,h2];have e3:2^(k+2)=2^(k+1)*2:=by rw[show k+2=(k+1)+1 by lia,jg]
 have e:(1+2^(k+2)*c)*i+2^k*(2*d+1)=(i+2^k)+2^(k+1)*(2*(c*i)+d):=by rw[e3,jg];generalize 2^k=A;simp only[Nat.add_mul,Nat.mul_add,Nat.one_mul,Nat.mul_one,Nat.mul_assoc,Nat.mul_comm,Nat.mul_left_comm];lia
 rw[e,Nat.add_mul_mod_self_left]
theorem Iw:∀(k i j:Nat),∃m,m<2^k/\g5 m i % 2^k=j % 2^k
 | 0,i,j=>⟨0,by decide,by simp[Nat.mod_one]⟩
 | k+1,i,j=>by
  obtain⟨m,hm,e⟩:=Iw k i j;have e2:2^(k+1)=2*2^k:=by rw[jg];lia
  by_cases h:g5 m i % 2^(k+1)=j % 2^(k+1)
  .exact⟨m,by lia,h⟩
  .refine⟨2^k+m,by lia,?_⟩;rw[aoh,arm];have a:=Nat.mod_add_div (g5 m i)<|2^(k+1);have l1:g5 m i % 2^(k+1)<2^(k+1):=Nat.mod_lt _ (by rw[e2];have:=Nat.two_pow_pos k;lia);have l2:j % 2^(k+1)<2^(k+1):=Nat.mod_lt _ (by rw[e2];have:=Nat.two_pow_pos k;lia);have m1:g5 m i % 2^(k+1) % 2^k=g5 m i % 2^k:=Nat.mod_mod_of_dvd _ ⟨2,by rw[e2];lia⟩;have m2:j % 2^(k+1) % 2^k=j % 2^k:=Nat.mod_mod_of_dvd _ ⟨2,by rw[e2];lia⟩;rw[Nat.add_mod,ge (show 2^k<2^(k+1) by have:=Nat.two_pow_pos k;lia)];generalize g5 m i % 2^(k+1)=x at *;generalize j % 2^(k+1)=y at *;rw[<-m1,<-m2]at e;generalize 2^(k+1)=A at *;generalize 2^k=B at *;subst e2;have hx:x % B=if x<B then x else x-B:=by
    split
    .exact ge<|by assumption
    .rw[Nat.mod_eq_sub_mod (by lia),ge<|by lia]
   have hy:y % B=if y<B then y else y-B:=by
    split
    .exact ge<|by assumption
    .rw[Nat.mod_eq_sub_mod (by lia),ge<|by lia]
   rw[hx,hy]at e;have hz:(x+B) % (2*B)=if x+B<2*B then x+B else x+B-2*B:=by
    split
    .exact ge<|by assumption
    .rw[Nat.mod_eq_sub_mod (by lia),ge<|by lia]
   rw[hz];split at e<;>split at e<;>split<;>lia
open SetTable
noncomputable def itn{α:Type}(f:α->α):Nat->α->α
 | 0,x=>x
 | n+1,x=>itn f n<|f x
theorem sr{α:Type}(f:α->α):∀(m n:Nat)(x:α),itn f (m+n) x=itn f n (itn f m x)
 | 0,n,x=>by rw[Nat.zero_add];rfl
 | m+1,n,x=>by rw[Nat.succ_add];exact sr f m n<|f x
def Jb{α:Type}(f:α->α)(n:Nat)(x:α):itn f (n+1) x=f (itn f n x):=by rw[sr f n 1 x];rfl
noncomputable def adv(mask:Nat)(p:Probe):Probe:=
 if p.more>0 then{p with j:=p.j+1,more:=p.more-1}else
 {p with j:=(leap mask p.i p.perturb).1,more:=runEnd mask (leap mask p.i p.perturb).1-(leap mask p.i p.perturb).1,i:=(leap mask p.i p.perturb).1,perturb:=(leap mask p.i p.perturb).2}
noncomputable def lp(mask:Nat)(x:Nat×Nat):Nat×Nat:=leap mask x.1 x.2
noncomputable def at0(mask:Nat)(x:Nat×Nat)(d:Option Nat):Probe:=⟨x.1,runEnd mask x.1-x.1,x.1,x.2,d⟩
def aoo(mask i:Nat):runEnd mask i-i<=9:=by unfold runEnd;split<;>lia
theorem Ea(mask:Nat):∀(m:Nat)(p:Probe),p.more=m->itn (adv mask) (m+1) p=at0 mask (lp mask (p.i,p.perturb)) p.dummy
 | 0,p,h=>by show adv mask p=_;unfold adv;rw[if_neg (by lia)];rfl
 | m+1,p,h=>by
  show itn (adv mask) (m+1) (adv mask p)=_;have e:adv mask p={p with j:=p.j+1,more:=p.more-1}:=by unfold adv;rw[if_pos (by lia)]
  rw[e,Ea mask m _<|by show p.more-1=m;lia]
theorem HF(mask:Nat):∀(m:Nat)(x:Nat×Nat)(d:Option Nat),∃n,n<=10*m/\itn (adv mask) n (at0 mask x d)=at0 mask (itn (lp mask) m x) d
 | 0,x,d=>⟨0,aq _,rfl⟩
 | m+1,x,d=>by
  have h:=Ea mask _ (at0 mask x d) rfl;obtain⟨n,hn,e⟩:=HF mask m (lp mask x) d;refine⟨((at0 mask x d).more+1)+n,?_,?_⟩
  .have:(at0 mask x d).more<=9:=aoo mask x.1;lia
  .rw[sr,h];exact e
theorem Jm(mask:Nat):∀(m:Nat)(x:Nat×Nat)(b:Nat),x.2<32^b->(itn (lp mask) m x).2<32^(b-m)
 | 0,x,b,h=>by simpa [itn]using h
 | m+1,x,b,h=>by
  have h':(lp mask x).2<32^(b-1):=by
   show x.2/32<32^(b-1);cases b with
   | zero=>simp at h;simp[h]
   | succ b=>
    rw[jg]at h;simpa using Nat.div_lt_of_lt_mul (by lia)
  have:=Jm mask m (lp mask x) (b-1) h';rw[show b-(m+1)=b-1-m by lia];exact this
theorem we{mask k:Nat}(hk:mask+1=2^k):∀(m i:Nat),i<2^k->itn (lp mask) m (i,0)=(g5 m i % 2^k,0)
 | 0,i,h=>by
  have e:g5 0 i=i:=by unfold g5 sm5;simp
  rw[e,ge h];rfl
 | m+1,i,h=>by
  rw[Jb,we hk m i h];show((g5 m i % 2^k*5+1+0/32) % (mask+1),0/32)=_;rw[hk,IC];have e:(g5 m i % 2^k*5+1+0/32) % 2^k=(5*g5 m i+1) % 2^k:=by rw[show 0/32=0 from rfl,Nat.add_zero,Nat.mul_comm,Nat.add_mod,Nat.mul_mod,Nat.mod_mod,<-Nat.mul_mod,<-Nat.add_mod]
  rw[e]
def HS{mask k:Nat}(hk:mask+1=2^k)(x:Nat×Nat):(lp mask x).1<2^k:=by show(x.1*5+1+x.2/32) % (mask+1)<2^k;rw[hk];exact Nat.mod_lt _<|Nat.two_pow_pos k
def auc{mask k:Nat}(hk:mask+1=2^k)(p:Probe)(hm:p.more<=9)(hp:p.perturb<2^64)(j:Nat)(hj:j<=mask):∃n,n<10*turns mask/\(itn (adv mask) n p).j=j:=by
 have h1:=Ea mask p.more p rfl;obtain⟨n2,jZ,e2⟩:=HF mask 12 (lp mask (p.i,p.perturb)) p.dummy;have hz:(itn (lp mask) 12<|lp mask (p.i,p.perturb)).2<32^(13-13):=by have:=Jm mask 13 (p.i,p.perturb) 13 (by show p.perturb<32^13;exact ci hp<|by decide);exact this
 have lV:(itn (lp mask) 12<|lp mask (p.i,p.perturb)).2=0:=by simpa using hz
 have hi:(itn (lp mask) 12<|lp mask (p.i,p.perturb)).1<2^k:=by rw[Jb];exact HS hk _
 generalize itn (lp mask) 12 (lp mask (p.i,p.perturb))=y at *;obtain⟨y1,y2⟩:=y;simp only at lV hi;subst lV;obtain⟨m,uN,e3⟩:=Iw k y1 j;obtain⟨n3,kW,e4⟩:=HF mask m (y1,0) p.dummy;rw[we hk m y1 hi,e3,ge<|by lia]at e4;refine⟨(p.more+1)+(n2+n3),?_,?_⟩
 .unfold turns;lia
 .rw[sr,h1,sr,e2,e4];rfl
end L3
namespace L3
open PySem SetTable
def Low(xs:Array Nat)(j b:Nat):Prop:=b<=xs.size/\(∀i v,i<b->xs[i]?=some v->v<j)/\(∀i v,b<=i->xs[i]?=some v->j<=v)
def Ee{xs:Array Nat}(h:xs.toList.Pairwise (· < ·)){i k v u:Nat}(hi:xs[i]?=some v)(hk:xs[k]?=some u)(hik:i<k):v<u:=by rw[<-bv]at hi hk;obtain⟨h1,rfl⟩:=af.mp hi;obtain⟨h2,rfl⟩:=af.mp hk;exact cp.mp h i k h1 h2 hik
theorem Je{xs:Array Nat}(h:xs.toList.Pairwise (· < ·))(j:Nat):∀(fuel lo hi:Nat),hi-lo<=fuel->lo<=hi->hi<=xs.size->(∀i v,i<lo->xs[i]?=some v->v<j)->(∀i v,hi<=i->xs[i]?=some v->j<=v)->
  Low xs j (below.go xs j fuel lo hi)
 | 0,lo,hi,h1,h2,h3,a,b=>by
  have e:lo=hi:=by lia
  subst e;exact⟨h3,a,b⟩
 | fuel+1,lo,hi,h1,h2,h3,a,b=>by
  unfold below.go;by_cases bL:lo<hi
  .rw[if_pos bL];have hm:(lo+hi)/2<xs.size:=by lia
   have e:xs.getD ((lo+hi)/2) j=xs[(lo+hi)/2]:=by simp[Array.getD,hm]
   have e':xs[(lo+hi)/2]?=some xs[(lo+hi)/2]:=by simp[hm]
   dsimp only;rw[e];by_cases hc:xs[(lo+hi)/2]<j
   .rw[if_pos hc];refine Je h j fuel _ _ (by lia) (by lia) h3 (λi v eZ hv=>?_) b;by_cases q:i=(lo+hi)/2
    .subst q;rw[e']at hv;cases hv;exact hc
    .have:=Ee h hv e' (by lia);lia
   .rw[if_neg hc];refine Je h j fuel _ _ (by lia) (by lia) (by lia) a λi v eZ hv=>?_;by_cases q:i=(lo+hi)/2
    .subst q;rw[e']at hv;cases hv;lia
    .have:=Ee h e' hv (by lia);lia
  .rw[if_neg bL];have e:lo=hi:=by lia
   subst e;exact⟨h3,a,b⟩
def vf{xs:Array Nat}(h:xs.toList.Pairwise (· < ·))(j:Nat):Low xs j (below xs j):=
 Je h j xs.size 0 xs.size (by lia) (by lia) (aq _) (λi v hi=>by lia) (λi v hi hv=>by have:=(ck.mp hv).1;lia)
def Jf{xs:Array Nat}(h:xs.toList.Pairwise (· < ·)){i j:Nat}(hi:xs[i]?=some j):below xs j=i:=by
 obtain⟨a,b,c⟩:=vf h j;by_cases q:i<below xs j
 .have:=b i j q hi;lia
 by_cases q2:below xs j<i
 .have hl:=(ck.mp hi).1;have e':xs[below xs j]?=some xs[below xs j]:=by simp
  have:=Ee h e' hi q2;have:=c _ _ (aq _) e';lia
 .lia
def Jl{t:SetTable}(h:t.place.toList.Pairwise (· < ·)){i j:Nat}(hi:t.place[i]?=some j):t.slot j=.live i:=by unfold slot;rw[Jf h hi];dsimp only;rw[hi,if_pos<|by simp]
def ahx{t:SetTable}(h:t.place.toList.Pairwise (· < ·))(hd:t.dummies=#[]){j:Nat}(hj:j∉t.place.toList):t.slot j=.empty:=by
 unfold slot;dsimp only;rw[if_neg,if_neg]
 .rw[hd];unfold has;simp
 .intro e;have e':t.place[below t.place j]?=some j:=by simpa using e
  apply hj;rw[<-bv]at e';exact ah e'
def al9{t:SetTable}{j:Nat}(hj:j∈t.place.toList):∃i:Nat,t.place[i]?=some j:=by obtain⟨i,h⟩:=dw hj;exact⟨i,by rw[<-bv];exact h⟩
def oq{α:Type}(xs:Array α)(p:Nat)(x:α):(insertAt xs p x).toList=xs.toList.take p++x::xs.toList.drop p:=by unfold insertAt;simp[Array.toList_extract];rw[av (by simp)]
def ae8{xs:Array Nat}(h:xs.toList.Pairwise (· < ·)){j:Nat}(hj:j∉xs.toList):(insertAt xs (below xs j) j).toList.Pairwise (· < ·):=by
 obtain⟨a,b,c⟩:=vf h j;rw[oq,List.pairwise_append];refine⟨h.sublist<|List.take_sublist _ _,?_,?_⟩
 .rw[f8];refine⟨λv hv=>?_,h.sublist<|List.drop_sublist _ _⟩;obtain⟨i,hi⟩:=dw hv;rw[iy,bv]at hi;have:=c _ v (by lia) hi;have:v≠j:=λe=>hj (by rw[<-e];rw[<-bv]at hi;exact ah hi);lia
 .intro u hu v hv;obtain⟨i,hi⟩:=dw hu;have pI:i<below xs j:=by
   have:=(af.mp hi).1;rw[c8]at this;lia
  rw[gg pI,bv]at hi;have h1:=b i u pI hi;rcases ap.mp hv with rfl|hv
  .exact h1
  .obtain⟨i',eZ⟩:=dw hv;rw[iy,bv]at eZ;have:=c _ v (by lia) eZ;lia
def zQ(ps:U Nat)(es:U (Int×aA))(j:Nat)(e:Int×aA):Prop:=∃i:Nat,ps[i]?=some j/\es[i]?=some e
theorem afg{ps:U Nat}{es:U (Int×aA)}(hl:ps.length=es.length)(p j0:Nat)(hp:p<=ps.length)(e0:Int×aA){j:Nat}{e:Int×aA} :
  zQ (ps.take p++j0::ps.drop p) (es.take p++e0::es.drop p) j e↔(j=j0/\e=e0)\/zQ ps es j e:=by
 have l1:(ps.take p).length=p:=by rw[c8];lia
 have l2:(es.take p).length=p:=by rw[c8];lia
 constructor
 .rintro⟨i,h1,h2⟩;by_cases hi:i<p
  .rw[bp (by lia),gg hi]at h1 h2;exact .inr ⟨i,h1,h2⟩
  .rw[bj (by lia),l1]at h1;rw[bj (by lia),l2]at h2;cases hq:i-p with
   | zero=>rw[hq]at h1 h2;cases h1;cases h2;exact .inl ⟨rfl,rfl⟩
   | succ q=>
    rw[hq,List.getElem?_cons_succ,iy]at h1 h2;exact .inr ⟨p+q,h1,h2⟩
 .rintro(⟨rfl,rfl⟩|⟨i,h1,h2⟩)
  .exact⟨p,by rw[bj (by lia),l1,iz];rfl,by rw[bj (by lia),l2,iz];rfl⟩
  .by_cases hi:i<p
   .exact⟨i,by rw[bp (by lia),gg hi];exact h1,by rw[bp (by lia),gg hi];exact h2⟩
   .refine⟨i+1,?_,?_⟩
    .rw[bj (by lia),l1,show i+1-p=(i-p)+1 by lia,List.getElem?_cons_succ,iy,show p+(i-p)=i by lia];exact h1
    .rw[bj (by lia),l2,show i+1-p=(i-p)+1 by lia,List.getElem?_cons_succ,iy,show p+(i-p)=i by lia];exact h2
noncomputable def st0(mask:Nat)(h:Int):Probe:=at0 mask (bits h % (mask+1),bits h) none
def al7(t:SetTable)(h:Int):t.probeStart h=st0 t.mask h:=rfl
noncomputable def qe(mask:Nat)(h:Int)(n:Nat):Nat:=(itn (adv mask) n<|st0 mask h).j
def IA(h:Int):bits h<2^64:=by unfold bits;lia
def tE(mask:Nat)(p:Probe):Prop:=p.more<=9/\p.perturb<2^64/\p.j+p.more<=mask
def adt(mask:Nat)(x:Nat×Nat)(d:Option Nat)(h1:x.1<=mask)(h2:x.2<2^64):tE mask (at0 mask x d):=by refine⟨aoo mask x.1,h2,?_⟩;show x.1+(runEnd mask x.1-x.1)<=mask;unfold runEnd;split<;>lia
def alp{mask:Nat}{p:Probe}(h:tE mask p):tE mask (adv mask p):=by
 obtain⟨h1,h2,h3⟩:=h;unfold adv;split
 .exact⟨by simp only;lia,h2,by simp only;lia⟩
 .refine adt mask (leap mask p.i p.perturb) p.dummy ?_ ?_
  .show(p.i*5+1+p.perturb/32) % (mask+1)<=mask;have:=Nat.mod_lt (p.i*5+1+p.perturb/32) (show 0<mask+1 by lia);lia
  .show p.perturb/32<2^64;lia
theorem Jh{mask:Nat}:∀(n:Nat) {p:Probe},tE mask p->tE mask (itn (adv mask) n p)
 | 0,_,h=>h
 | n+1,_,h=>Jh n<|alp h
def xn(mask:Nat)(h:Int):tE mask (st0 mask h):=adt mask _ _ (by
 have:=Nat.mod_lt (bits h) (show 0<mask+1 by lia);show bits h % (mask+1)<=mask;lia)<|IA h
def apt(mask:Nat)(h:Int)(n:Nat):qe mask h n<=mask:=by have:=(Jh n<|xn mask h).2.2;unfold qe;lia
structure TOk(t:SetTable)(es:Array (Int×aA)):Prop where
 two:∃k,t.mask+1=2^k/\3<=k/\k<=13/\k % 2=1
 dm:t.dummies=#[]
 rise:t.place.toList.Pairwise (· < ·)
 bd:∀j∈t.place.toList,j<=t.mask
 sz:t.place.size=es.size
 fit:t.place.size<=t.mask
 onroad:∀j e,zQ t.place.toList es.toList j e->∃n,qe t.mask e.1 n=j/\∀n',n'<n->qe t.mask e.1 n'∈t.place.toList
def Cj{ps:U Nat}{m:Nat}(h:ps.length<=m):∃j,j<=m/\j∉ps:=by apply dg;intro hn;have aU:∀j,j<=m->j∈ps:=λj hj=>dg λq=>hn ⟨j,hj,q⟩;have:=cw (l₁:=cz<|m+1) (l₂:=ps) List.nodup_range (λj hj=>aU j<|by have:=gy.mp hj;lia);rw[ip]at this;lia
theorem ake{t:SetTable}{es:Array (Int×aA)}(ok:TOk t es)(bW:Nat->Int)(h:Int):∀(fuel:Nat)(p:Probe),(∃n,n<fuel/\(itn (adv t.mask) n p).j∉t.place.toList)->
  (∃n,probe.go t bW h fuel p=some (.empty (itn (adv t.mask) n p).j p.dummy)/\(itn (adv t.mask) n p).j∉t.place.toList/\∀n',n'<n->∃i:Nat,t.place[i]?=some (itn (adv t.mask) n' p).j/\bW i≠h)\/
  (∃n i,probe.go t bW h fuel p=some (.candidate (itn (adv t.mask) n p).j i (itn (adv t.mask) (n+1) p))/\t.place[i]?=some (itn (adv t.mask) n p).j/\bW i=h/\∀n',n'<n->∃i':Nat,t.place[i']?=some (itn (adv t.mask) n' p).j/\bW i'≠h)
 | 0,p,⟨n,hn,_⟩=>by lia
 | fuel+1,p,⟨n,hn,bS⟩=>by
  by_cases hp:p.j∈t.place.toList
  .obtain⟨i,hi⟩:=al9 hp;have hs:=Jl ok.rise hi;by_cases hh:bW i=h
   .refine .inr<|kl 0 i ⟨?_,hi,hh,λn' fE=>by lia⟩;unfold probe.go;rw[hs];dsimp only;rw[if_pos (by simp[hh])];rfl
   .have jS:∃n,n<fuel/\(itn (adv t.mask) n<|adv t.mask p).j∉t.place.toList:=by
     cases n with
     | zero=>exact absurd hp bS
     | succ n=>exact⟨n,by lia,bS⟩
    have sT:probe.go t bW h (fuel+1) p=probe.go t bW h fuel (adv t.mask p):=by rw[probe.go,hs];dsimp only;rw[if_neg (by simp[hh])];rfl
    have hd:(adv t.mask p).dummy=p.dummy:=by unfold adv;split<;>rfl
    have AI:∀{n:Nat},(∀n',n'<n->∃i':Nat,t.place[i']?=some (itn (adv t.mask) n'<|adv t.mask p).j/\bW i'≠h)->∀n',n'<n+1->∃i':Nat,t.place[i']?=some (itn (adv t.mask) n' p).j/\bW i'≠h:=λH n' fE=>by
     cases n' with
     | zero=>exact⟨i,hi,hh⟩
     | succ n'=>exact H n'<|by lia
    rcases ake ok bW h fuel (adv t.mask p) jS with ⟨m,e,f,g⟩|⟨m,i',e,f,g,g'⟩
    .exact .inl ⟨m+1,by rw[sT,e,hd];rfl,f,AI g⟩
    .exact .inr<|kl (m+1) i' ⟨by rw[sT,e];rfl,f,g,AI g'⟩
  .refine .inl ⟨0,?_,hp,λn' fE=>by lia⟩;unfold probe.go;rw[ahx ok.rise ok.dm hp];rfl
def ahw{t:SetTable}{es:Array (Int×aA)}(ok:TOk t es)(bW:Nat->Int)(h:Int){p:Probe}(st:tE t.mask p) :
  (∃n,t.probe bW h p=some (.empty (itn (adv t.mask) n p).j p.dummy)/\(itn (adv t.mask) n p).j∉t.place.toList/\∀n',n'<n->∃i:Nat,t.place[i]?=some (itn (adv t.mask) n' p).j/\bW i≠h)\/
  (∃n i,t.probe bW h p=some (.candidate (itn (adv t.mask) n p).j i (itn (adv t.mask) (n+1) p))/\t.place[i]?=some (itn (adv t.mask) n p).j/\bW i=h/\∀n',n'<n->∃i':Nat,t.place[i']?=some (itn (adv t.mask) n' p).j/\bW i'≠h):=by
 obtain⟨k,hk,_,_⟩:=ok.two;obtain⟨j,hj,hn⟩:=Cj (ps:=t.place.toList) (m:=t.mask) (by rw[a8];exact ok.fit);obtain⟨n,hl,e⟩:=auc hk p st.1 st.2.1 j hj;exact ake ok bW h _ p ⟨n,hl,by rw[e];exact hn⟩
def TOk.ahead{t:SetTable}{es:Array (Int×aA)}(ok:TOk t es){j:Nat}{e:Int×aA}(hs:zQ t.place.toList es.toList j e){n:Nat}(hf:qe t.mask e.1 n∉t.place.toList):∃m,m<n/\qe t.mask e.1 m=j:=by
 obtain⟨m,h1,h2⟩:=ok.onroad j e hs;refine⟨m,?_,h1⟩;apply dg;intro hm;by_cases q:n<m
 .exact hf<|h2 n q
 .have:m=n:=by lia
  subst this;rw[h1]at hf;obtain⟨i,hi,_⟩:=hs;exact hf<|ah hi
theorem TOk.put{t:SetTable}{es:Array (Int×aA)}(ok:TOk t es){h:Int}{x:aA}{n:Nat}(hf:qe t.mask h n∉t.place.toList)(hr:∀n',n'<n->qe t.mask h n'∈t.place.toList)(oS:t.place.size+1<=t.mask) :
  TOk (t.put<|qe t.mask h n).1 (insertAt es (t.put<|qe t.mask h n).2 (h,x))/\(t.put<|qe t.mask h n).1.mask=t.mask/\(t.put<|qe t.mask h n).2<=es.size/\(t.put<|qe t.mask h n).1.place.size=t.place.size+1:=by
 have sS:=vf ok.rise<|qe t.mask h n;have FF:has t.dummies (qe t.mask h n)=false:=by rw[ok.dm];unfold has;simp
 have Fu:t.put (qe t.mask h n)=({t with place:=insertAt t.place (below t.place<|qe t.mask h n)<|qe t.mask h n,dummies:=#[]},below t.place<|qe t.mask h n):=by unfold SetTable.put;rw[FF,ok.dm];rfl
 rw[Fu];have oQ:(insertAt t.place (below t.place<|qe t.mask h n)<|qe t.mask h n).size=t.place.size+1:=by rw[<-a8,oq,be,ba,c8,ie,a8];have:=sS.1;lia
 have hsz:=ok.sz;have cO:∀j,j∈(insertAt t.place (below t.place<|qe t.mask h n)<|qe t.mask h n).toList↔j=qe t.mask h n\/j∈t.place.toList:=λj=>by
  rw[oq];constructor
  .intro hj;rcases bn.mp hj with q|q
   .exact .inr<|gt q
   .rcases ap.mp q with q|q
    .exact .inl q
    .exact .inr<|List.mem_of_mem_drop q
  .rintro(rfl|hj)
   .exact bu _ ak
   .rw[<-List.take_append_drop (below t.place<|qe t.mask h n) t.place.toList]at hj;rcases bn.mp hj with q|q
    .exact fh _ q
    .exact bu _<|ao _ q
 refine⟨⟨ok.two,rfl,ae8 ok.rise hf,?_,?_,?_,?_⟩,rfl,?_,oQ⟩
 .intro j hj;rcases(cO j).mp hj with rfl|q
  .exact apt _ _ _
  .exact ok.bd j q
 .show(insertAt t.place _ _).size=(insertAt es (below t.place<|qe t.mask h n) (h,x)).size;rw[oQ,<-a8 (xs:=insertAt es _ _),oq,be,ba,c8,ie,a8];have:=sS.1;lia
 .show(insertAt t.place _ _).size<=t.mask;rw[oQ];exact oS
 .intro j e hs;have kR:zQ (t.place.toList.take (below t.place<|qe t.mask h n)++qe t.mask h n::t.place.toList.drop (below t.place<|qe t.mask h n)) (es.toList.take (below t.place<|qe t.mask h n)++(h,x)::es.toList.drop (below t.place<|qe t.mask h n)) j e:=by
   have oR:zQ (insertAt t.place (below t.place<|qe t.mask h n)<|qe t.mask h n).toList (insertAt es (below t.place<|qe t.mask h n) (h,x)).toList j e:=hs;rw[oq,oq]at oR;exact oR
  rcases(afg (by rw[a8,a8];exact hsz) _ _ (by rw[a8];exact sS.1) _).mp kR with ⟨rfl,rfl⟩|q
  .exact⟨n,rfl,λn' fE=>(cO _).mpr (.inr<|hr n' fE)⟩
  .obtain⟨m,h1,h2⟩:=ok.onroad j e q;exact⟨m,h1,λn' fE=>(cO _).mpr (.inr<|h2 n' fE)⟩
 .show below t.place _<=es.size;have:=sS.1;lia
theorem TOk.fits{t:SetTable}{es:Array (Int×aA)}(ok:TOk t es):t.fits es.size=true:=by unfold SetTable.fits SetTable.fill;rw[ok.dm];simp[ok.sz];have:=ok.fit;have:=ok.sz;lia
def TOk.noway{t:SetTable}{es:Array (Int×aA)}(ok:TOk t es):t.gaveWay=false:=by
 obtain⟨k,hk,h3,_⟩:=ok.two;unfold SetTable.gaveWay;have:2^k % 2=0:=by rw[show k=(k-1)+1 by lia,jg];lia
 simp;lia
theorem TOk.fresh(finger moves:Nat)(led:Bool):TOk (.fresh finger moves led) #[]:=
 ⟨⟨3,rfl,by decide,by decide,rfl⟩,rfl,List.Pairwise.nil,(λj hj=>by cases hj),rfl,(by show 0<=7;decide),(λj e ⟨i,h,_⟩=>by simp[SetTable.fresh]at h)⟩
def atu{mask k:Nat}(hk:mask+1=2^k)(x:Nat×Nat)(hp:x.2<2^64)(j:Nat)(hj:j<=mask):∃m,m<turns mask/\(itn (lp mask) m x).1=j:=by
 have hz:(itn (lp mask) 13 x).2<32^(13-13):=Jm mask 13 x 13 (ci hp<|by decide);have lV:(itn (lp mask) 13 x).2=0:=by simpa using hz
 have hi:(itn (lp mask) 13 x).1<2^k:=by rw[Jb];exact HS hk _
 have e0:∀m,itn (lp mask) (13+m) x=itn (lp mask) m (itn (lp mask) 13 x):=λm=>sr _ _ _ _;generalize itn (lp mask) 13 x=y at *;obtain⟨y1,y2⟩:=y;simp only at lV hi;subst lV;obtain⟨m,uN,e3⟩:=Iw k y1 j;refine⟨13+m,?_,?_⟩
 .unfold turns;lia
 .rw[e0,we hk m y1 hi];show g5 m y1 % 2^k=j;rw[e3,ge<|by lia]
theorem anz(mask:Nat):∀(q:Nat)(p:Probe),q<=p.more->(itn (adv mask) q p).j=p.j+q
 | 0,p,_=>rfl
 | q+1,p,h=>by
  show(itn (adv mask) q<|adv mask p).j=_;have e:adv mask p={p with j:=p.j+1,more:=p.more-1}:=by unfold adv;rw[if_pos (by lia)]
  rw[e,anz mask q _<|by show q<=p.more-1;lia];show p.j+1+q=p.j+(q+1);lia
def B8(owner:Array (Option Nat))(j:Nat):Prop:=∃q,owner[j]?=some (some q)
theorem aer{mask k:Nat}(hk:mask+1=2^k){owner:Array (Option Nat)}(hs:owner.size=mask+1){f:Nat}(hf:owner[f]?=some none):∀(fuel:Nat)(x:Nat×Nat),x.1<=mask->x.2<2^64->(∃m,m<fuel/\(itn (lp mask) m x).1=f)->
  ∃j n,layClean.free mask owner fuel x.1 x.2=some j/\(itn (adv mask) n<|at0 mask x none).j=j/\owner[j]?=some none/\∀n',n'<n->B8 owner (itn (adv mask) n'<|at0 mask x none).j
 | 0,x,_,_,⟨m,hm,_⟩=>by lia
 | fuel+1,x,h1,h2,⟨m,hm,em⟩=>by
  have A3:(at0 mask x none).more=runEnd mask x.1-x.1:=rfl;have hend:runEnd mask x.1<=mask/\x.1<=runEnd mask x.1:=by unfold runEnd;split<;>lia
  have get:∀q,(hq:q<runEnd mask x.1+1-x.1)->owner.getD (x.1+q) (some 0)=owner[x.1+q]'(by lia):=λq hq=>by simp only[Array.getD];rw[dif_pos (show x.1+q<owner.size by lia)];rfl
  have pos:∀q,q<runEnd mask x.1+1-x.1->(itn (adv mask) q<|at0 mask x none).j=x.1+q:=λq hq=>anz mask q _ (by rw[A3];lia);have occ:∀q (hq:q<runEnd mask x.1+1-x.1),(owner.getD (x.1+q)<|some 0).isNone=false->B8 owner (x.1+q):=λq hq hn=>by
   rw[get q hq]at hn;cases hv:owner[x.1+q]'(by lia)with
   | none=>rw[hv]at hn;cases hn
   | some v=>exact⟨v,by rw[bq (by lia),hv]⟩
  unfold layClean.free;cases Bw:(cz<|runEnd mask x.1+1-x.1).find? λk=>(owner.getD (x.1+k)<|some 0).isNone with
  | some q=>
   rw[List.find?_range_eq_some]at Bw;obtain⟨a,b,c⟩:=Bw;have hq:q<runEnd mask x.1+1-x.1:=gy.mp b;refine(kl (x.1+q) q ⟨rfl,pos q hq,?_,λn' fE=>?_⟩)
   .rw[get q hq]at a;rw[bq (by lia)];cases hv:owner[x.1+q]'(by lia)with
    | none=>rfl
    | some v=>rw[hv]at a;cases a
   .rw[pos n' (by lia)];exact occ n' (by lia) (by simpa using c n' fE)
  | none=>
   rw[List.find?_range_eq_none]at Bw;dsimp only;cases m with
   | zero=>
    have e0:x.1=f:=em;have:=Bw 0 (by lia);rw[Nat.add_zero]at this;have g:=get 0 (by lia);simp only[Nat.add_zero]at g;rw[g]at this;subst e0;rw[bq (by lia)]at hf;injection hf with hf
    rw[hf]at this;cases this
   | succ m=>
    have iL:(lp mask x).1<=mask:=by have:=HS hk x;lia
    have gL:(lp mask x).2<2^64:=by show x.2/32<2^64;lia
    obtain⟨j,n,e1,e2,e3,e4⟩:=aer hk hs hf fuel (lp mask x) iL gL ⟨m,by lia,em⟩;have tl:=Ea mask _ (at0 mask x none) rfl;refine(kl j ((at0 mask x none).more+1+n) ⟨e1,?_,e3,λn' fE=>?_⟩)
    .rw[sr,tl];exact e2
    .by_cases hq:n'<(at0 mask x none).more+1
     .have iE:n'<runEnd mask x.1+1-x.1:=by rw[A3]at hq;lia
      rw[pos n' iE];exact occ n' iE<|by simpa using Bw n' iE
     .have:=e4 (n'-((at0 mask x none).more+1)) (by lia);rw[show n'=(at0 mask x none).more+1+(n'-((at0 mask x none).more+1)) by lia,sr,tl];exact this
structure Own(mask:Nat)(hs:U Int)(owner:Array (Option Nat))(k:Nat):Prop where
 size:owner.size=mask+1
 o1:∀j q:Nat,owner[j]?=some (some q)->q<k/\∃h,hs[q]?=some h/\∃n,qe mask h n=j/\∀n',n'<n->B8 owner (qe mask h n')
 o2:∀q:Nat,q<k->∃j:Nat,owner[j]?=some (some q)
 o3:∀j j' q:Nat,owner[j]?=some (some q)->owner[j']?=some (some q)->j=j'
theorem Own.free{mask:Nat}{hs:U Int}{owner:Array (Option Nat)}{k:Nat}(o:Own mask hs owner k)(hk:k<=mask):∃f,f<=mask/\owner[f]?=some none:=by
 apply dg;intro hn;have aU:∀j,j<=mask->∃q,owner[j]?=some (some q):=λj hj=>by
  have wQ:j<owner.size:=by rw[o.size];lia
  cases hv:owner[j]with
  | none=>exact absurd ⟨j,hj,by rw[bq wQ,hv]⟩ hn
  | some q=>exact⟨q,by rw[bq wQ,hv]⟩
 have val:∀(j q:Nat),owner[j]?=some (some q)->((owner[j]?).getD none).getD 0=q:=λj q h=>by rw[h];rfl
 have nd:((cz<|mask+1).map λj=>((owner[j]?).getD none).getD 0).Nodup:=by show List.Pairwise _ _;rw[dt];refine gj ?_<|List.nodup_range (n:=mask+1);intro a b ha hb iZ e;obtain⟨q,hq⟩:=aU a (by have:=gy.mp ha;lia);obtain⟨q',iE⟩:=aU b (by have:=gy.mp hb;lia);rw[val a q hq,val b q' iE]at e;subst e;exact iZ<|o.o3 a b q hq iE
 have:=cw (l₂:=cz k) nd λv hv=>by obtain⟨j,hj,rfl⟩:=aw.mp hv;obtain⟨q,hq⟩:=aU j (by have:=gy.mp hj;lia);rw[val j q hq];exact gy.mpr (o.o1 j q hq).1
 rw[ac,ip,ip]at this;lia
noncomputable def IM(mask:Nat)(fR:Option (Array (Option Nat)×Nat))(h:Int):Option (Array (Option Nat)×Nat):=do
 let (owner,k) <-fR
 let j <-layClean.free mask owner (turns mask) (bits h % (mask+1)) (bits h)
 bQ (owner.setIfInBounds j<|some k,k+1)
def afi(mask:Nat)(hs:Array Int):layClean mask hs=(hs.toList.foldl (IM mask)<|some (Array.replicate (mask+1) none,0)).map (·.1):=by unfold layClean;rw[<-Array.foldl_toList];rfl
def yp{owner:Array (Option Nat)}{j:Nat}{v:Option Nat}(hj:j<owner.size)(i:Nat):(owner.setIfInBounds j v)[i]?=if i=j then some v else owner[i]?:=by
 rw[Array.getElem?_setIfInBounds];by_cases e:j=i
 .subst e;rw[if_pos rfl,if_pos hj,if_pos rfl]
 .rw[if_neg e,if_neg<|Ne.symm e]
theorem afz{mask k0:Nat}(Bq:mask+1=2^k0)(hs:U Int)(uQ:hs.length<=mask):∀(bB:U Int)(k:Nat) (owner:Array (Option Nat)),hs.drop k=bB->k<=hs.length->Own mask hs owner k->
  ∃oG,bB.foldl (IM mask) (some (owner,k))=some (oG,hs.length)/\Own mask hs oG hs.length
 | [],k,owner,hd,hk,o=>by
  have:hs.length<=k:=by have:=congrArg List.length hd;rw[ie]at this;simp at this;lia
  have e:k=hs.length:=by lia
  subst e;exact⟨owner,rfl,o⟩
 | h::bB,k,owner,hd,hk,o=>by
  have pF:k<hs.length:=by have:=congrArg List.length hd;rw[ie]at this;simp at this;lia
  have mY:hs[k]?=some h:=by
   have:(hs.drop k)[0]?=some h:=by rw[hd];rfl
   rw[iy]at this;simpa using this
  obtain⟨f,Bv,hf⟩:=o.free (by lia);obtain⟨m,hm,em⟩:=atu Bq (bits h % (mask+1),bits h) (IA h) f Bv;have hb:bits h % (mask+1)<=mask:=by have:=Nat.mod_lt (bits h) (show 0<mask+1 by lia);lia
  obtain⟨j,n,e1,e2,e3,e4⟩:=aer Bq o.size hf (turns mask) (bits h % (mask+1),bits h) hb (IA h) ⟨m,hm,em⟩;have ej:qe mask h n=j:=e2;have zA:j<owner.size:=by have:=(ck.mp e3).1;exact this
  have AX:IM mask (some (owner,k)) h=some (owner.setIfInBounds j<|some k,k+1):=by show(layClean.free mask owner (turns mask) (bits h % (mask+1))<|bits h).bind _=_;rw[e1];rfl
  have tk:∀i,B8 owner i->B8 (owner.setIfInBounds j<|some k) i:=λi ⟨q,hq⟩=>by
   by_cases e:i=j
   .exact⟨k,by rw[yp zA,if_pos e]⟩
   .exact⟨q,by rw[yp zA,if_neg e];exact hq⟩
  have o':Own mask hs (owner.setIfInBounds j<|some k) (k+1):=by
   refine⟨by rw[Array.size_setIfInBounds];exact o.size,λi q hq=>?_,λq hq=>?_,λi i' q hq iE=>?_⟩
   .rw[yp zA]at hq;by_cases e:i=j
    .rw[if_pos e]at hq;cases hq;exact⟨by lia,(lu h mY n ⟨by rw[ej,e],λn' fE=>tk _<|e4 n' fE⟩)⟩
    .rw[if_neg e]at hq;obtain⟨a,h',b,n',c,d⟩:=o.o1 i q hq;exact⟨by lia,(lu h' b n' ⟨c,λn'' FK=>tk _<|d n'' FK⟩)⟩
   .by_cases e:q=k
    .exact⟨j,by rw[yp zA,if_pos rfl,e]⟩
    .obtain⟨i,hi⟩:=o.o2 q (by lia);have:i≠j:=λe'=>by rw[e',e3]at hi;cases hi
     exact⟨i,by rw[yp zA,if_neg this];exact hi⟩
   .rw[yp zA]at hq iE;by_cases e:i=j<;>by_cases e':i'=j
    .rw[e,e']
    .rw[if_pos e]at hq;rw[if_neg e']at iE;cases hq;have:=(o.o1 i' k iE).1;lia
    .rw[if_neg e]at hq;rw[if_pos e']at iE;cases iE;have:=(o.o1 i k hq).1;lia
    .rw[if_neg e]at hq;rw[if_neg e']at iE;exact o.o3 i i' q hq iE
  rw[List.foldl_cons,AX];refine afz Bq hs uQ bB (k+1) _ ?_ (by lia) o';rw[<-List.drop_drop,hd];rfl
def acq{mask k0:Nat}(Bq:mask+1=2^k0)(hs:Array Int)(uQ:hs.size<=mask):∃owner,layClean mask hs=some owner/\Own mask hs.toList owner hs.size:=by
 rw[afi];obtain⟨o,e,ok⟩:=afz Bq hs.toList (by rw[a8];exact uQ) hs.toList 0 (Array.replicate (mask+1) none) rfl (dv _) (by
  refine⟨by simp,λj q hq=>?_,λq hq=>by lia,λj j' q hq iE=>?_⟩
  .rw[Array.getElem?_replicate]at hq;split at hq<;>cases hq
  .rw[Array.getElem?_replicate]at hq;split at hq<;>cases hq)
 rw[e];exact⟨o,rfl,by rw[a8]at ok;exact ok⟩
theorem va:∀(fuel k n:Nat),∃k',sizeAbove.go n fuel (2^k)=2^k'/\k<=k'/\k'<=k+fuel/\(n<2^(k+fuel)->n<2^k')/\(k'=k\/2^k'<=2*n)
 | 0,k,n=>⟨k,rfl,aq _,aq _,id,.inl rfl⟩
 | fuel+1,k,n=>by
  unfold sizeAbove.go;by_cases h:2^k<=n
  .rw[if_pos h,show 2^k*2=2^(k+1)from (jg ..).symm];obtain⟨k',a,b,c,d,e⟩:=va fuel (k+1) n;refine⟨k',a,by lia,by lia,λq=>d<|by rw[show k+1+fuel=k+(fuel+1) by lia];exact q,?_⟩;rcases e with e|e
   .rw[e,jg];lia
   .exact .inr e
  .rw[if_neg h];exact⟨k,rfl,aq _,by lia,λ_=>by lia,.inl rfl⟩
def sv(n:Nat)(hn:n<2^13):∃k,sizeAbove n=2^k/\3<=k/\k<=13/\n<2^k:=by
 obtain⟨k,a,b,c,d,e⟩:=va 64 3 n;refine⟨k,a,b,?_,d<|Nat.lt_trans hn<|Nat.pow_lt_pow_right (by decide)<|by decide⟩;rcases e with e|e
 .lia
 .apply dg;intro h;have:2^14<=2^k:=f7 (by decide) (by lia);have e14:2^14=2*2^13:=by decide
  lia
def acj(n:Nat)(h8:8<=n)(hn:n<2^13){k:Nat}(e:sizeAbove n=2^k):k<=13/\n<2^k/\2^k<=2*n:=by
 obtain⟨k',a,b,c,d,e'⟩:=va 64 3 n;obtain⟨k2,a2,_,b2,c2⟩:=sv n hn;have e1:k=k2:=(Nat.pow_right_inj<|by decide).mp (e.symm.trans a2);have e2:k2=k':=(Nat.pow_right_inj<|by decide).mp (a2.symm.trans a);subst e1;refine⟨b2,c2,?_⟩;rcases e' with e'|e'
 .rw[e2,e'];lia
 .rw[e2];exact e'
def anm{m n k k':Nat}(hk:m+1=2^k)(k3:3<=k)(sL:k<=13)(ko:k % 2=1)(h1:m*3<=n*5)(h2:(n-1)*5<m*3)(h4:n<=4000)(h13:k'<=13)(l1:n*4<2^k')(l2:2^k'<=2*(n*4)):k' % 2=1:=by
 have p3:2^3<=2^k:=f7 (by decide) k3;have a:¬k'<=k+1:=λh=>by have h:=f7 (show 0<2 by decide) h;rw[jg]at h;lia
 have b:¬k+3<=k':=λh=>by have h:=f7 (show 0<2 by decide) h;rw[Nat.pow_add]at h;lia
 lia
def ahj{m n k:Nat}(hk:m+1=2^k)(k3:3<=k)(sL:k<=13)(ko:k % 2=1)(h1:m*3<=n*5)(h2:(n-1)*5<m*3)(h4:n<=4000):n*4<2^13/\2<=n:=by
 have p3:2^3<=2^k:=f7 (by decide) k3;have a:k≠13:=λh=>by subst h;lia
 have h:=f7 (show 0<2 by decide) (show k<=11 by lia);lia
theorem xt{α β:Type}{f:α->Option β}{g:α->β}:∀(l:List α),(∀x∈l,f x=some (g x))->l.filterMap f=l.map g
 | [],_=>rfl
 | a::l,h=>by rw[List.filterMap_cons,h a ak,dh,xt l λx hx=>h x<|ao _ hx]
theorem afk{t:SetTable}{es:Array (Int×aA)}{bT:Nat}(hw:es.size*4<=bT)(C9:bT<2^13)(wH:∀k,sizeAbove bT=2^k->k % 2=1)(dW:0<es.size) :
  ∃t' eV,t.relaid (es.map (·.1)) bT=some (t',eV)/\TOk t' (eV.filterMap (es[·]?))/\(eV.filterMap (es[·]?)).toList.Perm es.toList/\t'.place.size*5<t'.mask*3/\t'.led=t.led:=by
 obtain⟨k,ek,k3,sL,hn⟩:=sv bT C9;have ko:=wH k ek;have oX:sizeAbove bT-1+1=2^k:=by rw[ek];have:=Nat.two_pow_pos k;lia
 have uQ:(es.map (·.1)).size<=sizeAbove bT-1:=by rw[Array.size_map,ek];lia
 obtain⟨owner,eo,ok⟩:=acq oX (es.map (·.1)) uQ;rw[Array.size_map]at ok;generalize hm:sizeAbove bT-1=mask at *
 let live:=(cz<|mask+1).filterMap λj=>(owner.getD j none).map λq=>(j,q)
 have fM:∀j q,(j,q)∈live↔owner[j]?=some (some q):=λj q=>by
  show(j,q)∈(cz<|mask+1).filterMap _↔_;rw[List.mem_filterMap];constructor
  .rintro⟨a,ha,e⟩;have hs:a<owner.size:=by rw[ok.size];exact gy.mp ha
   simp only[Array.getD,dif_pos hs]at e;cases hv:owner[a]with
   | none=>
    have e':(owner[a]).map (λq=>(a,q))=some (j,q):=e;rw[hv]at e';cases e'
   | some v=>
    have e':(owner[a]).map (λq=>(a,q))=some (j,q):=e;rw[hv]at e';cases e';rw[bq hs,hv]
  .intro h;obtain⟨hs,hv⟩:=ck.mp h;refine⟨j,gy.mpr<|by rw[<-ok.size];exact hs,?_⟩;simp only[Array.getD,dif_pos hs];show(owner[j]).map (λq=>(j,q))=some (j,q);rw[hv];rfl
 have oT:(live.map (·.1)).Pairwise (· < ·):=by rw[dt];show((cz<|mask+1).filterMap _).Pairwise _;rw[List.pairwise_filterMap];refine List.Pairwise.imp ?_<|List.pairwise_lt_range (n:=mask+1);intro a b iZ x hx y hy;obtain⟨q,_,rfl⟩:=bg.mp hx;obtain⟨q',_,rfl⟩:=bg.mp hy;exact iZ
 have fY:(live.map (·.2)).Nodup:=by
  show List.Pairwise _ _;rw[dt];have h1:live.Pairwise λa b=>a.1<b.1:=by rw[dt]at oT;exact oT
  refine gj ?_ h1;intro a b ha hb iZ e;have:=ok.o3 a.1 b.1 a.2 ((fM _ _).mp ha) (by rw[e];exact(fM _ _).mp hb);lia
 have gK:(live.map (·.2)).Perm (cz es.size):=by
  rw[List.perm_ext_iff_of_nodup fY List.nodup_range];intro q;rw[aw,gy];constructor
  .rintro⟨⟨j,q'⟩,h,rfl⟩;exact(ok.o1 j q'<|(fM _ _).mp h).1
  .intro h;obtain⟨j,hj⟩:=ok.o2 q h;exact⟨(j,q),(fM _ _).mpr hj,rfl⟩
 have aR:live.length=es.size:=by have:=gK.length_eq;rw[ac,ip]at this;exact this
 have Bv:((live.map (·.2)).toArray.filterMap (es[·]?)).toList=live.map λx=>es[x.2]?.getD (0,.none):=by
  rw[Array.toList_filterMap];show List.filterMap _ (live.map (·.2))=_;rw[List.filterMap_map];have:∀x∈live,es[x.2]?=some (es[x.2]?.getD (0,.none)):=λx hx=>by have bL:=(ok.o1 x.1 x.2<|(fM x.1 x.2).mp hx).1;rw[bq bL];rfl
  exact xt live this
 have F3:(live.map λx=>es[x.2]?.getD (0,.none)).Perm es.toList:=by
  have h1:=gK.map λq=>es[q]?.getD (0,.none);rw[gb]at h1;have h2:(cz es.size).map (λq=>es[q]?.getD (0,.none))=es.toList:=by
   apply List.ext_getElem
   .simp
   .intro i a b;simp;rw[bq (by simpa using b)];rfl
  rw[h2]at h1;exact h1
 refine(kl ⟨mask,(live.map (·.1)).toArray,#[],t.finger,t.led,t.movedTo mask,t.plain⟩ ((live.map (·.2)).toArray) ⟨?_,?_,?_,?_,rfl⟩)
 .unfold SetTable.relaid SetTable.laid;rw[hm,eo];rfl
 .refine⟨⟨k,oX,k3,sL,ko⟩,rfl,by simpa using oT,?_,?_,?_,?_⟩
  .intro j hj;have wQ:j∈live.map (·.1):=by simpa using hj
   obtain⟨⟨j',q⟩,h,rfl⟩:=aw.mp wQ;have:=(ck.mp<|(fM _ _).mp h).1;rw[ok.size]at this;show j'<=mask;lia
  .rw[<-a8 (xs:=Array.filterMap _ _),Bv];simp
  .show(live.map (·.1)).toArray.size<=mask;simp;rw[Array.size_map]at uQ;lia
  .intro j e hs;rw[Bv]at hs;obtain⟨i,h1,h2⟩:=hs;have fQ:(live.map (·.1))[i]?=some j:=by simpa using h1
   rw[a6]at fQ h2;cases hl:live[i]? with
   | none=>rw[hl]at fQ;cases fQ
   | some x=>
    rw[hl]at fQ h2;obtain⟨j',q⟩:=x;cases fQ;obtain⟨hq,h,a,n,b,c⟩:=ok.o1 j' q<|(fM _ _).mp (ah hl);have e2:es[q]?.getD (0,.none)=e:=by cases h2;rfl
    have e3:e.1=h:=by
     rw[<-e2,bq hq];have a':(es.map (·.1))[q]?=some h:=by rw[<-bv];exact a
     rw[Array.getElem?_map,bq hq]at a';simpa using a'
    rw[e3];refine⟨n,b,λn' fE=>?_⟩;obtain⟨q',iE⟩:=c n' fE;have:qe mask h n'∈live.map (·.1):=aw.mpr ⟨(qe mask h n',q'),(fM _ _).mpr iE,rfl⟩;simpa using this
 .rw[Bv];exact F3
 .show(live.map (·.1)).toArray.size*5<mask*3;simp;rw[aR];lia
end L3
namespace L3
open PySem
variable{Pv:aA->Z9->Prop}
mutual
noncomputable def kd:Z9->Bool
 | .int _=>true
 | .str _=>true
 | .tuple ds=>v4 ds
 | .none=>false
 | .bool _=>false
 | .list _=>false
 | .dict _=>false
noncomputable def v4:U Z9->Bool
 | []=>true
 | d::ds=>kd d&&v4 ds
end
mutual
noncomputable def qD(w:aL):Z9->Int
 | .int i=>hashInt i
 | .str x=>dI w x
 | .tuple ds=>yM (ja<|uu w ds)
 | .none=>0
 | .bool _=>0
 | .list _=>0
 | .dict _=>0
noncomputable def uu(w:aL):U Z9->U Int
 | []=>[]
 | d::ds=>qD w d::uu w ds
end
def DT(d:Z9):Prop:=∀(prog:aJ)(w:aL)(A:Around)(E:aA->aC->Prop)(s:aC)(v:aA)(as:U aF)(Q:Int->aC->Prop),Reads s.heap v d as->A.units+d.depth<aY->(∀tk,s.toks<=tk->Q (qD w d) {s with toks:=tk})->aH (aI prog w) A (pyHash v) Q E s
theorem ah9{ds:U Z9}(H:∀d∈ds,DT d):DT (.tuple ds):=λprog w A E s v as Q r hu h=>by
 cases r with
 | @tuple a o vs n _ _ ho hc hd hi=>
 have hT:s.TypeIs (.ref a) "tuple":=⟨o,ho,hc⟩;have hu':A.units+(ay ds+1)<aY:=hu;unfold pyHash;first|unfold pyHashByItsType|skip
 first|refine ab (wpAny_cRoomFor_or (.inr (show A.units<aY by lia)) ?_)|skip
 refine ab<|cH (name:="__hash__") hT F.slot_tuple_hash.lookup ?_;show aH _ _ (if (some (aA.builtin "tuple.__hash__")==some aA.none)=true then _ else _) _ _ _;rw[if_neg (show ¬_ by rw[beq_builtin_none];exact aj)];refine ab<|cH (name:="__hash__") hT F.slot_tuple_hash.lookup ?_;show aH _ _ (callSpecialIfBoundUnlessNone? (.ref a) "__hash__" _ >>= _) _ _ _;refine ab<|wpAny_callSpecialIfBoundUnlessNone?_slot (name:="__hash__") hT F.slot_tuple_hash<|gd (name:="__hash__") F.slot_tuple_hash hT F.entry_tuple_hash ?_<|F.args_tuple_hash_1 _;show aH _ _ (Builtin.Tuple.tupleItemsOf (.ref a) >>= _) _ _ _;refine ab<|wpAny_tupleItemsOf (n:=n) ho hd ?_;refine ab ?_;rw[<-Array.forIn_toList];refine jh _
  (λbB (b:Array Int) s'=>∃done left bs tk,ds=done++left/\ReadsAll s.heap bB left bs/\b.toList=uu w done/\s'={s with toks:=tk}/\s.toks<=tk)
  _ (λx bB b s' hI=>?_) (λb s' hI=>?_) _ _ (li ([]) ds as s.toks ⟨rfl,hi,rfl,rfl,aq _⟩)
 .obtain⟨done,left,bs,tk,e,hl,hb,rfl,hk⟩:=hI;cases hl with
  | @cons _ _ d aW _ _ h1 qR=>
   have cO:d∈ds:=by rw[e];simp
   have F6:∀(l:U Z9),d∈l->d.depth<=ay l:=λl=>by
    induction l with
    | nil=>intro q;cases q
    | cons y l ih=>
     intro q;show _<=yQ y.depth (ay l);rcases ap.mp q with rfl|q
     .exact Nat.le_max_left _ _
     .exact fg (ih q)<|Nat.le_max_right _ _
   have kX:=F6 ds cO;refine ab<|H d cO prog w _ E {s with toks:=tk} x _ _ h1 (by show A.units+1+d.depth<aY;lia) λqH dX=>?_;have hap:∀(l:U Z9),uu w (l++[d])=uu w l++[qD w d]:=λl=>by
    induction l with
    | nil=>rfl
    | cons y l ih=>show qD w y::uu w (l++[d])=_;rw[ih];rfl
   first
    | exact am (li (done++[d]) aW _ qH ⟨by simp[e],qR,by simp[hb,hap],rfl,fg hk dX⟩)
    | exact ab<|am<|am ⟨done++[d],aW,_,qH,by simp[e],qR,by simp[hb,hap],rfl,fg hk dX⟩
 .obtain⟨done,left,bs,tk,e,hl,hb,rfl,hk⟩:=hI;cases hl;rw[gz]at e;subst e;show aH _ _ (retInt<|ja b.toList) _ _ _;rw[hb];refine wpAny_ret_mkInt ?_;show aH _ _ (if (decide (-(2:Int)^63<=ja (uu w ds))&&decide (ja (uu w ds)<2^63))=true then _ else _) _ _ _;have h':∀tk,s.toks<=tk->Q (yM<|ja<|uu w ds) {s with toks:=tk}:=h;unfold yM at h';split
  .rename_i hr
   rw[if_pos hr]at h';exact am<|h' _<|by simp only;lia
  .rename_i hr
   rw[if_neg hr]at h';exact ab<|lG<|am<|h' _<|by simp only;lia
mutual
theorem abr:∀(d:Z9),kd d=true->DT d
 | .int i,_=>λprog w A E s v as Q r hu h=>by
  cases r with
  | int=>exact CN (h _<|by lia)
 | .str x,_=>λprog w A E s v as Q r hu h=>by
  cases r with
  | str=>exact CM (h _<|by lia)
 | .tuple ds,hk=>ah9 (wx ds hk)
 | .none,hk=>absurd hk aj
 | .bool _,hk=>absurd hk aj
 | .list _,hk=>absurd hk aj
 | .dict _,hk=>absurd hk aj
theorem wx:∀(ds:U Z9),v4 ds=true->∀d∈ds,DT d
 | [],_,d,hd=>by cases hd
 | e::ds,hk,d,hd=>by
  have dX:(kd e&&v4 ds)=true:=hk;rw[cb]at dX;rcases ap.mp hd with h|hd
  .rw[h];exact abr e dX.1
  .exact wx ds dX.2 d hd
end
mutual
theorem Ic:∀(d e:Z9),kd d=true->kd e=true->b8 d e=true->d=e
 | .int i,e,_,he,h=>by cases e<;>simp[b8,kd]at h he⊢;exact h
 | .str x,e,_,he,h=>by cases e<;>simp[b8,kd]at h he⊢;exact h
 | .tuple ds,e,hd,he,h=>by
  cases e with
  | tuple es=>
   have:=Jk ds es hd he (by simpa [b8]using h);rw[this]
  | _=>simp[b8,kd]at h he
 | .none,_,hd,_,_=>absurd hd aj
 | .bool _,_,hd,_,_=>absurd hd aj
 | .list _,_,hd,_,_=>absurd hd aj
 | .dict _,_,hd,_,_=>absurd hd aj
theorem Jk:∀(ds es:U Z9),v4 ds=true->v4 es=true->PyData.eqvAll ds es=true->ds=es
 | [],[],_,_,_=>rfl
 | [],_::_,_,_,h=>by simp[PyData.eqvAll]at h
 | _::_,[],_,_,h=>by simp[PyData.eqvAll]at h
 | d::ds,e::es,hd,he,h=>by
  have iY:(kd d&&v4 ds)=true:=hd;have wU:(kd e&&v4 es)=true:=he;rw[cb]at iY wU;have h':b8 d e=true/\PyData.eqvAll ds es=true:=by simpa [PyData.eqvAll]using h
  rw[Ic d e iY.1 wU.1 h'.1,Jk ds es iY.2 wU.2 h'.2]
end
theorem rh{h:Heap}:∀{vs:U aA} {ds:U Z9} {as:U aF},ReadsAll h vs ds as->∀v∈vs,∃d bs,d∈ds/\Reads h v d bs
 | _,_,_,.nil,v,hv=>by cases hv
 | _,_,_,.cons h1 h2,v,hv=>by
  rcases ap.mp hv with e|hv
  .rw[e];exact(kl _ _ ⟨ak,h1⟩)
  .obtain⟨d,bs,q1,q2⟩:=rh h2 v hv;exact(kl d bs ⟨ao _ q1,q2⟩)
theorem D7:∀{ds:U Z9},v4 ds=true->∀d∈ds,kd d=true
 | [],_,d,hd=>by cases hd
 | e::ds,hk,d,hd=>by
  have dX:(kd e&&v4 ds)=true:=hk;rw[cb]at dX;rcases ap.mp hd with h|hd
  .rw[h];exact dX.1
  .exact D7 dX.2 d hd
theorem IN:∀{ds:U Z9},∀d∈ds,d.depth<=ay ds
 | [],d,hd=>by cases hd
 | e::ds,d,hd=>by
  show _<=yQ e.depth (ay ds);rcases ap.mp hd with h|hd
  .rw[h];exact Nat.le_max_left _ _
  .exact fg (IN d hd)<|Nat.le_max_right _ _
section
variable{prog:aJ}{w:aL}{A:Around}{E:aA->aC->Prop}{s:aC}
theorem aa2(n:Nat):∀{v:aA} {d:Z9} {as:U aF} {Q:Bool->aC->Prop},kd d=true->Reads s.heap v d as->d.depth<n->Q true s->aH (aI prog w) A (eqIsQuiet n v) Q E s:=by
 induction n with
 | zero=>intro v d as Q hk r hn q;exact absurd hn (Nat.not_lt_zero _)
 | succ n ih=>
  intro v d as Q hk r hn q;cases d with
  | int i=>cases r with|int=>rw[BQ _ rfl];exact am q
  | str x=>cases r with|str=>rw[BQ _ rfl];exact am q
  | tuple ds=>
    cases r with
    | @tuple a o vs m _ _ ho hc hd hi=>
    have hT:s.TypeIs (.ref a) "tuple":=⟨o,ho,hc⟩;have fE:ay ds+1<n+1:=hn;unfold eqIsQuiet;refine ab<|cH (name:="__eq__") hT F.slot_tuple_eq.lookup ?_;show aH _ _ (isInstance (.ref a) (.type "tuple") >>= _) _ _ _;refine ab<|cU (T:="tuple") hT isSubtype_tuple_tuple ?_;simp only[gn,a9,if_false];refine ab<|jm (n:=m) ho hd ?_;refine ab ?_;show aH _ _ (forIn vs _ _) _ _ _;rw[<-Array.forIn_toList];refine jh _ (λbB r s'=>r.1=none/\s'=s/\∀v∈bB,v∈vs.toList) _ (λv bB r s' hI=>?_) (λr s' hI=>?_) _ _ ⟨rfl,rfl,λv hv=>hv⟩
    .obtain⟨hr,es,aU⟩:=hI;rw[es];obtain⟨d,bs,kX,qV⟩:=rh hi v<|aU v ak;refine ab<|ih (D7 hk d kX) qV (by have:=IN d kX;lia) ?_;simp only[gn,a9,if_false];exact am ⟨rfl,rfl,λu hu=>aU u<|ao _ hu⟩
    .obtain⟨r1,r2⟩:=r;obtain⟨hr,rfl,_⟩:=hI;simp only at hr;subst hr;exact am q
  | none=>exact absurd hk aj
  | bool _=>exact absurd hk aj
  | list _=>exact absurd hk aj
  | dict _=>exact absurd hk aj
theorem aam(n:Nat):∀{v:aA} {d:Z9} {as:U aF} {Q:Bool->aC->Prop},kd d=true->Reads s.heap v d as->d.depth<n->Q false s->aH (aI prog w) A (dS n v) Q E s:=by
 induction n with
 | zero=>intro v d as Q hk r hn q;exact absurd hn (Nat.not_lt_zero _)
 | succ n ih=>
  intro v d as Q hk r hn q;cases d with
  | int i=>cases r with|int=>unfold dS;exact am q
  | str x=>cases r with|str=>unfold dS;exact am q
  | tuple ds=>
    cases r with
    | @tuple a o vs m _ _ ho hc hd hi=>
    have hT:s.TypeIs (.ref a) "tuple":=⟨o,ho,hc⟩;have fE:ay ds+1<n+1:=hn;unfold dS;refine ab<|qF (T:="tuple") hT ?_;dsimp only;rw[if_pos (by decide)];refine ab<|am ?_;simp only[gn,a9,if_false];refine ab<|jm (n:=m) ho hd ?_;dsimp only;refine ab ?_;rw[<-Array.forIn_toList];refine jh _ (λbB r s'=>r.1=none/\s'=s/\∀v∈bB,v∈vs.toList) _ (λv bB r s' hI=>?_) (λr s' hI=>?_) _ _ ⟨rfl,rfl,λv hv=>hv⟩
    .obtain⟨hr,es,aU⟩:=hI;rw[es];obtain⟨d,bs,kX,qV⟩:=rh hi v<|aU v ak;refine ab<|ih (D7 hk d kX) qV (by have:=IN d kX;lia) ?_;simp only[a9,if_false];exact am ⟨rfl,rfl,λu hu=>aU u<|ao _ hu⟩
    .obtain⟨r1,r2⟩:=r;obtain⟨hr,rfl,_⟩:=hI;simp only at hr;subst hr;exact am q
  | none=>exact absurd hk aj
  | bool _=>exact absurd hk aj
  | list _=>exact absurd hk aj
  | dict _=>exact absurd hk aj
theorem zu:∀(n:Nat) {v:aA} {d:Z9} {as:U aF} {Q:Bool->aC->Prop},kd d=true->Reads s.heap v d as->(∀b,Q b s)->aH (aI prog w) A (fP n v) Q E s
 | n,v,.int i,as,Q,hk,r,q=>by cases r with|int=>unfold fP;exact am (q _)
 | n,v,.str x,as,Q,hk,r,q=>by cases r with|str=>unfold fP;exact am (q _)
 | 0,v,.tuple ds,as,Q,hk,r,q=>by cases r with|tuple=>unfold fP;exact am (q _)
 | n+1,v,.tuple ds,as,Q,hk,r,q=>by
  cases r with
  | @tuple a o vs m _ _ ho hc hd hi=>
  have hT:s.TypeIs (.ref a) "tuple":=⟨o,ho,hc⟩;unfold fP;refine ab<|cH (name:="__hash__") hT F.slot_tuple_hash.lookup ?_;dsimp only;refine ab<|jm (n:=m) ho hd ?_;refine ab ?_;show aH _ _ (forIn vs _ _) _ _ _;rw[<-Array.forIn_toList];refine jh _ (λbB r s'=>r.1=none/\s'=s/\∀v∈bB,v∈vs.toList) _ (λv bB r s' hI=>?_) (λr s' hI=>?_) _ _ ⟨rfl,rfl,λv hv=>hv⟩
  .obtain⟨hr,es,aU⟩:=hI;rw[es];obtain⟨d,bs,kX,qV⟩:=rh hi v<|aU v ak;refine ab<|zu n (D7 hk d kX) qV λb=>?_;cases b with
   | true=>
    simp only[gn,a9,if_false];exact am ⟨rfl,rfl,λu hu=>aU u<|ao _ hu⟩
   | false=>
    simp only[Bool.not_false,if_true];exact am<|am<|q _
  .obtain⟨r1,r2⟩:=r;obtain⟨hr,rfl,_⟩:=hI;simp only at hr;subst hr;exact am (q _)
 | _,_,.none,_,_,hk,_,_=>absurd hk aj
 | _,_,.bool _,_,_,hk,_,_=>absurd hk aj
 | _,_,.list _,_,_,hk,_,_=>absurd hk aj
 | _,_,.dict _,_,_,hk,_,_=>absurd hk aj
structure El(Pv:aA->Z9->Prop)(w:aL)(h:Heap)(e:Int×aA)(d:Z9):Prop where
 own:Pv e.2 d
 hash:e.1=qD w d
 key:kd d=true
 tup:∃ds,d=.tuple ds
 lay:d.canLay0=true
 deep:d.depth<8
 reads:∃as,Reads h e.2 d as
theorem El.ref{w:aL}{h:Heap}{e:Int×aA}{d:Z9}(x:El Pv w h e d):∃a,e.2=.ref a:=by
 obtain⟨ds,rfl⟩:=x.tup;obtain⟨as,r⟩:=x.reads;generalize e.2=v at r;cases r with
 | tuple=>exact⟨_,rfl⟩
def El.eq{h:Heap}{A:Around}{e e':Int×aA}{d d':Z9}(hs:s.heap=h)(x:El Pv w h e d)(y:El Pv w h e' d')(hu:A.units+8<aY){Q:Bool->aC->Prop}(q:∀b:Bool,(b=true↔d=d')->Q b s):aH (aI prog w) A (eqBool e.2 e'.2) Q E s:=by subst hs;obtain⟨as,r⟩:=x.reads;obtain⟨bs,r'⟩:=y.reads;refine SeqAt.eqBoolOverData prog w A E s _ _ d d' as bs Q r r' x.lay y.lay (by have:=x.deep;have:=Nat.min_le_left d.depth d'.depth;lia) ?_;refine q _ ⟨λz=>Ic d d' x.key y.key z,λz=>?_⟩;rw[<-z];exact SeqAt.eqv_refl _ x.lay
theorem apw{x:Int×aA}{d:Z9}(hx:El Pv w s.heap x d):∀(ys:U aA) {Q:Bool->aC->Prop},(∀y∈ys,∃h e,El Pv w s.heap (h,y) e)->Q false s->aH (aI prog w) A (Aq x.2 ys) Q E s:=by
 intro ys Q hy q;unfold Aq;refine ab ?_;refine jh _ (λbB r s'=>r.1=none/\s'=s/\∀v∈bB,v∈ys) _ (λv bB r s' hI=>?_) (λr s' hI=>?_) _ _ ⟨rfl,rfl,λv hv=>hv⟩
 .obtain⟨hr,rfl,aU⟩:=hI;obtain⟨h,e,hE⟩:=hy v<|aU v ak;obtain⟨a,ea⟩:=hx.ref;obtain⟨b,eb⟩:=hE.ref;obtain⟨as,r1⟩:=hx.reads;obtain⟨bs,r2⟩:=hE.reads;have nxt:∀u∈bB,u∈ys:=λu hu=>aU u<|ao _ hu;simp only at eb r2;have stay:aH (aI prog w) A (bQ (ForInStep.yield ((none:Option Bool),())):Jr (ForInStep<|Option Bool×Unit)) (λr Au=>match r with
   | ForInStep.yield b'=>b'.fst=none/\Au=s'/\∀(v:aA),v∈bB->v∈ys
   | ForInStep.done b'=>aH (aI prog w) A (match b'.fst with|some r=>bQ r|none=>bQ false) Q E Au) E s':=am ⟨rfl,rfl,nxt⟩
  subst eb;rw[ea]at r1⊢;dsimp only;split
  .exact stay
  .refine ab<|aa2 8 hx.key r1 hx.deep ?_;simp only[gn,a9,if_false];refine ab<|aa2 8 hE.key r2 hE.deep ?_;simp only[gn,a9,if_false];refine ab<|aam 8 hx.key r1 hx.deep ?_;simp only[a9,if_false];refine ab<|aam 8 hE.key r2 hE.deep ?_;simp only[a9,if_false];exact stay
 .obtain⟨r1,r2⟩:=r;obtain⟨hr,rfl,_⟩:=hI;simp only at hr;subst hr;exact am q
def Els(Pv:aA->Z9->Prop)(w:aL)(h:Heap)(es:U (Int×aA))(ds:U Z9):Prop:=es.length=ds.length/\∀(i:Nat) e d,es[i]?=some e->ds[i]?=some d->El Pv w h e d
def Els.at{h:Heap}{es:U (Int×aA)}{ds:U Z9}(x:Els Pv w h es ds){i:Nat}{e:Int×aA}(he:es[i]?=some e):∃d,ds[i]?=some d/\El Pv w h e d:=by have hl:=(af.mp he).1;have hd:ds[i]?=some (ds[i]'(by rw[<-x.1];exact hl)):=aa _;exact⟨_,hd,x.2 i e _ he hd⟩
def alr{t:SetTable}{es:Array (Int×aA)}(ok:TOk t es){f:Nat->Int}{h:Int}{p:SetTable.Probe}(st:tE t.mask p) :
  ∃met,t.probe f h p=some met/\((∃n,met=.empty (itn (adv t.mask) n p).j p.dummy/\(itn (adv t.mask) n p).j∉t.place.toList/\∀n',n'<n->∃i:Nat,t.place[i]?=some (itn (adv t.mask) n' p).j/\f i≠h)\/
  (∃n i,met=.candidate (itn (adv t.mask) n p).j i (itn (adv t.mask) (n+1) p)/\t.place[i]?=some (itn (adv t.mask) n p).j/\f i=h/\∀n',n'<n->∃i':Nat,t.place[i']?=some (itn (adv t.mask) n' p).j/\f i'≠h)):=by
 rcases ahw ok f h st with ⟨n,e,r⟩|⟨n,i,e,r⟩
 .exact⟨_,e,.inl ⟨n,rfl,r⟩⟩
 .exact⟨_,e,.inr<|kl n i ⟨rfl,r⟩⟩
theorem adb(mask:Nat):∀(n:Nat)(p:SetTable.Probe),(itn (adv mask) n p).dummy=p.dummy
 | 0,_=>rfl
 | n+1,p=>by show(itn (adv mask) n<|adv mask p).dummy=_;rw[adb mask n];unfold adv;split<;>rfl
theorem abl{a:aF}{o:Obj}{es:Array (Int×aA)}{ep:Nat}{t:SetTable}{ds:U Z9}{x:Int×aA}{d:Z9}{Q:SetFound->aC->Prop}
  (ho:s.heap.get? a=some o) (hd:o.data=.set es ep t) (ok:TOk t es) (els:Els Pv w s.heap es.toList ds) (hx:El Pv w s.heap x d) (hu:A.units+8<aY)
  (q1:d∈ds->Q (.there none) s) (q2:∀n,d∉ds->qe t.mask x.1 n∉t.place.toList->(∀n',n'<n->qe t.mask x.1 n'∈t.place.toList)->Q (.free (qe t.mask x.1 n) false) s) :
  ∀(fuel m N:Nat)(lI:Option SetTable.Probe),lI.getD (st0 t.mask x.1)=itn (adv t.mask) m (st0 t.mask x.1)->qe t.mask x.1 N∉t.place.toList->N<m+fuel->
   (∀n',n'<m->∃i:Nat,t.place[i]?=some (qe t.mask x.1 n')/\ds[i]?≠some d)->aH (aI prog w) A (nI a x.2 x.1 true fuel lI) Q E s
 | 0,m,N,lI,bJ,hN,hf,hm=>by exfalso;obtain⟨i,h1,h2⟩:=hm N (by lia);exact hN (by rw[<-bv]at h1;exact ah h1)
 | fuel+1,m,N,lI,bJ,hN,hf,hm=>by
  unfold nI;refine ab<|fy ho hd ok.fits ?_;dsimp only;rw[ok.noway];simp only[a9,if_false];rw[al7,bJ];have wC:tE t.mask (itn (adv t.mask) m<|st0 t.mask x.1):=Jh m<|xn _ _;have lP:∀n,(itn (adv t.mask) n<|itn (adv t.mask) m<|st0 t.mask x.1).j=qe t.mask x.1 (m+n):=λn=>by unfold qe;rw[sr]
  have inj:∀{i i' j:Nat},t.place[i]?=some j->t.place[i']?=some j->i=i':=λ{i i' j} h1 h2=>by rw[<-Jf ok.rise h1,Jf ok.rise h2]
  have vD:∀{i j:Nat},t.place[i]?=some j->∃e di,es[i]?=some e/\ds[i]?=some di/\El Pv w s.heap e di:=λ{i j} h1=>by have hl:=(ck.mp h1).1;have he:es[i]?=some (es[i]'(by rw[<-ok.sz];exact hl)):=bq _;obtain⟨di,h2,h3⟩:=els.at (by rw[bv];exact he);exact(kl _ di ⟨he,h2,h3⟩)
  obtain⟨met,hp,FN⟩:=alr ok (f:=_) (h:=x.1) wC;rw[hp];have B1:∀{n i:Nat},t.place[i]?=some (itn (adv t.mask) n<|itn (adv t.mask) m<|st0 t.mask x.1).j->(es[i]?.map (·.1)).getD 0≠x.1->ds[i]?≠some d:=λ{n i} h1 h2 h3=>by obtain⟨e,di,g1,g2,g3⟩:=vD h1;rw[g2]at h3;cases h3;apply h2;rw[g1];show e.1=x.1;rw[g3.hash,hx.hash]
  rcases FN with ⟨n,rfl,bS,wW⟩|⟨n,i,rfl,eF,hfi,wW⟩
  .have BE:∀n',n'<n->∃i:Nat,t.place[i]?=some (itn (adv t.mask) n'<|itn (adv t.mask) m<|st0 t.mask x.1).j/\ds[i]?≠some d:=λn' fE=>by
    obtain⟨i',h1,h2⟩:=wW n' fE;exact⟨i',h1,B1 h1 h2⟩
   dsimp only;rw[adb];show aH _ _ (bQ _) _ _ _;rw[lP]at bS⊢;have pZ:∀n',n'<m+n->∃i:Nat,t.place[i]?=some (qe t.mask x.1 n')/\ds[i]?≠some d:=λn' fE=>by
    by_cases hq:n'<m
    .exact hm n' hq
    .obtain⟨i',h1,h2⟩:=BE (n'-m) (by lia);rw[lP,show m+(n'-m)=n' by lia]at h1;exact⟨i',h1,h2⟩
   refine am<|q2 (m+n) (λnP=>?_) bS λn' fE=>?_
   .obtain⟨k,hk⟩:=dw nP;have pF:=(af.mp hk).1;have hke:es.toList[k]?=some (es.toList[k]'(by rw[els.1];exact pF)):=aa _;have qU:=els.2 k _ d hke hk;have lZ:t.place[k]?=some (t.place[k]'(by rw[ok.sz,<-a8,els.1];exact pF)):=bq _;obtain⟨n',fE,hr⟩:=ok.ahead (j:=t.place[k]'(by rw[ok.sz,<-a8,els.1];exact pF)) (e:=es.toList[k]'(by rw[els.1];exact pF)) ⟨k,by rw[bv];exact lZ,hke⟩ (n:=m+n) (by rw[qU.hash,<-hx.hash];exact bS);rw[qU.hash,<-hx.hash]at hr;obtain⟨i',g1,g2⟩:=pZ n' fE;rw[hr]at g1;have e:=inj lZ g1;rw[<-e]at g2;exact g2 hk
   .obtain⟨i',g1,_⟩:=pZ n' fE;rw[<-bv]at g1;exact ah g1
  .obtain⟨e,di,g1,g2,g3⟩:=vD eF;obtain⟨eh,y⟩:=e;obtain⟨ya,ey⟩:=g3.ref;have ey':y=.ref ya:=ey;subst ey';dsimp only;have fin:aH (aI prog w) A (nI a x.2 x.1 true fuel<|some<|itn (adv t.mask) (n+1)<|itn (adv t.mask) m<|st0 t.mask x.1) Q E s\/di=d:=by
    by_cases hq:di=d
    .exact .inr hq
    .refine .inl<|abl ho hd ok els hx hu q1 q2 fuel (m+n+1) N _ ?_ hN (by lia) λn' fE=>?_
     .show itn (adv t.mask) (n+1) (itn (adv t.mask) m<|st0 t.mask x.1)=_;rw[<-sr];rfl
     .by_cases wE:n'<m
      .exact hm n' wE
      .by_cases yU:n'-m<n
       .obtain⟨i',h1,h2⟩:=wW (n'-m) yU;have h3:=B1 h1 h2;rw[lP,show m+(n'-m)=n' by lia]at h1;exact⟨i',h1,h3⟩
       .rw[lP,show m+n=n' by lia]at eF;exact⟨i,eF,by rw[g2];intro z;cases z;exact hq rfl⟩
   have BZ:∀(b:Bool),(b=true↔di=d)->(b=true->aH (aI prog w) A (bQ<|SetFound.there none) Q E s):=λb hb hbt=>am (q1 (by
    rw[<-hb.mp hbt];exact ah g2))
   rw[g1];dsimp only;have sm:t.sameMemory t.moves t.mask=some true:=by unfold SetTable.sameMemory;simp
   cases cB:t.led with
   | true=>
    simp only[gn,a9,if_false];refine ab<|db<|El.eq rfl g3 hx hu λb hb=>?_;refine ab<|fy ho hd ok.fits ?_;cases b with
    | true=>
     simp only[Bool.and_self,if_true];exact BZ true hb rfl
    | false=>
     simp only[ij,a9,if_false];rw[sm];dsimp only;rw[if_pos rfl,Jl ok.rise eF];dsimp only;rw[g1];dsimp only;refine ab<|rT ?_;refine ab<|am ?_;simp only[if_true,a9,if_false];rcases fin with f|f
     .exact f
     .exact absurd (hb.mpr f) (by simp)
   | false=>
    simp only[Bool.not_false,if_true];refine ab<|apw hx _ (λy hy=>?_) ?_
    .obtain⟨e,he,rfl⟩:=aw.mp hy;have wU:e∈es.toList:=by
      rw[Array.toList_filter]at he;exact(fj.mp he).1
     obtain⟨k,hk⟩:=dw wU;obtain⟨dk,_,hE⟩:=els.at hk;exact(kl e.1 dk hE)
    simp only[a9,if_false];refine ab<|db<|El.eq rfl g3 hx hu λb hb=>?_;refine ab<|fy ho hd ok.fits ?_;cases b with
    | true=>
     simp only[Bool.and_self,if_true];exact BZ true hb rfl
    | false=>
     simp only[ij,a9,if_false];rw[sm];dsimp only;rw[if_pos rfl,Jl ok.rise eF];dsimp only;rw[g1];dsimp only;refine ab<|rT ?_;refine ab<|am ?_;simp only[if_true,a9,if_false];rcases fin with f|f
     .exact f
     .exact absurd (hb.mpr f)<|by simp
end
end L3
namespace L3
open PySem
variable{Pv:aA->Z9->Prop}
def alf{w:aL}{h:Heap}{ds:U Z9}(x:Els Pv w h [] ds):ds=[]:=fb.mp x.1.symm
theorem xo{w:aL}{h:Heap}{e:Int×aA}{es:U (Int×aA)}{ds:U Z9}(x:Els Pv w h (e::es) ds):∃d aW,ds=d::aW/\El Pv w h e d/\Els Pv w h es aW:=by
 match ds,x with
 | [],x=>exact absurd x.1 (by simp)
 | d::aW,x=>exact(kl d aW ⟨rfl,x.2 0 e d rfl rfl,by have:=x.1;simpa using this,λi e' d' h1 h2=>x.2 (i+1) e' d' h1 h2⟩)
theorem Els.cons{w:aL}{h:Heap}{e:Int×aA}{d:Z9}{es:U (Int×aA)}{ds:U Z9}(hd:El Pv w h e d)(x:Els Pv w h es ds):Els Pv w h (e::es) (d::ds):=by
 refine⟨by rw[ba,ba,x.1],λi e' d' h1 h2=>?_⟩;cases i with
 | zero=>cases h1;cases h2;exact hd
 | succ i=>exact x.2 i e' d' h1 h2
def Els.nil{w:aL}{h:Heap}:Els Pv w h [] []:=⟨rfl,λi e d h1 _=>by simp at h1⟩
theorem Els.append{w:aL}{h:Heap}:∀{es fs:U (Int×aA)} {ds gs:U Z9},Els Pv w h es ds->Els Pv w h fs gs->Els Pv w h (es++fs) (ds++gs)
 | [],fs,ds,gs,x,y=>by rw[alf x];exact y
 | e::es,fs,ds,gs,x,y=>by obtain⟨d,aW,rfl,h1,h2⟩:=xo x;exact Els.cons h1<|h2.append y
theorem Els.take{w:aL}{h:Heap}{es:U (Int×aA)}{ds:U Z9}(x:Els Pv w h es ds)(n:Nat):Els Pv w h (es.take n) (ds.take n):=by
 refine⟨by rw[c8,c8,x.1],λi e d h1 h2=>?_⟩;have hi:i<n:=by have:=(af.mp h1).1;rw[c8]at this;lia
 rw[gg hi]at h1 h2;exact x.2 i e d h1 h2
theorem Els.drop{w:aL}{h:Heap}{es:U (Int×aA)}{ds:U Z9}(x:Els Pv w h es ds)(n:Nat):Els Pv w h (es.drop n) (ds.drop n):=by refine⟨by rw[ie,ie,x.1],λi e d h1 h2=>?_⟩;rw[iy]at h1 h2;exact x.2 _ e d h1 h2
theorem Els.perm{w:aL}{h:Heap}{es fs:U (Int×aA)}(p:es.Perm fs):∀{ds:U Z9},Els Pv w h fs ds->∃aW,aW.Perm ds/\Els Pv w h es aW:=by
 induction p with
 | nil=>intro ds x;exact⟨ds,gw _,x⟩
 | cons e p ih=>
  intro ds x;obtain⟨d,ds1,rfl,h1,h2⟩:=xo x;obtain⟨BW,p2,x2⟩:=ih h2;exact⟨d::BW,p2.cons d,x2.cons h1⟩
 | swap a b l=>
  intro ds x;obtain⟨d,ds1,rfl,h1,h2⟩:=xo x;obtain⟨d',BW,rfl,h3,h4⟩:=xo h2;exact⟨d'::d::BW,List.Perm.swap _ _ _,(h4.cons h1).cons h3⟩
 | trans p1 p2 ih1 ih2=>
  intro ds x;obtain⟨ds1,q1,x1⟩:=ih2 x;obtain⟨BW,q2,x2⟩:=ih1 x1;exact⟨BW,q2.trans q1,x2⟩
def ul(h h':Heap):Prop:=∀b ob,h.get? b=some ob->ob.cls=.type "tuple"->h'.get? b=some ob
mutual
theorem ab9{h h':Heap}(t:ul h h'):∀(d:Z9) {v:aA} {as:U aF},kd d=true->Reads h v d as->Reads h' v d as
 | .int i,v,as,_,r=>by cases r with|int=>exact .int _ _
 | .str x,v,as,_,r=>by cases r with|str=>exact .str _ _
 | .tuple ds,v,as,hk,r=>by
  cases r with
  | tuple ho hc hd hi=>exact .tuple (t _ _ ho hc) hc hd (xf t ds hk hi)
 | .none,_,_,hk,_=>absurd hk aj
 | .bool _,_,_,hk,_=>absurd hk aj
 | .list _,_,_,hk,_=>absurd hk aj
 | .dict _,_,_,hk,_=>absurd hk aj
theorem xf{h h':Heap}(t:ul h h'):∀(ds:U Z9) {vs:U aA} {as:U aF},v4 ds=true->ReadsAll h vs ds as->ReadsAll h' vs ds as
 | [],vs,as,_,r=>by cases r;exact .nil
 | d::ds,vs,as,hk,r=>by
  have dX:(kd d&&v4 ds)=true:=hk;rw[cb]at dX;cases r with
  | cons h1 h2=>exact .cons (ab9 t d dX.1 h1)<|xf t ds dX.2 h2
end
def El.stay{w:aL}{h h':Heap}(t:ul h h'){e:Int×aA}{d:Z9}(x:El Pv w h e d):El Pv w h' e d:=
 ⟨x.own,x.hash,x.key,x.tup,x.lay,x.deep,let ⟨as,r⟩:=x.reads;⟨as,ab9 t d x.key r⟩⟩
theorem Els.stay{w:aL}{h h':Heap}(t:ul h h'){es:U (Int×aA)}{ds:U Z9}(x:Els Pv w h es ds):Els Pv w h' es ds:=⟨x.1,λi e d h1 h2=>(x.2 i e d h1 h2).stay t⟩
def ag6{h h':Heap}{a:aF}{o:Obj}(ho:h.get? a=some o)(hc:o.cls=.type "set")(hs:br a h h'):ul h h':=λb ob hb ht=>by
 have:b≠a:=λe=>by subst e;rw[ho]at hb;cases hb;rw[hc]at ht;exact absurd ht<|by decide
 rw[hs.2 b this];exact hb
noncomputable def byT(w:aL):Bool:=w.params.followText "set-order"
def SetD(Pv:aA->Z9->Prop)(w:aL)(h:Heap)(a:aF)(ds:U Z9):Prop:=
 ∃o es ep t,h.get? a=some o/\o.ExactSet/\o.data=.set es ep t/\TOk t es/\t.place.size*5<t.mask*3/\Els Pv w h es.toList ds/\ds.Nodup/\t.led = !byT w
theorem SetD.fresh{w:aL}{h:Heap}{led:Bool}(cB:led = !byT w):SetD Pv w (h.push {cls:=.type "set",dict:=none,data:=.set #[] 0 (.fresh 0 0 led)}) h.objs.size []:=
 (li _ (#[]) 0 _ ⟨a0 _ rfl,⟨rfl,rfl,rfl⟩,rfl,TOk.fresh 0 0 led,(by show 0*5<7*3;decide),Els.nil,List.nodup_nil,cB⟩)
def TOk.withPlain{t:SetTable}{es:Array (Int×aA)}(ok:TOk t es)(b:Bool):TOk {t with plain:=b} es:=⟨ok.two,ok.dm,ok.rise,ok.bd,ok.sz,ok.fit,ok.onroad⟩
section
variable{prog:aJ}{w:aL}{A:Around}{E:aA->aC->Prop}{s:aC}
def anu{a:aF}{o:Obj}{es:Array (Int×aA)}{ep:Nat}{t:SetTable}{ds:U Z9}{bT:Nat}{Q:Unit->aC->Prop}
  (ho:s.heap.get? a=some o) (dM:o.ExactSet) (hd:o.data=.set es ep t) (ok:TOk t es) (els:Els Pv w s.heap es.toList ds) (fY:ds.Nodup) (cB:t.led = !byT w) (hw:es.size*4<=bT) (C9:bT<2^13) (wH:∀k,SetTable.sizeAbove bT=2^k->k % 2=1) (dW:0<es.size)
  (q:∀h' aW,br a s.heap h'->SetD Pv w h' a aW->aW.Perm ds->Q () {s with heap:=h'}):aH (aI prog w) A (setRelay a bT) Q E s:=by
 obtain⟨t',eV,e,ok',pm,few,GA⟩:=afk (t:=t) hw C9 wH dW;obtain⟨k,ek,k3,sL,hn⟩:=sv bT C9;have dO:¬SetTable.sizeAbove bT>aG:=by rw[ek,gf];have:2^k<=2^13:=f7 (by decide) sL;lia
 have hsz:(eV.filterMap (es[·]?)).size=es.size:=by have:=pm.length_eq;rw[a8,a8]at this;exact this
 obtain⟨aW,pd,Gz⟩:=els.perm pm;unfold setRelay;refine ab<|fy ho hd ok.fits ?_;dsimp only;rw[if_neg dO,e];refine ab ?_;show aH _ _ (ite _ _ _) _ _ _;rw[if_neg (by simp[hsz])];refine am ?_;have Fo:es.size<=aG:=by rw[gf];lia
 refine Ak ho hd ?_ (by rw[hsz];exact Fo);have hg:(s.heap.update a<|Obj.putSet (eV.filterMap (es[·]?)) t').get? a=some {o with data:=.set (eV.filterMap (es[·]?)) (ep+1) t'}:=by have:=cu (Obj.putSet (eV.filterMap (es[·]?)) t') ho (by rw[oF _ t' hd];rfl);rw[oF _ t' hd]at this;exact this
 have lY:=fk s.heap a<|Obj.putSet (eV.filterMap (es[·]?)) t';exact q _ aW lY (li _ _ _ _ ⟨hg,dM,rfl,ok',few,Gz.stay<|ag6 ho dM.1 lY,(pd.nodup_iff).mpr fY,GA.trans cB⟩) pd
theorem ahl{a:aF}{ds:U Z9}{x:Int×aA}{d:Z9}{Q:Bool->aC->Prop}(hS:SetD Pv w s.heap a ds)(hx:El Pv w s.heap x d)(hu:A.units+8<aY)(oS:ds.length<4000)
  (q:∀h' aW b,br a s.heap h'->SetD Pv w h' a aW->(d∈ds->aW=ds)->(d∉ds->aW.Perm (d::ds))->Q b {s with heap:=h'}) :
  aH (aI prog w) A (setAddHashed a x.2 x.1) Q E s:=by
 obtain⟨o,es,ep,t,ho,dM,hd,ok,few,els,fY,cB⟩:=hS;obtain⟨xa,ex⟩:=hx.ref;obtain⟨k,hk,k3,sL,ko⟩:=ok.two;have qU:=els.1;rw[a8]at qU;have hsz:=ok.sz;obtain⟨j,hj,bS⟩:=Cj (ps:=t.place.toList) (m:=t.mask) (by rw[a8];exact ok.fit);unfold setAddHashed setAddHashedIn;refine db<|ab<|fy ho hd ok.fits ?_;dsimp only;have iF:byScan x.2 es=false:=by rw[ex];rfl
 rw[iF];simp only[a9,if_false];unfold setSearch;obtain⟨N,hN,eN⟩:=auc hk (st0 t.mask x.1) (xn _ _).1 (xn _ _).2.1 j hj;have oX:10*SetTable.turns t.mask<=100000:=by unfold SetTable.turns;have:2^k<=2^13:=f7 (by decide) sL;lia
 refine ab<|abl ho hd ok els hx hu (λnP=>?_) (λn wJ hf hr=>?_) 100000 0 N none rfl (by unfold qe;rw[eN];exact bS) (by lia) λn' fE=>by lia
 .dsimp only;refine am ?_;have e:s={s with heap:=s.heap}:=by cases s;rfl
  rw[e];exact q s.heap ds false (br.refl a s.heap) (li o es ep t ⟨ho,dM,hd,ok,few,els,fY,cB⟩) (λ_=>rfl) λz=>absurd nP z
 .dsimp only;have hm7:7<=t.mask:=by
   have:2^3<=2^k:=f7 (by decide) k3;lia
  obtain⟨ok1,em,wG,mP⟩:=ok.put (x:=x.2) hf hr (by lia);have BU:Els Pv w s.heap (gk es (t.put<|qe t.mask x.1 n).2 (x.1,x.2)).toList (ds.take (t.put<|qe t.mask x.1 n).2++d::ds.drop (t.put<|qe t.mask x.1 n).2):=by rw[oq];exact(els.take _).append ((els.drop _).cons hx)
  have C2:(ds.take (t.put<|qe t.mask x.1 n).2++d::ds.drop (t.put<|qe t.mask x.1 n).2).Perm (d::ds):=by have:=List.perm_middle (a:=d) (l₁:=ds.take (t.put<|qe t.mask x.1 n).2) (l₂:=ds.drop (t.put<|qe t.mask x.1 n).2);rw[List.take_append_drop]at this;exact this
  have EQ:(ds.take (t.put<|qe t.mask x.1 n).2++d::ds.drop (t.put<|qe t.mask x.1 n).2).Nodup:=by rw[C2.nodup_iff,g0];exact⟨wJ,fY⟩
  have BP:(gk es (t.put<|qe t.mask x.1 n).2 (x.1,x.2)).size=es.size+1:=by rw[<-ok1.sz,mP,hsz]
  refine ab<|fy ho hd ok.fits ?_;dsimp only;have uP:(t.put<|qe t.mask x.1 n).1.led=t.led:=rfl;generalize hpt:t.put (qe t.mask x.1 n)=pt at *;obtain⟨t1,p⟩:=pt;simp only at ok1 em wG mP BU C2 EQ BP uP⊢;have fin:∀t2:SetTable,TOk t2 (gk es p (x.1,x.2))->t2.mask=t1.mask->t2.place=t1.place->t2.led=t1.led->aH (aI prog w) A (storeSet a (gk es p (x.1,x.2)) t2 >>= λ_=>if (!false&&t2.tooFull)=true then setRelay a (SetTable.grown<|es.size+1) >>= λ_=>bQ true else bQ true) Q E s:=λt2 Ay e1 e2 e3=>by
   have uO:t2.led = !byT w:=e3.trans<|uP.trans cB;have dO:(gk es p (x.1,x.2)).size<=aG:=by rw[BP,gf];lia
   refine ab<|Ak ho hd ?_ dO;have hg:(s.heap.update a<|Obj.putSet (gk es p (x.1,x.2)) t2).get? a=some {o with data:=.set (gk es p (x.1,x.2)) (ep+1) t2}:=by have:=cu (Obj.putSet (gk es p (x.1,x.2)) t2) ho (by rw[oF _ t2 hd];rfl);rw[oF _ t2 hd]at this;exact this
   have lY:=fk s.heap a<|Obj.putSet (gk es p (x.1,x.2)) t2;have BS:=BU.stay<|ag6 ho dM.1 lY;by_cases fO:t2.tooFull=true
   .rw[if_pos (by rw[fO];rfl)];have qT:es.size<4000:=by rw[qU];exact oS
    have htf:t2.mask*3<=(es.size+1)*5:=by unfold SetTable.tooFull SetTable.fill at fO;rw[Ay.dm]at fO;have:=Ay.sz;have:=BP;simp at fO;lia
    have Dj:t2.mask+1=2^k:=by rw[e1,em];exact hk
    have hfw:(es.size+1-1)*5<t2.mask*3:=by rw[e1,em];have:=ok.sz;lia
    have hgs:=ahj Dj k3 sL ko htf hfw (by lia);have uS:SetTable.grown (es.size+1)=(es.size+1)*4:=by unfold SetTable.grown;rw[if_neg (by lia)]
    refine ab<|anu (s:={s with heap:=s.heap.update a<|Obj.putSet (gk es p (x.1,x.2)) t2}) hg dM rfl Ay BS EQ uO (by rw[BP,uS];exact aq _) (by rw[uS];exact hgs.1) (λk' ek'=>?_) (by rw[BP];lia) λh' aW Fl hG pd'=>?_
    .rw[uS]at ek';obtain⟨a1,a2,a3⟩:=acj _ (by lia) hgs.1 ek';exact anm Dj k3 sL ko htf hfw (by lia) a1 a2 a3
    .exact am<|q h' aW true (lY.trans Fl) hG (λz=>absurd z wJ) λ_=>pd'.trans C2
   .rw[if_neg (by simpa using fO)];have Gq:t2.place.size*5<t2.mask*3:=by
     unfold SetTable.tooFull SetTable.fill at fO;rw[Ay.dm]at fO;simpa using fO
    exact am<|q _ _ true lY (li _ _ _ _ ⟨hg,dM,rfl,Ay,Gq,BS,EQ,uO⟩) (λz=>absurd z wJ) λ_=>C2
  obtain⟨as,rx⟩:=hx.reads;split
  .refine ab<|zu 8 hx.key rx λb=>?_;cases b with
   | true=>
    simp only[if_true];exact fin t1 ok1 rfl rfl rfl
   | false=>
    simp only[a9,if_false];exact fin _ (ok1.withPlain false) rfl rfl rfl
  .refine ab<|am ?_;simp only[if_true];exact fin t1 ok1 rfl rfl rfl
end
end L3
namespace L3
open PySem PyProof.Rows
variable{Pv:aA->Z9->Prop}
def Keep(h0 h:Heap):Prop:=∀b o,h0.get? b=some o->h.get? b=some o
def Keep.tups{h0 h:Heap}(k:Keep h0 h):ul h0 h:=λb o e _=>k b o e
def SetD.moved{w:aL}{h h':Heap}{S:aF}{ds:U Z9}(x:SetD Pv w h S ds)(hS:∀o,h.get? S=some o->h'.get? S=some o)(t:ul h h'):SetD Pv w h' S ds:=by obtain⟨o,es,ep,tb,ho,dM,hd,ok,few,els,nd,cB⟩:=x;exact(li o es ep tb ⟨hS o ho,dM,hd,ok,few,els.stay t,nd,cB⟩)
section
variable{prog:aJ}{w:aL}{A:Around}{R:jL->aC->Prop}{I:aF}{fp wr:U aF}{G:Array iU->Array iU->Prop}{n:Nat}{P:Nat->aA->Prop}{St:Nat->aC->Prop}
theorem yy(W:WalksS prog w A.in1 I fp wr G n P St)(S:aF)(iM:S∉fp)(h0:Heap)(E8:∀b∈wr,h0.get? b=none)(hS0:h0.get? S=none)(hwt:∀i s,St i s->∀b∈wr,∀ob,s.heap.get? b=some ob->ob.cls≠.type "tuple")
  (val:Nat->Z9) (iW:∀i v,P i v->El Pv w h0 (qD w<|val i,v) (val i)) (hu:A.units+9<aY) (hb:n<4000) :
  ∀(k i:Nat)(s:aC)(ds:U Z9),n-i=k->i<=n->St i s->Keep h0 s.heap->SetD Pv w s.heap S ds->(∀d,d∈ds↔∃j,j<i/\val j=d)->ds.length<=i->
   (∀s' aW,Cs (S::wr) G s s'->Keep h0 s'.heap->SetD Pv w s'.heap S aW->(∀d,d∈aW↔∃j,j<n/\val j=d)->aW.length<=n->R (.ok<|.ret .none) s')->
   cI (aI prog w) A (.builtin "set.update.loop" ⟨[.ref S,.ref I],[]⟩) R s:=by
 have uZ:S∉wr:=λh=>iM<|W.sub _ h;have mono:∀b∈wr,b∈S::wr:=λb hb=>ao _ hb;have mv:∀{i:Nat} {s s':aC} {ds:U Z9},St i s->Cs wr G s s'->Keep h0 s.heap->SetD Pv w s.heap S ds->Keep h0 s'.heap/\SetD Pv w s'.heap S ds:=λ{i s s' ds} bJ hm hk hS=>by refine⟨λb o e=>hm.heap b o (λz=>by rw[E8 b z]at e;cases e)<|hk b o e,hS.moved (λo e=>hm.heap S o uZ e) λb o e ht=>hm.heap b o (λz=>hwt i s bJ b z o e ht) e⟩
 intro k;induction k with
 | zero=>
  intro i s ds hk hi bJ lZ hS cO aR hR;have nP:i=n:=by lia
  subst nP;refine et F.entry_set_update_loop (show _ from ?_);rw[dn ii (_:Ej)];show aH _ A.in1 (bA (.ref I) >>= _) _ _ _;refine ab<|W.done s _ _ bJ λs' hm=>?_;obtain⟨k1,S1⟩:=mv bJ hm lZ hS;exact am (hR s' ds (hm.mono mono) k1 S1 cO aR)
 | succ k ih=>
  intro i s ds hk hi bJ lZ hS cO aR hR;have bL:i<n:=by lia
  refine et F.entry_set_update_loop (show _ from ?_);rw[dn ii (_:Ej)];show aH _ A.in1 (bA (.ref I) >>= _) _ _ _;refine ab<|W.item i s _ _ bL bJ λv s' hP jR hm=>?_;obtain⟨k1,S1⟩:=mv bJ hm lZ hS;have hE:=(iW i v hP).stay k1.tups;obtain⟨as,rv⟩:=hE.reads;show aH _ A.in1 (fX [v] (setAdd S v) >>= _) _ _ _;refine ab<|db ?_;unfold setAdd;refine db ?_;refine ab<|abr (val i) hE.key prog w A.in1 _ s' v as _ rv (by show A.units+1+_<aY;have:=hE.deep;lia) λtk uH=>?_;refine ahl (s:={s' with toks:=tk}) (x:=(qD w<|val i,v)) S1 hE (by show A.units+1+8<aY;lia) (by lia) λh' aW b lY hG e1 e2=>?_;have k2:Keep h0 h':=λb o e=>by rw[lY.2 b (λz=>by rw[z,hS0]at e;cases e)];exact k1 b o e
  have oW:∀d,d∈aW↔∃j,j<i+1/\val j=d:=λd=>by
   have base:(∃j,j<i+1/\val j=d)↔(d∈ds\/val i=d):=by
    rw[cO d];constructor
    .rintro⟨j,hj,e⟩;by_cases q:j=i
     .subst q;exact .inr e
     .exact .inl ⟨j,by lia,e⟩
    .rintro(⟨j,hj,e⟩|e)
     .exact⟨j,by lia,e⟩
     .exact⟨i,by lia,e⟩
   rw[base];by_cases q:val i∈ds
   .rw[e1 q];exact⟨.inl,λz=>z.elim id λe=>e▸q⟩
   .rw[(e2 q).mem_iff,ap];exact⟨λz=>z.elim (λe=>.inr e.symm) .inl,λz=>z.elim .inr λe=>.inl e.symm⟩
  have oY:aW.length<=i+1:=by
   by_cases q:val i∈ds
   .rw[e1 q];lia
   .rw[(e2 q).length_eq,ba];lia
  refine am ⟨iw ii _,ih (i+1) _ aW (by lia) bL (W.frame _ s' _ _ jR uH λb hb o e=>?_) k2 hG oW oY λvT xH wL EZ Js EW EY=>?_⟩
  .rw[lY.2 b (λh:b=S=>iM<|by rw[<-h];exact hb)];exact e
  .refine hR vT xH (Cs.trans W.gtrans ((hm.mono mono).then_heap uH λb o hb e=>?_) wL) EZ Js EW EY;rw[lY.2 b (λh:b=S=>hb<|by rw[h];exact ak)];exact e
end
section
variable{prog:aJ}{w:aL}{A:Around}{E:aA->aC->Prop}{s:aC}
def uw(a:aA){Q₁:aA->aC->Prop}
  (h:Q₁ (.ref s.heap.objs.size) {s with heap:=s.heap.push {cls:=.type "set",dict:=none,data:=.set #[] 0 (.fresh 0 0<|!byT w)}}) :
  cI (aI prog w) A (.call (.builtin "set.__new__") ⟨[.type "set",a],[]⟩) (wants Q₁ E) s:=by
 refine fA (show _ from ?_);show aH _ A.in1 (do DF "set.__new__" ⟨[.type "set",a],[]⟩;again (.builtin "set.__new__" ⟨[.type "set",a],[]⟩)) _ _ _;refine ab<|dQ (PySem.F.newCall_set_1 a)<|am ⟨iw PySem.F.plain_set_new _,et PySem.F.entry_set_new (show _ from ?_)⟩;rw[dn PySem.F.plain_set_new (_:Ej)];unfold Builtin.«set.__new__» Builtin.Frozenset.newClass;have iD:=sub_set_self;obtain⟨hp,g,d,tk,os⟩:=s;dsimp only
 wp_walk
 refine bY<|am ?_;dsimp only;simp only[newObj];refine ab<|wpAny_alloc<|am ?_;exact am h
theorem ado{l:aF}{items:Array aA}{ds:U Z9}{Q:aA->aC->Prop}
  (hh:A.handled=none) (hl:s.heap.IsList l items) (hi:items.size=ds.length) (hE:∀(i:Nat) v d,items[i]?=some v->ds[i]?=some d->El Pv w s.heap (qD w d,v) d) (hb:ds.length<4000) (hu:A.units+20<aY)
  (h:∀(h':Heap)(tk:Nat)(aW:U Z9),SetD Pv w h' s.heap.objs.size aW->(∀d,d∈aW↔d∈ds)->aW.length<=ds.length->Keep s.heap h'->s.toks<=tk->Q (.ref s.heap.objs.size) {s with heap:=h',toks:=tk}) :
  aH (aI prog w) A (call (.type "set") [.ref l]) Q E s:=by
 obtain⟨c,tl,Bh⟩:=bm.mro;have uM:=bm.made;have iD:=bm.sub;refine gT<|fA (show _ from ?_);show aH _ _ (callAny (.type "set") _) _ _ s;refine am ⟨Code.quiet_builtin _<|by decide +kernel,et F.entry_type_call (show _ from ?_)⟩;rw[Around.under_plain (fB "set" [.ref l] []) (rfl:_=_)];have h1:=bm.notType;have h2:=bm.canCreate;have hct:=PySem.F.typeCall_set_1 (.ref l)
 repeat (any_goals (first|assumption|(wp_step)))
 refine js (uw (.ref l) (E:=E) (Q₁:=λobj s₁=>∃led:Bool,led=(!byT w)/\obj=.ref s.heap.objs.size/\s₁={s with heap:=s.heap.push {cls:=.type "set",dict:=none,data:=.set #[] 0 (.fresh 0 0 led)}}) ⟨_,rfl,rfl,rfl⟩) λr s₁ hr=>?_
 match r,hr with
 | .error e,hr=>exact hr
 | .ok (.ret obj),hr=>
   obtain⟨led,cB,rfl,rfl⟩:=hr;obtain⟨iO,dY⟩:∃ob:Obj,ob={cls:=.type "set",dict:=none,data:=.set #[] 0 (.fresh 0 0 led)}:=⟨_,rfl⟩;have hS:(s.heap.push iO).get? s.heap.objs.size=some iO:=a0 _ (by rw[dY];rfl);have hT:aC.TypeIs {s with heap:=s.heap.push iO} (.ref s.heap.objs.size) "set":=⟨_,hS,by rw[dY]⟩;have BF:SetD Pv w (s.heap.push iO) s.heap.objs.size []:=by rw[dY];exact SetD.fresh cB
   rw[<-dY];have hli:=bm.init.lookup;have hbi:=bm.init.bind (.ref s.heap.objs.size)
   repeat (any_goals (first|assumption|(wp_step)))
   refine js (dA (R:=wants (λr s₂=>r=.none/\∃h' tk aW,s₂={s with heap:=h',toks:=tk}/\SetD Pv w h' s.heap.objs.size aW/\(∀d,d∈aW↔d∈ds)/\aW.length<=ds.length/\Keep s.heap h'/\s.toks<=tk) E) bm.init.plain F.entry_set_init<|jK hT ?_) λr₂ s₂ dU=>?_
   .obtain⟨ol,jY,gZ,nl,uU⟩:=hl;obtain⟨Az,jO,tU,gJ⟩:=ol;simp only at gZ uU;subst gZ;subst uU;have oU:(s.heap.push iO).get? l=some {cls:=.type "list",dict:=jO,data:=.seq items nl,slots:=gJ}:=ai _ jY;have AZ:=PySem.F.sub_list_set;have A0:=PySem.F.sub_list_frozenset;have dG:(aA.type "list" == aA.type "dict")=false:=by decide
    have iL:(s.heap.push iO).IsList l items:=(my _ oU rfl nl rfl);unfold Builtin.«set.__init__» yP Builtin.Frozenset.updateFrom;generalize BH:gW=PI;subst dY
    wp_walk
    subst BH;refine jc iL ?_;refine ab<|fI ?_;have cZ:∀b,s.heap.objs.size<=b->s.heap.get? b=none:=λb bZ=>by
     cases hq:s.heap.get? b with
     | none=>rfl
     | some ob=>exact absurd (bc hq)<|Nat.not_lt.mpr bZ
    have uR:l<s.heap.objs.size:=bc jY;have Bt:A.in1.in1.in1.handled=none:=by simp[hh]
    have pP:(s.heap.push {cls:=.type "set",dict:=none,data:=.set #[] 0 (.fresh 0 0 led)}).objs.size=s.heap.objs.size+1:=jl _ _;have oV:l≠(s.heap.push {cls:=.type "set",dict:=none,data:=.set #[] 0 (.fresh 0 0 led)}).objs.size:=by rw[pP];exact ca<|Nat.lt_succ_of_lt uR
    have iM:s.heap.objs.size∉[(s.heap.push {cls:=.type "set",dict:=none,data:=.set #[] 0 (.fresh 0 0 led)}).objs.size,l]:=by rw[pP];simp only[ap,bz,or_false,not_or];exact⟨ca<|ir _,Nat.ne_of_gt uR⟩
    have iW:∀(i:Nat)(v:aA),items[i]?=some v->El Pv w s.heap (qD w<|ds.getD i .none,v) (ds.getD i .none):=λi v hv=>by
     have bL:=(ck.mp hv).1;have hd:ds[i]?=some (ds.getD i .none):=by rw[bo,aa<|by lia];rfl
     exact hE i v _ hv hd
    refine yy (A:=A.in1.in1) ((gQ.list Bt _ l oV items).toS) s.heap.objs.size iM s.heap (λb bZ=>cZ b<|by rw[ar.mp bZ,pP];exact Nat.le_succ _) (cZ _<|aq _) (λi s' bJ b bZ ob e=>?hwt)
     (λi=>ds.getD i .none) iW (by show A.units+1+1+9<aY;lia) (by lia) (items.size-0) 0 _ [] (by lia) (dv _)
     ⟨⟨_,a0 _ rfl,rfl,rfl⟩,(iL.push _)⟩ ?hK0 ?hS0 (λd=>by simp) (by simp) ?hR
    case hwt=>
     obtain⟨⟨oi,ho,hc,_⟩,_⟩:=bJ;rw[ar.mp bZ,ho]at e;cases e;rw[hc];decide
    case hK0=>exact λb o e=>ai _<|ai _ e
    case hS0=>exact BF.moved (λo e=>ai _ e) λb o e _=>ai _ e
    case hR=>
     intro s' aW hm k' S' m' l';obtain⟨h',g',d',qH,oH⟩:=s';have eg:g'=s.gens:=hm.gens;have ed:d'=s.drawn:=hm.drawn;have eo:oH=s.os:=hm.os;subst eg;subst ed;subst eo;show aH _ _ _ _ _ _;refine am ?_;show aH _ _ (ret aA.none) _ _ _;refine am ⟨rfl,(lq h' qH aW ⟨rfl,S',λd=>?_,by lia,k',hm.toks⟩)⟩;rw[m' d];constructor
     .rintro⟨j,hj,rfl⟩;rw[bo,aa<|by lia];exact dq _
     .intro hd;obtain⟨j,hj⟩:=dw hd;have wP:=(af.mp hj).1;exact⟨j,by lia,by rw[bo,hj];rfl⟩
   .match r₂,dU with
    | .error e,dU=>exact dU
    | .ok (.ret r),dU=>
      obtain⟨rfl,h',tk,aW,rfl,hG,gY,qR,dX,AV⟩:=dU
      repeat (any_goals (first|assumption|(wp_step)))
      exact h _ _ aW hG gY qR dX AV
    | .ok .next,dU=>exact dU.elim
    | .ok .brk,dU=>exact dU.elim
    | .ok .cont,dU=>exact dU.elim
 | .ok .next,hr=>exact hr.elim
 | .ok .brk,hr=>exact hr.elim
 | .ok .cont,hr=>exact hr.elim
end
end L3
namespace L3
open PySem PySem.Spec PyProof.Rows L2
variable{Pv:aA->Z9->Prop}
def DN(d:Z9):Prop:=kd d=true/\(∃ds,d=.tuple ds)/\d.depth<8
def arj:U V->Hp->VK->Prop:=λvs H Q=>∃(p:aF)(xs:U V)(ds:U Z9),vs=[.ref p]/\H p=some (.lst xs)/\RepAll H ds xs/\(∀d∈ds,DN d)/\ds.length<4000/\
 ∀aW:U Z9,aW.Nodup->(∀d,d∈aW↔d∈ds)->aW.length<=ds.length->Q (.int aW.length) H
theorem uq{h:Heap}:∀{us:U aA} {ds:U Z9} {as:U aF} {i:Nat} {u:aA} {d:Z9},ReadsAll h us ds as->us[i]?=some u->ds[i]?=some d->∃bs,Reads h u d bs
 | _,_,_,i,u,d,.nil,h1,_=>by simp at h1
 | _,_,_,0,u,d,.cons a b,h1,h2=>by cases h1;cases h2;exact⟨_,a⟩
 | _,_,_,i+1,u,d,.cons a b,h1,h2=>uq b (by simpa using h1)<|by simpa using h2
theorem Ec:∀{ds:U Z9},gi ds=true->∀d∈ds,d.canLay0=true
 | [],_,d,hd=>by cases hd
 | e::ds,hk,d,hd=>by
  have dX:(e.canLay0&&gi ds)=true:=hk;rw[cb]at dX;rcases ap.mp hd with h|hd
  .rw[h];exact dX.1
  .exact Ec dX.2 d hd
section
variable{X:Cx}{p p2 pos gI:dE}{e:Expr}{t:TA}
def ak9(hc:X.calm=true)(hu:X.A.units+64<aY)(hg:Gl X "len")(hm:X.mg "len" = none)(Bu:Gl X "set")(uN:X.mg "set" = none)(ha:PA X [e] t)(h1:oz e=true:=by rfl) :
  PE X (.Call (.Name "len" p) [.Call (.Name "set" p2) [e] [] gI] [] pos) (tCB arj t):=by
 intro aE s σ H Q I h;refine f9 (so I hg hm bb ?_ (by decide)<|by decide);refine je ?_ (m7 rfl) rfl;rw[m7 rfl];show aH _ _ (kI ((false,bR (.Call (.Name "set" p2) [e] [] gI) X.env)::bM pos (aM [] X.env))) _ _ s;refine jq ?_;refine f9 (so I Bu uN boot_set ?_ (by decide)<|by decide);refine en (thn (ha gI aE s σ H _ I h) λus s1 ⟨vs,H1,I1,r1,q1⟩=>?_) (m7 h1) rfl;obtain⟨pl,xs,ds,rfl,hp,dH,fZ,hb,q⟩:=q1;obtain⟨u,rfl,ru⟩:=qv r1;cases (show u=aA.ref pl from ru);obtain⟨its,rv,il,hz⟩:=I1.list<|SqL.of (K:=X.K) hp;obtain⟨as,sH⟩:=RepAll.reads I1 dH rv;have oZ:=dH.lay;have iL:xs.length=ds.length:=dH.length;have gL:xs.length=its.length:=rv.length;refine ado (Pv:=λ_ _=>True) (ds:=ds) (I1.ok.hd hc) il.isList (by rw[bf];lia) (λi v d hv hd=>?_) hb (by lia) λh' tk aW hS cO aR hk ht=>?_
 .rw[i8]at hv;obtain⟨bs,rd⟩:=uq sH hv hd;have gY:=ah hd;exact⟨True.intro,rfl,(fZ d gY).1,(fZ d gY).2.1,Ec oZ d gY,(fZ d gY).2.2,bs,rd⟩
 .obtain⟨o,es,ep,tb,ho,dM,dZ,ok,few,els,nd,_⟩:=hS;have hsz:es.size=aW.length:=by have:=els.1;rw[a8]at this;exact this
  refine Calls.spliced_nil ?_
  refine call_len_set ho dM dZ ok.fits (by rw[hsz];have:(aW.length:Int)<4000:=by lia
                                           exact Int.lt_of_lt_of_le this<|by decide) ?_
  refine(kl (.int aW.length) H1 ⟨?_,⟨_,by rw[<-hsz]⟩,q aW nd cO aR⟩);exact I1.kept hk
end
end L3
namespace L4
open PySem PySem.W PySem.Calls PyProof.Rows
noncomputable def pi{α:Type}(lt:Nat->Nat->Bool):Eh α->α
 | .ret a=>a
 | .ask i j k=>pi lt<|k<|lt i j
def PostT{α:Type}(n:Nat)(P:α->Prop):Eh α->Prop
 | .ret a=>P a
 | .ask i j k=>i<n/\j<n/\∀b,PostT n P<|k b
theorem PostT.bind{α β:Type}{n:Nat}{P:α->Prop}{P':β->Prop}{f:α->Eh β}:∀{t:Eh α},PostT n P t->(∀a,P a->PostT n P' (f a))->PostT n P' (t.bind f)
 | .ret a,h,hf=>hf a h
 | .ask i j k,h,hf=>⟨h.1,h.2.1,λb=>PostT.bind (h.2.2 b) hf⟩
theorem PostT.run{α:Type}{n:Nat}{P:α->Prop}(lt:Nat->Nat->Bool):∀{t:Eh α},PostT n P t->P (pi lt t)
 | .ret a,h=>h
 | .ask i j k,h=>PostT.run (n:=n) (P:=P) (t:=k<|lt i j) lt<|h.2.2<|lt i j
theorem PostT.wp{α:Type}{n:Nat}{P:α->Prop}{lt:Nat->Nat->Bool}{cmp:Nat->Nat->(Bool->aC->Prop)->aC->Prop}{s:aC}(hc:∀i j (C:Bool->aC->Prop),i<n->j<n->C (lt i j) s->cmp i j C s){Q:α->aC->Prop} :
  ∀{t:Eh α},PostT n P t->Q (pi lt t) s->t.kasWp cmp Q s
 | .ret a,_,q=>q
 | .ask i j k,h,q=>hc i j _ h.1 h.2.1<|PostT.wp hc (h.2.2 _) q
def OkP(n:Nat)(p:Array Nat):Prop:=p.Perm<|List.toArray<|cz n
def OkP.get{n:Nat}{p:Array Nat}(h:OkP n p)(hn:0<n)(i:Nat):p.getD i 0<n:=by
 by_cases hi:i<p.size
 .have e:p.getD i 0=p[i]:=by simp[Array.getD,hi]
  rw[e];have:=h.mem_iff.mp<|Array.getElem_mem hi;simpa using this
 .have e:p.getD i 0=0:=by simp[Array.getD,hi]
  rw[e];exact hn
def OkP.perm{n:Nat}{p q:Array Nat}(h:OkP n p)(e:q.Perm p):OkP n q:=e.trans h
def OkP.rev{n:Nat}{p:Array Nat}(h:OkP n p)(i j:Nat):OkP n (cP p i j):=h.perm<|mirror_perm _ _ _ _
def OkP.bub{n:Nat}{p:Array Nat}(h:OkP n p)(i j:Nat):OkP n (zN p i j):=h.perm<|bubble_perm _ _ _
section
variable{n:Nat}
theorem Jd(hn:0<n){p:Array Nat}(hp:OkP n p):∀(f m:Nat),PostT n (λ_=>True) (cQ p f m)
 | 0,m=>trivial
 | f+1,m=>⟨hp.get hn _,hp.get hn _,λb=>by
   cases b with
   | true=>exact trivial
   | false=>exact Jd hn hp f<|m+1⟩
theorem wt(hn:0<n):∀(f:Nat)(p:Array Nat)(m q:Nat),OkP n p->PostT n (λr:Array Nat×Nat×Nat=>OkP n r.1) (aT f p m q)
 | 0,p,m,q,hp=>hp
 | f+1,p,m,q,hp=>⟨hp.get hn _,hp.get hn _,λb=>by
   cases b with
   | true=>
    show PostT n _ (if q>0 then _ else _);split
    .exact wt hn f _ _ _<|hp.rev _ _
    .exact wt hn f _ _ _ hp
   | false=>
    refine⟨hp.get hn _,hp.get hn _,λb=>?_⟩;cases b with
    | true=>exact hp
    | false=>exact wt hn f _ _ _ hp⟩
def abg(hn:0<n){m r:Nat}{p:Array Nat}(hp:OkP n p):PostT n (λr:Nat×Array Nat=>OkP n r.2) (oN m r p):=
 PostT.bind (Jd hn (hp.rev _ _) _ _) λ_ _=>hp.rev _ _
def xx(hn:0<n){m r:Nat}{p:Array Nat}(hp:OkP n p):PostT n (λr:Nat×Array Nat=>OkP n r.2) (qO m r p):=
 PostT.bind (wt hn _ _ _ _ hp) λa ha=>by
  split
  .exact abg hn<|ha.rev _ _
  .exact abg hn ha
theorem ahg(hn:0<n){r:Nat}{p:Array Nat}(hp:OkP n p):PostT n (λr:Nat×Array Nat=>OkP n r.2) (oO r p):=
 PostT.bind (Jd hn hp _ _) λa _=>by
  split
  .exact hp
  .split
   .refine⟨hp.get hn _,hp.get hn _,λb=>?_⟩;cases b with
    | true=>exact hp
    | false=>exact xx hn<|hp.rev _ _
   .exact xx hn hp
theorem yi(hn:0<n){p:Array Nat}(hp:OkP n p)(k:Nat):∀(f l r:Nat),PostT n (λ_=>True) (cV p k f l r)
 | 0,l,r=>trivial
 | f+1,l,r=>by
  unfold cV;split
  .exact trivial
  .refine⟨hp.get hn _,hp.get hn _,λb=>?_⟩;cases b with
   | true=>exact yi hn hp k f _ _
   | false=>exact yi hn hp k f _ _
theorem aha(hn:0<n):∀(f:Nat)(p:Array Nat)(k:Nat),OkP n p->PostT n (OkP n) (qP f p k)
 | 0,p,k,hp=>hp
 | f+1,p,k,hp=>PostT.bind (yi hn hp k _ _ _) λl _=>aha hn f _ _<|hp.bub _ _
def Jj(hn:0<n):PostT n (OkP n) (eE n):=by
 have h0:OkP n (List.toArray<|cz n):=.refl _;refine PostT.bind (ahg hn h0) λa ha=>?_;split
 .exact aha hn _ _ _ ha
 .exact ha
end
noncomputable def srt(lt:Nat->Nat->Bool)(n:Nat):U Nat:=if n<2 then cz n else(pi lt<|eE n).toList
def tf(lt:Nat->Nat->Bool)(n:Nat):(srt lt n).length=n:=by
 unfold srt;split
 .simp
 .have h:=PostT.run lt (Jj (n:=n)<|by lia);simpa using h.size_eq
def aj9(vs:U aA):(vs.toArray.zip vs.toArray).map (·.2)=List.toArray ((cz vs.length).map λi=>vs.getD i aA.none):=by
 apply Array.ext
 .simp
 .intro i h1 h2;have hi:i<vs.length:=by simpa using h1
  simp[hi]
section
variable{prog:aJ}{w:aL}{A:Around}{E:aA->aC->Prop}{s:aC}
def adh{a:aF}{vs:U aA}{n:Nat}{κ:bD}{lt:Nat->Nat->Bool}{P:PySem.Fin->aC->Prop}(ho:s.heap.get? a=some (bH "list" vs.toArray n))(nA:vs.length<64)
  (hk:2<=vs.length->∀s':aC,(∀b o,b≠a->s.heap.get? b=some o->s'.heap.get? b=some o)->
   (∀(Q:bD->aC->Prop)(E:aA->aC->Prop),Q κ s'->aH (aI prog w) A (fL vs.toArray) Q E s')/\
   ∀i j,i<vs.length->j<vs.length->∀(Q:Bool->aC->Prop),Q (lt i j) s'->aH (aI prog w) A (lT κ (vs.getD i aA.none)<|vs.getD j aA.none) Q (λ_ _=>False) s')
  (h:P (.done<|.ret .none) {s with heap:=sortedHeap s.heap a vs<|List.toArray<|(srt lt vs.length).map λi=>vs.getD i aA.none}) :
  aH (aI prog w) A (Builtin.«list.sort» ⟨[.ref a],[]⟩) P E s:=by
 have ha:a<s.heap.objs.size:=bc ho;obtain⟨e1,yX⟩:∃e1,(s.heap.update a<|gq λ_=>(#[]:Array aA)).get? a=some (bH "list" #[] e1):=⟨_,get?_update_seq ho λ_=>#[]⟩;have Dg:(((s.heap.update a<|gq λ_=>(#[]:Array aA)).push (bH "tuple" vs.toArray 0)).push (bH "list" #[] 0)).get? a=some (bH "list" #[] e1):=
  ai _ (ai _ yX)
 have kept:∀b o,b≠a->s.heap.get? b=some o->(((s.heap.update a<|gq λ_=>(#[]:Array aA)).push (bH "tuple" vs.toArray 0)).push (bH "list" #[] 0)).get? b=some o:=λb o hb e=>
  ai _ (ai _<|(cm s.heap _<|Ne.symm hb).trans e)
 have iX:(srt lt vs.length).length=vs.length:=tf _ _;rw[list_sort_plain];refine ab<|listItems_at ho rfl ?_;refine ab<|nM ho rfl ?_ (by rw[bf,gf];lia)<|dv _;refine ab<|tQ yX rfl ?_;refine ab (wpAny_newTuple ?_<|by show vs.length<=_;rw[gf];lia);refine ab<|nF ?_<|dv _;refine db ?_;show aH (aI prog w) A _ P E {s with heap:=((s.heap.update a<|gq λ_=>(#[]:Array aA)).push (bH "tuple" vs.toArray 0)).push (bH "list" #[] 0)};dsimp only;by_cases h2:vs.toArray.size<2
 .have eK:vs.length<2:=by simpa using h2
  rw[if_pos h2,if_pos h2];refine ab<|am ?_;rw[StateT.run_pure];refine ab<|am ?_;dsimp only;have e0:(arrOf<|SortSt.mk' general' (vs.toArray.zip vs.toArray) #[] 7 none).map (·.2)=List.toArray ((srt lt vs.length).map λi=>vs.getD i aA.none):=by show(vs.toArray.zip vs.toArray).map (·.2)=_;unfold srt;rw[if_pos eK];exact aj9 vs
  rw[e0];refine ab<|tQ Dg rfl ?_;refine ab (nM Dg rfl ?_ (dv _)<|by rw[bf,ac,iX,gf];lia);simp only[bne_self_eq_false,a9,if_false];exact am h
 .have eK:2<=vs.length:=by have:¬vs.length<2:=by simpa using h2
                           lia
  rw[if_neg h2,if_neg h2];obtain⟨k1,k2⟩:=hk eK {s with heap:=((s.heap.update a<|gq λ_=>(#[]:Array aA)).push (bH "tuple" vs.toArray 0)).push (bH "list" #[] 0)} kept;refine ab<|k1 _ _ ?_;have Er:=(Jj (n:=vs.length)<|by lia).wp (lt:=lt) (cmp:=kas_ask prog w A κ vs) (s:={s with heap:=((s.heap.update a<|gq λ_=>(#[]:Array aA)).push (bH "tuple" vs.toArray 0)).push (bH "list" #[] 0)})
   (Q:=λp s'=>p=pi lt (eE vs.length)/\s'={s with heap:=((s.heap.update a<|gq λ_=>(#[]:Array aA)).push (bH "tuple" vs.toArray 0)).push (bH "list" #[] 0)})
   (λi j C hi hj hC=>k2 i j hi hj C hC) ⟨rfl,rfl⟩
  refine ab (jj (kat_run (E:=E) (Q:=λgH s'=>(arrOf gH).map (·.2)=List.toArray ((srt lt vs.length).map λi=>vs.getD i aA.none)/\failedOf gH=none/\s'={s with heap:=((s.heap.update a<|gq λ_=>(#[]:Array aA)).push (bH "tuple" vs.toArray 0)).push (bH "list" #[] 0)})
   rfl eK nA (λp gH s' _ b2 b3 b4=>?_) Er) ?_ λ_ _ e=>e)
  .refine⟨?_,b3,b4.2⟩;rw[kat_snds rfl b2,b4.1];unfold srt;rw[if_neg (by lia)]
  .rintro⟨⟨⟩,gH⟩ s' ⟨hout,hf,rfl⟩;dsimp only at hout hf⊢;rw[hout];refine ab<|tQ Dg rfl ?_;refine ab (nM Dg rfl ?_ (dv _)<|by rw[bf,ac,iX,gf];lia);rw[hf];simp only[bne_self_eq_false,a9,if_false];exact am h
end
structure Ord(lt:Nat->Nat->Bool):Prop where
 asy:∀a b,lt a b=true->lt b a=false
 tr:∀a b c,lt b a=false->lt c b=false->lt c a=false
theorem ub{α β:Type}(lt:Nat->Nat->Bool)(f:α->Eh β):∀t:Eh α,pi lt (t.bind f)=pi lt (f<|pi lt t)
 | .ret a=>rfl
 | .ask i j k=>ub lt f<|k<|lt i j
section
variable{lt:Nat->Nat->Bool}
def Up(lt:Nat->Nat->Bool)(p:Array Nat)(hi:Nat):Prop:=∀i j,i<=j->j<hi->lt (p.getD j 0) (p.getD i 0)=false
def Dn(lt:Nat->Nat->Bool)(p:Array Nat)(hi:Nat):Prop:=∀i j,i<=j->j<hi->lt (p.getD i 0) (p.getD j 0)=false
theorem Ord.irr(o:Ord lt)(a:Nat):lt a a=false:=by
 cases h:lt a a with
 | false=>rfl
 | true=>rw[<-h];exact o.asy a a h
def Up.one(o:Ord lt)(p:Array Nat):Up lt p 1:=λi j h1 h2=>by
 have e1:i=0:=by lia
 have e2:j=0:=by lia
 rw[e1,e2];exact o.irr _
def Dn.one(o:Ord lt)(p:Array Nat):Dn lt p 1:=λi j h1 h2=>by
 have e1:i=0:=by lia
 have e2:j=0:=by lia
 rw[e1,e2];exact o.irr _
def Up.more(o:Ord lt){p:Array Nat}{n:Nat}(h:Up lt p n)(hn:0<n)(h1:lt (p.getD n 0) (p.getD (n-1) 0)=false):Up lt p (n+1):=λi j h2 h3=>by
 by_cases e:j=n
 .subst e;by_cases e2:i=j
  .rw[e2];exact o.irr _
  .exact o.tr _ _ _ (h i (j-1) (by lia)<|by lia) h1
 .exact h i j h2<|by lia
def Dn.more(o:Ord lt){p:Array Nat}{n:Nat}(h:Dn lt p n)(hn:0<n)(h1:lt (p.getD (n-1) 0) (p.getD n 0)=false):Dn lt p (n+1):=λi j h2 h3=>by
 by_cases e:j=n
 .subst e;by_cases e2:i=j
  .rw[e2];exact o.irr _
  .exact o.tr _ _ _ h1<|h i (j-1) (by lia)<|by lia
 .exact h i j h2<|by lia
theorem IF(o:Ord lt){p:Array Nat}:∀(f n:Nat),0<n->Up lt p n->n<=pi lt (cQ p f n)/\pi lt (cQ p f n)<=n+f/\Up lt p (pi lt<|cQ p f n)/\(pi lt (cQ p f n)<n+f->lt (p.getD (pi lt<|cQ p f n) 0) (p.getD (pi lt (cQ p f n)-1) 0)=true)
 | 0,n,hn,h=>⟨aq _,aq _,h,λz=>absurd z<|gx _⟩
 | f+1,n,hn,h=>by
  show n<=pi lt (if lt (p.getD n 0) (p.getD (n-1) 0)=true then _ else _)/\pi lt (if lt (p.getD n 0) (p.getD (n-1) 0)=true then _ else _)<=n+(f+1)/\Up lt p (pi lt (if lt (p.getD n 0) (p.getD (n-1) 0)=true then _ else _))/\_;cases c:lt (p.getD n 0) (p.getD (n-1) 0)with
  | true=>
   rw[show cQ p (f+1) n=.ask (p.getD n 0) (p.getD (n-1) 0) λc=>if c=true then .ret n else cQ p f (n+1)from rfl];simp only[pi,c,if_true];exact⟨aq _,by lia,h,λ_=>trivial⟩
  | false=>
   rw[show cQ p (f+1) n=.ask (p.getD n 0) (p.getD (n-1) 0) λc=>if c=true then .ret n else cQ p f (n+1)from rfl];simp only[pi,c,a9,if_false];have ih:=IF o (p:=p) f (n+1) (by lia)<|h.more o hn c;exact⟨by lia,by lia,ih.2.2.1,λz=>ih.2.2.2<|by lia⟩
def Cm{p q:Array Nat}{i j:Nat}(h:p[i]?=q[j]?):p.getD i 0=q.getD j 0:=by rw[Array.getD_eq_getD_getElem?,Array.getD_eq_getD_getElem?,h]
def v9{p:Array Nat}{i j:Nat}(hj:j<=p.size)(k:Nat):(cP p i j).getD k 0=if i<=k/\k<j then p.getD (i+j-1-k) 0 else p.getD k 0:=by
 have e:=getElem?_mirror_all (xs:=p) (i:=i) hj k;split
 .rename_i h
  rw[if_pos h]at e;exact Cm e
 .rename_i h
  rw[if_neg h]at e;exact Cm e
def zk(p:Array Nat)(i j:Nat):(cP p i j).size=p.size:=mirror_size _ _ _ _
def Dn.rev{p:Array Nat}{n:Nat}(hn:n<=p.size)(h:Dn lt p n):Up lt (cP p 0 n) n:=λi j h1 h2=>by rw[v9 hn,v9 hn,if_pos ⟨dv _,h2⟩,if_pos ⟨dv _,by lia⟩];exact h _ _ (by lia)<|by lia
def Up.rev{p:Array Nat}{n:Nat}(hn:n<=p.size)(h:Up lt p n):Dn lt (cP p 0 n) n:=λi j h1 h2=>by rw[v9 hn,v9 hn,if_pos (show 0<=i/\i<n by lia),if_pos (show 0<=j/\j<n by lia)];exact h _ _ (by lia)<|by lia
def Eqs(lt:Nat->Nat->Bool)(p:Array Nat)(lo hi:Nat):Prop:=∀i j,lo<=i->i<hi->lo<=j->j<hi->lt (p.getD i 0) (p.getD j 0)=false
def Dn.revEq(o:Ord lt){p:Array Nat}{lo n:Nat}(hn:n<=p.size)(hl:lo<n)(h:Dn lt p n)(e:Eqs lt p lo n):Dn lt (cP p lo n) n:=λi j h1 h2=>by
 rw[v9 hn,v9 hn];split<;>split
 .exact e _ _ (by lia) (by lia) (by lia)<|by lia
 .lia
 .exact h _ _ (by lia)<|by lia
 .exact h _ _ h1 h2
theorem zh(o:Ord lt){N:Nat}:∀(f:Nat)(p:Array Nat)(n q:Nat),p.size=N->n+f<=N->q<n->Dn lt p n->Eqs lt p (n-(q+1)) n->
  (pi lt<|aT f p n q).1.size=N/\n<=(pi lt<|aT f p n q).2.1/\(pi lt<|aT f p n q).2.1<=n+f/\(pi lt<|aT f p n q).2.2<(pi lt<|aT f p n q).2.1/\
   Dn lt (pi lt<|aT f p n q).1 (pi lt<|aT f p n q).2.1/\Eqs lt (pi lt<|aT f p n q).1 ((pi lt<|aT f p n q).2.1-((pi lt<|aT f p n q).2.2+1)) (pi lt<|aT f p n q).2.1
 | 0,p,n,q,hp,hf,hq,h,e=>⟨hp,aq _,aq _,hq,h,e⟩
 | f+1,p,n,q,hp,hf,hq,h,e=>by
  have one:∀(p':Array Nat)(m:Nat),Eqs lt p' (m-(0+1)) m:=λp' m i j h1 h2 h3 h4=>by
   have:i=j:=by lia
   rw[this];exact o.irr _
  have un:aT (f+1) p n q=.ask (p.getD n 0) (p.getD (n-1) 0) λc=>if c=true then(if q>0 then aT f (cP p (n-(q+1)) n) (n+1) 0 else aT f p (n+1) 0)
    else .ask (p.getD (n-1) 0) (p.getD n 0) λd=>if d=true then .ret (p,n,q)else aT f p (n+1) (q+1):=rfl
  cases c:lt (p.getD n 0) (p.getD (n-1) 0)with
  | true=>
   have c':=o.asy _ _ c;by_cases hq0:q>0
   .have er:pi lt (aT (f+1) p n q)=pi lt (aT f (cP p (n-(q+1)) n) (n+1) 0):=by
     rw[un];simp only[pi,c,if_true,if_pos hq0]
    rw[er];have h':Dn lt (cP p (n-(q+1)) n) (n+1):=(h.revEq o (by lia) (by lia) e).more o (by lia) (by
     rw[v9 (by lia),v9<|by lia,if_pos<|by lia,if_neg<|by lia];exact o.tr _ _ _ c'<|e _ _ (by lia) (by lia) (by lia)<|by lia)
    have ih:=zh o (N:=N) f (cP p (n-(q+1)) n) (n+1) 0 (by rw[zk];exact hp) (by lia) (by lia) h'<|one _ _;exact⟨ih.1,by lia,by lia,ih.2.2.2.1,ih.2.2.2.2.1,ih.2.2.2.2.2⟩
   .have er:pi lt (aT (f+1) p n q)=pi lt (aT f p (n+1) 0):=by
     rw[un];simp only[pi,c,if_true,if_neg hq0]
    rw[er];have ih:=zh o (N:=N) f p (n+1) 0 hp (by lia) (by lia) (h.more o (by lia) c')<|one _ _;exact⟨ih.1,by lia,by lia,ih.2.2.2.1,ih.2.2.2.2.1,ih.2.2.2.2.2⟩
  | false=>
   cases d:lt (p.getD (n-1) 0) (p.getD n 0)with
   | true=>
    have er:pi lt (aT (f+1) p n q)=(p,n,q):=by rw[un];simp only[pi,c,d,if_true,a9,if_false]
    rw[er];exact⟨hp,aq _,by show n<=n+(f+1);lia,hq,h,e⟩
   | false=>
    have er:pi lt (aT (f+1) p n q)=pi lt (aT f p (n+1)<|q+1):=by rw[un];simp only[pi,c,d,a9,if_false]
    rw[er];have e':Eqs lt p (n+1-(q+1+1)) (n+1):=λi j h1 h2 h3 h4=>by
     by_cases ei:i=n
     .by_cases ej:j=n
      .rw[ei,ej];exact o.irr _
      .rw[ei];exact o.tr _ _ _ (e _ _ (by lia) (by lia) (by lia)<|by lia) c
     .by_cases ej:j=n
      .rw[ej];exact o.tr _ _ _ d<|e _ _ (by lia) (by lia) (by lia)<|by lia
      .exact e _ _ (by lia) (by lia) (by lia)<|by lia
    have ih:=zh o (N:=N) f p (n+1) (q+1) hp (by lia) (by lia) (h.more o (by lia) d) e';exact⟨ih.1,by lia,by lia,ih.2.2.2.1,ih.2.2.2.2.1,ih.2.2.2.2.2⟩
def Run(lt:Nat->Nat->Bool)(N:Nat)(r:Nat×Array Nat):Prop:=r.2.size=N/\0<r.1/\r.1<=N/\Up lt r.2 r.1
def adr(o:Ord lt){N n:Nat}{p:Array Nat}(hp:p.size=N)(hn:0<n)(hN:n<=N)(h:Dn lt p n):Run lt N (pi lt<|oN n N p):=by
 have e:pi lt (oN n N p)=(pi lt<|cQ (cP p 0 n) (N-n) n,cP p 0 n):=by unfold oN;rw[ub];rfl
 rw[e];have a:=IF o (p:=cP p 0 n) (N-n) n hn (h.rev<|by lia);exact⟨by rw[zk];exact hp,by have:=a.1;show 0<_;lia,by have:=a.2.1;show _<=N;lia,a.2.2.1⟩
def za(o:Ord lt){N n:Nat}{p:Array Nat}(hp:p.size=N)(hN:n+1<=N)(h:Dn lt p (n+1)):Run lt N (pi lt<|qO n N p):=by
 unfold qO;rw[ub];have d:=zh o (N:=N) (N-(n+1)) p (n+1) 0 hp (by lia) (by lia) h (λi j h1 h2 h3 h4=>by
  have:i=j:=by lia
  rw[this];exact o.irr _)
 generalize pi lt (aT (N-(n+1)) p (n+1) 0)=r at *;obtain⟨d1,d2,d3,d4,d5,d6⟩:=d;split
 .exact adr o (by rw[zk];exact d1) (by lia) (by lia)<|d5.revEq o (by lia) (by lia) d6
 .exact adr o d1 (by lia) (by lia) d5
def aj6(o:Ord lt){N:Nat}{p:Array Nat}(hp:p.size=N)(hN:0<N):Run lt N (pi lt<|oO N p):=by
 unfold oO;rw[ub];have a:=IF o (p:=p) (N-1) 1 (by lia)<|Up.one o p;generalize pi lt (cQ p (N-1) 1)=n at *;obtain⟨a1,a2,a3,a4⟩:=a;split
 .exact⟨hp,a1,by show n<=N;lia,a3⟩
 .rename_i dG
  have hne':n≠N:=by simpa using dG
  have bL:=a4 (by lia);split
  .rename_i h1
   show Run lt N (pi lt (if lt (p.getD 0 0) (p.getD (n-1) 0)=true then _ else _));split
   .exact⟨hp,a1,by show n<=N;lia,a3⟩
   .rename_i hc
    refine za o (by rw[zk];exact hp) (by lia)<|(a3.rev<|by lia).more o (by lia) ?_;rw[v9 (by lia),v9<|by lia,if_pos<|by lia,if_neg<|by lia];have e0:0+n-1-(n-1)=0:=by lia
    rw[e0];exact o.tr _ _ _ (o.asy _ _ bL)<|by simpa using hc
  .have e1:n=1:=by lia
   subst e1;exact za o hp (by lia)<|(Dn.one o p).more o (by lia) (o.asy _ _ bL)
theorem Jg(o:Ord lt){p:Array Nat}{k:Nat}(h:Up lt p k):∀(f l r:Nat),l<=r->r<=k->r-l<=f->(∀i,i<l->lt (p.getD k 0) (p.getD i 0)=false)->(∀i,r<=i->i<k->lt (p.getD k 0) (p.getD i 0)=true)->
  pi lt (cV p k f l r)<=k/\(∀i,i<pi lt (cV p k f l r)->lt (p.getD k 0) (p.getD i 0)=false)/\(∀i,pi lt (cV p k f l r)<=i->i<k->lt (p.getD k 0) (p.getD i 0)=true)
 | 0,l,r,h1,h2,h3,h4,h5=>⟨by show l<=k;lia,h4,λi z=>h5 i<|by have:l<=i:=z;lia⟩
 | f+1,l,r,h1,h2,h3,h4,h5=>by
  unfold cV;split
  .exact⟨by show l<=k;lia,h4,λi z=>h5 i<|by have:l<=i:=z;lia⟩
  .rename_i hlr
   have FQ:l<=(l+r)/2:=by lia
   have uN:(l+r)/2<r:=by lia
   generalize (l+r)/2=m at *;cases c:lt (p.getD k 0) (p.getD m 0)with
   | true=>
    simp only[pi,c,if_true];refine Jg o h f l m FQ (by lia) (by lia) h4 λi z1 z2=>?_;cases d:lt (p.getD k 0) (p.getD i 0)with
    | true=>rfl
    | false=>
     have:=o.tr _ _ _ (h m i z1 z2) d;rw[c]at this;cases this
   | false=>
    simp only[pi,c,a9,if_false];exact Jg o h f (m+1) r (by lia) h2 (by lia) (λi z=>o.tr _ _ _ (h i m (by lia)<|by lia) c) h5
def an0{p:Array Nat}{k l:Nat}(hk:k<p.size)(hl:l<=k)(i:Nat):(zN p k<|k-l).getD i 0=if i=l then p.getD k 0 else if l<i/\i<=k then p.getD (i-1) 0 else p.getD i 0:=by
 have e:=getElem?_bubble hk (k-l) (by lia) i;have e2:k-(k-l)=l:=by lia
 rw[e2]at e;by_cases h:i=l
 .rw[if_pos h]at e⊢;exact Cm e
 .rw[if_neg h]at e⊢;by_cases h2:l<i/\i<=k
  .rw[if_pos h2]at e⊢;exact Cm e
  .rw[if_neg h2]at e⊢;exact Cm e
theorem ak4(o:Ord lt){N:Nat}:∀(f:Nat)(p:Array Nat)(k:Nat),p.size=N->k+f<=N->Up lt p k->(pi lt<|qP f p k).size=N/\Up lt (pi lt<|qP f p k) (k+f)
 | 0,p,k,hp,hf,h=>⟨hp,h⟩
 | f+1,p,k,hp,hf,h=>by
  have e:pi lt (qP (f+1) p k)=pi lt (qP f (zN p k<|k-pi lt (cV p k k 0 k))<|k+1):=by show pi lt ((cV p k k 0 k).bind _)=_;rw[ub]
  rw[e];obtain⟨l1,l2,l3⟩:=Jg o h k 0 k (by lia) (aq _) (by lia) (λi z=>by lia) (λi z1 z2=>by lia);generalize pi lt (cV p k k 0 k)=l at *;have up:Up lt (zN p k<|k-l) (k+1):=λi j h1 h2=>by
   rw[an0 (by lia) l1,an0 (by lia) l1];by_cases ei:i=l
   .by_cases ej:j=l
    .rw[if_pos ej,if_pos ei];exact o.irr _
    .rw[if_neg ej,if_pos ei,if_pos<|by lia];exact o.asy _ _<|l3 _ (by lia)<|by lia
   .by_cases ej:j=l
    .rw[if_pos ej,if_neg ei,if_neg<|by lia];exact l2 _<|by lia
    .rw[if_neg ej,if_neg ei];split<;>split
     .exact h _ _ (by lia)<|by lia
     .exact h _ _ (by lia)<|by lia
     .lia
     .exact h _ _ (by lia)<|by lia
  have ih:=ak4 o (N:=N) f (zN p k<|k-l) (k+1) (by rw[bubble_size];exact hp) (by lia) up;have e3:k+(f+1)=k+1+f:=by lia
  rw[e3];exact ih
def ant(o:Ord lt){N:Nat}(hN:0<N):(pi lt<|eE N).size=N/\Up lt (pi lt<|eE N) N:=by
 unfold eE;rw[ub];have c:=aj6 o (N:=N) (p:=List.toArray<|cz N) (by simp) hN;generalize pi lt (oO N<|List.toArray<|cz N)=r at *;obtain⟨c1,c2,c3,c4⟩:=c;split
 .have e:yQ r.1 1=r.1:=by lia
  rw[e];have b:=ak4 o (N:=N) (N-r.1) r.2 r.1 c1 (by lia) c4;have e2:r.1+(N-r.1)=N:=by lia
  rw[e2]at b;exact b
 .have e:r.1=N:=by lia
  rw[e]at c4;exact⟨c1,c4⟩
end
def zl(lt:Nat->Nat->Bool)(n:Nat):(srt lt n).Perm (cz n):=by
 unfold srt;split
 .exact .refl _
 .have h:=PostT.run lt (Jj (n:=n)<|by lia);simpa using h.toList
def Iu{lt:Nat->Nat->Bool}(o:Ord lt)(n:Nat){i j:Nat}(h1:i<=j)(h2:j<n):lt ((srt lt n).getD j 0) ((srt lt n).getD i 0)=false:=by
 unfold srt;split
 .have e1:i=0:=by lia
  have e2:j=0:=by lia
  rw[e1,e2];exact o.irr _
 .have h:=(ant o (N:=n)<|by lia).2 i j h1 h2;have e:∀k,(pi lt<|eE n).toList.getD k 0=(pi lt<|eE n).getD k 0:=λk=>by
   rw[Array.getD_eq_getD_getElem?,bo];simp
  rw[e,e];exact h
end L4
namespace L3
open PySem PySem.Spec PyProof.Rows L2 L4
noncomputable def ltG(g:aA->Int)(vs:U aA)(i j:Nat):Bool:=decide<|g (vs.getD i aA.none)<g (vs.getD j aA.none)
def ap9(g:aA->Int)(vs:U aA):L4.Ord (ltG g vs):=
 ⟨λa b h=>decide_eq_false<|by have:=of_decide_eq_true h;lia,λa b c h1 h2=>decide_eq_false<|by have:=of_decide_eq_false h1;have:=of_decide_eq_false h2;lia⟩
def ahz(vs:U aA):((cz vs.length).map λi=>vs.getD i aA.none)=vs:=by
 apply List.ext_getElem
 .simp
 .intro i h1 h2;simp[List.getD,h2]
def ajp(g:aA->Int)(vs:U aA):((L4.srt (ltG g vs) vs.length).map λi=>vs.getD i aA.none).Perm vs:=by have h:=(L4.zl (ltG g vs) vs.length).map λi=>vs.getD i aA.none;rw[ahz]at h;exact h
def ao7(g:aA->Int)(vs:U aA):((L4.srt (ltG g vs) vs.length).map λi=>vs.getD i aA.none).Pairwise (λx y=>g x<=g y):=by have hl:(L4.srt (ltG g vs) vs.length).length=vs.length:=L4.tf _ _;rw[dt,cp];intro i j hi hj eC;have h:=L4.Iu (ap9 g vs) vs.length (cq eC) (by lia);rw[bo,bo,aa hi,aa hj]at h;have:=of_decide_eq_false h;simp only[Option.getD_some]at this;lia
def alm{vs:U aA}{i:Nat}(h:i<vs.length):vs.getD i aA.none∈vs:=by rw[bo,aa h];exact dq h
section
variable{prog:aJ}{w:aL}{A:Around}{E:aA->aC->Prop}{s:aC}
def acd{a:aF}{vs:U aA}{n:Nat}{κ:bD}{g:aA->Int}{P:PySem.Fin->aC->Prop}(ho:s.heap.get? a=some (bH "list" vs.toArray n))(hz:vs.length<64)
  (hk:2<=vs.length->∀s':aC,(∀b o,b≠a->s.heap.get? b=some o->s'.heap.get? b=some o)->
   (∀(Q:bD->aC->Prop)(E:aA->aC->Prop),Q κ s'->aH (aI prog w) A (fL vs.toArray) Q E s')/\
   ∀x y,x∈vs->y∈vs->∀(Q:Bool->aC->Prop),Q (decide<|g x<g y) s'->aH (aI prog w) A (lT κ x y) Q (λ_ _=>False) s')
  (h:∀us:U aA,us.Perm vs->us.Pairwise (λx y=>g x<=g y)->P (.done<|.ret .none) {s with heap:=sortedHeap s.heap a vs us.toArray}) :
  aH (aI prog w) A (Builtin.«list.sort» ⟨[.ref a],[]⟩) P E s:=
 adh (lt:=ltG g vs) ho hz (λh2 s' k=>⟨(hk h2 s' k).1,λi j hi hj Q q=>(hk h2 s' k).2 _ _ (alm hi) (alm hj) Q q⟩) (h _ (ajp g vs)<|ao7 g vs)
end
end L3
namespace L3
open PySem PySem.Spec PyProof.Rows L2
theorem ajt{α β:Type}(g:α->β){us vs:List β}(p:us.Perm vs):∀{l:List α},l.map g=vs->∃l':List α,l'.Perm l/\l'.map g=us:=by
 induction p with
 | nil=>intro l e;exact⟨l,gw _,e⟩
 | cons x p ih=>
  intro l e
  match l,e with
  | a::l,e=>
   rw[dh]at e;obtain⟨e1,e2⟩:=List.cons.inj e;obtain⟨l',p1,e3⟩:=ih e2;exact⟨a::l',p1.cons a,by rw[dh,e1,e3]⟩
 | swap x y r=>
  intro l e
  match l,e with
  | a::b::l,e=>
   rw[dh,dh]at e;obtain⟨e1,e'⟩:=List.cons.inj e;obtain⟨e2,e3⟩:=List.cons.inj e';exact⟨b::a::l,List.Perm.swap _ _ _,by rw[dh,dh,e1,e2,e3]⟩
 | trans p q ih1 ih2=>
  intro l e;obtain⟨l1,p1,e1⟩:=ih2 e;obtain⟨l2,p2,e2⟩:=ih1 e1;exact⟨l2,p2.trans p1,e2⟩
theorem aav{α:Type}{p q:α->Bool}:∀{l:List α},(∀e∈l,p e=true->q e=true)->(∃e∈l,q e=true/\p e=false)->l.countP p<l.countP q
 | [],_,⟨e,he,_⟩=>by simp at he
 | a::l,h,⟨e,he,h1,h2⟩=>by
  have hl:∀e∈l,p e=true->q e=true:=λe he=>h e<|ao _ he;have mono:l.countP p<=l.countP q:=List.countP_mono_left hl;rcases ap.mp he with rfl|he
  .rw[List.countP_cons_of_neg (by simp[h2]),List.countP_cons_of_pos h1];lia
  .have ih:=aav hl ⟨e,he,h1,h2⟩;cases hp:p a with
   | true=>rw[List.countP_cons_of_pos hp,List.countP_cons_of_pos<|h a ak hp];lia
   | false=>
    rw[List.countP_cons_of_neg (by simp[hp])];have:=List.countP_le_length (p:=q) (l:=l);cases hq:q a with
    | true=>rw[List.countP_cons_of_pos hq];lia
    | false=>rw[List.countP_cons_of_neg (by simp[hq])];exact ih
structure xK(lt:Z9->Z9->Bool)(ds:U Z9):Prop where
 asy:∀x∈ds,∀y∈ds,lt x y=true->lt y x=false
 tr:∀x∈ds,∀y∈ds,∀z∈ds,lt y x=false->lt z y=false->lt z x=false
noncomputable def zX(lt:Z9->Z9->Bool)(ds:U Z9)(d:Z9):Int:=((ds.countP λe=>lt e d:Nat):Int)
theorem aj1{lt:Z9->Z9->Bool}{ds:U Z9}(o:xK lt ds){d e:Z9}(hd:d∈ds)(he:e∈ds):decide (zX lt ds d<zX lt ds e)=lt d e:=by
 have irr:∀x∈ds,lt x x=false:=λx hx=>by
  cases q:lt x x with
  | false=>rfl
  | true=>have:=o.asy x hx x hx q;rw[q]at this;exact this
 unfold zX;cases h:lt d e with
 | true=>
  refine decide_eq_true ?_;have:=aav (p:=λz=>lt z d) (q:=λz=>lt z e) (l:=ds) (λz hz h1=>?_) ⟨d,hd,h,irr d hd⟩
  .lia
  .show lt z e=true;cases q:lt z e with
   | true=>rfl
   | false=>rw[o.tr d hd e he z hz (o.asy d hd e he h) q]at h1;exact h1
 | false=>
  refine decide_eq_false ?_;have:=List.countP_mono_left (p:=λz=>lt z e) (q:=λz=>lt z d) (l:=ds) λz hz h1=>?_
  .lia
  .show lt z d=true;cases q:lt z d with
   | true=>rfl
   | false=>rw[o.tr e he d hd z hz h q]at h1;exact h1
open Classical in
def aih{h:Heap}{lt:Z9->Z9->Bool}{os:U aA}{bK:U Z9}(hl:os.length=bK.length)(rd:∀(i:Nat)(v:aA)(d:Z9),os[i]?=some v->bK[i]?=some d->d.canLay0=true/\∃as,Reads h v d as)(o:xK lt bK) :
  ∃g:aA->Int,(∀(i j:Nat)(u v:aA)(d e:Z9),os[i]?=some u->bK[i]?=some d->os[j]?=some v->bK[j]?=some e->decide (g u<g v)=lt d e)/\
   ∀us:U aA,us.Perm os->us.Pairwise (λx y=>g x<=g y)->∃T:U (Z9×aA),T.map (·.2)=us/\(T.map (·.1)).Perm bK/\(T.map (·.1)).Pairwise (λx y=>lt y x=false)/\∀t∈T,∃i:Nat,bK[i]?=some t.1/\os[i]?=some t.2:=by
 obtain⟨g,hg⟩:∃g:aA->Int,∀(i:Nat)(d:Z9)(u:aA),bK[i]?=some d->os[i]?=some u->g u=zX lt bK d:=by refine⟨λu=>if h:∃d,∃as,Reads h u d as/\d∈bK then zX lt bK h.choose else 0,λi d u h1 h2=>?_⟩;obtain⟨lay,as,r⟩:=rd i u d h2 h1;have hx:∃d,∃as,Reads h u d as/\d∈bK:=(kl d as ⟨r,ah h1⟩);show(if h:∃d,∃as,Reads h u d as/\d∈bK then zX lt bK h.choose else 0)=_;rw[dif_pos hx];obtain⟨bs,rb,_⟩:=hx.choose_spec;rw[SeqAt.Reads.unique d hx.choose u as bs lay r rb]
 refine⟨g,λi j u v d e u1 d1 v1 e1=>?_,λus p up=>?_⟩
 .rw[hg i d u d1 u1,hg j e v e1 v1];exact aj1 o (ah d1)<|ah e1
 .have vS:(bK.zip os).map (λt=>t.2)=os:=List.map_snd_zip (by lia);have first:(bK.zip os).map (λt=>t.1)=bK:=List.map_fst_zip<|by lia
  obtain⟨T,tp,te⟩:=ajt (λt:Z9×aA=>t.2) p vS;have tm:∀t∈T,∃i:Nat,bK[i]?=some t.1/\os[i]?=some t.2:=λt ht=>by obtain⟨i,hi⟩:=cj.mp<|tp.mem_iff.mp ht;obtain⟨a1,a2⟩:=List.getElem?_zip_eq_some.mp hi;exact⟨i,a1,a2⟩
  refine⟨T,te,?_,?_,tm⟩
  .have:=tp.map λt=>t.1;rw[first]at this;exact this
  .rw[dt];rw[<-te,dt]at up;refine gj (λ{a b} ha hb iZ=>?_) up;obtain⟨i,a1,a3⟩:=tm a ha;obtain⟨j,b1,b3⟩:=tm b hb;rw[hg i _ _ a1 a3,hg j _ _ b1 b3]at iZ;rw[<-aj1 o (ah b1) (ah a1)];exact decide_eq_false<|by lia
section
variable{prog:aJ}{w:aL}{A:Around}{E:aA->aC->Prop}{s:aC}
def aho{v:aA}{κ:bD}{Q:aA->aC->Prop}{P:U aA->U Z9->Prop}(hP:∀os bK,P os bK->os.length<64)
  (kY:∀(Q:U aA->aC->Prop)(E:aA->aC->Prop),(∀os bK h1 tk dr,P os bK->(∀b o,s.heap.get? b=some o->h1.get? b=some o)->Q os {s with heap:=h1,toks:=tk,drawn:=dr})->aH (aI prog w) A.in1 (iP v) Q E s)
  (h:∀os bK,P os bK->∃g:aA->Int,(2<=os.length->∀s':aC,(∀b o,s.heap.get? b=some o->s'.heap.get? b=some o)->
   (∀(Q:bD->aC->Prop)(E:aA->aC->Prop),Q κ s'->aH (aI prog w) A.in1.in1 (fL os.toArray) Q E s')/\
   ∀x y,x∈os->y∈os->∀(Q:Bool->aC->Prop),Q (decide<|g x<g y) s'->aH (aI prog w) A.in1.in1 (lT κ x y) Q (λ_ _=>False) s')/\
   ∀(us:U aA)(h1 h2:Heap)(tk:Nat) dr e,us.Perm os->us.Pairwise (λx y=>g x<=g y)->(∀b o,s.heap.get? b=some o->h1.get? b=some o)->(∀b o,h1.get? b=some o->h2.get? b=some o)->h2.get? h1.objs.size=some (bH "list" us.toArray e)->Q (.ref h1.objs.size) {s with heap:=h2,toks:=tk,drawn:=dr}) :
  aH (aI prog w) A (call (.builtin "sorted") [v]) Q E s:=by
 refine Calls.call_function_entry kind_sorted plain_sorted entry_sorted (args_sorted1 _) ?_;unfold Builtin.«sorted»;refine ab (m:=checkCount "sorted" 1 1 _)<|am<|ab<|kY _ _ λos bK h1 tk dr hp k1=>?_;obtain⟨g,hk,h⟩:=h os bK hp;have jY:=hP os bK hp;refine ab (nF ?_<|by rw[gf];lia);have Bc:(h1.push<|bH "list" os.toArray 0).get? h1.objs.size=some (bH "list" os.toArray 0):=a0 _ rfl;have keep:∀b o,h1.get? b=some o->(h1.push<|bH "list" os.toArray 0).get? b=some o:=λb o q=>ai _ q;refine(?_:aH _ _ _ _ _ {s with heap:=h1.push<|bH "list" os.toArray 0,toks:=tk,drawn:=dr});refine ab<|db<|gd slot_list_sort ⟨_,Bc,rfl⟩ entry_list_sort ?body<|args_list_sort _
 case body=>
  refine acd (κ:=κ) (g:=g) Bc jY (λh2 s' k=>hk h2 s' λb o e=>k b o (ca<|bc<|k1 b o e)<|keep b o<|k1 b o e) λus u1 u2=>?_;obtain⟨e,he⟩:=sortedHeap_at (out:=us.toArray) Bc;refine⟨_,rfl,am ⟨_,rfl,h us h1 _ tk dr e u1 u2 k1 (λb ob q=>?_) he⟩⟩;exact(sortedHeap_old (ca<|bc q)<|by rw[size_push'];exact Nat.lt_succ_of_lt<|bc q).trans (keep b ob q)
end
section
variable{X:Cx}{aE:U (aF×Obj)}{σ:L2.St}{H:Hp}{s:aC}{A:Around}{E:aA->aC->Prop}
theorem aef(I:L2.Inv X aE σ H s){v:aA}{ds:U Z9}{κ:bD}{lt:Z9->Z9->Bool}{Q:VK}{P:U aA->U Z9->Prop}
  (hP:∀os bK,P os bK->os.length<64/\os.length=bK.length/\bK.Perm ds/\∀(i:Nat) u d,os[i]?=some u->bK[i]?=some d->∃x,RelV x u/\Rep H d x)
  (kY:∀(Q:U aA->aC->Prop)(E:aA->aC->Prop),(∀os bK h1 tk dr,P os bK->(∀b o,s.heap.get? b=some o->h1.get? b=some o)->Q os {s with heap:=h1,toks:=tk,drawn:=dr})->aH (aI X.prog X.w) A.in1 (iP v) Q E s)
  (o:xK lt ds)
  (hk:∀os bK,P os bK->2<=os.length->∀s':aC,(∀b o,s.heap.get? b=some o->s'.heap.get? b=some o)->∀(Q:bD->aC->Prop)(E:aA->aC->Prop),Q κ s'->aH (aI X.prog X.w) A.in1.in1 (fL os.toArray) Q E s')
  (hc:∀os bK,P os bK->∀s':aC,(∀b o,s.heap.get? b=some o->s'.heap.get? b=some o)->∀(i j:Nat)(d e:Z9)(u v:aA),os[i]?=some u->bK[i]?=some d->os[j]?=some v->bK[j]?=some e->∀(Q:Bool->aC->Prop),Q (lt d e) s'->aH (aI X.prog X.w) A.in1.in1 (lT κ u v) Q (λ_ _=>False) s')
  (q:∀l ys es,H l=none->es.Perm ds->es.Pairwise (λx y=>lt y x=false)->RepAll (upd H l<|.lst ys) es ys->Q (.ref l) (upd H l<|.lst ys)) :
  aH (aI X.prog X.w) A (call (.builtin "sorted") [v]) (EP X aE σ Q) E s:=by
 refine aho (κ:=κ) (λos bK h=>(hP os bK h).1) kY λos bK hp=>?_;obtain⟨hz,jY,pd,kC⟩:=hP os bK hp;have sub:∀d∈bK,d∈ds:=λd hd=>pd.mem_iff.mp hd;obtain⟨g,g1,g2⟩:=aih (h:=s.heap) jY (λi v d h1 h2=>by obtain⟨x,e1,e2⟩:=kC i v d h1 h2;exact⟨e2.lay,e2.reads I e1⟩) (lt:=lt) ⟨λx hx y hy=>o.asy x (sub x hx) y<|sub y hy,λx hx y hy z hz=>o.tr x (sub x hx) y (sub y hy) z<|sub z hz⟩
 refine⟨g,λh2 s' k=>⟨hk os bK hp h2 s' k,λx y hx hy Q' hq=>?_⟩,λus h1 h2 tk dr e u1 u2 AM AL hg3=>?_⟩
 .obtain⟨i,hi⟩:=cj.mp hx;obtain⟨j,hj⟩:=cj.mp hy;have di:=aa (show i<bK.length by have:=(af.mp hi).1;lia);have dj:=aa (show j<bK.length by have:=(af.mp hj).1;lia);rw[g1 i j x y _ _ hi di hj dj]at hq;exact hc os bK hp s' k i j _ _ x y hi di hj dj Q' hq
 .obtain⟨T,te,tp,tu,tm⟩:=g2 us u1 u2;have tr:∀t∈T,∃x,RelV x t.2/\Rep H t.1 x:=λt ht=>by
   obtain⟨i,a1,a2⟩:=tm t ht;exact kC i _ _ a2 a1
  have htl:=(tp.trans pd).length_eq;have eF:=pd.length_eq;obtain⟨zs,v1,v2⟩:∃zs,Vals zs us/\RepAll H (T.map (·.1)) zs:=by
   rw[<-te];clear te tp tu tm htl;induction T with
   | nil=>exact⟨[],.nil,rfl⟩
   | cons t T ih=>
    obtain⟨x,x1,x2⟩:=tr t ak;obtain⟨ys,y1,y2⟩:=ih λt ht=>tr t<|ao _ ht;exact(m6 (x::ys) (.cons x1 y1) x ys ⟨rfl,x2,y2⟩)
  have I0:L2.Inv X aE σ H {s with drawn:=dr}:=⟨I.ok,I.os,I.bare,I.base,I.loc,I.cell,I.free,I.freeC,I.pin,I.hok,I.len⟩;have I3:L2.Inv X aE σ H {s with heap:=h1,toks:=tk,drawn:=dr}:=I0.kept AM;have hn:H h1.objs.size=none:=I3.hok.fresh<|aq _;have aV:=v2.length;have iX:=gf;exact(kl (.ref h1.objs.size) _ ⟨I3.laid (t':=tk) (o:=.lst zs) AL (aq _) ⟨by lia,(kl _ e ⟨v1,hg3⟩)⟩,rfl,q _ zs (T.map (·.1)) hn (tp.trans pd) tu<|v2.same λb o q=>by rw[kg (l7 q hn)];exact q⟩)
def apk{ds:U Z9}{ys:U V}{its:U aA}(dH:RepAll H ds ys)(rv:Vals ys its)(i:Nat)(u:aA)(d:Z9)(h1:its[i]?=some u)(h2:ds[i]?=some d):∃x,RelV x u/\Rep H d x:=by obtain⟨x,e1,e2⟩:=dH.get h2;obtain⟨u',e3,e4⟩:=rv.get e1;rw[h1]at e3;cases e3;exact⟨x,e4,e2⟩
def ab7(I:L2.Inv X aE σ H s){v:aA}{ds:U Z9}{ys:U V}{its:U aA}{κ:bD}{lt:Z9->Z9->Bool}{Q:VK}(dH:RepAll H ds ys)(rv:Vals ys its)(hz:ys.length<64)
  (kY:∀(Q:U aA->aC->Prop)(E:aA->aC->Prop),(∀h1 tk,(∀b o,s.heap.get? b=some o->h1.get? b=some o)->Q its {s with heap:=h1,toks:=tk})->aH (aI X.prog X.w) A.in1 (iP v) Q E s)
  (o:xK lt ds)
  (hk:2<=its.length->∀s':aC,(∀b o,s.heap.get? b=some o->s'.heap.get? b=some o)->∀(Q:bD->aC->Prop)(E:aA->aC->Prop),Q κ s'->aH (aI X.prog X.w) A.in1.in1 (fL its.toArray) Q E s')
  (hc:∀s':aC,(∀b o,s.heap.get? b=some o->s'.heap.get? b=some o)->∀(i j:Nat)(d e:Z9)(u v:aA),its[i]?=some u->ds[i]?=some d->its[j]?=some v->ds[j]?=some e->∀(Q:Bool->aC->Prop),Q (lt d e) s'->aH (aI X.prog X.w) A.in1.in1 (lT κ u v) Q (λ_ _=>False) s')
  (q:∀l ys es,H l=none->es.Perm ds->es.Pairwise (λx y=>lt y x=false)->RepAll (upd H l<|.lst ys) es ys->Q (.ref l) (upd H l<|.lst ys)) :
  aH (aI X.prog X.w) A (call (.builtin "sorted") [v]) (EP X aE σ Q) E s:=by
 have l1:ys.length=ds.length:=dH.length;have l2:ys.length=its.length:=rv.length;refine aef (κ:=κ) (P:=λos bK=>os=its/\bK=ds) I ?_ (λQ E h=>kY Q E λh1 tk k=>h its ds h1 tk s.drawn ⟨rfl,rfl⟩ k) o ?_ ?_ q
 .rintro _ _ ⟨rfl,rfl⟩;exact⟨by lia,by lia,.refl _,apk dH rv⟩
 .rintro _ _ ⟨rfl,rfl⟩;exact hk
 .rintro _ _ ⟨rfl,rfl⟩;exact hc
def akj{p:aF}{its:U aA}(pl:s.heap.IsList p its.toArray)(hz:its.length<=aG)(Q:U aA->aC->Prop)(E:aA->aC->Prop)(h:∀h1 tk,(∀b o,s.heap.get? b=some o->h1.get? b=some o)->Q its {s with heap:=h1,toks:=tk}):aH (aI X.prog X.w) A.in1 (iP<|.ref p) Q E s:=
 collect_list pl (h _ _ λb o q=>(cm _ _<|Ne.symm<|ca<|bc q).trans (ai _ q)) hz
end
noncomputable def ltR(x y:Z9):Bool:=pj (ua x)<|ua y
def am9{ks:U Bool}{ds:U Z9}(h:Rows ks ds):xK ltR ds:=by
 have iH:∀d∈ds,Row (true::ks) (ua d):=λd hd=>by obtain⟨r,e,hr⟩:=h d hd;rw[e];exact hr
 exact⟨λx hx y hy q=>Cd (iH x hx) (iH y hy) q,λx hx y hy z hz q1 q2=>B6 (iH x hx) (iH y hy) (iH z hz) q1 q2⟩
section
variable{X:Cx}
def afm{aE:U (aF×Obj)}{s:aC}{σ:L2.St}{H:Hp}{A:Around}{E:aA->aC->Prop}{v:aA}{ks:U Bool}{ds:U Z9}{xs:U V}{its:U aA}{Q:VK}(I:L2.Inv X aE σ H s)(dH:RepAll H ds xs)(rv:Vals xs its)(dF:Rows ks ds)(hz:xs.length<64)
  (kY:∀(Q:U aA->aC->Prop)(E:aA->aC->Prop),(∀h1 tk,(∀b o,s.heap.get? b=some o->h1.get? b=some o)->Q its {s with heap:=h1,toks:=tk})->aH (aI X.prog X.w) A.in1 (iP v) Q E s)
  (q:∀l ys es,H l=none->es.Perm ds->es.Pairwise (λx y=>ltR y x=false)->RepAll (upd H l<|.lst ys) es ys->Q (.ref l) (upd H l<|.lst ys)) :
  aH (aI X.prog X.w) A (call (.builtin "sorted") [v]) (EP X aE σ Q) E s:=by
 have l1:xs.length=ds.length:=dH.length;have l2:xs.length=its.length:=rv.length;obtain⟨fs,kt,kf,ki⟩:=ahd I dH rv dF;refine ab7 (κ:=kE true) (lt:=ltR) I dH rv hz kY (am9 dF) (λh2 s' k Q' E' hq=>?_) (λs' k i j d e u v ui di vj dj Q' hq=>?_) q
 .refine PySem.W.kat_kind (T:=aA.type "int") (KatTups.keeps k kt) (by lia) (λv hv=>?_) rfl hq;obtain⟨i,t,rfl⟩:=ki v hv;exact PySem.W.Looks.of_pure rfl
 .have tup:∀(i:Nat)(d:Z9)(u:aA),ds[i]?=some d->its[i]?=some u->∃a o vs n bs row,u=.ref a/\d=.tuple row/\Row (true::ks) row/\s'.heap.get? a=some o/\o.data=.seq vs n/\ReadsAll s'.heap vs.toList row bs:=λi d u hd hu=>by
   obtain⟨x,e1,e2⟩:=dH.get hd;obtain⟨u',e3,e4⟩:=rv.get e1;rw[hu]at e3;cases e3;obtain⟨row,e5,mQ⟩:=dF _<|ah hd;obtain⟨a,o,vs,n,bs,_,_,rfl,g1,_,g3,g4,_⟩:=aox I e2 e4 e5 mQ;exact(me a o vs n bs ⟨row,rfl,e5,mQ,k _ _ g1,g3,ReadsAll.keeps k g4⟩)
  obtain⟨a,o,vs,n,as1,row,rfl,rfl,e3,e4,e5,e6⟩:=tup i d u di ui;obtain⟨a',o',yF,n',as2,Av,rfl,rfl,f3,f4,f5,f6⟩:=tup j e v dj vj;have iE:Q' (pj row Av) s':=hq;have z1:vs.size=ks.length+1:=by have q1:=i9 _ _ _ e6;have q2:=e3.len;simp at q1 q2;lia
  have z2:yF.size=ks.length+1:=by have q1:=i9 _ _ _ f6;have q2:=f3.len;simp at q1 q2;lia
  refine PySem.W.kat_lt e4 e5 f4 f5 ?_;rw[decide_eq_false (by lia)];exact zt e3 f3 e6 f6 iE
def aen:qp X (.builtin "sorted") (λvs H Q=>∃p xs ds ks,vs=[.ref p]/\H p=some (.lst xs)/\RepAll H ds xs/\Rows ks ds/\ds.length<64/\
  ∀l ys es,H l=none->es.Perm ds->es.Pairwise (λx y=>ltR y x=false)->RepAll (upd H l<|.lst ys) es ys->Q (.ref l) (upd H l<|.lst ys)):=by
 intro aE s σ H xs us Q I r h;obtain⟨p,xs,ds,ks,rfl,hp,dH,dF,nA,q⟩:=h;obtain⟨u,rfl,r1⟩:=qv r;cases (show u=aA.ref p from r1);obtain⟨its,rv,pl,hz⟩:=I.list<|SqL.of (K:=X.K) hp;have l2:xs.length=its.length:=rv.length;have l1:=dH.length;exact afm I dH rv dF (by lia) (akj pl.isList<|by lia) q
def ak2{ks:U Bool}{ds es:U Z9}(h:Rows ks ds)(p:es.Perm ds)(u:es.Pairwise (λx y=>ltR y x=false)):es=qd ds:=by
 refine ad4 (R:=λx y=>ltR y x=false) (p.trans (ug ds).symm) u ?_ λx hx y hy h1 h2=>?_
 .rw[cp];intro i j hi hj eC;exact agw h (aa hi) (aa hj)<|cq eC
 .obtain⟨r,e,hr⟩:=h x<|p.mem_iff.mp hx;obtain⟨r',e',wD⟩:=h y<|p.mem_iff.mp hy;subst e e';have eK:pj r r'=false:=h2;have fQ:pj r' r=false:=h1;rw[HK hr wD eK fQ]
def zc:qp X (.builtin "sorted") (λvs H Q=>∃p xs ds ks,vs=[.ref p]/\H p=some (.lst xs)/\RepAll H ds xs/\Rows ks ds/\ds.length<64/\
  ∀l ys,H l=none->RepAll (upd H l<|.lst ys) (qd ds) ys->Q (.ref l) (upd H l<|.lst ys)):=by
 intro aE s σ H xs us Q I r h;obtain⟨p,xs,ds,ks,rfl,hp,dH,dF,nA,q⟩:=h;refine aen aE s σ H _ us Q I r<|li p xs ds ks ⟨rfl,hp,dH,dF,nA,λl ys es hl pe ue re=>?_⟩;rw[ak2 dF pe ue]at re;exact q l ys hl re
end
end L3
namespace L3
open PySem
def slot_setit_next:Slot "set_iterator" "__next__" "set_iterator.__next__":=
 .of (owner:="set_iterator") (n:="__next__") (by rw[En,sY];kernel_rfl) (by decide +kernel) (by decide +kernel) (by decide +kernel) (by first|exact .inl (by decide +kernel)|exact .inr<|by decide +kernel) (by rw[isSubtype_type];kernel_rfl)
def p7:entryFor table "set_iterator.__next__" = some Builtin.«set_iterator.__next__»:=entryFor_of_tree<|by kernel_rfl
def qg(a:aA):zU "set_iterator.__next__" ⟨[a],[]⟩:=by unfold zU;kernel_rfl
def aar:entryFor table "set.__iter__" = some Builtin.«frozenset.__iter__»:=entryFor_alias (id':="frozenset.__iter__") (by kernel_rfl) rfl (by decide +kernel)<|by kernel_rfl
theorem yo{α:Type}:∀(l:List α)(i:Nat)(h:i<l.length),(l[i]::l.eraseIdx i).Perm l
 | a::l,0,h=>gw _
 | a::l,i+1,h=>by
  have h':i<l.length:=by simpa using h
  show(l[i]::a::l.eraseIdx i).Perm (a::l);exact(List.Perm.swap _ _ _).trans ((yo l i h').cons a)
theorem ajl{α:Type}(next:Nat->Nat):∀(fuel k:Nat)(left:List α)(out:Array α),left.length=fuel->((fV.go next fuel k left out).toList).Perm (out.toList++left)
 | 0,k,left,out,h=>by have:left=[]:=fb.mp h;subst this;rw[gz];exact gw _
 | fuel+1,k,left,out,h=>by unfold fV.go;have hl:next k % left.length<left.length:=Nat.mod_lt _ (by lia);rw[aa hl];dsimp only;refine(ajl next fuel (k+1) _ _<|by rw[List.length_eraseIdx_of_lt hl];lia).trans ?_;rw[Array.toList_push,List.append_assoc];refine List.Perm.append_left _ ?_;exact(yo _ _ hl)
def ajd{α:Type}(next:Nat->Nat)(xs:Array α):(fV next xs).toList.Perm xs.toList:=by unfold fV;have:=ajl next xs.size 0 xs.toList #[] (by simp);simpa using this
section
variable{prog:aJ}{w:aL}{A:Around}{E:aA->aC->Prop}{s:aC}
def acs{src:Source}{n:Nat}{Q:Nat->aC->Prop}(hn:0<n)(h:∀i dr,i<n->Q i {s with drawn:=dr}):aH (aI prog w) A (choose src n) Q E s:=λΓ p hΓ=>by show n≠0/\_;exact⟨by lia,h _ _<|Nat.mod_lt _ hn⟩
theorem ada{α:Type}:∀(n:Nat)(xs:List α)(s:aC) {Q:List α->aC->Prop},xs.length=n->(∀ys dr,ys.Perm xs->Q ys {s with drawn:=dr})->aH (aI prog w) A (DD n xs) Q E s
 | 0,xs,s,Q,h,q=>by have:xs=[]:=fb.mp h;subst this;unfold DD;exact am (q [] s.drawn<|gw _)
 | n+1,[],s,Q,h,q=>by simp at h
 | n+1,x::xs,s,Q,h,q=>by unfold DD;refine ab<|acs (by simp) λi dr hi=>?_;rw[aa hi];dsimp only;refine ab<|ada n _ {s with drawn:=dr} (by rw[List.length_eraseIdx_of_lt hi];lia) λys dr' p=>?_;exact am<|q _ dr'<|(List.Perm.cons _ p).trans (yo _ _ hi)
noncomputable def wj(first:aA)(i:Nat)(a:aF)(n ep:Nat):Obj:={cls:=.type "set_iterator",data:=.fields #[first,.int i 0,.ref a,.int n 0,.int ep 0]}
def agi{I a:aF}{slot slot' i ep:Nat}{o:Obj}{es:Array (Int×aA)}{t:SetTable}{x:aA}{Q:Option aA->aC->Prop}(eY:s.heap.get? I=some (wj (.int slot 0) i a es.size ep))(ho:s.heap.get? a=some o)(hd:o.data=.set es ep t)(hf:t.fits es.size=true)
  (jU:∀{A:Around} {E:aA->aC->Prop} {Q:Option (aA×Nat)->aC->Prop},Q (some (x,slot')) s->aH (aI prog w) A (fT a slot i ep) Q E s)
  (hQ:∀h',h'.get? I=some (wj (.int slot' 0) (i+1) a es.size ep)->br I s.heap h'->Q (some x) {s with heap:=h'}):aH (aI prog w) A (bA<|.ref I) Q E s:=by
 have hT:s.TypeIs (.ref I) "set_iterator":=⟨_,eY,rfl⟩;unfold bA;refine ab<|cW<|fu (name:=ae "__next__") hT slot_setit_next<|gd slot_setit_next hT p7 ?_<|qg _;unfold Builtin.«set_iterator.__next__» lK;simp only[List.isEmpty_nil,gn,a9,↓reduceIte,hV,gc,bne_self_eq_false];refine ab<|am ?_;dsimp only;refine ab<|fJ eY rfl ?_;show aH _ _ (lO a >>= _) _ _ _;refine ab<|cC ho hd hf ?_;rw[if_neg (by simp)];show aH _ _ (fT a (slot:Int).toNat (i:Int).toNat (ep:Int).toNat >>= _) _ _ _;simp only[gh];refine ab<|jU ?_;dsimp only;refine ab<|jn eY rfl (by show 0<5;decide) ?_;have g1:=cu (Obj.mapFields (·.setIfInBounds 0 (jG slot'))) eY rfl;refine ab<|jn g1 rfl (by show 1<5;decide) ?_;have g2:=cu (Obj.mapFields (·.setIfInBounds 1 (jG<|i+1))) g1 rfl;exact am ⟨x,rfl,am<|hQ _ g2<|(fk ..).trans (fk ..)⟩
def ajh{I a:aF}{slot i ep:Nat}{o:Obj}{es:Array (Int×aA)}{t:SetTable}{Q:Option aA->aC->Prop}(hh:A.handled=none)(eY:s.heap.get? I=some (wj (.int slot 0) i a es.size ep))(ho:s.heap.get? a=some o)(hd:o.data=.set es ep t)(hf:t.fits es.size=true)
  (jU:∀{A:Around} {E:aA->aC->Prop} {Q:Option (aA×Nat)->aC->Prop},Q none s->aH (aI prog w) A (fT a slot i ep) Q E s)
  (hQ:∀h',jw I s.heap h'->Q none {s with heap:=h'}):aH (aI prog w) A (bA<|.ref I) Q E s:=by
 have hT:s.TypeIs (.ref I) "set_iterator":=⟨_,eY,rfl⟩;unfold bA;refine ab<|cW<|fu (name:=ae "__next__") hT slot_setit_next<|gd slot_setit_next hT p7 ?_<|qg _;unfold Builtin.«set_iterator.__next__» lK;simp only[List.isEmpty_nil,gn,a9,↓reduceIte,hV,gc,bne_self_eq_false];refine ab<|am ?_;dsimp only;refine ab<|fJ eY rfl ?_;show aH _ _ (lO a >>= _) _ _ _;refine ab<|cC ho hd hf ?_;rw[if_neg (by simp)];show aH _ _ (fT a (slot:Int).toNat (i:Int).toNat (ep:Int).toNat >>= _) _ _ _;simp only[gh];refine ab<|jU ?_;dsimp only;refine ab<|jn eY rfl (by show 2<5;decide) ?_;show aH _ _ (qN (.type "StopIteration") [] >>= _) _ _ _;refine ab ?_;simp only[qN,lQ];refine ab (fq ?_<|by size_fits);refine ab (m:=cR _ _)<|dQ (a:=aA.none) (by first|rfl|(simp only[cR];rfl)) ?_;refine fq ?_ (by size_fits);simp only[tS];refine ab<|nG ?_;rw[show A.in1.handled=none from hh];refine ab<|am<|tL ?_;refine ab<|cU (T:="StopIteration") (b:=true) ⟨_,a0 _ rfl,rfl⟩ lU ?_;exact am<|hQ _<|((fk ..).extBut.push _).push _
def akv{I a tp:aF}{i ep p:Nat}{o op:Obj}{es:Array (Int×aA)}{t:SetTable}{ps:Array aA}{c:Nat}{e:Int×aA}{Q:Option aA->aC->Prop}(eY:s.heap.get? I=some (wj (.ref tp) i a es.size ep))(ho:s.heap.get? a=some o)(hd:o.data=.set es ep t)(hf:t.fits es.size=true)
  (hp:s.heap.get? tp=some op) (Bb:op.data=.seq ps c) (A8:ps[i]?=some (.int p 0)) (qT:es[p]?=some e)
  (hQ:∀h',h'.get? I=some (wj (.ref tp) (i+1) a es.size ep)->br I s.heap h'->Q (some e.2) {s with heap:=h'}):aH (aI prog w) A (bA<|.ref I) Q E s:=by
 have hT:s.TypeIs (.ref I) "set_iterator":=⟨_,eY,rfl⟩;unfold bA;refine ab<|cW<|fu (name:=ae "__next__") hT slot_setit_next<|gd slot_setit_next hT p7 ?_<|qg _;unfold Builtin.«set_iterator.__next__» lK;simp only[List.isEmpty_nil,gn,a9,↓reduceIte,hV,gc,bne_self_eq_false];refine ab<|am ?_;dsimp only;refine ab<|fJ eY rfl ?_;show aH _ _ (lO a >>= _) _ _ _;refine ab<|cC ho hd hf ?_;rw[if_neg (by simp)];show aH _ _ (jF (.ref tp) >>= _) _ _ _;refine ab<|jm hp Bb ?_;dsimp only;simp only[gh,A8];refine ab ?_;unfold setNextDrawn;refine ab<|fy ho hd hf ?_;dsimp only;rw[if_neg (by simp)];simp only[gh,qT];refine am ?_;refine ab<|jn eY rfl (by show 1<5;decide) ?_;have g2:=cu (Obj.mapFields (·.setIfInBounds 1 (jG<|i+1))) eY rfl;exact am ⟨e.2,rfl,am<|hQ _ g2<|fk ..⟩
def ami{I a tp:aF}{i ep:Nat}{o op:Obj}{es:Array (Int×aA)}{t:SetTable}{ps:Array aA}{c:Nat}{Q:Option aA->aC->Prop}(hh:A.handled=none)(eY:s.heap.get? I=some (wj (.ref tp) i a es.size ep))(ho:s.heap.get? a=some o)(hd:o.data=.set es ep t)(hf:t.fits es.size=true)
  (hp:s.heap.get? tp=some op) (Bb:op.data=.seq ps c) (A8:ps[i]?=none)
  (hQ:∀h',jw I s.heap h'->Q none {s with heap:=h'}):aH (aI prog w) A (bA<|.ref I) Q E s:=by
 have hT:s.TypeIs (.ref I) "set_iterator":=⟨_,eY,rfl⟩;unfold bA;refine ab<|cW<|fu (name:=ae "__next__") hT slot_setit_next<|gd slot_setit_next hT p7 ?_<|qg _;unfold Builtin.«set_iterator.__next__» lK;simp only[List.isEmpty_nil,gn,a9,↓reduceIte,hV,gc,bne_self_eq_false];refine ab<|am ?_;dsimp only;refine ab<|fJ eY rfl ?_;show aH _ _ (lO a >>= _) _ _ _;refine ab<|cC ho hd hf ?_;rw[if_neg (by simp)];show aH _ _ (jF (.ref tp) >>= _) _ _ _;refine ab<|jm hp Bb ?_;dsimp only;simp only[gh,A8];refine ab<|jn eY rfl (by show 0<5;decide) ?_;have g1:=cu (Obj.mapFields (·.setIfInBounds 0 (jG 0))) eY rfl;refine ab<|jn g1 rfl (by show 2<5;decide) ?_;show aH _ _ (qN (.type "StopIteration") [] >>= _) _ _ _;refine ab ?_;simp only[qN,lQ];refine ab (fq ?_<|by size_fits);refine ab (m:=cR _ _)<|dQ (a:=aA.none) (by first|rfl|(simp only[cR];rfl)) ?_;refine fq ?_ (by size_fits);simp only[tS];refine ab<|nG ?_;rw[show A.in1.handled=none from hh];refine ab<|am<|tL ?_;refine ab<|cU (T:="StopIteration") (b:=true) ⟨_,a0 _ rfl,rfl⟩ lU ?_;exact am<|hQ _<|(((fk ..).trans (fk ..)).extBut.push _).push _
def yz{a:aF}{slot given ep:Nat}{o:Obj}{es:Array (Int×aA)}{t:SetTable}{Q:Option (aA×Nat)->aC->Prop}(hb:byT w=true)(ho:s.heap.get? a=some o)(hd:o.data=.set es ep t)(hf:t.fits es.size=true)
  (h:Q (((fV (w.params.setOrder a ep) es)[given]?).map λe=>(e.2,slot)) s):aH (aI prog w) A (fT a slot given ep) Q E s:=by
 have bZ:w.params.followText "set-order" = true:=hb;unfold fT;refine ab<|fy ho hd hf ?_;dsimp only;unfold lL;refine ab<|ab<|bY<|am ?_;show aH _ _ (if w.params.followText "set-order" = true then _ else _) _ _ _;rw[if_pos bZ];rw[if_neg (by simp)];refine ab ?_;unfold setWalk;refine ab<|fy ho hd hf ?_;dsimp only;unfold lL;refine ab<|ab<|bY<|am ?_;show aH _ _ (if w.params.followText "set-order" = true then _ else _) _ _ _;rw[if_pos bZ];refine ab<|bY<|am ?_;exact am h
def wv{a:aF}{slot given ep:Nat}{o:Obj}{es:Array (Int×aA)}{t:SetTable}{Q:Option (aA×Nat)->aC->Prop}(hb:byT w=false)(cB:t.led=true)(hdr:(!t.plain&&decide (es.size>1))=false)(ho:s.heap.get? a=some o)(hd:o.data=.set es ep t)(hf:t.fits es.size=true)
  (h:Q (match es[SetTable.below t.place slot]?,t.place[SetTable.below t.place slot]? with|some (_,x),some j=>some (x,j+1)|_,_=>none) s):aH (aI prog w) A (fT a slot given ep) Q E s:=by
 have bZ:w.params.followText "set-order" = false:=hb;unfold fT;refine ab<|fy ho hd hf ?_;dsimp only;unfold lL;refine ab<|ab<|bY<|am ?_;show aH _ _ (if w.params.followText "set-order" = true then _ else _) _ _ _;rw[if_neg (by rw[bZ];exact aj)];show aH _ _ (if (!t.plain&&decide (es.size>1))=true then _ else _) _ _ _;rw[hdr,if_neg aj];refine ab ?_;show aH _ _ (if (!t.led && !es.isEmpty)=true then _ else _) _ _ _;rw[cB,if_neg<|by simp];refine am ?_;exact am h
end
def ah4{xs:Array Nat}(h:xs.toList.Pairwise (· < ·)):SetTable.below xs 0=0:=by
 obtain⟨a,b,c⟩:=vf h 0;apply dg;intro hn;have h0:0<xs.size:=by lia
 have:=b 0 xs[0] (by lia) (by simp[h0]);lia
def ah1{xs:Array Nat}(h:xs.toList.Pairwise (· < ·)){i j:Nat}(hi:xs[i]?=some j):SetTable.below xs (j+1)=i+1:=by
 obtain⟨a,b,c⟩:=vf h<|j+1;have hl:=(ck.mp hi).1;by_cases q:SetTable.below xs (j+1)<=i
 .have:=c i j q hi;lia
 by_cases q2:i+1<SetTable.below xs (j+1)
 .have gL:i+1<xs.size:=by lia
  have e:xs[i+1]?=some xs[i+1]:=by simp[gL]
  have h1:=b (i+1) _ q2 e;have h2:=Ee h hi e (by lia);lia
 .lia
def WalkAt(w:aL)(a I:aF)(es:Array (Int×aA))(ep:Nat)(t:SetTable)(os:U aA)(i:Nat)(h:Heap):Prop:=
 (∃o,h.get? a=some o/\o.cls=.type "set"/\o.data=.set es ep t)/\
 ((byT w=true/\os=(fV (w.params.setOrder a ep) es).toList.map (·.2)/\∃slot,h.get? I=some (wj (.int (slot:Nat) 0) i a es.size ep))\/
  (byT w=false/\(!t.plain&&decide (es.size>1))=false/\os=es.toList.map (·.2)/\∃slot,h.get? I=some (wj (.int (slot:Nat) 0) i a es.size ep)/\SetTable.below t.place slot=i)\/
  (∃tp op c,∃ord:U Nat,h.get? I=some (wj (.ref tp) i a es.size ep)/\h.get? tp=some op/\op.cls=.type "tuple"/\op.data=.seq (ord.map λ(p:Nat)=>aA.int (p:Int) 0).toArray c/\os.length=ord.length/\∀(k:Nat) p,ord[k]?=some p->∃e,es[p]?=some e/\os[k]?=some e.2))
section
variable{prog:aJ}{w:aL}{A:Around}{E:aA->aC->Prop}{s:aC}{a I:aF}{es:Array (Int×aA)}{ep:Nat}{t:SetTable}{os:U aA}{i:Nat}
def WalkAt.keep{h h':Heap}(x:WalkAt w a I es ep t os i h)(k:∀b o,h.get? b=some o->(o.cls=.type "set"\/o.cls=.type "set_iterator"\/o.cls=.type "tuple")->h'.get? b=some o):WalkAt w a I es ep t os i h':=by
 obtain⟨⟨o,h1,h2,h3⟩,hm⟩:=x;refine⟨⟨o,k _ _ h1<|.inl h2,h2,h3⟩,?_⟩;rcases hm with ⟨b1,b2,slot,b3⟩|⟨b1,b2,b3,slot,b4,b5⟩|⟨tp,op,c,ord,b1,b2,b3,b4,b5,b6⟩
 .exact .inl ⟨b1,b2,slot,k _ _ b3<|.inr<|.inl rfl⟩
 .exact .inr<|.inl ⟨b1,b2,b3,slot,k _ _ b4<|.inr<|.inl rfl,b5⟩
 .exact .inr<|.inr<|li tp op c ord ⟨k _ _ b1<|.inr<|.inl rfl,k _ _ b2<|.inr<|.inr b3,b3,b4,b5,b6⟩
def aka{x:aA}{Q:Option aA->aC->Prop}(ok:TOk t es)(cB:t.led = !byT w)(hw:WalkAt w a I es ep t os i s.heap)(hx:os[i]?=some x)
  (hQ:∀h',WalkAt w a I es ep t os (i+1) h'->br I s.heap h'->Q (some x) {s with heap:=h'}):aH (aI prog w) A (bA<|.ref I) Q E s:=by
 obtain⟨⟨o,h1,h2,h3⟩,hm⟩:=hw;have oM:∀{h':Heap} {fo:Obj},s.heap.get? I=some fo->fo.cls=.type "set_iterator"->br I s.heap h'->h'.get? a=some o:=λ{h' fo} hi hc sb=>by rw[sb.2 a (λe=>by subst e;rw[h1]at hi;cases hi;rw[h2]at hc;exact absurd hc<|by decide)];exact h1
 rcases hm with ⟨b1,b2,slot,b3⟩|⟨b1,b2,b3,slot,b4,b5⟩|⟨tp,op,c,ord,b1,b2,b3,b4,b5,b6⟩
 .subst b2;rw[a6,bv]at hx;obtain⟨e,he,rfl⟩:=bg.mp hx;refine agi (slot':=slot) b3 h1 h3 ok.fits (λq=>yz b1 h1 h3 ok.fits<|by rw[he];exact q) λh' g sb=>?_;exact hQ h' ⟨⟨o,oM b3 rfl sb,h2,h3⟩,.inl ⟨b1,rfl,slot,g⟩⟩ sb
 .subst b3;rw[a6,bv]at hx;obtain⟨e,he,rfl⟩:=bg.mp hx;have jV:=(ck.mp he).1;have eF:t.place[i]?=some (t.place[i]'(by rw[ok.sz];exact jV)):=bq _;have hl:t.led=true:=by rw[cB,b1];rfl
  obtain⟨eh,ev⟩:=e;refine agi (slot':=t.place[i]'(by rw[ok.sz];exact jV)+1) b4 h1 h3 ok.fits (λq=>wv b1 hl b2 h1 h3 ok.fits<|by rw[b5,he,eF];exact q) λh' g sb=>?_;exact hQ h' ⟨⟨o,oM b4 rfl sb,h2,h3⟩,.inr<|.inl ⟨b1,b2,rfl,_,g,ah1 ok.rise eF⟩⟩ sb
 .have jV:=(af.mp hx).1;have hio:ord[i]?=some (ord[i]'(by lia)):=aa _;obtain⟨e,e1,e2⟩:=b6 i _ hio;rw[hx]at e2;cases e2;refine akv b1 h1 h3 ok.fits b2 b4 (by rw[i8,a6,hio];rfl) e1 λh' g sb=>?_;have nt:tp≠I:=λe=>by subst e;rw[b2]at b1;cases b1;exact absurd b3<|by show ¬(aA.type "set_iterator" = aA.type "tuple");decide
  exact hQ h' ⟨⟨o,oM b1 rfl sb,h2,h3⟩,.inr<|.inr<|li tp op c ord ⟨g,by rw[sb.2 tp nt];exact b2,b3,b4,b5,b6⟩⟩ sb
def amm{Q:Option aA->aC->Prop}(hh:A.handled=none)(ok:TOk t es)(cB:t.led = !byT w)(hw:WalkAt w a I es ep t os i s.heap)(hx:os.length<=i)
  (hQ:∀h',jw I s.heap h'->Q none {s with heap:=h'}):aH (aI prog w) A (bA<|.ref I) Q E s:=by
 obtain⟨⟨o,h1,h2,h3⟩,hm⟩:=hw;rcases hm with ⟨b1,b2,slot,b3⟩|⟨b1,b2,b3,slot,b4,b5⟩|⟨tp,op,c,ord,b1,b2,b3,b4,b5,b6⟩
 .subst b2;rw[ac,a8]at hx;refine ajh hh b3 h1 h3 ok.fits (λq=>yz b1 h1 h3 ok.fits<|by rw[Array.getElem?_eq_none hx];exact q) hQ
 .subst b3;rw[ac,a8]at hx;have hl:t.led=true:=by rw[cB,b1];rfl
  refine ajh hh b4 h1 h3 ok.fits (λq=>wv b1 hl b2 h1 h3 ok.fits<|by rw[b5,Array.getElem?_eq_none hx];exact q) hQ
 .exact ami hh b1 h1 h3 ok.fits b2 b4 (by rw[i8,a6,ix<|by lia];rfl) hQ
theorem ahn{o:Obj}{Q:aA->aC->Prop}(ho:s.heap.get? a=some o)(dM:o.ExactSet)(hd:o.data=.set es ep t)(ok:TOk t es)(cB:t.led = !byT w)(hsz:es.size<=4000)
  (hQ:∀h' I os dr,os.Perm (es.toList.map (·.2))->WalkAt w a I es ep t os 0 h'->(∀b o,s.heap.get? b=some o->h'.get? b=some o)->s.heap.objs.size<=I->Q (.ref I) {s with heap:=h',drawn:=dr}):aH (aI prog w) A (gW<|.ref a) Q E s:=by
 have hT:s.TypeIs (.ref a) "set":=⟨o,ho,dM.1⟩;refine wpAny_pyIter_slot hT PySem.F.slot_set_iter<|gd PySem.F.slot_set_iter hT aar ?_<|PySem.F.args_set_iter_1 _;unfold Builtin.«frozenset.__iter__» Builtin.Frozenset.slot0 lK;simp only[List.isEmpty_nil,gn,a9,↓reduceIte,hV,gc,bne_self_eq_false];unfold Builtin.Frozenset.addrOf Builtin.Frozenset.sizeOf;refine ab<|am ?_;dsimp only;refine ab<|am ?_;refine ab<|ab<|cC ho hd ok.fits<|am ?_;have F5:∀{Q:Bool->aC->Prop},Q (!byT w&&(!t.plain&&decide (es.size>1))) s->aH (aI prog w) A.in1 (setDrawn a) Q E s:=λ{Q} q=>by unfold setDrawn;refine ab<|fy ho hd ok.fits ?_;dsimp only;unfold lL;refine ab<|ab<|bY<|am ?_;exact am q
 refine ab<|F5 ?_;cases hc:(!byT w&&(!t.plain&&decide (es.size>1)))with
 | true=>
  rw[if_pos rfl];refine ab<|ada es.size (cz es.size) s (by rw[ip]) λord dr hp=>?_;simp only[lQ];have jY:ord.length=es.size:=by rw[hp.length_eq,ip]
  obtain⟨tO,sO⟩:∃ob:Obj,ob={cls:=.type "tuple",data:=.seq (ord.map λ(p:Nat)=>aA.int (p:Int) 0).toArray}:=⟨_,rfl⟩;have dO:((ord.map λ(p:Nat)=>aA.int (p:Int) 0).toArray).size<=aG:=by rw[bf,ac,jY,gf];lia
  refine ab<|fq ?_ dO;show aH _ _ _ _ _ {s with heap:=s.heap.push {cls:=.type "tuple",data:=.seq (ord.map λ(p:Nat)=>aA.int (p:Int) 0).toArray},drawn:=dr};rw[<-sO];have AM:∀b ob,s.heap.get? b=some ob->(s.heap.push tO).get? b=some ob:=λb ob e=>ai _ e;have Fe:(s.heap.push tO).get? s.heap.objs.size=some tO:=a0 _ (by rw[sO];rfl);refine ab<|Al (AM _ _ ho) hd ok.fits ?_;have hg:((s.heap.push tO).push (wj (.ref s.heap.objs.size) 0 a es.size ep)).get? (s.heap.push tO).objs.size=some (wj (.ref s.heap.objs.size) 0 a es.size ep):=a0 _ rfl;have AL:∀b ob,(s.heap.push tO).get? b=some ob->((s.heap.push tO).push (wj (.ref s.heap.objs.size) 0 a es.size ep)).get? b=some ob:=λb ob e=>ai _ e;refine ab<|fq<|am<|m6 _ rfl ("set_iterator") _ ⟨⟨_,hg,rfl⟩,slot_setit_next.lookup,?_⟩;have gK:(ord.map λp=>(es[p]?.map (·.2)).getD aA.none).Perm (es.toList.map (·.2)):=by
   have h1:=hp.map λp=>(es[p]?.map (·.2)).getD aA.none;have h2:(cz es.size).map (λp=>(es[p]?.map (·.2)).getD aA.none)=es.toList.map (·.2):=by
    apply List.ext_getElem
    .simp
    .intro k a1 b1;have hk:k<es.size:=by simpa using b1
     simp[hk]
   rw[h2]at h1;exact h1
  refine hQ _ _ _ dr gK ⟨⟨o,AL _ _<|AM _ _ ho,dM.1,hd⟩,.inr<|.inr<|li s.heap.objs.size tO 0 ord ⟨hg,AL _ _ Fe,by rw[sO],by rw[sO],by rw[ac],λk p hk=>?_⟩⟩ (λb ob e=>AL _ _<|AM _ _ e) (by rw[jl];exact Nat.le_succ _);have eF:p<es.size:=gy.mp<|hp.mem_iff.mp<|ah hk;refine⟨es[p],bq eF,?_⟩;rw[a6,hk];show some ((es[p]?.map (·.2)).getD aA.none)=_;rw[bq eF];rfl
 | false=>
  rw[if_neg aj];refine ab<|am ?_;refine ab<|Al ho hd ok.fits ?_;have hg:(s.heap.push<|wj (.int ((0:Nat):Int) 0) 0 a es.size ep).get? s.heap.objs.size=some (wj (.int ((0:Nat):Int) 0) 0 a es.size ep):=a0 _ rfl;have kp:∀b ob,s.heap.get? b=some ob->(s.heap.push<|wj (.int ((0:Nat):Int) 0) 0 a es.size ep).get? b=some ob:=λb ob e=>ai _ e;refine ab<|fq<|am<|m6 _ rfl ("set_iterator") _ ⟨⟨_,hg,rfl⟩,slot_setit_next.lookup,?_⟩;cases hb:byT w with
  | true=>exact hQ _ _ _ s.drawn ((ajd _ es).map _) ⟨⟨o,kp _ _ ho,dM.1,hd⟩,.inl ⟨hb,rfl,0,hg⟩⟩ kp (aq _)
  | false=>
   rw[hb]at hc;exact hQ _ _ _ s.drawn (gw _) ⟨⟨o,kp _ _ ho,dM.1,hd⟩,.inr<|.inl ⟨hb,by simpa using hc,rfl,0,hg,ah4 ok.rise⟩⟩ kp<|aq _
end
def am4:typeLookup (.type "set") "__len__" = bQ (some<|.builtin "set.__len__"):=by rw[En,sY];kernel_rfl
section
variable{prog:aJ}{w:aL}{A:Around}{a I S:aF}{es:Array (Int×aA)}{ep:Nat}{t:SetTable}{os:U aA}{R:jL->aC->Prop}
theorem adm(hh:A.in1.handled=none)(ok:TOk t es)(cB:t.led = !byT w)(hos:os.length<=4000)(res:aA)(h0:Heap)(Dw:h0.get? I=none)(hS0:h0.get? S=none) :
  ∀(k i:Nat)(s:aC)(c:Nat),os.length-i=k->i<=os.length->WalkAt w a I es ep t os i s.heap->s.heap.get? S=some {cls:=.type "list",dict:=none,data:=.seq (os.take i).toArray c,slots:=#[]}->(∀b o,h0.get? b=some o->s.heap.get? b=some o)->
  (∀h' c',h'.get? S=some {cls:=.type "list",dict:=none,data:=.seq os.toArray c',slots:=#[]}->(∀b o,h0.get? b=some o->h'.get? b=some o)->R (.ok<|.ret res) {s with heap:=h'})->
  cI (aI prog w) A (.builtin "list.extend.loop" ⟨[.ref S,.ref I,res],[]⟩) R s:=by
 intro k;induction k with
 | zero=>
  intro i s c hk hi hw hS lZ hR;have nP:i=os.length:=by lia
  subst nP;rw[gu]at hS;refine et PySem.F.entry_extend_loop (show _ from ?_);rw[dn PySem.F.plain_extend_loop (_:Ej)];show aH _ A.in1 (bA (.ref I) >>= _) _ _ s;have ES:S≠I:=λe=>by
   subst e;rcases hw.2 with ⟨_,_,slot,b3⟩|⟨_,_,_,slot,b4,_⟩|⟨tp,op,c,ord,b1,_⟩
   .rw[hS]at b3;injection b3 with b3;injection b3 with b3;exact absurd b3<|by decide
   .rw[hS]at b4;injection b4 with b4;injection b4 with b4;exact absurd b4<|by decide
   .rw[hS]at b1;injection b1 with b1;injection b1 with b1;exact absurd b1<|by decide
  refine ab<|amm hh ok cB hw (aq _) λh' hx=>?_;exact am (hR h' c (hx S _ ES hS) λb o e=>hx b o (λz=>by rw[z,Dw]at e;cases e)<|lZ b o e)
 | succ k ih=>
  intro i s c hk hi hw hS lZ hR;have bL:i<os.length:=by lia
  refine et PySem.F.entry_extend_loop (show _ from ?_);rw[dn PySem.F.plain_extend_loop (_:Ej)];show aH _ A.in1 (bA (.ref I) >>= _) _ _ s;have ES:S≠I:=λe=>by
   subst e;rcases hw.2 with ⟨_,_,slot,b3⟩|⟨_,_,_,slot,b4,_⟩|⟨tp,op,c,ord,b1,_⟩
   .rw[hS]at b3;injection b3 with b3;injection b3 with b3;exact absurd b3<|by decide
   .rw[hS]at b4;injection b4 with b4;injection b4 with b4;exact absurd b4<|by decide
   .rw[hS]at b1;injection b1 with b1;injection b1 with b1;exact absurd b1<|by decide
  refine ab<|aka ok cB hw (aa bL) λh' hw' sb=>?_;have hG:h'.get? S=some {cls:=.type "list",dict:=none,data:=.seq (os.take i).toArray c,slots:=#[]}:=by rw[sb.2 S ES];exact hS
  show aH _ A.in1 (jD S (·.push os[i]) >>= _) _ _ _;refine ab ?_;have yS:(os.take i).toArray.size<=aG:=by rw[bf,c8,gf];lia
  have E4:((os.take i).toArray.push os[i]).size<=aG+1:=by rw[Array.size_push];lia
  refine cG hG rfl (am ⟨iw PySem.F.plain_extend_loop _,ih (i+1) _ (c+1) (by lia) bL (hw'.keep λb o e hc=>?_) ?_ (λb o e=>?_) λxC c' g kp=>?_⟩) yS E4
  .have:b≠S:=λz=>by
    subst z;rw[hG]at e;cases e;have nR:aA.type "list" = .type "set"\/aA.type "list" = .type "set_iterator"\/aA.type "list" = .type "tuple":=hc;revert nR;decide
   exact(cm _ _<|Ne.symm this).trans e
  .have g:=cu (gq (·.push os[i])) hG rfl;have e1:(os.take i).toArray.push os[i]=(os.take<|i+1).toArray:=by rw[List.push_toArray,List.take_append_getElem bL]
   rw[<-e1];exact g.trans<|congrArg some<|Obj.mapSeq_push_plain _ _ _
  .have nb:b≠S:=λz=>by rw[z,hS0]at e;cases e
   refine(cm _ _<|Ne.symm nb).trans ?_;rw[sb.2 b (λz=>by rw[z,Dw]at e;cases e)];exact lZ b o e
  .exact hR xC c' g kp
theorem ady{o:Obj}{E:aA->aC->Prop}{Q:U aA->aC->Prop}{s:aC}(hh:A.handled=none)(ho:s.heap.get? a=some o)(dM:o.ExactSet)(hd:o.data=.set es ep t)(ok:TOk t es)(cB:t.led = !byT w)(hsz:es.size<=4000)
  (hQ:∀h' os dr,os.Perm (es.toList.map (·.2))->(∀b o,s.heap.get? b=some o->h'.get? b=some o)->Q os {s with heap:=h',drawn:=dr}):aH (aI prog w) A (iP<|.ref a) Q E s:=by
 unfold iP;refine ab<|fI<|et PySem.F.entry_proto_collect ?_;rw[dn PySem.F.plain_proto_collect _];show aH _ A.in1 (newList [] >>= λl=>again<|.builtin "list.__iadd__" ⟨[l,.ref a],[]⟩) _ _ s;refine ab<|fq ?_;refine am ⟨iw PySem.F.plain_list_iadd _,et PySem.F.entry_list_iadd ?_⟩;rw[dn PySem.F.plain_list_iadd _];show aH _ A.in1 (Builtin.List.listExtendWith (.ref s.heap.objs.size) (.ref a)<|.ref s.heap.objs.size) _ _ _;have hla:=bc ho;unfold Builtin.List.listExtendWith;generalize hH:s.heap.push {cls:=.type "list",data:=.seq ([]:U aA).toArray}=H;have hHs:H.objs.size=s.heap.objs.size+1:=by rw[<-hH,jl]
 have kp:∀b ob,s.heap.get? b=some ob->H.get? b=some ob:=λb ob e=>hH▸ai _ e;have hHS:H.get? s.heap.objs.size=some {cls:=.type "list",data:=.seq ([]:U aA).toArray}:=hH▸a0 _ rfl;have hT:∀(s':aC),s'.heap.get? a=some o->s'.TypeIs (.ref a) "set":=λs' e=>⟨o,e,dM.1⟩;refine ab<|qF (T:="set") (hT _<|kp _ _ ho) ?_;have h1:Builtin.List.listSameRef (.ref s.heap.objs.size) (.ref a)=false:=by show(s.heap.objs.size==a)=false;exact beq_false_of_ne<|Nat.ne_of_gt hla
 have h2:(aA.type "set" == aA.type "list")=false:=by decide
 have h3:(aA.type "set" == aA.type "tuple")=false:=by decide
 simp only[h1,h2,h3,Bool.or_false,a9,if_false];refine ab<|ahn (kp _ _ ho) dM hd ok cB hsz λh1 I os dr hp hw k1 hI=>?_;refine ab<|db ?_;unfold Builtin.List.listLengthHint;have yX:h1.get? a=some o:=k1 _ _<|kp _ _ ho;refine ab (cH (T:="set") (v:=.ref a) (hT _ yX) am4 ?_)
 wp_delta
 refine ab<|cU (T:="set") (v:=.ref a) (b:=true) (hT _ yX) (by rw[isSubtype_type];kernel_rfl) ?_;show aH _ A.in1 (typeOf (aA.ref a) >>= _) _ _ _;refine ab<|qF (T:="set") (v:=.ref a) (hT _ yX) ?_;refine am ?_;rw[if_pos (by decide)];show aH _ A.in1 (yL "list.extend.makes-room" >>= λ_=>Builtin.List.listTouch (.ref s.heap.objs.size) >>= λ_=>
  again (.builtin "list.extend.loop" ⟨[.ref s.heap.objs.size,.ref I,.ref s.heap.objs.size],[]⟩)) _ _ _
 refine ab<|lG ?_;refine ab ?_;show aH _ A.in1 (jD s.heap.objs.size (·.push .none) >>= λ_=>jD s.heap.objs.size (·.pop)) _ _ _;have hS:h1.get? s.heap.objs.size=some {cls:=.type "list",data:=.seq ([]:U aA).toArray}:=k1 _ _ hHS;refine ab<|cG hS rfl ?_;have hS₂:=cu (gq (·.push aA.none)) hS rfl;refine cG (hz:=by seq_fits) hS₂ rfl ?_;have hS₃:=cu (gq (·.pop)) hS₂ rfl;have oth:∀b ob,b≠s.heap.objs.size->h1.get? b=some ob->((h1.update s.heap.objs.size<|gq (·.push aA.none)).update s.heap.objs.size (gq (·.pop))).get? b=some ob:=
  λb ob hb e=>(cm _ _<|Ne.symm hb).trans ((cm _ _<|Ne.symm hb).trans e)
 have Dw:s.heap.get? I=none:=by
  cases q:s.heap.get? I with
  | none=>rfl
  | some ob=>
   have hI':H.objs.size<=I:=hI;exact absurd (bc q)<|Nat.not_lt.mpr<|fg (by rw[hHs];exact Nat.le_succ _) hI'
 have hS0:s.heap.get? s.heap.objs.size=none:=by
  cases q:s.heap.get? s.heap.objs.size with
  | none=>rfl
  | some ob=>exact absurd (bc q)<|gx _
 refine am ⟨iw PySem.F.plain_extend_loop _,adm hh ok cB (by rw[hp.length_eq,ac,a8];exact hsz) _ s.heap Dw hS0 os.length 0 _ _ rfl (dv _) (hw.keep λb ob e hc=>oth b ob (λz=>?_) e) hS₃ (λb ob e=>oth b ob (λz=>?_)<|k1 _ _<|kp _ _ e) λh2 c2 g2 k2=>?_⟩
 .subst z;rw[hS]at e;cases e;have nR:aA.type "list" = .type "set"\/aA.type "list" = .type "set_iterator"\/aA.type "list" = .type "tuple":=hc;revert nR;decide
 .subst z;rw[hS0]at e;cases e
 .show aH _ A (load s.heap.objs.size >>= _) _ _ _;refine ab<|yC g2 ?_;refine am ?_;exact hQ h2 os dr hp k2
end
end L3
namespace L3
open PySem PySem.Spec PyProof.Rows L2
mutual
def Cmp:Z9->Z9->Prop
 | .int _,.int _=>True
 | .str _,.str _=>True
 | .tuple xs,.tuple ys=>B5 xs ys
 | _,_=>False
def B5:U Z9->U Z9->Prop
 | [],_=>True
 | _::_,[]=>True
 | x::xs,y::ys=>Cmp x y/\B5 xs ys
end
mutual
noncomputable def ltD:Z9->Z9->Bool
 | .int a,.int b=>decide (a<b)
 | .str a,.str b=>sLt a b
 | .tuple xs,.tuple ys=>ltL xs ys
 | _,_=>false
noncomputable def ltL:U Z9->U Z9->Bool
 | [],[]=>false
 | [],_::_=>true
 | _::_,[]=>false
 | x::xs,y::ys=>if b8 x y=true then ltL xs ys else ltD x y
end
def LtAt(A:Around)(s:aC)(u v:aA)(b:Bool):Prop:=∀(prog:aJ)(w:aL)(E:aA->aC->Prop)(Q:aA->aC->Prop),Q (.bool b) s->aH (aI prog w) A (jN .Lt u v) Q E s
theorem LtAt.int{A:Around}{s:aC}(a:Int)(t:gR)(c:Int)(u:gR):LtAt A s (.int a t) (.int c u) (decide<|a<c):=λprog w E Q h=>
 (PyProof.Rows.lt_int h:aH (aI prog w) A (aN .Lt (.int a t)<|.int c u) Q E s)
theorem LtAt.str{A:Around}{s:aC}(a:Str)(t:gR)(c:Str)(u:gR):LtAt A s (.str a t) (.str c u) (sLt a c):=λprog w E Q h=>
 (PyProof.Rows.lt_str h:aH (aI prog w) A (aN .Lt (.str a t)<|.str c u) Q E s)
def DZ(A:Around)(s:aC):U aA->U aA->U Z9->U Z9->Prop
 | v::vs,w::ws,x::xs,y::ys=>SeqAt.EqAt A s v w (b8 x y)/\LtAt A s v w (ltD x y)/\DZ A s vs ws xs ys
 | [],_,[],_=>True
 | _::_,[],_::_,[]=>True
 | _,_,_,_=>False
section
open PySem.SeqAt
open PySem.AutoSeq1 (wpAny_loadPart')
open PySem.MeetsSeq PySem.MeetsSeq2 PySem.MeetsSeq3
theorem acv(l b:aF)(items bI:Array aA)(n n2:Nat)(dd xI:Option aF)(sl vR:Array (Option aA))(xs ys:U Z9)(hi:items.toList.length=xs.length)(hj:bI.toList.length=ys.length) :
  Meets (Builtin.«tuple.__lt__» ⟨[.ref l,.ref b],[]⟩)
   (λA R s=>s.heap.get? l=some {cls:=.type "tuple",dict:=dd,data:=.seq items n,slots:=sl}/\s.heap.get? b=some {cls:=.type "tuple",dict:=xI,data:=.seq bI n2,slots:=vR}/\
    DZ A.in1 s items.toList bI.toList xs ys/\R (.ok<|.ret<|.bool<|ltL xs ys) s):=
 .of_wp λprog w A R s h=>by
  obtain⟨hp,g,d,tk,os⟩:=s;obtain⟨hl,hb,hP,h⟩:=h;have f2:=AutoSeq1.sub_tuple_tuple;have z1:items.size=xs.length:=by rw[<-hi];simp
  have z2:bI.size=ys.length:=by rw[<-hj];simp
  wp_walk using g9 hl,g9 hb,jh _ (λbB b s'=>b.1=none/\s'=⟨hp,g,d,tk,os⟩/\∃(vs ws:U aA)(jH iV:U Z9),bB=vs.zip ws/\
   vs.length=jH.length/\ws.length=iV.length/\DZ A.in1 ⟨hp,g,d,tk,os⟩ vs ws jH iV/\jH.length+bI.size=iV.length+items.size/\R (.ok<|.ret<|.bool<|ltL jH iV) ⟨hp,g,d,tk,os⟩) _
  case turn=>
   rintro⟨y,x⟩ bB b s' ⟨bZ,rfl,vs,ws,jH,iV,hz,uG,sN,De,aR,hR⟩;cases vs with
   | nil=>rw[List.zip_nil_left]at hz;cases hz
   | cons v vs=>
    cases ws with
    | nil=>rw[List.zip_nil_right]at hz;cases hz
    | cons w' ws=>
     cases jH with
     | nil=>cases uG
     | cons n' jH=>
      cases iV with
      | nil=>cases sN
      | cons m' iV=>
       rw[iu]at hz;injection hz with E5 jS
       injection E5 with hy hx
       subst hy hx;obtain⟨he,bL,Fv⟩:=De;have mZ:R (.ok<|.ret<|.bool (if b8 n' m'=true then ltL jH iV else ltD n' m')) ⟨hp,g,d,tk,os⟩:=hR;simp only[ba]at aR uG sN;refine ab<|he prog w _ _ ?_;cases hq:b8 n' m' with
       | true=>
        rw[hq,if_pos rfl]at mZ
        wp_walk
        exact⟨rfl,rfl,(li _ _ _ _ ⟨jS,by lia,by lia,Fv,by lia,mZ⟩)⟩
       | false=>
        rw[hq,if_neg aj]at mZ;have Fs:=bL prog w
        wp_walk using Fs
        exact⟨_,rfl,by simpa using mZ⟩
  case fin=>
   rintro⟨b1,b2⟩ s' ⟨bZ,rfl,vs,ws,jH,iV,hz,uG,sN,De,aR,hR⟩;simp only at bZ;subst bZ;have hv:ltL jH iV=decide (items.size<bI.size):=by
    cases jH with
    | nil=>
     cases iV with
     | nil=>
      simp only[gc]at aR;show false=_;exact(decide_eq_false<|by lia).symm
     | cons c u=>
      simp only[gc,ba]at aR;show true=_;exact(decide_eq_true<|by lia).symm
    | cons a t=>
     cases iV with
     | nil=>
      simp only[gc,ba]at aR;show false=_;exact(decide_eq_false<|by lia).symm
     | cons c u=>
      cases vs with
      | nil=>cases uG
      | cons v vs=>
       cases ws with
       | nil=>cases sN
       | cons w' ws=>
        rw[iu]at hz;cases hz
   rw[hv]at hR
   wp_walk
   exact⟨_,rfl,by simpa [Builtin.Tuple.tupleCompareSizes]using hR⟩
  case h=>
   exact⟨rfl,rfl,(li items.toList bI.toList xs ys ⟨rfl,hi,hj,hP,by lia,h⟩)⟩
end
mutual
theorem aca:∀(x y:Z9),Cmp x y->∀(A:Around)(s:aC)(u v:aA)(as bs:U aF),Reads s.heap u x as->Reads s.heap v y bs->x.canLay0=true->y.canLay0=true->
  A.units+kO x.depth y.depth<aY->LtAt A s u v (ltD x y)
 | .int a,.int b,_=>by intro A s u v as bs r1 r2 _ _ _;cases r1;cases r2;exact LtAt.int _ _ _ _
 | .str a,.str b,_=>by intro A s u v as bs r1 r2 _ _ _;cases r1;cases r2;exact LtAt.str _ _ _ _
 | .tuple xs,.tuple ys,hc=>by
  intro A s u v as bs r1 r2 h1 h2 hu;cases r1 with
  | @tuple a o vs n _ _ e1 e2 e3 z=>
   cases r2 with
   | @tuple a' o' yF n' _ _ f1 f2 f3 z'=>
    obtain⟨cls,dd,data,sl⟩:=o;obtain⟨GE,xI,data2,vR⟩:=o';simp only at e2 e3 f2 f3;subst e2 e3 f2 f3;intro prog w E Q hq;have hp:=zd xs ys hc A.in1 s _ _ _ _ z z' h1 h2<|SeqAt.room_in hu;exact qL (op:=.Lt) ⟨_,e1,rfl⟩ ⟨_,f1,rfl⟩ PySem.F.slot_tuple_lt PySem.F.entry_tuple_lt (PySem.F.args_tuple_lt_2 _ _) (acv a a' vs yF n n' dd xI sl vR xs ys (i9 _ _ _ z)<|i9 _ _ _ z')
     ⟨e1,f1,hp,show aA.bool (ltL xs ys)≠aA.notImplemented/\Q (.bool<|ltL xs ys) s from ⟨(λx=>nomatch x),hq⟩⟩ (SeqAt.room_here hu)
theorem zd:∀(xs ys:U Z9),B5 xs ys->∀(A:Around)(s:aC)(vs ws:U aA)(as bs:U aF),ReadsAll s.heap vs xs as->ReadsAll s.heap ws ys bs->gi xs=true->gi ys=true->
  A.units+kO (ay xs) (ay ys)<aY->DZ A s vs ws xs ys
 | [],_,_=>by
  intro A s vs ws as bs r1 r2 _ _ _;cases r1;cases r2 with
  | nil=>exact True.intro
  | cons _ _=>exact True.intro
 | x::xs,[],_=>by intro A s vs ws as bs r1 r2 _ _ _;cases r1;cases r2;exact True.intro
 | x::xs,y::ys,hc=>by
  intro A s vs ws as bs r1 r2 h1 h2 hu;have fQ:x.canLay0=true/\gi xs=true:=by simpa [gi]using h1
  have eK:y.canLay0=true/\gi ys=true:=by simpa [gi]using h2
  cases r1 with
  | cons ra rb=>
   cases r2 with
   | cons rc rd=>
    exact⟨SeqAt.eqAt_reads x y A s _ _ _ _ ra rc fQ.1 eK.1<|SeqAt.room_head hu,aca x y (show Cmp x y/\B5 xs ys from hc).1 A s _ _ _ _ ra rc fQ.1 eK.1 (SeqAt.room_head hu),
     zd xs ys (show Cmp x y/\B5 xs ys from hc).2 A s _ _ _ _ rb rd fQ.2 eK.2 (SeqAt.room_tail hu)⟩
end
def RL(R:aA->Z9->Prop):U aA->U Z9->Prop
 | [],[]=>True
 | v::vs,d::ds=>R v d/\RL R vs ds
 | _,_=>False
theorem RL.perm{R:aA->Z9->Prop}{os vs:U aA}(p:os.Perm vs):∀{ds:U Z9},RL R vs ds->∃bK,bK.Perm ds/\RL R os bK:=by
 induction p with
 | nil=>intro ds h;exact⟨ds,.refl _,h⟩
 | cons x p ih=>
  intro ds h;cases ds with
  | nil=>exact h.elim
  | cons d ds=>
   obtain⟨bK,p',h'⟩:=ih h.2;exact⟨d::bK,p'.cons d,h.1,h'⟩
 | swap x y l=>
  intro ds h
  match ds,h with
  | d1::d2::ds,h=>exact⟨d2::d1::ds,.swap _ _ _,h.2.1,h.1,h.2.2⟩
 | trans p1 p2 ih1 ih2=>
  intro ds h;obtain⟨d1,q1,h1⟩:=ih2 h;obtain⟨d2,q2,h2⟩:=ih1 h1;exact⟨d2,q2.trans q1,h2⟩
theorem RL.length{R:aA->Z9->Prop}:∀{vs:U aA} {ds:U Z9},RL R vs ds->vs.length=ds.length
 | [],[],_=>rfl
 | v::vs,d::ds,h=>by rw[ba,ba,RL.length h.2]
 | [],_::_,h=>h.elim
 | _::_,[],h=>h.elim
theorem RL.at{R:aA->Z9->Prop}:∀{vs:U aA} {ds:U Z9} {i:Nat} {v:aA} {d:Z9},RL R vs ds->vs[i]?=some v->ds[i]?=some d->R v d
 | v::vs,d::ds,0,_,_,h,h1,h2=>by cases h1;cases h2;exact h.1
 | v::vs,d::ds,i+1,_,_,h,h1,h2=>RL.at h.2 (by simpa using h1) (by simpa using h2)
 | [],_,_,_,_,_,h1,_=>by simp at h1
 | _::_,[],_,_,_,h,_,_=>h.elim
theorem RL.els{Pv:aA->Z9->Prop}{w:aL}{h:Heap}:∀{es:U (Int×aA)} {ds:U Z9},Els Pv w h es ds->RL (λv d=>∃k,El Pv w h (k,v) d) (es.map (·.2)) ds
 | [],ds,x=>by rw[alf x];exact True.intro
 | e::es,ds,x=>by obtain⟨d,aW,rfl,h1,h2⟩:=xo x;exact⟨⟨e.1,h1⟩,RL.els h2⟩
section
variable{X:Cx}{x:Str}{pos:dE}
def anh{a:aF}(h:X.mg x=some (.ref a))(hg:Gl X x)(hd:(x==("__debug__" : Str))=false:=by decide):PE X (.Name x pos) (tC<|.ref a):=IG hg h rfl hd
end
section
variable{X:Cx}
def atv:V->U V->Hp->VK->Prop:=λx vs H Q=>∃(z:Str)(l:aF)(ys:U Str),x=.str z/\vs=[.ref l]/\H l=some (.tup<|ys.map V.str)/\(ys.map (·.length)).sum+ys.length*z.length<=1000000/\Q (.str<|Txt.join z ys) H
def amd:MtR X "str.join" atv:=by intro aE s σ H x vs v us Q I rx rv h;obtain⟨z,l,ys,rfl,rfl,hl,hz,q⟩:=h;obtain⟨t,rfl⟩:=rx;obtain⟨u,rfl,r1⟩:=qv rv;cases (show u=aA.ref l from r1);obtain⟨its,r,pl,_⟩:=I.tuple<|SqT.of (K:=X.K) hl;exact join_tuple pl (by simpa using IQ r) (by lia) λt' k=>(kl (.str _) H ⟨I.tok _,⟨_,rfl⟩,q⟩)
def axl(prog:aJ)(w:aL)(K:au):R2:=λx y H Q=>∃(p:aF)(k:Str)(o:Obj) (aP:U (Str×aA)),y=.ref p/\x=.str k/\K.lookup p=some o/\o.IsDictOf (strKind prog w) aP/\(p==aX)=false/\Q (.bl (eJ aP k).isSome) H
def aux:OpR X (aN .In) (axl X.prog X.w X.K):=by intro aE s σ H x y v u Q I rx ry h;obtain⟨p,k,o,aP,rfl,rfl,hk,hd,hp,q⟩:=h;obtain⟨t',rfl⟩:=rx;cases ry;have hm:s.heap.DictOf (strKind X.prog X.w) p aP:=Heap.dictOf_iff.mpr ⟨o,I.kIn p o hk,hd⟩;exact wpAny_in_of (cK _ _ k t') hp hm.mapOf<|kl (.bl _) H ⟨I.tok _,rfl,q⟩
def ax0:R2:=λx y H Q=>∃dx dy,Rep H dx x/\Rep H dy y/\Cmp dx dy/\dx.depth<=60/\Q (.bl<|ltD dx dy) H
def atp(hu:X.A.units+64<aY):OpR X (aN .Lt) ax0:=by intro aE s σ H x y v u Q I rx ry h;obtain⟨dx,dy,hx,hy,hc,hd,q⟩:=h;obtain⟨as,r1⟩:=hx.reads I rx;obtain⟨bs,r2⟩:=hy.reads I ry;have hl:=aca dx dy hc X.A s v u as bs r1 r2 hx.lay hy.lay (by have:=Nat.min_le_left dx.depth dy.depth;lia) X.prog X.w X.xe (EP X aE σ Q)<|kl (.bl _) H ⟨I,rfl,q⟩;exact hl
end
def zZ(ks:U Bool)(ds:U Z9):Prop:=∀d∈ds,∃r,d=.tuple r/\Row (false::ks) r
def adu{ks:U Bool}{ds:U Z9}(h:zZ ks ds):xK ltR ds:=by
 have iH:∀d∈ds,Row (false::ks) (ua d):=λd hd=>by obtain⟨r,e,hr⟩:=h d hd;rw[e];exact hr
 exact⟨λx hx y hy q=>Cd (iH x hx) (iH y hy) q,λx hx y hy z hz q1 q2=>B6 (iH x hx) (iH y hy) (iH z hz) q1 q2⟩
theorem IP{h:Heap}{ks:U Bool}{d:Z9}{u:aA}{bs:U aF}(z:Reads h u d bs){row:U Z9}(e:d=.tuple row)(hr:Row (false::ks) row) :
  ∃a o vs n as i t,u=.ref a/\h.get? a=some o/\o.cls=.type "tuple"/\o.data=.seq vs n/\ReadsAll h vs.toList row as/\vs[0]?=some (.str i t):=by
 subst e;cases z with
 | @tuple a o vs n _ _ e1 e2 e3 z=>
  obtain⟨i,rr,rfl,_⟩:=hr;have z':=z;generalize hv:vs.toList=vl at z;cases z with
  | cons ra rb=>
   cases ra with
   | str _ t=>
    refine(me a o vs n _<|kl i t ⟨rfl,e1,e2,e3,z',?_⟩);rw[<-bv,hv];rfl
theorem adq{h:Heap}{ks:U Bool}:∀{ds:U Z9} {us:U aA},us.length=ds.length->(∀(i:Nat) u d,us[i]?=some u->ds[i]?=some d->∃as,Reads h u d as)->zZ ks ds->∃fs:U aA,PySem.W.KatTups h us fs/\fs.length=ds.length/\∀v∈fs,∃i t,v=aA.str i t
 | [],[],_,_,_=>⟨[],trivial,rfl,λv hv=>by cases hv⟩
 | [],u::us,hl,_,_=>by cases hl
 | d::ds,[],hl,_,_=>by cases hl
 | d::ds,u::us,hl,r,hr=>by
  obtain⟨row,e,mQ⟩:=hr d ak;obtain⟨bs,z⟩:=r 0 u d rfl rfl;obtain⟨a,o,vs,n,as,i,tk,rfl,e1,e2,e3,_,e4⟩:=IP z e mQ;obtain⟨fs,k1,k2,k3⟩:=adq (ds:=ds) (us:=us) (by simpa using hl) (λi u d h1 h2=>r (i+1) u d (by simpa using h1)<|by simpa using h2) λd hd=>hr d<|ao _ hd;refine⟨.str i tk::fs,PySem.W.KatTups.cons e1 e2 e3 e4 k1,by rw[ba,ba,k2],λv hv=>?_⟩;rcases ap.mp hv with rfl|hv
  .exact(kl i tk rfl)
  .exact k3 v hv
section
variable{prog:aJ}{w:aL}{A:Around}{s:aC}{E:aA->aC->Prop}
def aw0{ks:U Bool}{d e:Z9}{u v:aA}{as bs:U aF}(r1:Reads s.heap u d as)(r2:Reads s.heap v e bs)(hd:∃r,d=.tuple r/\Row (false::ks) r)(he:∃r,e=.tuple r/\Row (false::ks) r){Q:Bool->aC->Prop}(hq:Q (ltR d e) s) :
  aH (aI prog w) A (lT (kE true) u v) Q (λ_ _=>False) s:=by
 obtain⟨row,rfl,hr⟩:=hd;obtain⟨Av,rfl,wD⟩:=he;obtain⟨a,o,vs,n,as1,_,_,rfl,e4,_,e5,e6,_⟩:=IP r1 rfl hr;obtain⟨a',o',yF,n',as2,_,_,rfl,f4,_,f5,f6,_⟩:=IP r2 rfl wD;have z1:vs.size=ks.length+1:=by have q1:=i9 _ _ _ e6;have q2:=hr.len;simp at q1 q2;lia
 have z2:yF.size=ks.length+1:=by have q1:=i9 _ _ _ f6;have q2:=wD.len;simp at q1 q2;lia
 refine PySem.W.kat_lt e4 e5 f4 f5 ?_;rw[decide_eq_false (by lia)];exact zt hr wD e6 f6 hq
def atb{ks:U Bool}{ds:U Z9}{us:U aA}(hl:us.length=ds.length)(h2:2<=us.length)(r:∀(i:Nat) u d,us[i]?=some u->ds[i]?=some d->∃as,Reads s.heap u d as)(hr:zZ ks ds){Q:bD->aC->Prop}(hq:Q (kE true) s) :
  aH (aI prog w) A (fL us.toArray) Q E s:=by
 obtain⟨fs,kt,kf,ki⟩:=adq hl r hr;refine PySem.W.kat_kind (T:=aA.type "str") kt (by lia) (λv hv=>?_) rfl hq;obtain⟨i,t,rfl⟩:=ki v hv;exact PySem.W.Looks.of_pure rfl
end
section
variable{X:Cx}
def ael:qp X (.builtin "sorted") (λvs H Q=>∃p xs ds ks,vs=[.ref p]/\H p=some (.lst xs)/\RepAll H ds xs/\zZ ks ds/\ds.length<64/\
  ∀l ys es,H l=none->es.Perm ds->es.Pairwise (λx y=>ltR y x=false)->RepAll (upd H l<|.lst ys) es ys->Q (.ref l) (upd H l<|.lst ys)):=by
 intro aE s σ H xs us Q I r h;obtain⟨p,xs,ds,ks,rfl,hp,dH,dF,nA,q⟩:=h;obtain⟨u,rfl,r1⟩:=qv r;cases (show u=aA.ref p from r1);obtain⟨its,rv,pl,hz⟩:=I.list<|SqL.of (K:=X.K) hp;have l1:xs.length=ds.length:=dH.length;have l2:xs.length=its.length:=rv.length;obtain⟨as,sH⟩:=RepAll.reads I dH rv;refine ab7 (κ:=kE true) (lt:=ltR) I dH rv (by lia) (akj pl.isList<|by lia) (adu dF) (λh2 s' k Q' E' hq=>?_) (λs' k i j d e u v ui di vj dj Q' hq=>?_) q
 .refine atb (by lia) h2 (λi u d h1 h2=>?_) dF hq;obtain⟨bs,rd⟩:=uq sH h1 h2;exact⟨bs,Reads.keeps k rd⟩
 .obtain⟨bs,rd⟩:=uq sH ui di;obtain⟨bs',EJ⟩:=uq sH vj dj;exact aw0 (Reads.keeps k rd) (Reads.keeps k EJ) (dF d<|ah di) (dF e<|ah dj) hq
end
structure SortsAs(prog:aJ)(w:aL)(A:Around)(κ:bD)(lt:Z9->Z9->Bool)(ds:U Z9):Prop where
 ord:xK lt ds
 kind:∀(s:aC)(os:U aA)(bK:U Z9),(∀d∈bK,d∈ds)->os.length=bK.length->2<=os.length->(∀(i:Nat)(v:aA)(d:Z9),os[i]?=some v->bK[i]?=some d->∃as,Reads s.heap v d as)->
  ∀(Q:bD->aC->Prop)(E:aA->aC->Prop),Q κ s->aH (aI prog w) A (fL os.toArray) Q E s
 key:∀(s:aC)(u v:aA)(d e:Z9)(as bs:U aF),d∈ds->e∈ds->Reads s.heap u d as->Reads s.heap v e bs->d.canLay0=true->e.canLay0=true->∀(Q:Bool->aC->Prop),Q (lt d e) s->aH (aI prog w) A (lT κ u v) Q (λ_ _=>False) s
def ajv{prog:aJ}{w:aL}{A:Around}{ks:U Bool}{ds:U Z9}(h:zZ ks ds):SortsAs prog w A (kE true) ltR ds:=
 ⟨adu h,λs os bK hs hl h2 r Q E q=>atb hl h2 r (λd hd=>h d<|hs d hd) q,λs u v d e as bs hd he r1 r2 _ _ Q q=>aw0 r1 r2 (h d hd) (h e he) q⟩
section
variable{X:Cx}{aE:U (aF×Obj)}{σ:L2.St}{H:Hp}{s:aC}
def aaw(I:Inv X aE σ H s){Pv:aA->Z9->Prop}(hPv:∀v d,Pv v d->∃x,RelV x v/\Rep H d x){a:aF}{ds:U Z9}(hc:X.calm=true)(hS:SetD Pv X.w s.heap a ds)(aR:ds.length<64){κ:bD}{lt:Z9->Z9->Bool}(sa:SortsAs X.prog X.w X.A.in1.in1 κ lt ds){Q:VK}
  (q:∀(es:U Z9)(l:aF)(ys:U V),es.Perm ds->es.Pairwise (λx y=>lt y x=false)->H l=none->RepAll (upd H l<|.lst ys) es ys->Q (.ref l) (upd H l<|.lst ys)) :
  aH (aI X.prog X.w) X.A (call (.builtin "sorted") [.ref a]) (EP X aE σ Q) X.xe s:=by
 obtain⟨o,es,ep,tb,ho,dM,dZ,ok,few,els,nd,cB⟩:=hS;have hsz:es.size=ds.length:=by have:=els.1;rw[a8]at this;exact this
 refine aef (κ:=κ) (P:=λos bK=>os.Perm (es.toList.map (·.2))/\bK.Perm ds/\RL (λx d=>∃k,El Pv X.w s.heap (k,x) d) os bK) I ?_ (λQ' E' hq=>?_) sa.ord ?_ ?_ λl ys es h1 h2 h3 h4=>q es l ys h2 h3 h1 h4
 .rintro os bK ⟨_,pd,rl⟩;have:=pd.length_eq;have jY:=rl.length;refine⟨by lia,jY,pd,λi v d h1 h2=>?_⟩;obtain⟨k,el⟩:=rl.at h1 h2;exact hPv _ _ el.own
 .refine ady (A:=X.A.in1) (I.ok.hd hc) ho dM dZ ok cB (by lia) λh1 os dr gK k1=>?_;obtain⟨bK,pd,rl⟩:=RL.perm gK<|RL.els els;exact hq os bK h1 s.toks dr ⟨gK,pd,rl⟩ k1
 .rintro os bK ⟨_,pd,rl⟩ h2 s' kp Q' E' hq;refine sa.kind s' os bK (λd hd=>pd.mem_iff.mp hd) rl.length h2 (λi v d h1 h2=>?_) Q' E' hq;obtain⟨k,el⟩:=rl.at h1 h2;obtain⟨bs,rd⟩:=el.reads;exact⟨bs,Reads.keeps kp rd⟩
 .rintro os bK ⟨_,pd,rl⟩ s' kp i j d e u v hi di hj dj Q' hq;obtain⟨k,el⟩:=rl.at hi di;obtain⟨k',el'⟩:=rl.at hj dj;obtain⟨bs,rd⟩:=el.reads;obtain⟨bs',EJ⟩:=el'.reads;exact sa.key s' u v d e bs bs' (pd.mem_iff.mp<|ah di) (pd.mem_iff.mp<|ah dj) (Reads.keeps kp rd) (Reads.keeps kp EJ) el.lay el'.lay Q' hq
end
section
variable{X:Cx}
def axt:R2:=λx y H Q=>∃(p q:aF)(xs:U V),x=.ref p/\y=.ref q/\H p=some (.lst xs)/\H q=some (.lst [])/\Q (.bl<|!xs.isEmpty) H
theorem Io(hu:X.A.units+64<aY):OpR X (aN .NotEq) axt:=by
 intro aE s σ H x y v u Q I rx ry h;obtain⟨p,q',xs,rfl,rfl,hp,hq,q⟩:=h;cases rx;cases ry;obtain⟨its,r1,l1,_⟩:=I.list<|SqL.of (K:=X.K) hp;obtain⟨mO,r2,l2,_⟩:=I.list<|SqL.of (K:=X.K) hq;have e2:mO=[]:=fb.mp r2.length.symm;subst e2;have hl:=r1.length;cases xs with
 | nil=>
  have e1:its=[]:=fb.mp r1.length.symm;subst e1;exact SeqAt.RcNeAt.lists (e:=λ_=>true) l1.isList l2.isList rfl (by lia) (λj h1 h2=>absurd h1<|by simp) X.prog X.w X.xe _ (kl (.bl _) H ⟨I,rfl,q⟩)
 | cons x t=>
  refine SeqAt.RcNeAt.lists_lengths l1.isList l2.isList ?_ (by lia) X.prog X.w X.xe _<|kl (.bl _) H ⟨I,rfl,q⟩;rw[bf,<-hl];simp
end
def Hc(K:au)(tl:TE):TI:=λσ H R=>tl σ H λx H1=>∃a,x=.ref a/\(((∃xs,SqL K H1 a xs)/\R (Itl K a) H1)\/((∃xs,SqT K H1 a xs)/\R (Itt K a) H1))
section
variable{X:Cx}{tg:Expr}
def Af{l:Expr}{tl:TE}(hl:PE X l tl):PI X tg l (Hc X.K tl):=by
 intro aE s σ H R I h;refine thn (hl aE s σ H _ I h) λv s1 ⟨x,H1,I1,r1,q1⟩=>?_;obtain⟨a,e,⟨⟨xs,hq⟩,q⟩|⟨⟨xs,hq⟩,q⟩⟩:=q1
 .subst e;cases r1;obtain⟨its,rv,p,hz⟩:=I1.list hq;refine jc p.isList ?_;refine(me s1.heap.objs.size ([s1.heap.objs.size]) _ _ H1 ⟨rfl,I1.kept (t':=s1.toks) λb o e=>ai _ e,adw a _,⟨_,a0 _ rfl,rfl,rfl⟩,λb hb=>?_,q⟩);have e:b=s1.heap.objs.size:=by simpa using hb
  subst e;exact I1.fpOk (aq _)<|I1.hok.fresh<|aq _
 .subst e;cases r1;obtain⟨its,rv,p,hz⟩:=I1.tuple hq;refine dN (show s1.heap.IsTuple a its.toArray from p) ?_;refine(me s1.heap.objs.size ([s1.heap.objs.size]) _ _ H1 ⟨rfl,I1.kept (t':=s1.toks) λb o e=>ai _ e,ab5 a _,⟨_,a0 _ rfl,rfl,rfl⟩,λb hb=>?_,q⟩);have e:b=s1.heap.objs.size:=by simpa using hb
  subst e;exact I1.fpOk (aq _)<|I1.hok.fresh<|aq _
end
section
variable{K:au}{a:aF}{xs:U V}{ds:U Z9}{σ:L2.St}{H:Hp}{Q:VK}{sl:U (Option Nat)}{g:TG}{tt:L2.TT}{te:TE}
def ahe(ha:H a=some (.lst xs)\/H a=some (.tup xs))(Pv:aF->Nat->U V->Hp->Prop)(h0:∀D,H D=none->Pv D 0 [] (upd H D<|.lst []))(hk:∀D i ys G,Pv D i ys G->Same H G)
  (hs:∀D i x ys G,H D=none->xs[i]?=some x->i<xs.length->G D=some (.lst ys)->ys.length<=i->Pv D i ys G->g x (rj sl σ) G λσ2 H2=>Agree (rj sl σ) σ2/\tt σ2 H2 λb H3=>
   if b=true then te σ2 H3 λy H4=>∃xs,H4 D=some (.lst xs)/\xs.length<aG/\Nx D i (Pv D) (upd H4 D<|.lst<|xs++[y])else Nx D i (Pv D) H3)
  (hd:∀D ys G,H D=none->G D=some (.lst ys)->ys.length<=xs.length->Pv D xs.length ys G->Q (.ref D) G) :
  ((∃xs,SqL K H a xs)/\∀D,H D=none->rM (Itl K a) sl g tt te σ H D Q)\/((∃xs,SqT K H a xs)/\∀D,H D=none->rM (Itt K a) sl g tt te σ H D Q):=by
 rcases ha with ha|ha
 .exact .inl ⟨⟨_,SqL.of ha⟩,λD hD=>ni (xs:=xs) (Pv D) (h0 D hD) (λi ys G p=>SqL.of<|hk D i ys G p _ _ ha) (λi x ys G=>hs D i x ys G hD) λys G=>hd D ys G hD⟩
 .exact .inr ⟨⟨_,SqT.of ha⟩,λD hD=>p8 (xs:=xs) (Pv D) (h0 D hD) (λi ys G p=>SqT.of<|hk D i ys G p _ _ ha) (λi x ys G=>hs D i x ys G hD) λys G=>hd D ys G hD⟩
def aia{i0:Nat}{bB:L2.St}(f:Z9->Z9)(hσ:σ[i0]?=some (some<|.ref a))(hp:rj sl σ=none::none::none::bB)(ha:H a=some (.lst xs)\/H a=some (.tup xs))(hr:RepAll H ds xs)(hs:Spots ds)(hl:ds.length<=64)
  (A5:∀(r c:Int)(z:Str)(H':Hp)(Q':VK),(∃u v:Int,f (.tuple [.int r,.int c,.str z])=.tuple [.int u,.int v,.str z]/\∀n,H' n=none->Q' (.ref n) (upd H' n<|.tup [.int u,.int v,.str z]))->
   te (some (.int r)::some (.int c)::some (.str z)::bB) H' Q')
  (fG:∀(r c:Int)(z:Str),∃u v:Int,f (.tuple [.int r,.int c,.str z])=.tuple [.int u,.int v,.str z])
  (q:∀D ys H',H D=none->Same H H'->H' D=some (.lst ys)->RepAll H' (ds.map f) ys->Q (.ref D) H') :
  rL (Hc K<|yb i0) sl (zP K 3<|yg (rn 0)<|yg (rn 1)<|yg (rn 2) B3) sq te σ H Q:=by
 have aR:=hr.length;have im:∀es:U Z9,(∀d∈es,d∈ds)->Spots (es.map f):=λes he d hd=>by obtain⟨d0,h0,rfl⟩:=aw.mp hd;obtain⟨r0,c0,x0,rfl⟩:=hs d0<|he d0 h0;obtain⟨u,v,e⟩:=fG r0 c0 x0;exact(lq u v x0 e)
 refine(lu _ hσ a ⟨rfl,ahe ha (λD i ys H'=>Same H H'/\RepAll H' ((ds.take i).map f) ys) (λD hD=>⟨Same.fresh _ hD,rfl⟩) (λD i ys H' p=>p.1) (λD i x ys H' hD hx hi aQ aV p=>?_) λD ys H' hD aQ aV p=>?_⟩)
 .obtain⟨p1,p2⟩:=p;obtain⟨b,r,c,z,rfl,hb,hz,hd⟩:=hs.at hr hx;rw[hp];refine(nw b _ rfl (SqT.of<|p1 _ _ hb) rfl _ _ rfl _<|m6 _ rfl _ _ ⟨rfl,rfl,?_⟩);refine⟨Agree.set (Agree.set (Agree.set (Agree.refl _) rfl) rfl) rfl,?_⟩;dsimp only[sq];refine mh ?_;obtain⟨u,v,ef⟩:=fG r c z;refine A5 r c z H' _<|kl u v ⟨ef,λn hn=>?_⟩;have s2:Same H' (upd H' n<|.tup [.int u,.int v,.str z]):=Same.fresh _ hn;have n2:upd H' n (.tup [.int u,.int v,.str z]) n=some (.tup [.int u,.int v,.str z]):=j5;generalize upd H' n (.tup [.int u,.int v,.str z])=H2 at *;have cL:=s2 _ _ aQ;refine ng (by lia) cL aV ⟨(p1.trans s2).new hD,?_⟩;have cD:RepAll H2 ((ds.take i).map f++[f (.tuple [.int r,.int c,.str z])]) (ys++[.ref n]):=by
   rw[ef];exact(p2.same s2).snoc (vn n2 hz)
  rw[<-kc f hd]at cD;exact cD.tk (Tk.lst cL)<|Spots.imm<|im _ λd iY=>gt iY
 .obtain⟨p1,p2⟩:=p;rw[av (by lia)]at p2;exact q D ys H' hD p1 aQ p2
end
section
variable{Pv:aA->Z9->Prop}{prog:aJ}{w:aL}{A:Around}{E:aA->aC->Prop}{s:aC}
theorem aj0{l:aF}{items:Array aA}{ds:U Z9}{Q:aA->aC->Prop}
  (hh:A.handled=none) (hl:s.heap.IsTuple l items) (hi:items.size=ds.length) (hE:∀(i:Nat) v d,items[i]?=some v->ds[i]?=some d->El Pv w s.heap (qD w d,v) d) (hb:ds.length<2000) (hu:A.units+20<aY)
  (h:∀(h':Heap)(tk:Nat)(aW:U Z9),SetD Pv w h' s.heap.objs.size aW->(∀d,d∈aW↔d∈ds)->aW.length<=ds.length->Keep s.heap h'->s.toks<=tk->Q (.ref s.heap.objs.size) {s with heap:=h',toks:=tk}) :
  aH (aI prog w) A (call (.type "set") [.ref l]) Q E s:=by
 obtain⟨c,tl,Bh⟩:=bm.mro;have uM:=bm.made;have iD:=bm.sub;refine gT<|fA (show _ from ?_);show aH _ _ (callAny (.type "set") _) _ _ s;refine am ⟨Code.quiet_builtin _<|by decide +kernel,et F.entry_type_call (show _ from ?_)⟩;rw[Around.under_plain (fB "set" [.ref l] []) (rfl:_=_)];have h1:=bm.notType;have h2:=bm.canCreate;have hct:=PySem.F.typeCall_set_1 (.ref l)
 repeat (any_goals (first|assumption|(wp_step)))
 refine js (uw (.ref l) (E:=E) (Q₁:=λobj s₁=>∃led:Bool,led=(!byT w)/\obj=.ref s.heap.objs.size/\s₁={s with heap:=s.heap.push {cls:=.type "set",dict:=none,data:=.set #[] 0 (.fresh 0 0 led)}}) ⟨_,rfl,rfl,rfl⟩) λr s₁ hr=>?_
 match r,hr with
 | .error e,hr=>exact hr
 | .ok (.ret obj),hr=>
   obtain⟨led,cB,rfl,rfl⟩:=hr;obtain⟨iO,dY⟩:∃ob:Obj,ob={cls:=.type "set",dict:=none,data:=.set #[] 0 (.fresh 0 0 led)}:=⟨_,rfl⟩;have hS:(s.heap.push iO).get? s.heap.objs.size=some iO:=a0 _ (by rw[dY];rfl);have hT:aC.TypeIs {s with heap:=s.heap.push iO} (.ref s.heap.objs.size) "set":=⟨_,hS,by rw[dY]⟩;have BF:SetD Pv w (s.heap.push iO) s.heap.objs.size []:=by rw[dY];exact SetD.fresh cB
   rw[<-dY];have hli:=bm.init.lookup;have hbi:=bm.init.bind (.ref s.heap.objs.size)
   repeat (any_goals (first|assumption|(wp_step)))
   refine js (dA (R:=wants (λr s₂=>r=.none/\∃h' tk aW,s₂={s with heap:=h',toks:=tk}/\SetD Pv w h' s.heap.objs.size aW/\(∀d,d∈aW↔d∈ds)/\aW.length<=ds.length/\Keep s.heap h'/\s.toks<=tk) E) bm.init.plain F.entry_set_init<|jK hT ?_) λr₂ s₂ dU=>?_
   .obtain⟨ol,jY,gZ,nl,uU⟩:=hl;obtain⟨Az,jO,tU,gJ⟩:=ol;simp only at gZ uU;subst gZ;subst uU;have oU:(s.heap.push iO).get? l=some {cls:=.type "tuple",dict:=jO,data:=.seq items nl,slots:=gJ}:=ai _ jY;have AZ:=PySem.F.sub_tuple_set;have A0:=PySem.F.sub_tuple_frozenset;have dG:(aA.type "tuple" == aA.type "dict")=false:=by decide
    have iL:(s.heap.push iO).IsTuple l items:=⟨_,oU,rfl,nl,rfl⟩;unfold Builtin.«set.__init__» yP Builtin.Frozenset.updateFrom;generalize BH:gW=PI;subst dY
    wp_walk
    subst BH;refine dN iL ?_;refine ab<|fI ?_;have cZ:∀b,s.heap.objs.size<=b->s.heap.get? b=none:=λb bZ=>by
     cases hq:s.heap.get? b with
     | none=>rfl
     | some ob=>exact absurd (bc hq)<|Nat.not_lt.mpr bZ
    have uR:l<s.heap.objs.size:=bc jY;have Bt:A.in1.in1.in1.handled=none:=by simp[hh]
    have pP:(s.heap.push {cls:=.type "set",dict:=none,data:=.set #[] 0 (.fresh 0 0 led)}).objs.size=s.heap.objs.size+1:=jl _ _;have oV:l≠(s.heap.push {cls:=.type "set",dict:=none,data:=.set #[] 0 (.fresh 0 0 led)}).objs.size:=by rw[pP];exact ca<|Nat.lt_succ_of_lt uR
    have iM:s.heap.objs.size∉[(s.heap.push {cls:=.type "set",dict:=none,data:=.set #[] 0 (.fresh 0 0 led)}).objs.size,l]:=by rw[pP];simp only[ap,bz,or_false,not_or];exact⟨ca<|ir _,Nat.ne_of_gt uR⟩
    have iW:∀(i:Nat)(v:aA),items[i]?=some v->El Pv w s.heap (qD w<|ds.getD i .none,v) (ds.getD i .none):=λi v hv=>by
     have bL:=(ck.mp hv).1;have hd:ds[i]?=some (ds.getD i .none):=by rw[bo,aa<|by lia];rfl
     exact hE i v _ hv hd
    refine yy (A:=A.in1.in1) ((gQ.tuple Bt _ l oV items).toS) s.heap.objs.size iM s.heap (λb bZ=>cZ b<|by rw[ar.mp bZ,pP];exact Nat.le_succ _) (cZ _<|aq _) (λi s' bJ b bZ ob e=>?hwt)
     (λi=>ds.getD i .none) iW (by show A.units+1+1+9<aY;lia) (by lia) (items.size-0) 0 _ [] (by lia) (dv _)
     ⟨⟨_,a0 _ rfl,rfl,rfl⟩,(iL.push _)⟩ ?hK0 ?hS0 (λd=>by simp) (by simp) ?hR
    case hwt=>
     obtain⟨⟨oi,ho,hc,_⟩,_⟩:=bJ;rw[ar.mp bZ,ho]at e;cases e;rw[hc];decide
    case hK0=>exact λb o e=>ai _<|ai _ e
    case hS0=>exact BF.moved (λo e=>ai _ e) λb o e _=>ai _ e
    case hR=>
     intro s' aW hm k' S' m' l';obtain⟨h',g',d',qH,oH⟩:=s';have eg:g'=s.gens:=hm.gens;have ed:d'=s.drawn:=hm.drawn;have eo:oH=s.os:=hm.os;subst eg;subst ed;subst eo;show aH _ _ _ _ _ _;refine am ?_;show aH _ _ (ret aA.none) _ _ _;refine am ⟨rfl,h',qH,aW,rfl,S',λd=>?_,by lia,k',hm.toks⟩;rw[m' d];constructor
     .rintro⟨j,hj,rfl⟩;rw[bo,aa<|by lia];exact dq _
     .intro hd;obtain⟨j,hj⟩:=dw hd;have wP:=(af.mp hj).1;exact⟨j,by lia,by rw[bo,hj];rfl⟩
   .match r₂,dU with
    | .error e,dU=>exact dU
    | .ok (.ret r),dU=>
      obtain⟨rfl,h',tk,aW,rfl,hG,gY,qR,dX,AV⟩:=dU
      repeat (any_goals (first|assumption|(wp_step)))
      exact h _ _ aW hG gY qR dX AV
    | .ok .next,dU=>exact dU.elim
    | .ok .brk,dU=>exact dU.elim
    | .ok .cont,dU=>exact dU.elim
 | .ok .next,hr=>exact hr.elim
 | .ok .brk,hr=>exact hr.elim
 | .ok .cont,hr=>exact hr.elim
end
def akp(prog:aJ)(w:aL)(A:Around)(κ:bD)(lt:Z9->Z9->Bool):U V->Hp->VK->Prop:=λvs H Q=>∃(p:aF)(xs:U V)(ds:U Z9),vs=[.ref p]/\(H p=some (.lst xs)\/H p=some (.tup xs))/\RepAll H ds xs/\(∀d∈ds,DN d)/\SortsAs prog w A κ lt ds/\ds.length<64/\
 ∀(es:U Z9)(l:aF)(ys:U V),es.Nodup->(∀d,d∈es↔d∈ds)->es.Pairwise (λx y=>lt y x=false)->H l=none->RepAll (upd H l<|.lst ys) es ys->Q (.ref l) (upd H l<|.lst ys)
def SortsAs.sub{prog:aJ}{w:aL}{A:Around}{κ:bD}{lt:Z9->Z9->Bool}{ds es:U Z9}(h:SortsAs prog w A κ lt ds)(hs:∀d∈es,d∈ds):SortsAs prog w A κ lt es:=
 ⟨⟨λx hx y hy=>h.ord.asy x (hs x hx) y<|hs y hy,λx hx y hy z hz=>h.ord.tr x (hs x hx) y (hs y hy) z<|hs z hz⟩,λs os bK hd=>h.kind s os bK λd q=>hs d<|hd d q,λs u v d e as bs hd he=>h.key s u v d e as bs (hs d hd)<|hs e he⟩
section
variable{X:Cx}{p p2 pos gI:dE}{e:Expr}{t:TA}
def aew(κ:bD)(lt:Z9->Z9->Bool)(hc:X.calm=true)(hu:X.A.units+64<aY)(hg:Gl X "sorted")(hm:X.mg "sorted" = none)(Bu:Gl X "set")(uN:X.mg "set" = none)(ha:PA X [e] t)(h1:oz e=true:=by rfl) :
  PE X (.Call (.Name "sorted" p) [.Call (.Name "set" p2) [e] [] gI] [] pos) (tCB (akp X.prog X.w X.A.in1.in1 κ lt) t):=by
 intro aE s σ H Q I h;refine f9 (so I hg hm jW ?_ (by decide)<|by decide);refine je ?_ (m7 rfl) rfl;rw[m7 rfl];show aH _ _ (kI ((false,bR (.Call (.Name "set" p2) [e] [] gI) X.env)::bM pos (aM [] X.env))) _ _ s;refine jq ?_;refine f9 (so I Bu uN boot_set ?_ (by decide)<|by decide);refine en (thn (ha gI aE s σ H _ I h) λus s1 ⟨vs,H1,I1,r1,q1⟩=>?_) (m7 h1) rfl;obtain⟨pl,xs,ds,rfl,hp,dH,fZ,sa,hb,q⟩:=q1;obtain⟨u,rfl,ru⟩:=qv r1;cases (show u=aA.ref pl from ru);have oZ:=dH.lay;have iL:xs.length=ds.length:=dH.length;have fin:∀(its:U aA),Vals xs its->∀(h':Heap)(tk:Nat)(aW:U Z9),SetD (λv d=>∃i:Nat,its[i]?=some v/\ds[i]?=some d) X.w h' s1.heap.objs.size aW->(∀d,d∈aW↔d∈ds)->aW.length<=ds.length->Keep s1.heap h'->
   aH (aI X.prog X.w) X.A (kI<|bM pos<|aM [] X.env) (λvs s'=>aH (aI X.prog X.w) X.A (call (.builtin "sorted") (.ref s1.heap.objs.size::vs)) (EP X aE σ Q) X.xe s') X.xe {s1 with heap:=h',toks:=tk}:=by
  intro its rv h' tk aW hS cO aR hk;refine Calls.spliced_nil ?_;have I2:Inv X aE σ H1 {s1 with heap:=h',toks:=tk}:=I1.kept hk;obtain⟨_,_,_,_,_,_,_,_,_,_,nd,_⟩:=id hS;exact aaw I2 (λv d ⟨i,g1,g2⟩=>by
   obtain⟨x,x1,x2⟩:=dH.get g2;obtain⟨u,u1,u2⟩:=rv.get x1;have:u=v:=by rw[u1]at g1;cases g1;rfl
   subst this;exact⟨x,u2,x2⟩) hc hS (by lia) (sa.sub λd hd=>(cO d).mp hd) λes l ys pe up hn cD=>q es l ys (pe.nodup_iff.mpr nd) (λd=>pe.mem_iff.trans<|cO d) up hn cD
 rcases hp with hp|hp
 .obtain⟨its,rv,il,hz⟩:=I1.list<|SqL.of (K:=X.K) hp;obtain⟨as,sH⟩:=RepAll.reads I1 dH rv;have gL:xs.length=its.length:=rv.length;refine ado (Pv:=λv d=>∃i:Nat,its[i]?=some v/\ds[i]?=some d) (ds:=ds) (I1.ok.hd hc) il.isList (by rw[bf];lia) (λi v d hv hd=>?_) (by lia) (by lia) λh' tk aW hS cO aR hk ht=>fin its rv h' tk aW hS cO aR hk;rw[i8]at hv;obtain⟨bs,rd⟩:=uq sH hv hd;have gY:=ah hd;exact⟨⟨i,hv,hd⟩,rfl,(fZ d gY).1,(fZ d gY).2.1,Ec oZ d gY,(fZ d gY).2.2,bs,rd⟩
 .obtain⟨its,rv,il,hz⟩:=I1.tuple<|SqT.of (K:=X.K) hp;obtain⟨as,sH⟩:=RepAll.reads I1 dH rv;have gL:xs.length=its.length:=rv.length;refine aj0 (Pv:=λv d=>∃i:Nat,its[i]?=some v/\ds[i]?=some d) (ds:=ds) (I1.ok.hd hc) (show s1.heap.IsTuple pl its.toArray from il) (by rw[bf];lia) (λi v d hv hd=>?_) (by lia) (by lia) λh' tk aW hS cO aR hk ht=>fin its rv h' tk aW hS cO aR hk;rw[i8]at hv;obtain⟨bs,rd⟩:=uq sH hv hd;have gY:=ah hd;exact⟨⟨i,hv,hd⟩,rfl,(fZ d gY).1,(fZ d gY).2.1,Ec oZ d gY,(fZ d gY).2.2,bs,rd⟩
end
def SetX(prog:aJ)(w:aL)(h:Heap)(a:aF)(m:U Str):Prop:=h.SetOf (PySem.strKind prog w) a (λx=>decide<|x∈m) m.length/\m.Nodup
def SetX.moved{prog:aJ}{w:aL}{h h':Heap}{a:aF}{m:U Str}(x:SetX prog w h a m)(hS:∀o,h.get? a=some o->h'.get? a=some o):SetX prog w h' a m:=by obtain⟨⟨o,es,ep,t,ho,bB⟩,nd⟩:=x;exact⟨⟨o,es,ep,t,hS o ho,bB⟩,nd⟩
theorem SetX.fresh{prog:aJ}{w:aL}{h:Heap}{a:aF}{led:Bool}(hS:h.get? a=some {cls:=.type "set",dict:=none,data:=.set #[] 0 (.fresh 0 0 led)}):SetX prog w h a []:=
 ⟨⟨_,#[],0,_,hS,⟨rfl,rfl,rfl⟩,rfl,λe he=>by simp at he,λk=>by simp,by decide,by rfl,rfl⟩,List.nodup_nil⟩
section
variable{prog:aJ}{w:aL}{A:Around}{R:jL->aC->Prop}{I:aF}{fp wr:U aF}{G:Array iU->Array iU->Prop}{n:Nat}{P:Nat->aA->Prop}{St:Nat->aC->Prop}
theorem aee(W:WalksS prog w A.in1 I fp wr G n P St)(S:aF)(iM:S∉fp)(h0:Heap)(E8:∀b∈wr,h0.get? b=none)(hS0:h0.get? S=none)
  (val:Nat->Str) (iW:∀i v,P i v->∃t,v=.str (val i) t) (hb:n+1<CV) :
  ∀(k i:Nat)(s:aC)(ds:U Str),n-i=k->i<=n->St i s->Keep h0 s.heap->SetX prog w s.heap S ds->(∀d,d∈ds↔∃j,j<i/\val j=d)->ds.length<=i->
   (∀s' aW,Cs (S::wr) G s s'->Keep h0 s'.heap->SetX prog w s'.heap S aW->(∀d,d∈aW↔∃j,j<n/\val j=d)->aW.length<=n->R (.ok<|.ret .none) s')->
   cI (aI prog w) A (.builtin "set.update.loop" ⟨[.ref S,.ref I],[]⟩) R s:=by
 have uZ:S∉wr:=λh=>iM<|W.sub _ h;have mono:∀b∈wr,b∈S::wr:=λb hb=>ao _ hb;have mv:∀{s s':aC} {ds:U Str},Cs wr G s s'->Keep h0 s.heap->SetX prog w s.heap S ds->Keep h0 s'.heap/\SetX prog w s'.heap S ds:=λ{s s' ds} hm hk hS=>
  ⟨λb o e=>hm.heap b o (λz=>by rw[E8 b z]at e;cases e)<|hk b o e,hS.moved λo e=>hm.heap S o uZ e⟩
 intro k;induction k with
 | zero=>
  intro i s ds hk hi bJ lZ hS cO aR hR;have nP:i=n:=by lia
  subst nP;refine et F.entry_set_update_loop (show _ from ?_);rw[dn ii (_:Ej)];show aH _ A.in1 (bA (.ref I) >>= _) _ _ _;refine ab<|W.done s _ _ bJ λs' hm=>?_;obtain⟨k1,S1⟩:=mv hm lZ hS;exact am (hR s' ds (hm.mono mono) k1 S1 cO aR)
 | succ k ih=>
  intro i s ds hk hi bJ lZ hS cO aR hR;have bL:i<n:=by lia
  refine et F.entry_set_update_loop (show _ from ?_);rw[dn ii (_:Ej)];show aH _ A.in1 (bA (.ref I) >>= _) _ _ _;refine ab<|W.item i s _ _ bL bJ λv s' hP jR hm=>?_;obtain⟨t,rfl⟩:=iW i v hP;obtain⟨k1,S1,nd⟩:=mv hm lZ hS;show aH _ A.in1 (fX [aA.str (val i) t] (setAdd S<|.str (val i) t) >>= _) _ _ _;refine ab<|db ?_;unfold setAdd;refine db ?_;refine ab<|(PySem.strKind prog w).pyHash (k:=val i) (cK _ _ _ _) ?_;refine wpAny_setAddHashed_of (knd:=PySem.strKind prog w) (s:={s' with toks:=s'.toks+1}) (cK _ _ _ _) rfl S1 (by lia) λh' lY Ds=>?_;have k2:Keep h0 h':=λb o e=>by rw[lY.2 b (λz=>by rw[z,hS0]at e;cases e)];exact k1 b o e
  obtain⟨aW,S3,oW,oY⟩:∃aW:U Str,SetX prog w h' S aW/\(∀d,d∈aW↔∃j,j<i+1/\val j=d)/\aW.length<=i+1:=by
   have base:∀d,(∃j,j<i+1/\val j=d)↔(d∈ds\/val i=d):=λd=>by
    rw[cO d];constructor
    .rintro⟨j,hj,e⟩;by_cases q:j=i
     .subst q;exact .inr e
     .exact .inl ⟨j,by lia,e⟩
    .rintro(⟨j,hj,e⟩|e)
     .exact⟨j,by lia,e⟩
     .exact⟨i,by lia,e⟩
   by_cases q:val i∈ds
   .refine⟨ds,⟨SetOf_congr Ds (λx=>?_)<|by simp[q],nd⟩,λd=>?_,by lia⟩
    .by_cases e:x=val i
     .subst e;simp[q]
     .simp[e]
    .rw[base d];exact⟨.inl,λz=>z.elim id λe=>e▸q⟩
   .refine⟨val i::ds,⟨SetOf_congr Ds (λx=>?_)<|by simp[q],g0.mpr ⟨q,nd⟩⟩,λd=>?_,by rw[ba];lia⟩
    .by_cases e:x=val i
     .subst e;simp
     .simp[e]
    .rw[base d,ap];exact⟨λz=>z.elim (λe=>.inr e.symm) .inl,λz=>z.elim .inr λe=>.inl e.symm⟩
  refine am ⟨iw ii _,ih (i+1) _ aW (by lia) bL (W.frame _ s' _ _ jR (Nat.le_succ _) λb hb o e=>?_) k2 S3 oW oY λvT xH wL EZ Js EW EY=>?_⟩
  .rw[lY.2 b (λh:b=S=>iM<|by rw[<-h];exact hb)];exact e
  .refine hR vT xH (Cs.trans W.gtrans ((hm.mono mono).then_heap (Nat.le_succ _) λb o hb e=>?_) wL) EZ Js EW EY;rw[lY.2 b (λh:b=S=>hb<|by rw[h];exact ak)];exact e
end
section
variable{prog:aJ}{w:aL}{A:Around}{E:aA->aC->Prop}{s:aC}
theorem ak7{l:aF}{items:Array aA}{ds:U Str}{Q:aA->aC->Prop}
  (hh:A.handled=none) (hl:s.heap.IsList l items) (hi:items.size=ds.length) (hE:∀(i:Nat) v d,items[i]?=some v->ds[i]?=some d->∃t,v=.str d t) (hb:ds.length+1<CV)
  (h:∀(h':Heap)(tk:Nat)(aW:U Str),SetX prog w h' s.heap.objs.size aW->(∀d,d∈aW↔d∈ds)->aW.length<=ds.length->Keep s.heap h'->s.toks<=tk->Q (.ref s.heap.objs.size) {s with heap:=h',toks:=tk}) :
  aH (aI prog w) A (call (.type "set") [.ref l]) Q E s:=by
 obtain⟨c,tl,Bh⟩:=bm.mro;have uM:=bm.made;have iD:=bm.sub;refine gT<|fA (show _ from ?_);show aH _ _ (callAny (.type "set") _) _ _ s;refine am ⟨Code.quiet_builtin _<|by decide +kernel,et F.entry_type_call (show _ from ?_)⟩;rw[Around.under_plain (fB "set" [.ref l] []) (rfl:_=_)];have h1:=bm.notType;have h2:=bm.canCreate;have hct:=PySem.F.typeCall_set_1 (.ref l)
 repeat (any_goals (first|assumption|(wp_step)))
 refine js (uw (.ref l) (E:=E) (Q₁:=λobj s₁=>∃led:Bool,led=(!byT w)/\obj=.ref s.heap.objs.size/\s₁={s with heap:=s.heap.push {cls:=.type "set",dict:=none,data:=.set #[] 0 (.fresh 0 0 led)}}) ⟨_,rfl,rfl,rfl⟩) λr s₁ hr=>?_
 match r,hr with
 | .error e,hr=>exact hr
 | .ok (.ret obj),hr=>
   obtain⟨led,cB,rfl,rfl⟩:=hr;obtain⟨iO,dY⟩:∃ob:Obj,ob={cls:=.type "set",dict:=none,data:=.set #[] 0 (.fresh 0 0 led)}:=⟨_,rfl⟩;have hS:(s.heap.push iO).get? s.heap.objs.size=some iO:=a0 _ (by rw[dY];rfl);have hT:aC.TypeIs {s with heap:=s.heap.push iO} (.ref s.heap.objs.size) "set":=⟨_,hS,by rw[dY]⟩;have BF:SetX prog w (s.heap.push iO) s.heap.objs.size []:=by rw[dY]at hS⊢;exact SetX.fresh hS
   rw[<-dY];have hli:=bm.init.lookup;have hbi:=bm.init.bind (.ref s.heap.objs.size)
   repeat (any_goals (first|assumption|(wp_step)))
   refine js (dA (R:=wants (λr s₂=>r=.none/\∃h' tk aW,s₂={s with heap:=h',toks:=tk}/\SetX prog w h' s.heap.objs.size aW/\(∀d,d∈aW↔d∈ds)/\aW.length<=ds.length/\Keep s.heap h'/\s.toks<=tk) E) bm.init.plain F.entry_set_init<|jK hT ?_) λr₂ s₂ dU=>?_
   .obtain⟨ol,jY,gZ,nl,uU⟩:=hl;obtain⟨Az,jO,tU,gJ⟩:=ol;simp only at gZ uU;subst gZ;subst uU;have oU:(s.heap.push iO).get? l=some {cls:=.type "list",dict:=jO,data:=.seq items nl,slots:=gJ}:=ai _ jY;have AZ:=PySem.F.sub_list_set;have A0:=PySem.F.sub_list_frozenset;have dG:(aA.type "list" == aA.type "dict")=false:=by decide
    have iL:(s.heap.push iO).IsList l items:=⟨_,oU,rfl,nl,rfl⟩;unfold Builtin.«set.__init__» yP Builtin.Frozenset.updateFrom;generalize BH:gW=PI;subst dY
    wp_walk
    subst BH;refine jc iL ?_;refine ab<|fI ?_;have cZ:∀b,s.heap.objs.size<=b->s.heap.get? b=none:=λb bZ=>by
     cases hq:s.heap.get? b with
     | none=>rfl
     | some ob=>exact absurd (bc hq)<|Nat.not_lt.mpr bZ
    have uR:l<s.heap.objs.size:=bc jY;have Bt:A.in1.in1.in1.handled=none:=by simp[hh]
    have pP:(s.heap.push {cls:=.type "set",dict:=none,data:=.set #[] 0 (.fresh 0 0 led)}).objs.size=s.heap.objs.size+1:=jl _ _;have oV:l≠(s.heap.push {cls:=.type "set",dict:=none,data:=.set #[] 0 (.fresh 0 0 led)}).objs.size:=by rw[pP];exact ca<|Nat.lt_succ_of_lt uR
    have iM:s.heap.objs.size∉[(s.heap.push {cls:=.type "set",dict:=none,data:=.set #[] 0 (.fresh 0 0 led)}).objs.size,l]:=by rw[pP];simp only[ap,bz,or_false,not_or];exact⟨ca<|ir _,Nat.ne_of_gt uR⟩
    have iW:∀(i:Nat)(v:aA),items[i]?=some v->∃t,v=.str (ds.getD i ⟨#[]⟩) t:=λi v hv=>by
     have bL:=(ck.mp hv).1;have hd:ds[i]?=some (ds.getD i ⟨#[]⟩):=by rw[bo,aa<|by lia];rfl
     exact hE i v _ hv hd
    refine aee (A:=A.in1.in1) ((gQ.list Bt _ l oV items).toS) s.heap.objs.size iM s.heap (λb bZ=>cZ b<|by rw[ar.mp bZ,pP];exact Nat.le_succ _) (cZ _<|aq _)
     (λi=>ds.getD i ⟨#[]⟩) iW (by lia) (items.size-0) 0 _ [] (by lia) (dv _)
     ⟨⟨_,a0 _ rfl,rfl,rfl⟩,(iL.push _)⟩ ?hK0 ?hS0 (λd=>by simp) (by simp) ?hR
    case hK0=>exact λb o e=>ai _<|ai _ e
    case hS0=>exact BF.moved λo e=>ai _ e
    case hR=>
     intro s' aW hm k' S' m' l';obtain⟨h',g',d',qH,oH⟩:=s';have eg:g'=s.gens:=hm.gens;have ed:d'=s.drawn:=hm.drawn;have eo:oH=s.os:=hm.os;subst eg;subst ed;subst eo;show aH _ _ _ _ _ _;refine am ?_;show aH _ _ (ret aA.none) _ _ _;refine am ⟨rfl,h',qH,aW,rfl,S',λd=>?_,by lia,k',hm.toks⟩;rw[m' d];constructor
     .rintro⟨j,hj,rfl⟩;rw[bo,aa<|by lia];exact dq _
     .intro hd;obtain⟨j,hj⟩:=dw hd;have wP:=(af.mp hj).1;exact⟨j,by lia,by rw[bo,hj];rfl⟩
   .match r₂,dU with
    | .error e,dU=>exact dU
    | .ok (.ret r),dU=>
      obtain⟨rfl,h',tk,aW,rfl,hG,gY,qR,dX,AV⟩:=dU
      repeat (any_goals (first|assumption|(wp_step)))
      exact h _ _ aW hG gY qR dX AV
    | .ok .next,dU=>exact dU.elim
    | .ok .brk,dU=>exact dU.elim
    | .ok .cont,dU=>exact dU.elim
 | .ok .next,hr=>exact hr.elim
 | .ok .brk,hr=>exact hr.elim
 | .ok .cont,hr=>exact hr.elim
end
def ano:U V->Hp->VK->Prop:=λvs H Q=>∃(p:aF)(zs:U Str),vs=[.ref p]/\H p=some (.lst<|zs.map V.str)/\zs.length<=100/\
 ∀m:U Str,m.Nodup->(∀z,z∈m↔z∈zs)->m.length<=zs.length->Q (.int m.length) H
section
variable{X:Cx}{p p2 pos gI:dE}{e:Expr}{t:TA}
def abj(hc:X.calm=true)(hg:Gl X "len")(hm:X.mg "len" = none)(Bu:Gl X "set")(uN:X.mg "set" = none)(ha:PA X [e] t)(h1:oz e=true:=by rfl) :
  PE X (.Call (.Name "len" p) [.Call (.Name "set" p2) [e] [] gI] [] pos) (tCB ano t):=by
 intro aE s σ H Q I h;refine f9 (so I hg hm bb ?_ (by decide)<|by decide);refine je ?_ (m7 rfl) rfl;rw[m7 rfl];show aH _ _ (kI ((false,bR (.Call (.Name "set" p2) [e] [] gI) X.env)::bM pos (aM [] X.env))) _ _ s;refine jq ?_;refine f9 (so I Bu uN boot_set ?_ (by decide)<|by decide);refine en (thn (ha gI aE s σ H _ I h) λus s1 ⟨vs,H1,I1,r1,q1⟩=>?_) (m7 h1) rfl;obtain⟨pl,zs,rfl,hp,hb,q⟩:=q1;obtain⟨u,rfl,ru⟩:=qv r1;cases (show u=aA.ref pl from ru);obtain⟨its,rv,il,hz⟩:=I1.list<|SqL.of (K:=X.K) hp;have gL:(zs.map V.str).length=its.length:=rv.length;rw[ac]at gL;refine ak7 (ds:=zs) (I1.ok.hd hc) il.isList (by rw[bf];lia) (λi v d hv hd=>?_) (by unfold CV;lia) λh' tk aW hS cO aR hk ht=>?_
 .rw[i8]at hv;obtain⟨u,u1,u2⟩:=rv.get (i:=i) (x:=V.str d) (by rw[a6,hd];rfl);rw[hv]at u1;cases u1;exact u2
 .obtain⟨⟨o,es,ep,tb,ho,dM,dZ,_,_,_,F2,hn⟩,nd⟩:=hS;refine Calls.spliced_nil ?_
  refine call_len_set ho dM dZ F2 (by rw[hn];have:(aW.length:Int)<2000:=by lia
                                      exact Int.lt_of_lt_of_le this<|by decide) ?_
  refine⟨.int aW.length,H1,?_,⟨_,by rw[<-hn]⟩,q aW nd cO aR⟩;exact I1.kept hk
end
end L3
namespace L2
open PySem PySem.Spec PyProof.Rows
section
variable{κ:Type}[DecidableEq κ]
noncomputable def hZ(aP:U (κ×V))(k:κ):Option V:=(aP.find? λkv=>decide<|kv.1=k).map (·.2)
noncomputable def nE(aP:U (κ×V))(k:κ)(v:V):U (κ×V):=
 if (aP.any λkv=>decide<|kv.1=k)=true then aP.map (λkv=>if kv.1=k then(kv.1,v)else kv)else aP++[(k,v)]
def ql{p:κ×V}{r:U (κ×V)}{k:κ}(e:p.1=k):hZ (p::r) k=some p.2:=by simp[hZ,List.find?_cons,e]
def qi{p:κ×V}{r:U (κ×V)}{k:κ}(e:¬p.1=k):hZ (p::r) k=hZ r k:=by simp[hZ,List.find?_cons,e]
theorem zj(k:κ):∀aP:U (κ×V),(aP.any λkv=>decide<|kv.1=k)=(hZ aP k).isSome
 | []=>rfl
 | p::r=>by
  rw[List.any_cons];by_cases e:p.1=k
  .simp only[ql e,decide_eq_true e,Bool.true_or,Option.isSome_some]
  .rw[qi e,decide_eq_false e,Bool.false_or];exact zj k r
theorem ags(k j:κ)(y:V):∀aP:U (κ×V),hZ (aP.map λkv=>if kv.1=k then(kv.1,y)else kv) j=(hZ aP j).map λx=>if j=k then y else x
 | []=>rfl
 | p::r=>by
  have ih:=ags k j y r;rw[dh];by_cases h:p.1=k
  .rw[if_pos h];by_cases e:p.1=j
   .rw[ql (p:=(p.1,y)) e,ql e,Option.map_some,if_pos<|e.symm.trans h]
   .rw[qi (p:=(p.1,y)) e,qi e,ih]
  .rw[if_neg h];by_cases e:p.1=j
   .rw[ql (p:=p) e,ql e,Option.map_some,if_neg λz=>h<|e.trans z]
   .rw[qi (p:=p) e,qi e,ih]
theorem ad7(k j:κ)(y:V):∀aP:U (κ×V),hZ aP k=none->hZ (aP++[(k,y)]) j=if j=k then some y else hZ aP j
 | [],_=>by
  by_cases e:k=j
  .rw[if_pos e.symm];exact ql (p:=(k,y)) e
  .rw[if_neg (λz=>e z.symm)];exact qi (p:=(k,y)) e
 | p::r,hn=>by
  rw[List.cons_append];have hk:¬p.1=k:=λz=>by rw[ql z]at hn;cases hn
  rw[qi hk]at hn;have ih:=ad7 k j y r hn;by_cases e:p.1=j
  .rw[ql e,ql e,if_neg λz=>hk<|e.trans z]
  .rw[qi e,qi e,ih]
theorem amc(aP:U (κ×V))(k j:κ)(y:V):hZ (nE aP k y) j=if j=k then some y else hZ aP j:=by
 unfold nE;by_cases a:(aP.any λkv=>decide<|kv.1=k)=true
 .rw[if_pos a,ags];rw[zj]at a;by_cases e:j=k
  .obtain⟨x,hx⟩:=Option.isSome_iff_exists.mp a;rw[if_pos e,e,hx,Option.map_some,if_pos rfl]
  .rw[if_neg e];cases hZ aP j with
   | none=>rfl
   | some x=>rw[Option.map_some,if_neg e]
 .rw[if_neg a];refine ad7 k j y aP ?_;rw[zj]at a;cases q:hZ aP k with
  | none=>rfl
  | some x=>rw[q]at a;exact(a rfl).elim
def wq(aP:U (κ×V))(k:κ)(v:V):(nE aP k v).length<=aP.length+1:=by
 unfold nE;split
 .rw[ac];lia
 .rw[be,ba,gc];lia
theorem RelO.isSome_eq{o:Option V}{u:Option aA}(r:RelO o u):o.isSome=u.isSome:=by
 cases o with
 | none=>cases u with
  | none=>rfl
  | some _=>exact(show False from r).elim
 | some _=>cases u with
  | none=>exact(show False from r).elim
  | some _=>rfl
theorem RelO.getD{o:Option V}{u:Option aA}{d:V}{d':aA}(r:RelO o u)(rd:RelV d d'):RelV (o.getD d) (u.getD d'):=by
 cases o with
 | none=>cases u with
  | none=>exact rd
  | some _=>exact(show False from r).elim
 | some _=>cases u with
  | none=>exact(show False from r).elim
  | some _=>exact r
theorem KV.val{aP:U (κ×V)}{vs:U (κ×aA)}(r:KV aP vs)(k:κ):RelO (hZ aP k) (eJ vs k):=by
 unfold KV at r;induction r with
 | nil=>exact True.intro
 | @cons p q ps qs h t ih=>
  obtain⟨h1,h2⟩:=h;by_cases e:p.1=k
  .have e':q.1=k:=h1.symm.trans e;have b:eJ (q::qs) k=some q.2:=by simp[eJ,List.find?_cons,e']
   rw[ql e,b];exact h2
  .have e':¬q.1=k:=λz=>e<|h1.trans z;have b:eJ (q::qs) k=eJ qs k:=by simp[eJ,List.find?_cons,e']
   rw[qi e,b];exact ih
theorem KV.any{aP:U (κ×V)}{vs:U (κ×aA)}(r:KV aP vs)(k:κ):(aP.any λkv=>decide<|kv.1=k)=vs.any λkv=>decide (kv.1=k):=by
 unfold KV at r;induction r with
 | nil=>rfl
 | cons h t ih=>rw[List.any_cons,List.any_cons,ih,h.1]
theorem KV.repl{aP:U (κ×V)}{vs:U (κ×aA)}(r:KV aP vs)(k:κ){y:V}{u:aA}(ry:RelV y u) :
  KV (aP.map λkv=>if kv.1=k then(kv.1,y)else kv) (vs.map λkv=>if kv.1=k then(kv.1,u)else kv):=by
 unfold KV at r⊢;induction r with
 | nil=>exact .nil
 | @cons p q ps qs h t ih=>
  rw[dh,dh];refine .cons ?_ ih;obtain⟨h1,h2⟩:=h;by_cases e:p.1=k
  .rw[if_pos e,if_pos<|h1.symm.trans e];exact⟨h1,ry⟩
  .rw[if_neg e,if_neg λz=>e<|h1.trans z];exact⟨h1,h2⟩
def KV.put{aP:U (κ×V)}{vs:U (κ×aA)}(r:KV aP vs)(k:κ){y:V}{u:aA}(ry:RelV y u):KV (nE aP k y) (stored vs k u):=by
 unfold nE stored;rw[r.any k];by_cases e:(vs.any λkv=>decide<|kv.1=k)=true
 .rw[if_pos e,if_pos e];exact r.repl k ry
 .rw[if_neg e,if_neg e];exact cS.snoc r ⟨rfl,ry⟩
theorem KV.length{aP:U (κ×V)}{vs:U (κ×aA)}(r:KV aP vs):aP.length=vs.length:=cS.length r
end
theorem Hi{P:aJ}{w:aL}{k:Key}{u:aA}(r:RelV (kV k) u):(pc P w).is k u=true:=by
 cases k with
 | inl i=>obtain⟨t,e⟩:=(show ∃t,u=aA.int i t from r);subst e;exact aet P w i t
 | inr x=>obtain⟨t,e⟩:=(show ∃t,u=aA.str x t from r);subst e;exact ae6 P w x t
theorem adj{P:aJ}{w:aL}:∀{ks:U Key} {us:U aA},Vals (ks.map kV) us->ItemsAre (pc P w) ks us
 | [],_,r=>by rw[List.map_nil]at r;cases r;exact .nil
 | k::ks,_,r=>by
  rw[dh]at r;cases r with
  | cons h t=>exact .cons (Hi h)<|adj t
noncomputable abbrev KT(H:Hp):U (U Key×V)->U (U Key×aF×aA)->Prop:=cS λp q=>p.1=q.1/\H q.2.1=some (.tup<|p.1.map kV)/\RelV p.2 q.2.2
theorem KT.val{H:Hp}{aP:U (U Key×V)}{xs:U (U Key×aF×aA)}(r:KT H aP xs)(k:U Key):RelO (hZ aP k) ((qA xs k).map (·.2)):=by
 induction r with
 | nil=>exact True.intro
 | @cons p q ps qs h t ih=>
  obtain⟨h1,_,h2⟩:=h;by_cases e:p.1=k
  .have e':q.1=k:=h1.symm.trans e;have b:qA (q::qs) k=some q.2:=by simp[qA,List.find?_cons,e']
   rw[ql e,b];exact h2
  .have e':¬q.1=k:=λz=>e<|h1.trans z;have b:qA (q::qs) k=qA qs k:=by simp[qA,List.find?_cons,e']
   rw[qi e,b];exact ih
theorem KT.repl{H:Hp}{aP:U (U Key×V)}{xs:U (U Key×aF×aA)}(r:KT H aP xs)(k:U Key){y:V}{u:aA}(ry:RelV y u) :
  KT H (aP.map λkv=>if kv.1=k then(kv.1,y)else kv) (xs.map<|putAt k u):=by
 induction r with
 | nil=>exact .nil
 | @cons p q ps qs h t ih=>
  rw[dh,dh];refine .cons ?_ ih;obtain⟨h1,h2,h3⟩:=h;unfold putAt;by_cases e:p.1=k
  .rw[if_pos e,if_pos<|h1.symm.trans e];exact⟨h1,h2,ry⟩
  .rw[if_neg e,if_neg λz=>e<|h1.trans z];exact⟨h1,h2,h3⟩
def KT.put{H:Hp}{aP:U (U Key×V)}{xs:U (U Key×aF×aA)}(r:KT H aP xs)(k:U Key){b:aF}{y:V}{u:aA}(hb:H b=some (.tup<|k.map kV))(ry:RelV y u) :
  KT H (nE aP k y) (storedH xs k b u):=by
 have e:(aP.any λkv=>decide<|kv.1=k)=(qA xs k).isSome:=by rw[zj,(r.val k).isSome_eq,Option.isSome_map]
 unfold nE storedH;rw[e];by_cases q:(qA xs k).isSome=true
 .rw[if_pos q,if_pos q];exact r.repl k ry
 .rw[if_neg q,if_neg q];exact cS.snoc r ⟨rfl,hb,ry⟩
def KT.keeps{H H':Hp}{aP:U (U Key×V)}{xs:U (U Key×aF×aA)}(r:KT H aP xs)(ht:∀b ys,H b=some (.tup ys)->H' b=some (.tup ys)):KT H' aP xs:=
 cS.mapP r λ_ _ z=>⟨z.1,ht _ _ z.2.1,z.2.2⟩
section
variable{P:aJ}{w:aL}{H:Hp}{h:Heap}{a:aF}
def aud{u:HO}(ok:HOk P w H h)(e:Rd H a u):ObjOk P w H h a u:=e.ok ok
def Hh{aP:U (Key×V)}(ok:HOk P w H h)(e:Rd H a (.dK aP)):aP.length<=aG/\(a==aX)=false/\∃vs,KV aP vs/\h.DictOf (pc P w) a vs:=
 show ObjOk P w H h a (.dK aP)from aud ok e
def DP{aP:U (Key×V)}(ok:HOk P w H h)(e:H a=some (.dK aP)):aP.length<=aG/\(a==aX)=false/\∃vs,KV aP vs/\h.DictOf (pc P w) a vs:=Hh ok<|.inl e
def HZ{ks:U Key}(ok:HOk P w H h)(e:H a=some (.tup<|ks.map kV)):(fS<|pc P w).is h ks a:=by obtain⟨_,its,r,o,h1,h2,n,h3⟩:=(show ObjOk P w H h a (.tup<|ks.map kV)from ok a _ e);exact⟨o,its.toArray,n,h1,h2,h3,by simpa using adj r⟩
theorem Hx{aP:U (U Key×V)}(ok:HOk P w H h)(e:Rd H a (.dT aP)):aP.length<=aG/\(a==aX)=false/\
  ∃xs,KT H aP xs/\h.DictOfH (fS<|pc P w) a xs:=by
 obtain⟨z,y,xs,r,o,es,ep,h1,h2,h3,h4,h5⟩:=(show ObjOk P w H h a (.dT aP)from aud ok e);refine⟨z,y,xs,r,o,es,ep,h1,h2,h3,h4,λx hx=>?_,h5⟩;have all:∀{l:U (U Key×V)} {m:U (U Key×aF×aA)},KT H l m->∀x∈m,(fS<|pc P w).is h x.1 x.2.1:=by
  intro l m q;induction q with
  | nil=>intro x hx;exact nomatch hx
  | @cons p q ps qs hq t ih=>
   intro x hx;rcases ap.mp hx with e|hx
   .subst e;exact HZ ok<|by rw[<-hq.1];exact hq.2.1
   .exact ih x hx
 exact all r x hx
def avl{aP:U (U Key×V)}(ok:HOk P w H h)(e:H a=some (.dT aP)):aP.length<=aG/\(a==aX)=false/\
  ∃xs,KT H aP xs/\h.DictOfH (fS<|pc P w) a xs:=Hx ok<|.inl e
end
def DGet(H:Hp)(a:aF)(y:V)(r:Option V):Prop:=
 (∃aP k,Rd H a (.dK aP)/\y=kV k/\r=hZ aP k)\/∃aP k b,Rd H a (.dT aP)/\y=.ref b/\H b=some (.tup<|k.map kV)/\r=hZ aP k
def DPut(H:Hp)(a:aF)(y v:V)(H':Hp):Prop:=
 (∃aP k,H a=some (.dK aP)/\y=kV k/\aP.length<aG/\H'=upd H a (.dK<|nE aP k v))\/
 ∃aP k b,H a=some (.dT aP)/\y=.ref b/\H b=some (.tup<|k.map kV)/\aP.length<aG/\H'=upd H a (.dT<|nE aP k v)
def DGet.t{H:Hp}{a b:aF}{aP:U (U Key×V)}{k:U Key}(e:H a=some (.dT aP))(eb:H b=some (.tup<|k.map kV)):DGet H a (.ref b) (hZ aP k):=.inr ⟨aP,k,b,.inl e,rfl,eb,rfl⟩
def DPut.t{H:Hp}{a b:aF}{aP:U (U Key×V)}{k:U Key}{v:V}(e:H a=some (.dT aP))(eb:H b=some (.tup<|k.map kV))(hl:aP.length<aG) :
  DPut H a (.ref b) v (upd H a<|.dT<|nE aP k v):=.inr ⟨aP,k,b,e,rfl,eb,hl,rfl⟩
section
variable{X:Cx}{aE:U (aF×Obj)}{σ:St}{H:Hp}{s:aC}{a:aF}{y v:V}{u r:aA}{o:Option V}{A:Around}{E:aA->aC->Prop}
def Inv.big(I:Inv X aE σ H s):aX<s.heap.objs.size:=by have h:aK<s.heap.objs.size:=(I.mod.glob.keeps I.bk).lt;exact Nat.lt_trans (by decide) h
def aip{h':Heap}{t':Nat}{ob:HO}(I:Inv X aE σ H s)(mu:Mut (H a))(hs:br a s.heap h')(he:∃q,h'.get? a=some q)(new:ObjOk X.prog X.w (upd H a ob) h' a ob) :
  Inv X aE σ (upd H a ob) {s with heap:=h',toks:=t'}:=
 I.write (x:=a) (e:=a) mu (.inl rfl) (λb q hb z=>(hs.2 b hb).trans z) he new
def asd{P:aJ}{w:aL}{H':Hp}{h':Heap}{aP:U (Key×V)}{vs:U (Key×aA)}(z:aP.length<=aG)(hd:(a==aX)=false)(rel:KV aP vs)(dd:h'.DictOf (pc P w) a vs) :
  ObjOk P w H' h' a (.dK aP):=⟨z,hd,vs,rel,dd⟩
def ajc{H':Hp}{Q:Unit->aC->Prop}(hu:A.units+1<aY)(I:Inv X aE σ H s)(g:DPut H a y v H')(ry:RelV y u)(rv:RelV v r)(h:∀s',Inv X aE σ H' s'->Q () s') :
  aH (aI X.prog X.w) A (setItem (.ref a) u r) Q E s:=by
 rcases g with ⟨aP,k,e,ey,l,eH⟩|⟨aP,k,b,e,ey,eb,l,eH⟩
 .subst ey eH;obtain⟨z,hd,vs,rel,dd⟩:=DP I.hok e;have hz:vs.length<=aG:=by rw[<-rel.length];exact z
  have hl:(nE aP k v).length<=aG:=by have:=wq aP k v;lia
  refine wpAny_setItem_pairs (hsz:=hz) (Hi ry) dd λh' DE hs=>h _ ?_;have he:∃q,h'.get? a=some q:=let ⟨q,_,_,hq,_⟩:=DE;⟨q,hq⟩
  exact aip I (by rw[e];exact True.intro) hs he<|asd hl hd (rel.put k rv) DE
 .subst ey eH;cases (show u=aA.ref b from ry);obtain⟨z,hd,xs,rel,dd⟩:=avl I.hok e;have hz:xs.length<=aG:=by rw[<-cS.length rel];exact z
  have hl:(nE aP k v).length<=aG:=by have:=wq aP k v;lia
  refine wpAny_setItem_heap (hsz:=hz) (yG hu) (HZ I.hok eb) dd λh' DE hs=>h _ ?_;obtain⟨q,es,ep,hq,h2,h3,h4,_,h5⟩:=DE;refine aip I (by rw[e];exact True.intro) hs ⟨q,hq⟩ ⟨hl,hd,_,(rel.put k eb rv).keeps λc ys ec=>?_,q,es,ep,hq,h2,h3,h4,h5⟩;rw[kg (HJ ec e λz=>nomatch z)];exact ec
end
def avx(td ty tv:TE):TS:=λD σ H=>tv σ H λv H1=>td σ H1 λx H2=>ty σ H2 λy H3=>∃a H4,x=.ref a/\DPut H3 a y v H4/\D.nx σ H4
section
variable{X:Cx}{o i e value:Expr}{pos kJ rV:dE}{td ty tv:TE}
def apn(hu:X.A.units+1<aY)(ho:PE X o td)(hi:PE X i ty)(hv:PE X value tv)(hs:nY value (some<|.Subscript o i kJ) pos.line X.env=bQ false) :
  PS X (.Assign [.Subscript o i kJ] value pos) (avx td ty tv):=by
 intro aE s σ H D I h;refine wpAny_Assign_Subscript (thn (hv aE s σ H _ I h) λr s1 ⟨v,H1,I1,rv,q1⟩=>thn (ho aE s1 σ H1 _ I1 q1) λu s2 ⟨x,H2,I2,rx,q2⟩=>thn (hi aE s2 σ H2 _ I2 q2) λiv s3 ⟨y,H3,I3,ry,a,H4,ex,g,q3⟩=>?_) hs;subst ex;obtain rfl:u=aA.ref a:=rx;exact ajc hu I3 g ry rv λs4 I4=>⟨σ,H4,I4,q3⟩
end
structure M2(X:Cx)(o:Expr)(m:Str)(gB:dE)(e f:Expr)(dC:dE):Prop where
 base:nV o m X.env (bR o X.env)=bR o X.env
 few:((bM dC<|aM [e,f] X.env).all (λx=>!x.1)&&(mH dC<|fK [] X.env).all (λx=>x.1.isSome)
  && decide (([e,f]:U Expr).length+([]:U gD).length+(if ([]:U gD).isEmpty then 0 else 1)<30))=true
 line:(gB.endLine==dC.line)=true
 trees:bM dC (aM [e,f] X.env)=[(false,bR e X.env),(false,bR f X.env)]
def IsD(H:Hp)(a:aF):Prop:=(∃aP,Rd H a<|.dK aP)\/∃aP,Rd H a<|.dT aP
def atx{X:Cx}{aE:U (aF×Obj)}{σ:St}{H:Hp}{s:aC}{a:aF}(I:Inv X aE σ H s)(d:IsD H a) :
  s.TypeIs (.ref a) "dict"/\(∀b,aA.ref a=.ref b->∃ob,s.heap.get? b=some ob/\ob.dict=none)/\(a==aX)=false:=by
 rcases d with ⟨aP,e⟩|⟨aP,e⟩
 .obtain⟨_,hd,vs,_,dd⟩:=Hh I.hok e;refine⟨dd.typeIs,λb q=>?_,hd⟩;cases q;obtain⟨ob,_,_,h1,h2,_⟩:=dd;exact⟨ob,h1,h2.2.1⟩
 .obtain⟨_,hd,xs,_,dd⟩:=Hx I.hok e;refine⟨dd.typeIs,λb q=>?_,hd⟩;cases q;obtain⟨ob,_,_,h1,h2,_⟩:=dd;exact⟨ob,h1,h2.2.1⟩
section
variable{X:Cx}{aE:U (aF×Obj)}{σ:St}{H:Hp}{s:aC}{a:aF}{y d:V}{u r:aA}{o:Option V}{A:Around}{E:aA->aC->Prop}
def asp{Q:aA->aC->Prop}(hu:A.units+1<aY)(I:Inv X aE σ H s)(g:DGet H a y o)(ry:RelV y u)(rd:RelV d r)(h:∀w' s',Inv X aE σ H s'->RelV (o.getD d) w'->Q w' s') :
  aH (aI X.prog X.w) A (call (.builtin "dict.get") [.ref a,u,r]) Q E s:=by
 rcases g with ⟨aP,k,e,ey,l⟩|⟨aP,k,b,e,ey,eb,l⟩
 .subst ey;obtain⟨z,hd,vs,rel,dd⟩:=Hh I.hok e;refine call_meetsIn PySem.F.slot_dict_get dd.typeIs PySem.F.entry_dict_get (PySem.F.args_dict_get_3 _ _ _) (meets_dict_get_default (pc X.prog X.w) a (Hi ry) hd r) ⟨_,dd.mapOf,h _ _ (I.tok _) ?_⟩;rw[l];exact(rel.val k).getD rd
 .subst ey;cases (show u=aA.ref b from ry);obtain⟨z,hd,xs,rel,dd⟩:=Hx I.hok e;refine call_meetsIn PySem.F.slot_dict_get dd.typeIs PySem.F.entry_dict_get (PySem.F.args_dict_get_3 _ _ _) (meetsH_dict_get_default (fS<|pc X.prog X.w) a b hd r) ⟨yG hu,k,xs,HZ I.hok eb,dd,h _ _ (I.tok _) ?_⟩;rw[l];exact(rel.val k).getD rd
end
def aue(td ty tx:TE):TE:=λσ H Q=>td σ H λx H1=>∃a,x=.ref a/\IsD H1 a/\ty σ H1 λy H2=>tx σ H2 λz H3=>∃o,DGet H3 a y o/\Q (o.getD z) H3
section
variable{X:Cx}{o e f:Expr}{gB dC:dE}{td ty tx:TE}
def amo(hu:X.A.units+1<aY)(ho:PE X o td)(he:PE X e ty)(hf:PE X f tx)(m:M2 X o "get" gB e f dC):PE X (.Call (.Attribute o "get" gB) [e,f] [] dC) (aue td ty tx):=by
 intro aE s σ H Q I h;refine wpAny_Call_method m.base m.few m.line PySem.F.plainAttrs_dict PySem.F.slot_dict_get PySem.F.type_dict_get<|thn (ho aE s σ H _ I h) λu s1 ⟨x,H1,I1,rx,a,ex,d,q1⟩=>?_;subst ex;obtain rfl:u=aA.ref a:=rx;obtain⟨t1,t2,_⟩:=atx I1 d;refine⟨t1,t2,?_⟩;rw[m.trees];refine Calls.callWith_builtin rfl (Calls.evalArgs_plain (jq (thn (he aE s1 σ H1 _ I1 q1) λiv s2 ⟨y,H2,I2,ry,q2⟩=>
  jq (thn (hf aE s2 σ H2 _ I2 q2) λfv s3 ⟨z,H3,I3,rz,ov,g,q3⟩=>Calls.spliced_nil ?_))))
 exact asp hu I3 g ry rz λw' s4 I4 oA=>⟨_,H3,I4,oA,q3⟩
end
end L2
namespace L3
open PySem PySem.Spec PyProof.Rows L2 SeqAt
open AutoSeq1 (wpAny_loadPart')
def ae3(b:Str)(u:gR)(l:aF)(c:aA)(es:Array jM)(n:Nat)(dd:Option aF)(sl:Array (Option aA)) :
  Meets (Builtin.«str.__eq__» ⟨[.str b u,.ref l],[]⟩) (λ_ R s=>s.heap.get? l=some {cls:=c,dict:=dd,data:=.dict es n,slots:=sl}/\R (.ok<|.ret .notImplemented) s):=
 .of_wp λprog w A R s h=>by obtain⟨hp,g,d,tk,os⟩:=s;obtain⟨hl,h⟩:=h;wp_walk using g9 hl,yC hl;exact⟨_,rfl,h⟩
def afb(l:aF)(es:Array jM)(n:Nat)(dd:Option aF)(sl:Array (Option aA))(b:Str)(u:gR) :
  Meets (Builtin.«dict.__eq__» ⟨[.ref l,.str b u],[]⟩) (λ_ R s=>s.heap.get? l=some {cls:=.type "dict",dict:=dd,data:=.dict es n,slots:=sl}/\R (.ok<|.ret .notImplemented) s):=
 .of_wp λprog w A R s h=>by obtain⟨hp,g,d,tk,os⟩:=s;obtain⟨hl,h⟩:=h;have f1:=F.sub_str_dict;wp_walk using g9 hl;exact⟨_,rfl,h⟩
section
variable{A:Around}{s:aC}
def aff{l:aF}{o:Obj}{es:Array jM}{n:Nat}(b:Str)(u:gR)(ho:s.heap.get? l=some o)(hc:o.cls=.type "dict")(hd:o.data=.dict es n)(hu:A.units<aY):EqAt A s (.str b u) (.ref l) false:=λprog w E Q h=>by
 obtain⟨cls,dd,data,sl⟩:=o;simp only at hc hd;subst hc hd;have rc:∀Q':aA->aC->Prop,Q' (.bool false) s->aH (aI prog w) A (jN .Eq (.str b u)<|.ref l) Q' E s:=λQ' iE=>
  rc_eq_decline_or (k:=false) (bV s b u) ⟨_,ho,rfl⟩ (by decide) F.sub_dict_str F.slot_str_eq F.slot_dict_eq_refl
   (λ_ hq=>eM F.slot_str_eq (bV s b u) F.entry_str_eq (F.args_str_eq_2 _ _) (ae3 b u l (.type "dict") es n dd sl) ⟨ho,hq⟩)
   (λ_ hq=>eM F.slot_dict_eq_refl ⟨_,ho,rfl⟩ F.entry_dict_eq (F.args_dict_eq_2 _ _) (afb l es n dd sl b u) ⟨ho,hq⟩)
   (λ_ hq=>dQ (rfl:isSame (.str b u) (.ref l)=bQ false) hq) (.inr hu) iE
 unfold eqBool;refine db ?_;refine wpAny_ite_split (λiZ=>absurd (eq_of_beq iZ) nofun) λ_=>?_;exact ab<|rc _<|dz h
end
section
variable{X:Cx}
def axp:R2:=λx y H Q=>∃(a p:aF)(zs:U Str),x=.ref a/\H a=some (.dK [])/\y=.ref p/\H p=some (.lst<|zs.map V.str)/\Q (.bl false) H
def asv(hu:X.A.units+64<aY):OpR X (aN .In) axp:=by
 intro aE s σ H x y v u Q I rx ry h;obtain⟨a,p,zs,rfl,ha,rfl,hp,q⟩:=h;cases rx;cases ry;obtain⟨its,rv,il,_⟩:=I.list<|SqL.of (K:=X.K) hp;obtain⟨_,hda,vs,rel,dd⟩:=DP I.hok ha;obtain⟨o,es,ep,ho,wV,dZ,_⟩:=dd;have e:(its.toArray.any λ_=>false)=false:=by simp
 refine in_listAt (λ_=>false) il.isList (λy hy=>?_) (by rw[e];exact⟨.bl false,H,I,rfl,q⟩);have lX:y∈its:=by simpa using hy
 obtain⟨i,hi⟩:=cj.mp lX;have jV:i<zs.length:=by have h1:=(af.mp hi).1;have h2:=rv.length;rw[ac]at h2;lia
 obtain⟨u,u1,u2⟩:=rv.get (i:=i) (x:=V.str zs[i]) (by rw[a6,aa jV];rfl);rw[hi]at u1;cases u1;obtain⟨t,rfl⟩:=u2;exact aff zs[i] t ho wV.1 dZ (by show X.A.units+1<aY;lia)
end
end L3
namespace L3
structure Mat where
 h:Nat
 w:Nat
 g:Nat->Nat->Nat
noncomputable def tw(M:Mat)(r:Nat):U Nat:=(cz M.w).map (M.g r)
theorem aa3{α:Type}{R:α->α->Prop}(as:∀x y,R x y->¬R y x):∀{xs ys:List α},xs.Pairwise R->ys.Pairwise R->(∀z,z∈xs↔z∈ys)->xs=ys
 | [],[],_,_,_=>rfl
 | [],y::ys,_,_,h=>absurd ((h y).mpr ak) (by simp)
 | x::xs,[],_,_,h=>absurd ((h x).mp ak) (by simp)
 | x::xs,y::ys,p,q,h=>by
  obtain⟨p1,p2⟩:=f8.mp p;obtain⟨q1,q2⟩:=f8.mp q;have e:x=y:=by
   rcases ap.mp ((h x).mp ak)with e|a
   .exact e
   .rcases ap.mp ((h y).mpr ak)with e|b
    .exact e.symm
    .exact absurd (q1 x a)<|as _ _<|p1 y b
  subst e;refine congrArg _<|aa3 as p2 q2 λz=>⟨λhz=>?_,λhz=>?_⟩
  .rcases ap.mp ((h z).mp (ao _ hz))with e|a
   .subst e;exact absurd (p1 z hz) λk=>as _ _ k k
   .exact a
  .rcases ap.mp ((h z).mpr (ao _ hz))with e|a
   .subst e;exact absurd (q1 z hz) λk=>as _ _ k k
   .exact a
end L3
namespace L3
open PySem PySem.Spec PyProof.Rows L2
section
variable{prog:aJ}{w:aL}{A:Around}{E:aA->aC->Prop}{s:aC}
theorem ad8{op:jX}(hop:op=.Lt\/op=.Gt){a b:Str}{t u:gR}{Q:aA->aC->Prop}(hh:A.handled=none)
  (h:∀h' tk v,(∀c o,s.heap.get? c=some o->h'.get? c=some o)->v=(if (if op=.Lt then decide (b.cps.toList<a.cps.toList)else decide (a.cps.toList<b.cps.toList))=true then aA.str b u else .str a t)->Q v {s with heap:=h',toks:=tk}) :
  aH (aI prog w) A.in1 (gW<|.ref s.heap.objs.size) (λit s₂=>∃I fp wr n P St bt,it=.ref I/\gQ prog w A.in1 I fp wr n P St/\St 0 s₂.heap/\(∀b∈fp,b<s₂.heap.objs.size)/\0<n/\CmpOf prog w A.in1 op P bt/\
   ∀v h' tk,P (eA bt<|n-1) v->(∀b o,b∉wr->s₂.heap.get? b=some o->h'.get? b=some o)->Q v {s₂ with heap:=h',toks:=tk}) E
   {s with heap:=s.heap.push {cls:=.type "tuple",data:=.seq #[.str a t,.str b u]}}:=by
 have hT:(s.heap.push {cls:=.type "tuple",data:=.seq #[.str a t,.str b u]}).IsTuple s.heap.objs.size #[.str a t,.str b u]:=(my _ (a0 _ rfl) rfl 0 rfl);refine dN hT ?_;have hsz:(s.heap.push {cls:=.type "tuple",data:=.seq #[.str a t,.str b u]}).objs.size=s.heap.objs.size+1:=jl ..;have two:∀(i:Nat)(v:aA),(#[.str a t,.str b u]:Array aA)[i]?=some v->v=.str a t\/v=.str b u:=λi v e=>by
  match i,e with
  | 0,e=>exact .inl (by simpa using e.symm)
  | 1,e=>exact .inr (by simpa using e.symm)
  | i+2,e=>simp at e
 refine⟨_,[_,s.heap.objs.size],[_],_,_,_,λi j=>match (#[aA.str a t,.str b u]:Array aA)[i]?,(#[aA.str a t,.str b u]:Array aA)[j]? with
   | some (.str x _),some (.str y _)=>if op=.Lt then decide (x.cps.toList<y.cps.toList)else decide (y.cps.toList<x.cps.toList)
   | _,_=>false,rfl,gQ.tuple (A:=A.in1) hh _ s.heap.objs.size (by rw[hsz];exact ca<|ir _) #[.str a t,.str b u],
  ⟨⟨_,a0 _ rfl,rfl,rfl⟩,hT.push _⟩,λc hc=>?_,by simp,?_,λv h' tk hP hk=>?_⟩
 .show c<((s.heap.push _).push _).objs.size;rw[jl,hsz];rcases ap.mp hc with rfl|hc
  .rw[hsz];exact ir _
  .rcases ap.mp hc with rfl|hc
   .exact Nat.lt_succ_of_lt<|ir _
   .cases hc
 .intro i j vi vj s Q E hi hj h;dsimp only at h;rw[hi,hj]at h;have AN:∀v,(v=aA.str a t\/v=.str b u)->∃x y,v=.str x y:=λv hv=>by rcases hv with e|e<;>exact(kl _ _ e)
  obtain⟨x,tx,rfl⟩:=AN vi<|two i vi hi;obtain⟨y,ty,rfl⟩:=AN vj<|two j vj hj;rcases hop with rfl|rfl
  .exact(PyProof.Rows.lt_str (by simpa using h):aH (aI prog w) _ (aN .Lt (.str x tx)<|.str y ty) Q E s)
  .exact richCompare_gives (op:=.Gt) (bV s _ tx) (bV s _ ty) F.slot_str_gt F.entry_str_gt (F.args_str_gt_2 _ _) (gives_str_gt x y tx ty) (λe=>nomatch e) (show Q (.bool<|decide<|y.cps.toList<x.cps.toList) s from by simpa using h)
 .have Fz:∀c o,s.heap.get? c=some o->h'.get? c=some o:=λc o e=>by
   refine hk c o (λhm=>?_)<|ai _<|ai _ e;rcases ap.mp hm with e1|hm
   .have:=bc e;rw[e1,hsz]at this;exact gx _<|Nat.lt_of_succ_lt this
   .cases hm
  refine h h' tk v Fz ?_;have qW:(#[.str a t,.str b u]:Array aA)[if (if op=.Lt then decide (b.cps.toList<a.cps.toList)else decide (a.cps.toList<b.cps.toList))=true then 1 else 0]?=some v:=hP;cases hb:(if op=.Lt then decide (b.cps.toList<a.cps.toList)else decide (a.cps.toList<b.cps.toList))with
  | true=>rw[hb,if_pos rfl]at qW;rw[if_pos rfl];exact(cg qW).symm
  | false=>rw[hb,if_neg aj]at qW;rw[if_neg aj];exact(cg qW).symm
end
section
variable{X:Cx}
def abk(hc:X.calm=true):qp X (.builtin "min") (λxs H Q=>∃i j:Nat,xs=[.str ⟨#[i]⟩,.str ⟨#[j]⟩]/\Q (.str ⟨#[kO i j]⟩) H):=by
 intro aE s σ H xs us Q I r h;obtain⟨i,j,rfl,q⟩:=h;obtain⟨u,w',rfl,⟨t,rfl⟩,⟨t',rfl⟩⟩:=Ca r;refine call_min_two<|ad8 (.inl rfl) (I.ok.hd hc) λh' tk v k hv=>?_;rw[if_pos rfl]at hv;by_cases eC:j<i
 .rw[if_pos (decide_eq_true (show[_]<[_]from jx.mpr<|.inl eC))]at hv;subst hv;rw[Nat.min_eq_right (cq eC)]at q;exact(kl (.str _) H ⟨I.kept k,⟨_,rfl⟩,q⟩)
 .rw[if_neg (λz=>by have z':=of_decide_eq_true z;rcases jx.mp (show[_]<[_]from z')with h|⟨_,h⟩;exact eC h;exact absurd h<|List.not_lt_nil _)]at hv;subst hv;rw[Nat.min_eq_left (Nat.le_of_not_lt eC)]at q;exact(kl (.str _) H ⟨I.kept k,⟨_,rfl⟩,q⟩)
def abw(hc:X.calm=true):qp X (.builtin "max") (λxs H Q=>∃i j:Nat,xs=[.str ⟨#[i]⟩,.str ⟨#[j]⟩]/\Q (.str ⟨#[yQ i j]⟩) H):=by
 intro aE s σ H xs us Q I r h;obtain⟨i,j,rfl,q⟩:=h;obtain⟨u,w',rfl,⟨t,rfl⟩,⟨t',rfl⟩⟩:=Ca r;refine call_max_two<|ad8 (.inr rfl) (I.ok.hd hc) λh' tk v k hv=>?_;rw[if_neg (show ¬(jX.Gt=jX.Lt) by decide)]at hv;by_cases eC:i<j
 .rw[if_pos (decide_eq_true (show[_]<[_]from jx.mpr<|.inl eC))]at hv;subst hv;rw[Nat.max_eq_right (cq eC)]at q;exact(kl (.str _) H ⟨I.kept k,⟨_,rfl⟩,q⟩)
 .rw[if_neg (λz=>by have z':=of_decide_eq_true z;rcases jx.mp (show[_]<[_]from z')with h|⟨_,h⟩;exact eC h;exact absurd h<|List.not_lt_nil _)]at hv;subst hv;rw[Nat.max_eq_left (Nat.le_of_not_lt eC)]at q;exact(kl (.str _) H ⟨I.kept k,⟨_,rfl⟩,q⟩)
end
noncomputable def tG(M:Mat)(r c:Nat):Z9:=.tuple [.int (r:Nat),.int (c:Nat),.str ⟨#[M.g r c]⟩]
noncomputable def yj(M:Mat):U Z9:=(cz<|M.h*M.w).map λi=>tG M (i/M.w)<|i % M.w
noncomputable def qw(M:Mat):U Str:=(cz M.h).map λr=>⟨(tw M r).toArray⟩
def ar8{h w r c:Nat}(hr:r<h)(hc:c<w):r*w+c<h*w:=by have:(r+1)*w<=h*w:=Nat.mul_le_mul_right w hr;rw[Nat.add_mul]at this;omega
def aor{w r c:Nat}(hc:c<w):(r*w+c)/w=r:=by rw[Nat.mul_comm,Nat.mul_add_div<|by omega,Nat.div_eq_of_lt hc,Nat.add_zero]
def anv{w r c:Nat}(hc:c<w):(r*w+c) % w=c:=by rw[Nat.mul_comm,Nat.mul_add_mod,ge hc]
def agv(M:Mat)(d:Z9):d∈yj M↔∃r c,r<M.h/\c<M.w/\d=tG M r c:=by
 unfold yj;rw[aw];constructor
 .rintro⟨i,hi,rfl⟩;have eZ:i<M.h*M.w:=by simpa using hi
  have hw:0<M.w:=by
   rcases Nat.eq_zero_or_pos M.w with e|e
   .rw[e,Nat.mul_zero]at eZ;omega
   .exact e
  exact(kl (i/M.w) (i % M.w) ⟨(Nat.div_lt_iff_lt_mul hw).mpr eZ,Nat.mod_lt _ hw,rfl⟩)
 .rintro⟨r,c,hr,hc,rfl⟩;exact⟨r*M.w+c,by simpa using ar8 hr hc,by rw[aor hc,anv hc]⟩
def ut(M:Mat):(qw M).length=M.h:=by unfold qw;simp
def aln{M:Mat}{r:Nat}(h:r<M.h):(qw M)[r]?=some ⟨(tw M r).toArray⟩:=by unfold qw;rw[a6,List.getElem?_range h];rfl
def zm(M:Mat)(r:Nat):(tw M r).length=M.w:=by unfold tw;simp
def akd{M:Mat}{r c:Nat}(h:c<M.w):(tw M r)[c]?=some (M.g r c):=by unfold tw;rw[a6,List.getElem?_range h];rfl
def ani{M:Mat}{z:Str}(h:z∈qw M):∃r,r<M.h/\z=⟨(tw M r).toArray⟩:=by unfold qw at h;obtain⟨r,hr,rfl⟩:=aw.mp h;exact⟨r,by simpa using hr,rfl⟩
end L3
namespace L2
open PySem PySem.Spec PyProof.Rows
def am8{P:aJ}{w:aL}{H:Hp}(h:Heap)(hb:aX<h.objs.size):ObjOk P w H (h.push {cls:=.type "dict",data:=.dict #[]}) h.objs.size (.dT []):=
 ⟨dv _,beq_eq_false_iff_ne.mpr<|Ne.symm<|ca hb,[],.nil,_,#[],0,a0 _ rfl,⟨rfl,rfl,rfl⟩,rfl,rfl,List.nodup_nil⟩
def ath:TE:=λ_ H Q=>∀p,H p=none->Q (.ref p) (upd H p<|.dT [])
section
variable{X:Cx}{pos:dE}
def anp:PE X (.Dict [] [] pos) ath:=λaE s σ H Q I h=>
 wpAny_Dict_empty ⟨.ref s.heap.objs.size,_,I.laid (a:=s.heap.objs.size) (o:=.dT []) (t':=s.toks) (λ_ _ q=>ai _ q) (aq _)<|am8 s.heap I.big,rfl,h _<|I.hok.fresh<|aq _⟩
end
end L2
namespace L3
open PySem PySem.Spec PyProof.Rows L2 Builtin.Str
theorem ad1:∀l:U (Str×gR),Vals ((l.map (·.1)).map V.str) (strValues l)
 | []=>.nil
 | p::l=>.cons ⟨_,rfl⟩<|ad1 l
theorem af0{c:Nat}:∀{a a' p p':U Nat},c∉a->c∉a'->a++c::p=a'++c::p'->a=a'/\p=p'
 | [],[],_,_,_,_,e=>⟨rfl,(List.cons.inj e).2⟩
 | [],x::a',_,_,_,h,e=>absurd (ap.mpr<|.inl (List.cons.inj e).1) h
 | x::a,[],_,_,h,_,e=>absurd (ap.mpr<|.inl (List.cons.inj e).1.symm) h
 | x::a,y::a',_,_,h,h',e=>by obtain⟨e1,e2⟩:=List.cons.inj e;obtain⟨r1,r2⟩:=af0 (λm=>h<|ao _ m) (λm=>h'<|ao _ m) e2;exact⟨by rw[e1,r1],r2⟩
def qz{c:Nat}{x y:Str}{r:U Str}:(de ⟨#[c]⟩ (x::y::r)).cps.toList=x.cps.toList++c::(de ⟨#[c]⟩ (y::r)).cps.toList:=by show(x.cps ++ #[c]++(de ⟨#[c]⟩ (y::r)).cps).toList=_;simp
def Co{x y:Str}(h:x.cps.toList=y.cps.toList):x=y:=by obtain⟨⟨a⟩⟩:=x;obtain⟨⟨b⟩⟩:=y;cases (show a=b from h);rfl
theorem af9{c:Nat}:∀{xs ys:U Str},xs≠[]->ys≠[]->(∀p∈xs,c∉p.cps.toList)->(∀p∈ys,c∉p.cps.toList)->de ⟨#[c]⟩ xs=de ⟨#[c]⟩ ys->xs=ys
 | [],_,h,_,_,_,_=>absurd rfl h
 | _,[],_,h,_,_,_=>absurd rfl h
 | [x],[y],_,_,_,_,e=>by have e':x=y:=e;rw[e']
 | [x],y::y2::r,_,_,h1,_,e=>by have e':=congrArg (λz:Str=>z.cps.toList) e;simp only[qz]at e';exact absurd (by rw[show x.cps.toList=_ from e'];simp) (h1 x ak)
 | x::x2::r,[y],_,_,_,h2,e=>by have e':=congrArg (λz:Str=>z.cps.toList) e;simp only[qz]at e';exact absurd (by rw[show y.cps.toList=_ from e'.symm];simp) (h2 y ak)
 | x::x2::r,y::y2::r2,_,_,h1,h2,e=>by have e':=congrArg (λz:Str=>z.cps.toList) e;simp only[qz]at e';obtain⟨a1,a2⟩:=af0 (h1 x ak) (h2 y ak) e';rw[Co a1,af9 (xs:=x2::r) (ys:=y2::r2) (by simp) (by simp) (λp hp=>h1 p<|ao _ hp) (λp hp=>h2 p<|ao _ hp)<|Co a2]
def vo{c:Nat}{xs:U Str}(h0:xs≠[])(h:∀p∈xs,c∉p.cps.toList):Txt.split (de ⟨#[c]⟩ xs) ⟨#[c]⟩=xs:=
 af9 (λe=>by have:=split_pos (de ⟨#[c]⟩ xs) ⟨#[c]⟩;rw[e]at this;simp at this) h0 (StrLaws.split_free _ c) h (StrLaws.join_split _ _)
section
variable{X:Cx}
def xu:MtR X "str.split" (λx vs H Q=>∃(z:Str)(c:Nat),x=.str z/\vs=[.str ⟨#[c]⟩]/\z.length+2<=aG/\
  ∀l,H l=none->Q (.ref l) (upd H l<|.lst<|(Txt.split z ⟨#[c]⟩).map V.str)):=by
 intro aE s σ H x vs v us Q I rx rv h;obtain⟨z,c,rfl,rfl,hz,q⟩:=h;obtain⟨t,rfl⟩:=rx;obtain⟨u,rfl,t2,rfl⟩:=qv rv;have hl:=split_le z ⟨#[c]⟩;have key:∀(l:U (Str×gR)) tk n,l.map (·.1)=Txt.split z ⟨#[c]⟩->EP X aE σ Q (.ref s.heap.objs.size) {s with heap:=s.heap.push {cls:=.type "list",data:=.seq (strValues l).toArray n},toks:=tk}:=λl tk n e=>by have hn:H s.heap.objs.size=none:=I.hok.fresh<|aq _;have hv:=ad1 l;rw[e]at hv;exact(kl (.ref s.heap.objs.size) _ ⟨I.laid (t':=tk) (o:=.lst<|(Txt.split z ⟨#[c]⟩).map V.str) (λb o h=>ai _ h) (aq _) ⟨by rw[ac];lia,(kl _ n ⟨hv,a0 _ rfl⟩)⟩,rfl,q _ hn⟩)
 by_cases h1:(decide (z.length<(⟨#[c]⟩:Str).length)||decide (strKind z<strKind ⟨#[c]⟩))=true
 .exact eM F.slot_str_split (bV _ _ _) F.entry_str_split (F.args_str_split_2 _ _) (meets_str_split_cannot_occur z _ t t2 h1)<|key [(z,t)] s.toks _<|by unfold Txt.split;rw[if_pos h1];rfl
 .have fQ:=Bool.eq_false_iff.mpr h1;by_cases hf:(occurrences z ⟨#[c]⟩ 0 z.length<|z.length+1).isEmpty=true
  .exact eM F.slot_str_split (bV _ _ _) F.entry_str_split (F.args_str_split_2 _ _) (meets_str_split_not_found z _ t t2 fQ rfl hf)<|key [(z,t)] s.toks _<|by unfold Txt.split;rw[if_neg h1,if_pos hf];rfl
  .have e:Txt.split z ⟨#[c]⟩=partsBetween z (occurrences z ⟨#[c]⟩ 0 z.length<|z.length+1) (⟨#[c]⟩:Str).length:=by unfold Txt.split;rw[if_neg h1,if_neg hf]
   refine eM F.slot_str_split (bV _ _ _) F.entry_str_split (F.args_str_split_2 _ _) (meets_str_split_sep z _ t t2 fQ rfl (Bool.eq_false_iff.mpr hf) (by lia)<|by rw[<-e];lia) ?_;refine(?_:wants _ _ _ {s with toks:=_,heap:=s.heap.push {cls:=.type "list",data:=.seq (strsFrom s.toks<|partsBetween z (occurrences z ⟨#[c]⟩ 0 z.length<|z.length+1) (⟨#[c]⟩:Str).length).toArray}});rw[strsFrom_eq];exact key (numbered s.toks _) _ _<|(numbered_texts _ _).trans e.symm
end
end L3
namespace L3
open PySem PySem.Spec PyProof.Rows L2
section
variable{X:Cx}
def y0:qp X (.type "int") (λxs H Q=>∃n:Int,xs=[.str (cX n)]/\0<=n/\n<10^10/\Q (.int n) H):=by intro aE s σ H xs us Q I r h;obtain⟨n,rfl,h0,h1,q⟩:=h;obtain⟨u,rfl,t,rfl⟩:=qv r;exact PySem.W.KIN.call_num h0 h1<|kl (.int n) H ⟨I.tok _,⟨_,rfl⟩,q⟩
end
noncomputable def Jel(K:au)(a:aF):It:=
 ⟨λi H=>∃xs x,SqL K H a xs/\xs[i]?=some x,λi H v H'=>∃p x,H p=none/\v=.ref p/\H'=upd H p (.tup [.int i,x])/\∀xs,SqL K H a xs->xs[i]?=some x,λi H=>∃xs,SqL K H a xs/\xs.length<=i⟩
def ahr{P:aJ}{w:aL}{K:au}{jB:U Expr}{x1}{pos:dE}(a e I:aF)(dG:e≠I) :
  rH P w K (.Tuple jB x1 pos) (Jel K a) [e,I] e (λi h=>(∃iC,eO h e I i iC)/\h.IsListIter I a i):=by
 refine ad5 (Jel K a) e I dG (λi h=>h.IsListIter I a i) (λi h st=>?_) (λi h h' st k=>?_) (λX hP hw hK i aE s σ H Iv st hg=>?_) λX hP hw hK i aE s σ H Iv st hg A' R E' hh q=>?_
 .obtain⟨o,ho,c,d⟩:=st;exact⟨o,ho,λv z=>by rw[d]at z;cases z⟩
 .obtain⟨o,ho,r⟩:=st;exact⟨o,k o ho,r⟩
 .subst hP hw hK;obtain⟨xs,x,hq,hx⟩:=hg;obtain⟨its,rv,p,hz⟩:=Iv.list hq;obtain⟨u,hu,ru⟩:=rv.get hx;refine⟨λu'=>u'=u,λu' hu'=>?_,λA' R E' q=>?_⟩
  .subst hu';exact⟨x,ru,s.heap.objs.size,x,Iv.hok.fresh<|aq _,rfl,rfl,λys hy=>by rw[Iv.list_inj hy hq];exact hx⟩
  .exact wpAny_nextOf_list_item st p.isList (x:=u) (by simpa using hu) λg gH sb=>q u g s.toks rfl gH sb
 .subst hP hw hK;obtain⟨xs,hq,hx⟩:=hg;obtain⟨its,rv,p,hz⟩:=Iv.list hq;have hl:=rv.length;exact wpAny_nextOf_list_end hh st p.isList (by simp;lia) q
section
variable{X:Cx}{jB:U Expr}{x1:Nat}{rV p pos:dE}{a:Expr}{ta:TA}
def ax2(K:au)(ta:TA):TI:=λσ H R=>ta σ H λvs H1=>∃a,vs=[.ref a]/\(∃xs,SqL K H1 a xs)/\R (Jel K a) H1
def atw(hg:Gl X "enumerate")(hm:X.mg "enumerate" = none)(ha:PA X [a] ta)(hs:oz a=true:=by rfl):PI X (.Tuple jB x1 rV) (.Call (.Name "enumerate" p) [a] [] pos) (ax2 X.K ta):=by
 intro aE s σ H R I h;refine Call_<|so I hg hm boot_enumerate<|en (thn (ha pos aE s σ H _ I h) λus s1 ⟨vs,H1,I1,r1,q1⟩=>?_) (m7 hs) rfl;obtain⟨b,e,⟨xs,hq⟩,q⟩:=q1;subst e;obtain⟨u,rfl,ru⟩:=qv r1;cases (show u=aA.ref b from ru);obtain⟨its,rv,pl,hz⟩:=I1.list hq;refine call_enumerate_list (l:=b) pl.isList λg he hi _ kp=>iI (s:={s1 with heap:=g}) he ?_;refine⟨s1.heap.objs.size+1,[s1.heap.objs.size+1,s1.heap.objs.size],_,_,H1,rfl,I1.kept (t':=s1.toks) kp,ahr b (s1.heap.objs.size+1) s1.heap.objs.size<|Nat.succ_ne_self _,⟨⟨_,he⟩,hi⟩,λc hc=>?_,q⟩;rcases ap.mp hc with z|z
 .subst z;exact I1.fpOk (by lia)<|I1.hok.fresh<|by lia
 .rw[ar.mp z];exact I1.fpOk (aq _)<|I1.hok.fresh<|aq _
end
def arc{K:au}{a:aF}{xs:U V}{g:TG}{tb:TS}{D:mI}{σ:L2.St}{H:Hp}(Pv:Nat->L2.St->Hp->Prop)(h0:Pv 0 σ H)(hl:∀i σ H,Pv i σ H->SqL K H a xs)
  (hs:∀i x p σ H,xs[i]?=some x->H p=none->Pv i σ H->g (.ref p) σ (upd H p<|.tup [.int (i:Nat),x]) λσ2 H2=>tb {D with nx:=Pv<|i+1,ct:=Pv<|i+1,bk:=D.nx} σ2 H2) (hd:∀σ H,Pv xs.length σ H->D.nx σ H) :
  ∃W:Nat->Nat->L2.St->Hp->Prop,(∃m,W 0 m σ H)/\∀i m σ H,W i m σ H->
   ((Jel K a).stop i H/\D.nx σ H)\/((Jel K a).go i H/\∃N:L2.St->Hp->Prop,(∀σ' H',N σ' H'->∃m',m'<m/\W (i+1) m' σ' H')/\∀v H',(Jel K a).yld i H v H'->g v σ H' λσ2 H2=>tb {D with nx:=N,ct:=N,bk:=D.nx} σ2 H2):=by
 refine ajq (Jel K a) xs.length Pv h0 (λi σ H hi p=>⟨xs,xs[i],hl i σ H p,by simp[hi]⟩) (λσ H p=>⟨xs,hl _ σ H p,aq _⟩) (λi v σ H H' hi p y=>?_) hd;obtain⟨b,x,hb,rfl,rfl,hx⟩:=y;exact hs i x b σ H (hx xs<|hl i σ H p) hb p
section
variable{X:Cx}
noncomputable def ax6:Option Int->Str
 | some i=>cX i
 | none=>"None"
theorem ah7:qp X (.type "str") (λxs H Q=>∃o:Option Int,xs=[match o with|some i=>V.int i|none=>.non]/\(∀i,o=some i->i.natAbs.log2<1920)/\Q (.str<|ax6 o) H):=by
 intro aE s σ H xs us Q I r h;obtain⟨o,rfl,hz,q⟩:=h;obtain⟨u,rfl,ru⟩:=qv r;cases o with
 | some i=>
  obtain⟨t,rfl⟩:=ru;exact PySem.P.str_of_int (hz i rfl) ⟨.str _,H,I.tok _,⟨_,rfl⟩,q⟩
 | none=>
  cases (show u=aA.none from ru);exact PySem.P.str_of_none ⟨.str _,H,I.tok _,⟨_,rfl⟩,q⟩
end
section
variable{prog:aJ}{w:aL}{A:Around}{E:aA->aC->Prop}
theorem aej{it t:aF}{items:Array aA}(dG:t≠it):∀(n i:Nat)(s:aC)(Q:U aA->aC->Prop),s.heap.IsListIter it t i->s.heap.IsList t items->i+n<=items.size->
  (∀h',h'.IsListIter it t (i+n)->br it s.heap h'->Q ((items.toList.drop i).take n) {s with heap:=h'})->aH (aI prog w) A (draw (.ref it) n) Q E s
 | 0,i,s,Q,eY,_,_,hQ=>by show aH _ _ (bQ []) Q E s;exact am (by simpa using hQ s.heap eY (br.refl ..))
 | n+1,i,s,Q,eY,ht,uQ,hQ=>by
  have bL:i<items.size:=by lia
  show aH _ _ (bA (.ref it) >>= _) Q E s;refine ab<|qG eY ht (x:=items[i]) (by simp[bL]) λh₁ wR AW=>?_;refine ab<|db<|aej dG n (i+1) _ _ wR (ht.extBut AW.extBut dG) (by lia) λh₂ FX hs₂=>am ?_;have hd:items.toList.drop i=items[i]::items.toList.drop (i+1):=by simp[List.drop_eq_getElem_cons,bL]
  have:=hQ h₂ (by rw[show i+(n+1)=i+1+n by lia];exact FX)<|AW.trans hs₂;rw[hd,List.take_succ_cons]at this;exact this
variable{s:aC}
def ze{t:aF}{items:Array aA}{Q:U aA->aC->Prop}(hh:A.handled=none)(ht:s.heap.IsList t items)
  (hQ:∀h',jw s.heap.objs.size s.heap h'->Q items.toList {s with heap:=h'}):aH (aI prog w) A (unpackItems (.ref t) items.size none) Q E s:=by
 have bL:t≠s.heap.objs.size:=by obtain⟨o,ho,_⟩:=ht;exact ca<|bc ho
 unfold unpackItems;refine ab ?_
 .unfold notIterableAtAll;refine ab<|cH ht.typeIs slot_list_iter.lookup ?_;refine am ?_;simp only[a9,if_false];refine ab<|db<|jc ht ?_;refine ab<|db<|aej bL items.size 0 _ _ ⟨_,a0 _ rfl,rfl,rfl⟩ (ht.at λo e=>ai _ e) (by lia) λh₁ wR AW=>?_;have aU:List.take items.size (List.drop 0 items.toList)=items.toList:=by
   rw[List.drop_zero];exact av<|by simp
  rw[aU];rw[if_neg (by simp)];have ht₁:h₁.IsList t items:=(ht.at λo e=>ai _ e:Heap.IsList (s.heap.push _) t items).extBut AW.extBut bL;refine ab<|db<|rR hh wR ht₁ (by simp) λh₂ he₂=>?_;simp only[Option.isSome_none,a9,if_false];refine am<|hQ h₂ λb o hb e=>he₂ b o hb<|AW.extBut b o hb<|ai _ e
end
def axq(K:au)(n:Nat)(t:TGs):TG:=λv σ H Q=>∃a xs,v=.ref a/\SqL K H a xs/\xs.length=n/\t xs σ H Q
section
variable{X:Cx}{pos:dE}
def ar2{es:U Expr}{k:Nat}{t:TGs}{n:Nat}(hc:X.calm=true)(h:PGs X es t)
  (hn:(bN es X.env).length=n:=by rfl) (bJ:(bN es X.env).findIdx? (·.1)=none:=by rfl):PG X (.Tuple es k pos) (axq X.K n t):=by
 intro aE s σ H v u Q I r hw;obtain⟨a,xs,e1,hq,hl,hw⟩:=hw;subst e1;cases r;obtain⟨its,rv,ht,hz⟩:=I.list hq;rw[assign_Tuple];refine ab<|eB ?_;unfold unpack;have e:(bN es X.env).length=its.toArray.size:=by simp[hn,<-hl,rv.length]
 rw[e,bJ];refine ab<|db<|ze (I.ok.hd hc) ht.isList λh' hx=>?_;have I1:Inv X aE σ H {s with heap:=h'}:=I.kept (t':=s.toks) λb o e=>hx b o (ca<|bc e) e;exact h aE _ σ H xs _ Q I1 (by simpa using rv) hw
end
section
variable{X:Cx}{N:U Str}{scope:cF}{z:CZ}
def asg{o e:Expr}{es:U Expr}{to:TE}{t:TA}{name:Str}{gB dC:dE}{T id:String}{r:V->U V->Hp->VK->Prop}(pa:PlainAttrs T)(slot:Slot T name id)(Fc:typeOf (.builtin id)=bQ (.type "method_descriptor"))(hm:MtR (mr X N scope z) id r)(ho:PE (mr X N scope z) o to)(ha:PA (mr X N scope z) (e::es) t)
  (pO:nV o name (mr X N scope z).env (bR o (mr X N scope z).env)=bR o (mr X N scope z).env:=by rfl)
  (wT:((bM dC<|aM (e::es) (mr X N scope z).env).all (λx=>!x.1)&&(mH dC<|fK [] (mr X N scope z).env).all (λx=>x.1.isSome)
   && decide ((e::es).length+([]:U gD).length+(if ([]:U gD).isEmpty then 0 else 1)<30))=true:=by rfl)
  (dO:(gB.endLine==dC.line)=true:=by rfl) (hs:aM (e::es) (mr X N scope z).env=(false,bR e (mr X N scope z).env)::aM es (mr X N scope z).env:=by rfl) (kT:(bM dC<|aM es (mr X N scope z).env).any (·.1)=false:=by rfl) :
  PE (mr X N scope z) (.Call (.Attribute o name gB) (e::es) [] dC) (tBM X.K T r to t):=sw (X:=mr X N scope z) pa slot Fc hm ho ha pO wT dO hs kT
end
end L3
namespace L3
open PySem PyProof.Rows L2
def aou{σ:L2.St}{H:Hp}{Q:Option Int->Hp->Prop}(h:Q none H):ak8 σ H Q:=h
def IY{s1 s2:TS}{D:mI}{σ:L2.St}{H:Hp}(R:L2.St->Hp->Prop)(h:∀σ' G',R σ' G'->s2 D σ' G')(h1:∀D':mI,(∀σ' G',R σ' G'->D'.nx σ' G')->D'.rt=D.rt->s1 D' σ H):aw2 s1 s2 D σ H:=h1 {D with nx:=s2 D} h rfl
end L3
namespace L3
open PySem PySem.Spec PyProof.Rows L2
def apy{D:aF}{i:Nat}{Pv:Nat->U V->Hp->Prop}{G:Hp}{ys:U V}{y:V}(hi:i<4000)(hD:G D=some (.lst ys))(hl:ys.length<=i)(h:Pv (i+1) (ys++[y]) (upd G D<|.lst<|ys++[y])):∃xs,G D=some (.lst xs)/\xs.length<aG/\Nx D i Pv (upd G D<|.lst<|xs++[y]):=
 ⟨ys,hD,by rw[gf];lia,ys++[y],j5,by rw[be,cv];lia,h⟩
noncomputable def mJ(p:Z9->Bool)(ds:U Z9)(xs:U V)(i:Nat):U V:=(((ds.zip xs).take i).filter λq=>p q.1).map (·.2)
def alw(p:Z9->Bool){ds:U Z9}{xs:U V}{i:Nat}{d:Z9}{x:V}(h1:ds[i]?=some d)(h2:xs[i]?=some x):mJ p ds xs (i+1)=mJ p ds xs i++if p d=true then[x]else[]:=by
 have h:(ds.zip xs)[i]?=some (d,x):=List.getElem?_zip_eq_some.mpr ⟨h1,h2⟩;unfold mJ;rw[jd,h,List.filter_append,a7]
 congr 1
 cases hp:p d<;>simp[hp]
theorem IX{H:Hp}(p:Z9->Bool):∀{ds:U Z9} {xs:U V},RepAll H ds xs->RepAll H (ds.filter p) (mJ p ds xs xs.length)
 | [],xs,h=>by cases (show xs=[]from h);exact rfl
 | d::ds,xs,⟨x,r,e,h1,h2⟩=>by
  subst e;have ih:=IX p h2;unfold mJ at ih⊢;rw[iu,ba,List.take_succ_cons,List.filter_cons,List.filter_cons];by_cases hp:p d=true
  .rw[if_pos hp,if_pos hp,dh];exact⟨x,_,rfl,h1,ih⟩
  .rw[if_neg hp,if_neg hp];exact ih
theorem au0{D:aF}{i:Nat}{p:Z9->Bool}{ds:U Z9}{xs:U V}{d:Z9}{x:V}{S:Hp->Prop}{G:Hp}(hi:i<4000)(hd:ds[i]?=some d)(hx:xs[i]?=some x)(hD:G D=some (.lst<|mJ p ds xs i))(hl:(mJ p ds xs i).length<=i)(hS:S G)(hN:S (upd G D<|.lst<|mJ p ds xs i++[x])){b:Bool}(hb:p d=b){te:VK->Prop}(hte:∀Q:VK,Q x G->te Q) :
  if b=true then te (λy H4=>∃ys,H4 D=some (.lst ys)/\ys.length<aG/\Nx D i (λj zs J=>S J/\zs=mJ p ds xs j) (upd H4 D<|.lst<|ys++[y]))else Nx D i (λj zs J=>S J/\zs=mJ p ds xs j) G:=by
 have e:=alw p hd hx;rw[hb]at e;cases b with
 | true=>
  rw[if_pos rfl];rw[if_pos rfl]at e;exact hte _ (apy hi hD hl ⟨hN,e.symm⟩)
 | false=>
  rw[if_neg aj];rw[if_neg aj,gz]at e;exact⟨_,hD,Nat.le_succ_of_le hl,hS,e.symm⟩
end L3
namespace L3
open PySem PyProof.Rows L2
def awe{P:U aA->Prop}(h:P []):∀us:U aA,us.length=0->P us:=λus e=>by cases us with|nil=>exact h|cons a t=>cases e
def DS{P:U aA->Prop}{n:Nat}(h:∀a (t:U aA),t.length=n->P (a::t)):∀us:U aA,us.length=n+1->P us:=λus e=>by cases us with|nil=>cases e|cons a t=>exact h a t<|Nat.succ.inj e
def atg{P:U aA->Prop}(h:∀a,P [a]):∀us:U aA,us.length=1->P us:=DS (n:=0) λa=>awe (P:=λt=>P (a::t))<|h a
def asx{P:U aA->Prop}(h:∀a b,P [a,b]):∀us:U aA,us.length=2->P us:=DS (n:=1) λa=>atg (P:=λt=>P (a::t))<|h a
def auw{P:U aA->Prop}(h:∀a b c,P [a,b,c]):∀us:U aA,us.length=3->P us:=DS (n:=2) λa=>asx (P:=λt=>P (a::t))<|h a
def av7{P:U aA->Prop}(h:∀a b c d,P [a,b,c,d]):∀us:U aA,us.length=4->P us:=DS (n:=3) λa=>auw (P:=λt=>P (a::t))<|h a
def Df(K:au)(n:Str)(st:aS):Prop:=∃f fd,bw K aK n=some (some<|.ref f)/\Fun K n n st f fd
def df_mk{K:au}{n:Str}{st:aS}{f:aF}{oc:aA}{od an:Option aF}{sl:Array (Option aA)}{kV dc pm cd ct:aA}(a:bw K aK n=some (some<|.ref f))
  (l:K.lookup f=some ⟨oc,od,.func<|jt n n (wk st) (vg st) (kb st) .none kV dc pm an cd ct,sl⟩) (c:PySem.W.codeIn K cd n=true) (k:PySem.W.keepIn K (.ref f)=true):Df K n st:=(kl f _ ⟨a,auf l c k⟩)
def DfX(P:aJ)(w:aL)(K:au)(mg:Str->Option aA)(base h:Heap):Prop:=P=P/\w=w/\base=base/\K.In h/\h.Ns aK mg
theorem Df.fx{P:aJ}{w:aL}{K:au}{h base:Heap}{mg:Str->Option aA}{n:Str}{st:aS}{d:Nat}{ps:U Str}{sp:Sp}(D:Df K n st)(Y:DfX P w K mg base h)(ok:∀{f fd},Fun K n n st f fd->p9 P w K mg base CX0 d f fd ps sp)
  (b:∀(kV hU pm:aA)(an:Option aF)(bE ct:aA)(us:U aA),us.length=ps.length->bindArgs (jt n n (wk st) (vg st) (kb st) .none kV hU pm an bE ct) ⟨us,[]⟩=bQ (ps.zip us):=by
   intro _ _ _ _ _ _;first
   | exact atg (λ_=>rfl)
   | exact asx (λ_ _=>rfl)
   | exact auw (λ_ _ _=>rfl)
   | exact av7 λ_ _ _ _=>rfl):Fn P w K mg base n d ps sp:=by
 obtain⟨f,fd,a,F⟩:=D;exact(kl f fd ⟨ok F,fz Y.2.2.2.1 Y.2.2.2.2 a,F.kp,F.binds b⟩)
end L3
namespace K10
open PySem PyProof.Rows L2 L3
noncomputable def top(i:Nat):aS:=PySem.Challenge.pw_coverpieces_k10_puzzles_read.main.body.getD i<|.Pass ⟨0,0,0,0⟩
noncomputable abbrev sPw:aS:=top 2
noncomputable abbrev sPs:aS:=top 3
noncomputable abbrev Hf:aS:=top 24
noncomputable abbrev Hb:aS:=top 25
noncomputable abbrev sPf:aS:=top 26
noncomputable abbrev GQ:aS:=top 27
noncomputable abbrev sPh:aS:=top 28
noncomputable abbrev sTa:aS:=top 29
noncomputable abbrev Ho:aS:=top 53
noncomputable abbrev Ip:aS:=top 54
noncomputable abbrev Hy:aS:=top 55
noncomputable abbrev Ik:aS:=top 56
noncomputable abbrev HU:aS:=top 57
noncomputable abbrev Ii:aS:=top 58
noncomputable abbrev Hq:aS:=top 59
noncomputable abbrev Ir:aS:=top 60
noncomputable abbrev Hw:aS:=top 61
noncomputable abbrev Ij:aS:=top 62
noncomputable abbrev GU:aS:=top 63
noncomputable abbrev Hd:aS:=top 4
noncomputable abbrev Hs:aS:=top 12
noncomputable abbrev G9:aS:=top 18
noncomputable abbrev Hv:aS:=top 19
noncomputable abbrev GW:aS:=top 20
noncomputable abbrev Hk:aS:=top 34
noncomputable abbrev HI:aS:=top 35
noncomputable abbrev GP:aS:=top 36
noncomputable abbrev GX:aS:=top 37
noncomputable abbrev Iy:aS:=top 38
noncomputable abbrev HY:aS:=top 39
noncomputable abbrev HR:aS:=top 40
noncomputable abbrev Ih:aS:=top 64
noncomputable abbrev Il:aS:=top 65
noncomputable abbrev IH:aS:=top 66
noncomputable abbrev IB:aS:=top 67
noncomputable abbrev HN:aS:=top 68
noncomputable abbrev Hu:aS:=top 69
noncomputable abbrev HL:aS:=top 70
noncomputable abbrev Hr:aS:=top 71
noncomputable abbrev Ig:aS:=top 72
noncomputable abbrev HG:aS:=top 73
noncomputable abbrev zT:aS:=top 76
noncomputable abbrev GM:aS:=top 5
noncomputable abbrev Iq:aS:=top 21
noncomputable abbrev Ht:aS:=top 45
noncomputable abbrev Ha:aS:=top 46
noncomputable abbrev He:aS:=top 47
noncomputable abbrev GZ:aS:=top 48
noncomputable abbrev HP:aS:=top 49
noncomputable abbrev sRk:aS:=top 50
noncomputable abbrev sRf:aS:=top 51
noncomputable abbrev HH:aS:=top 74
noncomputable abbrev G7:aS:=top 75
noncomputable def qy:U Str:=["len","min","max","sorted","tuple","list","isinstance","bool","range","str","int","all","any","abs","set","enumerate"]
section
variable{P:aJ}{w:aL}{K:au}{mg:Str->Option aA}{base:Heap}{f:aF}{fd:bX}
def aw4:(0:Int)<10^(Int.toNat 60):=by decide
def pwM:(0:Int)<2305843009213693951:=by decide
def an7(K:au):Sp:=λvs H Q _=>∃(a:aF)(ns:U Int)(k:Int),vs=[.ref a,.int k]/\SqL K H a (ns.map V.int)/\0<=k/\∀c:Int,Q (.int c) H
def atl:km ZW ZW (kb Ho):={}
def apm(B:∀x∈qy,mg x=none)(F:Fun K "_law_cell_at" "_law_cell_at" Ho f fd):p9 P w K mg base CX0 1 f fd ZW (an7 K):=by
 refine F.ok (k:=0) atl (λvs H Q E h=>?_) λbE A outer s H vs Q E hr h=>?_
 .obtain⟨a,ns,k,rfl,_⟩:=h;rfl
 obtain⟨a,ns,k,rfl,ha,hk,q⟩:=h;refine⟨_,(j3 (nv (mi Hz (pv 1) (kq kj rfl (B "len"<|by decide) bb<|j8 (pv 0) jz)<|l4 _) (j4<|ke<|m8 Ad (kr m9 (pv 0) (pv 1) λ_ _=>rfl)<|m8 aow j2 j2) ku)
  (j4<|ke j2)),?_⟩
 refine(o7 _ rfl _ rfl a _ rfl (.inl ha) _<|my _ rfl rfl _ ⟨rfl,?_⟩);refine oy (λc=>?_) λc=>?_
 .have c':k<(((ns.map V.int).length:Nat):Int):=of_decide_eq_true c;rw[ac]at c';obtain⟨j,rfl⟩:=b7 hk;have hj:j<ns.length:=by lia
  have hv:atI (ns.map V.int) (j:Int)=some (.int ns[j]):=mm (by rw[a6,aa hj];rfl);refine(mw _ rfl _ rfl a _ _<|xg _ rfl rfl ha hv _ _ ⟨rfl,rfl,⟨by decide,by decide,by decide⟩,(kl _ _ ⟨rfl,rfl,aw4,q _⟩)⟩)
 .exact q _
def aje:Sp:=λvs H Q _=>∃c k:Int,vs=[.int c,.int k]/\∀p n,H p=none->Q (.ref p) (upd H p<|.lst [.int n])
def aqj:km ZV ZV (kb Ip):={}
def am3(F:Fun K "_law_state" "_law_state" Ip f fd):p9 P w K mg base CX0 1 f fd ZV aje:=by
 refine F.ok (k:=0) aqj (λvs H Q E h=>?_) λbE A outer s H vs Q E hr h=>?_
 .obtain⟨c,k,rfl,_⟩:=h;rfl
 obtain⟨c,k,rfl,q⟩:=h;refine⟨_,(j4<|ke<|ou<|j8 (m8 Ad (m8 o5 (m8 o5 (m8 Ci (m8 Ad (pv 0)<|m8 aow j2 j2) j2)<|m8 Ci j2<|pv 1) j2) j2) jz),?_⟩;refine⟨_,rfl,_,_,rfl,rfl,⟨by decide,by decide,by decide⟩,_,_,rfl,rfl,aw4,_,_,rfl,rfl,.inr ⟨by decide,by decide⟩,_,rfl,_,_,rfl,rfl,.inl ⟨by decide,by decide⟩,_,_,rfl,rfl,_,_,rfl,rfl,_,_,rfl,rfl,pwM,
  sZ1,λp hp=>q p _ hp⟩
def StL(xs:U V):Prop:=∃n:Int,xs=[.int n]
def an2:Sp:=λvs H Q _=>∃(st:aF)(n:U V)(m:Int),vs=[.ref st,.int m]/\H st=some (.lst n)/\StL n/\0<m/\m<=1000/\∀(n':U V)(i:Int),StL n'->0<=i->i<m->Q (.int i) (upd H st<|.lst n')
def auq:km ZU ZU (kb Hy):={}
def ap2(F:Fun K "_law_next" "_law_next" Hy f fd):p9 P w K mg base CX0 1 f fd ZU an2:=by
 refine F.ok (k:=0) auq (λvs H Q E h=>?_) λbE A outer s H vs Q E hr h=>?_
 .obtain⟨st,n,m,rfl,_⟩:=h;rfl
 obtain⟨st,sx,m,rfl,bJ,⟨n,rfl⟩,hm,FQ,q⟩:=h;refine⟨_,(j3 (Ac (m8 Ad (m8 o5 (m8 Ci (kr m9 (pv 0) j2 λ_ _=>rfl) j2) j2) j2)<|ary (pv 0) j2 ans)
  (j4<|ke<|m8 Ad (m8 arh (kr m9 (pv 0) j2 λ_ _=>rfl) j2)<|pv 1)),?_⟩
 refine(j1 _ rfl st _ _ _ ⟨rfl,rfl,SqL.of bJ,rfl,(alh _ _ rfl rfl (.inr ⟨by decide,by decide⟩) _ _ ⟨rfl,rfl,(kl _ _ ⟨rfl,rfl,pwM,?_⟩)⟩)⟩);refine(j1 _ rfl st _ _ 0 ⟨rfl,rfl,bJ,rfl,?_⟩);refine(j1 _ rfl st _ _ _ ⟨rfl,rfl,SqL.of j5,rfl,(kl _ _ ⟨rfl,rfl,⟨by decide,by decide⟩,(m6 _ rfl _ _ ⟨rfl,rfl,hm,?_⟩)⟩)⟩);exact q _ _ ⟨_,rfl⟩ (Int.emod_nonneg _<|by lia)<|Int.emod_lt_of_pos _ hm
noncomputable abbrev xp(P:aJ)(w:aL)(K:au)(mg:Str->Option aA)(base:Heap):Prop:=Fn P w K mg base "_law_next" 1 ZU an2
def DL(x:Str):Prop:=0<x.length/\x.length<=26/\∀c∈x.cps.toList,65<=c/\c<=90
def aij:Sp:=λvs H Q _=>∃(st:aF)(n:U V),vs=[.ref st]/\H st=some (.lst n)/\StL n/\∀(x:Str)(H':Hp)(n':U V),DL x->Ex [st] H H'->H' st=some (.lst n')->StL n'->Q (.str x) H'
def ao2:km Z4 Z4 (kb Ik):={}
def xL{α:Type}{xs:List α}{i:Int}(h0:0<=i)(h1:i<xs.length):∃x,atI xs i=some x/\x∈xs:=by
 obtain⟨j,rfl⟩:=b7 h0;have hj:j<xs.length:=by lia
 exact⟨xs[j],mm<|aa hj,dq hj⟩
def sgL{z:Str}(h:0<z.length/\z.length<=26/\z.cps.toList.all (λc=>decide (65<=c)&&decide (c<=90))=true):DL z:=⟨h.1,h.2.1,λc hc=>by simpa using bh.mp h.2.2 c hc⟩
def amv(aZ:xp P w K mg base)(F:Fun K "_law_signs" "_law_signs" Ik f fd):p9 P w K mg base CX0 2 f fd Z4 aij:=by
 refine F.ok (k:=1) ao2 (λvs H Q E h=>?_) λbE A outer s H vs Q E hr h=>?_
 .obtain⟨st,n,rfl,_⟩:=h;rfl
 obtain⟨st,n,rfl,bJ,hn,q⟩:=h;refine⟨_,(j4<|ke<|kr m9 (ou<|j8 lv<|j8 lv<|j8 lv<|j8 lv jz) (k8 aZ hr (by decide) rfl<|j8 (pv 0)<|j8 j2 jz) λ_ _=>rfl),?_⟩;refine⟨sZ4,λp hp=>?_⟩;have dG:p≠st:=λe=>by rw[e,bJ]at hp;cases hp
 refine(nk _ rfl st n 4 ⟨rfl,by rw[kg (Ne.symm dG)];exact bJ,hn,by decide,by decide,λn' i fE h0 h4=>?_⟩);obtain⟨x,hx,hm⟩:=xL (α:=V) (xs:=[V.str "ABCDEFGHIJKLMNOPQRSTUVWXYZ",V.str "AB",V.str "A",V.str "QZ"]) h0 h4;have hs:∃z,x=.str z/\DL z:=by simp only[ap,bz,or_false]at hm;rcases hm with rfl|rfl|rfl|rfl<;>exact⟨_,rfl,sgL<|by decide +kernel⟩
 obtain⟨z,rfl,hz⟩:=hs;refine(li p _ i _ ⟨rfl,rfl,SqL.of<|by rw[kg dG];exact j5,hx,?_⟩);exact q z _ n' hz ((Ex.fresh hp).trans (Ex.upd<|by simp)) j5 fE
noncomputable def cl(d:Z9):Cl:=(v7 d,wg d)
def qo{H:Hp}{cs:U Z9}{xs:U V}{i:Nat}{v:V}(h:Cells cs)(r:RepAll H cs xs)(e:xs[i]?=some v):∃(a:aF)(p q:Int),v=.ref a/\H a=some (.tup [.int p,.int q])/\cs[i]?=some (.tuple [.int p,.int q]):=by obtain⟨d,e1,e2⟩:=r.at e;obtain⟨p,q,rfl⟩:=h d<|ah e1;obtain⟨a,e3,e4⟩:=am0 e2;exact(lq a p q ⟨e3,e4,e1⟩)
def aj4:Sp:=λvs H Q _=>∃(st:aF)(n:U V)(m:Int),vs=[.ref st,.int m]/\H st=some (.lst n)/\StL n/\0<m/\m<=100/\
 ∀(r:aF)(H':Hp)(n':U V)(xs:U V)(cs:U Z9),H r=none->Ex [st] H H'->H' st=some (.lst n')->StL n'->H' r=some (.lst xs)->RepAll H' cs xs->Cells cs->Conn (cs.map cl)->(cs.map cl).Nodup->0<cs.length->(cs.length:Int)<=m->Q (.ref r) H'
def scGrown:km ["_law_state_here","_law_most","_law_cells","_law_k","_law_row","_law_column","_law_down","_law_right"] ZY (kb HU):={}
def ama(B:∀x∈qy,mg x=none)(aZ:xp P w K mg base)(F:Fun K "_law_grown" "_law_grown" HU f fd):p9 P w K mg base CX0 2 f fd ZY aj4:=by
 refine F.ok (k:=1) scGrown (λvs H Q E h=>?_) λbE A outer s H vs Q E hr h=>?_
 .obtain⟨st,n,m,rfl,_⟩:=h;rfl
 obtain⟨st,n,m,rfl,bJ,hn0,Bl,FQ,q⟩:=h;have hu:=hr.units;refine⟨_,(j3 (ma (i:=2) scGrown.nd rfl (Or.inl rfl)<|ou<|j8 (on<|j8 j2<|j8 j2 jz) jz)
  (j3 (qt cx rfl (rQ rfl (B "range"<|by decide)<|j8 (k8 aZ hr (by decide) rfl<|j8 (pv 0)<|j8 (pv 1) jz) jz) (j9 (i:=3) scGrown.nd rfl<|Or.inl rfl) (j3 (Ac (kr m9 (pv 2) (k8 aZ hr (by decide) rfl<|j8 (pv 0)<|j8 (kq kj rfl (B "len"<|by decide) bb<|j8 (pv 2) jz) jz) λ_ _=>rfl)<|wa (n:=2) rfl<|k7 (j9 (i:=4) scGrown.nd rfl<|Or.inl rfl)<|k7 (j9 (i:=5) scGrown.nd rfl<|Or.inl rfl) qm)
  (j3 (Ac (kr m9 (ou<|j8 (on<|j8 j2<|j8 j2 jz)<|j8 (on<|j8 j2<|j8 j2 jz)<|j8 (on<|j8 j2<|j8 (auh an9 j2) jz)<|j8 (on<|j8 (auh an9 j2)<|j8 j2 jz) jz) (k8 aZ hr (by decide) rfl<|j8 (pv 0)<|j8 j2 jz) λ_ _=>rfl)<|wa (n:=2) rfl<|k7 (j9 (i:=6) scGrown.nd rfl<|Or.inl rfl)<|k7 (j9 (i:=7) scGrown.nd rfl<|Or.inl rfl) qm)
  (j4<|nv (mi (vc hu) (on<|j8 (m8 o5 (pv 4)<|pv 6)<|j8 (m8 o5 (pv 5)<|pv 7) jz) (pv 2) rfl) (j4<|uo<|sw fc eu e8 pk (pv 2)<|j8 (on<|j8 (m8 o5 (pv 4)<|pv 6)<|j8 (m8 o5 (pv 5)<|pv 7) jz) jz) ku))))
  (j4<|ke<|pv 2))),?_⟩
 refine⟨sZ2,λp1 wG=>⟨sZ1,λp2 yW=>?_⟩⟩;obtain⟨Fy,wF⟩:=qh yW;have n1:st≠p1:=l7 bJ wG;have n2:st≠p2:=l7 bJ wF;have Ff:upd (upd H p1<|.tup [.int 0,.int 0]) p2 (.lst [.ref p1]) st=some (.lst n):=by rw[kg n2,kg n1];exact bJ
 refine(mw _ rfl _ rfl st n m ⟨rfl,Ff,hn0,Bl,by lia,λn' j kA hj0 hj1=>⟨j,rfl,by lia,by lia,?_⟩⟩);refine qq (n:=j.toNat) (lo:=0) (λi σ' H'=>∃(x3 x4 x5 x6 x7:Option V)(n':U V)(xs:U V)(cs:U Z9),σ'=[some (.ref st),some<|.int m,some<|.ref p2,x3,x4,x5,x6,x7]/\Ex [st] H H'/\H' st=some (.lst n')/\StL n'/\H' p2=some (.lst xs)/\RepAll H' cs xs/\Cells cs/\Conn (cs.map cl)/\(cs.map cl).Nodup/\
  0<cs.length/\cs.length<=i+1) ?_ (λi σ' H' hi h=>?_) λσ' H' h=>?_
 .have e0:Ex [st] H (upd (upd H p1<|.tup [.int 0,.int 0]) p2<|.lst [.ref p1]):=(Ex.fresh wG).trans (Ex.fresh yW);have c0:upd (upd (upd H p1<|.tup [.int 0,.int 0]) p2<|.lst [.ref p1]) st (.lst n') p1=some (.tup [.int 0,.int 0]):=by
   rw[kg (Ne.symm n1),kg<|Ne.symm Fy];exact j5
  refine(me none none none none none<|lq n' ([.ref p1]) ([.tuple [.int 0,.int 0]]) ⟨rfl,e0.trans<|Ex.upd<|by simp,j5,kA,by rw[kg (Ne.symm n2)];exact j5,(kl _ _ ⟨rfl,o8 c0,rfl⟩),λd hd=>?_,Conn.one _,by simp,by simp,by simp⟩);rw[ar.mp hd];exact(kl 0 0 rfl)
 .obtain⟨x3,x4,x5,x6,x7,EU,xs,cs,rfl,dM,kR,wK,hp,dJ,fF,mW,fY,dW,aR⟩:=h;have hxl:=dJ.length;refine(vy _ rfl _ rfl _ rfl p2 xs ⟨rfl,.inl<|SqL.of hp,(lq st EU _ ⟨rfl,kR,wK,by lia,by lia,λvZ i2 FJ Dz h21=>?_⟩)⟩);have pI:i2.toNat<xs.length:=by lia
  have e2:i2=((i2.toNat:Nat):Int):=by lia
  obtain⟨b,r,c,hv,hb,dZ⟩:=qo fF dJ<|aa pI;have mY:atI xs i2=some (.ref b):=by rw[e2];exact mm<|by rw[aa pI,hv]
  have nb:b≠st:=HJ hb kR (by intro z;cases z);refine(li p2 xs i2 _ ⟨rfl,rfl,SqL.of<|by rw[kg (Ne.symm n2)];exact hp,mY,(nw b _ rfl (SqT.of<|by rw[kg nb];exact hb) rfl _ _ rfl _ ⟨_,rfl,rfl,?_⟩)⟩);have exA:Ex [st] H (upd H' st<|.lst vZ):=dM.trans (Ex.upd<|by simp);have yI:upd H' st (.lst vZ) st=some (.lst vZ):=j5;have pA:upd H' st (.lst vZ) p2=some (.lst xs):=by rw[kg (Ne.symm n2)];exact hp
  have rA:RepAll (upd H' st<|.lst vZ) cs xs:=dJ.tk (Tk.lst kR) fF.imm;generalize upd H' st (.lst vZ)=HA at *;refine⟨sZ2,λq1 wE=>⟨sZ2,λq2 yU=>?_⟩⟩;refine⟨_,rfl,sZ2,λq3 Dd=>?_⟩;refine⟨_,rfl,sZ2,λq4 yT=>⟨sZ4,λq5 A6=>?_⟩⟩;have a2:=qh yU;have a3:=qh Dd;have GK:=qh a3.2;have a4:=qh yT;have b4:=qh a4.2;have c4:=qh b4.2;have a5:=qh A6;have b5:=qh a5.2;have c5:=qh b5.2;have d5:=qh c5.2;have same:Same HA (upd (upd (upd (upd (upd HA q1<|.tup [.int 0,.int 1]) q2<|.tup [.int 1,.int 0]) q3<|.tup [.int 0,.int<|-1]) q4<|.tup [.int (-1),.int 0]) q5<|.lst [.ref q1,.ref q2,.ref q3,.ref q4]):=
   ((((Same.fresh _ wE).trans (Same.fresh _ yU)).trans (Same.fresh _ Dd)).trans (Same.fresh _ yT)).trans (Same.fresh _ A6)
  have Gp:∀v∈[V.ref q1,.ref q2,.ref q3,.ref q4],∃(b:aF)(d e:Int),((d=0/\(e=1\/e = -1))\/(e=0/\(d=1\/d = -1)))/\v=.ref b/\b≠st/\(upd (upd (upd (upd (upd HA q1<|.tup [.int 0,.int 1]) q2<|.tup [.int 1,.int 0]) q3<|.tup [.int 0,.int<|-1]) q4<|.tup [.int (-1),.int 0]) q5<|.lst [.ref q1,.ref q2,.ref q3,.ref q4]) b=some (.tup [.int d,.int e]):=by
   intro v hv;have m1:q1≠st:=λz=>by rw[z,yI]at wE;cases wE
   have m2:q2≠st:=λz=>by rw[z,yI]at a2;cases a2.2
   have m3:q3≠st:=λz=>by rw[z,yI]at GK;cases GK.2
   have m4:q4≠st:=λz=>by rw[z,yI]at c4;cases c4.2
   rcases ap.mp hv with rfl|hv
   .exact(lq q1 0 1 ⟨by lia,rfl,m1,by rw[kg (Ne.symm d5.1),kg<|Ne.symm c4.1,kg<|Ne.symm GK.1,kg<|Ne.symm a2.1];exact j5⟩)
   rcases ap.mp hv with rfl|hv
   .exact(lq q2 1 0 ⟨by lia,rfl,m2,by rw[kg (Ne.symm c5.1),kg<|Ne.symm b4.1,kg<|Ne.symm a3.1];exact j5⟩)
   rcases ap.mp hv with rfl|hv
   .exact(lq q3 0 (-1) ⟨by lia,rfl,m3,by rw[kg (Ne.symm b5.1),kg<|Ne.symm a4.1];exact j5⟩)
   rcases ap.mp hv with rfl|hv
   .exact(lq q4 (-1) 0 ⟨by lia,rfl,m4,by rw[kg (Ne.symm a5.1)];exact j5⟩)
   cases hv
  have l5:(upd (upd (upd (upd (upd HA q1<|.tup [.int 0,.int 1]) q2<|.tup [.int 1,.int 0]) q3<|.tup [.int 0,.int<|-1]) q4<|.tup [.int (-1),.int 0]) q5<|.lst [.ref q1,.ref q2,.ref q3,.ref q4]) q5=some (.lst [.ref q1,.ref q2,.ref q3,.ref q4]):=j5;have exB:=exA.trans<|Ex.of_same same;have stB:=same _ _ yI;have pB:=same _ _ pA;have rB:=rA.same same;have n5:q5≠st:=λz=>by rw[z,yI]at d5;cases d5.2
  generalize (upd (upd (upd (upd (upd HA q1<|.tup [.int 0,.int 1]) q2<|.tup [.int 1,.int 0]) q3<|.tup [.int 0,.int<|-1]) q4<|.tup [.int (-1),.int 0]) q5<|.lst [.ref q1,.ref q2,.ref q3,.ref q4])=HB at *;refine(nk _ rfl st vZ 4 ⟨rfl,stB,FJ,by decide,by decide,λn3 i3 kW Dy h31=>?_⟩);obtain⟨v,F9,hm⟩:=xL (α:=V) (xs:=[V.ref q1,.ref q2,.ref q3,.ref q4]) Dy h31;obtain⟨b3,d,e,hde,rfl,m3,wY⟩:=Gp v hm;have exC:Ex [st] H (upd HB st<|.lst n3):=exB.trans (Ex.upd<|by simp);have stC:upd HB st (.lst n3) st=some (.lst n3):=j5;have pC:upd HB st (.lst n3) p2=some (.lst xs):=by rw[kg (Ne.symm n2)];exact pB
  have rC:RepAll (upd HB st<|.lst n3) cs xs:=rB.tk (Tk.lst stB) fF.imm;have bC:upd HB st (.lst n3) b3=some (.tup [.int d,.int e]):=by rw[kg m3];exact wY
  have l5C:upd HB st (.lst n3) q5=some (.lst [.ref q1,.ref q2,.ref q3,.ref q4]):=by rw[kg n5];exact l5
  generalize upd HB st (.lst n3)=HC at *;refine(li q5 _ i3 _ ⟨rfl,rfl,SqL.of l5C,F9,(nw b3 _ rfl (SqT.of bC) rfl _ _ rfl _ ⟨_,rfl,rfl,?_⟩)⟩);refine(o7 _ rfl _ rfl _ _ rfl rfl _ ⟨rfl,(m6 _ rfl _ _ ⟨rfl,rfl,sZ2,λt1 Fe=>?_⟩)⟩);have yH:Same HC (upd HC t1<|.tup [.int (r+d),.int<|c+e]):=Same.fresh _ Fe;refine(j1 _ rfl (.tuple [.int (r+d),.int<|c+e]) p2 xs cs ⟨o8 j5,rfl,.inl<|yH _ _ pC,rC.same yH,(by simp[cy,ay]),_,rfl,?_⟩);have exD:=exC.trans<|Ex.of_same yH;have stD:=yH _ _ stC;have pD:=yH _ _ pC;have rD:=rC.same yH;generalize upd HC t1 (.tup [.int (r+d),.int<|c+e])=HD at *;refine oy (λBe=>?_) λ_=>?_
  .refine(my _ rfl (.inl ⟨rfl,_,SqL.of pD⟩) _ ⟨rfl,(mf _ rfl _ _ rfl rfl _ ⟨rfl,(m6 _ rfl _ _ ⟨rfl,rfl,sZ2,λt2 Fd=>?_⟩)⟩)⟩);have CQ:Same HD (upd HD t2<|.tup [.int (r+d),.int<|c+e]):=Same.fresh _ Fd;have t2c:upd HD t2 (.tup [.int (r+d),.int<|c+e]) t2=some (.tup [.int (r+d),.int<|c+e]):=j5;have exE:=exD.trans<|Ex.of_same CQ;have stE:=CQ _ _ stD;have pE:=CQ _ _ pD;have rE:=rD.same CQ;generalize upd HD t2 (.tup [.int (r+d),.int<|c+e])=HE at *;refine(lq p2 xs (.ref t2) ⟨rfl,rfl,pE,lc<|by lia,?_⟩);have BA:Cells (cs++[.tuple [.int (r+d),.int<|c+e]]):=λz hz=>by
    rcases bn.mp hz with h|h
    .exact fF z h
    .rw[ar.mp h];exact(kl _ _ rfl)
   refine(me _ _ _ _ _<|lq n3 (xs++[.ref t2]) (cs++[.tuple [.int (r+d),.int<|c+e]]) ⟨rfl,?_,by rw[kg n2];exact stE,kW,j5,((rE.snoc<|o8 t2c).tk (Tk.lst pE) BA.imm),BA,?_,?_,by simp,by simp;lia⟩)
   .exact exE.new wF
   .rw[a7];refine mW.snoc (a:=(r,c)) ?_ ?_
    .exact aw.mpr ⟨_,ah dZ,rfl⟩
    .show Tch (r,c) (r+d,c+e);unfold Tch;simp only;lia
   .rw[a7,List.nodup_append];refine⟨fY,by simp,λx hx y hy=>?_⟩;have ey:y=(r+d,c+e):=ar.mp hy;intro Gr;rw[Gr,ey]at hx;obtain⟨z,hz,ez⟩:=aw.mp hx;obtain⟨r0,c0,rfl⟩:=fF z hz;have ez':(r0,c0)=(r+d,c+e):=ez;injection ez' with e1 e2
    rw[if_pos rfl,Bool.not_eq_true',List.any_eq_false]at Be;exact Be _ hz<|by rw[e1,e2];exact SeqAt.eqv_refl _ (o8 t2c).lay
  .exact(me _ _ _ _ _<|lq n3 xs cs ⟨rfl,exD,stD,kW,pD,rD,fF,mW,fY,dW,by lia⟩)
 .obtain⟨x3,x4,x5,x6,x7,EU,xs,cs,rfl,dM,kR,wK,hp,dJ,fF,mW,fY,dW,aR⟩:=h;exact⟨_,rfl,q p2 H' EU xs cs wF dM kR wK hp dJ fF mW fY dW<|by lia⟩
def SgD(d:Z9):Prop:=∃(r c:Int)(k:Nat),d=.tuple [.int r,.int c,.str ⟨#[k]⟩]/\65<=k/\k<=90
def agd{ds:U Z9}(h:∀d∈ds,SgD d):Spots ds:=λd hd=>by obtain⟨r,c,k,e,_⟩:=h d hd;exact(lq r c _ e)
def amn{d:Z9}(a b:Int)(h:SgD d):SgD (sj a b d):=by obtain⟨r,c,k,rfl,h1,h2⟩:=h;exact(lq (r-a) (c-b) k ⟨rfl,h1,h2⟩)
def aob:Sp:=λvs H Q _=>∃a xs ds,vs=[.ref a]/\H a=some (.lst xs)/\RepAll H ds xs/\Spots ds/\0<ds.length/\ds.length<64/\∀r H',Same H H'->Rep H' (.tuple<|qd<|og ds) (.ref r)->Q (.ref r) H'
def afa{K:au}{a:aF}{xs:U V}{ds:U Z9}{σ:L2.St}{H H0:Hp}{Q:VK}{t l:Int}(hσ:σ[0]?=some (some<|.ref a))(h1:σ[1]?=some (some<|.int t))(h2:σ[2]?=some (some<|.int l))
  (ha:H a=some (.lst xs)) (hr:RepAll H ds xs) (hs:Spots ds) (hl:ds.length<64) (ht:t=x9 (ds.map v7)) (hll:l=x9 (ds.map wg)) (h0:Same H0 H)
  (q:∀r H',Same H0 H'->Rep H' (.tuple<|qd<|og ds) (.ref r)->Q (.ref r) H') :
  rL (B9 K<|yb 0) [none,none,none,some 1,some 2] (zP K 3<|yg (rn 0)<|yg (rn 1)<|yg (rn 2) B3) sq
   (B2<|ye (tOp (rI0 λi j=>.int<|i-j) (yb 0)<|yb 3)<|ye (tOp (rI0 λi j=>.int<|i-j) (yb 1)<|yb 4)<|ye (yb 2) zS) σ H λx H1=>∃p xs ds ks,[x]=[.ref p]/\H1 p=some (.lst xs)/\RepAll H1 ds xs/\Rows ks ds/\ds.length<64/\
  ∀l ys,H1 l=none->RepAll (upd H1 l<|.lst ys) (qd ds) ys->∃p Ai,[V.ref l]=[.ref p]/\((SqL K (upd H1 l<|.lst ys) p Ai/\∀l',upd H1 l (.lst ys) l'=none->Q (.ref l') (upd (upd H1 l<|.lst ys) l'<|.tup Ai))\/(SqT K (upd H1 l<|.lst ys) p Ai/\Q (.ref p) (upd H1 l<|.lst ys))):=by
 refine ah0 hσ h1 h2 ha hr hs hl λD ys H' A1 hD dJ=>?_;refine(li D ys _ ([true,false]) ⟨rfl,hD,dJ,abi hs t l,by rw[ac];exact hl,λl1 zs iL hz=>?_⟩);refine(kl l1 zs ⟨rfl,.inl ⟨SqL.of j5,λl2 gL=>?_⟩⟩);have s1:Same H' (upd H' l1<|.lst zs):=Same.fresh _ iL;have s2:Same (upd H' l1<|.lst zs) (upd (upd H' l1<|.lst zs) l2<|.tup zs):=Same.fresh _ gL;refine q l2 _ (((h0.trans A1).trans s1).trans s2)<|kl l2 zs ⟨rfl,j5,?_⟩;have e:ds.map (sj t l)=og ds:=by unfold og;rw[ht,hll]
 rw[e]at hz;exact hz.same s2
def scShift:km ["_law_spots","_law_top","_law_left"] ["_law_spots"] (kb Ii):={}
def al6(B:∀x∈qy,mg x=none)(F:Fun K "_law_shifted" "_law_shifted" Ii f fd):p9 P w K mg base CX0 1 f fd ["_law_spots"] aob:=by
 refine F.ok (k:=0) scShift (λvs H Q E h=>?_) λbE A outer s H vs Q E hr h=>?_
 .obtain⟨a,xs,ds,rfl,_⟩:=h;rfl
 obtain⟨a,xs,ds,rfl,ha,dJ,hs,dW,nA,q⟩:=h;refine⟨_,(j3 (ma (i:=1) scShift.nd rfl (Or.inr rfl)<|kq (wy rfl) rfl (B "min"<|by decide) dP<|j8 (mj Z5 [none] rfl rfl (by decide +kernel) (by decide +kernel) rfl rfl (oh<|pv 0) (λ_=>(j9 (i:=0) (show(Z5:U PySem.Str).Nodup by decide +kernel) rfl<|Or.inl rfl)) (λ_=>lr) λ_=>(kr pb (pv 0) j2 λ_ _=>rfl)) jz)
  (j3 (ma (i:=2) scShift.nd rfl (Or.inr rfl)<|kq (wy rfl) rfl (B "min"<|by decide) dP<|j8 (mj Z5 [none] rfl rfl (by decide +kernel) (by decide +kernel) rfl rfl (oh<|pv 0) (λ_=>(j9 (i:=0) (show(Z5:U PySem.Str).Nodup by decide +kernel) rfl<|Or.inl rfl)) (λ_=>lr) λ_=>(kr pb (pv 0) j2 λ_ _=>rfl)) jz)
  (j4<|ke<|wn nq rfl (B "tuple"<|by decide) e9<|j8 (kq zc rfl (B "sorted"<|by decide) jW<|j8 (mj ZT [none,none,none,some 1,some 2] rfl rfl (by decide +kernel) (by decide +kernel) rfl rfl (oh<|pv 0) (λ_=>(D9 (n:=3) rfl<|k7 (j9 (i:=0) (show(ZT:U PySem.Str).Nodup by decide +kernel) rfl<|Or.inl rfl)<|k7 (j9 (i:=1) (show(ZT:U PySem.Str).Nodup by decide +kernel) rfl<|Or.inl rfl)<|k7 (j9 (i:=2) (show(ZT:U PySem.Str).Nodup by decide +kernel) rfl<|Or.inl rfl) qm)) (λ_=>lr) λ_=>(on<|j8 (m8 tq (pv 0)<|pv 3)<|j8 (m8 tq (pv 1)<|pv 4)<|j8 (pv 2) jz)) jz) jz))),?_⟩
 refine adk 0 v7 Iz rfl ha dJ hs nA λD1 H1 s1 qZ=>?_;refine(kl D1 _ ⟨rfl,qZ,by rw[ac];exact dW,λM1 m1 tY=>?_⟩);refine adk 1 wg HV rfl (s1 _ _ ha) (dJ.same s1) hs nA λD2 H2 s2 cL=>?_;refine(kl D2 _ ⟨rfl,cL,by rw[ac];exact dW,λM2 m2 tX=>?_⟩);exact afa rfl rfl rfl ((s1.trans s2) _ _ ha) (dJ.same<|s1.trans s2) hs nA (um m1 tY) (um m2 tX) (s1.trans s2) q
structure Pre(ds:U Z9):Prop where
 sg:∀d∈ds,SgD d
 pos:0<ds.length
 six:ds.length<=6
 con:Conn (ds.map cl)
 nd:(ds.map cl).Nodup
structure Zr(ds:U Z9):Prop where
 pre:Pre ds
 r0:x9 (ds.map v7)=0
 c0:x9 (ds.map wg)=0
def Pre.spots{ds:U Z9}(h:Pre ds):Spots ds:=λd hd=>by obtain⟨r,c,k,e,_⟩:=h.sg d hd;exact(lq r c _ e)
theorem Pre.map{ds:U Z9}(h:Pre ds){f:Z9->Z9}{g:Cl->Cl}(hf:∀d,SgD d->SgD (f d)/\cl (f d)=g (cl d))(hg:∀a b,Tch a b->Tch (g a) (g b))(hi:∀a b,g a=g b->a=b):Pre (ds.map f):=by
 have e:(ds.map f).map cl=(ds.map cl).map g:=by rw[gb,gb];exact iq λd hd=>(hf d<|h.sg d hd).2
 refine⟨λd hd=>?_,by rw[ac];exact h.pos,by rw[ac];exact h.six,by rw[e];exact h.con.map hg,?_⟩
 .obtain⟨x,hx,rfl⟩:=aw.mp hd;exact(hf x<|h.sg x hx).1
 .rw[e];exact List.Pairwise.map g (λa b iZ z=>iZ<|hi a b z) h.nd
def Pre.perm{ds es:U Z9}(h:Pre ds)(p:es.Perm ds):Pre es:=
 ⟨λd hd=>h.sg d<|p.mem_iff.mp hd,by rw[p.length_eq];exact h.pos,by rw[p.length_eq];exact h.six,h.con.congr λa=>(p.map cl).mem_iff,(p.map cl).nodup_iff.mpr h.nd⟩
def IZ{ns ms:U Int}(p:ns.Perm ms)(h:0<ns.length):x9 ns=x9 ms:=
 um (p.mem_iff.mp<|vv h) λa ha=>ym a<|p.mem_iff.mpr ha
theorem Zr.perm{ds es:U Z9}(h:Zr ds)(p:es.Perm ds):Zr es:=by have hp:=h.pre.perm p;exact⟨hp,(IZ (p.map v7)<|by rw[ac];exact hp.pos).trans h.r0,(IZ (p.map wg)<|by rw[ac];exact hp.pos).trans h.c0⟩
def Jp{d:Z9}(a b:Int)(h:SgD d):SgD (sj a b d)/\cl (sj a b d)=((cl d).1-a,(cl d).2-b):=by obtain⟨r,c,k,rfl,h1,h2⟩:=h;exact⟨(lq (r-a) (c-b) k ⟨rfl,h1,h2⟩),rfl⟩
def at6(d:Z9):v7 d=(cl d).1:=rfl
def asf(d:Z9):wg d=(cl d).2:=rfl
def ak0{ns:U Int}(h:0<ns.length):x9 (ns.map λx=>x-x9 ns)=0:=by
 refine(um ?_ λa ha=>?_).symm
 .exact aw.mpr ⟨x9 ns,vv h,by lia⟩
 .obtain⟨x,hx,rfl⟩:=aw.mp ha;have:=ym x hx;lia
theorem Zr.shift{ds:U Z9}(h:Pre ds):Zr (og ds):=by
 have hp:Pre (og ds):=h.map (g:=λa=>(a.1-x9 (ds.map v7),a.2-x9 (ds.map wg))) (λd hd=>Jp _ _ hd) (λa b=>Tch.shift _ _) (λa b e=>by
  injection e with e1 e2
  exact Prod.ext (by lia)<|by lia)
 refine⟨hp,?_,?_⟩
 .rw[show(og ds).map v7=(ds.map v7).map λx=>x-x9 (ds.map v7) by
   unfold og;rw[gb,gb];exact iq λd hd=>by rw[Function.comp,at6,(Jp _ _<|h.sg d hd).2];rfl]
  exact ak0<|by rw[ac];exact h.pos
 .rw[show(og ds).map wg=(ds.map wg).map λx=>x-x9 (ds.map wg) by
   unfold og;rw[gb,gb];exact iq λd hd=>by rw[Function.comp,asf,(Jp _ _<|h.sg d hd).2];rfl]
  exact ak0<|by rw[ac];exact h.pos
def qr(x y:Z9):Prop:=(cl x).1<(cl y).1\/((cl x).1=(cl y).1/\(cl x).2<(cl y).2)
theorem aaf:∀{xs ys:U Z9},xs.Perm ys->xs.Pairwise qr->ys.Pairwise qr->xs=ys
 | [],ys,p,_,_=>(List.Perm.nil_eq p)
 | x::xs,[],p,_,_=>absurd p.length_eq (by simp)
 | x::xs,y::ys,p,hx,hy=>by
  have iK:=f8.mp hx;have lX:=f8.mp hy;have e:x=y:=by
   have m1:x∈y::ys:=p.mem_iff.mp ak;have m2:y∈x::xs:=p.mem_iff.mpr ak;rcases ap.mp m1 with e|m1
   .exact e
   rcases ap.mp m2 with e|m2
   .exact e.symm
   have a:=lX.1 x m1;have b:=iK.1 y m2;unfold qr at a b;lia
  subst e;rw[aaf (List.Perm.cons_inv p) iK.2 lX.2]
def adz{ds:U Z9}(hz:Pre ds):(qd ds).Pairwise qr:=by
 have lW:=hz.perm<|ug ds;rw[cp];intro i j hi hj eC;have hx:(qd ds)[i]?=some (qd ds)[i]:=aa hi;have hy:(qd ds)[j]?=some (qd ds)[j]:=aa hj;have u:=agw (ahi hz.spots) hx hy<|cq eC;have nd:=cp.mp lW.nd i j (by simpa using hi) (by simpa using hj) eC;rw[List.getElem_map,List.getElem_map]at nd;generalize (qd ds)[i]=x at *;generalize (qd ds)[j]=y at *;obtain⟨r,c,k,rfl,_⟩:=lW.sg x<|ah hx;obtain⟨r',c',k',rfl,_⟩:=lW.sg y<|ah hy;have ER:¬(r=r'/\c=c'):=λ⟨e1,e2⟩=>nd (by rw[e1,e2];rfl);show r<r'\/(r=r'/\c<c');have u':pj [.int r',.int c',.str ⟨#[k']⟩] [.int r,.int c,.str ⟨#[k]⟩]=false:=u;rw[Ch]at u';by_cases e1:r=r'
 .rw[if_pos e1.symm,Ch]at u';by_cases e2:c=c'
  .exact absurd ⟨e1,e2⟩ ER
  .rw[if_neg (Ne.symm e2)]at u';have:=of_decide_eq_false u';lia
 .rw[if_neg (Ne.symm e1)]at u';have:=of_decide_eq_false u';lia
def Frm(es:U Z9):Prop:=Zr es/\es.Pairwise qr
def Frm.of{ds:U Z9}(h:Zr ds):Frm (qd ds):=⟨h.perm<|ug ds,adz h.pre⟩
def akw{ds es:U Z9}(h:Frm es)(p:ds.Perm es):qd ds=es:=
 aaf ((ug ds).trans p) (adz<|h.1.pre.perm p) h.2
def aie:Sp:=λvs H Q _=>∃(st:aF)(n:U V),vs=[.ref st,.int 6]/\H st=some (.lst n)/\StL n/\∀(r:aF)(H':Hp)(n':U V)(ds:U Z9),Ex [st] H H'->H' st=some (.lst n')->StL n'->Zr ds->Rep H' (.tuple<|qd ds) (.ref r)->Q (.ref r) H'
def scForm:km ["_law_state_here","_law_most","_law_signs_here","_law_spots","_law_row","_law_column"] ZY (kb Hq):={}
def ajr{x:Str}(h:DL x):x.length<=aG:=cq (lc<|by have:=h.2.1;lia)
theorem aqu(B:∀x∈qy,mg x=none)(aZ:xp P w K mg base)(xR:Fn P w K mg base "_law_signs" 2 Z4 aij)(xZ:Fn P w K mg base "_law_grown" 2 ZY aj4)(xS:Fn P w K mg base "_law_shifted" 1 ["_law_spots"] aob)
  (F:Fun K "_law_drawn_form" "_law_drawn_form" Hq f fd):p9 P w K mg base CX0 3 f fd ZY aie:=by
 refine F.ok (k:=2) scForm (λvs H Q E h=>?_) λbE A outer s H vs Q E hr h=>?_
 .obtain⟨st,n,rfl,_⟩:=h;rfl
 obtain⟨st,n,rfl,bJ,hn,q⟩:=h;refine⟨_,(j3 (ma (i:=2) scForm.nd rfl (Or.inl rfl)<|k8 xR hr (by decide) rfl<|j8 (pv 0) jz)
  (j3 (ma (i:=3) scForm.nd rfl (Or.inl rfl)<|ou jz)
  (j3 (qt cx rfl (oh<|k8 xZ hr (by decide) rfl<|j8 (pv 0)<|j8 (pv 1) jz) (wa (n:=2) rfl<|k7 (j9 (i:=4) scForm.nd rfl<|Or.inl rfl)<|k7 (j9 (i:=5) scForm.nd rfl<|Or.inl rfl) qm)<|j4<|uo<|sw fc eu e8 pk (pv 3)<|j8 (on<|j8 (pv 4)<|j8 (pv 5)<|j8 (kr Ab (pv 2) (k8 aZ hr (by decide) rfl<|j8 (pv 0)<|j8 (kq lm rfl (B "len"<|by decide) bb<|j8 (pv 2) jz) jz) λ_ _=>rfl) jz) jz)
  (j4<|ke<|k8 xS hr (by decide) rfl<|j8 (pv 3) jz)))),?_⟩
 refine(m6 _ rfl st n ⟨rfl,bJ,hn,λsg H1 n1 fW nU kH kA=>?_⟩);refine⟨sZ0,λsp fG=>?_⟩;have AC:sp≠st:=λe=>by rw[e,kH]at fG;cases fG
 have Fg:H sp=none:=by
  cases z:H sp with
  | none=>rfl
  | some o=>have z':=nU sp o (by simpa using AC) z;rw[z']at fG;cases fG
 have iG:Ex [st] H (upd H1 sp<|.lst []):=nU.trans<|Ex.fresh fG;have eD:upd H1 sp (.lst []) st=some (.lst n1):=by rw[kg (Ne.symm AC)];exact kH
 have sp2:upd H1 sp (.lst []) sp=some (.lst []):=j5;generalize upd H1 sp (.lst [])=H2 at *;refine(mw _ rfl _ rfl st n1 6 ⟨rfl,eD,kA,by decide,by decide,λgr H3 n3 cxs cs uS nT gU kW gr3 eS fF mW fY hpos3 hlen3=>?_⟩);have sp3:H3 sp=some (.lst []):=nT.at AC sp2;have ngs:gr≠sp:=λe=>by rw[e,sp2]at uS;cases uS
 have ngt:gr≠st:=λe=>by rw[e,eD]at uS;cases uS
 have lcx:=eS.length;refine⟨gr,rfl,⟨_,SqL.of gr3⟩,?_⟩;refine ag1 (xs:=cxs) (λj σ' H'=>∃(y4 y5:Option V)(n:U V)(ds:U Z9)(ys:U V),σ'=[some (.ref st),some<|.int 6,some<|.str sg,some<|.ref sp,y4,y5]/\
  Ex [st,sp] H3 H'/\H' st=some (.lst n)/\StL n/\H' sp=some (.lst ys)/\RepAll H' ds ys/\(∀d∈ds,SgD d)/\ds.map cl=(cs.take j).map cl/\ds.length=j) ?_ (λj σ' H' hj h=>?_) (λj x σ' H' hx h=>?_) λσ' H' h=>?_
 .exact(me _ _ n3 ([]) ([]) ⟨rfl,Ex.refl _ _,gU,kW,sp3,rfl,(λd hd=>by cases hd),rfl,rfl⟩)
 .obtain⟨_,_,_,_,_,_,dM,_⟩:=h;exact SqL.of<|dM _ _ (by simp[ngs,ngt]) gr3
 .obtain⟨y4,y5,n6,ds,ys,rfl,dM,mM,mV,CU,fU,sP,pL,hl6⟩:=h;have tk6:Tk H3 H':=dM.tk λb hb=>by
   rcases ap.mp hb with rfl|hb
   .exact⟨_,gU⟩
   .rw[ar.mp hb];exact⟨_,sp3⟩
  obtain⟨b,cr,cc,rfl,hb,dZ⟩:=qo fF eS hx;have im6:oo ds=true:=Spots.imm λd hd=>by obtain⟨r,c,k,e,_⟩:=sP d hd;exact(lq r c _ e)
  refine(nw b _ rfl (SqT.of<|tk6 _ _ hb) rfl _ _ rfl _ ⟨_,rfl,rfl,?_⟩);refine(my _ rfl (.inl ⟨rfl,_,SqL.of CU⟩) _ ⟨rfl,(uv _ rfl _ rfl _ ⟨rfl,(lu _ rfl sg ⟨rfl,ajr fW,(lq st n6 _ ⟨rfl,mM,mV,by have:=fW.1;lia,by have:=fW.2.1;lia,λn7 i7 Bf Gi h71=>?_⟩)⟩)⟩)⟩);obtain⟨j7,rfl⟩:=b7 Gi;have hj7:j7<sg.cps.toList.length:=by
   have:sg.length=sg.cps.toList.length:=by simp[Str.length]
   lia
  have hk:=fW.2.2 _<|dq hj7;refine(lq sg _ (sg.cps.toList[j7]) ⟨rfl,rfl,ajr fW,mm<|aa hj7,sZ3,λt ht=>?_⟩);generalize sg.cps.toList[j7]=k at *;have hok:ju (⟨#[k]⟩:Str)=true:=Tx.ok ⟨by show 1<=80;lia,λx hx=>by
   have:x=k:=by simpa using hx
   lia⟩
  have lJ:upd H' st (.lst n7) st=some (.lst n7):=j5;have sp7:upd H' st (.lst n7) sp=some (.lst ys):=by rw[kg AC];exact CU
  have vV:RepAll (upd H' st<|.lst n7) ds ys:=fU.tk (Tk.lst mM) im6;have vC:Ex [st,sp] H3 (upd H' st<|.lst n7):=dM.trans (Ex.upd<|by simp);generalize upd H' st (.lst n7)=H7 at *;have s8:Same H7 (upd H7 t<|.tup [.int cr,.int cc,.str ⟨#[k]⟩]):=Same.fresh _ ht;have t8:upd H7 t (.tup [.int cr,.int cc,.str ⟨#[k]⟩]) t=some (.tup [.int cr,.int cc,.str ⟨#[k]⟩]):=j5;generalize upd H7 t (.tup [.int cr,.int cc,.str ⟨#[k]⟩])=H8 at *;have sp8:=s8 _ _ sp7;have wP:j<cxs.length:=(af.mp hx).1;have hly:=fU.length;refine(lq sp ys (.ref t) ⟨rfl,rfl,sp8,lc<|by lia,?_⟩);have hsn:∀d∈ds++[.tuple [.int cr,.int cc,.str ⟨#[k]⟩]],SgD d:=λd hd=>by
   rcases bn.mp hd with h|h
   .exact sP d h
   .rw[ar.mp h];exact(lq cr cc k ⟨rfl,hk.1,hk.2⟩)
  have imn:oo (ds++[.tuple [.int cr,.int cc,.str ⟨#[k]⟩]])=true:=Spots.imm λd hd=>by obtain⟨r,c,k',e,_⟩:=hsn d hd;exact(lq r c _ e)
  refine⟨_,_,n7,ds++[.tuple [.int cr,.int cc,.str ⟨#[k]⟩]],ys++[.ref t],rfl,(vC.trans<|Ex.of_same s8).trans (Ex.upd<|by simp),by rw[kg (Ne.symm AC)];exact s8 _ _ lJ,Bf,j5,
   (((vV.same s8).snoc (vn t8 hok)).tk (Tk.lst sp8) imn),hsn,?_,by simp[hl6]⟩
  rw[a7,pL,kc cl dZ];rfl
 .obtain⟨y4,y5,n6,ds,ys,rfl,dM,mM,mV,CU,fU,sP,pL,hl6⟩:=h;rw[av (by lia)]at pL;have pre:Pre ds:=⟨sP,by lia,by lia,by rw[pL];exact mW,by rw[pL];exact fY⟩;refine(nk _ rfl sp ys ds ⟨rfl,CU,fU,pre.spots,by lia,by lia,λr H9 s9 sG=>?_⟩);refine q r H9 n6 (og ds) (λb o hb h0=>?_) (s9 _ _ mM) mV (Zr.shift pre) sG;have nb:b≠sp:=λe=>by rw[e,Fg]at h0;cases h0
  have nL:b≠st:=by simpa using hb
  exact s9 _ _<|dM b o (by simp[nb,nL])<|nT b o (by simpa using nL)<|iG b o hb h0
def Kn(H:Hp)(v:V):Prop:=v=.non\/(∃b,v=.bl b)\/(∃i,v=.int i)\/(∃z,v=.str z/\Tx z)\/∃a,v=.ref a/\((∃xs,H a=some (.lst xs))\/(∃xs,H a=some (.tup xs))\/H a=some (.dK []))
def Kn.same{H H':Hp}{v:V}(s:Same H H')(h:Kn H v):Kn H' v:=by
 rcases h with h|h|h|h|⟨a,e,⟨xs,h⟩|⟨xs,h⟩|h⟩
 .exact .inl h
 .exact .inr<|.inl h
 .exact .inr<|.inr<|.inl h
 .exact .inr<|.inr<|.inr<|.inl h
 .exact .inr<|.inr<|.inr<|.inr ⟨a,e,.inl ⟨xs,s _ _ h⟩⟩
 .exact .inr<|.inr<|.inr<|.inr ⟨a,e,.inr<|.inl ⟨xs,s _ _ h⟩⟩
 .exact .inr<|.inr<|.inr<|.inr ⟨a,e,.inr<|.inr<|s _ _ h⟩
noncomputable def isW:V->Bool
 | .int _=>true
 | _=>false
noncomputable def sg1(z:Str):Bool:=match z.cps.toList with
 | [c]=>decide (65<=c)&&decide (c<=90)
 | _=>false
noncomputable def lB:V->Bool
 | .str z=>sg1 z
 | _=>false
theorem Cf{z:Str}(h:z.length=1):∃c,z=⟨#[c]⟩:=by
 obtain⟨⟨l⟩⟩:=z
 match l,h with
 | [c],_=>exact⟨c,rfl⟩
def Ef(c:Nat):sg1 ⟨#[c]⟩=(decide (65<=c)&&decide (c<=90)):=rfl
theorem Cp{z:Str}(h:z.length≠1):sg1 z=false:=by
 obtain⟨⟨l⟩⟩:=z
 match l,h with
 | [],_=>rfl
 | [c],h=>exact absurd rfl h
 | _::_::_,_=>rfl
noncomputable def vJ(x y z:V):Bool:=isW x&&isW y&&lB z
noncomputable def qx(H:Hp):V->Bool
 | .ref a=>match H a with
  | some (.tup [x,y,z])=>vJ x y z
  | _=>false
 | _=>false
def qj(H:Hp)(a:aF):qx H (.ref a)=(match H a with|some (.tup [x,y,z])=>vJ x y z|_=>false):=rfl
def Kn2(H:Hp)(v:V):Prop:=Kn H v/\∀a xs,v=.ref a->H a=some (.tup xs)->xs.length<=60/\∀x∈xs,Kn H x
def Kn3(H:Hp)(v:V):Prop:=Kn H v/\∀a xs,v=.ref a->H a=some (.tup xs)->xs.length<=60/\∀x∈xs,Kn2 H x
def ve{H H':Hp}{a:aF}{xs:U V}(s:Same H H')(h:Kn H (.ref a))(e:H' a=some (.tup xs)):H a=some (.tup xs):=by
 rcases h with h|⟨b,h⟩|⟨i,h⟩|⟨z,h,_⟩|⟨b,e',h⟩
 .cases h
 .cases h
 .cases h
 .cases h
 .cases e';rcases h with ⟨ys,h⟩|⟨ys,h⟩|h
  .rw[s _ _ h]at e;cases e
  .rw[s _ _ h]at e;cases e;exact h
  .rw[s _ _ h]at e;cases e
theorem Kn2.same{H H':Hp}{v:V}(s:Same H H')(h:Kn2 H v):Kn2 H' v:=⟨h.1.same s,λa xs e ha=>by subst e;obtain⟨h1,h2⟩:=h.2 a xs rfl<|ve s h.1 ha;exact⟨h1,λx hx=>(h2 x hx).same s⟩⟩
def vq{H H':Hp}{v:V}(s:Same H H')(h:Kn H v):qx H' v=qx H v:=by
 rcases h with rfl|⟨b,rfl⟩|⟨i,rfl⟩|⟨z,rfl,_⟩|⟨b,rfl,⟨ys,h⟩|⟨ys,h⟩|h⟩
 .rfl
 .rfl
 .rfl
 .rfl
 all_goals
  rw[qj,qj,s _ _ h,h]
def D0{K:au}{H:Hp}{v:V}(h:Kn H v):(∃a xs,v=.ref a/\H a=some (.tup xs))\/((∃t,jC K H v t/\jk K t (.type "tuple")=some false)/\qx H v=false/\∀a xs,v=.ref a->H a=some (.tup xs)->False):=by
 rcases h with rfl|⟨b,rfl⟩|⟨i,rfl⟩|⟨z,rfl,_⟩|⟨a,rfl,⟨ys,h⟩|⟨ys,h⟩|h⟩
 .exact .inr ⟨⟨_,.non,rfl⟩,rfl,λ_ _ e=>by cases e⟩
 .exact .inr ⟨⟨_,.bl b,rfl⟩,rfl,λ_ _ e=>by cases e⟩
 .exact .inr ⟨⟨_,.int i,rfl⟩,rfl,λ_ _ e=>by cases e⟩
 .exact .inr ⟨⟨_,.str z,rfl⟩,rfl,λ_ _ e=>by cases e⟩
 .exact .inr ⟨⟨_,.lst h,rfl⟩,by rw[qj,h],λb xs e ha=>by cases e;rw[h]at ha;cases ha⟩
 .exact .inl<|kl a ys ⟨rfl,h⟩
 .exact .inr ⟨⟨_,.dK h,rfl⟩,by rw[qj,h],λb xs e ha=>by cases e;rw[h]at ha;cases ha⟩
def HX{K:au}{H:Hp}{v:V}(h:Kn H v):(∃z,v=.str z/\Tx z)\/((∃t,jC K H v t/\jk K t (.type "str")=some false)/\lB v=false):=by
 rcases h with rfl|⟨b,rfl⟩|⟨i,rfl⟩|⟨z,rfl,hz⟩|⟨a,rfl,⟨ys,h⟩|⟨ys,h⟩|h⟩
 .exact .inr ⟨⟨_,.non,rfl⟩,rfl⟩
 .exact .inr ⟨⟨_,.bl b,rfl⟩,rfl⟩
 .exact .inr ⟨⟨_,.int i,rfl⟩,rfl⟩
 .exact .inl ⟨z,rfl,hz⟩
 .exact .inr ⟨⟨_,.lst h,rfl⟩,rfl⟩
 .exact .inr ⟨⟨_,.tup h,rfl⟩,rfl⟩
 .exact .inr ⟨⟨_,.dK h,rfl⟩,rfl⟩
def o9{z:Str}(h:Tx z):z.length<=aG:=cq (lc<|by have:=h.1;lia)
def le1(a b:Nat):(!decide ([b]<[a]))=decide (a<=b):=by
 have h:([b]<[a])↔b<a:=by simp[jx]
 rw[decide_eq_decide.mpr h];by_cases c:b<a
 .rw[decide_eq_true c,decide_eq_false<|by lia];rfl
 .rw[decide_eq_false c,decide_eq_true<|by lia];rfl
def ajf{c lo hi:Nat}{a z:Str}{R:V->Prop}{A B:Prop}(ha:a.cps.toList=[lo])(hz:z.cps.toList=[hi])(q:R (.bl<|decide (lo<=c)&&decide (c<=hi)))
  (hA:R (.bl<|!decide (z.cps.toList<[c]))->A) (hB:R (.bl false)->B):if (!decide ((⟨#[c]⟩:Str).cps.toList<a.cps.toList))=true then A else B:=by
 have e:(⟨#[c]⟩:Str).cps.toList=[c]:=rfl;rw[e,ha,le1];rw[hz,le1]at hA;by_cases h:lo<=c
 .rw[decide_eq_true h]at *;rw[if_pos rfl];exact hA q
 .rw[decide_eq_false h]at *;rw[if_neg aj];exact hB q
def aid(c:Nat):(!(gl (ae "ABCDEFGHIJKLMNOPQRSTUVWXYZ") ⟨#[c]⟩ 0 (ae "ABCDEFGHIJKLMNOPQRSTUVWXYZ").length 1).isEmpty)=(decide (65<=c)&&decide (c<=90)):=by
 rw[PySem.StrLaws.found_one];have e:(ae "ABCDEFGHIJKLMNOPQRSTUVWXYZ").cps.toList=[65,66,67,68,69,70,71,72,73,74,75,76,77,78,79,80,81,82,83,84,85,86,87,88,89,90]:=by decide +kernel
 rw[e,<-Bool.decide_and];apply decide_eq_decide.mpr;simp only[ap,bz,or_false];omega
def spW:Sp:=λvs H Q _=>∃v,vs=[v]/\Kn H v/\Q (.bl<|isW v) H
def ax1:km Z8 Z8 (kb sPw):={}
def av3(B:∀x∈qy,mg x=none)(F:Fun K "is_whole" "is_whole" sPw f fd):p9 P w K mg base CX0 1 f fd Z8 spW:=by
 refine F.ok (k:=0) ax1 (λvs H Q E h=>?_) λbE A outer s H vs Q E hr h=>?_
 .obtain⟨n,rfl,_⟩:=h;rfl
 obtain⟨v,rfl,hv,q⟩:=h;refine⟨_,(j4<|ke<|oa (kq kh rfl (B "isinstance"<|by decide) bi<|j8 (pv 0)<|j8 (nc (v:=.ty "int") rfl (B "int"<|by decide) jy rfl) jz)<|o4<|aoy<|kq kh rfl (B "isinstance"<|by decide) bi<|j8 (pv 0)<|j8 (nc (v:=.ty "bool") rfl (B "bool"<|by decide) boot_bool rfl) jz),?_⟩;rcases hv with rfl|⟨b,rfl⟩|⟨i,rfl⟩|⟨z,rfl,hz⟩|⟨a,rfl,⟨ys,h⟩|⟨ys,h⟩|h⟩
 .exact(j1 _ rfl _ _ _ false ⟨rfl,.non,rfl,false,rfl,ny q⟩)
 .exact(j1 _ rfl _ _ _ true ⟨rfl,.bl b,rfl,true,rfl,mh<|j1 _ rfl _ _ _ true ⟨rfl,.bl b,rfl,true,rfl,q⟩⟩)
 .exact(j1 _ rfl _ _ _ true ⟨rfl,.int i,rfl,true,rfl,mh<|j1 _ rfl _ _ _ false ⟨rfl,.int i,rfl,false,rfl,q⟩⟩)
 .exact(j1 _ rfl _ _ _ false ⟨rfl,.str z,rfl,false,rfl,ny q⟩)
 .exact(j1 _ rfl _ _ _ false ⟨rfl,.lst h,rfl,false,rfl,ny q⟩)
 .exact(j1 _ rfl _ _ _ false ⟨rfl,.tup h,rfl,false,rfl,ny q⟩)
 .exact(j1 _ rfl _ _ _ false ⟨rfl,.dK h,rfl,false,rfl,ny q⟩)
def aq9:km Z7 Z7 (kb Ir):={}
def ams(B:∀x∈qy,mg x=none)(F:Fun K "_law_whole" "_law_whole" Ir f fd):p9 P w K mg base CX0 1 f fd Z7 spW:=by
 refine F.ok (k:=0) aq9 (λvs H Q E h=>?_) λbE A outer s H vs Q E hr h=>?_
 .obtain⟨n,rfl,_⟩:=h;rfl
 obtain⟨v,rfl,hv,q⟩:=h;refine⟨_,(j4<|ke<|oa (kq kh rfl (B "isinstance"<|by decide) bi<|j8 (pv 0)<|j8 (nc (v:=.ty "int") rfl (B "int"<|by decide) jy rfl) jz)<|o4<|aoy<|kq kh rfl (B "isinstance"<|by decide) bi<|j8 (pv 0)<|j8 (nc (v:=.ty "bool") rfl (B "bool"<|by decide) boot_bool rfl) jz),?_⟩;rcases hv with rfl|⟨b,rfl⟩|⟨i,rfl⟩|⟨z,rfl,hz⟩|⟨a,rfl,⟨ys,h⟩|⟨ys,h⟩|h⟩
 .exact(j1 _ rfl _ _ _ false ⟨rfl,.non,rfl,false,rfl,ny q⟩)
 .exact(j1 _ rfl _ _ _ true ⟨rfl,.bl b,rfl,true,rfl,mh<|j1 _ rfl _ _ _ true ⟨rfl,.bl b,rfl,true,rfl,q⟩⟩)
 .exact(j1 _ rfl _ _ _ true ⟨rfl,.int i,rfl,true,rfl,mh<|j1 _ rfl _ _ _ false ⟨rfl,.int i,rfl,false,rfl,q⟩⟩)
 .exact(j1 _ rfl _ _ _ false ⟨rfl,.str z,rfl,false,rfl,ny q⟩)
 .exact(j1 _ rfl _ _ _ false ⟨rfl,.lst h,rfl,false,rfl,ny q⟩)
 .exact(j1 _ rfl _ _ _ false ⟨rfl,.tup h,rfl,false,rfl,ny q⟩)
 .exact(j1 _ rfl _ _ _ false ⟨rfl,.dK h,rfl,false,rfl,ny q⟩)
def spS:Sp:=λvs H Q _=>∃v,vs=[v]/\Kn H v/\Q (.bl<|lB v) H
def axm:km Z8 Z8 (kb sPs):={}
def ave(B:∀x∈qy,mg x=none)(F:Fun K "is_sign" "is_sign" sPs f fd):p9 P w K mg base CX0 1 f fd Z8 spS:=by
 refine F.ok (k:=0) axm (λvs H Q E h=>?_) λbE A outer s H vs Q E hr h=>?_
 .obtain⟨c,rfl,_⟩:=h;rfl
 obtain⟨v,rfl,hv,q⟩:=h;refine⟨_,(j4<|ke<|oa (kq kh rfl (B "isinstance"<|by decide) bi<|j8 (pv 0)<|j8 (nc (v:=.ty "str") rfl (B "str"<|by decide) cE rfl) jz)<|oa (m5 uf (kq lm rfl (B "len"<|by decide) bb<|j8 (pv 0) jz) j2<|l4 _)<|o4<|IV vk vk lv (pv 0) lv),?_⟩;rcases HX (K:=K) hv with ⟨z,rfl,hz⟩|⟨⟨t,ty,kt⟩,e⟩
 .refine(j1 _ rfl _ _ _ true ⟨rfl,.str _,rfl,true,rfl,mh ?_⟩);refine(lu _ rfl z ⟨rfl,o9 hz,rfl,_,rfl,?_⟩);by_cases hl:z.length=1
  .obtain⟨c,rfl⟩:=Cf hl;refine oy (λ_=>?_) λh=>absurd (decide_eq_true rfl) h;exact(mf _ rfl _ _ rfl rfl _ ⟨rfl,ajf (a:=ae "A") (z:=ae "Z") (R:=λv=>Q v H) (by decide +kernel) (by decide +kernel) q (λh=>(kl _ _ ⟨rfl,rfl,h⟩)) λh=>h⟩)
  .refine oy (λh=>?_) λ_=>?_
   .have h':=of_decide_eq_true h;injection h' with h'
    exact absurd (Int.ofNat_inj.mp h') hl
   .have e:lB (.str z)=false:=Cp hl;rw[e]at q;exact q
 .rw[e]at q;exact(j1 _ rfl v _ t false ⟨rfl,ty,kt,false,rfl,ny q⟩)
def DH:Sp:=λvs H Q _=>∃v,vs=[v]/\Kn2 H v/\Q (.bl<|qx H v) H
def av2:km Z8 Z8 (kb GQ):={}
theorem agx{H:Hp}{a:aF}{xs:U V}(ha:H a=some (.tup xs))(h:xs.length≠3):qx H (.ref a)=false:=by
 rw[qj,ha]
 match xs,h with
 | [],_=>rfl
 | [_],_=>rfl
 | [_,_],_=>rfl
 | [_,_,_],h=>exact absurd rfl h
 | _::_::_::_::_,_=>rfl
theorem asn{xs:U V}(h:xs.length=3):∃x y z,xs=[x,y,z]:=by
 match xs,h with
 | [x,y,z],_=>exact(lq x y z rfl)
theorem atq(B:∀x∈qy,mg x=none)(Cv:Fn P w K mg base "is_whole" 1 Z8 spW)(vL:Fn P w K mg base "is_sign" 1 Z8 spS)(F:Fun K "is_spot" "is_spot" GQ f fd):p9 P w K mg base CX0 2 f fd Z8 DH:=by
 refine F.ok (k:=1) av2 (λvs H Q E h=>?_) λbE A outer s H vs Q E hr h=>?_
 .obtain⟨c,rfl,_⟩:=h;rfl
 obtain⟨v,rfl,hv,q⟩:=h;refine⟨_,(j3 (nv (PW.pt<|o6 (k9<|mq<|kq kh rfl (B "isinstance"<|by decide) bi<|j8 (pv 0)<|j8 (nc (v:=.ty "tuple") rfl (B "tuple"<|by decide) e9 rfl) jz)<|oe<|mi yq (kq kj rfl (B "len"<|by decide) bb<|j8 (pv 0) jz) j2<|l4 _) (j4<|ke om) ku)
  (j4<|ke<|oa (k8 Cv hr (by decide) rfl<|j8 (kr ml (pv 0) j2 λ_ _=>rfl) jz)<|oa (k8 Cv hr (by decide) rfl<|j8 (kr ml (pv 0) j2 λ_ _=>rfl) jz)<|o4<|k8 vL hr (by decide) rfl<|j8 (kr ml (pv 0) j2 λ_ _=>rfl) jz)),?_⟩
 rcases D0 (K:=K) hv.1 with ⟨a,xs,rfl,ha⟩|⟨⟨t,ty,kt⟩,e,_⟩
 .refine(j1 _ rfl (.ref a) ("tuple") (.type "tuple") true ⟨rfl,.tup ha,rfl,true,rfl,ny ?_⟩);refine(qa _ rfl a xs rfl (.inr<|SqT.of ha) rfl _ ⟨rfl,?_⟩);by_cases hl:xs.length=3
  .refine oy (λh=>?_) λ_=>?_
   .rw[hl]at h;exact absurd h<|by simp
   obtain⟨x,y,z,rfl⟩:=asn hl;have kn:=(hv.2 a _ rfl ha).2;have e:qx H (.ref a)=vJ x y z:=by rw[qj,ha]
   rw[e]at q;refine(j1 _ rfl a _ _ _ ⟨rfl,rfl,SqT.of ha,rfl,(my x rfl (kn x<|by simp) _ ⟨rfl,?_⟩)⟩);unfold vJ at q;cases hx:isW x with
   | false=>rw[hx]at q;exact ny q
   | true=>
    rw[hx,Bool.true_and]at q;refine mh<|j1 _ rfl a _ _ _ ⟨rfl,rfl,SqT.of ha,rfl,(my y rfl (kn y<|by simp) _ ⟨rfl,?_⟩)⟩;cases hy:isW y with
    | false=>rw[hy]at q;exact ny q
    | true=>
     rw[hy,Bool.true_and]at q;exact mh<|j1 _ rfl a _ _ _ ⟨rfl,rfl,SqT.of ha,rfl,z,rfl,kn z<|by simp,q⟩
  .refine oy (λ_=>?_) λh=>?_
   .rw[agx ha hl]at q;exact q
   .exfalso;apply h;have:¬V.int ((xs.length:Nat):Int)=V.int 3:=λz=>by injection z with z;exact hl<|by lia
    rw[decide_eq_false this];rfl
 .rw[e]at q;exact(j1 _ rfl v ("tuple") t false ⟨rfl,ty,kt,false,rfl,mh<|mh q⟩)
def aul:km Z7 Z7 (kb Hw):={}
theorem ape(B:∀x∈qy,mg x=none)(gS:Fn P w K mg base "_law_whole" 1 Z7 spW)(F:Fun K "_law_is_spot" "_law_is_spot" Hw f fd):p9 P w K mg base CX0 2 f fd Z7 DH:=by
 refine F.ok (k:=1) aul (λvs H Q E h=>?_) λbE A outer s H vs Q E hr h=>?_
 .obtain⟨c,rfl,_⟩:=h;rfl
 obtain⟨v,rfl,hv,q⟩:=h;refine⟨_,(j3 (nv (PW.pt<|o6 (k9<|mq<|kq kh rfl (B "isinstance"<|by decide) bi<|j8 (pv 0)<|j8 (nc (v:=.ty "tuple") rfl (B "tuple"<|by decide) e9 rfl) jz)<|o6 (mi yq (kq kj rfl (B "len"<|by decide) bb<|j8 (pv 0) jz) j2<|l4 _)<|o6 (k9<|mq<|k8 gS hr (by decide) rfl<|j8 (kr ml (pv 0) j2 λ_ _=>rfl) jz)<|oe<|k9<|mq<|k8 gS hr (by decide) rfl<|j8 (kr ml (pv 0) j2 λ_ _=>rfl) jz) (j4<|ke om) ku)
  (j4<|ke<|oa (kq kh rfl (B "isinstance"<|by decide) bi<|j8 (kr ml (pv 0) j2 λ_ _=>rfl)<|j8 (nc (v:=.ty "str") rfl (B "str"<|by decide) cE rfl) jz)<|oa (m5 uf (kq lm rfl (B "len"<|by decide) bb<|j8 (kr ml (pv 0) j2 λ_ _=>rfl) jz) j2<|l4 _)<|o4<|m5 xb (kr ml (pv 0) j2 λ_ _=>rfl) lv rfl)),?_⟩
 rcases D0 (K:=K) hv.1 with ⟨a,xs,rfl,ha⟩|⟨⟨t,ty,kt⟩,e,_⟩
 .refine(j1 _ rfl (.ref a) ("tuple") (.type "tuple") true ⟨rfl,.tup ha,rfl,true,rfl,ny ?_⟩);refine(qa _ rfl a xs rfl (.inr<|SqT.of ha) rfl _ ⟨rfl,?_⟩);by_cases hl:xs.length=3
  .refine oy (λh=>?_) λ_=>?_
   .rw[hl]at h;exact absurd h<|by simp
   obtain⟨x,y,z,rfl⟩:=asn hl;have kn:=(hv.2 a _ rfl ha).2;have e:qx H (.ref a)=vJ x y z:=by rw[qj,ha]
   rw[e]at q;refine(j1 _ rfl a _ _ _ ⟨rfl,rfl,SqT.of ha,rfl,(my x rfl (kn x<|by simp) _ ⟨rfl,?_⟩)⟩);unfold vJ at q;cases hx:isW x with
   | false=>rw[hx]at q;exact mh (mh q)
   | true=>
    rw[hx,Bool.true_and]at q;refine ny<|j1 _ rfl a _ _ _ ⟨rfl,rfl,SqT.of ha,rfl,(my y rfl (kn y<|by simp) _ ⟨rfl,?_⟩)⟩;cases hy:isW y with
    | false=>rw[hy]at q;exact mh q
    | true=>
     rw[hy,Bool.true_and]at q;refine ny ?_;rcases HX (K:=K) (kn z<|by simp)with ⟨z,rfl,hz⟩|⟨⟨t,ty,kt⟩,e⟩
     .refine(j1 _ rfl a _ _ _ ⟨rfl,rfl,SqT.of ha,rfl,(li _ _ _ true ⟨rfl,.str _,rfl,true,rfl,mh ?_⟩)⟩);refine(j1 _ rfl a _ _ _ ⟨rfl,rfl,SqT.of ha,rfl,z,rfl,o9 hz,rfl,_,rfl,?_⟩);by_cases hl:z.length=1
      .obtain⟨c,rfl⟩:=Cf hl;refine oy (λ_=>?_) λh=>absurd (decide_eq_true rfl) h;refine(j1 _ rfl a _ _ _ ⟨rfl,rfl,SqT.of ha,rfl,(kl _ _ ⟨rfl,rfl,?_⟩)⟩);rw[aid];exact q
      .refine oy (λh=>?_) λ_=>?_
       .have h':=of_decide_eq_true h;injection h' with h'
        exact absurd (Int.ofNat_inj.mp h') hl
       .have e:lB (.str z)=false:=Cp hl;rw[e]at q;exact q
     .rw[e]at q;exact(j1 _ rfl a _ _ _ ⟨rfl,rfl,SqT.of ha,rfl,(li z _ t false ⟨rfl,ty,kt,false,rfl,ny q⟩)⟩)
  .refine oy (λ_=>?_) λh=>?_
   .rw[agx ha hl]at q;exact mh q
   .exfalso;apply h;have:¬V.int ((xs.length:Nat):Int)=V.int 3:=λz=>by injection z with z;exact hl<|by lia
    rw[decide_eq_false this];rfl
 .rw[e]at q;exact(j1 _ rfl v ("tuple") t false ⟨rfl,ty,kt,false,rfl,mh<|mh q⟩)
noncomputable def GY(i:Int):Int:=if i<0 then -i else i
noncomputable def vI(a b:Cl):Bool:=GY (a.1-b.1)+GY (a.2-b.2)==1
def afv(a b:Cl):vI a b=true↔Tch a b:=by obtain⟨a1,a2⟩:=a;obtain⟨b1,b2⟩:=b;unfold vI Tch GY;simp only[beq_iff_eq];split<;>split<;>lia
def ag5{d:Z9}{p q:Int}(hd:∃r c:Int,d=.tuple [.int r,.int c]):b8 d (.tuple [.int p,.int q])=true↔cl d=(p,q):=by obtain⟨r,c,rfl⟩:=hd;show b8 (.tuple [.int r,.int c]) (.tuple [.int p,.int q])=true↔(r,c)=(p,q);rw[Prod.mk.injEq];simp[b8,PyData.eqvAll]
def wz{cs:U Z9}(fF:Cells cs)(p q:Int):(cs.any λe=>b8 e<|.tuple [.int p,.int q])=true↔(p,q)∈cs.map cl:=by
 rw[List.any_eq_true,aw];constructor
 .rintro⟨d,hd,e⟩;exact⟨d,hd,(ag5<|fF d hd).mp e⟩
 .rintro⟨d,hd,e⟩;exact⟨d,hd,(ag5<|fF d hd).mpr e⟩
def af5{d e:Z9}(hd:∃r c:Int,d=.tuple [.int r,.int c])(he:∃r c:Int,e=.tuple [.int r,.int c])(h:cl d=cl e):d=e:=by
 obtain⟨r,c,rfl⟩:=hd;obtain⟨r',c',rfl⟩:=he;have h':(r,c)=(r',c'):=h;injection h' with h1 h2
 rw[h1,h2]
theorem agg:∀{T S:U Cl},Conn S->(∀b∈T,∃a∈S,Tch a b)->Conn (S++T)
 | [],S,h,_=>by rw[gz];exact h
 | b::T,S,h,ht=>by
  obtain⟨a,ha,t⟩:=ht b ak;have h1:=h.snoc ha t;have h2:=agg (T:=T) h1 λb' bZ=>by obtain⟨a',bU,t'⟩:=ht b'<|ao _ bZ;exact⟨a',fh _ bU,t'⟩
  rw[List.append_assoc]at h2;exact h2
def asa:Sp:=λvs H Q _=>∃(a b:aF)(r c r' c':Int),vs=[.ref a,.ref b]/\H a=some (.tup [.int r,.int c])/\H b=some (.tup [.int r',.int c'])/\Q (.bl<|vI (r,c) (r',c')) H
def awr:km ZS ZS (kb Hf):={}
def atz(B:∀x∈qy,mg x=none)(F:Fun K "touches" "touches" Hf f fd):p9 P w K mg base CX0 1 f fd ZS asa:=by
 refine F.ok (k:=0) awr (λvs H Q E h=>?_) λbE A outer s H vs Q E hr h=>?_
 .obtain⟨a,b,r,c,r',c',rfl,_⟩:=h;rfl
 obtain⟨a,b,r,c,r',c',rfl,ha,hb,q⟩:=h;refine⟨_,(j4<|ke<|m5 uf (m8 o5 (kq agh rfl (B "abs"<|by decide) boot_abs<|j8 (m8 tq (kr ml (pv 0) j2 λ_ _=>rfl)<|kr ml (pv 1) j2 λ_ _=>rfl) jz)<|kq agh rfl (B "abs"<|by decide) boot_abs<|j8 (m8 tq (kr ml (pv 0) j2 λ_ _=>rfl)<|kr ml (pv 1) j2 λ_ _=>rfl) jz) j2<|l4 _),?_⟩;refine(j1 _ rfl a _ _ _ ⟨rfl,rfl,SqT.of ha,rfl,(j1 _ rfl b _ _ _ ⟨rfl,rfl,SqT.of hb,rfl,(kl _ _ ⟨rfl,rfl,_,rfl,?_⟩)⟩)⟩);refine(j1 _ rfl a _ _ _ ⟨rfl,rfl,SqT.of ha,rfl,(j1 _ rfl b _ _ _ ⟨rfl,rfl,SqT.of hb,rfl,(kl _ _ ⟨rfl,rfl,(m6 _ rfl _ _ ⟨rfl,rfl,rfl,?_⟩)⟩)⟩)⟩);rw[IJ];exact q
def axi:Sp:=λvs H Q _=>∃(a l:aF)(r c:Int)(xs:U V)(cs:U Z9),vs=[.ref a,.ref l]/\H a=some (.tup [.int r,.int c])/\H l=some (.lst xs)/\RepAll H cs xs/\Cells cs/\cs.length<=60/\∀H',Same H H'->Q (.bl<|(cs.map cl).any λx=>vI (r,c) x) H'
def ax4:km ZR ZR (kb sTa):={}
def avc(B:∀x∈qy,mg x=none)(Jv:Fn P w K mg base "touches" 1 ZS asa)(F:Fun K "touches_any" "touches_any" sTa f fd):p9 P w K mg base CX0 2 f fd ZR axi:=by
 refine F.ok (k:=1) ax4 (λvs H Q E h=>?_) λbE A outer s H vs Q E hr h=>?_
 .obtain⟨a,l,r,c,xs,cs,rfl,_⟩:=h;rfl
 obtain⟨a,l,r,c,xs,cs,rfl,ha,hl,cD,fF,kB,q⟩:=h;have aR:=cD.length;refine⟨_,(j4<|ke<|kq (al2 rfl) rfl (B "any"<|by decide) boot_any<|j8 (mj ["other","cell"] [none,some 0] rfl rfl (by decide +kernel) (by decide +kernel) rfl rfl (oh<|pv 1) (λ_=>(j9 (i:=0) (show(["other","cell"]:U PySem.Str).Nodup by decide +kernel) rfl<|Or.inl rfl)) (λ_=>lr) λ_=>(k8 Jv hr (by decide) rfl<|j8 (pv 1)<|j8 (pv 0) jz)) jz),?_⟩;refine(lu _ rfl l ⟨rfl,⟨_,SqL.of hl⟩,λD hD=>?_⟩);refine ni (xs:=xs) (λi ys H'=>Same H H'/\ys=((cs.take i).map λd=>vI (r,c)<|cl d).map V.bl) ⟨Same.fresh _ hD,rfl⟩ (λi ys H' p=>SqL.of<|p.1 _ _ hl) (λi x ys H' hx hi aQ aV p=>?_) λys H' aQ aV p=>?_
 .obtain⟨p1,rfl⟩:=p;obtain⟨b,r',c',rfl,hb,hd⟩:=qo fF cD hx;refine⟨Agree.set (Agree.refl _) rfl,?_⟩;dsimp only[sq];refine mh ?_;refine(mw _ rfl _ rfl a b r<|lq c r' c' ⟨rfl,p1 _ _ ha,p1 _ _ hb,ng (by lia) aQ aV ⟨p1.new hD,?_⟩⟩);rw[kc (λd=>vI (r,c)<|cl d) hd,a7];rfl
 .obtain⟨p1,rfl⟩:=p;refine(kl D _ ⟨rfl,aQ,?_⟩);rw[av (by lia),List.any_map];have e:=q H' p1;rw[List.any_map]at e;exact e
def axd:Sp:=λvs H Q _=>∃(a:aF)(xs:U V)(cs:U Z9),vs=[.ref a]/\H a=some (.lst xs)/\RepAll H cs xs/\Cells cs/\(cs.map cl).Nodup/\0<cs.length/\cs.length<=6/\∀(b:Bool)(H':Hp),Same H H'->(b=true↔Conn (cs.map cl))->Q (.bl b) H'
def scPh:km ["cells","reached","missing","near"] ["cells"] (kb sPh):={}
def ayj{xs:U V}(h:0<xs.length):lA xs none (some 1)=xs.take 1:=by unfold lA;rw[HT.sIx_none,show(some (1:Int))=some (((1:Nat):Int))from rfl,HT.sIx_nat];rw[show kO 1 xs.length-0=1 by lia];rfl
def aya(xs:U V):lA xs (some 1) none=xs.drop 1:=by
 unfold lA;rw[HT.sIx_none,show(some (1:Int))=some (((1:Nat):Int))from rfl,HT.sIx_nat];by_cases h:xs.length=0
 .have:xs=[]:=fb.mp h;subst this;rfl
 .rw[show kO 1 xs.length=1 by lia,av<|by rw[ie];exact aq _]
def Jn{ds es:U Z9}(h:Cells es)(hs:∀d∈ds,d∈es):Cells ds:=λd hd=>h d<|hs d hd
def ur{α:Type}{p:α->Bool}{l:List α}{i:Nat}{x:α}(h:l[i]?=some x):(l.take<|i+1).filter p=(l.take i).filter p++(if p x then[x]else[]):=by rw[jd,h,List.filter_append];by_cases hp:p x<;>simp[hp]
theorem awq(B:∀x∈qy,mg x=none)(Fta:Fn P w K mg base "touches_any" 2 ZR axi)(F:Fun K "hang_together" "hang_together" sPh f fd):p9 P w K mg base CX0 3 f fd ["cells"] axd:=by
 refine F.ok (k:=2) scPh (λvs H Q E h=>?_) λbE A outer s H vs Q E hr h=>?_
 .obtain⟨a,xs,cs,rfl,_⟩:=h;rfl
 obtain⟨a,xs,cs,rfl,ha,cD,fF,fY,dW,Fh,q⟩:=h;have hu:=hr.units;have aR:=cD.length;refine⟨_,(j3 (ma (i:=1) scPh.nd rfl (Or.inr rfl)<|vt Cq (pv 0) yf<|yh j2)
  (j3 (ma (i:=2) scPh.nd rfl (Or.inl rfl)<|vt Cq (pv 0) (yh j2) yf)
  (j3 (ma (i:=3) scPh.nd rfl (Or.inr rfl)<|pv 1)
  (j3 (ag9 cx (amq (pv 3)<|by intro _;rfl) (j3 (ma (i:=3) scPh.nd rfl (Or.inr rfl)<|mj ["cell","reached"] [none,some 1] rfl rfl (by decide +kernel) (by decide +kernel) rfl rfl (oh<|pv 2) (λ_=>(j9 (i:=0) (show(["cell","reached"]:U PySem.Str).Nodup by decide +kernel) rfl<|Or.inl rfl)) (λ_=>wc<|mq<|k8 Fta hr (by decide) rfl<|j8 (pv 0)<|j8 (pv 1) jz) λ_=>(pv 0))
  (j3 (ma (i:=1) scPh.nd rfl (Or.inr rfl)<|m8 Cg (pv 1)<|pv 3)
  (j4<|sd (i:=2) ["cell","near"] [none,some 3] scPh.nd rfl (Or.inl rfl) rfl rfl rfl (by decide +kernel) (by decide +kernel) rfl rfl (oh<|pv 2) (λ_=>(j9 (i:=0) (show(["cell","near"]:U PySem.Str).Nodup by decide +kernel) rfl<|Or.inl rfl)) (λ_=>wc<|mi (vc hu) (pv 0) (pv 1) rfl) λ_=>(pv 0)))))
  (j4<|ke<|m5 (Ib hu) (pv 2) (ou jz)<|l4 _))))),?_⟩
 refine(qf _ rfl 1 rfl a xs ⟨rfl,SqL.of ha,λR hR=>?_⟩);rw[ayj (by lia)];have s1:Same H (upd H R<|.lst<|xs.take 1):=Same.fresh _ hR;have R1:upd H R (.lst<|xs.take 1) R=some (.lst<|xs.take 1):=j5;generalize upd H R (.lst<|xs.take 1)=H1 at *;refine(qf _ rfl 1 rfl a xs ⟨rfl,SqL.of<|s1 _ _ ha,λM hM=>?_⟩);rw[aya];have s2:Same H1 (upd H1 M<|.lst<|xs.drop 1):=Same.fresh _ hM;have M2:upd H1 M (.lst<|xs.drop 1) M=some (.lst<|xs.drop 1):=j5;have R2:=s2 _ _ R1;have cT:=s1.trans s2;generalize upd H1 M (.lst<|xs.drop 1)=H2 at *;refine⟨_,rfl,?_⟩;refine⟨λm σ' H'=>∃(R M N:aF)(rs ms ns:U Z9)(rx mx nx:U V),σ'=[some (.ref a),some<|.ref R,some<|.ref M,some<|.ref N]/\Same H H'/\H' R=some (.lst rx)/\RepAll H' rs rx/\H' M=some (.lst mx)/\RepAll H' ms mx/\H' N=some (.lst nx)/\RepAll H' ns nx/\
  (rs++ms).Perm cs/\Conn (rs.map cl)/\0<rs.length/\(ns=[]->∀x,x∈rs.map cl->∀y,y∈ms.map cl->¬Tch x y)/\m=2*ms.length+(if ns=[]then 0 else 1),?_,?_⟩
 .obtain⟨d0,t,rfl⟩:∃d t,cs=d::t:=by
   match cs,dW with
   | d::t,_=>exact(kl d t rfl)
  refine(me _ R M R ([d0])<|me t ([d0]) _ _ _ ⟨rfl,cT,R2,(cD.same cT).take 1,M2,(cD.same cT).drop 1,R2,(cD.same cT).take 1,gw _,Conn.one _,by simp,(λe=>by cases e),rfl⟩)
 rintro m σ' H' ⟨R,M,N,rs,ms,ns,rx,mx,nx,rfl,sm,mZ,vU,BI,oC,hN',EF,pm,con,ED,gZ,rfl⟩;have lR:=vU.length;have lM:=oC.length;have lN:=EF.length;have lpm:=pm.length_eq;rw[be]at lpm;have Db:Cells rs:=Jn fF λd hd=>pm.mem_iff.mp<|fh _ hd;have jJ:Cells ms:=Jn fF λd hd=>pm.mem_iff.mp<|bu _ hd;refine(lu _ rfl _ ⟨.inl ⟨nx,SqL.of hN',rfl⟩,?_⟩);refine oy (λsT=>?_) λhstop=>?_
 .have dG:ns≠[]:=λe=>by
   rw[e]at lN;have:nx=[]:=fb.mp lN;rw[this]at sT;cases sT
  refine⟨λσ2 H2=>∃m',m'<2*ms.length+(if ns=[]then 0 else 1)/\∃(R M N:aF)(rs ms ns:U Z9)(rx mx nx:U V),σ2=[some (.ref a),some<|.ref R,some<|.ref M,some<|.ref N]/\Same H H2/\H2 R=some (.lst rx)/\RepAll H2 rs rx/\H2 M=some (.lst mx)/\RepAll H2 ms mx/\H2 N=some (.lst nx)/\RepAll H2 ns nx/\
   (rs++ms).Perm cs/\Conn (rs.map cl)/\0<rs.length/\(ns=[]->∀x,x∈rs.map cl->∀y,y∈ms.map cl->¬Tch x y)/\m'=2*ms.length+(if ns=[]then 0 else 1),λσ2 H2 h=>h,?_⟩
  let p:Z9->Bool:=λd=>(rs.map cl).any λx=>vI (cl d) x
  refine(lu _ rfl M ⟨rfl,⟨_,SqL.of BI⟩,λN2 hN2=>?_⟩);refine ni (xs:=mx) (λi ys G=>Same H' G/\RepAll G ((ms.take i).filter p) ys) ⟨Same.fresh _ hN2,rfl⟩ (λi ys G pp=>SqL.of<|pp.1 _ _ BI) (λi x ys G hx hi aQ aV pp=>?_) λtV G pQ aV pp=>?_
  .obtain⟨p1,p2⟩:=pp;obtain⟨b,r',c',rfl,hb,hd⟩:=qo jJ oC hx;have dL:=ur (p:=p) hd;refine⟨Agree.set (Agree.refl _) rfl,?_⟩;refine(mw _ rfl _ rfl b R r'<|lq c' rx rs ⟨rfl,p1 _ _ hb,p1 _ _ mZ,vU.same p1,Db,by lia,λG2 s2=>⟨_,rfl,?_⟩⟩);have cL:=s2 _ _ aQ;have EN:=p1.trans s2;have cond:((rs.map cl).any λx=>vI (r',c') x)=p (.tuple [.int r',.int c']):=rfl;rw[cond];cases hp:p (.tuple [.int r',.int c'])with
   | true=>
    rw[hp]at dL;refine mh ?_;refine⟨_,rfl,ng (by lia) cL aV ⟨EN.new hN2,?_⟩⟩;rw[dL];refine((p2.same s2).snoc (o8<|EN _ _ hb)).tk (Tk.lst cL) (Cells.imm λd iY=>?_);rcases bn.mp iY with h|h
    .exact jJ d<|gt (fj.mp h).1
    .rw[ar.mp h];exact(kl _ _ rfl)
   | false=>
    rw[hp]at dL;refine ny ?_;refine⟨ys,cL,by lia,EN,?_⟩;rw[dL];simpa using p2.same s2
  obtain⟨p1,p2⟩:=pp;rw[av (by lia)]at p2;have lN2:=p2.length;have FE:Cells (ms.filter p):=Jn jJ λd hd=>(fj.mp hd).1;have lf:(ms.filter p).length<=ms.length:=List.length_filter_le _ _;refine(mw _ rfl _ rfl R N2 rx ⟨tV,rfl,rfl,p1 _ _ mZ,pQ,cq<|lc<|by lia,λR3 hR3=>?_⟩);have s3:Same G (upd G R3<|.lst<|rx++tV):=Same.fresh _ hR3;have R3o:upd G R3 (.lst<|rx++tV) R3=some (.lst<|rx++tV):=j5;generalize upd G R3 (.lst<|rx++tV)=G3 at *;have mN:=p1.trans s3;have BJ:=s3 _ _ pQ;have EM:=p2.same s3;have pin:∀d,d∈ms->((!((ms.filter p).any λe=>b8 e d)) = !p d):=λd hd=>by
   obtain⟨r',c',rfl⟩:=jJ d hd
   congr 1
   rw[du,wz FE];constructor
   .intro h;obtain⟨e,he,ee⟩:=aw.mp h;obtain⟨h1,h2⟩:=fj.mp he;have:=af5 (jJ e h1) (kl r' c' rfl) ee;rw[<-this];exact h2
   .intro h;exact aw.mpr ⟨_,fj.mpr ⟨hd,h⟩,rfl⟩
  refine(lu _ rfl M ⟨rfl,⟨_,SqL.of<|mN _ _ BI⟩,λM4 hM4=>?_⟩);refine ni (xs:=mx) (λi ys G=>Same G3 G/\RepAll G ((ms.take i).filter λd=>!p d) ys) ⟨Same.fresh _ hM4,rfl⟩ (λi ys G pp=>SqL.of<|pp.1 _ _<|mN _ _ BI) (λi x ys G4 hx hi aQ aV pp=>?_) λmx4 G4 hDm aV pp=>?_
  .obtain⟨q1,q2⟩:=pp;obtain⟨b,r',c',rfl,hb,hd⟩:=qo jJ oC hx;have dL:=ur (p:=λd=>!p d) hd;have hb4:=q1 _ _<|mN _ _ hb;refine⟨Agree.set (Agree.refl _) rfl,?_⟩;refine(mw _ rfl _ rfl (.tuple [.int r',.int c']) N2 tV ⟨ms.filter p,o8 hb4,rfl,.inl<|q1 _ _ BJ,EM.same q1,(by simp[cy,ay]),_,rfl,?_⟩);rw[if_pos rfl,pin _<|ah hd];cases hp:p (.tuple [.int r',.int c'])with
   | true=>
    simp only[hp]at dL;refine ny ?_;refine⟨ys,aQ,by lia,q1,?_⟩;rw[dL];simpa using q2
   | false=>
    simp only[hp]at dL;refine mh ?_;refine⟨_,rfl,ng (by lia) aQ aV ⟨q1.new hM4,?_⟩⟩;rw[dL];refine(q2.snoc<|o8 hb4).tk (Tk.lst aQ) (Cells.imm λd iY=>?_);rcases bn.mp iY with h|h
    .exact jJ d<|gt (fj.mp h).1
    .rw[ar.mp h];exact(kl _ _ rfl)
  obtain⟨q1,q2⟩:=pp;rw[av (by lia)]at q2;have At:=mN.trans q1;have uJ:(ms.filter p++ms.filter λd=>!p d).Perm ms:=List.filter_append_perm p ms;refine(j1 _ ?_ R3 M4 N2 (rs++ms.filter p)<|me (ms.filter λd=>!p d) (ms.filter p) (rx++tV) mx4 tV ⟨rfl,sm.trans At,q1 _ _ R3o,((vU.same At).append (EM.same q1)),hDm,q2,q1 _ _ BJ,EM.same q1,?_,?_,by rw[be];lia,?_,rfl⟩)
  .have hl:=uJ.length_eq;rw[be]at hl;rw[if_neg dG];by_cases he:ms.filter p=[]
   .rw[if_pos he];lia
   .rw[if_neg he];have:0<(ms.filter p).length:=List.length_pos_iff.mpr he;lia
  .rw[List.append_assoc];exact(uJ.append_left rs).trans pm
  .rw[a7];refine agg con λb hb=>?_;obtain⟨d,hd,rfl⟩:=aw.mp hb;obtain⟨h1,h2⟩:=fj.mp hd;obtain⟨x,hx,t⟩:=List.any_eq_true.mp h2;exact⟨x,hx,((afv _ _).mp t).symm⟩
  .intro he x hx y hy ht;rw[he,gz]at hx;obtain⟨d,hd,rfl⟩:=aw.mp hy;have kX:=(fj.mp hd).1;have hp:p d=true:=List.any_eq_true.mpr ⟨x,hx,(afv _ _).mpr ht.symm⟩;have:d∈ms.filter p:=fj.mpr ⟨kX,hp⟩;rw[he]at this;cases this
 .have iF:ns=[]:=by
   have:nx.isEmpty=true:=by
    cases h:nx.isEmpty with
    | true=>rfl
    | false=>rw[h]at hstop;exact absurd rfl hstop
   rw[List.isEmpty_iff.mp this]at lN;exact fb.mp lN.symm
  refine⟨_,rfl,sZ0,λl hl=>?_⟩;have sl:Same H' (upd H' l<|.lst []):=Same.fresh _ hl;refine(kl (.list ms) (.list []) ⟨(kl M mx ⟨rfl,sl _ _ BI,oC.same sl⟩),(kl l ([]) ⟨rfl,j5,rfl⟩),?_,?_⟩)
  .have:ay ms<=2:=by
    clear oC lM lpm pm gZ;induction ms with
    | nil=>simp[ay]
    | cons d t ih=>
     obtain⟨r,c,rfl⟩:=jJ d (by simp);have:=ih λe he=>jJ e (by simp[he]);simp[ay,cy];lia
   simp[cy];lia
  rw[if_neg aj];refine q _ _ (sm.trans sl) ?_;have hem:b8 (.list ms) (.list [])=true↔ms=[]:=by
   cases ms with
   | nil=>simp[b8,PyData.eqvAll]
   | cons d t=>simp[b8,PyData.eqvAll]
  rw[hem];have yO:((rs.map cl)++(ms.map cl)).Perm (cs.map cl):=by rw[<-a7];exact pm.map cl
  constructor
  .intro e;rw[e,List.map_nil,gz]at yO;exact con.congr λx=>yO.symm.mem_iff
  .intro hC;have aU:=hC.closed (R:=rs.map cl) (λx hx=>yO.mem_iff.mp<|fh _ hx) ⟨_,dq (l:=rs.map cl) (n:=0)<|by simpa using ED⟩ (λx hx y hy t=>by
    rcases bn.mp (yO.mem_iff.mpr hy)with h|h
    .exact h
    .exact absurd t<|gZ iF x hx y h)
   have mU:=yO.nodup_iff.mpr fY;apply dg;intro dG;obtain⟨d,hd⟩:=List.exists_mem_of_ne_nil ms dG;have h1:=aU (cl d)<|yO.mem_iff.mp<|bu _<|b9 hd;exact(List.nodup_append.mp mU).2.2 (cl d) h1 (cl d) (b9 hd) rfl
noncomputable def nb(r c:Int):U Cl:=[(r,c+1),(r+1,c),(r,c-1),(r-1,c)]
def auu{r c:Int}{b:Cl}(h:Tch (r,c) b):b∈nb r c:=by obtain⟨x,y⟩:=b;unfold Tch at h;simp only at h;unfold nb;simp only[ap,Prod.mk.injEq,bz,or_false];lia
def auy{r c:Int}{b:Cl}(h:b∈nb r c):Tch (r,c) b:=by obtain⟨x,y⟩:=b;unfold nb at h;simp only[ap,Prod.mk.injEq,bz,or_false]at h;unfold Tch;simp only;lia
def aeg{R S:U Cl}(hR:R.Nodup)(hs:∀x,x∈R->x∈S)(hl:S.length<=R.length):∀x,x∈S->x∈R:=λx hx=>by
 apply dg;intro hn;have h1:(x::R).Nodup:=g0.mpr ⟨hn,hR⟩;have:=cw h1 (l₂:=S) (λy hy=>by
  rcases ap.mp hy with rfl|hy
  .exact hx
  .exact hs y hy)
 rw[ba]at this;lia
theorem xm:∀{S R:U Cl},R.Nodup->(∀x,x∈R->x∈S)->S.length<=R.length->S.Nodup
 | [],_,_,_,_=>List.nodup_nil
 | a::S,R,hR,hs,hl=>by
  have aU:=aeg hR hs hl;have FG:a∉S:=λha=>by
   have:=cw hR (l₂:=S) (λy hy=>by
    rcases ap.mp (hs y hy)with rfl|h
    .exact ha
    .exact h)
   rw[ba]at hl;lia
  refine g0.mpr ⟨FG,xm (R:=R.erase a) (hR.erase a) (λx hx=>?_) ?_⟩
  .have iK:=(List.Nodup.mem_erase_iff hR).mp hx;rcases ap.mp (hs x iK.2)with e|h
   .exact absurd e iK.1
   .exact h
  .rw[List.length_erase_of_mem (aU a ak)];rw[ba]at hl;lia
def ajz:Sp:=λvs H Q _=>∃(a:aF)(xs:U V)(cs:U Z9),vs=[.ref a]/\H a=some (.lst xs)/\RepAll H cs xs/\Cells cs/\(cs.map cl).Nodup/\0<cs.length/\cs.length<=6/\∀(b:Bool)(H':Hp),Same H H'->(b=true↔Conn (cs.map cl))->Q (.bl b) H'
def scHangs:km ["_law_cells","_law_reached","_law_spot","_law_row","_law_column","_law_cell"] ["_law_cells"] (kb Ij):={}
theorem amk(B:∀x∈qy,mg x=none)(F:Fun K "_law_hangs" "_law_hangs" Ij f fd):p9 P w K mg base CX0 1 f fd ["_law_cells"] ajz:=by
 refine F.ok (k:=0) scHangs (λvs H Q E h=>?_) λbE A outer s H vs Q E hr h=>?_
 .obtain⟨a,xs,cs,rfl,_⟩:=h;rfl
 obtain⟨a,xs,cs,rfl,ha,dJ,fF,fY,dW,Fh,q⟩:=h;have hu:=hr.units;have hxl:=dJ.length;have h0x:0<xs.length:=by lia
 obtain⟨b0,r0,c0,hv0,hb0,uW⟩:=qo fF dJ<|aa h0x;have Ga:atI xs ((0:Nat):Int)=some (.ref b0):=mm (by rw[aa h0x,hv0]);refine⟨_,(j3 (ma (i:=1) scHangs.nd rfl (Or.inl rfl)<|ou<|j8 (kr m9 (pv 0) j2 λ_ _=>rfl) jz)
  (j3 (ma (i:=2) scHangs.nd rfl (Or.inl rfl) j2)
  (j3 (ag9 cx (mi Hz (pv 2) (kq kj rfl (B "len"<|by decide) bb<|j8 (pv 1) jz)<|l4 _) (j3 (Ac (kr m9 (pv 1) (pv 2) λ_ _=>rfl)<|wa (n:=2) rfl<|k7 (j9 (i:=3) scHangs.nd rfl<|Or.inl rfl)<|k7 (j9 (i:=4) scHangs.nd rfl<|Or.inl rfl) qm)
  (j3 (qt cx rfl (oh<|ou<|j8 (on<|j8 (pv 3)<|j8 (m8 o5 (pv 4) j2) jz)<|j8 (on<|j8 (m8 o5 (pv 3) j2)<|j8 (pv 4) jz)<|j8 (on<|j8 (pv 3)<|j8 (m8 tq (pv 4) j2) jz)<|j8 (on<|j8 (m8 tq (pv 3) j2)<|j8 (pv 4) jz) jz) (j9 (i:=5) scHangs.nd rfl<|Or.inl rfl)<|j4<|nv (PW.pt<|aod (mi (DW hu) (pv 5) (pv 0) rfl)<|aki<|mi (vc hu) (pv 5) (pv 1) rfl) (j4<|uo<|sw fc eu e8 pk (pv 1)<|j8 (pv 5) jz) ku)
  (j4<|au4 (i:=2) scHangs.nd rfl (Or.inl rfl) j2 aup))))
  (j4<|ke<|m5 uf (kq kj rfl (B "len"<|by decide) bb<|j8 (pv 1) jz) (kq kj rfl (B "len"<|by decide) bb<|j8 (pv 0) jz)<|l4 _)))),?_⟩
 refine(j1 _ rfl a xs 0 _ ⟨rfl,rfl,SqL.of ha,Ga,sZ1,λR hR=>?_⟩);have naR:a≠R:=l7 ha hR;have R1:upd H R (.lst [.ref b0]) R=some (.lst [.ref b0]):=j5;have s1:Same H (upd H R<|.lst [.ref b0]):=Same.fresh _ hR;have a1:=s1 _ _ ha;have oE:=dJ.same s1;have cb1:=s1 _ _ hb0;generalize upd H R (.lst [.ref b0])=H1 at *;refine⟨λm σ' H'=>∃(sp:Nat)(y3 y4 y5:Option V)(rs:U Z9)(qK:U V),σ'=[some (.ref a),some<|.ref R,some<|.int (sp:Nat),y3,y4,y5]/\Ex [R] H1 H'/\H' R=some (.lst qK)/\RepAll H' rs qK/\Cells rs/\(rs.map cl).Nodup/\(∀x,x∈rs.map cl->x∈cs.map cl)/\Conn (rs.map cl)/\0<rs.length/\
  (∀(i:Nat)(d:Z9),i<sp->rs[i]?=some d->∀x,x∈cs.map cl->Tch (cl d) x->x∈rs.map cl)/\m=cs.length-sp,?_,?_⟩
 .refine(me _ 0 none none none<|kl ([.tuple [.int r0,.int c0]]) ([.ref b0]) ⟨rfl,Ex.refl _ _,R1,(kl _ _ ⟨rfl,o8 cb1,rfl⟩),λd hd=>?_,by simp,λx hx=>?_,Conn.one _,by simp,λi d hi=>by lia,rfl⟩)
  .rw[ar.mp hd];exact(kl _ _ rfl)
  .rw[ar.mp hx];exact aw.mpr ⟨_,ah uW,rfl⟩
 rintro m σ' H' ⟨sp,y3,y4,y5,rs,qK,rfl,dM,mZ,vX,Db,mU,iD,uX,A9,gZ,rfl⟩;have Fq:=vX.length;have uQ:rs.length<=cs.length:=by have:=cw mU λx hx=>iD x hx;simpa using this
 have qH:Tk H1 H':=dM.one R1;have a':H' a=some (.lst xs):=dM.at naR a1;have EE:RepAll H' cs xs:=oE.tk qH fF.imm;refine(o7 _ rfl _ rfl R _ rfl (.inl<|SqL.of mZ) _<|my _ rfl rfl _ ⟨rfl,?_⟩);refine oy (λbL=>?_) λhge=>?_
 .have wM:sp<qK.length:=by
   have:(sp:Int)<((qK.length:Nat):Int):=of_decide_eq_true bL;lia
  refine⟨λσ2 H2=>∃(z3 z4 z5:Option V)(eR:U Z9)(eI:U V),σ2=[some (.ref a),some<|.ref R,some<|.int ((sp+1:Nat):Int),z3,z4,z5]/\Ex [R] H1 H2/\H2 R=some (.lst eI)/\RepAll H2 eR eI/\Cells eR/\(eR.map cl).Nodup/\(∀x,x∈eR.map cl->x∈cs.map cl)/\Conn (eR.map cl)/\0<eR.length/\
   (∀(i:Nat)(d:Z9),i<sp+1->eR[i]?=some d->∀x,x∈cs.map cl->Tch (cl d) x->x∈eR.map cl),?_,?_⟩
  .rintro σ2 H2 ⟨z3,z4,z5,eR,eI,rfl,h1,h2,h3,h4,h5,h6,h7,h8,h9⟩;exact(j1 _ (by lia) (sp+1) z3 z4 z5<|kl eR eI ⟨rfl,h1,h2,h3,h4,h5,h6,h7,h8,h9,rfl⟩)
  obtain⟨b,r,c,hv,hb,dZ⟩:=qo Db vX<|aa wM;have mY:atI qK ((sp:Nat):Int)=some (.ref b):=mm (by rw[aa wM,hv]);refine(mw _ rfl _ rfl R qK _<|xg _ rfl rfl (SqL.of mZ) mY b _ ⟨rfl,SqT.of hb,rfl,(kl _ _ ⟨rfl,(kl _ _ ⟨rfl,rfl,?_⟩)⟩)⟩);refine(qf _ rfl _ rfl _ _ ⟨rfl,rfl,sZ2,λq1 wE=>?_⟩);refine(mf _ rfl _ _ rfl rfl _ ⟨rfl,sZ2,λq2 yU=>?_⟩);refine(qf _ rfl _ rfl _ _ ⟨rfl,rfl,sZ2,λq3 Dd=>?_⟩);refine(mf _ rfl _ _ rfl rfl _ ⟨rfl,sZ2,λq4 yT=>⟨sZ4,λq5 A6=>?_⟩⟩);have k1:upd H' q1 (.tup [.int r,.int<|c+1]) q1=some (.tup [.int r,.int<|c+1]):=j5;have t1:Same H' (upd H' q1<|.tup [.int r,.int<|c+1]):=Same.fresh _ wE;generalize upd H' q1 (.tup [.int r,.int<|c+1])=G1 at *;have k2:upd G1 q2 (.tup [.int (r+1),.int c]) q2=some (.tup [.int (r+1),.int c]):=j5;have t2:Same G1 (upd G1 q2<|.tup [.int (r+1),.int c]):=Same.fresh _ yU;generalize upd G1 q2 (.tup [.int (r+1),.int c])=G2 at *;have k3:upd G2 q3 (.tup [.int r,.int<|c-1]) q3=some (.tup [.int r,.int<|c-1]):=j5;have t3:Same G2 (upd G2 q3<|.tup [.int r,.int<|c-1]):=Same.fresh _ Dd;generalize upd G2 q3 (.tup [.int r,.int<|c-1])=G3 at *;have k4:upd G3 q4 (.tup [.int (r-1),.int c]) q4=some (.tup [.int (r-1),.int c]):=j5;have t4:Same G3 (upd G3 q4<|.tup [.int (r-1),.int c]):=Same.fresh _ yT;generalize upd G3 q4 (.tup [.int (r-1),.int c])=G4 at *;have k5:upd G4 q5 (.lst [.ref q1,.ref q2,.ref q3,.ref q4]) q5=some (.lst [.ref q1,.ref q2,.ref q3,.ref q4]):=j5;have t5:Same G4 (upd G4 q5<|.lst [.ref q1,.ref q2,.ref q3,.ref q4]):=Same.fresh _ A6;generalize upd G4 q5 (.lst [.ref q1,.ref q2,.ref q3,.ref q4])=HB at *;have n5:q5≠R:=by have:=(((t1.trans t2).trans t3).trans t4) _ _ mZ;exact(l7 this A6).symm
  have Go:∀(i:Nat)(v:V),[V.ref q1,.ref q2,.ref q3,.ref q4][i]?=some v->∃(b:aF)(p q:Int),v=.ref b/\HB b=some (.tup [.int p,.int q])/\(nb r c)[i]?=some (p,q):=by
   intro i v hv
   match i,hv with
   | 0,hv=>cases hv;exact(lq q1 r (c+1) ⟨rfl,t5 _ _<|t4 _ _<|t3 _ _<|t2 _ _ k1,rfl⟩)
   | 1,hv=>cases hv;exact(lq q2 (r+1) c ⟨rfl,t5 _ _<|t4 _ _<|t3 _ _ k2,rfl⟩)
   | 2,hv=>cases hv;exact(lq q3 r (c-1) ⟨rfl,t5 _ _<|t4 _ _ k3,rfl⟩)
   | 3,hv=>cases hv;exact(lq q4 (r-1) c ⟨rfl,t5 _ _ k4,rfl⟩)
   | i+4,hv=>simp at hv
  have sB:Same H' HB:=(((t1.trans t2).trans t3).trans t4).trans t5;have RB:=sB _ _ mZ;have EH:=vX.same sB;have Aw:=EE.same sB;have aB:=sB _ _ a';refine⟨q5,rfl,⟨_,SqL.of k5⟩,?_⟩;refine ag1 (xs:=[V.ref q1,.ref q2,.ref q3,.ref q4]) (λj σ2 H2=>∃(z5:Option V)(eR ex:U Z9)(eI:U V),σ2=[some (.ref a),some<|.ref R,some<|.int (sp:Nat),some<|.int r,some<|.int c,z5]/\Ex [R] HB H2/\H2 R=some (.lst eI)/\RepAll H2 eR eI/\Cells eR/\(eR.map cl).Nodup/\(∀x,x∈eR.map cl->x∈cs.map cl)/\Conn (eR.map cl)/\eR=rs++ex/\
   (∀(i:Nat)(x:Cl),i<j->(nb r c)[i]?=some x->x∈cs.map cl->x∈eR.map cl)) ?_ (λj σ2 H2 hj h=>?_) (λj x σ2 H2 hx h=>?_) λσ2 H2 h=>?_
  .exact(li _ rs ([]) qK ⟨rfl,Ex.refl _ _,RB,EH,Db,mU,iD,uX,by simp,λi x hi=>by lia⟩)
  .obtain⟨_,_,_,_,_,e2,_⟩:=h;exact SqL.of<|e2.at n5 k5
  .obtain⟨z5,eR,ex,eI,rfl,iG,R2,eT,kS,oI,mL,pV,e2,BY⟩:=h;obtain⟨b2,p,q',rfl,Dq,Di⟩:=Go j x hx;have rW:Tk HB H2:=iG.one RB;have GL:=rW _ _ Dq;have a2:=iG.at naR aB;have rc2:=Aw.tk rW fF.imm;have gL:=eT.length;have hle2:eR.length<=cs.length:=by
    have:=cw oI λx hx=>mL x hx;simpa using this
   refine(mw _ rfl _ rfl (.tuple [.int p,.int q']) a xs ⟨cs,o8 GL,rfl,.inl a2,rc2,(by simp[cy,ay]),_,rfl,?_⟩);refine oy (λh1=>?_) λh1=>?_
   .have inc:(p,q')∈cs.map cl:=(wz fF p q').mp h1;refine(mw _ rfl _ rfl (.tuple [.int p,.int q']) R eI ⟨eR,o8 GL,rfl,.inl R2,eT,(by simp[cy,ay]),_,rfl,?_⟩);refine oy (λh2=>?_) λh2=>?_
    .have nin:(p,q')∉eR.map cl:=λz=>by
      rw[if_pos rfl,(wz kS p q').mpr z]at h2;cases h2
     refine(ab8 _ rfl (.inl ⟨rfl,_,SqL.of R2⟩) _ rfl R eI (.ref b2) ⟨rfl,rfl,R2,lc<|by lia,?_⟩);have A4:Cells (eR++[.tuple [.int p,.int q']]):=λz hz=>by
      rcases bn.mp hz with h|h
      .exact kS z h
      .rw[ar.mp h];exact(kl _ _ rfl)
     refine(li _ (eR++[.tuple [.int p,.int q']]) (ex++[.tuple [.int p,.int q']]) (eI++[.ref b2]) ⟨rfl,iG.trans<|Ex.upd<|by simp,j5,((eT.snoc<|o8 GL).tk (Tk.lst R2) A4.imm),A4,?_,?_,?_,by rw[e2];simp,?_⟩)
     .rw[a7,List.nodup_append];refine⟨oI,by simp,λx hx y hy Gr=>?_⟩;rw[Gr,ar.mp hy]at hx;exact nin hx
     .intro x hx;rw[a7]at hx;rcases bn.mp hx with h|h
      .exact mL x h
      .rw[ar.mp h];exact inc
     .rw[a7];refine pV.snoc (a:=(r,c)) ?_ ?_
      .rw[e2,a7];exact fh _<|aw.mpr ⟨_,ah dZ,rfl⟩
      .show Tch (r,c) (p,q');exact auy<|ah Di
     .intro i x hi oP sM;rw[a7];by_cases eC:i<j
      .exact fh _<|BY i x eC oP sM
      .have:i=j:=by lia
       rw[this,Di]at oP;cases oP;exact bu _<|ar.mpr rfl
    .have yin:(p,q')∈eR.map cl:=by
      refine(wz kS p q').mp ?_;rw[if_pos rfl]at h2;simpa using h2
     refine(li _ eR ex eI ⟨rfl,iG,R2,eT,kS,oI,mL,pV,e2,λi x hi oP sM=>?_⟩);by_cases eC:i<j
     .exact BY i x eC oP sM
     .have:i=j:=by lia
      rw[this,Di]at oP;cases oP;exact yin
   .refine(li _ eR ex eI ⟨rfl,iG,R2,eT,kS,oI,mL,pV,e2,λi x hi oP sM=>?_⟩);by_cases eC:i<j
    .exact BY i x eC oP sM
    .have:i=j:=by lia
     rw[this,Di]at oP;cases oP;exact absurd ((wz fF p q').mpr sM) h1
  .obtain⟨z5,eR,ex,eI,rfl,iG,R2,eT,kS,oI,mL,pV,e2,BY⟩:=h;refine(m6 _ rfl _ _ ⟨rfl,rfl,?_⟩);refine(me _ _ _ eR eI ⟨rfl,(dM.trans<|Ex.of_same sB).trans iG,R2,eT,kS,oI,mL,pV,by rw[e2];simp;lia,λi d hi Do x sM hT=>?_⟩);have Fp:sp<rs.length:=by lia
   by_cases eC:i<sp
   .rw[e2,bp<|by lia]at Do;have:=gZ i d eC Do x sM hT;rw[e2,a7];exact fh _ this
   .have ei:i=sp:=by lia
    rw[ei,e2,bp Fp,dZ]at Do;cases Do;have hT':Tch (r,c) x:=hT;obtain⟨k,hk⟩:=dw<|auu hT';have hk4:k<4:=(af.mp hk).1;exact BY k x hk4 hk sM
 .have FY:qK.length<=sp:=by
   have:¬(sp:Int)<((qK.length:Nat):Int):=by simpa using hge
   lia
  have sV:∀x,x∈rs.map cl->∀y,y∈cs.map cl->Tch x y->y∈rs.map cl:=λx hx y hy t=>by obtain⟨d,hd,rfl⟩:=aw.mp hx;obtain⟨k,hk⟩:=dw hd;have dX:k<rs.length:=(af.mp hk).1;exact gZ k d (by lia) hk y hy t
  refine(mf _ rfl R _ rfl (.inl<|SqL.of mZ) _ ⟨rfl,(kl a _ ⟨rfl,.inl<|SqL.of a',rfl,?_⟩)⟩);refine q _ H' (λb' o bZ=>dM.at (l7 bZ hR)<|s1 _ _ bZ) ?_;rw[decide_eq_true_iff];constructor
  .intro e;injection e with e
   have el:rs.length=cs.length:=by lia
   have back:∀x,x∈cs.map cl->x∈rs.map cl:=aeg mU iD (by rw[ac,ac];lia);exact uX.congr λx=>⟨back x,iD x⟩
  .intro hC;have all:=hC.closed (R:=rs.map cl) iD ⟨_,dq (l:=rs.map cl) (n:=0)<|by simpa using A9⟩ sV;have el:(rs.map cl).length=(cs.map cl).length:=xz fY mU λx=>⟨iD x,all x⟩;rw[ac,ac]at el;rw[Fq,hxl,el]
noncomputable def ux(d:Z9):Z9:=.tuple [.int (v7 d),.int<|wg d]
def x8(ds:U Z9):(ds.map ux).map cl=ds.map cl:=by rw[gb];rfl
def nz(ds:U Z9):Cells (ds.map ux):=λd hd=>by obtain⟨e,_,rfl⟩:=aw.mp hd;exact(kl _ _ rfl)
section
variable{K:au}{a:aF}{xs:U V}{ds:U Z9}{σ:L2.St}{H:Hp}{Q:VK}
def vp{i0:Nat}(j:Int)(pr:Z9->Int)(hj:∀(r c:Int)(x:Str),atI [V.int r,.int c,.str x] j=some (.int<|pr<|.tuple [.int r,.int c,.str x]))
  (hσ:σ[i0]?=some (some<|.ref a)) (ha:H a=some (.lst xs)\/H a=some (.tup xs)) (hr:RepAll H ds xs) (hs:Spots ds) (hl:ds.length<=64)
  (q:∀D H',Same H H'->H' D=some (.lst<|(ds.map pr).map V.int)->Q (.ref D) H') :
  rL (Hc K<|yb i0) [none] (rn 0) sq (tOp (vH K) (yb 0)<|tC<|.int j) σ H Q:=by
 have aR:=hr.length;refine(lu _ hσ a ⟨rfl,ahe ha (λD i ys H'=>Same H H'/\ys=((ds.take i).map pr).map V.int) (λD hD=>⟨Same.fresh _ hD,rfl⟩) (λD i ys H' p=>p.1) (λD i x ys H' hD hx hi aQ aV p=>?_) λD ys H' hD aQ aV p=>?_⟩)
 .obtain⟨p1,rfl⟩:=p;obtain⟨b,r,c,z,rfl,hb,hz,hd⟩:=hs.at hr hx;refine⟨Agree.set (Agree.refl _) rfl,?_⟩;dsimp only[sq];refine mh ?_;refine(j1 _ rfl b _ _ _ ⟨rfl,rfl,SqT.of<|p1 _ _ hb,hj r c z,ng (by lia) aQ aV ⟨p1.new hD,?_⟩⟩);rw[kc pr hd,a7];rfl
 .obtain⟨p1,rfl⟩:=p;refine q D H' p1 ?_;rw[aQ,av<|by lia]
def am6{i0:Nat}(hσ:σ[i0]?=some (some<|.ref a))(ha:H a=some (.tup xs))(hr:RepAll H ds xs)(hs:Spots ds)(hl:ds.length<=64)
  (q:∀D ys H',Same H H'->H' D=some (.lst ys)->RepAll H' (ds.map ux) ys->Q (.ref D) H') :
  rL (GN K<|yb i0) [none,none,none] (zP K 3<|yg (rn 0)<|yg (rn 1)<|yg (rn 2) B3) sq (B2<|ye (yb 0)<|ye (yb 1) zS) σ H Q:=by
 have aR:=hr.length;refine(lu _ hσ a ⟨rfl,⟨_,SqT.of ha⟩,λD hD=>?_⟩);refine p8 (xs:=xs) (λi ys H'=>Same H H'/\RepAll H' ((ds.take i).map ux) ys) ⟨Same.fresh _ hD,rfl⟩ (λi ys H' p=>SqT.of<|p.1 _ _ ha) (λi x ys H' hx hi aQ aV p=>?_) λys H' aQ aV p=>?_
 .obtain⟨p1,p2⟩:=p;obtain⟨b,r,c,z,rfl,hb,hz,hd⟩:=hs.at hr hx;refine(nw b _ rfl (SqT.of<|p1 _ _ hb) rfl _ _ rfl _<|m6 _ rfl _ _ ⟨rfl,rfl,?_⟩);refine⟨Agree.set (Agree.set (Agree.set (Agree.refl _) rfl) rfl) rfl,?_⟩;dsimp only[sq];refine mh ?_;refine(lu _ rfl _ ⟨rfl,sZ2,λn hn=>?_⟩);have im:oo (((ds.take i).map ux)++[.tuple [.int r,.int c]])=true:=Cells.imm λd iY=>by
   rcases bn.mp iY with h|h
   .exact nz _ d h
   .rw[ar.mp h];exact(kl _ _ rfl)
  have mP:Same H' (upd H' n<|.tup [.int r,.int c]):=Same.fresh _ hn;have pQ:=mP _ _ aQ;have oR:RepAll (upd H' n<|.tup [.int r,.int c]) (((ds.take i).map ux)++[.tuple [.int r,.int c]]) (ys++[.ref n]):=(p2.same mP).snoc (o8 j5);refine ng (by lia) pQ aV ⟨(p1.trans mP).new hD,?_⟩;rw[kc ux hd];exact oR.tk (Tk.lst pQ) im
 .obtain⟨p1,p2⟩:=p;rw[av (by lia)]at p2;exact q D ys H' p1 aQ p2
end
def FormP(H:Hp)(v:V):Prop:=∃a xs ds,v=.ref a/\H a=some (.tup xs)/\RepAll H ds xs/\Frm ds
def aif{H:Hp}{d:Z9}{x:V}(h:Rep H d x)(hd:SgD d):qx H x=true:=by obtain⟨r,c,k,rfl,h1,h2⟩:=hd;obtain⟨a,rfl,ha,_⟩:=zq h;rw[qj,ha];show vJ (.int r) (.int c) (.str ⟨#[k]⟩)=true;show(true&&true&&(decide (65<=k)&&decide (k<=90)))=true;rw[decide_eq_true h1,decide_eq_true h2];rfl
theorem aqx{H:Hp}{x:V}(h:qx H x=true):∃d,Rep H d x/\SgD d:=by
 cases x with
 | ref a=>
  rw[qj]at h;split at h
  .rename_i x y z ha
   unfold vJ at h;rw[cb,cb]at h;obtain⟨⟨hx,hy⟩,hz⟩:=h;cases x with
   | int r=>
    cases y with
    | int c=>
     cases z with
     | str z=>
      have lW:sg1 z=true:=hz;by_cases hl:z.length=1
      .obtain⟨k,rfl⟩:=Cf hl;rw[Ef,cb]at lW;have k1:=of_decide_eq_true lW.1;have k2:=of_decide_eq_true lW.2;refine⟨.tuple [.int r,.int c,.str ⟨#[k]⟩],vn ha (Tx.ok ⟨by show 1<=80;lia,λx hx=>by
        have:x=k:=by simpa using hx
        lia⟩),r,c,k,rfl,k1,k2⟩
      .rw[Cp hl]at lW;cases lW
     | _=>cases hz
    | _=>cases hy
   | _=>cases hx
  .cases h
 | _=>cases h
theorem zn{H:Hp}:∀{xs:U V},xs.all (qx H)=true->∃ds,RepAll H ds xs/\∀d∈ds,SgD d
 | [],_=>⟨[],rfl,λd hd=>by cases hd⟩
 | x::xs,h=>by
  rw[List.all_cons,cb]at h;obtain⟨d,h1,h2⟩:=aqx h.1;obtain⟨ds,h3,h4⟩:=zn h.2;refine⟨d::ds,(kl x xs ⟨rfl,h1,h3⟩),λe he=>?_⟩;rcases ap.mp he with rfl|he
  .exact h2
  .exact h4 e he
theorem xh{H:Hp}:∀{ds:U Z9} {xs:U V},RepAll H ds xs->(∀d∈ds,SgD d)->xs.all (qx H)=true
 | [],xs,h,_=>by have e:xs=[]:=h;rw[e];rfl
 | d::ds,xs,h,hs=>by obtain⟨x,t,rfl,h1,h2⟩:=h;rw[List.all_cons,aif h1<|hs d ak,xh h2 λe he=>hs e<|ao _ he];rfl
theorem IK{H:Hp}:∀{ds es:U Z9} {xs:U V},RepAll H ds xs->RepAll H es xs->(∀d∈ds,SgD d)->(∀d∈es,SgD d)->ds=es
 | [],[],_,_,_,_,_=>rfl
 | [],e::es,xs,h1,h2,_,_=>by have e1:xs=[]:=h1;obtain⟨x,t,e2,_⟩:=h2;rw[e1]at e2;cases e2
 | d::ds,[],xs,h1,h2,_,_=>by have e1:xs=[]:=h2;obtain⟨x,t,e2,_⟩:=h1;rw[e1]at e2;cases e2
 | d::ds,e::es,xs,h1,h2,s1,s2=>by obtain⟨x,t,rfl,a1,b1⟩:=h1;obtain⟨x',t',e',a2,b2⟩:=h2;cases e';obtain⟨r,c,k,rfl,_⟩:=s1 d ak;obtain⟨r',c',k',rfl,_⟩:=s2 e ak;obtain⟨p,rfl,hp,_⟩:=zq a1;obtain⟨p',ep,hp',_⟩:=zq a2;cases ep;rw[hp]at hp';cases hp';rw[IK b1 b2 (λz hz=>s1 z<|ao _ hz) (λz hz=>s2 z<|ao _ hz)]
def FormP.same{H H':Hp}{a:aF}{xs:U V}{ds:U Z9}(ha:H a=some (.tup xs))(cD:RepAll H ds xs)(hs:∀d∈ds,SgD d):FormP H (.ref a)↔Frm ds:=by
 constructor
 .rintro⟨b,ys,es,e,hb,r,fr⟩;cases e;rw[ha]at hb;cases hb;rw[IK cD r hs fr.1.pre.sg];exact fr
 .intro h;exact(lq a xs ds ⟨rfl,ha,cD,h⟩)
def air{ds:U Z9}(h:Frm ds):qd (og ds)=ds:=by
 have e:og ds=ds:=by unfold og;rw[h.1.r0,h.1.c0];refine(iq λd hd=>?_).trans (List.map_id ds);obtain⟨r,c,k,rfl,_⟩:=h.1.pre.sg d hd;show PyData.tuple [.int (r-0),.int<|c-0,.str ⟨#[k]⟩]=_;rw[Int.sub_zero,Int.sub_zero];rfl
 rw[e];exact akw h<|gw _
def aur{ds:U Z9}(pre:Pre ds)(e:qd (og ds)=ds):Frm ds:=by have hz:=Zr.shift pre;have h:=Frm.of hz;rw[e]at h;exact h
theorem atc{ds:U Z9}(h:∀d∈ds,SgD d):v4 ds=true:=by
 induction ds with
 | nil=>rfl
 | cons d t ih=>
  obtain⟨r,c,k,rfl,_⟩:=h d ak;show(kd _&&v4 t)=true;rw[ih λe he=>h e<|ao _ he];rfl
theorem amf{ds:U Z9}(h:∀d∈ds,SgD d):ay ds<=2:=by
 induction ds with
 | nil=>simp[ay]
 | cons d t ih=>
  obtain⟨r,c,k,rfl,_⟩:=h d (by simp);have:=ih λe he=>h e (by simp[he]);simp[ay,cy];lia
def al1(d:Z9):DN (ux d):=⟨rfl,⟨_,rfl⟩,by show(PyData.tuple [.int _,.int _]).depth<8;simp[cy,ay]⟩
noncomputable abbrev G6(mg:Str->Option aA):Prop:=∃t,mg "MOST_SPOTS" = some (.int 6 t)
def Hl:Sp:=λvs H Q _=>∃a xs ds,vs=[.ref a]/\(H a=some (.lst xs)\/H a=some (.tup xs))/\RepAll H ds xs/\Spots ds/\0<ds.length/\ds.length<64/\∀r H',Same H H'->Rep H' (.tuple<|qd<|og ds) (.ref r)->Q (.ref r) H'
def scFmd:km ["spots","top","left"] ["spots"] (kb Hb):={}
def at8(B:∀x∈qy,mg x=none)(F:Fun K "formed" "formed" Hb f fd):p9 P w K mg base CX0 1 f fd ["spots"] Hl:=by
 refine F.ok (k:=0) scFmd (λvs H Q E h=>?_) λbE A outer s H vs Q E hr h=>?_
 .obtain⟨a,xs,ds,rfl,_⟩:=h;rfl
 obtain⟨a,xs,ds,rfl,ha,dJ,hs,dW,nA,q⟩:=h;refine⟨_,(j3 (ma (i:=1) scFmd.nd rfl (Or.inr rfl)<|aig rfl rfl (B "min"<|by decide) (j8 (mj ZZ [none] rfl rfl (by decide +kernel) (by decide +kernel) rfl rfl (Af<|pv 0) (λ_=>(j9 (i:=0) (show(ZZ:U PySem.Str).Nodup by decide +kernel) rfl<|Or.inl rfl)) (λ_=>lr) λ_=>(kr pb (pv 0) j2 λ_ _=>rfl)) jz)<|akg j2 aoi)
  (j3 (ma (i:=2) scFmd.nd rfl (Or.inr rfl)<|aig rfl rfl (B "min"<|by decide) (j8 (mj ZZ [none] rfl rfl (by decide +kernel) (by decide +kernel) rfl rfl (Af<|pv 0) (λ_=>(j9 (i:=0) (show(ZZ:U PySem.Str).Nodup by decide +kernel) rfl<|Or.inl rfl)) (λ_=>lr) λ_=>(kr pb (pv 0) j2 λ_ _=>rfl)) jz)<|akg j2 aoi)
  (j4<|ke<|wn nq rfl (B "tuple"<|by decide) e9<|j8 (kq zc rfl (B "sorted"<|by decide) jW<|j8 (mj ZQ [none,none,none,some 1,some 2] rfl rfl (by decide +kernel) (by decide +kernel) rfl rfl (Af<|pv 0) (λ_=>(D9 (n:=3) rfl<|k7 (j9 (i:=0) (show(ZQ:U PySem.Str).Nodup by decide +kernel) rfl<|Or.inl rfl)<|k7 (j9 (i:=1) (show(ZQ:U PySem.Str).Nodup by decide +kernel) rfl<|Or.inl rfl)<|k7 (j9 (i:=2) (show(ZQ:U PySem.Str).Nodup by decide +kernel) rfl<|Or.inl rfl) qm)) (λ_=>lr) λ_=>(on<|j8 (m8 tq (pv 0)<|pv 3)<|j8 (m8 tq (pv 1)<|pv 4)<|j8 (pv 2) jz)) jz) jz))),?_⟩
 refine vp 0 v7 Iz rfl ha dJ hs (cq nA) λD1 H1 s1 qZ=>?_;refine⟨rfl,(kl D1 _ ⟨rfl,qZ,by rw[ac];exact dW,λM1 m1 tY=>?_⟩)⟩;refine vp 1 wg HV rfl (ha.imp (s1 _ _)<|s1 _ _) (dJ.same s1) hs (cq nA) λD2 H2 s2 cL=>?_;refine⟨rfl,(kl D2 _ ⟨rfl,cL,by rw[ac];exact dW,λM2 m2 tX=>?_⟩)⟩;have cT:=s1.trans s2;refine aia (sj M1 M2) rfl rfl (ha.imp (cT _ _)<|cT _ _) (dJ.same cT) hs (by lia) (λr c z H' Q' h=>?_) (λr c z=>(kl _ _ rfl)) λD ys H3 hD s3 qY eS=>?_
 .obtain⟨u,v,e,q⟩:=h;cases (show PyData.tuple [.int (r-M1),.int<|c-M2,.str z]=.tuple [.int u,.int v,.str z]from e);exact(o7 _ rfl _ rfl _ _ rfl rfl _ ⟨rfl,(mf _ rfl _ _ rfl rfl _ ⟨rfl,sZ3,q⟩)⟩)
 .have e:ds.map (sj M1 M2)=og ds:=by unfold og;rw[um m1 tY,um m2 tX]
  rw[e]at eS;refine(li D ys _ ([true,false]) ⟨rfl,qY,eS,(by rw[<-e];exact abi hs _ _),by unfold og;rw[ac];exact nA,λl1 zs iL hz=>?_⟩);refine(kl l1 zs ⟨rfl,.inl ⟨SqL.of j5,λl2 gL=>?_⟩⟩);have t1:Same H3 (upd H3 l1<|.lst zs):=Same.fresh _ iL;have t2:Same (upd H3 l1<|.lst zs) (upd (upd H3 l1<|.lst zs) l2<|.tup zs):=Same.fresh _ gL;exact q l2 _ (((cT.trans s3).trans t1).trans t2)<|kl l2 zs ⟨rfl,j5,hz.same t2⟩
def DJ:Sp:=λvs H Q _=>∃v,vs=[v]/\Kn3 H v/\∀(b:Bool)(H':Hp),Same H H'->(b=true↔FormP H v)->Q (.bl b) H'
def scPf:km ["found","cells"] Z8 (kb sPf):={}
def lg{A:Prop}(h:¬A):(false=true↔A):=⟨(λz=>by cases z),λz=>absurd z h⟩
theorem awf(B:∀x∈qy,mg x=none)(g6:G6 mg)(Jx:Fn P w K mg base "is_spot" 2 Z8 DH)(yA:Fn P w K mg base "formed" 1 ["spots"] Hl)(Fph:Fn P w K mg base "hang_together" 3 ["cells"] axd)
  (F:Fun K "is_form" "is_form" sPf f fd):p9 P w K mg base CX0 4 f fd Z8 DJ:=by
 refine F.ok (k:=3) scPf (λvs H Q E h=>?_) λbE A outer s H vs Q E hr h=>?_
 .obtain⟨c,rfl,_⟩:=h;rfl
 obtain⟨v,rfl,hv,q⟩:=h;have hu:=hr.units;refine⟨_,(j3 (nv (PW.pt<|o6 (k9<|mq<|kq kh rfl (B "isinstance"<|by decide) bi<|j8 (pv 0)<|j8 (nc (v:=.ty "tuple") rfl (B "tuple"<|by decide) e9 rfl) jz)<|oe<|k9<|ox qc qc j2 (kq kj rfl (B "len"<|by decide) bb<|j8 (pv 0) jz)<|rg g6 rfl) (j4<|ke om) ku)
  (j3 (nv (k9<|mq<|kq (ow rfl) rfl (B "all"<|by decide) bP<|j8 (mj ZZ [none] rfl rfl (by decide +kernel) (by decide +kernel) rfl rfl (rq<|pv 0) (λ_=>(j9 (i:=0) (show(ZZ:U PySem.Str).Nodup by decide +kernel) rfl<|Or.inl rfl)) (λ_=>lr) λ_=>(k8 Jx hr (by decide) rfl<|j8 (pv 0) jz)) jz) (j4<|ke om) ku)
  (j3 (sd (i:=1) ZP [none,none,none] scPf.nd rfl (Or.inl rfl) rfl rfl rfl (by decide +kernel) (by decide +kernel) rfl rfl (rq<|pv 0) (λ_=>(D9 (n:=3) rfl<|k7 (j9 (i:=0) (show(ZP:U PySem.Str).Nodup by decide +kernel) rfl<|Or.inl rfl)<|k7 (j9 (i:=1) (show(ZP:U PySem.Str).Nodup by decide +kernel) rfl<|Or.inl rfl)<|k7 (j9 (i:=2) (show(ZP:U PySem.Str).Nodup by decide +kernel) rfl<|Or.inl rfl) qm)) (λ_=>lr) λ_=>(on<|j8 (pv 0)<|j8 (pv 1) jz))
  (j3 (nv (mi Hz (ak9 rfl hu rfl (B "len"<|by decide) rfl (B "set"<|by decide)<|j8 (pv 1) jz) (kq kj rfl (B "len"<|by decide) bb<|j8 (pv 1) jz)<|l4 _) (j4<|ke om) ku)
  (j4<|ke<|oa (m5 (Ib hu) (pv 0) (k8 yA hr (by decide) rfl<|j8 (pv 0) jz)<|l4 _)<|o4<|k8 Fph hr (by decide) rfl<|j8 (pv 1) jz))))),?_⟩
 rcases D0 (K:=K) hv.1 with ⟨a,xs,rfl,ha⟩|⟨⟨t,ty,kt⟩,_,gX⟩
 .obtain⟨kB,kn⟩:=hv.2 a xs rfl ha;have no:(1<=xs.length->xs.length<=6->False)->¬FormP H (.ref a):=λhx ⟨b,ys,ds,e,hb,r,fr⟩=>by
   cases e;rw[ha]at hb;cases hb;have:=r.length;have h1:=fr.1.pre.pos;have h6:=fr.1.pre.six;exact hx (by lia)<|by lia
  refine(j1 _ rfl (.ref a) ("tuple") (.type "tuple") true ⟨rfl,.tup ha,rfl,true,rfl,ny ?_⟩);refine(mf _ rfl a xs rfl (.inr<|SqT.of ha) _<|my _ rfl rfl _ ⟨rfl,?_⟩);refine oy (λc1=>?_) λc1=>?_
  .have gA:(1:Int)<=(xs.length:Int):=of_decide_eq_true c1;refine(kl _ _ ⟨rfl,rfl,_,rfl,?_⟩);refine oy (λc2=>?_) λc2=>?_
   .have gN:¬((xs.length:Int)<=6):=by simpa using c2
    exact q false H (Same.refl H)<|lg<|no λ_ h=>by lia
   have gN:(xs.length:Int)<=6:=by simpa using c2
   refine(lu _ rfl a ⟨rfl,⟨_,SqT.of ha⟩,λD hD=>?_⟩);refine p8 (xs:=xs) (λi ys H'=>Same H H'/\ys=((xs.take i).map (qx H)).map V.bl) ⟨Same.fresh _ hD,rfl⟩ (λi ys H' p=>SqT.of<|p.1 _ _ ha) (λi x ys H' hx hi aQ aV p=>?_) λys H' aQ aV p=>?_
   .obtain⟨p1,rfl⟩:=p;have kx:=kn x<|ah hx;refine⟨Agree.set (Agree.refl _) rfl,?_⟩;dsimp only[sq];refine mh ?_;refine(lu _ rfl x ⟨rfl,kx.same p1,ng (by lia) aQ aV ⟨p1.new hD,?_⟩⟩);rw[kc (qx H) hx,a7,vq p1 kx.1];rfl
   obtain⟨p1,rfl⟩:=p;refine(kl D _ ⟨rfl,aQ,_,rfl,?_⟩);rw[av (aq _),ik];have pU:(xs.all<|id∘qx H)=xs.all (qx H):=rfl;rw[pU];cases aU:xs.all (qx H)with
   | false=>
    refine mh ?_;refine q false H' p1<|lg λ⟨b,ys,ds,e,hb,r,fr⟩=>?_;cases e;rw[ha]at hb;cases hb;rw[xh r fr.1.pre.sg]at aU;cases aU
   | true=>
    refine ny ?_;obtain⟨ds,cD,fW⟩:=zn aU;have hF:=FormP.same (H':=H) ha cD fW;have aR:=cD.length;have fG:=agd fW;refine am6 rfl (p1 _ _ ha) (cD.same p1) fG (by lia) λC mE H2 s2 hC iA=>?_;have cT:=p1.trans s2;have lC:=iA.length;rw[ac]at lC;refine(nk _ rfl C mE (ds.map ux) ⟨rfl,hC,iA,(λd hd=>by obtain⟨e,_,rfl⟩:=aw.mp hd;exact al1 e),by rw[ac];lia,λaW ER sK le'=>?_⟩);refine(mf _ rfl C mE rfl (.inl<|SqL.of hC) _<|my _ rfl rfl _ ⟨rfl,?_⟩);have AO:(aW.map cl).Nodup:=by show List.Pairwise _ _;rw[dt];refine gj ?_ ER;intro x y hx hy C8 e;exact C8<|af5 (nz ds x<|(sK x).mp hx) (nz ds y<|(sK y).mp hy) e
    have AG:∀x,x∈aW.map cl↔x∈ds.map cl:=λx=>by
     rw[<-x8 ds];constructor
     .intro h;obtain⟨d,hd,rfl⟩:=aw.mp h;exact b9<|(sK d).mp hd
     .intro h;obtain⟨d,hd,rfl⟩:=aw.mp h;exact b9<|(sK d).mpr hd
    refine oy (λbL=>?_) λhge=>?_
    .have wM:(aW.length:Int)<(mE.length:Int):=of_decide_eq_true bL;refine q false H2 cT<|lg λh=>?_;have fr:=hF.mp h;have el:=xz fr.1.pre.nd AO AG;rw[ac,ac]at el;lia
    .have FY:¬(aW.length:Int)<(mE.length:Int):=by simpa using hge
     have fY:(ds.map cl).Nodup:=xm AO (λx hx=>(AG x).mp hx) (by rw[ac,ac];lia);have h1:0<ds.length:=by lia
     have h6:ds.length<=6:=by lia
     refine(mw _ rfl _ rfl a xs ds ⟨rfl,.inr<|cT _ _ ha,cD.same cT,fG,h1,by lia,λr H5 s5 iB=>?_⟩);have C1:=cT.trans s5;refine(kl (.tuple ds) _ ⟨(kl a xs ⟨rfl,C1 _ _ ha,cD.same C1⟩),iB,?_,_,rfl,?_⟩)
     .have:=amf fW;simp[cy];lia
     rw[show(if false=true then !b8 (.tuple ds) (.tuple<|qd<|og ds)else b8 (.tuple ds) (.tuple<|qd<|og ds))=b8 (.tuple ds) (.tuple<|qd<|og ds)from if_neg aj];have Fj:∀d∈qd (og ds),SgD d:=λd hd=>by obtain⟨d0,h0,rfl⟩:=aw.mp<|(ug _).mem_iff.mp hd;exact amn _ _<|fW d0 h0
     cases F4:b8 (.tuple ds) (.tuple<|qd<|og ds)with
     | false=>
      refine ny ?_;refine q false H5 C1<|lg λh=>?_;have fr:=hF.mp h;rw[air fr,SeqAt.eqv_refl _ (show(PyData.tuple ds).canLay0=true from cD.lay)]at F4;cases F4
     | true=>
      refine mh ?_;have e:ds=qd (og ds):=by have:=Ic _ _ (show kd (.tuple ds)=true from atc fW) (show kd (.tuple _)=true from atc Fj) F4;injection this
      refine(nk _ rfl C mE (ds.map ux) ⟨rfl,s5 _ _ hC,iA.same s5,nz ds,by rw[x8];exact fY,by rw[ac];exact h1,by rw[ac];exact h6,λb H6 s6 hb=>?_⟩);refine q b H6 (C1.trans s6) ?_;rw[hb,x8,hF];exact⟨λhc=>aur ⟨fW,h1,h6,hc,fY⟩ e.symm,λfr=>fr.1.pre.con⟩
  .refine⟨false,rfl,mh ?_⟩;have gA:¬(1:Int)<=(xs.length:Int):=by simpa using c1
   exact q false H (Same.refl H)<|lg<|no λh _=>by lia
 .exact(j1 _ rfl v ("tuple") t false ⟨rfl,ty,kt,false,rfl,mh<|mh<|q false H (Same.refl H)<|lg λ⟨b,ys,ds,e,hb,_⟩=>gX b ys e hb⟩)
section
variable{K:au}{a:aF}{xs:U V}{ds:U Z9}{σ:L2.St}{H:Hp}{Q:VK}
def xq{i0:Nat}(j:Int)(pr:Z9->Int)(hj:∀(r c:Int),atI [V.int r,.int c] j=some (.int<|pr<|.tuple [.int r,.int c]))
  (hσ:σ[i0]?=some (some<|.ref a)) (ha:H a=some (.lst xs)) (hr:RepAll H ds xs) (hs:Cells ds) (hl:ds.length<=64)
  (q:∀D H',Same H H'->H' D=some (.lst<|(ds.map pr).map V.int)->Q (.ref D) H') :
  rL (B9 K<|yb i0) [none] (rn 0) sq (tOp (vH K) (yb 0)<|tC<|.int j) σ H Q:=by
 have aR:=hr.length;refine(lu _ hσ a ⟨rfl,⟨_,SqL.of ha⟩,λD hD=>?_⟩);refine ni (xs:=xs) (λi ys H'=>Same H H'/\ys=((ds.take i).map pr).map V.int) ⟨Same.fresh _ hD,rfl⟩ (λi ys H' p=>SqL.of<|p.1 _ _ ha) (λi x ys H' hx hi aQ aV p=>?_) λys H' aQ aV p=>?_
 .obtain⟨p1,rfl⟩:=p;obtain⟨b,r,c,rfl,hb,hd⟩:=qo hs hr hx;refine⟨Agree.set (Agree.refl _) rfl,?_⟩;dsimp only[sq];refine mh ?_;refine(j1 _ rfl b _ _ _ ⟨rfl,rfl,SqT.of<|p1 _ _ hb,hj r c,ng (by lia) aQ aV ⟨p1.new hD,?_⟩⟩);rw[kc pr hd,a7];rfl
 .obtain⟨p1,rfl⟩:=p;refine q D H' p1 ?_;rw[aQ,av<|by lia]
def afu{i0:Nat}(hσ:σ[i0]?=some (some<|.ref a))(ha:H a=some (.tup xs))(hr:RepAll H ds xs)(hs:Spots ds)(hl:ds.length<=64)
  (q:∀D ys H',Same H H'->H D=none->H' D=some (.lst ys)->RepAll H' (ds.map ux) ys->Q (.ref D) H') :
  rL (GN K<|yb i0) [none] (rn 0) sq (B2<|ye (tOp (vH K) (yb 0)<|tC<|.int 0)<|ye (tOp (vH K) (yb 0)<|tC<|.int 1) zS) σ H Q:=by
 have aR:=hr.length;refine(lu _ hσ a ⟨rfl,⟨_,SqT.of ha⟩,λD hD=>?_⟩);refine p8 (xs:=xs) (λi ys H'=>Same H H'/\RepAll H' ((ds.take i).map ux) ys) ⟨Same.fresh _ hD,rfl⟩ (λi ys H' p=>SqT.of<|p.1 _ _ ha) (λi x ys H' hx hi aQ aV p=>?_) λys H' aQ aV p=>?_
 .obtain⟨p1,p2⟩:=p;obtain⟨b,r,c,z,rfl,hb,hz,hd⟩:=hs.at hr hx;refine⟨Agree.set (Agree.refl _) rfl,?_⟩;dsimp only[sq];refine mh ?_;refine(j1 _ rfl b _ _ _ ⟨rfl,rfl,SqT.of<|p1 _ _ hb,rfl,(j1 _ rfl b _ _ _ ⟨rfl,rfl,SqT.of<|p1 _ _ hb,rfl,sZ2,λn hn=>?_⟩)⟩);have hnD:D≠n:=λe=>by rw[<-e,aQ]at hn;cases hn
  have im:oo (((ds.take i).map ux)++[.tuple [.int r,.int c]])=true:=Cells.imm λd iY=>by
   rcases bn.mp iY with h|h
   .exact nz _ d h
   .rw[ar.mp h];exact(kl _ _ rfl)
  have mP:Same H' (upd H' n<|.tup [.int r,.int c]):=Same.fresh _ hn;have pQ:=mP _ _ aQ;have oR:RepAll (upd H' n<|.tup [.int r,.int c]) (((ds.take i).map ux)++[.tuple [.int r,.int c]]) (ys++[.ref n]):=(p2.same mP).snoc (o8 j5);refine ng (by lia) pQ aV ⟨(p1.trans mP).new hD,?_⟩;rw[kc ux hd];exact oR.tk (Tk.lst pQ) im
 .obtain⟨p1,p2⟩:=p;rw[av (by lia)]at p2;exact q D ys H' p1 hD aQ p2
end
def ai1(x y:Z9):HT.lexLt [v7 x,wg x] [v7 y,wg y]=true↔qr x y:=by
 unfold qr;show _↔v7 x<v7 y\/v7 x=v7 y/\wg x<wg y;rw[HT.lexLt_cons];by_cases e1:v7 x=v7 y
 .rw[if_pos e1,HT.lexLt_cons];by_cases e2:wg x=wg y
  .rw[if_pos e2,HT.lexLt_nil_nil];constructor
   .intro h;cases h
   .intro h;lia
  .rw[if_neg e2,decide_eq_true_iff];lia
 .rw[if_neg e1,decide_eq_true_iff];lia
def adp{x y z:Z9}(h1:qr x y)(h2:qr y z):qr x z:=by unfold qr at *;lia
theorem al0{ds:U Z9}(h:∀(i:Nat) x y,ds[i]?=some x->ds[i+1]?=some y->qr x y):ds.Pairwise qr:=by
 have key:∀(k i:Nat) x y,ds[i]?=some x->ds[i+1+k]?=some y->qr x y:=by
  intro k;induction k with
  | zero=>intro i x y hx hy;exact h i x y hx hy
  | succ k ih=>
   intro i x y hx hy;have hl:i+1+k<ds.length:=by have:=(af.mp hy).1;lia
   have hm:ds[i+1+k]?=some ds[i+1+k]:=aa hl;exact adp (ih i x _ hx hm)<|h (i+1+k) _ y hm hy
 rw[cp];intro i j hi hj eC;exact key (j-(i+1)) i _ _ (aa hi)<|by rw[show i+1+(j-(i+1))=j by lia];exact aa hj
def scIsf:km ["_law_found","_law_cells","_law_k"] Z7 (kb GU):={}
theorem atf(B:∀x∈qy,mg x=none)(Ct:Fn P w K mg base "_law_is_spot" 2 Z7 DH)(xY:Fn P w K mg base "_law_hangs" 1 ["_law_cells"] ajz)(F:Fun K "_law_is_form" "_law_is_form" GU f fd):p9 P w K mg base CX0 3 f fd Z7 DJ:=by
 refine F.ok (k:=2) scIsf (λvs H Q E h=>?_) λbE A outer s H vs Q E hr h=>?_
 .obtain⟨c,rfl,_⟩:=h;rfl
 obtain⟨v,rfl,hv,q⟩:=h;have hu:=hr.units;refine⟨_,(j3 (nv (PW.pt<|o6 (k9<|mq<|kq kh rfl (B "isinstance"<|by decide) bi<|j8 (pv 0)<|j8 (nc (v:=.ty "tuple") rfl (B "tuple"<|by decide) e9 rfl) jz)<|oe<|k9<|ox qc qc j2 (kq kj rfl (B "len"<|by decide) bb<|j8 (pv 0) jz) j2) (j4<|ke om) ku)
  (j3 (nv (mi (Io hu) (mj Z5 [none] rfl rfl (by decide +kernel) (by decide +kernel) rfl rfl (rq<|pv 0) (λ_=>(j9 (i:=0) (show(Z5:U PySem.Str).Nodup by decide +kernel) rfl<|Or.inl rfl)) (λ_=>wc<|k9<|mq<|k8 Ct hr (by decide) rfl<|j8 (pv 0) jz) λ_=>(pv 0)) (ou jz)<|l4 _) (j4<|ke om) ku)
  (j3 (sd (i:=1) Z5 [none] scIsf.nd rfl (Or.inl rfl) rfl rfl rfl (by decide +kernel) (by decide +kernel) rfl rfl (rq<|pv 0) (λ_=>(j9 (i:=0) (show(Z5:U PySem.Str).Nodup by decide +kernel) rfl<|Or.inl rfl)) (λ_=>lr) λ_=>(on<|j8 (kr pb (pv 0) j2 λ_ _=>rfl)<|j8 (kr pb (pv 0) j2 λ_ _=>rfl) jz))
  (j3 (qt cx rfl (DO rfl (B "range"<|by decide)<|j8 j2<|j8 (kq kj rfl (B "len"<|by decide) bb<|j8 (pv 1) jz) jz) (j9 (i:=2) scIsf.nd rfl<|Or.inl rfl)<|j4<|nv (k9<|mi (at1<|Nat.lt_of_le_of_lt (Nat.le_add_right _ 64) hu) (kr m9 (pv 1) (m8 tq (pv 2) j2) λ_ _=>rfl) (kr m9 (pv 1) (pv 2) λ_ _=>rfl)<|l4 _) (j4<|ke om) ku)
  (j3 (nv (PW.pt<|o6 (mi yq (kq (wy rfl) rfl (B "min"<|by decide) dP<|j8 (mj ["_law_cell"] [none] rfl rfl (by decide +kernel) (by decide +kernel) rfl rfl (oh<|pv 1) (λ_=>(j9 (i:=0) (show(["_law_cell"]:U PySem.Str).Nodup by decide +kernel) rfl<|Or.inl rfl)) (λ_=>lr) λ_=>(kr pb (pv 0) j2 λ_ _=>rfl)) jz) j2<|l4 _)<|oe<|mi yq (kq (wy rfl) rfl (B "min"<|by decide) dP<|j8 (mj ["_law_cell"] [none] rfl rfl (by decide +kernel) (by decide +kernel) rfl rfl (oh<|pv 1) (λ_=>(j9 (i:=0) (show(["_law_cell"]:U PySem.Str).Nodup by decide +kernel) rfl<|Or.inl rfl)) (λ_=>lr) λ_=>(kr pb (pv 0) j2 λ_ _=>rfl)) jz) j2<|l4 _) (j4<|ke om) ku)
  (j4<|ke<|k8 xY hr (by decide) rfl<|j8 (pv 1) jz)))))),?_⟩
 rcases D0 (K:=K) hv.1 with ⟨a,xs,rfl,ha⟩|⟨⟨t,ty,kt⟩,_,gX⟩
 .obtain⟨kB,kn⟩:=hv.2 a xs rfl ha;have no:(1<=xs.length->xs.length<=6->False)->¬FormP H (.ref a):=λhx ⟨b,ys,ds,e,hb,r,fr⟩=>by
   cases e;rw[ha]at hb;cases hb;have:=r.length;have h1:=fr.1.pre.pos;have h6:=fr.1.pre.six;exact hx (by lia)<|by lia
  refine(j1 _ rfl (.ref a) ("tuple") (.type "tuple") true ⟨rfl,.tup ha,rfl,true,rfl,ny ?_⟩);refine(mf _ rfl a xs rfl (.inr<|SqT.of ha) _<|my _ rfl rfl _ ⟨rfl,?_⟩);refine oy (λc1=>?_) λc1=>?_
  .have gA:(1:Int)<=(xs.length:Int):=of_decide_eq_true c1;refine(kl _ _ ⟨rfl,rfl,_,rfl,?_⟩);refine oy (λc2=>?_) λc2=>?_
   .have gN:¬((xs.length:Int)<=6):=by simpa using c2
    exact q false H (Same.refl H)<|lg<|no λ_ h=>by lia
   have gN:(xs.length:Int)<=6:=by simpa using c2
   refine(lu _ rfl a ⟨rfl,⟨_,SqT.of ha⟩,λD hD=>?_⟩);refine p8 (xs:=xs) (λi ys H'=>Same H H'/\ys=(xs.take i).filter λx=>!qx H x) ⟨Same.fresh _ hD,rfl⟩ (λi ys H' p=>SqT.of<|p.1 _ _ ha) (λi x ys H' hx hi aQ aV p=>?_) λys H' aQ aV p=>?_
   .obtain⟨p1,rfl⟩:=p;have kx:=kn x<|ah hx;have dL:=ur (p:=λx=>!qx H x) hx;refine⟨Agree.set (Agree.refl _) rfl,?_⟩;refine(lu _ rfl x ⟨rfl,kx.same p1,_,rfl,?_⟩);rw[vq p1 kx.1];cases hb:qx H x with
    | true=>
     simp only[hb]at dL;refine ny ⟨_,aQ,by lia,p1,?_⟩;rw[dL];simp
    | false=>
     simp only[hb]at dL;refine mh ⟨_,rfl,ng (by lia) aQ aV ⟨p1.new hD,?_⟩⟩;rw[dL];rfl
   obtain⟨p1,rfl⟩:=p;rw[av (aq _)]at aQ;refine⟨sZ0,λl hl=>?_⟩;have sl:Same H' (upd H' l<|.lst []):=Same.fresh _ hl;have iL:upd H' l (.lst []) l=some (.lst []):=j5;have qZ:=sl _ _ aQ;have s1:=p1.trans sl;generalize upd H' l (.lst [])=H1 at *;refine(lq D l _ ⟨rfl,rfl,qZ,iL,_,rfl,?_⟩);have aU:xs.all (qx H)=(xs.filter λx=>!qx H x).isEmpty:=by
    rw[du,bh,List.isEmpty_iff,List.filter_eq_nil_iff];constructor
    .intro h x hx;rw[h x hx];simp
    .intro h x hx;have:=h x hx;simpa using this
   rw[<-aU];cases hA:xs.all (qx H)with
   | false=>
    refine mh ?_;refine q false H1 s1<|lg λ⟨b,ys,ds,e,hb,r,fr⟩=>?_;cases e;rw[ha]at hb;cases hb;rw[xh r fr.1.pre.sg]at hA;cases hA
   | true=>
    refine ny ?_;obtain⟨ds,cD,fW⟩:=zn hA;have hF:=FormP.same (H':=H) ha cD fW;have aR:=cD.length;have fG:=agd fW;have h1:0<ds.length:=by lia
    have h6:ds.length<=6:=by lia
    refine afu rfl (s1 _ _ ha) (cD.same s1) fG (by lia) λC mE H2 s2 _ hC iA=>?_;have cT:=s1.trans s2;have gZ:=iA.length;rw[ac]at gZ;refine(mf _ rfl C mE rfl (.inl<|SqL.of hC) 1 ⟨_,rfl,⟨by decide,by decide,by lia,by lia⟩,?_⟩);refine qq (lo:=1) (λi σ' H'=>∃(y2:Option V),σ'=[some (.ref a),some<|.ref C,y2]/\H'=H2/\∀(j:Nat) x y,j<i->ds[j]?=some x->ds[j+1]?=some y->qr x y) ⟨_,rfl,rfl,λj x y hj=>by lia⟩ (λi σ' H' hi h=>?_) λσ' H' h=>?_
    .obtain⟨y2,rfl,rfl,Fb⟩:=h;have i0:i<mE.length:=by lia
     have i1:i+1<mE.length:=by lia
     obtain⟨b,r0,c0,hv,hb,dZ⟩:=qo (nz ds) iA<|aa i0;obtain⟨b',r1,gA,hv',bZ,uV⟩:=qo (nz ds) iA<|aa i1;have mY:atI mE (1+((i:Nat):Int)-1)=some (.ref b):=by rw[show(1+((i:Nat):Int)-1)=((i:Nat):Int) by lia];exact mm<|by rw[aa i0,hv]
     have wZ:atI mE (1+((i:Nat):Int))=some (.ref b'):=by rw[show(1+((i:Nat):Int))=((i+1:Nat):Int) by lia];exact mm<|by rw[aa i1,hv']
     rw[a6]at dZ uV;obtain⟨x,hx,ex⟩:=bg.mp dZ;obtain⟨y,hy,ey⟩:=bg.mp uV;injection ex with ex;injection ex with e1 e2;injection e1 with e1;injection e2 with e2;injection e2 with e2
     injection ey with ey;injection ey with e3 e4;injection e3 with e3;injection e4 with e4;injection e4 with e4
     refine(o7 _ rfl _ rfl _ _ rfl rfl C<|lq mE _ _ ⟨rfl,rfl,SqL.of hC,mY,(mw _ rfl _ rfl C mE _<|xg _ rfl rfl (SqL.of hC) wZ b b'<|kl ([r0,c0]) ([r1,gA]) ⟨rfl,rfl,SqT.of hb,SqT.of bZ,_,rfl,?_⟩)⟩);rw[<-e1,<-e2,<-e3,<-e4];cases bL:HT.lexLt [v7 x,wg x] [v7 y,wg y]with
     | true=>
      refine ny ⟨_,rfl,rfl,λj x' y' hj iK lX=>?_⟩;by_cases hji:j=i
      .subst hji;rw[hx]at iK;cases iK;rw[hy]at lX;cases lX;exact(ai1 x y).mp bL
      .exact Fb j x' y' (by lia) iK lX
     | false=>
      refine mh ?_;refine q false _ cT<|lg λh=>?_;have fr:=hF.mp h;have hi1:=(af.mp hy).1;have hi0:=(af.mp hx).1;have pw:=cp.mp fr.2 i (i+1) hi0 hi1<|ir i;rw[(af.mp hx).2,(af.mp hy).2]at pw;rw[(ai1 x y).mpr pw]at bL;cases bL
    obtain⟨y2,rfl,rfl,Fb⟩:=h;have uK:ds.Pairwise qr:=al0 λi x y hx hy=>by have:=(af.mp hy).1;exact Fb i x y (by lia) hx hy
    have fY:(ds.map cl).Nodup:=by show List.Pairwise _ _;rw[dt];refine List.Pairwise.imp ?_ uK;intro x y h e;unfold qr at h;rw[e]at h;lia
    have GD:∀(ds:U Z9),(ds.map ux).map v7=ds.map v7:=λds=>by rw[gb];rfl
    have GF:∀(ds:U Z9),(ds.map ux).map wg=ds.map wg:=λds=>by rw[gb];rfl
    refine xq 0 v7 (λ_ _=>rfl) rfl hC iA (nz ds) (by rw[ac];lia) λD3 H3 s3 qY=>?_;refine(kl D3 _ ⟨rfl,qY,by rw[ac,ac];exact h1,λM1 m1 tY=>?_⟩);have Gy:=um m1 tY;rw[GD]at Gy;refine⟨rfl,_,rfl,?_⟩;have mN:=cT.trans s3;by_cases z1:M1=0
    .rw[z1];refine oy (λh=>absurd h<|by simp) λ_=>?_;refine xq 1 wg (λ_ _=>rfl) rfl (s3 _ _ hC) (iA.same s3) (nz ds) (by rw[ac];lia) λD4 H4 s4 xB=>?_;refine(kl D4 _ ⟨rfl,xB,by rw[ac,ac];exact h1,λM2 m2 tX=>?_⟩);have Gx:=um m2 tX;rw[GF]at Gx;refine⟨rfl,_,rfl,?_⟩;have At:=mN.trans s4;by_cases z2:M2=0
     .rw[z2];refine oy (λh=>absurd h<|by simp) λ_=>?_;have Ar:=s3.trans s4;refine(nk _ rfl C mE (ds.map ux) ⟨rfl,Ar _ _ hC,iA.same Ar,nz ds,by rw[x8];exact fY,by rw[ac];exact h1,by rw[ac];exact h6,λb H9 s9 hb=>?_⟩);refine q b H9 (At.trans s9) ?_;rw[hb,x8,hF];exact⟨λhc=>⟨⟨⟨fW,h1,h6,hc,fY⟩,Gy.symm.trans z1,Gx.symm.trans z2⟩,uK⟩,λfr=>fr.1.pre.con⟩
     .refine oy (λ_=>?_) λh=>?_
      .refine q false _ At<|lg λh=>?_;exact z2<|Gx.trans (hF.mp h).1.c0
      .exfalso;apply h;have:¬V.int M2=V.int 0:=λz=>by injection z with z;exact z2 z
       rw[decide_eq_false this];rfl
    .refine oy (λ_=>?_) λh=>?_
     .refine q false _ mN<|lg λh=>?_;exact z1<|Gy.trans (hF.mp h).1.r0
     .exfalso;apply h;have:¬V.int M1=V.int 0:=λz=>by injection z with z;exact z1 z
      rw[decide_eq_false this];rfl
  .refine⟨false,rfl,mh ?_⟩;have gA:¬(1:Int)<=(xs.length:Int):=by simpa using c1
   exact q false H (Same.refl H)<|lg<|no λh _=>by lia
 .exact(j1 _ rfl v ("tuple") t false ⟨rfl,ty,kt,false,rfl,mh<|mh<|q false H (Same.refl H)<|lg λ⟨b,ys,ds,e,hb,_⟩=>gX b ys e hb⟩)
def tx1{c:Nat}(h:c<128):Tx (⟨#[c]⟩:Str):=⟨by show 1<=80;lia,λx hx=>by
 have e:x=c:=by simpa using hx
 lia⟩
def II:Sp:=λvs H Q _=>∃c:Nat,vs=[.str ⟨#[c]⟩]/\Q (.bl<|decide (97<=c)&&decide (c<=122)) H
def aqz:km Z8 Z8 (kb Hd):={}
def axv(c:Nat):(⟨#[c]⟩:Str).length<=aG:=by show 1<=aG;decide
def al5(B:∀x∈qy,mg x=none)(F:Fun K "is_small" "is_small" Hd f fd):p9 P w K mg base CX0 1 f fd Z8 II:=by
 refine F.ok (k:=0) aqz (λvs H Q E h=>?_) λbE A outer s H vs Q E hr h=>?_
 .obtain⟨c,rfl,_⟩:=h;rfl
 obtain⟨c,rfl,q⟩:=h;refine⟨_,(j4<|ke<|oa (kq kh rfl (B "isinstance"<|by decide) bi<|j8 (pv 0)<|j8 (nc (v:=.ty "str") rfl (B "str"<|by decide) cE rfl) jz)<|oa (m5 uf (kq lm rfl (B "len"<|by decide) bb<|j8 (pv 0) jz) j2<|l4 _)<|o4<|IV vk vk lv (pv 0) lv),?_⟩;refine(j1 _ rfl _ _ _ true ⟨rfl,.str _,rfl,true,rfl,?_⟩);refine mh ?_;refine(lu _ rfl _ ⟨rfl,axv c,rfl,true,rfl,?_⟩);refine mh ?_;exact(mf _ rfl _ _ rfl rfl _ ⟨rfl,ajf (a:=ae "a") (z:=ae "z") (R:=λv=>Q v H) (by decide +kernel) (by decide +kernel) q (λh=>(kl _ _ ⟨rfl,rfl,h⟩)) λh=>h⟩)
def asi:Sp:=λvs H Q _=>∃c:Nat,vs=[.str ⟨#[c]⟩]/\c<128/\∀H',Same H H'->Q (.bl<|sgB c) H'
def avq:km Z0 Z0 (kb GW):={}
def ok1{c:Nat}(h:c<128):ju (⟨#[c]⟩:Str)=true:=Tx.ok ⟨by show 1<=80;lia,λx hx=>by
 have:x=c:=by simpa using hx
 lia⟩
def aqb(c d:Nat):b8 (.str ⟨#[d]⟩) (.str ⟨#[c]⟩)=(c==d):=by
 show((⟨#[d]⟩:Str)==⟨#[c]⟩)=_;rw[du,beq_iff_eq,beq_iff_eq];constructor
 .intro h;injection h with h
  injection h with h
  injection h with h
  exact h.symm
 .intro h;rw[h]
def att(c:Nat):(if false=true then !([PyData.str (ae "#"),.str<|ae ".",.str<|ae ","].any λe=>b8 e<|.str ⟨#[c]⟩)else[PyData.str (ae "#"),.str<|ae ".",.str<|ae ","].any λe=>b8 e<|.str ⟨#[c]⟩)=(c==35||c==46||c==44):=by
 have e1:ae "#" = ⟨#[35]⟩:=by decide +kernel
 have e2:ae "." = ⟨#[46]⟩:=by decide +kernel
 have e3:ae "," = ⟨#[44]⟩:=by decide +kernel
 rw[if_neg aj,e1,e2,e3];simp only[List.any_cons,List.any_nil,aqb,Bool.or_false,Bool.or_assoc]
def G8(mg:Str->Option aA):Prop:=∃t,mg "MOST_LINES" = some (.int 8 t)
def GS(mg:Str->Option aA)(x z:Str):Prop:=∃t,mg x=some (.str z t)
def aub(gC:GS mg "CLOSED" "#")(gP:GS mg "COVERED" ".")(gF:GS mg "FREE" ",")(vL:Fn P w K mg base "is_sign" 1 Z8 spS)(lE:Fn P w K mg base "is_small" 1 Z8 II)(F:Fun K "is_floor_sign" "is_floor_sign" GW f fd):p9 P w K mg base CX0 2 f fd Z0 asi:=by
 refine F.ok (k:=1) avq (λvs H Q E h=>?_) λbE A outer s H vs Q E hr h=>?_
 .obtain⟨c,rfl,_⟩:=h;rfl
 obtain⟨c,rfl,hc,q⟩:=h;have hu:=hr.units;refine⟨_,(j4<|ke<|zV (m5 (DW hu) (pv 0) (on<|j8 (sn gC rfl)<|j8 (sn gP rfl)<|j8 (sn gF rfl) jz) rfl)<|zV (k8 vL hr (by decide) rfl<|j8 (pv 0) jz)<|o4<|k8 lE hr (by decide) rfl<|j8 (pv 0) jz),?_⟩;refine⟨_,rfl,sZ3,λp hp=>?_⟩;refine(li (.str ⟨#[c]⟩) p _ ([.str "#",.str ".",.str ","]) ⟨⟨rfl,ok1 hc⟩,rfl,.inr j5,(nh _ _ rfl ⟨rfl,by decide +kernel⟩ _ _ rfl ⟨rfl,by decide +kernel⟩ _ ⟨_,rfl,⟨rfl,by decide +kernel⟩,rfl⟩),by simp[cy],_,rfl,?_⟩);have s1:Same H (upd H p<|.tup [.str "#",.str ".",.str ","]):=Same.fresh _ hp;rw[att];have q1:=q _ s1;unfold sgB at q1;refine oy (λh1=>?_) λh1=>?_
 .rw[h1]at q1;simpa using q1
 .rw[Bool.eq_false_iff.mpr h1]at q1;refine(lu _ rfl (.str ⟨#[c]⟩) ⟨rfl,.inr<|.inr<|.inr<|.inl ⟨_,rfl,tx1 hc⟩,_,rfl,?_⟩);rw[show lB (.str ⟨#[c]⟩)=(decide (65<=c)&&decide (c<=90))from rfl];refine oy (λh2=>?_) λh2=>?_
  .rw[h2]at q1;simpa using q1
  .rw[Bool.eq_false_iff.mpr h2]at q1;refine(lu _ rfl c ⟨rfl,?_⟩);simpa using q1
def xN(z:Str):iT (some z)=(decide (1<=z.length)&&decide (z.length<=8)&&z.cps.toList.all sgB):=rfl
def zY(os:U (Option Str)):flB (some os)=(decide (1<=os.length)&&decide (os.length<=8)&&os.all λo=>iT o&&(xw o==xw ((os[0]?).getD none))):=rfl
def mK(z:Str):z.cps.toList.length=z.length:=by simp[Str.length]
def aov:Sp:=λvs H Q _=>∃(v:V)(o:Option Str),vs=[v]/\Itm H v o/\∀H',Same H H'->Q (.bl<|iT o) H'
def ar1:km Z8 Z8 (kb Hv):={}
theorem aq7(B:∀x∈qy,mg x=none)(g8:G8 mg)(JA:Fn P w K mg base "is_floor_sign" 2 Z0 asi)(F:Fun K "is_floor_row" "is_floor_row" Hv f fd):p9 P w K mg base CX0 3 f fd Z8 aov:=by
 refine F.ok (k:=2) ar1 (λvs H Q E h=>?_) λbE A outer s H vs Q E hr h=>?_
 .obtain⟨v,o,rfl,_⟩:=h;rfl
 obtain⟨v,o,rfl,hv,q⟩:=h;refine⟨_,(j3 (nv (PW.pt<|o6 (k9<|mq<|kq kh rfl (B "isinstance"<|by decide) bi<|j8 (pv 0)<|j8 (nc (v:=.ty "str") rfl (B "str"<|by decide) cE rfl) jz)<|oe<|k9<|ox qc qc j2 (kq lm rfl (B "len"<|by decide) bb<|j8 (pv 0) jz)<|rg g8 rfl) (j4<|ke om) ku)
  (j4<|ke<|kq (ow rfl) rfl (B "all"<|by decide) bP<|j8 (mj Z0 [none] rfl rfl (by decide +kernel) (by decide +kernel) rfl rfl (Ae<|pv 0) (λ_=>(j9 (i:=0) (show(Z0:U PySem.Str).Nodup by decide +kernel) rfl<|Or.inl rfl)) (λ_=>lr) λ_=>(k8 JA hr (by decide) rfl<|j8 (pv 0) jz)) jz)),?_⟩
 cases o with
 | none=>
  obtain⟨t,ty,kt⟩:=NoStr.ty (K:=K) hv;refine(j1 _ rfl v ("str") t false ⟨rfl,ty,kt,false,rfl,?_⟩);refine mh ?_;refine mh ?_;exact q H (Same.refl H)
 | some z=>
  obtain⟨rfl,hz⟩:=hv;refine(j1 _ rfl (.str z) ("str") (.type "str") true ⟨rfl,.str z,rfl,true,rfl,?_⟩);refine ny ?_;refine(lu _ rfl z ⟨rfl,o9 hz,?_⟩);refine(kl _ _ ⟨rfl,rfl,_,rfl,?_⟩);refine oy (λc1=>?_) λc1=>?_
  .have gA:(1:Int)<=(z.length:Int):=of_decide_eq_true c1;refine(kl _ _ ⟨rfl,rfl,_,rfl,?_⟩);refine oy (λc2=>?_) λc2=>?_
   .have gN:¬((z.length:Int)<=8):=by simpa using c2
    have e:iT (some z)=false:=by rw[xN];rw[decide_eq_false (show ¬z.length<=8 by lia),ij,cf]
    rw[<-e];exact q H<|Same.refl H
   .have gN:(z.length:Int)<=8:=by simpa using c2
    have hl:=mK z;refine(lu _ rfl z ⟨rfl,λD hD=>?_⟩);refine wu (λi ys H'=>Same H H'/\ys=((z.cps.toList.take i).map sgB).map V.bl) ⟨Same.fresh _ hD,rfl⟩ (λi c ys H' hx hi aQ aV p=>?_) λys H' aQ aV p=>?_
    .obtain⟨p1,rfl⟩:=p;refine⟨Agree.set (Agree.refl _) rfl,?_⟩;dsimp only[sq];refine mh ?_;refine(lu _ rfl c ⟨rfl,hz.2 c<|ah hx,λH2 s2=>?_⟩);refine ng (by lia) (s2 _ _ aQ) aV ⟨(p1.trans s2).new hD,?_⟩;rw[kc sgB hx,a7];rfl
    .obtain⟨p1,rfl⟩:=p;refine(kl D (z.cps.toList.map sgB) ⟨rfl,?_,?_⟩)
     .rw[aQ,gu]
     .have e:iT (some z)=(z.cps.toList.map sgB).all id:=by
       rw[xN];rw[decide_eq_true (show 1<=z.length by lia),decide_eq_true (show z.length<=8 by lia),ik];rfl
      rw[<-e];exact q H' p1
  .have gA:¬((1:Int)<=(z.length:Int)):=by simpa using c1
   refine⟨_,rfl,?_⟩;refine mh ?_;have e:iT (some z)=false:=by rw[xN];rw[decide_eq_false (show ¬1<=z.length by lia),cf,cf]
   rw[<-e];exact q H<|Same.refl H
def Hg{α:Type}{xs:List α}{x:α}(h:xs[0]?=some x):atI xs 0=some x:=by have:=mm h;exact this
def DK:Sp:=λvs H Q _=>∃(v:V) (T:Option (U<|Option Str)),vs=[v]/\Thing H v T/\∀H',Same H H'->Q (.bl<|flB T) H'
def av8:km Z8 Z8 (kb G9):={}
theorem aik{α:Type}(f g:α->Bool):∀l:List α,(l.all λx=>f x&&g x)=(l.all f&&l.all g)
 | []=>rfl
 | x::l=>by simp only[List.all_cons,aik f g l];cases f x<;>cases g x<;>cases l.all f<;>rfl
theorem IT{o:Option Str}(h:iT o=true):∃z,o=some z:=by
 cases o with
 | none=>cases h
 | some z=>exact⟨z,rfl⟩
theorem at9(B:∀x∈qy,mg x=none)(g8:G8 mg)(CJ:Fn P w K mg base "is_floor_row" 3 Z8 aov)(F:Fun K "is_floor" "is_floor" G9 f fd):p9 P w K mg base CX0 4 f fd Z8 DK:=by
 refine F.ok (k:=3) av8 (λvs H Q E h=>?_) λbE A outer s H vs Q E hr h=>?_
 .obtain⟨v,T,rfl,_⟩:=h;rfl
 obtain⟨v,T,rfl,hv,q⟩:=h;refine⟨_,(j3 (nv (PW.pt<|o6 (k9<|mq<|kq kh rfl (B "isinstance"<|by decide) bi<|j8 (pv 0)<|j8 (nc (v:=.ty "tuple") rfl (B "tuple"<|by decide) e9 rfl) jz)<|oe<|k9<|ox qc qc j2 (kq kj rfl (B "len"<|by decide) bb<|j8 (pv 0) jz)<|rg g8 rfl) (j4<|ke om) ku)
  (j3 (nv (k9<|mq<|kq (ow rfl) rfl (B "all"<|by decide) bP<|j8 (mj ["row"] [none] rfl rfl (by decide +kernel) (by decide +kernel) rfl rfl (rq<|pv 0) (λ_=>(j9 (i:=0) (show(["row"]:U PySem.Str).Nodup by decide +kernel) rfl<|Or.inl rfl)) (λ_=>lr) λ_=>(k8 CJ hr (by decide) rfl<|j8 (pv 0) jz)) jz) (j4<|ke om) ku)
  (j4<|ke<|kq (ow rfl) rfl (B "all"<|by decide) bP<|j8 (mj ["row","found"] [none,some 0] rfl rfl (by decide +kernel) (by decide +kernel) rfl rfl (rq<|pv 0) (λ_=>(j9 (i:=0) (show(["row","found"]:U PySem.Str).Nodup by decide +kernel) rfl<|Or.inl rfl)) (λ_=>lr) λ_=>(m5 uf (kq lm rfl (B "len"<|by decide) bb<|j8 (pv 0) jz) (kq lm rfl (B "len"<|by decide) bb<|j8 (kr pb (pv 1) j2 λ_ _=>rfl) jz)<|l4 _)) jz))),?_⟩
 cases T with
 | none=>
  obtain⟨t,ty,kt⟩:=NoTup.ty (K:=K) hv;refine(j1 _ rfl v ("tuple") t false ⟨rfl,ty,kt,false,rfl,?_⟩);refine mh ?_;refine mh ?_;exact q H (Same.refl H)
 | some os=>
  obtain⟨BM,a,xs,rfl,ha,hi⟩:=hv;have hl:=hi.1;refine(j1 _ rfl (.ref a) ("tuple") (.type "tuple") true ⟨rfl,.tup ha,rfl,true,rfl,?_⟩);refine ny ?_;refine(m6 _ rfl a xs ⟨rfl,.inr<|SqT.of ha,?_⟩);refine(kl _ _ ⟨rfl,rfl,_,rfl,?_⟩);refine oy (λc1=>?_) λc1=>?_
  .have gA:(1:Int)<=(xs.length:Int):=of_decide_eq_true c1;refine(kl _ _ ⟨rfl,rfl,_,rfl,?_⟩);refine oy (λc2=>?_) λc2=>?_
   .have gN:¬((xs.length:Int)<=8):=by simpa using c2
    have e:flB (some os)=false:=by rw[zY];rw[decide_eq_false (show ¬os.length<=8 by lia),ij,cf]
    rw[<-e];exact q H<|Same.refl H
   .have gN:(xs.length:Int)<=8:=by simpa using c2
    have ef:flB (some os)=(os.all iT&&os.all λo=>xw o==xw ((os[0]?).getD none)):=by rw[zY];rw[decide_eq_true (show 1<=os.length by lia),decide_eq_true (show os.length<=8 by lia),aik];rfl
    refine(lu _ rfl a ⟨rfl,⟨_,SqT.of ha⟩,λD hD=>?_⟩);refine p8 (xs:=xs) (λi ys H'=>Same H H'/\ys=((os.take i).map iT).map V.bl) ⟨Same.fresh _ hD,rfl⟩ (λi ys H' p=>SqT.of<|p.1 _ _ ha) (λi x ys H' hx jV aQ aV p=>?_) λys H' aQ aV p=>?_
    .obtain⟨p1,rfl⟩:=p;obtain⟨o,ho,eY⟩:=hi.at hx;refine⟨Agree.set (Agree.refl _) rfl,?_⟩;dsimp only[sq];refine mh ?_;refine(m6 _ rfl x o ⟨rfl,eY.same p1,λH2 s2=>?_⟩);refine ng (by lia) (s2 _ _ aQ) aV ⟨(p1.trans s2).new hD,?_⟩;rw[kc iT ho,a7];rfl
    .obtain⟨p1,rfl⟩:=p;refine(kl D (os.map iT) ⟨rfl,?_,?_⟩)
     .rw[aQ,av<|by lia]
     refine⟨_,rfl,?_⟩;have ea:(os.map iT).all id=os.all iT:=by rw[ik];rfl
     rw[ea];refine oy (λc3=>?_) λc3=>?_
     .have xJ:os.all iT=false:=by simpa using c3
      have e:flB (some os)=false:=by rw[ef,xJ];rfl
      rw[<-e];exact q H' p1
     .have xJ:os.all iT=true:=by simpa using c3
      have i1:=hi.same p1;refine(lu _ rfl a ⟨rfl,⟨_,SqT.of<|p1 _ _ ha⟩,λD2 cL=>?_⟩);refine p8 (xs:=xs) (λi ys H2=>Same H' H2/\ys=((os.take i).map λo=>xw o==xw ((os[0]?).getD none)).map V.bl) ⟨Same.fresh _ cL,rfl⟩ (λi ys H2 p=>SqT.of<|p.1 _ _<|p1 _ _ ha) (λi x ys H2 hx jV jA AR p=>?_) λys H2 jA AR p=>?_
      .obtain⟨p2,rfl⟩:=p;obtain⟨o,ho,eY⟩:=i1.at hx;obtain⟨z,rfl⟩:=IT<|bh.mp xJ o<|ah ho;obtain⟨rfl,hz⟩:=eY;have h0:0<xs.length:=by lia
       obtain⟨o0,wI,wS⟩:=i1.at<|aa h0;obtain⟨z0,rfl⟩:=IT<|bh.mp xJ o0<|ah wI;obtain⟨e0,lV⟩:=wS;refine⟨Agree.set (Agree.refl _) rfl,?_⟩;dsimp only[sq];refine mh ?_;refine(lu _ rfl z ⟨rfl,o9 hz,?_⟩);refine(j1 _ rfl a xs _ (.str z0) ⟨rfl,rfl,SqT.of<|p2 _ _<|p1 _ _ ha,Hg<|by rw[aa h0,e0],z0,rfl,o9 lV,?_⟩);refine⟨rfl,ng (by lia) jA AR ⟨p2.new cL,?_⟩⟩;rw[kc _ ho,a7,wI];have ee:decide (V.int (z.length:Int)=V.int (z0.length:Int))=(xw (some z)==xw ((some<|some z0).getD none)):=by
        show _=(z.length==z0.length);rw[du,decide_eq_true_eq,beq_iff_eq];constructor
        .intro h;injection h with h
         lia
        .intro h;rw[h]
       rw[ee];rfl
      .obtain⟨p2,rfl⟩:=p;refine(kl D2 (os.map λo=>xw o==xw ((os[0]?).getD none)) ⟨rfl,?_,?_⟩)
       .rw[jA,av<|by lia]
       .have e:flB (some os)=(os.map λo=>xw o==xw ((os[0]?).getD none)).all id:=by
         rw[ef,xJ,ik];rfl
        rw[<-e];exact q H2<|p1.trans p2
  .have gA:¬((1:Int)<=(xs.length:Int)):=by simpa using c1
   refine⟨_,rfl,?_⟩;refine mh ?_;have e:flB (some os)=false:=by rw[zY];rw[decide_eq_false (show ¬1<=os.length by lia),cf,cf]
   rw[<-e];exact q H<|Same.refl H
def amp(c:Nat):(!(!(gl (ae "#.,ABCDEFGHIJKLMNOPQRSTUVWXYZabcdefghijklmnopqrstuvwxyz") ⟨#[c]⟩ 0 (ae "#.,ABCDEFGHIJKLMNOPQRSTUVWXYZabcdefghijklmnopqrstuvwxyz").length 1).isEmpty)) = !sgB c:=by
 rw[show(!(gl (ae "#.,ABCDEFGHIJKLMNOPQRSTUVWXYZabcdefghijklmnopqrstuvwxyz") ⟨#[c]⟩ 0 (ae "#.,ABCDEFGHIJKLMNOPQRSTUVWXYZabcdefghijklmnopqrstuvwxyz").length 1).isEmpty)=sgB c from ?_];rw[PySem.StrLaws.found_one];have e:(ae "#.,ABCDEFGHIJKLMNOPQRSTUVWXYZabcdefghijklmnopqrstuvwxyz").cps.toList=[35,46,44,65,66,67,68,69,70,71,72,73,74,75,76,77,78,79,80,81,82,83,84,85,86,87,88,89,90,97,98,99,100,101,102,103,104,105,106,107,108,109,110,111,112,113,114,115,116,117,118,119,120,121,122]:=by decide +kernel
 rw[e,du];simp only[decide_eq_true_eq,ap,bz,or_false,sgB,Bool.or_eq_true,cb,beq_iff_eq];omega
def scLflo:km ["_law_found","_law_row","_law_sign"] Z7 (kb Hu):={}
theorem api(B:∀x∈qy,mg x=none)(F:Fun K "_law_is_floor" "_law_is_floor" Hu f fd):p9 P w K mg base CX0 1 f fd Z7 DK:=by
 refine F.ok (k:=0) scLflo (λvs H Q E h=>?_) λbE A outer s H vs Q E hr h=>?_
 .obtain⟨v,T,rfl,_⟩:=h;rfl
 obtain⟨v,T,rfl,hv,q⟩:=h;refine⟨_,(j3 (nv (PW.pt<|o6 (k9<|mq<|kq kh rfl (B "isinstance"<|by decide) bi<|j8 (pv 0)<|j8 (nc (v:=.ty "tuple") rfl (B "tuple"<|by decide) e9 rfl) jz)<|oe<|k9<|ox qc qc j2 (kq kj rfl (B "len"<|by decide) bb<|j8 (pv 0) jz) j2) (j4<|ke om) ku)
  (j3 (qt cx rfl (rq<|pv 0) (j9 (i:=1) scLflo.nd rfl<|Or.inl rfl) (j3 (nv (PW.pt<|o6 (k9<|mq<|kq kh rfl (B "isinstance"<|by decide) bi<|j8 (pv 1)<|j8 (nc (v:=.ty "str") rfl (B "str"<|by decide) cE rfl) jz)<|o6 (k9<|ox qc qc j2 (kq lm rfl (B "len"<|by decide) bb<|j8 (pv 1) jz) j2)<|oe<|mi yq (kq lm rfl (B "len"<|by decide) bb<|j8 (pv 1) jz) (kq lm rfl (B "len"<|by decide) bb<|j8 (kr ml (pv 0) j2 λ_ _=>rfl) jz)<|l4 _) (j4<|ke om) ku)
  (j4<|qt cx rfl (Ae<|pv 1) (j9 (i:=2) scLflo.nd rfl<|Or.inl rfl)<|j4<|nv (mi ad2 (pv 2) lv rfl) (j4<|ke om) ku)))
  (j4<|ke om))),?_⟩
 have q0:=q H<|Same.refl H;clear q;cases T with
 | none=>
  obtain⟨t,ty,kt⟩:=NoTup.ty (K:=K) hv;refine(j1 _ rfl v ("tuple") t false ⟨rfl,ty,kt,false,rfl,?_⟩);refine mh ?_;refine mh ?_;exact q0
 | some os=>
  obtain⟨BM,a,xs,rfl,ha,hi⟩:=hv;have hl:=hi.1;refine(j1 _ rfl (.ref a) ("tuple") (.type "tuple") true ⟨rfl,.tup ha,rfl,true,rfl,?_⟩);refine ny ?_;refine(m6 _ rfl a xs ⟨rfl,.inr<|SqT.of ha,?_⟩);refine(kl _ _ ⟨rfl,rfl,_,rfl,?_⟩);refine oy (λc1=>?_) λc1=>?_
  .have gA:(1:Int)<=(xs.length:Int):=of_decide_eq_true c1;refine(kl _ _ ⟨rfl,rfl,_,rfl,?_⟩);refine oy (λc2=>?_) λc2=>?_
   .have gN:¬((xs.length:Int)<=8):=by simpa using c2
    have e:flB (some os)=false:=by rw[zY];rw[decide_eq_false (show ¬os.length<=8 by lia),ij,cf]
    rw[<-e];exact q0
   .have gN:(xs.length:Int)<=8:=by simpa using c2
    have ef:flB (some os)=(os.all λo=>iT o&&(xw o==xw ((os[0]?).getD none))):=by rw[zY];rw[decide_eq_true (show 1<=os.length by lia),decide_eq_true (show os.length<=8 by lia)];rfl
    have no:∀(i:Nat)(o:Option Str),os[i]?=some o->(iT o&&(xw o==xw ((os[0]?).getD none)))=false->Q (.bl false) H:=λi o ho hb=>by
     have e:flB (some os)=false:=by rw[ef,List.all_eq_false];exact⟨o,ah ho,by rw[hb];simp⟩
     rw[<-e];exact q0
    have h0:0<xs.length:=by lia
    obtain⟨o0,wI,wS⟩:=hi.at<|aa h0;refine(lu _ rfl a ⟨rfl,⟨_,SqT.of ha⟩,?_⟩);refine Ed (xs:=xs) (λi σ' H'=>∃y1 y2,σ'=[some (.ref a),y1,y2]/\H'=H/\∀(j:Nat)(o:Option Str),j<i->os[j]?=some o->(iT o&&(xw o==xw ((os[0]?).getD none)))=true) ?_ (λi σ' H' jV h=>?_) (λi x σ' H' hx h=>?_) λσ' H' h=>?_
    .exact(kl _ _ ⟨rfl,rfl,λj o hj=>by lia⟩)
    .obtain⟨_,_,_,rfl,_⟩:=h;exact SqT.of ha
    .obtain⟨y1,y2,rfl,rfl,aU⟩:=h;obtain⟨o,ho,eY⟩:=hi.at hx;cases o with
     | none=>
      obtain⟨t,ty,kt⟩:=NoStr.ty (K:=K) eY;refine(j1 _ rfl x ("str") t false ⟨rfl,ty,kt,false,rfl,?_⟩);refine mh ?_;refine mh ?_;exact no i none ho rfl
     | some z=>
      obtain⟨rfl,hz⟩:=eY;refine(j1 _ rfl (.str z) ("str") (.type "str") true ⟨rfl,.str z,rfl,true,rfl,?_⟩);refine ny ?_;refine(lu _ rfl z ⟨rfl,o9 hz,?_⟩);refine(kl _ _ ⟨rfl,rfl,_,rfl,?_⟩);refine oy (λc3=>?_) λc3=>?_
      .have xJ:(1:Int)<=(z.length:Int):=of_decide_eq_true c3;refine(kl _ _ ⟨rfl,rfl,_,rfl,?_⟩);refine oy (λc4=>?_) λc4=>?_
       .have B0:¬((z.length:Int)<=8):=by simpa using c4
        refine mh ?_;refine no i (some z) ho ?_;rw[xN,decide_eq_false (show ¬z.length<=8 by lia),ij,cf,cf]
       .have B0:(z.length:Int)<=8:=by simpa using c4
        have lV:∃z0,o0=some z0:=by
         cases i with
         | zero=>rw[ho]at wI;cases wI;exact⟨_,rfl⟩
         | succ i=>
          have:=aU 0 o0 (by lia) wI;rw[cb]at this;exact IT this.1
        obtain⟨z0,rfl⟩:=lV;obtain⟨e0,lV⟩:=wS;refine(lu _ rfl z ⟨rfl,o9 hz,(j1 _ rfl a xs _ (.str z0) ⟨rfl,rfl,SqT.of ha,Hg<|by rw[aa h0,e0],z0,rfl,o9 lV,rfl,_,rfl,?_⟩)⟩);have ee:(!decide (V.int (z.length:Int)=V.int (z0.length:Int))) = !(xw (some z)==xw ((os[0]?).getD none)):=by
         rw[wI];show _ = !(z.length==z0.length);rw[show decide (V.int (z.length:Int)=V.int (z0.length:Int))=(z.length==z0.length)from ?_];rw[du,decide_eq_true_eq,beq_iff_eq];constructor
         .intro h;injection h with h
          lia
         .intro h;rw[h]
        rw[ee];refine oy (λc5=>?_) λc5=>?_
        .have GH:(xw (some z)==xw ((os[0]?).getD none))=false:=by simpa using c5
         refine no i (some z) ho ?_;rw[GH,ij]
        .have GH:(xw (some z)==xw ((os[0]?).getD none))=true:=by simpa using c5
         refine(lu _ rfl z ⟨rfl,?_⟩);refine apf (x:=z) (λj σ' H2=>∃y2,σ'=[some (.ref a),some<|.str z,y2]/\H2=H'/\∀(m c:Nat),m<j->z.cps.toList[m]?=some c->sgB c=true) ?_ (λj c σ' H' hc h=>?_) λσ' H' h=>?_
         .exact⟨_,rfl,rfl,λm c hm=>by lia⟩
         .obtain⟨y2,rfl,rfl,fW⟩:=h;refine(mf _ rfl _ _ rfl rfl _ ⟨rfl,?_⟩);rw[amp];refine oy (λc6=>?_) λc6=>?_
          .have GG:sgB c=false:=by simpa using c6
           refine no i (some z) ho ?_;have:z.cps.toList.all sgB=false:=by rw[List.all_eq_false];exact⟨c,ah hc,by rw[GG];simp⟩
           rw[xN,this,ij,cf]
          .have GG:sgB c=true:=by simpa using c6
           refine⟨_,rfl,rfl,λm c2 hm h2=>?_⟩;by_cases em:m<j
           .exact fW m c2 em h2
           .have BR:m=j:=by lia
            subst BR;rw[hc]at h2;cases h2;exact GG
         .obtain⟨y2,rfl,rfl,fW⟩:=h;refine(kl _ _ ⟨rfl,rfl,λm o hm h2=>?_⟩);by_cases em:m<i
          .exact aU m o em h2
          .have BR:m=i:=by lia
           subst BR;rw[ho]at h2;cases h2;have:z.cps.toList.all sgB=true:=by rw[bh];intro c hc;obtain⟨j,hj,rfl⟩:=jb.mp hc;exact fW j _ hj<|aa hj
           rw[xN,this,GH,decide_eq_true (show 1<=z.length by lia),decide_eq_true (show z.length<=8 by lia)];rfl
      .have xJ:¬((1:Int)<=(z.length:Int)):=by simpa using c3
       refine⟨_,rfl,?_⟩;refine mh ?_;refine mh ?_;refine no i (some z) ho ?_;rw[xN,decide_eq_false (show ¬1<=z.length by lia),cf,cf,cf]
    .obtain⟨y1,y2,rfl,rfl,aU⟩:=h;have e:flB (some os)=true:=by
      rw[ef,bh];intro o ho;obtain⟨j,hj,rfl⟩:=jb.mp ho;exact aU j _ (by lia)<|aa hj
     rw[e]at q0;exact q0
  .have gA:¬((1:Int)<=(xs.length:Int)):=by simpa using c1
   refine⟨_,rfl,?_⟩;refine mh ?_;have e:flB (some os)=false:=by rw[zY];rw[decide_eq_false (show ¬1<=os.length by lia),cf,cf]
   rw[<-e];exact q0
def KnN:Nat->Hp->V->Prop
 | 0,H,v=>Kn H v
 | n+1,H,v=>Kn H v/\∀a xs,v=.ref a->H a=some (.tup xs)->xs.length<=60/\∀x∈xs,KnN n H x
theorem KnN.kn{n:Nat}{H:Hp}{v:V}(h:KnN n H v):Kn H v:=by
 cases n with
 | zero=>exact h
 | succ n=>exact h.1
theorem KnN.same{H H':Hp}(s:Same H H'):∀{n:Nat} {v:V},KnN n H v->KnN n H' v
 | 0,v,h=>Kn.same s h
 | n+1,v,h=>⟨h.1.same s,λa xs e ha=>by subst e;obtain⟨h1,h2⟩:=h.2 a xs rfl<|ve s h.1 ha;exact⟨h1,λx hx=>KnN.same s<|h2 x hx⟩⟩
theorem KnN.down:∀{n:Nat} {H:Hp} {v:V},KnN (n+1) H v->KnN n H v
 | 0,H,v,h=>h.1
 | n+1,H,v,h=>⟨h.1,λa xs e ha=>⟨(h.2 a xs e ha).1,λx hx=>KnN.down<|(h.2 a xs e ha).2 x hx⟩⟩
noncomputable def smB(c:Nat):Bool:=decide (97<=c)&&decide (c<=122)
noncomputable def v0:V->Bool
 | .str z=>decide (1<=z.length)&&decide (z.length<=8)&&z.cps.toList.all smB
 | _=>false
noncomputable def zf(z:Str):Bool:=decide (z=ae "still")||decide (z=ae "turn")||decide (z=ae "flip")
noncomputable def tF:V->Bool
 | .str z=>zf z
 | _=>false
noncomputable def iS:V->V->Bool
 | .int i,.non=>decide (0<=i)&&decide (i<=64)
 | .int i,.int j=>decide (0<=i)&&decide (i<=64)&&(decide (i<=j)&&decide (j<=64))
 | _,_=>false
def Hn(P:aJ)(w:aL)(K:au)(mg:Str->Option aA):Prop:=∃aD oD aP,mg "TURNINGS_BY_MODE" = some (.ref aD)/\K.lookup aD=some oD/\oD.IsDictOf (PySem.strKind P w) aP/\(aD==aX)=false/\∀z,(eJ aP z).isSome=zf z
def GI(mg:Str->Option aA)(x:Str)(n:Int):Prop:=∃t,mg x=some (.int n t)
def IR{K:au}{H:Hp}{v:V}(h:Kn H v):(∃z,v=.str z/\Tx z)\/((∃t,jC K H v t/\jk K t (.type "str")=some false)/\tF v=false/\v0 v=false):=by
 rcases h with rfl|⟨b,rfl⟩|⟨i,rfl⟩|⟨z,rfl,hz⟩|⟨a,rfl,⟨ys,h⟩|⟨ys,h⟩|h⟩
 .exact .inr ⟨⟨_,.non,rfl⟩,rfl,rfl⟩
 .exact .inr ⟨⟨_,.bl b,rfl⟩,rfl,rfl⟩
 .exact .inr ⟨⟨_,.int i,rfl⟩,rfl,rfl⟩
 .exact .inl ⟨z,rfl,hz⟩
 .exact .inr ⟨⟨_,.lst h,rfl⟩,rfl,rfl⟩
 .exact .inr ⟨⟨_,.tup h,rfl⟩,rfl,rfl⟩
 .exact .inr ⟨⟨_,.dK h,rfl⟩,rfl,rfl⟩
def an1:Sp:=λvs H Q _=>∃v,vs=[v]/\Kn H v/\Q (.bl<|tF v) H
def as3:km Z8 Z8 (kb Hs):={}
def ap6(B:∀x∈qy,mg x=none)(hM:Hn P w K mg)(F:Fun K "is_mode" "is_mode" Hs f fd):p9 P w K mg base CX0 1 f fd Z8 an1:=by
 refine F.ok (k:=0) as3 (λvs H Q E h=>?_) λbE A outer s H vs Q E hr h=>?_
 .obtain⟨c,rfl,_⟩:=h;rfl
 obtain⟨v,rfl,hv,q⟩:=h;obtain⟨aD,oD,aP,hD,lD,dD,nD,mD⟩:=hM;refine⟨_,(j4<|ke<|oa (kq kh rfl (B "isinstance"<|by decide) bi<|j8 (pv 0)<|j8 (nc (v:=.ty "str") rfl (B "str"<|by decide) cE rfl) jz)<|o4<|m5 aux (pv 0) (anh hD rfl) rfl),?_⟩;rcases IR (K:=K) hv with ⟨z,rfl,hz⟩|⟨⟨t,ty,kt⟩,e,_⟩
 .refine(j1 _ rfl _ _ _ true ⟨rfl,.str _,rfl,true,rfl,mh ?_⟩);refine(j1 _ rfl aD z oD aP ⟨rfl,rfl,lD,dD,nD,?_⟩);rw[mD];exact q
 .rw[e]at q;exact(j1 _ rfl v _ t false ⟨rfl,ty,kt,false,rfl,ny q⟩)
def yt(z:Str):v0 (.str z)=(decide (1<=z.length)&&decide (z.length<=8)&&z.cps.toList.all smB):=rfl
def aog:Sp:=λvs H Q _=>∃v,vs=[v]/\Kn H v/\∀H',Same H H'->Q (.bl<|v0 v) H'
def aso:km Z8 Z8 (kb HI):={}
def aqf(B:∀x∈qy,mg x=none)(Gm:GI mg "LONGEST_NAME" 8)(lE:Fn P w K mg base "is_small" 1 Z8 II)(F:Fun K "is_name" "is_name" HI f fd):p9 P w K mg base CX0 2 f fd Z8 aog:=by
 refine F.ok (k:=1) aso (λvs H Q E h=>?_) λbE A outer s H vs Q E hr h=>?_
 .obtain⟨v,rfl,_⟩:=h;rfl
 obtain⟨v,rfl,hv,q⟩:=h;refine⟨_,(j3 (nv (PW.pt<|o6 (k9<|mq<|kq kh rfl (B "isinstance"<|by decide) bi<|j8 (pv 0)<|j8 (nc (v:=.ty "str") rfl (B "str"<|by decide) cE rfl) jz)<|oe<|k9<|ox qc qc j2 (kq lm rfl (B "len"<|by decide) bb<|j8 (pv 0) jz)<|rg Gm rfl) (j4<|ke om) ku)
  (j4<|ke<|kq (ow rfl) rfl (B "all"<|by decide) bP<|j8 (mj ["letter"] [none] rfl rfl (by decide +kernel) (by decide +kernel) rfl rfl (Ae<|pv 0) (λ_=>(j9 (i:=0) (show(["letter"]:U PySem.Str).Nodup by decide +kernel) rfl<|Or.inl rfl)) (λ_=>lr) λ_=>(k8 lE hr (by decide) rfl<|j8 (pv 0) jz)) jz)),?_⟩
 rcases IR (K:=K) hv with ⟨z,rfl,hz⟩|⟨⟨t,ty,kt⟩,_,e⟩
 .refine(j1 _ rfl (.str z) ("str") (.type "str") true ⟨rfl,.str z,rfl,true,rfl,?_⟩);refine ny ?_;refine(lu _ rfl z ⟨rfl,o9 hz,?_⟩);refine(kl _ _ ⟨rfl,rfl,_,rfl,?_⟩);refine oy (λc1=>?_) λc1=>?_
  .have gA:(1:Int)<=(z.length:Int):=of_decide_eq_true c1;refine(kl _ _ ⟨rfl,rfl,_,rfl,?_⟩);refine oy (λc2=>?_) λc2=>?_
   .have gN:¬((z.length:Int)<=8):=by simpa using c2
    have e:v0 (.str z)=false:=by rw[yt];rw[decide_eq_false (show ¬z.length<=8 by lia),ij,cf]
    rw[<-e];exact q H<|Same.refl H
   .have gN:(z.length:Int)<=8:=by simpa using c2
    have hl:=mK z;refine(lu _ rfl z ⟨rfl,λD hD=>?_⟩);refine wu (λi ys H'=>Same H H'/\ys=((z.cps.toList.take i).map smB).map V.bl) ⟨Same.fresh _ hD,rfl⟩ (λi c ys H' hx hi aQ aV p=>?_) λys H' aQ aV p=>?_
    .obtain⟨p1,rfl⟩:=p;refine⟨Agree.set (Agree.refl _) rfl,?_⟩;dsimp only[sq];refine mh ?_;refine(lu _ rfl c ⟨rfl,?_⟩);refine ng (by lia) aQ aV ⟨p1.new hD,?_⟩;rw[kc smB hx,a7];rfl
    .obtain⟨p1,rfl⟩:=p;refine(kl D (z.cps.toList.map smB) ⟨rfl,?_,?_⟩)
     .rw[aQ,gu]
     .have e:v0 (.str z)=(z.cps.toList.map smB).all id:=by
       rw[yt];rw[decide_eq_true (show 1<=z.length by lia),decide_eq_true (show z.length<=8 by lia),ik];rfl
      rw[<-e];exact q H' p1
  .have gA:¬((1:Int)<=(z.length:Int)):=by simpa using c1
   refine⟨_,rfl,?_⟩;refine mh ?_;have e:v0 (.str z)=false:=by rw[yt];rw[decide_eq_false (show ¬1<=z.length by lia),cf,cf]
   rw[<-e];exact q H<|Same.refl H
 .rw[e]at q;refine(j1 _ rfl v ("str") t false ⟨rfl,ty,kt,false,rfl,?_⟩);refine mh ?_;refine mh ?_;exact q H<|Same.refl H
def aut:Sp:=λvs H Q _=>∃l m,vs=[l,m]/\Kn H l/\Kn H m/\Q (.bl<|iS l m) H
def awa:km ZO ZO (kb GP):={}
def DU{H:Hp}{v:V}(h:Kn H v):(∃i,v=.int i)\/(isW v=false/\(∀m,iS v m=false)/\(v≠.non->∀i,iS (.int i) v=false)):=by
 rcases h with rfl|⟨b,rfl⟩|⟨i,rfl⟩|⟨z,rfl,hz⟩|⟨a,rfl,h⟩
 .exact .inr ⟨rfl,λ_=>rfl,λh=>absurd rfl h⟩
 .exact .inr ⟨rfl,λ_=>rfl,λ_ _=>rfl⟩
 .exact .inl ⟨i,rfl⟩
 .exact .inr ⟨rfl,λ_=>rfl,λ_ _=>rfl⟩
 .exact .inr ⟨rfl,λ_=>rfl,λ_ _=>rfl⟩
def ar4(B:∀x∈qy,mg x=none)(DB:GI mg "MOST_LAID" 64)(Cv:Fn P w K mg base "is_whole" 1 Z8 spW)(F:Fun K "are_bounds" "are_bounds" GP f fd):p9 P w K mg base CX0 2 f fd ZO aut:=by
 refine F.ok (k:=1) awa (λvs H Q E h=>?_) λbE A outer s H vs Q E hr h=>?_
 .obtain⟨l,m,rfl,_⟩:=h;rfl
 obtain⟨l,m,rfl,hl,hm,q⟩:=h;refine⟨_,(j3 (nv (PW.pt<|o6 (k9<|mq<|k8 Cv hr (by decide) rfl<|j8 (pv 0) jz)<|oe<|k9<|ox qc qc j2 (pv 0)<|rg DB rfl) (j4<|ke om) ku)
  (j4<|ke<|zV (m5 anw (pv 1) Ck<|l4 _)<|o4<|oa (k8 Cv hr (by decide) rfl<|j8 (pv 1) jz)<|o4<|IV qc qc (pv 0) (pv 1)<|rg DB rfl)),?_⟩
 rcases DU hl with ⟨i,rfl⟩|⟨e1,e2,_⟩
 .refine(lu _ rfl (.int i) ⟨rfl,hl,true,rfl,ny ?_⟩);refine(mf _ rfl _ _ rfl rfl _ ⟨rfl,?_⟩);have pW:∀m,(¬0<=i\/¬i<=64)->iS (.int i) m=false:=λm h=>by
   cases m<;>first|rfl|(unfold iS;rcases h with h|h<;>simp[h])
  refine oy (λc1=>?_) λc1=>?_
  .have gA:(0:Int)<=i:=of_decide_eq_true c1;refine(kl _ _ ⟨rfl,rfl,_,rfl,?_⟩);refine oy (λc2=>?_) λc2=>?_
   .have gN:¬(i<=64):=by simpa using c2
    rw[pW m (.inr gN)]at q;exact q
   .have gN:i<=64:=by simpa using c2
    refine(my _ rfl rfl _ ⟨rfl,?_⟩);by_cases hn:m=.non
    .subst hn;have e:iS (.int i) .non=true:=by unfold iS;simp[gA,gN]
     rw[e]at q;exact mh q
    .rw[decide_eq_false hn];refine ny ?_;refine(lu _ rfl m ⟨rfl,hm,?_⟩);rcases DU hm with ⟨j,rfl⟩|⟨e1,_,e3⟩
     .refine⟨true,rfl,mh ?_⟩;have e:iS (.int i) (.int j)=(decide (i<=j)&&decide (j<=64)):=by unfold iS;simp[gA,gN]
      rw[e]at q;refine(o7 _ rfl _ rfl _ _ rfl rfl _ ⟨rfl,?_⟩);refine oy (λc3=>?_) λc3=>?_
      .rw[c3,Bool.true_and]at q;exact(kl _ _ ⟨rfl,rfl,q⟩)
      .rw[Bool.eq_false_iff.mpr c3,cf]at q;exact q
     .rw[e1];rw[e3 hn]at q;exact⟨false,rfl,ny q⟩
  .have gA:¬((0:Int)<=i):=by simpa using c1
   refine⟨_,rfl,?_⟩;refine mh ?_;rw[pW m (.inl gA)]at q;exact q
 .refine(lu _ rfl l ⟨rfl,hl,false,by rw[e1],mh ?_⟩);rw[e2]at q;exact mh q
noncomputable def leS(x y:Str):Bool:=!decide (y.cps.toList<x.cps.toList)
noncomputable def tH:V->V->Bool
 | .str x,.str y=>sg1 x&&sg1 y&&leS x y
 | _,_=>false
noncomputable def su(H:Hp):V->Bool
 | .ref a=>match H a with
  | some (.tup [x,y])=>tH x y
  | _=>false
 | _=>false
def aot:Sp:=λvs H Q _=>∃v,vs=[v]/\KnN 1 H v/\Q (.bl<|su H v) H
def at3:km Z8 Z8 (kb HR):={}
def oj(H:Hp)(a:aF):su H (.ref a)=(match H a with|some (.tup [x,y])=>tH x y|_=>false):=rfl
theorem Ja{H:Hp}{a:aF}{xs:U V}(ha:H a=some (.tup xs))(h:xs.length≠2):su H (.ref a)=false:=by
 rw[oj,ha]
 match xs,h with
 | [],_=>rfl
 | [_],_=>rfl
 | [_,_],h=>exact absurd rfl h
 | _::_::_::_,_=>rfl
def se{K:au}{H:Hp}{v:V}(h:Kn H v):(∃a xs,v=.ref a/\H a=some (.tup xs))\/((∃t,jC K H v t/\jk K t (.type "tuple")=some false)/\su H v=false/\∀a xs,v=.ref a->H a=some (.tup xs)->False):=by
 rcases h with rfl|⟨b,rfl⟩|⟨i,rfl⟩|⟨z,rfl,_⟩|⟨a,rfl,⟨ys,h⟩|⟨ys,h⟩|h⟩
 .exact .inr ⟨⟨_,.non,rfl⟩,rfl,λ_ _ e=>by cases e⟩
 .exact .inr ⟨⟨_,.bl b,rfl⟩,rfl,λ_ _ e=>by cases e⟩
 .exact .inr ⟨⟨_,.int i,rfl⟩,rfl,λ_ _ e=>by cases e⟩
 .exact .inr ⟨⟨_,.str z,rfl⟩,rfl,λ_ _ e=>by cases e⟩
 .exact .inr ⟨⟨_,.lst h,rfl⟩,by rw[oj,h],λb xs e ha=>by cases e;rw[h]at ha;cases ha⟩
 .exact .inl<|kl a ys ⟨rfl,h⟩
 .exact .inr ⟨⟨_,.dK h,rfl⟩,by rw[oj,h],λb xs e ha=>by cases e;rw[h]at ha;cases ha⟩
def D6{v:V}(h:lB v=true):∃z,v=.str z/\sg1 z=true:=by cases v<;>first|(exact⟨_,rfl,h⟩)|(exact absurd h aj)
def afx{x y:V}(h:lB x=false):tH x y=false:=by cases x<;>first|rfl|(cases y<;>first|rfl|(show(sg1 _&&sg1 _&&leS _ _)=false;rw[show sg1 _=false from h];rfl))
def agq{x y:V}(h:lB y=false):tH x y=false:=by cases x<;>first|rfl|(cases y<;>first|rfl|(show(sg1 _&&sg1 _&&leS _ _)=false;rw[show sg1 _=false from h];simp))
def Ag{n m:Nat}(h:n≠m):decide (V.int ((n:Nat):Int)=V.int ((m:Nat):Int))=false:=decide_eq_false λe=>h<|by injection e with e;exact Int.ofNat_inj.mp e
theorem aqa(B:∀x∈qy,mg x=none)(vL:Fn P w K mg base "is_sign" 1 Z8 spS)(F:Fun K "is_pair" "is_pair" HR f fd):p9 P w K mg base CX0 2 f fd Z8 aot:=by
 refine F.ok (k:=1) at3 (λvs H Q E h=>?_) λbE A outer s H vs Q E hr h=>?_
 .obtain⟨v,rfl,_⟩:=h;rfl
 obtain⟨v,rfl,hv,q⟩:=h;refine⟨_,(j3 (nv (PW.pt<|o6 (k9<|mq<|kq kh rfl (B "isinstance"<|by decide) bi<|j8 (pv 0)<|j8 (nc (v:=.ty "tuple") rfl (B "tuple"<|by decide) e9 rfl) jz)<|oe<|mi yq (kq kj rfl (B "len"<|by decide) bb<|j8 (pv 0) jz) j2<|l4 _) (j4<|ke om) ku)
  (j4<|ke<|oa (k8 vL hr (by decide) rfl<|j8 (kr ml (pv 0) j2 λ_ _=>rfl) jz)<|oa (k8 vL hr (by decide) rfl<|j8 (kr ml (pv 0) j2 λ_ _=>rfl) jz)<|o4<|m5 vk (kr ml (pv 0) j2 λ_ _=>rfl) (kr ml (pv 0) j2 λ_ _=>rfl)<|l4 _)),?_⟩
 rcases se (K:=K) hv.kn with ⟨a,xs,rfl,ha⟩|⟨⟨t,ty,kt⟩,e,_⟩
 .obtain⟨kB,kn⟩:=hv.2 a xs rfl ha;refine(j1 _ rfl (.ref a) ("tuple") (.type "tuple") true ⟨rfl,.tup ha,rfl,true,rfl,ny ?_⟩);refine(qa _ rfl a xs rfl (.inr<|SqT.of ha) rfl _ ⟨rfl,?_⟩);by_cases h2:xs.length=2
  .match xs,h2,ha,kn with
   | [x,y],_,ha,kn=>
    have kx:Kn H x:=kn x (by simp);have ky:Kn H y:=kn y (by simp);have zK:su H (.ref a)=tH x y:=by rw[oj,ha]
    rw[zK]at q;refine ny ?_;refine(j1 _ rfl a _ _ _ ⟨rfl,rfl,SqT.of ha,rfl,x,rfl,kx,?_⟩);cases hx:lB x with
    | false=>
     rw[afx hx]at q;exact⟨false,rfl,ny q⟩
    | true=>
     refine⟨true,rfl,mh ?_⟩;refine(j1 _ rfl a _ _ _ ⟨rfl,rfl,SqT.of ha,rfl,y,rfl,ky,?_⟩);cases hy:lB y with
     | false=>
      rw[agq hy]at q;exact⟨false,rfl,ny q⟩
     | true=>
      refine⟨true,rfl,mh ?_⟩;obtain⟨zx,rfl,sx⟩:=D6 hx;obtain⟨zy,rfl,sy⟩:=D6 hy;refine(j1 _ rfl a _ _ _ ⟨rfl,rfl,SqT.of ha,rfl,(j1 _ rfl a _ _ _ ⟨rfl,rfl,SqT.of ha,rfl,(kl zx zy ⟨rfl,rfl,?_⟩)⟩)⟩);have e:tH (.str zx) (.str zy) = !decide (zy.cps.toList<zx.cps.toList):=by show(sg1 zx&&sg1 zy&&leS zx zy)=_;rw[sx,sy];rfl
      rw[e]at q;exact q
  .rw[Ja ha h2]at q;refine oy (λ_=>?_) λh=>absurd (show(!decide (V.int ((xs.length:Nat):Int)=V.int ((2:Nat):Int)))=true by rw[Ag h2];rfl) h;exact q
 .rw[e]at q;refine(j1 _ rfl v ("tuple") t false ⟨rfl,ty,kt,false,rfl,mh ?_⟩);exact mh q
def vh{H H':Hp}{v:V}(s:Same H H')(h:Kn3 H v):FormP H' v↔FormP H v:=by
 constructor
 .rintro⟨a,xs,ds,rfl,ha,cD,fr⟩;have uY:=ve s h.1 ha;obtain⟨_,kx⟩:=h.2 a xs rfl uY;have e:xs.all (qx H)=xs.all (qx H'):=by
   rw[du,bh,bh];constructor
   .intro q x hx;rw[vq s (kx x hx).1];exact q x hx
   .intro q x hx;rw[<-vq s (kx x hx).1];exact q x hx
  have aU:=xh cD fr.1.pre.sg;rw[<-e]at aU;obtain⟨es,re,qT⟩:=zn aU;have:=IK (re.same s) cD qT fr.1.pre.sg;subst this;exact(lq a xs es ⟨rfl,uY,re,fr⟩)
 .rintro⟨a,xs,ds,rfl,ha,cD,fr⟩;exact(lq a xs ds ⟨rfl,s _ _ ha,cD.same s,fr⟩)
def v8(H:Hp)(v:V):Prop:=∃a n l m md fm,v=.ref a/\H a=some (.tup [n,l,m,md,fm])/\v0 n=true/\iS l m=true/\tF md=true/\FormP H fm
def w4{H H':Hp}{v:V}(s:Same H H')(h:KnN 3 H v):v8 H' v↔v8 H v:=by
 constructor
 .rintro⟨a,n,l,m,md,fm,rfl,ha,h1,h2,h3,h4⟩;have bU:=ve s h.kn ha;have kf:KnN 2 H fm:=(h.2 a _ rfl bU).2 fm (by simp);exact(me a n l m md ⟨fm,rfl,bU,h1,h2,h3,(vh s kf).mp h4⟩)
 .rintro⟨a,n,l,m,md,fm,rfl,ha,h1,h2,h3,h4⟩;have kf:KnN 2 H fm:=(h.2 a _ rfl ha).2 fm (by simp);exact(me a n l m md ⟨fm,rfl,s _ _ ha,h1,h2,h3,(vh s kf).mpr h4⟩)
def aos:Sp:=λvs H Q _=>∃v,vs=[v]/\KnN 3 H v/\∀(b:Bool)(H':Hp),Same H H'->(b=true↔v8 H v)->Q (.bl b) H'
def au2:km Z8 Z8 (kb Hk):={}
theorem aps(B:∀x∈qy,mg x=none)(Cz:Fn P w K mg base "is_name" 2 Z8 aog)(JC:Fn P w K mg base "are_bounds" 2 ZO aut)(CA:Fn P w K mg base "is_mode" 1 Z8 an1)(Fpf:Fn P w K mg base "is_form" 4 Z8 DJ)
  (F:Fun K "is_kind" "is_kind" Hk f fd):p9 P w K mg base CX0 5 f fd Z8 aos:=by
 refine F.ok (k:=4) au2 (λvs H Q E h=>?_) λbE A outer s H vs Q E hr h=>?_
 .obtain⟨v,rfl,_⟩:=h;rfl
 obtain⟨v,rfl,hv,q⟩:=h;refine⟨_,(j3 (nv (PW.pt<|o6 (k9<|mq<|kq kh rfl (B "isinstance"<|by decide) bi<|j8 (pv 0)<|j8 (nc (v:=.ty "tuple") rfl (B "tuple"<|by decide) e9 rfl) jz)<|oe<|mi yq (kq kj rfl (B "len"<|by decide) bb<|j8 (pv 0) jz) j2<|l4 _) (j4<|ke om) ku)
  (j4<|ke<|oa (k8 Cz hr (by decide) rfl<|j8 (kr ml (pv 0) j2 λ_ _=>rfl) jz)<|oa (k8 JC hr (by decide) rfl<|j8 (kr ml (pv 0) j2 λ_ _=>rfl)<|j8 (kr ml (pv 0) j2 λ_ _=>rfl) jz)<|oa (k8 CA hr (by decide) rfl<|j8 (kr ml (pv 0) j2 λ_ _=>rfl) jz)<|o4<|k8 Fpf hr (by decide) rfl<|j8 (kr ml (pv 0) j2 λ_ _=>rfl) jz)),?_⟩
 rcases se (K:=K) hv.kn with ⟨a,xs,rfl,ha⟩|⟨⟨t,ty,kt⟩,_,gX⟩
 .obtain⟨kB,kn⟩:=hv.2 a xs rfl ha;refine(j1 _ rfl (.ref a) ("tuple") (.type "tuple") true ⟨rfl,.tup ha,rfl,true,rfl,ny ?_⟩);refine(qa _ rfl a xs rfl (.inr<|SqT.of ha) rfl _ ⟨rfl,?_⟩);by_cases h5:xs.length=5
  .match xs,h5,ha,kn with
   | [n,l,m,md,fm],_,ha,kn=>
    have kN:KnN 2 H n:=kn n (by simp);have kL:KnN 2 H l:=kn l (by simp);have kM:KnN 2 H m:=kn m (by simp);have kD:KnN 2 H md:=kn md (by simp);have kF:KnN 2 H fm:=kn fm (by simp);have no:(v0 n=false\/iS l m=false\/tF md=false\/¬FormP H fm)->¬v8 H (.ref a):=λhx ⟨a',n',l',m',tW,vB,e,bU,h1,h2,h3,h4⟩=>by
     cases e;rw[ha]at bU;cases bU;rcases hx with hx|hx|hx|hx
     .rw[hx]at h1;cases h1
     .rw[hx]at h2;cases h2
     .rw[hx]at h3;cases h3
     .exact hx h4
    refine ny ?_;refine(j1 _ rfl a _ _ _ ⟨rfl,rfl,SqT.of ha,rfl,n,rfl,kN.kn,λH1 s1=>?_⟩);have gM:=s1 _ _ ha;cases e1:v0 n with
    | false=>exact⟨false,rfl,ny<|q false H1 s1<|lg<|no<|.inl e1⟩
    | true=>
     refine⟨true,rfl,mh ?_⟩;refine(j1 _ rfl a _ _ _ ⟨rfl,rfl,SqT.of gM,rfl,(j1 _ rfl a _ _ _ ⟨rfl,rfl,SqT.of gM,rfl,(kl l m ⟨rfl,(kL.kn.same s1),(kM.kn.same s1),?_⟩)⟩)⟩);cases e2:iS l m with
     | false=>exact⟨false,rfl,ny<|q false H1 s1<|lg<|no<|.inr<|.inl e2⟩
     | true=>
      refine⟨true,rfl,mh ?_⟩;refine(j1 _ rfl a _ _ _ ⟨rfl,rfl,SqT.of gM,rfl,md,rfl,kD.kn.same s1,?_⟩);cases e3:tF md with
      | false=>exact⟨false,rfl,ny<|q false H1 s1<|lg<|no<|.inr<|.inr<|.inl e3⟩
      | true=>
       refine⟨true,rfl,mh ?_⟩;refine(j1 _ rfl a _ _ _ ⟨rfl,rfl,SqT.of gM,rfl,fm,rfl,kF.same s1,λb H2 s2 hb=>?_⟩);refine q b H2 (s1.trans s2) ?_;rw[hb,vh s1 kF];exact⟨λh4=>(me a n l m md ⟨fm,rfl,ha,e1,e2,e3,h4⟩),λhk=>by obtain⟨a',n',l',m',tW,vB,e,bU,_,_,_,h4⟩:=hk;cases e;rw[ha]at bU;cases bU;exact h4⟩
  .refine oy (λ_=>?_) λh=>absurd (show(!decide (V.int ((xs.length:Nat):Int)=V.int ((5:Nat):Int)))=true by rw[Ag h5];rfl) h;refine q false H (Same.refl H)<|lg λhk=>?_;obtain⟨a',n',l',m',tW,vB,e,bU,_⟩:=hk;cases e;rw[ha]at bU;cases bU;exact h5 rfl
 .refine(j1 _ rfl v ("tuple") t false ⟨rfl,ty,kt,false,rfl,mh ?_⟩);refine mh<|q false H (Same.refl H)<|lg λhk=>?_;obtain⟨a',n',l',m',tW,vB,e,bU,_⟩:=hk;exact gX a' _ e bU
def PrD(d:Z9):Prop:=∃x y:Nat,d=.tuple [.str ⟨#[x]⟩,.str ⟨#[y]⟩]/\65<=x/\x<=y/\y<=90
noncomputable def prN:Z9->Nat
 | .tuple [.str x,.str y]=>128*(x.cps.toList.headD 0)+y.cps.toList.headD 0
 | _=>0
def DV(x y:Nat):prN (.tuple [.str ⟨#[x]⟩,.str ⟨#[y]⟩])=128*x+y:=rfl
def ajo{d e:Z9}(hd:PrD d)(he:PrD e)(h:prN d=prN e):d=e:=by
 obtain⟨x,y,rfl,h1,h2,h3⟩:=hd;obtain⟨x',y',rfl,fQ,eK,Gj⟩:=he;rw[DV,DV]at h;have e1:x=x':=by lia
 have e2:y=y':=by lia
 rw[e1,e2]
theorem aum(a b:Nat):sLt ⟨#[a]⟩ ⟨#[b]⟩=decide (a<b):=by
 show decide ([a]<[b])=_;by_cases h:a<b
 .rw[decide_eq_true h];exact decide_eq_true<|List.Lex.rel h
 .rw[decide_eq_false h];refine decide_eq_false λq=>?_;cases q with
  | rel r=>exact h r
  | cons r=>cases r
def aug(a b:Nat):((⟨#[a]⟩:Str)=⟨#[b]⟩)↔a=b:=⟨λh=>by
 injection h with h
 injection h with h
 injection h,λh=>by rw[h]⟩
def Ia{d e:Z9}(hd:PrD d)(he:PrD e):ltR d e=decide (prN d<prN e):=by
 obtain⟨x,y,rfl,h1,h2,h3⟩:=hd;obtain⟨x',y',rfl,fQ,eK,Gj⟩:=he;rw[DV,DV];show pj [.str ⟨#[x]⟩,.str ⟨#[y]⟩] [.str ⟨#[x']⟩,.str ⟨#[y']⟩]=_;rw[Cc,Cc];simp only[aug,aum];rw[show pj [] []=false from rfl];by_cases e1:x=x'
 .rw[if_pos e1];by_cases e2:y=y'
  .rw[if_pos e2,decide_eq_false<|by lia]
  .rw[if_neg e2];by_cases h:y<y'
   .rw[decide_eq_true h,decide_eq_true<|by lia]
   .rw[decide_eq_false h,decide_eq_false<|by lia]
 .rw[if_neg e1];by_cases h:x<x'
  .rw[decide_eq_true h,decide_eq_true<|by lia]
  .rw[decide_eq_false h,decide_eq_false<|by lia]
def at4{d e:Z9}(hd:PrD d)(he:PrD e):ltD d e=decide (prN d<prN e):=by rw[<-Ia hd he];obtain⟨x,y,rfl,h1,h2,h3⟩:=hd;obtain⟨x',y',rfl,fQ,eK,Gj⟩:=he;show ltL [.str ⟨#[x]⟩,.str ⟨#[y]⟩] [.str ⟨#[x']⟩,.str ⟨#[y']⟩]=pj [.str ⟨#[x]⟩,.str ⟨#[y]⟩] [.str ⟨#[x']⟩,.str ⟨#[y']⟩];rfl
def ai3{ds:U Z9}(h:∀d∈ds,PrD d):zZ [false] ds:=λd hd=>by obtain⟨x,y,rfl,_⟩:=h d hd;exact(m6 _ rfl _ _ ⟨rfl,(kl _ _ ⟨rfl,rfl⟩)⟩)
def DY{d:Z9}(h:PrD d):DN d:=by obtain⟨x,y,rfl,_⟩:=h;exact⟨rfl,⟨_,rfl⟩,by simp[cy,ay]⟩
def as6{d e:Z9}(hd:PrD d)(he:PrD e):Cmp d e:=by obtain⟨x,y,rfl,h1,h2,h3⟩:=hd;obtain⟨x',y',rfl,fQ,eK,Gj⟩:=he;exact⟨trivial,trivial,trivial⟩
def zw(H:Hp)(v:V):Prop:=∃a xs ds,v=.ref a/\H a=some (.tup xs)/\RepAll H ds xs/\(∀d∈ds,PrD d)/\ds.Pairwise (λx y=>prN x<prN y)
def abz{H H':Hp}{v:V}(s:Same H H')(h:Kn H v):su H' v=su H v:=by
 rcases h with rfl|⟨b,rfl⟩|⟨i,rfl⟩|⟨z,rfl,_⟩|⟨a,rfl,⟨ys,h⟩|⟨ys,h⟩|h⟩
 .rfl
 .rfl
 .rfl
 .rfl
 .rw[oj,oj,h,s _ _ h]
 .rw[oj,oj,h,s _ _ h]
 .rw[oj,oj,h,s _ _ h]
def aim(x y:Nat):leS ⟨#[x]⟩ ⟨#[y]⟩=decide (x<=y):=le1 x y
def an5{z:Str}(h:sg1 z=true):∃c,z=⟨#[c]⟩/\65<=c/\c<=90:=by
 by_cases hl:z.length=1
 .obtain⟨c,rfl⟩:=Cf hl;rw[Ef]at h;simp at h;exact⟨c,rfl,h⟩
 .rw[Cp hl]at h;cases h
def anj{x y:V}(h:tH x y=true):∃zx zy,x=.str zx/\y=.str zy/\(sg1 zx&&sg1 zy&&leS zx zy)=true:=by cases x<;>first|(exact absurd h aj)|(cases y<;>first|(exact absurd h aj)|exact(kl _ _ ⟨rfl,rfl,h⟩))
theorem aqt{H:Hp}{v:V}(h:su H v=true):∃d,Rep H d v/\PrD d:=by
 cases v with
 | ref a=>
  have h0:=h;rw[oj]at h;cases ha:H a with
  | none=>rw[ha]at h;cases h
  | some o=>
   rw[ha]at h;cases o with
   | tup xs=>
    by_cases h2:xs.length=2
    .match xs,h2,ha,h with
     | [x,y],_,ha,h=>
      obtain⟨zx,zy,rfl,rfl,h'⟩:=anj h;rw[cb,cb]at h';obtain⟨⟨h1,h2⟩,h3⟩:=h';obtain⟨c,rfl,c1,c2⟩:=an5 h1;obtain⟨e,rfl,e1,e2⟩:=an5 h2;rw[aim]at h3;refine(m6 (.tuple [.str ⟨#[c]⟩,.str ⟨#[e]⟩]) (nh a _ rfl ha (.str ⟨#[c]⟩) _ rfl ⟨rfl,ok1<|by lia⟩ (.str ⟨#[e]⟩) ⟨_,rfl,⟨rfl,ok1<|by lia⟩,rfl⟩) c e ⟨rfl,c1,of_decide_eq_true h3,e2⟩)
    .rw[Ja ha h2]at h0;cases h0
   | _=>cases h
 | _=>cases h
def aq0{H:Hp}{v:V}{d:Z9}(r:Rep H d v)(h:PrD d):su H v=true:=by obtain⟨x,y,rfl,h1,h2,h3⟩:=h;obtain⟨a,xs,rfl,ha,v1,r1,rfl,⟨rfl,_⟩,v2,r2,rfl,⟨rfl,_⟩,e⟩:=r;cases (show r2=[]from e);rw[oj,ha];show(sg1 _&&sg1 _&&leS _ _)=true;rw[Ef,Ef,aim];simp;lia
theorem zi{H:Hp}:∀{xs:U V},xs.all (su H)=true->∃ds,RepAll H ds xs/\∀d∈ds,PrD d
 | [],_=>⟨[],rfl,λd hd=>by cases hd⟩
 | x::xs,h=>by
  rw[List.all_cons,cb]at h;obtain⟨d,r,p⟩:=aqt h.1;obtain⟨ds,rs,ps⟩:=zi h.2;exact⟨d::ds,(kl x xs ⟨rfl,r,rs⟩),λe he=>by
   rcases ap.mp he with rfl|he
   .exact p
   .exact ps e he⟩
theorem xj{H:Hp}:∀{ds:U Z9} {xs:U V},RepAll H ds xs->(∀d∈ds,PrD d)->xs.all (su H)=true
 | [],xs,r,_=>by cases (show xs=[]from r);rfl
 | d::ds,xs,r,h=>by obtain⟨x,ys,rfl,r1,r2⟩:=r;rw[List.all_cons,aq0 r1<|h d ak,xj r2 λe he=>h e<|ao _ he];rfl
theorem HQ:∀{ds:U Z9},(∀d∈ds,PrD d)->v4 ds=true
 | [],_=>rfl
 | d::ds,h=>by show(kd d&&v4 ds)=true;rw[(DY<|h d ak).1,HQ λe he=>h e<|ao _ he];rfl
theorem agk:∀{ds:U Z9},(∀d∈ds,PrD d)->ay ds<=8
 | [],_=>by simp[ay]
 | d::ds,h=>by have h1:=(DY<|h d ak).2.2;have h2:=agk λe he=>h e<|ao _ he;simp[ay];lia
theorem IL{H:Hp}:∀{ds es:U Z9} {xs:U V},RepAll H ds xs->RepAll H es xs->(∀d∈ds,PrD d)->(∀d∈es,PrD d)->ds=es
 | [],es,xs,r,r',_,_=>by
  cases (show xs=[]from r);cases es with
  | nil=>rfl
  | cons e es=>obtain⟨_,_,q,_⟩:=r';cases q
 | d::ds,es,xs,r,r',h,h'=>by
  obtain⟨x,ys,rfl,r1,r2⟩:=r;cases es with
  | nil=>cases r'
  | cons e es=>
   obtain⟨_,_,q,q1,q2⟩:=r';cases q;have e1:d=e:=by
    obtain⟨c1,c2,rfl,_⟩:=h d ak;obtain⟨gA,gN,rfl,_⟩:=h' e ak;obtain⟨a,xs,rfl,ha,v1,_,rfl,⟨rfl,_⟩,v2,_,rfl,⟨rfl,_⟩,z⟩:=r1;obtain⟨a',xs',e',bU,v1',_,e2',⟨e3',_⟩,v2',_,e4',⟨e5',_⟩,z'⟩:=q1;cases e';rw[ha]at bU;subst e2' e3' e4' e5';injection bU with bU
    injection bU with bU
    injection bU with i1 i2
    injection i2 with i2 i3
    injection i1 with i1
    injection i2 with i2
    rw[i1,i2]
   rw[e1,IL r2 q2 (λe he=>h e<|ao _ he) λe he=>h' e<|ao _ he]
def abx{H:Hp}{a:aF}{xs:U V}{ds:U Z9}(ha:H a=some (.tup xs))(r:RepAll H ds xs)(h:∀d∈ds,PrD d):zw H (.ref a)↔ds.Pairwise (λx y=>prN x<prN y):=by
 constructor
 .rintro⟨b,ys,es,e,hb,re,he,hp⟩;cases e;rw[ha]at hb;cases hb;rw[IL r re h he];exact hp
 .intro hp;exact(lq a xs ds ⟨rfl,ha,r,h,hp⟩)
def aby{H H':Hp}{v:V}(s:Same H H')(h:KnN 2 H v):zw H' v↔zw H v:=by
 constructor
 .rintro⟨a,xs,ds,rfl,ha,r,hp,hw⟩;have uY:=ve s h.kn ha;obtain⟨_,kx⟩:=h.2 a xs rfl uY;have aU:=xj r hp;have e:xs.all (su H)=true:=by
   rw[bh]at aU⊢;intro x hx;rw[<-abz s (kx x hx).kn];exact aU x hx
  obtain⟨es,re,pe⟩:=zi e;cases IL (re.same s) r pe hp;exact(lq a xs _ ⟨rfl,uY,re,hp,hw⟩)
 .rintro⟨a,xs,ds,rfl,ha,r,hp,hw⟩;exact(lq a xs ds ⟨rfl,s _ _ ha,r.same s,hp,hw⟩)
def Eb:Sp:=λvs H Q _=>∃v,vs=[v]/\KnN 2 H v/\∀(b:Bool)(H':Hp),Same H H'->(b=true↔zw H v)->Q (.bl b) H'
def apq:km Z8 Z8 (kb HY):={}
theorem ame(B:∀x∈qy,mg x=none)(Cw:Fn P w K mg base "is_pair" 2 Z8 aot)
  (F:Fun K "are_pairs" "are_pairs" HY f fd):p9 P w K mg base CX0 3 f fd Z8 Eb:=by
 refine F.ok (k:=2) apq (λvs H Q E h=>?_) λbE A outer s H vs Q E hr h=>?_
 .obtain⟨v,rfl,_⟩:=h;rfl
 obtain⟨v,rfl,hv,q⟩:=h;have hu:=hr.units;refine⟨_,(j3 (nv (PW.pt<|o6 (k9<|mq<|kq kh rfl (B "isinstance"<|by decide) bi<|j8 (pv 0)<|j8 (nc (v:=.ty "tuple") rfl (B "tuple"<|by decide) e9 rfl) jz)<|oe<|k9<|mq<|kq (ow rfl) rfl (B "all"<|by decide) bP<|j8 (mj ["pair"] [none] rfl rfl (by decide +kernel) (by decide +kernel) rfl rfl (rq<|pv 0) (λ_=>(j9 (i:=0) (show(["pair"]:U PySem.Str).Nodup by decide +kernel) rfl<|Or.inl rfl)) (λ_=>lr) λ_=>(k8 Cw hr (by decide) rfl<|j8 (pv 0) jz)) jz) (j4<|ke om) ku)
  (j4<|ke<|m5 (Ib hu) (wn aek rfl (B "list"<|by decide) boot_list<|j8 (pv 0) jz) (aew (kE true) ltR rfl hu rfl (B "sorted"<|by decide) rfl (B "set"<|by decide)<|j8 (pv 0) jz)<|l4 _)),?_⟩
 rcases se (K:=K) hv.kn with ⟨a,xs,rfl,ha⟩|⟨⟨t,ty,kt⟩,_,gX⟩
 .obtain⟨kB,kn⟩:=hv.2 a xs rfl ha;refine(j1 _ rfl (.ref a) ("tuple") (.type "tuple") true ⟨rfl,.tup ha,rfl,true,rfl,ny ?_⟩);refine(lu _ rfl a ⟨rfl,⟨_,SqT.of ha⟩,λD hD=>?_⟩);refine p8 (xs:=xs) (λi ys H'=>Same H H'/\ys=((xs.take i).map (su H)).map V.bl) ⟨Same.fresh _ hD,rfl⟩ (λi ys H' p=>SqT.of<|p.1 _ _ ha) (λi x ys H' hx hi aQ aV p=>?_) λys H' aQ aV p=>?_
  .obtain⟨p1,rfl⟩:=p;have kx:=kn x<|ah hx;refine⟨Agree.set (Agree.refl _) rfl,?_⟩;dsimp only[sq];refine mh ?_;refine(lu _ rfl x ⟨rfl,kx.same p1,ng (by lia) aQ aV ⟨p1.new hD,?_⟩⟩);rw[kc (su H) hx,a7,abz p1 kx.kn];rfl
  obtain⟨p1,rfl⟩:=p;refine(kl D _ ⟨rfl,aQ,_,rfl,?_⟩);rw[av (aq _),ik];have pU:(xs.all<|id∘su H)=xs.all (su H):=rfl;rw[pU];cases aU:xs.all (su H)with
  | false=>
   refine mh ?_;refine q false H' p1<|lg λ⟨b,ys,ds,e,hb,r,hp,_⟩=>?_;cases e;rw[ha]at hb;cases hb;rw[xj r hp]at aU;cases aU
  | true=>
   refine ny ?_;obtain⟨ds,cD,nN⟩:=zi aU;have hF:=abx ha cD nN;have gM:=p1 _ _ ha;refine(m6 _ rfl a xs ⟨rfl,.inr<|SqT.of gM,λl hl=>?_⟩);have s2:Same H' (upd H' l<|.lst xs):=Same.fresh _ hl;have r2:=cD.same<|p1.trans s2;have aR:=cD.length;refine(nk _ rfl a xs ds ⟨rfl,.inr<|s2 _ _ gM,r2,λd hd=>DY<|nN d hd,ajv<|ai3 nN,by lia,λes l2 ys nd mem vQ gL re=>?_⟩);have s3:Same (upd H' l<|.lst xs) (upd (upd H' l<|.lst xs) l2<|.lst ys):=Same.fresh _ gL;have qT:∀d∈es,PrD d:=λd hd=>nN d<|(mem d).mp hd;refine(kl (.list ds) (.list es) ⟨(kl l xs ⟨rfl,s3 _ _ j5,r2.same s3⟩),(kl l2 ys ⟨rfl,j5,re⟩),?_,?_⟩)
   .have:=agk nN;simp[cy];lia
   refine q _ _ ((p1.trans s2).trans s3) ?_;rw[hF,if_neg aj];have nZ:es.Pairwise (λx y=>prN x<prN y):=by have GJ:=List.Pairwise.and nd vQ;refine gj (λ{x y} hx hy C8=>?_) GJ;have h1:=C8.2;rw[Ia (qT y hy) (qT x hx)]at h1;have h2:¬prN y<prN x:=of_decide_eq_false h1;have h3:prN x≠prN y:=λe=>C8.1<|ajo (qT x hx) (qT y hy) e;lia
   constructor
   .intro h;have e:ds=es:=Jk ds es (HQ nN) (HQ qT) h;rw[e];exact nZ
   .intro h;have e:ds=es:=aa3 (R:=λx y=>prN x<prN y) (λx y h1 h2=>by lia) h nZ λz=>(mem z).symm;rw[e];exact SeqAt.eqv_refl (.list es) (show(PyData.list es).canLay0=true from re.lay)
 .exact(j1 _ rfl v ("tuple") t false ⟨rfl,ty,kt,false,rfl,mh<|mh<|q false H (Same.refl H)<|lg λ⟨b,ys,ds,e,hb,_⟩=>gX b ys e hb⟩)
def Nms(H:Hp)(xs:U V)(zs:U Str):Prop:=zs.length=xs.length/\∀(i:Nat)(x:V),xs[i]?=some x->∃(b:aF)(z:Str)(r:U V),x=.ref b/\H b=some (.tup (.str z::r))/\zs[i]?=some z
def Nms.same{H H':Hp}{xs:U V}{zs:U Str}(s:Same H H')(h:Nms H xs zs):Nms H' xs zs:=⟨h.1,λi x hx=>by obtain⟨b,z,r,e,hb,hz⟩:=h.2 i x hx;exact(lq b z r ⟨e,s _ _ hb,hz⟩)⟩
def Nms.uniq{H:Hp}{xs:U V}{zs ys:U Str}(h:Nms H xs zs)(k:Nms H xs ys):zs=ys:=by
 apply List.ext_getElem?;intro i;by_cases hi:i<xs.length
 .obtain⟨b,z,r,e,hb,hz⟩:=h.2 i _<|aa hi;obtain⟨b',z',r',e',bZ,lW⟩:=k.2 i _<|aa hi;rw[e]at e';cases e';rw[hb]at bZ;injection bZ with q
  injection q with q
  injection q with q _
  injection q with q
  rw[hz,lW,q]
 .rw[ix (by have:=h.1;lia),ix<|by have:=k.1;lia]
def amt{v:V}(h:v0 v=true):∃z,v=.str z:=by cases v<;>first|(exact⟨_,rfl⟩)|(exact absurd h aj)
theorem vz{H:Hp}:∀{xs:U V},(∀x∈xs,v8 H x)->∃zs,Nms H xs zs
 | [],_=>⟨[],rfl,λi x hx=>by simp at hx⟩
 | x::xs,h=>by
  obtain⟨a,n,l,m,md,fm,rfl,ha,h1,_⟩:=h x ak;obtain⟨z,rfl⟩:=amt h1;obtain⟨zs,hl,hz⟩:=vz λy hy=>h y<|ao _ hy;refine⟨z::zs,by rw[ba,ba,hl],λi y hy=>?_⟩;cases i with
  | zero=>
   cases (show V.ref a=y from by simpa using hy);exact(lq a z _ ⟨rfl,ha,rfl⟩)
  | succ i=>exact hz i y<|by simpa using hy
def wb(H:Hp)(v:V):Prop:=∃a xs zs,v=.ref a/\H a=some (.tup xs)/\1<=xs.length/\xs.length<=6/\(∀x∈xs,v8 H x)/\Nms H xs zs/\zs.Nodup
def ahm{H H':Hp}{v:V}(s:Same H H')(h:KnN 4 H v):wb H' v↔wb H v:=by
 constructor
 .rintro⟨a,xs,zs,rfl,ha,h1,h2,h3,h4,h5⟩;have uY:=ve s h.kn ha;obtain⟨_,kx⟩:=h.2 a xs rfl uY;have hk:∀x∈xs,v8 H x:=λx hx=>(w4 s<|kx x hx).mp (h3 x hx);obtain⟨ys,hy⟩:=vz hk;cases (hy.same s).uniq h4;exact(lq a xs _ ⟨rfl,uY,h1,h2,hk,hy,h5⟩)
 .rintro⟨a,xs,zs,rfl,ha,h1,h2,h3,h4,h5⟩;obtain⟨_,kx⟩:=h.2 a xs rfl ha;exact(lq a xs zs ⟨rfl,s _ _ ha,h1,h2,λx hx=>(w4 s<|kx x hx).mpr (h3 x hx),h4.same s,h5⟩)
open Classical in
noncomputable def xy(H:Hp)(x:V):Bool:=decide<|v8 H x
def kindB_iff{H:Hp}{x:V}:xy H x=true↔v8 H x:=by unfold xy;exact @decide_eq_true_iff _<|Classical.propDecidable _
def agf{H:Hp}{x:V}{b:Bool}(h:b=true↔v8 H x):b=xy H x:=by rw[du,h,kindB_iff]
theorem ab2{α:Type}[DecidableEq α]{R S:List α}(hR:R.Nodup)(hs:∀x,x∈R->x∈S)(hl:S.length<=R.length):S.Nodup:=by
 induction S generalizing R with
 | nil=>exact List.nodup_nil
 | cons a S ih=>
  by_cases ha:a∈S
  .have kR:∀x,x∈R->x∈S:=λx hx=>(ap.mp<|hs x hx).elim (λe=>e▸ha) id;have:=cw hR λx hx=>kR x hx;rw[ba]at hl;lia
  .refine g0.mpr ⟨ha,ih (R:=R.erase a) (hR.erase a) (λx hx=>?_) ?_⟩
   .have iK:=List.mem_of_mem_erase hx;rcases ap.mp (hs x iK)with e|h
    .subst e;exact absurd hx<|List.Nodup.not_mem_erase hR
    .exact h
   .have gL:R.length<=(R.erase a).length+1:=by
     by_cases h:a∈R
     .rw[List.length_erase_of_mem h];lia
     .rw[List.erase_of_not_mem h];lia
    rw[ba]at hl;lia
section
variable{K:au}{a D:aF}{xs:U V}{zs:U Str}{σ:L2.St}{H:Hp}{Q:VK}
def abt(ha:H a=some (.tup xs))(hn:Nms H xs zs)(hl:xs.length<=60)(hD:H D=none)(q:∀H',Same H H'->H' D=some (.lst<|zs.map V.str)->Q (.ref D) H') :
  rM (Itt K a) [none] (rn 0) sq (tOp (vH K) (yb 0)<|tC<|.int 0) σ H D Q:=by
 refine p8 (xs:=xs) (λi ys H'=>Same H H'/\ys=(zs.take i).map V.str) ⟨Same.fresh _ hD,rfl⟩ (λi ys H' p=>SqT.of<|p.1 _ _ ha) (λi x ys H' hx hi aQ aV p=>?_) λys H' aQ aV p=>?_
 .obtain⟨p1,rfl⟩:=p;obtain⟨b,z,r,rfl,hb,hz⟩:=hn.2 i x hx;refine⟨Agree.set (Agree.refl _) rfl,?_⟩;dsimp only[sq];refine mh ?_;refine(j1 _ rfl b _ _ _ ⟨rfl,rfl,SqT.of<|p1 _ _ hb,Hg rfl,ng (by lia) aQ aV ⟨p1.new hD,?_⟩⟩);rw[kc V.str hz]
 .obtain⟨p1,rfl⟩:=p;rw[av (by rw[hn.1];exact aq _)]at aQ;exact q H' p1 aQ
end
def akk:Sp:=λvs H Q _=>∃v,vs=[v]/\KnN 4 H v/\∀(b:Bool)(H':Hp),Same H H'->(b=true↔wb H v)->Q (.bl b) H'
def aq3:km Z8 Z8 (kb Iy):={}
theorem amb(B:∀x∈qy,mg x=none)(Gk:GI mg "MOST_KINDS" 6)(CH:Fn P w K mg base "is_kind" 5 Z8 aos)
  (F:Fun K "are_kinds" "are_kinds" Iy f fd):p9 P w K mg base CX0 6 f fd Z8 akk:=by
 refine F.ok (k:=5) aq3 (λvs H Q E h=>?_) λbE A outer s H vs Q E hr h=>?_
 .obtain⟨v,rfl,_⟩:=h;rfl
 obtain⟨v,rfl,hv,q⟩:=h;have hu:=hr.units;refine⟨_,(j3 (nv (PW.pt<|o6 (k9<|mq<|kq kh rfl (B "isinstance"<|by decide) bi<|j8 (pv 0)<|j8 (nc (v:=.ty "tuple") rfl (B "tuple"<|by decide) e9 rfl) jz)<|oe<|k9<|ox qc qc j2 (kq kj rfl (B "len"<|by decide) bb<|j8 (pv 0) jz)<|rg Gk rfl) (j4<|ke om) ku)
  (j3 (nv (k9<|mq<|kq (ow rfl) rfl (B "all"<|by decide) bP<|j8 (mj ["kind"] [none] rfl rfl (by decide +kernel) (by decide +kernel) rfl rfl (rq<|pv 0) (λ_=>(j9 (i:=0) (show(["kind"]:U PySem.Str).Nodup by decide +kernel) rfl<|Or.inl rfl)) (λ_=>lr) λ_=>(k8 CH hr (by decide) rfl<|j8 (pv 0) jz)) jz) (j4<|ke om) ku)
  (j4<|ke<|m5 uf (abj rfl rfl (B "len"<|by decide) rfl (B "set"<|by decide)<|j8 (mj ["kind"] [none] rfl rfl (by decide +kernel) (by decide +kernel) rfl rfl (rq<|pv 0) (λ_=>(j9 (i:=0) (show(["kind"]:U PySem.Str).Nodup by decide +kernel) rfl<|Or.inl rfl)) (λ_=>lr) λ_=>(kr pb (pv 0) j2 λ_ _=>rfl)) jz) (kq kj rfl (B "len"<|by decide) bb<|j8 (pv 0) jz)<|l4 _))),?_⟩
 rcases se (K:=K) hv.kn with ⟨a,xs,rfl,ha⟩|⟨⟨t,ty,kt⟩,_,gX⟩
 .obtain⟨kB,kn⟩:=hv.2 a xs rfl ha;have no:(1<=xs.length->xs.length<=6->False)->¬wb H (.ref a):=λhx ⟨b,ys,zs,e,hb,h1,h2,_⟩=>by
   cases e;rw[ha]at hb;cases hb;exact hx h1 h2
  refine(j1 _ rfl (.ref a) ("tuple") (.type "tuple") true ⟨rfl,.tup ha,rfl,true,rfl,ny ?_⟩);refine(mf _ rfl a xs rfl (.inr<|SqT.of ha) _<|my _ rfl rfl _ ⟨rfl,?_⟩);refine oy (λc1=>?_) λc1=>?_
  .have gA:(1:Int)<=(xs.length:Int):=of_decide_eq_true c1;refine(kl _ _ ⟨rfl,rfl,_,rfl,?_⟩);refine oy (λc2=>?_) λc2=>?_
   .have gN:¬((xs.length:Int)<=6):=by simpa using c2
    exact q false H (Same.refl H)<|lg<|no λ_ h=>by lia
   have gN:(xs.length:Int)<=6:=by simpa using c2
   refine(lu _ rfl a ⟨rfl,⟨_,SqT.of ha⟩,λD hD=>?_⟩);refine p8 (xs:=xs) (λi ys H'=>Same H H'/\ys=((xs.take i).map (xy H)).map V.bl) ⟨Same.fresh _ hD,rfl⟩ (λi ys H' p=>SqT.of<|p.1 _ _ ha) (λi x ys H' hx hi aQ aV p=>?_) λys H' aQ aV p=>?_
   .obtain⟨p1,rfl⟩:=p;have kx:=kn x<|ah hx;refine⟨Agree.set (Agree.refl _) rfl,?_⟩;dsimp only[sq];refine mh ?_;refine(lu _ rfl x ⟨rfl,kx.same p1,λb H2 s2 hb=>?_⟩);rw[w4 p1 kx]at hb;rw[agf hb];refine ng (by lia) (s2 _ _ aQ) aV ⟨(p1.trans s2).new hD,?_⟩;rw[kc (xy H) hx,a7];rfl
   obtain⟨p1,rfl⟩:=p;refine(kl D _ ⟨rfl,aQ,_,rfl,?_⟩);rw[av (aq _),ik];have pU:(xs.all<|id∘xy H)=xs.all (xy H):=rfl;rw[pU];cases aU:xs.all (xy H)with
   | false=>
    refine mh ?_;refine q false H' p1<|lg λ⟨b,ys,zs,e,hb,_,_,h3,_⟩=>?_;cases e;rw[ha]at hb;cases hb;rw[bh.mpr λx hx=>kindB_iff.mpr<|h3 x hx]at aU;cases aU
   | true=>
    refine ny ?_;have hk:∀x∈xs,v8 H x:=λx hx=>kindB_iff.mp<|bh.mp aU x hx;obtain⟨zs,hn⟩:=vz hk;have fD:=hn.1;refine(lu _ rfl a ⟨rfl,⟨_,SqT.of<|p1 _ _ ha⟩,λD2 cL=>?_⟩);refine abt (p1 _ _ ha) (hn.same p1) kB cL λH2 s2 cL=>?_;refine(kl D2 zs ⟨rfl,cL,by lia,λm nd mem le=>?_⟩);have cT:=p1.trans s2;refine(m6 _ rfl a xs ⟨rfl,.inr<|SqT.of<|cT _ _ ha,rfl,?_⟩);refine q _ _ cT ?_;have iff:wb H (.ref a)↔zs.Nodup:=by
     constructor
     .rintro⟨b,ys,Ek,e,hb,_,_,_,h4,h5⟩;cases e;rw[ha]at hb;cases hb;rw[hn.uniq h4];exact h5
     .intro h;exact(lq a xs zs ⟨rfl,ha,by lia,by lia,hk,hn,h⟩)
    rw[iff,decide_eq_true_iff];constructor
    .intro e;injection e with e
     exact ab2 nd (λx hx=>(mem x).mp hx)<|by lia
    .intro h;have:=xz h nd mem;rw[this,fD]
  .refine⟨false,rfl,mh ?_⟩;have gA:¬(1:Int)<=(xs.length:Int):=by simpa using c1
   exact q false H (Same.refl H)<|lg<|no λh _=>by lia
 .exact(j1 _ rfl v ("tuple") t false ⟨rfl,ty,kt,false,rfl,mh<|mh<|q false H (Same.refl H)<|lg λ⟨b,ys,ds,e,hb,_⟩=>gX b ys e hb⟩)
def NoStr.notStr{H:Hp}{z:Str}(h:NoStr H (.str z)):False:=by rcases h with h|⟨i,h⟩|⟨a,h,_⟩<;>cases h
theorem Itm.uniq{H:Hp}{v:V}{o o':Option Str}(h:Itm H v o)(h':Itm H v o'):o=o':=by
 cases o with
 | none=>
  cases o' with
  | none=>rfl
  | some z=>obtain⟨rfl,_⟩:=h';exact(NoStr.notStr h).elim
 | some z=>
  obtain⟨rfl,_⟩:=h;cases o' with
  | none=>exact(NoStr.notStr h').elim
  | some z'=>obtain⟨e,_⟩:=h';cases e;rfl
theorem Itms.uniq{H:Hp}{vs:U V}{os oH:U (Option Str)}(h:Itms H vs os)(h':Itms H vs oH):os=oH:=by
 apply List.ext_getElem?;intro i;by_cases hi:i<vs.length
 .obtain⟨o,ho,io⟩:=h.at<|aa hi;obtain⟨o',mT,io'⟩:=h'.at<|aa hi;rw[ho,mT,Itm.uniq io io']
 .rw[ix (by have:=h.1;lia),ix<|by have:=h'.1;lia]
def NoTup.notTup{H:Hp}{a:aF}{xs:U V}(h:NoTup H (.ref a))(ha:H a=some (.tup xs)):False:=by
 rcases h with h|⟨i,h⟩|⟨z,h⟩|⟨b,h,⟨ys,hb⟩|hb⟩
 .cases h
 .cases h
 .cases h
 .cases h;rw[ha]at hb;cases hb
 .cases h;rw[ha]at hb;cases hb
theorem Thing.uniq{H:Hp}{v:V}{T T':Option (U<|Option Str)}(h:Thing H v T)(h':Thing H v T'):T=T':=by
 cases T with
 | none=>
  cases T' with
  | none=>rfl
  | some os=>obtain⟨_,a,vs,rfl,ha,_⟩:=h';exact(NoTup.notTup h ha).elim
 | some os=>
  obtain⟨_,a,vs,rfl,ha,hi⟩:=h;cases T' with
  | none=>exact(NoTup.notTup h' ha).elim
  | some oH=>
   obtain⟨_,a',yF,e,bU,eZ⟩:=h';cases e;rw[ha]at bU;cases bU;rw[Itms.uniq hi eZ]
def GT(H:Hp)(v:V):Prop:=∃T,Thing H v T/\flB T=true
def zp{H:Hp}{v:V}{T:Option (U<|Option Str)}(h:Thing H v T):flB T=true↔GT H v:=
 ⟨λq=>⟨T,h,q⟩,λ⟨T',h',q⟩=>by rw[Thing.uniq h h'];exact q⟩
def B4(H:Hp)(v:V):Prop:=∃a f k p,v=.ref a/\H a=some (.tup [f,k,p])/\GT H f/\wb H k/\zw H p
def Pz(H:Hp)(v:V):Prop:=Kn H v/\∀a xs,v=.ref a->H a=some (.tup xs)->xs.length<=60/\∀f k p,xs=[f,k,p]->(∃T,Thing H f T)/\KnN 4 H k/\KnN 2 H p
def at7:Sp:=λvs H Q _=>∃v,vs=[v]/\Pz H v/\∀(b:Bool)(H':Hp),Same H H'->(b=true↔B4 H v)->Q (.bl b) H'
def avu:km Z8 Z8 (kb GX):={}
theorem ar9(B:∀x∈qy,mg x=none)(JB:Fn P w K mg base "is_floor" 4 Z8 DK)(xX:Fn P w K mg base "are_kinds" 6 Z8 akk)(xT:Fn P w K mg base "are_pairs" 3 Z8 Eb)
  (F:Fun K "is_puzzle" "is_puzzle" GX f fd):p9 P w K mg base CX0 7 f fd Z8 at7:=by
 refine F.ok (k:=6) avu (λvs H Q E h=>?_) λbE A outer s H vs Q E hr h=>?_
 .obtain⟨v,rfl,_⟩:=h;rfl
 obtain⟨v,rfl,hv,q⟩:=h;refine⟨_,(j3 (nv (PW.pt<|o6 (k9<|mq<|kq kh rfl (B "isinstance"<|by decide) bi<|j8 (pv 0)<|j8 (nc (v:=.ty "tuple") rfl (B "tuple"<|by decide) e9 rfl) jz)<|oe<|mi yq (kq kj rfl (B "len"<|by decide) bb<|j8 (pv 0) jz) j2<|l4 _) (j4<|ke om) ku)
  (j4<|ke<|oa (k8 JB hr (by decide) rfl<|j8 (kr ml (pv 0) j2 λ_ _=>rfl) jz)<|oa (k8 xX hr (by decide) rfl<|j8 (kr ml (pv 0) j2 λ_ _=>rfl) jz)<|o4<|k8 xT hr (by decide) rfl<|j8 (kr ml (pv 0) j2 λ_ _=>rfl) jz)),?_⟩
 rcases se (K:=K) hv.1 with ⟨a,xs,rfl,ha⟩|⟨⟨t,ty,kt⟩,_,gX⟩
 .obtain⟨kB,kn⟩:=hv.2 a xs rfl ha;refine(j1 _ rfl (.ref a) ("tuple") (.type "tuple") true ⟨rfl,.tup ha,rfl,true,rfl,ny ?_⟩);refine(qa _ rfl a xs rfl (.inr<|SqT.of ha) rfl _ ⟨rfl,?_⟩);by_cases h3:xs.length=3
  .match xs,h3,ha,kn with
   | [fl,k,p],_,ha,kn=>
    obtain⟨⟨T,hT⟩,kK,kP⟩:=kn fl k p rfl;have no:(flB T=false\/¬wb H k\/¬zw H p)->¬B4 H (.ref a):=λhx ⟨a',f',k',p',e,bU,h1,h2,h3⟩=>by
     cases e;rw[ha]at bU;cases bU;rcases hx with hx|hx|hx
     .rw[(zp hT).mpr h1]at hx;cases hx
     .exact hx h2
     .exact hx h3
    refine ny ?_;refine(j1 _ rfl a _ _ _ ⟨rfl,rfl,SqT.of ha,rfl,(kl fl T ⟨rfl,hT,λH1 s1=>?_⟩)⟩);have gM:=s1 _ _ ha;cases e1:flB T with
    | false=>exact⟨false,rfl,ny<|q false H1 s1<|lg<|no<|.inl e1⟩
    | true=>
     refine⟨true,rfl,mh ?_⟩;refine(j1 _ rfl a _ _ _ ⟨rfl,rfl,SqT.of gM,rfl,k,rfl,kK.same s1,λb H2 s2 hb=>?_⟩);rw[ahm s1 kK]at hb;have cT:=s1.trans s2;cases b with
     | false=>exact⟨false,rfl,ny<|q false H2 cT<|lg<|no<|.inr<|.inl λh=>by cases hb.mpr h⟩
     | true=>
      refine⟨true,rfl,mh ?_⟩;refine(j1 _ rfl a _ _ _ ⟨rfl,rfl,SqT.of<|cT _ _ ha,rfl,p,rfl,kP.same cT,λb3 H3 s3 wY=>?_⟩);rw[aby cT kP]at wY;refine q b3 H3 (cT.trans s3) ?_;rw[wY];exact⟨λh=>(li a fl k p ⟨rfl,ha,(zp hT).mp e1,hb.mp rfl,h⟩),λhk=>by obtain⟨a',f',k',p',e,bU,_,_,h⟩:=hk;cases e;rw[ha]at bU;cases bU;exact h⟩
  .refine oy (λ_=>?_) λh=>absurd (show(!decide (V.int ((xs.length:Nat):Int)=V.int ((3:Nat):Int)))=true by rw[Ag h3];rfl) h;refine q false H (Same.refl H)<|lg λhk=>?_;obtain⟨a',f',k',p',e,bU,_⟩:=hk;cases e;rw[ha]at bU;cases bU;exact h3 rfl
 .refine(j1 _ rfl v ("tuple") t false ⟨rfl,ty,kt,false,rfl,mh ?_⟩);refine mh<|q false H (Same.refl H)<|lg λhk=>?_;obtain⟨a',f',k',p',e,bU,_⟩:=hk;exact gX a' _ e bU
def anl(c:Nat):(!(gl (ae "abcdefghijklmnopqrstuvwxyz") ⟨#[c]⟩ 0 (ae "abcdefghijklmnopqrstuvwxyz").length 1).isEmpty)=smB c:=by
 rw[PySem.StrLaws.found_one];have e:(ae "abcdefghijklmnopqrstuvwxyz").cps.toList=[97,98,99,100,101,102,103,104,105,106,107,108,109,110,111,112,113,114,115,116,117,118,119,120,121,122]:=by decide +kernel
 unfold smB;rw[e,<-Bool.decide_and];apply decide_eq_decide.mpr;simp only[ap,bz,or_false];omega
def Dt(H:Hp)(v:V):Prop:=(∃d,Rep H d v/\d.depth<=60)\/∃a,v=.ref a/\H a=some (.dK [])
theorem Dt.same{H H':Hp}{v:V}(s:Same H H')(h:Dt H v):Dt H' v:=by
 rcases h with ⟨d,r,hd⟩|⟨a,e,ha⟩
 .exact .inl ⟨d,r.same s,hd⟩
 .exact .inr ⟨a,e,s _ _ ha⟩
noncomputable def modesL:U Z9:=[.str (ae "still"),.str<|ae "turn",.str<|ae "flip"]
def arf(x z:Str):b8 (.str x) (.str z)=decide (z=x):=by show(x==z)=_;rw[du,beq_iff_eq,decide_eq_true_iff];exact eq_comm
theorem ahb{H:Hp}{d:Z9}{v:V}(r:Rep H d v)(k:Kn H v):(modesL.any λe=>b8 e d)=tF v:=by
 cases d with
 | str z=>
  obtain⟨rfl,_⟩:=r;show _=zf z;unfold modesL zf;simp only[List.any_cons,List.any_nil,arf,Bool.or_false,Bool.or_assoc]
 | none=>cases (show v=.non from r);rfl
 | int i=>obtain⟨rfl⟩:=r;rfl
 | bool b=>cases (show v=.bl b from r);rfl
 | tuple ds=>obtain⟨a,xs,rfl,_⟩:=r;rfl
 | list ds=>obtain⟨a,xs,rfl,_⟩:=r;rfl
 | dict es=>exact(show False from r).elim
def ar6:km Z7 Z7 (kb Hr):={}
def apv(B:∀x∈qy,mg x=none)(F:Fun K "_law_is_letter" "_law_is_letter" Hr f fd):p9 P w K mg base CX0 1 f fd Z7 spS:=by
 refine F.ok (k:=0) ar6 (λvs H Q E h=>?_) λbE A outer s H vs Q E hr h=>?_
 .obtain⟨c,rfl,_⟩:=h;rfl
 obtain⟨v,rfl,hv,q⟩:=h;refine⟨_,(j4<|ke<|oa (kq kh rfl (B "isinstance"<|by decide) bi<|j8 (pv 0)<|j8 (nc (v:=.ty "str") rfl (B "str"<|by decide) cE rfl) jz)<|oa (m5 uf (kq lm rfl (B "len"<|by decide) bb<|j8 (pv 0) jz) j2<|l4 _)<|o4<|m5 xb (pv 0) lv rfl),?_⟩;rcases HX (K:=K) hv with ⟨z,rfl,hz⟩|⟨⟨t,ty,kt⟩,e⟩
 .refine(j1 _ rfl _ _ _ true ⟨rfl,.str _,rfl,true,rfl,mh ?_⟩);refine(lu _ rfl z ⟨rfl,o9 hz,rfl,_,rfl,?_⟩);by_cases hl:z.length=1
  .obtain⟨c,rfl⟩:=Cf hl;refine oy (λ_=>?_) λh=>absurd (decide_eq_true rfl) h;refine(m6 _ rfl _ _ ⟨rfl,rfl,?_⟩);rw[aid];exact q
  .refine oy (λh=>?_) λ_=>?_
   .have h':=of_decide_eq_true h;injection h' with h'
    exact absurd (Int.ofNat_inj.mp h') hl
   .have e:lB (.str z)=false:=Cp hl;rw[e]at q;exact q
 .rw[e]at q;exact(j1 _ rfl v _ t false ⟨rfl,ty,kt,false,rfl,ny q⟩)
def aof:Sp:=λvs H Q _=>∃v,vs=[v]/\KnN 3 H v/\(∀a z l m md fm,v=.ref a->H a=some (.tup [.str z,l,m,md,fm])->Dt H md)/\∀(b:Bool)(H':Hp),Same H H'->(b=true↔v8 H v)->Q (.bl b) H'
def as7:km Z7 Z7 (kb HL):={}
theorem aqm(B:∀x∈qy,mg x=none)(gS:Fn P w K mg base "_law_whole" 1 Z7 spW)(Jy:Fn P w K mg base "_law_is_form" 3 Z7 DJ)
  (F:Fun K "_law_is_kind" "_law_is_kind" HL f fd):p9 P w K mg base CX0 4 f fd Z7 aof:=by
 refine F.ok (k:=3) as7 (λvs H Q E h=>?_) λbE A outer s H vs Q E hr h=>?_
 .obtain⟨v,rfl,_⟩:=h;rfl
 obtain⟨v,rfl,hv,zC,q⟩:=h;have hu:=hr.units;refine⟨_,(j3 (nv (PW.pt<|o6 (k9<|mq<|kq kh rfl (B "isinstance"<|by decide) bi<|j8 (pv 0)<|j8 (nc (v:=.ty "tuple") rfl (B "tuple"<|by decide) e9 rfl) jz)<|o6 (mi yq (kq kj rfl (B "len"<|by decide) bb<|j8 (pv 0) jz) j2<|l4 _)<|oe<|k9<|mq<|kq kh rfl (B "isinstance"<|by decide) bi<|j8 (kr ml (pv 0) j2 λ_ _=>rfl)<|j8 (nc (v:=.ty "str") rfl (B "str"<|by decide) cE rfl) jz) (j4<|ke om) ku)
  (j3 (nv (PW.pt<|o6 (k9<|ox qc qc j2 (kq lm rfl (B "len"<|by decide) bb<|j8 (kr ml (pv 0) j2 λ_ _=>rfl) jz) j2)<|oe<|k9<|mq<|kq (ow rfl) rfl (B "all"<|by decide) bP<|j8 (mj ["_law_sign"] [none] rfl rfl (by decide +kernel) (by decide +kernel) rfl rfl (Ae<|kr ml (pv 0) j2 λ_ _=>rfl) (λ_=>(j9 (i:=0) (show(["_law_sign"]:U PySem.Str).Nodup by decide +kernel) rfl<|Or.inl rfl)) (λ_=>lr) λ_=>(m5 xb (pv 0) lv rfl)) jz) (j4<|ke om) ku)
  (j3 (nv (PW.pt<|o6 (k9<|mq<|k8 gS hr (by decide) rfl<|j8 (kr ml (pv 0) j2 λ_ _=>rfl) jz)<|oe<|k9<|ox qc qc j2 (kr ml (pv 0) j2 λ_ _=>rfl) j2) (j4<|ke om) ku)
  (j3 (nv (PW.pt<|aod (mi ap4 (kr ml (pv 0) j2 λ_ _=>rfl) Ck<|l4 _)<|aki<|PW.pt<|o6 (k9<|mq<|k8 gS hr (by decide) rfl<|j8 (kr ml (pv 0) j2 λ_ _=>rfl) jz)<|oe<|k9<|ox qc qc (kr ml (pv 0) j2 λ_ _=>rfl) (kr ml (pv 0) j2 λ_ _=>rfl) j2) (j4<|ke om) ku)
  (j4<|ke<|oa (m5 ((DW hu).or (asv hu)) (kr ml (pv 0) j2 λ_ _=>rfl) (ou<|j8 lv<|j8 lv<|j8 lv jz) rfl)<|o4<|k8 Jy hr (by decide) rfl<|j8 (kr ml (pv 0) j2 λ_ _=>rfl) jz))))),?_⟩
 rcases se (K:=K) hv.kn with ⟨a,xs,rfl,ha⟩|⟨⟨t,ty,kt⟩,_,gX⟩
 .obtain⟨kB,kn⟩:=hv.2 a xs rfl ha;refine(j1 _ rfl (.ref a) ("tuple") (.type "tuple") true ⟨rfl,.tup ha,rfl,true,rfl,ny ?_⟩);refine(qa _ rfl a xs rfl (.inr<|SqT.of ha) rfl _ ⟨rfl,?_⟩);by_cases h5:xs.length=5
  .match xs,h5,ha,kn with
   | [n,l,m,md,fm],_,ha,kn=>
    have kN:KnN 2 H n:=kn n (by simp);have kL:KnN 2 H l:=kn l (by simp);have kM:KnN 2 H m:=kn m (by simp);have kD:KnN 2 H md:=kn md (by simp);have kF:KnN 2 H fm:=kn fm (by simp);have no:(v0 n=false\/iS l m=false\/tF md=false\/¬FormP H fm)->¬v8 H (.ref a):=λhx ⟨a',n',l',m',tW,vB,e,bU,h1,h2,h3,h4⟩=>by
     cases e;rw[ha]at bU;cases bU;rcases hx with hx|hx|hx|hx
     .rw[hx]at h1;cases h1
     .rw[hx]at h2;cases h2
     .rw[hx]at h3;cases h3
     .exact hx h4
    refine ny ?_;rcases IR (K:=K) kN.kn with ⟨z,rfl,hz⟩|⟨⟨t,ty,kt⟩,_,e⟩
    .have zC:=zC a z l m md fm rfl ha;refine(j1 _ rfl a _ _ _ ⟨rfl,rfl,SqT.of ha,rfl,(li _ _ _ true ⟨rfl,.str _,rfl,true,rfl,ny ?_⟩)⟩);refine(j1 _ rfl a _ _ _ ⟨rfl,rfl,SqT.of ha,rfl,z,rfl,o9 hz,?_⟩);refine(kl _ _ ⟨rfl,rfl,_,rfl,?_⟩);refine oy (λc1=>?_) λc1=>?_
     .have gA:(1:Int)<=(z.length:Int):=of_decide_eq_true c1;refine(kl _ _ ⟨rfl,rfl,_,rfl,?_⟩);refine oy (λc2=>?_) λc2=>?_
      .have gN:¬((z.length:Int)<=8):=by simpa using c2
       have e:v0 (.str z)=false:=by rw[yt];rw[decide_eq_false (show ¬z.length<=8 by lia),ij,cf]
       exact q false H (Same.refl H)<|lg<|no<|.inl e
      .have gN:(z.length:Int)<=8:=by simpa using c2
       have hl:=mK z;refine(j1 _ rfl a _ _ _ ⟨rfl,rfl,SqT.of ha,rfl,z,rfl,λD hD=>?_⟩);refine wu (λi ys H'=>Same H H'/\ys=((z.cps.toList.take i).map smB).map V.bl) ⟨Same.fresh _ hD,rfl⟩ (λi c ys H' hx hi aQ aV p=>?_) λys H' aQ aV p=>?_
       .obtain⟨p1,rfl⟩:=p;refine⟨Agree.set (Agree.refl _) rfl,?_⟩;dsimp only[sq];refine mh ?_;refine(m6 _ rfl _ _ ⟨rfl,rfl,?_⟩);rw[anl];refine ng (by lia) aQ aV ⟨p1.new hD,?_⟩;rw[kc smB hx,a7];rfl
       obtain⟨s1,rfl⟩:=p;refine(kl D (z.cps.toList.map smB) ⟨rfl,by rw[aQ,gu],_,rfl,?_⟩);have e1:v0 (.str z)=(z.cps.toList.map smB).all id:=by rw[yt];rw[decide_eq_true (show 1<=z.length by lia),decide_eq_true (show z.length<=8 by lia),ik];rfl
       rw[<-e1];have gM:=s1 _ _ ha;cases e:v0 (.str z)with
       | false=>exact mh (q false H' s1<|lg<|no<|.inl e)
       | true=>
        refine ny ?_;refine(j1 _ rfl a _ _ _ ⟨rfl,rfl,SqT.of gM,rfl,(my l rfl (kL.kn.same s1) _ ⟨rfl,?_⟩)⟩);rcases DU kL.kn with ⟨i,rfl⟩|⟨w1,w2,_⟩
        .refine ny ?_;refine(j1 _ rfl a _ _ _ ⟨rfl,rfl,SqT.of gM,rfl,(kl _ _ ⟨rfl,rfl,_,rfl,?_⟩)⟩);have pW:∀m,(¬0<=i\/¬i<=64)->iS (.int i) m=false:=λm h=>by
          cases m<;>first|rfl|(unfold iS;rcases h with h|h<;>simp[h])
         refine oy (λc1=>?_) λc1=>?_
         .have d1:(0:Int)<=i:=of_decide_eq_true c1;refine(kl _ _ ⟨rfl,rfl,_,rfl,?_⟩);refine oy (λc2=>?_) λc2=>?_
          .have d2:¬(i<=64):=by simpa using c2
           exact q false H' s1<|lg<|no<|.inr<|.inl<|pW m<|.inr d2
          .have d2:i<=64:=by simpa using c2
           refine(j1 _ rfl a _ _ _ ⟨rfl,rfl,SqT.of gM,rfl,rfl,_,rfl,?_⟩);by_cases hn:m=.non
           .subst hn;have eb:iS (.int i) .non=true:=by unfold iS;simp[d1,d2]
            refine ny ?_;refine(j1 _ rfl a _ _ _ ⟨rfl,rfl,SqT.of gM,rfl,sZ3,λp hp=>?_⟩);have s2:Same H' (upd H' p<|.lst [.str (ae "still"),.str<|ae "turn",.str<|ae "flip"]):=Same.fresh _ hp;have cT:=s1.trans s2;rcases zC.same cT with ⟨d,rd,hd⟩|⟨b,rfl,hb⟩
            .refine .inl<|li d p _ modesL ⟨rd,rfl,.inl j5,(nh _ _ rfl ⟨rfl,by decide +kernel⟩ _ _ rfl ⟨rfl,by decide +kernel⟩ _ ⟨_,rfl,⟨rfl,by decide +kernel⟩,rfl⟩),hd,?_⟩;rw[if_neg aj,ahb rd<|kD.kn.same cT];cases e3:tF md with
             | false=>exact⟨false,rfl,ny<|q false _ cT<|lg<|no<|.inr<|.inr<|.inl e3⟩
             | true=>
              refine⟨true,rfl,mh ?_⟩;refine(j1 _ rfl a _ _ _ ⟨rfl,rfl,SqT.of<|cT _ _ ha,rfl,fm,rfl,kF.same cT,λb H2 s3 hb=>?_⟩);refine q b H2 (cT.trans s3) ?_;rw[hb,vh cT kF];exact⟨λh4=>(me a _ _ _ md ⟨fm,rfl,ha,e,eb,e3,h4⟩),λhk=>by obtain⟨a',n',l',m',tW,vB,e,bU,_,_,_,h4⟩:=hk;cases e;rw[ha]at bU;cases bU;exact h4⟩
            .refine .inr<|lq b p ([ae "still",ae "turn",ae "flip"]) ⟨rfl,hb,rfl,j5,?_⟩;exact⟨false,rfl,ny<|q false _ cT<|lg<|no<|.inr<|.inr<|.inl rfl⟩
           .rw[decide_eq_false hn];refine mh ?_;refine(j1 _ rfl a _ _ _ ⟨rfl,rfl,SqT.of gM,rfl,(my m rfl (kM.kn.same s1) _ ⟨rfl,?_⟩)⟩);rcases DU kM.kn with ⟨j,rfl⟩|⟨w1,_,w3⟩
            .refine ny ?_;have ej:iS (.int i) (.int j)=(decide (i<=j)&&decide (j<=64)):=by unfold iS;simp[d1,d2]
             refine(j1 _ rfl a _ _ _ ⟨rfl,rfl,SqT.of gM,rfl,(j1 _ rfl a _ _ _ ⟨rfl,rfl,SqT.of gM,rfl,(kl _ _ ⟨rfl,rfl,_,rfl,?_⟩)⟩)⟩);refine oy (λc3=>?_) λc3=>?_
             .refine(kl _ _ ⟨rfl,rfl,_,rfl,?_⟩);rw[c3,Bool.true_and]at ej;refine oy (λc4=>?_) λc4=>?_
              .have B0:decide (j<=64)=false:=by simpa using c4
               exact q false H' s1<|lg<|no<|.inr<|.inl<|by rw[ej,B0]
              .have B0:decide (j<=64)=true:=by simpa using c4
               have eb:iS (.int i) (.int j)=true:=by rw[ej,B0]
               refine(j1 _ rfl a _ _ _ ⟨rfl,rfl,SqT.of gM,rfl,sZ3,λp hp=>?_⟩);have s2:Same H' (upd H' p<|.lst [.str (ae "still"),.str<|ae "turn",.str<|ae "flip"]):=Same.fresh _ hp;have cT:=s1.trans s2;rcases zC.same cT with ⟨d,rd,hd⟩|⟨b,rfl,hb⟩
               .refine .inl<|li d p _ modesL ⟨rd,rfl,.inl j5,(nh _ _ rfl ⟨rfl,by decide +kernel⟩ _ _ rfl ⟨rfl,by decide +kernel⟩ _ ⟨_,rfl,⟨rfl,by decide +kernel⟩,rfl⟩),hd,?_⟩;rw[if_neg aj,ahb rd<|kD.kn.same cT];cases e3:tF md with
                | false=>exact⟨false,rfl,ny<|q false _ cT<|lg<|no<|.inr<|.inr<|.inl e3⟩
                | true=>
                 refine⟨true,rfl,mh ?_⟩;refine(j1 _ rfl a _ _ _ ⟨rfl,rfl,SqT.of<|cT _ _ ha,rfl,fm,rfl,kF.same cT,λb H2 s3 hb=>?_⟩);refine q b H2 (cT.trans s3) ?_;rw[hb,vh cT kF];exact⟨λh4=>(me a _ _ _ md ⟨fm,rfl,ha,e,eb,e3,h4⟩),λhk=>by obtain⟨a',n',l',m',tW,vB,e,bU,_,_,_,h4⟩:=hk;cases e;rw[ha]at bU;cases bU;exact h4⟩
               .refine .inr<|lq b p ([ae "still",ae "turn",ae "flip"]) ⟨rfl,hb,rfl,j5,?_⟩;exact⟨false,rfl,ny<|q false _ cT<|lg<|no<|.inr<|.inr<|.inl rfl⟩
             .refine⟨_,rfl,?_⟩;exact mh<|q false H' s1<|lg<|no<|.inr<|.inl<|by rw[ej,Bool.eq_false_iff.mpr c3];rfl
            .rw[w1];exact mh<|mh<|q false H' s1<|lg<|no<|.inr<|.inl<|w3 hn i
         .have d1:¬((0:Int)<=i):=by simpa using c1
          refine⟨_,rfl,?_⟩;exact mh<|q false H' s1<|lg<|no<|.inr<|.inl<|pW m<|.inl d1
        .rw[w1];exact mh<|mh<|q false H' s1<|lg<|no<|.inr<|.inl<|w2 m
     .have gA:¬((1:Int)<=(z.length:Int)):=by simpa using c1
      refine⟨_,rfl,?_⟩;have e:v0 (.str z)=false:=by rw[yt];rw[decide_eq_false (show ¬1<=z.length by lia),cf,cf]
      exact mh<|q false H (Same.refl H)<|lg<|no<|.inl e
    .exact(j1 _ rfl a _ _ _ ⟨rfl,rfl,SqT.of ha,rfl,(li n _ t false ⟨rfl,ty,kt,false,rfl,mh<|q false H (Same.refl H)<|lg<|no<|.inl e⟩)⟩)
  .refine oy (λ_=>?_) λh=>absurd (show(!decide (V.int ((xs.length:Nat):Int)=V.int ((5:Nat):Int)))=true by rw[Ag h5];rfl) h;refine mh ?_;refine q false H (Same.refl H)<|lg λhk=>?_;obtain⟨a',n',l',m',tW,vB,e,bU,_⟩:=hk;cases e;rw[ha]at bU;cases bU;exact h5 rfl
 .refine(j1 _ rfl v ("tuple") t false ⟨rfl,ty,kt,false,rfl,mh ?_⟩);refine mh<|q false H (Same.refl H)<|lg λhk=>?_;obtain⟨a',n',l',m',tW,vB,e,bU,_⟩:=hk;exact gX a' _ e bU
theorem apo{ds:U Z9}(h:∀(j:Nat) x y,ds[j]?=some x->ds[j+1]?=some y->prN x<prN y):ds.Pairwise (λx y=>prN x<prN y):=by
 have key:∀(k i:Nat) x y,ds[i]?=some x->ds[i+1+k]?=some y->prN x<prN y:=by
  intro k;induction k with
  | zero=>intro i x y hx hy;exact h i x y hx hy
  | succ k ih=>
   intro i x y hx hy;have hl:i+1+k<ds.length:=by have:=(af.mp hy).1;lia
   have hm:ds[i+1+k]?=some ds[i+1+k]:=aa hl;have h1:=ih i x _ hx hm;have h2:=h (i+1+k) _ y hm hy;lia
 rw[cp];intro i j hi hj eC;exact key (j-(i+1)) i _ _ (aa hi)<|by rw[show i+1+(j-(i+1))=j by lia];exact aa hj
def anr{ds:U Z9}(h:ds.Pairwise (λx y=>prN x<prN y)){j:Nat}{x y:Z9}(hx:ds[j]?=some x)(hy:ds[j+1]?=some y):prN x<prN y:=by obtain⟨h1,rfl⟩:=af.mp hx;obtain⟨h2,rfl⟩:=af.mp hy;exact(cp.mp h) j (j+1) h1 h2 (by lia)
theorem Jq{H:Hp}:∀{ds:U Z9} {xs:U V} {i:Nat} {x:V},RepAll H ds xs->xs[i]?=some x->∃d,ds[i]?=some d/\Rep H d x
 | [],xs,i,x,r,e=>by cases (show xs=[]from r);simp at e
 | d::ds,xs,i,x,r,e=>by
  obtain⟨y,ys,rfl,r1,r2⟩:=r;cases i with
  | zero=>cases (show y=x from by simpa using e);exact⟨d,rfl,r1⟩
  | succ i=>exact Jq (i:=i) r2<|by simpa using e
def scLarep:km ["_law_found","_law_pair"] Z7 (kb Ig):={}
theorem amx(B:∀x∈qy,mg x=none)(vM:Fn P w K mg base "_law_is_letter" 1 Z7 spS)(F:Fun K "_law_are_pairs" "_law_are_pairs" Ig f fd):p9 P w K mg base CX0 2 f fd Z7 Eb:=by
 refine F.ok (k:=1) scLarep (λvs H Q E h=>?_) λbE A outer s H vs Q E hr h=>?_
 .obtain⟨v,rfl,_⟩:=h;rfl
 obtain⟨v,rfl,hv,q⟩:=h;have hu:=hr.units;refine⟨_,(j3 (nv (k9<|mq<|kq kh rfl (B "isinstance"<|by decide) bi<|j8 (pv 0)<|j8 (nc (v:=.ty "tuple") rfl (B "tuple"<|by decide) e9 rfl) jz) (j4<|ke om) ku)
  (j3 (qt cx rfl (rq<|pv 0) (j9 (i:=1) scLarep.nd rfl<|Or.inl rfl) (j3 (nv (PW.pt<|o6 (k9<|mq<|kq kh rfl (B "isinstance"<|by decide) bi<|j8 (pv 1)<|j8 (nc (v:=.ty "tuple") rfl (B "tuple"<|by decide) e9 rfl) jz)<|o6 (mi yq (kq kj rfl (B "len"<|by decide) bb<|j8 (pv 1) jz) j2<|l4 _)<|o6 (k9<|mq<|k8 vM hr (by decide) rfl<|j8 (kr ml (pv 1) j2 λ_ _=>rfl) jz)<|oe<|k9<|mq<|k8 vM hr (by decide) rfl<|j8 (kr ml (pv 1) j2 λ_ _=>rfl) jz) (j4<|ke om) ku)
  (j4<|nv (mi ale (kr ml (pv 1) j2 λ_ _=>rfl) (kr ml (pv 1) j2 λ_ _=>rfl)<|l4 _) (j4<|ke om) ku)))
  (j4<|ke<|kq (ow rfl) rfl (B "all"<|by decide) bP<|j8 (mj ["_law_k","_law_found"] [none,some 0] rfl rfl (by decide +kernel) (by decide +kernel) rfl rfl (DO rfl (B "range"<|by decide)<|j8 j2<|j8 (kq kj rfl (B "len"<|by decide) bb<|j8 (pv 0) jz) jz) (λ_=>(j9 (i:=0) (show(["_law_k","_law_found"]:U PySem.Str).Nodup by decide +kernel) rfl<|Or.inl rfl)) (λ_=>lr) λ_=>(m5 (atp hu) (kr pb (pv 1) (m8 tq (pv 0) j2) λ_ _=>rfl) (kr pb (pv 1) (pv 0) λ_ _=>rfl)<|l4 _)) jz))),?_⟩
 rcases se (K:=K) hv.kn with ⟨a,xs,rfl,ha⟩|⟨⟨t,ty,kt⟩,_,gX⟩
 .obtain⟨kB,kn⟩:=hv.2 a xs rfl ha;refine(j1 _ rfl (.ref a) ("tuple") (.type "tuple") true ⟨rfl,.tup ha,rfl,true,rfl,ny ?_⟩);have no:∀(i:Nat)(x:V),xs[i]?=some x->su H x=false->Q (.bl false) H:=λi x hx hb=>by
   refine q false H (Same.refl H)<|lg λ⟨b,ys,ds,e,bZ,r,hp,_⟩=>?_;cases e;rw[ha]at bZ;cases bZ;have:=bh.mp (xj r hp) x<|ah hx;rw[hb]at this;cases this
  refine(lu _ rfl a ⟨rfl,⟨_,SqT.of ha⟩,?_⟩);refine Ed (xs:=xs) (λi σ' H'=>∃y1,σ'=[some (.ref a),y1]/\H'=H/\∀(j:Nat)(x:V),j<i->xs[j]?=some x->su H x=true) ?_ (λi σ' H' jV h=>?_) (λi x σ' H' hx h=>?_) λσ' H' h=>?_
  .exact⟨_,rfl,rfl,λj o hj=>by lia⟩
  .obtain⟨_,_,rfl,_⟩:=h;exact SqT.of ha
  .obtain⟨y1,rfl,rfl,aU⟩:=h;have kx:KnN 1 H' x:=kn x<|ah hx;rcases se (K:=K) kx.kn with ⟨b,zs,rfl,hb⟩|⟨⟨t,ty,kt⟩,e,_⟩
   .obtain⟨_,kz⟩:=kx.2 b zs rfl hb;refine(j1 _ rfl (.ref b) ("tuple") (.type "tuple") true ⟨rfl,.tup hb,rfl,true,rfl,ny ?_⟩);refine(qa _ rfl b zs rfl (.inr<|SqT.of hb) rfl _ ⟨rfl,?_⟩);by_cases h2:zs.length=2
    .match zs,h2,hb,kz with
     | [x,y],_,hb,kz=>
      have k1:Kn H' x:=kz x (by simp);have k2:Kn H' y:=kz y (by simp);have zK:su H' (.ref b)=tH x y:=by rw[oj,hb]
      refine ny ?_;refine(j1 _ rfl b _ _ _ ⟨rfl,rfl,SqT.of hb,rfl,(my x rfl k1 _ ⟨rfl,?_⟩)⟩);cases hx1:lB x with
      | false=>exact mh (mh<|no i _ hx<|by rw[zK,afx hx1])
      | true=>
       refine ny ?_;refine(j1 _ rfl b _ _ _ ⟨rfl,rfl,SqT.of hb,rfl,(my y rfl k2 _ ⟨rfl,?_⟩)⟩);cases C7:lB y with
       | false=>exact mh (no i _ hx<|by rw[zK,agq C7])
       | true=>
        refine ny ?_;obtain⟨zx,rfl,sx⟩:=D6 hx1;obtain⟨zy,rfl,sy⟩:=D6 C7;have e:tH (.str zx) (.str zy) = !decide (zy.cps.toList<zx.cps.toList):=by show(sg1 zx&&sg1 zy&&leS zx zy)=_;rw[sx,sy];rfl
        refine(j1 _ rfl b _ _ _ ⟨rfl,rfl,SqT.of hb,rfl,(j1 _ rfl b _ _ _ ⟨rfl,rfl,SqT.of hb,rfl,(kl zy zx ⟨rfl,rfl,_,rfl,?_⟩)⟩)⟩);cases bL:decide (zy.cps.toList<zx.cps.toList)with
        | true=>exact mh (no i _ hx<|by rw[zK,e,bL];rfl)
        | false=>
         refine ny ⟨_,rfl,rfl,λj x' hj iK=>?_⟩;by_cases em:j<i
         .exact aU j x' em iK
         .have BR:j=i:=by lia
          subst BR;rw[hx]at iK;cases iK;rw[zK,e,bL];rfl
    .refine oy (λ_=>?_) λh=>absurd (show(!decide (V.int ((zs.length:Nat):Int)=V.int ((2:Nat):Int)))=true by rw[Ag h2];rfl) h;exact mh<|no i _ hx<|Ja hb h2
   .exact(j1 _ rfl x ("tuple") t false ⟨rfl,ty,kt,false,rfl,mh<|mh<|no i x hx e⟩)
  .obtain⟨y1,rfl,rfl,aU⟩:=h;have hA:xs.all (su H')=true:=bh.mpr λx hx=>by
    obtain⟨j,hj,rfl⟩:=jb.mp hx;exact aU j _ hj<|aa hj
   obtain⟨ds,cD,nN⟩:=zi hA;have hF:=abx ha cD nN;have aR:=cD.length;refine(mf _ rfl a xs rfl (.inr<|SqT.of ha) 1 ⟨_,rfl,⟨by decide,by decide,by lia,by lia⟩,λD hD=>?_⟩);refine rm (lo:=1) (λi ys H2=>Same H' H2/\∃bs:U Bool,ys=bs.map V.bl/\bs.length=i/\∀(j:Nat)(b:Bool) x y,bs[j]?=some b->ds[j]?=some x->ds[j+1]?=some y->b=decide (prN x<prN y)) ⟨Same.fresh _ hD,[],rfl,rfl,λj b x y h=>by simp at h⟩ (λi ys H2 hi aQ aV p=>?_) λys H2 aQ aV p=>?_
   .obtain⟨p1,bs,rfl,F7,Dp⟩:=p;have i0:i<xs.length:=by lia
    have i1:i+1<xs.length:=by lia
    obtain⟨d0,uW,r0⟩:=Jq cD<|aa i0;obtain⟨d1,kX,r1⟩:=Jq cD<|aa i1;have mY:atI xs (1+((i:Nat):Int)-1)=some xs[i]:=by rw[show(1+((i:Nat):Int)-1)=((i:Nat):Int) by lia];exact mm<|aa i0
    have wZ:atI xs (1+((i:Nat):Int))=some xs[i+1]:=by rw[show(1+((i:Nat):Int))=((i+1:Nat):Int) by lia];exact mm<|aa i1
    have EL:=nN d0<|ah uW;have pr1:=nN d1<|ah kX;refine⟨Agree.set (Agree.refl _) rfl,?_⟩;dsimp only[sq];refine mh ?_;refine(o7 _ rfl _ rfl _ _ rfl rfl a<|lq xs _ _ ⟨rfl,rfl,SqT.of<|p1 _ _ ha,mY,(mw _ rfl _ rfl a xs _<|xg _ rfl rfl (SqT.of<|p1 _ _ ha) wZ d0 d1 ⟨r0.same p1,r1.same p1,as6 EL pr1,?_,?_⟩)⟩)
    .have:=(DY EL).2.2;lia
    rw[at4 EL pr1];refine ng (by lia) aQ aV ⟨p1.new hD,bs++[decide (prN d0<prN d1)],by rw[a7];rfl,by rw[be,F7];rfl,λj b x y hb hx hy=>?_⟩;by_cases hj:j<bs.length
    .rw[bp hj]at hb;exact Dp j b x y hb hx hy
    .have wP:=(af.mp hb).1;rw[be,cv]at wP;have ej:j=i:=by lia
     subst ej;rw[<-F7,bj<|aq _,iz]at hb;rw[uW]at hx;rw[kX]at hy;cases hx;cases hy;exact(cg hb).symm
   .obtain⟨p1,bs,rfl,F7,Dp⟩:=p;refine(kl D bs ⟨rfl,aQ,?_⟩);refine q _ H2 p1 ?_;rw[hF,bh];constructor
    .intro h;refine apo λj x y hx hy=>?_;have hj:j<bs.length:=by
      have:=(af.mp hy).1;lia
     have hb:=aa hj;have e:=Dp j _ x y hb hx hy;have t:bs[j]=true:=h _<|dq hj;rw[t]at e;exact of_decide_eq_true e.symm
    .intro h b hb;obtain⟨j,hj,rfl⟩:=jb.mp hb;have h0:j<ds.length:=by lia
     have h1:j+1<ds.length:=by lia
     have e:=Dp j _ _ _ (aa hj) (aa h0)<|aa h1;show bs[j]=true;rw[e];exact decide_eq_true<|anr h (aa h0)<|aa h1
 .exact(j1 _ rfl v ("tuple") t false ⟨rfl,ty,kt,false,rfl,mh<|q false H (Same.refl H)<|lg λ⟨b,ys,ds,e,hb,_⟩=>gX b ys e hb⟩)
def DtK(H:Hp)(x:V):Prop:=∀a z l m md fm,x=.ref a->H a=some (.tup [.str z,l,m,md,fm])->Dt H md
theorem DtK.same{H H':Hp}{x:V}(s:Same H H')(k:Kn H x)(h:DtK H x):DtK H' x:=λa n l m md fm e ha=>by subst e;exact(h a n l m md fm rfl<|ve s k ha).same s
def PzD(H:Hp)(v:V):Prop:=∀a f k p b xs,v=.ref a->H a=some (.tup [f,k,p])->k=.ref b->H b=some (.tup xs)->∀x∈xs,DtK H x
def aom:Sp:=λvs H Q _=>∃v,vs=[v]/\Pz H v/\PzD H v/\∀(b:Bool)(H':Hp),Same H H'->(b=true↔B4 H v)->Q (.bl b) H'
def scLisp:km ["_law_found","_law_names_here"] Z7 (kb HG):={}
theorem apg(B:∀x∈qy,mg x=none)(CG:Fn P w K mg base "_law_is_floor" 1 Z7 DK)(CF:Fn P w K mg base "_law_is_kind" 4 Z7 aof)(xV:Fn P w K mg base "_law_are_pairs" 2 Z7 Eb)
  (F:Fun K "_law_is_puzzle" "_law_is_puzzle" HG f fd):p9 P w K mg base CX0 5 f fd Z7 aom:=by
 refine F.ok (k:=4) scLisp (λvs H Q E h=>?_) λbE A outer s H vs Q E hr h=>?_
 .obtain⟨v,rfl,_⟩:=h;rfl
 obtain⟨v,rfl,hv,zC,q⟩:=h;have hu:=hr.units;refine⟨_,(j3 (nv (PW.pt<|o6 (k9<|mq<|kq kh rfl (B "isinstance"<|by decide) bi<|j8 (pv 0)<|j8 (nc (v:=.ty "tuple") rfl (B "tuple"<|by decide) e9 rfl) jz)<|o6 (mi yq (kq kj rfl (B "len"<|by decide) bb<|j8 (pv 0) jz) j2<|l4 _)<|oe<|k9<|mq<|k8 CG hr (by decide) rfl<|j8 (kr ml (pv 0) j2 λ_ _=>rfl) jz) (j4<|ke om) ku)
  (j3 (nv (PW.pt<|o6 (k9<|mq<|kq kh rfl (B "isinstance"<|by decide) bi<|j8 (kr ml (pv 0) j2 λ_ _=>rfl)<|j8 (nc (v:=.ty "tuple") rfl (B "tuple"<|by decide) e9 rfl) jz)<|oe<|k9<|ox qc qc j2 (kq kj rfl (B "len"<|by decide) bb<|j8 (kr ml (pv 0) j2 λ_ _=>rfl) jz) j2) (j4<|ke om) ku)
  (j3 (nv (mi (Io hu) (mj ZN [none] rfl rfl (by decide +kernel) (by decide +kernel) rfl rfl (rq<|kr ml (pv 0) j2 λ_ _=>rfl) (λ_=>(j9 (i:=0) (show(ZN:U PySem.Str).Nodup by decide +kernel) rfl<|Or.inl rfl)) (λ_=>wc<|k9<|mq<|k8 CF hr (by decide) rfl<|j8 (pv 0) jz) λ_=>(pv 0)) (ou jz)<|l4 _) (j4<|ke om) ku)
  (j3 (sd (i:=1) ZN [none] scLisp.nd rfl (Or.inl rfl) rfl rfl rfl (by decide +kernel) (by decide +kernel) rfl rfl (rq<|kr ml (pv 0) j2 λ_ _=>rfl) (λ_=>(j9 (i:=0) (show(ZN:U PySem.Str).Nodup by decide +kernel) rfl<|Or.inl rfl)) (λ_=>lr) λ_=>(kr pb (pv 0) j2 λ_ _=>rfl))
  (j4<|ke<|oa (m5 uf (abj rfl rfl (B "len"<|by decide) rfl (B "set"<|by decide)<|j8 (pv 1) jz) (kq kj rfl (B "len"<|by decide) bb<|j8 (pv 1) jz)<|l4 _)<|o4<|k8 xV hr (by decide) rfl<|j8 (kr ml (pv 0) j2 λ_ _=>rfl) jz))))),?_⟩
 rcases se (K:=K) hv.1 with ⟨a,xs,rfl,ha⟩|⟨⟨t,ty,kt⟩,_,gX⟩
 .obtain⟨kB,kn⟩:=hv.2 a xs rfl ha;refine(j1 _ rfl (.ref a) ("tuple") (.type "tuple") true ⟨rfl,.tup ha,rfl,true,rfl,ny ?_⟩);refine(qa _ rfl a xs rfl (.inr<|SqT.of ha) rfl _ ⟨rfl,?_⟩);by_cases h3:xs.length=3
  .match xs,h3,ha,kn with
   | [fl,k,p],_,ha,kn=>
    obtain⟨⟨T,hT⟩,kK,kP⟩:=kn fl k p rfl;have no:(flB T=false\/¬wb H k\/¬zw H p)->¬B4 H (.ref a):=λhx ⟨a',f',k',p',e,bU,h1,h2,h3⟩=>by
     cases e;rw[ha]at bU;cases bU;rcases hx with hx|hx|hx
     .rw[(zp hT).mpr h1]at hx;cases hx
     .exact hx h2
     .exact hx h3
    refine ny ?_;refine(j1 _ rfl a _ _ _ ⟨rfl,rfl,SqT.of ha,rfl,(kl fl T ⟨rfl,hT,λH1 s1=>⟨_,rfl,?_⟩⟩)⟩);have gM:=s1 _ _ ha;cases e1:flB T with
    | false=>exact mh (q false H1 s1<|lg<|no<|.inl e1)
    | true=>
     refine ny ?_;rcases se (K:=K) kK.kn with ⟨b,ks,rfl,hb⟩|⟨⟨t,ty,kt⟩,_,gX⟩
     .obtain⟨k60,kk⟩:=kK.2 b ks rfl hb;have hdk:=zC a fl _ p b ks rfl ha rfl hb;have noK:(1<=ks.length->ks.length<=6->False)->¬wb H (.ref b):=λhx ⟨b',ys,zs,e,bZ,h1,h2,_⟩=>by
       cases e;rw[hb]at bZ;cases bZ;exact hx h1 h2
      have Dr:=s1 _ _ hb;refine(j1 _ rfl a _ _ _ ⟨rfl,rfl,SqT.of gM,rfl,(li (.ref b) ("tuple") (.type "tuple") true ⟨rfl,.tup Dr,rfl,true,rfl,ny ?_⟩)⟩);refine(j1 _ rfl a _ _ _ ⟨rfl,rfl,SqT.of gM,rfl,(nh b ks rfl (.inr<|SqT.of Dr) _ _ rfl rfl _ ⟨rfl,?_⟩)⟩);refine oy (λc1=>?_) λc1=>?_
      .have gA:(1:Int)<=(ks.length:Int):=of_decide_eq_true c1;refine(kl _ _ ⟨rfl,rfl,_,rfl,?_⟩);refine oy (λc2=>?_) λc2=>?_
       .have gN:¬((ks.length:Int)<=6):=by simpa using c2
        exact q false H1 s1<|lg<|no<|.inr<|.inl<|noK λ_ h=>by lia
       have gN:(ks.length:Int)<=6:=by simpa using c2
       refine(j1 _ rfl a _ _ _ ⟨rfl,rfl,SqT.of gM,rfl,b,rfl,⟨_,SqT.of Dr⟩,λD hD=>?_⟩);refine p8 (xs:=ks) (λi ys H'=>Same H1 H'/\ys=(ks.take i).filter λx=>!xy H x) ⟨Same.fresh _ hD,rfl⟩ (λi ys H' p=>SqT.of<|p.1 _ _ Dr) (λi x ys H' hx hi aQ aV p=>?_) λys H' aQ aV p=>?_
       .obtain⟨p1,rfl⟩:=p;have hxm:=ah hx;have kx:=kk x hxm;have s2:=s1.trans p1;have dL:=ur (p:=λx=>!xy H x) hx;refine⟨Agree.set (Agree.refl _) rfl,?_⟩;refine(lu _ rfl x ⟨rfl,kx.same s2,(hdk x hxm).same s2 kx.kn,λb2 H2 s3 Dq=>⟨_,rfl,?_⟩⟩);rw[w4 s2 kx]at Dq;rw[agf Dq];cases hb:xy H x with
        | true=>
         simp only[hb]at dL;refine ny ⟨_,s3 _ _ aQ,by lia,p1.trans s3,?_⟩;rw[dL];simp
        | false=>
         simp only[hb]at dL;refine mh ⟨_,rfl,ng (by lia) (s3 _ _ aQ) aV ⟨(p1.trans s3).new hD,?_⟩⟩;rw[dL];rfl
       obtain⟨p1,rfl⟩:=p;rw[av (aq _)]at aQ;refine⟨sZ0,λl hl=>?_⟩;have sl:Same H' (upd H' l<|.lst []):=Same.fresh _ hl;have iL:upd H' l (.lst []) l=some (.lst []):=j5;have qZ:=sl _ _ aQ;have s2:=(s1.trans p1).trans sl;generalize upd H' l (.lst [])=H2 at *;refine(lq D l _ ⟨rfl,rfl,qZ,iL,_,rfl,?_⟩);have aU:ks.all (xy H)=(ks.filter λx=>!xy H x).isEmpty:=by
        rw[du,bh,List.isEmpty_iff,List.filter_eq_nil_iff];constructor
        .intro h x hx;rw[h x hx];simp
        .intro h x hx;have:=h x hx;simpa using this
       rw[<-aU];cases hA:ks.all (xy H)with
       | false=>
        refine mh ?_;refine q false H2 s2<|lg<|no<|.inr<|.inl λ⟨b',ys,zs,e,bZ,_,_,h3,_⟩=>?_;cases e;rw[hb]at bZ;cases bZ;rw[bh.mpr λx hx=>kindB_iff.mpr<|h3 x hx]at hA;cases hA
       | true=>
        refine ny ?_;have hk:∀x∈ks,v8 H x:=λx hx=>kindB_iff.mp<|bh.mp hA x hx;obtain⟨zs,hn⟩:=vz hk;have fD:=hn.1;refine(j1 _ rfl a _ _ _ ⟨rfl,rfl,SqT.of<|s2 _ _ ha,rfl,b,rfl,⟨_,SqT.of<|s2 _ _ hb⟩,λD2 cL=>?_⟩);refine abt (s2 _ _ hb) (hn.same s2) k60 cL λH3 s3 cL=>?_;have mN:=s2.trans s3;refine(m6 _ rfl D2 zs ⟨rfl,cL,by lia,λm nd mem le=>?_⟩);refine(m6 _ rfl D2 _ ⟨rfl,.inl<|SqL.of cL,rfl,?_⟩);have iff:wb H (.ref b)↔zs.Nodup:=by
         constructor
         .rintro⟨b',ys,Ek,e,bZ,_,_,_,h4,h5⟩;cases e;rw[hb]at bZ;cases bZ;rw[hn.uniq h4];exact h5
         .intro h;exact(lq b ks zs ⟨rfl,hb,by lia,by lia,hk,hn,h⟩)
        rw[ac];refine⟨_,rfl,?_⟩;refine oy (λce=>?_) λce=>?_
        .have ce':=of_decide_eq_true ce;injection ce' with ce'
         have fY:zs.Nodup:=ab2 nd (λx hx=>(mem x).mp hx) (by lia);refine(j1 _ rfl a _ _ _ ⟨rfl,rfl,SqT.of<|mN _ _ ha,rfl,p,rfl,kP.same mN,λb3 H4 s4 wY=>?_⟩);rw[aby mN kP]at wY;refine q b3 H4 (mN.trans s4) ?_;rw[wY];exact⟨λh=>(li a fl (.ref b) p ⟨rfl,ha,(zp hT).mp e1,iff.mpr fY,h⟩),λhk=>by obtain⟨a',f',k',p',e,bU,_,_,h⟩:=hk;cases e;rw[ha]at bU;cases bU;exact h⟩
        .refine q false _ mN<|lg<|no<|.inr<|.inl λh=>ce ?_;have:=xz (iff.mp h) nd mem;rw[this];exact decide_eq_true rfl
      .refine⟨false,rfl,mh ?_⟩;have gA:¬(1:Int)<=(ks.length:Int):=by simpa using c1
       exact q false H1 s1<|lg<|no<|.inr<|.inl<|noK λh _=>by lia
     .rcases se (K:=K) (kK.kn.same s1)with ⟨b,ks,rfl,hb⟩|⟨⟨t',ty',kt'⟩,_,_⟩
      .exact(gX b ks rfl<|ve s1 kK.kn hb).elim
      .exact(j1 _ rfl a _ _ _ ⟨rfl,rfl,SqT.of gM,rfl,(li k ("tuple") t' false ⟨rfl,ty',kt',false,rfl,mh<|mh<|q false H1 s1<|lg<|no<|.inr<|.inl λ⟨b',ys,zs,e,bZ,_⟩=>gX b' ys e bZ⟩)⟩)
  .refine oy (λ_=>?_) λh=>absurd (show(!decide (V.int ((xs.length:Nat):Int)=V.int ((3:Nat):Int)))=true by rw[Ag h3];rfl) h;refine mh<|q false H (Same.refl H)<|lg λhk=>?_;obtain⟨a',f',k',p',e,bU,_⟩:=hk;cases e;rw[ha]at bU;cases bU;exact h3 rfl
 .refine(j1 _ rfl v ("tuple") t false ⟨rfl,ty,kt,false,rfl,mh ?_⟩);refine mh<|q false H (Same.refl H)<|lg λhk=>?_;obtain⟨a',f',k',p',e,bU,_⟩:=hk;exact gX a' _ e bU
def Lk(H H':Hp):Prop:=∀b o,H b=some o->H' b=some o\/∃xs ys,o=.lst xs/\H' b=some (.lst ys)
theorem Lk.tup{H H':Hp}(l:Lk H H'){b:aF}{xs:U V}(h:H b=some (.tup xs)):H' b=some (.tup xs):=by
 rcases l b _ h with h|⟨_,_,e,_⟩
 .exact h
 .cases e
def Lk.of_same{H H':Hp}(s:Same H H'):Lk H H':=λb o h=>.inl<|s b o h
def Lk.of_ex{H H':Hp}{st:aF}{n n':U V}(e:Ex [st] H H')(h:H st=some (.lst n))(h':H' st=some (.lst n')):Lk H H':=λb o hb=>by
 by_cases q:b=st
 .subst q;rw[h]at hb;cases hb;exact .inr<|kl n n' ⟨rfl,h'⟩
 .exact .inl<|e.at q hb
theorem yk{n:Nat}{H:Hp}{z:Str}(h:Tx z):KnN n H (.str z):=by
 cases n with
 | zero=>exact .inr (.inr<|.inr<|.inl ⟨z,rfl,h⟩)
 | succ n=>exact⟨.inr<|.inr<|.inr<|.inl ⟨z,rfl,h⟩,λa xs e=>by cases e⟩
theorem Eg{n:Nat}{H:Hp}(i:Int):KnN n H (.int i):=by
 cases n with
 | zero=>exact .inr (.inr<|.inl ⟨i,rfl⟩)
 | succ n=>exact⟨.inr<|.inr<|.inl ⟨i,rfl⟩,λa xs e=>by cases e⟩
theorem aql{n:Nat}{H:Hp}:KnN n H .non:=by
 cases n with
 | zero=>exact .inl rfl
 | succ n=>exact⟨.inl rfl,λa xs e=>by cases e⟩
def yn{n:Nat}{H:Hp}{a:aF}{xs:U V}(ha:H a=some (.tup xs))(hl:xs.length<=60)(h:∀x∈xs,KnN n H x):KnN (n+1) H (.ref a):=
 ⟨.inr<|.inr<|.inr<|.inr ⟨a,rfl,.inr<|.inl ⟨xs,ha⟩⟩,λb ys e hb=>by cases e;rw[ha]at hb;cases hb;exact⟨hl,h⟩⟩
theorem alb{H:Hp}:∀{ds:U Z9} {xs:U V},RepAll H ds xs->(∀d∈ds,SgD d)->∀y∈xs,KnN 2 H y/\∃c,y=.ref c
 | [],xs,r,_,y,hy=>by cases (show xs=[]from r);cases hy
 | d::ds,xs,r,h,y,hy=>by
  obtain⟨x,ys,rfl,r1,r2⟩:=r;rcases ap.mp hy with rfl|hy
  .obtain⟨p,q,k,rfl,k1,k2⟩:=h d ak;obtain⟨a,xs,rfl,ha,v1,_,rfl,e1,v2,_,rfl,e2,v3,_,rfl,⟨e3,_⟩,e⟩:=r1;cases (show v1=.int p from e1);cases (show v2=.int q from e2);cases e3;cases e;refine⟨yn ha (by show 3<=60;lia) λz hz=>?_,_,rfl⟩;simp only[ap,bz,or_false]at hz;rcases hz with rfl|rfl|rfl
   .exact Eg p
   .exact Eg q
   .exact yk<|tx1<|by lia
  .exact alb r2 (λe he=>h e<|ao _ he) y hy
def Rw(sg:Str)(zs:U Str):Prop:=0<zs.length/\zs.length<=8/\∃wd,0<wd/\wd<=8/\∀z∈zs,Tx z/\z.length=wd/\∀c∈z.cps.toList,c∈sg.cps.toList
def alc:Sp:=λvs H Q _=>∃(st:aF)(n:U V)(sg:Str),vs=[.ref st,.int 8,.str sg]/\H st=some (.lst n)/\StL n/\Tx sg/\0<sg.length/\
 ∀(p:aF)(zs:U Str)(H':Hp)(n':U V),H p=none->Ex [st] H H'->H' st=some (.lst n')->StL n'->H' p=some (.tup<|zs.map V.str)->Rw sg zs->Q (.ref p) H'
def scFloor:km ["_law_state_here","_law_most","_law_signs_here","_law_high","_law_wide","_law_rows","_law_row"] ZH (kb Ih):={}
theorem ank(B:∀x∈qy,mg x=none)(aZ:xp P w K mg base)(F:Fun K "_law_floor" "_law_floor" Ih f fd):p9 P w K mg base CX0 2 f fd ZH alc:=by
 refine F.ok (k:=1) scFloor (λvs H Q E h=>?_) λbE A outer s H vs Q E hr h=>?_
 .obtain⟨st,n,sg,rfl,_⟩:=h;rfl
 obtain⟨st,n,sg,rfl,bJ,hn,fW,hsg0,q⟩:=h;refine⟨_,(j3 (ma (i:=3) scFloor.nd rfl (Or.inl rfl)<|m8 o5 j2<|k8 aZ hr (by decide) rfl<|j8 (pv 0)<|j8 (pv 1) jz)
  (j3 (ma (i:=4) scFloor.nd rfl (Or.inl rfl)<|m8 o5 j2<|k8 aZ hr (by decide) rfl<|j8 (pv 0)<|j8 (pv 1) jz)
  (j3 (ma (i:=5) scFloor.nd rfl (Or.inl rfl)<|ou jz)
  (j3 (qt cx rfl (rQ rfl (B "range"<|by decide)<|j8 (pv 3) jz) (j9 (i:=6) scFloor.nd rfl<|Or.inl rfl)<|j4<|uo<|sw fc eu e8 pk (pv 5)<|j8 (sw c7 ia ib yc lv<|j8 (mj ZB [none,some 2,some 0] rfl rfl (by decide +kernel) (by decide +kernel) rfl rfl (rQ rfl (B "range"<|by decide)<|j8 (pv 4) jz) (λ_=>(j9 (i:=0) (show(ZB:U PySem.Str).Nodup by decide +kernel) rfl<|Or.inl rfl)) (λ_=>lr) λ_=>(kr Ab (pv 1) (k8 aZ hr (by decide) rfl<|j8 (pv 2)<|j8 (kq lm rfl (B "len"<|by decide) bb<|j8 (pv 1) jz) jz) λ_ _=>rfl)) jz) jz)
  (j4<|ke<|wn nq rfl (B "tuple"<|by decide) e9<|j8 (pv 5) jz))))),?_⟩
 refine(mw _ rfl _ rfl st n 8 ⟨rfl,bJ,hn,by decide,by decide,λn1 i1 kA zG h11=>(kl _ _ ⟨rfl,rfl,?_⟩)⟩);have kH:upd H st (.lst n1) st=some (.lst n1):=j5;have nU:Ex [st] H (upd H st<|.lst n1):=Ex.upd (by simp);generalize upd H st (.lst n1)=H1 at *;refine(mw _ rfl _ rfl st n1 8 ⟨rfl,kH,kA,by decide,by decide,λn2 i2 jZ Dz h21=>(kl _ _ ⟨rfl,rfl,?_⟩)⟩);have eD:upd H1 st (.lst n2) st=some (.lst n2):=j5;have iG:Ex [st] H (upd H1 st<|.lst n2):=nU.trans (Ex.upd<|by simp);generalize upd H1 st (.lst n2)=H2 at *;refine⟨sZ0,λr jI=>?_⟩;have nr:r≠st:=λe=>by rw[e,eD]at jI;cases jI
 have Dc:H r=none:=by
  cases z:H r with
  | none=>rfl
  | some o=>have z':=iG r o (by simpa using nr) z;rw[z']at jI;cases jI
 have gU:upd H2 r (.lst []) st=some (.lst n2):=by rw[kg (Ne.symm nr)];exact eD
 have r3:upd H2 r (.lst []) r=some (.lst []):=j5;have nT:Ex [st] H (upd H2 r<|.lst []):=iG.trans<|Ex.fresh jI;generalize upd H2 r (.lst [])=H3 at *;obtain⟨hi,rfl⟩:∃hi:Nat,i1=hi:=b7 zG;obtain⟨wi,rfl⟩:∃wi:Nat,i2=wi:=b7 Dz;refine(lu _ rfl _ ⟨rfl,?_,?_,?_⟩)
 .lia
 .lia
 refine qq (lo:=0) (λi σ' H'=>∃(y6:Option V)(n:U V)(zs:U Str),σ'=[some (.ref st),some<|.int 8,some<|.str sg,some<|.int<|1+hi,some<|.int<|1+wi,some<|.ref r,y6]/\Ex [st,r] H H'/\H' st=some (.lst n)/\StL n/\H' r=some (.lst<|zs.map V.str)/\zs.length=i/\∀z∈zs,Tx z/\z.length=1+wi/\∀c∈z.cps.toList,c∈sg.cps.toList) ?_ (λi σ' H' eZ h=>?_) λσ' H' h=>?_
 .exact(lq _ n2 ([]) ⟨rfl,λb o hb h0=>nT b o (λz=>hb<|by simp[ar.mp z]) h0,gU,jZ,r3,rfl,λz hz=>by cases hz⟩)
 .obtain⟨y6,n4,zs,rfl,nB,jE,nO,r4,Bp,E3⟩:=h;refine⟨_,rfl,.inl ⟨rfl,_,SqL.of r4⟩,rfl,?_⟩;refine(lu _ rfl _ ⟨rfl,?_,?_,?_⟩)
  .lia
  .lia
  intro D hD;have nD:D≠st:=λe=>by rw[e,jE]at hD;cases hD
  have nDr:D≠r:=λe=>by rw[e,r4]at hD;cases hD
  refine rm (lo:=0) (λj ys H5=>∃(n5:U V)(ws:U Str),Ex [st,D] H' H5/\H5 st=some (.lst n5)/\StL n5/\ys=ws.map V.str/\ws.length=j/\(∀w∈ws,w.length=1/\Tx w)/\∀w∈ws,∀c∈w.cps.toList,c∈sg.cps.toList) ?_ (λj ys H5 hj aQ aV p=>?_) λys H5 aQ aV p=>?_
  .exact(kl n4 ([]) ⟨Ex.fresh hD,by rw[kg (Ne.symm nD)];exact jE,nO,rfl,rfl,(λw hw=>by cases hw),λw hw=>by cases hw⟩)
  .obtain⟨n5,ws,mC,gG,sR,rfl,Bo,AU,Fm⟩:=p;refine⟨Agree.set (Agree.refl _) rfl,?_⟩;dsimp only[sq];refine mh ?_;refine(uv _ rfl _ rfl _ ⟨rfl,(my sg rfl (o9 fW) st<|kl n5 _ ⟨rfl,gG,sR,by lia,by have:=fW.1;lia,λn6 i6 mV kB h61=>?_⟩)⟩);obtain⟨j6,rfl⟩:=b7 kB;have Dm:j6<sg.cps.toList.length:=by
    have:=mK sg;lia
   refine(lq sg _ (sg.cps.toList[j6]) ⟨rfl,rfl,o9 fW,mm<|aa Dm,?_⟩);refine ng (by lia) (by rw[kg nD];exact aQ) aV<|kl n6 (ws++[⟨#[sg.cps.toList[j6]]⟩]) ⟨(mC.trans<|Ex.upd<|by simp).trans (Ex.upd<|by simp),?_,mV,by rw[a7];rfl,by simp[Bo],λw hw=>?_,λw hw c hc=>?_⟩
   .rw[kg (Ne.symm nD)];exact j5
   .rcases bn.mp hw with h|h
    .exact AU w h
    .rw[ar.mp h];refine⟨rfl,by show 1<=80;lia,λc hc=>?_⟩;have e:c=sg.cps.toList[j6]:=by simpa using hc
     rw[e];exact fW.2 _<|dq Dm
   .rcases bn.mp hw with h|h
    .exact Fm w h c hc
    .rw[ar.mp h]at hc;have e:c=sg.cps.toList[j6]:=by simpa using hc
     rw[e];exact dq Dm
  .obtain⟨n5,ws,mC,gG,sR,rfl,Bo,AU,Fm⟩:=p;have jQ:=gp (B:=1) ws λy hy=>Nat.le_of_eq (AU y hy).1;obtain⟨tj,lj⟩:=Tx.join (g:=ae "") (by decide +kernel) (λy hy=>(AU y hy).1) (λy hy=>(AU y hy).2) (by lia);have e0:(ae "").length=0:=by decide +kernel
   refine(lq _ D ws ⟨rfl,rfl,aQ,by rw[e0];lia,?_⟩);have r5:H5 r=some (.lst<|zs.map V.str):=mC _ _ (by simp[nr,Ne.symm nDr]) r4;refine(lq r (zs.map V.str) _ ⟨rfl,rfl,r5,lc<|by rw[ac];lia,?_⟩);refine(lq _ n5 (zs++[Txt.join (ae "") ws]) ⟨rfl,?_,?_,sR,?_,by simp[Bp],λz hz=>?_⟩)
   .intro b o hb h0;have h1:=nB b o hb h0;have nb:b≠D:=λe=>by rw[e,hD]at h1;cases h1
    have bZ:b≠st/\b≠r:=by simpa using hb
    have h2:=mC b o (by simp[bZ.1,nb]) h1;rw[kg bZ.2];exact h2
   .rw[kg (Ne.symm nr)];exact gG
   .rw[a7];exact j5
   .rcases bn.mp hz with h|h
    .exact E3 z h
    .rw[ar.mp h];refine⟨tj,by lia,λc hc=>?_⟩;rw[qu (by decide +kernel)]at hc;obtain⟨l,hl,gZ⟩:=List.mem_flatten.mp hc;obtain⟨w,hw,rfl⟩:=aw.mp hl;exact Fm w hw c gZ
 .obtain⟨y6,n4,zs,rfl,nB,jE,nO,r4,Bp,E3⟩:=h;refine(m6 _ rfl r (zs.map V.str) ⟨rfl,.inl ⟨SqL.of r4,λp hp=>?_⟩⟩);have np:p≠st:=λe=>by rw[e,jE]at hp;cases hp
  have npr:p≠r:=λe=>by rw[e,r4]at hp;cases hp
  refine q p zs _ n4 ?_ ?_ ?_ nO j5 ⟨by lia,by lia,1+wi,by lia,by lia,E3⟩
  .cases z:H p with
   | none=>rfl
   | some o=>have z':=nB p o (by simp[np,npr]) z;rw[z']at hp;cases hp
  .intro b o hb h0;have nb:b≠r:=λe=>by rw[e,Dc]at h0;cases h0
   have nL:b≠st:=by simpa using hb
   have h1:=nB b o (by simp[nb,nL]) h0;rw[kg (l7 h1 hp)];exact h1
  .rw[kg (Ne.symm np)];exact jE
def txL{z:Str}(h:z.length<=80/\z.cps.toList.all (· < 128)=true):Tx z:=⟨h.1,λc hc=>by simpa using bh.mp h.2 c hc⟩
def rO{H:Hp}{st p:aF}{o:HO}(bJ:H st=some o)(hp:H p=none):p≠st:=λe=>by rw[e,bJ]at hp;cases hp
def vd{H:Hp}{st p:aF}{n n':U V}{o:HO}(bJ:H st=some (.lst n))(hp:H p=none) :
  (upd (upd H p o) st<|.lst n') p=some o/\Ex [st] H (upd (upd H p o) st<|.lst n')/\(upd (upd H p o) st<|.lst n') st=some (.lst n'):=
 ⟨by rw[kg (rO bJ hp)];exact j5,(Ex.fresh hp).trans (Ex.upd<|by simp),j5⟩
def yw{H:Hp}{st p:aF}{n:U V}{o:HO}(bJ:H st=some (.lst n))(hp:H p=none):upd H p o st=some (.lst n):=by rw[kg (Ne.symm<|rO bJ hp)];exact bJ
def KdV(z:Str)(d:Z9):Prop:=∃(l:Int)(m:Z9)(md:Str)(es:U Z9),d=.tuple [.str z,.int l,m,.str md,.tuple es]/\0<=l/\l<=64/\(m=.none\/∃j,m=.int j/\l<=j/\j<=64)/\zf md=true/\Frm es
def ai4{es:U Z9}(h:Frm es):imm (.tuple es)=true:=Spots.imm h.1.pre.spots
def qB{st:aF}{H H':Hp}{n:U V}(e:Ex [st] H H')(h:H st=some (.lst n)):Tk H H':=e.tk λb hb=>by rw[ar.mp hb];exact⟨_,h⟩
def akf:Sp:=λvs H Q _=>∃(st:aF)(n:U V)(z:Str),vs=[.ref st,.str z,.int 6]/\H st=some (.lst n)/\StL n/\Tx z/\z.length<=8/\∀(p:aF)(H':Hp)(n':U V)(d:Z9),Ex [st] H H'->H' st=some (.lst n')->StL n'->KdV z d->Rep H' d (.ref p)->Q (.ref p) H'
def scLkind:km ["_law_state_here","_law_name","_law_most","_law_form","_law_least","_law_top"] ZG (kb Il):={}
def al4(B:∀x∈qy,mg x=none)(aZ:xp P w K mg base)(CK:Fn P w K mg base "_law_drawn_form" 3 ZY aie)
  (F:Fun K "_law_kind" "_law_kind" Il f fd):p9 P w K mg base CX0 4 f fd ZG akf:=by
 refine F.ok (k:=3) scLkind (λvs H Q E h=>?_) λbE A outer s H vs Q E hr h=>?_
 .obtain⟨st,n,z,rfl,_⟩:=h;rfl
 obtain⟨st,n,z,rfl,bJ,hn,hz,hz8,q⟩:=h;refine⟨_,(j3 (ma (i:=3) scLkind.nd rfl (Or.inl rfl)<|k8 CK hr (by decide) rfl<|j8 (pv 0)<|j8 (pv 2) jz)
  (j3 (ma (i:=4) scLkind.nd rfl (Or.inl rfl)<|kr m9 (ou<|j8 j2<|j8 j2<|j8 j2<|j8 j2<|j8 j2 jz) (k8 aZ hr (by decide) rfl<|j8 (pv 0)<|j8 j2 jz) λ_ _=>rfl)
  (j3 (ma (i:=5) scLkind.nd rfl (Or.inl rfl)<|kr m9 (ou<|j8 Ck<|j8 (pv 4)<|j8 (kq (adg rfl) rfl (B "min"<|by decide) dP<|j8 j2<|j8 (m8 o5 (pv 4)<|k8 aZ hr (by decide) rfl<|j8 (pv 0)<|j8 j2 jz) jz)<|j8 j2 jz) (k8 aZ hr (by decide) rfl<|j8 (pv 0)<|j8 j2 jz) λ_ _=>rfl)
  (j4<|ke<|on<|j8 (pv 1)<|j8 (pv 4)<|j8 (pv 5)<|j8 (kr m9 (ou<|j8 lv<|j8 lv<|j8 lv jz) (k8 aZ hr (by decide) rfl<|j8 (pv 0)<|j8 j2 jz) λ_ _=>rfl)<|j8 (pv 3) jz)))),?_⟩
 refine(qf _ rfl _ rfl st n ⟨rfl,bJ,hn,λr H1 n1 ds nU kH kA zr oE=>?_⟩);have fr:=Frm.of zr;have im:=ai4 fr;generalize qd ds=es at *;refine⟨sZ5,λp hp=>?_⟩;refine(nk _ rfl st n1 5 ⟨rfl,yw kH hp,kA,by decide,by decide,λn2 i2 jZ Dz h25=>?_⟩);obtain⟨x,hx,hm⟩:=xL (α:=V) (xs:=[V.int 0,V.int 0,V.int 1,V.int 2,V.int 64]) Dz h25;have hs:∃l,x=.int l/\0<=l/\l<=64:=by simp only[ap,bz,or_false]at hm;rcases hm with rfl|rfl|rfl|rfl|rfl<;>exact⟨_,rfl,by decide,by decide⟩
 obtain⟨l,rfl,l0,l64⟩:=hs;obtain⟨yW,iG,eD⟩:=vd (o:=.lst [V.int 0,V.int 0,V.int 1,V.int 2,V.int 64]) (n':=n2) kH hp;refine(li p _ i2 _ ⟨rfl,rfl,SqL.of yW,hx,?_⟩);have xF:=nU.trans iG;have eT:=oE.tk (qB iG kH) im;generalize upd (upd H1 p _) st _=H2 at *;refine(vy _ rfl _ rfl _ rfl st n2 ⟨9,rfl,eD,jZ,by decide,by decide,λn3 i3 kW Dy h39=>(agj _ _ rfl rfl _ _ ⟨rfl,sZ4,λp3 uL=>?_⟩)⟩);have gU:upd H2 st (.lst n3) st=some (.lst n3):=j5;have nT:Ex [st] H2 (upd H2 st<|.lst n3):=Ex.upd (by simp);have xE:=xF.trans nT;have eS:=eT.tk (qB nT eD) im;generalize upd H2 st _=H3 at *;refine(nk _ rfl st n3 4 ⟨rfl,yw gU uL,kW,by decide,by decide,λn4 i4 nO zF h44=>?_⟩);obtain⟨m,FP,hmm⟩:=xL (α:=V) (xs:=[V.non,V.int l,V.int (if l+i3<64 then l+i3 else 64),V.int 64]) zF h44;have hmt:∃mD:Z9,(mD=.none\/∃j,mD=.int j/\l<=j/\j<=64)/\∀H,Rep H mD m:=by
  simp only[ap,bz,or_false]at hmm;rcases hmm with rfl|rfl|rfl|rfl
  .exact⟨.none,.inl rfl,λ_=>rfl⟩
  .exact⟨.int l,.inr ⟨_,rfl,by lia,by lia⟩,λ_=>rfl⟩
  .exact⟨.int _,.inr ⟨_,rfl,by split<;>lia,by split<;>lia⟩,λ_=>rfl⟩
  .exact⟨.int 64,.inr ⟨_,rfl,by lia,by lia⟩,λ_=>rfl⟩
 obtain⟨mD,hmD,hmR⟩:=hmt;obtain⟨Fw,nB,jE⟩:=vd (o:=.lst [V.non,V.int l,V.int (if l+i3<64 then l+i3 else 64),V.int 64]) (n':=n4) gU uL;refine(li p3 _ i4 _ ⟨rfl,rfl,SqL.of Fw,FP,?_⟩);have xD:=xE.trans nB;have vW:=eS.tk (qB nB gU) im;generalize upd (upd H3 p3 _) st _=H4 at *;refine(uv _ rfl _ rfl _ ⟨rfl,sZ3,λp5 hp5=>?_⟩);refine(nk _ rfl st n4 3 ⟨rfl,yw jE hp5,nO,by decide,by decide,λn5 i5 sR h50 h53=>?_⟩);obtain⟨mo,Bj,Bi⟩:=xL (α:=V) (xs:=[V.str "still",V.str "turn",V.str "flip"]) h50 h53;have FL:∃y,mo=.str y/\Tx y/\zf y=true:=by simp only[ap,bz,or_false]at Bi;rcases Bi with rfl|rfl|rfl<;>exact⟨_,rfl,txL<|by decide +kernel,by decide +kernel⟩
 obtain⟨y,rfl,hy,C7⟩:=FL;obtain⟨hp6,mC,gG⟩:=vd (o:=.lst [V.str "still",V.str "turn",V.str "flip"]) (n':=n5) jE hp5;refine(li p5 _ i5 _ ⟨rfl,rfl,SqL.of hp6,Bj,?_⟩);have pT:=xD.trans mC;have iB:=vW.tk (qB mC jE) im;generalize upd (upd H4 p5 _) st _=H5 at *;refine⟨_,rfl,sZ5,λt ht=>?_⟩;have s6:Same H5 (upd H5 t<|.tup [.str z,.int l,m,.str y,.ref r]):=Same.fresh _ ht;refine q t _ n5 _ (pT.trans<|Ex.of_same s6) (s6 _ _ gG) sR (li l mD y es ⟨rfl,l0,l64,hmD,C7,fr⟩) ?_;exact(nh t _ rfl j5 _ _ rfl ⟨rfl,hz.ok⟩ _<|my _ rfl rfl _<|my _ rfl (hmR _) _<|my _ rfl ⟨rfl,hy.ok⟩ _ ⟨_,rfl,iB.same s6,rfl⟩)
noncomputable def prD(x y:Nat):Z9:=.tuple [.str ⟨#[x]⟩,.str ⟨#[y]⟩]
theorem HW:∀{ds:U Z9},(∀d∈ds,PrD d)->oo ds=true
 | [],_=>rfl
 | d::ds,h=>by obtain⟨x,y,rfl,_⟩:=h d ak;show(imm _&&oo ds)=true;rw[HW λe he=>h e<|ao _ he];rfl
def aoj{H:Hp}{t:aF}{x y:Nat}(ht:H t=some (.tup [.str ⟨#[x]⟩,.str ⟨#[y]⟩]))(hx:x<128)(hy:y<128):Rep H (prD x y) (.ref t):=
 (nh t _ rfl ht _ _ rfl ⟨rfl,(tx1 hx).ok⟩ _ ⟨_,rfl,⟨rfl,(tx1 hy).ok⟩,rfl⟩)
def PrS(ds:U Z9):Prop:=(∀d∈ds,PrD d)/\ds.Pairwise (λx y=>prN x<prN y)/\ds.length<=3
def ago:Sp:=λvs H Q _=>∃(st:aF)(n:U V),vs=[.ref st]/\H st=some (.lst n)/\StL n/\∀(p:aF)(H':Hp)(n':U V)(ds:U Z9),Ex [st] H H'->H' st=some (.lst n')->StL n'->PrS ds->Rep H' (.tuple ds) (.ref p)->Q (.ref p) H'
def scLpairs:km ["_law_state_here","_law_some","_law_k","_law_one","_law_other"] Z4 (kb IB):={}
def aiu(B:∀x∈qy,mg x=none)(aZ:xp P w K mg base)
  (F:Fun K "_law_pairs" "_law_pairs" IB f fd):p9 P w K mg base CX0 2 f fd Z4 ago:=by
 refine F.ok (k:=1) scLpairs (λvs H Q E h=>?_) λbE A outer s H vs Q E hr h=>?_
 .obtain⟨st,n,rfl,_⟩:=h;rfl
 obtain⟨st,n,rfl,bJ,hn,q⟩:=h;have hu:=hr.units;refine⟨_,(j3 (ma (i:=1) scLpairs.nd rfl (Or.inl rfl)<|ou jz)
  (j3 (qt cx rfl (rQ rfl (B "range"<|by decide)<|j8 (k8 aZ hr (by decide) rfl<|j8 (pv 0)<|j8 j2 jz) jz) (j9 (i:=2) scLpairs.nd rfl<|Or.inl rfl) (j3 (ma (i:=3) scLpairs.nd rfl (Or.inl rfl)<|kr Ab lv (k8 aZ hr (by decide) rfl<|j8 (pv 0)<|j8 j2 jz) λ_ _=>rfl)
  (j3 (ma (i:=4) scLpairs.nd rfl (Or.inl rfl)<|kr Ab lv (k8 aZ hr (by decide) rfl<|j8 (pv 0)<|j8 j2 jz) λ_ _=>rfl)
  (j4<|nv (mi (vc hu) (on<|j8 (kq (abk rfl) rfl (B "min"<|by decide) dP<|j8 (pv 3)<|j8 (pv 4) jz)<|j8 (kq (abw rfl) rfl (B "max"<|by decide) iR<|j8 (pv 3)<|j8 (pv 4) jz) jz) (pv 1) rfl) (j4<|uo<|sw fc eu e8 pk (pv 1)<|j8 (on<|j8 (kq (abk rfl) rfl (B "min"<|by decide) dP<|j8 (pv 3)<|j8 (pv 4) jz)<|j8 (kq (abw rfl) rfl (B "max"<|by decide) iR<|j8 (pv 3)<|j8 (pv 4) jz) jz) jz) ku))))
  (j4<|ke<|wn nq rfl (B "tuple"<|by decide) e9<|j8 (kq ael rfl (B "sorted"<|by decide) jW<|j8 (pv 1) jz) jz))),?_⟩
 refine⟨sZ0,λr jI=>?_⟩;have nr:=rO bJ jI;refine(nk _ rfl st n 4 ⟨rfl,yw bJ jI,hn,by decide,by decide,λn1 i1 kA zG h14=>⟨_,rfl,by lia,by lia,?_⟩⟩);obtain⟨r1,nU,kH⟩:=vd (o:=.lst []) (n':=n1) bJ jI;generalize upd (upd H r<|.lst []) st (.lst n1)=H1 at *;have oJ:∀i:Int,0<=i->i<5->∃c:Nat,atI (ae "ABQYZ").cps.toList i=some c/\65<=c/\c<=90:=λi h0 h5=>by obtain⟨c,hc,hm⟩:=xL (α:=Nat) (xs:=(ae "ABQYZ").cps.toList) h0 (by show i<5;exact h5);exact⟨c,hc,(show ∀c∈(ae "ABQYZ").cps.toList,65<=c/\c<=90 by decide +kernel) c hm⟩
 have dO:(ae "ABQYZ").length<=aG:=o9 (txL<|by decide +kernel);refine qq (lo:=0) (λi σ' H'=>∃(y2 y3 y4:Option V)(n:U V)(ds:U Z9)(ys:U V),σ'=[some (.ref st),some<|.ref r,y2,y3,y4]/\Ex [st,r] H1 H'/\H' st=some (.lst n)/\StL n/\H' r=some (.lst ys)/\RepAll H' ds ys/\(∀d∈ds,PrD d)/\ds.Nodup/\ds.length<=i) ?_ (λi σ' H' eZ h=>?_) λσ' H' h=>?_
 .exact(me _ _ _ n1 ([]) ⟨[],rfl,Ex.refl _ _,kH,kA,r1,rfl,(λd hd=>by cases hd),List.nodup_nil,aq _⟩)
 .obtain⟨y2,y3,y4,n2,ds,ys,rfl,iG,eD,jZ,r2,eT,yN,oI,gL⟩:=h;have im2:=HW yN;have hly:=eT.length;refine(nk _ rfl st n2 5 ⟨rfl,eD,jZ,by decide,by decide,λn3 i3 kW Dy h35=>?_⟩);obtain⟨c3,hc3,t3⟩:=oJ i3 Dy h35;refine(lq _ _ c3 ⟨rfl,rfl,dO,hc3,?_⟩);have gU:upd H' st (.lst n3) st=some (.lst n3):=j5;have r3:upd H' st (.lst n3) r=some (.lst ys):=by rw[kg nr];exact r2
  have eS:RepAll (upd H' st<|.lst n3) ds ys:=eT.tk (Tk.lst eD) im2;have nT:Ex [st,r] H1 (upd H' st<|.lst n3):=iG.trans (Ex.upd<|by simp);generalize upd H' st (.lst n3)=H3 at *;refine(nk _ rfl st n3 5 ⟨rfl,gU,kW,by decide,by decide,λn4 i4 nO zF h45=>?_⟩);obtain⟨c4,hc4,t4⟩:=oJ i4 zF h45;refine(lq _ _ c4 ⟨rfl,rfl,dO,hc4,?_⟩);have jE:upd H3 st (.lst n4) st=some (.lst n4):=j5;have r4:upd H3 st (.lst n4) r=some (.lst ys):=by rw[kg nr];exact r3
  have vW:RepAll (upd H3 st<|.lst n4) ds ys:=eS.tk (Tk.lst gU) im2;have nB:Ex [st,r] H1 (upd H3 st<|.lst n4):=nT.trans (Ex.upd<|by simp);generalize upd H3 st (.lst n4)=H4 at *;have x1:kO c3 c4<128:=by lia
  have x2:yQ c3 c4<128:=by lia
  have prd:PrD (prD (kO c3 c4)<|yQ c3 c4):=(kl _ _ ⟨rfl,by lia,by lia,by lia⟩);refine(qf _ rfl _ rfl c3 c4 ⟨rfl,(qf _ rfl _ rfl c3 c4 ⟨rfl,sZ2,λt ht=>?_⟩)⟩);have s5:Same H4 (upd H4 t<|.tup [.str ⟨#[kO c3 c4]⟩,.str ⟨#[yQ c3 c4]⟩]):=Same.fresh _ ht;have rp5:=aoj (H:=upd H4 t<|.tup [.str ⟨#[kO c3 c4]⟩,.str ⟨#[yQ c3 c4]⟩]) j5 x1 x2;have gG:=s5 _ _ jE;have r5:=s5 _ _ r4;have iB:=vW.same s5;have mC:=nB.trans<|Ex.of_same (W:=[st,r]) s5;generalize upd H4 t (.tup [.str ⟨#[kO c3 c4]⟩,.str ⟨#[yQ c3 c4]⟩])=H5 at *;refine(j1 _ rfl (prD (kO c3 c4)<|yQ c3 c4) r ys ds ⟨rp5,rfl,.inl r5,iB,by simp[prD,cy,ay],_,rfl,?_⟩);refine oy (λhni=>?_) λ_=>?_
  .have hnm:prD (kO c3 c4) (yQ c3 c4)∉ds:=λhm=>by
    have Gb:(ds.any λe=>b8 e<|prD (kO c3 c4)<|yQ c3 c4)=true:=List.any_eq_true.mpr ⟨_,hm,SeqAt.eqv_refl _ rp5.lay⟩;simp[Gb]at hni
   refine(my _ rfl (.inl ⟨rfl,_,SqL.of r5⟩) _ ⟨rfl,(m6 _ rfl c3 c4 ⟨rfl,(qf _ rfl _ rfl c3 c4 ⟨rfl,sZ2,λt2 Fd=>?_⟩)⟩)⟩);have s6:Same H5 (upd H5 t2<|.tup [.str ⟨#[kO c3 c4]⟩,.str ⟨#[yQ c3 c4]⟩]):=Same.fresh _ Fd;have rp6:=aoj (H:=upd H5 t2<|.tup [.str ⟨#[kO c3 c4]⟩,.str ⟨#[yQ c3 c4]⟩]) j5 x1 x2;have mM:=s6 _ _ gG;have r6:=s6 _ _ r5;have fU:=iB.same s6;have rG:=mC.trans<|Ex.of_same (W:=[st,r]) s6;generalize upd H5 t2 (.tup [.str ⟨#[kO c3 c4]⟩,.str ⟨#[yQ c3 c4]⟩])=H6 at *;refine(lq r ys (.ref t2) ⟨rfl,rfl,r6,lc<|by lia,?_⟩);have pp7:∀d∈ds++[prD (kO c3 c4) (yQ c3 c4)],PrD d:=λd hd=>by
    rcases bn.mp hd with h|h
    .exact yN d h
    .rw[ar.mp h];exact prd
   exact⟨_,_,_,n4,ds++[prD (kO c3 c4) (yQ c3 c4)],ys++[.ref t2],rfl,rG.trans<|Ex.upd<|by simp,by rw[kg (Ne.symm nr)];exact mM,nO,j5,(fU.snoc rp6).tk (Tk.lst r6) (HW pp7),pp7,
    List.nodup_append.mpr ⟨oI,by simp,λa ha b hb e=>by rw[ar.mp hb]at e;exact hnm<|e▸ha⟩,by rw[be,cv];lia⟩
  .exact(me _ _ _ n4 ds ⟨ys,rfl,mC,gG,nO,r5,iB,yN,oI,by lia⟩)
 .obtain⟨y2,y3,y4,n2,ds,ys,rfl,iG,eD,jZ,r2,eT,yN,oI,gL⟩:=h;refine(j1 _ rfl r ys ds ([false]) ⟨rfl,r2,eT,ai3 yN,by lia,λl zs es hl perm up EG=>(kl l zs ⟨rfl,.inl ⟨SqL.of j5,λl2 wO=>?_⟩⟩)⟩);have s3:Same H' (upd H' l<|.lst zs):=Same.fresh _ hl;have s4:Same (upd H' l<|.lst zs) (upd (upd H' l<|.lst zs) l2<|.tup zs):=Same.fresh _ wO;have Ar:=s3.trans s4;have Ax:∀d∈es,PrD d:=λd hd=>yN d<|perm.mem_iff.mp hd;have pE:=perm.length_eq;have ndE:es.Nodup:=perm.nodup_iff.mpr oI;refine q l2 _ n2 es ?_ (Ar _ _ eD) jZ ⟨Ax,?_,by lia⟩<|kl l2 zs ⟨rfl,j5,EG.same s4⟩
  .intro b o hb h0;have nb:b≠r:=l7 h0 jI;have nL:b≠st:=by simpa using hb
   exact Ar _ _<|iG b o (by simp[nb,nL])<|nU b o hb h0
  .refine gj (λ{a b} ha hb iZ=>?_)<|List.pairwise_and_iff.mpr ⟨up,ndE⟩;have h1:=iZ.1;rw[Ia (Ax b hb) (Ax a ha)]at h1;have h2:=of_decide_eq_false h1;have h3:prN a≠prN b:=λe=>iZ.2<|ajo (Ax a ha) (Ax b hb) e;lia
def NmV(z:Str):Prop:=Tx z/\v0 (.str z)=true
def atr{z:Str}(t:Tx z)(h1:1<=z.length)(h8:z.length<=8)(h:∀c∈z.cps.toList,smB c=true):NmV z:=⟨t,by
 show(decide (1<=z.length)&&decide (z.length<=8)&&z.cps.toList.all smB)=true;rw[decide_eq_true h1,decide_eq_true h8,bh.mpr h];rfl⟩
def abo{α:Type}{zs:U Str}{mk:Str->α}{val:Nat->α}(hl:zs.length=6)(h:∀(k:Nat)(z:Str),zs[k]?=some z->mk z=val k)(inj:∀i j,i<6->j<6->val i=val j->i=j):zs.Nodup:=by refine cp.mpr λi j hi hj eC e=>?_;have h1:=h i _<|aa hi;have h2:=h j _<|aa hj;rw[e,h2]at h1;have:=inj j i (by lia) (by lia) h1;lia
def ayc:∀n,n<26->(ae "abcdefghijklmnopqrstuvwxyz").cps.toList[n]?=some (97+n):=by decide +kernel
def apd{e:Int}(h0:0<=e)(h1:e<26):atI (ae "abcdefghijklmnopqrstuvwxyz").cps.toList e=some (97+e.toNat):=by obtain⟨n,rfl⟩:=b7 h0;exact mm<|by rw[ayc n (by lia)];rfl
def agt(wd:Str)(c:Nat):(wd++(⟨#[c]⟩:Str)).cps.toList=wd.cps.toList++[c]:=by show(wd.cps ++ #[c]).toList=_;simp
def amr{b s:Int}(h0:0<=s)(h5:s<5){i j:Nat}(hi:i<6)(hj:j<6)(e:97+((b+(1+s)*(i:Int)) % 26).toNat=97+((b+(1+s)*(j:Int)) % 26).toNat):i=j:=by
 have hs:s=0\/s=1\/s=2\/s=3\/s=4:=by lia
 rcases hs with rfl|rfl|rfl|rfl|rfl<;>lia
def agu:Sp:=λvs H Q _=>∃(st:aF)(n:U V),vs=[.ref st]/\H st=some (.lst n)/\StL n/\∀(p:aF)(zs:U Str)(H':Hp)(n':U V),H p=none->Ex [st] H H'->H' st=some (.lst n')->StL n'->H' p=some (.lst<|zs.map V.str)->zs.length=6->(∀z∈zs,NmV z)->zs.Nodup->Q (.ref p) H'
def scLnames:km ["_law_state_here","_law_letters","_law_size","_law_base","_law_spot","_law_step","_law_names_here","_law_k","_law_word","_law_place","_law_shift"] Z4 (kb IH):={}
theorem aii(B:∀x∈qy,mg x=none)(aZ:xp P w K mg base)
  (F:Fun K "_law_names" "_law_names" IH f fd):p9 P w K mg base CX0 2 f fd Z4 agu:=by
 refine F.ok (k:=1) scLnames (λvs H Q E h=>?_) λbE A outer s H vs Q E hr h=>?_
 .obtain⟨st,n,rfl,_⟩:=h;rfl
 obtain⟨st,n,rfl,bJ,hn,q⟩:=h;refine⟨_,(j3 (ma (i:=1) scLnames.nd rfl (Or.inl rfl) lv)
  (j3 (ma (i:=2) scLnames.nd rfl (Or.inl rfl)<|m8 o5 j2<|k8 aZ hr (by decide) rfl<|j8 (pv 0)<|j8 j2 jz)
  (j3 (sd (i:=3) ZM [none,some 0] scLnames.nd rfl (Or.inl rfl) rfl rfl rfl (by decide +kernel) (by decide +kernel) rfl rfl (rQ rfl (B "range"<|by decide)<|j8 (pv 2) jz) (λ_=>(j9 (i:=0) (show(ZM:U PySem.Str).Nodup by decide +kernel) rfl<|Or.inl rfl)) (λ_=>lr) λ_=>(k8 aZ hr (by decide) rfl<|j8 (pv 1)<|j8 j2 jz))
  (j3 (ma (i:=4) scLnames.nd rfl (Or.inl rfl)<|k8 aZ hr (by decide) rfl<|j8 (pv 0)<|j8 (pv 2) jz)
  (j3 (ma (i:=5) scLnames.nd rfl (Or.inl rfl)<|m8 o5 j2<|k8 aZ hr (by decide) rfl<|j8 (pv 0)<|j8 j2 jz)
  (j3 (ma (i:=6) scLnames.nd rfl (Or.inl rfl)<|ou jz)
  (j3 (qt cx rfl (rQ rfl (B "range"<|by decide)<|j8 j2 jz) (j9 (i:=7) scLnames.nd rfl<|Or.inl rfl) (j3 (ma (i:=8) scLnames.nd rfl (Or.inl rfl) lv)
  (j3 (qt cx rfl (rQ rfl (B "range"<|by decide)<|j8 (pv 2) jz) (j9 (i:=9) scLnames.nd rfl<|Or.inl rfl) (j3 (ma (i:=10) scLnames.nd rfl (Or.inl rfl)<|m8 Ci (m8 Ci (pv 5)<|pv 7)<|wn akh rfl (B "int"<|by decide) jy<|j8 (m5 uf (pv 9) (pv 4)<|l4 _) jz)
  (j4<|ma (i:=8) scLnames.nd rfl (Or.inl rfl)<|m8 t7 (pv 8)<|kr Ab (pv 1) (m8 Ad (m8 o5 (kr m9 (pv 3) (pv 9) λ_ _=>rfl)<|pv 10) j2) λ_ _=>rfl)))
  (j4<|uo<|sw fc eu e8 pk (pv 6)<|j8 (pv 8) jz))))
  (j3 (nv (mi uf (k8 aZ hr (by decide) rfl<|j8 (pv 0)<|j8 j2 jz) j2<|l4 _) (j4<|sd (i:=6) ["_law_k"] [none] scLnames.nd rfl (Or.inl rfl) rfl rfl rfl (by decide +kernel) (by decide +kernel) rfl rfl (rQ rfl (B "range"<|by decide)<|j8 j2 jz) (λ_=>(j9 (i:=0) (show(["_law_k"]:U PySem.Str).Nodup by decide +kernel) rfl<|Or.inl rfl)) (λ_=>lr) λ_=>(m8 arq lv<|m8 o5 (pv 0) j2)) ku)
  (j4<|ke<|pv 6))))))))),?_⟩
 refine(nk _ rfl st n 8 ⟨rfl,bJ,hn,by decide,by decide,λn1 i1 kA zG h18=>(kl _ _ ⟨rfl,rfl,?_⟩)⟩);have kH:upd H st (.lst n1) st=some (.lst n1):=j5;have nU:Ex [st] H (upd H st<|.lst n1):=Ex.upd (by simp);generalize upd H st (.lst n1)=H1 at *;obtain⟨si,rfl⟩:∃si:Nat,i1=si:=b7 zG;refine(lu _ rfl _ ⟨rfl,by lia,by lia,?_⟩);intro D hD;have nD:=rO kH hD;refine rm (lo:=0) (λj ys H5=>∃(n5:U V)(ks:U Int),Ex [st,D] H1 H5/\H5 st=some (.lst n5)/\StL n5/\ys=ks.map V.int/\ks.length=j) ?_ (λj ys H5 hj aQ aV p=>?_) λys H5 aQ aV p=>?_
 .exact(kl n1 ([]) ⟨Ex.fresh hD,by rw[kg (Ne.symm nD)];exact kH,kA,rfl,rfl⟩)
 .obtain⟨n5,ks,mC,gG,sR,rfl,Bo⟩:=p;refine⟨Agree.set (Agree.refl _) rfl,?_⟩;dsimp only[sq];refine mh ?_;refine(nk _ rfl st n5 26 ⟨rfl,gG,sR,by decide,by decide,λn6 i6 mV kB h61=>?_⟩);refine ng (by lia) (by rw[kg nD];exact aQ) aV<|kl n6 (ks++[i6]) ⟨(mC.trans<|Ex.upd<|by simp).trans (Ex.upd<|by simp),?_,mV,by rw[a7];rfl,by simp[Bo]⟩;rw[kg (Ne.symm nD)];exact j5
 obtain⟨n5,ks,mC,gG,sR,rfl,Bo⟩:=p;have pT:Ex [st] H H5:=λb o hb h0=>by
  have h1:=nU b o hb h0;have nb:b≠D:=l7 h1 hD;have nL:b≠st:=by simpa using hb
  exact mC b o (by simp[nb,nL]) h1
 refine(mw _ rfl _ rfl st n5 _ ⟨rfl,gG,sR,by lia,by lia,λn6 i6 mV kB h61=>?_⟩);have mM:upd H5 st (.lst n6) st=some (.lst n6):=j5;have rG:Ex [st] H (upd H5 st<|.lst n6):=pT.trans (Ex.upd<|by simp);have Dx:upd H5 st (.lst n6) D=some (.lst<|ks.map V.int):=by rw[kg nD];exact aQ
 generalize upd H5 st (.lst n6)=H6 at *;refine(nk _ rfl st n6 5 ⟨rfl,mM,mV,by decide,by decide,λn7 i7 Bf Gi h71=>(kl _ _ ⟨rfl,rfl,?_⟩)⟩);have lJ:upd H6 st (.lst n7) st=some (.lst n7):=j5;have vC:Ex [st] H (upd H6 st<|.lst n7):=rG.trans (Ex.upd<|by simp);have BL:upd H6 st (.lst n7) D=some (.lst<|ks.map V.int):=by rw[kg nD];exact Dx
 generalize upd H6 st (.lst n7)=H7 at *;refine⟨sZ0,λr jI=>?_⟩;have nr:=rO lJ jI;have nrD:r≠D:=λe=>by rw[e,BL]at jI;cases jI
 have Dc:H r=none:=by
  cases z:H r with
  | none=>rfl
  | some o=>have z':=vC r o (by simpa using nr) z;rw[z']at jI;cases jI
 have CT:=yw (o:=.lst []) lJ jI;have r8:upd H7 r (.lst []) r=some (.lst []):=j5;have hD8:upd H7 r (.lst []) D=some (.lst<|ks.map V.int):=by rw[kg (Ne.symm nrD)];exact BL
 have BO:Ex [st] H (upd H7 r<|.lst []):=vC.trans<|Ex.fresh jI;generalize upd H7 r (.lst [])=H8 at *;obtain⟨sp,rfl⟩:=b7 kB;have fG:sp<ks.length:=by lia
 obtain⟨b,hb⟩:∃b,ks[sp]?=some b:=⟨_,aa fG⟩;refine⟨_,rfl,by decide,by decide,?_⟩;refine qq (lo:=0) (λi σ' H'=>∃(y7 y8 y9 y10:Option V)(zs:U Str),σ'=[some (.ref st),some<|.str<|ae "abcdefghijklmnopqrstuvwxyz",some<|.int<|1+si,some<|.ref D,some<|.int (sp:Int),some<|.int<|1+i7,some<|.ref r,y7,y8,y9,y10]/\Ex [r] H8 H'/\H' r=some (.lst<|zs.map V.str)/\zs.length=i/\∀(k:Nat)(z:Str),zs[k]?=some z->NmV z/\z.cps.toList[sp]?=some (97+((b+(1+i7)*(k:Int)) % 26).toNat)) ?_ (λi σ' H' eZ h=>?_) λσ' H' h=>?_
 .exact(me _ _ _ _ ([]) ⟨rfl,Ex.refl _ _,r8,rfl,λk z hz=>by cases hz⟩)
 .obtain⟨y7,y8,y9,y10,zs,rfl,BN,r9,wN,C6⟩:=h;have hD9:=BN.at (Ne.symm nrD) hD8;refine(lu _ rfl _ ⟨rfl,by lia,by lia,?_⟩);refine qq (lo:=0) (λj σ' H2=>∃(y9 y10:Option V)(wd:Str),σ'=[some (.ref st),some<|.str<|ae "abcdefghijklmnopqrstuvwxyz",some<|.int<|1+si,some<|.ref D,some<|.int (sp:Int),some<|.int<|1+i7,some<|.ref r,some<|.int<|0+i,some<|.str wd,y9,y10]/\H2=H'/\Tx wd/\wd.length=j/\(∀c∈wd.cps.toList,smB c=true)/\(sp<j->wd.cps.toList[sp]?=some (97+((b+(1+i7)*(i:Int)) % 26).toNat))) ?_ (λj σ' H2 hj h=>?_) λσ' H2 h=>?_
  .exact(lq _ _ _ ⟨rfl,rfl,txL<|by decide +kernel,by decide +kernel,(show ∀c∈(ae "").cps.toList,smB c=true by decide +kernel),λh=>absurd h<|Nat.not_lt_zero _⟩)
  .obtain⟨y9,y10,wd,rfl,rfl,Ep,AH,Et,EV⟩:=h;have wQ:j<ks.length:=by lia
   have mY:atI (ks.map V.int) (0+((j:Nat):Int))=some (.int ks[j]):=by rw[show(0+((j:Nat):Int))=((j:Nat):Int) by lia];exact mm<|by rw[a6,aa wQ];rfl
   refine(qf _ rfl _ rfl _ _ ⟨rfl,rfl,.inl ⟨by lia,by lia⟩,(lu _ rfl _ ⟨rfl,rfl,.inr<|m6 _ rfl _ _ ⟨rfl,rfl,.inr ⟨?_,?_⟩,?_⟩⟩)⟩)
   .split<;>decide
   .split<;>decide
   have e0:=Int.emod_nonneg (ks[j]+(1+i7)*(0+(i:Int))*(if decide (V.int (0+(j:Int))=V.int (sp:Int))=true then 1 else 0)) (show(26:Int)≠0 by decide);have e26:=Int.emod_lt_of_pos (ks[j]+(1+i7)*(0+(i:Int))*(if decide (V.int (0+(j:Int))=V.int (sp:Int))=true then 1 else 0)) (show(0:Int)<26 by decide);have hc:=apd e0 e26;have Dj:j=sp->(97+((ks[j]+(1+i7)*(0+(i:Int))*(if decide (V.int (0+(j:Int))=V.int (sp:Int))=true then 1 else 0)) % 26).toNat)=97+((b+(1+i7)*(i:Int)) % 26).toNat:=λe=>by
    subst e;have e1:ks[j]=b:=by rw[aa wQ]at hb;exact cg hb
    rw[if_pos (decide_eq_true<|by rw[Int.zero_add]),e1,Int.mul_one,Int.zero_add]
   have fF:smB (97+((ks[j]+(1+i7)*(0+(i:Int))*(if decide (V.int (0+(j:Int))=V.int (sp:Int))=true then 1 else 0)) % 26).toNat)=true:=by unfold smB;rw[decide_eq_true (by lia),decide_eq_true<|by lia];rfl
   generalize (97+((ks[j]+(1+i7)*(0+(i:Int))*(if decide (V.int (0+(j:Int))=V.int (sp:Int))=true then 1 else 0)) % 26).toNat)=c at *;have pM:c<128:=by unfold smB at fF;have:=(da.mp fF).2;have:=of_decide_eq_true this;lia
   refine(uv _ rfl _ rfl _ ⟨rfl,(j1 _ rfl D _ _ _ ⟨rfl,rfl,SqL.of hD9,mY,(mf _ rfl _ _ rfl rfl _ ⟨_,rfl,rfl,(show(0:Int)<26 by decide),(lq _ _ c ⟨rfl,rfl,o9<|txL<|by decide +kernel,hc,(kl wd _ ⟨rfl,rfl,?_,?_⟩)⟩)⟩)⟩)⟩)
   .exact cq (lc<|by rw[AH];show j+1<=1000;lia)
   exact⟨_,_,wd++⟨#[c]⟩,rfl,rfl,Tx.cat Ep (tx1 pM)<|by rw[AH];show j+1<=80;lia,by rw[L3.len_cat,AH];rfl,(λx hx=>by
     rw[agt]at hx;rcases bn.mp hx with h|h
     .exact Et x h
     .rw[ar.mp h];exact fF),λbL=>by
     have lw:wd.cps.toList.length=j:=by rw[<-AH];simp[Str.length]
     rw[agt];by_cases e:sp<j
     .rw[bp (by lia)];exact EV e
     .have e':j=sp:=by lia
      rw[bj (by lia),lw,e',iz,<-Dj e'];rfl⟩
  .obtain⟨y9,y10,wd,rfl,rfl,Ep,AH,Et,EV⟩:=h;refine(ab8 _ rfl (.inl ⟨rfl,_,SqL.of r9⟩) _ rfl r (zs.map V.str) _ ⟨rfl,rfl,r9,lc<|by rw[ac];lia,?_⟩);refine(me _ _ _ _ (zs++[wd]) ⟨rfl,BN.trans<|Ex.upd<|by simp,by rw[a7];exact j5,by simp[wN],λk z hz=>?_⟩);by_cases hk:k<zs.length
   .rw[bp hk]at hz;exact C6 k z hz
   .have pF:=(af.mp hz).1;rw[be,cv]at pF;have ek:k=zs.length:=by lia
    rw[bj (by lia),ek,iz]at hz;cases (cg hz);rw[ek,wN];exact⟨atr Ep (by lia) (by lia) Et,EV<|by lia⟩
 .obtain⟨y7,y8,y9,y10,zs,rfl,BN,r9,wN,C6⟩:=h;have st9:=BN.at (Ne.symm nr) CT;refine(nk _ rfl st n7 4 ⟨rfl,st9,Bf,by decide,by decide,λlS i10 Bg BM h104=>⟨rfl,_,rfl,?_⟩⟩);have vP:upd H' st (.lst lS) st=some (.lst lS):=j5;have EK:upd H' st (.lst lS) r=some (.lst<|zs.map V.str):=by rw[kg nr];exact r9
  have xG:Ex [st] H (upd H' st<|.lst lS):=λb o hb h0=>by
   have nb:b≠r:=l7 h0 Dc;have nL:b≠st:=by simpa using hb
   rw[kg nL];exact BN.at nb<|BO b o hb h0
  generalize upd H' st (.lst lS)=Jt at *;refine oy (λ_=>?_) λ_=>?_
  .refine⟨_,rfl,by decide,by decide,λD2 cL=>?_⟩;refine rm (lo:=0) (λj ys H2=>Same Jt H2/\∃ws:U Str,ys=ws.map V.str/\ws.length=j/\∀(k:Nat)(w:Str),ws[k]?=some w->NmV w/\w.length=k+1) ⟨Same.fresh _ cL,[],rfl,rfl,λk w hw=>by cases hw⟩ (λj ys H2 hj aQ aV p=>?_) λys H2 aQ aV p=>?_
   .obtain⟨p1,ws,rfl,uF,hws⟩:=p;refine⟨Agree.set (Agree.refl _) rfl,?_⟩;dsimp only[sq];refine mh ?_;refine(mf _ rfl _ _ rfl rfl _ ⟨_,rfl,rfl,by lia,by lia,by decide +kernel,λw hw hc=>?_⟩);have Dm:j<6:=hj;have ea:(ae "a").length=1:=by decide +kernel
    rw[ea]at hw;refine ng (by lia) aQ aV ⟨p1.new cL,ws++[w],by rw[a7];rfl,by simp[uF],λk z hz=>?_⟩;by_cases hk:k<ws.length
    .rw[bp hk]at hz;exact hws k z hz
    .have pF:=(af.mp hz).1;rw[be,cv]at pF;have ek:k=ws.length:=by lia
     rw[bj (by lia),ek,iz]at hz;cases (cg hz);have all:∀c∈w.cps.toList,c=97:=λc BB=>by
      have:=hc c BB;have e:(ae "a").cps.toList=[97]:=by decide +kernel
      rw[e]at this;simpa using this
     refine⟨atr ⟨by lia,λc BB=>by rw[all c BB];decide⟩ (by lia) (by lia) λc BB=>by rw[all c BB];decide,by lia⟩
   .obtain⟨p1,ws,rfl,uF,hws⟩:=p;refine⟨_,rfl,q D2 ws _ lS ?_ (xG.trans<|Ex.of_same p1) (p1 _ _ vP) Bg aQ uF (λz hz=>by obtain⟨k,hk⟩:=cj.mp hz;exact(hws k z hk).1)<|abo (mk:=λz=>z.length) (val:=λk=>k+1) uF (λk z h=>(hws k z h).2) λi j _ _ e=>by lia⟩;cases z:H D2 with
    | none=>rfl
    | some o=>
     have nd:=rO vP cL;have z':=xG D2 o (by simpa using nd) z;rw[z']at cL;cases cL
  .exact⟨_,rfl,q r zs _ lS Dc xG vP Bg EK wN (λz hz=>by obtain⟨k,hk⟩:=cj.mp hz;exact(C6 k z hk).1)<|abo (mk:=λz=>z.cps.toList[sp]?) (val:=λk=>some<|97+((b+(1+i7)*(k:Int)) % 26).toNat) wN (λk z h=>(C6 k z h).2) λi j hi hj e=>amr Gi h71 hi hj<|cg e⟩
def KsV(ns:U Str)(ds:U Z9):Prop:=∀(i:Nat)(d:Z9),ds[i]?=some d->∃z,ns[i]?=some z/\KdV z d
def atn{z:Str}{d:Z9}(h:KdV z d):imm d=true:=by
 obtain⟨l,m,md,es,rfl,_,_,hm,_,fr⟩:=h;have he:=ai4 fr;have gY:imm m=true:=by rcases hm with rfl|⟨j,rfl,_⟩<;>rfl
 show(true&&(true&&(imm m&&(true&&(imm (.tuple es)&&true)))))=true;rw[he,gY];rfl
def Im{ns:U Str}{ds:U Z9}(h:KsV ns ds):oo ds=true:=p6 λd hd=>by obtain⟨i,hi⟩:=cj.mp hd;obtain⟨z,_,hz⟩:=h i d hi;exact atn hz
noncomputable def menu:Str:=ae "....,,##ABCDEFGHIJKLMNOPQRSTUVWXYZabcdefghijklmnopqrstuvwxyz"
def PzV(d:Z9):Prop:=∃(zs ns:U Str)(ks ps:U Z9),d=.tuple [.tuple (zs.map PyData.str),.tuple ks,.tuple ps]/\Rw menu zs/\0<ks.length/\ks.length<=6/\KsV ns ks/\ns.Nodup/\(∀z∈ns,NmV z)/\PrS ps
theorem af8{H:Hp}:∀{zs:U Str},(∀z∈zs,Tx z)->RepAll H (zs.map PyData.str) (zs.map V.str)
 | [],_=>rfl
 | z::zs,h=>(kl _ _ ⟨rfl,⟨rfl,(h z ak).ok⟩,af8 λz hz=>h z<|ao _ hz⟩)
def aoa{xs:U V}{k:Nat}(hk:k<=xs.length):lA xs none (some (k:Int))=xs.take k:=by unfold lA;rw[HT.sIx_none,HT.sIx_nat,Nat.sub_zero,show kO k xs.length=k by lia];rfl
def am7{xs:U V}{k:Nat}(hk:k<=xs.length):lA xs (some (k:Int)) none=xs.drop k:=by unfold lA;rw[HT.sIx_none,HT.sIx_nat,show kO k xs.length=k by lia,av<|by rw[ie];exact aq _]
def sgT:Tx (ae "....,,##ABCDEFGHIJKLMNOPQRSTUVWXYZabcdefghijklmnopqrstuvwxyz"):=txL<|by decide +kernel
def an4:Sp:=λvs H Q _=>∃(st:aF)(n:U V),vs=[.ref st,.int 8,.int 6,.int 6]/\H st=some (.lst n)/\StL n/\∀(p:aF)(H':Hp)(n':U V)(d:Z9),Ex [st] H H'->H' st=some (.lst n')->StL n'->PzV d->Rep H' d (.ref p)->Q (.ref p) H'
def scLpuz:km ["_law_state_here","_law_most","_law_spots","_law_many","_law_signs_here","_law_floor_here","_law_kinds"] ZF (kb HN):={}
def aqy(B:∀x∈qy,mg x=none)(aZ:xp P w K mg base)(yB:Fn P w K mg base "_law_floor" 2 ZH alc)(xU:Fn P w K mg base "_law_kind" 4 ZG akf)(tJ:Fn P w K mg base "_law_names" 2 Z4 agu)(tI:Fn P w K mg base "_law_pairs" 2 Z4 ago)
  (F:Fun K "_law_puzzle" "_law_puzzle" HN f fd):p9 P w K mg base CX0 5 f fd ZF an4:=by
 refine F.ok (k:=4) scLpuz (λvs H Q E h=>?_) λbE A outer s H vs Q E hr h=>?_
 .obtain⟨st,n,rfl,_⟩:=h;rfl
 obtain⟨st,n,rfl,bJ,hn,q⟩:=h;refine⟨_,(j3 (ma (i:=4) scLpuz.nd rfl (Or.inl rfl) lv)
  (j3 (ma (i:=5) scLpuz.nd rfl (Or.inl rfl)<|k8 yB hr (by decide) rfl<|j8 (pv 0)<|j8 (pv 1)<|j8 (vt ar3 (pv 4) yf<|yh<|kr m9 (ou<|j8 j2<|j8 j2 jz) (k8 aZ hr (by decide) rfl<|j8 (pv 0)<|j8 j2 jz) λ_ _=>rfl) jz)
  (j3 (sd (i:=6) ZA [none,some 0,some 2] scLpuz.nd rfl (Or.inl rfl) rfl rfl rfl (by decide +kernel) (by decide +kernel) rfl rfl (oh<|vt Cq (k8 tJ hr (by decide) rfl<|j8 (pv 0) jz) yf<|yh<|m8 o5 j2<|k8 aZ hr (by decide) rfl<|j8 (pv 0)<|j8 (pv 3) jz) (λ_=>(j9 (i:=0) (show(ZA:U PySem.Str).Nodup by decide +kernel) rfl<|Or.inl rfl)) (λ_=>lr) λ_=>(k8 xU hr (by decide) rfl<|j8 (pv 1)<|j8 (pv 0)<|j8 (pv 2) jz))
  (j4<|ke<|on<|j8 (pv 5)<|j8 (wn nq rfl (B "tuple"<|by decide) e9<|j8 (pv 6) jz)<|j8 (k8 tI hr (by decide) rfl<|j8 (pv 0) jz) jz)))),?_⟩
 refine(uv _ rfl _ rfl _ ⟨rfl,sZ2,λp1 wG=>?_⟩);refine(nk _ rfl st n 2 ⟨rfl,yw bJ wG,hn,by decide,by decide,λn1 i1 kA zG h12=>?_⟩);obtain⟨k,hk,hkm⟩:=xL (α:=V) (xs:=[V.int 8,V.int 60]) zG h12;obtain⟨yW,nU,kH⟩:=vd (o:=.lst [V.int 8,V.int 60]) (n':=n1) bJ wG;have FW:∃j:Int,k=.int j/\0<(Txt.slice (ae "....,,##ABCDEFGHIJKLMNOPQRSTUVWXYZabcdefghijklmnopqrstuvwxyz") none<|some j).length/\∀c∈(Txt.slice (ae "....,,##ABCDEFGHIJKLMNOPQRSTUVWXYZabcdefghijklmnopqrstuvwxyz") none<|some j).cps.toList,c∈menu.cps.toList:=by
  simp only[ap,bz,or_false]at hkm;rcases hkm with rfl|rfl
  .exact⟨8,rfl,by decide +kernel,by decide +kernel⟩
  .exact⟨60,rfl,by decide +kernel,by decide +kernel⟩
 obtain⟨j,rfl,hj0,hjm⟩:=FW;refine(li p1 _ i1 _ ⟨rfl,rfl,SqL.of yW,hk,(lu j rfl _ ⟨rfl,o9 sgT,?_⟩)⟩);generalize upd (upd H p1 _) st _=H1 at *;refine(lq st n1 _ ⟨rfl,kH,kA,sgT.slice _ _,hj0,λfa zs H2 n2 hfa iG eD jZ hf2 rw2=>?_⟩);have xF:=nU.trans iG;refine(m6 _ rfl st n2 ⟨rfl,eD,jZ,λna ns H3 n3 FG nT gU kW FI hns6 Bd FD=>?_⟩);have xE:=xF.trans nT;have l3:=Lk.of_ex nT eD gU;have hf3:=l3.tup hf2;have nna:=rO eD FG;refine(mw _ rfl _ rfl st n3 6 ⟨rfl,gU,kW,by decide,by decide,λn4 i4 nO zF h46=>(kl _ _ ⟨rfl,rfl,_,rfl,?_⟩)⟩);have jE:upd H3 st (.lst n4) st=some (.lst n4):=j5;have nB:Ex [st] H3 (upd H3 st<|.lst n4):=Ex.upd (by simp);have hf4:=(Lk.of_ex nB gU jE).tup hf3;have FH:=nB.at nna FI;have xD:=xE.trans nB;generalize upd H3 st (.lst n4)=H4 at *;obtain⟨m,rfl⟩:=b7 zF;have sU:lA (ns.map V.str) none (some<|1+(m:Int))=(ns.take<|1+m).map V.str:=by rw[show(1+(m:Int))=((1+m:Nat):Int) by lia,aoa<|by rw[ac];lia,List.map_take]
 refine(kl na _ ⟨rfl,SqL.of FH,λsa hsa=>?_⟩);rw[sU];have s5:Same H4 (upd H4 sa<|.lst<|(ns.take<|1+m).map V.str):=Same.fresh _ hsa;have Ey:upd H4 sa (.lst<|(ns.take<|1+m).map V.str) sa=some (.lst<|(ns.take<|1+m).map V.str):=j5;have gG:=s5 _ _ jE;have Bx:=s5 _ _ hf4;have pT:=xD.trans<|Ex.of_same (W:=[st]) s5;have nsa:=rO jE hsa;generalize upd H4 sa (.lst<|(ns.take<|1+m).map V.str)=H5 at *;have iX:((ns.take<|1+m).map V.str).length=1+m:=by rw[ac,c8];lia
 refine⟨sa,rfl,⟨_,SqL.of Ey⟩,λD hD=>?_⟩;have nD:=rO gG hD;have nDs:D≠sa:=rO Ey hD;refine ni (xs:=(ns.take<|1+m).map V.str) (λj ys H6=>∃(n6:U V),Ex [st,D] H5 H6/\H6 st=some (.lst n6)/\StL n6/\ys.length=j/\∃ds,RepAll H6 ds ys/\KsV (ns.take<|1+m) ds) ?_ (λj ys H6 p=>?_) (λj x ys H6 hx hj aQ aV p=>?_) λys H6 aQ aV p=>?_
 .exact⟨n4,Ex.fresh hD,by rw[kg (Ne.symm nD)];exact gG,nO,rfl,[],rfl,λi d h=>by cases h⟩
 .obtain⟨_,rG,_⟩:=p;exact SqL.of<|rG _ _ (by simp[Ne.symm nsa,Ne.symm nDs,nsa]) Ey
 .obtain⟨n6,rG,mM,mV,E6,vF,fU,AK⟩:=p;have hxz:∃z,x=.str z/\Tx z/\z.length<=8/\(ns.take<|1+m)[j]?=some z:=by
   rw[a6]at hx;obtain⟨z,hz,rfl⟩:=bg.mp hx;have hn:=Bd z<|gt<|ah hz;refine⟨z,rfl,hn.1,?_,hz⟩;have h2:(decide (1<=z.length)&&decide (z.length<=8)&&z.cps.toList.all smB)=true:=hn.2;exact of_decide_eq_true (da.mp (da.mp h2).1).2
  obtain⟨z,rfl,tz,z8,hzj⟩:=hxz;refine⟨Agree.set (Agree.refl _) rfl,?_⟩;dsimp only[sq];refine mh ?_;refine(vy _ rfl _ rfl _ rfl st n6 ⟨z,rfl,mM,mV,tz,z8,λkp H7 n7 dk vC lJ Bf kv7 rp7=>?_⟩);have BL:=vC.at nD aQ;have dH:vF.length=j:=by rw[<-fU.length,E6]
  have ks7:KsV (ns.take<|1+m) (vF++[dk]):=λi d h=>by
   by_cases hi:i<vF.length
   .rw[bp hi]at h;exact AK i d h
   .have jV:=(af.mp h).1;rw[be,cv]at jV;have ei:i=vF.length:=by lia
    rw[bj (by lia),ei,iz]at h;cases cg h;rw[ei,dH];exact⟨z,hzj,kv7⟩
  refine ng (by lia) BL aV ⟨n7,?_,by rw[kg (Ne.symm nD)];exact lJ,Bf,by rw[be,E6];rfl,vF++[dk],((fU.tk (qB vC mM)<|Im AK).snoc rp7).tk (Tk.lst BL) (Im ks7),ks7⟩
  .intro b o hb h0;have bZ:b≠st/\b≠D:=by simpa using hb
   rw[kg bZ.2];exact vC.at bZ.1<|rG b o hb h0
 .obtain⟨n6,rG,mM,mV,E6,vF,fU,AK⟩:=p;have hf6:H6 fa=some (.tup<|zs.map V.str):=rG _ _ (by
   have e1:fa≠st:=λe=>by rw[e,gG]at Bx;cases Bx
   have e2:fa≠D:=λe=>by rw[e,hD]at Bx;cases Bx
   simp[e1,e2]) Bx
  have Gu:Ex [st] H H6:=λb o hb h0=>by
   have h1:=pT b o hb h0;have nb:b≠D:=l7 h1 hD;have nL:b≠st:=by simpa using hb
   exact rG b o (by simp[nb,nL]) h1
  refine(qf _ rfl _ rfl D ys ⟨rfl,.inl ⟨SqL.of aQ,λka hka=>?_⟩⟩);have s7:Same H6 (upd H6 ka<|.tup ys):=Same.fresh _ hka;have ka7:upd H6 ka (.tup ys) ka=some (.tup ys):=j5;have lJ:=s7 _ _ mM;have hf7:=s7 _ _ hf6;have Gs:=Gu.trans<|Ex.of_same (W:=[st]) s7;have vV:=fU.same s7;generalize upd H6 ka (.tup ys)=H7 at *;refine(m6 _ rfl st n6 ⟨rfl,lJ,mV,λpa H8 n8 ps BO CT hn8 A8 rpp=>⟨sZ3,λta hta=>?_⟩⟩);have l8:=Lk.of_ex BO lJ CT;have s9:Same H8 (upd H8 ta<|.tup [.ref fa,.ref ka,.ref pa]):=Same.fresh _ hta;have l9:=Lk.of_same s9;have EI:=(vV.tk (qB BO lJ)<|Im AK).same s9;obtain⟨EC,EB,wd,w0,w8,rZ⟩:=rw2;have hyl':=fU.length;refine q ta _ n8 (.tuple [.tuple (zs.map PyData.str),.tuple vF,.tuple ps]) ((Gs.trans BO).trans (Ex.of_same s9)) (s9 _ _ CT) hn8
   (li zs (ns.take<|1+m) vF ps ⟨rfl,⟨EC,EB,wd,w0,w8,λz hz=>⟨(rZ z hz).1,(rZ z hz).2.1,λc hc=>hjm c<|(rZ z hz).2.2 c hc⟩⟩,by lia,by lia,AK,FD.sublist<|List.take_sublist _ _,λz hz=>Bd z<|gt hz,A8⟩) ?_
  exact(nh ta _ rfl j5 _ _ rfl (kl fa _ ⟨rfl,l9.tup<|l8.tup hf7,af8 λz hz=>(rZ z hz).1⟩) _<|my _ rfl (kl ka _ ⟨rfl,l9.tup<|l8.tup ka7,EI⟩) _ ⟨_,rfl,rpp.same s9,rfl⟩)
theorem zg{H:Hp}:∀{zs:U Str} {vs:U V},RepAll H (zs.map PyData.str) vs->vs=zs.map V.str
 | [],vs,r=>r
 | z::zs,vs,r=>by obtain⟨x,ys,rfl,⟨rfl,_⟩,r2⟩:=r;rw[zg r2];rfl
def ap5:∀c∈menu.cps.toList,sgB c=true:=by decide +kernel
def ain{H:Hp}{v:V}{zs:U Str}(h:Rw menu zs)(r:Rep H (.tuple<|zs.map PyData.str) v):GT H v:=by
 obtain⟨b,vs,rfl,hb,rs⟩:=r;have e:=zg rs;subst e;obtain⟨h1,h8,wd,w0,w8,hz⟩:=h;refine⟨some<|zs.map some,⟨by rw[ac];lia,(kl b _ ⟨rfl,hb,by rw[ac,ac],λi x o hx ho=>?_⟩)⟩,?_⟩
 .rw[a6]at hx ho;obtain⟨z,yS,rfl⟩:=bg.mp hx;rw[yS]at ho;cases ho;exact⟨rfl,(hz z<|ah yS).1⟩
 .have first:xw (((zs.map some)[0]?).getD none)=wd:=by
   rw[a6,aa h1];exact(hz _<|dq h1).2.1
  show(decide (1<=(zs.map some).length)&&decide ((zs.map some).length<=8)&&(zs.map some).all λo=>iT o&&(xw o==xw (((zs.map some)[0]?).getD none)))=true;rw[decide_eq_true (by rw[ac];lia),decide_eq_true<|by rw[ac];lia,first];refine bh.mpr λo ho=>?_;obtain⟨z,E2,rfl⟩:=aw.mp ho;obtain⟨t,l,c⟩:=hz z E2;show((decide (1<=z.length)&&decide (z.length<=8)&&z.cps.toList.all sgB)&&(z.length==wd))=true;rw[decide_eq_true (by lia),decide_eq_true<|by lia,bh.mpr λx hx=>ap5 x<|c x hx,l];simp
def aml{H:Hp}{v:V}{z:Str}{d:Z9}(hn:NmV z)(h:KdV z d)(r:Rep H d v):v8 H v/\∃b r,v=.ref b/\H b=some (.tup (.str z::r)):=by
 obtain⟨l,m,md,es,rfl,l0,l64,hm,yY,fr⟩:=h;obtain⟨b,xs,rfl,hb,x1,r1,e1,⟨q1,_⟩,x2,r2,e2,q2,x3,r3,e3,q3,x4,r4,e4,⟨q4,_⟩,x5,r5,e5,q5,e6⟩:=r;subst e6 e5 e4 e3 e2 e1 q1 q4;cases (show x2=.int l from q2);refine⟨(me b _ _ _ _ ⟨_,rfl,hb,hn.2,?_,yY,?_⟩),(kl b _ ⟨rfl,hb⟩)⟩
 .rcases hm with rfl|⟨j,rfl,h1,h2⟩
  .cases (show x3=.non from q3);show(decide (0<=l)&&decide (l<=64))=true;rw[decide_eq_true l0,decide_eq_true l64];rfl
  .cases (show x3=.int j from q3);show(decide (0<=l)&&decide (l<=64)&&(decide (l<=j)&&decide (j<=64)))=true;rw[decide_eq_true l0,decide_eq_true l64,decide_eq_true h1,decide_eq_true h2];rfl
 .obtain⟨c,ys,rfl,hc,rc⟩:=q5;exact(lq c ys es ⟨rfl,hc,rc,fr⟩)
def ao0{H:Hp}{v:V}{d:Z9}(h:PzV d)(r:Rep H d v):B4 H v:=by
 obtain⟨zs,ns,ks,ps,rfl,oA,k0,k6,yR,nd,nm,qM⟩:=h;obtain⟨a,xs,rfl,ha,f,r1,e1,rf,k,r2,e2,rk,p,r3,e3,rp,e4⟩:=r;subst e4 e3 e2 e1;refine(li a f k p ⟨rfl,ha,ain oA rf,?_,?_⟩)
 .obtain⟨b,ys,rfl,hb,rs⟩:=rk;have hl:=rs.length;have iF:ks.length<=ns.length:=by
   obtain⟨z,hz,_⟩:=yR (ks.length-1) ks[ks.length-1] (aa<|by lia);have:=(af.mp hz).1;lia
  have BV:∀(i:Nat)(x:V),ys[i]?=some x->∃z,ns[i]?=some z/\v8 H x/\∃b r,x=.ref b/\H b=some (.tup (.str z::r)):=λi x hx=>by obtain⟨d,hd,rd⟩:=rs.at hx;obtain⟨z,hz,kv⟩:=yR i d hd;exact⟨z,hz,aml (nm z<|ah hz) kv rd⟩
  refine(lq b ys (ns.take ks.length) ⟨rfl,hb,by lia,by lia,λx hx=>?_,⟨by rw[c8];lia,λi x hx=>?_⟩,nd.sublist<|List.take_sublist _ _⟩)
  .obtain⟨i,hi⟩:=cj.mp hx;exact(BV i x hi).choose_spec.2.1
  .obtain⟨z,hz,_,b',r',e,bZ⟩:=BV i x hx;have hi:=(af.mp hx).1;exact(lq b' z r' ⟨e,bZ,by rw[gg (by lia)];exact hz⟩)
 .obtain⟨b,ys,rfl,hb,rs⟩:=rp;exact(lq b ys ps ⟨rfl,hb,rs,qM.1,qM.2.1⟩)
def ara{z:Str}(h:zf z=true):Tx z:=by
 unfold zf at h;rcases Bool.or_eq_true_iff.mp h with h|h
 .rcases Bool.or_eq_true_iff.mp h with h|h
  .rw[of_decide_eq_true h];exact txL<|by decide +kernel
  .rw[of_decide_eq_true h];exact txL<|by decide +kernel
 .rw[of_decide_eq_true h];exact txL<|by decide +kernel
def ao9{H:Hp}{v:V}{z:Str}{d:Z9}(hn:NmV z)(h:KdV z d)(r:Rep H d v):KnN 3 H v:=by
 obtain⟨l,m,md,es,rfl,l0,l64,hm,yY,fr⟩:=h;obtain⟨b,xs,rfl,hb,x1,r1,e1,⟨q1,_⟩,x2,r2,e2,q2,x3,r3,e3,q3,x4,r4,e4,⟨q4,_⟩,x5,r5,e5,q5,e6⟩:=r;subst e6 e5 e4 e3 e2 e1 q1 q4;cases (show x2=.int l from q2);refine yn hb (by show 5<=60;lia) λx hx=>?_;simp only[ap,bz,or_false]at hx;rcases hx with rfl|rfl|rfl|rfl|rfl
 .exact yk hn.1
 .exact Eg _
 .rcases hm with rfl|⟨j,rfl,_⟩
  .cases (show x=.non from q3);exact aql
  .cases (show x=.int j from q3);exact Eg _
 .exact yk<|ara yY
 .obtain⟨c,ys,rfl,hc,rc⟩:=q5;have:=rc.length;have:=fr.1.pre.six;exact yn hc (by lia) λy hy=>(alb rc (λd hd=>fr.1.pre.sg d hd) y hy).1.down
def ar7{H:Hp}{v:V}{d:Z9}(h:PzV d)(r:Rep H d v):Pz H v:=by
 obtain⟨zs,ns,ks,ps,rfl,oA,k0,k6,yR,nd,nm,qM⟩:=h;obtain⟨a,xs,rfl,ha,f,r1,e1,rf,k,r2,e2,rk,p,r3,e3,rp,e4⟩:=r;subst e4 e3 e2 e1;refine⟨.inr<|.inr<|.inr<|.inr ⟨a,rfl,.inr<|.inl ⟨_,ha⟩⟩,λa' xs' e h'=>?_⟩;cases e;rw[ha]at h';cases h';refine⟨by show 3<=60;lia,λf' k' p' e=>?_⟩;cases e;refine⟨?_,?_,?_⟩
 .obtain⟨T,hT,_⟩:=ain oA rf;exact⟨T,hT⟩
 .obtain⟨b,ys,rfl,hb,rs⟩:=rk;have hl:=rs.length;refine yn hb (by lia) λx hx=>?_;obtain⟨i,hi⟩:=cj.mp hx;obtain⟨d,hd,rd⟩:=rs.at hi;obtain⟨z,hz,kv⟩:=yR i d hd;exact ao9 (nm z<|ah hz) kv rd
 .obtain⟨b,ys,rfl,hb,rs⟩:=rp;have hl:=rs.length;have:=qM.2.2;refine yn hb (by lia) λx hx=>?_;obtain⟨i,hi⟩:=cj.mp hx;obtain⟨d,hd,rd⟩:=rs.at hi;obtain⟨x1,y1,rfl,h1,h2,h3⟩:=qM.1 d<|ah hd;obtain⟨c,vs,rfl,hc,v1,_,e1,⟨q1,_⟩,v2,_,e2,⟨q2,_⟩,e3⟩:=rd;subst e3 e2 e1 q1 q2;refine yn hc (by show 2<=60;lia) λz hz=>?_;simp only[ap,bz,or_false]at hz;rcases hz with rfl|rfl
  .exact yk<|tx1<|by lia
  .exact yk<|tx1<|by lia
def al{H H':Hp}{a:aF}{o:HO}(h:H a=none)(g:upd H a o=H'):Same H H'/\H' a=some o:=by subst g;exact⟨Same.fresh _ h,j5⟩
noncomputable abbrev Sg:=Nat×Nat×Nat
noncomputable def sgD(s:Sg):Z9:=.tuple [.int (s.1:Nat),.int (s.2.1:Nat),.str ⟨#[s.2.2]⟩]
noncomputable def ce(s:Sg):Nat×Nat:=(s.1,s.2.1)
def Ltr(c:Nat):Prop:=65<=c/\c<=90
structure FrS(ss:U Sg):Prop where
 fr:Frm (ss.map sgD)
 ltr:∀s∈ss,Ltr s.2.2
 nd:(ss.map ce).Nodup
theorem aop:∀{es:U Z9},(∀e∈es,∃s:Sg,e=sgD s/\Ltr s.2.2)->∃ss:U Sg,es=ss.map sgD/\∀s∈ss,Ltr s.2.2
 | [],_=>⟨[],rfl,λs hs=>by cases hs⟩
 | e::es,h=>by
  obtain⟨s,rfl,hs⟩:=h e ak;obtain⟨ss,rfl,hss⟩:=aop λx hx=>h x<|ao _ hx;refine⟨s::ss,rfl,λs' kR=>?_⟩;rcases ap.mp kR with rfl|h'
  .exact hs
  .exact hss s' h'
def auz{es:U Z9}(h:Frm es):∃ss,es=ss.map sgD/\FrS ss:=by
 obtain⟨ss,rfl,hl⟩:=aop (es:=es) λe he=>by obtain⟨r,c,k,rfl,hk⟩:=h.1.pre.sg e he;have h1:x9 (es.map v7)<=r:=ym _<|b9 (f:=v7) he;have h2:x9 (es.map wg)<=c:=ym _<|b9 (f:=wg) he;rw[h.1.r0]at h1;rw[h.1.c0]at h2;obtain⟨r,rfl⟩:=b7 h1;obtain⟨c,rfl⟩:=b7 h2;exact⟨(r,c,k),rfl,hk⟩
 refine⟨ss,rfl,h,hl,?_⟩;have nd:=h.1.pre.nd;rw[gb]at nd;refine dt.mpr<|List.Pairwise.imp ?_<|dt.mp nd;intro a b iZ e;refine iZ ?_;have e:(a.1,a.2.1)=(b.1,b.2.1):=e;injection e with e1 e2
 show(((a.1:Nat):Int),((a.2.1:Nat):Int))=(((b.1:Nat):Int),((b.2.1:Nat):Int));rw[e1,e2]
noncomputable def stL(f:Int->Int->Option Nat)(s:Sg):Int->Int->Option Nat:=λr c=>if r=(s.1:Nat)/\c=(s.2.1:Nat)then some s.2.2 else f r c
noncomputable def look(ss:U Sg):Int->Int->Option Nat:=ss.foldl stL λ_ _=>none
def ajs(ss:U Sg)(s:Sg)(r c:Int):look (ss++[s]) r c=if r=(s.1:Nat)/\c=(s.2.1:Nat)then some s.2.2 else look ss r c:=by unfold look;rw[List.foldl_append];rfl
theorem af1:∀(ss:U Sg)(f:Int->Int->Option Nat) {r c:Int} {k:Nat},ss.foldl stL f r c=some k->f r c=some k\/∃s∈ss,r=(s.1:Nat)/\c=(s.2.1:Nat)/\k=s.2.2
 | [],f,_,_,_,h=>.inl h
 | s::ss,f,r,c,k,h=>by
  rcases af1 ss _ h with h|⟨s',hs,h⟩
  .unfold stL at h;by_cases e:r=(s.1:Nat)/\c=(s.2.1:Nat)
   .rw[if_pos e]at h;exact .inr ⟨s,ak,e.1,e.2,(cg h).symm⟩
   .rw[if_neg e]at h;exact .inl h
  .exact .inr ⟨s',ao _ hs,h⟩
def ala{ss:U Sg}{r c:Int}{k:Nat}(h:look ss r c=some k):∃s∈ss,r=(s.1:Nat)/\c=(s.2.1:Nat)/\k=s.2.2:=by
 rcases af1 ss _ h with h|h
 .cases h
 .exact h
theorem agc:∀(ss:U Sg)(f:Int->Int->Option Nat)(q:Nat×Nat),q∉ss.map ce->ss.foldl stL f (q.1:Nat) (q.2:Nat)=f (q.1:Nat) (q.2:Nat)
 | [],_,_,_=>rfl
 | s::ss,f,q,h=>by
  show ss.foldl stL (stL f s) _ _=_;rw[agc ss _ q λz=>h<|ao _ z];exact if_neg λe=>h (by
   have:q=ce s:=Prod.ext (by have:=e.1;show q.1=s.1;lia) (by have:=e.2;show q.2=s.2.1;lia);rw[this];exact ak)
theorem aj5:∀(ss:U Sg)(f:Int->Int->Option Nat),(ss.map ce).Nodup->∀s∈ss,ss.foldl stL f (s.1:Nat) (s.2.1:Nat)=some s.2.2
 | [],_,_,s,h=>by cases h
 | s0::ss,f,nd,s,h=>by
  rw[dh,g0]at nd;rcases ap.mp h with rfl|h
  .show ss.foldl stL (stL f s) _ _=_;refine(agc ss _ (ce s) nd.1).trans ?_;exact if_pos ⟨rfl,rfl⟩
  .exact aj5 ss (stL f s0) nd.2 s h
noncomputable def pch(ss:U Sg)(r c:Int):Nat:=(look ss r c).getD 46
noncomputable def uk(ss:U Sg)(t l N W:Nat):Mat:=⟨N,W,λr c=>pch ss ((r:Nat)-(t:Nat))<|(c:Nat)-(l:Nat)⟩
theorem auk{ss:U Sg}(h:∀s∈ss,Ltr s.2.2)(r c:Int):pch ss r c=46\/Ltr (pch ss r c):=by
 unfold pch;cases e:look ss r c with
 | none=>exact .inl rfl
 | some k=>
  obtain⟨s,hs,_,_,rfl⟩:=ala e;exact .inr<|h s hs
noncomputable def isP:Z9->Bool
 | .tuple [_,_,.str z]=>!decide (z=⟨#[46]⟩)
 | _=>false
theorem alz{ss:U Sg}(h:FrS ss){t l N W:Nat}(hN:∀s∈ss,s.1+t<N)(hW:∀s∈ss,s.2.1+l<W) :
  Spots ((yj<|uk ss t l N W).filter isP)/\((yj<|uk ss t l N W).filter isP).length=ss.length/\qd (og<|(yj<|uk ss t l N W).filter isP)=ss.map sgD:=by
 have key:((yj<|uk ss t l N W).filter isP).Perm (ss.map λs=>sgD (s.1+t,s.2.1+l,s.2.2)):=by
  refine(List.perm_ext_iff_of_nodup ?_ ?_).mpr λd=>?_
  .refine List.Pairwise.filter _ ?_;unfold yj;refine dt.mpr<|gj (λ{i j} hi hj eC=>?_) List.nodup_range;intro e;unfold tG at e;injection e with e
   injection e with e1 e
   injection e with e2 _
   injection e1 with e1
   injection e2 with e2
   refine eC ?_;rw[<-Nat.div_add_mod i (uk ss t l N W).w,<-Nat.div_add_mod j (uk ss t l N W).w,show i/(uk ss t l N W).w=j/(uk ss t l N W).w by lia,show i % (uk ss t l N W).w=j % (uk ss t l N W).w by lia]
  .refine dt.mpr<|List.Pairwise.imp ?_<|dt.mp h.nd;intro a b iZ e;unfold sgD at e;injection e with e
   injection e with e1 e
   injection e with e2 _
   injection e1 with e1
   injection e2 with e2
   have e1:((a.1+t:Nat):Int)=((b.1+t:Nat):Int):=e1;have e2:((a.2.1+l:Nat):Int)=((b.2.1+l:Nat):Int):=e2;exact iZ (Prod.ext (by show a.1=b.1;lia)<|by show a.2.1=b.2.1;lia)
  .rw[fj,agv,aw];constructor
   .rintro⟨⟨r,c,hr,hc,rfl⟩,hp⟩;have hp:(!decide ((⟨#[pch ss ((r:Nat)-(t:Nat)) ((c:Nat)-(l:Nat))]⟩:Str)=⟨#[46]⟩))=true:=hp;cases e:look ss ((r:Nat)-(t:Nat)) ((c:Nat)-(l:Nat))with
    | none=>
     unfold pch at hp;rw[e]at hp;exact absurd hp (by decide)
    | some k=>
     obtain⟨s,hs,e1,e2,rfl⟩:=ala e;refine⟨s,hs,?_⟩;have g:(uk ss t l N W).g r c=s.2.2:=by show pch ss _ _=_;unfold pch;rw[e];rfl
     unfold tG sgD;rw[g,show r=s.1+t by lia,show c=s.2.1+l by lia]
   .rintro⟨s,hs,rfl⟩;have e:pch ss (((s.1+t:Nat):Int)-(t:Nat)) (((s.2.1+l:Nat):Int)-(l:Nat))=s.2.2:=by
     unfold pch look;rw[show((s.1+t:Nat):Int)-(t:Nat)=(s.1:Nat) by lia,show((s.2.1+l:Nat):Int)-(l:Nat)=(s.2.1:Nat) by lia,aj5 ss _ h.nd s hs];rfl
    refine⟨(kl (s.1+t) (s.2.1+l) ⟨hN s hs,hW s hs,?_⟩),?_⟩
    .unfold tG sgD;rw[show(uk ss t l N W).g (s.1+t) (s.2.1+l)=s.2.2 from e]
    .show(!decide ((⟨#[s.2.2]⟩:Str)=⟨#[46]⟩))=true;have hl:=(h.ltr s hs).1;rw[decide_eq_false]
     .rfl
     .intro z;injection z with z
      injection z with z
      injection z with z
      lia
 generalize (yj<|uk ss t l N W).filter isP=fl at key;have dW:0<ss.length:=by have:=h.fr.1.pre.pos;rw[ac]at this;exact this
 have sp:Spots fl:=λd hd=>by obtain⟨s,_,rfl⟩:=aw.mp<|key.mem_iff.mp hd;exact(lq _ _ _ rfl)
 have ln:fl.length=ss.length:=by rw[key.length_eq,ac]
 refine⟨sp,ln,?_⟩;have mn:∀(f:Z9->Int)(g:Sg->Nat)(m:Nat),(∀s,f (sgD (s.1+t,s.2.1+l,s.2.2))=((g s+m:Nat):Int))->(∀s,f (sgD s)=(g s:Nat))->x9 ((ss.map sgD).map f)=0->x9 (fl.map f)=(m:Nat):=λf g m h1 h2 h0=>by
  rw[IZ (key.map f) (by rw[ac];lia)];refine(um ?_ λa ha=>?_).symm
  .have:=vv (ns:=(ss.map sgD).map f) (by rw[ac,ac];exact dW);rw[h0]at this;obtain⟨d,hd,e⟩:=aw.mp this;obtain⟨s,hs,rfl⟩:=aw.mp hd;rw[h2]at e;refine aw.mpr ⟨_,b9 hs,?_⟩;rw[h1];lia
  .obtain⟨d,hd,rfl⟩:=aw.mp ha;obtain⟨s,_,rfl⟩:=aw.mp hd;rw[h1];lia
 have m1:=mn v7 (·.1) t (λs=>rfl) (λs=>rfl) h.fr.1.r0;have m2:=mn wg (·.2.1) l (λs=>rfl) (λs=>rfl) h.fr.1.c0;refine akw h.fr ?_;unfold og;rw[m1,m2];have e:(ss.map λs=>sgD (s.1+t,s.2.1+l,s.2.2)).map (sj (t:Nat) (l:Nat))=ss.map sgD:=by rw[gb];refine iq λs _=>?_;show PyData.tuple [.int (((s.1+t:Nat):Int)-(t:Nat)),.int<|((s.2.1+l:Nat):Int)-(l:Nat),_]=.tuple [.int (s.1:Nat),.int (s.2.1:Nat),_];rw[show((s.1+t:Nat):Int)-(t:Nat)=(s.1:Nat) by lia,show((s.2.1+l:Nat):Int)-(l:Nat)=(s.2.1:Nat) by lia]
 rw[<-e];exact key.map _
def As(z:Str):Prop:=∀c∈z.cps.toList,c<128
def As.ok{z:Str}(h:As z):ju z=true:=by show z.cps.all (· < 0x110000)=true;rw[<-Array.all_toList,bh];intro c hc;have:=h c hc;exact decide_eq_true<|by lia
noncomputable def qC(r:Nat)(cs:U Nat):Nat->U Z9
 | 0=>[]
 | k+1=>qC r cs k++(match cs[k]? with|some c=>[.tuple [.int r,.int k,.str ⟨#[c]⟩]]|none=>[])
noncomputable def yv(zs:U Str):Nat->U Z9
 | 0=>[]
 | k+1=>yv zs k++(match zs[k]? with|some z=>qC k z.cps.toList z.cps.toList.length|none=>[])
theorem wf(r:Nat)(cs:U Nat):∀k,Spots (qC r cs k)
 | 0,d,h=>by cases h
 | k+1,d,h=>by
  unfold qC at h;rcases bn.mp h with h|h
  .exact wf r cs k d h
  .cases e:cs[k]? with
   | none=>rw[e]at h;cases h
   | some c=>rw[e]at h;rw[ar.mp h];exact(lq _ _ _ rfl)
theorem zz(zs:U Str):∀k,Spots (yv zs k)
 | 0,d,h=>by cases h
 | k+1,d,h=>by
  unfold yv at h;rcases bn.mp h with h|h
  .exact zz zs k d h
  .cases e:zs[k]? with
   | none=>rw[e]at h;cases h
   | some z=>rw[e]at h;exact wf _ _ _ d h
def Spots.app{a b:U Z9}(h:Spots a)(k:Spots b):Spots (a++b):=λd hd=>(bn.mp hd).elim (h d) (k d)
def ab3{r:Nat}{cs:U Nat}{k c:Nat}(h:cs[k]?=some c):qC r cs (k+1)=qC r cs k++[.tuple [.int r,.int k,.str ⟨#[c]⟩]]:=by show qC r cs k++_=_;rw[h]
def ab4{zs:U Str}{k:Nat}{z:Str}(h:zs[k]?=some z):yv zs (k+1)=yv zs k++qC k z.cps.toList z.cps.toList.length:=by show yv zs k++_=_;rw[h]
theorem abp(M:Mat)(r:Nat):∀c,c<=M.w->qC r (tw M r) c=(cz c).map λk=>tG M r k
 | 0,_=>rfl
 | c+1,h=>by rw[ab3 (akd (M:=M) (r:=r) (c:=c)<|by lia),abp M r c<|by lia,List.range_succ,a7];rfl
theorem abf(M:Mat):∀k,k<=M.h->yv (qw M) k=(cz<|k*M.w).map λi=>tG M (i/M.w) (i % M.w)
 | 0,_=>by simp[yv]
 | k+1,h=>by
  rw[ab4 (aln (M:=M) (r:=k)<|by lia),abf M k<|by lia];have e:((⟨(tw M k).toArray⟩:Str).cps.toList)=tw M k:=by simp
  rw[e,zm,abp M k M.w<|aq _,Nat.add_mul,Nat.one_mul,List.range_add,a7,gb]
  congr 1
  refine iq λc hc=>?_;have nR:c<M.w:=by simpa using hc
  show tG M k c=tG M ((k*M.w+c)/M.w) ((k*M.w+c) % M.w);rw[aor nR,anv nR]
def PcR(zs:U Str):Prop:=∀z∈zs,z.length<=10/\As z
def alg:Sp:=λvs H Q _=>∃(a:aF)(zs:U Str),vs=[.ref a]/\H a=some (.lst<|zs.map V.str)/\zs.length<=10/\PcR zs/\∀(D:aF)(ys:U V)(H':Hp),Same H H'->H' D=some (.lst ys)->RepAll H' (yv zs zs.length) ys->Q (.ref D) H'
def scSpots:km ["floor","spots","row","signs","column","sign"] ["floor"] (kb Iq):={}
def amw(B:∀x∈qy,mg x=none)(F:Fun K "floor_spots" "floor_spots" Iq f fd):p9 P w K mg base CX0 1 f fd ["floor"] alg:=by
 refine F.ok (k:=0) scSpots (λvs H Q E h=>?_) λbE A outer s H vs Q E hr h=>?_
 .obtain⟨a,zs,rfl,_⟩:=h;rfl
 obtain⟨a,zs,rfl,ha,AQ,hw,q⟩:=h;refine⟨_,(j3 (ma (i:=1) scSpots.nd rfl (Or.inl rfl)<|ou jz)
  (j3 (qt cx rfl (atw rfl (B "enumerate"<|by decide)<|j8 (pv 0) jz) (wa (n:=2) rfl<|k7 (j9 (i:=2) scSpots.nd rfl<|Or.inl rfl)<|k7 (j9 (i:=3) scSpots.nd rfl<|Or.inl rfl) qm)<|j4<|qt cx rfl (asw rfl (B "enumerate"<|by decide)<|j8 (pv 3) jz) (wa (n:=2) rfl<|k7 (j9 (i:=4) scSpots.nd rfl<|Or.inl rfl)<|k7 (j9 (i:=5) scSpots.nd rfl<|Or.inl rfl) qm)<|j4<|uo<|sw fc eu e8 pk (pv 1)<|j8 (on<|j8 (pv 2)<|j8 (pv 4)<|j8 (pv 5) jz) jz)
  (j4<|ke<|pv 1))),?_⟩
 refine⟨sZ0,λD hD=>?_⟩;refine(lu _ rfl a ⟨rfl,⟨_,SqL.of<|by rw[kg (l7 ha hD)];exact ha⟩,?_⟩);refine arc (xs:=zs.map V.str) (λi σ' H'=>∃(y2 y3 y4 y5:Option V)(ys:U V),σ'=[some (.ref a),some<|.ref D,y2,y3,y4,y5]/\Same H H'/\H' D=some (.lst ys)/\RepAll H' (yv zs i) ys/\ys.length<=10*i) ?_ (λi σ' H' h=>?_) (λi x p σ' H' hx hp h=>?_) λσ' H' h=>?_
 .exact(me _ _ _ _ ([]) ⟨rfl,Same.fresh _ hD,j5,rfl,dv _⟩)
 .obtain⟨_,_,_,_,_,_,s1,_⟩:=h;exact SqL.of<|s1 _ _ ha
 .obtain⟨y2,y3,y4,y5,ys,rfl,s1,aQ,cD,aV⟩:=h;rw[a6]at hx;obtain⟨z,hz,rfl⟩:=bg.mp hx;have E2:=ah hz;have jV:i<zs.length:=(af.mp hz).1;obtain⟨fD,hza⟩:=hw z E2;have hL:=mK z;refine(nw p _ rfl (SqT.of j5) rfl _ _ rfl _ ⟨_,rfl,rfl,?_⟩);generalize g1:upd H' p _=H2 at *;obtain⟨s2,_⟩:=al hp g1;clear g1;refine(lu _ rfl z ⟨rfl,hza,?_⟩);refine aqi (z:=z) (λj σ' H3=>∃(y4 y5:Option V)(ys:U V),σ'=[some (.ref a),some<|.ref D,some<|.int (i:Nat),some<|.str z,y4,y5]/\Same H H3/\H3 D=some (.lst ys)/\RepAll H3 (yv zs i++qC i z.cps.toList j) ys/\ys.length<=10*i+j) ?_ (λj c p3 σ' H3 hc uL h=>?_) λσ' H3 h=>?_
  .refine(lq _ _ ys ⟨rfl,s1.trans s2,s2 _ _ aQ,?_,by lia⟩);show RepAll H2 (yv zs i++[]) ys;rw[gz];exact cD.same s2
  .obtain⟨y4,y5,Ah,rfl,s3,qY,eS,wO⟩:=h;have wP:j<z.cps.toList.length:=(af.mp hc).1;have pM:c<128:=hza c<|ah hc;refine(nw p3 _ rfl (SqT.of j5) rfl _ _ rfl _ ⟨_,rfl,rfl,?_⟩);generalize g1:upd H3 p3 _=H4 at *;obtain⟨s4,_⟩:=al uL g1;clear g1;have xB:=s4 _ _ qY;refine(my _ rfl (.inl ⟨rfl,_,SqL.of xB⟩) _ ⟨rfl,(lu _ rfl _ ⟨rfl,sZ3,λt ht=>?_⟩)⟩);generalize g1:upd H4 t _=H5 at *;obtain⟨s5,t5⟩:=al ht g1;clear g1;have qX:=s5 _ _ xB;refine(lq D Ah (.ref t) ⟨rfl,rfl,qX,lc<|by lia,?_⟩);have iB:RepAll H5 ((yv zs i++qC i z.cps.toList j)++[.tuple [.int (i:Nat),.int (j:Nat),.str ⟨#[c]⟩]]) (Ah++[.ref t]):=((eS.same s4).same s5).snoc (vn t5<|ok1 pM);rw[List.append_assoc,<-ab3 hc]at iB;refine(lq _ _ (Ah++[.ref t]) ⟨rfl,((s3.trans s4).trans s5).new hD,j5,iB.tk (Tk.lst qX)<|Spots.imm<|Spots.app (zz _ _)<|wf _ _ _,?_⟩);rw[be,cv];lia
  .obtain⟨y4,y5,Ah,rfl,s3,qY,eS,wO⟩:=h;rw[<-ab4 hz]at eS;exact(me _ _ _ _ Ah ⟨rfl,s3,qY,eS,by lia⟩)
 .obtain⟨y2,y3,y4,y5,ys,rfl,s1,aQ,cD,aV⟩:=h;rw[ac]at cD aV;exact⟨_,rfl,q D ys H' s1 aQ cD⟩
def Wd(z:Str):Prop:=0<z.length/\z.length<=120/\∀c∈z.cps.toList,32<c/\c<128
def Wd.as{z:Str}(h:Wd z):As z:=λc hc=>(h.2.2 c hc).2
def Wd.line{z:Str}(h:Wd z):z.length<=aG:=cq (lc<|by have:=h.2.1;lia)
noncomputable def wdB(z:Str):Bool:=decide (0<z.length)&&decide (z.length<=120)&&z.cps.toList.all λc=>decide (32<c)&&decide (c<128)
def wdL{z:Str}(h:wdB z=true):Wd z:=by unfold wdB at h;rw[da,da]at h;refine⟨of_decide_eq_true h.1.1,of_decide_eq_true h.1.2,λc hc=>?_⟩;have:=bh.mp h.2 c hc;simpa using this
noncomputable def nW(n:Nat):Str:=cX ((n:Nat):Int)
noncomputable def zO:Option Nat->Str
 | none=>ae "any"
 | some j=>nW j
noncomputable def axc(z:Str):Bool:=decide (1<=z.length)&&decide (z.length<=2)&&z.cps.toList.all (λc=>decide (48<=c)&&decide (c<=57))&&(decide (z=ae "0") || !decide (z.cps.toList.headD 0=48))
def Cn:∀n≤64,axc (nW n)=true/\wdB (nW n)=true/\nW n≠ae "any":=by decide +kernel
def au1:∀c≤57,48<=c->(!(gl (ae "0123456789") ⟨#[c]⟩ 0 (ae "0123456789").length 1).isEmpty)=true:=by decide +kernel
theorem uz{H:Hp}:∀{zs:U Str},(∀z∈zs,As z)->RepAll H (zs.map PyData.str) (zs.map V.str)
 | [],_=>rfl
 | z::zs,h=>(kl _ _ ⟨rfl,⟨rfl,(h z ak).ok⟩,uz λz hz=>h z<|ao _ hz⟩)
def af7{zs:U Str}(h:∀z∈zs,0<z.length):((zs.map PyData.str).any λe=>b8 e<|.str<|ae "")=false:=by rw[List.any_eq_false];intro d hd;obtain⟨z,hz,rfl⟩:=aw.mp hd;show ¬(z==ae "")=true;rw[beq_iff_eq];rintro rfl;exact absurd (h _ hz)<|by decide +kernel
def PicOf(ss:U Sg)(cN:Str):Prop:=∃t l N W,(∀s∈ss,s.1+t<N)/\(∀s∈ss,s.2.1+l<W)/\0<N/\N<=10/\0<W/\W<=10/\cN=de ⟨#[47]⟩ (qw<|uk ss t l N W)
def uy{ss:U Sg}(hl:∀s∈ss,Ltr s.2.2){t l N W:Nat}{z:Str}(h:z∈qw (uk ss t l N W)):z.length=W/\∀c∈z.cps.toList,c=46\/Ltr c:=by
 obtain⟨r,hr,rfl⟩:=ani h;have e:((⟨(tw (uk ss t l N W) r).toArray⟩:Str).cps.toList)=tw (uk ss t l N W) r:=by simp
 refine⟨by show(tw (uk ss t l N W) r).toArray.size=_;rw[bf,zm];rfl,λc hc=>?_⟩;rw[e]at hc;unfold tw at hc;obtain⟨x,_,rfl⟩:=aw.mp hc;exact auk hl _ _
theorem zo{c:Nat}:∀{xs:U Str} {x:Nat},x∈(de ⟨#[c]⟩ xs).cps.toList->x=c\/∃z∈xs,x∈z.cps.toList
 | [],x,h=>by cases h
 | [z],x,h=>.inr ⟨z,ak,h⟩
 | z::y::r,x,h=>by
  rw[qz]at h;rcases bn.mp h with h|h
  .exact .inr ⟨z,ak,h⟩
  .rcases ap.mp h with h|h
   .exact .inl h
   .rcases zo h with h|⟨z',h1,h2⟩
    .exact .inl h
    .exact .inr ⟨z',ao _ h1,h2⟩
theorem xi{c:Nat}{m:Nat}:∀{xs:U Str},(∀z∈xs,z.length<=m)->(de ⟨#[c]⟩ xs).length<=xs.length*(m+1)
 | [],_=>dv _
 | [z],h=>by have:=h z ak;show z.length<=_;rw[cv];lia
 | z::y::r,h=>by have h1:=h z ak;have h2:=xi (c:=c) (xs:=y::r) λx hx=>h x<|ao _ hx;rw[<-mK,qz,be,ba,mK,mK,ba,Nat.add_mul];lia
theorem ag4{c:Nat}:∀{xs:U Str},xs≠[]->(∀z∈xs,0<z.length)->0<(de ⟨#[c]⟩ xs).length
 | [],h,_=>absurd rfl h
 | [z],_,h=>h z ak
 | z::y::r,_,_=>by rw[<-mK,qz,be,ba];lia
def PicOf.wd{ss:U Sg}(hl:∀s∈ss,Ltr s.2.2){cN:Str}(h:PicOf ss cN):Wd cN:=by
 obtain⟨t,l,N,W,_,_,n0,lS,w0,yE,rfl⟩:=h;have hs:=ut<|uk ss t l N W;have hs:(qw<|uk ss t l N W).length=N:=hs;refine⟨ag4 (λe=>by rw[e]at hs;simp at hs;lia) λz hz=>by rw[(uy hl hz).1];exact w0,?_,λc hc=>?_⟩
 .have:=xi (c:=47) (m:=10) (xs:=qw<|uk ss t l N W) λz hz=>by rw[(uy hl hz).1];exact yE
  rw[hs]at this;have:N*11<=10*11:=Nat.mul_le_mul_right _ lS;lia
 .rcases zo hc with rfl|⟨z,hz,zD⟩
  .decide
  .rcases(uy hl hz).2 c zD with rfl|hL
   .decide
   .exact⟨by have:=hL.1;lia,by have:=hL.2;lia⟩
def e47:ae "/" = ⟨#[47]⟩:=by decide +kernel
def e46:ae "." = ⟨#[46]⟩:=by decide +kernel
seal L2.PE L2.PT L2.PW L2.PA L2.PS L2.PSs L2.PG L2.PGs L2.PI L2.PO
def as4:Sp:=λvs H Q _=>∃n:Nat,vs=[.str (nW n),.int 2]/\n<=64/\∀H',Same H H'->Q (.bl true) H'
def awd:km ZL ZL (kb GM):={}
theorem aui(B:∀x∈qy,mg x=none)(Gn:GS mg "FIGURES" "0123456789")(F:Fun K "is_numeral" "is_numeral" GM f fd):p9 P w K mg base CX0 1 f fd ZL as4:=by
 refine F.ok (k:=0) awd (λvs H Q E h=>?_) λbE A outer s H vs Q E hr h=>?_
 .obtain⟨_,rfl,_⟩:=h;rfl
 obtain⟨n,rfl,hn,q⟩:=h;obtain⟨h1,h2,_⟩:=Cn n hn;have hw:=wdL h2;unfold axc at h1;rw[da,da,da]at h1;obtain⟨⟨⟨l1,l2⟩,hd⟩,h0⟩:=h1;have l1:=of_decide_eq_true l1;have l2:=of_decide_eq_true l2;generalize nW n=z at *;have hl:=mK z;refine⟨_,(j3 (nv (PW.pt<|o6 (k9<|ox qc qc j2 (kq lm rfl (B "len"<|by decide) bb<|j8 (pv 0) jz)<|pv 1)<|oe<|k9<|mq<|kq (ow rfl) rfl (B "all"<|by decide) bP<|j8 (mj Z0 [none] rfl rfl (by decide +kernel) (by decide +kernel) rfl rfl (Ae<|pv 0) (λ_=>(j9 (i:=0) (show(Z0:U PySem.Str).Nodup by decide +kernel) rfl<|Or.inl rfl)) (λ_=>lr) λ_=>(m5 xb (pv 0) (sn Gn rfl) rfl)) jz) (j4<|ke om) ku)
  (j4<|ke<|zV (m5 uf (pv 0) lv<|l4 _)<|o4<|m5 yq (kr Ab (pv 0) j2 λ_ _=>rfl) lv<|l4 _)),?_⟩
 refine(lu _ rfl z ⟨rfl,hw.line,(kl _ _ ⟨rfl,rfl,_,rfl,oy (λ_=>?_) λc=>absurd (decide_eq_true (show(1:Int)<=(z.length:Nat) by lia)) c⟩)⟩);refine(mf _ rfl _ _ rfl rfl _ ⟨rfl,oy (λc=>absurd c<|by rw[decide_eq_true (show((z.length:Nat):Int)<=2 by lia)];decide) λ_=>?_⟩);refine(lu _ rfl z ⟨rfl,λD hD=>?_⟩);refine wu (λi ys H'=>Same H H'/\ys=((z.cps.toList.take i).map λ_=>true).map V.bl) ⟨Same.fresh _ hD,rfl⟩ (λi c ys H' hx hi aQ aV p=>?_) λys H' aQ aV p=>?_
 .obtain⟨p1,rfl⟩:=p;refine⟨Agree.set (Agree.refl _) rfl,?_⟩;dsimp only[sq];refine mh ?_;have hc:=bh.mp hd c<|ah hx;rw[da]at hc;refine(m6 _ rfl _ _ ⟨rfl,rfl,?_⟩);rw[au1 c (of_decide_eq_true hc.2) (of_decide_eq_true hc.1)];refine ng (by lia) aQ aV ⟨p1.new hD,?_⟩;rw[kc (λ_=>true) hx,a7];rfl
 obtain⟨p1,rfl⟩:=p;refine(kl D (z.cps.toList.map λ_=>true) ⟨rfl,by rw[aQ,gu],?_⟩);have ea:((z.cps.toList.map λ_=>true).all id)=true:=by rw[ik];exact bh.mpr λ_ _=>rfl
 rw[ea];refine⟨true,rfl,ny ?_⟩;refine(my _ rfl rfl _ ⟨rfl,oy (λ_=>q _ p1) λdG=>?_⟩);have hz:z≠ae "0":=λe=>dG (by rw[e];exact decide_eq_true rfl);rw[decide_eq_false hz,Bool.false_or]at h0;obtain⟨c0,BC⟩:∃c,z.cps.toList[0]?=some c:=⟨_,aa<|by lia⟩;have n48:c0≠48:=λe=>by
  cases hz:z.cps.toList with
  | nil=>rw[hz]at BC;cases BC
  | cons a t=>
   rw[hz]at BC h0;cases BC;rw[e]at h0;exact absurd h0<|by simp
 refine(nk _ rfl z _ c0 ⟨rfl,rfl,hw.line,mm (j:=0) BC,rfl,?_⟩);have e0:ae "0" = ⟨#[48]⟩:=by decide +kernel
 have ev:decide (V.str ⟨#[c0]⟩=V.str (ae "0"))=false:=decide_eq_false λe=>by
  rw[e0]at e;injection e with e
  injection e with e
  injection e with e
  injection e with e
  exact n48 e
 rw[ev];exact q _ p1
def Hm:Sp:=λvs H Q _=>∃(l:aF)(ws:U Str)(z:Str)(k:Nat),vs=[.ref l,.str z,.int (k:Nat)]/\H l=some (.lst<|(z::ws).map V.str)/\ws.length=k/\k<=6/\(∀x∈z::ws,Wd x)/\∀H',Same H H'->Q (.bl true) H'
def avk:km ZX ZX (kb He):={}
def aua(B:∀x∈qy,mg x=none)(F:Fun K "is_line" "is_line" He f fd):p9 P w K mg base CX0 1 f fd ZX Hm:=by
 refine F.ok (k:=0) avk (λvs H Q E h=>?_) λbE A outer s H vs Q E hr h=>?_
 .obtain⟨_,_,_,_,rfl,_⟩:=h;rfl
 obtain⟨l,ws,z,k,rfl,hl,hk,h6,hw,q⟩:=h;have hu:=hr.units;refine⟨_,(j4<|ke<|oa (m5 uf (kr m9 (pv 0) j2 λ_ _=>rfl) (pv 1)<|l4 _)<|oa (m5 uf (kq kj rfl (B "len"<|by decide) bb<|j8 (pv 0) jz) (m8 o5 j2<|pv 2)<|l4 _)<|o4<|m5 (vc hu) lv (pv 0) rfl),?_⟩;refine(j1 _ rfl l _ _ (.str z) ⟨rfl,rfl,SqL.of hl,mm (j:=0) rfl,(my _ rfl rfl _ ⟨rfl,?_⟩)⟩);rw[decide_eq_true rfl];refine mh ?_;refine(mf _ rfl l _ rfl (.inl<|SqL.of hl) _ ⟨rfl,(kl _ _ ⟨rfl,rfl,rfl,_,rfl,?_⟩)⟩);rw[decide_eq_true (show V.int (((z::ws).map V.str).length:Nat)=V.int (1+(k:Nat)) by rw[ac,ba,hk];congr 1;lia)];refine mh ?_;refine(j1 _ rfl (.str<|ae "") l _ ((z::ws).map PyData.str) ⟨⟨rfl,by decide +kernel⟩,rfl,.inl hl,uz λx hx=>(hw x hx).as,by simp[cy],?_⟩);rw[if_pos rfl,af7 λx hx=>(hw x hx).1];exact q H<|Same.refl _
def aon:Sp:=λvs H Q _=>∃(ss:U Sg)(cN:Str),vs=[.str cN]/\PicOf ss cN/\(∀s∈ss,Ltr s.2.2)/\∀H',Same H H'->Q (.bl true) H'
def scIpic:km ["word","rows"] ["word"] (kb HP):={}
def axg{ss:U Sg}(hl:∀s∈ss,Ltr s.2.2){t l N W:Nat}(n0:0<N):Txt.split (de ⟨#[47]⟩<|qw<|uk ss t l N W) ⟨#[47]⟩=qw (uk ss t l N W):=vo (λe=>by have hs:=ut<|uk ss t l N W;rw[e]at hs;have hs:0=N:=hs;lia) λz hz h=>by
 rcases(uy hl hz).2 47 h with h|h
 .cases h
 .have:=h.1;lia
def ark(B:∀x∈qy,mg x=none)(zH:GS mg "NO_CELL" ".")(vL:Fn P w K mg base "is_sign" 1 Z8 spS)(F:Fun K "is_picture" "is_picture" HP f fd):p9 P w K mg base CX0 2 f fd ["word"] aon:=by
 refine F.ok (k:=1) scIpic (λvs H Q E h=>?_) λbE A outer s H vs Q E hr h=>?_
 .obtain⟨_,_,rfl,_⟩:=h;rfl
 obtain⟨ss,cN,rfl,hp,hl,q⟩:=h;have AT:=hp.wd hl;obtain⟨t,lf,N,W,_,_,n0,lS,w0,yE,rfl⟩:=hp;have hu:=hr.units;have iX:(qw<|uk ss t lf N W).length=N:=ut _;have uI:=λ{z:Str} (h:z∈qw (uk ss t lf N W))=>uy hl h;have E4:=AT.2.1;refine⟨_,(j3 (ma (i:=1) scIpic.nd rfl (Or.inr rfl)<|sw c7 jo jp xu (pv 0)<|j8 lv jz)
  (j3 (nv (PW.pt<|o6 (mi (DW hu) lv (pv 1) rfl)<|oe<|k9<|mq<|kq (ow rfl) rfl (B "all"<|by decide) bP<|j8 (mj ["row","rows"] [none,some 1] rfl rfl (by decide +kernel) (by decide +kernel) rfl rfl (oh<|pv 1) (λ_=>(j9 (i:=0) (show(["row","rows"]:U PySem.Str).Nodup by decide +kernel) rfl<|Or.inl rfl)) (λ_=>lr) λ_=>(m5 uf (kq lm rfl (B "len"<|by decide) bb<|j8 (pv 0) jz) (kq lm rfl (B "len"<|by decide) bb<|j8 (kr IW (pv 1) j2 λ_ _=>rfl) jz)<|l4 _)) jz) (j4<|ke om) ku)
  (j4<|ke<|kq (ow rfl) rfl (B "all"<|by decide) bP<|j8 (mj Z0 [none] rfl rfl (by decide +kernel) (by decide +kernel) rfl rfl (Ae<|sw c7 ia ib yc lv<|j8 (pv 1) jz) (λ_=>(j9 (i:=0) (show(Z0:U PySem.Str).Nodup by decide +kernel) rfl<|Or.inl rfl)) (λ_=>lr) λ_=>(zV (m5 uf (pv 0) (sn zH rfl)<|l4 _)<|o4<|k8 vL hr (by decide) rfl<|j8 (pv 0) jz)) jz))),?_⟩
 refine(my _ rfl rfl _ ⟨47,rfl,by rw[e47],cq<|lc<|by lia,λl yZ=>?_⟩);rw[axg hl n0];generalize qw (uk ss t lf N W)=zs at *;generalize g1:upd H l _=H1 at *;obtain⟨s1,e1⟩:=al yZ g1;clear g1;have E1:∀z∈zs,z.length<=10/\As z:=λz hz=>⟨by rw[(uI hz).1];exact yE,λc hc=>by
  rcases(uI hz).2 c hc with rfl|h
  .decide
  .have:=h.2;lia⟩
 have fD:∀z∈zs,z.length<=aG:=λz hz=>cq (lc<|by have:=(E1 z hz).1;lia);refine(j1 _ rfl (.str<|ae "") l _ (zs.map PyData.str) ⟨⟨rfl,by decide +kernel⟩,rfl,.inl e1,uz λz hz=>(E1 z hz).2,by simp[cy],_,rfl,?_⟩);rw[if_neg (by decide),af7 λz hz=>by rw[(uI hz).1];exact w0];refine ny ?_;obtain⟨z0,lV⟩:∃z,zs[0]?=some z:=⟨_,aa<|by lia⟩;have m0:=ah lV;refine(lu _ rfl l ⟨rfl,⟨_,SqL.of e1⟩,λD hD=>?_⟩);refine ni (xs:=zs.map V.str) (λi ys J=>Same H1 J/\ys=((zs.take i).map λ_=>true).map V.bl) ⟨Same.fresh _ hD,rfl⟩ (λi ys J p=>SqL.of<|p.1 _ _ e1) (λi x ys J hx hi aQ aV p=>?_) λys J aQ aV p=>?_
 .obtain⟨p1,rfl⟩:=p;rw[a6]at hx;obtain⟨z,hz,rfl⟩:=bg.mp hx;have mz:=ah hz;refine⟨Agree.set (Agree.refl _) rfl,?_⟩;dsimp only[sq];refine mh ?_;refine(lu _ rfl z ⟨rfl,fD z mz,(j1 _ rfl l _ _ (.str z0) ⟨rfl,rfl,SqL.of<|p1 _ _ e1,mm (j:=0)<|by rw[a6,lV];rfl,z0,rfl,fD z0 m0,rfl,?_⟩)⟩);rw[decide_eq_true (show V.int (z.length:Nat)=V.int (z0.length:Nat) by rw[(uI mz).1,(uI m0).1])];refine ng (by rw[ac]at hi;lia) aQ aV ⟨p1.new hD,?_⟩;rw[kc (λ_=>true) hz,a7];rfl
 obtain⟨p1,rfl⟩:=p;rw[ac,gu]at aQ;refine(kl D (zs.map λ_=>true) ⟨rfl,aQ,?_⟩);rw[show((zs.map λ_=>true).all id)=true by rw[ik];exact bh.mpr λ_ _=>rfl];refine⟨true,rfl,ny ?_⟩;have e2:=p1 _ _ e1;have e0:(ae "").length=0:=by decide +kernel
 have jQ:=gp (B:=10) zs λz hz=>(E1 z hz).1;refine⟨rfl,(nk _ rfl _ l zs ⟨rfl,rfl,e2,by rw[e0];lia,_,rfl,λD2 cL=>?_⟩)⟩;have hj:∀c∈(Txt.join (ae "") zs).cps.toList,c=46\/Ltr c:=λc hc=>by rw[qu (by decide +kernel)]at hc;obtain⟨x,hx,hcx⟩:=List.mem_flatten.mp hc;obtain⟨z,hz,rfl⟩:=aw.mp hx;exact(uI hz).2 c hcx
 have wP:(Txt.join (ae "") zs).cps.toList.length<=200:=by rw[qu (by decide +kernel),List.length_flatten,gb];have e:(zs.map (List.length∘λz:Str=>z.cps.toList)).sum=(zs.map (·.length)).sum:=congrArg List.sum<|iq λz _=>mK z;rw[e];lia
 generalize Txt.join (ae "") zs=y at *;refine wu (λi ys H'=>Same J H'/\ys=((y.cps.toList.take i).map λ_=>true).map V.bl) ⟨Same.fresh _ cL,rfl⟩ (λi c ys H' hx hi aQ aV p=>?_) λys H' aQ aV p=>?_
 .obtain⟨p2,rfl⟩:=p;refine⟨Agree.set (Agree.refl _) rfl,?_⟩;dsimp only[sq];refine mh ?_;have fin:Nx D2 i (λi ys H'=>Same J H'/\ys=((y.cps.toList.take i).map λ_=>true).map V.bl) (upd H' D2<|.lst<|((y.cps.toList.take i).map λ_=>true).map V.bl++[V.bl true]):=by
   refine⟨_,j5,by rw[be,cv];lia,p2.new cL,?_⟩;rw[kc (λ_=>true) hx,a7];rfl
  refine(my _ rfl rfl _ ⟨rfl,oy (λ_=>⟨_,aQ,lc<|by lia,fin⟩) λdG=>?_⟩);have hL:Ltr c:=by
   rcases hj c (ah hx)with rfl|h
   .exact absurd (by rw[e46];exact decide_eq_true rfl) dG
   .exact h
  refine(lu _ rfl (.str ⟨#[c]⟩) ⟨rfl,(yk (n:=0) (tx1<|by have:=hL.2;lia)).kn,?_⟩);rw[show lB (.str ⟨#[c]⟩)=true by show(decide (65<=c)&&decide (c<=90))=true;rw[decide_eq_true hL.1,decide_eq_true hL.2];rfl];exact⟨_,aQ,lc<|by lia,fin⟩
 obtain⟨p2,rfl⟩:=p;rw[gu]at aQ;refine(kl D2 (y.cps.toList.map λ_=>true) ⟨rfl,aQ,?_⟩);rw[show((y.cps.toList.map λ_=>true).all id)=true by rw[ik];exact bh.mpr λ_ _=>rfl];exact q _<|(s1.trans p1).trans p2
structure Kr where
 z:Str
 l:Nat
 m:Option Nat
 md:Str
 ss:U Sg
noncomputable def mD:Option Nat->Z9
 | none=>.none
 | some j=>.int (j:Nat)
noncomputable def krD(k:Kr):Z9:=.tuple [.str k.z,.int (k.l:Nat),mD k.m,.str k.md,.tuple<|k.ss.map sgD]
structure KrO(k:Kr):Prop where
 nm:NmV k.z
 l64:k.l<=64
 m64:∀j,k.m=some j->j<=64
 md:zf k.md=true
 fs:FrS k.ss
noncomputable def sf(k:Kr)(cN:Str):U Str:=[ae "piece",k.z,nW k.l,zO k.m,k.md,cN]
def auv{z:Str}(h:NmV z):Wd z:=by have h2:(decide (1<=z.length)&&decide (z.length<=8)&&z.cps.toList.all smB)=true:=h.2;rw[da,da]at h2;refine⟨of_decide_eq_true h2.1.1,by have:=of_decide_eq_true h2.1.2;lia,λc hc=>?_⟩;have:=bh.mp h2.2 c hc;unfold smB at this;simp at this;lia
def at5{z:Str}(h:zf z=true):Wd z:=by unfold zf at h;rw[Bool.or_eq_true_iff,Bool.or_eq_true_iff,decide_eq_true_iff,decide_eq_true_iff,decide_eq_true_iff]at h;rcases h with (rfl|rfl)|rfl<;>exact wdL<|by decide +kernel
theorem at2{m:Option Nat}(h:∀j,m=some j->j<=64):Wd (zO m):=by
 cases m with
 | none=>exact wdL (by decide +kernel)
 | some j=>exact wdL (Cn j<|h j rfl).2.1
def HM{k:Kr}(h:KrO k){cN:Str}(hp:PicOf k.ss cN):∀x∈sf k cN,Wd x:=λx hx=>by
 unfold sf at hx;simp only[ap,bz,or_false]at hx;rcases hx with rfl|rfl|rfl|rfl|rfl|rfl
 .exact wdL<|by decide +kernel
 .exact auv h.nm
 .exact wdL (Cn _ h.l64).2.1
 .exact at2 h.m64
 .exact at5 h.md
 .exact hp.wd h.fs.ltr
noncomputable def wsD(ws:U Str):Z9:=.list<|ws.map PyData.str
def B7{H:Hp}{ws:U Str}{v:V}(h:Rep H (wsD ws) v):∃a,v=.ref a/\H a=some (.lst<|ws.map V.str):=by obtain⟨a,xs,rfl,ha,r⟩:=h;exact⟨a,rfl,by rw[<-zg r];exact ha⟩
def agm{α:Type}(l:List α):((l.map λ_=>true).all id)=true:=by rw[ik];exact bh.mpr λ_ _=>rfl
def atm:Sp:=λvs H Q _=>∃(l:aF)(k:Kr)(cN:Str),vs=[.ref l]/\H l=some (.lst<|(sf k cN).map V.str)/\KrO k/\PicOf k.ss cN/\∀H',Same H H'->Q (.bl true) H'
def av5:km Z6 Z6 (kb GZ):={}
theorem aun(DA:GI mg "MOST_FIGURES" 2)(zI:GS mg "ENDLESS" "any")(tK:Fn P w K mg base "is_line" 1 ZX Hm)(Cy:Fn P w K mg base "is_numeral" 1 ZL as4)(CI:Fn P w K mg base "is_picture" 2 ["word"] aon)(F:Fun K "is_piece_line" "is_piece_line" GZ f fd):p9 P w K mg base CX0 3 f fd Z6 atm:=by
 refine F.ok (k:=2) av5 (λvs H Q E h=>?_) λbE A outer s H vs Q E hr h=>?_
 .obtain⟨_,_,_,rfl,_⟩:=h;rfl
 obtain⟨l,k,cN,rfl,hl,ho,hp,q⟩:=h;refine⟨_,(j3 (nv (PW.pt<|o6 (k9<|mq<|k8 tK hr (by decide) rfl<|j8 (pv 0)<|j8 lv<|j8 j2 jz)<|oe<|k9<|mq<|k8 Cy hr (by decide) rfl<|j8 (kr m9 (pv 0) j2 λ_ _=>rfl)<|j8 (rg DA rfl) jz) (j4<|ke om) ku)
  (j4<|ke<|oa (zV (m5 uf (kr m9 (pv 0) j2 λ_ _=>rfl) (sn zI rfl)<|l4 _)<|o4<|k8 Cy hr (by decide) rfl<|j8 (kr m9 (pv 0) j2 λ_ _=>rfl)<|j8 (rg DA rfl) jz)<|o4<|k8 CI hr (by decide) rfl<|j8 (kr m9 (pv 0) j2 λ_ _=>rfl) jz)),?_⟩
 refine(j1 _ rfl l ([k.z,nW k.l,zO k.m,k.md,cN]) (ae "piece") 5 ⟨rfl,hl,rfl,by decide,HM ho hp,λH1 s1=>⟨true,rfl,ny ?_⟩⟩);have l1:=s1 _ _ hl;refine(j1 _ rfl l _ _ (.str<|nW k.l) ⟨rfl,rfl,SqL.of l1,mm (j:=2) rfl,k.l,rfl,ho.l64,λH2 s2=>⟨true,rfl,ny ?_⟩⟩);have l2:=s2 _ _ l1;refine(j1 _ rfl l _ _ (.str<|zO k.m) ⟨rfl,rfl,SqL.of l2,mm (j:=3) rfl,rfl,_,rfl,?_⟩);cases e:k.m with
 | none=>
  refine oy (λ_=>⟨true,rfl,mh ?_⟩) λh=>absurd (decide_eq_true rfl) h;exact(j1 _ rfl l _ _ (.str cN) ⟨rfl,rfl,SqL.of l2,mm (j:=5) rfl,(kl k.ss cN ⟨rfl,hp,ho.fs.ltr,λH3 s3=>q H3<|(s1.trans s2).trans s3⟩)⟩)
 | some j=>
  have hj:=ho.m64 j e;refine oy (λh=>?_) λ_=>?_
  .have:=of_decide_eq_true h;injection this with this
   exact absurd this (Cn j hj).2.2
  .refine(j1 _ rfl l _ _ (.str<|nW j) ⟨rfl,rfl,SqL.of l2,mm (j:=3)<|by unfold sf;rw[e];rfl,j,rfl,hj,λH3 s3=>⟨true,rfl,mh ?_⟩⟩);exact(j1 _ rfl l _ _ (.str cN) ⟨rfl,rfl,SqL.of<|s3 _ _ l2,mm (j:=5) rfl,(kl k.ss cN ⟨rfl,hp,ho.fs.ltr,λH4 s4=>q H4<|((s1.trans s2).trans s3).trans s4⟩)⟩)
def PlL(ks:U Kr)(bF:U (U Str)):Prop:=bF.length=ks.length/\∀(i:Nat) k ws,ks[i]?=some k->bF[i]?=some ws->KrO k/\∃cN,ws=sf k cN/\PicOf k.ss cN
noncomputable def prW(p:Nat×Nat):U Str:=[ae "apart",⟨#[p.1]⟩,⟨#[p.2]⟩]
def ati:Sp:=λvs H Q _=>∃(a p r:aF)(fl:Str)(ks:U Kr) (bF:U (U Str)) (ps:U (Nat×Nat)) (xs ys:U V),vs=[.ref a,.ref p,.ref r]/\H a=some (.lst<|[ae "floor",fl].map V.str)/\Wd fl/\H p=some (.lst xs)/\RepAll H (bF.map wsD) xs/\PlL ks bF/\ks.length<=6/\H r=some (.lst ys)/\RepAll H ((ps.map prW).map wsD) ys/\(∀q∈ps,Ltr q.1/\Ltr q.2)/\ps.length<=3/\∀H',Same H H'->Q (.bl true) H'
def avw:km ZK ZK (kb Ha):={}
def DX{c:Nat}(h:Ltr c):Wd ⟨#[c]⟩:=⟨by show 0<1;decide,by show 1<=120;decide,λx hx=>by
 have e:x=c:=by simpa using hx
 rw[e];exact⟨by have:=h.1;lia,by have:=h.2;lia⟩⟩
def arz{p:Nat×Nat}(h:Ltr p.1/\Ltr p.2):∀x∈prW p,Wd x:=λx hx=>by
 unfold prW at hx;simp only[ap,bz,or_false]at hx;rcases hx with rfl|rfl|rfl
 .exact wdL<|by decide +kernel
 .exact DX h.1
 .exact DX h.2
def ate(B:∀x∈qy,mg x=none)(tK:Fn P w K mg base "is_line" 1 ZX Hm)(Jz:Fn P w K mg base "is_piece_line" 3 Z6 atm)(F:Fun K "are_lines" "are_lines" Ha f fd):p9 P w K mg base CX0 4 f fd ZK ati:=by
 refine F.ok (k:=3) avw (λvs H Q E h=>?_) λbE A outer s H vs Q E hr h=>?_
 .obtain⟨_,_,_,_,_,_,_,_,_,rfl,_⟩:=h;rfl
 obtain⟨a,p,r,fl,ks,bF,ps,xs,ys,rfl,ha,F1,hp,rX,eF,hk6,hR,rY,hL,h3,q⟩:=h;have lx:=rX.length;have ly:=rY.length;rw[ac]at lx;rw[ac,ac]at ly;have lw:=eF.1;refine⟨_,(j3 (nv (k9<|mq<|k8 tK hr (by decide) rfl<|j8 (pv 0)<|j8 lv<|j8 j2 jz) (j4<|ke om) ku)
  (j4<|ke<|oa (kq (ow rfl) rfl (B "all"<|by decide) bP<|j8 (mj Z6 [none] rfl rfl (by decide +kernel) (by decide +kernel) rfl rfl (oh<|pv 1) (λ_=>(j9 (i:=0) (show(Z6:U PySem.Str).Nodup by decide +kernel) rfl<|Or.inl rfl)) (λ_=>lr) λ_=>(k8 Jz hr (by decide) rfl<|j8 (pv 0) jz)) jz)<|o4<|kq (ow rfl) rfl (B "all"<|by decide) bP<|j8 (mj Z6 [none] rfl rfl (by decide +kernel) (by decide +kernel) rfl rfl (oh<|pv 2) (λ_=>(j9 (i:=0) (show(Z6:U PySem.Str).Nodup by decide +kernel) rfl<|Or.inl rfl)) (λ_=>lr) λ_=>(k8 tK hr (by decide) rfl<|j8 (pv 0)<|j8 lv<|j8 j2 jz)) jz)),?_⟩
 refine(j1 _ rfl a ([fl]) (ae "floor") 1 ⟨rfl,ha,rfl,by decide,(λx hx=>?_),λH1 s1=>⟨true,rfl,ny ?_⟩⟩)
 .simp only[ap,bz,or_false]at hx;rcases hx with rfl|rfl
  .exact wdL<|by decide +kernel
  .exact F1
 refine(lu _ rfl p ⟨rfl,⟨_,SqL.of<|s1 _ _ hp⟩,λD hD=>?_⟩);refine ni (xs:=xs) (λi zs J=>Same H1 J/\zs=((xs.take i).map λ_=>true).map V.bl) ⟨Same.fresh _ hD,rfl⟩ (λi zs J p=>SqL.of<|p.1 _ _<|s1 _ _ hp) (λi x zs J hx hi aQ fD pp=>?_) λzs J aQ fD pp=>?_
 .obtain⟨p1,rfl⟩:=pp;obtain⟨d,hd,rd⟩:=rX.at hx;rw[a6]at hd;obtain⟨ws,hws,rfl⟩:=bg.mp hd;obtain⟨ho,cN,rfl,jT⟩:=eF.2 i _ ws (aa<|by lia) hws;obtain⟨b,rfl,hb⟩:=B7<|Rep.same (s1.trans p1) rd;refine⟨Agree.set (Agree.refl _) rfl,?_⟩;dsimp only[sq];refine mh ?_;refine(nk _ rfl b _ cN ⟨rfl,hb,ho,jT,λJ2 s2=>?_⟩);refine ng (by lia) (s2 _ _ aQ) fD ⟨(p1.trans s2).new hD,?_⟩;rw[kc (λ_=>true) hx,a7];rfl
 obtain⟨p1,rfl⟩:=pp;rw[gu]at aQ;refine(kl D (xs.map λ_=>true) ⟨rfl,aQ,?_⟩);rw[agm];refine⟨true,rfl,mh ?_⟩;have C0:=s1.trans p1;refine(lu _ rfl r ⟨rfl,⟨_,SqL.of<|C0 _ _ hR⟩,λD2 cL=>?_⟩);refine ni (xs:=ys) (λi zs J2=>Same J J2/\zs=((ys.take i).map λ_=>true).map V.bl) ⟨Same.fresh _ cL,rfl⟩ (λi zs J p=>SqL.of<|p.1 _ _<|C0 _ _ hR) (λi x zs J2 hx hi aQ fD pp=>?_) λzs J2 aQ fD pp=>?_
 .obtain⟨p2,rfl⟩:=pp;obtain⟨d,hd,rd⟩:=rY.at hx;rw[a6]at hd;obtain⟨ws,hws,rfl⟩:=bg.mp hd;rw[a6]at hws;obtain⟨pq,yV,rfl⟩:=bg.mp hws;obtain⟨b,rfl,hb⟩:=B7<|Rep.same (C0.trans p2) rd;refine⟨Agree.set (Agree.refl _) rfl,?_⟩;dsimp only[sq];refine mh ?_;refine(j1 _ rfl b ([⟨#[pq.1]⟩,⟨#[pq.2]⟩]) (ae "apart") 2 ⟨rfl,hb,rfl,by decide,arz<|hL pq<|ah yV,λJ3 s3=>?_⟩);refine ng (by lia) (s3 _ _ aQ) fD ⟨(p2.trans s3).new cL,?_⟩;rw[kc (λ_=>true) hx,a7];rfl
 obtain⟨p2,rfl⟩:=pp;rw[gu]at aQ;refine(kl D2 (ys.map λ_=>true) ⟨rfl,aQ,?_⟩);rw[agm];exact q _<|C0.trans p2
def aw1:Sp:=λvs H Q _=>∃(ss:U Sg)(cN:Str),vs=[.str cN]/\PicOf ss cN/\FrS ss/\∀(r:aF)(H':Hp),Same H H'->Rep H' (.tuple<|ss.map sgD) (.ref r)->Q (.ref r) H'
def axr:km ["picture"] ["picture"] (kb sRf):={}
theorem av0(zH:GS mg "NO_CELL" ".")(xQ:Fn P w K mg base "floor_spots" 1 ["floor"] alg)(yA:Fn P w K mg base "formed" 1 ["spots"] Hl)(F:Fun K "read_form" "read_form" sRf f fd):p9 P w K mg base CX0 2 f fd ["picture"] aw1:=by
 refine F.ok (k:=1) axr (λvs H Q E h=>?_) λbE A outer s H vs Q E hr h=>?_
 .obtain⟨_,_,rfl,_⟩:=h;rfl
 obtain⟨ss,cN,rfl,hp,hf,q⟩:=h;have hl:=hf.ltr;have E4:=(hp.wd hl).2.1;obtain⟨t,lf,N,W,hN,hW,n0,lS,w0,yE,rfl⟩:=hp;obtain⟨sp,ln,fin⟩:=alz hf (t:=t) (l:=lf) hN hW;have hs6:=hf.fr.1.pre.six;have Da:=hf.fr.1.pre.pos;rw[ac]at hs6 Da;have iX:(qw<|uk ss t lf N W).length=N:=ut _;have nN:PcR (qw<|uk ss t lf N W):=λz hz=>⟨by rw[(uy hl hz).1];exact yE,λc hc=>by
  rcases(uy hl hz).2 c hc with rfl|h
  .decide
  .have:=h.2;lia⟩
 refine⟨_,(j4<|ke<|k8 yA hr (by decide) rfl<|j8 (mj ZZ [none] rfl rfl (by decide +kernel) (by decide +kernel) rfl rfl (oh<|k8 xQ hr (by decide) rfl<|j8 (sw c7 jo jp xu (pv 0)<|j8 lv jz) jz) (λ_=>(j9 (i:=0) (show(ZZ:U PySem.Str).Nodup by decide +kernel) rfl<|Or.inl rfl)) (λ_=>wc<|mi yq (kr pb (pv 0) j2 λ_ _=>rfl) (sn zH rfl)<|l4 _) λ_=>(pv 0)) jz),?_⟩;refine(my _ rfl rfl _ ⟨47,rfl,by rw[e47],cq<|lc<|by lia,λl yZ=>?_⟩);rw[axg hl n0];generalize g1:upd H l _=H1 at *;obtain⟨s1,e1⟩:=al yZ g1;clear g1;refine(kl l _ ⟨rfl,e1,by lia,nN,λD ys H2 s2 hD cD=>?_⟩);rw[iX,abf (uk ss t lf N W) N<|aq _]at cD;have cD:RepAll H2 (yj<|uk ss t lf N W) ys:=cD;have Ft:Spots (yj<|uk ss t lf N W):=λd hd=>by obtain⟨r,c,_,_,rfl⟩:=(agv _ _).mp hd;exact(lq _ _ _ rfl)
 have lrd:(yj<|uk ss t lf N W).length<=100:=by unfold yj;rw[ac,ip];exact Nat.mul_le_mul lS yE
 generalize yj (uk ss t lf N W)=rd at *;have ly:=cD.length;refine⟨D,rfl,⟨_,SqL.of hD⟩,λD2 cL=>?_⟩;refine ni (xs:=ys) (λi zs J=>Same H2 J/\RepAll J ((rd.take i).filter isP) zs) ⟨Same.fresh _ cL,rfl⟩ (λi zs J p=>SqL.of<|p.1 _ _ hD) (λi x zs J hx hi aQ fD pp=>?_) λzs J aQ fD pp=>?_
 .obtain⟨p1,p2⟩:=pp;obtain⟨b,r,c,z,rfl,hb,hz,hd⟩:=Ft.at cD hx;have hbJ:=p1 _ _ hb;have step:(rd.take<|i+1).filter isP=(rd.take i).filter isP++if isP (.tuple [.int r,.int c,.str z])=true then[.tuple [.int r,.int c,.str z]]else[]:=by
   rw[jd,hd,List.filter_append]
   congr 1
   show List.filter isP [_]=_;rw[List.filter_cons,List.filter_nil]
  refine⟨Agree.set (Agree.refl _) rfl,?_⟩;refine(j1 _ rfl b _ _ _ ⟨rfl,rfl,SqT.of hbJ,mm (j:=2) rfl,rfl,_,rfl,?_⟩);rw[e46];refine oy (λhc=>?_) λhc=>?_
  .have hP:isP (.tuple [.int r,.int c,.str z])=true:=by
    show(!decide (z=⟨#[46]⟩))=true;rw[decide_eq_false]
    .rfl
    .rintro rfl;exact absurd hc<|by simp
   refine⟨_,rfl,ng (by lia) aQ fD ⟨p1.new cL,?_⟩⟩;rw[step,if_pos hP];have im:oo ((rd.take i).filter isP++[.tuple [.int r,.int c,.str z]])=true:=Spots.imm λd hd=>by
    rcases bn.mp hd with h|h
    .exact Ft d<|gt (fj.mp h).1
    .rw[ar.mp h];exact(lq _ _ _ rfl)
   exact(p2.snoc<|vn hbJ hz).tk (Tk.lst aQ) im
  .have hP:¬isP (.tuple [.int r,.int c,.str z])=true:=λh=>by
    have h:(!decide (z=⟨#[46]⟩))=true:=h;refine hc ?_;cases lW:decide (z=⟨#[46]⟩)with
    | true=>rw[lW]at h;cases h
    | false=>
     have:=of_decide_eq_false lW;rw[decide_eq_false (λe=>this<|by injection e)];rfl
   refine⟨zs,aQ,by lia,p1,?_⟩;rw[step,if_neg hP,gz];exact p2
 obtain⟨p1,p2⟩:=pp;rw[av (by lia)]at p2;refine(lq D2 zs _ ⟨rfl,.inl aQ,p2,sp,by lia,by lia,λr H9 s9 sG=>?_⟩);rw[fin]at sG;exact q r H9 (((s1.trans s2).trans p1).trans s9) sG
def axf:Sp:=λvs H Q _=>∃(l:aF)(k:Kr)(cN:Str),vs=[.ref l]/\H l=some (.lst<|(sf k cN).map V.str)/\KrO k/\PicOf k.ss cN/\∀(r:aF)(H':Hp),Same H H'->Rep H' (krD k) (.ref r)->Q (.ref r) H'
def scRk:km ["words","most"] Z6 (kb sRk):={}
theorem avn(B:∀x∈qy,mg x=none)(zI:GS mg "ENDLESS" "any")(Frf:Fn P w K mg base "read_form" 2 ["picture"] aw1)(F:Fun K "read_kind" "read_kind" sRk f fd):p9 P w K mg base CX0 3 f fd Z6 axf:=by
 refine F.ok (k:=2) scRk (λvs H Q E h=>?_) λbE A outer s H vs Q E hr h=>?_
 .obtain⟨_,_,_,rfl,_⟩:=h;rfl
 obtain⟨l,k,cN,rfl,hl,ho,hp,q⟩:=h;refine⟨_,(j3 (ma (i:=1) scRk.nd rfl (Or.inl rfl)<|amy (mi uf (kr m9 (pv 0) j2 λ_ _=>rfl) (sn zI rfl)<|l4 _) Ck<|wn y0 rfl (B "int"<|by decide) jy<|j8 (kr m9 (pv 0) j2 λ_ _=>rfl) jz)
  (j4<|ke<|on<|j8 (kr m9 (pv 0) j2 λ_ _=>rfl)<|j8 (wn y0 rfl (B "int"<|by decide) jy<|j8 (kr m9 (pv 0) j2 λ_ _=>rfl) jz)<|j8 (pv 1)<|j8 (kr m9 (pv 0) j2 λ_ _=>rfl)<|j8 (k8 Frf hr (by decide) rfl<|j8 (kr m9 (pv 0) j2 λ_ _=>rfl) jz) jz)),?_⟩
 dsimp only[rn];refine IY (λσ' G=>∃v:V,σ'=[some (.ref l),some v]/\G=H/\∀H',Rep H' (mD k.m) v) ?_ λDh jU rtE=>?_
 case' refine_2=>
  refine(j1 _ rfl l _ _ (.str<|zO k.m) ⟨rfl,rfl,SqL.of hl,mm (j:=3) rfl,rfl,_,rfl,?_⟩);cases e:k.m with
  | none=>
   refine oy (λ_=>?_) λh=>absurd (decide_eq_true rfl) h;exact jU _ _ ⟨_,rfl,rfl,λH'=>by rw[e];exact rfl⟩
  | some j=>
   have hj:=ho.m64 j e;refine oy (λh=>?_) λ_=>?_
   .have:=of_decide_eq_true h;injection this with this
    exact absurd this (Cn j hj).2.2
   .refine(j1 _ rfl l _ _ (.str<|nW j) ⟨rfl,rfl,SqL.of hl,mm (j:=3)<|by unfold sf;rw[e];rfl,(j:Nat),rfl,by lia,by lia,?_⟩);exact jU _ _ ⟨_,rfl,rfl,λH'=>by rw[e];exact rfl⟩
 rintro σ' G ⟨v,rfl,rfl,hv⟩;refine(j1 _ rfl l _ _ (.str k.z) ⟨rfl,rfl,SqL.of hl,mm (j:=1) rfl,(j1 _ rfl l _ _ (.str<|nW k.l) ⟨rfl,rfl,SqL.of hl,mm (j:=2) rfl,(k.l:Nat),rfl,by lia,by have:=ho.l64;lia,(mw _ rfl _ rfl l _ _ ⟨.str k.md,rfl,rfl,SqL.of hl,mm (j:=4) rfl,(j1 _ rfl l _ _ (.str cN) ⟨rfl,rfl,SqL.of hl,mm (j:=5) rfl,(kl k.ss cN ⟨rfl,hp,ho.fs,λr H1 s1 oE=>?_⟩)⟩)⟩)⟩)⟩);refine⟨sZ5,λt ht=>?_⟩;generalize g1:upd H1 t _=H2 at *;obtain⟨s2,e2⟩:=al ht g1;clear g1;refine q t H2 (s1.trans s2)<|nh t _ rfl e2 _ _ rfl ⟨rfl,(auv ho.nm).as.ok⟩ _<|my _ rfl rfl _<|my _ rfl (hv _) _<|my _ rfl ⟨rfl,(at5 ho.md).as.ok⟩ _ ⟨_,rfl,Rep.same s2 oE,rfl⟩
noncomputable def prE(p:Nat×Nat):Z9:=.tuple [.str ⟨#[p.1]⟩,.str ⟨#[p.2]⟩]
structure Tz(zs:U Str)(ks:U Kr)(ps:U (Nat×Nat))(bF:U (U Str)):Prop where
 pz:PzV (.tuple [.tuple (zs.map PyData.str),.tuple<|ks.map krD,.tuple<|ps.map prE])
 rw:Rw menu zs
 k6:ks.length<=6
 pl:PlL ks bF
 ltr:∀q∈ps,Ltr q.1/\Ltr q.2
 p3:ps.length<=3
noncomputable def qk(zs:U Str)(ps:U (Nat×Nat))(bF:U (U Str)):U (U Str):=[ae "floor",de ⟨#[47]⟩ zs]::(bF++ps.map prW)
noncomputable def Aa(zs:U Str)(ps:U (Nat×Nat))(bF:U (U Str)):Str:=de ⟨#[10]⟩<|(qk zs ps bF).map (de ⟨#[32]⟩)
def aty:∀c∈menu.cps.toList,32<c/\c<128/\c≠47:=by decide +kernel
def Rw.row{zs:U Str}(h:Rw menu zs):∀z∈zs,0<z.length/\z.length<=8/\∀c∈z.cps.toList,32<c/\c<128/\c≠47:=λz hz=>by obtain⟨_,_,wd,w0,w8,hw⟩:=h;obtain⟨_,l,m⟩:=hw z hz;exact⟨by lia,by lia,λc hc=>aty c<|m c hc⟩
def DQ{zs:U Str}(h:Rw menu zs):Wd (de ⟨#[47]⟩ zs):=by
 have hr:=Rw.row h;refine⟨ag4 (λe=>by have:=h.1;rw[e]at this;simp at this) λz hz=>(hr z hz).1,?_,λc hc=>?_⟩
 .have:=xi (c:=47) (m:=8) (xs:=zs) λz hz=>(hr z hz).2.1;have h8:=h.2.1;lia
 .rcases zo hc with rfl|⟨z,hz,zD⟩
  .decide
  .exact⟨((hr z hz).2.2 c zD).1,((hr z hz).2.2 c zD).2.1⟩
def Tz.wd{zs:U Str}{ks:U Kr}{ps:U (Nat×Nat)}{bF:U (U Str)}(h:Tz zs ks ps bF):∀ws∈qk zs ps bF,ws≠[]/\ws.length<=6/\∀x∈ws,Wd x:=λws hws=>by
 rcases ap.mp hws with rfl|hws
 .refine⟨by simp,by simp,λx hx=>?_⟩;simp only[ap,bz,or_false]at hx;rcases hx with rfl|rfl
  .exact wdL<|by decide +kernel
  .exact DQ h.rw
 rcases bn.mp hws with hws|hws
 .obtain⟨i,hi⟩:=cj.mp hws;have jV:=(af.mp hi).1;have hl:=h.pl.1;obtain⟨ho,cN,rfl,hp⟩:=h.pl.2 i _ ws (aa<|by lia) hi;exact⟨by simp[sf],by simp[sf],HM ho hp⟩
 .obtain⟨p,hp,rfl⟩:=aw.mp hws;exact⟨by simp[prW],by simp[prW],arz<|h.ltr p hp⟩
def Tz.len{zs:U Str}{ks:U Kr}{ps:U (Nat×Nat)}{bF:U (U Str)}(h:Tz zs ks ps bF):(qk zs ps bF).length<=10:=by have:=h.pl.1;have:=h.k6;have:=h.p3;unfold qk;rw[ba,be,ac];lia
def al8{ws:U Str}(h0:ws≠[])(h:∀x∈ws,Wd x):Txt.split (de ⟨#[32]⟩ ws) ⟨#[32]⟩=ws:=vo h0 λx hx hc=>by have:=((h x hx).2.2 32 hc).1;lia
def Ji{ws:U Str}(h6:ws.length<=6)(h:∀x∈ws,Wd x):(de ⟨#[32]⟩ ws).length<=726:=by have:=xi (c:=32) (m:=120) (xs:=ws) λx hx=>(h x hx).2.1;lia
def amh{zs:U Str}{ks:U Kr}{ps:U (Nat×Nat)}{bF:U (U Str)}(h:Tz zs ks ps bF):Txt.split (Aa zs ps bF) ⟨#[10]⟩=(qk zs ps bF).map (de ⟨#[32]⟩):=by
 refine vo (by simp[qk]) λx hx hc=>?_;obtain⟨ws,hws,rfl⟩:=aw.mp hx;rcases zo hc with h|⟨z,hz,zD⟩
 .cases h
 .have:=(((h.wd ws hws).2.2 z hz).2.2 10 zD).1;lia
def ang{zs:U Str}{ks:U Kr}{ps:U (Nat×Nat)}{bF:U (U Str)}(h:Tz zs ks ps bF):(Aa zs ps bF).length<=7270:=by
 have:=xi (c:=10) (m:=726) (xs:=(qk zs ps bF).map (de ⟨#[32]⟩)) λx hx=>by obtain⟨ws,hws,rfl⟩:=aw.mp hx;exact Ji (h.wd ws hws).2.1 (h.wd ws hws).2.2
 have hl:=h.len;rw[ac]at this;have:(qk zs ps bF).length*727<=10*727:=Nat.mul_le_mul_right _ hl;unfold Aa;lia
def LsJ(J:Hp)(D:aF)(bF:U (U Str))(zs:U V):Prop:=zs.length=bF.length/\∀(i:Nat) v ws,zs[i]?=some v->bF[i]?=some ws->∃l,v=.ref l/\l≠D/\J l=some (.lst<|ws.map V.str)
def LsJ.snoc{J J':Hp}{D l:aF}{bF:U (U Str)}{zs:U V}{ws:U Str}(h:LsJ J D bF zs)(k:∀a o,a≠D->J a=some o->J' a=some o)(n:l≠D)(hl:J' l=some (.lst<|ws.map V.str)):LsJ J' D (bF++[ws]) (zs++[.ref l]):=by
 refine⟨by rw[be,be,h.1];rfl,λi v ws' h1 h2=>?_⟩;by_cases hi:i<zs.length
 .rw[bp hi]at h1;rw[bp (by rw[<-h.1];exact hi)]at h2;obtain⟨l',rfl,n',e⟩:=h.2 i v ws' h1 h2;exact⟨l',rfl,n',k _ _ n' e⟩
 .have gL:=(af.mp h1).1;rw[be,cv]at gL;have e:i=zs.length:=by lia
  subst e;rw[bj (by lia),iz]at h1;rw[h.1,bj<|by lia,iz]at h2;cases h1;cases h2;exact⟨l,rfl,n,hl⟩
theorem aol{J:Hp}{D:aF}:∀{bF:U (U Str)} {zs:U V},LsJ J D bF zs->(∀ws∈bF,∀x∈ws,As x)->RepAll J (bF.map wsD) zs
 | [],zs,h,_=>fb.mp h.1
 | ws::bF,zs,h,ha=>by
  obtain _|⟨v,zs⟩:=zs
  .have:=h.1;simp at this
  obtain⟨l,rfl,_,e⟩:=h.2 0 v ws rfl rfl;refine(kl _ _ ⟨rfl,(kl l _ ⟨rfl,e,uz<|ha ws ak⟩),aol ⟨by have:=h.1;simp at this;exact this,λi v ws h1 h2=>h.2 (i+1) v ws h1 h2⟩ λws hws=>ha ws<|ao _ hws⟩)
noncomputable def hdP(w:Str):Z9->Bool
 | .list (.str z::_)=>decide (z=w)
 | _=>false
theorem ao1(w:Str)(bF:U (U Str)):(bF.map wsD).filter (hdP w)=(bF.filter λws=>decide<|ws.head?=some w).map wsD:=by
 rw[List.filter_map]
 congr 1
 refine List.filter_congr λws _=>?_;cases ws with
 | nil=>rfl
 | cons z t=>
  show decide (z=w)=decide (some z=some w);rw[decide_eq_decide];exact⟨λe=>by rw[e],λe=>cg e⟩
def akn{zs:U Str}{ks:U Kr}{ps:U (Nat×Nat)}{bF:U (U Str)}(h:Tz zs ks ps bF):(qk zs ps bF).filter (λws=>decide<|ws.head?=some (ae "piece"))=bF/\(qk zs ps bF).filter (λws=>decide<|ws.head?=some (ae "apart"))=ps.map prW:=by
 have hw:∀ws∈bF,ws.head?=some (ae "piece"):=λws hws=>by obtain⟨i,hi⟩:=cj.mp hws;have jV:=(af.mp hi).1;have hl:=h.pl.1;obtain⟨ho,cN,rfl,hp⟩:=h.pl.2 i _ ws (aa<|by lia) hi;rfl
 have n1:ae "floor"≠ae "piece":=by decide +kernel
 have n2:ae "floor"≠ae "apart":=by decide +kernel
 have n3:ae "apart"≠ae "piece":=by decide +kernel
 unfold qk;constructor
 .rw[List.filter_cons_of_neg (by simp[n1]),List.filter_append,List.filter_eq_self.mpr λws hws=>decide_eq_true<|hw ws hws,List.filter_eq_nil_iff.mpr,gz];intro ws hws;obtain⟨p,_,rfl⟩:=aw.mp hws;simp[prW,n3]
 .rw[List.filter_cons_of_neg (by simp[n2]),List.filter_append,List.filter_eq_nil_iff.mpr,List.nil_append,List.filter_eq_self.mpr]
  .intro ws hws;obtain⟨p,_,rfl⟩:=aw.mp hws;simp[prW]
  .intro ws hws;rw[hw ws hws];simp[Ne.symm n3]
def Ix(ks:U Kr):oo (ks.map krD)=true:=p6 λd hd=>by
 obtain⟨k,_,rfl⟩:=aw.mp hd;have h1:oo (k.ss.map sgD)=true:=p6 λd hd=>by obtain⟨s,_,rfl⟩:=aw.mp hd;rfl
 have h2:imm (mD k.m)=true:=by cases k.m<;>rfl
 show(true&&(true&&(imm (mD k.m)&&(true&&(oo (k.ss.map sgD)&&true)))))=true;rw[h1,h2];rfl
def ID(ps:U (Nat×Nat)):oo (ps.map prE)=true:=p6 λd hd=>by obtain⟨k,_,rfl⟩:=aw.mp hd;rfl
theorem ag7:∀(bF:U (U Str)),ay (bF.map wsD)<=3
 | []=>by simp[ay]
 | ws::bF=>by
  have h1:=ag7 bF;have h2:∀zs:U Str,ay (zs.map PyData.str)<=1:=λzs=>by
   induction zs with
   | nil=>simp[ay]
   | cons z t ih=>simp[ay,cy];lia
  have:=h2 ws;simp only[dh,ay,wsD,cy];lia
def e32:ae " " = ⟨#[32]⟩:=by decide +kernel
def e10:ae "\n" = ⟨#[10]⟩:=by decide +kernel
def sl1{H:Hp}{ds es fs:U Z9}{xs ys zs:U V}(h:RepAll H ds xs)(h1:RepAll H es ys)(h2:RepAll H fs zs):RepAll H (ds.take 1++es++fs) (xs.take 1++ys++zs):=((RepAll.take 1 h).append h1).append h2
def aa5{X:Cx}{N:U Str}{scope:cF}{z:CZ}:qp (mr X N scope z) (.type "tuple") (λxs H Q=>∃p ys,xs=[.ref p]/\((SqL X.K H p ys/\∀l,H l=none->Q (.ref l) (upd H l<|.tup ys))\/(SqT X.K H p ys/\Q (.ref p) H))):=nq (X:=mr X N scope z)
def aoq:Sp:=λvs H Q _=>∃(zs:U Str)(ks:U Kr) (ps:U (Nat×Nat)) (bF:U (U Str)),vs=[.str (Aa zs ps bF)]/\Tz zs ks ps bF/\
 ∀(r:aF)(H':Hp),Same H H'->Rep H' (.tuple [.tuple (zs.map PyData.str),.tuple<|ks.map krD,.tuple<|ps.map prE]) (.ref r)->Q (.ref r) H'
def scRead:km ["text","lines","pieces","pairs","kinds","puzzle"] ["text"] (kb Ht):={}
theorem ao4(B:∀x∈qy,mg x=none)(JD:Fn P w K mg base "are_lines" 4 ZK ati)(Frk:Fn P w K mg base "read_kind" 3 Z6 axf)(Jw:Fn P w K mg base "is_puzzle" 7 Z8 at7)(F:Fun K "read" "read" Ht f fd):p9 P w K mg base CX0 8 f fd ["text"] aoq:=by
 refine F.ok (k:=7) scRead (λvs H Q E h=>?_) λbE A outer s H vs Q E hr h=>?_
 .obtain⟨_,_,_,_,rfl,_⟩:=h;rfl
 obtain⟨zs,ks,ps,bF,rfl,hT,q⟩:=h;have hu:=hr.units;have aR:=hT.len;have sU:=amh hT;have htl:=ang hT;have AT:=hT.wd;obtain⟨hpi,De⟩:=akn hT;refine⟨_,(j3 (nv (k9<|mq<|kq kh rfl (B "isinstance"<|by decide) bi<|j8 (pv 0)<|j8 (nc (v:=.ty "str") rfl (B "str"<|by decide) cE rfl) jz) (j4 Jc) ku)
  (j3 (sd (i:=1) ["line"] [none] scRead.nd rfl (Or.inl rfl) rfl rfl rfl (by decide +kernel) (by decide +kernel) rfl rfl (oh<|sw c7 jo jp xu (pv 0)<|j8 lv jz) (λ_=>(j9 (i:=0) (show(["line"]:U PySem.Str).Nodup by decide +kernel) rfl<|Or.inl rfl)) (λ_=>lr) λ_=>(asg c7 jo jp xu (pv 0)<|j8 lv jz))
  (j3 (sd (i:=2) Z6 [none] scRead.nd rfl (Or.inl rfl) rfl rfl rfl (by decide +kernel) (by decide +kernel) rfl rfl (oh<|pv 1) (λ_=>(j9 (i:=0) (show(Z6:U PySem.Str).Nodup by decide +kernel) rfl<|Or.inl rfl)) (λ_=>wc<|mi uf (kr IW (pv 0) j2 λ_ _=>rfl) lv<|l4 _) λ_=>(pv 0))
  (j3 (sd (i:=3) Z6 [none] scRead.nd rfl (Or.inl rfl) rfl rfl rfl (by decide +kernel) (by decide +kernel) rfl rfl (oh<|pv 1) (λ_=>(j9 (i:=0) (show(Z6:U PySem.Str).Nodup by decide +kernel) rfl<|Or.inl rfl)) (λ_=>wc<|mi uf (kr IW (pv 0) j2 λ_ _=>rfl) lv<|l4 _) λ_=>(pv 0))
  (j3 (nv (PW.pt<|o6 (mi (aoz hu) (pv 1) (m8 Cg (m8 Cg (vt Cq (pv 1) yf<|yh j2)<|pv 2)<|pv 3)<|l4 _)<|oe<|k9<|mq<|k8 JD hr (by decide) rfl<|j8 (kr m9 (pv 1) j2 λ_ _=>rfl)<|j8 (pv 2)<|j8 (pv 3) jz) (j4 Jc) ku)
  (j3 (ma (i:=4) scRead.nd rfl (Or.inl rfl)<|wn nq rfl (B "tuple"<|by decide) e9<|j8 (mj Z6 [none] rfl rfl (by decide +kernel) (by decide +kernel) rfl rfl (oh<|pv 2) (λ_=>(j9 (i:=0) (show(Z6:U PySem.Str).Nodup by decide +kernel) rfl<|Or.inl rfl)) (λ_=>lr) λ_=>(k8 Frk hr (by decide) rfl<|j8 (pv 0) jz)) jz)
  (j3 (ma (i:=5) scRead.nd rfl (Or.inl rfl)<|on<|j8 (wn nq rfl (B "tuple"<|by decide) e9<|j8 (sw c7 jo jp xu (kr m9 (kr m9 (pv 1) j2 λ_ _=>rfl) j2 λ_ _=>rfl)<|j8 lv jz) jz)<|j8 (pv 4)<|j8 (wn nq rfl (B "tuple"<|by decide) e9<|j8 (mj Z6 [none] rfl rfl (by decide +kernel) (by decide +kernel) rfl rfl (oh<|pv 3) (λ_=>(j9 (i:=0) (show(Z6:U PySem.Str).Nodup by decide +kernel) rfl<|Or.inl rfl)) (λ_=>lr) λ_=>(wn aa5 rfl (B "tuple"<|by decide) e9<|j8 (vt anc (pv 0) (yh j2) yf) jz)) jz) jz)
  (j3 (nv (k9<|mq<|k8 Jw hr (by decide) rfl<|j8 (pv 5) jz) (j4 Jc) ku)
  (j4<|ke<|pv 5))))))))),?_⟩
 generalize hL:qk zs ps bF=L at *;generalize Aa zs ps bF=tx at *;have tl:tx.length+2<=aG:=by rw[gf];lia
 refine(j1 _ rfl (.str tx) ("str") (.type "str") true ⟨rfl,.str tx,rfl,true,rfl,ny ?_⟩);refine(my _ rfl rfl tx ⟨10,rfl,by rw[e10],tl,λl0 yZ=>?_⟩);rw[sU];generalize g1:upd H l0 _=H1 at *;obtain⟨s1,u1⟩:=al yZ g1;clear g1;refine⟨l0,rfl,⟨_,SqL.of u1⟩,λD hD=>?_⟩;refine ni (xs:=(L.map<|de ⟨#[32]⟩).map V.str) (λi ys J=>Same H1 J/\LsJ J D (L.take i) ys) ⟨Same.fresh _ hD,rfl,λi v ws h=>by cases h⟩ (λi ys J p=>SqL.of<|p.1 _ _ u1) (λi x ys J hx hi aQ aV p=>?_) λys J aQ aV p=>?_
 .obtain⟨p1,p2⟩:=p;rw[a6]at hx;obtain⟨z,hz,rfl⟩:=bg.mp hx;rw[a6]at hz;obtain⟨ws,hws,rfl⟩:=bg.mp hz;obtain⟨w0,w6,ww⟩:=AT ws<|ah hws;have wl:=Ji w6 ww;refine⟨Agree.set (Agree.refl _) rfl,?_⟩;dsimp only[sq];refine mh ?_;refine(my _ rfl rfl (de ⟨#[32]⟩ ws) ⟨32,rfl,by rw[e32],cq<|lc<|by lia,λl hl=>?_⟩);rw[al8 w0 ww];generalize g1:upd J l _=J2 at *;obtain⟨s2,u2⟩:=al hl g1;clear g1;have nl:l≠D:=λe=>by rw[e,aQ]at hl;cases hl
  have eZ:i<L.length:=(af.mp hws).1;refine ng (by lia) (s2 _ _ aQ) aV ⟨(p1.trans s2).new hD,?_⟩;rw[jd,hws];exact p2.snoc (λa o ha h=>by rw[kg ha];exact s2 _ _ h) nl<|by rw[kg nl];exact u2
 obtain⟨s2,p2⟩:=p;rw[ac,ac,gu]at p2;have lx:=p2.1;have asL:∀ws∈L,∀x∈ws,As x:=λws hws x hx=>((AT ws hws).2.2 x hx).as;have rX:=aol p2 asL;clear p2 sU tl aV hD;generalize hdD:D=Dl at *;clear hdD D;have sJ:=s1.trans s2;clear s1 s2 u1 yZ;have uW:∀(i:Nat) x,ys[i]?=some x->∃(ws:U Str)(l:aF)(z:Str)(t:U Str),L[i]?=some ws/\ws=z::t/\x=.ref l/\J l=some (.lst<|ws.map V.str):=λi x hx=>by
  obtain⟨d,hd,rd⟩:=rX.at hx;rw[a6]at hd;obtain⟨ws,hws,rfl⟩:=bg.mp hd;obtain⟨l,rfl,hl⟩:=B7 rd;obtain⟨w0,_⟩:=AT ws<|ah hws;cases ws with
  | nil=>exact absurd rfl w0
  | cons z t=>exact(li _ l z t ⟨hws,rfl,rfl,hl⟩)
 refine(lu _ rfl Dl ⟨rfl,⟨_,SqL.of aQ⟩,λD2 cL=>?_⟩);refine ni (xs:=ys) (λi zs W=>Same J W/\zs=mJ (hdP<|ae "piece") (L.map wsD) ys i) ⟨Same.fresh _ cL,rfl⟩ (λi zs W p=>SqL.of<|p.1 _ _ aQ) (λi x zs W hx hi Gd fD p=>?_) λzs W Gd fD p=>?_
 .obtain⟨p1,rfl⟩:=p;obtain⟨_,l,z,t,hws,rfl,rfl,hl⟩:=uW i x hx;refine⟨Agree.set (Agree.refl _) rfl,?_⟩;refine(j1 _ rfl l _ _ (.str z) ⟨rfl,rfl,SqL.of<|p1 _ _ hl,mm (j:=0) rfl,rfl,_,rfl,?_⟩);refine au0 (by lia) (by rw[a6,hws];rfl) hx Gd fD p1 (p1.new cL) ?_ λQ h=>⟨_,rfl,h⟩;show decide (z=_)=decide (V.str z=V.str _);rw[decide_eq_decide];exact⟨λe=>by rw[e],λe=>by injection e⟩
 obtain⟨s2,rfl⟩:=p;have rP:=(IX (hdP<|ae "piece") rX).same s2;rw[ao1,hpi]at rP;generalize mJ (hdP<|ae "piece") (L.map wsD) ys ys.length=px at *;have BK:=s2 _ _ aQ;refine(lu _ rfl Dl ⟨rfl,⟨_,SqL.of BK⟩,λD3 qY=>?_⟩);refine ni (xs:=ys) (λi zs W'=>Same W W'/\zs=mJ (hdP<|ae "apart") (L.map wsD) ys i) ⟨Same.fresh _ qY,rfl⟩ (λi zs W' p=>SqL.of<|p.1 _ _ BK) (λi x zs W' hx hi jA fD p=>?_) λzs W' jA fD p=>?_
 .obtain⟨p1,rfl⟩:=p;obtain⟨_,l,z,t,hws,rfl,rfl,hl⟩:=uW i x hx;refine⟨Agree.set (Agree.refl _) rfl,?_⟩;refine(j1 _ rfl l _ _ (.str z) ⟨rfl,rfl,SqL.of<|p1 _ _<|s2 _ _ hl,mm (j:=0) rfl,rfl,_,rfl,?_⟩);refine au0 (by lia) (by rw[a6,hws];rfl) hx jA fD p1 (p1.new qY) ?_ λQ h=>⟨_,rfl,h⟩;show decide (z=_)=decide (V.str z=V.str _);rw[decide_eq_decide];exact⟨λe=>by rw[e],λe=>by injection e⟩
 obtain⟨s3,rfl⟩:=p;have rA:=(IX (hdP<|ae "apart") rX).same (s2.trans s3);rw[ao1,De]at rA;generalize mJ (hdP<|ae "apart") (L.map wsD) ys ys.length=ax at *;have CY:=s2.trans s3;have wO:=CY _ _ aQ;have uL:=s3 _ _ Gd;have rX3:=rX.same CY;have rP3:=rP.same s3;have sW:=sJ.trans CY;have lpx:=rP.length;have lax:=rA.length;rw[ac]at lpx lax;rw[ac]at lax;have hk6:=hT.k6;have eF:=hT.pl.1;have Fx:=hT.p3;clear rP fD;refine(lu _ rfl _ ⟨rfl,aou<|m6 _ rfl Dl ys ⟨rfl,SqL.of wO,λS1 Du=>?_⟩⟩);generalize g1:upd W' S1 _=W1 at *;obtain⟨s4,u4⟩:=al Du g1;clear g1;have u4:W1 S1=some (.lst<|lA ys none<|some ((1:Nat):Int)):=u4;rw[aoa (by rw[lx,<-hL];simp[qk])]at u4;refine(j1 _ rfl S1 D2 _ _ ⟨rfl,rfl,u4,s4 _ _ uL,cq<|lc<|by rw[c8];lia,λS2 Ds=>?_⟩);generalize g1:upd W1 S2 _=W2 at *;obtain⟨s5,u5⟩:=al Ds g1;clear g1;refine(j1 _ rfl S2 D3 _ _ ⟨rfl,rfl,u5,(s4.trans s5) _ _ jA,cq<|lc<|by rw[be,c8];lia,λS3 hS3=>?_⟩);generalize g1:upd W2 S3 _=W3 at *;obtain⟨s6,u6⟩:=al hS3 g1;clear g1;have nJ:=(s4.trans s5).trans s6;have r1:Rep W3 (.list<|L.map wsD) (.ref Dl):=(kl Dl _ ⟨rfl,nJ _ _ wO,rX3.same nJ⟩);have eL:L.map wsD=(L.map wsD).take 1++bF.map wsD++(ps.map prW).map wsD:=by rw[<-hL];unfold qk;rw[dh,a7];rfl
 have r2:Rep W3 (.list<|L.map wsD) (.ref S3):=(kl S3 _ ⟨rfl,u6,by rw[eL];exact(sl1 rX3 rP3 rA).same nJ⟩);refine(kl _ _ ⟨r1,r2,by have:=ag7 L;simp[cy];lia,_,rfl,?_⟩);refine oy (λh=>absurd h<|by rw[if_pos rfl,SeqAt.eqv_refl _ r1.lay];decide) λ_=>?_;have Bp:=nJ _ _ wO;obtain⟨x0,E7⟩:∃x,ys[0]?=some x:=⟨_,aa<|by rw[lx,<-hL];simp[qk]⟩;obtain⟨_,lf,_,_,AS,_,rfl,hlf⟩:=uW 0 x0 E7;rw[<-hL]at AS;cases (show[ae "floor",de ⟨#[47]⟩ zs]=_ from cg AS);have s26:=CY.trans nJ;have Bn:=s26 _ _ hlf;have rP6:=rP3.same nJ;have rA6:=rA.same nJ;refine(j1 _ rfl Dl _ _ (.ref lf) ⟨rfl,rfl,SqL.of Bp,mm (j:=0) E7,(mw _ rfl _ rfl lf D2 D3<|me (de ⟨#[47]⟩ zs) ks bF ps px ⟨ax,rfl,Bn,DQ hT.rw,nJ _ _ uL,rP6,hT.pl,hk6,nJ _ _ jA,rA6,hT.ltr,Fx,λW4 s7=>⟨true,rfl,ny ?_⟩⟩)⟩);have s47:=nJ.trans s7;have hP7:=s47 _ _ uL;have rP7:=rP6.same s7;refine(lu _ rfl D2 ⟨rfl,⟨_,SqL.of hP7⟩,λD4 xB=>?_⟩);refine ni (xs:=px) (λi zs Y=>Same W4 Y/\RepAll Y ((ks.take i).map krD) zs) ⟨Same.fresh _ xB,rfl⟩ (λi zs Y p=>SqL.of<|p.1 _ _ hP7) (λi x Ek Y hx hi Gf fD p=>?_) λkz Y Gf fD p=>?_
 .obtain⟨p1,p2⟩:=p;obtain⟨d,hd,rd⟩:=rP7.at hx;rw[a6]at hd;obtain⟨ws,hws,rfl⟩:=bg.mp hd;have hki:=aa (show i<ks.length by lia);obtain⟨ho,cN,rfl,jT⟩:=hT.pl.2 i _ ws hki hws;obtain⟨b,rfl,hb⟩:=B7<|Rep.same p1 rd;refine⟨Agree.set (Agree.refl _) rfl,?_⟩;dsimp only[sq];refine mh ?_;refine(nk _ rfl b _ cN ⟨rfl,hb,ho,jT,λr Y2 s8 rp=>?_⟩);have qX:=s8 _ _ Gf;refine ng (by lia) qX fD ⟨(p1.trans s8).new xB,?_⟩;have im:=Ix<|ks.take<|i+1;rw[kc krD hki]at im⊢;exact((p2.same s8).snoc rp).tk (Tk.lst qX) im
 obtain⟨s8,p2⟩:=p;rw[av (by lia)]at p2;refine(kl D4 kz ⟨rfl,.inl ⟨SqL.of Gf,λkt hkt=>?_⟩⟩);generalize g1:upd Y kt _=Y1 at *;obtain⟨s9,u9⟩:=al hkt g1;clear g1;have EA:=(s7.trans s8).trans s9;have wN:=EA _ _ Bp;have FT:=EA _ _ Bn;have hzs:=Rw.row hT.rw;have fw:=DQ hT.rw;refine(j1 _ rfl Dl _ _ (.ref lf) ⟨rfl,rfl,SqL.of wN,mm (j:=0) E7,(li lf _ _ (.str<|de ⟨#[47]⟩ zs) ⟨rfl,rfl,SqL.of FT,mm (j:=1) rfl,rfl,(kl _ 47 ⟨rfl,by rw[e47],cq (lc<|by have:=fw.2.1;lia),λsl iX=>?_⟩)⟩)⟩);rw[vo (λe=>by have:=hT.rw.1;rw[e]at this;simp at this) λz hz hc=>((hzs z hz).2.2 47 hc).2.2 rfl];generalize g1:upd Y1 sl _=Y2 at *;obtain⟨sA,uA⟩:=al iX g1;clear g1;refine(kl sl _ ⟨rfl,.inl ⟨SqL.of uA,λft hft=>?_⟩⟩);generalize g1:upd Y2 ft _=Y3 at *;obtain⟨sB,uB⟩:=al hft g1;clear g1;have Ez:=(EA.trans sA).trans sB;have hA3:=Ez _ _<|nJ _ _ jA;have rA3:=rA6.same Ez;refine(uv _ rfl _ rfl D3 ⟨rfl,⟨_,SqL.of hA3⟩,λD5 qX=>?_⟩);refine ni (xs:=ax) (λi zs Z=>Same Y3 Z/\RepAll Z ((ps.take i).map prE) zs) ⟨Same.fresh _ qX,rfl⟩ (λi zs Z p=>SqL.of<|p.1 _ _ hA3) (λi x Ek Z hx hi Ge fD p=>?_) λaz Z Ge fD p=>?_
 .obtain⟨p1,p2⟩:=p;obtain⟨d,hd,rd⟩:=rA3.at hx;rw[a6]at hd;obtain⟨ws,hws,rfl⟩:=bg.mp hd;rw[a6]at hws;obtain⟨pq,yV,rfl⟩:=bg.mp hws;obtain⟨b,rfl,hb⟩:=B7<|Rep.same p1 rd;have hq:=hT.ltr pq<|ah yV;refine⟨Agree.set (Agree.refl _) rfl,?_⟩;dsimp only[sq];refine mh ?_;refine(lu _ rfl _ ⟨rfl,aou<|kl b _ ⟨rfl,SqL.of hb,λS hS=>?_⟩⟩);generalize g1:upd Z S _=Z2 at *;obtain⟨t1,v1⟩:=al hS g1;clear g1;have v1:Z2 S=some (.lst<|lA ((prW pq).map V.str) (some ((1:Nat):Int)) none):=v1;rw[am7 (by simp[prW])]at v1;refine(kl S _ ⟨rfl,.inl ⟨SqL.of v1,λt ht=>?_⟩⟩);generalize g1:upd Z2 t _=Z3 at *;obtain⟨t2,v2⟩:=al ht g1;clear g1;have Dx:=(t1.trans t2) _ _ Ge;refine ng (by lia) Dx fD ⟨(p1.trans<|t1.trans t2).new qX,?_⟩;have im:=ID<|ps.take<|i+1;rw[kc prE yV]at im⊢;have rN:Rep Z3 (prE pq) (.ref t):=(nh t _ rfl v2 _ _ rfl ⟨rfl,(DX hq.1).as.ok⟩ _ ⟨_,rfl,⟨rfl,(DX hq.2).as.ok⟩,rfl⟩);exact((p2.same<|t1.trans t2).snoc rN).tk (Tk.lst Dx) im
 obtain⟨sC,p3⟩:=p;rw[av (by lia)]at p3;refine(kl D5 az ⟨rfl,.inl ⟨SqL.of Ge,λiH mY=>?_⟩⟩);generalize g1:upd Z iH _=Z1 at *;obtain⟨sD,uD⟩:=al mY g1;clear g1;refine⟨sZ3,λpz A7=>?_⟩;generalize g1:upd Z1 pz _=Z2 at *;obtain⟨sE,uE⟩:=al A7 g1;clear g1;have CW:=(sC.trans sD).trans sE;have s9B:=(s9.trans sA).trans sB;have rF:Rep Z2 (.tuple [.tuple (zs.map PyData.str),.tuple<|ks.map krD,.tuple<|ps.map prE]) (.ref pz):=(nh pz _ rfl uE _ _ rfl (kl ft _ ⟨rfl,CW _ _ uB,uz λz hz c hc=>((hzs z hz).2.2 c hc).2.1⟩) _<|my _ rfl (kl kt _ ⟨rfl,((sA.trans sB).trans CW) _ _ u9,p2.same<|s9B.trans CW⟩) _ ⟨_,rfl,(kl iH _ ⟨rfl,sE _ _ uD,p3.same<|sD.trans sE⟩),rfl⟩);refine(lu _ rfl (.ref pz) ⟨rfl,ar7 hT.pz rF,λb Z3 sF hb=>⟨b,rfl,?_⟩⟩);have hb:=hb.mpr<|ao0 hT.pz rF;subst hb;refine ny ⟨_,rfl,q pz Z3 ((((sW.trans nJ).trans Ez).trans CW).trans sF)<|Rep.same sF rF⟩
noncomputable def sZ(r c:Int):U Key:=[Sum.inl r,Sum.inl c]
def al3{r c r' c':Int}(h:sZ r c=sZ r' c'):r=r'/\c=c':=by
 unfold sZ at h;injection h with h1 h2
 injection h2 with h2 _
 exact⟨Sum.inl.inj h1,Sum.inl.inj h2⟩
noncomputable def chV(c:Nat):V:=.str ⟨#[c]⟩
theorem ai7(ws:U Nat):Txt.join (ae "") (ws.map λc=>(⟨#[c]⟩:Str))=⟨ws.toArray⟩:=by
 refine Co ?_;rw[qu (by decide +kernel),gb];show((ws.map λc=>[c])).flatten=_;induction ws with
 | nil=>rfl
 | cons a t ih=>rw[dh,List.flatten_cons,ih];simp
def awx{H:Hp}{ss:U Sg}{xs:U V}{i:Nat}{x:V}(cD:RepAll H (ss.map sgD) xs)(hx:xs[i]?=some x):∃s b,ss[i]?=some s/\x=.ref b/\H b=some (.tup [.int (s.1:Nat),.int (s.2.1:Nat),.str ⟨#[s.2.2]⟩]):=by obtain⟨d,hd,rd⟩:=cD.at hx;rw[a6]at hd;obtain⟨s,hs,rfl⟩:=bg.mp hd;obtain⟨b,bx,rfl,hb,x1,r1,e1,q1,x2,r2,e2,q2,x3,r3,e3,⟨q3,_⟩,e4⟩:=rd;subst e4 e3 e2 e1 q3;cases (show x1=_ from q1);cases (show x2=_ from q2);exact(kl s b ⟨hs,rfl,hb⟩)
theorem Cj:∀(m:Nat)(l:U Int),(∀k:Nat,k<m->((k:Nat):Int)∈l)->m<=l.length
 | 0,_,_=>dv _
 | m+1,l,h=>by have hm:=h m<|ir m;have:=Cj m (l.erase (m:Nat)) λk hk=>(List.mem_erase_of_ne<|by lia).mpr (h k<|by lia);rw[List.length_erase_of_mem hm]at this;have:=List.length_pos_of_mem hm;lia
theorem aw3{S:U Cl}(h:Conn S)(g:Cl->Int)(hg:∀a b,Tch a b->g b<=g a+1)(h0:∃a∈S,g a=0):∀a∈S,g a<S.length:=λa ha=>dg λhn=>by
 have:=Cj (S.length+1) (S.map g) λk hk=>by
  cases k with
  | zero=>
   obtain⟨b,hb,e⟩:=h0;exact aw.mpr ⟨b,hb,e⟩
  | succ k=>
   refine dg λgX=>?_;obtain⟨b,hb,e⟩:=h0;have:=h (λc=>g c<=(k:Nat)) ⟨b,hb,by rw[e];lia⟩ (λc d _ hd hc ht=>by have h1:=hg c d ht;have h2:g d≠((k+1:Nat):Int):=λe=>gX<|aw.mpr ⟨d,hd,e⟩;lia) a ha
   lia
 rw[ac]at this;lia
def awm{ss:U Sg}(h:FrS ss):∀s∈ss,s.1<6/\s.2.1<6:=λs hs=>by
 have p:=h.fr.1.pre;have h6:=p.six;have hp:=p.pos;rw[ac]at h6 hp;have m:=b9 (f:=cl)<|b9 (f:=sgD) hs;have z:∀(f:Z9->Int),x9 ((ss.map sgD).map f)=0->∃d∈ss.map sgD,f d=0:=λf e=>by have:=vv (ns:=(ss.map sgD).map f) (by rw[ac,ac];exact hp);rw[e]at this;exact aw.mp this
 obtain⟨d1,kX,e1⟩:=z v7 h.fr.1.r0;obtain⟨d2,qV,e2⟩:=z wg h.fr.1.c0;have a1:=aw3 p.con (·.1) (λa b t=>by unfold Tch at t;lia) ⟨_,b9 kX,e1⟩ _ m;have a2:=aw3 p.con (·.2) (λa b t=>by unfold Tch at t;lia) ⟨_,b9 qV,e2⟩ _ m;rw[ac,ac]at a1 a2;have a1:((s.1:Nat):Int)<(ss.length:Nat):=a1;have a2:((s.2.1:Nat):Int)<(ss.length:Nat):=a2;lia
def an8:Sp:=λvs H Q _=>∃(fr mo:aF)(xs:U V)(ss:U Sg)(t l d r:Nat),vs=[.ref fr,.ref mo]/\H fr=some (.tup xs)/\RepAll H (ss.map sgD) xs/\FrS ss/\H mo=some (.lst [.int (t:Nat),.int (l:Nat),.int (d:Nat),.int (r:Nat)])/\t<=2/\l<=2/\d<=2/\r<=2/\
 ∀(cN:Str)(H':Hp),Same H H'->PicOf ss cN->Q (.str cN) H'
def scLpic:km ["_law_form","_law_more","_law_top","_law_left","_law_down","_law_right","_law_high","_law_wide","_law_signs_here","_law_row","_law_column","_law_sign","_law_rows"] ZE (kb HH):={}
def ap1(B:∀x∈qy,mg x=none)(F:Fun K "_law_picture" "_law_picture" HH f fd):p9 P w K mg base CX0 1 f fd ZE an8:=by
 refine F.ok (k:=0) scLpic (λvs H Q E h=>?_) λbE A outer s H vs Q E hr h=>?_
 .obtain⟨_,_,_,_,_,_,_,_,rfl,_⟩:=h;rfl
 obtain⟨fr,mo,xs,ss,t,l,d,r,rfl,qS,cD,hf,Bj,t2,l2,d2,r2,q⟩:=h;have h6:=awm hf;have hu:=hr.units;have fG:Spots (ss.map sgD):=hf.fr.1.pre.spots;have hs6:=hf.fr.1.pre.six;have Da:=hf.fr.1.pre.pos;have lx:=cD.length;have hll:(ss.map sgD).length=ss.length:=ac _;refine⟨_,(j3 (Ac (pv 1)<|ar2 (n:=4) rfl<|k7 (j9 (i:=2) scLpic.nd rfl<|Or.inl rfl)<|k7 (j9 (i:=3) scLpic.nd rfl<|Or.inl rfl)<|k7 (j9 (i:=4) scLpic.nd rfl<|Or.inl rfl)<|k7 (j9 (i:=5) scLpic.nd rfl<|Or.inl rfl) qm)
  (j3 (ma (i:=6) scLpic.nd rfl (Or.inl rfl)<|m8 o5 (kq (aeh rfl) rfl (B "max"<|by decide) iR<|j8 (mj Z5 [none] rfl rfl (by decide +kernel) (by decide +kernel) rfl rfl (Af<|pv 0) (λ_=>(j9 (i:=0) (show(Z5:U PySem.Str).Nodup by decide +kernel) rfl<|Or.inl rfl)) (λ_=>lr) λ_=>(kr pb (pv 0) j2 λ_ _=>rfl)) jz) j2)
  (j3 (ma (i:=7) scLpic.nd rfl (Or.inl rfl)<|m8 o5 (kq (aeh rfl) rfl (B "max"<|by decide) iR<|j8 (mj Z5 [none] rfl rfl (by decide +kernel) (by decide +kernel) rfl rfl (Af<|pv 0) (λ_=>(j9 (i:=0) (show(Z5:U PySem.Str).Nodup by decide +kernel) rfl<|Or.inl rfl)) (λ_=>lr) λ_=>(kr pb (pv 0) j2 λ_ _=>rfl)) jz) j2)
  (j3 (ma (i:=8) scLpic.nd rfl (Or.inr rfl) anp)
  (j3 (qt cx rfl (Af<|pv 0) (wa (n:=3) rfl<|k7 (j9 (i:=9) scLpic.nd rfl<|Or.inr rfl)<|k7 (j9 (i:=10) scLpic.nd rfl<|Or.inl rfl)<|k7 (j9 (i:=11) scLpic.nd rfl<|Or.inl rfl) qm)<|j4<|apn (Nat.lt_of_le_of_lt (Nat.add_le_add_left (by decide) _) hu) (pv 8) (on<|j8 (pv 9)<|j8 (pv 10) jz) (pv 11) rfl)
  (j3 (ma (i:=12) scLpic.nd rfl (Or.inl rfl)<|ou jz)
  (j3 (qt cx rfl (DO rfl (B "range"<|by decide)<|j8 (m8 tq j2<|pv 2)<|j8 (m8 o5 (pv 6)<|pv 4) jz) (j9 (i:=9) scLpic.nd rfl<|Or.inr rfl)<|j4<|uo<|sw fc eu e8 pk (pv 12)<|j8 (sw c7 ia ib yc lv<|j8 (mj Zz [none,some 8,some 9] rfl rfl (by decide +kernel) (by decide +kernel) rfl rfl (DO rfl (B "range"<|by decide)<|j8 (m8 tq j2<|pv 3)<|j8 (m8 o5 (pv 7)<|pv 5) jz) (λ_=>(j9 (i:=0) (show(Zz:U PySem.Str).Nodup by decide +kernel) rfl<|Or.inl rfl)) (λ_=>lr) λ_=>(amo (Nat.lt_of_le_of_lt (Nat.add_le_add_left (by decide) _) hu) (pv 1) (on<|j8 (pv 2)<|j8 (pv 0) jz) lv ⟨rfl,rfl,rfl,rfl⟩)) jz) jz)
  (j4<|ke<|sw c7 ia ib yc lv<|j8 (pv 12) jz)))))))),?_⟩
 refine(wm _ rfl mo _ rfl (SqL.of Bj) rfl _ _ ⟨rfl,(kl _ _ ⟨rfl,(kl _ _ ⟨rfl,(kl _ _ ⟨rfl,rfl,?_⟩)⟩)⟩)⟩);refine vp 0 v7 Iz rfl (.inr qS) cD fG (by lia) λD1 H1 s1 qZ=>?_;refine(kl D1 _ ⟨rfl,qZ,by rw[ac];exact Da,λM1 m1 tY=>(kl _ _ ⟨rfl,rfl,?_⟩)⟩);refine vp 1 wg HV rfl (.inr<|s1 _ _ qS) (cD.same s1) fG (by lia) λD2 H2 s2 cL=>?_;refine(kl D2 _ ⟨rfl,cL,by rw[ac];exact Da,λM2 m2 tX=>(kl _ _ ⟨rfl,rfl,?_⟩)⟩);obtain⟨R,rfl,hR6,hRm⟩:∃R:Nat,M1=(R:Nat)/\R<6/\∀s∈ss,s.1<=R:=by obtain⟨d,hd,e⟩:=aw.mp m1;obtain⟨s,hs,rfl⟩:=aw.mp hd;refine⟨s.1,e.symm,(h6 s hs).1,λs' kR=>?_⟩;have:=tY (v7<|sgD s')<|b9<|b9 kR;rw[<-e]at this;have:((s'.1:Nat):Int)<=(s.1:Nat):=this;lia
 obtain⟨C,rfl,hC6,hCm⟩:∃R:Nat,M2=(R:Nat)/\R<6/\∀s∈ss,s.2.1<=R:=by obtain⟨d,hd,e⟩:=aw.mp m2;obtain⟨s,hs,rfl⟩:=aw.mp hd;refine⟨s.2.1,e.symm,(h6 s hs).2,λs' kR=>?_⟩;have:=tX (wg<|sgD s')<|b9<|b9 kR;rw[<-e]at this;have:((s'.2.1:Nat):Int)<=(s.2.1:Nat):=this;lia
 have cT:=s1.trans s2;clear m1 tY m2 tX qZ cL;intro tk uH;generalize g1:upd H2 tk _=H3 at *;obtain⟨s3,u3⟩:=al uH g1;clear g1;have sA:=cT.trans s3;have htH:=cT.free uH;refine(lu _ rfl fr ⟨rfl,.inr ⟨⟨_,SqT.of<|sA _ _ qS⟩,?_⟩⟩);refine Ed (xs:=xs) (λi σ' G=>∃(y9 y10 y11:Option V) (aP:U (U Key×V)),σ'=[some (.ref fr),some<|.ref mo,some<|.int (t:Nat),some<|.int (l:Nat),some<|.int (d:Nat),some<|.int (r:Nat),some<|.int<|(R:Nat)+1,some<|.int<|(C:Nat)+1,some<|.ref tk,y9,y10,y11,none]/\Same H G/\G tk=some (.dT aP)/\aP.length<=i/\∀r c,hZ aP (sZ r c)=(look (ss.take i) r c).map chV) ?_ (λi σ' G hi hI=>?_) (λi x σ' G hx hI=>?_) λσ' G hI=>?_
 .exact(li _ _ _ ([]) ⟨rfl,sA,u3,aq _,λr c=>rfl⟩)
 .obtain⟨_,_,_,_,_,sg,_⟩:=hI;exact SqT.of<|sg _ _ qS
 .obtain⟨y9,y10,y11,aP,rfl,sg,hk,pF,hv⟩:=hI;obtain⟨s',b,hs,rfl,hb⟩:=awx (cD.same sg) hx;have hi:i<xs.length:=(af.mp hx).1;refine(nw b _ rfl (SqT.of hb) rfl _ _ rfl _<|m6 _ rfl _ _ ⟨rfl,rfl,?_⟩);refine(uv _ rfl _ rfl _ ⟨rfl,_,rfl,sZ2,λt9 ht9=>?_⟩);generalize g1:upd G t9 _=G2 at *;obtain⟨s9,c9⟩:=al ht9 g1;clear g1;have c9:G2 t9=some (.tup<|(sZ (s'.1:Nat) (s'.2.1:Nat)).map kV):=c9;refine(kl tk _ ⟨rfl,DPut.t (k:=sZ (s'.1:Nat) (s'.2.1:Nat)) (s9 _ _ hk) c9<|lc<|by lia,?_⟩);refine(li _ _ _ _ ⟨rfl,(sg.trans s9).new htH,j5,?_,λr c=>?_⟩)
  .have:=wq aP (sZ (s'.1:Nat) (s'.2.1:Nat))<|V.str ⟨#[s'.2.2]⟩;lia
  .rw[jd,hs,amc];show _=(look (ss.take i++[s']) r c).map chV;rw[ajs];by_cases e:r=(s'.1:Nat)/\c=(s'.2.1:Nat)
   .rw[if_pos e,if_pos<|by rw[e.1,e.2]];rfl
   .rw[if_neg e,if_neg λz=>e<|al3 z];exact hv r c
 obtain⟨y9,y10,y11,aP,rfl,sg,hk,pF,hv⟩:=hI;rw[av (by lia)]at hv;refine⟨sZ0,λD hD=>?_⟩;generalize g1:upd G D _=G1 at *;obtain⟨s4,u4⟩:=al hD g1;clear g1;have hDH:=sg.free hD;have nD:tk≠D:=λe=>by rw[e,hD]at hk;cases hk
 have eN:((R:Nat):Int)+1+(d:Nat)-(0-(t:Nat))=((t+(R+1)+d:Nat):Int):=by lia
 have eW:((C:Nat):Int)+1+(r:Nat)-(0-(l:Nat))=((l+(C+1)+r:Nat):Int):=by lia
 refine(mf _ rfl _ _ rfl rfl _ ⟨rfl,(m6 _ rfl _ _ ⟨rfl,rfl,?_⟩)⟩);refine(kl _ _ ⟨rfl,⟨by lia,by lia,by lia,by lia⟩,?_⟩);rw[eN,gh];have hM:∀r' c',(uk ss t l (t+(R+1)+d)<|l+(C+1)+r).g r' c'=pch ss ((r':Nat)-(t:Nat)) ((c':Nat)-(l:Nat)):=λ_ _=>rfl;have hMh:(uk ss t l (t+(R+1)+d)<|l+(C+1)+r).h=t+(R+1)+d:=rfl;have Gc:(uk ss t l (t+(R+1)+d)<|l+(C+1)+r).w=l+(C+1)+r:=rfl;have jT:PicOf ss (de ⟨#[47]⟩<|qw<|uk ss t l (t+(R+1)+d)<|l+(C+1)+r):=(li t l _ _ ⟨λs hs=>by have:=hRm s hs;lia,λs hs=>by have:=hCm s hs;lia,by lia,by lia,by lia,by lia,rfl⟩);have Fq:∀z∈qw (uk ss t l (t+(R+1)+d)<|l+(C+1)+r),z.length<=10:=λz hz=>by rw[(uy hf.ltr hz).1];lia
 generalize uk ss t l (t+(R+1)+d) (l+(C+1)+r)=M at *;refine qq (lo:=0-(t:Nat)) (λi σ' W=>∃(y9:Option V),σ'=[some (.ref fr),some<|.ref mo,some<|.int (t:Nat),some<|.int (l:Nat),some<|.int (d:Nat),some<|.int (r:Nat),some<|.int<|(R:Nat)+1,some<|.int<|(C:Nat)+1,some<|.ref tk,y9,y10,y11,some<|.ref D]/\Same G W/\W D=some (.lst<|((qw M).take i).map V.str)) ?_ (λi σ' W hi hI=>?_) λσ' W hI=>?_
 .exact⟨_,rfl,s4,u4⟩
 .obtain⟨y9,rfl,sW,vA⟩:=hI;refine⟨_,rfl,.inl ⟨rfl,_,SqL.of vA⟩,rfl,?_⟩;refine(mf _ rfl _ _ rfl rfl _ ⟨rfl,(mf _ rfl _ _ rfl rfl _ ⟨_,rfl,⟨by lia,by lia,by lia,by lia⟩,λD2 cL=>?_⟩)⟩);rw[eW,gh];refine rm (lo:=0-(l:Nat)) (λj ys Z=>Same W Z/\ys=((tw M i).take j).map chV) ⟨Same.fresh _ cL,rfl⟩ (λj ys Z hj aQ aV p=>?_) λys Z aQ aV p=>?_
  .obtain⟨p1,rfl⟩:=p;have tkZ:=p1 _ _<|sW _ _ hk;refine⟨Agree.set (Agree.refl _) rfl,?_⟩;dsimp only[sq];refine mh ?_;refine(lu _ rfl tk ⟨rfl,.inr ⟨_,.inl tkZ⟩,(lu _ rfl _ ⟨rfl,sZ2,λp4 Fw=>?_⟩)⟩);generalize g1:upd Z p4 _=Z2 at *;obtain⟨t4,c4⟩:=al Fw g1;clear g1;have c4:Z2 p4=some (.tup<|(sZ ((i:Nat)-(t:Nat))<|(j:Nat)-(l:Nat)).map kV):=by
    rw[c4];show some (HO.tup [.int (0-((t:Nat):Int)+(i:Nat)),.int<|0-((l:Nat):Int)+(j:Nat)])=some (HO.tup [.int _,.int _]);rw[show 0-((t:Nat):Int)+(i:Nat)=(i:Nat)-(t:Nat) by lia,show 0-((l:Nat):Int)+(j:Nat)=(j:Nat)-(l:Nat) by lia]
   refine⟨_,DGet.t (t4 _ _ tkZ) c4,?_⟩;have ev:(hZ aP<|sZ ((i:Nat)-(t:Nat))<|(j:Nat)-(l:Nat)).getD (V.str<|ae ".")=chV (M.g i j):=by rw[hv,hM,e46];unfold pch;cases look ss ((i:Nat)-(t:Nat)) ((j:Nat)-(l:Nat))<;>rfl
   rw[ev];refine ng (by lia) (t4 _ _ aQ) aV ⟨(p1.trans t4).new cL,?_⟩;rw[kc chV (akd (M:=M) (r:=i) (c:=j)<|by rw[Gc];exact hj)]
  .obtain⟨p1,rfl⟩:=p;rw[av (by rw[zm,Gc];exact aq _)]at aQ;have em:(tw M i).map chV=((tw M i).map λc=>(⟨#[c]⟩:Str)).map V.str:=by rw[gb];rfl
   have e0:(ae "").length=0:=by decide +kernel
   have jQ:=gp (B:=1) ((tw M i).map λc=>(⟨#[c]⟩:Str)) λy hy=>by obtain⟨c,_,rfl⟩:=aw.mp hy;exact aq 1
   have hLl:(tw M i).length=l+(C+1)+r:=by rw[zm,Gc]
   rw[ac]at jQ;refine(lq _ D2 ((tw M i).map λc=>(⟨#[c]⟩:Str)) ⟨rfl,rfl,by rw[<-em];exact aQ,by rw[e0];lia,?_⟩);rw[ai7];have hDZ:=p1 _ _ vA;refine(lq D _ _ ⟨rfl,rfl,hDZ,lc<|by rw[ac,c8,ut];lia,?_⟩);refine⟨_,rfl,(sW.trans p1).new hD,?_⟩;rw[j5,kc V.str<|aln (M:=M) (r:=i)<|by rw[hMh];exact hi]
 .obtain⟨y9,rfl,sW,vA⟩:=hI;rw[av (by rw[ut,hMh];exact aq _)]at vA;have e1:(ae "/").length=1:=by decide +kernel
  have jQ:=gp (B:=10) (qw M) Fq;have iX:=ut M;refine⟨rfl,(nk _ rfl _ D (qw M) ⟨rfl,rfl,vA,by rw[e1];lia,?_⟩)⟩;rw[show Txt.join (ae "/") (qw M)=de ⟨#[47]⟩ (qw M) by rw[e47];exact PySem.StrLaws.glued_eq_join _ _];exact q _ W (sg.trans sW) jT
structure Tq(zs:U Str)(ks:U Kr)(ps:U (Nat×Nat)):Prop where
 pz:PzV (.tuple [.tuple (zs.map PyData.str),.tuple<|ks.map krD,.tuple<|ps.map prE])
 rw:Rw menu zs
 k6:ks.length<=6
 ko:∀k∈ks,KrO k
 ltr:∀q∈ps,Ltr q.1/\Ltr q.2
 p3:ps.length<=3
def avi{z:Str}{d:Z9}(hn:NmV z)(h:KdV z d):∃k,d=krD k/\KrO k:=by
 obtain⟨l,m,md,es,rfl,l0,l64,hm,yY,fr⟩:=h;obtain⟨ss,rfl,hf⟩:=auz fr;obtain⟨l,rfl⟩:=b7 l0;rcases hm with rfl|⟨j,rfl,h1,h2⟩
 .exact⟨⟨z,l,none,md,ss⟩,rfl,hn,by show l<=64;lia,(λj h=>by cases h),yY,hf⟩
 .obtain⟨j,rfl⟩:=b7 (show 0<=j by lia);exact⟨⟨z,l,some j,md,ss⟩,rfl,hn,by show l<=64;lia,(λj' h=>by cases h;lia),yY,hf⟩
theorem IE{α β:Type}{f:β->α}{Q:β->Prop}:∀{l:List α},(∀x∈l,∃y,x=f y/\Q y)->∃ys:List β,l=ys.map f/\∀y∈ys,Q y
 | [],_=>⟨[],rfl,λy hy=>by cases hy⟩
 | x::l,h=>by
  obtain⟨y,rfl,hy⟩:=h x ak;obtain⟨ys,rfl,hys⟩:=IE λz hz=>h z<|ao _ hz;refine⟨y::ys,rfl,λz hz=>?_⟩;rcases ap.mp hz with rfl|h'
  .exact hy
  .exact hys z h'
def awn{d:Z9}(h:PzV d):∃zs ks ps,d=.tuple [.tuple (zs.map PyData.str),.tuple<|ks.map krD,.tuple<|ps.map prE]/\Tq zs ks ps:=by
 obtain⟨zs,ns,kd,pd,rfl,oA,k0,k6,yR,nd,nm,qM⟩:=id h;obtain⟨ks,rfl,ko⟩:=IE (f:=krD) (Q:=KrO) (l:=kd) λd hd=>by obtain⟨i,hi⟩:=cj.mp hd;obtain⟨z,hz,kv⟩:=yR i d hi;exact avi (nm z<|ah hz) kv
 obtain⟨ps,rfl,po⟩:=IE (f:=prE) (Q:=λq=>Ltr q.1/\Ltr q.2) (l:=pd) λd hd=>by obtain⟨x,y,rfl,h1,h2,h3⟩:=qM.1 d hd;exact⟨(x,y),rfl,⟨h1,by show x<=90;lia⟩,⟨by show 65<=y;lia,h3⟩⟩
 refine(lq zs ks ps ⟨rfl,h,oA,by rw[ac]at k6;exact k6,ko,po,by have:=qM.2.2;rw[ac]at this;exact this⟩)
def PlL.snoc{ks:U Kr}{bF:U (U Str)}{k:Kr}{cN:Str}(h:PlL ks bF)(ho:KrO k)(hp:PicOf k.ss cN):PlL (ks++[k]) (bF++[sf k cN]):=by
 refine⟨by rw[be,be,h.1];rfl,λi k' ws h1 h2=>?_⟩;by_cases hi:i<ks.length
 .rw[bp hi]at h1;rw[bp (by rw[h.1];exact hi)]at h2;exact h.2 i k' ws h1 h2
 .have gL:=(af.mp h1).1;rw[be,cv]at gL;have e:i=ks.length:=by lia
  subst e;rw[bj (by lia),iz]at h1;rw[<-h.1,bj<|by lia,iz]at h2;cases h1;cases h2;exact⟨ho,cN,rfl,hp⟩
def Cr(a b:Str):(a++b).cps.toList=a.cps.toList++b.cps.toList:=by show(a.cps++b.cps).toList=_;simp
def aq5(fl:Str):ae "floor " ++ fl=de ⟨#[32]⟩ [ae "floor",fl]:=by refine Co ?_;rw[qz,Cr,show(ae "floor ").cps.toList=(ae "floor").cps.toList++[32] by decide +kernel];simp[de]
def ao5(a b:Str):ae "apart " ++ a++ae " " ++ b=de ⟨#[32]⟩ [ae "apart",a,b]:=by refine Co ?_;rw[qz,qz,Cr,Cr,Cr,e32,show(ae "apart ").cps.toList=(ae "apart").cps.toList++[32] by decide +kernel];simp[de]
theorem as8{H:Hp}{k:Kr}{v:V}(h:Rep H (krD k) v):∃b fr xs m,v=.ref b/\H b=some (.tup [.str k.z,.int (k.l:Nat),m,.str k.md,.ref fr])/\H fr=some (.tup xs)/\RepAll H (k.ss.map sgD) xs/\m=(match k.m with|some j=>V.int (j:Nat)|none=>.non):=by
 obtain⟨b,xs,rfl,hb,x1,r1,e1,⟨q1,_⟩,x2,r2,e2,q2,x3,r3,e3,q3,x4,r4,e4,⟨q4,_⟩,x5,r5,e5,⟨fr,ys,rfl,hf,rs⟩,e6⟩:=h;subst e6 e5 e4 e3 e2 e1 q1 q4;cases (show x2=_ from q2);refine(li b fr ys x3 ⟨rfl,hb,hf,rs,?_⟩);cases e:k.m with
 | none=>rw[e]at q3;exact q3
 | some j=>rw[e]at q3;exact q3
def tj(c:Nat)(z:Str)(h:z=⟨#[c]⟩)(xs:U Str):Txt.join z xs=de ⟨#[c]⟩ xs:=by rw[h];exact PySem.StrLaws.glued_eq_join _ _
def asj(ss:U Sg):oo (ss.map sgD)=true:=p6 λd hd=>by obtain⟨s,_,rfl⟩:=aw.mp hd;rfl
def aok{n:Nat}(h:n<=64):(((n:Nat):Int)).natAbs.log2<1920:=by
 have:∀n≤64,(((n:Nat):Int)).natAbs.log2<1920:=by decide +kernel
 exact this n h
def asl:Sp:=λvs H Q _=>∃(pz st:aF)(n:U V)(zs:U Str)(ks:U Kr) (ps:U (Nat×Nat)),vs=[.ref pz,.ref st]/\H st=some (.lst n)/\StL n/\Rep H (.tuple [.tuple (zs.map PyData.str),.tuple<|ks.map krD,.tuple<|ps.map prE]) (.ref pz)/\Tq zs ks ps/\
 ∀(bF:U (U Str)) (H':Hp),Ex [st] H H'->(∃n',H' st=some (.lst n'))->Tz zs ks ps bF->Q (.str<|Aa zs ps bF) H'
def scWri:km ["_law_puzzle_here","_law_state_here","_law_floor_here","_law_kinds","_law_some","_law_lines","_law_name","_law_least","_law_most","_law_mode","_law_form","_law_more","_law_top","_law_words"] ZD (kb G7):={}
theorem auj(B:∀x∈qy,mg x=none)(aZ:xp P w K mg base)(CC:Fn P w K mg base "_law_picture" 1 ZE an8)(F:Fun K "_law_written" "_law_written" G7 f fd):p9 P w K mg base CX0 2 f fd ZD asl:=by
 refine F.ok (k:=1) scWri (λvs H Q E h=>?_) λbE A outer s H vs Q E hr h=>?_
 .obtain⟨_,_,_,_,_,_,rfl,_⟩:=h;rfl
 obtain⟨pz,st,n,zs,ks,ps,rfl,bJ,hn,rp,hT,q⟩:=h;have hu:=hr.units;obtain⟨_,_,e0,A7,f0,r1,e1,⟨fl,fx,e2,F1,rF⟩,k0,r2,e3,⟨kd,kx,e4,Dk,rK⟩,p0,r3,e5,⟨pd,px,e6,Bb,rP⟩,e7⟩:=rp;cases e0;subst e7 e6 e5 e4 e3 e2 e1;cases zg rF;have lk:=rK.length;have lp:=rP.length;rw[ac]at lk lp;have k6:=hT.k6;have p3:=hT.p3;have hz:=Rw.row hT.rw;have fw:=DQ hT.rw;refine⟨_,(j3 (Ac (pv 0)<|wa (n:=3) rfl<|k7 (j9 (i:=2) scWri.nd rfl<|Or.inl rfl)<|k7 (j9 (i:=3) scWri.nd rfl<|Or.inl rfl)<|k7 (j9 (i:=4) scWri.nd rfl<|Or.inl rfl) qm)
  (j3 (ma (i:=5) scWri.nd rfl (Or.inl rfl)<|ou<|j8 (m8 t7 lv<|sw c7 ia ib amd lv<|j8 (pv 2) jz) jz)
  (j3 (qt cx rfl (rq<|pv 3) (wa (n:=5) rfl<|k7 (j9 (i:=6) scWri.nd rfl<|Or.inl rfl)<|k7 (j9 (i:=7) scWri.nd rfl<|Or.inl rfl)<|k7 (j9 (i:=8) scWri.nd rfl<|Or.inl rfl)<|k7 (j9 (i:=9) scWri.nd rfl<|Or.inl rfl)<|k7 (j9 (i:=10) scWri.nd rfl<|Or.inl rfl) qm) (j3 (ma (i:=11) scWri.nd rfl (Or.inl rfl)<|ou<|j8 j2<|j8 j2<|j8 j2<|j8 j2 jz)
  (j3 (nv (mi (Io hu) (pv 1) (ou jz)<|l4 _) (j4<|sd (i:=11) ZM [none,some 1] scWri.nd rfl (Or.inl rfl) rfl rfl rfl (by decide +kernel) (by decide +kernel) rfl rfl (rQ rfl (B "range"<|by decide)<|j8 j2 jz) (λ_=>(j9 (i:=0) (show(ZM:U PySem.Str).Nodup by decide +kernel) rfl<|Or.inl rfl)) (λ_=>lr) λ_=>(kq (adx rfl) rfl (B "max"<|by decide) iR<|j8 j2<|j8 (m8 tq (k8 aZ hr (by decide) rfl<|j8 (pv 1)<|j8 j2 jz) j2) jz)) ku)
  (j3 (ma (i:=12) scWri.nd rfl (Or.inl rfl)<|wn ah7 rfl (B "str"<|by decide) cE<|j8 (pv 8) jz)
  (j3 (nv (mi anw (pv 8) Ck<|l4 _) (j4<|ma (i:=12) scWri.nd rfl (Or.inl rfl) lv) ku)
  (j3 (ma (i:=13) scWri.nd rfl (Or.inl rfl)<|ou<|j8 lv<|j8 (pv 6)<|j8 (wn aec rfl (B "str"<|by decide) cE<|j8 (pv 7) jz)<|j8 (pv 12)<|j8 (pv 9) jz)
  (j4<|uo<|sw fc eu e8 pk (pv 5)<|j8 (sw c7 ia ib yc lv<|j8 (m8 Cg (pv 13)<|ou<|j8 (k8 CC hr (by decide) rfl<|j8 (pv 10)<|j8 (pv 11) jz) jz) jz) jz)))))))
  (j4<|ke<|sw c7 ia ib yc lv<|j8 (m8 Cg (pv 5)<|mj ZC [none,none] rfl rfl (by decide +kernel) (by decide +kernel) rfl rfl (rq<|pv 4) (λ_=>(D9 (n:=2) rfl<|k7 (j9 (i:=0) (show(ZC:U PySem.Str).Nodup by decide +kernel) rfl<|Or.inl rfl)<|k7 (j9 (i:=1) (show(ZC:U PySem.Str).Nodup by decide +kernel) rfl<|Or.inl rfl) qm)) (λ_=>lr) λ_=>(m8 t7 (m8 t7 (m8 t7 lv<|pv 0) lv)<|pv 1)) jz)))),?_⟩
 refine(wm _ rfl pz _ rfl (SqT.of A7) rfl _ _ ⟨rfl,(kl _ _ ⟨rfl,(kl _ _ ⟨rfl,rfl,?_⟩)⟩)⟩);have hsz:=gp (B:=8) zs λz h=>(hz z h).2.1;have hz8:=hT.rw.2.1;have e1:(ae "/").length=1:=by decide +kernel
 have e6':(ae "floor ").length=6:=by decide +kernel
 refine⟨rfl,(nk _ rfl _ fl zs ⟨rfl,rfl,F1,by rw[e1];lia,?_⟩)⟩;rw[tj 47 _ e47];refine(kl _ _ ⟨rfl,rfl,by rw[e6'];exact cq (lc<|by have:=fw.2.1;lia),sZ1,λD hD=>?_⟩);rw[aq5];generalize g1:upd H D _=H1 at *;obtain⟨s1,u1⟩:=al hD g1;clear g1;have nD:D≠st:=λe=>by rw[e,bJ]at hD;cases hD
 refine(lu _ rfl kd ⟨rfl,⟨_,SqT.of<|s1 _ _ Dk⟩,?_⟩);refine Ed (xs:=kx) (λi σ' G=>∃(y6 y7 y8 y9 y10 y11 y12 Aj:Option V)(n:U V) (bF:U (U Str)),σ'=[some (.ref pz),some<|.ref st,some<|.ref fl,some<|.ref kd,some<|.ref pd,some<|.ref D,y6,y7,y8,y9,y10,y11,y12,Aj]/\Ex [st] H G/\G st=some (.lst n)/\StL n/\PlL (ks.take i) bF/\G D=some (.lst<|(([ae "floor",de ⟨#[47]⟩ zs]::bF).map (de ⟨#[32]⟩)).map V.str)) ?_ (λi σ' G hi hI=>?_) (λi x σ' G hx hI=>?_) λσ' G hI=>?_
 .exact(me _ _ _ _ _<|me _ _ _ n ([]) ⟨rfl,Ex.of_same s1,s1 _ _ bJ,hn,⟨rfl,λi k ws h=>by cases h⟩,u1⟩)
 .obtain⟨_,_,_,_,_,_,_,_,_,_,_,ex,_⟩:=hI;exact SqT.of<|qB ex bJ _ _ Dk
 .obtain⟨y6,y7,y8,y9,y10,y11,y12,Aj,n1,bF,rfl,ex,Ao,kA,eF,Gg⟩:=hI;have hi:i<kx.length:=(af.mp hx).1;obtain⟨d,hd,rd⟩:=(rK.tk (qB ex bJ)<|Ix ks).at hx;rw[a6]at hd;obtain⟨k,hk,rfl⟩:=bg.mp hd;have ho:=hT.ko k<|ah hk;obtain⟨b,fr,sx,mv,rfl,hb,qS,rS,rfl⟩:=as8 rd;have lw:=eF.1;rw[c8]at lw;refine(nw b _ rfl (SqT.of hb) rfl _ _ rfl _<|m6 _ rfl _ _ ⟨rfl,(kl _ _ ⟨rfl,(kl _ _ ⟨rfl,rfl,?_⟩)⟩)⟩);refine⟨sZ4,λm0 Bl=>?_⟩;generalize g1:upd G m0 _=G1 at *;obtain⟨t1,v1⟩:=al Bl g1;clear g1;have mne:m0≠st:=λe=>by rw[e,Ao]at Bl;cases Bl
  dsimp only[rn];refine IY (λσ' W=>∃(mo:aF)(n':U V)(t l d r:Nat),σ'=[some (.ref pz),some<|.ref st,some<|.ref fl,some<|.ref kd,some<|.ref pd,some<|.ref D,some<|.str k.z,some<|.int (k.l:Nat),some (match k.m with|some j=>V.int (j:Nat)|none=>.non),some<|.str k.md,some<|.ref fr,some<|.ref mo,y12,Aj]/\Ex [st] G W/\W st=some (.lst n')/\StL n'/\W mo=some (.lst [.int (t:Nat),.int (l:Nat),.int (d:Nat),.int (r:Nat)])/\t<=2/\l<=2/\d<=2/\r<=2) ?_ λDh jU rtE=>?_
  case' refine_2=>
   refine⟨_,rfl,sZ0,λe0 he0=>?_⟩;generalize g1:upd G1 e0 _=G2 at *;obtain⟨t2,v2⟩:=al he0 g1;clear g1;have eD:=(t1.trans t2) _ _ Ao;refine(lq st e0 _ ⟨rfl,rfl,eD,v2,_,rfl,?_⟩);obtain⟨x1,rfl⟩:=kA;refine mh ?_;refine⟨4,rfl,by decide,by decide,λD2 cL=>?_⟩;have ET:D2≠st:=λe=>by rw[e,eD]at cL;cases cL
   refine rm (lo:=0) (n:=4) (λj ys J=>∃(n:U V)(ms:U Nat),Ex [st] G2 J/\J st=some (.lst n)/\StL n/\ys=ms.map (λm:Nat=>V.int (m:Nat))/\ms.length=j/\∀m∈ms,m<=2) ?_ (λj ys J hj aQ aV p=>?_) λys J aQ aV p=>?_
   .exact(kl _ ([]) ⟨Ex.fresh cL,by rw[kg (Ne.symm ET)];exact eD,⟨x1,rfl⟩,rfl,rfl,λm hm=>by cases hm⟩)
   .obtain⟨n3,ms,x3,gU,kW,rfl,FM,jJ⟩:=p;refine⟨Agree.set (Agree.refl _) rfl,?_⟩;dsimp only[sq];refine mh ?_;refine(nk _ rfl st n3 5 ⟨rfl,gU,kW,by decide,by decide,λn4 i4 nO zF h41=>(agj _ _ rfl rfl _ _ ⟨rfl,?_⟩)⟩);obtain⟨m4,em,FP⟩:∃m:Nat,(if i4-2>0 then i4-2 else 0)=((m:Nat):Int)/\m<=2:=by
     by_cases h:i4-2>0
     .exact⟨(i4-2).toNat,by rw[if_pos h];lia,by lia⟩
     .exact⟨0,by rw[if_neg h];rfl,by decide⟩
    rw[em];have x4:Ex [st] J (upd J st<|.lst n4):=Ex.upd (by simp);refine ng (by lia) (x4.at ET aQ) aV<|kl n4 (ms++[m4]) ⟨(x3.trans x4).new cL,by rw[kg (Ne.symm ET)];exact j5,nO,by rw[a7];rfl,by rw[be,FM];rfl,λm hm=>?_⟩;rcases bn.mp hm with h|h
    .exact jJ m h
    .rw[ar.mp h];exact FP
   .obtain⟨n3,ms,x3,gU,kW,rfl,FM,jJ⟩:=p
    match ms,FM,jJ,aQ with
    | [a,b',c,e],_,jJ,aQ=>
     exact jU _ _<|me D2 n3 a b' c ⟨e,rfl,(Ex.of_same<|t1.trans t2).trans x3,gU,kW,aQ,jJ a<|by simp,jJ b'<|by simp,jJ c<|by simp,jJ e<|by simp⟩
  rintro σ' W ⟨mo,n2,t,l,d,r,rfl,xW,stW,jZ,Bj,ht,hl,iY,wD⟩;have tkW:Tk G W:=qB xW Ao;have FO:=ho.m64;have FU:=ho.l64;refine(lu _ rfl (k.m.map λj:Nat=>(j:Int)) ⟨by cases k.m<;>rfl,(λi hi=>?_),?_⟩)
  .cases e:k.m with
   | none=>rw[e]at hi;cases hi
   | some j=>
    rw[e]at hi;cases hi;exact aok<|FO j e
  dsimp only[rn];refine IY (λσ' W'=>σ'=[some (.ref pz),some<|.ref st,some<|.ref fl,some<|.ref kd,some<|.ref pd,some<|.ref D,some<|.str k.z,some<|.int (k.l:Nat),some (match k.m with|some j=>V.int (j:Nat)|none=>.non),some<|.str k.md,some<|.ref fr,some<|.ref mo,some<|.str<|zO k.m,Aj]/\W'=W) ?_ λDh jU rtE=>?_
  case' refine_2=>
   refine(my _ rfl rfl _ ⟨rfl,?_⟩);cases e:k.m with
   | none=>exact mh (jU _ _ ⟨by rw[e];rfl,rfl⟩)
   | some j=>exact ny<|jU _ _ ⟨by rw[e];rfl,rfl⟩
  rintro σ' W' ⟨rfl,rfl⟩;refine(uv _ rfl _ rfl (k.l:Nat) ⟨rfl,aok FU,(lu _ rfl _ ⟨rfl,sZ5,λwo hwo=>?_⟩)⟩);generalize g1:upd W' wo _=W2 at *;obtain⟨t3,v3⟩:=al hwo g1;clear g1;have FZ:=t3 _ _<|tkW _ _ qS;have rS2:=(rS.tk tkW<|asj k.ss).same t3;have vA:=xW.at nD Gg;refine⟨_,rfl,.inl ⟨rfl,_,SqL.of<|t3 _ _ vA⟩,rfl,(vy _ rfl _ rfl _ rfl fr mo<|me sx k.ss t l d ⟨r,rfl,FZ,rS2,ho.fs,t3 _ _ Bj,ht,hl,iY,wD,λcN W3 t4 jT=>?_⟩)⟩;refine⟨sZ1,λpo hpo=>?_⟩;generalize g1:upd W3 po _=W4 at *;obtain⟨t5,v5⟩:=al hpo g1;clear g1;have v35:=(t4.trans t5) _ _ v3;refine(li wo po _ _ ⟨rfl,rfl,v35,v5,cq (lc<|by show 5+1<=1000;decide),λro uI=>?_⟩);generalize g1:upd W4 ro _=W5 at *;obtain⟨t6,v6⟩:=al uI g1;clear g1;have Es:=((t3.trans t4).trans t5).trans t6;have FV:=HM ho jT;have jQ:=gp (B:=120) (sf k cN) λx hx=>(FV x hx).2.1;have GC:(ae " ").length=1:=by decide +kernel
  have l6:(sf k cN).length=6:=rfl;refine(lq _ ro (sf k cN) ⟨rfl,rfl,v6,by rw[GC,l6];rw[l6]at jQ;lia,?_⟩);rw[tj 32 _ e32];have qX:=Es _ _ vA;refine(lq D _ _ ⟨rfl,rfl,qX,lc<|by rw[ac,ac,ba];lia,?_⟩);refine(me _ _ _ _ _<|me _ _ _ n2 (bF++[sf k cN]) ⟨rfl,((ex.trans xW).trans (Ex.of_same Es)).new hD,by rw[kg (Ne.symm nD)];exact Es _ _ stW,jZ,?_,?_⟩)
  .rw[jd,hk];exact eF.snoc ho jT
  .rw[j5,<-List.cons_append,a7,a7];rfl
 .obtain⟨y6,y7,y8,y9,y10,y11,y12,Aj,n1,bF,rfl,ex,Ao,kA,eF,Gg⟩:=hI;rw[av (by lia)]at eF;have zE:Tz zs ks ps bF:=⟨hT.pz,hT.rw,hT.k6,eF,hT.ltr,hT.p3⟩;have tkG:=qB ex bJ;have Ba:=tkG _ _ Bb;have rPG:=rP.tk tkG<|ID ps;refine⟨rfl,(uv _ rfl _ rfl pd ⟨rfl,⟨_,SqT.of Ba⟩,λD2 cL=>?_⟩)⟩;refine p8 (xs:=px) (λi ys J=>Same G J/\ys=(((ps.take i).map prW).map (de ⟨#[32]⟩)).map V.str) ⟨Same.fresh _ cL,rfl⟩ (λi ys J p=>SqT.of<|p.1 _ _ Ba) (λi x ys J hx hi aQ aV p=>?_) λys J aQ aV p=>?_
  .obtain⟨p1,rfl⟩:=p;obtain⟨d,hd,rd⟩:=rPG.at hx;rw[a6]at hd;obtain⟨pq,yV,rfl⟩:=bg.mp hd;obtain⟨b,bx,rfl,hb,z1,r1,e1,⟨q1,_⟩,z2,r2,e2,⟨q2,_⟩,e3⟩:=Rep.same p1 rd;subst e3 e2 e1 q1 q2;refine(nw b _ rfl (SqT.of hb) rfl _ _ rfl _ ⟨_,rfl,rfl,?_⟩);refine⟨Agree.set (Agree.set (Agree.refl _) rfl) rfl,?_⟩;dsimp only[sq];refine mh ?_;have la:(ae "apart ").length=6:=by decide +kernel
   have lb:(ae " ").length=1:=by decide +kernel
   have wA:∀a b:Str,(a++b).length=a.length+b.length:=λa b=>by rw[<-mK,Cr,be,mK,mK]
   have l1:∀c:Nat,(⟨#[c]⟩:Str).length=1:=λ_=>rfl;refine(wm _ rfl _ _ rfl rfl (by rw[la,l1];decide) _ _ ⟨rfl,rfl,by rw[wA,la,l1,lb];decide,(m6 _ rfl _ _ ⟨rfl,rfl,by rw[wA,wA,la,l1,lb,l1];decide,?_⟩)⟩);rw[ao5];refine ng (by lia) aQ aV ⟨p1.new cL,?_⟩;rw[kc prW yV,a7,a7];rfl
  .obtain⟨p1,rfl⟩:=p;rw[av (by lia)]at aQ;have lw:=eF.1;refine(li D D2 _ _ ⟨rfl,rfl,p1 _ _ Gg,aQ,cq<|lc<|by simp;lia,λS hS=>?_⟩);generalize g1:upd J S _=J2 at *;obtain⟨t2,v2⟩:=al hS g1;clear g1;have eL:((([ae "floor",de ⟨#[47]⟩ zs]::bF).map (de ⟨#[32]⟩)).map V.str)++(((ps.map prW).map (de ⟨#[32]⟩)).map V.str)=((qk zs ps bF).map (de ⟨#[32]⟩)).map V.str:=by
    unfold qk;rw[<-a7,<-a7,List.cons_append]
   rw[eL]at v2;have aR:=zE.len;have jQ:=gp (B:=726) ((qk zs ps bF).map (de ⟨#[32]⟩)) λx hx=>by obtain⟨ws,hws,rfl⟩:=aw.mp hx;exact Ji (zE.wd ws hws).2.1 (zE.wd ws hws).2.2
   rw[ac]at jQ;have GC:(ae "\n").length=1:=by decide +kernel
   refine(lq _ S ((qk zs ps bF).map (de ⟨#[32]⟩)) ⟨rfl,rfl,v2,by rw[GC,ac];lia,?_⟩);rw[tj 10 _ e10];exact q bF J2 (ex.trans<|Ex.of_same<|p1.trans t2) ⟨n1,(p1.trans t2) _ _ Ao⟩ zE
def aq2{K:au}{H H':Hp}{a:aF}{xs:U V}(h:SqL K H a xs)(k:∀o,H a=some o->H' a=some o):SqL K H' a xs:=by
 rcases h with (h|⟨o,h⟩)|h
 .exact .inl<|.inl<|k _ h
 .exact .inl<|.inr ⟨o,k _ h⟩
 .exact .inr h
def DP{H:Hp}{k:Kr}{v:V}(h:Rep H (krD k) v):DtK H v:=λa z l m md fm e ha=>by obtain⟨b,xs,rfl,hb,x1,r1,e1,⟨q1,_⟩,x2,r2,e2,q2,x3,r3,e3,q3,x4,r4,e4,yT,x5,r5,e5,q5,e6⟩:=h;subst e6 e5 e4 e3 e2 e1;cases e;rw[hb]at ha;cases ha;exact .inl ⟨.str k.md,yT,by simp[cy]⟩
def awb{H:Hp}{v:V}{zs:U Str}{ks:U Kr}{ps:U (Nat×Nat)}(r:Rep H (.tuple [.tuple (zs.map PyData.str),.tuple<|ks.map krD,.tuple<|ps.map prE]) v):PzD H v:=λa f k p b xs e1 h1 e2 h2 x hx=>by obtain⟨_,_,rfl,A7,f0,r1,e3,_,k0,r2,e4,⟨kd,kx,e5,Dk,rK⟩,p0,r3,e6,_,e7⟩:=r;subst e7 e6 e5 e4 e3;cases e1;rw[A7]at h1;cases h1;cases e2;rw[Dk]at h2;cases h2;obtain⟨i,hi⟩:=cj.mp hx;obtain⟨d,hd,rd⟩:=rK.at hi;rw[a6]at hd;obtain⟨k,_,rfl⟩:=bg.mp hd;exact DP rd
theorem amg(zs:U Str)(ks:U Kr)(ps:U (Nat×Nat)):(PyData.tuple [.tuple (zs.map PyData.str),.tuple<|ks.map krD,.tuple<|ps.map prE]).depth<=60:=by
 have h1:ay (zs.map PyData.str)<=1:=by
  induction zs with
  | nil=>simp[ay]
  | cons z t ih=>simp[ay,cy];lia
 have hs:∀ss:U Sg,ay (ss.map sgD)<=2:=λss=>by
  induction ss with
  | nil=>simp[ay]
  | cons s t ih=>simp[ay,cy,sgD];lia
 have h2:ay (ks.map krD)<=5:=by
  induction ks with
  | nil=>simp[ay]
  | cons k t ih=>
   have:=hs k.ss;have hm:(mD k.m).depth<=1:=by cases k.m<;>simp[mD,cy]
   simp[ay,cy,krD];lia
 have h3:ay (ps.map prE)<=3:=by
  induction ps with
  | nil=>simp[ay]
  | cons s t ih=>simp[ay,cy,prE];lia
 simp[cy,ay];lia
def ar0(zs:U Str)(ks:U Kr)(ps:U (Nat×Nat)):imm (.tuple [.tuple (zs.map PyData.str),.tuple<|ks.map krD,.tuple<|ps.map prE])=true:=by
 have h1:oo (zs.map PyData.str)=true:=p6 λd hd=>by obtain⟨z,_,rfl⟩:=aw.mp hd;rfl
 show(oo (zs.map PyData.str)&&(oo (ks.map krD)&&(oo (ps.map prE)&&true)))=true;rw[h1,Ix,ID];rfl
def DR(K:au):Sp:=λvs H Q _=>∃(a:aF)(ns:U Int),vs=[.ref a]/\SqL K H a (ns.map V.int)/\ns.length<=63/\∀H',Q (.bl true) H'
def scLaw:km ["_law_script","_law_k","_law_state_here","_law_puzzle_here","_law_found"] ZJ (kb zT):={}
def ast(B:∀x∈qy,mg x=none)(CL:Fn P w K mg base "_law_cell_at" 1 ZW (an7 K))(xP:Fn P w K mg base "_law_state" 1 ZV aje)
  (CB:Fn P w K mg base "_law_puzzle" 5 ZF an4) (Ju:Fn P w K mg base "_law_written" 2 ZD asl) (Cu:Fn P w K mg base "read" 8 ["text"] aoq) (CD:Fn P w K mg base "_law_is_puzzle" 5 Z7 aom)
  (F:Fun K "law" "law" zT f fd):p9 P w K mg base CX0 9 f fd ZJ (DR K):=by
 refine F.ok (k:=8) scLaw (λvs H Q E h=>?_) λbE A outer s H vs Q E hr h=>?_
 .obtain⟨a,ns,rfl,_⟩:=h;rfl
 obtain⟨a,ns,rfl,hS,h63,q⟩:=h;have hu:=hr.units;refine⟨_,(j3 (qt cx rfl (rQ rfl (B "range"<|by decide)<|j8 (kq (adx rfl) rfl (B "max"<|by decide) iR<|j8 j2<|j8 (kq (adg rfl) rfl (B "min"<|by decide) dP<|j8 (kq kj rfl (B "len"<|by decide) bb<|j8 (pv 0) jz)<|j8 j2 jz) jz) jz) (j9 (i:=1) scLaw.nd rfl<|Or.inl rfl) (j3 (ma (i:=2) scLaw.nd rfl (Or.inl rfl)<|k8 xP hr (by decide) rfl<|j8 (k8 CL hr (by decide) rfl<|j8 (pv 0)<|j8 (pv 1) jz)<|j8 (pv 1) jz)
  (j3 (ma (i:=3) scLaw.nd rfl (Or.inl rfl)<|k8 CB hr (by decide) rfl<|j8 (pv 2)<|j8 j2<|j8 j2<|j8 j2 jz)
  (j3 (ma (i:=4) scLaw.nd rfl (Or.inl rfl)<|k8 Cu hr (by decide) rfl<|j8 (k8 Ju hr (by decide) rfl<|j8 (pv 3)<|j8 (pv 2) jz) jz)
  (j4<|nv (PW.pt<|o6 (mi (aoz hu) (pv 4) (pv 3)<|l4 _)<|oe<|k9<|mq<|k8 CD hr (by decide) rfl<|j8 (pv 4) jz) (j4<|ke om) ku)))))
  (j4<|ke om)),?_⟩
 refine(mf _ rfl a _ rfl (.inl hS) _<|m6 _ rfl _ _ ⟨rfl,_,rfl,?_,?_,?_⟩)
 .split<;>split<;>lia
 .split<;>split<;>lia
 refine qq (lo:=0) (λi σ' H'=>∃x1 x2 x3 x4,σ'=[some (.ref a),x1,x2,x3,x4]/\SqL K H' a (ns.map V.int)) ?_ (λi σ' G hi h=>?_) λσ' H' h=>?_
 .exact(li _ _ _ _ ⟨rfl,hS⟩)
 .obtain⟨x1,x2,x3,x4,rfl,Du⟩:=h;refine(mw _ rfl _ rfl a ns _ ⟨rfl,Du,by lia,λc=>(m6 _ rfl _ _ ⟨rfl,λst n AY=>?_⟩)⟩);generalize g1:upd G st _=G1 at *;obtain⟨s1,u1⟩:=al AY g1;clear g1;have ka:∀{G':Hp},Ex [st] G G'->SqL K G' a (ns.map V.int):=λx=>aq2 Du λo h=>x.at (l7 h AY) h;refine(m6 _ rfl st _ ⟨rfl,u1,⟨n,rfl⟩,λpz G2 n2 d x2 eD jZ hd rp=>?_⟩);obtain⟨zs,ks,ps,rfl,hT⟩:=awn hd;refine(mw _ rfl _ rfl pz st n2<|lq zs ks ps ⟨rfl,eD,jZ,rp,hT,λbF G3 x3 hst3 zE=>?_⟩);have rp3:=Rep.tk (qB x3 eD) (ar0 zs ks ps) rp;refine(li zs ks ps bF ⟨rfl,zE,λr G4 s4 rr=>?_⟩);have rp4:=Rep.same s4 rp3;refine(qf _ rfl _ rfl _ _ ⟨rr,rp4,amg zs ks ps,_,rfl,?_⟩);refine oy (λh=>absurd h<|by rw[if_pos rfl,SeqAt.eqv_refl _ rr.lay];decide) λ_=>?_;refine(lu _ rfl (.ref r) ⟨rfl,ar7 hT.pz rr,awb rr,λb G5 s5 hb=>⟨b,rfl,?_⟩⟩);have hb:=hb.mpr<|ao0 hT.pz rr;subst hb;refine ny<|li _ _ _ _ ⟨rfl,ka ?_⟩;exact(((Ex.of_same s1).trans x2).trans x3).trans (Ex.of_same<|s4.trans s5)
 .obtain⟨x1,x2,x3,x4,rfl,_⟩:=h;exact q H'
end
def ats{P:aJ}{w:aL}{K:au}{mg:Str->Option aA}{aD:aF}{w1 v1 w2 v2 w3 v3:gR}{ep:Nat}(h:mg "TURNINGS_BY_MODE" = some (.ref aD))(ld:K.lookup aD=some ⟨.type "dict",none,.dict #[⟨dI w "still",.str "still" w1,.int 1 v1⟩,⟨dI w "turn",.str "turn" w2,.int 4 v2⟩,⟨dI w "flip",.str "flip" w3,.int 8 v3⟩] ep,#[]⟩)(nd:(aD==aX)=false):Hn P w K mg:=by
 refine⟨aD,_,[("still",.int 1 v1),("turn",.int 4 v2),("flip",.int 8 v3)],h,ld,⟨_,ep,⟨rfl,rfl,rfl⟩,rfl,λe he=>?_,?_,(show((["still","turn","flip"]:U Str).Nodup) by decide)⟩,nd,λz=>?_⟩
 .have wU:e=⟨dI w "still",.str "still" w1,.int 1 v1⟩\/e=⟨dI w "turn",.str "turn" w2,.int 4 v2⟩\/e=⟨dI w "flip",.str "flip" w3,.int 8 v3⟩:=by simpa using he
  rcases wU with rfl|rfl|rfl
  .exact⟨"still",cK P w _ w1,rfl⟩
  .exact⟨"turn",cK P w _ w2,rfl⟩
  .exact⟨"flip",cK P w _ w3,rfl⟩
 .exact .cons (cK P w _ w1) rfl<|.cons (cK P w _ w2) rfl<|.cons (cK P w _ w3) rfl .nil
 .unfold zf;by_cases h1:z=ae "still"
  .subst h1;rfl
  .by_cases h2:z=ae "turn"
   .subst h2;rfl
   .by_cases h3:z=ae "flip"
    .subst h3;rfl
    .simp[eJ,h1,h2,h3,Ne.symm h1,Ne.symm h2,Ne.symm h3]
def all_mk{l:PySem.W.OpenLaw}{w:aL}{K:au}{h:Heap}{mg:Str->Option aA}{fa:aF}(X:K.In h)(G:h.Ns aK mg)(hfa:mg "law" = some (.ref fa))
  (d1:Df K "is_whole" sPw)
  (d2:Df K "is_sign" sPs)
  (d3:Df K "is_small" Hd)
  (d4:Df K "is_numeral" GM)
  (d5:Df K "is_mode" Hs)
  (d6:Df K "is_floor" G9)
  (d7:Df K "is_floor_row" Hv)
  (d8:Df K "is_floor_sign" GW)
  (d9:Df K "floor_spots" Iq)
  (d10:Df K "touches" Hf)
  (d11:Df K "formed" Hb)
  (d12:Df K "is_form" sPf)
  (d13:Df K "is_spot" GQ)
  (d14:Df K "hang_together" sPh)
  (d15:Df K "touches_any" sTa)
  (d16:Df K "is_kind" Hk)
  (d17:Df K "is_name" HI)
  (d18:Df K "are_bounds" GP)
  (d19:Df K "is_puzzle" GX)
  (d20:Df K "are_kinds" Iy)
  (d21:Df K "are_pairs" HY)
  (d22:Df K "is_pair" HR)
  (d23:Df K "read" Ht)
  (d24:Df K "are_lines" Ha)
  (d25:Df K "is_line" He)
  (d26:Df K "is_piece_line" GZ)
  (d27:Df K "is_picture" HP)
  (d28:Df K "read_kind" sRk)
  (d29:Df K "read_form" sRf)
  (d30:Df K "_law_cell_at" Ho)
  (d31:Df K "_law_state" Ip)
  (d32:Df K "_law_next" Hy)
  (d33:Df K "_law_signs" Ik)
  (d34:Df K "_law_grown" HU)
  (d35:Df K "_law_shifted" Ii)
  (d36:Df K "_law_drawn_form" Hq)
  (d37:Df K "_law_whole" Ir)
  (d38:Df K "_law_is_spot" Hw)
  (d39:Df K "_law_hangs" Ij)
  (d40:Df K "_law_is_form" GU)
  (d41:Df K "_law_floor" Ih)
  (d42:Df K "_law_kind" Il)
  (d43:Df K "_law_names" IH)
  (d44:Df K "_law_pairs" IB)
  (d45:Df K "_law_puzzle" HN)
  (d46:Df K "_law_is_floor" Hu)
  (d47:Df K "_law_is_kind" HL)
  (d48:Df K "_law_is_letter" Hr)
  (d49:Df K "_law_are_pairs" Ig)
  (d50:Df K "_law_is_puzzle" HG)
  (d51:Df K "_law_picture" HH)
  (d52:Df K "_law_written" G7)
  (d53:Df K "law" zT)
  {u1 u2 u3 u4 u5 u6 u7 u8 u9 Em u11 u12:gR} (y1:bw K aK "MOST_SPOTS" = some (some<|.int 6 u1)) (y2:bw K aK "MOST_LINES" = some (some<|.int 8 u2)) (y3:bw K aK "CLOSED" = some (some<|.str "#" u3)) (y4:bw K aK "COVERED" = some (some<|.str "." u4)) (y5:bw K aK "FREE" = some (some<|.str "," u5)) (y6:bw K aK "LONGEST_NAME" = some (some<|.int 8 u6)) (y7:bw K aK "MOST_LAID" = some (some<|.int 64 u7)) (y8:bw K aK "MOST_KINDS" = some (some<|.int 6 u8)) (y9:bw K aK "FIGURES" = some (some<|.str "0123456789" u9)) (y10:bw K aK "MOST_FIGURES" = some (some<|.int 2 Em)) (y11:bw K aK "ENDLESS" = some (some<|.str "any" u11)) (y12:bw K aK "NO_CELL" = some (some<|.str "." u12)) {aD:aF} {w1 v1 w2 v2 w3 v3:gR} {ep:Nat} (yd:bw K aK "TURNINGS_BY_MODE" = some (some<|.ref aD)) (ld:K.lookup aD=some ⟨.type "dict",none,.dict #[⟨dI w "still",.str "still" w1,.int 1 v1⟩,⟨dI w "turn",.str "turn" w2,.int 4 v2⟩,⟨dI w "flip",.str "flip" w3,.int 8 v3⟩] ep,#[]⟩) (nd:(aD==aX)=false)
  (z1:bw K aK "len" = some none) (z2:bw K aK "min" = some none) (z3:bw K aK "max" = some none) (z4:bw K aK "sorted" = some none) (z5:bw K aK "tuple" = some none) (z6:bw K aK "list" = some none) (z7:bw K aK "isinstance" = some none) (z8:bw K aK "bool" = some none) (z9:bw K aK "range" = some none) (z10:bw K aK "str" = some none) (z11:bw K aK "int" = some none) (z12:bw K aK "all" = some none) (z13:bw K aK "any" = some none) (z14:bw K aK "abs" = some none) (z15:bw K aK "set" = some none) (z16:bw K aK "enumerate" = some none) :
  ∃fd:bX,(∀(s:aC)(v:aA),lF s fd ⟨[v],[]⟩ [("_law_script",v)])/\∀base:Heap,K.In base->base.Ns aK mg->p9 l.prog w K mg base CX0 9 fa fd ZJ (DR K):=by
 obtain⟨f,fd,a,F⟩:=d53;cases hfa.symm.trans (fz X G a);have B:∀x∈qy,mg x=none:=by
  intro x hx;simp only[qy,ap,bz,or_false]at hx;rcases hx with rfl|rfl|rfl|rfl|rfl|rfl|rfl|rfl|rfl|rfl|rfl|rfl|rfl|rfl|rfl|rfl
  .exact cn X G z1
  .exact cn X G z2
  .exact cn X G z3
  .exact cn X G z4
  .exact cn X G z5
  .exact cn X G z6
  .exact cn X G z7
  .exact cn X G z8
  .exact cn X G z9
  .exact cn X G z10
  .exact cn X G z11
  .exact cn X G z12
  .exact cn X G z13
  .exact cn X G z14
  .exact cn X G z15
  .exact cn X G z16
 obtain⟨oc,od,kV,hU,pm,an,bE,ct,sI,rfl,lk,nQ⟩:=id F.ex;refine⟨jt "law" "law" (wk zT) (vg zT) (kb zT) .none kV hU pm an bE ct,λs v=>.of_eq rfl,λbase _ _=>?_⟩;have g6:G6 mg:=⟨_,fz X G y1⟩;have g8:G8 mg:=⟨_,fz X G y2⟩;have gC:GS mg "CLOSED" "#":=⟨_,fz X G y3⟩;have gP:GS mg "COVERED" ".":=⟨_,fz X G y4⟩;have gF:GS mg "FREE" ",":=⟨_,fz X G y5⟩;have Gm:GI mg "LONGEST_NAME" 8:=⟨_,fz X G y6⟩;have DB:GI mg "MOST_LAID" 64:=⟨_,fz X G y7⟩;have Gk:GI mg "MOST_KINDS" 6:=⟨_,fz X G y8⟩;have Gn:GS mg "FIGURES" "0123456789":=⟨_,fz X G y9⟩;have DA:GI mg "MOST_FIGURES" 2:=⟨_,fz X G y10⟩;have zI:GS mg "ENDLESS" "any":=⟨_,fz X G y11⟩;have zH:GS mg "NO_CELL" ".":=⟨_,fz X G y12⟩;have dm:Hn l.prog w K mg:=ats (fz X G yd) ld nd;have Y:L3.DfX l.prog w K mg base h:=⟨rfl,rfl,rfl,X,G⟩;have nx:=d32.fx Y<|ap2;have pw:=d1.fx Y<|av3 B;have pS:=d2.fx Y<|ave B;have sm:=d3.fx Y<|al5 B;have md:=d5.fx Y<|ap6 B dm;have sg:=d8.fx Y<|aub gC gP gF pS sm;have rw:=d7.fx Y<|aq7 B g8 sg;have fl:=d6.fx Y<|at9 B g8 rw;have tc:=d10.fx Y<|atz B;have ta:=d15.fx Y<|avc B tc;have fm:=d11.fx Y<|at8 B;have sp:=d13.fx Y<|atq B pw pS;have ph:=d14.fx Y<|awq B ta;have pf:=d12.fx Y<|awf B g6 sp fm ph;have nm:=d17.fx Y<|aqf B Gm sm;have bd:=d18.fx Y<|ar4 B DB pw;have kd:=d16.fx Y<|aps B nm bd md pf;have pr:=d22.fx Y<|aqa B pS;have qM:=d21.fx Y<|ame B pr;have kds:=d20.fx Y<|amb B Gk kd;have pz:=d19.fx Y<|ar9 B fl kds qM;have wh:=d37.fx Y<|ams B;have ls:=d38.fx Y<|ape B wh;have lh:=d39.fx Y<|amk B;have lf:=d40.fx Y<|atf B ls lh;have lfl:=d46.fx Y<|api B;have lk:=d47.fx Y<|aqm B wh lf;have ll:=d48.fx Y<|apv B;have lp:=d49.fx Y<|amx B ll;have lz:=d50.fx Y<|apg B lfl lk lp;have si:=d33.fx Y<|amv nx;have gr:=d34.fx Y<|ama B nx;have sh:=d35.fx Y<|al6 B;have df:=d36.fx Y<|aqu B nx si gr sh;have fo:=d41.fx Y<|ank B nx;have ki:=d42.fx Y<|al4 B nx df;have na:=d43.fx Y<|aii B nx;have pa:=d44.fx Y<|aiu B nx;have pu:=d45.fx Y<|aqy B nx fo ki na pa;have nu:=d4.fx Y<|aui B Gn;have fs:=d9.fx Y<|amw B;have il:=d25.fx Y<|aua B;have ic:=d27.fx Y<|ark B zH pS;have il2:=d26.fx Y<|aun DA zI il nu ic;have al:=d24.fx Y<|ate B il il2;have rf:=d29.fx Y<|av0 zH fs fm;have rk:=d28.fx Y<|avn B zI rf;have rd:=d23.fx Y<|ao4 B al rk pz;have lpi:=d51.fx Y<|ap1 B;have wri:=d52.fx Y<|auj B nx lpi;have ce:=d30.fx Y<|apm B;have ste:=d31.fx Y<|am3;exact ast B ce ste pu wri rd lz F
def walk{l:PySem.W.OpenLaw}{q:aJ}{loose:U Str}{XP:(Str->Option aA)->Heap->Prop}{YP:aL->Heap->Prop}{d:DefRec}{K:Params->au}(hn:l.most=some 63)(Bz:d.params.defaults=[])
  (hY:∀(w:aL)(h:Heap),YP w h->(K w.params).In h)
  (F:∀(w:aL)(mg:Str->Option aA)(fa:aF)(h:Heap),(K w.params).In h->h.Ns aK mg->mg d.name=some (.ref fa)->
   ∃fd:bX,(∀(s:aC)(u:aA),lF s fd ⟨[u],[]⟩ [("_law_script",u)])/\∀base:Heap,(K w.params).In base->base.Ns aK mg->p9 l.prog w (K w.params) mg base CX0 9 fa fd ZJ (DR<|K w.params)) :
  PySem.W.WalkO q loose XP YP l.row.toRowW d [] (λf vs=>PySem.call f vs):=
 L2.walk_of (n:=63) (k:=9) (x:="_law_script") (CX:=λ_=>CX0) (sp:=λw=>DR<|K w.params) hn (by decide) Bz ⟨rfl,by decide,by decide⟩ hY F (λ_ _ a ns hl _ hS=>⟨a,ns,rfl,hS,hl,λ_=>rfl⟩) λ_ _ _ _ _ z=>z
end K10
open PySem PySem.W PyProof.Rows
set_option maxRecDepth 100000 in
set_option maxHeartbeats 0 in
theorem PySem.Challenge.cw_coverpieces_k10_puzzles_read_holds : PySem.Challenge.rw_coverpieces_k10_puzzles_read.Holds := by
 refine K10.hd ⟨K10.left,?_⟩
 k_fill
 refine K10.walk (l:=PySem.Challenge.rw_coverpieces_k10_puzzles_read) rfl rfl (λw h Y=>PySem.W.kIn_of Y) ?F
 case F=>
  intro w mg fa h KX G Bk;refine' K10.all_mk KX G Bk ?d1 ?d2 ?d3 ?d4 ?d5 ?d6 ?d7 ?d8 ?d9 ?d10 ?d11 ?d12 ?d13 ?d14 ?d15 ?d16 ?d17 ?d18 ?d19 ?d20 ?d21 ?d22 ?d23 ?d24 ?d25 ?d26 ?d27 ?d28 ?d29 ?d30 ?d31 ?d32 ?d33 ?d34 ?d35 ?d36 ?d37 ?d38 ?d39 ?d40 ?d41 ?d42 ?d43 ?d44 ?d45 ?d46 ?d47 ?d48 ?d49 ?d50 ?d51 ?d52 ?d53 ?y1 ?y2 ?y3 ?y4 ?y5 ?y6 ?y7 ?y8 ?y9 ?y10 ?y11 ?y12 ?yd ?ld ?nd ?z1 ?z2 ?z3 ?z4 ?z5 ?z6 ?z7 ?z8 ?z9 ?z10 ?z11 ?z12 ?z13 ?z14 ?z15 ?z16
  case d1|d2|d3|d4|d5|d6|d7|d8|d9|d10|d11|d12|d13|d14|d15|d16|d17|d18|d19|d20|d21|d22|d23|d24|d25|d26|d27|d28|d29|d30|d31|d32|d33|d34|d35|d36|d37|d38|d39|d40|d41|d42|d43|d44|d45|d46|d47|d48|d49|d50|d51|d52|d53=>refine' L3.df_mk ?a ?l ?c ?k;(case a=>k_is);(case l=>k_is);(case c=>k_is);(case k=>k_is)
  case y1=>k_is
  case y2=>k_is
  case y3=>k_is
  case y4=>k_is
  case y5=>k_is
  case y6=>k_is
  case y7=>k_is
  case y8=>k_is
  case y9=>k_is
  case y10=>k_is
  case y11=>k_is
  case y12=>k_is
  case yd=>k_is
  case ld=>k_is
  case nd=>rfl
  case z1|z2|z3|z4|z5|z6|z7|z8|z9|z10|z11|z12|z13|z14|z15|z16=>k_is
