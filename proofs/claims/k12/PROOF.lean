import PyProof.Rows.All
import Wide.All
import KE.KxBytes
import Wide.Once
import Wide.Head
import Wide.BytesRules
import Wide.Tac
import OpenK.KDescr
import Wide.Row
import KE.KSortTup
import Wide.Line
import KE.KDictSum
import ObjForm.Claim3
import OpenK.KGet
import Wide.BridgeG
import Wide.Tm
import OpenK.KMore
import OpenK.KWalk
import Wide.Pins
import KE.KIntText
import OpenK.KOps
import KE.KFromBytes
import OpenK.KCall
import KE.KDictList
import Open.Claim
import KE.KIsAll
import Wide.Vals
import Imp.Common
import OpenK.KMake
import OpenK.KLine
import Open.Line
import Open.Head
import Wide.Data
import Wide.Ends
import Wide.Bridge
import Wide.OneHead
import Wide.Reads
import Wide.Claim
import Wide.Well
import KE.KItem
import Wide.BytesFacts
import Wide.Lay
import OpenK.Peek
import OpenK.KCls
import Wide.ObjOpen
import Open.Row
import Wide.Loose
import Wide.FinOn
import Lean
import PyProof.EqAt
import PyProof.EqKinds
import PyProof.TupleCall
import PyProof.Rows.SortRuns
import PyProof.CompFree
import KE.KSortTup
import PyProof.P3Eq
import PyProof.P3In
import PyProof.NeData
import PyProof.WalkInts
import PyProof.Rows.MinMaxN
import PyProof.StrWalks
import PyProof.StrBlockH
import PyProof.StrLawsIn
import PyProof.FString5
import PyProof.StrOps2
import PyProof.ListStr
import PyProof.ConsumeWalk
import PyProof.Rows.StrJoin2
import PyProof.EnumMake
import PyProof.EnumFor
import PyProof.LayNew
import PyProof.Rows.EnumRows
import PyProof.StrCalls
import PyProof.Rows.StrCase
import PyProof.Rows.StrAscii2
import PyProof.Rows.StrFit
import PyProof.IsRules
import PyProof.AutoListH
import PyProof.FactsAll.list_3
import PySem.SetTable
import PySem.SetOps
import PyProof.SetKind
import PyProof.TupleKey
import PyProof.DictKinds
import PyProof.Rows.SetFrom
import PyProof.CollectWalk
import PyProof.Seq
import PyProof.SetRoads
import PyProof.Walk
import PyProof.WalkLemmas
import PyProof.MinMaxWalk
import PyProof.DictRoads
import PyProof.NeKinds
import PyProof.Rows.SetObj
import PyProof.StrCalls2
import PyProof.Rows.StrItems
import PyProof.StrLawsTight
import PyProof.StrLawsChain
import KE.KIntText
import PyProof.EnumIter
import PyProof.DictRoadsH
import KE.KDictSum
import PyProof.Rows.SeqMore
import PySem.Challenge.RW_coverpieces_k12_shown_and_read
set_option compiler.extract_closed false
set_option Elab.async false
set_option linter.all false
set_option maxRecDepth 100000
abbrev U(α:Type u):=List α
abbrev Z9:=PySem.PyData
noncomputable abbrev Z8:U PySem.Str:=["found"]
noncomputable abbrev Z7:U PySem.Str:=["words"]
noncomputable abbrev Z6:U PySem.Str:=["spot"]
noncomputable abbrev Z5:U PySem.Str:=["_law_state_here"]
noncomputable abbrev Z4:U PySem.Str:=["sign"]
noncomputable abbrev Z0:U PySem.Str:=["kind"]
noncomputable abbrev ZZ:U PySem.Str:=["_law_spot"]
noncomputable abbrev ZY:U PySem.Str:=["_law_state_here","_law_most"]
noncomputable abbrev ZX:U PySem.Str:=["words","first","more"]
noncomputable abbrev ZW:U PySem.Str:=["key","default"]
noncomputable abbrev ZV:U PySem.Str:=["_law_script","_law_k"]
noncomputable abbrev ZU:U PySem.Str:=["_law_cell","_law_k"]
noncomputable abbrev ZT:U PySem.Str:=["_law_state_here","_law_many"]
noncomputable abbrev ZS:U PySem.Str:=["_law_row","_law_column","_law_sign","_law_top","_law_left"]
noncomputable abbrev ZR:U PySem.Str:=["cell","other"]
noncomputable abbrev ZQ:U PySem.Str:=["cell","others"]
noncomputable abbrev ZP:U PySem.Str:=["row","column","sign","top","left"]
noncomputable abbrev ZO:U PySem.Str:=["row","column","sign"]
noncomputable abbrev ZN:U PySem.Str:=["least","most"]
noncomputable abbrev ZM:U PySem.Str:=["_law_k","_law_state_here"]
noncomputable abbrev ZL:U PySem.Str:=["word","most"]
noncomputable abbrev ZK:U PySem.Str:=["first","pieces","pairs"]
noncomputable abbrev ZJ:U PySem.Str:=["signs","row","last_column"]
noncomputable abbrev ZI:U PySem.Str:=["_law_script"]
noncomputable abbrev ZH:U PySem.Str:=["TURNINGS_BY_MODE"]
noncomputable abbrev ZG:U PySem.Str:=["_law_state_here","_law_most","_law_signs_here"]
noncomputable abbrev ZF:U PySem.Str:=["_law_state_here","_law_name","_law_most"]
noncomputable abbrev ZE:U PySem.Str:=["_law_state_here","_law_most","_law_spots","_law_many"]
noncomputable abbrev ZD:U PySem.Str:=["_law_form","_law_more"]
noncomputable abbrev ZC:U PySem.Str:=["_law_puzzle_here","_law_state_here"]
noncomputable abbrev ZB:U PySem.Str:=["_law_one","_law_other"]
noncomputable abbrev ZA:U PySem.Str:=["_law_column","_law_signs_here","_law_state_here"]
noncomputable abbrev Zz:U PySem.Str:=["_law_name","_law_state_here","_law_spots"]
noncomputable abbrev Zy:U PySem.Str:=["_law_column","_law_signs_here","_law_row"]
open PySem renaming Value->aA,Shared->aB,Addr->aE,sizeLine->aF,wpAny->aG,model->aH,Program->aK,mainGlobals->aM,World->aN,starEach->aQ,NameKind->aS,Stmt->aW,compareOp->aY,pyNext->bB,sysModules->bE,wpAny_updateSeq->bK,backTo->bN,argBest->bQ,wpAny_tryCatch->bU,cLine->bV,wpAny_letGo->bX,codeAny->bY,assignEach->bZ,eval->cD,wpAny_rule->cJ,codeAny_call_builtin->cL,FuncData->cM,wpAny_askSetting->cO,bootBuiltins->cQ,wpAny_setEntries_of->cU,wpAny_attempt->cV,Scope->cX,wpAny_specialOf->cY,wpAny_setField_rec->c6,strKind_is->dA,wpAny_getItem_str_slice->dC,firstArgMember->dI,Paired->dL,wpAny_isInstance->dN,wpAny_forIn_list->dO,typeIs_str->dP,sliceBounds->dS,binaryOp->dX,Pos->eB,hashStr->eI,seqItems?->eK,wpAny_pyIter_tuple->eP,wpAny_of_eq->eZ,ofAClassStatement->fA,intItems_at->fB,Walks->fF,wpAny_standAt->fH,updateSeq->fM,numAt_eq->fO,intItems->fP,wpAny_call->fX,valueAt->fY,holding->fZ,IsEnum->gA,wpAny_execs_nil->gD,post_val_or_str->gI,letOwnedTupleGo->gK,codeAny_of_tree->gM,weight_type_call_type->gN,wpAny_runValue->gY,wpAny_fieldsOf->gZ,pyIter->hJ,keywordEach->hV,hashByValue->iC,Result->iF,tupleKind->iG,setNext->iI,pickOrder->iK,Keyword->iO,nums_intItems->iU,behindInMarks->jA,assign->jL,wpAny_pyIter_enum->jS,foldedSetIterable->jY,collect->kA,callerA->kB,GenState->kG,rawInt->kZ,check_set_init_1->lz,checkBuiltinCall->lA,argsOk->lB,numAt->lH,CmpOp->lZ,spliced->mM,BindsTo->nF,slotArgs->nJ,setsByText->nK,setEntries->nL,newTuple->nN,isSubtype_stop->nQ,closureFor->nY,call_meets->nZ,backToKw->oB,Sem->oE,CmpOf->oF,Tok->pF,wpAny_newList->pG,wpAny_handled->pH,wpAny_comprehension_free->pI,setSearchFrom->pJ,attributeBase->pX,swapsWith->qB,putSet_of->qG,field->rQ,bindL->rV,bindC->rW,atKey->sG,Env->sQ,wpAny_typeOf->sR,wpAny_pyNext_list_item->sS,seqIndex_neg->sU,newExc->sX,wpAny_pyNext_list_end->tR,wpAny_isSame_ref_self->tS,builtinLookup_eq_fast->vA,wpAny_throw->vI,seqIndex_of->vM,rule->vP,raiseNew->vQ,mem_getD->vU,wpAny_Name->zU,tupleKind_room_in1->zW,reduceHash->Ac,noKeywords->Af,builtinsNs->Au,wpAny_storeSet_of->AQ,wpAny_setEpoch_of->AR,wpAny_assign_Name->AS,standAt->AU,searchCouldBeSeen->AW,eqIsQuiet_byValue->Cn,Moved->De,Model->Dg,wpAny_pyHash_str->Dx,wpAny_pyHash_int->Dy,wpAny_execs_cons->Dz,scanBound->DE,drawOrder->Eo,cellsFrom->Er,IsEnumOut->E7,Args->E8,typeLookup_type->Fa
open PyProof.Rows renaming Keyed->aI,arrOf->aJ,pendingOf->aL,SortSt->aO,SortKind->aU,failedOf->bP,wpS_modify->cI,boot_all->cW,seqObj->dF,boot_str->dJ,wpS_get->dQ,IntsAre->fG,reverseSlice'->fI,AllBare->gB,wpS_lift->gX,mirror->hU,boot_min->iD,boot_max->iE,wpS->iP,elem'->iZ,setArr->jC,envOfC->jI,keyKind'->jT,mirror_perm->lI,boot_sorted->lV,tuples'->mK,minRun'->mN,keyLt'->nP,gallopOf->nW,listUpdate_at->pM,subscriptTail_builtinR->sT,seqEpoch_at->vN,getElem?_mirror_all->yV,bubble->Av,getElem?_bubble->Hb
open Pure renaming pure->aT
open ToString renaming toString->bO
open PySem.W renaming hashAt->cK
open MonadExcept renaming tryCatch->fN
open Min renaming min->iQ
open LawfulMonad renaming bind_assoc->jK
open Max renaming max->qL
open ForIn renaming forIn->wS
section
def sZ0:0<=aF:=by decide
def sZ1:1<=aF:=by decide
def sZ2:2<=aF:=by decide
def sZ3:3<=aF:=by decide
def sZ4:4<=aF:=by decide
def sZ5:5<=aF:=by decide
namespace K12
open PySem PyProof.Rows
noncomputable def vw:aK:=PySem.W.view PySem.Challenge.pw_coverpieces_k12_shown_and_read [1,2,3,4,5,7,8,9,11,12,14,15,16,17,18,19,20,21,23,24,25,26,27,28,29,31,32,33,34,35,36,37,38,39,40,42,43,44,45,46,47,48,49,50,51,52,53,54,55,57,58,59,60,61,62,63,64,65,66,67,68,69,70,71]
set_option maxHeartbeats 0 in
def said:PySem.W.OpenLaw.wellSaid PySem.Challenge.rw_coverpieces_k12_shown_and_read=true:=by kernel_rfl
end K12
open PySem PySem.W PyProof.Rows
local macro_rules | `(tactic| o_law)=>`(tactic| refine holds_law K12.said fun said=>?_)
local macro_rules | `(tactic| o_head $H)=>`(tactic| refine(fun h hw=>holds_open (q:=K12.vw) (loose:=ZH) (Xt:=(fun s=>xlAt K12.vw [] s&&recOk (RowW.records (OpenLaw.row PySem.Challenge.rw_coverpieces_k12_shown_and_read).toRowW) s)) (XP:=XL K12.vw []) (Yf:=Hook.obs $H) (Ya:=Hook.val $H) (YP:=Hook.says $H) (N:=4542) (And.left h) (Hook.of $H) (Hook.keeps $H) (fun s e=>xl_of s (Bool.and_eq_true_iff.mp e).1) XL.keeps (by rfl) (by rfl) (by rfl) (fun s e=>recFacts_of (Bool.and_eq_true_iff.mp e).2) (by rfl) (by assumption) (by decide +kernel) ⟨rfl,rfl,rfl,rfl,rfl,by decide +kernel⟩ hw (And.right h)) ?hc ?hw)
set_option maxRecDepth 100000 in
set_option maxHeartbeats 0 in
open_top K12.hd for PySem.Challenge.rw_coverpieces_k12_shown_and_read
namespace K12
noncomputable def hk:Hook:=kHook K12.hd.heap_1 [2,3,15,17,18,20,21,22,24,25,27,28,29,31,32,34,35,36,39,40,41,48,49,50,51,54,61,62,63,66,73,74,75,78,79,81,82,84,85,86,89,90,91,94,95,96,98,99,101,102,103,105,106,108,109,110,112,113,115,116,117,120,121,122,125,126,127,129,130,132,133,134,137,138,139,142,143,144,146,147,149,150,151,154,155,156,158,159,161,162,163,165,166,168,169,170,173,174,175,178,179,180,182,183,185,186,187,190,191,192,195,196,197,199,200,202,203,204,206,207,209,210,211,214,215,216,218,219,221,222,223,226,227,228,231,232,233,235,236,238,239,240,243,244,245,248,249,250,252,253,255,256,257,259,260,262,263,264,266,267,269,270,271,273,274,276,277,278,280,281,283,284,285,288,289,290,292,293,295,296,297,300,301,302,304,305,307,308,309,312,313,314,316,317,319,320,321,324,325,326,329,330,331,334,335,336,338,339,341,342] λ_=>by kernel_rfl
def La(w:aN):Prop:=(openEnds treeTable PySem.Challenge.pw_coverpieces_k12_shown_and_read w 4542).map (λs=>openSeen vw ZH (importedModules PySem.Challenge.pw_coverpieces_k12_shown_and_read.main.body) (λs=>xlAt vw [] s&&recOk (RowW.records (OpenLaw.row PySem.Challenge.rw_coverpieces_k12_shown_and_read).toRowW) s) true s)=some (openGood vw ZH)
def Lb(w:aN):Prop:=(openEnds treeTable PySem.Challenge.pw_coverpieces_k12_shown_and_read w 4542).map (λs=>hk.obs s)=some (hk.val w)
def Lo(w:aN):Prop:=(openEnds treeTable PySem.Challenge.pw_coverpieces_k12_shown_and_read w 4542).map (λs=>(openSeen vw ZH (importedModules PySem.Challenge.pw_coverpieces_k12_shown_and_read.main.body) (λs=>xlAt vw [] s&&recOk (RowW.records (OpenLaw.row PySem.Challenge.rw_coverpieces_k12_shown_and_read).toRowW) s) true s,hk.obs s))=some (openGood vw ZH,hk.val w)
theorem pr2{α β γ:Type _}{x:Option α}{f:α->β}{g:α->γ}{a:β}{b:γ}(h1:x.map f=some a)(h2:x.map g=some b):x.map (λs=>(f s,g s))=some (a,b):=by
 cases x with
 | none=>cases h1
 | some s=>cases h1;cases h2;rfl
set_option maxHeartbeats 0 in
theorem lfa(w:aN):La (w.withFollow "special-get-raises" false):=by unfold La;kernel_rfl
set_option maxHeartbeats 0 in
theorem lfb(w:aN):Lb (w.withFollow "special-get-raises" false):=by unfold Lb;kernel_rfl
theorem lf(w:aN):Lo (w.withFollow "special-get-raises" false):=pr2 (lfa w) (lfb w)
set_option maxHeartbeats 0 in
theorem lta(w:aN):La (w.withFollow "special-get-raises" true):=by unfold La;kernel_rfl
set_option maxHeartbeats 0 in
theorem ltb(w:aN):Lb (w.withFollow "special-get-raises" true):=by unfold Lb;kernel_rfl
theorem lt(w:aN):Lo (w.withFollow "special-get-raises" true):=pr2 (lta w) (ltb w)
def left:∀w,Lo w:=byRow2 "special-get-raises" lf lt
end K12
end
set_option Elab.async false
set_option linter.all false
set_option maxRecDepth 100000
set_option maxHeartbeats 8000000
def lc{α0:Sort u0}{α1:Sort u1}{t:α0->α1->Prop}(x0:α0)(x1:α1)(h:t x0 x1):∃x0,∃x1,t x0 x1:=⟨x0,x1,h⟩
def mm{α0:Sort u0}{α1:Sort u1}{p0:α0->Prop}{t:α0->α1->Prop}(x0:α0)(h0:p0 x0)(x1:α1)(h:t x0 x1):∃x0,p0 x0/\∃x1,t x0 x1:=⟨x0,h0,x1,h⟩
def mf{α0:Sort u0}{α1:Sort u1}{α2:Sort u2}{t:α0->α1->α2->Prop}(x0:α0)(x1:α1)(x2:α2)(h:t x0 x1 x2):∃x0,∃x1,∃x2,t x0 x1 x2:=⟨x0,x1,x2,h⟩
def m9{α0:Sort u0}{α1:Sort u1}{p0:α0->Prop}{p1:α0->Prop}{t:α0->α1->Prop}(x0:α0)(h0:p0 x0)(h1:p1 x0)(x1:α1)(h:t x0 x1):∃x0,p0 x0/\p1 x0/\∃x1,t x0 x1:=⟨x0,h0,h1,x1,h⟩
def nk{α0:Sort u0}{α1:Sort u1}{α2:Sort u2}{p0:α0->Prop}{t:α0->α1->α2->Prop}(x0:α0)(h0:p0 x0)(x1:α1)(x2:α2)(h:t x0 x1 x2):∃x0,p0 x0/\∃x1,∃x2,t x0 x1 x2:=⟨x0,h0,x1,x2,h⟩
def my{α0:Sort u0}{α1:Sort u1}{α2:Sort u2}{α3:Sort u3}{t:α0->α1->α2->α3->Prop}(x0:α0)(x1:α1)(x2:α2)(x3:α3)(h:t x0 x1 x2 x3):∃x0,∃x1,∃x2,∃x3,t x0 x1 x2 x3:=⟨x0,x1,x2,x3,h⟩
def ul{α0:Sort u0}{α1:Sort u1}{α2:Sort u2}{p0:α0->Prop}{p1:α0->α1->Prop}{t:α0->α1->α2->Prop}(x0:α0)(h0:p0 x0)(x1:α1)(h1:p1 x0 x1)(x2:α2)(h:t x0 x1 x2):∃x0,p0 x0/\∃x1,p1 x0 x1/\∃x2,t x0 x1 x2:=⟨x0,h0,x1,h1,x2,h⟩
def oj{α0:Sort u0}{α1:Sort u1}{α2:Sort u2}{α3:Sort u3}{p0:α0->Prop}{t:α0->α1->α2->α3->Prop}(x0:α0)(h0:p0 x0)(x1:α1)(x2:α2)(x3:α3)(h:t x0 x1 x2 x3):∃x0,p0 x0/\∃x1,∃x2,∃x3,t x0 x1 x2 x3:=⟨x0,h0,x1,x2,x3,h⟩
def lr{α0:Sort u0}{α1:Sort u1}{α2:Sort u2}{α3:Sort u3}{α4:Sort u4}{t:α0->α1->α2->α3->α4->Prop}(x0:α0)(x1:α1)(x2:α2)(x3:α3)(x4:α4)(h:t x0 x1 x2 x3 x4):∃x0,∃x1,∃x2,∃x3,∃x4,t x0 x1 x2 x3 x4:=⟨x0,x1,x2,x3,x4,h⟩
def tf{α0:Sort u0}{α1:Sort u1}{α2:Sort u2}{α3:Sort u3}{p0:α0->Prop}{p1:α0->α1->Prop}{t:α0->α1->α2->α3->Prop}(x0:α0)(h0:p0 x0)(x1:α1)(h1:p1 x0 x1)(x2:α2)(x3:α3)(h:t x0 x1 x2 x3):∃x0,p0 x0/\∃x1,p1 x0 x1/\∃x2,∃x3,t x0 x1 x2 x3:=⟨x0,h0,x1,h1,x2,x3,h⟩
def kj{α0:Sort u0}{α1:Sort u1}{α2:Sort u2}{α3:Sort u3}{α4:Sort u4}{p0:α0->Prop}{t:α0->α1->α2->α3->α4->Prop}(x0:α0)(h0:p0 x0)(x1:α1)(x2:α2)(x3:α3)(x4:α4)(h:t x0 x1 x2 x3 x4):∃x0,p0 x0/\∃x1,∃x2,∃x3,∃x4,t x0 x1 x2 x3 x4:=⟨x0,h0,x1,x2,x3,x4,h⟩
def an8{α0:Sort u0}{α1:Sort u1}{α2:Sort u2}{α3:Sort u3}{p0:α0->α1->Prop}{p1:α0->α1->Prop}{t:α0->α1->α2->α3->Prop}(x0:α0)(x1:α1)(h0:p0 x0 x1)(h1:p1 x0 x1)(x2:α2)(x3:α3)(h:t x0 x1 x2 x3):∃x0,∃x1,p0 x0 x1/\p1 x0 x1/\∃x2,∃x3,t x0 x1 x2 x3:=⟨x0,x1,h0,h1,x2,x3,h⟩
def ak3{α0:Sort u0}{α1:Sort u1}{α2:Sort u2}{p0:α0->Prop}{p1:α0->Prop}{p2:α0->Prop}{p3:α0->Prop}{t:α0->α1->α2->Prop}(x0:α0)(h0:p0 x0)(h1:p1 x0)(h2:p2 x0)(h3:p3 x0)(x1:α1)(x2:α2)(h:t x0 x1 x2):∃x0,p0 x0/\p1 x0/\p2 x0/\p3 x0/\∃x1,∃x2,t x0 x1 x2:=⟨x0,h0,h1,h2,h3,x1,x2,h⟩
def oh{α0:Sort u0}{α1:Sort u1}{α2:Sort u2}{α3:Sort u3}{α4:Sort u4}{p0:α0->Prop}{p1:α0->α1->Prop}{t:α0->α1->α2->α3->α4->Prop}(x0:α0)(h0:p0 x0)(x1:α1)(h1:p1 x0 x1)(x2:α2)(x3:α3)(x4:α4)(h:t x0 x1 x2 x3 x4):∃x0,p0 x0/\∃x1,p1 x0 x1/\∃x2,∃x3,∃x4,t x0 x1 x2 x3 x4:=⟨x0,h0,x1,h1,x2,x3,x4,h⟩
def nh{α0:Sort u0}{α1:Sort u1}{α2:Sort u2}{α3:Sort u3}{p0:α0->Prop}{p1:α0->α1->α2->Prop}{p2:α0->α1->α2->Prop}{t:α0->α1->α2->α3->Prop}(x0:α0)(h0:p0 x0)(x1:α1)(x2:α2)(h1:p1 x0 x1 x2)(h2:p2 x0 x1 x2)(x3:α3)(h:t x0 x1 x2 x3):∃x0,p0 x0/\∃x1,∃x2,p1 x0 x1 x2/\p2 x0 x1 x2/\∃x3,t x0 x1 x2 x3:=⟨x0,h0,x1,x2,h1,h2,x3,h⟩
def amy{α0:Sort u0}{α1:Sort u1}{α2:Sort u2}{α3:Sort u3}{p0:α0->α1->Prop}{p1:α0->α1->Prop}{p2:α0->α1->Prop}{t:α0->α1->α2->α3->Prop}(x0:α0)(x1:α1)(h0:p0 x0 x1)(h1:p1 x0 x1)(h2:p2 x0 x1)(x2:α2)(x3:α3)(h:t x0 x1 x2 x3):∃x0,∃x1,p0 x0 x1/\p1 x0 x1/\p2 x0 x1/\∃x2,∃x3,t x0 x1 x2 x3:=⟨x0,x1,h0,h1,h2,x2,x3,h⟩
def ajd{α0:Sort u0}{α1:Sort u1}{α2:Sort u2}{α3:Sort u3}{α4:Sort u4}{p0:α0->Prop}{p1:α0->Prop}{p2:α0->α1->Prop}{t:α0->α1->α2->α3->α4->Prop}(x0:α0)(h0:p0 x0)(h1:p1 x0)(x1:α1)(h2:p2 x0 x1)(x2:α2)(x3:α3)(x4:α4)(h:t x0 x1 x2 x3 x4):∃x0,p0 x0/\p1 x0/\∃x1,p2 x0 x1/\∃x2,∃x3,∃x4,t x0 x1 x2 x3 x4:=⟨x0,h0,h1,x1,h2,x2,x3,x4,h⟩
def uv{α0:Sort u0}{α1:Sort u1}{α2:Sort u2}{α3:Sort u3}{α4:Sort u4}{p0:α0->Prop}{p1:α0->α1->Prop}{p2:α0->α1->α2->Prop}{t:α0->α1->α2->α3->α4->Prop}(x0:α0)(h0:p0 x0)(x1:α1)(h1:p1 x0 x1)(x2:α2)(h2:p2 x0 x1 x2)(x3:α3)(x4:α4)(h:t x0 x1 x2 x3 x4):∃x0,p0 x0/\∃x1,p1 x0 x1/\∃x2,p2 x0 x1 x2/\∃x3,∃x4,t x0 x1 x2 x3 x4:=⟨x0,h0,x1,h1,x2,h2,x3,x4,h⟩
def um{α0:Sort u0}{α1:Sort u1}{α2:Sort u2}{α3:Sort u3}{p0:α0->Prop}{p1:α0->α1->α2->Prop}{p2:α0->α1->α2->Prop}{p3:α0->α1->α2->Prop}{t:α0->α1->α2->α3->Prop}(x0:α0)(h0:p0 x0)(x1:α1)(x2:α2)(h1:p1 x0 x1 x2)(h2:p2 x0 x1 x2)(h3:p3 x0 x1 x2)(x3:α3)(h:t x0 x1 x2 x3):∃x0,p0 x0/\∃x1,∃x2,p1 x0 x1 x2/\p2 x0 x1 x2/\p3 x0 x1 x2/\∃x3,t x0 x1 x2 x3:=⟨x0,h0,x1,x2,h1,h2,h3,x3,h⟩
def su{α0:Sort u0}{α1:Sort u1}{α2:Sort u2}{α3:Sort u3}{α4:Sort u4}{p0:α0->Prop}{p1:α0->α1->Prop}{p2:α0->α1->α2->α3->Prop}{p3:α0->α1->α2->α3->Prop}{t:α0->α1->α2->α3->α4->Prop}(x0:α0)(h0:p0 x0)(x1:α1)(h1:p1 x0 x1)(x2:α2)(x3:α3)(h2:p2 x0 x1 x2 x3)(h3:p3 x0 x1 x2 x3)(x4:α4)(h:t x0 x1 x2 x3 x4):∃x0,p0 x0/\∃x1,p1 x0 x1/\∃x2,∃x3,p2 x0 x1 x2 x3/\p3 x0 x1 x2 x3/\∃x4,t x0 x1 x2 x3 x4:=⟨x0,h0,x1,h1,x2,x3,h2,h3,x4,h⟩
def w4{α0:Sort u0}{α1:Sort u1}{α2:Sort u2}{α3:Sort u3}{α4:Sort u4}{p0:α0->Prop}{p1:α0->α1->α2->Prop}{p2:α0->α1->α2->Prop}{p3:α0->α1->α2->Prop}{t:α0->α1->α2->α3->α4->Prop}(x0:α0)(h0:p0 x0)(x1:α1)(x2:α2)(h1:p1 x0 x1 x2)(h2:p2 x0 x1 x2)(h3:p3 x0 x1 x2)(x3:α3)(x4:α4)(h:t x0 x1 x2 x3 x4):∃x0,p0 x0/\∃x1,∃x2,p1 x0 x1 x2/\p2 x0 x1 x2/\p3 x0 x1 x2/\∃x3,∃x4,t x0 x1 x2 x3 x4:=⟨x0,h0,x1,x2,h1,h2,h3,x3,x4,h⟩
def nj{α0:Sort u0}{α1:Sort u1}{α2:Sort u2}{α3:Sort u3}{α4:Sort u4}{p0:α0->α1->Prop}{p1:α0->α1->Prop}{p2:α0->α1->Prop}{p3:α0->α1->α2->α3->Prop}{t:α0->α1->α2->α3->α4->Prop}(x0:α0)(x1:α1)(h0:p0 x0 x1)(h1:p1 x0 x1)(h2:p2 x0 x1)(x2:α2)(x3:α3)(h3:p3 x0 x1 x2 x3)(x4:α4)(h:t x0 x1 x2 x3 x4):∃x0,∃x1,p0 x0 x1/\p1 x0 x1/\p2 x0 x1/\∃x2,∃x3,p3 x0 x1 x2 x3/\∃x4,t x0 x1 x2 x3 x4:=⟨x0,x1,h0,h1,h2,x2,x3,h3,x4,h⟩
def ou{α0:Sort u0}{α1:Sort u1}{α2:Sort u2}{α3:Sort u3}{α4:Sort u4}{p0:α0->α1->Prop}{p1:α0->α1->Prop}{p2:α0->α1->α2->α3->Prop}{p3:α0->α1->α2->α3->Prop}{t:α0->α1->α2->α3->α4->Prop}(x0:α0)(x1:α1)(h0:p0 x0 x1)(h1:p1 x0 x1)(x2:α2)(x3:α3)(h2:p2 x0 x1 x2 x3)(h3:p3 x0 x1 x2 x3)(x4:α4)(h:t x0 x1 x2 x3 x4):∃x0,∃x1,p0 x0 x1/\p1 x0 x1/\∃x2,∃x3,p2 x0 x1 x2 x3/\p3 x0 x1 x2 x3/\∃x4,t x0 x1 x2 x3 x4:=⟨x0,x1,h0,h1,x2,x3,h2,h3,x4,h⟩
open PySem renaming wpAny_bind->aa,wpAny_pure->ai,boot_len->cb,wpAny_holding->db,codeAny_builtin->dq,wpAny_truthy_bool->e8,wpAny_newObj_type->f7,wpAny_Call_Name_kw->gd,wpAny_callSpecial?_slot->gk,wpAny_setState_of->gl,plainId_quiet->gt,wpAny_call_entry->gu,mem_of_lookup->ij,wpAny_seqItems->ix,wpAny_mono->jg,sizeLine_eq->jl,wpAny_pyIter_list->jn,wpAny_setField->jy,wpAny_passesOwn->j5,codeAny_mono->j8,wpAny_field->kc
open PySem.Str renaming ofString->ab,join->cf
open List renaming length_map->ae,getElem?_eq_getElem->af,mem_of_getElem?->aj,mem_cons_self->am,mem_cons_of_mem->ao,getElem?_eq_some_iff->ap,mem_cons->ar,take_of_length_le->au,mem_singleton->ay,mem_map->a7,getElem?_map->a8,map_append->bb,size_toArray->bf,length_cons->bj,mem_append->bm,length_append->bn,mem_iff_getElem?->bq,getElem?_append_right->bu,all_eq_true->bz,mem_append_right->b8,append_assoc->b9,mem_map_of_mem->cg,length_take->cm,getElem?_append_left->cq,getD_eq_getElem?_getD->cw,take_append_drop->da,getElem?_take_of_lt->de,map_cons->dg,pairwise_append->dh,mem_of_mem_take->dn,not_mem_nil->dz,length_singleton->et,pairwise_iff_getElem->eu,pairwise_map->fc,getElem?_drop->ff,length_eq_zero_iff->fj,getElem_mem->fk,range->fu,mem_append_left->f9,pairwise_cons->gc,mem_filter->gg,getElem?_of_mem->gp,map_map->gy,append_nil->ie,length_drop->ii,mem_range->ir,nodup_cons->iy,lookup_cons->iz,take_length->i8,drop_zero->ja,length_range->jb,take_sublist->jc,map_congr_left->je,getElem?_eq_none->ji,getElem?_toArray->jj,all_map->jk,take_add_one->jo,cons_lt_cons_iff->kg
open PySem.Heap renaming get?_push_of_some->ah,get?_push_size->a6,lt_size->be,get?_update_other->br,SameBut->b7,get?_update_self->cp,size_push->jx,ExtBut->ke
open Bool renaming false_ne_true->ak,false_eq_true->a0,and_eq_true->cy,and_eq_true_iff->dt,eq_iff_iff->g0,not_true->ig,false_and->iu
open Nat renaming le_refl->aq,ne_of_lt->cj,le_of_lt->ck,lt_of_lt_of_le->cu,zero_le->c8,min_eq_left->fb,le_trans->fg,pow_le_pow_right->gq,mod_eq_of_lt->gv,lt_irrefl->iq,sub_self->jq,pow_succ->js,lt_succ_self->jv
open PySem.W renaming Frag->av,nsIn->ci,mg_none_of->cx,mg_of->gm,kia_one->g9,kitOne->jw,fnOf->j9
open Array renaming length_toList->aw,getElem?_eq_some_iff->bg,getElem?_toList->bh,getElem?_eq_getElem->bv,perm_iff_toList_perm->jf,size_extract->jh
open PyProof.Rows renaming wpS_bind->a9,wpS_pure->bi,boot_isinstance->en,callWith_type1->e9,wpS_forRange->gh,boot_tuple->ik,wpS_mono->iw,callWith_builtin1->jp
open PySem.PyData renaming depthAll->ba,eqv->c7,depth->er,strOk->kb
open Option renaming map_eq_some_iff->bo
open PySem.F renaming called_set->bp,plainAttrs_str->bw,slot_str_join->dv,type_str_join->dw,slot_list_append->ge,type_list_append->gf,plainAttrs_list->gn,slot_str_ascii_iterator_next->jr,plain_min_loop->ju,slot_str_split->jz,type_str_split->j3
open Option.some renaming inj->ca
open Int renaming eq_ofNat_of_zero_le->cn,toNat_natCast->fy,le_refl->jt
open PySem.Around renaming under_plainId->cv
open PySem.StrLaws renaming sumLen_le->cz
open Classical renaming byContradiction->du
open List.Nodup renaming length_le_of_subset->fh
open PySem.PassesOwn renaming never->fq
open PySem.Builtin.SmallTypes renaming nextOf->f8
open List.Pairwise renaming sublist->gi,imp_of_mem->gx
open PySem.Heap.SameBut renaming update->gj
open List.Perm renaming append_left->gw,refl->ip
open PySem.SetTable renaming insertAt->gz
open PyProof.Rows.F renaming plain_set_update_loop->i9
open PySem.Obj renaming mapSeq->jd
open PySem.Builtin.Tuple renaming tupleHashOf->jm
open PySem.Calls renaming spliced_cons->j4
namespace L3
structure Ord(lt:Nat->Nat->Bool):Prop where
 asy:∀a b,lt a b=true->lt b a=false
 tr:∀a b c,lt b a=false->lt c b=false->lt c a=false
noncomputable def zE(lt:Nat->Nat->Bool)(x:Nat):U Nat->U Nat
 | []=>[x]
 | y::l=>if lt y x=true then y::zE lt x l else x::y::l
noncomputable def Es(lt:Nat->Nat->Bool):U Nat->U Nat
 | []=>[]
 | x::l=>zE lt x<|Es lt l
noncomputable def srt(lt:Nat->Nat->Bool)(n:Nat):U Nat:=Es lt<|fu n
theorem JZ(lt:Nat->Nat->Bool)(x:Nat):∀l,(zE lt x l).Perm (x::l)
 | []=>ip _
 | y::l=>by
  unfold zE;split
  .exact((JZ lt x l).cons y).trans (List.Perm.swap x y l)
  .exact ip _
theorem ado(lt:Nat->Nat->Bool):∀l,(Es lt l).Perm l
 | []=>ip _
 | x::l=>(JZ lt x _).trans ((ado lt l).cons x)
def ahk(lt:Nat->Nat->Bool)(n:Nat):(srt lt n).Perm (fu n):=ado lt _
def abp(lt:Nat->Nat->Bool)(n:Nat):(srt lt n).length=n:=by rw[(ahk lt n).length_eq,jb]
theorem Ord.irr{lt:Nat->Nat->Bool}(o:Ord lt)(a:Nat):lt a a=false:=by
 cases h:lt a a with
 | false=>rfl
 | true=>exact h.symm.trans<|o.asy a a h
theorem ak7{lt:Nat->Nat->Bool}(o:Ord lt)(x:Nat):∀{l:U Nat},l.Pairwise (λa b=>lt b a=false)->(zE lt x l).Pairwise (λa b=>lt b a=false)
 | [],_=>by simp[zE]
 | y::l,h=>by
  have h':=gc.mp h;unfold zE;split
  .rename_i hy
   refine gc.mpr ⟨λz hz=>?_,ak7 o x h'.2⟩;rcases ar.mp ((JZ lt x l).mem_iff.mp hz)with rfl|hz
   .exact o.asy _ _ hy
   .exact h'.1 z hz
  .rename_i hy
   have vX:lt y x=false:=by simpa using hy
   refine gc.mpr ⟨λz hz=>?_,h⟩;rcases ar.mp hz with rfl|hz
   .exact vX
   .exact o.tr _ _ _ vX<|h'.1 z hz
theorem am0{lt:Nat->Nat->Bool}(o:Ord lt):∀l,(Es lt l).Pairwise (λa b=>lt b a=false)
 | []=>List.Pairwise.nil
 | x::l=>ak7 o x<|am0 o l
def atm{lt:Nat->Nat->Bool}(o:Ord lt)(n:Nat){i j:Nat}(h1:i<=j)(h2:j<n):lt ((srt lt n).getD j 0) ((srt lt n).getD i 0)=false:=by
 have hl:=abp lt n;have hj:j<(srt lt n).length:=by lia
 have hi:i<(srt lt n).length:=by lia
 rw[cw,cw,af hj,af hi];show lt (srt lt n)[j] (srt lt n)[i]=false;by_cases e:i=j
 .subst e;exact o.irr _
 .exact eu.mp (am0 o<|fu n) i j hi hj<|by lia
end L3
namespace L2
open PySem PySem.Spec PyProof.Rows
noncomputable abbrev Key:=Sum Int Str
noncomputable def AG:Key->aA->Bool
 | .inl k,v=>aA.isInt k v
 | .inr x,v=>aA.isStrOf x v
noncomputable def azn(w:aN):Key->Int
 | .inl k=>hashInt k
 | .inr x=>eI w x
theorem oz:∀{k:Key} {v:aA},AG k v=true->(∃i t,k=Sum.inl i/\v=aA.int i t)\/(∃x t,k=Sum.inr x/\v=aA.str x t)
 | .inl i,v,h=>by obtain⟨t,e⟩:=aA.isInt_shape (k:=i) (v:=v) h;exact .inl ⟨i,t,rfl,e⟩
 | .inr x,v,h=>by obtain⟨t,e⟩:=aA.isStrOf_shape (x:=x) (v:=v) h;exact .inr ⟨x,t,rfl,e⟩
def aj3(i:Int)(t:pF):AG (.inl i) (.int i t)=true:=by simp[AG,aA.isInt]
def al7(x:Str)(t:pF):AG (.inr x) (.str x t)=true:=by simp[AG,aA.isStrOf]
def avv(a b:Int):decide ((Sum.inl a:Key)=Sum.inl b)=(a==b):=by
 by_cases e:a=b
 .subst e;simp
 .have h:¬(Sum.inl a:Key)=Sum.inl b:=λq=>e<|Sum.inl.inj q;rw[decide_eq_false h];exact(beq_eq_false_iff_ne.mpr e).symm
def avz(a b:Str):decide ((Sum.inr a:Key)=Sum.inr b)=decide (a=b):=by
 by_cases e:a=b
 .subst e;simp
 .have h:¬(Sum.inr a:Key)=Sum.inr b:=λq=>e<|Sum.inr.inj q;rw[decide_eq_false h,decide_eq_false e]
def atw(a:Int)(b:Str):decide ((Sum.inl a:Key)=Sum.inr b)=false:=decide_eq_false λq=>nomatch q
def at5(a:Str)(b:Int):decide ((Sum.inr a:Key)=Sum.inl b)=false:=decide_eq_false λq=>nomatch q
noncomputable def p6(prog:aK)(w:aN):PySem.KeyKind prog w Key where
 is:=AG
 hash:=azn w
 inj:=λv a b ha hb=>by
  rcases oz ha with ⟨i,t,rfl,rfl⟩|⟨x,t,rfl,rfl⟩
  .rcases oz hb with ⟨j,u,rfl,e⟩|⟨y,u,rfl,e⟩
   .injection e with e1 _;rw[e1]
   .exact nomatch e
  .rcases oz hb with ⟨j,u,rfl,e⟩|⟨y,u,rfl,e⟩
   .exact nomatch e
   .injection e with e1 _;rw[e1]
 byValue:=λk v h=>by rcases oz h with ⟨i,t,rfl,rfl⟩|⟨x,t,rfl,rfl⟩<;>rfl
 pyHash:=λhv h=>by
  rcases oz hv with ⟨i,t,rfl,rfl⟩|⟨x,t,rfl,rfl⟩
  .exact Dy h
  .exact Dx h
 eqBool:=λhu hv h=>by
  rcases oz hu with ⟨i,t,rfl,rfl⟩|⟨x,t,rfl,rfl⟩
  .rcases oz hv with ⟨j,u,rfl,rfl⟩|⟨y,u,rfl,rfl⟩
   .rw[avv]at h;exact wpAny_eqBool_int h
   .rw[atw]at h;exact SeqAt.EqAt.int_str i t y u _ _ _ _ h
  .rcases oz hv with ⟨j,u,rfl,rfl⟩|⟨y,u,rfl,rfl⟩
   .rw[at5]at h;exact SeqAt.EqAt.str_int x t j u _ _ _ _ h
   .rw[avz]at h;exact wpAny_eqBool_str h
 «strs»:=λk x t v h=>by
  rcases oz h with ⟨i,u,rfl,e⟩|⟨y,u,rfl,e⟩
  .exact nomatch e
  .injection e with e1 _
   subst e1;cases v<;>rfl
def ae9(prog:aK)(w:aN)(i:Int)(t:pF):(p6 prog w).is (.inl i) (.int i t)=true:=aj3 i t
def afn(prog:aK)(w:aN)(x:Str)(t:pF):(p6 prog w).is (.inr x) (.str x t)=true:=al7 x t
inductive V where
 | non|bl (b:Bool)|int (i:Int)|str (x:Str)|byt (b:Array UInt8)|flt (b:UInt64)|ref (a:aE)|ty (n:String)
 deriving DecidableEq
def RelV:V->aA->Prop
 | .non,u=>u=aA.none
 | .bl b,u=>u=aA.bool b
 | .int i,u=>∃t,u=aA.int i t
 | .str x,u=>∃t,u=aA.str x t
 | .byt b,u=>∃t,u=aA.bytes b t
 | .flt b,u=>∃t,u=aA.float b t
 | .ref a,u=>u=aA.ref a
 | .ty n,u=>u=aA.type n
noncomputable abbrev Vals:U V->U aA->Prop:=dL RelV
theorem Vals.length{xs:U V}{us:U aA}(r:Vals xs us):xs.length=us.length:=dL.length r
theorem Vals.get:∀{xs:U V} {us:U aA} {i:Nat} {x:V},Vals xs us->xs[i]?=some x->∃u,us[i]?=some u/\RelV x u
 | _,_,_,_,.nil,e=>by simp at e
 | _,_,0,_,.cons r _,e=>by simp at e;subst e;exact⟨_,rfl,r⟩
 | _,_,i+1,x,.cons _ t,e=>by obtain⟨u,h1,h2⟩:=Vals.get (i:=i) (x:=x) t (by simpa using e);exact⟨u,by simpa using h1,h2⟩
theorem Vals.set{x:V}{u:aA}(r:RelV x u):∀{xs:U V} {us:U aA} (i:Nat),Vals xs us->Vals (xs.set i x) (us.set i u)
 | _,_,_,.nil=>.nil
 | _,_,0,.cons _ t=>.cons r t
 | _,_,i+1,.cons q t=>.cons q<|Vals.set r i t
theorem Vals.append:∀{xs ys:U V} {us ws:U aA},Vals xs us->Vals ys ws->Vals (xs++ys) (us++ws)
 | _,_,_,_,.nil,s=>s
 | _,_,_,_,.cons r t,s=>.cons r<|Vals.append t s
theorem Vals.take:∀{xs:U V} {us:U aA} (n:Nat),Vals xs us->Vals (xs.take n) (us.take n)
 | _,_,0,_=>.nil
 | _,_,_+1,.nil=>.nil
 | _,_,n+1,.cons r t=>.cons r<|Vals.take n t
theorem Vals.drop:∀{xs:U V} {us:U aA} (n:Nat),Vals xs us->Vals (xs.drop n) (us.drop n)
 | _,_,0,r=>r
 | _,_,_+1,.nil=>.nil
 | _,_,n+1,.cons _ t=>Vals.drop n t
def RelO:Option V->Option aA->Prop
 | some v,some u=>RelV v u
 | none,none=>True
 | _,_=>False
def KV{κ:Type}:U (κ×V)->U (κ×aA)->Prop:=dL λ(p:κ×V) (q:κ×aA)=>p.1=q.1/\RelV p.2 q.2
noncomputable def kV:Key->V
 | .inl i=>.int i
 | .inr x=>.str x
inductive HO where
 | lst (xs:U V)
 | tup (xs:U V)
 | dK (aR:U (Key×V))|dT (aR:U (U Key×V))
 | set (S:Int->Bool) (n:Nat)
 | ins (C dx:aE) (fs:U (Str×V))
 | own (x:aE)
 | xd (fs:U (Str×V))
 | met (f x:aE)
 | rng (lo hi:Int)
 | frz (o:Obj) (u:HO)
 | tbl (ps:Array aA)
 | ext (φ:Heap->Prop)
noncomputable abbrev Hp:=aE->Option HO
noncomputable def upd(H:Hp)(a:aE)(o:HO):Hp:=λb=>if b=a then some o else H b
def kr{H:Hp}{a:aE}{o:HO}:upd H a o a=some o:=by unfold upd;rw[if_pos rfl]
def lg{H:Hp}{a b:aE}{o:HO}(h:b≠a):upd H a o b=H b:=by unfold upd;rw[if_neg h]
def Ix{H:Hp}{a b:aE}{o u:HO}(h:H a=some o)(h':H b=some u)(d:o≠u):a≠b:=by intro e;subst e;rw[h]at h';exact d<|ca h'
def mw{H:Hp}{a b:aE}{o:HO}(h:H a=some o)(h':H b=none):a≠b:=by intro e;subst e;rw[h]at h';cases h'
section
variable(P:aK)(w:aN)
def ObjOk(H:Hp)(h:Heap)(a:aE):HO->Prop
 | .lst xs=>xs.length<=aF/\∃(its:U aA)(n:Nat),Vals xs its/\h.get? a=some {cls:=.type "list",data:=.seq its.toArray n}
 | .tup xs=>xs.length<=aF/\∃its:U aA,Vals xs its/\IsTup h a its.toArray
 | .dK aR=>aR.length<=aF/\(a==bE)=false/\∃vs,KV aR vs/\h.DictOf (p6 P w) a vs
 | .dT aR=>aR.length<=aF/\(a==bE)=false/\∃xs:U (U Key×aE×aA),
   dL (λ(p:U Key×V) (q:U Key×aE×aA)=>p.1=q.1/\H q.2.1=some (.tup<|p.1.map kV)/\RelV p.2 q.2.2) aR xs/\
   ∃o es ep,h.get? a=some o/\o.ExactDict/\o.data=.dict es ep/\es.toList=xs.map (entryOfKey<|iG<|p6 P w)/\(xs.map (·.1)).Nodup
 | .set S n=>h.SetOf (intKind P w) a S n
 | .ins C dx fs=>H dx=some (.own a)/\fs.length<=1000/\dx≠a/\h.get? a=some (PySem.W.instObj C dx)/\
   ∃mA,h.Ns1 dx mA/\(∀f,RelO (fs.lookup f)<|mA f)/\PySem.Within mA (fs.map (·.1))
 | .own _=>∃o,h.get? a=some o
 | .xd fs=>∃mA,h.Ns1 a mA/\∀f,RelO (fs.lookup f) (mA f)
 | .rng lo hi=>∃t u v,h.get? a=some {cls:=.type "range",data:=.fields #[.int lo t,.int hi u,.int 1 v]}
 | .frz o u=>h.get? a=some o/\ObjOk H h a u
 | .tbl ps=>h.get? a=some {cls:=.none,data:=.fields ps}
 | .met f x=>h.get? a=some (PySem.W.methodObj (.ref f)<|.ref x)
 | .ext φ=>φ h/\(∃o,h.get? a=some o)/\∀h1 h2:Heap,φ h1->(∀o,h1.get? a=some o->h2.get? a=some o)->φ h2
def HOk(H:Hp)(h:Heap):Prop:=∀a o,H a=some o->ObjOk P w H h a o
end
section
variable{P:aK}{w:aN}{H H':Hp}{h h':Heap}{a:aE}{o:HO}
theorem ObjOk.lt(x:ObjOk P w H h a o):a<h.objs.size:=by
 cases o with
 | lst xs=>obtain⟨_,_,_,_,e⟩:=x;exact be e
 | tup xs=>obtain⟨_,_,_,p⟩:=x;exact p.lt
 | dK aR=>obtain⟨_,_,_,_,o,_,_,e,_⟩:=x;exact be e
 | dT aR=>obtain⟨_,_,_,_,o,_,_,e,_⟩:=x;exact be e
 | set S n=>obtain⟨o,_,_,_,e,_⟩:=x;exact be e
 | ins C dx fs=>obtain⟨_,_,_,e,_⟩:=x;exact be e
 | own y=>obtain⟨_,e⟩:=x;exact be e
 | xd fs=>obtain⟨_,⟨_,_,_,e,_⟩,_⟩:=x;exact be e
 | rng lo hi=>obtain⟨_,_,_,e⟩:=x;exact be e
 | frz ob u=>obtain⟨e,_⟩:=x;exact be e
 | tbl ps=>exact be (show h.get? a=some _ from x)
 | met f y=>exact be (show h.get? a=some _ from x)
 | ext φ=>obtain⟨_,⟨_,e⟩,_⟩:=x;exact be e
theorem dL.mapP{α β:Type}{F G:α->β->Prop}:∀{l₁:List α} {l₂:List β},dL F l₁ l₂->(∀a b,F a b->G a b)->dL G l₁ l₂
 | _,_,.nil,_=>.nil
 | _,_,.cons r t,f=>.cons (f _ _ r)<|dL.mapP t f
theorem ObjOk.stay(x:ObjOk P w H h a o)(k:∀b u,(b=a\/H b=some (.own a))->h.get? b=some u->h'.get? b=some u)
  (ho:∀b,H b=some (.own a)->H' b=some (.own a)) (ht:∀b xs,H b=some (.tup xs)->H' b=some (.tup xs)):ObjOk P w H' h' a o:=by
 induction o with
 | lst xs=>obtain⟨z,its,n,r,e⟩:=x;exact⟨z,its,n,r,k _ _ (.inl rfl) e⟩
 | tup xs=>obtain⟨z,its,r,ob,e,c⟩:=x;exact⟨z,its,r,ob,k _ _ (.inl rfl) e,c⟩
 | dK aR=>obtain⟨z,y,vs,r,ob,es,ep,e,c⟩:=x;exact⟨z,y,vs,r,ob,es,ep,k _ _ (.inl rfl) e,c⟩
 | dT aR=>
  obtain⟨z,y,xs,r,ob,es,ep,e,c⟩:=x;exact⟨z,y,xs,dL.mapP r λp q z=>⟨z.1,ht _ _ z.2.1,z.2.2⟩,ob,es,ep,k _ _ (.inl rfl) e,c⟩
 | set S n=>obtain⟨ob,es,ep,t,e,c⟩:=x;exact⟨ob,es,ep,t,k _ _ (.inl rfl) e,c⟩
 | ins C dx fs=>
  obtain⟨d,z,ne,e,mA,⟨od,es,ep,e2,c⟩,r⟩:=x;exact⟨ho _ d,z,ne,k _ _ (.inl rfl) e,mA,⟨od,es,ep,k _ _ (.inr d) e2,c⟩,r⟩
 | own y=>obtain⟨ob,e⟩:=x;exact⟨ob,k _ _ (.inl rfl) e⟩
 | xd fs=>obtain⟨mA,⟨od,es,ep,e,c⟩,r⟩:=x;exact⟨mA,⟨od,es,ep,k _ _ (.inl rfl) e,c⟩,r⟩
 | rng lo hi=>obtain⟨t,u,v,e⟩:=x;exact⟨t,u,v,k _ _ (.inl rfl) e⟩
 | frz ob u ih=>obtain⟨e,q⟩:=x;exact⟨k _ _ (.inl rfl) e,ih q⟩
 | tbl ps=>
  have e:h.get? a=some {cls:=.none,data:=.fields ps}:=x;show h'.get? a=some {cls:=.none,data:=.fields ps};exact k a _ (.inl rfl) e
 | met f y=>
  have e:h.get? a=some (PySem.W.methodObj (.ref f)<|.ref y):=x;show h'.get? a=some (PySem.W.methodObj (.ref f)<|.ref y);exact k a _ (.inl rfl) e
 | ext φ=>obtain⟨p,⟨o,e⟩,st⟩:=x;exact⟨st _ _ p λo q=>k _ _ (.inl rfl) q,⟨o,k _ _ (.inl rfl) e⟩,st⟩
theorem HOk.lt(x:HOk P w H h)(e:H a=some o):a<h.objs.size:=(x a o e).lt
theorem HOk.fresh(x:HOk P w H h)(e:h.objs.size<=a):H a=none:=by
 cases q:H a with
 | none=>rfl
 | some u=>exact absurd (cu (x.lt q) e)<|iq _
def HOk.kept(x:HOk P w H h)(k:∀b u,h.get? b=some u->h'.get? b=some u):HOk P w H h':=λa o e=>
 (x a o e).stay (λb u _ q=>k b u q) (λ_ q=>q) λ_ _ q=>q
def HOk.laid(x:HOk P w H h)(k:∀b u,h.get? b=some u->h'.get? b=some u)(hp:h.objs.size<=a)(new:ObjOk P w (upd H a o) h' a o):HOk P w (upd H a o) h':=λb u e=>by
 have hn:=x.fresh hp;by_cases hb:b=a
 .subst hb;rw[kr]at e;cases e;exact new
 .rw[lg hb]at e;exact(x b u e).stay (λc v _ q=>k c v q) (λc q=>by rw[lg (mw q hn)];exact q) λc xs q=>by rw[lg (mw q hn)];exact q
end
def Rd(H:Hp)(a:aE)(u:HO):Prop:=H a=some u\/∃o,H a=some (.frz o u)
def Rd.ok{P:aK}{w:aN}{H:Hp}{h:Heap}{a:aE}{u:HO}(r:Rd H a u)(x:HOk P w H h):ObjOk P w H h a u:=by
 rcases r with r|⟨o,r⟩
 .exact x a u r
 .obtain⟨_,q⟩:=x a _ r;exact q
def Mut:Option HO->Prop
 | some (.lst _)=>True
 | some (.dK _)=>True
 | some (.dT _)=>True
 | some (.set _ _)=>True
 | some (.ins _ _ _)=>True
 | some (.ext _)=>True
 | _=>False
section
variable{P:aK}{w:aN}{H:Hp}{h h':Heap}{x e:aE}{o':HO}
def HOk.write(ok:HOk P w H h)(mu:Mut (H x))(he:e=x\/H e=some (.own x))(k:∀b u,b≠e->h.get? b=some u->h'.get? b=some u)(Ao:∃u,h'.get? e=some u)
  (new:ObjOk P w (upd H x o') h' x o'):HOk P w (upd H x o') h':=λb u q=>by
 have A3:∀c y,H c=some (.own y)->c≠x:=λc y r z=>by subst z;rw[r]at mu;exact mu
 have Fz:∀c xs,H c=some (.tup xs)->c≠x:=λc xs r z=>by subst z;rw[r]at mu;exact mu
 by_cases hb:b=x
 .subst hb;rw[kr]at q;cases q;exact new
 .rw[lg hb]at q;by_cases yQ:b=e
  .have q':H b=some (.own x):=by
    rcases he with z|z
    .exact absurd (yQ.trans z) hb
    .rw[yQ];exact z
   rw[q]at q';cases q';obtain⟨v,hv⟩:=Ao;exact⟨v,by rw[yQ];exact hv⟩
  .refine(ok b u q).stay (λc v hc r=>k c v ?_ r) (λc r=>by rw[lg (A3 c b r)];exact r) λc xs r=>by rw[lg (Fz c xs r)];exact r
   rcases hc with rfl|hc
   .exact yQ
   .rintro rfl;rcases he with z|z
    .exact A3 c b hc z
    .rw[hc]at z;cases z;exact hb rfl
end
structure Un(fs ex:U aE)(H H':Hp)(h h':Heap):Prop where
 keep:∀b o,h.get? b=some o->H b=none->b∉fs->b∉ex->h'.get? b=some o
 slot:∀b o,h.get? b=some o->H b=none->b∈fs->b∉ex->∃sl,h'.get? b=some {o with slots:=sl}
 free:∀b o,h.get? b=some o->H b=none->b∉ex->H' b=none
 there:∀b o,h.get? b=some o->b∉ex->∃o',h'.get? b=some o'
 tups:∀b xs,H b=some (.tup xs)->H' b=some (.tup xs)
 frzs:∀b o u,H b=some (.frz o u)->H' b=some (.frz o u)
 tbls:∀b ps,H b=some (.tbl ps)->∃more,H' b=some (.tbl<|ps++more)
section
variable{fs fs' ex ex':U aE}{H H1 H2:Hp}{h h1 h2 h':Heap}{a x e:aE}{o:HO}
def Un.any(u:Un fs ex H H1 h h1){b:aE}{ob:Obj}(q:h.get? b=some ob)(n:H b=none)(hx:b∉ex):∃sl,h1.get? b=some {ob with slots:=sl}:=by
 by_cases hb:b∈fs
 .exact u.slot b ob q n hb hx
 .exact⟨ob.slots,u.keep b ob q n hb hx⟩
def Un.kept(k:∀b u,h.get? b=some u->h'.get? b=some u):Un fs ex H H h h':=
 ⟨λb ob q _ _ _=>k b ob q,λb ob q _ _ _=>⟨ob.slots,k b ob q⟩,λ_ _ _ n _=>n,λb ob q _=>⟨ob,k b ob q⟩,λ_ _ q=>q,λ_ _ _ q=>q,λ_ ps q=>⟨#[],by rw[q];simp⟩⟩
def Un.refl:Un fs ex H H h h:=Un.kept λ_ _ q=>q
def Un.laid(k:∀b u,h.get? b=some u->h'.get? b=some u)(hp:h.objs.size<=a)(hn:H a=none):Un fs ex H (upd H a o) h h' where
 keep:=λb u q _ _ _=>k b u q
 slot:=λb u q _ _ _=>⟨u.slots,k b u q⟩
 free:=λb u q n _=>by rw[lg (cj<|cu (be q) hp)];exact n
 there:=λb u q _=>⟨u,k b u q⟩
 tups:=λb xs q=>by rw[lg (mw q hn)];exact q
 frzs:=λb u xs q=>by rw[lg (mw q hn)];exact q
 tbls:=λb ps q=>⟨#[],by rw[lg (mw q hn),q];simp⟩
def Un.write(mu:Mut (H x))(he:e=x\/H e=some (.own x))(k:∀b u,b≠e->h.get? b=some u->h'.get? b=some u)(Ao:∃u,h'.get? e=some u):Un fs ex H (upd H x o) h h':=by
 have hx:∀b,H b=none->b≠x:=λb n z=>by subst z;rw[n]at mu;exact mu
 have hb:∀b,H b=none->b≠e:=λb n z=>by
  subst z;rcases he with r|r
  .exact hx b n r
  .rw[n]at r;cases r
 have hm:∀b u,H b=some u->¬Mut (some u)->b≠x:=λb u q nm z=>by subst z;rw[q]at mu;exact nm mu
 refine⟨λb u q n _ _=>k b u (hb b n) q,λb u q n _ _=>⟨u.slots,k b u (hb b n) q⟩,λb u q n _=>by rw[lg (hx b n)];exact n,λb u q _=>?_,
  λb xs q=>by rw[lg (hm b _ q λz=>z)];exact q,λb u xs q=>by rw[lg (hm b _ q λz=>z)];exact q,λb ps q=>⟨#[],by rw[lg (hm b _ q λz=>z),q];simp⟩⟩
 by_cases yQ:b=e
 .subst yQ;exact Ao
 .exact⟨u,k b u yQ q⟩
end
noncomputable def trk(h:Heap)(H:Hp):U aE:=(fu h.objs.size).filter λa=>(H a).isSome
noncomputable def vC(h:Heap)(H:Hp):Heap:=PySem.W.hideAll h<|trk h H
def ajm(h:Heap)(H:Hp):(vC h H).objs.size=h.objs.size:=PySem.W.hideAll_size _ _
def aof{h:Heap}{H:Hp}{b:aE}{o:Obj}(e:h.get? b=some o)(n:H b=none):(vC h H).get? b=some o:=
 PySem.W.hideAll_get _ e λhm=>by have q:(H b).isSome=true:=(gg.mp hm).2;rw[n]at q;simp at q
theorem as0{h:Heap}{H:Hp}{b:aE}{o:Obj}(e:(vC h H).get? b=some o):h.get? b=some o/\H b=none:=by
 have e':h.get? b=some o:=PySem.W.of_hideAll (trk h H) e;refine⟨e',?_⟩;cases q:H b with
 | none=>rfl
 | some x=>
  have hm:b∈trk h H:=gg.mpr ⟨ir.mpr<|be e',by simp[q]⟩;have z:(vC h H).get? b=none:=PySem.W.hideAll_none (trk h H) hm;rw[z]at e;cases e
structure Mod(K:av)(mg:Str->Option aA)(base:Heap):Prop where
 kin:K.In base
 glob:base.Ns aM mg
 blt:∃mb,base.Ns Au mb/\∀x:Str,x≠"__name__"->mb x=cQ x
 nolimit:base.NoLimit
structure Cx where
 prog:aK
 w:aN
 K:av
 mg:Str->Option aA
 base:Heap
 A:Around
 N:U Str
 s₀:aB
 H₀:Hp
 env:sQ
 outer:U sQ
 stack:U sQ
 ex:U aE
 fn:Str->Bool
 calm:Bool
 pn:U (aE×Obj)
 xe:aA->aB->Prop
noncomputable def frs(l:U sQ):U aE:=l.filterMap (·.frame)
noncomputable abbrev Cx.fs(X:Cx):U aE:=frs X.outer
def Vis(sc:cX)(x:Str):Prop:=sc.names.lookup x=some .local\/sc.names.lookup x=some .cell\/sc.names.lookup x=some .free
def Loc(sc:cX)(x:Str):Prop:=sc.names.lookup x=some .local\/sc.names.lookup x=some .cell
def ay5(env:sQ)(h:Heap)(m:Str->Option aA)(x:Str)(u:aA):Prop:=
 (env.kindOf x=some .local/\m x=some u)\/((env.kindOf x=some .cell\/env.kindOf x=some .free)/\∃c,env.cells.lookup x=some c/\h.IsCell c (some u))
structure Cx.Ok(X:Cx):Prop where
 mod:Mod X.K X.mg X.base
 kind:X.env.scope.kind=.function
 glob:X.env.globals=aM
 blt:X.env.builtins=Au
 above:X.s₀.heap.objs.size<=X.env.locals
 inj:∀x y c,X.env.cells.lookup x=some c->X.env.cells.lookup y=some c->x=y
 has:∀x,(X.env.kindOf x=some .cell\/X.env.kindOf x=some .free)->∃c,X.env.cells.lookup x=some c
 cab:∀x c,X.fn x=true->X.env.cells.lookup x=some c->X.s₀.heap.objs.size<=c
 hd:X.calm=true->X.A.handled=none
 frames:X.A.frames=some X.stack
 stk:X.stack=X.outer\/(X.stack=X.env::X.outer/\X.env.frame=some X.env.locals)
 exf:∀b∈X.ex,b≠X.env.locals/\∀x c,X.env.cells.lookup x=some c->c≠b
 bs:∀b o,X.base.get? b=some o->X.s₀.heap.get? b=some o/\X.H₀ b=none
 bsz:X.base.objs.size<=X.s₀.heap.objs.size
 noex:∀b o,X.base.get? b=some o->b∉X.ex
 exfs:∀b∈X.ex,b∉X.fs
 funs:X.s₀.heap.FunFrames X.base X.outer
 frf:∀b∈X.fs,X.H₀ b=none
structure Inv(X:Cx)(aC:U (aE×Obj))(σ:U (Option V))(H:Hp)(s:aB):Prop where
 ok:X.Ok
 os:s.os=X.s₀.os
 bare:gB s.gens
 base:Un X.fs X.ex X.H₀ H X.s₀.heap s.heap
 loc:∃m,s.heap.Ns X.env.locals m/\∀(i:Nat)(x:Str)(v:V),X.N[i]?=some x->σ[i]?=some (some v)->Vis X.env.scope x->∃u,RelV v u/\ay5 X.env s.heap m x u
 cell:∀x c,X.env.cells.lookup x=some c->∃v,s.heap.IsCell c v
 free:H X.env.locals=none
 freeC:∀x c,X.env.cells.lookup x=some c->H c=none
 pin:∀p∈X.pn++aC,s.heap.get? p.1=some p.2/\H p.1=none/\p.1≠X.env.locals/\p.1∉X.fs/\∀v,p.2.data≠.cell v
 hok:HOk X.prog X.w H s.heap
 len:σ.length=X.N.length
section
variable{X:Cx}{aC:U (aE×Obj)}{σ:U (Option V)}{H H':Hp}{s:aB}{h':Heap}
def Cx.Ok.nofr(ok:X.Ok){b:aE}{o:Obj}(e:X.base.get? b=some o):b∉X.fs:=λhb=>by have:=(ok.funs.mem hb).1;rw[e]at this;cases this
theorem Inv.bs(I:Inv X aC σ H s):∀b o,X.base.get? b=some o->s.heap.get? b=some o/\H b=none:=λb o e=>
 ⟨I.base.keep b o (I.ok.bs b o e).1 (I.ok.bs b o e).2 (I.ok.nofr e) (I.ok.noex b o e),I.base.free b o (I.ok.bs b o e).1 (I.ok.bs b o e).2 (I.ok.noex b o e)⟩
def Inv.bk(I:Inv X aC σ H s):∀b o,X.base.get? b=some o->s.heap.get? b=some o:=λb o e=>(I.bs b o e).1
theorem Inv.mod(I:Inv X aC σ H s):Mod X.K X.mg X.base:=I.ok.mod
def Inv.kIn(I:Inv X aC σ H s):X.K.In s.heap:=I.ok.mod.kin.keeps I.bk
theorem Inv.lt(I:Inv X aC σ H s):X.env.locals<s.heap.objs.size:=let ⟨_,hn,_⟩:=I.loc;hn.lt
def Inv.sz(I:Inv X aC σ H s):X.s₀.heap.objs.size<=s.heap.objs.size:=fg I.ok.above<|ck I.lt
def Inv.nofs(I:Inv X aC σ H s){a:aE}(h:s.heap.objs.size<=a):a∉X.fs:=λhb=>by obtain⟨_,o,ho,_⟩:=I.ok.funs.mem hb;exact absurd (cu (be ho)<|fg I.sz h)<|iq _
def Inv.cne(I:Inv X aC σ H s):∀x c,X.env.cells.lookup x=some c->c≠X.env.locals:=λx c e z=>by obtain⟨v,o,ho,hd⟩:=I.cell x c e;obtain⟨m,⟨o',es,ep,oN,mV,_⟩,_⟩:=I.loc;rw[z,oN]at ho;cases ho;rw[mV]at hd;cases hd
theorem Inv.funs(I:Inv X aC σ H s):s.heap.FunFrames X.base X.outer:=by
 have all:∀(l:U sQ),(∀b∈frs l,b∈X.fs)->X.s₀.heap.FunFrames X.base l->s.heap.FunFrames X.base l:=by
  intro l;induction l with
  | nil=>intro _ _;trivial
  | cons env r ih=>
   intro hs hl;obtain⟨hk,⟨L,o,hf,hn,ho,hd⟩,hr⟩:=hl;have hL:L∈X.fs:=hs L (by unfold frs;rw[List.filterMap_cons,hf];exact am);obtain⟨sl,e⟩:=I.base.slot L o ho (I.ok.frf L hL) hL λz=>I.ok.exfs L z hL;exact⟨hk,⟨L,_,hf,hn,e,hd⟩,ih (λb hb=>hs b<|by unfold frs;rw[List.filterMap_cons,hf];exact ao _ hb) hr⟩
 exact all X.outer (λ_ hb=>hb) I.ok.funs
theorem Inv.stack(I:Inv X aC σ H s):s.heap.FunFrames X.base X.stack:=by
 rcases I.ok.stk with e|⟨e,hf⟩
 .rw[e];exact I.funs
 .rw[e];obtain⟨m,hn,_⟩:=I.loc;refine .cons (by rw[I.ok.kind];decide) hf hn ?_ I.funs;exact Heap.get?_none_of_le<|fg I.ok.bsz I.ok.above
def Inv.stkSub(I:Inv X aC σ H s):∀b∈frs X.stack,b∈X.env.locals::X.fs:=λb hb=>by
 rcases I.ok.stk with e|⟨e,hf⟩
 .rw[e]at hb;exact ao _ hb
 .rw[e]at hb;unfold frs at hb;rw[List.filterMap_cons,hf]at hb;exact hb
def Inv.stkFree(I:Inv X aC σ H s):∀b∈frs X.stack,H b=none:=λb hb=>by
 rcases ar.mp (I.stkSub b hb)with e|hb
 .rw[e];exact I.free
 .obtain⟨_,o,ho,_⟩:=I.ok.funs.mem hb;exact I.base.free b o ho (I.ok.frf b hb) λz=>I.ok.exfs b z hb
def Inv.step{g':Array kG}{t':Nat}{d':Drawn}{ch:U aE}(I:Inv X aC σ H s)
  (oS:∀b∈ch,(b∈X.ex\/X.s₀.heap.objs.size<=b)/\b≠X.env.locals/\(∀x c,X.env.cells.lookup x=some c->c≠b)/\∀p∈X.pn++aC,p.1≠b)
  (keep:∀b o,b≠X.env.locals->b∉X.fs->b∉ch->s.heap.get? b=some o->H b=none->h'.get? b=some o)
  (slot:∀b o,b≠X.env.locals->b∈X.fs->b∉ch->s.heap.get? b=some o->H b=none->∃sl,h'.get? b=some {o with slots:=sl}) (free:∀b o,b∉ch->s.heap.get? b=some o->H b=none->H' b=none)
  (there:∀b o,b∉ch->s.heap.get? b=some o->∃o',h'.get? b=some o')
  (tups:∀b xs,H b=some (.tup xs)->H' b=some (.tup xs)) (frzs:∀b o u,H b=some (.frz o u)->H' b=some (.frz o u)) (tbls:∀b ps,H b=some (.tbl ps)->∃more,H' b=some (.tbl<|ps++more))
  (ns:∀m,s.heap.Ns X.env.locals m->h'.Ns X.env.locals m) (hok:HOk X.prog X.w H' h') (hg:gB g') :
  Inv X aC σ H' {s with heap:=h',gens:=g',drawn:=d',toks:=t'}:=by
 have neL:∀b o,X.s₀.heap.get? b=some o->b≠X.env.locals:=λb o e=>cj<|cu (be e) I.ok.above;have DM:∀b o,X.s₀.heap.get? b=some o->b∉X.ex->b∉ch:=λb o e hx hb=>by
  rcases(oS b hb).1 with z|z
  .exact hx z
  .exact absurd (cu (be e) z)<|iq _
 have wX:∀x c,X.env.cells.lookup x=some c->∀v,s.heap.IsCell c v->h'.IsCell c v:=λx c e v ⟨o,ho,hd⟩=>by
  have A5:c∉ch:=λz=>(oS c z).2.2.1 x c e rfl;by_cases hc:c∈X.fs
  .obtain⟨sl,q⟩:=slot c o (I.cne x c e) hc A5 ho<|I.freeC x c e;exact⟨_,q,hd⟩
  .exact⟨o,keep c o (I.cne x c e) hc A5 ho<|I.freeC x c e,hd⟩
 refine⟨I.ok,I.os,hg,⟨λb o e n hb hx=>?_,λb o e n hb hx=>?_,λb o e n hx=>?_,λb o e hx=>?_,λb xs e=>tups b xs<|I.base.tups b xs e,λb o xs e=>frzs b o xs<|I.base.frzs b o xs e,λb ps e=>?_⟩,?_,λx c e=>?_,?_,λx c e=>?_,λp hp=>?_,hok,I.len⟩
 .exact keep b o (neL b o e) hb (DM b o e hx) (I.base.keep b o e n hb hx)<|I.base.free b o e n hx
 .obtain⟨sl,e1⟩:=I.base.slot b o e n hb hx;obtain⟨sl',e2⟩:=slot b _ (neL b o e) hb (DM b o e hx) e1<|I.base.free b o e n hx;exact⟨sl',e2⟩
 .obtain⟨o',e1⟩:=I.base.there b o e hx;exact free b o' (DM b o e hx) e1<|I.base.free b o e n hx
 .obtain⟨o',e1⟩:=I.base.there b o e hx;exact there b o' (DM b o e hx) e1
 .obtain⟨m1,e1⟩:=I.base.tbls b ps e;obtain⟨m2,e2⟩:=tbls b _ e1;exact⟨m1++m2,by rw[e2,Array.append_assoc]⟩
 .obtain⟨m,hn,hl⟩:=I.loc;refine⟨m,ns m hn,λi x v e1 e2 e3=>?_⟩;obtain⟨u,r,l⟩:=hl i x v e1 e2 e3;refine⟨u,r,?_⟩;rcases l with l|⟨k,c,e,z⟩
  .exact .inl l
  .exact .inr ⟨k,c,e,wX x c e _ z⟩
 .obtain⟨v,z⟩:=I.cell x c e;exact⟨v,wX x c e v z⟩
 .obtain⟨m,⟨o,_,_,ho,_⟩,_⟩:=I.loc;exact free _ o (λz=>(oS _ z).2.1 rfl) ho I.free
 .obtain⟨v,o,ho,hd⟩:=I.cell x c e;exact free c o (λz=>(oS c z).2.2.1 x c e rfl) ho<|I.freeC x c e
 .obtain⟨e,n,ne,nf,d⟩:=I.pin p hp;have A5:p.1∉ch:=λz=>(oS p.1 z).2.2.2 p hp rfl;exact⟨keep p.1 p.2 ne nf A5 e n,free p.1 p.2 A5 e n,ne,nf,d⟩
def Inv.un{t':Nat}(I:Inv X aC σ H s)(u:Un X.fs [] H H' s.heap h')(hok:HOk X.prog X.w H' h'):Inv X aC σ H' {s with heap:=h',toks:=t'}:=by
 obtain⟨m,⟨o,es,ep,ho,r⟩,_⟩:=id I.loc;obtain⟨sl,hL⟩:=u.any ho I.free (by simp);exact I.step (g':=s.gens) (d':=s.drawn) (ch:=[]) (λ_ z=>nomatch z) (λb o _ hb _ e n=>u.keep b o e n hb<|by simp) (λb o _ hb _ e n=>u.slot b o e n hb<|by simp) (λb o _ e n=>u.free b o e n<|by simp) (λb o _ e=>u.there b o e<|by simp) u.tups u.frzs u.tbls (λm' hm=>by obtain⟨o',Hl,Hm,oN,r'⟩:=hm;rw[ho]at oN;cases oN;exact⟨_,Hl,Hm,hL,r'⟩) hok I.bare
def Inv.call{g':Array kG}{t':Nat}{d':Drawn}{ch:U aE}(I:Inv X aC σ H s)(u:Un (frs X.stack) ch H H' s.heap h')(hok:HOk X.prog X.w H' h')(hg:gB g')
  (oS:∀b∈ch,(b∈X.ex\/X.s₀.heap.objs.size<=b)/\b≠X.env.locals/\(∀x c,X.env.cells.lookup x=some c->c≠b)/\∀p∈X.pn++aC,p.1≠b) :
  Inv X aC σ H' {s with heap:=h',gens:=g',drawn:=d',toks:=t'}:=by
 obtain⟨m,⟨o,es,ep,ho,r⟩,_⟩:=id I.loc;obtain⟨sl,hL⟩:=u.any ho I.free λz=>(oS _ z).2.1 rfl;exact I.step (ch:=ch) oS (λb o hL hb hc e n=>u.keep b o e n (λz=>(ar.mp<|I.stkSub b z).elim hL hb) hc) (λb o _ _ hc e n=>u.any e n hc) (λb o hc e n=>u.free b o e n hc) (λb o hc e=>u.there b o e hc) u.tups u.frzs u.tbls (λm' hm=>by obtain⟨o',Hl,Hm,oN,r'⟩:=hm;rw[ho]at oN;cases oN;exact⟨_,Hl,Hm,hL,r'⟩) hok hg
def Inv.turned{t':Nat}{it:aE}(I:Inv X aC σ H s)(k:∀b o,b≠it->s.heap.get? b=some o->h'.get? b=some o)(hn:H it=none)(hL:it≠X.env.locals)
  (h1:it∈X.ex\/X.s₀.heap.objs.size<=it) (h2:∀x c,X.env.cells.lookup x=some c->c≠it) (h3:∀p∈X.pn++aC,p.1≠it):Inv X aC σ H {s with heap:=h',toks:=t'}:=by
 have nit:∀b u,H b=some u->b≠it:=λb u e z=>by rw[z,hn]at e;cases e
 refine I.step (g':=s.gens) (d':=s.drawn) (ch:=[it]) (λb hb=>?_) (λb o _ _ hc e _=>k b o (λz=>hc<|by simp[z]) e) (λb o _ _ hc e _=>⟨o.slots,k b o (λz=>hc<|by simp[z]) e⟩) (λ_ _ _ _ n=>n)
  (λb o hc e=>⟨o,k b o (λz=>hc<|by simp[z]) e⟩) (λ_ _ e=>e) (λ_ _ _ e=>e) (λb ps e=>⟨#[],by rw[e];simp⟩) (λm hm=>?_) (λb u e=>?_) I.bare
 .have e:b=it:=by simpa using hb
  subst e;exact⟨h1,hL,h2,h3⟩
 .obtain⟨o,es,ep,ho,r⟩:=hm;exact⟨o,es,ep,k _ o (Ne.symm hL) ho,r⟩
 .refine(I.hok b u e).stay (λc v hc q=>k c v ?_ q) (λ_ q=>q) λ_ _ q=>q;rcases hc with z|z
  .rw[z];exact nit b u e
  .exact nit c _ z
def Inv.tok(I:Inv X aC σ H s)(t:Nat):Inv X aC σ H {s with toks:=t}:=I.un (h':=s.heap) (t':=t) Un.refl I.hok
theorem Inv.kept{t':Nat}(I:Inv X aC σ H s)(k:∀b u,s.heap.get? b=some u->h'.get? b=some u):Inv X aC σ H {s with heap:=h',toks:=t'}:=I.un (Un.kept k)<|I.hok.kept k
theorem Inv.laid{a:aE}{o:HO}{t':Nat}(I:Inv X aC σ H s)(k:∀b u,s.heap.get? b=some u->h'.get? b=some u)(hp:s.heap.objs.size<=a)(new:ObjOk X.prog X.w (upd H a o) h' a o) :
  Inv X aC σ (upd H a o) {s with heap:=h',toks:=t'}:=I.un (Un.laid k hp<|I.hok.fresh hp)<|I.hok.laid k hp new
theorem Inv.write{x e:aE}{o:HO}{t':Nat}(I:Inv X aC σ H s)(mu:Mut (H x))(he:e=x\/H e=some (.own x))(k:∀b u,b≠e->s.heap.get? b=some u->h'.get? b=some u)(Ao:∃u,h'.get? e=some u)
  (new:ObjOk X.prog X.w (upd H x o) h' x o):Inv X aC σ (upd H x o) {s with heap:=h',toks:=t'}:=I.un (Un.write mu he k Ao)<|I.hok.write mu he k Ao new
def Inv.weak{σ':U (Option V)}(I:Inv X aC σ H s)(hl:σ'.length=σ.length)(w:∀(i:Nat) v,σ'[i]?=some (some v)->σ[i]?=some (some v)):Inv X aC σ' H s:=
 ⟨I.ok,I.os,I.bare,I.base,let ⟨m,hn,tF⟩:=I.loc;⟨m,hn,λi x v e1 e2 e3=>tF i x v e1 (w i v e2) e3⟩,I.cell,I.free,I.freeC,I.pin,I.hok,hl.trans I.len⟩
def Inv.pins_of{vR:U (aE×Obj)}(I:Inv X aC σ H s)(h:∀p∈vR,s.heap.get? p.1=some p.2/\H p.1=none/\p.1≠X.env.locals/\p.1∉X.fs/\∀v,p.2.data≠.cell v):Inv X vR σ H s:=
 ⟨I.ok,I.os,I.bare,I.base,I.loc,I.cell,I.free,I.freeC,λp hp=>(bm.mp hp).elim (λz=>I.pin p<|f9 _ z) (h p),I.hok,I.len⟩
def agy{N:U Str}(hN:N.Nodup){i j:Nat}{x:Str}(a:N[i]?=some x)(b:N[j]?=some x):i=j:=by obtain⟨h1,e1⟩:=ap.mp a;obtain⟨h2,e2⟩:=ap.mp b;exact(List.getElem_inj hN).mp (e1.trans e2.symm)
def aeo{M:Dg}{A:Around}{E:aA->aB->Prop}{i:Nat}{x:Str}{v:V}{u:aA}{Q:Unit->aB->Prop}(I:Inv X aC σ H s)(hN:X.N.Nodup)(hi:X.N[i]?=some x)(hx:Loc X.env.scope x)(r:RelV v u)
  (h:∀s',Inv X aC (σ.set i<|some v) H s'->(∃a,b7 a s.heap s'.heap/\(a=X.env.locals\/X.env.cells.lookup x=some a))->Q () s') (hf:X.fn x=true\/X.env.scope.names.lookup x=some .local:=by first|exact .inl rfl|exact .inr rfl|assumption):aG M A (storeName X.env x u) Q E s:=by
 obtain⟨m,hn,hl⟩:=id I.loc;have GT:(X.env.scope.kind==.class||(X.env.scope.kind==.module&&X.env.locals != X.env.globals))=false:=by rw[I.ok.kind];rfl
 have hiσ:i<σ.length:=by rw[I.len];exact(ap.mp hi).1
 have cne:=I.cne;have nG:∀{a:aE} {h':Heap},(∃o,s.heap.get? a=some o/\H a=none)->b7 a s.heap h'->HOk X.prog X.w H h':=λ{a h'} ha hs b ob e=>by
  obtain⟨_,_,cG⟩:=ha;refine(I.hok b ob e).stay (λc w' hc q=>(hs.2 c ?_).trans q) (λ_ q=>q) λ_ _ q=>q;rintro rfl;rcases hc with rfl|hc
  .rw[cG]at e;cases e
  .rw[cG]at hc;cases hc
 rcases hx with hk|hk
 .refine wpAny_storeName_local hk hn (λh' fQ hs=>?_) GT;obtain⟨oL,_,_,BB,_⟩:=id hn;refine h _ ⟨I.ok,I.os,I.bare,⟨λb o e n hb hx=>?_,λb o e n hb hx=>?_,I.base.free,λb o e hx=>?_,I.base.tups,I.base.frzs,I.base.tbls⟩,⟨_,fQ,λj y v' e1 e2 e3=>?_⟩,λy c e=>?_,I.free,I.freeC,λp hp=>?_,nG ⟨oL,BB,I.free⟩ hs,by simpa using I.len⟩ ⟨_,hs,.inl rfl⟩
  .exact(hs.2 b<|cj<|cu (be e) I.ok.above).trans (I.base.keep b o e n hb hx)
  .obtain⟨sl,e1⟩:=I.base.slot b o e n hb hx;exact⟨sl,(hs.2 b<|cj<|cu (be e) I.ok.above).trans e1⟩
  .obtain⟨o',e1⟩:=I.base.there b o e hx;exact⟨o',(hs.2 b<|cj<|cu (be e) I.ok.above).trans e1⟩
  .by_cases hj:j=i
   .subst hj;rw[hi]at e1;cases e1;rw[List.getElem?_set_self hiσ]at e2;cases e2;exact⟨u,r,.inl ⟨hk,by simp⟩⟩
   .rw[List.getElem?_set_ne (Ne.symm hj)]at e2;obtain⟨u',r',q⟩:=hl j y v' e1 e2 e3;refine⟨u',r',?_⟩;rcases q with ⟨k,e⟩|⟨k,c,e,z⟩
    .refine .inl ⟨k,?_⟩;have:y≠x:=λe=>hj<|agy hN e1<|e▸hi;simp[this,e]
    .exact .inr ⟨k,c,e,z.sameBut hs<|cne y c e⟩
  .obtain⟨w',z⟩:=I.cell y c e;exact⟨w',z.sameBut hs<|cne y c e⟩
  .obtain⟨e,n,ne,nf,d⟩:=I.pin p hp;exact⟨(hs.2 p.1 ne).trans e,n,ne,nf,d⟩
 .have GH:X.fn x=true:=by
   rcases hf with z|z
   .exact z
   .rw[z]at hk;cases hk
  obtain⟨c,hc⟩:=I.ok.has x<|.inl hk;obtain⟨w',z⟩:=I.cell x c hc;refine wpAny_storeName_cell I.ok.kind hk hc z λh' pT hs=>?_;obtain⟨oc,hoc,Gd⟩:=id z;refine h {s with heap:=h'} ⟨I.ok,I.os,I.bare,⟨λb o e n hb hx=>?_,λb o e n hb hx=>?_,I.base.free,λb o e hx=>?_,I.base.tups,I.base.frzs,I.base.tbls⟩,⟨m,hn.sameBut hs<|Ne.symm<|cne x c hc,λj y v' e1 e2 e3=>?_⟩,λy c' e=>?_,I.free,I.freeC,λp hp=>?_,nG ⟨oc,hoc,I.freeC x c hc⟩ hs,by simpa using I.len⟩ ⟨c,hs,.inr hc⟩
  .exact(hs.2 b<|cj<|cu (be e)<|I.ok.cab x c GH hc).trans (I.base.keep b o e n hb hx)
  .obtain⟨sl,e1⟩:=I.base.slot b o e n hb hx;exact⟨sl,(hs.2 b<|cj<|cu (be e)<|I.ok.cab x c GH hc).trans e1⟩
  .obtain⟨o',e1⟩:=I.base.there b o e hx;exact⟨o',(hs.2 b<|cj<|cu (be e)<|I.ok.cab x c GH hc).trans e1⟩
  .by_cases hj:j=i
   .subst hj;rw[hi]at e1;cases e1;rw[List.getElem?_set_self hiσ]at e2;cases e2;exact⟨u,r,.inr ⟨.inl hk,c,hc,pT⟩⟩
   .rw[List.getElem?_set_ne (Ne.symm hj)]at e2;obtain⟨u',r',q⟩:=hl j y v' e1 e2 e3;refine⟨u',r',?_⟩;rcases q with q|⟨k,c',e,z'⟩
    .exact .inl q
    .refine .inr ⟨k,c',e,z'.sameBut hs ?_⟩;rintro rfl;exact hj<|agy hN e1<|I.ok.inj _ _ _ e hc▸hi
  .by_cases hcc:c'=c
   .subst hcc;exact⟨_,pT⟩
   .obtain⟨w2,z2⟩:=I.cell y c' e;exact⟨w2,z2.sameBut hs hcc⟩
  .obtain⟨e,n,ne,nf,d⟩:=I.pin p hp;refine⟨(hs.2 p.1 ?_).trans e,n,ne,nf,d⟩;intro q;rw[q,hoc]at e;have q':oc=p.2:=ca e;exact d w'<|by rw[<-q'];exact Gd
def aht{M:Dg}{A:Around}{E:aA->aB->Prop}{i:Nat}{x:Str}{v:V}{u:aA}{Q:Unit->aB->Prop}(I:Inv X aC σ H s)(hN:X.N.Nodup)(hi:X.N[i]?=some x)(hx:Loc X.env.scope x)(r:RelV v u)
  (h:∀s',Inv X aC (σ.set i<|some v) H s'->Q () s') (hf:X.fn x=true\/X.env.scope.names.lookup x=some .local:=by first|exact .inl rfl|exact .inr rfl|assumption):aG M A (storeName X.env x u) Q E s:=
 aeo I hN hi hx r (λs' I' _=>h s' I') hf
def Inv.call'{s':aB}{ch:U aE}(I:Inv X aC σ H s)(ho:s'.os=s.os)(u:Un (frs X.stack) ch H H' s.heap s'.heap)(hok:HOk X.prog X.w H' s'.heap)(hg:gB s'.gens)
  (oS:∀b∈ch,(b∈X.ex\/X.s₀.heap.objs.size<=b)/\b≠X.env.locals/\(∀x c,X.env.cells.lookup x=some c->c≠b)/\∀p∈X.pn++aC,p.1≠b):Inv X aC σ H' s':=by
 obtain⟨h',g',d',t',o'⟩:=s';have e:o'=s.os:=ho;subst e;exact I.call (g':=g') (t':=t') (d':=d') u hok hg oS
end
abbrev XK:=aA->Option aE->Hp->Prop
noncomputable abbrev St:=U<|Option V
abbrev VK:=V->Hp->Prop
abbrev TE:=St->Hp->VK->Prop
abbrev TT:=St->Hp->(Bool->Hp->Prop)->Prop
abbrev TA:=St->Hp->(U V->Hp->Prop)->Prop
structure oY where
 nx:St->Hp->Prop
 rt:VK
 bk:St->Hp->Prop:=λ_ _=>False
 ct:St->Hp->Prop:=λ_ _=>False
abbrev TS:=oY->St->Hp->Prop
def EP(X:Cx)(aC:U (aE×Obj))(σ:St)(Q:VK)(u:aA)(s':aB):Prop:=∃v H',Inv X aC σ H' s'/\RelV v u/\Q v H'
def TP(X:Cx)(aC:U (aE×Obj))(σ:St)(Q:Bool->Hp->Prop)(b:Bool)(s':aB):Prop:=∃H',Inv X aC σ H' s'/\Q b H'
def AP(X:Cx)(aC:U (aE×Obj))(σ:St)(Q:U V->Hp->Prop)(us:U aA)(s':aB):Prop:=∃vs H',Inv X aC σ H' s'/\Vals vs us/\Q vs H'
def SP(X:Cx)(aC:U (aE×Obj))(D:oY)(f:Flow)(s':aB):Prop:=
 match f with
 | .next=>∃σ' H',Inv X aC σ' H' s'/\D.nx σ' H'
 | .brk=>∃σ' H',Inv X aC σ' H' s'/\D.bk σ' H'
 | .cont=>∃σ' H',Inv X aC σ' H' s'/\D.ct σ' H'
 | .ret u=>∃v σ' H',Inv X aC σ' H' s'/\RelV v u/\D.rt v H'
def PE(X:Cx)(e:Expr)(t:TE):Prop:=
 ∀(aC:U (aE×Obj)) (s:aB) (σ:St) (H:Hp) (Q:VK),Inv X aC σ H s->t σ H Q->aG (aH X.prog X.w) X.A (cD e X.env) (EP X aC σ Q) X.xe s
def PT(X:Cx)(e:Expr)(t:TT):Prop:=
 ∀(aC:U (aE×Obj)) (s:aB) (σ:St) (H:Hp) (Q:Bool->Hp->Prop),Inv X aC σ H s->t σ H Q->aG (aH X.prog X.w) X.A (isTrue e X.env<|cD e X.env) (TP X aC σ Q) X.xe s
def PW(X:Cx)(e:Expr)(t:TT):Prop:=
 ∀(gE:oE aA) (aC:U (aE×Obj)) (s:aB) (σ:St) (H:Hp) (Q:Bool->Hp->Prop),Inv X aC σ H s->t σ H Q->aG (aH X.prog X.w) X.A (isTrue e X.env gE) (TP X aC σ Q) X.xe s
def PW.pt{X:Cx}{e:Expr}{t:TT}(h:PW X e t):PT X e t:=h _
def PA(X:Cx)(es:U Expr)(t:TA):Prop:=
 ∀(pos:eB) (aC:U (aE×Obj)) (s:aB) (σ:St) (H:Hp) (Q:U V->Hp->Prop),Inv X aC σ H s->t σ H Q->aG (aH X.prog X.w) X.A (mM<|bN pos<|aQ es X.env) (AP X aC σ Q) X.xe s
def PS(X:Cx)(st:aW)(t:TS):Prop:=
 ∀(aC:U (aE×Obj)) (s:aB) (σ:St) (H:Hp) (D:oY),Inv X aC σ H s->t D σ H->aG (aH X.prog X.w) X.A (exec st X.env) (SP X aC D) X.xe s
def PSs(X:Cx)(st:U aW)(t:TS):Prop:=
 ∀(aC:U (aE×Obj)) (s:aB) (σ:St) (H:Hp) (D:oY),Inv X aC σ H s->t D σ H->aG (aH X.prog X.w) X.A (execs st X.env) (SP X aC D) X.xe s
def thn{α:Type}{t:oE α}{Q Q':α->aB->Prop}{M:Dg}{A:Around}{E:aA->aB->Prop}{s:aB}(h:aG M A t Q E s)(hQ:∀a s,Q a s->Q' a s):aG M A t Q' E s:=jg h hQ λ_ _ x=>x
section
variable{X:Cx}
def jB(i:Nat):TE:=λσ H Q=>∃v,σ[i]?=some (some v)/\Q v H
def tC(v:V):TE:=λ_ H Q=>Q v H
def aug{i:Nat}{x:Str}{pos:eB}(hN:X.N[i]?=some x)(hv:Vis X.env.scope x)(hd:(x==("__debug__" : Str))=false:=by decide)(pR:(x==("__classdict__" : Str))=false:=by decide):PE X (.Name x pos) (jB i):=by
 intro aC s σ H Q I h;obtain⟨v,e,h⟩:=h;obtain⟨m,hn,hl⟩:=I.loc;obtain⟨u,r,l⟩:=hl i x v hN e hv;have fin:EP X aC σ Q u s:=⟨v,H,I,r,h⟩;rcases l with ⟨hk,hm⟩|⟨hk,c,hc,wK⟩
 .exact zU (wpAny_loadName_local I.ok.kind hk hn hm fin) hd
 .rcases hk with hk|hk
  .exact zU (wpAny_loadName_cell I.ok.kind hk hc wK fin) hd
  .exact zU (wpAny_loadName_free I.ok.kind hk hc wK fin pR) hd
def km{i j pos}:PE X (.Constant (.int i) j pos) (tC<|.int i):=λ_ _ _ H _ I h=>wpAny_Constant_int ⟨.int i,H,I.tok _,⟨_,rfl⟩,h⟩
def uh{b j pos}:PE X (.Constant (.bool b) j pos) (tC<|.bl b):=λ_ _ _ H _ I h=>Constant_bool ⟨.bl b,H,I,rfl,h⟩
def CQ{j pos}:PE X (.Constant .none j pos) (tC .non):=λ_ _ _ H _ I h=>Constant_none ⟨.non,H,I,rfl,h⟩
def l7{x j pos}:PE X (.Constant (.str x) j pos) (tC<|.str x):=λ_ _ _ H _ I h=>Calls.Constant_str ⟨.str x,H,I.tok _,⟨_,rfl⟩,h⟩
def Gl(X:Cx)(x:Str):Prop:=X.env.kindOf x=some .globalImplicit
def am7{E:aA->aB->Prop}{aC:U (aE×Obj)}{s:aB}{σ:St}{H:Hp}{x:Str}{u:aA}{pos:eB}{Q:aA->aB->Prop}(I:Inv X aC σ H s)(hg:Gl X x)(hm:X.mg x=some u)(h:Q u s)
  (hd:(x==("__debug__" : Str))=false:=by decide):aG (aH X.prog X.w) X.A (cD (.Name x pos) X.env) Q E s:=
 Calls.Name_function_global I.ok.kind hg (Calls.loadGlobal_global (by rw[I.ok.glob];exact I.mod.glob.keeps I.bk) hm h) hd
def sv{E:aA->aB->Prop}{aC:U (aE×Obj)}{s:aB}{σ:St}{H:Hp}{x:Str}{u:aA}{pos:eB}{Q:aA->aB->Prop}(I:Inv X aC σ H s)(hg:Gl X x)(hm:X.mg x=none)(hv:cQ x=some u)(h:Q u s)
  (hn:x≠"__name__":=by decide) (hd:(x==("__debug__" : Str))=false:=by decide):aG (aH X.prog X.w) X.A (cD (.Name x pos) X.env) Q E s:=by
 obtain⟨mb,h1,h2⟩:=I.mod.blt;exact Calls.Name_function_global I.ok.kind hg (Calls.loadGlobal_builtin (by rw[I.ok.glob];exact I.mod.glob.keeps I.bk) hm (by rw[I.ok.blt];exact h1.keeps I.bk) ((h2 x hn).trans hv) h) hd
def JC{x:Str}{v:V}{u:aA}{pos:eB}(hg:Gl X x)(hm:X.mg x=some u)(r:RelV v u)(hd:(x==("__debug__" : Str))=false:=by decide):PE X (.Name x pos) (tC v):=
 λ_ _ _ H _ I h=>am7 I hg hm ⟨v,H,I,r,h⟩ hd
def o8{x:Str}{v:V}{u:aA}{pos:eB}(hg:Gl X x)(hm:X.mg x=none)(hv:cQ x=some u)(r:RelV v u)(hn:x≠"__name__":=by decide)(hd:(x==("__debug__" : Str))=false:=by decide):PE X (.Name x pos) (tC v):=
 λ_ _ _ H _ I h=>sv I hg hm hv ⟨v,H,I,r,h⟩ hn hd
variable{a b:Expr}{ta tb:TE}{pos:eB}
def tB(t:TE):TT:=λσ H Q=>t σ H λx H1=>∃c,x=.bl c/\Q c H1
def o4{e:Expr}{t:TE}(h:PE X e t)(he:∀gE,isTrue e X.env gE=(do let v <-gE;AU e.pos;fZ [v] (truthy v)):=by intro _;rfl):PT X e (tB t):=by intro aC s σ H Q I hw;refine isTrue_plain (thn (h aC s σ H _ I hw) λv s1 ⟨x,H1,I1,r1,q1⟩=>?_)<|he _;obtain⟨d,rfl,q⟩:=q1;cases r1;exact e8 ⟨H1,I1,q⟩
variable{tA tB':TT}{bA:U Expr}
def tOr(t u:TT):TT:=λσ H Q=>t σ H λc H1=>if c=true then Q true H1 else u σ H1 Q
def azk(t:TT):TT:=λσ H Q=>t σ H λc H1=>Q (!c) H1
theorem rj(ha:PT X a tA):PW X (.BoolOp .Or [a] pos) tA:=by
 intro wh aC s σ H Q I h;refine isTrue_or<|thn (ha aC s σ H Q I h) λc s1 e=>?_;cases c with
 | false=>exact isTrue_or_nil e
 | true=>exact e
theorem vz(ha:PT X a tA)(hb:PW X (.BoolOp .Or (b::bA) pos) tB'):PW X (.BoolOp .Or (a::b::bA) pos) (tOr tA tB'):=by
 intro wh aC s σ H Q I h;refine isTrue_or<|thn (ha aC s σ H _ I h) λc s1 ⟨H1,I1,q1⟩=>?_;cases c with
 | true=>exact⟨H1,I1,q1⟩
 | false=>exact hb wh aC s1 σ H1 Q I1 q1
def om(ha:PT X a tA):PT X (.UnaryOp .Not a pos) (azk tA):=by intro aC s σ H Q I h;exact isTrue_not<|ha aC s σ H (λc H1=>Q (!c) H1) I h
def aw2(ta tb:TE):TE:=λσ H Q=>ta σ H λx H1=>∃c,x=.bl c/\if c=true then tb σ H1 Q else Q (.bl false) H1
def aza(ta tb:TE):TE:=λσ H Q=>ta σ H λx H1=>∃c,x=.bl c/\if c=true then Q (.bl true) H1 else tb σ H1 Q
def axj(ta:TE):TE:=λσ H Q=>ta σ H λx H1=>∃c,x=.bl c/\Q (.bl<|!c) H1
def qq{op}{t:TE}(h:PE X a t):PE X (.BoolOp op [a] pos) t:=λaC s σ H Q I hw=>BoolOp_one<|h aC s σ H Q I hw
theorem p7(ha:PE X a ta)(hb:PE X (.BoolOp .And (b::bA) pos) tb):PE X (.BoolOp .And (a::b::bA) pos) (aw2 ta tb):=by
 intro aC s σ H Q I h;refine BoolOp_and<|thn (ha aC s σ H _ I h) λv s1 ⟨x,H1,I1,r1,q1⟩=>?_;obtain⟨c,rfl,q1⟩:=q1;cases r1;refine e8 ?_;cases c with
 | true=>exact hb aC s1 σ H1 Q I1 q1
 | false=>exact⟨.bl false,H1,I1,rfl,q1⟩
theorem AF(ha:PE X a ta)(hb:PE X (.BoolOp .Or (b::bA) pos) tb):PE X (.BoolOp .Or (a::b::bA) pos) (aza ta tb):=by
 intro aC s σ H Q I h;refine BoolOp_or<|thn (ha aC s σ H _ I h) λv s1 ⟨x,H1,I1,r1,q1⟩=>?_;obtain⟨c,rfl,q1⟩:=q1;cases r1;refine e8 ?_;cases c with
 | false=>exact hb aC s1 σ H1 Q I1 q1
 | true=>exact⟨.bl true,H1,I1,rfl,q1⟩
def avl(ha:PE X a ta):PE X (.UnaryOp .Not a pos) (axj ta):=by intro aC s σ H Q I h;refine UnaryOp_<|thn (ha aC s σ H _ I h) λv s1 ⟨x,H1,I1,r1,q1⟩=>?_;obtain⟨c,rfl,q1⟩:=q1;cases r1;exact not_of<|e8 ⟨.bl<|!c,H1,I1,rfl,q1⟩
def tIf(t:TT)(ta tb:TE):TE:=λσ H Q=>t σ H λc H1=>if c=true then ta σ H1 Q else tb σ H1 Q
theorem ahi{c:Expr}(hc:PT X c tA)(ha:PE X a ta)(hb:PE X b tb):PE X (.IfExp c a b pos) (tIf tA ta tb):=by
 intro aC s σ H Q I h;refine wpAny_IfExp<|thn (hc aC s σ H _ I h) λd s1 ⟨H1,I1,q1⟩=>?_;cases d with
 | true=>exact ha aC s1 σ H1 Q I1 q1
 | false=>exact hb aC s1 σ H1 Q I1 q1
end
def SqL(K:av)(H:Hp)(a:aE)(xs:U V):Prop:=
 Rd H a (.lst xs)\/
  ∃(o:Obj)(its:Array aA)(n:Nat),K.lookup a=some o/\o.cls=.type "list"/\o.dict=none/\o.data=.seq its n/\its.size<=aF/\Vals xs its.toList
def SqT(K:av)(H:Hp)(a:aE)(xs:U V):Prop:=
 Rd H a (.tup xs)\/
  ∃(o:Obj)(its:Array aA)(n:Nat),K.lookup a=some o/\o.cls=.type "tuple"/\o.data=.seq its n/\its.size<=aF/\Vals xs its.toList
noncomputable def azr:aA->Option V
 | .none=>some .non
 | .bool b=>some (.bl b)
 | .int i _=>some (.int i)
 | .str x _=>some (.str x)
 | .bytes b _=>some (.byt b)
 | .float b _=>some (.flt b)
 | .ref a=>some (.ref a)
 | .type n=>some (.ty n)
 | _=>none
theorem RelV.abs{x:V}{u:aA}(r:RelV x u):azr u=some x:=by
 cases x with
 | non=>cases r;rfl
 | bl _=>cases r;rfl
 | int _=>obtain⟨t,rfl⟩:=r;rfl
 | str _=>obtain⟨t,rfl⟩:=r;rfl
 | byt _=>obtain⟨t,rfl⟩:=r;rfl
 | flt _=>obtain⟨t,rfl⟩:=r;rfl
 | ref _=>cases r;rfl
 | ty _=>cases r;rfl
def RelV.inj{x y:V}{u:aA}(r:RelV x u)(q:RelV y u):x=y:=ca<|r.abs.symm.trans q.abs
theorem Vals.inj:∀{xs ys:U V} {us:U aA},Vals xs us->Vals ys us->xs=ys
 | _,_,_,.nil,.nil=>rfl
 | _,_,_,.cons r t,.cons r' t'=>by rw[r.inj r',Vals.inj t t']
section
variable{X:Cx}{aC:U (aE×Obj)}{σ:St}{H:Hp}{s:aB}{a:aE}{xs ys:U V}
def SqL.of{K:av}(h:H a=some (.lst xs)):SqL K H a xs:=.inl<|.inl h
def SqT.of{K:av}(h:H a=some (.tup xs)):SqT K H a xs:=.inl<|.inl h
def Inv.list(I:Inv X aC σ H s)(h:SqL X.K H a xs):∃its:U aA,Vals xs its/\PlainL s.heap a its.toArray/\xs.length<=aF:=by
 rcases h with h|⟨o,its,n,hk,hc,hd,hs,hz,r⟩
 .obtain⟨z,its,n,r,e⟩:=h.ok I.hok;exact⟨its,r,⟨_,n,e,rfl,rfl,rfl⟩,z⟩
 .refine⟨its.toList,r,⟨o,n,I.kIn a o hk,hc,hd,by simpa using hs⟩,?_⟩;have e:=r.length;simp only[aw]at e;lia
def Inv.tuple(I:Inv X aC σ H s)(h:SqT X.K H a xs):∃its:U aA,Vals xs its/\IsTup s.heap a its.toArray/\xs.length<=aF:=by
 rcases h with h|⟨o,its,n,hk,hc,hs,hz,r⟩
 .obtain⟨z,its,r,p⟩:=h.ok I.hok;exact⟨its,r,p,z⟩
 .refine⟨its.toList,r,⟨o,I.kIn a o hk,hc,n,by simpa using hs⟩,?_⟩;have e:=r.length;simp only[aw]at e;lia
def Inv.list_inj(I:Inv X aC σ H s)(h:SqL X.K H a xs)(h':SqL X.K H a ys):xs=ys:=by
 obtain⟨its,r,⟨o,n,e,_,_,d⟩,_⟩:=I.list h;obtain⟨its',r',⟨o',n',e',_,_,d'⟩,_⟩:=I.list h';rw[e]at e';cases e';rw[d]at d';injection d' with d1 _
 have:its=its':=by simpa using congrArg Array.toList d1
 subst this;exact r.inj r'
def Inv.tuple_inj(I:Inv X aC σ H s)(h:SqT X.K H a xs)(h':SqT X.K H a ys):xs=ys:=by
 obtain⟨its,r,⟨o,e,_,n,d⟩,_⟩:=I.tuple h;obtain⟨its',r',⟨o',e',_,n',d'⟩,_⟩:=I.tuple h';rw[e]at e';cases e';rw[d]at d';injection d' with d1 _
 have:its=its':=by simpa using congrArg Array.toList d1
 subst this;exact r.inj r'
end
noncomputable abbrev Cx.wish(X:Cx)(E:aA->aB->Prop):Cx:={X with xe:=E}
noncomputable abbrev Cx.nox(X:Cx):Cx:=X.wish λ_ _=>False
theorem Cx.Ok.wish{X:Cx}(ok:X.Ok)(E:aA->aB->Prop):(X.wish E).Ok:=
 ⟨ok.mod,ok.kind,ok.glob,ok.blt,ok.above,ok.inj,ok.has,ok.cab,ok.hd,ok.frames,ok.stk,ok.exf,ok.bs,ok.bsz,ok.noex,ok.exfs,ok.funs,ok.frf⟩
def Cx.Ok.unwish{X:Cx}{E:aA->aB->Prop}(ok:(X.wish E).Ok):X.Ok:=
 ⟨ok.mod,ok.kind,ok.glob,ok.blt,ok.above,ok.inj,ok.has,ok.cab,ok.hd,ok.frames,ok.stk,ok.exf,ok.bs,ok.bsz,ok.noex,ok.exfs,ok.funs,ok.frf⟩
section
variable{X:Cx}{aC:U (aE×Obj)}{σ:St}{H:Hp}{s:aB}{E:aA->aB->Prop}
theorem Inv.wish(I:Inv X aC σ H s)(E:aA->aB->Prop):Inv (X.wish E) aC σ H s:=⟨I.ok.wish E,I.os,I.bare,I.base,I.loc,I.cell,I.free,I.freeC,I.pin,I.hok,I.len⟩
theorem Inv.unwish(I:Inv (X.wish E) aC σ H s):Inv X aC σ H s:=⟨I.ok.unwish,I.os,I.bare,I.base,I.loc,I.cell,I.free,I.freeC,I.pin,I.hok,I.len⟩
theorem SP.unwish{D:oY}{f:Flow}{s':aB}(h:SP (X.wish E) aC D f s'):SP X aC D f s':=by
 cases f with
 | next=>obtain⟨σ',H',I,q⟩:=h;exact⟨σ',H',I.unwish,q⟩
 | brk=>obtain⟨σ',H',I,q⟩:=h;exact⟨σ',H',I.unwish,q⟩
 | cont=>obtain⟨σ',H',I,q⟩:=h;exact⟨σ',H',I.unwish,q⟩
 | ret u=>obtain⟨v,σ',H',I,r,q⟩:=h;exact⟨v,σ',H',I.unwish,r,q⟩
theorem PSs.nox{st:U aW}{t:TS}(h:PSs X.nox st t):PSs X st t:=λaC s σ H D I hw=>
 jg (h aC s σ H D (I.wish _) hw) (λ_ _ q=>q.unwish) λ_ _ z=>False.elim z
end
section
variable{X:Cx}{st:aW}{bA:U aW}{t u:TS}{e:Expr}{te:TE}{pos:eB}
def axe:TS:=λD σ H=>D.nx σ H
def ax7(t u:TS):TS:=λD σ H=>t {D with nx:=u D} σ H
def ng:PSs X [] axe:=λ_ _ σ H _ I h=>gD ⟨σ,H,I,h⟩
theorem kl(h1:PS X st t)(h2:PSs X bA u):PSs X (st::bA) (ax7 t u):=by
 intro aC s σ H D I h;refine Dz<|thn (h1 aC s σ H {D with nx:=u D} I h) λf s1 q=>?_;cases f with
 | next=>
  obtain⟨σ',H',I',q⟩:=q;exact h2 aC s1 σ' H' D I' q
 | ret v=>exact q
 | brk=>exact q
 | cont=>exact q
theorem ku(h1:PS X st t):PSs X [st] t:=by
 intro aC s σ H D I h;refine Dz<|thn (h1 aC s σ H D I h) λf s1 q=>?_;cases f with
 | next=>exact gD q
 | ret v=>exact q
 | brk=>exact q
 | cont=>exact q
def Inv.quiet{aC:U (aE×Obj)}{σ:St}{H:Hp}{s:aB}(I:Inv X aC σ H s):interactive X.env=false:=by simp[interactive,I.ok.kind]
def axo(te:TE):TS:=λD σ H=>te σ H λ_ H1=>D.nx σ H1
def vy(he:PE X e te)(hs:qB e none pos.line X.env=aT false:=by rfl):PS X (.Expr e pos) (axo te):=by intro aC s σ H D I h;exact wpAny_Expr_any (thn (he aC s σ H _ I h) λv s1 ⟨x,H1,I1,r1,q1⟩=>⟨σ,H1,I1,q1⟩) I.quiet hs
def ay7(te:TE):TS:=λD σ H=>te σ H D.rt
def li(he:PE X e te):PS X (.Return (some e) pos) (ay7 te):=by intro aC s σ H D I h;exact wpAny_Return_some<|thn (he aC s σ H _ I h) λv s1 ⟨x,H1,I1,r1,q1⟩=>⟨x,σ,H1,I1,r1,q1⟩
def azm(c:TT)(t u:TS):TS:=λD σ H=>c σ H λb H1=>if b=true then t D σ H1 else u D σ H1
theorem qm{c:Expr}{a b:U aW}{tc:TT}(hc:PT X c tc)(ha:PSs X a t)(hb:PSs X b u):PS X (.If c a b pos) (azm tc t u):=by
 intro aC s σ H D I h;refine wpAny_If<|thn (hc aC s σ H _ I h) λd s1 ⟨H1,I1,q1⟩=>?_;cases d with
 | true=>exact ha aC s1 σ H1 D I1 q1
 | false=>exact hb aC s1 σ H1 D I1 q1
def atp:TS:=λ_ _ _=>False
def JO:PS X st atp:=λ_ _ _ _ _ _ h=>h.elim
end
abbrev TG:=V->St->Hp->(St->Hp->Prop)->Prop
abbrev TGs:=U V->St->Hp->(St->Hp->Prop)->Prop
def PG(X:Cx)(bR:Expr)(t:TG):Prop:=
 ∀(aC:U (aE×Obj)) (s:aB) (σ:St) (H:Hp) (v:V) (u:aA) (Q:St->Hp->Prop),Inv X aC σ H s->RelV v u->t v σ H Q->
  aG (aH X.prog X.w) X.A (jL bR X.env u) (λ_ s'=>∃σ' H',Inv X aC σ' H' s'/\Q σ' H') X.xe s
def PGs(X:Cx)(ts:U Expr)(t:TGs):Prop:=
 ∀(aC:U (aE×Obj)) (s:aB) (σ:St) (H:Hp) (vs:U V) (us:U aA) (Q:St->Hp->Prop),Inv X aC σ H s->Vals vs us->t vs σ H Q->
  aG (aH X.prog X.w) X.A (assignInOrder ((bZ ts X.env).map (·.2)) us) (λ_ s'=>∃σ' H',Inv X aC σ' H' s'/\Q σ' H') X.xe s
abbrev Hv:=V->V->V->Hp->(Hp->Prop)->Prop
def ayi(X:Cx)(t:Hv):Prop:=
 ∀(aC:U (aE×Obj)) (s:aB) (σ:St) (H:Hp) (o i v:V) (ov iv u:aA) (Q:Hp->Prop),Inv X aC σ H s->RelV o ov->RelV i iv->RelV v u->t o i v H Q->
  aG (aH X.prog X.w) X.A (setItem ov iv u) (λ_ s'=>∃H',Inv X aC σ H' s'/\Q H') X.xe s
section
variable{X:Cx}{pos:eB}
def ub(i:Nat):TG:=λv σ H Q=>Q (σ.set i<|some v) H
def k7{i:Nat}{x:Str}(hN:X.N.Nodup)(hi:X.N[i]?=some x)(hx:Loc X.env.scope x)(hf:X.fn x=true\/X.env.scope.names.lookup x=some .local:=by first|exact .inl rfl|exact .inr rfl|assumption):PG X (.Name x pos) (ub i):=by intro aC s σ H v u Q I r h;exact AS<|aht I hN hi hx r (λs' I'=>⟨_,H,I',h⟩) hf
def CB:TGs:=λvs σ H Q=>vs=[]/\Q σ H
def ym(t:TG)(u:TGs):TGs:=λvs σ H Q=>∃v r,vs=v::r/\t v σ H λσ' H'=>u r σ' H' Q
def qc:PGs X [] CB:=by intro aC s σ H vs us Q I r h;obtain⟨e,h⟩:=h;subst e;cases r;exact assignInOrder_nil ⟨σ,H,I,h⟩
theorem lm{e:Expr}{es:U Expr}{t:TG}{u:TGs}(h1:PG X e t)(h2:PGs X es u)
  (hs:(bZ (e::es) X.env).map (·.2)=jL e X.env::(bZ es X.env).map (·.2):=by rfl):PGs X (e::es) (ym t u):=by
 intro aC s σ H vs us Q I r h;obtain⟨v,vr,e1,h⟩:=h;subst e1;cases r with
 | cons r rr=>
  rw[hs];refine assignInOrder_cons<|thn (h1 aC s σ H _ _ _ I r h) λ_ s1 ⟨σ1,H1,I1,q1⟩=>?_;exact h2 aC s1 σ1 H1 _ _ Q I1 rr q1
def Aw(K:av)(n:Nat)(t:TGs):TG:=λv σ H Q=>∃a xs,v=.ref a/\SqT K H a xs/\xs.length=n/\t xs σ H Q
def wq{es:U Expr}{k:Nat}{t:TGs}{n:Nat}(hc:X.calm=true)(h:PGs X es t)
  (hn:(bZ es X.env).length=n:=by rfl) (bS:(bZ es X.env).findIdx? (·.1)=none:=by rfl):PG X (.Tuple es k pos) (Aw X.K n t):=by
 intro aC s σ H v u Q I r hw;obtain⟨a,xs,e1,hq,hl,hw⟩:=hw;subst e1;cases r;obtain⟨its,rv,ht,hz⟩:=I.tuple hq;refine assign_Tuple_tuple (I.ok.hd hc) ht (by simp[hn,<-hl,rv.length]) bS λh' hx=>?_;have I1:Inv X aC σ H {s with heap:=h'}:=I.kept (t':=s.toks) λb o e=>hx b o (cj<|be e) e;exact h aC _ σ H xs _ Q I1 (by simpa using rv) hw
def azi(to ti:TE)(t:Hv):TG:=λv σ H Q=>to σ H λo H1=>ti σ H1 λi H2=>t o i v H2 λH3=>Q σ H3
def as8{o i:Expr}{to ti:TE}{t:Hv}(ho:PE X o to)(hi:PE X i ti)(hs:ayi X t)
  (ha:∀v,jL (.Subscript o i pos) X.env v=(do
   let ov <-fZ [v] (cD o X.env)
   let iv <-fZ [v,ov] (cD i X.env)
   AU pos
   fZ [v,ov,iv] (setItem ov iv v)
   release [v,ov,iv] []):=by intro _;rfl):PG X (.Subscript o i pos) (azi to ti t):=by
 intro aC s σ H v u Q I r h;rw[ha];refine aa<|db<|thn (ho aC s σ H _ I h) λov s1 ⟨x,H1,I1,r1,q1⟩=>?_;refine aa<|db<|thn (hi aC s1 σ H1 _ I1 q1) λiv s2 ⟨y,H2,I2,r2,q2⟩=>?_;refine aa<|fH<|aa<|db<|thn (hs aC s2 σ H2 x y v ov iv u _ I2 r1 r2 r q2) λ_ s3 ⟨H3,I3,q3⟩=>?_;exact wpAny_release ⟨σ,H3,I3,q3⟩
def HU(te:TE)(g:TG):TS:=λD σ H=>te σ H λx H1=>g x σ H1 D.nx
def C3{tg e:Expr}{te:TE}{g:TG}(he:PE X e te)(hg:PG X tg g)(hs:swapsWithSole [tg] e pos.line X.env=aT false:=by rfl)(hw:swappedStores [tg] e X.env=aT none:=by rfl)
  (h1:(bZ [tg] X.env).map (·.2)=[jL tg X.env]:=by rfl):PS X (.Assign [tg] e pos) (HU te g):=by
 intro aC s σ H D I h;refine wpAny_Assign_stores (thn (he aC s σ H _ I h) λv s1 ⟨x,H1,I1,r1,q1⟩=>?_) hs hw;rw[h1];exact thn (hg aC s1 σ H1 x v _ I1 r1 q1) λ_ s2 q=>q
def me{i:Nat}{x:Str}{e:Expr}{te:TE}{qH:eB}(hN:X.N.Nodup)(hi:X.N[i]?=some x)(hx:Loc X.env.scope x)(he:PE X e te)(hs:qB e (some<|.Name x qH) pos.line X.env=aT false:=by rfl)(hf:X.fn x=true\/X.env.scope.names.lookup x=some .local:=by first|exact .inl rfl|exact .inr rfl|assumption) :
  PS X (.Assign [.Name x qH] e pos) (HU te<|ub i):=by
 intro aC s σ H D I h;refine wpAny_Assign_Name (thn (he aC s σ H _ I h) λv s1 ⟨y,H1,I1,r1,q1⟩=>?_) hs;exact aht I1 hN hi hx r1 (λs2 I2=>⟨_,H1,I2,q1⟩) hf
def at2(c:TT)(tb:TS):TS:=λD σ H=>∃W:Nat->St->Hp->Prop,(∃m,W m σ H)/\∀m σ H,W m σ H->
 c σ H λb H1=>if b=true then ∃N:St->Hp->Prop,(∀σ' H',N σ' H'->∃m',m'<m/\W m' σ' H')/\tb {D with nx:=N,ct:=N,bk:=D.nx} σ H1 else D.nx σ H1
theorem ao6{c:Expr}{body:U aW}{tc:TT}{tb:TS}(hp:PassesOwn (aH X.prog X.w) X.A X.env X.xe)(hc:PT X c tc)(hb:PSs X body tb):PS X (.While c body [] pos) (at2 tc tb):=by
 intro aC s σ H D I h;obtain⟨W,⟨m0,w0⟩,mJ⟩:=h;refine wpAny_While<|codeAny_whileLoop (λn s'=>∃σ' H',Inv X aC σ' H' s'/\W n σ' H') ?_ m0 ⟨σ,H,I,w0⟩;rintro n s1 ⟨σ1,H1,I1,w1⟩;refine j5 hp<|thn (hc aC s1 σ1 H1 _ I1<|mJ n σ1 H1 w1) λb s2 ⟨H2,I2,q2⟩=>?_;cases b with
 | true=>
  obtain⟨N,hN,q2⟩:=q2;rw[if_pos rfl];refine j5 hp<|thn (hb aC s2 σ1 H2 _ I2 q2) λf s3 q3=>?_;cases f with
  | next=>
   obtain⟨σ3,H3,I3,n3⟩:=q3;obtain⟨m',hm,w3⟩:=hN σ3 H3 n3;exact⟨m',hm,σ3,H3,I3,w3⟩
  | cont=>
   obtain⟨σ3,H3,I3,n3⟩:=q3;obtain⟨m',hm,w3⟩:=hN σ3 H3 n3;exact⟨m',hm,σ3,H3,I3,w3⟩
  | brk=>exact q3
  | ret v=>exact q3
 | false=>
  rw[if_neg ak];exact gD ⟨σ1,H2,I2,q2⟩
end
structure It where
 go:Nat->Hp->Prop
 yld:Nat->Hp->V->Hp->Prop
 stop:Nat->Hp->Prop
def mZ(X:Cx)(aC:U (aE×Obj))(H:Hp)(b:aE):Prop:=
 H b=none/\b≠X.env.locals/\b∉X.fs/\(b∈X.ex\/X.s₀.heap.objs.size<=b)/\(∀x c,X.env.cells.lookup x=some c->c≠b)/\∀p∈X.pn++aC,p.1≠b
def Inv.fpOk{X:Cx}{aC:U (aE×Obj)}{σ:St}{H H':Hp}{s:aB}{b:aE}(I:Inv X aC σ H s)(hb:s.heap.objs.size<=b)(hn:H' b=none):mZ X aC H' b:=by
 refine⟨hn,Nat.ne_of_gt<|cu I.lt hb,I.nofs hb,.inr<|fg I.sz hb,λx c e z=>?_,λp hp z=>?_⟩
 .obtain⟨v,q⟩:=I.cell x c e;exact absurd (cu q.lt<|by rw[z];exact hb)<|iq _
 .exact absurd (cu (be (I.pin p hp).1)<|by rw[z];exact hb)<|iq _
structure tL(P:aK)(w:aN)(K:av)(tg:Expr)(J:It)(fp:U aE)(it:aE)(tn:Nat->Heap->Prop):Prop where
 mem:it∈fp
 obj:∀i h,tn i h->∀b∈fp,∃o,h.get? b=some o/\∀v,o.data≠.cell v
 keep:∀i h h',tn i h->(∀b∈fp,∀o,h.get? b=some o->h'.get? b=some o)->tn i h'
 item:∀(X:Cx),X.prog=P->X.w=w->X.K=K->X.calm=true->∀(i:Nat) (aC:U (aE×Obj)) (s:aB) (σ:St) (H:Hp) (E:aA->aB->Prop),Inv X aC σ H s->(∀b∈fp,mZ X aC H b)->tn i s.heap->J.go i H->
  aG (aH P w) X.A (bB<|.ref it) (λr s1=>∃u,r=some u/\
   aG (aH P w) X.A (gK tg (.ref it) u) (λ_ s2=>∃x H',Inv X aC σ H' s2/\RelV x u/\J.yld i H x H'/\tn (i+1) s2.heap/\∀b∈fp,H' b=none) E s1) E s
 done:∀(X:Cx),X.prog=P->X.w=w->X.K=K->X.calm=true->∀(i:Nat) (aC:U (aE×Obj)) (s:aB) (σ:St) (H:Hp) (E:aA->aB->Prop),Inv X aC σ H s->(∀b∈fp,mZ X aC H b)->tn i s.heap->J.stop i H->
  aG (aH P w) X.A (bB<|.ref it) (λr s1=>r=none/\Inv X aC σ H s1) E s
 self:∀(A:Around)(i:Nat)(s:aB)(Q:aA->aB->Prop)(E:aA->aB->Prop),tn i s.heap->Q (.ref it) s->aG (aH P w) A (hJ<|.ref it) Q E s
abbrev TI:=St->Hp->(It->Hp->Prop)->Prop
def PIE(X:Cx)(aC:U (aE×Obj))(σ:St)(tg:Expr)(R:It->Hp->Prop)(DO:aA)(s2:aB):Prop:=
 ∃(it:aE)(fp:U aE)(tn:Nat->Heap->Prop)(J:It)(H':Hp),DO=.ref it/\Inv X aC σ H' s2/\tL X.prog X.w X.K tg J fp it tn/\tn 0 s2.heap/\(∀b∈fp,mZ X aC H' b)/\R J H'
def PI(X:Cx)(tg iter:Expr)(wi:TI):Prop:=
 ∀(aC:U (aE×Obj)) (s:aB) (σ:St) (H:Hp) (R:It->Hp->Prop),Inv X aC σ H s->wi σ H R->
  aG (aH X.prog X.w) X.A (cD iter X.env) (λv s1=>aG (aH X.prog X.w) X.A (hJ v) (PIE X aC σ tg R) X.xe s1) X.xe s
theorem CL{M:Dg}{A:Around}{E:aA->aB->Prop}{s:aB}{tg:Expr}{it:aE}{u:aA}{o:Obj}{n:String}{vs:Array aA}{Q:Unit->aB->Prop}(ho:s.heap.get? it=some o)(hc:o.cls=.type n)(hd:o.data=.fields vs)
  (hn:["enumerate","zip","dict_itemiterator","dict_reverseitemiterator","odict_iterator","itertools.zip_longest","itertools.pairwise"].contains n=false) (hQ:Q () s):aG M A (gK tg (.ref it) u) Q E s:=by
 unfold gK;cases tg<;>first
  | exact ai hQ
  | (cases u<;>first
    | exact ai hQ
    | (refine aa<|wpAny_load ho ?_
       rw[hc,hd];show aG M A (if (["enumerate","zip","dict_itemiterator","dict_reverseitemiterator","odict_iterator","itertools.zip_longest","itertools.pairwise"].contains n&&vs[0]?==some (kZ _))=true then _ else _) Q E s;rw[if_neg (by intro h;rw[hn,iu]at h;cases h)];exact ai hQ))
noncomputable def Itl(K:av)(a:aE):It:=
 ⟨λi H=>∃xs x,SqL K H a xs/\xs[i]?=some x,λi H x H'=>H'=H/\∀xs,SqL K H a xs->xs[i]?=some x,λi H=>∃xs,SqL K H a xs/\xs.length<=i⟩
noncomputable def Itt(K:av)(a:aE):It:=
 ⟨λi H=>∃xs x,SqT K H a xs/\xs[i]?=some x,λi H x H'=>H'=H/\∀xs,SqT K H a xs->xs[i]?=some x,λi H=>∃xs,SqT K H a xs/\xs.length<=i⟩
noncomputable def Itr(lo:Int)(n:Nat):It:=⟨λi _=>i<n,λi H x H'=>H'=H/\x=.int (lo+i),λi _=>n<=i⟩
def ad8{P:aK}{w:aN}{K:av}{tg:Expr}(a it:aE):tL P w K tg (Itl K a) [it] it (λi h=>h.IsListIter it a i)where
 mem:=by simp
 obj:=λi h st b hb=>by
  have e:b=it:=by simpa using hb
  subst e;obtain⟨o,e,c,d⟩:=st;exact⟨o,e,λv z=>by rw[d]at z;cases z⟩
 keep:=λi h h' st k=>st.at λo e=>k it (by simp) o e
 item:=by intro X hP hw hK hc i aC s σ H E I hf st hg;subst hP hw hK;obtain⟨xs,x,hq,hx⟩:=hg;obtain⟨its,rv,p,hz⟩:=I.list hq;obtain⟨u,hu,ru⟩:=rv.get hx;obtain⟨f0,f1,f2,f3,f4,f5⟩:=hf it (by simp);refine sS st p.isList (x:=u) (by simpa using hu) λh' aP sb=>?_;have I1:Inv X aC σ H {s with heap:=h'}:=I.turned (t':=s.toks) (λb o hb e=>(sb.2 b hb).trans e) f0 f1 f3 f4 f5;obtain⟨o,e,c,d⟩:=id aP;exact⟨u,rfl,CL (s:={s with heap:=h'}) e c d (by decide) ⟨x,H,I1,ru,⟨rfl,λys hy=>by rw[I.list_inj hy hq];exact hx⟩,aP,λb hb=>(hf b hb).1⟩⟩
 done:=by intro X hP hw hK hc i aC s σ H E I hf st hg;subst hP hw hK;obtain⟨xs,hq,hx⟩:=hg;obtain⟨its,rv,p,hz⟩:=I.list hq;obtain⟨f0,f1,f2,f3,f4,f5⟩:=hf it (by simp);have hl:=rv.length;exact tR (I.ok.hd hc) st p.isList (by simp;lia) λh' eb=>⟨rfl,I.turned (t':=s.toks) (λb o hb e=>eb b o hb e) f0 f1 f3 f4 f5⟩
 self:=λ_ _ _ _ _ st h=>wpAny_pyIter_listiter st h
def acb{P:aK}{w:aN}{K:av}{tg:Expr}(a it:aE):tL P w K tg (Itt K a) [it] it (λi h=>h.IsTupleIter it a i)where
 mem:=by simp
 obj:=λi h st b hb=>by
  have e:b=it:=by simpa using hb
  subst e;obtain⟨o,e,c,d⟩:=st;exact⟨o,e,λv z=>by rw[d]at z;cases z⟩
 keep:=λi h h' st k=>st.at λo e=>k it (by simp) o e
 item:=by intro X hP hw hK hc i aC s σ H E I hf st hg;subst hP hw hK;obtain⟨xs,x,hq,hx⟩:=hg;obtain⟨its,rv,p,hz⟩:=I.tuple hq;obtain⟨u,hu,ru⟩:=rv.get hx;obtain⟨f0,f1,f2,f3,f4,f5⟩:=hf it (by simp);refine wpAny_pyNext_tuple_item st (show s.heap.IsTuple a its.toArray from p) (x:=u) (by simpa using hu) λh' aP sb=>?_;have I1:Inv X aC σ H {s with heap:=h'}:=I.turned (t':=s.toks) (λb o hb e=>(sb.2 b hb).trans e) f0 f1 f3 f4 f5;obtain⟨o,e,c,d⟩:=id aP;exact⟨u,rfl,CL (s:={s with heap:=h'}) e c d (by decide) ⟨x,H,I1,ru,⟨rfl,λys hy=>by rw[I.tuple_inj hy hq];exact hx⟩,aP,λb hb=>(hf b hb).1⟩⟩
 done:=by intro X hP hw hK hc i aC s σ H E I hf st hg;subst hP hw hK;obtain⟨xs,hq,hx⟩:=hg;obtain⟨its,rv,p,hz⟩:=I.tuple hq;obtain⟨f0,f1,f2,f3,f4,f5⟩:=hf it (by simp);have hl:=rv.length;exact wpAny_pyNext_tuple_end (I.ok.hd hc) st (show s.heap.IsTuple a its.toArray from p) (by simp;lia) λh' eb=>⟨rfl,I.turned (t':=s.toks) (λb o hb e=>eb b o hb e) f0 f1 f3 f4 f5⟩
 self:=λ_ _ _ _ _ st h=>wpAny_pyIter_tupleiter st h
def air{P:aK}{w:aN}{K:av}{tg:Expr}(it:aE)(lo:Int)(n:Nat):tL P w K tg (Itr lo n) [it] it (λi h=>IsRangeIter h it (lo+(i:Nat)*1) ((n:Int)-(i:Nat)) 1)where
 mem:=by simp
 obj:=λi h st b hb=>by
  have e:b=it:=by simpa using hb
  subst e;exact⟨_,st,λv z=>by have z':Data.fields _=Data.cell v:=z;cases z'⟩
 keep:=λi h h' st k=>k it (by simp) _ st
 item:=by intro X hP hw hK hc i aC s σ H E I hf st hg;subst hP hw hK;obtain⟨f0,f1,f2,f3,f4,f5⟩:=hf it (by simp);have W:=fF.range (prog:=X.prog) (w:=X.w) (I.ok.hd hc) it lo 1 n;refine W.item i s _ _ hg st λv h' tk hv aP kk=>?_;obtain⟨t,rfl⟩:=hv;have I1:Inv X aC σ H {s with heap:=h',toks:=tk}:=I.turned (λb o hb e=>kk b o (by simpa using hb) e) f0 f1 f3 f4 f5;refine⟨_,rfl,CL (s:={s with heap:=h',toks:=tk}) (n:="range_iterator") aP rfl rfl (by decide) ⟨.int<|lo+i,H,I1,⟨t,?_⟩,⟨rfl,rfl⟩,aP,λb hb=>(hf b hb).1⟩⟩;rw[Int.mul_one]
 done:=by intro X hP hw hK hc i aC s σ H E I hf st hg;subst hP hw hK;obtain⟨f0,f1,f2,f3,f4,f5⟩:=hf it (by simp);exact wpAny_pyNext_range_end (I.ok.hd hc) st (by have:n<=i:=hg;lia) λh' eb=>⟨rfl,I.turned (t':=s.toks) (λb o hb e=>eb b o hb e) f0 f1 f3 f4 f5⟩
 self:=λ_ _ _ _ _ st h=>wpAny_pyIter_rangeiter st h
section
variable{X:Cx}{tg:Expr}
def EA(K:av)(tl:TE):TI:=λσ H R=>tl σ H λx H1=>∃a,x=.ref a/\(∃xs,SqL K H1 a xs)/\R (Itl K a) H1
def ayt(K:av)(tl:TE):TI:=λσ H R=>tl σ H λx H1=>∃a,x=.ref a/\(∃xs,SqT K H1 a xs)/\R (Itt K a) H1
def pc{l:Expr}{tl:TE}(hl:PE X l tl):PI X tg l (EA X.K tl):=by
 intro aC s σ H R I h;refine thn (hl aC s σ H _ I h) λv s1 ⟨x,H1,I1,r1,q1⟩=>?_;obtain⟨a,e,⟨xs,hq⟩,q⟩:=q1;subst e;cases r1;obtain⟨its,rv,p,hz⟩:=I1.list hq;refine jn p.isList ?_;refine⟨s1.heap.objs.size,[s1.heap.objs.size],_,_,H1,rfl,I1.kept (t':=s1.toks) λb o e=>ah _ e,ad8 a _,⟨_,a6 _ rfl,rfl,rfl⟩,λb hb=>?_,q⟩;have e:b=s1.heap.objs.size:=by simpa using hb
 subst e;exact I1.fpOk (aq _)<|I1.hok.fresh<|aq _
def vp{l:Expr}{tl:TE}(hl:PE X l tl):PI X tg l (ayt X.K tl):=by
 intro aC s σ H R I h;refine thn (hl aC s σ H _ I h) λv s1 ⟨x,H1,I1,r1,q1⟩=>?_;obtain⟨a,e,⟨xs,hq⟩,q⟩:=q1;subst e;cases r1;obtain⟨its,rv,p,hz⟩:=I1.tuple hq;refine eP (show s1.heap.IsTuple a its.toArray from p) ?_;refine⟨s1.heap.objs.size,[s1.heap.objs.size],_,_,H1,rfl,I1.kept (t':=s1.toks) λb o e=>ah _ e,acb a _,⟨_,a6 _ rfl,rfl,rfl⟩,λb hb=>?_,q⟩;have e:b=s1.heap.objs.size:=by simpa using hb
 subst e;exact I1.fpOk (aq _)<|I1.hok.fresh<|aq _
def agp{aC:U (aE×Obj)}{σ:St}{H:Hp}{s:aB}{R:It->Hp->Prop}{E:aA->aB->Prop}{lo hi:Int}{t u v:pF}{tk:Nat}(I:Inv X aC σ H s)(h1:-(2^62)<=lo)(h2:lo<2^62)(h3:-(2^62)<=hi)(h4:hi<2^62)
  (q:R (Itr lo (hi-lo).toNat) H):aG (aH X.prog X.w) X.A (hJ<|.ref s.heap.objs.size) (PIE X aC σ tg R) E {s with heap:=s.heap.push {cls:=.type "range",data:=.fields #[.int lo t,.int hi u,.int 1 v]},toks:=tk}:=by
 refine wpAny_pyIter_range (IsRange.new ..) (small_one h1 h2 h3 h4) ?_;have I1:Inv X aC σ H {s with heap:=s.heap.push {cls:=.type "range",data:=.fields #[.int lo t,.int hi u,.int 1 v]},toks:=tk}:=I.kept λb o e=>ah _ e;refine⟨(s.heap.push {cls:=.type "range",data:=.fields #[.int lo t,.int hi u,.int 1 v]}).objs.size,[(s.heap.push {cls:=.type "range",data:=.fields #[.int lo t,.int hi u,.int 1 v]}).objs.size],_,_,H,rfl,
  I1.kept (t':=tk) λb o e=>ah _ e,air _ lo (hi-lo).toNat,?_,λb hb=>?_,q⟩
 .have e1:lo+((0:Nat):Int)*1=lo:=by simp
  have e2:(((hi-lo).toNat:Nat):Int)-((0:Nat):Int)=Builtin.Range.rangeSize lo hi 1:=by rw[rangeSize_one];split<;>lia
  show IsRangeIter _ _ (lo+((0:Nat):Int)*1) ((((hi-lo).toNat:Nat):Int)-((0:Nat):Int)) 1;rw[e1,e2];exact a6 _ rfl
 .have e:b=(s.heap.push {cls:=.type "range",data:=.fields #[.int lo t,.int hi u,.int 1 v]}).objs.size:=by simpa using hb
  subst e;exact I1.fpOk (aq _)<|I1.hok.fresh<|aq _
def atj(ta:TA):TI:=λσ H R=>ta σ H λvs H1=>∃j:Int,vs=[.int j]/\-(2^62)<=j/\j<2^62/\R (Itr 0 j.toNat) H1
def aul(ta:TA):TI:=λσ H R=>ta σ H λvs H1=>∃i j:Int,vs=[.int i,.int j]/\(-(2^62)<=i/\i<2^62/\-(2^62)<=j/\j<2^62)/\R (Itr i (j-i).toNat) H1
theorem am4{a:Expr}{ta:TA}{p pos:eB}(hg:Gl X "range")(hm:X.mg "range" = none)(ha:PA X [a] ta)(hs:aQ [a] X.env=[(false,cD a X.env)]:=by rfl):PI X tg (.Call (.Name "range" p) [a] [] pos) (atj ta):=by
 intro aC s σ H R I h;refine Call_<|sv I hg hm boot_range<|e9 (thn (ha pos aC s σ H _ I h) λus s1 ⟨vs,H1,I1,r1,q1⟩=>?_) hs rfl;obtain⟨j,e,q1,q2,q⟩:=q1;subst e;cases r1 with
 | cons r rr=>
  cases rr;obtain⟨t,rfl⟩:=r;exact call_range_1<|agp I1 (by lia) (by lia) q1 q2<|by simpa using q
theorem aky{a b:Expr}{ta:TA}{p pos:eB}(hg:Gl X "range")(hm:X.mg "range" = none)(ha:PA X [a,b] ta)(hs:aQ [a,b] X.env=[(false,cD a X.env),(false,cD b X.env)]:=by rfl)(uJ:aQ [b] X.env=[(false,cD b X.env)]:=by rfl) :
  PI X tg (.Call (.Name "range" p) [a,b] [] pos) (aul ta):=by
 intro aC s σ H R I h;refine Call_ (sv I hg hm boot_range<|e9 (thn (ha pos aC s σ H _ I h) λus s1 ⟨vs,H1,I1,r1,q1⟩=>?_) (by rw[hs,uJ])<|by rw[uJ];rfl);obtain⟨i,j,e,⟨q1,q2,q3,q4⟩,q⟩:=q1;subst e;cases r1 with
 | cons r rr=>
  cases rr with
  | cons r' rr=>
   cases rr;obtain⟨t,rfl⟩:=r;obtain⟨t',rfl⟩:=r';exact call_range_2<|agp I1 q1 q2 q3 q4 q
def azg(wi:TI)(g:TG)(tb:TS):TS:=λD σ H=>wi σ H λJ H1=>∃W:Nat->Nat->St->Hp->Prop,(∃m,W 0 m σ H1)/\∀i m σ H,W i m σ H->
 (J.stop i H/\D.nx σ H)\/(J.go i H/\∃N:St->Hp->Prop,(∀σ' H',N σ' H'->∃m',m'<m/\W (i+1) m' σ' H')/\∀x H',J.yld i H x H'->g x σ H' λσ2 H2=>tb {D with nx:=N,ct:=N,bk:=D.nx} σ2 H2)
noncomputable def CN(fp:U aE)(h:Heap):U (aE×Obj):=fp.filterMap λb=>(h.get? b).map λo=>(b,o)
def wg{fp:U aE}{h:Heap}{b:aE}{o:Obj}(hb:b∈fp)(e:h.get? b=some o):(b,o)∈CN fp h:=List.mem_filterMap.mpr ⟨b,hb,by rw[e];rfl⟩
theorem ak9{fp:U aE}{h:Heap}{p:aE×Obj}(hp:p∈CN fp h):p.1∈fp/\h.get? p.1=some p.2:=by
 obtain⟨b,hb,e⟩:=List.mem_filterMap.mp hp;cases q:h.get? b with
 | none=>rw[q]at e;cases e
 | some o=>
  rw[q]at e;have e':(b,o)=p:=ca e;subst e';exact⟨hb,q⟩
def Inv.pinned{aC:U (aE×Obj)}{σ:St}{H:Hp}{s:aB}{fp:U aE}(I:Inv X aC σ H s)(hf:∀b∈fp,mZ X aC H b)(ho:∀b∈fp,∃o,s.heap.get? b=some o/\∀v,o.data≠.cell v):Inv X (aC++CN fp s.heap) σ H s:=
 I.pins_of λp hp=>(bm.mp hp).elim (λz=>I.pin p<|b8 _ z) λz=>by obtain⟨hb,e⟩:=ak9 z;obtain⟨f0,f1,f2,_⟩:=hf p.1 hb;obtain⟨o,e',d⟩:=ho p.1 hb;rw[e]at e';cases e';exact⟨e,f0,f1,f2,d⟩
def Inv.unpinned{aC pl:U (aE×Obj)}{σ:St}{H:Hp}{s:aB}(I:Inv X (aC++pl) σ H s):Inv X aC σ H s:=I.pins_of λp hp=>I.pin p<|b8 _<|f9 _ hp
theorem ut{iter:Expr}{body:U aW}{wi:TI}{g:TG}{tb:TS}{pos:eB}(hp:PassesOwn (aH X.prog X.w) X.A X.env X.xe)(hc:X.calm=true)(hi:PI X tg iter wi)(hg:PG X tg g)(hb:PSs X body tb)
  (hs:∀x,jY iter X.env x=aT x:=by intro _;rfl):PS X (.For tg iter body [] pos) (azg wi g tb):=by
 intro aC s σ H D I h;refine wpAny_For (thn (hi aC s σ H _ I h) λv s1 h1=>thn h1 λDO s2 h2=>?_) hs;obtain⟨it,fp,tn,J,H2,e,I2,T,eY,f2,W,⟨m0,w0⟩,mJ⟩:=h2;subst e;have mL:∀{H':Hp},(∀b∈fp,H' b=none)->∀b∈fp,mZ X aC H' b:=λhn b hb=>⟨hn b hb,(f2 b hb).2⟩;refine codeAny_forLoop_any (λn s'=>∃i σ' H',Inv X aC σ' H' s'/\tn i s'.heap/\(∀b∈fp,H' b=none)/\W i n σ' H') ?_ m0 ⟨0,σ,H2,I2,eY,λb hb=>(f2 b hb).1,w0⟩;rintro n s3 ⟨i,σ3,H3,I3,eU,fr3,w3⟩;rcases mJ i n σ3 H3 w3 with ⟨stop,qn⟩|⟨go,N,hN,step⟩
 .refine j5 hp<|thn (T.done X rfl rfl rfl hc i aC s3 σ3 H3 X.xe I3 (mL fr3) eU stop) λr s4 ⟨hr,I4⟩=>?_;subst hr;exact gD ⟨σ3,H3,I4,qn⟩
 .refine j5 hp<|thn (T.item X rfl rfl rfl hc i aC s3 σ3 H3 X.xe I3 (mL fr3) eU go) λr s4 ⟨u,hr,h4⟩=>?_;subst hr;refine j5 hp<|thn h4 λ_ s5 ⟨x,H5,I5,r5,y5,hG,Em⟩=>?_;have I5':=I5.pinned (mL Em)<|T.obj _ _ hG;refine j5 hp<|thn (hg _ s5 σ3 H5 x u _ I5' r5<|step x H5 y5) λ_ s6 ⟨σ6,H6,I6,q6⟩=>?_;refine j5 hp<|thn (hb _ s6 σ6 H6 _ I6 q6) λf s7 q7=>?_;have again:∀{σ7:St} {H7:Hp},Inv X (aC++CN fp s5.heap) σ7 H7 s7->N σ7 H7->∃m,m<n/\∃i σ' H',Inv X aC σ' H' s7/\tn i s7.heap/\(∀b∈fp,H' b=none)/\W i m σ' H':=λ{σ7 H7} I7 n7=>by
   obtain⟨m',hm,w7⟩:=hN σ7 H7 n7;refine⟨m',hm,i+1,σ7,H7,I7.unpinned,T.keep _ _ _ hG λb hb o e=>(I7.pin (b,o)<|b8 _<|b8 _<|wg hb e).1,λb hb=>?_,w7⟩;obtain⟨o,e,d⟩:=T.obj _ _ hG b hb;exact(I7.pin (b,o)<|b8 _<|b8 _<|wg hb e).2.1
  cases f with
  | next=>obtain⟨σ7,H7,I7,n7⟩:=q7;exact again I7 n7
  | cont=>obtain⟨σ7,H7,I7,n7⟩:=q7;exact again I7 n7
  | brk=>obtain⟨σ7,H7,I7,q7⟩:=q7;exact⟨σ7,H7,I7.unpinned,q7⟩
  | ret v=>obtain⟨x7,σ7,H7,I7,r7,q7⟩:=q7;exact⟨x7,σ7,H7,I7.unpinned,r7,q7⟩
end
def ao3{K:av}{a:aE}{xs:U V}{g:TG}{tb:TS}{D:oY}{σ:St}{H:Hp}(Pv:Nat->St->Hp->Prop)(h0:Pv 0 σ H)(hl:∀i σ H,i<=xs.length->Pv i σ H->SqL K H a xs)
  (hs:∀i x σ H,xs[i]?=some x->Pv i σ H->g x σ H λσ2 H2=>tb {D with nx:=Pv<|i+1,ct:=Pv<|i+1,bk:=D.nx} σ2 H2) (hd:∀σ H,Pv xs.length σ H->D.nx σ H) :
  ∃W:Nat->Nat->St->Hp->Prop,(∃m,W 0 m σ H)/\∀i m σ H,W i m σ H->
   ((Itl K a).stop i H/\D.nx σ H)\/((Itl K a).go i H/\∃N:St->Hp->Prop,(∀σ' H',N σ' H'->∃m',m'<m/\W (i+1) m' σ' H')/\∀x H',(Itl K a).yld i H x H'->g x σ H' λσ2 H2=>tb {D with nx:=N,ct:=N,bk:=D.nx} σ2 H2):=by
 refine⟨λi m σ H=>m=xs.length-i/\i<=xs.length/\Pv i σ H,⟨xs.length,by simp,c8 _,h0⟩,?_⟩;rintro i m σ H ⟨rfl,hi,p⟩;have q:=hl i σ H hi p;by_cases cF:i<xs.length
 .refine .inr ⟨⟨xs,xs[i],q,by simp[cF]⟩,Pv<|i+1,λσ' H' p'=>⟨xs.length-(i+1),by lia,rfl,cF,p'⟩,λx H' y=>?_⟩;obtain⟨e,y⟩:=y;subst e;exact hs i x σ _ (y xs q) p
 .have e:i=xs.length:=by lia
  subst e;exact .inl ⟨⟨xs,q,aq _⟩,hd σ H p⟩
def Jm{K:av}{a:aE}{xs:U V}{g:TG}{tb:TS}{D:oY}{σ:St}{H:Hp}(Pv:Nat->St->Hp->Prop)(h0:Pv 0 σ H)(hl:∀i σ H,i<=xs.length->Pv i σ H->SqT K H a xs)
  (hs:∀i x σ H,xs[i]?=some x->Pv i σ H->g x σ H λσ2 H2=>tb {D with nx:=Pv<|i+1,ct:=Pv<|i+1,bk:=D.nx} σ2 H2) (hd:∀σ H,Pv xs.length σ H->D.nx σ H) :
  ∃W:Nat->Nat->St->Hp->Prop,(∃m,W 0 m σ H)/\∀i m σ H,W i m σ H->
   ((Itt K a).stop i H/\D.nx σ H)\/((Itt K a).go i H/\∃N:St->Hp->Prop,(∀σ' H',N σ' H'->∃m',m'<m/\W (i+1) m' σ' H')/\∀x H',(Itt K a).yld i H x H'->g x σ H' λσ2 H2=>tb {D with nx:=N,ct:=N,bk:=D.nx} σ2 H2):=by
 refine⟨λi m σ H=>m=xs.length-i/\i<=xs.length/\Pv i σ H,⟨xs.length,by simp,c8 _,h0⟩,?_⟩;rintro i m σ H ⟨rfl,hi,p⟩;have q:=hl i σ H hi p;by_cases cF:i<xs.length
 .refine .inr ⟨⟨xs,xs[i],q,by simp[cF]⟩,Pv<|i+1,λσ' H' p'=>⟨xs.length-(i+1),by lia,rfl,cF,p'⟩,λx H' y=>?_⟩;obtain⟨e,y⟩:=y;subst e;exact hs i x σ _ (y xs q) p
 .have e:i=xs.length:=by lia
  subst e;exact .inl ⟨⟨xs,q,aq _⟩,hd σ H p⟩
def so{lo:Int}{n:Nat}{g:TG}{tb:TS}{D:oY}{σ:St}{H:Hp}(Pv:Nat->St->Hp->Prop)(h0:Pv 0 σ H)
  (hs:∀i σ H,i<n->Pv i σ H->g (.int<|lo+i) σ H λσ2 H2=>tb {D with nx:=Pv<|i+1,ct:=Pv<|i+1,bk:=D.nx} σ2 H2) (hd:∀σ H,Pv n σ H->D.nx σ H) :
  ∃W:Nat->Nat->St->Hp->Prop,(∃m,W 0 m σ H)/\∀i m σ H,W i m σ H->
   ((Itr lo n).stop i H/\D.nx σ H)\/((Itr lo n).go i H/\∃N:St->Hp->Prop,(∀σ' H',N σ' H'->∃m',m'<m/\W (i+1) m' σ' H')/\∀x H',(Itr lo n).yld i H x H'->g x σ H' λσ2 H2=>tb {D with nx:=N,ct:=N,bk:=D.nx} σ2 H2):=by
 refine⟨λi m σ H=>m=n-i/\i<=n/\Pv i σ H,⟨n,by simp,c8 _,h0⟩,?_⟩;rintro i m σ H ⟨rfl,hi,p⟩;by_cases cF:i<n
 .refine .inr ⟨cF,Pv<|i+1,λσ' H' p'=>⟨n-(i+1),by lia,rfl,cF,p'⟩,λx H' y=>?_⟩;obtain⟨e,y⟩:=y;subst e y;exact hs i σ _ cF p
 .have e:i=n:=by lia
  subst e;exact .inl ⟨aq _,hd σ H p⟩
abbrev R2:=V->V->Hp->VK->Prop
def OpR(X:Cx)(f:aA->aA->oE aA)(r:R2):Prop:=
 ∀(aC:U (aE×Obj)) (s:aB) (σ:St) (H:Hp) (x y:V) (v u:aA) (Q:VK),Inv X aC σ H s->RelV x v->RelV y u->r x y H Q->
  aG (aH X.prog X.w) X.A (f v u) (EP X aC σ Q) X.xe s
def UnR(X:Cx)(f:aA->oE aA)(r:V->Hp->VK->Prop):Prop:=
 ∀(aC:U (aE×Obj)) (s:aB) (σ:St) (H:Hp) (x:V) (v:aA) (Q:VK),Inv X aC σ H s->RelV x v->r x H Q->
  aG (aH X.prog X.w) X.A (f v) (EP X aC σ Q) X.xe s
def qv(X:Cx)(f:aA)(r:U V->Hp->VK->Prop):Prop:=
 ∀(aC:U (aE×Obj)) (s:aB) (σ:St) (H:Hp) (xs:U V) (us:U aA) (Q:VK),Inv X aC σ H s->Vals xs us->r xs H Q->
  aG (aH X.prog X.w) X.A (call f us) (EP X aC σ Q) X.xe s
def azl(X:Cx)(r:V->Hp->(Bool->Hp->Prop)->Prop):Prop:=
 ∀(aC:U (aE×Obj)) (s:aB) (σ:St) (H:Hp) (x:V) (v:aA) (Q:Bool->Hp->Prop),Inv X aC σ H s->RelV x v->r x H Q->
  aG (aH X.prog X.w) X.A (truthy v) (TP X aC σ Q) X.xe s
def tOp(r:R2)(ta tb:TE):TE:=λσ H Q=>ta σ H λx H1=>tb σ H1 λy H2=>r x y H2 Q
def tUn(r:V->Hp->VK->Prop)(ta:TE):TE:=λσ H Q=>ta σ H λx H1=>r x H1 Q
def rI(C:Int->Int->Prop)(g:Int->Int->V):R2:=λx y H Q=>∃i j,x=.int i/\y=.int j/\C i j/\Q (g i j) H
def rI0(g:Int->Int->V):R2:=λx y H Q=>∃i j,x=.int i/\y=.int j/\Q (g i j) H
def rU(g:Int->V):V->Hp->VK->Prop:=λx H Q=>∃i,x=.int i/\Q (g i) H
section
variable{X:Cx}{a b c:Expr}{ta tb tc:TE}{pos:eB}
def HF(ha:PE X a ta)(hb:PE X b tb){aC:U (aE×Obj)}{s:aB}{σ:St}{H:Hp}{R:V->V->Hp->Prop}(I:Inv X aC σ H s)
  (h:ta σ H λx H1=>tb σ H1 λy H2=>R x y H2) {Q:aA->aB->Prop} {f:aA->aA->oE aA}
  (hf:∀v u s2 x y H2,Inv X aC σ H2 s2->RelV x v->RelV y u->R x y H2->aG (aH X.prog X.w) X.A (f v u) Q X.xe s2) :
  aG (aH X.prog X.w) X.A (cD a X.env) (λv s₁=>aG (aH X.prog X.w) X.A (cD b X.env) (λu s₂=>aG (aH X.prog X.w) X.A (f v u) Q X.xe s₂) X.xe s₁) X.xe s:=by
 refine thn (ha aC s σ H _ I h) λv s1 ⟨x,H1,I1,r1,q1⟩=>?_;refine thn (hb aC s1 σ H1 _ I1 q1) λu s2 ⟨y,H2,I2,r2,q2⟩=>?_;exact hf v u s2 x y H2 I2 r1 r2 q2
def nc{op:Operator}{r:R2}(ho:OpR X (dX op) r)(ha:PE X a ta)(hb:PE X b tb):PE X (.BinOp a op b pos) (tOp r ta tb):=by intro aC s σ H Q I h;exact wpAny_BinOp<|HF ha hb I h λv u s2 x y H2 I2 rx ry q=>ho aC s2 σ H2 x y v u Q I2 rx ry q
def avi{op:UnaryOp}{r:V->Hp->VK->Prop}(ho:UnR X (unaryOp op) r)(ha:PE X a ta):PE X (.UnaryOp op a pos) (tUn r ta):=by intro aC s σ H Q I h;exact UnaryOp_<|thn (ha aC s σ H _ I h) λv s1 ⟨x,H1,I1,r1,q1⟩=>ho aC s1 σ H1 x v Q I1 r1 q1
def opI{f:aA->aA->oE aA}{C:Int->Int->Prop}{g:Int->Int->Int}
  (vP:∀(i j:Int)(t u:pF)(s:aB)(Q:aA->aB->Prop)(E:aA->aB->Prop),C i j->Q (.int (g i j) s.toks) {s with toks:=s.toks+1}->aG (aH X.prog X.w) X.A (f (.int i t)<|.int j u) Q E s) :
  OpR X f (rI C λi j=>.int<|g i j):=by
 intro aC s σ H x y v u Q I rx ry h;obtain⟨i,j,rfl,rfl,hc,q⟩:=h;obtain⟨t,rfl⟩:=rx;obtain⟨t',rfl⟩:=ry;exact vP i j t t' s _ _ hc ⟨.int<|g i j,H,I.tok _,⟨_,rfl⟩,q⟩
def ayd{f:aA->aA->oE aA}{g:Int->Int->Int}
  (vP:∀(i j:Int)(t u:pF)(s:aB)(Q:aA->aB->Prop)(E:aA->aB->Prop),Q (.int (g i j) s.toks) {s with toks:=s.toks+1}->aG (aH X.prog X.w) X.A (f (.int i t)<|.int j u) Q E s) :
  OpR X f (rI0 λi j=>.int<|g i j):=by
 intro aC s σ H x y v u Q I rx ry h;obtain⟨i,j,rfl,rfl,q⟩:=h;obtain⟨t,rfl⟩:=rx;obtain⟨t',rfl⟩:=ry;exact vP i j t t' s _ _ ⟨.int<|g i j,H,I.tok _,⟨_,rfl⟩,q⟩
def ayu{f:aA->aA->oE aA}{g:Int->Int->Bool}
  (vP:∀(i j:Int)(t u:pF)(s:aB)(Q:aA->aB->Prop)(E:aA->aB->Prop),Q (.bool<|g i j) s->aG (aH X.prog X.w) X.A (f (.int i t)<|.int j u) Q E s) :
  OpR X f (rI0 λi j=>.bl<|g i j):=by
 intro aC s σ H x y v u Q I rx ry h;obtain⟨i,j,rfl,rfl,q⟩:=h;obtain⟨t,rfl⟩:=rx;obtain⟨t',rfl⟩:=ry;exact vP i j t t' s _ _ ⟨.bl<|g i j,H,I,rfl,q⟩
def ay1(i j:Int):Prop:=0<j/\j<1073741824
def ay3(i j:Int):Prop:=0<=j/\j<=1000000/\i.natAbs<2^64
def CMul(i j:Int):Prop:=(-(2^64)<i/\i<2^64)\/(-(2^64)<j/\j<2^64)
def CMul.ok{i j:Int}(h:CMul i j):IntMulOk i j:=by
 rcases h with ⟨h1,h2⟩|⟨h1,h2⟩
 .exact .of_left<|intBits_le_64 h1 h2
 .exact .of_right<|intBits_le_64 h1 h2
def o9:OpR X (dX .Add) (rI0 λi j=>.int<|i+j):=ayd λ_ _ _ _ _ _ _ q=>add_int q
def xg:OpR X (dX .Sub) (rI0 λi j=>.int<|i-j):=ayd λ_ _ _ _ _ _ _ q=>sub_int q
def C1:OpR X (dX .Mult) (rI CMul λi j=>.int<|i*j):=opI λ_ _ _ _ _ _ _ hc q=>mul_int q hc.ok
def asn:OpR X (dX .FloorDiv) (rI ay1 λi j=>.int<|i/j):=opI λi j _ _ _ _ _ hc q=>by have h1:(0:Int)<j:=hc.1;have h2:j<1073741824:=hc.2;exact floordiv_int (by lia) (by rw[Int.fdiv_eq_ediv_of_nonneg i (by lia)];exact q)<|.inl<|PyProof.noPylong_small<|by lia
def AJ:OpR X (dX .Mod) (rI (λ_ j=>0<j) λi j=>.int<|i % j):=opI λi j _ _ _ _ _ hc q=>by have h1:(0:Int)<j:=hc;exact mod_int' (by lia)<|by rw[Int.fmod_eq_emod_of_nonneg i (by lia)];exact q
def aqb:OpR X (dX .Pow) (rI ay3 λi j=>.int<|i^j.toNat):=opI λ_ _ _ _ _ _ _ hc q=>pow_int_small hc.1 hc.2.1 hc.2.2 q
def unI{f:aA->oE aA}{g:Int->Int}
  (vP:∀(i:Int)(t:pF)(s:aB)(Q:aA->aB->Prop)(E:aA->aB->Prop),Q (.int (g i) s.toks) {s with toks:=s.toks+1}->aG (aH X.prog X.w) X.A (f<|.int i t) Q E s) :
  UnR X f (rU λi=>.int<|g i):=by
 intro aC s σ H x v Q I rx h;obtain⟨i,rfl,q⟩:=h;obtain⟨t,rfl⟩:=rx;exact vP i t s _ _ ⟨.int<|g i,H,I.tok _,⟨_,rfl⟩,q⟩
def apo:UnR X (unaryOp .USub) (rU λi=>.int<|-i):=unI λ_ _ _ _ _ q=>neg_int q
end
noncomputable def ayh:V->V->Bool
 | .non,.non=>true|.non,.int _=>true|.int _,.non=>true|.non,.bl _=>true|.bl _,.non=>true|.non,.str _=>true|.str _,.non=>true
 | .int _,.int _=>true|.bl _,.bl _=>true|.str _,.str _=>true|.byt _,.byt _=>true
 | .int _,.str _=>true|.str _,.int _=>true|.bl _,.str _=>true|.str _,.bl _=>true
 | _,_=>false
def rEq:R2:=λx y H Q=>ayh x y=true/\Q (.bl<|decide<|x=y) H
def rNe:R2:=λx y H Q=>ayh x y=true/\Q (.bl<|!decide (x=y)) H
def Jr{i j:Int}:decide (V.int i=V.int j)=(i==j):=by rw[g0];simp
def apt{i j:Bool}:decide (V.bl i=V.bl j)=(i==j):=by rw[g0];simp
def akl{i j:Str}:decide (V.str i=V.str j)=(i==j):=by rw[g0];simp
def am9{i j:Array UInt8}:decide (V.byt i=V.byt j)=(i.toList==j.toList):=by rw[g0];cases i;cases j;simp
section
variable{X:Cx}{a b c:Expr}{ta tb tc:TE}{pos:eB}
def og{aC:U (aE×Obj)}{σ:St}{H:Hp}{s:aB}{Q:VK}{k k':Bool}(I:Inv X aC σ H s)(q:Q (.bl k) H)(e:k=k'):EP X aC σ Q (.bool k') s:=by subst e;exact⟨.bl k,H,I,rfl,q⟩
theorem wm:OpR X (aY .Eq) rEq:=by
 intro aC s σ H x y v u Q I rx ry h;obtain⟨hs,q⟩:=h;cases x with
 | non=>
  cases rx;cases y with
  | non=>cases ry;exact PySem.EqNone.eq_none_none (og I q<|by simp)
  | bl j=>cases ry;exact PySem.EqNone.eq_none_bool (og I q<|by simp)
  | int j=>obtain⟨t',rfl⟩:=ry;exact PySem.EqNone.eq_none_int (og I q<|by simp)
  | str j=>obtain⟨t',rfl⟩:=ry;exact PySem.EqNone.eq_none_str (og I q<|by simp)
  | _=>exact absurd (show false=true from hs) ak
 | bl i=>
  cases rx;cases y with
  | non=>cases ry;exact PySem.EqNone.eq_bool_none (og I q<|by simp)
  | bl j=>cases ry;exact eq_bool (og I q apt)
  | str j=>obtain⟨t',rfl⟩:=ry;exact PySem.EqMixed.eq_bool_str (og I q<|by simp)
  | _=>exact absurd (show false=true from hs) ak
 | int i=>
  obtain⟨t,rfl⟩:=rx;cases y with
  | non=>cases ry;exact PySem.EqNone.eq_int_none (og I q<|by simp)
  | int j=>obtain⟨t',rfl⟩:=ry;exact eq_int (og I q Jr)
  | str j=>obtain⟨t',rfl⟩:=ry;exact PySem.EqMixed.eq_int_str (og I q<|by simp)
  | _=>exact absurd (show false=true from hs) ak
 | str i=>
  obtain⟨t,rfl⟩:=rx;cases y with
  | non=>cases ry;exact PySem.EqNone.eq_str_none (og I q<|by simp)
  | bl j=>cases ry;exact PySem.EqMixed.eq_str_bool (og I q<|by simp)
  | int j=>obtain⟨t',rfl⟩:=ry;exact PySem.EqMixed.eq_str_int (og I q<|by simp)
  | str j=>obtain⟨t',rfl⟩:=ry;exact eq_str (og I q akl)
  | _=>exact absurd (show false=true from hs) ak
 | byt i=>
  obtain⟨t,rfl⟩:=rx;cases y with
  | byt j=>obtain⟨t',rfl⟩:=ry;exact PySem.W.eq_bytes (og I q am9)
  | _=>exact absurd (show false=true from hs) ak
 | _=>cases y<;>exact absurd (show false=true from hs) ak
theorem zF:OpR X (aY .NotEq) rNe:=by
 intro aC s σ H x y v u Q I rx ry h;obtain⟨hs,q⟩:=h;cases x with
 | non=>
  cases rx;cases y with
  | non=>cases ry;exact PySem.EqNone.ne_none_none (og I q<|by simp)
  | bl j=>cases ry;exact PySem.EqNone.ne_none_bool (og I q<|by simp)
  | int j=>obtain⟨t',rfl⟩:=ry;exact PySem.EqNone.ne_none_int (og I q<|by simp)
  | str j=>obtain⟨t',rfl⟩:=ry;exact PySem.EqNone.ne_none_str (og I q<|by simp)
  | _=>exact absurd (show false=true from hs) ak
 | bl i=>
  cases rx;cases y with
  | non=>cases ry;exact PySem.EqNone.ne_bool_none (og I q<|by simp)
  | bl j=>cases ry;exact ne_bool (og I q<|congrArg not apt)
  | str j=>obtain⟨t',rfl⟩:=ry;exact PySem.EqMixed.ne_bool_str (og I q<|by simp)
  | _=>exact absurd (show false=true from hs) ak
 | int i=>
  obtain⟨t,rfl⟩:=rx;cases y with
  | non=>cases ry;exact PySem.EqNone.ne_int_none (og I q<|by simp)
  | int j=>obtain⟨t',rfl⟩:=ry;exact ne_int (og I q<|congrArg not Jr)
  | str j=>obtain⟨t',rfl⟩:=ry;exact PySem.EqMixed.ne_int_str (og I q<|by simp)
  | _=>exact absurd (show false=true from hs) ak
 | str i=>
  obtain⟨t,rfl⟩:=rx;cases y with
  | non=>cases ry;exact PySem.EqNone.ne_str_none (og I q<|by simp)
  | bl j=>cases ry;exact PySem.EqMixed.ne_str_bool (og I q<|by simp)
  | int j=>obtain⟨t',rfl⟩:=ry;exact PySem.EqMixed.ne_str_int (og I q<|by simp)
  | str j=>obtain⟨t',rfl⟩:=ry;exact ne_str (og I q<|congrArg not akl)
  | _=>exact absurd (show false=true from hs) ak
 | byt i=>
  obtain⟨t,rfl⟩:=rx;cases y with
  | byt j=>obtain⟨t',rfl⟩:=ry;exact PySem.W.ne_bytes (og I q<|congrArg not am9)
  | _=>exact absurd (show false=true from hs) ak
 | _=>cases y<;>exact absurd (show false=true from hs) ak
def avj:OpR X (aY .Lt) (rI0 λi j=>.bl<|decide<|i<j):=ayu λ_ _ _ _ _ _ _ q=>lt_int q
def wk:OpR X (aY .LtE) (rI0 λi j=>.bl<|decide<|i<=j):=ayu λ_ _ _ _ _ _ _ q=>le_int q
def akh:OpR X (aY .In) (λx y H Q=>∃i j,x=.str i/\y=.str j/\Q (.bl<|!(Builtin.Str.occurrences j i 0 j.length 1).isEmpty) H):=by intro aC s σ H x y v u Q I rx ry h;obtain⟨i,j,rfl,rfl,q⟩:=h;obtain⟨t,rfl⟩:=rx;obtain⟨t',rfl⟩:=ry;exact in_str<|og I q rfl
theorem Je:OpR X (aY .Is) (λx y H Q=>y=.non/\Q (.bl<|decide<|x=.non) H):=by
 intro aC s σ H x y v u Q I rx ry h;obtain⟨rfl,q⟩:=h;cases ry;refine is_none_gen<|og I q ?_;cases x<;>first
  | (cases rx;rfl)
  | (obtain⟨t,rfl⟩:=rx;rfl)
def nw(b:Expr){op:lZ}(h:op≠.In:=by decide)(h2:op≠.NotIn:=by decide):jA op b=false:=by
 have e1:(op==lZ.In)=false:=by cases op<;>first|rfl|exact absurd rfl h
 have e2:(op==lZ.NotIn)=false:=by cases op<;>first|rfl|exact absurd rfl h2
 cases b<;>simp[jA,e1,e2]
def on{op:lZ}{r:R2}(ho:OpR X (aY op) r)(ha:PE X a ta)(hb:PE X b tb)(hm:jA op b=false):PE X (.Compare a [op] [b] pos) (tOp r ta tb):=by intro aC s σ H Q I h;exact wpAny_Compare1 (HF ha hb I h λv u s2 x y H2 I2 rx ry q=>ho aC s2 σ H2 x y v u Q I2 rx ry q) hm
def aum(t:TE):TT:=λσ H Q=>t σ H λx H'=>∃k,x=.bl k/\Q k H'
def ot{op:lZ}{r:R2}(ho:OpR X (aY op) r)(ha:PE X a ta)(hb:PE X b tb)(hm:jA op b=false):PT X (.Compare a [op] [b] pos) (aum<|tOp r ta tb):=by
 intro aC s σ H Q I h;refine wpAny_isTrue_Compare1 (thn (ha aC s σ H _ I h) λv s1 ⟨x,H1,I1,r1,q1⟩=>thn (hb aC s1 σ H1 _ I1 q1) λu s2 ⟨y,H2,I2,r2,q2⟩=>
  thn (ho aC s2 σ H2 x y v u _ I2 r1 r2 q2) λc s3 ⟨z,H3,I3,r3,k,e,q3⟩=>?_) hm
 subst e;cases r3;exact e8 ⟨H3,I3,q3⟩
def apj(r r':R2)(ta tb tc:TE):TE:=λσ H Q=>ta σ H λx H1=>tb σ H1 λy H2=>r x y H2 λz H3=>∃k,z=.bl k/\
 (if k=true then tc σ H3 λw' H4=>r' y w' H4 Q else Q (.bl false) H3)
theorem JG{op xO:lZ}{r r':R2}(ho:OpR X (aY op) r)(oN:OpR X (aY xO) r')(ha:PE X a ta)(hb:PE X b tb)(hc:PE X c tc)
  (hm:lastMarks [op,xO] [b,c]=false:=by with_unfolding_all rfl):PE X (.Compare a [op,xO] [b,c] pos) (apj r r' ta tb tc):=by
 intro aC s σ H Q I h;refine Compare_chain (thn (ha aC s σ H _ I h) λv s1 ⟨x,H1,I1,r1,q1⟩=>chain_link (thn (hb aC s1 σ H1 _ I1 q1) λu s2 ⟨y,H2,I2,r2,q2⟩=>
  thn (ho aC s2 σ H2 x y v u _ I2 r1 r2 q2) λd s3 ⟨z,H3,I3,r3,k,e,q3⟩=>?_)) hm
 subst e;cases r3;refine e8 ?_;cases k with
 | false=>exact ite_ff ⟨.bl false,H3,I3,rfl,q3⟩
 | true=>exact ite_tt<|chain_last<|thn (hc aC s3 σ H3 _ I3 q3) λw' s4 ⟨z',H4,I4,r4,q4⟩=>oN aC s4 σ H4 y z' u w' Q I4 r2 r4 q4
theorem vd{op xO:lZ}{r r':R2}(ho:OpR X (aY op) r)(oN:OpR X (aY xO) r')(ha:PE X a ta)(hb:PE X b tb)(hc:PE X c tc)
  (hm:lastMarks [op,xO] [b,c]=false:=by with_unfolding_all rfl):PT X (.Compare a [op,xO] [b,c] pos) (aum<|apj r r' ta tb tc):=by
 intro aC s σ H Q I h;refine isTrue_chain (thn (ha aC s σ H _ I h) λv s1 ⟨x,H1,I1,r1,q1⟩=>test_link (thn (hb aC s1 σ H1 _ I1 q1) λu s2 ⟨y,H2,I2,r2,q2⟩=>
  thn (ho aC s2 σ H2 x y v u _ I2 r1 r2 q2) λd s3 ⟨z,H3,I3,r3,k,e,q3⟩=>?_)) hm
 subst e;cases r3;refine e8 ?_;cases k with
 | false=>
  obtain⟨k',e',q'⟩:=q3;cases e';exact ite_ff ⟨H3,I3,q'⟩
 | true=>
  refine ite_tt<|test_last<|thn (hc aC s3 σ H3 _ I3 q3) λw' s4 ⟨z',H4,I4,r4,q4⟩=>thn (oN aC s4 σ H4 y z' u w' _ I4 r2 r4 q4) λd' s5 ⟨z2,H5,I5,r5,k2,e2,q5⟩=>?_;subst e2;cases r5;exact e8 ⟨H5,I5,q5⟩
def ayp(K:av)(x:V)(H:Hp)(k:Bool):Prop:=
 match x with
 | .non=>k=false
 | .bl b=>k=b
 | .int i=>k=(i != 0)
 | .str y=>y.length<=aF/\k=((y.length:Int) != 0)
 | .byt y=>y.size<=aF/\k=((y.size:Int) != 0)
 | .ref p=>(∃xs,SqL K H p xs/\k = !xs.isEmpty)\/(∃xs,SqT K H p xs/\k = !xs.isEmpty)\/∃aR,H p=some (.dK aR)/\k = !aR.isEmpty
 | _=>False
def ai3{κ:Type}{aR:U (κ×V)}{vs:U (κ×aA)}(r:KV aR vs):(!vs.isEmpty) = !aR.isEmpty:=by cases r<;>rfl
def abm{xs:U V}{its:U aA}(r:Vals xs its):(!its.toArray.isEmpty) = !xs.isEmpty:=by cases r<;>simp
def zI:(aF:Nat)<2^63:=by rw[jl];decide
theorem aub:azl X (λx H Q=>∃k,ayp X.K x H k/\Q k H):=by
 intro aC s σ H x v Q I rx h;obtain⟨k,e,q⟩:=h;have hl:=zI;have hs:aF=16777216:=jl;cases x with
 | non=>
  cases rx;have e':k=false:=e;subst e';exact truthy_none ⟨H,I,q⟩
 | bl b=>
  cases rx;have e':k=b:=e;subst e';exact e8 ⟨H,I,q⟩
 | int i=>
  obtain⟨t,rfl⟩:=rx;have e':k=(i != 0):=e;subst e';exact PySem.P.truthy_int ⟨H,I,q⟩
 | str y=>
  obtain⟨t,rfl⟩:=rx;obtain⟨hy,e'⟩:y.length<=aF/\k=((y.length:Int) != 0):=e;subst e';exact PySem.P.truthy_str (by lia) ⟨H,I.tok _,q⟩
 | byt y=>
  obtain⟨t,rfl⟩:=rx;obtain⟨hy,e'⟩:y.size<=aF/\k=((y.size:Int) != 0):=e;subst e';exact PySem.W.truthy_bytes (by lia) ⟨H,I.tok _,q⟩
 | ref p=>
  cases rx;have e':(∃xs,SqL X.K H p xs/\k = !xs.isEmpty)\/(∃xs,SqT X.K H p xs/\k = !xs.isEmpty)\/∃aR,H p=some (.dK aR)/\k = !aR.isEmpty:=e;rcases e' with ⟨xs,hx,e'⟩|⟨xs,hx,e'⟩|⟨aR,hx,e'⟩
  .subst e';obtain⟨its,r,pl,hz⟩:=I.list hx;have aX:=r.length;exact wpAny_truthy_list pl.isList (by simp only[bf];lia) ⟨H,I.tok _,by rw[abm r];exact q⟩
  .subst e';obtain⟨its,r,pl,hz⟩:=I.tuple hx;have aX:=r.length;exact truthy_tuple pl (by simp only[bf];lia) ⟨H,I.tok _,by rw[abm r];exact q⟩
  .subst e';obtain⟨hz,hS,vs,r,m⟩:aR.length<=aF/\(p==bE)=false/\∃vs,KV aR vs/\s.heap.DictOf (p6 X.prog X.w) p vs:=I.hok p _ hx;have aX:aR.length=vs.length:=dL.length r;exact wpAny_truthy_dict hS m (by lia) ⟨H,I.tok _,by rw[ai3 r];exact q⟩
 | _=>exact(show False from e).elim
def an7(ha:PE X a ta)(he:∀gE,isTrue a X.env gE=(do let v <-gE;AU a.pos;fZ [v] (truthy v))) :
  PT X a (λσ H Q=>ta σ H λx H'=>∃k,ayp X.K x H' k/\Q k H'):=by
 intro aC s σ H Q I h;exact isTrue_plain (thn (ha aC s σ H _ I h) λv s1 ⟨x,H1,I1,r1,q1⟩=>aub aC s1 σ H1 x v Q I1 r1 q1)<|he _
def uo:OpR X (dX .Add) (λx y H Q=>∃i j,x=.str i/\y=.str j/\i.length+j.length<=aF/\Q (.str<|i++j) H):=by intro aC s σ H x y v u Q I rx ry h;obtain⟨i,j,rfl,rfl,hz,q⟩:=h;obtain⟨t,rfl⟩:=rx;obtain⟨t',rfl⟩:=ry;exact add_str (λt' tk=>⟨.str<|i++j,H,I.tok _,⟨_,rfl⟩,q⟩) hz
theorem qw{x:V}{us:U aA}(r:Vals [x] us):∃u,us=[u]/\RelV x u:=by
 cases r with
 | cons r1 r2=>cases r2;exact⟨_,rfl,r1⟩
theorem CK{x y:V}{us:U aA}(r:Vals [x,y] us):∃u w',us=[u,w']/\RelV x u/\RelV y w':=by
 cases r with
 | cons r1 r2=>
  cases r2 with
  | cons r3 r4=>cases r4;exact⟨_,_,rfl,r1,r3⟩
def ahb:qv X (.builtin "abs") (λxs H Q=>∃i,xs=[.int i]/\Q (.int (if i<0 then -i else i)) H):=by intro aC s σ H xs us Q I r h;obtain⟨i,rfl,q⟩:=h;obtain⟨u,rfl,t,rfl⟩:=qw r;exact call_abs_int λu tk=>⟨.int (if i<0 then -i else i),H,I.tok _,⟨_,rfl⟩,q⟩
def ad9(hc:X.calm=true):qv X (.builtin "max") (λxs H Q=>∃i j,xs=[.int i,.int j]/\Q (.int (if j>i then j else i)) H):=by
 intro aC s σ H xs us Q I r h;obtain⟨i,j,rfl,q⟩:=h;obtain⟨u,w',rfl,⟨t,rfl⟩,⟨t',rfl⟩⟩:=CK r;refine max_two_ints (I.ok.hd hc) λh' tk k=>⟨_,H,I.kept k,?_,q⟩;by_cases hj:j>i
 .rw[if_pos hj,if_pos hj];exact⟨_,rfl⟩
 .rw[if_neg hj,if_neg hj];exact⟨_,rfl⟩
def adl(hc:X.calm=true):qv X (.builtin "min") (λxs H Q=>∃i j,xs=[.int i,.int j]/\Q (.int (if j<i then j else i)) H):=by
 intro aC s σ H xs us Q I r h;obtain⟨i,j,rfl,q⟩:=h;obtain⟨u,w',rfl,⟨t,rfl⟩,⟨t',rfl⟩⟩:=CK r;refine min_two_ints (I.ok.hd hc) λh' tk k=>⟨_,H,I.kept k,?_,q⟩;by_cases hj:j<i
 .rw[if_pos hj,if_pos hj];exact⟨_,rfl⟩
 .rw[if_neg hj,if_neg hj];exact⟨_,rfl⟩
def alt:qv X (.type "int") (λxs H Q=>(∃i,xs=[.int i]/\Q (.int i) H)\/∃k,xs=[.bl k]/\Q (.int (if k then 1 else 0)) H):=by
 intro aC s σ H xs us Q I r h;rcases h with ⟨i,rfl,q⟩|⟨k,rfl,q⟩
 .obtain⟨u,rfl,t,rfl⟩:=qw r;exact call_int_int ⟨.int i,H,I,⟨_,rfl⟩,q⟩
 .obtain⟨u,rfl,r1⟩:=qw r;cases r1;exact call_int_bool ⟨.int (if k then 1 else 0),H,I.tok _,⟨_,rfl⟩,q⟩
def v4:qv X (.type "str") (λxs H Q=>∃i,xs=[.int i]/\i.natAbs.log2<1920/\Q (.str<|bO i) H):=by intro aC s σ H xs us Q I r h;obtain⟨i,rfl,hz,q⟩:=h;obtain⟨u,rfl,t,rfl⟩:=qw r;exact PySem.P.str_of_int hz ⟨.str _,H,I.tok _,⟨_,rfl⟩,q⟩
end
structure ObjM(h:Heap)(x dx C:aE)(mA:Str->Option aA):Prop where
 obj:h.get? x=some (PySem.W.instObj C dx)
 ns:h.Ns1 dx mA
 ne:dx≠x
def amd{h:Heap}{dx:aE}{mA:Str->Option aA}(n:h.Ns1 dx mA):∃od,h.get? dx=some od/\∀name,PySem.W.lookIn name od=some (mA name):=by
 obtain⟨o,es,ep,ho,hd,hk,_,hm⟩:=n;refine⟨o,ho,λname=>?_⟩;have e:=hm name;unfold nsFind findBy at e;rw[<-Array.find?_toList]at e;unfold PySem.W.lookIn;rw[hd];dsimp only;split
 .rename_i y q
  rw[q]at e;exact congrArg some e
 .rename_i q
  rw[q]at e;have a:es.toList.any (·.refKey)=false:=by rw[List.any_eq_false];intro y hy;obtain⟨z,t,eV⟩:=hk y<|Array.mem_toList_iff.mp hy;simp[DictEntry.refKey,eV]
  have a':¬es.toList.any (·.refKey)=true:=by rw[a];exact ak
  rw[if_neg a'];exact congrArg some e
def ObjM.look{h:Heap}{x dx C:aE}{mA:Str->Option aA}(I:ObjM h x dx C mA):∃od,PySem.W.InstAt h x (PySem.W.instObj C dx) C (some od)/\∀name,PySem.W.lookIn name od=some (mA name):=
 let ⟨od,ho,hl⟩:=amd I.ns
 ⟨od,⟨I.obj,rfl,rfl,ho⟩,hl⟩
section
variable{P:aK}{w:aN}{H H':Hp}{h h':Heap}{a C dx:aE}{fs fs':U (Str×V)}
def ark(hok:HOk P w H h)(e:H a=some (.ins C dx fs)):∃mA,ObjM h a dx C mA/\(∀f,RelO (fs.lookup f)<|mA f)/\PySem.Within mA (fs.map (·.1))/\fs.length<=1000/\H dx=some (.own a):=by obtain⟨d,z,ne,ob,mA,n,r,q⟩:=(show ObjOk P w H h a (.ins C dx fs)from hok a _ e);exact⟨mA,⟨ob,n,ne⟩,r,q,z,d⟩
end
structure Cls(K:av)(C:aE):Prop where
 pg:PySem.W.plainGet K C Str.empty=true
 hd:PySem.W.hasDictIn K C=true
 po:PySem.W.plainOver K C=true
 sa:PySem.W.findIn K (.ref C) "__setattr__" = some (some<|.builtin "object.__setattr__")
def Cls.get{K:av}{C:aE}(c:Cls K C)(f:Str):PySem.W.plainGet K C f=true:=c.pg
section
variable{X:Cx}{aC:U (aE×Obj)}{σ:St}{H:Hp}{s:aB}{A:Around}{E:aA->aB->Prop}{Q:aA->aB->Prop}{c:aA}{b:Bool}
inductive kX(K:av)(H:Hp):V->aA->Prop where
 | non:kX K H .non (.type "NoneType")
 | bl (x:Bool):kX K H (.bl x) (.type "bool")
 | int (i:Int):kX K H (.int i) (.type "int")
 | str (x:Str):kX K H (.str x) (.type "str")
 | flt (x:UInt64):kX K H (.flt x) (.type "float")
 | lst {a:aE} {xs:U V} (e:H a=some (.lst xs)):kX K H (.ref a) (.type "list")
 | frz {a:aE} {o:Obj} {xs:U V} (e:H a=some (.frz o<|.lst xs)):kX K H (.ref a) (.type "list")
 | tup {a:aE} {xs:U V} (e:H a=some (.tup xs)):kX K H (.ref a) (.type "tuple")
 | dK {a:aE} {aR:U (Key×V)} (e:H a=some (.dK aR)):kX K H (.ref a) (.type "dict")
 | dT {a:aE} {aR:U (U Key×V)} (e:H a=some (.dT aR)):kX K H (.ref a) (.type "dict")
 | ins {a C dx:aE} {fs:U (Str×V)} (e:H a=some (.ins C dx fs)) (cl:Cls K C) (ha:PySem.W.findIn K (.ref C) "__class__" = some (some<|.builtin "object.__class__"))
   (hn:PySem.W.specialIn K (.builtin "object.__class__") "__get__" = some (some<|.builtin "getset_descriptor.__get__")) (qP:PySem.W.takesIn K (.builtin "object.__class__")=some true)
   (hm:PySem.W.mroIn K C (.type "object")=some true):kX K H (.ref a) (.ref C)
theorem ak0{x:V}{u t:aA}(I:Inv X aC σ H s)(rx:RelV x u)(ty:kX X.K H x t)(e:jw X.K t c=some b)(h:∀tk,Q (.bool b) {s with toks:=tk}) :
  aG (aH X.prog X.w) A (call (.builtin "isinstance") [u,c]) Q E s:=by
 cases ty with
 | non=>cases (show u=aA.none from rx);exact g9 PySem.W.kitx_none I.kIn True.intro e (λz=>nomatch z) h
 | bl y=>cases (show u=aA.bool y from rx);exact g9 PySem.W.kitx_bool I.kIn True.intro e (λz=>nomatch z) h
 | int i=>obtain⟨t,q⟩:=(show ∃t,u=aA.int i t from rx);cases q;exact g9 PySem.W.kitx_int I.kIn True.intro e (λz=>nomatch z) h
 | str y=>obtain⟨t,q⟩:=(show ∃t,u=aA.str y t from rx);cases q;exact g9 PySem.W.kitx_str I.kIn True.intro e (λz=>nomatch z) h
 | flt y=>obtain⟨t,q⟩:=(show ∃t,u=aA.float y t from rx);cases q;exact g9 PySem.W.kitx_float I.kIn True.intro e (λz=>nomatch z) h
 | @lst a xs ea=>
  cases (show u=aA.ref a from rx);obtain⟨_,_,n,_,h1⟩:=(show ObjOk X.prog X.w H s.heap a (.lst xs)from I.hok a _ ea);exact g9 PySem.W.kitx_list I.kIn ⟨_,h1,rfl⟩ e (λz=>nomatch z) h
 | @frz a ob xs ea=>
  cases (show u=aA.ref a from rx);obtain⟨_,_,_,n,_,h1⟩:=(show ObjOk X.prog X.w H s.heap a (.frz ob<|.lst xs)from I.hok a _ ea);exact g9 PySem.W.kitx_list I.kIn ⟨_,h1,rfl⟩ e (λz=>nomatch z) h
 | @tup a xs ea=>
  cases (show u=aA.ref a from rx);obtain⟨_,_,_,p⟩:=(show ObjOk X.prog X.w H s.heap a (.tup xs)from I.hok a _ ea);obtain⟨o,h1,h2,_⟩:=p;exact g9 PySem.W.kitx_tuple I.kIn ⟨o,h1,h2⟩ e (λz=>nomatch z) h
 | @dK a aR ea=>
  cases (show u=aA.ref a from rx);obtain⟨_,_,vs,_,p⟩:=(show ObjOk X.prog X.w H s.heap a (.dK aR)from I.hok a _ ea);obtain⟨o,es,ep,h1,h2,_⟩:=p;exact g9 PySem.W.kitx_dict I.kIn ⟨o,h1,h2.1⟩ e (λz=>nomatch z) h
 | @dT a aR ea=>
  cases (show u=aA.ref a from rx);obtain⟨_,_,xs,_,o,es,ep,h1,h2,_⟩:=(show ObjOk X.prog X.w H s.heap a (.dT aR)from I.hok a _ ea);exact g9 PySem.W.kitx_dict I.kIn ⟨o,h1,h2.1⟩ e (λz=>nomatch z) h
 | @ins a C dx fs ea cl ha hn qP hm=>
  cases (show u=aA.ref a from rx);obtain⟨mA,O,_⟩:=ark I.hok ea;obtain⟨od,J,_⟩:=O.look;exact g9 (PySem.W.kitx_own (cl.get _) cl.hd ha hn qP hm) I.kIn J e (λz=>nomatch z) h
end
structure Room(k:Nat)(A:Around):Prop where
 hd:A.handled=none
 dp:A.depth+3*k+5<recursionLimit
 un:A.units+16*k+200<bV
def Room.mono{j k:Nat}{A:Around}(r:Room k A)(h:j<=k):Room j A:=⟨r.hd,by have:=r.dp;lia,by have:=r.un;lia⟩
theorem Room.deeper{k:Nat}{A:Around}(r:Room (k+1) A)(env:sQ):Room k (A.deeper env):=
 ⟨r.hd,by have:=r.dp;show A.depth+1+3*k+5<_;lia,by have:=r.un;show A.units+3+16*k+200<_;lia⟩
theorem Room.depth{k:Nat}{A:Around}(r:Room k A):A.depth<recursionLimit:=by have:=r.dp;lia
theorem Room.units{k:Nat}{A:Around}(r:Room k A):A.units+64<bV:=by have:=r.un;lia
def CC:TA:=λ_ H Q=>Q [] H
def sL(ta:TE)(tr:TA):TA:=λσ H Q=>ta σ H λx H1=>tr σ H1 λxs H2=>Q (x::xs) H2
section
variable{X:Cx}{e:Expr}{es:U Expr}{te:TE}{t:TA}{pos:eB}
def kh:PA X [] CC:=λ_ _ _ _ H Q I h=>Calls.spliced_nil ⟨[],H,I,.nil,h⟩
def arn(ha:PE X e te)(hr:PA X es t)(hs:aQ (e::es) X.env=(false,cD e X.env)::aQ es X.env:=by rfl):PA X (e::es) (sL te t):=by intro pos aC s σ H Q I h;rw[hs];show aG _ _ (mM ((false,cD e X.env)::bN pos (aQ es X.env))) _ _ s;refine j4<|thn (ha aC s σ H _ I h) λu s1 ⟨x,H1,I1,r1,q1⟩=>?_;exact thn (hr pos aC s1 σ H1 _ I1 q1) λus s2 ⟨xs,H2,I2,r2,q2⟩=>⟨x::xs,H2,I2,.cons r1 r2,q2⟩
def Et(t:TA):TE:=λσ H Q=>t σ H λxs H1=>xs.length<=aF/\∀p,H1 p=none->Q (.ref p) (upd H1 p<|.tup xs)
def ayy(t:TA):TE:=λσ H Q=>t σ H λxs H1=>xs.length<=aF/\∀p,H1 p=none->Q (.ref p) (upd H1 p<|.lst xs)
def o6{x1}(h:PA X es t):PE X (.Tuple es x1 pos) (Et t):=by intro aC s σ H Q I hq;refine wpAny_Tuple_spliced<|thn (h pos aC s σ H _ I hq) λus s1 ⟨xs,H1,I1,r,z,q⟩=>⟨by rw[<-r.length];exact z,?_⟩;have hf:H1 s1.heap.objs.size=none:=I1.hok.fresh<|aq _;refine⟨.ref s1.heap.objs.size,upd H1 s1.heap.objs.size<|.tup xs,I1.laid (t':=s1.toks) (λb u e=>ah _ e) (aq _) ?_,rfl,q _ hf⟩;exact⟨z,us,r,⟨_,a6 _ rfl,rfl,_,rfl⟩⟩
def pj(h:PA X es t):PE X (.List es pos) (ayy t):=by intro aC s σ H Q I hq;refine wpAny_List_spliced<|thn (h pos aC s σ H _ I hq) λus s1 ⟨xs,H1,I1,r,z,q⟩=>⟨by rw[<-r.length];exact z,?_⟩;have hf:H1 s1.heap.objs.size=none:=I1.hok.fresh<|aq _;refine⟨.ref s1.heap.objs.size,upd H1 s1.heap.objs.size<|.lst xs,I1.laid (t':=s1.toks) (λb u e=>ah _ e) (aq _) ?_,rfl,q _ hf⟩;exact⟨z,us,0,r,a6 _ rfl⟩
end
abbrev Sp:=U V->Hp->VK->XK->Prop
abbrev CXT:=U sQ->Hp->aB->XK->aA->aB->Prop
structure Ev(P:aK)(w:aN)(K:av)(mg:Str->Option aA)(base:Heap)(A:Around)(outer:U sQ)(s:aB)(H:Hp):Prop where
 frames:A.frames=some outer
 mod:Mod K mg base
 bs:∀b o,base.get? b=some o->s.heap.get? b=some o/\H b=none
 bsz:base.objs.size<=s.heap.objs.size
 funs:s.heap.FunFrames base outer
 frf:∀b∈frs outer,H b=none
 hok:HOk P w H s.heap
 bare:gB s.gens
def CE(outer:U sQ)(P:aK)(w:aN)(H:Hp)(s:aB)(Q:VK)(u:aA)(s':aB):Prop:=
 ∃v H',s'.os=s.os/\gB s'.gens/\Un (frs outer) [] H H' s.heap s'.heap/\HOk P w H' s'.heap/\RelV v u/\Q v H'
def CR(CX:CXT)(outer:U sQ)(P:aK)(w:aN)(H:Hp)(s:aB)(Q:VK)(E:XK)(r:iF)(s':aB):Prop:=
 match r with
 | .ok (.ret u)=>CE outer P w H s Q u s'
 | .ok _=>False
 | .error e=>CX outer H s E e s'
structure qp(P:aK)(w:aN)(K:av)(mg:Str->Option aA)(base:Heap)(CX:CXT)(k:Nat)(f:aE)(fd:cM)(ps:U Str)(sp:Sp):Prop where
 len:∀vs H Q E,sp vs H Q E->vs.length=ps.length
 run:∀(A:Around)(outer:U sQ)(s:aB)(H:Hp)(args:E8)(us:U aA)(vs:U V)(Q:VK)(E:XK),Room k A->Ev P w K mg base A outer s H->nF s fd args (ps.zip us)->Vals vs us->sp vs H Q E->
  bY (aH P w) A (.call (.ref f) args) (CR CX outer P w H s Q E) s
section
variable{X:Cx}{aC:U (aE×Obj)}{σ:St}{H:Hp}{s s':aB}
def Inv.env0(I:Inv X aC σ H s):Ev X.prog X.w X.K X.mg X.base X.A X.stack s H:=
 ⟨I.ok.frames,I.ok.mod,I.bs,fg I.ok.bsz I.sz,I.stack,I.stkFree,I.hok,I.bare⟩
def Inv.after{Q:VK}{u:aA}(I:Inv X aC σ H s)(h:CE X.stack X.prog X.w H s Q u s'):EP X aC σ Q u s':=by obtain⟨v,H',os,bare,un,hok,r,q⟩:=h;obtain⟨hh,g,d,t,qJ⟩:=s';obtain rfl:qJ=s.os:=os;exact⟨v,H',I.call (h':=hh) (g':=g) (d':=d) (t':=t) (ch:=[]) un hok bare λb z=>absurd z<|by simp,r,q⟩
end
def atx(sp:Sp)(wV:U V)(E:XK)(t:TA):TE:=λσ H Q=>t σ H λvs H1=>sp (vs++wV) H1 Q E
def Binds(K:av)(fd:cM)(ps:U Str)(ds:U aA):Prop:=
 ∀(s:aB)(us:U aA),K.In s.heap->(us++ds).length=ps.length->nF s fd ⟨us,[]⟩ (ps.zip<|us++ds)
def Binds.all{K:av}{fd:cM}{ps:U Str}(h:∀us:U aA,us.length=ps.length->bindArgs fd ⟨us,[]⟩=aT (ps.zip us)):Binds K fd ps []:=λs us _ hl=>by rw[ie]at hl⊢;exact .of_eq<|h us hl
def IQ(CX:CXT)(X:Cx)(E:XK):Prop:=∀(aC:U (aE×Obj)) (σ:St) (H:Hp) (s:aB) (e:aA) (s':aB),Inv X aC σ H s->CX X.stack H s E e s'->X.xe e s'
section
variable{X:Cx}{CX:CXT}{k:Nat}{f C:aE}{fd:cM}{ps:U Str}{sp:Sp}{wV:U V}{ds:U aA}{E:XK}{x m:Str}{p pos iN:eB}{e o:Expr}{es:U Expr}{ta:TE}{t:TA}
theorem awb{aC:U (aE×Obj)}{σ:St}{H:Hp}{s:aB}{Q:VK}{us:U aA}{vs:U V}(F:qp X.prog X.w X.K X.mg X.base CX k f fd ps sp)(hr:Room k X.A)(hb:Binds X.K fd ps ds)(hd:Vals wV ds)(hx:IQ CX X E)
  (I:Inv X aC σ H s) (r:Vals vs us) (h:sp (vs++wV) H Q E):aG (aH X.prog X.w) X.A (call (.ref f) us) (EP X aC σ Q) X.xe s:=by
 have r2:Vals (vs++wV) (us++ds):=r.append hd;have hl:(us++ds).length=ps.length:=by rw[<-r2.length];exact F.len _ _ _ _ h
 refine fX<|j8 (F.run X.A X.stack s H ⟨us,[]⟩ (us++ds) (vs++wV) Q E hr I.env0 (hb s us I.kIn hl) r2 h) λr s' hq=>?_;cases r with
 | error e=>exact hx aC σ H s e s' I hq
 | ok fl=>
  cases fl with
  | ret u=>exact I.after hq
  | next=>exact False.elim hq
  | brk=>exact False.elim hq
  | cont=>exact False.elim hq
def aq6(F:qp X.prog X.w X.K X.mg X.base CX k f fd ps sp)(hr:Room k X.A)(hg:Gl X x)(hm:X.mg x=some (.ref f))(hk:PySem.W.keepIn X.K (.ref f)=true)(hb:Binds X.K fd ps ds)(hd:Vals wV ds)(hx:IQ CX X E)
  (ha:PA X (e::es) t) (rG:(x==("__debug__" : Str))=false:=by decide) (he:aQ (e::es) X.env=(false,cD e X.env)::aQ es X.env:=by rfl) (gW:(bN pos<|aQ es X.env).any (·.1)=false:=by rfl) :
  PE X (.Call (.Name x p) (e::es) [] pos) (atx sp wV E t):=by
 intro aC s σ H Q I h;refine gd<|am7 I hg hm ?_ rG;refine PySem.W.callWith_K (h₀:=X.base) I.ok.mod.kin hk (thn (ha pos aC s σ H _ I h) λus s1 ⟨vs,H1,I1,r,q⟩=>⟨I1.kIn,?_⟩) he gW;exact awb F hr hb hd hx I1 r q
end
def PK(X:Cx)(A9:U iO)(t:TA):Prop:=
 ∀(pos:eB) (aC:U (aE×Obj)) (s:aB) (σ:St) (H:Hp) (Q:U V->Hp->Prop),Inv X aC σ H s->t σ H Q->aG (aH X.prog X.w) X.A (evalAll<|(oB pos<|hV A9 X.env).map (·.2)) (AP X aC σ Q) X.xe s
section
variable{X:Cx}{CX:CXT}{k:Nat}{f C:aE}{fd:cM}{ps ks:U Str}{sp:Sp}{E:XK}{x m:Str}{p pos iN mO:eB}{e o:Expr}{es:U Expr}{A9:U iO}{te ta:TE}{t tk:TA}{nm:Option Str}
def EH:PK X [] CC:=λ_ _ _ _ H Q I h=>wpAny_evalAll_nil ⟨[],H,I,.nil,h⟩
def ET(ha:PE X e te)(hr:PK X A9 t):PK X (⟨nm,e,mO⟩::A9) (sL te t):=by intro pos aC s σ H Q I h;show aG _ _ (evalAll ((do let v <-cD e X.env;AU pos;aT v)::(oB pos<|hV A9 X.env).map (·.2))) _ _ s;refine wpAny_evalAll_cons<|aa<|thn (ha aC s σ H _ I h) λu s1 ⟨x,H1,I1,r1,q1⟩=>aa<|fH<|ai ?_;exact thn (hr pos aC s1 σ H1 _ I1 q1) λus s2 ⟨xs,H2,I2,r2,q2⟩=>⟨x::xs,H2,I2,.cons r1 r2,q2⟩
variable{g:U aA->U aA->U aA}{gV:U V->U V->U V}
end
structure lq(N P:U Str)(sc:cX):Prop where
 kind:sc.kind=.function:=by rfl
 co:sc.isCoroutine=false:=by rfl
 gen:sc.isGenerator=false:=by rfl
 nd:N.Nodup:=by decide +kernel
 pre:N.take P.length=P:=by rfl
 par:∀x∈P,sc.names.lookup x=some .local\/sc.names.lookup x=some .cell:=by decide +kernel
 nofree:∀y∈sc.names,y.2≠.free:=by decide +kernel
theorem aed{kindOf:Str->Option aS}{x:Str}:∀{binds:U (Str×aA)} {m:Str->Option aA},(∀v,(x,v)∉binds)->rV kindOf binds m x=m x
 | [],_,_=>rfl
 | (n,v)::r,m,h=>by
  unfold rV;rw[aed λw hw=>h w<|ao _ hw];split
  .have:x≠n:=by rintro rfl;exact h v am
   simp[this]
  .rfl
theorem ae2{kindOf:Str->Option aS}{x:Str}:∀{binds:U (Str×aA)} {m:Str->Option aA},(∀v,(x,v)∉binds)->rW kindOf binds m x=m x
 | [],_,_=>rfl
 | (n,v)::r,m,h=>by
  unfold rW;rw[ae2 λw hw=>h w<|ao _ hw];split
  .rfl
  .have:x≠n:=by rintro rfl;exact h v am
   simp[this]
theorem adt{kindOf:Str->Option aS}{x:Str}{v:aA}:∀{P:U Str} {vs:U aA} {i:Nat} {m:Str->Option aA},P.Nodup->P[i]?=some x->vs[i]?=some v->kindOf x=some .local->
  rV kindOf (P.zip vs) m x=some v
 | [],_,_,_,_,h,_,_=>by simp at h
 | _::_,[],_,_,_,_,h,_=>by simp at h
 | p::P,w::vs,0,m,nd,h1,h2,hk=>by simp at h1 h2;subst h1;subst h2;show rV kindOf ((p,w)::P.zip vs) m p=_;unfold rV;rw[aed λv hv=>(iy.mp nd).1 (List.of_mem_zip hv).1,if_pos hk];simp
 | p::P,w::vs,i+1,m,nd,h1,h2,hk=>by show rV kindOf ((p,w)::P.zip vs) m x=_;unfold rV;exact adt (i:=i) (iy.mp nd).2 (by simpa using h1) (by simpa using h2) hk
theorem aex{kindOf:Str->Option aS}{x:Str}{v:aA}:∀{P:U Str} {vs:U aA} {i:Nat} {m:Str->Option aA},P.Nodup->P[i]?=some x->vs[i]?=some v->kindOf x≠some .local->
  rW kindOf (P.zip vs) m x=some v
 | [],_,_,_,_,h,_,_=>by simp at h
 | _::_,[],_,_,_,_,h,_=>by simp at h
 | p::P,w::vs,0,m,nd,h1,h2,hk=>by simp at h1 h2;subst h1;subst h2;show rW kindOf ((p,w)::P.zip vs) m p=_;unfold rW;rw[ae2 λv hv=>(iy.mp nd).1 (List.of_mem_zip hv).1,if_neg hk];simp
 | p::P,w::vs,i+1,m,nd,h1,h2,hk=>by show rW kindOf ((p,w)::P.zip vs) m x=_;unfold rW;exact aex (i:=i) (iy.mp nd).2 (by simpa using h1) (by simpa using h2) hk
noncomputable def xC(N:U Str)(vs:U V):St:=vs.map some++List.replicate (N.length-vs.length) none
noncomputable def Ay(CX:CXT)(P:aK)(w:aN)(K:av)(mg:Str->Option aA)(base:Heap)(N:U Str)(qual:Str)(scope:cX)(f:aE)(cd:aA)(A:Around)(outer:U sQ)(s:aB)(H:Hp)(E:XK):Cx where
 prog:=P
 w:=w
 K:=K
 mg:=mg
 base:=base
 A:=A.deeper (jI qual scope s.heap.objs.size f cd)
 N:=N
 s₀:=s
 H₀:=H
 env:=jI qual scope s.heap.objs.size f cd
 outer:=outer
 stack:=jI qual scope s.heap.objs.size f cd::outer
 ex:=[]
 calm:=true
 fn:=λ_=>true
 pn:=[]
 xe:=λe s'=>aG (aH P w) (A.deeper<|jI qual scope s.heap.objs.size f cd) (leaving (jI qual scope s.heap.objs.size f cd) e) (λ_ xI=>CX outer H s E e xI) (λe' xI=>CX outer H s E e' xI) s'
def ag5{sc:cX}{n:Nat}{x:Str}(h:sc.names.lookup x=some .cell):∃c,(Er n sc.names []).lookup x=some c:=by have q:=PySem.W.cellsFrom_some sc.names n []<|.inl h;exact Option.isSome_iff_exists.mp q
theorem alc{CX:CXT}{P:aK}{w:aN}{K:av}{mg:Str->Option aA}{base:Heap}{N ps:U Str}{qual:Str}{scope:cX}{f:aE}{cd:aA}{A:Around}{outer:U sQ}{s s1:aB}{H:Hp}{E:XK}{us:U aA}{vs:U V}
  (S:lq N ps scope) (hd:A.handled=none) (e0:Ev P w K mg base A outer s H) (hl:vs.length=ps.length) (r:Vals vs us)
  (x:InCallC s s.heap.objs.size (rV (jI qual scope s.heap.objs.size f cd).kindOf (ps.zip us) λ_=>none) (Er (s.heap.objs.size+1) scope.names []) (rW (jI qual scope s.heap.objs.size f cd).kindOf (ps.zip us) λ_=>none) s1) :
  Inv (Ay CX P w K mg base N qual scope f cd A outer s H E) [] (xC N vs) H s1:=by
 have gW:ps.length<=N.length:=by have:=congrArg List.length S.pre;rw[cm]at this;lia
 obtain⟨h1,tk,rfl,hk⟩:=x.done;have A4:∀b:aE,b∉(Ay CX P w K mg base N qual scope f cd A outer s H E).ex:=λb z=>absurd (show b∈([]:U aE)from z) (by simp);refine⟨⟨e0.mod,S.kind,rfl,rfl,aq _,λy z c h1 h2=>?_,λy hy=>?_,λy c _ h=>?_,λ_=>hd,Around.frames_deeper e0.frames,.inr ⟨rfl,rfl⟩,λb z=>absurd z<|A4 b,e0.bs,e0.bsz,λb _ _=>A4 b,λb z=>absurd z<|A4 b,e0.funs,e0.frf⟩,
  rfl,e0.bare,Un.kept hk,⟨_,x.toInCall.ns,λi y v h1 h2 h3=>?_⟩,λy c h=>⟨_,x.cell y c h⟩,e0.hok.fresh<|aq _,λy c h=>?_,λp hp=>absurd (show p∈([]:U (aE×Obj))from hp)<|by simp,e0.hok.kept hk,?_⟩
 .exact name_of_addr x.apart (ij h1)<|ij h2
 .have hy:scope.names.lookup y=some .cell\/scope.names.lookup y=some .free:=hy;rcases hy with hy|hy
  .exact ag5 hy
  .exact absurd rfl<|S.nofree _<|ij hy
 .exact ck<|x.above y c<|ij h
 .have hi:i<vs.length:=by
   unfold xC at h2;by_cases hi:i<vs.length
   .exact hi
   .rw[bu (by simpa using hi)]at h2;rw[List.getElem?_replicate]at h2;split at h2<;>cases h2
  have ha:vs[i]?=some v:=by
   unfold xC at h2;rw[cq (by simpa using hi),a8]at h2;cases e:vs[i]? with
   | none=>rw[e]at h2;cases h2
   | some a=>rw[e]at h2;cases h2;rfl
  obtain⟨u,hu,rv⟩:=r.get ha;have hp:ps[i]?=some y:=by rw[<-S.pre,de<|by lia];exact h1
  have ndP:ps.Nodup:=by rw[<-S.pre];exact S.nd.sublist<|jc _ _
  refine⟨u,rv,?_⟩;rcases S.par y (aj hp)with k|k
  .exact .inl ⟨k,adt ndP hp hu k⟩
  .obtain⟨c,e⟩:=ag5 (n:=s.heap.objs.size+1) k;refine .inr ⟨.inl k,c,e,?_⟩;have q:=x.cell y c e;rw[aex ndP hp hu (by show scope.names.lookup y≠_;rw[k];decide)]at q;exact q
 .exact e0.hok.fresh<|ck<|x.above y c<|ij h
 .unfold xC;show _=N.length;rw[bn,ae,List.length_replicate];lia
theorem awk{CX:CXT}{P:aK}{w:aN}{K:av}{mg:Str->Option aA}{base:Heap}{k:Nat}{f:aE}{name qual:Str}{params:Arguments}{body:U aW}{scope:cX}{dV kV jJ pm bT ct oc:aA}{an od:Option aE}
  {tX:Array (Option aA)} {N ps:U Str} {sp:Sp} (lk:K.lookup f=some ⟨oc,od,.func<|j9 name qual params body scope dV kV jJ pm an bT ct,tX⟩) (pR:PySem.W.codeIn K bT qual=true) (S:lq N ps scope)
  (len:∀vs H Q E,sp vs H Q E->vs.length=ps.length)
  (rL:∀(A:Around)(outer:U sQ)(s:aB)(H:Hp)(vs:U V)(Q:VK)(E:XK),Room k (A.deeper<|jI qual scope s.heap.objs.size f bT)->sp vs H Q E->
   ∃t,PSs (Ay CX P w K mg base N qual scope f bT A outer s H E) body t/\t {nx:=λ_ H'=>Q .non H',rt:=Q} (xC N vs) H) :
  qp P w K mg base CX (k+1) f (j9 name qual params body scope dV kV jJ pm an bT ct) ps sp:=by
 refine⟨len,λA outer s H args us vs Q E hr e0 hb r gQ=>?_⟩;have hl:=len _ _ _ _ gQ;have KX:K.In s.heap:=e0.mod.kin.keeps λb o e=>(e0.bs b o e).1;have lim:s.heap.NoLimit:=e0.mod.nolimit.keeps λb o e=>(e0.bs b o e).1;have fR:∀y∈ps.zip us,scope.names.lookup y.1=some .local\/(scope.names.lookup y.1=some .cell/\((Er (s.heap.objs.size+1) scope.names []).lookup y.1).isSome=true):=λ⟨n,v⟩ hy=>by
  rcases S.par n (List.of_mem_zip hy).1 with q|q
  .exact .inl q
  .exact .inr ⟨q,PySem.W.cellsFrom_some _ _ _<|.inl q⟩
 refine codeAny_call_function hr.depth (KX _ _ lk) rfl S.co S.gen rfl (PySem.W.codeRec_of KX pR)<|hb _ _ _ _ ?_;refine wpAny_newFunctionEnv_cells S.kind fR λenv he s1 x=>?_;subst he;refine⟨lim.keeps x.toInCall.keep,codeAny_func ?_⟩;obtain⟨t,ht,hq⟩:=rL A outer s H vs Q E (hr.deeper _) gQ;have I:Inv (Ay CX P w K mg base N qual scope f bT A outer s H E) [] (xC N vs) H s1:=alc S hr.hd e0 hl r x;refine jg (ht [] s1 (xC N vs) H _ I hq) (λfl s' hs=>?_) λe s' hs=>hs;have fin:∀{σ':St} {H':Hp} {v:V} {u:aA},Inv (Ay CX P w K mg base N qual scope f bT A outer s H E) [] σ' H' s'->RelV v u->Q v H'->CE outer P w H s Q u s':=
  λ{σ' H' v u} J rv q=>⟨v,H',J.os,J.bare,J.base,J.hok,rv,q⟩
 cases fl with
 | ret u=>
  obtain⟨v,σ',H',J,rv,q⟩:=hs;exact fin J rv q
 | next=>
  obtain⟨σ',H',J,q⟩:=hs;exact fin (v:=V.non) (u:=aA.none) J rfl q
 | brk=>
  obtain⟨_,_,_,q⟩:=hs;exact False.elim q
 | cont=>
  obtain⟨_,_,_,q⟩:=hs;exact False.elim q
section
variable{X:Cx}{x:Str}{p pos:eB}{e:Expr}{es:U Expr}{t:TA}{id T:String}{r:U V->Hp->VK->Prop}
def tCB(r:U V->Hp->VK->Prop)(t:TA):TE:=λσ H Q=>t σ H λvs H1=>r vs H1 Q
def ao8(hc:qv X (.builtin id) r)(hg:Gl X x)(hm:X.mg x=none)(hv:cQ x=some (.builtin id))(ha:PA X (e::es) t)(hn:x≠"__name__":=by decide)(rG:(x==("__debug__" : Str))=false:=by decide)
  (he:aQ (e::es) X.env=(false,cD e X.env)::aQ es X.env:=by rfl) (gW:(bN pos<|aQ es X.env).any (·.1)=false:=by rfl):PE X (.Call (.Name x p) (e::es) [] pos) (tCB r t):=by
 intro aC s σ H Q I h;refine gd<|sv I hg hm hv ?_ hn rG;exact jp (thn (ha pos aC s σ H _ I h) λus s1 ⟨vs,H1,I1,r1,q1⟩=>hc aC s1 σ H1 vs us Q I1 r1 q1) he gW
def amh(hc:qv X (.type T) r)(hg:Gl X x)(hm:X.mg x=none)(hv:cQ x=some (.type T))(ha:PA X (e::es) t)(hn:x≠"__name__":=by decide)(rG:(x==("__debug__" : Str))=false:=by decide)
  (he:aQ (e::es) X.env=(false,cD e X.env)::aQ es X.env:=by rfl) (gW:(bN pos<|aQ es X.env).any (·.1)=false:=by rfl):PE X (.Call (.Name x p) (e::es) [] pos) (tCB r t):=by
 intro aC s σ H Q I h;refine gd<|sv I hg hm hv ?_ hn rG;exact e9 (thn (ha pos aC s σ H _ I h) λus s1 ⟨vs,H1,I1,r1,q1⟩=>hc aC s1 σ H1 vs us Q I1 r1 q1) he gW
end
end L2
namespace HT
open PySem PyProof.Rows
section
variable{prog:aK}{w:aN}{A:Around}{E:aA->aB->Prop}{s:aB}
noncomputable def sIx(n d:Nat):Option Int->Nat
 | none=>d
 | some v=>if v<0 then(v+(n:Int)).toNat else iQ v.toNat n
def sIx_none(n d:Nat):sIx n d none=d:=rfl
def sIx_nat(n d k:Nat):sIx n d (some (k:Int))=iQ k n:=by show(if (k:Int)<0 then((k:Int)+(n:Int)).toNat else iQ (k:Int).toNat n)=iQ k n;rw[if_neg (by lia),fy]
end
end HT
namespace L2
open PySem PySem.Spec PyProof.Rows
abbrev TO:=St->Hp->(Option Int->Hp->Prop)->Prop
def PO(X:Cx)(e:Option Expr)(t:TO):Prop:=
 ∀(aC:U (aE×Obj)) (s:aB) (σ:St) (H:Hp) (Q:Option Int->Hp->Prop),Inv X aC σ H s->t σ H Q->
  aG (aH X.prog X.w) X.A (evalPart e X.env) (λu s'=>∃o H',Inv X aC σ H' s'/\IsPart u o/\Q o H') X.xe s
noncomputable def amp:TO:=λ_ H Q=>Q none H
noncomputable def aw8(t:TE):TO:=λσ H Q=>t σ H λx H1=>∃i,x=.int i/\Q (some i) H1
theorem wj{ns:U Int}:∀{us:U aA},Vals (ns.map V.int) us->fG us ns:=by
 induction ns with
 | nil=>intro us r;rw[List.map_nil]at r;cases r;exact .nil
 | cons n ns ih=>
  intro us r;rw[dg]at r;cases r with
  | cons r1 r2=>
   obtain⟨t,e⟩:=r1;subst e;exact .cons n t<|ih r2
section
variable{X:Cx}{e:Expr}{te:TE}{lo hi:Option Expr}{tl th:TO}{pos p2:eB}
def yj:PO X none amp:=by intro aC s σ H Q I h;rw[evalPart_none];exact ai ⟨none,H,I,.none,h⟩
def yn(h:PE X e te):PO X (some e) (aw8 te):=by intro aC s σ H Q I hw;rw[evalPart_some];refine thn (h aC s σ H _ I hw) λu s1 ⟨x,H1,I1,r1,q1⟩=>?_;obtain⟨i,rfl,q⟩:=q1;obtain⟨t,rfl⟩:=r1;exact⟨some i,H1,I1,.int i t,q⟩
def SlR(X:Cx)(r:V->Option Int->Option Int->Hp->VK->Prop):Prop:=
 ∀(aC:U (aE×Obj)) (s:aB) (σ:St) (H:Hp) (x:V) (v vl vu:aA) (lo hi:Option Int) (sl:aE) (Q:VK),Inv X aC σ H s->RelV x v->s.heap.IsSliceOf sl vl vu .none->IsPart vl lo->IsPart vu hi->r x lo hi H Q->
  ∃T id,typeLookup (.type T) "__getitem__" = aT (some<|.builtin id)/\s.TypeIs v T/\aG (aH X.prog X.w) X.A (getItem v<|.ref sl) (EP X aC σ Q) X.xe s
def tSl(r:V->Option Int->Option Int->Hp->VK->Prop)(te:TE)(tl th:TO):TE:=λσ H Q=>te σ H λx H1=>tl σ H1 λl H2=>th σ H2 λu H3=>r x l u H3 Q
def wc{r:V->Option Int->Option Int->Hp->VK->Prop}(hr:SlR X r)(he:PE X e te)(hl:PO X lo tl)(hu:PO X hi th):PE X (.Subscript e (.Slice lo hi none p2) pos) (tSl r te tl th):=by intro aC s σ H Q I h;refine Subscript_<|thn (he aC s σ H _ I h) λv s1 ⟨x,H1,I1,r1,q1⟩=>?_;refine wpAny_Slice<|thn (hl aC s1 σ H1 _ I1 q1) λvl s2 ⟨l,H2,I2,pl,q2⟩=>thn (hu aC s2 σ H2 _ I2 q2) λvu s3 ⟨u,H3,I3,pu,q3⟩=>?_;rw[evalPart_none];refine ai ?_;have I4:Inv X aC σ H3 {s3 with heap:=s3.heap.push {cls:=.type "slice",data:=.fields #[vl,vu,.none]}}:=I3.kept (t':=s3.toks) λb ob q=>ah _ q;obtain⟨T,id,hT,ht,hg⟩:=hr aC {s3 with heap:=s3.heap.push {cls:=.type "slice",data:=.fields #[vl,vu,.none]}} σ H3 x v vl vu l u s3.heap.objs.size Q I4 r1 (Heap.IsSliceOf.new ..) pl pu q3;show aG (aH X.prog X.w) X.A (subscriptTail e (.Slice lo hi none p2) v<|.ref s3.heap.objs.size) (EP X aC σ Q) X.xe {s3 with heap:=s3.heap.push {cls:=.type "slice",data:=.fields #[vl,vu,.none]}};exact tail_any (ops:=[.ref s3.heap.objs.size,v]) ht hT hg<|by with_unfolding_all rfl
noncomputable def nB(xs:U V)(lo hi:Option Int):U V:=(xs.drop<|HT.sIx xs.length 0 lo).take (HT.sIx xs.length xs.length hi-HT.sIx xs.length 0 lo)
def afh(xs:U V)(lo hi:Option Int):(nB xs lo hi).length<=xs.length:=by unfold nB;rw[cm,ii];lia
end
noncomputable def ixN(n:Nat)(i:Int):Option Nat:=if 0<=i then(if i<n then some i.toNat else none)else if -(n:Int)<=i then some (i+n).toNat else none
noncomputable def atI{α:Type}(xs:List α)(i:Int):Option α:=(ixN xs.length i).bind λj=>xs[j]?
def akm{n:Nat}{i:Int}{j:Nat}(h:ixN n i=some j):seqIndex? i n=some j/\j<n/\-(n:Int)<=i/\i<n:=by
 unfold ixN at h;by_cases h0:0<=i
 .rw[if_pos h0]at h;by_cases h1:i<n
  .rw[if_pos h1]at h;have e:i.toNat=j:=ca h;exact⟨by rw[vM h0 h1,e],by lia,by lia,h1⟩
  .rw[if_neg h1]at h;cases h
 .rw[if_neg h0]at h;by_cases h1:-(n:Int)<=i
  .rw[if_pos h1]at h;have e:(i+n).toNat=j:=ca h;exact⟨by rw[sU (by lia) h1,e],by lia,h1,by lia⟩
  .rw[if_neg h1]at h;cases h
theorem Jv{α:Type}{xs:List α}{i:Int}{v:α}(h:atI xs i=some v):∃j,seqIndex? i xs.length=some j/\xs[j]?=some v/\j<xs.length/\-(xs.length:Int)<=i/\i<xs.length:=by
 unfold atI at h;cases e:ixN xs.length i with
 | none=>rw[e]at h;cases h
 | some j=>
  rw[e]at h;obtain⟨h1,h2,h3,h4⟩:=akm e;exact⟨j,h1,h,h2,h3,h4⟩
def ni{α:Type}{xs:List α}{j:Nat}{v:α}(h:xs[j]?=some v):atI xs (j:Int)=some v:=by
 have hj:j<xs.length:=(ap.mp h).1;have e:ixN xs.length (j:Int)=some j:=by unfold ixN;rw[if_pos (by lia),if_pos<|by lia];simp
 unfold atI;rw[e];exact h
def aru(b:Expr):Prop:=∀o i,subscripted b false o i=operate [o,i] (getItem o i)
def IxR(X:Cx)(r:R2):Prop:=
 ∀(value slice:Expr) (aC:U (aE×Obj)) (s:aB) (σ:St) (H:Hp) (x y:V) (v u:aA) (Q:VK),Inv X aC σ H s->RelV x v->RelV y u->r x y H Q->
  subscripted slice false v u=operate [v,u] (getItem v u)->aG (aH X.prog X.w) X.A (subscriptTail value slice v u) (EP X aC σ Q) X.xe s
def MtR(X:Cx)(id:String)(r:V->U V->Hp->VK->Prop):Prop:=
 ∀(aC:U (aE×Obj)) (s:aB) (σ:St) (H:Hp) (x:V) (xs:U V) (v:aA) (us:U aA) (Q:VK),Inv X aC σ H s->RelV x v->Vals xs us->r x xs H Q->
  aG (aH X.prog X.w) X.A (call (.builtin id) (v::us)) (EP X aC σ Q) X.xe s
section
variable{X:Cx}{a b:Expr}{ta tb:TE}{pos:eB}
def mi{r:R2}(hr:IxR X r)(ha:PE X a ta)(hb:PE X b tb)(hs:aru b):PE X (.Subscript a b pos) (tOp r ta tb):=by intro aC s σ H Q I h;exact Subscript_<|HF ha hb I h λv u s2 x y H2 I2 rx ry q=>hr a b aC s2 σ H2 x y v u Q I2 rx ry q<|hs _ _
def ayf(K:av):R2:=λx y H Q=>∃p xs i v,x=.ref p/\y=.int i/\SqL K H p xs/\atI xs i=some v/\Q v H
def CD(K:av):R2:=λx y H Q=>∃p xs i v,x=.ref p/\y=.int i/\SqT K H p xs/\atI xs i=some v/\Q v H
def ayx:R2:=λx y H Q=>∃z i c,x=.str z/\y=.int i/\z.length<=aF/\atI z.cps.toList i=some c/\Q (.str ⟨#[c]⟩) H
def nv:IxR X (ayf X.K):=by
 intro value slice aC s σ H x y v u Q I rx ry h hs;obtain⟨p,xs,i,z,rfl,rfl,hq,he,q⟩:=h;cases rx;obtain⟨t,rfl⟩:=ry;obtain⟨its,r,pl,hz⟩:=I.list hq;obtain⟨j,h1,h2,h3,h4,h5⟩:=Jv he;obtain⟨w,ew,qD⟩:=r.get h2;have hl:=r.length;have hn:=zI;have fin:EP X aC σ Q w s:=⟨z,H,I,qD,q⟩;by_cases h0:0<=i
 .have hj:i.toNat=j:=by
   rw[vM h0 h5]at h1;exact ca h1
  exact item_listR pl.isList h0 (by lia) (by rw[hj];simpa using ew) fin hs
 .have hj:(i+(its.toArray.size:Int)).toNat=j:=by
   rw[sU (by lia) h4]at h1;rw[bf,<-hl];exact ca h1
  exact sT (x:=w) pl.isList.typeIs slot_list_getitem.lookup
   (wpAny_getItem_list_neg (Q:=λr s'=>r=w/\EP X aC σ Q r s') pl.isList (by lia) (by rw[bf]<;>lia) (by lia) (by rw[hj];simpa using ew) ⟨rfl,fin⟩) hs
def oq:IxR X (CD X.K):=by
 intro value slice aC s σ H x y v u Q I rx ry h hs;obtain⟨p,xs,i,z,rfl,rfl,hq,he,q⟩:=h;cases rx;obtain⟨t,rfl⟩:=ry;obtain⟨its,r,pl,hz⟩:=I.tuple hq;obtain⟨j,h1,h2,h3,h4,h5⟩:=Jv he;obtain⟨w,ew,qD⟩:=r.get h2;have hl:=r.length;have hn:=zI;have fin:EP X aC σ Q w s:=⟨z,H,I,qD,q⟩;exact sT (x:=w) pl.typeIs slot_tuple_getitem.lookup
  (getItem_tuple (j:=j) (Q:=λr s'=>r=w/\EP X aC σ Q r s') pl (by lia) (by lia) (by rw[bf,<-hl];exact h1) (by simpa using ew) ⟨rfl,fin⟩) hs
def AM:IxR X ayx:=by
 intro value slice aC s σ H x y v u Q I rx ry h hs;obtain⟨z,i,c,rfl,rfl,hz,he,q⟩:=h;obtain⟨t,rfl⟩:=rx;obtain⟨t',rfl⟩:=ry;obtain⟨j,h1,h2,h3,h4,h5⟩:=Jv he;have hl:z.cps.toList.length=z.length:=by simp[Str.length]
 rw[hl]at h1 h4 h5;have hn:=zI;exact tail_any (dP s z t) slot_str_getitem.lookup (getItem_str (c:=c) (by
  have e1:decide (i < -(2^63:Int))=false:=decide_eq_false (by lia);have e2:decide (i>=2^63)=false:=decide_eq_false (by lia);rw[e1,e2,Bool.or_false]) (by rw[h1];simpa using h2) ⟨.str ⟨#[c]⟩,H,I.tok _,⟨_,rfl⟩,q⟩) hs
def aih(its:U aA)(n j:Nat)(u:aA):jd (·.setIfInBounds j u) {cls:=.type "list",data:=.seq its.toArray n}={cls:=.type "list",data:=.seq (its.set j u).toArray n}:=by simp[jd]
theorem Inv.lst{aC:U (aE×Obj)}{σ:St}{H:Hp}{s:aB}{p:aE}{xs:U V}(I:Inv X aC σ H s)(h:H p=some (.lst xs)) :
  ∃(its:U aA)(n:Nat),Vals xs its/\s.heap.get? p=some {cls:=.type "list",data:=.seq its.toArray n}/\xs.length<=aF:=by
 obtain⟨z,its,n,r,e⟩:=I.hok p _ h;exact⟨its,n,r,e,z⟩
def Inv.lstUpd{aC:U (aE×Obj)}{σ:St}{H:Hp}{s:aB}{p:aE}{xs ys:U V}{its its':U aA}{n n':Nat}{f:Obj->Obj}(I:Inv X aC σ H s)(h:H p=some (.lst xs))
  (ho:s.heap.get? p=some {cls:=.type "list",data:=.seq its.toArray n}) (hf:f {cls:=.type "list",data:=.seq its.toArray n}={cls:=.type "list",data:=.seq its'.toArray n'}) (r:Vals ys its') (hz:ys.length<=aF) (t:Nat) :
  Inv X aC σ (upd H p<|.lst ys) {s with heap:=s.heap.update p f,toks:=t}:=by
 have e:(s.heap.update p f).get? p=some {cls:=.type "list",data:=.seq its'.toArray n'}:=by rw[cp f ho (by rw[hf]<;>rfl),hf]
 refine I.write (x:=p) (e:=p) (by rw[h];trivial) (.inl rfl) (λb u hb q=>(br _ _<|Ne.symm hb).trans q) ⟨_,e⟩ ?_;exact⟨hz,its',n',r,e⟩
def awv:V->V->V->Hp->(Hp->Prop)->Prop:=λo i v H Q=>∃p xs k j,o=.ref p/\i=.int k/\H p=some (.lst xs)/\ixN xs.length k=some j/\Q (upd H p<|.lst<|xs.set j v)
def ao9:ayi X awv:=by
 intro aC s σ H o i v ov iv u Q I ro ri rv h;obtain⟨p,xs,k,j,rfl,rfl,hp,hj,q⟩:=h;cases ro;obtain⟨t,rfl⟩:=ri;obtain⟨its,n,r,ho,hz⟩:=I.lst hp;obtain⟨h1,h2,h3,h4⟩:=akm hj;have hl:=r.length;have hn:=zI;have I':Inv X aC σ (upd H p<|.lst<|xs.set j v) {s with heap:=s.heap.update p<|jd (·.setIfInBounds j u)}:=
  I.lstUpd hp ho (aih its n j u) (r.set rv j) (by rw[List.length_set];exact hz) s.toks
 by_cases h0:0<=k
 .have hk:k.toNat=j:=by
   rw[vM h0 h4]at h1;exact ca h1
  exact PySem.W.ki_setAt ho h0 (by lia) (by rw[bf,<-hl];exact h4)<|by rw[hk];exact⟨_,I',q⟩
 .have hk:(k+(its.toArray.size:Int)).toNat=j:=by
   rw[sU (by lia) h3]at h1;rw[bf,<-hl];exact ca h1
  exact PySem.W.ki_setBack ho (by lia) (by rw[bf,<-hl];exact h3) (by lia)<|by rw[hk];exact⟨_,I',q⟩
theorem aef(lo hi:Option Int)(n:Nat):(dS lo hi none n).1=((HT.sIx n 0 lo:Nat):Int)/\(dS lo hi none n).2.1=((HT.sIx n n hi:Nat):Int)/\(dS lo hi none n).2.2=1:=by
 refine⟨?_,?_,rfl⟩
 .cases lo with
  | none=>simp[dS,HT.sIx]
  | some i=>
   simp only[dS,HT.sIx,Option.getD_none,show(1:Int)>0 by decide,if_true];by_cases h:i<0
   .simp only[h,if_true]<;>lia
   .simp only[h,if_false]<;>lia
 .cases hi with
  | none=>simp[dS,HT.sIx]
  | some i=>
   simp only[dS,HT.sIx,Option.getD_none,show(1:Int)>0 by decide,if_true];by_cases h:i<0
   .simp only[h,if_true]<;>lia
   .simp only[h,if_false]<;>lia
def acl(its:U aA)(lo hi:Option Int):slicePick its.toArray lo hi none=((its.drop<|HT.sIx its.length 0 lo).take (HT.sIx its.length its.length hi-HT.sIx its.length 0 lo)).toArray:=by obtain⟨h1,h2,h3⟩:=aef lo hi its.toArray.size;unfold slicePick;rw[h1,h2,h3];simp only[sliceRange_one,pick_run,bf]<;>rfl
def ayc(K:av):V->Option Int->Option Int->Hp->VK->Prop:=λx lo hi H Q=>∃a xs,x=.ref a/\SqL K H a xs/\∀p,H p=none->Q (.ref p) (upd H p<|.lst<|nB xs lo hi)
def Dc:SlR X (ayc X.K):=by intro aC s σ H x v vl vu lo hi sl Q I rx hs pl pu h;obtain⟨a,xs,rfl,hx,q⟩:=h;cases rx;obtain⟨its,r,ht,hz⟩:=I.list hx;have aX:=r.length;refine⟨"list",_,slot_list_getitem.lookup,ht.isList.typeIs,?_⟩;refine wpAny_getItem_list_slice ht.isList hs pl pu .none (by simp) ?_ (by rw[bf]<;>lia);rw[acl,<-aX];refine⟨.ref s.heap.objs.size,_,I.laid (t':=s.toks) (o:=.lst<|nB xs lo hi) (λb ob q=>ah _ q) (aq _) ?_,rfl,q _<|I.hok.fresh<|aq _⟩;exact⟨fg (afh xs lo hi) hz,_,0,(r.drop<|HT.sIx xs.length 0 lo).take (HT.sIx xs.length xs.length hi-HT.sIx xs.length 0 lo),a6 _ rfl⟩
def m7:qv X (.builtin "len") (λxs H Q=>∃p ys,xs=[.ref p]/\(SqL X.K H p ys\/SqT X.K H p ys)/\Q (.int ys.length) H):=by
 intro aC s σ H xs us Q I r h;obtain⟨p,ys,rfl,hq,q⟩:=h;obtain⟨u,rfl,rx⟩:=qw r;cases rx;have hn:=zI;rcases hq with hq|hq
 .obtain⟨its,r',pl,hz⟩:=I.list hq;have aX:=r'.length;exact Calls.call_len_list pl.isList (by simp only[bf]<;>lia) ⟨.int ys.length,H,I.tok _,⟨s.toks+1,by rw[bf,aX]⟩,q⟩
 .obtain⟨its,r',pl,hz⟩:=I.tuple hq;have aX:=r'.length;exact len_tuple pl (by simp only[bf]<;>lia) ⟨.int ys.length,H,I.tok _,⟨s.toks+1,by rw[bf,aX]⟩,q⟩
def nq:qv X (.builtin "len") (λxs H Q=>∃z,xs=[.str z]/\z.length<=aF/\Q (.int z.length) H):=by intro aC s σ H xs us Q I r h;obtain⟨z,rfl,hz,q⟩:=h;obtain⟨u,rfl,t,rfl⟩:=qw r;have hn:=zI;exact len_str (by lia) ⟨.int z.length,H,I.tok _,⟨_,rfl⟩,q⟩
def aez:qv X (.type "list") (λxs H Q=>∃p ys,xs=[.ref p]/\(SqL X.K H p ys\/SqT X.K H p ys)/\∀l,H l=none->Q (.ref l) (upd H l<|.lst ys)):=by
 intro aC s σ H xs us Q I r h;obtain⟨p,ys,rfl,hq,q⟩:=h;obtain⟨u,rfl,rx⟩:=qw r;cases rx;have fin:∀(its:U aA),Vals ys its->ys.length<=aF->∀(h':Heap)(c':Nat),(∀b o',s.heap.get? b=some o'->h'.get? b=some o')->
   h'.get? s.heap.objs.size=some {cls:=.type "list",dict:=none,data:=.seq its.toArray c',slots:=#[]}->EP X aC σ Q (.ref s.heap.objs.size) {s with heap:=h'}:=λits r' hz h' c' kp e=>
  ⟨.ref s.heap.objs.size,_,I.laid (t':=s.toks) kp (aq _) (show ObjOk X.prog X.w _ h' _ (.lst ys)from ⟨hz,its,c',r',e⟩),rfl,q _<|I.hok.fresh<|aq _⟩
 rcases hq with hq|hq
 .obtain⟨its,r',pl,hz⟩:=I.list hq;have aX:=r'.length;obtain⟨o,ho,hc,n,hd⟩:=pl.isList;exact call_list_seq p (.inl rfl) ho hc hd (λh' c' kp e=>fin its r' hz h' c' kp e)<|by simp only[bf]<;>lia
 .obtain⟨its,r',pl,hz⟩:=I.tuple hq;have aX:=r'.length;obtain⟨o,ho,hc,n,hd⟩:=pl;exact call_list_seq p (.inr rfl) ho hc hd (λh' c' kp e=>fin its r' hz h' c' kp e)<|by simp only[bf]<;>lia
def oa:qv X (.type "tuple") (λxs H Q=>∃p ys,xs=[.ref p]/\((SqL X.K H p ys/\∀l,H l=none->Q (.ref l) (upd H l<|.tup ys))\/(SqT X.K H p ys/\Q (.ref p) H))):=by
 intro aC s σ H xs us Q I r h;obtain⟨p,ys,rfl,h⟩:=h;obtain⟨u,rfl,rx⟩:=qw r;cases rx;rcases h with ⟨hq,q⟩|⟨hq,q⟩
 .obtain⟨its,r',pl,hz⟩:=I.list hq;have aX:=r'.length;refine call_tuple_list pl.isList (λh' kp=>?_) (by simp only[bf]<;>lia);have I1:Inv X aC σ H {s with heap:=h'}:=I.kept (t':=s.toks) kp;have I2:Inv X aC σ (upd H h'.objs.size<|.tup ys) {s with heap:=h'.push {cls:=.type "tuple",data:=.seq its.toArray}}:=
   I1.laid (t':=s.toks) (λb o e=>ah _ e) (aq _) (show ObjOk X.prog X.w _ _ _ (.tup ys)from ⟨hz,its,r',IsTup.new _ _⟩)
  exact⟨.ref h'.objs.size,_,I2,rfl,q _<|I1.hok.fresh<|aq _⟩
 .obtain⟨its,r',pl,hz⟩:=I.tuple hq;exact call_tuple_same pl ⟨.ref p,H,I,rfl,q⟩
def tyV(K:av)(T:String)(x:V)(H:Hp):Prop:=match x with
 | .str _=>T="str"
 | .int _=>T="int"
 | .ref p=>(T="list"/\∃xs,SqL K H p xs)\/(T="tuple"/\∃o,K.lookup p=some o/\o.cls=.type "tuple"/\o.dict=none)\/
   (T="dict"/\((∃aR,H p=some (.dK aR))\/∃aR,H p=some (.dT aR)))\/(T="set"/\∃S n,H p=some (.set S n))
 | _=>False
theorem at6{aC:U (aE×Obj)}{σ:St}{H:Hp}{s:aB}{T:String}{x:V}{v:aA}(I:Inv X aC σ H s)(r:RelV x v)(ty:tyV X.K T x H) :
  s.TypeIs v T/\∀a,v=.ref a->∃ob,s.heap.get? a=some ob/\ob.dict=none:=by
 cases x with
 | str z=>
  obtain⟨t,rfl⟩:=r;cases (show T="str" from ty);exact⟨dP s z t,λ_ e=>nomatch e⟩
 | int i=>
  obtain⟨t,rfl⟩:=r;cases (show T="int" from ty);exact⟨typeIs_int s i t,λ_ e=>nomatch e⟩
 | ref p=>
  cases r;rcases ty with ⟨rfl,xs,hq⟩|⟨rfl,o,hk,hc,hd⟩|⟨rfl,hk⟩|⟨rfl,S,n,hk⟩
  .obtain⟨its,_,pl,_⟩:=I.list hq;refine⟨pl.isList.typeIs,λa e=>?_⟩;cases e;obtain⟨o,n,e,c,hd,_⟩:=pl;exact⟨o,e,hd⟩
  .refine⟨⟨o,I.kIn p o hk,hc⟩,λa e=>?_⟩;cases e;exact⟨o,I.kIn _ o hk,hd⟩
  .have z:∃o,s.heap.get? p=some o/\o.ExactDict:=by
    rcases hk with ⟨aR,hk⟩|⟨aR,hk⟩
    .obtain⟨_,_,_,_,o,_,_,e,ex,_⟩:=I.hok p _ hk;exact⟨o,e,ex⟩
    .obtain⟨_,_,_,_,o,_,_,e,ex,_⟩:=I.hok p _ hk;exact⟨o,e,ex⟩
   obtain⟨o,e,ex⟩:=z;refine⟨⟨o,e,ex.1⟩,λa e2=>?_⟩;cases e2;exact⟨o,e,ex.2.1⟩
  .obtain⟨o,_,_,_,e,ex,_⟩:=I.hok p _ hk;refine⟨⟨o,e,ex.1⟩,λa e2=>?_⟩;cases e2;exact⟨o,e,ex.2.1⟩
 | _=>exact False.elim ty
def tBM(K:av)(T:String)(r:V->U V->Hp->VK->Prop)(to:TE)(t:TA):TE:=λσ H Q=>to σ H λx H1=>tyV K T x H1/\t σ H1 λxs H2=>r x xs H2 Q
variable{o e:Expr}{es:U Expr}{to:TE}{t:TA}{name:Str}{iN dZ:eB}{T id:String}{r:V->U V->Hp->VK->Prop}
def rh(pa:PlainAttrs T)(slot:Slot T name id)(FR:typeOf (.builtin id)=aT (.type "method_descriptor"))(hm:MtR X id r)(ho:PE X o to)(ha:PA X (e::es) t)
  (rM:pX o name X.env (cD o X.env)=cD o X.env:=by rfl)
  (yN:((bN dZ<|aQ (e::es) X.env).all (λx=>!x.1)&&(oB dZ<|hV [] X.env).all (λx=>x.1.isSome)
   && decide ((e::es).length+([]:U iO).length+(if ([]:U iO).isEmpty then 0 else 1)<30))=true:=by rfl)
  (eS:(iN.endLine==dZ.line)=true:=by rfl) (hs:aQ (e::es) X.env=(false,cD e X.env)::aQ es X.env:=by rfl) (mQ:(bN dZ<|aQ es X.env).any (·.1)=false:=by rfl) :
  PE X (.Call (.Attribute o name iN) (e::es) [] dZ) (tBM X.K T r to t):=by
 intro aC s σ H Q I h;refine wpAny_Call_method_late rM yN eS rfl<|thn (ho aC s σ H _ I h) λv s1 ⟨x,H1,I1,r1,ty,q1⟩=>?_;obtain⟨h1,h2⟩:=at6 I1 r1 ty;refine⟨T,id,pa,slot,FR,h1,h2,?_⟩;have hA:=ha dZ aC s1 σ H1 _ I1 q1;rw[hs]at hA⊢;refine Calls.callWith_builtin (by show(false||(bN dZ<|aQ es X.env).any (·.1))=false;rw[mQ]<;>rfl)<|Calls.evalArgs_plain ?_;exact thn hA λus s2 ⟨vs,H2,I2,r2,q2⟩=>hm aC s2 σ H2 x vs v us Q I2 r1 r2 q2
end
def MtM(X:Cx)(id:String)(r:V->U V->Hp->VK->Prop):Prop:=
 ∀(aC:U (aE×Obj)) (s:aB) (σ:St) (H:Hp) (x:V) (xs:U V) (v:aA) (us:U aA) (Q:VK),Inv X aC σ H s->RelV x v->Vals xs us->r x xs H Q->
  aG (aH X.prog X.w) X.A (call (.builtin id) (v::us)) (EP X aC σ Q) X.xe s
theorem Vals.one:∀{x:V} {us:U aA},Vals [x] us->∃u,us=[u]/\RelV x u
 | _,_,.cons r .nil=>⟨_,rfl,r⟩
section
variable{X:Cx}{aC:U (aE×Obj)}{σ:St}{H:Hp}{s:aB}{l b:aE}{xs ys zs:U V}
def Inv.lset{its its':U aA}{n:Nat}{f:Array aA->Array aA}{t':Nat}(I:Inv X aC σ H s)(hH:H l=some (.lst xs))
  (e:s.heap.get? l=some {cls:=.type "list",data:=.seq its.toArray n}) (hf:f its.toArray=its'.toArray) (hv:Vals ys its') (hz:ys.length<=aF) :
  Inv X aC σ (upd H l<|.lst ys) {s with heap:=s.heap.update l<|jd f,toks:=t'}:=by
 have q:=PySem.IsL.update e f;rw[hf]at q;refine I.write (x:=l) (e:=l) (by rw[hH];exact trivial) (.inl rfl) (λb' u hb hu=>(br s.heap (jd f)<|Ne.symm hb).trans hu) ⟨_,q⟩ ?_;exact⟨hz,its',_,hv,q⟩
def Inv.lnew{its:U aA}{t':Nat}(I:Inv X aC σ H s)(hv:Vals ys its)(hz:ys.length<=aF) :
  Inv X aC σ (upd H s.heap.objs.size<|.lst ys) {s with heap:=s.heap.push {cls:=.type "list",data:=.seq its.toArray},toks:=t'}:=
 I.laid (λ_ _ q=>ah _ q) (aq _) ⟨hz,its,0,hv,a6 _ rfl⟩
theorem Inv.fresh(I:Inv X aC σ H s):H s.heap.objs.size=none:=I.hok.fresh<|aq _
def Inv.lstM(I:Inv X aC σ H s)(hH:H l=some (.lst xs)):xs.length<=aF/\∃(its:U aA)(n:Nat),Vals xs its/\xs.length=its.length/\s.heap.get? l=some {cls:=.type "list",data:=.seq its.toArray n}:=by obtain⟨z,its,n,r,e⟩:=I.hok l _ hH;exact⟨z,its,n,r,r.length,e⟩
end
section
variable{X:Cx}
def art:V->U V->Hp->VK->Prop:=λx vs H Q=>∃l xs y,x=.ref l/\vs=[y]/\H l=some (.lst xs)/\xs.length<aF/\Q .non (upd H l<|.lst<|xs++[y])
def qk:MtM X "list.append" art:=by intro aC s σ H x vs v us Q I rx rv h;obtain⟨l,xs,y,rfl,rfl,hH,hz,q⟩:=h;cases rx;obtain⟨u,rfl,ru⟩:=rv.one;obtain⟨z,its,n,r,hl,e⟩:=I.lstM hH;refine nZ F.slot_list_append ⟨_,e,rfl⟩ F.entry_list_append (F.args_list_append_2 _ _) (PySem.list_append l its.toArray n u<|by rw[bf];lia) ⟨e,?_⟩;refine⟨.non,_,I.lset (its':=its++[u]) hH e (by simp) (r.append<|.cons ru .nil) ?_,rfl,q⟩;rw[bn,et];lia
def azc:R2:=λx y H Q=>∃l b xs zs,x=.ref l/\y=.ref b/\H l=some (.lst xs)/\H b=some (.lst zs)/\xs.length+zs.length<=aF/\∀p,H p=none->Q (.ref p) (upd H p<|.lst<|xs++zs)
def zH:OpR X (dX .Add) azc:=by
 intro aC s σ H x y v u Q I rx ry h;obtain⟨l,b,xs,zs,rfl,rfl,hH,hB,hz,q⟩:=h;cases rx;cases ry;obtain⟨z,its,n,r,hl,e⟩:=I.lstM hH;obtain⟨z2,uG,n2,r2,jE,e2⟩:=I.lstM hB;refine PySem.P.add_list e e2 ?_ (by rw[bf,bf];lia);have ea:its.toArray++uG.toArray=(its++uG).toArray:=by simp
 rw[ea];exact⟨.ref _,_,I.lnew (t':=s.toks) (r.append r2)<|by rw[bn];lia,rfl,q _ I.fresh⟩
end
end L2
namespace Att
open PySem PySem.W PySem.Calls PyProof.Rows
theorem aa5{P:Params}{h:Heap}:∀(ns:U Int)(vs:U aA),WellAll P h vs (ns.map WData.int)->fG vs ns:=by
 intro ns;induction ns with
 | nil=>
  intro vs w;rw[List.map_nil]at w;cases w;exact .nil
 | cons n ns ih=>
  intro vs w;rw[dg]at w;cases w with
  | cons a b=>
   cases a;exact .cons _ _<|ih _ b
theorem am2{l:OpenLaw}{n:Nat}(hn:l.most=some n){P:Params}{h:Heap}{args:U WData}{xE:U aA}
  (uL:l.row.toRowW.claim.pre args=true) (vY:WellAll P h xE args) :
  ∃a vs ns,xE=[aA.ref a]/\args=[WData.list (ns.map WData.int)]/\h.get? a=some {cls:=.type "list",data:=.seq vs.toArray}/\fG vs ns/\ns.length<=n:=by
 have hsh:WShape.hasAll [] args [.list .int]=true:=(pre_splitW uL).1;have hc:l.pre.holds [] {args:=args}=true:=(pre_splitW uL).2;obtain⟨d,r,rfl,h1,h2⟩:=hasAllW_cons hsh;obtain rfl:=hasAllW_nil h2;obtain⟨xs,rfl,h3⟩:=hasW_list h1;obtain⟨ns,rfl⟩:=items_int h3;have aX:ns.length<=n:=by
  unfold OpenLaw.pre at hc;have h4:(WTm.not<|.lt (.lit<|.int (n:Int))<|.len<|.arg 0).holds [] {args:=[.list (ns.map .int)]}=true:=by have h4:=(holds_andW hc).1;rw[hn]at h4;exact h4
  have h5:=condW_of h4<|w_not<|w_lt w_lit<|w_len_list<|w_arg rfl;rw[ae]at h5;refine Nat.le_of_not_lt λq=>?_;have q':(n:Int)<((ns.length:Nat):Int):=by lia
  first
   | (rw[decide_eq_true q']at h5;exact absurd h5<|by decide)
   | (simp at h5;lia)
 cases vY with
 | cons w1 w2=>
  cases w2;cases w1 with
  | list ho bI=>exact⟨_,_,ns,rfl,rfl,ho,aa5 ns _ bI,aX⟩
def alp(l:OpenLaw)(args:U WData):l.row.toRowW.claim.post args (.bool true) args=true:=
 postW_of (r:=l.row.toRowW) (X:=(true==true))
  (show WShape.has [] (.bool true) .bool=true by first|rfl|decide|simp[WShape.has,WShape.arms,WShape.armsAll])
  (show(WTm.eq .res<|.lit<|.bool true).value [] {args:=args,res:=some<|.bool true,after:=args}=some (.bool<|true==true)from w_eq_bool (w_res rfl) w_lit) rfl
def attach_call{l:OpenLaw}{n:Nat}{q:aK}{loose:U Str}{XP:(Str->Option aA)->Heap->Prop}{YP:aN->Heap->Prop}{d:DefRec}
  (hn:l.most=some n) (BZ:d.params.defaults=[])
  (call:∀(w:aN)(s₀ s₁:aB)(mg mb:Str->Option aA)(fa:aE)(o:Obj)(pm cd jJ:aA)(a:aE)(vs:U aA)(ns:U Int),
   Ground q loose [] XP w s₀ mg mb s₁.heap->YP w s₁.heap->
   s₁.heap.get? fa=some o->o.data=.func (docDef d.name d.params d.body d.scope pm cd jJ)->s₁.heap.CodeRec cd d.name->mg d.name=some (.ref fa)->
   s₁.heap.get? a=some {cls:=.type "list",data:=.seq vs.toArray}->fG vs ns->ns.length<=n->s₁.gens=#[]->
   bY (aH l.prog w) kB (.call (.ref fa) ⟨[.ref a],[]⟩) (λr s'=>r=.ok (.ret<|.bool true)/\OldK s₁.heap s'.heap/\s'.os=s₁.os/\gB s'.gens) s₁) :
  WalkO q loose XP YP l.row.toRowW d [] (λf vs=>PySem.call f vs):=by
 intro w s₀ s₁ mg mb G Y fa o pm cd jJ dV kV ho hd pR hD uP hg args xE as uL qZ F6 vY wE;obtain rfl:dV=.none:=Dflts.none hD BZ;obtain rfl:kV=.none:=Dflts.noKw hD;obtain⟨a,vs,ns,rfl,rfl,oM,q0,aX⟩:=am2 hn uL vY;refine enter_call<|j8 (call w s₀ s₁ mg mb fa o pm cd jJ a vs ns G Y ho (fd_plain hd) pR uP oM q0 aX hg) λr s' hq=>?_;obtain⟨rfl,h2,h3,h4⟩:=hq;exact⟨.inl ⟨.bool true,.bool true,[],rfl,λ_=>rfl,.bool true,alp l _,λ_=>⟨List.Pairwise.nil,λ_ hm=>(nomatch hm)⟩⟩,h2,h3,h4⟩
end Att
namespace L2
open PySem PySem.Spec PyProof.Rows
theorem adi:∀{vs:U aA} {ns:U Int},fG vs ns->Vals (ns.map V.int) vs
 | _,_,.nil=>.nil
 | _,_,.cons n t h=>.cons ⟨t,rfl⟩<|adi h
def Ht(H:Hp):Prop:=∀b,H b=none\/∃o xs,H b=some (.frz o<|.lst xs)
theorem aor{P:aK}{w:aN}{K:av}{mg mb:Str->Option aA}{CX:CXT}{k:Nat}{fa a:aE}{fd:cM}{x:Str}{sp:Sp}{s₁:aB}{vs:U aA}{ns:U Int}
  (KX:K.In s₁.heap) (iL:s₁.heap.Ns aM mg) (hb:s₁.heap.Ns Au mb) (hbb:∀x:Str,x≠"__name__"->mb x=cQ x) (Gy:s₁.heap.NoLimit) (hg:s₁.gens=#[])
  (ha:s₁.heap.get? a=some {cls:=.type "list",data:=.seq vs.toArray}) (hi:fG vs ns) (hl:ns.length<=aF) (hr:Room k kB)
  (F:∀base:Heap,K.In base->base.Ns aM mg->qp P w K mg base CX k fa fd [x] sp) (B6:∀(s:aB)(u:aA),nF s fd ⟨[u],[]⟩ [(x,u)])
  (gQ:∀H:Hp,Ht H->SqL K H a (ns.map V.int)->sp [.ref a] H (λv _=>v=.bl true) λ_ _ _=>False)
  (G7:∀H e s',CX [] H s₁ (λ_ _ _=>False) e s'->False) :
  bY (aH P w) kB (.call (.ref fa) ⟨[.ref a],[]⟩) (λr s'=>r=.ok (.ret<|.bool true)/\OldK s₁.heap s'.heap/\s'.os=s₁.os/\gB s'.gens) s₁:=by
 have rv:=adi hi;have FI:=hi.length;have Ct:∀H:Hp,Ht H->SqL K H a (ns.map V.int)->HOk P w H s₁.heap->(∀b,H b≠none->b=a)->(H a≠none->K.lookup a=none)->
   bY (aH P w) kB (.call (.ref fa) ⟨[.ref a],[]⟩) (λr s'=>r=.ok (.ret<|.bool true)/\OldK s₁.heap s'.heap/\s'.os=s₁.os/\gB s'.gens) s₁:=by
  intro H hO hS hok hA hK;have oA:∀{b:aE} {o:Obj},s₁.heap.get? b=some o->H b=none->(vC s₁.heap H).get? b=some o:=λe n=>aof e n;have A4:∀{b:aE} {o:Obj} {es:Array DictEntry} {ep:Nat},s₁.heap.get? b=some o->o.data=.dict es ep->H b=none:=λ{b o es ep} e d=>by
   cases q:H b with
   | none=>rfl
   | some u=>
    have e':b=a:=hA b (by rw[q];simp);subst e';rw[ha]at e;cases e;have d':Data.seq vs.toArray _=Data.dict es ep:=d;cases d'
  have DL:∀{b:aE} {m:Str->Option aA},s₁.heap.Ns b m->(vC s₁.heap H).Ns b m:=λ{b m} ⟨o,es,ep,e,d,r⟩=>⟨o,es,ep,oA e<|A4 e d,d,r⟩;have hKb:K.In (vC s₁.heap H):=λb o e=>oA (KX b o e) (by
   cases q:H b with
   | none=>rfl
   | some u=>
    have e':b=a:=hA b (by rw[q];simp);subst e';rw[hK (by rw[q];simp)]at e;cases e)
  have hM:Mod K mg (vC s₁.heap H):=⟨hKb,DL iL,⟨mb,DL hb,hbb⟩,let ⟨mc,h1,h2⟩:=Gy;⟨mc,DL h1,h2⟩⟩;have e0:Ev P w K mg (vC s₁.heap H) kB [] s₁ H:=⟨rfl,hM,λb o e=>as0 e,Nat.le_of_eq<|ajm _ _,trivial,λb hb=>absurd (show b∈([]:U aE)from hb)<|by simp,hok,.of_eq hg⟩;refine j8 ((F _ hKb<|DL iL).run kB [] s₁ H ⟨[.ref a],[]⟩ [.ref a] [.ref a] _ _ hr e0 (B6 s₁<|.ref a) (.cons rfl .nil) (gQ H hO hS)) λr s' h=>?_;cases r with
  | error e=>exact(G7 H e s' h).elim
  | ok fl=>
   cases fl with
   | next=>exact False.elim h
   | brk=>exact False.elim h
   | cont=>exact False.elim h
   | ret u=>
    obtain⟨v,H',os,bare,un,Gc,r',q⟩:=h;have q':v=.bl true:=q;subst q';obtain rfl:u=aA.bool true:=r';refine⟨rfl,OldK.of_keep λb o e=>?_,os,bare⟩;cases q:H b with
    | none=>exact un.keep b o e q (by intro z;exact absurd (show b∈([]:U aE)from z)<|by simp) (by simp)
    | some u=>
     rcases hO b with z|⟨ob,xs,z⟩
     .rw[q]at z;cases z
     .have z2:=un.frzs b ob _ z;obtain⟨e1,_⟩:=hok b _ z;obtain⟨e2,_⟩:=Gc b _ z2;rw[e]at e1;cases e1;exact e2
 cases hk:K.lookup a with
 | some o=>
  have e:=KX a o hk;rw[ha]at e;cases e;refine Ct (λ_=>none) (λ_=>.inl rfl) (.inr ⟨_,vs.toArray,_,hk,rfl,rfl,rfl,by rw[bf,FI];exact hl,by simpa using rv⟩) (λb u z=>by have z':(none:Option HO)=some u:=z;cases z') (λb z=>absurd rfl z) λz=>absurd rfl z
 | none=>
  refine Ct (λb=>if b=a then some (.frz {cls:=.type "list",data:=.seq vs.toArray}<|.lst<|ns.map V.int)else none) (λb=>?_) (.inl<|.inr ⟨{cls:=.type "list",data:=.seq vs.toArray},if_pos rfl⟩) (λb u z=>?_) (λb z=>?_) λ_=>hk
  .by_cases hb:b=a
   .exact .inr ⟨_,_,if_pos hb⟩
   .exact .inl<|if_neg hb
  .by_cases hb:b=a
   .have z':=(if_pos hb).symm.trans z;cases z';subst hb;exact⟨ha,by rw[ae];exact hl,vs,_,rv,ha⟩
   .have z':=(if_neg hb).symm.trans z;cases z'
  .by_cases hb:b=a
   .exact hb
   .exact absurd (if_neg hb) z
def walk_of{l:PySem.W.OpenLaw}{n k:Nat}{q:aK}{loose:U Str}{XP:(Str->Option aA)->Heap->Prop}{YP:aN->Heap->Prop}{d:DefRec}{K:Params->av}{CX:aN->CXT}{sp:aN->Sp}{x:Str}
  (hn:l.most=some n) (lP:n<=aF) (BZ:d.params.defaults=[]) (hr:Room k kB)
  (hY:∀(w:aN)(h:Heap),YP w h->(K w.params).In h)
  (F:∀(w:aN)(mg:Str->Option aA)(fa:aE)(h:Heap),(K w.params).In h->h.Ns aM mg->mg d.name=some (.ref fa)->
   ∃fd:cM,(∀(s:aB)(u:aA),nF s fd ⟨[u],[]⟩ [(x,u)])/\
    ∀base:Heap,(K w.params).In base->base.Ns aM mg->qp l.prog w (K w.params) mg base (CX w) k fa fd [x] (sp w))
  (gQ:∀(w:aN)(H:Hp)(a:aE)(ns:U Int),ns.length<=n->Ht H->SqL (K w.params) H a (ns.map V.int)->sp w [.ref a] H (λv _=>v=.bl true) λ_ _ _=>False)
  (G7:∀(w:aN)(H:Hp)(s:aB)(e:aA)(s':aB),CX w [] H s (λ_ _ _=>False) e s'->False) :
  PySem.W.WalkO q loose XP YP l.row.toRowW d [] (λf vs=>PySem.call f vs):=by
 refine Att.attach_call hn BZ λw s₀ s₁ mg mb fa o pm cd jJ a vs ns G Y ho hd pR uP oM q0 aX hg=>?_;have KX:=hY w _ Y;obtain⟨fd,hb,hF⟩:=F w mg fa _ KX G.T.g uP;exact aor KX G.T.g G.T.b G.T.builtins G.T.nolimit hg oM q0 (fg aX lP) hr hF hb (λH hO hS=>gQ w H a ns aX hO hS) λH e s'=>G7 w H s₁ e s'
noncomputable def wx(s:aW):Arguments:=match s with
 | .FunctionDef _ a _ _ _ _ _ _ _ _=>a
 | _=>{posonlyargs:=[],args:=[],vararg:=none,kwonlyargs:=[],kw_defaults:=[],kwarg:=none,defaults:=[]}
noncomputable def v7(s:aW):U aW:=match s with
 | .FunctionDef _ _ b _ _ _ _ _ _ _=>b
 | _=>[]
noncomputable def k9(s:aW):cX:=match s with
 | .FunctionDef _ _ _ _ _ _ sc _ _ _=>sc
 | _=>{kind:=.function,names:=[],isGenerator:=false,isCoroutine:=false}
noncomputable abbrev CX0:CXT:=λ_ _ _ _ _ _=>False
noncomputable abbrev E0:XK:=λ_ _ _=>False
def axn{X:Cx}:IQ CX0 X E0:=λ_ _ _ _ _ _ _ h=>h.elim
structure Fun(K:av)(x qual:Str)(st:aW)(f:aE)(fd:cM):Prop where
 ex:∃(oc:aA)(od:Option aE)(kV jJ pm:aA)(an:Option aE)(bT ct:aA) (tX:Array (Option aA)),
  fd=j9 x qual (wx st) (v7 st) (k9 st) .none kV jJ pm an bT ct/\K.lookup f=some ⟨oc,od,.func fd,tX⟩/\PySem.W.codeIn K bT qual=true
 kp:PySem.W.keepIn K (.ref f)=true
section
variable{P:aK}{w:aN}{K:av}{mg:Str->Option aA}{base:Heap}
def Fun.ok{x qual:Str}{st:aW}{f:aE}{fd:cM}{N ps:U Str}{k:Nat}{sp:Sp}(F:Fun K x qual st f fd)(S:lq N ps (k9 st))(len:∀vs H Q E,sp vs H Q E->vs.length=ps.length)
  (rL:∀(bT:aA)(A:Around)(outer:U sQ)(s:aB)(H:Hp)(vs:U V)(Q:VK)(E:XK),Room k (A.deeper<|jI qual (k9 st) s.heap.objs.size f bT)->sp vs H Q E->
   ∃t,PSs (Ay CX0 P w K mg base N qual (k9 st) f bT A outer s H E).nox (v7 st) t/\t {nx:=λ_ H'=>Q .non H',rt:=Q} (xC N vs) H):qp P w K mg base CX0 (k+1) f fd ps sp:=by
 obtain⟨oc,od,kV,jJ,pm,an,bT,ct,tX,rfl,lk,pR⟩:=F.ex;refine awk lk pR S len λA outer s H vs Q E hr gQ=>?_;obtain⟨t,h,q⟩:=rL bT A outer s H vs Q E hr gQ;exact⟨t,h.nox,q⟩
def Fun.binds{x qual:Str}{st:aW}{f:aE}{fd:cM}{ps:U Str}(F:Fun K x qual st f fd)
  (h:∀(kV jJ pm:aA)(an:Option aE)(bT ct:aA)(us:U aA),us.length=ps.length->bindArgs (j9 x qual (wx st) (v7 st) (k9 st) .none kV jJ pm an bT ct) ⟨us,[]⟩=aT (ps.zip us)):Binds K fd ps []:=by
 obtain⟨oc,od,kV,jJ,pm,an,bT,ct,tX,rfl,lk,pR⟩:=F.ex;exact .all<|h kV jJ pm an bT ct
def avg{x qual:Str}{st:aW}{f:aE}{oc:aA}{od an:Option aE}{tX:Array (Option aA)}{kV jJ pm bT ct:aA}(l:K.lookup f=some ⟨oc,od,.func<|j9 x qual (wx st) (v7 st) (k9 st) .none kV jJ pm an bT ct,tX⟩)
  (c:PySem.W.codeIn K bT qual=true) (k:PySem.W.keepIn K (.ref f)=true):Fun K x qual st f (j9 x qual (wx st) (v7 st) (k9 st) .none kV jJ pm an bT ct):=⟨⟨oc,od,kV,jJ,pm,an,bT,ct,tX,rfl,l,c⟩,k⟩
end
def lu{n:Nat}(h:n<=1000):n<aF:=Nat.lt_of_le_of_lt h<|by decide
section
variable{X:Cx}
def pv(i:Nat){x:Str}{pos:eB}(hN:X.N[i]?=some x:=by rfl)(hv:Vis X.env.scope x:=by first|exact Or.inl rfl|exact Or.inr (Or.inl rfl)|exact Or.inr<|Or.inr rfl)(hd:(x==("__debug__" : Str))=false:=by decide)
  (pR:(x==("__classdict__" : Str))=false:=by decide):PE X (.Name x pos) (jB i):=aug hN hv hd pR
end
def rg{A B:Prop}(h:B):if false=true then A else B:=by rw[if_neg ak];exact h
def oo{A B:Prop}(h:A):if true=true then A else B:=by rw[if_pos rfl];exact h
def ur{c A B:Prop}[Decidable c](h1:c->A)(h2:¬c->B):if c then A else B:=by
 by_cases h:c
 .rw[if_pos h];exact h1 h
 .rw[if_neg h];exact h2 h
def Same(H H':Hp):Prop:=∀b o,H b=some o->H' b=some o
def Same.refl(H:Hp):Same H H:=λ_ _ h=>h
def Same.trans{H H1 H2:Hp}(a:Same H H1)(b:Same H1 H2):Same H H2:=λc o h=>b c o<|a c o h
theorem Same.free{H H':Hp}(e:Same H H'){l:aE}(h:H' l=Option.none):H l=Option.none:=by
 cases q:H l with
 | none=>rfl
 | some o=>
  rw[e l o q]at h;cases h
end L2
namespace L3
def hid{G:Prop}(h:∀C:Prop,(G->C)->C):G:=h G id
end L3
namespace L3
open PySem PyProof.Rows
noncomputable def Da:Bool->aI->Array aI->Nat->Nat->Nat->StateT aO oE (Option Nat):=sortPriv% PySem.Builtin.gallop
noncomputable def EX(left:Bool)(key:aI)(arr:Array aI)(base i:Nat):StateT aO oE (Option Bool):=do
 let x <-iZ arr (base+i)
 if left then lt' x key else return (<-lt' key x).map (!·)
def mh{M:Dg}{A:Around}{E:aA->aB->Prop}{s:aB}{σ α:Type}{c:Prop}[Decidable c]{t e:StateT σ oE α}{Q:α->σ->Prop}{st:σ}(a:c->iP M A E s t Q st)(b:¬c->iP M A E s e Q st):iP M A E s (if c then t else e) Q st:=by
 by_cases h:c
 .rw[if_pos h];exact a h
 .rw[if_neg h];exact b h
section
variable{prog:aK}{w:aN}{A:Around}{E:aA->aB->Prop}{s:aB}
def lY(prog:aK)(w:aN)(A:Around)(s:aB)(κ:aU)(mem:aI->Prop)(lt:aI->aI->Bool):Prop:=
 ∀x y,mem x->mem y->∀(Q:Bool->aB->Prop),Q (lt x y) s->aG (aH prog w) A (nP κ x.1 y.1) Q (λ_ _=>False) s
variable{κ:aU}{mem:aI->Prop}{lt:aI->aI->Bool}
def CS(C:lY prog w A s κ mem lt){st:aO}(hk:kindOf st=κ){x y:aI}(hx:mem x)(hy:mem y){Q:Option Bool->aO->Prop}(h:Q (some<|lt x y) st):iP (aH prog w) A E s (lt' x y) Q st:=by rw[lt'_eq];refine a9<|dQ ?_;rw[hk];refine a9<|gX<|cV<|jg (C x y hx hy (λb s'=>s'=s/\b=lt x y) ⟨rfl,rfl⟩) (λb s' hb=>⟨hb.1,?_⟩) λ_ _ z=>z.elim;rw[hb.2];exact bi h
theorem aii(C:lY prog w A s κ mem lt){st:aO}(hk:kindOf st=κ){left:Bool}{key:aI}{arr:Array aI}{base i:Nat}{x:aI}(hx:arr[base+i]?=some x)(hm:mem x)(hy:mem key){Q:Option Bool->aO->Prop}(h:Q (some (if left=true then lt x key else !lt key x)) st) :
  iP (aH prog w) A E s (EX left key arr base i) Q st:=by
 unfold EX;rw[elem'_eq,hx];refine a9<|bi ?_;cases left with
 | true=>exact CS C hk hm hy h
 | false=>exact a9<|CS C hk hy hm<|bi h
theorem ab8(C:lY prog w A s κ mem lt){st:aO}(hk:kindOf st=κ){left:Bool}{key:aI}{arr:Array aI}{base n hint:Nat}(eV:mem key)
  (GW:∀i,i<n->∃x,arr[base+i]?=some x/\mem x) (hh:hint<n) (B:Nat->Bool) (hB:∀i x,i<n->arr[base+i]?=some x->B i=(if left=true then lt x key else !lt key x))
  (mono:∀i j,i<=j->j<n->B j=true->B i=true) {Q:Option Nat->aO->Prop} (h:∀k,k<=n->(∀i,i<k->B i=true)->(∀i,k<=i->i<n->B i=false)->Q (some k) st) :
  iP (aH prog w) A E s (Da left key arr base n hint) Q st:=by
 have ask:∀(i:Nat)(Q:Option Bool->aO->Prop),i<n->Q (some<|B i) st->iP (aH prog w) A E s (EX left key arr base i) Q st:=λi Q hi q=>by obtain⟨x,hx,hm⟩:=GW i hi;rw[hB i x hi hx]at q;exact aii C hk hx hm eV q
 have fin:∀(lo hi:Nat) ,lo<=hi->hi<=n->(∀i,i<lo->B i=true)->(∀i,hi<=i->i<n->B i=false)->
   iP (aH prog w) A E s (do
    let mut l:=lo
    let mut r:=hi
    for _ in [0:n] do
     if l>=r then break
     let FF:=l+(r-l)/2
     let some up <-EX left key arr base FF|return none
     if up then l:=FF+1 else r:=FF
    return some r) Q st:=by
  intro lo hi h1 h2 h3 h4;refine a9 (iw (gh (I:=λx c aP=>aP=st/\∃l r,c=(none,l,r)/\l<=r/\r<=n/\r-l<=n-x/\(∀i,i<l->B i=true)/\(∀i,r<=i->i<n->B i=false))
   (Q:=λc aP=>aP=st/\∃l r,c=(none,l,r)/\l=r/\r<=n/\(∀i,i<l->B i=true)/\(∀i,r<=i->i<n->B i=false)) ?step ?fin ?init) ?post)
  case init=>exact⟨rfl,(lc lo hi ⟨rfl,h1,h2,by omega,h3,h4⟩)⟩
  case fin=>
   intro c aP cB;refine hid λCg cC=>?_;obtain⟨rfl,l,r,rfl,a1,a2,a3,a4,a5⟩:=cB;refine cC ?_;exact⟨rfl,(lc l r ⟨rfl,by omega,a2,a4,a5⟩)⟩
  case post=>
   intro c aP cB;refine hid λCg cC=>?_;obtain⟨rfl,l,r,rfl,rfl,a2,a4,a5⟩:=cB;refine cC ?_;exact bi<|h l a2 a4 a5
  case step=>
   intro x c aP _ hx cB;refine hid λCg cC=>?_;obtain⟨rfl,l,r,rfl,a1,a2,a3,a4,a5⟩:=cB;refine cC ?_;dsimp only;by_cases mF:l>=r
   .rw[if_pos mF];exact bi ⟨rfl,(lc l r ⟨rfl,by omega,a2,a4,a5⟩)⟩
   .rw[if_neg mF];refine a9<|ask _ _ (by omega) ?_;cases hb:B (l+(r-l)/2)with
    | true=>exact bi ⟨rfl,(lc (l+(r-l)/2+1) r ⟨rfl,by omega,a2,by omega,λi hi=>mono _ _ (show i<=l+(r-l)/2 by omega) (by omega) hb,a5⟩)⟩
    | false=>
     refine bi ⟨rfl,(lc l (l+(r-l)/2) ⟨rfl,by omega,by omega,by omega,a4,λi hi hn=>?_⟩)⟩;cases wL:B i with
     | false=>rfl
     | true=>rw[mono _ _ hi hn wL]at hb;cases hb
 refine a9<|ask hint _ hh ?_;cases uU:B hint with
 | true=>
  dsimp only;simp only[if_true];refine a9 (iw (gh (I:=λx c aP=>aP=st/\∃lo eD,c=(none,lo,eD)/\x+1<=eD/\lo<eD/\hint+lo<n/\B (hint+lo)=true)
   (Q:=λc aP=>aP=st/\∃lo eD,c=(none,lo,eD)/\lo<eD/\hint+lo<n/\B (hint+lo)=true/\(n-hint<=eD\/(eD<n-hint/\B (hint+eD)=false))) ?step ?fin ?init) ?post)
  case init=>exact⟨rfl,(lc 0 1 ⟨rfl,by omega,by omega,by omega,uU⟩)⟩
  case fin=>
   intro c aP cB;refine hid λCg cC=>?_;obtain⟨rfl,lo,eD,rfl,a1,a2,a3,a4⟩:=cB;refine cC ?_;exact⟨rfl,(lc lo eD ⟨rfl,a2,a3,a4,.inl<|by omega⟩)⟩
  case step=>
   intro x c aP _ hx cB;refine hid λCg cC=>?_;obtain⟨rfl,lo,eD,rfl,a1,a2,a3,a4⟩:=cB;refine cC ?_;dsimp only;by_cases mF:eD>=n-hint
   .rw[if_pos mF];exact bi ⟨rfl,(lc lo eD ⟨rfl,a2,a3,a4,.inl mF⟩)⟩
   .rw[if_neg mF];refine a9<|ask _ _ (by omega) ?_;cases hb:B (hint+eD)with
    | false=>exact bi ⟨rfl,(lc lo eD ⟨rfl,a2,a3,a4,.inr ⟨by omega,hb⟩⟩)⟩
    | true=>exact bi ⟨rfl,(lc eD (2*eD+1) ⟨rfl,by omega,by omega,by omega,hb⟩)⟩
  case post=>
   intro c aP cB;refine hid λCg cC=>?_;obtain⟨rfl,lo,eD,rfl,a2,a3,a4,a5⟩:=cB;refine cC ?_;dsimp only;refine fin _ _ ?_ ?_ (λi hi=>mono _ _ (show i<=hint+lo by omega) a3 a4) λi hi hn=>?_
   .omega
   .omega
   .rcases a5 with h5|⟨h5,h6⟩
    .omega
    .cases wL:B i with
     | false=>rfl
     | true=>rw[mono _ _ (show hint+eD<=i by omega) hn wL]at h6;cases h6
 | false=>
  dsimp only;simp only[a0,if_false];refine a9 (iw (gh (I:=λx c aP=>aP=st/\∃lo eD,c=(none,lo,eD)/\x+1<=eD/\lo<eD/\lo<=hint/\B (hint-lo)=false)
   (Q:=λc aP=>aP=st/\∃lo eD,c=(none,lo,eD)/\lo<eD/\lo<=hint/\B (hint-lo)=false/\(hint+1<=eD\/(eD<hint+1/\B (hint-eD)=true))) ?step ?fin ?init) ?post)
  case init=>exact⟨rfl,(lc 0 1 ⟨rfl,by omega,by omega,by omega,uU⟩)⟩
  case fin=>
   intro c aP cB;refine hid λCg cC=>?_;obtain⟨rfl,lo,eD,rfl,a1,a2,a3,a4⟩:=cB;refine cC ?_;exact⟨rfl,(lc lo eD ⟨rfl,a2,a3,a4,.inl<|by omega⟩)⟩
  case step=>
   intro x c aP _ hx cB;refine hid λCg cC=>?_;obtain⟨rfl,lo,eD,rfl,a1,a2,a3,a4⟩:=cB;refine cC ?_;dsimp only;by_cases mF:eD>=hint+1
   .rw[if_pos mF];exact bi ⟨rfl,(lc lo eD ⟨rfl,a2,a3,a4,.inl mF⟩)⟩
   .rw[if_neg mF];refine a9<|ask _ _ (by omega) ?_;cases hb:B (hint-eD)with
    | true=>exact bi ⟨rfl,(lc lo eD ⟨rfl,a2,a3,a4,.inr ⟨by omega,hb⟩⟩)⟩
    | false=>exact bi ⟨rfl,(lc eD (2*eD+1) ⟨rfl,by omega,by omega,by omega,hb⟩)⟩
  case post=>
   intro c aP cB;refine hid λCg cC=>?_;obtain⟨rfl,lo,eD,rfl,a2,a3,a4,a5⟩:=cB;refine cC ?_;dsimp only;refine fin _ _ ?_ ?_ (λi hi=>?_) λi hi hn=>?_
   .omega
   .omega
   .rcases a5 with h5|⟨h5,h6⟩
    .omega
    .exact mono _ _ (show i<=hint-eD by omega) (by omega) h6
   .cases wL:B i with
    | false=>rfl
    | true=>rw[mono _ _ (show hint-lo<=i by omega) hn wL]at a4;cases a4
end
structure nA(lt:aI->aI->Bool):Prop where
 asy:∀x y,lt x y=true->lt y x=false
 tr:∀x y z,lt y x=false->lt z y=false->lt z x=false
def Srt(lt:aI->aI->Bool)(l:U aI):Prop:=l.Pairwise λx y=>lt y x=false
structure Mid(lt:aI->aI->Bool)(la lb out:U aI)(ia ib:Nat):Prop where
 perm:out.Perm (la.take ia++lb.take ib)
 srt:Srt lt out
 leA:∀x∈out,∀y∈la.drop ia,lt y x=false
 leB:∀x∈out,∀y∈lb.drop ib,lt y x=false
section
variable{lt:aI->aI->Bool}{la lb out:U aI}{ia ib:Nat}
def aet{l:U aI}{i k:Nat}:l.take (i+k)=l.take i++(l.drop i).take k:=by rw[List.take_add]
def Mid.pushA(m:Mid lt la lb out ia ib)(hA:Srt lt la)(k:Nat)(h:∀x∈(la.drop ia).take k,∀y∈lb.drop ib,lt y x=false):Mid lt la lb (out++(la.drop ia).take k) (ia+k) ib:=by
 have hd:Srt lt (la.drop ia):=gi (List.drop_sublist _ _) hA;have hs:(la.drop ia).take k++la.drop (ia+k)=la.drop ia:=by rw[<-List.drop_drop];exact da k _
 have kS:=hd;unfold Srt at kS;rw[<-hs,dh]at kS;refine⟨?_,?_,λx hx y hy=>?_,λx hx y hy=>?_⟩
 .rw[aet];refine((m.perm.append_right _).trans ?_);rw[b9,b9];exact gw _ List.perm_append_comm
 .exact dh.mpr ⟨m.srt,kS.1,λx hx y hy=>m.leA x hx y<|dn hy⟩
 .rcases bm.mp hx with h1|h1
  .exact m.leA x h1 y<|by rw[<-hs];exact b8 _ hy
  .exact kS.2.2 x h1 y hy
 .rcases bm.mp hx with h1|h1
  .exact m.leB x h1 y hy
  .exact h x h1 y hy
def Mid.pushB(m:Mid lt la lb out ia ib)(hB:Srt lt lb)(k:Nat)(h:∀x∈(lb.drop ib).take k,∀y∈la.drop ia,lt y x=false):Mid lt la lb (out++(lb.drop ib).take k) ia (ib+k):=by
 have hd:Srt lt (lb.drop ib):=gi (List.drop_sublist _ _) hB;have hs:(lb.drop ib).take k++lb.drop (ib+k)=lb.drop ib:=by rw[<-List.drop_drop];exact da k _
 have kS:=hd;unfold Srt at kS;rw[<-hs,dh]at kS;refine⟨?_,?_,λx hx y hy=>?_,λx hx y hy=>?_⟩
 .rw[aet,<-b9];exact m.perm.append_right _
 .exact dh.mpr ⟨m.srt,kS.1,λx hx y hy=>m.leB x hx y<|dn hy⟩
 .rcases bm.mp hx with h1|h1
  .exact m.leA x h1 y hy
  .exact h x h1 y hy
 .rcases bm.mp hx with h1|h1
  .exact m.leB x h1 y<|by rw[<-hs];exact b8 _ hy
  .exact kS.2.2 x h1 y hy
def ox(lt:aI->aI->Bool)(la lb out:U aI):Prop:=out.Perm (la++lb)/\Srt lt out
def Mid.endB(m:Mid lt la lb out ia ib)(hA:Srt lt la)(h:lb.length<=ib):ox lt la lb (out++la.drop ia):=by have hd:Srt lt (la.drop ia):=gi (List.drop_sublist _ _) hA;refine⟨?_,dh.mpr ⟨m.srt,hd,m.leA⟩⟩;have e:lb.take ib=lb:=au h;have p:=m.perm.append_right<|la.drop ia;rw[e,b9]at p;refine p.trans<|(gw _ List.perm_append_comm).trans ?_;rw[<-b9,da]
def Mid.endA(m:Mid lt la lb out ia ib)(hB:Srt lt lb)(h:la.length<=ia):ox lt la lb (out++lb.drop ib):=by have hd:Srt lt (lb.drop ib):=gi (List.drop_sublist _ _) hB;refine⟨?_,dh.mpr ⟨m.srt,hd,m.leB⟩⟩;have e:la.take ia=la:=au h;have p:=m.perm.append_right<|lb.drop ib;rw[e,b9,da]at p;exact p
def Mid.lastA(m:Mid lt la lb out ia ib)(o:nA lt)(hA:Srt lt la)(hB:Srt lt lb)(h:ia+1=la.length)(hl:∀y∈lb,∀x∈la.drop ia,lt y x=true):ox lt la lb (out++lb.drop ib++la.drop ia):=by have m2:=m.pushB hB (lb.length-ib) λx hx y hy=>o.asy _ _<|hl x (List.mem_of_mem_drop<|dn hx) y hy;have e:(lb.drop ib).take (lb.length-ib)=lb.drop ib:=au (by rw[ii];exact aq _);rw[e]at m2;exact m2.endB hA<|by lia
end
noncomputable def acw:Nat->StateT aO oE Unit:=sortPriv% PySem.Builtin.setMinGallop
noncomputable abbrev vn(st:aO)(g:Nat):aO:=aO.mk' (kindOf st) (aJ st) (aL st) g<|bP st
noncomputable def aoz:Array aI->Array aI->StateT aO oE (Array aI):=sortPriv% PySem.Builtin.mergeLo
def SameG(st aP:aO):Prop:=kindOf aP=kindOf st/\aJ aP=aJ st/\aL aP=aL st/\bP aP=bP st
def SameG.refl(st:aO):SameG st st:=⟨rfl,rfl,rfl,rfl⟩
def SameG.gal{st aP:aO}(h:SameG st aP)(g:Nat):SameG st (vn aP g):=h
section
variable{prog:aK}{w:aN}{A:Around}{E:aA->aB->Prop}{s:aB}
variable{κ:aU}{mem:aI->Prop}{lt:aI->aI->Bool}
structure Two(mem:aI->Prop)(lt:aI->aI->Bool)(a b:Array aI):Prop where
 mA:∀x∈a.toList,mem x
 mB:∀x∈b.toList,mem x
 sA:Srt lt a.toList
 sB:Srt lt b.toList
 pA:0<a.size
 pB:0<b.size
 first:∀x y,b[0]?=some x->a[0]?=some y->lt x y=true
 last:∀y∈b.toList,∀x,a[a.size-1]?=some x->lt y x=true
def AL{st:aO}{g:Nat}{Q:Unit->aO->Prop}(q:Q () (vn st g)):iP (aH prog w) A E s (acw g) Q st:=
 show iP (aH prog w) A E s (modify λz=>vn z g) Q st from cI q
def oe{arr:Array aI}{i:Nat}{x:aI}(h:arr[i]?=some x){st:aO}{Q:aI->aO->Prop}(q:Q x st):iP (aH prog w) A E s (iZ arr i) Q st:=by rw[elem'_eq,h];exact bi q
def vc{arr:Array aI}{i:Nat}{x:aI}(h:arr[i]?=some x):arr.toList.drop i=x::arr.toList.drop (i+1):=by obtain⟨hi,e⟩:=bg.mp h;have:=List.drop_eq_getElem_cons (l:=arr.toList) (i:=i) (by simpa using hi);rw[this];simp[e]
theorem zp{l:U aI}{x:aI}{r:U aI}(o:nA lt)(hs:Srt lt l)(e:l=x::r):∀z∈l,lt z x=false:=by
 subst e;intro z hz;rcases ar.mp hz with h|h
 .rw[h];cases q:lt x x with
  | false=>rfl
  | true=>have:=o.asy _ _ q;rw[q]at this;cases this
 .exact(gc.mp hs).1 z h
def zw{l:U aI}(hs:Srt lt l)(i:Nat):Srt lt (l.drop i):=gi (List.drop_sublist _ _) hs
def xc{arr:Array aI}(o:nA lt)(hs:Srt lt arr.toList){i j:Nat}{x y:aI}(cA:i<=j)(hx:arr[i]?=some x)(hy:arr[j]?=some y):lt y x=false:=by
 have e:=vc hx;have hm:y∈arr.toList.drop i:=by rw[bq];exact⟨j-i,by rw[ff,show i+(j-i)=j by lia];simpa using hy⟩
 exact zp o (zw hs i) e y hm
def pZ(lt:aI->aI->Bool)(a b out:Array aI)(ia ib:Nat):Prop:=Mid lt a.toList b.toList out.toList ia ib/\ia+1<a.size/\ib<b.size
def Il{a b out:Array aI}{ia ib:Nat}{x:aI}(o:nA lt)(T:Two mem lt a b)(m:Mid lt a.toList b.toList out.toList ia ib)(hx:b[ib]?=some x)(h:∀z∈a.toList.drop ia,lt z x=false) :
  Mid lt a.toList b.toList (out.push x).toList ia (ib+1):=by
 have m2:=m.pushB T.sB 1 λu hu y hy=>by
  rw[vc hx]at hu;have:u=x:=by simpa using hu
  rw[this];exact h y hy
 rw[vc hx]at m2;simpa using m2
def avm{a b out:Array aI}{ia ib:Nat}{y:aI}(o:nA lt)(T:Two mem lt a b)(m:Mid lt a.toList b.toList out.toList ia ib)(hy:a[ia]?=some y)(h:∀z∈b.toList.drop ib,lt z y=false) :
  Mid lt a.toList b.toList (out.push y).toList (ia+1) ib:=by
 have m2:=m.pushA T.sA 1 λu hu z hz=>by
  rw[vc hy]at hu;have:u=y:=by simpa using hu
  rw[this];exact h z hz
 rw[vc hy]at m2;simpa using m2
def EY{arr:Array aI}(o:nA lt)(hs:Srt lt arr.toList){i:Nat}{x y:aI}(hx:arr[i]?=some x)(h:lt x y=false):∀z∈arr.toList.drop i,lt z y=false:=λz hz=>
 o.tr y x z h (zp o (zw hs i) (vc hx) z hz)
def ED{a b out:Array aI}{ia ib:Nat}(T:Two mem lt a b)(m:Mid lt a.toList b.toList out.toList ia ib)(h:ib=b.size):ox lt a.toList b.toList (out++a.extract ia a.size++b.extract ib b.size).toList:=by have:=m.endB T.sA (by simp[h]);have e:List.take (a.size-ia) (a.toList.drop ia)=a.toList.drop ia:=au (by simp);simpa [h,e]using this
def ats{a b out:Array aI}{ia ib:Nat}(T:Two mem lt a b)(m:Mid lt a.toList b.toList out.toList ia ib)(h:ia=a.size):ox lt a.toList b.toList (out++a.extract ia a.size++b.extract ib b.size).toList:=by have:=m.endA T.sB (by simp[h]);have e:List.take (b.size-ib) (b.toList.drop ib)=b.toList.drop ib:=au (by simp);simpa [h,e]using this
def CG{a b out:Array aI}{ia ib:Nat}(o:nA lt)(T:Two mem lt a b)(m:Mid lt a.toList b.toList out.toList ia ib)(h:ia+1=a.size):ox lt a.toList b.toList (out++b.extract ib b.size++a.extract ia a.size).toList:=by
 have:=m.lastA o T.sA T.sB (by simpa using h) λy hy x hx=>by
  have hl:a[ia]?=some (a[ia]'(by lia)):=by simp
  rw[vc hl,List.drop_eq_nil_of_le<|by simp;lia]at hx;have e:x=a[ia]'(by lia):=by simpa using hx
  refine T.last y hy x ?_;rw[e,show a.size-1=ia by lia];exact hl
 have e:List.take (a.size-ia) (a.toList.drop ia)=a.toList.drop ia:=au (by simp);have e2:List.take (b.size-ib) (b.toList.drop ib)=b.toList.drop ib:=au (by simp);simpa [e,e2]using this
def xn{arr:Array aI}{P:aI->Prop}{base k:Nat}(h:∀i z,i<k->arr[base+i]?=some z->P z):∀z∈(arr.toList.drop base).take k,P z:=λz hz=>by
 obtain⟨i,hi⟩:=bq.mp hz;have D9:i<k:=by have:=(ap.mp hi).1;rw[cm]at this;lia
 rw[de D9,ff]at hi;exact h i z D9<|by simpa using hi
def adj{arr:Array aI}{P:aI->Prop}{base k:Nat}(h:∀i z,k<=i->arr[base+i]?=some z->P z):∀z∈arr.toList.drop (base+k),P z:=λz hz=>by obtain⟨i,hi⟩:=bq.mp hz;rw[ff]at hi;exact h (k+i) z (by lia)<|by rw[<-Nat.add_assoc];simpa using hi
def xf(C:lY prog w A s κ mem lt)(o:nA lt){st:aO}(hk:kindOf st=κ){key:aI}{arr:Array aI}{base n hint:Nat}(eV:mem key)(hn:base+n<=arr.size)(hm:∀i z,i<n->arr[base+i]?=some z->mem z)(hh:hint<n)
  (hs:∀i j y z,i<=j->j<n->arr[base+i]?=some y->arr[base+j]?=some z->lt z y=false) {Q:Option Nat->aO->Prop}
  (h:∀k,k<=n->(∀i z,i<k->arr[base+i]?=some z->lt key z=false)->(∀i z,k<=i->i<n->arr[base+i]?=some z->lt key z=true)->Q (some k) st):iP (aH prog w) A E s (Da false key arr base n hint) Q st:=by
 have ex:∀i,i<n->∃z,arr[base+i]?=some z:=λi hi=>⟨arr[base+i]'(by lia),by simp⟩;refine ab8 C hk eV (λi hi=>?_) hh (λi=>match arr[base+i]? with|some z=>!lt key z|none=>false) (λi z hi hz=>by simp[hz]) (λi j cA hj hb=>?_) λk jV h1 h2=>h k jV (λi z hi hz=>?_) λi z hi fQ hz=>?_
 .obtain⟨z,hz⟩:=ex i hi;exact⟨z,hz,hm i z hi hz⟩
 .obtain⟨y,hy⟩:=ex i (by lia);obtain⟨z,hz⟩:=ex j hj;simp only[hz,hy,Bool.not_eq_true']at hb⊢;exact o.tr _ _ _ (hs i j y z cA hj hy hz) hb
 .have:=h1 i hi;simpa [hz]using this
 .have:=h2 i hi fQ;simpa [hz]using this
theorem JI(C:lY prog w A s κ mem lt)(o:nA lt){st:aO}(hk:kindOf st=κ){key:aI}{arr:Array aI}{base n hint:Nat}(eV:mem key)(hn:base+n<=arr.size)(hm:∀i z,i<n->arr[base+i]?=some z->mem z)(hh:hint<n)
  (hs:∀i j y z,i<=j->j<n->arr[base+i]?=some y->arr[base+j]?=some z->lt z y=false) {Q:Option Nat->aO->Prop}
  (h:∀k,k<=n->(∀i z,i<k->arr[base+i]?=some z->lt z key=true)->(∀i z,k<=i->i<n->arr[base+i]?=some z->lt z key=false)->Q (some k) st):iP (aH prog w) A E s (Da true key arr base n hint) Q st:=by
 have ex:∀i,i<n->∃z,arr[base+i]?=some z:=λi hi=>⟨arr[base+i]'(by lia),by simp⟩;refine ab8 C hk eV (λi hi=>?_) hh (λi=>match arr[base+i]? with|some z=>lt z key|none=>false) (λi z hi hz=>by simp[hz]) (λi j cA hj hb=>?_) λk jV h1 h2=>h k jV (λi z hi hz=>?_) λi z hi fQ hz=>?_
 .obtain⟨z,hz⟩:=ex i hi;exact⟨z,hz,hm i z hi hz⟩
 .obtain⟨y,hy⟩:=ex i (by lia);obtain⟨z,hz⟩:=ex j hj;simp only[hz,hy]at hb⊢;cases q:lt y key with
  | true=>rfl
  | false=>rw[o.tr _ _ _ q (hs i j y z cA hj hy hz)]at hb;cases hb
 .have:=h1 i hi;simpa [hz]using this
 .have:=h2 i hi fQ;simpa [hz]using this
theorem af6(C:lY prog w A s κ mem lt)(o:nA lt){st:aO}(hk:kindOf st=κ){a b:Array aI}(T:Two mem lt a b){Q:Array aI->aO->Prop}
  (h:∀out aP,SameG st aP->ox lt a.toList b.toList out.toList->Q out aP):iP (aH prog w) A E s (aoz a b) Q st:=by
 refine a9<|gX<|cJ ⟨rfl,?_⟩;have uU:b[0]?=some (b[0]'T.pB):=by simp[T.pB]
 have nV:a[0]?=some (a[0]'T.pA):=by simp[T.pA]
 refine a9<|oe uU ?_;have m0:Mid lt a.toList b.toList (#[]:Array aI).toList 0 0:=⟨by simp,List.Pairwise.nil,by simp,by simp⟩;have m1:=Il o T m0 uU λz hz=>o.tr _ _ _ (o.asy _ _<|T.first _ _ uU nV)<|zp o (zw T.sA 0) (vc nV) z hz;dsimp only;refine mh (λ(yR:(1==b.size)=true)=>?_) λ(yR:¬(1==b.size)=true)=>?_
 .exact bi<|h _ _ (SameG.refl _)<|ED T m1<|by simpa using yR
 refine mh (λ(lU:(0+1==a.size)=true)=>?_) λ(lU:¬(0+1==a.size)=true)=>?_
 .exact bi<|h _ _ (SameG.refl _)<|CG o T m1<|by simpa using lU
 have hb2:1<b.size:=by have:¬1=b.size:=by simpa using yR
                       have:=T.pB;lia
 have ha2:0+1<a.size:=by have:¬0+1=a.size:=by simpa using lU
                         have:=T.pA;lia
 refine a9<|dQ ?_;refine a9 (iw (gh (I:=λx c aP=>SameG st aP/\∃out ia ib mg,c=(none,out,ia,ib,mg)/\pZ lt a b out ia ib/\x+1<=ia+ib)
  (Q:=λc aP=>SameG st aP/\∃res r,c=(some res,r)/\ox lt a.toList b.toList res.toList) ?step ?fin ?init) ?post)
 case init=>exact⟨SameG.refl _,(my _ _ _ _ ⟨rfl,⟨m1,ha2,hb2⟩,aq _⟩)⟩
 case fin=>
  intro c aP cB;refine hid λCg cC=>?_;obtain⟨_,out,ia,ib,mg,rfl,⟨_,h1,h2⟩,h3⟩:=cB;refine cC ?_;lia
 case post=>
  intro c aP cB;refine hid λCg cC=>?_;obtain⟨sg,res,r,rfl,hm⟩:=cB;refine cC ?_;exact bi<|h _ _ sg hm
 case step=>
  intro x c aP _ hx cB;refine hid λCg cC=>?_;obtain⟨sg,out,ia,ib,mg,rfl,L,hp⟩:=cB;refine cC ?_;dsimp only;refine a9 (iw (gh (I:=λy c aP=>SameG st aP/\∃cZ hZ hX ac bc,c=(none,cZ,hZ,hX,ac,bc)/\pZ lt a b cZ hZ hX/\ia+ib<=hZ+hX)
   (Q:=λc aP=>SameG st aP/\((∃res r,c=(some res,r)/\ox lt a.toList b.toList res.toList)\/∃cZ hZ hX ac bc,c=(none,cZ,hZ,hX,ac,bc)/\pZ lt a b cZ hZ hX/\ia+ib<=hZ+hX)) ?istep ?ifin ?iinit) ?ipost)
  case iinit=>exact⟨sg,(lr _ _ _ _ _ ⟨rfl,L,aq _⟩)⟩
  case ifin=>
   rintro c eY ⟨iH,bA⟩;exact⟨iH,.inr bA⟩
  case istep=>
   intro y c eY _ hy cB;refine hid λCg cC=>?_;obtain⟨iH,cZ,hZ,hX,ac,bc,rfl,⟨m,l1,l2⟩,DX⟩:=cB;refine cC ?_;dsimp only;have gT:b[hX]?=some (b[hX]'l2):=by simp[l2]
   have gO:a[hZ]?=some (a[hZ]'(by lia)):=by simp
   refine a9<|oe gT<|a9<|oe gO<|a9<|CS C (iH.1.trans hk) (T.mB _<|by simp) (T.mA _<|by simp) ?_;cases hl:lt b[hX] a[hZ]with
   | true=>
    dsimp only;simp only[if_true];refine a9<|oe gT ?_;have m2:=Il o T m gT<|EY o T.sA gO<|o.asy _ _ hl;try dsimp only
    refine mh (λ(he:(hX+1==b.size)=true)=>?_) λ(he:¬(hX+1==b.size)=true)=>?_
    .exact bi ⟨iH,.inl<|lc _ _ ⟨rfl,ED T m2<|by simpa using he⟩⟩
    .have jF:¬hX+1=b.size:=by simpa using he
     have L2:pZ lt a b (cZ.push b[hX]) hZ (hX+1):=⟨m2,l1,by lia⟩;split
     .exact bi ⟨iH,.inr<|lr _ _ _ _ _ ⟨rfl,L2,by lia⟩⟩
     .exact bi ⟨iH,(lr _ _ _ _ _ ⟨rfl,L2,by lia⟩)⟩
   | false=>
    dsimp only;simp only[a0,if_false];refine a9<|oe gO ?_;have m2:=avm o T m gO<|EY o T.sB gT hl;try dsimp only
    refine mh (λ(he:(hZ+1+1==a.size)=true)=>?_) λ(he:¬(hZ+1+1==a.size)=true)=>?_
    .exact bi ⟨iH,.inl<|lc _ _ ⟨rfl,CG o T m2<|by simpa using he⟩⟩
    .have jF:¬hZ+1+1=a.size:=by simpa using he
     have L2:pZ lt a b (cZ.push a[hZ]) (hZ+1) hX:=⟨m2,by lia,l2⟩;split
     .exact bi ⟨iH,.inr<|lr _ _ _ _ _ ⟨rfl,L2,by lia⟩⟩
     .exact bi ⟨iH,(lr _ _ _ _ _ ⟨rfl,L2,by lia⟩)⟩
  case ipost=>
   intro c eY cB;refine hid λCg cC=>?_
   (rcases cB with ⟨iH,(⟨res,r,rfl,hm⟩|⟨cZ,hZ,hX,ac,bc,rfl,L2,oK⟩)⟩)<;>refine cC ?_
   .dsimp only;exact bi ⟨iH,(lc _ _ ⟨rfl,hm⟩)⟩
   .dsimp only;refine a9<|gX<|cJ ⟨rfl,?_⟩;refine a9 (iw (gh (I:=λy c aP=>SameG st aP/\∃aZ cN bM dM ac bc,c=(none,aZ,cN,bM,dM,ac,bc)/\pZ lt a b aZ cN bM/\hZ+hX+y<=cN+bM)
     (Q:=λc aP=>SameG st aP/\((∃res r,c=(some res,r)/\ox lt a.toList b.toList res.toList)\/∃aZ cN bM dM ac bc,c=(none,aZ,cN,bM,dM,ac,bc)/\pZ lt a b aZ cN bM/\hZ+hX+1<=cN+bM)) ?jstep ?jfin ?jinit) ?jpost)
    case jinit=>exact⟨iH,(lr _ _ _ _ _ ⟨_,rfl,L2,aq _⟩)⟩
    case jfin=>
     intro c eU cB;refine hid λCg cC=>?_;obtain⟨lE,aZ,cN,bM,dM,C5,vB,rfl,L3,lh⟩:=cB;refine cC ?_;exact⟨lE,.inr<|lr _ _ _ _ _ ⟨_,rfl,L3,by have:=T.pA;lia⟩⟩
    case jpost=>
     intro c eU cB;refine hid λCg cC=>?_
     (rcases cB with ⟨lE,(⟨res,r,rfl,hm⟩|⟨aZ,cN,bM,dM,C5,vB,rfl,L3,lh⟩)⟩)<;>refine cC ?_
     .dsimp only;exact bi ⟨lE,(lc _ _ ⟨rfl,hm⟩)⟩
     .dsimp only;refine a9<|AL ?_;exact bi ⟨lE.gal _,(my _ _ _ _ ⟨rfl,L3,by lia⟩)⟩
    case jstep=>
     intro y c eU _ hy cB;refine hid λCg cC=>?_;obtain⟨lE,aZ,cN,bM,dM,C5,vB,rfl,⟨m3,l3,l4⟩,lh⟩:=cB;refine cC ?_;dsimp only;have gT:b[bM]?=some (b[bM]'l4):=by simp[l4]
     have gR:∀i z,a[i]?=some z->mem z:=λi z hz=>T.mA z (by obtain⟨h1,h2⟩:=bg.mp hz;rw[<-h2];simp);have lJ:∀i z,b[i]?=some z->mem z:=λi z hz=>T.mB z (by obtain⟨h1,h2⟩:=bg.mp hz;rw[<-h2];simp);have body:∀(eQ:Nat)(b0:aO),SameG st b0->∀(k:Nat),k<=a.size-cN->(∀i z,i<k->a[cN+i]?=some z->lt b[bM] z=false)->(∀i z,k<=i->i<a.size-cN->a[cN+i]?=some z->lt b[bM] z=true)->
       ∃bH:Array aI,bH=aZ++a.extract cN (cN+k)/\Mid lt a.toList b.toList bH.toList (cN+k) bM/\∀z∈a.toList.drop (cN+k),lt z b[bM]=false:=by
      intro eQ b0 dY k jV h1 h2;refine⟨_,rfl,?_,?_⟩
      .have m4:=m3.pushA T.sA k λz hz y hy=>EY o T.sB gT (xn (P:=λz=>lt b[bM] z=false) h1 z hz) y hy;have e:(aZ++a.extract cN (cN+k)).toList=aZ.toList++(a.toList.drop cN).take k:=by
        simp
       rw[e];exact m4
      .exact adj (P:=λz=>lt z b[bM]=false) λi z hi hz=>o.asy _ _<|h2 i z hi (by have:=(bg.mp hz).1;lia) hz
     have lF:∀(fS:Array aI)(dG sY eQ k k1:Nat)(b0:aO),SameG st b0->Mid lt a.toList b.toList fS.toList dG sY->dG+1<a.size->sY<b.size->(∀z,a[dG]?=some z->∀u∈b.toList.drop sY,lt u z=false)->hZ+hX+y+1<=dG+sY->
       iP (aH prog w) A E s (do
        let z2 <-iZ a dG
        if (dG+1+1==a.size)=true then
         aT (ForInStep.done (some<|fS.push z2++b.extract sY b.size++a.extract (dG+1) a.size,fS.push z2,dG+1,sY,eQ,k,k1))
        else if (decide (k<7)&&decide (k1<7))=true then aT (ForInStep.done (none,fS.push z2,dG+1,sY,eQ,k,k1))
        else aT (ForInStep.yield (none,fS.push z2,dG+1,sY,eQ,k,k1)))
       (λr aP=>match r with
        | .done c'=>SameG st aP/\((∃res r,c'=(some res,r)/\ox lt a.toList b.toList res.toList)\/∃aZ cN bM dM ac bc,c'=(none,aZ,cN,bM,dM,ac,bc)/\pZ lt a b aZ cN bM/\hZ+hX+1<=cN+bM)
        | .yield c'=>SameG st aP/\∃aZ cN bM dM ac bc,c'=(none,aZ,cN,bM,dM,ac,bc)/\pZ lt a b aZ cN bM/\hZ+hX+(y+1)<=cN+bM) b0:=by
      intro fS dG sY eQ k k1 b0 dY m5 l5 l6 hu DW;have gO:a[dG]?=some (a[dG]'(by lia)):=by simp
      refine a9<|oe gO ?_;have m6:=avm o T m5 gO<|hu _ gO;refine mh (λ(he:(dG+1+1==a.size)=true)=>?_) λ(he:¬(dG+1+1==a.size)=true)=>?_
      .exact bi ⟨dY,.inl<|lc _ _ ⟨rfl,CG o T m6<|by simpa using he⟩⟩
      .have jF:¬dG+1+1=a.size:=by simpa using he
       have L6:pZ lt a b (fS.push a[dG]) (dG+1) sY:=⟨m6,by lia,l6⟩;split
       .exact bi ⟨dY,.inr<|lr _ _ _ _ _ ⟨_,rfl,L6,by lia⟩⟩
       .exact bi ⟨dY,(lr _ _ _ _ _ ⟨_,rfl,L6,by lia⟩)⟩
     have bA:∀(bH:Array aI)(dG eQ k:Nat)(b0:aO),SameG st b0->Mid lt a.toList b.toList bH.toList dG bM->dG+1<a.size->(∀z∈a.toList.drop dG,lt z b[bM]=false)->hZ+hX+y<=dG+bM->
       iP (aH prog w) A E s (do
        let z <-iZ b bM
        if (bM+1==b.size)=true then
         aT (ForInStep.done (some<|bH.push z++a.extract dG a.size++b.extract (bM+1) b.size,bH.push z,dG,bM+1,eQ,k,vB))
        else do
         let z1 <-iZ a dG
         let x <-Da true z1 b (bM+1) (b.size-(bM+1)) 0
         match x with
         | some k1=>
          if k1>0 then
           if (bM+1+k1==b.size)=true then
            aT (ForInStep.done (some<|bH.push z++b.extract (bM+1) (bM+1+k1)++a.extract dG a.size++b.extract (bM+1+k1) b.size,bH.push z++b.extract (bM+1) (bM+1+k1),dG,bM+1+k1,eQ,k,k1))
           else do
            let z2 <-iZ a dG
            if (dG+1+1==a.size)=true then
             aT (ForInStep.done (some<|(bH.push z++b.extract (bM+1) (bM+1+k1)).push z2++b.extract (bM+1+k1) b.size++a.extract (dG+1) a.size,(bH.push z++b.extract (bM+1) (bM+1+k1)).push z2,dG+1,bM+1+k1,eQ,k,k1))
            else if (decide (k<7)&&decide (k1<7))=true then aT (ForInStep.done (none,(bH.push z++b.extract (bM+1) (bM+1+k1)).push z2,dG+1,bM+1+k1,eQ,k,k1))
            else aT (ForInStep.yield (none,(bH.push z++b.extract (bM+1) (bM+1+k1)).push z2,dG+1,bM+1+k1,eQ,k,k1))
          else do
           let z2 <-iZ a dG
           if (dG+1+1==a.size)=true then
            aT (ForInStep.done (some<|(bH.push z).push z2++b.extract (bM+1) b.size++a.extract (dG+1) a.size,(bH.push z).push z2,dG+1,bM+1,eQ,k,k1))
           else if (decide (k<7)&&decide (k1<7))=true then aT (ForInStep.done (none,(bH.push z).push z2,dG+1,bM+1,eQ,k,k1))
           else aT (ForInStep.yield (none,(bH.push z).push z2,dG+1,bM+1,eQ,k,k1))
         | _=>aT<|ForInStep.done (some<|bH.push z++a.extract dG a.size++b.extract (bM+1) b.size,bH.push z,dG,bM+1,eQ,k,vB))
       (λr aP=>match r with
        | .done c'=>SameG st aP/\((∃res r,c'=(some res,r)/\ox lt a.toList b.toList res.toList)\/∃aZ cN bM dM ac bc,c'=(none,aZ,cN,bM,dM,ac,bc)/\pZ lt a b aZ cN bM/\hZ+hX+1<=cN+bM)
        | .yield c'=>SameG st aP/\∃aZ cN bM dM ac bc,c'=(none,aZ,cN,bM,dM,ac,bc)/\pZ lt a b aZ cN bM/\hZ+hX+(y+1)<=cN+bM) b0:=by
      intro bH dG eQ k b0 dY m4 l5 jP xZ;refine a9<|oe gT ?_;have m5:=Il o T m4 gT jP;refine mh (λ(he:(bM+1==b.size)=true)=>?_) λ(he:¬(bM+1==b.size)=true)=>?_
      .exact bi ⟨dY,.inl<|lc _ _ ⟨rfl,ED T m5<|by simpa using he⟩⟩
      have jF:¬bM+1=b.size:=by simpa using he
      have gO:a[dG]?=some (a[dG]'(by lia)):=by simp
      refine a9<|oe gO ?_;refine a9<|JI (st:=b0) (base:=bM+1) (n:=b.size-(bM+1)) (hint:=0) C o (dY.1.trans hk) (gR _ _ gO) (by lia) (λi z hi hz=>lJ _ z hz) (by lia) (λi j y z cA hj hy hz=>xc o T.sB (show bM+1+i<=bM+1+j by lia) hy hz) λk1 jV h1 h2=>?_;dsimp only;have m6:=m5.pushB T.sB k1 λz hz u hu=>EY o T.sA gO (o.asy _ _<|xn (P:=λz=>lt z a[dG]=true) h1 z hz) u hu;have e6:(bH.push b[bM]++b.extract (bM+1) (bM+1+k1)).toList=(bH.push b[bM]).toList++(b.toList.drop<|bM+1).take k1:=by simp
      rw[<-e6]at m6;have Ah:∀z,a[dG]?=some z->∀u∈b.toList.drop (bM+1+k1),lt u z=false:=λz hz=>by rw[gO]at hz;cases hz;exact adj (P:=λu=>lt u a[dG]=false) λi z hi hz=>h2 i z hi (by have:=(bg.mp hz).1;lia) hz
      refine mh (λ(iW:k1>0)=>?_) λ(iW:¬(k1>0))=>?_
      .refine mh (λ(mU:(bM+1+k1==b.size)=true)=>?_) λ(mU:¬(bM+1+k1==b.size)=true)=>?_
       .exact bi ⟨dY,.inl<|lc _ _ ⟨rfl,ED T m6<|by simpa using mU⟩⟩
       .have GN:¬bM+1+k1=b.size:=by simpa using mU
        exact lF _ dG (bM+1+k1) eQ k k1 b0 dY m6 l5 (by lia) Ah<|by lia
      .have e0:k1=0:=by lia
       subst e0;exact lF _ dG (bM+1) eQ k 0 b0 dY m5 l5 (by lia) Ah<|by lia
     refine mh (λ(uP:dM>1)=>?_) λ(uP:¬(dM>1))=>?_
     .refine a9<|AL ?_;have dY:SameG st (vn eU<|dM-1):=lE.gal _;refine a9<|oe gT ?_;refine a9<|xf (st:=vn eU<|dM-1) (base:=cN) (n:=a.size-cN) (hint:=0) C o (dY.1.trans hk) (lJ _ _ gT) (by lia) (λi z hi hz=>gR _ z hz) (by lia) (λi j y z cA hj hy hz=>xc o T.sA (show cN+i<=cN+j by lia) hy hz) λk jV h1 h2=>?_;obtain⟨bH,e3,m4,jP⟩:=body 0 eU lE k jV h1 h2;dsimp only;by_cases iW:k>0
      .rw[if_pos iW,<-e3];refine mh (λ(he:(cN+k+1==a.size)=true)=>?_) λ(he:¬(cN+k+1==a.size)=true)=>?_
       .exact bi ⟨dY,.inl<|lc _ _ ⟨rfl,CG o T m4<|by simpa using he⟩⟩
       have jF:¬cN+k+1=a.size:=by simpa using he
       refine mh (λ(mU:(cN+k==a.size)=true)=>?_) λ(mU:¬(cN+k==a.size)=true)=>?_
       .exact bi ⟨dY,.inl<|lc _ _ ⟨rfl,ats T m4<|by simpa using mU⟩⟩
       have GN:¬cN+k=a.size:=by simpa using mU
       refine iw (bA bH (cN+k) (dM-1) k _ dY m4 (by lia) jP<|by lia) λr aP hr=>?_;cases r<;>exact hr
      .rw[if_neg iW];have e0:k=0:=by lia
       subst e0;have e5:bH=aZ:=Array.ext' (by rw[e3];simp);rw[e5]at m4;refine iw (bA aZ cN (dM-1) 0 _ dY m4 l3 jP lh) λr aP hr=>?_;cases r<;>exact hr
     .refine a9<|AL ?_;have dY:SameG st (vn eU<|dM):=lE.gal _;refine a9<|oe gT ?_;refine a9<|xf (st:=vn eU<|dM) (base:=cN) (n:=a.size-cN) (hint:=0) C o (dY.1.trans hk) (lJ _ _ gT) (by lia) (λi z hi hz=>gR _ z hz) (by lia) (λi j y z cA hj hy hz=>xc o T.sA (show cN+i<=cN+j by lia) hy hz) λk jV h1 h2=>?_;obtain⟨bH,e3,m4,jP⟩:=body 0 eU lE k jV h1 h2;dsimp only;by_cases iW:k>0
      .rw[if_pos iW,<-e3];refine mh (λ(he:(cN+k+1==a.size)=true)=>?_) λ(he:¬(cN+k+1==a.size)=true)=>?_
       .exact bi ⟨dY,.inl<|lc _ _ ⟨rfl,CG o T m4<|by simpa using he⟩⟩
       have jF:¬cN+k+1=a.size:=by simpa using he
       refine mh (λ(mU:(cN+k==a.size)=true)=>?_) λ(mU:¬(cN+k==a.size)=true)=>?_
       .exact bi ⟨dY,.inl<|lc _ _ ⟨rfl,ats T m4<|by simpa using mU⟩⟩
       have GN:¬cN+k=a.size:=by simpa using mU
       refine iw (bA bH (cN+k) (dM) k _ dY m4 (by lia) jP<|by lia) λr aP hr=>?_;cases r<;>exact hr
      .rw[if_neg iW];have e0:k=0:=by lia
       subst e0;have e5:bH=aZ:=Array.ext' (by rw[e3];simp);rw[e5]at m4;refine iw (bA aZ cN (dM) 0 _ dY m4 l3 jP lh) λr aP hr=>?_;cases r<;>exact hr
end
structure MidH(lt:aI->aI->Bool)(la lb R:U aI)(na nb:Nat):Prop where
 perm:R.Perm (la.drop na++lb.drop nb)
 srt:Srt lt R
 geA:∀x∈la.take na,∀y∈R,lt y x=false
 geB:∀x∈lb.take nb,∀y∈R,lt y x=false
section
variable{lt:aI->aI->Bool}{la lb R:U aI}{na nb:Nat}
def ah4{l:U aI}{i n:Nat}(h:i<=n):l.take i++(l.take n).drop i=l.take n:=by have:=da i<|l.take n;rw[List.take_take,fb h]at this;exact this
def ahz{l:U aI}{i n:Nat}(h:i<=n):(l.take n).drop i++l.drop n=l.drop i:=by
 have e:=da n l;have:=congrArg (List.drop i) e;rw[List.drop_append]at this;by_cases hl:n<=l.length
 .rw[cm,fb hl,show i-n=0 by lia,ja]at this;exact this
 .rw[List.drop_eq_nil_of_le (show l.length<=n by lia),ie,au<|by lia]
def MidH.pushA(m:MidH lt la lb R na nb)(hA:Srt lt la){i:Nat}(hi:i<=na)(h:∀x∈lb.take nb,∀y∈(la.take na).drop i,lt y x=false):MidH lt la lb ((la.take na).drop i++R) i nb:=by
 have ht:Srt lt (la.take na):=gi (jc _ _) hA;have hs:=ah4 (l:=la) hi;have oI:=ht;unfold Srt at oI;rw[<-hs,dh]at oI;refine⟨?_,?_,λx hx y hy=>?_,λx hx y hy=>?_⟩
 .rw[<-ahz (l:=la) hi,b9];exact gw _ m.perm
 .exact dh.mpr ⟨oI.2.1,m.srt,λx hx y hy=>m.geA x (List.mem_of_mem_drop hx) y hy⟩
 .rcases bm.mp hy with h1|h1
  .exact oI.2.2 x hx y h1
  .exact m.geA x (by rw[<-hs];exact f9 _ hx) y h1
 .rcases bm.mp hy with h1|h1
  .exact h x hx y h1
  .exact m.geB x hx y h1
def MidH.pushB(m:MidH lt la lb R na nb)(hB:Srt lt lb){i:Nat}(hi:i<=nb)(h:∀x∈la.take na,∀y∈(lb.take nb).drop i,lt y x=false):MidH lt la lb ((lb.take nb).drop i++R) na i:=by
 have ht:Srt lt (lb.take nb):=gi (jc _ _) hB;have hs:=ah4 (l:=lb) hi;have oI:=ht;unfold Srt at oI;rw[<-hs,dh]at oI;refine⟨?_,?_,λx hx y hy=>?_,λx hx y hy=>?_⟩
 .rw[<-ahz (l:=lb) hi];refine(gw _ m.perm).trans ?_;rw[<-b9,<-b9];exact List.Perm.append_right _ List.perm_append_comm
 .exact dh.mpr ⟨oI.2.1,m.srt,λx hx y hy=>m.geB x (List.mem_of_mem_drop hx) y hy⟩
 .rcases bm.mp hy with h1|h1
  .exact h x hx y h1
  .exact m.geA x hx y h1
 .rcases bm.mp hy with h1|h1
  .exact oI.2.2 x hx y h1
  .exact m.geB x (by rw[<-hs];exact f9 _ hx) y h1
def MidH.endA(m:MidH lt la lb R 0 nb)(hB:Srt lt lb):ox lt la lb (lb.take nb++R):=by have ht:Srt lt (lb.take nb):=gi (jc _ _) hB;refine⟨?_,dh.mpr ⟨ht,m.srt,m.geB⟩⟩;have p:=gw (lb.take nb) m.perm;rw[ja]at p;refine p.trans ?_;rw[<-b9];refine(List.Perm.append_right _ List.perm_append_comm).trans ?_;rw[b9,da]
def MidH.endB(m:MidH lt la lb R na 0)(hA:Srt lt la):ox lt la lb (la.take na++R):=by have ht:Srt lt (la.take na):=gi (jc _ _) hA;refine⟨?_,dh.mpr ⟨ht,m.srt,m.geA⟩⟩;have p:=gw (la.take na) m.perm;rw[ja,<-b9,da]at p;exact p
def MidH.firstB(m:MidH lt la lb R na 1)(o:nA lt)(hA:Srt lt la)(hB:Srt lt lb)(hl:∀y∈la,∀x∈lb.take 1,lt x y=true):ox lt la lb (lb.take 1++la.take na++R):=by have m2:=m.pushA hA (c8 na) λx hx y hy=>o.asy _ _<|hl y (dn<|List.mem_of_mem_drop hy) x hx;rw[ja]at m2;have:=m2.endA hB;rw[b9];exact this
end
noncomputable def ao0:Array aI->Array aI->StateT aO oE (Array aI):=sortPriv% PySem.Builtin.mergeHi
section
variable{prog:aK}{w:aN}{A:Around}{E:aA->aB->Prop}{s:aB}
variable{κ:aU}{mem:aI->Prop}{lt:aI->aI->Bool}
def zl(lt:aI->aI->Bool)(a b out:Array aI)(na nb:Nat):Prop:=MidH lt a.toList b.toList out.reverse.toList na nb/\0<na/\1<nb/\na<=a.size/\nb<=b.size
def C8{arr:Array aI}{n:Nat}{x:aI}(h:arr[n]?=some x):(arr.toList.take<|n+1).drop n=[x]:=by
 obtain⟨hi,e⟩:=bg.mp h;have hl:n<arr.toList.length:=by simpa using hi
 rw[List.take_succ,List.drop_append,List.drop_eq_nil_of_le<|by rw[cm];lia];have e2:n-iQ n arr.size=0:=by lia
 simp[h,e2]
def CY{arr:Array aI}(o:nA lt)(hs:Srt lt arr.toList){n:Nat}{x y:aI}(hx:arr[n]?=some x)(h:lt y x=false):∀z∈arr.toList.take (n+1),lt y z=false:=λz hz=>by
 obtain⟨i,hi⟩:=bq.mp hz;have cF:i<n+1:=by have:=(ap.mp hi).1;rw[cm]at this;lia
 rw[de cF]at hi;exact o.tr z x y (xc o hs (show i<=n by lia) (by simpa using hi) hx) h
def Jj(out arr:Array aI){i n:Nat}(h:i<=n):(out++(arr.extract i n).reverse).reverse.toList=(arr.toList.take n).drop i++out.reverse.toList:=by simp[List.take_drop,show i+(n-i)=n by lia]
def Jx{arr:Array aI}{P:aI->Prop}{i n:Nat}(h:∀j z,i<=j->j<n->arr[j]?=some z->P z):∀z∈(arr.toList.take n).drop i,P z:=λz hz=>by
 obtain⟨k,hk⟩:=bq.mp hz;rw[ff]at hk;have cF:i+k<n:=by have:=(ap.mp hk).1;rw[cm]at this;lia
 rw[de cF]at hk;exact h (i+k) z (by lia) cF<|by simpa using hk
def IF{a b out:Array aI}{na nb:Nat}{y:aI}(T:Two mem lt a b)(m:MidH lt a.toList b.toList out.reverse.toList (na+1) nb)(hy:a[na]?=some y)(h:∀x∈b.toList.take nb,lt y x=false):MidH lt a.toList b.toList (out.push y).reverse.toList na nb:=by
 have m2:=m.pushA T.sA (Nat.le_succ na) λx hx u hu=>by rw[C8 hy]at hu;rw[ay.mp hu];exact h x hx
 rw[C8 hy]at m2;simpa using m2
def apv{a b out:Array aI}{na nb:Nat}{y:aI}(T:Two mem lt a b)(m:MidH lt a.toList b.toList out.reverse.toList na (nb+1))(hy:b[nb]?=some y)(h:∀x∈a.toList.take na,lt y x=false):MidH lt a.toList b.toList (out.push y).reverse.toList na nb:=by
 have m2:=m.pushB T.sB (Nat.le_succ nb) λx hx u hu=>by rw[C8 hy]at hu;rw[ay.mp hu];exact h x hx
 rw[C8 hy]at m2;simpa using m2
def CV{a b out:Array aI}{na nb:Nat}(T:Two mem lt a b)(m:MidH lt a.toList b.toList out.reverse.toList na nb)(h:na=0):ox lt a.toList b.toList (a.extract 0 na++b.extract 0 nb++out.reverse).toList:=by subst h;have:=m.endA T.sB;simpa using this
def avp{a b out:Array aI}{na nb:Nat}(T:Two mem lt a b)(m:MidH lt a.toList b.toList out.reverse.toList na nb)(h:nb=0):ox lt a.toList b.toList (a.extract 0 na++b.extract 0 nb++out.reverse).toList:=by subst h;have:=m.endB T.sA;simpa using this
theorem EI{a b out:Array aI}{na nb:Nat}(o:nA lt)(T:Two mem lt a b)(m:MidH lt a.toList b.toList out.reverse.toList na nb)(h:nb=1):ox lt a.toList b.toList (b.extract 0 nb++a.extract 0 na++out.reverse).toList:=by
 subst h;have pB:=T.pB;have pA:=T.pA;have uU:b[0]?=some (b[0]'T.pB):=by simp[T.pB]
 have nV:a[0]?=some (a[0]'T.pA):=by simp[T.pA]
 have:=m.firstB o T.sA T.sB λy hy x hx=>by
  have e1:=C8 uU;rw[ja]at e1;rw[e1]at hx;rw[ay.mp hx];have hya:lt y a[0]=false:=zp o (zw T.sA 0) (vc nV) y (by rw[ja];exact hy);cases q:lt b[0] y with
  | true=>rfl
  | false=>have:=o.tr _ _ _ hya q;rw[T.first _ _ uU nV]at this;cases this
 simpa using this
theorem afo(C:lY prog w A s κ mem lt)(o:nA lt){st:aO}(hk:kindOf st=κ){a b:Array aI}(T:Two mem lt a b){Q:Array aI->aO->Prop}
  (h:∀out aP,SameG st aP->ox lt a.toList b.toList out.toList->Q out aP):iP (aH prog w) A E s (ao0 a b) Q st:=by
 refine a9<|gX<|cJ ⟨rfl,?_⟩;have gR:∀i z,a[i]?=some z->mem z:=λi z hz=>T.mA z (by obtain⟨h1,h2⟩:=bg.mp hz;rw[<-h2];simp);have lJ:∀i z,b[i]?=some z->mem z:=λi z hz=>T.mB z (by obtain⟨h1,h2⟩:=bg.mp hz;rw[<-h2];simp);have hpA:=T.pA;have hpB:=T.pB;have GY:a[a.size-1]?=some (a[a.size-1]'(by lia)):=by simp
 refine a9<|oe GY ?_;have m0:MidH lt a.toList b.toList (#[]:Array aI).reverse.toList (a.size-1+1) b.size:=by rw[show a.size-1+1=a.size by lia];exact⟨by simp,List.Pairwise.nil,by simp,by simp⟩
 have m1:=IF T m0 GY λx hx=>o.asy _ _<|T.last x (dn hx) _ GY;dsimp only;refine mh (λ(lU:(a.size-1==0)=true)=>?_) λ(lU:¬(a.size-1==0)=true)=>?_
 .exact bi<|h _ _ (SameG.refl _)<|CV T m1<|by simpa using lU
 refine mh (λ(yR:(b.size==1)=true)=>?_) λ(yR:¬(b.size==1)=true)=>?_
 .exact bi<|h _ _ (SameG.refl _)<|EI o T m1<|by simpa using yR
 have ha2:¬a.size-1=0:=by simpa using lU
 have hb2:¬b.size=1:=by simpa using yR
 refine a9<|dQ ?_;refine a9 (iw (gh (I:=λx c aP=>SameG st aP/\∃na nb out mg,c=(none,na,nb,out,mg)/\zl lt a b out na nb/\na+nb+x+1<=a.size+b.size)
  (Q:=λc aP=>SameG st aP/\∃res r,c=(some res,r)/\ox lt a.toList b.toList res.toList) ?step ?fin ?init) ?post)
 case init=>exact⟨SameG.refl _,(my _ _ _ _ ⟨rfl,⟨m1,by lia,by lia,by lia,by lia⟩,by lia⟩)⟩
 case fin=>
  intro c aP cB;refine hid λCg cC=>?_;obtain⟨_,na,nb,out,mg,rfl,⟨_,h1,h2,h3,h4⟩,h5⟩:=cB;refine cC ?_;lia
 case post=>
  intro c aP cB;refine hid λCg cC=>?_;obtain⟨sg,res,r,rfl,hm⟩:=cB;refine cC ?_;exact bi<|h _ _ sg hm
 case step=>
  intro x c aP _ hx cB;refine hid λCg cC=>?_;obtain⟨sg,na,nb,out,mg,rfl,L,hp⟩:=cB;refine cC ?_;dsimp only;refine a9 (iw (gh (I:=λy c aP=>SameG st aP/\∃kI kH cZ ac bc,c=(none,kI,kH,cZ,ac,bc)/\zl lt a b cZ kI kH/\kI+kH<=na+nb)
   (Q:=λc aP=>SameG st aP/\((∃res r,c=(some res,r)/\ox lt a.toList b.toList res.toList)\/∃kI kH cZ ac bc,c=(none,kI,kH,cZ,ac,bc)/\zl lt a b cZ kI kH/\kI+kH<=na+nb)) ?istep ?ifin ?iinit) ?ipost)
  case iinit=>exact⟨sg,(lr _ _ _ _ _ ⟨rfl,L,aq _⟩)⟩
  case ifin=>
   rintro c eY ⟨iH,bA⟩;exact⟨iH,.inr bA⟩
  case istep=>
   intro y c eY _ hy cB;refine hid λCg cC=>?_;obtain⟨iH,kI,kH,cZ,ac,bc,rfl,⟨m,l1,l2,l3,l4⟩,DX⟩:=cB;refine cC ?_;obtain⟨n1,rfl⟩:∃n1,kI=n1+1:=⟨kI-1,by lia⟩;obtain⟨n2,rfl⟩:∃n2,kH=n2+1:=⟨kH-1,by lia⟩;dsimp only[Nat.add_sub_cancel];have gT:b[n2]?=some (b[n2]'(by lia)):=by simp
   have gO:a[n1]?=some (a[n1]'(by lia)):=by simp
   refine a9<|oe gT<|a9<|oe gO<|a9<|CS C (iH.1.trans hk) (lJ _ _ gT) (gR _ _ gO) ?_;cases hl:lt b[n2] a[n1]with
   | true=>
    dsimp only;simp only[if_true];refine a9<|oe gO ?_;have m2:=IF T m gO<|CY o T.sB gT<|o.asy _ _ hl;try simp only[Nat.add_sub_cancel]
    refine mh (λ(he:(n1==0)=true)=>?_) λ(he:¬(n1==0)=true)=>?_
    .exact bi ⟨iH,.inl<|lc _ _ ⟨rfl,CV T m2<|by simpa using he⟩⟩
    .have jF:¬n1=0:=by simpa using he
     have L2:zl lt a b (cZ.push a[n1]) n1 (n2+1):=⟨m2,by lia,by lia,by lia,by lia⟩;split
     .exact bi ⟨iH,.inr<|lr _ _ _ _ _ ⟨rfl,L2,by lia⟩⟩
     .exact bi ⟨iH,(lr _ _ _ _ _ ⟨rfl,L2,by lia⟩)⟩
   | false=>
    dsimp only;simp only[a0,if_false];refine a9<|oe gT ?_;have m2:=apv T m gT<|CY o T.sA gO hl;try simp only[Nat.add_sub_cancel]
    refine mh (λ(he:(n2==1)=true)=>?_) λ(he:¬(n2==1)=true)=>?_
    .exact bi ⟨iH,.inl<|lc _ _ ⟨rfl,EI o T m2<|by simpa using he⟩⟩
    .have jF:¬n2=1:=by simpa using he
     have L2:zl lt a b (cZ.push b[n2]) (n1+1) n2:=⟨m2,by lia,by lia,by lia,by lia⟩;split
     .exact bi ⟨iH,.inr<|lr _ _ _ _ _ ⟨rfl,L2,by lia⟩⟩
     .exact bi ⟨iH,(lr _ _ _ _ _ ⟨rfl,L2,by lia⟩)⟩
  case ipost=>
   intro c eY cB;refine hid λCg cC=>?_
   (rcases cB with ⟨iH,(⟨res,r,rfl,hm⟩|⟨kI,kH,cZ,ac,bc,rfl,L2,oK⟩)⟩)<;>refine cC ?_
   .dsimp only;exact bi ⟨iH,(lc _ _ ⟨rfl,hm⟩)⟩
   .dsimp only;refine a9<|gX<|cJ ⟨rfl,?_⟩;refine a9 (iw (gh (I:=λy c aP=>SameG st aP/\∃eA bL aZ dM ac bc,c=(none,eA,bL,aZ,dM,ac,bc)/\zl lt a b aZ eA bL/\eA+bL+y<=kI+kH)
     (Q:=λc aP=>SameG st aP/\((∃res r,c=(some res,r)/\ox lt a.toList b.toList res.toList)\/∃eA bL aZ dM ac bc,c=(none,eA,bL,aZ,dM,ac,bc)/\zl lt a b aZ eA bL/\eA+bL+1<=kI+kH)) ?jstep ?jfin ?jinit) ?jpost)
    case jinit=>exact⟨iH,(lr _ _ _ _ _ ⟨_,rfl,L2,aq _⟩)⟩
    case jfin=>
     intro c eU cB;refine hid λCg cC=>?_;obtain⟨lE,eA,bL,aZ,dM,C5,vB,rfl,L3,lh⟩:=cB;refine cC ?_;exact⟨lE,.inr<|lr _ _ _ _ _ ⟨_,rfl,L3,by lia⟩⟩
    case jpost=>
     intro c eU cB;refine hid λCg cC=>?_
     (rcases cB with ⟨lE,(⟨res,r,rfl,hm⟩|⟨eA,bL,aZ,dM,C5,vB,rfl,L3,lh⟩)⟩)<;>refine cC ?_
     .dsimp only;exact bi ⟨lE,(lc _ _ ⟨rfl,hm⟩)⟩
     .dsimp only;refine a9<|AL ?_;exact bi ⟨lE.gal _,(my _ _ _ _ ⟨rfl,L3,by lia⟩)⟩
    case jstep=>
     intro y c eU _ hy cB;refine hid λCg cC=>?_;obtain⟨lE,eA,bL,aZ,dM,C5,vB,rfl,⟨m3,l1,l2,l3,l4⟩,lh⟩:=cB;refine cC ?_;dsimp only;have gT:b[bL-1]?=some (b[bL-1]'(by lia)):=by simp
     have lF:∀(fS:Array aI)(cP qK eQ k k1:Nat)(b0:aO),SameG st b0->MidH lt a.toList b.toList fS.reverse.toList cP qK->0<cP->1<qK->cP<=a.size->qK<=b.size->(∀z,a[cP-1]?=some z->∀u∈b.toList.take qK,lt z u=false)->cP+qK+y+1<=kI+kH->
       iP (aH prog w) A E s (do
        let z2 <-iZ a (cP-1)
        if (cP-1==0)=true then
         aT (ForInStep.done (some<|a.extract 0 (cP-1)++b.extract 0 qK++(fS.push z2).reverse,cP-1,qK,fS.push z2,eQ,k,k1))
        else if (decide (k<7)&&decide (k1<7))=true then aT (ForInStep.done (none,cP-1,qK,fS.push z2,eQ,k,k1))
        else aT (ForInStep.yield (none,cP-1,qK,fS.push z2,eQ,k,k1)))
       (λr aP=>match r with
        | .done c'=>SameG st aP/\((∃res r,c'=(some res,r)/\ox lt a.toList b.toList res.toList)\/∃eA bL aZ dM ac bc,c'=(none,eA,bL,aZ,dM,ac,bc)/\zl lt a b aZ eA bL/\eA+bL+1<=kI+kH)
        | .yield c'=>SameG st aP/\∃eA bL aZ dM ac bc,c'=(none,eA,bL,aZ,dM,ac,bc)/\zl lt a b aZ eA bL/\eA+bL+(y+1)<=kI+kH) b0:=by
      intro fS cP qK eQ k k1 b0 dY m5 q1 q2 q3 q4 hu DW;have gO:a[cP-1]?=some (a[cP-1]'(by lia)):=by simp
      refine a9<|oe gO ?_;have m6:=IF (na:=cP-1) T (by rw[show cP-1+1=cP by lia];exact m5) gO<|hu _ gO;refine mh (λ(he:(cP-1==0)=true)=>?_) λ(he:¬(cP-1==0)=true)=>?_
      .exact bi ⟨dY,.inl<|lc _ _ ⟨rfl,CV T m6<|by simpa using he⟩⟩
      .have jF:¬cP-1=0:=by simpa using he
       have L6:zl lt a b (fS.push a[cP-1]) (cP-1) qK:=⟨m6,by lia,by lia,by lia,by lia⟩;split
       .exact bi ⟨dY,.inr<|lr _ _ _ _ _ ⟨_,rfl,L6,by lia⟩⟩
       .exact bi ⟨dY,(lr _ _ _ _ _ ⟨_,rfl,L6,by lia⟩)⟩
     have bA:∀(bH:Array aI)(cP eQ k:Nat)(b0:aO),SameG st b0->MidH lt a.toList b.toList bH.reverse.toList cP bL->0<cP->cP<=a.size->(∀z∈a.toList.take cP,lt b[bL-1] z=false)->cP+bL+y<=kI+kH->
       iP (aH prog w) A E s (do
        let z <-iZ b (bL-1)
        if (bL-1==1)=true then
         aT (ForInStep.done (some<|b.extract 0 (bL-1)++a.extract 0 cP++(bH.push z).reverse,cP,bL-1,bH.push z,eQ,k,vB))
        else do
         let z1 <-iZ a (cP-1)
         let x <-Da true z1 b 0 (bL-1) (bL-1-1)
         match x with
         | some cE=>
          if bL-1-cE>0 then
           if (cE==1)=true then
            aT (ForInStep.done (some<|b.extract 0 cE++a.extract 0 cP++(bH.push z++(b.extract cE<|bL-1).reverse).reverse,cP,cE,(bH.push z++(b.extract cE<|bL-1).reverse),eQ,k,bL-1-cE))
           else if (cE==0)=true then
            aT (ForInStep.done (some<|a.extract 0 cP++b.extract 0 cE++(bH.push z++(b.extract cE<|bL-1).reverse).reverse,cP,cE,(bH.push z++(b.extract cE<|bL-1).reverse),eQ,k,bL-1-cE))
           else do
            let z2 <-iZ a (cP-1)
            if (cP-1==0)=true then
             aT (ForInStep.done (some<|a.extract 0 (cP-1)++b.extract 0 cE++((bH.push z++(b.extract cE<|bL-1).reverse).push z2).reverse,cP-1,cE,(bH.push z++(b.extract cE<|bL-1).reverse).push z2,eQ,k,bL-1-cE))
            else if (decide (k<7)&&decide (bL-1-cE<7))=true then aT (ForInStep.done (none,cP-1,cE,(bH.push z++(b.extract cE<|bL-1).reverse).push z2,eQ,k,bL-1-cE))
            else aT (ForInStep.yield (none,cP-1,cE,(bH.push z++(b.extract cE<|bL-1).reverse).push z2,eQ,k,bL-1-cE))
          else do
           let z2 <-iZ a (cP-1)
           if (cP-1==0)=true then
            aT (ForInStep.done (some<|a.extract 0 (cP-1)++b.extract 0 (bL-1)++((bH.push z).push z2).reverse,cP-1,(bL-1),(bH.push z).push z2,eQ,k,bL-1-cE))
           else if (decide (k<7)&&decide (bL-1-cE<7))=true then aT (ForInStep.done (none,cP-1,(bL-1),(bH.push z).push z2,eQ,k,bL-1-cE))
           else aT (ForInStep.yield (none,cP-1,(bL-1),(bH.push z).push z2,eQ,k,bL-1-cE))
         | _=>aT<|ForInStep.done (some<|a.extract 0 cP++b.extract 0 (bL-1)++(bH.push z).reverse,cP,bL-1,bH.push z,eQ,k,vB))
       (λr aP=>match r with
        | .done c'=>SameG st aP/\((∃res r,c'=(some res,r)/\ox lt a.toList b.toList res.toList)\/∃eA bL aZ dM ac bc,c'=(none,eA,bL,aZ,dM,ac,bc)/\zl lt a b aZ eA bL/\eA+bL+1<=kI+kH)
        | .yield c'=>SameG st aP/\∃eA bL aZ dM ac bc,c'=(none,eA,bL,aZ,dM,ac,bc)/\zl lt a b aZ eA bL/\eA+bL+(y+1)<=kI+kH) b0:=by
      intro bH cP eQ k b0 dY m4 q1 q3 jP xZ;refine a9<|oe gT ?_;have m5:=apv (nb:=bL-1) T (by rw[show bL-1+1=bL by lia];exact m4) gT jP;refine mh (λ(he:(bL-1==1)=true)=>?_) λ(he:¬(bL-1==1)=true)=>?_
      .exact bi ⟨dY,.inl<|lc _ _ ⟨rfl,EI o T m5<|by simpa using he⟩⟩
      have jF:¬bL-1=1:=by simpa using he
      have gO:a[cP-1]?=some (a[cP-1]'(by lia)):=by simp
      refine a9<|oe gO ?_;refine a9<|JI (st:=b0) (base:=0) (n:=bL-1) (hint:=bL-1-1) C o (dY.1.trans hk) (gR _ _ gO) (by lia) (λi z hi hz=>lJ _ z hz) (by lia) (λi j y z cA hj hy hz=>xc o T.sB (show 0+i<=0+j by lia) hy hz) λcE jV h1 h2=>?_;dsimp only;have m6:=m5.pushB T.sB (i:=cE) jV λx hx u hu=>by have Bk:lt u a[cP-1]=false:=Jx (P:=λu=>lt u a[cP-1]=false) (λi z hi hn hz=>h2 i z hi hn<|by rw[Nat.zero_add];exact hz) u hu;exact CY o T.sA gO Bk x<|by rw[show cP-1+1=cP by lia];exact hx
      have e6:(bH.push b[bL-1]++(b.extract cE<|bL-1).reverse).reverse.toList=(b.toList.take<|bL-1).drop cE++(bH.push b[bL-1]).reverse.toList:=Jj _ _ jV;rw[<-e6]at m6;have Ah:∀z,a[cP-1]?=some z->∀u∈b.toList.take cE,lt z u=false:=λz hz=>by rw[gO]at hz;cases hz;intro u hu;refine o.asy _ _<|xn (base:=0) (P:=λu=>lt u a[cP-1]=true) h1 u ?_;rw[ja];exact hu
      refine mh (λ(iW:bL-1-cE>0)=>?_) λ(iW:¬(bL-1-cE>0))=>?_
      .refine mh (λ(mU:(cE==1)=true)=>?_) λ(mU:¬(cE==1)=true)=>?_
       .exact bi ⟨dY,.inl<|lc _ _ ⟨rfl,EI o T m6<|by simpa using mU⟩⟩
       have GN:¬cE=1:=by simpa using mU
       refine mh (λ(GM:(cE==0)=true)=>?_) λ(GM:¬(cE==0)=true)=>?_
       .exact bi ⟨dY,.inl<|lc _ _ ⟨rfl,avp T m6<|by simpa using GM⟩⟩
       have he5:¬cE=0:=by simpa using GM
       exact lF _ cP cE eQ k _ b0 dY m6 q1 (by lia) q3 (by lia) Ah<|by lia
      .have e0:cE=bL-1:=by lia
       rw[e0]at Ah;exact lF _ cP (bL-1) eQ k _ b0 dY m5 q1 (by lia) q3 (by lia) Ah<|by lia
     refine mh (λ(uP:dM>1)=>?_) λ(uP:¬(dM>1))=>?_
     .refine a9<|AL ?_;have dY:SameG st (vn eU<|dM-1):=lE.gal _;refine a9<|oe gT ?_;refine a9<|xf (st:=vn eU<|dM-1) (base:=0) (n:=eA) (hint:=eA-1) C o (dY.1.trans hk) (lJ _ _ gT) (by lia) (λi z hi hz=>gR _ z hz) (by lia) (λi j y z cA hj hy hz=>xc o T.sA (show 0+i<=0+j by lia) hy hz) λcE jV h1 h2=>?_;have m4:=m3.pushA T.sA (i:=cE) jV λx hx u hu=>by
       have Bk:lt b[bL-1] u=true:=Jx (P:=λu=>lt b[bL-1] u=true) (λi z hi hn hz=>h2 i z hi hn<|by rw[Nat.zero_add];exact hz) u hu;exact CY o T.sB gT (o.asy _ _ Bk) x<|by rw[show bL-1+1=bL by lia];exact hx
      have e4:(aZ++(a.extract cE eA).reverse).reverse.toList=(a.toList.take eA).drop cE++aZ.reverse.toList:=Jj _ _ jV;rw[<-e4]at m4;have jP:∀z∈a.toList.take cE,lt b[bL-1] z=false:=λz hz=>xn (base:=0) (P:=λz=>lt b[bL-1] z=false) h1 z (by rw[ja];exact hz);dsimp only;refine mh (λ(iW:eA-cE>0)=>?_) λ(iW:¬(eA-cE>0))=>?_
      .refine mh (λ(he:(cE==0)=true)=>?_) λ(he:¬(cE==0)=true)=>?_
       .exact bi ⟨dY,.inl<|lc _ _ ⟨rfl,CV T m4<|by simpa using he⟩⟩
       have jF:¬cE=0:=by simpa using he
       refine iw (bA _ cE (dM-1) _ _ dY m4 (by lia) (by lia) jP<|by lia) λr aP hr=>?_;cases r<;>exact hr
      .have e0:cE=eA:=by lia
       rw[e0]at jP;refine iw (bA aZ eA (dM-1) _ _ dY m3 (by lia) (by lia) jP lh) λr aP hr=>?_;cases r<;>exact hr
     .refine a9<|AL ?_;have dY:SameG st (vn eU<|dM):=lE.gal _;refine a9<|oe gT ?_;refine a9<|xf (st:=vn eU<|dM) (base:=0) (n:=eA) (hint:=eA-1) C o (dY.1.trans hk) (lJ _ _ gT) (by lia) (λi z hi hz=>gR _ z hz) (by lia) (λi j y z cA hj hy hz=>xc o T.sA (show 0+i<=0+j by lia) hy hz) λcE jV h1 h2=>?_;have m4:=m3.pushA T.sA (i:=cE) jV λx hx u hu=>by
       have Bk:lt b[bL-1] u=true:=Jx (P:=λu=>lt b[bL-1] u=true) (λi z hi hn hz=>h2 i z hi hn<|by rw[Nat.zero_add];exact hz) u hu;exact CY o T.sB gT (o.asy _ _ Bk) x<|by rw[show bL-1+1=bL by lia];exact hx
      have e4:(aZ++(a.extract cE eA).reverse).reverse.toList=(a.toList.take eA).drop cE++aZ.reverse.toList:=Jj _ _ jV;rw[<-e4]at m4;have jP:∀z∈a.toList.take cE,lt b[bL-1] z=false:=λz hz=>xn (base:=0) (P:=λz=>lt b[bL-1] z=false) h1 z (by rw[ja];exact hz);dsimp only;refine mh (λ(iW:eA-cE>0)=>?_) λ(iW:¬(eA-cE>0))=>?_
      .refine mh (λ(he:(cE==0)=true)=>?_) λ(he:¬(cE==0)=true)=>?_
       .exact bi ⟨dY,.inl<|lc _ _ ⟨rfl,CV T m4<|by simpa using he⟩⟩
       have jF:¬cE=0:=by simpa using he
       refine iw (bA _ cE (dM) _ _ dY m4 (by lia) (by lia) jP<|by lia) λr aP hr=>?_;cases r<;>exact hr
      .have e0:cE=eA:=by lia
       rw[e0]at jP;refine iw (bA aZ eA (dM) _ _ dY m3 (by lia) (by lia) jP lh) λr aP hr=>?_;cases r<;>exact hr
end
noncomputable def Fk(f:aI->Int)(xs:Array aI)(i:Nat):Int:=(xs[i]?.map f).getD 0
noncomputable abbrev fl(f:aI->Int)(x y:aI):Bool:=decide<|f x<f y
def EO(f:aI->Int):nA (fl f):=⟨λx y h=>by simp at h⊢;omega,λx y z h1 h2=>by simp at h1 h2⊢;omega⟩
def Seg(f:aI->Int)(xs:Array aI)(lo n:Nat):Prop:=∀i j,lo<=i->i<=j->j<lo+n->Fk f xs i<=Fk f xs j
def Dsc(f:aI->Int)(xs:Array aI)(lo n:Nat):Prop:=∀i j,lo<=i->i<=j->j<lo+n->Fk f xs j<=Fk f xs i
structure TB(κ:aU)(a₀:Array aI)(st:aO):Prop where
 perm:(aJ st).Perm a₀
 kind:kindOf st=κ
 failed:bP st=none
structure Fr(lo:Nat)(st aP:aO):Prop where
 pend:aL aP=aL st
 low:∀i,i<lo->(aJ aP)[i]?=(aJ st)[i]?
def Fr.refl(lo:Nat)(st:aO):Fr lo st st:=⟨rfl,λ_ _=>rfl⟩
theorem Fr.trans{lo:Nat}{a b c:aO}(h:Fr lo a b)(k:Fr lo b c):Fr lo a c:=⟨k.pend.trans h.pend,λi hi=>(k.low i hi).trans (h.low i hi)⟩
theorem TB.size{κ:aU}{a₀:Array aI}{st:aO}(h:TB κ a₀ st):(aJ st).size=a₀.size:=h.perm.size_eq
def TB.set{κ:aU}{a₀:Array aI}{st:aO}(h:TB κ a₀ st){xs:Array aI}(hp:xs.Perm (aJ st)):TB κ a₀ (jC st xs):=⟨hp.trans h.perm,h.kind,h.failed⟩
def yg{f:aI->Int}{xs ys:Array aI}{i j:Nat}(h:xs[i]?=ys[j]?):Fk f xs i=Fk f ys j:=by unfold Fk;rw[h]
def IT{f:aI->Int}{xs:Array aI}{i j:Nat}(hj:j<=xs.size)(k:Nat):Fk f (hU xs i j<|(j-i)/2) k=if i<=k/\k<j then Fk f xs (i+j-1-k)else Fk f xs k:=by
 have e:=yV (i:=i) hj k;split
 .rename_i h;rw[if_pos h]at e;exact yg e
 .rename_i h;rw[if_neg h]at e;exact yg e
def xq{f:aI->Int}{xs:Array aI}{i j:Nat}(hj:j<=xs.size)(he:∀k,i<=k->k<j->Fk f xs k=Fk f xs (j-1))(k:Nat):Fk f (hU xs i j<|(j-i)/2) k=Fk f xs k:=by
 rw[IT hj];split
 .rw[he _ (by omega) (by omega),he k (by omega)<|by omega]
 .rfl
def aqg{f:aI->Int}{xs:Array aI}{c d:Nat}(hs:c<xs.size)(hd:d<=c)(k:Nat) :
  Fk f (Av xs c d) k=if k=c-d then Fk f xs c else if c-d<k/\k<=c then Fk f xs (k-1)else Fk f xs k:=by
 have e:=Hb hs d hd k;split
 .rename_i h;rw[if_pos h]at e;exact yg e
 .rename_i h
  rw[if_neg h]at e;split
  .rename_i h2;rw[if_pos h2]at e;exact yg e
  .rename_i h2;rw[if_neg h2]at e;exact yg e
def Fr.mir{lo:Nat}{st:aO}{i j:Nat}(hi:lo<=i)(hj:j<=(aJ st).size):Fr lo st (jC st<|hU (aJ st) i j<|(j-i)/2):=
 ⟨rfl,λk hk=>by show(hU (aJ st) i j<|(j-i)/2)[k]?=_;rw[yV hj,if_neg<|by omega]⟩
def Fr.bub{lo:Nat}{st:aO}{c d:Nat}(hs:c<(aJ st).size)(hd:lo<=c-d)(kS:d<=c):Fr lo st (jC st<|Av (aJ st) c d):=
 ⟨rfl,λk hk=>by show(Av (aJ st) c d)[k]?=_;rw[Hb hs d kS,if_neg<|by omega,if_neg<|by omega]⟩
section
variable{prog:aK}{w:aN}{A:Around}{E:aA->aB->Prop}{s:aB}
variable{κ:aU}{mem:aI->Prop}{f:aI->Int}{a₀:Array aI}
def TB.at{st:aO}(h:TB κ a₀ st)(hm:∀x∈a₀.toList,mem x){i:Nat}(hi:i<a₀.size):∃x,(aJ st)[i]?=some x/\mem x/\f x=Fk f (aJ st) i:=by
 have eT:i<(aJ st).size:=by rw[h.size];exact hi
 have e:(aJ st)[i]?=some (aJ st)[i]:=getElem?_pos _ i eT;refine⟨_,e,hm _<|(jf.mp h.perm).mem_iff.mp (by simp),?_⟩;unfold Fk;rw[e];rfl
def C7(C:lY prog w A s κ mem (fl f))(hm:∀x∈a₀.toList,mem x){st:aO}(B:TB κ a₀ st){i j:Nat}(hi:i<a₀.size)(hj:j<a₀.size){Q:Option Bool->aO->Prop}
  (h:Q (some<|decide<|Fk f (aJ st) i<Fk f (aJ st) j) st):iP (aH prog w) A E s (ltAt' i j) Q st:=by
 obtain⟨x,e1,m1,k1⟩:=B.at (f:=f) hm hi;obtain⟨y,e2,m2,k2⟩:=B.at (f:=f) hm hj;rw[ltAt'_eq];refine a9<|dQ<|a9<|oe e1<|a9<|oe e2<|CS C B.kind m1 m2 ?_;rw[<-k1,<-k2]at h;exact h
def EZ{st:aO}{i j:Nat}{Q:Unit->aO->Prop}(h:Q () (jC st<|hU (aJ st) i j<|(j-i)/2)):iP (aH prog w) A E s (fI i j) Q st:=by rw[reverseSlice'_eq];exact cI h
noncomputable abbrev UpS:=Option (Option Nat)×Nat
noncomputable abbrev DnS:=Option (Option Nat)×Nat×Nat
noncomputable def CW(lo a bF:Nat):StateT aO oE UpS:=wS [a:bF] ((none,a):UpS) λ_ c=>do
 let q <-ltAt' (lo+c.snd) (lo+c.snd-1)
 match q with
 | some b=>if b=true then aT (.done (none,c.snd))else aT (.yield (none,c.snd+1))
 | _=>aT<|.done (some none,c.snd)
noncomputable def CP(lo n bF:Nat):StateT aO oE (Option Nat):=do
 fI lo (lo+n)
 let c <-CW lo n bF
 match c.fst with
 | some r=>aT r
 | none=>aT<|some c.snd
noncomputable def EE(lo n bF:Nat):StateT aO oE DnS:=wS [n:bF] ((none,n,0):DnS) λ_ c=>do
 let q <-ltAt' (lo+c.snd.fst) (lo+c.snd.fst-1)
 match q with
 | some b=>
  if b=true then
   if c.snd.snd>0 then do
    fI (lo+c.snd.fst-(c.snd.snd+1)) (lo+c.snd.fst)
    aT (.yield (none,c.snd.fst+1,0))
   else aT (.yield (none,c.snd.fst+1,0))
  else do
   let q2 <-ltAt' (lo+c.snd.fst-1) (lo+c.snd.fst)
   match q2 with
   | some b2=>if b2=true then aT (.done (none,c.snd.fst,c.snd.snd))else aT (.yield (none,c.snd.fst+1,c.snd.snd+1))
   | _=>aT (.done (some none,c.snd.fst,c.snd.snd))
 | _=>aT<|.done (some none,c.snd.fst,c.snd.snd)
noncomputable def C2(lo n bF:Nat):StateT aO oE (Option Nat):=do
 liftM (vP "list.sort.descending-run")
 let c <-EE lo (n+1) bF
 match c.fst with
 | some r=>aT r
 | none=>
  if c.snd.snd>0 then do
   fI (lo+c.snd.fst-(c.snd.snd+1)) (lo+c.snd.fst)
   CP lo c.snd.fst bF
  else CP lo c.snd.fst bF
theorem ant(lo bF:Nat):countRun' lo bF=(do
  let c <-CW lo 1 bF
  match c.fst with
  | some r=>aT r
  | none=>
   if (c.snd==bF)=true then aT (some c.snd)
   else if c.snd>1 then do
    let q <-ltAt' lo (lo+c.snd-1)
    match q with
    | some b=>if b=true then aT (some c.snd)else do
      fI lo (lo+c.snd)
      C2 lo c.snd bF
    | _=>aT none
   else C2 lo c.snd bF):=by
 rw[countRun'_eq];dsimp only;unfold C2 CP EE CW
 congr 1
 funext c
 obtain⟨r,n⟩:=c;cases r with
 | some r=>rfl
 | none=>
  dsimp only;split
  .rfl
  .split
   .congr 1
    funext x
    cases x with
    | none=>rfl
    | some b=>
     dsimp only;split
     .rfl
     .congr 1
      funext _r
      (congr 1;funext _u;congr 1;congr 1;funext c2;obtain⟨r2,n2,q2⟩:=c2;cases r2 with
       | some r2=>rfl
       | none=>(dsimp only;split;(congr 1;funext _v;(congr 1;funext _w;congr 1;(funext c3;obtain⟨r3,n3⟩:=c3;cases r3<;>rfl)));(congr 1;funext _w;congr 1;(funext c3;obtain⟨r3,n3⟩:=c3;cases r3<;>rfl))))
   ·(congr 1;funext _u;congr 1;congr 1;funext c2;obtain⟨r2,n2,q2⟩:=c2;cases r2 with
     | some r2=>rfl
     | none=>(dsimp only;split;(congr 1;funext _v;(congr 1;funext _w;congr 1;(funext c3;obtain⟨r3,n3⟩:=c3;cases r3<;>rfl)));(congr 1;funext _w;congr 1;(funext c3;obtain⟨r3,n3⟩:=c3;cases r3<;>rfl))))
def apm(C:lY prog w A s κ mem (fl f))(hm:∀x∈a₀.toList,mem x){st:aO}{lo a bF:Nat}{Q:UpS->aO->Prop}(hn:lo+bF<=a₀.size)(ha:1<=a)(han:a<=bF)(B:TB κ a₀ st)(hs:Seg f (aJ st) lo a)
  (h:∀n,a<=n->n<=bF->Seg f (aJ st) lo n->(n=bF\/Fk f (aJ st) (lo+n)<Fk f (aJ st) (lo+n-1))->Q (none,n) st):iP (aH prog w) A E s (CW lo a bF) Q st:=by
 unfold CW;refine gh (I:=λx c aP=>aP=st/\c=(none,x)/\Seg f (aJ st) lo x) ?step ?fin ⟨rfl,rfl,hs⟩
 case fin=>
  rintro c aP ⟨rfl,rfl,eF⟩;rw[show qL a bF=bF from Nat.max_eq_right<|by lia]at eF⊢;exact h bF han (aq _) eF<|.inl rfl
 case step=>
  rintro x c aP GU hxn ⟨rfl,rfl,eF⟩;dsimp only;refine a9<|C7 C hm B (by lia) (by lia) ?_;by_cases hl:Fk f (aJ aP) (lo+x)<Fk f (aJ aP) (lo+x-1)
  .simp only[hl,decide_true,if_true];exact bi<|h x GU (by lia) eF<|.inr hl
  .simp only[hl,decide_false,a0,if_false];refine bi ⟨rfl,rfl,λi j hi cA hj=>?_⟩;by_cases GB:j<lo+x
   .exact eF i j hi cA GB
   .obtain rfl:j=lo+x:=by lia
    by_cases eT:i=lo+x
    .rw[eT];exact jt _
    .have:=eF i (lo+x-1) hi (by lia) (by lia);lia
noncomputable abbrev JB(f:aI->Int)(κ:aU)(a₀:Array aI)(lo bF:Nat)(st:aO)(Q:Option Nat->aO->Prop):Prop:=
 ∀m aP,TB κ a₀ aP->Fr lo st aP->1<=m->m<=bF->Seg f (aJ aP) lo m->Q (some m) aP
def abv(C:lY prog w A s κ mem (fl f))(hm:∀x∈a₀.toList,mem x){st0 st:aO}{lo n bF:Nat}{Q:Option Nat->aO->Prop}(hn:lo+bF<=a₀.size)(h1:1<=n)(uM:n<=bF)(B:TB κ a₀ st)(F:Fr lo st0 st)(hs:Dsc f (aJ st) lo n)
  (h:JB f κ a₀ lo bF st0 Q):iP (aH prog w) A E s (CP lo n bF) Q st:=by
 unfold CP;have hsz:lo+n<=(aJ st).size:=by rw[B.size];lia
 refine a9<|EZ ?_;have B':TB κ a₀ (jC st<|hU (aJ st) lo (lo+n)<|(lo+n-lo)/2):=B.set<|lI _ _ _ _;have F':=F.trans<|Fr.mir (aq lo) hsz;refine a9<|apm C hm hn h1 uM B' ?_ λm Gs pO hsm _=>bi<|h m _ B' F' (by lia) pO hsm;intro i j hi cA hj;show Fk f (hU (aJ st) lo (lo+n)<|(lo+n-lo)/2) i<=Fk f (hU (aJ st) lo (lo+n)<|(lo+n-lo)/2) j;rw[IT hsz,IT hsz,if_pos<|by lia,if_pos<|by lia];exact hs _ _ (by lia) (by lia)<|by lia
def xo{xs ys:Array aI}{lo x:Nat}(h1:1<=x)(hs:Dsc f xs lo x)(hk:∀k,Fk f ys k=Fk f xs k)(hl:Fk f xs (lo+x)<=Fk f xs (lo+x-1)):Dsc f ys lo (x+1):=by
 intro i j hi cA hj;rw[hk,hk];by_cases GB:j<lo+x
 .exact hs i j hi cA GB
 .obtain rfl:j=lo+x:=by lia
  by_cases eT:i=lo+x
  .rw[eT];exact jt _
  .have:=hs i (lo+x-1) hi (by lia) (by lia);lia
def aiy(C:lY prog w A s κ mem (fl f))(hm:∀x∈a₀.toList,mem x){st0 st:aO}{lo n bF:Nat}{Q:DnS->aO->Prop}(hn:lo+bF<=a₀.size)(h1:1<=n)(uM:n<=bF)(B:TB κ a₀ st)(F:Fr lo st0 st)(hs:Dsc f (aJ st) lo n)
  (h:∀m q aP,TB κ a₀ aP->Fr lo st0 aP->n<=m->m<=bF->Dsc f (aJ aP) lo m->q+1<=m->(∀i,lo+m-(q+1)<=i->i<lo+m->Fk f (aJ aP) i=Fk f (aJ aP) (lo+m-1))->Q (none,m,q) aP) :
  iP (aH prog w) A E s (EE lo n bF) Q st:=by
 unfold EE;refine gh (I:=λx c aP=>∃q,c=(none,x,q)/\TB κ a₀ aP/\Fr lo st0 aP/\Dsc f (aJ aP) lo x/\q+1<=x/\∀i,lo+x-(q+1)<=i->i<lo+x->Fk f (aJ aP) i=Fk f (aJ aP) (lo+x-1)) ?step ?fin ⟨0,rfl,B,F,hs,by lia,λi h1 h2=>by congr 1;lia⟩
 case fin=>
  intro c aP cB;refine hid λCg cC=>?_;obtain⟨q,rfl,B',F',eF,hq,he⟩:=cB;refine cC ?_;rw[show qL n bF=bF from Nat.max_eq_right<|by lia]at eF hq he⊢;exact h bF q aP B' F' uM (aq _) eF hq he
 case step=>
  intro x c aP GU hxn cB;refine hid λCg cC=>?_;obtain⟨q,rfl,B',F',eF,hq,he⟩:=cB;refine cC ?_;dsimp only;have hsz:lo+x<=(aJ aP).size:=by rw[B'.size];lia
  refine a9<|C7 C hm B' (by lia) (by lia) ?_;by_cases hl:Fk f (aJ aP) (lo+x)<Fk f (aJ aP) (lo+x-1)
  .simp only[hl,decide_true,if_true];refine mh (λ(F7:q>0)=>?_) λ(F7:¬(q>0))=>?_
   .exact a9<|EZ<|bi ⟨0,rfl,B'.set<|lI _ _ _ _,F'.trans<|Fr.mir (by lia) hsz,xo (by lia) eF (xq hsz he)<|Int.le_of_lt hl,by lia,λi h1 h2=>by congr 1;lia⟩
   .exact bi ⟨0,rfl,B',F',xo (by lia) eF (λ_=>rfl)<|Int.le_of_lt hl,by lia,λi h1 h2=>by congr 1;lia⟩
  .simp only[hl,decide_false,a0,if_false];refine a9<|C7 C hm B' (by lia) (by lia) ?_;by_cases hg:Fk f (aJ aP) (lo+x-1)<Fk f (aJ aP) (lo+x)
   .simp only[hg,decide_true,if_true];exact bi<|h x q aP B' F' GU (by lia) eF hq he
   .simp only[hg,decide_false,a0,if_false];have hx:Fk f (aJ aP) (lo+x)=Fk f (aJ aP) (lo+x-1):=by lia
    refine bi ⟨q+1,rfl,B',F',xo (by lia) eF (λ_=>rfl)<|by lia,by lia,λi h1 h2=>?_⟩;rw[show lo+(x+1)-1=lo+x by lia];by_cases hix:i=lo+x
    .rw[hix]
    .rw[hx];exact he i (by lia)<|by lia
def ab5(C:lY prog w A s κ mem (fl f))(hm:∀x∈a₀.toList,mem x){st0 st:aO}{lo n bF:Nat}{Q:Option Nat->aO->Prop}(hn:lo+bF<=a₀.size)(uM:n+1<=bF)(B:TB κ a₀ st)(F:Fr lo st0 st)(hs:Dsc f (aJ st) lo (n+1))
  (h:JB f κ a₀ lo bF st0 Q):iP (aH prog w) A E s (C2 lo n bF) Q st:=by
 unfold C2;refine a9<|gX<|cJ ⟨rfl,?_⟩;refine a9<|aiy C hm hn (by lia) uM B F hs λm q aP B' F' Gs pO eF hq he=>?_;dsimp only;have hsz:lo+m<=(aJ aP).size:=by rw[B'.size];lia
 refine mh (λ(F7:q>0)=>?_) λ(F7:¬(q>0))=>?_
 .refine a9<|EZ<|abv C hm hn (by lia) pO (B'.set<|lI _ _ _ _) (F'.trans<|Fr.mir (by lia) hsz) ?_ h;intro i j hi cA hj;show Fk f (hU (aJ aP) _ _ _) j<=Fk f (hU (aJ aP) _ _ _) i;rw[xq hsz he,xq hsz he];exact eF i j hi cA hj
 .exact abv C hm hn (by lia) pO B' F' eF h
def asw(C:lY prog w A s κ mem (fl f))(hm:∀x∈a₀.toList,mem x){st:aO}{lo bF:Nat}{Q:Option Nat->aO->Prop}(hn:lo+bF<=a₀.size)(h1:1<=bF)(B:TB κ a₀ st)(h:JB f κ a₀ lo bF st Q) :
  iP (aH prog w) A E s (countRun' lo bF) Q st:=by
 rw[ant]
 refine a9 (apm C hm hn (aq 1) h1 B (λi j hi cA hj=>by obtain rfl:i=j:=by lia
                                                       exact jt _) λn jU lP xT hor=>?_)
 dsimp only;by_cases uM:n=bF
 .rw[if_pos (by simpa using uM)];exact bi<|h n st B (Fr.refl _ _) jU lP xT
 .rw[if_neg (by simpa using uM)];have cF:Fk f (aJ st) (lo+n)<Fk f (aJ st) (lo+n-1):=hor.resolve_left uM;refine mh (λ(hgt:n>1)=>?_) λ(hgt:¬(n>1))=>?_
  .refine a9<|C7 C hm B (by lia) (by lia) ?_;by_cases hr:Fk f (aJ st) lo<Fk f (aJ st) (lo+n-1)
   .simp only[hr,decide_true,if_true];exact bi<|h n st B (Fr.refl _ _) jU lP xT
   .simp only[hr,decide_false,a0,if_false];have hsz:lo+n<=(aJ st).size:=by rw[B.size];lia
    have bI:∀k,lo<=k->k<lo+n->Fk f (aJ st) k=Fk f (aJ st) (lo+n-1):=by intro k hlk hk;have a1:=xT lo k (by lia) hlk hk;have a2:=xT k (lo+n-1) (by lia) (by lia) (by lia);lia
    refine a9<|EZ<|ab5 C hm hn (by lia) (B.set<|lI _ _ _ _) (Fr.mir (aq lo) hsz) (xo (xs:=aJ st) jU ?_ (xq hsz bI)<|Int.le_of_lt cF) h;intro i j hi cA hj;rw[bI i (by lia) (by lia),bI j (by lia) hj];exact jt _
  .obtain rfl:n=1:=by lia
   refine ab5 C hm hn (by lia) B (Fr.refl _ _) (xo (xs:=aJ st) jU ?_ (λ_=>rfl)<|Int.le_of_lt cF) h;intro i j hi cA hj;obtain rfl:i=j:=by lia
   exact jt _
theorem ar7(C:lY prog w A s κ mem (fl f))(hm:∀x∈a₀.toList,mem x){st:aO}{lo n ok:Nat}{Q:Bool->aO->Prop}(hn:lo+n<=a₀.size)(hok:ok<=n)(B:TB κ a₀ st)(hs:Seg f (aJ st) lo ok)
  (h:∀aP,TB κ a₀ aP->Fr lo st aP->Seg f (aJ aP) lo n->Q true aP):iP (aH prog w) A E s (binarySort' lo n ok) Q st:=by
 rw[binarySort'_eq];refine a9<|iw (gh (I:=λk c aP=>c=(none,())/\TB κ a₀ aP/\Fr lo st aP/\Seg f (aJ aP) lo (iQ k n)) (Q:=λc aP=>c=(none,())/\TB κ a₀ aP/\Fr lo st aP/\Seg f (aJ aP) lo n) ?step ?fin ?init) ?post
 case post=>
  intro c aP cB;refine hid λCg cC=>?_;obtain⟨rfl,B',F',eF⟩:=cB;refine cC ?_;exact bi<|h aP B' F' eF
 case init=>
  refine⟨rfl,B,Fr.refl _ _,λi j hi cA hj=>?_⟩;by_cases h1:ok=0
  .obtain rfl:i=j:=by lia
   exact jt _
  .exact hs i j hi cA<|by lia
 case fin=>
  intro c aP cB;refine hid λCg cC=>?_;obtain⟨hc,B',F',eF⟩:=cB;refine cC ?_;refine⟨hc,B',F',?_⟩
  rwa [show iQ (qL (qL ok 1) n) n=n from Nat.min_eq_right<|Nat.le_max_right _ _]at eF
 case step=>
  intro k c aP hak jV cB;refine hid λCg cC=>?_;obtain⟨rfl,B',F',eF⟩:=cB;refine cC ?_;rw[show iQ k n=k from fb<|by lia]at eF;have hk:lo+k<a₀.size:=by lia
  refine a9 (iw (gh (I:=λx c cS=>cS=aP/\∃l r,c=(none,l,r)/\l<=r/\r<=k/\r-l<=k-x/\(∀i,i<l->Fk f (aJ aP) (lo+i)<=Fk f (aJ aP) (lo+k))/\∀i,r<=i->i<k->Fk f (aJ aP) (lo+k)<Fk f (aJ aP) (lo+i))
   (Q:=λc cS=>cS=aP/\∃l r,c=(none,l,r)/\l<=k/\(∀i,i<l->Fk f (aJ aP) (lo+i)<=Fk f (aJ aP) (lo+k))/\∀i,l<=i->i<k->Fk f (aJ aP) (lo+k)<Fk f (aJ aP) (lo+i)) ?istep ?ifin ?iinit) ?ipost)
  case iinit=>exact⟨rfl,(lc 0 k ⟨rfl,by lia,by lia,by lia,λi hi=>by lia,λi h1 h2=>by lia⟩)⟩
  case ifin=>
   intro c cS cB;refine hid λCg cC=>?_;obtain⟨rfl,l,r,rfl,hlr,F5,D0,wE,An⟩:=cB;refine cC ?_;obtain rfl:l=r:=by lia
   exact⟨rfl,(lc l l ⟨rfl,F5,wE,An⟩)⟩
  case istep=>
   intro x c cS _ hxk cB;refine hid λCg cC=>?_;obtain⟨rfl,l,r,rfl,hlr,F5,D0,wE,An⟩:=cB;refine cC ?_;dsimp only;refine mh (λ(mF:l>=r)=>?_) λ(mF:¬(l>=r))=>?_
   .obtain rfl:l=r:=by lia
    exact bi ⟨rfl,(lc l l ⟨rfl,F5,wE,An⟩)⟩
   .refine a9<|C7 C hm B' hk (by lia) ?_;by_cases hl:Fk f (aJ cS) (lo+k)<Fk f (aJ cS) (lo+(l+r)/2)
    .simp only[hl,decide_true,if_true];refine bi ⟨rfl,(lc l ((l+r)/2) ⟨rfl,by lia,by lia,by lia,wE,λi h1 h2=>?_⟩)⟩;have:=eF (lo+(l+r)/2) (lo+i) (by lia) (by lia) (by lia);lia
    .simp only[hl,decide_false,a0,if_false];refine bi ⟨rfl,(lc ((l+r)/2+1) r ⟨rfl,by lia,by lia,by lia,λi h1=>?_,An⟩)⟩;have:=eF (lo+i) (lo+(l+r)/2) (by lia) (by lia) (by lia);lia
  case ipost=>
   intro c cS cB;refine hid λCg cC=>?_;obtain⟨rfl,l,r,rfl,hlk,wE,An⟩:=cB;refine cC ?_;show iP _ _ _ _ (do moveDown' (lo+k) (lo+l);aT (ForInStep.yield (none,()))) _ _;rw[moveDown'_eq];have yL:lo+k<(aJ cS).size:=by rw[B'.size];exact hk
   refine a9<|cI<|bi ⟨rfl,B'.set<|bubble_perm _ _ _,F'.trans<|Fr.bub yL (by lia)<|by lia,?_⟩;rw[show iQ (k+1) n=k+1 from fb<|by lia];intro i j hi cA hj;show Fk f (Av (aJ cS) (lo+k)<|lo+k-(lo+l)) i<=Fk f (Av (aJ cS) (lo+k)<|lo+k-(lo+l)) j;rw[aqg yL (by lia),aqg yL<|by lia,show lo+k-(lo+k-(lo+l))=lo+l by lia];have Gw:∀i,lo<=i->i<lo+l->Fk f (aJ cS) i<=Fk f (aJ cS) (lo+k):=λi a1 a2=>by
    have:=wE (i-lo) (by lia)
    rwa [show lo+(i-lo)=i by lia]at this
   have GE:∀i,lo+l<=i->i<lo+k->Fk f (aJ cS) (lo+k)<Fk f (aJ cS) i:=λi a1 a2=>by
    have:=An (i-lo) (by lia) (by lia)
    rwa [show lo+(i-lo)=i by lia]at this
   repeat' split
   all_goals first
    | (exfalso;lia)
    | exact jt _
    | exact Gw _ (by lia) (by lia)
    | exact Int.le_of_lt (GE _ (by lia)<|by lia)
    | exact eF _ _ (by lia) (by lia)<|by lia
end
noncomputable def sr(arr:Array aI)(l:U (aI×Nat))(sa:Nat):Array aI:=l.foldl (λa q=>a.setIfInBounds (sa+q.2) q.1) arr
theorem sj(sa:Nat):∀(l:U aI)(o:Nat)(arr:Array aI),sa+o+l.length<=arr.size->∀k,(sr arr (l.zipIdx o) sa)[k]?=if sa+o<=k/\k<sa+o+l.length then l[k-(sa+o)]? else arr[k]?
 | [],o,arr,h,k=>by show arr[k]?=_;rw[if_neg (by show ¬(sa+o<=k/\k<sa+o+0);lia)]
 | x::l,o,arr,h,k=>by
  have h':sa+o+(l.length+1)<=arr.size:=by simpa using h
  show(sr (arr.setIfInBounds (sa+o) x) (l.zipIdx<|o+1) sa)[k]?=_;rw[sj sa l (o+1) _ (by simp;lia) k];by_cases hk:k=sa+o
  .rw[if_neg (by lia),if_pos<|by simp;lia,hk];simp[Array.getElem?_setIfInBounds];lia
  .by_cases h2:sa+(o+1)<=k/\k<sa+(o+1)+l.length
   .rw[if_pos h2,if_pos<|by simp;lia];obtain⟨d,hd⟩:∃d,k-(sa+o)=d+1:=⟨k-(sa+o)-1,by lia⟩;rw[hd,List.getElem?_cons_succ]
    congr 1
    lia
   .rw[if_neg h2,if_neg<|by simp;lia,Array.getElem?_setIfInBounds_ne<|by lia]
def agj{arr:Array aI}{l:U aI}{sa:Nat}(h:sa+l.length<=arr.size):(sr arr l.zipIdx sa).toList=arr.toList.take sa++l++arr.toList.drop (sa+l.length):=by
 apply List.ext_getElem?;intro k;have e:=sj sa l 0 arr (by lia) k;rw[bh,e];have hs:arr.toList.length=arr.size:=by simp
 by_cases h1:k<sa
 .rw[if_neg (by lia),b9,cq<|by simp;lia,de h1,bh]
 .by_cases h2:k<sa+l.length
  .rw[if_pos (by lia),b9,bu<|by simp;lia,cq<|by simp;lia]
   congr 1
   simp;lia
  .rw[if_neg (by lia),bu<|by simp;lia,ff,bh]
   congr 1
   simp;lia
def afj{arr:Array aI}{l:U aI}{sa e:Nat}(he:sa<=e)(h:e<=arr.size)(hp:l.Perm (arr.extract sa e).toList):(sr arr l.zipIdx sa).Perm arr:=by
 have hl:l.length=e-sa:=by rw[hp.length_eq,aw,jh,fb h]
 rw[jf,agj<|by lia];have e2:arr.toList=arr.toList.take sa++(arr.extract sa e).toList++arr.toList.drop (sa+l.length):=by
  rw[hl,show sa+(e-sa)=e by lia];have:(arr.extract sa e).toList=(arr.toList.drop sa).take (e-sa):=by simp
  rw[this]
  conv=>lhs;rw[<-da sa arr.toList,<-da (e-sa) (arr.toList.drop sa),List.drop_drop,show sa+(e-sa)=e by lia]
  rw[b9]
 refine List.Perm.trans ?_<|List.Perm.of_eq e2.symm;exact(gw _ hp).append_right _
def af3{f:aI->Int}{arr:Array aI}{l:U aI}{sa e:Nat}(he:sa<=e)(h:e<=arr.size)(hp:l.Perm (arr.extract sa e).toList){k:Nat}(h1:sa<=k)(h2:k<e):∃q,sa<=q/\q<e/\Fk f (sr arr l.zipIdx sa) k=Fk f arr q:=by
 have hl:l.length=e-sa:=by rw[hp.length_eq,aw,jh,fb h]
 have e1:=sj sa l 0 arr (by lia) k;rw[if_pos (by lia)]at e1;have hk:k-(sa+0)<l.length:=by lia
 have hx:l[k-(sa+0)]∈(arr.extract sa e).toList:=hp.mem_iff.mp<|fk hk;obtain⟨q,hq⟩:=bq.mp hx;rw[bh]at hq;have nT:q<(arr.extract sa e).size:=(bg.mp hq).1;have DV:q<e-sa:=by rw[jh,fb h]at nT;exact nT
 rw[Array.getElem?_extract,if_pos<|by rw[fb h];exact DV]at hq;refine⟨sa+q,by lia,by lia,yg ?_⟩;rw[e1,hq,getElem?_pos l _ hk]
def ai6{f:aI->Int}{arr:Array aI}{l:U aI}{sa e:Nat}(he:sa<=e)(h:e<=arr.size)(hl:l.length=e-sa){k:Nat}(h1:k<sa\/e<=k):(sr arr l.zipIdx sa)[k]?=arr[k]?:=by rw[sj sa l 0 arr (by lia) k,if_neg<|by lia]
def aid{f:aI->Int}{arr:Array aI}{l:U aI}{sa e:Nat}(he:sa<=e)(h:e<=arr.size)(hl:l.length=e-sa)(hs:Srt (fl f) l):Seg f (sr arr l.zipIdx sa) sa (e-sa):=by
 intro i j hi cA hj;have e1:=sj sa l 0 arr (by lia) i;have e2:=sj sa l 0 arr (by lia) j;rw[if_pos (by lia)]at e1 e2;have jW:i-(sa+0)<l.length:=by lia
 have Am:j-(sa+0)<l.length:=by lia
 rw[getElem?_pos l _ jW]at e1;rw[getElem?_pos l _ Am]at e2;unfold Fk;rw[e1,e2];show f _<=f _;by_cases hq:i=j
 .subst hq;exact jt _
 .have:=eu.mp hs (i-(sa+0)) (j-(sa+0)) jW Am (by lia);simpa using this
section
variable{prog:aK}{w:aN}{A:Around}{E:aA->aB->Prop}{s:aB}
variable{κ:aU}{mem:aI->Prop}{f:aI->Int}{a₀:Array aI}
def avw{st aP:aO}{Q:PUnit->aO->Prop}(h:Q ⟨⟩ aP):iP (aH prog w) A E s (set aP:StateT aO oE PUnit) Q st:=by unfold iP;rw[StateT.run_set];exact ai ⟨rfl,h⟩
def vq{xs:Array aI}{i:Nat}{x:aI}(h:xs[i]?=some x):Fk f xs i=f x:=by unfold Fk;rw[h];rfl
def af5(C:lY prog w A s κ mem (fl f))(hm:∀x∈a₀.toList,mem x){st:aO}{i sa na pa sb nb pb:Nat}(B:TB κ a₀ st)(hi:(aL st)[i]?=some (sa,na,pa))(Ea:(aL st)[i+1]?=some (sb,nb,pb))(lL:sb=sa+na)(DZ:1<=na)(hnb:1<=nb)(hsz:sb+nb<=a₀.size)
  (sA:Seg f (aJ st) sa na) (sB:Seg f (aJ st) sb nb) {Q:Bool->aO->Prop}
  (h:∀aP,TB κ a₀ aP->aL aP=((aL st).setIfInBounds i (sa,na+nb,pa)).eraseIdxIfInBounds (i+1)->(∀k,k<sa\/sb+nb<=k->(aJ aP)[k]?=(aJ st)[k]?)->Seg f (aJ aP) sa (na+nb)->Q true aP) :
  iP (aH prog w) A E s (mergeAt' i) Q st:=by
 refine a9<|dQ ?_;rw[hi,Ea];dsimp only;refine a9<|avw ?_;have B1:TB κ a₀ (aO.mk' (kindOf st) (aJ st) (((aL st).setIfInBounds i (sa,na+nb,pa)).eraseIdxIfInBounds (i+1)) (nW st)<|bP st):=⟨B.perm,B.kind,B.failed⟩;have h1:=h _ B1 rfl;have h2:∀(g:Nat)(oX:Array aI),oX.Perm (aJ st)->(∀k,k<sa\/sb+nb<=k->oX[k]?=(aJ st)[k]?)->Seg f oX sa (na+nb)->Q true (aO.mk' (kindOf st) oX (((aL st).setIfInBounds i (sa,na+nb,pa)).eraseIdxIfInBounds (i+1)) g<|bP st):=
  λg oX hp ho hs=>h (aO.mk' (kindOf st) oX (((aL st).setIfInBounds i (sa,na+nb,pa)).eraseIdxIfInBounds (i+1)) g<|bP st) ⟨hp.trans B.perm,B.kind,B.failed⟩ rfl ho hs
 have nS:=B.size;show iP (aH prog w) A E s _ Q (aO.mk' (kindOf st) (aJ st) (((aL st).setIfInBounds i (sa,na+nb,pa)).eraseIdxIfInBounds (i+1)) (nW st)<|bP st);generalize Bo:aO.mk' (kindOf st) (aJ st) (((aL st).setIfInBounds i (sa,na+nb,pa)).eraseIdxIfInBounds (i+1)) (nW st) (bP st)=jM at B1 h1⊢;obtain⟨xb,exb,mxb,fxb⟩:=B.at (f:=f) hm (show sb<a₀.size by lia);have gR:∀i z,(aJ st)[i]?=some z->mem z:=λi z hz=>hm z<|(jf.mp B.perm).mem_iff.mp (by obtain⟨h1,h2⟩:=bg.mp hz;rw[<-h2];simp);have DP:aJ jM=aJ st:=by rw[<-Bo]
 refine a9<|oe exb<|a9<|xf (st:=jM) (base:=sa) (n:=na) (hint:=0) C (EO f) B1.kind mxb (by lia) (λi z hi hz=>gR _ z hz) (by lia) (λi j y z cA hj hy hz=>?_) λk jV g1 g2=>?_
 .have:=sA (sa+i) (sa+j) (by lia) (by lia) (by lia);rw[vq hy,vq hz]at this;simpa using this
 have g1':∀q,sa<=q->q<sa+k->Fk f (aJ st) q<=Fk f (aJ st) sb:=λq q1 q2=>by obtain⟨z,ez,_,fz⟩:=B.at (f:=f) hm (show q<a₀.size by lia);have:=g1 (q-sa) z (by lia) (by rw[show sa+(q-sa)=q by lia];exact ez);rw[<-fxb,<-fz];simpa using this
 dsimp only;refine mh (λ(iW:(na-k==0)=true)=>?_) λ(iW:¬(na-k==0)=true)=>?_
 .have D7:na-k=0:=by simpa using iW
  refine bi<|h1 (λq _=>by rw[DP]) ?_;rw[DP];intro i j hi cA hj;by_cases Am:j<sb
  .exact sA i j hi cA<|by lia
  .by_cases jW:i<sb
   .have a1:=g1' i hi (by lia);have a2:=sB sb j (aq _) (by lia) (by lia);lia
   .exact sB i j (by lia) cA<|by lia
 have D7:k<na:=by have:¬na-k=0:=by simpa using iW
                  lia
 obtain⟨xl,exl,mxl,fxl⟩:=B.at (f:=f) hm (show sb-1<a₀.size by lia);have Hi:(aJ st)[sa+k+(na-k)-1]?=some xl:=by rw[show sa+k+(na-k)-1=sb-1 by rw[Nat.add_assoc,Nat.add_sub_cancel'<|ck D7,<-lL]];exact exl
 refine a9<|oe Hi<|a9<|JI (st:=jM) (base:=sb) (n:=nb) (hint:=nb-1) C (EO f) B1.kind mxl (by lia) (λi z hi hz=>gR _ z hz) (by lia) (λi j y z cA hj hy hz=>?_) λn2 lP g3 g4=>?_
 .have:=sB (sb+i) (sb+j) (by lia) (by lia) (by lia);rw[vq hy,vq hz]at this;simpa using this
 have g4':∀q,sb+n2<=q->q<sb+nb->Fk f (aJ st) (sb-1)<=Fk f (aJ st) q:=λq q1 q2=>by obtain⟨z,ez,_,fz⟩:=B.at (f:=f) hm (show q<a₀.size by lia);have:=g4 (q-sb) z (by lia) (by lia) (by rw[show sb+(q-sb)=q by lia];exact ez);rw[<-fxl,<-fz];simpa using this
 dsimp only;refine mh (λ(BG:(n2==0)=true)=>?_) λ(BG:¬(n2==0)=true)=>?_
 .have jU:n2=0:=by simpa using BG
  refine bi<|h1 (λq _=>by rw[DP]) ?_;rw[DP];intro i j hi cA hj;by_cases Am:j<sb
  .exact sA i j hi cA<|by lia
  .by_cases jW:i<sb
   .have a1:=sA i (sb-1) hi (by lia) (by lia);have a2:=g4' j (by lia) (by lia);lia
   .exact sB i j (by lia) cA<|by lia
 have jU:1<=n2:=by have:¬n2=0:=by simpa using BG
                   lia
 have ga:∀q,((aJ st).extract (sa+k) sb)[q]?=if q<sb-(sa+k)then(aJ st)[sa+k+q]? else none:=λq=>by rw[Array.getElem?_extract];have:iQ sb (aJ st).size=sb:=fb (by lia);rw[this]
 have gb:∀q,((aJ st).extract sb (sb+n2))[q]?=if q<n2 then(aJ st)[sb+q]? else none:=λq=>by
  rw[Array.getElem?_extract];have:iQ (sb+n2) (aJ st).size-sb=n2:=by rw[fb (by lia)];exact Nat.add_sub_cancel_left _ _
  rw[this]
 have za:((aJ st).extract (sa+k) sb).size=sb-(sa+k):=by rw[jh,fb<|by lia]
 have zb:((aJ st).extract sb (sb+n2)).size=n2:=by rw[jh,fb<|by lia];exact Nat.add_sub_cancel_left _ _
 have inA:∀z∈((aJ st).extract (sa+k) sb).toList,∃q,sa+k<=q/\q<sb/\(aJ st)[q]?=some z:=λz hz=>by
  obtain⟨q,hq⟩:=bq.mp hz;rw[bh,ga]at hq;by_cases nT:q<sb-(sa+k)
  .rw[if_pos nT]at hq;exact⟨_,by lia,by lia,hq⟩
  .rw[if_neg nT]at hq;cases hq
 have inB:∀z∈((aJ st).extract sb (sb+n2)).toList,∃q,q<n2/\(aJ st)[sb+q]?=some z:=λz hz=>by
  obtain⟨q,hq⟩:=bq.mp hz;rw[bh,gb]at hq;by_cases nT:q<n2
  .rw[if_pos nT]at hq;exact⟨_,nT,hq⟩
  .rw[if_neg nT]at hq;cases hq
 have vL:∀(lo m:Nat),lo+m<=(aJ st).size->Seg f (aJ st) lo m->Srt (fl f) ((aJ st).extract lo (lo+m)).toList:=λlo m hlm hs=>by
  refine eu.mpr λi j hi hj cA=>?_;have zi:((aJ st).extract lo (lo+m)).toList.length=m:=by rw[aw,jh,fb hlm];exact Nat.add_sub_cancel_left _ _
  have:=hs (lo+i) (lo+j) (by lia) (by lia) (by lia);rw[vq (getElem?_pos (aJ st) (lo+i)<|by lia),vq<|getElem?_pos (aJ st) (lo+j)<|by lia]at this;simpa using this
 have T:Two mem (fl f) ((aJ st).extract (sa+k) sb) ((aJ st).extract sb (sb+n2)):=by
  refine⟨λz hz=>?_,λz hz=>?_,?_,vL sb n2 (by lia) λi j hi cA hj=>sB i j hi cA<|by lia,by lia,by lia,λx y hx hy=>?_,λy hy x hx=>?_⟩
  .obtain⟨q,_,_,hq⟩:=inA z hz;exact gR q z hq
  .obtain⟨q,_,hq⟩:=inB z hz;exact gR _ z hq
  .have:=vL (sa+k) (na-k) (by lia) λi j hi cA hj=>sA i j (by lia) cA (by lia)
   rwa [show sa+k+(na-k)=sb by rw[Nat.add_assoc,Nat.add_sub_cancel'<|ck D7,<-lL]]at this
  .rw[gb,if_pos<|by lia]at hx;rw[ga,if_pos<|by lia]at hy;have e0:x=xb:=by rw[Nat.add_zero,exb]at hx;exact(ca hx).symm
   rw[e0];exact g2 k y (aq _) D7<|by simpa using hy
  .obtain⟨q,xW,hq⟩:=inB y hy;rw[za,ga,if_pos<|by lia,show sa+k+(sb-(sa+k)-1)=sb-1 by rw[<-Nat.add_sub_assoc (by lia),Nat.add_sub_cancel'<|by lia],exl]at hx;rw[<-ca hx];exact g3 q y xW hq
 have gE:((aJ st).extract (sa+k) sb).toList++((aJ st).extract sb (sb+n2)).toList=((aJ st).extract (sa+k) (sb+n2)).toList:=by
  rw[<-Array.toList_append,Array.extract_append_extract]
  congr 2<;>lia
 have fin:∀(out:Array aI)(aP:aO),SameG jM aP->ox (fl f) ((aJ st).extract (sa+k) sb).toList ((aJ st).extract sb (sb+n2)).toList out.toList->Q true (jC aP<|sr (aJ aP) out.toList.zipIdx<|sa+k):=by
  intro out aP G M;have hp:out.toList.Perm ((aJ st).extract (sa+k) (sb+n2)).toList:=by rw[<-gE];exact M.1
  have hl:out.toList.length=sb+n2-(sa+k):=by rw[hp.length_eq,aw,jh,fb<|by lia]
  have e1:jC aP (sr (aJ aP) out.toList.zipIdx<|sa+k)=aO.mk' (kindOf st) (sr (aJ st) out.toList.zipIdx<|sa+k) (((aL st).setIfInBounds i (sa,na+nb,pa)).eraseIdxIfInBounds (i+1)) (nW aP) (bP st):=by show aO.mk' (kindOf aP) (sr (aJ aP) _ _) (aL aP) (nW aP) (bP aP)=_;rw[G.1,G.2.1,G.2.2.1,G.2.2.2,<-Bo]
  rw[e1];have sM:=aid (f:=f) (arr:=aJ st) (show sa+k<=sb+n2 by lia) (by lia) hl M.2;have wR:∀q,sa+k<=q->q<sb+n2->∃p,sa+k<=p/\p<sb+n2/\Fk f (sr (aJ st) out.toList.zipIdx<|sa+k) q=Fk f (aJ st) p:=λq q1 q2=>af3 (f:=f) (show sa+k<=sb+n2 by lia) (by lia) hp q1 q2;have cZ:∀q,q<sa+k\/sb+n2<=q->(sr (aJ st) out.toList.zipIdx<|sa+k)[q]?=(aJ st)[q]?:=λq hq=>ai6 (f:=f) (show sa+k<=sb+n2 by lia) (by lia) hl hq;refine h2 _ _ (afj (show sa+k<=sb+n2 by lia) (by lia) hp) (λq hq=>cZ q<|by lia) ?_;have qM:∀i p,sa<=i->i<sa+k->sa+k<=p->p<sb+nb->Fk f (aJ st) i<=Fk f (aJ st) p:=λi p i1 i2 p1 p2=>by
   by_cases oK:p<sb
   .exact sA i p i1 (by lia)<|by lia
   .have a1:=g1' i i1 i2;have a2:=sB sb p (aq _) (by lia) (by lia);lia
  have BQ:∀p j,sa<=p->p<sb+n2->sb+n2<=j->j<sb+nb->Fk f (aJ st) p<=Fk f (aJ st) j:=λp j p1 p2 j1 j2=>by
   by_cases oK:p<sb
   .have a1:=sA p (sb-1) p1 (by lia) (by lia);have a2:=g4' j j1 j2;lia
   .exact sB p j (by lia) (by lia)<|by lia
  intro i j hi cA hj;by_cases jW:i<sa+k
  .rw[yg (f:=f) (cZ i<|.inl jW)];by_cases Am:j<sa+k
   .rw[yg (f:=f) (cZ j<|.inl Am)];exact sA i j hi cA<|by lia
   .by_cases hj3:j<sb+n2
    .obtain⟨p,p1,p2,ep⟩:=wR j (by lia) hj3;rw[ep];exact qM i p hi jW p1<|by lia
    .rw[yg (f:=f) (cZ j<|.inr<|by lia)];exact qM i j hi jW (by lia)<|by lia
  .by_cases hi3:i<sb+n2
   .by_cases hj3:j<sb+n2
    .exact sM i j (by lia) cA<|by lia
    .obtain⟨p,p1,p2,ep⟩:=wR i (by lia) hi3;rw[ep,yg (f:=f)<|cZ j<|.inr<|by lia];exact BQ p j (by lia) p2 (by lia)<|by lia
   .rw[yg (f:=f) (cZ i<|.inr<|by lia),yg (f:=f)<|cZ j<|.inr<|by lia];exact sB i j (by lia) cA<|by lia
 have done:∀(out:Array aI)(aP:aO),SameG jM aP->ox (fl f) ((aJ st).extract (sa+k) sb).toList ((aJ st).extract sb (sb+n2)).toList out.toList->
   iP (aH prog w) A E s (do
    modify λz=>jC z<|sr (aJ z) out.toList.zipIdx<|sa+k
    let z <-get
    aT (bP z).isNone) Q aP:=by
  intro out aP G M;refine a9<|cI<|a9<|dQ<|bi ?_;have e:(bP<|jC aP<|sr (aJ aP) out.toList.zipIdx<|sa+k).isNone=true:=by show(bP aP).isNone=true;rw[G.2.2.2,B1.failed];rfl
  rw[e];exact fin out aP G M
 refine mh (λ(uR:na-k<=n2)=>?_) λ(uR:¬(na-k<=n2))=>?_
 .exact a9<|af6 C (EO f) B1.kind T done
 .exact a9<|afo C (EO f) B1.kind T done
end
def sI:Nat->U (Nat×Nat×Nat)->Nat->Prop
 | a,[],b=>a=b
 | a,e::r,b=>e.1=a/\1<=e.2.1/\sI (a+e.2.1) r b
theorem tile_app:∀{l1 l2:U (Nat×Nat×Nat)} {a b:Nat},sI a (l1++l2) b↔∃c,sI a l1 c/\sI c l2 b
 | [],l2,a,b=>⟨λh=>⟨a,rfl,h⟩,λ⟨c,h1,h2⟩=>by cases h1;exact h2⟩
 | e::r,l2,a,b=>⟨λh=>by obtain⟨c,h1,h2⟩:=tile_app.mp h.2.2;exact⟨c,⟨h.1,h.2.1,h1⟩,h2⟩,λ⟨c,h1,h2⟩=>⟨h1.1,h1.2.1,tile_app.mpr ⟨c,h1.2.2,h2⟩⟩⟩
theorem zz:∀{l:U (Nat×Nat×Nat)} {a b:Nat},sI a l b->a+l.length<=b
 | [],a,b,h=>by cases h;exact aq _
 | e::r,a,b,h=>by have:=zz h.2.2;have:=h.2.1;simp only[bj];lia
theorem zt:∀{l:U (Nat×Nat×Nat)} {a b:Nat},sI a l b->∀e∈l,a<=e.1/\e.1+e.2.1<=b
 | [],a,b,h,e,he=>by simp at he
 | d::r,a,b,h,e,he=>by
  have l:=zz h.2.2;have:=h.1;have:=h.2.1;rcases ar.mp he with rfl|he
  .lia
  .have:=zt h.2.2 e he;lia
noncomputable abbrev prT(e:Nat×Nat×Nat):Nat×Nat:=(e.1,e.2.1)
theorem adk:∀{l l':U (Nat×Nat×Nat)} {a b:Nat},l'.map prT=l.map prT->sI a l b->sI a l' b
 | [],[],a,b,_,h=>h
 | [],e::r,a,b,q,h=>by simp at q
 | d::r,[],a,b,q,h=>by simp at q
 | d::r,e::r',a,b,q,h=>by rw[dg,dg]at q;obtain⟨q1,q2⟩:=List.cons.inj q;obtain⟨e1,e2⟩:e.1=d.1/\e.2.1=d.2.1:=Prod.mk.inj q1;refine⟨e1.trans h.1,by rw[e2];exact h.2.1,?_⟩;rw[e2];exact adk q2 h.2.2
def aek(p:Array (Nat×Nat×Nat))(k w:Nat):(p.modify k λx=>(x.fst,x.2.fst,w)).toList.map prT=p.toList.map prT:=by
 apply List.ext_getElem?;intro i;rw[a8,a8,bh,bh,Array.getElem?_modify];split
 .cases p[i]?<;>rfl
 .rfl
structure PInv(f:aI->Int)(κ:aU)(a₀:Array aI)(lo:Nat)(st:aO):Prop where
 base:TB κ a₀ st
 tile:sI 0 (aL st).toList lo
 segs:∀e∈(aL st).toList,Seg f (aJ st) e.1 e.2.1
 top:lo<=a₀.size
def yh{f:aI->Int}{xs ys:Array aI}{lo n:Nat}(h:Seg f xs lo n)(e:∀k,lo<=k->k<lo+n->ys[k]?=xs[k]?):Seg f ys lo n:=λi j hi cA hj=>by rw[yg (f:=f) (e i hi<|by lia),yg (f:=f)<|e j (by lia) hj];exact h i j hi cA hj
section
variable{κ:aU}{f:aI->Int}{a₀:Array aI}{lo:Nat}{st aP:aO}
def PInv.frame(P:PInv f κ a₀ lo st)(B:TB κ a₀ aP)(F:Fr lo st aP):PInv f κ a₀ lo aP:=by refine⟨B,by rw[F.pend];exact P.tile,λe he=>?_,P.top⟩;rw[F.pend]at he;have:=zt P.tile e he;exact yh (P.segs e he) λk h1 h2=>F.low k<|by lia
def PInv.like(P:PInv f κ a₀ lo st){p:Array (Nat×Nat×Nat)}(h:p.toList.map prT=(aL st).toList.map prT):PInv f κ a₀ lo (setPending st p):=by
 refine⟨⟨P.base.perm,P.base.kind,P.base.failed⟩,adk h P.tile,λe he=>?_,P.top⟩;have h1:prT e∈(aL st).toList.map prT:=by rw[<-h];exact a7.mpr ⟨e,he,rfl⟩
 obtain⟨d,hd,ed⟩:=a7.mp h1;obtain⟨e1,e2⟩:d.1=e.1/\d.2.1=e.2.1:=Prod.mk.inj ed;have:=P.segs d hd;rw[e1,e2]at this;exact this
theorem PInv.push(P:PInv f κ a₀ lo st){n w:Nat}(h1:1<=n)(ht:lo+n<=a₀.size)(hs:Seg f (aJ st) lo n):PInv f κ a₀ (lo+n) (setPending st<|(aL st).push (lo,n,w)):=by
 refine⟨⟨P.base.perm,P.base.kind,P.base.failed⟩,?_,λe he=>?_,ht⟩
 .show sI 0 ((aL st).push (lo,n,w)).toList (lo+n);rw[Array.toList_push];exact tile_app.mpr ⟨lo,P.tile,rfl,h1,rfl⟩
 .have jF:e∈((aL st).push (lo,n,w)).toList:=he;rw[Array.toList_push]at jF;rcases bm.mp jF with h|h
  .exact P.segs e h
  .rw[ay.mp h];exact hs
end
section
variable{prog:aK}{w:aN}{A:Around}{E:aA->aB->Prop}{s:aB}
variable{κ:aU}{mem:aI->Prop}{f:aI->Int}{a₀:Array aI}
def zc(C:lY prog w A s κ mem (fl f))(hm:∀x∈a₀.toList,mem x){st:aO}{i lo:Nat}(P:PInv f κ a₀ lo st)(hi:i+1<(aL st).size){Q:Bool->aO->Prop}
  (h:∀aP,PInv f κ a₀ lo aP->(aL aP).size+1=(aL st).size->(∀k,lo<=k->(aJ aP)[k]?=(aJ st)[k]?)->Q true aP):iP (aH prog w) A E s (mergeAt' i) Q st:=by
 obtain⟨⟨sa,na,pa⟩,e1⟩:∃e,(aL st)[i]?=some e:=⟨_,getElem?_pos _ i<|by lia⟩;obtain⟨⟨sb,nb,pb⟩,e2⟩:∃e,(aL st)[i+1]?=some e:=⟨_,getElem?_pos _ (i+1) hi⟩;obtain⟨l1,l2,hl,aX⟩:∃l1 l2,(aL st).toList=l1++(sa,na,pa)::(sb,nb,pb)::l2/\l1.length=i:=by
  refine(lc ((aL st).toList.take i) ((aL st).toList.drop (i+2)) ⟨?_,by simp;lia⟩);have hi0:i<(aL st).toList.length:=by simp;lia
  have Ea:i+1<(aL st).toList.length:=by simp;lia
  conv=>lhs;rw[<-da i (aL st).toList,List.drop_eq_getElem_cons hi0,List.drop_eq_getElem_cons Ea]
  have a1:(aL st).toList[i]=(sa,na,pa):=by have:=e1;rw[<-bh,getElem?_pos _ i hi0]at this;exact ca this
  have a2:(aL st).toList[i+1]=(sb,nb,pb):=by have:=e2;rw[<-bh,getElem?_pos _ (i+1) Ea]at this;exact ca this
  rw[a1,a2]
 have ht:=P.tile;rw[hl]at ht;obtain⟨c,t1,t2⟩:=tile_app.mp ht;obtain⟨h1,h2,h3,h4,t3⟩:=t2;dsimp only at h1 h2 h3 h4 t3;have hlast:=zz t3;have sA:=P.segs (sa,na,pa) (by rw[hl];simp);have sB:=P.segs (sb,nb,pb) (by rw[hl];simp);have top:=P.top;refine af5 C hm P.base e1 e2 (by lia) h2 h4 (by lia) sA sB λaP B' hp ho hs=>h aP ?_ ?_ λk hk=>ho k<|.inr<|by lia
 .have oK:(aL aP).toList=l1++(sa,na+nb,pa)::l2:=by
   rw[hp,Array.toList_eraseIdxIfInBounds,Array.toList_setIfInBounds,hl];rw[List.set_append_right _ _ (by lia),aX,jq,List.set_cons_zero,List.eraseIdx_append_of_length_le<|by lia,aX,show i+1-i=1 by lia];rfl
  refine⟨B',?_,λe he=>?_,top⟩
  .rw[oK];refine tile_app.mpr ⟨c,t1,h1,by show 1<=na+nb;lia,?_⟩;show sI (c+(na+nb)) l2 lo;rw[show c+(na+nb)=c+na+nb by lia];exact t3
  .rw[oK]at he;rcases bm.mp he with q|q
   .have a1:=zt t1 e q;exact yh (P.segs e<|by rw[hl];exact f9 _ q) λk k1 k2=>ho k<|.inl<|by lia
   .rcases ar.mp q with q|q
    .rw[q];exact hs
    .have a1:=zt t3 e q;exact yh (P.segs e<|by rw[hl];simp[q]) λk k1 k2=>ho k<|.inr<|by lia
 .have:=congrArg List.length (show(aL aP).toList=l1++(sa,na+nb,pa)::l2 by
   rw[hp,Array.toList_eraseIdxIfInBounds,Array.toList_setIfInBounds,hl];rw[List.set_append_right _ _ (by lia),aX,jq,List.set_cons_zero,List.eraseIdx_append_of_length_le<|by lia,aX,show i+1-i=1 by lia];rfl)
  have q:=congrArg List.length hl;simp at this q;lia
theorem afv(C:lY prog w A s κ mem (fl f))(hm:∀x∈a₀.toList,mem x){st:aO}(B:TB κ a₀ st)(h0:aL st=#[]){Q:Unit->aO->Prop}
  (h:∀aP,TB κ a₀ aP->Seg f (aJ aP) 0 a₀.size->Q () aP):iP (aH prog w) A E s sortRuns' Q st:=by
 rw[sortRuns'_eq];refine a9<|dQ ?_;dsimp only;simp only[B.size];refine a9<|iw (gh (I:=λx c aP=>∃lo,c=(none,lo)/\x<=lo/\PInv f κ a₀ lo aP) (Q:=λc aP=>c=(none,a₀.size)/\PInv f κ a₀ a₀.size aP) ?step ?fin ?init) ?post
 case init=>exact⟨0,rfl,aq _,B,by rw[h0];rfl,λe he=>by rw[h0]at he;simp at he,c8 _⟩
 case fin=>
  intro c aP cB;refine hid λCg cC=>?_;obtain⟨lo,rfl,hx,P⟩:=cB;refine cC ?_;have:=P.top;obtain rfl:lo=a₀.size:=by lia
  exact⟨rfl,P⟩
 case step=>
  intro x c aP _ hx cB;refine hid λCg cC=>?_;obtain⟨lo,rfl,wE,P⟩:=cB;refine cC ?_;dsimp only;have top:=P.top;refine mh (λ(mF:lo>=a₀.size)=>?_) λ(mF:¬(lo>=a₀.size))=>?_
  .obtain rfl:lo=a₀.size:=by lia
   exact bi ⟨rfl,P⟩
  refine a9<|asw C hm (by lia) (by lia) P.base λn eY B2 F2 n1 n2 s2=>?_;dsimp only;refine mh (λ(Gq:n<mN a₀.size a₀.size 0)=>?_) λ(Gq:¬(n<mN a₀.size a₀.size 0))=>?_
  .refine a9<|gX<|cJ ⟨rfl,?_⟩;refine a9<|ar7 C hm (by lia) (by lia) B2 s2 λeU B3 F3 s3=>?_;rw[if_neg (by simp)];have f1:1<=(iQ (a₀.size-lo)<|mN a₀.size a₀.size 0):=by lia
   have P3:PInv f κ a₀ lo eU:=P.frame B3<|F2.trans F3;refine a9<|dQ ?_;cases hb:(aL eU).back? with
   | none=>
    dsimp only;exact a9 (cI<|bi ⟨_,rfl,by lia,P3.push f1 (by lia) s3⟩)
   | some e=>
    obtain⟨s1,m1,w1⟩:=e;dsimp only;refine a9<|iw (gh (I:=λ_ c b0=>c=(none,())/\PInv f κ a₀ lo b0/\Seg f (aJ b0) lo (iQ (a₀.size-lo)<|mN a₀.size a₀.size 0)) (Q:=λc b0=>c=(none,())/\PInv f κ a₀ lo b0/\Seg f (aJ b0) lo (iQ (a₀.size-lo)<|mN a₀.size a₀.size 0)) ?_ (λ_ _ hh=>hh) ⟨rfl,P3,s3⟩) ?_
    .rintro y c b0 _ hy ⟨rfl,P4,s4⟩;refine a9<|dQ ?_;by_cases h2:(aL b0).size>1
     .rw[if_pos h2,getElem?_pos (aL b0) ((aL b0).size-2)<|by lia];dsimp only;split
      .exact bi ⟨rfl,P4,s4⟩
      .refine a9<|zc C hm P4 (by lia) λhG P5 _ ho=>?_;rw[if_neg (by simp)];exact bi ⟨rfl,P5,yh s4 λk k1 _=>ho k k1⟩
     .rw[if_neg h2];exact bi ⟨rfl,P4,s4⟩
    .rintro c b0 ⟨rfl,P4,s4⟩;dsimp only;refine a9<|cI ?_;have P5:=P4.like (p:=(aL b0).modify ((aL b0).size-1) λx=>(x.fst,x.2.fst,power' a₀.size (2*s1+m1) (2*s1+m1+m1+(iQ (a₀.size-lo)<|mN a₀.size a₀.size 0)) a₀.size))<|aek _ _ _;exact a9<|cI<|bi ⟨_,rfl,by lia,P5.push f1 (by lia) s4⟩
  .have P3:PInv f κ a₀ lo eY:=P.frame B2 F2;refine a9<|dQ ?_;cases hb:(aL eY).back? with
   | none=>
    dsimp only;exact a9 (cI<|bi ⟨_,rfl,by lia,P3.push n1 (by lia) s2⟩)
   | some e=>
    obtain⟨s1,m1,w1⟩:=e;dsimp only;refine a9<|iw (gh (I:=λ_ c b0=>c=(none,())/\PInv f κ a₀ lo b0/\Seg f (aJ b0) lo n) (Q:=λc b0=>c=(none,())/\PInv f κ a₀ lo b0/\Seg f (aJ b0) lo n) ?_ (λ_ _ hh=>hh) ⟨rfl,P3,s2⟩) ?_
    .rintro y c b0 _ hy ⟨rfl,P4,s4⟩;refine a9<|dQ ?_;by_cases h2:(aL b0).size>1
     .rw[if_pos h2,getElem?_pos (aL b0) ((aL b0).size-2)<|by lia];dsimp only;split
      .exact bi ⟨rfl,P4,s4⟩
      .refine a9<|zc C hm P4 (by lia) λhG P5 _ ho=>?_;rw[if_neg (by simp)];exact bi ⟨rfl,P5,yh s4 λk k1 _=>ho k k1⟩
     .rw[if_neg h2];exact bi ⟨rfl,P4,s4⟩
    .rintro c b0 ⟨rfl,P4,s4⟩;dsimp only;refine a9<|cI ?_;have P5:=P4.like (p:=(aL b0).modify ((aL b0).size-1) λx=>(x.fst,x.2.fst,power' a₀.size (2*s1+m1) (2*s1+m1+m1+n) a₀.size))<|aek _ _ _;exact a9<|cI<|bi ⟨_,rfl,by lia,P5.push n1 (by lia) s4⟩
 case post=>
  rintro c aP ⟨rfl,P⟩;dsimp only;refine a9<|iw (gh (I:=λx c cS=>c=(none,())/\PInv f κ a₀ a₀.size cS/\(aL cS).size<=qL 1 (a₀.size-x)) (Q:=λc cS=>c=(none,())/\PInv f κ a₀ a₀.size cS/\(aL cS).size<=1) ?_ ?_ ?_) ?_
  .rintro x c cS _ hx ⟨rfl,P2,hsz⟩;refine a9<|dQ ?_;refine mh (λ(h1:(aL cS).size<=1)=>?_) λ(h1:¬((aL cS).size<=1))=>?_
   .exact bi ⟨rfl,P2,h1⟩
   .refine a9<|zc C hm P2 (by(repeat' split)<;>lia) λhG P5 hz _=>?_;rw[if_neg (by simp)];exact bi ⟨rfl,P5,by lia⟩
  .rintro c cS ⟨rfl,P2,hsz⟩;exact⟨rfl,P2,by lia⟩
  .refine⟨rfl,P,?_⟩;have:=zz P.tile;simp at this;lia
  .rintro c cS ⟨rfl,P2,hsz⟩;refine bi<|h cS P2.base ?_;have t:=P2.tile;have sg:=P2.segs;have hl:(aL cS).toList.length<=1:=by simpa using hsz
   match hq:(aL cS).toList,hl with
   | [],_=>
    rw[hq]at t;intro i j hi cA hj;have:0=a₀.size:=t;lia
   | [e],_=>
    rw[hq]at t sg;have a1:=t.1;have a2:0+e.2.1=a₀.size:=t.2.2;have a3:=sg e (by simp);rw[a1,show e.2.1=a₀.size by lia]at a3;exact a3
end
end L3
namespace L3
open PySem PySem.Spec PyProof.Rows L2
structure CZ where
 cl:U (Str×aE)
 C:aE
 s:aB
 H:Hp
 ex:U aE
noncomputable def mq(X:Cx)(N:U Str)(scope:cX)(z:CZ):Cx where
 prog:=X.prog
 w:=X.w
 K:=X.K
 mg:=X.mg
 base:=X.base
 A:=X.A
 N:=N
 s₀:=z.s
 H₀:=z.H
 env:=compEnvC scope z.cl z.C X.env
 outer:=X.stack
 stack:=X.stack
 ex:=z.ex
 calm:=X.calm
 fn:=λ_=>false
 pn:=[]
 xe:=λ_ _=>False
noncomputable def qe(cells:U (Str×aE)):U (Str×aS)->U (Str×aE)->U (Str×aE)
 | [],cs=>cs
 | (n,k)::r,cs=>if (k==aS.free)=true then(match cells.lookup n with|some c=>qe cells r ((n,c)::cs)|none=>qe cells r cs)else qe cells r cs
theorem xm{scope:cX}{env:sQ}(h:∀x∈scope.names,x.2=.free->∃c,env.cells.lookup x.1=some c):nY scope env=aT (qe env.cells scope.names []):=by
 have go:∀(l:U (Str×aS)) (cs:U (Str×aE)),(∀x∈l,x.2=.free->∃c,env.cells.lookup x.1=some c)->
   (wS l cs λ(x:Str×aS) (cs:U (Str×aE))=>if (x.2==aS.free)=true then do let a <-cellOf env x.1;aT (ForInStep.yield ((x.1,a)::cs))else aT (ForInStep.yield cs):oE (U<|Str×aE))=aT (qe env.cells l cs):=by
  intro l;induction l with
  | nil=>intro cs _;rfl
  | cons x r ih=>
   intro cs hx;obtain⟨n,k⟩:=x;rw[List.forIn_cons];have ih':=λcs=>ih cs λy hy=>hx y<|ao _ hy;unfold qe;dsimp only;by_cases hk:(k==aS.free)=true
   .obtain⟨c,hc⟩:=hx (n,k) am (by simpa using hk);rw[if_pos hk,if_pos hk];simp only at hc;simp only[cellOf,hc,pure_bind];exact ih' _
   .rw[if_neg hk,if_neg hk];simp only[pure_bind];exact ih' _
 unfold nY;have e:=go scope.names [] h;simp only[bind_pure]at e⊢;exact e
theorem xw{cells:U (Str×aE)}{x:Str}{c:aE}:∀{l:U (Str×aS)} {cs:U (Str×aE)},(qe cells l cs).lookup x=some c->cells.lookup x=some c\/cs.lookup x=some c
 | [],cs,h=>.inr h
 | (n,k)::r,cs,h=>by
  unfold qe at h;split at h
  .split at h
   .rename_i c0 e
    rcases xw h with q|q
    .exact .inl q
    .rw[iz]at q;split at q
     .rename_i hx
      have pN:x=n:=by simpa using hx
      cases q;rw[pN];exact .inl e
     .exact .inr q
   .exact xw h
  .exact xw h
theorem tw{cells:U (Str×aE)}{x:Str}:∀{l:U (Str×aS)} {cs:U (Str×aE)},(∃c,cs.lookup x=some c)->∃c,(qe cells l cs).lookup x=some c
 | [],cs,h=>h
 | (n,k)::r,cs,h=>by
  unfold qe;split
  .split
   .refine tw ?_;rw[iz];split
    .exact⟨_,rfl⟩
    .exact h
   .exact tw h
  .exact tw h
theorem v9{cells:U (Str×aE)}{x:Str}:∀{l:U (Str×aS)} {cs:U (Str×aE)},(x,aS.free)∈l->(∃c,cells.lookup x=some c)->∃c,(qe cells l cs).lookup x=some c
 | (n,k)::r,cs,hm,h=>by
  unfold qe;rcases ar.mp hm with e|hm
  .cases e;obtain⟨c,hc⟩:=h;rw[if_pos (show(aS.free==aS.free)=true from rfl),hc];refine tw ?_;rw[iz];simp
  .split
   .split
    .exact v9 hm h
    .exact v9 hm h
   .exact v9 hm h
def afb{scope:cX}{env:sQ}{x:Str}(tD:∀y∈scope.names,y.2≠.cell)(h:(relabel scope env).names.lookup x=some .cell\/(relabel scope env).names.lookup x=some .free):(x,aS.free)∈scope.names:=by
 rcases h with h|h
 .have hm:=ij h;obtain⟨⟨n,k⟩,hy,e⟩:=a7.mp hm;dsimp only at e;split at e
  .rename_i hc
   simp only[cy,beq_iff_eq]at hc;cases e;rw[hc.1.1]at hy;exact hy
  .cases e;exact absurd rfl<|tD _ hy
 .have hm:=ij h;obtain⟨⟨n,k⟩,hy,e⟩:=a7.mp hm;dsimp only at e;split at e
  .cases e
  .cases e;exact hy
theorem zj{env:sQ}:∀{names:U (Str×aS)} {x:Str},names.lookup x=some .free->
  ((names.map λ(n,k)=>if (k==aS.free&&env.scope.kind==.function&&env.kindOf n==some .cell)then(n,aS.cell)else(n,k)).lookup x=some .cell\/
   (names.map λ(n,k)=>if (k==aS.free&&env.scope.kind==.function&&env.kindOf n==some .cell)then(n,aS.cell)else(n,k)).lookup x=some .free)
 | [],_,h=>by simp at h
 | (n,k)::r,x,h=>by
  have ih:=@zj env r x;show(List.lookup x ((if (k==aS.free&&env.scope.kind==.function&&env.kindOf n==some .cell)=true then(n,aS.cell)else(n,k))::_)=_)\/(List.lookup x ((if (k==aS.free&&env.scope.kind==.function&&env.kindOf n==some .cell)=true then(n,aS.cell)else(n,k))::_)=_);cases hx:x==n with
  | true=>
   simp only[iz,hx]at h;cases h;by_cases hc:((aS.free:aS)==aS.free&&env.scope.kind==.function&&env.kindOf n==some .cell)=true
   .rw[if_pos hc];left;simp only[iz,hx]
   .rw[if_neg hc];right;simp only[iz,hx]
  | false=>
   simp only[iz,hx]at h;by_cases hc:(k==aS.free&&env.scope.kind==.function&&env.kindOf n==some .cell)=true
   .rw[if_pos hc];simp only[iz,hx];exact ih h
   .rw[if_neg hc];simp only[iz,hx];exact ih h
noncomputable def se(sl:U (Option Nat))(σ:L2.St):L2.St:=sl.map λo=>o.bind λj=>(σ[j]?).getD none
noncomputable def slOk(N N':U Str)(sl:U (Option Nat))(sc osc:cX):Bool:=
 sl.length==N'.length&&(List.zip N' sl).all λp=>match p.2 with
  | none=>true
  | some j=>N[j]?==some p.1&&sc.names.lookup p.1==some .free&&(osc.names.lookup p.1==some .cell||osc.names.lookup p.1==some .free)
def slOk.len{N N':U Str}{sl:U (Option Nat)}{sc osc:cX}(h:slOk N N' sl sc osc=true):sl.length=N'.length:=by unfold slOk at h;rw[cy]at h;simpa using h.1
theorem slOk.at{N N':U Str}{sl:U (Option Nat)}{sc osc:cX}(h:slOk N N' sl sc osc=true){k j:Nat}{x:Str}(h1:N'[k]?=some x)(h2:sl[k]?=some (some j)) :
  N[j]?=some x/\sc.names.lookup x=some .free/\(osc.names.lookup x=some .cell\/osc.names.lookup x=some .free):=by
 unfold slOk at h;rw[cy,bz]at h;have hm:(x,some j)∈List.zip N' sl:=by refine aj (i:=k) ?_;rw[List.getElem?_zip_eq_some];exact⟨h1,h2⟩
 have q:=h.2 _ hm;simp only[cy,Bool.or_eq_true,beq_iff_eq]at q;exact⟨q.1.1,q.1.2,q.2⟩
noncomputable def frOk(sc osc:cX):Bool:=sc.names.all λx=>!(x.2==.free)||(osc.names.lookup x.1==some .cell||osc.names.lookup x.1==some .free)
def frOk.of{sc osc:cX}(h:frOk sc osc=true):∀x∈sc.names,x.2=.free->osc.names.lookup x.1=some .cell\/osc.names.lookup x.1=some .free:=λx hx e=>by have q:=bz.mp h x hx;rw[e]at q;simp only[beq_self_eq_true,ig,Bool.false_or,Bool.or_eq_true,beq_iff_eq]at q;exact q
def Agree(σ σ':L2.St):Prop:=σ'.length=σ.length/\∀(i:Nat) v,σ[i]?=some (some v)->σ'[i]?=some (some v)
def Agree.refl(σ:L2.St):Agree σ σ:=⟨rfl,λ_ _ h=>h⟩
theorem Agree.set{σ σ':L2.St}(a:Agree σ σ'){i:Nat}{v:Option V}(h:σ[i]?=some none):Agree σ (σ'.set i v):=by
 refine⟨by rw[List.length_set];exact a.1,λj w e=>?_⟩;by_cases cA:i=j
 .subst cA;rw[h]at e;cases e
 .rw[List.getElem?_set_ne cA];exact a.2 j w e
section
variable{fs ex:U aE}{H H':Hp}{h h1 h2:Heap}{C:aE}
def Un.but(u:Un fs ex H H' h h1)(hC:h.get? C=none)(sb:∀b o,b≠C->h1.get? b=some o->h2.get? b=some o):Un fs ex H H' h h2 where
 keep:=λb o e n hb hx=>sb b o (by rintro rfl;rw[hC]at e;cases e) (u.keep b o e n hb hx)
 slot:=λb o e n hb hx=>by obtain⟨sl,q⟩:=u.slot b o e n hb hx;exact⟨sl,sb b _ (by rintro rfl;rw[hC]at e;cases e) q⟩
 free:=u.free
 there:=λb o e hx=>by obtain⟨o',q⟩:=u.there b o e hx;exact⟨o',sb b o' (by rintro rfl;rw[hC]at e;cases e) q⟩
 tups:=u.tups
 frzs:=u.frzs
 tbls:=u.tbls
def HOk.but{P:aK}{w:aN}(x:HOk P w H h1)(hC:H C=none)(sb:∀b o,b≠C->h1.get? b=some o->h2.get? b=some o):HOk P w H h2:=λa o e=>
 (x a o e).stay (λb u hc q=>sb b u (by
  rintro rfl;rcases hc with hc|hc
  .rw[<-hc,hC]at e;cases e
  .rw[hC]at hc;cases hc) q) (λ_ q=>q) λ_ _ q=>q
end
theorem ai7{X:Cx}{aC:U (aE×Obj)}{σ:L2.St}{H:Hp}{s:aB}(I:Inv X aC σ H s){scope:cX}{N':U Str}{sl:U (Option Nat)}{fp:U aE}{h₁:Heap}{m:Str->Option aA}{tk:Nat}
  (hk:scope.kind=.function) (tD:∀y∈scope.names,y.2≠.cell) (cG:∀x∈scope.names,x.2=.free->X.env.scope.names.lookup x.1=some .cell\/X.env.scope.names.lookup x.1=some .free)
  (mC:slOk X.N N' sl scope X.env.scope=true) (pP:∀b∈fp,mZ X aC H b) (cF:∀b∈fp,b<s.heap.objs.size)
  (iL:h₁.Ns s.heap.objs.size m) (h9:∀b o,s.heap.get? b=some o->h₁.get? b=some o) :
  Inv (mq X N' scope ⟨qe X.env.cells scope.names [],s.heap.objs.size,s,H,fp⟩) [] (se sl σ) H {s with heap:=h₁,toks:=tk}:=by
 have At:∀x c,(qe X.env.cells scope.names []).lookup x=some c->X.env.cells.lookup x=some c:=λx c e=>by
  rcases xw e with q|q
  .exact q
  .cases q
 have has:∀x,(x,aS.free)∈scope.names->∃c,(qe X.env.cells scope.names []).lookup x=some c:=λx hx=>
  v9 hx (I.ok.has x<|cG _ hx rfl)
 refine⟨⟨I.ok.mod,hk,I.ok.glob,I.ok.blt,aq _,λx y c h1 h2=>I.ok.inj x y c (At x c h1)<|At y c h2,λx hx=>has x<|afb tD hx,λx c hf _=>absurd hf ak,I.ok.hd,I.ok.frames,.inl rfl,
   λb hb=>⟨cj<|cF b hb,λx c e=>(pP b hb).2.2.2.2.1 x c (At x c e)⟩,I.bs,fg I.ok.bsz I.sz,λb o e hb=>?_,λb hb hz=>?_,I.stack,I.stkFree⟩,
  rfl,I.bare,Un.kept h9,⟨m,iL,λi x v h1 h2 _=>?_⟩,λx c e=>?_,I.hok.fresh<|aq _,λx c e=>I.freeC x c<|At x c e,λp hp=>absurd (show p∈([]:U (aE×Obj))from hp)<|by simp,I.hok.kept h9,?_⟩
 .rcases(pP b hb).2.2.2.1 with z|z
  .exact I.ok.noex b o e z
  .exact absurd (cu (be (I.ok.bs b o e).1) z)<|iq _
 .rcases ar.mp (I.stkSub b hz)with z|z
  .exact(pP b hb).2.1 z
  .exact(pP b hb).2.2.1 z
 .have jH:(se sl σ)[i]?=some (some v):=h2;unfold se at jH;rw[a8]at jH;cases q:sl[i]? with
  | none=>rw[q]at jH;cases jH
  | some o=>
   rw[q]at jH;cases o with
   | none=>cases jH
   | some j=>
    have e:(σ[j]?).getD none=some v:=by simpa using jH
    have e2:σ[j]?=some (some v):=by
     cases r:σ[j]? with
     | none=>rw[r]at e;cases e
     | some w=>rw[r]at e;simp at e;rw[e]
    obtain⟨a1,a2,a3⟩:=slOk.at mC h1 q;obtain⟨mo,_,hl⟩:=I.loc;obtain⟨u,r,l⟩:=hl j x v a1 e2<|.inr a3;refine⟨u,r,.inr ⟨zj a2,?_⟩⟩;have a4:X.env.kindOf x=some .cell\/X.env.kindOf x=some .free:=a3;rcases l with ⟨l,_⟩|⟨_,c,e3,z⟩
    .rcases a4 with a4|a4 <;> · rw[l]at a4;cases a4
    .obtain⟨c',e4⟩:=has x<|ij a2;have e5:=At x c' e4;rw[e3]at e5;cases e5;obtain⟨o,ho,hd⟩:=z;exact(mm c e4 o ⟨h9 _ _ ho,hd⟩)
 .obtain⟨v,o,ho,hd⟩:=I.cell x c<|At x c e;exact(lc v o ⟨h9 _ _ ho,hd⟩)
 .show(se sl σ).length=N'.length;unfold se;rw[ae];exact slOk.len mC
def PTs(X:Cx)(mP:U Expr)(t:TT):Prop:=
 ∀(aC:U (aE×Obj)) (s:aB) (σ:L2.St) (H:Hp) (Q:Bool->Hp->Prop),Inv X aC σ H s->t σ H Q->
  aG (aH X.prog X.w) X.A (wS mP true λc r=>if r=true then do let ok <-isTrue c X.env (cD c X.env);aT (ForInStep.yield ok)else aT (ForInStep.yield r)) (TP X aC σ Q) X.xe s
def uw:TT:=λ_ H Q=>Q true H
def ma{X:Cx}:PTs X [] uw:=λ_ _ _ H _ I h=>wpAny_tests_nil ⟨H,I,h⟩
def Dd{X:Cx}{c:Expr}{t:TT}(h:PT X c t):PTs X [c] t:=λaC s σ H Q I q=>wpAny_tests_one<|h aC s σ H Q I q
theorem ae5{prog:aK}{w:aN}{A:Around}{R:iF->aB->Prop}{s:aB}{mH bR iter:Expr}{mP:U Expr}{scope:cX}{pos:eB}{it eO:aA}{env:sQ}(I:Nat->aB->Prop)
  (mJ:∀n s,I n s->aG (aH prog w) A (bB it) (λr s₁=>match r with
   | none=>R (.ok .next) s₁
   | some v=>aG (aH prog w) A (gK bR it v) (λ_ s₂=>aG (aH prog w) A (jL bR env v) (λ_ s₃=>
     aG (aH prog w) A (wS mP true λc r=>if r=true then do let ok <-isTrue c env (cD c env);aT (ForInStep.yield ok)else aT (ForInStep.yield r)) (λok s₄=>
      if ok=true then aG (aH prog w) A (cD mH env) (λx s₅=>
       aG (aH prog w) A (call (.builtin "list.append") [eO,x]) (λ_ s₆=>∃m,m<n/\I m s₆) (λ_ _=>False) s₅) (λ_ _=>False) s₄
      else ∃m,m<n/\I m s₄) (λ_ _=>False) s₃) (λ_ _=>False) s₂) (λ_ _=>False) s₁) (λ_ _=>False) s)
  (n:Nat) (h:I n s) :
  bY (aH prog w) A (.compLoop (.ListComp mH [⟨bR,iter,mP,0⟩] scope pos) 0 it eO env) R s:=by
 refine codeAny_loop rfl I (λn s hI=>?_) n h;show aG _ A ((compTurn (.ListComp mH [⟨bR,iter,mP,0⟩] scope pos) 0 it eO env).onRaise (λx=>do noteFrame x env;theTreesLotGoes x)) _ _ s;refine wpAny_noted ?_;rw[compTurn_list];refine aa<|fH<|aa<|jg (mJ n s hI) (λr s₁ h₁=>?_) λ_ _ h'=>h'.elim;cases r with
 | none=>exact ai h₁
 | some v=>
  refine aa<|jg h₁ (λ_ s₂ h₂=>?_) λ_ _ h'=>h'.elim;refine aa<|jg h₂ (λ_ s₃ h₃=>aa<|jg h₃ (λok s₄ h₄=>?_) λ_ _ h'=>h'.elim) λ_ _ h'=>h'.elim;cases ok with
  | false=>exact ai ⟨rfl,h₄⟩
  | true=>
   exact aa<|aa<|jg h₄ (λx s₅ h₅=>aa<|jg h₅ (λ_ s₆ h₆=>ai<|ai ⟨rfl,h₆⟩) λ_ _ h'=>h'.elim) λ_ _ h'=>h'.elim
def tO(J:It)(sl:U (Option Nat))(g:TG)(tt:TT)(te:TE)(σ:L2.St)(H1:Hp)(D:aE)(Q:VK):Prop:=
 ∃W:Nat->Nat->Hp->Prop,(∃m,W 0 m<|upd H1 D<|.lst [])/\∀i m H,W i m H->(J.stop i H/\Q (.ref D) H)\/
  (J.go i H/\∃N:Hp->Prop,(∀H',N H'->∃m',m'<m/\W (i+1) m' H')/\∀x H',J.yld i H x H'->g x (se sl σ) H' λσ2 H2=>Agree (se sl σ) σ2/\tt σ2 H2 λb H3=>
   if b=true then te σ2 H3 λy H4=>∃xs,H4 D=some (.lst xs)/\xs.length<aF/\N (upd H4 D<|.lst<|xs++[y])else N H3)
def xB(wi:TI)(sl:U (Option Nat))(g:TG)(tt:TT)(te:TE):TE:=λσ H Q=>wi σ H λJ H1=>∀D,H1 D=none->tO J sl g tt te σ H1 D Q
section
variable{X:Cx}{mH bR iter:Expr}{mP:U Expr}{scope:cX}{pos:eB}
theorem aby{N':U Str}{sl:U (Option Nat)}{g:TG}{tt:TT}{te:TE}{aC:U (aE×Obj)}{s₂:aB}{σ:L2.St}{H2:Hp}{Q:VK}{RR:aA->aE->iF->aB->Prop}{E:aA->aB->Prop}
  {it:aE} {fp:U aE} {tn:Nat->Heap->Prop} {J:It} (hc:X.calm=true) (fR:scope.kind=.function)
  (tD:∀y∈scope.names,y.2≠.cell) (cG:∀x∈scope.names,x.2=.free->X.env.scope.names.lookup x.1=some .cell\/X.env.scope.names.lookup x.1=some .free)
  (mC:slOk X.N N' sl scope X.env.scope=true)
  (hg:∀z,PG (mq X N' scope z) bR g) (ht:∀z,PTs (mq X N' scope z) mP tt) (he:∀z,PE (mq X N' scope z) mH te)
  (I2:Inv X aC σ H2 s₂) (T:tL X.prog X.w X.K bR J fp it tn) (eY:tn 0 s₂.heap) (f2:∀b∈fp,mZ X aC H2 b) (hw:∀D,H2 D=none->tO J sl g tt te σ H2 D Q)
  (hR:∀D C H' s',H' C=none->(∃m,s'.heap.Ns C m)->mZ X aC H' C->(∀h',b7 C s'.heap h'->Inv X aC σ H' {s' with heap:=h'})->Inv X aC σ H' s'->Q (.ref D) H'->RR (.ref D) C (.ok .next) s') :
  aG (aH X.prog X.w) X.A (newList []) (λeO s₃=>aG (aH X.prog X.w) X.A (newFunctionEnv scope X.env.globals (qe X.env.cells scope.names []) [] X.env.qual none .none<|some X.env) (λcenv s₄=>
   bY (aH X.prog X.w) X.A (.compStart (.ListComp mH [⟨bR,iter,mP,0⟩] scope pos) 0 (.ref it) eO {cenv with scope:=relabel scope X.env}) (RR eO cenv.locals) s₄) E s₃) E s₂:=by
 have BJ:∀b∈fp,b<s₂.heap.objs.size:=λb hb=>by obtain⟨o,e,_⟩:=T.obj _ _ eY b hb;exact be e
 have hD:H2 s₂.heap.objs.size=none:=I2.hok.fresh<|aq _;obtain⟨W,⟨m0,w0⟩,mJ⟩:=hw _ hD;refine pG ?_<|c8 _;have I3:=I2.lnew (ys:=[]) (its:=[]) (t':=s₂.toks) .nil<|c8 _;refine wpAny_newFunctionEnv tD (by intro y hy;simp at hy) (λh₁ Ge FX=>?_) fR;generalize hs3:({s₂ with heap:=s₂.heap.push {cls:=.type "list",data:=.seq ([]:U aA).toArray}}:aB)=s₃ at *;have Bt:s₃.heap=s₂.heap.push {cls:=.type "list",data:=.seq ([]:U aA).toArray}:=by rw[<-hs3]
 have hC3:s₃.heap.objs.size=s₂.heap.objs.size+1:=by rw[Bt,jx]
 have xQ:∀b o,s₂.heap.get? b=some o->s₃.heap.get? b=some o:=λb o e=>by rw[Bt];exact ah _ e
 have vV:∀b o,s₃.heap.get? b=some o->h₁.get? b=some o:=λb o e=>FX.extBut b o (cj<|be e)<|ah _ e;have eG:∀b∈fp,b≠s₂.heap.objs.size:=λb hb=>cj<|BJ b hb;have f3:∀b∈fp,mZ X aC (upd H2 s₂.heap.objs.size<|.lst []) b:=λb hb=>⟨by rw[lg (eG b hb)];exact(f2 b hb).1,(f2 b hb).2⟩;have Gv:∀b∈fp,b<s₃.heap.objs.size:=λb hb=>by rw[hC3];exact Nat.lt_succ_of_lt<|BJ b hb
 have I4:=ai7 (tk:=s₃.toks+([]:U (Str×aA)).length) I3 fR tD cG mC f3 Gv Ge vV;have b0:tn 0 h₁:=T.keep _ _ _ eY λb _ o e=>vV b o<|xQ b o e;generalize hz:(⟨qe X.env.cells scope.names [],s₃.heap.objs.size,s₃,upd H2 s₂.heap.objs.size<|.lst [],fp⟩:CZ)=z at I4;have ezC:z.C=s₃.heap.objs.size:=by rw[<-hz]
 have ezx:z.ex=fp:=by rw[<-hz]
 have mL:∀{H':Hp},(∀b∈fp,H' b=none)->∀b∈fp,mZ (mq X _ scope z) [] H' b:=λhn b hb=>by subst hz;have q:=I4.ok.exf b hb;exact⟨hn b hb,q.1,I4.ok.exfs b hb,.inl hb,q.2,λp hp=>absurd (show p∈([]:U (aE×Obj))from hp)<|by simp⟩
 have loop:∀s₄:aB,s₄={s₃ with heap:=h₁,toks:=s₃.toks+([]:U (Str×aA)).length}->
   bY (aH X.prog X.w) X.A (.compLoop (.ListComp mH [⟨bR,iter,mP,0⟩] scope pos) 0 (.ref it) (.ref s₂.heap.objs.size) (mq X N' scope z).env) (RR (.ref s₂.heap.objs.size) s₃.heap.objs.size) s₄:=by
  rintro s₄ rfl;refine ae5 (λn s'=>∃i H',Inv (mq X N' scope z) [] (se sl σ) H' s'/\tn i s'.heap/\(∀b∈fp,H' b=none)/\W i n H') ?_ m0<|lc 0 _ ⟨I4,b0,λb hb=>(f3 b hb).1,w0⟩;rintro n s5 ⟨i,H5,I5,hG,Em,w5⟩;rcases mJ i n H5 w5 with ⟨stop,qn⟩|⟨go,N,hN,step⟩
  .refine thn (T.done (mq X N' scope z) rfl rfl rfl hc i [] s5 _ H5 _ I5 (mL Em) hG stop) λr s6 ⟨hr,I6⟩=>?_;subst hr;have un:Un (frs X.stack) fp (upd H2 s₂.heap.objs.size<|.lst []) H5 s₃.heap s6.heap:=by subst hz;exact I6.base
   have os6:s6.os=s₃.os:=by subst hz;exact I6.os
   have fC:H5 s₃.heap.objs.size=none:=by subst hz;exact I6.free
   have oS:∀b∈fp,(b∈X.ex\/X.s₀.heap.objs.size<=b)/\b≠X.env.locals/\(∀x c,X.env.cells.lookup x=some c->c≠b)/\∀p∈X.pn++aC,p.1≠b:=λb hb=>⟨(f2 b hb).2.2.2.1,(f2 b hb).2.1,(f2 b hb).2.2.2.2.1,(f2 b hb).2.2.2.2.2⟩;have nC:s₃.heap.get? s₃.heap.objs.size=none:=Heap.get?_none_of_le<|aq _;have ns:∃m,s6.heap.Ns s₃.heap.objs.size m:=by subst hz;obtain⟨m,hn,_⟩:=I6.loc;exact⟨m,hn⟩
   refine hR _ _ H5 s6 fC ns (I3.fpOk (aq _) fC) (λh' sb=>?_) (I3.call' (ch:=fp) os6 un I6.hok I6.bare oS) qn;exact I3.call' (s':={s6 with heap:=h'}) (ch:=fp) os6 (Un.but un nC sb.extBut) (HOk.but I6.hok fC sb.extBut) I6.bare oS
  .refine thn (T.item (mq X N' scope z) rfl rfl rfl hc i [] s5 _ H5 _ I5 (mL Em) hG go) λr s6 ⟨u,hr,h6⟩=>?_;subst hr;refine thn h6 λ_ s7 ⟨x,H7,I7,r7,y7,nI,fr7⟩=>?_;have I7':=I7.pinned (mL fr7)<|T.obj _ _ nI;refine thn (hg z _ s7 _ H7 x u _ I7' r7<|step x H7 y7) λ_ s8 ⟨σ8,H8,I8,ag,q8⟩=>?_;have again:∀{s9:aB} {H9:Hp},Inv (mq X N' scope z) ([]++CN fp s7.heap) σ8 H9 s9->N H9->∃m,m<n/\∃i H',Inv (mq X N' scope z) [] (se sl σ) H' s9/\tn i s9.heap/\(∀b∈fp,H' b=none)/\W i m H':=λ{s9 H9} I9 n9=>by
    obtain⟨m',hm,w9⟩:=hN H9 n9;refine(nk m' hm (i+1) H9 ⟨(I9.weak ag.1.symm ag.2).unpinned,T.keep _ _ _ nI λb hb o e=>(I9.pin (b,o)<|b8 _<|b8 _<|wg hb e).1,λb hb=>?_,w9⟩);obtain⟨o,e,d⟩:=T.obj _ _ nI b hb;exact(I9.pin (b,o)<|b8 _<|b8 _<|wg hb e).2.1
   refine thn (ht z _ s8 σ8 H8 _ I8 q8) λok s9 ⟨H9,I9,q9⟩=>?_;cases ok with
   | false=>exact again I9 q9
   | true=>
    refine thn (he z _ s9 σ8 H9 _ I9 q9) λE9 s10 ⟨y,J5,I10,Fw,xs,hx,Bf,nO⟩=>?_;exact thn (qk _ s10 σ8 J5 (.ref s₂.heap.objs.size) [y] (.ref s₂.heap.objs.size) [E9] (λ_ H'=>N H') I10 rfl (.cons Fw .nil)<|mf _ xs y ⟨rfl,rfl,hx,Bf,nO⟩) λ_ s11 ⟨_,H11,I11,_,n11⟩=>again I11 n11
 have Hq:(mq X N' scope z).env=compEnvC scope (qe X.env.cells scope.names []) s₃.heap.objs.size X.env:=by rw[<-hz];rfl
 rw[Hq]at loop;exact codeAny_compStart_list (loop _ rfl)<|T.self _ 0 _ _ _ b0<|loop _ rfl
def mr(N':U Str)(sl:U (Option Nat)){wi:TI}{g:TG}{tt:TT}{te:TE}(hc:X.calm=true)(fR:scope.kind=.function)
  (mR:∀x∈scope.names,x.2=.local->scope.names.lookup x.1=some .local)
  (tD:∀y∈scope.names,y.2≠.cell) (lQ:frOk scope X.env.scope=true)
  (mC:slOk X.N N' sl scope X.env.scope=true) (hi:PI X bR iter wi)
  (hg:∀z,PG (mq X N' scope z) bR g) (ht:∀z,PTs (mq X N' scope z) mP tt) (he:∀z,PE (mq X N' scope z) mH te)
  (hs:∀x,jY iter X.env x=aT x:=by intro _;rfl) :
  PE X (.ListComp mH [⟨bR,iter,mP,0⟩] scope pos) (xB wi sl g tt te):=by
 have cG:=frOk.of lQ;intro aC s σ H Q I h;rw[eval_ListComp];have lS:nY scope X.env=aT (qe X.env.cells scope.names []):=xm λx hx hk=>I.ok.has x.1<|cG x hx hk;refine pI (use:=none) rfl hs lS fR mR<|thn (hi aC s σ H _ I h) λxv s₁ h₁=>thn h₁ λDO s₂ h₂=>?_;obtain⟨it,fp,tn,J,H2,e,I2,T,eY,f2,hw⟩:=h₂;subst e;refine aby (RR:=λeO C=>compPost (aH X.prog X.w) X.A X.xe none (EP X aC σ Q) eO C) hc fR tD cG mC hg ht he I2 T eY f2 hw ?_;intro D C H' s' fC ns _ hI _ q;obtain⟨m,hn⟩:=ns;exact⟨m,hn,λh' sb=>(lc (.ref D) H' ⟨hI h' sb,rfl,q⟩)⟩
def sq(N':U Str)(sl:U (Option Nat)){wi:TI}{g:TG}{tt:TT}{te:TE}{i:Nat}{y:Str}{py AV:eB}(hN:X.N.Nodup)(hyi:X.N[i]?=some y)(hx:Loc X.env.scope y)
  (hsw:qB (.ListComp mH [⟨bR,iter,mP,0⟩] scope pos) (some<|.Name y py) AV.line X.env=aT true) (hc:X.calm=true) (fR:scope.kind=.function)
  (mR:∀x∈scope.names,x.2=.local->scope.names.lookup x.1=some .local)
  (tD:∀y∈scope.names,y.2≠.cell) (lQ:frOk scope X.env.scope=true)
  (mC:slOk X.N N' sl scope X.env.scope=true) (hi:PI X bR iter wi)
  (hg:∀z,PG (mq X N' scope z) bR g) (ht:∀z,PTs (mq X N' scope z) mP tt) (he:∀z,PE (mq X N' scope z) mH te)
  (hs:∀x,jY iter X.env x=aT x:=by intro _;rfl) (hf:X.fn y=true\/X.env.scope.names.lookup y=some .local:=by first|exact .inl rfl|exact .inr rfl|assumption) :
  PS X (.Assign [.Name y py] (.ListComp mH [⟨bR,iter,mP,0⟩] scope pos) AV) (HU (xB wi sl g tt te)<|ub i):=by
 have cG:=frOk.of lQ;intro aC s σ H D I h;rw[exec_Assign_Name_used _ _ _ _ hsw];refine aa<|fH<|aa ?_;show aG _ _ (do let _ <-comprehension (.ListComp mH [⟨bR,iter,mP,0⟩] scope pos) scope X.env _ (newList []) false (cD iter X.env) (some<|jL (.Name y py) X.env)) _ _ s;have lS:nY scope X.env=aT (qe X.env.cells scope.names []):=xm λx hx hk=>I.ok.has x.1<|cG x hx hk;refine aa (jg (pI (use:=some<|jL (.Name y py) X.env) (Q:=λ_ s'=>SP X aC D .next s') rfl hs lS fR mR
  (thn (hi aC s σ H _ I h) λxv s₁ h₁=>thn h₁ λDO s₂ h₂=>?_)) (λ_ s' hq=>ai<|ai hq) λ_ _ e=>e)
 obtain⟨it,fp,tn,J,H2,e,I2,T,eY,f2,hw⟩:=h₂;subst e;refine aby (RR:=λeO C=>compPost (aH X.prog X.w) X.A X.xe (some<|jL (.Name y py) X.env) (λ_ s'=>SP X aC D .next s') eO C) hc fR tD cG mC hg ht he I2 T eY f2 hw ?_;intro E C H' s' fC ns fp hI I' q;obtain⟨m,hn⟩:=ns;show aG _ _ (jL (.Name y py) X.env<|.ref E) _ _ _;refine AS<|aeo I' hN hyi hx (v:=.ref E) rfl (λs2 I2 ⟨a,sb,ha⟩=>?_) hf;have hCa:C≠a:=by
  rcases ha with ha|ha
  .rw[ha];exact fp.2.1
  .exact λz=>fp.2.2.2.2.1 _ _ ha z.symm
 exact⟨m,hn.sameBut sb hCa,λh3 vO=>(lc _ H' ⟨I2.turned (t':=s2.toks) (λb o hb e=>(vO.2 b hb).trans e) fp.1 fp.2.1 fp.2.2.2.1 fp.2.2.2.2.1 fp.2.2.2.2.2,q⟩)⟩
end
mutual
def Rep(H:Hp):Z9->V->Prop
 | .none,v=>v=.non
 | .bool b,v=>v=.bl b
 | .int i,v=>v=.int i
 | .str x,v=>v=.str x/\kb x=true
 | .tuple ds,v=>∃a xs,v=.ref a/\H a=some (.tup xs)/\RepAll H ds xs
 | .list ds,v=>∃a xs,v=.ref a/\H a=some (.lst xs)/\RepAll H ds xs
 | .dict _,_=>False
def RepAll(H:Hp):U Z9->U V->Prop
 | [],xs=>xs=[]
 | d::ds,xs=>∃x r,xs=x::r/\Rep H d x/\RepAll H ds r
end
mutual
noncomputable def imm:Z9->Bool
 | .none=>true
 | .bool _=>true
 | .int _=>true
 | .str _=>true
 | .tuple ds=>qd ds
 | .list _=>false
 | .dict _=>false
noncomputable def qd:U Z9->Bool
 | []=>true
 | d::ds=>imm d&&qd ds
end
def Tk(H H':Hp):Prop:=∀b xs,H b=some (.tup xs)->H' b=some (.tup xs)
theorem Tk.lst{H:Hp}{p:aE}{xs:U V}{o:HO}(h:H p=some (.lst xs)):Tk H (upd H p o):=λb ys q=>by rw[lg (Ix q h<|by intro z;cases z)];exact q
mutual
theorem Rep.tk{H H':Hp}(t:Tk H H'):∀{d:Z9} {v:V},imm d=true->Rep H d v->Rep H' d v
 | .none,_,_,h=>h
 | .bool _,_,_,h=>h
 | .int _,_,_,h=>h
 | .str _,_,_,h=>h
 | .tuple ds,v,hi,h=>by obtain⟨a,xs,e,ha,r⟩:=h;exact(lc a xs ⟨e,t _ _ ha,RepAll.tk t hi r⟩)
 | .list _,_,hi,_=>absurd hi ak
 | .dict _,_,hi,_=>absurd hi ak
theorem RepAll.tk{H H':Hp}(t:Tk H H'):∀{ds:U Z9} {xs:U V},qd ds=true->RepAll H ds xs->RepAll H' ds xs
 | [],_,_,h=>h
 | d::ds,xs,hi,h=>by obtain⟨x,r,e,h1,h2⟩:=h;have eT:(imm d&&qd ds)=true:=hi;rw[cy]at eT;exact(lc x r ⟨e,Rep.tk t eT.1 h1,RepAll.tk t eT.2 h2⟩)
end
mutual
theorem Rep.same{H H':Hp}(t:Same H H'):∀{d:Z9} {v:V},Rep H d v->Rep H' d v
 | .none,_,h=>h
 | .bool _,_,h=>h
 | .int _,_,h=>h
 | .str _,_,h=>h
 | .tuple ds,v,h=>by obtain⟨a,xs,e,ha,r⟩:=h;exact(lc a xs ⟨e,t _ _ ha,RepAll.same t r⟩)
 | .list ds,v,h=>by obtain⟨a,xs,e,ha,r⟩:=h;exact(lc a xs ⟨e,t _ _ ha,RepAll.same t r⟩)
 | .dict _,_,h=>h
theorem RepAll.same{H H':Hp}(t:Same H H'):∀{ds:U Z9} {xs:U V},RepAll H ds xs->RepAll H' ds xs
 | [],_,h=>h
 | d::ds,xs,h=>by obtain⟨x,r,e,h1,h2⟩:=h;exact(lc x r ⟨e,Rep.same t h1,RepAll.same t h2⟩)
end
theorem RepAll.length{H:Hp}:∀{ds:U Z9} {xs:U V},RepAll H ds xs->xs.length=ds.length
 | [],xs,h=>by have e:xs=[]:=h;rw[e];rfl
 | d::ds,xs,h=>by obtain⟨x,r,e,_,h2⟩:=h;rw[e,bj,bj,RepAll.length h2]
theorem RepAll.get{H:Hp}:∀{ds:U Z9} {xs:U V} {i:Nat} {d:Z9},RepAll H ds xs->ds[i]?=some d->∃x,xs[i]?=some x/\Rep H d x
 | [],_,_,_,_,e=>by simp at e
 | d::ds,xs,0,d',h,e=>by obtain⟨x,r,e1,h1,_⟩:=h;subst e1;simp at e;subst e;exact⟨x,rfl,h1⟩
 | d::ds,xs,i+1,d',h,e=>by obtain⟨x,r,e1,_,h2⟩:=h;subst e1;obtain⟨y,h3,h4⟩:=RepAll.get (i:=i) h2 (by simpa using e);exact⟨y,by simpa using h3,h4⟩
theorem RepAll.at{H:Hp}{ds:U Z9}{xs:U V}{i:Nat}{x:V}(h:RepAll H ds xs)(e:xs[i]?=some x):∃d,ds[i]?=some d/\Rep H d x:=by
 have hi:i<xs.length:=(ap.mp e).1;have eT:i<ds.length:=by rw[<-h.length];exact hi
 obtain⟨y,h1,h2⟩:=h.get<|af eT;rw[e]at h1;cases h1;exact⟨_,af eT,h2⟩
theorem RepAll.append{H:Hp}:∀{ds es:U Z9} {xs ys:U V},RepAll H ds xs->RepAll H es ys->RepAll H (ds++es) (xs++ys)
 | [],es,xs,ys,h,h'=>by have e:xs=[]:=h;rw[e];exact h'
 | d::ds,es,xs,ys,h,h'=>by obtain⟨x,r,e,h1,h2⟩:=h;subst e;exact(lc x (r++ys) ⟨rfl,h1,RepAll.append h2 h'⟩)
def RepAll.snoc{H:Hp}{ds:U Z9}{d:Z9}{xs:U V}{x:V}(h:RepAll H ds xs)(h':Rep H d x):RepAll H (ds++[d]) (xs++[x]):=h.append<|lc x ([]) ⟨rfl,h',rfl⟩
theorem RepAll.drop{H:Hp}:∀{ds:U Z9} {xs:U V} (n:Nat),RepAll H ds xs->RepAll H (ds.drop n) (xs.drop n)
 | _,_,0,h=>h
 | [],xs,n+1,h=>by have e:xs=[]:=h;rw[e];rfl
 | d::ds,xs,n+1,h=>by obtain⟨x,r,e,_,h2⟩:=h;subst e;exact RepAll.drop n h2
theorem RepAll.take{H:Hp}:∀{ds:U Z9} {xs:U V} (n:Nat),RepAll H ds xs->RepAll H (ds.take n) (xs.take n)
 | _,_,0,_=>rfl
 | [],xs,n+1,h=>by have e:xs=[]:=h;rw[e];rfl
 | d::ds,xs,n+1,h=>by obtain⟨x,r,e,h1,h2⟩:=h;subst e;exact(lc x (r.take n) ⟨rfl,h1,RepAll.take n h2⟩)
mutual
theorem Rep.lay{H:Hp}:∀{d:Z9} {v:V},Rep H d v->d.canLay0=true
 | .none,_,_=>rfl
 | .bool _,_,_=>rfl
 | .int _,_,_=>rfl
 | .str _,_,h=>h.2
 | .tuple ds,_,h=>by obtain⟨_,_,_,_,r⟩:=h;exact RepAll.lay r
 | .list ds,_,h=>by obtain⟨_,_,_,_,r⟩:=h;exact RepAll.lay r
 | .dict _,_,h=>h.elim
theorem RepAll.lay{H:Hp}:∀{ds:U Z9} {xs:U V},RepAll H ds xs->PyData.canLayAll0 ds=true
 | [],_,_=>rfl
 | d::ds,_,h=>by obtain⟨x,r,e,h1,h2⟩:=h;show(d.canLay0&&PyData.canLayAll0 ds)=true;rw[Rep.lay h1,RepAll.lay h2];rfl
end
section
variable{X:Cx}{aC:U (aE×Obj)}{σ:L2.St}{H:Hp}{s:aB}
mutual
theorem Rep.reads(I:Inv X aC σ H s):∀{d:Z9} {v:V} {u:aA},Rep H d v->RelV v u->∃as,Reads s.heap u d as
 | .none,v,u,h,r=>by cases (show v=.non from h);cases (show u=aA.none from r);exact⟨_,.none⟩
 | .bool b,v,u,h,r=>by cases (show v=.bl b from h);cases (show u=aA.bool b from r);exact⟨_,.bool b⟩
 | .int i,v,u,h,r=>by cases (show v=.int i from h);obtain⟨t,e⟩:=(show ∃t,u=aA.int i t from r);cases e;exact⟨_,.int i t⟩
 | .str x,v,u,h,r=>by cases (show v=.str x from h.1);obtain⟨t,e⟩:=(show ∃t,u=aA.str x t from r);cases e;exact⟨_,.str x t⟩
 | .tuple ds,v,u,h,r=>by obtain⟨a,xs,e,ha,q⟩:=h;subst e;cases (show u=aA.ref a from r);obtain⟨its,rv,⟨o,e1,e2,n,e3⟩,_⟩:=I.tuple<|SqT.of (K:=X.K) ha;obtain⟨as,z⟩:=RepAll.reads I q rv;exact⟨as,.tuple e1 e2 e3 z⟩
 | .list ds,v,u,h,r=>by obtain⟨a,xs,e,ha,q⟩:=h;subst e;cases (show u=aA.ref a from r);obtain⟨its,rv,⟨o,n,e1,e2,_,e3⟩,_⟩:=I.list<|SqL.of (K:=X.K) ha;obtain⟨as,z⟩:=RepAll.reads I q rv;exact⟨_,.list e1 e2 e3 z⟩
 | .dict _,_,_,h,_=>h.elim
theorem RepAll.reads(I:Inv X aC σ H s):∀{ds:U Z9} {xs:U V} {us:U aA},RepAll H ds xs->Vals xs us->∃as,ReadsAll s.heap us ds as
 | [],xs,us,h,r=>by cases (show xs=[]from h);cases r;exact⟨_,.nil⟩
 | d::ds,xs,us,h,r=>by
  obtain⟨x,t,e,h1,h2⟩:=h;subst e;cases r with
  | cons r1 r2=>
   obtain⟨as,z1⟩:=Rep.reads I h1 r1;obtain⟨bs,z2⟩:=RepAll.reads I h2 r2;exact⟨_,.cons z1 z2⟩
end
end
def aye(neg:Bool):R2:=λx y H Q=>∃dx dy,Rep H dx x/\Rep H dy y/\dx.depth<=60/\Q (.bl (if neg then !c7 dx dy else c7 dx dy)) H
section
variable{X:Cx}
def IU(hu:X.A.units+64<bV):OpR X (aY .Eq) (aye false):=by intro aC s σ H x y v u Q I rx ry h;obtain⟨dx,dy,hx,hy,hd,q⟩:=h;obtain⟨as,r1⟩:=hx.reads I rx;obtain⟨bs,r2⟩:=hy.reads I ry;exact SeqAt.compareEq_reads r1 r2 hx.lay hy.lay (by have:=Nat.min_le_left dx.depth dy.depth;lia)<|lc (.bl _) H ⟨I,rfl,q⟩
def aqf(hu:X.A.units+64<bV):OpR X (aY .NotEq) (aye true):=by intro aC s σ H x y v u Q I rx ry h;obtain⟨dx,dy,hx,hy,hd,q⟩:=h;obtain⟨as,r1⟩:=hx.reads I rx;obtain⟨bs,r2⟩:=hy.reads I ry;exact SeqAt.compareNe_reads r1 r2 hx.lay hy.lay (by have:=Nat.min_le_left dx.depth dy.depth;lia)<|lc (.bl _) H ⟨I,rfl,q⟩
def ayl(neg:Bool):R2:=λx y H Q=>∃d p xs ds,Rep H d x/\y=.ref p/\(H p=some (.lst xs)\/H p=some (.tup xs))/\RepAll H ds xs/\d.depth<=60/\
 Q (.bl (if neg then !(ds.any λe=>c7 e d)else ds.any λe=>c7 e d)) H
def aps(hu:X.A.units+64<bV):OpR X (aY .In) (ayl false):=by
 intro aC s σ H x y v u Q I rx ry h;obtain⟨d,p,xs,ds,hx,rfl,hp,eM,hd,q⟩:=h;cases ry;obtain⟨bs,r2⟩:=hx.reads I rx;have qE:X.A.units+1+iQ (ba ds) d.depth<bV:=by have:=Nat.min_le_right (ba ds) d.depth;lia
 rcases hp with hp|hp
 .obtain⟨as,r1⟩:=Rep.reads I (d:=.list ds) (v:=.ref p) (u:=.ref p) (lc p xs ⟨rfl,hp,eM⟩) rfl;exact SeqAt.in_list_reads r1 r2 eM.lay hx.lay qE<|lc (.bl _) H ⟨I,rfl,q⟩
 .obtain⟨as,r1⟩:=Rep.reads I (d:=.tuple ds) (v:=.ref p) (u:=.ref p) (lc p xs ⟨rfl,hp,eM⟩) rfl;exact SeqAt.in_tuple_reads r1 r2 eM.lay hx.lay qE<|lc (.bl _) H ⟨I,rfl,q⟩
def xk(hu:X.A.units+64<bV):OpR X (aY .NotIn) (ayl true):=by
 intro aC s σ H x y v u Q I rx ry h;obtain⟨d,p,xs,ds,hx,rfl,hp,eM,hd,q⟩:=h;cases ry;obtain⟨bs,r2⟩:=hx.reads I rx;have qE:X.A.units+1+iQ (ba ds) d.depth<bV:=by have:=Nat.min_le_right (ba ds) d.depth;lia
 rcases hp with hp|hp
 .obtain⟨as,r1⟩:=Rep.reads I (d:=.list ds) (v:=.ref p) (u:=.ref p) (lc p xs ⟨rfl,hp,eM⟩) rfl;exact SeqAt.notIn_list_reads r1 r2 eM.lay hx.lay qE<|lc (.bl _) H ⟨I,rfl,q⟩
 .obtain⟨as,r1⟩:=Rep.reads I (d:=.tuple ds) (v:=.ref p) (u:=.ref p) (lc p xs ⟨rfl,hp,eM⟩) rfl;exact SeqAt.notIn_tuple_reads r1 r2 eM.lay hx.lay qE<|lc (.bl _) H ⟨I,rfl,q⟩
def ml:qv X (.builtin "isinstance") (λxs H Q=>∃x T t b,xs=[x,.ty T]/\kX X.K H x t/\jw X.K t (.type T)=some b/\Q (.bl b) H):=by intro aC s σ H xs us Q I r h;obtain⟨x,T,t,b,rfl,ty,e,q⟩:=h;obtain⟨u,w',rfl,r1,r2⟩:=CK r;cases (show w'=aA.type T from r2);exact ak0 I r1 ty e λtk=>(lc (.bl b) H ⟨I.tok _,rfl,q⟩)
end
noncomputable def HX:Z9->Z9->Bool
 | .int a,.int b=>decide (a<b)
 | .str a,.str b=>decide (a.cps.toList<b.cps.toList)
 | _,_=>false
noncomputable def qb:U Z9->U Z9->Bool
 | [],[]=>false
 | [],_::_=>true
 | _::_,[]=>false
 | x::xs,y::ys=>if c7 x y=true then qb xs ys else HX x y
def Row:U Bool->U Z9->Prop
 | [],ds=>ds=[]
 | true::ks,ds=>∃i r,ds=.int i::r/\Row ks r
 | false::ks,ds=>∃x r,ds=.str x::r/\Row ks r
noncomputable def uq:Z9->U Z9
 | .tuple ds=>ds
 | _=>[]
noncomputable def tM(ds:U Z9)(i j:Nat):Bool:=qb (uq<|ds.getD i .none)<|uq<|ds.getD j .none
noncomputable def qf(ds:U Z9):U Z9:=(srt (tM ds) ds.length).map λi=>ds.getD i .none
section
variable{prog:aK}{w:aN}{A:Around}{E:aA->aB->Prop}{s:aB}{Q:Bool->aB->Prop}
theorem E4:∀{ks:U Bool} {xs ys:U Z9} {us vs:U aA} {as bs:U aE} {i:Nat},Row ks xs->Row ks ys->ReadsAll s.heap us xs as->ReadsAll s.heap vs ys bs->Q (qb xs ys) s->
  PySem.W.KatLex prog w A true false Q (us.zip vs) i s
 | [],xs,ys,us,vs,as,bs,i,h1,h2,r1,r2,q=>by cases (show xs=[]from h1);cases (show ys=[]from h2);cases r1;cases r2;exact q
 | true::ks,xs,ys,us,vs,as,bs,i,h1,h2,r1,r2,q=>by
  obtain⟨a,xr,rfl,h1⟩:=h1;obtain⟨b,yr,rfl,h2⟩:=h2;cases r1 with
  | cons ra r1=>
   cases r2 with
   | cons rb r2=>
    cases ra with
    | int _ t=>
     cases rb with
     | int _ u=>
      rw[List.zip_cons_cons];refine PySem.W.kat_cons<|SeqAt.EqAt.int_int a t b u prog w _ _ ?_;have q':Q (if c7 (.int a) (.int b)=true then qb xr yr else HX (.int a) (.int b)) s:=q;have e:c7 (.int a) (.int b)=(a==b):=rfl;rw[e]at q';cases hb:(a==b)with
      | true=>rw[hb,if_pos rfl]at q';exact PySem.W.kat_yes (E4 h1 h2 r1 r2 q')
      | false=>
       rw[hb,if_neg ak]at q';refine PySem.W.kat_no ?_;cases hi:(i==0)with
       | true=>exact oneLt_int q'
       | false=>exact PySem.W.kat_one _ _ (lt_int q')
 | false::ks,xs,ys,us,vs,as,bs,i,h1,h2,r1,r2,q=>by
  obtain⟨a,xr,rfl,h1⟩:=h1;obtain⟨b,yr,rfl,h2⟩:=h2;cases r1 with
  | cons ra r1=>
   cases r2 with
   | cons rb r2=>
    cases ra with
    | str _ t=>
     cases rb with
     | str _ u=>
      rw[List.zip_cons_cons];refine PySem.W.kat_cons<|SeqAt.EqAt.str_str a t b u prog w _ _ ?_;have q':Q (if c7 (.str a) (.str b)=true then qb xr yr else HX (.str a) (.str b)) s:=q;have e:c7 (.str a) (.str b)=(a==b):=rfl;rw[e]at q';cases hb:(a==b)with
      | true=>rw[hb,if_pos rfl]at q';exact PySem.W.kat_yes (E4 h1 h2 r1 r2 q')
      | false=>
       rw[hb,if_neg ak]at q';refine PySem.W.kat_no ?_;cases hi:(i==0)with
       | true=>exact oneLt_str q'
       | false=>exact PySem.W.kat_one _ _<|PyProof.Rows.lt_str q'
end
theorem Row.len{ks:U Bool}:∀{ds:U Z9},Row ks ds->ds.length=ks.length:=by
 induction ks with
 | nil=>intro ds h;cases (show ds=[]from h);rfl
 | cons k ks ih=>
  intro ds h;cases k with
  | true=>obtain⟨i,r,rfl,h⟩:=h;rw[bj,bj,ih h]
  | false=>obtain⟨i,r,rfl,h⟩:=h;rw[bj,bj,ih h]
def Rows(ks:U Bool)(ds:U Z9):Prop:=∀d∈ds,∃r,d=.tuple r/\Row (true::ks) r
section
variable{X:Cx}
theorem aqc(I:Inv X aC σ H s){ks:U Bool}{d:Z9}{v:V}{u:aA}(h:Rep H d v)(r:RelV v u){row:U Z9}(e:d=.tuple row)(hr:Row (true::ks) row) :
  ∃a o vs n as i t,u=.ref a/\s.heap.get? a=some o/\o.cls=.type "tuple"/\o.data=.seq vs n/\ReadsAll s.heap vs.toList row as/\vs[0]?=some (.int i t):=by
 subst e;obtain⟨as,z⟩:=h.reads I r;cases z with
 | @tuple a o vs n _ _ e1 e2 e3 z=>
  obtain⟨i,rr,rfl,_⟩:=hr;have z':=z;generalize hv:vs.toList=vl at z;cases z with
  | cons ra rb=>
   cases ra with
   | int _ t=>
    refine(lr a o vs n _<|lc i t ⟨rfl,e1,e2,e3,z',?_⟩);rw[<-bh,hv];rfl
theorem ah9(I:Inv X aC σ H s){ks:U Bool}:∀{ds:U Z9} {xs:U V} {us:U aA},RepAll H ds xs->Vals xs us->Rows ks ds->∃fs:U aA,PySem.W.KatTups s.heap us fs/\fs.length=ds.length/\∀v∈fs,∃i t,v=aA.int i t
 | [],xs,us,h,r,_=>by cases (show xs=[]from h);cases r;exact⟨[],trivial,rfl,λv hv=>by cases hv⟩
 | d::ds,xs,us,h,r,hr=>by
  obtain⟨x,t,e,h1,h2⟩:=h;subst e;cases r with
  | cons r1 r2=>
   obtain⟨row,e,oJ⟩:=hr d am;obtain⟨a,o,vs,n,as,i,tk,rfl,e1,e2,e3,_,e4⟩:=aqc I h1 r1 e oJ;obtain⟨fs,k1,k2,k3⟩:=ah9 I h2 r2 λd hd=>hr d<|ao _ hd;refine⟨.int i tk::fs,PySem.W.KatTups.cons e1 e2 e3 e4 k1,by rw[bj,bj,k2],λv hv=>?_⟩;rcases ar.mp hv with rfl|hv
   .exact(lc i tk rfl)
   .exact k3 v hv
theorem KatTups.keeps{h h':Heap}(k:∀b o,h.get? b=some o->h'.get? b=some o):∀{vs fs:U aA},PySem.W.KatTups h vs fs->PySem.W.KatTups h' vs fs
 | [],[],_=>trivial
 | v::vs,f::fs,x=>by obtain⟨⟨a,o,xs,n,e,e1,e2⟩,r⟩:=x;exact⟨(my a o xs n ⟨e,k _ _ e1,e2⟩),KatTups.keeps k r⟩
 | [],_::_,x=>x.elim
 | _::_,[],x=>x.elim
end
end L3
namespace L3
open PySem PySem.Spec PyProof.Rows
def amj(a v:aA):lB "min" ⟨[a],[(ab "default",v)]⟩:=by unfold lB;kernel_rfl
def alx(a v:aA):lB "max" ⟨[a],[(ab "default",v)]⟩:=by unfold lB;kernel_rfl
section
variable{prog:aK}{w:aN}{A:Around}{R:iF->aB->Prop}{I:aE}{fp wr:U aE}{n:Nat}{P:Nat->aA->Prop}{St:Nat->Heap->Prop}
theorem al9(kw:U (Str×aA))(W:fF prog w A.in1 I fp wr n P St)(bt:Nat->Nat->Bool)(iY:oF prog w A.in1 .Lt P bt)(S:aE)(gL:S∉fp) :
  ∀(k j:Nat)(s:aB)(vb:aA)(c:Nat),n-(j+1)=k->j+1<=n->St (j+1) s.heap->P (bQ bt j) vb->
  s.heap.get? S=some {cls:=.type "list",dict:=none,data:=.seq #[vb,vb] c,slots:=#[]}->
  (∀v h' tk,P (bQ bt<|n-1) v->(∀b o,b∉wr->b≠S->s.heap.get? b=some o->h'.get? b=some o)->R (.ok<|.ret v) {s with heap:=h',toks:=tk})->
  bY (aH prog w) A (.builtin "min.loop" ⟨[.ref I,.none,.ref S],kw⟩) R s:=by
 have oT:S∉wr:=λh=>gL<|W.sub _ h;have nm:(bO "min" ++ bO ".loop" : String)="min.loop":=by decide
 intro k;induction k with
 | zero=>
  intro j s vb c hk hj bS uW hS hR;have mT:j+1=n:=by omega
  refine dq F.entry_min_loop ?_;rw[cv ju _];show aG _ A.in1 (eK (.ref S) >>= _) _ _ s;refine aa<|ix hS rfl ?_;show aG _ A.in1 (fN (bB<|.ref I) _ >>= _) _ _ s;refine aa<|bU<|W.done s _ _ (mT▸bS) λh' tk dW=>?_;have fW:=dW S _ oT hS;show aG _ A.in1 (fM S (λ_=>#[]) >>= _) _ _ _;refine aa<|bK fW rfl<|aa<|bX<|ai ?_;exact hR vb _ tk (by rw[<-mT];exact uW) λb o iM kT e=>(br _ _<|Ne.symm kT).trans (dW b o iM e)
 | succ k ih=>
  intro j s vb c hk hj bS uW hS hR;have cF:j+1<n:=by omega
  refine dq F.entry_min_loop ?_;rw[cv ju _];show aG _ A.in1 (eK (.ref S) >>= _) _ _ s;refine aa<|ix hS rfl ?_;show aG _ A.in1 (fN (bB<|.ref I) _ >>= _) _ _ s;refine aa<|bU<|W.item (j+1) s _ _ cF bS λv h' tk hP gU dW=>?_;have fW:=dW S _ oT hS;show aG _ A.in1 (fN (fZ [v,v]<|richCompare .Lt v vb >>= _) _ >>= _) _ _ _;refine aa<|bU<|db<|aa<|iY (j+1) (bQ bt j) v vb _ _ _ hP uW ?_;refine aa<|db<|e8 ?_;refine aa<|bX<|ai ?_;cases hb:bt (j+1) (bQ bt j)with
  | true=>
   simp only[if_true];refine aa<|bK fW rfl<|aa<|bX ?_;rw[nm];refine ai ⟨gt ju _,ih (j+1) _ v _ (by omega) cF (W.frame _ _ _ gU λb yO o e=>?_) (by simp only[bQ,hb,if_true];exact hP) (cp _ fW rfl) λv' oU iR mG iX=>?_⟩
   .exact(br _ _ λh:S=b=>gL<|by rw[h];exact yO).trans e
   .exact hR v' oU iR mG λb o iM kT e=>iX b o iM kT ((br _ _<|Ne.symm kT).trans (dW b o iM e))
  | false=>
   simp only[a0,if_false];refine aa<|bX ?_;rw[nm];refine ai ⟨gt ju _,ih (j+1) _ vb c (by omega) cF gU (by simp only[bQ,hb,a0,if_false];exact uW) fW λv' oU iR mG iX=>?_⟩;exact hR v' oU iR mG λb o iM kT e=>iX b o iM kT<|dW b o iM e
def aic(kw:U (Str×aA))(W:fF prog w A.in1 I fp wr n P St)(bt:Nat->Nat->Bool)(iY:oF prog w A.in1 .Lt P bt)(S:aE)(gL:S∉fp)(hn:0<n){s:aB}{c:Nat}(bS:St 0 s.heap)
  (hS:s.heap.get? S=some {cls:=.type "list",dict:=none,data:=.seq #[] c,slots:=#[]})
  (hR:∀v h' tk,P (bQ bt<|n-1) v->(∀b o,b∉wr->b≠S->s.heap.get? b=some o->h'.get? b=some o)->R (.ok<|.ret v) {s with heap:=h',toks:=tk}) :
  bY (aH prog w) A (.builtin "min.loop" ⟨[.ref I,.none,.ref S],kw⟩) R s:=by
 have oT:S∉wr:=λh=>gL<|W.sub _ h;have nm:(bO "min" ++ bO ".loop" : String)="min.loop":=by decide
 refine dq F.entry_min_loop ?_;rw[cv ju _];show aG _ A.in1 (eK (.ref S) >>= _) _ _ s;refine aa<|ix hS rfl ?_;show aG _ A.in1 (fN (bB<|.ref I) _ >>= _) _ _ s;refine aa<|bU<|W.item 0 s _ _ hn bS λv h' tk hP gU dW=>?_;have fW:=dW S _ oT hS;show aG _ A.in1 (fM S (λ_=>#[v,v]) >>= _) _ _ _;refine aa<|bK fW rfl ?_;rw[nm];refine ai ⟨gt ju _,al9 kw W bt iY S gL _ 0 _ v _ rfl hn (W.frame _ _ _ gU λb yO o e=>?_) hP (cp _ fW rfl) λv' oU iR mG iX=>?_⟩
 .exact(br _ _ λh:S=b=>gL<|by rw[h];exact yO).trans e
 .exact hR v' oU iR mG λb o iM kT e=>iX b o iM kT<|(br _ _<|Ne.symm kT).trans (dW b o iM e)
end
section
variable{prog:aK}{w:aN}{A:Around}{E:aA->aB->Prop}{s:aB}
theorem af9{x d:aA}{Q:aA->aB->Prop}
  (h:aG (aH prog w) A.in1 (hJ x) (λit s₂=>∃I fp wr n P St bt,it=.ref I/\fF prog w A.in1 I fp wr n P St/\St 0 s₂.heap/\(∀b∈fp,b<s₂.heap.objs.size)/\0<n/\oF prog w A.in1 .Lt P bt/\
   ∀v h' tk,P (bQ bt<|n-1) v->(∀b o,b∉wr->s₂.heap.get? b=some o->h'.get? b=some o)->Q v {s₂ with heap:=h',toks:=tk}) E s) :
  aG (aH prog w) A (call (.builtin "min") [x] [(ab "default",d)]) Q E s:=by
 have nm:(bO "min" ++ bO ".loop" : String)="min.loop":=by decide
 refine fX<|cL F.plain_min F.entry_min ?_;simp only[lA,F.kind_min];have go:aG (aH prog w) A.in1 (Builtin.«min» ⟨[x],[(ab "default",d)]⟩) (λfin s'=>match fin with
   | .done f=>(match (Except.ok f:iF)with|.ok (.ret v)=>Q v s'|.ok _=>False|.error e=>E e s')
   | .again c'=>c'.quiet=true/\bY (aH prog w) A c' (λr s'=>match r with|.ok (.ret v)=>Q v s'|.ok _=>False|.error e=>E e s') s') E s:=by
  show aG _ A.in1 (Builtin.Builtins.bindParams "min" ["key","default"] 0 ⟨[],[(ab "default",d)]⟩ >>= _) _ _ s;refine aa<|eZ (show Builtin.Builtins.bindParams "min" ["key","default"] 0 ⟨[],[(ab "default",d)]⟩=aT [none,some d]from rfl) ?_;refine aa<|ai ?_;refine aa<|jg h (λit s₂ h₂=>?_) λ_ _ e=>e;obtain⟨I,fp,wr,n,P,St,bt,rfl,W,bS,pP,hn,iY,hQ⟩:=h₂;refine aa<|f7 ?_;have gL:s₂.heap.objs.size∉fp:=λhm=>iq _<|pP _ hm;rw[nm];refine ai ⟨gt ju _,aic _ W bt iY s₂.heap.objs.size gL hn (W.frame _ _ _ bS λb _ o e=>ah _ e) (a6 _ rfl) λv h' tk hP hk=>?_⟩;exact hQ v h' tk hP λb o iM e=>hk b o iM (cj<|be e)<|ah _ e
 cases xU:Manifest.signature? "min" with
 | none=>exact ai go
 | some Fe=>
  have eJ:Bind.checkArgs "min" Fe ⟨[x],[(ab "default",d)]⟩=aT ():=by have:=amj x d;simpa only [lB,xU]using this
  simp only[eJ];exact ai go
def aj7{l:aE}{d:aA}{vs:U aA}{ns:U Int}{Q:aA->aB->Prop}(hh:A.handled=none)(hl:s.heap.IsList l vs.toArray)(hi:fG vs ns)(eG:0<ns.length)
  (h:∀h' M (t:pF) tk,(∀b o,s.heap.get? b=some o->h'.get? b=some o)->M∈ns->(∀a,a∈ns->M<=a)->Q (.int M t) {s with heap:=h',toks:=tk}) :
  aG (aH prog w) A (call (.builtin "min") [.ref l] [(ab "default",d)]) Q E s:=by
 obtain⟨xs,e⟩:=hi.allInts.items;have iL:ns=xs.toList.map (·.1):=by rw[<-hi.numsOf,<-iU,<-e]
 have hsz:0<xs.size:=by have h3:=eG;rw[iL,ae,aw]at h3;exact h3
 rw[e]at hl;refine af9<|iter_intList hl λs₂ e st pP GA=>?_;subst e;refine(lr _ _ _ _ _<|lc _ _ ⟨rfl,fF.list (A:=A.in1) hh _ l GA<|fP xs,st,pP,by simpa [fP]using hsz,oF.ints_lt (lH xs) λ_ _=>fB,λv h' tk hP hk=>?_⟩);have hv:(fP xs)[bQ (λi j=>decide<|lH xs i<lH xs j) (xs.size-1)]?=some v:=by simpa [fP]using hP
 obtain⟨t,rfl⟩:=fB hv;obtain⟨h1,h2⟩:=argBest_lt (lH xs)<|xs.size-1;refine h _ _ t tk (old_kept hk) ?_ λa ha=>?_
 .rw[iL,fO];exact getD_mem<|by rw[ae,aw];omega
 .rw[iL]at ha;obtain⟨j,hj,rfl⟩:=vU ha;rw[ae,aw]at hj;rw[<-fO];exact h2 j<|by omega
def akw{l:aE}{vs:U aA}{ns:U Int}{Q:aA->aB->Prop}(hh:A.handled=none)(hl:s.heap.IsList l vs.toArray)(hi:fG vs ns)(eG:0<ns.length)
  (h:∀h' M (t:pF) tk,(∀b o,s.heap.get? b=some o->h'.get? b=some o)->M∈ns->(∀a,a∈ns->M<=a)->Q (.int M t) {s with heap:=h',toks:=tk}) :
  aG (aH prog w) A (call (.builtin "min") [.ref l]) Q E s:=by
 obtain⟨xs,e⟩:=hi.allInts.items;have iL:ns=xs.toList.map (·.1):=by rw[<-hi.numsOf,<-iU,<-e]
 have hsz:0<xs.size:=by have h3:=eG;rw[iL,ae,aw]at h3;exact h3
 rw[e]at hl;refine min_intList hh hl hsz λv h' tk hv hk=>?_;obtain⟨t,rfl⟩:=fB hv;obtain⟨h1,h2⟩:=argBest_lt (lH xs)<|xs.size-1;refine h _ _ t tk hk ?_ λa ha=>?_
 .rw[iL,fO];exact getD_mem<|by rw[ae,aw];omega
 .rw[iL]at ha;obtain⟨j,hj,rfl⟩:=vU ha;rw[ae,aw]at hj;rw[<-fO];exact h2 j<|by omega
end
end L3
namespace L3
open PySem PySem.Spec PyProof.Rows L2
noncomputable def o7:Expr->Bool
 | .Starred _ _=>false
 | _=>true
def m8{e:Expr}{es:U Expr}{env:sQ}(h:o7 e=true):aQ (e::es) env=(false,cD e env)::aQ es env:=by cases e<;>first|rfl|exact absurd h ak
theorem xx{pos:eB}{env:sQ}:∀{es:U Expr},es.all o7=true->(bN pos<|aQ es env).any (·.1)=false
 | [],_=>rfl
 | e::es,h=>by rw[List.all_cons,cy]at h;rw[m8 h.1];show(false||(bN pos<|aQ es env).any (·.1))=false;rw[xx h.2];rfl
def kq{X:Cx}{e:Expr}{es:U Expr}{te:TE}{t:TA}(ha:PE X e te)(hr:PA X es t)(h:o7 e=true:=by rfl):PA X (e::es) (sL te t):=arn ha hr<|m8 h
def mj{X:Cx}{x:Str}{p pos:eB}{e:Expr}{es:U Expr}{t:TA}{id:String}{r:U V->Hp->VK->Prop}(hc:qv X (.builtin id) r)(hg:Gl X x)(hm:X.mg x=none)(hv:cQ x=some (.builtin id))(ha:PA X (e::es) t)
  (hn:x≠"__name__":=by decide) (rG:(x==("__debug__" : Str))=false:=by decide) (h1:o7 e=true:=by rfl) (h2:es.all o7=true:=by rfl):PE X (.Call (.Name x p) (e::es) [] pos) (tCB r t):=
 ao8 hc hg hm hv ha hn rG (m8 h1) (xx h2)
def vx{X:Cx}{x:Str}{p pos:eB}{e:Expr}{es:U Expr}{t:TA}{T:String}{r:U V->Hp->VK->Prop}(hc:qv X (.type T) r)(hg:Gl X x)(hm:X.mg x=none)(hv:cQ x=some (.type T))(ha:PA X (e::es) t)
  (hn:x≠"__name__":=by decide) (rG:(x==("__debug__" : Str))=false:=by decide) (h1:o7 e=true:=by rfl) (h2:es.all o7=true:=by rfl):PE X (.Call (.Name x p) (e::es) [] pos) (tCB r t):=
 amh hc hg hm hv ha hn rG (m8 h1) (xx h2)
def zm{X:Cx}{tg a:Expr}{ta:TA}{p pos:eB}(hg:Gl X "range")(hm:X.mg "range" = none)(ha:PA X [a] ta)(h:o7 a=true:=by rfl):PI X tg (.Call (.Name "range" p) [a] [] pos) (atj ta):=
 am4 hg hm ha (m8 h)
def avr{X:Cx}{tg a b:Expr}{ta:TA}{p pos:eB}(hg:Gl X "range")(hm:X.mg "range" = none)(ha:PA X [a,b] ta)(h:o7 a=true:=by rfl)(h2:o7 b=true:=by rfl):PI X tg (.Call (.Name "range" p) [a,b] [] pos) (aul ta):=
 aky hg hm ha (by rw[m8 h,m8 h2];rfl) (by rw[m8 h2];rfl)
def Fn(P:aK)(w:aN)(K:av)(mg:Str->Option aA)(base:Heap)(x:Str)(k:Nat)(ps:U Str)(sp:Sp):Prop:=
 ∃f fd,qp P w K mg base CX0 k f fd ps sp/\mg x=some (.ref f)/\PySem.W.keepIn K (.ref f)=true/\Binds K fd ps []
section
variable{X:Cx}{k j:Nat}{ps:U Str}{sp:Sp}{x:Str}{p pos mO:eB}{e e2:Expr}{es:U Expr}{t tk:TA}{te:TE}
def lv(F:Fn X.prog X.w X.K X.mg X.base x k ps sp)(hr:Room j X.A)(hk:k<=j)(hg:Gl X x)
  (ha:PA X (e::es) t) (rG:(x==("__debug__" : Str))=false:=by decide) (h1:o7 e=true:=by rfl) (h2:es.all o7=true:=by rfl) :
  PE X (.Call (.Name x p) (e::es) [] pos) (atx sp [] E0 t):=by
 obtain⟨f,fd,F,m,kp,b⟩:=F;exact aq6 F (hr.mono hk) hg m kp b .nil axn ha rG (m8 h1)<|xx h2
def ayb:U V->Hp->VK->Prop:=λxs H Q=>∃q,∃ns:U Int,xs=[.ref q]/\H q=some (.lst<|ns.map V.int)/\0<ns.length/\∀M,M∈ns->(∀a∈ns,M<=a)->Q (.int M) H
def adp(hc:X.calm=true):qv X (.builtin "min") ayb:=by intro aC s σ H xs us Q I r h;obtain⟨q,ns,rfl,hq,hn,h⟩:=h;obtain⟨u,rfl,r1⟩:=qw r;cases (show u=aA.ref q from r1);obtain⟨its,rv,pl,hz⟩:=I.list<|SqL.of (K:=X.K) hq;exact akw (I.ok.hd hc) pl.isList (wj rv) hn λh' M t tk k h1 h2=>(lc (.int M) H ⟨I.kept k,⟨_,rfl⟩,h M h1 h2⟩)
def axv(t tk:TA):TE:=λσ H Q=>t σ H λvs H1=>tk σ H1 λzs H2=>zs.length=1/\ayb vs H2 Q
theorem ajs(hc:X.calm=true)(hg:Gl X "min")(hm:X.mg "min" = none)(ha:PA X [e] t)(yK:PK X [⟨some "default",e2,mO⟩] tk)
  (he:bN pos (aQ [e] X.env)=(false,cD e X.env)::bN pos (aQ [] X.env):=by rfl) (gW:(bN pos<|aQ [e] X.env).any (·.1)=false:=by rfl) :
  PE X (.Call (.Name "min" p) [e] [⟨some "default",e2,mO⟩] pos) (axv t tk):=by
 intro aC s σ H Q I h;refine gd (sv I hg hm iD ?_ (by decide)<|by decide);refine callWith_kw (thn (ha pos aC s σ H _ I h) λus s1 ⟨vs,H1,I1,r,q⟩=>thn (yK pos aC s1 σ H1 _ I1 q) λws s2 ⟨zs,H2,I2,rz,vW,q2⟩=>?_) he gW;obtain⟨d,rfl⟩:∃d,ws=[d]:=by
  have hl:ws.length=1:=rz.length.symm.trans vW
  match ws,hl with
  | [d],_=>exact⟨d,rfl⟩
 obtain⟨l,ns,rfl,hq,hn,hQ⟩:=q2;obtain⟨u,rfl,r1⟩:=qw r;cases (show u=aA.ref l from r1);obtain⟨its,rv,pl,hz⟩:=I2.list<|SqL.of (K:=X.K) hq;exact aj7 (I2.ok.hd hc) pl.isList (wj rv) hn λh' M t tk k h1 h2=>(lc (.int M) H2 ⟨I2.kept k,⟨_,rfl⟩,hQ M h1 h2⟩)
end
def Db{X:Cx}{N:U Str}{scope:cX}{z:CZ}{es:U Expr}{k:Nat}{pos:eB}{t:TGs}{n:Nat}(hc:X.calm=true)(h:PGs (mq X N scope z) es t)
  (hn:(bZ es (mq X N scope z).env).length=n:=by rfl) (bS:(bZ es (mq X N scope z).env).findIdx? (·.1)=none:=by rfl):PG (mq X N scope z) (.Tuple es k pos) (Aw X.K n t):=
 wq (X:=mq X N scope z) hc h hn bS
section
variable{X:Cx}{N:U Str}{scope:cX}{z:CZ}
def sn:IxR (mq X N scope z) (CD X.K):=oq (X:=mq X N scope z)
def JH:IxR (mq X N scope z) (ayf X.K):=nv (X:=mq X N scope z)
def aot:SlR (mq X N scope z) (ayc X.K):=Dc (X:=mq X N scope z)
end
section
variable{K:av}{a D:aE}{xs:U V}{sl:U (Option Nat)}{g:TG}{tt:TT}{te:TE}{σ:L2.St}{H1:Hp}{Q:VK}
def Nx(D:aE)(i:Nat)(Pv:Nat->U V->Hp->Prop):Hp->Prop:=λH'=>∃ys,H' D=some (.lst ys)/\ys.length<=i+1/\Pv (i+1) ys H'
def ny{i:Nat}{Pv:Nat->U V->Hp->Prop}{H:Hp}{ys:U V}{y:V}(hi:i<1000)(hD:H D=some (.lst ys))(hl:ys.length<=i)(h:Pv (i+1) (ys++[y]) (upd H D<|.lst<|ys++[y])) :
  ∃xs,H D=some (.lst xs)/\xs.length<aF/\Nx D i Pv (upd H D<|.lst<|xs++[y]):=
 (m9 ys hD (lu<|by lia) (ys++[y]) ⟨kr,by rw[bn,et];lia,h⟩)
def EU(J:It)(n:Nat)(Pv:Nat->U V->Hp->Prop)(h0:Pv 0 [] (upd H1 D<|.lst []))
  (uS:∀i ys H,i<n->Pv i ys H->J.go i H) (bS:∀ys H,Pv n ys H->J.stop n H)
  (hs:∀i x ys H H',i<n->J.yld i H x H'->H D=some (.lst ys)->ys.length<=i->Pv i ys H->g x (se sl σ) H' λσ2 H2=>Agree (se sl σ) σ2/\tt σ2 H2 λb H3=>
   if b=true then te σ2 H3 λy H4=>∃xs,H4 D=some (.lst xs)/\xs.length<aF/\Nx D i Pv (upd H4 D<|.lst<|xs++[y])else Nx D i Pv H3)
  (hd:∀ys H,H D=some (.lst ys)->ys.length<=n->Pv n ys H->Q (.ref D) H):tO J sl g tt te σ H1 D Q:=by
 refine⟨λi m H=>m=n-i/\i<=n/\∃ys,H D=some (.lst ys)/\ys.length<=i/\Pv i ys H,(m9 n (by simp) (c8 _) ([]) ⟨kr,aq _,h0⟩),?_⟩;rintro i m H ⟨rfl,hi,ys,hy,hl,p⟩;by_cases cF:i<n
 .refine .inr ⟨uS i ys H cF p,Nx D i Pv,λH' ⟨AO,e1,e2,e3⟩=>⟨n-(i+1),by lia,rfl,cF,AO,e1,e2,e3⟩,λx H' y=>hs i x ys H H' cF y hy hl p⟩
 .have e:i=n:=by lia
  subst e;exact .inl ⟨bS ys H p,hd ys H hy hl p⟩
def nz(Pv:Nat->U V->Hp->Prop)(h0:Pv 0 [] (upd H1 D<|.lst []))(hl:∀i ys H,Pv i ys H->SqL K H a xs)
  (hs:∀i x ys H,xs[i]?=some x->i<xs.length->H D=some (.lst ys)->ys.length<=i->Pv i ys H->g x (se sl σ) H λσ2 H2=>Agree (se sl σ) σ2/\tt σ2 H2 λb H3=>
   if b=true then te σ2 H3 λy H4=>∃xs,H4 D=some (.lst xs)/\xs.length<aF/\Nx D i Pv (upd H4 D<|.lst<|xs++[y])else Nx D i Pv H3)
  (hd:∀ys H,H D=some (.lst ys)->ys.length<=xs.length->Pv xs.length ys H->Q (.ref D) H):tO (Itl K a) sl g tt te σ H1 D Q:=by
 refine EU (Itl K a) xs.length Pv h0 (λi ys H hi p=>(lc xs (xs[i]) ⟨hl i ys H p,by simp[hi]⟩)) (λys H p=>⟨xs,hl _ ys H p,aq _⟩) (λi x ys H H' hi y hD bG p=>?_) hd;obtain⟨e,y⟩:=y;subst e;exact hs i x ys _ (y xs<|hl i ys _ p) hi hD bG p
def qo(Pv:Nat->U V->Hp->Prop)(h0:Pv 0 [] (upd H1 D<|.lst []))(hl:∀i ys H,Pv i ys H->SqT K H a xs)
  (hs:∀i x ys H,xs[i]?=some x->i<xs.length->H D=some (.lst ys)->ys.length<=i->Pv i ys H->g x (se sl σ) H λσ2 H2=>Agree (se sl σ) σ2/\tt σ2 H2 λb H3=>
   if b=true then te σ2 H3 λy H4=>∃xs,H4 D=some (.lst xs)/\xs.length<aF/\Nx D i Pv (upd H4 D<|.lst<|xs++[y])else Nx D i Pv H3)
  (hd:∀ys H,H D=some (.lst ys)->ys.length<=xs.length->Pv xs.length ys H->Q (.ref D) H):tO (Itt K a) sl g tt te σ H1 D Q:=by
 refine EU (Itt K a) xs.length Pv h0 (λi ys H hi p=>(lc xs (xs[i]) ⟨hl i ys H p,by simp[hi]⟩)) (λys H p=>⟨xs,hl _ ys H p,aq _⟩) (λi x ys H H' hi y hD bG p=>?_) hd;obtain⟨e,y⟩:=y;subst e;exact hs i x ys _ (y xs<|hl i ys _ p) hi hD bG p
def sk{lo:Int}{n:Nat}(Pv:Nat->U V->Hp->Prop)(h0:Pv 0 [] (upd H1 D<|.lst []))
  (hs:∀i ys H,i<n->H D=some (.lst ys)->ys.length<=i->Pv i ys H->g (.int<|lo+i) (se sl σ) H λσ2 H2=>Agree (se sl σ) σ2/\tt σ2 H2 λb H3=>
   if b=true then te σ2 H3 λy H4=>∃xs,H4 D=some (.lst xs)/\xs.length<aF/\Nx D i Pv (upd H4 D<|.lst<|xs++[y])else Nx D i Pv H3)
  (hd:∀ys H,H D=some (.lst ys)->ys.length<=n->Pv n ys H->Q (.ref D) H):tO (Itr lo n) sl g tt te σ H1 D Q:=by
 refine EU (Itr lo n) n Pv h0 (λi ys H hi p=>hi) (λys H p=>aq _) (λi x ys H H' hi y hD bG p=>?_) hd;obtain⟨e,e2⟩:=y;subst e e2;exact hs i ys _ hi hD bG p
end
def Ex(W:U aE)(H H':Hp):Prop:=∀b o,b∉W->H b=some o->H' b=some o
def Ex.refl(W:U aE)(H:Hp):Ex W H H:=λ_ _ _ h=>h
def Ex.trans{W:U aE}{H H1 H2:Hp}(a:Ex W H H1)(b:Ex W H1 H2):Ex W H H2:=λc o hc h=>b c o hc<|a c o hc h
def Ex.of_same{W:U aE}{H H':Hp}(a:Same H H'):Ex W H H':=λc o _ h=>a c o h
def Ex.fresh{W:U aE}{H:Hp}{p:aE}{o:HO}(h:H p=none):Ex W H (upd H p o):=λb u _ q=>by rw[lg (mw q h)];exact q
theorem Ex.upd{W:U aE}{H:Hp}{p:aE}{o:HO}(h:p∈W):Ex W H (upd H p o):=λb u hb q=>by rw[lg (show b≠p from λe=>hb<|by rw[e];exact h)];exact q
def Ex.new{W:U aE}{H H':Hp}{p:aE}{o:HO}(a:Ex W H H')(h:H p=none):Ex W H (L2.upd H' p o):=λb u hb q=>by rw[lg (mw q h)];exact a b u hb q
def Ex.tk{W:U aE}{H H':Hp}(a:Ex W H H')(h:∀b∈W,∃xs,H b=some (.lst xs)):Tk H H':=λb xs q=>a b _ (λhb=>by obtain⟨ys,e⟩:=h b hb;rw[q]at e;cases e) q
def Ex.at{st:aE}{H H':Hp}{b:aE}{o:HO}(a:Ex [st] H H')(hb:b≠st)(h:H b=some o):H' b=some o:=a b o (by simpa using hb) h
def qi{H:Hp}{p b:aE}{o:HO}(h:upd H p o b=none):b≠p/\H b=none:=by
 by_cases e:b=p
 .subst e;rw[kr]at h;cases h
 .rw[lg e]at h;exact⟨e,h⟩
def _root_.L2.Same.new{H H':Hp}{p:aE}{o:HO}(a:Same H H')(h:H p=none):Same H (upd H' p o):=λb u q=>by rw[lg (mw q h)];exact a b u q
def _root_.L2.Same.fresh{H:Hp}{p:aE}(o:HO)(h:H p=none):Same H (upd H p o):=(Same.refl H).new h
def Cells(cs:U Z9):Prop:=∀d∈cs,∃r c:Int,d=.tuple [.int r,.int c]
def Spots(ds:U Z9):Prop:=∀d∈ds,∃(r c:Int)(x:Str),d=.tuple [.int r,.int c,.str x]
theorem qz:∀{ds:U Z9},(∀d∈ds,imm d=true)->qd ds=true
 | [],_=>rfl
 | d::ds,h=>by show(imm d&&qd ds)=true;rw[h d am,qz λe he=>h e<|ao _ he];rfl
def Cells.imm{cs:U Z9}(h:Cells cs):qd cs=true:=qz λd hd=>by obtain⟨r,c,rfl⟩:=h d hd;rfl
def Spots.imm{ds:U Z9}(h:Spots ds):qd ds=true:=qz λd hd=>by obtain⟨r,c,x,rfl⟩:=h d hd;rfl
def aog{H:Hp}{r c:Int}{v:V}(h:Rep H (.tuple [.int r,.int c]) v):∃a,v=.ref a/\H a=some (.tup [.int r,.int c]):=by obtain⟨a,xs,e,ha,x1,r1,e1,h1,x2,r2,e2,h2,e3⟩:=h;cases (show x1=.int r from h1);cases (show x2=.int c from h2);cases (show r2=[]from e3);subst e1 e2;exact⟨a,e,ha⟩
def E5{H:Hp}{r c:Int}{x:Str}{v:V}(h:Rep H (.tuple [.int r,.int c,.str x]) v):∃a,v=.ref a/\H a=some (.tup [.int r,.int c,.str x])/\kb x=true:=by obtain⟨a,xs,e,ha,x1,r1,e1,h1,x2,r2,e2,h2,x3,r3,e3,h3,e4⟩:=h;cases (show x1=.int r from h1);cases (show x2=.int c from h2);cases (show x3=.str x from h3.1);cases (show r3=[]from e4);subst e1 e2 e3;exact⟨a,e,ha,h3.2⟩
def t7{H:Hp}{a:aE}{r c:Int}(h:H a=some (.tup [.int r,.int c])):Rep H (.tuple [.int r,.int c]) (.ref a):=(ou a _ rfl h _ _ rfl rfl _ ⟨_,rfl,rfl,rfl⟩)
def wa{H:Hp}{a:aE}{r c:Int}{x:Str}(h:H a=some (.tup [.int r,.int c,.str x]))(hx:kb x=true):Rep H (.tuple [.int r,.int c,.str x]) (.ref a):=
 (ou a _ rfl h _ _ rfl rfl _<|m9 _ rfl rfl _ ⟨_,rfl,⟨rfl,hx⟩,rfl⟩)
theorem Spots.at{H:Hp}{ds:U Z9}{xs:U V}{i:Nat}{v:V}(h:Spots ds)(r:RepAll H ds xs)(e:xs[i]?=some v) :
  ∃(a:aE)(p q:Int)(x:Str),v=.ref a/\H a=some (.tup [.int p,.int q,.str x])/\kb x=true/\ds[i]?=some (.tuple [.int p,.int q,.str x]):=by
 obtain⟨d,e1,e2⟩:=r.at e;obtain⟨p,q,x,rfl⟩:=h d<|aj e1;obtain⟨a,e3,e4,e5⟩:=E5 e2;exact(my a p q x ⟨e3,e4,e5,e1⟩)
noncomputable def kE:Z9->Int
 | .tuple (.int r::_)=>r
 | _=>0
noncomputable def kC:Z9->Int
 | .tuple (_::.int c::_)=>c
 | _=>0
noncomputable def yi:U Int->Int
 | []=>0
 | [a]=>a
 | a::b::r=>if a<=yi (b::r)then a else yi (b::r)
theorem we:∀{ns:U Int},0<ns.length->yi ns∈ns
 | [],h=>by simp at h
 | [a],_=>by simp[yi]
 | a::b::r,_=>by
  unfold yi;split
  .exact am
  .exact ao _<|we<|by simp
theorem yt:∀{ns:U Int},∀a∈ns,yi ns<=a
 | [],a,h=>by cases h
 | [a],b,h=>by
  have e:b=a:=by simpa using h
  rw[e];exact jt _
 | a::b::r,x,h=>by
  unfold yi;rcases ar.mp h with e|h
  .rw[e];split
   .exact jt _
   .lia
  .have:=yt (ns:=b::r) x h;split
   .lia
   .exact this
def wy{ns:U Int}{M:Int}(h1:M∈ns)(h2:∀a∈ns,M<=a):M=yi ns:=by have hp:0<ns.length:=List.length_pos_of_mem h1;have a1:=h2 _<|we hp;have a2:=yt M h1;lia
noncomputable def tq(t l:Int):Z9->Z9
 | .tuple [.int r,.int c,.str x]=>.tuple [.int (r-t),.int<|c-l,.str x]
 | d=>d
noncomputable def ow(ds:U Z9):U Z9:=ds.map<|tq (yi<|ds.map kE)<|yi<|ds.map kC
section
variable{K:av}{a:aE}{xs:U V}{ds:U Z9}{σ:L2.St}{H:Hp}{Q:VK}
def k8{α β:Type}(f:α->β){l:List α}{i:Nat}{x:α}(h:l[i]?=some x):(l.take<|i+1).map f=(l.take i).map f++[f x]:=by rw[jo,h];simp
def ads(j:Int)(pr:Z9->Int)(hj:∀(r c:Int)(x:Str),atI [V.int r,.int c,.str x] j=some (.int<|pr<|.tuple [.int r,.int c,.str x]))
  (hσ:σ[0]?=some (some<|.ref a)) (ha:H a=some (.lst xs)) (hr:RepAll H ds xs) (hs:Spots ds) (hl:ds.length<64)
  (q:∀D H',Same H H'->H' D=some (.lst<|(ds.map pr).map V.int)->Q (.ref D) H') :
  xB (EA K<|jB 0) [none] (ub 0) uw (tOp (CD K) (jB 0)<|tC<|.int j) σ H Q:=by
 have aX:=hr.length;refine(mm _ hσ a ⟨rfl,⟨_,SqL.of ha⟩,λD hD=>?_⟩);refine nz (xs:=xs) (λi ys H'=>Same H H'/\ys=((ds.take i).map pr).map V.int) ⟨Same.fresh _ hD,rfl⟩ (λi ys H' p=>SqL.of<|p.1 _ _ ha) (λi x ys H' hx hi aV bG p=>?_) λys H' aV bG p=>?_
 .obtain⟨p1,rfl⟩:=p;obtain⟨b,r,c,z,rfl,hb,hz,hd⟩:=hs.at hr hx;refine⟨Agree.set (Agree.refl _) rfl,?_⟩;dsimp only[uw];refine oo ?_;refine(kj _ rfl b _ _ _ ⟨rfl,rfl,SqT.of<|p1 _ _ hb,hj r c z,ny (by lia) aV bG ⟨p1.new hD,?_⟩⟩);rw[k8 pr hd,bb];rfl
 .obtain⟨p1,rfl⟩:=p;refine q D H' p1 ?_;rw[aV,au<|by lia]
def ai4{t l:Int}(hσ:σ[0]?=some (some<|.ref a))(h1:σ[1]?=some (some<|.int t))(h2:σ[2]?=some (some<|.int l))(ha:H a=some (.lst xs))(hr:RepAll H ds xs)(hs:Spots ds)(hl:ds.length<64)
  (q:∀D ys H',Same H H'->H' D=some (.lst ys)->RepAll H' (ds.map<|tq t l) ys->Q (.ref D) H') :
  xB (EA K<|jB 0) [none,none,none,some 1,some 2] (Aw K 3<|ym (ub 0)<|ym (ub 1)<|ym (ub 2) CB) uw
   (Et<|sL (tOp (rI0 λi j=>.int<|i-j) (jB 0)<|jB 3)<|sL (tOp (rI0 λi j=>.int<|i-j) (jB 1)<|jB 4)<|sL (jB 2) CC) σ H Q:=by
 have aX:=hr.length;refine(mm _ hσ a ⟨rfl,⟨_,SqL.of ha⟩,λD hD=>?_⟩);have hp:se [none,none,none,some 1,some 2] σ=[none,none,none,some<|.int t,some<|.int l]:=by unfold se;simp[h1,h2]
 refine nz (xs:=xs) (λi ys H'=>Same H H'/\RepAll H' ((ds.take i).map (tq t l)) ys) ⟨Same.fresh _ hD,rfl⟩ (λi ys H' p=>SqL.of<|p.1 _ _ ha) (λi x ys H' hx hi aV bG p=>?_) λys H' aV bG p=>?_
 .obtain⟨p1,p2⟩:=p;obtain⟨b,r,c,z,rfl,hb,hz,hd⟩:=hs.at hr hx;rw[hp];refine(nj b _ rfl (SqT.of<|p1 _ _ hb) rfl _ _ rfl _<|nk _ rfl _ _ ⟨rfl,rfl,?_⟩);refine⟨Agree.set (Agree.set (Agree.set (Agree.refl _) rfl) rfl) rfl,?_⟩;dsimp only[uw];refine oo ?_;refine(su _ rfl _ rfl _ _ rfl rfl _ ⟨rfl,(nh _ rfl _ _ rfl rfl _ ⟨rfl,sZ3,λn hn=>?_⟩)⟩);have hnD:D≠n:=λe=>by rw[<-e,aV]at hn;cases hn
  have hnH:H n=none:=p1.free hn;have im:qd (((ds.take i).map (tq t l))++[.tuple [.int (r-t),.int<|c-l,.str z]])=true:=qz λd mV=>by
   rcases bm.mp mV with h|h
   .obtain⟨d0,h0,rfl⟩:=a7.mp h;obtain⟨r0,c0,x0,rfl⟩:=hs d0<|dn h0;rfl
   .rw[ay.mp h];rfl
  have wN:upd H' n (.tup [.int (r-t),.int<|c-l,.str z]) D=some (.lst ys):=by rw[lg hnD];exact aV
  have uK:Same H' (upd H' n<|.tup [.int (r-t),.int<|c-l,.str z]):=Same.fresh _ hn;have uJ:RepAll (upd H' n<|.tup [.int (r-t),.int<|c-l,.str z]) (((ds.take i).map (tq t l))++[.tuple [.int (r-t),.int<|c-l,.str z]]) (ys++[.ref n]):=(p2.same uK).snoc (wa kr hz);refine ny (by lia) wN bG ⟨(p1.trans uK).new hD,?_⟩;rw[k8 (tq t l) hd];exact uJ.tk (Tk.lst wN) im
 .obtain⟨p1,p2⟩:=p;rw[au (by lia)]at p2;exact q D ys H' p1 aV p2
end
def abr{ds:U Z9}(hs:Spots ds)(t l:Int):Rows [true,false] (ds.map<|tq t l):=λd hd=>by obtain⟨e,he,rfl⟩:=a7.mp hd;obtain⟨r,c,x,rfl⟩:=hs e he;exact(nk _ rfl _ _ ⟨rfl,(lc _ _ ⟨rfl,(lc _ _ ⟨rfl,rfl⟩)⟩)⟩)
noncomputable def sLt(x y:Str):Bool:=decide<|x.cps.toList<y.cps.toList
def aqs{x y:Str}(h:sLt x y=true):sLt y x=false:=by have h':x.cps.toList<y.cps.toList:=of_decide_eq_true h;exact decide_eq_false<|List.lt_asymm h'
def at9{a b c:Str}(h1:sLt b a=false)(h2:sLt c b=false):sLt c a=false:=by have jX:a.cps.toList<=b.cps.toList:=of_decide_eq_false h1;have jH:b.cps.toList<=c.cps.toList:=of_decide_eq_false h2;exact decide_eq_false<|List.le_trans jX jH
def apu{a b:Str}(h1:sLt a b=false)(h2:sLt b a=false):a=b:=by
 have jX:b.cps.toList<=a.cps.toList:=of_decide_eq_false h1;have jH:a.cps.toList<=b.cps.toList:=of_decide_eq_false h2;have e:=List.le_antisymm jH jX;cases a;cases b;simp only at e
 congr
 exact Array.ext' e
def C0(i j:Int)(r r':U Z9):qb (.int i::r) (.int j::r')=if i=j then qb r r' else decide (i<j):=by
 show(if (i==j)=true then qb r r' else decide (i<j))=_;by_cases h:i=j
 .rw[if_pos h,if_pos<|by rw[h];simp]
 .rw[if_neg h,if_neg<|by simpa using h]
def CT(x y:Str)(r r':U Z9):qb (.str x::r) (.str y::r')=if x=y then qb r r' else sLt x y:=by
 show(if (x==y)=true then qb r r' else decide (x.cps.toList<y.cps.toList))=_;by_cases h:x=y
 .rw[if_pos h,if_pos<|by rw[h];simp]
 .rw[if_neg h,if_neg<|by simpa using h];rfl
theorem CU:∀{ks:U Bool} {xs ys:U Z9},Row ks xs->Row ks ys->qb xs ys=true->qb ys xs=false
 | [],xs,ys,h1,h2,h=>by cases (show xs=[]from h1);cases (show ys=[]from h2);rfl
 | true::ks,xs,ys,h1,h2,h=>by
  obtain⟨i,r,rfl,h1⟩:=h1;obtain⟨j,r',rfl,h2⟩:=h2;rw[C0]at h⊢;by_cases e:i=j
  .rw[if_pos e]at h;rw[if_pos e.symm];exact CU h1 h2 h
  .rw[if_neg e]at h;rw[if_neg (Ne.symm e)];have:=of_decide_eq_true h;exact decide_eq_false (by omega)
 | false::ks,xs,ys,h1,h2,h=>by
  obtain⟨i,r,rfl,h1⟩:=h1;obtain⟨j,r',rfl,h2⟩:=h2;rw[CT]at h⊢;by_cases e:i=j
  .rw[if_pos e]at h;rw[if_pos e.symm];exact CU h1 h2 h
  .rw[if_neg e]at h;rw[if_neg (Ne.symm e)];exact aqs h
theorem CI:∀{ks:U Bool} {a b c:U Z9},Row ks a->Row ks b->Row ks c->qb b a=false->qb c b=false->qb c a=false
 | [],a,b,c,h1,h2,h3,h4,h5=>by cases (show a=[]from h1);cases (show c=[]from h3);rfl
 | true::ks,a,b,c,h1,h2,h3,h4,h5=>by
  obtain⟨i,r,rfl,h1⟩:=h1;obtain⟨j,r',rfl,h2⟩:=h2;obtain⟨k,r'',rfl,h3⟩:=h3;rw[C0]at h4 h5⊢;by_cases e1:j=i
  .rw[if_pos e1]at h4;by_cases e2:k=j
   .rw[if_pos e2]at h5;rw[if_pos (e2.trans e1)];exact CI h1 h2 h3 h4 h5
   .rw[if_neg e2]at h5;rw[if_neg (by omega)];have:=of_decide_eq_false h5;exact decide_eq_false<|by omega
  .rw[if_neg e1]at h4;have q1:=of_decide_eq_false h4;by_cases e2:k=j
   .rw[if_neg (by omega)];exact decide_eq_false<|by omega
   .rw[if_neg e2]at h5;have q2:=of_decide_eq_false h5;rw[if_neg (by omega)];exact decide_eq_false (by omega)
 | false::ks,a,b,c,h1,h2,h3,h4,h5=>by
  obtain⟨i,r,rfl,h1⟩:=h1;obtain⟨j,r',rfl,h2⟩:=h2;obtain⟨k,r'',rfl,h3⟩:=h3;rw[CT]at h4 h5⊢;by_cases e1:j=i
  .rw[if_pos e1]at h4;by_cases e2:k=j
   .rw[if_pos e2]at h5;rw[if_pos (e2.trans e1)];exact CI h1 h2 h3 h4 h5
   .rw[if_neg e2]at h5;rw[if_neg (by rw[<-e1];exact e2),<-e1];exact h5
  .rw[if_neg e1]at h4;by_cases e2:k=j
   .rw[if_neg (by rw[e2];exact e1),e2];exact h4
   .rw[if_neg e2]at h5;by_cases e3:k=i
    .subst e3;exact absurd (apu h5 h4) e2
    .rw[if_neg e3];exact at9 h4 h5
theorem aq1{ks0:U Bool}{ds:U Z9}(h:Rows ks0 ds):Ord (tM ds):=by
 obtain⟨ks,yL,hk⟩:∃ks,ks=true::ks0/\ks≠[]:=⟨_,rfl,by simp⟩;have jR:∀i,uq (ds.getD i .none)=[]\/Row ks (uq<|ds.getD i .none):=λi=>by
  by_cases hi:i<ds.length
  .right;have e:ds.getD i .none=ds[i]:=by simp[List.getD,hi]
   obtain⟨r,e2,hr⟩:=h ds[i] (fk hi);rw[e,e2,yL];exact hr
  .left;have e:ds.getD i .none=.none:=by simp[List.getD,ji<|Nat.le_of_not_lt hi]
   rw[e];rfl
 have ne:∀{r:U Z9},Row ks r->∃x xs,r=x::xs:=λ{r} hr=>by
  match ks,hk,hr with
  | true::ks,_,⟨i,r,e,_⟩=>exact(lc _ _ e)
  | false::ks,_,⟨i,r,e,_⟩=>exact(lc _ _ e)
 refine⟨λa b lT=>?_,λa b c h1 h2=>?_⟩
 .show qb (uq<|ds.getD b .none) (uq<|ds.getD a .none)=false;have yT:qb (uq<|ds.getD a .none) (uq<|ds.getD b .none)=true:=lT;rcases jR a with ea|ea<;>rcases jR b with eb|eb
  .rw[ea,eb];rfl
  .obtain⟨x,xs,e⟩:=ne eb;rw[ea,e];rfl
  .obtain⟨x,xs,e⟩:=ne ea;rw[e,eb]at yT;cases yT
  .exact CU ea eb yT
 .show qb (uq<|ds.getD c .none) (uq<|ds.getD a .none)=false;have jX:qb (uq<|ds.getD b .none) (uq<|ds.getD a .none)=false:=h1;have jH:qb (uq<|ds.getD c .none) (uq<|ds.getD b .none)=false:=h2;rcases jR a with ea|ea
  .rw[ea];rcases jR c with ec|ec
   .rw[ec];rfl
   .obtain⟨x,xs,e⟩:=ne ec;rw[e];rfl
  .obtain⟨x,xs,e⟩:=ne ea;rcases jR b with eb|eb
   .rw[eb,e]at jX;cases jX
   .obtain⟨y,ys,e2⟩:=ne eb;rcases jR c with ec|ec
    .rw[ec,e2]at jH;cases jH
    .exact CI ea eb ec jX jH
theorem Iy:∀{ks:U Bool} {a b:U Z9},Row ks a->Row ks b->qb a b=false->qb b a=false->a=b
 | [],a,b,h1,h2,_,_=>by cases (show a=[]from h1);cases (show b=[]from h2);rfl
 | true::ks,a,b,h1,h2,h3,h4=>by
  obtain⟨i,r,rfl,h1⟩:=h1;obtain⟨j,r',rfl,h2⟩:=h2;rw[C0]at h3 h4;by_cases e:i=j
  .rw[if_pos e]at h3;rw[if_pos e.symm]at h4;rw[e,Iy h1 h2 h3 h4]
  .rw[if_neg e]at h3;rw[if_neg (Ne.symm e)]at h4;have:=of_decide_eq_false h3;have:=of_decide_eq_false h4;exact absurd (by omega) e
 | false::ks,a,b,h1,h2,h3,h4=>by
  obtain⟨i,r,rfl,h1⟩:=h1;obtain⟨j,r',rfl,h2⟩:=h2;rw[CT]at h3 h4;by_cases e:i=j
  .rw[if_pos e]at h3;rw[if_pos e.symm]at h4;rw[e,Iy h1 h2 h3 h4]
  .rw[if_neg e]at h3;rw[if_neg (Ne.symm e)]at h4;exact absurd (apu h3 h4) e
theorem aeg{α:Type}{R:α->α->Prop}:∀{xs ys:List α},xs.Perm ys->xs.Pairwise R->ys.Pairwise R->(∀x∈xs,∀y∈xs,R x y->R y x->x=y)->xs=ys
 | [],ys,p,_,_,_=>(List.Perm.nil_eq p).symm▸rfl
 | x::xs,[],p,_,_,_=>absurd p.length_eq (by simp)
 | x::xs,y::ys,p,hx,hy,ha=>by
  have pN:=gc.mp hx;have vX:=gc.mp hy;have m1:y∈x::xs:=p.mem_iff.mpr am;have m2:x∈y::ys:=p.mem_iff.mp am;have e:x=y:=by
   rcases ar.mp m1 with e|m
   .exact e.symm
   .rcases ar.mp m2 with e|m'
    .exact e
    .exact ha x am y m1 (pN.1 y m)<|vX.1 x m'
  subst e;rw[aeg (List.Perm.cons_inv p) pN.2 vX.2 λa h1 b h2=>ha a (ao _ h1) b<|ao _ h2]
def abg(ds:U Z9):((fu ds.length).map λi=>ds.getD i .none)=ds:=by
 apply List.ext_getElem
 .simp
 .intro i h1 h2;simp[List.getD,h2]
def uu(ds:U Z9):(qf ds).Perm ds:=by have h:=(ahk (tM ds) ds.length).map λi=>ds.getD i .none;rw[abg]at h;exact h
theorem ahs{ks:U Bool}{ds:U Z9}(h:Rows ks ds){i j:Nat}{x y:Z9}(hx:(qf ds)[i]?=some x)(hy:(qf ds)[j]?=some y)(cA:i<=j):qb (uq y) (uq x)=false:=by
 unfold qf at hx hy;rw[a8]at hx hy;have hj:j<(srt (tM ds) ds.length).length:=by
  cases e:(srt (tM ds) ds.length)[j]? with
  | none=>rw[e]at hy;cases hy
  | some k=>exact(ap.mp e).1
 have hi:i<(srt (tM ds) ds.length).length:=by omega
 rw[af hi]at hx;rw[af hj]at hy;cases hx;cases hy;have u:=atm (aq1 h) ds.length cA (by rw[abp]at hj;exact hj);have e1:(srt (tM ds) ds.length).getD i 0=(srt (tM ds) ds.length)[i]:=by simp[List.getD,hi]
 have e2:(srt (tM ds) ds.length).getD j 0=(srt (tM ds) ds.length)[j]:=by simp[List.getD,hj]
 rw[e1,e2]at u;exact u
end L3
namespace L3
open PySem PySem.Spec PyProof.Rows
section
variable{prog:aK}{w:aN}{A:Around}{R:iF->aB->Prop}{I:aE}{fp wr:U aE}{n:Nat}{P:Nat->aA->Prop}{St:Nat->Heap->Prop}
theorem alk(kw:U (Str×aA))(W:fF prog w A.in1 I fp wr n P St)(bt:Nat->Nat->Bool)(iY:oF prog w A.in1 .Gt P bt)(S:aE)(gL:S∉fp) :
  ∀(k j:Nat)(s:aB)(vb:aA)(c:Nat),n-(j+1)=k->j+1<=n->St (j+1) s.heap->P (bQ bt j) vb->
  s.heap.get? S=some {cls:=.type "list",dict:=none,data:=.seq #[vb,vb] c,slots:=#[]}->
  (∀v h' tk,P (bQ bt<|n-1) v->(∀b o,b∉wr->b≠S->s.heap.get? b=some o->h'.get? b=some o)->R (.ok<|.ret v) {s with heap:=h',toks:=tk})->
  bY (aH prog w) A (.builtin "max.loop" ⟨[.ref I,.none,.ref S],kw⟩) R s:=by
 have oT:S∉wr:=λh=>gL<|W.sub _ h;have nm:(bO "max" ++ bO ".loop" : String)="max.loop":=by decide
 intro k;induction k with
 | zero=>
  intro j s vb c hk hj bS uW hS hR;have mT:j+1=n:=by omega
  refine dq F.entry_max_loop ?_;rw[cv F.plain_max_loop _];show aG _ A.in1 (eK (.ref S) >>= _) _ _ s;refine aa<|ix hS rfl ?_;show aG _ A.in1 (fN (bB<|.ref I) _ >>= _) _ _ s;refine aa<|bU<|W.done s _ _ (mT▸bS) λh' tk dW=>?_;have fW:=dW S _ oT hS;show aG _ A.in1 (fM S (λ_=>#[]) >>= _) _ _ _;refine aa<|bK fW rfl<|aa<|bX<|ai ?_;exact hR vb _ tk (by rw[<-mT];exact uW) λb o iM kT e=>(br _ _<|Ne.symm kT).trans (dW b o iM e)
 | succ k ih=>
  intro j s vb c hk hj bS uW hS hR;have cF:j+1<n:=by omega
  refine dq F.entry_max_loop ?_;rw[cv F.plain_max_loop _];show aG _ A.in1 (eK (.ref S) >>= _) _ _ s;refine aa<|ix hS rfl ?_;show aG _ A.in1 (fN (bB<|.ref I) _ >>= _) _ _ s;refine aa<|bU<|W.item (j+1) s _ _ cF bS λv h' tk hP gU dW=>?_;have fW:=dW S _ oT hS;show aG _ A.in1 (fN (fZ [v,v]<|richCompare .Gt v vb >>= _) _ >>= _) _ _ _;refine aa<|bU<|db<|aa<|iY (j+1) (bQ bt j) v vb _ _ _ hP uW ?_;refine aa<|db<|e8 ?_;refine aa<|bX<|ai ?_;cases hb:bt (j+1) (bQ bt j)with
  | true=>
   simp only[if_true];refine aa<|bK fW rfl<|aa<|bX ?_;rw[nm];refine ai ⟨gt F.plain_max_loop _,ih (j+1) _ v _ (by omega) cF (W.frame _ _ _ gU λb yO o e=>?_) (by simp only[bQ,hb,if_true];exact hP) (cp _ fW rfl) λv' oU iR mG iX=>?_⟩
   .exact(br _ _ λh:S=b=>gL<|by rw[h];exact yO).trans e
   .exact hR v' oU iR mG λb o iM kT e=>iX b o iM kT ((br _ _<|Ne.symm kT).trans (dW b o iM e))
  | false=>
   simp only[a0,if_false];refine aa<|bX ?_;rw[nm];refine ai ⟨gt F.plain_max_loop _,ih (j+1) _ vb c (by omega) cF gU (by simp only[bQ,hb,a0,if_false];exact uW) fW λv' oU iR mG iX=>?_⟩;exact hR v' oU iR mG λb o iM kT e=>iX b o iM kT<|dW b o iM e
def aij(kw:U (Str×aA))(W:fF prog w A.in1 I fp wr n P St)(bt:Nat->Nat->Bool)(iY:oF prog w A.in1 .Gt P bt)(S:aE)(gL:S∉fp)(hn:0<n){s:aB}{c:Nat}(bS:St 0 s.heap)
  (hS:s.heap.get? S=some {cls:=.type "list",dict:=none,data:=.seq #[] c,slots:=#[]})
  (hR:∀v h' tk,P (bQ bt<|n-1) v->(∀b o,b∉wr->b≠S->s.heap.get? b=some o->h'.get? b=some o)->R (.ok<|.ret v) {s with heap:=h',toks:=tk}) :
  bY (aH prog w) A (.builtin "max.loop" ⟨[.ref I,.none,.ref S],kw⟩) R s:=by
 have oT:S∉wr:=λh=>gL<|W.sub _ h;have nm:(bO "max" ++ bO ".loop" : String)="max.loop":=by decide
 refine dq F.entry_max_loop ?_;rw[cv F.plain_max_loop _];show aG _ A.in1 (eK (.ref S) >>= _) _ _ s;refine aa<|ix hS rfl ?_;show aG _ A.in1 (fN (bB<|.ref I) _ >>= _) _ _ s;refine aa<|bU<|W.item 0 s _ _ hn bS λv h' tk hP gU dW=>?_;have fW:=dW S _ oT hS;show aG _ A.in1 (fM S (λ_=>#[v,v]) >>= _) _ _ _;refine aa<|bK fW rfl ?_;rw[nm];refine ai ⟨gt F.plain_max_loop _,alk kw W bt iY S gL _ 0 _ v _ rfl hn (W.frame _ _ _ gU λb yO o e=>?_) hP (cp _ fW rfl) λv' oU iR mG iX=>?_⟩
 .exact(br _ _ λh:S=b=>gL<|by rw[h];exact yO).trans e
 .exact hR v' oU iR mG λb o iM kT e=>iX b o iM kT<|(br _ _<|Ne.symm kT).trans (dW b o iM e)
end
section
variable{prog:aK}{w:aN}{A:Around}{E:aA->aB->Prop}{s:aB}
theorem af7{x d:aA}{Q:aA->aB->Prop}
  (h:aG (aH prog w) A.in1 (hJ x) (λit s₂=>∃I fp wr n P St bt,it=.ref I/\fF prog w A.in1 I fp wr n P St/\St 0 s₂.heap/\(∀b∈fp,b<s₂.heap.objs.size)/\0<n/\oF prog w A.in1 .Gt P bt/\
   ∀v h' tk,P (bQ bt<|n-1) v->(∀b o,b∉wr->s₂.heap.get? b=some o->h'.get? b=some o)->Q v {s₂ with heap:=h',toks:=tk}) E s) :
  aG (aH prog w) A (call (.builtin "max") [x] [(ab "default",d)]) Q E s:=by
 have nm:(bO "max" ++ bO ".loop" : String)="max.loop":=by decide
 refine fX<|cL F.plain_max F.entry_max ?_;simp only[lA,F.kind_max];have go:aG (aH prog w) A.in1 (Builtin.«max» ⟨[x],[(ab "default",d)]⟩) (λfin s'=>match fin with
   | .done f=>(match (Except.ok f:iF)with|.ok (.ret v)=>Q v s'|.ok _=>False|.error e=>E e s')
   | .again c'=>c'.quiet=true/\bY (aH prog w) A c' (λr s'=>match r with|.ok (.ret v)=>Q v s'|.ok _=>False|.error e=>E e s') s') E s:=by
  show aG _ A.in1 (Builtin.Builtins.bindParams "max" ["key","default"] 0 ⟨[],[(ab "default",d)]⟩ >>= _) _ _ s;refine aa<|eZ (show Builtin.Builtins.bindParams "max" ["key","default"] 0 ⟨[],[(ab "default",d)]⟩=aT [none,some d]from rfl) ?_;refine aa<|ai ?_;refine aa<|jg h (λit s₂ h₂=>?_) λ_ _ e=>e;obtain⟨I,fp,wr,n,P,St,bt,rfl,W,bS,pP,hn,iY,hQ⟩:=h₂;refine aa<|f7 ?_;have gL:s₂.heap.objs.size∉fp:=λhm=>iq _<|pP _ hm;rw[nm];refine ai ⟨gt F.plain_max_loop _,aij _ W bt iY s₂.heap.objs.size gL hn (W.frame _ _ _ bS λb _ o e=>ah _ e) (a6 _ rfl) λv h' tk hP hk=>?_⟩;exact hQ v h' tk hP λb o iM e=>hk b o iM (cj<|be e)<|ah _ e
 cases xU:Manifest.signature? "max" with
 | none=>exact ai go
 | some Fe=>
  have eJ:Bind.checkArgs "max" Fe ⟨[x],[(ab "default",d)]⟩=aT ():=by have:=alx x d;simpa only [lB,xU]using this
  simp only[eJ];exact ai go
def anb{l:aE}{d:aA}{vs:U aA}{ns:U Int}{Q:aA->aB->Prop}(hh:A.handled=none)(hl:s.heap.IsList l vs.toArray)(hi:fG vs ns)(eG:0<ns.length)
  (h:∀h' M (t:pF) tk,(∀b o,s.heap.get? b=some o->h'.get? b=some o)->M∈ns->(∀a,a∈ns->a<=M)->Q (.int M t) {s with heap:=h',toks:=tk}) :
  aG (aH prog w) A (call (.builtin "max") [.ref l] [(ab "default",d)]) Q E s:=by
 obtain⟨xs,e⟩:=hi.allInts.items;have iL:ns=xs.toList.map (·.1):=by rw[<-hi.numsOf,<-iU,<-e]
 have hsz:0<xs.size:=by have h3:=eG;rw[iL,ae,aw]at h3;exact h3
 rw[e]at hl;refine af7<|iter_intList hl λs₂ e st pP GA=>?_;subst e;refine(lr _ _ _ _ _<|lc _ _ ⟨rfl,fF.list (A:=A.in1) hh _ l GA<|fP xs,st,pP,by simpa [fP]using hsz,oF.ints_gt (lH xs) λ_ _=>fB,λv h' tk hP hk=>?_⟩);have hv:(fP xs)[bQ (λi j=>decide<|lH xs i>lH xs j) (xs.size-1)]?=some v:=by simpa [fP]using hP
 obtain⟨t,rfl⟩:=fB hv;obtain⟨h1,h2⟩:=argBest_gt (lH xs)<|xs.size-1;refine h _ _ t tk (old_kept hk) ?_ λa ha=>?_
 .rw[iL,fO];exact getD_mem<|by rw[ae,aw];omega
 .rw[iL]at ha;obtain⟨j,hj,rfl⟩:=vU ha;rw[ae,aw]at hj;rw[<-fO];exact h2 j<|by omega
def akd{l:aE}{vs:U aA}{ns:U Int}{Q:aA->aB->Prop}(hh:A.handled=none)(hl:s.heap.IsList l vs.toArray)(hi:fG vs ns)(eG:0<ns.length)
  (h:∀h' M (t:pF) tk,(∀b o,s.heap.get? b=some o->h'.get? b=some o)->M∈ns->(∀a,a∈ns->a<=M)->Q (.int M t) {s with heap:=h',toks:=tk}) :
  aG (aH prog w) A (call (.builtin "max") [.ref l]) Q E s:=by
 obtain⟨xs,e⟩:=hi.allInts.items;have iL:ns=xs.toList.map (·.1):=by rw[<-hi.numsOf,<-iU,<-e]
 have hsz:0<xs.size:=by have h3:=eG;rw[iL,ae,aw]at h3;exact h3
 rw[e]at hl;refine max_intList hh hl hsz λv h' tk hv hk=>?_;obtain⟨t,rfl⟩:=fB hv;obtain⟨h1,h2⟩:=argBest_gt (lH xs)<|xs.size-1;refine h _ _ t tk hk ?_ λa ha=>?_
 .rw[iL,fO];exact getD_mem<|by rw[ae,aw];omega
 .rw[iL]at ha;obtain⟨j,hj,rfl⟩:=vU ha;rw[ae,aw]at hj;rw[<-fO];exact h2 j<|by omega
end
end L3
namespace L3
noncomputable abbrev Cl:=Int×Int
def Tch(a b:Cl):Prop:=(a.1=b.1/\(b.2=a.2+1\/a.2=b.2+1))\/(a.2=b.2/\(b.1=a.1+1\/a.1=b.1+1))
def Tch.symm{a b:Cl}(h:Tch a b):Tch b a:=by unfold Tch at *;lia
def Conn(S:U Cl):Prop:=∀T:Cl->Prop,(∃a,a∈S/\T a)->(∀a b,a∈S->b∈S->T a->Tch a b->T b)->∀a,a∈S->T a
def Conn.one(a:Cl):Conn [a]:=λT ⟨b,hb,tb⟩ _ c hc=>by rw[ay.mp hc,<-ay.mp hb];exact tb
def Conn.snoc{S:U Cl}{a b:Cl}(h:Conn S)(ha:a∈S)(t:Tch a b):Conn (S++[b]):=λT ⟨c,hc,tc⟩ go d hd=>by
 have mS:∀{x},x∈S->x∈S++[b]:=λhx=>f9 _ hx;have mb:b∈S++[b]:=b8 _<|ay.mpr rfl;have inS:∃x,x∈S/\T x:=by
  rcases bm.mp hc with h1|h1
  .exact⟨c,h1,tc⟩
  .rw[ay.mp h1]at tc;exact⟨a,ha,go b a mb (mS ha) tc t.symm⟩
 have all:=h T inS λx y hx hy tx Fb=>go x y (mS hx) (mS hy) tx Fb;rcases bm.mp hd with h1|h1
 .exact all d h1
 .rw[ay.mp h1];exact go a b (mS ha) mb (all a ha) t
theorem Conn.map{S:U Cl}{f:Cl->Cl}(h:Conn S)(hf:∀a b,Tch a b->Tch (f a) (f b)):Conn (S.map f):=λT ⟨c,hc,tc⟩ go d hd=>by obtain⟨x,hx,rfl⟩:=a7.mp hc;obtain⟨y,hy,rfl⟩:=a7.mp hd;exact h (λa=>T<|f a) ⟨x,hx,tc⟩ (λa b ha hb ta tab=>go _ _ (cg ha) (cg hb) ta<|hf a b tab) y hy
def Conn.congr{S S':U Cl}(h:Conn S)(e:∀a,a∈S'↔a∈S):Conn S':=λT ⟨c,hc,tc⟩ go d hd=>
 h T ⟨c,(e c).mp hc,tc⟩ (λa b ha hb=>go a b ((e a).mpr ha)<|(e b).mpr hb) d ((e d).mp hd)
def Conn.closed{S R:U Cl}(h:Conn S)(hs:∀a,a∈R->a∈S)(eG:∃a,a∈R)(hc:∀a,a∈R->∀b,b∈S->Tch a b->b∈R):∀a,a∈S->a∈R:=by obtain⟨a,ha⟩:=eG;exact h (λx=>x∈R) ⟨a,hs a ha,ha⟩ λx y hx hy tx Fb=>hc x tx y hy Fb
def aew{α:Type}[DecidableEq α]{S R:List α}(hS:S.Nodup)(hR:R.Nodup)(e:∀a,a∈R↔a∈S):R.length=S.length:=by
 apply Nat.le_antisymm
 .exact fh hR λa ha=>(e a).mp ha
 .exact fh hS λa ha=>(e a).mpr ha
def Tch.shift(r c:Int){a b:Cl}(h:Tch a b):Tch (a.1-r,a.2-c) (b.1-r,b.2-c):=by unfold Tch at *;simp only;lia
end L3
namespace L3
open PySem PySem.Spec PyProof.Rows L2
section
variable{X:Cx}{x:Str}{p pos mO:eB}{e e2:Expr}{es:U Expr}{t tk:TA}{te:TE}
def ayq:U V->Hp->VK->Prop:=λxs H Q=>∃q,∃ns:U Int,xs=[.ref q]/\H q=some (.lst<|ns.map V.int)/\0<ns.length/\∀M,M∈ns->(∀a∈ns,a<=M)->Q (.int M) H
def aeu(hc:X.calm=true):qv X (.builtin "max") ayq:=by intro aC s σ H xs us Q I r h;obtain⟨q,ns,rfl,hq,hn,h⟩:=h;obtain⟨u,rfl,r1⟩:=qw r;cases (show u=aA.ref q from r1);obtain⟨its,rv,pl,hz⟩:=I.list<|SqL.of (K:=X.K) hq;exact akd (I.ok.hd hc) pl.isList (wj rv) hn λh' M t tk k h1 h2=>(lc (.int M) H ⟨I.kept k,⟨_,rfl⟩,h M h1 h2⟩)
def awx(t tk:TA):TE:=λσ H Q=>t σ H λvs H1=>tk σ H1 λzs H2=>zs.length=1/\ayq vs H2 Q
theorem aln(hc:X.calm=true)(hg:Gl X "max")(hm:X.mg "max" = none)(ha:PA X [e] t)(yK:PK X [⟨some "default",e2,mO⟩] tk)
  (he:bN pos (aQ [e] X.env)=(false,cD e X.env)::bN pos (aQ [] X.env):=by rfl) (gW:(bN pos<|aQ [e] X.env).any (·.1)=false:=by rfl) :
  PE X (.Call (.Name "max" p) [e] [⟨some "default",e2,mO⟩] pos) (awx t tk):=by
 intro aC s σ H Q I h;refine gd (sv I hg hm iE ?_ (by decide)<|by decide);refine callWith_kw (thn (ha pos aC s σ H _ I h) λus s1 ⟨vs,H1,I1,r,q⟩=>thn (yK pos aC s1 σ H1 _ I1 q) λws s2 ⟨zs,H2,I2,rz,vW,q2⟩=>?_) he gW;obtain⟨d,rfl⟩:∃d,ws=[d]:=by
  have hl:ws.length=1:=rz.length.symm.trans vW
  match ws,hl with
  | [d],_=>exact⟨d,rfl⟩
 obtain⟨l,ns,rfl,hq,hn,hQ⟩:=q2;obtain⟨u,rfl,r1⟩:=qw r;cases (show u=aA.ref l from r1);obtain⟨its,rv,pl,hz⟩:=I2.list<|SqL.of (K:=X.K) hq;exact anb (I2.ok.hd hc) pl.isList (wj rv) hn λh' M t tk k h1 h2=>(lc (.int M) H2 ⟨I2.kept k,⟨_,rfl⟩,hQ M h1 h2⟩)
end
def aif{ds:U Z9}(h:Spots ds):Rows [true,false] ds:=λd hd=>by obtain⟨r,c,x,rfl⟩:=h d hd;exact(nk _ rfl _ _ ⟨rfl,(lc _ _ ⟨rfl,(lc _ _ ⟨rfl,rfl⟩)⟩)⟩)
section
variable{K:av}{a:aE}{xs:U V}{ds:U Z9}{σ:L2.St}{H:Hp}{Q:VK}
def ES(r c:Int)(x:Str):atI [V.int r,.int c,.str x] 0=some (.int<|kE<|.tuple [.int r,.int c,.str x]):=rfl
def EM(r c:Int)(x:Str):atI [V.int r,.int c,.str x] 1=some (.int<|kC<|.tuple [.int r,.int c,.str x]):=rfl
end
section
variable{X:Cx}{x:Str}{pos:eB}
def qu{z:Str}(h:∃t,X.mg x=some (.str z t))(hg:Gl X x)(hd:(x==("__debug__" : Str))=false:=by decide):PE X (.Name x pos) (tC<|.str z):=by obtain⟨t,h⟩:=h;exact JC hg h ⟨t,rfl⟩ hd
def rn{z:Int}(h:∃t,X.mg x=some (.int z t))(hg:Gl X x)(hd:(x==("__debug__" : Str))=false:=by decide):PE X (.Name x pos) (tC<|.int z):=by obtain⟨t,h⟩:=h;exact JC hg h ⟨t,rfl⟩ hd
end
section
variable{X:Cx}
def v8:OpR X (aY .LtE) (λx y H Q=>∃i j,x=.str i/\y=.str j/\Q (.bl<|!decide (j.cps.toList<i.cps.toList)) H):=by intro aC s σ H x y v u Q I rx ry h;obtain⟨i,j,rfl,rfl,q⟩:=h;obtain⟨t,rfl⟩:=rx;obtain⟨t',rfl⟩:=ry;exact PySem.P.le_str<|lc (.bl _) H ⟨I,rfl,q⟩
def ay6:V->Option Int->Option Int->Hp->VK->Prop:=λx lo hi H Q=>∃z,x=.str z/\z.length<=aF/\Q (.str<|Txt.slice z lo hi) H
theorem atd:SlR X ay6:=by
 intro aC s σ H x v vl vu lo hi sl Q I rx hs pl pu h;obtain⟨z,rfl,hz,q⟩:=h;obtain⟨t,rfl⟩:=rx;obtain⟨o,ho,hc,hd⟩:=hs;have fin:∀t' k,EP X aC σ Q (.str (Txt.slice z lo hi) t') {s with toks:=k}:=λt' k=>(lc (.str _) H ⟨I.tok _,⟨_,rfl⟩,q⟩);refine(lc ("str") _ ⟨F.slot_str_getitem.lookup,dP _ _ _,?_⟩);cases pl with
 | none=>
  cases pu with
  | none=>exact dC (l:=none) (u:=none) (st:=none) ⟨o,ho,hc,hd⟩ rfl (gI ⟨fg (Txt.slice_le z _ _) hz,fin⟩)
  | int j uj=>exact dC (l:=none) (u:=some (j,uj)) (st:=none) ⟨o,ho,hc,hd⟩ rfl (gI ⟨fg (Txt.slice_le z _ _) hz,fin⟩)
 | int i ui=>
  cases pu with
  | none=>exact dC (l:=some (i,ui)) (u:=none) (st:=none) ⟨o,ho,hc,hd⟩ rfl (gI ⟨fg (Txt.slice_le z _ _) hz,fin⟩)
  | int j uj=>exact dC (l:=some (i,ui)) (u:=some (j,uj)) (st:=none) ⟨o,ho,hc,hd⟩ rfl<|gI ⟨fg (Txt.slice_le z _ _) hz,fin⟩
theorem ahv(x:Array Nat):∀(k:Nat)(eO:Array Nat),((List.replicate k x).foldl (· ++ ·) eO).size=eO.size+k*x.size
 | 0,eO=>by simp
 | k+1,eO=>by rw[List.replicate_succ,List.foldl_cons,ahv x k];simp only[Array.size_append];rw[Nat.add_mul];lia
theorem ago(x:Array Nat):∀(k:Nat)(eO:Array Nat)(c:Nat),c∈((List.replicate k x).foldl (· ++ ·) eO).toList->c∈eO.toList\/c∈x.toList
 | 0,eO,c,h=>.inl (by simpa using h)
 | k+1,eO,c,h=>by
  rw[List.replicate_succ,List.foldl_cons]at h;rcases ago x k _ c h with h|h
  .simpa using h
  .exact .inr h
def axp:R2:=λx y H Q=>∃(z:Str)(n:Int),x=.str z/\y=.int n/\0<=n/\n<=1000/\z.length<=1000/\∀w:Str,w.length=z.length*n.toNat->(∀c∈w.cps.toList,c∈z.cps.toList)->Q (.str w) H
def asz:OpR X (dX .Mult) axp:=by
 intro aC s σ H x y v u Q I rx ry h;obtain⟨z,n,rfl,rfl,h0,h1,hz,q⟩:=h;obtain⟨t,rfl⟩:=rx;obtain⟨t',rfl⟩:=ry;have hprod:z.length*n.toNat<=1000000:=by
  have a1:n.toNat<=1000:=by lia
  calc z.length*n.toNat<=1000*1000:=Nat.mul_le_mul hz a1
   _=1000000:=rfl
 refine PySem.P.mul_str (by rw[decide_eq_false (by lia),decide_eq_false<|by lia];rfl) (λh2 _=>?_) (λ_ _=>?_) ?_
 .have h3:(1:Int)<=n:=by lia
  have h4:((2:Int)^63-1)/n>=(2^63-1)/1000:=by
   refine(Int.le_ediv_iff_mul_le<|by lia).mpr ?_
   calc ((2:Int)^63-1)/1000*n<=((2:Int)^63-1)/1000*1000:=Int.mul_le_mul_of_nonneg_left h1 (by decide)
    _<=2^63-1:=by decide
  have h5:((2:Int)^63-1)/1000>=1000:=by decide
  lia
 .unfold PySem.Builtin.Str.tooLong;rw[jl];exact decide_eq_false<|by lia
 .by_cases hn:n<1
  .rw[if_pos hn];have e:n=0:=by lia
   subst e;exact⟨by decide,(lc (.str Str.empty) H ⟨I.tok _,⟨_,rfl⟩,q _ (by simp[Str.empty,Str.length])<|by simp[Str.empty]⟩)⟩
  .rw[if_neg hn];by_cases hc:(n==1||z.length==0)=true
   .rw[if_pos hc];refine(lc (.str z) H ⟨I,⟨_,rfl⟩,q _ ?_ λc hc=>hc⟩);simp only[Bool.or_eq_true,beq_iff_eq]at hc;rcases hc with e|e
    .rw[e];simp
    .rw[e];simp
   .rw[if_neg hc];have e:(⟨(List.replicate n.toNat z.cps).foldl (· ++ ·) #[]⟩:Str).length=z.length*n.toNat:=by
     show((List.replicate n.toNat z.cps).foldl (· ++ ·) #[]).size=_;rw[ahv,Nat.mul_comm];simp[Str.length]
    refine⟨by rw[e,jl];lia,(lc (.str _) H ⟨I.tok _,⟨_,rfl⟩,q _ e λc hc=>?_⟩)⟩;rcases ago z.cps n.toNat #[] c (by simpa using hc)with h|h
    .simp at h
    .exact h
theorem Ju:∀{ys:U Str} {us:U aA},Vals (ys.map V.str) us->StrsAre us ys
 | [],us,h=>by cases h;exact .nil
 | y::ys,us,h=>by
  cases h with
  | cons r t=>
   obtain⟨k,e⟩:=(show ∃t,_=aA.str y t from r);subst e;exact .cons y k<|Ju t
def axc:V->U V->Hp->VK->Prop:=λx vs H Q=>∃(z:Str)(l:aE)(ys:U Str),x=.str z/\vs=[.ref l]/\H l=some (.lst<|ys.map V.str)/\(ys.map (·.length)).sum+ys.length*z.length<=1000000/\Q (.str<|Txt.join z ys) H
def uf:MtR X "str.join" axc:=by intro aC s σ H x vs v us Q I rx rv h;obtain⟨z,l,ys,rfl,rfl,hl,hz,q⟩:=h;obtain⟨t,rfl⟩:=rx;obtain⟨u,rfl,r1⟩:=qw rv;cases (show u=aA.ref l from r1);obtain⟨its,r,pl,_⟩:=I.list<|SqL.of (K:=X.K) hl;exact join_list pl.isList (by simpa using Ju r) (by lia) λt' k=>(lc (.str _) H ⟨I.tok _,⟨_,rfl⟩,q⟩)
def azf:U V->Hp->VK->Prop:=λxs H Q=>∃(p:aE)(bs:U Bool),xs=[.ref p]/\H p=some (.lst<|bs.map V.bl)/\Q (.bl<|bs.all id) H
def am1:∀(bs:U Bool),((fu bs.length).all λi=>(bs[i]?).getD true)=bs.all id:=λbs=>by
 rw[g0,bz,bz];constructor
 .intro h b hb;obtain⟨i,hi,rfl⟩:=List.mem_iff_getElem.mp hb;have:=h i (by simpa using hi);simpa [hi]using this
 .intro h i hi;have eT:i<bs.length:=by simpa using hi
  have:=h bs[i] (fk eT);simpa [eT]using this
def p9(hc:X.calm=true):qv X (.builtin "all") azf:=by
 intro aC s σ H xs us Q I r h;obtain⟨p,bs,rfl,hp,q⟩:=h;obtain⟨u,rfl,r1⟩:=qw r;cases (show u=aA.ref p from r1);obtain⟨its,rv,pl,hz⟩:=I.list<|SqL.of (K:=X.K) hp;have cF:p<s.heap.objs.size:=by obtain⟨_,_,e,_⟩:=pl;exact be e
 have aX:its.length=bs.length:=by rw[<-rv.length,ae]
 refine call_all_walk<|jn pl.isList ?_;refine⟨s.heap.objs.size,[s.heap.objs.size,p],[s.heap.objs.size],its.toArray.size,_,_,λi=>(bs[i]?).getD true,rfl,fF.list (A:=X.A.in1) (I.ok.hd hc) _ p (cj cF) its.toArray,
  ⟨⟨_,a6 _ rfl,rfl,rfl⟩,pl.isList.push _⟩,λi v s' Q' E' hP hQ=>?_,λh' tk hk=>?_⟩
 .have hi:its[i]?=some v:=by simpa using hP
  have jW:i<bs.length:=by rw[<-aX];exact(ap.mp hi).1
  obtain⟨u',e1,e2⟩:=rv.get (i:=i) (x:=.bl bs[i]) (by rw[a8,af jW];rfl);rw[hi]at e1;cases e1;cases (show v=aA.bool bs[i]from e2);have B9:Q' ((bs[i]?).getD true) s':=hQ;rw[af jW]at B9;exact e8 B9
 .refine(lc (.bl _) H ⟨I.kept λb o e=>hk b o (λhm=>?_)<|ah _ e,rfl,?_⟩)
  .rw[ay.mp hm]at e;exact iq _<|be e
  .rw[bf,aX,am1];exact q
end
noncomputable def Its(x:Str):It:=⟨λi _=>i<x.cps.toList.length,λi H v H'=>H'=H/\∃c,x.cps.toList[i]?=some c/\v=.str ⟨#[c]⟩,λi _=>x.cps.toList.length<=i⟩
def ajf{P:aK}{w:aN}{K:av}{tg:Expr}(x:Str)(t:pF)(it:aE):tL P w K tg (Its x) [it] it (λi h=>h.IsStrIter it "str_ascii_iterator" x t i)where
 mem:=by simp
 obj:=λi h st b hb=>by
  have e:b=it:=by simpa using hb
  subst e;obtain⟨o,e,c,d⟩:=st;exact⟨o,e,λv z=>by rw[d]at z;cases z⟩
 keep:=λi h h' st k=>by obtain⟨o,e,r⟩:=st;exact⟨o,k it (by simp) o e,r⟩
 item:=by
  intro X hP hw hK hc i aC s σ H E I hf st hg;subst hP hw hK;obtain⟨f0,f1,f2,f3,f4,f5⟩:=hf it (by simp);have hi:i<x.cps.size:=by simpa [Its]using hg
  refine wpAny_pyNext_ascii_item st (c:=x.cps[i]) (by simp[hi]) λh' aP sb=>?_;have I1:Inv X aC σ H {s with heap:=h',toks:=s.toks+1}:=I.turned (t':=s.toks+1) (λb o hb e=>(sb.2 b hb).trans e) f0 f1 f3 f4 f5;obtain⟨o,e,c,d⟩:=id aP;exact⟨_,rfl,CL (s:={s with heap:=h',toks:=s.toks+1}) e c d (by decide)<|lc (.str ⟨#[x.cps[i]]⟩) H ⟨I1,⟨_,rfl⟩,⟨rfl,x.cps[i],by simp[hi],rfl⟩,aP,λb hb=>(hf b hb).1⟩⟩
 done:=by
  intro X hP hw hK hc i aC s σ H E I hf st hg;subst hP hw hK;obtain⟨f0,f1,f2,f3,f4,f5⟩:=hf it (by simp);have hi:x.cps.size<=i:=by simpa [Its]using hg
  exact wpAny_pyNext_ascii_end (I.ok.hd hc) st (by simp;lia) λh' eb=>⟨rfl,I.turned (t':=s.toks) (λb o hb e=>eb b o hb e) f0 f1 f3 f4 f5⟩
 self:=λ_ _ _ _ _ st h=>wpAny_pyIter_striter_ascii st h
def alj{P:aK}{w:aN}{K:av}{tg:Expr}(x:Str)(t:pF)(it:aE):tL P w K tg (Its x) [it] it (λi h=>h.IsStrIter it "str_iterator" x t i)where
 mem:=by simp
 obj:=λi h st b hb=>by
  have e:b=it:=by simpa using hb
  subst e;obtain⟨o,e,c,d⟩:=st;exact⟨o,e,λv z=>by rw[d]at z;cases z⟩
 keep:=λi h h' st k=>by obtain⟨o,e,r⟩:=st;exact⟨o,k it (by simp) o e,r⟩
 item:=by
  intro X hP hw hK hc i aC s σ H E I hf st hg;subst hP hw hK;obtain⟨f0,f1,f2,f3,f4,f5⟩:=hf it (by simp);have hi:i<x.cps.size:=by simpa [Its]using hg
  refine wpAny_pyNext_wide_item st (c:=x.cps[i]) (by simp[hi]) λh' aP sb=>?_;have I1:Inv X aC σ H {s with heap:=h',toks:=s.toks+1}:=I.turned (t':=s.toks+1) (λb o hb e=>(sb.2 b hb).trans e) f0 f1 f3 f4 f5;obtain⟨o,e,c,d⟩:=id aP;exact⟨_,rfl,CL (s:={s with heap:=h',toks:=s.toks+1}) e c d (by decide)<|lc (.str ⟨#[x.cps[i]]⟩) H ⟨I1,⟨_,rfl⟩,⟨rfl,x.cps[i],by simp[hi],rfl⟩,aP,λb hb=>(hf b hb).1⟩⟩
 done:=by
  intro X hP hw hK hc i aC s σ H E I hf st hg;subst hP hw hK;obtain⟨f0,f1,f2,f3,f4,f5⟩:=hf it (by simp);have hi:x.cps.size<=i:=by simpa [Its]using hg
  exact wpAny_pyNext_wide_end (I.ok.hd hc) st (by simp;lia) λh' eb=>⟨rfl,I.turned (t':=s.toks) (λb o hb e=>eb b o hb e) f0 f1 f3 f4 f5⟩
 self:=λ_ _ _ _ _ st h=>wpAny_pyIter_striter_wide st h
def aze(tl:TE):TI:=λσ H R=>tl σ H λx H1=>∃z,x=.str z/\R (Its z) H1
theorem EN{X:Cx}{tg l:Expr}{tl:TE}(hl:PE X l tl):PI X tg l (aze tl):=by
 intro aC s σ H R I h;refine thn (hl aC s σ H _ I h) λv s1 ⟨x,H1,I1,r1,z,e,q⟩=>?_;subst e;obtain⟨t,rfl⟩:=r1;cases ha:z.cps.all (· < 128)with
 | true=>
  refine wpAny_pyIter_ascii ha ?_;have I2:Inv X aC σ H1 {s1 with heap:=s1.heap.push {cls:=.type "str_ascii_iterator",data:=.fields #[.str z t,.int 0 0]}}:=I1.kept (t':=s1.toks) λb o e=>ah _ e;exact(lr _ _ _ (Its z) H1 ⟨rfl,I2,ajf z t s1.heap.objs.size,⟨_,a6 _ rfl,rfl,rfl⟩,λb hb=>by rw[ay.mp hb];exact I1.fpOk (aq _)<|I1.hok.fresh<|aq _,q⟩)
 | false=>
  refine wpAny_pyIter_wide ha ?_;have I2:Inv X aC σ H1 {s1 with heap:=s1.heap.push {cls:=.type "str_iterator",data:=.fields #[.str z t,.int 0 0]}}:=I1.kept (t':=s1.toks) λb o e=>ah _ e;exact(lr _ _ _ (Its z) H1 ⟨rfl,I2,alj z t s1.heap.objs.size,⟨_,a6 _ rfl,rfl,rfl⟩,λb hb=>by rw[ay.mp hb];exact I1.fpOk (aq _)<|I1.hok.fresh<|aq _,q⟩)
def zq{x:Str}{D:aE}{sl:U (Option Nat)}{g:TG}{tt:TT}{te:TE}{σ:L2.St}{H1:Hp}{Q:VK}(Pv:Nat->U V->Hp->Prop)(h0:Pv 0 [] (upd H1 D<|.lst []))
  (hs:∀i c ys H,x.cps.toList[i]?=some c->i<x.cps.toList.length->H D=some (.lst ys)->ys.length<=i->Pv i ys H->g (.str ⟨#[c]⟩) (se sl σ) H λσ2 H2=>Agree (se sl σ) σ2/\tt σ2 H2 λb H3=>
   if b=true then te σ2 H3 λy H4=>∃xs,H4 D=some (.lst xs)/\xs.length<aF/\Nx D i Pv (upd H4 D<|.lst<|xs++[y])else Nx D i Pv H3)
  (hd:∀ys H,H D=some (.lst ys)->ys.length<=x.cps.toList.length->Pv x.cps.toList.length ys H->Q (.ref D) H):tO (Its x) sl g tt te σ H1 D Q:=by
 refine EU (Its x) x.cps.toList.length Pv h0 (λi ys H hi p=>hi) (λys H p=>aq _) (λi v ys H H' hi y hD bG p=>?_) hd;obtain⟨e,c,hc,rfl⟩:=y;subst e;exact hs i c ys _ hc hi hD bG p
def NoStr(H:Hp)(v:V):Prop:=v=.non\/(∃i,v=.int i)\/∃a,v=.ref a/\((∃xs,H a=some (.lst xs))\/(∃xs,H a=some (.tup xs))\/H a=some (.dK []))
def NoTup(H:Hp)(v:V):Prop:=v=.non\/(∃i,v=.int i)\/(∃z,v=.str z)\/∃a,v=.ref a/\((∃xs,H a=some (.lst xs))\/H a=some (.dK []))
def NoStr.ty{K:av}{H:Hp}{v:V}(h:NoStr H v):∃t,kX K H v t/\jw K t (.type "str")=some false:=by
 rcases h with rfl|⟨i,rfl⟩|⟨a,rfl,⟨xs,h⟩|⟨xs,h⟩|h⟩
 .exact⟨_,.non,rfl⟩
 .exact⟨_,.int i,rfl⟩
 .exact⟨_,.lst h,rfl⟩
 .exact⟨_,.tup h,rfl⟩
 .exact⟨_,.dK h,rfl⟩
def NoTup.ty{K:av}{H:Hp}{v:V}(h:NoTup H v):∃t,kX K H v t/\jw K t (.type "tuple")=some false:=by
 rcases h with rfl|⟨i,rfl⟩|⟨z,rfl⟩|⟨a,rfl,⟨xs,h⟩|h⟩
 .exact⟨_,.non,rfl⟩
 .exact⟨_,.int i,rfl⟩
 .exact⟨_,.str z,rfl⟩
 .exact⟨_,.lst h,rfl⟩
 .exact⟨_,.dK h,rfl⟩
def NoStr.same{H H':Hp}{v:V}(h:NoStr H v)(s:Same H H'):NoStr H' v:=by
 rcases h with rfl|⟨i,rfl⟩|⟨a,rfl,⟨xs,h⟩|⟨xs,h⟩|h⟩
 .exact .inl rfl
 .exact .inr<|.inl ⟨i,rfl⟩
 .exact .inr<|.inr ⟨a,rfl,.inl ⟨xs,s _ _ h⟩⟩
 .exact .inr<|.inr ⟨a,rfl,.inr<|.inl ⟨xs,s _ _ h⟩⟩
 .exact .inr<|.inr ⟨a,rfl,.inr<|.inr<|s _ _ h⟩
def Tx(z:Str):Prop:=z.length<=80/\∀c∈z.cps.toList,c<128
def Itm(H:Hp)(v:V):Option Str->Prop
 | some z=>v=.str z/\Tx z
 | none=>NoStr H v
def Itms(H:Hp)(vs:U V)(os:U (Option Str)):Prop:=vs.length=os.length/\∀(i:Nat)(v:V)(o:Option Str),vs[i]?=some v->os[i]?=some o->Itm H v o
def Thing(H:Hp)(v:V):Option (U<|Option Str)->Prop
 | none=>NoTup H v
 | some os=>os.length<=500/\∃a vs,v=.ref a/\H a=some (.tup vs)/\Itms H vs os
theorem Itm.same{H H':Hp}{v:V}{o:Option Str}(h:Itm H v o)(s:Same H H'):Itm H' v o:=by
 cases o with
 | none=>exact NoStr.same h s
 | some z=>exact h
theorem Itms.same{H H':Hp}{vs:U V}{os:U (Option Str)}(h:Itms H vs os)(s:Same H H'):Itms H' vs os:=⟨h.1,λi v o e e'=>(h.2 i v o e e').same s⟩
def Itms.at{H:Hp}{vs:U V}{os:U (Option Str)}{i:Nat}{v:V}(h:Itms H vs os)(e:vs[i]?=some v):∃o,os[i]?=some o/\Itm H v o:=by
 have hi:i<vs.length:=(ap.mp e).1;have eT:i<os.length:=by rw[<-h.1];exact hi
 exact⟨os[i],af eT,h.2 i v _ e<|af eT⟩
def Tx.ok{z:Str}(h:Tx z):kb z=true:=by unfold kb;rw[Array.all_eq_true'];intro c hc;have:=h.2 c (by simpa using hc);simp only[decide_eq_true_eq];lia
noncomputable def sgB(c:Nat):Bool:=(c==35||c==46||c==44)||(decide (65<=c)&&decide (c<=90))||(decide (97<=c)&&decide (c<=122))
noncomputable def lX:Option Str->Bool
 | some z=>decide (1<=z.length)&&decide (z.length<=8)&&z.cps.toList.all sgB
 | none=>false
noncomputable def lW:Option Str->Nat
 | some z=>z.length
 | none=>0
noncomputable def flB:Option (U<|Option Str)->Bool
 | none=>false
 | some os=>decide (1<=os.length)&&decide (os.length<=8)&&os.all λo=>lX o&&(lW o==lW ((os[0]?).getD none))
def akk{x:Str}{l u:Option Int}{c:Nat}(h:c∈(Txt.slice x l u).cps.toList):c∈x.cps.toList:=by
 unfold Txt.slice at h;split at h
 .exact h
 .simp only[List.mem_filterMap]at h;obtain⟨i,_,e⟩:=h;have e':x.cps.toList[i]?=some c:=by simpa using e
  exact aj e'
theorem Tx.slice{x:Str}(h:Tx x)(l u:Option Int):Tx (Txt.slice x l u):=⟨fg (Txt.slice_le x l u) h.1,λc hc=>h.2 c<|akk hc⟩
def len_cat(x y:Str):(x++y).length=x.length+y.length:=by show(x.cps++y.cps).size=_;simp[Str.length]
def Tx.cat{x y:Str}(hx:Tx x)(hy:Tx y)(hl:x.length+y.length<=80):Tx (x++y):=⟨by rw[len_cat];exact hl,λc hc=>by
 have pT:c∈(x.cps++y.cps).toList:=hc;rw[Array.toList_append,bm]at pT;rcases pT with h|h
 .exact hx.2 c h
 .exact hy.2 c h⟩
theorem atl{g:Array Nat}(hg:g=#[]):∀(l:U Str)(a:Array Nat),(l.foldl (λeO p=>eO++g++p.cps) a).toList=a.toList++(l.map λp=>p.cps.toList).flatten
 | [],a=>by simp
 | p::l,a=>by rw[List.foldl_cons,atl hg l,hg];simp
theorem qy{g:Str}(hg:g.cps=#[]):∀ys:U Str,(Txt.join g ys).cps.toList=(ys.map λp=>p.cps.toList).flatten
 | []=>by simp[Txt.join,PySem.Builtin.Str.glued,Str.empty]
 | y::ys=>by show((ys.foldl (λeO p=>eO++g.cps++p.cps) y.cps)).toList=_;rw[atl hg];simp
theorem agw:∀{ys:U Str},(∀y∈ys,y.length=1)->((ys.map λp=>p.cps.toList).flatten).length=ys.length
 | [],_=>rfl
 | y::ys,h=>by have h1:=h y am;have h2:=agw (ys:=ys) λz hz=>h z<|ao _ hz;unfold Str.length at h1;simp[h2,h1]<;>lia
theorem Tx.join{g:Str}{ys:U Str}(hg:g.cps=#[])(h1:∀y∈ys,y.length=1)(h2:∀y∈ys,Tx y)(hl:ys.length<=80):Tx (Txt.join g ys)/\(Txt.join g ys).length=ys.length:=by
 have e:=qy hg ys;have l:(Txt.join g ys).length=ys.length:=by rw[<-agw h1,<-e];simp[Str.length]
 refine⟨⟨by lia,λc hc=>?_⟩,l⟩;rw[e,List.mem_flatten]at hc;obtain⟨t,ht,hc⟩:=hc;obtain⟨y,hy,rfl⟩:=a7.mp ht;exact(h2 y hy).2 c hc
section
variable{prog:aK}{w:aN}{A:Around}{E:aA->aB->Prop}{s:aB}
def atv{I:aE}{z:Str}{t:pF}{k c:Nat}{R:aA->aB->Prop}(st:s.heap.IsStrIter I "str_ascii_iterator" z t k)(hv:z.cps[k]?=some c)
  (q:∀g,g.IsStrIter I "str_ascii_iterator" z t (k+1)->b7 I s.heap g->R (.str ⟨#[c]⟩ s.toks) {s with heap:=g,toks:=s.toks+1}):aG (aH prog w) A (f8<|.ref I) R E s:=by
 obtain⟨u,hu,uc,ud⟩:=id st;unfold f8;refine aa<|gk (name:=ab "__next__") st.typeIs jr<|gu jr st.typeIs F.entry_str_ascii_iterator_next ?_<|F.args_str_ascii_iterator_next_1 _;refine(aa (kc hu ud (x:=.str z t) rfl ?_):aG _ _ (rQ (.ref I) 0 >>= _) _ _ s);refine(aa (kc hu ud (x:=.int k 0) rfl ?_):aG _ _ (rQ (.ref I) 1 >>= _) _ _ s);simp only[fy,hv];refine aa<|jy hu ud (by simp)<|aa<|wpAny_mkStr (ai ⟨_,rfl,ai<|q _ ⟨_,cp _ hu<|Obj.isFreed_of_fields<|Obj.data_mapFields ud _,?_,?_⟩<|gj ..⟩) sZ1
 .exact(Obj.cls_mapFields ..).trans uc
 .rw[Obj.data_mapFields ud];simp[kZ]
def afa{X:aE}{h1:Heap}{k:aA->oE Fin}(hh:A.handled=none)(keep:ke X s.heap h1)
  (q:∀g e,ke X s.heap g->(∃o,g.get? e=some o/\o.cls=.type "StopIteration")->E (.ref e) {s with heap:=g}) {R:Fin->aB->Prop}
  (ek:∀v,k v=(vQ v:oE Fin)):aG (aH prog w) A (sX (.type "StopIteration") [] >>= k) R E {s with heap:=h1}:=by
 refine aa ?_;simp only[sX,nN];refine aa (f7 ?_<|by size_fits);refine aa (m:=dI _ _) (eZ (a:=aA.none) (by first|rfl|(simp only[dI];rfl))<|f7 ?_<|by size_fits);rw[ek];simp only[vQ];refine aa<|pH ?_;rw[hh];exact aa<|ai<|vI<|q _ _ ((keep.push _).push _) ⟨_,a6 _ rfl,rfl⟩
def aiz{I:aE}{z:Str}{t:pF}{k:Nat}{R:aA->aB->Prop}(hh:A.handled=none)(st:s.heap.IsStrIter I "str_ascii_iterator" z t k)(hv:z.cps[k]?=none)
  (q:∀g e,ke I s.heap g->(∃o,g.get? e=some o/\o.cls=.type "StopIteration")->E (.ref e) {s with heap:=g}):aG (aH prog w) A (f8<|.ref I) R E s:=by
 obtain⟨u,hu,uc,ud⟩:=id st;unfold f8;refine aa<|gk (name:=ab "__next__") st.typeIs jr<|gu jr st.typeIs F.entry_str_ascii_iterator_next ?_<|F.args_str_ascii_iterator_next_1 _;refine(aa (kc hu ud (x:=.str z t) rfl ?_):aG _ _ (rQ (.ref I) 0 >>= _) _ _ s);refine(aa (kc hu ud (x:=.int k 0) rfl ?_):aG _ _ (rQ (.ref I) 1 >>= _) _ _ s);simp only[fy,hv];refine aa<|cJ<|aa<|jy hu ud (by simp)<|aa<|bX ?_;exact afa (A:=A.in1) hh (gj ..).extBut q λ_=>rfl
def aj8{e I:aE}{i:Nat}{jO:aA}{Y:aA->Prop}{N:Heap->Prop}{Q:Option aA->aB->Prop}(he:gA s.heap e I i jO)(eG:e≠I)
  (hN:∀g g',N g->(∀o,g.get? I=some o->g'.get? I=some o)->N g')
  (ll:∀(A':Around)(R:aA->aB->Prop)(E':aA->aB->Prop),(∀x g tk,Y x->N g->b7 I s.heap g->R x {s with heap:=g,toks:=tk})->aG (aH prog w) A' (f8<|.ref I) R E' s)
  (hQ:∀x g tk zX,Y x->E7 g e I ((i:Int)+1) x s.heap.objs.size->N g->g.get? s.heap.objs.size=some {cls:=.type "tuple",data:=.seq #[.int i zX,x]}->(∀b o,b≠e->b≠I->s.heap.get? b=some o->g.get? b=some o)->Q (some<|.ref s.heap.objs.size) {s with heap:=g,toks:=tk}) :
  aG (aH prog w) A (bB<|.ref e) Q E s:=by
 obtain⟨h0,ga,dr,t0,os⟩:=s;have ty:aB.TypeIs ⟨h0,ga,dr,t0,os⟩ (.ref e) "enumerate":=⟨_,he,rfl⟩
 replace he:gA h0 e I i jO:=he
 have tI:e<h0.objs.size:=be he;unfold bB;refine aa<|cV<|gk (name:=ab "__next__") ty F.slot_enumerate_next<|gu F.slot_enumerate_next ty F.entry_enumerate_next ?_<|F.args_enumerate_next_1 _;show aG _ _ (rQ (.ref e) 2 >>= _) _ _ ⟨h0,ga,dr,t0,os⟩;refine aa<|kc he rfl (x:=.ref I) rfl<|aa<|ll _ _ _ λx g1 tk yx n1 Ab=>?_
 replace Ab:b7 I h0 g1:=Ab
 have e1:gA g1 e I i jO:=(Ab.2 e eG).trans he;have z1:g1.objs.size=h0.objs.size:=Ab.1;have k1:∀b o,b≠e->b≠I->h0.get? b=some o->g1.get? b=some o:=λb o _ hb h=>(Ab.2 b hb).trans h;clear Ab;show aG _ _ (rQ (.ref e) 3 >>= _) _ _ ⟨g1,ga,dr,tk,os⟩;refine aa<|kc e1 rfl (x:=kZ i) rfl ?_;show aG _ _ (rQ (.ref e) 4 >>= _) _ _ ⟨g1,ga,dr,tk,os⟩;refine aa<|kc e1 rfl (x:=.none) rfl ?_;show aG _ _ (mkInt i >>= _) _ _ ⟨g1,ga,dr,tk,os⟩;refine aa<|wpAny_mkInt ?_;show aG _ _ (setField (.ref e) 3 (kZ<|(i:Int)+1) >>= _) _ _ ⟨g1,ga,dr,tk+1,os⟩;refine aa<|c6 e1 (by simp) λg2 e2 Aa=>?_
 replace Aa:b7 e g1 g2:=Aa
 replace e2:gA g2 e I ((i:Int)+1) jO:=e2
 have z2:g2.objs.size=h0.objs.size:=Aa.1.trans z1;have n2:N g2:=hN _ _ n1 λo h=>(Aa.2 I<|Ne.symm eG).trans h;have k2:∀b o,b≠e->b≠I->h0.get? b=some o->g2.get? b=some o:=λb o hb hI h=>(Aa.2 b hb).trans (k1 b o hb hI h);clear Aa n1 k1 e1 z1;show aG _ _ (setField (.ref e) 4 .none >>= _) _ _ ⟨g2,ga,dr,tk+1,os⟩;refine aa<|c6 e2 (by simp) λg3 e3 vO=>?_
 replace vO:b7 e g2 g3:=vO
 replace e3:gA g3 e I ((i:Int)+1) jO:=e3
 have z3:g3.objs.size=h0.objs.size:=vO.1.trans z2;have n3:N g3:=hN _ _ n2 λo h=>(vO.2 I<|Ne.symm eG).trans h;have k3:∀b o,b≠e->b≠I->h0.get? b=some o->g3.get? b=some o:=λb o hb hI h=>(vO.2 b hb).trans (k2 b o hb hI h);clear vO n2 k2 e2 z2;show aG _ _ (nN [.int i tk,x] >>= _) _ _ ⟨g3,ga,dr,tk+1,os⟩;refine aa<|wpAny_newTuple ?_;have e4:gA (g3.push {cls:=.type "tuple",data:=.seq #[.int i tk,x]}) e I ((i:Int)+1) jO:=ah _ e3;have n4:N (g3.push {cls:=.type "tuple",data:=.seq #[.int i tk,x]}):=hN _ _ n3 λo h=>ah _ h;have k4:∀b o,b≠e->b≠I->h0.get? b=some o->(g3.push {cls:=.type "tuple",data:=.seq #[.int i tk,x]}).get? b=some o:=λb o hb hI h=>ah _<|k3 b o hb hI h;have t4:(g3.push {cls:=.type "tuple",data:=.seq #[.int i tk,x]}).get? h0.objs.size=some {cls:=.type "tuple",data:=.seq #[.int i tk,x]}:=by have h:=a6 g3 (o:={cls:=.type "tuple",data:=.seq #[.int i tk,x]}) rfl;rw[z3]at h;exact h
 generalize hg4:g3.push {cls:=.type "tuple",data:=.seq #[.int i tk,x]}=g4 at *;show aG _ _ (Builtin.SmallTypes.ownedTupleIsFree (.ref e) >>= _) _ _ ⟨g4,ga,dr,tk+1,os⟩;rw[z3];clear hg4 n3 k3 e3 z3 g3;refine aa ?_;unfold Builtin.SmallTypes.ownedTupleIsFree;refine aa<|kc e4 rfl (x:=.none) rfl<|ai ?_;simp only[if_true];refine aa<|cJ<|aa<|kc e4 rfl (x:=jO) rfl<|aa<|c6 e4 (by simp) λg5 e5 Fh=>?_
 replace Fh:b7 e g4 g5:=Fh
 replace e5:gA g5 e I ((i:Int)+1) x:=e5
 show aG _ _ (Builtin.SmallTypes.ownedTupleHandOut (.ref e) (.ref h0.objs.size) >>= _) _ _ ⟨g5,ga,dr,tk+1,os⟩;refine aa ?_;unfold Builtin.SmallTypes.ownedTupleHandOut;refine aa<|c6 e5 (by simp) λg6 e6 Fg=>?_
 replace Fg:b7 e g5 g6:=Fg
 replace e6:E7 g6 e I ((i:Int)+1) x h0.objs.size:=e6
 refine c6 e6 (by simp) λg7 e7 Ff=>?_
 replace Ff:b7 e g6 g7:=Ff
 replace e7:E7 g7 e I ((i:Int)+1) x h0.objs.size:=e7
 have all:∀b o,b≠e->g4.get? b=some o->g7.get? b=some o:=λb o hb h=>(Ff.2 b hb).trans ((Fg.2 b hb).trans ((Fh.2 b hb).trans h));exact aa<|bX<|ai ⟨_,rfl,ai<|hQ x g7 _ tk yx e7 (hN _ _ n4 λo h=>all I o (Ne.symm eG) h) (all _ _ (Nat.ne_of_gt tI) t4) λb o hb hI h=>all b o hb<|k4 b o hb hI h⟩
def an2{e I:aE}{i:Int}{jO:aA}{Q:Option aA->aB->Prop}(he:gA s.heap e I i jO)
  (ll:∀(R:aA->aB->Prop)(E':aA->aB->Prop),(∀g x,ke I s.heap g->(∃o,g.get? x=some o/\o.cls=.type "StopIteration")->E' (.ref x) {s with heap:=g})->aG (aH prog w) A.in1 (f8<|.ref I) R E' s)
  (hQ:∀g,ke I s.heap g->Q none {s with heap:=g}):aG (aH prog w) A (bB<|.ref e) Q E s:=by
 have ty:s.TypeIs (.ref e) "enumerate":=⟨_,he,rfl⟩;unfold bB;refine aa<|cV<|gk (name:=ab "__next__") ty F.slot_enumerate_next<|gu F.slot_enumerate_next ty F.entry_enumerate_next ?_<|F.args_enumerate_next_1 _;show aG _ _ (rQ (.ref e) 2 >>= _) _ _ s;refine aa<|kc he rfl (x:=.ref I) rfl<|aa<|ll _ _ λg x kp ⟨o,ho,hc⟩=>?_;exact aa<|dN (T:="StopIteration") (b:=true) ⟨o,ho,hc⟩ nQ<|ai<|hQ _ kp
end
section
variable{X:Cx}{aC:U (aE×Obj)}{σ:L2.St}{H:Hp}{s:aB}{h':Heap}
def arx{t':Nat}{e it:aE}(I:Inv X aC σ H s)(k:∀b o,b≠e->b≠it->s.heap.get? b=some o->h'.get? b=some o)(fe:mZ X aC H e)(fi:mZ X aC H it):Inv X aC σ H {s with heap:=h',toks:=t'}:=by
 obtain⟨e0,e1,e2,e3,e4,e5⟩:=fe;obtain⟨i0,i1,i2,i3,i4,i5⟩:=fi;have nn:∀b u,H b=some u->b≠e/\b≠it:=λb u q=>⟨λz=>(by rw[z,e0]at q;cases q),λz=>(by rw[z,i0]at q;cases q)⟩;have sp:∀b,b∉[e,it]->b≠e/\b≠it:=λb hb=>by simpa using hb
 refine I.step (g':=s.gens) (d':=s.drawn) (ch:=[e,it]) (λb hb=>?_) (λb o _ _ hc q _=>k b o (sp b hc).1 (sp b hc).2 q) (λb o _ _ hc q _=>⟨o.slots,k b o (sp b hc).1 (sp b hc).2 q⟩) (λ_ _ _ _ n=>n)
  (λb o hc q=>⟨o,k b o (sp b hc).1 (sp b hc).2 q⟩) (λ_ _ q=>q) (λ_ _ _ q=>q) (λb ps q=>⟨#[],by rw[q];simp⟩) (λm hm=>?_) (λb u q=>?_) I.bare
 .rcases ar.mp hb with z|z
  .subst z;exact⟨e3,e1,e4,e5⟩
  .rw[ay.mp z];exact⟨i3,i1,i4,i5⟩
 .obtain⟨o,es,ep,ho,r⟩:=hm;exact(mf o es ep ⟨k _ o (Ne.symm e1) (Ne.symm i1) ho,r⟩)
 .refine(I.hok b u q).stay (λc v hc r=>k c v ?_ ?_ r) (λ_ r=>r) λ_ _ r=>r
  .rcases hc with z|z
   .rw[z];exact(nn b u q).1
   .exact(nn c _ z).1
  .rcases hc with z|z
   .rw[z];exact(nn b u q).2
   .exact(nn c _ z).2
end
def aeh{P:aK}{w:aN}{K:av}{kW:U Expr}{x1}{pos:eB}(J:It)(e I:aE)(eG:e≠I)(M:Nat->Heap->Prop)
  (oM:∀i h,M i h->∃o,h.get? I=some o/\∀v,o.data≠.cell v) (h9:∀i h h',M i h->(∀o,h.get? I=some o->h'.get? I=some o)->M i h')
  (BP:∀(X:Cx),X.prog=P->X.w=w->X.K=K->∀(i:Nat) aC (s:aB) σ H,Inv X aC σ H s->M i s.heap->J.go i H->∃Y:aA->Prop,
   (∀u,Y u->∃x,RelV x u/\J.yld i H (.ref s.heap.objs.size) (upd H s.heap.objs.size<|.tup [.int i,x]))/\
   ∀(A':Around)(R:aA->aB->Prop)(E':aA->aB->Prop),(∀u g tk,Y u->M (i+1) g->b7 I s.heap g->R u {s with heap:=g,toks:=tk})->aG (aH P w) A' (f8<|.ref I) R E' s)
  (BY:∀(X:Cx),X.prog=P->X.w=w->X.K=K->∀(i:Nat) aC (s:aB) σ H,Inv X aC σ H s->M i s.heap->J.stop i H->
   ∀(A':Around)(R:aA->aB->Prop)(E':aA->aB->Prop),A'.handled=none->(∀g u,ke I s.heap g->(∃o,g.get? u=some o/\o.cls=.type "StopIteration")->E' (.ref u) {s with heap:=g})->aG (aH P w) A' (f8<|.ref I) R E' s) :
  tL P w K (.Tuple kW x1 pos) J [e,I] e (λi h=>(∃jO,gA h e I i jO)/\M i h)where
 mem:=by simp
 obj:=λi h st b hb=>by
  obtain⟨⟨jO,he⟩,m⟩:=st;rcases ar.mp hb with z|z
  .subst z;exact⟨_,he,λv z=>by cases z⟩
  .rw[ay.mp z];exact oM i h m
 keep:=λi h h' st k=>by obtain⟨⟨jO,he⟩,m⟩:=st;exact⟨⟨jO,k e (by simp) _ he⟩,h9 i h h' m λo q=>k I (by simp) o q⟩
 item:=by
  intro X hP hw hK hc i aC s σ H E Iv hf st hg;obtain⟨⟨jO,he⟩,m⟩:=st;obtain⟨Y,hY,ll⟩:=BP X hP hw hK i aC s σ H Iv m hg;subst hP hw hK;have fe:=hf e (by simp);have fi:=hf I (by simp);have tI:e<s.heap.objs.size:=be he;obtain⟨oi,hoi,_⟩:=oM i _ m;have oQ:I<s.heap.objs.size:=be hoi;refine aj8 he eG (N:=M<|i+1) (λg g' n k=>h9 _ _ _ n k) ll λu g tk zX yu eo n t4 k=>⟨_,rfl,?_⟩;refine wpAny_letOwnedTupleGo_enum (s:={s with heap:=g,toks:=tk}) eo λg' e' sb=>?_;obtain⟨v,rv,yl⟩:=hY u yu;have I1:Inv X aC σ (upd H s.heap.objs.size<|.tup [.int i,v]) {s with heap:=s.heap.push {cls:=.type "tuple",data:=.seq #[.int i zX,u]},toks:=tk}:=
   Iv.laid (t':=tk) (λb o q=>ah _ q) (aq _) ⟨by show 2<=aF;decide,[.int i zX,u],.cons ⟨zX,rfl⟩<|.cons rv .nil,(m9 _ (a6 _ rfl) rfl _ rfl)⟩
  have up:∀b,b<s.heap.objs.size->mZ X aC H b->mZ X aC (upd H s.heap.objs.size<|.tup [.int i,v]) b:=λb hb q=>⟨by rw[lg (cj hb)];exact q.1,q.2⟩;have I2:Inv X aC σ (upd H s.heap.objs.size<|.tup [.int i,v]) {s with heap:=g,toks:=tk}:=arx (s:={s with heap:=s.heap.push {cls:=.type "tuple",data:=.seq #[.int i zX,u]},toks:=tk}) (t':=tk) I1 (λb o h1 h2 q=>by
   rcases Heap.get?_push_cases q with ⟨z1,z2⟩|z
   .rw[z1,z2];exact t4
   .exact k b o h1 h2 z) (up e tI fe)<|up I oQ fi
  have Ar:=up e tI fe;have I3:Inv X aC σ (upd H s.heap.objs.size<|.tup [.int i,v]) {s with heap:=g',toks:=tk}:=Inv.turned (s:={s with heap:=g,toks:=tk}) (t':=tk) I2 (λb o hb q=>(sb.2 b hb).trans q) Ar.1 Ar.2.1 Ar.2.2.2.1 Ar.2.2.2.2.1 Ar.2.2.2.2.2;refine(lc (.ref s.heap.objs.size) _ ⟨I3,rfl,yl,⟨⟨u,e'⟩,h9 _ _ _ n λo q=>(sb.2 I<|Ne.symm eG).trans q⟩,λb hb=>?_⟩);rcases ar.mp hb with z|z
  .subst z;exact Ar.1
  .rw[ay.mp z];exact(up I oQ fi).1
 done:=by intro X hP hw hK hc i aC s σ H E Iv hf st hg;obtain⟨⟨jO,he⟩,m⟩:=st;have hd:=BY X hP hw hK i aC s σ H Iv m hg;subst hP hw hK;have fi:=hf I (by simp);exact an2 he (λR E' q=>hd _ R E' (Iv.ok.hd hc) q) λg kp=>⟨rfl,Iv.turned (t':=s.toks) (λb o hb q=>kp b o hb q) fi.1 fi.2.1 fi.2.2.2.1 fi.2.2.2.2.1 fi.2.2.2.2.2⟩
 self:=λ_ _ _ _ _ st h=>by obtain⟨⟨jO,he⟩,_⟩:=st;exact jS he h
noncomputable def Jes(z:Str):It:=
 ⟨λi _=>i<z.cps.toList.length,λi H v H'=>∃p c,H p=none/\v=.ref p/\H'=upd H p (.tup [.int i,.str ⟨#[c]⟩])/\z.cps.toList[i]?=some c,λi _=>z.cps.toList.length<=i⟩
def aip{P:aK}{w:aN}{K:av}{kW:U Expr}{x1}{pos:eB}(z:Str)(t:pF)(e I:aE)(eG:e≠I) :
  tL P w K (.Tuple kW x1 pos) (Jes z) [e,I] e (λi h=>(∃jO,gA h e I i jO)/\h.IsStrIter I "str_ascii_iterator" z t i):=by
 refine aeh (Jes z) e I eG (λi h=>h.IsStrIter I "str_ascii_iterator" z t i) (λi h st=>?_) (λi h h' st k=>?_) (λX hP hw hK i aC s σ H Iv st hg=>?_) λX hP hw hK i aC s σ H Iv st hg A' R E' hh q=>?_
 .obtain⟨o,ho,c,d⟩:=st;exact⟨o,ho,λv z=>by rw[d]at z;cases z⟩
 .obtain⟨o,ho,r⟩:=st;exact⟨o,k o ho,r⟩
 .subst hP hw hK;have hi:i<z.cps.size:=by simpa [Jes]using hg
  refine⟨λu=>∃tk,u=.str ⟨#[z.cps[i]]⟩ tk,λu hu=>?_,λA' R E' q=>?_⟩
  .obtain⟨tk,rfl⟩:=hu;exact(nk (.str ⟨#[z.cps[i]]⟩) ⟨tk,rfl⟩ s.heap.objs.size (z.cps[i]) ⟨Iv.hok.fresh<|aq _,rfl,rfl,by simp[hi]⟩)
  .exact atv st (c:=z.cps[i]) (by simp[hi]) λg aP sb=>q _ g _ ⟨_,rfl⟩ aP sb
 .subst hP hw hK;have hi:z.cps.size<=i:=by simpa [Jes]using hg
  exact aiz hh st (by simp;lia) q
section
variable{X:Cx}{kW:U Expr}{x1:Nat}{tT p pos:eB}{a:Expr}{ta:TA}
def azq(ta:TA):TI:=λσ H R=>ta σ H λvs H1=>∃z:Str,vs=[.str z]/\(∀c∈z.cps.toList,c<128)/\R (Jes z) H1
def at3(hg:Gl X "enumerate")(hm:X.mg "enumerate" = none)(ha:PA X [a] ta)(hs:o7 a=true:=by rfl):PI X (.Tuple kW x1 tT) (.Call (.Name "enumerate" p) [a] [] pos) (azq ta):=by
 intro aC s σ H R I h;refine Call_<|sv I hg hm boot_enumerate<|e9 (thn (ha pos aC s σ H _ I h) λus s1 ⟨vs,H1,I1,r1,q1⟩=>?_) (m8 hs) rfl;obtain⟨z,e,hz,q⟩:=q1;subst e;obtain⟨u,rfl,t,rfl⟩:=qw r1;have asc:strIterType z="str_ascii_iterator":=by unfold strIterType;rw[if_pos];rw[Array.all_eq_true'];intro c hc;simpa using hz c (by simpa using hc)
 refine call_enumerate_str λg he hi _ kp=>jS (s:={s1 with heap:=g}) he ?_;rw[asc]at hi;refine(lr (s1.heap.objs.size+1) ([s1.heap.objs.size+1,s1.heap.objs.size]) _ _ H1 ⟨rfl,I1.kept (t':=s1.toks) kp,aip z t (s1.heap.objs.size+1) s1.heap.objs.size<|Nat.succ_ne_self _,⟨⟨_,he⟩,hi⟩,λc hc=>?_,q⟩);rcases ar.mp hc with z|z
 .subst z;exact I1.fpOk (by lia)<|I1.hok.fresh<|by lia
 .rw[ay.mp z];exact I1.fpOk (aq _)<|I1.hok.fresh<|aq _
end
def ak4(J:It)(n:Nat){g:TG}{tb:TS}{D:oY}{σ:L2.St}{H:Hp}(Pv:Nat->L2.St->Hp->Prop)(h0:Pv 0 σ H)(uS:∀i σ H,i<n->Pv i σ H->J.go i H)(bS:∀σ H,Pv n σ H->J.stop n H)
  (hs:∀i v σ H H',i<n->Pv i σ H->J.yld i H v H'->g v σ H' λσ2 H2=>tb {D with nx:=Pv<|i+1,ct:=Pv<|i+1,bk:=D.nx} σ2 H2) (hd:∀σ H,Pv n σ H->D.nx σ H) :
  ∃W:Nat->Nat->L2.St->Hp->Prop,(∃m,W 0 m σ H)/\∀i m σ H,W i m σ H->
   (J.stop i H/\D.nx σ H)\/(J.go i H/\∃N:L2.St->Hp->Prop,(∀σ' H',N σ' H'->∃m',m'<m/\W (i+1) m' σ' H')/\∀v H',J.yld i H v H'->g v σ H' λσ2 H2=>tb {D with nx:=N,ct:=N,bk:=D.nx} σ2 H2):=by
 refine⟨λi m σ H=>m=n-i/\i<=n/\Pv i σ H,⟨n,by simp,c8 _,h0⟩,?_⟩;rintro i m σ H ⟨rfl,hi,p⟩;by_cases cF:i<n
 .exact .inr ⟨uS i σ H cF p,Pv<|i+1,λσ' H' p'=>⟨n-(i+1),by lia,rfl,cF,p'⟩,λv H' y=>hs i v σ H H' cF p y⟩
 .have e:i=n:=by lia
  subst e;exact .inl ⟨bS σ H p,hd σ H p⟩
def aro{z:Str}{g:TG}{tb:TS}{D:oY}{σ:L2.St}{H:Hp}(Pv:Nat->L2.St->Hp->Prop)(h0:Pv 0 σ H)
  (hs:∀i c p σ H,z.cps.toList[i]?=some c->H p=none->Pv i σ H->g (.ref p) σ (upd H p<|.tup [.int (i:Nat),.str ⟨#[c]⟩]) λσ2 H2=>tb {D with nx:=Pv<|i+1,ct:=Pv<|i+1,bk:=D.nx} σ2 H2) (hd:∀σ H,Pv z.cps.toList.length σ H->D.nx σ H) :
  ∃W:Nat->Nat->L2.St->Hp->Prop,(∃m,W 0 m σ H)/\∀i m σ H,W i m σ H->
   ((Jes z).stop i H/\D.nx σ H)\/((Jes z).go i H/\∃N:L2.St->Hp->Prop,(∀σ' H',N σ' H'->∃m',m'<m/\W (i+1) m' σ' H')/\∀v H',(Jes z).yld i H v H'->g v σ H' λσ2 H2=>tb {D with nx:=N,ct:=N,bk:=D.nx} σ2 H2):=by
 refine ak4 (Jes z) z.cps.toList.length Pv h0 (λi σ H hi p=>hi) (λσ H p=>aq _) (λi v σ H H' hi p y=>?_) hd;obtain⟨b,c,hb,rfl,rfl,hc⟩:=y;exact hs i c b σ H hc hb p
section
variable{X:Cx}
def azo:U V->Hp->VK->Prop:=λxs H Q=>∃(p:aE)(bs:U Bool),xs=[.ref p]/\H p=some (.lst<|bs.map V.bl)/\Q (.bl<|bs.any id) H
def am6:∀(bs:U Bool),((fu bs.length).any λi=>(bs[i]?).getD true)=bs.any id:=λbs=>by
 rw[g0,List.any_eq_true,List.any_eq_true];constructor
 .rintro⟨i,hi,h⟩;have eT:i<bs.length:=by simpa using hi
  exact⟨bs[i],fk eT,by simpa [eT]using h⟩
 .rintro⟨b,hb,h⟩;obtain⟨i,hi,rfl⟩:=List.mem_iff_getElem.mp hb;exact⟨i,by simpa using hi,by simpa [hi]using h⟩
def anh(hc:X.calm=true):qv X (.builtin "any") azo:=by
 intro aC s σ H xs us Q I r h;obtain⟨p,bs,rfl,hp,q⟩:=h;obtain⟨u,rfl,r1⟩:=qw r;cases (show u=aA.ref p from r1);obtain⟨its,rv,pl,hz⟩:=I.list<|SqL.of (K:=X.K) hp;have cF:p<s.heap.objs.size:=by obtain⟨_,_,e,_⟩:=pl;exact be e
 have aX:its.length=bs.length:=by rw[<-rv.length,ae]
 refine call_any_walk<|jn pl.isList ?_;refine⟨s.heap.objs.size,[s.heap.objs.size,p],[s.heap.objs.size],its.toArray.size,_,_,λi=>(bs[i]?).getD true,rfl,fF.list (A:=X.A.in1) (I.ok.hd hc) _ p (cj cF) its.toArray,
  ⟨⟨_,a6 _ rfl,rfl,rfl⟩,pl.isList.push _⟩,λi v s' Q' E' hP hQ=>?_,λh' tk hk=>?_⟩
 .have hi:its[i]?=some v:=by simpa using hP
  have jW:i<bs.length:=by rw[<-aX];exact(ap.mp hi).1
  obtain⟨u',e1,e2⟩:=rv.get (i:=i) (x:=.bl bs[i]) (by rw[a8,af jW];rfl);rw[hi]at e1;cases e1;cases (show v=aA.bool bs[i]from e2);have B9:Q' ((bs[i]?).getD true) s':=hQ;rw[af jW]at B9;exact e8 B9
 .refine(lc (.bl _) H ⟨I.kept λb o e=>hk b o (λhm=>?_)<|ah _ e,rfl,?_⟩)
  .rw[ay.mp hm]at e;exact iq _<|be e
  .rw[bf,aX,am6];exact q
end
end L3
namespace L3
open PySem
noncomputable def sm5:Nat->Nat
 | 0=>0
 | m+1=>5*sm5 m+1
noncomputable def g5(m i:Nat):Nat:=5^m*i+sm5 m
def Jn(m i:Nat):g5 (m+1) i=5*g5 m i+1:=by show 5^(m+1)*i+(5*sm5 m+1)=5*(5^m*i+sm5 m)+1;rw[js,Nat.mul_add,Nat.mul_comm (5^m) 5,Nat.mul_assoc,Nat.add_assoc]
theorem apx(m n i:Nat):g5 (m+n) i=g5 m (g5 n i):=by
 induction m with
 | zero=>rw[Nat.zero_add];unfold g5 sm5;simp
 | succ m ih=>rw[Nat.succ_add,Jn,ih,Jn]
def aqv(m n:Nat):sm5 (m+n)=5^m*sm5 n+sm5 m:=by have h:=apx m n 0;unfold g5 at h;simpa using h
theorem ahf:∀k,∃c d:Nat,5^(2^k)=1+2^(k+2)*c/\sm5 (2^k)=2^k*(2*d+1)
 | 0=>(lc 1 0 ⟨rfl,rfl⟩)
 | k+1=>by
  obtain⟨c,d,h1,h2⟩:=ahf k;have e:2^(k+1)=2^k+2^k:=by rw[js];lia
  refine(lc (c+2^(k+1)*c*c) (d+2^k*c*(2*d+1)) ⟨?_,?_⟩)
  .rw[e,Nat.pow_add,h1,show 2^(k+1+2)=8*2^k by rw[Nat.pow_add,Nat.pow_add];lia,show 2^(k+2)=4*2^k by rw[Nat.pow_add];lia];generalize 2^k=A
   grind
  .rw[e,aqv,h1,h2,show 2^(k+2)=4*2^k by rw[Nat.pow_add];lia];generalize 2^k=A
   grind
def ast(k i:Nat):g5 (2^k) i % 2^(k+1)=(i+2^k) % 2^(k+1):=by
 obtain⟨c,d,h1,h2⟩:=ahf k;unfold g5;rw[h1,h2];have e3:2^(k+2)=2^(k+1)*2:=by rw[show k+2=(k+1)+1 by lia,js]
 have e:(1+2^(k+2)*c)*i+2^k*(2*d+1)=(i+2^k)+2^(k+1)*(2*(c*i)+d):=by rw[e3,js];generalize 2^k=A;simp only[Nat.add_mul,Nat.mul_add,Nat.one_mul,Nat.mul_one,Nat.mul_assoc,Nat.mul_comm,Nat.mul_left_comm];lia
 rw[e,Nat.add_mul_mod_self_left]
theorem Jf:∀(k i j:Nat),∃m,m<2^k/\g5 m i % 2^k=j % 2^k
 | 0,i,j=>⟨0,by decide,by simp[Nat.mod_one]⟩
 | k+1,i,j=>by
  obtain⟨m,hm,e⟩:=Jf k i j;have e2:2^(k+1)=2*2^k:=by rw[js];lia
  by_cases h:g5 m i % 2^(k+1)=j % 2^(k+1)
  .exact⟨m,by lia,h⟩
  .refine⟨2^k+m,by lia,?_⟩;rw[apx,ast];have a:=Nat.mod_add_div (g5 m i)<|2^(k+1);have l1:g5 m i % 2^(k+1)<2^(k+1):=Nat.mod_lt _ (by rw[e2];have:=Nat.two_pow_pos k;lia);have l2:j % 2^(k+1)<2^(k+1):=Nat.mod_lt _ (by rw[e2];have:=Nat.two_pow_pos k;lia);have m1:g5 m i % 2^(k+1) % 2^k=g5 m i % 2^k:=Nat.mod_mod_of_dvd _ ⟨2,by rw[e2];lia⟩;have m2:j % 2^(k+1) % 2^k=j % 2^k:=Nat.mod_mod_of_dvd _ ⟨2,by rw[e2];lia⟩;rw[Nat.add_mod,gv (show 2^k<2^(k+1) by have:=Nat.two_pow_pos k;lia)];generalize g5 m i % 2^(k+1)=x at *;generalize j % 2^(k+1)=y at *;rw[<-m1,<-m2]at e;generalize 2^(k+1)=A at *;generalize 2^k=B at *;subst e2;have hx:x % B=if x<B then x else x-B:=by
    split
    .exact gv<|by assumption
    .rw[Nat.mod_eq_sub_mod (by lia),gv<|by lia]
   have hy:y % B=if y<B then y else y-B:=by
    split
    .exact gv<|by assumption
    .rw[Nat.mod_eq_sub_mod (by lia),gv<|by lia]
   rw[hx,hy]at e;have hz:(x+B) % (2*B)=if x+B<2*B then x+B else x+B-2*B:=by
    split
    .exact gv<|by assumption
    .rw[Nat.mod_eq_sub_mod (by lia),gv<|by lia]
   rw[hz];split at e<;>split at e<;>split<;>lia
open SetTable
noncomputable def itn{α:Type}(f:α->α):Nat->α->α
 | 0,x=>x
 | n+1,x=>itn f n<|f x
theorem ug{α:Type}(f:α->α):∀(m n:Nat)(x:α),itn f (m+n) x=itn f n (itn f m x)
 | 0,n,x=>by rw[Nat.zero_add];rfl
 | m+1,n,x=>by rw[Nat.succ_add];exact ug f m n<|f x
def JN{α:Type}(f:α->α)(n:Nat)(x:α):itn f (n+1) x=f (itn f n x):=by rw[ug f n 1 x];rfl
noncomputable def adv(mask:Nat)(p:Probe):Probe:=
 if p.more>0 then{p with j:=p.j+1,more:=p.more-1}else
 {p with j:=(leap mask p.i p.perturb).1,more:=runEnd mask (leap mask p.i p.perturb).1-(leap mask p.i p.perturb).1,i:=(leap mask p.i p.perturb).1,perturb:=(leap mask p.i p.perturb).2}
noncomputable def lp(mask:Nat)(x:Nat×Nat):Nat×Nat:=leap mask x.1 x.2
noncomputable def at0(mask:Nat)(x:Nat×Nat)(d:Option Nat):Probe:=⟨x.1,runEnd mask x.1-x.1,x.1,x.2,d⟩
def ap1(mask i:Nat):runEnd mask i-i<=9:=by unfold runEnd;split<;>lia
theorem EV(mask:Nat):∀(m:Nat)(p:Probe),p.more=m->itn (adv mask) (m+1) p=at0 mask (lp mask (p.i,p.perturb)) p.dummy
 | 0,p,h=>by show adv mask p=_;unfold adv;rw[if_neg (by lia)];rfl
 | m+1,p,h=>by
  show itn (adv mask) (m+1) (adv mask p)=_;have e:adv mask p={p with j:=p.j+1,more:=p.more-1}:=by unfold adv;rw[if_pos (by lia)]
  rw[e,EV mask m _<|by show p.more-1=m;lia]
theorem Iq(mask:Nat):∀(m:Nat)(x:Nat×Nat)(d:Option Nat),∃n,n<=10*m/\itn (adv mask) n (at0 mask x d)=at0 mask (itn (lp mask) m x) d
 | 0,x,d=>⟨0,aq _,rfl⟩
 | m+1,x,d=>by
  have h:=EV mask _ (at0 mask x d) rfl;obtain⟨n,hn,e⟩:=Iq mask m (lp mask x) d;refine⟨((at0 mask x d).more+1)+n,?_,?_⟩
  .have:(at0 mask x d).more<=9:=ap1 mask x.1;lia
  .rw[ug,h];exact e
theorem JW(mask:Nat):∀(m:Nat)(x:Nat×Nat)(b:Nat),x.2<32^b->(itn (lp mask) m x).2<32^(b-m)
 | 0,x,b,h=>by simpa [itn]using h
 | m+1,x,b,h=>by
  have h':(lp mask x).2<32^(b-1):=by
   show x.2/32<32^(b-1);cases b with
   | zero=>simp at h;simp[h]
   | succ b=>
    rw[js]at h;simpa using Nat.div_lt_of_lt_mul (by lia)
  have:=JW mask m (lp mask x) (b-1) h';rw[show b-(m+1)=b-1-m by lia];exact this
theorem wt{mask k:Nat}(hk:mask+1=2^k):∀(m i:Nat),i<2^k->itn (lp mask) m (i,0)=(g5 m i % 2^k,0)
 | 0,i,h=>by
  have e:g5 0 i=i:=by unfold g5 sm5;simp
  rw[e,gv h];rfl
 | m+1,i,h=>by
  rw[JN,wt hk m i h];show((g5 m i % 2^k*5+1+0/32) % (mask+1),0/32)=_;rw[hk,Jn];have e:(g5 m i % 2^k*5+1+0/32) % 2^k=(5*g5 m i+1) % 2^k:=by rw[show 0/32=0 from rfl,Nat.add_zero,Nat.mul_comm,Nat.add_mod,Nat.mul_mod,Nat.mod_mod,<-Nat.mul_mod,<-Nat.add_mod]
  rw[e]
def IC{mask k:Nat}(hk:mask+1=2^k)(x:Nat×Nat):(lp mask x).1<2^k:=by show(x.1*5+1+x.2/32) % (mask+1)<2^k;rw[hk];exact Nat.mod_lt _<|Nat.two_pow_pos k
def avd{mask k:Nat}(hk:mask+1=2^k)(p:Probe)(hm:p.more<=9)(hp:p.perturb<2^64)(j:Nat)(hj:j<=mask):∃n,n<10*turns mask/\(itn (adv mask) n p).j=j:=by
 have h1:=EV mask p.more p rfl;obtain⟨n2,lP,e2⟩:=Iq mask 12 (lp mask (p.i,p.perturb)) p.dummy;have hz:(itn (lp mask) 12<|lp mask (p.i,p.perturb)).2<32^(13-13):=by have:=JW mask 13 (p.i,p.perturb) 13 (by show p.perturb<32^13;exact cu hp<|by decide);exact this
 have sZ:(itn (lp mask) 12<|lp mask (p.i,p.perturb)).2=0:=by simpa using hz
 have hi:(itn (lp mask) 12<|lp mask (p.i,p.perturb)).1<2^k:=by rw[JN];exact IC hk _
 generalize itn (lp mask) 12 (lp mask (p.i,p.perturb))=y at *;obtain⟨y1,y2⟩:=y;simp only at sZ hi;subst sZ;obtain⟨m,pO,e3⟩:=Jf k y1 j;obtain⟨n3,qV,e4⟩:=Iq mask m (y1,0) p.dummy;rw[wt hk m y1 hi,e3,gv<|by lia]at e4;refine⟨(p.more+1)+(n2+n3),?_,?_⟩
 .unfold turns;lia
 .rw[ug,h1,ug,e2,e4];rfl
end L3
namespace L3
open PySem SetTable
def Low(xs:Array Nat)(j b:Nat):Prop:=b<=xs.size/\(∀i v,i<b->xs[i]?=some v->v<j)/\(∀i v,b<=i->xs[i]?=some v->j<=v)
def E1{xs:Array Nat}(h:xs.toList.Pairwise (· < ·)){i k v u:Nat}(hi:xs[i]?=some v)(hk:xs[k]?=some u)(D9:i<k):v<u:=by rw[<-bh]at hi hk;obtain⟨h1,rfl⟩:=ap.mp hi;obtain⟨h2,rfl⟩:=ap.mp hk;exact eu.mp h i k h1 h2 D9
theorem JE{xs:Array Nat}(h:xs.toList.Pairwise (· < ·))(j:Nat):∀(fuel lo hi:Nat),hi-lo<=fuel->lo<=hi->hi<=xs.size->(∀i v,i<lo->xs[i]?=some v->v<j)->(∀i v,hi<=i->xs[i]?=some v->j<=v)->
  Low xs j (below.go xs j fuel lo hi)
 | 0,lo,hi,h1,h2,h3,a,b=>by
  have e:lo=hi:=by lia
  subst e;exact⟨h3,a,b⟩
 | fuel+1,lo,hi,h1,h2,h3,a,b=>by
  unfold below.go;by_cases cF:lo<hi
  .rw[if_pos cF];have hm:(lo+hi)/2<xs.size:=by lia
   have e:xs.getD ((lo+hi)/2) j=xs[(lo+hi)/2]:=by simp[Array.getD,hm]
   have e':xs[(lo+hi)/2]?=some xs[(lo+hi)/2]:=by simp[hm]
   dsimp only;rw[e];by_cases hc:xs[(lo+hi)/2]<j
   .rw[if_pos hc];refine JE h j fuel _ _ (by lia) (by lia) h3 (λi v eT hv=>?_) b;by_cases q:i=(lo+hi)/2
    .subst q;rw[e']at hv;cases hv;exact hc
    .have:=E1 h hv e' (by lia);lia
   .rw[if_neg hc];refine JE h j fuel _ _ (by lia) (by lia) (by lia) a λi v eT hv=>?_;by_cases q:i=(lo+hi)/2
    .subst q;rw[e']at hv;cases hv;lia
    .have:=E1 h e' hv (by lia);lia
  .rw[if_neg cF];have e:lo=hi:=by lia
   subst e;exact⟨h3,a,b⟩
def v0{xs:Array Nat}(h:xs.toList.Pairwise (· < ·))(j:Nat):Low xs j (below xs j):=
 JE h j xs.size 0 xs.size (by lia) (by lia) (aq _) (λi v hi=>by lia) (λi v hi hv=>by have:=(bg.mp hv).1;lia)
def JP{xs:Array Nat}(h:xs.toList.Pairwise (· < ·)){i j:Nat}(hi:xs[i]?=some j):below xs j=i:=by
 obtain⟨a,b,c⟩:=v0 h j;by_cases q:i<below xs j
 .have:=b i j q hi;lia
 by_cases q2:below xs j<i
 .have hl:=(bg.mp hi).1;have e':xs[below xs j]?=some xs[below xs j]:=by simp
  have:=E1 h e' hi q2;have:=c _ _ (aq _) e';lia
 .lia
def JV{t:SetTable}(h:t.place.toList.Pairwise (· < ·)){i j:Nat}(hi:t.place[i]?=some j):t.slot j=.live i:=by unfold slot;rw[JP h hi];dsimp only;rw[hi,if_pos<|by simp]
def ai1{t:SetTable}(h:t.place.toList.Pairwise (· < ·))(hd:t.dummies=#[]){j:Nat}(hj:j∉t.place.toList):t.slot j=.empty:=by
 unfold slot;dsimp only;rw[if_neg,if_neg]
 .rw[hd];unfold has;simp
 .intro e;have e':t.place[below t.place j]?=some j:=by simpa using e
  apply hj;rw[<-bh]at e';exact aj e'
def anp{t:SetTable}{j:Nat}(hj:j∈t.place.toList):∃i:Nat,t.place[i]?=some j:=by obtain⟨i,h⟩:=gp hj;exact⟨i,by rw[<-bh];exact h⟩
def oy{α:Type}(xs:Array α)(p:Nat)(x:α):(insertAt xs p x).toList=xs.toList.take p++x::xs.toList.drop p:=by unfold insertAt;simp[Array.toList_extract];rw[au (by simp)]
def afr{xs:Array Nat}(h:xs.toList.Pairwise (· < ·)){j:Nat}(hj:j∉xs.toList):(insertAt xs (below xs j) j).toList.Pairwise (· < ·):=by
 obtain⟨a,b,c⟩:=v0 h j;rw[oy,dh];refine⟨h.sublist<|jc _ _,?_,?_⟩
 .rw[gc];refine⟨λv hv=>?_,h.sublist<|List.drop_sublist _ _⟩;obtain⟨i,hi⟩:=gp hv;rw[ff,bh]at hi;have:=c _ v (by lia) hi;have:v≠j:=λe=>hj (by rw[<-e];rw[<-bh]at hi;exact aj hi);lia
 .intro u hu v hv;obtain⟨i,hi⟩:=gp hu;have jW:i<below xs j:=by
   have:=(ap.mp hi).1;rw[cm]at this;lia
  rw[de jW,bh]at hi;have h1:=b i u jW hi;rcases ar.mp hv with rfl|hv
  .exact h1
  .obtain⟨i',eT⟩:=gp hv;rw[ff,bh]at eT;have:=c _ v (by lia) eT;lia
def Ax(ps:U Nat)(es:U (Int×aA))(j:Nat)(e:Int×aA):Prop:=∃i:Nat,ps[i]?=some j/\es[i]?=some e
theorem afy{ps:U Nat}{es:U (Int×aA)}(hl:ps.length=es.length)(p j0:Nat)(hp:p<=ps.length)(e0:Int×aA){j:Nat}{e:Int×aA} :
  Ax (ps.take p++j0::ps.drop p) (es.take p++e0::es.drop p) j e↔(j=j0/\e=e0)\/Ax ps es j e:=by
 have l1:(ps.take p).length=p:=by rw[cm];lia
 have l2:(es.take p).length=p:=by rw[cm];lia
 constructor
 .rintro⟨i,h1,h2⟩;by_cases hi:i<p
  .rw[cq (by lia),de hi]at h1 h2;exact .inr ⟨i,h1,h2⟩
  .rw[bu (by lia),l1]at h1;rw[bu (by lia),l2]at h2;cases hq:i-p with
   | zero=>rw[hq]at h1 h2;cases h1;cases h2;exact .inl ⟨rfl,rfl⟩
   | succ q=>
    rw[hq,List.getElem?_cons_succ,ff]at h1 h2;exact .inr ⟨p+q,h1,h2⟩
 .rintro(⟨rfl,rfl⟩|⟨i,h1,h2⟩)
  .exact⟨p,by rw[bu (by lia),l1,jq];rfl,by rw[bu (by lia),l2,jq];rfl⟩
  .by_cases hi:i<p
   .exact⟨i,by rw[cq (by lia),de hi];exact h1,by rw[cq (by lia),de hi];exact h2⟩
   .refine⟨i+1,?_,?_⟩
    .rw[bu (by lia),l1,show i+1-p=(i-p)+1 by lia,List.getElem?_cons_succ,ff,show p+(i-p)=i by lia];exact h1
    .rw[bu (by lia),l2,show i+1-p=(i-p)+1 by lia,List.getElem?_cons_succ,ff,show p+(i-p)=i by lia];exact h2
noncomputable def st0(mask:Nat)(h:Int):Probe:=at0 mask (bits h % (mask+1),bits h) none
def anm(t:SetTable)(h:Int):t.probeStart h=st0 t.mask h:=rfl
noncomputable def qg(mask:Nat)(h:Int)(n:Nat):Nat:=(itn (adv mask) n<|st0 mask h).j
def Jg(h:Int):bits h<2^64:=by unfold bits;lia
def vD(mask:Nat)(p:Probe):Prop:=p.more<=9/\p.perturb<2^64/\p.j+p.more<=mask
def ad6(mask:Nat)(x:Nat×Nat)(d:Option Nat)(h1:x.1<=mask)(h2:x.2<2^64):vD mask (at0 mask x d):=by refine⟨ap1 mask x.1,h2,?_⟩;show x.1+(runEnd mask x.1-x.1)<=mask;unfold runEnd;split<;>lia
def am3{mask:Nat}{p:Probe}(h:vD mask p):vD mask (adv mask p):=by
 obtain⟨h1,h2,h3⟩:=h;unfold adv;split
 .exact⟨by simp only;lia,h2,by simp only;lia⟩
 .refine ad6 mask (leap mask p.i p.perturb) p.dummy ?_ ?_
  .show(p.i*5+1+p.perturb/32) % (mask+1)<=mask;have:=Nat.mod_lt (p.i*5+1+p.perturb/32) (show 0<mask+1 by lia);lia
  .show p.perturb/32<2^64;lia
theorem J1{mask:Nat}:∀(n:Nat) {p:Probe},vD mask p->vD mask (itn (adv mask) n p)
 | 0,_,h=>h
 | n+1,_,h=>J1 n<|am3 h
def x8(mask:Nat)(h:Int):vD mask (st0 mask h):=ad6 mask _ _ (by
 have:=Nat.mod_lt (bits h) (show 0<mask+1 by lia);show bits h % (mask+1)<=mask;lia)<|Jg h
def aq3(mask:Nat)(h:Int)(n:Nat):qg mask h n<=mask:=by have:=(J1 n<|x8 mask h).2.2;unfold qg;lia
structure TOk(t:SetTable)(es:Array (Int×aA)):Prop where
 two:∃k,t.mask+1=2^k/\3<=k/\k<=13/\k % 2=1
 dm:t.dummies=#[]
 rise:t.place.toList.Pairwise (· < ·)
 bd:∀j∈t.place.toList,j<=t.mask
 sz:t.place.size=es.size
 fit:t.place.size<=t.mask
 onroad:∀j e,Ax t.place.toList es.toList j e->∃n,qg t.mask e.1 n=j/\∀n',n'<n->qg t.mask e.1 n'∈t.place.toList
def CO{ps:U Nat}{m:Nat}(h:ps.length<=m):∃j,j<=m/\j∉ps:=by apply du;intro hn;have bI:∀j,j<=m->j∈ps:=λj hj=>du λq=>hn ⟨j,hj,q⟩;have:=fh (l₁:=fu<|m+1) (l₂:=ps) List.nodup_range (λj hj=>bI j<|by have:=ir.mp hj;lia);rw[jb]at this;lia
theorem alr{t:SetTable}{es:Array (Int×aA)}(ok:TOk t es)(cK:Nat->Int)(h:Int):∀(fuel:Nat)(p:Probe),(∃n,n<fuel/\(itn (adv t.mask) n p).j∉t.place.toList)->
  (∃n,probe.go t cK h fuel p=some (.empty (itn (adv t.mask) n p).j p.dummy)/\(itn (adv t.mask) n p).j∉t.place.toList/\∀n',n'<n->∃i:Nat,t.place[i]?=some (itn (adv t.mask) n' p).j/\cK i≠h)\/
  (∃n i,probe.go t cK h fuel p=some (.candidate (itn (adv t.mask) n p).j i (itn (adv t.mask) (n+1) p))/\t.place[i]?=some (itn (adv t.mask) n p).j/\cK i=h/\∀n',n'<n->∃i':Nat,t.place[i']?=some (itn (adv t.mask) n' p).j/\cK i'≠h)
 | 0,p,⟨n,hn,_⟩=>by lia
 | fuel+1,p,⟨n,hn,cG⟩=>by
  by_cases hp:p.j∈t.place.toList
  .obtain⟨i,hi⟩:=anp hp;have hs:=JV ok.rise hi;by_cases hh:cK i=h
   .refine .inr<|lc 0 i ⟨?_,hi,hh,λn' fQ=>by lia⟩;unfold probe.go;rw[hs];dsimp only;rw[if_pos (by simp[hh])];rfl
   .have Bv:∃n,n<fuel/\(itn (adv t.mask) n<|adv t.mask p).j∉t.place.toList:=by
     cases n with
     | zero=>exact absurd hp cG
     | succ n=>exact⟨n,by lia,cG⟩
    have uS:probe.go t cK h (fuel+1) p=probe.go t cK h fuel (adv t.mask p):=by rw[probe.go,hs];dsimp only;rw[if_neg (by simp[hh])];rfl
    have hd:(adv t.mask p).dummy=p.dummy:=by unfold adv;split<;>rfl
    have A8:∀{n:Nat},(∀n',n'<n->∃i':Nat,t.place[i']?=some (itn (adv t.mask) n'<|adv t.mask p).j/\cK i'≠h)->∀n',n'<n+1->∃i':Nat,t.place[i']?=some (itn (adv t.mask) n' p).j/\cK i'≠h:=λH n' fQ=>by
     cases n' with
     | zero=>exact⟨i,hi,hh⟩
     | succ n'=>exact H n'<|by lia
    rcases alr ok cK h fuel (adv t.mask p) Bv with ⟨m,e,f,g⟩|⟨m,i',e,f,g,g'⟩
    .exact .inl ⟨m+1,by rw[uS,e,hd];rfl,f,A8 g⟩
    .exact .inr<|lc (m+1) i' ⟨by rw[uS,e];rfl,f,g,A8 g'⟩
  .refine .inl ⟨0,?_,hp,λn' fQ=>by lia⟩;unfold probe.go;rw[ai1 ok.rise ok.dm hp];rfl
def ai0{t:SetTable}{es:Array (Int×aA)}(ok:TOk t es)(cK:Nat->Int)(h:Int){p:Probe}(st:vD t.mask p) :
  (∃n,t.probe cK h p=some (.empty (itn (adv t.mask) n p).j p.dummy)/\(itn (adv t.mask) n p).j∉t.place.toList/\∀n',n'<n->∃i:Nat,t.place[i]?=some (itn (adv t.mask) n' p).j/\cK i≠h)\/
  (∃n i,t.probe cK h p=some (.candidate (itn (adv t.mask) n p).j i (itn (adv t.mask) (n+1) p))/\t.place[i]?=some (itn (adv t.mask) n p).j/\cK i=h/\∀n',n'<n->∃i':Nat,t.place[i']?=some (itn (adv t.mask) n' p).j/\cK i'≠h):=by
 obtain⟨k,hk,_,_⟩:=ok.two;obtain⟨j,hj,hn⟩:=CO (ps:=t.place.toList) (m:=t.mask) (by rw[aw];exact ok.fit);obtain⟨n,hl,e⟩:=avd hk p st.1 st.2.1 j hj;exact alr ok cK h _ p ⟨n,hl,by rw[e];exact hn⟩
def TOk.ahead{t:SetTable}{es:Array (Int×aA)}(ok:TOk t es){j:Nat}{e:Int×aA}(hs:Ax t.place.toList es.toList j e){n:Nat}(hf:qg t.mask e.1 n∉t.place.toList):∃m,m<n/\qg t.mask e.1 m=j:=by
 obtain⟨m,h1,h2⟩:=ok.onroad j e hs;refine⟨m,?_,h1⟩;apply du;intro hm;by_cases q:n<m
 .exact hf<|h2 n q
 .have:m=n:=by lia
  subst this;rw[h1]at hf;obtain⟨i,hi,_⟩:=hs;exact hf<|aj hi
theorem TOk.put{t:SetTable}{es:Array (Int×aA)}(ok:TOk t es){h:Int}{x:aA}{n:Nat}(hf:qg t.mask h n∉t.place.toList)(hr:∀n',n'<n->qg t.mask h n'∈t.place.toList)(qQ:t.place.size+1<=t.mask) :
  TOk (t.put<|qg t.mask h n).1 (insertAt es (t.put<|qg t.mask h n).2 (h,x))/\(t.put<|qg t.mask h n).1.mask=t.mask/\(t.put<|qg t.mask h n).2<=es.size/\(t.put<|qg t.mask h n).1.place.size=t.place.size+1:=by
 have uQ:=v0 ok.rise<|qg t.mask h n;have Gh:has t.dummies (qg t.mask h n)=false:=by rw[ok.dm];unfold has;simp
 have F8:t.put (qg t.mask h n)=({t with place:=insertAt t.place (below t.place<|qg t.mask h n)<|qg t.mask h n,dummies:=#[]},below t.place<|qg t.mask h n):=by unfold SetTable.put;rw[Gh,ok.dm];rfl
 rw[F8];have nS:(insertAt t.place (below t.place<|qg t.mask h n)<|qg t.mask h n).size=t.place.size+1:=by rw[<-aw,oy,bn,bj,cm,ii,aw];have:=uQ.1;lia
 have hsz:=ok.sz;have dE:∀j,j∈(insertAt t.place (below t.place<|qg t.mask h n)<|qg t.mask h n).toList↔j=qg t.mask h n\/j∈t.place.toList:=λj=>by
  rw[oy];constructor
  .intro hj;rcases bm.mp hj with q|q
   .exact .inr<|dn q
   .rcases ar.mp q with q|q
    .exact .inl q
    .exact .inr<|List.mem_of_mem_drop q
  .rintro(rfl|hj)
   .exact b8 _ am
   .rw[<-da (below t.place<|qg t.mask h n) t.place.toList]at hj;rcases bm.mp hj with q|q
    .exact f9 _ q
    .exact b8 _<|ao _ q
 refine⟨⟨ok.two,rfl,afr ok.rise hf,?_,?_,?_,?_⟩,rfl,?_,nS⟩
 .intro j hj;rcases(dE j).mp hj with rfl|q
  .exact aq3 _ _ _
  .exact ok.bd j q
 .show(insertAt t.place _ _).size=(insertAt es (below t.place<|qg t.mask h n) (h,x)).size;rw[nS,<-aw (xs:=insertAt es _ _),oy,bn,bj,cm,ii,aw];have:=uQ.1;lia
 .show(insertAt t.place _ _).size<=t.mask;rw[nS];exact qQ
 .intro j e hs;have eF:Ax (t.place.toList.take (below t.place<|qg t.mask h n)++qg t.mask h n::t.place.toList.drop (below t.place<|qg t.mask h n)) (es.toList.take (below t.place<|qg t.mask h n)++(h,x)::es.toList.drop (below t.place<|qg t.mask h n)) j e:=by
   have uJ:Ax (insertAt t.place (below t.place<|qg t.mask h n)<|qg t.mask h n).toList (insertAt es (below t.place<|qg t.mask h n) (h,x)).toList j e:=hs;rw[oy,oy]at uJ;exact uJ
  rcases(afy (by rw[aw,aw];exact hsz) _ _ (by rw[aw];exact uQ.1) _).mp eF with ⟨rfl,rfl⟩|q
  .exact⟨n,rfl,λn' fQ=>(dE _).mpr (.inr<|hr n' fQ)⟩
  .obtain⟨m,h1,h2⟩:=ok.onroad j e q;exact⟨m,h1,λn' fQ=>(dE _).mpr (.inr<|h2 n' fQ)⟩
 .show below t.place _<=es.size;have:=uQ.1;lia
theorem TOk.fits{t:SetTable}{es:Array (Int×aA)}(ok:TOk t es):t.fits es.size=true:=by unfold SetTable.fits SetTable.fill;rw[ok.dm];simp[ok.sz];have:=ok.fit;have:=ok.sz;lia
def TOk.noway{t:SetTable}{es:Array (Int×aA)}(ok:TOk t es):t.gaveWay=false:=by
 obtain⟨k,hk,h3,_⟩:=ok.two;unfold SetTable.gaveWay;have:2^k % 2=0:=by rw[show k=(k-1)+1 by lia,js];lia
 simp;lia
theorem TOk.fresh(finger moves:Nat)(led:Bool):TOk (.fresh finger moves led) #[]:=
 ⟨⟨3,rfl,by decide,by decide,rfl⟩,rfl,List.Pairwise.nil,(λj hj=>by cases hj),rfl,(by show 0<=7;decide),(λj e ⟨i,h,_⟩=>by simp[SetTable.fresh]at h)⟩
def auw{mask k:Nat}(hk:mask+1=2^k)(x:Nat×Nat)(hp:x.2<2^64)(j:Nat)(hj:j<=mask):∃m,m<turns mask/\(itn (lp mask) m x).1=j:=by
 have hz:(itn (lp mask) 13 x).2<32^(13-13):=JW mask 13 x 13 (cu hp<|by decide);have sZ:(itn (lp mask) 13 x).2=0:=by simpa using hz
 have hi:(itn (lp mask) 13 x).1<2^k:=by rw[JN];exact IC hk _
 have e0:∀m,itn (lp mask) (13+m) x=itn (lp mask) m (itn (lp mask) 13 x):=λm=>ug _ _ _ _;generalize itn (lp mask) 13 x=y at *;obtain⟨y1,y2⟩:=y;simp only at sZ hi;subst sZ;obtain⟨m,pO,e3⟩:=Jf k y1 j;refine⟨13+m,?_,?_⟩
 .unfold turns;lia
 .rw[e0,wt hk m y1 hi];show g5 m y1 % 2^k=j;rw[e3,gv<|by lia]
theorem apd(mask:Nat):∀(q:Nat)(p:Probe),q<=p.more->(itn (adv mask) q p).j=p.j+q
 | 0,p,_=>rfl
 | q+1,p,h=>by
  show(itn (adv mask) q<|adv mask p).j=_;have e:adv mask p={p with j:=p.j+1,more:=p.more-1}:=by unfold adv;rw[if_pos (by lia)]
  rw[e,apd mask q _<|by show q<=p.more-1;lia];show p.j+1+q=p.j+(q+1);lia
def CH(owner:Array (Option Nat))(j:Nat):Prop:=∃q,owner[j]?=some (some q)
theorem ae6{mask k:Nat}(hk:mask+1=2^k){owner:Array (Option Nat)}(hs:owner.size=mask+1){f:Nat}(hf:owner[f]?=some none):∀(fuel:Nat)(x:Nat×Nat),x.1<=mask->x.2<2^64->(∃m,m<fuel/\(itn (lp mask) m x).1=f)->
  ∃j n,layClean.free mask owner fuel x.1 x.2=some j/\(itn (adv mask) n<|at0 mask x none).j=j/\owner[j]?=some none/\∀n',n'<n->CH owner (itn (adv mask) n'<|at0 mask x none).j
 | 0,x,_,_,⟨m,hm,_⟩=>by lia
 | fuel+1,x,h1,h2,⟨m,hm,em⟩=>by
  have Bu:(at0 mask x none).more=runEnd mask x.1-x.1:=rfl;have hend:runEnd mask x.1<=mask/\x.1<=runEnd mask x.1:=by unfold runEnd;split<;>lia
  have get:∀q,(hq:q<runEnd mask x.1+1-x.1)->owner.getD (x.1+q) (some 0)=owner[x.1+q]'(by lia):=λq hq=>by simp only[Array.getD];rw[dif_pos (show x.1+q<owner.size by lia)];rfl
  have pos:∀q,q<runEnd mask x.1+1-x.1->(itn (adv mask) q<|at0 mask x none).j=x.1+q:=λq hq=>apd mask q _ (by rw[Bu];lia);have occ:∀q (hq:q<runEnd mask x.1+1-x.1),(owner.getD (x.1+q)<|some 0).isNone=false->CH owner (x.1+q):=λq hq hn=>by
   rw[get q hq]at hn;cases hv:owner[x.1+q]'(by lia)with
   | none=>rw[hv]at hn;cases hn
   | some v=>exact⟨v,by rw[bv (by lia),hv]⟩
  unfold layClean.free;cases BW:(fu<|runEnd mask x.1+1-x.1).find? λk=>(owner.getD (x.1+k)<|some 0).isNone with
  | some q=>
   rw[List.find?_range_eq_some]at BW;obtain⟨a,b,c⟩:=BW;have hq:q<runEnd mask x.1+1-x.1:=ir.mp b;refine(lc (x.1+q) q ⟨rfl,pos q hq,?_,λn' fQ=>?_⟩)
   .rw[get q hq]at a;rw[bv (by lia)];cases hv:owner[x.1+q]'(by lia)with
    | none=>rfl
    | some v=>rw[hv]at a;cases a
   .rw[pos n' (by lia)];exact occ n' (by lia) (by simpa using c n' fQ)
  | none=>
   rw[List.find?_range_eq_none]at BW;dsimp only;cases m with
   | zero=>
    have e0:x.1=f:=em;have:=BW 0 (by lia);rw[Nat.add_zero]at this;have g:=get 0 (by lia);simp only[Nat.add_zero]at g;rw[g]at this;subst e0;rw[bv (by lia)]at hf;injection hf with hf
    rw[hf]at this;cases this
   | succ m=>
    have mE:(lp mask x).1<=mask:=by have:=IC hk x;lia
    have jE:(lp mask x).2<2^64:=by show x.2/32<2^64;lia
    obtain⟨j,n,e1,e2,e3,e4⟩:=ae6 hk hs hf fuel (lp mask x) mE jE ⟨m,by lia,em⟩;have tl:=EV mask _ (at0 mask x none) rfl;refine(lc j ((at0 mask x none).more+1+n) ⟨e1,?_,e3,λn' fQ=>?_⟩)
    .rw[ug,tl];exact e2
    .by_cases hq:n'<(at0 mask x none).more+1
     .have kO:n'<runEnd mask x.1+1-x.1:=by rw[Bu]at hq;lia
      rw[pos n' kO];exact occ n' kO<|by simpa using BW n' kO
     .have:=e4 (n'-((at0 mask x none).more+1)) (by lia);rw[show n'=(at0 mask x none).more+1+(n'-((at0 mask x none).more+1)) by lia,ug,tl];exact this
structure Own(mask:Nat)(hs:U Int)(owner:Array (Option Nat))(k:Nat):Prop where
 size:owner.size=mask+1
 o1:∀j q:Nat,owner[j]?=some (some q)->q<k/\∃h,hs[q]?=some h/\∃n,qg mask h n=j/\∀n',n'<n->CH owner (qg mask h n')
 o2:∀q:Nat,q<k->∃j:Nat,owner[j]?=some (some q)
 o3:∀j j' q:Nat,owner[j]?=some (some q)->owner[j']?=some (some q)->j=j'
theorem Own.free{mask:Nat}{hs:U Int}{owner:Array (Option Nat)}{k:Nat}(o:Own mask hs owner k)(hk:k<=mask):∃f,f<=mask/\owner[f]?=some none:=by
 apply du;intro hn;have bI:∀j,j<=mask->∃q,owner[j]?=some (some q):=λj hj=>by
  have tG:j<owner.size:=by rw[o.size];lia
  cases hv:owner[j]with
  | none=>exact absurd ⟨j,hj,by rw[bv tG,hv]⟩ hn
  | some q=>exact⟨q,by rw[bv tG,hv]⟩
 have val:∀(j q:Nat),owner[j]?=some (some q)->((owner[j]?).getD none).getD 0=q:=λj q h=>by rw[h];rfl
 have nd:((fu<|mask+1).map λj=>((owner[j]?).getD none).getD 0).Nodup:=by show List.Pairwise _ _;rw[fc];refine gx ?_<|List.nodup_range (n:=mask+1);intro a b ha hb lT e;obtain⟨q,hq⟩:=bI a (by have:=ir.mp ha;lia);obtain⟨q',kO⟩:=bI b (by have:=ir.mp hb;lia);rw[val a q hq,val b q' kO]at e;subst e;exact lT<|o.o3 a b q hq kO
 have:=fh (l₂:=fu k) nd λv hv=>by obtain⟨j,hj,rfl⟩:=a7.mp hv;obtain⟨q,hq⟩:=bI j (by have:=ir.mp hj;lia);rw[val j q hq];exact ir.mpr (o.o1 j q hq).1
 rw[ae,jb,jb]at this;lia
noncomputable def Jz(mask:Nat)(eO:Option (Array (Option Nat)×Nat))(h:Int):Option (Array (Option Nat)×Nat):=do
 let (owner,k) <-eO
 let j <-layClean.free mask owner (turns mask) (bits h % (mask+1)) (bits h)
 aT (owner.setIfInBounds j<|some k,k+1)
def af1(mask:Nat)(hs:Array Int):layClean mask hs=(hs.toList.foldl (Jz mask)<|some (Array.replicate (mask+1) none,0)).map (·.1):=by unfold layClean;rw[<-Array.foldl_toList];rfl
def yy{owner:Array (Option Nat)}{j:Nat}{v:Option Nat}(hj:j<owner.size)(i:Nat):(owner.setIfInBounds j v)[i]?=if i=j then some v else owner[i]?:=by
 rw[Array.getElem?_setIfInBounds];by_cases e:j=i
 .subst e;rw[if_pos rfl,if_pos hj,if_pos rfl]
 .rw[if_neg e,if_neg<|Ne.symm e]
theorem agr{mask k0:Nat}(iW:mask+1=2^k0)(hs:U Int)(uR:hs.length<=mask):∀(bA:U Int)(k:Nat) (owner:Array (Option Nat)),hs.drop k=bA->k<=hs.length->Own mask hs owner k->
  ∃qI,bA.foldl (Jz mask) (some (owner,k))=some (qI,hs.length)/\Own mask hs qI hs.length
 | [],k,owner,hd,hk,o=>by
  have:hs.length<=k:=by have:=congrArg List.length hd;rw[ii]at this;simp at this;lia
  have e:k=hs.length:=by lia
  subst e;exact⟨owner,rfl,o⟩
 | h::bA,k,owner,hd,hk,o=>by
  have oP:k<hs.length:=by have:=congrArg List.length hd;rw[ii]at this;simp at this;lia
  have yS:hs[k]?=some h:=by
   have:(hs.drop k)[0]?=some h:=by rw[hd];rfl
   rw[ff]at this;simpa using this
  obtain⟨f,BU,hf⟩:=o.free (by lia);obtain⟨m,hm,em⟩:=auw iW (bits h % (mask+1),bits h) (Jg h) f BU;have hb:bits h % (mask+1)<=mask:=by have:=Nat.mod_lt (bits h) (show 0<mask+1 by lia);lia
  obtain⟨j,n,e1,e2,e3,e4⟩:=ae6 iW o.size hf (turns mask) (bits h % (mask+1),bits h) hb (Jg h) ⟨m,hm,em⟩;have ej:qg mask h n=j:=e2;have Al:j<owner.size:=by have:=(bg.mp e3).1;exact this
  have Bn:Jz mask (some (owner,k)) h=some (owner.setIfInBounds j<|some k,k+1):=by show(layClean.free mask owner (turns mask) (bits h % (mask+1))<|bits h).bind _=_;rw[e1];rfl
  have tk:∀i,CH owner i->CH (owner.setIfInBounds j<|some k) i:=λi ⟨q,hq⟩=>by
   by_cases e:i=j
   .exact⟨k,by rw[yy Al,if_pos e]⟩
   .exact⟨q,by rw[yy Al,if_neg e];exact hq⟩
  have o':Own mask hs (owner.setIfInBounds j<|some k) (k+1):=by
   refine⟨by rw[Array.size_setIfInBounds];exact o.size,λi q hq=>?_,λq hq=>?_,λi i' q hq kO=>?_⟩
   .rw[yy Al]at hq;by_cases e:i=j
    .rw[if_pos e]at hq;cases hq;exact⟨by lia,(mm h yS n ⟨by rw[ej,e],λn' fQ=>tk _<|e4 n' fQ⟩)⟩
    .rw[if_neg e]at hq;obtain⟨a,h',b,n',c,d⟩:=o.o1 i q hq;exact⟨by lia,(mm h' b n' ⟨c,λn'' Gn=>tk _<|d n'' Gn⟩)⟩
   .by_cases e:q=k
    .exact⟨j,by rw[yy Al,if_pos rfl,e]⟩
    .obtain⟨i,hi⟩:=o.o2 q (by lia);have:i≠j:=λe'=>by rw[e',e3]at hi;cases hi
     exact⟨i,by rw[yy Al,if_neg this];exact hi⟩
   .rw[yy Al]at hq kO;by_cases e:i=j<;>by_cases e':i'=j
    .rw[e,e']
    .rw[if_pos e]at hq;rw[if_neg e']at kO;cases hq;have:=(o.o1 i' k kO).1;lia
    .rw[if_neg e]at hq;rw[if_pos e']at kO;cases kO;have:=(o.o1 i k hq).1;lia
    .rw[if_neg e]at hq;rw[if_neg e']at kO;exact o.o3 i i' q hq kO
  rw[List.foldl_cons,Bn];refine agr iW hs uR bA (k+1) _ ?_ (by lia) o';rw[<-List.drop_drop,hd];rfl
def acq{mask k0:Nat}(iW:mask+1=2^k0)(hs:Array Int)(uR:hs.size<=mask):∃owner,layClean mask hs=some owner/\Own mask hs.toList owner hs.size:=by
 rw[af1];obtain⟨o,e,ok⟩:=agr iW hs.toList (by rw[aw];exact uR) hs.toList 0 (Array.replicate (mask+1) none) rfl (c8 _) (by
  refine⟨by simp,λj q hq=>?_,λq hq=>by lia,λj j' q hq kO=>?_⟩
  .rw[Array.getElem?_replicate]at hq;split at hq<;>cases hq
  .rw[Array.getElem?_replicate]at hq;split at hq<;>cases hq)
 rw[e];exact⟨o,rfl,by rw[aw]at ok;exact ok⟩
theorem vo:∀(fuel k n:Nat),∃k',sizeAbove.go n fuel (2^k)=2^k'/\k<=k'/\k'<=k+fuel/\(n<2^(k+fuel)->n<2^k')/\(k'=k\/2^k'<=2*n)
 | 0,k,n=>⟨k,rfl,aq _,aq _,id,.inl rfl⟩
 | fuel+1,k,n=>by
  unfold sizeAbove.go;by_cases h:2^k<=n
  .rw[if_pos h,show 2^k*2=2^(k+1)from (js ..).symm];obtain⟨k',a,b,c,d,e⟩:=vo fuel (k+1) n;refine⟨k',a,by lia,by lia,λq=>d<|by rw[show k+1+fuel=k+(fuel+1) by lia];exact q,?_⟩;rcases e with e|e
   .rw[e,js];lia
   .exact .inr e
  .rw[if_neg h];exact⟨k,rfl,aq _,by lia,λ_=>by lia,.inl rfl⟩
def uk(n:Nat)(hn:n<2^13):∃k,sizeAbove n=2^k/\3<=k/\k<=13/\n<2^k:=by
 obtain⟨k,a,b,c,d,e⟩:=vo 64 3 n;refine⟨k,a,b,?_,d<|Nat.lt_trans hn<|Nat.pow_lt_pow_right (by decide)<|by decide⟩;rcases e with e|e
 .lia
 .apply du;intro h;have:2^14<=2^k:=gq (by decide) (by lia);have e14:2^14=2*2^13:=by decide
  lia
def ack(n:Nat)(h8:8<=n)(hn:n<2^13){k:Nat}(e:sizeAbove n=2^k):k<=13/\n<2^k/\2^k<=2*n:=by
 obtain⟨k',a,b,c,d,e'⟩:=vo 64 3 n;obtain⟨k2,a2,_,b2,c2⟩:=uk n hn;have e1:k=k2:=(Nat.pow_right_inj<|by decide).mp (e.symm.trans a2);have e2:k2=k':=(Nat.pow_right_inj<|by decide).mp (a2.symm.trans a);subst e1;refine⟨b2,c2,?_⟩;rcases e' with e'|e'
 .rw[e2,e'];lia
 .rw[e2];exact e'
def ao4{m n k k':Nat}(hk:m+1=2^k)(k3:3<=k)(uF:k<=13)(ko:k % 2=1)(h1:m*3<=n*5)(h2:(n-1)*5<m*3)(h4:n<=4000)(h13:k'<=13)(l1:n*4<2^k')(l2:2^k'<=2*(n*4)):k' % 2=1:=by
 have p3:2^3<=2^k:=gq (by decide) k3;have a:¬k'<=k+1:=λh=>by have h:=gq (show 0<2 by decide) h;rw[js]at h;lia
 have b:¬k+3<=k':=λh=>by have h:=gq (show 0<2 by decide) h;rw[Nat.pow_add]at h;lia
 lia
def aig{m n k:Nat}(hk:m+1=2^k)(k3:3<=k)(uF:k<=13)(ko:k % 2=1)(h1:m*3<=n*5)(h2:(n-1)*5<m*3)(h4:n<=4000):n*4<2^13/\2<=n:=by
 have p3:2^3<=2^k:=gq (by decide) k3;have a:k≠13:=λh=>by subst h;lia
 have h:=gq (show 0<2 by decide) (show k<=11 by lia);lia
theorem ye{α β:Type}{f:α->Option β}{g:α->β}:∀(l:List α),(∀x∈l,f x=some (g x))->l.filterMap f=l.map g
 | [],_=>rfl
 | a::l,h=>by rw[List.filterMap_cons,h a am,dg,ye l λx hx=>h x<|ao _ hx]
theorem af4{t:SetTable}{es:Array (Int×aA)}{cH:Nat}(hw:es.size*4<=cH)(DT:cH<2^13)(yC:∀k,sizeAbove cH=2^k->k % 2=1)(fK:0<es.size) :
  ∃t' gJ,t.relaid (es.map (·.1)) cH=some (t',gJ)/\TOk t' (gJ.filterMap (es[·]?))/\(gJ.filterMap (es[·]?)).toList.Perm es.toList/\t'.place.size*5<t'.mask*3/\t'.led=t.led:=by
 obtain⟨k,ek,k3,uF,hn⟩:=uk cH DT;have ko:=yC k ek;have qX:sizeAbove cH-1+1=2^k:=by rw[ek];have:=Nat.two_pow_pos k;lia
 have uR:(es.map (·.1)).size<=sizeAbove cH-1:=by rw[Array.size_map,ek];lia
 obtain⟨owner,eo,ok⟩:=acq qX (es.map (·.1)) uR;rw[Array.size_map]at ok;generalize hm:sizeAbove cH-1=mask at *
 let live:=(fu<|mask+1).filterMap λj=>(owner.getD j none).map λq=>(j,q)
 have h7:∀j q,(j,q)∈live↔owner[j]?=some (some q):=λj q=>by
  show(j,q)∈(fu<|mask+1).filterMap _↔_;rw[List.mem_filterMap];constructor
  .rintro⟨a,ha,e⟩;have hs:a<owner.size:=by rw[ok.size];exact ir.mp ha
   simp only[Array.getD,dif_pos hs]at e;cases hv:owner[a]with
   | none=>
    have e':(owner[a]).map (λq=>(a,q))=some (j,q):=e;rw[hv]at e';cases e'
   | some v=>
    have e':(owner[a]).map (λq=>(a,q))=some (j,q):=e;rw[hv]at e';cases e';rw[bv hs,hv]
  .intro h;obtain⟨hs,hv⟩:=bg.mp h;refine⟨j,ir.mpr<|by rw[<-ok.size];exact hs,?_⟩;simp only[Array.getD,dif_pos hs];show(owner[j]).map (λq=>(j,q))=some (j,q);rw[hv];rfl
 have qR:(live.map (·.1)).Pairwise (· < ·):=by rw[fc];show((fu<|mask+1).filterMap _).Pairwise _;rw[List.pairwise_filterMap];refine List.Pairwise.imp ?_<|List.pairwise_lt_range (n:=mask+1);intro a b lT x hx y hy;obtain⟨q,_,rfl⟩:=bo.mp hx;obtain⟨q',_,rfl⟩:=bo.mp hy;exact lT
 have ls:(live.map (·.2)).Nodup:=by
  show List.Pairwise _ _;rw[fc];have h1:live.Pairwise λa b=>a.1<b.1:=by rw[fc]at qR;exact qR
  refine gx ?_ h1;intro a b ha hb lT e;have:=ok.o3 a.1 b.1 a.2 ((h7 _ _).mp ha) (by rw[e];exact(h7 _ _).mp hb);lia
 have iV:(live.map (·.2)).Perm (fu es.size):=by
  rw[List.perm_ext_iff_of_nodup ls List.nodup_range];intro q;rw[a7,ir];constructor
  .rintro⟨⟨j,q'⟩,h,rfl⟩;exact(ok.o1 j q'<|(h7 _ _).mp h).1
  .intro h;obtain⟨j,hj⟩:=ok.o2 q h;exact⟨(j,q),(h7 _ _).mpr hj,rfl⟩
 have aX:live.length=es.size:=by have:=iV.length_eq;rw[ae,jb]at this;exact this
 have BU:((live.map (·.2)).toArray.filterMap (es[·]?)).toList=live.map λx=>es[x.2]?.getD (0,.none):=by
  rw[Array.toList_filterMap];show List.filterMap _ (live.map (·.2))=_;rw[List.filterMap_map];have:∀x∈live,es[x.2]?=some (es[x.2]?.getD (0,.none)):=λx hx=>by have cF:=(ok.o1 x.1 x.2<|(h7 x.1 x.2).mp hx).1;rw[bv cF];rfl
  exact ye live this
 have GK:(live.map λx=>es[x.2]?.getD (0,.none)).Perm es.toList:=by
  have h1:=iV.map λq=>es[q]?.getD (0,.none);rw[gy]at h1;have h2:(fu es.size).map (λq=>es[q]?.getD (0,.none))=es.toList:=by
   apply List.ext_getElem
   .simp
   .intro i a b;simp;rw[bv (by simpa using b)];rfl
  rw[h2]at h1;exact h1
 refine(lc ⟨mask,(live.map (·.1)).toArray,#[],t.finger,t.led,t.movedTo mask,t.plain⟩ ((live.map (·.2)).toArray) ⟨?_,?_,?_,?_,rfl⟩)
 .unfold SetTable.relaid SetTable.laid;rw[hm,eo];rfl
 .refine⟨⟨k,qX,k3,uF,ko⟩,rfl,by simpa using qR,?_,?_,?_,?_⟩
  .intro j hj;have tG:j∈live.map (·.1):=by simpa using hj
   obtain⟨⟨j',q⟩,h,rfl⟩:=a7.mp tG;have:=(bg.mp<|(h7 _ _).mp h).1;rw[ok.size]at this;show j'<=mask;lia
  .rw[<-aw (xs:=Array.filterMap _ _),BU];simp
  .show(live.map (·.1)).toArray.size<=mask;simp;rw[Array.size_map]at uR;lia
  .intro j e hs;rw[BU]at hs;obtain⟨i,h1,h2⟩:=hs;have jX:(live.map (·.1))[i]?=some j:=by simpa using h1
   rw[a8]at jX h2;cases hl:live[i]? with
   | none=>rw[hl]at jX;cases jX
   | some x=>
    rw[hl]at jX h2;obtain⟨j',q⟩:=x;cases jX;obtain⟨hq,h,a,n,b,c⟩:=ok.o1 j' q<|(h7 _ _).mp (aj hl);have e2:es[q]?.getD (0,.none)=e:=by cases h2;rfl
    have e3:e.1=h:=by
     rw[<-e2,bv hq];have a':(es.map (·.1))[q]?=some h:=by rw[<-bh];exact a
     rw[Array.getElem?_map,bv hq]at a';simpa using a'
    rw[e3];refine⟨n,b,λn' fQ=>?_⟩;obtain⟨q',kO⟩:=c n' fQ;have:qg mask h n'∈live.map (·.1):=a7.mpr ⟨(qg mask h n',q'),(h7 _ _).mpr kO,rfl⟩;simpa using this
 .rw[BU];exact GK
 .show(live.map (·.1)).toArray.size*5<mask*3;simp;rw[aX];lia
end L3
namespace L3
open PySem
variable{Pv:aA->Z9->Prop}
mutual
noncomputable def kd:Z9->Bool
 | .int _=>true
 | .str _=>true
 | .tuple ds=>wn ds
 | .none=>false
 | .bool _=>false
 | .list _=>false
 | .dict _=>false
noncomputable def wn:U Z9->Bool
 | []=>true
 | d::ds=>kd d&&wn ds
end
mutual
noncomputable def sN(w:aN):Z9->Int
 | .int i=>hashInt i
 | .str x=>eI w x
 | .tuple ds=>Ac (jm<|vf w ds)
 | .none=>0
 | .bool _=>0
 | .list _=>0
 | .dict _=>0
noncomputable def vf(w:aN):U Z9->U Int
 | []=>[]
 | d::ds=>sN w d::vf w ds
end
def EL(d:Z9):Prop:=∀(prog:aK)(w:aN)(A:Around)(E:aA->aB->Prop)(s:aB)(v:aA)(as:U aE)(Q:Int->aB->Prop),Reads s.heap v d as->A.units+d.depth<bV->(∀tk,s.toks<=tk->Q (sN w d) {s with toks:=tk})->aG (aH prog w) A (pyHash v) Q E s
theorem ajh{ds:U Z9}(H:∀d∈ds,EL d):EL (.tuple ds):=λprog w A E s v as Q r hu h=>by
 cases r with
 | @tuple a o vs n _ _ ho hc hd hi=>
 have hT:s.TypeIs (.ref a) "tuple":=⟨o,ho,hc⟩;have hu':A.units+(ba ds+1)<bV:=hu;unfold pyHash;first|unfold pyHashByItsType|skip
 first|refine aa (wpAny_cRoomFor_or (.inr (show A.units<bV by lia)) ?_)|skip
 refine aa<|cY (name:="__hash__") hT F.slot_tuple_hash.lookup ?_;show aG _ _ (if (some (aA.builtin "tuple.__hash__")==some aA.none)=true then _ else _) _ _ _;rw[if_neg (show ¬_ by rw[beq_builtin_none];exact ak)];refine aa<|cY (name:="__hash__") hT F.slot_tuple_hash.lookup ?_;show aG _ _ (callSpecialIfBoundUnlessNone? (.ref a) "__hash__" _ >>= _) _ _ _;refine aa<|wpAny_callSpecialIfBoundUnlessNone?_slot (name:="__hash__") hT F.slot_tuple_hash<|gu (name:="__hash__") F.slot_tuple_hash hT F.entry_tuple_hash ?_<|F.args_tuple_hash_1 _;show aG _ _ (Builtin.Tuple.tupleItemsOf (.ref a) >>= _) _ _ _;refine aa<|wpAny_tupleItemsOf (n:=n) ho hd ?_;refine aa ?_;rw[<-Array.forIn_toList];refine dO _
  (λbA (b:Array Int) s'=>∃done left bs tk,ds=done++left/\ReadsAll s.heap bA left bs/\b.toList=vf w done/\s'={s with toks:=tk}/\s.toks<=tk)
  _ (λx bA b s' hI=>?_) (λb s' hI=>?_) _ _ (my ([]) ds as s.toks ⟨rfl,hi,rfl,rfl,aq _⟩)
 .obtain⟨done,left,bs,tk,e,hl,hb,rfl,hk⟩:=hI;cases hl with
  | @cons _ _ d bD _ _ h1 tF=>
   have dE:d∈ds:=by rw[e];simp
   have GQ:∀(l:U Z9),d∈l->d.depth<=ba l:=λl=>by
    induction l with
    | nil=>intro q;cases q
    | cons y l ih=>
     intro q;show _<=qL y.depth (ba l);rcases ar.mp q with rfl|q
     .exact Nat.le_max_left _ _
     .exact fg (ih q)<|Nat.le_max_right _ _
   have pQ:=GQ ds dE;refine aa<|H d dE prog w _ E {s with toks:=tk} x _ _ h1 (by show A.units+1+d.depth<bV;lia) λvK dW=>?_;have hap:∀(l:U Z9),vf w (l++[d])=vf w l++[sN w d]:=λl=>by
    induction l with
    | nil=>rfl
    | cons y l ih=>show sN w y::vf w (l++[d])=_;rw[ih];rfl
   first
    | exact ai (my (done++[d]) bD _ vK ⟨by simp[e],tF,by simp[hb,hap],rfl,fg hk dW⟩)
    | exact aa<|ai<|ai ⟨done++[d],bD,_,vK,by simp[e],tF,by simp[hb,hap],rfl,fg hk dW⟩
 .obtain⟨done,left,bs,tk,e,hl,hb,rfl,hk⟩:=hI;cases hl;rw[ie]at e;subst e;show aG _ _ (retInt<|jm b.toList) _ _ _;rw[hb];refine wpAny_ret_mkInt ?_;show aG _ _ (if (decide (-(2:Int)^63<=jm (vf w ds))&&decide (jm (vf w ds)<2^63))=true then _ else _) _ _ _;have h':∀tk,s.toks<=tk->Q (Ac<|jm<|vf w ds) {s with toks:=tk}:=h;unfold Ac at h';split
  .rename_i hr
   rw[if_pos hr]at h';exact ai<|h' _<|by simp only;lia
  .rename_i hr
   rw[if_neg hr]at h';exact aa<|cJ<|ai<|h' _<|by simp only;lia
mutual
theorem ab1:∀(d:Z9),kd d=true->EL d
 | .int i,_=>λprog w A E s v as Q r hu h=>by
  cases r with
  | int=>exact Dy (h _<|by lia)
 | .str x,_=>λprog w A E s v as Q r hu h=>by
  cases r with
  | str=>exact Dx (h _<|by lia)
 | .tuple ds,hk=>ajh (xj ds hk)
 | .none,hk=>absurd hk ak
 | .bool _,hk=>absurd hk ak
 | .list _,hk=>absurd hk ak
 | .dict _,hk=>absurd hk ak
theorem xj:∀(ds:U Z9),wn ds=true->∀d∈ds,EL d
 | [],_,d,hd=>by cases hd
 | e::ds,hk,d,hd=>by
  have dW:(kd e&&wn ds)=true:=hk;rw[cy]at dW;rcases ar.mp hd with h|hd
  .rw[h];exact ab1 e dW.1
  .exact xj ds dW.2 d hd
end
mutual
theorem IP:∀(d e:Z9),kd d=true->kd e=true->c7 d e=true->d=e
 | .int i,e,_,he,h=>by cases e<;>simp[c7,kd]at h he⊢;exact h
 | .str x,e,_,he,h=>by cases e<;>simp[c7,kd]at h he⊢;exact h
 | .tuple ds,e,hd,he,h=>by
  cases e with
  | tuple es=>
   have:=JS ds es hd he (by simpa [c7]using h);rw[this]
  | _=>simp[c7,kd]at h he
 | .none,_,hd,_,_=>absurd hd ak
 | .bool _,_,hd,_,_=>absurd hd ak
 | .list _,_,hd,_,_=>absurd hd ak
 | .dict _,_,hd,_,_=>absurd hd ak
theorem JS:∀(ds es:U Z9),wn ds=true->wn es=true->PyData.eqvAll ds es=true->ds=es
 | [],[],_,_,_=>rfl
 | [],_::_,_,_,h=>by simp[PyData.eqvAll]at h
 | _::_,[],_,_,h=>by simp[PyData.eqvAll]at h
 | d::ds,e::es,hd,he,h=>by
  have mV:(kd d&&wn ds)=true:=hd;have jF:(kd e&&wn es)=true:=he;rw[cy]at mV jF;have h':c7 d e=true/\PyData.eqvAll ds es=true:=by simpa [PyData.eqvAll]using h
  rw[IP d e mV.1 jF.1 h'.1,JS ds es mV.2 jF.2 h'.2]
end
theorem rq{h:Heap}:∀{vs:U aA} {ds:U Z9} {as:U aE},ReadsAll h vs ds as->∀v∈vs,∃d bs,d∈ds/\Reads h v d bs
 | _,_,_,.nil,v,hv=>by cases hv
 | _,_,_,.cons h1 h2,v,hv=>by
  rcases ar.mp hv with e|hv
  .rw[e];exact(lc _ _ ⟨am,h1⟩)
  .obtain⟨d,bs,q1,q2⟩:=rq h2 v hv;exact(lc d bs ⟨ao _ q1,q2⟩)
theorem EQ:∀{ds:U Z9},wn ds=true->∀d∈ds,kd d=true
 | [],_,d,hd=>by cases hd
 | e::ds,hk,d,hd=>by
  have dW:(kd e&&wn ds)=true:=hk;rw[cy]at dW;rcases ar.mp hd with h|hd
  .rw[h];exact dW.1
  .exact EQ dW.2 d hd
theorem JA:∀{ds:U Z9},∀d∈ds,d.depth<=ba ds
 | [],d,hd=>by cases hd
 | e::ds,d,hd=>by
  show _<=qL e.depth (ba ds);rcases ar.mp hd with h|hd
  .rw[h];exact Nat.le_max_left _ _
  .exact fg (JA d hd)<|Nat.le_max_right _ _
section
variable{prog:aK}{w:aN}{A:Around}{E:aA->aB->Prop}{s:aB}
theorem abd(n:Nat):∀{v:aA} {d:Z9} {as:U aE} {Q:Bool->aB->Prop},kd d=true->Reads s.heap v d as->d.depth<n->Q true s->aG (aH prog w) A (eqIsQuiet n v) Q E s:=by
 induction n with
 | zero=>intro v d as Q hk r hn q;exact absurd hn (Nat.not_lt_zero _)
 | succ n ih=>
  intro v d as Q hk r hn q;cases d with
  | int i=>cases r with|int=>rw[Cn _ rfl];exact ai q
  | str x=>cases r with|str=>rw[Cn _ rfl];exact ai q
  | tuple ds=>
    cases r with
    | @tuple a o vs m _ _ ho hc hd hi=>
    have hT:s.TypeIs (.ref a) "tuple":=⟨o,ho,hc⟩;have fQ:ba ds+1<n+1:=hn;unfold eqIsQuiet;refine aa<|cY (name:="__eq__") hT F.slot_tuple_eq.lookup ?_;show aG _ _ (isInstance (.ref a) (.type "tuple") >>= _) _ _ _;refine aa<|dN (T:="tuple") hT isSubtype_tuple_tuple ?_;simp only[ig,a0,if_false];refine aa<|ix (n:=m) ho hd ?_;refine aa ?_;show aG _ _ (wS vs _ _) _ _ _;rw[<-Array.forIn_toList];refine dO _ (λbA r s'=>r.1=none/\s'=s/\∀v∈bA,v∈vs.toList) _ (λv bA r s' hI=>?_) (λr s' hI=>?_) _ _ ⟨rfl,rfl,λv hv=>hv⟩
    .obtain⟨hr,es,bI⟩:=hI;rw[es];obtain⟨d,bs,pQ,kS⟩:=rq hi v<|bI v am;refine aa<|ih (EQ hk d pQ) kS (by have:=JA d pQ;lia) ?_;simp only[ig,a0,if_false];exact ai ⟨rfl,rfl,λu hu=>bI u<|ao _ hu⟩
    .obtain⟨r1,r2⟩:=r;obtain⟨hr,rfl,_⟩:=hI;simp only at hr;subst hr;exact ai q
  | none=>exact absurd hk ak
  | bool _=>exact absurd hk ak
  | list _=>exact absurd hk ak
  | dict _=>exact absurd hk ak
theorem aav(n:Nat):∀{v:aA} {d:Z9} {as:U aE} {Q:Bool->aB->Prop},kd d=true->Reads s.heap v d as->d.depth<n->Q false s->aG (aH prog w) A (fA n v) Q E s:=by
 induction n with
 | zero=>intro v d as Q hk r hn q;exact absurd hn (Nat.not_lt_zero _)
 | succ n ih=>
  intro v d as Q hk r hn q;cases d with
  | int i=>cases r with|int=>unfold fA;exact ai q
  | str x=>cases r with|str=>unfold fA;exact ai q
  | tuple ds=>
    cases r with
    | @tuple a o vs m _ _ ho hc hd hi=>
    have hT:s.TypeIs (.ref a) "tuple":=⟨o,ho,hc⟩;have fQ:ba ds+1<n+1:=hn;unfold fA;refine aa<|sR (T:="tuple") hT ?_;dsimp only;rw[if_pos (by decide)];refine aa<|ai ?_;simp only[ig,a0,if_false];refine aa<|ix (n:=m) ho hd ?_;dsimp only;refine aa ?_;rw[<-Array.forIn_toList];refine dO _ (λbA r s'=>r.1=none/\s'=s/\∀v∈bA,v∈vs.toList) _ (λv bA r s' hI=>?_) (λr s' hI=>?_) _ _ ⟨rfl,rfl,λv hv=>hv⟩
    .obtain⟨hr,es,bI⟩:=hI;rw[es];obtain⟨d,bs,pQ,kS⟩:=rq hi v<|bI v am;refine aa<|ih (EQ hk d pQ) kS (by have:=JA d pQ;lia) ?_;simp only[a0,if_false];exact ai ⟨rfl,rfl,λu hu=>bI u<|ao _ hu⟩
    .obtain⟨r1,r2⟩:=r;obtain⟨hr,rfl,_⟩:=hI;simp only at hr;subst hr;exact ai q
  | none=>exact absurd hk ak
  | bool _=>exact absurd hk ak
  | list _=>exact absurd hk ak
  | dict _=>exact absurd hk ak
theorem aad:∀(n:Nat) {v:aA} {d:Z9} {as:U aE} {Q:Bool->aB->Prop},kd d=true->Reads s.heap v d as->(∀b,Q b s)->aG (aH prog w) A (iC n v) Q E s
 | n,v,.int i,as,Q,hk,r,q=>by cases r with|int=>unfold iC;exact ai (q _)
 | n,v,.str x,as,Q,hk,r,q=>by cases r with|str=>unfold iC;exact ai (q _)
 | 0,v,.tuple ds,as,Q,hk,r,q=>by cases r with|tuple=>unfold iC;exact ai (q _)
 | n+1,v,.tuple ds,as,Q,hk,r,q=>by
  cases r with
  | @tuple a o vs m _ _ ho hc hd hi=>
  have hT:s.TypeIs (.ref a) "tuple":=⟨o,ho,hc⟩;unfold iC;refine aa<|cY (name:="__hash__") hT F.slot_tuple_hash.lookup ?_;dsimp only;refine aa<|ix (n:=m) ho hd ?_;refine aa ?_;show aG _ _ (wS vs _ _) _ _ _;rw[<-Array.forIn_toList];refine dO _ (λbA r s'=>r.1=none/\s'=s/\∀v∈bA,v∈vs.toList) _ (λv bA r s' hI=>?_) (λr s' hI=>?_) _ _ ⟨rfl,rfl,λv hv=>hv⟩
  .obtain⟨hr,es,bI⟩:=hI;rw[es];obtain⟨d,bs,pQ,kS⟩:=rq hi v<|bI v am;refine aa<|aad n (EQ hk d pQ) kS λb=>?_;cases b with
   | true=>
    simp only[ig,a0,if_false];exact ai ⟨rfl,rfl,λu hu=>bI u<|ao _ hu⟩
   | false=>
    simp only[Bool.not_false,if_true];exact ai<|ai<|q _
  .obtain⟨r1,r2⟩:=r;obtain⟨hr,rfl,_⟩:=hI;simp only at hr;subst hr;exact ai (q _)
 | _,_,.none,_,_,hk,_,_=>absurd hk ak
 | _,_,.bool _,_,_,hk,_,_=>absurd hk ak
 | _,_,.list _,_,_,hk,_,_=>absurd hk ak
 | _,_,.dict _,_,_,hk,_,_=>absurd hk ak
structure El(Pv:aA->Z9->Prop)(w:aN)(h:Heap)(e:Int×aA)(d:Z9):Prop where
 own:Pv e.2 d
 hash:e.1=sN w d
 key:kd d=true
 tup:∃ds,d=.tuple ds
 lay:d.canLay0=true
 deep:d.depth<8
 reads:∃as,Reads h e.2 d as
theorem El.ref{w:aN}{h:Heap}{e:Int×aA}{d:Z9}(x:El Pv w h e d):∃a,e.2=.ref a:=by
 obtain⟨ds,rfl⟩:=x.tup;obtain⟨as,r⟩:=x.reads;generalize e.2=v at r;cases r with
 | tuple=>exact⟨_,rfl⟩
def El.eq{h:Heap}{A:Around}{e e':Int×aA}{d d':Z9}(hs:s.heap=h)(x:El Pv w h e d)(y:El Pv w h e' d')(hu:A.units+8<bV){Q:Bool->aB->Prop}(q:∀b:Bool,(b=true↔d=d')->Q b s):aG (aH prog w) A (eqBool e.2 e'.2) Q E s:=by subst hs;obtain⟨as,r⟩:=x.reads;obtain⟨bs,r'⟩:=y.reads;refine SeqAt.eqBoolOverData prog w A E s _ _ d d' as bs Q r r' x.lay y.lay (by have:=x.deep;have:=Nat.min_le_left d.depth d'.depth;lia) ?_;refine q _ ⟨λz=>IP d d' x.key y.key z,λz=>?_⟩;rw[<-z];exact SeqAt.eqv_refl _ x.lay
theorem aq5{x:Int×aA}{d:Z9}(hx:El Pv w s.heap x d):∀(ys:U aA) {Q:Bool->aB->Prop},(∀y∈ys,∃h e,El Pv w s.heap (h,y) e)->Q false s->aG (aH prog w) A (AW x.2 ys) Q E s:=by
 intro ys Q hy q;unfold AW;refine aa ?_;refine dO _ (λbA r s'=>r.1=none/\s'=s/\∀v∈bA,v∈ys) _ (λv bA r s' hI=>?_) (λr s' hI=>?_) _ _ ⟨rfl,rfl,λv hv=>hv⟩
 .obtain⟨hr,rfl,bI⟩:=hI;obtain⟨h,e,hE⟩:=hy v<|bI v am;obtain⟨a,ea⟩:=hx.ref;obtain⟨b,eb⟩:=hE.ref;obtain⟨as,r1⟩:=hx.reads;obtain⟨bs,r2⟩:=hE.reads;have nxt:∀u∈bA,u∈ys:=λu hu=>bI u<|ao _ hu;simp only at eb r2;have stay:aG (aH prog w) A (aT (ForInStep.yield ((none:Option Bool),())):oE (ForInStep<|Option Bool×Unit)) (λr AX=>match r with
   | ForInStep.yield b'=>b'.fst=none/\AX=s'/\∀(v:aA),v∈bA->v∈ys
   | ForInStep.done b'=>aG (aH prog w) A (match b'.fst with|some r=>aT r|none=>aT false) Q E AX) E s':=ai ⟨rfl,rfl,nxt⟩
  subst eb;rw[ea]at r1⊢;dsimp only;split
  .exact stay
  .refine aa<|abd 8 hx.key r1 hx.deep ?_;simp only[ig,a0,if_false];refine aa<|abd 8 hE.key r2 hE.deep ?_;simp only[ig,a0,if_false];refine aa<|aav 8 hx.key r1 hx.deep ?_;simp only[a0,if_false];refine aa<|aav 8 hE.key r2 hE.deep ?_;simp only[a0,if_false];exact stay
 .obtain⟨r1,r2⟩:=r;obtain⟨hr,rfl,_⟩:=hI;simp only at hr;subst hr;exact ai q
def Els(Pv:aA->Z9->Prop)(w:aN)(h:Heap)(es:U (Int×aA))(ds:U Z9):Prop:=es.length=ds.length/\∀(i:Nat) e d,es[i]?=some e->ds[i]?=some d->El Pv w h e d
def Els.at{h:Heap}{es:U (Int×aA)}{ds:U Z9}(x:Els Pv w h es ds){i:Nat}{e:Int×aA}(he:es[i]?=some e):∃d,ds[i]?=some d/\El Pv w h e d:=by have hl:=(ap.mp he).1;have hd:ds[i]?=some (ds[i]'(by rw[<-x.1];exact hl)):=af _;exact⟨_,hd,x.2 i e _ he hd⟩
def am5{t:SetTable}{es:Array (Int×aA)}(ok:TOk t es){f:Nat->Int}{h:Int}{p:SetTable.Probe}(st:vD t.mask p) :
  ∃met,t.probe f h p=some met/\((∃n,met=.empty (itn (adv t.mask) n p).j p.dummy/\(itn (adv t.mask) n p).j∉t.place.toList/\∀n',n'<n->∃i:Nat,t.place[i]?=some (itn (adv t.mask) n' p).j/\f i≠h)\/
  (∃n i,met=.candidate (itn (adv t.mask) n p).j i (itn (adv t.mask) (n+1) p)/\t.place[i]?=some (itn (adv t.mask) n p).j/\f i=h/\∀n',n'<n->∃i':Nat,t.place[i']?=some (itn (adv t.mask) n' p).j/\f i'≠h)):=by
 rcases ai0 ok f h st with ⟨n,e,r⟩|⟨n,i,e,r⟩
 .exact⟨_,e,.inl ⟨n,rfl,r⟩⟩
 .exact⟨_,e,.inr<|lc n i ⟨rfl,r⟩⟩
theorem adf(mask:Nat):∀(n:Nat)(p:SetTable.Probe),(itn (adv mask) n p).dummy=p.dummy
 | 0,_=>rfl
 | n+1,p=>by show(itn (adv mask) n<|adv mask p).dummy=_;rw[adf mask n];unfold adv;split<;>rfl
theorem abx{a:aE}{o:Obj}{es:Array (Int×aA)}{ep:Nat}{t:SetTable}{ds:U Z9}{x:Int×aA}{d:Z9}{Q:SetFound->aB->Prop}
  (ho:s.heap.get? a=some o) (hd:o.data=.set es ep t) (ok:TOk t es) (els:Els Pv w s.heap es.toList ds) (hx:El Pv w s.heap x d) (hu:A.units+8<bV)
  (q1:d∈ds->Q (.there none) s) (q2:∀n,d∉ds->qg t.mask x.1 n∉t.place.toList->(∀n',n'<n->qg t.mask x.1 n'∈t.place.toList)->Q (.free (qg t.mask x.1 n) false) s) :
  ∀(fuel m N:Nat)(nH:Option SetTable.Probe),nH.getD (st0 t.mask x.1)=itn (adv t.mask) m (st0 t.mask x.1)->qg t.mask x.1 N∉t.place.toList->N<m+fuel->
   (∀n',n'<m->∃i:Nat,t.place[i]?=some (qg t.mask x.1 n')/\ds[i]?≠some d)->aG (aH prog w) A (pJ a x.2 x.1 true fuel nH) Q E s
 | 0,m,N,nH,bS,hN,hf,hm=>by exfalso;obtain⟨i,h1,h2⟩:=hm N (by lia);exact hN (by rw[<-bh]at h1;exact aj h1)
 | fuel+1,m,N,nH,bS,hN,hf,hm=>by
  unfold pJ;refine aa<|gl ho hd ok.fits ?_;dsimp only;rw[ok.noway];simp only[a0,if_false];rw[anm,bS];have xS:vD t.mask (itn (adv t.mask) m<|st0 t.mask x.1):=J1 m<|x8 _ _;have nM:∀n,(itn (adv t.mask) n<|itn (adv t.mask) m<|st0 t.mask x.1).j=qg t.mask x.1 (m+n):=λn=>by unfold qg;rw[ug]
  have inj:∀{i i' j:Nat},t.place[i]?=some j->t.place[i']?=some j->i=i':=λ{i i' j} h1 h2=>by rw[<-JP ok.rise h1,JP ok.rise h2]
  have wU:∀{i j:Nat},t.place[i]?=some j->∃e di,es[i]?=some e/\ds[i]?=some di/\El Pv w s.heap e di:=λ{i j} h1=>by have hl:=(bg.mp h1).1;have he:es[i]?=some (es[i]'(by rw[<-ok.sz];exact hl)):=bv _;obtain⟨di,h2,h3⟩:=els.at (by rw[bh];exact he);exact(lc _ di ⟨he,h2,h3⟩)
  obtain⟨met,hp,Gr⟩:=am5 ok (f:=_) (h:=x.1) xS;rw[hp];have Cy:∀{n i:Nat},t.place[i]?=some (itn (adv t.mask) n<|itn (adv t.mask) m<|st0 t.mask x.1).j->(es[i]?.map (·.1)).getD 0≠x.1->ds[i]?≠some d:=λ{n i} h1 h2 h3=>by obtain⟨e,di,g1,g2,g3⟩:=wU h1;rw[g2]at h3;cases h3;apply h2;rw[g1];show e.1=x.1;rw[g3.hash,hx.hash]
  rcases Gr with ⟨n,rfl,cG,yP⟩|⟨n,i,rfl,gW,hfi,yP⟩
  .have B7:∀n',n'<n->∃i:Nat,t.place[i]?=some (itn (adv t.mask) n'<|itn (adv t.mask) m<|st0 t.mask x.1).j/\ds[i]?≠some d:=λn' fQ=>by
    obtain⟨i',h1,h2⟩:=yP n' fQ;exact⟨i',h1,Cy h1 h2⟩
   dsimp only;rw[adf];show aG _ _ (aT _) _ _ _;rw[nM]at cG⊢;have rZ:∀n',n'<m+n->∃i:Nat,t.place[i]?=some (qg t.mask x.1 n')/\ds[i]?≠some d:=λn' fQ=>by
    by_cases hq:n'<m
    .exact hm n' hq
    .obtain⟨i',h1,h2⟩:=B7 (n'-m) (by lia);rw[nM,show m+(n'-m)=n' by lia]at h1;exact⟨i',h1,h2⟩
   refine ai<|q2 (m+n) (λmT=>?_) cG λn' fQ=>?_
   .obtain⟨k,hk⟩:=gp mT;have oP:=(ap.mp hk).1;have hke:es.toList[k]?=some (es.toList[k]'(by rw[els.1];exact oP)):=af _;have tI:=els.2 k _ d hke hk;have nU:t.place[k]?=some (t.place[k]'(by rw[ok.sz,<-aw,els.1];exact oP)):=bv _;obtain⟨n',fQ,hr⟩:=ok.ahead (j:=t.place[k]'(by rw[ok.sz,<-aw,els.1];exact oP)) (e:=es.toList[k]'(by rw[els.1];exact oP)) ⟨k,by rw[bh];exact nU,hke⟩ (n:=m+n) (by rw[tI.hash,<-hx.hash];exact cG);rw[tI.hash,<-hx.hash]at hr;obtain⟨i',g1,g2⟩:=rZ n' fQ;rw[hr]at g1;have e:=inj nU g1;rw[<-e]at g2;exact g2 hk
   .obtain⟨i',g1,_⟩:=rZ n' fQ;rw[<-bh]at g1;exact aj g1
  .obtain⟨e,di,g1,g2,g3⟩:=wU gW;obtain⟨eh,y⟩:=e;obtain⟨ya,ey⟩:=g3.ref;have ey':y=.ref ya:=ey;subst ey';dsimp only;have fin:aG (aH prog w) A (pJ a x.2 x.1 true fuel<|some<|itn (adv t.mask) (n+1)<|itn (adv t.mask) m<|st0 t.mask x.1) Q E s\/di=d:=by
    by_cases hq:di=d
    .exact .inr hq
    .refine .inl<|abx ho hd ok els hx hu q1 q2 fuel (m+n+1) N _ ?_ hN (by lia) λn' fQ=>?_
     .show itn (adv t.mask) (n+1) (itn (adv t.mask) m<|st0 t.mask x.1)=_;rw[<-ug];rfl
     .by_cases xW:n'<m
      .exact hm n' xW
      .by_cases nT:n'-m<n
       .obtain⟨i',h1,h2⟩:=yP (n'-m) nT;have h3:=Cy h1 h2;rw[nM,show m+(n'-m)=n' by lia]at h1;exact⟨i',h1,h3⟩
       .rw[nM,show m+n=n' by lia]at gW;exact⟨i,gW,by rw[g2];intro z;cases z;exact hq rfl⟩
   have Cu:∀(b:Bool),(b=true↔di=d)->(b=true->aG (aH prog w) A (aT<|SetFound.there none) Q E s):=λb hb hbt=>ai (q1 (by
    rw[<-hb.mp hbt];exact aj g2))
   rw[g1];dsimp only;have sm:t.sameMemory t.moves t.mask=some true:=by unfold SetTable.sameMemory;simp
   cases cT:t.led with
   | true=>
    simp only[ig,a0,if_false];refine aa<|db<|El.eq rfl g3 hx hu λb hb=>?_;refine aa<|gl ho hd ok.fits ?_;cases b with
    | true=>
     simp only[Bool.and_self,if_true];exact Cu true hb rfl
    | false=>
     simp only[Bool.and_false,a0,if_false];rw[sm];dsimp only;rw[if_pos rfl,JV ok.rise gW];dsimp only;rw[g1];dsimp only;refine aa<|tS ?_;refine aa<|ai ?_;simp only[if_true,a0,if_false];rcases fin with f|f
     .exact f
     .exact absurd (hb.mpr f) (by simp)
   | false=>
    simp only[Bool.not_false,if_true];refine aa<|aq5 hx _ (λy hy=>?_) ?_
    .obtain⟨e,he,rfl⟩:=a7.mp hy;have jF:e∈es.toList:=by
      rw[Array.toList_filter]at he;exact(gg.mp he).1
     obtain⟨k,hk⟩:=gp jF;obtain⟨dk,_,hE⟩:=els.at hk;exact(lc e.1 dk hE)
    simp only[a0,if_false];refine aa<|db<|El.eq rfl g3 hx hu λb hb=>?_;refine aa<|gl ho hd ok.fits ?_;cases b with
    | true=>
     simp only[Bool.and_self,if_true];exact Cu true hb rfl
    | false=>
     simp only[Bool.and_false,a0,if_false];rw[sm];dsimp only;rw[if_pos rfl,JV ok.rise gW];dsimp only;rw[g1];dsimp only;refine aa<|tS ?_;refine aa<|ai ?_;simp only[if_true,a0,if_false];rcases fin with f|f
     .exact f
     .exact absurd (hb.mpr f)<|by simp
end
end L3
namespace L3
open PySem
variable{Pv:aA->Z9->Prop}
def amw{w:aN}{h:Heap}{ds:U Z9}(x:Els Pv w h [] ds):ds=[]:=fj.mp x.1.symm
theorem x9{w:aN}{h:Heap}{e:Int×aA}{es:U (Int×aA)}{ds:U Z9}(x:Els Pv w h (e::es) ds):∃d bD,ds=d::bD/\El Pv w h e d/\Els Pv w h es bD:=by
 match ds,x with
 | [],x=>exact absurd x.1 (by simp)
 | d::bD,x=>exact(lc d bD ⟨rfl,x.2 0 e d rfl rfl,by have:=x.1;simpa using this,λi e' d' h1 h2=>x.2 (i+1) e' d' h1 h2⟩)
theorem Els.cons{w:aN}{h:Heap}{e:Int×aA}{d:Z9}{es:U (Int×aA)}{ds:U Z9}(hd:El Pv w h e d)(x:Els Pv w h es ds):Els Pv w h (e::es) (d::ds):=by
 refine⟨by rw[bj,bj,x.1],λi e' d' h1 h2=>?_⟩;cases i with
 | zero=>cases h1;cases h2;exact hd
 | succ i=>exact x.2 i e' d' h1 h2
def Els.nil{w:aN}{h:Heap}:Els Pv w h [] []:=⟨rfl,λi e d h1 _=>by simp at h1⟩
theorem Els.append{w:aN}{h:Heap}:∀{es fs:U (Int×aA)} {ds gs:U Z9},Els Pv w h es ds->Els Pv w h fs gs->Els Pv w h (es++fs) (ds++gs)
 | [],fs,ds,gs,x,y=>by rw[amw x];exact y
 | e::es,fs,ds,gs,x,y=>by obtain⟨d,bD,rfl,h1,h2⟩:=x9 x;exact Els.cons h1<|h2.append y
theorem Els.take{w:aN}{h:Heap}{es:U (Int×aA)}{ds:U Z9}(x:Els Pv w h es ds)(n:Nat):Els Pv w h (es.take n) (ds.take n):=by
 refine⟨by rw[cm,cm,x.1],λi e d h1 h2=>?_⟩;have hi:i<n:=by have:=(ap.mp h1).1;rw[cm]at this;lia
 rw[de hi]at h1 h2;exact x.2 i e d h1 h2
theorem Els.drop{w:aN}{h:Heap}{es:U (Int×aA)}{ds:U Z9}(x:Els Pv w h es ds)(n:Nat):Els Pv w h (es.drop n) (ds.drop n):=by refine⟨by rw[ii,ii,x.1],λi e d h1 h2=>?_⟩;rw[ff]at h1 h2;exact x.2 _ e d h1 h2
theorem Els.perm{w:aN}{h:Heap}{es fs:U (Int×aA)}(p:es.Perm fs):∀{ds:U Z9},Els Pv w h fs ds->∃bD,bD.Perm ds/\Els Pv w h es bD:=by
 induction p with
 | nil=>intro ds x;exact⟨ds,ip _,x⟩
 | cons e p ih=>
  intro ds x;obtain⟨d,ds1,rfl,h1,h2⟩:=x9 x;obtain⟨Cr,p2,x2⟩:=ih h2;exact⟨d::Cr,p2.cons d,x2.cons h1⟩
 | swap a b l=>
  intro ds x;obtain⟨d,ds1,rfl,h1,h2⟩:=x9 x;obtain⟨d',Cr,rfl,h3,h4⟩:=x9 h2;exact⟨d'::d::Cr,List.Perm.swap _ _ _,(h4.cons h1).cons h3⟩
 | trans p1 p2 ih1 ih2=>
  intro ds x;obtain⟨ds1,q1,x1⟩:=ih2 x;obtain⟨Cr,q2,x2⟩:=ih1 x1;exact⟨Cr,q2.trans q1,x2⟩
def uy(h h':Heap):Prop:=∀b ob,h.get? b=some ob->ob.cls=.type "tuple"->h'.get? b=some ob
mutual
theorem ace{h h':Heap}(t:uy h h'):∀(d:Z9) {v:aA} {as:U aE},kd d=true->Reads h v d as->Reads h' v d as
 | .int i,v,as,_,r=>by cases r with|int=>exact .int _ _
 | .str x,v,as,_,r=>by cases r with|str=>exact .str _ _
 | .tuple ds,v,as,hk,r=>by
  cases r with
  | tuple ho hc hd hi=>exact .tuple (t _ _ ho hc) hc hd (xt t ds hk hi)
 | .none,_,_,hk,_=>absurd hk ak
 | .bool _,_,_,hk,_=>absurd hk ak
 | .list _,_,_,hk,_=>absurd hk ak
 | .dict _,_,_,hk,_=>absurd hk ak
theorem xt{h h':Heap}(t:uy h h'):∀(ds:U Z9) {vs:U aA} {as:U aE},wn ds=true->ReadsAll h vs ds as->ReadsAll h' vs ds as
 | [],vs,as,_,r=>by cases r;exact .nil
 | d::ds,vs,as,hk,r=>by
  have dW:(kd d&&wn ds)=true:=hk;rw[cy]at dW;cases r with
  | cons h1 h2=>exact .cons (ace t d dW.1 h1)<|xt t ds dW.2 h2
end
def El.stay{w:aN}{h h':Heap}(t:uy h h'){e:Int×aA}{d:Z9}(x:El Pv w h e d):El Pv w h' e d:=
 ⟨x.own,x.hash,x.key,x.tup,x.lay,x.deep,let ⟨as,r⟩:=x.reads;⟨as,ace t d x.key r⟩⟩
theorem Els.stay{w:aN}{h h':Heap}(t:uy h h'){es:U (Int×aA)}{ds:U Z9}(x:Els Pv w h es ds):Els Pv w h' es ds:=⟨x.1,λi e d h1 h2=>(x.2 i e d h1 h2).stay t⟩
def ah2{h h':Heap}{a:aE}{o:Obj}(ho:h.get? a=some o)(hc:o.cls=.type "set")(hs:b7 a h h'):uy h h':=λb ob hb ht=>by
 have:b≠a:=λe=>by subst e;rw[ho]at hb;cases hb;rw[hc]at ht;exact absurd ht<|by decide
 rw[hs.2 b this];exact hb
noncomputable def byT(w:aN):Bool:=w.params.followText "set-order"
def SetD(Pv:aA->Z9->Prop)(w:aN)(h:Heap)(a:aE)(ds:U Z9):Prop:=
 ∃o es ep t,h.get? a=some o/\o.ExactSet/\o.data=.set es ep t/\TOk t es/\t.place.size*5<t.mask*3/\Els Pv w h es.toList ds/\ds.Nodup/\t.led = !byT w
theorem SetD.fresh{w:aN}{h:Heap}{led:Bool}(cT:led = !byT w):SetD Pv w (h.push {cls:=.type "set",dict:=none,data:=.set #[] 0 (.fresh 0 0 led)}) h.objs.size []:=
 (my _ (#[]) 0 _ ⟨a6 _ rfl,⟨rfl,rfl,rfl⟩,rfl,TOk.fresh 0 0 led,(by show 0*5<7*3;decide),Els.nil,List.nodup_nil,cT⟩)
def TOk.withPlain{t:SetTable}{es:Array (Int×aA)}(ok:TOk t es)(b:Bool):TOk {t with plain:=b} es:=⟨ok.two,ok.dm,ok.rise,ok.bd,ok.sz,ok.fit,ok.onroad⟩
section
variable{prog:aK}{w:aN}{A:Around}{E:aA->aB->Prop}{s:aB}
def apa{a:aE}{o:Obj}{es:Array (Int×aA)}{ep:Nat}{t:SetTable}{ds:U Z9}{cH:Nat}{Q:Unit->aB->Prop}
  (ho:s.heap.get? a=some o) (fJ:o.ExactSet) (hd:o.data=.set es ep t) (ok:TOk t es) (els:Els Pv w s.heap es.toList ds) (ls:ds.Nodup) (cT:t.led = !byT w) (hw:es.size*4<=cH) (DT:cH<2^13) (yC:∀k,SetTable.sizeAbove cH=2^k->k % 2=1) (fK:0<es.size)
  (q:∀h' bD,b7 a s.heap h'->SetD Pv w h' a bD->bD.Perm ds->Q () {s with heap:=h'}):aG (aH prog w) A (setRelay a cH) Q E s:=by
 obtain⟨t',gJ,e,ok',pm,few,Ho⟩:=af4 (t:=t) hw DT yC fK;obtain⟨k,ek,k3,uF,hn⟩:=uk cH DT;have eS:¬SetTable.sizeAbove cH>aF:=by rw[ek,jl];have:2^k<=2^13:=gq (by decide) uF;lia
 have hsz:(gJ.filterMap (es[·]?)).size=es.size:=by have:=pm.length_eq;rw[aw,aw]at this;exact this
 obtain⟨bD,pd,Hn⟩:=els.perm pm;unfold setRelay;refine aa<|gl ho hd ok.fits ?_;dsimp only;rw[if_neg eS,e];refine aa ?_;show aG _ _ (ite _ _ _) _ _ _;rw[if_neg (by simp[hsz])];refine ai ?_;have F1:es.size<=aF:=by rw[jl];lia
 refine AQ ho hd ?_ (by rw[hsz];exact F1);have hg:(s.heap.update a<|Obj.putSet (gJ.filterMap (es[·]?)) t').get? a=some {o with data:=.set (gJ.filterMap (es[·]?)) (ep+1) t'}:=by have:=cp (Obj.putSet (gJ.filterMap (es[·]?)) t') ho (by rw[qG _ t' hd];rfl);rw[qG _ t' hd]at this;exact this
 have lL:=gj s.heap a<|Obj.putSet (gJ.filterMap (es[·]?)) t';exact q _ bD lL (my _ _ _ _ ⟨hg,fJ,rfl,ok',few,Hn.stay<|ah2 ho fJ.1 lL,(pd.nodup_iff).mpr ls,Ho.trans cT⟩) pd
theorem aik{a:aE}{ds:U Z9}{x:Int×aA}{d:Z9}{Q:Bool->aB->Prop}(hS:SetD Pv w s.heap a ds)(hx:El Pv w s.heap x d)(hu:A.units+8<bV)(qQ:ds.length<4000)
  (q:∀h' bD b,b7 a s.heap h'->SetD Pv w h' a bD->(d∈ds->bD=ds)->(d∉ds->bD.Perm (d::ds))->Q b {s with heap:=h'}) :
  aG (aH prog w) A (setAddHashed a x.2 x.1) Q E s:=by
 obtain⟨o,es,ep,t,ho,fJ,hd,ok,few,els,ls,cT⟩:=hS;obtain⟨xa,ex⟩:=hx.ref;obtain⟨k,hk,k3,uF,ko⟩:=ok.two;have tI:=els.1;rw[aw]at tI;have hsz:=ok.sz;obtain⟨j,hj,cG⟩:=CO (ps:=t.place.toList) (m:=t.mask) (by rw[aw];exact ok.fit);unfold setAddHashed setAddHashedIn;refine db<|aa<|gl ho hd ok.fits ?_;dsimp only;have iL:byScan x.2 es=false:=by rw[ex];rfl
 rw[iL];simp only[a0,if_false];unfold setSearch;obtain⟨N,hN,eN⟩:=avd hk (st0 t.mask x.1) (x8 _ _).1 (x8 _ _).2.1 j hj;have qX:10*SetTable.turns t.mask<=100000:=by unfold SetTable.turns;have:2^k<=2^13:=gq (by decide) uF;lia
 refine aa<|abx ho hd ok els hx hu (λmT=>?_) (λn yD hf hr=>?_) 100000 0 N none rfl (by unfold qg;rw[eN];exact cG) (by lia) λn' fQ=>by lia
 .dsimp only;refine ai ?_;have e:s={s with heap:=s.heap}:=by cases s;rfl
  rw[e];exact q s.heap ds false (b7.refl a s.heap) (my o es ep t ⟨ho,fJ,hd,ok,few,els,ls,cT⟩) (λ_=>rfl) λz=>absurd mT z
 .dsimp only;have hm7:7<=t.mask:=by
   have:2^3<=2^k:=gq (by decide) k3;lia
  obtain⟨ok1,em,yB,uK⟩:=ok.put (x:=x.2) hf hr (by lia);have Cp:Els Pv w s.heap (gz es (t.put<|qg t.mask x.1 n).2 (x.1,x.2)).toList (ds.take (t.put<|qg t.mask x.1 n).2++d::ds.drop (t.put<|qg t.mask x.1 n).2):=by rw[oy];exact(els.take _).append ((els.drop _).cons hx)
  have DK:(ds.take (t.put<|qg t.mask x.1 n).2++d::ds.drop (t.put<|qg t.mask x.1 n).2).Perm (d::ds):=by have:=List.perm_middle (a:=d) (l₁:=ds.take (t.put<|qg t.mask x.1 n).2) (l₂:=ds.drop (t.put<|qg t.mask x.1 n).2);rw[da]at this;exact this
  have FA:(ds.take (t.put<|qg t.mask x.1 n).2++d::ds.drop (t.put<|qg t.mask x.1 n).2).Nodup:=by rw[DK.nodup_iff,iy];exact⟨yD,ls⟩
  have Cm:(gz es (t.put<|qg t.mask x.1 n).2 (x.1,x.2)).size=es.size+1:=by rw[<-ok1.sz,uK,hsz]
  refine aa<|gl ho hd ok.fits ?_;dsimp only;have wG:(t.put<|qg t.mask x.1 n).1.led=t.led:=rfl;generalize hpt:t.put (qg t.mask x.1 n)=pt at *;obtain⟨t1,p⟩:=pt;simp only at ok1 em yB uK Cp DK FA Cm wG⊢;have fin:∀t2:SetTable,TOk t2 (gz es p (x.1,x.2))->t2.mask=t1.mask->t2.place=t1.place->t2.led=t1.led->aG (aH prog w) A (storeSet a (gz es p (x.1,x.2)) t2 >>= λ_=>if (!false&&t2.tooFull)=true then setRelay a (SetTable.grown<|es.size+1) >>= λ_=>aT true else aT true) Q E s:=λt2 A0 e1 e2 e3=>by
   have wF:t2.led = !byT w:=e3.trans<|wG.trans cT;have eS:(gz es p (x.1,x.2)).size<=aF:=by rw[Cm,jl];lia
   refine aa<|AQ ho hd ?_ eS;have hg:(s.heap.update a<|Obj.putSet (gz es p (x.1,x.2)) t2).get? a=some {o with data:=.set (gz es p (x.1,x.2)) (ep+1) t2}:=by have:=cp (Obj.putSet (gz es p (x.1,x.2)) t2) ho (by rw[qG _ t2 hd];rfl);rw[qG _ t2 hd]at this;exact this
   have lL:=gj s.heap a<|Obj.putSet (gz es p (x.1,x.2)) t2;have Co:=Cp.stay<|ah2 ho fJ.1 lL;by_cases iB:t2.tooFull=true
   .rw[if_pos (by rw[iB];rfl)];have tH:es.size<4000:=by rw[tI];exact qQ
    have htf:t2.mask*3<=(es.size+1)*5:=by unfold SetTable.tooFull SetTable.fill at iB;rw[A0.dm]at iB;have:=A0.sz;have:=Cm;simp at iB;lia
    have D6:t2.mask+1=2^k:=by rw[e1,em];exact hk
    have GF:(es.size+1-1)*5<t2.mask*3:=by rw[e1,em];have:=ok.sz;lia
    have hgs:=aig D6 k3 uF ko htf GF (by lia);have wI:SetTable.grown (es.size+1)=(es.size+1)*4:=by unfold SetTable.grown;rw[if_neg (by lia)]
    refine aa<|apa (s:={s with heap:=s.heap.update a<|Obj.putSet (gz es p (x.1,x.2)) t2}) hg fJ rfl A0 Co FA wF (by rw[Cm,wI];exact aq _) (by rw[wI];exact hgs.1) (λk' ek'=>?_) (by rw[Cm];lia) λh' bD FY fW pd'=>?_
    .rw[wI]at ek';obtain⟨a1,a2,a3⟩:=ack _ (by lia) hgs.1 ek';exact ao4 D6 k3 uF ko htf GF (by lia) a1 a2 a3
    .exact ai<|q h' bD true (lL.trans FY) fW (λz=>absurd z yD) λ_=>pd'.trans DK
   .rw[if_neg (by simpa using iB)];have Hh:t2.place.size*5<t2.mask*3:=by
     unfold SetTable.tooFull SetTable.fill at iB;rw[A0.dm]at iB;simpa using iB
    exact ai<|q _ _ true lL (my _ _ _ _ ⟨hg,fJ,rfl,A0,Hh,Co,FA,wF⟩) (λz=>absurd z yD) λ_=>DK
  obtain⟨as,rx⟩:=hx.reads;split
  .refine aa<|aad 8 hx.key rx λb=>?_;cases b with
   | true=>
    simp only[if_true];exact fin t1 ok1 rfl rfl rfl
   | false=>
    simp only[a0,if_false];exact fin _ (ok1.withPlain false) rfl rfl rfl
  .refine aa<|ai ?_;simp only[if_true];exact fin t1 ok1 rfl rfl rfl
end
end L3
namespace L3
open PySem PyProof.Rows
variable{Pv:aA->Z9->Prop}
def Keep(h0 h:Heap):Prop:=∀b o,h0.get? b=some o->h.get? b=some o
def Keep.tups{h0 h:Heap}(k:Keep h0 h):uy h0 h:=λb o e _=>k b o e
def SetD.moved{w:aN}{h h':Heap}{S:aE}{ds:U Z9}(x:SetD Pv w h S ds)(hS:∀o,h.get? S=some o->h'.get? S=some o)(t:uy h h'):SetD Pv w h' S ds:=by obtain⟨o,es,ep,tb,ho,fJ,hd,ok,few,els,nd,cT⟩:=x;exact(my o es ep tb ⟨hS o ho,fJ,hd,ok,few,els.stay t,nd,cT⟩)
section
variable{prog:aK}{w:aN}{A:Around}{R:iF->aB->Prop}{I:aE}{fp wr:U aE}{G:Array kG->Array kG->Prop}{n:Nat}{P:Nat->aA->Prop}{St:Nat->aB->Prop}
theorem zf(W:WalksS prog w A.in1 I fp wr G n P St)(S:aE)(gL:S∉fp)(h0:Heap)(FP:∀b∈wr,h0.get? b=none)(hS0:h0.get? S=none)(hwt:∀i s,St i s->∀b∈wr,∀ob,s.heap.get? b=some ob->ob.cls≠.type "tuple")
  (val:Nat->Z9) (kJ:∀i v,P i v->El Pv w h0 (sN w<|val i,v) (val i)) (hu:A.units+9<bV) (hb:n<4000) :
  ∀(k i:Nat)(s:aB)(ds:U Z9),n-i=k->i<=n->St i s->Keep h0 s.heap->SetD Pv w s.heap S ds->(∀d,d∈ds↔∃j,j<i/\val j=d)->ds.length<=i->
   (∀s' bD,De (S::wr) G s s'->Keep h0 s'.heap->SetD Pv w s'.heap S bD->(∀d,d∈bD↔∃j,j<n/\val j=d)->bD.length<=n->R (.ok<|.ret .none) s')->
   bY (aH prog w) A (.builtin "set.update.loop" ⟨[.ref S,.ref I],[]⟩) R s:=by
 have oT:S∉wr:=λh=>gL<|W.sub _ h;have mono:∀b∈wr,b∈S::wr:=λb hb=>ao _ hb;have mv:∀{i:Nat} {s s':aB} {ds:U Z9},St i s->De wr G s s'->Keep h0 s.heap->SetD Pv w s.heap S ds->Keep h0 s'.heap/\SetD Pv w s'.heap S ds:=λ{i s s' ds} bS hm hk hS=>by refine⟨λb o e=>hm.heap b o (λz=>by rw[FP b z]at e;cases e)<|hk b o e,hS.moved (λo e=>hm.heap S o oT e) λb o e ht=>hm.heap b o (λz=>hwt i s bS b z o e ht) e⟩
 intro k;induction k with
 | zero=>
  intro i s ds hk hi bS nU hS dE aX hR;have mT:i=n:=by lia
  subst mT;refine dq F.entry_set_update_loop (show _ from ?_);rw[cv i9 (_:E8)];show aG _ A.in1 (bB (.ref I) >>= _) _ _ _;refine aa<|W.done s _ _ bS λs' hm=>?_;obtain⟨k1,S1⟩:=mv bS hm nU hS;exact ai (hR s' ds (hm.mono mono) k1 S1 dE aX)
 | succ k ih=>
  intro i s ds hk hi bS nU hS dE aX hR;have cF:i<n:=by lia
  refine dq F.entry_set_update_loop (show _ from ?_);rw[cv i9 (_:E8)];show aG _ A.in1 (bB (.ref I) >>= _) _ _ _;refine aa<|W.item i s _ _ cF bS λv s' hP gU hm=>?_;obtain⟨k1,S1⟩:=mv bS hm nU hS;have hE:=(kJ i v hP).stay k1.tups;obtain⟨as,rv⟩:=hE.reads;show aG _ A.in1 (fZ [v] (setAdd S v) >>= _) _ _ _;refine aa<|db ?_;unfold setAdd;refine db ?_;refine aa<|ab1 (val i) hE.key prog w A.in1 _ s' v as _ rv (by show A.units+1+_<bV;have:=hE.deep;lia) λtk qP=>?_;refine aik (s:={s' with toks:=tk}) (x:=(sN w<|val i,v)) S1 hE (by show A.units+1+8<bV;lia) (by lia) λh' bD b lL fW e1 e2=>?_;have k2:Keep h0 h':=λb o e=>by rw[lL.2 b (λz=>by rw[z,hS0]at e;cases e)];exact k1 b o e
  have qW:∀d,d∈bD↔∃j,j<i+1/\val j=d:=λd=>by
   have base:(∃j,j<i+1/\val j=d)↔(d∈ds\/val i=d):=by
    rw[dE d];constructor
    .rintro⟨j,hj,e⟩;by_cases q:j=i
     .subst q;exact .inr e
     .exact .inl ⟨j,by lia,e⟩
    .rintro(⟨j,hj,e⟩|e)
     .exact⟨j,by lia,e⟩
     .exact⟨i,by lia,e⟩
   rw[base];by_cases q:val i∈ds
   .rw[e1 q];exact⟨.inl,λz=>z.elim id λe=>e▸q⟩
   .rw[(e2 q).mem_iff,ar];exact⟨λz=>z.elim (λe=>.inr e.symm) .inl,λz=>z.elim .inr λe=>.inl e.symm⟩
  have qY:bD.length<=i+1:=by
   by_cases q:val i∈ds
   .rw[e1 q];lia
   .rw[(e2 q).length_eq,bj];lia
  refine ai ⟨gt i9 _,ih (i+1) _ bD (by lia) cF (W.frame _ s' _ _ gU qP λb hb o e=>?_) k2 fW qW qY λxI zA yG FK J4 FH FJ=>?_⟩
  .rw[lL.2 b (λh:b=S=>gL<|by rw[<-h];exact hb)];exact e
  .refine hR xI zA (De.trans W.gtrans ((hm.mono mono).then_heap qP λb o hb e=>?_) yG) FK J4 FH FJ;rw[lL.2 b (λh:b=S=>hb<|by rw[h];exact am)];exact e
end
section
variable{prog:aK}{w:aN}{A:Around}{E:aA->aB->Prop}{s:aB}
def vh(a:aA){Q₁:aA->aB->Prop}
  (h:Q₁ (.ref s.heap.objs.size) {s with heap:=s.heap.push {cls:=.type "set",dict:=none,data:=.set #[] 0 (.fresh 0 0<|!byT w)}}) :
  bY (aH prog w) A (.call (.builtin "set.__new__") ⟨[.type "set",a],[]⟩) (wants Q₁ E) s:=by
 refine gM (show _ from ?_);show aG _ A.in1 (do lA "set.__new__" ⟨[.type "set",a],[]⟩;again (.builtin "set.__new__" ⟨[.type "set",a],[]⟩)) _ _ _;refine aa<|eZ (PySem.F.newCall_set_1 a)<|ai ⟨gt PySem.F.plain_set_new _,dq PySem.F.entry_set_new (show _ from ?_)⟩;rw[cv PySem.F.plain_set_new (_:E8)];unfold Builtin.«set.__new__» Builtin.Frozenset.newClass;have xR:=sub_set_self;obtain⟨hp,g,d,tk,os⟩:=s;dsimp only
 wp_walk
 refine cO<|ai ?_;dsimp only;simp only[newObj];refine aa<|wpAny_alloc<|ai ?_;exact ai h
theorem ad0{l:aE}{items:Array aA}{ds:U Z9}{Q:aA->aB->Prop}
  (hh:A.handled=none) (hl:s.heap.IsList l items) (hi:items.size=ds.length) (hE:∀(i:Nat) v d,items[i]?=some v->ds[i]?=some d->El Pv w s.heap (sN w d,v) d) (hb:ds.length<4000) (hu:A.units+20<bV)
  (h:∀(h':Heap)(tk:Nat)(bD:U Z9),SetD Pv w h' s.heap.objs.size bD->(∀d,d∈bD↔d∈ds)->bD.length<=ds.length->Keep s.heap h'->s.toks<=tk->Q (.ref s.heap.objs.size) {s with heap:=h',toks:=tk}) :
  aG (aH prog w) A (call (.type "set") [.ref l]) Q E s:=by
 obtain⟨c,tl,BH⟩:=bp.mro;have wD:=bp.made;have xR:=bp.sub;refine fX<|gM (show _ from ?_);show aG _ _ (callAny (.type "set") _) _ _ s;refine ai ⟨Code.quiet_builtin _<|by decide +kernel,dq F.entry_type_call (show _ from ?_)⟩;rw[Around.under_plain (gN "set" [.ref l] []) (rfl:_=_)];have h1:=bp.notType;have h2:=bp.canCreate;have hct:=PySem.F.typeCall_set_1 (.ref l)
 repeat (any_goals (first|assumption|(wp_step)))
 refine j8 (vh (.ref l) (E:=E) (Q₁:=λobj s₁=>∃led:Bool,led=(!byT w)/\obj=.ref s.heap.objs.size/\s₁={s with heap:=s.heap.push {cls:=.type "set",dict:=none,data:=.set #[] 0 (.fresh 0 0 led)}}) ⟨_,rfl,rfl,rfl⟩) λr s₁ hr=>?_
 match r,hr with
 | .error e,hr=>exact hr
 | .ok (.ret obj),hr=>
   obtain⟨led,cT,rfl,rfl⟩:=hr;obtain⟨jZ,fE⟩:∃ob:Obj,ob={cls:=.type "set",dict:=none,data:=.set #[] 0 (.fresh 0 0 led)}:=⟨_,rfl⟩;have hS:(s.heap.push jZ).get? s.heap.objs.size=some jZ:=a6 _ (by rw[fE];rfl);have hT:aB.TypeIs {s with heap:=s.heap.push jZ} (.ref s.heap.objs.size) "set":=⟨_,hS,by rw[fE]⟩;have B8:SetD Pv w (s.heap.push jZ) s.heap.objs.size []:=by rw[fE];exact SetD.fresh cT
   rw[<-fE];have hli:=bp.init.lookup;have wL:=bp.init.bind (.ref s.heap.objs.size)
   repeat (any_goals (first|assumption|(wp_step)))
   refine j8 (cL (R:=wants (λr s₂=>r=.none/\∃h' tk bD,s₂={s with heap:=h',toks:=tk}/\SetD Pv w h' s.heap.objs.size bD/\(∀d,d∈bD↔d∈ds)/\bD.length<=ds.length/\Keep s.heap h'/\s.toks<=tk) E) bp.init.plain F.entry_set_init<|lz hT ?_) λr₂ s₂ fD=>?_
   .obtain⟨ol,lO,lS,nl,wJ⟩:=hl;obtain⟨A1,lG,vS,iT⟩:=ol;simp only at lS wJ;subst lS;subst wJ;have qS:(s.heap.push jZ).get? l=some {cls:=.type "list",dict:=lG,data:=.seq items nl,slots:=iT}:=ah _ lO;have Bq:=PySem.F.sub_list_set;have Br:=PySem.F.sub_list_frozenset;have eG:(aA.type "list" == aA.type "dict")=false:=by decide
    have mE:(s.heap.push jZ).IsList l items:=(m9 _ qS rfl nl rfl);unfold Builtin.«set.__init__» Af Builtin.Frozenset.updateFrom;generalize Ca:hJ=PI;subst fE
    wp_walk
    subst Ca;refine jn mE ?_;refine aa<|gY ?_;have dU:∀b,s.heap.objs.size<=b->s.heap.get? b=none:=λb fL=>by
     cases hq:s.heap.get? b with
     | none=>rfl
     | some ob=>exact absurd (be hq)<|Nat.not_lt.mpr fL
    have wH:l<s.heap.objs.size:=be lO;have BR:A.in1.in1.in1.handled=none:=by simp[hh]
    have rO:(s.heap.push {cls:=.type "set",dict:=none,data:=.set #[] 0 (.fresh 0 0 led)}).objs.size=s.heap.objs.size+1:=jx _ _;have qU:l≠(s.heap.push {cls:=.type "set",dict:=none,data:=.set #[] 0 (.fresh 0 0 led)}).objs.size:=by rw[rO];exact cj<|Nat.lt_succ_of_lt wH
    have gL:s.heap.objs.size∉[(s.heap.push {cls:=.type "set",dict:=none,data:=.set #[] 0 (.fresh 0 0 led)}).objs.size,l]:=by rw[rO];simp only[ar,dz,or_false,not_or];exact⟨cj<|jv _,Nat.ne_of_gt wH⟩
    have kJ:∀(i:Nat)(v:aA),items[i]?=some v->El Pv w s.heap (sN w<|ds.getD i .none,v) (ds.getD i .none):=λi v hv=>by
     have cF:=(bg.mp hv).1;have hd:ds[i]?=some (ds.getD i .none):=by rw[cw,af<|by lia];rfl
     exact hE i v _ hv hd
    refine zf (A:=A.in1.in1) ((fF.list BR _ l qU items).toS) s.heap.objs.size gL s.heap (λb fL=>dU b<|by rw[ay.mp fL,rO];exact Nat.le_succ _) (dU _<|aq _) (λi s' bS b fL ob e=>?hwt)
     (λi=>ds.getD i .none) kJ (by show A.units+1+1+9<bV;lia) (by lia) (items.size-0) 0 _ [] (by lia) (c8 _)
     ⟨⟨_,a6 _ rfl,rfl,rfl⟩,(mE.push _)⟩ ?hK0 ?hS0 (λd=>by simp) (by simp) ?hR
    case hwt=>
     obtain⟨⟨oi,ho,hc,_⟩,_⟩:=bS;rw[ay.mp fL,ho]at e;cases e;rw[hc];decide
    case hK0=>exact λb o e=>ah _<|ah _ e
    case hS0=>exact B8.moved (λo e=>ah _ e) λb o e _=>ah _ e
    case hR=>
     intro s' bD hm k' S' m' l';obtain⟨h',g',d',vK,qJ⟩:=s';have eg:g'=s.gens:=hm.gens;have ed:d'=s.drawn:=hm.drawn;have eo:qJ=s.os:=hm.os;subst eg;subst ed;subst eo;show aG _ _ _ _ _ _;refine ai ?_;show aG _ _ (ret aA.none) _ _ _;refine ai ⟨rfl,(mf h' vK bD ⟨rfl,S',λd=>?_,by lia,k',hm.toks⟩)⟩;rw[m' d];constructor
     .rintro⟨j,hj,rfl⟩;rw[cw,af<|by lia];exact fk _
     .intro hd;obtain⟨j,hj⟩:=gp hd;have BO:=(ap.mp hj).1;exact⟨j,by lia,by rw[cw,hj];rfl⟩
   .match r₂,fD with
    | .error e,fD=>exact fD
    | .ok (.ret r),fD=>
      obtain⟨rfl,h',tk,bD,rfl,fW,jD,tF,dW,Bl⟩:=fD
      repeat (any_goals (first|assumption|(wp_step)))
      exact h _ _ bD fW jD tF dW Bl
    | .ok .next,fD=>exact fD.elim
    | .ok .brk,fD=>exact fD.elim
    | .ok .cont,fD=>exact fD.elim
 | .ok .next,hr=>exact hr.elim
 | .ok .brk,hr=>exact hr.elim
 | .ok .cont,hr=>exact hr.elim
end
end L3
namespace L3
open PySem PySem.Spec PyProof.Rows L2
variable{Pv:aA->Z9->Prop}
def Ew(d:Z9):Prop:=kd d=true/\(∃ds,d=.tuple ds)/\d.depth<8
def asp:U V->Hp->VK->Prop:=λvs H Q=>∃(p:aE)(xs:U V)(ds:U Z9),vs=[.ref p]/\H p=some (.lst xs)/\RepAll H ds xs/\(∀d∈ds,Ew d)/\ds.length<4000/\
 ∀bD:U Z9,bD.Nodup->(∀d,d∈bD↔d∈ds)->bD.length<=ds.length->Q (.int bD.length) H
theorem ve{h:Heap}:∀{us:U aA} {ds:U Z9} {as:U aE} {i:Nat} {u:aA} {d:Z9},ReadsAll h us ds as->us[i]?=some u->ds[i]?=some d->∃bs,Reads h u d bs
 | _,_,_,i,u,d,.nil,h1,_=>by simp at h1
 | _,_,_,0,u,d,.cons a b,h1,h2=>by cases h1;cases h2;exact⟨_,a⟩
 | _,_,_,i+1,u,d,.cons a b,h1,h2=>ve b (by simpa using h1)<|by simpa using h2
theorem EW:∀{ds:U Z9},PyData.canLayAll0 ds=true->∀d∈ds,d.canLay0=true
 | [],_,d,hd=>by cases hd
 | e::ds,hk,d,hd=>by
  have dW:(e.canLay0&&PyData.canLayAll0 ds)=true:=hk;rw[cy]at dW;rcases ar.mp hd with h|hd
  .rw[h];exact dW.1
  .exact EW dW.2 d hd
section
variable{X:Cx}{p p2 pos iS:eB}{e:Expr}{t:TA}
def amq(hc:X.calm=true)(hu:X.A.units+64<bV)(hg:Gl X "len")(hm:X.mg "len" = none)(BS:Gl X "set")(pO:X.mg "set" = none)(ha:PA X [e] t)(h1:o7 e=true:=by rfl) :
  PE X (.Call (.Name "len" p) [.Call (.Name "set" p2) [e] [] iS] [] pos) (tCB asp t):=by
 intro aC s σ H Q I h;refine gd (sv I hg hm cb ?_ (by decide)<|by decide);refine jp ?_ (m8 rfl) rfl;rw[m8 rfl];show aG _ _ (mM ((false,cD (.Call (.Name "set" p2) [e] [] iS) X.env)::bN pos (aQ [] X.env))) _ _ s;refine j4 ?_;refine gd (sv I BS pO boot_set ?_ (by decide)<|by decide);refine e9 (thn (ha iS aC s σ H _ I h) λus s1 ⟨vs,H1,I1,r1,q1⟩=>?_) (m8 h1) rfl;obtain⟨pl,xs,ds,rfl,hp,eM,eV,hb,q⟩:=q1;obtain⟨u,rfl,ru⟩:=qw r1;cases (show u=aA.ref pl from ru);obtain⟨its,rv,il,hz⟩:=I1.list<|SqL.of (K:=X.K) hp;obtain⟨as,tW⟩:=RepAll.reads I1 eM rv;have qZ:=eM.lay;have mE:xs.length=ds.length:=eM.length;have jE:xs.length=its.length:=rv.length;refine ad0 (Pv:=λ_ _=>True) (ds:=ds) (I1.ok.hd hc) il.isList (by rw[bf];lia) (λi v d hv hd=>?_) hb (by lia) λh' tk bD hS dE aX hk ht=>?_
 .rw[jj]at hv;obtain⟨bs,rd⟩:=ve tW hv hd;have jD:=aj hd;exact⟨True.intro,rfl,(eV d jD).1,(eV d jD).2.1,EW qZ d jD,(eV d jD).2.2,bs,rd⟩
 .obtain⟨o,es,ep,tb,ho,fJ,kR,ok,few,els,nd,_⟩:=hS;have hsz:es.size=bD.length:=by have:=els.1;rw[aw]at this;exact this
  refine Calls.spliced_nil ?_
  refine call_len_set ho fJ kR ok.fits (by rw[hsz];have:(bD.length:Int)<4000:=by lia
                                           exact Int.lt_of_lt_of_le this<|by decide) ?_
  refine(lc (.int bD.length) H1 ⟨?_,⟨_,by rw[<-hsz]⟩,q bD nd dE aX⟩);exact I1.kept hk
end
end L3
namespace L3
open PySem PySem.W PySem.Calls PyProof.Rows
def alv{vs:U aA}{p:aI}(h:p∈(vs.toArray.zip vs.toArray).toList):p.1=p.2/\p.1∈vs:=mem_zip_self<|by simpa using h
def ao7{vs:U aA}{arr:Array aI}(h:arr.Perm (vs.toArray.zip vs.toArray)):(arr.map (·.2)).toList.Perm vs:=by
 have h1:=(jf.mp h).map (·.2);have e:(vs.toArray.zip vs.toArray).toList.map (·.2)=vs:=by rw[show(vs.toArray.zip vs.toArray).toList=vs.zip vs by simp];exact List.map_snd_zip<|aq _
 rw[e]at h1;rw[Array.toList_map];exact h1
def aud{g:aA->Int}{vs:U aA}{arr:Array aI}(h:arr.Perm (vs.toArray.zip vs.toArray))(hs:Seg (λp=>g p.1) arr 0 (vs.toArray.zip vs.toArray).size):(arr.map (·.2)).toList.Pairwise λx y=>g x<=g y:=by
 have hsz:=h.size_eq;rw[Array.toList_map,fc];refine eu.mpr λi j hi hj cA=>?_;have eT:i<arr.size:=by simpa using hi
 have tG:j<arr.size:=by simpa using hj
 have q:=hs i j (c8 _) (by lia) (by lia);rw[vq (getElem?_pos arr i eT),vq<|getElem?_pos arr j tG]at q;have two:∀k (hk:k<arr.size),arr[k].1=arr[k].2:=λk hk=>(alv<|(jf.mp h).mem_iff.mp (by simp)).1;rw[two i eT,two j tG]at q;simpa using q
section
variable{prog:aK}{w:aN}{A:Around}{E:aA->aB->Prop}{s:aB}
def acg{a:aE}{vs:U aA}{n:Nat}{κ:aU}{g:aA->Int}{P:PySem.Fin->aB->Prop}(ho:s.heap.get? a=some (dF "list" vs.toArray n))(hz:vs.length<=aF)
  (hk:2<=vs.length->∀s':aB,(∀b o,b≠a->s.heap.get? b=some o->s'.heap.get? b=some o)->
   (∀(Q:aU->aB->Prop)(E:aA->aB->Prop),Q κ s'->aG (aH prog w) A (jT vs.toArray) Q E s')/\
   ∀x y,x∈vs->y∈vs->∀(Q:Bool->aB->Prop),Q (decide<|g x<g y) s'->aG (aH prog w) A (nP κ x y) Q (λ_ _=>False) s')
  (h:∀us:U aA,us.Perm vs->us.Pairwise (λx y=>g x<=g y)->P (.done<|.ret .none) {s with heap:=sortedHeap s.heap a vs us.toArray}) :
  aG (aH prog w) A (Builtin.«list.sort» ⟨[.ref a],[]⟩) P E s:=by
 have ha:a<s.heap.objs.size:=be ho;obtain⟨e1,Ai⟩:∃e1,(s.heap.update a<|jd λ_=>(#[]:Array aA)).get? a=some (dF "list" #[] e1):=⟨_,get?_update_seq ho λ_=>#[]⟩;have DY:(((s.heap.update a<|jd λ_=>(#[]:Array aA)).push (dF "tuple" vs.toArray 0)).push (dF "list" #[] 0)).get? a=some (dF "list" #[] e1):=
  ah _ (ah _ Ai)
 have kept:∀b o,b≠a->s.heap.get? b=some o->(((s.heap.update a<|jd λ_=>(#[]:Array aA)).push (dF "tuple" vs.toArray 0)).push (dF "list" #[] 0)).get? b=some o:=λb o hb e=>
  ah _ (ah _<|(br s.heap _<|Ne.symm hb).trans e)
 rw[list_sort_plain];refine aa<|listItems_at ho rfl ?_;refine aa<|pM ho rfl ?_ (by rw[bf];exact hz)<|c8 _;refine aa<|vN Ai rfl ?_;refine aa (wpAny_newTuple ?_<|by show vs.length<=_;exact hz);refine aa<|pG ?_<|c8 _;refine db ?_;show aG (aH prog w) A _ P E {s with heap:=((s.heap.update a<|jd λ_=>(#[]:Array aA)).push (dF "tuple" vs.toArray 0)).push (dF "list" #[] 0)};dsimp only;have bA:∀(aP:aO),(aJ aP).Perm (vs.toArray.zip vs.toArray)->bP aP=none->Seg (λp=>g p.1) (aJ aP) 0 (vs.toArray.zip vs.toArray).size->∃us:U aA,us.Perm vs/\us.Pairwise (λx y=>g x<=g y)/\(aJ aP).map (·.2)=us.toArray:=λaP hp hf hs=>
  ⟨_,ao7 hp,aud hp hs,Array.toArray_toList.symm⟩
 by_cases h2:vs.toArray.size<2
 .have jH:vs.length<2:=by simpa using h2
  rw[if_pos h2,if_pos h2];refine aa<|ai ?_;rw[StateT.run_pure];refine aa<|ai ?_;dsimp only;obtain⟨us,u1,u2,e0⟩:=bA (aO.mk' general' (vs.toArray.zip vs.toArray) #[] 7 none) (Array.Perm.refl _) rfl (λi j hi cA hj=>by
   have DR:(vs.toArray.zip vs.toArray).size=vs.length:=by simp
   obtain rfl:i=j:=by lia
   exact jt _)
  have FQ:=u1.length_eq;rw[e0];refine aa<|vN DY rfl ?_;refine aa (pM DY rfl ?_ (c8 _)<|by rw[bf,FQ];exact Nat.le_succ_of_le hz);simp only[bne_self_eq_false,a0,if_false];exact ai<|h us u1 u2
 .have jH:2<=vs.length:=by have:¬vs.length<2:=by simpa using h2
                           lia
  rw[if_neg h2,if_neg h2];obtain⟨k1,k2⟩:=hk jH {s with heap:=((s.heap.update a<|jd λ_=>(#[]:Array aA)).push (dF "tuple" vs.toArray 0)).push (dF "list" #[] 0)} kept;refine aa<|k1 _ _ ?_;refine aa (jg (afv (E:=E) (κ:=κ) (a₀:=vs.toArray.zip vs.toArray) (f:=λp=>g p.1) (mem:=λp=>p.1∈vs) (Q:=λ_ aP=>∃us:U aA,us.Perm vs/\us.Pairwise (λx y=>g x<=g y)/\(aJ aP).map (·.2)=us.toArray/\bP aP=none)
   (λx y hx hy Q hq=>k2 x.1 y.1 hx hy Q hq) (λx hx=>(alv hx).2) ⟨Array.Perm.refl _,rfl,rfl⟩ rfl (λaP B hs=>?_)) ?_ λ_ _ e=>e)
  .obtain⟨us,u1,u2,e0⟩:=bA aP B.perm B.failed hs;exact⟨us,u1,u2,e0,B.failed⟩
  .rintro⟨⟨⟩,aP⟩ s' ⟨rfl,us,u1,u2,hout,hf⟩;have FQ:=u1.length_eq;dsimp only at hout hf⊢;rw[hout];refine aa<|vN DY rfl ?_;refine aa (pM DY rfl ?_ (c8 _)<|by rw[bf,FQ];exact Nat.le_succ_of_le hz);rw[hf];simp only[bne_self_eq_false,a0,if_false];exact ai<|h us u1 u2
end
end L3
namespace L3
open PySem PySem.Spec PyProof.Rows L2
theorem ak6{α β:Type}(g:α->β){us vs:List β}(p:us.Perm vs):∀{l:List α},l.map g=vs->∃l':List α,l'.Perm l/\l'.map g=us:=by
 induction p with
 | nil=>intro l e;exact⟨l,ip _,e⟩
 | cons x p ih=>
  intro l e
  match l,e with
  | a::l,e=>
   rw[dg]at e;obtain⟨e1,e2⟩:=List.cons.inj e;obtain⟨l',p1,e3⟩:=ih e2;exact⟨a::l',p1.cons a,by rw[dg,e1,e3]⟩
 | swap x y r=>
  intro l e
  match l,e with
  | a::b::l,e=>
   rw[dg,dg]at e;obtain⟨e1,e'⟩:=List.cons.inj e;obtain⟨e2,e3⟩:=List.cons.inj e';exact⟨b::a::l,List.Perm.swap _ _ _,by rw[dg,dg,e1,e2,e3]⟩
 | trans p q ih1 ih2=>
  intro l e;obtain⟨l1,p1,e1⟩:=ih2 e;obtain⟨l2,p2,e2⟩:=ih1 e1;exact⟨l2,p2.trans p1,e2⟩
theorem aa3{α:Type}{p q:α->Bool}:∀{l:List α},(∀e∈l,p e=true->q e=true)->(∃e∈l,q e=true/\p e=false)->l.countP p<l.countP q
 | [],_,⟨e,he,_⟩=>by simp at he
 | a::l,h,⟨e,he,h1,h2⟩=>by
  have hl:∀e∈l,p e=true->q e=true:=λe he=>h e<|ao _ he;have mono:l.countP p<=l.countP q:=List.countP_mono_left hl;rcases ar.mp he with rfl|he
  .rw[List.countP_cons_of_neg (by simp[h2]),List.countP_cons_of_pos h1];lia
  .have ih:=aa3 hl ⟨e,he,h1,h2⟩;cases hp:p a with
   | true=>rw[List.countP_cons_of_pos hp,List.countP_cons_of_pos<|h a am hp];lia
   | false=>
    rw[List.countP_cons_of_neg (by simp[hp])];have:=List.countP_le_length (p:=q) (l:=l);cases hq:q a with
    | true=>rw[List.countP_cons_of_pos hq];lia
    | false=>rw[List.countP_cons_of_neg (by simp[hq])];exact ih
structure zD(lt:Z9->Z9->Bool)(ds:U Z9):Prop where
 asy:∀x∈ds,∀y∈ds,lt x y=true->lt y x=false
 tr:∀x∈ds,∀y∈ds,∀z∈ds,lt y x=false->lt z y=false->lt z x=false
noncomputable def AH(lt:Z9->Z9->Bool)(ds:U Z9)(d:Z9):Int:=((ds.countP λe=>lt e d:Nat):Int)
theorem alf{lt:Z9->Z9->Bool}{ds:U Z9}(o:zD lt ds){d e:Z9}(hd:d∈ds)(he:e∈ds):decide (AH lt ds d<AH lt ds e)=lt d e:=by
 have irr:∀x∈ds,lt x x=false:=λx hx=>by
  cases q:lt x x with
  | false=>rfl
  | true=>have:=o.asy x hx x hx q;rw[q]at this;exact this
 unfold AH;cases h:lt d e with
 | true=>
  refine decide_eq_true ?_;have:=aa3 (p:=λz=>lt z d) (q:=λz=>lt z e) (l:=ds) (λz hz h1=>?_) ⟨d,hd,h,irr d hd⟩
  .lia
  .show lt z e=true;cases q:lt z e with
   | true=>rfl
   | false=>rw[o.tr d hd e he z hz (o.asy d hd e he h) q]at h1;exact h1
 | false=>
  refine decide_eq_false ?_;have:=List.countP_mono_left (p:=λz=>lt z e) (q:=λz=>lt z d) (l:=ds) λz hz h1=>?_
  .lia
  .show lt z d=true;cases q:lt z d with
   | true=>rfl
   | false=>rw[o.tr e he d hd z hz h q]at h1;exact h1
open Classical in
def ajt{h:Heap}{lt:Z9->Z9->Bool}{os:U aA}{bW:U Z9}(hl:os.length=bW.length)(rd:∀(i:Nat)(v:aA)(d:Z9),os[i]?=some v->bW[i]?=some d->d.canLay0=true/\∃as,Reads h v d as)(o:zD lt bW) :
  ∃g:aA->Int,(∀(i j:Nat)(u v:aA)(d e:Z9),os[i]?=some u->bW[i]?=some d->os[j]?=some v->bW[j]?=some e->decide (g u<g v)=lt d e)/\
   ∀us:U aA,us.Perm os->us.Pairwise (λx y=>g x<=g y)->∃T:U (Z9×aA),T.map (·.2)=us/\(T.map (·.1)).Perm bW/\(T.map (·.1)).Pairwise (λx y=>lt y x=false)/\∀t∈T,∃i:Nat,bW[i]?=some t.1/\os[i]?=some t.2:=by
 obtain⟨g,hg⟩:∃g:aA->Int,∀(i:Nat)(d:Z9)(u:aA),bW[i]?=some d->os[i]?=some u->g u=AH lt bW d:=by refine⟨λu=>if h:∃d,∃as,Reads h u d as/\d∈bW then AH lt bW h.choose else 0,λi d u h1 h2=>?_⟩;obtain⟨lay,as,r⟩:=rd i u d h2 h1;have hx:∃d,∃as,Reads h u d as/\d∈bW:=(lc d as ⟨r,aj h1⟩);show(if h:∃d,∃as,Reads h u d as/\d∈bW then AH lt bW h.choose else 0)=_;rw[dif_pos hx];obtain⟨bs,rb,_⟩:=hx.choose_spec;rw[SeqAt.Reads.unique d hx.choose u as bs lay r rb]
 refine⟨g,λi j u v d e u1 d1 v1 e1=>?_,λus p up=>?_⟩
 .rw[hg i d u d1 u1,hg j e v e1 v1];exact alf o (aj d1)<|aj e1
 .have xH:(bW.zip os).map (λt=>t.2)=os:=List.map_snd_zip (by lia);have first:(bW.zip os).map (λt=>t.1)=bW:=List.map_fst_zip<|by lia
  obtain⟨T,tp,te⟩:=ak6 (λt:Z9×aA=>t.2) p xH;have tm:∀t∈T,∃i:Nat,bW[i]?=some t.1/\os[i]?=some t.2:=λt ht=>by obtain⟨i,hi⟩:=bq.mp<|tp.mem_iff.mp ht;obtain⟨a1,a2⟩:=List.getElem?_zip_eq_some.mp hi;exact⟨i,a1,a2⟩
  refine⟨T,te,?_,?_,tm⟩
  .have:=tp.map λt=>t.1;rw[first]at this;exact this
  .rw[fc];rw[<-te,fc]at up;refine gx (λ{a b} ha hb lT=>?_) up;obtain⟨i,a1,a3⟩:=tm a ha;obtain⟨j,b1,b3⟩:=tm b hb;rw[hg i _ _ a1 a3,hg j _ _ b1 b3]at lT;rw[<-alf o (aj b1) (aj a1)];exact decide_eq_false<|by lia
section
variable{prog:aK}{w:aN}{A:Around}{E:aA->aB->Prop}{s:aB}
def ain{v:aA}{κ:aU}{Q:aA->aB->Prop}{P:U aA->U Z9->Prop}(hP:∀os bW,P os bW->os.length<=aF)
  (mW:∀(Q:U aA->aB->Prop)(E:aA->aB->Prop),(∀os bW h1 tk dr,P os bW->(∀b o,s.heap.get? b=some o->h1.get? b=some o)->Q os {s with heap:=h1,toks:=tk,drawn:=dr})->aG (aH prog w) A.in1 (kA v) Q E s)
  (h:∀os bW,P os bW->∃g:aA->Int,(2<=os.length->∀s':aB,(∀b o,s.heap.get? b=some o->s'.heap.get? b=some o)->
   (∀(Q:aU->aB->Prop)(E:aA->aB->Prop),Q κ s'->aG (aH prog w) A.in1.in1 (jT os.toArray) Q E s')/\
   ∀x y,x∈os->y∈os->∀(Q:Bool->aB->Prop),Q (decide<|g x<g y) s'->aG (aH prog w) A.in1.in1 (nP κ x y) Q (λ_ _=>False) s')/\
   ∀(us:U aA)(h1 h2:Heap)(tk:Nat) dr e,us.Perm os->us.Pairwise (λx y=>g x<=g y)->(∀b o,s.heap.get? b=some o->h1.get? b=some o)->(∀b o,h1.get? b=some o->h2.get? b=some o)->h2.get? h1.objs.size=some (dF "list" us.toArray e)->Q (.ref h1.objs.size) {s with heap:=h2,toks:=tk,drawn:=dr}) :
  aG (aH prog w) A (call (.builtin "sorted") [v]) Q E s:=by
 refine Calls.call_function_entry kind_sorted plain_sorted entry_sorted (args_sorted1 _) ?_;unfold Builtin.«sorted»;refine aa (m:=checkCount "sorted" 1 1 _)<|ai<|aa<|mW _ _ λos bW h1 tk dr hp k1=>?_;obtain⟨g,hk,h⟩:=h os bW hp;have lO:=hP os bW hp;refine aa<|pG ?_ lO;have BB:(h1.push<|dF "list" os.toArray 0).get? h1.objs.size=some (dF "list" os.toArray 0):=a6 _ rfl;have keep:∀b o,h1.get? b=some o->(h1.push<|dF "list" os.toArray 0).get? b=some o:=λb o q=>ah _ q;refine(?_:aG _ _ _ _ _ {s with heap:=h1.push<|dF "list" os.toArray 0,toks:=tk,drawn:=dr});refine aa<|db<|gu slot_list_sort ⟨_,BB,rfl⟩ entry_list_sort ?body<|args_list_sort _
 case body=>
  refine acg (κ:=κ) (g:=g) BB lO (λh2 s' k=>hk h2 s' λb o e=>k b o (cj<|be<|k1 b o e)<|keep b o<|k1 b o e) λus u1 u2=>?_;obtain⟨e,he⟩:=sortedHeap_at (out:=us.toArray) BB;refine⟨_,rfl,ai ⟨_,rfl,h us h1 _ tk dr e u1 u2 k1 (λb ob q=>?_) he⟩⟩;exact(sortedHeap_old (cj<|be q)<|by rw[size_push'];exact Nat.lt_succ_of_lt<|be q).trans (keep b ob q)
end
section
variable{X:Cx}{aC:U (aE×Obj)}{σ:L2.St}{H:Hp}{s:aB}{A:Around}{E:aA->aB->Prop}
theorem aer(I:L2.Inv X aC σ H s){v:aA}{ds:U Z9}{κ:aU}{lt:Z9->Z9->Bool}{Q:VK}{P:U aA->U Z9->Prop}
  (hP:∀os bW,P os bW->os.length<=aF/\os.length=bW.length/\bW.Perm ds/\∀(i:Nat) u d,os[i]?=some u->bW[i]?=some d->∃x,RelV x u/\Rep H d x)
  (mW:∀(Q:U aA->aB->Prop)(E:aA->aB->Prop),(∀os bW h1 tk dr,P os bW->(∀b o,s.heap.get? b=some o->h1.get? b=some o)->Q os {s with heap:=h1,toks:=tk,drawn:=dr})->aG (aH X.prog X.w) A.in1 (kA v) Q E s)
  (o:zD lt ds)
  (hk:∀os bW,P os bW->2<=os.length->∀s':aB,(∀b o,s.heap.get? b=some o->s'.heap.get? b=some o)->∀(Q:aU->aB->Prop)(E:aA->aB->Prop),Q κ s'->aG (aH X.prog X.w) A.in1.in1 (jT os.toArray) Q E s')
  (hc:∀os bW,P os bW->∀s':aB,(∀b o,s.heap.get? b=some o->s'.heap.get? b=some o)->∀(i j:Nat)(d e:Z9)(u v:aA),os[i]?=some u->bW[i]?=some d->os[j]?=some v->bW[j]?=some e->∀(Q:Bool->aB->Prop),Q (lt d e) s'->aG (aH X.prog X.w) A.in1.in1 (nP κ u v) Q (λ_ _=>False) s')
  (q:∀l ys es,H l=none->es.Perm ds->es.Pairwise (λx y=>lt y x=false)->RepAll (upd H l<|.lst ys) es ys->Q (.ref l) (upd H l<|.lst ys)) :
  aG (aH X.prog X.w) A (call (.builtin "sorted") [v]) (EP X aC σ Q) E s:=by
 refine ain (κ:=κ) (λos bW h=>(hP os bW h).1) mW λos bW hp=>?_;obtain⟨hz,lO,pd,mH⟩:=hP os bW hp;have sub:∀d∈bW,d∈ds:=λd hd=>pd.mem_iff.mp hd;obtain⟨g,g1,g2⟩:=ajt (h:=s.heap) lO (λi v d h1 h2=>by obtain⟨x,e1,e2⟩:=mH i v d h1 h2;exact⟨e2.lay,e2.reads I e1⟩) (lt:=lt) ⟨λx hx y hy=>o.asy x (sub x hx) y<|sub y hy,λx hx y hy z hz=>o.tr x (sub x hx) y (sub y hy) z<|sub z hz⟩
 refine⟨g,λh2 s' k=>⟨hk os bW hp h2 s' k,λx y hx hy Q' hq=>?_⟩,λus h1 h2 tk dr e u1 u2 Bc Bb hg3=>?_⟩
 .obtain⟨i,hi⟩:=bq.mp hx;obtain⟨j,hj⟩:=bq.mp hy;have di:=af (show i<bW.length by have:=(ap.mp hi).1;lia);have dj:=af (show j<bW.length by have:=(ap.mp hj).1;lia);rw[g1 i j x y _ _ hi di hj dj]at hq;exact hc os bW hp s' k i j _ _ x y hi di hj dj Q' hq
 .obtain⟨T,te,tp,tu,tm⟩:=g2 us u1 u2;have tr:∀t∈T,∃x,RelV x t.2/\Rep H t.1 x:=λt ht=>by
   obtain⟨i,a1,a2⟩:=tm t ht;exact mH i _ _ a2 a1
  have htl:=(tp.trans pd).length_eq;have gW:=pd.length_eq;obtain⟨zs,v1,v2⟩:∃zs,Vals zs us/\RepAll H (T.map (·.1)) zs:=by
   rw[<-te];clear te tp tu tm htl;induction T with
   | nil=>exact⟨[],.nil,rfl⟩
   | cons t T ih=>
    obtain⟨x,x1,x2⟩:=tr t am;obtain⟨ys,y1,y2⟩:=ih λt ht=>tr t<|ao _ ht;exact(nk (x::ys) (.cons x1 y1) x ys ⟨rfl,x2,y2⟩)
  have I0:L2.Inv X aC σ H {s with drawn:=dr}:=⟨I.ok,I.os,I.bare,I.base,I.loc,I.cell,I.free,I.freeC,I.pin,I.hok,I.len⟩;have I3:L2.Inv X aC σ H {s with heap:=h1,toks:=tk,drawn:=dr}:=I0.kept Bc;have hn:H h1.objs.size=none:=I3.hok.fresh<|aq _;have bG:=v2.length;exact(lc (.ref h1.objs.size) _ ⟨I3.laid (t':=tk) (o:=.lst zs) Bb (aq _) ⟨by lia,(lc _ e ⟨v1,hg3⟩)⟩,rfl,q _ zs (T.map (·.1)) hn (tp.trans pd) tu<|v2.same λb o q=>by rw[lg (mw q hn)];exact q⟩)
def aqx{ds:U Z9}{ys:U V}{its:U aA}(eM:RepAll H ds ys)(rv:Vals ys its)(i:Nat)(u:aA)(d:Z9)(h1:its[i]?=some u)(h2:ds[i]?=some d):∃x,RelV x u/\Rep H d x:=by obtain⟨x,e1,e2⟩:=eM.get h2;obtain⟨u',e3,e4⟩:=rv.get e1;rw[h1]at e3;cases e3;exact⟨x,e4,e2⟩
def acd(I:L2.Inv X aC σ H s){v:aA}{ds:U Z9}{ys:U V}{its:U aA}{κ:aU}{lt:Z9->Z9->Bool}{Q:VK}(eM:RepAll H ds ys)(rv:Vals ys its)(hz:ys.length<=aF)
  (mW:∀(Q:U aA->aB->Prop)(E:aA->aB->Prop),(∀h1 tk,(∀b o,s.heap.get? b=some o->h1.get? b=some o)->Q its {s with heap:=h1,toks:=tk})->aG (aH X.prog X.w) A.in1 (kA v) Q E s)
  (o:zD lt ds)
  (hk:2<=its.length->∀s':aB,(∀b o,s.heap.get? b=some o->s'.heap.get? b=some o)->∀(Q:aU->aB->Prop)(E:aA->aB->Prop),Q κ s'->aG (aH X.prog X.w) A.in1.in1 (jT its.toArray) Q E s')
  (hc:∀s':aB,(∀b o,s.heap.get? b=some o->s'.heap.get? b=some o)->∀(i j:Nat)(d e:Z9)(u v:aA),its[i]?=some u->ds[i]?=some d->its[j]?=some v->ds[j]?=some e->∀(Q:Bool->aB->Prop),Q (lt d e) s'->aG (aH X.prog X.w) A.in1.in1 (nP κ u v) Q (λ_ _=>False) s')
  (q:∀l ys es,H l=none->es.Perm ds->es.Pairwise (λx y=>lt y x=false)->RepAll (upd H l<|.lst ys) es ys->Q (.ref l) (upd H l<|.lst ys)) :
  aG (aH X.prog X.w) A (call (.builtin "sorted") [v]) (EP X aC σ Q) E s:=by
 have l1:ys.length=ds.length:=eM.length;have l2:ys.length=its.length:=rv.length;refine aer (κ:=κ) (P:=λos bW=>os=its/\bW=ds) I ?_ (λQ E h=>mW Q E λh1 tk k=>h its ds h1 tk s.drawn ⟨rfl,rfl⟩ k) o ?_ ?_ q
 .rintro _ _ ⟨rfl,rfl⟩;exact⟨by lia,by lia,.refl _,aqx eM rv⟩
 .rintro _ _ ⟨rfl,rfl⟩;exact hk
 .rintro _ _ ⟨rfl,rfl⟩;exact hc
def alu{p:aE}{its:U aA}(pl:s.heap.IsList p its.toArray)(hz:its.length<=aF)(Q:U aA->aB->Prop)(E:aA->aB->Prop)(h:∀h1 tk,(∀b o,s.heap.get? b=some o->h1.get? b=some o)->Q its {s with heap:=h1,toks:=tk}):aG (aH X.prog X.w) A.in1 (kA<|.ref p) Q E s:=
 collect_list pl (h _ _ λb o q=>(br _ _<|Ne.symm<|cj<|be q).trans (ah _ q)) hz
end
noncomputable def ltR(x y:Z9):Bool:=qb (uq x)<|uq y
def aoq{ks:U Bool}{ds:U Z9}(h:Rows ks ds):zD ltR ds:=by
 have jR:∀d∈ds,Row (true::ks) (uq d):=λd hd=>by obtain⟨r,e,hr⟩:=h d hd;rw[e];exact hr
 exact⟨λx hx y hy q=>CU (jR x hx) (jR y hy) q,λx hx y hy z hz q1 q2=>CI (jR x hx) (jR y hy) (jR z hz) q1 q2⟩
section
variable{X:Cx}
def af8{aC:U (aE×Obj)}{s:aB}{σ:L2.St}{H:Hp}{A:Around}{E:aA->aB->Prop}{v:aA}{ks:U Bool}{ds:U Z9}{xs:U V}{its:U aA}{Q:VK}(I:L2.Inv X aC σ H s)(eM:RepAll H ds xs)(rv:Vals xs its)(eE:Rows ks ds)(hz:xs.length<=aF)
  (mW:∀(Q:U aA->aB->Prop)(E:aA->aB->Prop),(∀h1 tk,(∀b o,s.heap.get? b=some o->h1.get? b=some o)->Q its {s with heap:=h1,toks:=tk})->aG (aH X.prog X.w) A.in1 (kA v) Q E s)
  (q:∀l ys es,H l=none->es.Perm ds->es.Pairwise (λx y=>ltR y x=false)->RepAll (upd H l<|.lst ys) es ys->Q (.ref l) (upd H l<|.lst ys)) :
  aG (aH X.prog X.w) A (call (.builtin "sorted") [v]) (EP X aC σ Q) E s:=by
 have l1:xs.length=ds.length:=eM.length;have l2:xs.length=its.length:=rv.length;obtain⟨fs,kt,kf,ki⟩:=ah9 I eM rv eE;refine acd (κ:=mK true) (lt:=ltR) I eM rv hz mW (aoq eE) (λh2 s' k Q' E' hq=>?_) (λs' k i j d e u v ui di vj dj Q' hq=>?_) q
 .refine PySem.W.kat_kind (T:=aA.type "int") (KatTups.keeps k kt) (by lia) (λv hv=>?_) rfl hq;obtain⟨i,t,rfl⟩:=ki v hv;exact PySem.W.Looks.of_pure rfl
 .have tup:∀(i:Nat)(d:Z9)(u:aA),ds[i]?=some d->its[i]?=some u->∃a o vs n bs row,u=.ref a/\d=.tuple row/\Row (true::ks) row/\s'.heap.get? a=some o/\o.data=.seq vs n/\ReadsAll s'.heap vs.toList row bs:=λi d u hd hu=>by
   obtain⟨x,e1,e2⟩:=eM.get hd;obtain⟨u',e3,e4⟩:=rv.get e1;rw[hu]at e3;cases e3;obtain⟨row,e5,oJ⟩:=eE _<|aj hd;obtain⟨a,o,vs,n,bs,_,_,rfl,g1,_,g3,g4,_⟩:=aqc I e2 e4 e5 oJ;exact(lr a o vs n bs ⟨row,rfl,e5,oJ,k _ _ g1,g3,ReadsAll.keeps k g4⟩)
  obtain⟨a,o,vs,n,as1,row,rfl,rfl,e3,e4,e5,e6⟩:=tup i d u di ui;obtain⟨a',o',DA,n',as2,AY,rfl,rfl,f3,f4,f5,f6⟩:=tup j e v dj vj;have kO:Q' (qb row AY) s':=hq;have z1:vs.size=ks.length+1:=by have q1:=SeqAt.ReadsAll.length _ _ _ e6;have q2:=e3.len;simp at q1 q2;lia
  have z2:DA.size=ks.length+1:=by have q1:=SeqAt.ReadsAll.length _ _ _ f6;have q2:=f3.len;simp at q1 q2;lia
  refine PySem.W.kat_lt e4 e5 f4 f5 ?_;rw[decide_eq_false (by lia)];exact E4 e3 f3 e6 f6 kO
def ae3:qv X (.builtin "sorted") (λvs H Q=>∃p xs ds ks,vs=[.ref p]/\H p=some (.lst xs)/\RepAll H ds xs/\Rows ks ds/\
  ∀l ys es,H l=none->es.Perm ds->es.Pairwise (λx y=>ltR y x=false)->RepAll (upd H l<|.lst ys) es ys->Q (.ref l) (upd H l<|.lst ys)):=by
 intro aC s σ H xs us Q I r h;obtain⟨p,xs,ds,ks,rfl,hp,eM,eE,q⟩:=h;obtain⟨u,rfl,r1⟩:=qw r;cases (show u=aA.ref p from r1);obtain⟨its,rv,pl,hz⟩:=I.list<|SqL.of (K:=X.K) hp;have l2:xs.length=its.length:=rv.length;exact af8 I eM rv eE (by lia) (alu pl.isList<|by lia) q
def ami{ks:U Bool}{ds es:U Z9}(h:Rows ks ds)(p:es.Perm ds)(u:es.Pairwise (λx y=>ltR y x=false)):es=qf ds:=by
 refine aeg (R:=λx y=>ltR y x=false) (p.trans (uu ds).symm) u ?_ λx hx y hy h1 h2=>?_
 .rw[eu];intro i j hi hj cA;exact ahs h (af hi) (af hj)<|ck cA
 .obtain⟨r,e,hr⟩:=h x<|p.mem_iff.mp hx;obtain⟨r',e',Bx⟩:=h y<|p.mem_iff.mp hy;subst e e';have jH:qb r r'=false:=h2;have jX:qb r' r=false:=h1;rw[Iy hr Bx jH jX]
def zk:qv X (.builtin "sorted") (λvs H Q=>∃p xs ds ks,vs=[.ref p]/\H p=some (.lst xs)/\RepAll H ds xs/\Rows ks ds/\ds.length<64/\
  ∀l ys,H l=none->RepAll (upd H l<|.lst ys) (qf ds) ys->Q (.ref l) (upd H l<|.lst ys)):=by
 intro aC s σ H xs us Q I r h;obtain⟨p,xs,ds,ks,rfl,hp,eM,eE,wQ,q⟩:=h;refine ae3 aC s σ H _ us Q I r<|my p xs ds ks ⟨rfl,hp,eM,eE,λl ys es hl pe ue re=>?_⟩;rw[ami eE pe ue]at re;exact q l ys hl re
end
end L3
namespace L3
open PySem
def slot_setit_next:Slot "set_iterator" "__next__" "set_iterator.__next__":=
 .of (owner:="set_iterator") (n:="__next__") (by rw[Fa,vA];kernel_rfl) (by decide +kernel) (by decide +kernel) (by decide +kernel) (by first|exact .inl (by decide +kernel)|exact .inr<|by decide +kernel) (by rw[isSubtype_type];kernel_rfl)
def qa:entryFor table "set_iterator.__next__" = some Builtin.«set_iterator.__next__»:=entryFor_of_tree<|by kernel_rfl
def qh(a:aA):lB "set_iterator.__next__" ⟨[a],[]⟩:=by unfold lB;kernel_rfl
def aa0:entryFor table "set.__iter__" = some Builtin.«frozenset.__iter__»:=entryFor_alias (id':="frozenset.__iter__") (by kernel_rfl) rfl (by decide +kernel)<|by kernel_rfl
theorem yw{α:Type}:∀(l:List α)(i:Nat)(h:i<l.length),(l[i]::l.eraseIdx i).Perm l
 | a::l,0,h=>ip _
 | a::l,i+1,h=>by
  have h':i<l.length:=by simpa using h
  show(l[i]::a::l.eraseIdx i).Perm (a::l);exact(List.Perm.swap _ _ _).trans ((yw l i h').cons a)
theorem akz{α:Type}(next:Nat->Nat):∀(fuel k:Nat)(left:List α)(out:Array α),left.length=fuel->((iK.go next fuel k left out).toList).Perm (out.toList++left)
 | 0,k,left,out,h=>by have:left=[]:=fj.mp h;subst this;rw[ie];exact ip _
 | fuel+1,k,left,out,h=>by unfold iK.go;have hl:next k % left.length<left.length:=Nat.mod_lt _ (by lia);rw[af hl];dsimp only;refine(akz next fuel (k+1) _ _<|by rw[List.length_eraseIdx_of_lt hl];lia).trans ?_;rw[Array.toList_push,b9];refine gw _ ?_;exact(yw _ _ hl)
def akr{α:Type}(next:Nat->Nat)(xs:Array α):(iK next xs).toList.Perm xs.toList:=by unfold iK;have:=akz next xs.size 0 xs.toList #[] (by simp);simpa using this
section
variable{prog:aK}{w:aN}{A:Around}{E:aA->aB->Prop}{s:aB}
def acs{src:Source}{n:Nat}{Q:Nat->aB->Prop}(hn:0<n)(h:∀i dr,i<n->Q i {s with drawn:=dr}):aG (aH prog w) A (choose src n) Q E s:=λΓ p hΓ=>by show n≠0/\_;exact⟨by lia,h _ _<|Nat.mod_lt _ hn⟩
theorem ade{α:Type}:∀(n:Nat)(xs:List α)(s:aB) {Q:List α->aB->Prop},xs.length=n->(∀ys dr,ys.Perm xs->Q ys {s with drawn:=dr})->aG (aH prog w) A (Eo n xs) Q E s
 | 0,xs,s,Q,h,q=>by have:xs=[]:=fj.mp h;subst this;unfold Eo;exact ai (q [] s.drawn<|ip _)
 | n+1,[],s,Q,h,q=>by simp at h
 | n+1,x::xs,s,Q,h,q=>by unfold Eo;refine aa<|acs (by simp) λi dr hi=>?_;rw[af hi];dsimp only;refine aa<|ade n _ {s with drawn:=dr} (by rw[List.length_eraseIdx_of_lt hi];lia) λys dr' p=>?_;exact ai<|q _ dr'<|(List.Perm.cons _ p).trans (yw _ _ hi)
noncomputable def wv(first:aA)(i:Nat)(a:aE)(n ep:Nat):Obj:={cls:=.type "set_iterator",data:=.fields #[first,.int i 0,.ref a,.int n 0,.int ep 0]}
def ahd{I a:aE}{slot slot' i ep:Nat}{o:Obj}{es:Array (Int×aA)}{t:SetTable}{x:aA}{Q:Option aA->aB->Prop}(iA:s.heap.get? I=some (wv (.int slot 0) i a es.size ep))(ho:s.heap.get? a=some o)(hd:o.data=.set es ep t)(hf:t.fits es.size=true)
  (ll:∀{A:Around} {E:aA->aB->Prop} {Q:Option (aA×Nat)->aB->Prop},Q (some (x,slot')) s->aG (aH prog w) A (iI a slot i ep) Q E s)
  (hQ:∀h',h'.get? I=some (wv (.int slot' 0) (i+1) a es.size ep)->b7 I s.heap h'->Q (some x) {s with heap:=h'}):aG (aH prog w) A (bB<|.ref I) Q E s:=by
 have hT:s.TypeIs (.ref I) "set_iterator":=⟨_,iA,rfl⟩;unfold bB;refine aa<|cV<|gk (name:=ab "__next__") hT slot_setit_next<|gu slot_setit_next hT qa ?_<|qh _;unfold Builtin.«set_iterator.__next__» nJ;simp only[List.isEmpty_nil,ig,a0,↓reduceIte,jK,List.length_nil,bne_self_eq_false];refine aa<|ai ?_;dsimp only;refine aa<|gZ iA rfl ?_;show aG _ _ (nL a >>= _) _ _ _;refine aa<|cU ho hd hf ?_;rw[if_neg (by simp)];show aG _ _ (iI a (slot:Int).toNat (i:Int).toNat (ep:Int).toNat >>= _) _ _ _;simp only[fy];refine aa<|ll ?_;dsimp only;refine aa<|jy iA rfl (by show 0<5;decide) ?_;have g1:=cp (Obj.mapFields (·.setIfInBounds 0 (kZ slot'))) iA rfl;refine aa<|jy g1 rfl (by show 1<5;decide) ?_;have g2:=cp (Obj.mapFields (·.setIfInBounds 1 (kZ<|i+1))) g1 rfl;exact ai ⟨x,rfl,ai<|hQ _ g2<|(gj ..).trans (gj ..)⟩
def akv{I a:aE}{slot i ep:Nat}{o:Obj}{es:Array (Int×aA)}{t:SetTable}{Q:Option aA->aB->Prop}(hh:A.handled=none)(iA:s.heap.get? I=some (wv (.int slot 0) i a es.size ep))(ho:s.heap.get? a=some o)(hd:o.data=.set es ep t)(hf:t.fits es.size=true)
  (ll:∀{A:Around} {E:aA->aB->Prop} {Q:Option (aA×Nat)->aB->Prop},Q none s->aG (aH prog w) A (iI a slot i ep) Q E s)
  (hQ:∀h',ke I s.heap h'->Q none {s with heap:=h'}):aG (aH prog w) A (bB<|.ref I) Q E s:=by
 have hT:s.TypeIs (.ref I) "set_iterator":=⟨_,iA,rfl⟩;unfold bB;refine aa<|cV<|gk (name:=ab "__next__") hT slot_setit_next<|gu slot_setit_next hT qa ?_<|qh _;unfold Builtin.«set_iterator.__next__» nJ;simp only[List.isEmpty_nil,ig,a0,↓reduceIte,jK,List.length_nil,bne_self_eq_false];refine aa<|ai ?_;dsimp only;refine aa<|gZ iA rfl ?_;show aG _ _ (nL a >>= _) _ _ _;refine aa<|cU ho hd hf ?_;rw[if_neg (by simp)];show aG _ _ (iI a (slot:Int).toNat (i:Int).toNat (ep:Int).toNat >>= _) _ _ _;simp only[fy];refine aa<|ll ?_;dsimp only;refine aa<|jy iA rfl (by show 2<5;decide) ?_;show aG _ _ (sX (.type "StopIteration") [] >>= _) _ _ _;refine aa ?_;simp only[sX,nN];refine aa (f7 ?_<|by size_fits);refine aa (m:=dI _ _)<|eZ (a:=aA.none) (by first|rfl|(simp only[dI];rfl)) ?_;refine f7 ?_ (by size_fits);simp only[vQ];refine aa<|pH ?_;rw[show A.in1.handled=none from hh];refine aa<|ai<|vI ?_;refine aa<|dN (T:="StopIteration") (b:=true) ⟨_,a6 _ rfl,rfl⟩ nQ ?_;exact ai<|hQ _<|((gj ..).extBut.push _).push _
def amb{I a tp:aE}{i ep p:Nat}{o op:Obj}{es:Array (Int×aA)}{t:SetTable}{ps:Array aA}{c:Nat}{e:Int×aA}{Q:Option aA->aB->Prop}(iA:s.heap.get? I=some (wv (.ref tp) i a es.size ep))(ho:s.heap.get? a=some o)(hd:o.data=.set es ep t)(hf:t.fits es.size=true)
  (hp:s.heap.get? tp=some op) (xY:op.data=.seq ps c) (By:ps[i]?=some (.int p 0)) (tH:es[p]?=some e)
  (hQ:∀h',h'.get? I=some (wv (.ref tp) (i+1) a es.size ep)->b7 I s.heap h'->Q (some e.2) {s with heap:=h'}):aG (aH prog w) A (bB<|.ref I) Q E s:=by
 have hT:s.TypeIs (.ref I) "set_iterator":=⟨_,iA,rfl⟩;unfold bB;refine aa<|cV<|gk (name:=ab "__next__") hT slot_setit_next<|gu slot_setit_next hT qa ?_<|qh _;unfold Builtin.«set_iterator.__next__» nJ;simp only[List.isEmpty_nil,ig,a0,↓reduceIte,jK,List.length_nil,bne_self_eq_false];refine aa<|ai ?_;dsimp only;refine aa<|gZ iA rfl ?_;show aG _ _ (nL a >>= _) _ _ _;refine aa<|cU ho hd hf ?_;rw[if_neg (by simp)];show aG _ _ (eK (.ref tp) >>= _) _ _ _;refine aa<|ix hp xY ?_;dsimp only;simp only[fy,By];refine aa ?_;unfold setNextDrawn;refine aa<|gl ho hd hf ?_;dsimp only;rw[if_neg (by simp)];simp only[fy,tH];refine ai ?_;refine aa<|jy iA rfl (by show 1<5;decide) ?_;have g2:=cp (Obj.mapFields (·.setIfInBounds 1 (kZ<|i+1))) iA rfl;exact ai ⟨e.2,rfl,ai<|hQ _ g2<|gj ..⟩
def an1{I a tp:aE}{i ep:Nat}{o op:Obj}{es:Array (Int×aA)}{t:SetTable}{ps:Array aA}{c:Nat}{Q:Option aA->aB->Prop}(hh:A.handled=none)(iA:s.heap.get? I=some (wv (.ref tp) i a es.size ep))(ho:s.heap.get? a=some o)(hd:o.data=.set es ep t)(hf:t.fits es.size=true)
  (hp:s.heap.get? tp=some op) (xY:op.data=.seq ps c) (By:ps[i]?=none)
  (hQ:∀h',ke I s.heap h'->Q none {s with heap:=h'}):aG (aH prog w) A (bB<|.ref I) Q E s:=by
 have hT:s.TypeIs (.ref I) "set_iterator":=⟨_,iA,rfl⟩;unfold bB;refine aa<|cV<|gk (name:=ab "__next__") hT slot_setit_next<|gu slot_setit_next hT qa ?_<|qh _;unfold Builtin.«set_iterator.__next__» nJ;simp only[List.isEmpty_nil,ig,a0,↓reduceIte,jK,List.length_nil,bne_self_eq_false];refine aa<|ai ?_;dsimp only;refine aa<|gZ iA rfl ?_;show aG _ _ (nL a >>= _) _ _ _;refine aa<|cU ho hd hf ?_;rw[if_neg (by simp)];show aG _ _ (eK (.ref tp) >>= _) _ _ _;refine aa<|ix hp xY ?_;dsimp only;simp only[fy,By];refine aa<|jy iA rfl (by show 0<5;decide) ?_;have g1:=cp (Obj.mapFields (·.setIfInBounds 0 (kZ 0))) iA rfl;refine aa<|jy g1 rfl (by show 2<5;decide) ?_;show aG _ _ (sX (.type "StopIteration") [] >>= _) _ _ _;refine aa ?_;simp only[sX,nN];refine aa (f7 ?_<|by size_fits);refine aa (m:=dI _ _)<|eZ (a:=aA.none) (by first|rfl|(simp only[dI];rfl)) ?_;refine f7 ?_ (by size_fits);simp only[vQ];refine aa<|pH ?_;rw[show A.in1.handled=none from hh];refine aa<|ai<|vI ?_;refine aa<|dN (T:="StopIteration") (b:=true) ⟨_,a6 _ rfl,rfl⟩ nQ ?_;exact ai<|hQ _<|(((gj ..).trans (gj ..)).extBut.push _).push _
def zg{a:aE}{slot given ep:Nat}{o:Obj}{es:Array (Int×aA)}{t:SetTable}{Q:Option (aA×Nat)->aB->Prop}(hb:byT w=true)(ho:s.heap.get? a=some o)(hd:o.data=.set es ep t)(hf:t.fits es.size=true)
  (h:Q (((iK (w.params.setOrder a ep) es)[given]?).map λe=>(e.2,slot)) s):aG (aH prog w) A (iI a slot given ep) Q E s:=by
 have fL:w.params.followText "set-order" = true:=hb;unfold iI;refine aa<|gl ho hd hf ?_;dsimp only;unfold nK;refine aa<|aa<|cO<|ai ?_;show aG _ _ (if w.params.followText "set-order" = true then _ else _) _ _ _;rw[if_pos fL];rw[if_neg (by simp)];refine aa ?_;unfold setWalk;refine aa<|gl ho hd hf ?_;dsimp only;unfold nK;refine aa<|aa<|cO<|ai ?_;show aG _ _ (if w.params.followText "set-order" = true then _ else _) _ _ _;rw[if_pos fL];refine aa<|cO<|ai ?_;exact ai h
def xi{a:aE}{slot given ep:Nat}{o:Obj}{es:Array (Int×aA)}{t:SetTable}{Q:Option (aA×Nat)->aB->Prop}(hb:byT w=false)(cT:t.led=true)(hdr:(!t.plain&&decide (es.size>1))=false)(ho:s.heap.get? a=some o)(hd:o.data=.set es ep t)(hf:t.fits es.size=true)
  (h:Q (match es[SetTable.below t.place slot]?,t.place[SetTable.below t.place slot]? with|some (_,x),some j=>some (x,j+1)|_,_=>none) s):aG (aH prog w) A (iI a slot given ep) Q E s:=by
 have fL:w.params.followText "set-order" = false:=hb;unfold iI;refine aa<|gl ho hd hf ?_;dsimp only;unfold nK;refine aa<|aa<|cO<|ai ?_;show aG _ _ (if w.params.followText "set-order" = true then _ else _) _ _ _;rw[if_neg (by rw[fL];exact ak)];show aG _ _ (if (!t.plain&&decide (es.size>1))=true then _ else _) _ _ _;rw[hdr,if_neg ak];refine aa ?_;show aG _ _ (if (!t.led && !es.isEmpty)=true then _ else _) _ _ _;rw[cT,if_neg<|by simp];refine ai ?_;exact ai h
end
def aja{xs:Array Nat}(h:xs.toList.Pairwise (· < ·)):SetTable.below xs 0=0:=by
 obtain⟨a,b,c⟩:=v0 h 0;apply du;intro hn;have h0:0<xs.size:=by lia
 have:=b 0 xs[0] (by lia) (by simp[h0]);lia
def ai5{xs:Array Nat}(h:xs.toList.Pairwise (· < ·)){i j:Nat}(hi:xs[i]?=some j):SetTable.below xs (j+1)=i+1:=by
 obtain⟨a,b,c⟩:=v0 h<|j+1;have hl:=(bg.mp hi).1;by_cases q:SetTable.below xs (j+1)<=i
 .have:=c i j q hi;lia
 by_cases q2:i+1<SetTable.below xs (j+1)
 .have jE:i+1<xs.size:=by lia
  have e:xs[i+1]?=some xs[i+1]:=by simp[jE]
  have h1:=b (i+1) _ q2 e;have h2:=E1 h hi e (by lia);lia
 .lia
def WalkAt(w:aN)(a I:aE)(es:Array (Int×aA))(ep:Nat)(t:SetTable)(os:U aA)(i:Nat)(h:Heap):Prop:=
 (∃o,h.get? a=some o/\o.cls=.type "set"/\o.data=.set es ep t)/\
 ((byT w=true/\os=(iK (w.params.setOrder a ep) es).toList.map (·.2)/\∃slot,h.get? I=some (wv (.int (slot:Nat) 0) i a es.size ep))\/
  (byT w=false/\(!t.plain&&decide (es.size>1))=false/\os=es.toList.map (·.2)/\∃slot,h.get? I=some (wv (.int (slot:Nat) 0) i a es.size ep)/\SetTable.below t.place slot=i)\/
  (∃tp op c,∃ord:U Nat,h.get? I=some (wv (.ref tp) i a es.size ep)/\h.get? tp=some op/\op.cls=.type "tuple"/\op.data=.seq (ord.map λ(p:Nat)=>aA.int (p:Int) 0).toArray c/\os.length=ord.length/\∀(k:Nat) p,ord[k]?=some p->∃e,es[p]?=some e/\os[k]?=some e.2))
section
variable{prog:aK}{w:aN}{A:Around}{E:aA->aB->Prop}{s:aB}{a I:aE}{es:Array (Int×aA)}{ep:Nat}{t:SetTable}{os:U aA}{i:Nat}
def WalkAt.keep{h h':Heap}(x:WalkAt w a I es ep t os i h)(k:∀b o,h.get? b=some o->(o.cls=.type "set"\/o.cls=.type "set_iterator"\/o.cls=.type "tuple")->h'.get? b=some o):WalkAt w a I es ep t os i h':=by
 obtain⟨⟨o,h1,h2,h3⟩,hm⟩:=x;refine⟨⟨o,k _ _ h1<|.inl h2,h2,h3⟩,?_⟩;rcases hm with ⟨b1,b2,slot,b3⟩|⟨b1,b2,b3,slot,b4,b5⟩|⟨tp,op,c,ord,b1,b2,b3,b4,b5,b6⟩
 .exact .inl ⟨b1,b2,slot,k _ _ b3<|.inr<|.inl rfl⟩
 .exact .inr<|.inl ⟨b1,b2,b3,slot,k _ _ b4<|.inr<|.inl rfl,b5⟩
 .exact .inr<|.inr<|my tp op c ord ⟨k _ _ b1<|.inr<|.inl rfl,k _ _ b2<|.inr<|.inr b3,b3,b4,b5,b6⟩
def alm{x:aA}{Q:Option aA->aB->Prop}(ok:TOk t es)(cT:t.led = !byT w)(hw:WalkAt w a I es ep t os i s.heap)(hx:os[i]?=some x)
  (hQ:∀h',WalkAt w a I es ep t os (i+1) h'->b7 I s.heap h'->Q (some x) {s with heap:=h'}):aG (aH prog w) A (bB<|.ref I) Q E s:=by
 obtain⟨⟨o,h1,h2,h3⟩,hm⟩:=hw;have qO:∀{h':Heap} {fo:Obj},s.heap.get? I=some fo->fo.cls=.type "set_iterator"->b7 I s.heap h'->h'.get? a=some o:=λ{h' fo} hi hc sb=>by rw[sb.2 a (λe=>by subst e;rw[h1]at hi;cases hi;rw[h2]at hc;exact absurd hc<|by decide)];exact h1
 rcases hm with ⟨b1,b2,slot,b3⟩|⟨b1,b2,b3,slot,b4,b5⟩|⟨tp,op,c,ord,b1,b2,b3,b4,b5,b6⟩
 .subst b2;rw[a8,bh]at hx;obtain⟨e,he,rfl⟩:=bo.mp hx;refine ahd (slot':=slot) b3 h1 h3 ok.fits (λq=>zg b1 h1 h3 ok.fits<|by rw[he];exact q) λh' g sb=>?_;exact hQ h' ⟨⟨o,qO b3 rfl sb,h2,h3⟩,.inl ⟨b1,rfl,slot,g⟩⟩ sb
 .subst b3;rw[a8,bh]at hx;obtain⟨e,he,rfl⟩:=bo.mp hx;have oQ:=(bg.mp he).1;have gW:t.place[i]?=some (t.place[i]'(by rw[ok.sz];exact oQ)):=bv _;have hl:t.led=true:=by rw[cT,b1];rfl
  obtain⟨eh,ev⟩:=e;refine ahd (slot':=t.place[i]'(by rw[ok.sz];exact oQ)+1) b4 h1 h3 ok.fits (λq=>xi b1 hl b2 h1 h3 ok.fits<|by rw[b5,he,gW];exact q) λh' g sb=>?_;exact hQ h' ⟨⟨o,qO b4 rfl sb,h2,h3⟩,.inr<|.inl ⟨b1,b2,rfl,_,g,ai5 ok.rise gW⟩⟩ sb
 .have oQ:=(ap.mp hx).1;have hio:ord[i]?=some (ord[i]'(by lia)):=af _;obtain⟨e,e1,e2⟩:=b6 i _ hio;rw[hx]at e2;cases e2;refine amb b1 h1 h3 ok.fits b2 b4 (by rw[jj,a8,hio];rfl) e1 λh' g sb=>?_;have nt:tp≠I:=λe=>by subst e;rw[b2]at b1;cases b1;exact absurd b3<|by show ¬(aA.type "set_iterator" = aA.type "tuple");decide
  exact hQ h' ⟨⟨o,qO b1 rfl sb,h2,h3⟩,.inr<|.inr<|my tp op c ord ⟨g,by rw[sb.2 tp nt];exact b2,b3,b4,b5,b6⟩⟩ sb
def an5{Q:Option aA->aB->Prop}(hh:A.handled=none)(ok:TOk t es)(cT:t.led = !byT w)(hw:WalkAt w a I es ep t os i s.heap)(hx:os.length<=i)
  (hQ:∀h',ke I s.heap h'->Q none {s with heap:=h'}):aG (aH prog w) A (bB<|.ref I) Q E s:=by
 obtain⟨⟨o,h1,h2,h3⟩,hm⟩:=hw;rcases hm with ⟨b1,b2,slot,b3⟩|⟨b1,b2,b3,slot,b4,b5⟩|⟨tp,op,c,ord,b1,b2,b3,b4,b5,b6⟩
 .subst b2;rw[ae,aw]at hx;refine akv hh b3 h1 h3 ok.fits (λq=>zg b1 h1 h3 ok.fits<|by rw[Array.getElem?_eq_none hx];exact q) hQ
 .subst b3;rw[ae,aw]at hx;have hl:t.led=true:=by rw[cT,b1];rfl
  refine akv hh b4 h1 h3 ok.fits (λq=>xi b1 hl b2 h1 h3 ok.fits<|by rw[b5,Array.getElem?_eq_none hx];exact q) hQ
 .exact an1 hh b1 h1 h3 ok.fits b2 b4 (by rw[jj,a8,ji<|by lia];rfl) hQ
theorem aim{o:Obj}{Q:aA->aB->Prop}(ho:s.heap.get? a=some o)(fJ:o.ExactSet)(hd:o.data=.set es ep t)(ok:TOk t es)(cT:t.led = !byT w)(hsz:es.size<=4000)
  (hQ:∀h' I os dr,os.Perm (es.toList.map (·.2))->WalkAt w a I es ep t os 0 h'->(∀b o,s.heap.get? b=some o->h'.get? b=some o)->s.heap.objs.size<=I->Q (.ref I) {s with heap:=h',drawn:=dr}):aG (aH prog w) A (hJ<|.ref a) Q E s:=by
 have hT:s.TypeIs (.ref a) "set":=⟨o,ho,fJ.1⟩;refine wpAny_pyIter_slot hT PySem.F.slot_set_iter<|gu PySem.F.slot_set_iter hT aa0 ?_<|PySem.F.args_set_iter_1 _;unfold Builtin.«frozenset.__iter__» Builtin.Frozenset.slot0 nJ;simp only[List.isEmpty_nil,ig,a0,↓reduceIte,jK,List.length_nil,bne_self_eq_false];unfold Builtin.Frozenset.addrOf Builtin.Frozenset.sizeOf;refine aa<|ai ?_;dsimp only;refine aa<|ai ?_;refine aa<|aa<|cU ho hd ok.fits<|ai ?_;have GP:∀{Q:Bool->aB->Prop},Q (!byT w&&(!t.plain&&decide (es.size>1))) s->aG (aH prog w) A.in1 (setDrawn a) Q E s:=λ{Q} q=>by unfold setDrawn;refine aa<|gl ho hd ok.fits ?_;dsimp only;unfold nK;refine aa<|aa<|cO<|ai ?_;exact ai q
 refine aa<|GP ?_;cases hc:(!byT w&&(!t.plain&&decide (es.size>1)))with
 | true=>
  rw[if_pos rfl];refine aa<|ade es.size (fu es.size) s (by rw[jb]) λord dr hp=>?_;simp only[nN];have lO:ord.length=es.size:=by rw[hp.length_eq,jb]
  obtain⟨vJ,uH⟩:∃ob:Obj,ob={cls:=.type "tuple",data:=.seq (ord.map λ(p:Nat)=>aA.int (p:Int) 0).toArray}:=⟨_,rfl⟩;have eS:((ord.map λ(p:Nat)=>aA.int (p:Int) 0).toArray).size<=aF:=by rw[bf,ae,lO,jl];lia
  refine aa<|f7 ?_ eS;show aG _ _ _ _ _ {s with heap:=s.heap.push {cls:=.type "tuple",data:=.seq (ord.map λ(p:Nat)=>aA.int (p:Int) 0).toArray},drawn:=dr};rw[<-uH];have Bc:∀b ob,s.heap.get? b=some ob->(s.heap.push vJ).get? b=some ob:=λb ob e=>ah _ e;have FT:(s.heap.push vJ).get? s.heap.objs.size=some vJ:=a6 _ (by rw[uH];rfl);refine aa<|AR (Bc _ _ ho) hd ok.fits ?_;have hg:((s.heap.push vJ).push (wv (.ref s.heap.objs.size) 0 a es.size ep)).get? (s.heap.push vJ).objs.size=some (wv (.ref s.heap.objs.size) 0 a es.size ep):=a6 _ rfl;have Bb:∀b ob,(s.heap.push vJ).get? b=some ob->((s.heap.push vJ).push (wv (.ref s.heap.objs.size) 0 a es.size ep)).get? b=some ob:=λb ob e=>ah _ e;refine aa<|f7<|ai<|nk _ rfl ("set_iterator") _ ⟨⟨_,hg,rfl⟩,slot_setit_next.lookup,?_⟩;have iV:(ord.map λp=>(es[p]?.map (·.2)).getD aA.none).Perm (es.toList.map (·.2)):=by
   have h1:=hp.map λp=>(es[p]?.map (·.2)).getD aA.none;have h2:(fu es.size).map (λp=>(es[p]?.map (·.2)).getD aA.none)=es.toList.map (·.2):=by
    apply List.ext_getElem
    .simp
    .intro k a1 b1;have hk:k<es.size:=by simpa using b1
     simp[hk]
   rw[h2]at h1;exact h1
  refine hQ _ _ _ dr iV ⟨⟨o,Bb _ _<|Bc _ _ ho,fJ.1,hd⟩,.inr<|.inr<|my s.heap.objs.size vJ 0 ord ⟨hg,Bb _ _ FT,by rw[uH],by rw[uH],by rw[ae],λk p hk=>?_⟩⟩ (λb ob e=>Bb _ _<|Bc _ _ e) (by rw[jx];exact Nat.le_succ _);have gW:p<es.size:=ir.mp<|hp.mem_iff.mp<|aj hk;refine⟨es[p],bv gW,?_⟩;rw[a8,hk];show some ((es[p]?.map (·.2)).getD aA.none)=_;rw[bv gW];rfl
 | false=>
  rw[if_neg ak];refine aa<|ai ?_;refine aa<|AR ho hd ok.fits ?_;have hg:(s.heap.push<|wv (.int ((0:Nat):Int) 0) 0 a es.size ep).get? s.heap.objs.size=some (wv (.int ((0:Nat):Int) 0) 0 a es.size ep):=a6 _ rfl;have kp:∀b ob,s.heap.get? b=some ob->(s.heap.push<|wv (.int ((0:Nat):Int) 0) 0 a es.size ep).get? b=some ob:=λb ob e=>ah _ e;refine aa<|f7<|ai<|nk _ rfl ("set_iterator") _ ⟨⟨_,hg,rfl⟩,slot_setit_next.lookup,?_⟩;cases hb:byT w with
  | true=>exact hQ _ _ _ s.drawn ((akr _ es).map _) ⟨⟨o,kp _ _ ho,fJ.1,hd⟩,.inl ⟨hb,rfl,0,hg⟩⟩ kp (aq _)
  | false=>
   rw[hb]at hc;exact hQ _ _ _ s.drawn (ip _) ⟨⟨o,kp _ _ ho,fJ.1,hd⟩,.inr<|.inl ⟨hb,by simpa using hc,rfl,0,hg,aja ok.rise⟩⟩ kp<|aq _
end
def aol:typeLookup (.type "set") "__len__" = aT (some<|.builtin "set.__len__"):=by rw[Fa,vA];kernel_rfl
section
variable{prog:aK}{w:aN}{A:Around}{a I S:aE}{es:Array (Int×aA)}{ep:Nat}{t:SetTable}{os:U aA}{R:iF->aB->Prop}
theorem adw(hh:A.in1.handled=none)(ok:TOk t es)(cT:t.led = !byT w)(hos:os.length<=4000)(res:aA)(h0:Heap)(Ee:h0.get? I=none)(hS0:h0.get? S=none) :
  ∀(k i:Nat)(s:aB)(c:Nat),os.length-i=k->i<=os.length->WalkAt w a I es ep t os i s.heap->s.heap.get? S=some {cls:=.type "list",dict:=none,data:=.seq (os.take i).toArray c,slots:=#[]}->(∀b o,h0.get? b=some o->s.heap.get? b=some o)->
  (∀h' c',h'.get? S=some {cls:=.type "list",dict:=none,data:=.seq os.toArray c',slots:=#[]}->(∀b o,h0.get? b=some o->h'.get? b=some o)->R (.ok<|.ret res) {s with heap:=h'})->
  bY (aH prog w) A (.builtin "list.extend.loop" ⟨[.ref S,.ref I,res],[]⟩) R s:=by
 intro k;induction k with
 | zero=>
  intro i s c hk hi hw hS nU hR;have mT:i=os.length:=by lia
  subst mT;rw[i8]at hS;refine dq PySem.F.entry_extend_loop (show _ from ?_);rw[cv PySem.F.plain_extend_loop (_:E8)];show aG _ A.in1 (bB (.ref I) >>= _) _ _ s;have FC:S≠I:=λe=>by
   subst e;rcases hw.2 with ⟨_,_,slot,b3⟩|⟨_,_,_,slot,b4,_⟩|⟨tp,op,c,ord,b1,_⟩
   .rw[hS]at b3;injection b3 with b3;injection b3 with b3;exact absurd b3<|by decide
   .rw[hS]at b4;injection b4 with b4;injection b4 with b4;exact absurd b4<|by decide
   .rw[hS]at b1;injection b1 with b1;injection b1 with b1;exact absurd b1<|by decide
  refine aa<|an5 hh ok cT hw (aq _) λh' hx=>?_;exact ai (hR h' c (hx S _ FC hS) λb o e=>hx b o (λz=>by rw[z,Ee]at e;cases e)<|nU b o e)
 | succ k ih=>
  intro i s c hk hi hw hS nU hR;have cF:i<os.length:=by lia
  refine dq PySem.F.entry_extend_loop (show _ from ?_);rw[cv PySem.F.plain_extend_loop (_:E8)];show aG _ A.in1 (bB (.ref I) >>= _) _ _ s;have FC:S≠I:=λe=>by
   subst e;rcases hw.2 with ⟨_,_,slot,b3⟩|⟨_,_,_,slot,b4,_⟩|⟨tp,op,c,ord,b1,_⟩
   .rw[hS]at b3;injection b3 with b3;injection b3 with b3;exact absurd b3<|by decide
   .rw[hS]at b4;injection b4 with b4;injection b4 with b4;exact absurd b4<|by decide
   .rw[hS]at b1;injection b1 with b1;injection b1 with b1;exact absurd b1<|by decide
  refine aa<|alm ok cT hw (af cF) λh' hw' sb=>?_;have fW:h'.get? S=some {cls:=.type "list",dict:=none,data:=.seq (os.take i).toArray c,slots:=#[]}:=by rw[sb.2 S FC];exact hS
  show aG _ A.in1 (fM S (·.push os[i]) >>= _) _ _ _;refine aa ?_;have vW:(os.take i).toArray.size<=aF:=by rw[bf,cm,jl];lia
  have DR:((os.take i).toArray.push os[i]).size<=aF+1:=by rw[Array.size_push];lia
  refine bK fW rfl (ai ⟨gt PySem.F.plain_extend_loop _,ih (i+1) _ (c+1) (by lia) cF (hw'.keep λb o e hc=>?_) ?_ (λb o e=>?_) λoU c' g kp=>?_⟩) vW DR
  .have:b≠S:=λz=>by
    subst z;rw[fW]at e;cases e;have pT:aA.type "list" = .type "set"\/aA.type "list" = .type "set_iterator"\/aA.type "list" = .type "tuple":=hc;revert pT;decide
   exact(br _ _<|Ne.symm this).trans e
  .have g:=cp (jd (·.push os[i])) fW rfl;have e1:(os.take i).toArray.push os[i]=(os.take<|i+1).toArray:=by rw[List.push_toArray,List.take_append_getElem cF]
   rw[<-e1];exact g.trans<|congrArg some<|Obj.mapSeq_push_plain _ _ _
  .have nb:b≠S:=λz=>by rw[z,hS0]at e;cases e
   refine(br _ _<|Ne.symm nb).trans ?_;rw[sb.2 b (λz=>by rw[z,Ee]at e;cases e)];exact nU b o e
  .exact hR oU c' g kp
theorem aea{o:Obj}{E:aA->aB->Prop}{Q:U aA->aB->Prop}{s:aB}(hh:A.handled=none)(ho:s.heap.get? a=some o)(fJ:o.ExactSet)(hd:o.data=.set es ep t)(ok:TOk t es)(cT:t.led = !byT w)(hsz:es.size<=4000)
  (hQ:∀h' os dr,os.Perm (es.toList.map (·.2))->(∀b o,s.heap.get? b=some o->h'.get? b=some o)->Q os {s with heap:=h',drawn:=dr}):aG (aH prog w) A (kA<|.ref a) Q E s:=by
 unfold kA;refine aa<|gY<|dq PySem.F.entry_proto_collect ?_;rw[cv PySem.F.plain_proto_collect _];show aG _ A.in1 (newList [] >>= λl=>again<|.builtin "list.__iadd__" ⟨[l,.ref a],[]⟩) _ _ s;refine aa<|f7 ?_;refine ai ⟨gt PySem.F.plain_list_iadd _,dq PySem.F.entry_list_iadd ?_⟩;rw[cv PySem.F.plain_list_iadd _];show aG _ A.in1 (Builtin.List.listExtendWith (.ref s.heap.objs.size) (.ref a)<|.ref s.heap.objs.size) _ _ _;have hla:=be ho;unfold Builtin.List.listExtendWith;generalize hH:s.heap.push {cls:=.type "list",data:=.seq ([]:U aA).toArray}=H;have hHs:H.objs.size=s.heap.objs.size+1:=by rw[<-hH,jx]
 have kp:∀b ob,s.heap.get? b=some ob->H.get? b=some ob:=λb ob e=>hH▸ah _ e;have hHS:H.get? s.heap.objs.size=some {cls:=.type "list",data:=.seq ([]:U aA).toArray}:=hH▸a6 _ rfl;have hT:∀(s':aB),s'.heap.get? a=some o->s'.TypeIs (.ref a) "set":=λs' e=>⟨o,e,fJ.1⟩;refine aa<|sR (T:="set") (hT _<|kp _ _ ho) ?_;have h1:Builtin.List.listSameRef (.ref s.heap.objs.size) (.ref a)=false:=by show(s.heap.objs.size==a)=false;exact beq_false_of_ne<|Nat.ne_of_gt hla
 have h2:(aA.type "set" == aA.type "list")=false:=by decide
 have h3:(aA.type "set" == aA.type "tuple")=false:=by decide
 simp only[h1,h2,h3,Bool.or_false,a0,if_false];refine aa<|aim (kp _ _ ho) fJ hd ok cT hsz λh1 I os dr hp hw k1 hI=>?_;refine aa<|db ?_;unfold Builtin.List.listLengthHint;have Ai:h1.get? a=some o:=k1 _ _<|kp _ _ ho;refine aa (cY (T:="set") (v:=.ref a) (hT _ Ai) aol ?_)
 wp_delta
 refine aa<|dN (T:="set") (v:=.ref a) (b:=true) (hT _ Ai) (by rw[isSubtype_type];kernel_rfl) ?_;show aG _ A.in1 (typeOf (aA.ref a) >>= _) _ _ _;refine aa<|sR (T:="set") (v:=.ref a) (hT _ Ai) ?_;refine ai ?_;rw[if_pos (by decide)];show aG _ A.in1 (vP "list.extend.makes-room" >>= λ_=>Builtin.List.listTouch (.ref s.heap.objs.size) >>= λ_=>
  again (.builtin "list.extend.loop" ⟨[.ref s.heap.objs.size,.ref I,.ref s.heap.objs.size],[]⟩)) _ _ _
 refine aa<|cJ ?_;refine aa ?_;show aG _ A.in1 (fM s.heap.objs.size (·.push .none) >>= λ_=>fM s.heap.objs.size (·.pop)) _ _ _;have hS:h1.get? s.heap.objs.size=some {cls:=.type "list",data:=.seq ([]:U aA).toArray}:=k1 _ _ hHS;refine aa<|bK hS rfl ?_;have hS₂:=cp (jd (·.push aA.none)) hS rfl;refine bK (hz:=by seq_fits) hS₂ rfl ?_;have hS₃:=cp (jd (·.pop)) hS₂ rfl;have oth:∀b ob,b≠s.heap.objs.size->h1.get? b=some ob->((h1.update s.heap.objs.size<|jd (·.push aA.none)).update s.heap.objs.size (jd (·.pop))).get? b=some ob:=
  λb ob hb e=>(br _ _<|Ne.symm hb).trans ((br _ _<|Ne.symm hb).trans e)
 have Ee:s.heap.get? I=none:=by
  cases q:s.heap.get? I with
  | none=>rfl
  | some ob=>
   have hI':H.objs.size<=I:=hI;exact absurd (be q)<|Nat.not_lt.mpr<|fg (by rw[hHs];exact Nat.le_succ _) hI'
 have hS0:s.heap.get? s.heap.objs.size=none:=by
  cases q:s.heap.get? s.heap.objs.size with
  | none=>rfl
  | some ob=>exact absurd (be q)<|iq _
 refine ai ⟨gt PySem.F.plain_extend_loop _,adw hh ok cT (by rw[hp.length_eq,ae,aw];exact hsz) _ s.heap Ee hS0 os.length 0 _ _ rfl (c8 _) (hw.keep λb ob e hc=>oth b ob (λz=>?_) e) hS₃ (λb ob e=>oth b ob (λz=>?_)<|k1 _ _<|kp _ _ e) λh2 c2 g2 k2=>?_⟩
 .subst z;rw[hS]at e;cases e;have pT:aA.type "list" = .type "set"\/aA.type "list" = .type "set_iterator"\/aA.type "list" = .type "tuple":=hc;revert pT;decide
 .subst z;rw[hS0]at e;cases e
 .show aG _ A (load s.heap.objs.size >>= _) _ _ _;refine aa<|wpAny_load g2 ?_;refine ai ?_;exact hQ h2 os dr hp k2
end
end L3
namespace L3
open PySem PySem.Spec PyProof.Rows L2
def RL(R:aA->Z9->Prop):U aA->U Z9->Prop
 | [],[]=>True
 | v::vs,d::ds=>R v d/\RL R vs ds
 | _,_=>False
theorem RL.perm{R:aA->Z9->Prop}{os vs:U aA}(p:os.Perm vs):∀{ds:U Z9},RL R vs ds->∃bW,bW.Perm ds/\RL R os bW:=by
 induction p with
 | nil=>intro ds h;exact⟨ds,.refl _,h⟩
 | cons x p ih=>
  intro ds h;cases ds with
  | nil=>exact h.elim
  | cons d ds=>
   obtain⟨bW,p',h'⟩:=ih h.2;exact⟨d::bW,p'.cons d,h.1,h'⟩
 | swap x y l=>
  intro ds h
  match ds,h with
  | d1::d2::ds,h=>exact⟨d2::d1::ds,.swap _ _ _,h.2.1,h.1,h.2.2⟩
 | trans p1 p2 ih1 ih2=>
  intro ds h;obtain⟨d1,q1,h1⟩:=ih2 h;obtain⟨d2,q2,h2⟩:=ih1 h1;exact⟨d2,q2.trans q1,h2⟩
theorem RL.length{R:aA->Z9->Prop}:∀{vs:U aA} {ds:U Z9},RL R vs ds->vs.length=ds.length
 | [],[],_=>rfl
 | v::vs,d::ds,h=>by rw[bj,bj,RL.length h.2]
 | [],_::_,h=>h.elim
 | _::_,[],h=>h.elim
theorem RL.at{R:aA->Z9->Prop}:∀{vs:U aA} {ds:U Z9} {i:Nat} {v:aA} {d:Z9},RL R vs ds->vs[i]?=some v->ds[i]?=some d->R v d
 | v::vs,d::ds,0,_,_,h,h1,h2=>by cases h1;cases h2;exact h.1
 | v::vs,d::ds,i+1,_,_,h,h1,h2=>RL.at h.2 (by simpa using h1) (by simpa using h2)
 | [],_,_,_,_,_,h1,_=>by simp at h1
 | _::_,[],_,_,_,h,_,_=>h.elim
theorem RL.els{Pv:aA->Z9->Prop}{w:aN}{h:Heap}:∀{es:U (Int×aA)} {ds:U Z9},Els Pv w h es ds->RL (λv d=>∃k,El Pv w h (k,v) d) (es.map (·.2)) ds
 | [],ds,x=>by rw[amw x];exact True.intro
 | e::es,ds,x=>by obtain⟨d,bD,rfl,h1,h2⟩:=x9 x;exact⟨⟨e.1,h1⟩,RL.els h2⟩
section
variable{X:Cx}{x:Str}{pos:eB}
def aow{a:aE}(h:X.mg x=some (.ref a))(hg:Gl X x)(hd:(x==("__debug__" : Str))=false:=by decide):PE X (.Name x pos) (tC<|.ref a):=JC hg h rfl hd
end
section
variable{X:Cx}
def aux:V->U V->Hp->VK->Prop:=λx vs H Q=>∃(z:Str)(l:aE)(ys:U Str),x=.str z/\vs=[.ref l]/\H l=some (.tup<|ys.map V.str)/\(ys.map (·.length)).sum+ys.length*z.length<=1000000/\Q (.str<|Txt.join z ys) H
def ag3:MtR X "str.join" aux:=by intro aC s σ H x vs v us Q I rx rv h;obtain⟨z,l,ys,rfl,rfl,hl,hz,q⟩:=h;obtain⟨t,rfl⟩:=rx;obtain⟨u,rfl,r1⟩:=qw rv;cases (show u=aA.ref l from r1);obtain⟨its,r,pl,_⟩:=I.tuple<|SqT.of (K:=X.K) hl;exact join_tuple pl (by simpa using Ju r) (by lia) λt' k=>(lc (.str _) H ⟨I.tok _,⟨_,rfl⟩,q⟩)
def ayv(prog:aK)(w:aN)(K:av):R2:=λx y H Q=>∃(p:aE)(k:Str)(o:Obj) (aR:U (Str×aA)),y=.ref p/\x=.str k/\K.lookup p=some o/\o.IsDictOf (strKind prog w) aR/\(p==bE)=false/\Q (.bl (fY aR k).isSome) H
def av5:OpR X (aY .In) (ayv X.prog X.w X.K):=by intro aC s σ H x y v u Q I rx ry h;obtain⟨p,k,o,aR,rfl,rfl,hk,hd,hp,q⟩:=h;obtain⟨t',rfl⟩:=rx;cases ry;have hm:s.heap.DictOf (strKind X.prog X.w) p aR:=Heap.dictOf_iff.mpr ⟨o,I.kIn p o hk,hd⟩;exact wpAny_in_of (dA _ _ k t') hp hm.mapOf<|lc (.bl _) H ⟨I.tok _,rfl,q⟩
end
def AD(ks:U Bool)(ds:U Z9):Prop:=∀d∈ds,∃r,d=.tuple r/\Row (false::ks) r
def ad7{ks:U Bool}{ds:U Z9}(h:AD ks ds):zD ltR ds:=by
 have jR:∀d∈ds,Row (false::ks) (uq d):=λd hd=>by obtain⟨r,e,hr⟩:=h d hd;rw[e];exact hr
 exact⟨λx hx y hy q=>CU (jR x hx) (jR y hy) q,λx hx y hy z hz q1 q2=>CI (jR x hx) (jR y hy) (jR z hz) q1 q2⟩
theorem Jt{h:Heap}{ks:U Bool}{d:Z9}{u:aA}{bs:U aE}(z:Reads h u d bs){row:U Z9}(e:d=.tuple row)(hr:Row (false::ks) row) :
  ∃a o vs n as i t,u=.ref a/\h.get? a=some o/\o.cls=.type "tuple"/\o.data=.seq vs n/\ReadsAll h vs.toList row as/\vs[0]?=some (.str i t):=by
 subst e;cases z with
 | @tuple a o vs n _ _ e1 e2 e3 z=>
  obtain⟨i,rr,rfl,_⟩:=hr;have z':=z;generalize hv:vs.toList=vl at z;cases z with
  | cons ra rb=>
   cases ra with
   | str _ t=>
    refine(lr a o vs n _<|lc i t ⟨rfl,e1,e2,e3,z',?_⟩);rw[<-bh,hv];rfl
theorem ad5{h:Heap}{ks:U Bool}:∀{ds:U Z9} {us:U aA},us.length=ds.length->(∀(i:Nat) u d,us[i]?=some u->ds[i]?=some d->∃as,Reads h u d as)->AD ks ds->∃fs:U aA,PySem.W.KatTups h us fs/\fs.length=ds.length/\∀v∈fs,∃i t,v=aA.str i t
 | [],[],_,_,_=>⟨[],trivial,rfl,λv hv=>by cases hv⟩
 | [],u::us,hl,_,_=>by cases hl
 | d::ds,[],hl,_,_=>by cases hl
 | d::ds,u::us,hl,r,hr=>by
  obtain⟨row,e,oJ⟩:=hr d am;obtain⟨bs,z⟩:=r 0 u d rfl rfl;obtain⟨a,o,vs,n,as,i,tk,rfl,e1,e2,e3,_,e4⟩:=Jt z e oJ;obtain⟨fs,k1,k2,k3⟩:=ad5 (ds:=ds) (us:=us) (by simpa using hl) (λi u d h1 h2=>r (i+1) u d (by simpa using h1)<|by simpa using h2) λd hd=>hr d<|ao _ hd;refine⟨.str i tk::fs,PySem.W.KatTups.cons e1 e2 e3 e4 k1,by rw[bj,bj,k2],λv hv=>?_⟩;rcases ar.mp hv with rfl|hv
  .exact(lc i tk rfl)
  .exact k3 v hv
section
variable{prog:aK}{w:aN}{A:Around}{s:aB}{E:aA->aB->Prop}
def ax4{ks:U Bool}{d e:Z9}{u v:aA}{as bs:U aE}(r1:Reads s.heap u d as)(r2:Reads s.heap v e bs)(hd:∃r,d=.tuple r/\Row (false::ks) r)(he:∃r,e=.tuple r/\Row (false::ks) r){Q:Bool->aB->Prop}(hq:Q (ltR d e) s) :
  aG (aH prog w) A (nP (mK true) u v) Q (λ_ _=>False) s:=by
 obtain⟨row,rfl,hr⟩:=hd;obtain⟨AY,rfl,Bx⟩:=he;obtain⟨a,o,vs,n,as1,_,_,rfl,e4,_,e5,e6,_⟩:=Jt r1 rfl hr;obtain⟨a',o',DA,n',as2,_,_,rfl,f4,_,f5,f6,_⟩:=Jt r2 rfl Bx;have z1:vs.size=ks.length+1:=by have q1:=SeqAt.ReadsAll.length _ _ _ e6;have q2:=hr.len;simp at q1 q2;lia
 have z2:DA.size=ks.length+1:=by have q1:=SeqAt.ReadsAll.length _ _ _ f6;have q2:=Bx.len;simp at q1 q2;lia
 refine PySem.W.kat_lt e4 e5 f4 f5 ?_;rw[decide_eq_false (by lia)];exact E4 hr Bx e6 f6 hq
def aue{ks:U Bool}{ds:U Z9}{us:U aA}(hl:us.length=ds.length)(h2:2<=us.length)(r:∀(i:Nat) u d,us[i]?=some u->ds[i]?=some d->∃as,Reads s.heap u d as)(hr:AD ks ds){Q:aU->aB->Prop}(hq:Q (mK true) s) :
  aG (aH prog w) A (jT us.toArray) Q E s:=by
 obtain⟨fs,kt,kf,ki⟩:=ad5 hl r hr;refine PySem.W.kat_kind (T:=aA.type "str") kt (by lia) (λv hv=>?_) rfl hq;obtain⟨i,t,rfl⟩:=ki v hv;exact PySem.W.Looks.of_pure rfl
end
section
variable{X:Cx}
def ae0:qv X (.builtin "sorted") (λvs H Q=>∃p xs ds ks,vs=[.ref p]/\H p=some (.lst xs)/\RepAll H ds xs/\AD ks ds/\
  ∀l ys es,H l=none->es.Perm ds->es.Pairwise (λx y=>ltR y x=false)->RepAll (upd H l<|.lst ys) es ys->Q (.ref l) (upd H l<|.lst ys)):=by
 intro aC s σ H xs us Q I r h;obtain⟨p,xs,ds,ks,rfl,hp,eM,eE,q⟩:=h;obtain⟨u,rfl,r1⟩:=qw r;cases (show u=aA.ref p from r1);obtain⟨its,rv,pl,hz⟩:=I.list<|SqL.of (K:=X.K) hp;have l1:xs.length=ds.length:=eM.length;have l2:xs.length=its.length:=rv.length;obtain⟨as,tW⟩:=RepAll.reads I eM rv;refine acd (κ:=mK true) (lt:=ltR) I eM rv (by lia) (alu pl.isList<|by lia) (ad7 eE) (λh2 s' k Q' E' hq=>?_) (λs' k i j d e u v ui di vj dj Q' hq=>?_) q
 .refine aue (by lia) h2 (λi u d h1 h2=>?_) eE hq;obtain⟨bs,rd⟩:=ve tW h1 h2;exact⟨bs,Reads.keeps k rd⟩
 .obtain⟨bs,rd⟩:=ve tW ui di;obtain⟨bs',Fv⟩:=ve tW vj dj;exact ax4 (Reads.keeps k rd) (Reads.keeps k Fv) (eE d<|aj di) (eE e<|aj dj) hq
end
structure SortsAs(prog:aK)(w:aN)(A:Around)(κ:aU)(lt:Z9->Z9->Bool)(ds:U Z9):Prop where
 ord:zD lt ds
 kind:∀(s:aB)(os:U aA)(bW:U Z9),(∀d∈bW,d∈ds)->os.length=bW.length->2<=os.length->(∀(i:Nat)(v:aA)(d:Z9),os[i]?=some v->bW[i]?=some d->∃as,Reads s.heap v d as)->
  ∀(Q:aU->aB->Prop)(E:aA->aB->Prop),Q κ s->aG (aH prog w) A (jT os.toArray) Q E s
 key:∀(s:aB)(u v:aA)(d e:Z9)(as bs:U aE),d∈ds->e∈ds->Reads s.heap u d as->Reads s.heap v e bs->d.canLay0=true->e.canLay0=true->∀(Q:Bool->aB->Prop),Q (lt d e) s->aG (aH prog w) A (nP κ u v) Q (λ_ _=>False) s
def ak8{prog:aK}{w:aN}{A:Around}{ks:U Bool}{ds:U Z9}(h:AD ks ds):SortsAs prog w A (mK true) ltR ds:=
 ⟨ad7 h,λs os bW hs hl h2 r Q E q=>aue hl h2 r (λd hd=>h d<|hs d hd) q,λs u v d e as bs hd he r1 r2 _ _ Q q=>ax4 r1 r2 (h d hd) (h e he) q⟩
section
variable{X:Cx}{aC:U (aE×Obj)}{σ:L2.St}{H:Hp}{s:aB}
def aa4(I:Inv X aC σ H s){Pv:aA->Z9->Prop}(hPv:∀v d,Pv v d->∃x,RelV x v/\Rep H d x){a:aE}{ds:U Z9}(hc:X.calm=true)(hS:SetD Pv X.w s.heap a ds)(aX:ds.length<=4000){κ:aU}{lt:Z9->Z9->Bool}(sa:SortsAs X.prog X.w X.A.in1.in1 κ lt ds){Q:VK}
  (q:∀(es:U Z9)(l:aE)(ys:U V),es.Perm ds->es.Pairwise (λx y=>lt y x=false)->H l=none->RepAll (upd H l<|.lst ys) es ys->Q (.ref l) (upd H l<|.lst ys)) :
  aG (aH X.prog X.w) X.A (call (.builtin "sorted") [.ref a]) (EP X aC σ Q) X.xe s:=by
 obtain⟨o,es,ep,tb,ho,fJ,kR,ok,few,els,nd,cT⟩:=hS;have hsz:es.size=ds.length:=by have:=els.1;rw[aw]at this;exact this
 refine aer (κ:=κ) (P:=λos bW=>os.Perm (es.toList.map (·.2))/\bW.Perm ds/\RL (λx d=>∃k,El Pv X.w s.heap (k,x) d) os bW) I ?_ (λQ' E' hq=>?_) sa.ord ?_ ?_ λl ys es h1 h2 h3 h4=>q es l ys h2 h3 h1 h4
 .rintro os bW ⟨_,pd,rl⟩;have:=pd.length_eq;have lO:=rl.length;refine⟨by rw[jl];lia,lO,pd,λi v d h1 h2=>?_⟩;obtain⟨k,el⟩:=rl.at h1 h2;exact hPv _ _ el.own
 .refine aea (A:=X.A.in1) (I.ok.hd hc) ho fJ kR ok cT (by lia) λh1 os dr iV k1=>?_;obtain⟨bW,pd,rl⟩:=RL.perm iV<|RL.els els;exact hq os bW h1 s.toks dr ⟨iV,pd,rl⟩ k1
 .rintro os bW ⟨_,pd,rl⟩ h2 s' kp Q' E' hq;refine sa.kind s' os bW (λd hd=>pd.mem_iff.mp hd) rl.length h2 (λi v d h1 h2=>?_) Q' E' hq;obtain⟨k,el⟩:=rl.at h1 h2;obtain⟨bs,rd⟩:=el.reads;exact⟨bs,Reads.keeps kp rd⟩
 .rintro os bW ⟨_,pd,rl⟩ s' kp i j d e u v hi di hj dj Q' hq;obtain⟨k,el⟩:=rl.at hi di;obtain⟨k',el'⟩:=rl.at hj dj;obtain⟨bs,rd⟩:=el.reads;obtain⟨bs',Fv⟩:=el'.reads;exact sa.key s' u v d e bs bs' (pd.mem_iff.mp<|aj di) (pd.mem_iff.mp<|aj dj) (Reads.keeps kp rd) (Reads.keeps kp Fv) el.lay el'.lay Q' hq
end
section
variable{X:Cx}
def ay2:R2:=λx y H Q=>∃(p q:aE)(xs:U V),x=.ref p/\y=.ref q/\H p=some (.lst xs)/\H q=some (.lst [])/\Q (.bl<|!xs.isEmpty) H
theorem aus(hu:X.A.units+64<bV):OpR X (aY .NotEq) ay2:=by
 intro aC s σ H x y v u Q I rx ry h;obtain⟨p,q',xs,rfl,rfl,hp,hq,q⟩:=h;cases rx;cases ry;obtain⟨its,r1,l1,_⟩:=I.list<|SqL.of (K:=X.K) hp;obtain⟨uG,r2,l2,_⟩:=I.list<|SqL.of (K:=X.K) hq;have e2:uG=[]:=fj.mp r2.length.symm;subst e2;have hl:=r1.length;cases xs with
 | nil=>
  have e1:its=[]:=fj.mp r1.length.symm;subst e1;exact SeqAt.RcNeAt.lists (e:=λ_=>true) l1.isList l2.isList rfl (by lia) (λj h1 h2=>absurd h1<|by simp) X.prog X.w X.xe _ (lc (.bl _) H ⟨I,rfl,q⟩)
 | cons x t=>
  refine SeqAt.RcNeAt.lists_lengths l1.isList l2.isList ?_ (by lia) X.prog X.w X.xe _<|lc (.bl _) H ⟨I,rfl,q⟩;rw[bf,<-hl];simp
end
def HN(K:av)(tl:TE):TI:=λσ H R=>tl σ H λx H1=>∃a,x=.ref a/\(((∃xs,SqL K H1 a xs)/\R (Itl K a) H1)\/((∃xs,SqT K H1 a xs)/\R (Itt K a) H1))
section
variable{X:Cx}{tg:Expr}
def yb{l:Expr}{tl:TE}(hl:PE X l tl):PI X tg l (HN X.K tl):=by
 intro aC s σ H R I h;refine thn (hl aC s σ H _ I h) λv s1 ⟨x,H1,I1,r1,q1⟩=>?_;obtain⟨a,e,⟨⟨xs,hq⟩,q⟩|⟨⟨xs,hq⟩,q⟩⟩:=q1
 .subst e;cases r1;obtain⟨its,rv,p,hz⟩:=I1.list hq;refine jn p.isList ?_;refine(lr s1.heap.objs.size ([s1.heap.objs.size]) _ _ H1 ⟨rfl,I1.kept (t':=s1.toks) λb o e=>ah _ e,ad8 a _,⟨_,a6 _ rfl,rfl,rfl⟩,λb hb=>?_,q⟩);have e:b=s1.heap.objs.size:=by simpa using hb
  subst e;exact I1.fpOk (aq _)<|I1.hok.fresh<|aq _
 .subst e;cases r1;obtain⟨its,rv,p,hz⟩:=I1.tuple hq;refine eP (show s1.heap.IsTuple a its.toArray from p) ?_;refine(lr s1.heap.objs.size ([s1.heap.objs.size]) _ _ H1 ⟨rfl,I1.kept (t':=s1.toks) λb o e=>ah _ e,acb a _,⟨_,a6 _ rfl,rfl,rfl⟩,λb hb=>?_,q⟩);have e:b=s1.heap.objs.size:=by simpa using hb
  subst e;exact I1.fpOk (aq _)<|I1.hok.fresh<|aq _
end
section
variable{K:av}{a:aE}{xs:U V}{ds:U Z9}{σ:L2.St}{H:Hp}{Q:VK}{sl:U (Option Nat)}{g:TG}{tt:L2.TT}{te:TE}
def aib(ha:H a=some (.lst xs)\/H a=some (.tup xs))(Pv:aE->Nat->U V->Hp->Prop)(h0:∀D,H D=none->Pv D 0 [] (upd H D<|.lst []))(hk:∀D i ys G,Pv D i ys G->Same H G)
  (hs:∀D i x ys G,H D=none->xs[i]?=some x->i<xs.length->G D=some (.lst ys)->ys.length<=i->Pv D i ys G->g x (se sl σ) G λσ2 H2=>Agree (se sl σ) σ2/\tt σ2 H2 λb H3=>
   if b=true then te σ2 H3 λy H4=>∃xs,H4 D=some (.lst xs)/\xs.length<aF/\Nx D i (Pv D) (upd H4 D<|.lst<|xs++[y])else Nx D i (Pv D) H3)
  (hd:∀D ys G,H D=none->G D=some (.lst ys)->ys.length<=xs.length->Pv D xs.length ys G->Q (.ref D) G) :
  ((∃xs,SqL K H a xs)/\∀D,H D=none->tO (Itl K a) sl g tt te σ H D Q)\/((∃xs,SqT K H a xs)/\∀D,H D=none->tO (Itt K a) sl g tt te σ H D Q):=by
 rcases ha with ha|ha
 .exact .inl ⟨⟨_,SqL.of ha⟩,λD hD=>nz (xs:=xs) (Pv D) (h0 D hD) (λi ys G p=>SqL.of<|hk D i ys G p _ _ ha) (λi x ys G=>hs D i x ys G hD) λys G=>hd D ys G hD⟩
 .exact .inr ⟨⟨_,SqT.of ha⟩,λD hD=>qo (xs:=xs) (Pv D) (h0 D hD) (λi ys G p=>SqT.of<|hk D i ys G p _ _ ha) (λi x ys G=>hs D i x ys G hD) λys G=>hd D ys G hD⟩
def aji{i0:Nat}{bA:L2.St}(f:Z9->Z9)(hσ:σ[i0]?=some (some<|.ref a))(hp:se sl σ=none::none::none::bA)(ha:H a=some (.lst xs)\/H a=some (.tup xs))(hr:RepAll H ds xs)(hs:Spots ds)(hl:ds.length<=64)
  (Bw:∀(r c:Int)(z:Str)(H':Hp)(Q':VK),(∃u v:Int,f (.tuple [.int r,.int c,.str z])=.tuple [.int u,.int v,.str z]/\∀n,H' n=none->Q' (.ref n) (upd H' n<|.tup [.int u,.int v,.str z]))->
   te (some (.int r)::some (.int c)::some (.str z)::bA) H' Q')
  (gQ:∀(r c:Int)(z:Str),∃u v:Int,f (.tuple [.int r,.int c,.str z])=.tuple [.int u,.int v,.str z])
  (q:∀D ys H',H D=none->Same H H'->H' D=some (.lst ys)->RepAll H' (ds.map f) ys->Q (.ref D) H') :
  xB (HN K<|jB i0) sl (Aw K 3<|ym (ub 0)<|ym (ub 1)<|ym (ub 2) CB) uw te σ H Q:=by
 have aX:=hr.length;have im:∀es:U Z9,(∀d∈es,d∈ds)->Spots (es.map f):=λes he d hd=>by obtain⟨d0,h0,rfl⟩:=a7.mp hd;obtain⟨r0,c0,x0,rfl⟩:=hs d0<|he d0 h0;obtain⟨u,v,e⟩:=gQ r0 c0 x0;exact(mf u v x0 e)
 refine(mm _ hσ a ⟨rfl,aib ha (λD i ys H'=>Same H H'/\RepAll H' ((ds.take i).map f) ys) (λD hD=>⟨Same.fresh _ hD,rfl⟩) (λD i ys H' p=>p.1) (λD i x ys H' hD hx hi aV bG p=>?_) λD ys H' hD aV bG p=>?_⟩)
 .obtain⟨p1,p2⟩:=p;obtain⟨b,r,c,z,rfl,hb,hz,hd⟩:=hs.at hr hx;rw[hp];refine(nj b _ rfl (SqT.of<|p1 _ _ hb) rfl _ _ rfl _<|nk _ rfl _ _ ⟨rfl,rfl,?_⟩);refine⟨Agree.set (Agree.set (Agree.set (Agree.refl _) rfl) rfl) rfl,?_⟩;dsimp only[uw];refine oo ?_;obtain⟨u,v,ef⟩:=gQ r c z;refine Bw r c z H' _<|lc u v ⟨ef,λn hn=>?_⟩;have s2:Same H' (upd H' n<|.tup [.int u,.int v,.str z]):=Same.fresh _ hn;have n2:upd H' n (.tup [.int u,.int v,.str z]) n=some (.tup [.int u,.int v,.str z]):=kr;generalize upd H' n (.tup [.int u,.int v,.str z])=H2 at *;have dH:=s2 _ _ aV;refine ny (by lia) dH bG ⟨(p1.trans s2).new hD,?_⟩;have dB:RepAll H2 ((ds.take i).map f++[f (.tuple [.int r,.int c,.str z])]) (ys++[.ref n]):=by
   rw[ef];exact(p2.same s2).snoc (wa n2 hz)
  rw[<-k8 f hd]at dB;exact dB.tk (Tk.lst dH)<|Spots.imm<|im _ λd mV=>dn mV
 .obtain⟨p1,p2⟩:=p;rw[au (by lia)]at p2;exact q D ys H' hD p1 aV p2
end
section
variable{Pv:aA->Z9->Prop}{prog:aK}{w:aN}{A:Around}{E:aA->aB->Prop}{s:aB}
theorem ale{l:aE}{items:Array aA}{ds:U Z9}{Q:aA->aB->Prop}
  (hh:A.handled=none) (hl:s.heap.IsTuple l items) (hi:items.size=ds.length) (hE:∀(i:Nat) v d,items[i]?=some v->ds[i]?=some d->El Pv w s.heap (sN w d,v) d) (hb:ds.length<2000) (hu:A.units+20<bV)
  (h:∀(h':Heap)(tk:Nat)(bD:U Z9),SetD Pv w h' s.heap.objs.size bD->(∀d,d∈bD↔d∈ds)->bD.length<=ds.length->Keep s.heap h'->s.toks<=tk->Q (.ref s.heap.objs.size) {s with heap:=h',toks:=tk}) :
  aG (aH prog w) A (call (.type "set") [.ref l]) Q E s:=by
 obtain⟨c,tl,BH⟩:=bp.mro;have wD:=bp.made;have xR:=bp.sub;refine fX<|gM (show _ from ?_);show aG _ _ (callAny (.type "set") _) _ _ s;refine ai ⟨Code.quiet_builtin _<|by decide +kernel,dq F.entry_type_call (show _ from ?_)⟩;rw[Around.under_plain (gN "set" [.ref l] []) (rfl:_=_)];have h1:=bp.notType;have h2:=bp.canCreate;have hct:=PySem.F.typeCall_set_1 (.ref l)
 repeat (any_goals (first|assumption|(wp_step)))
 refine j8 (vh (.ref l) (E:=E) (Q₁:=λobj s₁=>∃led:Bool,led=(!byT w)/\obj=.ref s.heap.objs.size/\s₁={s with heap:=s.heap.push {cls:=.type "set",dict:=none,data:=.set #[] 0 (.fresh 0 0 led)}}) ⟨_,rfl,rfl,rfl⟩) λr s₁ hr=>?_
 match r,hr with
 | .error e,hr=>exact hr
 | .ok (.ret obj),hr=>
   obtain⟨led,cT,rfl,rfl⟩:=hr;obtain⟨jZ,fE⟩:∃ob:Obj,ob={cls:=.type "set",dict:=none,data:=.set #[] 0 (.fresh 0 0 led)}:=⟨_,rfl⟩;have hS:(s.heap.push jZ).get? s.heap.objs.size=some jZ:=a6 _ (by rw[fE];rfl);have hT:aB.TypeIs {s with heap:=s.heap.push jZ} (.ref s.heap.objs.size) "set":=⟨_,hS,by rw[fE]⟩;have B8:SetD Pv w (s.heap.push jZ) s.heap.objs.size []:=by rw[fE];exact SetD.fresh cT
   rw[<-fE];have hli:=bp.init.lookup;have wL:=bp.init.bind (.ref s.heap.objs.size)
   repeat (any_goals (first|assumption|(wp_step)))
   refine j8 (cL (R:=wants (λr s₂=>r=.none/\∃h' tk bD,s₂={s with heap:=h',toks:=tk}/\SetD Pv w h' s.heap.objs.size bD/\(∀d,d∈bD↔d∈ds)/\bD.length<=ds.length/\Keep s.heap h'/\s.toks<=tk) E) bp.init.plain F.entry_set_init<|lz hT ?_) λr₂ s₂ fD=>?_
   .obtain⟨ol,lO,lS,nl,wJ⟩:=hl;obtain⟨A1,lG,vS,iT⟩:=ol;simp only at lS wJ;subst lS;subst wJ;have qS:(s.heap.push jZ).get? l=some {cls:=.type "tuple",dict:=lG,data:=.seq items nl,slots:=iT}:=ah _ lO;have Bq:=PySem.F.sub_tuple_set;have Br:=PySem.F.sub_tuple_frozenset;have eG:(aA.type "tuple" == aA.type "dict")=false:=by decide
    have mE:(s.heap.push jZ).IsTuple l items:=⟨_,qS,rfl,nl,rfl⟩;unfold Builtin.«set.__init__» Af Builtin.Frozenset.updateFrom;generalize Ca:hJ=PI;subst fE
    wp_walk
    subst Ca;refine eP mE ?_;refine aa<|gY ?_;have dU:∀b,s.heap.objs.size<=b->s.heap.get? b=none:=λb fL=>by
     cases hq:s.heap.get? b with
     | none=>rfl
     | some ob=>exact absurd (be hq)<|Nat.not_lt.mpr fL
    have wH:l<s.heap.objs.size:=be lO;have BR:A.in1.in1.in1.handled=none:=by simp[hh]
    have rO:(s.heap.push {cls:=.type "set",dict:=none,data:=.set #[] 0 (.fresh 0 0 led)}).objs.size=s.heap.objs.size+1:=jx _ _;have qU:l≠(s.heap.push {cls:=.type "set",dict:=none,data:=.set #[] 0 (.fresh 0 0 led)}).objs.size:=by rw[rO];exact cj<|Nat.lt_succ_of_lt wH
    have gL:s.heap.objs.size∉[(s.heap.push {cls:=.type "set",dict:=none,data:=.set #[] 0 (.fresh 0 0 led)}).objs.size,l]:=by rw[rO];simp only[ar,dz,or_false,not_or];exact⟨cj<|jv _,Nat.ne_of_gt wH⟩
    have kJ:∀(i:Nat)(v:aA),items[i]?=some v->El Pv w s.heap (sN w<|ds.getD i .none,v) (ds.getD i .none):=λi v hv=>by
     have cF:=(bg.mp hv).1;have hd:ds[i]?=some (ds.getD i .none):=by rw[cw,af<|by omega];rfl
     exact hE i v _ hv hd
    refine zf (A:=A.in1.in1) ((fF.tuple BR _ l qU items).toS) s.heap.objs.size gL s.heap (λb fL=>dU b<|by rw[ay.mp fL,rO];exact Nat.le_succ _) (dU _<|aq _) (λi s' bS b fL ob e=>?hwt)
     (λi=>ds.getD i .none) kJ (by show A.units+1+1+9<bV;omega) (by omega) (items.size-0) 0 _ [] (by omega) (c8 _)
     ⟨⟨_,a6 _ rfl,rfl,rfl⟩,(mE.push _)⟩ ?hK0 ?hS0 (λd=>by simp) (by simp) ?hR
    case hwt=>
     obtain⟨⟨oi,ho,hc,_⟩,_⟩:=bS;rw[ay.mp fL,ho]at e;cases e;rw[hc];decide
    case hK0=>exact λb o e=>ah _<|ah _ e
    case hS0=>exact B8.moved (λo e=>ah _ e) λb o e _=>ah _ e
    case hR=>
     intro s' bD hm k' S' m' l';obtain⟨h',g',d',vK,qJ⟩:=s';have eg:g'=s.gens:=hm.gens;have ed:d'=s.drawn:=hm.drawn;have eo:qJ=s.os:=hm.os;subst eg;subst ed;subst eo;show aG _ _ _ _ _ _;refine ai ?_;show aG _ _ (ret aA.none) _ _ _;refine ai ⟨rfl,h',vK,bD,rfl,S',λd=>?_,by omega,k',hm.toks⟩;rw[m' d];constructor
     .rintro⟨j,hj,rfl⟩;rw[cw,af<|by omega];exact fk _
     .intro hd;obtain⟨j,hj⟩:=gp hd;have BO:=(ap.mp hj).1;exact⟨j,by omega,by rw[cw,hj];rfl⟩
   .match r₂,fD with
    | .error e,fD=>exact fD
    | .ok (.ret r),fD=>
      obtain⟨rfl,h',tk,bD,rfl,fW,jD,tF,dW,Bl⟩:=fD
      repeat (any_goals (first|assumption|(wp_step)))
      exact h _ _ bD fW jD tF dW Bl
    | .ok .next,fD=>exact fD.elim
    | .ok .brk,fD=>exact fD.elim
    | .ok .cont,fD=>exact fD.elim
 | .ok .next,hr=>exact hr.elim
 | .ok .brk,hr=>exact hr.elim
 | .ok .cont,hr=>exact hr.elim
end
def al4(prog:aK)(w:aN)(A:Around)(κ:aU)(lt:Z9->Z9->Bool):U V->Hp->VK->Prop:=λvs H Q=>∃(p:aE)(xs:U V)(ds:U Z9),vs=[.ref p]/\(H p=some (.lst xs)\/H p=some (.tup xs))/\RepAll H ds xs/\(∀d∈ds,Ew d)/\SortsAs prog w A κ lt ds/\ds.length<2000/\
 ∀(es:U Z9)(l:aE)(ys:U V),es.Nodup->(∀d,d∈es↔d∈ds)->es.Pairwise (λx y=>lt y x=false)->H l=none->RepAll (upd H l<|.lst ys) es ys->Q (.ref l) (upd H l<|.lst ys)
def SortsAs.sub{prog:aK}{w:aN}{A:Around}{κ:aU}{lt:Z9->Z9->Bool}{ds es:U Z9}(h:SortsAs prog w A κ lt ds)(hs:∀d∈es,d∈ds):SortsAs prog w A κ lt es:=
 ⟨⟨λx hx y hy=>h.ord.asy x (hs x hx) y<|hs y hy,λx hx y hy z hz=>h.ord.tr x (hs x hx) y (hs y hy) z<|hs z hz⟩,λs os bW hd=>h.kind s os bW λd q=>hs d<|hd d q,λs u v d e as bs hd he=>h.key s u v d e as bs (hs d hd)<|hs e he⟩
section
variable{X:Cx}{p p2 pos iS:eB}{e:Expr}{t:TA}
def afd(κ:aU)(lt:Z9->Z9->Bool)(hc:X.calm=true)(hu:X.A.units+64<bV)(hg:Gl X "sorted")(hm:X.mg "sorted" = none)(BS:Gl X "set")(pO:X.mg "set" = none)(ha:PA X [e] t)(h1:o7 e=true:=by rfl) :
  PE X (.Call (.Name "sorted" p) [.Call (.Name "set" p2) [e] [] iS] [] pos) (tCB (al4 X.prog X.w X.A.in1.in1 κ lt) t):=by
 intro aC s σ H Q I h;refine gd (sv I hg hm lV ?_ (by decide)<|by decide);refine jp ?_ (m8 rfl) rfl;rw[m8 rfl];show aG _ _ (mM ((false,cD (.Call (.Name "set" p2) [e] [] iS) X.env)::bN pos (aQ [] X.env))) _ _ s;refine j4 ?_;refine gd (sv I BS pO boot_set ?_ (by decide)<|by decide);refine e9 (thn (ha iS aC s σ H _ I h) λus s1 ⟨vs,H1,I1,r1,q1⟩=>?_) (m8 h1) rfl;obtain⟨pl,xs,ds,rfl,hp,eM,eV,sa,hb,q⟩:=q1;obtain⟨u,rfl,ru⟩:=qw r1;cases (show u=aA.ref pl from ru);have qZ:=eM.lay;have mE:xs.length=ds.length:=eM.length;have fin:∀(its:U aA),Vals xs its->∀(h':Heap)(tk:Nat)(bD:U Z9),SetD (λv d=>∃i:Nat,its[i]?=some v/\ds[i]?=some d) X.w h' s1.heap.objs.size bD->(∀d,d∈bD↔d∈ds)->bD.length<=ds.length->Keep s1.heap h'->
   aG (aH X.prog X.w) X.A (mM<|bN pos<|aQ [] X.env) (λvs s'=>aG (aH X.prog X.w) X.A (call (.builtin "sorted") (.ref s1.heap.objs.size::vs)) (EP X aC σ Q) X.xe s') X.xe {s1 with heap:=h',toks:=tk}:=by
  intro its rv h' tk bD hS dE aX hk;refine Calls.spliced_nil ?_;have I2:Inv X aC σ H1 {s1 with heap:=h',toks:=tk}:=I1.kept hk;obtain⟨_,_,_,_,_,_,_,_,_,_,nd,_⟩:=id hS;exact aa4 I2 (λv d ⟨i,g1,g2⟩=>by
   obtain⟨x,x1,x2⟩:=eM.get g2;obtain⟨u,u1,u2⟩:=rv.get x1;have:u=v:=by rw[u1]at g1;cases g1;rfl
   subst this;exact⟨x,u2,x2⟩) hc hS (by omega) (sa.sub λd hd=>(dE d).mp hd) λes l ys pe up hn dB=>q es l ys (pe.nodup_iff.mpr nd) (λd=>pe.mem_iff.trans<|dE d) up hn dB
 rcases hp with hp|hp
 .obtain⟨its,rv,il,hz⟩:=I1.list<|SqL.of (K:=X.K) hp;obtain⟨as,tW⟩:=RepAll.reads I1 eM rv;have jE:xs.length=its.length:=rv.length;refine ad0 (Pv:=λv d=>∃i:Nat,its[i]?=some v/\ds[i]?=some d) (ds:=ds) (I1.ok.hd hc) il.isList (by rw[bf];omega) (λi v d hv hd=>?_) (by omega) (by omega) λh' tk bD hS dE aX hk ht=>fin its rv h' tk bD hS dE aX hk;rw[jj]at hv;obtain⟨bs,rd⟩:=ve tW hv hd;have jD:=aj hd;exact⟨⟨i,hv,hd⟩,rfl,(eV d jD).1,(eV d jD).2.1,EW qZ d jD,(eV d jD).2.2,bs,rd⟩
 .obtain⟨its,rv,il,hz⟩:=I1.tuple<|SqT.of (K:=X.K) hp;obtain⟨as,tW⟩:=RepAll.reads I1 eM rv;have jE:xs.length=its.length:=rv.length;refine ale (Pv:=λv d=>∃i:Nat,its[i]?=some v/\ds[i]?=some d) (ds:=ds) (I1.ok.hd hc) (show s1.heap.IsTuple pl its.toArray from il) (by rw[bf];omega) (λi v d hv hd=>?_) (by omega) (by omega) λh' tk bD hS dE aX hk ht=>fin its rv h' tk bD hS dE aX hk;rw[jj]at hv;obtain⟨bs,rd⟩:=ve tW hv hd;have jD:=aj hd;exact⟨⟨i,hv,hd⟩,rfl,(eV d jD).1,(eV d jD).2.1,EW qZ d jD,(eV d jD).2.2,bs,rd⟩
end
def SetX(prog:aK)(w:aN)(h:Heap)(a:aE)(m:U Str):Prop:=h.SetOf (PySem.strKind prog w) a (λx=>decide<|x∈m) m.length/\m.Nodup
def SetX.moved{prog:aK}{w:aN}{h h':Heap}{a:aE}{m:U Str}(x:SetX prog w h a m)(hS:∀o,h.get? a=some o->h'.get? a=some o):SetX prog w h' a m:=by obtain⟨⟨o,es,ep,t,ho,bA⟩,nd⟩:=x;exact⟨⟨o,es,ep,t,hS o ho,bA⟩,nd⟩
theorem SetX.fresh{prog:aK}{w:aN}{h:Heap}{a:aE}{led:Bool}(hS:h.get? a=some {cls:=.type "set",dict:=none,data:=.set #[] 0 (.fresh 0 0 led)}):SetX prog w h a []:=
 ⟨⟨_,#[],0,_,hS,⟨rfl,rfl,rfl⟩,rfl,λe he=>by simp at he,λk=>by simp,by decide,by rfl,rfl⟩,List.nodup_nil⟩
section
variable{prog:aK}{w:aN}{A:Around}{R:iF->aB->Prop}{I:aE}{fp wr:U aE}{G:Array kG->Array kG->Prop}{n:Nat}{P:Nat->aA->Prop}{St:Nat->aB->Prop}
theorem aeq(W:WalksS prog w A.in1 I fp wr G n P St)(S:aE)(gL:S∉fp)(h0:Heap)(FP:∀b∈wr,h0.get? b=none)(hS0:h0.get? S=none)
  (val:Nat->Str) (kJ:∀i v,P i v->∃t,v=.str (val i) t) (hb:n+1<DE) :
  ∀(k i:Nat)(s:aB)(ds:U Str),n-i=k->i<=n->St i s->Keep h0 s.heap->SetX prog w s.heap S ds->(∀d,d∈ds↔∃j,j<i/\val j=d)->ds.length<=i->
   (∀s' bD,De (S::wr) G s s'->Keep h0 s'.heap->SetX prog w s'.heap S bD->(∀d,d∈bD↔∃j,j<n/\val j=d)->bD.length<=n->R (.ok<|.ret .none) s')->
   bY (aH prog w) A (.builtin "set.update.loop" ⟨[.ref S,.ref I],[]⟩) R s:=by
 have oT:S∉wr:=λh=>gL<|W.sub _ h;have mono:∀b∈wr,b∈S::wr:=λb hb=>ao _ hb;have mv:∀{s s':aB} {ds:U Str},De wr G s s'->Keep h0 s.heap->SetX prog w s.heap S ds->Keep h0 s'.heap/\SetX prog w s'.heap S ds:=λ{s s' ds} hm hk hS=>
  ⟨λb o e=>hm.heap b o (λz=>by rw[FP b z]at e;cases e)<|hk b o e,hS.moved λo e=>hm.heap S o oT e⟩
 intro k;induction k with
 | zero=>
  intro i s ds hk hi bS nU hS dE aX hR;have mT:i=n:=by omega
  subst mT;refine dq F.entry_set_update_loop (show _ from ?_);rw[cv i9 (_:E8)];show aG _ A.in1 (bB (.ref I) >>= _) _ _ _;refine aa<|W.done s _ _ bS λs' hm=>?_;obtain⟨k1,S1⟩:=mv hm nU hS;exact ai (hR s' ds (hm.mono mono) k1 S1 dE aX)
 | succ k ih=>
  intro i s ds hk hi bS nU hS dE aX hR;have cF:i<n:=by omega
  refine dq F.entry_set_update_loop (show _ from ?_);rw[cv i9 (_:E8)];show aG _ A.in1 (bB (.ref I) >>= _) _ _ _;refine aa<|W.item i s _ _ cF bS λv s' hP gU hm=>?_;obtain⟨t,rfl⟩:=kJ i v hP;obtain⟨k1,S1,nd⟩:=mv hm nU hS;show aG _ A.in1 (fZ [aA.str (val i) t] (setAdd S<|.str (val i) t) >>= _) _ _ _;refine aa<|db ?_;unfold setAdd;refine db ?_;refine aa<|(PySem.strKind prog w).pyHash (k:=val i) (dA _ _ _ _) ?_;refine wpAny_setAddHashed_of (knd:=PySem.strKind prog w) (s:={s' with toks:=s'.toks+1}) (dA _ _ _ _) rfl S1 (by omega) λh' lL Ec=>?_;have k2:Keep h0 h':=λb o e=>by rw[lL.2 b (λz=>by rw[z,hS0]at e;cases e)];exact k1 b o e
  obtain⟨bD,S3,qW,qY⟩:∃bD:U Str,SetX prog w h' S bD/\(∀d,d∈bD↔∃j,j<i+1/\val j=d)/\bD.length<=i+1:=by
   have base:∀d,(∃j,j<i+1/\val j=d)↔(d∈ds\/val i=d):=λd=>by
    rw[dE d];constructor
    .rintro⟨j,hj,e⟩;by_cases q:j=i
     .subst q;exact .inr e
     .exact .inl ⟨j,by omega,e⟩
    .rintro(⟨j,hj,e⟩|e)
     .exact⟨j,by omega,e⟩
     .exact⟨i,by omega,e⟩
   by_cases q:val i∈ds
   .refine⟨ds,⟨SetOf_congr Ec (λx=>?_)<|by simp[q],nd⟩,λd=>?_,by omega⟩
    .by_cases e:x=val i
     .subst e;simp[q]
     .simp[e]
    .rw[base d];exact⟨.inl,λz=>z.elim id λe=>e▸q⟩
   .refine⟨val i::ds,⟨SetOf_congr Ec (λx=>?_)<|by simp[q],iy.mpr ⟨q,nd⟩⟩,λd=>?_,by rw[bj];omega⟩
    .by_cases e:x=val i
     .subst e;simp
     .simp[e]
    .rw[base d,ar];exact⟨λz=>z.elim (λe=>.inr e.symm) .inl,λz=>z.elim .inr λe=>.inl e.symm⟩
  refine ai ⟨gt i9 _,ih (i+1) _ bD (by omega) cF (W.frame _ s' _ _ gU (Nat.le_succ _) λb hb o e=>?_) k2 S3 qW qY λxI zA yG FK J4 FH FJ=>?_⟩
  .rw[lL.2 b (λh:b=S=>gL<|by rw[<-h];exact hb)];exact e
  .refine hR xI zA (De.trans W.gtrans ((hm.mono mono).then_heap (Nat.le_succ _) λb o hb e=>?_) yG) FK J4 FH FJ;rw[lL.2 b (λh:b=S=>hb<|by rw[h];exact am)];exact e
end
section
variable{prog:aK}{w:aN}{A:Around}{E:aA->aB->Prop}{s:aB}
theorem amm{l:aE}{items:Array aA}{ds:U Str}{Q:aA->aB->Prop}
  (hh:A.handled=none) (hl:s.heap.IsList l items) (hi:items.size=ds.length) (hE:∀(i:Nat) v d,items[i]?=some v->ds[i]?=some d->∃t,v=.str d t) (hb:ds.length+1<DE)
  (h:∀(h':Heap)(tk:Nat)(bD:U Str),SetX prog w h' s.heap.objs.size bD->(∀d,d∈bD↔d∈ds)->bD.length<=ds.length->Keep s.heap h'->s.toks<=tk->Q (.ref s.heap.objs.size) {s with heap:=h',toks:=tk}) :
  aG (aH prog w) A (call (.type "set") [.ref l]) Q E s:=by
 obtain⟨c,tl,BH⟩:=bp.mro;have wD:=bp.made;have xR:=bp.sub;refine fX<|gM (show _ from ?_);show aG _ _ (callAny (.type "set") _) _ _ s;refine ai ⟨Code.quiet_builtin _<|by decide +kernel,dq F.entry_type_call (show _ from ?_)⟩;rw[Around.under_plain (gN "set" [.ref l] []) (rfl:_=_)];have h1:=bp.notType;have h2:=bp.canCreate;have hct:=PySem.F.typeCall_set_1 (.ref l)
 repeat (any_goals (first|assumption|(wp_step)))
 refine j8 (vh (.ref l) (E:=E) (Q₁:=λobj s₁=>∃led:Bool,led=(!byT w)/\obj=.ref s.heap.objs.size/\s₁={s with heap:=s.heap.push {cls:=.type "set",dict:=none,data:=.set #[] 0 (.fresh 0 0 led)}}) ⟨_,rfl,rfl,rfl⟩) λr s₁ hr=>?_
 match r,hr with
 | .error e,hr=>exact hr
 | .ok (.ret obj),hr=>
   obtain⟨led,cT,rfl,rfl⟩:=hr;obtain⟨jZ,fE⟩:∃ob:Obj,ob={cls:=.type "set",dict:=none,data:=.set #[] 0 (.fresh 0 0 led)}:=⟨_,rfl⟩;have hS:(s.heap.push jZ).get? s.heap.objs.size=some jZ:=a6 _ (by rw[fE];rfl);have hT:aB.TypeIs {s with heap:=s.heap.push jZ} (.ref s.heap.objs.size) "set":=⟨_,hS,by rw[fE]⟩;have B8:SetX prog w (s.heap.push jZ) s.heap.objs.size []:=by rw[fE]at hS⊢;exact SetX.fresh hS
   rw[<-fE];have hli:=bp.init.lookup;have wL:=bp.init.bind (.ref s.heap.objs.size)
   repeat (any_goals (first|assumption|(wp_step)))
   refine j8 (cL (R:=wants (λr s₂=>r=.none/\∃h' tk bD,s₂={s with heap:=h',toks:=tk}/\SetX prog w h' s.heap.objs.size bD/\(∀d,d∈bD↔d∈ds)/\bD.length<=ds.length/\Keep s.heap h'/\s.toks<=tk) E) bp.init.plain F.entry_set_init<|lz hT ?_) λr₂ s₂ fD=>?_
   .obtain⟨ol,lO,lS,nl,wJ⟩:=hl;obtain⟨A1,lG,vS,iT⟩:=ol;simp only at lS wJ;subst lS;subst wJ;have qS:(s.heap.push jZ).get? l=some {cls:=.type "list",dict:=lG,data:=.seq items nl,slots:=iT}:=ah _ lO;have Bq:=PySem.F.sub_list_set;have Br:=PySem.F.sub_list_frozenset;have eG:(aA.type "list" == aA.type "dict")=false:=by decide
    have mE:(s.heap.push jZ).IsList l items:=⟨_,qS,rfl,nl,rfl⟩;unfold Builtin.«set.__init__» Af Builtin.Frozenset.updateFrom;generalize Ca:hJ=PI;subst fE
    wp_walk
    subst Ca;refine jn mE ?_;refine aa<|gY ?_;have dU:∀b,s.heap.objs.size<=b->s.heap.get? b=none:=λb fL=>by
     cases hq:s.heap.get? b with
     | none=>rfl
     | some ob=>exact absurd (be hq)<|Nat.not_lt.mpr fL
    have wH:l<s.heap.objs.size:=be lO;have BR:A.in1.in1.in1.handled=none:=by simp[hh]
    have rO:(s.heap.push {cls:=.type "set",dict:=none,data:=.set #[] 0 (.fresh 0 0 led)}).objs.size=s.heap.objs.size+1:=jx _ _;have qU:l≠(s.heap.push {cls:=.type "set",dict:=none,data:=.set #[] 0 (.fresh 0 0 led)}).objs.size:=by rw[rO];exact cj<|Nat.lt_succ_of_lt wH
    have gL:s.heap.objs.size∉[(s.heap.push {cls:=.type "set",dict:=none,data:=.set #[] 0 (.fresh 0 0 led)}).objs.size,l]:=by rw[rO];simp only[ar,dz,or_false,not_or];exact⟨cj<|jv _,Nat.ne_of_gt wH⟩
    have kJ:∀(i:Nat)(v:aA),items[i]?=some v->∃t,v=.str (ds.getD i ⟨#[]⟩) t:=λi v hv=>by
     have cF:=(bg.mp hv).1;have hd:ds[i]?=some (ds.getD i ⟨#[]⟩):=by rw[cw,af<|by omega];rfl
     exact hE i v _ hv hd
    refine aeq (A:=A.in1.in1) ((fF.list BR _ l qU items).toS) s.heap.objs.size gL s.heap (λb fL=>dU b<|by rw[ay.mp fL,rO];exact Nat.le_succ _) (dU _<|aq _)
     (λi=>ds.getD i ⟨#[]⟩) kJ (by omega) (items.size-0) 0 _ [] (by omega) (c8 _)
     ⟨⟨_,a6 _ rfl,rfl,rfl⟩,(mE.push _)⟩ ?hK0 ?hS0 (λd=>by simp) (by simp) ?hR
    case hK0=>exact λb o e=>ah _<|ah _ e
    case hS0=>exact B8.moved λo e=>ah _ e
    case hR=>
     intro s' bD hm k' S' m' l';obtain⟨h',g',d',vK,qJ⟩:=s';have eg:g'=s.gens:=hm.gens;have ed:d'=s.drawn:=hm.drawn;have eo:qJ=s.os:=hm.os;subst eg;subst ed;subst eo;show aG _ _ _ _ _ _;refine ai ?_;show aG _ _ (ret aA.none) _ _ _;refine ai ⟨rfl,h',vK,bD,rfl,S',λd=>?_,by omega,k',hm.toks⟩;rw[m' d];constructor
     .rintro⟨j,hj,rfl⟩;rw[cw,af<|by omega];exact fk _
     .intro hd;obtain⟨j,hj⟩:=gp hd;have BO:=(ap.mp hj).1;exact⟨j,by omega,by rw[cw,hj];rfl⟩
   .match r₂,fD with
    | .error e,fD=>exact fD
    | .ok (.ret r),fD=>
      obtain⟨rfl,h',tk,bD,rfl,fW,jD,tF,dW,Bl⟩:=fD
      repeat (any_goals (first|assumption|(wp_step)))
      exact h _ _ bD fW jD tF dW Bl
    | .ok .next,fD=>exact fD.elim
    | .ok .brk,fD=>exact fD.elim
    | .ok .cont,fD=>exact fD.elim
 | .ok .next,hr=>exact hr.elim
 | .ok .brk,hr=>exact hr.elim
 | .ok .cont,hr=>exact hr.elim
end
def ao5:U V->Hp->VK->Prop:=λvs H Q=>∃(p:aE)(zs:U Str),vs=[.ref p]/\H p=some (.lst<|zs.map V.str)/\zs.length<=100/\
 ∀m:U Str,m.Nodup->(∀z,z∈m↔z∈zs)->m.length<=zs.length->Q (.int m.length) H
section
variable{X:Cx}{p p2 pos iS:eB}{e:Expr}{t:TA}
def aie(hc:X.calm=true)(hg:Gl X "len")(hm:X.mg "len" = none)(BS:Gl X "set")(pO:X.mg "set" = none)(ha:PA X [e] t)(h1:o7 e=true:=by rfl) :
  PE X (.Call (.Name "len" p) [.Call (.Name "set" p2) [e] [] iS] [] pos) (tCB ao5 t):=by
 intro aC s σ H Q I h;refine gd (sv I hg hm cb ?_ (by decide)<|by decide);refine jp ?_ (m8 rfl) rfl;rw[m8 rfl];show aG _ _ (mM ((false,cD (.Call (.Name "set" p2) [e] [] iS) X.env)::bN pos (aQ [] X.env))) _ _ s;refine j4 ?_;refine gd (sv I BS pO boot_set ?_ (by decide)<|by decide);refine e9 (thn (ha iS aC s σ H _ I h) λus s1 ⟨vs,H1,I1,r1,q1⟩=>?_) (m8 h1) rfl;obtain⟨pl,zs,rfl,hp,hb,q⟩:=q1;obtain⟨u,rfl,ru⟩:=qw r1;cases (show u=aA.ref pl from ru);obtain⟨its,rv,il,hz⟩:=I1.list<|SqL.of (K:=X.K) hp;have jE:(zs.map V.str).length=its.length:=rv.length;rw[ae]at jE;refine amm (ds:=zs) (I1.ok.hd hc) il.isList (by rw[bf];omega) (λi v d hv hd=>?_) (by unfold DE;omega) λh' tk bD hS dE aX hk ht=>?_
 .rw[jj]at hv;obtain⟨u,u1,u2⟩:=rv.get (i:=i) (x:=V.str d) (by rw[a8,hd];rfl);rw[hv]at u1;cases u1;exact u2
 .obtain⟨⟨o,es,ep,tb,ho,fJ,kR,_,_,_,GJ,hn⟩,nd⟩:=hS;refine Calls.spliced_nil ?_
  refine call_len_set ho fJ kR GJ (by rw[hn];have:(bD.length:Int)<2000:=by omega
                                      exact Int.lt_of_lt_of_le this<|by decide) ?_
  refine⟨.int bD.length,H1,?_,⟨_,by rw[<-hn]⟩,q bD nd dE aX⟩;exact I1.kept hk
end
end L3
namespace L2
open PySem PySem.Spec PyProof.Rows
section
variable{κ:Type}[DecidableEq κ]
noncomputable def zo(aR:U (κ×V))(k:κ):Option V:=(aR.find? λkv=>decide<|kv.1=k).map (·.2)
noncomputable def oZ(aR:U (κ×V))(k:κ)(v:V):U (κ×V):=
 if (aR.any λkv=>decide<|kv.1=k)=true then aR.map (λkv=>if kv.1=k then(kv.1,v)else kv)else aR++[(k,v)]
def ql{p:κ×V}{r:U (κ×V)}{k:κ}(e:p.1=k):zo (p::r) k=some p.2:=by simp[zo,List.find?_cons,e]
def qj{p:κ×V}{r:U (κ×V)}{k:κ}(e:¬p.1=k):zo (p::r) k=zo r k:=by simp[zo,List.find?_cons,e]
theorem zu(k:κ):∀aR:U (κ×V),(aR.any λkv=>decide<|kv.1=k)=(zo aR k).isSome
 | []=>rfl
 | p::r=>by
  rw[List.any_cons];by_cases e:p.1=k
  .simp only[ql e,decide_eq_true e,Bool.true_or,Option.isSome_some]
  .rw[qj e,decide_eq_false e,Bool.false_or];exact zu k r
theorem ahl(k j:κ)(y:V):∀aR:U (κ×V),zo (aR.map λkv=>if kv.1=k then(kv.1,y)else kv) j=(zo aR j).map λx=>if j=k then y else x
 | []=>rfl
 | p::r=>by
  have ih:=ahl k j y r;rw[dg];by_cases h:p.1=k
  .rw[if_pos h];by_cases e:p.1=j
   .rw[ql (p:=(p.1,y)) e,ql e,Option.map_some,if_pos<|e.symm.trans h]
   .rw[qj (p:=(p.1,y)) e,qj e,ih]
  .rw[if_neg h];by_cases e:p.1=j
   .rw[ql (p:=p) e,ql e,Option.map_some,if_neg λz=>h<|e.trans z]
   .rw[qj (p:=p) e,qj e,ih]
theorem aej(k j:κ)(y:V):∀aR:U (κ×V),zo aR k=none->zo (aR++[(k,y)]) j=if j=k then some y else zo aR j
 | [],_=>by
  by_cases e:k=j
  .rw[if_pos e.symm];exact ql (p:=(k,y)) e
  .rw[if_neg (λz=>e z.symm)];exact qj (p:=(k,y)) e
 | p::r,hn=>by
  rw[List.cons_append];have hk:¬p.1=k:=λz=>by rw[ql z]at hn;cases hn
  rw[qj hk]at hn;have ih:=aej k j y r hn;by_cases e:p.1=j
  .rw[ql e,ql e,if_neg λz=>hk<|e.trans z]
  .rw[qj e,qj e,ih]
theorem ag1(aR:U (κ×V))(k j:κ)(y:V):zo (oZ aR k y) j=if j=k then some y else zo aR j:=by
 unfold oZ;by_cases a:(aR.any λkv=>decide<|kv.1=k)=true
 .rw[if_pos a,ahl];rw[zu]at a;by_cases e:j=k
  .obtain⟨x,hx⟩:=Option.isSome_iff_exists.mp a;rw[if_pos e,e,hx,Option.map_some,if_pos rfl]
  .rw[if_neg e];cases zo aR j with
   | none=>rfl
   | some x=>rw[Option.map_some,if_neg e]
 .rw[if_neg a];refine aej k j y aR ?_;rw[zu]at a;cases q:zo aR k with
  | none=>rfl
  | some x=>rw[q]at a;exact(a rfl).elim
def vg(aR:U (κ×V))(k:κ)(v:V):(oZ aR k v).length<=aR.length+1:=by
 unfold oZ;split
 .rw[ae];lia
 .rw[bn,bj,List.length_nil];lia
theorem RelO.isSome_eq{o:Option V}{u:Option aA}(r:RelO o u):o.isSome=u.isSome:=by
 cases o with
 | none=>cases u with
  | none=>rfl
  | some _=>exact(show False from r).elim
 | some _=>cases u with
  | none=>exact(show False from r).elim
  | some _=>rfl
theorem RelO.getD{o:Option V}{u:Option aA}{d:V}{d':aA}(r:RelO o u)(rd:RelV d d'):RelV (o.getD d) (u.getD d'):=by
 cases o with
 | none=>cases u with
  | none=>exact rd
  | some _=>exact(show False from r).elim
 | some _=>cases u with
  | none=>exact(show False from r).elim
  | some _=>exact r
theorem KV.val{aR:U (κ×V)}{vs:U (κ×aA)}(r:KV aR vs)(k:κ):RelO (zo aR k) (fY vs k):=by
 unfold KV at r;induction r with
 | nil=>exact True.intro
 | @cons p q ps qs h t ih=>
  obtain⟨h1,h2⟩:=h;by_cases e:p.1=k
  .have e':q.1=k:=h1.symm.trans e;have b:fY (q::qs) k=some q.2:=by simp[fY,List.find?_cons,e']
   rw[ql e,b];exact h2
  .have e':¬q.1=k:=λz=>e<|h1.trans z;have b:fY (q::qs) k=fY qs k:=by simp[fY,List.find?_cons,e']
   rw[qj e,b];exact ih
theorem KV.any{aR:U (κ×V)}{vs:U (κ×aA)}(r:KV aR vs)(k:κ):(aR.any λkv=>decide<|kv.1=k)=vs.any λkv=>decide (kv.1=k):=by
 unfold KV at r;induction r with
 | nil=>rfl
 | cons h t ih=>rw[List.any_cons,List.any_cons,ih,h.1]
theorem KV.repl{aR:U (κ×V)}{vs:U (κ×aA)}(r:KV aR vs)(k:κ){y:V}{u:aA}(ry:RelV y u) :
  KV (aR.map λkv=>if kv.1=k then(kv.1,y)else kv) (vs.map λkv=>if kv.1=k then(kv.1,u)else kv):=by
 unfold KV at r⊢;induction r with
 | nil=>exact .nil
 | @cons p q ps qs h t ih=>
  rw[dg,dg];refine .cons ?_ ih;obtain⟨h1,h2⟩:=h;by_cases e:p.1=k
  .rw[if_pos e,if_pos<|h1.symm.trans e];exact⟨h1,ry⟩
  .rw[if_neg e,if_neg λz=>e<|h1.trans z];exact⟨h1,h2⟩
def KV.put{aR:U (κ×V)}{vs:U (κ×aA)}(r:KV aR vs)(k:κ){y:V}{u:aA}(ry:RelV y u):KV (oZ aR k y) (stored vs k u):=by
 unfold oZ stored;rw[r.any k];by_cases e:(vs.any λkv=>decide<|kv.1=k)=true
 .rw[if_pos e,if_pos e];exact r.repl k ry
 .rw[if_neg e,if_neg e];exact dL.snoc r ⟨rfl,ry⟩
theorem KV.length{aR:U (κ×V)}{vs:U (κ×aA)}(r:KV aR vs):aR.length=vs.length:=dL.length r
end
theorem HW{P:aK}{w:aN}{k:Key}{u:aA}(r:RelV (kV k) u):(p6 P w).is k u=true:=by
 cases k with
 | inl i=>obtain⟨t,e⟩:=(show ∃t,u=aA.int i t from r);subst e;exact ae9 P w i t
 | inr x=>obtain⟨t,e⟩:=(show ∃t,u=aA.str x t from r);subst e;exact afn P w x t
theorem adr{P:aK}{w:aN}:∀{ks:U Key} {us:U aA},Vals (ks.map kV) us->ItemsAre (p6 P w) ks us
 | [],_,r=>by rw[List.map_nil]at r;cases r;exact .nil
 | k::ks,_,r=>by
  rw[dg]at r;cases r with
  | cons h t=>exact .cons (HW h)<|adr t
noncomputable abbrev KT(H:Hp):U (U Key×V)->U (U Key×aE×aA)->Prop:=dL λp q=>p.1=q.1/\H q.2.1=some (.tup<|p.1.map kV)/\RelV p.2 q.2.2
theorem KT.val{H:Hp}{aR:U (U Key×V)}{xs:U (U Key×aE×aA)}(r:KT H aR xs)(k:U Key):RelO (zo aR k) ((sG xs k).map (·.2)):=by
 induction r with
 | nil=>exact True.intro
 | @cons p q ps qs h t ih=>
  obtain⟨h1,_,h2⟩:=h;by_cases e:p.1=k
  .have e':q.1=k:=h1.symm.trans e;have b:sG (q::qs) k=some q.2:=by simp[sG,List.find?_cons,e']
   rw[ql e,b];exact h2
  .have e':¬q.1=k:=λz=>e<|h1.trans z;have b:sG (q::qs) k=sG qs k:=by simp[sG,List.find?_cons,e']
   rw[qj e,b];exact ih
theorem KT.repl{H:Hp}{aR:U (U Key×V)}{xs:U (U Key×aE×aA)}(r:KT H aR xs)(k:U Key){y:V}{u:aA}(ry:RelV y u) :
  KT H (aR.map λkv=>if kv.1=k then(kv.1,y)else kv) (xs.map<|putAt k u):=by
 induction r with
 | nil=>exact .nil
 | @cons p q ps qs h t ih=>
  rw[dg,dg];refine .cons ?_ ih;obtain⟨h1,h2,h3⟩:=h;unfold putAt;by_cases e:p.1=k
  .rw[if_pos e,if_pos<|h1.symm.trans e];exact⟨h1,h2,ry⟩
  .rw[if_neg e,if_neg λz=>e<|h1.trans z];exact⟨h1,h2,h3⟩
def KT.put{H:Hp}{aR:U (U Key×V)}{xs:U (U Key×aE×aA)}(r:KT H aR xs)(k:U Key){b:aE}{y:V}{u:aA}(hb:H b=some (.tup<|k.map kV))(ry:RelV y u) :
  KT H (oZ aR k y) (storedH xs k b u):=by
 have e:(aR.any λkv=>decide<|kv.1=k)=(sG xs k).isSome:=by rw[zu,(r.val k).isSome_eq,Option.isSome_map]
 unfold oZ storedH;rw[e];by_cases q:(sG xs k).isSome=true
 .rw[if_pos q,if_pos q];exact r.repl k ry
 .rw[if_neg q,if_neg q];exact dL.snoc r ⟨rfl,hb,ry⟩
def KT.keeps{H H':Hp}{aR:U (U Key×V)}{xs:U (U Key×aE×aA)}(r:KT H aR xs)(ht:∀b ys,H b=some (.tup ys)->H' b=some (.tup ys)):KT H' aR xs:=
 dL.mapP r λ_ _ z=>⟨z.1,ht _ _ z.2.1,z.2.2⟩
section
variable{P:aK}{w:aN}{H:Hp}{h:Heap}{a:aE}
def ave{u:HO}(ok:HOk P w H h)(e:Rd H a u):ObjOk P w H h a u:=e.ok ok
def HV{aR:U (Key×V)}(ok:HOk P w H h)(e:Rd H a (.dK aR)):aR.length<=aF/\(a==bE)=false/\∃vs,KV aR vs/\h.DictOf (p6 P w) a vs:=
 show ObjOk P w H h a (.dK aR)from ave ok e
def axs{aR:U (Key×V)}(ok:HOk P w H h)(e:H a=some (.dK aR)):aR.length<=aF/\(a==bE)=false/\∃vs,KV aR vs/\h.DictOf (p6 P w) a vs:=HV ok<|.inl e
def IM{ks:U Key}(ok:HOk P w H h)(e:H a=some (.tup<|ks.map kV)):(iG<|p6 P w).is h ks a:=by obtain⟨_,its,r,o,h1,h2,n,h3⟩:=(show ObjOk P w H h a (.tup<|ks.map kV)from ok a _ e);exact⟨o,its.toArray,n,h1,h2,h3,by simpa using adr r⟩
theorem Ig{aR:U (U Key×V)}(ok:HOk P w H h)(e:Rd H a (.dT aR)):aR.length<=aF/\(a==bE)=false/\
  ∃xs,KT H aR xs/\h.DictOfH (iG<|p6 P w) a xs:=by
 obtain⟨z,y,xs,r,o,es,ep,h1,h2,h3,h4,h5⟩:=(show ObjOk P w H h a (.dT aR)from ave ok e);refine⟨z,y,xs,r,o,es,ep,h1,h2,h3,h4,λx hx=>?_,h5⟩;have all:∀{l:U (U Key×V)} {m:U (U Key×aE×aA)},KT H l m->∀x∈m,(iG<|p6 P w).is h x.1 x.2.1:=by
  intro l m q;induction q with
  | nil=>intro x hx;exact nomatch hx
  | @cons p q ps qs hq t ih=>
   intro x hx;rcases ar.mp hx with e|hx
   .subst e;exact IM ok<|by rw[<-hq.1];exact hq.2.1
   .exact ih x hx
 exact all r x hx
def awr{aR:U (U Key×V)}(ok:HOk P w H h)(e:H a=some (.dT aR)):aR.length<=aF/\(a==bE)=false/\
  ∃xs,KT H aR xs/\h.DictOfH (iG<|p6 P w) a xs:=Ig ok<|.inl e
end
def DGet(H:Hp)(a:aE)(y:V)(r:Option V):Prop:=
 (∃aR k,Rd H a (.dK aR)/\y=kV k/\r=zo aR k)\/∃aR k b,Rd H a (.dT aR)/\y=.ref b/\H b=some (.tup<|k.map kV)/\r=zo aR k
def DPut(H:Hp)(a:aE)(y v:V)(H':Hp):Prop:=
 (∃aR k,H a=some (.dK aR)/\y=kV k/\aR.length<aF/\H'=upd H a (.dK<|oZ aR k v))\/
 ∃aR k b,H a=some (.dT aR)/\y=.ref b/\H b=some (.tup<|k.map kV)/\aR.length<aF/\H'=upd H a (.dT<|oZ aR k v)
def DGet.t{H:Hp}{a b:aE}{aR:U (U Key×V)}{k:U Key}(e:H a=some (.dT aR))(eb:H b=some (.tup<|k.map kV)):DGet H a (.ref b) (zo aR k):=.inr ⟨aR,k,b,.inl e,rfl,eb,rfl⟩
def DPut.t{H:Hp}{a b:aE}{aR:U (U Key×V)}{k:U Key}{v:V}(e:H a=some (.dT aR))(eb:H b=some (.tup<|k.map kV))(hl:aR.length<aF) :
  DPut H a (.ref b) v (upd H a<|.dT<|oZ aR k v):=.inr ⟨aR,k,b,e,rfl,eb,hl,rfl⟩
section
variable{X:Cx}{aC:U (aE×Obj)}{σ:St}{H:Hp}{s:aB}{a:aE}{y v:V}{u r:aA}{o:Option V}{A:Around}{E:aA->aB->Prop}
def Inv.big(I:Inv X aC σ H s):bE<s.heap.objs.size:=by have h:aM<s.heap.objs.size:=(I.mod.glob.keeps I.bk).lt;exact Nat.lt_trans (by decide) h
def aj1{h':Heap}{t':Nat}{ob:HO}(I:Inv X aC σ H s)(mu:Mut (H a))(hs:b7 a s.heap h')(he:∃q,h'.get? a=some q)(new:ObjOk X.prog X.w (upd H a ob) h' a ob) :
  Inv X aC σ (upd H a ob) {s with heap:=h',toks:=t'}:=
 I.write (x:=a) (e:=a) mu (.inl rfl) (λb q hb z=>(hs.2 b hb).trans z) he new
def atk{P:aK}{w:aN}{H':Hp}{h':Heap}{aR:U (Key×V)}{vs:U (Key×aA)}(z:aR.length<=aF)(hd:(a==bE)=false)(rel:KV aR vs)(dd:h'.DictOf (p6 P w) a vs) :
  ObjOk P w H' h' a (.dK aR):=⟨z,hd,vs,rel,dd⟩
def akq{H':Hp}{Q:Unit->aB->Prop}(hu:A.units+1<bV)(I:Inv X aC σ H s)(g:DPut H a y v H')(ry:RelV y u)(rv:RelV v r)(h:∀s',Inv X aC σ H' s'->Q () s') :
  aG (aH X.prog X.w) A (setItem (.ref a) u r) Q E s:=by
 rcases g with ⟨aR,k,e,ey,l,eH⟩|⟨aR,k,b,e,ey,eb,l,eH⟩
 .subst ey eH;obtain⟨z,hd,vs,rel,dd⟩:=axs I.hok e;have hz:vs.length<=aF:=by rw[<-rel.length];exact z
  have hl:(oZ aR k v).length<=aF:=by have:=vg aR k v;lia
  refine wpAny_setItem_pairs (hsz:=hz) (HW ry) dd λh' Ep hs=>h _ ?_;have he:∃q,h'.get? a=some q:=let ⟨q,_,_,hq,_⟩:=Ep;⟨q,hq⟩
  exact aj1 I (by rw[e];exact True.intro) hs he<|atk hl hd (rel.put k rv) Ep
 .subst ey eH;cases (show u=aA.ref b from ry);obtain⟨z,hd,xs,rel,dd⟩:=awr I.hok e;have hz:xs.length<=aF:=by rw[<-dL.length rel];exact z
  have hl:(oZ aR k v).length<=aF:=by have:=vg aR k v;lia
  refine wpAny_setItem_heap (hsz:=hz) (zW hu) (IM I.hok eb) dd λh' Ep hs=>h _ ?_;obtain⟨q,es,ep,hq,h2,h3,h4,_,h5⟩:=Ep;refine aj1 I (by rw[e];exact True.intro) hs ⟨q,hq⟩ ⟨hl,hd,_,(rel.put k eb rv).keeps λc ys ec=>?_,q,es,ep,hq,h2,h3,h4,h5⟩;rw[lg (Ix ec e λz=>nomatch z)];exact ec
end
def aw6(td ty tv:TE):TS:=λD σ H=>tv σ H λv H1=>td σ H1 λx H2=>ty σ H2 λy H3=>∃a H4,x=.ref a/\DPut H3 a y v H4/\D.nx σ H4
section
variable{X:Cx}{o i e value:Expr}{pos qH tT:eB}{td ty tv:TE}
def ake(hu:X.A.units+1<bV)(ho:PE X o td)(hi:PE X i ty)(hv:PE X value tv)(hs:qB value (some<|.Subscript o i qH) pos.line X.env=aT false) :
  PS X (.Assign [.Subscript o i qH] value pos) (aw6 td ty tv):=by
 intro aC s σ H D I h;refine wpAny_Assign_Subscript (thn (hv aC s σ H _ I h) λr s1 ⟨v,H1,I1,rv,q1⟩=>thn (ho aC s1 σ H1 _ I1 q1) λu s2 ⟨x,H2,I2,rx,q2⟩=>thn (hi aC s2 σ H2 _ I2 q2) λiv s3 ⟨y,H3,I3,ry,a,H4,ex,g,q3⟩=>?_) hs;subst ex;obtain rfl:u=aA.ref a:=rx;exact akq hu I3 g ry rv λs4 I4=>⟨σ,H4,I4,q3⟩
end
structure M2(X:Cx)(o:Expr)(m:Str)(iN:eB)(e f:Expr)(dZ:eB):Prop where
 base:pX o m X.env (cD o X.env)=cD o X.env
 few:((bN dZ<|aQ [e,f] X.env).all (λx=>!x.1)&&(oB dZ<|hV [] X.env).all (λx=>x.1.isSome)
  && decide (([e,f]:U Expr).length+([]:U iO).length+(if ([]:U iO).isEmpty then 0 else 1)<30))=true
 line:(iN.endLine==dZ.line)=true
 trees:bN dZ (aQ [e,f] X.env)=[(false,cD e X.env),(false,cD f X.env)]
def IsD(H:Hp)(a:aE):Prop:=(∃aR,Rd H a<|.dK aR)\/∃aR,Rd H a<|.dT aR
def auz{X:Cx}{aC:U (aE×Obj)}{σ:St}{H:Hp}{s:aB}{a:aE}(I:Inv X aC σ H s)(d:IsD H a) :
  s.TypeIs (.ref a) "dict"/\(∀b,aA.ref a=.ref b->∃ob,s.heap.get? b=some ob/\ob.dict=none)/\(a==bE)=false:=by
 rcases d with ⟨aR,e⟩|⟨aR,e⟩
 .obtain⟨_,hd,vs,_,dd⟩:=HV I.hok e;refine⟨dd.typeIs,λb q=>?_,hd⟩;cases q;obtain⟨ob,_,_,h1,h2,_⟩:=dd;exact⟨ob,h1,h2.2.1⟩
 .obtain⟨_,hd,xs,_,dd⟩:=Ig I.hok e;refine⟨dd.typeIs,λb q=>?_,hd⟩;cases q;obtain⟨ob,_,_,h1,h2,_⟩:=dd;exact⟨ob,h1,h2.2.1⟩
section
variable{X:Cx}{aC:U (aE×Obj)}{σ:St}{H:Hp}{s:aB}{a:aE}{y d:V}{u r:aA}{o:Option V}{A:Around}{E:aA->aB->Prop}
def atu{Q:aA->aB->Prop}(hu:A.units+1<bV)(I:Inv X aC σ H s)(g:DGet H a y o)(ry:RelV y u)(rd:RelV d r)(h:∀w' s',Inv X aC σ H s'->RelV (o.getD d) w'->Q w' s') :
  aG (aH X.prog X.w) A (call (.builtin "dict.get") [.ref a,u,r]) Q E s:=by
 rcases g with ⟨aR,k,e,ey,l⟩|⟨aR,k,b,e,ey,eb,l⟩
 .subst ey;obtain⟨z,hd,vs,rel,dd⟩:=HV I.hok e;refine call_meetsIn PySem.F.slot_dict_get dd.typeIs PySem.F.entry_dict_get (PySem.F.args_dict_get_3 _ _ _) (meets_dict_get_default (p6 X.prog X.w) a (HW ry) hd r) ⟨_,dd.mapOf,h _ _ (I.tok _) ?_⟩;rw[l];exact(rel.val k).getD rd
 .subst ey;cases (show u=aA.ref b from ry);obtain⟨z,hd,xs,rel,dd⟩:=Ig I.hok e;refine call_meetsIn PySem.F.slot_dict_get dd.typeIs PySem.F.entry_dict_get (PySem.F.args_dict_get_3 _ _ _) (meetsH_dict_get_default (iG<|p6 X.prog X.w) a b hd r) ⟨zW hu,k,xs,IM I.hok eb,dd,h _ _ (I.tok _) ?_⟩;rw[l];exact(rel.val k).getD rd
end
def avf(td ty tx:TE):TE:=λσ H Q=>td σ H λx H1=>∃a,x=.ref a/\IsD H1 a/\ty σ H1 λy H2=>tx σ H2 λz H3=>∃o,DGet H3 a y o/\Q (o.getD z) H3
section
variable{X:Cx}{o e f:Expr}{iN dZ:eB}{td ty tx:TE}
def ahc(hu:X.A.units+1<bV)(ho:PE X o td)(he:PE X e ty)(hf:PE X f tx)(m:M2 X o "get" iN e f dZ):PE X (.Call (.Attribute o "get" iN) [e,f] [] dZ) (avf td ty tx):=by
 intro aC s σ H Q I h;refine wpAny_Call_method m.base m.few m.line PySem.F.plainAttrs_dict PySem.F.slot_dict_get PySem.F.type_dict_get<|thn (ho aC s σ H _ I h) λu s1 ⟨x,H1,I1,rx,a,ex,d,q1⟩=>?_;subst ex;obtain rfl:u=aA.ref a:=rx;obtain⟨t1,t2,_⟩:=auz I1 d;refine⟨t1,t2,?_⟩;rw[m.trees];refine Calls.callWith_builtin rfl (Calls.evalArgs_plain (j4 (thn (he aC s1 σ H1 _ I1 q1) λiv s2 ⟨y,H2,I2,ry,q2⟩=>
  j4 (thn (hf aC s2 σ H2 _ I2 q2) λfv s3 ⟨z,H3,I3,rz,ov,g,q3⟩=>Calls.spliced_nil ?_))))
 exact atu hu I3 g ry rz λw' s4 I4 qD=>⟨_,H3,I4,qD,q3⟩
end
end L2
namespace L3
structure Mat where
 h:Nat
 w:Nat
 g:Nat->Nat->Nat
noncomputable def qr(M:Mat)(r:Nat):U Nat:=(fu M.w).map (M.g r)
theorem abe{α:Type}{R:α->α->Prop}(as:∀x y,R x y->¬R y x):∀{xs ys:List α},xs.Pairwise R->ys.Pairwise R->(∀z,z∈xs↔z∈ys)->xs=ys
 | [],[],_,_,_=>rfl
 | [],y::ys,_,_,h=>absurd ((h y).mpr am) (by simp)
 | x::xs,[],_,_,h=>absurd ((h x).mp am) (by simp)
 | x::xs,y::ys,p,q,h=>by
  obtain⟨p1,p2⟩:=gc.mp p;obtain⟨q1,q2⟩:=gc.mp q;have e:x=y:=by
   rcases ar.mp ((h x).mp am)with e|a
   .exact e
   .rcases ar.mp ((h y).mpr am)with e|b
    .exact e.symm
    .exact absurd (q1 x a)<|as _ _<|p1 y b
  subst e;refine congrArg _<|abe as p2 q2 λz=>⟨λhz=>?_,λhz=>?_⟩
  .rcases ar.mp ((h z).mp (ao _ hz))with e|a
   .subst e;exact absurd (p1 z hz) λk=>as _ _ k k
   .exact a
  .rcases ar.mp ((h z).mpr (ao _ hz))with e|a
   .subst e;exact absurd (q1 z hz) λk=>as _ _ k k
   .exact a
end L3
namespace L3
open PySem PySem.Spec PyProof.Rows L2
section
variable{prog:aK}{w:aN}{A:Around}{E:aA->aB->Prop}{s:aB}
theorem aem{op:lZ}(hop:op=.Lt\/op=.Gt){a b:Str}{t u:pF}{Q:aA->aB->Prop}(hh:A.handled=none)
  (h:∀h' tk v,(∀c o,s.heap.get? c=some o->h'.get? c=some o)->v=(if (if op=.Lt then decide (b.cps.toList<a.cps.toList)else decide (a.cps.toList<b.cps.toList))=true then aA.str b u else .str a t)->Q v {s with heap:=h',toks:=tk}) :
  aG (aH prog w) A.in1 (hJ<|.ref s.heap.objs.size) (λit s₂=>∃I fp wr n P St bt,it=.ref I/\fF prog w A.in1 I fp wr n P St/\St 0 s₂.heap/\(∀b∈fp,b<s₂.heap.objs.size)/\0<n/\oF prog w A.in1 op P bt/\
   ∀v h' tk,P (bQ bt<|n-1) v->(∀b o,b∉wr->s₂.heap.get? b=some o->h'.get? b=some o)->Q v {s₂ with heap:=h',toks:=tk}) E
   {s with heap:=s.heap.push {cls:=.type "tuple",data:=.seq #[.str a t,.str b u]}}:=by
 have hT:(s.heap.push {cls:=.type "tuple",data:=.seq #[.str a t,.str b u]}).IsTuple s.heap.objs.size #[.str a t,.str b u]:=(m9 _ (a6 _ rfl) rfl 0 rfl);refine eP hT ?_;have hsz:(s.heap.push {cls:=.type "tuple",data:=.seq #[.str a t,.str b u]}).objs.size=s.heap.objs.size+1:=jx ..;have two:∀(i:Nat)(v:aA),(#[.str a t,.str b u]:Array aA)[i]?=some v->v=.str a t\/v=.str b u:=λi v e=>by
  match i,e with
  | 0,e=>exact .inl (by simpa using e.symm)
  | 1,e=>exact .inr (by simpa using e.symm)
  | i+2,e=>simp at e
 refine⟨_,[_,s.heap.objs.size],[_],_,_,_,λi j=>match (#[aA.str a t,.str b u]:Array aA)[i]?,(#[aA.str a t,.str b u]:Array aA)[j]? with
   | some (.str x _),some (.str y _)=>if op=.Lt then decide (x.cps.toList<y.cps.toList)else decide (y.cps.toList<x.cps.toList)
   | _,_=>false,rfl,fF.tuple (A:=A.in1) hh _ s.heap.objs.size (by rw[hsz];exact cj<|jv _) #[.str a t,.str b u],
  ⟨⟨_,a6 _ rfl,rfl,rfl⟩,hT.push _⟩,λc hc=>?_,by simp,?_,λv h' tk hP hk=>?_⟩
 .show c<((s.heap.push _).push _).objs.size;rw[jx,hsz];rcases ar.mp hc with rfl|hc
  .rw[hsz];exact jv _
  .rcases ar.mp hc with rfl|hc
   .exact Nat.lt_succ_of_lt<|jv _
   .cases hc
 .intro i j vi vj s Q E hi hj h;dsimp only at h;rw[hi,hj]at h;have Bd:∀v,(v=aA.str a t\/v=.str b u)->∃x y,v=.str x y:=λv hv=>by rcases hv with e|e<;>exact(lc _ _ e)
  obtain⟨x,tx,rfl⟩:=Bd vi<|two i vi hi;obtain⟨y,ty,rfl⟩:=Bd vj<|two j vj hj;rcases hop with rfl|rfl
  .exact(PyProof.Rows.lt_str (by simpa using h):aG (aH prog w) _ (aY .Lt (.str x tx)<|.str y ty) Q E s)
  .exact richCompare_gives (op:=.Gt) (dP s _ tx) (dP s _ ty) F.slot_str_gt F.entry_str_gt (F.args_str_gt_2 _ _) (gives_str_gt x y tx ty) (λe=>nomatch e) (show Q (.bool<|decide<|y.cps.toList<x.cps.toList) s from by simpa using h)
 .have Gb:∀c o,s.heap.get? c=some o->h'.get? c=some o:=λc o e=>by
   refine hk c o (λhm=>?_)<|ah _<|ah _ e;rcases ar.mp hm with e1|hm
   .have:=be e;rw[e1,hsz]at this;exact iq _<|Nat.lt_of_succ_lt this
   .cases hm
  refine h h' tk v Gb ?_;have mG:(#[.str a t,.str b u]:Array aA)[if (if op=.Lt then decide (b.cps.toList<a.cps.toList)else decide (a.cps.toList<b.cps.toList))=true then 1 else 0]?=some v:=hP;cases hb:(if op=.Lt then decide (b.cps.toList<a.cps.toList)else decide (a.cps.toList<b.cps.toList))with
  | true=>rw[hb,if_pos rfl]at mG;rw[if_pos rfl];exact(ca mG).symm
  | false=>rw[hb,if_neg ak]at mG;rw[if_neg ak];exact(ca mG).symm
end
section
variable{X:Cx}
def abu(hc:X.calm=true):qv X (.builtin "min") (λxs H Q=>∃i j:Nat,xs=[.str ⟨#[i]⟩,.str ⟨#[j]⟩]/\Q (.str ⟨#[iQ i j]⟩) H):=by
 intro aC s σ H xs us Q I r h;obtain⟨i,j,rfl,q⟩:=h;obtain⟨u,w',rfl,⟨t,rfl⟩,⟨t',rfl⟩⟩:=CK r;refine call_min_two<|aem (.inl rfl) (I.ok.hd hc) λh' tk v k hv=>?_;rw[if_pos rfl]at hv;by_cases cA:j<i
 .rw[if_pos (decide_eq_true (show[_]<[_]from kg.mpr<|.inl cA))]at hv;subst hv;rw[Nat.min_eq_right (ck cA)]at q;exact(lc (.str _) H ⟨I.kept k,⟨_,rfl⟩,q⟩)
 .rw[if_neg (λz=>by have z':=of_decide_eq_true z;rcases kg.mp (show[_]<[_]from z')with h|⟨_,h⟩;exact cA h;exact absurd h<|List.not_lt_nil _)]at hv;subst hv;rw[fb (Nat.le_of_not_lt cA)]at q;exact(lc (.str _) H ⟨I.kept k,⟨_,rfl⟩,q⟩)
def ab4(hc:X.calm=true):qv X (.builtin "max") (λxs H Q=>∃i j:Nat,xs=[.str ⟨#[i]⟩,.str ⟨#[j]⟩]/\Q (.str ⟨#[qL i j]⟩) H):=by
 intro aC s σ H xs us Q I r h;obtain⟨i,j,rfl,q⟩:=h;obtain⟨u,w',rfl,⟨t,rfl⟩,⟨t',rfl⟩⟩:=CK r;refine call_max_two<|aem (.inr rfl) (I.ok.hd hc) λh' tk v k hv=>?_;rw[if_neg (show ¬(lZ.Gt=lZ.Lt) by decide)]at hv;by_cases cA:i<j
 .rw[if_pos (decide_eq_true (show[_]<[_]from kg.mpr<|.inl cA))]at hv;subst hv;rw[Nat.max_eq_right (ck cA)]at q;exact(lc (.str _) H ⟨I.kept k,⟨_,rfl⟩,q⟩)
 .rw[if_neg (λz=>by have z':=of_decide_eq_true z;rcases kg.mp (show[_]<[_]from z')with h|⟨_,h⟩;exact cA h;exact absurd h<|List.not_lt_nil _)]at hv;subst hv;rw[Nat.max_eq_left (Nat.le_of_not_lt cA)]at q;exact(lc (.str _) H ⟨I.kept k,⟨_,rfl⟩,q⟩)
end
noncomputable def vE(M:Mat)(r c:Nat):Z9:=.tuple [.int (r:Nat),.int (c:Nat),.str ⟨#[M.g r c]⟩]
noncomputable def yo(M:Mat):U Z9:=(fu<|M.h*M.w).map λi=>vE M (i/M.w)<|i % M.w
noncomputable def pk(M:Mat):U Str:=(fu M.h).map λr=>⟨(qr M r).toArray⟩
def atf{h w r c:Nat}(hr:r<h)(hc:c<w):r*w+c<h*w:=by have:(r+1)*w<=h*w:=Nat.mul_le_mul_right w hr;rw[Nat.add_mul]at this;omega
def ap6{w r c:Nat}(hc:c<w):(r*w+c)/w=r:=by rw[Nat.mul_comm,Nat.mul_add_div<|by omega,Nat.div_eq_of_lt hc,Nat.add_zero]
def apc{w r c:Nat}(hc:c<w):(r*w+c) % w=c:=by rw[Nat.mul_comm,Nat.mul_add_mod,gv hc]
def ahp(M:Mat)(d:Z9):d∈yo M↔∃r c,r<M.h/\c<M.w/\d=vE M r c:=by
 unfold yo;rw[a7];constructor
 .rintro⟨i,hi,rfl⟩;have eT:i<M.h*M.w:=by simpa using hi
  have hw:0<M.w:=by
   rcases Nat.eq_zero_or_pos M.w with e|e
   .rw[e,Nat.mul_zero]at eT;omega
   .exact e
  exact(lc (i/M.w) (i % M.w) ⟨(Nat.div_lt_iff_lt_mul hw).mpr eT,Nat.mod_lt _ hw,rfl⟩)
 .rintro⟨r,c,hr,hc,rfl⟩;exact⟨r*M.w+c,by simpa using atf hr hc,by rw[ap6 hc,apc hc]⟩
def sd(M:Mat):(pk M).length=M.h:=by unfold pk;simp
def Jh{M:Mat}{r:Nat}(h:r<M.h):(pk M)[r]?=some ⟨(qr M r).toArray⟩:=by unfold pk;rw[a8,List.getElem?_range h];rfl
def wf(M:Mat)(r:Nat):(qr M r).length=M.w:=by unfold qr;simp
def JD{M:Mat}{r c:Nat}(h:c<M.w):(qr M r)[c]?=some (M.g r c):=by unfold qr;rw[a8,List.getElem?_range h];rfl
def aox{M:Mat}{z:Str}(h:z∈pk M):∃r,r<M.h/\z=⟨(qr M r).toArray⟩:=by unfold pk at h;obtain⟨r,hr,rfl⟩:=a7.mp h;exact⟨r,by simpa using hr,rfl⟩
end L3
namespace L2
open PySem PySem.Spec PyProof.Rows
def aop{P:aK}{w:aN}{H:Hp}(h:Heap)(hb:bE<h.objs.size):ObjOk P w H (h.push {cls:=.type "dict",data:=.dict #[]}) h.objs.size (.dT []):=
 ⟨c8 _,beq_eq_false_iff_ne.mpr<|Ne.symm<|cj hb,[],.nil,_,#[],0,a6 _ rfl,⟨rfl,rfl,rfl⟩,rfl,rfl,List.nodup_nil⟩
def auj:TE:=λ_ H Q=>∀p,H p=none->Q (.ref p) (upd H p<|.dT [])
section
variable{X:Cx}{pos:eB}
def ah5:PE X (.Dict [] [] pos) auj:=λaC s σ H Q I h=>
 wpAny_Dict_empty ⟨.ref s.heap.objs.size,_,I.laid (a:=s.heap.objs.size) (o:=.dT []) (t':=s.toks) (λ_ _ q=>ah _ q) (aq _)<|aop s.heap I.big,rfl,h _<|I.hok.fresh<|aq _⟩
end
end L2
namespace L3
open PySem PySem.Spec PyProof.Rows L2 Builtin.Str
theorem aee:∀l:U (Str×pF),Vals ((l.map (·.1)).map V.str) (strValues l)
 | []=>.nil
 | p::l=>.cons ⟨_,rfl⟩<|aee l
theorem ags{c:Nat}:∀{a a' p p':U Nat},c∉a->c∉a'->a++c::p=a'++c::p'->a=a'/\p=p'
 | [],[],_,_,_,_,e=>⟨rfl,(List.cons.inj e).2⟩
 | [],x::a',_,_,_,h,e=>absurd (ar.mpr<|.inl (List.cons.inj e).1) h
 | x::a,[],_,_,h,_,e=>absurd (ar.mpr<|.inl (List.cons.inj e).1.symm) h
 | x::a,y::a',_,_,h,h',e=>by obtain⟨e1,e2⟩:=List.cons.inj e;obtain⟨r1,r2⟩:=ags (λm=>h<|ao _ m) (λm=>h'<|ao _ m) e2;exact⟨by rw[e1,r1],r2⟩
def rm{c:Nat}{x y:Str}{r:U Str}:(cf ⟨#[c]⟩ (x::y::r)).cps.toList=x.cps.toList++c::(cf ⟨#[c]⟩ (y::r)).cps.toList:=by show(x.cps ++ #[c]++(cf ⟨#[c]⟩ (y::r)).cps).toList=_;simp
def wz{x y:Str}(h:x.cps.toList=y.cps.toList):x=y:=by obtain⟨⟨a⟩⟩:=x;obtain⟨⟨b⟩⟩:=y;cases (show a=b from h);rfl
theorem ag2{c:Nat}:∀{xs ys:U Str},xs≠[]->ys≠[]->(∀p∈xs,c∉p.cps.toList)->(∀p∈ys,c∉p.cps.toList)->cf ⟨#[c]⟩ xs=cf ⟨#[c]⟩ ys->xs=ys
 | [],_,h,_,_,_,_=>absurd rfl h
 | _,[],_,h,_,_,_=>absurd rfl h
 | [x],[y],_,_,_,_,e=>by have e':x=y:=e;rw[e']
 | [x],y::y2::r,_,_,h1,_,e=>by have e':=congrArg (λz:Str=>z.cps.toList) e;simp only[rm]at e';exact absurd (by rw[show x.cps.toList=_ from e'];simp) (h1 x am)
 | x::x2::r,[y],_,_,_,h2,e=>by have e':=congrArg (λz:Str=>z.cps.toList) e;simp only[rm]at e';exact absurd (by rw[show y.cps.toList=_ from e'.symm];simp) (h2 y am)
 | x::x2::r,y::y2::r2,_,_,h1,h2,e=>by have e':=congrArg (λz:Str=>z.cps.toList) e;simp only[rm]at e';obtain⟨a1,a2⟩:=ags (h1 x am) (h2 y am) e';rw[wz a1,ag2 (xs:=x2::r) (ys:=y2::r2) (by simp) (by simp) (λp hp=>h1 p<|ao _ hp) (λp hp=>h2 p<|ao _ hp)<|wz a2]
def wb{c:Nat}{xs:U Str}(h0:xs≠[])(h:∀p∈xs,c∉p.cps.toList):Txt.split (cf ⟨#[c]⟩ xs) ⟨#[c]⟩=xs:=
 ag2 (λe=>by have:=split_pos (cf ⟨#[c]⟩ xs) ⟨#[c]⟩;rw[e]at this;simp at this) h0 (StrLaws.split_free _ c) h (StrLaws.join_split _ _)
section
variable{X:Cx}
def yf:MtR X "str.split" (λx vs H Q=>∃(z:Str)(c:Nat),x=.str z/\vs=[.str ⟨#[c]⟩]/\z.length+2<=aF/\
  ∀l,H l=none->Q (.ref l) (upd H l<|.lst<|(Txt.split z ⟨#[c]⟩).map V.str)):=by
 intro aC s σ H x vs v us Q I rx rv h;obtain⟨z,c,rfl,rfl,hz,q⟩:=h;obtain⟨t,rfl⟩:=rx;obtain⟨u,rfl,t2,rfl⟩:=qw rv;have hl:=split_le z ⟨#[c]⟩;have key:∀(l:U (Str×pF)) tk n,l.map (·.1)=Txt.split z ⟨#[c]⟩->EP X aC σ Q (.ref s.heap.objs.size) {s with heap:=s.heap.push {cls:=.type "list",data:=.seq (strValues l).toArray n},toks:=tk}:=λl tk n e=>by have hn:H s.heap.objs.size=none:=I.hok.fresh<|aq _;have hv:=aee l;rw[e]at hv;exact(lc (.ref s.heap.objs.size) _ ⟨I.laid (t':=tk) (o:=.lst<|(Txt.split z ⟨#[c]⟩).map V.str) (λb o h=>ah _ h) (aq _) ⟨by rw[ae];lia,(lc _ n ⟨hv,a6 _ rfl⟩)⟩,rfl,q _ hn⟩)
 by_cases h1:(decide (z.length<(⟨#[c]⟩:Str).length)||decide (strKind z<strKind ⟨#[c]⟩))=true
 .exact nZ F.slot_str_split (dP _ _ _) F.entry_str_split (F.args_str_split_2 _ _) (meets_str_split_cannot_occur z _ t t2 h1)<|key [(z,t)] s.toks _<|by unfold Txt.split;rw[if_pos h1];rfl
 .have jX:=Bool.eq_false_iff.mpr h1;by_cases hf:(occurrences z ⟨#[c]⟩ 0 z.length<|z.length+1).isEmpty=true
  .exact nZ F.slot_str_split (dP _ _ _) F.entry_str_split (F.args_str_split_2 _ _) (meets_str_split_not_found z _ t t2 jX rfl hf)<|key [(z,t)] s.toks _<|by unfold Txt.split;rw[if_neg h1,if_pos hf];rfl
  .have e:Txt.split z ⟨#[c]⟩=partsBetween z (occurrences z ⟨#[c]⟩ 0 z.length<|z.length+1) (⟨#[c]⟩:Str).length:=by unfold Txt.split;rw[if_neg h1,if_neg hf]
   refine nZ F.slot_str_split (dP _ _ _) F.entry_str_split (F.args_str_split_2 _ _) (meets_str_split_sep z _ t t2 jX rfl (Bool.eq_false_iff.mpr hf) (by lia)<|by rw[<-e];lia) ?_;refine(?_:wants _ _ _ {s with toks:=_,heap:=s.heap.push {cls:=.type "list",data:=.seq (strsFrom s.toks<|partsBetween z (occurrences z ⟨#[c]⟩ 0 z.length<|z.length+1) (⟨#[c]⟩:Str).length).toArray}});rw[strsFrom_eq];exact key (numbered s.toks _) _ _<|(numbered_texts _ _).trans e.symm
end
end L3
namespace L3
open PySem PySem.Spec PyProof.Rows L2
section
variable{X:Cx}
def zh:qv X (.type "int") (λxs H Q=>∃n:Int,xs=[.str (bO n)]/\0<=n/\n<10^10/\Q (.int n) H):=by intro aC s σ H xs us Q I r h;obtain⟨n,rfl,h0,h1,q⟩:=h;obtain⟨u,rfl,t,rfl⟩:=qw r;exact PySem.W.KIN.call_num h0 h1<|lc (.int n) H ⟨I.tok _,⟨_,rfl⟩,q⟩
end
noncomputable def Jel(K:av)(a:aE):It:=
 ⟨λi H=>∃xs x,SqL K H a xs/\xs[i]?=some x,λi H v H'=>∃p x,H p=none/\v=.ref p/\H'=upd H p (.tup [.int i,x])/\∀xs,SqL K H a xs->xs[i]?=some x,λi H=>∃xs,SqL K H a xs/\xs.length<=i⟩
def aiq{P:aK}{w:aN}{K:av}{kW:U Expr}{x1}{pos:eB}(a e I:aE)(eG:e≠I) :
  tL P w K (.Tuple kW x1 pos) (Jel K a) [e,I] e (λi h=>(∃jO,gA h e I i jO)/\h.IsListIter I a i):=by
 refine aeh (Jel K a) e I eG (λi h=>h.IsListIter I a i) (λi h st=>?_) (λi h h' st k=>?_) (λX hP hw hK i aC s σ H Iv st hg=>?_) λX hP hw hK i aC s σ H Iv st hg A' R E' hh q=>?_
 .obtain⟨o,ho,c,d⟩:=st;exact⟨o,ho,λv z=>by rw[d]at z;cases z⟩
 .obtain⟨o,ho,r⟩:=st;exact⟨o,k o ho,r⟩
 .subst hP hw hK;obtain⟨xs,x,hq,hx⟩:=hg;obtain⟨its,rv,p,hz⟩:=Iv.list hq;obtain⟨u,hu,ru⟩:=rv.get hx;refine⟨λu'=>u'=u,λu' hu'=>?_,λA' R E' q=>?_⟩
  .subst hu';exact⟨x,ru,s.heap.objs.size,x,Iv.hok.fresh<|aq _,rfl,rfl,λys hy=>by rw[Iv.list_inj hy hq];exact hx⟩
  .exact wpAny_nextOf_list_item st p.isList (x:=u) (by simpa using hu) λg aP sb=>q u g s.toks rfl aP sb
 .subst hP hw hK;obtain⟨xs,hq,hx⟩:=hg;obtain⟨its,rv,p,hz⟩:=Iv.list hq;have hl:=rv.length;exact wpAny_nextOf_list_end hh st p.isList (by simp;lia) q
section
variable{X:Cx}{kW:U Expr}{x1:Nat}{tT p pos:eB}{a:Expr}{ta:TA}
def ay9(K:av)(ta:TA):TI:=λσ H R=>ta σ H λvs H1=>∃a,vs=[.ref a]/\(∃xs,SqL K H1 a xs)/\R (Jel K a) H1
def auy(hg:Gl X "enumerate")(hm:X.mg "enumerate" = none)(ha:PA X [a] ta)(hs:o7 a=true:=by rfl):PI X (.Tuple kW x1 tT) (.Call (.Name "enumerate" p) [a] [] pos) (ay9 X.K ta):=by
 intro aC s σ H R I h;refine Call_<|sv I hg hm boot_enumerate<|e9 (thn (ha pos aC s σ H _ I h) λus s1 ⟨vs,H1,I1,r1,q1⟩=>?_) (m8 hs) rfl;obtain⟨b,e,⟨xs,hq⟩,q⟩:=q1;subst e;obtain⟨u,rfl,ru⟩:=qw r1;cases (show u=aA.ref b from ru);obtain⟨its,rv,pl,hz⟩:=I1.list hq;refine call_enumerate_list (l:=b) pl.isList λg he hi _ kp=>jS (s:={s1 with heap:=g}) he ?_;refine⟨s1.heap.objs.size+1,[s1.heap.objs.size+1,s1.heap.objs.size],_,_,H1,rfl,I1.kept (t':=s1.toks) kp,aiq b (s1.heap.objs.size+1) s1.heap.objs.size<|Nat.succ_ne_self _,⟨⟨_,he⟩,hi⟩,λc hc=>?_,q⟩;rcases ar.mp hc with z|z
 .subst z;exact I1.fpOk (by lia)<|I1.hok.fresh<|by lia
 .rw[ay.mp z];exact I1.fpOk (aq _)<|I1.hok.fresh<|aq _
end
def asi{K:av}{a:aE}{xs:U V}{g:TG}{tb:TS}{D:oY}{σ:L2.St}{H:Hp}(Pv:Nat->L2.St->Hp->Prop)(h0:Pv 0 σ H)(hl:∀i σ H,Pv i σ H->SqL K H a xs)
  (hs:∀i x p σ H,xs[i]?=some x->H p=none->Pv i σ H->g (.ref p) σ (upd H p<|.tup [.int (i:Nat),x]) λσ2 H2=>tb {D with nx:=Pv<|i+1,ct:=Pv<|i+1,bk:=D.nx} σ2 H2) (hd:∀σ H,Pv xs.length σ H->D.nx σ H) :
  ∃W:Nat->Nat->L2.St->Hp->Prop,(∃m,W 0 m σ H)/\∀i m σ H,W i m σ H->
   ((Jel K a).stop i H/\D.nx σ H)\/((Jel K a).go i H/\∃N:L2.St->Hp->Prop,(∀σ' H',N σ' H'->∃m',m'<m/\W (i+1) m' σ' H')/\∀v H',(Jel K a).yld i H v H'->g v σ H' λσ2 H2=>tb {D with nx:=N,ct:=N,bk:=D.nx} σ2 H2):=by
 refine ak4 (Jel K a) xs.length Pv h0 (λi σ H hi p=>⟨xs,xs[i],hl i σ H p,by simp[hi]⟩) (λσ H p=>⟨xs,hl _ σ H p,aq _⟩) (λi v σ H H' hi p y=>?_) hd;obtain⟨b,x,hb,rfl,rfl,hx⟩:=y;exact hs i x b σ H (hx xs<|hl i σ H p) hb p
section
variable{X:Cx}
noncomputable def azd:Option Int->Str
 | some i=>bO i
 | none=>"None"
theorem aje:qv X (.type "str") (λxs H Q=>∃o:Option Int,xs=[match o with|some i=>V.int i|none=>.non]/\(∀i,o=some i->i.natAbs.log2<1920)/\Q (.str<|azd o) H):=by
 intro aC s σ H xs us Q I r h;obtain⟨o,rfl,hz,q⟩:=h;obtain⟨u,rfl,ru⟩:=qw r;cases o with
 | some i=>
  obtain⟨t,rfl⟩:=ru;exact PySem.P.str_of_int (hz i rfl) ⟨.str _,H,I.tok _,⟨_,rfl⟩,q⟩
 | none=>
  cases (show u=aA.none from ru);exact PySem.P.str_of_none ⟨.str _,H,I.tok _,⟨_,rfl⟩,q⟩
end
section
variable{prog:aK}{w:aN}{A:Around}{E:aA->aB->Prop}
theorem aey{it t:aE}{items:Array aA}(eG:t≠it):∀(n i:Nat)(s:aB)(Q:U aA->aB->Prop),s.heap.IsListIter it t i->s.heap.IsList t items->i+n<=items.size->
  (∀h',h'.IsListIter it t (i+n)->b7 it s.heap h'->Q ((items.toList.drop i).take n) {s with heap:=h'})->aG (aH prog w) A (draw (.ref it) n) Q E s
 | 0,i,s,Q,iA,_,_,hQ=>by show aG _ _ (aT []) Q E s;exact ai (by simpa using hQ s.heap iA (b7.refl ..))
 | n+1,i,s,Q,iA,ht,uR,hQ=>by
  have cF:i<items.size:=by omega
  show aG _ _ (bB (.ref it) >>= _) Q E s;refine aa<|sS iA ht (x:=items[i]) (by simp[cF]) λh₁ yM Bm=>?_;refine aa<|db<|aey eG n (i+1) _ _ yM (ht.extBut Bm.extBut eG) (by omega) λh₂ GC hs₂=>ai ?_;have hd:items.toList.drop i=items[i]::items.toList.drop (i+1):=by simp[List.drop_eq_getElem_cons,cF]
  have:=hQ h₂ (by rw[show i+(n+1)=i+1+n by omega];exact GC)<|Bm.trans hs₂;rw[hd,List.take_succ_cons]at this;exact this
variable{s:aB}
def zn{t:aE}{items:Array aA}{Q:U aA->aB->Prop}(hh:A.handled=none)(ht:s.heap.IsList t items)
  (hQ:∀h',ke s.heap.objs.size s.heap h'->Q items.toList {s with heap:=h'}):aG (aH prog w) A (unpackItems (.ref t) items.size none) Q E s:=by
 have cF:t≠s.heap.objs.size:=by obtain⟨o,ho,_⟩:=ht;exact cj<|be ho
 unfold unpackItems;refine aa ?_
 .unfold notIterableAtAll;refine aa<|cY ht.typeIs slot_list_iter.lookup ?_;refine ai ?_;simp only[a0,if_false];refine aa<|db<|jn ht ?_;refine aa<|db<|aey cF items.size 0 _ _ ⟨_,a6 _ rfl,rfl,rfl⟩ (ht.at λo e=>ah _ e) (by omega) λh₁ yM Bm=>?_;have bI:List.take items.size (List.drop 0 items.toList)=items.toList:=by
   rw[ja];exact au<|by simp
  rw[bI];rw[if_neg (by simp)];have ht₁:h₁.IsList t items:=(ht.at λo e=>ah _ e:Heap.IsList (s.heap.push _) t items).extBut Bm.extBut cF;refine aa<|db<|tR hh yM ht₁ (by simp) λh₂ he₂=>?_;simp only[Option.isSome_none,a0,if_false];refine ai<|hQ h₂ λb o hb e=>he₂ b o hb<|Bm.extBut b o hb<|ah _ e
end
def ayz(K:av)(n:Nat)(t:TGs):TG:=λv σ H Q=>∃a xs,v=.ref a/\SqL K H a xs/\xs.length=n/\t xs σ H Q
section
variable{X:Cx}{pos:eB}
def atb{es:U Expr}{k:Nat}{t:TGs}{n:Nat}(hc:X.calm=true)(h:PGs X es t)
  (hn:(bZ es X.env).length=n:=by rfl) (bS:(bZ es X.env).findIdx? (·.1)=none:=by rfl):PG X (.Tuple es k pos) (ayz X.K n t):=by
 intro aC s σ H v u Q I r hw;obtain⟨a,xs,e1,hq,hl,hw⟩:=hw;subst e1;cases r;obtain⟨its,rv,ht,hz⟩:=I.list hq;rw[assign_Tuple];refine aa<|fH ?_;unfold unpack;have e:(bZ es X.env).length=its.toArray.size:=by simp[hn,<-hl,rv.length]
 rw[e,bS];refine aa<|db<|zn (I.ok.hd hc) ht.isList λh' hx=>?_;have I1:Inv X aC σ H {s with heap:=h'}:=I.kept (t':=s.toks) λb o e=>hx b o (cj<|be e) e;exact h aC _ σ H xs _ Q I1 (by simpa using rv) hw
end
section
variable{X:Cx}{N:U Str}{scope:cX}{z:CZ}
def ato{o e:Expr}{es:U Expr}{to:TE}{t:TA}{name:Str}{iN dZ:eB}{T id:String}{r:V->U V->Hp->VK->Prop}(pa:PlainAttrs T)(slot:Slot T name id)(FR:typeOf (.builtin id)=aT (.type "method_descriptor"))(hm:MtR (mq X N scope z) id r)(ho:PE (mq X N scope z) o to)(ha:PA (mq X N scope z) (e::es) t)
  (rM:pX o name (mq X N scope z).env (cD o (mq X N scope z).env)=cD o (mq X N scope z).env:=by rfl)
  (yN:((bN dZ<|aQ (e::es) (mq X N scope z).env).all (λx=>!x.1)&&(oB dZ<|hV [] (mq X N scope z).env).all (λx=>x.1.isSome)
   && decide ((e::es).length+([]:U iO).length+(if ([]:U iO).isEmpty then 0 else 1)<30))=true:=by rfl)
  (eS:(iN.endLine==dZ.line)=true:=by rfl) (hs:aQ (e::es) (mq X N scope z).env=(false,cD e (mq X N scope z).env)::aQ es (mq X N scope z).env:=by rfl) (mQ:(bN dZ<|aQ es (mq X N scope z).env).any (·.1)=false:=by rfl) :
  PE (mq X N scope z) (.Call (.Attribute o name iN) (e::es) [] dZ) (tBM X.K T r to t):=rh (X:=mq X N scope z) pa slot FR hm ho ha rM yN eS hs mQ
end
end L3
namespace L3
open PySem PyProof.Rows L2
def ap9{σ:L2.St}{H:Hp}{Q:Option Int->Hp->Prop}(h:Q none H):amp σ H Q:=h
def JK{s1 s2:TS}{D:oY}{σ:L2.St}{H:Hp}(R:L2.St->Hp->Prop)(h:∀σ' G',R σ' G'->s2 D σ' G')(h1:∀D':oY,(∀σ' G',R σ' G'->D'.nx σ' G')->D'.rt=D.rt->s1 D' σ H):ax7 s1 s2 D σ H:=h1 {D with nx:=s2 D} h rfl
end L3
namespace L3
open PySem PySem.Spec PyProof.Rows L2
def aq7{D:aE}{i:Nat}{Pv:Nat->U V->Hp->Prop}{G:Hp}{ys:U V}{y:V}(hi:i<4000)(hD:G D=some (.lst ys))(hl:ys.length<=i)(h:Pv (i+1) (ys++[y]) (upd G D<|.lst<|ys++[y])):∃xs,G D=some (.lst xs)/\xs.length<aF/\Nx D i Pv (upd G D<|.lst<|xs++[y]):=
 ⟨ys,hD,by rw[jl];lia,ys++[y],kr,by rw[bn,et];lia,h⟩
noncomputable def oC(p:Z9->Bool)(ds:U Z9)(xs:U V)(i:Nat):U V:=(((ds.zip xs).take i).filter λq=>p q.1).map (·.2)
def ana(p:Z9->Bool){ds:U Z9}{xs:U V}{i:Nat}{d:Z9}{x:V}(h1:ds[i]?=some d)(h2:xs[i]?=some x):oC p ds xs (i+1)=oC p ds xs i++if p d=true then[x]else[]:=by
 have h:(ds.zip xs)[i]?=some (d,x):=List.getElem?_zip_eq_some.mpr ⟨h1,h2⟩;unfold oC;rw[jo,h,List.filter_append,bb]
 congr 1
 cases hp:p d<;>simp[hp]
theorem JJ{H:Hp}(p:Z9->Bool):∀{ds:U Z9} {xs:U V},RepAll H ds xs->RepAll H (ds.filter p) (oC p ds xs xs.length)
 | [],xs,h=>by cases (show xs=[]from h);exact rfl
 | d::ds,xs,⟨x,r,e,h1,h2⟩=>by
  subst e;have ih:=JJ p h2;unfold oC at ih⊢;rw[List.zip_cons_cons,bj,List.take_succ_cons,List.filter_cons,List.filter_cons];by_cases hp:p d=true
  .rw[if_pos hp,if_pos hp,dg];exact⟨x,_,rfl,h1,ih⟩
  .rw[if_neg hp,if_neg hp];exact ih
theorem av8{D:aE}{i:Nat}{p:Z9->Bool}{ds:U Z9}{xs:U V}{d:Z9}{x:V}{S:Hp->Prop}{G:Hp}(hi:i<4000)(hd:ds[i]?=some d)(hx:xs[i]?=some x)(hD:G D=some (.lst<|oC p ds xs i))(hl:(oC p ds xs i).length<=i)(hS:S G)(hN:S (upd G D<|.lst<|oC p ds xs i++[x])){b:Bool}(hb:p d=b){te:VK->Prop}(hte:∀Q:VK,Q x G->te Q) :
  if b=true then te (λy H4=>∃ys,H4 D=some (.lst ys)/\ys.length<aF/\Nx D i (λj zs J=>S J/\zs=oC p ds xs j) (upd H4 D<|.lst<|ys++[y]))else Nx D i (λj zs J=>S J/\zs=oC p ds xs j) G:=by
 have e:=ana p hd hx;rw[hb]at e;cases b with
 | true=>
  rw[if_pos rfl];rw[if_pos rfl]at e;exact hte _ (aq7 hi hD hl ⟨hN,e.symm⟩)
 | false=>
  rw[if_neg ak];rw[if_neg ak,ie]at e;exact⟨_,hD,Nat.le_succ_of_le hl,hS,e.symm⟩
section
variable{X:Cx}{a b:Expr}{es:U Expr}{te:TE}{pos:eB}
def tFv(t:TE):TE:=λσ H Q=>t σ H λx H1=>∃z,x=.str z/\z.length<=aF/\Q (.str z) H1
def Iw(h:PE X a te):PE X (.FormattedValue a (-1) none pos) (tFv te):=by intro aC s σ H Q I hq;refine wpAny_FormattedValue_plain<|thn (h aC s σ H _ I hq) λu s1 ⟨x,H1,I1,r,z,e,hz,q⟩=>?_;subst e;obtain⟨t,rfl⟩:=r;exact wpAny_formatField_str ⟨.str z,H1,I1,⟨_,rfl⟩,q⟩ ⟨.str z,H1,I1.tok _,⟨_,rfl⟩,q⟩ hz
abbrev TJ:=Str->L2.St->Hp->(Str->Hp->Prop)->Prop
def PJ(X:Cx)(es:U Expr)(t:TJ):Prop:=
 ∀(aC:U (aE×Obj)) (s:aB) (σ:L2.St) (H:Hp) (eO:Str) (Q:Str->Hp->Prop),Inv X aC σ H s->t eO σ H Q->Joins (aH X.prog X.w) X.A X.xe (evalEach es X.env) eO (λout s1=>∃H',Inv X aC σ H' s1/\out.length<=aF/\Q out H') s
noncomputable def tJ0:TJ:=λeO _ H Q=>eO.length<=aF/\Q eO H
noncomputable def tJc(te:TE)(t:TJ):TJ:=λeO σ H Q=>te σ H λx H1=>∃y,x=.str y/\(eO++y).length<=aF/\t (eO++y) σ H1 Q
def ax5:PJ X [] tJ0:=λ_ _ _ H _ _ I h=>⟨H,I,h⟩
def Az{t:TJ}(ha:PE X a te)(h:PJ X es t):PJ X (a::es) (tJc te t):=by intro aC s σ H eO Q I hq;show aG _ _ (cD a X.env) _ _ s;refine thn (ha aC s σ H _ I hq) λu s1 ⟨x,H1,I1,r,y,e,hz,q⟩=>?_;subst e;obtain⟨t,rfl⟩:=r;exact⟨y,t,rfl,hz,h aC s1 σ H1 _ Q I1 q⟩
def tJs(t:TJ):TE:=λσ H Q=>t Str.empty σ H λout H1=>Q (.str out) H1
theorem abt{M:Dg}{A:Around}{E:aA->aB->Prop}{Q Q':Str->aB->Prop}(h:∀o s,Q o s->Q' o s):∀(l:U (oE aA)) (eO:Str) (s:aB),Joins M A E l eO Q s->Joins M A E l eO Q' s
 | [],_,_,j=>h _ _ j
 | _::l,_,_,j=>thn j λ_ _ ⟨y,t,e,z,q⟩=>⟨y,t,e,z,abt h l _ _ q⟩
def ati{t:TJ}(h:PJ X (a::b::es) t):PE X (.JoinedStr (a::b::es) pos) (tJs t):=by intro aC s σ H Q I hq;refine wpAny_JoinedStr<|abt (λo s1 ⟨H1,I1,z,q⟩=>⟨z,?_⟩) _ _ _<|h aC s σ H _ _ I hq;exact⟨.str o,H1,I1.tok _,⟨_,rfl⟩,q⟩
end
end L3
namespace L3
open PySem PyProof.Rows L2
def axl{P:U aA->Prop}(h:P []):∀us:U aA,us.length=0->P us:=λus e=>by cases us with|nil=>exact h|cons a t=>cases e
def Ez{P:U aA->Prop}{n:Nat}(h:∀a (t:U aA),t.length=n->P (a::t)):∀us:U aA,us.length=n+1->P us:=λus e=>by cases us with|nil=>cases e|cons a t=>exact h a t<|Nat.succ.inj e
def aui{P:U aA->Prop}(h:∀a,P [a]):∀us:U aA,us.length=1->P us:=Ez (n:=0) λa=>axl (P:=λt=>P (a::t))<|h a
def at4{P:U aA->Prop}(h:∀a b,P [a,b]):∀us:U aA,us.length=2->P us:=Ez (n:=1) λa=>aui (P:=λt=>P (a::t))<|h a
def av4{P:U aA->Prop}(h:∀a b c,P [a,b,c]):∀us:U aA,us.length=3->P us:=Ez (n:=2) λa=>at4 (P:=λt=>P (a::t))<|h a
def axf{P:U aA->Prop}(h:∀a b c d,P [a,b,c,d]):∀us:U aA,us.length=4->P us:=Ez (n:=3) λa=>av4 (P:=λt=>P (a::t))<|h a
def Df(K:av)(n:Str)(st:aW):Prop:=∃f fd,ci K aM n=some (some<|.ref f)/\Fun K n n st f fd
def df_mk{K:av}{n:Str}{st:aW}{f:aE}{oc:aA}{od an:Option aE}{sl:Array (Option aA)}{kV dc pm cd ct:aA}(a:ci K aM n=some (some<|.ref f))
  (l:K.lookup f=some ⟨oc,od,.func<|j9 n n (wx st) (v7 st) (k9 st) .none kV dc pm an cd ct,sl⟩) (c:PySem.W.codeIn K cd n=true) (k:PySem.W.keepIn K (.ref f)=true):Df K n st:=(lc f _ ⟨a,avg l c k⟩)
def DfX(P:aK)(w:aN)(K:av)(mg:Str->Option aA)(base h:Heap):Prop:=P=P/\w=w/\base=base/\K.In h/\h.Ns aM mg
theorem Df.fx{P:aK}{w:aN}{K:av}{h base:Heap}{mg:Str->Option aA}{n:Str}{st:aW}{d:Nat}{ps:U Str}{sp:Sp}(D:Df K n st)(Y:DfX P w K mg base h)(ok:∀{f fd},Fun K n n st f fd->qp P w K mg base CX0 d f fd ps sp)
  (b:∀(kV jJ pm:aA)(an:Option aE)(bT ct:aA)(us:U aA),us.length=ps.length->bindArgs (j9 n n (wx st) (v7 st) (k9 st) .none kV jJ pm an bT ct) ⟨us,[]⟩=aT (ps.zip us):=by
   intro _ _ _ _ _ _;first
   | exact aui (λ_=>rfl)
   | exact at4 (λ_ _=>rfl)
   | exact av4 (λ_ _ _=>rfl)
   | exact axf λ_ _ _ _=>rfl):Fn P w K mg base n d ps sp:=by
 obtain⟨f,fd,a,F⟩:=D;exact(lc f fd ⟨ok F,gm Y.2.2.2.1 Y.2.2.2.2 a,F.kp,F.binds b⟩)
end L3
namespace K12
open PySem PyProof.Rows L2 L3
noncomputable def top(i:Nat):aW:=PySem.Challenge.pw_coverpieces_k12_shown_and_read.main.body.getD i<|.Pass ⟨0,0,0,0⟩
noncomputable abbrev sPw:aW:=top 2
noncomputable abbrev sPs:aW:=top 3
noncomputable abbrev Hy:aW:=top 24
noncomputable abbrev HM:aW:=top 25
noncomputable abbrev sPf:aW:=top 26
noncomputable abbrev HH:aW:=top 27
noncomputable abbrev sPh:aW:=top 28
noncomputable abbrev sTa:aW:=top 29
noncomputable abbrev Ic:aW:=top 57
noncomputable abbrev IR:aW:=top 58
noncomputable abbrev Ih:aW:=top 59
noncomputable abbrev IW:aW:=top 60
noncomputable abbrev IN:aW:=top 61
noncomputable abbrev Jd:aW:=top 62
noncomputable abbrev Ir:aW:=top 63
noncomputable abbrev HP:aW:=top 4
noncomputable abbrev Ii:aW:=top 12
noncomputable abbrev HK:aW:=top 18
noncomputable abbrev Ik:aW:=top 19
noncomputable abbrev Hw:aW:=top 20
noncomputable abbrev HY:aW:=top 34
noncomputable abbrev Iu:aW:=top 35
noncomputable abbrev HG:aW:=top 36
noncomputable abbrev Hx:aW:=top 37
noncomputable abbrev Ja:aW:=top 38
noncomputable abbrev IL:aW:=top 39
noncomputable abbrev IB:aW:=top 40
noncomputable abbrev IJ:aW:=top 64
noncomputable abbrev IX:aW:=top 65
noncomputable abbrev Jp:aW:=top 66
noncomputable abbrev Ji:aW:=top 67
noncomputable abbrev Ip:aW:=top 68
noncomputable abbrev II:aW:=top 52
noncomputable abbrev IH:aW:=top 53
noncomputable abbrev Jb:aW:=top 54
noncomputable abbrev Ie:aW:=top 55
noncomputable abbrev AA:aW:=top 71
noncomputable abbrev Hz:aW:=top 5
noncomputable abbrev Jc:aW:=top 21
noncomputable abbrev Ij:aW:=top 45
noncomputable abbrev HL:aW:=top 46
noncomputable abbrev HQ:aW:=top 47
noncomputable abbrev HS:aW:=top 48
noncomputable abbrev ID:aW:=top 49
noncomputable abbrev sRk:aW:=top 50
noncomputable abbrev sRf:aW:=top 51
noncomputable abbrev IE:aW:=top 69
noncomputable abbrev HJ:aW:=top 70
noncomputable def sw:U Str:=["len","min","max","sorted","tuple","list","isinstance","bool","range","str","int","all","any","abs","set","enumerate"]
section
variable{P:aK}{w:aN}{K:av}{mg:Str->Option aA}{base:Heap}{f:aE}{fd:cM}
def ax9:(0:Int)<10^(Int.toNat 60):=by decide
def pwM:(0:Int)<2305843009213693951:=by decide
def apk(K:av):Sp:=λvs H Q _=>∃(a:aE)(ns:U Int)(k:Int),vs=[.ref a,.int k]/\SqL K H a (ns.map V.int)/\0<=k/\∀c:Int,Q (.int c) H
def aun:lq ZV ZV (k9 Ic):={}
def aqz(B:∀x∈sw,mg x=none)(F:Fun K "_law_cell_at" "_law_cell_at" Ic f fd):qp P w K mg base CX0 1 f fd ZV (apk K):=by
 refine F.ok (k:=0) aun (λvs H Q E h=>?_) λbT A outer s H vs Q E hr h=>?_
 .obtain⟨a,ns,k,rfl,_⟩:=h;rfl
 obtain⟨a,ns,k,rfl,ha,hk,q⟩:=h;refine⟨_,(kl (qm (ot avj (pv 1) (mj m7 rfl (B "len"<|by decide) cb<|kq (pv 0) kh)<|nw _) (ku<|li<|nc AJ (mi nv (pv 0) (pv 1) λ_ _=>rfl)<|nc aqb km km) ng)
  (ku<|li km)),?_⟩
 refine(su _ rfl _ rfl a _ rfl (.inl ha) _<|m9 _ rfl rfl _ ⟨rfl,?_⟩);refine ur (λc=>?_) λc=>?_
 .have c':k<(((ns.map V.int).length:Nat):Int):=of_decide_eq_true c;rw[ae]at c';obtain⟨j,rfl⟩:=cn hk;have hj:j<ns.length:=by lia
  have hv:atI (ns.map V.int) (j:Int)=some (.int ns[j]):=ni (by rw[a8,af hj];rfl);refine(oh _ rfl _ rfl a _ _<|ak3 _ rfl rfl ha hv _ _ ⟨rfl,rfl,⟨by decide,by decide,by decide⟩,(lc _ _ ⟨rfl,rfl,ax9,q _⟩)⟩)
 .exact q _
def aks:Sp:=λvs H Q _=>∃c k:Int,vs=[.int c,.int k]/\∀p n,H p=none->Q (.ref p) (upd H p<|.lst [.int n])
def arp:lq ZU ZU (k9 IR):={}
def aok(F:Fun K "_law_state" "_law_state" IR f fd):qp P w K mg base CX0 1 f fd ZU aks:=by
 refine F.ok (k:=0) arp (λvs H Q E h=>?_) λbT A outer s H vs Q E hr h=>?_
 .obtain⟨c,k,rfl,_⟩:=h;rfl
 obtain⟨c,k,rfl,q⟩:=h;refine⟨_,(ku<|li<|pj<|kq (nc AJ (nc o9 (nc o9 (nc C1 (nc AJ (pv 0)<|nc aqb km km) km)<|nc C1 km<|pv 1) km) km) kh),?_⟩;refine⟨_,rfl,_,_,rfl,rfl,⟨by decide,by decide,by decide⟩,_,_,rfl,rfl,ax9,_,_,rfl,rfl,.inr ⟨by decide,by decide⟩,_,rfl,_,_,rfl,rfl,.inl ⟨by decide,by decide⟩,_,_,rfl,rfl,_,_,rfl,rfl,_,_,rfl,rfl,pwM,
  sZ1,λp hp=>q p _ hp⟩
def StL(xs:U V):Prop:=∃n:Int,xs=[.int n]
def apf:Sp:=λvs H Q _=>∃(st:aE)(n:U V)(m:Int),vs=[.ref st,.int m]/\H st=some (.lst n)/\StL n/\0<m/\m<=1000/\∀(n':U V)(i:Int),StL n'->0<=i->i<m->Q (.int i) (upd H st<|.lst n')
def avx:lq ZT ZT (k9 Ih):={}
def ara(F:Fun K "_law_next" "_law_next" Ih f fd):qp P w K mg base CX0 1 f fd ZT apf:=by
 refine F.ok (k:=0) avx (λvs H Q E h=>?_) λbT A outer s H vs Q E hr h=>?_
 .obtain⟨st,n,m,rfl,_⟩:=h;rfl
 obtain⟨st,sx,m,rfl,bS,⟨n,rfl⟩,hm,Gs,q⟩:=h;refine⟨_,(kl (C3 (nc AJ (nc o9 (nc C1 (mi nv (pv 0) km λ_ _=>rfl) km) km) km)<|as8 (pv 0) km ao9)
  (ku<|li<|nc AJ (nc asn (mi nv (pv 0) km λ_ _=>rfl) km)<|pv 1)),?_⟩
 refine(kj _ rfl st _ _ _ ⟨rfl,rfl,SqL.of bS,rfl,(amy _ _ rfl rfl (.inr ⟨by decide,by decide⟩) _ _ ⟨rfl,rfl,(lc _ _ ⟨rfl,rfl,pwM,?_⟩)⟩)⟩);refine(kj _ rfl st _ _ 0 ⟨rfl,rfl,bS,rfl,?_⟩);refine(kj _ rfl st _ _ _ ⟨rfl,rfl,SqL.of kr,rfl,(lc _ _ ⟨rfl,rfl,⟨by decide,by decide⟩,(nk _ rfl _ _ ⟨rfl,rfl,hm,?_⟩)⟩)⟩);exact q _ _ ⟨_,rfl⟩ (Int.emod_nonneg _<|by lia)<|Int.emod_lt_of_pos _ hm
noncomputable abbrev yc(P:aK)(w:aN)(K:av)(mg:Str->Option aA)(base:Heap):Prop:=Fn P w K mg base "_law_next" 1 ZT apf
def Eu(x:Str):Prop:=0<x.length/\x.length<=26/\∀c∈x.cps.toList,65<=c/\c<=90
def ajv:Sp:=λvs H Q _=>∃(st:aE)(n:U V),vs=[.ref st]/\H st=some (.lst n)/\StL n/\∀(x:Str)(H':Hp)(n':U V),Eu x->Ex [st] H H'->H' st=some (.lst n')->StL n'->Q (.str x) H'
def aqj:lq Z5 Z5 (k9 IW):={}
def zC{α:Type}{xs:List α}{i:Int}(h0:0<=i)(h1:i<xs.length):∃x,atI xs i=some x/\x∈xs:=by
 obtain⟨j,rfl⟩:=cn h0;have hj:j<xs.length:=by lia
 exact⟨xs[j],ni<|af hj,fk hj⟩
def sgL{z:Str}(h:0<z.length/\z.length<=26/\z.cps.toList.all (λc=>decide (65<=c)&&decide (c<=90))=true):Eu z:=⟨h.1,h.2.1,λc hc=>by simpa using bz.mp h.2.2 c hc⟩
def aod(bJ:yc P w K mg base)(F:Fun K "_law_signs" "_law_signs" IW f fd):qp P w K mg base CX0 2 f fd Z5 ajv:=by
 refine F.ok (k:=1) aqj (λvs H Q E h=>?_) λbT A outer s H vs Q E hr h=>?_
 .obtain⟨st,n,rfl,_⟩:=h;rfl
 obtain⟨st,n,rfl,bS,hn,q⟩:=h;refine⟨_,(ku<|li<|mi nv (pj<|kq l7<|kq l7<|kq l7<|kq l7 kh) (lv bJ hr (by decide) rfl<|kq (pv 0)<|kq km kh) λ_ _=>rfl),?_⟩;refine⟨sZ4,λp hp=>?_⟩;have eG:p≠st:=λe=>by rw[e,bS]at hp;cases hp
 refine(oj _ rfl st n 4 ⟨rfl,by rw[lg (Ne.symm eG)];exact bS,hn,by decide,by decide,λn' i fQ h0 h4=>?_⟩);obtain⟨x,hx,hm⟩:=zC (α:=V) (xs:=[V.str "ABCDEFGHIJKLMNOPQRSTUVWXYZ",V.str "AB",V.str "A",V.str "QZ"]) h0 h4;have hs:∃z,x=.str z/\Eu z:=by simp only[ar,dz,or_false]at hm;rcases hm with rfl|rfl|rfl|rfl<;>exact⟨_,rfl,sgL<|by decide +kernel⟩
 obtain⟨z,rfl,hz⟩:=hs;refine(my p _ i _ ⟨rfl,rfl,SqL.of<|by rw[lg eG];exact kr,hx,?_⟩);exact q z _ n' hz ((Ex.fresh hp).trans (Ex.upd<|by simp)) kr fQ
noncomputable def cl(d:Z9):Cl:=(kE d,kC d)
def xp{H:Hp}{cs:U Z9}{xs:U V}{i:Nat}{v:V}(h:Cells cs)(r:RepAll H cs xs)(e:xs[i]?=some v):∃(a:aE)(p q:Int),v=.ref a/\H a=some (.tup [.int p,.int q])/\cs[i]?=some (.tuple [.int p,.int q]):=by obtain⟨d,e1,e2⟩:=r.at e;obtain⟨p,q,rfl⟩:=h d<|aj e1;obtain⟨a,e3,e4⟩:=aog e2;exact(mf a p q ⟨e3,e4,e1⟩)
def alh:Sp:=λvs H Q _=>∃(st:aE)(n:U V)(m:Int),vs=[.ref st,.int m]/\H st=some (.lst n)/\StL n/\0<m/\m<=100/\
 ∀(r:aE)(H':Hp)(n':U V)(xs:U V)(cs:U Z9),H r=none->Ex [st] H H'->H' st=some (.lst n')->StL n'->H' r=some (.lst xs)->RepAll H' cs xs->Cells cs->Conn (cs.map cl)->(cs.map cl).Nodup->0<cs.length->(cs.length:Int)<=m->Q (.ref r) H'
def scGrown:lq ["_law_state_here","_law_most","_law_cells","_law_k","_law_row","_law_column","_law_down","_law_right"] ZY (k9 IN):={}
def anq(B:∀x∈sw,mg x=none)(bJ:yc P w K mg base)(F:Fun K "_law_grown" "_law_grown" IN f fd):qp P w K mg base CX0 2 f fd ZY alh:=by
 refine F.ok (k:=1) scGrown (λvs H Q E h=>?_) λbT A outer s H vs Q E hr h=>?_
 .obtain⟨st,n,m,rfl,_⟩:=h;rfl
 obtain⟨st,n,m,rfl,bS,BG,Gu,Gs,q⟩:=h;have hu:=hr.units;refine⟨_,(kl (me (i:=2) scGrown.nd rfl (Or.inl rfl)<|pj<|kq (o6<|kq km<|kq km kh) kh)
  (kl (ut fq rfl (zm rfl (B "range"<|by decide)<|kq (lv bJ hr (by decide) rfl<|kq (pv 0)<|kq (pv 1) kh) kh) (k7 (i:=3) scGrown.nd rfl<|Or.inl rfl) (kl (C3 (mi nv (pv 2) (lv bJ hr (by decide) rfl<|kq (pv 0)<|kq (mj m7 rfl (B "len"<|by decide) cb<|kq (pv 2) kh) kh) λ_ _=>rfl)<|wq (n:=2) rfl<|lm (k7 (i:=4) scGrown.nd rfl<|Or.inl rfl)<|lm (k7 (i:=5) scGrown.nd rfl<|Or.inl rfl) qc)
  (kl (C3 (mi nv (pj<|kq (o6<|kq km<|kq km kh)<|kq (o6<|kq km<|kq km kh)<|kq (o6<|kq km<|kq (avi apo km) kh)<|kq (o6<|kq (avi apo km)<|kq km kh) kh) (lv bJ hr (by decide) rfl<|kq (pv 0)<|kq km kh) λ_ _=>rfl)<|wq (n:=2) rfl<|lm (k7 (i:=6) scGrown.nd rfl<|Or.inl rfl)<|lm (k7 (i:=7) scGrown.nd rfl<|Or.inl rfl) qc)
  (ku<|qm (ot (xk hu) (o6<|kq (nc o9 (pv 4)<|pv 6)<|kq (nc o9 (pv 5)<|pv 7) kh) (pv 2) rfl) (ku<|vy<|rh gn ge gf qk (pv 2)<|kq (o6<|kq (nc o9 (pv 4)<|pv 6)<|kq (nc o9 (pv 5)<|pv 7) kh) kh) ng))))
  (ku<|li<|pv 2))),?_⟩
 refine⟨sZ2,λp1 yB=>⟨sZ1,λp2 oK=>?_⟩⟩;obtain⟨Ga,yA⟩:=qi oK;have n1:st≠p1:=mw bS yB;have n2:st≠p2:=mw bS yA;have FU:upd (upd H p1<|.tup [.int 0,.int 0]) p2 (.lst [.ref p1]) st=some (.lst n):=by rw[lg n2,lg n1];exact bS
 refine(oh _ rfl _ rfl st n m ⟨rfl,FU,BG,Gu,by lia,λn' j jU hj0 hj1=>⟨j,rfl,by lia,by lia,?_⟩⟩);refine so (n:=j.toNat) (lo:=0) (λi σ' H'=>∃(x3 x4 x5 x6 x7:Option V)(n':U V)(xs:U V)(cs:U Z9),σ'=[some (.ref st),some<|.int m,some<|.ref p2,x3,x4,x5,x6,x7]/\Ex [st] H H'/\H' st=some (.lst n')/\StL n'/\H' p2=some (.lst xs)/\RepAll H' cs xs/\Cells cs/\Conn (cs.map cl)/\(cs.map cl).Nodup/\
  0<cs.length/\cs.length<=i+1) ?_ (λi σ' H' hi h=>?_) λσ' H' h=>?_
 .have e0:Ex [st] H (upd (upd H p1<|.tup [.int 0,.int 0]) p2<|.lst [.ref p1]):=(Ex.fresh yB).trans (Ex.fresh oK);have c0:upd (upd (upd H p1<|.tup [.int 0,.int 0]) p2<|.lst [.ref p1]) st (.lst n') p1=some (.tup [.int 0,.int 0]):=by
   rw[lg (Ne.symm n1),lg<|Ne.symm Ga];exact kr
  refine(lr none none none none none<|mf n' ([.ref p1]) ([.tuple [.int 0,.int 0]]) ⟨rfl,e0.trans<|Ex.upd<|by simp,kr,jU,by rw[lg (Ne.symm n2)];exact kr,(lc _ _ ⟨rfl,t7 c0,rfl⟩),λd hd=>?_,Conn.one _,by simp,by simp,by simp⟩);rw[ay.mp hd];exact(lc 0 0 rfl)
 .obtain⟨x3,x4,x5,x6,x7,FD,xs,cs,rfl,fJ,eF,yE,hp,fV,jG,oR,ls,fK,aX⟩:=h;have hxl:=fV.length;refine(uv _ rfl _ rfl _ rfl p2 xs ⟨rfl,.inl<|SqL.of hp,(mf st FD _ ⟨rfl,eF,yE,by lia,by lia,λxP i2 Gm Ei h21=>?_⟩)⟩);have jW:i2.toNat<xs.length:=by lia
  have e2:i2=((i2.toNat:Nat):Int):=by lia
  obtain⟨b,r,c,hv,hb,kR⟩:=xp jG fV<|af jW;have yS:atI xs i2=some (.ref b):=by rw[e2];exact ni<|by rw[af jW,hv]
  have nb:b≠st:=Ix hb eF (by intro z;cases z);refine(my p2 xs i2 _ ⟨rfl,rfl,SqL.of<|by rw[lg (Ne.symm n2)];exact hp,yS,(nj b _ rfl (SqT.of<|by rw[lg nb];exact hb) rfl _ _ rfl _ ⟨_,rfl,rfl,?_⟩)⟩);have exA:Ex [st] H (upd H' st<|.lst xP):=fJ.trans (Ex.upd<|by simp);have zZ:upd H' st (.lst xP) st=some (.lst xP):=kr;have pA:upd H' st (.lst xP) p2=some (.lst xs):=by rw[lg (Ne.symm n2)];exact hp
  have rA:RepAll (upd H' st<|.lst xP) cs xs:=fV.tk (Tk.lst eF) jG.imm;generalize upd H' st (.lst xP)=HA at *;refine⟨sZ2,λq1 xW=>⟨sZ2,λq2 nT=>?_⟩⟩;refine⟨_,rfl,sZ2,λq3 DV=>?_⟩;refine⟨_,rfl,sZ2,λq4 hq4=>⟨sZ4,λq5 hq5=>?_⟩⟩;have a2:=qi nT;have a3:=qi DV;have Hs:=qi a3.2;have a4:=qi hq4;have b4:=qi a4.2;have c4:=qi b4.2;have a5:=qi hq5;have b5:=qi a5.2;have c5:=qi b5.2;have d5:=qi c5.2;have same:Same HA (upd (upd (upd (upd (upd HA q1<|.tup [.int 0,.int 1]) q2<|.tup [.int 1,.int 0]) q3<|.tup [.int 0,.int<|-1]) q4<|.tup [.int (-1),.int 0]) q5<|.lst [.ref q1,.ref q2,.ref q3,.ref q4]):=
   ((((Same.fresh _ xW).trans (Same.fresh _ nT)).trans (Same.fresh _ DV)).trans (Same.fresh _ hq4)).trans (Same.fresh _ hq5)
  have Hg:∀v∈[V.ref q1,.ref q2,.ref q3,.ref q4],∃(b:aE)(d e:Int),((d=0/\(e=1\/e = -1))\/(e=0/\(d=1\/d = -1)))/\v=.ref b/\b≠st/\(upd (upd (upd (upd (upd HA q1<|.tup [.int 0,.int 1]) q2<|.tup [.int 1,.int 0]) q3<|.tup [.int 0,.int<|-1]) q4<|.tup [.int (-1),.int 0]) q5<|.lst [.ref q1,.ref q2,.ref q3,.ref q4]) b=some (.tup [.int d,.int e]):=by
   intro v hv;have m1:q1≠st:=λz=>by rw[z,zZ]at xW;cases xW
   have m2:q2≠st:=λz=>by rw[z,zZ]at a2;cases a2.2
   have m3:q3≠st:=λz=>by rw[z,zZ]at Hs;cases Hs.2
   have m4:q4≠st:=λz=>by rw[z,zZ]at c4;cases c4.2
   rcases ar.mp hv with rfl|hv
   .exact(mf q1 0 1 ⟨by lia,rfl,m1,by rw[lg (Ne.symm d5.1),lg<|Ne.symm c4.1,lg<|Ne.symm Hs.1,lg<|Ne.symm a2.1];exact kr⟩)
   rcases ar.mp hv with rfl|hv
   .exact(mf q2 1 0 ⟨by lia,rfl,m2,by rw[lg (Ne.symm c5.1),lg<|Ne.symm b4.1,lg<|Ne.symm a3.1];exact kr⟩)
   rcases ar.mp hv with rfl|hv
   .exact(mf q3 0 (-1) ⟨by lia,rfl,m3,by rw[lg (Ne.symm b5.1),lg<|Ne.symm a4.1];exact kr⟩)
   rcases ar.mp hv with rfl|hv
   .exact(mf q4 (-1) 0 ⟨by lia,rfl,m4,by rw[lg (Ne.symm a5.1)];exact kr⟩)
   cases hv
  have l5:(upd (upd (upd (upd (upd HA q1<|.tup [.int 0,.int 1]) q2<|.tup [.int 1,.int 0]) q3<|.tup [.int 0,.int<|-1]) q4<|.tup [.int (-1),.int 0]) q5<|.lst [.ref q1,.ref q2,.ref q3,.ref q4]) q5=some (.lst [.ref q1,.ref q2,.ref q3,.ref q4]):=kr;have exB:=exA.trans<|Ex.of_same same;have stB:=same _ _ zZ;have pB:=same _ _ pA;have rB:=rA.same same;have n5:q5≠st:=λz=>by rw[z,zZ]at d5;cases d5.2
  generalize (upd (upd (upd (upd (upd HA q1<|.tup [.int 0,.int 1]) q2<|.tup [.int 1,.int 0]) q3<|.tup [.int 0,.int<|-1]) q4<|.tup [.int (-1),.int 0]) q5<|.lst [.ref q1,.ref q2,.ref q3,.ref q4])=HB at *;refine(oj _ rfl st xP 4 ⟨rfl,stB,Gm,by decide,by decide,λn3 i3 qV Eh h31=>?_⟩);obtain⟨v,GV,hm⟩:=zC (α:=V) (xs:=[V.ref q1,.ref q2,.ref q3,.ref q4]) Eh h31;obtain⟨b3,d,e,hde,rfl,m3,Eb⟩:=Hg v hm;have exC:Ex [st] H (upd HB st<|.lst n3):=exB.trans (Ex.upd<|by simp);have stC:upd HB st (.lst n3) st=some (.lst n3):=kr;have pC:upd HB st (.lst n3) p2=some (.lst xs):=by rw[lg (Ne.symm n2)];exact pB
  have rC:RepAll (upd HB st<|.lst n3) cs xs:=rB.tk (Tk.lst stB) jG.imm;have bC:upd HB st (.lst n3) b3=some (.tup [.int d,.int e]):=by rw[lg m3];exact Eb
  have l5C:upd HB st (.lst n3) q5=some (.lst [.ref q1,.ref q2,.ref q3,.ref q4]):=by rw[lg n5];exact l5
  generalize upd HB st (.lst n3)=HC at *;refine(my q5 _ i3 _ ⟨rfl,rfl,SqL.of l5C,GV,(nj b3 _ rfl (SqT.of bC) rfl _ _ rfl _ ⟨_,rfl,rfl,?_⟩)⟩);refine(su _ rfl _ rfl _ _ rfl rfl _ ⟨rfl,(nk _ rfl _ _ ⟨rfl,rfl,sZ2,λt1 FT=>?_⟩)⟩);have zY:Same HC (upd HC t1<|.tup [.int (r+d),.int<|c+e]):=Same.fresh _ FT;refine(kj _ rfl (.tuple [.int (r+d),.int<|c+e]) p2 xs cs ⟨t7 kr,rfl,.inl<|zY _ _ pC,rC.same zY,(by simp[er,ba]),_,rfl,?_⟩);have exD:=exC.trans<|Ex.of_same zY;have stD:=zY _ _ stC;have pD:=zY _ _ pC;have rD:=rC.same zY;generalize upd HC t1 (.tup [.int (r+d),.int<|c+e])=HD at *;refine ur (λBD=>?_) λ_=>?_
  .refine(m9 _ rfl (.inl ⟨rfl,_,SqL.of pD⟩) _ ⟨rfl,(nh _ rfl _ _ rfl rfl _ ⟨rfl,(nk _ rfl _ _ ⟨rfl,rfl,sZ2,λt2 oI=>?_⟩)⟩)⟩);have DB:Same HD (upd HD t2<|.tup [.int (r+d),.int<|c+e]):=Same.fresh _ oI;have t2c:upd HD t2 (.tup [.int (r+d),.int<|c+e]) t2=some (.tup [.int (r+d),.int<|c+e]):=kr;have exE:=exD.trans<|Ex.of_same DB;have stE:=DB _ _ stD;have pE:=DB _ _ pD;have rE:=rD.same DB;generalize upd HD t2 (.tup [.int (r+d),.int<|c+e])=HE at *;refine(mf p2 xs (.ref t2) ⟨rfl,rfl,pE,lu<|by lia,?_⟩);have B0:Cells (cs++[.tuple [.int (r+d),.int<|c+e]]):=λz hz=>by
    rcases bm.mp hz with h|h
    .exact jG z h
    .rw[ay.mp h];exact(lc _ _ rfl)
   refine(lr _ _ _ _ _<|mf n3 (xs++[.ref t2]) (cs++[.tuple [.int (r+d),.int<|c+e]]) ⟨rfl,?_,by rw[lg n2];exact stE,qV,kr,((rE.snoc<|t7 t2c).tk (Tk.lst pE) B0.imm),B0,?_,?_,by simp,by simp;lia⟩)
   .exact exE.new yA
   .rw[bb];refine oR.snoc (a:=(r,c)) ?_ ?_
    .exact a7.mpr ⟨_,aj kR,rfl⟩
    .show Tch (r,c) (r+d,c+e);unfold Tch;simp only;lia
   .rw[bb,List.nodup_append];refine⟨ls,by simp,λx hx y hy=>?_⟩;have ey:y=(r+d,c+e):=ay.mp hy;intro exy;rw[exy,ey]at hx;obtain⟨z,hz,ez⟩:=a7.mp hx;obtain⟨r0,c0,rfl⟩:=jG z hz;have ez':(r0,c0)=(r+d,c+e):=ez;injection ez' with e1 e2
    rw[if_pos rfl,Bool.not_eq_true',List.any_eq_false]at BD;exact BD _ hz<|by rw[e1,e2];exact SeqAt.eqv_refl _ (t7 t2c).lay
  .exact(lr _ _ _ _ _<|mf n3 xs cs ⟨rfl,exD,stD,qV,pD,rD,jG,oR,ls,fK,by lia⟩)
 .obtain⟨x3,x4,x5,x6,x7,FD,xs,cs,rfl,fJ,eF,yE,hp,fV,jG,oR,ls,fK,aX⟩:=h;exact⟨_,rfl,q p2 H' FD xs cs yA fJ eF yE hp fV jG oR ls fK<|by lia⟩
def SgD(d:Z9):Prop:=∃(r c:Int)(k:Nat),d=.tuple [.int r,.int c,.str ⟨#[k]⟩]/\65<=k/\k<=90
def anu{ds:U Z9}(h:∀d∈ds,SgD d):Spots ds:=λd hd=>by obtain⟨r,c,k,e,_⟩:=h d hd;exact(mf r c _ e)
def an6{d:Z9}(a b:Int)(h:SgD d):SgD (tq a b d):=by obtain⟨r,c,k,rfl,h1,h2⟩:=h;exact(mf (r-a) (c-b) k ⟨rfl,h1,h2⟩)
def apr:Sp:=λvs H Q _=>∃a xs ds,vs=[.ref a]/\H a=some (.lst xs)/\RepAll H ds xs/\Spots ds/\0<ds.length/\ds.length<64/\∀r H',Same H H'->Rep H' (.tuple<|qf<|ow ds) (.ref r)->Q (.ref r) H'
def aft{K:av}{a:aE}{xs:U V}{ds:U Z9}{σ:L2.St}{H H0:Hp}{Q:VK}{t l:Int}(hσ:σ[0]?=some (some<|.ref a))(h1:σ[1]?=some (some<|.int t))(h2:σ[2]?=some (some<|.int l))
  (ha:H a=some (.lst xs)) (hr:RepAll H ds xs) (hs:Spots ds) (hl:ds.length<64) (ht:t=yi (ds.map kE)) (Gx:l=yi (ds.map kC)) (h0:Same H0 H)
  (q:∀r H',Same H0 H'->Rep H' (.tuple<|qf<|ow ds) (.ref r)->Q (.ref r) H') :
  xB (EA K<|jB 0) [none,none,none,some 1,some 2] (Aw K 3<|ym (ub 0)<|ym (ub 1)<|ym (ub 2) CB) uw
   (Et<|sL (tOp (rI0 λi j=>.int<|i-j) (jB 0)<|jB 3)<|sL (tOp (rI0 λi j=>.int<|i-j) (jB 1)<|jB 4)<|sL (jB 2) CC) σ H λx H1=>∃p xs ds ks,[x]=[.ref p]/\H1 p=some (.lst xs)/\RepAll H1 ds xs/\Rows ks ds/\ds.length<64/\
  ∀l ys,H1 l=none->RepAll (upd H1 l<|.lst ys) (qf ds) ys->∃p AO,[V.ref l]=[.ref p]/\((SqL K (upd H1 l<|.lst ys) p AO/\∀l',upd H1 l (.lst ys) l'=none->Q (.ref l') (upd (upd H1 l<|.lst ys) l'<|.tup AO))\/(SqT K (upd H1 l<|.lst ys) p AO/\Q (.ref p) (upd H1 l<|.lst ys))):=by
 refine ai4 hσ h1 h2 ha hr hs hl λD ys H' Bs hD fV=>?_;refine(my D ys _ ([true,false]) ⟨rfl,hD,fV,abr hs t l,by rw[ae];exact hl,λl1 zs mE hz=>?_⟩);refine(lc l1 zs ⟨rfl,.inl ⟨SqL.of kr,λl2 jE=>?_⟩⟩);have s1:Same H' (upd H' l1<|.lst zs):=Same.fresh _ mE;have s2:Same (upd H' l1<|.lst zs) (upd (upd H' l1<|.lst zs) l2<|.tup zs):=Same.fresh _ jE;refine q l2 _ (((h0.trans Bs).trans s1).trans s2)<|lc l2 zs ⟨rfl,kr,?_⟩;have e:ds.map (tq t l)=ow ds:=by unfold ow;rw[ht,Gx]
 rw[e]at hz;exact hz.same s2
def scShift:lq ["_law_spots","_law_top","_law_left"] ["_law_spots"] (k9 Jd):={}
def anl(B:∀x∈sw,mg x=none)(F:Fun K "_law_shifted" "_law_shifted" Jd f fd):qp P w K mg base CX0 1 f fd ["_law_spots"] apr:=by
 refine F.ok (k:=0) scShift (λvs H Q E h=>?_) λbT A outer s H vs Q E hr h=>?_
 .obtain⟨a,xs,ds,rfl,_⟩:=h;rfl
 obtain⟨a,xs,ds,rfl,ha,fV,hs,fK,wQ,q⟩:=h;refine⟨_,(kl (me (i:=1) scShift.nd rfl (Or.inr rfl)<|mj (adp rfl) rfl (B "min"<|by decide) iD<|kq (mr ZZ [none] rfl rfl (by decide +kernel) (by decide +kernel) rfl rfl (pc<|pv 0) (λ_=>(k7 (i:=0) (show(ZZ:U PySem.Str).Nodup by decide +kernel) rfl<|Or.inl rfl)) (λ_=>ma) λ_=>(mi sn (pv 0) km λ_ _=>rfl)) kh)
  (kl (me (i:=2) scShift.nd rfl (Or.inr rfl)<|mj (adp rfl) rfl (B "min"<|by decide) iD<|kq (mr ZZ [none] rfl rfl (by decide +kernel) (by decide +kernel) rfl rfl (pc<|pv 0) (λ_=>(k7 (i:=0) (show(ZZ:U PySem.Str).Nodup by decide +kernel) rfl<|Or.inl rfl)) (λ_=>ma) λ_=>(mi sn (pv 0) km λ_ _=>rfl)) kh)
  (ku<|li<|vx oa rfl (B "tuple"<|by decide) ik<|kq (mj zk rfl (B "sorted"<|by decide) lV<|kq (mr ZS [none,none,none,some 1,some 2] rfl rfl (by decide +kernel) (by decide +kernel) rfl rfl (pc<|pv 0) (λ_=>(Db (n:=3) rfl<|lm (k7 (i:=0) (show(ZS:U PySem.Str).Nodup by decide +kernel) rfl<|Or.inl rfl)<|lm (k7 (i:=1) (show(ZS:U PySem.Str).Nodup by decide +kernel) rfl<|Or.inl rfl)<|lm (k7 (i:=2) (show(ZS:U PySem.Str).Nodup by decide +kernel) rfl<|Or.inl rfl) qc)) (λ_=>ma) λ_=>(o6<|kq (nc xg (pv 0)<|pv 3)<|kq (nc xg (pv 1)<|pv 4)<|kq (pv 2) kh)) kh) kh))),?_⟩
 refine ads 0 kE ES rfl ha fV hs wQ λD1 H1 s1 uX=>?_;refine(lc D1 _ ⟨rfl,uX,by rw[ae];exact fK,λM1 m1 uC=>?_⟩);refine ads 1 kC EM rfl (s1 _ _ ha) (fV.same s1) hs wQ λD2 H2 s2 dH=>?_;refine(lc D2 _ ⟨rfl,dH,by rw[ae];exact fK,λM2 m2 tZ=>?_⟩);exact aft rfl rfl rfl ((s1.trans s2) _ _ ha) (fV.same<|s1.trans s2) hs wQ (wy m1 uC) (wy m2 tZ) (s1.trans s2) q
structure Pre(ds:U Z9):Prop where
 sg:∀d∈ds,SgD d
 pos:0<ds.length
 six:ds.length<=6
 con:Conn (ds.map cl)
 nd:(ds.map cl).Nodup
structure Zr(ds:U Z9):Prop where
 pre:Pre ds
 r0:yi (ds.map kE)=0
 c0:yi (ds.map kC)=0
def Pre.spots{ds:U Z9}(h:Pre ds):Spots ds:=λd hd=>by obtain⟨r,c,k,e,_⟩:=h.sg d hd;exact(mf r c _ e)
theorem Pre.map{ds:U Z9}(h:Pre ds){f:Z9->Z9}{g:Cl->Cl}(hf:∀d,SgD d->SgD (f d)/\cl (f d)=g (cl d))(hg:∀a b,Tch a b->Tch (g a) (g b))(hi:∀a b,g a=g b->a=b):Pre (ds.map f):=by
 have e:(ds.map f).map cl=(ds.map cl).map g:=by rw[gy,gy];exact je λd hd=>(hf d<|h.sg d hd).2
 refine⟨λd hd=>?_,by rw[ae];exact h.pos,by rw[ae];exact h.six,by rw[e];exact h.con.map hg,?_⟩
 .obtain⟨x,hx,rfl⟩:=a7.mp hd;exact(hf x<|h.sg x hx).1
 .rw[e];exact List.Pairwise.map g (λa b lT z=>lT<|hi a b z) h.nd
def Pre.perm{ds es:U Z9}(h:Pre ds)(p:es.Perm ds):Pre es:=
 ⟨λd hd=>h.sg d<|p.mem_iff.mp hd,by rw[p.length_eq];exact h.pos,by rw[p.length_eq];exact h.six,h.con.congr λa=>(p.map cl).mem_iff,(p.map cl).nodup_iff.mpr h.nd⟩
def JL{ns ms:U Int}(p:ns.Perm ms)(h:0<ns.length):yi ns=yi ms:=
 wy (p.mem_iff.mp<|we h) λa ha=>yt a<|p.mem_iff.mpr ha
theorem Zr.perm{ds es:U Z9}(h:Zr ds)(p:es.Perm ds):Zr es:=by have hp:=h.pre.perm p;exact⟨hp,(JL (p.map kE)<|by rw[ae];exact hp.pos).trans h.r0,(JL (p.map kC)<|by rw[ae];exact hp.pos).trans h.c0⟩
def JR{d:Z9}(a b:Int)(h:SgD d):SgD (tq a b d)/\cl (tq a b d)=((cl d).1-a,(cl d).2-b):=by obtain⟨r,c,k,rfl,h1,h2⟩:=h;exact⟨(mf (r-a) (c-b) k ⟨rfl,h1,h2⟩),rfl⟩
def au5(d:Z9):kE d=(cl d).1:=rfl
def atn(d:Z9):kC d=(cl d).2:=rfl
def amf{ns:U Int}(h:0<ns.length):yi (ns.map λx=>x-yi ns)=0:=by
 refine(wy ?_ λa ha=>?_).symm
 .exact a7.mpr ⟨yi ns,we h,by lia⟩
 .obtain⟨x,hx,rfl⟩:=a7.mp ha;have:=yt x hx;lia
theorem Zr.shift{ds:U Z9}(h:Pre ds):Zr (ow ds):=by
 have hp:Pre (ow ds):=h.map (g:=λa=>(a.1-yi (ds.map kE),a.2-yi (ds.map kC))) (λd hd=>JR _ _ hd) (λa b=>Tch.shift _ _) (λa b e=>by
  injection e with e1 e2
  exact Prod.ext (by lia)<|by lia)
 refine⟨hp,?_,?_⟩
 .rw[show(ow ds).map kE=(ds.map kE).map λx=>x-yi (ds.map kE) by
   unfold ow;rw[gy,gy];exact je λd hd=>by rw[Function.comp,au5,(JR _ _<|h.sg d hd).2];rfl]
  exact amf<|by rw[ae];exact h.pos
 .rw[show(ow ds).map kC=(ds.map kC).map λx=>x-yi (ds.map kC) by
   unfold ow;rw[gy,gy];exact je λd hd=>by rw[Function.comp,atn,(JR _ _<|h.sg d hd).2];rfl]
  exact amf<|by rw[ae];exact h.pos
def C4(x y:Z9):Prop:=(cl x).1<(cl y).1\/((cl x).1=(cl y).1/\(cl x).2<(cl y).2)
theorem aal:∀{xs ys:U Z9},xs.Perm ys->xs.Pairwise C4->ys.Pairwise C4->xs=ys
 | [],ys,p,_,_=>(List.Perm.nil_eq p)
 | x::xs,[],p,_,_=>absurd p.length_eq (by simp)
 | x::xs,y::ys,p,hx,hy=>by
  have pN:=gc.mp hx;have vX:=gc.mp hy;have e:x=y:=by
   have m1:x∈y::ys:=p.mem_iff.mp am;have m2:y∈x::xs:=p.mem_iff.mpr am;rcases ar.mp m1 with e|m1
   .exact e
   rcases ar.mp m2 with e|m2
   .exact e.symm
   have a:=vX.1 x m1;have b:=pN.1 y m2;unfold C4 at a b;lia
  subst e;rw[aal (List.Perm.cons_inv p) pN.2 vX.2]
def aeb{ds:U Z9}(hz:Pre ds):(qf ds).Pairwise C4:=by
 have nR:=hz.perm<|uu ds;rw[eu];intro i j hi hj cA;have hx:(qf ds)[i]?=some (qf ds)[i]:=af hi;have hy:(qf ds)[j]?=some (qf ds)[j]:=af hj;have u:=ahs (aif hz.spots) hx hy<|ck cA;have nd:=eu.mp nR.nd i j (by simpa using hi) (by simpa using hj) cA;rw[List.getElem_map,List.getElem_map]at nd;generalize (qf ds)[i]=x at *;generalize (qf ds)[j]=y at *;obtain⟨r,c,k,rfl,_⟩:=nR.sg x<|aj hx;obtain⟨r',c',k',rfl,_⟩:=nR.sg y<|aj hy;have FB:¬(r=r'/\c=c'):=λ⟨e1,e2⟩=>nd (by rw[e1,e2];rfl);show r<r'\/(r=r'/\c<c');have u':qb [.int r',.int c',.str ⟨#[k']⟩] [.int r,.int c,.str ⟨#[k]⟩]=false:=u;rw[C0]at u';by_cases e1:r=r'
 .rw[if_pos e1.symm,C0]at u';by_cases e2:c=c'
  .exact absurd ⟨e1,e2⟩ FB
  .rw[if_neg (Ne.symm e2)]at u';have:=of_decide_eq_false u';lia
 .rw[if_neg (Ne.symm e1)]at u';have:=of_decide_eq_false u';lia
def Frm(es:U Z9):Prop:=Zr es/\es.Pairwise C4
def Frm.of{ds:U Z9}(h:Zr ds):Frm (qf ds):=⟨h.perm<|uu ds,aeb h.pre⟩
def amc{ds es:U Z9}(h:Frm es)(p:ds.Perm es):qf ds=es:=
 aal ((uu ds).trans p) (aeb<|h.1.pre.perm p) h.2
def ajq:Sp:=λvs H Q _=>∃(st:aE)(n:U V),vs=[.ref st,.int 6]/\H st=some (.lst n)/\StL n/\∀(r:aE)(H':Hp)(n':U V)(ds:U Z9),Ex [st] H H'->H' st=some (.lst n')->StL n'->Zr ds->Rep H' (.tuple<|qf ds) (.ref r)->Q (.ref r) H'
def scForm:lq ["_law_state_here","_law_most","_law_signs_here","_law_spots","_law_row","_law_column"] ZY (k9 Ir):={}
def ak5{x:Str}(h:Eu x):x.length<=aF:=ck (lu<|by have:=h.2.1;lia)
theorem arz(B:∀x∈sw,mg x=none)(bJ:yc P w K mg base)(zM:Fn P w K mg base "_law_signs" 2 Z5 ajv)(zR:Fn P w K mg base "_law_grown" 2 ZY alh)(zN:Fn P w K mg base "_law_shifted" 1 ["_law_spots"] apr)
  (F:Fun K "_law_drawn_form" "_law_drawn_form" Ir f fd):qp P w K mg base CX0 3 f fd ZY ajq:=by
 refine F.ok (k:=2) scForm (λvs H Q E h=>?_) λbT A outer s H vs Q E hr h=>?_
 .obtain⟨st,n,rfl,_⟩:=h;rfl
 obtain⟨st,n,rfl,bS,hn,q⟩:=h;refine⟨_,(kl (me (i:=2) scForm.nd rfl (Or.inl rfl)<|lv zM hr (by decide) rfl<|kq (pv 0) kh)
  (kl (me (i:=3) scForm.nd rfl (Or.inl rfl)<|pj kh)
  (kl (ut fq rfl (pc<|lv zR hr (by decide) rfl<|kq (pv 0)<|kq (pv 1) kh) (wq (n:=2) rfl<|lm (k7 (i:=4) scForm.nd rfl<|Or.inl rfl)<|lm (k7 (i:=5) scForm.nd rfl<|Or.inl rfl) qc)<|ku<|vy<|rh gn ge gf qk (pv 3)<|kq (o6<|kq (pv 4)<|kq (pv 5)<|kq (mi AM (pv 2) (lv bJ hr (by decide) rfl<|kq (pv 0)<|kq (mj nq rfl (B "len"<|by decide) cb<|kq (pv 2) kh) kh) λ_ _=>rfl) kh) kh)
  (ku<|li<|lv zN hr (by decide) rfl<|kq (pv 3) kh)))),?_⟩
 refine(nk _ rfl st n ⟨rfl,bS,hn,λsg H1 n1 lK pW jM jU=>?_⟩);refine⟨sZ0,λsp gQ=>?_⟩;have A2:sp≠st:=λe=>by rw[e,jM]at gQ;cases gQ
 have FV:H sp=none:=by
  cases z:H sp with
  | none=>rfl
  | some o=>have z':=pW sp o (by simpa using A2) z;rw[z']at gQ;cases gQ
 have oW:Ex [st] H (upd H1 sp<|.lst []):=pW.trans<|Ex.fresh gQ;have eY:upd H1 sp (.lst []) st=some (.lst n1):=by rw[lg (Ne.symm A2)];exact jM
 have sp2:upd H1 sp (.lst []) sp=some (.lst []):=kr;generalize upd H1 sp (.lst [])=H2 at *;refine(oh _ rfl _ rfl st n1 6 ⟨rfl,eY,jU,by decide,by decide,λgr H3 n3 cxs cs wI pV eU qV gr3 gH jG oR ls hpos3 hlen3=>?_⟩);have sp3:H3 sp=some (.lst []):=pV.at A2 sp2;have ngs:gr≠sp:=λe=>by rw[e,sp2]at wI;cases wI
 have ngt:gr≠st:=λe=>by rw[e,eY]at wI;cases wI
 have lcx:=gH.length;refine⟨gr,rfl,⟨_,SqL.of gr3⟩,?_⟩;refine ao3 (xs:=cxs) (λj σ' H'=>∃(y4 y5:Option V)(n:U V)(ds:U Z9)(ys:U V),σ'=[some (.ref st),some<|.int 6,some<|.str sg,some<|.ref sp,y4,y5]/\
  Ex [st,sp] H3 H'/\H' st=some (.lst n)/\StL n/\H' sp=some (.lst ys)/\RepAll H' ds ys/\(∀d∈ds,SgD d)/\ds.map cl=(cs.take j).map cl/\ds.length=j) ?_ (λj σ' H' hj h=>?_) (λj x σ' H' hx h=>?_) λσ' H' h=>?_
 .exact(lr _ _ n3 ([]) ([]) ⟨rfl,Ex.refl _ _,eU,qV,sp3,rfl,(λd hd=>by cases hd),rfl,rfl⟩)
 .obtain⟨_,_,_,_,_,_,fJ,_⟩:=h;exact SqL.of<|fJ _ _ (by simp[ngs,ngt]) gr3
 .obtain⟨y4,y5,n6,ds,ys,rfl,fJ,oG,oO,DD,iJ,uI,rH,hl6⟩:=h;have tk6:Tk H3 H':=fJ.tk λb hb=>by
   rcases ar.mp hb with rfl|hb
   .exact⟨_,eU⟩
   .rw[ay.mp hb];exact⟨_,sp3⟩
  obtain⟨b,cr,cc,rfl,hb,kR⟩:=xp jG gH hx;have im6:qd ds=true:=Spots.imm λd hd=>by obtain⟨r,c,k,e,_⟩:=uI d hd;exact(mf r c _ e)
  refine(nj b _ rfl (SqT.of<|tk6 _ _ hb) rfl _ _ rfl _ ⟨_,rfl,rfl,?_⟩);refine(m9 _ rfl (.inl ⟨rfl,_,SqL.of DD⟩) _ ⟨rfl,(ul _ rfl _ rfl _ ⟨rfl,(mm _ rfl sg ⟨rfl,ak5 lK,(mf st n6 _ ⟨rfl,oG,oO,by have:=lK.1;lia,by have:=lK.2.1;lia,λn7 i7 BE G9 h71=>?_⟩)⟩)⟩)⟩);obtain⟨j7,rfl⟩:=cn G9;have hj7:j7<sg.cps.toList.length:=by
   have:sg.length=sg.cps.toList.length:=by simp[Str.length]
   lia
  have hk:=lK.2.2 _<|fk hj7;refine(mf sg _ (sg.cps.toList[j7]) ⟨rfl,rfl,ak5 lK,ni<|af hj7,sZ3,λt ht=>?_⟩);generalize sg.cps.toList[j7]=k at *;have hok:kb (⟨#[k]⟩:Str)=true:=Tx.ok ⟨by show 1<=80;lia,λx hx=>by
   have:x=k:=by simpa using hx
   lia⟩
  have nI:upd H' st (.lst n7) st=some (.lst n7):=kr;have sp7:upd H' st (.lst n7) sp=some (.lst ys):=by rw[lg A2];exact DD
  have xL:RepAll (upd H' st<|.lst n7) ds ys:=iJ.tk (Tk.lst oG) im6;have wT:Ex [st,sp] H3 (upd H' st<|.lst n7):=fJ.trans (Ex.upd<|by simp);generalize upd H' st (.lst n7)=H7 at *;have s8:Same H7 (upd H7 t<|.tup [.int cr,.int cc,.str ⟨#[k]⟩]):=Same.fresh _ ht;have t8:upd H7 t (.tup [.int cr,.int cc,.str ⟨#[k]⟩]) t=some (.tup [.int cr,.int cc,.str ⟨#[k]⟩]):=kr;generalize upd H7 t (.tup [.int cr,.int cc,.str ⟨#[k]⟩])=H8 at *;have sp8:=s8 _ _ sp7;have BO:j<cxs.length:=(ap.mp hx).1;have hly:=iJ.length;refine(mf sp ys (.ref t) ⟨rfl,rfl,sp8,lu<|by lia,?_⟩);have xT:∀d∈ds++[.tuple [.int cr,.int cc,.str ⟨#[k]⟩]],SgD d:=λd hd=>by
   rcases bm.mp hd with h|h
   .exact uI d h
   .rw[ay.mp h];exact(mf cr cc k ⟨rfl,hk.1,hk.2⟩)
  have imn:qd (ds++[.tuple [.int cr,.int cc,.str ⟨#[k]⟩]])=true:=Spots.imm λd hd=>by obtain⟨r,c,k',e,_⟩:=xT d hd;exact(mf r c _ e)
  refine⟨_,_,n7,ds++[.tuple [.int cr,.int cc,.str ⟨#[k]⟩]],ys++[.ref t],rfl,(wT.trans<|Ex.of_same s8).trans (Ex.upd<|by simp),by rw[lg (Ne.symm A2)];exact s8 _ _ nI,BE,kr,
   (((xL.same s8).snoc (wa t8 hok)).tk (Tk.lst sp8) imn),xT,?_,by simp[hl6]⟩
  rw[bb,rH,k8 cl kR];rfl
 .obtain⟨y4,y5,n6,ds,ys,rfl,fJ,oG,oO,DD,iJ,uI,rH,hl6⟩:=h;rw[au (by lia)]at rH;have pre:Pre ds:=⟨uI,by lia,by lia,by rw[rH];exact oR,by rw[rH];exact ls⟩;refine(oj _ rfl sp ys ds ⟨rfl,DD,iJ,pre.spots,by lia,by lia,λr H9 s9 tV=>?_⟩);refine q r H9 n6 (ow ds) (λb o hb h0=>?_) (s9 _ _ oG) oO (Zr.shift pre) tV;have nb:b≠sp:=λe=>by rw[e,FV]at h0;cases h0
  have pL:b≠st:=by simpa using hb
  exact s9 _ _<|fJ b o (by simp[nb,pL])<|pV b o (by simpa using pL)<|oW b o hb h0
def Kn(H:Hp)(v:V):Prop:=v=.non\/(∃b,v=.bl b)\/(∃i,v=.int i)\/(∃z,v=.str z/\Tx z)\/∃a,v=.ref a/\((∃xs,H a=some (.lst xs))\/(∃xs,H a=some (.tup xs))\/H a=some (.dK []))
def Kn.same{H H':Hp}{v:V}(s:Same H H')(h:Kn H v):Kn H' v:=by
 rcases h with h|h|h|h|⟨a,e,⟨xs,h⟩|⟨xs,h⟩|h⟩
 .exact .inl h
 .exact .inr<|.inl h
 .exact .inr<|.inr<|.inl h
 .exact .inr<|.inr<|.inr<|.inl h
 .exact .inr<|.inr<|.inr<|.inr ⟨a,e,.inl ⟨xs,s _ _ h⟩⟩
 .exact .inr<|.inr<|.inr<|.inr ⟨a,e,.inr<|.inl ⟨xs,s _ _ h⟩⟩
 .exact .inr<|.inr<|.inr<|.inr ⟨a,e,.inr<|.inr<|s _ _ h⟩
noncomputable def isW:V->Bool
 | .int _=>true
 | _=>false
noncomputable def sg1(z:Str):Bool:=match z.cps.toList with
 | [c]=>decide (65<=c)&&decide (c<=90)
 | _=>false
noncomputable def sK:V->Bool
 | .str z=>sg1 z
 | _=>false
theorem IK{z:Str}(h:z.length=1):∃c,z=⟨#[c]⟩:=by
 obtain⟨⟨l⟩⟩:=z
 match l,h with
 | [c],_=>exact⟨c,rfl⟩
def E2(c:Nat):sg1 ⟨#[c]⟩=(decide (65<=c)&&decide (c<=90)):=rfl
theorem Jw{z:Str}(h:z.length≠1):sg1 z=false:=by
 obtain⟨⟨l⟩⟩:=z
 match l,h with
 | [],_=>rfl
 | [c],h=>exact absurd rfl h
 | _::_::_,_=>rfl
noncomputable def AC(x y z:V):Bool:=isW x&&isW y&&sK z
noncomputable def vk(H:Hp):V->Bool
 | .ref a=>match H a with
  | some (.tup [x,y,z])=>AC x y z
  | _=>false
 | _=>false
def qx(H:Hp)(a:aE):vk H (.ref a)=(match H a with|some (.tup [x,y,z])=>AC x y z|_=>false):=rfl
def Kn2(H:Hp)(v:V):Prop:=Kn H v/\∀a xs,v=.ref a->H a=some (.tup xs)->xs.length<=60/\∀x∈xs,Kn H x
def Kn3(H:Hp)(v:V):Prop:=Kn H v/\∀a xs,v=.ref a->H a=some (.tup xs)->xs.length<=60/\∀x∈xs,Kn2 H x
def yp{H H':Hp}{a:aE}{xs:U V}(s:Same H H')(h:Kn H (.ref a))(e:H' a=some (.tup xs)):H a=some (.tup xs):=by
 rcases h with h|⟨b,h⟩|⟨i,h⟩|⟨z,h,_⟩|⟨b,e',h⟩
 .cases h
 .cases h
 .cases h
 .cases h
 .cases e';rcases h with ⟨ys,h⟩|⟨ys,h⟩|h
  .rw[s _ _ h]at e;cases e
  .rw[s _ _ h]at e;cases e;exact h
  .rw[s _ _ h]at e;cases e
theorem Kn2.same{H H':Hp}{v:V}(s:Same H H')(h:Kn2 H v):Kn2 H' v:=⟨h.1.same s,λa xs e ha=>by subst e;obtain⟨h1,h2⟩:=h.2 a xs rfl<|yp s h.1 ha;exact⟨h1,λx hx=>(h2 x hx).same s⟩⟩
def yk{H H':Hp}{v:V}(s:Same H H')(h:Kn H v):vk H' v=vk H v:=by
 rcases h with rfl|⟨b,rfl⟩|⟨i,rfl⟩|⟨z,rfl,_⟩|⟨b,rfl,⟨ys,h⟩|⟨ys,h⟩|h⟩
 .rfl
 .rfl
 .rfl
 .rfl
 all_goals
  rw[qx,qx,s _ _ h,h]
def aqe{K:av}{H:Hp}{v:V}(h:Kn H v):(∃a xs,v=.ref a/\H a=some (.tup xs))\/((∃t,kX K H v t/\jw K t (.type "tuple")=some false)/\vk H v=false/\∀a xs,v=.ref a->H a=some (.tup xs)->False):=by
 rcases h with rfl|⟨b,rfl⟩|⟨i,rfl⟩|⟨z,rfl,_⟩|⟨a,rfl,⟨ys,h⟩|⟨ys,h⟩|h⟩
 .exact .inr ⟨⟨_,.non,rfl⟩,rfl,λ_ _ e=>by cases e⟩
 .exact .inr ⟨⟨_,.bl b,rfl⟩,rfl,λ_ _ e=>by cases e⟩
 .exact .inr ⟨⟨_,.int i,rfl⟩,rfl,λ_ _ e=>by cases e⟩
 .exact .inr ⟨⟨_,.str z,rfl⟩,rfl,λ_ _ e=>by cases e⟩
 .exact .inr ⟨⟨_,.lst h,rfl⟩,by rw[qx,h],λb xs e ha=>by cases e;rw[h]at ha;cases ha⟩
 .exact .inl<|lc a ys ⟨rfl,h⟩
 .exact .inr ⟨⟨_,.dK h,rfl⟩,by rw[qx,h],λb xs e ha=>by cases e;rw[h]at ha;cases ha⟩
def avc{K:av}{H:Hp}{v:V}(h:Kn H v):(∃z,v=.str z/\Tx z)\/((∃t,kX K H v t/\jw K t (.type "str")=some false)/\sK v=false):=by
 rcases h with rfl|⟨b,rfl⟩|⟨i,rfl⟩|⟨z,rfl,hz⟩|⟨a,rfl,⟨ys,h⟩|⟨ys,h⟩|h⟩
 .exact .inr ⟨⟨_,.non,rfl⟩,rfl⟩
 .exact .inr ⟨⟨_,.bl b,rfl⟩,rfl⟩
 .exact .inr ⟨⟨_,.int i,rfl⟩,rfl⟩
 .exact .inl ⟨z,rfl,hz⟩
 .exact .inr ⟨⟨_,.lst h,rfl⟩,rfl⟩
 .exact .inr ⟨⟨_,.tup h,rfl⟩,rfl⟩
 .exact .inr ⟨⟨_,.dK h,rfl⟩,rfl⟩
def ua{z:Str}(h:Tx z):z.length<=aF:=ck (lu<|by have:=h.1;lia)
def le1(a b:Nat):(!decide ([b]<[a]))=decide (a<=b):=by
 have h:([b]<[a])↔b<a:=by simp[kg]
 rw[decide_eq_decide.mpr h];by_cases c:b<a
 .rw[decide_eq_true c,decide_eq_false<|by lia];rfl
 .rw[decide_eq_false c,decide_eq_true<|by lia];rfl
def akt{c lo hi:Nat}{a z:Str}{R:V->Prop}{A B:Prop}(ha:a.cps.toList=[lo])(hz:z.cps.toList=[hi])(q:R (.bl<|decide (lo<=c)&&decide (c<=hi)))
  (hA:R (.bl<|!decide (z.cps.toList<[c]))->A) (hB:R (.bl false)->B):if (!decide ((⟨#[c]⟩:Str).cps.toList<a.cps.toList))=true then A else B:=by
 have e:(⟨#[c]⟩:Str).cps.toList=[c]:=rfl;rw[e,ha,le1];rw[hz,le1]at hA;by_cases h:lo<=c
 .rw[decide_eq_true h]at *;rw[if_pos rfl];exact hA q
 .rw[decide_eq_false h]at *;rw[if_neg ak];exact hB q
def spW:Sp:=λvs H Q _=>∃v,vs=[v]/\Kn H v/\Q (.bl<|isW v) H
def ay8:lq Z8 Z8 (k9 sPw):={}
def axb(B:∀x∈sw,mg x=none)(F:Fun K "is_whole" "is_whole" sPw f fd):qp P w K mg base CX0 1 f fd Z8 spW:=by
 refine F.ok (k:=0) ay8 (λvs H Q E h=>?_) λbT A outer s H vs Q E hr h=>?_
 .obtain⟨n,rfl,_⟩:=h;rfl
 obtain⟨v,rfl,hv,q⟩:=h;refine⟨_,(ku<|li<|p7 (mj ml rfl (B "isinstance"<|by decide) en<|kq (pv 0)<|kq (o8 (v:=.ty "int") rfl (B "int"<|by decide) PyProof.Rows.boot_int rfl) kh)<|qq<|avl<|mj ml rfl (B "isinstance"<|by decide) en<|kq (pv 0)<|kq (o8 (v:=.ty "bool") rfl (B "bool"<|by decide) boot_bool rfl) kh),?_⟩;rcases hv with rfl|⟨b,rfl⟩|⟨i,rfl⟩|⟨z,rfl,hz⟩|⟨a,rfl,⟨ys,h⟩|⟨ys,h⟩|h⟩
 .exact(kj _ rfl _ _ _ false ⟨rfl,.non,rfl,false,rfl,rg q⟩)
 .exact(kj _ rfl _ _ _ true ⟨rfl,.bl b,rfl,true,rfl,oo<|kj _ rfl _ _ _ true ⟨rfl,.bl b,rfl,true,rfl,q⟩⟩)
 .exact(kj _ rfl _ _ _ true ⟨rfl,.int i,rfl,true,rfl,oo<|kj _ rfl _ _ _ false ⟨rfl,.int i,rfl,false,rfl,q⟩⟩)
 .exact(kj _ rfl _ _ _ false ⟨rfl,.str z,rfl,false,rfl,rg q⟩)
 .exact(kj _ rfl _ _ _ false ⟨rfl,.lst h,rfl,false,rfl,rg q⟩)
 .exact(kj _ rfl _ _ _ false ⟨rfl,.tup h,rfl,false,rfl,rg q⟩)
 .exact(kj _ rfl _ _ _ false ⟨rfl,.dK h,rfl,false,rfl,rg q⟩)
def spS:Sp:=λvs H Q _=>∃v,vs=[v]/\Kn H v/\Q (.bl<|sK v) H
def ayw:lq Z8 Z8 (k9 sPs):={}
def awj(B:∀x∈sw,mg x=none)(F:Fun K "is_sign" "is_sign" sPs f fd):qp P w K mg base CX0 1 f fd Z8 spS:=by
 refine F.ok (k:=0) ayw (λvs H Q E h=>?_) λbT A outer s H vs Q E hr h=>?_
 .obtain⟨c,rfl,_⟩:=h;rfl
 obtain⟨v,rfl,hv,q⟩:=h;refine⟨_,(ku<|li<|p7 (mj ml rfl (B "isinstance"<|by decide) en<|kq (pv 0)<|kq (o8 (v:=.ty "str") rfl (B "str"<|by decide) dJ rfl) kh)<|p7 (on wm (mj nq rfl (B "len"<|by decide) cb<|kq (pv 0) kh) km<|nw _)<|qq<|JG v8 v8 l7 (pv 0) l7),?_⟩;rcases avc (K:=K) hv with ⟨z,rfl,hz⟩|⟨⟨t,ty,kt⟩,e⟩
 .refine(kj _ rfl _ _ _ true ⟨rfl,.str _,rfl,true,rfl,oo ?_⟩);refine(mm _ rfl z ⟨rfl,ua hz,rfl,_,rfl,?_⟩);by_cases hl:z.length=1
  .obtain⟨c,rfl⟩:=IK hl;refine ur (λ_=>?_) λh=>absurd (decide_eq_true rfl) h;exact(nh _ rfl _ _ rfl rfl _ ⟨rfl,akt (a:=ab "A") (z:=ab "Z") (R:=λv=>Q v H) (by decide +kernel) (by decide +kernel) q (λh=>(lc _ _ ⟨rfl,rfl,h⟩)) λh=>h⟩)
  .refine ur (λh=>?_) λ_=>?_
   .have h':=of_decide_eq_true h;injection h' with h'
    exact absurd (Int.ofNat_inj.mp h') hl
   .have e:sK (.str z)=false:=Jw hl;rw[e]at q;exact q
 .rw[e]at q;exact(kj _ rfl v _ t false ⟨rfl,ty,kt,false,rfl,rg q⟩)
def ays:Sp:=λvs H Q _=>∃v,vs=[v]/\Kn2 H v/\Q (.bl<|vk H v) H
def axa:lq Z8 Z8 (k9 HH):={}
theorem aou{H:Hp}{a:aE}{xs:U V}(ha:H a=some (.tup xs))(h:xs.length≠3):vk H (.ref a)=false:=by
 rw[qx,ha]
 match xs,h with
 | [],_=>rfl
 | [_],_=>rfl
 | [_,_],_=>rfl
 | [_,_,_],h=>exact absurd rfl h
 | _::_::_::_::_,_=>rfl
theorem aw0{xs:U V}(h:xs.length=3):∃x y z,xs=[x,y,z]:=by
 match xs,h with
 | [x,y,z],_=>exact(mf x y z rfl)
theorem auq(B:∀x∈sw,mg x=none)(Dj:Fn P w K mg base "is_whole" 1 Z8 spW)(xD:Fn P w K mg base "is_sign" 1 Z8 spS)(F:Fun K "is_spot" "is_spot" HH f fd):qp P w K mg base CX0 2 f fd Z8 ays:=by
 refine F.ok (k:=1) axa (λvs H Q E h=>?_) λbT A outer s H vs Q E hr h=>?_
 .obtain⟨c,rfl,_⟩:=h;rfl
 obtain⟨v,rfl,hv,q⟩:=h;refine⟨_,(kl (qm (PW.pt<|vz (om<|o4<|mj ml rfl (B "isinstance"<|by decide) en<|kq (pv 0)<|kq (o8 (v:=.ty "tuple") rfl (B "tuple"<|by decide) ik rfl) kh)<|rj<|ot zF (mj m7 rfl (B "len"<|by decide) cb<|kq (pv 0) kh) km<|nw _) (ku<|li uh) ng)
  (ku<|li<|p7 (lv Dj hr (by decide) rfl<|kq (mi oq (pv 0) km λ_ _=>rfl) kh)<|p7 (lv Dj hr (by decide) rfl<|kq (mi oq (pv 0) km λ_ _=>rfl) kh)<|qq<|lv xD hr (by decide) rfl<|kq (mi oq (pv 0) km λ_ _=>rfl) kh)),?_⟩
 rcases aqe (K:=K) hv.1 with ⟨a,xs,rfl,ha⟩|⟨⟨t,ty,kt⟩,e,_⟩
 .refine(kj _ rfl (.ref a) ("tuple") (.type "tuple") true ⟨rfl,.tup ha,rfl,true,rfl,rg ?_⟩);refine(um _ rfl a xs rfl (.inr<|SqT.of ha) rfl _ ⟨rfl,?_⟩);by_cases hl:xs.length=3
  .refine ur (λh=>?_) λ_=>?_
   .rw[hl]at h;exact absurd h<|by simp
   obtain⟨x,y,z,rfl⟩:=aw0 hl;have kn:=(hv.2 a _ rfl ha).2;have e:vk H (.ref a)=AC x y z:=by rw[qx,ha]
   rw[e]at q;refine(kj _ rfl a _ _ _ ⟨rfl,rfl,SqT.of ha,rfl,(m9 x rfl (kn x<|by simp) _ ⟨rfl,?_⟩)⟩);unfold AC at q;cases hx:isW x with
   | false=>rw[hx]at q;exact rg q
   | true=>
    rw[hx,Bool.true_and]at q;refine oo<|kj _ rfl a _ _ _ ⟨rfl,rfl,SqT.of ha,rfl,(m9 y rfl (kn y<|by simp) _ ⟨rfl,?_⟩)⟩;cases hy:isW y with
    | false=>rw[hy]at q;exact rg q
    | true=>
     rw[hy,Bool.true_and]at q;exact oo<|kj _ rfl a _ _ _ ⟨rfl,rfl,SqT.of ha,rfl,z,rfl,kn z<|by simp,q⟩
  .refine ur (λ_=>?_) λh=>?_
   .rw[aou ha hl]at q;exact q
   .exfalso;apply h;have:¬V.int ((xs.length:Nat):Int)=V.int 3:=λz=>by injection z with z;exact hl<|by lia
    rw[decide_eq_false this];rfl
 .rw[e]at q;exact(kj _ rfl v ("tuple") t false ⟨rfl,ty,kt,false,rfl,oo<|oo q⟩)
noncomputable def HR(i:Int):Int:=if i<0 then -i else i
noncomputable def wZ(a b:Cl):Bool:=HR (a.1-b.1)+HR (a.2-b.2)==1
def agn(a b:Cl):wZ a b=true↔Tch a b:=by obtain⟨a1,a2⟩:=a;obtain⟨b1,b2⟩:=b;unfold wZ Tch HR;simp only[beq_iff_eq];split<;>split<;>lia
def ah1{d:Z9}{p q:Int}(hd:∃r c:Int,d=.tuple [.int r,.int c]):c7 d (.tuple [.int p,.int q])=true↔cl d=(p,q):=by obtain⟨r,c,rfl⟩:=hd;show c7 (.tuple [.int r,.int c]) (.tuple [.int p,.int q])=true↔(r,c)=(p,q);rw[Prod.mk.injEq];simp[c7,PyData.eqvAll]
def anr{cs:U Z9}(jG:Cells cs)(p q:Int):(cs.any λe=>c7 e<|.tuple [.int p,.int q])=true↔(p,q)∈cs.map cl:=by
 rw[List.any_eq_true,a7];constructor
 .rintro⟨d,hd,e⟩;exact⟨d,hd,(ah1<|jG d hd).mp e⟩
 .rintro⟨d,hd,e⟩;exact⟨d,hd,(ah1<|jG d hd).mpr e⟩
def agx{d e:Z9}(hd:∃r c:Int,d=.tuple [.int r,.int c])(he:∃r c:Int,e=.tuple [.int r,.int c])(h:cl d=cl e):d=e:=by
 obtain⟨r,c,rfl⟩:=hd;obtain⟨r',c',rfl⟩:=he;have h':(r,c)=(r',c'):=h;injection h' with h1 h2
 rw[h1,h2]
theorem ag9:∀{T S:U Cl},Conn S->(∀b∈T,∃a∈S,Tch a b)->Conn (S++T)
 | [],S,h,_=>by rw[ie];exact h
 | b::T,S,h,ht=>by
  obtain⟨a,ha,t⟩:=ht b am;have h1:=h.snoc ha t;have h2:=ag9 (T:=T) h1 λb' fL=>by obtain⟨a',eJ,t'⟩:=ht b'<|ao _ fL;exact⟨a',f9 _ eJ,t'⟩
  rw[b9]at h2;exact h2
def ath:Sp:=λvs H Q _=>∃(a b:aE)(r c r' c':Int),vs=[.ref a,.ref b]/\H a=some (.tup [.int r,.int c])/\H b=some (.tup [.int r',.int c'])/\Q (.bl<|wZ (r,c) (r',c')) H
def axx:lq ZR ZR (k9 Hy):={}
def au1(B:∀x∈sw,mg x=none)(F:Fun K "touches" "touches" Hy f fd):qp P w K mg base CX0 1 f fd ZR ath:=by
 refine F.ok (k:=0) axx (λvs H Q E h=>?_) λbT A outer s H vs Q E hr h=>?_
 .obtain⟨a,b,r,c,r',c',rfl,_⟩:=h;rfl
 obtain⟨a,b,r,c,r',c',rfl,ha,hb,q⟩:=h;refine⟨_,(ku<|li<|on wm (nc o9 (mj ahb rfl (B "abs"<|by decide) boot_abs<|kq (nc xg (mi oq (pv 0) km λ_ _=>rfl)<|mi oq (pv 1) km λ_ _=>rfl) kh)<|mj ahb rfl (B "abs"<|by decide) boot_abs<|kq (nc xg (mi oq (pv 0) km λ_ _=>rfl)<|mi oq (pv 1) km λ_ _=>rfl) kh) km<|nw _),?_⟩;refine(kj _ rfl a _ _ _ ⟨rfl,rfl,SqT.of ha,rfl,(kj _ rfl b _ _ _ ⟨rfl,rfl,SqT.of hb,rfl,(lc _ _ ⟨rfl,rfl,_,rfl,?_⟩)⟩)⟩);refine(kj _ rfl a _ _ _ ⟨rfl,rfl,SqT.of ha,rfl,(kj _ rfl b _ _ _ ⟨rfl,rfl,SqT.of hb,rfl,(lc _ _ ⟨rfl,rfl,(nk _ rfl _ _ ⟨rfl,rfl,rfl,?_⟩)⟩)⟩)⟩);rw[Jr];exact q
def ayr:Sp:=λvs H Q _=>∃(a l:aE)(r c:Int)(xs:U V)(cs:U Z9),vs=[.ref a,.ref l]/\H a=some (.tup [.int r,.int c])/\H l=some (.lst xs)/\RepAll H cs xs/\Cells cs/\cs.length<=60/\∀H',Same H H'->Q (.bl<|(cs.map cl).any λx=>wZ (r,c) x) H'
def azb:lq ZQ ZQ (k9 sTa):={}
def awh(B:∀x∈sw,mg x=none)(J7:Fn P w K mg base "touches" 1 ZR ath)(F:Fun K "touches_any" "touches_any" sTa f fd):qp P w K mg base CX0 2 f fd ZQ ayr:=by
 refine F.ok (k:=1) azb (λvs H Q E h=>?_) λbT A outer s H vs Q E hr h=>?_
 .obtain⟨a,l,r,c,xs,cs,rfl,_⟩:=h;rfl
 obtain⟨a,l,r,c,xs,cs,rfl,ha,hl,dB,jG,pU,q⟩:=h;have aX:=dB.length;refine⟨_,(ku<|li<|mj (anh rfl) rfl (B "any"<|by decide) boot_any<|kq (mr ["other","cell"] [none,some 0] rfl rfl (by decide +kernel) (by decide +kernel) rfl rfl (pc<|pv 1) (λ_=>(k7 (i:=0) (show(["other","cell"]:U PySem.Str).Nodup by decide +kernel) rfl<|Or.inl rfl)) (λ_=>ma) λ_=>(lv J7 hr (by decide) rfl<|kq (pv 1)<|kq (pv 0) kh)) kh),?_⟩;refine(mm _ rfl l ⟨rfl,⟨_,SqL.of hl⟩,λD hD=>?_⟩);refine nz (xs:=xs) (λi ys H'=>Same H H'/\ys=((cs.take i).map λd=>wZ (r,c)<|cl d).map V.bl) ⟨Same.fresh _ hD,rfl⟩ (λi ys H' p=>SqL.of<|p.1 _ _ hl) (λi x ys H' hx hi aV bG p=>?_) λys H' aV bG p=>?_
 .obtain⟨p1,rfl⟩:=p;obtain⟨b,r',c',rfl,hb,hd⟩:=xp jG dB hx;refine⟨Agree.set (Agree.refl _) rfl,?_⟩;dsimp only[uw];refine oo ?_;refine(oh _ rfl _ rfl a b r<|mf c r' c' ⟨rfl,p1 _ _ ha,p1 _ _ hb,ny (by lia) aV bG ⟨p1.new hD,?_⟩⟩);rw[k8 (λd=>wZ (r,c)<|cl d) hd,bb];rfl
 .obtain⟨p1,rfl⟩:=p;refine(lc D _ ⟨rfl,aV,?_⟩);rw[au (by lia),List.any_map];have e:=q H' p1;rw[List.any_map]at e;exact e
def ayk:Sp:=λvs H Q _=>∃(a:aE)(xs:U V)(cs:U Z9),vs=[.ref a]/\H a=some (.lst xs)/\RepAll H cs xs/\Cells cs/\(cs.map cl).Nodup/\0<cs.length/\cs.length<=6/\∀(b:Bool)(H':Hp),Same H H'->(b=true↔Conn (cs.map cl))->Q (.bl b) H'
def scPh:lq ["cells","reached","missing","near"] ["cells"] (k9 sPh):={}
def azp{xs:U V}(h:0<xs.length):nB xs none (some 1)=xs.take 1:=by unfold nB;rw[HT.sIx_none,show(some (1:Int))=some (((1:Nat):Int))from rfl,HT.sIx_nat];rw[show iQ 1 xs.length-0=1 by lia];rfl
def azh(xs:U V):nB xs (some 1) none=xs.drop 1:=by
 unfold nB;rw[HT.sIx_none,show(some (1:Int))=some (((1:Nat):Int))from rfl,HT.sIx_nat];by_cases h:xs.length=0
 .have:xs=[]:=fj.mp h;subst this;rfl
 .rw[show iQ 1 xs.length=1 by lia,au<|by rw[ii];exact aq _]
def JY{ds es:U Z9}(h:Cells es)(hs:∀d∈ds,d∈es):Cells ds:=λd hd=>h d<|hs d hd
def aa6{α:Type}{p:α->Bool}{l:List α}{i:Nat}{x:α}(h:l[i]?=some x):(l.take<|i+1).filter p=(l.take i).filter p++(if p x then[x]else[]):=by rw[jo,h,List.filter_append];by_cases hp:p x<;>simp[hp]
theorem axw(B:∀x∈sw,mg x=none)(Fta:Fn P w K mg base "touches_any" 2 ZQ ayr)(F:Fun K "hang_together" "hang_together" sPh f fd):qp P w K mg base CX0 3 f fd ["cells"] ayk:=by
 refine F.ok (k:=2) scPh (λvs H Q E h=>?_) λbT A outer s H vs Q E hr h=>?_
 .obtain⟨a,xs,cs,rfl,_⟩:=h;rfl
 obtain⟨a,xs,cs,rfl,ha,dB,jG,ls,fK,hsix,q⟩:=h;have hu:=hr.units;have aX:=dB.length;refine⟨_,(kl (me (i:=1) scPh.nd rfl (Or.inr rfl)<|wc Dc (pv 0) yj<|yn km)
  (kl (me (i:=2) scPh.nd rfl (Or.inl rfl)<|wc Dc (pv 0) (yn km) yj)
  (kl (me (i:=3) scPh.nd rfl (Or.inr rfl)<|pv 1)
  (kl (ao6 fq (an7 (pv 3)<|by intro _;rfl) (kl (me (i:=3) scPh.nd rfl (Or.inr rfl)<|mr ["cell","reached"] [none,some 1] rfl rfl (by decide +kernel) (by decide +kernel) rfl rfl (pc<|pv 2) (λ_=>(k7 (i:=0) (show(["cell","reached"]:U PySem.Str).Nodup by decide +kernel) rfl<|Or.inl rfl)) (λ_=>Dd<|o4<|lv Fta hr (by decide) rfl<|kq (pv 0)<|kq (pv 1) kh) λ_=>(pv 0))
  (kl (me (i:=1) scPh.nd rfl (Or.inr rfl)<|nc zH (pv 1)<|pv 3)
  (ku<|sq (i:=2) ["cell","near"] [none,some 3] scPh.nd rfl (Or.inl rfl) rfl rfl rfl (by decide +kernel) (by decide +kernel) rfl rfl (pc<|pv 2) (λ_=>(k7 (i:=0) (show(["cell","near"]:U PySem.Str).Nodup by decide +kernel) rfl<|Or.inl rfl)) (λ_=>Dd<|ot (xk hu) (pv 0) (pv 1) rfl) λ_=>(pv 0)))))
  (ku<|li<|on (IU hu) (pv 2) (pj kh)<|nw _))))),?_⟩
 refine(tf _ rfl 1 rfl a xs ⟨rfl,SqL.of ha,λR hR=>?_⟩);rw[azp (by lia)];have s1:Same H (upd H R<|.lst<|xs.take 1):=Same.fresh _ hR;have R1:upd H R (.lst<|xs.take 1) R=some (.lst<|xs.take 1):=kr;generalize upd H R (.lst<|xs.take 1)=H1 at *;refine(tf _ rfl 1 rfl a xs ⟨rfl,SqL.of<|s1 _ _ ha,λM hM=>?_⟩);rw[azh];have s2:Same H1 (upd H1 M<|.lst<|xs.drop 1):=Same.fresh _ hM;have M2:upd H1 M (.lst<|xs.drop 1) M=some (.lst<|xs.drop 1):=kr;have R2:=s2 _ _ R1;have gG:=s1.trans s2;generalize upd H1 M (.lst<|xs.drop 1)=H2 at *;refine⟨_,rfl,?_⟩;refine⟨λm σ' H'=>∃(R M N:aE)(rs ms ns:U Z9)(rx mx nx:U V),σ'=[some (.ref a),some<|.ref R,some<|.ref M,some<|.ref N]/\Same H H'/\H' R=some (.lst rx)/\RepAll H' rs rx/\H' M=some (.lst mx)/\RepAll H' ms mx/\H' N=some (.lst nx)/\RepAll H' ns nx/\
  (rs++ms).Perm cs/\Conn (rs.map cl)/\0<rs.length/\(ns=[]->∀x,x∈rs.map cl->∀y,y∈ms.map cl->¬Tch x y)/\m=2*ms.length+(if ns=[]then 0 else 1),?_,?_⟩
 .obtain⟨d0,t,rfl⟩:∃d t,cs=d::t:=by
   match cs,fK with
   | d::t,_=>exact(lc d t rfl)
  refine(lr _ R M R ([d0])<|lr t ([d0]) _ _ _ ⟨rfl,gG,R2,(dB.same gG).take 1,M2,(dB.same gG).drop 1,R2,(dB.same gG).take 1,ip _,Conn.one _,by simp,(λe=>by cases e),rfl⟩)
 rintro m σ' H' ⟨R,M,N,rs,ms,ns,rx,mx,nx,rfl,sm,hR',xJ,Cc,qF,hN',Fs,pm,con,Fp,lS,rfl⟩;have lR:=xJ.length;have lM:=qF.length;have lN:=Fs.length;have lpm:=pm.length_eq;rw[bn]at lpm;have hrs:Cells rs:=JY jG λd hd=>pm.mem_iff.mp<|f9 _ hd;have uO:Cells ms:=JY jG λd hd=>pm.mem_iff.mp<|b8 _ hd;refine(mm _ rfl _ ⟨.inl ⟨nx,SqL.of hN',rfl⟩,?_⟩);refine ur (λuS=>?_) λhstop=>?_
 .have eG:ns≠[]:=λe=>by
   rw[e]at lN;have:nx=[]:=fj.mp lN;rw[this]at uS;cases uS
  refine⟨λσ2 H2=>∃m',m'<2*ms.length+(if ns=[]then 0 else 1)/\∃(R M N:aE)(rs ms ns:U Z9)(rx mx nx:U V),σ2=[some (.ref a),some<|.ref R,some<|.ref M,some<|.ref N]/\Same H H2/\H2 R=some (.lst rx)/\RepAll H2 rs rx/\H2 M=some (.lst mx)/\RepAll H2 ms mx/\H2 N=some (.lst nx)/\RepAll H2 ns nx/\
   (rs++ms).Perm cs/\Conn (rs.map cl)/\0<rs.length/\(ns=[]->∀x,x∈rs.map cl->∀y,y∈ms.map cl->¬Tch x y)/\m'=2*ms.length+(if ns=[]then 0 else 1),λσ2 H2 h=>h,?_⟩
  let p:Z9->Bool:=λd=>(rs.map cl).any λx=>wZ (cl d) x
  refine(mm _ rfl M ⟨rfl,⟨_,SqL.of Cc⟩,λN2 hN2=>?_⟩);refine nz (xs:=mx) (λi ys G=>Same H' G/\RepAll G ((ms.take i).filter p) ys) ⟨Same.fresh _ hN2,rfl⟩ (λi ys G pp=>SqL.of<|pp.1 _ _ Cc) (λi x ys G hx hi aV bG pp=>?_) λvT G wN bG pp=>?_
  .obtain⟨p1,p2⟩:=pp;obtain⟨b,r',c',rfl,hb,hd⟩:=xp uO qF hx;have kQ:=aa6 (p:=p) hd;refine⟨Agree.set (Agree.refl _) rfl,?_⟩;refine(oh _ rfl _ rfl b R r'<|mf c' rx rs ⟨rfl,p1 _ _ hb,p1 _ _ hR',xJ.same p1,hrs,by lia,λG2 s2=>⟨_,rfl,?_⟩⟩);have dH:=s2 _ _ aV;have Fy:=p1.trans s2;have cond:((rs.map cl).any λx=>wZ (r',c') x)=p (.tuple [.int r',.int c']):=rfl;rw[cond];cases hp:p (.tuple [.int r',.int c'])with
   | true=>
    rw[hp]at kQ;refine oo ?_;refine⟨_,rfl,ny (by lia) dH bG ⟨Fy.new hN2,?_⟩⟩;rw[kQ];refine((p2.same s2).snoc (t7<|Fy _ _ hb)).tk (Tk.lst dH) (Cells.imm λd mV=>?_);rcases bm.mp mV with h|h
    .exact uO d<|dn (gg.mp h).1
    .rw[ay.mp h];exact(lc _ _ rfl)
   | false=>
    rw[hp]at kQ;refine rg ?_;refine⟨ys,dH,by lia,Fy,?_⟩;rw[kQ];simpa using p2.same s2
  obtain⟨p1,p2⟩:=pp;rw[au (by lia)]at p2;have lN2:=p2.length;have Gg:Cells (ms.filter p):=JY uO λd hd=>(gg.mp hd).1;have lf:(ms.filter p).length<=ms.length:=List.length_filter_le _ _;refine(oh _ rfl _ rfl R N2 rx ⟨vT,rfl,rfl,p1 _ _ hR',wN,ck<|lu<|by lia,λR3 hR3=>?_⟩);have s3:Same G (upd G R3<|.lst<|rx++vT):=Same.fresh _ hR3;have R3o:upd G R3 (.lst<|rx++vT) R3=some (.lst<|rx++vT):=kr;generalize upd G R3 (.lst<|rx++vT)=G3 at *;have DJ:=p1.trans s3;have Cd:=s3 _ _ wN;have Fx:=p2.same s3;have pin:∀d,d∈ms->((!((ms.filter p).any λe=>c7 e d)) = !p d):=λd hd=>by
   obtain⟨r',c',rfl⟩:=uO d hd
   congr 1
   rw[g0,anr Gg];constructor
   .intro h;obtain⟨e,he,ee⟩:=a7.mp h;obtain⟨h1,h2⟩:=gg.mp he;have:=agx (uO e h1) (lc r' c' rfl) ee;rw[<-this];exact h2
   .intro h;exact a7.mpr ⟨_,gg.mpr ⟨hd,h⟩,rfl⟩
  refine(mm _ rfl M ⟨rfl,⟨_,SqL.of<|DJ _ _ Cc⟩,λM4 hM4=>?_⟩);refine nz (xs:=mx) (λi ys G=>Same G3 G/\RepAll G ((ms.take i).filter λd=>!p d) ys) ⟨Same.fresh _ hM4,rfl⟩ (λi ys G pp=>SqL.of<|pp.1 _ _<|DJ _ _ Cc) (λi x ys G4 hx hi aV bG pp=>?_) λmx4 G4 hDm bG pp=>?_
  .obtain⟨q1,q2⟩:=pp;obtain⟨b,r',c',rfl,hb,hd⟩:=xp uO qF hx;have kQ:=aa6 (p:=λd=>!p d) hd;have hb4:=q1 _ _<|DJ _ _ hb;refine⟨Agree.set (Agree.refl _) rfl,?_⟩;refine(oh _ rfl _ rfl (.tuple [.int r',.int c']) N2 vT ⟨ms.filter p,t7 hb4,rfl,.inl<|q1 _ _ Cd,Fx.same q1,(by simp[er,ba]),_,rfl,?_⟩);rw[if_pos rfl,pin _<|aj hd];cases hp:p (.tuple [.int r',.int c'])with
   | true=>
    simp only[hp]at kQ;refine rg ?_;refine⟨ys,aV,by lia,q1,?_⟩;rw[kQ];simpa using q2
   | false=>
    simp only[hp]at kQ;refine oo ?_;refine⟨_,rfl,ny (by lia) aV bG ⟨q1.new hM4,?_⟩⟩;rw[kQ];refine(q2.snoc<|t7 hb4).tk (Tk.lst aV) (Cells.imm λd mV=>?_);rcases bm.mp mV with h|h
    .exact uO d<|dn (gg.mp h).1
    .rw[ay.mp h];exact(lc _ _ rfl)
  obtain⟨q1,q2⟩:=pp;rw[au (by lia)]at q2;have s14:=DJ.trans q1;have wC:(ms.filter p++ms.filter λd=>!p d).Perm ms:=List.filter_append_perm p ms;refine(kj _ ?_ R3 M4 N2 (rs++ms.filter p)<|lr (ms.filter λd=>!p d) (ms.filter p) (rx++vT) mx4 vT ⟨rfl,sm.trans s14,q1 _ _ R3o,((xJ.same s14).append (Fx.same q1)),hDm,q2,q1 _ _ Cd,Fx.same q1,?_,?_,by rw[bn];lia,?_,rfl⟩)
  .have hl:=wC.length_eq;rw[bn]at hl;rw[if_neg eG];by_cases he:ms.filter p=[]
   .rw[if_pos he];lia
   .rw[if_neg he];have:0<(ms.filter p).length:=List.length_pos_iff.mpr he;lia
  .rw[b9];exact(wC.append_left rs).trans pm
  .rw[bb];refine ag9 con λb hb=>?_;obtain⟨d,hd,rfl⟩:=a7.mp hb;obtain⟨h1,h2⟩:=gg.mp hd;obtain⟨x,hx,t⟩:=List.any_eq_true.mp h2;exact⟨x,hx,((agn _ _).mp t).symm⟩
  .intro he x hx y hy ht;rw[he,ie]at hx;obtain⟨d,hd,rfl⟩:=a7.mp hy;have pQ:=(gg.mp hd).1;have hp:p d=true:=List.any_eq_true.mpr ⟨x,hx,(agn _ _).mpr ht.symm⟩;have:d∈ms.filter p:=gg.mpr ⟨pQ,hp⟩;rw[he]at this;cases this
 .have iL:ns=[]:=by
   have:nx.isEmpty=true:=by
    cases h:nx.isEmpty with
    | true=>rfl
    | false=>rw[h]at hstop;exact absurd rfl hstop
   rw[List.isEmpty_iff.mp this]at lN;exact fj.mp lN.symm
  refine⟨_,rfl,sZ0,λl hl=>?_⟩;have sl:Same H' (upd H' l<|.lst []):=Same.fresh _ hl;refine(lc (.list ms) (.list []) ⟨(lc M mx ⟨rfl,sl _ _ Cc,qF.same sl⟩),(lc l ([]) ⟨rfl,kr,rfl⟩),?_,?_⟩)
  .have:ba ms<=2:=by
    clear qF lM lpm pm lS;induction ms with
    | nil=>simp[ba]
    | cons d t ih=>
     obtain⟨r,c,rfl⟩:=uO d (by simp);have:=ih λe he=>uO e (by simp[he]);simp[ba,er];lia
   simp[er];lia
  rw[if_neg ak];refine q _ _ (sm.trans sl) ?_;have hem:c7 (.list ms) (.list [])=true↔ms=[]:=by
   cases ms with
   | nil=>simp[c7,PyData.eqvAll]
   | cons d t=>simp[c7,PyData.eqvAll]
  rw[hem];have Ae:((rs.map cl)++(ms.map cl)).Perm (cs.map cl):=by rw[<-bb];exact pm.map cl
  constructor
  .intro e;rw[e,List.map_nil,ie]at Ae;exact con.congr λx=>Ae.symm.mem_iff
  .intro hC;have bI:=hC.closed (R:=rs.map cl) (λx hx=>Ae.mem_iff.mp<|f9 _ hx) ⟨_,fk (l:=rs.map cl) (n:=0)<|by simpa using Fp⟩ (λx hx y hy t=>by
    rcases bm.mp (Ae.mem_iff.mpr hy)with h|h
    .exact h
    .exact absurd t<|lS iL x hx y h)
   have Gi:=Ae.nodup_iff.mpr ls;apply du;intro eG;obtain⟨d,hd⟩:=List.exists_mem_of_ne_nil ms eG;have h1:=bI (cl d)<|Ae.mem_iff.mp<|b8 _<|cg hd;exact(List.nodup_append.mp Gi).2.2 (cl d) h1 (cl d) (cg hd) rfl
def amr{R S:U Cl}(hR:R.Nodup)(hs:∀x,x∈R->x∈S)(hl:S.length<=R.length):∀x,x∈S->x∈R:=λx hx=>by
 apply du;intro hn;have h1:(x::R).Nodup:=iy.mpr ⟨hn,hR⟩;have:=fh h1 (l₂:=S) (λy hy=>by
  rcases ar.mp hy with rfl|hy
  .exact hx
  .exact hs y hy)
 rw[bj]at this;lia
theorem xz:∀{S R:U Cl},R.Nodup->(∀x,x∈R->x∈S)->S.length<=R.length->S.Nodup
 | [],_,_,_,_=>List.nodup_nil
 | a::S,R,hR,hs,hl=>by
  have bI:=amr hR hs hl;have DZ:a∉S:=λha=>by
   have:=fh hR (l₂:=S) (λy hy=>by
    rcases ar.mp (hs y hy)with rfl|h
    .exact ha
    .exact h)
   rw[bj]at hl;lia
  refine iy.mpr ⟨DZ,xz (R:=R.erase a) (hR.erase a) (λx hx=>?_) ?_⟩
  .have pN:=(List.Nodup.mem_erase_iff hR).mp hx;rcases ar.mp (hs x pN.2)with e|h
   .exact absurd e pN.1
   .exact h
  .rw[List.length_erase_of_mem (bI a am)];rw[bj]at hl;lia
noncomputable def tP(d:Z9):Z9:=.tuple [.int (kE d),.int<|kC d]
def JF(ds:U Z9):(ds.map tP).map cl=ds.map cl:=by rw[gy];rfl
def va(ds:U Z9):Cells (ds.map tP):=λd hd=>by obtain⟨e,_,rfl⟩:=a7.mp hd;exact(lc _ _ rfl)
section
variable{K:av}{a:aE}{xs:U V}{ds:U Z9}{σ:L2.St}{H:Hp}{Q:VK}
def sf{i0:Nat}(j:Int)(pr:Z9->Int)(hj:∀(r c:Int)(x:Str),atI [V.int r,.int c,.str x] j=some (.int<|pr<|.tuple [.int r,.int c,.str x]))
  (hσ:σ[i0]?=some (some<|.ref a)) (ha:H a=some (.lst xs)\/H a=some (.tup xs)) (hr:RepAll H ds xs) (hs:Spots ds) (hl:ds.length<=64)
  (q:∀D H',Same H H'->H' D=some (.lst<|(ds.map pr).map V.int)->Q (.ref D) H') :
  xB (HN K<|jB i0) [none] (ub 0) uw (tOp (CD K) (jB 0)<|tC<|.int j) σ H Q:=by
 have aX:=hr.length;refine(mm _ hσ a ⟨rfl,aib ha (λD i ys H'=>Same H H'/\ys=((ds.take i).map pr).map V.int) (λD hD=>⟨Same.fresh _ hD,rfl⟩) (λD i ys H' p=>p.1) (λD i x ys H' hD hx hi aV bG p=>?_) λD ys H' hD aV bG p=>?_⟩)
 .obtain⟨p1,rfl⟩:=p;obtain⟨b,r,c,z,rfl,hb,hz,hd⟩:=hs.at hr hx;refine⟨Agree.set (Agree.refl _) rfl,?_⟩;dsimp only[uw];refine oo ?_;refine(kj _ rfl b _ _ _ ⟨rfl,rfl,SqT.of<|p1 _ _ hb,hj r c z,ny (by lia) aV bG ⟨p1.new hD,?_⟩⟩);rw[k8 pr hd,bb];rfl
 .obtain⟨p1,rfl⟩:=p;refine q D H' p1 ?_;rw[aV,au<|by lia]
def aon{i0:Nat}(hσ:σ[i0]?=some (some<|.ref a))(ha:H a=some (.tup xs))(hr:RepAll H ds xs)(hs:Spots ds)(hl:ds.length<=64)
  (q:∀D ys H',Same H H'->H' D=some (.lst ys)->RepAll H' (ds.map tP) ys->Q (.ref D) H') :
  xB (ayt K<|jB i0) [none,none,none] (Aw K 3<|ym (ub 0)<|ym (ub 1)<|ym (ub 2) CB) uw (Et<|sL (jB 0)<|sL (jB 1) CC) σ H Q:=by
 have aX:=hr.length;refine(mm _ hσ a ⟨rfl,⟨_,SqT.of ha⟩,λD hD=>?_⟩);refine qo (xs:=xs) (λi ys H'=>Same H H'/\RepAll H' ((ds.take i).map tP) ys) ⟨Same.fresh _ hD,rfl⟩ (λi ys H' p=>SqT.of<|p.1 _ _ ha) (λi x ys H' hx hi aV bG p=>?_) λys H' aV bG p=>?_
 .obtain⟨p1,p2⟩:=p;obtain⟨b,r,c,z,rfl,hb,hz,hd⟩:=hs.at hr hx;refine(nj b _ rfl (SqT.of<|p1 _ _ hb) rfl _ _ rfl _<|nk _ rfl _ _ ⟨rfl,rfl,?_⟩);refine⟨Agree.set (Agree.set (Agree.set (Agree.refl _) rfl) rfl) rfl,?_⟩;dsimp only[uw];refine oo ?_;refine(mm _ rfl _ ⟨rfl,sZ2,λn hn=>?_⟩);have im:qd (((ds.take i).map tP)++[.tuple [.int r,.int c]])=true:=Cells.imm λd mV=>by
   rcases bm.mp mV with h|h
   .exact va _ d h
   .rw[ay.mp h];exact(lc _ _ rfl)
  have uK:Same H' (upd H' n<|.tup [.int r,.int c]):=Same.fresh _ hn;have wN:=uK _ _ aV;have uJ:RepAll (upd H' n<|.tup [.int r,.int c]) (((ds.take i).map tP)++[.tuple [.int r,.int c]]) (ys++[.ref n]):=(p2.same uK).snoc (t7 kr);refine ny (by lia) wN bG ⟨(p1.trans uK).new hD,?_⟩;rw[k8 tP hd];exact uJ.tk (Tk.lst wN) im
 .obtain⟨p1,p2⟩:=p;rw[au (by lia)]at p2;exact q D ys H' p1 aV p2
end
def FormP(H:Hp)(v:V):Prop:=∃a xs ds,v=.ref a/\H a=some (.tup xs)/\RepAll H ds xs/\Frm ds
def ajr{H:Hp}{d:Z9}{x:V}(h:Rep H d x)(hd:SgD d):vk H x=true:=by obtain⟨r,c,k,rfl,h1,h2⟩:=hd;obtain⟨a,rfl,ha,_⟩:=E5 h;rw[qx,ha];show AC (.int r) (.int c) (.str ⟨#[k]⟩)=true;show(true&&true&&(decide (65<=k)&&decide (k<=90)))=true;rw[decide_eq_true h1,decide_eq_true h2];rfl
theorem ar2{H:Hp}{x:V}(h:vk H x=true):∃d,Rep H d x/\SgD d:=by
 cases x with
 | ref a=>
  rw[qx]at h;split at h
  .rename_i x y z ha
   unfold AC at h;rw[cy,cy]at h;obtain⟨⟨hx,hy⟩,hz⟩:=h;cases x with
   | int r=>
    cases y with
    | int c=>
     cases z with
     | str z=>
      have nR:sg1 z=true:=hz;by_cases hl:z.length=1
      .obtain⟨k,rfl⟩:=IK hl;rw[E2,cy]at nR;have k1:=of_decide_eq_true nR.1;have k2:=of_decide_eq_true nR.2;refine⟨.tuple [.int r,.int c,.str ⟨#[k]⟩],wa ha (Tx.ok ⟨by show 1<=80;lia,λx hx=>by
        have:x=k:=by simpa using hx
        lia⟩),r,c,k,rfl,k1,k2⟩
      .rw[Jw hl]at nR;cases nR
     | _=>cases hz
    | _=>cases hy
   | _=>cases hx
  .cases h
 | _=>cases h
theorem JQ{H:Hp}:∀{xs:U V},xs.all (vk H)=true->∃ds,RepAll H ds xs/\∀d∈ds,SgD d
 | [],_=>⟨[],rfl,λd hd=>by cases hd⟩
 | x::xs,h=>by
  rw[List.all_cons,cy]at h;obtain⟨d,h1,h2⟩:=ar2 h.1;obtain⟨ds,h3,h4⟩:=JQ h.2;refine⟨d::ds,(lc x xs ⟨rfl,h1,h3⟩),λe he=>?_⟩;rcases ar.mp he with rfl|he
  .exact h2
  .exact h4 e he
theorem JU{H:Hp}:∀{ds:U Z9} {xs:U V},RepAll H ds xs->(∀d∈ds,SgD d)->xs.all (vk H)=true
 | [],xs,h,_=>by have e:xs=[]:=h;rw[e];rfl
 | d::ds,xs,h,hs=>by obtain⟨x,t,rfl,h1,h2⟩:=h;rw[List.all_cons,ajr h1<|hs d am,JU h2 λe he=>hs e<|ao _ he];rfl
theorem Js{H:Hp}:∀{ds es:U Z9} {xs:U V},RepAll H ds xs->RepAll H es xs->(∀d∈ds,SgD d)->(∀d∈es,SgD d)->ds=es
 | [],[],_,_,_,_,_=>rfl
 | [],e::es,xs,h1,h2,_,_=>by have e1:xs=[]:=h1;obtain⟨x,t,e2,_⟩:=h2;rw[e1]at e2;cases e2
 | d::ds,[],xs,h1,h2,_,_=>by have e1:xs=[]:=h2;obtain⟨x,t,e2,_⟩:=h1;rw[e1]at e2;cases e2
 | d::ds,e::es,xs,h1,h2,s1,s2=>by obtain⟨x,t,rfl,a1,b1⟩:=h1;obtain⟨x',t',e',a2,b2⟩:=h2;cases e';obtain⟨r,c,k,rfl,_⟩:=s1 d am;obtain⟨r',c',k',rfl,_⟩:=s2 e am;obtain⟨p,rfl,hp,_⟩:=E5 a1;obtain⟨p',ep,DX,_⟩:=E5 a2;cases ep;rw[hp]at DX;cases DX;rw[Js b1 b2 (λz hz=>s1 z<|ao _ hz) (λz hz=>s2 z<|ao _ hz)]
def FormP.same{H H':Hp}{a:aE}{xs:U V}{ds:U Z9}(ha:H a=some (.tup xs))(dB:RepAll H ds xs)(hs:∀d∈ds,SgD d):FormP H (.ref a)↔Frm ds:=by
 constructor
 .rintro⟨b,ys,es,e,hb,r,fr⟩;cases e;rw[ha]at hb;cases hb;rw[Js dB r hs fr.1.pre.sg];exact fr
 .intro h;exact(mf a xs ds ⟨rfl,ha,dB,h⟩)
def aj2{ds:U Z9}(h:Frm ds):qf (ow ds)=ds:=by
 have e:ow ds=ds:=by unfold ow;rw[h.1.r0,h.1.c0];refine(je λd hd=>?_).trans (List.map_id ds);obtain⟨r,c,k,rfl,_⟩:=h.1.pre.sg d hd;show PyData.tuple [.int (r-0),.int<|c-0,.str ⟨#[k]⟩]=_;rw[Int.sub_zero,Int.sub_zero];rfl
 rw[e];exact amc h<|ip _
def avy{ds:U Z9}(pre:Pre ds)(e:qf (ow ds)=ds):Frm ds:=by have hz:=Zr.shift pre;have h:=Frm.of hz;rw[e]at h;exact h
theorem auf{ds:U Z9}(h:∀d∈ds,SgD d):wn ds=true:=by
 induction ds with
 | nil=>rfl
 | cons d t ih=>
  obtain⟨r,c,k,rfl,_⟩:=h d am;show(kd _&&wn t)=true;rw[ih λe he=>h e<|ao _ he];rfl
theorem anx{ds:U Z9}(h:∀d∈ds,SgD d):ba ds<=2:=by
 induction ds with
 | nil=>simp[ba]
 | cons d t ih=>
  obtain⟨r,c,k,rfl,_⟩:=h d (by simp);have:=ih λe he=>h e (by simp[he]);simp[ba,er];lia
def ang(d:Z9):Ew (tP d):=⟨rfl,⟨_,rfl⟩,by show(PyData.tuple [.int _,.int _]).depth<8;simp[er,ba]⟩
noncomputable abbrev G6(mg:Str->Option aA):Prop:=∃t,mg "MOST_SPOTS" = some (.int 6 t)
def HZ:Sp:=λvs H Q _=>∃a xs ds,vs=[.ref a]/\(H a=some (.lst xs)\/H a=some (.tup xs))/\RepAll H ds xs/\Spots ds/\0<ds.length/\ds.length<64/\∀r H',Same H H'->Rep H' (.tuple<|qf<|ow ds) (.ref r)->Q (.ref r) H'
def scFmd:lq ["spots","top","left"] ["spots"] (k9 HM):={}
def au8(B:∀x∈sw,mg x=none)(F:Fun K "formed" "formed" HM f fd):qp P w K mg base CX0 1 f fd ["spots"] HZ:=by
 refine F.ok (k:=0) scFmd (λvs H Q E h=>?_) λbT A outer s H vs Q E hr h=>?_
 .obtain⟨a,xs,ds,rfl,_⟩:=h;rfl
 obtain⟨a,xs,ds,rfl,ha,fV,hs,fK,wQ,q⟩:=h;refine⟨_,(kl (me (i:=1) scFmd.nd rfl (Or.inr rfl)<|ajs rfl rfl (B "min"<|by decide) (kq (mr Z6 [none] rfl rfl (by decide +kernel) (by decide +kernel) rfl rfl (yb<|pv 0) (λ_=>(k7 (i:=0) (show(Z6:U PySem.Str).Nodup by decide +kernel) rfl<|Or.inl rfl)) (λ_=>ma) λ_=>(mi sn (pv 0) km λ_ _=>rfl)) kh)<|ET km EH)
  (kl (me (i:=2) scFmd.nd rfl (Or.inr rfl)<|ajs rfl rfl (B "min"<|by decide) (kq (mr Z6 [none] rfl rfl (by decide +kernel) (by decide +kernel) rfl rfl (yb<|pv 0) (λ_=>(k7 (i:=0) (show(Z6:U PySem.Str).Nodup by decide +kernel) rfl<|Or.inl rfl)) (λ_=>ma) λ_=>(mi sn (pv 0) km λ_ _=>rfl)) kh)<|ET km EH)
  (ku<|li<|vx oa rfl (B "tuple"<|by decide) ik<|kq (mj zk rfl (B "sorted"<|by decide) lV<|kq (mr ZP [none,none,none,some 1,some 2] rfl rfl (by decide +kernel) (by decide +kernel) rfl rfl (yb<|pv 0) (λ_=>(Db (n:=3) rfl<|lm (k7 (i:=0) (show(ZP:U PySem.Str).Nodup by decide +kernel) rfl<|Or.inl rfl)<|lm (k7 (i:=1) (show(ZP:U PySem.Str).Nodup by decide +kernel) rfl<|Or.inl rfl)<|lm (k7 (i:=2) (show(ZP:U PySem.Str).Nodup by decide +kernel) rfl<|Or.inl rfl) qc)) (λ_=>ma) λ_=>(o6<|kq (nc xg (pv 0)<|pv 3)<|kq (nc xg (pv 1)<|pv 4)<|kq (pv 2) kh)) kh) kh))),?_⟩
 refine sf 0 kE ES rfl ha fV hs (ck wQ) λD1 H1 s1 uX=>?_;refine⟨rfl,(lc D1 _ ⟨rfl,uX,by rw[ae];exact fK,λM1 m1 uC=>?_⟩)⟩;refine sf 1 kC EM rfl (ha.imp (s1 _ _)<|s1 _ _) (fV.same s1) hs (ck wQ) λD2 H2 s2 dH=>?_;refine⟨rfl,(lc D2 _ ⟨rfl,dH,by rw[ae];exact fK,λM2 m2 tZ=>?_⟩)⟩;have gG:=s1.trans s2;refine aji (tq M1 M2) rfl rfl (ha.imp (gG _ _)<|gG _ _) (fV.same gG) hs (by lia) (λr c z H' Q' h=>?_) (λr c z=>(lc _ _ rfl)) λD ys H3 hD s3 wP gH=>?_
 .obtain⟨u,v,e,q⟩:=h;cases (show PyData.tuple [.int (r-M1),.int<|c-M2,.str z]=.tuple [.int u,.int v,.str z]from e);exact(su _ rfl _ rfl _ _ rfl rfl _ ⟨rfl,(nh _ rfl _ _ rfl rfl _ ⟨rfl,sZ3,q⟩)⟩)
 .have e:ds.map (tq M1 M2)=ow ds:=by unfold ow;rw[wy m1 uC,wy m2 tZ]
  rw[e]at gH;refine(my D ys _ ([true,false]) ⟨rfl,wP,gH,(by rw[<-e];exact abr hs _ _),by unfold ow;rw[ae];exact wQ,λl1 zs mE hz=>?_⟩);refine(lc l1 zs ⟨rfl,.inl ⟨SqL.of kr,λl2 jE=>?_⟩⟩);have t1:Same H3 (upd H3 l1<|.lst zs):=Same.fresh _ mE;have t2:Same (upd H3 l1<|.lst zs) (upd (upd H3 l1<|.lst zs) l2<|.tup zs):=Same.fresh _ jE;exact q l2 _ (((gG.trans s3).trans t1).trans t2)<|lc l2 zs ⟨rfl,kr,hz.same t2⟩
def aym:Sp:=λvs H Q _=>∃v,vs=[v]/\Kn3 H v/\∀(b:Bool)(H':Hp),Same H H'->(b=true↔FormP H v)->Q (.bl b) H'
def scPf:lq ["found","cells"] Z8 (k9 sPf):={}
def p8{A:Prop}(h:¬A):(false=true↔A):=⟨(λz=>by cases z),λz=>absurd z h⟩
theorem axm(B:∀x∈sw,mg x=none)(g6:G6 mg)(J9:Fn P w K mg base "is_spot" 2 Z8 ays)(zS:Fn P w K mg base "formed" 1 ["spots"] HZ)(Fph:Fn P w K mg base "hang_together" 3 ["cells"] ayk)
  (F:Fun K "is_form" "is_form" sPf f fd):qp P w K mg base CX0 4 f fd Z8 aym:=by
 refine F.ok (k:=3) scPf (λvs H Q E h=>?_) λbT A outer s H vs Q E hr h=>?_
 .obtain⟨c,rfl,_⟩:=h;rfl
 obtain⟨v,rfl,hv,q⟩:=h;have hu:=hr.units;refine⟨_,(kl (qm (PW.pt<|vz (om<|o4<|mj ml rfl (B "isinstance"<|by decide) en<|kq (pv 0)<|kq (o8 (v:=.ty "tuple") rfl (B "tuple"<|by decide) ik rfl) kh)<|rj<|om<|vd wk wk km (mj m7 rfl (B "len"<|by decide) cb<|kq (pv 0) kh)<|rn g6 rfl) (ku<|li uh) ng)
  (kl (qm (om<|o4<|mj (p9 rfl) rfl (B "all"<|by decide) cW<|kq (mr Z6 [none] rfl rfl (by decide +kernel) (by decide +kernel) rfl rfl (vp<|pv 0) (λ_=>(k7 (i:=0) (show(Z6:U PySem.Str).Nodup by decide +kernel) rfl<|Or.inl rfl)) (λ_=>ma) λ_=>(lv J9 hr (by decide) rfl<|kq (pv 0) kh)) kh) (ku<|li uh) ng)
  (kl (sq (i:=1) ZO [none,none,none] scPf.nd rfl (Or.inl rfl) rfl rfl rfl (by decide +kernel) (by decide +kernel) rfl rfl (vp<|pv 0) (λ_=>(Db (n:=3) rfl<|lm (k7 (i:=0) (show(ZO:U PySem.Str).Nodup by decide +kernel) rfl<|Or.inl rfl)<|lm (k7 (i:=1) (show(ZO:U PySem.Str).Nodup by decide +kernel) rfl<|Or.inl rfl)<|lm (k7 (i:=2) (show(ZO:U PySem.Str).Nodup by decide +kernel) rfl<|Or.inl rfl) qc)) (λ_=>ma) λ_=>(o6<|kq (pv 0)<|kq (pv 1) kh))
  (kl (qm (ot avj (amq rfl hu rfl (B "len"<|by decide) rfl (B "set"<|by decide)<|kq (pv 1) kh) (mj m7 rfl (B "len"<|by decide) cb<|kq (pv 1) kh)<|nw _) (ku<|li uh) ng)
  (ku<|li<|p7 (on (IU hu) (pv 0) (lv zS hr (by decide) rfl<|kq (pv 0) kh)<|nw _)<|qq<|lv Fph hr (by decide) rfl<|kq (pv 1) kh))))),?_⟩
 rcases aqe (K:=K) hv.1 with ⟨a,xs,rfl,ha⟩|⟨⟨t,ty,kt⟩,_,qT⟩
 .obtain⟨pU,kn⟩:=hv.2 a xs rfl ha;have no:(1<=xs.length->xs.length<=6->False)->¬FormP H (.ref a):=λhx ⟨b,ys,ds,e,hb,r,fr⟩=>by
   cases e;rw[ha]at hb;cases hb;have:=r.length;have h1:=fr.1.pre.pos;have h6:=fr.1.pre.six;exact hx (by lia)<|by lia
  refine(kj _ rfl (.ref a) ("tuple") (.type "tuple") true ⟨rfl,.tup ha,rfl,true,rfl,rg ?_⟩);refine(nh _ rfl a xs rfl (.inr<|SqT.of ha) _<|m9 _ rfl rfl _ ⟨rfl,?_⟩);refine ur (λc1=>?_) λc1=>?_
  .have mY:(1:Int)<=(xs.length:Int):=of_decide_eq_true c1;refine(lc _ _ ⟨rfl,rfl,_,rfl,?_⟩);refine ur (λc2=>?_) λc2=>?_
   .have mX:¬((xs.length:Int)<=6):=by simpa using c2
    exact q false H (Same.refl H)<|p8<|no λ_ h=>by lia
   have mX:(xs.length:Int)<=6:=by simpa using c2
   refine(mm _ rfl a ⟨rfl,⟨_,SqT.of ha⟩,λD hD=>?_⟩);refine qo (xs:=xs) (λi ys H'=>Same H H'/\ys=((xs.take i).map (vk H)).map V.bl) ⟨Same.fresh _ hD,rfl⟩ (λi ys H' p=>SqT.of<|p.1 _ _ ha) (λi x ys H' hx hi aV bG p=>?_) λys H' aV bG p=>?_
   .obtain⟨p1,rfl⟩:=p;have kx:=kn x<|aj hx;refine⟨Agree.set (Agree.refl _) rfl,?_⟩;dsimp only[uw];refine oo ?_;refine(mm _ rfl x ⟨rfl,kx.same p1,ny (by lia) aV bG ⟨p1.new hD,?_⟩⟩);rw[k8 (vk H) hx,bb,yk p1 kx.1];rfl
   obtain⟨p1,rfl⟩:=p;refine(lc D _ ⟨rfl,aV,_,rfl,?_⟩);rw[au (aq _),jk];have rT:(xs.all<|id∘vk H)=xs.all (vk H):=rfl;rw[rT];cases bI:xs.all (vk H)with
   | false=>
    refine oo ?_;refine q false H' p1<|p8 λ⟨b,ys,ds,e,hb,r,fr⟩=>?_;cases e;rw[ha]at hb;cases hb;rw[JU r fr.1.pre.sg]at bI;cases bI
   | true=>
    refine rg ?_;obtain⟨ds,dB,lK⟩:=JQ bI;have hF:=FormP.same (H':=H) ha dB lK;have aX:=dB.length;have gQ:=anu lK;refine aon rfl (p1 _ _ ha) (dB.same p1) gQ (by lia) λC Cs H2 s2 hC xK=>?_;have gG:=p1.trans s2;have lC:=xK.length;rw[ae]at lC;refine(oj _ rfl C Cs (ds.map tP) ⟨rfl,hC,xK,(λd hd=>by obtain⟨e,_,rfl⟩:=a7.mp hd;exact ang e),by rw[ae];lia,λbD FB tY le'=>?_⟩);refine(nh _ rfl C Cs rfl (.inl<|SqL.of hC) _<|m9 _ rfl rfl _ ⟨rfl,?_⟩);have Be:(bD.map cl).Nodup:=by show List.Pairwise _ _;rw[fc];refine gx ?_ FB;intro x y hx hy DS e;exact DS<|agx (va ds x<|(tY x).mp hx) (va ds y<|(tY y).mp hy) e
    have A6:∀x,x∈bD.map cl↔x∈ds.map cl:=λx=>by
     rw[<-JF ds];constructor
     .intro h;obtain⟨d,hd,rfl⟩:=a7.mp h;exact cg<|(tY d).mp hd
     .intro h;obtain⟨d,hd,rfl⟩:=a7.mp h;exact cg<|(tY d).mpr hd
    refine ur (λcF=>?_) λmF=>?_
    .have hlt':(bD.length:Int)<(Cs.length:Int):=of_decide_eq_true cF;refine q false H2 gG<|p8 λh=>?_;have fr:=hF.mp h;have el:=aew fr.1.pre.nd Be A6;rw[ae,ae]at el;lia
    .have hge':¬(bD.length:Int)<(Cs.length:Int):=by simpa using mF
     have ls:(ds.map cl).Nodup:=xz Be (λx hx=>(A6 x).mp hx) (by rw[ae,ae];lia);have h1:0<ds.length:=by lia
     have h6:ds.length<=6:=by lia
     refine(oh _ rfl _ rfl a xs ds ⟨rfl,.inr<|gG _ _ ha,dB.same gG,gQ,h1,by lia,λr H5 s5 jN=>?_⟩);have DI:=gG.trans s5;refine(lc (.tuple ds) _ ⟨(lc a xs ⟨rfl,DI _ _ ha,dB.same DI⟩),jN,?_,_,rfl,?_⟩)
     .have:=anx lK;simp[er];lia
     rw[show(if false=true then !c7 (.tuple ds) (.tuple<|qf<|ow ds)else c7 (.tuple ds) (.tuple<|qf<|ow ds))=c7 (.tuple ds) (.tuple<|qf<|ow ds)from if_neg ak];have FW:∀d∈qf (ow ds),SgD d:=λd hd=>by obtain⟨d0,h0,rfl⟩:=a7.mp<|(uu _).mem_iff.mp hd;exact an6 _ _<|lK d0 h0
     cases GL:c7 (.tuple ds) (.tuple<|qf<|ow ds)with
     | false=>
      refine rg ?_;refine q false H5 DI<|p8 λh=>?_;have fr:=hF.mp h;rw[aj2 fr,SeqAt.eqv_refl _ (show(PyData.tuple ds).canLay0=true from dB.lay)]at GL;cases GL
     | true=>
      refine oo ?_;have e:ds=qf (ow ds):=by have:=IP _ _ (show kd (.tuple ds)=true from auf lK) (show kd (.tuple _)=true from auf FW) GL;injection this
      refine(oj _ rfl C Cs (ds.map tP) ⟨rfl,s5 _ _ hC,xK.same s5,va ds,by rw[JF];exact ls,by rw[ae];exact h1,by rw[ae];exact h6,λb H6 s6 hb=>?_⟩);refine q b H6 (DI.trans s6) ?_;rw[hb,JF,hF];exact⟨λhc=>avy ⟨lK,h1,h6,hc,ls⟩ e.symm,λfr=>fr.1.pre.con⟩
  .refine⟨false,rfl,oo ?_⟩;have mY:¬(1:Int)<=(xs.length:Int):=by simpa using c1
   exact q false H (Same.refl H)<|p8<|no λh _=>by lia
 .exact(kj _ rfl v ("tuple") t false ⟨rfl,ty,kt,false,rfl,oo<|oo<|q false H (Same.refl H)<|p8 λ⟨b,ys,ds,e,hb,_⟩=>qT b ys e hb⟩)
def tx1{c:Nat}(h:c<128):Tx (⟨#[c]⟩:Str):=⟨by show 1<=80;lia,λx hx=>by
 have e:x=c:=by simpa using hx
 lia⟩
def Jq:Sp:=λvs H Q _=>∃c:Nat,vs=[.str ⟨#[c]⟩]/\Q (.bl<|decide (97<=c)&&decide (c<=122)) H
def ar4:lq Z8 Z8 (k9 HP):={}
def ay4(c:Nat):(⟨#[c]⟩:Str).length<=aF:=by show 1<=aF;decide
def ank(B:∀x∈sw,mg x=none)(F:Fun K "is_small" "is_small" HP f fd):qp P w K mg base CX0 1 f fd Z8 Jq:=by
 refine F.ok (k:=0) ar4 (λvs H Q E h=>?_) λbT A outer s H vs Q E hr h=>?_
 .obtain⟨c,rfl,_⟩:=h;rfl
 obtain⟨c,rfl,q⟩:=h;refine⟨_,(ku<|li<|p7 (mj ml rfl (B "isinstance"<|by decide) en<|kq (pv 0)<|kq (o8 (v:=.ty "str") rfl (B "str"<|by decide) dJ rfl) kh)<|p7 (on wm (mj nq rfl (B "len"<|by decide) cb<|kq (pv 0) kh) km<|nw _)<|qq<|JG v8 v8 l7 (pv 0) l7),?_⟩;refine(kj _ rfl _ _ _ true ⟨rfl,.str _,rfl,true,rfl,?_⟩);refine oo ?_;refine(mm _ rfl _ ⟨rfl,ay4 c,rfl,true,rfl,?_⟩);refine oo ?_;exact(nh _ rfl _ _ rfl rfl _ ⟨rfl,akt (a:=ab "a") (z:=ab "z") (R:=λv=>Q v H) (by decide +kernel) (by decide +kernel) q (λh=>(lc _ _ ⟨rfl,rfl,h⟩)) λh=>h⟩)
def atq:Sp:=λvs H Q _=>∃c:Nat,vs=[.str ⟨#[c]⟩]/\c<128/\∀H',Same H H'->Q (.bl<|sgB c) H'
def aww:lq Z4 Z4 (k9 Hw):={}
def ok1{c:Nat}(h:c<128):kb (⟨#[c]⟩:Str)=true:=Tx.ok ⟨by show 1<=80;lia,λx hx=>by
 have:x=c:=by simpa using hx
 lia⟩
def ari(c d:Nat):c7 (.str ⟨#[d]⟩) (.str ⟨#[c]⟩)=(c==d):=by
 show((⟨#[d]⟩:Str)==⟨#[c]⟩)=_;rw[g0,beq_iff_eq,beq_iff_eq];constructor
 .intro h;injection h with h
  injection h with h
  injection h with h
  exact h.symm
 .intro h;rw[h]
def auu(c:Nat):(if false=true then !([PyData.str (ab "#"),.str<|ab ".",.str<|ab ","].any λe=>c7 e<|.str ⟨#[c]⟩)else[PyData.str (ab "#"),.str<|ab ".",.str<|ab ","].any λe=>c7 e<|.str ⟨#[c]⟩)=(c==35||c==46||c==44):=by
 have e1:ab "#" = ⟨#[35]⟩:=by decide +kernel
 have e2:ab "." = ⟨#[46]⟩:=by decide +kernel
 have e3:ab "," = ⟨#[44]⟩:=by decide +kernel
 rw[if_neg ak,e1,e2,e3];simp only[List.any_cons,List.any_nil,ari,Bool.or_false,Bool.or_assoc]
def G8(mg:Str->Option aA):Prop:=∃t,mg "MOST_LINES" = some (.int 8 t)
def GS(mg:Str->Option aA)(x z:Str):Prop:=∃t,mg x=some (.str z t)
def avb(gC:GS mg "CLOSED" "#")(gP:GS mg "COVERED" ".")(gF:GS mg "FREE" ",")(xD:Fn P w K mg base "is_sign" 1 Z8 spS)(nE:Fn P w K mg base "is_small" 1 Z8 Jq)(F:Fun K "is_floor_sign" "is_floor_sign" Hw f fd):qp P w K mg base CX0 2 f fd Z4 atq:=by
 refine F.ok (k:=1) aww (λvs H Q E h=>?_) λbT A outer s H vs Q E hr h=>?_
 .obtain⟨c,rfl,_⟩:=h;rfl
 obtain⟨c,rfl,hc,q⟩:=h;have hu:=hr.units;refine⟨_,(ku<|li<|AF (on (aps hu) (pv 0) (o6<|kq (qu gC rfl)<|kq (qu gP rfl)<|kq (qu gF rfl) kh) rfl)<|AF (lv xD hr (by decide) rfl<|kq (pv 0) kh)<|qq<|lv nE hr (by decide) rfl<|kq (pv 0) kh),?_⟩;refine⟨_,rfl,sZ3,λp hp=>?_⟩;refine(my (.str ⟨#[c]⟩) p _ ([.str "#",.str ".",.str ","]) ⟨⟨rfl,ok1 hc⟩,rfl,.inr kr,(ou _ _ rfl ⟨rfl,by decide +kernel⟩ _ _ rfl ⟨rfl,by decide +kernel⟩ _ ⟨_,rfl,⟨rfl,by decide +kernel⟩,rfl⟩),by simp[er],_,rfl,?_⟩);have s1:Same H (upd H p<|.tup [.str "#",.str ".",.str ","]):=Same.fresh _ hp;rw[auu];have q1:=q _ s1;unfold sgB at q1;refine ur (λh1=>?_) λh1=>?_
 .rw[h1]at q1;simpa using q1
 .rw[Bool.eq_false_iff.mpr h1]at q1;refine(mm _ rfl (.str ⟨#[c]⟩) ⟨rfl,.inr<|.inr<|.inr<|.inl ⟨_,rfl,tx1 hc⟩,_,rfl,?_⟩);rw[show sK (.str ⟨#[c]⟩)=(decide (65<=c)&&decide (c<=90))from rfl];refine ur (λh2=>?_) λh2=>?_
  .rw[h2]at q1;simpa using q1
  .rw[Bool.eq_false_iff.mpr h2]at q1;refine(mm _ rfl c ⟨rfl,?_⟩);simpa using q1
def IS(z:Str):lX (some z)=(decide (1<=z.length)&&decide (z.length<=8)&&z.cps.toList.all sgB):=rfl
def Iz(os:U (Option Str)):flB (some os)=(decide (1<=os.length)&&decide (os.length<=8)&&os.all λo=>lX o&&(lW o==lW ((os[0]?).getD none))):=rfl
def kY(z:Str):z.cps.toList.length=z.length:=by simp[Str.length]
def aqa:Sp:=λvs H Q _=>∃(v:V)(o:Option Str),vs=[v]/\Itm H v o/\∀H',Same H H'->Q (.bl<|lX o) H'
def ata:lq Z8 Z8 (k9 Ik):={}
theorem asb(B:∀x∈sw,mg x=none)(g8:G8 mg)(Kb:Fn P w K mg base "is_floor_sign" 2 Z4 atq)(F:Fun K "is_floor_row" "is_floor_row" Ik f fd):qp P w K mg base CX0 3 f fd Z8 aqa:=by
 refine F.ok (k:=2) ata (λvs H Q E h=>?_) λbT A outer s H vs Q E hr h=>?_
 .obtain⟨v,o,rfl,_⟩:=h;rfl
 obtain⟨v,o,rfl,hv,q⟩:=h;refine⟨_,(kl (qm (PW.pt<|vz (om<|o4<|mj ml rfl (B "isinstance"<|by decide) en<|kq (pv 0)<|kq (o8 (v:=.ty "str") rfl (B "str"<|by decide) dJ rfl) kh)<|rj<|om<|vd wk wk km (mj nq rfl (B "len"<|by decide) cb<|kq (pv 0) kh)<|rn g8 rfl) (ku<|li uh) ng)
  (ku<|li<|mj (p9 rfl) rfl (B "all"<|by decide) cW<|kq (mr Z4 [none] rfl rfl (by decide +kernel) (by decide +kernel) rfl rfl (EN<|pv 0) (λ_=>(k7 (i:=0) (show(Z4:U PySem.Str).Nodup by decide +kernel) rfl<|Or.inl rfl)) (λ_=>ma) λ_=>(lv Kb hr (by decide) rfl<|kq (pv 0) kh)) kh)),?_⟩
 cases o with
 | none=>
  obtain⟨t,ty,kt⟩:=NoStr.ty (K:=K) hv;refine(kj _ rfl v ("str") t false ⟨rfl,ty,kt,false,rfl,?_⟩);refine oo ?_;refine oo ?_;exact q H (Same.refl H)
 | some z=>
  obtain⟨rfl,hz⟩:=hv;refine(kj _ rfl (.str z) ("str") (.type "str") true ⟨rfl,.str z,rfl,true,rfl,?_⟩);refine rg ?_;refine(mm _ rfl z ⟨rfl,ua hz,?_⟩);refine(lc _ _ ⟨rfl,rfl,_,rfl,?_⟩);refine ur (λc1=>?_) λc1=>?_
  .have mY:(1:Int)<=(z.length:Int):=of_decide_eq_true c1;refine(lc _ _ ⟨rfl,rfl,_,rfl,?_⟩);refine ur (λc2=>?_) λc2=>?_
   .have mX:¬((z.length:Int)<=8):=by simpa using c2
    have e:lX (some z)=false:=by rw[IS];rw[decide_eq_false (show ¬z.length<=8 by lia),Bool.and_false,iu]
    rw[<-e];exact q H<|Same.refl H
   .have mX:(z.length:Int)<=8:=by simpa using c2
    have hl:=kY z;refine(mm _ rfl z ⟨rfl,λD hD=>?_⟩);refine zq (λi ys H'=>Same H H'/\ys=((z.cps.toList.take i).map sgB).map V.bl) ⟨Same.fresh _ hD,rfl⟩ (λi c ys H' hx hi aV bG p=>?_) λys H' aV bG p=>?_
    .obtain⟨p1,rfl⟩:=p;refine⟨Agree.set (Agree.refl _) rfl,?_⟩;dsimp only[uw];refine oo ?_;refine(mm _ rfl c ⟨rfl,hz.2 c<|aj hx,λH2 s2=>?_⟩);refine ny (by lia) (s2 _ _ aV) bG ⟨(p1.trans s2).new hD,?_⟩;rw[k8 sgB hx,bb];rfl
    .obtain⟨p1,rfl⟩:=p;refine(lc D (z.cps.toList.map sgB) ⟨rfl,?_,?_⟩)
     .rw[aV,i8]
     .have e:lX (some z)=(z.cps.toList.map sgB).all id:=by
       rw[IS];rw[decide_eq_true (show 1<=z.length by lia),decide_eq_true (show z.length<=8 by lia),jk];rfl
      rw[<-e];exact q H' p1
  .have mY:¬((1:Int)<=(z.length:Int)):=by simpa using c1
   refine⟨_,rfl,?_⟩;refine oo ?_;have e:lX (some z)=false:=by rw[IS];rw[decide_eq_false (show ¬1<=z.length by lia),iu,iu]
   rw[<-e];exact q H<|Same.refl H
def aya{α:Type}{xs:List α}{x:α}(h:xs[0]?=some x):atI xs 0=some x:=by have:=ni h;exact this
def ayg:Sp:=λvs H Q _=>∃(v:V) (T:Option (U<|Option Str)),vs=[v]/\Thing H v T/\∀H',Same H H'->Q (.bl<|flB T) H'
def axg:lq Z8 Z8 (k9 HK):={}
theorem ajw{α:Type}(f g:α->Bool):∀l:List α,(l.all λx=>f x&&g x)=(l.all f&&l.all g)
 | []=>rfl
 | x::l=>by simp only[List.all_cons,ajw f g l];cases f x<;>cases g x<;>cases l.all f<;>rfl
theorem ahw{o:Option Str}(h:lX o=true):∃z,o=some z:=by
 cases o with
 | none=>cases h
 | some z=>exact⟨z,rfl⟩
theorem au9(B:∀x∈sw,mg x=none)(g8:G8 mg)(Dt:Fn P w K mg base "is_floor_row" 3 Z8 aqa)(F:Fun K "is_floor" "is_floor" HK f fd):qp P w K mg base CX0 4 f fd Z8 ayg:=by
 refine F.ok (k:=3) axg (λvs H Q E h=>?_) λbT A outer s H vs Q E hr h=>?_
 .obtain⟨v,T,rfl,_⟩:=h;rfl
 obtain⟨v,T,rfl,hv,q⟩:=h;refine⟨_,(kl (qm (PW.pt<|vz (om<|o4<|mj ml rfl (B "isinstance"<|by decide) en<|kq (pv 0)<|kq (o8 (v:=.ty "tuple") rfl (B "tuple"<|by decide) ik rfl) kh)<|rj<|om<|vd wk wk km (mj m7 rfl (B "len"<|by decide) cb<|kq (pv 0) kh)<|rn g8 rfl) (ku<|li uh) ng)
  (kl (qm (om<|o4<|mj (p9 rfl) rfl (B "all"<|by decide) cW<|kq (mr ["row"] [none] rfl rfl (by decide +kernel) (by decide +kernel) rfl rfl (vp<|pv 0) (λ_=>(k7 (i:=0) (show(["row"]:U PySem.Str).Nodup by decide +kernel) rfl<|Or.inl rfl)) (λ_=>ma) λ_=>(lv Dt hr (by decide) rfl<|kq (pv 0) kh)) kh) (ku<|li uh) ng)
  (ku<|li<|mj (p9 rfl) rfl (B "all"<|by decide) cW<|kq (mr ["row","found"] [none,some 0] rfl rfl (by decide +kernel) (by decide +kernel) rfl rfl (vp<|pv 0) (λ_=>(k7 (i:=0) (show(["row","found"]:U PySem.Str).Nodup by decide +kernel) rfl<|Or.inl rfl)) (λ_=>ma) λ_=>(on wm (mj nq rfl (B "len"<|by decide) cb<|kq (pv 0) kh) (mj nq rfl (B "len"<|by decide) cb<|kq (mi sn (pv 1) km λ_ _=>rfl) kh)<|nw _)) kh))),?_⟩
 cases T with
 | none=>
  obtain⟨t,ty,kt⟩:=NoTup.ty (K:=K) hv;refine(kj _ rfl v ("tuple") t false ⟨rfl,ty,kt,false,rfl,?_⟩);refine oo ?_;refine oo ?_;exact q H (Same.refl H)
 | some os=>
  obtain⟨Ha,a,xs,rfl,ha,hi⟩:=hv;have hl:=hi.1;refine(kj _ rfl (.ref a) ("tuple") (.type "tuple") true ⟨rfl,.tup ha,rfl,true,rfl,?_⟩);refine rg ?_;refine(nk _ rfl a xs ⟨rfl,.inr<|SqT.of ha,?_⟩);refine(lc _ _ ⟨rfl,rfl,_,rfl,?_⟩);refine ur (λc1=>?_) λc1=>?_
  .have mY:(1:Int)<=(xs.length:Int):=of_decide_eq_true c1;refine(lc _ _ ⟨rfl,rfl,_,rfl,?_⟩);refine ur (λc2=>?_) λc2=>?_
   .have mX:¬((xs.length:Int)<=8):=by simpa using c2
    have e:flB (some os)=false:=by rw[Iz];rw[decide_eq_false (show ¬os.length<=8 by lia),Bool.and_false,iu]
    rw[<-e];exact q H<|Same.refl H
   .have mX:(xs.length:Int)<=8:=by simpa using c2
    have ef:flB (some os)=(os.all lX&&os.all λo=>lW o==lW ((os[0]?).getD none)):=by rw[Iz];rw[decide_eq_true (show 1<=os.length by lia),decide_eq_true (show os.length<=8 by lia),ajw];rfl
    refine(mm _ rfl a ⟨rfl,⟨_,SqT.of ha⟩,λD hD=>?_⟩);refine qo (xs:=xs) (λi ys H'=>Same H H'/\ys=((os.take i).map lX).map V.bl) ⟨Same.fresh _ hD,rfl⟩ (λi ys H' p=>SqT.of<|p.1 _ _ ha) (λi x ys H' hx oQ aV bG p=>?_) λys H' aV bG p=>?_
    .obtain⟨p1,rfl⟩:=p;obtain⟨o,ho,iA⟩:=hi.at hx;refine⟨Agree.set (Agree.refl _) rfl,?_⟩;dsimp only[uw];refine oo ?_;refine(nk _ rfl x o ⟨rfl,iA.same p1,λH2 s2=>?_⟩);refine ny (by lia) (s2 _ _ aV) bG ⟨(p1.trans s2).new hD,?_⟩;rw[k8 lX ho,bb];rfl
    .obtain⟨p1,rfl⟩:=p;refine(lc D (os.map lX) ⟨rfl,?_,?_⟩)
     .rw[aV,au<|by lia]
     refine⟨_,rfl,?_⟩;have ea:(os.map lX).all id=os.all lX:=by rw[jk];rfl
     rw[ea];refine ur (λc3=>?_) λc3=>?_
     .have Cv:os.all lX=false:=by simpa using c3
      have e:flB (some os)=false:=by rw[ef,Cv];rfl
      rw[<-e];exact q H' p1
     .have Cv:os.all lX=true:=by simpa using c3
      have i1:=hi.same p1;refine(mm _ rfl a ⟨rfl,⟨_,SqT.of<|p1 _ _ ha⟩,λD2 dH=>?_⟩);refine qo (xs:=xs) (λi ys H2=>Same H' H2/\ys=((os.take i).map λo=>lW o==lW ((os[0]?).getD none)).map V.bl) ⟨Same.fresh _ dH,rfl⟩ (λi ys H2 p=>SqT.of<|p.1 _ _<|p1 _ _ ha) (λi x ys H2 hx oQ kU Bg p=>?_) λys H2 kU Bg p=>?_
      .obtain⟨p2,rfl⟩:=p;obtain⟨o,ho,iA⟩:=i1.at hx;obtain⟨z,rfl⟩:=ahw<|bz.mp Cv o<|aj ho;obtain⟨rfl,hz⟩:=iA;have h0:0<xs.length:=by lia
       obtain⟨o0,ho0,GD⟩:=i1.at<|af h0;obtain⟨z0,rfl⟩:=ahw<|bz.mp Cv o0<|aj ho0;obtain⟨e0,sZ⟩:=GD;refine⟨Agree.set (Agree.refl _) rfl,?_⟩;dsimp only[uw];refine oo ?_;refine(mm _ rfl z ⟨rfl,ua hz,?_⟩);refine(kj _ rfl a xs _ (.str z0) ⟨rfl,rfl,SqT.of<|p2 _ _<|p1 _ _ ha,aya<|by rw[af h0,e0],z0,rfl,ua sZ,?_⟩);refine⟨rfl,ny (by lia) kU Bg ⟨p2.new dH,?_⟩⟩;rw[k8 _ ho,bb,ho0];have ee:decide (V.int (z.length:Int)=V.int (z0.length:Int))=(lW (some z)==lW ((some<|some z0).getD none)):=by
        show _=(z.length==z0.length);rw[g0,decide_eq_true_eq,beq_iff_eq];constructor
        .intro h;injection h with h
         lia
        .intro h;rw[h]
       rw[ee];rfl
      .obtain⟨p2,rfl⟩:=p;refine(lc D2 (os.map λo=>lW o==lW ((os[0]?).getD none)) ⟨rfl,?_,?_⟩)
       .rw[kU,au<|by lia]
       .have e:flB (some os)=(os.map λo=>lW o==lW ((os[0]?).getD none)).all id:=by
         rw[ef,Cv,jk];rfl
        rw[<-e];exact q H2<|p1.trans p2
  .have mY:¬((1:Int)<=(xs.length:Int)):=by simpa using c1
   refine⟨_,rfl,?_⟩;refine oo ?_;have e:flB (some os)=false:=by rw[Iz];rw[decide_eq_false (show ¬1<=os.length by lia),iu,iu]
   rw[<-e];exact q H<|Same.refl H
def KnN:Nat->Hp->V->Prop
 | 0,H,v=>Kn H v
 | n+1,H,v=>Kn H v/\∀a xs,v=.ref a->H a=some (.tup xs)->xs.length<=60/\∀x∈xs,KnN n H x
theorem KnN.kn{n:Nat}{H:Hp}{v:V}(h:KnN n H v):Kn H v:=by
 cases n with
 | zero=>exact h
 | succ n=>exact h.1
theorem KnN.same{H H':Hp}(s:Same H H'):∀{n:Nat} {v:V},KnN n H v->KnN n H' v
 | 0,v,h=>Kn.same s h
 | n+1,v,h=>⟨h.1.same s,λa xs e ha=>by subst e;obtain⟨h1,h2⟩:=h.2 a xs rfl<|yp s h.1 ha;exact⟨h1,λx hx=>KnN.same s<|h2 x hx⟩⟩
theorem KnN.down:∀{n:Nat} {H:Hp} {v:V},KnN (n+1) H v->KnN n H v
 | 0,H,v,h=>h.1
 | n+1,H,v,h=>⟨h.1,λa xs e ha=>⟨(h.2 a xs e ha).1,λx hx=>KnN.down<|(h.2 a xs e ha).2 x hx⟩⟩
noncomputable def smB(c:Nat):Bool:=decide (97<=c)&&decide (c<=122)
noncomputable def sO:V->Bool
 | .str z=>decide (1<=z.length)&&decide (z.length<=8)&&z.cps.toList.all smB
 | _=>false
noncomputable def tN(z:Str):Bool:=decide (z=ab "still")||decide (z=ab "turn")||decide (z=ab "flip")
noncomputable def CM:V->Bool
 | .str z=>tN z
 | _=>false
noncomputable def pY:V->V->Bool
 | .int i,.non=>decide (0<=i)&&decide (i<=64)
 | .int i,.int j=>decide (0<=i)&&decide (i<=64)&&(decide (i<=j)&&decide (j<=64))
 | _,_=>false
def Ib(P:aK)(w:aN)(K:av)(mg:Str->Option aA):Prop:=∃aD oD aR,mg "TURNINGS_BY_MODE" = some (.ref aD)/\K.lookup aD=some oD/\oD.IsDictOf (PySem.strKind P w) aR/\(aD==bE)=false/\∀z,(fY aR z).isSome=tN z
def GI(mg:Str->Option aA)(x:Str)(n:Int):Prop:=∃t,mg x=some (.int n t)
def akn{K:av}{H:Hp}{v:V}(h:Kn H v):(∃z,v=.str z/\Tx z)\/((∃t,kX K H v t/\jw K t (.type "str")=some false)/\CM v=false/\sO v=false):=by
 rcases h with rfl|⟨b,rfl⟩|⟨i,rfl⟩|⟨z,rfl,hz⟩|⟨a,rfl,⟨ys,h⟩|⟨ys,h⟩|h⟩
 .exact .inr ⟨⟨_,.non,rfl⟩,rfl,rfl⟩
 .exact .inr ⟨⟨_,.bl b,rfl⟩,rfl,rfl⟩
 .exact .inr ⟨⟨_,.int i,rfl⟩,rfl,rfl⟩
 .exact .inl ⟨z,rfl,hz⟩
 .exact .inr ⟨⟨_,.lst h,rfl⟩,rfl,rfl⟩
 .exact .inr ⟨⟨_,.tup h,rfl⟩,rfl,rfl⟩
 .exact .inr ⟨⟨_,.dK h,rfl⟩,rfl,rfl⟩
def ape:Sp:=λvs H Q _=>∃v,vs=[v]/\Kn H v/\Q (.bl<|CM v) H
def at7:lq Z8 Z8 (k9 Ii):={}
def ard(B:∀x∈sw,mg x=none)(hM:Ib P w K mg)(F:Fun K "is_mode" "is_mode" Ii f fd):qp P w K mg base CX0 1 f fd Z8 ape:=by
 refine F.ok (k:=0) at7 (λvs H Q E h=>?_) λbT A outer s H vs Q E hr h=>?_
 .obtain⟨c,rfl,_⟩:=h;rfl
 obtain⟨v,rfl,hv,q⟩:=h;obtain⟨aD,oD,aR,hD,lD,dD,nD,mD⟩:=hM;refine⟨_,(ku<|li<|p7 (mj ml rfl (B "isinstance"<|by decide) en<|kq (pv 0)<|kq (o8 (v:=.ty "str") rfl (B "str"<|by decide) dJ rfl) kh)<|qq<|on av5 (pv 0) (aow hD rfl) rfl),?_⟩;rcases akn (K:=K) hv with ⟨z,rfl,hz⟩|⟨⟨t,ty,kt⟩,e,_⟩
 .refine(kj _ rfl _ _ _ true ⟨rfl,.str _,rfl,true,rfl,oo ?_⟩);refine(kj _ rfl aD z oD aR ⟨rfl,rfl,lD,dD,nD,?_⟩);rw[mD];exact q
 .rw[e]at q;exact(kj _ rfl v _ t false ⟨rfl,ty,kt,false,rfl,rg q⟩)
def Jl(z:Str):sO (.str z)=(decide (1<=z.length)&&decide (z.length<=8)&&z.cps.toList.all smB):=rfl
def apw:Sp:=λvs H Q _=>∃v,vs=[v]/\Kn H v/\∀H',Same H H'->Q (.bl<|sO v) H'
def att:lq Z8 Z8 (k9 Iu):={}
def arm(B:∀x∈sw,mg x=none)(Hd:GI mg "LONGEST_NAME" 8)(nE:Fn P w K mg base "is_small" 1 Z8 Jq)(F:Fun K "is_name" "is_name" Iu f fd):qp P w K mg base CX0 2 f fd Z8 apw:=by
 refine F.ok (k:=1) att (λvs H Q E h=>?_) λbT A outer s H vs Q E hr h=>?_
 .obtain⟨v,rfl,_⟩:=h;rfl
 obtain⟨v,rfl,hv,q⟩:=h;refine⟨_,(kl (qm (PW.pt<|vz (om<|o4<|mj ml rfl (B "isinstance"<|by decide) en<|kq (pv 0)<|kq (o8 (v:=.ty "str") rfl (B "str"<|by decide) dJ rfl) kh)<|rj<|om<|vd wk wk km (mj nq rfl (B "len"<|by decide) cb<|kq (pv 0) kh)<|rn Hd rfl) (ku<|li uh) ng)
  (ku<|li<|mj (p9 rfl) rfl (B "all"<|by decide) cW<|kq (mr ["letter"] [none] rfl rfl (by decide +kernel) (by decide +kernel) rfl rfl (EN<|pv 0) (λ_=>(k7 (i:=0) (show(["letter"]:U PySem.Str).Nodup by decide +kernel) rfl<|Or.inl rfl)) (λ_=>ma) λ_=>(lv nE hr (by decide) rfl<|kq (pv 0) kh)) kh)),?_⟩
 rcases akn (K:=K) hv with ⟨z,rfl,hz⟩|⟨⟨t,ty,kt⟩,_,e⟩
 .refine(kj _ rfl (.str z) ("str") (.type "str") true ⟨rfl,.str z,rfl,true,rfl,?_⟩);refine rg ?_;refine(mm _ rfl z ⟨rfl,ua hz,?_⟩);refine(lc _ _ ⟨rfl,rfl,_,rfl,?_⟩);refine ur (λc1=>?_) λc1=>?_
  .have mY:(1:Int)<=(z.length:Int):=of_decide_eq_true c1;refine(lc _ _ ⟨rfl,rfl,_,rfl,?_⟩);refine ur (λc2=>?_) λc2=>?_
   .have mX:¬((z.length:Int)<=8):=by simpa using c2
    have e:sO (.str z)=false:=by rw[Jl];rw[decide_eq_false (show ¬z.length<=8 by lia),Bool.and_false,iu]
    rw[<-e];exact q H<|Same.refl H
   .have mX:(z.length:Int)<=8:=by simpa using c2
    have hl:=kY z;refine(mm _ rfl z ⟨rfl,λD hD=>?_⟩);refine zq (λi ys H'=>Same H H'/\ys=((z.cps.toList.take i).map smB).map V.bl) ⟨Same.fresh _ hD,rfl⟩ (λi c ys H' hx hi aV bG p=>?_) λys H' aV bG p=>?_
    .obtain⟨p1,rfl⟩:=p;refine⟨Agree.set (Agree.refl _) rfl,?_⟩;dsimp only[uw];refine oo ?_;refine(mm _ rfl c ⟨rfl,?_⟩);refine ny (by lia) aV bG ⟨p1.new hD,?_⟩;rw[k8 smB hx,bb];rfl
    .obtain⟨p1,rfl⟩:=p;refine(lc D (z.cps.toList.map smB) ⟨rfl,?_,?_⟩)
     .rw[aV,i8]
     .have e:sO (.str z)=(z.cps.toList.map smB).all id:=by
       rw[Jl];rw[decide_eq_true (show 1<=z.length by lia),decide_eq_true (show z.length<=8 by lia),jk];rfl
      rw[<-e];exact q H' p1
  .have mY:¬((1:Int)<=(z.length:Int)):=by simpa using c1
   refine⟨_,rfl,?_⟩;refine oo ?_;have e:sO (.str z)=false:=by rw[Jl];rw[decide_eq_false (show ¬1<=z.length by lia),iu,iu]
   rw[<-e];exact q H<|Same.refl H
 .rw[e]at q;refine(kj _ rfl v ("str") t false ⟨rfl,ty,kt,false,rfl,?_⟩);refine oo ?_;refine oo ?_;exact q H<|Same.refl H
def av1:Sp:=λvs H Q _=>∃l m,vs=[l,m]/\Kn H l/\Kn H m/\Q (.bl<|pY l m) H
def axi:lq ZN ZN (k9 HG):={}
def ap2{H:Hp}{v:V}(h:Kn H v):(∃i,v=.int i)\/(isW v=false/\(∀m,pY v m=false)/\(v≠.non->∀i,pY (.int i) v=false)):=by
 rcases h with rfl|⟨b,rfl⟩|⟨i,rfl⟩|⟨z,rfl,hz⟩|⟨a,rfl,h⟩
 .exact .inr ⟨rfl,λ_=>rfl,λh=>absurd rfl h⟩
 .exact .inr ⟨rfl,λ_=>rfl,λ_ _=>rfl⟩
 .exact .inl ⟨i,rfl⟩
 .exact .inr ⟨rfl,λ_=>rfl,λ_ _=>rfl⟩
 .exact .inr ⟨rfl,λ_=>rfl,λ_ _=>rfl⟩
def ate(B:∀x∈sw,mg x=none)(Ek:GI mg "MOST_LAID" 64)(Dj:Fn P w K mg base "is_whole" 1 Z8 spW)(F:Fun K "are_bounds" "are_bounds" HG f fd):qp P w K mg base CX0 2 f fd ZN av1:=by
 refine F.ok (k:=1) axi (λvs H Q E h=>?_) λbT A outer s H vs Q E hr h=>?_
 .obtain⟨l,m,rfl,_⟩:=h;rfl
 obtain⟨l,m,rfl,hl,hm,q⟩:=h;refine⟨_,(kl (qm (PW.pt<|vz (om<|o4<|lv Dj hr (by decide) rfl<|kq (pv 0) kh)<|rj<|om<|vd wk wk km (pv 0)<|rn Ek rfl) (ku<|li uh) ng)
  (ku<|li<|AF (on Je (pv 1) CQ<|nw _)<|qq<|p7 (lv Dj hr (by decide) rfl<|kq (pv 1) kh)<|qq<|JG wk wk (pv 0) (pv 1)<|rn Ek rfl)),?_⟩
 rcases ap2 hl with ⟨i,rfl⟩|⟨e1,e2,_⟩
 .refine(mm _ rfl (.int i) ⟨rfl,hl,true,rfl,rg ?_⟩);refine(nh _ rfl _ _ rfl rfl _ ⟨rfl,?_⟩);have Cw:∀m,(¬0<=i\/¬i<=64)->pY (.int i) m=false:=λm h=>by
   cases m<;>first|rfl|(unfold pY;rcases h with h|h<;>simp[h])
  refine ur (λc1=>?_) λc1=>?_
  .have mY:(0:Int)<=i:=of_decide_eq_true c1;refine(lc _ _ ⟨rfl,rfl,_,rfl,?_⟩);refine ur (λc2=>?_) λc2=>?_
   .have mX:¬(i<=64):=by simpa using c2
    rw[Cw m (.inr mX)]at q;exact q
   .have mX:i<=64:=by simpa using c2
    refine(m9 _ rfl rfl _ ⟨rfl,?_⟩);by_cases hn:m=.non
    .subst hn;have e:pY (.int i) .non=true:=by unfold pY;simp[mY,mX]
     rw[e]at q;exact oo q
    .rw[decide_eq_false hn];refine rg ?_;refine(mm _ rfl m ⟨rfl,hm,?_⟩);rcases ap2 hm with ⟨j,rfl⟩|⟨e1,_,e3⟩
     .refine⟨true,rfl,oo ?_⟩;have e:pY (.int i) (.int j)=(decide (i<=j)&&decide (j<=64)):=by unfold pY;simp[mY,mX]
      rw[e]at q;refine(su _ rfl _ rfl _ _ rfl rfl _ ⟨rfl,?_⟩);refine ur (λc3=>?_) λc3=>?_
      .rw[c3,Bool.true_and]at q;exact(lc _ _ ⟨rfl,rfl,q⟩)
      .rw[Bool.eq_false_iff.mpr c3,iu]at q;exact q
     .rw[e1];rw[e3 hn]at q;exact⟨false,rfl,rg q⟩
  .have mY:¬((0:Int)<=i):=by simpa using c1
   refine⟨_,rfl,?_⟩;refine oo ?_;rw[Cw m (.inl mY)]at q;exact q
 .refine(mm _ rfl l ⟨rfl,hl,false,by rw[e1],oo ?_⟩);rw[e2]at q;exact oo q
noncomputable def leS(x y:Str):Bool:=!decide (y.cps.toList<x.cps.toList)
noncomputable def zG:V->V->Bool
 | .str x,.str y=>sg1 x&&sg1 y&&leS x y
 | _,_=>false
noncomputable def vt(H:Hp):V->Bool
 | .ref a=>match H a with
  | some (.tup [x,y])=>zG x y
  | _=>false
 | _=>false
def ap8:Sp:=λvs H Q _=>∃v,vs=[v]/\KnN 1 H v/\Q (.bl<|vt H v) H
def au3:lq Z8 Z8 (k9 IB):={}
def o5(H:Hp)(a:aE):vt H (.ref a)=(match H a with|some (.tup [x,y])=>zG x y|_=>false):=rfl
theorem ag8{H:Hp}{a:aE}{xs:U V}(ha:H a=some (.tup xs))(h:xs.length≠2):vt H (.ref a)=false:=by
 rw[o5,ha]
 match xs,h with
 | [],_=>rfl
 | [_],_=>rfl
 | [_,_],h=>exact absurd rfl h
 | _::_::_::_,_=>rfl
def C6{K:av}{H:Hp}{v:V}(h:Kn H v):(∃a xs,v=.ref a/\H a=some (.tup xs))\/((∃t,kX K H v t/\jw K t (.type "tuple")=some false)/\vt H v=false/\∀a xs,v=.ref a->H a=some (.tup xs)->False):=by
 rcases h with rfl|⟨b,rfl⟩|⟨i,rfl⟩|⟨z,rfl,_⟩|⟨a,rfl,⟨ys,h⟩|⟨ys,h⟩|h⟩
 .exact .inr ⟨⟨_,.non,rfl⟩,rfl,λ_ _ e=>by cases e⟩
 .exact .inr ⟨⟨_,.bl b,rfl⟩,rfl,λ_ _ e=>by cases e⟩
 .exact .inr ⟨⟨_,.int i,rfl⟩,rfl,λ_ _ e=>by cases e⟩
 .exact .inr ⟨⟨_,.str z,rfl⟩,rfl,λ_ _ e=>by cases e⟩
 .exact .inr ⟨⟨_,.lst h,rfl⟩,by rw[o5,h],λb xs e ha=>by cases e;rw[h]at ha;cases ha⟩
 .exact .inl<|lc a ys ⟨rfl,h⟩
 .exact .inr ⟨⟨_,.dK h,rfl⟩,by rw[o5,h],λb xs e ha=>by cases e;rw[h]at ha;cases ha⟩
def aqd{v:V}(h:sK v=true):∃z,v=.str z/\sg1 z=true:=by cases v<;>first|(exact⟨_,rfl,h⟩)|(exact absurd h ak)
def ane{x y:V}(h:sK x=false):zG x y=false:=by cases x<;>first|rfl|(cases y<;>first|rfl|(show(sg1 _&&sg1 _&&leS _ _)=false;rw[show sg1 _=false from h];rfl))
def aoi{x y:V}(h:sK y=false):zG x y=false:=by cases x<;>first|rfl|(cases y<;>first|rfl|(show(sg1 _&&sg1 _&&leS _ _)=false;rw[show sg1 _=false from h];simp))
def IV{n m:Nat}(h:n≠m):decide (V.int ((n:Nat):Int)=V.int ((m:Nat):Int))=false:=decide_eq_false λe=>h<|by injection e with e;exact Int.ofNat_inj.mp e
theorem arf(B:∀x∈sw,mg x=none)(xD:Fn P w K mg base "is_sign" 1 Z8 spS)(F:Fun K "is_pair" "is_pair" IB f fd):qp P w K mg base CX0 2 f fd Z8 ap8:=by
 refine F.ok (k:=1) au3 (λvs H Q E h=>?_) λbT A outer s H vs Q E hr h=>?_
 .obtain⟨v,rfl,_⟩:=h;rfl
 obtain⟨v,rfl,hv,q⟩:=h;refine⟨_,(kl (qm (PW.pt<|vz (om<|o4<|mj ml rfl (B "isinstance"<|by decide) en<|kq (pv 0)<|kq (o8 (v:=.ty "tuple") rfl (B "tuple"<|by decide) ik rfl) kh)<|rj<|ot zF (mj m7 rfl (B "len"<|by decide) cb<|kq (pv 0) kh) km<|nw _) (ku<|li uh) ng)
  (ku<|li<|p7 (lv xD hr (by decide) rfl<|kq (mi oq (pv 0) km λ_ _=>rfl) kh)<|p7 (lv xD hr (by decide) rfl<|kq (mi oq (pv 0) km λ_ _=>rfl) kh)<|qq<|on v8 (mi oq (pv 0) km λ_ _=>rfl) (mi oq (pv 0) km λ_ _=>rfl)<|nw _)),?_⟩
 rcases C6 (K:=K) hv.kn with ⟨a,xs,rfl,ha⟩|⟨⟨t,ty,kt⟩,e,_⟩
 .obtain⟨pU,kn⟩:=hv.2 a xs rfl ha;refine(kj _ rfl (.ref a) ("tuple") (.type "tuple") true ⟨rfl,.tup ha,rfl,true,rfl,rg ?_⟩);refine(um _ rfl a xs rfl (.inr<|SqT.of ha) rfl _ ⟨rfl,?_⟩);by_cases h2:xs.length=2
  .match xs,h2,ha,kn with
   | [x,y],_,ha,kn=>
    have kx:Kn H x:=kn x (by simp);have ky:Kn H y:=kn y (by simp);have eq2:vt H (.ref a)=zG x y:=by rw[o5,ha]
    rw[eq2]at q;refine rg ?_;refine(kj _ rfl a _ _ _ ⟨rfl,rfl,SqT.of ha,rfl,x,rfl,kx,?_⟩);cases hx:sK x with
    | false=>
     rw[ane hx]at q;exact⟨false,rfl,rg q⟩
    | true=>
     refine⟨true,rfl,oo ?_⟩;refine(kj _ rfl a _ _ _ ⟨rfl,rfl,SqT.of ha,rfl,y,rfl,ky,?_⟩);cases hy:sK y with
     | false=>
      rw[aoi hy]at q;exact⟨false,rfl,rg q⟩
     | true=>
      refine⟨true,rfl,oo ?_⟩;obtain⟨zx,rfl,sx⟩:=aqd hx;obtain⟨zy,rfl,sy⟩:=aqd hy;refine(kj _ rfl a _ _ _ ⟨rfl,rfl,SqT.of ha,rfl,(kj _ rfl a _ _ _ ⟨rfl,rfl,SqT.of ha,rfl,(lc zx zy ⟨rfl,rfl,?_⟩)⟩)⟩);have e:zG (.str zx) (.str zy) = !decide (zy.cps.toList<zx.cps.toList):=by show(sg1 zx&&sg1 zy&&leS zx zy)=_;rw[sx,sy];rfl
      rw[e]at q;exact q
  .rw[ag8 ha h2]at q;refine ur (λ_=>?_) λh=>absurd (show(!decide (V.int ((xs.length:Nat):Int)=V.int ((2:Nat):Int)))=true by rw[IV h2];rfl) h;exact q
 .rw[e]at q;refine(kj _ rfl v ("tuple") t false ⟨rfl,ty,kt,false,rfl,oo ?_⟩);exact oo q
def J0{H H':Hp}{v:V}(s:Same H H')(h:Kn3 H v):FormP H' v↔FormP H v:=by
 constructor
 .rintro⟨a,xs,ds,rfl,ha,dB,fr⟩;have nV:=yp s h.1 ha;obtain⟨_,kx⟩:=h.2 a xs rfl nV;have e:xs.all (vk H)=xs.all (vk H'):=by
   rw[g0,bz,bz];constructor
   .intro q x hx;rw[yk s (kx x hx).1];exact q x hx
   .intro q x hx;rw[<-yk s (kx x hx).1];exact q x hx
  have bI:=JU dB fr.1.pre.sg;rw[<-e]at bI;obtain⟨es,re,tH⟩:=JQ bI;have:=Js (re.same s) dB tH fr.1.pre.sg;subst this;exact(mf a xs es ⟨rfl,nV,re,fr⟩)
 .rintro⟨a,xs,ds,rfl,ha,dB,fr⟩;exact(mf a xs ds ⟨rfl,s _ _ ha,dB.same s,fr⟩)
def y0(H:Hp)(v:V):Prop:=∃a n l m md fm,v=.ref a/\H a=some (.tup [n,l,m,md,fm])/\sO n=true/\pY l m=true/\CM md=true/\FormP H fm
def JX{H H':Hp}{v:V}(s:Same H H')(h:KnN 3 H v):y0 H' v↔y0 H v:=by
 constructor
 .rintro⟨a,n,l,m,md,fm,rfl,ha,h1,h2,h3,h4⟩;have eJ:=yp s h.kn ha;have kf:KnN 2 H fm:=(h.2 a _ rfl eJ).2 fm (by simp);exact(lr a n l m md ⟨fm,rfl,eJ,h1,h2,h3,(J0 s kf).mp h4⟩)
 .rintro⟨a,n,l,m,md,fm,rfl,ha,h1,h2,h3,h4⟩;have kf:KnN 2 H fm:=(h.2 a _ rfl ha).2 fm (by simp);exact(lr a n l m md ⟨fm,rfl,s _ _ ha,h1,h2,h3,(J0 s kf).mpr h4⟩)
def ap7:Sp:=λvs H Q _=>∃v,vs=[v]/\KnN 3 H v/\∀(b:Bool)(H':Hp),Same H H'->(b=true↔y0 H v)->Q (.bl b) H'
def awa:lq Z8 Z8 (k9 HY):={}
theorem aq2(B:∀x∈sw,mg x=none)(Dn:Fn P w K mg base "is_name" 2 Z8 apw)(Kd:Fn P w K mg base "are_bounds" 2 ZN av1)(Do:Fn P w K mg base "is_mode" 1 Z8 ape)(Fpf:Fn P w K mg base "is_form" 4 Z8 aym)
  (F:Fun K "is_kind" "is_kind" HY f fd):qp P w K mg base CX0 5 f fd Z8 ap7:=by
 refine F.ok (k:=4) awa (λvs H Q E h=>?_) λbT A outer s H vs Q E hr h=>?_
 .obtain⟨v,rfl,_⟩:=h;rfl
 obtain⟨v,rfl,hv,q⟩:=h;refine⟨_,(kl (qm (PW.pt<|vz (om<|o4<|mj ml rfl (B "isinstance"<|by decide) en<|kq (pv 0)<|kq (o8 (v:=.ty "tuple") rfl (B "tuple"<|by decide) ik rfl) kh)<|rj<|ot zF (mj m7 rfl (B "len"<|by decide) cb<|kq (pv 0) kh) km<|nw _) (ku<|li uh) ng)
  (ku<|li<|p7 (lv Dn hr (by decide) rfl<|kq (mi oq (pv 0) km λ_ _=>rfl) kh)<|p7 (lv Kd hr (by decide) rfl<|kq (mi oq (pv 0) km λ_ _=>rfl)<|kq (mi oq (pv 0) km λ_ _=>rfl) kh)<|p7 (lv Do hr (by decide) rfl<|kq (mi oq (pv 0) km λ_ _=>rfl) kh)<|qq<|lv Fpf hr (by decide) rfl<|kq (mi oq (pv 0) km λ_ _=>rfl) kh)),?_⟩
 rcases C6 (K:=K) hv.kn with ⟨a,xs,rfl,ha⟩|⟨⟨t,ty,kt⟩,_,qT⟩
 .obtain⟨pU,kn⟩:=hv.2 a xs rfl ha;refine(kj _ rfl (.ref a) ("tuple") (.type "tuple") true ⟨rfl,.tup ha,rfl,true,rfl,rg ?_⟩);refine(um _ rfl a xs rfl (.inr<|SqT.of ha) rfl _ ⟨rfl,?_⟩);by_cases h5:xs.length=5
  .match xs,h5,ha,kn with
   | [n,l,m,md,fm],_,ha,kn=>
    have kN:KnN 2 H n:=kn n (by simp);have kL:KnN 2 H l:=kn l (by simp);have kM:KnN 2 H m:=kn m (by simp);have kD:KnN 2 H md:=kn md (by simp);have kF:KnN 2 H fm:=kn fm (by simp);have no:(sO n=false\/pY l m=false\/CM md=false\/¬FormP H fm)->¬y0 H (.ref a):=λhx ⟨a',n',l',m',FG,Hf,e,eJ,h1,h2,h3,h4⟩=>by
     cases e;rw[ha]at eJ;cases eJ;rcases hx with hx|hx|hx|hx
     .rw[hx]at h1;cases h1
     .rw[hx]at h2;cases h2
     .rw[hx]at h3;cases h3
     .exact hx h4
    refine rg ?_;refine(kj _ rfl a _ _ _ ⟨rfl,rfl,SqT.of ha,rfl,n,rfl,kN.kn,λH1 s1=>?_⟩);have lU:=s1 _ _ ha;cases e1:sO n with
    | false=>exact⟨false,rfl,rg<|q false H1 s1<|p8<|no<|.inl e1⟩
    | true=>
     refine⟨true,rfl,oo ?_⟩;refine(kj _ rfl a _ _ _ ⟨rfl,rfl,SqT.of lU,rfl,(kj _ rfl a _ _ _ ⟨rfl,rfl,SqT.of lU,rfl,(lc l m ⟨rfl,(kL.kn.same s1),(kM.kn.same s1),?_⟩)⟩)⟩);cases e2:pY l m with
     | false=>exact⟨false,rfl,rg<|q false H1 s1<|p8<|no<|.inr<|.inl e2⟩
     | true=>
      refine⟨true,rfl,oo ?_⟩;refine(kj _ rfl a _ _ _ ⟨rfl,rfl,SqT.of lU,rfl,md,rfl,kD.kn.same s1,?_⟩);cases e3:CM md with
      | false=>exact⟨false,rfl,rg<|q false H1 s1<|p8<|no<|.inr<|.inr<|.inl e3⟩
      | true=>
       refine⟨true,rfl,oo ?_⟩;refine(kj _ rfl a _ _ _ ⟨rfl,rfl,SqT.of lU,rfl,fm,rfl,kF.same s1,λb H2 s2 hb=>?_⟩);refine q b H2 (s1.trans s2) ?_;rw[hb,J0 s1 kF];exact⟨λh4=>(lr a n l m md ⟨fm,rfl,ha,e1,e2,e3,h4⟩),λhk=>by obtain⟨a',n',l',m',FG,Hf,e,eJ,_,_,_,h4⟩:=hk;cases e;rw[ha]at eJ;cases eJ;exact h4⟩
  .refine ur (λ_=>?_) λh=>absurd (show(!decide (V.int ((xs.length:Nat):Int)=V.int ((5:Nat):Int)))=true by rw[IV h5];rfl) h;refine q false H (Same.refl H)<|p8 λhk=>?_;obtain⟨a',n',l',m',FG,Hf,e,eJ,_⟩:=hk;cases e;rw[ha]at eJ;cases eJ;exact h5 rfl
 .refine(kj _ rfl v ("tuple") t false ⟨rfl,ty,kt,false,rfl,oo ?_⟩);refine oo<|q false H (Same.refl H)<|p8 λhk=>?_;obtain⟨a',n',l',m',FG,Hf,e,eJ,_⟩:=hk;exact qT a' _ e eJ
def PrD(d:Z9):Prop:=∃x y:Nat,d=.tuple [.str ⟨#[x]⟩,.str ⟨#[y]⟩]/\65<=x/\x<=y/\y<=90
noncomputable def prN:Z9->Nat
 | .tuple [.str x,.str y]=>128*(x.cps.toList.headD 0)+y.cps.toList.headD 0
 | _=>0
def EJ(x y:Nat):prN (.tuple [.str ⟨#[x]⟩,.str ⟨#[y]⟩])=128*x+y:=rfl
def ak2{d e:Z9}(hd:PrD d)(he:PrD e)(h:prN d=prN e):d=e:=by
 obtain⟨x,y,rfl,h1,h2,h3⟩:=hd;obtain⟨x',y',rfl,jX,jH,h3'⟩:=he;rw[EJ,EJ]at h;have e1:x=x':=by lia
 have e2:y=y':=by lia
 rw[e1,e2]
theorem avs(a b:Nat):sLt ⟨#[a]⟩ ⟨#[b]⟩=decide (a<b):=by
 show decide ([a]<[b])=_;by_cases h:a<b
 .rw[decide_eq_true h];exact decide_eq_true<|List.Lex.rel h
 .rw[decide_eq_false h];refine decide_eq_false λq=>?_;cases q with
  | rel r=>exact h r
  | cons r=>cases r
def avh(a b:Nat):((⟨#[a]⟩:Str)=⟨#[b]⟩)↔a=b:=⟨λh=>by
 injection h with h
 injection h with h
 injection h,λh=>by rw[h]⟩
def ap5{d e:Z9}(hd:PrD d)(he:PrD e):ltR d e=decide (prN d<prN e):=by
 obtain⟨x,y,rfl,h1,h2,h3⟩:=hd;obtain⟨x',y',rfl,jX,jH,h3'⟩:=he;rw[EJ,EJ];show qb [.str ⟨#[x]⟩,.str ⟨#[y]⟩] [.str ⟨#[x']⟩,.str ⟨#[y']⟩]=_;rw[CT,CT];simp only[avh,avs];rw[show qb [] []=false from rfl];by_cases e1:x=x'
 .rw[if_pos e1];by_cases e2:y=y'
  .rw[if_pos e2,decide_eq_false<|by lia]
  .rw[if_neg e2];by_cases h:y<y'
   .rw[decide_eq_true h,decide_eq_true<|by lia]
   .rw[decide_eq_false h,decide_eq_false<|by lia]
 .rw[if_neg e1];by_cases h:x<x'
  .rw[decide_eq_true h,decide_eq_true<|by lia]
  .rw[decide_eq_false h,decide_eq_false<|by lia]
def aki{ds:U Z9}(h:∀d∈ds,PrD d):AD [false] ds:=λd hd=>by obtain⟨x,y,rfl,_⟩:=h d hd;exact(nk _ rfl _ _ ⟨rfl,(lc _ _ ⟨rfl,rfl⟩)⟩)
def IZ{d:Z9}(h:PrD d):Ew d:=by obtain⟨x,y,rfl,_⟩:=h;exact⟨rfl,⟨_,rfl⟩,by simp[er,ba]⟩
def AK(H:Hp)(v:V):Prop:=∃a xs ds,v=.ref a/\H a=some (.tup xs)/\RepAll H ds xs/\(∀d∈ds,PrD d)/\ds.Pairwise (λx y=>prN x<prN y)
def ab7{H H':Hp}{v:V}(s:Same H H')(h:Kn H v):vt H' v=vt H v:=by
 rcases h with rfl|⟨b,rfl⟩|⟨i,rfl⟩|⟨z,rfl,_⟩|⟨a,rfl,⟨ys,h⟩|⟨ys,h⟩|h⟩
 .rfl
 .rfl
 .rfl
 .rfl
 .rw[o5,o5,h,s _ _ h]
 .rw[o5,o5,h,s _ _ h]
 .rw[o5,o5,h,s _ _ h]
def ajy(x y:Nat):leS ⟨#[x]⟩ ⟨#[y]⟩=decide (x<=y):=le1 x y
def api{z:Str}(h:sg1 z=true):∃c,z=⟨#[c]⟩/\65<=c/\c<=90:=by
 by_cases hl:z.length=1
 .obtain⟨c,rfl⟩:=IK hl;rw[E2]at h;simp at h;exact⟨c,rfl,h⟩
 .rw[Jw hl]at h;cases h
def aoy{x y:V}(h:zG x y=true):∃zx zy,x=.str zx/\y=.str zy/\(sg1 zx&&sg1 zy&&leS zx zy)=true:=by cases x<;>first|(exact absurd h ak)|(cases y<;>first|(exact absurd h ak)|exact(lc _ _ ⟨rfl,rfl,h⟩))
theorem ary{H:Hp}{v:V}(h:vt H v=true):∃d,Rep H d v/\PrD d:=by
 cases v with
 | ref a=>
  have h0:=h;rw[o5]at h;cases ha:H a with
  | none=>rw[ha]at h;cases h
  | some o=>
   rw[ha]at h;cases o with
   | tup xs=>
    by_cases h2:xs.length=2
    .match xs,h2,ha,h with
     | [x,y],_,ha,h=>
      obtain⟨zx,zy,rfl,rfl,h'⟩:=aoy h;rw[cy,cy]at h';obtain⟨⟨h1,h2⟩,h3⟩:=h';obtain⟨c,rfl,c1,c2⟩:=api h1;obtain⟨e,rfl,e1,e2⟩:=api h2;rw[ajy]at h3;refine(nk (.tuple [.str ⟨#[c]⟩,.str ⟨#[e]⟩]) (ou a _ rfl ha (.str ⟨#[c]⟩) _ rfl ⟨rfl,ok1<|by lia⟩ (.str ⟨#[e]⟩) ⟨_,rfl,⟨rfl,ok1<|by lia⟩,rfl⟩) c e ⟨rfl,c1,of_decide_eq_true h3,e2⟩)
    .rw[ag8 ha h2]at h0;cases h0
   | _=>cases h
 | _=>cases h
def ar5{H:Hp}{v:V}{d:Z9}(r:Rep H d v)(h:PrD d):vt H v=true:=by obtain⟨x,y,rfl,h1,h2,h3⟩:=h;obtain⟨a,xs,rfl,ha,v1,r1,rfl,⟨rfl,_⟩,v2,r2,rfl,⟨rfl,_⟩,e⟩:=r;cases (show r2=[]from e);rw[o5,ha];show(sg1 _&&sg1 _&&leS _ _)=true;rw[E2,E2,ajy];simp;lia
theorem JM{H:Hp}:∀{xs:U V},xs.all (vt H)=true->∃ds,RepAll H ds xs/\∀d∈ds,PrD d
 | [],_=>⟨[],rfl,λd hd=>by cases hd⟩
 | x::xs,h=>by
  rw[List.all_cons,cy]at h;obtain⟨d,r,p⟩:=ary h.1;obtain⟨ds,rs,ps⟩:=JM h.2;exact⟨d::ds,(lc x xs ⟨rfl,r,rs⟩),λe he=>by
   rcases ar.mp he with rfl|he
   .exact p
   .exact ps e he⟩
theorem JT{H:Hp}:∀{ds:U Z9} {xs:U V},RepAll H ds xs->(∀d∈ds,PrD d)->xs.all (vt H)=true
 | [],xs,r,_=>by cases (show xs=[]from r);rfl
 | d::ds,xs,r,h=>by obtain⟨x,ys,rfl,r1,r2⟩:=r;rw[List.all_cons,ar5 r1<|h d am,JT r2 λe he=>h e<|ao _ he];rfl
theorem IA:∀{ds:U Z9},(∀d∈ds,PrD d)->wn ds=true
 | [],_=>rfl
 | d::ds,h=>by show(kd d&&wn ds)=true;rw[(IZ<|h d am).1,IA λe he=>h e<|ao _ he];rfl
theorem ahe:∀{ds:U Z9},(∀d∈ds,PrD d)->ba ds<=8
 | [],_=>by simp[ba]
 | d::ds,h=>by have h1:=(IZ<|h d am).2.2;have h2:=ahe λe he=>h e<|ao _ he;simp[ba];lia
theorem Jy{H:Hp}:∀{ds es:U Z9} {xs:U V},RepAll H ds xs->RepAll H es xs->(∀d∈ds,PrD d)->(∀d∈es,PrD d)->ds=es
 | [],es,xs,r,r',_,_=>by
  cases (show xs=[]from r);cases es with
  | nil=>rfl
  | cons e es=>obtain⟨_,_,q,_⟩:=r';cases q
 | d::ds,es,xs,r,r',h,h'=>by
  obtain⟨x,ys,rfl,r1,r2⟩:=r;cases es with
  | nil=>cases r'
  | cons e es=>
   obtain⟨_,_,q,q1,q2⟩:=r';cases q;have e1:d=e:=by
    obtain⟨c1,c2,rfl,_⟩:=h d am;obtain⟨mY,mX,rfl,_⟩:=h' e am;obtain⟨a,xs,rfl,ha,v1,_,rfl,⟨rfl,_⟩,v2,_,rfl,⟨rfl,_⟩,z⟩:=r1;obtain⟨a',xs',e',eJ,v1',_,e2',⟨e3',_⟩,v2',_,e4',⟨e5',_⟩,z'⟩:=q1;cases e';rw[ha]at eJ;subst e2' e3' e4' e5';injection eJ with eJ
    injection eJ with eJ
    injection eJ with i1 i2
    injection i2 with i2 i3
    injection i1 with i1
    injection i2 with i2
    rw[i1,i2]
   rw[e1,Jy r2 q2 (λe he=>h e<|ao _ he) λe he=>h' e<|ao _ he]
def aiu{H:Hp}{a:aE}{xs:U V}{ds:U Z9}(ha:H a=some (.tup xs))(r:RepAll H ds xs)(h:∀d∈ds,PrD d):AK H (.ref a)↔ds.Pairwise (λx y=>prN x<prN y):=by
 constructor
 .rintro⟨b,ys,es,e,hb,re,he,hp⟩;cases e;rw[ha]at hb;cases hb;rw[Jy r re h he];exact hp
 .intro hp;exact(mf a xs ds ⟨rfl,ha,r,h,hp⟩)
def aix{H H':Hp}{v:V}(s:Same H H')(h:KnN 2 H v):AK H' v↔AK H v:=by
 constructor
 .rintro⟨a,xs,ds,rfl,ha,r,hp,hw⟩;have nV:=yp s h.kn ha;obtain⟨_,kx⟩:=h.2 a xs rfl nV;have bI:=JT r hp;have e:xs.all (vt H)=true:=by
   rw[bz]at bI⊢;intro x hx;rw[<-ab7 s (kx x hx).kn];exact bI x hx
  obtain⟨es,re,pe⟩:=JM e;cases Jy (re.same s) r pe hp;exact(mf a xs _ ⟨rfl,nV,re,hp,hw⟩)
 .rintro⟨a,xs,ds,rfl,ha,r,hp,hw⟩;exact(mf a xs ds ⟨rfl,s _ _ ha,r.same s,hp,hw⟩)
def ajp:Sp:=λvs H Q _=>∃v,vs=[v]/\KnN 2 H v/\∀(b:Bool)(H':Hp),Same H H'->(b=true↔AK H v)->Q (.bl b) H'
def aq0:lq Z8 Z8 (k9 IL):={}
theorem anv(B:∀x∈sw,mg x=none)(Dk:Fn P w K mg base "is_pair" 2 Z8 ap8)
  (F:Fun K "are_pairs" "are_pairs" IL f fd):qp P w K mg base CX0 3 f fd Z8 ajp:=by
 refine F.ok (k:=2) aq0 (λvs H Q E h=>?_) λbT A outer s H vs Q E hr h=>?_
 .obtain⟨v,rfl,_⟩:=h;rfl
 obtain⟨v,rfl,hv,q⟩:=h;have hu:=hr.units;refine⟨_,(kl (qm (PW.pt<|vz (om<|o4<|mj ml rfl (B "isinstance"<|by decide) en<|kq (pv 0)<|kq (o8 (v:=.ty "tuple") rfl (B "tuple"<|by decide) ik rfl) kh)<|rj<|om<|o4<|mj (p9 rfl) rfl (B "all"<|by decide) cW<|kq (mr ["pair"] [none] rfl rfl (by decide +kernel) (by decide +kernel) rfl rfl (vp<|pv 0) (λ_=>(k7 (i:=0) (show(["pair"]:U PySem.Str).Nodup by decide +kernel) rfl<|Or.inl rfl)) (λ_=>ma) λ_=>(lv Dk hr (by decide) rfl<|kq (pv 0) kh)) kh) (ku<|li uh) ng)
  (ku<|li<|on (IU hu) (vx aez rfl (B "list"<|by decide) boot_list<|kq (pv 0) kh) (afd (mK true) ltR rfl hu rfl (B "sorted"<|by decide) rfl (B "set"<|by decide)<|kq (pv 0) kh)<|nw _)),?_⟩
 rcases C6 (K:=K) hv.kn with ⟨a,xs,rfl,ha⟩|⟨⟨t,ty,kt⟩,_,qT⟩
 .obtain⟨pU,kn⟩:=hv.2 a xs rfl ha;refine(kj _ rfl (.ref a) ("tuple") (.type "tuple") true ⟨rfl,.tup ha,rfl,true,rfl,rg ?_⟩);refine(mm _ rfl a ⟨rfl,⟨_,SqT.of ha⟩,λD hD=>?_⟩);refine qo (xs:=xs) (λi ys H'=>Same H H'/\ys=((xs.take i).map (vt H)).map V.bl) ⟨Same.fresh _ hD,rfl⟩ (λi ys H' p=>SqT.of<|p.1 _ _ ha) (λi x ys H' hx hi aV bG p=>?_) λys H' aV bG p=>?_
  .obtain⟨p1,rfl⟩:=p;have kx:=kn x<|aj hx;refine⟨Agree.set (Agree.refl _) rfl,?_⟩;dsimp only[uw];refine oo ?_;refine(mm _ rfl x ⟨rfl,kx.same p1,ny (by lia) aV bG ⟨p1.new hD,?_⟩⟩);rw[k8 (vt H) hx,bb,ab7 p1 kx.kn];rfl
  obtain⟨p1,rfl⟩:=p;refine(lc D _ ⟨rfl,aV,_,rfl,?_⟩);rw[au (aq _),jk];have rT:(xs.all<|id∘vt H)=xs.all (vt H):=rfl;rw[rT];cases bI:xs.all (vt H)with
  | false=>
   refine oo ?_;refine q false H' p1<|p8 λ⟨b,ys,ds,e,hb,r,hp,_⟩=>?_;cases e;rw[ha]at hb;cases hb;rw[JT r hp]at bI;cases bI
  | true=>
   refine rg ?_;obtain⟨ds,dB,wA⟩:=JM bI;have hF:=aiu ha dB wA;have lU:=p1 _ _ ha;refine(nk _ rfl a xs ⟨rfl,.inr<|SqT.of lU,λl hl=>?_⟩);have s2:Same H' (upd H' l<|.lst xs):=Same.fresh _ hl;have r2:=dB.same<|p1.trans s2;have aX:=dB.length;refine(oj _ rfl a xs ds ⟨rfl,.inr<|s2 _ _ lU,r2,λd hd=>IZ<|wA d hd,ak8<|aki wA,by lia,λes l2 ys nd mem xG jE re=>?_⟩);have s3:Same (upd H' l<|.lst xs) (upd (upd H' l<|.lst xs) l2<|.lst ys):=Same.fresh _ jE;have tH:∀d∈es,PrD d:=λd hd=>wA d<|(mem d).mp hd;refine(lc (.list ds) (.list es) ⟨(lc l xs ⟨rfl,s3 _ _ kr,r2.same s3⟩),(lc l2 ys ⟨rfl,kr,re⟩),?_,?_⟩)
   .have:=ahe wA;simp[er];lia
   refine q _ _ ((p1.trans s2).trans s3) ?_;rw[hF,if_neg ak];have qC:es.Pairwise (λx y=>prN x<prN y):=by have Hr:=List.Pairwise.and nd xG;refine gx (λ{x y} hx hy DS=>?_) Hr;have h1:=DS.2;rw[ap5 (tH y hy) (tH x hx)]at h1;have h2:¬prN y<prN x:=of_decide_eq_false h1;have h3:prN x≠prN y:=λe=>DS.1<|ak2 (tH x hx) (tH y hy) e;lia
   constructor
   .intro h;have e:ds=es:=JS ds es (IA wA) (IA tH) h;rw[e];exact qC
   .intro h;have e:ds=es:=abe (R:=λx y=>prN x<prN y) (λx y h1 h2=>by lia) h qC λz=>(mem z).symm;rw[e];exact SeqAt.eqv_refl (.list es) (show(PyData.list es).canLay0=true from re.lay)
 .exact(kj _ rfl v ("tuple") t false ⟨rfl,ty,kt,false,rfl,oo<|oo<|q false H (Same.refl H)<|p8 λ⟨b,ys,ds,e,hb,_⟩=>qT b ys e hb⟩)
def Nms(H:Hp)(xs:U V)(zs:U Str):Prop:=zs.length=xs.length/\∀(i:Nat)(x:V),xs[i]?=some x->∃(b:aE)(z:Str)(r:U V),x=.ref b/\H b=some (.tup (.str z::r))/\zs[i]?=some z
def Nms.same{H H':Hp}{xs:U V}{zs:U Str}(s:Same H H')(h:Nms H xs zs):Nms H' xs zs:=⟨h.1,λi x hx=>by obtain⟨b,z,r,e,hb,hz⟩:=h.2 i x hx;exact(mf b z r ⟨e,s _ _ hb,hz⟩)⟩
def Nms.uniq{H:Hp}{xs:U V}{zs ys:U Str}(h:Nms H xs zs)(k:Nms H xs ys):zs=ys:=by
 apply List.ext_getElem?;intro i;by_cases hi:i<xs.length
 .obtain⟨b,z,r,e,hb,hz⟩:=h.2 i _<|af hi;obtain⟨b',z',r',e',fL,nR⟩:=k.2 i _<|af hi;rw[e]at e';cases e';rw[hb]at fL;injection fL with q
  injection q with q
  injection q with q _
  injection q with q
  rw[hz,nR,q]
 .rw[ji (by have:=h.1;lia),ji<|by have:=k.1;lia]
def aoc{v:V}(h:sO v=true):∃z,v=.str z:=by cases v<;>first|(exact⟨_,rfl⟩)|(exact absurd h ak)
theorem zd{H:Hp}:∀{xs:U V},(∀x∈xs,y0 H x)->∃zs,Nms H xs zs
 | [],_=>⟨[],rfl,λi x hx=>by simp at hx⟩
 | x::xs,h=>by
  obtain⟨a,n,l,m,md,fm,rfl,ha,h1,_⟩:=h x am;obtain⟨z,rfl⟩:=aoc h1;obtain⟨zs,hl,hz⟩:=zd λy hy=>h y<|ao _ hy;refine⟨z::zs,by rw[bj,bj,hl],λi y hy=>?_⟩;cases i with
  | zero=>
   cases (show V.ref a=y from by simpa using hy);exact(mf a z _ ⟨rfl,ha,rfl⟩)
  | succ i=>exact hz i y<|by simpa using hy
def zJ(H:Hp)(v:V):Prop:=∃a xs zs,v=.ref a/\H a=some (.tup xs)/\1<=xs.length/\xs.length<=6/\(∀x∈xs,y0 H x)/\Nms H xs zs/\zs.Nodup
def ail{H H':Hp}{v:V}(s:Same H H')(h:KnN 4 H v):zJ H' v↔zJ H v:=by
 constructor
 .rintro⟨a,xs,zs,rfl,ha,h1,h2,h3,h4,h5⟩;have nV:=yp s h.kn ha;obtain⟨_,kx⟩:=h.2 a xs rfl nV;have hk:∀x∈xs,y0 H x:=λx hx=>(JX s<|kx x hx).mp (h3 x hx);obtain⟨ys,hy⟩:=zd hk;cases (hy.same s).uniq h4;exact(mf a xs _ ⟨rfl,nV,h1,h2,hk,hy,h5⟩)
 .rintro⟨a,xs,zs,rfl,ha,h1,h2,h3,h4,h5⟩;obtain⟨_,kx⟩:=h.2 a xs rfl ha;exact(mf a xs zs ⟨rfl,s _ _ ha,h1,h2,λx hx=>(JX s<|kx x hx).mpr (h3 x hx),h4.same s,h5⟩)
open Classical in
noncomputable def xA(H:Hp)(x:V):Bool:=decide<|y0 H x
def kindB_iff{H:Hp}{x:V}:xA H x=true↔y0 H x:=by unfold xA;exact @decide_eq_true_iff _<|Classical.propDecidable _
def anw{H:Hp}{x:V}{b:Bool}(h:b=true↔y0 H x):b=xA H x:=by rw[g0,h,kindB_iff]
theorem ai2{α:Type}[DecidableEq α]{R S:List α}(hR:R.Nodup)(hs:∀x,x∈R->x∈S)(hl:S.length<=R.length):S.Nodup:=by
 induction S generalizing R with
 | nil=>exact List.nodup_nil
 | cons a S ih=>
  by_cases ha:a∈S
  .have eF:∀x,x∈R->x∈S:=λx hx=>(ar.mp<|hs x hx).elim (λe=>e▸ha) id;have:=fh hR λx hx=>eF x hx;rw[bj]at hl;lia
  .refine iy.mpr ⟨ha,ih (R:=R.erase a) (hR.erase a) (λx hx=>?_) ?_⟩
   .have pN:=List.mem_of_mem_erase hx;rcases ar.mp (hs x pN)with e|h
    .subst e;exact absurd hx<|List.Nodup.not_mem_erase hR
    .exact h
   .have jE:R.length<=(R.erase a).length+1:=by
     by_cases h:a∈R
     .rw[List.length_erase_of_mem h];lia
     .rw[List.erase_of_not_mem h];lia
    rw[bj]at hl;lia
section
variable{K:av}{a D:aE}{xs:U V}{zs:U Str}{σ:L2.St}{H:Hp}{Q:VK}
def ais(ha:H a=some (.tup xs))(hn:Nms H xs zs)(hl:xs.length<=60)(hD:H D=none)(q:∀H',Same H H'->H' D=some (.lst<|zs.map V.str)->Q (.ref D) H') :
  tO (Itt K a) [none] (ub 0) uw (tOp (CD K) (jB 0)<|tC<|.int 0) σ H D Q:=by
 refine qo (xs:=xs) (λi ys H'=>Same H H'/\ys=(zs.take i).map V.str) ⟨Same.fresh _ hD,rfl⟩ (λi ys H' p=>SqT.of<|p.1 _ _ ha) (λi x ys H' hx hi aV bG p=>?_) λys H' aV bG p=>?_
 .obtain⟨p1,rfl⟩:=p;obtain⟨b,z,r,rfl,hb,hz⟩:=hn.2 i x hx;refine⟨Agree.set (Agree.refl _) rfl,?_⟩;dsimp only[uw];refine oo ?_;refine(kj _ rfl b _ _ _ ⟨rfl,rfl,SqT.of<|p1 _ _ hb,aya rfl,ny (by lia) aV bG ⟨p1.new hD,?_⟩⟩);rw[k8 V.str hz]
 .obtain⟨p1,rfl⟩:=p;rw[au (by rw[hn.1];exact aq _)]at aV;exact q H' p1 aV
end
def alw:Sp:=λvs H Q _=>∃v,vs=[v]/\KnN 4 H v/\∀(b:Bool)(H':Hp),Same H H'->(b=true↔zJ H v)->Q (.bl b) H'
def ar9:lq Z8 Z8 (k9 Ja):={}
theorem ans(B:∀x∈sw,mg x=none)(Hc:GI mg "MOST_KINDS" 6)(Dr:Fn P w K mg base "is_kind" 5 Z8 ap7)
  (F:Fun K "are_kinds" "are_kinds" Ja f fd):qp P w K mg base CX0 6 f fd Z8 alw:=by
 refine F.ok (k:=5) ar9 (λvs H Q E h=>?_) λbT A outer s H vs Q E hr h=>?_
 .obtain⟨v,rfl,_⟩:=h;rfl
 obtain⟨v,rfl,hv,q⟩:=h;have hu:=hr.units;refine⟨_,(kl (qm (PW.pt<|vz (om<|o4<|mj ml rfl (B "isinstance"<|by decide) en<|kq (pv 0)<|kq (o8 (v:=.ty "tuple") rfl (B "tuple"<|by decide) ik rfl) kh)<|rj<|om<|vd wk wk km (mj m7 rfl (B "len"<|by decide) cb<|kq (pv 0) kh)<|rn Hc rfl) (ku<|li uh) ng)
  (kl (qm (om<|o4<|mj (p9 rfl) rfl (B "all"<|by decide) cW<|kq (mr Z0 [none] rfl rfl (by decide +kernel) (by decide +kernel) rfl rfl (vp<|pv 0) (λ_=>(k7 (i:=0) (show(Z0:U PySem.Str).Nodup by decide +kernel) rfl<|Or.inl rfl)) (λ_=>ma) λ_=>(lv Dr hr (by decide) rfl<|kq (pv 0) kh)) kh) (ku<|li uh) ng)
  (ku<|li<|on wm (aie rfl rfl (B "len"<|by decide) rfl (B "set"<|by decide)<|kq (mr Z0 [none] rfl rfl (by decide +kernel) (by decide +kernel) rfl rfl (vp<|pv 0) (λ_=>(k7 (i:=0) (show(Z0:U PySem.Str).Nodup by decide +kernel) rfl<|Or.inl rfl)) (λ_=>ma) λ_=>(mi sn (pv 0) km λ_ _=>rfl)) kh) (mj m7 rfl (B "len"<|by decide) cb<|kq (pv 0) kh)<|nw _))),?_⟩
 rcases C6 (K:=K) hv.kn with ⟨a,xs,rfl,ha⟩|⟨⟨t,ty,kt⟩,_,qT⟩
 .obtain⟨pU,kn⟩:=hv.2 a xs rfl ha;have no:(1<=xs.length->xs.length<=6->False)->¬zJ H (.ref a):=λhx ⟨b,ys,zs,e,hb,h1,h2,_⟩=>by
   cases e;rw[ha]at hb;cases hb;exact hx h1 h2
  refine(kj _ rfl (.ref a) ("tuple") (.type "tuple") true ⟨rfl,.tup ha,rfl,true,rfl,rg ?_⟩);refine(nh _ rfl a xs rfl (.inr<|SqT.of ha) _<|m9 _ rfl rfl _ ⟨rfl,?_⟩);refine ur (λc1=>?_) λc1=>?_
  .have mY:(1:Int)<=(xs.length:Int):=of_decide_eq_true c1;refine(lc _ _ ⟨rfl,rfl,_,rfl,?_⟩);refine ur (λc2=>?_) λc2=>?_
   .have mX:¬((xs.length:Int)<=6):=by simpa using c2
    exact q false H (Same.refl H)<|p8<|no λ_ h=>by lia
   have mX:(xs.length:Int)<=6:=by simpa using c2
   refine(mm _ rfl a ⟨rfl,⟨_,SqT.of ha⟩,λD hD=>?_⟩);refine qo (xs:=xs) (λi ys H'=>Same H H'/\ys=((xs.take i).map (xA H)).map V.bl) ⟨Same.fresh _ hD,rfl⟩ (λi ys H' p=>SqT.of<|p.1 _ _ ha) (λi x ys H' hx hi aV bG p=>?_) λys H' aV bG p=>?_
   .obtain⟨p1,rfl⟩:=p;have kx:=kn x<|aj hx;refine⟨Agree.set (Agree.refl _) rfl,?_⟩;dsimp only[uw];refine oo ?_;refine(mm _ rfl x ⟨rfl,kx.same p1,λb H2 s2 hb=>?_⟩);rw[JX p1 kx]at hb;rw[anw hb];refine ny (by lia) (s2 _ _ aV) bG ⟨(p1.trans s2).new hD,?_⟩;rw[k8 (xA H) hx,bb];rfl
   obtain⟨p1,rfl⟩:=p;refine(lc D _ ⟨rfl,aV,_,rfl,?_⟩);rw[au (aq _),jk];have rT:(xs.all<|id∘xA H)=xs.all (xA H):=rfl;rw[rT];cases bI:xs.all (xA H)with
   | false=>
    refine oo ?_;refine q false H' p1<|p8 λ⟨b,ys,zs,e,hb,_,_,h3,_⟩=>?_;cases e;rw[ha]at hb;cases hb;rw[bz.mpr λx hx=>kindB_iff.mpr<|h3 x hx]at bI;cases bI
   | true=>
    refine rg ?_;have hk:∀x∈xs,y0 H x:=λx hx=>kindB_iff.mp<|bz.mp bI x hx;obtain⟨zs,hn⟩:=zd hk;have gS:=hn.1;refine(mm _ rfl a ⟨rfl,⟨_,SqT.of<|p1 _ _ ha⟩,λD2 dH=>?_⟩);refine ais (p1 _ _ ha) (hn.same p1) pU dH λH2 s2 dH=>?_;refine(lc D2 zs ⟨rfl,dH,by lia,λm nd mem le=>?_⟩);have gG:=p1.trans s2;refine(nk _ rfl a xs ⟨rfl,.inr<|SqT.of<|gG _ _ ha,rfl,?_⟩);refine q _ _ gG ?_;have iff:zJ H (.ref a)↔zs.Nodup:=by
     constructor
     .rintro⟨b,ys,zs',e,hb,_,_,_,h4,h5⟩;cases e;rw[ha]at hb;cases hb;rw[hn.uniq h4];exact h5
     .intro h;exact(mf a xs zs ⟨rfl,ha,by lia,by lia,hk,hn,h⟩)
    rw[iff,decide_eq_true_iff];constructor
    .intro e;injection e with e
     exact ai2 nd (λx hx=>(mem x).mp hx)<|by lia
    .intro h;have:=aew h nd mem;rw[this,gS]
  .refine⟨false,rfl,oo ?_⟩;have mY:¬(1:Int)<=(xs.length:Int):=by simpa using c1
   exact q false H (Same.refl H)<|p8<|no λh _=>by lia
 .exact(kj _ rfl v ("tuple") t false ⟨rfl,ty,kt,false,rfl,oo<|oo<|q false H (Same.refl H)<|p8 λ⟨b,ys,ds,e,hb,_⟩=>qT b ys e hb⟩)
def NoStr.notStr{H:Hp}{z:Str}(h:NoStr H (.str z)):False:=by rcases h with h|⟨i,h⟩|⟨a,h,_⟩<;>cases h
theorem Itm.uniq{H:Hp}{v:V}{o o':Option Str}(h:Itm H v o)(h':Itm H v o'):o=o':=by
 cases o with
 | none=>
  cases o' with
  | none=>rfl
  | some z=>obtain⟨rfl,_⟩:=h';exact(NoStr.notStr h).elim
 | some z=>
  obtain⟨rfl,_⟩:=h;cases o' with
  | none=>exact(NoStr.notStr h').elim
  | some z'=>obtain⟨e,_⟩:=h';cases e;rfl
theorem Itms.uniq{H:Hp}{vs:U V}{os qJ:U (Option Str)}(h:Itms H vs os)(h':Itms H vs qJ):os=qJ:=by
 apply List.ext_getElem?;intro i;by_cases hi:i<vs.length
 .obtain⟨o,ho,io⟩:=h.at<|af hi;obtain⟨o',oN,io'⟩:=h'.at<|af hi;rw[ho,oN,Itm.uniq io io']
 .rw[ji (by have:=h.1;lia),ji<|by have:=h'.1;lia]
def NoTup.notTup{H:Hp}{a:aE}{xs:U V}(h:NoTup H (.ref a))(ha:H a=some (.tup xs)):False:=by
 rcases h with h|⟨i,h⟩|⟨z,h⟩|⟨b,h,⟨ys,hb⟩|hb⟩
 .cases h
 .cases h
 .cases h
 .cases h;rw[ha]at hb;cases hb
 .cases h;rw[ha]at hb;cases hb
theorem Thing.uniq{H:Hp}{v:V}{T T':Option (U<|Option Str)}(h:Thing H v T)(h':Thing H v T'):T=T':=by
 cases T with
 | none=>
  cases T' with
  | none=>rfl
  | some os=>obtain⟨_,a,vs,rfl,ha,_⟩:=h';exact(NoTup.notTup h ha).elim
 | some os=>
  obtain⟨_,a,vs,rfl,ha,hi⟩:=h;cases T' with
  | none=>exact(NoTup.notTup h' ha).elim
  | some qJ=>
   obtain⟨_,a',DA,e,eJ,eT⟩:=h';cases e;rw[ha]at eJ;cases eJ;rw[Itms.uniq hi eT]
def Hu(H:Hp)(v:V):Prop:=∃T,Thing H v T/\flB T=true
def ah6{H:Hp}{v:V}{T:Option (U<|Option Str)}(h:Thing H v T):flB T=true↔Hu H v:=
 ⟨λq=>⟨T,h,q⟩,λ⟨T',h',q⟩=>by rw[Thing.uniq h h'];exact q⟩
def HI(H:Hp)(v:V):Prop:=∃a f k p,v=.ref a/\H a=some (.tup [f,k,p])/\Hu H f/\zJ H k/\AK H p
def Pz(H:Hp)(v:V):Prop:=Kn H v/\∀a xs,v=.ref a->H a=some (.tup xs)->xs.length<=60/\∀f k p,xs=[f,k,p]->(∃T,Thing H f T)/\KnN 4 H k/\KnN 2 H p
def au7:Sp:=λvs H Q _=>∃v,vs=[v]/\Pz H v/\∀(b:Bool)(H':Hp),Same H H'->(b=true↔HI H v)->Q (.bl b) H'
def aw3:lq Z8 Z8 (k9 Hx):={}
theorem atg(B:∀x∈sw,mg x=none)(Kc:Fn P w K mg base "is_floor" 4 Z8 ayg)(zQ:Fn P w K mg base "are_kinds" 6 Z8 alw)(zO:Fn P w K mg base "are_pairs" 3 Z8 ajp)
  (F:Fun K "is_puzzle" "is_puzzle" Hx f fd):qp P w K mg base CX0 7 f fd Z8 au7:=by
 refine F.ok (k:=6) aw3 (λvs H Q E h=>?_) λbT A outer s H vs Q E hr h=>?_
 .obtain⟨v,rfl,_⟩:=h;rfl
 obtain⟨v,rfl,hv,q⟩:=h;refine⟨_,(kl (qm (PW.pt<|vz (om<|o4<|mj ml rfl (B "isinstance"<|by decide) en<|kq (pv 0)<|kq (o8 (v:=.ty "tuple") rfl (B "tuple"<|by decide) ik rfl) kh)<|rj<|ot zF (mj m7 rfl (B "len"<|by decide) cb<|kq (pv 0) kh) km<|nw _) (ku<|li uh) ng)
  (ku<|li<|p7 (lv Kc hr (by decide) rfl<|kq (mi oq (pv 0) km λ_ _=>rfl) kh)<|p7 (lv zQ hr (by decide) rfl<|kq (mi oq (pv 0) km λ_ _=>rfl) kh)<|qq<|lv zO hr (by decide) rfl<|kq (mi oq (pv 0) km λ_ _=>rfl) kh)),?_⟩
 rcases C6 (K:=K) hv.1 with ⟨a,xs,rfl,ha⟩|⟨⟨t,ty,kt⟩,_,qT⟩
 .obtain⟨pU,kn⟩:=hv.2 a xs rfl ha;refine(kj _ rfl (.ref a) ("tuple") (.type "tuple") true ⟨rfl,.tup ha,rfl,true,rfl,rg ?_⟩);refine(um _ rfl a xs rfl (.inr<|SqT.of ha) rfl _ ⟨rfl,?_⟩);by_cases h3:xs.length=3
  .match xs,h3,ha,kn with
   | [fl,k,p],_,ha,kn=>
    obtain⟨⟨T,hT⟩,kK,kP⟩:=kn fl k p rfl;have no:(flB T=false\/¬zJ H k\/¬AK H p)->¬HI H (.ref a):=λhx ⟨a',f',k',p',e,eJ,h1,h2,h3⟩=>by
     cases e;rw[ha]at eJ;cases eJ;rcases hx with hx|hx|hx
     .rw[(ah6 hT).mpr h1]at hx;cases hx
     .exact hx h2
     .exact hx h3
    refine rg ?_;refine(kj _ rfl a _ _ _ ⟨rfl,rfl,SqT.of ha,rfl,(lc fl T ⟨rfl,hT,λH1 s1=>?_⟩)⟩);have lU:=s1 _ _ ha;cases e1:flB T with
    | false=>exact⟨false,rfl,rg<|q false H1 s1<|p8<|no<|.inl e1⟩
    | true=>
     refine⟨true,rfl,oo ?_⟩;refine(kj _ rfl a _ _ _ ⟨rfl,rfl,SqT.of lU,rfl,k,rfl,kK.same s1,λb H2 s2 hb=>?_⟩);rw[ail s1 kK]at hb;have gG:=s1.trans s2;cases b with
     | false=>exact⟨false,rfl,rg<|q false H2 gG<|p8<|no<|.inr<|.inl λh=>by cases hb.mpr h⟩
     | true=>
      refine⟨true,rfl,oo ?_⟩;refine(kj _ rfl a _ _ _ ⟨rfl,rfl,SqT.of<|gG _ _ ha,rfl,p,rfl,kP.same gG,λb3 H3 s3 Eb=>?_⟩);rw[aix gG kP]at Eb;refine q b3 H3 (gG.trans s3) ?_;rw[Eb];exact⟨λh=>(my a fl k p ⟨rfl,ha,(ah6 hT).mp e1,hb.mp rfl,h⟩),λhk=>by obtain⟨a',f',k',p',e,eJ,_,_,h⟩:=hk;cases e;rw[ha]at eJ;cases eJ;exact h⟩
  .refine ur (λ_=>?_) λh=>absurd (show(!decide (V.int ((xs.length:Nat):Int)=V.int ((3:Nat):Int)))=true by rw[IV h3];rfl) h;refine q false H (Same.refl H)<|p8 λhk=>?_;obtain⟨a',f',k',p',e,eJ,_⟩:=hk;cases e;rw[ha]at eJ;cases eJ;exact h3 rfl
 .refine(kj _ rfl v ("tuple") t false ⟨rfl,ty,kt,false,rfl,oo ?_⟩);refine oo<|q false H (Same.refl H)<|p8 λhk=>?_;obtain⟨a',f',k',p',e,eJ,_⟩:=hk;exact qT a' _ e eJ
def Lk(H H':Hp):Prop:=∀b o,H b=some o->H' b=some o\/∃xs ys,o=.lst xs/\H' b=some (.lst ys)
theorem Lk.tup{H H':Hp}(l:Lk H H'){b:aE}{xs:U V}(h:H b=some (.tup xs)):H' b=some (.tup xs):=by
 rcases l b _ h with h|⟨_,_,e,_⟩
 .exact h
 .cases e
def Lk.of_same{H H':Hp}(s:Same H H'):Lk H H':=λb o h=>.inl<|s b o h
def Lk.of_ex{H H':Hp}{st:aE}{n n':U V}(e:Ex [st] H H')(h:H st=some (.lst n))(h':H' st=some (.lst n')):Lk H H':=λb o hb=>by
 by_cases q:b=st
 .subst q;rw[h]at hb;cases hb;exact .inr<|lc n n' ⟨rfl,h'⟩
 .exact .inl<|e.at q hb
theorem yq{n:Nat}{H:Hp}{z:Str}(h:Tx z):KnN n H (.str z):=by
 cases n with
 | zero=>exact .inr (.inr<|.inr<|.inl ⟨z,rfl,h⟩)
 | succ n=>exact⟨.inr<|.inr<|.inr<|.inl ⟨z,rfl,h⟩,λa xs e=>by cases e⟩
theorem E3{n:Nat}{H:Hp}(i:Int):KnN n H (.int i):=by
 cases n with
 | zero=>exact .inr (.inr<|.inl ⟨i,rfl⟩)
 | succ n=>exact⟨.inr<|.inr<|.inl ⟨i,rfl⟩,λa xs e=>by cases e⟩
theorem ars{n:Nat}{H:Hp}:KnN n H .non:=by
 cases n with
 | zero=>exact .inl rfl
 | succ n=>exact⟨.inl rfl,λa xs e=>by cases e⟩
def yv{n:Nat}{H:Hp}{a:aE}{xs:U V}(ha:H a=some (.tup xs))(hl:xs.length<=60)(h:∀x∈xs,KnN n H x):KnN (n+1) H (.ref a):=
 ⟨.inr<|.inr<|.inr<|.inr ⟨a,rfl,.inr<|.inl ⟨xs,ha⟩⟩,λb ys e hb=>by cases e;rw[ha]at hb;cases hb;exact⟨hl,h⟩⟩
theorem amt{H:Hp}:∀{ds:U Z9} {xs:U V},RepAll H ds xs->(∀d∈ds,SgD d)->∀y∈xs,KnN 2 H y/\∃c,y=.ref c
 | [],xs,r,_,y,hy=>by cases (show xs=[]from r);cases hy
 | d::ds,xs,r,h,y,hy=>by
  obtain⟨x,ys,rfl,r1,r2⟩:=r;rcases ar.mp hy with rfl|hy
  .obtain⟨p,q,k,rfl,k1,k2⟩:=h d am;obtain⟨a,xs,rfl,ha,v1,_,rfl,e1,v2,_,rfl,e2,v3,_,rfl,⟨e3,_⟩,e⟩:=r1;cases (show v1=.int p from e1);cases (show v2=.int q from e2);cases e3;cases e;refine⟨yv ha (by show 3<=60;lia) λz hz=>?_,_,rfl⟩;simp only[ar,dz,or_false]at hz;rcases hz with rfl|rfl|rfl
   .exact E3 p
   .exact E3 q
   .exact yq<|tx1<|by lia
  .exact amt r2 (λe he=>h e<|ao _ he) y hy
def Rw(sg:Str)(zs:U Str):Prop:=0<zs.length/\zs.length<=8/\∃wd,0<wd/\wd<=8/\∀z∈zs,Tx z/\z.length=wd/\∀c∈z.cps.toList,c∈sg.cps.toList
def amu:Sp:=λvs H Q _=>∃(st:aE)(n:U V)(sg:Str),vs=[.ref st,.int 8,.str sg]/\H st=some (.lst n)/\StL n/\Tx sg/\0<sg.length/\
 ∀(p:aE)(zs:U Str)(H':Hp)(n':U V),H p=none->Ex [st] H H'->H' st=some (.lst n')->StL n'->H' p=some (.tup<|zs.map V.str)->Rw sg zs->Q (.ref p) H'
def scFloor:lq ["_law_state_here","_law_most","_law_signs_here","_law_high","_law_wide","_law_rows","_law_row"] ZG (k9 IJ):={}
theorem ao2(B:∀x∈sw,mg x=none)(bJ:yc P w K mg base)(F:Fun K "_law_floor" "_law_floor" IJ f fd):qp P w K mg base CX0 2 f fd ZG amu:=by
 refine F.ok (k:=1) scFloor (λvs H Q E h=>?_) λbT A outer s H vs Q E hr h=>?_
 .obtain⟨st,n,sg,rfl,_⟩:=h;rfl
 obtain⟨st,n,sg,rfl,bS,hn,lK,hsg0,q⟩:=h;refine⟨_,(kl (me (i:=3) scFloor.nd rfl (Or.inl rfl)<|nc o9 km<|lv bJ hr (by decide) rfl<|kq (pv 0)<|kq (pv 1) kh)
  (kl (me (i:=4) scFloor.nd rfl (Or.inl rfl)<|nc o9 km<|lv bJ hr (by decide) rfl<|kq (pv 0)<|kq (pv 1) kh)
  (kl (me (i:=5) scFloor.nd rfl (Or.inl rfl)<|pj kh)
  (kl (ut fq rfl (zm rfl (B "range"<|by decide)<|kq (pv 3) kh) (k7 (i:=6) scFloor.nd rfl<|Or.inl rfl)<|ku<|vy<|rh gn ge gf qk (pv 5)<|kq (rh bw dv dw uf l7<|kq (mr ZA [none,some 2,some 0] rfl rfl (by decide +kernel) (by decide +kernel) rfl rfl (zm rfl (B "range"<|by decide)<|kq (pv 4) kh) (λ_=>(k7 (i:=0) (show(ZA:U PySem.Str).Nodup by decide +kernel) rfl<|Or.inl rfl)) (λ_=>ma) λ_=>(mi AM (pv 1) (lv bJ hr (by decide) rfl<|kq (pv 2)<|kq (mj nq rfl (B "len"<|by decide) cb<|kq (pv 1) kh) kh) λ_ _=>rfl)) kh) kh)
  (ku<|li<|vx oa rfl (B "tuple"<|by decide) ik<|kq (pv 5) kh))))),?_⟩
 refine(oh _ rfl _ rfl st n 8 ⟨rfl,bS,hn,by decide,by decide,λn1 i1 jU Aq h11=>(lc _ _ ⟨rfl,rfl,?_⟩)⟩);have jM:upd H st (.lst n1) st=some (.lst n1):=kr;have pW:Ex [st] H (upd H st<|.lst n1):=Ex.upd (by simp);generalize upd H st (.lst n1)=H1 at *;refine(oh _ rfl _ rfl st n1 8 ⟨rfl,jM,jU,by decide,by decide,λn2 i2 lP Ei h21=>(lc _ _ ⟨rfl,rfl,?_⟩)⟩);have eY:upd H1 st (.lst n2) st=some (.lst n2):=kr;have oW:Ex [st] H (upd H1 st<|.lst n2):=pW.trans (Ex.upd<|by simp);generalize upd H1 st (.lst n2)=H2 at *;refine⟨sZ0,λr k5=>?_⟩;have nr:r≠st:=λe=>by rw[e,eY]at k5;cases k5
 have DU:H r=none:=by
  cases z:H r with
  | none=>rfl
  | some o=>have z':=oW r o (by simpa using nr) z;rw[z']at k5;cases k5
 have eU:upd H2 r (.lst []) st=some (.lst n2):=by rw[lg (Ne.symm nr)];exact eY
 have r3:upd H2 r (.lst []) r=some (.lst []):=kr;have pV:Ex [st] H (upd H2 r<|.lst []):=oW.trans<|Ex.fresh k5;generalize upd H2 r (.lst [])=H3 at *;obtain⟨hi,rfl⟩:∃hi:Nat,i1=hi:=cn Aq;obtain⟨wi,rfl⟩:∃wi:Nat,i2=wi:=cn Ei;refine(mm _ rfl _ ⟨rfl,?_,?_,?_⟩)
 .lia
 .lia
 refine so (lo:=0) (λi σ' H'=>∃(y6:Option V)(n:U V)(zs:U Str),σ'=[some (.ref st),some<|.int 8,some<|.str sg,some<|.int<|1+hi,some<|.int<|1+wi,some<|.ref r,y6]/\Ex [st,r] H H'/\H' st=some (.lst n)/\StL n/\H' r=some (.lst<|zs.map V.str)/\zs.length=i/\∀z∈zs,Tx z/\z.length=1+wi/\∀c∈z.cps.toList,c∈sg.cps.toList) ?_ (λi σ' H' eT h=>?_) λσ' H' h=>?_
 .exact(mf _ n2 ([]) ⟨rfl,λb o hb h0=>pV b o (λz=>hb<|by simp[ay.mp z]) h0,eU,lP,r3,rfl,λz hz=>by cases hz⟩)
 .obtain⟨y6,n4,zs,rfl,oV,b0,tE,r4,BM,jP⟩:=h;refine⟨_,rfl,.inl ⟨rfl,_,SqL.of r4⟩,rfl,?_⟩;refine(mm _ rfl _ ⟨rfl,?_,?_,?_⟩)
  .lia
  .lia
  intro D hD;have nD:D≠st:=λe=>by rw[e,b0]at hD;cases hD
  have nDr:D≠r:=λe=>by rw[e,r4]at hD;cases hD
  refine sk (lo:=0) (λj ys H5=>∃(n5:U V)(ws:U Str),Ex [st,D] H' H5/\H5 st=some (.lst n5)/\StL n5/\ys=ws.map V.str/\ws.length=j/\(∀w∈ws,w.length=1/\Tx w)/\∀w∈ws,∀c∈w.cps.toList,c∈sg.cps.toList) ?_ (λj ys H5 hj aV bG p=>?_) λys H5 aV bG p=>?_
  .exact(lc n4 ([]) ⟨Ex.fresh hD,by rw[lg (Ne.symm nD)];exact b0,tE,rfl,rfl,(λw hw=>by cases hw),λw hw=>by cases hw⟩)
  .obtain⟨n5,ws,nX,hG,uN,rfl,BL,Bj,F0⟩:=p;refine⟨Agree.set (Agree.refl _) rfl,?_⟩;dsimp only[uw];refine oo ?_;refine(ul _ rfl _ rfl _ ⟨rfl,(m9 sg rfl (ua lK) st<|lc n5 _ ⟨rfl,hG,uN,by lia,by have:=lK.1;lia,λn6 i6 oO pU h61=>?_⟩)⟩);obtain⟨j6,rfl⟩:=cn pU;have D8:j6<sg.cps.toList.length:=by
    have:=kY sg;lia
   refine(mf sg _ (sg.cps.toList[j6]) ⟨rfl,rfl,ua lK,ni<|af D8,?_⟩);refine ny (by lia) (by rw[lg nD];exact aV) bG<|lc n6 (ws++[⟨#[sg.cps.toList[j6]]⟩]) ⟨(nX.trans<|Ex.upd<|by simp).trans (Ex.upd<|by simp),?_,oO,by rw[bb];rfl,by simp[BL],λw hw=>?_,λw hw c hc=>?_⟩
   .rw[lg (Ne.symm nD)];exact kr
   .rcases bm.mp hw with h|h
    .exact Bj w h
    .rw[ay.mp h];refine⟨rfl,by show 1<=80;lia,λc hc=>?_⟩;have e:c=sg.cps.toList[j6]:=by simpa using hc
     rw[e];exact lK.2 _<|fk D8
   .rcases bm.mp hw with h|h
    .exact F0 w h c hc
    .rw[ay.mp h]at hc;have e:c=sg.cps.toList[j6]:=by simpa using hc
     rw[e];exact fk D8
  .obtain⟨n5,ws,nX,hG,uN,rfl,BL,Bj,F0⟩:=p;have fU:=cz (B:=1) ws λy hy=>Nat.le_of_eq (Bj y hy).1;obtain⟨tj,lj⟩:=Tx.join (g:=ab "") (by decide +kernel) (λy hy=>(Bj y hy).1) (λy hy=>(Bj y hy).2) (by lia);have e0:(ab "").length=0:=by decide +kernel
   refine(mf _ D ws ⟨rfl,rfl,aV,by rw[e0];lia,?_⟩);have r5:H5 r=some (.lst<|zs.map V.str):=nX _ _ (by simp[nr,Ne.symm nDr]) r4;refine(mf r (zs.map V.str) _ ⟨rfl,rfl,r5,lu<|by rw[ae];lia,?_⟩);refine(mf _ n5 (zs++[Txt.join (ab "") ws]) ⟨rfl,?_,?_,uN,?_,by simp[BM],λz hz=>?_⟩)
   .intro b o hb h0;have h1:=oV b o hb h0;have nb:b≠D:=λe=>by rw[e,hD]at h1;cases h1
    have fL:b≠st/\b≠r:=by simpa using hb
    have h2:=nX b o (by simp[fL.1,nb]) h1;rw[lg fL.2];exact h2
   .rw[lg (Ne.symm nr)];exact hG
   .rw[bb];exact kr
   .rcases bm.mp hz with h|h
    .exact jP z h
    .rw[ay.mp h];refine⟨tj,by lia,λc hc=>?_⟩;rw[qy (by decide +kernel)]at hc;obtain⟨l,hl,lS⟩:=List.mem_flatten.mp hc;obtain⟨w,hw,rfl⟩:=a7.mp hl;exact F0 w hw c lS
 .obtain⟨y6,n4,zs,rfl,oV,b0,tE,r4,BM,jP⟩:=h;refine(nk _ rfl r (zs.map V.str) ⟨rfl,.inl ⟨SqL.of r4,λp hp=>?_⟩⟩);have np:p≠st:=λe=>by rw[e,b0]at hp;cases hp
  have npr:p≠r:=λe=>by rw[e,r4]at hp;cases hp
  refine q p zs _ n4 ?_ ?_ ?_ tE kr ⟨by lia,by lia,1+wi,by lia,by lia,jP⟩
  .cases z:H p with
   | none=>rfl
   | some o=>have z':=oV p o (by simp[np,npr]) z;rw[z']at hp;cases hp
  .intro b o hb h0;have nb:b≠r:=λe=>by rw[e,DU]at h0;cases h0
   have pL:b≠st:=by simpa using hb
   have h1:=oV b o (by simp[nb,pL]) h0;rw[lg (mw h1 hp)];exact h1
  .rw[lg (Ne.symm np)];exact b0
def txL{z:Str}(h:z.length<=80/\z.cps.toList.all (· < 128)=true):Tx z:=⟨h.1,λc hc=>by simpa using bz.mp h.2 c hc⟩
def tQ{H:Hp}{st p:aE}{o:HO}(bS:H st=some o)(hp:H p=none):p≠st:=λe=>by rw[e,bS]at hp;cases hp
def vv{H:Hp}{st p:aE}{n n':U V}{o:HO}(bS:H st=some (.lst n))(hp:H p=none) :
  (upd (upd H p o) st<|.lst n') p=some o/\Ex [st] H (upd (upd H p o) st<|.lst n')/\(upd (upd H p o) st<|.lst n') st=some (.lst n'):=
 ⟨by rw[lg (tQ bS hp)];exact kr,(Ex.fresh hp).trans (Ex.upd<|by simp),kr⟩
def ze{H:Hp}{st p:aE}{n:U V}{o:HO}(bS:H st=some (.lst n))(hp:H p=none):upd H p o st=some (.lst n):=by rw[lg (Ne.symm<|tQ bS hp)];exact bS
def KdV(z:Str)(d:Z9):Prop:=∃(l:Int)(m:Z9)(md:Str)(es:U Z9),d=.tuple [.str z,.int l,m,.str md,.tuple es]/\0<=l/\l<=64/\(m=.none\/∃j,m=.int j/\l<=j/\j<=64)/\tN md=true/\Frm es
def akj{es:U Z9}(h:Frm es):imm (.tuple es)=true:=Spots.imm h.1.pre.spots
def AI{st:aE}{H H':Hp}{n:U V}(e:Ex [st] H H')(h:H st=some (.lst n)):Tk H H':=e.tk λb hb=>by rw[ay.mp hb];exact⟨_,h⟩
def als:Sp:=λvs H Q _=>∃(st:aE)(n:U V)(z:Str),vs=[.ref st,.str z,.int 6]/\H st=some (.lst n)/\StL n/\Tx z/\z.length<=8/\∀(p:aE)(H':Hp)(n':U V)(d:Z9),Ex [st] H H'->H' st=some (.lst n')->StL n'->KdV z d->Rep H' d (.ref p)->Q (.ref p) H'
def scLkind:lq ["_law_state_here","_law_name","_law_most","_law_form","_law_least","_law_top"] ZF (k9 IX):={}
def anj(B:∀x∈sw,mg x=none)(bJ:yc P w K mg base)(Du:Fn P w K mg base "_law_drawn_form" 3 ZY ajq)
  (F:Fun K "_law_kind" "_law_kind" IX f fd):qp P w K mg base CX0 4 f fd ZF als:=by
 refine F.ok (k:=3) scLkind (λvs H Q E h=>?_) λbT A outer s H vs Q E hr h=>?_
 .obtain⟨st,n,z,rfl,_⟩:=h;rfl
 obtain⟨st,n,z,rfl,bS,hn,hz,hz8,q⟩:=h;refine⟨_,(kl (me (i:=3) scLkind.nd rfl (Or.inl rfl)<|lv Du hr (by decide) rfl<|kq (pv 0)<|kq (pv 2) kh)
  (kl (me (i:=4) scLkind.nd rfl (Or.inl rfl)<|mi nv (pj<|kq km<|kq km<|kq km<|kq km<|kq km kh) (lv bJ hr (by decide) rfl<|kq (pv 0)<|kq km kh) λ_ _=>rfl)
  (kl (me (i:=5) scLkind.nd rfl (Or.inl rfl)<|mi nv (pj<|kq CQ<|kq (pv 4)<|kq (mj (adl rfl) rfl (B "min"<|by decide) iD<|kq km<|kq (nc o9 (pv 4)<|lv bJ hr (by decide) rfl<|kq (pv 0)<|kq km kh) kh)<|kq km kh) (lv bJ hr (by decide) rfl<|kq (pv 0)<|kq km kh) λ_ _=>rfl)
  (ku<|li<|o6<|kq (pv 1)<|kq (pv 4)<|kq (pv 5)<|kq (mi nv (pj<|kq l7<|kq l7<|kq l7 kh) (lv bJ hr (by decide) rfl<|kq (pv 0)<|kq km kh) λ_ _=>rfl)<|kq (pv 3) kh)))),?_⟩
 refine(tf _ rfl _ rfl st n ⟨rfl,bS,hn,λr H1 n1 ds pW jM jU zr xN=>?_⟩);have fr:=Frm.of zr;have im:=akj fr;generalize qf ds=es at *;refine⟨sZ5,λp hp=>?_⟩;refine(oj _ rfl st n1 5 ⟨rfl,ze jM hp,jU,by decide,by decide,λn2 i2 lP Ei h25=>?_⟩);obtain⟨x,hx,hm⟩:=zC (α:=V) (xs:=[V.int 0,V.int 0,V.int 1,V.int 2,V.int 64]) Ei h25;have hs:∃l,x=.int l/\0<=l/\l<=64:=by simp only[ar,dz,or_false]at hm;rcases hm with rfl|rfl|rfl|rfl|rfl<;>exact⟨_,rfl,by decide,by decide⟩
 obtain⟨l,rfl,l0,l64⟩:=hs;obtain⟨oK,oW,eY⟩:=vv (o:=.lst [V.int 0,V.int 0,V.int 1,V.int 2,V.int 64]) (n':=n2) jM hp;refine(my p _ i2 _ ⟨rfl,rfl,SqL.of oK,hx,?_⟩);have yY:=pW.trans oW;have oH:=xN.tk (AI oW jM) im;generalize upd (upd H1 p _) st _=H2 at *;refine(uv _ rfl _ rfl _ rfl st n2 ⟨9,rfl,eY,lP,by decide,by decide,λn3 i3 qV Eh h39=>(an8 _ _ rfl rfl _ _ ⟨rfl,sZ4,λp3 lh=>?_⟩)⟩);have eU:upd H2 st (.lst n3) st=some (.lst n3):=kr;have pV:Ex [st] H2 (upd H2 st<|.lst n3):=Ex.upd (by simp);have yX:=yY.trans pV;have gH:=oH.tk (AI pV eY) im;generalize upd H2 st _=H3 at *;refine(oj _ rfl st n3 4 ⟨rfl,ze eU lh,qV,by decide,by decide,λn4 i4 tE Ci h44=>?_⟩);obtain⟨m,hm4,D0⟩:=zC (α:=V) (xs:=[V.non,V.int l,V.int (if l+i3<64 then l+i3 else 64),V.int 64]) Ci h44;have hmt:∃mD:Z9,(mD=.none\/∃j,mD=.int j/\l<=j/\j<=64)/\∀H,Rep H mD m:=by
  simp only[ar,dz,or_false]at D0;rcases D0 with rfl|rfl|rfl|rfl
  .exact⟨.none,.inl rfl,λ_=>rfl⟩
  .exact⟨.int l,.inr ⟨_,rfl,by lia,by lia⟩,λ_=>rfl⟩
  .exact⟨.int _,.inr ⟨_,rfl,by split<;>lia,by split<;>lia⟩,λ_=>rfl⟩
  .exact⟨.int 64,.inr ⟨_,rfl,by lia,by lia⟩,λ_=>rfl⟩
 obtain⟨mD,hmD,hmR⟩:=hmt;obtain⟨xZ,oV,b0⟩:=vv (o:=.lst [V.non,V.int l,V.int (if l+i3<64 then l+i3 else 64),V.int 64]) (n':=n4) eU lh;refine(my p3 _ i4 _ ⟨rfl,rfl,SqL.of xZ,hm4,?_⟩);have yW:=yX.trans oV;have xM:=gH.tk (AI oV eU) im;generalize upd (upd H3 p3 _) st _=H4 at *;refine(ul _ rfl _ rfl _ ⟨rfl,sZ3,λp5 DW=>?_⟩);refine(oj _ rfl st n4 3 ⟨rfl,ze b0 DW,tE,by decide,by decide,λn5 i5 uN h50 h53=>?_⟩);obtain⟨mo,Gp,BI⟩:=zC (α:=V) (xs:=[V.str "still",V.str "turn",V.str "flip"]) h50 h53;have Go:∃y,mo=.str y/\Tx y/\tN y=true:=by simp only[ar,dz,or_false]at BI;rcases BI with rfl|rfl|rfl<;>exact⟨_,rfl,txL<|by decide +kernel,by decide +kernel⟩
 obtain⟨y,rfl,hy,hy1⟩:=Go;obtain⟨hp6,nX,hG⟩:=vv (o:=.lst [V.str "still",V.str "turn",V.str "flip"]) (n':=n5) b0 DW;refine(my p5 _ i5 _ ⟨rfl,rfl,SqL.of hp6,Gp,?_⟩);have rR:=yW.trans nX;have jN:=xM.tk (AI nX b0) im;generalize upd (upd H4 p5 _) st _=H5 at *;refine⟨_,rfl,sZ5,λt ht=>?_⟩;have s6:Same H5 (upd H5 t<|.tup [.str z,.int l,m,.str y,.ref r]):=Same.fresh _ ht;refine q t _ n5 _ (rR.trans<|Ex.of_same s6) (s6 _ _ hG) uN (my l mD y es ⟨rfl,l0,l64,hmD,hy1,fr⟩) ?_;exact(ou t _ rfl kr _ _ rfl ⟨rfl,hz.ok⟩ _<|m9 _ rfl rfl _<|m9 _ rfl (hmR _) _<|m9 _ rfl ⟨rfl,hy.ok⟩ _ ⟨_,rfl,jN.same s6,rfl⟩)
noncomputable def prD(x y:Nat):Z9:=.tuple [.str ⟨#[x]⟩,.str ⟨#[y]⟩]
theorem IG:∀{ds:U Z9},(∀d∈ds,PrD d)->qd ds=true
 | [],_=>rfl
 | d::ds,h=>by obtain⟨x,y,rfl,_⟩:=h d am;show(imm _&&qd ds)=true;rw[IG λe he=>h e<|ao _ he];rfl
def apy{H:Hp}{t:aE}{x y:Nat}(ht:H t=some (.tup [.str ⟨#[x]⟩,.str ⟨#[y]⟩]))(hx:x<128)(hy:y<128):Rep H (prD x y) (.ref t):=
 (ou t _ rfl ht _ _ rfl ⟨rfl,(tx1 hx).ok⟩ _ ⟨_,rfl,⟨rfl,(tx1 hy).ok⟩,rfl⟩)
def PrS(ds:U Z9):Prop:=(∀d∈ds,PrD d)/\ds.Pairwise (λx y=>prN x<prN y)/\ds.length<=3
def ahh:Sp:=λvs H Q _=>∃(st:aE)(n:U V),vs=[.ref st]/\H st=some (.lst n)/\StL n/\∀(p:aE)(H':Hp)(n':U V)(ds:U Z9),Ex [st] H H'->H' st=some (.lst n')->StL n'->PrS ds->Rep H' (.tuple ds) (.ref p)->Q (.ref p) H'
def scLpairs:lq ["_law_state_here","_law_some","_law_k","_law_one","_law_other"] Z5 (k9 Ji):={}
def aj5(B:∀x∈sw,mg x=none)(bJ:yc P w K mg base)
  (F:Fun K "_law_pairs" "_law_pairs" Ji f fd):qp P w K mg base CX0 2 f fd Z5 ahh:=by
 refine F.ok (k:=1) scLpairs (λvs H Q E h=>?_) λbT A outer s H vs Q E hr h=>?_
 .obtain⟨st,n,rfl,_⟩:=h;rfl
 obtain⟨st,n,rfl,bS,hn,q⟩:=h;have hu:=hr.units;refine⟨_,(kl (me (i:=1) scLpairs.nd rfl (Or.inl rfl)<|pj kh)
  (kl (ut fq rfl (zm rfl (B "range"<|by decide)<|kq (lv bJ hr (by decide) rfl<|kq (pv 0)<|kq km kh) kh) (k7 (i:=2) scLpairs.nd rfl<|Or.inl rfl) (kl (me (i:=3) scLpairs.nd rfl (Or.inl rfl)<|mi AM l7 (lv bJ hr (by decide) rfl<|kq (pv 0)<|kq km kh) λ_ _=>rfl)
  (kl (me (i:=4) scLpairs.nd rfl (Or.inl rfl)<|mi AM l7 (lv bJ hr (by decide) rfl<|kq (pv 0)<|kq km kh) λ_ _=>rfl)
  (ku<|qm (ot (xk hu) (o6<|kq (mj (abu rfl) rfl (B "min"<|by decide) iD<|kq (pv 3)<|kq (pv 4) kh)<|kq (mj (ab4 rfl) rfl (B "max"<|by decide) iE<|kq (pv 3)<|kq (pv 4) kh) kh) (pv 1) rfl) (ku<|vy<|rh gn ge gf qk (pv 1)<|kq (o6<|kq (mj (abu rfl) rfl (B "min"<|by decide) iD<|kq (pv 3)<|kq (pv 4) kh)<|kq (mj (ab4 rfl) rfl (B "max"<|by decide) iE<|kq (pv 3)<|kq (pv 4) kh) kh) kh) ng))))
  (ku<|li<|vx oa rfl (B "tuple"<|by decide) ik<|kq (mj ae0 rfl (B "sorted"<|by decide) lV<|kq (pv 1) kh) kh))),?_⟩
 refine⟨sZ0,λr k5=>?_⟩;have nr:=tQ bS k5;refine(oj _ rfl st n 4 ⟨rfl,ze bS k5,hn,by decide,by decide,λn1 i1 jU Aq h14=>⟨_,rfl,by lia,by lia,?_⟩⟩);obtain⟨r1,pW,jM⟩:=vv (o:=.lst []) (n':=n1) bS k5;generalize upd (upd H r<|.lst []) st (.lst n1)=H1 at *;have qN:∀i:Int,0<=i->i<5->∃c:Nat,atI (ab "ABQYZ").cps.toList i=some c/\65<=c/\c<=90:=λi h0 h5=>by obtain⟨c,hc,hm⟩:=zC (α:=Nat) (xs:=(ab "ABQYZ").cps.toList) h0 (by show i<5;exact h5);exact⟨c,hc,(show ∀c∈(ab "ABQYZ").cps.toList,65<=c/\c<=90 by decide +kernel) c hm⟩
 have eS:(ab "ABQYZ").length<=aF:=ua (txL<|by decide +kernel);refine so (lo:=0) (λi σ' H'=>∃(y2 y3 y4:Option V)(n:U V)(ds:U Z9)(ys:U V),σ'=[some (.ref st),some<|.ref r,y2,y3,y4]/\Ex [st,r] H1 H'/\H' st=some (.lst n)/\StL n/\H' r=some (.lst ys)/\RepAll H' ds ys/\(∀d∈ds,PrD d)/\ds.Nodup/\ds.length<=i) ?_ (λi σ' H' eT h=>?_) λσ' H' h=>?_
 .exact(lr _ _ _ n1 ([]) ⟨[],rfl,Ex.refl _ _,jM,jU,r1,rfl,(λd hd=>by cases hd),List.nodup_nil,aq _⟩)
 .obtain⟨y2,y3,y4,n2,ds,ys,rfl,oW,eY,lP,r2,oH,Ad,DN,jE⟩:=h;have im2:=IG Ad;have hly:=oH.length;refine(oj _ rfl st n2 5 ⟨rfl,eY,lP,by decide,by decide,λn3 i3 qV Eh h35=>?_⟩);obtain⟨c3,hc3,t3⟩:=qN i3 Eh h35;refine(mf _ _ c3 ⟨rfl,rfl,eS,hc3,?_⟩);have eU:upd H' st (.lst n3) st=some (.lst n3):=kr;have r3:upd H' st (.lst n3) r=some (.lst ys):=by rw[lg nr];exact r2
  have gH:RepAll (upd H' st<|.lst n3) ds ys:=oH.tk (Tk.lst eY) im2;have pV:Ex [st,r] H1 (upd H' st<|.lst n3):=oW.trans (Ex.upd<|by simp);generalize upd H' st (.lst n3)=H3 at *;refine(oj _ rfl st n3 5 ⟨rfl,eU,qV,by decide,by decide,λn4 i4 tE Ci h45=>?_⟩);obtain⟨c4,hc4,t4⟩:=qN i4 Ci h45;refine(mf _ _ c4 ⟨rfl,rfl,eS,hc4,?_⟩);have b0:upd H3 st (.lst n4) st=some (.lst n4):=kr;have r4:upd H3 st (.lst n4) r=some (.lst ys):=by rw[lg nr];exact r3
  have xM:RepAll (upd H3 st<|.lst n4) ds ys:=gH.tk (Tk.lst eU) im2;have oV:Ex [st,r] H1 (upd H3 st<|.lst n4):=pV.trans (Ex.upd<|by simp);generalize upd H3 st (.lst n4)=H4 at *;have x1:iQ c3 c4<128:=by lia
  have x2:qL c3 c4<128:=by lia
  have prd:PrD (prD (iQ c3 c4)<|qL c3 c4):=(lc _ _ ⟨rfl,by lia,by lia,by lia⟩);refine(tf _ rfl _ rfl c3 c4 ⟨rfl,(tf _ rfl _ rfl c3 c4 ⟨rfl,sZ2,λt ht=>?_⟩)⟩);have s5:Same H4 (upd H4 t<|.tup [.str ⟨#[iQ c3 c4]⟩,.str ⟨#[qL c3 c4]⟩]):=Same.fresh _ ht;have rp5:=apy (H:=upd H4 t<|.tup [.str ⟨#[iQ c3 c4]⟩,.str ⟨#[qL c3 c4]⟩]) kr x1 x2;have hG:=s5 _ _ b0;have r5:=s5 _ _ r4;have jN:=xM.same s5;have nX:=oV.trans<|Ex.of_same (W:=[st,r]) s5;generalize upd H4 t (.tup [.str ⟨#[iQ c3 c4]⟩,.str ⟨#[qL c3 c4]⟩])=H5 at *;refine(kj _ rfl (prD (iQ c3 c4)<|qL c3 c4) r ys ds ⟨rp5,rfl,.inl r5,jN,by simp[prD,er,ba],_,rfl,?_⟩);refine ur (λhni=>?_) λ_=>?_
  .have hnm:prD (iQ c3 c4) (qL c3 c4)∉ds:=λhm=>by
    have GX:(ds.any λe=>c7 e<|prD (iQ c3 c4)<|qL c3 c4)=true:=List.any_eq_true.mpr ⟨_,hm,SeqAt.eqv_refl _ rp5.lay⟩;simp[GX]at hni
   refine(m9 _ rfl (.inl ⟨rfl,_,SqL.of r5⟩) _ ⟨rfl,(nk _ rfl c3 c4 ⟨rfl,(tf _ rfl _ rfl c3 c4 ⟨rfl,sZ2,λt2 oI=>?_⟩)⟩)⟩);have s6:Same H5 (upd H5 t2<|.tup [.str ⟨#[iQ c3 c4]⟩,.str ⟨#[qL c3 c4]⟩]):=Same.fresh _ oI;have Fq:=apy (H:=upd H5 t2<|.tup [.str ⟨#[iQ c3 c4]⟩,.str ⟨#[qL c3 c4]⟩]) kr x1 x2;have oG:=s6 _ _ hG;have r6:=s6 _ _ r5;have iJ:=jN.same s6;have tK:=nX.trans<|Ex.of_same (W:=[st,r]) s6;generalize upd H5 t2 (.tup [.str ⟨#[iQ c3 c4]⟩,.str ⟨#[qL c3 c4]⟩])=H6 at *;refine(mf r ys (.ref t2) ⟨rfl,rfl,r6,lu<|by lia,?_⟩);have pp7:∀d∈ds++[prD (iQ c3 c4) (qL c3 c4)],PrD d:=λd hd=>by
    rcases bm.mp hd with h|h
    .exact Ad d h
    .rw[ay.mp h];exact prd
   exact⟨_,_,_,n4,ds++[prD (iQ c3 c4) (qL c3 c4)],ys++[.ref t2],rfl,tK.trans<|Ex.upd<|by simp,by rw[lg (Ne.symm nr)];exact oG,tE,kr,(iJ.snoc Fq).tk (Tk.lst r6) (IG pp7),pp7,
    List.nodup_append.mpr ⟨DN,by simp,λa ha b hb e=>by rw[ay.mp hb]at e;exact hnm<|e▸ha⟩,by rw[bn,et];lia⟩
  .exact(lr _ _ _ n4 ds ⟨ys,rfl,nX,hG,tE,r5,jN,Ad,DN,by lia⟩)
 .obtain⟨y2,y3,y4,n2,ds,ys,rfl,oW,eY,lP,r2,oH,Ad,DN,jE⟩:=h;refine(kj _ rfl r ys ds ([false]) ⟨rfl,r2,oH,aki Ad,λl zs es hl perm up Ft=>(lc l zs ⟨rfl,.inl ⟨SqL.of kr,λl2 yJ=>?_⟩⟩)⟩);have s3:Same H' (upd H' l<|.lst zs):=Same.fresh _ hl;have s4:Same (upd H' l<|.lst zs) (upd (upd H' l<|.lst zs) l2<|.tup zs):=Same.fresh _ yJ;have s34:=s3.trans s4;have AZ:∀d∈es,PrD d:=λd hd=>Ad d<|perm.mem_iff.mp hd;have pE:=perm.length_eq;have ndE:es.Nodup:=perm.nodup_iff.mpr DN;refine q l2 _ n2 es ?_ (s34 _ _ eY) lP ⟨AZ,?_,by lia⟩<|lc l2 zs ⟨rfl,kr,Ft.same s4⟩
  .intro b o hb h0;have nb:b≠r:=mw h0 k5;have pL:b≠st:=by simpa using hb
   exact s34 _ _<|oW b o (by simp[nb,pL])<|pW b o hb h0
  .refine gx (λ{a b} ha hb lT=>?_)<|List.pairwise_and_iff.mpr ⟨up,ndE⟩;have h1:=lT.1;rw[ap5 (AZ b hb) (AZ a ha)]at h1;have h2:=of_decide_eq_false h1;have h3:prN a≠prN b:=λe=>lT.2<|ak2 (AZ a ha) (AZ b hb) e;lia
def NmV(z:Str):Prop:=Tx z/\sO (.str z)=true
def aur{z:Str}(t:Tx z)(h1:1<=z.length)(h8:z.length<=8)(h:∀c∈z.cps.toList,smB c=true):NmV z:=⟨t,by
 show(decide (1<=z.length)&&decide (z.length<=8)&&z.cps.toList.all smB)=true;rw[decide_eq_true h1,decide_eq_true h8,bz.mpr h];rfl⟩
def abz{α:Type}{zs:U Str}{mk:Str->α}{val:Nat->α}(hl:zs.length=6)(h:∀(k:Nat)(z:Str),zs[k]?=some z->mk z=val k)(inj:∀i j,i<6->j<6->val i=val j->i=j):zs.Nodup:=by refine eu.mpr λi j hi hj cA e=>?_;have h1:=h i _<|af hi;have h2:=h j _<|af hj;rw[e,h2]at h1;have:=inj j i (by lia) (by lia) h1;lia
def azj:∀n,n<26->(ab "abcdefghijklmnopqrstuvwxyz").cps.toList[n]?=some (97+n):=by decide +kernel
def aqu{e:Int}(h0:0<=e)(h1:e<26):atI (ab "abcdefghijklmnopqrstuvwxyz").cps.toList e=some (97+e.toNat):=by obtain⟨n,rfl⟩:=cn h0;exact ni<|by rw[azj n (by lia)];rfl
def ahm(wd:Str)(c:Nat):(wd++(⟨#[c]⟩:Str)).cps.toList=wd.cps.toList++[c]:=by show(wd.cps ++ #[c]).toList=_;simp
def an9{b s:Int}(h0:0<=s)(h5:s<5){i j:Nat}(hi:i<6)(hj:j<6)(e:97+((b+(1+s)*(i:Int)) % 26).toNat=97+((b+(1+s)*(j:Int)) % 26).toNat):i=j:=by
 have hs:s=0\/s=1\/s=2\/s=3\/s=4:=by lia
 rcases hs with rfl|rfl|rfl|rfl|rfl<;>lia
def ahn:Sp:=λvs H Q _=>∃(st:aE)(n:U V),vs=[.ref st]/\H st=some (.lst n)/\StL n/\∀(p:aE)(zs:U Str)(H':Hp)(n':U V),H p=none->Ex [st] H H'->H' st=some (.lst n')->StL n'->H' p=some (.lst<|zs.map V.str)->zs.length=6->(∀z∈zs,NmV z)->zs.Nodup->Q (.ref p) H'
def scLnames:lq ["_law_state_here","_law_letters","_law_size","_law_base","_law_spot","_law_step","_law_names_here","_law_k","_law_word","_law_place","_law_shift"] Z5 (k9 Jp):={}
theorem aju(B:∀x∈sw,mg x=none)(bJ:yc P w K mg base)
  (F:Fun K "_law_names" "_law_names" Jp f fd):qp P w K mg base CX0 2 f fd Z5 ahn:=by
 refine F.ok (k:=1) scLnames (λvs H Q E h=>?_) λbT A outer s H vs Q E hr h=>?_
 .obtain⟨st,n,rfl,_⟩:=h;rfl
 obtain⟨st,n,rfl,bS,hn,q⟩:=h;refine⟨_,(kl (me (i:=1) scLnames.nd rfl (Or.inl rfl) l7)
  (kl (me (i:=2) scLnames.nd rfl (Or.inl rfl)<|nc o9 km<|lv bJ hr (by decide) rfl<|kq (pv 0)<|kq km kh)
  (kl (sq (i:=3) ZM [none,some 0] scLnames.nd rfl (Or.inl rfl) rfl rfl rfl (by decide +kernel) (by decide +kernel) rfl rfl (zm rfl (B "range"<|by decide)<|kq (pv 2) kh) (λ_=>(k7 (i:=0) (show(ZM:U PySem.Str).Nodup by decide +kernel) rfl<|Or.inl rfl)) (λ_=>ma) λ_=>(lv bJ hr (by decide) rfl<|kq (pv 1)<|kq km kh))
  (kl (me (i:=4) scLnames.nd rfl (Or.inl rfl)<|lv bJ hr (by decide) rfl<|kq (pv 0)<|kq (pv 2) kh)
  (kl (me (i:=5) scLnames.nd rfl (Or.inl rfl)<|nc o9 km<|lv bJ hr (by decide) rfl<|kq (pv 0)<|kq km kh)
  (kl (me (i:=6) scLnames.nd rfl (Or.inl rfl)<|pj kh)
  (kl (ut fq rfl (zm rfl (B "range"<|by decide)<|kq km kh) (k7 (i:=7) scLnames.nd rfl<|Or.inl rfl) (kl (me (i:=8) scLnames.nd rfl (Or.inl rfl) l7)
  (kl (ut fq rfl (zm rfl (B "range"<|by decide)<|kq (pv 2) kh) (k7 (i:=9) scLnames.nd rfl<|Or.inl rfl) (kl (me (i:=10) scLnames.nd rfl (Or.inl rfl)<|nc C1 (nc C1 (pv 5)<|pv 7)<|vx alt rfl (B "int"<|by decide) PyProof.Rows.boot_int<|kq (on wm (pv 9) (pv 4)<|nw _) kh)
  (ku<|me (i:=8) scLnames.nd rfl (Or.inl rfl)<|nc uo (pv 8)<|mi AM (pv 1) (nc AJ (nc o9 (mi nv (pv 3) (pv 9) λ_ _=>rfl)<|pv 10) km) λ_ _=>rfl)))
  (ku<|vy<|rh gn ge gf qk (pv 6)<|kq (pv 8) kh))))
  (kl (qm (ot wm (lv bJ hr (by decide) rfl<|kq (pv 0)<|kq km kh) km<|nw _) (ku<|sq (i:=6) ["_law_k"] [none] scLnames.nd rfl (Or.inl rfl) rfl rfl rfl (by decide +kernel) (by decide +kernel) rfl rfl (zm rfl (B "range"<|by decide)<|kq km kh) (λ_=>(k7 (i:=0) (show(["_law_k"]:U PySem.Str).Nodup by decide +kernel) rfl<|Or.inl rfl)) (λ_=>ma) λ_=>(nc asz l7<|nc o9 (pv 0) km)) ng)
  (ku<|li<|pv 6))))))))),?_⟩
 refine(oj _ rfl st n 8 ⟨rfl,bS,hn,by decide,by decide,λn1 i1 jU Aq h18=>(lc _ _ ⟨rfl,rfl,?_⟩)⟩);have jM:upd H st (.lst n1) st=some (.lst n1):=kr;have pW:Ex [st] H (upd H st<|.lst n1):=Ex.upd (by simp);generalize upd H st (.lst n1)=H1 at *;obtain⟨si,rfl⟩:∃si:Nat,i1=si:=cn Aq;refine(mm _ rfl _ ⟨rfl,by lia,by lia,?_⟩);intro D hD;have nD:=tQ jM hD;refine sk (lo:=0) (λj ys H5=>∃(n5:U V)(ks:U Int),Ex [st,D] H1 H5/\H5 st=some (.lst n5)/\StL n5/\ys=ks.map V.int/\ks.length=j) ?_ (λj ys H5 hj aV bG p=>?_) λys H5 aV bG p=>?_
 .exact(lc n1 ([]) ⟨Ex.fresh hD,by rw[lg (Ne.symm nD)];exact jM,jU,rfl,rfl⟩)
 .obtain⟨n5,ks,nX,hG,uN,rfl,BL⟩:=p;refine⟨Agree.set (Agree.refl _) rfl,?_⟩;dsimp only[uw];refine oo ?_;refine(oj _ rfl st n5 26 ⟨rfl,hG,uN,by decide,by decide,λn6 i6 oO pU h61=>?_⟩);refine ny (by lia) (by rw[lg nD];exact aV) bG<|lc n6 (ks++[i6]) ⟨(nX.trans<|Ex.upd<|by simp).trans (Ex.upd<|by simp),?_,oO,by rw[bb];rfl,by simp[BL]⟩;rw[lg (Ne.symm nD)];exact kr
 obtain⟨n5,ks,nX,hG,uN,rfl,BL⟩:=p;have rR:Ex [st] H H5:=λb o hb h0=>by
  have h1:=pW b o hb h0;have nb:b≠D:=mw h1 hD;have pL:b≠st:=by simpa using hb
  exact nX b o (by simp[nb,pL]) h1
 refine(oh _ rfl _ rfl st n5 _ ⟨rfl,hG,uN,by lia,by lia,λn6 i6 oO pU h61=>?_⟩);have oG:upd H5 st (.lst n6) st=some (.lst n6):=kr;have tK:Ex [st] H (upd H5 st<|.lst n6):=rR.trans (Ex.upd<|by simp);have Eg:upd H5 st (.lst n6) D=some (.lst<|ks.map V.int):=by rw[lg nD];exact aV
 generalize upd H5 st (.lst n6)=H6 at *;refine(oj _ rfl st n6 5 ⟨rfl,oG,oO,by decide,by decide,λn7 i7 BE G9 h71=>(lc _ _ ⟨rfl,rfl,?_⟩)⟩);have nI:upd H6 st (.lst n7) st=some (.lst n7):=kr;have wT:Ex [st] H (upd H6 st<|.lst n7):=tK.trans (Ex.upd<|by simp);have Cf:upd H6 st (.lst n7) D=some (.lst<|ks.map V.int):=by rw[lg nD];exact Eg
 generalize upd H6 st (.lst n7)=H7 at *;refine⟨sZ0,λr k5=>?_⟩;have nr:=tQ nI k5;have nrD:r≠D:=λe=>by rw[e,Cf]at k5;cases k5
 have DU:H r=none:=by
  cases z:H r with
  | none=>rfl
  | some o=>have z':=wT r o (by simpa using nr) z;rw[z']at k5;cases k5
 have DC:=ze (o:=.lst []) nI k5;have r8:upd H7 r (.lst []) r=some (.lst []):=kr;have hD8:upd H7 r (.lst []) D=some (.lst<|ks.map V.int):=by rw[lg (Ne.symm nrD)];exact Cf
 have Ck:Ex [st] H (upd H7 r<|.lst []):=wT.trans<|Ex.fresh k5;generalize upd H7 r (.lst [])=H8 at *;obtain⟨sp,rfl⟩:=cn pU;have gQ:sp<ks.length:=by lia
 obtain⟨b,hb⟩:∃b,ks[sp]?=some b:=⟨_,af gQ⟩;refine⟨_,rfl,by decide,by decide,?_⟩;refine so (lo:=0) (λi σ' H'=>∃(y7 y8 y9 y10:Option V)(zs:U Str),σ'=[some (.ref st),some<|.str<|ab "abcdefghijklmnopqrstuvwxyz",some<|.int<|1+si,some<|.ref D,some<|.int (sp:Int),some<|.int<|1+i7,some<|.ref r,y7,y8,y9,y10]/\Ex [r] H8 H'/\H' r=some (.lst<|zs.map V.str)/\zs.length=i/\∀(k:Nat)(z:Str),zs[k]?=some z->NmV z/\z.cps.toList[sp]?=some (97+((b+(1+i7)*(k:Int)) % 26).toNat)) ?_ (λi σ' H' eT h=>?_) λσ' H' h=>?_
 .exact(lr _ _ _ _ ([]) ⟨rfl,Ex.refl _ _,r8,rfl,λk z hz=>by cases hz⟩)
 .obtain⟨y7,y8,y9,y10,zs,rfl,Cj,r9,yH,DQ⟩:=h;have hD9:=Cj.at (Ne.symm nrD) hD8;refine(mm _ rfl _ ⟨rfl,by lia,by lia,?_⟩);refine so (lo:=0) (λj σ' H2=>∃(y9 y10:Option V)(wd:Str),σ'=[some (.ref st),some<|.str<|ab "abcdefghijklmnopqrstuvwxyz",some<|.int<|1+si,some<|.ref D,some<|.int (sp:Int),some<|.int<|1+i7,some<|.ref r,some<|.int<|0+i,some<|.str wd,y9,y10]/\H2=H'/\Tx wd/\wd.length=j/\(∀c∈wd.cps.toList,smB c=true)/\(sp<j->wd.cps.toList[sp]?=some (97+((b+(1+i7)*(i:Int)) % 26).toNat))) ?_ (λj σ' H2 hj h=>?_) λσ' H2 h=>?_
  .exact(mf _ _ _ ⟨rfl,rfl,txL<|by decide +kernel,by decide +kernel,(show ∀c∈(ab "").cps.toList,smB c=true by decide +kernel),λh=>absurd h<|Nat.not_lt_zero _⟩)
  .obtain⟨y9,y10,wd,rfl,rfl,Fc,A7,Fd,FE⟩:=h;have tG:j<ks.length:=by lia
   have yS:atI (ks.map V.int) (0+((j:Nat):Int))=some (.int ks[j]):=by rw[show(0+((j:Nat):Int))=((j:Nat):Int) by lia];exact ni<|by rw[a8,af tG];rfl
   refine(tf _ rfl _ rfl _ _ ⟨rfl,rfl,.inl ⟨by lia,by lia⟩,(mm _ rfl _ ⟨rfl,rfl,.inr<|nk _ rfl _ _ ⟨rfl,rfl,.inr ⟨?_,?_⟩,?_⟩⟩)⟩)
   .split<;>decide
   .split<;>decide
   have e0:=Int.emod_nonneg (ks[j]+(1+i7)*(0+(i:Int))*(if decide (V.int (0+(j:Int))=V.int (sp:Int))=true then 1 else 0)) (show(26:Int)≠0 by decide);have e26:=Int.emod_lt_of_pos (ks[j]+(1+i7)*(0+(i:Int))*(if decide (V.int (0+(j:Int))=V.int (sp:Int))=true then 1 else 0)) (show(0:Int)<26 by decide);have hc:=aqu e0 e26;have D6:j=sp->(97+((ks[j]+(1+i7)*(0+(i:Int))*(if decide (V.int (0+(j:Int))=V.int (sp:Int))=true then 1 else 0)) % 26).toNat)=97+((b+(1+i7)*(i:Int)) % 26).toNat:=λe=>by
    subst e;have e1:ks[j]=b:=by rw[af tG]at hb;exact ca hb
    rw[if_pos (decide_eq_true<|by rw[Int.zero_add]),e1,Int.mul_one,Int.zero_add]
   have jG:smB (97+((ks[j]+(1+i7)*(0+(i:Int))*(if decide (V.int (0+(j:Int))=V.int (sp:Int))=true then 1 else 0)) % 26).toNat)=true:=by unfold smB;rw[decide_eq_true (by lia),decide_eq_true<|by lia];rfl
   generalize (97+((ks[j]+(1+i7)*(0+(i:Int))*(if decide (V.int (0+(j:Int))=V.int (sp:Int))=true then 1 else 0)) % 26).toNat)=c at *;have rJ:c<128:=by unfold smB at jG;have:=(dt.mp jG).2;have:=of_decide_eq_true this;lia
   refine(ul _ rfl _ rfl _ ⟨rfl,(kj _ rfl D _ _ _ ⟨rfl,rfl,SqL.of hD9,yS,(nh _ rfl _ _ rfl rfl _ ⟨_,rfl,rfl,(show(0:Int)<26 by decide),(mf _ _ c ⟨rfl,rfl,ua<|txL<|by decide +kernel,hc,(lc wd _ ⟨rfl,rfl,?_,?_⟩)⟩)⟩)⟩)⟩)
   .exact ck (lu<|by rw[A7];show j+1<=1000;lia)
   exact⟨_,_,wd++⟨#[c]⟩,rfl,rfl,Tx.cat Fc (tx1 rJ)<|by rw[A7];show j+1<=80;lia,by rw[L3.len_cat,A7];rfl,(λx hx=>by
     rw[ahm]at hx;rcases bm.mp hx with h|h
     .exact Fd x h
     .rw[ay.mp h];exact jG),λcF=>by
     have lw:wd.cps.toList.length=j:=by rw[<-A7];simp[Str.length]
     rw[ahm];by_cases e:sp<j
     .rw[cq (by lia)];exact FE e
     .have e':j=sp:=by lia
      rw[bu (by lia),lw,e',jq,<-D6 e'];rfl⟩
  .obtain⟨y9,y10,wd,rfl,rfl,Fc,A7,Fd,FE⟩:=h;refine(ajd _ rfl (.inl ⟨rfl,_,SqL.of r9⟩) _ rfl r (zs.map V.str) _ ⟨rfl,rfl,r9,lu<|by rw[ae];lia,?_⟩);refine(lr _ _ _ _ (zs++[wd]) ⟨rfl,Cj.trans<|Ex.upd<|by simp,by rw[bb];exact kr,by simp[yH],λk z hz=>?_⟩);by_cases hk:k<zs.length
   .rw[cq hk]at hz;exact DQ k z hz
   .have oP:=(ap.mp hz).1;rw[bn,et]at oP;have ek:k=zs.length:=by lia
    rw[bu (by lia),ek,jq]at hz;cases (ca hz);rw[ek,yH];exact⟨aur Fc (by lia) (by lia) Fd,FE<|by lia⟩
 .obtain⟨y7,y8,y9,y10,zs,rfl,Cj,r9,yH,DQ⟩:=h;have st9:=Cj.at (Ne.symm nr) DC;refine(oj _ rfl st n7 4 ⟨rfl,st9,BE,by decide,by decide,λnO i10 BF Ha h104=>⟨rfl,_,rfl,?_⟩⟩);have xF:upd H' st (.lst nO) st=some (.lst nO):=kr;have Fw:upd H' st (.lst nO) r=some (.lst<|zs.map V.str):=by rw[lg nr];exact r9
  have yZ:Ex [st] H (upd H' st<|.lst nO):=λb o hb h0=>by
   have nb:b≠r:=mw h0 DU;have pL:b≠st:=by simpa using hb
   rw[lg pL];exact Cj.at nb<|Ck b o hb h0
  generalize upd H' st (.lst nO)=J5 at *;refine ur (λ_=>?_) λ_=>?_
  .refine⟨_,rfl,by decide,by decide,λD2 dH=>?_⟩;refine sk (lo:=0) (λj ys H2=>Same J5 H2/\∃ws:U Str,ys=ws.map V.str/\ws.length=j/\∀(k:Nat)(w:Str),ws[k]?=some w->NmV w/\w.length=k+1) ⟨Same.fresh _ dH,[],rfl,rfl,λk w hw=>by cases hw⟩ (λj ys H2 hj aV bG p=>?_) λys H2 aV bG p=>?_
   .obtain⟨p1,ws,rfl,vY,hws⟩:=p;refine⟨Agree.set (Agree.refl _) rfl,?_⟩;dsimp only[uw];refine oo ?_;refine(nh _ rfl _ _ rfl rfl _ ⟨_,rfl,rfl,by lia,by lia,by decide +kernel,λw hw hc=>?_⟩);have D8:j<6:=hj;have ea:(ab "a").length=1:=by decide +kernel
    rw[ea]at hw;refine ny (by lia) aV bG ⟨p1.new dH,ws++[w],by rw[bb];rfl,by simp[vY],λk z hz=>?_⟩;by_cases hk:k<ws.length
    .rw[cq hk]at hz;exact hws k z hz
    .have oP:=(ap.mp hz).1;rw[bn,et]at oP;have ek:k=ws.length:=by lia
     rw[bu (by lia),ek,jq]at hz;cases (ca hz);have all:∀c∈w.cps.toList,c=97:=λc B4=>by
      have:=hc c B4;have e:(ab "a").cps.toList=[97]:=by decide +kernel
      rw[e]at this;simpa using this
     refine⟨aur ⟨by lia,λc B4=>by rw[all c B4];decide⟩ (by lia) (by lia) λc B4=>by rw[all c B4];decide,by lia⟩
   .obtain⟨p1,ws,rfl,vY,hws⟩:=p;refine⟨_,rfl,q D2 ws _ nO ?_ (yZ.trans<|Ex.of_same p1) (p1 _ _ xF) BF aV vY (λz hz=>by obtain⟨k,hk⟩:=bq.mp hz;exact(hws k z hk).1)<|abz (mk:=λz=>z.length) (val:=λk=>k+1) vY (λk z h=>(hws k z h).2) λi j _ _ e=>by lia⟩;cases z:H D2 with
    | none=>rfl
    | some o=>
     have nd:=tQ xF dH;have z':=yZ D2 o (by simpa using nd) z;rw[z']at dH;cases dH
  .exact⟨_,rfl,q r zs _ nO DU yZ xF BF Fw yH (λz hz=>by obtain⟨k,hk⟩:=bq.mp hz;exact(DQ k z hk).1)<|abz (mk:=λz=>z.cps.toList[sp]?) (val:=λk=>some<|97+((b+(1+i7)*(k:Int)) % 26).toNat) yH (λk z h=>(DQ k z h).2) λi j hi hj e=>an9 G9 h71 hi hj<|ca e⟩
def KsV(ns:U Str)(ds:U Z9):Prop:=∀(i:Nat)(d:Z9),ds[i]?=some d->∃z,ns[i]?=some z/\KdV z d
def aup{z:Str}{d:Z9}(h:KdV z d):imm d=true:=by
 obtain⟨l,m,md,es,rfl,_,_,hm,_,fr⟩:=h;have he:=akj fr;have jD:imm m=true:=by rcases hm with rfl|⟨j,rfl,_⟩<;>rfl
 show(true&&(true&&(imm m&&(true&&(imm (.tuple es)&&true)))))=true;rw[he,jD];rfl
def IY{ns:U Str}{ds:U Z9}(h:KsV ns ds):qd ds=true:=qz λd hd=>by obtain⟨i,hi⟩:=bq.mp hd;obtain⟨z,_,hz⟩:=h i d hi;exact aup hz
noncomputable def menu:Str:=ab "....,,##ABCDEFGHIJKLMNOPQRSTUVWXYZabcdefghijklmnopqrstuvwxyz"
def PzV(d:Z9):Prop:=∃(zs ns:U Str)(ks ps:U Z9),d=.tuple [.tuple (zs.map PyData.str),.tuple ks,.tuple ps]/\Rw menu zs/\0<ks.length/\ks.length<=6/\KsV ns ks/\ns.Nodup/\(∀z∈ns,NmV z)/\PrS ps
theorem ag0{H:Hp}:∀{zs:U Str},(∀z∈zs,Tx z)->RepAll H (zs.map PyData.str) (zs.map V.str)
 | [],_=>rfl
 | z::zs,h=>(lc _ _ ⟨rfl,⟨rfl,(h z am).ok⟩,ag0 λz hz=>h z<|ao _ hz⟩)
def apq{xs:U V}{k:Nat}(hk:k<=xs.length):nB xs none (some (k:Int))=xs.take k:=by unfold nB;rw[HT.sIx_none,HT.sIx_nat,Nat.sub_zero,show iQ k xs.length=k by lia];rfl
def aoo{xs:U V}{k:Nat}(hk:k<=xs.length):nB xs (some (k:Int)) none=xs.drop k:=by unfold nB;rw[HT.sIx_none,HT.sIx_nat,show iQ k xs.length=k by lia,au<|by rw[ii];exact aq _]
def sgT:Tx (ab "....,,##ABCDEFGHIJKLMNOPQRSTUVWXYZabcdefghijklmnopqrstuvwxyz"):=txL<|by decide +kernel
def aph:Sp:=λvs H Q _=>∃(st:aE)(n:U V),vs=[.ref st,.int 8,.int 6,.int 6]/\H st=some (.lst n)/\StL n/\∀(p:aE)(H':Hp)(n':U V)(d:Z9),Ex [st] H H'->H' st=some (.lst n')->StL n'->PzV d->Rep H' d (.ref p)->Q (.ref p) H'
def scLpuz:lq ["_law_state_here","_law_most","_law_spots","_law_many","_law_signs_here","_law_floor_here","_law_kinds"] ZE (k9 Ip):={}
def ar3(B:∀x∈sw,mg x=none)(bJ:yc P w K mg base)(zT:Fn P w K mg base "_law_floor" 2 ZG amu)(zP:Fn P w K mg base "_law_kind" 4 ZF als)(vG:Fn P w K mg base "_law_names" 2 Z5 ahn)(vF:Fn P w K mg base "_law_pairs" 2 Z5 ahh)
  (F:Fun K "_law_puzzle" "_law_puzzle" Ip f fd):qp P w K mg base CX0 5 f fd ZE aph:=by
 refine F.ok (k:=4) scLpuz (λvs H Q E h=>?_) λbT A outer s H vs Q E hr h=>?_
 .obtain⟨st,n,rfl,_⟩:=h;rfl
 obtain⟨st,n,rfl,bS,hn,q⟩:=h;refine⟨_,(kl (me (i:=4) scLpuz.nd rfl (Or.inl rfl) l7)
  (kl (me (i:=5) scLpuz.nd rfl (Or.inl rfl)<|lv zT hr (by decide) rfl<|kq (pv 0)<|kq (pv 1)<|kq (wc atd (pv 4) yj<|yn<|mi nv (pj<|kq km<|kq km kh) (lv bJ hr (by decide) rfl<|kq (pv 0)<|kq km kh) λ_ _=>rfl) kh)
  (kl (sq (i:=6) Zz [none,some 0,some 2] scLpuz.nd rfl (Or.inl rfl) rfl rfl rfl (by decide +kernel) (by decide +kernel) rfl rfl (pc<|wc Dc (lv vG hr (by decide) rfl<|kq (pv 0) kh) yj<|yn<|nc o9 km<|lv bJ hr (by decide) rfl<|kq (pv 0)<|kq (pv 3) kh) (λ_=>(k7 (i:=0) (show(Zz:U PySem.Str).Nodup by decide +kernel) rfl<|Or.inl rfl)) (λ_=>ma) λ_=>(lv zP hr (by decide) rfl<|kq (pv 1)<|kq (pv 0)<|kq (pv 2) kh))
  (ku<|li<|o6<|kq (pv 5)<|kq (vx oa rfl (B "tuple"<|by decide) ik<|kq (pv 6) kh)<|kq (lv vF hr (by decide) rfl<|kq (pv 0) kh) kh)))),?_⟩
 refine(ul _ rfl _ rfl _ ⟨rfl,sZ2,λp1 yB=>?_⟩);refine(oj _ rfl st n 2 ⟨rfl,ze bS yB,hn,by decide,by decide,λn1 i1 jU Aq h12=>?_⟩);obtain⟨k,hk,hkm⟩:=zC (α:=V) (xs:=[V.int 8,V.int 60]) Aq h12;obtain⟨oK,pW,jM⟩:=vv (o:=.lst [V.int 8,V.int 60]) (n':=n1) bS yB;have yL:∃j:Int,k=.int j/\0<(Txt.slice (ab "....,,##ABCDEFGHIJKLMNOPQRSTUVWXYZabcdefghijklmnopqrstuvwxyz") none<|some j).length/\∀c∈(Txt.slice (ab "....,,##ABCDEFGHIJKLMNOPQRSTUVWXYZabcdefghijklmnopqrstuvwxyz") none<|some j).cps.toList,c∈menu.cps.toList:=by
  simp only[ar,dz,or_false]at hkm;rcases hkm with rfl|rfl
  .exact⟨8,rfl,by decide +kernel,by decide +kernel⟩
  .exact⟨60,rfl,by decide +kernel,by decide +kernel⟩
 obtain⟨j,rfl,hj0,hjm⟩:=yL;refine(my p1 _ i1 _ ⟨rfl,rfl,SqL.of oK,hk,(mm j rfl _ ⟨rfl,ua sgT,?_⟩)⟩);generalize upd (upd H p1 _) st _=H1 at *;refine(mf st n1 _ ⟨rfl,jM,jU,sgT.slice _ _,hj0,λfa zs H2 n2 hfa oW eY lP hf2 rw2=>?_⟩);have yY:=pW.trans oW;refine(nk _ rfl st n2 ⟨rfl,eY,lP,λna ns H3 n3 DZ pV eU qV Gk hns6 BC Gf=>?_⟩);have yX:=yY.trans pV;have l3:=Lk.of_ex pV eY eU;have hf3:=l3.tup hf2;have nna:=tQ eY DZ;refine(oh _ rfl _ rfl st n3 6 ⟨rfl,eU,qV,by decide,by decide,λn4 i4 tE Ci h46=>(lc _ _ ⟨rfl,rfl,_,rfl,?_⟩)⟩);have b0:upd H3 st (.lst n4) st=some (.lst n4):=kr;have oV:Ex [st] H3 (upd H3 st<|.lst n4):=Ex.upd (by simp);have hf4:=(Lk.of_ex oV eU b0).tup hf3;have Gj:=oV.at nna Gk;have yW:=yX.trans oV;generalize upd H3 st (.lst n4)=H4 at *;obtain⟨m,rfl⟩:=cn Ci;have uT:nB (ns.map V.str) none (some<|1+(m:Int))=(ns.take<|1+m).map V.str:=by rw[show(1+(m:Int))=((1+m:Nat):Int) by lia,apq<|by rw[ae];lia,List.map_take]
 refine(lc na _ ⟨rfl,SqL.of Gj,λsa hsa=>?_⟩);rw[uT];have s5:Same H4 (upd H4 sa<|.lst<|(ns.take<|1+m).map V.str):=Same.fresh _ hsa;have Fi:upd H4 sa (.lst<|(ns.take<|1+m).map V.str) sa=some (.lst<|(ns.take<|1+m).map V.str):=kr;have hG:=s5 _ _ b0;have BX:=s5 _ _ hf4;have rR:=yW.trans<|Ex.of_same (W:=[st]) s5;have nsa:=tQ b0 hsa;generalize upd H4 sa (.lst<|(ns.take<|1+m).map V.str)=H5 at *;have mC:((ns.take<|1+m).map V.str).length=1+m:=by rw[ae,cm];lia
 refine⟨sa,rfl,⟨_,SqL.of Fi⟩,λD hD=>?_⟩;have nD:=tQ hG hD;have nDs:D≠sa:=tQ Fi hD;refine nz (xs:=(ns.take<|1+m).map V.str) (λj ys H6=>∃(n6:U V),Ex [st,D] H5 H6/\H6 st=some (.lst n6)/\StL n6/\ys.length=j/\∃ds,RepAll H6 ds ys/\KsV (ns.take<|1+m) ds) ?_ (λj ys H6 p=>?_) (λj x ys H6 hx hj aV bG p=>?_) λys H6 aV bG p=>?_
 .exact⟨n4,Ex.fresh hD,by rw[lg (Ne.symm nD)];exact hG,tE,rfl,[],rfl,λi d h=>by cases h⟩
 .obtain⟨_,tK,_⟩:=p;exact SqL.of<|tK _ _ (by simp[Ne.symm nsa,Ne.symm nDs,nsa]) Fi
 .obtain⟨n6,tK,oG,oO,FN,wW,iJ,Ba⟩:=p;have hxz:∃z,x=.str z/\Tx z/\z.length<=8/\(ns.take<|1+m)[j]?=some z:=by
   rw[a8]at hx;obtain⟨z,hz,rfl⟩:=bo.mp hx;have hn:=BC z<|dn<|aj hz;refine⟨z,rfl,hn.1,?_,hz⟩;have h2:(decide (1<=z.length)&&decide (z.length<=8)&&z.cps.toList.all smB)=true:=hn.2;exact of_decide_eq_true (dt.mp (dt.mp h2).1).2
  obtain⟨z,rfl,tz,z8,hzj⟩:=hxz;refine⟨Agree.set (Agree.refl _) rfl,?_⟩;dsimp only[uw];refine oo ?_;refine(uv _ rfl _ rfl _ rfl st n6 ⟨z,rfl,oG,oO,tz,z8,λkp H7 n7 dk wT nI BE kv7 rp7=>?_⟩);have Cf:=wT.at nD aV;have eM:wW.length=j:=by rw[<-iJ.length,FN]
  have ks7:KsV (ns.take<|1+m) (wW++[dk]):=λi d h=>by
   by_cases hi:i<wW.length
   .rw[cq hi]at h;exact Ba i d h
   .have oQ:=(ap.mp h).1;rw[bn,et]at oQ;have ei:i=wW.length:=by lia
    rw[bu (by lia),ei,jq]at h;cases ca h;rw[ei,eM];exact⟨z,hzj,kv7⟩
  refine ny (by lia) Cf bG ⟨n7,?_,by rw[lg (Ne.symm nD)];exact nI,BE,by rw[bn,FN];rfl,wW++[dk],((iJ.tk (AI wT oG)<|IY Ba).snoc rp7).tk (Tk.lst Cf) (IY ks7),ks7⟩
  .intro b o hb h0;have fL:b≠st/\b≠D:=by simpa using hb
   rw[lg fL.2];exact wT.at fL.1<|tK b o hb h0
 .obtain⟨n6,tK,oG,oO,FN,wW,iJ,Ba⟩:=p;have hf6:H6 fa=some (.tup<|zs.map V.str):=tK _ _ (by
   have e1:fa≠st:=λe=>by rw[e,hG]at BX;cases BX
   have e2:fa≠D:=λe=>by rw[e,hD]at BX;cases BX
   simp[e1,e2]) BX
  have Hk:Ex [st] H H6:=λb o hb h0=>by
   have h1:=rR b o hb h0;have nb:b≠D:=mw h1 hD;have pL:b≠st:=by simpa using hb
   exact tK b o (by simp[nb,pL]) h1
  refine(tf _ rfl _ rfl D ys ⟨rfl,.inl ⟨SqL.of aV,λka hka=>?_⟩⟩);have s7:Same H6 (upd H6 ka<|.tup ys):=Same.fresh _ hka;have ka7:upd H6 ka (.tup ys) ka=some (.tup ys):=kr;have nI:=s7 _ _ oG;have hf7:=s7 _ _ hf6;have Hj:=Hk.trans<|Ex.of_same (W:=[st]) s7;have xL:=iJ.same s7;generalize upd H6 ka (.tup ys)=H7 at *;refine(nk _ rfl st n6 ⟨rfl,nI,oO,λpa H8 n8 ps Ck DC hn8 By rpp=>⟨sZ3,λta hta=>?_⟩⟩);have l8:=Lk.of_ex Ck nI DC;have s9:Same H8 (upd H8 ta<|.tup [.ref fa,.ref ka,.ref pa]):=Same.fresh _ hta;have l9:=Lk.of_same s9;have Fu:=(xL.tk (AI Ck nI)<|IY Ba).same s9;obtain⟨Fo,Fm,wd,w0,w8,tU⟩:=rw2;have hyl':=iJ.length;refine q ta _ n8 (.tuple [.tuple (zs.map PyData.str),.tuple wW,.tuple ps]) ((Hj.trans Ck).trans (Ex.of_same s9)) (s9 _ _ DC) hn8
   (my zs (ns.take<|1+m) wW ps ⟨rfl,⟨Fo,Fm,wd,w0,w8,λz hz=>⟨(tU z hz).1,(tU z hz).2.1,λc hc=>hjm c<|(tU z hz).2.2 c hc⟩⟩,by lia,by lia,Ba,Gf.sublist<|jc _ _,λz hz=>BC z<|dn hz,By⟩) ?_
  exact(ou ta _ rfl kr _ _ rfl (lc fa _ ⟨rfl,l9.tup<|l8.tup hf7,ag0 λz hz=>(tU z hz).1⟩) _<|m9 _ rfl (lc ka _ ⟨rfl,l9.tup<|l8.tup ka7,Fu⟩) _ ⟨_,rfl,rpp.same s9,rfl⟩)
theorem xh{H:Hp}:∀{zs:U Str} {vs:U V},RepAll H (zs.map PyData.str) vs->vs=zs.map V.str
 | [],vs,r=>r
 | z::zs,vs,r=>by obtain⟨x,ys,rfl,⟨rfl,_⟩,r2⟩:=r;rw[xh r2];rfl
def arc:∀c∈menu.cps.toList,sgB c=true:=by decide +kernel
def ajz{H:Hp}{v:V}{zs:U Str}(h:Rw menu zs)(r:Rep H (.tuple<|zs.map PyData.str) v):Hu H v:=by
 obtain⟨b,vs,rfl,hb,rs⟩:=r;have e:=xh rs;subst e;obtain⟨h1,h8,wd,w0,w8,hz⟩:=h;refine⟨some<|zs.map some,⟨by rw[ae];lia,(lc b _ ⟨rfl,hb,by rw[ae,ae],λi x o hx ho=>?_⟩)⟩,?_⟩
 .rw[a8]at hx ho;obtain⟨z,vW,rfl⟩:=bo.mp hx;rw[vW]at ho;cases ho;exact⟨rfl,(hz z<|aj vW).1⟩
 .have first:lW (((zs.map some)[0]?).getD none)=wd:=by
   rw[a8,af h1];exact(hz _<|fk h1).2.1
  show(decide (1<=(zs.map some).length)&&decide ((zs.map some).length<=8)&&(zs.map some).all λo=>lX o&&(lW o==lW (((zs.map some)[0]?).getD none)))=true;rw[decide_eq_true (by rw[ae];lia),decide_eq_true<|by rw[ae];lia,first];refine bz.mpr λo ho=>?_;obtain⟨z,FM,rfl⟩:=a7.mp ho;obtain⟨t,l,c⟩:=hz z FM;show((decide (1<=z.length)&&decide (z.length<=8)&&z.cps.toList.all sgB)&&(z.length==wd))=true;rw[decide_eq_true (by lia),decide_eq_true<|by lia,bz.mpr λx hx=>arc x<|c x hx,l];simp
def an4{H:Hp}{v:V}{z:Str}{d:Z9}(hn:NmV z)(h:KdV z d)(r:Rep H d v):y0 H v/\∃b r,v=.ref b/\H b=some (.tup (.str z::r)):=by
 obtain⟨l,m,md,es,rfl,l0,l64,hm,Aj,fr⟩:=h;obtain⟨b,xs,rfl,hb,x1,r1,e1,⟨q1,_⟩,x2,r2,e2,q2,x3,r3,e3,q3,x4,r4,e4,⟨q4,_⟩,x5,r5,e5,q5,e6⟩:=r;subst e6 e5 e4 e3 e2 e1 q1 q4;cases (show x2=.int l from q2);refine⟨(lr b _ _ _ _ ⟨_,rfl,hb,hn.2,?_,Aj,?_⟩),(lc b _ ⟨rfl,hb⟩)⟩
 .rcases hm with rfl|⟨j,rfl,h1,h2⟩
  .cases (show x3=.non from q3);show(decide (0<=l)&&decide (l<=64))=true;rw[decide_eq_true l0,decide_eq_true l64];rfl
  .cases (show x3=.int j from q3);show(decide (0<=l)&&decide (l<=64)&&(decide (l<=j)&&decide (j<=64)))=true;rw[decide_eq_true l0,decide_eq_true l64,decide_eq_true h1,decide_eq_true h2];rfl
 .obtain⟨c,ys,rfl,hc,rc⟩:=q5;exact(mf c ys es ⟨rfl,hc,rc,fr⟩)
def av7{H:Hp}{v:V}{d:Z9}(h:PzV d)(r:Rep H d v):HI H v:=by
 obtain⟨zs,ns,ks,ps,rfl,qD,k0,k6,Ag,nd,nm,sV⟩:=h;obtain⟨a,xs,rfl,ha,f,r1,e1,rf,k,r2,e2,rk,p,r3,e3,rp,e4⟩:=r;subst e4 e3 e2 e1;refine(my a f k p ⟨rfl,ha,ajz qD rf,?_,?_⟩)
 .obtain⟨b,ys,rfl,hb,rs⟩:=rk;have hl:=rs.length;have iL:ks.length<=ns.length:=by
   obtain⟨z,hz,_⟩:=Ag (ks.length-1) ks[ks.length-1] (af<|by lia);have:=(ap.mp hz).1;lia
  have Cq:∀(i:Nat)(x:V),ys[i]?=some x->∃z,ns[i]?=some z/\y0 H x/\∃b r,x=.ref b/\H b=some (.tup (.str z::r)):=λi x hx=>by obtain⟨d,hd,rd⟩:=rs.at hx;obtain⟨z,hz,kv⟩:=Ag i d hd;exact⟨z,hz,an4 (nm z<|aj hz) kv rd⟩
  refine(mf b ys (ns.take ks.length) ⟨rfl,hb,by lia,by lia,λx hx=>?_,⟨by rw[cm];lia,λi x hx=>?_⟩,nd.sublist<|jc _ _⟩)
  .obtain⟨i,hi⟩:=bq.mp hx;exact(Cq i x hi).choose_spec.2.1
  .obtain⟨z,hz,_,b',r',e,fL⟩:=Cq i x hx;have hi:=(ap.mp hx).1;exact(mf b' z r' ⟨e,fL,by rw[de (by lia)];exact hz⟩)
 .obtain⟨b,ys,rfl,hb,rs⟩:=rp;exact(mf b ys ps ⟨rfl,hb,rs,sV.1,sV.2.1⟩)
def asg{z:Str}(h:tN z=true):Tx z:=by
 unfold tN at h;rcases Bool.or_eq_true_iff.mp h with h|h
 .rcases Bool.or_eq_true_iff.mp h with h|h
  .rw[of_decide_eq_true h];exact txL<|by decide +kernel
  .rw[of_decide_eq_true h];exact txL<|by decide +kernel
 .rw[of_decide_eq_true h];exact txL<|by decide +kernel
def aqo{H:Hp}{v:V}{z:Str}{d:Z9}(hn:NmV z)(h:KdV z d)(r:Rep H d v):KnN 3 H v:=by
 obtain⟨l,m,md,es,rfl,l0,l64,hm,Aj,fr⟩:=h;obtain⟨b,xs,rfl,hb,x1,r1,e1,⟨q1,_⟩,x2,r2,e2,q2,x3,r3,e3,q3,x4,r4,e4,⟨q4,_⟩,x5,r5,e5,q5,e6⟩:=r;subst e6 e5 e4 e3 e2 e1 q1 q4;cases (show x2=.int l from q2);refine yv hb (by show 5<=60;lia) λx hx=>?_;simp only[ar,dz,or_false]at hx;rcases hx with rfl|rfl|rfl|rfl|rfl
 .exact yq hn.1
 .exact E3 _
 .rcases hm with rfl|⟨j,rfl,_⟩
  .cases (show x=.non from q3);exact ars
  .cases (show x=.int j from q3);exact E3 _
 .exact yq<|asg Aj
 .obtain⟨c,ys,rfl,hc,rc⟩:=q5;have:=rc.length;have:=fr.1.pre.six;exact yv hc (by lia) λy hy=>(amt rc (λd hd=>fr.1.pre.sg d hd) y hy).1.down
def awm{H:Hp}{v:V}{d:Z9}(h:PzV d)(r:Rep H d v):Pz H v:=by
 obtain⟨zs,ns,ks,ps,rfl,qD,k0,k6,Ag,nd,nm,sV⟩:=h;obtain⟨a,xs,rfl,ha,f,r1,e1,rf,k,r2,e2,rk,p,r3,e3,rp,e4⟩:=r;subst e4 e3 e2 e1;refine⟨.inr<|.inr<|.inr<|.inr ⟨a,rfl,.inr<|.inl ⟨_,ha⟩⟩,λa' xs' e h'=>?_⟩;cases e;rw[ha]at h';cases h';refine⟨by show 3<=60;lia,λf' k' p' e=>?_⟩;cases e;refine⟨?_,?_,?_⟩
 .obtain⟨T,hT,_⟩:=ajz qD rf;exact⟨T,hT⟩
 .obtain⟨b,ys,rfl,hb,rs⟩:=rk;have hl:=rs.length;refine yv hb (by lia) λx hx=>?_;obtain⟨i,hi⟩:=bq.mp hx;obtain⟨d,hd,rd⟩:=rs.at hi;obtain⟨z,hz,kv⟩:=Ag i d hd;exact aqo (nm z<|aj hz) kv rd
 .obtain⟨b,ys,rfl,hb,rs⟩:=rp;have hl:=rs.length;have:=sV.2.2;refine yv hb (by lia) λx hx=>?_;obtain⟨i,hi⟩:=bq.mp hx;obtain⟨d,hd,rd⟩:=rs.at hi;obtain⟨x1,y1,rfl,h1,h2,h3⟩:=sV.1 d<|aj hd;obtain⟨c,vs,rfl,hc,v1,_,e1,⟨q1,_⟩,v2,_,e2,⟨q2,_⟩,e3⟩:=rd;subst e3 e2 e1 q1 q2;refine yv hc (by show 2<=60;lia) λz hz=>?_;simp only[ar,dz,or_false]at hz;rcases hz with rfl|rfl
  .exact yq<|tx1<|by lia
  .exact yq<|tx1<|by lia
def al{H H':Hp}{a:aE}{o:HO}(h:H a=none)(g:upd H a o=H'):Same H H'/\H' a=some o:=by subst g;exact⟨Same.fresh _ h,kr⟩
noncomputable abbrev Sg:=Nat×Nat×Nat
noncomputable def sgD(s:Sg):Z9:=.tuple [.int (s.1:Nat),.int (s.2.1:Nat),.str ⟨#[s.2.2]⟩]
noncomputable def ce(s:Sg):Nat×Nat:=(s.1,s.2.1)
def Ltr(c:Nat):Prop:=65<=c/\c<=90
structure FrS(ss:U Sg):Prop where
 fr:Frm (ss.map sgD)
 ltr:∀s∈ss,Ltr s.2.2
 nd:(ss.map ce).Nodup
theorem ap3:∀{es:U Z9},(∀e∈es,∃s:Sg,e=sgD s/\Ltr s.2.2)->∃ss:U Sg,es=ss.map sgD/\∀s∈ss,Ltr s.2.2
 | [],_=>⟨[],rfl,λs hs=>by cases hs⟩
 | e::es,h=>by
  obtain⟨s,rfl,hs⟩:=h e am;obtain⟨ss,rfl,hss⟩:=ap3 λx hx=>h x<|ao _ hx;refine⟨s::ss,rfl,λs' eF=>?_⟩;rcases ar.mp eF with rfl|h'
  .exact hs
  .exact hss s' h'
def av6{es:U Z9}(h:Frm es):∃ss,es=ss.map sgD/\FrS ss:=by
 obtain⟨ss,rfl,hl⟩:=ap3 (es:=es) λe he=>by obtain⟨r,c,k,rfl,hk⟩:=h.1.pre.sg e he;have h1:yi (es.map kE)<=r:=yt _<|cg (f:=kE) he;have h2:yi (es.map kC)<=c:=yt _<|cg (f:=kC) he;rw[h.1.r0]at h1;rw[h.1.c0]at h2;obtain⟨r,rfl⟩:=cn h1;obtain⟨c,rfl⟩:=cn h2;exact⟨(r,c,k),rfl,hk⟩
 refine⟨ss,rfl,h,hl,?_⟩;have nd:=h.1.pre.nd;rw[gy]at nd;refine fc.mpr<|List.Pairwise.imp ?_<|fc.mp nd;intro a b lT e;refine lT ?_;have e:(a.1,a.2.1)=(b.1,b.2.1):=e;injection e with e1 e2
 show(((a.1:Nat):Int),((a.2.1:Nat):Int))=(((b.1:Nat):Int),((b.2.1:Nat):Int));rw[e1,e2]
noncomputable def stL(f:Int->Int->Option Nat)(s:Sg):Int->Int->Option Nat:=λr c=>if r=(s.1:Nat)/\c=(s.2.1:Nat)then some s.2.2 else f r c
noncomputable def look(ss:U Sg):Int->Int->Option Nat:=ss.foldl stL λ_ _=>none
def ad1(ss:U Sg)(s:Sg)(r c:Int):look (ss++[s]) r c=if r=(s.1:Nat)/\c=(s.2.1:Nat)then some s.2.2 else look ss r c:=by unfold look;rw[List.foldl_append];rfl
theorem agt:∀(ss:U Sg)(f:Int->Int->Option Nat) {r c:Int} {k:Nat},ss.foldl stL f r c=some k->f r c=some k\/∃s∈ss,r=(s.1:Nat)/\c=(s.2.1:Nat)/\k=s.2.2
 | [],f,_,_,_,h=>.inl h
 | s::ss,f,r,c,k,h=>by
  rcases agt ss _ h with h|⟨s',hs,h⟩
  .unfold stL at h;by_cases e:r=(s.1:Nat)/\c=(s.2.1:Nat)
   .rw[if_pos e]at h;exact .inr ⟨s,am,e.1,e.2,(ca h).symm⟩
   .rw[if_neg e]at h;exact .inl h
  .exact .inr ⟨s',ao _ hs,h⟩
def ams{ss:U Sg}{r c:Int}{k:Nat}(h:look ss r c=some k):∃s∈ss,r=(s.1:Nat)/\c=(s.2.1:Nat)/\k=s.2.2:=by
 rcases agt ss _ h with h|h
 .cases h
 .exact h
theorem ag6:∀(ss:U Sg)(f:Int->Int->Option Nat)(q:Nat×Nat),q∉ss.map ce->ss.foldl stL f (q.1:Nat) (q.2:Nat)=f (q.1:Nat) (q.2:Nat)
 | [],_,_,_=>rfl
 | s::ss,f,q,h=>by
  show ss.foldl stL (stL f s) _ _=_;rw[ag6 ss _ q λz=>h<|ao _ z];exact if_neg λe=>h (by
   have:q=ce s:=Prod.ext (by have:=e.1;show q.1=s.1;lia) (by have:=e.2;show q.2=s.2.1;lia);rw[this];exact am)
theorem ali:∀(ss:U Sg)(f:Int->Int->Option Nat),(ss.map ce).Nodup->∀s∈ss,ss.foldl stL f (s.1:Nat) (s.2.1:Nat)=some s.2.2
 | [],_,_,s,h=>by cases h
 | s0::ss,f,nd,s,h=>by
  rw[dg,iy]at nd;rcases ar.mp h with rfl|h
  .show ss.foldl stL (stL f s) _ _=_;refine(ag6 ss _ (ce s) nd.1).trans ?_;exact if_pos ⟨rfl,rfl⟩
  .exact ali ss (stL f s0) nd.2 s h
noncomputable def pch(ss:U Sg)(r c:Int):Nat:=(look ss r c).getD 46
noncomputable def qt(ss:U Sg)(t l N W:Nat):Mat:=⟨N,W,λr c=>pch ss ((r:Nat)-(t:Nat))<|(c:Nat)-(l:Nat)⟩
theorem avq{ss:U Sg}(h:∀s∈ss,Ltr s.2.2)(r c:Int):pch ss r c=46\/Ltr (pch ss r c):=by
 unfold pch;cases e:look ss r c with
 | none=>exact .inl rfl
 | some k=>
  obtain⟨s,hs,_,_,rfl⟩:=ams e;exact .inr<|h s hs
noncomputable def isP:Z9->Bool
 | .tuple [_,_,.str z]=>!decide (z=⟨#[46]⟩)
 | _=>false
theorem anf{ss:U Sg}(h:FrS ss){t l N W:Nat}(hN:∀s∈ss,s.1+t<N)(hW:∀s∈ss,s.2.1+l<W) :
  Spots ((yo<|qt ss t l N W).filter isP)/\((yo<|qt ss t l N W).filter isP).length=ss.length/\qf (ow<|(yo<|qt ss t l N W).filter isP)=ss.map sgD:=by
 have key:((yo<|qt ss t l N W).filter isP).Perm (ss.map λs=>sgD (s.1+t,s.2.1+l,s.2.2)):=by
  refine(List.perm_ext_iff_of_nodup ?_ ?_).mpr λd=>?_
  .refine List.Pairwise.filter _ ?_;unfold yo;refine fc.mpr<|gx (λ{i j} hi hj cA=>?_) List.nodup_range;intro e;unfold vE at e;injection e with e
   injection e with e1 e
   injection e with e2 _
   injection e1 with e1
   injection e2 with e2
   refine cA ?_;rw[<-Nat.div_add_mod i (qt ss t l N W).w,<-Nat.div_add_mod j (qt ss t l N W).w,show i/(qt ss t l N W).w=j/(qt ss t l N W).w by lia,show i % (qt ss t l N W).w=j % (qt ss t l N W).w by lia]
  .refine fc.mpr<|List.Pairwise.imp ?_<|fc.mp h.nd;intro a b lT e;unfold sgD at e;injection e with e
   injection e with e1 e
   injection e with e2 _
   injection e1 with e1
   injection e2 with e2
   have e1:((a.1+t:Nat):Int)=((b.1+t:Nat):Int):=e1;have e2:((a.2.1+l:Nat):Int)=((b.2.1+l:Nat):Int):=e2;exact lT (Prod.ext (by show a.1=b.1;lia)<|by show a.2.1=b.2.1;lia)
  .rw[gg,ahp,a7];constructor
   .rintro⟨⟨r,c,hr,hc,rfl⟩,hp⟩;have hp:(!decide ((⟨#[pch ss ((r:Nat)-(t:Nat)) ((c:Nat)-(l:Nat))]⟩:Str)=⟨#[46]⟩))=true:=hp;cases e:look ss ((r:Nat)-(t:Nat)) ((c:Nat)-(l:Nat))with
    | none=>
     unfold pch at hp;rw[e]at hp;exact absurd hp (by decide)
    | some k=>
     obtain⟨s,hs,e1,e2,rfl⟩:=ams e;refine⟨s,hs,?_⟩;have g:(qt ss t l N W).g r c=s.2.2:=by show pch ss _ _=_;unfold pch;rw[e];rfl
     unfold vE sgD;rw[g,show r=s.1+t by lia,show c=s.2.1+l by lia]
   .rintro⟨s,hs,rfl⟩;have e:pch ss (((s.1+t:Nat):Int)-(t:Nat)) (((s.2.1+l:Nat):Int)-(l:Nat))=s.2.2:=by
     unfold pch look;rw[show((s.1+t:Nat):Int)-(t:Nat)=(s.1:Nat) by lia,show((s.2.1+l:Nat):Int)-(l:Nat)=(s.2.1:Nat) by lia,ali ss _ h.nd s hs];rfl
    refine⟨(lc (s.1+t) (s.2.1+l) ⟨hN s hs,hW s hs,?_⟩),?_⟩
    .unfold vE sgD;rw[show(qt ss t l N W).g (s.1+t) (s.2.1+l)=s.2.2 from e]
    .show(!decide ((⟨#[s.2.2]⟩:Str)=⟨#[46]⟩))=true;have hl:=(h.ltr s hs).1;rw[decide_eq_false]
     .rfl
     .intro z;injection z with z
      injection z with z
      injection z with z
      lia
 generalize (yo<|qt ss t l N W).filter isP=fl at key;have fK:0<ss.length:=by have:=h.fr.1.pre.pos;rw[ae]at this;exact this
 have sp:Spots fl:=λd hd=>by obtain⟨s,_,rfl⟩:=a7.mp<|key.mem_iff.mp hd;exact(mf _ _ _ rfl)
 have ln:fl.length=ss.length:=by rw[key.length_eq,ae]
 refine⟨sp,ln,?_⟩;have mn:∀(f:Z9->Int)(g:Sg->Nat)(m:Nat),(∀s,f (sgD (s.1+t,s.2.1+l,s.2.2))=((g s+m:Nat):Int))->(∀s,f (sgD s)=(g s:Nat))->yi ((ss.map sgD).map f)=0->yi (fl.map f)=(m:Nat):=λf g m h1 h2 h0=>by
  rw[JL (key.map f) (by rw[ae];lia)];refine(wy ?_ λa ha=>?_).symm
  .have:=we (ns:=(ss.map sgD).map f) (by rw[ae,ae];exact fK);rw[h0]at this;obtain⟨d,hd,e⟩:=a7.mp this;obtain⟨s,hs,rfl⟩:=a7.mp hd;rw[h2]at e;refine a7.mpr ⟨_,cg hs,?_⟩;rw[h1];lia
  .obtain⟨d,hd,rfl⟩:=a7.mp ha;obtain⟨s,_,rfl⟩:=a7.mp hd;rw[h1];lia
 have m1:=mn kE (·.1) t (λs=>rfl) (λs=>rfl) h.fr.1.r0;have m2:=mn kC (·.2.1) l (λs=>rfl) (λs=>rfl) h.fr.1.c0;refine amc h.fr ?_;unfold ow;rw[m1,m2];have e:(ss.map λs=>sgD (s.1+t,s.2.1+l,s.2.2)).map (tq (t:Nat) (l:Nat))=ss.map sgD:=by rw[gy];refine je λs _=>?_;show PyData.tuple [.int (((s.1+t:Nat):Int)-(t:Nat)),.int<|((s.2.1+l:Nat):Int)-(l:Nat),_]=.tuple [.int (s.1:Nat),.int (s.2.1:Nat),_];rw[show((s.1+t:Nat):Int)-(t:Nat)=(s.1:Nat) by lia,show((s.2.1+l:Nat):Int)-(l:Nat)=(s.2.1:Nat) by lia]
 rw[<-e];exact key.map _
def As(z:Str):Prop:=∀c∈z.cps.toList,c<128
def As.ok{z:Str}(h:As z):kb z=true:=by show z.cps.all (· < 0x110000)=true;rw[<-Array.all_toList,bz];intro c hc;have:=h c hc;exact decide_eq_true<|by lia
noncomputable def sP(r:Nat)(cs:U Nat):Nat->U Z9
 | 0=>[]
 | k+1=>sP r cs k++(match cs[k]? with|some c=>[.tuple [.int r,.int k,.str ⟨#[c]⟩]]|none=>[])
noncomputable def yz(zs:U Str):Nat->U Z9
 | 0=>[]
 | k+1=>yz zs k++(match zs[k]? with|some z=>sP k z.cps.toList z.cps.toList.length|none=>[])
theorem wu(r:Nat)(cs:U Nat):∀k,Spots (sP r cs k)
 | 0,d,h=>by cases h
 | k+1,d,h=>by
  unfold sP at h;rcases bm.mp h with h|h
  .exact wu r cs k d h
  .cases e:cs[k]? with
   | none=>rw[e]at h;cases h
   | some c=>rw[e]at h;rw[ay.mp h];exact(mf _ _ _ rfl)
theorem aae(zs:U Str):∀k,Spots (yz zs k)
 | 0,d,h=>by cases h
 | k+1,d,h=>by
  unfold yz at h;rcases bm.mp h with h|h
  .exact aae zs k d h
  .cases e:zs[k]? with
   | none=>rw[e]at h;cases h
   | some z=>rw[e]at h;exact wu _ _ _ d h
def Spots.app{a b:U Z9}(h:Spots a)(k:Spots b):Spots (a++b):=λd hd=>(bm.mp hd).elim (h d) (k d)
def ab9{r:Nat}{cs:U Nat}{k c:Nat}(h:cs[k]?=some c):sP r cs (k+1)=sP r cs k++[.tuple [.int r,.int k,.str ⟨#[c]⟩]]:=by show sP r cs k++_=_;rw[h]
def aca{zs:U Str}{k:Nat}{z:Str}(h:zs[k]?=some z):yz zs (k+1)=yz zs k++sP k z.cps.toList z.cps.toList.length:=by show yz zs k++_=_;rw[h]
theorem ab0(M:Mat)(r:Nat):∀c,c<=M.w->sP r (qr M r) c=(fu c).map λk=>vE M r k
 | 0,_=>rfl
 | c+1,h=>by rw[ab9 (JD (M:=M) (r:=r) (c:=c)<|by lia),ab0 M r c<|by lia,List.range_succ,bb];rfl
theorem abn(M:Mat):∀k,k<=M.h->yz (pk M) k=(fu<|k*M.w).map λi=>vE M (i/M.w) (i % M.w)
 | 0,_=>by simp[yz]
 | k+1,h=>by
  rw[aca (Jh (M:=M) (r:=k)<|by lia),abn M k<|by lia];have e:((⟨(qr M k).toArray⟩:Str).cps.toList)=qr M k:=by simp
  rw[e,wf,ab0 M k M.w<|aq _,Nat.add_mul,Nat.one_mul,List.range_add,bb,gy]
  congr 1
  refine je λc hc=>?_;have pT:c<M.w:=by simpa using hc
  show vE M k c=vE M ((k*M.w+c)/M.w) ((k*M.w+c) % M.w);rw[ap6 pT,apc pT]
def PcR(zs:U Str):Prop:=∀z∈zs,z.length<=10/\As z
def amx:Sp:=λvs H Q _=>∃(a:aE)(zs:U Str),vs=[.ref a]/\H a=some (.lst<|zs.map V.str)/\zs.length<=10/\PcR zs/\∀(D:aE)(ys:U V)(H':Hp),Same H H'->H' D=some (.lst ys)->RepAll H' (yz zs zs.length) ys->Q (.ref D) H'
def scSpots:lq ["floor","spots","row","signs","column","sign"] ["floor"] (k9 Jc):={}
def aoe(B:∀x∈sw,mg x=none)(F:Fun K "floor_spots" "floor_spots" Jc f fd):qp P w K mg base CX0 1 f fd ["floor"] amx:=by
 refine F.ok (k:=0) scSpots (λvs H Q E h=>?_) λbT A outer s H vs Q E hr h=>?_
 .obtain⟨a,zs,rfl,_⟩:=h;rfl
 obtain⟨a,zs,rfl,ha,Bf,hw,q⟩:=h;refine⟨_,(kl (me (i:=1) scSpots.nd rfl (Or.inl rfl)<|pj kh)
  (kl (ut fq rfl (auy rfl (B "enumerate"<|by decide)<|kq (pv 0) kh) (wq (n:=2) rfl<|lm (k7 (i:=2) scSpots.nd rfl<|Or.inl rfl)<|lm (k7 (i:=3) scSpots.nd rfl<|Or.inl rfl) qc)<|ku<|ut fq rfl (at3 rfl (B "enumerate"<|by decide)<|kq (pv 3) kh) (wq (n:=2) rfl<|lm (k7 (i:=4) scSpots.nd rfl<|Or.inl rfl)<|lm (k7 (i:=5) scSpots.nd rfl<|Or.inl rfl) qc)<|ku<|vy<|rh gn ge gf qk (pv 1)<|kq (o6<|kq (pv 2)<|kq (pv 4)<|kq (pv 5) kh) kh)
  (ku<|li<|pv 1))),?_⟩
 refine⟨sZ0,λD hD=>?_⟩;refine(mm _ rfl a ⟨rfl,⟨_,SqL.of<|by rw[lg (mw ha hD)];exact ha⟩,?_⟩);refine asi (xs:=zs.map V.str) (λi σ' H'=>∃(y2 y3 y4 y5:Option V)(ys:U V),σ'=[some (.ref a),some<|.ref D,y2,y3,y4,y5]/\Same H H'/\H' D=some (.lst ys)/\RepAll H' (yz zs i) ys/\ys.length<=10*i) ?_ (λi σ' H' h=>?_) (λi x p σ' H' hx hp h=>?_) λσ' H' h=>?_
 .exact(lr _ _ _ _ ([]) ⟨rfl,Same.fresh _ hD,kr,rfl,c8 _⟩)
 .obtain⟨_,_,_,_,_,_,s1,_⟩:=h;exact SqL.of<|s1 _ _ ha
 .obtain⟨y2,y3,y4,y5,ys,rfl,s1,aV,dB,bG⟩:=h;rw[a8]at hx;obtain⟨z,hz,rfl⟩:=bo.mp hx;have FM:=aj hz;have oQ:i<zs.length:=(ap.mp hz).1;obtain⟨gS,hza⟩:=hw z FM;have hL:=kY z;refine(nj p _ rfl (SqT.of kr) rfl _ _ rfl _ ⟨_,rfl,rfl,?_⟩);generalize g1:upd H' p _=H2 at *;obtain⟨s2,_⟩:=al hp g1;clear g1;refine(mm _ rfl z ⟨rfl,hza,?_⟩);refine aro (z:=z) (λj σ' H3=>∃(y4 y5:Option V)(ys:U V),σ'=[some (.ref a),some<|.ref D,some<|.int (i:Nat),some<|.str z,y4,y5]/\Same H H3/\H3 D=some (.lst ys)/\RepAll H3 (yz zs i++sP i z.cps.toList j) ys/\ys.length<=10*i+j) ?_ (λj c p3 σ' H3 hc lh h=>?_) λσ' H3 h=>?_
  .refine(mf _ _ ys ⟨rfl,s1.trans s2,s2 _ _ aV,?_,by lia⟩);show RepAll H2 (yz zs i++[]) ys;rw[ie];exact dB.same s2
  .obtain⟨y4,y5,AN,rfl,s3,wP,gH,yJ⟩:=h;have BO:j<z.cps.toList.length:=(ap.mp hc).1;have rJ:c<128:=hza c<|aj hc;refine(nj p3 _ rfl (SqT.of kr) rfl _ _ rfl _ ⟨_,rfl,rfl,?_⟩);generalize g1:upd H3 p3 _=H4 at *;obtain⟨s4,_⟩:=al lh g1;clear g1;have Ch:=s4 _ _ wP;refine(m9 _ rfl (.inl ⟨rfl,_,SqL.of Ch⟩) _ ⟨rfl,(mm _ rfl _ ⟨rfl,sZ3,λt ht=>?_⟩)⟩);generalize g1:upd H4 t _=H5 at *;obtain⟨s5,t5⟩:=al ht g1;clear g1;have tJ:=s5 _ _ Ch;refine(mf D AN (.ref t) ⟨rfl,rfl,tJ,lu<|by lia,?_⟩);have jN:RepAll H5 ((yz zs i++sP i z.cps.toList j)++[.tuple [.int (i:Nat),.int (j:Nat),.str ⟨#[c]⟩]]) (AN++[.ref t]):=((gH.same s4).same s5).snoc (wa t5<|ok1 rJ);rw[b9,<-ab9 hc]at jN;refine(mf _ _ (AN++[.ref t]) ⟨rfl,((s3.trans s4).trans s5).new hD,kr,jN.tk (Tk.lst tJ)<|Spots.imm<|Spots.app (aae _ _)<|wu _ _ _,?_⟩);rw[bn,et];lia
  .obtain⟨y4,y5,AN,rfl,s3,wP,gH,yJ⟩:=h;rw[<-aca hz]at gH;exact(lr _ _ _ _ AN ⟨rfl,s3,wP,gH,by lia⟩)
 .obtain⟨y2,y3,y4,y5,ys,rfl,s1,aV,dB,bG⟩:=h;rw[ae]at dB bG;exact⟨_,rfl,q D ys H' s1 aV dB⟩
def Wd(z:Str):Prop:=0<z.length/\z.length<=120/\∀c∈z.cps.toList,32<c/\c<128
def Wd.as{z:Str}(h:Wd z):As z:=λc hc=>(h.2.2 c hc).2
def Wd.line{z:Str}(h:Wd z):z.length<=aF:=ck (lu<|by have:=h.2.1;lia)
noncomputable def wdB(z:Str):Bool:=decide (0<z.length)&&decide (z.length<=120)&&z.cps.toList.all λc=>decide (32<c)&&decide (c<128)
def wdL{z:Str}(h:wdB z=true):Wd z:=by unfold wdB at h;rw[dt,dt]at h;refine⟨of_decide_eq_true h.1.1,of_decide_eq_true h.1.2,λc hc=>?_⟩;have:=bz.mp h.2 c hc;simpa using this
noncomputable def qA(n:Nat):Str:=bO ((n:Nat):Int)
noncomputable def zB:Option Nat->Str
 | none=>ab "any"
 | some j=>qA j
noncomputable def ayj(z:Str):Bool:=decide (1<=z.length)&&decide (z.length<=2)&&z.cps.toList.all (λc=>decide (48<=c)&&decide (c<=57))&&(decide (z=ab "0") || !decide (z.cps.toList.headD 0=48))
def C9:∀n≤64,ayj (qA n)=true/\wdB (qA n)=true/\qA n≠ab "any":=by decide +kernel
def av9:∀c≤57,48<=c->(!(Builtin.Str.occurrences (ab "0123456789") ⟨#[c]⟩ 0 (ab "0123456789").length 1).isEmpty)=true:=by decide +kernel
theorem vm{H:Hp}:∀{zs:U Str},(∀z∈zs,As z)->RepAll H (zs.map PyData.str) (zs.map V.str)
 | [],_=>rfl
 | z::zs,h=>(lc _ _ ⟨rfl,⟨rfl,(h z am).ok⟩,vm λz hz=>h z<|ao _ hz⟩)
def agz{zs:U Str}(h:∀z∈zs,0<z.length):((zs.map PyData.str).any λe=>c7 e<|.str<|ab "")=false:=by rw[List.any_eq_false];intro d hd;obtain⟨z,hz,rfl⟩:=a7.mp hd;show ¬(z==ab "")=true;rw[beq_iff_eq];rintro rfl;exact absurd (h _ hz)<|by decide +kernel
def PicOf(ss:U Sg)(dR:Str):Prop:=∃t l N W,(∀s∈ss,s.1+t<N)/\(∀s∈ss,s.2.1+l<W)/\0<N/\N<=10/\0<W/\W<=10/\dR=cf ⟨#[47]⟩ (pk<|qt ss t l N W)
def ux{ss:U Sg}(hl:∀s∈ss,Ltr s.2.2){t l N W:Nat}{z:Str}(h:z∈pk (qt ss t l N W)):z.length=W/\∀c∈z.cps.toList,c=46\/Ltr c:=by
 obtain⟨r,hr,rfl⟩:=aox h;have e:((⟨(qr (qt ss t l N W) r).toArray⟩:Str).cps.toList)=qr (qt ss t l N W) r:=by simp
 refine⟨by show(qr (qt ss t l N W) r).toArray.size=_;rw[bf,wf];rfl,λc hc=>?_⟩;rw[e]at hc;unfold qr at hc;obtain⟨x,_,rfl⟩:=a7.mp hc;exact avq hl _ _
theorem E6{c:Nat}:∀{xs:U Str} {x:Nat},x∈(cf ⟨#[c]⟩ xs).cps.toList->x=c\/∃z∈xs,x∈z.cps.toList
 | [],x,h=>by cases h
 | [z],x,h=>.inr ⟨z,am,h⟩
 | z::y::r,x,h=>by
  rw[rm]at h;rcases bm.mp h with h|h
  .exact .inr ⟨z,am,h⟩
  .rcases ar.mp h with h|h
   .exact .inl h
   .rcases E6 h with h|⟨z',h1,h2⟩
    .exact .inl h
    .exact .inr ⟨z',ao _ h1,h2⟩
theorem xu{c:Nat}{m:Nat}:∀{xs:U Str},(∀z∈xs,z.length<=m)->(cf ⟨#[c]⟩ xs).length<=xs.length*(m+1)
 | [],_=>c8 _
 | [z],h=>by have:=h z am;show z.length<=_;rw[et];lia
 | z::y::r,h=>by have h1:=h z am;have h2:=xu (c:=c) (xs:=y::r) λx hx=>h x<|ao _ hx;rw[<-kY,rm,bn,bj,kY,kY,bj,Nat.add_mul];lia
theorem ahy{c:Nat}:∀{xs:U Str},xs≠[]->(∀z∈xs,0<z.length)->0<(cf ⟨#[c]⟩ xs).length
 | [],h,_=>absurd rfl h
 | [z],_,h=>h z am
 | z::y::r,_,_=>by rw[<-kY,rm,bn,bj];lia
def PicOf.wd{ss:U Sg}(hl:∀s∈ss,Ltr s.2.2){dR:Str}(h:PicOf ss dR):Wd dR:=by
 obtain⟨t,l,N,W,_,_,n0,nO,w0,zV,rfl⟩:=h;have hs:=sd<|qt ss t l N W;have hs:(pk<|qt ss t l N W).length=N:=hs;refine⟨ahy (λe=>by rw[e]at hs;simp at hs;lia) λz hz=>by rw[(ux hl hz).1];exact w0,?_,λc hc=>?_⟩
 .have:=xu (c:=47) (m:=10) (xs:=pk<|qt ss t l N W) λz hz=>by rw[(ux hl hz).1];exact zV
  rw[hs]at this;have:N*11<=10*11:=Nat.mul_le_mul_right _ nO;lia
 .rcases E6 hc with rfl|⟨z,hz,Ap⟩
  .decide
  .rcases(ux hl hz).2 c Ap with rfl|hL
   .decide
   .exact⟨by have:=hL.1;lia,by have:=hL.2;lia⟩
def e47:ab "/" = ⟨#[47]⟩:=by decide +kernel
def e46:ab "." = ⟨#[46]⟩:=by decide +kernel
seal L2.PE L2.PT L2.PW L2.PA L2.PS L2.PSs L2.PG L2.PGs L2.PI L2.PO
def at8:Sp:=λvs H Q _=>∃n:Nat,vs=[.str (qA n),.int 2]/\n<=64/\∀H',Same H H'->Q (.bl true) H'
def axk:lq ZL ZL (k9 Hz):={}
theorem avk(B:∀x∈sw,mg x=none)(He:GS mg "FIGURES" "0123456789")(F:Fun K "is_numeral" "is_numeral" Hz f fd):qp P w K mg base CX0 1 f fd ZL at8:=by
 refine F.ok (k:=0) axk (λvs H Q E h=>?_) λbT A outer s H vs Q E hr h=>?_
 .obtain⟨_,rfl,_⟩:=h;rfl
 obtain⟨n,rfl,hn,q⟩:=h;obtain⟨h1,h2,_⟩:=C9 n hn;have hw:=wdL h2;unfold ayj at h1;rw[dt,dt,dt]at h1;obtain⟨⟨⟨l1,l2⟩,hd⟩,h0⟩:=h1;have l1:=of_decide_eq_true l1;have l2:=of_decide_eq_true l2;generalize qA n=z at *;have hl:=kY z;refine⟨_,(kl (qm (PW.pt<|vz (om<|vd wk wk km (mj nq rfl (B "len"<|by decide) cb<|kq (pv 0) kh)<|pv 1)<|rj<|om<|o4<|mj (p9 rfl) rfl (B "all"<|by decide) cW<|kq (mr Z4 [none] rfl rfl (by decide +kernel) (by decide +kernel) rfl rfl (EN<|pv 0) (λ_=>(k7 (i:=0) (show(Z4:U PySem.Str).Nodup by decide +kernel) rfl<|Or.inl rfl)) (λ_=>ma) λ_=>(on akh (pv 0) (qu He rfl) rfl)) kh) (ku<|li uh) ng)
  (ku<|li<|AF (on wm (pv 0) l7<|nw _)<|qq<|on zF (mi AM (pv 0) km λ_ _=>rfl) l7<|nw _)),?_⟩
 refine(mm _ rfl z ⟨rfl,hw.line,(lc _ _ ⟨rfl,rfl,_,rfl,ur (λ_=>?_) λc=>absurd (decide_eq_true (show(1:Int)<=(z.length:Nat) by lia)) c⟩)⟩);refine(nh _ rfl _ _ rfl rfl _ ⟨rfl,ur (λc=>absurd c<|by rw[decide_eq_true (show((z.length:Nat):Int)<=2 by lia)];decide) λ_=>?_⟩);refine(mm _ rfl z ⟨rfl,λD hD=>?_⟩);refine zq (λi ys H'=>Same H H'/\ys=((z.cps.toList.take i).map λ_=>true).map V.bl) ⟨Same.fresh _ hD,rfl⟩ (λi c ys H' hx hi aV bG p=>?_) λys H' aV bG p=>?_
 .obtain⟨p1,rfl⟩:=p;refine⟨Agree.set (Agree.refl _) rfl,?_⟩;dsimp only[uw];refine oo ?_;have hc:=bz.mp hd c<|aj hx;rw[dt]at hc;refine(nk _ rfl _ _ ⟨rfl,rfl,?_⟩);rw[av9 c (of_decide_eq_true hc.2) (of_decide_eq_true hc.1)];refine ny (by lia) aV bG ⟨p1.new hD,?_⟩;rw[k8 (λ_=>true) hx,bb];rfl
 obtain⟨p1,rfl⟩:=p;refine(lc D (z.cps.toList.map λ_=>true) ⟨rfl,by rw[aV,i8],?_⟩);have ea:((z.cps.toList.map λ_=>true).all id)=true:=by rw[jk];exact bz.mpr λ_ _=>rfl
 rw[ea];refine⟨true,rfl,rg ?_⟩;refine(m9 _ rfl rfl _ ⟨rfl,ur (λ_=>q _ p1) λeG=>?_⟩);have hz:z≠ab "0":=λe=>eG (by rw[e];exact decide_eq_true rfl);rw[decide_eq_false hz,Bool.false_or]at h0;obtain⟨c0,B5⟩:∃c,z.cps.toList[0]?=some c:=⟨_,af<|by lia⟩;have n48:c0≠48:=λe=>by
  cases hz:z.cps.toList with
  | nil=>rw[hz]at B5;cases B5
  | cons a t=>
   rw[hz]at B5 h0;cases B5;rw[e]at h0;exact absurd h0<|by simp
 refine(oj _ rfl z _ c0 ⟨rfl,rfl,hw.line,ni (j:=0) B5,rfl,?_⟩);have e0:ab "0" = ⟨#[48]⟩:=by decide +kernel
 have ev:decide (V.str ⟨#[c0]⟩=V.str (ab "0"))=false:=decide_eq_false λe=>by
  rw[e0]at e;injection e with e
  injection e with e
  injection e with e
  injection e with e
  exact n48 e
 rw[ev];exact q _ p1
def Ia:Sp:=λvs H Q _=>∃(l:aE)(ws:U Str)(z:Str)(k:Nat),vs=[.ref l,.str z,.int (k:Nat)]/\H l=some (.lst<|(z::ws).map V.str)/\ws.length=k/\k<=6/\(∀x∈z::ws,Wd x)/\∀H',Same H H'->Q (.bl true) H'
def awq:lq ZX ZX (k9 HQ):={}
def ava(B:∀x∈sw,mg x=none)(F:Fun K "is_line" "is_line" HQ f fd):qp P w K mg base CX0 1 f fd ZX Ia:=by
 refine F.ok (k:=0) awq (λvs H Q E h=>?_) λbT A outer s H vs Q E hr h=>?_
 .obtain⟨_,_,_,_,rfl,_⟩:=h;rfl
 obtain⟨l,ws,z,k,rfl,hl,hk,h6,hw,q⟩:=h;have hu:=hr.units;refine⟨_,(ku<|li<|p7 (on wm (mi nv (pv 0) km λ_ _=>rfl) (pv 1)<|nw _)<|p7 (on wm (mj m7 rfl (B "len"<|by decide) cb<|kq (pv 0) kh) (nc o9 km<|pv 2)<|nw _)<|qq<|on (xk hu) l7 (pv 0) rfl),?_⟩;refine(kj _ rfl l _ _ (.str z) ⟨rfl,rfl,SqL.of hl,ni (j:=0) rfl,(m9 _ rfl rfl _ ⟨rfl,?_⟩)⟩);rw[decide_eq_true rfl];refine oo ?_;refine(nh _ rfl l _ rfl (.inl<|SqL.of hl) _ ⟨rfl,(lc _ _ ⟨rfl,rfl,rfl,_,rfl,?_⟩)⟩);rw[decide_eq_true (show V.int (((z::ws).map V.str).length:Nat)=V.int (1+(k:Nat)) by rw[ae,bj,hk];congr 1;lia)];refine oo ?_;refine(kj _ rfl (.str<|ab "") l _ ((z::ws).map PyData.str) ⟨⟨rfl,by decide +kernel⟩,rfl,.inl hl,vm λx hx=>(hw x hx).as,by simp[er],?_⟩);rw[if_pos rfl,agz λx hx=>(hw x hx).1];exact q H<|Same.refl _
def ap0:Sp:=λvs H Q _=>∃(ss:U Sg)(dR:Str),vs=[.str dR]/\PicOf ss dR/\(∀s∈ss,Ltr s.2.2)/\∀H',Same H H'->Q (.bl true) H'
def scIpic:lq ["word","rows"] ["word"] (k9 ID):={}
def ayo{ss:U Sg}(hl:∀s∈ss,Ltr s.2.2){t l N W:Nat}(n0:0<N):Txt.split (cf ⟨#[47]⟩<|pk<|qt ss t l N W) ⟨#[47]⟩=pk (qt ss t l N W):=wb (λe=>by have hs:=sd<|qt ss t l N W;rw[e]at hs;have hs:0=N:=hs;lia) λz hz h=>by
 rcases(ux hl hz).2 47 h with h|h
 .cases h
 .have:=h.1;lia
def asq(B:∀x∈sw,mg x=none)(uY:GS mg "NO_CELL" ".")(xD:Fn P w K mg base "is_sign" 1 Z8 spS)(F:Fun K "is_picture" "is_picture" ID f fd):qp P w K mg base CX0 2 f fd ["word"] ap0:=by
 refine F.ok (k:=1) scIpic (λvs H Q E h=>?_) λbT A outer s H vs Q E hr h=>?_
 .obtain⟨_,_,rfl,_⟩:=h;rfl
 obtain⟨ss,dR,rfl,hp,hl,q⟩:=h;have Bi:=hp.wd hl;obtain⟨t,lf,N,W,_,_,n0,nO,w0,zV,rfl⟩:=hp;have hu:=hr.units;have mC:(pk<|qt ss t lf N W).length=N:=sd _;have vZ:=λ{z:Str} (h:z∈pk (qt ss t lf N W))=>ux hl h;have DR:=Bi.2.1;refine⟨_,(kl (me (i:=1) scIpic.nd rfl (Or.inr rfl)<|rh bw jz j3 yf (pv 0)<|kq l7 kh)
  (kl (qm (PW.pt<|vz (ot (aps hu) l7 (pv 1) rfl)<|rj<|om<|o4<|mj (p9 rfl) rfl (B "all"<|by decide) cW<|kq (mr ["row","rows"] [none,some 1] rfl rfl (by decide +kernel) (by decide +kernel) rfl rfl (pc<|pv 1) (λ_=>(k7 (i:=0) (show(["row","rows"]:U PySem.Str).Nodup by decide +kernel) rfl<|Or.inl rfl)) (λ_=>ma) λ_=>(on wm (mj nq rfl (B "len"<|by decide) cb<|kq (pv 0) kh) (mj nq rfl (B "len"<|by decide) cb<|kq (mi JH (pv 1) km λ_ _=>rfl) kh)<|nw _)) kh) (ku<|li uh) ng)
  (ku<|li<|mj (p9 rfl) rfl (B "all"<|by decide) cW<|kq (mr Z4 [none] rfl rfl (by decide +kernel) (by decide +kernel) rfl rfl (EN<|rh bw dv dw uf l7<|kq (pv 1) kh) (λ_=>(k7 (i:=0) (show(Z4:U PySem.Str).Nodup by decide +kernel) rfl<|Or.inl rfl)) (λ_=>ma) λ_=>(AF (on wm (pv 0) (qu uY rfl)<|nw _)<|qq<|lv xD hr (by decide) rfl<|kq (pv 0) kh)) kh))),?_⟩
 refine(m9 _ rfl rfl _ ⟨47,rfl,by rw[e47],ck<|lu<|by lia,λl Ak=>?_⟩);rw[ayo hl n0];generalize pk (qt ss t lf N W)=zs at *;generalize g1:upd H l _=H1 at *;obtain⟨s1,e1⟩:=al Ak g1;clear g1;have FL:∀z∈zs,z.length<=10/\As z:=λz hz=>⟨by rw[(vZ hz).1];exact zV,λc hc=>by
  rcases(vZ hz).2 c hc with rfl|h
  .decide
  .have:=h.2;lia⟩
 have gS:∀z∈zs,z.length<=aF:=λz hz=>ck (lu<|by have:=(FL z hz).1;lia);refine(kj _ rfl (.str<|ab "") l _ (zs.map PyData.str) ⟨⟨rfl,by decide +kernel⟩,rfl,.inl e1,vm λz hz=>(FL z hz).2,by simp[er],_,rfl,?_⟩);rw[if_neg (by decide),agz λz hz=>by rw[(vZ hz).1];exact w0];refine rg ?_;obtain⟨z0,sZ⟩:∃z,zs[0]?=some z:=⟨_,af<|by lia⟩;have m0:=aj sZ;refine(mm _ rfl l ⟨rfl,⟨_,SqL.of e1⟩,λD hD=>?_⟩);refine nz (xs:=zs.map V.str) (λi ys J=>Same H1 J/\ys=((zs.take i).map λ_=>true).map V.bl) ⟨Same.fresh _ hD,rfl⟩ (λi ys J p=>SqL.of<|p.1 _ _ e1) (λi x ys J hx hi aV bG p=>?_) λys J aV bG p=>?_
 .obtain⟨p1,rfl⟩:=p;rw[a8]at hx;obtain⟨z,hz,rfl⟩:=bo.mp hx;have mz:=aj hz;refine⟨Agree.set (Agree.refl _) rfl,?_⟩;dsimp only[uw];refine oo ?_;refine(mm _ rfl z ⟨rfl,gS z mz,(kj _ rfl l _ _ (.str z0) ⟨rfl,rfl,SqL.of<|p1 _ _ e1,ni (j:=0)<|by rw[a8,sZ];rfl,z0,rfl,gS z0 m0,rfl,?_⟩)⟩);rw[decide_eq_true (show V.int (z.length:Nat)=V.int (z0.length:Nat) by rw[(vZ mz).1,(vZ m0).1])];refine ny (by rw[ae]at hi;lia) aV bG ⟨p1.new hD,?_⟩;rw[k8 (λ_=>true) hz,bb];rfl
 obtain⟨p1,rfl⟩:=p;rw[ae,i8]at aV;refine(lc D (zs.map λ_=>true) ⟨rfl,aV,?_⟩);rw[show((zs.map λ_=>true).all id)=true by rw[jk];exact bz.mpr λ_ _=>rfl];refine⟨true,rfl,rg ?_⟩;have e2:=p1 _ _ e1;have e0:(ab "").length=0:=by decide +kernel
 have fU:=cz (B:=10) zs λz hz=>(FL z hz).1;refine⟨rfl,(oj _ rfl _ l zs ⟨rfl,rfl,e2,by rw[e0];lia,_,rfl,λD2 dH=>?_⟩)⟩;have hj:∀c∈(Txt.join (ab "") zs).cps.toList,c=46\/Ltr c:=λc hc=>by rw[qy (by decide +kernel)]at hc;obtain⟨x,hx,hcx⟩:=List.mem_flatten.mp hc;obtain⟨z,hz,rfl⟩:=a7.mp hx;exact(vZ hz).2 c hcx
 have BO:(Txt.join (ab "") zs).cps.toList.length<=200:=by rw[qy (by decide +kernel),List.length_flatten,gy];have e:(zs.map (List.length∘λz:Str=>z.cps.toList)).sum=(zs.map (·.length)).sum:=congrArg List.sum<|je λz _=>kY z;rw[e];lia
 generalize Txt.join (ab "") zs=y at *;refine zq (λi ys H'=>Same J H'/\ys=((y.cps.toList.take i).map λ_=>true).map V.bl) ⟨Same.fresh _ dH,rfl⟩ (λi c ys H' hx hi aV bG p=>?_) λys H' aV bG p=>?_
 .obtain⟨p2,rfl⟩:=p;refine⟨Agree.set (Agree.refl _) rfl,?_⟩;dsimp only[uw];refine oo ?_;have fin:Nx D2 i (λi ys H'=>Same J H'/\ys=((y.cps.toList.take i).map λ_=>true).map V.bl) (upd H' D2<|.lst<|((y.cps.toList.take i).map λ_=>true).map V.bl++[V.bl true]):=by
   refine⟨_,kr,by rw[bn,et];lia,p2.new dH,?_⟩;rw[k8 (λ_=>true) hx,bb];rfl
  refine(m9 _ rfl rfl _ ⟨rfl,ur (λ_=>⟨_,aV,lu<|by lia,fin⟩) λeG=>?_⟩);have hL:Ltr c:=by
   rcases hj c (aj hx)with rfl|h
   .exact absurd (by rw[e46];exact decide_eq_true rfl) eG
   .exact h
  refine(mm _ rfl (.str ⟨#[c]⟩) ⟨rfl,(yq (n:=0) (tx1<|by have:=hL.2;lia)).kn,?_⟩);rw[show sK (.str ⟨#[c]⟩)=true by show(decide (65<=c)&&decide (c<=90))=true;rw[decide_eq_true hL.1,decide_eq_true hL.2];rfl];exact⟨_,aV,lu<|by lia,fin⟩
 obtain⟨p2,rfl⟩:=p;rw[i8]at aV;refine(lc D2 (y.cps.toList.map λ_=>true) ⟨rfl,aV,?_⟩);rw[show((y.cps.toList.map λ_=>true).all id)=true by rw[jk];exact bz.mpr λ_ _=>rfl];exact q _<|(s1.trans p1).trans p2
structure Kr where
 z:Str
 l:Nat
 m:Option Nat
 md:Str
 ss:U Sg
noncomputable def mD:Option Nat->Z9
 | none=>.none
 | some j=>.int (j:Nat)
noncomputable def krD(k:Kr):Z9:=.tuple [.str k.z,.int (k.l:Nat),mD k.m,.str k.md,.tuple<|k.ss.map sgD]
structure KrO(k:Kr):Prop where
 nm:NmV k.z
 l64:k.l<=64
 m64:∀j,k.m=some j->j<=64
 md:tN k.md=true
 fs:FrS k.ss
noncomputable def wp(k:Kr)(dR:Str):U Str:=[ab "piece",k.z,qA k.l,zB k.m,k.md,dR]
def av3{z:Str}(h:NmV z):Wd z:=by have h2:(decide (1<=z.length)&&decide (z.length<=8)&&z.cps.toList.all smB)=true:=h.2;rw[dt,dt]at h2;refine⟨of_decide_eq_true h2.1.1,by have:=of_decide_eq_true h2.1.2;lia,λc hc=>?_⟩;have:=bz.mp h2.2 c hc;unfold smB at this;simp at this;lia
def au4{z:Str}(h:tN z=true):Wd z:=by unfold tN at h;rw[Bool.or_eq_true_iff,Bool.or_eq_true_iff,decide_eq_true_iff,decide_eq_true_iff,decide_eq_true_iff]at h;rcases h with (rfl|rfl)|rfl<;>exact wdL<|by decide +kernel
theorem au2{m:Option Nat}(h:∀j,m=some j->j<=64):Wd (zB m):=by
 cases m with
 | none=>exact wdL (by decide +kernel)
 | some j=>exact wdL (C9 j<|h j rfl).2.1
def EB{k:Kr}(h:KrO k){dR:Str}(hp:PicOf k.ss dR):∀x∈wp k dR,Wd x:=λx hx=>by
 unfold wp at hx;simp only[ar,dz,or_false]at hx;rcases hx with rfl|rfl|rfl|rfl|rfl|rfl
 .exact wdL<|by decide +kernel
 .exact av3 h.nm
 .exact wdL (C9 _ h.l64).2.1
 .exact au2 h.m64
 .exact au4 h.md
 .exact hp.wd h.fs.ltr
noncomputable def wsD(ws:U Str):Z9:=.list<|ws.map PyData.str
def CJ{H:Hp}{ws:U Str}{v:V}(h:Rep H (wsD ws) v):∃a,v=.ref a/\H a=some (.lst<|ws.map V.str):=by obtain⟨a,xs,rfl,ha,r⟩:=h;exact⟨a,rfl,by rw[<-xh r];exact ha⟩
def ahg{α:Type}(l:List α):((l.map λ_=>true).all id)=true:=by rw[jk];exact bz.mpr λ_ _=>rfl
def auo:Sp:=λvs H Q _=>∃(l:aE)(k:Kr)(dR:Str),vs=[.ref l]/\H l=some (.lst<|(wp k dR).map V.str)/\KrO k/\PicOf k.ss dR/\∀H',Same H H'->Q (.bl true) H'
def axd:lq Z7 Z7 (k9 HS):={}
theorem avt(Ej:GI mg "MOST_FIGURES" 2)(uZ:GS mg "ENDLESS" "any")(vH:Fn P w K mg base "is_line" 1 ZX Ia)(Dm:Fn P w K mg base "is_numeral" 1 ZL at8)(Ds:Fn P w K mg base "is_picture" 2 ["word"] ap0)(F:Fun K "is_piece_line" "is_piece_line" HS f fd):qp P w K mg base CX0 3 f fd Z7 auo:=by
 refine F.ok (k:=2) axd (λvs H Q E h=>?_) λbT A outer s H vs Q E hr h=>?_
 .obtain⟨_,_,_,rfl,_⟩:=h;rfl
 obtain⟨l,k,dR,rfl,hl,ho,hp,q⟩:=h;refine⟨_,(kl (qm (PW.pt<|vz (om<|o4<|lv vH hr (by decide) rfl<|kq (pv 0)<|kq l7<|kq km kh)<|rj<|om<|o4<|lv Dm hr (by decide) rfl<|kq (mi nv (pv 0) km λ_ _=>rfl)<|kq (rn Ej rfl) kh) (ku<|li uh) ng)
  (ku<|li<|p7 (AF (on wm (mi nv (pv 0) km λ_ _=>rfl) (qu uZ rfl)<|nw _)<|qq<|lv Dm hr (by decide) rfl<|kq (mi nv (pv 0) km λ_ _=>rfl)<|kq (rn Ej rfl) kh)<|qq<|lv Ds hr (by decide) rfl<|kq (mi nv (pv 0) km λ_ _=>rfl) kh)),?_⟩
 refine(kj _ rfl l ([k.z,qA k.l,zB k.m,k.md,dR]) (ab "piece") 5 ⟨rfl,hl,rfl,by decide,EB ho hp,λH1 s1=>⟨true,rfl,rg ?_⟩⟩);have l1:=s1 _ _ hl;refine(kj _ rfl l _ _ (.str<|qA k.l) ⟨rfl,rfl,SqL.of l1,ni (j:=2) rfl,k.l,rfl,ho.l64,λH2 s2=>⟨true,rfl,rg ?_⟩⟩);have l2:=s2 _ _ l1;refine(kj _ rfl l _ _ (.str<|zB k.m) ⟨rfl,rfl,SqL.of l2,ni (j:=3) rfl,rfl,_,rfl,?_⟩);cases e:k.m with
 | none=>
  refine ur (λ_=>⟨true,rfl,oo ?_⟩) λh=>absurd (decide_eq_true rfl) h;exact(kj _ rfl l _ _ (.str dR) ⟨rfl,rfl,SqL.of l2,ni (j:=5) rfl,(lc k.ss dR ⟨rfl,hp,ho.fs.ltr,λH3 s3=>q H3<|(s1.trans s2).trans s3⟩)⟩)
 | some j=>
  have hj:=ho.m64 j e;refine ur (λh=>?_) λ_=>?_
  .have:=of_decide_eq_true h;injection this with this
   exact absurd this (C9 j hj).2.2
  .refine(kj _ rfl l _ _ (.str<|qA j) ⟨rfl,rfl,SqL.of l2,ni (j:=3)<|by unfold wp;rw[e];rfl,j,rfl,hj,λH3 s3=>⟨true,rfl,oo ?_⟩⟩);exact(kj _ rfl l _ _ (.str dR) ⟨rfl,rfl,SqL.of<|s3 _ _ l2,ni (j:=5) rfl,(lc k.ss dR ⟨rfl,hp,ho.fs.ltr,λH4 s4=>q H4<|((s1.trans s2).trans s3).trans s4⟩)⟩)
def PlL(ks:U Kr)(cR:U (U Str)):Prop:=cR.length=ks.length/\∀(i:Nat) k ws,ks[i]?=some k->cR[i]?=some ws->KrO k/\∃dR,ws=wp k dR/\PicOf k.ss dR
noncomputable def prW(p:Nat×Nat):U Str:=[ab "apart",⟨#[p.1]⟩,⟨#[p.2]⟩]
def auk:Sp:=λvs H Q _=>∃(a p r:aE)(fl:Str)(ks:U Kr) (cR:U (U Str)) (ps:U (Nat×Nat)) (xs ys:U V),vs=[.ref a,.ref p,.ref r]/\H a=some (.lst<|[ab "floor",fl].map V.str)/\Wd fl/\H p=some (.lst xs)/\RepAll H (cR.map wsD) xs/\PlL ks cR/\ks.length<=6/\H r=some (.lst ys)/\RepAll H ((ps.map prW).map wsD) ys/\(∀q∈ps,Ltr q.1/\Ltr q.2)/\ps.length<=3/\∀H',Same H H'->Q (.bl true) H'
def aw5:lq ZK ZK (k9 HL):={}
def ER{c:Nat}(h:Ltr c):Wd ⟨#[c]⟩:=⟨by show 0<1;decide,by show 1<=120;decide,λx hx=>by
 have e:x=c:=by simpa using hx
 rw[e];exact⟨by have:=h.1;lia,by have:=h.2;lia⟩⟩
def as9{p:Nat×Nat}(h:Ltr p.1/\Ltr p.2):∀x∈prW p,Wd x:=λx hx=>by
 unfold prW at hx;simp only[ar,dz,or_false]at hx;rcases hx with rfl|rfl|rfl
 .exact wdL<|by decide +kernel
 .exact ER h.1
 .exact ER h.2
def auh(B:∀x∈sw,mg x=none)(vH:Fn P w K mg base "is_line" 1 ZX Ia)(Ka:Fn P w K mg base "is_piece_line" 3 Z7 auo)(F:Fun K "are_lines" "are_lines" HL f fd):qp P w K mg base CX0 4 f fd ZK auk:=by
 refine F.ok (k:=3) aw5 (λvs H Q E h=>?_) λbT A outer s H vs Q E hr h=>?_
 .obtain⟨_,_,_,_,_,_,_,_,_,rfl,_⟩:=h;rfl
 obtain⟨a,p,r,fl,ks,cR,ps,xs,ys,rfl,ha,BV,hp,rX,gW,hk6,hR,rY,hL,h3,q⟩:=h;have lx:=rX.length;have ly:=rY.length;rw[ae]at lx;rw[ae,ae]at ly;have lw:=gW.1;refine⟨_,(kl (qm (om<|o4<|lv vH hr (by decide) rfl<|kq (pv 0)<|kq l7<|kq km kh) (ku<|li uh) ng)
  (ku<|li<|p7 (mj (p9 rfl) rfl (B "all"<|by decide) cW<|kq (mr Z7 [none] rfl rfl (by decide +kernel) (by decide +kernel) rfl rfl (pc<|pv 1) (λ_=>(k7 (i:=0) (show(Z7:U PySem.Str).Nodup by decide +kernel) rfl<|Or.inl rfl)) (λ_=>ma) λ_=>(lv Ka hr (by decide) rfl<|kq (pv 0) kh)) kh)<|qq<|mj (p9 rfl) rfl (B "all"<|by decide) cW<|kq (mr Z7 [none] rfl rfl (by decide +kernel) (by decide +kernel) rfl rfl (pc<|pv 2) (λ_=>(k7 (i:=0) (show(Z7:U PySem.Str).Nodup by decide +kernel) rfl<|Or.inl rfl)) (λ_=>ma) λ_=>(lv vH hr (by decide) rfl<|kq (pv 0)<|kq l7<|kq km kh)) kh)),?_⟩
 refine(kj _ rfl a ([fl]) (ab "floor") 1 ⟨rfl,ha,rfl,by decide,(λx hx=>?_),λH1 s1=>⟨true,rfl,rg ?_⟩⟩)
 .simp only[ar,dz,or_false]at hx;rcases hx with rfl|rfl
  .exact wdL<|by decide +kernel
  .exact BV
 refine(mm _ rfl p ⟨rfl,⟨_,SqL.of<|s1 _ _ hp⟩,λD hD=>?_⟩);refine nz (xs:=xs) (λi zs J=>Same H1 J/\zs=((xs.take i).map λ_=>true).map V.bl) ⟨Same.fresh _ hD,rfl⟩ (λi zs J p=>SqL.of<|p.1 _ _<|s1 _ _ hp) (λi x zs J hx hi aV gS pp=>?_) λzs J aV gS pp=>?_
 .obtain⟨p1,rfl⟩:=pp;obtain⟨d,hd,rd⟩:=rX.at hx;rw[a8]at hd;obtain⟨ws,hws,rfl⟩:=bo.mp hd;obtain⟨ho,dR,rfl,jQ⟩:=gW.2 i _ ws (af<|by lia) hws;obtain⟨b,rfl,hb⟩:=CJ<|Rep.same (s1.trans p1) rd;refine⟨Agree.set (Agree.refl _) rfl,?_⟩;dsimp only[uw];refine oo ?_;refine(oj _ rfl b _ dR ⟨rfl,hb,ho,jQ,λJ2 s2=>?_⟩);refine ny (by lia) (s2 _ _ aV) gS ⟨(p1.trans s2).new hD,?_⟩;rw[k8 (λ_=>true) hx,bb];rfl
 obtain⟨p1,rfl⟩:=pp;rw[i8]at aV;refine(lc D (xs.map λ_=>true) ⟨rfl,aV,?_⟩);rw[ahg];refine⟨true,rfl,oo ?_⟩;have DH:=s1.trans p1;refine(mm _ rfl r ⟨rfl,⟨_,SqL.of<|DH _ _ hR⟩,λD2 dH=>?_⟩);refine nz (xs:=ys) (λi zs J2=>Same J J2/\zs=((ys.take i).map λ_=>true).map V.bl) ⟨Same.fresh _ dH,rfl⟩ (λi zs J p=>SqL.of<|p.1 _ _<|DH _ _ hR) (λi x zs J2 hx hi aV gS pp=>?_) λzs J2 aV gS pp=>?_
 .obtain⟨p2,rfl⟩:=pp;obtain⟨d,hd,rd⟩:=rY.at hx;rw[a8]at hd;obtain⟨ws,hws,rfl⟩:=bo.mp hd;rw[a8]at hws;obtain⟨pq,wB,rfl⟩:=bo.mp hws;obtain⟨b,rfl,hb⟩:=CJ<|Rep.same (DH.trans p2) rd;refine⟨Agree.set (Agree.refl _) rfl,?_⟩;dsimp only[uw];refine oo ?_;refine(kj _ rfl b ([⟨#[pq.1]⟩,⟨#[pq.2]⟩]) (ab "apart") 2 ⟨rfl,hb,rfl,by decide,as9<|hL pq<|aj wB,λJ3 s3=>?_⟩);refine ny (by lia) (s3 _ _ aV) gS ⟨(p2.trans s3).new dH,?_⟩;rw[k8 (λ_=>true) hx,bb];rfl
 obtain⟨p2,rfl⟩:=pp;rw[i8]at aV;refine(lc D2 (ys.map λ_=>true) ⟨rfl,aV,?_⟩);rw[ahg];exact q _<|DH.trans p2
def ax6:Sp:=λvs H Q _=>∃(ss:U Sg)(dR:Str),vs=[.str dR]/\PicOf ss dR/\FrS ss/\∀(r:aE)(H':Hp),Same H H'->Rep H' (.tuple<|ss.map sgD) (.ref r)->Q (.ref r) H'
def ay0:lq ["picture"] ["picture"] (k9 sRf):={}
theorem aw9(uY:GS mg "NO_CELL" ".")(zL:Fn P w K mg base "floor_spots" 1 ["floor"] amx)(zS:Fn P w K mg base "formed" 1 ["spots"] HZ)(F:Fun K "read_form" "read_form" sRf f fd):qp P w K mg base CX0 2 f fd ["picture"] ax6:=by
 refine F.ok (k:=1) ay0 (λvs H Q E h=>?_) λbT A outer s H vs Q E hr h=>?_
 .obtain⟨_,_,rfl,_⟩:=h;rfl
 obtain⟨ss,dR,rfl,hp,hf,q⟩:=h;have hl:=hf.ltr;have DR:=(hp.wd hl).2.1;obtain⟨t,lf,N,W,hN,hW,n0,nO,w0,zV,rfl⟩:=hp;obtain⟨sp,ln,fin⟩:=anf hf (t:=t) (l:=lf) hN hW;have FZ:=hf.fr.1.pre.six;have xV:=hf.fr.1.pre.pos;rw[ae]at FZ xV;have mC:(pk<|qt ss t lf N W).length=N:=sd _;have wA:PcR (pk<|qt ss t lf N W):=λz hz=>⟨by rw[(ux hl hz).1];exact zV,λc hc=>by
  rcases(ux hl hz).2 c hc with rfl|h
  .decide
  .have:=h.2;lia⟩
 refine⟨_,(ku<|li<|lv zS hr (by decide) rfl<|kq (mr Z6 [none] rfl rfl (by decide +kernel) (by decide +kernel) rfl rfl (pc<|lv zL hr (by decide) rfl<|kq (rh bw jz j3 yf (pv 0)<|kq l7 kh) kh) (λ_=>(k7 (i:=0) (show(Z6:U PySem.Str).Nodup by decide +kernel) rfl<|Or.inl rfl)) (λ_=>Dd<|ot zF (mi sn (pv 0) km λ_ _=>rfl) (qu uY rfl)<|nw _) λ_=>(pv 0)) kh),?_⟩;refine(m9 _ rfl rfl _ ⟨47,rfl,by rw[e47],ck<|lu<|by lia,λl Ak=>?_⟩);rw[ayo hl n0];generalize g1:upd H l _=H1 at *;obtain⟨s1,e1⟩:=al Ak g1;clear g1;refine(lc l _ ⟨rfl,e1,by lia,wA,λD ys H2 s2 hD dB=>?_⟩);rw[mC,abn (qt ss t lf N W) N<|aq _]at dB;have dB:RepAll H2 (yo<|qt ss t lf N W) ys:=dB;have F6:Spots (yo<|qt ss t lf N W):=λd hd=>by obtain⟨r,c,_,_,rfl⟩:=(ahp _ _).mp hd;exact(mf _ _ _ rfl)
 have lrd:(yo<|qt ss t lf N W).length<=100:=by unfold yo;rw[ae,jb];exact Nat.mul_le_mul nO zV
 generalize yo (qt ss t lf N W)=rd at *;have ly:=dB.length;refine⟨D,rfl,⟨_,SqL.of hD⟩,λD2 dH=>?_⟩;refine nz (xs:=ys) (λi zs J=>Same H2 J/\RepAll J ((rd.take i).filter isP) zs) ⟨Same.fresh _ dH,rfl⟩ (λi zs J p=>SqL.of<|p.1 _ _ hD) (λi x zs J hx hi aV gS pp=>?_) λzs J aV gS pp=>?_
 .obtain⟨p1,p2⟩:=pp;obtain⟨b,r,c,z,rfl,hb,hz,hd⟩:=F6.at dB hx;have hbJ:=p1 _ _ hb;have step:(rd.take<|i+1).filter isP=(rd.take i).filter isP++if isP (.tuple [.int r,.int c,.str z])=true then[.tuple [.int r,.int c,.str z]]else[]:=by
   rw[jo,hd,List.filter_append]
   congr 1
   show List.filter isP [_]=_;rw[List.filter_cons,List.filter_nil]
  refine⟨Agree.set (Agree.refl _) rfl,?_⟩;refine(kj _ rfl b _ _ _ ⟨rfl,rfl,SqT.of hbJ,ni (j:=2) rfl,rfl,_,rfl,?_⟩);rw[e46];refine ur (λhc=>?_) λhc=>?_
  .have hP:isP (.tuple [.int r,.int c,.str z])=true:=by
    show(!decide (z=⟨#[46]⟩))=true;rw[decide_eq_false]
    .rfl
    .rintro rfl;exact absurd hc<|by simp
   refine⟨_,rfl,ny (by lia) aV gS ⟨p1.new dH,?_⟩⟩;rw[step,if_pos hP];have im:qd ((rd.take i).filter isP++[.tuple [.int r,.int c,.str z]])=true:=Spots.imm λd hd=>by
    rcases bm.mp hd with h|h
    .exact F6 d<|dn (gg.mp h).1
    .rw[ay.mp h];exact(mf _ _ _ rfl)
   exact(p2.snoc<|wa hbJ hz).tk (Tk.lst aV) im
  .have hP:¬isP (.tuple [.int r,.int c,.str z])=true:=λh=>by
    have h:(!decide (z=⟨#[46]⟩))=true:=h;refine hc ?_;cases nR:decide (z=⟨#[46]⟩)with
    | true=>rw[nR]at h;cases h
    | false=>
     have:=of_decide_eq_false nR;rw[decide_eq_false (λe=>this<|by injection e)];rfl
   refine⟨zs,aV,by lia,p1,?_⟩;rw[step,if_neg hP,ie];exact p2
 obtain⟨p1,p2⟩:=pp;rw[au (by lia)]at p2;refine(mf D2 zs _ ⟨rfl,.inl aV,p2,sp,by lia,by lia,λr H9 s9 tV=>?_⟩);rw[fin]at tV;exact q r H9 (((s1.trans s2).trans p1).trans s9) tV
def ayn:Sp:=λvs H Q _=>∃(l:aE)(k:Kr)(dR:Str),vs=[.ref l]/\H l=some (.lst<|(wp k dR).map V.str)/\KrO k/\PicOf k.ss dR/\∀(r:aE)(H':Hp),Same H H'->Rep H' (krD k) (.ref r)->Q (.ref r) H'
def scRk:lq ["words","most"] Z7 (k9 sRk):={}
theorem awt(B:∀x∈sw,mg x=none)(uZ:GS mg "ENDLESS" "any")(Frf:Fn P w K mg base "read_form" 2 ["picture"] ax6)(F:Fun K "read_kind" "read_kind" sRk f fd):qp P w K mg base CX0 3 f fd Z7 ayn:=by
 refine F.ok (k:=2) scRk (λvs H Q E h=>?_) λbT A outer s H vs Q E hr h=>?_
 .obtain⟨_,_,_,rfl,_⟩:=h;rfl
 obtain⟨l,k,dR,rfl,hl,ho,hp,q⟩:=h;refine⟨_,(kl (me (i:=1) scRk.nd rfl (Or.inl rfl)<|ahi (ot wm (mi nv (pv 0) km λ_ _=>rfl) (qu uZ rfl)<|nw _) CQ<|vx zh rfl (B "int"<|by decide) PyProof.Rows.boot_int<|kq (mi nv (pv 0) km λ_ _=>rfl) kh)
  (ku<|li<|o6<|kq (mi nv (pv 0) km λ_ _=>rfl)<|kq (vx zh rfl (B "int"<|by decide) PyProof.Rows.boot_int<|kq (mi nv (pv 0) km λ_ _=>rfl) kh)<|kq (pv 1)<|kq (mi nv (pv 0) km λ_ _=>rfl)<|kq (lv Frf hr (by decide) rfl<|kq (mi nv (pv 0) km λ_ _=>rfl) kh) kh)),?_⟩
 dsimp only[ub];refine JK (λσ' G=>∃v:V,σ'=[some (.ref l),some v]/\G=H/\∀H',Rep H' (mD k.m) v) ?_ λDh ll rtE=>?_
 case' refine_2=>
  refine(kj _ rfl l _ _ (.str<|zB k.m) ⟨rfl,rfl,SqL.of hl,ni (j:=3) rfl,rfl,_,rfl,?_⟩);cases e:k.m with
  | none=>
   refine ur (λ_=>?_) λh=>absurd (decide_eq_true rfl) h;exact ll _ _ ⟨_,rfl,rfl,λH'=>by rw[e];exact rfl⟩
  | some j=>
   have hj:=ho.m64 j e;refine ur (λh=>?_) λ_=>?_
   .have:=of_decide_eq_true h;injection this with this
    exact absurd this (C9 j hj).2.2
   .refine(kj _ rfl l _ _ (.str<|qA j) ⟨rfl,rfl,SqL.of hl,ni (j:=3)<|by unfold wp;rw[e];rfl,(j:Nat),rfl,by lia,by lia,?_⟩);exact ll _ _ ⟨_,rfl,rfl,λH'=>by rw[e];exact rfl⟩
 rintro σ' G ⟨v,rfl,rfl,hv⟩;refine(kj _ rfl l _ _ (.str k.z) ⟨rfl,rfl,SqL.of hl,ni (j:=1) rfl,(kj _ rfl l _ _ (.str<|qA k.l) ⟨rfl,rfl,SqL.of hl,ni (j:=2) rfl,(k.l:Nat),rfl,by lia,by have:=ho.l64;lia,(oh _ rfl _ rfl l _ _ ⟨.str k.md,rfl,rfl,SqL.of hl,ni (j:=4) rfl,(kj _ rfl l _ _ (.str dR) ⟨rfl,rfl,SqL.of hl,ni (j:=5) rfl,(lc k.ss dR ⟨rfl,hp,ho.fs,λr H1 s1 xN=>?_⟩)⟩)⟩)⟩)⟩);refine⟨sZ5,λt ht=>?_⟩;generalize g1:upd H1 t _=H2 at *;obtain⟨s2,e2⟩:=al ht g1;clear g1;refine q t H2 (s1.trans s2)<|ou t _ rfl e2 _ _ rfl ⟨rfl,(av3 ho.nm).as.ok⟩ _<|m9 _ rfl rfl _<|m9 _ rfl (hv _) _<|m9 _ rfl ⟨rfl,(au4 ho.md).as.ok⟩ _ ⟨_,rfl,Rep.same s2 xN,rfl⟩
noncomputable def prE(p:Nat×Nat):Z9:=.tuple [.str ⟨#[p.1]⟩,.str ⟨#[p.2]⟩]
structure Tz(zs:U Str)(ks:U Kr)(ps:U (Nat×Nat))(cR:U (U Str)):Prop where
 pz:PzV (.tuple [.tuple (zs.map PyData.str),.tuple<|ks.map krD,.tuple<|ps.map prE])
 rw:Rw menu zs
 k6:ks.length<=6
 pl:PlL ks cR
 ltr:∀q∈ps,Ltr q.1/\Ltr q.2
 p3:ps.length<=3
noncomputable def pi(zs:U Str)(ps:U (Nat×Nat))(cR:U (U Str)):U (U Str):=[ab "floor",cf ⟨#[47]⟩ zs]::(cR++ps.map prW)
noncomputable def AE(zs:U Str)(ps:U (Nat×Nat))(cR:U (U Str)):Str:=cf ⟨#[10]⟩<|(pi zs ps cR).map (cf ⟨#[32]⟩)
def au0:∀c∈menu.cps.toList,32<c/\c<128/\c≠47:=by decide +kernel
def Rw.row{zs:U Str}(h:Rw menu zs):∀z∈zs,0<z.length/\z.length<=8/\∀c∈z.cps.toList,32<c/\c<128/\c≠47:=λz hz=>by obtain⟨_,_,wd,w0,w8,hw⟩:=h;obtain⟨_,l,m⟩:=hw z hz;exact⟨by lia,by lia,λc hc=>au0 c<|m c hc⟩
def CF{zs:U Str}(h:Rw menu zs):Wd (cf ⟨#[47]⟩ zs):=by
 have hr:=Rw.row h;refine⟨ahy (λe=>by have:=h.1;rw[e]at this;simp at this) λz hz=>(hr z hz).1,?_,λc hc=>?_⟩
 .have:=xu (c:=47) (m:=8) (xs:=zs) λz hz=>(hr z hz).2.1;have h8:=h.2.1;lia
 .rcases E6 hc with rfl|⟨z,hz,Ap⟩
  .decide
  .exact⟨((hr z hz).2.2 c Ap).1,((hr z hz).2.2 c Ap).2.1⟩
def Tz.wd{zs:U Str}{ks:U Kr}{ps:U (Nat×Nat)}{cR:U (U Str)}(h:Tz zs ks ps cR):∀ws∈pi zs ps cR,ws≠[]/\ws.length<=6/\∀x∈ws,Wd x:=λws hws=>by
 rcases ar.mp hws with rfl|hws
 .refine⟨by simp,by simp,λx hx=>?_⟩;simp only[ar,dz,or_false]at hx;rcases hx with rfl|rfl
  .exact wdL<|by decide +kernel
  .exact CF h.rw
 rcases bm.mp hws with hws|hws
 .obtain⟨i,hi⟩:=bq.mp hws;have oQ:=(ap.mp hi).1;have hl:=h.pl.1;obtain⟨ho,dR,rfl,hp⟩:=h.pl.2 i _ ws (af<|by lia) hi;exact⟨by simp[wp],by simp[wp],EB ho hp⟩
 .obtain⟨p,hp,rfl⟩:=a7.mp hws;exact⟨by simp[prW],by simp[prW],as9<|h.ltr p hp⟩
def Tz.len{zs:U Str}{ks:U Kr}{ps:U (Nat×Nat)}{cR:U (U Str)}(h:Tz zs ks ps cR):(pi zs ps cR).length<=10:=by have:=h.pl.1;have:=h.k6;have:=h.p3;unfold pi;rw[bj,bn,ae];lia
def ann{ws:U Str}(h0:ws≠[])(h:∀x∈ws,Wd x):Txt.split (cf ⟨#[32]⟩ ws) ⟨#[32]⟩=ws:=wb h0 λx hx hc=>by have:=((h x hx).2.2 32 hc).1;lia
def xy{ws:U Str}(h6:ws.length<=6)(h:∀x∈ws,Wd x):(cf ⟨#[32]⟩ ws).length<=726:=by have:=xu (c:=32) (m:=120) (xs:=ws) λx hx=>(h x hx).2.1;lia
def an0{zs:U Str}{ks:U Kr}{ps:U (Nat×Nat)}{cR:U (U Str)}(h:Tz zs ks ps cR):Txt.split (AE zs ps cR) ⟨#[10]⟩=(pi zs ps cR).map (cf ⟨#[32]⟩):=by
 refine wb (by simp[pi]) λx hx hc=>?_;obtain⟨ws,hws,rfl⟩:=a7.mp hx;rcases E6 hc with h|⟨z,hz,Ap⟩
 .cases h
 .have:=(((h.wd ws hws).2.2 z hz).2.2 10 Ap).1;lia
def aov{zs:U Str}{ks:U Kr}{ps:U (Nat×Nat)}{cR:U (U Str)}(h:Tz zs ks ps cR):(AE zs ps cR).length<=7270:=by
 have:=xu (c:=10) (m:=726) (xs:=(pi zs ps cR).map (cf ⟨#[32]⟩)) λx hx=>by obtain⟨ws,hws,rfl⟩:=a7.mp hx;exact xy (h.wd ws hws).2.1 (h.wd ws hws).2.2
 have hl:=h.len;rw[ae]at this;have:(pi zs ps cR).length*727<=10*727:=Nat.mul_le_mul_right _ hl;unfold AE;lia
def LsJ(J:Hp)(D:aE)(cR:U (U Str))(zs:U V):Prop:=zs.length=cR.length/\∀(i:Nat) v ws,zs[i]?=some v->cR[i]?=some ws->∃l,v=.ref l/\l≠D/\J l=some (.lst<|ws.map V.str)
def LsJ.snoc{J J':Hp}{D l:aE}{cR:U (U Str)}{zs:U V}{ws:U Str}(h:LsJ J D cR zs)(k:∀a o,a≠D->J a=some o->J' a=some o)(n:l≠D)(hl:J' l=some (.lst<|ws.map V.str)):LsJ J' D (cR++[ws]) (zs++[.ref l]):=by
 refine⟨by rw[bn,bn,h.1];rfl,λi v ws' h1 h2=>?_⟩;by_cases hi:i<zs.length
 .rw[cq hi]at h1;rw[cq (by rw[<-h.1];exact hi)]at h2;obtain⟨l',rfl,n',e⟩:=h.2 i v ws' h1 h2;exact⟨l',rfl,n',k _ _ n' e⟩
 .have jE:=(ap.mp h1).1;rw[bn,et]at jE;have e:i=zs.length:=by lia
  subst e;rw[bu (by lia),jq]at h1;rw[h.1,bu<|by lia,jq]at h2;cases h1;cases h2;exact⟨l,rfl,n,hl⟩
theorem apz{J:Hp}{D:aE}:∀{cR:U (U Str)} {zs:U V},LsJ J D cR zs->(∀ws∈cR,∀x∈ws,As x)->RepAll J (cR.map wsD) zs
 | [],zs,h,_=>fj.mp h.1
 | ws::cR,zs,h,ha=>by
  obtain _|⟨v,zs⟩:=zs
  .have:=h.1;simp at this
  obtain⟨l,rfl,_,e⟩:=h.2 0 v ws rfl rfl;refine(lc _ _ ⟨rfl,(lc l _ ⟨rfl,e,vm<|ha ws am⟩),apz ⟨by have:=h.1;simp at this;exact this,λi v ws h1 h2=>h.2 (i+1) v ws h1 h2⟩ λws hws=>ha ws<|ao _ hws⟩)
noncomputable def hdP(w:Str):Z9->Bool
 | .list (.str z::_)=>decide (z=w)
 | _=>false
theorem aqh(w:Str)(cR:U (U Str)):(cR.map wsD).filter (hdP w)=(cR.filter λws=>decide<|ws.head?=some w).map wsD:=by
 rw[List.filter_map]
 congr 1
 refine List.filter_congr λws _=>?_;cases ws with
 | nil=>rfl
 | cons z t=>
  show decide (z=w)=decide (some z=some w);rw[decide_eq_decide];exact⟨λe=>by rw[e],λe=>ca e⟩
def al1{zs:U Str}{ks:U Kr}{ps:U (Nat×Nat)}{cR:U (U Str)}(h:Tz zs ks ps cR):(pi zs ps cR).filter (λws=>decide<|ws.head?=some (ab "piece"))=cR/\(pi zs ps cR).filter (λws=>decide<|ws.head?=some (ab "apart"))=ps.map prW:=by
 have hw:∀ws∈cR,ws.head?=some (ab "piece"):=λws hws=>by obtain⟨i,hi⟩:=bq.mp hws;have oQ:=(ap.mp hi).1;have hl:=h.pl.1;obtain⟨ho,dR,rfl,hp⟩:=h.pl.2 i _ ws (af<|by lia) hi;rfl
 have n1:ab "floor"≠ab "piece":=by decide +kernel
 have n2:ab "floor"≠ab "apart":=by decide +kernel
 have n3:ab "apart"≠ab "piece":=by decide +kernel
 unfold pi;constructor
 .rw[List.filter_cons_of_neg (by simp[n1]),List.filter_append,List.filter_eq_self.mpr λws hws=>decide_eq_true<|hw ws hws,List.filter_eq_nil_iff.mpr,ie];intro ws hws;obtain⟨p,_,rfl⟩:=a7.mp hws;simp[prW,n3]
 .rw[List.filter_cons_of_neg (by simp[n2]),List.filter_append,List.filter_eq_nil_iff.mpr,List.nil_append,List.filter_eq_self.mpr]
  .intro ws hws;obtain⟨p,_,rfl⟩:=a7.mp hws;simp[prW]
  .intro ws hws;rw[hw ws hws];simp[Ne.symm n3]
def atz(ks:U Kr):qd (ks.map krD)=true:=qz λd hd=>by
 obtain⟨k,_,rfl⟩:=a7.mp hd;have h1:qd (k.ss.map sgD)=true:=qz λd hd=>by obtain⟨s,_,rfl⟩:=a7.mp hd;rfl
 have h2:imm (mD k.m)=true:=by cases k.m<;>rfl
 show(true&&(true&&(imm (mD k.m)&&(true&&(qd (k.ss.map sgD)&&true)))))=true;rw[h1,h2];rfl
def ase(ps:U (Nat×Nat)):qd (ps.map prE)=true:=qz λd hd=>by obtain⟨k,_,rfl⟩:=a7.mp hd;rfl
theorem ah3:∀(cR:U (U Str)),ba (cR.map wsD)<=3
 | []=>by simp[ba]
 | ws::cR=>by
  have h1:=ah3 cR;have h2:∀zs:U Str,ba (zs.map PyData.str)<=1:=λzs=>by
   induction zs with
   | nil=>simp[ba]
   | cons z t ih=>simp[ba,er];lia
  have:=h2 ws;simp only[dg,ba,wsD,er];lia
def e32:ab " " = ⟨#[32]⟩:=by decide +kernel
def e10:ab "\n" = ⟨#[10]⟩:=by decide +kernel
def sl1{H:Hp}{ds es fs:U Z9}{xs ys zs:U V}(h:RepAll H ds xs)(h1:RepAll H es ys)(h2:RepAll H fs zs):RepAll H (ds.take 1++es++fs) (xs.take 1++ys++zs):=((RepAll.take 1 h).append h1).append h2
def abf{X:Cx}{N:U Str}{scope:cX}{z:CZ}:qv (mq X N scope z) (.type "tuple") (λxs H Q=>∃p ys,xs=[.ref p]/\((SqL X.K H p ys/\∀l,H l=none->Q (.ref l) (upd H l<|.tup ys))\/(SqT X.K H p ys/\Q (.ref p) H))):=oa (X:=mq X N scope z)
def ap4:Sp:=λvs H Q _=>∃(zs:U Str)(ks:U Kr) (ps:U (Nat×Nat)) (cR:U (U Str)),vs=[.str (AE zs ps cR)]/\Tz zs ks ps cR/\
 ∀(r:aE)(H':Hp),Same H H'->Rep H' (.tuple [.tuple (zs.map PyData.str),.tuple<|ks.map krD,.tuple<|ps.map prE]) (.ref r)->Q (.ref r) H'
def scRead:lq ["text","lines","pieces","pairs","kinds","puzzle"] ["text"] (k9 Ij):={}
theorem aql(B:∀x∈sw,mg x=none)(Ke:Fn P w K mg base "are_lines" 4 ZK auk)(Frk:Fn P w K mg base "read_kind" 3 Z7 ayn)(J8:Fn P w K mg base "is_puzzle" 7 Z8 au7)(F:Fun K "read" "read" Ij f fd):qp P w K mg base CX0 8 f fd ["text"] ap4:=by
 refine F.ok (k:=7) scRead (λvs H Q E h=>?_) λbT A outer s H vs Q E hr h=>?_
 .obtain⟨_,_,_,_,rfl,_⟩:=h;rfl
 obtain⟨zs,ks,ps,cR,rfl,hT,q⟩:=h;have hu:=hr.units;have aX:=hT.len;have uT:=an0 hT;have htl:=aov hT;have Bi:=hT.wd;obtain⟨hpi,hpa⟩:=al1 hT;refine⟨_,(kl (qm (om<|o4<|mj ml rfl (B "isinstance"<|by decide) en<|kq (pv 0)<|kq (o8 (v:=.ty "str") rfl (B "str"<|by decide) dJ rfl) kh) (ku JO) ng)
  (kl (sq (i:=1) ["line"] [none] scRead.nd rfl (Or.inl rfl) rfl rfl rfl (by decide +kernel) (by decide +kernel) rfl rfl (pc<|rh bw jz j3 yf (pv 0)<|kq l7 kh) (λ_=>(k7 (i:=0) (show(["line"]:U PySem.Str).Nodup by decide +kernel) rfl<|Or.inl rfl)) (λ_=>ma) λ_=>(ato bw jz j3 yf (pv 0)<|kq l7 kh))
  (kl (sq (i:=2) Z7 [none] scRead.nd rfl (Or.inl rfl) rfl rfl rfl (by decide +kernel) (by decide +kernel) rfl rfl (pc<|pv 1) (λ_=>(k7 (i:=0) (show(Z7:U PySem.Str).Nodup by decide +kernel) rfl<|Or.inl rfl)) (λ_=>Dd<|ot wm (mi JH (pv 0) km λ_ _=>rfl) l7<|nw _) λ_=>(pv 0))
  (kl (sq (i:=3) Z7 [none] scRead.nd rfl (Or.inl rfl) rfl rfl rfl (by decide +kernel) (by decide +kernel) rfl rfl (pc<|pv 1) (λ_=>(k7 (i:=0) (show(Z7:U PySem.Str).Nodup by decide +kernel) rfl<|Or.inl rfl)) (λ_=>Dd<|ot wm (mi JH (pv 0) km λ_ _=>rfl) l7<|nw _) λ_=>(pv 0))
  (kl (qm (PW.pt<|vz (ot (aqf hu) (pv 1) (nc zH (nc zH (wc Dc (pv 1) yj<|yn km)<|pv 2)<|pv 3)<|nw _)<|rj<|om<|o4<|lv Ke hr (by decide) rfl<|kq (mi nv (pv 1) km λ_ _=>rfl)<|kq (pv 2)<|kq (pv 3) kh) (ku JO) ng)
  (kl (me (i:=4) scRead.nd rfl (Or.inl rfl)<|vx oa rfl (B "tuple"<|by decide) ik<|kq (mr Z7 [none] rfl rfl (by decide +kernel) (by decide +kernel) rfl rfl (pc<|pv 2) (λ_=>(k7 (i:=0) (show(Z7:U PySem.Str).Nodup by decide +kernel) rfl<|Or.inl rfl)) (λ_=>ma) λ_=>(lv Frk hr (by decide) rfl<|kq (pv 0) kh)) kh)
  (kl (me (i:=5) scRead.nd rfl (Or.inl rfl)<|o6<|kq (vx oa rfl (B "tuple"<|by decide) ik<|kq (rh bw jz j3 yf (mi nv (mi nv (pv 1) km λ_ _=>rfl) km λ_ _=>rfl)<|kq l7 kh) kh)<|kq (pv 4)<|kq (vx oa rfl (B "tuple"<|by decide) ik<|kq (mr Z7 [none] rfl rfl (by decide +kernel) (by decide +kernel) rfl rfl (pc<|pv 3) (λ_=>(k7 (i:=0) (show(Z7:U PySem.Str).Nodup by decide +kernel) rfl<|Or.inl rfl)) (λ_=>ma) λ_=>(vx abf rfl (B "tuple"<|by decide) ik<|kq (wc aot (pv 0) (yn km) yj) kh)) kh) kh)
  (kl (qm (om<|o4<|lv J8 hr (by decide) rfl<|kq (pv 5) kh) (ku JO) ng)
  (ku<|li<|pv 5))))))))),?_⟩
 generalize hL:pi zs ps cR=L at *;generalize AE zs ps cR=tx at *;have tl:tx.length+2<=aF:=by rw[jl];lia
 refine(kj _ rfl (.str tx) ("str") (.type "str") true ⟨rfl,.str tx,rfl,true,rfl,rg ?_⟩);refine(m9 _ rfl rfl tx ⟨10,rfl,by rw[e10],tl,λl0 Ak=>?_⟩);rw[uT];generalize g1:upd H l0 _=H1 at *;obtain⟨s1,u1⟩:=al Ak g1;clear g1;refine⟨l0,rfl,⟨_,SqL.of u1⟩,λD hD=>?_⟩;refine nz (xs:=(L.map<|cf ⟨#[32]⟩).map V.str) (λi ys J=>Same H1 J/\LsJ J D (L.take i) ys) ⟨Same.fresh _ hD,rfl,λi v ws h=>by cases h⟩ (λi ys J p=>SqL.of<|p.1 _ _ u1) (λi x ys J hx hi aV bG p=>?_) λys J aV bG p=>?_
 .obtain⟨p1,p2⟩:=p;rw[a8]at hx;obtain⟨z,hz,rfl⟩:=bo.mp hx;rw[a8]at hz;obtain⟨ws,hws,rfl⟩:=bo.mp hz;obtain⟨w0,w6,ww⟩:=Bi ws<|aj hws;have wl:=xy w6 ww;refine⟨Agree.set (Agree.refl _) rfl,?_⟩;dsimp only[uw];refine oo ?_;refine(m9 _ rfl rfl (cf ⟨#[32]⟩ ws) ⟨32,rfl,by rw[e32],ck<|lu<|by lia,λl hl=>?_⟩);rw[ann w0 ww];generalize g1:upd J l _=J2 at *;obtain⟨s2,u2⟩:=al hl g1;clear g1;have nl:l≠D:=λe=>by rw[e,aV]at hl;cases hl
  have eT:i<L.length:=(ap.mp hws).1;refine ny (by lia) (s2 _ _ aV) bG ⟨(p1.trans s2).new hD,?_⟩;rw[jo,hws];exact p2.snoc (λa o ha h=>by rw[lg ha];exact s2 _ _ h) nl<|by rw[lg nl];exact u2
 obtain⟨s2,p2⟩:=p;rw[ae,ae,i8]at p2;have lx:=p2.1;have asL:∀ws∈L,∀x∈ws,As x:=λws hws x hx=>((Bi ws hws).2.2 x hx).as;have rX:=apz p2 asL;clear p2 uT tl bG hD;generalize hdD:D=Dl at *;clear hdD D;have sJ:=s1.trans s2;clear s1 s2 u1 Ak;have GR:∀(i:Nat) x,ys[i]?=some x->∃(ws:U Str)(l:aE)(z:Str)(t:U Str),L[i]?=some ws/\ws=z::t/\x=.ref l/\J l=some (.lst<|ws.map V.str):=λi x hx=>by
  obtain⟨d,hd,rd⟩:=rX.at hx;rw[a8]at hd;obtain⟨ws,hws,rfl⟩:=bo.mp hd;obtain⟨l,rfl,hl⟩:=CJ rd;obtain⟨w0,_⟩:=Bi ws<|aj hws;cases ws with
  | nil=>exact absurd rfl w0
  | cons z t=>exact(my _ l z t ⟨hws,rfl,rfl,hl⟩)
 refine(mm _ rfl Dl ⟨rfl,⟨_,SqL.of aV⟩,λD2 dH=>?_⟩);refine nz (xs:=ys) (λi zs W=>Same J W/\zs=oC (hdP<|ab "piece") (L.map wsD) ys i) ⟨Same.fresh _ dH,rfl⟩ (λi zs W p=>SqL.of<|p.1 _ _ aV) (λi x zs W hx hi wM gS p=>?_) λzs W wM gS p=>?_
 .obtain⟨p1,rfl⟩:=p;obtain⟨_,l,z,t,hws,rfl,rfl,hl⟩:=GR i x hx;refine⟨Agree.set (Agree.refl _) rfl,?_⟩;refine(kj _ rfl l _ _ (.str z) ⟨rfl,rfl,SqL.of<|p1 _ _ hl,ni (j:=0) rfl,rfl,_,rfl,?_⟩);refine av8 (by lia) (by rw[a8,hws];rfl) hx wM gS p1 (p1.new dH) ?_ λQ h=>⟨_,rfl,h⟩;show decide (z=_)=decide (V.str z=V.str _);rw[decide_eq_decide];exact⟨λe=>by rw[e],λe=>by injection e⟩
 obtain⟨s2,rfl⟩:=p;have rP:=(JJ (hdP<|ab "piece") rX).same s2;rw[aqh,hpi]at rP;generalize oC (hdP<|ab "piece") (L.map wsD) ys ys.length=px at *;have Ce:=s2 _ _ aV;refine(mm _ rfl Dl ⟨rfl,⟨_,SqL.of Ce⟩,λD3 wP=>?_⟩);refine nz (xs:=ys) (λi zs W'=>Same W W'/\zs=oC (hdP<|ab "apart") (L.map wsD) ys i) ⟨Same.fresh _ wP,rfl⟩ (λi zs W' p=>SqL.of<|p.1 _ _ Ce) (λi x zs W' hx hi kU gS p=>?_) λzs W' kU gS p=>?_
 .obtain⟨p1,rfl⟩:=p;obtain⟨_,l,z,t,hws,rfl,rfl,hl⟩:=GR i x hx;refine⟨Agree.set (Agree.refl _) rfl,?_⟩;refine(kj _ rfl l _ _ (.str z) ⟨rfl,rfl,SqL.of<|p1 _ _<|s2 _ _ hl,ni (j:=0) rfl,rfl,_,rfl,?_⟩);refine av8 (by lia) (by rw[a8,hws];rfl) hx kU gS p1 (p1.new wP) ?_ λQ h=>⟨_,rfl,h⟩;show decide (z=_)=decide (V.str z=V.str _);rw[decide_eq_decide];exact⟨λe=>by rw[e],λe=>by injection e⟩
 obtain⟨s3,rfl⟩:=p;have rA:=(JJ (hdP<|ab "apart") rX).same (s2.trans s3);rw[aqh,hpa]at rA;generalize oC (hdP<|ab "apart") (L.map wsD) ys ys.length=ax at *;have DG:=s2.trans s3;have yJ:=DG _ _ aV;have lh:=s3 _ _ wM;have rX3:=rX.same DG;have rP3:=rP.same s3;have sW:=sJ.trans DG;have lpx:=rP.length;have lax:=rA.length;rw[ae]at lpx lax;rw[ae]at lax;have hk6:=hT.k6;have gW:=hT.pl.1;have F9:=hT.p3;clear rP gS;refine(mm _ rfl _ ⟨rfl,ap9<|nk _ rfl Dl ys ⟨rfl,SqL.of yJ,λS1 Ed=>?_⟩⟩);generalize g1:upd W' S1 _=W1 at *;obtain⟨s4,u4⟩:=al Ed g1;clear g1;have u4:W1 S1=some (.lst<|nB ys none<|some ((1:Nat):Int)):=u4;rw[apq (by rw[lx,<-hL];simp[pi])]at u4;refine(kj _ rfl S1 D2 _ _ ⟨rfl,rfl,u4,s4 _ _ lh,ck<|lu<|by rw[cm];lia,λS2 Ec=>?_⟩);generalize g1:upd W1 S2 _=W2 at *;obtain⟨s5,u5⟩:=al Ec g1;clear g1;refine(kj _ rfl S2 D3 _ _ ⟨rfl,rfl,u5,(s4.trans s5) _ _ kU,ck<|lu<|by rw[bn,cm];lia,λS3 hS3=>?_⟩);generalize g1:upd W2 S3 _=W3 at *;obtain⟨s6,u6⟩:=al hS3 g1;clear g1;have pK:=(s4.trans s5).trans s6;have r1:Rep W3 (.list<|L.map wsD) (.ref Dl):=(lc Dl _ ⟨rfl,pK _ _ yJ,rX3.same pK⟩);have eL:L.map wsD=(L.map wsD).take 1++cR.map wsD++(ps.map prW).map wsD:=by rw[<-hL];unfold pi;rw[dg,bb];rfl
 have r2:Rep W3 (.list<|L.map wsD) (.ref S3):=(lc S3 _ ⟨rfl,u6,by rw[eL];exact(sl1 rX3 rP3 rA).same pK⟩);refine(lc _ _ ⟨r1,r2,by have:=ah3 L;simp[er];lia,_,rfl,?_⟩);refine ur (λh=>absurd h<|by rw[if_pos rfl,SeqAt.eqv_refl _ r1.lay];decide) λ_=>?_;have BM:=pK _ _ yJ;obtain⟨x0,FO⟩:∃x,ys[0]?=some x:=⟨_,af<|by rw[lx,<-hL];simp[pi]⟩;obtain⟨_,lf,_,_,Bh,_,rfl,hlf⟩:=GR 0 x0 FO;rw[<-hL]at Bh;cases (show[ab "floor",cf ⟨#[47]⟩ zs]=_ from ca Bh);have s26:=DG.trans pK;have BK:=s26 _ _ hlf;have rP6:=rP3.same pK;have rA6:=rA.same pK;refine(kj _ rfl Dl _ _ (.ref lf) ⟨rfl,rfl,SqL.of BM,ni (j:=0) FO,(oh _ rfl _ rfl lf D2 D3<|lr (cf ⟨#[47]⟩ zs) ks cR ps px ⟨ax,rfl,BK,CF hT.rw,pK _ _ lh,rP6,hT.pl,hk6,pK _ _ kU,rA6,hT.ltr,F9,λW4 s7=>⟨true,rfl,rg ?_⟩⟩)⟩);have s47:=pK.trans s7;have hP7:=s47 _ _ lh;have rP7:=rP6.same s7;refine(mm _ rfl D2 ⟨rfl,⟨_,SqL.of hP7⟩,λD4 Ch=>?_⟩);refine nz (xs:=px) (λi zs Y=>Same W4 Y/\RepAll Y ((ks.take i).map krD) zs) ⟨Same.fresh _ Ch,rfl⟩ (λi zs Y p=>SqL.of<|p.1 _ _ hP7) (λi x zs' Y hx hi G0 gS p=>?_) λkz Y G0 gS p=>?_
 .obtain⟨p1,p2⟩:=p;obtain⟨d,hd,rd⟩:=rP7.at hx;rw[a8]at hd;obtain⟨ws,hws,rfl⟩:=bo.mp hd;have hki:=af (show i<ks.length by lia);obtain⟨ho,dR,rfl,jQ⟩:=hT.pl.2 i _ ws hki hws;obtain⟨b,rfl,hb⟩:=CJ<|Rep.same p1 rd;refine⟨Agree.set (Agree.refl _) rfl,?_⟩;dsimp only[uw];refine oo ?_;refine(oj _ rfl b _ dR ⟨rfl,hb,ho,jQ,λr Y2 s8 rp=>?_⟩);have tJ:=s8 _ _ G0;refine ny (by lia) tJ gS ⟨(p1.trans s8).new Ch,?_⟩;have im:=atz<|ks.take<|i+1;rw[k8 krD hki]at im⊢;exact((p2.same s8).snoc rp).tk (Tk.lst tJ) im
 obtain⟨s8,p2⟩:=p;rw[au (by lia)]at p2;refine(lc D4 kz ⟨rfl,.inl ⟨SqL.of G0,λkt hkt=>?_⟩⟩);generalize g1:upd Y kt _=Y1 at *;obtain⟨s9,u9⟩:=al hkt g1;clear g1;have Fl:=(s7.trans s8).trans s9;have yH:=Fl _ _ BM;have Gz:=Fl _ _ BK;have hzs:=Rw.row hT.rw;have fw:=CF hT.rw;refine(kj _ rfl Dl _ _ (.ref lf) ⟨rfl,rfl,SqL.of yH,ni (j:=0) FO,(my lf _ _ (.str<|cf ⟨#[47]⟩ zs) ⟨rfl,rfl,SqL.of Gz,ni (j:=1) rfl,rfl,(lc _ 47 ⟨rfl,by rw[e47],ck (lu<|by have:=fw.2.1;lia),λsl mC=>?_⟩)⟩)⟩);rw[wb (λe=>by have:=hT.rw.1;rw[e]at this;simp at this) λz hz hc=>((hzs z hz).2.2 47 hc).2.2 rfl];generalize g1:upd Y1 sl _=Y2 at *;obtain⟨sA,uA⟩:=al mC g1;clear g1;refine(lc sl _ ⟨rfl,.inl ⟨SqL.of uA,λft hft=>?_⟩⟩);generalize g1:upd Y2 ft _=Y3 at *;obtain⟨sB,uB⟩:=al hft g1;clear g1;have Fj:=(Fl.trans sA).trans sB;have hA3:=Fj _ _<|pK _ _ kU;have rA3:=rA6.same Fj;refine(ul _ rfl _ rfl D3 ⟨rfl,⟨_,SqL.of hA3⟩,λD5 tJ=>?_⟩);refine nz (xs:=ax) (λi zs Z=>Same Y3 Z/\RepAll Z ((ps.take i).map prE) zs) ⟨Same.fresh _ tJ,rfl⟩ (λi zs Z p=>SqL.of<|p.1 _ _ hA3) (λi x zs' Z hx hi GZ gS p=>?_) λaz Z GZ gS p=>?_
 .obtain⟨p1,p2⟩:=p;obtain⟨d,hd,rd⟩:=rA3.at hx;rw[a8]at hd;obtain⟨ws,hws,rfl⟩:=bo.mp hd;rw[a8]at hws;obtain⟨pq,wB,rfl⟩:=bo.mp hws;obtain⟨b,rfl,hb⟩:=CJ<|Rep.same p1 rd;have hq:=hT.ltr pq<|aj wB;refine⟨Agree.set (Agree.refl _) rfl,?_⟩;dsimp only[uw];refine oo ?_;refine(mm _ rfl _ ⟨rfl,ap9<|lc b _ ⟨rfl,SqL.of hb,λS hS=>?_⟩⟩);generalize g1:upd Z S _=Z2 at *;obtain⟨t1,v1⟩:=al hS g1;clear g1;have v1:Z2 S=some (.lst<|nB ((prW pq).map V.str) (some ((1:Nat):Int)) none):=v1;rw[aoo (by simp[prW])]at v1;refine(lc S _ ⟨rfl,.inl ⟨SqL.of v1,λt ht=>?_⟩⟩);generalize g1:upd Z2 t _=Z3 at *;obtain⟨t2,v2⟩:=al ht g1;clear g1;have Eg:=(t1.trans t2) _ _ GZ;refine ny (by lia) Eg gS ⟨(p1.trans<|t1.trans t2).new tJ,?_⟩;have im:=ase<|ps.take<|i+1;rw[k8 prE wB]at im⊢;have rN:Rep Z3 (prE pq) (.ref t):=(ou t _ rfl v2 _ _ rfl ⟨rfl,(ER hq.1).as.ok⟩ _ ⟨_,rfl,⟨rfl,(ER hq.2).as.ok⟩,rfl⟩);exact((p2.same<|t1.trans t2).snoc rN).tk (Tk.lst Eg) im
 obtain⟨sC,p3⟩:=p;rw[au (by lia)]at p3;refine(lc D5 az ⟨rfl,.inl ⟨SqL.of GZ,λjR yS=>?_⟩⟩);generalize g1:upd Z jR _=Z1 at *;obtain⟨sD,uD⟩:=al yS g1;clear g1;refine⟨sZ3,λpz xX=>?_⟩;generalize g1:upd Z1 pz _=Z2 at *;obtain⟨sE,uE⟩:=al xX g1;clear g1;have DF:=(sC.trans sD).trans sE;have s9B:=(s9.trans sA).trans sB;have rF:Rep Z2 (.tuple [.tuple (zs.map PyData.str),.tuple<|ks.map krD,.tuple<|ps.map prE]) (.ref pz):=(ou pz _ rfl uE _ _ rfl (lc ft _ ⟨rfl,DF _ _ uB,vm λz hz c hc=>((hzs z hz).2.2 c hc).2.1⟩) _<|m9 _ rfl (lc kt _ ⟨rfl,((sA.trans sB).trans DF) _ _ u9,p2.same<|s9B.trans DF⟩) _ ⟨_,rfl,(lc jR _ ⟨rfl,sE _ _ uD,p3.same<|sD.trans sE⟩),rfl⟩);refine(mm _ rfl (.ref pz) ⟨rfl,awm hT.pz rF,λb Z3 sF hb=>⟨b,rfl,?_⟩⟩);have hb:=hb.mpr<|av7 hT.pz rF;subst hb;refine rg ⟨_,rfl,q pz Z3 ((((sW.trans pK).trans Fj).trans DF).trans sF)<|Rep.same sF rF⟩
noncomputable def mI(r c:Int):U Key:=[Sum.inl r,Sum.inl c]
def agq{r c r' c':Int}(h:mI r c=mI r' c'):r=r'/\c=c':=by
 unfold mI at h;injection h with h1 h2
 injection h2 with h2 _
 exact⟨Sum.inl.inj h1,Sum.inl.inj h2⟩
noncomputable def chV(c:Nat):V:=.str ⟨#[c]⟩
theorem adx(ws:U Nat):Txt.join (ab "") (ws.map λc=>(⟨#[c]⟩:Str))=⟨ws.toArray⟩:=by
 refine wz ?_;rw[qy (by decide +kernel),gy];show((ws.map λc=>[c])).flatten=_;induction ws with
 | nil=>rfl
 | cons a t ih=>rw[dg,List.flatten_cons,ih];simp
def av0{H:Hp}{ss:U Sg}{xs:U V}{i:Nat}{x:V}(dB:RepAll H (ss.map sgD) xs)(hx:xs[i]?=some x):∃s b,ss[i]?=some s/\x=.ref b/\H b=some (.tup [.int (s.1:Nat),.int (s.2.1:Nat),.str ⟨#[s.2.2]⟩]):=by obtain⟨d,hd,rd⟩:=dB.at hx;rw[a8]at hd;obtain⟨s,hs,rfl⟩:=bo.mp hd;obtain⟨b,bx,rfl,hb,x1,r1,e1,q1,x2,r2,e2,q2,x3,r3,e3,⟨q3,_⟩,e4⟩:=rd;subst e4 e3 e2 e1 q3;cases (show x1=_ from q1);cases (show x2=_ from q2);exact(lc s b ⟨hs,rfl,hb⟩)
theorem CO:∀(m:Nat)(l:U Int),(∀k:Nat,k<m->((k:Nat):Int)∈l)->m<=l.length
 | 0,_,_=>c8 _
 | m+1,l,h=>by have hm:=h m<|jv m;have:=CO m (l.erase (m:Nat)) λk hk=>(List.mem_erase_of_ne<|by lia).mpr (h k<|by lia);rw[List.length_erase_of_mem hm]at this;have:=List.length_pos_of_mem hm;lia
theorem ax8{S:U Cl}(h:Conn S)(g:Cl->Int)(hg:∀a b,Tch a b->g b<=g a+1)(h0:∃a∈S,g a=0):∀a∈S,g a<S.length:=λa ha=>du λhn=>by
 have:=CO (S.length+1) (S.map g) λk hk=>by
  cases k with
  | zero=>
   obtain⟨b,hb,e⟩:=h0;exact a7.mpr ⟨b,hb,e⟩
  | succ k=>
   refine du λqT=>?_;obtain⟨b,hb,e⟩:=h0;have:=h (λc=>g c<=(k:Nat)) ⟨b,hb,by rw[e];lia⟩ (λc d _ hd hc ht=>by have h1:=hg c d ht;have h2:g d≠((k+1:Nat):Int):=λe=>qT<|a7.mpr ⟨d,hd,e⟩;lia) a ha
   lia
 rw[ae]at this;lia
def au6{ss:U Sg}(h:FrS ss):∀s∈ss,s.1<6/\s.2.1<6:=λs hs=>by
 have p:=h.fr.1.pre;have h6:=p.six;have hp:=p.pos;rw[ae]at h6 hp;have m:=cg (f:=cl)<|cg (f:=sgD) hs;have z:∀(f:Z9->Int),yi ((ss.map sgD).map f)=0->∃d∈ss.map sgD,f d=0:=λf e=>by have:=we (ns:=(ss.map sgD).map f) (by rw[ae,ae];exact hp);rw[e]at this;exact a7.mp this
 obtain⟨d1,pQ,e1⟩:=z kE h.fr.1.r0;obtain⟨d2,kS,e2⟩:=z kC h.fr.1.c0;have a1:=ax8 p.con (·.1) (λa b t=>by unfold Tch at t;lia) ⟨_,cg pQ,e1⟩ _ m;have a2:=ax8 p.con (·.2) (λa b t=>by unfold Tch at t;lia) ⟨_,cg kS,e2⟩ _ m;rw[ae,ae]at a1 a2;have a1:((s.1:Nat):Int)<(ss.length:Nat):=a1;have a2:((s.2.1:Nat):Int)<(ss.length:Nat):=a2;lia
noncomputable def mxN:U Nat->Nat
 | []=>0
 | a::l=>qL a<|mxN l
theorem EF:∀{l:U Nat} {a:Nat},a∈l->a<=mxN l
 | b::l,a,h=>by
  rcases ar.mp h with rfl|h
  .exact Nat.le_max_left _ _
  .exact fg (EF h)<|Nat.le_max_right _ _
theorem EK{m:Nat}:∀{l:U Nat},(∀a∈l,a<=m)->mxN l<=m
 | [],_=>c8 _
 | b::l,h=>Nat.max_le.mpr ⟨h b am,EK λa ha=>h a<|ao _ ha⟩
noncomputable def mxR(ss:U Sg):Nat:=mxN<|ss.map (·.1)
noncomputable def mxC(ss:U Sg):Nat:=mxN<|ss.map (·.2.1)
noncomputable def Cz(ss:U Sg)(t l d r:Nat):Str:=cf ⟨#[47]⟩<|pk<|qt ss t l (t+(mxR ss+1)+d)<|l+(mxC ss+1)+r
noncomputable def wY(ss:U Sg):Str:=cf ⟨#[47]⟩<|pk<|qt ss 0 0 (mxR ss+1)<|mxC ss+1
def avu(ss:U Sg):Cz ss 0 0 0 0=wY ss:=by unfold Cz wY;rw[Nat.zero_add,Nat.zero_add,Nat.add_zero,Nat.add_zero]
def CA{ss:U Sg}(h:FrS ss):mxR ss<6/\mxC ss<6:=by have h6:=au6 h;exact⟨Nat.lt_succ_of_le (EK λa ha=>by obtain⟨s,hs,rfl⟩:=a7.mp ha;exact Nat.le_of_lt_succ (h6 s hs).1),Nat.lt_succ_of_le (EK λa ha=>by obtain⟨s,hs,rfl⟩:=a7.mp ha;exact Nat.le_of_lt_succ (h6 s hs).2)⟩
def Jk{ss:U Sg}(h:FrS ss):PicOf ss (wY ss):=by have:=CA h;exact(my 0 0 _ _ ⟨λs hs=>by have:s.1<=mxR ss:=EF<|cg hs;lia,λs hs=>by have:s.2.1<=mxC ss:=EF<|cg hs;lia,by lia,by lia,by lia,by lia,rfl⟩)
def EC{ss:U Sg}{f:Z9->Int}{g:Sg->Nat}(e:∀s,f (sgD s)=(g s:Nat)){M:Int}(m:M∈(ss.map sgD).map f)(m':∀a∈(ss.map sgD).map f,a<=M):M=(mxN (ss.map g):Nat):=by
 obtain⟨d,hd,e1⟩:=a7.mp m;obtain⟨s,hs,rfl⟩:=a7.mp hd;rw[e]at e1;have h1:g s<=mxN (ss.map g):=EF<|cg hs;have h2:mxN (ss.map g)<=g s:=EK λa ha=>by obtain⟨s',eF,rfl⟩:=a7.mp ha;have:=m' _<|cg<|cg eF;rw[e,<-e1]at this;lia
 lia
def apb:Sp:=λvs H Q _=>∃(tk:aE) (aR:U (U Key×V)) (ss:U Sg) (N i C:Nat),vs=[.ref tk,.int (i:Nat),.int (C:Nat)]/\H tk=some (.dT aR)/\(∀r c,zo aR (mI r c)=(look ss r c).map chV)/\C<6/\
 ∀H',Same H H'->Q (.str ⟨(qr (qt ss 0 0 N<|C+1) i).toArray⟩) H'
def auv:lq ZJ ZJ (k9 Ie):={}
def asr(B:∀x∈sw,mg x=none)(uY:GS mg "NO_CELL" ".")(F:Fun K "shown_row" "shown_row" Ie f fd):qp P w K mg base CX0 1 f fd ZJ apb:=by
 refine F.ok (k:=0) auv (λvs H Q E h=>?_) λbT A outer s H vs Q E hr h=>?_
 .obtain⟨_,_,_,_,_,_,rfl,_⟩:=h;rfl
 obtain⟨tk,aR,ss,N,i,C,rfl,hk,hv,hC,q⟩:=h;have hu:=hr.units;refine⟨_,(ku<|li<|rh bw dv dw uf l7<|kq (mr ["column","signs","row"] [none,some 0,some 1] rfl rfl (by decide +kernel) (by decide +kernel) rfl rfl (zm rfl (B "range"<|by decide)<|kq (nc o9 (pv 2) km) kh) (λ_=>(k7 (i:=0) (show(["column","signs","row"]:U PySem.Str).Nodup by decide +kernel) rfl<|Or.inl rfl)) (λ_=>ma) λ_=>(ahc (Nat.lt_of_le_of_lt (Nat.add_le_add_left (by decide) _) hu) (pv 1) (o6<|kq (pv 2)<|kq (pv 0) kh) (qu uY rfl) ⟨rfl,rfl,rfl,rfl⟩)) kh),?_⟩;have hM:∀r' c',(qt ss 0 0 N<|C+1).g r' c'=pch ss ((r':Nat)-((0:Nat):Int)) ((c':Nat)-((0:Nat):Int)):=λ_ _=>rfl;have yU:(qt ss 0 0 N<|C+1).w=C+1:=rfl;generalize qt ss 0 0 N (C+1)=M at *;refine⟨rfl,(nh _ rfl _ _ rfl rfl _ ⟨rfl,by lia,by lia,λD hD=>?_⟩)⟩;have eW:((C:Nat):Int)+1=((C+1:Nat):Int):=by lia
 rw[eW,fy];refine sk (lo:=0) (λj ys Z=>Same H Z/\ys=((qr M i).take j).map chV) ⟨Same.fresh _ hD,rfl⟩ (λj ys Z hj aV bG p=>?_) λys Z aV bG p=>?_
 .obtain⟨p1,rfl⟩:=p;have AT:=p1 _ _ hk;refine⟨Agree.set (Agree.refl _) rfl,?_⟩;dsimp only[uw];refine oo ?_;refine(mm _ rfl tk ⟨rfl,.inr ⟨_,.inl AT⟩,(mm _ rfl _ ⟨rfl,sZ2,λp4 xZ=>?_⟩)⟩);generalize g1:upd Z p4 _=Z2 at *;obtain⟨t4,c4⟩:=al xZ g1;clear g1;have c4:Z2 p4=some (.tup<|(mI ((i:Nat)-((0:Nat):Int))<|(j:Nat)-((0:Nat):Int)).map kV):=by
   rw[c4];show some (HO.tup [.int ((i:Nat):Int),.int<|0+(j:Nat)])=some (HO.tup [.int _,.int _]);rw[show((i:Nat):Int)-((0:Nat):Int)=(i:Nat) by lia,show((j:Nat):Int)-((0:Nat):Int)=0+(j:Nat) by lia]
  refine⟨_,DGet.t (t4 _ _ AT) c4,?_⟩;have ev:(zo aR<|mI ((i:Nat)-((0:Nat):Int))<|(j:Nat)-((0:Nat):Int)).getD (V.str<|ab ".")=chV (M.g i j):=by rw[hv,hM,e46];unfold pch;cases look ss ((i:Nat)-((0:Nat):Int)) ((j:Nat)-((0:Nat):Int))<;>rfl
  rw[ev];refine ny (by lia) (t4 _ _ aV) bG ⟨(p1.trans t4).new hD,?_⟩;rw[k8 chV (JD (M:=M) (r:=i) (c:=j)<|by rw[yU];exact hj)]
 .obtain⟨p1,rfl⟩:=p;rw[au (by rw[wf,yU];exact aq _)]at aV;have em:(qr M i).map chV=((qr M i).map λc=>(⟨#[c]⟩:Str)).map V.str:=by rw[gy];rfl
  have e0:(ab "").length=0:=by decide +kernel
  have fU:=cz (B:=1) ((qr M i).map λc=>(⟨#[c]⟩:Str)) λy hy=>by obtain⟨c,_,rfl⟩:=a7.mp hy;exact aq 1
  have hLl:(qr M i).length=C+1:=by rw[wf,yU]
  rw[ae]at fU;refine(mf _ D ((qr M i).map λc=>(⟨#[c]⟩:Str)) ⟨rfl,rfl,by rw[<-em];exact aV,by rw[e0];lia,?_⟩);rw[adx];exact q Z p1
def al8:Sp:=λvs H Q _=>∃(fr:aE)(xs:U V)(ss:U Sg),vs=[.ref fr]/\H fr=some (.tup xs)/\RepAll H (ss.map sgD) xs/\FrS ss/\∀H',Same H H'->Q (.str<|wY ss) H'
def scSform:lq ["form","signs","row","column","sign","last_row","last_column"] ["form"] (k9 Jb):={}
def ao1(B:∀x∈sw,mg x=none)(Fsr:Fn P w K mg base "shown_row" 1 ZJ apb)(F:Fun K "shown_form" "shown_form" Jb f fd):qp P w K mg base CX0 2 f fd ["form"] al8:=by
 refine F.ok (k:=1) scSform (λvs H Q E h=>?_) λbT A outer s H vs Q E hr h=>?_
 .obtain⟨_,_,_,rfl,_⟩:=h;rfl
 obtain⟨fr,xs,ss,rfl,lQ,dB,hf,q⟩:=h;have hu:=hr.units;have gQ:Spots (ss.map sgD):=hf.fr.1.pre.spots;have FZ:=hf.fr.1.pre.six;have xV:=hf.fr.1.pre.pos;have lx:=dB.length;have Gx:(ss.map sgD).length=ss.length:=ae _;refine⟨_,(kl (me (i:=1) scSform.nd rfl (Or.inr rfl) ah5)
  (kl (ut fq rfl (yb<|pv 0) (wq (n:=3) rfl<|lm (k7 (i:=2) scSform.nd rfl<|Or.inl rfl)<|lm (k7 (i:=3) scSform.nd rfl<|Or.inl rfl)<|lm (k7 (i:=4) scSform.nd rfl<|Or.inl rfl) qc)<|ku<|ake (Nat.lt_of_le_of_lt (Nat.add_le_add_left (by decide) _) hu) (pv 1) (o6<|kq (pv 2)<|kq (pv 3) kh) (pv 4) rfl)
  (kl (me (i:=5) scSform.nd rfl (Or.inl rfl)<|aln rfl rfl (B "max"<|by decide) (kq (mr Z6 [none] rfl rfl (by decide +kernel) (by decide +kernel) rfl rfl (yb<|pv 0) (λ_=>(k7 (i:=0) (show(Z6:U PySem.Str).Nodup by decide +kernel) rfl<|Or.inl rfl)) (λ_=>ma) λ_=>(mi sn (pv 0) km λ_ _=>rfl)) kh)<|ET km EH)
  (kl (me (i:=6) scSform.nd rfl (Or.inr rfl)<|aln rfl rfl (B "max"<|by decide) (kq (mr Z6 [none] rfl rfl (by decide +kernel) (by decide +kernel) rfl rfl (yb<|pv 0) (λ_=>(k7 (i:=0) (show(Z6:U PySem.Str).Nodup by decide +kernel) rfl<|Or.inl rfl)) (λ_=>ma) λ_=>(mi sn (pv 0) km λ_ _=>rfl)) kh)<|ET km EH)
  (ku<|li<|rh bw dv dw uf l7<|kq (mr ["row","signs","last_column"] [none,some 1,some 6] rfl rfl (by decide +kernel) (by decide +kernel) rfl rfl (zm rfl (B "range"<|by decide)<|kq (nc o9 (pv 5) km) kh) (λ_=>(k7 (i:=0) (show(["row","signs","last_column"]:U PySem.Str).Nodup by decide +kernel) rfl<|Or.inl rfl)) (λ_=>ma) λ_=>(lv Fsr hr (by decide) rfl<|kq (pv 1)<|kq (pv 0)<|kq (pv 2) kh)) kh))))),?_⟩
 intro tk qP;generalize g1:upd H tk _=H3 at *;obtain⟨s3,u3⟩:=al qP g1;clear g1;refine(mm _ rfl fr ⟨rfl,.inr ⟨⟨_,SqT.of<|s3 _ _ lQ⟩,?_⟩⟩);refine Jm (xs:=xs) (λi σ' G=>∃(y9 y10 y11:Option V) (aR:U (U Key×V)),σ'=[some (.ref fr),some<|.ref tk,y9,y10,y11,none,none]/\Same H G/\G tk=some (.dT aR)/\aR.length<=i/\∀r c,zo aR (mI r c)=(look (ss.take i) r c).map chV) ?_ (λi σ' G hi hI=>?_) (λi x σ' G hx hI=>?_) λσ' G hI=>?_
 .exact(my _ _ _ ([]) ⟨rfl,s3,u3,aq _,λr c=>rfl⟩)
 .obtain⟨_,_,_,_,_,sg,_⟩:=hI;exact SqT.of<|sg _ _ lQ
 .obtain⟨y9,y10,y11,aR,rfl,sg,hk,oP,hv⟩:=hI;obtain⟨s',b,hs,rfl,hb⟩:=av0 (dB.same sg) hx;have hi:i<xs.length:=(ap.mp hx).1;refine(nj b _ rfl (SqT.of hb) rfl _ _ rfl _<|nk _ rfl _ _ ⟨rfl,rfl,?_⟩);refine(ul _ rfl _ rfl _ ⟨rfl,_,rfl,sZ2,λt9 FS=>?_⟩);generalize g1:upd G t9 _=G2 at *;obtain⟨s9,c9⟩:=al FS g1;clear g1;have c9:G2 t9=some (.tup<|(mI (s'.1:Nat) (s'.2.1:Nat)).map kV):=c9;refine(lc tk _ ⟨rfl,DPut.t (k:=mI (s'.1:Nat) (s'.2.1:Nat)) (s9 _ _ hk) c9<|lu<|by lia,?_⟩);refine(my _ _ _ _ ⟨rfl,(sg.trans s9).new qP,kr,?_,λr c=>?_⟩)
  .have:=vg aR (mI (s'.1:Nat) (s'.2.1:Nat))<|V.str ⟨#[s'.2.2]⟩;lia
  .rw[jo,hs,ag1];show _=(look (ss.take i++[s']) r c).map chV;rw[ad1];by_cases e:r=(s'.1:Nat)/\c=(s'.2.1:Nat)
   .rw[if_pos e,if_pos<|by rw[e.1,e.2]];rfl
   .rw[if_neg e,if_neg λz=>e<|agq z];exact hv r c
 obtain⟨y9,y10,y11,aR,rfl,sg,hk,oP,hv⟩:=hI;rw[au (by lia)]at hv;refine sf 0 kE ES rfl (.inr<|sg _ _ lQ) (dB.same sg) gQ (by lia) λD1 H1 s1 uX=>?_;refine⟨rfl,(lc D1 _ ⟨rfl,uX,by rw[ae];exact xV,λM1 m1 uC=>?_⟩)⟩;refine sf 1 kC EM rfl (.inr<|s1 _ _<|sg _ _ lQ) ((dB.same sg).same s1) gQ (by lia) λD2 H2 s2 dH=>?_;refine⟨rfl,(lc D2 _ ⟨rfl,dH,by rw[ae];exact xV,λM2 m2 tZ=>?_⟩)⟩;obtain⟨R,rfl,hR6,eR⟩:∃R:Nat,M1=(R:Nat)/\R<6/\mxR ss=R:=⟨_,EC (g:=(·.1)) (λ_=>rfl) m1 uC,(CA hf).1,rfl⟩;obtain⟨C,rfl,hC6,eC⟩:∃R:Nat,M2=(R:Nat)/\R<6/\mxC ss=R:=⟨_,EC (g:=(·.2.1)) (λ_=>rfl) m2 tZ,(CA hf).2,rfl⟩;clear m1 uC m2 tZ uX dH;have gG:=s1.trans s2;have hk2:=gG _ _ hk;have sH:=sg.trans gG;have Cb:(qt ss 0 0 (R+1)<|C+1).h=R+1:=rfl;have jQ:wY ss=cf ⟨#[47]⟩ (pk<|qt ss 0 0 (R+1)<|C+1):=by unfold wY;rw[eR,eC]
 have F4:∀z∈pk (qt ss 0 0 (R+1)<|C+1),z.length<=10:=λz hz=>by rw[(ux hf.ltr hz).1];lia
 refine⟨rfl,(nh _ rfl _ _ rfl rfl _ ⟨rfl,by lia,by lia,λD hD=>?_⟩)⟩;have eW:((R:Nat):Int)+1=((R+1:Nat):Int):=by lia
 rw[eW,fy];refine sk (lo:=0) (λj ys Z=>Same H2 Z/\ys=((pk<|qt ss 0 0 (R+1)<|C+1).take j).map V.str) ⟨Same.fresh _ hD,rfl⟩ (λj ys Z hj aV bG p=>?_) λys Z aV bG p=>?_
 .obtain⟨p1,rfl⟩:=p;refine⟨Agree.set (Agree.refl _) rfl,?_⟩;dsimp only[uw];refine oo ?_;refine(uv _ rfl _ rfl _ rfl tk aR<|my ss (R+1) j C ⟨(by rw[Int.zero_add];rfl),p1 _ _ hk2,hv,hC6,λZ2 t2=>?_⟩);refine ny (by lia) (t2 _ _ aV) bG ⟨(p1.trans t2).new hD,?_⟩;rw[k8 V.str (Jh (M:=qt ss 0 0 (R+1)<|C+1) (r:=j)<|by rw[Cb];exact hj)]
 .obtain⟨p1,rfl⟩:=p;rw[au (by rw[sd,Cb];exact aq _)]at aV;have e1:(ab "/").length=1:=by decide +kernel
  have fU:=cz (B:=10) (pk<|qt ss 0 0 (R+1)<|C+1) F4;have mC:=sd<|qt ss 0 0 (R+1)<|C+1;refine(mf _ D (pk<|qt ss 0 0 (R+1)<|C+1) ⟨rfl,rfl,aV,by rw[e1];lia,?_⟩);rw[show Txt.join (ab "/") (pk<|qt ss 0 0 (R+1)<|C+1)=wY ss by rw[jQ,e47];exact PySem.StrLaws.glued_eq_join _ _];exact q Z<|sH.trans p1
def apl:Sp:=λvs H Q _=>∃(fr mo:aE)(xs:U V)(ss:U Sg)(t l d r:Nat),vs=[.ref fr,.ref mo]/\H fr=some (.tup xs)/\RepAll H (ss.map sgD) xs/\FrS ss/\H mo=some (.lst [.int (t:Nat),.int (l:Nat),.int (d:Nat),.int (r:Nat)])/\t<=2/\l<=2/\d<=2/\r<=2/\
 ∀(dR:Str)(H':Hp),Same H H'->dR=Cz ss t l d r->Q (.str dR) H'
def scLpic:lq ["_law_form","_law_more","_law_top","_law_left","_law_down","_law_right","_law_high","_law_wide","_law_signs_here","_law_row","_law_column","_law_sign","_law_rows"] ZD (k9 IE):={}
def aq9(B:∀x∈sw,mg x=none)(F:Fun K "_law_picture" "_law_picture" IE f fd):qp P w K mg base CX0 1 f fd ZD apl:=by
 refine F.ok (k:=0) scLpic (λvs H Q E h=>?_) λbT A outer s H vs Q E hr h=>?_
 .obtain⟨_,_,_,_,_,_,_,_,rfl,_⟩:=h;rfl
 obtain⟨fr,mo,xs,ss,t,l,d,r,rfl,lQ,dB,hf,Gp,t2,l2,d2,r2,q⟩:=h;have h6:=au6 hf;have hu:=hr.units;have gQ:Spots (ss.map sgD):=hf.fr.1.pre.spots;have FZ:=hf.fr.1.pre.six;have xV:=hf.fr.1.pre.pos;have lx:=dB.length;have Gx:(ss.map sgD).length=ss.length:=ae _;refine⟨_,(kl (C3 (pv 1)<|atb (n:=4) rfl<|lm (k7 (i:=2) scLpic.nd rfl<|Or.inl rfl)<|lm (k7 (i:=3) scLpic.nd rfl<|Or.inl rfl)<|lm (k7 (i:=4) scLpic.nd rfl<|Or.inl rfl)<|lm (k7 (i:=5) scLpic.nd rfl<|Or.inl rfl) qc)
  (kl (me (i:=6) scLpic.nd rfl (Or.inl rfl)<|nc o9 (mj (aeu rfl) rfl (B "max"<|by decide) iE<|kq (mr ZZ [none] rfl rfl (by decide +kernel) (by decide +kernel) rfl rfl (yb<|pv 0) (λ_=>(k7 (i:=0) (show(ZZ:U PySem.Str).Nodup by decide +kernel) rfl<|Or.inl rfl)) (λ_=>ma) λ_=>(mi sn (pv 0) km λ_ _=>rfl)) kh) km)
  (kl (me (i:=7) scLpic.nd rfl (Or.inl rfl)<|nc o9 (mj (aeu rfl) rfl (B "max"<|by decide) iE<|kq (mr ZZ [none] rfl rfl (by decide +kernel) (by decide +kernel) rfl rfl (yb<|pv 0) (λ_=>(k7 (i:=0) (show(ZZ:U PySem.Str).Nodup by decide +kernel) rfl<|Or.inl rfl)) (λ_=>ma) λ_=>(mi sn (pv 0) km λ_ _=>rfl)) kh) km)
  (kl (me (i:=8) scLpic.nd rfl (Or.inr rfl) ah5)
  (kl (ut fq rfl (yb<|pv 0) (wq (n:=3) rfl<|lm (k7 (i:=9) scLpic.nd rfl<|Or.inr rfl)<|lm (k7 (i:=10) scLpic.nd rfl<|Or.inl rfl)<|lm (k7 (i:=11) scLpic.nd rfl<|Or.inl rfl) qc)<|ku<|ake (Nat.lt_of_le_of_lt (Nat.add_le_add_left (by decide) _) hu) (pv 8) (o6<|kq (pv 9)<|kq (pv 10) kh) (pv 11) rfl)
  (kl (me (i:=12) scLpic.nd rfl (Or.inl rfl)<|pj kh)
  (kl (ut fq rfl (avr rfl (B "range"<|by decide)<|kq (nc xg km<|pv 2)<|kq (nc o9 (pv 6)<|pv 4) kh) (k7 (i:=9) scLpic.nd rfl<|Or.inr rfl)<|ku<|vy<|rh gn ge gf qk (pv 12)<|kq (rh bw dv dw uf l7<|kq (mr Zy [none,some 8,some 9] rfl rfl (by decide +kernel) (by decide +kernel) rfl rfl (avr rfl (B "range"<|by decide)<|kq (nc xg km<|pv 3)<|kq (nc o9 (pv 7)<|pv 5) kh) (λ_=>(k7 (i:=0) (show(Zy:U PySem.Str).Nodup by decide +kernel) rfl<|Or.inl rfl)) (λ_=>ma) λ_=>(ahc (Nat.lt_of_le_of_lt (Nat.add_le_add_left (by decide) _) hu) (pv 1) (o6<|kq (pv 2)<|kq (pv 0) kh) l7 ⟨rfl,rfl,rfl,rfl⟩)) kh) kh)
  (ku<|li<|rh bw dv dw uf l7<|kq (pv 12) kh)))))))),?_⟩
 refine(w4 _ rfl mo _ rfl (SqL.of Gp) rfl _ _ ⟨rfl,(lc _ _ ⟨rfl,(lc _ _ ⟨rfl,(lc _ _ ⟨rfl,rfl,?_⟩)⟩)⟩)⟩);refine sf 0 kE ES rfl (.inr lQ) dB gQ (by lia) λD1 H1 s1 uX=>?_;refine(lc D1 _ ⟨rfl,uX,by rw[ae];exact xV,λM1 m1 uC=>(lc _ _ ⟨rfl,rfl,?_⟩)⟩);refine sf 1 kC EM rfl (.inr<|s1 _ _ lQ) (dB.same s1) gQ (by lia) λD2 H2 s2 dH=>?_;refine(lc D2 _ ⟨rfl,dH,by rw[ae];exact xV,λM2 m2 tZ=>(lc _ _ ⟨rfl,rfl,?_⟩)⟩);obtain⟨R,rfl,hR6,eR⟩:∃R:Nat,M1=(R:Nat)/\R<6/\mxR ss=R:=⟨_,EC (g:=(·.1)) (λ_=>rfl) m1 uC,(CA hf).1,rfl⟩;obtain⟨C,rfl,hC6,eC⟩:∃R:Nat,M2=(R:Nat)/\R<6/\mxC ss=R:=⟨_,EC (g:=(·.2.1)) (λ_=>rfl) m2 tZ,(CA hf).2,rfl⟩;have gG:=s1.trans s2;clear m1 uC m2 tZ uX dH;intro tk qP;generalize g1:upd H2 tk _=H3 at *;obtain⟨s3,u3⟩:=al qP g1;clear g1;have sA:=gG.trans s3;have htH:=gG.free qP;refine(mm _ rfl fr ⟨rfl,.inr ⟨⟨_,SqT.of<|sA _ _ lQ⟩,?_⟩⟩);refine Jm (xs:=xs) (λi σ' G=>∃(y9 y10 y11:Option V) (aR:U (U Key×V)),σ'=[some (.ref fr),some<|.ref mo,some<|.int (t:Nat),some<|.int (l:Nat),some<|.int (d:Nat),some<|.int (r:Nat),some<|.int<|(R:Nat)+1,some<|.int<|(C:Nat)+1,some<|.ref tk,y9,y10,y11,none]/\Same H G/\G tk=some (.dT aR)/\aR.length<=i/\∀r c,zo aR (mI r c)=(look (ss.take i) r c).map chV) ?_ (λi σ' G hi hI=>?_) (λi x σ' G hx hI=>?_) λσ' G hI=>?_
 .exact(my _ _ _ ([]) ⟨rfl,sA,u3,aq _,λr c=>rfl⟩)
 .obtain⟨_,_,_,_,_,sg,_⟩:=hI;exact SqT.of<|sg _ _ lQ
 .obtain⟨y9,y10,y11,aR,rfl,sg,hk,oP,hv⟩:=hI;obtain⟨s',b,hs,rfl,hb⟩:=av0 (dB.same sg) hx;have hi:i<xs.length:=(ap.mp hx).1;refine(nj b _ rfl (SqT.of hb) rfl _ _ rfl _<|nk _ rfl _ _ ⟨rfl,rfl,?_⟩);refine(ul _ rfl _ rfl _ ⟨rfl,_,rfl,sZ2,λt9 FS=>?_⟩);generalize g1:upd G t9 _=G2 at *;obtain⟨s9,c9⟩:=al FS g1;clear g1;have c9:G2 t9=some (.tup<|(mI (s'.1:Nat) (s'.2.1:Nat)).map kV):=c9;refine(lc tk _ ⟨rfl,DPut.t (k:=mI (s'.1:Nat) (s'.2.1:Nat)) (s9 _ _ hk) c9<|lu<|by lia,?_⟩);refine(my _ _ _ _ ⟨rfl,(sg.trans s9).new htH,kr,?_,λr c=>?_⟩)
  .have:=vg aR (mI (s'.1:Nat) (s'.2.1:Nat))<|V.str ⟨#[s'.2.2]⟩;lia
  .rw[jo,hs,ag1];show _=(look (ss.take i++[s']) r c).map chV;rw[ad1];by_cases e:r=(s'.1:Nat)/\c=(s'.2.1:Nat)
   .rw[if_pos e,if_pos<|by rw[e.1,e.2]];rfl
   .rw[if_neg e,if_neg λz=>e<|agq z];exact hv r c
 obtain⟨y9,y10,y11,aR,rfl,sg,hk,oP,hv⟩:=hI;rw[au (by lia)]at hv;refine⟨sZ0,λD hD=>?_⟩;generalize g1:upd G D _=G1 at *;obtain⟨s4,u4⟩:=al hD g1;clear g1;have hDH:=sg.free hD;have nD:tk≠D:=λe=>by rw[e,hD]at hk;cases hk
 have eN:((R:Nat):Int)+1+(d:Nat)-(0-(t:Nat))=((t+(R+1)+d:Nat):Int):=by lia
 have eW:((C:Nat):Int)+1+(r:Nat)-(0-(l:Nat))=((l+(C+1)+r:Nat):Int):=by lia
 refine(nh _ rfl _ _ rfl rfl _ ⟨rfl,(nk _ rfl _ _ ⟨rfl,rfl,?_⟩)⟩);refine(lc _ _ ⟨rfl,⟨by lia,by lia,by lia,by lia⟩,?_⟩);rw[eN,fy];have hM:∀r' c',(qt ss t l (t+(R+1)+d)<|l+(C+1)+r).g r' c'=pch ss ((r':Nat)-(t:Nat)) ((c':Nat)-(l:Nat)):=λ_ _=>rfl;have Cb:(qt ss t l (t+(R+1)+d)<|l+(C+1)+r).h=t+(R+1)+d:=rfl;have yU:(qt ss t l (t+(R+1)+d)<|l+(C+1)+r).w=l+(C+1)+r:=rfl;have jQ:cf ⟨#[47]⟩ (pk<|qt ss t l (t+(R+1)+d)<|l+(C+1)+r)=Cz ss t l d r:=by unfold Cz;rw[eR,eC]
 have F4:∀z∈pk (qt ss t l (t+(R+1)+d)<|l+(C+1)+r),z.length<=10:=λz hz=>by rw[(ux hf.ltr hz).1];lia
 generalize qt ss t l (t+(R+1)+d) (l+(C+1)+r)=M at *;refine so (lo:=0-(t:Nat)) (λi σ' W=>∃(y9:Option V),σ'=[some (.ref fr),some<|.ref mo,some<|.int (t:Nat),some<|.int (l:Nat),some<|.int (d:Nat),some<|.int (r:Nat),some<|.int<|(R:Nat)+1,some<|.int<|(C:Nat)+1,some<|.ref tk,y9,y10,y11,some<|.ref D]/\Same G W/\W D=some (.lst<|((pk M).take i).map V.str)) ?_ (λi σ' W hi hI=>?_) λσ' W hI=>?_
 .exact⟨_,rfl,s4,u4⟩
 .obtain⟨y9,rfl,sW,wO⟩:=hI;refine⟨_,rfl,.inl ⟨rfl,_,SqL.of wO⟩,rfl,?_⟩;refine(nh _ rfl _ _ rfl rfl _ ⟨rfl,(nh _ rfl _ _ rfl rfl _ ⟨_,rfl,⟨by lia,by lia,by lia,by lia⟩,λD2 dH=>?_⟩)⟩);rw[eW,fy];refine sk (lo:=0-(l:Nat)) (λj ys Z=>Same W Z/\ys=((qr M i).take j).map chV) ⟨Same.fresh _ dH,rfl⟩ (λj ys Z hj aV bG p=>?_) λys Z aV bG p=>?_
  .obtain⟨p1,rfl⟩:=p;have AT:=p1 _ _<|sW _ _ hk;refine⟨Agree.set (Agree.refl _) rfl,?_⟩;dsimp only[uw];refine oo ?_;refine(mm _ rfl tk ⟨rfl,.inr ⟨_,.inl AT⟩,(mm _ rfl _ ⟨rfl,sZ2,λp4 xZ=>?_⟩)⟩);generalize g1:upd Z p4 _=Z2 at *;obtain⟨t4,c4⟩:=al xZ g1;clear g1;have c4:Z2 p4=some (.tup<|(mI ((i:Nat)-(t:Nat))<|(j:Nat)-(l:Nat)).map kV):=by
    rw[c4];show some (HO.tup [.int (0-((t:Nat):Int)+(i:Nat)),.int<|0-((l:Nat):Int)+(j:Nat)])=some (HO.tup [.int _,.int _]);rw[show 0-((t:Nat):Int)+(i:Nat)=(i:Nat)-(t:Nat) by lia,show 0-((l:Nat):Int)+(j:Nat)=(j:Nat)-(l:Nat) by lia]
   refine⟨_,DGet.t (t4 _ _ AT) c4,?_⟩;have ev:(zo aR<|mI ((i:Nat)-(t:Nat))<|(j:Nat)-(l:Nat)).getD (V.str<|ab ".")=chV (M.g i j):=by rw[hv,hM,e46];unfold pch;cases look ss ((i:Nat)-(t:Nat)) ((j:Nat)-(l:Nat))<;>rfl
   rw[ev];refine ny (by lia) (t4 _ _ aV) bG ⟨(p1.trans t4).new dH,?_⟩;rw[k8 chV (JD (M:=M) (r:=i) (c:=j)<|by rw[yU];exact hj)]
  .obtain⟨p1,rfl⟩:=p;rw[au (by rw[wf,yU];exact aq _)]at aV;have em:(qr M i).map chV=((qr M i).map λc=>(⟨#[c]⟩:Str)).map V.str:=by rw[gy];rfl
   have e0:(ab "").length=0:=by decide +kernel
   have fU:=cz (B:=1) ((qr M i).map λc=>(⟨#[c]⟩:Str)) λy hy=>by obtain⟨c,_,rfl⟩:=a7.mp hy;exact aq 1
   have hLl:(qr M i).length=l+(C+1)+r:=by rw[wf,yU]
   rw[ae]at fU;refine(mf _ D2 ((qr M i).map λc=>(⟨#[c]⟩:Str)) ⟨rfl,rfl,by rw[<-em];exact aV,by rw[e0];lia,?_⟩);rw[adx];have hDZ:=p1 _ _ wO;refine(mf D _ _ ⟨rfl,rfl,hDZ,lu<|by rw[ae,cm,sd];lia,?_⟩);refine⟨_,rfl,(sW.trans p1).new hD,?_⟩;rw[kr,k8 V.str<|Jh (M:=M) (r:=i)<|by rw[Cb];exact hi]
 .obtain⟨y9,rfl,sW,wO⟩:=hI;rw[au (by rw[sd,Cb];exact aq _)]at wO;have e1:(ab "/").length=1:=by decide +kernel
  have fU:=cz (B:=10) (pk M) F4;have mC:=sd M;refine⟨rfl,(oj _ rfl _ D (pk M) ⟨rfl,rfl,wO,by rw[e1];lia,?_⟩)⟩;rw[show Txt.join (ab "/") (pk M)=cf ⟨#[47]⟩ (pk M) by rw[e47];exact PySem.StrLaws.glued_eq_join _ _];exact q _ W (sg.trans sW) jQ
structure Tq(zs:U Str)(ks:U Kr)(ps:U (Nat×Nat)):Prop where
 pz:PzV (.tuple [.tuple (zs.map PyData.str),.tuple<|ks.map krD,.tuple<|ps.map prE])
 rw:Rw menu zs
 k6:ks.length<=6
 ko:∀k∈ks,KrO k
 ltr:∀q∈ps,Ltr q.1/\Ltr q.2
 p3:ps.length<=3
def awo{z:Str}{d:Z9}(hn:NmV z)(h:KdV z d):∃k,d=krD k/\KrO k:=by
 obtain⟨l,m,md,es,rfl,l0,l64,hm,Aj,fr⟩:=h;obtain⟨ss,rfl,hf⟩:=av6 fr;obtain⟨l,rfl⟩:=cn l0;rcases hm with rfl|⟨j,rfl,h1,h2⟩
 .exact⟨⟨z,l,none,md,ss⟩,rfl,hn,by show l<=64;lia,(λj h=>by cases h),Aj,hf⟩
 .obtain⟨j,rfl⟩:=cn (show 0<=j by lia);exact⟨⟨z,l,some j,md,ss⟩,rfl,hn,by show l<=64;lia,(λj' h=>by cases h;lia),Aj,hf⟩
theorem Jo{α β:Type}{f:β->α}{Q:β->Prop}:∀{l:List α},(∀x∈l,∃y,x=f y/\Q y)->∃ys:List β,l=ys.map f/\∀y∈ys,Q y
 | [],_=>⟨[],rfl,λy hy=>by cases hy⟩
 | x::l,h=>by
  obtain⟨y,rfl,hy⟩:=h x am;obtain⟨ys,rfl,hys⟩:=Jo λz hz=>h z<|ao _ hz;refine⟨y::ys,rfl,λz hz=>?_⟩;rcases ar.mp hz with rfl|h'
  .exact hy
  .exact hys z h'
def axu{d:Z9}(h:PzV d):∃zs ks ps,d=.tuple [.tuple (zs.map PyData.str),.tuple<|ks.map krD,.tuple<|ps.map prE]/\Tq zs ks ps:=by
 obtain⟨zs,ns,kd,pd,rfl,qD,k0,k6,Ag,nd,nm,sV⟩:=id h;obtain⟨ks,rfl,ko⟩:=Jo (f:=krD) (Q:=KrO) (l:=kd) λd hd=>by obtain⟨i,hi⟩:=bq.mp hd;obtain⟨z,hz,kv⟩:=Ag i d hi;exact awo (nm z<|aj hz) kv
 obtain⟨ps,rfl,po⟩:=Jo (f:=prE) (Q:=λq=>Ltr q.1/\Ltr q.2) (l:=pd) λd hd=>by obtain⟨x,y,rfl,h1,h2,h3⟩:=sV.1 d hd;exact⟨(x,y),rfl,⟨h1,by show x<=90;lia⟩,⟨by show 65<=y;lia,h3⟩⟩
 refine(mf zs ks ps ⟨rfl,h,qD,by rw[ae]at k6;exact k6,ko,po,by have:=sV.2.2;rw[ae]at this;exact this⟩)
noncomputable def kwE(k:Kr):U Str:=wp k<|wY k.ss
noncomputable def Io(zs:U Str)(ks:U Kr)(ps:U (Nat×Nat)):Str:=AE zs ps<|ks.map kwE
def Im{zs:U Str}{ks:U Kr}{ps:U (Nat×Nat)}(h:Tq zs ks ps):Tz zs ks ps (ks.map kwE):=by refine⟨h.pz,h.rw,h.k6,⟨ae _,λi k ws h1 h2=>?_⟩,h.ltr,h.p3⟩;rw[a8,h1]at h2;cases h2;have ho:=h.ko k<|aj h1;exact⟨ho,_,rfl,Jk ho.fs⟩
def uz(a b:Str):(a++b).cps.toList=a.cps.toList++b.cps.toList:=by show(a.cps++b.cps).toList=_;simp
def amn(fl:Str):ab "floor " ++ fl=cf ⟨#[32]⟩ [ab "floor",fl]:=by refine wz ?_;rw[rm,uz,show(ab "floor ").cps.toList=(ab "floor").cps.toList++[32] by decide +kernel];simp[cf]
def ajo(a b:Str):ab "apart " ++ a++ab " " ++ b=cf ⟨#[32]⟩ [ab "apart",a,b]:=by refine wz ?_;rw[rm,rm,uz,uz,uz,e32,show(ab "apart ").cps.toList=(ab "apart").cps.toList++[32] by decide +kernel];simp[cf]
theorem apn{H:Hp}{k:Kr}{v:V}(h:Rep H (krD k) v):∃b fr xs m,v=.ref b/\H b=some (.tup [.str k.z,.int (k.l:Nat),m,.str k.md,.ref fr])/\H fr=some (.tup xs)/\RepAll H (k.ss.map sgD) xs/\m=(match k.m with|some j=>V.int (j:Nat)|none=>.non):=by
 obtain⟨b,xs,rfl,hb,x1,r1,e1,⟨q1,_⟩,x2,r2,e2,q2,x3,r3,e3,q3,x4,r4,e4,⟨q4,_⟩,x5,r5,e5,⟨fr,ys,rfl,hf,rs⟩,e6⟩:=h;subst e6 e5 e4 e3 e2 e1 q1 q4;cases (show x2=_ from q2);refine(my b fr ys x3 ⟨rfl,hb,hf,rs,?_⟩);cases e:k.m with
 | none=>rw[e]at q3;exact q3
 | some j=>rw[e]at q3;exact q3
def tj(c:Nat)(z:Str)(h:z=⟨#[c]⟩)(xs:U Str):Txt.join z xs=cf ⟨#[c]⟩ xs:=by rw[h];exact PySem.StrLaws.glued_eq_join _ _
def EG{n:Nat}(h:n<=64):(((n:Nat):Int)).natAbs.log2<1920:=by
 have:∀n≤64,(((n:Nat):Int)).natAbs.log2<1920:=by decide +kernel
 exact this n h
def aj9:Sp:=λvs H Q _=>∃(v:V)(k:Kr),vs=[v]/\Rep H (krD k) v/\KrO k/\∀H',Same H H'->Q (.str<|cf ⟨#[32]⟩<|kwE k) H'
def scSkind:lq ["kind","most"] Z0 (k9 IH):={}
theorem aoa(B:∀x∈sw,mg x=none)(uZ:GS mg "ENDLESS" "any")(Fsf:Fn P w K mg base "shown_form" 2 ["form"] al8)(F:Fun K "shown_kind" "shown_kind" IH f fd):qp P w K mg base CX0 3 f fd Z0 aj9:=by
 refine F.ok (k:=2) scSkind (λvs H Q E h=>?_) λbT A outer s H vs Q E hr h=>?_
 .obtain⟨_,_,rfl,_⟩:=h;rfl
 obtain⟨v,k,rfl,rd,ho,q⟩:=h;have hu:=hr.units;obtain⟨b,fr,sx,mv,rfl,hb,lQ,rS,rfl⟩:=apn rd;have yF:=ho.m64;have yI:=ho.l64;refine⟨_,(kl (me (i:=1) scSkind.nd rfl (Or.inl rfl)<|ahi (ot Je (mi oq (pv 0) km λ_ _=>rfl) CQ<|nw _) (qu uZ rfl)<|vx v4 rfl (B "str"<|by decide) dJ<|kq (mi oq (pv 0) km λ_ _=>rfl) kh)
  (ku<|li<|rh bw dv dw uf l7<|kq (pj<|kq l7<|kq (mi oq (pv 0) km λ_ _=>rfl)<|kq (vx v4 rfl (B "str"<|by decide) dJ<|kq (mi oq (pv 0) km λ_ _=>rfl) kh)<|kq (pv 1)<|kq (mi oq (pv 0) km λ_ _=>rfl)<|kq (lv Fsf hr (by decide) rfl<|kq (mi oq (pv 0) km λ_ _=>rfl) kh) kh) kh)),?_⟩
 dsimp only[ub];refine JK (λσ' W=>σ'=[some (.ref b),some<|.str<|zB k.m]/\W=H) ?_ λDh ll rtE=>?_
 case' refine_2=>
  refine(kj _ rfl b _ _ _ ⟨rfl,rfl,SqT.of hb,rfl,rfl,_,rfl,?_⟩);cases e:k.m with
  | none=>exact oo (ll _ _ ⟨by rw[e];rfl,rfl⟩)
  | some j=>exact rg<|kj _ rfl b _ _ _ ⟨rfl,rfl,SqT.of hb,rfl,(j:Nat),by rw[e],EG<|yF j e,ll _ _ ⟨by rw[e];rfl,rfl⟩⟩
 rintro σ' W ⟨rfl,rfl⟩;refine⟨rfl,(kj _ rfl b _ _ _ ⟨rfl,rfl,SqT.of hb,rfl,(kj _ rfl b _ _ _ ⟨rfl,rfl,SqT.of hb,rfl,(m9 (k.l:Nat) rfl (EG yI) _ ⟨rfl,(kj _ rfl b _ _ _ ⟨rfl,rfl,SqT.of hb,rfl,(kj _ rfl b _ _ _ ⟨rfl,rfl,SqT.of hb,rfl,(mf fr sx k.ss ⟨rfl,lQ,rS,ho.fs,λH2 t2=>?_⟩)⟩)⟩)⟩)⟩)⟩)⟩;refine⟨(by show 6<=aF;decide),λl hl=>?_⟩;generalize g1:upd H2 l _=H3 at *;obtain⟨t3,v3⟩:=al hl g1;clear g1;have yK:=EB ho<|Jk ho.fs;have fU:=cz (B:=120) (kwE k) λx hx=>(yK x hx).2.1;have zv:(ab " ").length=1:=by decide +kernel
 have l6:(kwE k).length=6:=rfl;refine(mf _ l (kwE k) ⟨rfl,rfl,v3,by rw[zv,l6];rw[l6]at fU;lia,?_⟩);rw[tj 32 _ e32];exact q H3<|t2.trans t3
def akx:Sp:=λvs H Q _=>∃(pz:aE)(zs:U Str)(ks:U Kr) (ps:U (Nat×Nat)),vs=[.ref pz]/\Rep H (.tuple [.tuple (zs.map PyData.str),.tuple<|ks.map krD,.tuple<|ps.map prE]) (.ref pz)/\Tq zs ks ps/\
 ∀(H':Hp),Same H H'->Q (.str<|Io zs ks ps) H'
def scShown:lq ["puzzle","rows","pieces","pairs"] ["puzzle"] (k9 II):={}
def ani(B:∀x∈sw,mg x=none)(Fsk:Fn P w K mg base "shown_kind" 3 Z0 aj9)(F:Fun K "shown" "shown" II f fd):qp P w K mg base CX0 4 f fd ["puzzle"] akx:=by
 refine F.ok (k:=3) scShown (λvs H Q E h=>?_) λbT A outer s H vs Q E hr h=>?_
 .obtain⟨_,_,_,_,rfl,_⟩:=h;rfl
 obtain⟨pz,zs,ks,ps,rfl,rp,hT,q⟩:=h;have hu:=hr.units;obtain⟨_,_,e0,xX,f0,r1,e1,⟨fl,fx,e2,BV,rF⟩,k0,r2,e3,⟨kd,kx,e4,BN,rK⟩,p0,r3,e5,⟨pd,px,e6,xY,rP⟩,e7⟩:=rp;cases e0;subst e7 e6 e5 e4 e3 e2 e1;cases xh rF;have lk:=rK.length;have lp:=rP.length;rw[ae]at lk lp;have k6:=hT.k6;have p3:=hT.p3;have hz:=Rw.row hT.rw;have fw:=CF hT.rw;refine⟨_,(kl (me (i:=1) scShown.nd rfl (Or.inl rfl)<|rh bw dv dw ag3 l7<|kq (mi oq (pv 0) km λ_ _=>rfl) kh)
  (kl (sq (i:=2) Z0 [none] scShown.nd rfl (Or.inl rfl) rfl rfl rfl (by decide +kernel) (by decide +kernel) rfl rfl (vp<|mi oq (pv 0) km λ_ _=>rfl) (λ_=>(k7 (i:=0) (show(Z0:U PySem.Str).Nodup by decide +kernel) rfl<|Or.inl rfl)) (λ_=>ma) λ_=>(lv Fsk hr (by decide) rfl<|kq (pv 0) kh))
  (kl (sq (i:=3) ["one","other"] [none,none] scShown.nd rfl (Or.inl rfl) rfl rfl rfl (by decide +kernel) (by decide +kernel) rfl rfl (vp<|mi oq (pv 0) km λ_ _=>rfl) (λ_=>(Db (n:=2) rfl<|lm (k7 (i:=0) (show(["one","other"]:U PySem.Str).Nodup by decide +kernel) rfl<|Or.inl rfl)<|lm (k7 (i:=1) (show(["one","other"]:U PySem.Str).Nodup by decide +kernel) rfl<|Or.inl rfl) qc)) (λ_=>ma) λ_=>(ati<|Az l7<|Az (Iw<|pv 0)<|Az l7<|Az (Iw<|pv 1) ax5))
  (ku<|li<|rh bw dv dw uf l7<|kq (nc zH (nc zH (pj<|kq (ati<|Az l7<|Az (Iw<|pv 1) ax5) kh)<|pv 2)<|pv 3) kh)))),?_⟩
 have hsz:=cz (B:=8) zs λz h=>(hz z h).2.1;have hz8:=hT.rw.2.1;have e1:(ab "/").length=1:=by decide +kernel
 have En:(ab "floor ").length=6:=by decide +kernel
 refine⟨rfl,(kj _ rfl pz _ _ _ ⟨rfl,rfl,SqT.of xX,rfl,(mf _ fl zs ⟨rfl,rfl,BV,by rw[e1];lia,?_⟩)⟩)⟩;rw[tj 47 _ e47];refine(kj _ rfl pz _ _ _ ⟨rfl,rfl,SqT.of xX,rfl,kd,rfl,⟨_,SqT.of BN⟩,λD hD=>?_⟩);refine qo (xs:=kx) (λi ys J=>Same H J/\ys=(((ks.take i).map kwE).map (cf ⟨#[32]⟩)).map V.str) ⟨Same.fresh _ hD,rfl⟩ (λi ys J p=>SqT.of<|p.1 _ _ BN) (λi x ys J hx hi aV bG p=>?_) λys J aV bG p=>?_
 .obtain⟨p1,rfl⟩:=p;obtain⟨d,hd,rd⟩:=(rK.same p1).at hx;rw[a8]at hd;obtain⟨k,hk,rfl⟩:=bo.mp hd;refine⟨Agree.set (Agree.refl _) rfl,?_⟩;dsimp only[uw];refine oo ?_;refine(nk _ rfl x k ⟨rfl,rd,hT.ko k<|aj hk,λJ2 t2=>?_⟩);refine ny (by lia) (t2 _ _ aV) bG ⟨(p1.trans t2).new hD,?_⟩;rw[k8 kwE hk,bb,bb];rfl
 obtain⟨p1,rfl⟩:=p;rw[au (by lia)]at aV;have BA:=p1 _ _ xY;have rP1:=rP.same p1;refine(kj _ rfl pz _ _ _ ⟨rfl,rfl,SqT.of<|p1 _ _ xX,rfl,pd,rfl,⟨_,SqT.of BA⟩,λD2 dH=>?_⟩);refine qo (xs:=px) (λi ys G=>Same J G/\ys=(((ps.take i).map prW).map (cf ⟨#[32]⟩)).map V.str) ⟨Same.fresh _ dH,rfl⟩ (λi ys G p=>SqT.of<|p.1 _ _ BA) (λi x ys G hx hi wM bG p=>?_) λys G wM bG p=>?_
 .obtain⟨p2,rfl⟩:=p;obtain⟨d,hd,rd⟩:=rP1.at hx;rw[a8]at hd;obtain⟨pq,wB,rfl⟩:=bo.mp hd;obtain⟨b,bx,rfl,hb,z1,r1,e1,⟨q1,_⟩,z2,r2,e2,⟨q2,_⟩,e3⟩:=Rep.same p2 rd;subst e3 e2 e1 q1 q2;refine(nj b _ rfl (SqT.of hb) rfl _ _ rfl _ ⟨_,rfl,rfl,?_⟩);refine⟨Agree.set (Agree.set (Agree.refl _) rfl) rfl,?_⟩;dsimp only[uw];refine oo ?_;have l1:∀c:Nat,(⟨#[c]⟩:Str).length=1:=λ_=>rfl;have la:(ab "apart ").length=6:=by decide +kernel
  have lb:(ab " ").length=1:=by decide +kernel
  have fT:∀a b:Str,(a++b).length=a.length+b.length:=λa b=>by rw[<-kY,uz,bn,kY,kY]
  have l0:∀a:Str,Str.empty++a=a:=λa=>wz (by rw[uz];rfl);refine(m9 _ rfl (by rw[l0,la];decide) _ ⟨rfl,(m9 _ rfl (by rw[l1];decide) _ ⟨rfl,by rw[l0,fT,la,l1];decide,(m9 _ rfl (by rw[l0,fT,fT,la,l1,lb];decide) _ ⟨rfl,(m9 _ rfl (by rw[l1];decide) _ ⟨rfl,by rw[l0,fT,fT,fT,la,l1,lb,l1];decide,by rw[l0,fT,fT,fT,la,l1,lb,l1];decide,?_⟩)⟩)⟩)⟩);rw[l0,ajo];refine ny (by lia) wM bG ⟨p2.new dH,?_⟩;rw[k8 prW wB,bb,bb];rfl
 obtain⟨p2,rfl⟩:=p;rw[au (by lia)]at wM;have l0:∀a:Str,Str.empty++a=a:=λa=>wz (by rw[uz];rfl);have fT:∀a b:Str,(a++b).length=a.length+b.length:=λa b=>by rw[<-kY,uz,bn,kY,kY]
 have GF:=fw.2.1;have z1:(cf ⟨#[47]⟩ zs).length<=aF:=ck (lu<|by lia);have z2:(ab "floor " ++ cf ⟨#[47]⟩ zs).length<=aF:=ck (lu<|by rw[fT,En];lia);refine⟨rfl,(m9 _ rfl (by rw[l0,En];decide) _ ⟨rfl,(m9 _ rfl z1 _ ⟨rfl,by rw[l0];exact z2,by rw[l0];exact z2,sZ1,λl hl=>?_⟩)⟩)⟩;rw[l0,amn];generalize g1:upd G l _=G1 at *;obtain⟨t1,v1⟩:=al hl g1;clear g1;refine(kj _ rfl l D _ _ ⟨rfl,rfl,v1,(p2.trans t1) _ _ aV,ck<|lu<|by simp;lia,λl2 jE=>?_⟩);generalize g1:upd G1 l2 _=G2 at *;obtain⟨t2,v2⟩:=al jE g1;clear g1;refine(kj _ rfl l2 D2 _ _ ⟨rfl,rfl,v2,(t1.trans t2) _ _ wM,ck<|lu<|by simp;lia,λS hS=>?_⟩);generalize g1:upd G2 S _=G3 at *;obtain⟨t3,v3⟩:=al hS g1;clear g1;have uV:=Im hT;have eL:([V.str (cf ⟨#[32]⟩ [ab "floor",cf ⟨#[47]⟩ zs])]++((ks.map kwE).map (cf ⟨#[32]⟩)).map V.str)++(((ps.map prW).map (cf ⟨#[32]⟩)).map V.str)=((pi zs ps<|ks.map kwE).map (cf ⟨#[32]⟩)).map V.str:=by unfold pi;rw[b9,<-bb,<-bb];rfl
 rw[eL]at v3;have aX:=uV.len;have fU:=cz (B:=726) ((pi zs ps<|ks.map kwE).map (cf ⟨#[32]⟩)) λx hx=>by obtain⟨ws,hws,rfl⟩:=a7.mp hx;exact xy (uV.wd ws hws).2.1 (uV.wd ws hws).2.2
 rw[ae]at fU;have zv:(ab "\n").length=1:=by decide +kernel
 refine(mf _ S ((pi zs ps<|ks.map kwE).map (cf ⟨#[32]⟩)) ⟨rfl,rfl,v3,by rw[zv,ae];lia,?_⟩);rw[tj 10 _ e10];exact q G3<|((p1.trans p2).trans t1).trans (t2.trans t3)
def atr:Sp:=λvs H Q _=>∃(pz st:aE)(zs:U Str)(ks:U Kr) (ps:U (Nat×Nat)),vs=[.ref pz,.ref st]/\H st=some (.lst [])/\Rep H (.tuple [.tuple (zs.map PyData.str),.tuple<|ks.map krD,.tuple<|ps.map prE]) (.ref pz)/\Tq zs ks ps/\
 ∀(H':Hp),Same H H'->Q (.str<|Io zs ks ps) H'
def scWri:lq ["_law_puzzle_here","_law_state_here","_law_floor_here","_law_kinds","_law_some","_law_lines","_law_name","_law_least","_law_most","_law_mode","_law_form","_law_more","_law_top","_law_words"] ZC (k9 HJ):={}
theorem avn(B:∀x∈sw,mg x=none)(bJ:yc P w K mg base)(Dq:Fn P w K mg base "_law_picture" 1 ZD apl)(F:Fun K "_law_written" "_law_written" HJ f fd):qp P w K mg base CX0 2 f fd ZC atr:=by
 refine F.ok (k:=1) scWri (λvs H Q E h=>?_) λbT A outer s H vs Q E hr h=>?_
 .obtain⟨_,_,_,_,_,rfl,_⟩:=h;rfl
 obtain⟨pz,st,zs,ks,ps,rfl,bS,rp,hT,q⟩:=h;have hu:=hr.units;obtain⟨_,_,e0,xX,f0,r1,e1,⟨fl,fx,e2,BV,rF⟩,k0,r2,e3,⟨kd,kx,e4,BN,rK⟩,p0,r3,e5,⟨pd,px,e6,xY,rP⟩,e7⟩:=rp;cases e0;subst e7 e6 e5 e4 e3 e2 e1;cases xh rF;have lk:=rK.length;have lp:=rP.length;rw[ae]at lk lp;have k6:=hT.k6;have p3:=hT.p3;have hz:=Rw.row hT.rw;have fw:=CF hT.rw;refine⟨_,(kl (C3 (pv 0)<|wq (n:=3) rfl<|lm (k7 (i:=2) scWri.nd rfl<|Or.inl rfl)<|lm (k7 (i:=3) scWri.nd rfl<|Or.inl rfl)<|lm (k7 (i:=4) scWri.nd rfl<|Or.inl rfl) qc)
  (kl (me (i:=5) scWri.nd rfl (Or.inl rfl)<|pj<|kq (nc uo l7<|rh bw dv dw ag3 l7<|kq (pv 2) kh) kh)
  (kl (ut fq rfl (vp<|pv 3) (wq (n:=5) rfl<|lm (k7 (i:=6) scWri.nd rfl<|Or.inl rfl)<|lm (k7 (i:=7) scWri.nd rfl<|Or.inl rfl)<|lm (k7 (i:=8) scWri.nd rfl<|Or.inl rfl)<|lm (k7 (i:=9) scWri.nd rfl<|Or.inl rfl)<|lm (k7 (i:=10) scWri.nd rfl<|Or.inl rfl) qc) (kl (me (i:=11) scWri.nd rfl (Or.inl rfl)<|pj<|kq km<|kq km<|kq km<|kq km kh)
  (kl (qm (ot (aus hu) (pv 1) (pj kh)<|nw _) (ku<|sq (i:=11) ZM [none,some 1] scWri.nd rfl (Or.inl rfl) rfl rfl rfl (by decide +kernel) (by decide +kernel) rfl rfl (zm rfl (B "range"<|by decide)<|kq km kh) (λ_=>(k7 (i:=0) (show(ZM:U PySem.Str).Nodup by decide +kernel) rfl<|Or.inl rfl)) (λ_=>ma) λ_=>(mj (ad9 rfl) rfl (B "max"<|by decide) iE<|kq km<|kq (nc xg (lv bJ hr (by decide) rfl<|kq (pv 1)<|kq km kh) km) kh)) ng)
  (kl (me (i:=12) scWri.nd rfl (Or.inl rfl)<|vx aje rfl (B "str"<|by decide) dJ<|kq (pv 8) kh)
  (kl (qm (ot Je (pv 8) CQ<|nw _) (ku<|me (i:=12) scWri.nd rfl (Or.inl rfl) l7) ng)
  (kl (me (i:=13) scWri.nd rfl (Or.inl rfl)<|pj<|kq l7<|kq (pv 6)<|kq (vx v4 rfl (B "str"<|by decide) dJ<|kq (pv 7) kh)<|kq (pv 12)<|kq (pv 9) kh)
  (ku<|vy<|rh gn ge gf qk (pv 5)<|kq (rh bw dv dw uf l7<|kq (nc zH (pv 13)<|pj<|kq (lv Dq hr (by decide) rfl<|kq (pv 10)<|kq (pv 11) kh) kh) kh) kh)))))))
  (ku<|li<|rh bw dv dw uf l7<|kq (nc zH (pv 5)<|mr ZB [none,none] rfl rfl (by decide +kernel) (by decide +kernel) rfl rfl (vp<|pv 4) (λ_=>(Db (n:=2) rfl<|lm (k7 (i:=0) (show(ZB:U PySem.Str).Nodup by decide +kernel) rfl<|Or.inl rfl)<|lm (k7 (i:=1) (show(ZB:U PySem.Str).Nodup by decide +kernel) rfl<|Or.inl rfl) qc)) (λ_=>ma) λ_=>(nc uo (nc uo (nc uo l7<|pv 0) l7)<|pv 1)) kh)))),?_⟩
 refine(w4 _ rfl pz _ rfl (SqT.of xX) rfl _ _ ⟨rfl,(lc _ _ ⟨rfl,(lc _ _ ⟨rfl,rfl,?_⟩)⟩)⟩);have hsz:=cz (B:=8) zs λz h=>(hz z h).2.1;have hz8:=hT.rw.2.1;have e1:(ab "/").length=1:=by decide +kernel
 have En:(ab "floor ").length=6:=by decide +kernel
 refine⟨rfl,(oj _ rfl _ fl zs ⟨rfl,rfl,BV,by rw[e1];lia,?_⟩)⟩;rw[tj 47 _ e47];refine(lc _ _ ⟨rfl,rfl,by rw[En];exact ck (lu<|by have:=fw.2.1;lia),sZ1,λD hD=>?_⟩);rw[amn];generalize g1:upd H D _=H1 at *;obtain⟨s1,u1⟩:=al hD g1;clear g1;refine(mm _ rfl kd ⟨rfl,⟨_,SqT.of<|s1 _ _ BN⟩,?_⟩);refine Jm (xs:=kx) (λi σ' G=>∃(y6 y7 y8 y9 y10 y11 y12 Dw:Option V),σ'=[some (.ref pz),some<|.ref st,some<|.ref fl,some<|.ref kd,some<|.ref pd,some<|.ref D,y6,y7,y8,y9,y10,y11,y12,Dw]/\Same H G/\G D=some (.lst<|(([ab "floor",cf ⟨#[47]⟩ zs]::(ks.take i).map kwE).map (cf ⟨#[32]⟩)).map V.str)) ?_ (λi σ' G hi hI=>?_) (λi x σ' G hx hI=>?_) λσ' G hI=>?_
 .exact(lr _ _ _ _ _<|mf _ _ _ ⟨rfl,s1,u1⟩)
 .obtain⟨_,_,_,_,_,_,_,_,_,sg,_⟩:=hI;exact SqT.of<|sg _ _ BN
 .obtain⟨y6,y7,y8,y9,y10,y11,y12,Dw,rfl,sg,Ef⟩:=hI;have hi:i<kx.length:=(ap.mp hx).1;obtain⟨d,hd,rd⟩:=(rK.same sg).at hx;rw[a8]at hd;obtain⟨k,hk,rfl⟩:=bo.mp hd;have ho:=hT.ko k<|aj hk;obtain⟨b,fr,sx,mv,rfl,hb,lQ,rS,rfl⟩:=apn rd;have stG:=sg _ _ bS;refine(nj b _ rfl (SqT.of hb) rfl _ _ rfl _<|nk _ rfl _ _ ⟨rfl,(lc _ _ ⟨rfl,(lc _ _ ⟨rfl,rfl,?_⟩)⟩)⟩);refine⟨sZ4,λm0 Gu=>?_⟩;generalize g1:upd G m0 _=G1 at *;obtain⟨t1,v1⟩:=al Gu g1;clear g1;refine⟨_,rfl,sZ0,λe0 GO=>?_⟩;generalize g1:upd G1 e0 _=W at *;obtain⟨t2,v2⟩:=al GO g1;clear g1;have sW:=t1.trans t2;refine(mf st e0 _ ⟨rfl,rfl,sW _ _ stG,v2,_,rfl,?_⟩);refine rg ?_;have yF:=ho.m64;have yI:=ho.l64;refine(mm _ rfl (k.m.map λj:Nat=>(j:Int)) ⟨by cases k.m<;>rfl,(λi hi=>?_),?_⟩)
  .cases e:k.m with
   | none=>rw[e]at hi;cases hi
   | some j=>
    rw[e]at hi;cases hi;exact EG<|yF j e
  dsimp only[ub];refine JK (λσ' W'=>σ'=[some (.ref pz),some<|.ref st,some<|.ref fl,some<|.ref kd,some<|.ref pd,some<|.ref D,some<|.str k.z,some<|.int (k.l:Nat),some (match k.m with|some j=>V.int (j:Nat)|none=>.non),some<|.str k.md,some<|.ref fr,some<|.ref m0,some<|.str<|zB k.m,Dw]/\W'=W) ?_ λDh ll rtE=>?_
  case' refine_2=>
   refine(m9 _ rfl rfl _ ⟨rfl,?_⟩);cases e:k.m with
   | none=>exact oo (ll _ _ ⟨by rw[e];rfl,rfl⟩)
   | some j=>exact rg<|ll _ _ ⟨by rw[e];rfl,rfl⟩
  rintro σ' W' ⟨rfl,rfl⟩;refine(ul _ rfl _ rfl (k.l:Nat) ⟨rfl,EG yI,(mm _ rfl _ ⟨rfl,sZ5,λwo hwo=>?_⟩)⟩);generalize g1:upd W' wo _=W2 at *;obtain⟨t3,v3⟩:=al hwo g1;clear g1;have GG:=t3 _ _<|sW _ _ lQ;have rS2:=(rS.same sW).same t3;have wO:=sW _ _ Ef;refine⟨_,rfl,.inl ⟨rfl,_,SqL.of<|t3 _ _ wO⟩,rfl,(uv _ rfl _ rfl _ rfl fr m0<|lr sx k.ss 0 0 0 ⟨0,rfl,GG,rS2,ho.fs,t3 _ _<|t2 _ _ v1,c8 _,c8 _,c8 _,c8 _,λdR W3 t4 jQ=>?_⟩)⟩;rw[avu]at jQ;subst jQ;refine⟨sZ1,λpo hpo=>?_⟩;generalize g1:upd W3 po _=W4 at *;obtain⟨t5,v5⟩:=al hpo g1;clear g1;have v35:=(t4.trans t5) _ _ v3;refine(my wo po _ _ ⟨rfl,rfl,v35,v5,ck (lu<|by show 5+1<=1000;decide),λro vZ=>?_⟩);generalize g1:upd W4 ro _=W5 at *;obtain⟨t6,v6⟩:=al vZ g1;clear g1;have t36:=((t3.trans t4).trans t5).trans t6;have yK:=EB ho<|Jk ho.fs;have fU:=cz (B:=120) (kwE k) λx hx=>(yK x hx).2.1;have zv:(ab " ").length=1:=by decide +kernel
  have l6:(kwE k).length=6:=rfl;refine(mf _ ro (kwE k) ⟨rfl,rfl,v6,by rw[zv,l6];rw[l6]at fU;lia,?_⟩);rw[tj 32 _ e32];have tJ:=t36 _ _ wO;refine(mf D _ _ ⟨rfl,rfl,tJ,lu<|by simp;lia,?_⟩);refine(lr _ _ _ _ _<|mf _ _ _ ⟨rfl,((sg.trans sW).trans t36).new hD,?_⟩);rw[kr,k8 kwE hk,<-List.cons_append,bb,bb];rfl
 .obtain⟨y6,y7,y8,y9,y10,y11,y12,Dw,rfl,sg,Ef⟩:=hI;rw[au (by lia)]at Ef;have uV:=Im hT;have Bz:=sg _ _ xY;have rPG:=rP.same sg;refine⟨rfl,(ul _ rfl _ rfl pd ⟨rfl,⟨_,SqT.of Bz⟩,λD2 dH=>?_⟩)⟩;refine qo (xs:=px) (λi ys J=>Same G J/\ys=(((ps.take i).map prW).map (cf ⟨#[32]⟩)).map V.str) ⟨Same.fresh _ dH,rfl⟩ (λi ys J p=>SqT.of<|p.1 _ _ Bz) (λi x ys J hx hi aV bG p=>?_) λys J aV bG p=>?_
  .obtain⟨p1,rfl⟩:=p;obtain⟨d,hd,rd⟩:=rPG.at hx;rw[a8]at hd;obtain⟨pq,wB,rfl⟩:=bo.mp hd;obtain⟨b,bx,rfl,hb,z1,r1,e1,⟨q1,_⟩,z2,r2,e2,⟨q2,_⟩,e3⟩:=Rep.same p1 rd;subst e3 e2 e1 q1 q2;refine(nj b _ rfl (SqT.of hb) rfl _ _ rfl _ ⟨_,rfl,rfl,?_⟩);refine⟨Agree.set (Agree.set (Agree.refl _) rfl) rfl,?_⟩;dsimp only[uw];refine oo ?_;have la:(ab "apart ").length=6:=by decide +kernel
   have lb:(ab " ").length=1:=by decide +kernel
   have fT:∀a b:Str,(a++b).length=a.length+b.length:=λa b=>by rw[<-kY,uz,bn,kY,kY]
   have l1:∀c:Nat,(⟨#[c]⟩:Str).length=1:=λ_=>rfl;refine(w4 _ rfl _ _ rfl rfl (by rw[la,l1];decide) _ _ ⟨rfl,rfl,by rw[fT,la,l1,lb];decide,(nk _ rfl _ _ ⟨rfl,rfl,by rw[fT,fT,la,l1,lb,l1];decide,?_⟩)⟩);rw[ajo];refine ny (by lia) aV bG ⟨p1.new dH,?_⟩;rw[k8 prW wB,bb,bb];rfl
  .obtain⟨p1,rfl⟩:=p;rw[au (by lia)]at aV;refine(my D D2 _ _ ⟨rfl,rfl,p1 _ _ Ef,aV,ck<|lu<|by simp;lia,λS hS=>?_⟩);generalize g1:upd J S _=J2 at *;obtain⟨t2,v2⟩:=al hS g1;clear g1;have eL:((([ab "floor",cf ⟨#[47]⟩ zs]::ks.map kwE).map (cf ⟨#[32]⟩)).map V.str)++(((ps.map prW).map (cf ⟨#[32]⟩)).map V.str)=((pi zs ps<|ks.map kwE).map (cf ⟨#[32]⟩)).map V.str:=by
    unfold pi;rw[<-bb,<-bb,List.cons_append]
   rw[eL]at v2;have aX:=uV.len;have fU:=cz (B:=726) ((pi zs ps<|ks.map kwE).map (cf ⟨#[32]⟩)) λx hx=>by obtain⟨ws,hws,rfl⟩:=a7.mp hx;exact xy (uV.wd ws hws).2.1 (uV.wd ws hws).2.2
   rw[ae]at fU;have zv:(ab "\n").length=1:=by decide +kernel
   refine(mf _ S ((pi zs ps<|ks.map kwE).map (cf ⟨#[32]⟩)) ⟨rfl,rfl,v2,by rw[zv,ae];lia,?_⟩);rw[tj 10 _ e10];exact q J2<|sg.trans<|p1.trans t2
def ar8{K:av}{H H':Hp}{a:aE}{xs:U V}(h:SqL K H a xs)(k:∀o,H a=some o->H' a=some o):SqL K H' a xs:=by
 rcases h with (h|⟨o,h⟩)|h
 .exact .inl<|.inl<|k _ h
 .exact .inl<|.inr ⟨o,k _ h⟩
 .exact .inr h
theorem anz(zs:U Str)(ks:U Kr)(ps:U (Nat×Nat)):(PyData.tuple [.tuple (zs.map PyData.str),.tuple<|ks.map krD,.tuple<|ps.map prE]).depth<=60:=by
 have h1:ba (zs.map PyData.str)<=1:=by
  induction zs with
  | nil=>simp[ba]
  | cons z t ih=>simp[ba,er];lia
 have hs:∀ss:U Sg,ba (ss.map sgD)<=2:=λss=>by
  induction ss with
  | nil=>simp[ba]
  | cons s t ih=>simp[ba,er,sgD];lia
 have h2:ba (ks.map krD)<=5:=by
  induction ks with
  | nil=>simp[ba]
  | cons k t ih=>
   have:=hs k.ss;have hm:(mD k.m).depth<=1:=by cases k.m<;>simp[mD,er]
   simp[ba,er,krD];lia
 have h3:ba (ps.map prE)<=3:=by
  induction ps with
  | nil=>simp[ba]
  | cons s t ih=>simp[ba,er,prE];lia
 simp[er,ba];lia
def Ey(K:av):Sp:=λvs H Q _=>∃(a:aE)(ns:U Int),vs=[.ref a]/\SqL K H a (ns.map V.int)/\ns.length<=63/\∀H',Q (.bl true) H'
def scLaw:lq ["_law_script","_law_k","_law_puzzle_here","_law_found"] ZI (k9 AA):={}
def aty(B:∀x∈sw,mg x=none)(Dv:Fn P w K mg base "_law_cell_at" 1 ZV (apk K))(zK:Fn P w K mg base "_law_state" 1 ZU aks)
  (Dp:Fn P w K mg base "_law_puzzle" 5 ZE aph) (Fsh:Fn P w K mg base "shown" 4 ["puzzle"] akx) (J6:Fn P w K mg base "_law_written" 2 ZC atr) (Di:Fn P w K mg base "read" 8 ["text"] ap4)
  (F:Fun K "law" "law" AA f fd):qp P w K mg base CX0 9 f fd ZI (Ey K):=by
 refine F.ok (k:=8) scLaw (λvs H Q E h=>?_) λbT A outer s H vs Q E hr h=>?_
 .obtain⟨a,ns,rfl,_⟩:=h;rfl
 obtain⟨a,ns,rfl,hS,h63,q⟩:=h;have hu:=hr.units;refine⟨_,(kl (ut fq rfl (zm rfl (B "range"<|by decide)<|kq (mj (ad9 rfl) rfl (B "max"<|by decide) iE<|kq km<|kq (mj (adl rfl) rfl (B "min"<|by decide) iD<|kq (mj m7 rfl (B "len"<|by decide) cb<|kq (pv 0) kh)<|kq km kh) kh) kh) (k7 (i:=1) scLaw.nd rfl<|Or.inl rfl) (kl (me (i:=2) scLaw.nd rfl (Or.inl rfl)<|lv Dp hr (by decide) rfl<|kq (lv zK hr (by decide) rfl<|kq (lv Dv hr (by decide) rfl<|kq (pv 0)<|kq (pv 1) kh)<|kq (pv 1) kh)<|kq km<|kq km<|kq km kh)
  (kl (me (i:=3) scLaw.nd rfl (Or.inl rfl)<|lv Fsh hr (by decide) rfl<|kq (pv 2) kh)
  (ku<|qm (PW.pt<|vz (om<|o4<|mj ml rfl (B "isinstance"<|by decide) en<|kq (pv 3)<|kq (o8 (v:=.ty "str") rfl (B "str"<|by decide) dJ rfl) kh)<|vz (ot zF (pv 3) (lv J6 hr (by decide) rfl<|kq (pv 2)<|kq (pj kh) kh)<|nw _)<|rj<|ot (aqf hu) (lv Di hr (by decide) rfl<|kq (pv 3) kh) (pv 2)<|nw _) (ku<|li uh) ng))))
  (ku<|li uh)),?_⟩
 refine(nh _ rfl a _ rfl (.inl hS) _<|nk _ rfl _ _ ⟨rfl,_,rfl,?_,?_,?_⟩)
 .split<;>split<;>lia
 .split<;>split<;>lia
 refine so (lo:=0) (λi σ' H'=>∃x1 x2 x3,σ'=[some (.ref a),x1,x2,x3]/\SqL K H' a (ns.map V.int)) ?_ (λi σ' G hi h=>?_) λσ' H' h=>?_
 .exact(mf _ _ _ ⟨rfl,hS⟩)
 .obtain⟨x1,x2,x3,rfl,Ed⟩:=h;refine(oh _ rfl _ rfl a ns _ ⟨rfl,Ed,by lia,λc=>(nk _ rfl _ _ ⟨rfl,λst n Bp=>?_⟩)⟩);generalize g1:upd G st _=G1 at *;obtain⟨s1,u1⟩:=al Bp g1;clear g1;have ka:∀{G':Hp},Ex [st] G G'->SqL K G' a (ns.map V.int):=λx=>ar8 Ed λo h=>x.at (mw h Bp) h;refine(lc st _ ⟨rfl,u1,⟨n,rfl⟩,λpz G2 n2 d x2 eY lP hd rp=>?_⟩);obtain⟨zs,ks,ps,rfl,hT⟩:=axu hd;have uV:=Im hT;refine(kj _ rfl pz zs ks ps ⟨rfl,rp,hT,λG3 s3=>?_⟩);have rp3:=Rep.same s3 rp;generalize eX:Io zs ks ps=tx;refine(kj _ rfl (.str tx) ("str") (.type "str") true ⟨rfl,.str tx,rfl,true,rfl,rg ?_⟩);refine(mm _ rfl _ ⟨rfl,sZ0,λe0 GO=>?_⟩);generalize g1:upd G3 e0 _=G4 at *;obtain⟨t4,v4⟩:=al GO g1;clear g1;refine(lr pz e0 zs ks ps ⟨rfl,v4,Rep.same t4 rp3,hT,λG5 t5=>?_⟩);refine⟨rfl,_,rfl,?_⟩;refine ur (λh=>absurd h<|by rw[eX];simp) λ_=>?_;refine(kj _ rfl zs ks ps _ ⟨(by rw[<-eX];rfl),uV,λr G6 s6 rr=>?_⟩);have Fq:=Rep.same s6<|Rep.same t5<|Rep.same t4 rp3;refine(um _ rfl _ _ rr Fq (anz zs ks ps) _ ⟨rfl,?_⟩);refine ur (λh=>absurd h<|by rw[if_pos rfl,SeqAt.eqv_refl _ rr.lay];decide) λ_=>?_;refine(mf _ _ _ ⟨rfl,ka ?_⟩);exact((Ex.of_same s1).trans x2).trans (Ex.of_same<|s3.trans<|t4.trans<|t5.trans s6)
 .obtain⟨x1,x2,x3,rfl,_⟩:=h;exact q H'
end
def aut{P:aK}{w:aN}{K:av}{mg:Str->Option aA}{aD:aE}{w1 v1 w2 v2 w3 v3:pF}{ep:Nat}(h:mg "TURNINGS_BY_MODE" = some (.ref aD))(ld:K.lookup aD=some ⟨.type "dict",none,.dict #[⟨eI w "still",.str "still" w1,.int 1 v1⟩,⟨eI w "turn",.str "turn" w2,.int 4 v2⟩,⟨eI w "flip",.str "flip" w3,.int 8 v3⟩] ep,#[]⟩)(nd:(aD==bE)=false):Ib P w K mg:=by
 refine⟨aD,_,[("still",.int 1 v1),("turn",.int 4 v2),("flip",.int 8 v3)],h,ld,⟨_,ep,⟨rfl,rfl,rfl⟩,rfl,λe he=>?_,?_,(show((["still","turn","flip"]:U Str).Nodup) by decide)⟩,nd,λz=>?_⟩
 .have jF:e=⟨eI w "still",.str "still" w1,.int 1 v1⟩\/e=⟨eI w "turn",.str "turn" w2,.int 4 v2⟩\/e=⟨eI w "flip",.str "flip" w3,.int 8 v3⟩:=by simpa using he
  rcases jF with rfl|rfl|rfl
  .exact⟨"still",dA P w _ w1,rfl⟩
  .exact⟨"turn",dA P w _ w2,rfl⟩
  .exact⟨"flip",dA P w _ w3,rfl⟩
 .exact .cons (dA P w _ w1) rfl<|.cons (dA P w _ w2) rfl<|.cons (dA P w _ w3) rfl .nil
 .unfold tN;by_cases h1:z=ab "still"
  .subst h1;rfl
  .by_cases h2:z=ab "turn"
   .subst h2;rfl
   .by_cases h3:z=ab "flip"
    .subst h3;rfl
    .simp[fY,h1,h2,h3,Ne.symm h1,Ne.symm h2,Ne.symm h3]
def all_mk{l:PySem.W.OpenLaw}{w:aN}{K:av}{h:Heap}{mg:Str->Option aA}{fa:aE}(X:K.In h)(G:h.Ns aM mg)(hfa:mg "law" = some (.ref fa))
  (d1:Df K "is_whole" sPw)
  (d2:Df K "is_sign" sPs)
  (d3:Df K "is_small" HP)
  (d4:Df K "is_numeral" Hz)
  (d5:Df K "is_mode" Ii)
  (d6:Df K "is_floor" HK)
  (d7:Df K "is_floor_row" Ik)
  (d8:Df K "is_floor_sign" Hw)
  (d9:Df K "floor_spots" Jc)
  (d10:Df K "touches" Hy)
  (d11:Df K "formed" HM)
  (d12:Df K "is_form" sPf)
  (d13:Df K "is_spot" HH)
  (d14:Df K "hang_together" sPh)
  (d15:Df K "touches_any" sTa)
  (d16:Df K "is_kind" HY)
  (d17:Df K "is_name" Iu)
  (d18:Df K "are_bounds" HG)
  (d19:Df K "is_puzzle" Hx)
  (d20:Df K "are_kinds" Ja)
  (d21:Df K "are_pairs" IL)
  (d22:Df K "is_pair" IB)
  (d23:Df K "read" Ij)
  (d24:Df K "are_lines" HL)
  (d25:Df K "is_line" HQ)
  (d26:Df K "is_piece_line" HS)
  (d27:Df K "is_picture" ID)
  (d28:Df K "read_kind" sRk)
  (d29:Df K "read_form" sRf)
  (d30:Df K "shown" II)
  (d31:Df K "shown_kind" IH)
  (d32:Df K "shown_form" Jb)
  (d33:Df K "shown_row" Ie)
  (d34:Df K "_law_cell_at" Ic)
  (d35:Df K "_law_state" IR)
  (d36:Df K "_law_next" Ih)
  (d37:Df K "_law_signs" IW)
  (d38:Df K "_law_grown" IN)
  (d39:Df K "_law_shifted" Jd)
  (d40:Df K "_law_drawn_form" Ir)
  (d41:Df K "_law_floor" IJ)
  (d42:Df K "_law_kind" IX)
  (d43:Df K "_law_names" Jp)
  (d44:Df K "_law_pairs" Ji)
  (d45:Df K "_law_puzzle" Ip)
  (d46:Df K "_law_picture" IE)
  (d47:Df K "_law_written" HJ)
  (d48:Df K "law" AA)
  {u1 u2 u3 u4 u5 u6 u7 u8 u9 E9 u11 u12:pF} (y1:ci K aM "MOST_SPOTS" = some (some<|.int 6 u1)) (y2:ci K aM "MOST_LINES" = some (some<|.int 8 u2)) (y3:ci K aM "CLOSED" = some (some<|.str "#" u3)) (y4:ci K aM "COVERED" = some (some<|.str "." u4)) (y5:ci K aM "FREE" = some (some<|.str "," u5)) (y6:ci K aM "LONGEST_NAME" = some (some<|.int 8 u6)) (y7:ci K aM "MOST_LAID" = some (some<|.int 64 u7)) (y8:ci K aM "MOST_KINDS" = some (some<|.int 6 u8)) (y9:ci K aM "FIGURES" = some (some<|.str "0123456789" u9)) (y10:ci K aM "MOST_FIGURES" = some (some<|.int 2 E9)) (y11:ci K aM "ENDLESS" = some (some<|.str "any" u11)) (y12:ci K aM "NO_CELL" = some (some<|.str "." u12)) {aD:aE} {w1 v1 w2 v2 w3 v3:pF} {ep:Nat} (yd:ci K aM "TURNINGS_BY_MODE" = some (some<|.ref aD)) (ld:K.lookup aD=some ⟨.type "dict",none,.dict #[⟨eI w "still",.str "still" w1,.int 1 v1⟩,⟨eI w "turn",.str "turn" w2,.int 4 v2⟩,⟨eI w "flip",.str "flip" w3,.int 8 v3⟩] ep,#[]⟩) (nd:(aD==bE)=false)
  (z1:ci K aM "len" = some none) (z2:ci K aM "min" = some none) (z3:ci K aM "max" = some none) (z4:ci K aM "sorted" = some none) (z5:ci K aM "tuple" = some none) (z6:ci K aM "list" = some none) (z7:ci K aM "isinstance" = some none) (z8:ci K aM "bool" = some none) (z9:ci K aM "range" = some none) (z10:ci K aM "str" = some none) (z11:ci K aM "int" = some none) (z12:ci K aM "all" = some none) (z13:ci K aM "any" = some none) (z14:ci K aM "abs" = some none) (z15:ci K aM "set" = some none) (z16:ci K aM "enumerate" = some none) :
  ∃fd:cM,(∀(s:aB)(v:aA),nF s fd ⟨[v],[]⟩ [("_law_script",v)])/\∀base:Heap,K.In base->base.Ns aM mg->qp l.prog w K mg base CX0 9 fa fd ZI (Ey K):=by
 obtain⟨f,fd,a,F⟩:=d48;cases hfa.symm.trans (gm X G a);have B:∀x∈sw,mg x=none:=by
  intro x hx;simp only[sw,ar,dz,or_false]at hx;rcases hx with rfl|rfl|rfl|rfl|rfl|rfl|rfl|rfl|rfl|rfl|rfl|rfl|rfl|rfl|rfl|rfl
  .exact cx X G z1
  .exact cx X G z2
  .exact cx X G z3
  .exact cx X G z4
  .exact cx X G z5
  .exact cx X G z6
  .exact cx X G z7
  .exact cx X G z8
  .exact cx X G z9
  .exact cx X G z10
  .exact cx X G z11
  .exact cx X G z12
  .exact cx X G z13
  .exact cx X G z14
  .exact cx X G z15
  .exact cx X G z16
 obtain⟨oc,od,kV,jJ,pm,an,bT,ct,tX,rfl,lk,pR⟩:=id F.ex;refine⟨j9 "law" "law" (wx AA) (v7 AA) (k9 AA) .none kV jJ pm an bT ct,λs v=>.of_eq rfl,λbase _ _=>?_⟩;have g6:G6 mg:=⟨_,gm X G y1⟩;have g8:G8 mg:=⟨_,gm X G y2⟩;have gC:GS mg "CLOSED" "#":=⟨_,gm X G y3⟩;have gP:GS mg "COVERED" ".":=⟨_,gm X G y4⟩;have gF:GS mg "FREE" ",":=⟨_,gm X G y5⟩;have Hd:GI mg "LONGEST_NAME" 8:=⟨_,gm X G y6⟩;have Ek:GI mg "MOST_LAID" 64:=⟨_,gm X G y7⟩;have Hc:GI mg "MOST_KINDS" 6:=⟨_,gm X G y8⟩;have He:GS mg "FIGURES" "0123456789":=⟨_,gm X G y9⟩;have Ej:GI mg "MOST_FIGURES" 2:=⟨_,gm X G y10⟩;have uZ:GS mg "ENDLESS" "any":=⟨_,gm X G y11⟩;have uY:GS mg "NO_CELL" ".":=⟨_,gm X G y12⟩;have dm:Ib l.prog w K mg:=aut (gm X G yd) ld nd;have Y:L3.DfX l.prog w K mg base h:=⟨rfl,rfl,rfl,X,G⟩;have nx:=d36.fx Y<|ara;have pw:=d1.fx Y<|axb B;have pS:=d2.fx Y<|awj B;have sm:=d3.fx Y<|ank B;have md:=d5.fx Y<|ard B dm;have sg:=d8.fx Y<|avb gC gP gF pS sm;have rw:=d7.fx Y<|asb B g8 sg;have fl:=d6.fx Y<|au9 B g8 rw;have tc:=d10.fx Y<|au1 B;have ta:=d15.fx Y<|awh B tc;have fm:=d11.fx Y<|au8 B;have sp:=d13.fx Y<|auq B pw pS;have ph:=d14.fx Y<|axw B ta;have pf:=d12.fx Y<|axm B g6 sp fm ph;have nm:=d17.fx Y<|arm B Hd sm;have bd:=d18.fx Y<|ate B Ek pw;have kd:=d16.fx Y<|aq2 B nm bd md pf;have pr:=d22.fx Y<|arf B pS;have sV:=d21.fx Y<|anv B pr;have kds:=d20.fx Y<|ans B Hc kd;have pz:=d19.fx Y<|atg B fl kds sV;have si:=d37.fx Y<|aod nx;have gr:=d38.fx Y<|anq B nx;have sh:=d39.fx Y<|anl B;have df:=d40.fx Y<|arz B nx si gr sh;have fo:=d41.fx Y<|ao2 B nx;have ki:=d42.fx Y<|anj B nx df;have na:=d43.fx Y<|aju B nx;have pa:=d44.fx Y<|aj5 B nx;have pu:=d45.fx Y<|ar3 B nx fo ki na pa;have nu:=d4.fx Y<|avk B He;have fs:=d9.fx Y<|aoe B;have il:=d25.fx Y<|ava B;have ic:=d27.fx Y<|asq B uY pS;have il2:=d26.fx Y<|avt Ej uZ il nu ic;have al:=d24.fx Y<|auh B il il2;have rf:=d29.fx Y<|aw9 uY fs fm;have rk:=d28.fx Y<|awt B uZ rf;have rd:=d23.fx Y<|aql B al rk pz;have lpi:=d46.fx Y<|aq9 B;have wri:=d47.fx Y<|avn B nx lpi;have sr:=d33.fx Y<|asr B uY;have sf:=d32.fx Y<|ao1 B sr;have sk:=d31.fx Y<|aoa B uZ sf;have sho:=d30.fx Y<|ani B sk;have ce:=d34.fx Y<|aqz B;have ste:=d35.fx Y<|aok;exact aty B ce ste pu sho wri rd F
def walk{l:PySem.W.OpenLaw}{q:aK}{loose:U Str}{XP:(Str->Option aA)->Heap->Prop}{YP:aN->Heap->Prop}{d:DefRec}{K:Params->av}(hn:l.most=some 63)(BZ:d.params.defaults=[])
  (hY:∀(w:aN)(h:Heap),YP w h->(K w.params).In h)
  (F:∀(w:aN)(mg:Str->Option aA)(fa:aE)(h:Heap),(K w.params).In h->h.Ns aM mg->mg d.name=some (.ref fa)->
   ∃fd:cM,(∀(s:aB)(u:aA),nF s fd ⟨[u],[]⟩ [("_law_script",u)])/\∀base:Heap,(K w.params).In base->base.Ns aM mg->qp l.prog w (K w.params) mg base CX0 9 fa fd ZI (Ey<|K w.params)) :
  PySem.W.WalkO q loose XP YP l.row.toRowW d [] (λf vs=>PySem.call f vs):=
 L2.walk_of (n:=63) (k:=9) (x:="_law_script") (CX:=λ_=>CX0) (sp:=λw=>Ey<|K w.params) hn (by decide) BZ ⟨rfl,by decide,by decide⟩ hY F (λ_ _ a ns hl _ hS=>⟨a,ns,rfl,hS,hl,λ_=>rfl⟩) λ_ _ _ _ _ z=>z
end K12
open PySem PySem.W PyProof.Rows
set_option maxRecDepth 100000 in
set_option maxHeartbeats 0 in
theorem PySem.Challenge.cw_coverpieces_k12_shown_and_read_holds : PySem.Challenge.rw_coverpieces_k12_shown_and_read.Holds := by
 refine K12.hd ⟨K12.left,?_⟩
 k_fill
 refine K12.walk (l:=PySem.Challenge.rw_coverpieces_k12_shown_and_read) rfl rfl (λw h Y=>PySem.W.kIn_of Y) ?F
 case F=>
  intro w mg fa h KX G uP;refine' K12.all_mk KX G uP ?d1 ?d2 ?d3 ?d4 ?d5 ?d6 ?d7 ?d8 ?d9 ?d10 ?d11 ?d12 ?d13 ?d14 ?d15 ?d16 ?d17 ?d18 ?d19 ?d20 ?d21 ?d22 ?d23 ?d24 ?d25 ?d26 ?d27 ?d28 ?d29 ?d30 ?d31 ?d32 ?d33 ?d34 ?d35 ?d36 ?d37 ?d38 ?d39 ?d40 ?d41 ?d42 ?d43 ?d44 ?d45 ?d46 ?d47 ?d48 ?y1 ?y2 ?y3 ?y4 ?y5 ?y6 ?y7 ?y8 ?y9 ?y10 ?y11 ?y12 ?yd ?ld ?nd ?z1 ?z2 ?z3 ?z4 ?z5 ?z6 ?z7 ?z8 ?z9 ?z10 ?z11 ?z12 ?z13 ?z14 ?z15 ?z16
  case d1|d2|d3|d4|d5|d6|d7|d8|d9|d10|d11|d12|d13|d14|d15|d16|d17|d18|d19|d20|d21|d22|d23|d24|d25|d26|d27|d28|d29|d30|d31|d32|d33|d34|d35|d36|d37|d38|d39|d40|d41|d42|d43|d44|d45|d46|d47|d48=>refine' L3.df_mk ?a ?l ?c ?k;(case a=>k_is);(case l=>k_is);(case c=>k_is);(case k=>k_is)
  case y1=>k_is
  case y2=>k_is
  case y3=>k_is
  case y4=>k_is
  case y5=>k_is
  case y6=>k_is
  case y7=>k_is
  case y8=>k_is
  case y9=>k_is
  case y10=>k_is
  case y11=>k_is
  case y12=>k_is
  case yd=>k_is
  case ld=>k_is
  case nd=>rfl
  case z1|z2|z3|z4|z5|z6|z7|z8|z9|z10|z11|z12|z13|z14|z15|z16=>k_is
