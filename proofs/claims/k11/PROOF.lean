import PyProof.Rows.All
import Wide.All
import KE.KxBytes
import Wide.Once
import Wide.Head
import OpenK.KRaise
import Wide.BytesRules
import Wide.Tac
import OpenK.KDescr
import Wide.Row
import KE.KSortTup
import Wide.Line
import KE.KDictSum
import ObjForm.Claim3
import OpenK.KGet
import Wide.BridgeG
import Wide.Tm
import OpenK.KMore
import OpenK.KWalk
import OpenK.KFacts
import Wide.Pins
import KE.KIntText
import OpenK.KOps
import KE.KSortAsk
import KE.KFromBytes
import OpenK.KCall
import KE.KDictList
import KE.KTryMore
import Open.Claim
import KE.KIsAll
import Wide.Vals
import Imp.Common
import OpenK.KMake
import OpenK.KLine
import Open.Line
import Open.Head
import Wide.Data
import Wide.Ends
import Wide.Bridge
import Wide.OneHead
import Wide.Reads
import Wide.Claim
import Wide.Well
import KE.KItem
import Wide.BytesFacts
import Wide.Lay
import OpenK.Peek
import OpenK.KCls
import Wide.ObjOpen
import Open.Row
import Wide.Loose
import Wide.FinOn
import Lean
import PyProof.EqAt
import PyProof.EqKinds
import PyProof.TupleCall
import PyProof.CompFree
import PyProof.P3Eq
import PyProof.P3In
import PyProof.NeData
import PyProof.WalkInts
import PyProof.Rows.MinMaxN
import PyProof.StrWalks
import PyProof.StrBlockH
import PyProof.StrLawsIn
import PyProof.FString5
import PyProof.StrOps2
import PyProof.ListStr
import PyProof.ConsumeWalk
import PyProof.Rows.StrJoin2
import PyProof.EnumMake
import PyProof.EnumFor
import PyProof.LayNew
import PyProof.Rows.EnumRows
import PyProof.StrCalls
import PyProof.Rows.StrCase
import PyProof.Rows.StrAscii2
import PyProof.Rows.StrFit
import PyProof.IsRules
import PyProof.AutoListH
import PyProof.FactsAll.list_3
import PySem.SetTable
import PySem.SetOps
import PyProof.SetKind
import PyProof.TupleKey
import PyProof.DictKinds
import PyProof.Rows.SetFrom
import PyProof.CollectWalk
import PyProof.Seq
import PyProof.SetRoads
import PyProof.Walk
import PyProof.WalkLemmas
import PyProof.MinMaxWalk
import PyProof.DictRoads
import PyProof.NeKinds
import PyProof.Rows.SetObj
import PyProof.StrCalls2
import PyProof.Rows.StrItems
import PyProof.StrLawsTight
import PyProof.StrLawsChain
import PyProof.EnumIter
import PyProof.DictRoadsH
import PyProof.Rows.SeqMore
import KE.KTryOn
import PyProof.ExcClass3
import PyProof.NsDelKeeps
import PyProof.ExcAttrAll.ValueError
import PyProof.ExcBaseAll.ValueError
import PySem.Challenge.RW_coverpieces_k11_refused_texts
set_option compiler.extract_closed false
set_option Elab.async false
set_option linter.all false
set_option maxRecDepth 100000
abbrev Z9(α:Type u):=List α
abbrev Z8:=PySem.PyData
noncomputable abbrev Z7:Z9 PySem.Str:=["found"]
noncomputable abbrev Z6:Z9 PySem.Str:=["words"]
noncomputable abbrev Z5:Z9 PySem.Str:=["_law_state_here"]
noncomputable abbrev Z4:Z9 PySem.Str:=["sign"]
noncomputable abbrev Z0:Z9 PySem.Str:=["_law_spot"]
noncomputable abbrev ZZ:Z9 PySem.Str:=["spot"]
noncomputable abbrev ZY:Z9 PySem.Str:=["_law_state_here","_law_most"]
noncomputable abbrev ZX:Z9 PySem.Str:=["_law_lines","_law_state_here"]
noncomputable abbrev ZW:Z9 PySem.Str:=["words","first","more"]
noncomputable abbrev ZV:Z9 PySem.Str:=["key","default"]
noncomputable abbrev ZU:Z9 PySem.Str:=["_law_script","_law_k"]
noncomputable abbrev ZT:Z9 PySem.Str:=["_law_cell","_law_k"]
noncomputable abbrev ZS:Z9 PySem.Str:=["_law_state_here","_law_many"]
noncomputable abbrev ZR:Z9 PySem.Str:=["_law_row","_law_column","_law_sign","_law_top","_law_left"]
noncomputable abbrev ZQ:Z9 PySem.Str:=["cell","other"]
noncomputable abbrev ZP:Z9 PySem.Str:=["cell","others"]
noncomputable abbrev ZO:Z9 PySem.Str:=["row","column","sign","top","left"]
noncomputable abbrev ZN:Z9 PySem.Str:=["row","column","sign"]
noncomputable abbrev ZM:Z9 PySem.Str:=["least","most"]
noncomputable abbrev ZL:Z9 PySem.Str:=["_law_k","_law_state_here"]
noncomputable abbrev ZK:Z9 PySem.Str:=["word","most"]
noncomputable abbrev ZJ:Z9 PySem.Str:=["first","pieces","pairs"]
noncomputable abbrev ZI:Z9 PySem.Str:=["apart","A","B"]
noncomputable abbrev ZH:Z9 PySem.Str:=["_law_script"]
noncomputable abbrev ZG:Z9 PySem.Str:=["TURNINGS_BY_MODE"]
noncomputable abbrev ZF:Z9 PySem.Str:=["_law_state_here","_law_most","_law_signs_here"]
noncomputable abbrev ZE:Z9 PySem.Str:=["_law_state_here","_law_name","_law_most"]
noncomputable abbrev ZD:Z9 PySem.Str:=["_law_state_here","_law_most","_law_spots","_law_many"]
noncomputable abbrev ZC:Z9 PySem.Str:=["_law_form","_law_more"]
noncomputable abbrev ZB:Z9 PySem.Str:=["_law_puzzle_here","_law_state_here"]
noncomputable abbrev ZA:Z9 PySem.Str:=["_law_one","_law_other"]
noncomputable abbrev Zz:Z9 PySem.Str:=["_law_column","_law_signs_here","_law_state_here"]
noncomputable abbrev Zy:Z9 PySem.Str:=["_law_name","_law_state_here","_law_spots"]
noncomputable abbrev Zx:Z9 PySem.Str:=["_law_column","_law_signs_here","_law_row"]
open PySem renaming Value->aA,Shared->aB,sizeLine->aC,Addr->aF,model->aG,mainGlobals->aH,Program->aI,World->aJ,starEach->aK,NameKind->aM,Stmt->aO,compareOp->aS,sysModules->aW,pyNext->aX,backTo->bA,FuncData->bG,eval->bL,cLine->bM,bootBuiltins->bP,assignEach->bQ,wpAny_attempt->bR,Scope->bV,wpAny_askSetting->bW,codeAny->bY,wpAny_setEntries_of->cA,wpAny_updateSeq->cD,wpAny_specialOf->cE,wpAny_execs_nil->cF,wpAny_setField_rec->cG,wpAny_call->cH,strKind_is->cI,wpAny_of_eq->cJ,wpAny_getItem_str_slice->cK,firstArgMember->cO,binaryOp->cQ,Paired->cR,Pos->cU,wpAny_isInstance->cW,wpAny_forIn_list->cX,typeIs_str->cY,call_meets->dA,sliceBounds->dB,hashStr->dL,wpAny_tryCatch->dP,wpAny_pyIter_tuple->dQ,intItems->dR,wpAny_letGo->dU,ofAClassStatement->dW,keywordEach->dX,argBest->eD,Keyword->eE,wpAny_standAt->eG,checkBuiltinCall->eM,valueAt->eU,holding->eY,IsEnum->fA,post_val_or_str->fE,letOwnedTupleGo->fG,codeAny_of_tree->fI,weight_type_call_type->fJ,wpAny_runValue->fR,wpAny_fieldsOf->fS,hashByValue->gB,Walks->gE,tupleKind->gG,swapsWith->gH,setNext->gI,seqItems?->gJ,pickOrder->gL,behindInMarks->iA,attributeBase->iB,wpAny_rule->iD,pyIter->iF,assign->iK,Result->iQ,wpAny_pyIter_enum->iX,numAt_eq->iZ,foldedSetIterable->jC,collect->jE,callerA->jF,backToKw->jG,GenState->jI,wpAny_execs_cons->jS,updateSeq->jT,rawInt->jX,check_set_init_1->kC,intItems_at->kI,Env->kX,CmpOp->kY,spliced->lO,BindsTo->mL,typeOf->mM,slotArgs->mR,setsByText->mT,setEntries->mU,newTuple->mX,isSubtype_stop->mZ,isInstance->nA,fitsIndex_both->nJ,closureFor->nL,wpAny_newList->oN,wpAny_handled->oO,wpAny_comprehension_free->oP,setSearchFrom->oQ,nums_intItems->oS,Tok->pN,putSet_of->pV,field->rM,bindL->rV,bindC->rW,atKey->rZ,wpAny_typeOf->sO,wpAny_pyNext_list_item->sP,seqIndex_neg->sR,newExc->sU,argsOk->tM,wpAny_pyNext_list_end->tX,wpAny_isSame_ref_self->tY,builtinLookup_eq_fast->vB,wpAny_throw->vM,seqIndex_of->vP,rule->vT,raiseNew->vU,bindArgs->xH,wpAny_Name->Az,typeIs_int->AC,tupleKind_room_in1->AD,reduceHash->AN,noKeywords->AR,builtinsNs->A8,PlainAttrs->Bw,wpAny_storeSet_of->By,wpAny_setEpoch_of->Bz,wpAny_assign_Name->BA,standAt->BD,searchCouldBeSeen->BG,numAt->BU,eqIsQuiet_byValue->Dp,Moved->DX,wpAny_pyHash_str->Ef,wpAny_pyHash_int->Eg,seqIndex?->Eo,scanBound->Ep,drawOrder->Fs,cellsFrom->Fu,IsEnumOut->Gk,Args->Gm,typeLookup_type->GC
open PySem.W renaming kas_desc->aQ,hashAt->bU,kas_rev->cM,kas_asc->cN,kas_place->cZ,kas_sort->eJ,kas_tail3->qF,kas_count->qG,looks_findIn->sV,kas_descPart->sX,kas_bin->sY,KasT->Gj
open PyProof.Rows renaming SortKind->bB,seqObj->bI,envOfC->bO,boot_all->cC,AllBare->eF,boot_str->eO,IntsAre->fB,keyKind'->fV,boot_min->gD,boot_sorted->kT,tuples'->lJ,keyLt'->mY,boot_max->nM,listUpdate_at->oU,subscriptTail_builtinR->sQ,seqEpoch_at->vQ,bubble->A9
open Pure renaming pure->bJ
open ToString renaming toString->cB
open LawfulMonad renaming bind_assoc->iJ
open Min renaming min->lB
open MonadExcept renaming tryCatch->mO
open Max renaming max->wA
section
def sZ0:0<=aC:=by decide
def sZ1:1<=aC:=by decide
def sZ2:2<=aC:=by decide
def sZ3:3<=aC:=by decide
def sZ4:4<=aC:=by decide
def sZ5:5<=aC:=by decide
def sZ6:6<=aC:=by decide
def sZ7:7<=aC:=by decide
namespace K11
open PySem PyProof.Rows
noncomputable def vw:aI:=PySem.W.view PySem.Challenge.pw_coverpieces_k11_refused_texts [1,2,3,4,5,7,8,9,10,11,13,14,16,17,18,19,20,21,22,23,25,26,27,28,29,30,31,33,34,35,36,37,38,39,40,41,42,44,45,46,47,48,49,50,51,52,53,55,56,57,58,59,60,61,62,63,64,65,66,67,68,69,70,71,72]
set_option maxHeartbeats 0 in
def said:PySem.W.OpenLaw.wellSaid PySem.Challenge.rw_coverpieces_k11_refused_texts=true:=by kernel_rfl
end K11
open PySem PySem.W PyProof.Rows
local macro_rules | `(tactic| o_law)=>`(tactic| refine holds_law K11.said fun said=>?_)
local macro_rules | `(tactic| o_head $H)=>`(tactic| refine(fun h hw=>holds_open (q:=K11.vw) (loose:=ZG) (Xt:=(fun s=>xlAt K11.vw [] s&&recOk (RowW.records (OpenLaw.row PySem.Challenge.rw_coverpieces_k11_refused_texts).toRowW) s)) (XP:=XL K11.vw []) (Yf:=Hook.obs $H) (Ya:=Hook.val $H) (YP:=Hook.says $H) (N:=5370) (And.left h) (Hook.of $H) (Hook.keeps $H) (fun s e=>xl_of s (Bool.and_eq_true_iff.mp e).1) XL.keeps (by rfl) (by rfl) (by rfl) (fun s e=>recFacts_of (Bool.and_eq_true_iff.mp e).2) (by rfl) (by assumption) (by decide +kernel) ⟨rfl,rfl,rfl,rfl,rfl,by decide +kernel⟩ hw (And.right h)) ?hc ?hw)
set_option maxRecDepth 100000 in
set_option maxHeartbeats 0 in
open_top K11.hd for PySem.Challenge.rw_coverpieces_k11_refused_texts
namespace K11
noncomputable def hk:Hook:=kHook K11.hd.heap_1 [2,3,15,17,18,20,21,22,24,25,27,28,29,31,32,34,35,36,39,40,41,48,49,50,51,54,61,62,63,66,73,74,75,78,85,86,87,90,97,98,99,102,103,105,106,108,109,110,113,114,115,118,119,120,122,123,125,126,127,129,130,132,133,134,136,137,139,140,141,144,145,146,149,150,151,153,154,156,157,158,161,162,163,166,167,168,170,171,173,174,175,178,179,180,182,183,185,186,187,189,190,192,193,194,197,198,199,202,203,204,206,207,209,210,211,214,215,216,219,220,221,223,224,226,227,228,230,231,233,234,235,238,239,240,242,243,245,246,247,250,251,252,254,255,257,258,259,261,262,264,265,266,268,269,271,272,273,275,276,278,279,280,282,283,285,286,287,290,291,292,294,295,297,298,299,302,303,304,306,307,309,310,311,314,315,316,318,319,321,322,323,326,327,328,331,332,333,336,337,338,340,341,343,344,345,347,348,350,351,352,355,356,357,359,360,362,363] λ_=>by kernel_rfl
def L_a(w:aJ):Prop:=(openEnds treeTable PySem.Challenge.pw_coverpieces_k11_refused_texts w 5370).map (λs=>(openSeen vw ZG (importedModules PySem.Challenge.pw_coverpieces_k11_refused_texts.main.body) (λs=>xlAt vw [] s&&recOk (RowW.records (OpenLaw.row PySem.Challenge.rw_coverpieces_k11_refused_texts).toRowW) s) true s).1)=some (openGood vw ZG).1
def L_c(w:aJ):Prop:=(openEnds treeTable PySem.Challenge.pw_coverpieces_k11_refused_texts w 5370).map (λs=>(openSeen vw ZG (importedModules PySem.Challenge.pw_coverpieces_k11_refused_texts.main.body) (λs=>xlAt vw [] s&&recOk (RowW.records (OpenLaw.row PySem.Challenge.rw_coverpieces_k11_refused_texts).toRowW) s) true s).2)=some (openGood vw ZG).2
def L_b(w:aJ):Prop:=(openEnds treeTable PySem.Challenge.pw_coverpieces_k11_refused_texts w 5370).map (λs=>hk.obs s)=some (hk.val w)
def Lo(w:aJ):Prop:=(openEnds treeTable PySem.Challenge.pw_coverpieces_k11_refused_texts w 5370).map (λs=>(openSeen vw ZG (importedModules PySem.Challenge.pw_coverpieces_k11_refused_texts.main.body) (λs=>xlAt vw [] s&&recOk (RowW.records (OpenLaw.row PySem.Challenge.rw_coverpieces_k11_refused_texts).toRowW) s) true s,hk.obs s))=some (openGood vw ZG,hk.val w)
theorem pr3{α β γ δ:Type}{x:Option α}{f:α->β×γ}{g:α->δ}{a:β×γ}{b:δ}(h0:x.map (λs=>(f s).1)=some a.1)(h1:x.map (λs=>(f s).2)=some a.2)(h2:x.map g=some b):x.map (λs=>(f s,g s))=some (a,b):=by
 cases x with
 | none=>cases h2
 | some s=>exact congrArg some (Prod.ext (Prod.ext (Option.some.inj h0) (Option.some.inj h1)) (Option.some.inj h2))
set_option maxHeartbeats 0 in
theorem lfa(w:aJ):L_a (w.withFollow "special-get-raises" false):=by unfold L_a;kernel_rfl
set_option maxHeartbeats 0 in
theorem lfc(w:aJ):L_c (w.withFollow "special-get-raises" false):=by unfold L_c;kernel_rfl
set_option maxHeartbeats 0 in
theorem lfb(w:aJ):L_b (w.withFollow "special-get-raises" false):=by unfold L_b;kernel_rfl
theorem lf(w:aJ):Lo (w.withFollow "special-get-raises" false):=pr3 (lfa w) (lfc w) (lfb w)
set_option maxHeartbeats 0 in
theorem lta(w:aJ):L_a (w.withFollow "special-get-raises" true):=by unfold L_a;kernel_rfl
set_option maxHeartbeats 0 in
theorem ltc(w:aJ):L_c (w.withFollow "special-get-raises" true):=by unfold L_c;kernel_rfl
set_option maxHeartbeats 0 in
theorem ltb(w:aJ):L_b (w.withFollow "special-get-raises" true):=by unfold L_b;kernel_rfl
theorem lt(w:aJ):Lo (w.withFollow "special-get-raises" true):=pr3 (lta w) (ltc w) (ltb w)
def left:∀w,Lo w:=byRow2 "special-get-raises" lf lt
end K11
end
set_option Elab.async false
set_option linter.all false
set_option maxRecDepth 100000
set_option maxHeartbeats 8000000
def lv{α0:Sort u0}{α1:Sort u1}{t:α0->α1->Prop}(x0:α0)(x1:α1)(h:t x0 x1):∃x0,∃x1,t x0 x1:=⟨x0,x1,h⟩
def mm{α0:Sort u0}{α1:Sort u1}{p0:α0->Prop}{t:α0->α1->Prop}(x0:α0)(h0:p0 x0)(x1:α1)(h:t x0 x1):∃x0,p0 x0/\∃x1,t x0 x1:=⟨x0,h0,x1,h⟩
def mj{α0:Sort u0}{α1:Sort u1}{α2:Sort u2}{t:α0->α1->α2->Prop}(x0:α0)(x1:α1)(x2:α2)(h:t x0 x1 x2):∃x0,∃x1,∃x2,t x0 x1 x2:=⟨x0,x1,x2,h⟩
def ma{α0:Sort u0}{α1:Sort u1}{p0:α0->Prop}{p1:α0->Prop}{t:α0->α1->Prop}(x0:α0)(h0:p0 x0)(h1:p1 x0)(x1:α1)(h:t x0 x1):∃x0,p0 x0/\p1 x0/\∃x1,t x0 x1:=⟨x0,h0,h1,x1,h⟩
def m8{α0:Sort u0}{α1:Sort u1}{α2:Sort u2}{p0:α0->Prop}{t:α0->α1->α2->Prop}(x0:α0)(h0:p0 x0)(x1:α1)(x2:α2)(h:t x0 x1 x2):∃x0,p0 x0/\∃x1,∃x2,t x0 x1 x2:=⟨x0,h0,x1,x2,h⟩
def lr{α0:Sort u0}{α1:Sort u1}{α2:Sort u2}{α3:Sort u3}{t:α0->α1->α2->α3->Prop}(x0:α0)(x1:α1)(x2:α2)(x3:α3)(h:t x0 x1 x2 x3):∃x0,∃x1,∃x2,∃x3,t x0 x1 x2 x3:=⟨x0,x1,x2,x3,h⟩
def v8{α0:Sort u0}{α1:Sort u1}{α2:Sort u2}{p0:α0->Prop}{p1:α0->α1->Prop}{t:α0->α1->α2->Prop}(x0:α0)(h0:p0 x0)(x1:α1)(h1:p1 x0 x1)(x2:α2)(h:t x0 x1 x2):∃x0,p0 x0/\∃x1,p1 x0 x1/\∃x2,t x0 x1 x2:=⟨x0,h0,x1,h1,x2,h⟩
def nv{α0:Sort u0}{α1:Sort u1}{α2:Sort u2}{α3:Sort u3}{p0:α0->Prop}{t:α0->α1->α2->α3->Prop}(x0:α0)(h0:p0 x0)(x1:α1)(x2:α2)(x3:α3)(h:t x0 x1 x2 x3):∃x0,p0 x0/\∃x1,∃x2,∃x3,t x0 x1 x2 x3:=⟨x0,h0,x1,x2,x3,h⟩
def nj{α0:Sort u0}{α1:Sort u1}{α2:Sort u2}{α3:Sort u3}{α4:Sort u4}{t:α0->α1->α2->α3->α4->Prop}(x0:α0)(x1:α1)(x2:α2)(x3:α3)(x4:α4)(h:t x0 x1 x2 x3 x4):∃x0,∃x1,∃x2,∃x3,∃x4,t x0 x1 x2 x3 x4:=⟨x0,x1,x2,x3,x4,h⟩
def uk{α0:Sort u0}{α1:Sort u1}{α2:Sort u2}{α3:Sort u3}{p0:α0->Prop}{p1:α0->α1->Prop}{t:α0->α1->α2->α3->Prop}(x0:α0)(h0:p0 x0)(x1:α1)(h1:p1 x0 x1)(x2:α2)(x3:α3)(h:t x0 x1 x2 x3):∃x0,p0 x0/\∃x1,p1 x0 x1/\∃x2,∃x3,t x0 x1 x2 x3:=⟨x0,h0,x1,h1,x2,x3,h⟩
def k9{α0:Sort u0}{α1:Sort u1}{α2:Sort u2}{α3:Sort u3}{α4:Sort u4}{p0:α0->Prop}{t:α0->α1->α2->α3->α4->Prop}(x0:α0)(h0:p0 x0)(x1:α1)(x2:α2)(x3:α3)(x4:α4)(h:t x0 x1 x2 x3 x4):∃x0,p0 x0/\∃x1,∃x2,∃x3,∃x4,t x0 x1 x2 x3 x4:=⟨x0,h0,x1,x2,x3,x4,h⟩
def ao3{α0:Sort u0}{α1:Sort u1}{α2:Sort u2}{α3:Sort u3}{p0:α0->α1->Prop}{p1:α0->α1->Prop}{t:α0->α1->α2->α3->Prop}(x0:α0)(x1:α1)(h0:p0 x0 x1)(h1:p1 x0 x1)(x2:α2)(x3:α3)(h:t x0 x1 x2 x3):∃x0,∃x1,p0 x0 x1/\p1 x0 x1/\∃x2,∃x3,t x0 x1 x2 x3:=⟨x0,x1,h0,h1,x2,x3,h⟩
def ali{α0:Sort u0}{α1:Sort u1}{α2:Sort u2}{p0:α0->Prop}{p1:α0->Prop}{p2:α0->Prop}{p3:α0->Prop}{t:α0->α1->α2->Prop}(x0:α0)(h0:p0 x0)(h1:p1 x0)(h2:p2 x0)(h3:p3 x0)(x1:α1)(x2:α2)(h:t x0 x1 x2):∃x0,p0 x0/\p1 x0/\p2 x0/\p3 x0/\∃x1,∃x2,t x0 x1 x2:=⟨x0,h0,h1,h2,h3,x1,x2,h⟩
def mi{α0:Sort u0}{α1:Sort u1}{α2:Sort u2}{α3:Sort u3}{α4:Sort u4}{p0:α0->Prop}{p1:α0->α1->Prop}{t:α0->α1->α2->α3->α4->Prop}(x0:α0)(h0:p0 x0)(x1:α1)(h1:p1 x0 x1)(x2:α2)(x3:α3)(x4:α4)(h:t x0 x1 x2 x3 x4):∃x0,p0 x0/\∃x1,p1 x0 x1/\∃x2,∃x3,∃x4,t x0 x1 x2 x3 x4:=⟨x0,h0,x1,h1,x2,x3,x4,h⟩
def nw{α0:Sort u0}{α1:Sort u1}{α2:Sort u2}{α3:Sort u3}{p0:α0->Prop}{p1:α0->α1->α2->Prop}{p2:α0->α1->α2->Prop}{t:α0->α1->α2->α3->Prop}(x0:α0)(h0:p0 x0)(x1:α1)(x2:α2)(h1:p1 x0 x1 x2)(h2:p2 x0 x1 x2)(x3:α3)(h:t x0 x1 x2 x3):∃x0,p0 x0/\∃x1,∃x2,p1 x0 x1 x2/\p2 x0 x1 x2/\∃x3,t x0 x1 x2 x3:=⟨x0,h0,x1,x2,h1,h2,x3,h⟩
def anr{α0:Sort u0}{α1:Sort u1}{α2:Sort u2}{α3:Sort u3}{p0:α0->α1->Prop}{p1:α0->α1->Prop}{p2:α0->α1->Prop}{t:α0->α1->α2->α3->Prop}(x0:α0)(x1:α1)(h0:p0 x0 x1)(h1:p1 x0 x1)(h2:p2 x0 x1)(x2:α2)(x3:α3)(h:t x0 x1 x2 x3):∃x0,∃x1,p0 x0 x1/\p1 x0 x1/\p2 x0 x1/\∃x2,∃x3,t x0 x1 x2 x3:=⟨x0,x1,h0,h1,h2,x2,x3,h⟩
def xk{α0:Sort u0}{α1:Sort u1}{α2:Sort u2}{α3:Sort u3}{α4:Sort u4}{p0:α0->Prop}{p1:α0->Prop}{p2:α0->α1->Prop}{t:α0->α1->α2->α3->α4->Prop}(x0:α0)(h0:p0 x0)(h1:p1 x0)(x1:α1)(h2:p2 x0 x1)(x2:α2)(x3:α3)(x4:α4)(h:t x0 x1 x2 x3 x4):∃x0,p0 x0/\p1 x0/\∃x1,p2 x0 x1/\∃x2,∃x3,∃x4,t x0 x1 x2 x3 x4:=⟨x0,h0,h1,x1,h2,x2,x3,x4,h⟩
def xj{α0:Sort u0}{α1:Sort u1}{α2:Sort u2}{α3:Sort u3}{α4:Sort u4}{p0:α0->Prop}{p1:α0->α1->Prop}{p2:α0->α1->α2->Prop}{t:α0->α1->α2->α3->α4->Prop}(x0:α0)(h0:p0 x0)(x1:α1)(h1:p1 x0 x1)(x2:α2)(h2:p2 x0 x1 x2)(x3:α3)(x4:α4)(h:t x0 x1 x2 x3 x4):∃x0,p0 x0/\∃x1,p1 x0 x1/\∃x2,p2 x0 x1 x2/\∃x3,∃x4,t x0 x1 x2 x3 x4:=⟨x0,h0,x1,h1,x2,h2,x3,x4,h⟩
def vf{α0:Sort u0}{α1:Sort u1}{α2:Sort u2}{α3:Sort u3}{p0:α0->Prop}{p1:α0->α1->α2->Prop}{p2:α0->α1->α2->Prop}{p3:α0->α1->α2->Prop}{t:α0->α1->α2->α3->Prop}(x0:α0)(h0:p0 x0)(x1:α1)(x2:α2)(h1:p1 x0 x1 x2)(h2:p2 x0 x1 x2)(h3:p3 x0 x1 x2)(x3:α3)(h:t x0 x1 x2 x3):∃x0,p0 x0/\∃x1,∃x2,p1 x0 x1 x2/\p2 x0 x1 x2/\p3 x0 x1 x2/\∃x3,t x0 x1 x2 x3:=⟨x0,h0,x1,x2,h1,h2,h3,x3,h⟩
def qh{α0:Sort u0}{α1:Sort u1}{α2:Sort u2}{α3:Sort u3}{α4:Sort u4}{p0:α0->Prop}{p1:α0->α1->Prop}{p2:α0->α1->α2->α3->Prop}{p3:α0->α1->α2->α3->Prop}{t:α0->α1->α2->α3->α4->Prop}(x0:α0)(h0:p0 x0)(x1:α1)(h1:p1 x0 x1)(x2:α2)(x3:α3)(h2:p2 x0 x1 x2 x3)(h3:p3 x0 x1 x2 x3)(x4:α4)(h:t x0 x1 x2 x3 x4):∃x0,p0 x0/\∃x1,p1 x0 x1/\∃x2,∃x3,p2 x0 x1 x2 x3/\p3 x0 x1 x2 x3/\∃x4,t x0 x1 x2 x3 x4:=⟨x0,h0,x1,h1,x2,x3,h2,h3,x4,h⟩
def x8{α0:Sort u0}{α1:Sort u1}{α2:Sort u2}{α3:Sort u3}{α4:Sort u4}{p0:α0->Prop}{p1:α0->α1->α2->Prop}{p2:α0->α1->α2->Prop}{p3:α0->α1->α2->Prop}{t:α0->α1->α2->α3->α4->Prop}(x0:α0)(h0:p0 x0)(x1:α1)(x2:α2)(h1:p1 x0 x1 x2)(h2:p2 x0 x1 x2)(h3:p3 x0 x1 x2)(x3:α3)(x4:α4)(h:t x0 x1 x2 x3 x4):∃x0,p0 x0/\∃x1,∃x2,p1 x0 x1 x2/\p2 x0 x1 x2/\p3 x0 x1 x2/\∃x3,∃x4,t x0 x1 x2 x3 x4:=⟨x0,h0,x1,x2,h1,h2,h3,x3,x4,h⟩
def on{α0:Sort u0}{α1:Sort u1}{α2:Sort u2}{α3:Sort u3}{α4:Sort u4}{p0:α0->α1->Prop}{p1:α0->α1->Prop}{p2:α0->α1->Prop}{p3:α0->α1->α2->α3->Prop}{t:α0->α1->α2->α3->α4->Prop}(x0:α0)(x1:α1)(h0:p0 x0 x1)(h1:p1 x0 x1)(h2:p2 x0 x1)(x2:α2)(x3:α3)(h3:p3 x0 x1 x2 x3)(x4:α4)(h:t x0 x1 x2 x3 x4):∃x0,∃x1,p0 x0 x1/\p1 x0 x1/\p2 x0 x1/\∃x2,∃x3,p3 x0 x1 x2 x3/\∃x4,t x0 x1 x2 x3 x4:=⟨x0,x1,h0,h1,h2,x2,x3,h3,x4,h⟩
def oq{α0:Sort u0}{α1:Sort u1}{α2:Sort u2}{α3:Sort u3}{α4:Sort u4}{p0:α0->α1->Prop}{p1:α0->α1->Prop}{p2:α0->α1->α2->α3->Prop}{p3:α0->α1->α2->α3->Prop}{t:α0->α1->α2->α3->α4->Prop}(x0:α0)(x1:α1)(h0:p0 x0 x1)(h1:p1 x0 x1)(x2:α2)(x3:α3)(h2:p2 x0 x1 x2 x3)(h3:p3 x0 x1 x2 x3)(x4:α4)(h:t x0 x1 x2 x3 x4):∃x0,∃x1,p0 x0 x1/\p1 x0 x1/\∃x2,∃x3,p2 x0 x1 x2 x3/\p3 x0 x1 x2 x3/\∃x4,t x0 x1 x2 x3 x4:=⟨x0,x1,h0,h1,x2,x3,h2,h3,x4,h⟩
open PySem.Str renaming ofString->aa,join->a8
open PySem renaming wpAny_bind->ac,wpAny_pure->ao,boot_len->b9,wpAny_holding->db,sizeLine_eq->dw,codeAny_builtin->fc,wpAny_truthy_bool->gf,wpAny_newObj_type->gg,wpAny_Call_Name_kw->gi,wpAny_callSpecial?_slot->gm,wpAny_setState_of->gn,wpAny_call_entry->gz,mem_of_lookup->iu,codeAny_call_builtin->jg,plainId_quiet->jh,wpAny_mono->jj,wpAny_seqItems->jp,wpAny_pyIter_list->js,codeAny_mono->ju,wpAny_setField->j4,wpAny_passesOwn->j9,wpAny_field->ke
open List renaming getElem?_eq_getElem->ae,length_map->af,mem_of_getElem?->ah,mem_cons_self->aj,mem_cons_of_mem->ak,mem_cons->ap,getElem?_eq_some_iff->ar,getElem?_map->au,map_append->ay,mem_singleton->a6,mem_map->a7,length_append->a9,take_of_length_le->bb,length_cons->bc,size_toArray->be,mem_append->bo,all_eq_true->bq,getD_eq_getElem?_getD->bu,mem_map_of_mem->bz,getElem?_append_right->cg,mem_append_right->ci,length_take->cq,length_singleton->cu,not_mem_nil->cv,map_cons->cy,getElem?_append_left->de,range->dt,length_eq_zero_iff->eu,mem_iff_getElem?->fk,replicate->fu,mem_of_mem_take->fy,getElem_mem->fz,mem_filter->f7,append_nil->f9,pairwise_map->gb,map_map->gd,length_drop->gl,getElem?_of_mem->gp,pairwise_cons->gt,pairwise_iff_getElem->gw,getElem?_take_of_lt->g9,getElem?_eq_none->ib,nodup_cons->ii,mem_append_left->ip,map_congr_left->ix,mem_range->iz,map_take->i9,map_drop->ja,all_map->jb,filter_append->jc,lookup_cons->jd,take_length->jf,append_assoc->jk,take_add_one->jl,replicate_succ->jm,getElem?_drop->jn,getElem?_toArray->jo,length_range->jr,filterMap_cons->jz,length_nil->kh,cons_lt_cons_iff->kj,length_filter_le->kl
open PySem.Heap renaming get?_push_of_some->ai,get?_push_size->ba,lt_size->bi,SameBut->cf,get?_update_other->c6,get?_update_self->dq,size_push->j3,ExtBut->kg
open Bool renaming false_ne_true->am,and_eq_true_iff->bf,false_eq_true->bj,and_eq_true->da,eq_false_iff->du,true_and->fq,eq_iff_iff->gj,not_true->ij,false_and->i8
open PySem.W renaming Frag->aq,nsIn->b0,kitOne->cj,mg_none_of->cp,mg_of->fb,kia_one->gx,fnOf->jv
open Nat renaming le_refl->av,le_of_lt->cb,ne_of_lt->ck,lt_of_lt_of_le->cm,zero_le->dv,le_trans->fj,pow_le_pow_right->gq,lt_irrefl->gy,mod_eq_of_lt->g0,pow_succ->jy,lt_succ_self->j2
open PySem.PyData renaming depthAll->bg,eqv->c8,depth->fh,eqvAll->ik,strOk->kb
open Array renaming length_toList->bh,getElem?_eq_getElem->b7,getElem?_toList->b8,getElem?_eq_some_iff->cz
open Option renaming map_eq_some_iff->bn
open PySem.F renaming plainAttrs_str->bp,called_set->bw,slot_str_join->cw,type_str_join->cx,plainAttrs_list->dh,slot_list_append->ff,type_list_append->fg,slot_str_split->gu,type_str_split->gv,plain_min_loop->je,slot_str_ascii_iterator_next->jx
open Int renaming eq_ofNat_of_zero_le->br,toNat_natCast->ia
open Option.some renaming inj->cn
open PyProof.Rows renaming boot_isinstance->c7,callWith_type1->f8,boot_tuple->iw,callWith_builtin1->jw
open Classical renaming byContradiction->dg
open PySem.StrLaws renaming sumLen_le->dn
open PySem.Around renaming under_plainId->dz
open List.Nodup renaming length_le_of_subset->gc
open PySem.PassesOwn renaming never->ge
open PySem.Builtin.SmallTypes renaming nextOf->gh
open PySem.Heap.SameBut renaming update->gk
open List.Pairwise renaming imp_of_mem->ie
open PySem.SetTable renaming insertAt->ig
open False renaming elim->iq
open PySem.Obj renaming mapSeq->ir
open List.Perm renaming refl->iy
open PyProof.Rows.F renaming plain_set_update_loop->ji
open PySem.Builtin.Tuple renaming tupleHashOf->jq
open PySem.Txt renaming split->jt,join->j8
open PySem.Calls renaming spliced_cons->j5
open PySem.Builtin.Builtins renaming bindParams->kc
namespace L3
structure Ord(lt:Nat->Nat->Bool):Prop where
 asy:∀a b,lt a b=true->lt b a=false
 tr:∀a b c,lt b a=false->lt c b=false->lt c a=false
noncomputable def Ah(lt:Nat->Nat->Bool)(x:Nat):Z9 Nat->Z9 Nat
 | []=>[x]
 | y::l=>if lt y x=true then y::Ah lt x l else x::y::l
noncomputable def Fy(lt:Nat->Nat->Bool):Z9 Nat->Z9 Nat
 | []=>[]
 | x::l=>Ah lt x<|Fy lt l
noncomputable def srt(lt:Nat->Nat->Bool)(n:Nat):Z9 Nat:=Fy lt<|dt n
theorem Mi(lt:Nat->Nat->Bool)(x:Nat):∀l,(Ah lt x l).Perm (x::l)
 | []=>iy _
 | y::l=>by
  unfold Ah;split
  .exact((Mi lt x l).cons y).trans (List.Perm.swap x y l)
  .exact iy _
theorem aee(lt:Nat->Nat->Bool):∀l,(Fy lt l).Perm l
 | []=>iy _
 | x::l=>(Mi lt x _).trans ((aee lt l).cons x)
def Ge(lt:Nat->Nat->Bool)(n:Nat):(srt lt n).Perm (dt n):=aee lt _
def vd(lt:Nat->Nat->Bool)(n:Nat):(srt lt n).length=n:=by rw[(Ge lt n).length_eq,jr]
theorem Ord.irr{lt:Nat->Nat->Bool}(o:Ord lt)(a:Nat):lt a a=false:=by
 cases h:lt a a with
 | false=>rfl
 | true=>exact h.symm.trans<|o.asy a a h
theorem alo{lt:Nat->Nat->Bool}(o:Ord lt)(x:Nat):∀{l:Z9 Nat},l.Pairwise (λa b=>lt b a=false)->(Ah lt x l).Pairwise (λa b=>lt b a=false)
 | [],_=>by simp[Ah]
 | y::l,h=>by
  have h':=gt.mp h;unfold Ah;split
  .rename_i hy
   refine gt.mpr ⟨λz hz=>?_,alo o x h'.2⟩;rcases ap.mp ((Mi lt x l).mem_iff.mp hz)with rfl|hz
   .exact o.asy _ _ hy
   .exact h'.1 z hz
  .rename_i hy
   have wD:lt y x=false:=by simpa using hy
   refine gt.mpr ⟨λz hz=>?_,h⟩;rcases ap.mp hz with rfl|hz
   .exact wD
   .exact o.tr _ _ _ wD<|h'.1 z hz
theorem ans{lt:Nat->Nat->Bool}(o:Ord lt):∀l,(Fy lt l).Pairwise (λa b=>lt b a=false)
 | []=>List.Pairwise.nil
 | x::l=>alo o x<|ans o l
def Li{lt:Nat->Nat->Bool}(o:Ord lt)(n:Nat){i j:Nat}(h1:i<=j)(h2:j<n):lt ((srt lt n).getD j 0) ((srt lt n).getD i 0)=false:=by
 have hl:=vd lt n;have hj:j<(srt lt n).length:=by lia
 have hi:i<(srt lt n).length:=by lia
 rw[bu,bu,ae hj,ae hi];show lt (srt lt n)[j] (srt lt n)[i]=false;by_cases e:i=j
 .subst e;exact o.irr _
 .exact gw.mp (ans o<|dt n) i j hi hj<|by lia
end L3
namespace L2
open PySem PySem.Spec PyProof.Rows
noncomputable abbrev Key:=Sum Int Str
noncomputable def Bm:Key->aA->Bool
 | .inl k,v=>aA.isInt k v
 | .inr x,v=>aA.isStrOf x v
noncomputable def a1q(w:aJ):Key->Int
 | .inl k=>hashInt k
 | .inr x=>dL w x
theorem pi:∀{k:Key} {v:aA},Bm k v=true->(∃i t,k=Sum.inl i/\v=aA.int i t)\/(∃x t,k=Sum.inr x/\v=aA.str x t)
 | .inl i,v,h=>by obtain⟨t,e⟩:=aA.isInt_shape (k:=i) (v:=v) h;exact .inl ⟨i,t,rfl,e⟩
 | .inr x,v,h=>by obtain⟨t,e⟩:=aA.isStrOf_shape (x:=x) (v:=v) h;exact .inr ⟨x,t,rfl,e⟩
def ake(i:Int)(t:pN):Bm (.inl i) (.int i t)=true:=by simp[Bm,aA.isInt]
def amu(x:Str)(t:pN):Bm (.inr x) (.str x t)=true:=by simp[Bm,aA.isStrOf]
def axh(a b:Int):decide ((Sum.inl a:Key)=Sum.inl b)=(a==b):=by
 by_cases e:a=b
 .subst e;simp
 .have h:¬(Sum.inl a:Key)=Sum.inl b:=λq=>e<|Sum.inl.inj q;rw[decide_eq_false h];exact(beq_eq_false_iff_ne.mpr e).symm
def axm(a b:Str):decide ((Sum.inr a:Key)=Sum.inr b)=decide (a=b):=by
 by_cases e:a=b
 .subst e;simp
 .have h:¬(Sum.inr a:Key)=Sum.inr b:=λq=>e<|Sum.inr.inj q;rw[decide_eq_false h,decide_eq_false e]
def ave(a:Int)(b:Str):decide ((Sum.inl a:Key)=Sum.inr b)=false:=decide_eq_false λq=>nomatch q
def avj(a:Str)(b:Int):decide ((Sum.inr a:Key)=Sum.inl b)=false:=decide_eq_false λq=>nomatch q
noncomputable def qk(prog:aI)(w:aJ):PySem.KeyKind prog w Key where
 is:=Bm
 hash:=a1q w
 inj:=λv a b ha hb=>by
  rcases pi ha with ⟨i,t,rfl,rfl⟩|⟨x,t,rfl,rfl⟩
  .rcases pi hb with ⟨j,u,rfl,e⟩|⟨y,u,rfl,e⟩
   .injection e with e1 _;rw[e1]
   .exact nomatch e
  .rcases pi hb with ⟨j,u,rfl,e⟩|⟨y,u,rfl,e⟩
   .exact nomatch e
   .injection e with e1 _;rw[e1]
 byValue:=λk v h=>by rcases pi h with ⟨i,t,rfl,rfl⟩|⟨x,t,rfl,rfl⟩<;>rfl
 pyHash:=λhv h=>by
  rcases pi hv with ⟨i,t,rfl,rfl⟩|⟨x,t,rfl,rfl⟩
  .exact Eg h
  .exact Ef h
 eqBool:=λhu hv h=>by
  rcases pi hu with ⟨i,t,rfl,rfl⟩|⟨x,t,rfl,rfl⟩
  .rcases pi hv with ⟨j,u,rfl,rfl⟩|⟨y,u,rfl,rfl⟩
   .rw[axh]at h;exact wpAny_eqBool_int h
   .rw[ave]at h;exact SeqAt.EqAt.int_str i t y u _ _ _ _ h
  .rcases pi hv with ⟨j,u,rfl,rfl⟩|⟨y,u,rfl,rfl⟩
   .rw[avj]at h;exact SeqAt.EqAt.str_int x t j u _ _ _ _ h
   .rw[axm]at h;exact wpAny_eqBool_str h
 «strs»:=λk x t v h=>by
  rcases pi h with ⟨i,u,rfl,e⟩|⟨y,u,rfl,e⟩
  .exact nomatch e
  .injection e with e1 _
   subst e1;cases v<;>rfl
def afx(prog:aI)(w:aJ)(i:Int)(t:pN):(qk prog w).is (.inl i) (.int i t)=true:=ake i t
def af9(prog:aI)(w:aJ)(x:Str)(t:pN):(qk prog w).is (.inr x) (.str x t)=true:=amu x t
inductive V where
 | non|bl (b:Bool)|int (i:Int)|str (x:Str)|byt (b:Array UInt8)|flt (b:UInt64)|ref (a:aF)|ty (n:String)
 deriving DecidableEq
def RelV:V->aA->Prop
 | .non,u=>u=aA.none
 | .bl b,u=>u=aA.bool b
 | .int i,u=>∃t,u=aA.int i t
 | .str x,u=>∃t,u=aA.str x t
 | .byt b,u=>∃t,u=aA.bytes b t
 | .flt b,u=>∃t,u=aA.float b t
 | .ref a,u=>u=aA.ref a
 | .ty n,u=>u=aA.type n
noncomputable abbrev Vals:Z9 V->Z9 aA->Prop:=cR RelV
theorem Vals.length{xs:Z9 V}{us:Z9 aA}(r:Vals xs us):xs.length=us.length:=cR.length r
theorem Vals.get:∀{xs:Z9 V} {us:Z9 aA} {i:Nat} {x:V},Vals xs us->xs[i]?=some x->∃u,us[i]?=some u/\RelV x u
 | _,_,_,_,.nil,e=>by simp at e
 | _,_,0,_,.cons r _,e=>by simp at e;subst e;exact⟨_,rfl,r⟩
 | _,_,i+1,x,.cons _ t,e=>by obtain⟨u,h1,h2⟩:=Vals.get (i:=i) (x:=x) t (by simpa using e);exact⟨u,by simpa using h1,h2⟩
theorem Vals.set{x:V}{u:aA}(r:RelV x u):∀{xs:Z9 V} {us:Z9 aA} (i:Nat),Vals xs us->Vals (xs.set i x) (us.set i u)
 | _,_,_,.nil=>.nil
 | _,_,0,.cons _ t=>.cons r t
 | _,_,i+1,.cons q t=>.cons q<|Vals.set r i t
theorem Vals.append:∀{xs ys:Z9 V} {us ws:Z9 aA},Vals xs us->Vals ys ws->Vals (xs++ys) (us++ws)
 | _,_,_,_,.nil,s=>s
 | _,_,_,_,.cons r t,s=>.cons r<|Vals.append t s
theorem Vals.take:∀{xs:Z9 V} {us:Z9 aA} (n:Nat),Vals xs us->Vals (xs.take n) (us.take n)
 | _,_,0,_=>.nil
 | _,_,_+1,.nil=>.nil
 | _,_,n+1,.cons r t=>.cons r<|Vals.take n t
theorem Vals.drop:∀{xs:Z9 V} {us:Z9 aA} (n:Nat),Vals xs us->Vals (xs.drop n) (us.drop n)
 | _,_,0,r=>r
 | _,_,_+1,.nil=>.nil
 | _,_,n+1,.cons _ t=>Vals.drop n t
def RelO:Option V->Option aA->Prop
 | some v,some u=>RelV v u
 | none,none=>True
 | _,_=>False
def KV{κ:Type}:Z9 (κ×V)->Z9 (κ×aA)->Prop:=cR λ(p:κ×V) (q:κ×aA)=>p.1=q.1/\RelV p.2 q.2
noncomputable def kV:Key->V
 | .inl i=>.int i
 | .inr x=>.str x
inductive HO where
 | lst (xs:Z9 V)
 | tup (xs:Z9 V)
 | dK (aL:Z9 (Key×V))|dT (aL:Z9 (Z9 Key×V))
 | set (S:Int->Bool) (n:Nat)
 | ins (C dx:aF) (fs:Z9 (Str×V))
 | own (x:aF)
 | xd (fs:Z9 (Str×V))
 | met (f x:aF)
 | rng (lo hi:Int)
 | frz (o:Obj) (u:HO)
 | tbl (ps:Array aA)
 | ext (φ:Heap->Prop)
noncomputable abbrev Hp:=aF->Option HO
noncomputable def upd(H:Hp)(a:aF)(o:HO):Hp:=λb=>if b=a then some o else H b
def k8{H:Hp}{a:aF}{o:HO}:upd H a o a=some o:=by unfold upd;rw[if_pos rfl]
def lh{H:Hp}{a b:aF}{o:HO}(h:b≠a):upd H a o b=H b:=by unfold upd;rw[if_neg h]
def KQ{H:Hp}{a b:aF}{o u:HO}(h:H a=some o)(h':H b=some u)(d:o≠u):a≠b:=by intro e;subst e;rw[h]at h';exact d<|cn h'
def mq{H:Hp}{a b:aF}{o:HO}(h:H a=some o)(h':H b=none):a≠b:=by intro e;subst e;rw[h]at h';cases h'
section
variable(P:aI)(w:aJ)
def ObjOk(H:Hp)(h:Heap)(a:aF):HO->Prop
 | .lst xs=>xs.length<=aC/\∃(its:Z9 aA)(n:Nat),Vals xs its/\h.get? a=some {cls:=.type "list",data:=.seq its.toArray n}
 | .tup xs=>xs.length<=aC/\∃its:Z9 aA,Vals xs its/\IsTup h a its.toArray
 | .dK aL=>aL.length<=aC/\(a==aW)=false/\∃vs,KV aL vs/\h.DictOf (qk P w) a vs
 | .dT aL=>aL.length<=aC/\(a==aW)=false/\∃xs:Z9 (Z9 Key×aF×aA),
   cR (λ(p:Z9 Key×V) (q:Z9 Key×aF×aA)=>p.1=q.1/\H q.2.1=some (.tup<|p.1.map kV)/\RelV p.2 q.2.2) aL xs/\
   ∃o es ep,h.get? a=some o/\o.ExactDict/\o.data=.dict es ep/\es.toList=xs.map (entryOfKey<|gG<|qk P w)/\(xs.map (·.1)).Nodup
 | .set S n=>h.SetOf (intKind P w) a S n
 | .ins C dx fs=>H dx=some (.own a)/\fs.length<=1000/\dx≠a/\h.get? a=some (PySem.W.instObj C dx)/\
   ∃mA,h.Ns1 dx mA/\(∀f,RelO (fs.lookup f)<|mA f)/\PySem.Within mA (fs.map (·.1))
 | .own _=>∃o,h.get? a=some o
 | .xd fs=>∃mA,h.Ns1 a mA/\∀f,RelO (fs.lookup f) (mA f)
 | .rng lo hi=>∃t u v,h.get? a=some {cls:=.type "range",data:=.fields #[.int lo t,.int hi u,.int 1 v]}
 | .frz o u=>h.get? a=some o/\ObjOk H h a u
 | .tbl ps=>h.get? a=some {cls:=.none,data:=.fields ps}
 | .met f x=>h.get? a=some (PySem.W.methodObj (.ref f)<|.ref x)
 | .ext φ=>φ h/\(∃o,h.get? a=some o)/\∀h1 h2:Heap,φ h1->(∀o,h1.get? a=some o->h2.get? a=some o)->φ h2
def HOk(H:Hp)(h:Heap):Prop:=∀a o,H a=some o->ObjOk P w H h a o
end
section
variable{P:aI}{w:aJ}{H H':Hp}{h h':Heap}{a:aF}{o:HO}
theorem ObjOk.lt(x:ObjOk P w H h a o):a<h.objs.size:=by
 cases o with
 | lst xs=>obtain⟨_,_,_,_,e⟩:=x;exact bi e
 | tup xs=>obtain⟨_,_,_,p⟩:=x;exact p.lt
 | dK aL=>obtain⟨_,_,_,_,o,_,_,e,_⟩:=x;exact bi e
 | dT aL=>obtain⟨_,_,_,_,o,_,_,e,_⟩:=x;exact bi e
 | set S n=>obtain⟨o,_,_,_,e,_⟩:=x;exact bi e
 | ins C dx fs=>obtain⟨_,_,_,e,_⟩:=x;exact bi e
 | own y=>obtain⟨_,e⟩:=x;exact bi e
 | xd fs=>obtain⟨_,⟨_,_,_,e,_⟩,_⟩:=x;exact bi e
 | rng lo hi=>obtain⟨_,_,_,e⟩:=x;exact bi e
 | frz ob u=>obtain⟨e,_⟩:=x;exact bi e
 | tbl ps=>exact bi (show h.get? a=some _ from x)
 | met f y=>exact bi (show h.get? a=some _ from x)
 | ext φ=>obtain⟨_,⟨_,e⟩,_⟩:=x;exact bi e
theorem cR.mapP{α β:Type}{F G:α->β->Prop}:∀{l₁:List α} {l₂:List β},cR F l₁ l₂->(∀a b,F a b->G a b)->cR G l₁ l₂
 | _,_,.nil,_=>.nil
 | _,_,.cons r t,f=>.cons (f _ _ r)<|cR.mapP t f
theorem ObjOk.stay(x:ObjOk P w H h a o)(k:∀b u,(b=a\/H b=some (.own a))->h.get? b=some u->h'.get? b=some u)
  (ho:∀b,H b=some (.own a)->H' b=some (.own a)) (ht:∀b xs,H b=some (.tup xs)->H' b=some (.tup xs)):ObjOk P w H' h' a o:=by
 induction o with
 | lst xs=>obtain⟨z,its,n,r,e⟩:=x;exact⟨z,its,n,r,k _ _ (.inl rfl) e⟩
 | tup xs=>obtain⟨z,its,r,ob,e,c⟩:=x;exact⟨z,its,r,ob,k _ _ (.inl rfl) e,c⟩
 | dK aL=>obtain⟨z,y,vs,r,ob,es,ep,e,c⟩:=x;exact⟨z,y,vs,r,ob,es,ep,k _ _ (.inl rfl) e,c⟩
 | dT aL=>
  obtain⟨z,y,xs,r,ob,es,ep,e,c⟩:=x;exact⟨z,y,xs,cR.mapP r λp q z=>⟨z.1,ht _ _ z.2.1,z.2.2⟩,ob,es,ep,k _ _ (.inl rfl) e,c⟩
 | set S n=>obtain⟨ob,es,ep,t,e,c⟩:=x;exact⟨ob,es,ep,t,k _ _ (.inl rfl) e,c⟩
 | ins C dx fs=>
  obtain⟨d,z,ne,e,mA,⟨od,es,ep,e2,c⟩,r⟩:=x;exact⟨ho _ d,z,ne,k _ _ (.inl rfl) e,mA,⟨od,es,ep,k _ _ (.inr d) e2,c⟩,r⟩
 | own y=>obtain⟨ob,e⟩:=x;exact⟨ob,k _ _ (.inl rfl) e⟩
 | xd fs=>obtain⟨mA,⟨od,es,ep,e,c⟩,r⟩:=x;exact⟨mA,⟨od,es,ep,k _ _ (.inl rfl) e,c⟩,r⟩
 | rng lo hi=>obtain⟨t,u,v,e⟩:=x;exact⟨t,u,v,k _ _ (.inl rfl) e⟩
 | frz ob u ih=>obtain⟨e,q⟩:=x;exact⟨k _ _ (.inl rfl) e,ih q⟩
 | tbl ps=>
  have e:h.get? a=some {cls:=.none,data:=.fields ps}:=x;show h'.get? a=some {cls:=.none,data:=.fields ps};exact k a _ (.inl rfl) e
 | met f y=>
  have e:h.get? a=some (PySem.W.methodObj (.ref f)<|.ref y):=x;show h'.get? a=some (PySem.W.methodObj (.ref f)<|.ref y);exact k a _ (.inl rfl) e
 | ext φ=>obtain⟨p,⟨o,e⟩,st⟩:=x;exact⟨st _ _ p λo q=>k _ _ (.inl rfl) q,⟨o,k _ _ (.inl rfl) e⟩,st⟩
theorem HOk.lt(x:HOk P w H h)(e:H a=some o):a<h.objs.size:=(x a o e).lt
theorem HOk.fresh(x:HOk P w H h)(e:h.objs.size<=a):H a=none:=by
 cases q:H a with
 | none=>rfl
 | some u=>exact absurd (cm (x.lt q) e)<|gy _
def HOk.kept(x:HOk P w H h)(k:∀b u,h.get? b=some u->h'.get? b=some u):HOk P w H h':=λa o e=>
 (x a o e).stay (λb u _ q=>k b u q) (λ_ q=>q) λ_ _ q=>q
def HOk.laid(x:HOk P w H h)(k:∀b u,h.get? b=some u->h'.get? b=some u)(hp:h.objs.size<=a)(new:ObjOk P w (upd H a o) h' a o):HOk P w (upd H a o) h':=λb u e=>by
 have hn:=x.fresh hp;by_cases hb:b=a
 .subst hb;rw[k8]at e;cases e;exact new
 .rw[lh hb]at e;exact(x b u e).stay (λc v _ q=>k c v q) (λc q=>by rw[lh (mq q hn)];exact q) λc xs q=>by rw[lh (mq q hn)];exact q
end
def Rd(H:Hp)(a:aF)(u:HO):Prop:=H a=some u\/∃o,H a=some (.frz o u)
def Rd.ok{P:aI}{w:aJ}{H:Hp}{h:Heap}{a:aF}{u:HO}(r:Rd H a u)(x:HOk P w H h):ObjOk P w H h a u:=by
 rcases r with r|⟨o,r⟩
 .exact x a u r
 .obtain⟨_,q⟩:=x a _ r;exact q
def Mut:Option HO->Prop
 | some (.lst _)=>True
 | some (.dK _)=>True
 | some (.dT _)=>True
 | some (.set _ _)=>True
 | some (.ins _ _ _)=>True
 | some (.ext _)=>True
 | _=>False
section
variable{P:aI}{w:aJ}{H:Hp}{h h':Heap}{x e:aF}{o':HO}
def HOk.write(ok:HOk P w H h)(mu:Mut (H x))(he:e=x\/H e=some (.own x))(k:∀b u,b≠e->h.get? b=some u->h'.get? b=some u)(AX:∃u,h'.get? e=some u)
  (new:ObjOk P w (upd H x o') h' x o'):HOk P w (upd H x o') h':=λb u q=>by
 have BW:∀c y,H c=some (.own y)->c≠x:=λc y r z=>by subst z;rw[r]at mu;exact mu
 have Hq:∀c xs,H c=some (.tup xs)->c≠x:=λc xs r z=>by subst z;rw[r]at mu;exact mu
 by_cases hb:b=x
 .subst hb;rw[k8]at q;cases q;exact new
 .rw[lh hb]at q;by_cases zR:b=e
  .have q':H b=some (.own x):=by
    rcases he with z|z
    .exact absurd (zR.trans z) hb
    .rw[zR];exact z
   rw[q]at q';cases q';obtain⟨v,hv⟩:=AX;exact⟨v,by rw[zR];exact hv⟩
  .refine(ok b u q).stay (λc v hc r=>k c v ?_ r) (λc r=>by rw[lh (BW c b r)];exact r) λc xs r=>by rw[lh (Hq c xs r)];exact r
   rcases hc with rfl|hc
   .exact zR
   .rintro rfl;rcases he with z|z
    .exact BW c b hc z
    .rw[hc]at z;cases z;exact hb rfl
end
structure Un(fs ex:Z9 aF)(H H':Hp)(h h':Heap):Prop where
 keep:∀b o,h.get? b=some o->H b=none->b∉fs->b∉ex->h'.get? b=some o
 slot:∀b o,h.get? b=some o->H b=none->b∈fs->b∉ex->∃sl,h'.get? b=some {o with slots:=sl}
 free:∀b o,h.get? b=some o->H b=none->b∉ex->H' b=none
 there:∀b o,h.get? b=some o->b∉ex->∃o',h'.get? b=some o'
 tups:∀b xs,H b=some (.tup xs)->H' b=some (.tup xs)
 frzs:∀b o u,H b=some (.frz o u)->H' b=some (.frz o u)
 tbls:∀b ps,H b=some (.tbl ps)->∃more,H' b=some (.tbl<|ps++more)
section
variable{fs fs' ex ex':Z9 aF}{H H1 H2:Hp}{h h1 h2 h':Heap}{a x e:aF}{o:HO}
def Un.any(u:Un fs ex H H1 h h1){b:aF}{ob:Obj}(q:h.get? b=some ob)(n:H b=none)(hx:b∉ex):∃sl,h1.get? b=some {ob with slots:=sl}:=by
 by_cases hb:b∈fs
 .exact u.slot b ob q n hb hx
 .exact⟨ob.slots,u.keep b ob q n hb hx⟩
def Un.kept(k:∀b u,h.get? b=some u->h'.get? b=some u):Un fs ex H H h h':=
 ⟨λb ob q _ _ _=>k b ob q,λb ob q _ _ _=>⟨ob.slots,k b ob q⟩,λ_ _ _ n _=>n,λb ob q _=>⟨ob,k b ob q⟩,λ_ _ q=>q,λ_ _ _ q=>q,λ_ ps q=>⟨#[],by rw[q];simp⟩⟩
def Un.refl:Un fs ex H H h h:=Un.kept λ_ _ q=>q
def Un.laid(k:∀b u,h.get? b=some u->h'.get? b=some u)(hp:h.objs.size<=a)(hn:H a=none):Un fs ex H (upd H a o) h h' where
 keep:=λb u q _ _ _=>k b u q
 slot:=λb u q _ _ _=>⟨u.slots,k b u q⟩
 free:=λb u q n _=>by rw[lh (ck<|cm (bi q) hp)];exact n
 there:=λb u q _=>⟨u,k b u q⟩
 tups:=λb xs q=>by rw[lh (mq q hn)];exact q
 frzs:=λb u xs q=>by rw[lh (mq q hn)];exact q
 tbls:=λb ps q=>⟨#[],by rw[lh (mq q hn),q];simp⟩
def Un.write(mu:Mut (H x))(he:e=x\/H e=some (.own x))(k:∀b u,b≠e->h.get? b=some u->h'.get? b=some u)(AX:∃u,h'.get? e=some u):Un fs ex H (upd H x o) h h':=by
 have hx:∀b,H b=none->b≠x:=λb n z=>by subst z;rw[n]at mu;exact mu
 have hb:∀b,H b=none->b≠e:=λb n z=>by
  subst z;rcases he with r|r
  .exact hx b n r
  .rw[n]at r;cases r
 have hm:∀b u,H b=some u->¬Mut (some u)->b≠x:=λb u q nm z=>by subst z;rw[q]at mu;exact nm mu
 refine⟨λb u q n _ _=>k b u (hb b n) q,λb u q n _ _=>⟨u.slots,k b u (hb b n) q⟩,λb u q n _=>by rw[lh (hx b n)];exact n,λb u q _=>?_,
  λb xs q=>by rw[lh (hm b _ q λz=>z)];exact q,λb u xs q=>by rw[lh (hm b _ q λz=>z)];exact q,λb ps q=>⟨#[],by rw[lh (hm b _ q λz=>z),q];simp⟩⟩
 by_cases zR:b=e
 .subst zR;exact AX
 .exact⟨u,k b u zR q⟩
end
noncomputable def trk(h:Heap)(H:Hp):Z9 aF:=(dt h.objs.size).filter λa=>(H a).isSome
noncomputable def vC(h:Heap)(H:Hp):Heap:=PySem.W.hideAll h<|trk h H
def ajx(h:Heap)(H:Hp):(vC h H).objs.size=h.objs.size:=PySem.W.hideAll_size _ _
def apc{h:Heap}{H:Hp}{b:aF}{o:Obj}(e:h.get? b=some o)(n:H b=none):(vC h H).get? b=some o:=
 PySem.W.hideAll_get _ e λhm=>by have q:(H b).isSome=true:=(f7.mp hm).2;rw[n]at q;simp at q
theorem aul{h:Heap}{H:Hp}{b:aF}{o:Obj}(e:(vC h H).get? b=some o):h.get? b=some o/\H b=none:=by
 have e':h.get? b=some o:=PySem.W.of_hideAll (trk h H) e;refine⟨e',?_⟩;cases q:H b with
 | none=>rfl
 | some x=>
  have hm:b∈trk h H:=f7.mpr ⟨iz.mpr<|bi e',by simp[q]⟩;have z:(vC h H).get? b=none:=PySem.W.hideAll_none (trk h H) hm;rw[z]at e;cases e
structure Mod(K:aq)(mg:Str->Option aA)(base:Heap):Prop where
 kin:K.In base
 glob:base.Ns aH mg
 blt:∃mb,base.Ns A8 mb/\∀x:Str,x≠"__name__"->mb x=bP x
 nolimit:base.NoLimit
structure Cx where
 prog:aI
 w:aJ
 K:aq
 mg:Str->Option aA
 base:Heap
 A:Around
 N:Z9 Str
 s₀:aB
 H₀:Hp
 env:kX
 outer:Z9 kX
 stack:Z9 kX
 ex:Z9 aF
 fn:Str->Bool
 calm:Bool
 pn:Z9 (aF×Obj)
 xe:aA->aB->Prop
noncomputable def frs(l:Z9 kX):Z9 aF:=l.filterMap (·.frame)
noncomputable abbrev Cx.fs(X:Cx):Z9 aF:=frs X.outer
def Vis(sc:bV)(x:Str):Prop:=sc.names.lookup x=some .local\/sc.names.lookup x=some .cell\/sc.names.lookup x=some .free
def Loc(sc:bV)(x:Str):Prop:=sc.names.lookup x=some .local\/sc.names.lookup x=some .cell
def a05(env:kX)(h:Heap)(m:Str->Option aA)(x:Str)(u:aA):Prop:=
 (env.kindOf x=some .local/\m x=some u)\/((env.kindOf x=some .cell\/env.kindOf x=some .free)/\∃c,env.cells.lookup x=some c/\h.IsCell c (some u))
structure Cx.Ok(X:Cx):Prop where
 mod:Mod X.K X.mg X.base
 kind:X.env.scope.kind=.function
 glob:X.env.globals=aH
 blt:X.env.builtins=A8
 above:X.s₀.heap.objs.size<=X.env.locals
 inj:∀x y c,X.env.cells.lookup x=some c->X.env.cells.lookup y=some c->x=y
 has:∀x,(X.env.kindOf x=some .cell\/X.env.kindOf x=some .free)->∃c,X.env.cells.lookup x=some c
 cab:∀x c,X.fn x=true->X.env.cells.lookup x=some c->X.s₀.heap.objs.size<=c
 hd:X.calm=true->X.A.handled=none
 frames:X.A.frames=some X.stack
 stk:X.stack=X.outer\/(X.stack=X.env::X.outer/\X.env.frame=some X.env.locals)
 exf:∀b∈X.ex,b≠X.env.locals/\∀x c,X.env.cells.lookup x=some c->c≠b
 bs:∀b o,X.base.get? b=some o->X.s₀.heap.get? b=some o/\X.H₀ b=none
 bsz:X.base.objs.size<=X.s₀.heap.objs.size
 noex:∀b o,X.base.get? b=some o->b∉X.ex
 exfs:∀b∈X.ex,b∉X.fs
 funs:X.s₀.heap.FunFrames X.base X.outer
 frf:∀b∈X.fs,X.H₀ b=none
structure Inv(X:Cx)(aE:Z9 (aF×Obj))(σ:Z9 (Option V))(H:Hp)(s:aB):Prop where
 ok:X.Ok
 os:s.os=X.s₀.os
 bare:eF s.gens
 base:Un X.fs X.ex X.H₀ H X.s₀.heap s.heap
 loc:∃m,s.heap.Ns X.env.locals m/\∀(i:Nat)(x:Str)(v:V),X.N[i]?=some x->σ[i]?=some (some v)->Vis X.env.scope x->∃u,RelV v u/\a05 X.env s.heap m x u
 cell:∀x c,X.env.cells.lookup x=some c->∃v,s.heap.IsCell c v
 free:H X.env.locals=none
 freeC:∀x c,X.env.cells.lookup x=some c->H c=none
 pin:∀p∈X.pn++aE,s.heap.get? p.1=some p.2/\H p.1=none/\p.1≠X.env.locals/\p.1∉X.fs/\∀v,p.2.data≠.cell v
 hok:HOk X.prog X.w H s.heap
 len:σ.length=X.N.length
section
variable{X:Cx}{aE:Z9 (aF×Obj)}{σ:Z9 (Option V)}{H H':Hp}{s:aB}{h':Heap}
def Cx.Ok.nofr(ok:X.Ok){b:aF}{o:Obj}(e:X.base.get? b=some o):b∉X.fs:=λhb=>by have:=(ok.funs.mem hb).1;rw[e]at this;cases this
theorem Inv.bs(I:Inv X aE σ H s):∀b o,X.base.get? b=some o->s.heap.get? b=some o/\H b=none:=λb o e=>
 ⟨I.base.keep b o (I.ok.bs b o e).1 (I.ok.bs b o e).2 (I.ok.nofr e) (I.ok.noex b o e),I.base.free b o (I.ok.bs b o e).1 (I.ok.bs b o e).2 (I.ok.noex b o e)⟩
def Inv.bk(I:Inv X aE σ H s):∀b o,X.base.get? b=some o->s.heap.get? b=some o:=λb o e=>(I.bs b o e).1
theorem Inv.mod(I:Inv X aE σ H s):Mod X.K X.mg X.base:=I.ok.mod
def Inv.kIn(I:Inv X aE σ H s):X.K.In s.heap:=I.ok.mod.kin.keeps I.bk
theorem Inv.lt(I:Inv X aE σ H s):X.env.locals<s.heap.objs.size:=let ⟨_,hn,_⟩:=I.loc;hn.lt
def Inv.sz(I:Inv X aE σ H s):X.s₀.heap.objs.size<=s.heap.objs.size:=fj I.ok.above<|cb I.lt
def Inv.nofs(I:Inv X aE σ H s){a:aF}(h:s.heap.objs.size<=a):a∉X.fs:=λhb=>by obtain⟨_,o,ho,_⟩:=I.ok.funs.mem hb;exact absurd (cm (bi ho)<|fj I.sz h)<|gy _
def Inv.cne(I:Inv X aE σ H s):∀x c,X.env.cells.lookup x=some c->c≠X.env.locals:=λx c e z=>by obtain⟨v,o,ho,hd⟩:=I.cell x c e;obtain⟨m,⟨o',es,ep,gN,mB,_⟩,_⟩:=I.loc;rw[z,gN]at ho;cases ho;rw[mB]at hd;cases hd
theorem Inv.funs(I:Inv X aE σ H s):s.heap.FunFrames X.base X.outer:=by
 have all:∀(l:Z9 kX),(∀b∈frs l,b∈X.fs)->X.s₀.heap.FunFrames X.base l->s.heap.FunFrames X.base l:=by
  intro l;induction l with
  | nil=>intro _ _;trivial
  | cons env r ih=>
   intro hs hl;obtain⟨hk,⟨L,o,hf,hn,ho,hd⟩,hr⟩:=hl;have hL:L∈X.fs:=hs L (by unfold frs;rw[jz,hf];exact aj);obtain⟨sl,e⟩:=I.base.slot L o ho (I.ok.frf L hL) hL λz=>I.ok.exfs L z hL;exact⟨hk,⟨L,_,hf,hn,e,hd⟩,ih (λb hb=>hs b<|by unfold frs;rw[jz,hf];exact ak _ hb) hr⟩
 exact all X.outer (λ_ hb=>hb) I.ok.funs
theorem Inv.stack(I:Inv X aE σ H s):s.heap.FunFrames X.base X.stack:=by
 rcases I.ok.stk with e|⟨e,hf⟩
 .rw[e];exact I.funs
 .rw[e];obtain⟨m,hn,_⟩:=I.loc;refine .cons (by rw[I.ok.kind];decide) hf hn ?_ I.funs;exact Heap.get?_none_of_le<|fj I.ok.bsz I.ok.above
def Inv.stkSub(I:Inv X aE σ H s):∀b∈frs X.stack,b∈X.env.locals::X.fs:=λb hb=>by
 rcases I.ok.stk with e|⟨e,hf⟩
 .rw[e]at hb;exact ak _ hb
 .rw[e]at hb;unfold frs at hb;rw[jz,hf]at hb;exact hb
def Inv.stkFree(I:Inv X aE σ H s):∀b∈frs X.stack,H b=none:=λb hb=>by
 rcases ap.mp (I.stkSub b hb)with e|hb
 .rw[e];exact I.free
 .obtain⟨_,o,ho,_⟩:=I.ok.funs.mem hb;exact I.base.free b o ho (I.ok.frf b hb) λz=>I.ok.exfs b z hb
def Inv.step{g':Array jI}{t':Nat}{d':Drawn}{ch:Z9 aF}(I:Inv X aE σ H s)
  (oF:∀b∈ch,(b∈X.ex\/X.s₀.heap.objs.size<=b)/\b≠X.env.locals/\(∀x c,X.env.cells.lookup x=some c->c≠b)/\∀p∈X.pn++aE,p.1≠b)
  (keep:∀b o,b≠X.env.locals->b∉X.fs->b∉ch->s.heap.get? b=some o->H b=none->h'.get? b=some o)
  (slot:∀b o,b≠X.env.locals->b∈X.fs->b∉ch->s.heap.get? b=some o->H b=none->∃sl,h'.get? b=some {o with slots:=sl}) (free:∀b o,b∉ch->s.heap.get? b=some o->H b=none->H' b=none)
  (there:∀b o,b∉ch->s.heap.get? b=some o->∃o',h'.get? b=some o')
  (tups:∀b xs,H b=some (.tup xs)->H' b=some (.tup xs)) (frzs:∀b o u,H b=some (.frz o u)->H' b=some (.frz o u)) (tbls:∀b ps,H b=some (.tbl ps)->∃more,H' b=some (.tbl<|ps++more))
  (ns:∀m,s.heap.Ns X.env.locals m->h'.Ns X.env.locals m) (hok:HOk X.prog X.w H' h') (hg:eF g') :
  Inv X aE σ H' {s with heap:=h',gens:=g',drawn:=d',toks:=t'}:=by
 have neL:∀b o,X.s₀.heap.get? b=some o->b≠X.env.locals:=λb o e=>ck<|cm (bi e) I.ok.above;have EN:∀b o,X.s₀.heap.get? b=some o->b∉X.ex->b∉ch:=λb o e hx hb=>by
  rcases(oF b hb).1 with z|z
  .exact hx z
  .exact absurd (cm (bi e) z)<|gy _
 have xG:∀x c,X.env.cells.lookup x=some c->∀v,s.heap.IsCell c v->h'.IsCell c v:=λx c e v ⟨o,ho,hd⟩=>by
  have BY:c∉ch:=λz=>(oF c z).2.2.1 x c e rfl;by_cases hc:c∈X.fs
  .obtain⟨sl,q⟩:=slot c o (I.cne x c e) hc BY ho<|I.freeC x c e;exact⟨_,q,hd⟩
  .exact⟨o,keep c o (I.cne x c e) hc BY ho<|I.freeC x c e,hd⟩
 refine⟨I.ok,I.os,hg,⟨λb o e n hb hx=>?_,λb o e n hb hx=>?_,λb o e n hx=>?_,λb o e hx=>?_,λb xs e=>tups b xs<|I.base.tups b xs e,λb o xs e=>frzs b o xs<|I.base.frzs b o xs e,λb ps e=>?_⟩,?_,λx c e=>?_,?_,λx c e=>?_,λp hp=>?_,hok,I.len⟩
 .exact keep b o (neL b o e) hb (EN b o e hx) (I.base.keep b o e n hb hx)<|I.base.free b o e n hx
 .obtain⟨sl,e1⟩:=I.base.slot b o e n hb hx;obtain⟨uF,e2⟩:=slot b _ (neL b o e) hb (EN b o e hx) e1<|I.base.free b o e n hx;exact⟨uF,e2⟩
 .obtain⟨o',e1⟩:=I.base.there b o e hx;exact free b o' (EN b o e hx) e1<|I.base.free b o e n hx
 .obtain⟨o',e1⟩:=I.base.there b o e hx;exact there b o' (EN b o e hx) e1
 .obtain⟨m1,e1⟩:=I.base.tbls b ps e;obtain⟨m2,e2⟩:=tbls b _ e1;exact⟨m1++m2,by rw[e2,Array.append_assoc]⟩
 .obtain⟨m,hn,hl⟩:=I.loc;refine⟨m,ns m hn,λi x v e1 e2 e3=>?_⟩;obtain⟨u,r,l⟩:=hl i x v e1 e2 e3;refine⟨u,r,?_⟩;rcases l with l|⟨k,c,e,z⟩
  .exact .inl l
  .exact .inr ⟨k,c,e,xG x c e _ z⟩
 .obtain⟨v,z⟩:=I.cell x c e;exact⟨v,xG x c e v z⟩
 .obtain⟨m,⟨o,_,_,ho,_⟩,_⟩:=I.loc;exact free _ o (λz=>(oF _ z).2.1 rfl) ho I.free
 .obtain⟨v,o,ho,hd⟩:=I.cell x c e;exact free c o (λz=>(oF c z).2.2.1 x c e rfl) ho<|I.freeC x c e
 .obtain⟨e,n,ne,nf,d⟩:=I.pin p hp;have BY:p.1∉ch:=λz=>(oF p.1 z).2.2.2 p hp rfl;exact⟨keep p.1 p.2 ne nf BY e n,free p.1 p.2 BY e n,ne,nf,d⟩
def Inv.un{t':Nat}(I:Inv X aE σ H s)(u:Un X.fs [] H H' s.heap h')(hok:HOk X.prog X.w H' h'):Inv X aE σ H' {s with heap:=h',toks:=t'}:=by
 obtain⟨m,⟨o,es,ep,ho,r⟩,_⟩:=id I.loc;obtain⟨sl,hL⟩:=u.any ho I.free (by simp);exact I.step (g':=s.gens) (d':=s.drawn) (ch:=[]) (λ_ z=>nomatch z) (λb o _ hb _ e n=>u.keep b o e n hb<|by simp) (λb o _ hb _ e n=>u.slot b o e n hb<|by simp) (λb o _ e n=>u.free b o e n<|by simp) (λb o _ e=>u.there b o e<|by simp) u.tups u.frzs u.tbls (λm' hm=>by obtain⟨o',JN,JO,gN,r'⟩:=hm;rw[ho]at gN;cases gN;exact⟨_,JN,JO,hL,r'⟩) hok I.bare
def Inv.call{g':Array jI}{t':Nat}{d':Drawn}{ch:Z9 aF}(I:Inv X aE σ H s)(u:Un (frs X.stack) ch H H' s.heap h')(hok:HOk X.prog X.w H' h')(hg:eF g')
  (oF:∀b∈ch,(b∈X.ex\/X.s₀.heap.objs.size<=b)/\b≠X.env.locals/\(∀x c,X.env.cells.lookup x=some c->c≠b)/\∀p∈X.pn++aE,p.1≠b) :
  Inv X aE σ H' {s with heap:=h',gens:=g',drawn:=d',toks:=t'}:=by
 obtain⟨m,⟨o,es,ep,ho,r⟩,_⟩:=id I.loc;obtain⟨sl,hL⟩:=u.any ho I.free λz=>(oF _ z).2.1 rfl;exact I.step (ch:=ch) oF (λb o hL hb hc e n=>u.keep b o e n (λz=>(ap.mp<|I.stkSub b z).elim hL hb) hc) (λb o _ _ hc e n=>u.any e n hc) (λb o hc e n=>u.free b o e n hc) (λb o hc e=>u.there b o e hc) u.tups u.frzs u.tbls (λm' hm=>by obtain⟨o',JN,JO,gN,r'⟩:=hm;rw[ho]at gN;cases gN;exact⟨_,JN,JO,hL,r'⟩) hok hg
def Inv.turned{t':Nat}{it:aF}(I:Inv X aE σ H s)(k:∀b o,b≠it->s.heap.get? b=some o->h'.get? b=some o)(hn:H it=none)(hL:it≠X.env.locals)
  (h1:it∈X.ex\/X.s₀.heap.objs.size<=it) (h2:∀x c,X.env.cells.lookup x=some c->c≠it) (h3:∀p∈X.pn++aE,p.1≠it):Inv X aE σ H {s with heap:=h',toks:=t'}:=by
 have nit:∀b u,H b=some u->b≠it:=λb u e z=>by rw[z,hn]at e;cases e
 refine I.step (g':=s.gens) (d':=s.drawn) (ch:=[it]) (λb hb=>?_) (λb o _ _ hc e _=>k b o (λz=>hc<|by simp[z]) e) (λb o _ _ hc e _=>⟨o.slots,k b o (λz=>hc<|by simp[z]) e⟩) (λ_ _ _ _ n=>n)
  (λb o hc e=>⟨o,k b o (λz=>hc<|by simp[z]) e⟩) (λ_ _ e=>e) (λ_ _ _ e=>e) (λb ps e=>⟨#[],by rw[e];simp⟩) (λm hm=>?_) (λb u e=>?_) I.bare
 .have e:b=it:=by simpa using hb
  subst e;exact⟨h1,hL,h2,h3⟩
 .obtain⟨o,es,ep,ho,r⟩:=hm;exact⟨o,es,ep,k _ o (Ne.symm hL) ho,r⟩
 .refine(I.hok b u e).stay (λc v hc q=>k c v ?_ q) (λ_ q=>q) λ_ _ q=>q;rcases hc with z|z
  .rw[z];exact nit b u e
  .exact nit c _ z
def Inv.tok(I:Inv X aE σ H s)(t:Nat):Inv X aE σ H {s with toks:=t}:=I.un (h':=s.heap) (t':=t) Un.refl I.hok
theorem Inv.kept{t':Nat}(I:Inv X aE σ H s)(k:∀b u,s.heap.get? b=some u->h'.get? b=some u):Inv X aE σ H {s with heap:=h',toks:=t'}:=I.un (Un.kept k)<|I.hok.kept k
theorem Inv.laid{a:aF}{o:HO}{t':Nat}(I:Inv X aE σ H s)(k:∀b u,s.heap.get? b=some u->h'.get? b=some u)(hp:s.heap.objs.size<=a)(new:ObjOk X.prog X.w (upd H a o) h' a o) :
  Inv X aE σ (upd H a o) {s with heap:=h',toks:=t'}:=I.un (Un.laid k hp<|I.hok.fresh hp)<|I.hok.laid k hp new
theorem Inv.write{x e:aF}{o:HO}{t':Nat}(I:Inv X aE σ H s)(mu:Mut (H x))(he:e=x\/H e=some (.own x))(k:∀b u,b≠e->s.heap.get? b=some u->h'.get? b=some u)(AX:∃u,h'.get? e=some u)
  (new:ObjOk X.prog X.w (upd H x o) h' x o):Inv X aE σ (upd H x o) {s with heap:=h',toks:=t'}:=I.un (Un.write mu he k AX)<|I.hok.write mu he k AX new
def Inv.weak{σ':Z9 (Option V)}(I:Inv X aE σ H s)(hl:σ'.length=σ.length)(w:∀(i:Nat) v,σ'[i]?=some (some v)->σ[i]?=some (some v)):Inv X aE σ' H s:=
 ⟨I.ok,I.os,I.bare,I.base,let ⟨m,hn,tE⟩:=I.loc;⟨m,hn,λi x v e1 e2 e3=>tE i x v e1 (w i v e2) e3⟩,I.cell,I.free,I.freeC,I.pin,I.hok,hl.trans I.len⟩
def Inv.pins_of{vW:Z9 (aF×Obj)}(I:Inv X aE σ H s)(h:∀p∈vW,s.heap.get? p.1=some p.2/\H p.1=none/\p.1≠X.env.locals/\p.1∉X.fs/\∀v,p.2.data≠.cell v):Inv X vW σ H s:=
 ⟨I.ok,I.os,I.bare,I.base,I.loc,I.cell,I.free,I.freeC,λp hp=>(bo.mp hp).elim (λz=>I.pin p<|ip _ z) (h p),I.hok,I.len⟩
def ahb{N:Z9 Str}(hN:N.Nodup){i j:Nat}{x:Str}(a:N[i]?=some x)(b:N[j]?=some x):i=j:=by obtain⟨h1,e1⟩:=ar.mp a;obtain⟨h2,e2⟩:=ar.mp b;exact(List.getElem_inj hN).mp (e1.trans e2.symm)
def afb{M:Model}{A:Around}{E:aA->aB->Prop}{i:Nat}{x:Str}{v:V}{u:aA}{Q:Unit->aB->Prop}(I:Inv X aE σ H s)(hN:X.N.Nodup)(hi:X.N[i]?=some x)(hx:Loc X.env.scope x)(r:RelV v u)
  (h:∀s',Inv X aE (σ.set i<|some v) H s'->(∃a,cf a s.heap s'.heap/\(a=X.env.locals\/X.env.cells.lookup x=some a))->Q () s') (hf:X.fn x=true\/X.env.scope.names.lookup x=some .local:=by first|exact .inl rfl|exact .inr rfl|assumption):wpAny M A (storeName X.env x u) Q E s:=by
 obtain⟨m,hn,hl⟩:=id I.loc;have zP:(X.env.scope.kind==.class||(X.env.scope.kind==.module&&X.env.locals != X.env.globals))=false:=by rw[I.ok.kind];rfl
 have hiσ:i<σ.length:=by rw[I.len];exact(ar.mp hi).1
 have cne:=I.cne;have mP:∀{a:aF} {h':Heap},(∃o,s.heap.get? a=some o/\H a=none)->cf a s.heap h'->HOk X.prog X.w H h':=λ{a h'} ha hs b ob e=>by
  obtain⟨_,_,bS⟩:=ha;refine(I.hok b ob e).stay (λc w' hc q=>(hs.2 c ?_).trans q) (λ_ q=>q) λ_ _ q=>q;rintro rfl;rcases hc with rfl|hc
  .rw[bS]at e;cases e
  .rw[bS]at hc;cases hc
 rcases hx with hk|hk
 .refine wpAny_storeName_local hk hn (λh' eZ hs=>?_) zP;obtain⟨oL,_,_,yZ,_⟩:=id hn;refine h _ ⟨I.ok,I.os,I.bare,⟨λb o e n hb hx=>?_,λb o e n hb hx=>?_,I.base.free,λb o e hx=>?_,I.base.tups,I.base.frzs,I.base.tbls⟩,⟨_,eZ,λj y v' e1 e2 e3=>?_⟩,λy c e=>?_,I.free,I.freeC,λp hp=>?_,mP ⟨oL,yZ,I.free⟩ hs,by simpa using I.len⟩ ⟨_,hs,.inl rfl⟩
  .exact(hs.2 b<|ck<|cm (bi e) I.ok.above).trans (I.base.keep b o e n hb hx)
  .obtain⟨sl,e1⟩:=I.base.slot b o e n hb hx;exact⟨sl,(hs.2 b<|ck<|cm (bi e) I.ok.above).trans e1⟩
  .obtain⟨o',e1⟩:=I.base.there b o e hx;exact⟨o',(hs.2 b<|ck<|cm (bi e) I.ok.above).trans e1⟩
  .by_cases hj:j=i
   .subst hj;rw[hi]at e1;cases e1;rw[List.getElem?_set_self hiσ]at e2;cases e2;exact⟨u,r,.inl ⟨hk,by simp⟩⟩
   .rw[List.getElem?_set_ne (Ne.symm hj)]at e2;obtain⟨u',r',q⟩:=hl j y v' e1 e2 e3;refine⟨u',r',?_⟩;rcases q with ⟨k,e⟩|⟨k,c,e,z⟩
    .refine .inl ⟨k,?_⟩;have:y≠x:=λe=>hj<|ahb hN e1<|e▸hi;simp[this,e]
    .exact .inr ⟨k,c,e,z.sameBut hs<|cne y c e⟩
  .obtain⟨w',z⟩:=I.cell y c e;exact⟨w',z.sameBut hs<|cne y c e⟩
  .obtain⟨e,n,ne,nf,d⟩:=I.pin p hp;exact⟨(hs.2 p.1 ne).trans e,n,ne,nf,d⟩
 .have Jd:X.fn x=true:=by
   rcases hf with z|z
   .exact z
   .rw[z]at hk;cases hk
  obtain⟨c,hc⟩:=I.ok.has x<|.inl hk;obtain⟨w',z⟩:=I.cell x c hc;refine wpAny_storeName_cell I.ok.kind hk hc z λh' mF hs=>?_;obtain⟨oc,uR,Iu⟩:=id z;refine h {s with heap:=h'} ⟨I.ok,I.os,I.bare,⟨λb o e n hb hx=>?_,λb o e n hb hx=>?_,I.base.free,λb o e hx=>?_,I.base.tups,I.base.frzs,I.base.tbls⟩,⟨m,hn.sameBut hs<|Ne.symm<|cne x c hc,λj y v' e1 e2 e3=>?_⟩,λy c' e=>?_,I.free,I.freeC,λp hp=>?_,mP ⟨oc,uR,I.freeC x c hc⟩ hs,by simpa using I.len⟩ ⟨c,hs,.inr hc⟩
  .exact(hs.2 b<|ck<|cm (bi e)<|I.ok.cab x c Jd hc).trans (I.base.keep b o e n hb hx)
  .obtain⟨sl,e1⟩:=I.base.slot b o e n hb hx;exact⟨sl,(hs.2 b<|ck<|cm (bi e)<|I.ok.cab x c Jd hc).trans e1⟩
  .obtain⟨o',e1⟩:=I.base.there b o e hx;exact⟨o',(hs.2 b<|ck<|cm (bi e)<|I.ok.cab x c Jd hc).trans e1⟩
  .by_cases hj:j=i
   .subst hj;rw[hi]at e1;cases e1;rw[List.getElem?_set_self hiσ]at e2;cases e2;exact⟨u,r,.inr ⟨.inl hk,c,hc,mF⟩⟩
   .rw[List.getElem?_set_ne (Ne.symm hj)]at e2;obtain⟨u',r',q⟩:=hl j y v' e1 e2 e3;refine⟨u',r',?_⟩;rcases q with q|⟨k,c',e,z'⟩
    .exact .inl q
    .refine .inr ⟨k,c',e,z'.sameBut hs ?_⟩;rintro rfl;exact hj<|ahb hN e1<|I.ok.inj _ _ _ e hc▸hi
  .by_cases hcc:c'=c
   .subst hcc;exact⟨_,mF⟩
   .obtain⟨w2,z2⟩:=I.cell y c' e;exact⟨w2,z2.sameBut hs hcc⟩
  .obtain⟨e,n,ne,nf,d⟩:=I.pin p hp;refine⟨(hs.2 p.1 ?_).trans e,n,ne,nf,d⟩;intro q;rw[q,uR]at e;have q':oc=p.2:=cn e;exact d w'<|by rw[<-q'];exact Iu
def LR{M:Model}{A:Around}{E:aA->aB->Prop}{i:Nat}{x:Str}{v:V}{u:aA}{Q:Unit->aB->Prop}(I:Inv X aE σ H s)(hN:X.N.Nodup)(hi:X.N[i]?=some x)(hx:Loc X.env.scope x)(r:RelV v u)
  (h:∀s',Inv X aE (σ.set i<|some v) H s'->Q () s') (hf:X.fn x=true\/X.env.scope.names.lookup x=some .local:=by first|exact .inl rfl|exact .inr rfl|assumption):wpAny M A (storeName X.env x u) Q E s:=
 afb I hN hi hx r (λs' I' _=>h s' I') hf
def Inv.call'{s':aB}{ch:Z9 aF}(I:Inv X aE σ H s)(ho:s'.os=s.os)(u:Un (frs X.stack) ch H H' s.heap s'.heap)(hok:HOk X.prog X.w H' s'.heap)(hg:eF s'.gens)
  (oF:∀b∈ch,(b∈X.ex\/X.s₀.heap.objs.size<=b)/\b≠X.env.locals/\(∀x c,X.env.cells.lookup x=some c->c≠b)/\∀p∈X.pn++aE,p.1≠b):Inv X aE σ H' s':=by
 obtain⟨h',g',d',t',o'⟩:=s';have e:o'=s.os:=ho;subst e;exact I.call (g':=g') (t':=t') (d':=d') u hok hg oF
end
abbrev XK:=aA->Option aF->Hp->Prop
noncomputable abbrev St:=Z9<|Option V
abbrev VK:=V->Hp->Prop
abbrev TE:=St->Hp->VK->Prop
abbrev TT:=St->Hp->(Bool->Hp->Prop)->Prop
abbrev TA:=St->Hp->(Z9 V->Hp->Prop)->Prop
structure mJ where
 nx:St->Hp->Prop
 rt:VK
 bk:St->Hp->Prop:=λ_ _=>False
 ct:St->Hp->Prop:=λ_ _=>False
abbrev TS:=mJ->St->Hp->Prop
def EP(X:Cx)(aE:Z9 (aF×Obj))(σ:St)(Q:VK)(u:aA)(s':aB):Prop:=∃v H',Inv X aE σ H' s'/\RelV v u/\Q v H'
def TP(X:Cx)(aE:Z9 (aF×Obj))(σ:St)(Q:Bool->Hp->Prop)(b:Bool)(s':aB):Prop:=∃H',Inv X aE σ H' s'/\Q b H'
def AP(X:Cx)(aE:Z9 (aF×Obj))(σ:St)(Q:Z9 V->Hp->Prop)(us:Z9 aA)(s':aB):Prop:=∃vs H',Inv X aE σ H' s'/\Vals vs us/\Q vs H'
def SP(X:Cx)(aE:Z9 (aF×Obj))(D:mJ)(f:Flow)(s':aB):Prop:=
 match f with
 | .next=>∃σ' H',Inv X aE σ' H' s'/\D.nx σ' H'
 | .brk=>∃σ' H',Inv X aE σ' H' s'/\D.bk σ' H'
 | .cont=>∃σ' H',Inv X aE σ' H' s'/\D.ct σ' H'
 | .ret u=>∃v σ' H',Inv X aE σ' H' s'/\RelV v u/\D.rt v H'
def PE(X:Cx)(e:Expr)(t:TE):Prop:=
 ∀(aE:Z9 (aF×Obj)) (s:aB) (σ:St) (H:Hp) (Q:VK),Inv X aE σ H s->t σ H Q->wpAny (aG X.prog X.w) X.A (bL e X.env) (EP X aE σ Q) X.xe s
def PT(X:Cx)(e:Expr)(t:TT):Prop:=
 ∀(aE:Z9 (aF×Obj)) (s:aB) (σ:St) (H:Hp) (Q:Bool->Hp->Prop),Inv X aE σ H s->t σ H Q->wpAny (aG X.prog X.w) X.A (isTrue e X.env<|bL e X.env) (TP X aE σ Q) X.xe s
def PW(X:Cx)(e:Expr)(t:TT):Prop:=
 ∀(gZ:Sem aA) (aE:Z9 (aF×Obj)) (s:aB) (σ:St) (H:Hp) (Q:Bool->Hp->Prop),Inv X aE σ H s->t σ H Q->wpAny (aG X.prog X.w) X.A (isTrue e X.env gZ) (TP X aE σ Q) X.xe s
def PW.pt{X:Cx}{e:Expr}{t:TT}(h:PW X e t):PT X e t:=h _
def PA(X:Cx)(es:Z9 Expr)(t:TA):Prop:=
 ∀(pos:cU) (aE:Z9 (aF×Obj)) (s:aB) (σ:St) (H:Hp) (Q:Z9 V->Hp->Prop),Inv X aE σ H s->t σ H Q->wpAny (aG X.prog X.w) X.A (lO<|bA pos<|aK es X.env) (AP X aE σ Q) X.xe s
def PS(X:Cx)(st:aO)(t:TS):Prop:=
 ∀(aE:Z9 (aF×Obj)) (s:aB) (σ:St) (H:Hp) (D:mJ),Inv X aE σ H s->t D σ H->wpAny (aG X.prog X.w) X.A (exec st X.env) (SP X aE D) X.xe s
def PSs(X:Cx)(st:Z9 aO)(t:TS):Prop:=
 ∀(aE:Z9 (aF×Obj)) (s:aB) (σ:St) (H:Hp) (D:mJ),Inv X aE σ H s->t D σ H->wpAny (aG X.prog X.w) X.A (execs st X.env) (SP X aE D) X.xe s
def thn{α:Type}{t:Sem α}{Q Q':α->aB->Prop}{M:Model}{A:Around}{E:aA->aB->Prop}{s:aB}(h:wpAny M A t Q E s)(hQ:∀a s,Q a s->Q' a s):wpAny M A t Q' E s:=jj h hQ λ_ _ x=>x
section
variable{X:Cx}
def iC(i:Nat):TE:=λσ H Q=>∃v,σ[i]?=some (some v)/\Q v H
def tC(v:V):TE:=λ_ H Q=>Q v H
def avx{i:Nat}{x:Str}{pos:cU}(hN:X.N[i]?=some x)(hv:Vis X.env.scope x)(hd:(x==("__debug__" : Str))=false:=by decide)(nI:(x==("__classdict__" : Str))=false:=by decide):PE X (.Name x pos) (iC i):=by
 intro aE s σ H Q I h;obtain⟨v,e,h⟩:=h;obtain⟨m,hn,hl⟩:=I.loc;obtain⟨u,r,l⟩:=hl i x v hN e hv;have cS:EP X aE σ Q u s:=⟨v,H,I,r,h⟩;rcases l with ⟨hk,hm⟩|⟨hk,c,hc,wS⟩
 .exact Az (wpAny_loadName_local I.ok.kind hk hn hm cS) hd
 .rcases hk with hk|hk
  .exact Az (wpAny_loadName_cell I.ok.kind hk hc wS cS) hd
  .exact Az (wpAny_loadName_free I.ok.kind hk hc wS cS nI) hd
def k7{i j pos}:PE X (.Constant (.int i) j pos) (tC<|.int i):=λ_ _ _ H _ I h=>wpAny_Constant_int ⟨.int i,H,I.tok _,⟨_,rfl⟩,h⟩
def o9{b j pos}:PE X (.Constant (.bool b) j pos) (tC<|.bl b):=λ_ _ _ H _ I h=>Constant_bool ⟨.bl b,H,I,rfl,h⟩
def DP{j pos}:PE X (.Constant .none j pos) (tC .non):=λ_ _ _ H _ I h=>Constant_none ⟨.non,H,I,rfl,h⟩
def lc{x j pos}:PE X (.Constant (.str x) j pos) (tC<|.str x):=λ_ _ _ H _ I h=>Calls.Constant_str ⟨.str x,H,I.tok _,⟨_,rfl⟩,h⟩
def Gl(X:Cx)(x:Str):Prop:=X.env.kindOf x=some .globalImplicit
def DT{E:aA->aB->Prop}{aE:Z9 (aF×Obj)}{s:aB}{σ:St}{H:Hp}{x:Str}{u:aA}{pos:cU}{Q:aA->aB->Prop}(I:Inv X aE σ H s)(hg:Gl X x)(hm:X.mg x=some u)(h:Q u s)
  (hd:(x==("__debug__" : Str))=false:=by decide):wpAny (aG X.prog X.w) X.A (bL (.Name x pos) X.env) Q E s:=
 Calls.Name_function_global I.ok.kind hg (Calls.loadGlobal_global (by rw[I.ok.glob];exact I.mod.glob.keeps I.bk) hm h) hd
def ur{E:aA->aB->Prop}{aE:Z9 (aF×Obj)}{s:aB}{σ:St}{H:Hp}{x:Str}{u:aA}{pos:cU}{Q:aA->aB->Prop}(I:Inv X aE σ H s)(hg:Gl X x)(hm:X.mg x=none)(hv:bP x=some u)(h:Q u s)
  (hn:x≠"__name__":=by decide) (hd:(x==("__debug__" : Str))=false:=by decide):wpAny (aG X.prog X.w) X.A (bL (.Name x pos) X.env) Q E s:=by
 obtain⟨mb,h1,h2⟩:=I.mod.blt;exact Calls.Name_function_global I.ok.kind hg (Calls.loadGlobal_builtin (by rw[I.ok.glob];exact I.mod.glob.keeps I.bk) hm (by rw[I.ok.blt];exact h1.keeps I.bk) ((h2 x hn).trans hv) h) hd
def yc{x:Str}{v:V}{u:aA}{pos:cU}(hg:Gl X x)(hm:X.mg x=some u)(r:RelV v u)(hd:(x==("__debug__" : Str))=false:=by decide):PE X (.Name x pos) (tC v):=
 λ_ _ _ H _ I h=>DT I hg hm ⟨v,H,I,r,h⟩ hd
def qe{x:Str}{v:V}{u:aA}{pos:cU}(hg:Gl X x)(hm:X.mg x=none)(hv:bP x=some u)(r:RelV v u)(hn:x≠"__name__":=by decide)(hd:(x==("__debug__" : Str))=false:=by decide):PE X (.Name x pos) (tC v):=
 λ_ _ _ H _ I h=>ur I hg hm hv ⟨v,H,I,r,h⟩ hn hd
variable{a b:Expr}{ta tb:TE}{pos:cU}
def tB(t:TE):TT:=λσ H Q=>t σ H λx H1=>∃c,x=.bl c/\Q c H1
def qc{e:Expr}{t:TE}(h:PE X e t)(he:∀gZ,isTrue e X.env gZ=(do let v <-gZ;BD e.pos;eY [v] (truthy v)):=by intro _;rfl):PT X e (tB t):=by intro aE s σ H Q I hw;refine isTrue_plain (thn (h aE s σ H _ I hw) λv s1 ⟨x,H1,I1,r1,q1⟩=>?_)<|he _;obtain⟨d,rfl,q⟩:=q1;cases r1;exact gf ⟨H1,I1,q⟩
variable{tA tB':TT}{bK:Z9 Expr}
def tOr(t u:TT):TT:=λσ H Q=>t σ H λc H1=>if c=true then Q true H1 else u σ H1 Q
def a1m(t:TT):TT:=λσ H Q=>t σ H λc H1=>Q (!c) H1
theorem ua(ha:PT X a tA):PW X (.BoolOp .Or [a] pos) tA:=by
 intro wh aE s σ H Q I h;refine isTrue_or<|thn (ha aE s σ H Q I h) λc s1 e=>?_;cases c with
 | false=>exact isTrue_or_nil e
 | true=>exact e
theorem yb(ha:PT X a tA)(hb:PW X (.BoolOp .Or (b::bK) pos) tB'):PW X (.BoolOp .Or (a::b::bK) pos) (tOr tA tB'):=by
 intro wh aE s σ H Q I h;refine isTrue_or<|thn (ha aE s σ H _ I h) λc s1 ⟨H1,I1,q1⟩=>?_;cases c with
 | true=>exact⟨H1,I1,q1⟩
 | false=>exact hb wh aE s1 σ H1 Q I1 q1
def oy(ha:PT X a tA):PT X (.UnaryOp .Not a pos) (a1m tA):=by intro aE s σ H Q I h;exact isTrue_not<|ha aE s σ H (λc H1=>Q (!c) H1) I h
def ayr(ta tb:TE):TE:=λσ H Q=>ta σ H λx H1=>∃c,x=.bl c/\if c=true then tb σ H1 Q else Q (.bl false) H1
def a1a(ta tb:TE):TE:=λσ H Q=>ta σ H λx H1=>∃c,x=.bl c/\if c=true then Q (.bl true) H1 else tb σ H1 Q
def aze(ta:TE):TE:=λσ H Q=>ta σ H λx H1=>∃c,x=.bl c/\Q (.bl<|!c) H1
def rm{op}{t:TE}(h:PE X a t):PE X (.BoolOp op [a] pos) t:=λaE s σ H Q I hw=>BoolOp_one<|h aE s σ H Q I hw
theorem qm(ha:PE X a ta)(hb:PE X (.BoolOp .And (b::bK) pos) tb):PE X (.BoolOp .And (a::b::bK) pos) (ayr ta tb):=by
 intro aE s σ H Q I h;refine BoolOp_and<|thn (ha aE s σ H _ I h) λv s1 ⟨x,H1,I1,r1,q1⟩=>?_;obtain⟨c,rfl,q1⟩:=q1;cases r1;refine gf ?_;cases c with
 | true=>exact hb aE s1 σ H1 Q I1 q1
 | false=>exact⟨.bl false,H1,I1,rfl,q1⟩
theorem Bl(ha:PE X a ta)(hb:PE X (.BoolOp .Or (b::bK) pos) tb):PE X (.BoolOp .Or (a::b::bK) pos) (a1a ta tb):=by
 intro aE s σ H Q I h;refine BoolOp_or<|thn (ha aE s σ H _ I h) λv s1 ⟨x,H1,I1,r1,q1⟩=>?_;obtain⟨c,rfl,q1⟩:=q1;cases r1;refine gf ?_;cases c with
 | false=>exact hb aE s1 σ H1 Q I1 q1
 | true=>exact⟨.bl true,H1,I1,rfl,q1⟩
def aw9(ha:PE X a ta):PE X (.UnaryOp .Not a pos) (aze ta):=by intro aE s σ H Q I h;refine UnaryOp_<|thn (ha aE s σ H _ I h) λv s1 ⟨x,H1,I1,r1,q1⟩=>?_;obtain⟨c,rfl,q1⟩:=q1;cases r1;exact not_of<|gf ⟨.bl<|!c,H1,I1,rfl,q1⟩
def tIf(t:TT)(ta tb:TE):TE:=λσ H Q=>t σ H λc H1=>if c=true then ta σ H1 Q else tb σ H1 Q
theorem apb{c:Expr}(hc:PT X c tA)(ha:PE X a ta)(hb:PE X b tb):PE X (.IfExp c a b pos) (tIf tA ta tb):=by
 intro aE s σ H Q I h;refine wpAny_IfExp<|thn (hc aE s σ H _ I h) λd s1 ⟨H1,I1,q1⟩=>?_;cases d with
 | true=>exact ha aE s1 σ H1 Q I1 q1
 | false=>exact hb aE s1 σ H1 Q I1 q1
end
def SqL(K:aq)(H:Hp)(a:aF)(xs:Z9 V):Prop:=
 Rd H a (.lst xs)\/
  ∃(o:Obj)(its:Array aA)(n:Nat),K.lookup a=some o/\o.cls=.type "list"/\o.dict=none/\o.data=.seq its n/\its.size<=aC/\Vals xs its.toList
def SqT(K:aq)(H:Hp)(a:aF)(xs:Z9 V):Prop:=
 Rd H a (.tup xs)\/
  ∃(o:Obj)(its:Array aA)(n:Nat),K.lookup a=some o/\o.cls=.type "tuple"/\o.data=.seq its n/\its.size<=aC/\Vals xs its.toList
noncomputable def a1t:aA->Option V
 | .none=>some .non
 | .bool b=>some (.bl b)
 | .int i _=>some (.int i)
 | .str x _=>some (.str x)
 | .bytes b _=>some (.byt b)
 | .float b _=>some (.flt b)
 | .ref a=>some (.ref a)
 | .type n=>some (.ty n)
 | _=>none
theorem RelV.abs{x:V}{u:aA}(r:RelV x u):a1t u=some x:=by
 cases x with
 | non=>cases r;rfl
 | bl _=>cases r;rfl
 | int _=>obtain⟨t,rfl⟩:=r;rfl
 | str _=>obtain⟨t,rfl⟩:=r;rfl
 | byt _=>obtain⟨t,rfl⟩:=r;rfl
 | flt _=>obtain⟨t,rfl⟩:=r;rfl
 | ref _=>cases r;rfl
 | ty _=>cases r;rfl
def RelV.inj{x y:V}{u:aA}(r:RelV x u)(q:RelV y u):x=y:=cn<|r.abs.symm.trans q.abs
theorem Vals.inj:∀{xs ys:Z9 V} {us:Z9 aA},Vals xs us->Vals ys us->xs=ys
 | _,_,_,.nil,.nil=>rfl
 | _,_,_,.cons r t,.cons r' t'=>by rw[r.inj r',Vals.inj t t']
section
variable{X:Cx}{aE:Z9 (aF×Obj)}{σ:St}{H:Hp}{s:aB}{a:aF}{xs ys:Z9 V}
def SqL.of{K:aq}(h:H a=some (.lst xs)):SqL K H a xs:=.inl<|.inl h
def SqT.of{K:aq}(h:H a=some (.tup xs)):SqT K H a xs:=.inl<|.inl h
def Inv.list(I:Inv X aE σ H s)(h:SqL X.K H a xs):∃its:Z9 aA,Vals xs its/\PlainL s.heap a its.toArray/\xs.length<=aC:=by
 rcases h with h|⟨o,its,n,hk,hc,hd,hs,hz,r⟩
 .obtain⟨z,its,n,r,e⟩:=h.ok I.hok;exact⟨its,r,⟨_,n,e,rfl,rfl,rfl⟩,z⟩
 .refine⟨its.toList,r,⟨o,n,I.kIn a o hk,hc,hd,by simpa using hs⟩,?_⟩;have e:=r.length;simp only[bh]at e;lia
def Inv.tuple(I:Inv X aE σ H s)(h:SqT X.K H a xs):∃its:Z9 aA,Vals xs its/\IsTup s.heap a its.toArray/\xs.length<=aC:=by
 rcases h with h|⟨o,its,n,hk,hc,hs,hz,r⟩
 .obtain⟨z,its,r,p⟩:=h.ok I.hok;exact⟨its,r,p,z⟩
 .refine⟨its.toList,r,⟨o,I.kIn a o hk,hc,n,by simpa using hs⟩,?_⟩;have e:=r.length;simp only[bh]at e;lia
def Inv.list_inj(I:Inv X aE σ H s)(h:SqL X.K H a xs)(h':SqL X.K H a ys):xs=ys:=by
 obtain⟨its,r,⟨o,n,e,_,_,d⟩,_⟩:=I.list h;obtain⟨its',r',⟨o',n',e',_,_,d'⟩,_⟩:=I.list h';rw[e]at e';cases e';rw[d]at d';injection d' with d1 _
 have:its=its':=by simpa using congrArg Array.toList d1
 subst this;exact r.inj r'
def Inv.tuple_inj(I:Inv X aE σ H s)(h:SqT X.K H a xs)(h':SqT X.K H a ys):xs=ys:=by
 obtain⟨its,r,⟨o,e,_,n,d⟩,_⟩:=I.tuple h;obtain⟨its',r',⟨o',e',_,n',d'⟩,_⟩:=I.tuple h';rw[e]at e';cases e';rw[d]at d';injection d' with d1 _
 have:its=its':=by simpa using congrArg Array.toList d1
 subst this;exact r.inj r'
end
noncomputable abbrev Cx.wish(X:Cx)(E:aA->aB->Prop):Cx:={X with xe:=E}
noncomputable abbrev Cx.nox(X:Cx):Cx:=X.wish λ_ _=>False
theorem Cx.Ok.wish{X:Cx}(ok:X.Ok)(E:aA->aB->Prop):(X.wish E).Ok:=
 ⟨ok.mod,ok.kind,ok.glob,ok.blt,ok.above,ok.inj,ok.has,ok.cab,ok.hd,ok.frames,ok.stk,ok.exf,ok.bs,ok.bsz,ok.noex,ok.exfs,ok.funs,ok.frf⟩
def Cx.Ok.unwish{X:Cx}{E:aA->aB->Prop}(ok:(X.wish E).Ok):X.Ok:=
 ⟨ok.mod,ok.kind,ok.glob,ok.blt,ok.above,ok.inj,ok.has,ok.cab,ok.hd,ok.frames,ok.stk,ok.exf,ok.bs,ok.bsz,ok.noex,ok.exfs,ok.funs,ok.frf⟩
section
variable{X:Cx}{aE:Z9 (aF×Obj)}{σ:St}{H:Hp}{s:aB}{E:aA->aB->Prop}
theorem Inv.wish(I:Inv X aE σ H s)(E:aA->aB->Prop):Inv (X.wish E) aE σ H s:=⟨I.ok.wish E,I.os,I.bare,I.base,I.loc,I.cell,I.free,I.freeC,I.pin,I.hok,I.len⟩
theorem Inv.unwish(I:Inv (X.wish E) aE σ H s):Inv X aE σ H s:=⟨I.ok.unwish,I.os,I.bare,I.base,I.loc,I.cell,I.free,I.freeC,I.pin,I.hok,I.len⟩
theorem SP.unwish{D:mJ}{f:Flow}{s':aB}(h:SP (X.wish E) aE D f s'):SP X aE D f s':=by
 cases f with
 | next=>obtain⟨σ',H',I,q⟩:=h;exact⟨σ',H',I.unwish,q⟩
 | brk=>obtain⟨σ',H',I,q⟩:=h;exact⟨σ',H',I.unwish,q⟩
 | cont=>obtain⟨σ',H',I,q⟩:=h;exact⟨σ',H',I.unwish,q⟩
 | ret u=>obtain⟨v,σ',H',I,r,q⟩:=h;exact⟨v,σ',H',I.unwish,r,q⟩
theorem PSs.nox{st:Z9 aO}{t:TS}(h:PSs X.nox st t):PSs X st t:=λaE s σ H D I hw=>
 jj (h aE s σ H D (I.wish _) hw) (λ_ _ q=>q.unwish) λ_ _ z=>iq z
end
section
variable{X:Cx}{st:aO}{bK:Z9 aO}{t u:TS}{e:Expr}{te:TE}{pos:cU}
def ay5:TS:=λD σ H=>D.nx σ H
def az5(t u:TS):TS:=λD σ H=>t {D with nx:=u D} σ H
def mh:PSs X [] ay5:=λ_ _ σ H _ I h=>cF ⟨σ,H,I,h⟩
theorem kq(h1:PS X st t)(h2:PSs X bK u):PSs X (st::bK) (az5 t u):=by
 intro aE s σ H D I h;refine jS<|thn (h1 aE s σ H {D with nx:=u D} I h) λf s1 q=>?_;cases f with
 | next=>
  obtain⟨σ',H',I',q⟩:=q;exact h2 aE s1 σ' H' D I' q
 | ret v=>exact q
 | brk=>exact q
 | cont=>exact q
theorem lg(h1:PS X st t):PSs X [st] t:=by
 intro aE s σ H D I h;refine jS<|thn (h1 aE s σ H D I h) λf s1 q=>?_;cases f with
 | next=>exact cF q
 | ret v=>exact q
 | brk=>exact q
 | cont=>exact q
def Inv.quiet{aE:Z9 (aF×Obj)}{σ:St}{H:Hp}{s:aB}(I:Inv X aE σ H s):interactive X.env=false:=by simp[interactive,I.ok.kind]
def azj(te:TE):TS:=λD σ H=>te σ H λ_ H1=>D.nx σ H1
def sq(he:PE X e te)(hs:gH e none pos.line X.env=bJ false:=by rfl):PS X (.Expr e pos) (azj te):=by intro aE s σ H D I h;exact wpAny_Expr_any (thn (he aE s σ H _ I h) λv s1 ⟨x,H1,I1,r1,q1⟩=>⟨σ,H1,I1,q1⟩) I.quiet hs
def a07(te:TE):TS:=λD σ H=>te σ H D.rt
def ls(he:PE X e te):PS X (.Return (some e) pos) (a07 te):=by intro aE s σ H D I h;exact wpAny_Return_some<|thn (he aE s σ H _ I h) λv s1 ⟨x,H1,I1,r1,q1⟩=>⟨x,σ,H1,I1,r1,q1⟩
def a1p(c:TT)(t u:TS):TS:=λD σ H=>c σ H λb H1=>if b=true then t D σ H1 else u D σ H1
theorem o4{c:Expr}{a b:Z9 aO}{tc:TT}(hc:PT X c tc)(ha:PSs X a t)(hb:PSs X b u):PS X (.If c a b pos) (a1p tc t u):=by
 intro aE s σ H D I h;refine wpAny_If<|thn (hc aE s σ H _ I h) λd s1 ⟨H1,I1,q1⟩=>?_;cases d with
 | true=>exact ha aE s1 σ H1 D I1 q1
 | false=>exact hb aE s1 σ H1 D I1 q1
end
abbrev TG:=V->St->Hp->(St->Hp->Prop)->Prop
abbrev TGs:=Z9 V->St->Hp->(St->Hp->Prop)->Prop
def PG(X:Cx)(bH:Expr)(t:TG):Prop:=
 ∀(aE:Z9 (aF×Obj)) (s:aB) (σ:St) (H:Hp) (v:V) (u:aA) (Q:St->Hp->Prop),Inv X aE σ H s->RelV v u->t v σ H Q->
  wpAny (aG X.prog X.w) X.A (iK bH X.env u) (λ_ s'=>∃σ' H',Inv X aE σ' H' s'/\Q σ' H') X.xe s
def PGs(X:Cx)(ts:Z9 Expr)(t:TGs):Prop:=
 ∀(aE:Z9 (aF×Obj)) (s:aB) (σ:St) (H:Hp) (vs:Z9 V) (us:Z9 aA) (Q:St->Hp->Prop),Inv X aE σ H s->Vals vs us->t vs σ H Q->
  wpAny (aG X.prog X.w) X.A (assignInOrder ((bQ ts X.env).map (·.2)) us) (λ_ s'=>∃σ' H',Inv X aE σ' H' s'/\Q σ' H') X.xe s
abbrev J4:=V->V->V->Hp->(Hp->Prop)->Prop
def a0h(X:Cx)(t:J4):Prop:=
 ∀(aE:Z9 (aF×Obj)) (s:aB) (σ:St) (H:Hp) (o i v:V) (ov iv u:aA) (Q:Hp->Prop),Inv X aE σ H s->RelV o ov->RelV i iv->RelV v u->t o i v H Q->
  wpAny (aG X.prog X.w) X.A (setItem ov iv u) (λ_ s'=>∃H',Inv X aE σ H' s'/\Q H') X.xe s
section
variable{X:Cx}{pos:cU}
def ve(i:Nat):TG:=λv σ H Q=>Q (σ.set i<|some v) H
def li{i:Nat}{x:Str}(hN:X.N.Nodup)(hi:X.N[i]?=some x)(hx:Loc X.env.scope x)(hf:X.fn x=true\/X.env.scope.names.lookup x=some .local:=by first|exact .inl rfl|exact .inr rfl|assumption):PG X (.Name x pos) (ve i):=by intro aE s σ H v u Q I r h;exact BA<|LR I hN hi hx r (λs' I'=>⟨_,H,I',h⟩) hf
def DB:TGs:=λvs σ H Q=>vs=[]/\Q σ H
def ze(t:TG)(u:TGs):TGs:=λvs σ H Q=>∃v r,vs=v::r/\t v σ H λσ' H'=>u r σ' H' Q
def sj:PGs X [] DB:=by intro aE s σ H vs us Q I r h;obtain⟨e,h⟩:=h;subst e;cases r;exact assignInOrder_nil ⟨σ,H,I,h⟩
theorem mf{e:Expr}{es:Z9 Expr}{t:TG}{u:TGs}(h1:PG X e t)(h2:PGs X es u)
  (hs:(bQ (e::es) X.env).map (·.2)=iK e X.env::(bQ es X.env).map (·.2):=by rfl):PGs X (e::es) (ze t u):=by
 intro aE s σ H vs us Q I r h;obtain⟨v,vr,e1,h⟩:=h;subst e1;cases r with
 | cons r rr=>
  rw[hs];refine assignInOrder_cons<|thn (h1 aE s σ H _ _ _ I r h) λ_ s1 ⟨σ1,H1,I1,q1⟩=>?_;exact h2 aE s1 σ1 H1 _ _ Q I1 rr q1
def Bb(K:aq)(n:Nat)(t:TGs):TG:=λv σ H Q=>∃a xs,v=.ref a/\SqT K H a xs/\xs.length=n/\t xs σ H Q
def yz{es:Z9 Expr}{k:Nat}{t:TGs}{n:Nat}(hc:X.calm=true)(h:PGs X es t)
  (hn:(bQ es X.env).length=n:=by rfl) (bD:(bQ es X.env).findIdx? (·.1)=none:=by rfl):PG X (.Tuple es k pos) (Bb X.K n t):=by
 intro aE s σ H v u Q I r hw;obtain⟨a,xs,e1,hq,hl,hw⟩:=hw;subst e1;cases r;obtain⟨its,rv,ht,hz⟩:=I.tuple hq;refine assign_Tuple_tuple (I.ok.hd hc) ht (by simp[hn,<-hl,rv.length]) bD λh' hx=>?_;have I1:Inv X aE σ H {s with heap:=h'}:=I.kept (t':=s.toks) λb o e=>hx b o (ck<|bi e) e;exact h aE _ σ H xs _ Q I1 (by simpa using rv) hw
def a1k(to ti:TE)(t:J4):TG:=λv σ H Q=>to σ H λo H1=>ti σ H1 λi H2=>t o i v H2 λH3=>Q σ H3
def FT{o i:Expr}{to ti:TE}{t:J4}(ho:PE X o to)(hi:PE X i ti)(hs:a0h X t)
  (ha:∀v,iK (.Subscript o i pos) X.env v=(do
   let ov <-eY [v] (bL o X.env)
   let iv <-eY [v,ov] (bL i X.env)
   BD pos
   eY [v,ov,iv] (setItem ov iv v)
   release [v,ov,iv] []):=by intro _;rfl):PG X (.Subscript o i pos) (a1k to ti t):=by
 intro aE s σ H v u Q I r h;rw[ha];refine ac<|db<|thn (ho aE s σ H _ I h) λov s1 ⟨x,H1,I1,r1,q1⟩=>?_;refine ac<|db<|thn (hi aE s1 σ H1 _ I1 q1) λiv s2 ⟨y,H2,I2,r2,q2⟩=>?_;refine ac<|eG<|ac<|db<|thn (hs aE s2 σ H2 x y v ov iv u _ I2 r1 r2 r q2) λ_ s3 ⟨H3,I3,q3⟩=>?_;exact wpAny_release ⟨σ,H3,I3,q3⟩
def Kc(te:TE)(g:TG):TS:=λD σ H=>te σ H λx H1=>g x σ H1 D.nx
def zv{tg e:Expr}{te:TE}{g:TG}(he:PE X e te)(hg:PG X tg g)(hs:swapsWithSole [tg] e pos.line X.env=bJ false:=by rfl)(hw:swappedStores [tg] e X.env=bJ none:=by rfl)
  (h1:(bQ [tg] X.env).map (·.2)=[iK tg X.env]:=by rfl):PS X (.Assign [tg] e pos) (Kc te g):=by
 intro aE s σ H D I h;refine wpAny_Assign_stores (thn (he aE s σ H _ I h) λv s1 ⟨x,H1,I1,r1,q1⟩=>?_) hs hw;rw[h1];exact thn (hg aE s1 σ H1 x v _ I1 r1 q1) λ_ s2 q=>q
def l4{i:Nat}{x:Str}{e:Expr}{te:TE}{pX:cU}(hN:X.N.Nodup)(hi:X.N[i]?=some x)(hx:Loc X.env.scope x)(he:PE X e te)(hs:gH e (some<|.Name x pX) pos.line X.env=bJ false:=by rfl)(hf:X.fn x=true\/X.env.scope.names.lookup x=some .local:=by first|exact .inl rfl|exact .inr rfl|assumption) :
  PS X (.Assign [.Name x pX] e pos) (Kc te<|ve i):=by
 intro aE s σ H D I h;refine wpAny_Assign_Name (thn (he aE s σ H _ I h) λv s1 ⟨y,H1,I1,r1,q1⟩=>?_) hs;exact LR I1 hN hi hx r1 (λs2 I2=>⟨_,H1,I2,q1⟩) hf
def avg(c:TT)(tb:TS):TS:=λD σ H=>∃W:Nat->St->Hp->Prop,(∃m,W m σ H)/\∀m σ H,W m σ H->
 c σ H λb H1=>if b=true then ∃N:St->Hp->Prop,(∀σ' H',N σ' H'->∃m',m'<m/\W m' σ' H')/\tb {D with nx:=N,ct:=N,bk:=D.nx} σ H1 else D.nx σ H1
theorem ap2{c:Expr}{body:Z9 aO}{tc:TT}{tb:TS}(hp:PassesOwn (aG X.prog X.w) X.A X.env X.xe)(hc:PT X c tc)(hb:PSs X body tb):PS X (.While c body [] pos) (avg tc tb):=by
 intro aE s σ H D I h;obtain⟨W,⟨m0,w0⟩,lI⟩:=h;refine wpAny_While<|codeAny_whileLoop (λn s'=>∃σ' H',Inv X aE σ' H' s'/\W n σ' H') ?_ m0 ⟨σ,H,I,w0⟩;rintro n s1 ⟨σ1,H1,I1,w1⟩;refine j9 hp<|thn (hc aE s1 σ1 H1 _ I1<|lI n σ1 H1 w1) λb s2 ⟨H2,I2,q2⟩=>?_;cases b with
 | true=>
  obtain⟨N,hN,q2⟩:=q2;rw[if_pos rfl];refine j9 hp<|thn (hb aE s2 σ1 H2 _ I2 q2) λf s3 q3=>?_;cases f with
  | next=>
   obtain⟨σ3,H3,I3,n3⟩:=q3;obtain⟨m',hm,w3⟩:=hN σ3 H3 n3;exact⟨m',hm,σ3,H3,I3,w3⟩
  | cont=>
   obtain⟨σ3,H3,I3,n3⟩:=q3;obtain⟨m',hm,w3⟩:=hN σ3 H3 n3;exact⟨m',hm,σ3,H3,I3,w3⟩
  | brk=>exact q3
  | ret v=>exact q3
 | false=>
  rw[if_neg am];exact cF ⟨σ1,H2,I2,q2⟩
end
structure It where
 go:Nat->Hp->Prop
 yld:Nat->Hp->V->Hp->Prop
 stop:Nat->Hp->Prop
def mI(X:Cx)(aE:Z9 (aF×Obj))(H:Hp)(b:aF):Prop:=
 H b=none/\b≠X.env.locals/\b∉X.fs/\(b∈X.ex\/X.s₀.heap.objs.size<=b)/\(∀x c,X.env.cells.lookup x=some c->c≠b)/\∀p∈X.pn++aE,p.1≠b
def Inv.fpOk{X:Cx}{aE:Z9 (aF×Obj)}{σ:St}{H H':Hp}{s:aB}{b:aF}(I:Inv X aE σ H s)(hb:s.heap.objs.size<=b)(hn:H' b=none):mI X aE H' b:=by
 refine⟨hn,Nat.ne_of_gt<|cm I.lt hb,I.nofs hb,.inr<|fj I.sz hb,λx c e z=>?_,λp hp z=>?_⟩
 .obtain⟨v,q⟩:=I.cell x c e;exact absurd (cm q.lt<|by rw[z];exact hb)<|gy _
 .exact absurd (cm (bi (I.pin p hp).1)<|by rw[z];exact hb)<|gy _
structure tO(P:aI)(w:aJ)(K:aq)(tg:Expr)(J:It)(fp:Z9 aF)(it:aF)(tn:Nat->Heap->Prop):Prop where
 mem:it∈fp
 obj:∀i h,tn i h->∀b∈fp,∃o,h.get? b=some o/\∀v,o.data≠.cell v
 keep:∀i h h',tn i h->(∀b∈fp,∀o,h.get? b=some o->h'.get? b=some o)->tn i h'
 item:∀(X:Cx),X.prog=P->X.w=w->X.K=K->X.calm=true->∀(i:Nat) (aE:Z9 (aF×Obj)) (s:aB) (σ:St) (H:Hp) (E:aA->aB->Prop),Inv X aE σ H s->(∀b∈fp,mI X aE H b)->tn i s.heap->J.go i H->
  wpAny (aG P w) X.A (aX<|.ref it) (λr s1=>∃u,r=some u/\
   wpAny (aG P w) X.A (fG tg (.ref it) u) (λ_ s2=>∃x H',Inv X aE σ H' s2/\RelV x u/\J.yld i H x H'/\tn (i+1) s2.heap/\∀b∈fp,H' b=none) E s1) E s
 done:∀(X:Cx),X.prog=P->X.w=w->X.K=K->X.calm=true->∀(i:Nat) (aE:Z9 (aF×Obj)) (s:aB) (σ:St) (H:Hp) (E:aA->aB->Prop),Inv X aE σ H s->(∀b∈fp,mI X aE H b)->tn i s.heap->J.stop i H->
  wpAny (aG P w) X.A (aX<|.ref it) (λr s1=>r=none/\Inv X aE σ H s1) E s
 self:∀(A:Around)(i:Nat)(s:aB)(Q:aA->aB->Prop)(E:aA->aB->Prop),tn i s.heap->Q (.ref it) s->wpAny (aG P w) A (iF<|.ref it) Q E s
abbrev TI:=St->Hp->(It->Hp->Prop)->Prop
def PIE(X:Cx)(aE:Z9 (aF×Obj))(σ:St)(tg:Expr)(R:It->Hp->Prop)(ET:aA)(s2:aB):Prop:=
 ∃(it:aF)(fp:Z9 aF)(tn:Nat->Heap->Prop)(J:It)(H':Hp),ET=.ref it/\Inv X aE σ H' s2/\tO X.prog X.w X.K tg J fp it tn/\tn 0 s2.heap/\(∀b∈fp,mI X aE H' b)/\R J H'
def PI(X:Cx)(tg iter:Expr)(wi:TI):Prop:=
 ∀(aE:Z9 (aF×Obj)) (s:aB) (σ:St) (H:Hp) (R:It->Hp->Prop),Inv X aE σ H s->wi σ H R->
  wpAny (aG X.prog X.w) X.A (bL iter X.env) (λv s1=>wpAny (aG X.prog X.w) X.A (iF v) (PIE X aE σ tg R) X.xe s1) X.xe s
theorem DJ{M:Model}{A:Around}{E:aA->aB->Prop}{s:aB}{tg:Expr}{it:aF}{u:aA}{o:Obj}{n:String}{vs:Array aA}{Q:Unit->aB->Prop}(ho:s.heap.get? it=some o)(hc:o.cls=.type n)(hd:o.data=.fields vs)
  (hn:["enumerate","zip","dict_itemiterator","dict_reverseitemiterator","odict_iterator","itertools.zip_longest","itertools.pairwise"].contains n=false) (hQ:Q () s):wpAny M A (fG tg (.ref it) u) Q E s:=by
 unfold fG;cases tg<;>first
  | exact ao hQ
  | (cases u<;>first
    | exact ao hQ
    | (refine ac<|wpAny_load ho ?_
       rw[hc,hd];show wpAny M A (if (["enumerate","zip","dict_itemiterator","dict_reverseitemiterator","odict_iterator","itertools.zip_longest","itertools.pairwise"].contains n&&vs[0]?==some (jX _))=true then _ else _) Q E s;rw[if_neg (by intro h;rw[hn,i8]at h;cases h)];exact ao hQ))
noncomputable def Itl(K:aq)(a:aF):It:=
 ⟨λi H=>∃xs x,SqL K H a xs/\xs[i]?=some x,λi H x H'=>H'=H/\∀xs,SqL K H a xs->xs[i]?=some x,λi H=>∃xs,SqL K H a xs/\xs.length<=i⟩
noncomputable def Itt(K:aq)(a:aF):It:=
 ⟨λi H=>∃xs x,SqT K H a xs/\xs[i]?=some x,λi H x H'=>H'=H/\∀xs,SqT K H a xs->xs[i]?=some x,λi H=>∃xs,SqT K H a xs/\xs.length<=i⟩
noncomputable def Itr(lo:Int)(n:Nat):It:=⟨λi _=>i<n,λi H x H'=>H'=H/\x=.int (lo+i),λi _=>n<=i⟩
def aex{P:aI}{w:aJ}{K:aq}{tg:Expr}(a it:aF):tO P w K tg (Itl K a) [it] it (λi h=>h.IsListIter it a i)where
 mem:=by simp
 obj:=λi h st b hb=>by
  have e:b=it:=by simpa using hb
  subst e;obtain⟨o,e,c,d⟩:=st;exact⟨o,e,λv z=>by rw[d]at z;cases z⟩
 keep:=λi h h' st k=>st.at λo e=>k it (by simp) o e
 item:=by intro X hP hw hK hc i aE s σ H E I hf st hg;subst hP hw hK;obtain⟨xs,x,hq,hx⟩:=hg;obtain⟨its,rv,p,hz⟩:=I.list hq;obtain⟨u,hu,ru⟩:=rv.get hx;obtain⟨f0,f1,f2,f3,f4,f5⟩:=hf it (by simp);refine sP st p.isList (x:=u) (by simpa using hu) λh' eX sb=>?_;have I1:Inv X aE σ H {s with heap:=h'}:=I.turned (t':=s.toks) (λb o hb e=>(sb.2 b hb).trans e) f0 f1 f3 f4 f5;obtain⟨o,e,c,d⟩:=id eX;exact⟨u,rfl,DJ (s:={s with heap:=h'}) e c d (by decide) ⟨x,H,I1,ru,⟨rfl,λys hy=>by rw[I.list_inj hy hq];exact hx⟩,eX,λb hb=>(hf b hb).1⟩⟩
 done:=by intro X hP hw hK hc i aE s σ H E I hf st hg;subst hP hw hK;obtain⟨xs,hq,hx⟩:=hg;obtain⟨its,rv,p,hz⟩:=I.list hq;obtain⟨f0,f1,f2,f3,f4,f5⟩:=hf it (by simp);have hl:=rv.length;exact tX (I.ok.hd hc) st p.isList (by simp;lia) λh' eb=>⟨rfl,I.turned (t':=s.toks) (λb o hb e=>eb b o hb e) f0 f1 f3 f4 f5⟩
 self:=λ_ _ _ _ _ st h=>wpAny_pyIter_listiter st h
def acw{P:aI}{w:aJ}{K:aq}{tg:Expr}(a it:aF):tO P w K tg (Itt K a) [it] it (λi h=>h.IsTupleIter it a i)where
 mem:=by simp
 obj:=λi h st b hb=>by
  have e:b=it:=by simpa using hb
  subst e;obtain⟨o,e,c,d⟩:=st;exact⟨o,e,λv z=>by rw[d]at z;cases z⟩
 keep:=λi h h' st k=>st.at λo e=>k it (by simp) o e
 item:=by intro X hP hw hK hc i aE s σ H E I hf st hg;subst hP hw hK;obtain⟨xs,x,hq,hx⟩:=hg;obtain⟨its,rv,p,hz⟩:=I.tuple hq;obtain⟨u,hu,ru⟩:=rv.get hx;obtain⟨f0,f1,f2,f3,f4,f5⟩:=hf it (by simp);refine wpAny_pyNext_tuple_item st (show s.heap.IsTuple a its.toArray from p) (x:=u) (by simpa using hu) λh' eX sb=>?_;have I1:Inv X aE σ H {s with heap:=h'}:=I.turned (t':=s.toks) (λb o hb e=>(sb.2 b hb).trans e) f0 f1 f3 f4 f5;obtain⟨o,e,c,d⟩:=id eX;exact⟨u,rfl,DJ (s:={s with heap:=h'}) e c d (by decide) ⟨x,H,I1,ru,⟨rfl,λys hy=>by rw[I.tuple_inj hy hq];exact hx⟩,eX,λb hb=>(hf b hb).1⟩⟩
 done:=by intro X hP hw hK hc i aE s σ H E I hf st hg;subst hP hw hK;obtain⟨xs,hq,hx⟩:=hg;obtain⟨its,rv,p,hz⟩:=I.tuple hq;obtain⟨f0,f1,f2,f3,f4,f5⟩:=hf it (by simp);have hl:=rv.length;exact wpAny_pyNext_tuple_end (I.ok.hd hc) st (show s.heap.IsTuple a its.toArray from p) (by simp;lia) λh' eb=>⟨rfl,I.turned (t':=s.toks) (λb o hb e=>eb b o hb e) f0 f1 f3 f4 f5⟩
 self:=λ_ _ _ _ _ st h=>wpAny_pyIter_tupleiter st h
def ai2{P:aI}{w:aJ}{K:aq}{tg:Expr}(it:aF)(lo:Int)(n:Nat):tO P w K tg (Itr lo n) [it] it (λi h=>IsRangeIter h it (lo+(i:Nat)*1) ((n:Int)-(i:Nat)) 1)where
 mem:=by simp
 obj:=λi h st b hb=>by
  have e:b=it:=by simpa using hb
  subst e;exact⟨_,st,λv z=>by have z':Data.fields _=Data.cell v:=z;cases z'⟩
 keep:=λi h h' st k=>k it (by simp) _ st
 item:=by intro X hP hw hK hc i aE s σ H E I hf st hg;subst hP hw hK;obtain⟨f0,f1,f2,f3,f4,f5⟩:=hf it (by simp);have W:=gE.range (prog:=X.prog) (w:=X.w) (I.ok.hd hc) it lo 1 n;refine W.item i s _ _ hg st λv h' tk hv eX kk=>?_;obtain⟨t,rfl⟩:=hv;have I1:Inv X aE σ H {s with heap:=h',toks:=tk}:=I.turned (λb o hb e=>kk b o (by simpa using hb) e) f0 f1 f3 f4 f5;refine⟨_,rfl,DJ (s:={s with heap:=h',toks:=tk}) (n:="range_iterator") eX rfl rfl (by decide) ⟨.int<|lo+i,H,I1,⟨t,?_⟩,⟨rfl,rfl⟩,eX,λb hb=>(hf b hb).1⟩⟩;rw[Int.mul_one]
 done:=by intro X hP hw hK hc i aE s σ H E I hf st hg;subst hP hw hK;obtain⟨f0,f1,f2,f3,f4,f5⟩:=hf it (by simp);exact wpAny_pyNext_range_end (I.ok.hd hc) st (by have:n<=i:=hg;lia) λh' eb=>⟨rfl,I.turned (t':=s.toks) (λb o hb e=>eb b o hb e) f0 f1 f3 f4 f5⟩
 self:=λ_ _ _ _ _ st h=>wpAny_pyIter_rangeiter st h
section
variable{X:Cx}{tg:Expr}
def FI(K:aq)(tl:TE):TI:=λσ H R=>tl σ H λx H1=>∃a,x=.ref a/\(∃xs,SqL K H1 a xs)/\R (Itl K a) H1
def a0q(K:aq)(tl:TE):TI:=λσ H R=>tl σ H λx H1=>∃a,x=.ref a/\(∃xs,SqT K H1 a xs)/\R (Itt K a) H1
def o8{l:Expr}{tl:TE}(hl:PE X l tl):PI X tg l (FI X.K tl):=by
 intro aE s σ H R I h;refine thn (hl aE s σ H _ I h) λv s1 ⟨x,H1,I1,r1,q1⟩=>?_;obtain⟨a,e,⟨xs,hq⟩,q⟩:=q1;subst e;cases r1;obtain⟨its,rv,p,hz⟩:=I1.list hq;refine js p.isList ?_;refine⟨s1.heap.objs.size,[s1.heap.objs.size],_,_,H1,rfl,I1.kept (t':=s1.toks) λb o e=>ai _ e,aex a _,⟨_,ba _ rfl,rfl,rfl⟩,λb hb=>?_,q⟩;have e:b=s1.heap.objs.size:=by simpa using hb
 subst e;exact I1.fpOk (av _)<|I1.hok.fresh<|av _
def yq{l:Expr}{tl:TE}(hl:PE X l tl):PI X tg l (a0q X.K tl):=by
 intro aE s σ H R I h;refine thn (hl aE s σ H _ I h) λv s1 ⟨x,H1,I1,r1,q1⟩=>?_;obtain⟨a,e,⟨xs,hq⟩,q⟩:=q1;subst e;cases r1;obtain⟨its,rv,p,hz⟩:=I1.tuple hq;refine dQ (show s1.heap.IsTuple a its.toArray from p) ?_;refine⟨s1.heap.objs.size,[s1.heap.objs.size],_,_,H1,rfl,I1.kept (t':=s1.toks) λb o e=>ai _ e,acw a _,⟨_,ba _ rfl,rfl,rfl⟩,λb hb=>?_,q⟩;have e:b=s1.heap.objs.size:=by simpa using hb
 subst e;exact I1.fpOk (av _)<|I1.hok.fresh<|av _
def ag3{aE:Z9 (aF×Obj)}{σ:St}{H:Hp}{s:aB}{R:It->Hp->Prop}{E:aA->aB->Prop}{lo hi:Int}{t u v:pN}{tk:Nat}(I:Inv X aE σ H s)(h1:-(2^62)<=lo)(h2:lo<2^62)(h3:-(2^62)<=hi)(h4:hi<2^62)
  (q:R (Itr lo (hi-lo).toNat) H):wpAny (aG X.prog X.w) X.A (iF<|.ref s.heap.objs.size) (PIE X aE σ tg R) E {s with heap:=s.heap.push {cls:=.type "range",data:=.fields #[.int lo t,.int hi u,.int 1 v]},toks:=tk}:=by
 refine wpAny_pyIter_range (IsRange.new ..) (small_one h1 h2 h3 h4) ?_;have I1:Inv X aE σ H {s with heap:=s.heap.push {cls:=.type "range",data:=.fields #[.int lo t,.int hi u,.int 1 v]},toks:=tk}:=I.kept λb o e=>ai _ e;refine⟨(s.heap.push {cls:=.type "range",data:=.fields #[.int lo t,.int hi u,.int 1 v]}).objs.size,[(s.heap.push {cls:=.type "range",data:=.fields #[.int lo t,.int hi u,.int 1 v]}).objs.size],_,_,H,rfl,
  I1.kept (t':=tk) λb o e=>ai _ e,ai2 _ lo (hi-lo).toNat,?_,λb hb=>?_,q⟩
 .have e1:lo+((0:Nat):Int)*1=lo:=by simp
  have e2:(((hi-lo).toNat:Nat):Int)-((0:Nat):Int)=Builtin.Range.rangeSize lo hi 1:=by rw[rangeSize_one];split<;>lia
  show IsRangeIter _ _ (lo+((0:Nat):Int)*1) ((((hi-lo).toNat:Nat):Int)-((0:Nat):Int)) 1;rw[e1,e2];exact ba _ rfl
 .have e:b=(s.heap.push {cls:=.type "range",data:=.fields #[.int lo t,.int hi u,.int 1 v]}).objs.size:=by simpa using hb
  subst e;exact I1.fpOk (av _)<|I1.hok.fresh<|av _
def auz(ta:TA):TI:=λσ H R=>ta σ H λvs H1=>∃j:Int,vs=[.int j]/\-(2^62)<=j/\j<2^62/\R (Itr 0 j.toNat) H1
def av3(ta:TA):TI:=λσ H R=>ta σ H λvs H1=>∃i j:Int,vs=[.int i,.int j]/\(-(2^62)<=i/\i<2^62/\-(2^62)<=j/\j<2^62)/\R (Itr i (j-i).toNat) H1
theorem an1{a:Expr}{ta:TA}{p pos:cU}(hg:Gl X "range")(hm:X.mg "range" = none)(ha:PA X [a] ta)(hs:aK [a] X.env=[(false,bL a X.env)]:=by rfl):PI X tg (.Call (.Name "range" p) [a] [] pos) (auz ta):=by
 intro aE s σ H R I h;refine Call_<|ur I hg hm boot_range<|f8 (thn (ha pos aE s σ H _ I h) λus s1 ⟨vs,H1,I1,r1,q1⟩=>?_) hs rfl;obtain⟨j,e,q1,q2,q⟩:=q1;subst e;cases r1 with
 | cons r rr=>
  cases rr;obtain⟨t,rfl⟩:=r;exact call_range_1<|ag3 I1 (by lia) (by lia) q1 q2<|by simpa using q
theorem ala{a b:Expr}{ta:TA}{p pos:cU}(hg:Gl X "range")(hm:X.mg "range" = none)(ha:PA X [a,b] ta)(hs:aK [a,b] X.env=[(false,bL a X.env),(false,bL b X.env)]:=by rfl)(qL:aK [b] X.env=[(false,bL b X.env)]:=by rfl) :
  PI X tg (.Call (.Name "range" p) [a,b] [] pos) (av3 ta):=by
 intro aE s σ H R I h;refine Call_ (ur I hg hm boot_range<|f8 (thn (ha pos aE s σ H _ I h) λus s1 ⟨vs,H1,I1,r1,q1⟩=>?_) (by rw[hs,qL])<|by rw[qL];rfl);obtain⟨i,j,e,⟨q1,q2,q3,q4⟩,q⟩:=q1;subst e;cases r1 with
 | cons r rr=>
  cases rr with
  | cons r' rr=>
   cases rr;obtain⟨t,rfl⟩:=r;obtain⟨t',rfl⟩:=r';exact call_range_2<|ag3 I1 q1 q2 q3 q4 q
def a1g(wi:TI)(g:TG)(tb:TS):TS:=λD σ H=>wi σ H λJ H1=>∃W:Nat->Nat->St->Hp->Prop,(∃m,W 0 m σ H1)/\∀i m σ H,W i m σ H->
 (J.stop i H/\D.nx σ H)\/(J.go i H/\∃N:St->Hp->Prop,(∀σ' H',N σ' H'->∃m',m'<m/\W (i+1) m' σ' H')/\∀x H',J.yld i H x H'->g x σ H' λσ2 H2=>tb {D with nx:=N,ct:=N,bk:=D.nx} σ2 H2)
noncomputable def DM(fp:Z9 aF)(h:Heap):Z9 (aF×Obj):=fp.filterMap λb=>(h.get? b).map λo=>(b,o)
def xi{fp:Z9 aF}{h:Heap}{b:aF}{o:Obj}(hb:b∈fp)(e:h.get? b=some o):(b,o)∈DM fp h:=List.mem_filterMap.mpr ⟨b,hb,by rw[e];rfl⟩
theorem alq{fp:Z9 aF}{h:Heap}{p:aF×Obj}(hp:p∈DM fp h):p.1∈fp/\h.get? p.1=some p.2:=by
 obtain⟨b,hb,e⟩:=List.mem_filterMap.mp hp;cases q:h.get? b with
 | none=>rw[q]at e;cases e
 | some o=>
  rw[q]at e;have e':(b,o)=p:=cn e;subst e';exact⟨hb,q⟩
def Inv.pinned{aE:Z9 (aF×Obj)}{σ:St}{H:Hp}{s:aB}{fp:Z9 aF}(I:Inv X aE σ H s)(hf:∀b∈fp,mI X aE H b)(ho:∀b∈fp,∃o,s.heap.get? b=some o/\∀v,o.data≠.cell v):Inv X (aE++DM fp s.heap) σ H s:=
 I.pins_of λp hp=>(bo.mp hp).elim (λz=>I.pin p<|ci _ z) λz=>by obtain⟨hb,e⟩:=alq z;obtain⟨f0,f1,f2,_⟩:=hf p.1 hb;obtain⟨o,e',d⟩:=ho p.1 hb;rw[e]at e';cases e';exact⟨e,f0,f1,f2,d⟩
def Inv.unpinned{aE pl:Z9 (aF×Obj)}{σ:St}{H:Hp}{s:aB}(I:Inv X (aE++pl) σ H s):Inv X aE σ H s:=I.pins_of λp hp=>I.pin p<|ci _<|ip _ hp
theorem vn{iter:Expr}{body:Z9 aO}{wi:TI}{g:TG}{tb:TS}{pos:cU}(hp:PassesOwn (aG X.prog X.w) X.A X.env X.xe)(hc:X.calm=true)(hi:PI X tg iter wi)(hg:PG X tg g)(hb:PSs X body tb)
  (hs:∀x,jC iter X.env x=bJ x:=by intro _;rfl):PS X (.For tg iter body [] pos) (a1g wi g tb):=by
 intro aE s σ H D I h;refine wpAny_For (thn (hi aE s σ H _ I h) λv s1 h1=>thn h1 λET s2 h2=>?_) hs;obtain⟨it,fp,tn,J,H2,e,I2,T,eV,f2,W,⟨m0,w0⟩,lI⟩:=h2;subst e;have lK:∀{H':Hp},(∀b∈fp,H' b=none)->∀b∈fp,mI X aE H' b:=λhn b hb=>⟨hn b hb,(f2 b hb).2⟩;refine codeAny_forLoop_any (λn s'=>∃i σ' H',Inv X aE σ' H' s'/\tn i s'.heap/\(∀b∈fp,H' b=none)/\W i n σ' H') ?_ m0 ⟨0,σ,H2,I2,eV,λb hb=>(f2 b hb).1,w0⟩;rintro n s3 ⟨i,σ3,H3,I3,iY,fr3,w3⟩;rcases lI i n σ3 H3 w3 with ⟨stop,qn⟩|⟨go,N,hN,step⟩
 .refine j9 hp<|thn (T.done X rfl rfl rfl hc i aE s3 σ3 H3 X.xe I3 (lK fr3) iY stop) λr s4 ⟨hr,I4⟩=>?_;subst hr;exact cF ⟨σ3,H3,I4,qn⟩
 .refine j9 hp<|thn (T.item X rfl rfl rfl hc i aE s3 σ3 H3 X.xe I3 (lK fr3) iY go) λr s4 ⟨u,hr,h4⟩=>?_;subst hr;refine j9 hp<|thn h4 λ_ s5 ⟨x,H5,I5,r5,y5,fU,Fk⟩=>?_;have I5':=I5.pinned (lK Fk)<|T.obj _ _ fU;refine j9 hp<|thn (hg _ s5 σ3 H5 x u _ I5' r5<|step x H5 y5) λ_ s6 ⟨σ6,H6,I6,q6⟩=>?_;refine j9 hp<|thn (hb _ s6 σ6 H6 _ I6 q6) λf s7 q7=>?_;have again:∀{σ7:St} {H7:Hp},Inv X (aE++DM fp s5.heap) σ7 H7 s7->N σ7 H7->∃m,m<n/\∃i σ' H',Inv X aE σ' H' s7/\tn i s7.heap/\(∀b∈fp,H' b=none)/\W i m σ' H':=λ{σ7 H7} I7 n7=>by
   obtain⟨m',hm,w7⟩:=hN σ7 H7 n7;refine⟨m',hm,i+1,σ7,H7,I7.unpinned,T.keep _ _ _ fU λb hb o e=>(I7.pin (b,o)<|ci _<|ci _<|xi hb e).1,λb hb=>?_,w7⟩;obtain⟨o,e,d⟩:=T.obj _ _ fU b hb;exact(I7.pin (b,o)<|ci _<|ci _<|xi hb e).2.1
  cases f with
  | next=>obtain⟨σ7,H7,I7,n7⟩:=q7;exact again I7 n7
  | cont=>obtain⟨σ7,H7,I7,n7⟩:=q7;exact again I7 n7
  | brk=>obtain⟨σ7,H7,I7,q7⟩:=q7;exact⟨σ7,H7,I7.unpinned,q7⟩
  | ret v=>obtain⟨x7,σ7,H7,I7,r7,q7⟩:=q7;exact⟨x7,σ7,H7,I7.unpinned,r7,q7⟩
end
def ah8{K:aq}{a:aF}{xs:Z9 V}{g:TG}{tb:TS}{D:mJ}{σ:St}{H:Hp}(Pv:Nat->St->Hp->Prop)(h0:Pv 0 σ H)(hl:∀i σ H,i<=xs.length->Pv i σ H->SqL K H a xs)
  (hs:∀i x σ H,xs[i]?=some x->Pv i σ H->g x σ H λσ2 H2=>tb {D with nx:=Pv<|i+1,ct:=Pv<|i+1,bk:=D.nx} σ2 H2) (hd:∀σ H,Pv xs.length σ H->D.nx σ H) :
  ∃W:Nat->Nat->St->Hp->Prop,(∃m,W 0 m σ H)/\∀i m σ H,W i m σ H->
   ((Itl K a).stop i H/\D.nx σ H)\/((Itl K a).go i H/\∃N:St->Hp->Prop,(∀σ' H',N σ' H'->∃m',m'<m/\W (i+1) m' σ' H')/\∀x H',(Itl K a).yld i H x H'->g x σ H' λσ2 H2=>tb {D with nx:=N,ct:=N,bk:=D.nx} σ2 H2):=by
 refine⟨λi m σ H=>m=xs.length-i/\i<=xs.length/\Pv i σ H,⟨xs.length,by simp,dv _,h0⟩,?_⟩;rintro i m σ H ⟨rfl,hi,p⟩;have q:=hl i σ H hi p;by_cases bX:i<xs.length
 .refine .inr ⟨⟨xs,xs[i],q,by simp[bX]⟩,Pv<|i+1,λσ' H' p'=>⟨xs.length-(i+1),by lia,rfl,bX,p'⟩,λx H' y=>?_⟩;obtain⟨e,y⟩:=y;subst e;exact hs i x σ _ (y xs q) p
 .have e:i=xs.length:=by lia
  subst e;exact .inl ⟨⟨xs,q,av _⟩,hd σ H p⟩
def anq{K:aq}{a:aF}{xs:Z9 V}{g:TG}{tb:TS}{D:mJ}{σ:St}{H:Hp}(Pv:Nat->St->Hp->Prop)(h0:Pv 0 σ H)(hl:∀i σ H,i<=xs.length->Pv i σ H->SqT K H a xs)
  (hs:∀i x σ H,xs[i]?=some x->Pv i σ H->g x σ H λσ2 H2=>tb {D with nx:=Pv<|i+1,ct:=Pv<|i+1,bk:=D.nx} σ2 H2) (hd:∀σ H,Pv xs.length σ H->D.nx σ H) :
  ∃W:Nat->Nat->St->Hp->Prop,(∃m,W 0 m σ H)/\∀i m σ H,W i m σ H->
   ((Itt K a).stop i H/\D.nx σ H)\/((Itt K a).go i H/\∃N:St->Hp->Prop,(∀σ' H',N σ' H'->∃m',m'<m/\W (i+1) m' σ' H')/\∀x H',(Itt K a).yld i H x H'->g x σ H' λσ2 H2=>tb {D with nx:=N,ct:=N,bk:=D.nx} σ2 H2):=by
 refine⟨λi m σ H=>m=xs.length-i/\i<=xs.length/\Pv i σ H,⟨xs.length,by simp,dv _,h0⟩,?_⟩;rintro i m σ H ⟨rfl,hi,p⟩;have q:=hl i σ H hi p;by_cases bX:i<xs.length
 .refine .inr ⟨⟨xs,xs[i],q,by simp[bX]⟩,Pv<|i+1,λσ' H' p'=>⟨xs.length-(i+1),by lia,rfl,bX,p'⟩,λx H' y=>?_⟩;obtain⟨e,y⟩:=y;subst e;exact hs i x σ _ (y xs q) p
 .have e:i=xs.length:=by lia
  subst e;exact .inl ⟨⟨xs,q,av _⟩,hd σ H p⟩
def t7{lo:Int}{n:Nat}{g:TG}{tb:TS}{D:mJ}{σ:St}{H:Hp}(Pv:Nat->St->Hp->Prop)(h0:Pv 0 σ H)
  (hs:∀i σ H,i<n->Pv i σ H->g (.int<|lo+i) σ H λσ2 H2=>tb {D with nx:=Pv<|i+1,ct:=Pv<|i+1,bk:=D.nx} σ2 H2) (hd:∀σ H,Pv n σ H->D.nx σ H) :
  ∃W:Nat->Nat->St->Hp->Prop,(∃m,W 0 m σ H)/\∀i m σ H,W i m σ H->
   ((Itr lo n).stop i H/\D.nx σ H)\/((Itr lo n).go i H/\∃N:St->Hp->Prop,(∀σ' H',N σ' H'->∃m',m'<m/\W (i+1) m' σ' H')/\∀x H',(Itr lo n).yld i H x H'->g x σ H' λσ2 H2=>tb {D with nx:=N,ct:=N,bk:=D.nx} σ2 H2):=by
 refine⟨λi m σ H=>m=n-i/\i<=n/\Pv i σ H,⟨n,by simp,dv _,h0⟩,?_⟩;rintro i m σ H ⟨rfl,hi,p⟩;by_cases bX:i<n
 .refine .inr ⟨bX,Pv<|i+1,λσ' H' p'=>⟨n-(i+1),by lia,rfl,bX,p'⟩,λx H' y=>?_⟩;obtain⟨e,y⟩:=y;subst e y;exact hs i σ _ bX p
 .have e:i=n:=by lia
  subst e;exact .inl ⟨av _,hd σ H p⟩
abbrev R2:=V->V->Hp->VK->Prop
def OpR(X:Cx)(f:aA->aA->Sem aA)(r:R2):Prop:=
 ∀(aE:Z9 (aF×Obj)) (s:aB) (σ:St) (H:Hp) (x y:V) (v u:aA) (Q:VK),Inv X aE σ H s->RelV x v->RelV y u->r x y H Q->
  wpAny (aG X.prog X.w) X.A (f v u) (EP X aE σ Q) X.xe s
def UnR(X:Cx)(f:aA->Sem aA)(r:V->Hp->VK->Prop):Prop:=
 ∀(aE:Z9 (aF×Obj)) (s:aB) (σ:St) (H:Hp) (x:V) (v:aA) (Q:VK),Inv X aE σ H s->RelV x v->r x H Q->
  wpAny (aG X.prog X.w) X.A (f v) (EP X aE σ Q) X.xe s
def qj(X:Cx)(f:aA)(r:Z9 V->Hp->VK->Prop):Prop:=
 ∀(aE:Z9 (aF×Obj)) (s:aB) (σ:St) (H:Hp) (xs:Z9 V) (us:Z9 aA) (Q:VK),Inv X aE σ H s->Vals xs us->r xs H Q->
  wpAny (aG X.prog X.w) X.A (call f us) (EP X aE σ Q) X.xe s
def a1o(X:Cx)(r:V->Hp->(Bool->Hp->Prop)->Prop):Prop:=
 ∀(aE:Z9 (aF×Obj)) (s:aB) (σ:St) (H:Hp) (x:V) (v:aA) (Q:Bool->Hp->Prop),Inv X aE σ H s->RelV x v->r x H Q->
  wpAny (aG X.prog X.w) X.A (truthy v) (TP X aE σ Q) X.xe s
def tOp(r:R2)(ta tb:TE):TE:=λσ H Q=>ta σ H λx H1=>tb σ H1 λy H2=>r x y H2 Q
def tUn(r:V->Hp->VK->Prop)(ta:TE):TE:=λσ H Q=>ta σ H λx H1=>r x H1 Q
def rI(C:Int->Int->Prop)(g:Int->Int->V):R2:=λx y H Q=>∃i j,x=.int i/\y=.int j/\C i j/\Q (g i j) H
def rI0(g:Int->Int->V):R2:=λx y H Q=>∃i j,x=.int i/\y=.int j/\Q (g i j) H
def rU(g:Int->V):V->Hp->VK->Prop:=λx H Q=>∃i,x=.int i/\Q (g i) H
section
variable{X:Cx}{a b c:Expr}{ta tb tc:TE}{pos:cU}
def JY(ha:PE X a ta)(hb:PE X b tb){aE:Z9 (aF×Obj)}{s:aB}{σ:St}{H:Hp}{R:V->V->Hp->Prop}(I:Inv X aE σ H s)
  (h:ta σ H λx H1=>tb σ H1 λy H2=>R x y H2) {Q:aA->aB->Prop} {f:aA->aA->Sem aA}
  (hf:∀v u s2 x y H2,Inv X aE σ H2 s2->RelV x v->RelV y u->R x y H2->wpAny (aG X.prog X.w) X.A (f v u) Q X.xe s2) :
  wpAny (aG X.prog X.w) X.A (bL a X.env) (λv s₁=>wpAny (aG X.prog X.w) X.A (bL b X.env) (λu s₂=>wpAny (aG X.prog X.w) X.A (f v u) Q X.xe s₂) X.xe s₁) X.xe s:=by
 refine thn (ha aE s σ H _ I h) λv s1 ⟨x,H1,I1,r1,q1⟩=>?_;refine thn (hb aE s1 σ H1 _ I1 q1) λu s2 ⟨y,H2,I2,r2,q2⟩=>?_;exact hf v u s2 x y H2 I2 r1 r2 q2
def ml{op:Operator}{r:R2}(ho:OpR X (cQ op) r)(ha:PE X a ta)(hb:PE X b tb):PE X (.BinOp a op b pos) (tOp r ta tb):=by intro aE s σ H Q I h;exact wpAny_BinOp<|JY ha hb I h λv u s2 x y H2 I2 rx ry q=>ho aE s2 σ H2 x y v u Q I2 rx ry q
def aw6{op:UnaryOp}{r:V->Hp->VK->Prop}(ho:UnR X (unaryOp op) r)(ha:PE X a ta):PE X (.UnaryOp op a pos) (tUn r ta):=by intro aE s σ H Q I h;exact UnaryOp_<|thn (ha aE s σ H _ I h) λv s1 ⟨x,H1,I1,r1,q1⟩=>ho aE s1 σ H1 x v Q I1 r1 q1
def opI{f:aA->aA->Sem aA}{C:Int->Int->Prop}{g:Int->Int->Int}
  (vT:∀(i j:Int)(t u:pN)(s:aB)(Q:aA->aB->Prop)(E:aA->aB->Prop),C i j->Q (.int (g i j) s.toks) {s with toks:=s.toks+1}->wpAny (aG X.prog X.w) X.A (f (.int i t)<|.int j u) Q E s) :
  OpR X f (rI C λi j=>.int<|g i j):=by
 intro aE s σ H x y v u Q I rx ry h;obtain⟨i,j,rfl,rfl,hc,q⟩:=h;obtain⟨t,rfl⟩:=rx;obtain⟨t',rfl⟩:=ry;exact vT i j t t' s _ _ hc ⟨.int<|g i j,H,I.tok _,⟨_,rfl⟩,q⟩
def a0c{f:aA->aA->Sem aA}{g:Int->Int->Int}
  (vT:∀(i j:Int)(t u:pN)(s:aB)(Q:aA->aB->Prop)(E:aA->aB->Prop),Q (.int (g i j) s.toks) {s with toks:=s.toks+1}->wpAny (aG X.prog X.w) X.A (f (.int i t)<|.int j u) Q E s) :
  OpR X f (rI0 λi j=>.int<|g i j):=by
 intro aE s σ H x y v u Q I rx ry h;obtain⟨i,j,rfl,rfl,q⟩:=h;obtain⟨t,rfl⟩:=rx;obtain⟨t',rfl⟩:=ry;exact vT i j t t' s _ _ ⟨.int<|g i j,H,I.tok _,⟨_,rfl⟩,q⟩
def a0s{f:aA->aA->Sem aA}{g:Int->Int->Bool}
  (vT:∀(i j:Int)(t u:pN)(s:aB)(Q:aA->aB->Prop)(E:aA->aB->Prop),Q (.bool<|g i j) s->wpAny (aG X.prog X.w) X.A (f (.int i t)<|.int j u) Q E s) :
  OpR X f (rI0 λi j=>.bl<|g i j):=by
 intro aE s σ H x y v u Q I rx ry h;obtain⟨i,j,rfl,rfl,q⟩:=h;obtain⟨t,rfl⟩:=rx;obtain⟨t',rfl⟩:=ry;exact vT i j t t' s _ _ ⟨.bl<|g i j,H,I,rfl,q⟩
def a0z(i j:Int):Prop:=0<j/\j<1073741824
def a03(i j:Int):Prop:=0<=j/\j<=1000000/\i.natAbs<2^64
def CMul(i j:Int):Prop:=(-(2^64)<i/\i<2^64)\/(-(2^64)<j/\j<2^64)
def CMul.ok{i j:Int}(h:CMul i j):IntMulOk i j:=by
 rcases h with ⟨h1,h2⟩|⟨h1,h2⟩
 .exact .of_left<|intBits_le_64 h1 h2
 .exact .of_right<|intBits_le_64 h1 h2
def qf:OpR X (cQ .Add) (rI0 λi j=>.int<|i+j):=a0c λ_ _ _ _ _ _ _ q=>add_int q
def yh:OpR X (cQ .Sub) (rI0 λi j=>.int<|i-j):=a0c λ_ _ _ _ _ _ _ q=>sub_int q
def DR:OpR X (cQ .Mult) (rI CMul λi j=>.int<|i*j):=opI λ_ _ _ _ _ _ _ hc q=>mul_int q hc.ok
def at8:OpR X (cQ .FloorDiv) (rI a0z λi j=>.int<|i/j):=opI λi j _ _ _ _ _ hc q=>by have h1:(0:Int)<j:=hc.1;have h2:j<1073741824:=hc.2;exact floordiv_int (by lia) (by rw[Int.fdiv_eq_ediv_of_nonneg i (by lia)];exact q)<|.inl<|PyProof.noPylong_small<|by lia
def Bt:OpR X (cQ .Mod) (rI (λ_ j=>0<j) λi j=>.int<|i % j):=opI λi j _ _ _ _ _ hc q=>by have h1:(0:Int)<j:=hc;exact mod_int' (by lia)<|by rw[Int.fmod_eq_emod_of_nonneg i (by lia)];exact q
def ard:OpR X (cQ .Pow) (rI a03 λi j=>.int<|i^j.toNat):=opI λ_ _ _ _ _ _ _ hc q=>pow_int_small hc.1 hc.2.1 hc.2.2 q
def unI{f:aA->Sem aA}{g:Int->Int}
  (vT:∀(i:Int)(t:pN)(s:aB)(Q:aA->aB->Prop)(E:aA->aB->Prop),Q (.int (g i) s.toks) {s with toks:=s.toks+1}->wpAny (aG X.prog X.w) X.A (f<|.int i t) Q E s) :
  UnR X f (rU λi=>.int<|g i):=by
 intro aE s σ H x v Q I rx h;obtain⟨i,rfl,q⟩:=h;obtain⟨t,rfl⟩:=rx;exact vT i t s _ _ ⟨.int<|g i,H,I.tok _,⟨_,rfl⟩,q⟩
def aqq:UnR X (unaryOp .USub) (rU λi=>.int<|-i):=unI λ_ _ _ _ _ q=>neg_int q
end
noncomputable def a0g:V->V->Bool
 | .non,.non=>true|.non,.int _=>true|.int _,.non=>true|.non,.bl _=>true|.bl _,.non=>true|.non,.str _=>true|.str _,.non=>true
 | .int _,.int _=>true|.bl _,.bl _=>true|.str _,.str _=>true|.byt _,.byt _=>true
 | .int _,.str _=>true|.str _,.int _=>true|.bl _,.str _=>true|.str _,.bl _=>true
 | _,_=>false
def rEq:R2:=λx y H Q=>a0g x y=true/\Q (.bl<|decide<|x=y) H
def rNe:R2:=λx y H Q=>a0g x y=true/\Q (.bl<|!decide (x=y)) H
def LC{i j:Int}:decide (V.int i=V.int j)=(i==j):=by rw[gj];simp
def aqt{i j:Bool}:decide (V.bl i=V.bl j)=(i==j):=by rw[gj];simp
def akx{i j:Str}:decide (V.str i=V.str j)=(i==j):=by rw[gj];simp
def an5{i j:Array UInt8}:decide (V.byt i=V.byt j)=(i.toList==j.toList):=by rw[gj];cases i;cases j;simp
section
variable{X:Cx}{a b c:Expr}{ta tb tc:TE}{pos:cU}
def om{aE:Z9 (aF×Obj)}{σ:St}{H:Hp}{s:aB}{Q:VK}{k k':Bool}(I:Inv X aE σ H s)(q:Q (.bl k) H)(e:k=k'):EP X aE σ Q (.bool k') s:=by subst e;exact⟨.bl k,H,I,rfl,q⟩
theorem sd:OpR X (aS .Eq) rEq:=by
 intro aE s σ H x y v u Q I rx ry h;obtain⟨hs,q⟩:=h;cases x with
 | non=>
  cases rx;cases y with
  | non=>cases ry;exact PySem.EqNone.eq_none_none (om I q<|by simp)
  | bl j=>cases ry;exact PySem.EqNone.eq_none_bool (om I q<|by simp)
  | int j=>obtain⟨t',rfl⟩:=ry;exact PySem.EqNone.eq_none_int (om I q<|by simp)
  | str j=>obtain⟨t',rfl⟩:=ry;exact PySem.EqNone.eq_none_str (om I q<|by simp)
  | _=>exact absurd (show false=true from hs) am
 | bl i=>
  cases rx;cases y with
  | non=>cases ry;exact PySem.EqNone.eq_bool_none (om I q<|by simp)
  | bl j=>cases ry;exact eq_bool (om I q aqt)
  | str j=>obtain⟨t',rfl⟩:=ry;exact PySem.EqMixed.eq_bool_str (om I q<|by simp)
  | _=>exact absurd (show false=true from hs) am
 | int i=>
  obtain⟨t,rfl⟩:=rx;cases y with
  | non=>cases ry;exact PySem.EqNone.eq_int_none (om I q<|by simp)
  | int j=>obtain⟨t',rfl⟩:=ry;exact eq_int (om I q LC)
  | str j=>obtain⟨t',rfl⟩:=ry;exact PySem.EqMixed.eq_int_str (om I q<|by simp)
  | _=>exact absurd (show false=true from hs) am
 | str i=>
  obtain⟨t,rfl⟩:=rx;cases y with
  | non=>cases ry;exact PySem.EqNone.eq_str_none (om I q<|by simp)
  | bl j=>cases ry;exact PySem.EqMixed.eq_str_bool (om I q<|by simp)
  | int j=>obtain⟨t',rfl⟩:=ry;exact PySem.EqMixed.eq_str_int (om I q<|by simp)
  | str j=>obtain⟨t',rfl⟩:=ry;exact eq_str (om I q akx)
  | _=>exact absurd (show false=true from hs) am
 | byt i=>
  obtain⟨t,rfl⟩:=rx;cases y with
  | byt j=>obtain⟨t',rfl⟩:=ry;exact PySem.W.eq_bytes (om I q an5)
  | _=>exact absurd (show false=true from hs) am
 | _=>cases y<;>exact absurd (show false=true from hs) am
theorem Ai:OpR X (aS .NotEq) rNe:=by
 intro aE s σ H x y v u Q I rx ry h;obtain⟨hs,q⟩:=h;cases x with
 | non=>
  cases rx;cases y with
  | non=>cases ry;exact PySem.EqNone.ne_none_none (om I q<|by simp)
  | bl j=>cases ry;exact PySem.EqNone.ne_none_bool (om I q<|by simp)
  | int j=>obtain⟨t',rfl⟩:=ry;exact PySem.EqNone.ne_none_int (om I q<|by simp)
  | str j=>obtain⟨t',rfl⟩:=ry;exact PySem.EqNone.ne_none_str (om I q<|by simp)
  | _=>exact absurd (show false=true from hs) am
 | bl i=>
  cases rx;cases y with
  | non=>cases ry;exact PySem.EqNone.ne_bool_none (om I q<|by simp)
  | bl j=>cases ry;exact ne_bool (om I q<|congrArg not aqt)
  | str j=>obtain⟨t',rfl⟩:=ry;exact PySem.EqMixed.ne_bool_str (om I q<|by simp)
  | _=>exact absurd (show false=true from hs) am
 | int i=>
  obtain⟨t,rfl⟩:=rx;cases y with
  | non=>cases ry;exact PySem.EqNone.ne_int_none (om I q<|by simp)
  | int j=>obtain⟨t',rfl⟩:=ry;exact ne_int (om I q<|congrArg not LC)
  | str j=>obtain⟨t',rfl⟩:=ry;exact PySem.EqMixed.ne_int_str (om I q<|by simp)
  | _=>exact absurd (show false=true from hs) am
 | str i=>
  obtain⟨t,rfl⟩:=rx;cases y with
  | non=>cases ry;exact PySem.EqNone.ne_str_none (om I q<|by simp)
  | bl j=>cases ry;exact PySem.EqMixed.ne_str_bool (om I q<|by simp)
  | int j=>obtain⟨t',rfl⟩:=ry;exact PySem.EqMixed.ne_str_int (om I q<|by simp)
  | str j=>obtain⟨t',rfl⟩:=ry;exact ne_str (om I q<|congrArg not akx)
  | _=>exact absurd (show false=true from hs) am
 | byt i=>
  obtain⟨t,rfl⟩:=rx;cases y with
  | byt j=>obtain⟨t',rfl⟩:=ry;exact PySem.W.ne_bytes (om I q<|congrArg not an5)
  | _=>exact absurd (show false=true from hs) am
 | _=>cases y<;>exact absurd (show false=true from hs) am
def aw7:OpR X (aS .Lt) (rI0 λi j=>.bl<|decide<|i<j):=a0s λ_ _ _ _ _ _ _ q=>lt_int q
def xm:OpR X (aS .LtE) (rI0 λi j=>.bl<|decide<|i<=j):=a0s λ_ _ _ _ _ _ _ q=>le_int q
def akr:OpR X (aS .In) (λx y H Q=>∃i j,x=.str i/\y=.str j/\Q (.bl<|!(Builtin.Str.occurrences j i 0 j.length 1).isEmpty) H):=by intro aE s σ H x y v u Q I rx ry h;obtain⟨i,j,rfl,rfl,q⟩:=h;obtain⟨t,rfl⟩:=rx;obtain⟨t',rfl⟩:=ry;exact in_str<|om I q rfl
theorem aqd:OpR X (aS .Is) (λx y H Q=>y=.non/\Q (.bl<|decide<|x=.non) H):=by
 intro aE s σ H x y v u Q I rx ry h;obtain⟨rfl,q⟩:=h;cases ry;refine is_none_gen<|om I q ?_;cases x<;>first
  | (cases rx;rfl)
  | (obtain⟨t,rfl⟩:=rx;rfl)
def mr(b:Expr){op:kY}(h:op≠.In:=by decide)(h2:op≠.NotIn:=by decide):iA op b=false:=by
 have e1:(op==kY.In)=false:=by cases op<;>first|rfl|exact absurd rfl h
 have e2:(op==kY.NotIn)=false:=by cases op<;>first|rfl|exact absurd rfl h2
 cases b<;>simp[iA,e1,e2]
def ou{op:kY}{r:R2}(ho:OpR X (aS op) r)(ha:PE X a ta)(hb:PE X b tb)(hm:iA op b=false):PE X (.Compare a [op] [b] pos) (tOp r ta tb):=by intro aE s σ H Q I h;exact wpAny_Compare1 (JY ha hb I h λv u s2 x y H2 I2 rx ry q=>ho aE s2 σ H2 x y v u Q I2 rx ry q) hm
def av4(t:TE):TT:=λσ H Q=>t σ H λx H'=>∃k,x=.bl k/\Q k H'
def m6{op:kY}{r:R2}(ho:OpR X (aS op) r)(ha:PE X a ta)(hb:PE X b tb)(hm:iA op b=false):PT X (.Compare a [op] [b] pos) (av4<|tOp r ta tb):=by
 intro aE s σ H Q I h;refine wpAny_isTrue_Compare1 (thn (ha aE s σ H _ I h) λv s1 ⟨x,H1,I1,r1,q1⟩=>thn (hb aE s1 σ H1 _ I1 q1) λu s2 ⟨y,H2,I2,r2,q2⟩=>
  thn (ho aE s2 σ H2 x y v u _ I2 r1 r2 q2) λc s3 ⟨z,H3,I3,r3,k,e,q3⟩=>?_) hm
 subst e;cases r3;exact gf ⟨H3,I3,q3⟩
def aql(r r':R2)(ta tb tc:TE):TE:=λσ H Q=>ta σ H λx H1=>tb σ H1 λy H2=>r x y H2 λz H3=>∃k,z=.bl k/\
 (if k=true then tc σ H3 λw' H4=>r' y w' H4 Q else Q (.bl false) H3)
theorem LS{op yO:kY}{r r':R2}(ho:OpR X (aS op) r)(gN:OpR X (aS yO) r')(ha:PE X a ta)(hb:PE X b tb)(hc:PE X c tc)
  (hm:lastMarks [op,yO] [b,c]=false:=by with_unfolding_all rfl):PE X (.Compare a [op,yO] [b,c] pos) (aql r r' ta tb tc):=by
 intro aE s σ H Q I h;refine Compare_chain (thn (ha aE s σ H _ I h) λv s1 ⟨x,H1,I1,r1,q1⟩=>chain_link (thn (hb aE s1 σ H1 _ I1 q1) λu s2 ⟨y,H2,I2,r2,q2⟩=>
  thn (ho aE s2 σ H2 x y v u _ I2 r1 r2 q2) λd s3 ⟨z,H3,I3,r3,k,e,q3⟩=>?_)) hm
 subst e;cases r3;refine gf ?_;cases k with
 | false=>exact ite_ff ⟨.bl false,H3,I3,rfl,q3⟩
 | true=>exact ite_tt<|chain_last<|thn (hc aE s3 σ H3 _ I3 q3) λw' s4 ⟨z',H4,I4,r4,q4⟩=>gN aE s4 σ H4 y z' u w' Q I4 r2 r4 q4
theorem vy{op yO:kY}{r r':R2}(ho:OpR X (aS op) r)(gN:OpR X (aS yO) r')(ha:PE X a ta)(hb:PE X b tb)(hc:PE X c tc)
  (hm:lastMarks [op,yO] [b,c]=false:=by with_unfolding_all rfl):PT X (.Compare a [op,yO] [b,c] pos) (av4<|aql r r' ta tb tc):=by
 intro aE s σ H Q I h;refine isTrue_chain (thn (ha aE s σ H _ I h) λv s1 ⟨x,H1,I1,r1,q1⟩=>test_link (thn (hb aE s1 σ H1 _ I1 q1) λu s2 ⟨y,H2,I2,r2,q2⟩=>
  thn (ho aE s2 σ H2 x y v u _ I2 r1 r2 q2) λd s3 ⟨z,H3,I3,r3,k,e,q3⟩=>?_)) hm
 subst e;cases r3;refine gf ?_;cases k with
 | false=>
  obtain⟨k',e',q'⟩:=q3;cases e';exact ite_ff ⟨H3,I3,q'⟩
 | true=>
  refine ite_tt<|test_last<|thn (hc aE s3 σ H3 _ I3 q3) λw' s4 ⟨z',H4,I4,r4,q4⟩=>thn (gN aE s4 σ H4 y z' u w' _ I4 r2 r4 q4) λd' s5 ⟨z2,H5,I5,r5,k2,e2,q5⟩=>?_;subst e2;cases r5;exact gf ⟨H5,I5,q5⟩
def a0n(K:aq)(x:V)(H:Hp)(k:Bool):Prop:=
 match x with
 | .non=>k=false
 | .bl b=>k=b
 | .int i=>k=(i != 0)
 | .str y=>y.length<=aC/\k=((y.length:Int) != 0)
 | .byt y=>y.size<=aC/\k=((y.size:Int) != 0)
 | .ref p=>(∃xs,SqL K H p xs/\k = !xs.isEmpty)\/(∃xs,SqT K H p xs/\k = !xs.isEmpty)\/∃aL,H p=some (.dK aL)/\k = !aL.isEmpty
 | _=>False
def aje{κ:Type}{aL:Z9 (κ×V)}{vs:Z9 (κ×aA)}(r:KV aL vs):(!vs.isEmpty) = !aL.isEmpty:=by cases r<;>rfl
def aca{xs:Z9 V}{its:Z9 aA}(r:Vals xs its):(!its.toArray.isEmpty) = !xs.isEmpty:=by cases r<;>simp
def Ao:(aC:Nat)<2^63:=by rw[dw];decide
theorem avq:a1o X (λx H Q=>∃k,a0n X.K x H k/\Q k H):=by
 intro aE s σ H x v Q I rx h;obtain⟨k,e,q⟩:=h;have hl:=Ao;have hs:aC=16777216:=dw;cases x with
 | non=>
  cases rx;have e':k=false:=e;subst e';exact truthy_none ⟨H,I,q⟩
 | bl b=>
  cases rx;have e':k=b:=e;subst e';exact gf ⟨H,I,q⟩
 | int i=>
  obtain⟨t,rfl⟩:=rx;have e':k=(i != 0):=e;subst e';exact PySem.P.truthy_int ⟨H,I,q⟩
 | str y=>
  obtain⟨t,rfl⟩:=rx;obtain⟨hy,e'⟩:y.length<=aC/\k=((y.length:Int) != 0):=e;subst e';exact PySem.P.truthy_str (by lia) ⟨H,I.tok _,q⟩
 | byt y=>
  obtain⟨t,rfl⟩:=rx;obtain⟨hy,e'⟩:y.size<=aC/\k=((y.size:Int) != 0):=e;subst e';exact PySem.W.truthy_bytes (by lia) ⟨H,I.tok _,q⟩
 | ref p=>
  cases rx;have e':(∃xs,SqL X.K H p xs/\k = !xs.isEmpty)\/(∃xs,SqT X.K H p xs/\k = !xs.isEmpty)\/∃aL,H p=some (.dK aL)/\k = !aL.isEmpty:=e;rcases e' with ⟨xs,hx,e'⟩|⟨xs,hx,e'⟩|⟨aL,hx,e'⟩
  .subst e';obtain⟨its,r,pl,hz⟩:=I.list hx;have aU:=r.length;exact wpAny_truthy_list pl.isList (by simp only[be];lia) ⟨H,I.tok _,by rw[aca r];exact q⟩
  .subst e';obtain⟨its,r,pl,hz⟩:=I.tuple hx;have aU:=r.length;exact truthy_tuple pl (by simp only[be];lia) ⟨H,I.tok _,by rw[aca r];exact q⟩
  .subst e';obtain⟨hz,hS,vs,r,m⟩:aL.length<=aC/\(p==aW)=false/\∃vs,KV aL vs/\s.heap.DictOf (qk X.prog X.w) p vs:=I.hok p _ hx;have aU:aL.length=vs.length:=cR.length r;exact wpAny_truthy_dict hS m (by lia) ⟨H,I.tok _,by rw[aje r];exact q⟩
 | _=>exact(show False from e).elim
def ao2(ha:PE X a ta)(he:∀gZ,isTrue a X.env gZ=(do let v <-gZ;BD a.pos;eY [v] (truthy v))) :
  PT X a (λσ H Q=>ta σ H λx H'=>∃k,a0n X.K x H' k/\Q k H'):=by
 intro aE s σ H Q I h;exact isTrue_plain (thn (ha aE s σ H _ I h) λv s1 ⟨x,H1,I1,r1,q1⟩=>avq aE s1 σ H1 x v Q I1 r1 q1)<|he _
def rq:OpR X (cQ .Add) (λx y H Q=>∃i j,x=.str i/\y=.str j/\i.length+j.length<=aC/\Q (.str<|i++j) H):=by intro aE s σ H x y v u Q I rx ry h;obtain⟨i,j,rfl,rfl,hz,q⟩:=h;obtain⟨t,rfl⟩:=rx;obtain⟨t',rfl⟩:=ry;exact add_str (λt' tk=>⟨.str<|i++j,H,I.tok _,⟨_,rfl⟩,q⟩) hz
theorem se{x:V}{us:Z9 aA}(r:Vals [x] us):∃u,us=[u]/\RelV x u:=by
 cases r with
 | cons r1 r2=>cases r2;exact⟨_,rfl,r1⟩
theorem Al{x y:V}{us:Z9 aA}(r:Vals [x,y] us):∃u w',us=[u,w']/\RelV x u/\RelV y w':=by
 cases r with
 | cons r1 r2=>
  cases r2 with
  | cons r3 r4=>cases r4;exact⟨_,_,rfl,r1,r3⟩
def ahp:qj X (.builtin "abs") (λxs H Q=>∃i,xs=[.int i]/\Q (.int (if i<0 then -i else i)) H):=by intro aE s σ H xs us Q I r h;obtain⟨i,rfl,q⟩:=h;obtain⟨u,rfl,t,rfl⟩:=se r;exact call_abs_int λu tk=>⟨.int (if i<0 then -i else i),H,I.tok _,⟨_,rfl⟩,q⟩
def al6(hc:X.calm=true):qj X (.builtin "max") (λxs H Q=>∃i j,xs=[.int i,.int j]/\Q (.int (if j>i then j else i)) H):=by
 intro aE s σ H xs us Q I r h;obtain⟨i,j,rfl,q⟩:=h;obtain⟨u,w',rfl,⟨t,rfl⟩,⟨t',rfl⟩⟩:=Al r;refine max_two_ints (I.ok.hd hc) λh' tk k=>⟨_,H,I.kept k,?_,q⟩;by_cases hj:j>i
 .rw[if_pos hj,if_pos hj];exact⟨_,rfl⟩
 .rw[if_neg hj,if_neg hj];exact⟨_,rfl⟩
def aea(hc:X.calm=true):qj X (.builtin "min") (λxs H Q=>∃i j,xs=[.int i,.int j]/\Q (.int (if j<i then j else i)) H):=by
 intro aE s σ H xs us Q I r h;obtain⟨i,j,rfl,q⟩:=h;obtain⟨u,w',rfl,⟨t,rfl⟩,⟨t',rfl⟩⟩:=Al r;refine min_two_ints (I.ok.hd hc) λh' tk k=>⟨_,H,I.kept k,?_,q⟩;by_cases hj:j<i
 .rw[if_pos hj,if_pos hj];exact⟨_,rfl⟩
 .rw[if_neg hj,if_neg hj];exact⟨_,rfl⟩
def amg:qj X (.type "int") (λxs H Q=>(∃i,xs=[.int i]/\Q (.int i) H)\/∃k,xs=[.bl k]/\Q (.int (if k then 1 else 0)) H):=by
 intro aE s σ H xs us Q I r h;rcases h with ⟨i,rfl,q⟩|⟨k,rfl,q⟩
 .obtain⟨u,rfl,t,rfl⟩:=se r;exact call_int_int ⟨.int i,H,I,⟨_,rfl⟩,q⟩
 .obtain⟨u,rfl,r1⟩:=se r;cases r1;exact call_int_bool ⟨.int (if k then 1 else 0),H,I.tok _,⟨_,rfl⟩,q⟩
def afd:qj X (.type "str") (λxs H Q=>∃i,xs=[.int i]/\i.natAbs.log2<1920/\Q (.str<|cB i) H):=by intro aE s σ H xs us Q I r h;obtain⟨i,rfl,hz,q⟩:=h;obtain⟨u,rfl,t,rfl⟩:=se r;exact PySem.P.str_of_int hz ⟨.str _,H,I.tok _,⟨_,rfl⟩,q⟩
end
structure ObjM(h:Heap)(x dx C:aF)(mA:Str->Option aA):Prop where
 obj:h.get? x=some (PySem.W.instObj C dx)
 ns:h.Ns1 dx mA
 ne:dx≠x
def amz{h:Heap}{dx:aF}{mA:Str->Option aA}(n:h.Ns1 dx mA):∃od,h.get? dx=some od/\∀name,PySem.W.lookIn name od=some (mA name):=by
 obtain⟨o,es,ep,ho,hd,hk,_,hm⟩:=n;refine⟨o,ho,λname=>?_⟩;have e:=hm name;unfold nsFind findBy at e;rw[<-Array.find?_toList]at e;unfold PySem.W.lookIn;rw[hd];dsimp only;split
 .rename_i y q
  rw[q]at e;exact congrArg some e
 .rename_i q
  rw[q]at e;have a:es.toList.any (·.refKey)=false:=by rw[List.any_eq_false];intro y hy;obtain⟨z,t,gR⟩:=hk y<|Array.mem_toList_iff.mp hy;simp[DictEntry.refKey,gR]
  have a':¬es.toList.any (·.refKey)=true:=by rw[a];exact am
  rw[if_neg a'];exact congrArg some e
def ObjM.look{h:Heap}{x dx C:aF}{mA:Str->Option aA}(I:ObjM h x dx C mA):∃od,PySem.W.InstAt h x (PySem.W.instObj C dx) C (some od)/\∀name,PySem.W.lookIn name od=some (mA name):=
 let ⟨od,ho,hl⟩:=amz I.ns
 ⟨od,⟨I.obj,rfl,rfl,ho⟩,hl⟩
section
variable{P:aI}{w:aJ}{H H':Hp}{h h':Heap}{a C dx:aF}{fs fs':Z9 (Str×V)}
def as4(hok:HOk P w H h)(e:H a=some (.ins C dx fs)):∃mA,ObjM h a dx C mA/\(∀f,RelO (fs.lookup f)<|mA f)/\PySem.Within mA (fs.map (·.1))/\fs.length<=1000/\H dx=some (.own a):=by obtain⟨d,z,ne,ob,mA,n,r,q⟩:=(show ObjOk P w H h a (.ins C dx fs)from hok a _ e);exact⟨mA,⟨ob,n,ne⟩,r,q,z,d⟩
end
structure Cls(K:aq)(C:aF):Prop where
 pg:PySem.W.plainGet K C Str.empty=true
 hd:PySem.W.hasDictIn K C=true
 po:PySem.W.plainOver K C=true
 sa:PySem.W.findIn K (.ref C) "__setattr__" = some (some<|.builtin "object.__setattr__")
def Cls.get{K:aq}{C:aF}(c:Cls K C)(f:Str):PySem.W.plainGet K C f=true:=c.pg
section
variable{X:Cx}{aE:Z9 (aF×Obj)}{σ:St}{H:Hp}{s:aB}{A:Around}{E:aA->aB->Prop}{Q:aA->aB->Prop}{c:aA}{b:Bool}
inductive iW(K:aq)(H:Hp):V->aA->Prop where
 | non:iW K H .non (.type "NoneType")
 | bl (x:Bool):iW K H (.bl x) (.type "bool")
 | int (i:Int):iW K H (.int i) (.type "int")
 | str (x:Str):iW K H (.str x) (.type "str")
 | flt (x:UInt64):iW K H (.flt x) (.type "float")
 | lst {a:aF} {xs:Z9 V} (e:H a=some (.lst xs)):iW K H (.ref a) (.type "list")
 | frz {a:aF} {o:Obj} {xs:Z9 V} (e:H a=some (.frz o<|.lst xs)):iW K H (.ref a) (.type "list")
 | tup {a:aF} {xs:Z9 V} (e:H a=some (.tup xs)):iW K H (.ref a) (.type "tuple")
 | dK {a:aF} {aL:Z9 (Key×V)} (e:H a=some (.dK aL)):iW K H (.ref a) (.type "dict")
 | dT {a:aF} {aL:Z9 (Z9 Key×V)} (e:H a=some (.dT aL)):iW K H (.ref a) (.type "dict")
 | ins {a C dx:aF} {fs:Z9 (Str×V)} (e:H a=some (.ins C dx fs)) (cl:Cls K C) (ha:PySem.W.findIn K (.ref C) "__class__" = some (some<|.builtin "object.__class__"))
   (hn:PySem.W.specialIn K (.builtin "object.__class__") "__get__" = some (some<|.builtin "getset_descriptor.__get__")) (wF:PySem.W.takesIn K (.builtin "object.__class__")=some true)
   (hm:PySem.W.mroIn K C (.type "object")=some true):iW K H (.ref a) (.ref C)
theorem ale{x:V}{u t:aA}(I:Inv X aE σ H s)(rx:RelV x u)(ty:iW X.K H x t)(e:cj X.K t c=some b)(h:∀tk,Q (.bool b) {s with toks:=tk}) :
  wpAny (aG X.prog X.w) A (call (.builtin "isinstance") [u,c]) Q E s:=by
 cases ty with
 | non=>cases (show u=aA.none from rx);exact gx PySem.W.kitx_none I.kIn True.intro e (λz=>nomatch z) h
 | bl y=>cases (show u=aA.bool y from rx);exact gx PySem.W.kitx_bool I.kIn True.intro e (λz=>nomatch z) h
 | int i=>obtain⟨t,q⟩:=(show ∃t,u=aA.int i t from rx);cases q;exact gx PySem.W.kitx_int I.kIn True.intro e (λz=>nomatch z) h
 | str y=>obtain⟨t,q⟩:=(show ∃t,u=aA.str y t from rx);cases q;exact gx PySem.W.kitx_str I.kIn True.intro e (λz=>nomatch z) h
 | flt y=>obtain⟨t,q⟩:=(show ∃t,u=aA.float y t from rx);cases q;exact gx PySem.W.kitx_float I.kIn True.intro e (λz=>nomatch z) h
 | @lst a xs ea=>
  cases (show u=aA.ref a from rx);obtain⟨_,_,n,_,h1⟩:=(show ObjOk X.prog X.w H s.heap a (.lst xs)from I.hok a _ ea);exact gx PySem.W.kitx_list I.kIn ⟨_,h1,rfl⟩ e (λz=>nomatch z) h
 | @frz a ob xs ea=>
  cases (show u=aA.ref a from rx);obtain⟨_,_,_,n,_,h1⟩:=(show ObjOk X.prog X.w H s.heap a (.frz ob<|.lst xs)from I.hok a _ ea);exact gx PySem.W.kitx_list I.kIn ⟨_,h1,rfl⟩ e (λz=>nomatch z) h
 | @tup a xs ea=>
  cases (show u=aA.ref a from rx);obtain⟨_,_,_,p⟩:=(show ObjOk X.prog X.w H s.heap a (.tup xs)from I.hok a _ ea);obtain⟨o,h1,h2,_⟩:=p;exact gx PySem.W.kitx_tuple I.kIn ⟨o,h1,h2⟩ e (λz=>nomatch z) h
 | @dK a aL ea=>
  cases (show u=aA.ref a from rx);obtain⟨_,_,vs,_,p⟩:=(show ObjOk X.prog X.w H s.heap a (.dK aL)from I.hok a _ ea);obtain⟨o,es,ep,h1,h2,_⟩:=p;exact gx PySem.W.kitx_dict I.kIn ⟨o,h1,h2.1⟩ e (λz=>nomatch z) h
 | @dT a aL ea=>
  cases (show u=aA.ref a from rx);obtain⟨_,_,xs,_,o,es,ep,h1,h2,_⟩:=(show ObjOk X.prog X.w H s.heap a (.dT aL)from I.hok a _ ea);exact gx PySem.W.kitx_dict I.kIn ⟨o,h1,h2.1⟩ e (λz=>nomatch z) h
 | @ins a C dx fs ea cl ha hn wF hm=>
  cases (show u=aA.ref a from rx);obtain⟨mA,O,_⟩:=as4 I.hok ea;obtain⟨od,J,_⟩:=O.look;exact gx (PySem.W.kitx_own (cl.get _) cl.hd ha hn wF hm) I.kIn J e (λz=>nomatch z) h
end
structure Room(k:Nat)(A:Around):Prop where
 hd:A.handled=none
 dp:A.depth+3*k+5<recursionLimit
 un:A.units+16*k+200<bM
def Room.mono{j k:Nat}{A:Around}(r:Room k A)(h:j<=k):Room j A:=⟨r.hd,by have:=r.dp;lia,by have:=r.un;lia⟩
theorem Room.deeper{k:Nat}{A:Around}(r:Room (k+1) A)(env:kX):Room k (A.deeper env):=
 ⟨r.hd,by have:=r.dp;show A.depth+1+3*k+5<_;lia,by have:=r.un;show A.units+3+16*k+200<_;lia⟩
theorem Room.depth{k:Nat}{A:Around}(r:Room k A):A.depth<recursionLimit:=by have:=r.dp;lia
theorem Room.units{k:Nat}{A:Around}(r:Room k A):A.units+64<bM:=by have:=r.un;lia
def DC:TA:=λ_ H Q=>Q [] H
def sL(ta:TE)(tr:TA):TA:=λσ H Q=>ta σ H λx H1=>tr σ H1 λxs H2=>Q (x::xs) H2
section
variable{X:Cx}{e:Expr}{es:Z9 Expr}{te:TE}{t:TA}{pos:cU}
def km:PA X [] DC:=λ_ _ _ _ H Q I h=>Calls.spliced_nil ⟨[],H,I,.nil,h⟩
def ata(ha:PE X e te)(hr:PA X es t)(hs:aK (e::es) X.env=(false,bL e X.env)::aK es X.env:=by rfl):PA X (e::es) (sL te t):=by intro pos aE s σ H Q I h;rw[hs];show wpAny _ _ (lO ((false,bL e X.env)::bA pos (aK es X.env))) _ _ s;refine j5<|thn (ha aE s σ H _ I h) λu s1 ⟨x,H1,I1,r1,q1⟩=>?_;exact thn (hr pos aE s1 σ H1 _ I1 q1) λus s2 ⟨xs,H2,I2,r2,q2⟩=>⟨x::xs,H2,I2,.cons r1 r2,q2⟩
def FA(t:TA):TE:=λσ H Q=>t σ H λxs H1=>xs.length<=aC/\∀p,H1 p=none->Q (.ref p) (upd H1 p<|.tup xs)
def a0w(t:TA):TE:=λσ H Q=>t σ H λxs H1=>xs.length<=aC/\∀p,H1 p=none->Q (.ref p) (upd H1 p<|.lst xs)
def qd{x1}(h:PA X es t):PE X (.Tuple es x1 pos) (FA t):=by intro aE s σ H Q I hq;refine wpAny_Tuple_spliced<|thn (h pos aE s σ H _ I hq) λus s1 ⟨xs,H1,I1,r,z,q⟩=>⟨by rw[<-r.length];exact z,?_⟩;have hf:H1 s1.heap.objs.size=none:=I1.hok.fresh<|av _;refine⟨.ref s1.heap.objs.size,upd H1 s1.heap.objs.size<|.tup xs,I1.laid (t':=s1.toks) (λb u e=>ai _ e) (av _) ?_,rfl,q _ hf⟩;exact⟨z,us,r,⟨_,ba _ rfl,rfl,_,rfl⟩⟩
def l7(h:PA X es t):PE X (.List es pos) (a0w t):=by intro aE s σ H Q I hq;refine wpAny_List_spliced<|thn (h pos aE s σ H _ I hq) λus s1 ⟨xs,H1,I1,r,z,q⟩=>⟨by rw[<-r.length];exact z,?_⟩;have hf:H1 s1.heap.objs.size=none:=I1.hok.fresh<|av _;refine⟨.ref s1.heap.objs.size,upd H1 s1.heap.objs.size<|.lst xs,I1.laid (t':=s1.toks) (λb u e=>ai _ e) (av _) ?_,rfl,q _ hf⟩;exact⟨z,us,0,r,ba _ rfl⟩
end
abbrev Sp:=Z9 V->Hp->VK->XK->Prop
abbrev CXT:=Z9 kX->Hp->aB->XK->aA->aB->Prop
structure FD(P:aI)(w:aJ)(K:aq)(mg:Str->Option aA)(base:Heap)(A:Around)(outer:Z9 kX)(s:aB)(H:Hp):Prop where
 frames:A.frames=some outer
 mod:Mod K mg base
 bs:∀b o,base.get? b=some o->s.heap.get? b=some o/\H b=none
 bsz:base.objs.size<=s.heap.objs.size
 funs:s.heap.FunFrames base outer
 frf:∀b∈frs outer,H b=none
 hok:HOk P w H s.heap
 bare:eF s.gens
def CE(outer:Z9 kX)(P:aI)(w:aJ)(H:Hp)(s:aB)(Q:VK)(u:aA)(s':aB):Prop:=
 ∃v H',s'.os=s.os/\eF s'.gens/\Un (frs outer) [] H H' s.heap s'.heap/\HOk P w H' s'.heap/\RelV v u/\Q v H'
def CR(CX:CXT)(outer:Z9 kX)(P:aI)(w:aJ)(H:Hp)(s:aB)(Q:VK)(E:XK)(r:iQ)(s':aB):Prop:=
 match r with
 | .ok (.ret u)=>CE outer P w H s Q u s'
 | .ok _=>False
 | .error e=>CX outer H s E e s'
structure FnOk(P:aI)(w:aJ)(K:aq)(mg:Str->Option aA)(base:Heap)(CX:CXT)(k:Nat)(f:aF)(fd:bG)(ps:Z9 Str)(sp:Sp):Prop where
 len:∀vs H Q E,sp vs H Q E->vs.length=ps.length
 run:∀(A:Around)(outer:Z9 kX)(s:aB)(H:Hp)(args:Gm)(us:Z9 aA)(vs:Z9 V)(Q:VK)(E:XK),Room k A->FD P w K mg base A outer s H->mL s fd args (ps.zip us)->Vals vs us->sp vs H Q E->
  bY (aG P w) A (.call (.ref f) args) (CR CX outer P w H s Q E) s
theorem FnOk.mono{P:aI}{w:aJ}{K:aq}{mg:Str->Option aA}{base:Heap}{CX:CXT}{j k:Nat}{f:aF}{fd:bG}{ps:Z9 Str}{sp:Sp}(F:FnOk P w K mg base CX j f fd ps sp)(h:j<=k) :
  FnOk P w K mg base CX k f fd ps sp:=⟨F.len,λA outer s H args us vs Q E hr=>F.run A outer s H args us vs Q E<|hr.mono h⟩
section
variable{X:Cx}{aE:Z9 (aF×Obj)}{σ:St}{H:Hp}{s s':aB}
def Inv.env0(I:Inv X aE σ H s):FD X.prog X.w X.K X.mg X.base X.A X.stack s H:=
 ⟨I.ok.frames,I.ok.mod,I.bs,fj I.ok.bsz I.sz,I.stack,I.stkFree,I.hok,I.bare⟩
def Inv.after{Q:VK}{u:aA}(I:Inv X aE σ H s)(h:CE X.stack X.prog X.w H s Q u s'):EP X aE σ Q u s':=by obtain⟨v,H',os,bare,un,hok,r,q⟩:=h;obtain⟨hh,g,d,t,qA⟩:=s';obtain rfl:qA=s.os:=os;exact⟨v,H',I.call (h':=hh) (g':=g) (d':=d) (t':=t) (ch:=[]) un hok bare λb z=>absurd z<|by simp,r,q⟩
end
def KN(sp:Sp)(xE:Z9 V)(E:XK)(t:TA):TE:=λσ H Q=>t σ H λvs H1=>sp (vs++xE) H1 Q E
def Binds(K:aq)(fd:bG)(ps:Z9 Str)(ds:Z9 aA):Prop:=
 ∀(s:aB)(us:Z9 aA),K.In s.heap->(us++ds).length=ps.length->mL s fd ⟨us,[]⟩ (ps.zip<|us++ds)
def Binds.all{K:aq}{fd:bG}{ps:Z9 Str}(h:∀us:Z9 aA,us.length=ps.length->xH fd ⟨us,[]⟩=bJ (ps.zip us)):Binds K fd ps []:=λs us _ hl=>by rw[f9]at hl⊢;exact .of_eq<|h us hl
def FQ(CX:CXT)(X:Cx)(E:XK):Prop:=∀(aE:Z9 (aF×Obj)) (σ:St) (H:Hp) (s:aB) (e:aA) (s':aB),Inv X aE σ H s->CX X.stack H s E e s'->X.xe e s'
section
variable{X:Cx}{CX:CXT}{k:Nat}{f C:aF}{fd:bG}{ps:Z9 Str}{sp:Sp}{xE:Z9 V}{ds:Z9 aA}{E:XK}{x m:Str}{p pos eS:cU}{e o:Expr}{es:Z9 Expr}{ta:TE}{t:TA}
theorem axx{aE:Z9 (aF×Obj)}{σ:St}{H:Hp}{s:aB}{Q:VK}{us:Z9 aA}{vs:Z9 V}(F:FnOk X.prog X.w X.K X.mg X.base CX k f fd ps sp)(hr:Room k X.A)(hb:Binds X.K fd ps ds)(hd:Vals xE ds)(hx:FQ CX X E)
  (I:Inv X aE σ H s) (r:Vals vs us) (h:sp (vs++xE) H Q E):wpAny (aG X.prog X.w) X.A (call (.ref f) us) (EP X aE σ Q) X.xe s:=by
 have r2:Vals (vs++xE) (us++ds):=r.append hd;have hl:(us++ds).length=ps.length:=by rw[<-r2.length];exact F.len _ _ _ _ h
 refine cH<|ju (F.run X.A X.stack s H ⟨us,[]⟩ (us++ds) (vs++xE) Q E hr I.env0 (hb s us I.kIn hl) r2 h) λr s' hq=>?_;cases r with
 | error e=>exact hx aE σ H s e s' I hq
 | ok fl=>
  cases fl with
  | ret u=>exact I.after hq
  | next=>exact iq hq
  | brk=>exact iq hq
  | cont=>exact iq hq
def akz(F:FnOk X.prog X.w X.K X.mg X.base CX k f fd ps sp)(hr:Room k X.A)(hg:Gl X x)(hm:X.mg x=some (.ref f))(hk:PySem.W.keepIn X.K (.ref f)=true)(hb:Binds X.K fd ps ds)(hd:Vals xE ds)(hx:FQ CX X E)
  (ha:PA X (e::es) t) (kQ:(x==("__debug__" : Str))=false:=by decide) (he:aK (e::es) X.env=(false,bL e X.env)::aK es X.env:=by rfl) (fQ:(bA pos<|aK es X.env).any (·.1)=false:=by rfl) :
  PE X (.Call (.Name x p) (e::es) [] pos) (KN sp xE E t):=by
 intro aE s σ H Q I h;refine gi<|DT I hg hm ?_ kQ;refine PySem.W.callWith_K (h₀:=X.base) I.ok.mod.kin hk (thn (ha pos aE s σ H _ I h) λus s1 ⟨vs,H1,I1,r,q⟩=>⟨I1.kIn,?_⟩) he fQ;exact axx F hr hb hd hx I1 r q
end
def PK(X:Cx)(B4:Z9 eE)(t:TA):Prop:=
 ∀(pos:cU) (aE:Z9 (aF×Obj)) (s:aB) (σ:St) (H:Hp) (Q:Z9 V->Hp->Prop),Inv X aE σ H s->t σ H Q->wpAny (aG X.prog X.w) X.A (evalAll<|(jG pos<|dX B4 X.env).map (·.2)) (AP X aE σ Q) X.xe s
section
variable{X:Cx}{CX:CXT}{k:Nat}{f C:aF}{fd:bG}{ps ks:Z9 Str}{sp:Sp}{E:XK}{x m:Str}{p pos eS nW:cU}{e o:Expr}{es:Z9 Expr}{B4:Z9 eE}{te ta:TE}{t tk:TA}{nm:Option Str}
def aqz:PK X [] DC:=λ_ _ _ _ H Q I h=>wpAny_evalAll_nil ⟨[],H,I,.nil,h⟩
def amf(ha:PE X e te)(hr:PK X B4 t):PK X (⟨nm,e,nW⟩::B4) (sL te t):=by intro pos aE s σ H Q I h;show wpAny _ _ (evalAll ((do let v <-bL e X.env;BD pos;bJ v)::(jG pos<|dX B4 X.env).map (·.2))) _ _ s;refine wpAny_evalAll_cons<|ac<|thn (ha aE s σ H _ I h) λu s1 ⟨x,H1,I1,r1,q1⟩=>ac<|eG<|ao ?_;exact thn (hr pos aE s1 σ H1 _ I1 q1) λus s2 ⟨xs,H2,I2,r2,q2⟩=>⟨x::xs,H2,I2,.cons r1 r2,q2⟩
variable{g:Z9 aA->Z9 aA->Z9 aA}{gV:Z9 V->Z9 V->Z9 V}
end
structure lz(N P:Z9 Str)(sc:bV):Prop where
 kind:sc.kind=.function:=by rfl
 co:sc.isCoroutine=false:=by rfl
 gen:sc.isGenerator=false:=by rfl
 nd:N.Nodup:=by decide +kernel
 pre:N.take P.length=P:=by rfl
 par:∀x∈P,sc.names.lookup x=some .local\/sc.names.lookup x=some .cell:=by decide +kernel
 nofree:∀y∈sc.names,y.2≠.free:=by decide +kernel
theorem ae0{kindOf:Str->Option aM}{x:Str}:∀{binds:Z9 (Str×aA)} {m:Str->Option aA},(∀v,(x,v)∉binds)->rV kindOf binds m x=m x
 | [],_,_=>rfl
 | (n,v)::r,m,h=>by
  unfold rV;rw[ae0 λw hw=>h w<|ak _ hw];split
  .have:x≠n:=by rintro rfl;exact h v aj
   simp[this]
  .rfl
theorem afq{kindOf:Str->Option aM}{x:Str}:∀{binds:Z9 (Str×aA)} {m:Str->Option aA},(∀v,(x,v)∉binds)->rW kindOf binds m x=m x
 | [],_,_=>rfl
 | (n,v)::r,m,h=>by
  unfold rW;rw[afq λw hw=>h w<|ak _ hw];split
  .rfl
  .have:x≠n:=by rintro rfl;exact h v aj
   simp[this]
theorem aek{kindOf:Str->Option aM}{x:Str}{v:aA}:∀{P:Z9 Str} {vs:Z9 aA} {i:Nat} {m:Str->Option aA},P.Nodup->P[i]?=some x->vs[i]?=some v->kindOf x=some .local->
  rV kindOf (P.zip vs) m x=some v
 | [],_,_,_,_,h,_,_=>by simp at h
 | _::_,[],_,_,_,_,h,_=>by simp at h
 | p::P,w::vs,0,m,nd,h1,h2,hk=>by simp at h1 h2;subst h1;subst h2;show rV kindOf ((p,w)::P.zip vs) m p=_;unfold rV;rw[ae0 λv hv=>(ii.mp nd).1 (List.of_mem_zip hv).1,if_pos hk];simp
 | p::P,w::vs,i+1,m,nd,h1,h2,hk=>by show rV kindOf ((p,w)::P.zip vs) m x=_;unfold rV;exact aek (i:=i) (ii.mp nd).2 (by simpa using h1) (by simpa using h2) hk
theorem afl{kindOf:Str->Option aM}{x:Str}{v:aA}:∀{P:Z9 Str} {vs:Z9 aA} {i:Nat} {m:Str->Option aA},P.Nodup->P[i]?=some x->vs[i]?=some v->kindOf x≠some .local->
  rW kindOf (P.zip vs) m x=some v
 | [],_,_,_,_,h,_,_=>by simp at h
 | _::_,[],_,_,_,_,h,_=>by simp at h
 | p::P,w::vs,0,m,nd,h1,h2,hk=>by simp at h1 h2;subst h1;subst h2;show rW kindOf ((p,w)::P.zip vs) m p=_;unfold rW;rw[afq λv hv=>(ii.mp nd).1 (List.of_mem_zip hv).1,if_neg hk];simp
 | p::P,w::vs,i+1,m,nd,h1,h2,hk=>by show rW kindOf ((p,w)::P.zip vs) m x=_;unfold rW;exact afl (i:=i) (ii.mp nd).2 (by simpa using h1) (by simpa using h2) hk
noncomputable def vH(N:Z9 Str)(vs:Z9 V):St:=vs.map some++fu (N.length-vs.length) none
noncomputable def tN(CX:CXT)(P:aI)(w:aJ)(K:aq)(mg:Str->Option aA)(base:Heap)(N:Z9 Str)(qual:Str)(scope:bV)(f:aF)(cd:aA)(A:Around)(outer:Z9 kX)(s:aB)(H:Hp)(E:XK):Cx where
 prog:=P
 w:=w
 K:=K
 mg:=mg
 base:=base
 A:=A.deeper (bO qual scope s.heap.objs.size f cd)
 N:=N
 s₀:=s
 H₀:=H
 env:=bO qual scope s.heap.objs.size f cd
 outer:=outer
 stack:=bO qual scope s.heap.objs.size f cd::outer
 ex:=[]
 calm:=true
 fn:=λ_=>true
 pn:=[]
 xe:=λe s'=>wpAny (aG P w) (A.deeper<|bO qual scope s.heap.objs.size f cd) (leaving (bO qual scope s.heap.objs.size f cd) e) (λ_ yD=>CX outer H s E e yD) (λe' yD=>CX outer H s E e' yD) s'
def ahg{sc:bV}{n:Nat}{x:Str}(h:sc.names.lookup x=some .cell):∃c,(Fu n sc.names []).lookup x=some c:=by have q:=PySem.W.cellsFrom_some sc.names n []<|.inl h;exact Option.isSome_iff_exists.mp q
theorem alt{CX:CXT}{P:aI}{w:aJ}{K:aq}{mg:Str->Option aA}{base:Heap}{N ps:Z9 Str}{qual:Str}{scope:bV}{f:aF}{cd:aA}{A:Around}{outer:Z9 kX}{s s1:aB}{H:Hp}{E:XK}{us:Z9 aA}{vs:Z9 V}
  (S:lz N ps scope) (hd:A.handled=none) (e0:FD P w K mg base A outer s H) (hl:vs.length=ps.length) (r:Vals vs us)
  (x:InCallC s s.heap.objs.size (rV (bO qual scope s.heap.objs.size f cd).kindOf (ps.zip us) λ_=>none) (Fu (s.heap.objs.size+1) scope.names []) (rW (bO qual scope s.heap.objs.size f cd).kindOf (ps.zip us) λ_=>none) s1) :
  Inv (tN CX P w K mg base N qual scope f cd A outer s H E) [] (vH N vs) H s1:=by
 have fQ:ps.length<=N.length:=by have:=congrArg List.length S.pre;rw[cq]at this;lia
 obtain⟨h1,tk,rfl,hk⟩:=x.done;have BX:∀b:aF,b∉(tN CX P w K mg base N qual scope f cd A outer s H E).ex:=λb z=>absurd (show b∈([]:Z9 aF)from z) (by simp);refine⟨⟨e0.mod,S.kind,rfl,rfl,av _,λy z c h1 h2=>?_,λy hy=>?_,λy c _ h=>?_,λ_=>hd,Around.frames_deeper e0.frames,.inr ⟨rfl,rfl⟩,λb z=>absurd z<|BX b,e0.bs,e0.bsz,λb _ _=>BX b,λb z=>absurd z<|BX b,e0.funs,e0.frf⟩,
  rfl,e0.bare,Un.kept hk,⟨_,x.toInCall.ns,λi y v h1 h2 h3=>?_⟩,λy c h=>⟨_,x.cell y c h⟩,e0.hok.fresh<|av _,λy c h=>?_,λp hp=>absurd (show p∈([]:Z9 (aF×Obj))from hp)<|by simp,e0.hok.kept hk,?_⟩
 .exact name_of_addr x.apart (iu h1)<|iu h2
 .have hy:scope.names.lookup y=some .cell\/scope.names.lookup y=some .free:=hy;rcases hy with hy|hy
  .exact ahg hy
  .exact absurd rfl<|S.nofree _<|iu hy
 .exact cb<|x.above y c<|iu h
 .have hi:i<vs.length:=by
   unfold vH at h2;by_cases hi:i<vs.length
   .exact hi
   .rw[cg (by simpa using hi)]at h2;rw[List.getElem?_replicate]at h2;split at h2<;>cases h2
  have ha:vs[i]?=some v:=by
   unfold vH at h2;rw[de (by simpa using hi),au]at h2;cases e:vs[i]? with
   | none=>rw[e]at h2;cases h2
   | some a=>rw[e]at h2;cases h2;rfl
  obtain⟨u,hu,rv⟩:=r.get ha;have hp:ps[i]?=some y:=by rw[<-S.pre,g9<|by lia];exact h1
  have ndP:ps.Nodup:=by rw[<-S.pre];exact S.nd.sublist<|List.take_sublist _ _
  refine⟨u,rv,?_⟩;rcases S.par y (ah hp)with k|k
  .exact .inl ⟨k,aek ndP hp hu k⟩
  .obtain⟨c,e⟩:=ahg (n:=s.heap.objs.size+1) k;refine .inr ⟨.inl k,c,e,?_⟩;have q:=x.cell y c e;rw[afl ndP hp hu (by show scope.names.lookup y≠_;rw[k];decide)]at q;exact q
 .exact e0.hok.fresh<|cb<|x.above y c<|iu h
 .unfold vH;show _=N.length;rw[a9,af,List.length_replicate];lia
theorem aus{CX:CXT}{P:aI}{w:aJ}{K:aq}{mg:Str->Option aA}{base:Heap}{k:Nat}{f:aF}{name qual:Str}{params:Arguments}{body:Z9 aO}{scope:bV}{dV kV gS pm bE ct oc:aA}{an od:Option aF}
  {pZ:Array (Option aA)} {N ps:Z9 Str} {sp:Sp} (lk:K.lookup f=some ⟨oc,od,.func<|jv name qual params body scope dV kV gS pm an bE ct,pZ⟩) (nI:PySem.W.codeIn K bE qual=true) (S:lz N ps scope)
  (len:∀vs H Q E,sp vs H Q E->vs.length=ps.length)
  (kR:∀(A:Around)(outer:Z9 kX)(s:aB)(H:Hp)(vs:Z9 V)(Q:VK)(E:XK),Room k (A.deeper<|bO qual scope s.heap.objs.size f bE)->sp vs H Q E->
   ∃t,PSs (tN CX P w K mg base N qual scope f bE A outer s H E) body t/\t {nx:=λ_ H'=>Q .non H',rt:=Q} (vH N vs) H) :
  FnOk P w K mg base CX (k+1) f (jv name qual params body scope dV kV gS pm an bE ct) ps sp:=by
 refine⟨len,λA outer s H args us vs Q E hr e0 hb r fP=>?_⟩;have hl:=len _ _ _ _ fP;have KX:K.In s.heap:=e0.mod.kin.keeps λb o e=>(e0.bs b o e).1;have lim:s.heap.NoLimit:=e0.mod.nolimit.keeps λb o e=>(e0.bs b o e).1;have eK:∀y∈ps.zip us,scope.names.lookup y.1=some .local\/(scope.names.lookup y.1=some .cell/\((Fu (s.heap.objs.size+1) scope.names []).lookup y.1).isSome=true):=λ⟨n,v⟩ hy=>by
  rcases S.par n (List.of_mem_zip hy).1 with q|q
  .exact .inl q
  .exact .inr ⟨q,PySem.W.cellsFrom_some _ _ _<|.inl q⟩
 refine codeAny_call_function hr.depth (KX _ _ lk) rfl S.co S.gen rfl (PySem.W.codeRec_of KX nI)<|hb _ _ _ _ ?_;refine wpAny_newFunctionEnv_cells S.kind eK λenv he s1 x=>?_;subst he;refine⟨lim.keeps x.toInCall.keep,codeAny_func ?_⟩;obtain⟨t,ht,hq⟩:=kR A outer s H vs Q E (hr.deeper _) fP;have I:Inv (tN CX P w K mg base N qual scope f bE A outer s H E) [] (vH N vs) H s1:=alt S hr.hd e0 hl r x;refine jj (ht [] s1 (vH N vs) H _ I hq) (λfl s' hs=>?_) λe s' hs=>hs;have cS:∀{σ':St} {H':Hp} {v:V} {u:aA},Inv (tN CX P w K mg base N qual scope f bE A outer s H E) [] σ' H' s'->RelV v u->Q v H'->CE outer P w H s Q u s':=
  λ{σ' H' v u} J rv q=>⟨v,H',J.os,J.bare,J.base,J.hok,rv,q⟩
 cases fl with
 | ret u=>
  obtain⟨v,σ',H',J,rv,q⟩:=hs;exact cS J rv q
 | next=>
  obtain⟨σ',H',J,q⟩:=hs;exact cS (v:=V.non) (u:=aA.none) J rfl q
 | brk=>
  obtain⟨_,_,_,q⟩:=hs;exact iq q
 | cont=>
  obtain⟨_,_,_,q⟩:=hs;exact iq q
section
variable{X:Cx}{x:Str}{p pos:cU}{e:Expr}{es:Z9 Expr}{t:TA}{id T:String}{r:Z9 V->Hp->VK->Prop}
def tCB(r:Z9 V->Hp->VK->Prop)(t:TA):TE:=λσ H Q=>t σ H λvs H1=>r vs H1 Q
def ap6(hc:qj X (.builtin id) r)(hg:Gl X x)(hm:X.mg x=none)(hv:bP x=some (.builtin id))(ha:PA X (e::es) t)(hn:x≠"__name__":=by decide)(kQ:(x==("__debug__" : Str))=false:=by decide)
  (he:aK (e::es) X.env=(false,bL e X.env)::aK es X.env:=by rfl) (fQ:(bA pos<|aK es X.env).any (·.1)=false:=by rfl):PE X (.Call (.Name x p) (e::es) [] pos) (tCB r t):=by
 intro aE s σ H Q I h;refine gi<|ur I hg hm hv ?_ hn kQ;exact jw (thn (ha pos aE s σ H _ I h) λus s1 ⟨vs,H1,I1,r1,q1⟩=>hc aE s1 σ H1 vs us Q I1 r1 q1) he fQ
def am5(hc:qj X (.type T) r)(hg:Gl X x)(hm:X.mg x=none)(hv:bP x=some (.type T))(ha:PA X (e::es) t)(hn:x≠"__name__":=by decide)(kQ:(x==("__debug__" : Str))=false:=by decide)
  (he:aK (e::es) X.env=(false,bL e X.env)::aK es X.env:=by rfl) (fQ:(bA pos<|aK es X.env).any (·.1)=false:=by rfl):PE X (.Call (.Name x p) (e::es) [] pos) (tCB r t):=by
 intro aE s σ H Q I h;refine gi<|ur I hg hm hv ?_ hn kQ;exact f8 (thn (ha pos aE s σ H _ I h) λus s1 ⟨vs,H1,I1,r1,q1⟩=>hc aE s1 σ H1 vs us Q I1 r1 q1) he fQ
end
end L2
namespace HT
open PySem PyProof.Rows
section
variable{prog:aI}{w:aJ}{A:Around}{E:aA->aB->Prop}{s:aB}
noncomputable def sIx(n d:Nat):Option Int->Nat
 | none=>d
 | some v=>if v<0 then(v+(n:Int)).toNat else lB v.toNat n
def sIx_none(n d:Nat):sIx n d none=d:=rfl
def sIx_nat(n d k:Nat):sIx n d (some (k:Int))=lB k n:=by show(if (k:Int)<0 then((k:Int)+(n:Int)).toNat else lB (k:Int).toNat n)=lB k n;rw[if_neg (by lia),ia]
end
end HT
namespace L2
open PySem PySem.Spec PyProof.Rows
abbrev TO:=St->Hp->(Option Int->Hp->Prop)->Prop
def PO(X:Cx)(e:Option Expr)(t:TO):Prop:=
 ∀(aE:Z9 (aF×Obj)) (s:aB) (σ:St) (H:Hp) (Q:Option Int->Hp->Prop),Inv X aE σ H s->t σ H Q->
  wpAny (aG X.prog X.w) X.A (evalPart e X.env) (λu s'=>∃o H',Inv X aE σ H' s'/\IsPart u o/\Q o H') X.xe s
noncomputable def ane:TO:=λ_ H Q=>Q none H
noncomputable def ayy(t:TE):TO:=λσ H Q=>t σ H λx H1=>∃i,x=.int i/\Q (some i) H1
theorem zm{ns:Z9 Int}:∀{us:Z9 aA},Vals (ns.map V.int) us->fB us ns:=by
 induction ns with
 | nil=>intro us r;rw[List.map_nil]at r;cases r;exact .nil
 | cons n ns ih=>
  intro us r;rw[cy]at r;cases r with
  | cons r1 r2=>
   obtain⟨t,e⟩:=r1;subst e;exact .cons n t<|ih r2
section
variable{X:Cx}{e:Expr}{te:TE}{lo hi:Option Expr}{tl th:TO}{pos p2:cU}
def oo:PO X none ane:=by intro aE s σ H Q I h;rw[evalPart_none];exact ao ⟨none,H,I,.none,h⟩
def ot(h:PE X e te):PO X (some e) (ayy te):=by intro aE s σ H Q I hw;rw[evalPart_some];refine thn (h aE s σ H _ I hw) λu s1 ⟨x,H1,I1,r1,q1⟩=>?_;obtain⟨i,rfl,q⟩:=q1;obtain⟨t,rfl⟩:=r1;exact⟨some i,H1,I1,.int i t,q⟩
def SlR(X:Cx)(r:V->Option Int->Option Int->Hp->VK->Prop):Prop:=
 ∀(aE:Z9 (aF×Obj)) (s:aB) (σ:St) (H:Hp) (x:V) (v vl vu:aA) (lo hi:Option Int) (sl:aF) (Q:VK),Inv X aE σ H s->RelV x v->s.heap.IsSliceOf sl vl vu .none->IsPart vl lo->IsPart vu hi->r x lo hi H Q->
  ∃T id,typeLookup (.type T) "__getitem__" = bJ (some<|.builtin id)/\s.TypeIs v T/\wpAny (aG X.prog X.w) X.A (getItem v<|.ref sl) (EP X aE σ Q) X.xe s
def tSl(r:V->Option Int->Option Int->Hp->VK->Prop)(te:TE)(tl th:TO):TE:=λσ H Q=>te σ H λx H1=>tl σ H1 λl H2=>th σ H2 λu H3=>r x l u H3 Q
def nq{r:V->Option Int->Option Int->Hp->VK->Prop}(hr:SlR X r)(he:PE X e te)(hl:PO X lo tl)(hu:PO X hi th):PE X (.Subscript e (.Slice lo hi none p2) pos) (tSl r te tl th):=by intro aE s σ H Q I h;refine Subscript_<|thn (he aE s σ H _ I h) λv s1 ⟨x,H1,I1,r1,q1⟩=>?_;refine wpAny_Slice<|thn (hl aE s1 σ H1 _ I1 q1) λvl s2 ⟨l,H2,I2,pl,q2⟩=>thn (hu aE s2 σ H2 _ I2 q2) λvu s3 ⟨u,H3,I3,pu,q3⟩=>?_;rw[evalPart_none];refine ao ?_;have I4:Inv X aE σ H3 {s3 with heap:=s3.heap.push {cls:=.type "slice",data:=.fields #[vl,vu,.none]}}:=I3.kept (t':=s3.toks) λb ob q=>ai _ q;obtain⟨T,id,hT,ht,hg⟩:=hr aE {s3 with heap:=s3.heap.push {cls:=.type "slice",data:=.fields #[vl,vu,.none]}} σ H3 x v vl vu l u s3.heap.objs.size Q I4 r1 (Heap.IsSliceOf.new ..) pl pu q3;show wpAny (aG X.prog X.w) X.A (subscriptTail e (.Slice lo hi none p2) v<|.ref s3.heap.objs.size) (EP X aE σ Q) X.xe {s3 with heap:=s3.heap.push {cls:=.type "slice",data:=.fields #[vl,vu,.none]}};exact tail_any (ops:=[.ref s3.heap.objs.size,v]) ht hT hg<|by with_unfolding_all rfl
noncomputable def gY(xs:Z9 V)(lo hi:Option Int):Z9 V:=(xs.drop<|HT.sIx xs.length 0 lo).take (HT.sIx xs.length xs.length hi-HT.sIx xs.length 0 lo)
def af4(xs:Z9 V)(lo hi:Option Int):(gY xs lo hi).length<=xs.length:=by unfold gY;rw[cq,gl];lia
end
noncomputable def ixN(n:Nat)(i:Int):Option Nat:=if 0<=i then(if i<n then some i.toNat else none)else if -(n:Int)<=i then some (i+n).toNat else none
noncomputable def atI{α:Type}(xs:List α)(i:Int):Option α:=(ixN xs.length i).bind λj=>xs[j]?
def LH{n:Nat}{i:Int}{j:Nat}(h:ixN n i=some j):Eo i n=some j/\j<n/\-(n:Int)<=i/\i<n:=by
 unfold ixN at h;by_cases h0:0<=i
 .rw[if_pos h0]at h;by_cases h1:i<n
  .rw[if_pos h1]at h;have e:i.toNat=j:=cn h;exact⟨by rw[vP h0 h1,e],by lia,by lia,h1⟩
  .rw[if_neg h1]at h;cases h
 .rw[if_neg h0]at h;by_cases h1:-(n:Int)<=i
  .rw[if_pos h1]at h;have e:(i+n).toNat=j:=cn h;exact⟨by rw[sR (by lia) h1,e],by lia,h1,by lia⟩
  .rw[if_neg h1]at h;cases h
theorem LI{α:Type}{xs:List α}{i:Int}{v:α}(h:atI xs i=some v):∃j,Eo i xs.length=some j/\xs[j]?=some v/\j<xs.length/\-(xs.length:Int)<=i/\i<xs.length:=by
 unfold atI at h;cases e:ixN xs.length i with
 | none=>rw[e]at h;cases h
 | some j=>
  rw[e]at h;obtain⟨h1,h2,h3,h4⟩:=LH e;exact⟨j,h1,h,h2,h3,h4⟩
def my{α:Type}{xs:List α}{j:Nat}{v:α}(h:xs[j]?=some v):atI xs (j:Int)=some v:=by
 have hj:j<xs.length:=(ar.mp h).1;have e:ixN xs.length (j:Int)=some j:=by unfold ixN;rw[if_pos (by lia),if_pos<|by lia];simp
 unfold atI;rw[e];exact h
def atg(b:Expr):Prop:=∀o i,subscripted b false o i=operate [o,i] (getItem o i)
def IxR(X:Cx)(r:R2):Prop:=
 ∀(value slice:Expr) (aE:Z9 (aF×Obj)) (s:aB) (σ:St) (H:Hp) (x y:V) (v u:aA) (Q:VK),Inv X aE σ H s->RelV x v->RelV y u->r x y H Q->
  subscripted slice false v u=operate [v,u] (getItem v u)->wpAny (aG X.prog X.w) X.A (subscriptTail value slice v u) (EP X aE σ Q) X.xe s
def MtR(X:Cx)(id:String)(r:V->Z9 V->Hp->VK->Prop):Prop:=
 ∀(aE:Z9 (aF×Obj)) (s:aB) (σ:St) (H:Hp) (x:V) (xs:Z9 V) (v:aA) (us:Z9 aA) (Q:VK),Inv X aE σ H s->RelV x v->Vals xs us->r x xs H Q->
  wpAny (aG X.prog X.w) X.A (call (.builtin id) (v::us)) (EP X aE σ Q) X.xe s
section
variable{X:Cx}{a b:Expr}{ta tb:TE}{pos:cU}
def m7{r:R2}(hr:IxR X r)(ha:PE X a ta)(hb:PE X b tb)(hs:atg b):PE X (.Subscript a b pos) (tOp r ta tb):=by intro aE s σ H Q I h;exact Subscript_<|JY ha hb I h λv u s2 x y H2 I2 rx ry q=>hr a b aE s2 σ H2 x y v u Q I2 rx ry q<|hs _ _
def a0e(K:aq):R2:=λx y H Q=>∃p xs i v,x=.ref p/\y=.int i/\SqL K H p xs/\atI xs i=some v/\Q v H
def DE(K:aq):R2:=λx y H Q=>∃p xs i v,x=.ref p/\y=.int i/\SqT K H p xs/\atI xs i=some v/\Q v H
def a0v:R2:=λx y H Q=>∃z i c,x=.str z/\y=.int i/\z.length<=aC/\atI z.cps.toList i=some c/\Q (.str ⟨#[c]⟩) H
def nh:IxR X (a0e X.K):=by
 intro value slice aE s σ H x y v u Q I rx ry h hs;obtain⟨p,xs,i,z,rfl,rfl,hq,he,q⟩:=h;cases rx;obtain⟨t,rfl⟩:=ry;obtain⟨its,r,pl,hz⟩:=I.list hq;obtain⟨j,h1,h2,h3,h4,h5⟩:=LI he;obtain⟨w,ew,pR⟩:=r.get h2;have hl:=r.length;have hn:=Ao;have cS:EP X aE σ Q w s:=⟨z,H,I,pR,q⟩;by_cases h0:0<=i
 .have hj:i.toNat=j:=by
   rw[vP h0 h5]at h1;exact cn h1
  exact item_listR pl.isList h0 (by lia) (by rw[hj];simpa using ew) cS hs
 .have hj:(i+(its.toArray.size:Int)).toNat=j:=by
   rw[sR (by lia) h4]at h1;rw[be,<-hl];exact cn h1
  exact sQ (x:=w) pl.isList.typeIs slot_list_getitem.lookup
   (wpAny_getItem_list_neg (Q:=λr s'=>r=w/\EP X aE σ Q r s') pl.isList (by lia) (by rw[be]<;>lia) (by lia) (by rw[hj];simpa using ew) ⟨rfl,cS⟩) hs
def qw:IxR X (DE X.K):=by
 intro value slice aE s σ H x y v u Q I rx ry h hs;obtain⟨p,xs,i,z,rfl,rfl,hq,he,q⟩:=h;cases rx;obtain⟨t,rfl⟩:=ry;obtain⟨its,r,pl,hz⟩:=I.tuple hq;obtain⟨j,h1,h2,h3,h4,h5⟩:=LI he;obtain⟨w,ew,pR⟩:=r.get h2;have hl:=r.length;have hn:=Ao;have cS:EP X aE σ Q w s:=⟨z,H,I,pR,q⟩;exact sQ (x:=w) pl.typeIs slot_tuple_getitem.lookup
  (getItem_tuple (j:=j) (Q:=λr s'=>r=w/\EP X aE σ Q r s') pl (by lia) (by lia) (by rw[be,<-hl];exact h1) (by simpa using ew) ⟨rfl,cS⟩) hs
def Bq:IxR X a0v:=by
 intro value slice aE s σ H x y v u Q I rx ry h hs;obtain⟨z,i,c,rfl,rfl,hz,he,q⟩:=h;obtain⟨t,rfl⟩:=rx;obtain⟨t',rfl⟩:=ry;obtain⟨j,h1,h2,h3,h4,h5⟩:=LI he;have hl:z.cps.toList.length=z.length:=by simp[Str.length]
 rw[hl]at h1 h4 h5;have hn:=Ao;exact tail_any (cY s z t) slot_str_getitem.lookup (getItem_str (c:=c) (by
  have e1:decide (i < -(2^63:Int))=false:=decide_eq_false (by lia);have e2:decide (i>=2^63)=false:=decide_eq_false (by lia);rw[e1,e2,Bool.or_false]) (by rw[h1];simpa using h2) ⟨.str ⟨#[c]⟩,H,I.tok _,⟨_,rfl⟩,q⟩) hs
def ait(its:Z9 aA)(n j:Nat)(u:aA):ir (·.setIfInBounds j u) {cls:=.type "list",data:=.seq its.toArray n}={cls:=.type "list",data:=.seq (its.set j u).toArray n}:=by simp[ir]
theorem Inv.lst{aE:Z9 (aF×Obj)}{σ:St}{H:Hp}{s:aB}{p:aF}{xs:Z9 V}(I:Inv X aE σ H s)(h:H p=some (.lst xs)) :
  ∃(its:Z9 aA)(n:Nat),Vals xs its/\s.heap.get? p=some {cls:=.type "list",data:=.seq its.toArray n}/\xs.length<=aC:=by
 obtain⟨z,its,n,r,e⟩:=I.hok p _ h;exact⟨its,n,r,e,z⟩
def Inv.lstUpd{aE:Z9 (aF×Obj)}{σ:St}{H:Hp}{s:aB}{p:aF}{xs ys:Z9 V}{its its':Z9 aA}{n n':Nat}{f:Obj->Obj}(I:Inv X aE σ H s)(h:H p=some (.lst xs))
  (ho:s.heap.get? p=some {cls:=.type "list",data:=.seq its.toArray n}) (hf:f {cls:=.type "list",data:=.seq its.toArray n}={cls:=.type "list",data:=.seq its'.toArray n'}) (r:Vals ys its') (hz:ys.length<=aC) (t:Nat) :
  Inv X aE σ (upd H p<|.lst ys) {s with heap:=s.heap.update p f,toks:=t}:=by
 have e:(s.heap.update p f).get? p=some {cls:=.type "list",data:=.seq its'.toArray n'}:=by rw[dq f ho (by rw[hf]<;>rfl),hf]
 refine I.write (x:=p) (e:=p) (by rw[h];trivial) (.inl rfl) (λb u hb q=>(c6 _ _<|Ne.symm hb).trans q) ⟨_,e⟩ ?_;exact⟨hz,its',n',r,e⟩
def ayn:V->V->V->Hp->(Hp->Prop)->Prop:=λo i v H Q=>∃p xs k j,o=.ref p/\i=.int k/\H p=some (.lst xs)/\ixN xs.length k=some j/\Q (upd H p<|.lst<|xs.set j v)
def F7:a0h X ayn:=by
 intro aE s σ H o i v ov iv u Q I ro ri rv h;obtain⟨p,xs,k,j,rfl,rfl,hp,hj,q⟩:=h;cases ro;obtain⟨t,rfl⟩:=ri;obtain⟨its,n,r,ho,hz⟩:=I.lst hp;obtain⟨h1,h2,h3,h4⟩:=LH hj;have hl:=r.length;have hn:=Ao;have I':Inv X aE σ (upd H p<|.lst<|xs.set j v) {s with heap:=s.heap.update p<|ir (·.setIfInBounds j u)}:=
  I.lstUpd hp ho (ait its n j u) (r.set rv j) (by rw[List.length_set];exact hz) s.toks
 by_cases h0:0<=k
 .have hk:k.toNat=j:=by
   rw[vP h0 h4]at h1;exact cn h1
  exact PySem.W.ki_setAt ho h0 (by lia) (by rw[be,<-hl];exact h4)<|by rw[hk];exact⟨_,I',q⟩
 .have hk:(k+(its.toArray.size:Int)).toNat=j:=by
   rw[sR (by lia) h3]at h1;rw[be,<-hl];exact cn h1
  exact PySem.W.ki_setBack ho (by lia) (by rw[be,<-hl];exact h3) (by lia)<|by rw[hk];exact⟨_,I',q⟩
theorem ae2(lo hi:Option Int)(n:Nat):(dB lo hi none n).1=((HT.sIx n 0 lo:Nat):Int)/\(dB lo hi none n).2.1=((HT.sIx n n hi:Nat):Int)/\(dB lo hi none n).2.2=1:=by
 refine⟨?_,?_,rfl⟩
 .cases lo with
  | none=>simp[dB,HT.sIx]
  | some i=>
   simp only[dB,HT.sIx,Option.getD_none,show(1:Int)>0 by decide,if_true];by_cases h:i<0
   .simp only[h,if_true]<;>lia
   .simp only[h,if_false]<;>lia
 .cases hi with
  | none=>simp[dB,HT.sIx]
  | some i=>
   simp only[dB,HT.sIx,Option.getD_none,show(1:Int)>0 by decide,if_true];by_cases h:i<0
   .simp only[h,if_true]<;>lia
   .simp only[h,if_false]<;>lia
def ac8(its:Z9 aA)(lo hi:Option Int):slicePick its.toArray lo hi none=((its.drop<|HT.sIx its.length 0 lo).take (HT.sIx its.length its.length hi-HT.sIx its.length 0 lo)).toArray:=by obtain⟨h1,h2,h3⟩:=ae2 lo hi its.toArray.size;unfold slicePick;rw[h1,h2,h3];simp only[sliceRange_one,pick_run,be]<;>rfl
def a0b(K:aq):V->Option Int->Option Int->Hp->VK->Prop:=λx lo hi H Q=>∃a xs,x=.ref a/\SqL K H a xs/\∀p,H p=none->Q (.ref p) (upd H p<|.lst<|gY xs lo hi)
def o5:SlR X (a0b X.K):=by intro aE s σ H x v vl vu lo hi sl Q I rx hs pl pu h;obtain⟨a,xs,rfl,hx,q⟩:=h;cases rx;obtain⟨its,r,ht,hz⟩:=I.list hx;have aU:=r.length;refine⟨"list",_,slot_list_getitem.lookup,ht.isList.typeIs,?_⟩;refine wpAny_getItem_list_slice ht.isList hs pl pu .none (by simp) ?_ (by rw[be]<;>lia);rw[ac8,<-aU];refine⟨.ref s.heap.objs.size,_,I.laid (t':=s.toks) (o:=.lst<|gY xs lo hi) (λb ob q=>ai _ q) (av _) ?_,rfl,q _<|I.hok.fresh<|av _⟩;exact⟨fj (af4 xs lo hi) hz,_,0,(r.drop<|HT.sIx xs.length 0 lo).take (HT.sIx xs.length xs.length hi-HT.sIx xs.length 0 lo),ba _ rfl⟩
def m5:qj X (.builtin "len") (λxs H Q=>∃p ys,xs=[.ref p]/\(SqL X.K H p ys\/SqT X.K H p ys)/\Q (.int ys.length) H):=by
 intro aE s σ H xs us Q I r h;obtain⟨p,ys,rfl,hq,q⟩:=h;obtain⟨u,rfl,rx⟩:=se r;cases rx;have hn:=Ao;rcases hq with hq|hq
 .obtain⟨its,r',pl,hz⟩:=I.list hq;have aU:=r'.length;exact Calls.call_len_list pl.isList (by simp only[be]<;>lia) ⟨.int ys.length,H,I.tok _,⟨s.toks+1,by rw[be,aU]⟩,q⟩
 .obtain⟨its,r',pl,hz⟩:=I.tuple hq;have aU:=r'.length;exact len_tuple pl (by simp only[be]<;>lia) ⟨.int ys.length,H,I.tok _,⟨s.toks+1,by rw[be,aU]⟩,q⟩
def nz:qj X (.builtin "len") (λxs H Q=>∃z,xs=[.str z]/\z.length<=aC/\Q (.int z.length) H):=by intro aE s σ H xs us Q I r h;obtain⟨z,rfl,hz,q⟩:=h;obtain⟨u,rfl,t,rfl⟩:=se r;have hn:=Ao;exact len_str (by lia) ⟨.int z.length,H,I.tok _,⟨_,rfl⟩,q⟩
def afn:qj X (.type "list") (λxs H Q=>∃p ys,xs=[.ref p]/\(SqL X.K H p ys\/SqT X.K H p ys)/\∀l,H l=none->Q (.ref l) (upd H l<|.lst ys)):=by
 intro aE s σ H xs us Q I r h;obtain⟨p,ys,rfl,hq,q⟩:=h;obtain⟨u,rfl,rx⟩:=se r;cases rx;have cS:∀(its:Z9 aA),Vals ys its->ys.length<=aC->∀(h':Heap)(c':Nat),(∀b o',s.heap.get? b=some o'->h'.get? b=some o')->
   h'.get? s.heap.objs.size=some {cls:=.type "list",dict:=none,data:=.seq its.toArray c',slots:=#[]}->EP X aE σ Q (.ref s.heap.objs.size) {s with heap:=h'}:=λits r' hz h' c' kp e=>
  ⟨.ref s.heap.objs.size,_,I.laid (t':=s.toks) kp (av _) (show ObjOk X.prog X.w _ h' _ (.lst ys)from ⟨hz,its,c',r',e⟩),rfl,q _<|I.hok.fresh<|av _⟩
 rcases hq with hq|hq
 .obtain⟨its,r',pl,hz⟩:=I.list hq;have aU:=r'.length;obtain⟨o,ho,hc,n,hd⟩:=pl.isList;exact call_list_seq p (.inl rfl) ho hc hd (λh' c' kp e=>cS its r' hz h' c' kp e)<|by simp only[be]<;>lia
 .obtain⟨its,r',pl,hz⟩:=I.tuple hq;have aU:=r'.length;obtain⟨o,ho,hc,n,hd⟩:=pl;exact call_list_seq p (.inr rfl) ho hc hd (λh' c' kp e=>cS its r' hz h' c' kp e)<|by simp only[be]<;>lia
def oh:qj X (.type "tuple") (λxs H Q=>∃p ys,xs=[.ref p]/\((SqL X.K H p ys/\∀l,H l=none->Q (.ref l) (upd H l<|.tup ys))\/(SqT X.K H p ys/\Q (.ref p) H))):=by
 intro aE s σ H xs us Q I r h;obtain⟨p,ys,rfl,h⟩:=h;obtain⟨u,rfl,rx⟩:=se r;cases rx;rcases h with ⟨hq,q⟩|⟨hq,q⟩
 .obtain⟨its,r',pl,hz⟩:=I.list hq;have aU:=r'.length;refine call_tuple_list pl.isList (λh' kp=>?_) (by simp only[be]<;>lia);have I1:Inv X aE σ H {s with heap:=h'}:=I.kept (t':=s.toks) kp;have I2:Inv X aE σ (upd H h'.objs.size<|.tup ys) {s with heap:=h'.push {cls:=.type "tuple",data:=.seq its.toArray}}:=
   I1.laid (t':=s.toks) (λb o e=>ai _ e) (av _) (show ObjOk X.prog X.w _ _ _ (.tup ys)from ⟨hz,its,r',IsTup.new _ _⟩)
  exact⟨.ref h'.objs.size,_,I2,rfl,q _<|I1.hok.fresh<|av _⟩
 .obtain⟨its,r',pl,hz⟩:=I.tuple hq;exact call_tuple_same pl ⟨.ref p,H,I,rfl,q⟩
def tyV(K:aq)(T:String)(x:V)(H:Hp):Prop:=match x with
 | .str _=>T="str"
 | .int _=>T="int"
 | .ref p=>(T="list"/\∃xs,SqL K H p xs)\/(T="tuple"/\∃o,K.lookup p=some o/\o.cls=.type "tuple"/\o.dict=none)\/
   (T="dict"/\((∃aL,H p=some (.dK aL))\/∃aL,H p=some (.dT aL)))\/(T="set"/\∃S n,H p=some (.set S n))
 | _=>False
theorem avk{aE:Z9 (aF×Obj)}{σ:St}{H:Hp}{s:aB}{T:String}{x:V}{v:aA}(I:Inv X aE σ H s)(r:RelV x v)(ty:tyV X.K T x H) :
  s.TypeIs v T/\∀a,v=.ref a->∃ob,s.heap.get? a=some ob/\ob.dict=none:=by
 cases x with
 | str z=>
  obtain⟨t,rfl⟩:=r;cases (show T="str" from ty);exact⟨cY s z t,λ_ e=>nomatch e⟩
 | int i=>
  obtain⟨t,rfl⟩:=r;cases (show T="int" from ty);exact⟨AC s i t,λ_ e=>nomatch e⟩
 | ref p=>
  cases r;rcases ty with ⟨rfl,xs,hq⟩|⟨rfl,o,hk,hc,hd⟩|⟨rfl,hk⟩|⟨rfl,S,n,hk⟩
  .obtain⟨its,_,pl,_⟩:=I.list hq;refine⟨pl.isList.typeIs,λa e=>?_⟩;cases e;obtain⟨o,n,e,c,hd,_⟩:=pl;exact⟨o,e,hd⟩
  .refine⟨⟨o,I.kIn p o hk,hc⟩,λa e=>?_⟩;cases e;exact⟨o,I.kIn _ o hk,hd⟩
  .have z:∃o,s.heap.get? p=some o/\o.ExactDict:=by
    rcases hk with ⟨aL,hk⟩|⟨aL,hk⟩
    .obtain⟨_,_,_,_,o,_,_,e,ex,_⟩:=I.hok p _ hk;exact⟨o,e,ex⟩
    .obtain⟨_,_,_,_,o,_,_,e,ex,_⟩:=I.hok p _ hk;exact⟨o,e,ex⟩
   obtain⟨o,e,ex⟩:=z;refine⟨⟨o,e,ex.1⟩,λa e2=>?_⟩;cases e2;exact⟨o,e,ex.2.1⟩
  .obtain⟨o,_,_,_,e,ex,_⟩:=I.hok p _ hk;refine⟨⟨o,e,ex.1⟩,λa e2=>?_⟩;cases e2;exact⟨o,e,ex.2.1⟩
 | _=>exact iq ty
def tBM(K:aq)(T:String)(r:V->Z9 V->Hp->VK->Prop)(to:TE)(t:TA):TE:=λσ H Q=>to σ H λx H1=>tyV K T x H1/\t σ H1 λxs H2=>r x xs H2 Q
variable{o e:Expr}{es:Z9 Expr}{to:TE}{t:TA}{name:Str}{eS bF:cU}{T id:String}{r:V->Z9 V->Hp->VK->Prop}
def qi(pa:Bw T)(slot:Slot T name id)(Cg:mM (.builtin id)=bJ (.type "method_descriptor"))(hm:MtR X id r)(ho:PE X o to)(ha:PA X (e::es) t)
  (hZ:iB o name X.env (bL o X.env)=bL o X.env:=by rfl)
  (qZ:((bA bF<|aK (e::es) X.env).all (λx=>!x.1)&&(jG bF<|dX [] X.env).all (λx=>x.1.isSome)
   && decide ((e::es).length+([]:Z9 eE).length+(if ([]:Z9 eE).isEmpty then 0 else 1)<30))=true:=by rfl)
  (dE:(eS.endLine==bF.line)=true:=by rfl) (hs:aK (e::es) X.env=(false,bL e X.env)::aK es X.env:=by rfl) (hU:(bA bF<|aK es X.env).any (·.1)=false:=by rfl) :
  PE X (.Call (.Attribute o name eS) (e::es) [] bF) (tBM X.K T r to t):=by
 intro aE s σ H Q I h;refine wpAny_Call_method_late hZ qZ dE rfl<|thn (ho aE s σ H _ I h) λv s1 ⟨x,H1,I1,r1,ty,q1⟩=>?_;obtain⟨h1,h2⟩:=avk I1 r1 ty;refine⟨T,id,pa,slot,Cg,h1,h2,?_⟩;have hA:=ha bF aE s1 σ H1 _ I1 q1;rw[hs]at hA⊢;refine Calls.callWith_builtin (by show(false||(bA bF<|aK es X.env).any (·.1))=false;rw[hU]<;>rfl)<|Calls.evalArgs_plain ?_;exact thn hA λus s2 ⟨vs,H2,I2,r2,q2⟩=>hm aE s2 σ H2 x vs v us Q I2 r1 r2 q2
end
def MtM(X:Cx)(id:String)(r:V->Z9 V->Hp->VK->Prop):Prop:=
 ∀(aE:Z9 (aF×Obj)) (s:aB) (σ:St) (H:Hp) (x:V) (xs:Z9 V) (v:aA) (us:Z9 aA) (Q:VK),Inv X aE σ H s->RelV x v->Vals xs us->r x xs H Q->
  wpAny (aG X.prog X.w) X.A (call (.builtin id) (v::us)) (EP X aE σ Q) X.xe s
theorem Vals.one:∀{x:V} {us:Z9 aA},Vals [x] us->∃u,us=[u]/\RelV x u
 | _,_,.cons r .nil=>⟨_,rfl,r⟩
theorem Vals.two:∀{x y:V} {us:Z9 aA},Vals [x,y] us->∃u v,us=[u,v]/\RelV x u/\RelV y v
 | _,_,_,.cons r (.cons q .nil)=>⟨_,_,rfl,r,q⟩
theorem Vals.eraseIdx:∀{xs:Z9 V} {us:Z9 aA} (i:Nat),Vals xs us->Vals (xs.eraseIdx i) (us.eraseIdx i)
 | _,_,_,.nil=>.nil
 | _,_,0,.cons _ t=>t
 | _,_,i+1,.cons r t=>.cons r<|Vals.eraseIdx i t
theorem Vals.rep{xs:Z9 V}{us:Z9 aA}(h:Vals xs us):∀k:Nat,Vals (fu k xs).flatten (fu k us).flatten
 | 0=>.nil
 | k+1=>by rw[jm,jm,List.flatten_cons,List.flatten_cons];exact Vals.append h<|Vals.rep h k
theorem aed{α:Type}:∀(l:List α)(i:Nat),(l.eraseIdx i).length<=l.length
 | [],_=>av _
 | _::_,0=>Nat.le_succ _
 | _::r,i+1=>Nat.succ_le_succ<|aed r i
theorem ae7(its:Z9 aA):∀(k:Nat)(dS:Z9 aA),
  List.foldl (λx1 x2=>x1++x2) dS.toArray (fu k its.toArray)=(dS++(fu k its).flatten).toArray
 | 0,dS=>by simp
 | k+1,dS=>by
  have e:dS.toArray++its.toArray=(dS++its).toArray:=by simp
  have e2:(dS++its)++(fu k its).flatten=dS++(fu (k+1) its).flatten:=by rw[jm,List.flatten_cons,jk]
  rw[<-e2,<-ae7 its k (dS++its),<-e,jm,List.foldl_cons]
section
variable{X:Cx}{aE:Z9 (aF×Obj)}{σ:St}{H:Hp}{s:aB}{l b:aF}{xs ys zs:Z9 V}
def Inv.lset{its its':Z9 aA}{n:Nat}{f:Array aA->Array aA}{t':Nat}(I:Inv X aE σ H s)(hH:H l=some (.lst xs))
  (e:s.heap.get? l=some {cls:=.type "list",data:=.seq its.toArray n}) (hf:f its.toArray=its'.toArray) (hv:Vals ys its') (hz:ys.length<=aC) :
  Inv X aE σ (upd H l<|.lst ys) {s with heap:=s.heap.update l<|ir f,toks:=t'}:=by
 have q:=PySem.IsL.update e f;rw[hf]at q;refine I.write (x:=l) (e:=l) (by rw[hH];exact trivial) (.inl rfl) (λb' u hb hu=>(c6 s.heap (ir f)<|Ne.symm hb).trans hu) ⟨_,q⟩ ?_;exact⟨hz,its',_,hv,q⟩
def Inv.lnew{its:Z9 aA}{t':Nat}(I:Inv X aE σ H s)(hv:Vals ys its)(hz:ys.length<=aC) :
  Inv X aE σ (upd H s.heap.objs.size<|.lst ys) {s with heap:=s.heap.push {cls:=.type "list",data:=.seq its.toArray},toks:=t'}:=
 I.laid (λ_ _ q=>ai _ q) (av _) ⟨hz,its,0,hv,ba _ rfl⟩
theorem Inv.fresh(I:Inv X aE σ H s):H s.heap.objs.size=none:=I.hok.fresh<|av _
def Inv.lstM(I:Inv X aE σ H s)(hH:H l=some (.lst xs)):xs.length<=aC/\∃(its:Z9 aA)(n:Nat),Vals xs its/\xs.length=its.length/\s.heap.get? l=some {cls:=.type "list",data:=.seq its.toArray n}:=by obtain⟨z,its,n,r,e⟩:=I.hok l _ hH;exact⟨z,its,n,r,r.length,e⟩
def apy{n:Nat}(h:n<=aC):Builtin.List.listTooLong n=false:=by unfold Builtin.List.listTooLong;exact decide_eq_false<|by lia
end
section
variable{X:Cx}
def atf:V->Z9 V->Hp->VK->Prop:=λx vs H Q=>∃l xs y,x=.ref l/\vs=[y]/\H l=some (.lst xs)/\xs.length<aC/\Q .non (upd H l<|.lst<|xs++[y])
def qg:MtM X "list.append" atf:=by intro aE s σ H x vs v us Q I rx rv h;obtain⟨l,xs,y,rfl,rfl,hH,hz,q⟩:=h;cases rx;obtain⟨u,rfl,ru⟩:=rv.one;obtain⟨z,its,n,r,hl,e⟩:=I.lstM hH;refine dA F.slot_list_append ⟨_,e,rfl⟩ F.entry_list_append (F.args_list_append_2 _ _) (PySem.list_append l its.toArray n u<|by rw[be];lia) ⟨e,?_⟩;refine⟨.non,_,I.lset (its':=its++[u]) hH e (by simp) (r.append<|.cons ru .nil) ?_,rfl,q⟩;rw[a9,cu];lia
def awi:V->Z9 V->Hp->VK->Prop:=λx vs H Q=>∃l xs i k y,x=.ref l/\vs=[.int i]/\H l=some (.lst xs)/\-(2^63)<=i/\i<2^63/\Eo i xs.length=some k/\xs[k]?=some y/\Q y (upd H l<|.lst<|xs.eraseIdx k)
def ao0:MtM X "list.pop" awi:=by
 intro aE s σ H x vs v us Q I rx rv h;obtain⟨l,xs,i,k,y,rfl,rfl,hH,h1,h2,hk,hy,q⟩:=h;cases rx;obtain⟨u,rfl,ru⟩:=rv.one;obtain⟨t,rfl⟩:=ru;obtain⟨z,its,n,r,hl,e⟩:=I.lstM hH;obtain⟨w,hw,pR⟩:=r.get hy;refine dA F.slot_list_pop ⟨_,e,rfl⟩ F.entry_list_pop (F.args_list_pop_2 _ _)
  (MeetsSeq.list_pop_at l its.toArray n i t k w (nJ h1 h2) (by rw[be,<-hl];exact hk) (by rw[<-b8];exact hw)<|by rw[be];lia) ⟨e,?_⟩
 refine⟨y,_,I.lset (its':=its.eraseIdx k) hH e ?_ (r.eraseIdx k) ?_,pR,q⟩
 .show its.toArray.eraseIdxIfInBounds k=(its.eraseIdx k).toArray;rw[List.eraseIdxIfInBounds_toArray]
 .have:=aed xs k;lia
def a1c:R2:=λx y H Q=>∃l b xs zs,x=.ref l/\y=.ref b/\H l=some (.lst xs)/\H b=some (.lst zs)/\xs.length+zs.length<=aC/\∀p,H p=none->Q (.ref p) (upd H p<|.lst<|xs++zs)
def pb:OpR X (cQ .Add) a1c:=by
 intro aE s σ H x y v u Q I rx ry h;obtain⟨l,b,xs,zs,rfl,rfl,hH,hB,hz,q⟩:=h;cases rx;cases ry;obtain⟨z,its,n,r,hl,e⟩:=I.lstM hH;obtain⟨z2,uL,n2,r2,fK,e2⟩:=I.lstM hB;refine PySem.P.add_list e e2 ?_ (by rw[be,be];lia);have ea:its.toArray++uL.toArray=(its++uL).toArray:=by simp
 rw[ea];exact⟨.ref _,_,I.lnew (t':=s.toks) (r.append r2)<|by rw[a9];lia,rfl,q _ I.fresh⟩
def a00:R2:=λx y H Q=>∃l k xs,x=.ref l/\y=.int k/\H l=some (.lst xs)/\-(2^63)<=k/\k<2^63/\xs.length*k.toNat<=aC/\
 ∀p,H p=none->Q (.ref p) (upd H p<|.lst (fu k.toNat xs).flatten)
theorem as5{α:Type}(xs:List α)(k:Nat):(fu k xs).flatten.length=k*xs.length:=by
 induction k with
 | zero=>simp
 | succ k ih=>rw[jm,List.flatten_cons,a9,ih,Nat.succ_mul,Nat.add_comm]
theorem avc:OpR X (cQ .Mult) a00:=by
 intro aE s σ H x y v u Q I rx ry h;obtain⟨l,k,xs,rfl,rfl,hH,h1,h2,hz,q⟩:=h;cases rx;obtain⟨t,rfl⟩:=ry;obtain⟨z,its,n,r,hl,e⟩:=I.lstM hH;have aU:its.toArray.size*k.toNat<=aC:=by rw[be,<-hl];exact hz
 have Jn:¬its.toArray.size*k.toNat>(2^63-1)/8:=by
  have:(aC:Nat)<=(2^63-1)/8:=by decide
  lia
 have zM:¬(!Builtin.List.listFitsIndex k)=true:=by rw[nJ h1 h2];exact am
 have CD:¬Builtin.List.listTooLong (its.toArray.size*k.toNat)=true:=by rw[apy aU];exact am
 have uS:List.foldl (λx1 x2=>x1++x2) #[] (fu (if its.toArray.isEmpty=true then 0 else k.toNat) its.toArray)=(fu k.toNat its).flatten.toArray:=by
  have f0:∀m:Nat,List.foldl (λx1 x2=>x1++x2) #[] (fu m its.toArray)=(fu m its).flatten.toArray:=λm=>by have:=ae7 its m [];rw[List.nil_append]at this;exact this
  rw[f0];cases its with
  | nil=>simp
  | cons a r'=>rw[if_neg (by simp)]
 refine wpAny_binaryOp_repeat_ref (T:="list") (U:="int") (by decide) ⟨_,e,rfl⟩ (λs'=>AC s' k t) noFill_list_mul F.fills_int_mul F.slot_int_rmul repeat_list F.slot_int_index.lookup
  (dA F.slot_int_rmul (AC s k t) F.entry_int_rmul (F.args_int_rmul_2 _ _) (int___rmul___int_list k t l its.toArray n)
   ⟨e,rfl,⟨_,e,rfl⟩,dA F.slot_list_mul ⟨_,e,rfl⟩ F.entry_list_mul (F.args_list_mul_2 _ _) (AutoListH.list___mul___list_int_3 l its.toArray n k t zM Jn CD) ⟨e,?_⟩⟩)
 rw[uS];exact⟨.ref _,_,I.lnew (t':=s.toks) (r.rep k.toNat)<|by rw[as5,Nat.mul_comm];exact hz,rfl,q _ I.fresh⟩
end
end L2
namespace Att
open PySem PySem.W PySem.Calls PyProof.Rows
theorem abj{P:Params}{h:Heap}:∀(ns:Z9 Int)(vs:Z9 aA),WellAll P h vs (ns.map WData.int)->fB vs ns:=by
 intro ns;induction ns with
 | nil=>
  intro vs w;rw[List.map_nil]at w;cases w;exact .nil
 | cons n ns ih=>
  intro vs w;rw[cy]at w;cases w with
  | cons a b=>
   cases a;exact .cons _ _<|ih _ b
theorem anz{l:OpenLaw}{n:Nat}(hn:l.most=some n){P:Params}{h:Heap}{args:Z9 WData}{xV:Z9 aA}
  (uP:l.row.toRowW.claim.pre args=true) (wE:WellAll P h xV args) :
  ∃a vs ns,xV=[aA.ref a]/\args=[WData.list (ns.map WData.int)]/\h.get? a=some {cls:=.type "list",data:=.seq vs.toArray}/\fB vs ns/\ns.length<=n:=by
 have hsh:WShape.hasAll [] args [.list .int]=true:=(pre_splitW uP).1;have hc:l.pre.holds [] {args:=args}=true:=(pre_splitW uP).2;obtain⟨d,r,rfl,h1,h2⟩:=hasAllW_cons hsh;obtain rfl:=hasAllW_nil h2;obtain⟨xs,rfl,h3⟩:=hasW_list h1;obtain⟨ns,rfl⟩:=items_int h3;have aU:ns.length<=n:=by
  unfold OpenLaw.pre at hc;have h4:(WTm.not<|.lt (.lit<|.int (n:Int))<|.len<|.arg 0).holds [] {args:=[.list (ns.map .int)]}=true:=by have h4:=(holds_andW hc).1;rw[hn]at h4;exact h4
  have h5:=condW_of h4<|w_not<|w_lt w_lit<|w_len_list<|w_arg rfl;rw[af]at h5;refine Nat.le_of_not_lt λq=>?_;have q':(n:Int)<((ns.length:Nat):Int):=by lia
  first
   | (rw[decide_eq_true q']at h5;exact absurd h5<|by decide)
   | (simp at h5;lia)
 cases wE with
 | cons w1 w2=>
  cases w2;cases w1 with
  | list ho aZ=>exact⟨_,_,ns,rfl,rfl,ho,abj ns _ aZ,aU⟩
def al9(l:OpenLaw)(args:Z9 WData):l.row.toRowW.claim.post args (.bool true) args=true:=
 postW_of (r:=l.row.toRowW) (X:=(true==true))
  (show WShape.has [] (.bool true) .bool=true by first|rfl|decide|simp[WShape.has,WShape.arms,WShape.armsAll])
  (show(WTm.eq .res<|.lit<|.bool true).value [] {args:=args,res:=some<|.bool true,after:=args}=some (.bool<|true==true)from w_eq_bool (w_res rfl) w_lit) rfl
def attach_call{l:OpenLaw}{n:Nat}{q:aI}{loose:Z9 Str}{XP:(Str->Option aA)->Heap->Prop}{YP:aJ->Heap->Prop}{d:DefRec}
  (hn:l.most=some n) (C2:d.params.defaults=[])
  (call:∀(w:aJ)(s₀ s₁:aB)(mg mb:Str->Option aA)(fa:aF)(o:Obj)(pm cd gS:aA)(a:aF)(vs:Z9 aA)(ns:Z9 Int),
   Ground q loose [] XP w s₀ mg mb s₁.heap->YP w s₁.heap->
   s₁.heap.get? fa=some o->o.data=.func (docDef d.name d.params d.body d.scope pm cd gS)->s₁.heap.CodeRec cd d.name->mg d.name=some (.ref fa)->
   s₁.heap.get? a=some {cls:=.type "list",data:=.seq vs.toArray}->fB vs ns->ns.length<=n->s₁.gens=#[]->
   bY (aG l.prog w) jF (.call (.ref fa) ⟨[.ref a],[]⟩) (λr s'=>r=.ok (.ret<|.bool true)/\OldK s₁.heap s'.heap/\s'.os=s₁.os/\eF s'.gens) s₁) :
  WalkO q loose XP YP l.row.toRowW d [] (λf vs=>PySem.call f vs):=by
 intro w s₀ s₁ mg mb G Y fa o pm cd gS dV kV ho hd nI hD CB hg args xV as uP qU E1 wE hlo;obtain rfl:dV=.none:=Dflts.none hD C2;obtain rfl:kV=.none:=Dflts.noKw hD;obtain⟨a,vs,ns,rfl,rfl,nZ,qX,aU⟩:=anz hn uP wE;refine enter_call<|ju (call w s₀ s₁ mg mb fa o pm cd gS a vs ns G Y ho (fd_plain hd) nI CB nZ qX aU hg) λr s' hq=>?_;obtain⟨rfl,h2,h3,h4⟩:=hq;exact⟨.inl ⟨.bool true,.bool true,[],rfl,λ_=>rfl,.bool true,al9 l _,λ_=>⟨List.Pairwise.nil,λ_ hm=>(nomatch hm)⟩⟩,h2,h3,h4⟩
end Att
namespace L2
open PySem PySem.Spec PyProof.Rows
theorem ad9:∀{vs:Z9 aA} {ns:Z9 Int},fB vs ns->Vals (ns.map V.int) vs
 | _,_,.nil=>.nil
 | _,_,.cons n t h=>.cons ⟨t,rfl⟩<|ad9 h
def J1(H:Hp):Prop:=∀b,H b=none\/∃o xs,H b=some (.frz o<|.lst xs)
theorem apn{P:aI}{w:aJ}{K:aq}{mg mb:Str->Option aA}{CX:CXT}{k:Nat}{fa a:aF}{fd:bG}{x:Str}{sp:Sp}{s₁:aB}{vs:Z9 aA}{ns:Z9 Int}
  (KX:K.In s₁.heap) (iU:s₁.heap.Ns aH mg) (hb:s₁.heap.Ns A8 mb) (hbb:∀x:Str,x≠"__name__"->mb x=bP x) (IR:s₁.heap.NoLimit) (hg:s₁.gens=#[])
  (ha:s₁.heap.get? a=some {cls:=.type "list",data:=.seq vs.toArray}) (hi:fB vs ns) (hl:ns.length<=aC) (hr:Room k jF)
  (F:∀base:Heap,K.In base->base.Ns aH mg->FnOk P w K mg base CX k fa fd [x] sp) (C6:∀(s:aB)(u:aA),mL s fd ⟨[u],[]⟩ [(x,u)])
  (fP:∀H:Hp,J1 H->SqL K H a (ns.map V.int)->sp [.ref a] H (λv _=>v=.bl true) λ_ _ _=>False)
  (JB:∀H e s',CX [] H s₁ (λ_ _ _=>False) e s'->False) :
  bY (aG P w) jF (.call (.ref fa) ⟨[.ref a],[]⟩) (λr s'=>r=.ok (.ret<|.bool true)/\OldK s₁.heap s'.heap/\s'.os=s₁.os/\eF s'.gens) s₁:=by
 have rv:=ad9 hi;have HI:=hi.length;have Dv:∀H:Hp,J1 H->SqL K H a (ns.map V.int)->HOk P w H s₁.heap->(∀b,H b≠none->b=a)->(H a≠none->K.lookup a=none)->
   bY (aG P w) jF (.call (.ref fa) ⟨[.ref a],[]⟩) (λr s'=>r=.ok (.ret<|.bool true)/\OldK s₁.heap s'.heap/\s'.os=s₁.os/\eF s'.gens) s₁:=by
  intro H hO hS hok hA hK;have nN:∀{b:aF} {o:Obj},s₁.heap.get? b=some o->H b=none->(vC s₁.heap H).get? b=some o:=λe n=>apc e n;have BX:∀{b:aF} {o:Obj} {es:Array DictEntry} {ep:Nat},s₁.heap.get? b=some o->o.data=.dict es ep->H b=none:=λ{b o es ep} e d=>by
   cases q:H b with
   | none=>rfl
   | some u=>
    have e':b=a:=hA b (by rw[q];simp);subst e';rw[ha]at e;cases e;have d':Data.seq vs.toArray _=Data.dict es ep:=d;cases d'
  have EM:∀{b:aF} {m:Str->Option aA},s₁.heap.Ns b m->(vC s₁.heap H).Ns b m:=λ{b m} ⟨o,es,ep,e,d,r⟩=>⟨o,es,ep,nN e<|BX e d,d,r⟩;have hKb:K.In (vC s₁.heap H):=λb o e=>nN (KX b o e) (by
   cases q:H b with
   | none=>rfl
   | some u=>
    have e':b=a:=hA b (by rw[q];simp);subst e';rw[hK (by rw[q];simp)]at e;cases e)
  have hM:Mod K mg (vC s₁.heap H):=⟨hKb,EM iU,⟨mb,EM hb,hbb⟩,let ⟨mc,h1,h2⟩:=IR;⟨mc,EM h1,h2⟩⟩;have e0:FD P w K mg (vC s₁.heap H) jF [] s₁ H:=⟨rfl,hM,λb o e=>aul e,Nat.le_of_eq<|ajx _ _,trivial,λb hb=>absurd (show b∈([]:Z9 aF)from hb)<|by simp,hok,.of_eq hg⟩;refine ju ((F _ hKb<|EM iU).run jF [] s₁ H ⟨[.ref a],[]⟩ [.ref a] [.ref a] _ _ hr e0 (C6 s₁<|.ref a) (.cons rfl .nil) (fP H hO hS)) λr s' h=>?_;cases r with
  | error e=>exact(JB H e s' h).elim
  | ok fl=>
   cases fl with
   | next=>exact iq h
   | brk=>exact iq h
   | cont=>exact iq h
   | ret u=>
    obtain⟨v,H',os,bare,un,Ir,r',q⟩:=h;have q':v=.bl true:=q;subst q';obtain rfl:u=aA.bool true:=r';refine⟨rfl,OldK.of_keep λb o e=>?_,os,bare⟩;cases q:H b with
    | none=>exact un.keep b o e q (by intro z;exact absurd (show b∈([]:Z9 aF)from z)<|by simp) (by simp)
    | some u=>
     rcases hO b with z|⟨ob,xs,z⟩
     .rw[q]at z;cases z
     .have z2:=un.frzs b ob _ z;obtain⟨e1,_⟩:=hok b _ z;obtain⟨e2,_⟩:=Ir b _ z2;rw[e]at e1;cases e1;exact e2
 cases hk:K.lookup a with
 | some o=>
  have e:=KX a o hk;rw[ha]at e;cases e;refine Dv (λ_=>none) (λ_=>.inl rfl) (.inr ⟨_,vs.toArray,_,hk,rfl,rfl,rfl,by rw[be,HI];exact hl,by simpa using rv⟩) (λb u z=>by have z':(none:Option HO)=some u:=z;cases z') (λb z=>absurd rfl z) λz=>absurd rfl z
 | none=>
  refine Dv (λb=>if b=a then some (.frz {cls:=.type "list",data:=.seq vs.toArray}<|.lst<|ns.map V.int)else none) (λb=>?_) (.inl<|.inr ⟨{cls:=.type "list",data:=.seq vs.toArray},if_pos rfl⟩) (λb u z=>?_) (λb z=>?_) λ_=>hk
  .by_cases hb:b=a
   .exact .inr ⟨_,_,if_pos hb⟩
   .exact .inl<|if_neg hb
  .by_cases hb:b=a
   .have z':=(if_pos hb).symm.trans z;cases z';subst hb;exact⟨ha,by rw[af];exact hl,vs,_,rv,ha⟩
   .have z':=(if_neg hb).symm.trans z;cases z'
  .by_cases hb:b=a
   .exact hb
   .exact absurd (if_neg hb) z
def walk_of{l:PySem.W.OpenLaw}{n k:Nat}{q:aI}{loose:Z9 Str}{XP:(Str->Option aA)->Heap->Prop}{YP:aJ->Heap->Prop}{d:DefRec}{K:Params->aq}{CX:aJ->CXT}{sp:aJ->Sp}{x:Str}
  (hn:l.most=some n) (gU:n<=aC) (C2:d.params.defaults=[]) (hr:Room k jF)
  (hY:∀(w:aJ)(h:Heap),YP w h->(K w.params).In h)
  (F:∀(w:aJ)(mg:Str->Option aA)(fa:aF)(h:Heap),(K w.params).In h->h.Ns aH mg->mg d.name=some (.ref fa)->
   ∃fd:bG,(∀(s:aB)(u:aA),mL s fd ⟨[u],[]⟩ [(x,u)])/\
    ∀base:Heap,(K w.params).In base->base.Ns aH mg->FnOk l.prog w (K w.params) mg base (CX w) k fa fd [x] (sp w))
  (fP:∀(w:aJ)(H:Hp)(a:aF)(ns:Z9 Int),ns.length<=n->J1 H->SqL (K w.params) H a (ns.map V.int)->sp w [.ref a] H (λv _=>v=.bl true) λ_ _ _=>False)
  (JB:∀(w:aJ)(H:Hp)(s:aB)(e:aA)(s':aB),CX w [] H s (λ_ _ _=>False) e s'->False) :
  PySem.W.WalkO q loose XP YP l.row.toRowW d [] (λf vs=>PySem.call f vs):=by
 refine Att.attach_call hn C2 λw s₀ s₁ mg mb fa o pm cd gS a vs ns G Y ho hd nI CB nZ qX aU hg=>?_;have KX:=hY w _ Y;obtain⟨fd,hb,hF⟩:=F w mg fa _ KX G.T.g CB;exact apn KX G.T.g G.T.b G.T.builtins G.T.nolimit hg nZ qX (fj aU gU) hr hF hb (λH hO hS=>fP w H a ns aU hO hS) λH e s'=>JB w H s₁ e s'
noncomputable def wn(s:aO):Arguments:=match s with
 | .FunctionDef _ a _ _ _ _ _ _ _ _=>a
 | _=>{posonlyargs:=[],args:=[],vararg:=none,kwonlyargs:=[],kw_defaults:=[],kwarg:=none,defaults:=[]}
noncomputable def va(s:aO):Z9 aO:=match s with
 | .FunctionDef _ _ b _ _ _ _ _ _ _=>b
 | _=>[]
noncomputable def ll(s:aO):bV:=match s with
 | .FunctionDef _ _ _ _ _ _ sc _ _ _=>sc
 | _=>{kind:=.function,names:=[],isGenerator:=false,isCoroutine:=false}
noncomputable abbrev CX0:CXT:=λ_ _ _ _ _ _=>False
noncomputable abbrev E0:XK:=λ_ _ _=>False
def azi{X:Cx}:FQ CX0 X E0:=λ_ _ _ _ _ _ _ h=>h.elim
structure Fun(K:aq)(x qual:Str)(st:aO)(f:aF)(fd:bG):Prop where
 ex:∃(oc:aA)(od:Option aF)(kV gS pm:aA)(an:Option aF)(bE ct:aA) (pZ:Array (Option aA)),
  fd=jv x qual (wn st) (va st) (ll st) .none kV gS pm an bE ct/\K.lookup f=some ⟨oc,od,.func fd,pZ⟩/\PySem.W.codeIn K bE qual=true
 kp:PySem.W.keepIn K (.ref f)=true
section
variable{P:aI}{w:aJ}{K:aq}{mg:Str->Option aA}{base:Heap}
def Fun.ok{x qual:Str}{st:aO}{f:aF}{fd:bG}{N ps:Z9 Str}{k:Nat}{sp:Sp}(F:Fun K x qual st f fd)(S:lz N ps (ll st))(len:∀vs H Q E,sp vs H Q E->vs.length=ps.length)
  (kR:∀(bE:aA)(A:Around)(outer:Z9 kX)(s:aB)(H:Hp)(vs:Z9 V)(Q:VK)(E:XK),Room k (A.deeper<|bO qual (ll st) s.heap.objs.size f bE)->sp vs H Q E->
   ∃t,PSs (tN CX0 P w K mg base N qual (ll st) f bE A outer s H E).nox (va st) t/\t {nx:=λ_ H'=>Q .non H',rt:=Q} (vH N vs) H):FnOk P w K mg base CX0 (k+1) f fd ps sp:=by
 obtain⟨oc,od,kV,gS,pm,an,bE,ct,pZ,rfl,lk,nI⟩:=F.ex;refine aus lk nI S len λA outer s H vs Q E hr fP=>?_;obtain⟨t,h,q⟩:=kR bE A outer s H vs Q E hr fP;exact⟨t,h.nox,q⟩
def Fun.binds{x qual:Str}{st:aO}{f:aF}{fd:bG}{ps:Z9 Str}(F:Fun K x qual st f fd)
  (h:∀(kV gS pm:aA)(an:Option aF)(bE ct:aA)(us:Z9 aA),us.length=ps.length->xH (jv x qual (wn st) (va st) (ll st) .none kV gS pm an bE ct) ⟨us,[]⟩=bJ (ps.zip us)):Binds K fd ps []:=by
 obtain⟨oc,od,kV,gS,pm,an,bE,ct,pZ,rfl,lk,nI⟩:=F.ex;exact .all<|h kV gS pm an bE ct
def aw4{x qual:Str}{st:aO}{f:aF}{oc:aA}{od an:Option aF}{pZ:Array (Option aA)}{kV gS pm bE ct:aA}(l:K.lookup f=some ⟨oc,od,.func<|jv x qual (wn st) (va st) (ll st) .none kV gS pm an bE ct,pZ⟩)
  (c:PySem.W.codeIn K bE qual=true) (k:PySem.W.keepIn K (.ref f)=true):Fun K x qual st f (jv x qual (wn st) (va st) (ll st) .none kV gS pm an bE ct):=⟨⟨oc,od,kV,gS,pm,an,bE,ct,pZ,rfl,l,c⟩,k⟩
end
def lu{n:Nat}(h:n<=1000):n<aC:=Nat.lt_of_le_of_lt h<|by decide
section
variable{X:Cx}
def pv(i:Nat){x:Str}{pos:cU}(hN:X.N[i]?=some x:=by rfl)(hv:Vis X.env.scope x:=by first|exact Or.inl rfl|exact Or.inr (Or.inl rfl)|exact Or.inr<|Or.inr rfl)(hd:(x==("__debug__" : Str))=false:=by decide)
  (nI:(x==("__classdict__" : Str))=false:=by decide):PE X (.Name x pos) (iC i):=avx hN hv hd nI
end
def tw{A B:Prop}(h:B):if false=true then A else B:=by rw[if_neg am];exact h
def oz{A B:Prop}(h:A):if true=true then A else B:=by rw[if_pos rfl];exact h
def qb{c A B:Prop}[Decidable c](h1:c->A)(h2:¬c->B):if c then A else B:=by
 by_cases h:c
 .rw[if_pos h];exact h1 h
 .rw[if_neg h];exact h2 h
def Same(H H':Hp):Prop:=∀b o,H b=some o->H' b=some o
def Same.refl(H:Hp):Same H H:=λ_ _ h=>h
def Same.trans{H H1 H2:Hp}(a:Same H H1)(b:Same H1 H2):Same H H2:=λc o h=>b c o<|a c o h
theorem Same.free{H H':Hp}(e:Same H H'){l:aF}(h:H' l=Option.none):H l=Option.none:=by
 cases q:H l with
 | none=>rfl
 | some o=>
  rw[e l o q]at h;cases h
end L2
namespace L3
open PySem PySem.Spec PyProof.Rows L2
structure CZ where
 cl:Z9 (Str×aF)
 C:aF
 s:aB
 H:Hp
 ex:Z9 aF
noncomputable def nc(X:Cx)(N:Z9 Str)(scope:bV)(z:CZ):Cx where
 prog:=X.prog
 w:=X.w
 K:=X.K
 mg:=X.mg
 base:=X.base
 A:=X.A
 N:=N
 s₀:=z.s
 H₀:=z.H
 env:=compEnvC scope z.cl z.C X.env
 outer:=X.stack
 stack:=X.stack
 ex:=z.ex
 calm:=X.calm
 fn:=λ_=>false
 pn:=[]
 xe:=λ_ _=>False
noncomputable def qv(cells:Z9 (Str×aF)):Z9 (Str×aM)->Z9 (Str×aF)->Z9 (Str×aF)
 | [],cs=>cs
 | (n,k)::r,cs=>if (k==aM.free)=true then(match cells.lookup n with|some c=>qv cells r ((n,c)::cs)|none=>qv cells r cs)else qv cells r cs
theorem ym{scope:bV}{env:kX}(h:∀x∈scope.names,x.2=.free->∃c,env.cells.lookup x.1=some c):nL scope env=bJ (qv env.cells scope.names []):=by
 have go:∀(l:Z9 (Str×aM)) (cs:Z9 (Str×aF)),(∀x∈l,x.2=.free->∃c,env.cells.lookup x.1=some c)->
   (forIn l cs λ(x:Str×aM) (cs:Z9 (Str×aF))=>if (x.2==aM.free)=true then do let a <-cellOf env x.1;bJ (ForInStep.yield ((x.1,a)::cs))else bJ (ForInStep.yield cs):Sem (Z9<|Str×aF))=bJ (qv env.cells l cs):=by
  intro l;induction l with
  | nil=>intro cs _;rfl
  | cons x r ih=>
   intro cs hx;obtain⟨n,k⟩:=x;rw[List.forIn_cons];have ih':=λcs=>ih cs λy hy=>hx y<|ak _ hy;unfold qv;dsimp only;by_cases hk:(k==aM.free)=true
   .obtain⟨c,hc⟩:=hx (n,k) aj (by simpa using hk);rw[if_pos hk,if_pos hk];simp only at hc;simp only[cellOf,hc,pure_bind];exact ih' _
   .rw[if_neg hk,if_neg hk];simp only[pure_bind];exact ih' _
 unfold nL;have e:=go scope.names [] h;simp only[bind_pure]at e⊢;exact e
theorem yt{cells:Z9 (Str×aF)}{x:Str}{c:aF}:∀{l:Z9 (Str×aM)} {cs:Z9 (Str×aF)},(qv cells l cs).lookup x=some c->cells.lookup x=some c\/cs.lookup x=some c
 | [],cs,h=>.inr h
 | (n,k)::r,cs,h=>by
  unfold qv at h;split at h
  .split at h
   .rename_i c0 e
    rcases yt h with q|q
    .exact .inl q
    .rw[jd]at q;split at q
     .rename_i hx
      have oV:x=n:=by simpa using hx
      cases q;rw[oV];exact .inl e
     .exact .inr q
   .exact yt h
  .exact yt h
theorem ul{cells:Z9 (Str×aF)}{x:Str}:∀{l:Z9 (Str×aM)} {cs:Z9 (Str×aF)},(∃c,cs.lookup x=some c)->∃c,(qv cells l cs).lookup x=some c
 | [],cs,h=>h
 | (n,k)::r,cs,h=>by
  unfold qv;split
  .split
   .refine ul ?_;rw[jd];split
    .exact⟨_,rfl⟩
    .exact h
   .exact ul h
  .exact ul h
theorem w6{cells:Z9 (Str×aF)}{x:Str}:∀{l:Z9 (Str×aM)} {cs:Z9 (Str×aF)},(x,aM.free)∈l->(∃c,cells.lookup x=some c)->∃c,(qv cells l cs).lookup x=some c
 | (n,k)::r,cs,hm,h=>by
  unfold qv;rcases ap.mp hm with e|hm
  .cases e;obtain⟨c,hc⟩:=h;rw[if_pos (show(aM.free==aM.free)=true from rfl),hc];refine ul ?_;rw[jd];simp
  .split
   .split
    .exact w6 hm h
    .exact w6 hm h
   .exact w6 hm h
def afz{scope:bV}{env:kX}{x:Str}(tD:∀y∈scope.names,y.2≠.cell)(h:(relabel scope env).names.lookup x=some .cell\/(relabel scope env).names.lookup x=some .free):(x,aM.free)∈scope.names:=by
 rcases h with h|h
 .have hm:=iu h;obtain⟨⟨n,k⟩,hy,e⟩:=a7.mp hm;dsimp only at e;split at e
  .rename_i hc
   simp only[da,beq_iff_eq]at hc;cases e;rw[hc.1.1]at hy;exact hy
  .cases e;exact absurd rfl<|tD _ hy
 .have hm:=iu h;obtain⟨⟨n,k⟩,hy,e⟩:=a7.mp hm;dsimp only at e;split at e
  .cases e
  .cases e;exact hy
theorem zz{env:kX}:∀{names:Z9 (Str×aM)} {x:Str},names.lookup x=some .free->
  ((names.map λ(n,k)=>if (k==aM.free&&env.scope.kind==.function&&env.kindOf n==some .cell)then(n,aM.cell)else(n,k)).lookup x=some .cell\/
   (names.map λ(n,k)=>if (k==aM.free&&env.scope.kind==.function&&env.kindOf n==some .cell)then(n,aM.cell)else(n,k)).lookup x=some .free)
 | [],_,h=>by simp at h
 | (n,k)::r,x,h=>by
  have ih:=@zz env r x;show(List.lookup x ((if (k==aM.free&&env.scope.kind==.function&&env.kindOf n==some .cell)=true then(n,aM.cell)else(n,k))::_)=_)\/(List.lookup x ((if (k==aM.free&&env.scope.kind==.function&&env.kindOf n==some .cell)=true then(n,aM.cell)else(n,k))::_)=_);cases hx:x==n with
  | true=>
   simp only[jd,hx]at h;cases h;by_cases hc:((aM.free:aM)==aM.free&&env.scope.kind==.function&&env.kindOf n==some .cell)=true
   .rw[if_pos hc];left;simp only[jd,hx]
   .rw[if_neg hc];right;simp only[jd,hx]
  | false=>
   simp only[jd,hx]at h;by_cases hc:(k==aM.free&&env.scope.kind==.function&&env.kindOf n==some .cell)=true
   .rw[if_pos hc];simp only[jd,hx];exact ih h
   .rw[if_neg hc];simp only[jd,hx];exact ih h
noncomputable def tf(sl:Z9 (Option Nat))(σ:L2.St):L2.St:=sl.map λo=>o.bind λj=>(σ[j]?).getD none
noncomputable def slOk(N N':Z9 Str)(sl:Z9 (Option Nat))(sc osc:bV):Bool:=
 sl.length==N'.length&&(List.zip N' sl).all λp=>match p.2 with
  | none=>true
  | some j=>N[j]?==some p.1&&sc.names.lookup p.1==some .free&&(osc.names.lookup p.1==some .cell||osc.names.lookup p.1==some .free)
def slOk.len{N N':Z9 Str}{sl:Z9 (Option Nat)}{sc osc:bV}(h:slOk N N' sl sc osc=true):sl.length=N'.length:=by unfold slOk at h;rw[da]at h;simpa using h.1
theorem slOk.at{N N':Z9 Str}{sl:Z9 (Option Nat)}{sc osc:bV}(h:slOk N N' sl sc osc=true){k j:Nat}{x:Str}(h1:N'[k]?=some x)(h2:sl[k]?=some (some j)) :
  N[j]?=some x/\sc.names.lookup x=some .free/\(osc.names.lookup x=some .cell\/osc.names.lookup x=some .free):=by
 unfold slOk at h;rw[da,bq]at h;have hm:(x,some j)∈List.zip N' sl:=by refine ah (i:=k) ?_;rw[List.getElem?_zip_eq_some];exact⟨h1,h2⟩
 have q:=h.2 _ hm;simp only[da,Bool.or_eq_true,beq_iff_eq]at q;exact⟨q.1.1,q.1.2,q.2⟩
noncomputable def frOk(sc osc:bV):Bool:=sc.names.all λx=>!(x.2==.free)||(osc.names.lookup x.1==some .cell||osc.names.lookup x.1==some .free)
def frOk.of{sc osc:bV}(h:frOk sc osc=true):∀x∈sc.names,x.2=.free->osc.names.lookup x.1=some .cell\/osc.names.lookup x.1=some .free:=λx hx e=>by have q:=bq.mp h x hx;rw[e]at q;simp only[beq_self_eq_true,ij,Bool.false_or,Bool.or_eq_true,beq_iff_eq]at q;exact q
def Agree(σ σ':L2.St):Prop:=σ'.length=σ.length/\∀(i:Nat) v,σ[i]?=some (some v)->σ'[i]?=some (some v)
def Agree.refl(σ:L2.St):Agree σ σ:=⟨rfl,λ_ _ h=>h⟩
theorem Agree.set{σ σ':L2.St}(a:Agree σ σ'){i:Nat}{v:Option V}(h:σ[i]?=some none):Agree σ (σ'.set i v):=by
 refine⟨by rw[List.length_set];exact a.1,λj w e=>?_⟩;by_cases gW:i=j
 .subst gW;rw[h]at e;cases e
 .rw[List.getElem?_set_ne gW];exact a.2 j w e
section
variable{fs ex:Z9 aF}{H H':Hp}{h h1 h2:Heap}{C:aF}
def Un.but(u:Un fs ex H H' h h1)(hC:h.get? C=none)(sb:∀b o,b≠C->h1.get? b=some o->h2.get? b=some o):Un fs ex H H' h h2 where
 keep:=λb o e n hb hx=>sb b o (by rintro rfl;rw[hC]at e;cases e) (u.keep b o e n hb hx)
 slot:=λb o e n hb hx=>by obtain⟨sl,q⟩:=u.slot b o e n hb hx;exact⟨sl,sb b _ (by rintro rfl;rw[hC]at e;cases e) q⟩
 free:=u.free
 there:=λb o e hx=>by obtain⟨o',q⟩:=u.there b o e hx;exact⟨o',sb b o' (by rintro rfl;rw[hC]at e;cases e) q⟩
 tups:=u.tups
 frzs:=u.frzs
 tbls:=u.tbls
def HOk.but{P:aI}{w:aJ}(x:HOk P w H h1)(hC:H C=none)(sb:∀b o,b≠C->h1.get? b=some o->h2.get? b=some o):HOk P w H h2:=λa o e=>
 (x a o e).stay (λb u hc q=>sb b u (by
  rintro rfl;rcases hc with hc|hc
  .rw[<-hc,hC]at e;cases e
  .rw[hC]at hc;cases hc) q) (λ_ q=>q) λ_ _ q=>q
end
theorem aji{X:Cx}{aE:Z9 (aF×Obj)}{σ:L2.St}{H:Hp}{s:aB}(I:Inv X aE σ H s){scope:bV}{N':Z9 Str}{sl:Z9 (Option Nat)}{fp:Z9 aF}{h₁:Heap}{m:Str->Option aA}{tk:Nat}
  (hk:scope.kind=.function) (tD:∀y∈scope.names,y.2≠.cell) (bS:∀x∈scope.names,x.2=.free->X.env.scope.names.lookup x.1=some .cell\/X.env.scope.names.lookup x.1=some .free)
  (lE:slOk X.N N' sl scope X.env.scope=true) (uX:∀b∈fp,mI X aE H b) (bX:∀b∈fp,b<s.heap.objs.size)
  (iU:h₁.Ns s.heap.objs.size m) (fY:∀b o,s.heap.get? b=some o->h₁.get? b=some o) :
  Inv (nc X N' scope ⟨qv X.env.cells scope.names [],s.heap.objs.size,s,H,fp⟩) [] (tf sl σ) H {s with heap:=h₁,toks:=tk}:=by
 have A7:∀x c,(qv X.env.cells scope.names []).lookup x=some c->X.env.cells.lookup x=some c:=λx c e=>by
  rcases yt e with q|q
  .exact q
  .cases q
 have has:∀x,(x,aM.free)∈scope.names->∃c,(qv X.env.cells scope.names []).lookup x=some c:=λx hx=>
  w6 hx (I.ok.has x<|bS _ hx rfl)
 refine⟨⟨I.ok.mod,hk,I.ok.glob,I.ok.blt,av _,λx y c h1 h2=>I.ok.inj x y c (A7 x c h1)<|A7 y c h2,λx hx=>has x<|afz tD hx,λx c hf _=>absurd hf am,I.ok.hd,I.ok.frames,.inl rfl,
   λb hb=>⟨ck<|bX b hb,λx c e=>(uX b hb).2.2.2.2.1 x c (A7 x c e)⟩,I.bs,fj I.ok.bsz I.sz,λb o e hb=>?_,λb hb hz=>?_,I.stack,I.stkFree⟩,
  rfl,I.bare,Un.kept fY,⟨m,iU,λi x v h1 h2 _=>?_⟩,λx c e=>?_,I.hok.fresh<|av _,λx c e=>I.freeC x c<|A7 x c e,λp hp=>absurd (show p∈([]:Z9 (aF×Obj))from hp)<|by simp,I.hok.kept fY,?_⟩
 .rcases(uX b hb).2.2.2.1 with z|z
  .exact I.ok.noex b o e z
  .exact absurd (cm (bi (I.ok.bs b o e).1) z)<|gy _
 .rcases ap.mp (I.stkSub b hz)with z|z
  .exact(uX b hb).2.1 z
  .exact(uX b hb).2.2.1 z
 .have gX:(tf sl σ)[i]?=some (some v):=h2;unfold tf at gX;rw[au]at gX;cases q:sl[i]? with
  | none=>rw[q]at gX;cases gX
  | some o=>
   rw[q]at gX;cases o with
   | none=>cases gX
   | some j=>
    have e:(σ[j]?).getD none=some v:=by simpa using gX
    have e2:σ[j]?=some (some v):=by
     cases r:σ[j]? with
     | none=>rw[r]at e;cases e
     | some w=>rw[r]at e;simp at e;rw[e]
    obtain⟨a1,a2,a3⟩:=slOk.at lE h1 q;obtain⟨mo,_,hl⟩:=I.loc;obtain⟨u,r,l⟩:=hl j x v a1 e2<|.inr a3;refine⟨u,r,.inr ⟨zz a2,?_⟩⟩;have a4:X.env.kindOf x=some .cell\/X.env.kindOf x=some .free:=a3;rcases l with ⟨l,_⟩|⟨_,c,e3,z⟩
    .rcases a4 with a4|a4 <;> · rw[l]at a4;cases a4
    .obtain⟨c',e4⟩:=has x<|iu a2;have e5:=A7 x c' e4;rw[e3]at e5;cases e5;obtain⟨o,ho,hd⟩:=z;exact(mm c e4 o ⟨fY _ _ ho,hd⟩)
 .obtain⟨v,o,ho,hd⟩:=I.cell x c<|A7 x c e;exact(lv v o ⟨fY _ _ ho,hd⟩)
 .show(tf sl σ).length=N'.length;unfold tf;rw[af];exact slOk.len lE
def PTs(X:Cx)(lS:Z9 Expr)(t:TT):Prop:=
 ∀(aE:Z9 (aF×Obj)) (s:aB) (σ:L2.St) (H:Hp) (Q:Bool->Hp->Prop),Inv X aE σ H s->t σ H Q->
  wpAny (aG X.prog X.w) X.A (forIn lS true λc r=>if r=true then do let ok <-isTrue c X.env (bL c X.env);bJ (ForInStep.yield ok)else bJ (ForInStep.yield r)) (TP X aE σ Q) X.xe s
def wg:TT:=λ_ H Q=>Q true H
def ng{X:Cx}:PTs X [] wg:=λ_ _ _ H _ I h=>wpAny_tests_nil ⟨H,I,h⟩
def xt{X:Cx}{c:Expr}{t:TT}(h:PT X c t):PTs X [c] t:=λaE s σ H Q I q=>wpAny_tests_one<|h aE s σ H Q I q
theorem aft{prog:aI}{w:aJ}{A:Around}{R:iQ->aB->Prop}{s:aB}{lG bH iter:Expr}{lS:Z9 Expr}{scope:bV}{pos:cU}{it dS:aA}{env:kX}(I:Nat->aB->Prop)
  (lI:∀n s,I n s->wpAny (aG prog w) A (aX it) (λr s₁=>match r with
   | none=>R (.ok .next) s₁
   | some v=>wpAny (aG prog w) A (fG bH it v) (λ_ s₂=>wpAny (aG prog w) A (iK bH env v) (λ_ s₃=>
     wpAny (aG prog w) A (forIn lS true λc r=>if r=true then do let ok <-isTrue c env (bL c env);bJ (ForInStep.yield ok)else bJ (ForInStep.yield r)) (λok s₄=>
      if ok=true then wpAny (aG prog w) A (bL lG env) (λx s₅=>
       wpAny (aG prog w) A (call (.builtin "list.append") [dS,x]) (λ_ s₆=>∃m,m<n/\I m s₆) (λ_ _=>False) s₅) (λ_ _=>False) s₄
      else ∃m,m<n/\I m s₄) (λ_ _=>False) s₃) (λ_ _=>False) s₂) (λ_ _=>False) s₁) (λ_ _=>False) s)
  (n:Nat) (h:I n s) :
  bY (aG prog w) A (.compLoop (.ListComp lG [⟨bH,iter,lS,0⟩] scope pos) 0 it dS env) R s:=by
 refine codeAny_loop rfl I (λn s hI=>?_) n h;show wpAny _ A ((compTurn (.ListComp lG [⟨bH,iter,lS,0⟩] scope pos) 0 it dS env).onRaise (λx=>do noteFrame x env;theTreesLotGoes x)) _ _ s;refine wpAny_noted ?_;rw[compTurn_list];refine ac<|eG<|ac<|jj (lI n s hI) (λr s₁ h₁=>?_) λ_ _ h'=>h'.elim;cases r with
 | none=>exact ao h₁
 | some v=>
  refine ac<|jj h₁ (λ_ s₂ h₂=>?_) λ_ _ h'=>h'.elim;refine ac<|jj h₂ (λ_ s₃ h₃=>ac<|jj h₃ (λok s₄ h₄=>?_) λ_ _ h'=>h'.elim) λ_ _ h'=>h'.elim;cases ok with
  | false=>exact ao ⟨rfl,h₄⟩
  | true=>
   exact ac<|ac<|jj h₄ (λx s₅ h₅=>ac<|jj h₅ (λ_ s₆ h₆=>ao<|ao ⟨rfl,h₆⟩) λ_ _ h'=>h'.elim) λ_ _ h'=>h'.elim
def tS(J:It)(sl:Z9 (Option Nat))(g:TG)(tt:TT)(te:TE)(σ:L2.St)(H1:Hp)(D:aF)(Q:VK):Prop:=
 ∃W:Nat->Nat->Hp->Prop,(∃m,W 0 m<|upd H1 D<|.lst [])/\∀i m H,W i m H->(J.stop i H/\Q (.ref D) H)\/
  (J.go i H/\∃N:Hp->Prop,(∀H',N H'->∃m',m'<m/\W (i+1) m' H')/\∀x H',J.yld i H x H'->g x (tf sl σ) H' λσ2 H2=>Agree (tf sl σ) σ2/\tt σ2 H2 λb H3=>
   if b=true then te σ2 H3 λy H4=>∃xs,H4 D=some (.lst xs)/\xs.length<aC/\N (upd H4 D<|.lst<|xs++[y])else N H3)
def xJ(wi:TI)(sl:Z9 (Option Nat))(g:TG)(tt:TT)(te:TE):TE:=λσ H Q=>wi σ H λJ H1=>∀D,H1 D=none->tS J sl g tt te σ H1 D Q
section
variable{X:Cx}{lG bH iter:Expr}{lS:Z9 Expr}{scope:bV}{pos:cU}
theorem acl{N':Z9 Str}{sl:Z9 (Option Nat)}{g:TG}{tt:TT}{te:TE}{aE:Z9 (aF×Obj)}{s₂:aB}{σ:L2.St}{H2:Hp}{Q:VK}{RR:aA->aF->iQ->aB->Prop}{E:aA->aB->Prop}
  {it:aF} {fp:Z9 aF} {tn:Nat->Heap->Prop} {J:It} (hc:X.calm=true) (eK:scope.kind=.function)
  (tD:∀y∈scope.names,y.2≠.cell) (bS:∀x∈scope.names,x.2=.free->X.env.scope.names.lookup x.1=some .cell\/X.env.scope.names.lookup x.1=some .free)
  (lE:slOk X.N N' sl scope X.env.scope=true)
  (hg:∀z,PG (nc X N' scope z) bH g) (ht:∀z,PTs (nc X N' scope z) lS tt) (he:∀z,PE (nc X N' scope z) lG te)
  (I2:Inv X aE σ H2 s₂) (T:tO X.prog X.w X.K bH J fp it tn) (eV:tn 0 s₂.heap) (f2:∀b∈fp,mI X aE H2 b) (hw:∀D,H2 D=none->tS J sl g tt te σ H2 D Q)
  (hR:∀D C H' s',H' C=none->(∃m,s'.heap.Ns C m)->mI X aE H' C->(∀h',cf C s'.heap h'->Inv X aE σ H' {s' with heap:=h'})->Inv X aE σ H' s'->Q (.ref D) H'->RR (.ref D) C (.ok .next) s') :
  wpAny (aG X.prog X.w) X.A (newList []) (λdS s₃=>wpAny (aG X.prog X.w) X.A (newFunctionEnv scope X.env.globals (qv X.env.cells scope.names []) [] X.env.qual none .none<|some X.env) (λcenv s₄=>
   bY (aG X.prog X.w) X.A (.compStart (.ListComp lG [⟨bH,iter,lS,0⟩] scope pos) 0 (.ref it) dS {cenv with scope:=relabel scope X.env}) (RR dS cenv.locals) s₄) E s₃) E s₂:=by
 have CC:∀b∈fp,b<s₂.heap.objs.size:=λb hb=>by obtain⟨o,e,_⟩:=T.obj _ _ eV b hb;exact bi e
 have hD:H2 s₂.heap.objs.size=none:=I2.hok.fresh<|av _;obtain⟨W,⟨m0,w0⟩,lI⟩:=hw _ hD;refine oN ?_<|dv _;have I3:=I2.lnew (ys:=[]) (its:=[]) (t':=s₂.toks) .nil<|dv _;refine wpAny_newFunctionEnv tD (by intro y hy;simp at hy) (λh₁ Iy Ig=>?_) eK;generalize hs3:({s₂ with heap:=s₂.heap.push {cls:=.type "list",data:=.seq ([]:Z9 aA).toArray}}:aB)=s₃ at *;have Cp:s₃.heap=s₂.heap.push {cls:=.type "list",data:=.seq ([]:Z9 aA).toArray}:=by rw[<-hs3]
 have hC3:s₃.heap.objs.size=s₂.heap.objs.size+1:=by rw[Cp,j3]
 have yS:∀b o,s₂.heap.get? b=some o->s₃.heap.get? b=some o:=λb o e=>by rw[Cp];exact ai _ e
 have wC:∀b o,s₃.heap.get? b=some o->h₁.get? b=some o:=λb o e=>Ig.extBut b o (ck<|bi e)<|ai _ e;have dO:∀b∈fp,b≠s₂.heap.objs.size:=λb hb=>ck<|CC b hb;have f3:∀b∈fp,mI X aE (upd H2 s₂.heap.objs.size<|.lst []) b:=λb hb=>⟨by rw[lh (dO b hb)];exact(f2 b hb).1,(f2 b hb).2⟩;have IQ:∀b∈fp,b<s₃.heap.objs.size:=λb hb=>by rw[hC3];exact Nat.lt_succ_of_lt<|CC b hb
 have I4:=aji (tk:=s₃.toks+([]:Z9 (Str×aA)).length) I3 eK tD bS lE f3 IQ Iy wC;have jU:tn 0 h₁:=T.keep _ _ _ eV λb _ o e=>wC b o<|yS b o e;generalize hz:(⟨qv X.env.cells scope.names [],s₃.heap.objs.size,s₃,upd H2 s₂.heap.objs.size<|.lst [],fp⟩:CZ)=z at I4;have ezC:z.C=s₃.heap.objs.size:=by rw[<-hz]
 have ezx:z.ex=fp:=by rw[<-hz]
 have lK:∀{H':Hp},(∀b∈fp,H' b=none)->∀b∈fp,mI (nc X _ scope z) [] H' b:=λhn b hb=>by subst hz;have q:=I4.ok.exf b hb;exact⟨hn b hb,q.1,I4.ok.exfs b hb,.inl hb,q.2,λp hp=>absurd (show p∈([]:Z9 (aF×Obj))from hp)<|by simp⟩
 have loop:∀s₄:aB,s₄={s₃ with heap:=h₁,toks:=s₃.toks+([]:Z9 (Str×aA)).length}->
   bY (aG X.prog X.w) X.A (.compLoop (.ListComp lG [⟨bH,iter,lS,0⟩] scope pos) 0 (.ref it) (.ref s₂.heap.objs.size) (nc X N' scope z).env) (RR (.ref s₂.heap.objs.size) s₃.heap.objs.size) s₄:=by
  rintro s₄ rfl;refine aft (λn s'=>∃i H',Inv (nc X N' scope z) [] (tf sl σ) H' s'/\tn i s'.heap/\(∀b∈fp,H' b=none)/\W i n H') ?_ m0<|lv 0 _ ⟨I4,jU,λb hb=>(f3 b hb).1,w0⟩;rintro n s5 ⟨i,H5,I5,fU,Fk,w5⟩;rcases lI i n H5 w5 with ⟨stop,qn⟩|⟨go,N,hN,step⟩
  .refine thn (T.done (nc X N' scope z) rfl rfl rfl hc i [] s5 _ H5 _ I5 (lK Fk) fU stop) λr s6 ⟨hr,I6⟩=>?_;subst hr;have un:Un (frs X.stack) fp (upd H2 s₂.heap.objs.size<|.lst []) H5 s₃.heap s6.heap:=by subst hz;exact I6.base
   have os6:s6.os=s₃.os:=by subst hz;exact I6.os
   have fC:H5 s₃.heap.objs.size=none:=by subst hz;exact I6.free
   have oF:∀b∈fp,(b∈X.ex\/X.s₀.heap.objs.size<=b)/\b≠X.env.locals/\(∀x c,X.env.cells.lookup x=some c->c≠b)/\∀p∈X.pn++aE,p.1≠b:=λb hb=>⟨(f2 b hb).2.2.2.1,(f2 b hb).2.1,(f2 b hb).2.2.2.2.1,(f2 b hb).2.2.2.2.2⟩;have nC:s₃.heap.get? s₃.heap.objs.size=none:=Heap.get?_none_of_le<|av _;have ns:∃m,s6.heap.Ns s₃.heap.objs.size m:=by subst hz;obtain⟨m,hn,_⟩:=I6.loc;exact⟨m,hn⟩
   refine hR _ _ H5 s6 fC ns (I3.fpOk (av _) fC) (λh' sb=>?_) (I3.call' (ch:=fp) os6 un I6.hok I6.bare oF) qn;exact I3.call' (s':={s6 with heap:=h'}) (ch:=fp) os6 (Un.but un nC sb.extBut) (HOk.but I6.hok fC sb.extBut) I6.bare oF
  .refine thn (T.item (nc X N' scope z) rfl rfl rfl hc i [] s5 _ H5 _ I5 (lK Fk) fU go) λr s6 ⟨u,hr,h6⟩=>?_;subst hr;refine thn h6 λ_ s7 ⟨x,H7,I7,r7,y7,iE,fr7⟩=>?_;have I7':=I7.pinned (lK fr7)<|T.obj _ _ iE;refine thn (hg z _ s7 _ H7 x u _ I7' r7<|step x H7 y7) λ_ s8 ⟨σ8,H8,I8,ag,q8⟩=>?_;have again:∀{s9:aB} {H9:Hp},Inv (nc X N' scope z) ([]++DM fp s7.heap) σ8 H9 s9->N H9->∃m,m<n/\∃i H',Inv (nc X N' scope z) [] (tf sl σ) H' s9/\tn i s9.heap/\(∀b∈fp,H' b=none)/\W i m H':=λ{s9 H9} I9 n9=>by
    obtain⟨m',hm,w9⟩:=hN H9 n9;refine(m8 m' hm (i+1) H9 ⟨(I9.weak ag.1.symm ag.2).unpinned,T.keep _ _ _ iE λb hb o e=>(I9.pin (b,o)<|ci _<|ci _<|xi hb e).1,λb hb=>?_,w9⟩);obtain⟨o,e,d⟩:=T.obj _ _ iE b hb;exact(I9.pin (b,o)<|ci _<|ci _<|xi hb e).2.1
   refine thn (ht z _ s8 σ8 H8 _ I8 q8) λok s9 ⟨H9,I9,q9⟩=>?_;cases ok with
   | false=>exact again I9 q9
   | true=>
    refine thn (he z _ s9 σ8 H9 _ I9 q9) λAA oR ⟨y,Mq,I10,Hf,xs,hx,Cc,n10⟩=>?_;exact thn (qg _ oR σ8 Mq (.ref s₂.heap.objs.size) [y] (.ref s₂.heap.objs.size) [AA] (λ_ H'=>N H') I10 rfl (.cons Hf .nil)<|mj _ xs y ⟨rfl,rfl,hx,Cc,n10⟩) λ_ uG ⟨_,H11,I11,_,n11⟩=>again I11 n11
 have JR:(nc X N' scope z).env=compEnvC scope (qv X.env.cells scope.names []) s₃.heap.objs.size X.env:=by rw[<-hz];rfl
 rw[JR]at loop;exact codeAny_compStart_list (loop _ rfl)<|T.self _ 0 _ _ _ jU<|loop _ rfl
def nk(N':Z9 Str)(sl:Z9 (Option Nat)){wi:TI}{g:TG}{tt:TT}{te:TE}(hc:X.calm=true)(eK:scope.kind=.function)
  (lW:∀x∈scope.names,x.2=.local->scope.names.lookup x.1=some .local)
  (tD:∀y∈scope.names,y.2≠.cell) (lF:frOk scope X.env.scope=true)
  (lE:slOk X.N N' sl scope X.env.scope=true) (hi:PI X bH iter wi)
  (hg:∀z,PG (nc X N' scope z) bH g) (ht:∀z,PTs (nc X N' scope z) lS tt) (he:∀z,PE (nc X N' scope z) lG te)
  (hs:∀x,jC iter X.env x=bJ x:=by intro _;rfl) :
  PE X (.ListComp lG [⟨bH,iter,lS,0⟩] scope pos) (xJ wi sl g tt te):=by
 have bS:=frOk.of lF;intro aE s σ H Q I h;rw[eval_ListComp];have jP:nL scope X.env=bJ (qv X.env.cells scope.names []):=ym λx hx hk=>I.ok.has x.1<|bS x hx hk;refine oP (use:=none) rfl hs jP eK lW<|thn (hi aE s σ H _ I h) λxv s₁ h₁=>thn h₁ λET s₂ h₂=>?_;obtain⟨it,fp,tn,J,H2,e,I2,T,eV,f2,hw⟩:=h₂;subst e;refine acl (RR:=λdS C=>compPost (aG X.prog X.w) X.A X.xe none (EP X aE σ Q) dS C) hc eK tD bS lE hg ht he I2 T eV f2 hw ?_;intro D C H' s' fC ns _ hI _ q;obtain⟨m,hn⟩:=ns;exact⟨m,hn,λh' sb=>(lv (.ref D) H' ⟨hI h' sb,rfl,q⟩)⟩
def vx(N':Z9 Str)(sl:Z9 (Option Nat)){wi:TI}{g:TG}{tt:TT}{te:TE}{i:Nat}{y:Str}{py BE:cU}(hN:X.N.Nodup)(hyi:X.N[i]?=some y)(hx:Loc X.env.scope y)
  (hsw:gH (.ListComp lG [⟨bH,iter,lS,0⟩] scope pos) (some<|.Name y py) BE.line X.env=bJ true) (hc:X.calm=true) (eK:scope.kind=.function)
  (lW:∀x∈scope.names,x.2=.local->scope.names.lookup x.1=some .local)
  (tD:∀y∈scope.names,y.2≠.cell) (lF:frOk scope X.env.scope=true)
  (lE:slOk X.N N' sl scope X.env.scope=true) (hi:PI X bH iter wi)
  (hg:∀z,PG (nc X N' scope z) bH g) (ht:∀z,PTs (nc X N' scope z) lS tt) (he:∀z,PE (nc X N' scope z) lG te)
  (hs:∀x,jC iter X.env x=bJ x:=by intro _;rfl) (hf:X.fn y=true\/X.env.scope.names.lookup y=some .local:=by first|exact .inl rfl|exact .inr rfl|assumption) :
  PS X (.Assign [.Name y py] (.ListComp lG [⟨bH,iter,lS,0⟩] scope pos) BE) (Kc (xJ wi sl g tt te)<|ve i):=by
 have bS:=frOk.of lF;intro aE s σ H D I h;rw[exec_Assign_Name_used _ _ _ _ hsw];refine ac<|eG<|ac ?_;show wpAny _ _ (do let _ <-comprehension (.ListComp lG [⟨bH,iter,lS,0⟩] scope pos) scope X.env _ (newList []) false (bL iter X.env) (some<|iK (.Name y py) X.env)) _ _ s;have jP:nL scope X.env=bJ (qv X.env.cells scope.names []):=ym λx hx hk=>I.ok.has x.1<|bS x hx hk;refine ac (jj (oP (use:=some<|iK (.Name y py) X.env) (Q:=λ_ s'=>SP X aE D .next s') rfl hs jP eK lW
  (thn (hi aE s σ H _ I h) λxv s₁ h₁=>thn h₁ λET s₂ h₂=>?_)) (λ_ s' hq=>ao<|ao hq) λ_ _ e=>e)
 obtain⟨it,fp,tn,J,H2,e,I2,T,eV,f2,hw⟩:=h₂;subst e;refine acl (RR:=λdS C=>compPost (aG X.prog X.w) X.A X.xe (some<|iK (.Name y py) X.env) (λ_ s'=>SP X aE D .next s') dS C) hc eK tD bS lE hg ht he I2 T eV f2 hw ?_;intro E C H' s' fC ns fp hI I' q;obtain⟨m,hn⟩:=ns;show wpAny _ _ (iK (.Name y py) X.env<|.ref E) _ _ _;refine BA<|afb I' hN hyi hx (v:=.ref E) rfl (λs2 I2 ⟨a,sb,ha⟩=>?_) hf;have hCa:C≠a:=by
  rcases ha with ha|ha
  .rw[ha];exact fp.2.1
  .exact λz=>fp.2.2.2.2.1 _ _ ha z.symm
 exact⟨m,hn.sameBut sb hCa,λh3 vR=>(lv _ H' ⟨I2.turned (t':=s2.toks) (λb o hb e=>(vR.2 b hb).trans e) fp.1 fp.2.1 fp.2.2.2.1 fp.2.2.2.2.1 fp.2.2.2.2.2,q⟩)⟩
end
mutual
def Rep(H:Hp):Z8->V->Prop
 | .none,v=>v=.non
 | .bool b,v=>v=.bl b
 | .int i,v=>v=.int i
 | .str x,v=>v=.str x/\kb x=true
 | .tuple ds,v=>∃a xs,v=.ref a/\H a=some (.tup xs)/\RepAll H ds xs
 | .list ds,v=>∃a xs,v=.ref a/\H a=some (.lst xs)/\RepAll H ds xs
 | .dict _,_=>False
def RepAll(H:Hp):Z9 Z8->Z9 V->Prop
 | [],xs=>xs=[]
 | d::ds,xs=>∃x r,xs=x::r/\Rep H d x/\RepAll H ds r
end
mutual
noncomputable def imm:Z8->Bool
 | .none=>true
 | .bool _=>true
 | .int _=>true
 | .str _=>true
 | .tuple ds=>qu ds
 | .list _=>false
 | .dict _=>false
noncomputable def qu:Z9 Z8->Bool
 | []=>true
 | d::ds=>imm d&&qu ds
end
def Tk(H H':Hp):Prop:=∀b xs,H b=some (.tup xs)->H' b=some (.tup xs)
theorem Tk.lst{H:Hp}{p:aF}{xs:Z9 V}{o:HO}(h:H p=some (.lst xs)):Tk H (upd H p o):=λb ys q=>by rw[lh (KQ q h<|by intro z;cases z)];exact q
mutual
theorem Rep.tk{H H':Hp}(t:Tk H H'):∀{d:Z8} {v:V},imm d=true->Rep H d v->Rep H' d v
 | .none,_,_,h=>h
 | .bool _,_,_,h=>h
 | .int _,_,_,h=>h
 | .str _,_,_,h=>h
 | .tuple ds,v,hi,h=>by obtain⟨a,xs,e,ha,r⟩:=h;exact(lv a xs ⟨e,t _ _ ha,RepAll.tk t hi r⟩)
 | .list _,_,hi,_=>absurd hi am
 | .dict _,_,hi,_=>absurd hi am
theorem RepAll.tk{H H':Hp}(t:Tk H H'):∀{ds:Z9 Z8} {xs:Z9 V},qu ds=true->RepAll H ds xs->RepAll H' ds xs
 | [],_,_,h=>h
 | d::ds,xs,hi,h=>by obtain⟨x,r,e,h1,h2⟩:=h;have fH:(imm d&&qu ds)=true:=hi;rw[da]at fH;exact(lv x r ⟨e,Rep.tk t fH.1 h1,RepAll.tk t fH.2 h2⟩)
end
mutual
theorem Rep.same{H H':Hp}(t:Same H H'):∀{d:Z8} {v:V},Rep H d v->Rep H' d v
 | .none,_,h=>h
 | .bool _,_,h=>h
 | .int _,_,h=>h
 | .str _,_,h=>h
 | .tuple ds,v,h=>by obtain⟨a,xs,e,ha,r⟩:=h;exact(lv a xs ⟨e,t _ _ ha,RepAll.same t r⟩)
 | .list ds,v,h=>by obtain⟨a,xs,e,ha,r⟩:=h;exact(lv a xs ⟨e,t _ _ ha,RepAll.same t r⟩)
 | .dict _,_,h=>h
theorem RepAll.same{H H':Hp}(t:Same H H'):∀{ds:Z9 Z8} {xs:Z9 V},RepAll H ds xs->RepAll H' ds xs
 | [],_,h=>h
 | d::ds,xs,h=>by obtain⟨x,r,e,h1,h2⟩:=h;exact(lv x r ⟨e,Rep.same t h1,RepAll.same t h2⟩)
end
theorem RepAll.length{H:Hp}:∀{ds:Z9 Z8} {xs:Z9 V},RepAll H ds xs->xs.length=ds.length
 | [],xs,h=>by have e:xs=[]:=h;rw[e];rfl
 | d::ds,xs,h=>by obtain⟨x,r,e,_,h2⟩:=h;rw[e,bc,bc,RepAll.length h2]
theorem RepAll.get{H:Hp}:∀{ds:Z9 Z8} {xs:Z9 V} {i:Nat} {d:Z8},RepAll H ds xs->ds[i]?=some d->∃x,xs[i]?=some x/\Rep H d x
 | [],_,_,_,_,e=>by simp at e
 | d::ds,xs,0,d',h,e=>by obtain⟨x,r,e1,h1,_⟩:=h;subst e1;simp at e;subst e;exact⟨x,rfl,h1⟩
 | d::ds,xs,i+1,d',h,e=>by obtain⟨x,r,e1,_,h2⟩:=h;subst e1;obtain⟨y,h3,h4⟩:=RepAll.get (i:=i) h2 (by simpa using e);exact⟨y,by simpa using h3,h4⟩
theorem RepAll.at{H:Hp}{ds:Z9 Z8}{xs:Z9 V}{i:Nat}{x:V}(h:RepAll H ds xs)(e:xs[i]?=some x):∃d,ds[i]?=some d/\Rep H d x:=by
 have hi:i<xs.length:=(ar.mp e).1;have fH:i<ds.length:=by rw[<-h.length];exact hi
 obtain⟨y,h1,h2⟩:=h.get<|ae fH;rw[e]at h1;cases h1;exact⟨_,ae fH,h2⟩
theorem RepAll.append{H:Hp}:∀{ds es:Z9 Z8} {xs ys:Z9 V},RepAll H ds xs->RepAll H es ys->RepAll H (ds++es) (xs++ys)
 | [],es,xs,ys,h,h'=>by have e:xs=[]:=h;rw[e];exact h'
 | d::ds,es,xs,ys,h,h'=>by obtain⟨x,r,e,h1,h2⟩:=h;subst e;exact(lv x (r++ys) ⟨rfl,h1,RepAll.append h2 h'⟩)
def RepAll.snoc{H:Hp}{ds:Z9 Z8}{d:Z8}{xs:Z9 V}{x:V}(h:RepAll H ds xs)(h':Rep H d x):RepAll H (ds++[d]) (xs++[x]):=h.append<|lv x ([]) ⟨rfl,h',rfl⟩
theorem RepAll.drop{H:Hp}:∀{ds:Z9 Z8} {xs:Z9 V} (n:Nat),RepAll H ds xs->RepAll H (ds.drop n) (xs.drop n)
 | _,_,0,h=>h
 | [],xs,n+1,h=>by have e:xs=[]:=h;rw[e];rfl
 | d::ds,xs,n+1,h=>by obtain⟨x,r,e,_,h2⟩:=h;subst e;exact RepAll.drop n h2
theorem RepAll.take{H:Hp}:∀{ds:Z9 Z8} {xs:Z9 V} (n:Nat),RepAll H ds xs->RepAll H (ds.take n) (xs.take n)
 | _,_,0,_=>rfl
 | [],xs,n+1,h=>by have e:xs=[]:=h;rw[e];rfl
 | d::ds,xs,n+1,h=>by obtain⟨x,r,e,h1,h2⟩:=h;subst e;exact(lv x (r.take n) ⟨rfl,h1,RepAll.take n h2⟩)
mutual
theorem Rep.lay{H:Hp}:∀{d:Z8} {v:V},Rep H d v->d.canLay0=true
 | .none,_,_=>rfl
 | .bool _,_,_=>rfl
 | .int _,_,_=>rfl
 | .str _,_,h=>h.2
 | .tuple ds,_,h=>by obtain⟨_,_,_,_,r⟩:=h;exact RepAll.lay r
 | .list ds,_,h=>by obtain⟨_,_,_,_,r⟩:=h;exact RepAll.lay r
 | .dict _,_,h=>h.elim
theorem RepAll.lay{H:Hp}:∀{ds:Z9 Z8} {xs:Z9 V},RepAll H ds xs->PyData.canLayAll0 ds=true
 | [],_,_=>rfl
 | d::ds,_,h=>by obtain⟨x,r,e,h1,h2⟩:=h;show(d.canLay0&&PyData.canLayAll0 ds)=true;rw[Rep.lay h1,RepAll.lay h2];rfl
end
section
variable{X:Cx}{aE:Z9 (aF×Obj)}{σ:L2.St}{H:Hp}{s:aB}
mutual
theorem Rep.reads(I:Inv X aE σ H s):∀{d:Z8} {v:V} {u:aA},Rep H d v->RelV v u->∃as,Reads s.heap u d as
 | .none,v,u,h,r=>by cases (show v=.non from h);cases (show u=aA.none from r);exact⟨_,.none⟩
 | .bool b,v,u,h,r=>by cases (show v=.bl b from h);cases (show u=aA.bool b from r);exact⟨_,.bool b⟩
 | .int i,v,u,h,r=>by cases (show v=.int i from h);obtain⟨t,e⟩:=(show ∃t,u=aA.int i t from r);cases e;exact⟨_,.int i t⟩
 | .str x,v,u,h,r=>by cases (show v=.str x from h.1);obtain⟨t,e⟩:=(show ∃t,u=aA.str x t from r);cases e;exact⟨_,.str x t⟩
 | .tuple ds,v,u,h,r=>by obtain⟨a,xs,e,ha,q⟩:=h;subst e;cases (show u=aA.ref a from r);obtain⟨its,rv,⟨o,e1,e2,n,e3⟩,_⟩:=I.tuple<|SqT.of (K:=X.K) ha;obtain⟨as,z⟩:=RepAll.reads I q rv;exact⟨as,.tuple e1 e2 e3 z⟩
 | .list ds,v,u,h,r=>by obtain⟨a,xs,e,ha,q⟩:=h;subst e;cases (show u=aA.ref a from r);obtain⟨its,rv,⟨o,n,e1,e2,_,e3⟩,_⟩:=I.list<|SqL.of (K:=X.K) ha;obtain⟨as,z⟩:=RepAll.reads I q rv;exact⟨_,.list e1 e2 e3 z⟩
 | .dict _,_,_,h,_=>h.elim
theorem RepAll.reads(I:Inv X aE σ H s):∀{ds:Z9 Z8} {xs:Z9 V} {us:Z9 aA},RepAll H ds xs->Vals xs us->∃as,ReadsAll s.heap us ds as
 | [],xs,us,h,r=>by cases (show xs=[]from h);cases r;exact⟨_,.nil⟩
 | d::ds,xs,us,h,r=>by
  obtain⟨x,t,e,h1,h2⟩:=h;subst e;cases r with
  | cons r1 r2=>
   obtain⟨as,z1⟩:=Rep.reads I h1 r1;obtain⟨bs,z2⟩:=RepAll.reads I h2 r2;exact⟨_,.cons z1 z2⟩
end
end
def a0d(neg:Bool):R2:=λx y H Q=>∃dx dy,Rep H dx x/\Rep H dy y/\dx.depth<=60/\Q (.bl (if neg then !c8 dx dy else c8 dx dy)) H
section
variable{X:Cx}
def FP(hu:X.A.units+64<bM):OpR X (aS .Eq) (a0d false):=by intro aE s σ H x y v u Q I rx ry h;obtain⟨dx,dy,hx,hy,hd,q⟩:=h;obtain⟨as,r1⟩:=hx.reads I rx;obtain⟨bs,r2⟩:=hy.reads I ry;exact SeqAt.compareEq_reads r1 r2 hx.lay hy.lay (by have:=Nat.min_le_left dx.depth dy.depth;lia)<|lv (.bl _) H ⟨I,rfl,q⟩
def Bv(hu:X.A.units+64<bM):OpR X (aS .NotEq) (a0d true):=by intro aE s σ H x y v u Q I rx ry h;obtain⟨dx,dy,hx,hy,hd,q⟩:=h;obtain⟨as,r1⟩:=hx.reads I rx;obtain⟨bs,r2⟩:=hy.reads I ry;exact SeqAt.compareNe_reads r1 r2 hx.lay hy.lay (by have:=Nat.min_le_left dx.depth dy.depth;lia)<|lv (.bl _) H ⟨I,rfl,q⟩
def a0k(neg:Bool):R2:=λx y H Q=>∃d p xs ds,Rep H d x/\y=.ref p/\(H p=some (.lst xs)\/H p=some (.tup xs))/\RepAll H ds xs/\d.depth<=60/\
 Q (.bl (if neg then !(ds.any λe=>c8 e d)else ds.any λe=>c8 e d)) H
def aqs(hu:X.A.units+64<bM):OpR X (aS .In) (a0k false):=by
 intro aE s σ H x y v u Q I rx ry h;obtain⟨d,p,xs,ds,hx,rfl,hp,dJ,hd,q⟩:=h;cases ry;obtain⟨bs,r2⟩:=hx.reads I rx;have pT:X.A.units+1+lB (bg ds) d.depth<bM:=by have:=Nat.min_le_right (bg ds) d.depth;lia
 rcases hp with hp|hp
 .obtain⟨as,r1⟩:=Rep.reads I (d:=.list ds) (v:=.ref p) (u:=.ref p) (lv p xs ⟨rfl,hp,dJ⟩) rfl;exact SeqAt.in_list_reads r1 r2 dJ.lay hx.lay pT<|lv (.bl _) H ⟨I,rfl,q⟩
 .obtain⟨as,r1⟩:=Rep.reads I (d:=.tuple ds) (v:=.ref p) (u:=.ref p) (lv p xs ⟨rfl,hp,dJ⟩) rfl;exact SeqAt.in_tuple_reads r1 r2 dJ.lay hx.lay pT<|lv (.bl _) H ⟨I,rfl,q⟩
def yk(hu:X.A.units+64<bM):OpR X (aS .NotIn) (a0k true):=by
 intro aE s σ H x y v u Q I rx ry h;obtain⟨d,p,xs,ds,hx,rfl,hp,dJ,hd,q⟩:=h;cases ry;obtain⟨bs,r2⟩:=hx.reads I rx;have pT:X.A.units+1+lB (bg ds) d.depth<bM:=by have:=Nat.min_le_right (bg ds) d.depth;lia
 rcases hp with hp|hp
 .obtain⟨as,r1⟩:=Rep.reads I (d:=.list ds) (v:=.ref p) (u:=.ref p) (lv p xs ⟨rfl,hp,dJ⟩) rfl;exact SeqAt.notIn_list_reads r1 r2 dJ.lay hx.lay pT<|lv (.bl _) H ⟨I,rfl,q⟩
 .obtain⟨as,r1⟩:=Rep.reads I (d:=.tuple ds) (v:=.ref p) (u:=.ref p) (lv p xs ⟨rfl,hp,dJ⟩) rfl;exact SeqAt.notIn_tuple_reads r1 r2 dJ.lay hx.lay pT<|lv (.bl _) H ⟨I,rfl,q⟩
def ni:qj X (.builtin "isinstance") (λxs H Q=>∃x T t b,xs=[x,.ty T]/\iW X.K H x t/\cj X.K t (.type T)=some b/\Q (.bl b) H):=by intro aE s σ H xs us Q I r h;obtain⟨x,T,t,b,rfl,ty,e,q⟩:=h;obtain⟨u,w',rfl,r1,r2⟩:=Al r;cases (show w'=aA.type T from r2);exact ale I r1 ty e λtk=>(lv (.bl b) H ⟨I.tok _,rfl,q⟩)
end
noncomputable def Kp:Z8->Z8->Bool
 | .int a,.int b=>decide (a<b)
 | .str a,.str b=>decide (a.cps.toList<b.cps.toList)
 | _,_=>false
noncomputable def qt:Z9 Z8->Z9 Z8->Bool
 | [],[]=>false
 | [],_::_=>true
 | _::_,[]=>false
 | x::xs,y::ys=>if c8 x y=true then qt xs ys else Kp x y
def Row:Z9 Bool->Z9 Z8->Prop
 | [],ds=>ds=[]
 | true::ks,ds=>∃i r,ds=.int i::r/\Row ks r
 | false::ks,ds=>∃x r,ds=.str x::r/\Row ks r
noncomputable def vk:Z8->Z9 Z8
 | .tuple ds=>ds
 | _=>[]
noncomputable def tQ(ds:Z9 Z8)(i j:Nat):Bool:=qt (vk<|ds.getD i .none)<|vk<|ds.getD j .none
noncomputable def qp(ds:Z9 Z8):Z9 Z8:=(srt (tQ ds) ds.length).map λi=>ds.getD i .none
section
variable{prog:aI}{w:aJ}{A:Around}{E:aA->aB->Prop}{s:aB}{Q:Bool->aB->Prop}
theorem F6:∀{ks:Z9 Bool} {xs ys:Z9 Z8} {us vs:Z9 aA} {as bs:Z9 aF} {i:Nat},Row ks xs->Row ks ys->ReadsAll s.heap us xs as->ReadsAll s.heap vs ys bs->Q (qt xs ys) s->
  PySem.W.KatLex prog w A true false Q (us.zip vs) i s
 | [],xs,ys,us,vs,as,bs,i,h1,h2,r1,r2,q=>by cases (show xs=[]from h1);cases (show ys=[]from h2);cases r1;cases r2;exact q
 | true::ks,xs,ys,us,vs,as,bs,i,h1,h2,r1,r2,q=>by
  obtain⟨a,xr,rfl,h1⟩:=h1;obtain⟨b,yr,rfl,h2⟩:=h2;cases r1 with
  | cons ra r1=>
   cases r2 with
   | cons rb r2=>
    cases ra with
    | int _ t=>
     cases rb with
     | int _ u=>
      rw[List.zip_cons_cons];refine PySem.W.kat_cons<|SeqAt.EqAt.int_int a t b u prog w _ _ ?_;have q':Q (if c8 (.int a) (.int b)=true then qt xr yr else Kp (.int a) (.int b)) s:=q;have e:c8 (.int a) (.int b)=(a==b):=rfl;rw[e]at q';cases hb:(a==b)with
      | true=>rw[hb,if_pos rfl]at q';exact PySem.W.kat_yes (F6 h1 h2 r1 r2 q')
      | false=>
       rw[hb,if_neg am]at q';refine PySem.W.kat_no ?_;cases hi:(i==0)with
       | true=>exact oneLt_int q'
       | false=>exact PySem.W.kat_one _ _ (lt_int q')
 | false::ks,xs,ys,us,vs,as,bs,i,h1,h2,r1,r2,q=>by
  obtain⟨a,xr,rfl,h1⟩:=h1;obtain⟨b,yr,rfl,h2⟩:=h2;cases r1 with
  | cons ra r1=>
   cases r2 with
   | cons rb r2=>
    cases ra with
    | str _ t=>
     cases rb with
     | str _ u=>
      rw[List.zip_cons_cons];refine PySem.W.kat_cons<|SeqAt.EqAt.str_str a t b u prog w _ _ ?_;have q':Q (if c8 (.str a) (.str b)=true then qt xr yr else Kp (.str a) (.str b)) s:=q;have e:c8 (.str a) (.str b)=(a==b):=rfl;rw[e]at q';cases hb:(a==b)with
      | true=>rw[hb,if_pos rfl]at q';exact PySem.W.kat_yes (F6 h1 h2 r1 r2 q')
      | false=>
       rw[hb,if_neg am]at q';refine PySem.W.kat_no ?_;cases hi:(i==0)with
       | true=>exact oneLt_str q'
       | false=>exact PySem.W.kat_one _ _<|PyProof.Rows.lt_str q'
end
theorem Row.len{ks:Z9 Bool}:∀{ds:Z9 Z8},Row ks ds->ds.length=ks.length:=by
 induction ks with
 | nil=>intro ds h;cases (show ds=[]from h);rfl
 | cons k ks ih=>
  intro ds h;cases k with
  | true=>obtain⟨i,r,rfl,h⟩:=h;rw[bc,bc,ih h]
  | false=>obtain⟨i,r,rfl,h⟩:=h;rw[bc,bc,ih h]
def Rows(ks:Z9 Bool)(ds:Z9 Z8):Prop:=∀d∈ds,∃r,d=.tuple r/\Row (true::ks) r
section
variable{X:Cx}
theorem are(I:Inv X aE σ H s){ks:Z9 Bool}{d:Z8}{v:V}{u:aA}(h:Rep H d v)(r:RelV v u){row:Z9 Z8}(e:d=.tuple row)(hr:Row (true::ks) row) :
  ∃a o vs n as i t,u=.ref a/\s.heap.get? a=some o/\o.cls=.type "tuple"/\o.data=.seq vs n/\ReadsAll s.heap vs.toList row as/\vs[0]?=some (.int i t):=by
 subst e;obtain⟨as,z⟩:=h.reads I r;cases z with
 | @tuple a o vs n _ _ e1 e2 e3 z=>
  obtain⟨i,rr,rfl,_⟩:=hr;have z':=z;generalize hv:vs.toList=vl at z;cases z with
  | cons ra rb=>
   cases ra with
   | int _ t=>
    refine(nj a o vs n _<|lv i t ⟨rfl,e1,e2,e3,z',?_⟩);rw[<-b8,hv];rfl
theorem ail(I:Inv X aE σ H s){ks:Z9 Bool}:∀{ds:Z9 Z8} {xs:Z9 V} {us:Z9 aA},RepAll H ds xs->Vals xs us->Rows ks ds->∃fs:Z9 aA,PySem.W.KatTups s.heap us fs/\fs.length=ds.length/\∀v∈fs,∃i t,v=aA.int i t
 | [],xs,us,h,r,_=>by cases (show xs=[]from h);cases r;exact⟨[],trivial,rfl,λv hv=>by cases hv⟩
 | d::ds,xs,us,h,r,hr=>by
  obtain⟨x,t,e,h1,h2⟩:=h;subst e;cases r with
  | cons r1 r2=>
   obtain⟨row,e,nX⟩:=hr d aj;obtain⟨a,o,vs,n,as,i,tk,rfl,e1,e2,e3,_,e4⟩:=are I h1 r1 e nX;obtain⟨fs,k1,k2,k3⟩:=ail I h2 r2 λd hd=>hr d<|ak _ hd;refine⟨.int i tk::fs,PySem.W.KatTups.cons e1 e2 e3 e4 k1,by rw[bc,bc,k2],λv hv=>?_⟩;rcases ap.mp hv with rfl|hv
   .exact(lv i tk rfl)
   .exact k3 v hv
theorem KatTups.keeps{h h':Heap}(k:∀b o,h.get? b=some o->h'.get? b=some o):∀{vs fs:Z9 aA},PySem.W.KatTups h vs fs->PySem.W.KatTups h' vs fs
 | [],[],_=>trivial
 | v::vs,f::fs,x=>by obtain⟨⟨a,o,xs,n,e,e1,e2⟩,r⟩:=x;exact⟨(lr a o xs n ⟨e,k _ _ e1,e2⟩),KatTups.keeps k r⟩
 | [],_::_,x=>x.elim
 | _::_,[],x=>x.elim
end
end L3
namespace L3
open PySem PySem.Spec PyProof.Rows
def afc(a v:aA):tM "min" ⟨[a],[(aa "default",v)]⟩:=by unfold tM;kernel_rfl
section
variable{prog:aI}{w:aJ}{A:Around}{R:iQ->aB->Prop}{I:aF}{fp wr:Z9 aF}{n:Nat}{P:Nat->aA->Prop}{St:Nat->Heap->Prop}
theorem amv(kw:Z9 (Str×aA))(W:gE prog w A.in1 I fp wr n P St)(bt:Nat->Nat->Bool)(rG:CmpOf prog w A.in1 .Lt P bt)(S:aF)(jA:S∉fp) :
  ∀(k j:Nat)(s:aB)(vb:aA)(c:Nat),n-(j+1)=k->j+1<=n->St (j+1) s.heap->P (eD bt j) vb->
  s.heap.get? S=some {cls:=.type "list",dict:=none,data:=.seq #[vb,vb] c,slots:=#[]}->
  (∀v h' tk,P (eD bt<|n-1) v->(∀b o,b∉wr->b≠S->s.heap.get? b=some o->h'.get? b=some o)->R (.ok<|.ret v) {s with heap:=h',toks:=tk})->
  bY (aG prog w) A (.builtin "min.loop" ⟨[.ref I,.none,.ref S],kw⟩) R s:=by
 have wU:S∉wr:=λh=>jA<|W.sub _ h;have nm:(cB "min" ++ cB ".loop" : String)="min.loop":=by decide
 intro k;induction k with
 | zero=>
  intro j s vb c hk hj bD Fc hS hR;have oW:j+1=n:=by omega
  refine fc F.entry_min_loop ?_;rw[dz je _];show wpAny _ A.in1 (gJ (.ref S) >>= _) _ _ s;refine ac<|jp hS rfl ?_;show wpAny _ A.in1 (mO (aX<|.ref I) _ >>= _) _ _ s;refine ac<|dP<|W.done s _ _ (oW▸bD) λh' tk hk'=>?_;have iI:=hk' S _ wU hS;show wpAny _ A.in1 (jT S (λ_=>#[]) >>= _) _ _ _;refine ac<|cD iI rfl<|ac<|dU<|ao ?_;exact hR vb _ tk (by rw[<-oW];exact Fc) λb o oZ uY e=>(c6 _ _<|Ne.symm uY).trans (hk' b o oZ e)
 | succ k ih=>
  intro j s vb c hk hj bD Fc hS hR;have bX:j+1<n:=by omega
  refine fc F.entry_min_loop ?_;rw[dz je _];show wpAny _ A.in1 (gJ (.ref S) >>= _) _ _ s;refine ac<|jp hS rfl ?_;show wpAny _ A.in1 (mO (aX<|.ref I) _ >>= _) _ _ s;refine ac<|dP<|W.item (j+1) s _ _ bX bD λv h' tk hP fN hk'=>?_;have iI:=hk' S _ wU hS;show wpAny _ A.in1 (mO (eY [v,v]<|richCompare .Lt v vb >>= _) _ >>= _) _ _ _;refine ac<|dP<|db<|ac<|rG (j+1) (eD bt j) v vb _ _ _ hP Fc ?_;refine ac<|db<|gf ?_;refine ac<|dU<|ao ?_;cases hb:bt (j+1) (eD bt j)with
  | true=>
   simp only[if_true];refine ac<|cD iI rfl<|ac<|dU ?_;rw[nm];refine ao ⟨jh je _,ih (j+1) _ v _ (by omega) bX (W.frame _ _ _ fN λb Jo o e=>?_) (by simp only[eD,hb,if_true];exact hP) (dq _ iI rfl) λv' zV pO tI qW=>?_⟩
   .exact(c6 _ _ λh:S=b=>jA<|by rw[h];exact Jo).trans e
   .exact hR v' zV pO tI λb o oZ uY e=>qW b o oZ uY ((c6 _ _<|Ne.symm uY).trans (hk' b o oZ e))
  | false=>
   simp only[bj,if_false];refine ac<|dU ?_;rw[nm];refine ao ⟨jh je _,ih (j+1) _ vb c (by omega) bX fN (by simp only[eD,hb,bj,if_false];exact Fc) iI λv' zV pO tI qW=>?_⟩;exact hR v' zV pO tI λb o oZ uY e=>qW b o oZ uY<|hk' b o oZ e
def ain(kw:Z9 (Str×aA))(W:gE prog w A.in1 I fp wr n P St)(bt:Nat->Nat->Bool)(rG:CmpOf prog w A.in1 .Lt P bt)(S:aF)(jA:S∉fp)(hn:0<n){s:aB}{c:Nat}(bD:St 0 s.heap)
  (hS:s.heap.get? S=some {cls:=.type "list",dict:=none,data:=.seq #[] c,slots:=#[]})
  (hR:∀v h' tk,P (eD bt<|n-1) v->(∀b o,b∉wr->b≠S->s.heap.get? b=some o->h'.get? b=some o)->R (.ok<|.ret v) {s with heap:=h',toks:=tk}) :
  bY (aG prog w) A (.builtin "min.loop" ⟨[.ref I,.none,.ref S],kw⟩) R s:=by
 have wU:S∉wr:=λh=>jA<|W.sub _ h;have nm:(cB "min" ++ cB ".loop" : String)="min.loop":=by decide
 refine fc F.entry_min_loop ?_;rw[dz je _];show wpAny _ A.in1 (gJ (.ref S) >>= _) _ _ s;refine ac<|jp hS rfl ?_;show wpAny _ A.in1 (mO (aX<|.ref I) _ >>= _) _ _ s;refine ac<|dP<|W.item 0 s _ _ hn bD λv h' tk hP fN hk'=>?_;have iI:=hk' S _ wU hS;show wpAny _ A.in1 (jT S (λ_=>#[v,v]) >>= _) _ _ _;refine ac<|cD iI rfl ?_;rw[nm];refine ao ⟨jh je _,amv kw W bt rG S jA _ 0 _ v _ rfl hn (W.frame _ _ _ fN λb Jo o e=>?_) hP (dq _ iI rfl) λv' zV pO tI qW=>?_⟩
 .exact(c6 _ _ λh:S=b=>jA<|by rw[h];exact Jo).trans e
 .exact hR v' zV pO tI λb o oZ uY e=>qW b o oZ uY<|(c6 _ _<|Ne.symm uY).trans (hk' b o oZ e)
end
section
variable{prog:aI}{w:aJ}{A:Around}{E:aA->aB->Prop}{s:aB}
theorem ago{x d:aA}{Q:aA->aB->Prop}
  (h:wpAny (aG prog w) A.in1 (iF x) (λit s₂=>∃I fp wr n P St bt,it=.ref I/\gE prog w A.in1 I fp wr n P St/\St 0 s₂.heap/\(∀b∈fp,b<s₂.heap.objs.size)/\0<n/\CmpOf prog w A.in1 .Lt P bt/\
   ∀v h' tk,P (eD bt<|n-1) v->(∀b o,b∉wr->s₂.heap.get? b=some o->h'.get? b=some o)->Q v {s₂ with heap:=h',toks:=tk}) E s) :
  wpAny (aG prog w) A (call (.builtin "min") [x] [(aa "default",d)]) Q E s:=by
 have nm:(cB "min" ++ cB ".loop" : String)="min.loop":=by decide
 refine cH<|jg F.plain_min F.entry_min ?_;simp only[eM,F.kind_min];have go:wpAny (aG prog w) A.in1 (Builtin.«min» ⟨[x],[(aa "default",d)]⟩) (λcS s'=>match cS with
   | .done f=>(match (Except.ok f:iQ)with|.ok (.ret v)=>Q v s'|.ok _=>False|.error e=>E e s')
   | .again c'=>c'.quiet=true/\bY (aG prog w) A c' (λr s'=>match r with|.ok (.ret v)=>Q v s'|.ok _=>False|.error e=>E e s') s') E s:=by
  show wpAny _ A.in1 (kc "min" ["key","default"] 0 ⟨[],[(aa "default",d)]⟩ >>= _) _ _ s;refine ac<|cJ (show kc "min" ["key","default"] 0 ⟨[],[(aa "default",d)]⟩=bJ [none,some d]from rfl) ?_;refine ac<|ao ?_;refine ac<|jj h (λit s₂ h₂=>?_) λ_ _ e=>e;obtain⟨I,fp,wr,n,P,St,bt,rfl,W,bD,uX,hn,rG,hQ⟩:=h₂;refine ac<|gg ?_;have jA:s₂.heap.objs.size∉fp:=λhm=>gy _<|uX _ hm;rw[nm];refine ao ⟨jh je _,ain _ W bt rG s₂.heap.objs.size jA hn (W.frame _ _ _ bD λb _ o e=>ai _ e) (ba _ rfl) λv h' tk hP hk=>?_⟩;exact hQ v h' tk hP λb o oZ e=>hk b o oZ (ck<|bi e)<|ai _ e
 cases yX:Manifest.signature? "min" with
 | none=>exact ao go
 | some BF=>
  have dG:Bind.checkArgs "min" BF ⟨[x],[(aa "default",d)]⟩=bJ ():=by have:=afc x d;simpa only [tM,yX]using this
  simp only[dG];exact ao go
def akh{l:aF}{d:aA}{vs:Z9 aA}{ns:Z9 Int}{Q:aA->aB->Prop}(hh:A.handled=none)(hl:s.heap.IsList l vs.toArray)(hi:fB vs ns)(dO:0<ns.length)
  (h:∀h' M (t:pN) tk,(∀b o,s.heap.get? b=some o->h'.get? b=some o)->M∈ns->(∀a,a∈ns->M<=a)->Q (.int M t) {s with heap:=h',toks:=tk}) :
  wpAny (aG prog w) A (call (.builtin "min") [.ref l] [(aa "default",d)]) Q E s:=by
 obtain⟨xs,e⟩:=hi.allInts.items;have iU:ns=xs.toList.map (·.1):=by rw[<-hi.numsOf,<-oS,<-e]
 have hsz:0<xs.size:=by have h3:=dO;rw[iU,af,bh]at h3;exact h3
 rw[e]at hl;refine ago<|iter_intList hl λs₂ e st uX IT=>?_;subst e;refine(nj _ _ _ _ _<|lv _ _ ⟨rfl,gE.list (A:=A.in1) hh _ l IT<|dR xs,st,uX,by simpa [dR]using hsz,CmpOf.ints_lt (BU xs) λ_ _=>kI,λv h' tk hP hk=>?_⟩);have hv:(dR xs)[eD (λi j=>decide<|BU xs i<BU xs j) (xs.size-1)]?=some v:=by simpa [dR]using hP
 obtain⟨t,rfl⟩:=kI hv;obtain⟨h1,h2⟩:=argBest_lt (BU xs)<|xs.size-1;refine h _ _ t tk (old_kept hk) ?_ λa ha=>?_
 .rw[iU,iZ];exact getD_mem<|by rw[af,bh];omega
 .rw[iU]at ha;obtain⟨j,hj,rfl⟩:=mem_getD ha;rw[af,bh]at hj;rw[<-iZ];exact h2 j<|by omega
def ak9{l:aF}{vs:Z9 aA}{ns:Z9 Int}{Q:aA->aB->Prop}(hh:A.handled=none)(hl:s.heap.IsList l vs.toArray)(hi:fB vs ns)(dO:0<ns.length)
  (h:∀h' M (t:pN) tk,(∀b o,s.heap.get? b=some o->h'.get? b=some o)->M∈ns->(∀a,a∈ns->M<=a)->Q (.int M t) {s with heap:=h',toks:=tk}) :
  wpAny (aG prog w) A (call (.builtin "min") [.ref l]) Q E s:=by
 obtain⟨xs,e⟩:=hi.allInts.items;have iU:ns=xs.toList.map (·.1):=by rw[<-hi.numsOf,<-oS,<-e]
 have hsz:0<xs.size:=by have h3:=dO;rw[iU,af,bh]at h3;exact h3
 rw[e]at hl;refine min_intList hh hl hsz λv h' tk hv hk=>?_;obtain⟨t,rfl⟩:=kI hv;obtain⟨h1,h2⟩:=argBest_lt (BU xs)<|xs.size-1;refine h _ _ t tk hk ?_ λa ha=>?_
 .rw[iU,iZ];exact getD_mem<|by rw[af,bh];omega
 .rw[iU]at ha;obtain⟨j,hj,rfl⟩:=mem_getD ha;rw[af,bh]at hj;rw[<-iZ];exact h2 j<|by omega
end
end L3
namespace L3
open PySem PySem.Spec PyProof.Rows L2
noncomputable def o7:Expr->Bool
 | .Starred _ _=>false
 | _=>true
def m9{e:Expr}{es:Z9 Expr}{env:kX}(h:o7 e=true):aK (e::es) env=(false,bL e env)::aK es env:=by cases e<;>first|rfl|exact absurd h am
theorem wt{pos:cU}{env:kX}:∀{es:Z9 Expr},es.all o7=true->(bA pos<|aK es env).any (·.1)=false
 | [],_=>rfl
 | e::es,h=>by rw[List.all_cons,da]at h;rw[m9 h.1];show(false||(bA pos<|aK es env).any (·.1))=false;rw[wt h.2];rfl
def ku{X:Cx}{e:Expr}{es:Z9 Expr}{te:TE}{t:TA}(ha:PE X e te)(hr:PA X es t)(h:o7 e=true:=by rfl):PA X (e::es) (sL te t):=ata ha hr<|m9 h
def mw{X:Cx}{x:Str}{p pos:cU}{e:Expr}{es:Z9 Expr}{t:TA}{id:String}{r:Z9 V->Hp->VK->Prop}(hc:qj X (.builtin id) r)(hg:Gl X x)(hm:X.mg x=none)(hv:bP x=some (.builtin id))(ha:PA X (e::es) t)
  (hn:x≠"__name__":=by decide) (kQ:(x==("__debug__" : Str))=false:=by decide) (h1:o7 e=true:=by rfl) (h2:es.all o7=true:=by rfl):PE X (.Call (.Name x p) (e::es) [] pos) (tCB r t):=
 ap6 hc hg hm hv ha hn kQ (m9 h1) (wt h2)
def x9{X:Cx}{x:Str}{p pos:cU}{e:Expr}{es:Z9 Expr}{t:TA}{T:String}{r:Z9 V->Hp->VK->Prop}(hc:qj X (.type T) r)(hg:Gl X x)(hm:X.mg x=none)(hv:bP x=some (.type T))(ha:PA X (e::es) t)
  (hn:x≠"__name__":=by decide) (kQ:(x==("__debug__" : Str))=false:=by decide) (h1:o7 e=true:=by rfl) (h2:es.all o7=true:=by rfl):PE X (.Call (.Name x p) (e::es) [] pos) (tCB r t):=
 am5 hc hg hm hv ha hn kQ (m9 h1) (wt h2)
def tV{X:Cx}{tg a:Expr}{ta:TA}{p pos:cU}(hg:Gl X "range")(hm:X.mg "range" = none)(ha:PA X [a] ta)(h:o7 a=true:=by rfl):PI X tg (.Call (.Name "range" p) [a] [] pos) (auz ta):=
 an1 hg hm ha (m9 h)
def axd{X:Cx}{tg a b:Expr}{ta:TA}{p pos:cU}(hg:Gl X "range")(hm:X.mg "range" = none)(ha:PA X [a,b] ta)(h:o7 a=true:=by rfl)(h2:o7 b=true:=by rfl):PI X tg (.Call (.Name "range" p) [a,b] [] pos) (av3 ta):=
 ala hg hm ha (by rw[m9 h,m9 h2];rfl) (by rw[m9 h2];rfl)
def Fn(P:aI)(w:aJ)(K:aq)(mg:Str->Option aA)(base:Heap)(x:Str)(k:Nat)(ps:Z9 Str)(sp:Sp):Prop:=
 ∃f fd,FnOk P w K mg base CX0 k f fd ps sp/\mg x=some (.ref f)/\PySem.W.keepIn K (.ref f)=true/\Binds K fd ps []
section
variable{X:Cx}{k j:Nat}{ps:Z9 Str}{sp:Sp}{x:Str}{p pos nW:cU}{e e2:Expr}{es:Z9 Expr}{t tk:TA}{te:TE}
def me(F:Fn X.prog X.w X.K X.mg X.base x k ps sp)(hr:Room j X.A)(hk:k<=j)(hg:Gl X x)
  (ha:PA X (e::es) t) (kQ:(x==("__debug__" : Str))=false:=by decide) (h1:o7 e=true:=by rfl) (h2:es.all o7=true:=by rfl) :
  PE X (.Call (.Name x p) (e::es) [] pos) (KN sp [] E0 t):=by
 obtain⟨f,fd,F,m,kp,b⟩:=F;exact akz F (hr.mono hk) hg m kp b .nil azi ha kQ (m9 h1)<|wt h2
def Kk:Z9 V->Hp->VK->Prop:=λxs H Q=>∃q,∃ns:Z9 Int,xs=[.ref q]/\H q=some (.lst<|ns.map V.int)/\0<ns.length/\∀M,M∈ns->(∀a∈ns,M<=a)->Q (.int M) H
def aef(hc:X.calm=true):qj X (.builtin "min") Kk:=by intro aE s σ H xs us Q I r h;obtain⟨q,ns,rfl,hq,hn,h⟩:=h;obtain⟨u,rfl,r1⟩:=se r;cases (show u=aA.ref q from r1);obtain⟨its,rv,pl,hz⟩:=I.list<|SqL.of (K:=X.K) hq;exact ak9 (I.ok.hd hc) pl.isList (zm rv) hn λh' M t tk k h1 h2=>(lv (.int M) H ⟨I.kept k,⟨_,rfl⟩,h M h1 h2⟩)
end
def F2{X:Cx}{N:Z9 Str}{scope:bV}{z:CZ}{es:Z9 Expr}{k:Nat}{pos:cU}{t:TGs}{n:Nat}(hc:X.calm=true)(h:PGs (nc X N scope z) es t)
  (hn:(bQ es (nc X N scope z).env).length=n:=by rfl) (bD:(bQ es (nc X N scope z).env).findIdx? (·.1)=none:=by rfl):PG (nc X N scope z) (.Tuple es k pos) (Bb X.K n t):=
 yz (X:=nc X N scope z) hc h hn bD
section
variable{X:Cx}{N:Z9 Str}{scope:bV}{z:CZ}
def vt:IxR (nc X N scope z) (DE X.K):=qw (X:=nc X N scope z)
def LU:IxR (nc X N scope z) (a0e X.K):=nh (X:=nc X N scope z)
def apr:SlR (nc X N scope z) (a0b X.K):=o5 (X:=nc X N scope z)
end
section
variable{K:aq}{a D:aF}{xs:Z9 V}{sl:Z9 (Option Nat)}{g:TG}{tt:TT}{te:TE}{σ:L2.St}{H1:Hp}{Q:VK}
def Nx(D:aF)(i:Nat)(Pv:Nat->Z9 V->Hp->Prop):Hp->Prop:=λH'=>∃ys,H' D=some (.lst ys)/\ys.length<=i+1/\Pv (i+1) ys H'
def oj{i:Nat}{Pv:Nat->Z9 V->Hp->Prop}{H:Hp}{ys:Z9 V}{y:V}(hi:i<1000)(hD:H D=some (.lst ys))(hl:ys.length<=i)(h:Pv (i+1) (ys++[y]) (upd H D<|.lst<|ys++[y])) :
  ∃xs,H D=some (.lst xs)/\xs.length<aC/\Nx D i Pv (upd H D<|.lst<|xs++[y]):=
 (ma ys hD (lu<|by lia) (ys++[y]) ⟨k8,by rw[a9,cu];lia,h⟩)
def FZ(J:It)(n:Nat)(Pv:Nat->Z9 V->Hp->Prop)(h0:Pv 0 [] (upd H1 D<|.lst []))
  (uW:∀i ys H,i<n->Pv i ys H->J.go i H) (bD:∀ys H,Pv n ys H->J.stop n H)
  (hs:∀i x ys H H',i<n->J.yld i H x H'->H D=some (.lst ys)->ys.length<=i->Pv i ys H->g x (tf sl σ) H' λσ2 H2=>Agree (tf sl σ) σ2/\tt σ2 H2 λb H3=>
   if b=true then te σ2 H3 λy H4=>∃xs,H4 D=some (.lst xs)/\xs.length<aC/\Nx D i Pv (upd H4 D<|.lst<|xs++[y])else Nx D i Pv H3)
  (hd:∀ys H,H D=some (.lst ys)->ys.length<=n->Pv n ys H->Q (.ref D) H):tS J sl g tt te σ H1 D Q:=by
 refine⟨λi m H=>m=n-i/\i<=n/\∃ys,H D=some (.lst ys)/\ys.length<=i/\Pv i ys H,(ma n (by simp) (dv _) ([]) ⟨k8,av _,h0⟩),?_⟩;rintro i m H ⟨rfl,hi,ys,hy,hl,p⟩;by_cases bX:i<n
 .refine .inr ⟨uW i ys H bX p,Nx D i Pv,λH' ⟨xS,e1,e2,e3⟩=>⟨n-(i+1),by lia,rfl,bX,xS,e1,e2,e3⟩,λx H' y=>hs i x ys H H' bX y hy hl p⟩
 .have e:i=n:=by lia
  subst e;exact .inl ⟨bD ys H p,hd ys H hy hl p⟩
def ny(Pv:Nat->Z9 V->Hp->Prop)(h0:Pv 0 [] (upd H1 D<|.lst []))(hl:∀i ys H,Pv i ys H->SqL K H a xs)
  (hs:∀i x ys H,xs[i]?=some x->i<xs.length->H D=some (.lst ys)->ys.length<=i->Pv i ys H->g x (tf sl σ) H λσ2 H2=>Agree (tf sl σ) σ2/\tt σ2 H2 λb H3=>
   if b=true then te σ2 H3 λy H4=>∃xs,H4 D=some (.lst xs)/\xs.length<aC/\Nx D i Pv (upd H4 D<|.lst<|xs++[y])else Nx D i Pv H3)
  (hd:∀ys H,H D=some (.lst ys)->ys.length<=xs.length->Pv xs.length ys H->Q (.ref D) H):tS (Itl K a) sl g tt te σ H1 D Q:=by
 refine FZ (Itl K a) xs.length Pv h0 (λi ys H hi p=>(lv xs (xs[i]) ⟨hl i ys H p,by simp[hi]⟩)) (λys H p=>⟨xs,hl _ ys H p,av _⟩) (λi x ys H H' hi y hD aY p=>?_) hd;obtain⟨e,y⟩:=y;subst e;exact hs i x ys _ (y xs<|hl i ys _ p) hi hD aY p
def tq(Pv:Nat->Z9 V->Hp->Prop)(h0:Pv 0 [] (upd H1 D<|.lst []))(hl:∀i ys H,Pv i ys H->SqT K H a xs)
  (hs:∀i x ys H,xs[i]?=some x->i<xs.length->H D=some (.lst ys)->ys.length<=i->Pv i ys H->g x (tf sl σ) H λσ2 H2=>Agree (tf sl σ) σ2/\tt σ2 H2 λb H3=>
   if b=true then te σ2 H3 λy H4=>∃xs,H4 D=some (.lst xs)/\xs.length<aC/\Nx D i Pv (upd H4 D<|.lst<|xs++[y])else Nx D i Pv H3)
  (hd:∀ys H,H D=some (.lst ys)->ys.length<=xs.length->Pv xs.length ys H->Q (.ref D) H):tS (Itt K a) sl g tt te σ H1 D Q:=by
 refine FZ (Itt K a) xs.length Pv h0 (λi ys H hi p=>(lv xs (xs[i]) ⟨hl i ys H p,by simp[hi]⟩)) (λys H p=>⟨xs,hl _ ys H p,av _⟩) (λi x ys H H' hi y hD aY p=>?_) hd;obtain⟨e,y⟩:=y;subst e;exact hs i x ys _ (y xs<|hl i ys _ p) hi hD aY p
def xl{lo:Int}{n:Nat}(Pv:Nat->Z9 V->Hp->Prop)(h0:Pv 0 [] (upd H1 D<|.lst []))
  (hs:∀i ys H,i<n->H D=some (.lst ys)->ys.length<=i->Pv i ys H->g (.int<|lo+i) (tf sl σ) H λσ2 H2=>Agree (tf sl σ) σ2/\tt σ2 H2 λb H3=>
   if b=true then te σ2 H3 λy H4=>∃xs,H4 D=some (.lst xs)/\xs.length<aC/\Nx D i Pv (upd H4 D<|.lst<|xs++[y])else Nx D i Pv H3)
  (hd:∀ys H,H D=some (.lst ys)->ys.length<=n->Pv n ys H->Q (.ref D) H):tS (Itr lo n) sl g tt te σ H1 D Q:=by
 refine FZ (Itr lo n) n Pv h0 (λi ys H hi p=>hi) (λys H p=>av _) (λi x ys H H' hi y hD aY p=>?_) hd;obtain⟨e,e2⟩:=y;subst e e2;exact hs i ys _ hi hD aY p
end
def Ex(W:Z9 aF)(H H':Hp):Prop:=∀b o,b∉W->H b=some o->H' b=some o
def Ex.refl(W:Z9 aF)(H:Hp):Ex W H H:=λ_ _ _ h=>h
def Ex.trans{W:Z9 aF}{H H1 H2:Hp}(a:Ex W H H1)(b:Ex W H1 H2):Ex W H H2:=λc o hc h=>b c o hc<|a c o hc h
def Ex.of_same{W:Z9 aF}{H H':Hp}(a:Same H H'):Ex W H H':=λc o _ h=>a c o h
def Ex.fresh{W:Z9 aF}{H:Hp}{p:aF}{o:HO}(h:H p=none):Ex W H (upd H p o):=λb u _ q=>by rw[lh (mq q h)];exact q
theorem Ex.upd{W:Z9 aF}{H:Hp}{p:aF}{o:HO}(h:p∈W):Ex W H (upd H p o):=λb u hb q=>by rw[lh (show b≠p from λe=>hb<|by rw[e];exact h)];exact q
def Ex.new{W:Z9 aF}{H H':Hp}{p:aF}{o:HO}(a:Ex W H H')(h:H p=none):Ex W H (L2.upd H' p o):=λb u hb q=>by rw[lh (mq q h)];exact a b u hb q
def Ex.tk{W:Z9 aF}{H H':Hp}(a:Ex W H H')(h:∀b∈W,∃xs,H b=some (.lst xs)):Tk H H':=λb xs q=>a b _ (λhb=>by obtain⟨ys,e⟩:=h b hb;rw[q]at e;cases e) q
def Ex.at{st:aF}{H H':Hp}{b:aF}{o:HO}(a:Ex [st] H H')(hb:b≠st)(h:H b=some o):H' b=some o:=a b o (by simpa using hb) h
def qz{H:Hp}{p b:aF}{o:HO}(h:upd H p o b=none):b≠p/\H b=none:=by
 by_cases e:b=p
 .subst e;rw[k8]at h;cases h
 .rw[lh e]at h;exact⟨e,h⟩
def _root_.L2.Same.new{H H':Hp}{p:aF}{o:HO}(a:Same H H')(h:H p=none):Same H (upd H' p o):=λb u q=>by rw[lh (mq q h)];exact a b u q
def _root_.L2.Same.fresh{H:Hp}{p:aF}(o:HO)(h:H p=none):Same H (upd H p o):=(Same.refl H).new h
def Cells(cs:Z9 Z8):Prop:=∀d∈cs,∃r c:Int,d=.tuple [.int r,.int c]
def Spots(ds:Z9 Z8):Prop:=∀d∈ds,∃(r c:Int)(x:Str),d=.tuple [.int r,.int c,.str x]
theorem ug:∀{ds:Z9 Z8},(∀d∈ds,imm d=true)->qu ds=true
 | [],_=>rfl
 | d::ds,h=>by show(imm d&&qu ds)=true;rw[h d aj,ug λe he=>h e<|ak _ he];rfl
def Cells.imm{cs:Z9 Z8}(h:Cells cs):qu cs=true:=ug λd hd=>by obtain⟨r,c,rfl⟩:=h d hd;rfl
def Spots.imm{ds:Z9 Z8}(h:Spots ds):qu ds=true:=ug λd hd=>by obtain⟨r,c,x,rfl⟩:=h d hd;rfl
def apd{H:Hp}{r c:Int}{v:V}(h:Rep H (.tuple [.int r,.int c]) v):∃a,v=.ref a/\H a=some (.tup [.int r,.int c]):=by obtain⟨a,xs,e,ha,x1,r1,e1,h1,x2,r2,e2,h2,e3⟩:=h;cases (show x1=.int r from h1);cases (show x2=.int c from h2);cases (show r2=[]from e3);subst e1 e2;exact⟨a,e,ha⟩
def F8{H:Hp}{r c:Int}{x:Str}{v:V}(h:Rep H (.tuple [.int r,.int c,.str x]) v):∃a,v=.ref a/\H a=some (.tup [.int r,.int c,.str x])/\kb x=true:=by obtain⟨a,xs,e,ha,x1,r1,e1,h1,x2,r2,e2,h2,x3,r3,e3,h3,e4⟩:=h;cases (show x1=.int r from h1);cases (show x2=.int c from h2);cases (show x3=.str x from h3.1);cases (show r3=[]from e4);subst e1 e2 e3;exact⟨a,e,ha,h3.2⟩
def ut{H:Hp}{a:aF}{r c:Int}(h:H a=some (.tup [.int r,.int c])):Rep H (.tuple [.int r,.int c]) (.ref a):=(oq a _ rfl h _ _ rfl rfl _ ⟨_,rfl,rfl,rfl⟩)
def xb{H:Hp}{a:aF}{r c:Int}{x:Str}(h:H a=some (.tup [.int r,.int c,.str x]))(hx:kb x=true):Rep H (.tuple [.int r,.int c,.str x]) (.ref a):=
 (oq a _ rfl h _ _ rfl rfl _<|ma _ rfl rfl _ ⟨_,rfl,⟨rfl,hx⟩,rfl⟩)
theorem Spots.at{H:Hp}{ds:Z9 Z8}{xs:Z9 V}{i:Nat}{v:V}(h:Spots ds)(r:RepAll H ds xs)(e:xs[i]?=some v) :
  ∃(a:aF)(p q:Int)(x:Str),v=.ref a/\H a=some (.tup [.int p,.int q,.str x])/\kb x=true/\ds[i]?=some (.tuple [.int p,.int q,.str x]):=by
 obtain⟨d,e1,e2⟩:=r.at e;obtain⟨p,q,x,rfl⟩:=h d<|ah e1;obtain⟨a,e3,e4,e5⟩:=F8 e2;exact(lr a p q x ⟨e3,e4,e5,e1⟩)
noncomputable def iL:Z8->Int
 | .tuple (.int r::_)=>r
 | _=>0
noncomputable def iN:Z8->Int
 | .tuple (_::.int c::_)=>c
 | _=>0
noncomputable def zc:Z9 Int->Int
 | []=>0
 | [a]=>a
 | a::b::r=>if a<=zc (b::r)then a else zc (b::r)
theorem xh:∀{ns:Z9 Int},0<ns.length->zc ns∈ns
 | [],h=>by simp at h
 | [a],_=>by simp[zc]
 | a::b::r,_=>by
  unfold zc;split
  .exact aj
  .exact ak _<|xh<|by simp
theorem zi:∀{ns:Z9 Int},∀a∈ns,zc ns<=a
 | [],a,h=>by cases h
 | [a],b,h=>by
  have e:b=a:=by simpa using h
  rw[e];exact Int.le_refl _
 | a::b::r,x,h=>by
  unfold zc;rcases ap.mp h with e|h
  .rw[e];split
   .exact Int.le_refl _
   .lia
  .have:=zi (ns:=b::r) x h;split
   .lia
   .exact this
def xz{ns:Z9 Int}{M:Int}(h1:M∈ns)(h2:∀a∈ns,M<=a):M=zc ns:=by have hp:0<ns.length:=List.length_pos_of_mem h1;have a1:=h2 _<|xh hp;have a2:=zi M h1;lia
noncomputable def uf(t l:Int):Z8->Z8
 | .tuple [.int r,.int c,.str x]=>.tuple [.int (r-t),.int<|c-l,.str x]
 | d=>d
noncomputable def ox(ds:Z9 Z8):Z9 Z8:=ds.map<|uf (zc<|ds.map iL)<|zc<|ds.map iN
section
variable{K:aq}{a:aF}{xs:Z9 V}{ds:Z9 Z8}{σ:L2.St}{H:Hp}{Q:VK}
def lq{α β:Type}(f:α->β){l:List α}{i:Nat}{x:α}(h:l[i]?=some x):(l.take<|i+1).map f=(l.take i).map f++[f x]:=by rw[jl,h];simp
def aej(j:Int)(pr:Z8->Int)(hj:∀(r c:Int)(x:Str),atI [V.int r,.int c,.str x] j=some (.int<|pr<|.tuple [.int r,.int c,.str x]))
  (hσ:σ[0]?=some (some<|.ref a)) (ha:H a=some (.lst xs)) (hr:RepAll H ds xs) (hs:Spots ds) (hl:ds.length<64)
  (q:∀D H',Same H H'->H' D=some (.lst<|(ds.map pr).map V.int)->Q (.ref D) H') :
  xJ (FI K<|iC 0) [none] (ve 0) wg (tOp (DE K) (iC 0)<|tC<|.int j) σ H Q:=by
 have aU:=hr.length;refine(mm _ hσ a ⟨rfl,⟨_,SqL.of ha⟩,λD hD=>?_⟩);refine ny (xs:=xs) (λi ys H'=>Same H H'/\ys=((ds.take i).map pr).map V.int) ⟨Same.fresh _ hD,rfl⟩ (λi ys H' p=>SqL.of<|p.1 _ _ ha) (λi x ys H' hx hi aN aY p=>?_) λys H' aN aY p=>?_
 .obtain⟨p1,rfl⟩:=p;obtain⟨b,r,c,z,rfl,hb,hz,hd⟩:=hs.at hr hx;refine⟨Agree.set (Agree.refl _) rfl,?_⟩;dsimp only[wg];refine oz ?_;refine(k9 _ rfl b _ _ _ ⟨rfl,rfl,SqT.of<|p1 _ _ hb,hj r c z,oj (by lia) aN aY ⟨p1.new hD,?_⟩⟩);rw[lq pr hd,ay];rfl
 .obtain⟨p1,rfl⟩:=p;refine q D H' p1 ?_;rw[aN,bb<|by lia]
def ajg{t l:Int}(hσ:σ[0]?=some (some<|.ref a))(h1:σ[1]?=some (some<|.int t))(h2:σ[2]?=some (some<|.int l))(ha:H a=some (.lst xs))(hr:RepAll H ds xs)(hs:Spots ds)(hl:ds.length<64)
  (q:∀D ys H',Same H H'->H' D=some (.lst ys)->RepAll H' (ds.map<|uf t l) ys->Q (.ref D) H') :
  xJ (FI K<|iC 0) [none,none,none,some 1,some 2] (Bb K 3<|ze (ve 0)<|ze (ve 1)<|ze (ve 2) DB) wg
   (FA<|sL (tOp (rI0 λi j=>.int<|i-j) (iC 0)<|iC 3)<|sL (tOp (rI0 λi j=>.int<|i-j) (iC 1)<|iC 4)<|sL (iC 2) DC) σ H Q:=by
 have aU:=hr.length;refine(mm _ hσ a ⟨rfl,⟨_,SqL.of ha⟩,λD hD=>?_⟩);have hp:tf [none,none,none,some 1,some 2] σ=[none,none,none,some<|.int t,some<|.int l]:=by unfold tf;simp[h1,h2]
 refine ny (xs:=xs) (λi ys H'=>Same H H'/\RepAll H' ((ds.take i).map (uf t l)) ys) ⟨Same.fresh _ hD,rfl⟩ (λi ys H' p=>SqL.of<|p.1 _ _ ha) (λi x ys H' hx hi aN aY p=>?_) λys H' aN aY p=>?_
 .obtain⟨p1,p2⟩:=p;obtain⟨b,r,c,z,rfl,hb,hz,hd⟩:=hs.at hr hx;rw[hp];refine(on b _ rfl (SqT.of<|p1 _ _ hb) rfl _ _ rfl _<|m8 _ rfl _ _ ⟨rfl,rfl,?_⟩);refine⟨Agree.set (Agree.set (Agree.set (Agree.refl _) rfl) rfl) rfl,?_⟩;dsimp only[wg];refine oz ?_;refine(qh _ rfl _ rfl _ _ rfl rfl _ ⟨rfl,(nw _ rfl _ _ rfl rfl _ ⟨rfl,sZ3,λn hn=>?_⟩)⟩);have hnD:D≠n:=λe=>by rw[<-e,aN]at hn;cases hn
  have hnH:H n=none:=p1.free hn;have im:qu (((ds.take i).map (uf t l))++[.tuple [.int (r-t),.int<|c-l,.str z]])=true:=ug λd mB=>by
   rcases bo.mp mB with h|h
   .obtain⟨d0,h0,rfl⟩:=a7.mp h;obtain⟨r0,c0,x0,rfl⟩:=hs d0<|fy h0;rfl
   .rw[a6.mp h];rfl
  have wV:upd H' n (.tup [.int (r-t),.int<|c-l,.str z]) D=some (.lst ys):=by rw[lh hnD];exact aN
  have sZ:Same H' (upd H' n<|.tup [.int (r-t),.int<|c-l,.str z]):=Same.fresh _ hn;have qL:RepAll (upd H' n<|.tup [.int (r-t),.int<|c-l,.str z]) (((ds.take i).map (uf t l))++[.tuple [.int (r-t),.int<|c-l,.str z]]) (ys++[.ref n]):=(p2.same sZ).snoc (xb k8 hz);refine oj (by lia) wV aY ⟨(p1.trans sZ).new hD,?_⟩;rw[lq (uf t l) hd];exact qL.tk (Tk.lst wV) im
 .obtain⟨p1,p2⟩:=p;rw[bb (by lia)]at p2;exact q D ys H' p1 aN p2
end
def acg{ds:Z9 Z8}(hs:Spots ds)(t l:Int):Rows [true,false] (ds.map<|uf t l):=λd hd=>by obtain⟨e,he,rfl⟩:=a7.mp hd;obtain⟨r,c,x,rfl⟩:=hs e he;exact(m8 _ rfl _ _ ⟨rfl,(lv _ _ ⟨rfl,(lv _ _ ⟨rfl,rfl⟩)⟩)⟩)
noncomputable def sLt(x y:Str):Bool:=decide<|x.cps.toList<y.cps.toList
def arv{x y:Str}(h:sLt x y=true):sLt y x=false:=by have h':x.cps.toList<y.cps.toList:=of_decide_eq_true h;exact decide_eq_false<|List.lt_asymm h'
def avn{a b c:Str}(h1:sLt b a=false)(h2:sLt c b=false):sLt c a=false:=by have jB:a.cps.toList<=b.cps.toList:=of_decide_eq_false h1;have gX:b.cps.toList<=c.cps.toList:=of_decide_eq_false h2;exact decide_eq_false<|List.le_trans jB gX
def aqu{a b:Str}(h1:sLt a b=false)(h2:sLt b a=false):a=b:=by
 have jB:b.cps.toList<=a.cps.toList:=of_decide_eq_false h1;have gX:a.cps.toList<=b.cps.toList:=of_decide_eq_false h2;have e:=List.le_antisymm gX jB;cases a;cases b;simp only at e
 congr
 exact Array.ext' e
def DQ(i j:Int)(r r':Z9 Z8):qt (.int i::r) (.int j::r')=if i=j then qt r r' else decide (i<j):=by
 show(if (i==j)=true then qt r r' else decide (i<j))=_;by_cases h:i=j
 .rw[if_pos h,if_pos<|by rw[h];simp]
 .rw[if_neg h,if_neg<|by simpa using h]
def DK(x y:Str)(r r':Z9 Z8):qt (.str x::r) (.str y::r')=if x=y then qt r r' else sLt x y:=by
 show(if (x==y)=true then qt r r' else decide (x.cps.toList<y.cps.toList))=_;by_cases h:x=y
 .rw[if_pos h,if_pos<|by rw[h];simp]
 .rw[if_neg h,if_neg<|by simpa using h];rfl
theorem DL:∀{ks:Z9 Bool} {xs ys:Z9 Z8},Row ks xs->Row ks ys->qt xs ys=true->qt ys xs=false
 | [],xs,ys,h1,h2,h=>by cases (show xs=[]from h1);cases (show ys=[]from h2);rfl
 | true::ks,xs,ys,h1,h2,h=>by
  obtain⟨i,r,rfl,h1⟩:=h1;obtain⟨j,r',rfl,h2⟩:=h2;rw[DQ]at h⊢;by_cases e:i=j
  .rw[if_pos e]at h;rw[if_pos e.symm];exact DL h1 h2 h
  .rw[if_neg e]at h;rw[if_neg (Ne.symm e)];have:=of_decide_eq_true h;exact decide_eq_false (by omega)
 | false::ks,xs,ys,h1,h2,h=>by
  obtain⟨i,r,rfl,h1⟩:=h1;obtain⟨j,r',rfl,h2⟩:=h2;rw[DK]at h⊢;by_cases e:i=j
  .rw[if_pos e]at h;rw[if_pos e.symm];exact DL h1 h2 h
  .rw[if_neg e]at h;rw[if_neg (Ne.symm e)];exact arv h
theorem DF:∀{ks:Z9 Bool} {a b c:Z9 Z8},Row ks a->Row ks b->Row ks c->qt b a=false->qt c b=false->qt c a=false
 | [],a,b,c,h1,h2,h3,h4,h5=>by cases (show a=[]from h1);cases (show c=[]from h3);rfl
 | true::ks,a,b,c,h1,h2,h3,h4,h5=>by
  obtain⟨i,r,rfl,h1⟩:=h1;obtain⟨j,r',rfl,h2⟩:=h2;obtain⟨k,r'',rfl,h3⟩:=h3;rw[DQ]at h4 h5⊢;by_cases e1:j=i
  .rw[if_pos e1]at h4;by_cases e2:k=j
   .rw[if_pos e2]at h5;rw[if_pos (e2.trans e1)];exact DF h1 h2 h3 h4 h5
   .rw[if_neg e2]at h5;rw[if_neg (by omega)];have:=of_decide_eq_false h5;exact decide_eq_false<|by omega
  .rw[if_neg e1]at h4;have q1:=of_decide_eq_false h4;by_cases e2:k=j
   .rw[if_neg (by omega)];exact decide_eq_false<|by omega
   .rw[if_neg e2]at h5;have q2:=of_decide_eq_false h5;rw[if_neg (by omega)];exact decide_eq_false (by omega)
 | false::ks,a,b,c,h1,h2,h3,h4,h5=>by
  obtain⟨i,r,rfl,h1⟩:=h1;obtain⟨j,r',rfl,h2⟩:=h2;obtain⟨k,r'',rfl,h3⟩:=h3;rw[DK]at h4 h5⊢;by_cases e1:j=i
  .rw[if_pos e1]at h4;by_cases e2:k=j
   .rw[if_pos e2]at h5;rw[if_pos (e2.trans e1)];exact DF h1 h2 h3 h4 h5
   .rw[if_neg e2]at h5;rw[if_neg (by rw[<-e1];exact e2),<-e1];exact h5
  .rw[if_neg e1]at h4;by_cases e2:k=j
   .rw[if_neg (by rw[e2];exact e1),e2];exact h4
   .rw[if_neg e2]at h5;by_cases e3:k=i
    .subst e3;exact absurd (aqu h5 h4) e2
    .rw[if_neg e3];exact avn h4 h5
theorem ar6{ks0:Z9 Bool}{ds:Z9 Z8}(h:Rows ks0 ds):Ord (tQ ds):=by
 obtain⟨ks,IX,hk⟩:∃ks,ks=true::ks0/\ks≠[]:=⟨_,rfl,by simp⟩;have iV:∀i,vk (ds.getD i .none)=[]\/Row ks (vk<|ds.getD i .none):=λi=>by
  by_cases hi:i<ds.length
  .right;have e:ds.getD i .none=ds[i]:=by simp[List.getD,hi]
   obtain⟨r,e2,hr⟩:=h ds[i] (fz hi);rw[e,e2,IX];exact hr
  .left;have e:ds.getD i .none=.none:=by simp[List.getD,ib<|Nat.le_of_not_lt hi]
   rw[e];rfl
 have ne:∀{r:Z9 Z8},Row ks r->∃x xs,r=x::xs:=λ{r} hr=>by
  match ks,hk,hr with
  | true::ks,_,⟨i,r,e,_⟩=>exact(lv _ _ e)
  | false::ks,_,⟨i,r,e,_⟩=>exact(lv _ _ e)
 refine⟨λa b kS=>?_,λa b c h1 h2=>?_⟩
 .show qt (vk<|ds.getD b .none) (vk<|ds.getD a .none)=false;have zT:qt (vk<|ds.getD a .none) (vk<|ds.getD b .none)=true:=kS;rcases iV a with ea|ea<;>rcases iV b with eb|eb
  .rw[ea,eb];rfl
  .obtain⟨x,xs,e⟩:=ne eb;rw[ea,e];rfl
  .obtain⟨x,xs,e⟩:=ne ea;rw[e,eb]at zT;cases zT
  .exact DL ea eb zT
 .show qt (vk<|ds.getD c .none) (vk<|ds.getD a .none)=false;have jB:qt (vk<|ds.getD b .none) (vk<|ds.getD a .none)=false:=h1;have gX:qt (vk<|ds.getD c .none) (vk<|ds.getD b .none)=false:=h2;rcases iV a with ea|ea
  .rw[ea];rcases iV c with ec|ec
   .rw[ec];rfl
   .obtain⟨x,xs,e⟩:=ne ec;rw[e];rfl
  .obtain⟨x,xs,e⟩:=ne ea;rcases iV b with eb|eb
   .rw[eb,e]at jB;cases jB
   .obtain⟨y,ys,e2⟩:=ne eb;rcases iV c with ec|ec
    .rw[ec,e2]at gX;cases gX
    .exact DF ea eb ec jB gX
theorem KR:∀{ks:Z9 Bool} {a b:Z9 Z8},Row ks a->Row ks b->qt a b=false->qt b a=false->a=b
 | [],a,b,h1,h2,_,_=>by cases (show a=[]from h1);cases (show b=[]from h2);rfl
 | true::ks,a,b,h1,h2,h3,h4=>by
  obtain⟨i,r,rfl,h1⟩:=h1;obtain⟨j,r',rfl,h2⟩:=h2;rw[DQ]at h3 h4;by_cases e:i=j
  .rw[if_pos e]at h3;rw[if_pos e.symm]at h4;rw[e,KR h1 h2 h3 h4]
  .rw[if_neg e]at h3;rw[if_neg (Ne.symm e)]at h4;have:=of_decide_eq_false h3;have:=of_decide_eq_false h4;exact absurd (by omega) e
 | false::ks,a,b,h1,h2,h3,h4=>by
  obtain⟨i,r,rfl,h1⟩:=h1;obtain⟨j,r',rfl,h2⟩:=h2;rw[DK]at h3 h4;by_cases e:i=j
  .rw[if_pos e]at h3;rw[if_pos e.symm]at h4;rw[e,KR h1 h2 h3 h4]
  .rw[if_neg e]at h3;rw[if_neg (Ne.symm e)]at h4;exact absurd (aqu h3 h4) e
theorem ae3{α:Type}{R:α->α->Prop}:∀{xs ys:List α},xs.Perm ys->xs.Pairwise R->ys.Pairwise R->(∀x∈xs,∀y∈xs,R x y->R y x->x=y)->xs=ys
 | [],ys,p,_,_,_=>(List.Perm.nil_eq p).symm▸rfl
 | x::xs,[],p,_,_,_=>absurd p.length_eq (by simp)
 | x::xs,y::ys,p,hx,hy,ha=>by
  have oV:=gt.mp hx;have wD:=gt.mp hy;have m1:y∈x::xs:=p.mem_iff.mpr aj;have m2:x∈y::ys:=p.mem_iff.mp aj;have e:x=y:=by
   rcases ap.mp m1 with e|m
   .exact e.symm
   .rcases ap.mp m2 with e|m'
    .exact e
    .exact ha x aj y m1 (oV.1 y m)<|wD.1 x m'
  subst e;rw[ae3 (List.Perm.cons_inv p) oV.2 wD.2 λa h1 b h2=>ha a (ak _ h1) b<|ak _ h2]
def ab2(ds:Z9 Z8):((dt ds.length).map λi=>ds.getD i .none)=ds:=by
 apply List.ext_getElem
 .simp
 .intro i h1 h2;simp[List.getD,h2]
def vo(ds:Z9 Z8):(qp ds).Perm ds:=by have h:=(Ge (tQ ds) ds.length).map λi=>ds.getD i .none;rw[ab2]at h;exact h
theorem ah4{ks:Z9 Bool}{ds:Z9 Z8}(h:Rows ks ds){i j:Nat}{x y:Z8}(hx:(qp ds)[i]?=some x)(hy:(qp ds)[j]?=some y)(gW:i<=j):qt (vk y) (vk x)=false:=by
 unfold qp at hx hy;rw[au]at hx hy;have hj:j<(srt (tQ ds) ds.length).length:=by
  cases e:(srt (tQ ds) ds.length)[j]? with
  | none=>rw[e]at hy;cases hy
  | some k=>exact(ar.mp e).1
 have hi:i<(srt (tQ ds) ds.length).length:=by omega
 rw[ae hi]at hx;rw[ae hj]at hy;cases hx;cases hy;have u:=Li (ar6 h) ds.length gW (by rw[vd]at hj;exact hj);have e1:(srt (tQ ds) ds.length).getD i 0=(srt (tQ ds) ds.length)[i]:=by simp[List.getD,hi]
 have e2:(srt (tQ ds) ds.length).getD j 0=(srt (tQ ds) ds.length)[j]:=by simp[List.getD,hj]
 rw[e1,e2]at u;exact u
end L3
namespace L3
open PySem PySem.Spec PyProof.Rows
section
variable{prog:aI}{w:aJ}{A:Around}{E:aA->aB->Prop}{s:aB}
def akm{l:aF}{vs:Z9 aA}{ns:Z9 Int}{Q:aA->aB->Prop}(hh:A.handled=none)(hl:s.heap.IsList l vs.toArray)(hi:fB vs ns)(dO:0<ns.length)
  (h:∀h' M (t:pN) tk,(∀b o,s.heap.get? b=some o->h'.get? b=some o)->M∈ns->(∀a,a∈ns->a<=M)->Q (.int M t) {s with heap:=h',toks:=tk}) :
  wpAny (aG prog w) A (call (.builtin "max") [.ref l]) Q E s:=by
 obtain⟨xs,e⟩:=hi.allInts.items;have iU:ns=xs.toList.map (·.1):=by rw[<-hi.numsOf,<-oS,<-e]
 have hsz:0<xs.size:=by have h3:=dO;rw[iU,af,bh]at h3;exact h3
 rw[e]at hl;refine max_intList hh hl hsz λv h' tk hv hk=>?_;obtain⟨t,rfl⟩:=kI hv;obtain⟨h1,h2⟩:=argBest_gt (BU xs)<|xs.size-1;refine h _ _ t tk hk ?_ λa ha=>?_
 .rw[iU,iZ];exact getD_mem<|by rw[af,bh];omega
 .rw[iU]at ha;obtain⟨j,hj,rfl⟩:=mem_getD ha;rw[af,bh]at hj;rw[<-iZ];exact h2 j<|by omega
end
end L3
namespace L3
noncomputable abbrev Cl:=Int×Int
def Tch(a b:Cl):Prop:=(a.1=b.1/\(b.2=a.2+1\/a.2=b.2+1))\/(a.2=b.2/\(b.1=a.1+1\/a.1=b.1+1))
def Tch.symm{a b:Cl}(h:Tch a b):Tch b a:=by unfold Tch at *;lia
def Conn(S:Z9 Cl):Prop:=∀T:Cl->Prop,(∃a,a∈S/\T a)->(∀a b,a∈S->b∈S->T a->Tch a b->T b)->∀a,a∈S->T a
def Conn.one(a:Cl):Conn [a]:=λT ⟨b,hb,tb⟩ _ c hc=>by rw[a6.mp hc,<-a6.mp hb];exact tb
def Conn.snoc{S:Z9 Cl}{a b:Cl}(h:Conn S)(ha:a∈S)(t:Tch a b):Conn (S++[b]):=λT ⟨c,hc,tc⟩ go d hd=>by
 have mS:∀{x},x∈S->x∈S++[b]:=λhx=>ip _ hx;have mb:b∈S++[b]:=ci _<|a6.mpr rfl;have inS:∃x,x∈S/\T x:=by
  rcases bo.mp hc with h1|h1
  .exact⟨c,h1,tc⟩
  .rw[a6.mp h1]at tc;exact⟨a,ha,go b a mb (mS ha) tc t.symm⟩
 have all:=h T inS λx y hx hy tx GD=>go x y (mS hx) (mS hy) tx GD;rcases bo.mp hd with h1|h1
 .exact all d h1
 .rw[a6.mp h1];exact go a b (mS ha) mb (all a ha) t
theorem Conn.map{S:Z9 Cl}{f:Cl->Cl}(h:Conn S)(hf:∀a b,Tch a b->Tch (f a) (f b)):Conn (S.map f):=λT ⟨c,hc,tc⟩ go d hd=>by obtain⟨x,hx,rfl⟩:=a7.mp hc;obtain⟨y,hy,rfl⟩:=a7.mp hd;exact h (λa=>T<|f a) ⟨x,hx,tc⟩ (λa b ha hb ta tab=>go _ _ (bz ha) (bz hb) ta<|hf a b tab) y hy
def Conn.congr{S S':Z9 Cl}(h:Conn S)(e:∀a,a∈S'↔a∈S):Conn S':=λT ⟨c,hc,tc⟩ go d hd=>
 h T ⟨c,(e c).mp hc,tc⟩ (λa b ha hb=>go a b ((e a).mpr ha)<|(e b).mpr hb) d ((e d).mp hd)
def Conn.closed{S R:Z9 Cl}(h:Conn S)(hs:∀a,a∈R->a∈S)(dO:∃a,a∈R)(hc:∀a,a∈R->∀b,b∈S->Tch a b->b∈R):∀a,a∈S->a∈R:=by obtain⟨a,ha⟩:=dO;exact h (λx=>x∈R) ⟨a,hs a ha,ha⟩ λx y hx hy tx GD=>hc x tx y hy GD
def afk{α:Type}[DecidableEq α]{S R:List α}(hS:S.Nodup)(hR:R.Nodup)(e:∀a,a∈R↔a∈S):R.length=S.length:=by
 apply Nat.le_antisymm
 .exact gc hR λa ha=>(e a).mp ha
 .exact gc hS λa ha=>(e a).mpr ha
def Tch.shift(r c:Int){a b:Cl}(h:Tch a b):Tch (a.1-r,a.2-c) (b.1-r,b.2-c):=by unfold Tch at *;simp only;lia
end L3
namespace L3
open PySem PySem.Spec PyProof.Rows L2
section
variable{X:Cx}{x:Str}{p pos nW:cU}{e e2:Expr}{es:Z9 Expr}{t tk:TA}{te:TE}
def a1n:Z9 V->Hp->VK->Prop:=λxs H Q=>∃q,∃ns:Z9 Int,xs=[.ref q]/\H q=some (.lst<|ns.map V.int)/\0<ns.length/\∀M,M∈ns->(∀a∈ns,a<=M)->Q (.int M) H
def afi(hc:X.calm=true):qj X (.builtin "max") a1n:=by intro aE s σ H xs us Q I r h;obtain⟨q,ns,rfl,hq,hn,h⟩:=h;obtain⟨u,rfl,r1⟩:=se r;cases (show u=aA.ref q from r1);obtain⟨its,rv,pl,hz⟩:=I.list<|SqL.of (K:=X.K) hq;exact akm (I.ok.hd hc) pl.isList (zm rv) hn λh' M t tk k h1 h2=>(lv (.int M) H ⟨I.kept k,⟨_,rfl⟩,h M h1 h2⟩)
end
def air{ds:Z9 Z8}(h:Spots ds):Rows [true,false] ds:=λd hd=>by obtain⟨r,c,x,rfl⟩:=h d hd;exact(m8 _ rfl _ _ ⟨rfl,(lv _ _ ⟨rfl,(lv _ _ ⟨rfl,rfl⟩)⟩)⟩)
section
variable{K:aq}{a:aF}{xs:Z9 V}{ds:Z9 Z8}{σ:L2.St}{H:Hp}{Q:VK}
def Lg(r c:Int)(x:Str):atI [V.int r,.int c,.str x] 0=some (.int<|iL<|.tuple [.int r,.int c,.str x]):=rfl
def KZ(r c:Int)(x:Str):atI [V.int r,.int c,.str x] 1=some (.int<|iN<|.tuple [.int r,.int c,.str x]):=rfl
end
section
variable{X:Cx}{x:Str}{pos:cU}
def uq{z:Str}(h:∃t,X.mg x=some (.str z t))(hg:Gl X x)(hd:(x==("__debug__" : Str))=false:=by decide):PE X (.Name x pos) (tC<|.str z):=by obtain⟨t,h⟩:=h;exact yc hg h ⟨t,rfl⟩ hd
def su{z:Int}(h:∃t,X.mg x=some (.int z t))(hg:Gl X x)(hd:(x==("__debug__" : Str))=false:=by decide):PE X (.Name x pos) (tC<|.int z):=by obtain⟨t,h⟩:=h;exact yc hg h ⟨t,rfl⟩ hd
end
section
variable{X:Cx}
def wz:OpR X (aS .LtE) (λx y H Q=>∃i j,x=.str i/\y=.str j/\Q (.bl<|!decide (j.cps.toList<i.cps.toList)) H):=by intro aE s σ H x y v u Q I rx ry h;obtain⟨i,j,rfl,rfl,q⟩:=h;obtain⟨t,rfl⟩:=rx;obtain⟨t',rfl⟩:=ry;exact PySem.P.le_str<|lv (.bl _) H ⟨I,rfl,q⟩
def a06:V->Option Int->Option Int->Hp->VK->Prop:=λx lo hi H Q=>∃z,x=.str z/\z.length<=aC/\Q (.str<|Txt.slice z lo hi) H
theorem Lp:SlR X a06:=by
 intro aE s σ H x v vl vu lo hi sl Q I rx hs pl pu h;obtain⟨z,rfl,hz,q⟩:=h;obtain⟨t,rfl⟩:=rx;obtain⟨o,ho,hc,hd⟩:=hs;have cS:∀t' k,EP X aE σ Q (.str (Txt.slice z lo hi) t') {s with toks:=k}:=λt' k=>(lv (.str _) H ⟨I.tok _,⟨_,rfl⟩,q⟩);refine(lv ("str") _ ⟨F.slot_str_getitem.lookup,cY _ _ _,?_⟩);cases pl with
 | none=>
  cases pu with
  | none=>exact cK (l:=none) (u:=none) (st:=none) ⟨o,ho,hc,hd⟩ rfl (fE ⟨fj (Txt.slice_le z _ _) hz,cS⟩)
  | int j uj=>exact cK (l:=none) (u:=some (j,uj)) (st:=none) ⟨o,ho,hc,hd⟩ rfl (fE ⟨fj (Txt.slice_le z _ _) hz,cS⟩)
 | int i ui=>
  cases pu with
  | none=>exact cK (l:=some (i,ui)) (u:=none) (st:=none) ⟨o,ho,hc,hd⟩ rfl (fE ⟨fj (Txt.slice_le z _ _) hz,cS⟩)
  | int j uj=>exact cK (l:=some (i,ui)) (u:=some (j,uj)) (st:=none) ⟨o,ho,hc,hd⟩ rfl<|fE ⟨fj (Txt.slice_le z _ _) hz,cS⟩
theorem ah6(x:Array Nat):∀(k:Nat)(dS:Array Nat),((fu k x).foldl (· ++ ·) dS).size=dS.size+k*x.size
 | 0,dS=>by simp
 | k+1,dS=>by rw[jm,List.foldl_cons,ah6 x k];simp only[Array.size_append];rw[Nat.add_mul];lia
theorem ag2(x:Array Nat):∀(k:Nat)(dS:Array Nat)(c:Nat),c∈((fu k x).foldl (· ++ ·) dS).toList->c∈dS.toList\/c∈x.toList
 | 0,dS,c,h=>.inl (by simpa using h)
 | k+1,dS,c,h=>by
  rw[jm,List.foldl_cons]at h;rcases ag2 x k _ c h with h|h
  .simpa using h
  .exact .inr h
def azl:R2:=λx y H Q=>∃(z:Str)(n:Int),x=.str z/\y=.int n/\0<=n/\n<=1000/\z.length<=1000/\∀w:Str,w.length=z.length*n.toNat->(∀c∈w.cps.toList,c∈z.cps.toList)->Q (.str w) H
def auk:OpR X (cQ .Mult) azl:=by
 intro aE s σ H x y v u Q I rx ry h;obtain⟨z,n,rfl,rfl,h0,h1,hz,q⟩:=h;obtain⟨t,rfl⟩:=rx;obtain⟨t',rfl⟩:=ry;have hprod:z.length*n.toNat<=1000000:=by
  have a1:n.toNat<=1000:=by lia
  calc z.length*n.toNat<=1000*1000:=Nat.mul_le_mul hz a1
   _=1000000:=rfl
 refine PySem.P.mul_str (by rw[decide_eq_false (by lia),decide_eq_false<|by lia];rfl) (λh2 _=>?_) (λ_ _=>?_) ?_
 .have h3:(1:Int)<=n:=by lia
  have h4:((2:Int)^63-1)/n>=(2^63-1)/1000:=by
   refine(Int.le_ediv_iff_mul_le<|by lia).mpr ?_
   calc ((2:Int)^63-1)/1000*n<=((2:Int)^63-1)/1000*1000:=Int.mul_le_mul_of_nonneg_left h1 (by decide)
    _<=2^63-1:=by decide
  have h5:((2:Int)^63-1)/1000>=1000:=by decide
  lia
 .unfold PySem.Builtin.Str.tooLong;rw[dw];exact decide_eq_false<|by lia
 .by_cases hn:n<1
  .rw[if_pos hn];have e:n=0:=by lia
   subst e;exact⟨by decide,(lv (.str Str.empty) H ⟨I.tok _,⟨_,rfl⟩,q _ (by simp[Str.empty,Str.length])<|by simp[Str.empty]⟩)⟩
  .rw[if_neg hn];by_cases hc:(n==1||z.length==0)=true
   .rw[if_pos hc];refine(lv (.str z) H ⟨I,⟨_,rfl⟩,q _ ?_ λc hc=>hc⟩);simp only[Bool.or_eq_true,beq_iff_eq]at hc;rcases hc with e|e
    .rw[e];simp
    .rw[e];simp
   .rw[if_neg hc];have e:(⟨(fu n.toNat z.cps).foldl (· ++ ·) #[]⟩:Str).length=z.length*n.toNat:=by
     show((fu n.toNat z.cps).foldl (· ++ ·) #[]).size=_;rw[ah6,Nat.mul_comm];simp[Str.length]
    refine⟨by rw[e,dw];lia,(lv (.str _) H ⟨I.tok _,⟨_,rfl⟩,q _ e λc hc=>?_⟩)⟩;rcases ag2 z.cps n.toNat #[] c (by simpa using hc)with h|h
    .simp at h
    .exact h
theorem LG:∀{ys:Z9 Str} {us:Z9 aA},Vals (ys.map V.str) us->StrsAre us ys
 | [],us,h=>by cases h;exact .nil
 | y::ys,us,h=>by
  cases h with
  | cons r t=>
   obtain⟨k,e⟩:=(show ∃t,_=aA.str y t from r);subst e;exact .cons y k<|LG t
def ay2:V->Z9 V->Hp->VK->Prop:=λx vs H Q=>∃(z:Str)(l:aF)(ys:Z9 Str),x=.str z/\vs=[.ref l]/\H l=some (.lst<|ys.map V.str)/\(ys.map (·.length)).sum+ys.length*z.length<=1000000/\Q (.str<|j8 z ys) H
def rn:MtR X "str.join" ay2:=by intro aE s σ H x vs v us Q I rx rv h;obtain⟨z,l,ys,rfl,rfl,hl,hz,q⟩:=h;obtain⟨t,rfl⟩:=rx;obtain⟨u,rfl,r1⟩:=se rv;cases (show u=aA.ref l from r1);obtain⟨its,r,pl,_⟩:=I.list<|SqL.of (K:=X.K) hl;exact join_list pl.isList (by simpa using LG r) (by lia) λt' k=>(lv (.str _) H ⟨I.tok _,⟨_,rfl⟩,q⟩)
def a1f:Z9 V->Hp->VK->Prop:=λxs H Q=>∃(p:aF)(bs:Z9 Bool),xs=[.ref p]/\H p=some (.lst<|bs.map V.bl)/\Q (.bl<|bs.all id) H
def ant:∀(bs:Z9 Bool),((dt bs.length).all λi=>(bs[i]?).getD true)=bs.all id:=λbs=>by
 rw[gj,bq,bq];constructor
 .intro h b hb;obtain⟨i,hi,rfl⟩:=List.mem_iff_getElem.mp hb;have:=h i (by simpa using hi);simpa [hi]using this
 .intro h i hi;have fH:i<bs.length:=by simpa using hi
  have:=h bs[i] (fz fH);simpa [fH]using this
def qq(hc:X.calm=true):qj X (.builtin "all") a1f:=by
 intro aE s σ H xs us Q I r h;obtain⟨p,bs,rfl,hp,q⟩:=h;obtain⟨u,rfl,r1⟩:=se r;cases (show u=aA.ref p from r1);obtain⟨its,rv,pl,hz⟩:=I.list<|SqL.of (K:=X.K) hp;have bX:p<s.heap.objs.size:=by obtain⟨_,_,e,_⟩:=pl;exact bi e
 have aU:its.length=bs.length:=by rw[<-rv.length,af]
 refine call_all_walk<|js pl.isList ?_;refine⟨s.heap.objs.size,[s.heap.objs.size,p],[s.heap.objs.size],its.toArray.size,_,_,λi=>(bs[i]?).getD true,rfl,gE.list (A:=X.A.in1) (I.ok.hd hc) _ p (ck bX) its.toArray,
  ⟨⟨_,ba _ rfl,rfl,rfl⟩,pl.isList.push _⟩,λi v s' Q' E' hP hQ=>?_,λh' tk hk=>?_⟩
 .have hi:its[i]?=some v:=by simpa using hP
  have qY:i<bs.length:=by rw[<-aU];exact(ar.mp hi).1
  obtain⟨u',e1,e2⟩:=rv.get (i:=i) (x:=.bl bs[i]) (by rw[au,ae qY];rfl);rw[hi]at e1;cases e1;cases (show v=aA.bool bs[i]from e2);have C9:Q' ((bs[i]?).getD true) s':=hQ;rw[ae qY]at C9;exact gf C9
 .refine(lv (.bl _) H ⟨I.kept λb o e=>hk b o (λhm=>?_)<|ai _ e,rfl,?_⟩)
  .rw[a6.mp hm]at e;exact gy _<|bi e
  .rw[be,aU,ant];exact q
end
noncomputable def Its(x:Str):It:=⟨λi _=>i<x.cps.toList.length,λi H v H'=>H'=H/\∃c,x.cps.toList[i]?=some c/\v=.str ⟨#[c]⟩,λi _=>x.cps.toList.length<=i⟩
def ajq{P:aI}{w:aJ}{K:aq}{tg:Expr}(x:Str)(t:pN)(it:aF):tO P w K tg (Its x) [it] it (λi h=>h.IsStrIter it "str_ascii_iterator" x t i)where
 mem:=by simp
 obj:=λi h st b hb=>by
  have e:b=it:=by simpa using hb
  subst e;obtain⟨o,e,c,d⟩:=st;exact⟨o,e,λv z=>by rw[d]at z;cases z⟩
 keep:=λi h h' st k=>by obtain⟨o,e,r⟩:=st;exact⟨o,k it (by simp) o e,r⟩
 item:=by
  intro X hP hw hK hc i aE s σ H E I hf st hg;subst hP hw hK;obtain⟨f0,f1,f2,f3,f4,f5⟩:=hf it (by simp);have hi:i<x.cps.size:=by simpa [Its]using hg
  refine wpAny_pyNext_ascii_item st (c:=x.cps[i]) (by simp[hi]) λh' eX sb=>?_;have I1:Inv X aE σ H {s with heap:=h',toks:=s.toks+1}:=I.turned (t':=s.toks+1) (λb o hb e=>(sb.2 b hb).trans e) f0 f1 f3 f4 f5;obtain⟨o,e,c,d⟩:=id eX;exact⟨_,rfl,DJ (s:={s with heap:=h',toks:=s.toks+1}) e c d (by decide)<|lv (.str ⟨#[x.cps[i]]⟩) H ⟨I1,⟨_,rfl⟩,⟨rfl,x.cps[i],by simp[hi],rfl⟩,eX,λb hb=>(hf b hb).1⟩⟩
 done:=by
  intro X hP hw hK hc i aE s σ H E I hf st hg;subst hP hw hK;obtain⟨f0,f1,f2,f3,f4,f5⟩:=hf it (by simp);have hi:x.cps.size<=i:=by simpa [Its]using hg
  exact wpAny_pyNext_ascii_end (I.ok.hd hc) st (by simp;lia) λh' eb=>⟨rfl,I.turned (t':=s.toks) (λb o hb e=>eb b o hb e) f0 f1 f3 f4 f5⟩
 self:=λ_ _ _ _ _ st h=>wpAny_pyIter_striter_ascii st h
def al5{P:aI}{w:aJ}{K:aq}{tg:Expr}(x:Str)(t:pN)(it:aF):tO P w K tg (Its x) [it] it (λi h=>h.IsStrIter it "str_iterator" x t i)where
 mem:=by simp
 obj:=λi h st b hb=>by
  have e:b=it:=by simpa using hb
  subst e;obtain⟨o,e,c,d⟩:=st;exact⟨o,e,λv z=>by rw[d]at z;cases z⟩
 keep:=λi h h' st k=>by obtain⟨o,e,r⟩:=st;exact⟨o,k it (by simp) o e,r⟩
 item:=by
  intro X hP hw hK hc i aE s σ H E I hf st hg;subst hP hw hK;obtain⟨f0,f1,f2,f3,f4,f5⟩:=hf it (by simp);have hi:i<x.cps.size:=by simpa [Its]using hg
  refine wpAny_pyNext_wide_item st (c:=x.cps[i]) (by simp[hi]) λh' eX sb=>?_;have I1:Inv X aE σ H {s with heap:=h',toks:=s.toks+1}:=I.turned (t':=s.toks+1) (λb o hb e=>(sb.2 b hb).trans e) f0 f1 f3 f4 f5;obtain⟨o,e,c,d⟩:=id eX;exact⟨_,rfl,DJ (s:={s with heap:=h',toks:=s.toks+1}) e c d (by decide)<|lv (.str ⟨#[x.cps[i]]⟩) H ⟨I1,⟨_,rfl⟩,⟨rfl,x.cps[i],by simp[hi],rfl⟩,eX,λb hb=>(hf b hb).1⟩⟩
 done:=by
  intro X hP hw hK hc i aE s σ H E I hf st hg;subst hP hw hK;obtain⟨f0,f1,f2,f3,f4,f5⟩:=hf it (by simp);have hi:x.cps.size<=i:=by simpa [Its]using hg
  exact wpAny_pyNext_wide_end (I.ok.hd hc) st (by simp;lia) λh' eb=>⟨rfl,I.turned (t':=s.toks) (λb o hb e=>eb b o hb e) f0 f1 f3 f4 f5⟩
 self:=λ_ _ _ _ _ st h=>wpAny_pyIter_striter_wide st h
def a1e(tl:TE):TI:=λσ H R=>tl σ H λx H1=>∃z,x=.str z/\R (Its z) H1
theorem FK{X:Cx}{tg l:Expr}{tl:TE}(hl:PE X l tl):PI X tg l (a1e tl):=by
 intro aE s σ H R I h;refine thn (hl aE s σ H _ I h) λv s1 ⟨x,H1,I1,r1,z,e,q⟩=>?_;subst e;obtain⟨t,rfl⟩:=r1;cases ha:z.cps.all (· < 128)with
 | true=>
  refine wpAny_pyIter_ascii ha ?_;have I2:Inv X aE σ H1 {s1 with heap:=s1.heap.push {cls:=.type "str_ascii_iterator",data:=.fields #[.str z t,.int 0 0]}}:=I1.kept (t':=s1.toks) λb o e=>ai _ e;exact(nj _ _ _ (Its z) H1 ⟨rfl,I2,ajq z t s1.heap.objs.size,⟨_,ba _ rfl,rfl,rfl⟩,λb hb=>by rw[a6.mp hb];exact I1.fpOk (av _)<|I1.hok.fresh<|av _,q⟩)
 | false=>
  refine wpAny_pyIter_wide ha ?_;have I2:Inv X aE σ H1 {s1 with heap:=s1.heap.push {cls:=.type "str_iterator",data:=.fields #[.str z t,.int 0 0]}}:=I1.kept (t':=s1.toks) λb o e=>ai _ e;exact(nj _ _ _ (Its z) H1 ⟨rfl,I2,al5 z t s1.heap.objs.size,⟨_,ba _ rfl,rfl,rfl⟩,λb hb=>by rw[a6.mp hb];exact I1.fpOk (av _)<|I1.hok.fresh<|av _,q⟩)
def Gi{x:Str}{D:aF}{sl:Z9 (Option Nat)}{g:TG}{tt:TT}{te:TE}{σ:L2.St}{H1:Hp}{Q:VK}(Pv:Nat->Z9 V->Hp->Prop)(h0:Pv 0 [] (upd H1 D<|.lst []))
  (hs:∀i c ys H,x.cps.toList[i]?=some c->i<x.cps.toList.length->H D=some (.lst ys)->ys.length<=i->Pv i ys H->g (.str ⟨#[c]⟩) (tf sl σ) H λσ2 H2=>Agree (tf sl σ) σ2/\tt σ2 H2 λb H3=>
   if b=true then te σ2 H3 λy H4=>∃xs,H4 D=some (.lst xs)/\xs.length<aC/\Nx D i Pv (upd H4 D<|.lst<|xs++[y])else Nx D i Pv H3)
  (hd:∀ys H,H D=some (.lst ys)->ys.length<=x.cps.toList.length->Pv x.cps.toList.length ys H->Q (.ref D) H):tS (Its x) sl g tt te σ H1 D Q:=by
 refine FZ (Its x) x.cps.toList.length Pv h0 (λi ys H hi p=>hi) (λys H p=>av _) (λi v ys H H' hi y hD aY p=>?_) hd;obtain⟨e,c,hc,rfl⟩:=y;subst e;exact hs i c ys _ hc hi hD aY p
def NoStr(H:Hp)(v:V):Prop:=v=.non\/(∃i,v=.int i)\/∃a,v=.ref a/\((∃xs,H a=some (.lst xs))\/(∃xs,H a=some (.tup xs))\/H a=some (.dK []))
def NoTup(H:Hp)(v:V):Prop:=v=.non\/(∃i,v=.int i)\/(∃z,v=.str z)\/∃a,v=.ref a/\((∃xs,H a=some (.lst xs))\/H a=some (.dK []))
def NoStr.ty{K:aq}{H:Hp}{v:V}(h:NoStr H v):∃t,iW K H v t/\cj K t (.type "str")=some false:=by
 rcases h with rfl|⟨i,rfl⟩|⟨a,rfl,⟨xs,h⟩|⟨xs,h⟩|h⟩
 .exact⟨_,.non,rfl⟩
 .exact⟨_,.int i,rfl⟩
 .exact⟨_,.lst h,rfl⟩
 .exact⟨_,.tup h,rfl⟩
 .exact⟨_,.dK h,rfl⟩
def NoTup.ty{K:aq}{H:Hp}{v:V}(h:NoTup H v):∃t,iW K H v t/\cj K t (.type "tuple")=some false:=by
 rcases h with rfl|⟨i,rfl⟩|⟨z,rfl⟩|⟨a,rfl,⟨xs,h⟩|h⟩
 .exact⟨_,.non,rfl⟩
 .exact⟨_,.int i,rfl⟩
 .exact⟨_,.str z,rfl⟩
 .exact⟨_,.lst h,rfl⟩
 .exact⟨_,.dK h,rfl⟩
def NoStr.same{H H':Hp}{v:V}(h:NoStr H v)(s:Same H H'):NoStr H' v:=by
 rcases h with rfl|⟨i,rfl⟩|⟨a,rfl,⟨xs,h⟩|⟨xs,h⟩|h⟩
 .exact .inl rfl
 .exact .inr<|.inl ⟨i,rfl⟩
 .exact .inr<|.inr ⟨a,rfl,.inl ⟨xs,s _ _ h⟩⟩
 .exact .inr<|.inr ⟨a,rfl,.inr<|.inl ⟨xs,s _ _ h⟩⟩
 .exact .inr<|.inr ⟨a,rfl,.inr<|.inr<|s _ _ h⟩
def Tx(z:Str):Prop:=z.length<=80/\∀c∈z.cps.toList,c<128
def Itm(H:Hp)(v:V):Option Str->Prop
 | some z=>v=.str z/\Tx z
 | none=>NoStr H v
def Itms(H:Hp)(vs:Z9 V)(os:Z9 (Option Str)):Prop:=vs.length=os.length/\∀(i:Nat)(v:V)(o:Option Str),vs[i]?=some v->os[i]?=some o->Itm H v o
def Thing(H:Hp)(v:V):Option (Z9<|Option Str)->Prop
 | none=>NoTup H v
 | some os=>os.length<=500/\∃a vs,v=.ref a/\H a=some (.tup vs)/\Itms H vs os
theorem Itm.same{H H':Hp}{v:V}{o:Option Str}(h:Itm H v o)(s:Same H H'):Itm H' v o:=by
 cases o with
 | none=>exact NoStr.same h s
 | some z=>exact h
theorem Itms.same{H H':Hp}{vs:Z9 V}{os:Z9 (Option Str)}(h:Itms H vs os)(s:Same H H'):Itms H' vs os:=⟨h.1,λi v o e e'=>(h.2 i v o e e').same s⟩
def Itms.at{H:Hp}{vs:Z9 V}{os:Z9 (Option Str)}{i:Nat}{v:V}(h:Itms H vs os)(e:vs[i]?=some v):∃o,os[i]?=some o/\Itm H v o:=by
 have hi:i<vs.length:=(ar.mp e).1;have fH:i<os.length:=by rw[<-h.1];exact hi
 exact⟨os[i],ae fH,h.2 i v _ e<|ae fH⟩
def Tx.ok{z:Str}(h:Tx z):kb z=true:=by unfold kb;rw[Array.all_eq_true'];intro c hc;have:=h.2 c (by simpa using hc);simp only[decide_eq_true_eq];lia
noncomputable def sgB(c:Nat):Bool:=(c==35||c==46||c==44)||(decide (65<=c)&&decide (c<=90))||(decide (97<=c)&&decide (c<=122))
noncomputable def kW:Option Str->Bool
 | some z=>decide (1<=z.length)&&decide (z.length<=8)&&z.cps.toList.all sgB
 | none=>false
noncomputable def kU:Option Str->Nat
 | some z=>z.length
 | none=>0
noncomputable def flB:Option (Z9<|Option Str)->Bool
 | none=>false
 | some os=>decide (1<=os.length)&&decide (os.length<=8)&&os.all λo=>kW o&&(kU o==kU ((os[0]?).getD none))
def akw{x:Str}{l u:Option Int}{c:Nat}(h:c∈(Txt.slice x l u).cps.toList):c∈x.cps.toList:=by
 unfold Txt.slice at h;split at h
 .exact h
 .simp only[List.mem_filterMap]at h;obtain⟨i,_,e⟩:=h;have e':x.cps.toList[i]?=some c:=by simpa using e
  exact ah e'
theorem Tx.slice{x:Str}(h:Tx x)(l u:Option Int):Tx (Txt.slice x l u):=⟨fj (Txt.slice_le x l u) h.1,λc hc=>h.2 c<|akw hc⟩
def len_cat(x y:Str):(x++y).length=x.length+y.length:=by show(x.cps++y.cps).size=_;simp[Str.length]
def Tx.cat{x y:Str}(hx:Tx x)(hy:Tx y)(hl:x.length+y.length<=80):Tx (x++y):=⟨by rw[len_cat];exact hl,λc hc=>by
 have mF:c∈(x.cps++y.cps).toList:=hc;rw[Array.toList_append,bo]at mF;rcases mF with h|h
 .exact hx.2 c h
 .exact hy.2 c h⟩
theorem au1{g:Array Nat}(hg:g=#[]):∀(l:Z9 Str)(a:Array Nat),(l.foldl (λdS p=>dS++g++p.cps) a).toList=a.toList++(l.map λp=>p.cps.toList).flatten
 | [],a=>by simp
 | p::l,a=>by rw[List.foldl_cons,au1 hg l,hg];simp
theorem um{g:Str}(hg:g.cps=#[]):∀ys:Z9 Str,(j8 g ys).cps.toList=(ys.map λp=>p.cps.toList).flatten
 | []=>by simp[j8,PySem.Builtin.Str.glued,Str.empty]
 | y::ys=>by show((ys.foldl (λdS p=>dS++g.cps++p.cps) y.cps)).toList=_;rw[au1 hg];simp
theorem ag9:∀{ys:Z9 Str},(∀y∈ys,y.length=1)->((ys.map λp=>p.cps.toList).flatten).length=ys.length
 | [],_=>rfl
 | y::ys,h=>by have h1:=h y aj;have h2:=ag9 (ys:=ys) λz hz=>h z<|ak _ hz;unfold Str.length at h1;simp[h2,h1]<;>lia
def Tx.join{g:Str}{ys:Z9 Str}(hg:g.cps=#[])(h1:∀y∈ys,y.length=1)(h2:∀y∈ys,Tx y)(hl:ys.length<=80):Tx (j8 g ys)/\(j8 g ys).length=ys.length:=by
 have e:=um hg ys;have l:(j8 g ys).length=ys.length:=by rw[<-ag9 h1,<-e];simp[Str.length]
 refine⟨⟨by lia,λc hc=>?_⟩,l⟩;rw[e,List.mem_flatten]at hc;obtain⟨t,ht,hc⟩:=hc;obtain⟨y,hy,rfl⟩:=a7.mp ht;exact(h2 y hy).2 c hc
section
variable{prog:aI}{w:aJ}{A:Around}{E:aA->aB->Prop}{s:aB}
def avd{I:aF}{z:Str}{t:pN}{k c:Nat}{R:aA->aB->Prop}(st:s.heap.IsStrIter I "str_ascii_iterator" z t k)(hv:z.cps[k]?=some c)
  (q:∀g,g.IsStrIter I "str_ascii_iterator" z t (k+1)->cf I s.heap g->R (.str ⟨#[c]⟩ s.toks) {s with heap:=g,toks:=s.toks+1}):wpAny (aG prog w) A (gh<|.ref I) R E s:=by
 obtain⟨u,hu,uc,ud⟩:=id st;unfold gh;refine ac<|gm (name:=aa "__next__") st.typeIs jx<|gz jx st.typeIs F.entry_str_ascii_iterator_next ?_<|F.args_str_ascii_iterator_next_1 _;refine(ac (ke hu ud (x:=.str z t) rfl ?_):wpAny _ _ (rM (.ref I) 0 >>= _) _ _ s);refine(ac (ke hu ud (x:=.int k 0) rfl ?_):wpAny _ _ (rM (.ref I) 1 >>= _) _ _ s);simp only[ia,hv];refine ac<|j4 hu ud (by simp)<|ac<|wpAny_mkStr (ao ⟨_,rfl,ao<|q _ ⟨_,dq _ hu<|Obj.isFreed_of_fields<|Obj.data_mapFields ud _,?_,?_⟩<|gk ..⟩) sZ1
 .exact(Obj.cls_mapFields ..).trans uc
 .rw[Obj.data_mapFields ud];simp[jX]
def afy{X:aF}{h1:Heap}{k:aA->Sem Fin}(hh:A.handled=none)(keep:kg X s.heap h1)
  (q:∀g e,kg X s.heap g->(∃o,g.get? e=some o/\o.cls=.type "StopIteration")->E (.ref e) {s with heap:=g}) {R:Fin->aB->Prop}
  (ek:∀v,k v=(vU v:Sem Fin)):wpAny (aG prog w) A (sU (.type "StopIteration") [] >>= k) R E {s with heap:=h1}:=by
 refine ac ?_;simp only[sU,mX];refine ac (gg ?_<|by size_fits);refine ac (m:=cO _ _) (cJ (a:=aA.none) (by first|rfl|(simp only[cO];rfl))<|gg ?_<|by size_fits);rw[ek];simp only[vU];refine ac<|oO ?_;rw[hh];exact ac<|ao<|vM<|q _ _ ((keep.push _).push _) ⟨_,ba _ rfl,rfl⟩
def ai9{I:aF}{z:Str}{t:pN}{k:Nat}{R:aA->aB->Prop}(hh:A.handled=none)(st:s.heap.IsStrIter I "str_ascii_iterator" z t k)(hv:z.cps[k]?=none)
  (q:∀g e,kg I s.heap g->(∃o,g.get? e=some o/\o.cls=.type "StopIteration")->E (.ref e) {s with heap:=g}):wpAny (aG prog w) A (gh<|.ref I) R E s:=by
 obtain⟨u,hu,uc,ud⟩:=id st;unfold gh;refine ac<|gm (name:=aa "__next__") st.typeIs jx<|gz jx st.typeIs F.entry_str_ascii_iterator_next ?_<|F.args_str_ascii_iterator_next_1 _;refine(ac (ke hu ud (x:=.str z t) rfl ?_):wpAny _ _ (rM (.ref I) 0 >>= _) _ _ s);refine(ac (ke hu ud (x:=.int k 0) rfl ?_):wpAny _ _ (rM (.ref I) 1 >>= _) _ _ s);simp only[ia,hv];refine ac<|iD<|ac<|j4 hu ud (by simp)<|ac<|dU ?_;exact afy (A:=A.in1) hh (gk ..).extBut q λ_=>rfl
def akj{e I:aF}{i:Nat}{gM:aA}{Y:aA->Prop}{N:Heap->Prop}{Q:Option aA->aB->Prop}(he:fA s.heap e I i gM)(dO:e≠I)
  (hN:∀g g',N g->(∀o,g.get? I=some o->g'.get? I=some o)->N g')
  (lV:∀(A':Around)(R:aA->aB->Prop)(E':aA->aB->Prop),(∀x g tk,Y x->N g->cf I s.heap g->R x {s with heap:=g,toks:=tk})->wpAny (aG prog w) A' (gh<|.ref I) R E' s)
  (hQ:∀x g tk AE,Y x->Gk g e I ((i:Int)+1) x s.heap.objs.size->N g->g.get? s.heap.objs.size=some {cls:=.type "tuple",data:=.seq #[.int i AE,x]}->(∀b o,b≠e->b≠I->s.heap.get? b=some o->g.get? b=some o)->Q (some<|.ref s.heap.objs.size) {s with heap:=g,toks:=tk}) :
  wpAny (aG prog w) A (aX<|.ref e) Q E s:=by
 obtain⟨h0,ga,dr,t0,os⟩:=s;have ty:aB.TypeIs ⟨h0,ga,dr,t0,os⟩ (.ref e) "enumerate":=⟨_,he,rfl⟩
 replace he:fA h0 e I i gM:=he
 have tH:e<h0.objs.size:=bi he;unfold aX;refine ac<|bR<|gm (name:=aa "__next__") ty F.slot_enumerate_next<|gz F.slot_enumerate_next ty F.entry_enumerate_next ?_<|F.args_enumerate_next_1 _;show wpAny _ _ (rM (.ref e) 2 >>= _) _ _ ⟨h0,ga,dr,t0,os⟩;refine ac<|ke he rfl (x:=.ref I) rfl<|ac<|lV _ _ _ λx g1 tk yx n1 AI=>?_
 replace AI:cf I h0 g1:=AI
 have e1:fA g1 e I i gM:=(AI.2 e dO).trans he;have z1:g1.objs.size=h0.objs.size:=AI.1;have k1:∀b o,b≠e->b≠I->h0.get? b=some o->g1.get? b=some o:=λb o _ hb h=>(AI.2 b hb).trans h;clear AI;show wpAny _ _ (rM (.ref e) 3 >>= _) _ _ ⟨g1,ga,dr,tk,os⟩;refine ac<|ke e1 rfl (x:=jX i) rfl ?_;show wpAny _ _ (rM (.ref e) 4 >>= _) _ _ ⟨g1,ga,dr,tk,os⟩;refine ac<|ke e1 rfl (x:=.none) rfl ?_;show wpAny _ _ (mkInt i >>= _) _ _ ⟨g1,ga,dr,tk,os⟩;refine ac<|wpAny_mkInt ?_;show wpAny _ _ (setField (.ref e) 3 (jX<|(i:Int)+1) >>= _) _ _ ⟨g1,ga,dr,tk+1,os⟩;refine ac<|cG e1 (by simp) λg2 e2 AH=>?_
 replace AH:cf e g1 g2:=AH
 replace e2:fA g2 e I ((i:Int)+1) gM:=e2
 have z2:g2.objs.size=h0.objs.size:=AH.1.trans z1;have n2:N g2:=hN _ _ n1 λo h=>(AH.2 I<|Ne.symm dO).trans h;have k2:∀b o,b≠e->b≠I->h0.get? b=some o->g2.get? b=some o:=λb o hb hI h=>(AH.2 b hb).trans (k1 b o hb hI h);clear AH n1 k1 e1 z1;show wpAny _ _ (setField (.ref e) 4 .none >>= _) _ _ ⟨g2,ga,dr,tk+1,os⟩;refine ac<|cG e2 (by simp) λg3 e3 vR=>?_
 replace vR:cf e g2 g3:=vR
 replace e3:fA g3 e I ((i:Int)+1) gM:=e3
 have z3:g3.objs.size=h0.objs.size:=vR.1.trans z2;have n3:N g3:=hN _ _ n2 λo h=>(vR.2 I<|Ne.symm dO).trans h;have k3:∀b o,b≠e->b≠I->h0.get? b=some o->g3.get? b=some o:=λb o hb hI h=>(vR.2 b hb).trans (k2 b o hb hI h);clear vR n2 k2 e2 z2;show wpAny _ _ (mX [.int i tk,x] >>= _) _ _ ⟨g3,ga,dr,tk+1,os⟩;refine ac<|wpAny_newTuple ?_;have e4:fA (g3.push {cls:=.type "tuple",data:=.seq #[.int i tk,x]}) e I ((i:Int)+1) gM:=ai _ e3;have n4:N (g3.push {cls:=.type "tuple",data:=.seq #[.int i tk,x]}):=hN _ _ n3 λo h=>ai _ h;have k4:∀b o,b≠e->b≠I->h0.get? b=some o->(g3.push {cls:=.type "tuple",data:=.seq #[.int i tk,x]}).get? b=some o:=λb o hb hI h=>ai _<|k3 b o hb hI h;have t4:(g3.push {cls:=.type "tuple",data:=.seq #[.int i tk,x]}).get? h0.objs.size=some {cls:=.type "tuple",data:=.seq #[.int i tk,x]}:=by have h:=ba g3 (o:={cls:=.type "tuple",data:=.seq #[.int i tk,x]}) rfl;rw[z3]at h;exact h
 generalize hg4:g3.push {cls:=.type "tuple",data:=.seq #[.int i tk,x]}=g4 at *;show wpAny _ _ (Builtin.SmallTypes.ownedTupleIsFree (.ref e) >>= _) _ _ ⟨g4,ga,dr,tk+1,os⟩;rw[z3];clear hg4 n3 k3 e3 z3 g3;refine ac ?_;unfold Builtin.SmallTypes.ownedTupleIsFree;refine ac<|ke e4 rfl (x:=.none) rfl<|ao ?_;simp only[if_true];refine ac<|iD<|ac<|ke e4 rfl (x:=gM) rfl<|ac<|cG e4 (by simp) λg5 e5 GL=>?_
 replace GL:cf e g4 g5:=GL
 replace e5:fA g5 e I ((i:Int)+1) x:=e5
 show wpAny _ _ (Builtin.SmallTypes.ownedTupleHandOut (.ref e) (.ref h0.objs.size) >>= _) _ _ ⟨g5,ga,dr,tk+1,os⟩;refine ac ?_;unfold Builtin.SmallTypes.ownedTupleHandOut;refine ac<|cG e5 (by simp) λg6 e6 GK=>?_
 replace GK:cf e g5 g6:=GK
 replace e6:Gk g6 e I ((i:Int)+1) x h0.objs.size:=e6
 refine cG e6 (by simp) λg7 e7 GJ=>?_
 replace GJ:cf e g6 g7:=GJ
 replace e7:Gk g7 e I ((i:Int)+1) x h0.objs.size:=e7
 have all:∀b o,b≠e->g4.get? b=some o->g7.get? b=some o:=λb o hb h=>(GJ.2 b hb).trans ((GK.2 b hb).trans ((GL.2 b hb).trans h));exact ac<|dU<|ao ⟨_,rfl,ao<|hQ x g7 _ tk yx e7 (hN _ _ n4 λo h=>all I o (Ne.symm dO) h) (all _ _ (Nat.ne_of_gt tH) t4) λb o hb hI h=>all b o hb<|k4 b o hb hI h⟩
def aow{e I:aF}{i:Int}{gM:aA}{Q:Option aA->aB->Prop}(he:fA s.heap e I i gM)
  (lV:∀(R:aA->aB->Prop)(E':aA->aB->Prop),(∀g x,kg I s.heap g->(∃o,g.get? x=some o/\o.cls=.type "StopIteration")->E' (.ref x) {s with heap:=g})->wpAny (aG prog w) A.in1 (gh<|.ref I) R E' s)
  (hQ:∀g,kg I s.heap g->Q none {s with heap:=g}):wpAny (aG prog w) A (aX<|.ref e) Q E s:=by
 have ty:s.TypeIs (.ref e) "enumerate":=⟨_,he,rfl⟩;unfold aX;refine ac<|bR<|gm (name:=aa "__next__") ty F.slot_enumerate_next<|gz F.slot_enumerate_next ty F.entry_enumerate_next ?_<|F.args_enumerate_next_1 _;show wpAny _ _ (rM (.ref e) 2 >>= _) _ _ s;refine ac<|ke he rfl (x:=.ref I) rfl<|ac<|lV _ _ λg x kp ⟨o,ho,hc⟩=>?_;exact ac<|cW (T:="StopIteration") (b:=true) ⟨o,ho,hc⟩ mZ<|ao<|hQ _ kp
end
section
variable{X:Cx}{aE:Z9 (aF×Obj)}{σ:L2.St}{H:Hp}{s:aB}{h':Heap}
def atk{t':Nat}{e it:aF}(I:Inv X aE σ H s)(k:∀b o,b≠e->b≠it->s.heap.get? b=some o->h'.get? b=some o)(fe:mI X aE H e)(fi:mI X aE H it):Inv X aE σ H {s with heap:=h',toks:=t'}:=by
 obtain⟨e0,e1,e2,e3,e4,e5⟩:=fe;obtain⟨i0,i1,i2,i3,i4,i5⟩:=fi;have nn:∀b u,H b=some u->b≠e/\b≠it:=λb u q=>⟨λz=>(by rw[z,e0]at q;cases q),λz=>(by rw[z,i0]at q;cases q)⟩;have sp:∀b,b∉[e,it]->b≠e/\b≠it:=λb hb=>by simpa using hb
 refine I.step (g':=s.gens) (d':=s.drawn) (ch:=[e,it]) (λb hb=>?_) (λb o _ _ hc q _=>k b o (sp b hc).1 (sp b hc).2 q) (λb o _ _ hc q _=>⟨o.slots,k b o (sp b hc).1 (sp b hc).2 q⟩) (λ_ _ _ _ n=>n)
  (λb o hc q=>⟨o,k b o (sp b hc).1 (sp b hc).2 q⟩) (λ_ _ q=>q) (λ_ _ _ q=>q) (λb ps q=>⟨#[],by rw[q];simp⟩) (λm hm=>?_) (λb u q=>?_) I.bare
 .rcases ap.mp hb with z|z
  .subst z;exact⟨e3,e1,e4,e5⟩
  .rw[a6.mp z];exact⟨i3,i1,i4,i5⟩
 .obtain⟨o,es,ep,ho,r⟩:=hm;exact(mj o es ep ⟨k _ o (Ne.symm e1) (Ne.symm i1) ho,r⟩)
 .refine(I.hok b u q).stay (λc v hc r=>k c v ?_ ?_ r) (λ_ r=>r) λ_ _ r=>r
  .rcases hc with z|z
   .rw[z];exact(nn b u q).1
   .exact(nn c _ z).1
  .rcases hc with z|z
   .rw[z];exact(nn b u q).2
   .exact(nn c _ z).2
end
def ae4{P:aI}{w:aJ}{K:aq}{jR:Z9 Expr}{x1}{pos:cU}(J:It)(e I:aF)(dO:e≠I)(M:Nat->Heap->Prop)
  (nZ:∀i h,M i h->∃o,h.get? I=some o/\∀v,o.data≠.cell v) (fY:∀i h h',M i h->(∀o,h.get? I=some o->h'.get? I=some o)->M i h')
  (CQ:∀(X:Cx),X.prog=P->X.w=w->X.K=K->∀(i:Nat) aE (s:aB) σ H,Inv X aE σ H s->M i s.heap->J.go i H->∃Y:aA->Prop,
   (∀u,Y u->∃x,RelV x u/\J.yld i H (.ref s.heap.objs.size) (upd H s.heap.objs.size<|.tup [.int i,x]))/\
   ∀(A':Around)(R:aA->aB->Prop)(E':aA->aB->Prop),(∀u g tk,Y u->M (i+1) g->cf I s.heap g->R u {s with heap:=g,toks:=tk})->wpAny (aG P w) A' (gh<|.ref I) R E' s)
  (C1:∀(X:Cx),X.prog=P->X.w=w->X.K=K->∀(i:Nat) aE (s:aB) σ H,Inv X aE σ H s->M i s.heap->J.stop i H->
   ∀(A':Around)(R:aA->aB->Prop)(E':aA->aB->Prop),A'.handled=none->(∀g u,kg I s.heap g->(∃o,g.get? u=some o/\o.cls=.type "StopIteration")->E' (.ref u) {s with heap:=g})->wpAny (aG P w) A' (gh<|.ref I) R E' s) :
  tO P w K (.Tuple jR x1 pos) J [e,I] e (λi h=>(∃gM,fA h e I i gM)/\M i h)where
 mem:=by simp
 obj:=λi h st b hb=>by
  obtain⟨⟨gM,he⟩,m⟩:=st;rcases ap.mp hb with z|z
  .subst z;exact⟨_,he,λv z=>by cases z⟩
  .rw[a6.mp z];exact nZ i h m
 keep:=λi h h' st k=>by obtain⟨⟨gM,he⟩,m⟩:=st;exact⟨⟨gM,k e (by simp) _ he⟩,fY i h h' m λo q=>k I (by simp) o q⟩
 item:=by
  intro X hP hw hK hc i aE s σ H E Iv hf st hg;obtain⟨⟨gM,he⟩,m⟩:=st;obtain⟨Y,hY,lV⟩:=CQ X hP hw hK i aE s σ H Iv m hg;subst hP hw hK;have fe:=hf e (by simp);have fi:=hf I (by simp);have tH:e<s.heap.objs.size:=bi he;obtain⟨oi,hoi,_⟩:=nZ i _ m;have oX:I<s.heap.objs.size:=bi hoi;refine akj he dO (N:=M<|i+1) (λg g' n k=>fY _ _ _ n k) lV λu g tk AE yu eo n t4 k=>⟨_,rfl,?_⟩;refine wpAny_letOwnedTupleGo_enum (s:={s with heap:=g,toks:=tk}) eo λg' e' sb=>?_;obtain⟨v,rv,yl⟩:=hY u yu;have I1:Inv X aE σ (upd H s.heap.objs.size<|.tup [.int i,v]) {s with heap:=s.heap.push {cls:=.type "tuple",data:=.seq #[.int i AE,u]},toks:=tk}:=
   Iv.laid (t':=tk) (λb o q=>ai _ q) (av _) ⟨by show 2<=aC;decide,[.int i AE,u],.cons ⟨AE,rfl⟩<|.cons rv .nil,(ma _ (ba _ rfl) rfl _ rfl)⟩
  have up:∀b,b<s.heap.objs.size->mI X aE H b->mI X aE (upd H s.heap.objs.size<|.tup [.int i,v]) b:=λb hb q=>⟨by rw[lh (ck hb)];exact q.1,q.2⟩;have I2:Inv X aE σ (upd H s.heap.objs.size<|.tup [.int i,v]) {s with heap:=g,toks:=tk}:=atk (s:={s with heap:=s.heap.push {cls:=.type "tuple",data:=.seq #[.int i AE,u]},toks:=tk}) (t':=tk) I1 (λb o h1 h2 q=>by
   rcases Heap.get?_push_cases q with ⟨z1,z2⟩|z
   .rw[z1,z2];exact t4
   .exact k b o h1 h2 z) (up e tH fe)<|up I oX fi
  have A5:=up e tH fe;have I3:Inv X aE σ (upd H s.heap.objs.size<|.tup [.int i,v]) {s with heap:=g',toks:=tk}:=Inv.turned (s:={s with heap:=g,toks:=tk}) (t':=tk) I2 (λb o hb q=>(sb.2 b hb).trans q) A5.1 A5.2.1 A5.2.2.2.1 A5.2.2.2.2.1 A5.2.2.2.2.2;refine(lv (.ref s.heap.objs.size) _ ⟨I3,rfl,yl,⟨⟨u,e'⟩,fY _ _ _ n λo q=>(sb.2 I<|Ne.symm dO).trans q⟩,λb hb=>?_⟩);rcases ap.mp hb with z|z
  .subst z;exact A5.1
  .rw[a6.mp z];exact(up I oX fi).1
 done:=by intro X hP hw hK hc i aE s σ H E Iv hf st hg;obtain⟨⟨gM,he⟩,m⟩:=st;have hd:=C1 X hP hw hK i aE s σ H Iv m hg;subst hP hw hK;have fi:=hf I (by simp);exact aow he (λR E' q=>hd _ R E' (Iv.ok.hd hc) q) λg kp=>⟨rfl,Iv.turned (t':=s.toks) (λb o hb q=>kp b o hb q) fi.1 fi.2.1 fi.2.2.2.1 fi.2.2.2.2.1 fi.2.2.2.2.2⟩
 self:=λ_ _ _ _ _ st h=>by obtain⟨⟨gM,he⟩,_⟩:=st;exact iX he h
noncomputable def Jes(z:Str):It:=
 ⟨λi _=>i<z.cps.toList.length,λi H v H'=>∃p c,H p=none/\v=.ref p/\H'=upd H p (.tup [.int i,.str ⟨#[c]⟩])/\z.cps.toList[i]?=some c,λi _=>z.cps.toList.length<=i⟩
def ai0{P:aI}{w:aJ}{K:aq}{jR:Z9 Expr}{x1}{pos:cU}(z:Str)(t:pN)(e I:aF)(dO:e≠I) :
  tO P w K (.Tuple jR x1 pos) (Jes z) [e,I] e (λi h=>(∃gM,fA h e I i gM)/\h.IsStrIter I "str_ascii_iterator" z t i):=by
 refine ae4 (Jes z) e I dO (λi h=>h.IsStrIter I "str_ascii_iterator" z t i) (λi h st=>?_) (λi h h' st k=>?_) (λX hP hw hK i aE s σ H Iv st hg=>?_) λX hP hw hK i aE s σ H Iv st hg A' R E' hh q=>?_
 .obtain⟨o,ho,c,d⟩:=st;exact⟨o,ho,λv z=>by rw[d]at z;cases z⟩
 .obtain⟨o,ho,r⟩:=st;exact⟨o,k o ho,r⟩
 .subst hP hw hK;have hi:i<z.cps.size:=by simpa [Jes]using hg
  refine⟨λu=>∃tk,u=.str ⟨#[z.cps[i]]⟩ tk,λu hu=>?_,λA' R E' q=>?_⟩
  .obtain⟨tk,rfl⟩:=hu;exact(m8 (.str ⟨#[z.cps[i]]⟩) ⟨tk,rfl⟩ s.heap.objs.size (z.cps[i]) ⟨Iv.hok.fresh<|av _,rfl,rfl,by simp[hi]⟩)
  .exact avd st (c:=z.cps[i]) (by simp[hi]) λg eX sb=>q _ g _ ⟨_,rfl⟩ eX sb
 .subst hP hw hK;have hi:z.cps.size<=i:=by simpa [Jes]using hg
  exact ai9 hh st (by simp;lia) q
section
variable{X:Cx}{jR:Z9 Expr}{x1:Nat}{tZ p pos:cU}{a:Expr}{ta:TA}
def a1s(ta:TA):TI:=λσ H R=>ta σ H λvs H1=>∃z:Str,vs=[.str z]/\(∀c∈z.cps.toList,c<128)/\R (Jes z) H1
def avh(hg:Gl X "enumerate")(hm:X.mg "enumerate" = none)(ha:PA X [a] ta)(hs:o7 a=true:=by rfl):PI X (.Tuple jR x1 tZ) (.Call (.Name "enumerate" p) [a] [] pos) (a1s ta):=by
 intro aE s σ H R I h;refine Call_<|ur I hg hm boot_enumerate<|f8 (thn (ha pos aE s σ H _ I h) λus s1 ⟨vs,H1,I1,r1,q1⟩=>?_) (m9 hs) rfl;obtain⟨z,e,hz,q⟩:=q1;subst e;obtain⟨u,rfl,t,rfl⟩:=se r1;have asc:strIterType z="str_ascii_iterator":=by unfold strIterType;rw[if_pos];rw[Array.all_eq_true'];intro c hc;simpa using hz c (by simpa using hc)
 refine call_enumerate_str λg he hi _ kp=>iX (s:={s1 with heap:=g}) he ?_;rw[asc]at hi;refine(nj (s1.heap.objs.size+1) ([s1.heap.objs.size+1,s1.heap.objs.size]) _ _ H1 ⟨rfl,I1.kept (t':=s1.toks) kp,ai0 z t (s1.heap.objs.size+1) s1.heap.objs.size<|Nat.succ_ne_self _,⟨⟨_,he⟩,hi⟩,λc hc=>?_,q⟩);rcases ap.mp hc with z|z
 .subst z;exact I1.fpOk (by lia)<|I1.hok.fresh<|by lia
 .rw[a6.mp z];exact I1.fpOk (av _)<|I1.hok.fresh<|av _
end
def alj(J:It)(n:Nat){g:TG}{tb:TS}{D:mJ}{σ:L2.St}{H:Hp}(Pv:Nat->L2.St->Hp->Prop)(h0:Pv 0 σ H)(uW:∀i σ H,i<n->Pv i σ H->J.go i H)(bD:∀σ H,Pv n σ H->J.stop n H)
  (hs:∀i v σ H H',i<n->Pv i σ H->J.yld i H v H'->g v σ H' λσ2 H2=>tb {D with nx:=Pv<|i+1,ct:=Pv<|i+1,bk:=D.nx} σ2 H2) (hd:∀σ H,Pv n σ H->D.nx σ H) :
  ∃W:Nat->Nat->L2.St->Hp->Prop,(∃m,W 0 m σ H)/\∀i m σ H,W i m σ H->
   (J.stop i H/\D.nx σ H)\/(J.go i H/\∃N:L2.St->Hp->Prop,(∀σ' H',N σ' H'->∃m',m'<m/\W (i+1) m' σ' H')/\∀v H',J.yld i H v H'->g v σ H' λσ2 H2=>tb {D with nx:=N,ct:=N,bk:=D.nx} σ2 H2):=by
 refine⟨λi m σ H=>m=n-i/\i<=n/\Pv i σ H,⟨n,by simp,dv _,h0⟩,?_⟩;rintro i m σ H ⟨rfl,hi,p⟩;by_cases bX:i<n
 .exact .inr ⟨uW i σ H bX p,Pv<|i+1,λσ' H' p'=>⟨n-(i+1),by lia,rfl,bX,p'⟩,λv H' y=>hs i v σ H H' bX p y⟩
 .have e:i=n:=by lia
  subst e;exact .inl ⟨bD σ H p,hd σ H p⟩
def atb{z:Str}{g:TG}{tb:TS}{D:mJ}{σ:L2.St}{H:Hp}(Pv:Nat->L2.St->Hp->Prop)(h0:Pv 0 σ H)
  (hs:∀i c p σ H,z.cps.toList[i]?=some c->H p=none->Pv i σ H->g (.ref p) σ (upd H p<|.tup [.int (i:Nat),.str ⟨#[c]⟩]) λσ2 H2=>tb {D with nx:=Pv<|i+1,ct:=Pv<|i+1,bk:=D.nx} σ2 H2) (hd:∀σ H,Pv z.cps.toList.length σ H->D.nx σ H) :
  ∃W:Nat->Nat->L2.St->Hp->Prop,(∃m,W 0 m σ H)/\∀i m σ H,W i m σ H->
   ((Jes z).stop i H/\D.nx σ H)\/((Jes z).go i H/\∃N:L2.St->Hp->Prop,(∀σ' H',N σ' H'->∃m',m'<m/\W (i+1) m' σ' H')/\∀v H',(Jes z).yld i H v H'->g v σ H' λσ2 H2=>tb {D with nx:=N,ct:=N,bk:=D.nx} σ2 H2):=by
 refine alj (Jes z) z.cps.toList.length Pv h0 (λi σ H hi p=>hi) (λσ H p=>av _) (λi v σ H H' hi p y=>?_) hd;obtain⟨b,c,hb,rfl,rfl,hc⟩:=y;exact hs i c b σ H hc hb p
section
variable{X:Cx}
def a1r:Z9 V->Hp->VK->Prop:=λxs H Q=>∃(p:aF)(bs:Z9 Bool),xs=[.ref p]/\H p=some (.lst<|bs.map V.bl)/\Q (.bl<|bs.any id) H
def an3:∀(bs:Z9 Bool),((dt bs.length).any λi=>(bs[i]?).getD true)=bs.any id:=λbs=>by
 rw[gj,List.any_eq_true,List.any_eq_true];constructor
 .rintro⟨i,hi,h⟩;have fH:i<bs.length:=by simpa using hi
  exact⟨bs[i],fz fH,by simpa [fH]using h⟩
 .rintro⟨b,hb,h⟩;obtain⟨i,hi,rfl⟩:=List.mem_iff_getElem.mp hb;exact⟨i,by simpa using hi,by simpa [hi]using h⟩
def aoe(hc:X.calm=true):qj X (.builtin "any") a1r:=by
 intro aE s σ H xs us Q I r h;obtain⟨p,bs,rfl,hp,q⟩:=h;obtain⟨u,rfl,r1⟩:=se r;cases (show u=aA.ref p from r1);obtain⟨its,rv,pl,hz⟩:=I.list<|SqL.of (K:=X.K) hp;have bX:p<s.heap.objs.size:=by obtain⟨_,_,e,_⟩:=pl;exact bi e
 have aU:its.length=bs.length:=by rw[<-rv.length,af]
 refine call_any_walk<|js pl.isList ?_;refine⟨s.heap.objs.size,[s.heap.objs.size,p],[s.heap.objs.size],its.toArray.size,_,_,λi=>(bs[i]?).getD true,rfl,gE.list (A:=X.A.in1) (I.ok.hd hc) _ p (ck bX) its.toArray,
  ⟨⟨_,ba _ rfl,rfl,rfl⟩,pl.isList.push _⟩,λi v s' Q' E' hP hQ=>?_,λh' tk hk=>?_⟩
 .have hi:its[i]?=some v:=by simpa using hP
  have qY:i<bs.length:=by rw[<-aU];exact(ar.mp hi).1
  obtain⟨u',e1,e2⟩:=rv.get (i:=i) (x:=.bl bs[i]) (by rw[au,ae qY];rfl);rw[hi]at e1;cases e1;cases (show v=aA.bool bs[i]from e2);have C9:Q' ((bs[i]?).getD true) s':=hQ;rw[ae qY]at C9;exact gf C9
 .refine(lv (.bl _) H ⟨I.kept λb o e=>hk b o (λhm=>?_)<|ai _ e,rfl,?_⟩)
  .rw[a6.mp hm]at e;exact gy _<|bi e
  .rw[be,aU,an3];exact q
def asn:V->Z9 V->Hp->VK->Prop:=λx vs H Q=>∃(l:aF)(xs:Z9 V)(i:Nat)(y:V),x=.ref l/\vs=[.int (i:Nat),y]/\H l=some (.lst xs)/\i<=xs.length/\xs.length<1000/\Q .non (upd H l<|.lst (xs.take i++y::xs.drop i))
seal PySem.wpAny PySem.Meets in
def anb:MtM X "list.insert" asn:=by
 intro aE s σ H x vs v us Q I rx rv h;obtain⟨l,xs,i,y,rfl,rfl,hH,hi,hb,q⟩:=h;cases rx;obtain⟨u,u2,rfl,ru,ru2⟩:=rv.two;obtain⟨t,rfl⟩:=ru;obtain⟨z,its,n,r,hl,e⟩:=I.lstM hH;have hf:¬(!Builtin.List.listFitsIndex ((i:Nat):Int))=true:=by rw[nJ (by lia) (by lia)];simp
 have hsz:its.toArray.size<=aC:=by rw[be];lia
 have M:=@PySem.AutoListH.list_insert_list_int_val_1 l its.toArray n ((i:Nat):Int) t u2 hf hsz;refine dA F.slot_list_insert ⟨_,e,rfl⟩ F.entry_list_insert (F.args_list_insert_3 _ _ _) M ⟨e,?_⟩;refine(lv .non _ ⟨I.lset (its':=its.take i++u2::its.drop i) hH e ?_ ((r.take i).append (.cons ru2<|r.drop i)) ?_,rfl,q⟩)
 .have hk:(if ((i:Nat):Int)<0 then(((i:Nat):Int)+((its.toArray.size:Nat):Int)).toNat else lB ((i:Nat):Int).toNat its.toArray.size)=i:=by
   rw[if_neg (by lia),be];lia
  dsimp only;rw[hk];apply Array.toList_inj.mp;simp[Array.toList_extract];rw[bb (by simp)]
 .rw[a9,bc,cq,gl,dw];lia
end
end L3
namespace L3
open PySem
noncomputable def sm5:Nat->Nat
 | 0=>0
 | m+1=>5*sm5 m+1
noncomputable def g5(m i:Nat):Nat:=5^m*i+sm5 m
def Lw(m i:Nat):g5 (m+1) i=5*g5 m i+1:=by show 5^(m+1)*i+(5*sm5 m+1)=5*(5^m*i+sm5 m)+1;rw[jy,Nat.mul_add,Nat.mul_comm (5^m) 5,Nat.mul_assoc,Nat.add_assoc]
theorem aqy(m n i:Nat):g5 (m+n) i=g5 m (g5 n i):=by
 induction m with
 | zero=>rw[Nat.zero_add];unfold g5 sm5;simp
 | succ m ih=>rw[Nat.succ_add,Lw,ih,Lw]
def ary(m n:Nat):sm5 (m+n)=5^m*sm5 n+sm5 m:=by have h:=aqy m n 0;unfold g5 at h;simpa using h
theorem ahu:∀k,∃c d:Nat,5^(2^k)=1+2^(k+2)*c/\sm5 (2^k)=2^k*(2*d+1)
 | 0=>(lv 1 0 ⟨rfl,rfl⟩)
 | k+1=>by
  obtain⟨c,d,h1,h2⟩:=ahu k;have e:2^(k+1)=2^k+2^k:=by rw[jy];lia
  refine(lv (c+2^(k+1)*c*c) (d+2^k*c*(2*d+1)) ⟨?_,?_⟩)
  .rw[e,Nat.pow_add,h1,show 2^(k+1+2)=8*2^k by rw[Nat.pow_add,Nat.pow_add];lia,show 2^(k+2)=4*2^k by rw[Nat.pow_add];lia];generalize 2^k=A
   grind
  .rw[e,ary,h1,h2,show 2^(k+2)=4*2^k by rw[Nat.pow_add];lia];generalize 2^k=A
   grind
def auf(k i:Nat):g5 (2^k) i % 2^(k+1)=(i+2^k) % 2^(k+1):=by
 obtain⟨c,d,h1,h2⟩:=ahu k;unfold g5;rw[h1,h2];have e3:2^(k+2)=2^(k+1)*2:=by rw[show k+2=(k+1)+1 by lia,jy]
 have e:(1+2^(k+2)*c)*i+2^k*(2*d+1)=(i+2^k)+2^(k+1)*(2*(c*i)+d):=by rw[e3,jy];generalize 2^k=A;simp only[Nat.add_mul,Nat.mul_add,Nat.one_mul,Nat.mul_one,Nat.mul_assoc,Nat.mul_comm,Nat.mul_left_comm];lia
 rw[e,Nat.add_mul_mod_self_left]
theorem Lj:∀(k i j:Nat),∃m,m<2^k/\g5 m i % 2^k=j % 2^k
 | 0,i,j=>⟨0,by decide,by simp[Nat.mod_one]⟩
 | k+1,i,j=>by
  obtain⟨m,hm,e⟩:=Lj k i j;have e2:2^(k+1)=2*2^k:=by rw[jy];lia
  by_cases h:g5 m i % 2^(k+1)=j % 2^(k+1)
  .exact⟨m,by lia,h⟩
  .refine⟨2^k+m,by lia,?_⟩;rw[aqy,auf];have a:=Nat.mod_add_div (g5 m i)<|2^(k+1);have l1:g5 m i % 2^(k+1)<2^(k+1):=Nat.mod_lt _ (by rw[e2];have:=Nat.two_pow_pos k;lia);have l2:j % 2^(k+1)<2^(k+1):=Nat.mod_lt _ (by rw[e2];have:=Nat.two_pow_pos k;lia);have m1:g5 m i % 2^(k+1) % 2^k=g5 m i % 2^k:=Nat.mod_mod_of_dvd _ ⟨2,by rw[e2];lia⟩;have m2:j % 2^(k+1) % 2^k=j % 2^k:=Nat.mod_mod_of_dvd _ ⟨2,by rw[e2];lia⟩;rw[Nat.add_mod,g0 (show 2^k<2^(k+1) by have:=Nat.two_pow_pos k;lia)];generalize g5 m i % 2^(k+1)=x at *;generalize j % 2^(k+1)=y at *;rw[<-m1,<-m2]at e;generalize 2^(k+1)=A at *;generalize 2^k=B at *;subst e2;have hx:x % B=if x<B then x else x-B:=by
    split
    .exact g0<|by assumption
    .rw[Nat.mod_eq_sub_mod (by lia),g0<|by lia]
   have hy:y % B=if y<B then y else y-B:=by
    split
    .exact g0<|by assumption
    .rw[Nat.mod_eq_sub_mod (by lia),g0<|by lia]
   rw[hx,hy]at e;have hz:(x+B) % (2*B)=if x+B<2*B then x+B else x+B-2*B:=by
    split
    .exact g0<|by assumption
    .rw[Nat.mod_eq_sub_mod (by lia),g0<|by lia]
   rw[hz];split at e<;>split at e<;>split<;>lia
open SetTable
noncomputable def itn{α:Type}(f:α->α):Nat->α->α
 | 0,x=>x
 | n+1,x=>itn f n<|f x
theorem uy{α:Type}(f:α->α):∀(m n:Nat)(x:α),itn f (m+n) x=itn f n (itn f m x)
 | 0,n,x=>by rw[Nat.zero_add];rfl
 | m+1,n,x=>by rw[Nat.succ_add];exact uy f m n<|f x
def L6{α:Type}(f:α->α)(n:Nat)(x:α):itn f (n+1) x=f (itn f n x):=by rw[uy f n 1 x];rfl
noncomputable def adv(mask:Nat)(p:Probe):Probe:=
 if p.more>0 then{p with j:=p.j+1,more:=p.more-1}else
 {p with j:=(leap mask p.i p.perturb).1,more:=runEnd mask (leap mask p.i p.perturb).1-(leap mask p.i p.perturb).1,i:=(leap mask p.i p.perturb).1,perturb:=(leap mask p.i p.perturb).2}
noncomputable def lp(mask:Nat)(x:Nat×Nat):Nat×Nat:=leap mask x.1 x.2
noncomputable def at0(mask:Nat)(x:Nat×Nat)(d:Option Nat):Probe:=⟨x.1,runEnd mask x.1-x.1,x.1,x.2,d⟩
def aq4(mask i:Nat):runEnd mask i-i<=9:=by unfold runEnd;split<;>lia
theorem F5(mask:Nat):∀(m:Nat)(p:Probe),p.more=m->itn (adv mask) (m+1) p=at0 mask (lp mask (p.i,p.perturb)) p.dummy
 | 0,p,h=>by show adv mask p=_;unfold adv;rw[if_neg (by lia)];rfl
 | m+1,p,h=>by
  show itn (adv mask) (m+1) (adv mask p)=_;have e:adv mask p={p with j:=p.j+1,more:=p.more-1}:=by unfold adv;rw[if_pos (by lia)]
  rw[e,F5 mask m _<|by show p.more-1=m;lia]
theorem Ku(mask:Nat):∀(m:Nat)(x:Nat×Nat)(d:Option Nat),∃n,n<=10*m/\itn (adv mask) n (at0 mask x d)=at0 mask (itn (lp mask) m x) d
 | 0,x,d=>⟨0,av _,rfl⟩
 | m+1,x,d=>by
  have h:=F5 mask _ (at0 mask x d) rfl;obtain⟨n,hn,e⟩:=Ku mask m (lp mask x) d;refine⟨((at0 mask x d).more+1)+n,?_,?_⟩
  .have:(at0 mask x d).more<=9:=aq4 mask x.1;lia
  .rw[uy,h];exact e
theorem Mn(mask:Nat):∀(m:Nat)(x:Nat×Nat)(b:Nat),x.2<32^b->(itn (lp mask) m x).2<32^(b-m)
 | 0,x,b,h=>by simpa [itn]using h
 | m+1,x,b,h=>by
  have h':(lp mask x).2<32^(b-1):=by
   show x.2/32<32^(b-1);cases b with
   | zero=>simp at h;simp[h]
   | succ b=>
    rw[jy]at h;simpa using Nat.div_lt_of_lt_mul (by lia)
  have:=Mn mask m (lp mask x) (b-1) h';rw[show b-(m+1)=b-1-m by lia];exact this
theorem xu{mask k:Nat}(hk:mask+1=2^k):∀(m i:Nat),i<2^k->itn (lp mask) m (i,0)=(g5 m i % 2^k,0)
 | 0,i,h=>by
  have e:g5 0 i=i:=by unfold g5 sm5;simp
  rw[e,g0 h];rfl
 | m+1,i,h=>by
  rw[L6,xu hk m i h];show((g5 m i % 2^k*5+1+0/32) % (mask+1),0/32)=_;rw[hk,Lw];have e:(g5 m i % 2^k*5+1+0/32) % 2^k=(5*g5 m i+1) % 2^k:=by rw[show 0/32=0 from rfl,Nat.add_zero,Nat.mul_comm,Nat.add_mod,Nat.mul_mod,Nat.mod_mod,<-Nat.mul_mod,<-Nat.add_mod]
  rw[e]
def KY{mask k:Nat}(hk:mask+1=2^k)(x:Nat×Nat):(lp mask x).1<2^k:=by show(x.1*5+1+x.2/32) % (mask+1)<2^k;rw[hk];exact Nat.mod_lt _<|Nat.two_pow_pos k
def aw1{mask k:Nat}(hk:mask+1=2^k)(p:Probe)(hm:p.more<=9)(hp:p.perturb<2^64)(j:Nat)(hj:j<=mask):∃n,n<10*turns mask/\(itn (adv mask) n p).j=j:=by
 have h1:=F5 mask p.more p rfl;obtain⟨n2,gU,e2⟩:=Ku mask 12 (lp mask (p.i,p.perturb)) p.dummy;have hz:(itn (lp mask) 12<|lp mask (p.i,p.perturb)).2<32^(13-13):=by have:=Mn mask 13 (p.i,p.perturb) 13 (by show p.perturb<32^13;exact cm hp<|by decide);exact this
 have qI:(itn (lp mask) 12<|lp mask (p.i,p.perturb)).2=0:=by simpa using hz
 have hi:(itn (lp mask) 12<|lp mask (p.i,p.perturb)).1<2^k:=by rw[L6];exact KY hk _
 generalize itn (lp mask) 12 (lp mask (p.i,p.perturb))=y at *;obtain⟨y1,y2⟩:=y;simp only at qI hi;subst qI;obtain⟨m,wM,e3⟩:=Lj k y1 j;obtain⟨n3,gO,e4⟩:=Ku mask m (y1,0) p.dummy;rw[xu hk m y1 hi,e3,g0<|by lia]at e4;refine⟨(p.more+1)+(n2+n3),?_,?_⟩
 .unfold turns;lia
 .rw[uy,h1,uy,e2,e4];rfl
end L3
namespace L3
open PySem SetTable
def Low(xs:Array Nat)(j b:Nat):Prop:=b<=xs.size/\(∀i v,i<b->xs[i]?=some v->v<j)/\(∀i v,b<=i->xs[i]?=some v->j<=v)
def FV{xs:Array Nat}(h:xs.toList.Pairwise (· < ·)){i k v u:Nat}(hi:xs[i]?=some v)(hk:xs[k]?=some u)(hik:i<k):v<u:=by rw[<-b8]at hi hk;obtain⟨h1,rfl⟩:=ar.mp hi;obtain⟨h2,rfl⟩:=ar.mp hk;exact gw.mp h i k h1 h2 hik
theorem LY{xs:Array Nat}(h:xs.toList.Pairwise (· < ·))(j:Nat):∀(fuel lo hi:Nat),hi-lo<=fuel->lo<=hi->hi<=xs.size->(∀i v,i<lo->xs[i]?=some v->v<j)->(∀i v,hi<=i->xs[i]?=some v->j<=v)->
  Low xs j (below.go xs j fuel lo hi)
 | 0,lo,hi,h1,h2,h3,a,b=>by
  have e:lo=hi:=by lia
  subst e;exact⟨h3,a,b⟩
 | fuel+1,lo,hi,h1,h2,h3,a,b=>by
  unfold below.go;by_cases bX:lo<hi
  .rw[if_pos bX];have hm:(lo+hi)/2<xs.size:=by lia
   have e:xs.getD ((lo+hi)/2) j=xs[(lo+hi)/2]:=by simp[Array.getD,hm]
   have e':xs[(lo+hi)/2]?=some xs[(lo+hi)/2]:=by simp[hm]
   dsimp only;rw[e];by_cases hc:xs[(lo+hi)/2]<j
   .rw[if_pos hc];refine LY h j fuel _ _ (by lia) (by lia) h3 (λi v fH hv=>?_) b;by_cases q:i=(lo+hi)/2
    .subst q;rw[e']at hv;cases hv;exact hc
    .have:=FV h hv e' (by lia);lia
   .rw[if_neg hc];refine LY h j fuel _ _ (by lia) (by lia) (by lia) a λi v fH hv=>?_;by_cases q:i=(lo+hi)/2
    .subst q;rw[e']at hv;cases hv;lia
    .have:=FV h e' hv (by lia);lia
  .rw[if_neg bX];have e:lo=hi:=by lia
   subst e;exact⟨h3,a,b⟩
def ww{xs:Array Nat}(h:xs.toList.Pairwise (· < ·))(j:Nat):Low xs j (below xs j):=
 LY h j xs.size 0 xs.size (by lia) (by lia) (av _) (λi v hi=>by lia) (λi v hi hv=>by have:=(cz.mp hv).1;lia)
def L0{xs:Array Nat}(h:xs.toList.Pairwise (· < ·)){i j:Nat}(hi:xs[i]?=some j):below xs j=i:=by
 obtain⟨a,b,c⟩:=ww h j;by_cases q:i<below xs j
 .have:=b i j q hi;lia
 by_cases q2:below xs j<i
 .have hl:=(cz.mp hi).1;have e':xs[below xs j]?=some xs[below xs j]:=by simp
  have:=FV h e' hi q2;have:=c _ _ (av _) e';lia
 .lia
def Mm{t:SetTable}(h:t.place.toList.Pairwise (· < ·)){i j:Nat}(hi:t.place[i]?=some j):t.slot j=.live i:=by unfold slot;rw[L0 h hi];dsimp only;rw[hi,if_pos<|by simp]
def ajc{t:SetTable}(h:t.place.toList.Pairwise (· < ·))(hd:t.dummies=#[]){j:Nat}(hj:j∉t.place.toList):t.slot j=.empty:=by
 unfold slot;dsimp only;rw[if_neg,if_neg]
 .rw[hd];unfold has;simp
 .intro e;have e':t.place[below t.place j]?=some j:=by simpa using e
  apply hj;rw[<-b8]at e';exact ah e'
def aol{t:SetTable}{j:Nat}(hj:j∈t.place.toList):∃i:Nat,t.place[i]?=some j:=by obtain⟨i,h⟩:=gp hj;exact⟨i,by rw[<-b8];exact h⟩
def pc{α:Type}(xs:Array α)(p:Nat)(x:α):(insertAt xs p x).toList=xs.toList.take p++x::xs.toList.drop p:=by unfold insertAt;simp[Array.toList_extract];rw[bb (by simp)]
def agb{xs:Array Nat}(h:xs.toList.Pairwise (· < ·)){j:Nat}(hj:j∉xs.toList):(insertAt xs (below xs j) j).toList.Pairwise (· < ·):=by
 obtain⟨a,b,c⟩:=ww h j;rw[pc,List.pairwise_append];refine⟨h.sublist<|List.take_sublist _ _,?_,?_⟩
 .rw[gt];refine⟨λv hv=>?_,h.sublist<|List.drop_sublist _ _⟩;obtain⟨i,hi⟩:=gp hv;rw[jn,b8]at hi;have:=c _ v (by lia) hi;have:v≠j:=λe=>hj (by rw[<-e];rw[<-b8]at hi;exact ah hi);lia
 .intro u hu v hv;obtain⟨i,hi⟩:=gp hu;have qY:i<below xs j:=by
   have:=(ar.mp hi).1;rw[cq]at this;lia
  rw[g9 qY,b8]at hi;have h1:=b i u qY hi;rcases ap.mp hv with rfl|hv
  .exact h1
  .obtain⟨i',fH⟩:=gp hv;rw[jn,b8]at fH;have:=c _ v (by lia) fH;lia
def Bc(ps:Z9 Nat)(es:Z9 (Int×aA))(j:Nat)(e:Int×aA):Prop:=∃i:Nat,ps[i]?=some j/\es[i]?=some e
theorem agi{ps:Z9 Nat}{es:Z9 (Int×aA)}(hl:ps.length=es.length)(p j0:Nat)(hp:p<=ps.length)(e0:Int×aA){j:Nat}{e:Int×aA} :
  Bc (ps.take p++j0::ps.drop p) (es.take p++e0::es.drop p) j e↔(j=j0/\e=e0)\/Bc ps es j e:=by
 have l1:(ps.take p).length=p:=by rw[cq];lia
 have l2:(es.take p).length=p:=by rw[cq];lia
 constructor
 .rintro⟨i,h1,h2⟩;by_cases hi:i<p
  .rw[de (by lia),g9 hi]at h1 h2;exact .inr ⟨i,h1,h2⟩
  .rw[cg (by lia),l1]at h1;rw[cg (by lia),l2]at h2;cases hq:i-p with
   | zero=>rw[hq]at h1 h2;cases h1;cases h2;exact .inl ⟨rfl,rfl⟩
   | succ q=>
    rw[hq,List.getElem?_cons_succ,jn]at h1 h2;exact .inr ⟨p+q,h1,h2⟩
 .rintro(⟨rfl,rfl⟩|⟨i,h1,h2⟩)
  .exact⟨p,by rw[cg (by lia),l1,Nat.sub_self];rfl,by rw[cg (by lia),l2,Nat.sub_self];rfl⟩
  .by_cases hi:i<p
   .exact⟨i,by rw[de (by lia),g9 hi];exact h1,by rw[de (by lia),g9 hi];exact h2⟩
   .refine⟨i+1,?_,?_⟩
    .rw[cg (by lia),l1,show i+1-p=(i-p)+1 by lia,List.getElem?_cons_succ,jn,show p+(i-p)=i by lia];exact h1
    .rw[cg (by lia),l2,show i+1-p=(i-p)+1 by lia,List.getElem?_cons_succ,jn,show p+(i-p)=i by lia];exact h2
noncomputable def st0(mask:Nat)(h:Int):Probe:=at0 mask (bits h % (mask+1),bits h) none
def aoj(t:SetTable)(h:Int):t.probeStart h=st0 t.mask h:=rfl
noncomputable def qx(mask:Nat)(h:Int)(n:Nat):Nat:=(itn (adv mask) n<|st0 mask h).j
def Lr(h:Int):bits h<2^64:=by unfold bits;lia
def vF(mask:Nat)(p:Probe):Prop:=p.more<=9/\p.perturb<2^64/\p.j+p.more<=mask
def aev(mask:Nat)(x:Nat×Nat)(d:Option Nat)(h1:x.1<=mask)(h2:x.2<2^64):vF mask (at0 mask x d):=by refine⟨aq4 mask x.1,h2,?_⟩;show x.1+(runEnd mask x.1-x.1)<=mask;unfold runEnd;split<;>lia
def an0{mask:Nat}{p:Probe}(h:vF mask p):vF mask (adv mask p):=by
 obtain⟨h1,h2,h3⟩:=h;unfold adv;split
 .exact⟨by simp only;lia,h2,by simp only;lia⟩
 .refine aev mask (leap mask p.i p.perturb) p.dummy ?_ ?_
  .show(p.i*5+1+p.perturb/32) % (mask+1)<=mask;have:=Nat.mod_lt (p.i*5+1+p.perturb/32) (show 0<mask+1 by lia);lia
  .show p.perturb/32<2^64;lia
theorem Mc{mask:Nat}:∀(n:Nat) {p:Probe},vF mask p->vF mask (itn (adv mask) n p)
 | 0,_,h=>h
 | n+1,_,h=>Mc n<|an0 h
def yw(mask:Nat)(h:Int):vF mask (st0 mask h):=aev mask _ _ (by
 have:=Nat.mod_lt (bits h) (show 0<mask+1 by lia);show bits h % (mask+1)<=mask;lia)<|Lr h
def asa(mask:Nat)(h:Int)(n:Nat):qx mask h n<=mask:=by have:=(Mc n<|yw mask h).2.2;unfold qx;lia
structure TOk(t:SetTable)(es:Array (Int×aA)):Prop where
 two:∃k,t.mask+1=2^k/\3<=k/\k<=13/\k % 2=1
 dm:t.dummies=#[]
 rise:t.place.toList.Pairwise (· < ·)
 bd:∀j∈t.place.toList,j<=t.mask
 sz:t.place.size=es.size
 fit:t.place.size<=t.mask
 onroad:∀j e,Bc t.place.toList es.toList j e->∃n,qx t.mask e.1 n=j/\∀n',n'<n->qx t.mask e.1 n'∈t.place.toList
def DN{ps:Z9 Nat}{m:Nat}(h:ps.length<=m):∃j,j<=m/\j∉ps:=by apply dg;intro hn;have aZ:∀j,j<=m->j∈ps:=λj hj=>dg λq=>hn ⟨j,hj,q⟩;have:=gc (l₁:=dt<|m+1) (l₂:=ps) List.nodup_range (λj hj=>aZ j<|by have:=iz.mp hj;lia);rw[jr]at this;lia
theorem amd{t:SetTable}{es:Array (Int×aA)}(ok:TOk t es)(bU:Nat->Int)(h:Int):∀(fuel:Nat)(p:Probe),(∃n,n<fuel/\(itn (adv t.mask) n p).j∉t.place.toList)->
  (∃n,probe.go t bU h fuel p=some (.empty (itn (adv t.mask) n p).j p.dummy)/\(itn (adv t.mask) n p).j∉t.place.toList/\∀n',n'<n->∃i:Nat,t.place[i]?=some (itn (adv t.mask) n' p).j/\bU i≠h)\/
  (∃n i,probe.go t bU h fuel p=some (.candidate (itn (adv t.mask) n p).j i (itn (adv t.mask) (n+1) p))/\t.place[i]?=some (itn (adv t.mask) n p).j/\bU i=h/\∀n',n'<n->∃i':Nat,t.place[i']?=some (itn (adv t.mask) n' p).j/\bU i'≠h)
 | 0,p,⟨n,hn,_⟩=>by lia
 | fuel+1,p,⟨n,hn,bS⟩=>by
  by_cases hp:p.j∈t.place.toList
  .obtain⟨i,hi⟩:=aol hp;have hs:=Mm ok.rise hi;by_cases hh:bU i=h
   .refine .inr<|lv 0 i ⟨?_,hi,hh,λn' eZ=>by lia⟩;unfold probe.go;rw[hs];dsimp only;rw[if_pos (by simp[hh])];rfl
   .have Cr:∃n,n<fuel/\(itn (adv t.mask) n<|adv t.mask p).j∉t.place.toList:=by
     cases n with
     | zero=>exact absurd hp bS
     | succ n=>exact⟨n,by lia,bS⟩
    have uW:probe.go t bU h (fuel+1) p=probe.go t bU h fuel (adv t.mask p):=by rw[probe.go,hs];dsimp only;rw[if_neg (by simp[hh])];rfl
    have hd:(adv t.mask p).dummy=p.dummy:=by unfold adv;split<;>rfl
    have B2:∀{n:Nat},(∀n',n'<n->∃i':Nat,t.place[i']?=some (itn (adv t.mask) n'<|adv t.mask p).j/\bU i'≠h)->∀n',n'<n+1->∃i':Nat,t.place[i']?=some (itn (adv t.mask) n' p).j/\bU i'≠h:=λH n' eZ=>by
     cases n' with
     | zero=>exact⟨i,hi,hh⟩
     | succ n'=>exact H n'<|by lia
    rcases amd ok bU h fuel (adv t.mask p) Cr with ⟨m,e,f,g⟩|⟨m,i',e,f,g,g'⟩
    .exact .inl ⟨m+1,by rw[uW,e,hd];rfl,f,B2 g⟩
    .exact .inr<|lv (m+1) i' ⟨by rw[uW,e];rfl,f,g,B2 g'⟩
  .refine .inl ⟨0,?_,hp,λn' eZ=>by lia⟩;unfold probe.go;rw[ajc ok.rise ok.dm hp];rfl
def aja{t:SetTable}{es:Array (Int×aA)}(ok:TOk t es)(bU:Nat->Int)(h:Int){p:Probe}(st:vF t.mask p) :
  (∃n,t.probe bU h p=some (.empty (itn (adv t.mask) n p).j p.dummy)/\(itn (adv t.mask) n p).j∉t.place.toList/\∀n',n'<n->∃i:Nat,t.place[i]?=some (itn (adv t.mask) n' p).j/\bU i≠h)\/
  (∃n i,t.probe bU h p=some (.candidate (itn (adv t.mask) n p).j i (itn (adv t.mask) (n+1) p))/\t.place[i]?=some (itn (adv t.mask) n p).j/\bU i=h/\∀n',n'<n->∃i':Nat,t.place[i']?=some (itn (adv t.mask) n' p).j/\bU i'≠h):=by
 obtain⟨k,hk,_,_⟩:=ok.two;obtain⟨j,hj,hn⟩:=DN (ps:=t.place.toList) (m:=t.mask) (by rw[bh];exact ok.fit);obtain⟨n,hl,e⟩:=aw1 hk p st.1 st.2.1 j hj;exact amd ok bU h _ p ⟨n,hl,by rw[e];exact hn⟩
def TOk.ahead{t:SetTable}{es:Array (Int×aA)}(ok:TOk t es){j:Nat}{e:Int×aA}(hs:Bc t.place.toList es.toList j e){n:Nat}(hf:qx t.mask e.1 n∉t.place.toList):∃m,m<n/\qx t.mask e.1 m=j:=by
 obtain⟨m,h1,h2⟩:=ok.onroad j e hs;refine⟨m,?_,h1⟩;apply dg;intro hm;by_cases q:n<m
 .exact hf<|h2 n q
 .have:m=n:=by lia
  subst this;rw[h1]at hf;obtain⟨i,hi,_⟩:=hs;exact hf<|ah hi
theorem TOk.put{t:SetTable}{es:Array (Int×aA)}(ok:TOk t es){h:Int}{x:aA}{n:Nat}(hf:qx t.mask h n∉t.place.toList)(hr:∀n',n'<n->qx t.mask h n'∈t.place.toList)(qM:t.place.size+1<=t.mask) :
  TOk (t.put<|qx t.mask h n).1 (insertAt es (t.put<|qx t.mask h n).2 (h,x))/\(t.put<|qx t.mask h n).1.mask=t.mask/\(t.put<|qx t.mask h n).2<=es.size/\(t.put<|qx t.mask h n).1.place.size=t.place.size+1:=by
 have uV:=ww ok.rise<|qx t.mask h n;have IB:has t.dummies (qx t.mask h n)=false:=by rw[ok.dm];unfold has;simp
 have Im:t.put (qx t.mask h n)=({t with place:=insertAt t.place (below t.place<|qx t.mask h n)<|qx t.mask h n,dummies:=#[]},below t.place<|qx t.mask h n):=by unfold SetTable.put;rw[IB,ok.dm];rfl
 rw[Im];have qK:(insertAt t.place (below t.place<|qx t.mask h n)<|qx t.mask h n).size=t.place.size+1:=by rw[<-bh,pc,a9,bc,cq,gl,bh];have:=uV.1;lia
 have hsz:=ok.sz;have cL:∀j,j∈(insertAt t.place (below t.place<|qx t.mask h n)<|qx t.mask h n).toList↔j=qx t.mask h n\/j∈t.place.toList:=λj=>by
  rw[pc];constructor
  .intro hj;rcases bo.mp hj with q|q
   .exact .inr<|fy q
   .rcases ap.mp q with q|q
    .exact .inl q
    .exact .inr<|List.mem_of_mem_drop q
  .rintro(rfl|hj)
   .exact ci _ aj
   .rw[<-List.take_append_drop (below t.place<|qx t.mask h n) t.place.toList]at hj;rcases bo.mp hj with q|q
    .exact ip _ q
    .exact ci _<|ak _ q
 refine⟨⟨ok.two,rfl,agb ok.rise hf,?_,?_,?_,?_⟩,rfl,?_,qK⟩
 .intro j hj;rcases(cL j).mp hj with rfl|q
  .exact asa _ _ _
  .exact ok.bd j q
 .show(insertAt t.place _ _).size=(insertAt es (below t.place<|qx t.mask h n) (h,x)).size;rw[qK,<-bh (xs:=insertAt es _ _),pc,a9,bc,cq,gl,bh];have:=uV.1;lia
 .show(insertAt t.place _ _).size<=t.mask;rw[qK];exact qM
 .intro j e hs;have jZ:Bc (t.place.toList.take (below t.place<|qx t.mask h n)++qx t.mask h n::t.place.toList.drop (below t.place<|qx t.mask h n)) (es.toList.take (below t.place<|qx t.mask h n)++(h,x)::es.toList.drop (below t.place<|qx t.mask h n)) j e:=by
   have qL:Bc (insertAt t.place (below t.place<|qx t.mask h n)<|qx t.mask h n).toList (insertAt es (below t.place<|qx t.mask h n) (h,x)).toList j e:=hs;rw[pc,pc]at qL;exact qL
  rcases(agi (by rw[bh,bh];exact hsz) _ _ (by rw[bh];exact uV.1) _).mp jZ with ⟨rfl,rfl⟩|q
  .exact⟨n,rfl,λn' eZ=>(cL _).mpr (.inr<|hr n' eZ)⟩
  .obtain⟨m,h1,h2⟩:=ok.onroad j e q;exact⟨m,h1,λn' eZ=>(cL _).mpr (.inr<|h2 n' eZ)⟩
 .show below t.place _<=es.size;have:=uV.1;lia
theorem TOk.fits{t:SetTable}{es:Array (Int×aA)}(ok:TOk t es):t.fits es.size=true:=by unfold SetTable.fits SetTable.fill;rw[ok.dm];simp[ok.sz];have:=ok.fit;have:=ok.sz;lia
def TOk.noway{t:SetTable}{es:Array (Int×aA)}(ok:TOk t es):t.gaveWay=false:=by
 obtain⟨k,hk,h3,_⟩:=ok.two;unfold SetTable.gaveWay;have:2^k % 2=0:=by rw[show k=(k-1)+1 by lia,jy];lia
 simp;lia
theorem TOk.fresh(finger moves:Nat)(led:Bool):TOk (.fresh finger moves led) #[]:=
 ⟨⟨3,rfl,by decide,by decide,rfl⟩,rfl,List.Pairwise.nil,(λj hj=>by cases hj),rfl,(by show 0<=7;decide),(λj e ⟨i,h,_⟩=>by simp[SetTable.fresh]at h)⟩
def awe{mask k:Nat}(hk:mask+1=2^k)(x:Nat×Nat)(hp:x.2<2^64)(j:Nat)(hj:j<=mask):∃m,m<turns mask/\(itn (lp mask) m x).1=j:=by
 have hz:(itn (lp mask) 13 x).2<32^(13-13):=Mn mask 13 x 13 (cm hp<|by decide);have qI:(itn (lp mask) 13 x).2=0:=by simpa using hz
 have hi:(itn (lp mask) 13 x).1<2^k:=by rw[L6];exact KY hk _
 have e0:∀m,itn (lp mask) (13+m) x=itn (lp mask) m (itn (lp mask) 13 x):=λm=>uy _ _ _ _;generalize itn (lp mask) 13 x=y at *;obtain⟨y1,y2⟩:=y;simp only at qI hi;subst qI;obtain⟨m,wM,e3⟩:=Lj k y1 j;refine⟨13+m,?_,?_⟩
 .unfold turns;lia
 .rw[e0,xu hk m y1 hi];show g5 m y1 % 2^k=j;rw[e3,g0<|by lia]
theorem aqe(mask:Nat):∀(q:Nat)(p:Probe),q<=p.more->(itn (adv mask) q p).j=p.j+q
 | 0,p,_=>rfl
 | q+1,p,h=>by
  show(itn (adv mask) q<|adv mask p).j=_;have e:adv mask p={p with j:=p.j+1,more:=p.more-1}:=by unfold adv;rw[if_pos (by lia)]
  rw[e,aqe mask q _<|by show q<=p.more-1;lia];show p.j+1+q=p.j+(q+1);lia
def DG(owner:Array (Option Nat))(j:Nat):Prop:=∃q,owner[j]?=some (some q)
theorem afu{mask k:Nat}(hk:mask+1=2^k){owner:Array (Option Nat)}(hs:owner.size=mask+1){f:Nat}(hf:owner[f]?=some none):∀(fuel:Nat)(x:Nat×Nat),x.1<=mask->x.2<2^64->(∃m,m<fuel/\(itn (lp mask) m x).1=f)->
  ∃j n,layClean.free mask owner fuel x.1 x.2=some j/\(itn (adv mask) n<|at0 mask x none).j=j/\owner[j]?=some none/\∀n',n'<n->DG owner (itn (adv mask) n'<|at0 mask x none).j
 | 0,x,_,_,⟨m,hm,_⟩=>by lia
 | fuel+1,x,h1,h2,⟨m,hm,em⟩=>by
  have Cq:(at0 mask x none).more=runEnd mask x.1-x.1:=rfl;have hend:runEnd mask x.1<=mask/\x.1<=runEnd mask x.1:=by unfold runEnd;split<;>lia
  have get:∀q,(hq:q<runEnd mask x.1+1-x.1)->owner.getD (x.1+q) (some 0)=owner[x.1+q]'(by lia):=λq hq=>by simp only[Array.getD];rw[dif_pos (show x.1+q<owner.size by lia)];rfl
  have pos:∀q,q<runEnd mask x.1+1-x.1->(itn (adv mask) q<|at0 mask x none).j=x.1+q:=λq hq=>aqe mask q _ (by rw[Cq];lia);have occ:∀q (hq:q<runEnd mask x.1+1-x.1),(owner.getD (x.1+q)<|some 0).isNone=false->DG owner (x.1+q):=λq hq hn=>by
   rw[get q hq]at hn;cases hv:owner[x.1+q]'(by lia)with
   | none=>rw[hv]at hn;cases hn
   | some v=>exact⟨v,by rw[b7 (by lia),hv]⟩
  unfold layClean.free;cases CW:(dt<|runEnd mask x.1+1-x.1).find? λk=>(owner.getD (x.1+k)<|some 0).isNone with
  | some q=>
   rw[List.find?_range_eq_some]at CW;obtain⟨a,b,c⟩:=CW;have hq:q<runEnd mask x.1+1-x.1:=iz.mp b;refine(lv (x.1+q) q ⟨rfl,pos q hq,?_,λn' eZ=>?_⟩)
   .rw[get q hq]at a;rw[b7 (by lia)];cases hv:owner[x.1+q]'(by lia)with
    | none=>rfl
    | some v=>rw[hv]at a;cases a
   .rw[pos n' (by lia)];exact occ n' (by lia) (by simpa using c n' eZ)
  | none=>
   rw[List.find?_range_eq_none]at CW;dsimp only;cases m with
   | zero=>
    have e0:x.1=f:=em;have:=CW 0 (by lia);rw[Nat.add_zero]at this;have g:=get 0 (by lia);simp only[Nat.add_zero]at g;rw[g]at this;subst e0;rw[b7 (by lia)]at hf;injection hf with hf
    rw[hf]at this;cases this
   | succ m=>
    have gQ:(lp mask x).1<=mask:=by have:=KY hk x;lia
    have fK:(lp mask x).2<2^64:=by show x.2/32<2^64;lia
    obtain⟨j,n,e1,e2,e3,e4⟩:=afu hk hs hf fuel (lp mask x) gQ fK ⟨m,by lia,em⟩;have tl:=F5 mask _ (at0 mask x none) rfl;refine(lv j ((at0 mask x none).more+1+n) ⟨e1,?_,e3,λn' eZ=>?_⟩)
    .rw[uy,tl];exact e2
    .by_cases hq:n'<(at0 mask x none).more+1
     .have jL:n'<runEnd mask x.1+1-x.1:=by rw[Cq]at hq;lia
      rw[pos n' jL];exact occ n' jL<|by simpa using CW n' jL
     .have:=e4 (n'-((at0 mask x none).more+1)) (by lia);rw[show n'=(at0 mask x none).more+1+(n'-((at0 mask x none).more+1)) by lia,uy,tl];exact this
structure Own(mask:Nat)(hs:Z9 Int)(owner:Array (Option Nat))(k:Nat):Prop where
 size:owner.size=mask+1
 o1:∀j q:Nat,owner[j]?=some (some q)->q<k/\∃h,hs[q]?=some h/\∃n,qx mask h n=j/\∀n',n'<n->DG owner (qx mask h n')
 o2:∀q:Nat,q<k->∃j:Nat,owner[j]?=some (some q)
 o3:∀j j' q:Nat,owner[j]?=some (some q)->owner[j']?=some (some q)->j=j'
theorem Own.free{mask:Nat}{hs:Z9 Int}{owner:Array (Option Nat)}{k:Nat}(o:Own mask hs owner k)(hk:k<=mask):∃f,f<=mask/\owner[f]?=some none:=by
 apply dg;intro hn;have aZ:∀j,j<=mask->∃q,owner[j]?=some (some q):=λj hj=>by
  have zI:j<owner.size:=by rw[o.size];lia
  cases hv:owner[j]with
  | none=>exact absurd ⟨j,hj,by rw[b7 zI,hv]⟩ hn
  | some q=>exact⟨q,by rw[b7 zI,hv]⟩
 have val:∀(j q:Nat),owner[j]?=some (some q)->((owner[j]?).getD none).getD 0=q:=λj q h=>by rw[h];rfl
 have nd:((dt<|mask+1).map λj=>((owner[j]?).getD none).getD 0).Nodup:=by show List.Pairwise _ _;rw[gb];refine ie ?_<|List.nodup_range (n:=mask+1);intro a b ha hb kS e;obtain⟨q,hq⟩:=aZ a (by have:=iz.mp ha;lia);obtain⟨q',jL⟩:=aZ b (by have:=iz.mp hb;lia);rw[val a q hq,val b q' jL]at e;subst e;exact kS<|o.o3 a b q hq jL
 have:=gc (l₂:=dt k) nd λv hv=>by obtain⟨j,hj,rfl⟩:=a7.mp hv;obtain⟨q,hq⟩:=aZ j (by have:=iz.mp hj;lia);rw[val j q hq];exact iz.mpr (o.o1 j q hq).1
 rw[af,jr,jr]at this;lia
noncomputable def LL(mask:Nat)(dS:Option (Array (Option Nat)×Nat))(h:Int):Option (Array (Option Nat)×Nat):=do
 let (owner,k) <-dS
 let j <-layClean.free mask owner (turns mask) (bits h % (mask+1)) (bits h)
 bJ (owner.setIfInBounds j<|some k,k+1)
def agk(mask:Nat)(hs:Array Int):layClean mask hs=(hs.toList.foldl (LL mask)<|some (Array.replicate (mask+1) none,0)).map (·.1):=by unfold layClean;rw[<-Array.foldl_toList];rfl
def zl{owner:Array (Option Nat)}{j:Nat}{v:Option Nat}(hj:j<owner.size)(i:Nat):(owner.setIfInBounds j v)[i]?=if i=j then some v else owner[i]?:=by
 rw[Array.getElem?_setIfInBounds];by_cases e:j=i
 .subst e;rw[if_pos rfl,if_pos hj,if_pos rfl]
 .rw[if_neg e,if_neg<|Ne.symm e]
theorem ag4{mask k0:Nat}(CM:mask+1=2^k0)(hs:Z9 Int)(zF:hs.length<=mask):∀(bK:Z9 Int)(k:Nat) (owner:Array (Option Nat)),hs.drop k=bK->k<=hs.length->Own mask hs owner k->
  ∃pY,bK.foldl (LL mask) (some (owner,k))=some (pY,hs.length)/\Own mask hs pY hs.length
 | [],k,owner,hd,hk,o=>by
  have:hs.length<=k:=by have:=congrArg List.length hd;rw[gl]at this;simp at this;lia
  have e:k=hs.length:=by lia
  subst e;exact⟨owner,rfl,o⟩
 | h::bK,k,owner,hd,hk,o=>by
  have qV:k<hs.length:=by have:=congrArg List.length hd;rw[gl]at this;simp at this;lia
  have zS:hs[k]?=some h:=by
   have:(hs.drop k)[0]?=some h:=by rw[hd];rfl
   rw[jn]at this;simpa using this
  obtain⟨f,zL,hf⟩:=o.free (by lia);obtain⟨m,hm,em⟩:=awe CM (bits h % (mask+1),bits h) (Lr h) f zL;have hb:bits h % (mask+1)<=mask:=by have:=Nat.mod_lt (bits h) (show 0<mask+1 by lia);lia
  obtain⟨j,n,e1,e2,e3,e4⟩:=afu CM o.size hf (turns mask) (bits h % (mask+1),bits h) hb (Lr h) ⟨m,hm,em⟩;have ej:qx mask h n=j:=e2;have AW:j<owner.size:=by have:=(cz.mp e3).1;exact this
  have Cj:LL mask (some (owner,k)) h=some (owner.setIfInBounds j<|some k,k+1):=by show(layClean.free mask owner (turns mask) (bits h % (mask+1))<|bits h).bind _=_;rw[e1];rfl
  have tk:∀i,DG owner i->DG (owner.setIfInBounds j<|some k) i:=λi ⟨q,hq⟩=>by
   by_cases e:i=j
   .exact⟨k,by rw[zl AW,if_pos e]⟩
   .exact⟨q,by rw[zl AW,if_neg e];exact hq⟩
  have o':Own mask hs (owner.setIfInBounds j<|some k) (k+1):=by
   refine⟨by rw[Array.size_setIfInBounds];exact o.size,λi q hq=>?_,λq hq=>?_,λi i' q hq jL=>?_⟩
   .rw[zl AW]at hq;by_cases e:i=j
    .rw[if_pos e]at hq;cases hq;exact⟨by lia,(mm h zS n ⟨by rw[ej,e],λn' eZ=>tk _<|e4 n' eZ⟩)⟩
    .rw[if_neg e]at hq;obtain⟨a,h',b,n',c,d⟩:=o.o1 i q hq;exact⟨by lia,(mm h' b n' ⟨c,λn'' IH=>tk _<|d n'' IH⟩)⟩
   .by_cases e:q=k
    .exact⟨j,by rw[zl AW,if_pos rfl,e]⟩
    .obtain⟨i,hi⟩:=o.o2 q (by lia);have:i≠j:=λe'=>by rw[e',e3]at hi;cases hi
     exact⟨i,by rw[zl AW,if_neg this];exact hi⟩
   .rw[zl AW]at hq jL;by_cases e:i=j<;>by_cases e':i'=j
    .rw[e,e']
    .rw[if_pos e]at hq;rw[if_neg e']at jL;cases hq;have:=(o.o1 i' k jL).1;lia
    .rw[if_neg e]at hq;rw[if_pos e']at jL;cases jL;have:=(o.o1 i k hq).1;lia
    .rw[if_neg e]at hq;rw[if_neg e']at jL;exact o.o3 i i' q hq jL
  rw[List.foldl_cons,Cj];refine ag4 CM hs zF bK (k+1) _ ?_ (by lia) o';rw[<-List.drop_drop,hd];rfl
def adf{mask k0:Nat}(CM:mask+1=2^k0)(hs:Array Int)(zF:hs.size<=mask):∃owner,layClean mask hs=some owner/\Own mask hs.toList owner hs.size:=by
 rw[agk];obtain⟨o,e,ok⟩:=ag4 CM hs.toList (by rw[bh];exact zF) hs.toList 0 (Array.replicate (mask+1) none) rfl (dv _) (by
  refine⟨by simp,λj q hq=>?_,λq hq=>by lia,λj j' q hq jL=>?_⟩
  .rw[Array.getElem?_replicate]at hq;split at hq<;>cases hq
  .rw[Array.getElem?_replicate]at hq;split at hq<;>cases hq)
 rw[e];exact⟨o,rfl,by rw[bh]at ok;exact ok⟩
theorem wk:∀(fuel k n:Nat),∃k',sizeAbove.go n fuel (2^k)=2^k'/\k<=k'/\k'<=k+fuel/\(n<2^(k+fuel)->n<2^k')/\(k'=k\/2^k'<=2*n)
 | 0,k,n=>⟨k,rfl,av _,av _,id,.inl rfl⟩
 | fuel+1,k,n=>by
  unfold sizeAbove.go;by_cases h:2^k<=n
  .rw[if_pos h,show 2^k*2=2^(k+1)from (jy ..).symm];obtain⟨k',a,b,c,d,e⟩:=wk fuel (k+1) n;refine⟨k',a,by lia,by lia,λq=>d<|by rw[show k+1+fuel=k+(fuel+1) by lia];exact q,?_⟩;rcases e with e|e
   .rw[e,jy];lia
   .exact .inr e
  .rw[if_neg h];exact⟨k,rfl,av _,by lia,λ_=>by lia,.inl rfl⟩
def uz(n:Nat)(hn:n<2^13):∃k,sizeAbove n=2^k/\3<=k/\k<=13/\n<2^k:=by
 obtain⟨k,a,b,c,d,e⟩:=wk 64 3 n;refine⟨k,a,b,?_,d<|Nat.lt_trans hn<|Nat.pow_lt_pow_right (by decide)<|by decide⟩;rcases e with e|e
 .lia
 .apply dg;intro h;have:2^14<=2^k:=gq (by decide) (by lia);have JU:2^14=2*2^13:=by decide
  lia
def ac7(n:Nat)(h8:8<=n)(hn:n<2^13){k:Nat}(e:sizeAbove n=2^k):k<=13/\n<2^k/\2^k<=2*n:=by
 obtain⟨k',a,b,c,d,e'⟩:=wk 64 3 n;obtain⟨k2,a2,_,b2,c2⟩:=uz n hn;have e1:k=k2:=(Nat.pow_right_inj<|by decide).mp (e.symm.trans a2);have e2:k2=k':=(Nat.pow_right_inj<|by decide).mp (a2.symm.trans a);subst e1;refine⟨b2,c2,?_⟩;rcases e' with e'|e'
 .rw[e2,e'];lia
 .rw[e2];exact e'
def ap0{m n k k':Nat}(hk:m+1=2^k)(k3:3<=k)(uK:k<=13)(ko:k % 2=1)(h1:m*3<=n*5)(h2:(n-1)*5<m*3)(h4:n<=4000)(h13:k'<=13)(l1:n*4<2^k')(l2:2^k'<=2*(n*4)):k' % 2=1:=by
 have p3:2^3<=2^k:=gq (by decide) k3;have a:¬k'<=k+1:=λh=>by have h:=gq (show 0<2 by decide) h;rw[jy]at h;lia
 have b:¬k+3<=k':=λh=>by have h:=gq (show 0<2 by decide) h;rw[Nat.pow_add]at h;lia
 lia
def ais{m n k:Nat}(hk:m+1=2^k)(k3:3<=k)(uK:k<=13)(ko:k % 2=1)(h1:m*3<=n*5)(h2:(n-1)*5<m*3)(h4:n<=4000):n*4<2^13/\2<=n:=by
 have p3:2^3<=2^k:=gq (by decide) k3;have a:k≠13:=λh=>by subst h;lia
 have h:=gq (show 0<2 by decide) (show k<=11 by lia);lia
theorem za{α β:Type}{f:α->Option β}{g:α->β}:∀(l:List α),(∀x∈l,f x=some (g x))->l.filterMap f=l.map g
 | [],_=>rfl
 | a::l,h=>by rw[jz,h a aj,cy,za l λx hx=>h x<|ak _ hx]
theorem agl{t:SetTable}{es:Array (Int×aA)}{bT:Nat}(hw:es.size*4<=bT)(EZ:bT<2^13)(kO:∀k,sizeAbove bT=2^k->k % 2=1)(dN:0<es.size) :
  ∃t' fF,t.relaid (es.map (·.1)) bT=some (t',fF)/\TOk t' (fF.filterMap (es[·]?))/\(fF.filterMap (es[·]?)).toList.Perm es.toList/\t'.place.size*5<t'.mask*3/\t'.led=t.led:=by
 obtain⟨k,ek,k3,uK,hn⟩:=uz bT EZ;have ko:=kO k ek;have qS:sizeAbove bT-1+1=2^k:=by rw[ek];have:=Nat.two_pow_pos k;lia
 have zF:(es.map (·.1)).size<=sizeAbove bT-1:=by rw[Array.size_map,ek];lia
 obtain⟨owner,eo,ok⟩:=adf qS (es.map (·.1)) zF;rw[Array.size_map]at ok;generalize hm:sizeAbove bT-1=mask at *
 let live:=(dt<|mask+1).filterMap λj=>(owner.getD j none).map λq=>(j,q)
 have fX:∀j q,(j,q)∈live↔owner[j]?=some (some q):=λj q=>by
  show(j,q)∈(dt<|mask+1).filterMap _↔_;rw[List.mem_filterMap];constructor
  .rintro⟨a,ha,e⟩;have hs:a<owner.size:=by rw[ok.size];exact iz.mp ha
   simp only[Array.getD,dif_pos hs]at e;cases hv:owner[a]with
   | none=>
    have e':(owner[a]).map (λq=>(a,q))=some (j,q):=e;rw[hv]at e';cases e'
   | some v=>
    have e':(owner[a]).map (λq=>(a,q))=some (j,q):=e;rw[hv]at e';cases e';rw[b7 hs,hv]
  .intro h;obtain⟨hs,hv⟩:=cz.mp h;refine⟨j,iz.mpr<|by rw[<-ok.size];exact hs,?_⟩;simp only[Array.getD,dif_pos hs];show(owner[j]).map (λq=>(j,q))=some (j,q);rw[hv];rfl
 have qN:(live.map (·.1)).Pairwise (· < ·):=by rw[gb];show((dt<|mask+1).filterMap _).Pairwise _;rw[List.pairwise_filterMap];refine List.Pairwise.imp ?_<|List.pairwise_lt_range (n:=mask+1);intro a b kS x hx y hy;obtain⟨q,_,rfl⟩:=bn.mp hx;obtain⟨q',_,rfl⟩:=bn.mp hy;exact kS
 have kB:(live.map (·.2)).Nodup:=by
  show List.Pairwise _ _;rw[gb];have h1:live.Pairwise λa b=>a.1<b.1:=by rw[gb]at qN;exact qN
  refine ie ?_ h1;intro a b ha hb kS e;have:=ok.o3 a.1 b.1 a.2 ((fX _ _).mp ha) (by rw[e];exact(fX _ _).mp hb);lia
 have hX:(live.map (·.2)).Perm (dt es.size):=by
  rw[List.perm_ext_iff_of_nodup kB List.nodup_range];intro q;rw[a7,iz];constructor
  .rintro⟨⟨j,q'⟩,h,rfl⟩;exact(ok.o1 j q'<|(fX _ _).mp h).1
  .intro h;obtain⟨j,hj⟩:=ok.o2 q h;exact⟨(j,q),(fX _ _).mpr hj,rfl⟩
 have aU:live.length=es.size:=by have:=hX.length_eq;rw[af,jr]at this;exact this
 have zL:((live.map (·.2)).toArray.filterMap (es[·]?)).toList=live.map λx=>es[x.2]?.getD (0,.none):=by
  rw[Array.toList_filterMap];show List.filterMap _ (live.map (·.2))=_;rw[List.filterMap_map];have:∀x∈live,es[x.2]?=some (es[x.2]?.getD (0,.none)):=λx hx=>by have bX:=(ok.o1 x.1 x.2<|(fX x.1 x.2).mp hx).1;rw[b7 bX];rfl
  exact za live this
 have Jf:(live.map λx=>es[x.2]?.getD (0,.none)).Perm es.toList:=by
  have h1:=hX.map λq=>es[q]?.getD (0,.none);rw[gd]at h1;have h2:(dt es.size).map (λq=>es[q]?.getD (0,.none))=es.toList:=by
   apply List.ext_getElem
   .simp
   .intro i a b;simp;rw[b7 (by simpa using b)];rfl
  rw[h2]at h1;exact h1
 refine(lv ⟨mask,(live.map (·.1)).toArray,#[],t.finger,t.led,t.movedTo mask,t.plain⟩ ((live.map (·.2)).toArray) ⟨?_,?_,?_,?_,rfl⟩)
 .unfold SetTable.relaid SetTable.laid;rw[hm,eo];rfl
 .refine⟨⟨k,qS,k3,uK,ko⟩,rfl,by simpa using qN,?_,?_,?_,?_⟩
  .intro j hj;have zI:j∈live.map (·.1):=by simpa using hj
   obtain⟨⟨j',q⟩,h,rfl⟩:=a7.mp zI;have:=(cz.mp<|(fX _ _).mp h).1;rw[ok.size]at this;show j'<=mask;lia
  .rw[<-bh (xs:=Array.filterMap _ _),zL];simp
  .show(live.map (·.1)).toArray.size<=mask;simp;rw[Array.size_map]at zF;lia
  .intro j e hs;rw[zL]at hs;obtain⟨i,h1,h2⟩:=hs;have jB:(live.map (·.1))[i]?=some j:=by simpa using h1
   rw[au]at jB h2;cases hl:live[i]? with
   | none=>rw[hl]at jB;cases jB
   | some x=>
    rw[hl]at jB h2;obtain⟨j',q⟩:=x;cases jB;obtain⟨hq,h,a,n,b,c⟩:=ok.o1 j' q<|(fX _ _).mp (ah hl);have e2:es[q]?.getD (0,.none)=e:=by cases h2;rfl
    have e3:e.1=h:=by
     rw[<-e2,b7 hq];have a':(es.map (·.1))[q]?=some h:=by rw[<-b8];exact a
     rw[Array.getElem?_map,b7 hq]at a';simpa using a'
    rw[e3];refine⟨n,b,λn' eZ=>?_⟩;obtain⟨q',jL⟩:=c n' eZ;have:qx mask h n'∈live.map (·.1):=a7.mpr ⟨(qx mask h n',q'),(fX _ _).mpr jL,rfl⟩;simpa using this
 .rw[zL];exact Jf
 .show(live.map (·.1)).toArray.size*5<mask*3;simp;rw[aU];lia
end L3
namespace L3
open PySem
variable{Pv:aA->Z8->Prop}
mutual
noncomputable def kd:Z8->Bool
 | .int _=>true
 | .str _=>true
 | .tuple ds=>xn ds
 | .none=>false
 | .bool _=>false
 | .list _=>false
 | .dict _=>false
noncomputable def xn:Z9 Z8->Bool
 | []=>true
 | d::ds=>kd d&&xn ds
end
mutual
noncomputable def sM(w:aJ):Z8->Int
 | .int i=>hashInt i
 | .str x=>dL w x
 | .tuple ds=>AN (jq<|v0 w ds)
 | .none=>0
 | .bool _=>0
 | .list _=>0
 | .dict _=>0
noncomputable def v0(w:aJ):Z9 Z8->Z9 Int
 | []=>[]
 | d::ds=>sM w d::v0 w ds
end
def FJ(d:Z8):Prop:=∀(prog:aI)(w:aJ)(A:Around)(E:aA->aB->Prop)(s:aB)(v:aA)(as:Z9 aF)(Q:Int->aB->Prop),Reads s.heap v d as->A.units+d.depth<bM->(∀tk,s.toks<=tk->Q (sM w d) {s with toks:=tk})->wpAny (aG prog w) A (pyHash v) Q E s
theorem ajs{ds:Z9 Z8}(H:∀d∈ds,FJ d):FJ (.tuple ds):=λprog w A E s v as Q r hu h=>by
 cases r with
 | @tuple a o vs n _ _ ho hc hd hi=>
 have hT:s.TypeIs (.ref a) "tuple":=⟨o,ho,hc⟩;have hu':A.units+(bg ds+1)<bM:=hu;unfold pyHash;first|unfold pyHashByItsType|skip
 first|refine ac (wpAny_cRoomFor_or (.inr (show A.units<bM by lia)) ?_)|skip
 refine ac<|cE (name:="__hash__") hT F.slot_tuple_hash.lookup ?_;show wpAny _ _ (if (some (aA.builtin "tuple.__hash__")==some aA.none)=true then _ else _) _ _ _;rw[if_neg (show ¬_ by rw[beq_builtin_none];exact am)];refine ac<|cE (name:="__hash__") hT F.slot_tuple_hash.lookup ?_;show wpAny _ _ (callSpecialIfBoundUnlessNone? (.ref a) "__hash__" _ >>= _) _ _ _;refine ac<|wpAny_callSpecialIfBoundUnlessNone?_slot (name:="__hash__") hT F.slot_tuple_hash<|gz (name:="__hash__") F.slot_tuple_hash hT F.entry_tuple_hash ?_<|F.args_tuple_hash_1 _;show wpAny _ _ (Builtin.Tuple.tupleItemsOf (.ref a) >>= _) _ _ _;refine ac<|wpAny_tupleItemsOf (n:=n) ho hd ?_;refine ac ?_;rw[<-Array.forIn_toList];refine cX _
  (λbK (b:Array Int) s'=>∃done left bs tk,ds=done++left/\ReadsAll s.heap bK left bs/\b.toList=v0 w done/\s'={s with toks:=tk}/\s.toks<=tk)
  _ (λx bK b s' hI=>?_) (λb s' hI=>?_) _ _ (lr ([]) ds as s.toks ⟨rfl,hi,rfl,rfl,av _⟩)
 .obtain⟨done,left,bs,tk,e,hl,hb,rfl,hk⟩:=hI;cases hl with
  | @cons _ _ d aV _ _ h1 tE=>
   have cL:d∈ds:=by rw[e];simp
   have Jl:∀(l:Z9 Z8),d∈l->d.depth<=bg l:=λl=>by
    induction l with
    | nil=>intro q;cases q
    | cons y l ih=>
     intro q;show _<=wA y.depth (bg l);rcases ap.mp q with rfl|q
     .exact Nat.le_max_left _ _
     .exact fj (ih q)<|Nat.le_max_right _ _
   have oY:=Jl ds cL;refine ac<|H d cL prog w _ E {s with toks:=tk} x _ _ h1 (by show A.units+1+d.depth<bM;lia) λvO hk'=>?_;have hap:∀(l:Z9 Z8),v0 w (l++[d])=v0 w l++[sM w d]:=λl=>by
    induction l with
    | nil=>rfl
    | cons y l ih=>show sM w y::v0 w (l++[d])=_;rw[ih];rfl
   first
    | exact ao (lr (done++[d]) aV _ vO ⟨by simp[e],tE,by simp[hb,hap],rfl,fj hk hk'⟩)
    | exact ac<|ao<|ao ⟨done++[d],aV,_,vO,by simp[e],tE,by simp[hb,hap],rfl,fj hk hk'⟩
 .obtain⟨done,left,bs,tk,e,hl,hb,rfl,hk⟩:=hI;cases hl;rw[f9]at e;subst e;show wpAny _ _ (retInt<|jq b.toList) _ _ _;rw[hb];refine wpAny_ret_mkInt ?_;show wpAny _ _ (if (decide (-(2:Int)^63<=jq (v0 w ds))&&decide (jq (v0 w ds)<2^63))=true then _ else _) _ _ _;have h':∀tk,s.toks<=tk->Q (AN<|jq<|v0 w ds) {s with toks:=tk}:=h;unfold AN at h';split
  .rename_i hr
   rw[if_pos hr]at h';exact ao<|h' _<|by simp only;lia
  .rename_i hr
   rw[if_neg hr]at h';exact ac<|iD<|ao<|h' _<|by simp only;lia
mutual
theorem aco:∀(d:Z8),kd d=true->FJ d
 | .int i,_=>λprog w A E s v as Q r hu h=>by
  cases r with
  | int=>exact Eg (h _<|by lia)
 | .str x,_=>λprog w A E s v as Q r hu h=>by
  cases r with
  | str=>exact Ef (h _<|by lia)
 | .tuple ds,hk=>ajs (yj ds hk)
 | .none,hk=>absurd hk am
 | .bool _,hk=>absurd hk am
 | .list _,hk=>absurd hk am
 | .dict _,hk=>absurd hk am
theorem yj:∀(ds:Z9 Z8),xn ds=true->∀d∈ds,FJ d
 | [],_,d,hd=>by cases hd
 | e::ds,hk,d,hd=>by
  have hk':(kd e&&xn ds)=true:=hk;rw[da]at hk';rcases ap.mp hd with h|hd
  .rw[h];exact aco e hk'.1
  .exact yj ds hk'.2 d hd
end
mutual
theorem K6:∀(d e:Z8),kd d=true->kd e=true->c8 d e=true->d=e
 | .int i,e,_,he,h=>by cases e<;>simp[c8,kd]at h he⊢;exact h
 | .str x,e,_,he,h=>by cases e<;>simp[c8,kd]at h he⊢;exact h
 | .tuple ds,e,hd,he,h=>by
  cases e with
  | tuple es=>
   have:=Me ds es hd he (by simpa [c8]using h);rw[this]
  | _=>simp[c8,kd]at h he
 | .none,_,hd,_,_=>absurd hd am
 | .bool _,_,hd,_,_=>absurd hd am
 | .list _,_,hd,_,_=>absurd hd am
 | .dict _,_,hd,_,_=>absurd hd am
theorem Me:∀(ds es:Z9 Z8),xn ds=true->xn es=true->ik ds es=true->ds=es
 | [],[],_,_,_=>rfl
 | [],_::_,_,_,h=>by simp[ik]at h
 | _::_,[],_,_,h=>by simp[ik]at h
 | d::ds,e::es,hd,he,h=>by
  have mB:(kd d&&xn ds)=true:=hd;have zN:(kd e&&xn es)=true:=he;rw[da]at mB zN;have h':c8 d e=true/\ik ds es=true:=by simpa [ik]using h
  rw[K6 d e mB.1 zN.1 h'.1,Me ds es mB.2 zN.2 h'.2]
end
theorem sv{h:Heap}:∀{vs:Z9 aA} {ds:Z9 Z8} {as:Z9 aF},ReadsAll h vs ds as->∀v∈vs,∃d bs,d∈ds/\Reads h v d bs
 | _,_,_,.nil,v,hv=>by cases hv
 | _,_,_,.cons h1 h2,v,hv=>by
  rcases ap.mp hv with e|hv
  .rw[e];exact(lv _ _ ⟨aj,h1⟩)
  .obtain⟨d,bs,q1,q2⟩:=sv h2 v hv;exact(lv d bs ⟨ak _ q1,q2⟩)
theorem FS:∀{ds:Z9 Z8},xn ds=true->∀d∈ds,kd d=true
 | [],_,d,hd=>by cases hd
 | e::ds,hk,d,hd=>by
  have hk':(kd e&&xn ds)=true:=hk;rw[da]at hk';rcases ap.mp hd with h|hd
  .rw[h];exact hk'.1
  .exact FS hk'.2 d hd
theorem LM:∀{ds:Z9 Z8},∀d∈ds,d.depth<=bg ds
 | [],d,hd=>by cases hd
 | e::ds,d,hd=>by
  show _<=wA e.depth (bg ds);rcases ap.mp hd with h|hd
  .rw[h];exact Nat.le_max_left _ _
  .exact fj (LM d hd)<|Nat.le_max_right _ _
section
variable{prog:aI}{w:aJ}{A:Around}{E:aA->aB->Prop}{s:aB}
theorem abt(n:Nat):∀{v:aA} {d:Z8} {as:Z9 aF} {Q:Bool->aB->Prop},kd d=true->Reads s.heap v d as->d.depth<n->Q true s->wpAny (aG prog w) A (eqIsQuiet n v) Q E s:=by
 induction n with
 | zero=>intro v d as Q hk r hn q;exact absurd hn (Nat.not_lt_zero _)
 | succ n ih=>
  intro v d as Q hk r hn q;cases d with
  | int i=>cases r with|int=>rw[Dp _ rfl];exact ao q
  | str x=>cases r with|str=>rw[Dp _ rfl];exact ao q
  | tuple ds=>
    cases r with
    | @tuple a o vs m _ _ ho hc hd hi=>
    have hT:s.TypeIs (.ref a) "tuple":=⟨o,ho,hc⟩;have eZ:bg ds+1<n+1:=hn;unfold eqIsQuiet;refine ac<|cE (name:="__eq__") hT F.slot_tuple_eq.lookup ?_;show wpAny _ _ (nA (.ref a) (.type "tuple") >>= _) _ _ _;refine ac<|cW (T:="tuple") hT isSubtype_tuple_tuple ?_;simp only[ij,bj,if_false];refine ac<|jp (n:=m) ho hd ?_;refine ac ?_;show wpAny _ _ (forIn vs _ _) _ _ _;rw[<-Array.forIn_toList];refine cX _ (λbK r s'=>r.1=none/\s'=s/\∀v∈bK,v∈vs.toList) _ (λv bK r s' hI=>?_) (λr s' hI=>?_) _ _ ⟨rfl,rfl,λv hv=>hv⟩
    .obtain⟨hr,es,aZ⟩:=hI;rw[es];obtain⟨d,bs,oY,zO⟩:=sv hi v<|aZ v aj;refine ac<|ih (FS hk d oY) zO (by have:=LM d oY;lia) ?_;simp only[ij,bj,if_false];exact ao ⟨rfl,rfl,λu hu=>aZ u<|ak _ hu⟩
    .obtain⟨r1,r2⟩:=r;obtain⟨hr,rfl,_⟩:=hI;simp only at hr;subst hr;exact ao q
  | none=>exact absurd hk am
  | bool _=>exact absurd hk am
  | list _=>exact absurd hk am
  | dict _=>exact absurd hk am
theorem aa8(n:Nat):∀{v:aA} {d:Z8} {as:Z9 aF} {Q:Bool->aB->Prop},kd d=true->Reads s.heap v d as->d.depth<n->Q false s->wpAny (aG prog w) A (dW n v) Q E s:=by
 induction n with
 | zero=>intro v d as Q hk r hn q;exact absurd hn (Nat.not_lt_zero _)
 | succ n ih=>
  intro v d as Q hk r hn q;cases d with
  | int i=>cases r with|int=>unfold dW;exact ao q
  | str x=>cases r with|str=>unfold dW;exact ao q
  | tuple ds=>
    cases r with
    | @tuple a o vs m _ _ ho hc hd hi=>
    have hT:s.TypeIs (.ref a) "tuple":=⟨o,ho,hc⟩;have eZ:bg ds+1<n+1:=hn;unfold dW;refine ac<|sO (T:="tuple") hT ?_;dsimp only;rw[if_pos (by decide)];refine ac<|ao ?_;simp only[ij,bj,if_false];refine ac<|jp (n:=m) ho hd ?_;dsimp only;refine ac ?_;rw[<-Array.forIn_toList];refine cX _ (λbK r s'=>r.1=none/\s'=s/\∀v∈bK,v∈vs.toList) _ (λv bK r s' hI=>?_) (λr s' hI=>?_) _ _ ⟨rfl,rfl,λv hv=>hv⟩
    .obtain⟨hr,es,aZ⟩:=hI;rw[es];obtain⟨d,bs,oY,zO⟩:=sv hi v<|aZ v aj;refine ac<|ih (FS hk d oY) zO (by have:=LM d oY;lia) ?_;simp only[bj,if_false];exact ao ⟨rfl,rfl,λu hu=>aZ u<|ak _ hu⟩
    .obtain⟨r1,r2⟩:=r;obtain⟨hr,rfl,_⟩:=hI;simp only at hr;subst hr;exact ao q
  | none=>exact absurd hk am
  | bool _=>exact absurd hk am
  | list _=>exact absurd hk am
  | dict _=>exact absurd hk am
theorem aas:∀(n:Nat) {v:aA} {d:Z8} {as:Z9 aF} {Q:Bool->aB->Prop},kd d=true->Reads s.heap v d as->(∀b,Q b s)->wpAny (aG prog w) A (gB n v) Q E s
 | n,v,.int i,as,Q,hk,r,q=>by cases r with|int=>unfold gB;exact ao (q _)
 | n,v,.str x,as,Q,hk,r,q=>by cases r with|str=>unfold gB;exact ao (q _)
 | 0,v,.tuple ds,as,Q,hk,r,q=>by cases r with|tuple=>unfold gB;exact ao (q _)
 | n+1,v,.tuple ds,as,Q,hk,r,q=>by
  cases r with
  | @tuple a o vs m _ _ ho hc hd hi=>
  have hT:s.TypeIs (.ref a) "tuple":=⟨o,ho,hc⟩;unfold gB;refine ac<|cE (name:="__hash__") hT F.slot_tuple_hash.lookup ?_;dsimp only;refine ac<|jp (n:=m) ho hd ?_;refine ac ?_;show wpAny _ _ (forIn vs _ _) _ _ _;rw[<-Array.forIn_toList];refine cX _ (λbK r s'=>r.1=none/\s'=s/\∀v∈bK,v∈vs.toList) _ (λv bK r s' hI=>?_) (λr s' hI=>?_) _ _ ⟨rfl,rfl,λv hv=>hv⟩
  .obtain⟨hr,es,aZ⟩:=hI;rw[es];obtain⟨d,bs,oY,zO⟩:=sv hi v<|aZ v aj;refine ac<|aas n (FS hk d oY) zO λb=>?_;cases b with
   | true=>
    simp only[ij,bj,if_false];exact ao ⟨rfl,rfl,λu hu=>aZ u<|ak _ hu⟩
   | false=>
    simp only[Bool.not_false,if_true];exact ao<|ao<|q _
  .obtain⟨r1,r2⟩:=r;obtain⟨hr,rfl,_⟩:=hI;simp only at hr;subst hr;exact ao (q _)
 | _,_,.none,_,_,hk,_,_=>absurd hk am
 | _,_,.bool _,_,_,hk,_,_=>absurd hk am
 | _,_,.list _,_,_,hk,_,_=>absurd hk am
 | _,_,.dict _,_,_,hk,_,_=>absurd hk am
structure El(Pv:aA->Z8->Prop)(w:aJ)(h:Heap)(e:Int×aA)(d:Z8):Prop where
 own:Pv e.2 d
 hash:e.1=sM w d
 key:kd d=true
 tup:∃ds,d=.tuple ds
 lay:d.canLay0=true
 deep:d.depth<8
 reads:∃as,Reads h e.2 d as
theorem El.ref{w:aJ}{h:Heap}{e:Int×aA}{d:Z8}(x:El Pv w h e d):∃a,e.2=.ref a:=by
 obtain⟨ds,rfl⟩:=x.tup;obtain⟨as,r⟩:=x.reads;generalize e.2=v at r;cases r with
 | tuple=>exact⟨_,rfl⟩
def El.eq{h:Heap}{A:Around}{e e':Int×aA}{d d':Z8}(hs:s.heap=h)(x:El Pv w h e d)(y:El Pv w h e' d')(hu:A.units+8<bM){Q:Bool->aB->Prop}(q:∀b:Bool,(b=true↔d=d')->Q b s):wpAny (aG prog w) A (eqBool e.2 e'.2) Q E s:=by subst hs;obtain⟨as,r⟩:=x.reads;obtain⟨bs,r'⟩:=y.reads;refine SeqAt.eqBoolOverData prog w A E s _ _ d d' as bs Q r r' x.lay y.lay (by have:=x.deep;have:=Nat.min_le_left d.depth d'.depth;lia) ?_;refine q _ ⟨λz=>K6 d d' x.key y.key z,λz=>?_⟩;rw[<-z];exact SeqAt.eqv_refl _ x.lay
theorem ase{x:Int×aA}{d:Z8}(hx:El Pv w s.heap x d):∀(ys:Z9 aA) {Q:Bool->aB->Prop},(∀y∈ys,∃h e,El Pv w s.heap (h,y) e)->Q false s->wpAny (aG prog w) A (BG x.2 ys) Q E s:=by
 intro ys Q hy q;unfold BG;refine ac ?_;refine cX _ (λbK r s'=>r.1=none/\s'=s/\∀v∈bK,v∈ys) _ (λv bK r s' hI=>?_) (λr s' hI=>?_) _ _ ⟨rfl,rfl,λv hv=>hv⟩
 .obtain⟨hr,rfl,aZ⟩:=hI;obtain⟨h,e,hE⟩:=hy v<|aZ v aj;obtain⟨a,ea⟩:=hx.ref;obtain⟨b,eb⟩:=hE.ref;obtain⟨as,r1⟩:=hx.reads;obtain⟨bs,r2⟩:=hE.reads;have nxt:∀u∈bK,u∈ys:=λu hu=>aZ u<|ak _ hu;simp only at eb r2;have stay:wpAny (aG prog w) A (bJ (ForInStep.yield ((none:Option Bool),())):Sem (ForInStep<|Option Bool×Unit)) (λr BL=>match r with
   | ForInStep.yield b'=>b'.fst=none/\BL=s'/\∀(v:aA),v∈bK->v∈ys
   | ForInStep.done b'=>wpAny (aG prog w) A (match b'.fst with|some r=>bJ r|none=>bJ false) Q E BL) E s':=ao ⟨rfl,rfl,nxt⟩
  subst eb;rw[ea]at r1⊢;dsimp only;split
  .exact stay
  .refine ac<|abt 8 hx.key r1 hx.deep ?_;simp only[ij,bj,if_false];refine ac<|abt 8 hE.key r2 hE.deep ?_;simp only[ij,bj,if_false];refine ac<|aa8 8 hx.key r1 hx.deep ?_;simp only[bj,if_false];refine ac<|aa8 8 hE.key r2 hE.deep ?_;simp only[bj,if_false];exact stay
 .obtain⟨r1,r2⟩:=r;obtain⟨hr,rfl,_⟩:=hI;simp only at hr;subst hr;exact ao q
def Els(Pv:aA->Z8->Prop)(w:aJ)(h:Heap)(es:Z9 (Int×aA))(ds:Z9 Z8):Prop:=es.length=ds.length/\∀(i:Nat) e d,es[i]?=some e->ds[i]?=some d->El Pv w h e d
def Els.at{h:Heap}{es:Z9 (Int×aA)}{ds:Z9 Z8}(x:Els Pv w h es ds){i:Nat}{e:Int×aA}(he:es[i]?=some e):∃d,ds[i]?=some d/\El Pv w h e d:=by have hl:=(ar.mp he).1;have hd:ds[i]?=some (ds[i]'(by rw[<-x.1];exact hl)):=ae _;exact⟨_,hd,x.2 i e _ he hd⟩
def an2{t:SetTable}{es:Array (Int×aA)}(ok:TOk t es){f:Nat->Int}{h:Int}{p:SetTable.Probe}(st:vF t.mask p) :
  ∃met,t.probe f h p=some met/\((∃n,met=.empty (itn (adv t.mask) n p).j p.dummy/\(itn (adv t.mask) n p).j∉t.place.toList/\∀n',n'<n->∃i:Nat,t.place[i]?=some (itn (adv t.mask) n' p).j/\f i≠h)\/
  (∃n i,met=.candidate (itn (adv t.mask) n p).j i (itn (adv t.mask) (n+1) p)/\t.place[i]?=some (itn (adv t.mask) n p).j/\f i=h/\∀n',n'<n->∃i':Nat,t.place[i']?=some (itn (adv t.mask) n' p).j/\f i'≠h)):=by
 rcases aja ok f h st with ⟨n,e,r⟩|⟨n,i,e,r⟩
 .exact⟨_,e,.inl ⟨n,rfl,r⟩⟩
 .exact⟨_,e,.inr<|lv n i ⟨rfl,r⟩⟩
theorem ad6(mask:Nat):∀(n:Nat)(p:SetTable.Probe),(itn (adv mask) n p).dummy=p.dummy
 | 0,_=>rfl
 | n+1,p=>by show(itn (adv mask) n<|adv mask p).dummy=_;rw[ad6 mask n];unfold adv;split<;>rfl
theorem acj{a:aF}{o:Obj}{es:Array (Int×aA)}{ep:Nat}{t:SetTable}{ds:Z9 Z8}{x:Int×aA}{d:Z8}{Q:SetFound->aB->Prop}
  (ho:s.heap.get? a=some o) (hd:o.data=.set es ep t) (ok:TOk t es) (els:Els Pv w s.heap es.toList ds) (hx:El Pv w s.heap x d) (hu:A.units+8<bM)
  (q1:d∈ds->Q (.there none) s) (q2:∀n,d∉ds->qx t.mask x.1 n∉t.place.toList->(∀n',n'<n->qx t.mask x.1 n'∈t.place.toList)->Q (.free (qx t.mask x.1 n) false) s) :
  ∀(fuel m N:Nat)(mQ:Option SetTable.Probe),mQ.getD (st0 t.mask x.1)=itn (adv t.mask) m (st0 t.mask x.1)->qx t.mask x.1 N∉t.place.toList->N<m+fuel->
   (∀n',n'<m->∃i:Nat,t.place[i]?=some (qx t.mask x.1 n')/\ds[i]?≠some d)->wpAny (aG prog w) A (oQ a x.2 x.1 true fuel mQ) Q E s
 | 0,m,N,mQ,bD,hN,hf,hm=>by exfalso;obtain⟨i,h1,h2⟩:=hm N (by lia);exact hN (by rw[<-b8]at h1;exact ah h1)
 | fuel+1,m,N,mQ,bD,hN,hf,hm=>by
  unfold oQ;refine ac<|gn ho hd ok.fits ?_;dsimp only;rw[ok.noway];simp only[bj,if_false];rw[aoj,bD];have yV:vF t.mask (itn (adv t.mask) m<|st0 t.mask x.1):=Mc m<|yw _ _;have mV:∀n,(itn (adv t.mask) n<|itn (adv t.mask) m<|st0 t.mask x.1).j=qx t.mask x.1 (m+n):=λn=>by unfold qx;rw[uy]
  have inj:∀{i i' j:Nat},t.place[i]?=some j->t.place[i']?=some j->i=i':=λ{i i' j} h1 h2=>by rw[<-L0 ok.rise h1,L0 ok.rise h2]
  have xC:∀{i j:Nat},t.place[i]?=some j->∃e di,es[i]?=some e/\ds[i]?=some di/\El Pv w s.heap e di:=λ{i j} h1=>by have hl:=(cz.mp h1).1;have he:es[i]?=some (es[i]'(by rw[<-ok.sz];exact hl)):=b7 _;obtain⟨di,h2,h3⟩:=els.at (by rw[b8];exact he);exact(lv _ di ⟨he,h2,h3⟩)
  obtain⟨met,hp,IL⟩:=an2 ok (f:=_) (h:=x.1) yV;rw[hp];have DA:∀{n i:Nat},t.place[i]?=some (itn (adv t.mask) n<|itn (adv t.mask) m<|st0 t.mask x.1).j->(es[i]?.map (·.1)).getD 0≠x.1->ds[i]?≠some d:=λ{n i} h1 h2 h3=>by obtain⟨e,di,g1,g2,g3⟩:=xC h1;rw[g2]at h3;cases h3;apply h2;rw[g1];show e.1=x.1;rw[g3.hash,hx.hash]
  rcases IL with ⟨n,rfl,bS,zQ⟩|⟨n,i,rfl,fQ,hfi,zQ⟩
  .have C7:∀n',n'<n->∃i:Nat,t.place[i]?=some (itn (adv t.mask) n'<|itn (adv t.mask) m<|st0 t.mask x.1).j/\ds[i]?≠some d:=λn' eZ=>by
    obtain⟨i',h1,h2⟩:=zQ n' eZ;exact⟨i',h1,DA h1 h2⟩
   dsimp only;rw[ad6];show wpAny _ _ (bJ _) _ _ _;rw[mV]at bS⊢;have rY:∀n',n'<m+n->∃i:Nat,t.place[i]?=some (qx t.mask x.1 n')/\ds[i]?≠some d:=λn' eZ=>by
    by_cases hq:n'<m
    .exact hm n' hq
    .obtain⟨i',h1,h2⟩:=C7 (n'-m) (by lia);rw[mV,show m+(n'-m)=n' by lia]at h1;exact⟨i',h1,h2⟩
   refine ao<|q2 (m+n) (λoW=>?_) bS λn' eZ=>?_
   .obtain⟨k,hk⟩:=gp oW;have qV:=(ar.mp hk).1;have hke:es.toList[k]?=some (es.toList[k]'(by rw[els.1];exact qV)):=ae _;have tH:=els.2 k _ d hke hk;have nH:t.place[k]?=some (t.place[k]'(by rw[ok.sz,<-bh,els.1];exact qV)):=b7 _;obtain⟨n',eZ,hr⟩:=ok.ahead (j:=t.place[k]'(by rw[ok.sz,<-bh,els.1];exact qV)) (e:=es.toList[k]'(by rw[els.1];exact qV)) ⟨k,by rw[b8];exact nH,hke⟩ (n:=m+n) (by rw[tH.hash,<-hx.hash];exact bS);rw[tH.hash,<-hx.hash]at hr;obtain⟨i',g1,g2⟩:=rY n' eZ;rw[hr]at g1;have e:=inj nH g1;rw[<-e]at g2;exact g2 hk
   .obtain⟨i',g1,_⟩:=rY n' eZ;rw[<-b8]at g1;exact ah g1
  .obtain⟨e,di,g1,g2,g3⟩:=xC fQ;obtain⟨eh,y⟩:=e;obtain⟨ya,ey⟩:=g3.ref;have ey':y=.ref ya:=ey;subst ey';dsimp only;have cS:wpAny (aG prog w) A (oQ a x.2 x.1 true fuel<|some<|itn (adv t.mask) (n+1)<|itn (adv t.mask) m<|st0 t.mask x.1) Q E s\/di=d:=by
    by_cases hq:di=d
    .exact .inr hq
    .refine .inl<|acj ho hd ok els hx hu q1 q2 fuel (m+n+1) N _ ?_ hN (by lia) λn' eZ=>?_
     .show itn (adv t.mask) (n+1) (itn (adv t.mask) m<|st0 t.mask x.1)=_;rw[<-uy];rfl
     .by_cases lT:n'<m
      .exact hm n' lT
      .by_cases E3:n'-m<n
       .obtain⟨i',h1,h2⟩:=zQ (n'-m) E3;have h3:=DA h1 h2;rw[mV,show m+(n'-m)=n' by lia]at h1;exact⟨i',h1,h3⟩
       .rw[mV,show m+n=n' by lia]at fQ;exact⟨i,fQ,by rw[g2];intro z;cases z;exact hq rfl⟩
   have Dw:∀(b:Bool),(b=true↔di=d)->(b=true->wpAny (aG prog w) A (bJ<|SetFound.there none) Q E s):=λb hb hbt=>ao (q1 (by
    rw[<-hb.mp hbt];exact ah g2))
   rw[g1];dsimp only;have sm:t.sameMemory t.moves t.mask=some true:=by unfold SetTable.sameMemory;simp
   cases bZ:t.led with
   | true=>
    simp only[ij,bj,if_false];refine ac<|db<|El.eq rfl g3 hx hu λb hb=>?_;refine ac<|gn ho hd ok.fits ?_;cases b with
    | true=>
     simp only[Bool.and_self,if_true];exact Dw true hb rfl
    | false=>
     simp only[Bool.and_false,bj,if_false];rw[sm];dsimp only;rw[if_pos rfl,Mm ok.rise fQ];dsimp only;rw[g1];dsimp only;refine ac<|tY ?_;refine ac<|ao ?_;simp only[if_true,bj,if_false];rcases cS with f|f
     .exact f
     .exact absurd (hb.mpr f) (by simp)
   | false=>
    simp only[Bool.not_false,if_true];refine ac<|ase hx _ (λy hy=>?_) ?_
    .obtain⟨e,he,rfl⟩:=a7.mp hy;have zN:e∈es.toList:=by
      rw[Array.toList_filter]at he;exact(f7.mp he).1
     obtain⟨k,hk⟩:=gp zN;obtain⟨dk,_,hE⟩:=els.at hk;exact(lv e.1 dk hE)
    simp only[bj,if_false];refine ac<|db<|El.eq rfl g3 hx hu λb hb=>?_;refine ac<|gn ho hd ok.fits ?_;cases b with
    | true=>
     simp only[Bool.and_self,if_true];exact Dw true hb rfl
    | false=>
     simp only[Bool.and_false,bj,if_false];rw[sm];dsimp only;rw[if_pos rfl,Mm ok.rise fQ];dsimp only;rw[g1];dsimp only;refine ac<|tY ?_;refine ac<|ao ?_;simp only[if_true,bj,if_false];rcases cS with f|f
     .exact f
     .exact absurd (hb.mpr f)<|by simp
end
end L3
namespace L3
open PySem
variable{Pv:aA->Z8->Prop}
def anl{w:aJ}{h:Heap}{ds:Z9 Z8}(x:Els Pv w h [] ds):ds=[]:=eu.mp x.1.symm
theorem yy{w:aJ}{h:Heap}{e:Int×aA}{es:Z9 (Int×aA)}{ds:Z9 Z8}(x:Els Pv w h (e::es) ds):∃d aV,ds=d::aV/\El Pv w h e d/\Els Pv w h es aV:=by
 match ds,x with
 | [],x=>exact absurd x.1 (by simp)
 | d::aV,x=>exact(lv d aV ⟨rfl,x.2 0 e d rfl rfl,by have:=x.1;simpa using this,λi e' d' h1 h2=>x.2 (i+1) e' d' h1 h2⟩)
theorem Els.cons{w:aJ}{h:Heap}{e:Int×aA}{d:Z8}{es:Z9 (Int×aA)}{ds:Z9 Z8}(hd:El Pv w h e d)(x:Els Pv w h es ds):Els Pv w h (e::es) (d::ds):=by
 refine⟨by rw[bc,bc,x.1],λi e' d' h1 h2=>?_⟩;cases i with
 | zero=>cases h1;cases h2;exact hd
 | succ i=>exact x.2 i e' d' h1 h2
def Els.nil{w:aJ}{h:Heap}:Els Pv w h [] []:=⟨rfl,λi e d h1 _=>by simp at h1⟩
theorem Els.append{w:aJ}{h:Heap}:∀{es fs:Z9 (Int×aA)} {ds gs:Z9 Z8},Els Pv w h es ds->Els Pv w h fs gs->Els Pv w h (es++fs) (ds++gs)
 | [],fs,ds,gs,x,y=>by rw[anl x];exact y
 | e::es,fs,ds,gs,x,y=>by obtain⟨d,aV,rfl,h1,h2⟩:=yy x;exact Els.cons h1<|h2.append y
theorem Els.take{w:aJ}{h:Heap}{es:Z9 (Int×aA)}{ds:Z9 Z8}(x:Els Pv w h es ds)(n:Nat):Els Pv w h (es.take n) (ds.take n):=by
 refine⟨by rw[cq,cq,x.1],λi e d h1 h2=>?_⟩;have hi:i<n:=by have:=(ar.mp h1).1;rw[cq]at this;lia
 rw[g9 hi]at h1 h2;exact x.2 i e d h1 h2
theorem Els.drop{w:aJ}{h:Heap}{es:Z9 (Int×aA)}{ds:Z9 Z8}(x:Els Pv w h es ds)(n:Nat):Els Pv w h (es.drop n) (ds.drop n):=by refine⟨by rw[gl,gl,x.1],λi e d h1 h2=>?_⟩;rw[jn]at h1 h2;exact x.2 _ e d h1 h2
theorem Els.perm{w:aJ}{h:Heap}{es fs:Z9 (Int×aA)}(p:es.Perm fs):∀{ds:Z9 Z8},Els Pv w h fs ds->∃aV,aV.Perm ds/\Els Pv w h es aV:=by
 induction p with
 | nil=>intro ds x;exact⟨ds,iy _,x⟩
 | cons e p ih=>
  intro ds x;obtain⟨d,ds1,rfl,h1,h2⟩:=yy x;obtain⟨Dt,p2,x2⟩:=ih h2;exact⟨d::Dt,p2.cons d,x2.cons h1⟩
 | swap a b l=>
  intro ds x;obtain⟨d,ds1,rfl,h1,h2⟩:=yy x;obtain⟨d',Dt,rfl,h3,h4⟩:=yy h2;exact⟨d'::d::Dt,List.Perm.swap _ _ _,(h4.cons h1).cons h3⟩
 | trans p1 p2 ih1 ih2=>
  intro ds x;obtain⟨ds1,q1,x1⟩:=ih2 x;obtain⟨Dt,q2,x2⟩:=ih1 x1;exact⟨Dt,q2.trans q1,x2⟩
def vq(h h':Heap):Prop:=∀b ob,h.get? b=some ob->ob.cls=.type "tuple"->h'.get? b=some ob
mutual
theorem ac1{h h':Heap}(t:vq h h'):∀(d:Z8) {v:aA} {as:Z9 aF},kd d=true->Reads h v d as->Reads h' v d as
 | .int i,v,as,_,r=>by cases r with|int=>exact .int _ _
 | .str x,v,as,_,r=>by cases r with|str=>exact .str _ _
 | .tuple ds,v,as,hk,r=>by
  cases r with
  | tuple ho hc hd hi=>exact .tuple (t _ _ ho hc) hc hd (yo t ds hk hi)
 | .none,_,_,hk,_=>absurd hk am
 | .bool _,_,_,hk,_=>absurd hk am
 | .list _,_,_,hk,_=>absurd hk am
 | .dict _,_,_,hk,_=>absurd hk am
theorem yo{h h':Heap}(t:vq h h'):∀(ds:Z9 Z8) {vs:Z9 aA} {as:Z9 aF},xn ds=true->ReadsAll h vs ds as->ReadsAll h' vs ds as
 | [],vs,as,_,r=>by cases r;exact .nil
 | d::ds,vs,as,hk,r=>by
  have hk':(kd d&&xn ds)=true:=hk;rw[da]at hk';cases r with
  | cons h1 h2=>exact .cons (ac1 t d hk'.1 h1)<|yo t ds hk'.2 h2
end
def El.stay{w:aJ}{h h':Heap}(t:vq h h'){e:Int×aA}{d:Z8}(x:El Pv w h e d):El Pv w h' e d:=
 ⟨x.own,x.hash,x.key,x.tup,x.lay,x.deep,let ⟨as,r⟩:=x.reads;⟨as,ac1 t d x.key r⟩⟩
theorem Els.stay{w:aJ}{h h':Heap}(t:vq h h'){es:Z9 (Int×aA)}{ds:Z9 Z8}(x:Els Pv w h es ds):Els Pv w h' es ds:=⟨x.1,λi e d h1 h2=>(x.2 i e d h1 h2).stay t⟩
def aid{h h':Heap}{a:aF}{o:Obj}(ho:h.get? a=some o)(hc:o.cls=.type "set")(hs:cf a h h'):vq h h':=λb ob hb ht=>by
 have:b≠a:=λe=>by subst e;rw[ho]at hb;cases hb;rw[hc]at ht;exact absurd ht<|by decide
 rw[hs.2 b this];exact hb
noncomputable def byT(w:aJ):Bool:=w.params.followText "set-order"
def SetD(Pv:aA->Z8->Prop)(w:aJ)(h:Heap)(a:aF)(ds:Z9 Z8):Prop:=
 ∃o es ep t,h.get? a=some o/\o.ExactSet/\o.data=.set es ep t/\TOk t es/\t.place.size*5<t.mask*3/\Els Pv w h es.toList ds/\ds.Nodup/\t.led = !byT w
theorem SetD.fresh{w:aJ}{h:Heap}{led:Bool}(bZ:led = !byT w):SetD Pv w (h.push {cls:=.type "set",dict:=none,data:=.set #[] 0 (.fresh 0 0 led)}) h.objs.size []:=
 (lr _ (#[]) 0 _ ⟨ba _ rfl,⟨rfl,rfl,rfl⟩,rfl,TOk.fresh 0 0 led,(by show 0*5<7*3;decide),Els.nil,List.nodup_nil,bZ⟩)
def TOk.withPlain{t:SetTable}{es:Array (Int×aA)}(ok:TOk t es)(b:Bool):TOk {t with plain:=b} es:=⟨ok.two,ok.dm,ok.rise,ok.bd,ok.sz,ok.fit,ok.onroad⟩
section
variable{prog:aI}{w:aJ}{A:Around}{E:aA->aB->Prop}{s:aB}
def aqa{a:aF}{o:Obj}{es:Array (Int×aA)}{ep:Nat}{t:SetTable}{ds:Z9 Z8}{bT:Nat}{Q:Unit->aB->Prop}
  (ho:s.heap.get? a=some o) (eI:o.ExactSet) (hd:o.data=.set es ep t) (ok:TOk t es) (els:Els Pv w s.heap es.toList ds) (kB:ds.Nodup) (bZ:t.led = !byT w) (hw:es.size*4<=bT) (EZ:bT<2^13) (kO:∀k,SetTable.sizeAbove bT=2^k->k % 2=1) (dN:0<es.size)
  (q:∀h' aV,cf a s.heap h'->SetD Pv w h' a aV->aV.Perm ds->Q () {s with heap:=h'}):wpAny (aG prog w) A (setRelay a bT) Q E s:=by
 obtain⟨t',fF,e,ok',pm,few,JQ⟩:=agl (t:=t) hw EZ kO dN;obtain⟨k,ek,k3,uK,hn⟩:=uz bT EZ;have dE:¬SetTable.sizeAbove bT>aC:=by rw[ek,dw];have:2^k<=2^13:=gq (by decide) uK;lia
 have hsz:(fF.filterMap (es[·]?)).size=es.size:=by have:=pm.length_eq;rw[bh,bh]at this;exact this
 obtain⟨aV,pd,JP⟩:=els.perm pm;unfold setRelay;refine ac<|gn ho hd ok.fits ?_;dsimp only;rw[if_neg dE,e];refine ac ?_;show wpAny _ _ (ite _ _ _) _ _ _;rw[if_neg (by simp[hsz])];refine ao ?_;have Ij:es.size<=aC:=by rw[dw];lia
 refine By ho hd ?_ (by rw[hsz];exact Ij);have hg:(s.heap.update a<|Obj.putSet (fF.filterMap (es[·]?)) t').get? a=some {o with data:=.set (fF.filterMap (es[·]?)) (ep+1) t'}:=by have:=dq (Obj.putSet (fF.filterMap (es[·]?)) t') ho (by rw[pV _ t' hd];rfl);rw[pV _ t' hd]at this;exact this
 have nF:=gk s.heap a<|Obj.putSet (fF.filterMap (es[·]?)) t';exact q _ aV nF (lr _ _ _ _ ⟨hg,eI,rfl,ok',few,JP.stay<|aid ho eI.1 nF,(pd.nodup_iff).mpr kB,JQ.trans bZ⟩) pd
theorem aiu{a:aF}{ds:Z9 Z8}{x:Int×aA}{d:Z8}{Q:Bool->aB->Prop}(hS:SetD Pv w s.heap a ds)(hx:El Pv w s.heap x d)(hu:A.units+8<bM)(qM:ds.length<4000)
  (q:∀h' aV b,cf a s.heap h'->SetD Pv w h' a aV->(d∈ds->aV=ds)->(d∉ds->aV.Perm (d::ds))->Q b {s with heap:=h'}) :
  wpAny (aG prog w) A (setAddHashed a x.2 x.1) Q E s:=by
 obtain⟨o,es,ep,t,ho,eI,hd,ok,few,els,kB,bZ⟩:=hS;obtain⟨xa,ex⟩:=hx.ref;obtain⟨k,hk,k3,uK,ko⟩:=ok.two;have tH:=els.1;rw[bh]at tH;have hsz:=ok.sz;obtain⟨j,hj,bS⟩:=DN (ps:=t.place.toList) (m:=t.mask) (by rw[bh];exact ok.fit);unfold setAddHashed setAddHashedIn;refine db<|ac<|gn ho hd ok.fits ?_;dsimp only;have iU:byScan x.2 es=false:=by rw[ex];rfl
 rw[iU];simp only[bj,if_false];unfold setSearch;obtain⟨N,hN,eN⟩:=aw1 hk (st0 t.mask x.1) (yw _ _).1 (yw _ _).2.1 j hj;have qS:10*SetTable.turns t.mask<=100000:=by unfold SetTable.turns;have:2^k<=2^13:=gq (by decide) uK;lia
 refine ac<|acj ho hd ok els hx hu (λoW=>?_) (λn zA hf hr=>?_) 100000 0 N none rfl (by unfold qx;rw[eN];exact bS) (by lia) λn' eZ=>by lia
 .dsimp only;refine ao ?_;have e:s={s with heap:=s.heap}:=by cases s;rfl
  rw[e];exact q s.heap ds false (cf.refl a s.heap) (lr o es ep t ⟨ho,eI,hd,ok,few,els,kB,bZ⟩) (λ_=>rfl) λz=>absurd oW z
 .dsimp only;have hm7:7<=t.mask:=by
   have:2^3<=2^k:=gq (by decide) k3;lia
  obtain⟨ok1,em,nG,sZ⟩:=ok.put (x:=x.2) hf hr (by lia);have Dr:Els Pv w s.heap (ig es (t.put<|qx t.mask x.1 n).2 (x.1,x.2)).toList (ds.take (t.put<|qx t.mask x.1 n).2++d::ds.drop (t.put<|qx t.mask x.1 n).2):=by rw[pc];exact(els.take _).append ((els.drop _).cons hx)
  have Ez:(ds.take (t.put<|qx t.mask x.1 n).2++d::ds.drop (t.put<|qx t.mask x.1 n).2).Perm (d::ds):=by have:=List.perm_middle (a:=d) (l₁:=ds.take (t.put<|qx t.mask x.1 n).2) (l₂:=ds.drop (t.put<|qx t.mask x.1 n).2);rw[List.take_append_drop]at this;exact this
  have Hs:(ds.take (t.put<|qx t.mask x.1 n).2++d::ds.drop (t.put<|qx t.mask x.1 n).2).Nodup:=by rw[Ez.nodup_iff,ii];exact⟨zA,kB⟩
  have Do:(ig es (t.put<|qx t.mask x.1 n).2 (x.1,x.2)).size=es.size+1:=by rw[<-ok1.sz,sZ,hsz]
  refine ac<|gn ho hd ok.fits ?_;dsimp only;have wO:(t.put<|qx t.mask x.1 n).1.led=t.led:=rfl;generalize hpt:t.put (qx t.mask x.1 n)=pt at *;obtain⟨t1,p⟩:=pt;simp only at ok1 em nG sZ Dr Ez Hs Do wO⊢;have cS:∀t2:SetTable,TOk t2 (ig es p (x.1,x.2))->t2.mask=t1.mask->t2.place=t1.place->t2.led=t1.led->wpAny (aG prog w) A (storeSet a (ig es p (x.1,x.2)) t2 >>= λ_=>if (!false&&t2.tooFull)=true then setRelay a (SetTable.grown<|es.size+1) >>= λ_=>bJ true else bJ true) Q E s:=λt2 BP e1 e2 e3=>by
   have wN:t2.led = !byT w:=e3.trans<|wO.trans bZ;have dE:(ig es p (x.1,x.2)).size<=aC:=by rw[Do,dw];lia
   refine ac<|By ho hd ?_ dE;have hg:(s.heap.update a<|Obj.putSet (ig es p (x.1,x.2)) t2).get? a=some {o with data:=.set (ig es p (x.1,x.2)) (ep+1) t2}:=by have:=dq (Obj.putSet (ig es p (x.1,x.2)) t2) ho (by rw[pV _ t2 hd];rfl);rw[pV _ t2 hd]at this;exact this
   have nF:=gk s.heap a<|Obj.putSet (ig es p (x.1,x.2)) t2;have Dq:=Dr.stay<|aid ho eI.1 nF;by_cases gA:t2.tooFull=true
   .rw[if_pos (by rw[gA];rfl)];have tF:es.size<4000:=by rw[tH];exact qM
    have htf:t2.mask*3<=(es.size+1)*5:=by unfold SetTable.tooFull SetTable.fill at gA;rw[BP.dm]at gA;have:=BP.sz;have:=Do;simp at gA;lia
    have E7:t2.mask+1=2^k:=by rw[e1,em];exact hk
    have hfw:(es.size+1-1)*5<t2.mask*3:=by rw[e1,em];have:=ok.sz;lia
    have hgs:=ais E7 k3 uK ko htf hfw (by lia);have wQ:SetTable.grown (es.size+1)=(es.size+1)*4:=by unfold SetTable.grown;rw[if_neg (by lia)]
    refine ac<|aqa (s:={s with heap:=s.heap.update a<|Obj.putSet (ig es p (x.1,x.2)) t2}) hg eI rfl BP Dq Hs wN (by rw[Do,wQ];exact av _) (by rw[wQ];exact hgs.1) (λk' ek'=>?_) (by rw[Do];lia) λh' aV Ih iI pd'=>?_
    .rw[wQ]at ek';obtain⟨a1,a2,a3⟩:=ac7 _ (by lia) hgs.1 ek';exact ap0 E7 k3 uK ko htf hfw (by lia) a1 a2 a3
    .exact ao<|q h' aV true (nF.trans Ih) iI (λz=>absurd z zA) λ_=>pd'.trans Ez
   .rw[if_neg (by simpa using gA)];have JK:t2.place.size*5<t2.mask*3:=by
     unfold SetTable.tooFull SetTable.fill at gA;rw[BP.dm]at gA;simpa using gA
    exact ao<|q _ _ true nF (lr _ _ _ _ ⟨hg,eI,rfl,BP,JK,Dq,Hs,wN⟩) (λz=>absurd z zA) λ_=>Ez
  obtain⟨as,rx⟩:=hx.reads;split
  .refine ac<|aas 8 hx.key rx λb=>?_;cases b with
   | true=>
    simp only[if_true];exact cS t1 ok1 rfl rfl rfl
   | false=>
    simp only[bj,if_false];exact cS _ (ok1.withPlain false) rfl rfl rfl
  .refine ac<|ao ?_;simp only[if_true];exact cS t1 ok1 rfl rfl rfl
end
end L3
namespace L3
open PySem PyProof.Rows
variable{Pv:aA->Z8->Prop}
def Keep(h0 h:Heap):Prop:=∀b o,h0.get? b=some o->h.get? b=some o
def Keep.tups{h0 h:Heap}(k:Keep h0 h):vq h0 h:=λb o e _=>k b o e
def SetD.moved{w:aJ}{h h':Heap}{S:aF}{ds:Z9 Z8}(x:SetD Pv w h S ds)(hS:∀o,h.get? S=some o->h'.get? S=some o)(t:vq h h'):SetD Pv w h' S ds:=by obtain⟨o,es,ep,tb,ho,eI,hd,ok,few,els,nd,bZ⟩:=x;exact(lr o es ep tb ⟨hS o ho,eI,hd,ok,few,els.stay t,nd,bZ⟩)
section
variable{prog:aI}{w:aJ}{A:Around}{R:iQ->aB->Prop}{I:aF}{fp wr:Z9 aF}{G:Array jI->Array jI->Prop}{n:Nat}{P:Nat->aA->Prop}{St:Nat->aB->Prop}
theorem zq(W:WalksS prog w A.in1 I fp wr G n P St)(S:aF)(jA:S∉fp)(h0:Heap)(HV:∀b∈wr,h0.get? b=none)(hS0:h0.get? S=none)(hwt:∀i s,St i s->∀b∈wr,∀ob,s.heap.get? b=some ob->ob.cls≠.type "tuple")
  (val:Nat->Z8) (jK:∀i v,P i v->El Pv w h0 (sM w<|val i,v) (val i)) (hu:A.units+9<bM) (hb:n<4000) :
  ∀(k i:Nat)(s:aB)(ds:Z9 Z8),n-i=k->i<=n->St i s->Keep h0 s.heap->SetD Pv w s.heap S ds->(∀d,d∈ds↔∃j,j<i/\val j=d)->ds.length<=i->
   (∀s' aV,DX (S::wr) G s s'->Keep h0 s'.heap->SetD Pv w s'.heap S aV->(∀d,d∈aV↔∃j,j<n/\val j=d)->aV.length<=n->R (.ok<|.ret .none) s')->
   bY (aG prog w) A (.builtin "set.update.loop" ⟨[.ref S,.ref I],[]⟩) R s:=by
 have wU:S∉wr:=λh=>jA<|W.sub _ h;have mono:∀b∈wr,b∈S::wr:=λb hb=>ak _ hb;have mv:∀{i:Nat} {s s':aB} {ds:Z9 Z8},St i s->DX wr G s s'->Keep h0 s.heap->SetD Pv w s.heap S ds->Keep h0 s'.heap/\SetD Pv w s'.heap S ds:=λ{i s s' ds} bD hm hk hS=>by refine⟨λb o e=>hm.heap b o (λz=>by rw[HV b z]at e;cases e)<|hk b o e,hS.moved (λo e=>hm.heap S o wU e) λb o e ht=>hm.heap b o (λz=>hwt i s bD b z o e ht) e⟩
 intro k;induction k with
 | zero=>
  intro i s ds hk hi bD nH hS cL aU hR;have oW:i=n:=by lia
  subst oW;refine fc F.entry_set_update_loop (show _ from ?_);rw[dz ji (_:Gm)];show wpAny _ A.in1 (aX (.ref I) >>= _) _ _ _;refine ac<|W.done s _ _ bD λs' hm=>?_;obtain⟨k1,S1⟩:=mv bD hm nH hS;exact ao (hR s' ds (hm.mono mono) k1 S1 cL aU)
 | succ k ih=>
  intro i s ds hk hi bD nH hS cL aU hR;have bX:i<n:=by lia
  refine fc F.entry_set_update_loop (show _ from ?_);rw[dz ji (_:Gm)];show wpAny _ A.in1 (aX (.ref I) >>= _) _ _ _;refine ac<|W.item i s _ _ bX bD λv s' hP fN hm=>?_;obtain⟨k1,S1⟩:=mv bD hm nH hS;have hE:=(jK i v hP).stay k1.tups;obtain⟨as,rv⟩:=hE.reads;show wpAny _ A.in1 (eY [v] (setAdd S v) >>= _) _ _ _;refine ac<|db ?_;unfold setAdd;refine db ?_;refine ac<|aco (val i) hE.key prog w A.in1 _ s' v as _ rv (by show A.units+1+_<bM;have:=hE.deep;lia) λtk wF=>?_;refine aiu (s:={s' with toks:=tk}) (x:=(sM w<|val i,v)) S1 hE (by show A.units+1+8<bM;lia) (by lia) λh' aV b nF iI e1 e2=>?_;have k2:Keep h0 h':=λb o e=>by rw[nF.2 b (λz=>by rw[z,hS0]at e;cases e)];exact k1 b o e
  have qR:∀d,d∈aV↔∃j,j<i+1/\val j=d:=λd=>by
   have base:(∃j,j<i+1/\val j=d)↔(d∈ds\/val i=d):=by
    rw[cL d];constructor
    .rintro⟨j,hj,e⟩;by_cases q:j=i
     .subst q;exact .inr e
     .exact .inl ⟨j,by lia,e⟩
    .rintro(⟨j,hj,e⟩|e)
     .exact⟨j,by lia,e⟩
     .exact⟨i,by lia,e⟩
   rw[base];by_cases q:val i∈ds
   .rw[e1 q];exact⟨.inl,λz=>z.elim id λe=>e▸q⟩
   .rw[(e2 q).mem_iff,ap];exact⟨λz=>z.elim (λe=>.inr e.symm) .inl,λz=>z.elim .inr λe=>.inl e.symm⟩
  have qT:aV.length<=i+1:=by
   by_cases q:val i∈ds
   .rw[e1 q];lia
   .rw[(e2 q).length_eq,bc];lia
  refine ao ⟨jh ji _,ih (i+1) _ aV (by lia) bX (W.frame _ s' _ _ fN wF λb hb o e=>?_) k2 iI qR qT λyD Ac zD HN Mo HF HL=>?_⟩
  .rw[nF.2 b (λh:b=S=>jA<|by rw[<-h];exact hb)];exact e
  .refine hR yD Ac (DX.trans W.gtrans ((hm.mono mono).then_heap wF λb o hb e=>?_) zD) HN Mo HF HL;rw[nF.2 b (λh:b=S=>hb<|by rw[h];exact aj)];exact e
end
section
variable{prog:aI}{w:aJ}{A:Around}{E:aA->aB->Prop}{s:aB}
def wb(a:aA){Q₁:aA->aB->Prop}
  (h:Q₁ (.ref s.heap.objs.size) {s with heap:=s.heap.push {cls:=.type "set",dict:=none,data:=.set #[] 0 (.fresh 0 0<|!byT w)}}) :
  bY (aG prog w) A (.call (.builtin "set.__new__") ⟨[.type "set",a],[]⟩) (wants Q₁ E) s:=by
 refine fI (show _ from ?_);show wpAny _ A.in1 (do eM "set.__new__" ⟨[.type "set",a],[]⟩;again (.builtin "set.__new__" ⟨[.type "set",a],[]⟩)) _ _ _;refine ac<|cJ (PySem.F.newCall_set_1 a)<|ao ⟨jh PySem.F.plain_set_new _,fc PySem.F.entry_set_new (show _ from ?_)⟩;rw[dz PySem.F.plain_set_new (_:Gm)];unfold Builtin.«set.__new__» Builtin.Frozenset.newClass;have yU:=sub_set_self;obtain⟨hp,g,d,tk,os⟩:=s;dsimp only
 wp_walk
 refine bW<|ao ?_;dsimp only;simp only[newObj];refine ac<|wpAny_alloc<|ao ?_;exact ao h
theorem aeq{l:aF}{items:Array aA}{ds:Z9 Z8}{Q:aA->aB->Prop}
  (hh:A.handled=none) (hl:s.heap.IsList l items) (hi:items.size=ds.length) (hE:∀(i:Nat) v d,items[i]?=some v->ds[i]?=some d->El Pv w s.heap (sM w d,v) d) (hb:ds.length<4000) (hu:A.units+20<bM)
  (h:∀(h':Heap)(tk:Nat)(aV:Z9 Z8),SetD Pv w h' s.heap.objs.size aV->(∀d,d∈aV↔d∈ds)->aV.length<=ds.length->Keep s.heap h'->s.toks<=tk->Q (.ref s.heap.objs.size) {s with heap:=h',toks:=tk}) :
  wpAny (aG prog w) A (call (.type "set") [.ref l]) Q E s:=by
 obtain⟨c,tl,Cz⟩:=bw.mro;have wL:=bw.made;have yU:=bw.sub;refine cH<|fI (show _ from ?_);show wpAny _ _ (callAny (.type "set") _) _ _ s;refine ao ⟨Code.quiet_builtin _<|by decide +kernel,fc F.entry_type_call (show _ from ?_)⟩;rw[Around.under_plain (fJ "set" [.ref l] []) (rfl:_=_)];have h1:=bw.notType;have h2:=bw.canCreate;have hct:=PySem.F.typeCall_set_1 (.ref l)
 repeat (any_goals (first|assumption|(wp_step)))
 refine ju (wb (.ref l) (E:=E) (Q₁:=λobj s₁=>∃led:Bool,led=(!byT w)/\obj=.ref s.heap.objs.size/\s₁={s with heap:=s.heap.push {cls:=.type "set",dict:=none,data:=.set #[] 0 (.fresh 0 0 led)}}) ⟨_,rfl,rfl,rfl⟩) λr s₁ hr=>?_
 match r,hr with
 | .error e,hr=>exact hr
 | .ok (.ret obj),hr=>
   obtain⟨led,bZ,rfl,rfl⟩:=hr;obtain⟨jD,dZ⟩:∃ob:Obj,ob={cls:=.type "set",dict:=none,data:=.set #[] 0 (.fresh 0 0 led)}:=⟨_,rfl⟩;have hS:(s.heap.push jD).get? s.heap.objs.size=some jD:=ba _ (by rw[dZ];rfl);have hT:aB.TypeIs {s with heap:=s.heap.push jD} (.ref s.heap.objs.size) "set":=⟨_,hS,by rw[dZ]⟩;have C8:SetD Pv w (s.heap.push jD) s.heap.objs.size []:=by rw[dZ];exact SetD.fresh bZ
   rw[<-dZ];have hli:=bw.init.lookup;have hbi:=bw.init.bind (.ref s.heap.objs.size)
   repeat (any_goals (first|assumption|(wp_step)))
   refine ju (jg (R:=wants (λr s₂=>r=.none/\∃h' tk aV,s₂={s with heap:=h',toks:=tk}/\SetD Pv w h' s.heap.objs.size aV/\(∀d,d∈aV↔d∈ds)/\aV.length<=ds.length/\Keep s.heap h'/\s.toks<=tk) E) bw.init.plain F.entry_set_init<|kC hT ?_) λr₂ s₂ dY=>?_
   .obtain⟨ol,jM,jP,nl,wR⟩:=hl;obtain⟨BQ,kH,vY,hJ⟩:=ol;simp only at jP wR;subst jP;subst wR;have qP:(s.heap.push jD).get? l=some {cls:=.type "list",dict:=kH,data:=.seq items nl,slots:=hJ}:=ai _ jM;have Cm:=PySem.F.sub_list_set;have Cn:=PySem.F.sub_list_frozenset;have dO:(aA.type "list" == aA.type "dict")=false:=by decide
    have gQ:(s.heap.push jD).IsList l items:=(ma _ qP rfl nl rfl);unfold Builtin.«set.__init__» AR Builtin.Frozenset.updateFrom;generalize Da:iF=PI;subst dZ
    wp_walk
    subst Da;refine js gQ ?_;refine ac<|fR ?_;have dC:∀b,s.heap.objs.size<=b->s.heap.get? b=none:=λb dH=>by
     cases hq:s.heap.get? b with
     | none=>rfl
     | some ob=>exact absurd (bi hq)<|Nat.not_lt.mpr dH
    have wP:l<s.heap.objs.size:=bi jM;have CS:A.in1.in1.in1.handled=none:=by simp[hh]
    have rL:(s.heap.push {cls:=.type "set",dict:=none,data:=.set #[] 0 (.fresh 0 0 led)}).objs.size=s.heap.objs.size+1:=j3 _ _;have qQ:l≠(s.heap.push {cls:=.type "set",dict:=none,data:=.set #[] 0 (.fresh 0 0 led)}).objs.size:=by rw[rL];exact ck<|Nat.lt_succ_of_lt wP
    have jA:s.heap.objs.size∉[(s.heap.push {cls:=.type "set",dict:=none,data:=.set #[] 0 (.fresh 0 0 led)}).objs.size,l]:=by rw[rL];simp only[ap,cv,or_false,not_or];exact⟨ck<|j2 _,Nat.ne_of_gt wP⟩
    have jK:∀(i:Nat)(v:aA),items[i]?=some v->El Pv w s.heap (sM w<|ds.getD i .none,v) (ds.getD i .none):=λi v hv=>by
     have bX:=(cz.mp hv).1;have hd:ds[i]?=some (ds.getD i .none):=by rw[bu,ae<|by lia];rfl
     exact hE i v _ hv hd
    refine zq (A:=A.in1.in1) ((gE.list CS _ l qQ items).toS) s.heap.objs.size jA s.heap (λb dH=>dC b<|by rw[a6.mp dH,rL];exact Nat.le_succ _) (dC _<|av _) (λi s' bD b dH ob e=>?hwt)
     (λi=>ds.getD i .none) jK (by show A.units+1+1+9<bM;lia) (by lia) (items.size-0) 0 _ [] (by lia) (dv _)
     ⟨⟨_,ba _ rfl,rfl,rfl⟩,(gQ.push _)⟩ ?hK0 ?hS0 (λd=>by simp) (by simp) ?hR
    case hwt=>
     obtain⟨⟨oi,ho,hc,_⟩,_⟩:=bD;rw[a6.mp dH,ho]at e;cases e;rw[hc];decide
    case hK0=>exact λb o e=>ai _<|ai _ e
    case hS0=>exact C8.moved (λo e=>ai _ e) λb o e _=>ai _ e
    case hR=>
     intro s' aV hm k' S' m' l';obtain⟨h',g',d',vO,qA⟩:=s';have eg:g'=s.gens:=hm.gens;have ed:d'=s.drawn:=hm.drawn;have eo:qA=s.os:=hm.os;subst eg;subst ed;subst eo;show wpAny _ _ _ _ _ _;refine ao ?_;show wpAny _ _ (ret aA.none) _ _ _;refine ao ⟨rfl,(mj h' vO aV ⟨rfl,S',λd=>?_,by lia,k',hm.toks⟩)⟩;rw[m' d];constructor
     .rintro⟨j,hj,rfl⟩;rw[bu,ae<|by lia];exact fz _
     .intro hd;obtain⟨j,hj⟩:=gp hd;have CO:=(ar.mp hj).1;exact⟨j,by lia,by rw[bu,hj];rfl⟩
   .match r₂,dY with
    | .error e,dY=>exact dY
    | .ok (.ret r),dY=>
      obtain⟨rfl,h',tk,aV,rfl,iI,iG,tE,hk',wG⟩:=dY
      repeat (any_goals (first|assumption|(wp_step)))
      exact h _ _ aV iI iG tE hk' wG
    | .ok .next,dY=>exact dY.elim
    | .ok .brk,dY=>exact dY.elim
    | .ok .cont,dY=>exact dY.elim
 | .ok .next,hr=>exact hr.elim
 | .ok .brk,hr=>exact hr.elim
 | .ok .cont,hr=>exact hr.elim
end
end L3
namespace L3
open PySem PySem.Spec PyProof.Rows L2
variable{Pv:aA->Z8->Prop}
def Fw(d:Z8):Prop:=kd d=true/\(∃ds,d=.tuple ds)/\d.depth<8
def aub:Z9 V->Hp->VK->Prop:=λvs H Q=>∃(p:aF)(xs:Z9 V)(ds:Z9 Z8),vs=[.ref p]/\H p=some (.lst xs)/\RepAll H ds xs/\(∀d∈ds,Fw d)/\ds.length<4000/\
 ∀aV:Z9 Z8,aV.Nodup->(∀d,d∈aV↔d∈ds)->aV.length<=ds.length->Q (.int aV.length) H
theorem vz{h:Heap}:∀{us:Z9 aA} {ds:Z9 Z8} {as:Z9 aF} {i:Nat} {u:aA} {d:Z8},ReadsAll h us ds as->us[i]?=some u->ds[i]?=some d->∃bs,Reads h u d bs
 | _,_,_,i,u,d,.nil,h1,_=>by simp at h1
 | _,_,_,0,u,d,.cons a b,h1,h2=>by cases h1;cases h2;exact⟨_,a⟩
 | _,_,_,i+1,u,d,.cons a b,h1,h2=>vz b (by simpa using h1)<|by simpa using h2
theorem F3:∀{ds:Z9 Z8},PyData.canLayAll0 ds=true->∀d∈ds,d.canLay0=true
 | [],_,d,hd=>by cases hd
 | e::ds,hk,d,hd=>by
  have hk':(e.canLay0&&PyData.canLayAll0 ds)=true:=hk;rw[da]at hk';rcases ap.mp hd with h|hd
  .rw[h];exact hk'.1
  .exact F3 hk'.2 d hd
section
variable{X:Cx}{p p2 pos hG:cU}{e:Expr}{t:TA}
def anf(hc:X.calm=true)(hu:X.A.units+64<bM)(hg:Gl X "len")(hm:X.mg "len" = none)(CU:Gl X "set")(wM:X.mg "set" = none)(ha:PA X [e] t)(h1:o7 e=true:=by rfl) :
  PE X (.Call (.Name "len" p) [.Call (.Name "set" p2) [e] [] hG] [] pos) (tCB aub t):=by
 intro aE s σ H Q I h;refine gi (ur I hg hm b9 ?_ (by decide)<|by decide);refine jw ?_ (m9 rfl) rfl;rw[m9 rfl];show wpAny _ _ (lO ((false,bL (.Call (.Name "set" p2) [e] [] hG) X.env)::bA pos (aK [] X.env))) _ _ s;refine j5 ?_;refine gi (ur I CU wM boot_set ?_ (by decide)<|by decide);refine f8 (thn (ha hG aE s σ H _ I h) λus s1 ⟨vs,H1,I1,r1,q1⟩=>?_) (m9 h1) rfl;obtain⟨pl,xs,ds,rfl,hp,dJ,gR,hb,q⟩:=q1;obtain⟨u,rfl,ru⟩:=se r1;cases (show u=aA.ref pl from ru);obtain⟨its,rv,il,hz⟩:=I1.list<|SqL.of (K:=X.K) hp;obtain⟨as,uI⟩:=RepAll.reads I1 dJ rv;have qU:=dJ.lay;have gQ:xs.length=ds.length:=dJ.length;have fK:xs.length=its.length:=rv.length;refine aeq (Pv:=λ_ _=>True) (ds:=ds) (I1.ok.hd hc) il.isList (by rw[be];lia) (λi v d hv hd=>?_) hb (by lia) λh' tk aV hS cL aU hk ht=>?_
 .rw[jo]at hv;obtain⟨bs,rd⟩:=vz uI hv hd;have iG:=ah hd;exact⟨True.intro,rfl,(gR d iG).1,(gR d iG).2.1,F3 qU d iG,(gR d iG).2.2,bs,rd⟩
 .obtain⟨o,es,ep,tb,ho,eI,jO,ok,few,els,nd,_⟩:=hS;have hsz:es.size=aV.length:=by have:=els.1;rw[bh]at this;exact this
  refine Calls.spliced_nil ?_
  refine call_len_set ho eI jO ok.fits (by rw[hsz];have:(aV.length:Int)<4000:=by lia
                                           exact Int.lt_of_lt_of_le this<|by decide) ?_
  refine(lv (.int aV.length) H1 ⟨?_,⟨_,by rw[<-hsz]⟩,q aV nd cL aU⟩);exact I1.kept hk
end
end L3
namespace L4
open PySem PySem.W PySem.Calls PyProof.Rows
noncomputable def ql{α:Type}(lt:Nat->Nat->Bool):Gj α->α
 | .ret a=>a
 | .ask i j k=>ql lt<|k<|lt i j
def PostT{α:Type}(n:Nat)(P:α->Prop):Gj α->Prop
 | .ret a=>P a
 | .ask i j k=>i<n/\j<n/\∀b,PostT n P<|k b
theorem PostT.bind{α β:Type}{n:Nat}{P:α->Prop}{P':β->Prop}{f:α->Gj β}:∀{t:Gj α},PostT n P t->(∀a,P a->PostT n P' (f a))->PostT n P' (t.bind f)
 | .ret a,h,hf=>hf a h
 | .ask i j k,h,hf=>⟨h.1,h.2.1,λb=>PostT.bind (h.2.2 b) hf⟩
theorem PostT.run{α:Type}{n:Nat}{P:α->Prop}(lt:Nat->Nat->Bool):∀{t:Gj α},PostT n P t->P (ql lt t)
 | .ret a,h=>h
 | .ask i j k,h=>PostT.run (n:=n) (P:=P) (t:=k<|lt i j) lt<|h.2.2<|lt i j
theorem PostT.wp{α:Type}{n:Nat}{P:α->Prop}{lt:Nat->Nat->Bool}{cmp:Nat->Nat->(Bool->aB->Prop)->aB->Prop}{s:aB}(hc:∀i j (C:Bool->aB->Prop),i<n->j<n->C (lt i j) s->cmp i j C s){Q:α->aB->Prop} :
  ∀{t:Gj α},PostT n P t->Q (ql lt t) s->t.kasWp cmp Q s
 | .ret a,_,q=>q
 | .ask i j k,h,q=>hc i j _ h.1 h.2.1<|PostT.wp hc (h.2.2 _) q
def OkP(n:Nat)(p:Array Nat):Prop:=p.Perm<|List.toArray<|dt n
def OkP.get{n:Nat}{p:Array Nat}(h:OkP n p)(hn:0<n)(i:Nat):p.getD i 0<n:=by
 by_cases hi:i<p.size
 .have e:p.getD i 0=p[i]:=by simp[Array.getD,hi]
  rw[e];have:=h.mem_iff.mp<|Array.getElem_mem hi;simpa using this
 .have e:p.getD i 0=0:=by simp[Array.getD,hi]
  rw[e];exact hn
def OkP.perm{n:Nat}{p q:Array Nat}(h:OkP n p)(e:q.Perm p):OkP n q:=e.trans h
def OkP.rev{n:Nat}{p:Array Nat}(h:OkP n p)(i j:Nat):OkP n (cM p i j):=h.perm<|mirror_perm _ _ _ _
def OkP.bub{n:Nat}{p:Array Nat}(h:OkP n p)(i j:Nat):OkP n (A9 p i j):=h.perm<|bubble_perm _ _ _
section
variable{n:Nat}
theorem L7(hn:0<n){p:Array Nat}(hp:OkP n p):∀(f m:Nat),PostT n (λ_=>True) (cN p f m)
 | 0,m=>trivial
 | f+1,m=>⟨hp.get hn _,hp.get hn _,λb=>by
   cases b with
   | true=>exact trivial
   | false=>exact L7 hn hp f<|m+1⟩
theorem yg(hn:0<n):∀(f:Nat)(p:Array Nat)(m q:Nat),OkP n p->PostT n (λr:Array Nat×Nat×Nat=>OkP n r.1) (aQ f p m q)
 | 0,p,m,q,hp=>hp
 | f+1,p,m,q,hp=>⟨hp.get hn _,hp.get hn _,λb=>by
   cases b with
   | true=>
    show PostT n _ (if q>0 then _ else _);split
    .exact yg hn f _ _ _<|hp.rev _ _
    .exact yg hn f _ _ _ hp
   | false=>
    refine⟨hp.get hn _,hp.get hn _,λb=>?_⟩;cases b with
    | true=>exact hp
    | false=>exact yg hn f _ _ _ hp⟩
def ace(hn:0<n){m r:Nat}{p:Array Nat}(hp:OkP n p):PostT n (λr:Nat×Array Nat=>OkP n r.2) (qF m r p):=
 PostT.bind (L7 hn (hp.rev _ _) _ _) λ_ _=>hp.rev _ _
def zb(hn:0<n){m r:Nat}{p:Array Nat}(hp:OkP n p):PostT n (λr:Nat×Array Nat=>OkP n r.2) (sX m r p):=
 PostT.bind (yg hn _ _ _ _ hp) λa ha=>by
  split
  .exact ace hn<|ha.rev _ _
  .exact ace hn ha
theorem aio(hn:0<n){r:Nat}{p:Array Nat}(hp:OkP n p):PostT n (λr:Nat×Array Nat=>OkP n r.2) (qG r p):=
 PostT.bind (L7 hn hp _ _) λa _=>by
  split
  .exact hp
  .split
   .refine⟨hp.get hn _,hp.get hn _,λb=>?_⟩;cases b with
    | true=>exact hp
    | false=>exact zb hn<|hp.rev _ _
   .exact zb hn hp
theorem zf(hn:0<n){p:Array Nat}(hp:OkP n p)(k:Nat):∀(f l r:Nat),PostT n (λ_=>True) (cZ p k f l r)
 | 0,l,r=>trivial
 | f+1,l,r=>by
  unfold cZ;split
  .exact trivial
  .refine⟨hp.get hn _,hp.get hn _,λb=>?_⟩;cases b with
   | true=>exact zf hn hp k f _ _
   | false=>exact zf hn hp k f _ _
theorem aig(hn:0<n):∀(f:Nat)(p:Array Nat)(k:Nat),OkP n p->PostT n (OkP n) (sY f p k)
 | 0,p,k,hp=>hp
 | f+1,p,k,hp=>PostT.bind (zf hn hp k _ _ _) λl _=>aig hn f _ _<|hp.bub _ _
def Md(hn:0<n):PostT n (OkP n) (eJ n):=by
 have h0:OkP n (List.toArray<|dt n):=.refl _;refine PostT.bind (aio hn h0) λa ha=>?_;split
 .exact aig hn _ _ _ ha
 .exact ha
end
noncomputable def srt(lt:Nat->Nat->Bool)(n:Nat):Z9 Nat:=if n<2 then dt n else(ql lt<|eJ n).toList
def vd(lt:Nat->Nat->Bool)(n:Nat):(srt lt n).length=n:=by
 unfold srt;split
 .simp
 .have h:=PostT.run lt (Md (n:=n)<|by lia);simpa using h.size_eq
def al7(vs:Z9 aA):(vs.toArray.zip vs.toArray).map (·.2)=List.toArray ((dt vs.length).map λi=>vs.getD i aA.none):=by
 apply Array.ext
 .simp
 .intro i h1 h2;have hi:i<vs.length:=by simpa using h1
  simp[hi]
section
variable{prog:aI}{w:aJ}{A:Around}{E:aA->aB->Prop}{s:aB}
def aec{a:aF}{vs:Z9 aA}{n:Nat}{κ:bB}{lt:Nat->Nat->Bool}{P:PySem.Fin->aB->Prop}(ho:s.heap.get? a=some (bI "list" vs.toArray n))(oG:vs.length<64)
  (hk:2<=vs.length->∀s':aB,(∀b o,b≠a->s.heap.get? b=some o->s'.heap.get? b=some o)->
   (∀(Q:bB->aB->Prop)(E:aA->aB->Prop),Q κ s'->wpAny (aG prog w) A (fV vs.toArray) Q E s')/\
   ∀i j,i<vs.length->j<vs.length->∀(Q:Bool->aB->Prop),Q (lt i j) s'->wpAny (aG prog w) A (mY κ (vs.getD i aA.none)<|vs.getD j aA.none) Q (λ_ _=>False) s')
  (h:P (.done<|.ret .none) {s with heap:=sortedHeap s.heap a vs<|List.toArray<|(srt lt vs.length).map λi=>vs.getD i aA.none}) :
  wpAny (aG prog w) A (Builtin.«list.sort» ⟨[.ref a],[]⟩) P E s:=by
 have ha:a<s.heap.objs.size:=bi ho;obtain⟨e1,AV⟩:∃e1,(s.heap.update a<|ir λ_=>(#[]:Array aA)).get? a=some (bI "list" #[] e1):=⟨_,get?_update_seq ho λ_=>#[]⟩;have E6:(((s.heap.update a<|ir λ_=>(#[]:Array aA)).push (bI "tuple" vs.toArray 0)).push (bI "list" #[] 0)).get? a=some (bI "list" #[] e1):=
  ai _ (ai _ AV)
 have kept:∀b o,b≠a->s.heap.get? b=some o->(((s.heap.update a<|ir λ_=>(#[]:Array aA)).push (bI "tuple" vs.toArray 0)).push (bI "list" #[] 0)).get? b=some o:=λb o hb e=>
  ai _ (ai _<|(c6 s.heap _<|Ne.symm hb).trans e)
 have lE:(srt lt vs.length).length=vs.length:=vd _ _;rw[list_sort_plain];refine ac<|listItems_at ho rfl ?_;refine ac<|oU ho rfl ?_ (by rw[be,dw];lia)<|dv _;refine ac<|vQ AV rfl ?_;refine ac (wpAny_newTuple ?_<|by show vs.length<=_;rw[dw];lia);refine ac<|oN ?_<|dv _;refine db ?_;show wpAny (aG prog w) A _ P E {s with heap:=((s.heap.update a<|ir λ_=>(#[]:Array aA)).push (bI "tuple" vs.toArray 0)).push (bI "list" #[] 0)};dsimp only;by_cases h2:vs.toArray.size<2
 .have gX:vs.length<2:=by simpa using h2
  rw[if_pos h2,if_pos h2];refine ac<|ao ?_;rw[StateT.run_pure];refine ac<|ao ?_;dsimp only;have e0:(arrOf<|SortSt.mk' general' (vs.toArray.zip vs.toArray) #[] 7 none).map (·.2)=List.toArray ((srt lt vs.length).map λi=>vs.getD i aA.none):=by show(vs.toArray.zip vs.toArray).map (·.2)=_;unfold srt;rw[if_pos gX];exact al7 vs
  rw[e0];refine ac<|vQ E6 rfl ?_;refine ac (oU E6 rfl ?_ (dv _)<|by rw[be,af,lE,dw];lia);simp only[bne_self_eq_false,bj,if_false];exact ao h
 .have gX:2<=vs.length:=by have:¬vs.length<2:=by simpa using h2
                           lia
  rw[if_neg h2,if_neg h2];obtain⟨k1,k2⟩:=hk gX {s with heap:=((s.heap.update a<|ir λ_=>(#[]:Array aA)).push (bI "tuple" vs.toArray 0)).push (bI "list" #[] 0)} kept;refine ac<|k1 _ _ ?_;have GF:=(Md (n:=vs.length)<|by lia).wp (lt:=lt) (cmp:=kas_ask prog w A κ vs) (s:={s with heap:=((s.heap.update a<|ir λ_=>(#[]:Array aA)).push (bI "tuple" vs.toArray 0)).push (bI "list" #[] 0)})
   (Q:=λp s'=>p=ql lt (eJ vs.length)/\s'={s with heap:=((s.heap.update a<|ir λ_=>(#[]:Array aA)).push (bI "tuple" vs.toArray 0)).push (bI "list" #[] 0)})
   (λi j C hi hj hC=>k2 i j hi hj C hC) ⟨rfl,rfl⟩
  refine ac (jj (kat_run (E:=E) (Q:=λeX s'=>(arrOf eX).map (·.2)=List.toArray ((srt lt vs.length).map λi=>vs.getD i aA.none)/\failedOf eX=none/\s'={s with heap:=((s.heap.update a<|ir λ_=>(#[]:Array aA)).push (bI "tuple" vs.toArray 0)).push (bI "list" #[] 0)})
   rfl gX oG (λp eX s' _ b2 b3 b4=>?_) GF) ?_ λ_ _ e=>e)
  .refine⟨?_,b3,b4.2⟩;rw[kat_snds rfl b2,b4.1];unfold srt;rw[if_neg (by lia)]
  .rintro⟨⟨⟩,eX⟩ s' ⟨hout,hf,rfl⟩;dsimp only at hout hf⊢;rw[hout];refine ac<|vQ E6 rfl ?_;refine ac (oU E6 rfl ?_ (dv _)<|by rw[be,af,lE,dw];lia);rw[hf];simp only[bne_self_eq_false,bj,if_false];exact ao h
end
structure Ord(lt:Nat->Nat->Bool):Prop where
 asy:∀a b,lt a b=true->lt b a=false
 tr:∀a b c,lt b a=false->lt c b=false->lt c a=false
theorem vm{α β:Type}(lt:Nat->Nat->Bool)(f:α->Gj β):∀t:Gj α,ql lt (t.bind f)=ql lt (f<|ql lt t)
 | .ret a=>rfl
 | .ask i j k=>vm lt f<|k<|lt i j
section
variable{lt:Nat->Nat->Bool}
def Up(lt:Nat->Nat->Bool)(p:Array Nat)(hi:Nat):Prop:=∀i j,i<=j->j<hi->lt (p.getD j 0) (p.getD i 0)=false
def Dn(lt:Nat->Nat->Bool)(p:Array Nat)(hi:Nat):Prop:=∀i j,i<=j->j<hi->lt (p.getD i 0) (p.getD j 0)=false
theorem Ord.irr(o:Ord lt)(a:Nat):lt a a=false:=by
 cases h:lt a a with
 | false=>rfl
 | true=>rw[<-h];exact o.asy a a h
def Up.one(o:Ord lt)(p:Array Nat):Up lt p 1:=λi j h1 h2=>by
 have e1:i=0:=by lia
 have e2:j=0:=by lia
 rw[e1,e2];exact o.irr _
def Dn.one(o:Ord lt)(p:Array Nat):Dn lt p 1:=λi j h1 h2=>by
 have e1:i=0:=by lia
 have e2:j=0:=by lia
 rw[e1,e2];exact o.irr _
def Up.more(o:Ord lt){p:Array Nat}{n:Nat}(h:Up lt p n)(hn:0<n)(h1:lt (p.getD n 0) (p.getD (n-1) 0)=false):Up lt p (n+1):=λi j h2 h3=>by
 by_cases e:j=n
 .subst e;by_cases e2:i=j
  .rw[e2];exact o.irr _
  .exact o.tr _ _ _ (h i (j-1) (by lia)<|by lia) h1
 .exact h i j h2<|by lia
def Dn.more(o:Ord lt){p:Array Nat}{n:Nat}(h:Dn lt p n)(hn:0<n)(h1:lt (p.getD (n-1) 0) (p.getD n 0)=false):Dn lt p (n+1):=λi j h2 h3=>by
 by_cases e:j=n
 .subst e;by_cases e2:i=j
  .rw[e2];exact o.irr _
  .exact o.tr _ _ _ h1<|h i (j-1) (by lia)<|by lia
 .exact h i j h2<|by lia
theorem Lz(o:Ord lt){p:Array Nat}:∀(f n:Nat),0<n->Up lt p n->n<=ql lt (cN p f n)/\ql lt (cN p f n)<=n+f/\Up lt p (ql lt<|cN p f n)/\(ql lt (cN p f n)<n+f->lt (p.getD (ql lt<|cN p f n) 0) (p.getD (ql lt (cN p f n)-1) 0)=true)
 | 0,n,hn,h=>⟨av _,av _,h,λz=>absurd z<|gy _⟩
 | f+1,n,hn,h=>by
  show n<=ql lt (if lt (p.getD n 0) (p.getD (n-1) 0)=true then _ else _)/\ql lt (if lt (p.getD n 0) (p.getD (n-1) 0)=true then _ else _)<=n+(f+1)/\Up lt p (ql lt (if lt (p.getD n 0) (p.getD (n-1) 0)=true then _ else _))/\_;cases c:lt (p.getD n 0) (p.getD (n-1) 0)with
  | true=>
   rw[show cN p (f+1) n=.ask (p.getD n 0) (p.getD (n-1) 0) λc=>if c=true then .ret n else cN p f (n+1)from rfl];simp only[ql,c,if_true];exact⟨av _,by lia,h,λ_=>trivial⟩
  | false=>
   rw[show cN p (f+1) n=.ask (p.getD n 0) (p.getD (n-1) 0) λc=>if c=true then .ret n else cN p f (n+1)from rfl];simp only[ql,c,bj,if_false];have ih:=Lz o (p:=p) f (n+1) (by lia)<|h.more o hn c;exact⟨by lia,by lia,ih.2.2.1,λz=>ih.2.2.2<|by lia⟩
def DU{p q:Array Nat}{i j:Nat}(h:p[i]?=q[j]?):p.getD i 0=q.getD j 0:=by rw[Array.getD_eq_getD_getElem?,Array.getD_eq_getD_getElem?,h]
def xo{p:Array Nat}{i j:Nat}(hj:j<=p.size)(k:Nat):(cM p i j).getD k 0=if i<=k/\k<j then p.getD (i+j-1-k) 0 else p.getD k 0:=by
 have e:=getElem?_mirror_all (xs:=p) (i:=i) hj k;split
 .rename_i h
  rw[if_pos h]at e;exact DU e
 .rename_i h
  rw[if_neg h]at e;exact DU e
def Gf(p:Array Nat)(i j:Nat):(cM p i j).size=p.size:=mirror_size _ _ _ _
def Dn.rev{p:Array Nat}{n:Nat}(hn:n<=p.size)(h:Dn lt p n):Up lt (cM p 0 n) n:=λi j h1 h2=>by rw[xo hn,xo hn,if_pos ⟨dv _,h2⟩,if_pos ⟨dv _,by lia⟩];exact h _ _ (by lia)<|by lia
def Up.rev{p:Array Nat}{n:Nat}(hn:n<=p.size)(h:Up lt p n):Dn lt (cM p 0 n) n:=λi j h1 h2=>by rw[xo hn,xo hn,if_pos (show 0<=i/\i<n by lia),if_pos (show 0<=j/\j<n by lia)];exact h _ _ (by lia)<|by lia
def Eqs(lt:Nat->Nat->Bool)(p:Array Nat)(lo hi:Nat):Prop:=∀i j,lo<=i->i<hi->lo<=j->j<hi->lt (p.getD i 0) (p.getD j 0)=false
def Dn.revEq(o:Ord lt){p:Array Nat}{lo n:Nat}(hn:n<=p.size)(hl:lo<n)(h:Dn lt p n)(e:Eqs lt p lo n):Dn lt (cM p lo n) n:=λi j h1 h2=>by
 rw[xo hn,xo hn];split<;>split
 .exact e _ _ (by lia) (by lia) (by lia)<|by lia
 .lia
 .exact h _ _ (by lia)<|by lia
 .exact h _ _ h1 h2
theorem Gh(o:Ord lt){N:Nat}:∀(f:Nat)(p:Array Nat)(n q:Nat),p.size=N->n+f<=N->q<n->Dn lt p n->Eqs lt p (n-(q+1)) n->
  (ql lt<|aQ f p n q).1.size=N/\n<=(ql lt<|aQ f p n q).2.1/\(ql lt<|aQ f p n q).2.1<=n+f/\(ql lt<|aQ f p n q).2.2<(ql lt<|aQ f p n q).2.1/\
   Dn lt (ql lt<|aQ f p n q).1 (ql lt<|aQ f p n q).2.1/\Eqs lt (ql lt<|aQ f p n q).1 ((ql lt<|aQ f p n q).2.1-((ql lt<|aQ f p n q).2.2+1)) (ql lt<|aQ f p n q).2.1
 | 0,p,n,q,hp,hf,hq,h,e=>⟨hp,av _,av _,hq,h,e⟩
 | f+1,p,n,q,hp,hf,hq,h,e=>by
  have one:∀(p':Array Nat)(m:Nat),Eqs lt p' (m-(0+1)) m:=λp' m i j h1 h2 h3 h4=>by
   have:i=j:=by lia
   rw[this];exact o.irr _
  have un:aQ (f+1) p n q=.ask (p.getD n 0) (p.getD (n-1) 0) λc=>if c=true then(if q>0 then aQ f (cM p (n-(q+1)) n) (n+1) 0 else aQ f p (n+1) 0)
    else .ask (p.getD (n-1) 0) (p.getD n 0) λd=>if d=true then .ret (p,n,q)else aQ f p (n+1) (q+1):=rfl
  cases c:lt (p.getD n 0) (p.getD (n-1) 0)with
  | true=>
   have c':=o.asy _ _ c;by_cases hq0:q>0
   .have er:ql lt (aQ (f+1) p n q)=ql lt (aQ f (cM p (n-(q+1)) n) (n+1) 0):=by
     rw[un];simp only[ql,c,if_true,if_pos hq0]
    rw[er];have h':Dn lt (cM p (n-(q+1)) n) (n+1):=(h.revEq o (by lia) (by lia) e).more o (by lia) (by
     rw[xo (by lia),xo<|by lia,if_pos<|by lia,if_neg<|by lia];exact o.tr _ _ _ c'<|e _ _ (by lia) (by lia) (by lia)<|by lia)
    have ih:=Gh o (N:=N) f (cM p (n-(q+1)) n) (n+1) 0 (by rw[Gf];exact hp) (by lia) (by lia) h'<|one _ _;exact⟨ih.1,by lia,by lia,ih.2.2.2.1,ih.2.2.2.2.1,ih.2.2.2.2.2⟩
   .have er:ql lt (aQ (f+1) p n q)=ql lt (aQ f p (n+1) 0):=by
     rw[un];simp only[ql,c,if_true,if_neg hq0]
    rw[er];have ih:=Gh o (N:=N) f p (n+1) 0 hp (by lia) (by lia) (h.more o (by lia) c')<|one _ _;exact⟨ih.1,by lia,by lia,ih.2.2.2.1,ih.2.2.2.2.1,ih.2.2.2.2.2⟩
  | false=>
   cases d:lt (p.getD (n-1) 0) (p.getD n 0)with
   | true=>
    have er:ql lt (aQ (f+1) p n q)=(p,n,q):=by rw[un];simp only[ql,c,d,if_true,bj,if_false]
    rw[er];exact⟨hp,av _,by show n<=n+(f+1);lia,hq,h,e⟩
   | false=>
    have er:ql lt (aQ (f+1) p n q)=ql lt (aQ f p (n+1)<|q+1):=by rw[un];simp only[ql,c,d,bj,if_false]
    rw[er];have e':Eqs lt p (n+1-(q+1+1)) (n+1):=λi j h1 h2 h3 h4=>by
     by_cases ei:i=n
     .by_cases ej:j=n
      .rw[ei,ej];exact o.irr _
      .rw[ei];exact o.tr _ _ _ (e _ _ (by lia) (by lia) (by lia)<|by lia) c
     .by_cases ej:j=n
      .rw[ej];exact o.tr _ _ _ d<|e _ _ (by lia) (by lia) (by lia)<|by lia
      .exact e _ _ (by lia) (by lia) (by lia)<|by lia
    have ih:=Gh o (N:=N) f p (n+1) (q+1) hp (by lia) (by lia) (h.more o (by lia) d) e';exact⟨ih.1,by lia,by lia,ih.2.2.2.1,ih.2.2.2.2.1,ih.2.2.2.2.2⟩
def Run(lt:Nat->Nat->Bool)(N:Nat)(r:Nat×Array Nat):Prop:=r.2.size=N/\0<r.1/\r.1<=N/\Up lt r.2 r.1
def aet(o:Ord lt){N n:Nat}{p:Array Nat}(hp:p.size=N)(hn:0<n)(hN:n<=N)(h:Dn lt p n):Run lt N (ql lt<|qF n N p):=by
 have e:ql lt (qF n N p)=(ql lt<|cN (cM p 0 n) (N-n) n,cM p 0 n):=by unfold qF;rw[vm];rfl
 rw[e];have a:=Lz o (p:=cM p 0 n) (N-n) n hn (h.rev<|by lia);exact⟨by rw[Gf];exact hp,by have:=a.1;show 0<_;lia,by have:=a.2.1;show _<=N;lia,a.2.2.1⟩
def zw(o:Ord lt){N n:Nat}{p:Array Nat}(hp:p.size=N)(hN:n+1<=N)(h:Dn lt p (n+1)):Run lt N (ql lt<|sX n N p):=by
 unfold sX;rw[vm];have d:=Gh o (N:=N) (N-(n+1)) p (n+1) 0 hp (by lia) (by lia) h (λi j h1 h2 h3 h4=>by
  have:i=j:=by lia
  rw[this];exact o.irr _)
 generalize ql lt (aQ (N-(n+1)) p (n+1) 0)=r at *;obtain⟨d1,d2,d3,d4,d5,d6⟩:=d;split
 .exact aet o (by rw[Gf];exact d1) (by lia) (by lia)<|d5.revEq o (by lia) (by lia) d6
 .exact aet o d1 (by lia) (by lia) d5
def al3(o:Ord lt){N:Nat}{p:Array Nat}(hp:p.size=N)(hN:0<N):Run lt N (ql lt<|qG N p):=by
 unfold qG;rw[vm];have a:=Lz o (p:=p) (N-1) 1 (by lia)<|Up.one o p;generalize ql lt (cN p (N-1) 1)=n at *;obtain⟨a1,a2,a3,a4⟩:=a;split
 .exact⟨hp,a1,by show n<=N;lia,a3⟩
 .rename_i dO
  have hne':n≠N:=by simpa using dO
  have bX:=a4 (by lia);split
  .rename_i h1
   show Run lt N (ql lt (if lt (p.getD 0 0) (p.getD (n-1) 0)=true then _ else _));split
   .exact⟨hp,a1,by show n<=N;lia,a3⟩
   .rename_i hc
    refine zw o (by rw[Gf];exact hp) (by lia)<|(a3.rev<|by lia).more o (by lia) ?_;rw[xo (by lia),xo<|by lia,if_pos<|by lia,if_neg<|by lia];have e0:0+n-1-(n-1)=0:=by lia
    rw[e0];exact o.tr _ _ _ (o.asy _ _ bX)<|by simpa using hc
  .have e1:n=1:=by lia
   subst e1;exact zw o hp (by lia)<|(Dn.one o p).more o (by lia) (o.asy _ _ bX)
theorem Mb(o:Ord lt){p:Array Nat}{k:Nat}(h:Up lt p k):∀(f l r:Nat),l<=r->r<=k->r-l<=f->(∀i,i<l->lt (p.getD k 0) (p.getD i 0)=false)->(∀i,r<=i->i<k->lt (p.getD k 0) (p.getD i 0)=true)->
  ql lt (cZ p k f l r)<=k/\(∀i,i<ql lt (cZ p k f l r)->lt (p.getD k 0) (p.getD i 0)=false)/\(∀i,ql lt (cZ p k f l r)<=i->i<k->lt (p.getD k 0) (p.getD i 0)=true)
 | 0,l,r,h1,h2,h3,h4,h5=>⟨by show l<=k;lia,h4,λi z=>h5 i<|by have:l<=i:=z;lia⟩
 | f+1,l,r,h1,h2,h3,h4,h5=>by
  unfold cZ;split
  .exact⟨by show l<=k;lia,h4,λi z=>h5 i<|by have:l<=i:=z;lia⟩
  .rename_i hlr
   have IN:l<=(l+r)/2:=by lia
   have wM:(l+r)/2<r:=by lia
   generalize (l+r)/2=m at *;cases c:lt (p.getD k 0) (p.getD m 0)with
   | true=>
    simp only[ql,c,if_true];refine Mb o h f l m IN (by lia) (by lia) h4 λi z1 z2=>?_;cases d:lt (p.getD k 0) (p.getD i 0)with
    | true=>rfl
    | false=>
     have:=o.tr _ _ _ (h m i z1 z2) d;rw[c]at this;cases this
   | false=>
    simp only[ql,c,bj,if_false];exact Mb o h f (m+1) r (by lia) h2 (by lia) (λi z=>o.tr _ _ _ (h i m (by lia)<|by lia) c) h5
def aqf{p:Array Nat}{k l:Nat}(hk:k<p.size)(hl:l<=k)(i:Nat):(A9 p k<|k-l).getD i 0=if i=l then p.getD k 0 else if l<i/\i<=k then p.getD (i-1) 0 else p.getD i 0:=by
 have e:=getElem?_bubble hk (k-l) (by lia) i;have e2:k-(k-l)=l:=by lia
 rw[e2]at e;by_cases h:i=l
 .rw[if_pos h]at e⊢;exact DU e
 .rw[if_neg h]at e⊢;by_cases h2:l<i/\i<=k
  .rw[if_pos h2]at e⊢;exact DU e
  .rw[if_neg h2]at e⊢;exact DU e
theorem am7(o:Ord lt){N:Nat}:∀(f:Nat)(p:Array Nat)(k:Nat),p.size=N->k+f<=N->Up lt p k->(ql lt<|sY f p k).size=N/\Up lt (ql lt<|sY f p k) (k+f)
 | 0,p,k,hp,hf,h=>⟨hp,h⟩
 | f+1,p,k,hp,hf,h=>by
  have e:ql lt (sY (f+1) p k)=ql lt (sY f (A9 p k<|k-ql lt (cZ p k k 0 k))<|k+1):=by show ql lt ((cZ p k k 0 k).bind _)=_;rw[vm]
  rw[e];obtain⟨l1,l2,l3⟩:=Mb o h k 0 k (by lia) (av _) (by lia) (λi z=>by lia) (λi z1 z2=>by lia);generalize ql lt (cZ p k k 0 k)=l at *;have up:Up lt (A9 p k<|k-l) (k+1):=λi j h1 h2=>by
   rw[aqf (by lia) l1,aqf (by lia) l1];by_cases ei:i=l
   .by_cases ej:j=l
    .rw[if_pos ej,if_pos ei];exact o.irr _
    .rw[if_neg ej,if_pos ei,if_pos<|by lia];exact o.asy _ _<|l3 _ (by lia)<|by lia
   .by_cases ej:j=l
    .rw[if_pos ej,if_neg ei,if_neg<|by lia];exact l2 _<|by lia
    .rw[if_neg ej,if_neg ei];split<;>split
     .exact h _ _ (by lia)<|by lia
     .exact h _ _ (by lia)<|by lia
     .lia
     .exact h _ _ (by lia)<|by lia
  have ih:=am7 o (N:=N) f (A9 p k<|k-l) (k+1) (by rw[bubble_size];exact hp) (by lia) up;have e3:k+(f+1)=k+1+f:=by lia
  rw[e3];exact ih
def ap8(o:Ord lt){N:Nat}(hN:0<N):(ql lt<|eJ N).size=N/\Up lt (ql lt<|eJ N) N:=by
 unfold eJ;rw[vm];have c:=al3 o (N:=N) (p:=List.toArray<|dt N) (by simp) hN;generalize ql lt (qG N<|List.toArray<|dt N)=r at *;obtain⟨c1,c2,c3,c4⟩:=c;split
 .have e:wA r.1 1=r.1:=by lia
  rw[e];have b:=am7 o (N:=N) (N-r.1) r.2 r.1 c1 (by lia) c4;have e2:r.1+(N-r.1)=N:=by lia
  rw[e2]at b;exact b
 .have e:r.1=N:=by lia
  rw[e]at c4;exact⟨c1,c4⟩
end
def Ge(lt:Nat->Nat->Bool)(n:Nat):(srt lt n).Perm (dt n):=by
 unfold srt;split
 .exact .refl _
 .have h:=PostT.run lt (Md (n:=n)<|by lia);simpa using h.toList
def Li{lt:Nat->Nat->Bool}(o:Ord lt)(n:Nat){i j:Nat}(h1:i<=j)(h2:j<n):lt ((srt lt n).getD j 0) ((srt lt n).getD i 0)=false:=by
 unfold srt;split
 .have e1:i=0:=by lia
  have e2:j=0:=by lia
  rw[e1,e2];exact o.irr _
 .have h:=(ap8 o (N:=n)<|by lia).2 i j h1 h2;have e:∀k,(ql lt<|eJ n).toList.getD k 0=(ql lt<|eJ n).getD k 0:=λk=>by
   rw[Array.getD_eq_getD_getElem?,bu];simp
  rw[e,e];exact h
end L4
namespace L3
open PySem PySem.Spec PyProof.Rows L2 L4
noncomputable def ltG(g:aA->Int)(vs:Z9 aA)(i j:Nat):Bool:=decide<|g (vs.getD i aA.none)<g (vs.getD j aA.none)
def asx(g:aA->Int)(vs:Z9 aA):L4.Ord (ltG g vs):=
 ⟨λa b h=>decide_eq_false<|by have:=of_decide_eq_true h;lia,λa b c h1 h2=>decide_eq_false<|by have:=of_decide_eq_false h1;have:=of_decide_eq_false h2;lia⟩
def ajf(vs:Z9 aA):((dt vs.length).map λi=>vs.getD i aA.none)=vs:=by
 apply List.ext_getElem
 .simp
 .intro i h1 h2;simp[List.getD,h2]
def alh(g:aA->Int)(vs:Z9 aA):((L4.srt (ltG g vs) vs.length).map λi=>vs.getD i aA.none).Perm vs:=by have h:=(L4.Ge (ltG g vs) vs.length).map λi=>vs.getD i aA.none;rw[ajf]at h;exact h
def arq(g:aA->Int)(vs:Z9 aA):((L4.srt (ltG g vs) vs.length).map λi=>vs.getD i aA.none).Pairwise (λx y=>g x<=g y):=by have hl:(L4.srt (ltG g vs) vs.length).length=vs.length:=L4.vd _ _;rw[gb,gw];intro i j hi hj gW;have h:=L4.Li (asx g vs) vs.length (cb gW) (by lia);rw[bu,bu,ae hi,ae hj]at h;have:=of_decide_eq_false h;simp only[Option.getD_some]at this;lia
def anv{vs:Z9 aA}{i:Nat}(h:i<vs.length):vs.getD i aA.none∈vs:=by rw[bu,ae h];exact fz h
section
variable{prog:aI}{w:aJ}{A:Around}{E:aA->aB->Prop}{s:aB}
def ac3{a:aF}{vs:Z9 aA}{n:Nat}{κ:bB}{g:aA->Int}{P:PySem.Fin->aB->Prop}(ho:s.heap.get? a=some (bI "list" vs.toArray n))(hz:vs.length<64)
  (hk:2<=vs.length->∀s':aB,(∀b o,b≠a->s.heap.get? b=some o->s'.heap.get? b=some o)->
   (∀(Q:bB->aB->Prop)(E:aA->aB->Prop),Q κ s'->wpAny (aG prog w) A (fV vs.toArray) Q E s')/\
   ∀x y,x∈vs->y∈vs->∀(Q:Bool->aB->Prop),Q (decide<|g x<g y) s'->wpAny (aG prog w) A (mY κ x y) Q (λ_ _=>False) s')
  (h:∀us:Z9 aA,us.Perm vs->us.Pairwise (λx y=>g x<=g y)->P (.done<|.ret .none) {s with heap:=sortedHeap s.heap a vs us.toArray}) :
  wpAny (aG prog w) A (Builtin.«list.sort» ⟨[.ref a],[]⟩) P E s:=
 aec (lt:=ltG g vs) ho hz (λh2 s' k=>⟨(hk h2 s' k).1,λi j hi hj Q q=>(hk h2 s' k).2 _ _ (anv hi) (anv hj) Q q⟩) (h _ (alh g vs)<|arq g vs)
end
end L3
namespace L3
open PySem PySem.Spec PyProof.Rows L2
theorem aln{α β:Type}(g:α->β){us vs:List β}(p:us.Perm vs):∀{l:List α},l.map g=vs->∃l':List α,l'.Perm l/\l'.map g=us:=by
 induction p with
 | nil=>intro l e;exact⟨l,iy _,e⟩
 | cons x p ih=>
  intro l e
  match l,e with
  | a::l,e=>
   rw[cy]at e;obtain⟨e1,e2⟩:=List.cons.inj e;obtain⟨l',p1,e3⟩:=ih e2;exact⟨a::l',p1.cons a,by rw[cy,e1,e3]⟩
 | swap x y r=>
  intro l e
  match l,e with
  | a::b::l,e=>
   rw[cy,cy]at e;obtain⟨e1,e'⟩:=List.cons.inj e;obtain⟨e2,e3⟩:=List.cons.inj e';exact⟨b::a::l,List.Perm.swap _ _ _,by rw[cy,cy,e1,e2,e3]⟩
 | trans p q ih1 ih2=>
  intro l e;obtain⟨l1,p1,e1⟩:=ih2 e;obtain⟨l2,p2,e2⟩:=ih1 e1;exact⟨l2,p2.trans p1,e2⟩
theorem abh{α:Type}{p q:α->Bool}:∀{l:List α},(∀e∈l,p e=true->q e=true)->(∃e∈l,q e=true/\p e=false)->l.countP p<l.countP q
 | [],_,⟨e,he,_⟩=>by simp at he
 | a::l,h,⟨e,he,h1,h2⟩=>by
  have hl:∀e∈l,p e=true->q e=true:=λe he=>h e<|ak _ he;have mono:l.countP p<=l.countP q:=List.countP_mono_left hl;rcases ap.mp he with rfl|he
  .rw[List.countP_cons_of_neg (by simp[h2]),List.countP_cons_of_pos h1];lia
  .have ih:=abh hl ⟨e,he,h1,h2⟩;cases hp:p a with
   | true=>rw[List.countP_cons_of_pos hp,List.countP_cons_of_pos<|h a aj hp];lia
   | false=>
    rw[List.countP_cons_of_neg (by simp[hp])];have:=List.countP_le_length (p:=q) (l:=l);cases hq:q a with
    | true=>rw[List.countP_cons_of_pos hq];lia
    | false=>rw[List.countP_cons_of_neg (by simp[hq])];exact ih
structure Af(lt:Z8->Z8->Bool)(ds:Z9 Z8):Prop where
 asy:∀x∈ds,∀y∈ds,lt x y=true->lt y x=false
 tr:∀x∈ds,∀y∈ds,∀z∈ds,lt y x=false->lt z y=false->lt z x=false
noncomputable def Bj(lt:Z8->Z8->Bool)(ds:Z9 Z8)(d:Z8):Int:=((ds.countP λe=>lt e d:Nat):Int)
theorem aly{lt:Z8->Z8->Bool}{ds:Z9 Z8}(o:Af lt ds){d e:Z8}(hd:d∈ds)(he:e∈ds):decide (Bj lt ds d<Bj lt ds e)=lt d e:=by
 have irr:∀x∈ds,lt x x=false:=λx hx=>by
  cases q:lt x x with
  | false=>rfl
  | true=>have:=o.asy x hx x hx q;rw[q]at this;exact this
 unfold Bj;cases h:lt d e with
 | true=>
  refine decide_eq_true ?_;have:=abh (p:=λz=>lt z d) (q:=λz=>lt z e) (l:=ds) (λz hz h1=>?_) ⟨d,hd,h,irr d hd⟩
  .lia
  .show lt z e=true;cases q:lt z e with
   | true=>rfl
   | false=>rw[o.tr d hd e he z hz (o.asy d hd e he h) q]at h1;exact h1
 | false=>
  refine decide_eq_false ?_;have:=List.countP_mono_left (p:=λz=>lt z e) (q:=λz=>lt z d) (l:=ds) λz hz h1=>?_
  .lia
  .show lt z d=true;cases q:lt z d with
   | true=>rfl
   | false=>rw[o.tr e he d hd z hz h q]at h1;exact h1
open Classical in
def aj4{h:Heap}{lt:Z8->Z8->Bool}{os:Z9 aA}{bN:Z9 Z8}(hl:os.length=bN.length)(rd:∀(i:Nat)(v:aA)(d:Z8),os[i]?=some v->bN[i]?=some d->d.canLay0=true/\∃as,Reads h v d as)(o:Af lt bN) :
  ∃g:aA->Int,(∀(i j:Nat)(u v:aA)(d e:Z8),os[i]?=some u->bN[i]?=some d->os[j]?=some v->bN[j]?=some e->decide (g u<g v)=lt d e)/\
   ∀us:Z9 aA,us.Perm os->us.Pairwise (λx y=>g x<=g y)->∃T:Z9 (Z8×aA),T.map (·.2)=us/\(T.map (·.1)).Perm bN/\(T.map (·.1)).Pairwise (λx y=>lt y x=false)/\∀t∈T,∃i:Nat,bN[i]?=some t.1/\os[i]?=some t.2:=by
 obtain⟨g,hg⟩:∃g:aA->Int,∀(i:Nat)(d:Z8)(u:aA),bN[i]?=some d->os[i]?=some u->g u=Bj lt bN d:=by refine⟨λu=>if h:∃d,∃as,Reads h u d as/\d∈bN then Bj lt bN h.choose else 0,λi d u h1 h2=>?_⟩;obtain⟨lay,as,r⟩:=rd i u d h2 h1;have hx:∃d,∃as,Reads h u d as/\d∈bN:=(lv d as ⟨r,ah h1⟩);show(if h:∃d,∃as,Reads h u d as/\d∈bN then Bj lt bN h.choose else 0)=_;rw[dif_pos hx];obtain⟨bs,rb,_⟩:=hx.choose_spec;rw[SeqAt.Reads.unique d hx.choose u as bs lay r rb]
 refine⟨g,λi j u v d e u1 d1 v1 e1=>?_,λus p up=>?_⟩
 .rw[hg i d u d1 u1,hg j e v e1 v1];exact aly o (ah d1)<|ah e1
 .have xZ:(bN.zip os).map (λt=>t.2)=os:=List.map_snd_zip (by lia);have first:(bN.zip os).map (λt=>t.1)=bN:=List.map_fst_zip<|by lia
  obtain⟨T,tp,te⟩:=aln (λt:Z8×aA=>t.2) p xZ;have tm:∀t∈T,∃i:Nat,bN[i]?=some t.1/\os[i]?=some t.2:=λt ht=>by obtain⟨i,hi⟩:=fk.mp<|tp.mem_iff.mp ht;obtain⟨a1,a2⟩:=List.getElem?_zip_eq_some.mp hi;exact⟨i,a1,a2⟩
  refine⟨T,te,?_,?_,tm⟩
  .have:=tp.map λt=>t.1;rw[first]at this;exact this
  .rw[gb];rw[<-te,gb]at up;refine ie (λ{a b} ha hb kS=>?_) up;obtain⟨i,a1,a3⟩:=tm a ha;obtain⟨j,b1,b3⟩:=tm b hb;rw[hg i _ _ a1 a3,hg j _ _ b1 b3]at kS;rw[<-aly o (ah b1) (ah a1)];exact decide_eq_false<|by lia
section
variable{prog:aI}{w:aJ}{A:Around}{E:aA->aB->Prop}{s:aB}
def aix{v:aA}{κ:bB}{Q:aA->aB->Prop}{P:Z9 aA->Z9 Z8->Prop}(hP:∀os bN,P os bN->os.length<64)
  (mE:∀(Q:Z9 aA->aB->Prop)(E:aA->aB->Prop),(∀os bN h1 tk dr,P os bN->(∀b o,s.heap.get? b=some o->h1.get? b=some o)->Q os {s with heap:=h1,toks:=tk,drawn:=dr})->wpAny (aG prog w) A.in1 (jE v) Q E s)
  (h:∀os bN,P os bN->∃g:aA->Int,(2<=os.length->∀s':aB,(∀b o,s.heap.get? b=some o->s'.heap.get? b=some o)->
   (∀(Q:bB->aB->Prop)(E:aA->aB->Prop),Q κ s'->wpAny (aG prog w) A.in1.in1 (fV os.toArray) Q E s')/\
   ∀x y,x∈os->y∈os->∀(Q:Bool->aB->Prop),Q (decide<|g x<g y) s'->wpAny (aG prog w) A.in1.in1 (mY κ x y) Q (λ_ _=>False) s')/\
   ∀(us:Z9 aA)(h1 h2:Heap)(tk:Nat) dr e,us.Perm os->us.Pairwise (λx y=>g x<=g y)->(∀b o,s.heap.get? b=some o->h1.get? b=some o)->(∀b o,h1.get? b=some o->h2.get? b=some o)->h2.get? h1.objs.size=some (bI "list" us.toArray e)->Q (.ref h1.objs.size) {s with heap:=h2,toks:=tk,drawn:=dr}) :
  wpAny (aG prog w) A (call (.builtin "sorted") [v]) Q E s:=by
 refine Calls.call_function_entry kind_sorted plain_sorted entry_sorted (args_sorted1 _) ?_;unfold Builtin.«sorted»;refine ac (m:=checkCount "sorted" 1 1 _)<|ao<|ac<|mE _ _ λos bN h1 tk dr hp k1=>?_;obtain⟨g,hk,h⟩:=h os bN hp;have jM:=hP os bN hp;refine ac (oN ?_<|by rw[dw];lia);have yZ:(h1.push<|bI "list" os.toArray 0).get? h1.objs.size=some (bI "list" os.toArray 0):=ba _ rfl;have keep:∀b o,h1.get? b=some o->(h1.push<|bI "list" os.toArray 0).get? b=some o:=λb o q=>ai _ q;refine(?_:wpAny _ _ _ _ _ {s with heap:=h1.push<|bI "list" os.toArray 0,toks:=tk,drawn:=dr});refine ac<|db<|gz slot_list_sort ⟨_,yZ,rfl⟩ entry_list_sort ?body<|args_list_sort _
 case body=>
  refine ac3 (κ:=κ) (g:=g) yZ jM (λh2 s' k=>hk h2 s' λb o e=>k b o (ck<|bi<|k1 b o e)<|keep b o<|k1 b o e) λus u1 u2=>?_;obtain⟨e,he⟩:=sortedHeap_at (out:=us.toArray) yZ;refine⟨_,rfl,ao ⟨_,rfl,h us h1 _ tk dr e u1 u2 k1 (λb ob q=>?_) he⟩⟩;exact(sortedHeap_old (ck<|bi q)<|by rw[size_push'];exact Nat.lt_succ_of_lt<|bi q).trans (keep b ob q)
end
section
variable{X:Cx}{aE:Z9 (aF×Obj)}{σ:L2.St}{H:Hp}{s:aB}{A:Around}{E:aA->aB->Prop}
theorem afg(I:L2.Inv X aE σ H s){v:aA}{ds:Z9 Z8}{κ:bB}{lt:Z8->Z8->Bool}{Q:VK}{P:Z9 aA->Z9 Z8->Prop}
  (hP:∀os bN,P os bN->os.length<64/\os.length=bN.length/\bN.Perm ds/\∀(i:Nat) u d,os[i]?=some u->bN[i]?=some d->∃x,RelV x u/\Rep H d x)
  (mE:∀(Q:Z9 aA->aB->Prop)(E:aA->aB->Prop),(∀os bN h1 tk dr,P os bN->(∀b o,s.heap.get? b=some o->h1.get? b=some o)->Q os {s with heap:=h1,toks:=tk,drawn:=dr})->wpAny (aG X.prog X.w) A.in1 (jE v) Q E s)
  (o:Af lt ds)
  (hk:∀os bN,P os bN->2<=os.length->∀s':aB,(∀b o,s.heap.get? b=some o->s'.heap.get? b=some o)->∀(Q:bB->aB->Prop)(E:aA->aB->Prop),Q κ s'->wpAny (aG X.prog X.w) A.in1.in1 (fV os.toArray) Q E s')
  (hc:∀os bN,P os bN->∀s':aB,(∀b o,s.heap.get? b=some o->s'.heap.get? b=some o)->∀(i j:Nat)(d e:Z8)(u v:aA),os[i]?=some u->bN[i]?=some d->os[j]?=some v->bN[j]?=some e->∀(Q:Bool->aB->Prop),Q (lt d e) s'->wpAny (aG X.prog X.w) A.in1.in1 (mY κ u v) Q (λ_ _=>False) s')
  (q:∀l ys es,H l=none->es.Perm ds->es.Pairwise (λx y=>lt y x=false)->RepAll (upd H l<|.lst ys) es ys->Q (.ref l) (upd H l<|.lst ys)) :
  wpAny (aG X.prog X.w) A (call (.builtin "sorted") [v]) (EP X aE σ Q) E s:=by
 refine aix (κ:=κ) (λos bN h=>(hP os bN h).1) mE λos bN hp=>?_;obtain⟨hz,jM,pd,lG⟩:=hP os bN hp;have sub:∀d∈bN,d∈ds:=λd hd=>pd.mem_iff.mp hd;obtain⟨g,g1,g2⟩:=aj4 (h:=s.heap) jM (λi v d h1 h2=>by obtain⟨x,e1,e2⟩:=lG i v d h1 h2;exact⟨e2.lay,e2.reads I e1⟩) (lt:=lt) ⟨λx hx y hy=>o.asy x (sub x hx) y<|sub y hy,λx hx y hy z hz=>o.tr x (sub x hx) y (sub y hy) z<|sub z hz⟩
 refine⟨g,λh2 s' k=>⟨hk os bN hp h2 s' k,λx y hx hy Q' hq=>?_⟩,λus h1 h2 tk dr e u1 u2 B8 B7 hg3=>?_⟩
 .obtain⟨i,hi⟩:=fk.mp hx;obtain⟨j,hj⟩:=fk.mp hy;have di:=ae (show i<bN.length by have:=(ar.mp hi).1;lia);have dj:=ae (show j<bN.length by have:=(ar.mp hj).1;lia);rw[g1 i j x y _ _ hi di hj dj]at hq;exact hc os bN hp s' k i j _ _ x y hi di hj dj Q' hq
 .obtain⟨T,te,tp,tu,tm⟩:=g2 us u1 u2;have tr:∀t∈T,∃x,RelV x t.2/\Rep H t.1 x:=λt ht=>by
   obtain⟨i,a1,a2⟩:=tm t ht;exact lG i _ _ a2 a1
  have HY:=(tp.trans pd).length_eq;have fQ:=pd.length_eq;obtain⟨zs,v1,v2⟩:∃zs,Vals zs us/\RepAll H (T.map (·.1)) zs:=by
   rw[<-te];clear te tp tu tm HY;induction T with
   | nil=>exact⟨[],.nil,rfl⟩
   | cons t T ih=>
    obtain⟨x,x1,x2⟩:=tr t aj;obtain⟨ys,y1,y2⟩:=ih λt ht=>tr t<|ak _ ht;exact(m8 (x::ys) (.cons x1 y1) x ys ⟨rfl,x2,y2⟩)
  have I0:L2.Inv X aE σ H {s with drawn:=dr}:=⟨I.ok,I.os,I.bare,I.base,I.loc,I.cell,I.free,I.freeC,I.pin,I.hok,I.len⟩;have I3:L2.Inv X aE σ H {s with heap:=h1,toks:=tk,drawn:=dr}:=I0.kept B8;have hn:H h1.objs.size=none:=I3.hok.fresh<|av _;have aY:=v2.length;have lE:=dw;exact(lv (.ref h1.objs.size) _ ⟨I3.laid (t':=tk) (o:=.lst zs) B7 (av _) ⟨by lia,(lv _ e ⟨v1,hg3⟩)⟩,rfl,q _ zs (T.map (·.1)) hn (tp.trans pd) tu<|v2.same λb o q=>by rw[lh (mq q hn)];exact q⟩)
def ar0{ds:Z9 Z8}{ys:Z9 V}{its:Z9 aA}(dJ:RepAll H ds ys)(rv:Vals ys its)(i:Nat)(u:aA)(d:Z8)(h1:its[i]?=some u)(h2:ds[i]?=some d):∃x,RelV x u/\Rep H d x:=by obtain⟨x,e1,e2⟩:=dJ.get h2;obtain⟨u',e3,e4⟩:=rv.get e1;rw[h1]at e3;cases e3;exact⟨x,e4,e2⟩
def acx(I:L2.Inv X aE σ H s){v:aA}{ds:Z9 Z8}{ys:Z9 V}{its:Z9 aA}{κ:bB}{lt:Z8->Z8->Bool}{Q:VK}(dJ:RepAll H ds ys)(rv:Vals ys its)(hz:ys.length<64)
  (mE:∀(Q:Z9 aA->aB->Prop)(E:aA->aB->Prop),(∀h1 tk,(∀b o,s.heap.get? b=some o->h1.get? b=some o)->Q its {s with heap:=h1,toks:=tk})->wpAny (aG X.prog X.w) A.in1 (jE v) Q E s)
  (o:Af lt ds)
  (hk:2<=its.length->∀s':aB,(∀b o,s.heap.get? b=some o->s'.heap.get? b=some o)->∀(Q:bB->aB->Prop)(E:aA->aB->Prop),Q κ s'->wpAny (aG X.prog X.w) A.in1.in1 (fV its.toArray) Q E s')
  (hc:∀s':aB,(∀b o,s.heap.get? b=some o->s'.heap.get? b=some o)->∀(i j:Nat)(d e:Z8)(u v:aA),its[i]?=some u->ds[i]?=some d->its[j]?=some v->ds[j]?=some e->∀(Q:Bool->aB->Prop),Q (lt d e) s'->wpAny (aG X.prog X.w) A.in1.in1 (mY κ u v) Q (λ_ _=>False) s')
  (q:∀l ys es,H l=none->es.Perm ds->es.Pairwise (λx y=>lt y x=false)->RepAll (upd H l<|.lst ys) es ys->Q (.ref l) (upd H l<|.lst ys)) :
  wpAny (aG X.prog X.w) A (call (.builtin "sorted") [v]) (EP X aE σ Q) E s:=by
 have l1:ys.length=ds.length:=dJ.length;have l2:ys.length=its.length:=rv.length;refine afg (κ:=κ) (P:=λos bN=>os=its/\bN=ds) I ?_ (λQ E h=>mE Q E λh1 tk k=>h its ds h1 tk s.drawn ⟨rfl,rfl⟩ k) o ?_ ?_ q
 .rintro _ _ ⟨rfl,rfl⟩;exact⟨by lia,by lia,.refl _,ar0 dJ rv⟩
 .rintro _ _ ⟨rfl,rfl⟩;exact hk
 .rintro _ _ ⟨rfl,rfl⟩;exact hc
def amh{p:aF}{its:Z9 aA}(pl:s.heap.IsList p its.toArray)(hz:its.length<=aC)(Q:Z9 aA->aB->Prop)(E:aA->aB->Prop)(h:∀h1 tk,(∀b o,s.heap.get? b=some o->h1.get? b=some o)->Q its {s with heap:=h1,toks:=tk}):wpAny (aG X.prog X.w) A.in1 (jE<|.ref p) Q E s:=
 collect_list pl (h _ _ λb o q=>(c6 _ _<|Ne.symm<|ck<|bi q).trans (ai _ q)) hz
end
noncomputable def ltR(x y:Z8):Bool:=qt (vk x)<|vk y
def apm{ks:Z9 Bool}{ds:Z9 Z8}(h:Rows ks ds):Af ltR ds:=by
 have iV:∀d∈ds,Row (true::ks) (vk d):=λd hd=>by obtain⟨r,e,hr⟩:=h d hd;rw[e];exact hr
 exact⟨λx hx y hy q=>DL (iV x hx) (iV y hy) q,λx hx y hy z hz q1 q2=>DF (iV x hx) (iV y hy) (iV z hz) q1 q2⟩
section
variable{X:Cx}
def agn{aE:Z9 (aF×Obj)}{s:aB}{σ:L2.St}{H:Hp}{A:Around}{E:aA->aB->Prop}{v:aA}{ks:Z9 Bool}{ds:Z9 Z8}{xs:Z9 V}{its:Z9 aA}{Q:VK}(I:L2.Inv X aE σ H s)(dJ:RepAll H ds xs)(rv:Vals xs its)(dI:Rows ks ds)(hz:xs.length<64)
  (mE:∀(Q:Z9 aA->aB->Prop)(E:aA->aB->Prop),(∀h1 tk,(∀b o,s.heap.get? b=some o->h1.get? b=some o)->Q its {s with heap:=h1,toks:=tk})->wpAny (aG X.prog X.w) A.in1 (jE v) Q E s)
  (q:∀l ys es,H l=none->es.Perm ds->es.Pairwise (λx y=>ltR y x=false)->RepAll (upd H l<|.lst ys) es ys->Q (.ref l) (upd H l<|.lst ys)) :
  wpAny (aG X.prog X.w) A (call (.builtin "sorted") [v]) (EP X aE σ Q) E s:=by
 have l1:xs.length=ds.length:=dJ.length;have l2:xs.length=its.length:=rv.length;obtain⟨fs,kt,kf,ki⟩:=ail I dJ rv dI;refine acx (κ:=lJ true) (lt:=ltR) I dJ rv hz mE (apm dI) (λh2 s' k Q' E' hq=>?_) (λs' k i j d e u v ui di vj dj Q' hq=>?_) q
 .refine PySem.W.kat_kind (T:=aA.type "int") (KatTups.keeps k kt) (by lia) (λv hv=>?_) rfl hq;obtain⟨i,t,rfl⟩:=ki v hv;exact PySem.W.Looks.of_pure rfl
 .have tup:∀(i:Nat)(d:Z8)(u:aA),ds[i]?=some d->its[i]?=some u->∃a o vs n bs row,u=.ref a/\d=.tuple row/\Row (true::ks) row/\s'.heap.get? a=some o/\o.data=.seq vs n/\ReadsAll s'.heap vs.toList row bs:=λi d u hd hu=>by
   obtain⟨x,e1,e2⟩:=dJ.get hd;obtain⟨u',e3,e4⟩:=rv.get e1;rw[hu]at e3;cases e3;obtain⟨row,e5,nX⟩:=dI _<|ah hd;obtain⟨a,o,vs,n,bs,_,_,rfl,g1,_,g3,g4,_⟩:=are I e2 e4 e5 nX;exact(nj a o vs n bs ⟨row,rfl,e5,nX,k _ _ g1,g3,ReadsAll.keeps k g4⟩)
  obtain⟨a,o,vs,n,as1,row,rfl,rfl,e3,e4,e5,e6⟩:=tup i d u di ui;obtain⟨a',o',Ei,n',as2,BM,rfl,rfl,f3,f4,f5,f6⟩:=tup j e v dj vj;have jL:Q' (qt row BM) s':=hq;have z1:vs.size=ks.length+1:=by have q1:=SeqAt.ReadsAll.length _ _ _ e6;have q2:=e3.len;simp at q1 q2;lia
  have z2:Ei.size=ks.length+1:=by have q1:=SeqAt.ReadsAll.length _ _ _ f6;have q2:=f3.len;simp at q1 q2;lia
  refine PySem.W.kat_lt e4 e5 f4 f5 ?_;rw[decide_eq_false (by lia)];exact F6 e3 f3 e6 f6 jL
def afr:qj X (.builtin "sorted") (λvs H Q=>∃p xs ds ks,vs=[.ref p]/\H p=some (.lst xs)/\RepAll H ds xs/\Rows ks ds/\ds.length<64/\
  ∀l ys es,H l=none->es.Perm ds->es.Pairwise (λx y=>ltR y x=false)->RepAll (upd H l<|.lst ys) es ys->Q (.ref l) (upd H l<|.lst ys)):=by
 intro aE s σ H xs us Q I r h;obtain⟨p,xs,ds,ks,rfl,hp,dJ,dI,oG,q⟩:=h;obtain⟨u,rfl,r1⟩:=se r;cases (show u=aA.ref p from r1);obtain⟨its,rv,pl,hz⟩:=I.list<|SqL.of (K:=X.K) hp;have l2:xs.length=its.length:=rv.length;have l1:=dJ.length;exact agn I dJ rv dI (by lia) (amh pl.isList<|by lia) q
def am6{ks:Z9 Bool}{ds es:Z9 Z8}(h:Rows ks ds)(p:es.Perm ds)(u:es.Pairwise (λx y=>ltR y x=false)):es=qp ds:=by
 refine ae3 (R:=λx y=>ltR y x=false) (p.trans (vo ds).symm) u ?_ λx hx y hy h1 h2=>?_
 .rw[gw];intro i j hi hj gW;exact ah4 h (ae hi) (ae hj)<|cb gW
 .obtain⟨r,e,hr⟩:=h x<|p.mem_iff.mp hx;obtain⟨r',e',Ct⟩:=h y<|p.mem_iff.mp hy;subst e e';have gX:qt r r'=false:=h2;have jB:qt r' r=false:=h1;rw[KR hr Ct gX jB]
def aab:qj X (.builtin "sorted") (λvs H Q=>∃p xs ds ks,vs=[.ref p]/\H p=some (.lst xs)/\RepAll H ds xs/\Rows ks ds/\ds.length<64/\
  ∀l ys,H l=none->RepAll (upd H l<|.lst ys) (qp ds) ys->Q (.ref l) (upd H l<|.lst ys)):=by
 intro aE s σ H xs us Q I r h;obtain⟨p,xs,ds,ks,rfl,hp,dJ,dI,oG,q⟩:=h;refine afr aE s σ H _ us Q I r<|lr p xs ds ks ⟨rfl,hp,dJ,dI,oG,λl ys es hl pe ue re=>?_⟩;rw[am6 dI pe ue]at re;exact q l ys hl re
end
end L3
namespace L3
open PySem
def slot_setit_next:Slot "set_iterator" "__next__" "set_iterator.__next__":=
 .of (owner:="set_iterator") (n:="__next__") (by rw[GC,vB];kernel_rfl) (by decide +kernel) (by decide +kernel) (by decide +kernel) (by first|exact .inl (by decide +kernel)|exact .inr<|by decide +kernel) (by rw[isSubtype_type];kernel_rfl)
def qr:entryFor table "set_iterator.__next__" = some Builtin.«set_iterator.__next__»:=entryFor_of_tree<|by kernel_rfl
def qy(a:aA):tM "set_iterator.__next__" ⟨[a],[]⟩:=by unfold tM;kernel_rfl
def abe:entryFor table "set.__iter__" = some Builtin.«frozenset.__iter__»:=entryFor_alias (id':="frozenset.__iter__") (by kernel_rfl) rfl (by decide +kernel)<|by kernel_rfl
theorem zk{α:Type}:∀(l:List α)(i:Nat)(h:i<l.length),(l[i]::l.eraseIdx i).Perm l
 | a::l,0,h=>iy _
 | a::l,i+1,h=>by
  have h':i<l.length:=by simpa using h
  show(l[i]::a::l.eraseIdx i).Perm (a::l);exact(List.Perm.swap _ _ _).trans ((zk l i h').cons a)
theorem ald{α:Type}(next:Nat->Nat):∀(fuel k:Nat)(left:List α)(out:Array α),left.length=fuel->((gL.go next fuel k left out).toList).Perm (out.toList++left)
 | 0,k,left,out,h=>by have:left=[]:=eu.mp h;subst this;rw[f9];exact iy _
 | fuel+1,k,left,out,h=>by unfold gL.go;have hl:next k % left.length<left.length:=Nat.mod_lt _ (by lia);rw[ae hl];dsimp only;refine(ald next fuel (k+1) _ _<|by rw[List.length_eraseIdx_of_lt hl];lia).trans ?_;rw[Array.toList_push,jk];refine List.Perm.append_left _ ?_;exact(zk _ _ hl)
def ak4{α:Type}(next:Nat->Nat)(xs:Array α):(gL next xs).toList.Perm xs.toList:=by unfold gL;have:=ald next xs.size 0 xs.toList #[] (by simp);simpa using this
section
variable{prog:aI}{w:aJ}{A:Around}{E:aA->aB->Prop}{s:aB}
def adj{src:Source}{n:Nat}{Q:Nat->aB->Prop}(hn:0<n)(h:∀i dr,i<n->Q i {s with drawn:=dr}):wpAny (aG prog w) A (choose src n) Q E s:=λΓ p hΓ=>by show n≠0/\_;exact⟨by lia,h _ _<|Nat.mod_lt _ hn⟩
theorem ad5{α:Type}:∀(n:Nat)(xs:List α)(s:aB) {Q:List α->aB->Prop},xs.length=n->(∀ys dr,ys.Perm xs->Q ys {s with drawn:=dr})->wpAny (aG prog w) A (Fs n xs) Q E s
 | 0,xs,s,Q,h,q=>by have:xs=[]:=eu.mp h;subst this;unfold Fs;exact ao (q [] s.drawn<|iy _)
 | n+1,[],s,Q,h,q=>by simp at h
 | n+1,x::xs,s,Q,h,q=>by unfold Fs;refine ac<|adj (by simp) λi dr hi=>?_;rw[ae hi];dsimp only;refine ac<|ad5 n _ {s with drawn:=dr} (by rw[List.length_eraseIdx_of_lt hi];lia) λys dr' p=>?_;exact ao<|q _ dr'<|(List.Perm.cons _ p).trans (zk _ _ hi)
noncomputable def xx(first:aA)(i:Nat)(a:aF)(n ep:Nat):Obj:={cls:=.type "set_iterator",data:=.fields #[first,.int i 0,.ref a,.int n 0,.int ep 0]}
def ahs{I a:aF}{slot slot' i ep:Nat}{o:Obj}{es:Array (Int×aA)}{t:SetTable}{x:aA}{Q:Option aA->aB->Prop}(fZ:s.heap.get? I=some (xx (.int slot 0) i a es.size ep))(ho:s.heap.get? a=some o)(hd:o.data=.set es ep t)(hf:t.fits es.size=true)
  (lV:∀{A:Around} {E:aA->aB->Prop} {Q:Option (aA×Nat)->aB->Prop},Q (some (x,slot')) s->wpAny (aG prog w) A (gI a slot i ep) Q E s)
  (hQ:∀h',h'.get? I=some (xx (.int slot' 0) (i+1) a es.size ep)->cf I s.heap h'->Q (some x) {s with heap:=h'}):wpAny (aG prog w) A (aX<|.ref I) Q E s:=by
 have hT:s.TypeIs (.ref I) "set_iterator":=⟨_,fZ,rfl⟩;unfold aX;refine ac<|bR<|gm (name:=aa "__next__") hT slot_setit_next<|gz slot_setit_next hT qr ?_<|qy _;unfold Builtin.«set_iterator.__next__» mR;simp only[List.isEmpty_nil,ij,bj,↓reduceIte,iJ,kh,bne_self_eq_false];refine ac<|ao ?_;dsimp only;refine ac<|fS fZ rfl ?_;show wpAny _ _ (mU a >>= _) _ _ _;refine ac<|cA ho hd hf ?_;rw[if_neg (by simp)];show wpAny _ _ (gI a (slot:Int).toNat (i:Int).toNat (ep:Int).toNat >>= _) _ _ _;simp only[ia];refine ac<|lV ?_;dsimp only;refine ac<|j4 fZ rfl (by show 0<5;decide) ?_;have g1:=dq (Obj.mapFields (·.setIfInBounds 0 (jX slot'))) fZ rfl;refine ac<|j4 g1 rfl (by show 1<5;decide) ?_;have g2:=dq (Obj.mapFields (·.setIfInBounds 1 (jX<|i+1))) g1 rfl;exact ao ⟨x,rfl,ao<|hQ _ g2<|(gk ..).trans (gk ..)⟩
def ak8{I a:aF}{slot i ep:Nat}{o:Obj}{es:Array (Int×aA)}{t:SetTable}{Q:Option aA->aB->Prop}(hh:A.handled=none)(fZ:s.heap.get? I=some (xx (.int slot 0) i a es.size ep))(ho:s.heap.get? a=some o)(hd:o.data=.set es ep t)(hf:t.fits es.size=true)
  (lV:∀{A:Around} {E:aA->aB->Prop} {Q:Option (aA×Nat)->aB->Prop},Q none s->wpAny (aG prog w) A (gI a slot i ep) Q E s)
  (hQ:∀h',kg I s.heap h'->Q none {s with heap:=h'}):wpAny (aG prog w) A (aX<|.ref I) Q E s:=by
 have hT:s.TypeIs (.ref I) "set_iterator":=⟨_,fZ,rfl⟩;unfold aX;refine ac<|bR<|gm (name:=aa "__next__") hT slot_setit_next<|gz slot_setit_next hT qr ?_<|qy _;unfold Builtin.«set_iterator.__next__» mR;simp only[List.isEmpty_nil,ij,bj,↓reduceIte,iJ,kh,bne_self_eq_false];refine ac<|ao ?_;dsimp only;refine ac<|fS fZ rfl ?_;show wpAny _ _ (mU a >>= _) _ _ _;refine ac<|cA ho hd hf ?_;rw[if_neg (by simp)];show wpAny _ _ (gI a (slot:Int).toNat (i:Int).toNat (ep:Int).toNat >>= _) _ _ _;simp only[ia];refine ac<|lV ?_;dsimp only;refine ac<|j4 fZ rfl (by show 2<5;decide) ?_;show wpAny _ _ (sU (.type "StopIteration") [] >>= _) _ _ _;refine ac ?_;simp only[sU,mX];refine ac (gg ?_<|by size_fits);refine ac (m:=cO _ _)<|cJ (a:=aA.none) (by first|rfl|(simp only[cO];rfl)) ?_;refine gg ?_ (by size_fits);simp only[vU];refine ac<|oO ?_;rw[show A.in1.handled=none from hh];refine ac<|ao<|vM ?_;refine ac<|cW (T:="StopIteration") (b:=true) ⟨_,ba _ rfl,rfl⟩ mZ ?_;exact ao<|hQ _<|((gk ..).extBut.push _).push _
def amx{I a tp:aF}{i ep p:Nat}{o op:Obj}{es:Array (Int×aA)}{t:SetTable}{ps:Array aA}{c:Nat}{e:Int×aA}{Q:Option aA->aB->Prop}(fZ:s.heap.get? I=some (xx (.ref tp) i a es.size ep))(ho:s.heap.get? a=some o)(hd:o.data=.set es ep t)(hf:t.fits es.size=true)
  (hp:s.heap.get? tp=some op) (Cw:op.data=.seq ps c) (Cu:ps[i]?=some (.int p 0)) (tF:es[p]?=some e)
  (hQ:∀h',h'.get? I=some (xx (.ref tp) (i+1) a es.size ep)->cf I s.heap h'->Q (some e.2) {s with heap:=h'}):wpAny (aG prog w) A (aX<|.ref I) Q E s:=by
 have hT:s.TypeIs (.ref I) "set_iterator":=⟨_,fZ,rfl⟩;unfold aX;refine ac<|bR<|gm (name:=aa "__next__") hT slot_setit_next<|gz slot_setit_next hT qr ?_<|qy _;unfold Builtin.«set_iterator.__next__» mR;simp only[List.isEmpty_nil,ij,bj,↓reduceIte,iJ,kh,bne_self_eq_false];refine ac<|ao ?_;dsimp only;refine ac<|fS fZ rfl ?_;show wpAny _ _ (mU a >>= _) _ _ _;refine ac<|cA ho hd hf ?_;rw[if_neg (by simp)];show wpAny _ _ (gJ (.ref tp) >>= _) _ _ _;refine ac<|jp hp Cw ?_;dsimp only;simp only[ia,Cu];refine ac ?_;unfold setNextDrawn;refine ac<|gn ho hd hf ?_;dsimp only;rw[if_neg (by simp)];simp only[ia,tF];refine ao ?_;refine ac<|j4 fZ rfl (by show 1<5;decide) ?_;have g2:=dq (Obj.mapFields (·.setIfInBounds 1 (jX<|i+1))) fZ rfl;exact ao ⟨e.2,rfl,ao<|hQ _ g2<|gk ..⟩
def aov{I a tp:aF}{i ep:Nat}{o op:Obj}{es:Array (Int×aA)}{t:SetTable}{ps:Array aA}{c:Nat}{Q:Option aA->aB->Prop}(hh:A.handled=none)(fZ:s.heap.get? I=some (xx (.ref tp) i a es.size ep))(ho:s.heap.get? a=some o)(hd:o.data=.set es ep t)(hf:t.fits es.size=true)
  (hp:s.heap.get? tp=some op) (Cw:op.data=.seq ps c) (Cu:ps[i]?=none)
  (hQ:∀h',kg I s.heap h'->Q none {s with heap:=h'}):wpAny (aG prog w) A (aX<|.ref I) Q E s:=by
 have hT:s.TypeIs (.ref I) "set_iterator":=⟨_,fZ,rfl⟩;unfold aX;refine ac<|bR<|gm (name:=aa "__next__") hT slot_setit_next<|gz slot_setit_next hT qr ?_<|qy _;unfold Builtin.«set_iterator.__next__» mR;simp only[List.isEmpty_nil,ij,bj,↓reduceIte,iJ,kh,bne_self_eq_false];refine ac<|ao ?_;dsimp only;refine ac<|fS fZ rfl ?_;show wpAny _ _ (mU a >>= _) _ _ _;refine ac<|cA ho hd hf ?_;rw[if_neg (by simp)];show wpAny _ _ (gJ (.ref tp) >>= _) _ _ _;refine ac<|jp hp Cw ?_;dsimp only;simp only[ia,Cu];refine ac<|j4 fZ rfl (by show 0<5;decide) ?_;have g1:=dq (Obj.mapFields (·.setIfInBounds 0 (jX 0))) fZ rfl;refine ac<|j4 g1 rfl (by show 2<5;decide) ?_;show wpAny _ _ (sU (.type "StopIteration") [] >>= _) _ _ _;refine ac ?_;simp only[sU,mX];refine ac (gg ?_<|by size_fits);refine ac (m:=cO _ _)<|cJ (a:=aA.none) (by first|rfl|(simp only[cO];rfl)) ?_;refine gg ?_ (by size_fits);simp only[vU];refine ac<|oO ?_;rw[show A.in1.handled=none from hh];refine ac<|ao<|vM ?_;refine ac<|cW (T:="StopIteration") (b:=true) ⟨_,ba _ rfl,rfl⟩ mZ ?_;exact ao<|hQ _<|(((gk ..).trans (gk ..)).extBut.push _).push _
def zt{a:aF}{slot given ep:Nat}{o:Obj}{es:Array (Int×aA)}{t:SetTable}{Q:Option (aA×Nat)->aB->Prop}(hb:byT w=true)(ho:s.heap.get? a=some o)(hd:o.data=.set es ep t)(hf:t.fits es.size=true)
  (h:Q (((gL (w.params.setOrder a ep) es)[given]?).map λe=>(e.2,slot)) s):wpAny (aG prog w) A (gI a slot given ep) Q E s:=by
 have dH:w.params.followText "set-order" = true:=hb;unfold gI;refine ac<|gn ho hd hf ?_;dsimp only;unfold mT;refine ac<|ac<|bW<|ao ?_;show wpAny _ _ (if w.params.followText "set-order" = true then _ else _) _ _ _;rw[if_pos dH];rw[if_neg (by simp)];refine ac ?_;unfold setWalk;refine ac<|gn ho hd hf ?_;dsimp only;unfold mT;refine ac<|ac<|bW<|ao ?_;show wpAny _ _ (if w.params.followText "set-order" = true then _ else _) _ _ _;rw[if_pos dH];refine ac<|bW<|ao ?_;exact ao h
def yi{a:aF}{slot given ep:Nat}{o:Obj}{es:Array (Int×aA)}{t:SetTable}{Q:Option (aA×Nat)->aB->Prop}(hb:byT w=false)(bZ:t.led=true)(hdr:(!t.plain&&decide (es.size>1))=false)(ho:s.heap.get? a=some o)(hd:o.data=.set es ep t)(hf:t.fits es.size=true)
  (h:Q (match es[SetTable.below t.place slot]?,t.place[SetTable.below t.place slot]? with|some (_,x),some j=>some (x,j+1)|_,_=>none) s):wpAny (aG prog w) A (gI a slot given ep) Q E s:=by
 have dH:w.params.followText "set-order" = false:=hb;unfold gI;refine ac<|gn ho hd hf ?_;dsimp only;unfold mT;refine ac<|ac<|bW<|ao ?_;show wpAny _ _ (if w.params.followText "set-order" = true then _ else _) _ _ _;rw[if_neg (by rw[dH];exact am)];show wpAny _ _ (if (!t.plain&&decide (es.size>1))=true then _ else _) _ _ _;rw[hdr,if_neg am];refine ac ?_;show wpAny _ _ (if (!t.led && !es.isEmpty)=true then _ else _) _ _ _;rw[bZ,if_neg<|by simp];refine ao ?_;exact ao h
end
def ajn{xs:Array Nat}(h:xs.toList.Pairwise (· < ·)):SetTable.below xs 0=0:=by
 obtain⟨a,b,c⟩:=ww h 0;apply dg;intro hn;have h0:0<xs.size:=by lia
 have:=b 0 xs[0] (by lia) (by simp[h0]);lia
def ajh{xs:Array Nat}(h:xs.toList.Pairwise (· < ·)){i j:Nat}(hi:xs[i]?=some j):SetTable.below xs (j+1)=i+1:=by
 obtain⟨a,b,c⟩:=ww h<|j+1;have hl:=(cz.mp hi).1;by_cases q:SetTable.below xs (j+1)<=i
 .have:=c i j q hi;lia
 by_cases q2:i+1<SetTable.below xs (j+1)
 .have fK:i+1<xs.size:=by lia
  have e:xs[i+1]?=some xs[i+1]:=by simp[fK]
  have h1:=b (i+1) _ q2 e;have h2:=FV h hi e (by lia);lia
 .lia
def WalkAt(w:aJ)(a I:aF)(es:Array (Int×aA))(ep:Nat)(t:SetTable)(os:Z9 aA)(i:Nat)(h:Heap):Prop:=
 (∃o,h.get? a=some o/\o.cls=.type "set"/\o.data=.set es ep t)/\
 ((byT w=true/\os=(gL (w.params.setOrder a ep) es).toList.map (·.2)/\∃slot,h.get? I=some (xx (.int (slot:Nat) 0) i a es.size ep))\/
  (byT w=false/\(!t.plain&&decide (es.size>1))=false/\os=es.toList.map (·.2)/\∃slot,h.get? I=some (xx (.int (slot:Nat) 0) i a es.size ep)/\SetTable.below t.place slot=i)\/
  (∃tp op c,∃ord:Z9 Nat,h.get? I=some (xx (.ref tp) i a es.size ep)/\h.get? tp=some op/\op.cls=.type "tuple"/\op.data=.seq (ord.map λ(p:Nat)=>aA.int (p:Int) 0).toArray c/\os.length=ord.length/\∀(k:Nat) p,ord[k]?=some p->∃e,es[p]?=some e/\os[k]?=some e.2))
section
variable{prog:aI}{w:aJ}{A:Around}{E:aA->aB->Prop}{s:aB}{a I:aF}{es:Array (Int×aA)}{ep:Nat}{t:SetTable}{os:Z9 aA}{i:Nat}
def WalkAt.keep{h h':Heap}(x:WalkAt w a I es ep t os i h)(k:∀b o,h.get? b=some o->(o.cls=.type "set"\/o.cls=.type "set_iterator"\/o.cls=.type "tuple")->h'.get? b=some o):WalkAt w a I es ep t os i h':=by
 obtain⟨⟨o,h1,h2,h3⟩,hm⟩:=x;refine⟨⟨o,k _ _ h1<|.inl h2,h2,h3⟩,?_⟩;rcases hm with ⟨b1,b2,slot,b3⟩|⟨b1,b2,b3,slot,b4,b5⟩|⟨tp,op,c,ord,b1,b2,b3,b4,b5,b6⟩
 .exact .inl ⟨b1,b2,slot,k _ _ b3<|.inr<|.inl rfl⟩
 .exact .inr<|.inl ⟨b1,b2,b3,slot,k _ _ b4<|.inr<|.inl rfl,b5⟩
 .exact .inr<|.inr<|lr tp op c ord ⟨k _ _ b1<|.inr<|.inl rfl,k _ _ b2<|.inr<|.inr b3,b3,b4,b5,b6⟩
def al8{x:aA}{Q:Option aA->aB->Prop}(ok:TOk t es)(bZ:t.led = !byT w)(hw:WalkAt w a I es ep t os i s.heap)(hx:os[i]?=some x)
  (hQ:∀h',WalkAt w a I es ep t os (i+1) h'->cf I s.heap h'->Q (some x) {s with heap:=h'}):wpAny (aG prog w) A (aX<|.ref I) Q E s:=by
 obtain⟨⟨o,h1,h2,h3⟩,hm⟩:=hw;have qE:∀{h':Heap} {fo:Obj},s.heap.get? I=some fo->fo.cls=.type "set_iterator"->cf I s.heap h'->h'.get? a=some o:=λ{h' fo} hi hc sb=>by rw[sb.2 a (λe=>by subst e;rw[h1]at hi;cases hi;rw[h2]at hc;exact absurd hc<|by decide)];exact h1
 rcases hm with ⟨b1,b2,slot,b3⟩|⟨b1,b2,b3,slot,b4,b5⟩|⟨tp,op,c,ord,b1,b2,b3,b4,b5,b6⟩
 .subst b2;rw[au,b8]at hx;obtain⟨e,he,rfl⟩:=bn.mp hx;refine ahs (slot':=slot) b3 h1 h3 ok.fits (λq=>zt b1 h1 h3 ok.fits<|by rw[he];exact q) λh' g sb=>?_;exact hQ h' ⟨⟨o,qE b3 rfl sb,h2,h3⟩,.inl ⟨b1,rfl,slot,g⟩⟩ sb
 .subst b3;rw[au,b8]at hx;obtain⟨e,he,rfl⟩:=bn.mp hx;have oX:=(cz.mp he).1;have fQ:t.place[i]?=some (t.place[i]'(by rw[ok.sz];exact oX)):=b7 _;have hl:t.led=true:=by rw[bZ,b1];rfl
  obtain⟨eh,ev⟩:=e;refine ahs (slot':=t.place[i]'(by rw[ok.sz];exact oX)+1) b4 h1 h3 ok.fits (λq=>yi b1 hl b2 h1 h3 ok.fits<|by rw[b5,he,fQ];exact q) λh' g sb=>?_;exact hQ h' ⟨⟨o,qE b4 rfl sb,h2,h3⟩,.inr<|.inl ⟨b1,b2,rfl,_,g,ajh ok.rise fQ⟩⟩ sb
 .have oX:=(ar.mp hx).1;have hio:ord[i]?=some (ord[i]'(by lia)):=ae _;obtain⟨e,e1,e2⟩:=b6 i _ hio;rw[hx]at e2;cases e2;refine amx b1 h1 h3 ok.fits b2 b4 (by rw[jo,au,hio];rfl) e1 λh' g sb=>?_;have nt:tp≠I:=λe=>by subst e;rw[b2]at b1;cases b1;exact absurd b3<|by show ¬(aA.type "set_iterator" = aA.type "tuple");decide
  exact hQ h' ⟨⟨o,qE b1 rfl sb,h2,h3⟩,.inr<|.inr<|lr tp op c ord ⟨g,by rw[sb.2 tp nt];exact b2,b3,b4,b5,b6⟩⟩ sb
def aoy{Q:Option aA->aB->Prop}(hh:A.handled=none)(ok:TOk t es)(bZ:t.led = !byT w)(hw:WalkAt w a I es ep t os i s.heap)(hx:os.length<=i)
  (hQ:∀h',kg I s.heap h'->Q none {s with heap:=h'}):wpAny (aG prog w) A (aX<|.ref I) Q E s:=by
 obtain⟨⟨o,h1,h2,h3⟩,hm⟩:=hw;rcases hm with ⟨b1,b2,slot,b3⟩|⟨b1,b2,b3,slot,b4,b5⟩|⟨tp,op,c,ord,b1,b2,b3,b4,b5,b6⟩
 .subst b2;rw[af,bh]at hx;refine ak8 hh b3 h1 h3 ok.fits (λq=>zt b1 h1 h3 ok.fits<|by rw[Array.getElem?_eq_none hx];exact q) hQ
 .subst b3;rw[af,bh]at hx;have hl:t.led=true:=by rw[bZ,b1];rfl
  refine ak8 hh b4 h1 h3 ok.fits (λq=>yi b1 hl b2 h1 h3 ok.fits<|by rw[b5,Array.getElem?_eq_none hx];exact q) hQ
 .exact aov hh b1 h1 h3 ok.fits b2 b4 (by rw[jo,au,ib<|by lia];rfl) hQ
theorem aiw{o:Obj}{Q:aA->aB->Prop}(ho:s.heap.get? a=some o)(eI:o.ExactSet)(hd:o.data=.set es ep t)(ok:TOk t es)(bZ:t.led = !byT w)(hsz:es.size<=4000)
  (hQ:∀h' I os dr,os.Perm (es.toList.map (·.2))->WalkAt w a I es ep t os 0 h'->(∀b o,s.heap.get? b=some o->h'.get? b=some o)->s.heap.objs.size<=I->Q (.ref I) {s with heap:=h',drawn:=dr}):wpAny (aG prog w) A (iF<|.ref a) Q E s:=by
 have hT:s.TypeIs (.ref a) "set":=⟨o,ho,eI.1⟩;refine wpAny_pyIter_slot hT PySem.F.slot_set_iter<|gz PySem.F.slot_set_iter hT abe ?_<|PySem.F.args_set_iter_1 _;unfold Builtin.«frozenset.__iter__» Builtin.Frozenset.slot0 mR;simp only[List.isEmpty_nil,ij,bj,↓reduceIte,iJ,kh,bne_self_eq_false];unfold Builtin.Frozenset.addrOf Builtin.Frozenset.sizeOf;refine ac<|ao ?_;dsimp only;refine ac<|ao ?_;refine ac<|ac<|cA ho hd ok.fits<|ao ?_;have Jk:∀{Q:Bool->aB->Prop},Q (!byT w&&(!t.plain&&decide (es.size>1))) s->wpAny (aG prog w) A.in1 (setDrawn a) Q E s:=λ{Q} q=>by unfold setDrawn;refine ac<|gn ho hd ok.fits ?_;dsimp only;unfold mT;refine ac<|ac<|bW<|ao ?_;exact ao q
 refine ac<|Jk ?_;cases hc:(!byT w&&(!t.plain&&decide (es.size>1)))with
 | true=>
  rw[if_pos rfl];refine ac<|ad5 es.size (dt es.size) s (by rw[jr]) λord dr hp=>?_;simp only[mX];have jM:ord.length=es.size:=by rw[hp.length_eq,jr]
  obtain⟨vN,uN⟩:∃ob:Obj,ob={cls:=.type "tuple",data:=.seq (ord.map λ(p:Nat)=>aA.int (p:Int) 0).toArray}:=⟨_,rfl⟩;have dE:((ord.map λ(p:Nat)=>aA.int (p:Int) 0).toArray).size<=aC:=by rw[be,af,jM,dw];lia
  refine ac<|gg ?_ dE;show wpAny _ _ _ _ _ {s with heap:=s.heap.push {cls:=.type "tuple",data:=.seq (ord.map λ(p:Nat)=>aA.int (p:Int) 0).toArray},drawn:=dr};rw[<-uN];have B8:∀b ob,s.heap.get? b=some ob->(s.heap.push vN).get? b=some ob:=λb ob e=>ai _ e;have Ia:(s.heap.push vN).get? s.heap.objs.size=some vN:=ba _ (by rw[uN];rfl);refine ac<|Bz (B8 _ _ ho) hd ok.fits ?_;have hg:((s.heap.push vN).push (xx (.ref s.heap.objs.size) 0 a es.size ep)).get? (s.heap.push vN).objs.size=some (xx (.ref s.heap.objs.size) 0 a es.size ep):=ba _ rfl;have B7:∀b ob,(s.heap.push vN).get? b=some ob->((s.heap.push vN).push (xx (.ref s.heap.objs.size) 0 a es.size ep)).get? b=some ob:=λb ob e=>ai _ e;refine ac<|gg<|ao<|m8 _ rfl ("set_iterator") _ ⟨⟨_,hg,rfl⟩,slot_setit_next.lookup,?_⟩;have hX:(ord.map λp=>(es[p]?.map (·.2)).getD aA.none).Perm (es.toList.map (·.2)):=by
   have h1:=hp.map λp=>(es[p]?.map (·.2)).getD aA.none;have h2:(dt es.size).map (λp=>(es[p]?.map (·.2)).getD aA.none)=es.toList.map (·.2):=by
    apply List.ext_getElem
    .simp
    .intro k a1 b1;have hk:k<es.size:=by simpa using b1
     simp[hk]
   rw[h2]at h1;exact h1
  refine hQ _ _ _ dr hX ⟨⟨o,B7 _ _<|B8 _ _ ho,eI.1,hd⟩,.inr<|.inr<|lr s.heap.objs.size vN 0 ord ⟨hg,B7 _ _ Ia,by rw[uN],by rw[uN],by rw[af],λk p hk=>?_⟩⟩ (λb ob e=>B7 _ _<|B8 _ _ e) (by rw[j3];exact Nat.le_succ _);have fQ:p<es.size:=iz.mp<|hp.mem_iff.mp<|ah hk;refine⟨es[p],b7 fQ,?_⟩;rw[au,hk];show some ((es[p]?.map (·.2)).getD aA.none)=_;rw[b7 fQ];rfl
 | false=>
  rw[if_neg am];refine ac<|ao ?_;refine ac<|Bz ho hd ok.fits ?_;have hg:(s.heap.push<|xx (.int ((0:Nat):Int) 0) 0 a es.size ep).get? s.heap.objs.size=some (xx (.int ((0:Nat):Int) 0) 0 a es.size ep):=ba _ rfl;have kp:∀b ob,s.heap.get? b=some ob->(s.heap.push<|xx (.int ((0:Nat):Int) 0) 0 a es.size ep).get? b=some ob:=λb ob e=>ai _ e;refine ac<|gg<|ao<|m8 _ rfl ("set_iterator") _ ⟨⟨_,hg,rfl⟩,slot_setit_next.lookup,?_⟩;cases hb:byT w with
  | true=>exact hQ _ _ _ s.drawn ((ak4 _ es).map _) ⟨⟨o,kp _ _ ho,eI.1,hd⟩,.inl ⟨hb,rfl,0,hg⟩⟩ kp (av _)
  | false=>
   rw[hb]at hc;exact hQ _ _ _ s.drawn (iy _) ⟨⟨o,kp _ _ ho,eI.1,hd⟩,.inr<|.inl ⟨hb,by simpa using hc,rfl,0,hg,ajn ok.rise⟩⟩ kp<|av _
end
def api:typeLookup (.type "set") "__len__" = bJ (some<|.builtin "set.__len__"):=by rw[GC,vB];kernel_rfl
section
variable{prog:aI}{w:aJ}{A:Around}{a I S:aF}{es:Array (Int×aA)}{ep:Nat}{t:SetTable}{os:Z9 aA}{R:iQ->aB->Prop}
theorem ael(hh:A.in1.handled=none)(ok:TOk t es)(bZ:t.led = !byT w)(Ip:os.length<=4000)(res:aA)(h0:Heap)(Fd:h0.get? I=none)(hS0:h0.get? S=none) :
  ∀(k i:Nat)(s:aB)(c:Nat),os.length-i=k->i<=os.length->WalkAt w a I es ep t os i s.heap->s.heap.get? S=some {cls:=.type "list",dict:=none,data:=.seq (os.take i).toArray c,slots:=#[]}->(∀b o,h0.get? b=some o->s.heap.get? b=some o)->
  (∀h' c',h'.get? S=some {cls:=.type "list",dict:=none,data:=.seq os.toArray c',slots:=#[]}->(∀b o,h0.get? b=some o->h'.get? b=some o)->R (.ok<|.ret res) {s with heap:=h'})->
  bY (aG prog w) A (.builtin "list.extend.loop" ⟨[.ref S,.ref I,res],[]⟩) R s:=by
 intro k;induction k with
 | zero=>
  intro i s c hk hi hw hS nH hR;have oW:i=os.length:=by lia
  subst oW;rw[jf]at hS;refine fc PySem.F.entry_extend_loop (show _ from ?_);rw[dz PySem.F.plain_extend_loop (_:Gm)];show wpAny _ A.in1 (aX (.ref I) >>= _) _ _ s;have Hu:S≠I:=λe=>by
   subst e;rcases hw.2 with ⟨_,_,slot,b3⟩|⟨_,_,_,slot,b4,_⟩|⟨tp,op,c,ord,b1,_⟩
   .rw[hS]at b3;injection b3 with b3;injection b3 with b3;exact absurd b3<|by decide
   .rw[hS]at b4;injection b4 with b4;injection b4 with b4;exact absurd b4<|by decide
   .rw[hS]at b1;injection b1 with b1;injection b1 with b1;exact absurd b1<|by decide
  refine ac<|aoy hh ok bZ hw (av _) λh' hx=>?_;exact ao (hR h' c (hx S _ Hu hS) λb o e=>hx b o (λz=>by rw[z,Fd]at e;cases e)<|nH b o e)
 | succ k ih=>
  intro i s c hk hi hw hS nH hR;have bX:i<os.length:=by lia
  refine fc PySem.F.entry_extend_loop (show _ from ?_);rw[dz PySem.F.plain_extend_loop (_:Gm)];show wpAny _ A.in1 (aX (.ref I) >>= _) _ _ s;have Hu:S≠I:=λe=>by
   subst e;rcases hw.2 with ⟨_,_,slot,b3⟩|⟨_,_,_,slot,b4,_⟩|⟨tp,op,c,ord,b1,_⟩
   .rw[hS]at b3;injection b3 with b3;injection b3 with b3;exact absurd b3<|by decide
   .rw[hS]at b4;injection b4 with b4;injection b4 with b4;exact absurd b4<|by decide
   .rw[hS]at b1;injection b1 with b1;injection b1 with b1;exact absurd b1<|by decide
  refine ac<|al8 ok bZ hw (ae bX) λh' hw' sb=>?_;have iI:h'.get? S=some {cls:=.type "list",dict:=none,data:=.seq (os.take i).toArray c,slots:=#[]}:=by rw[sb.2 S Hu];exact hS
  show wpAny _ A.in1 (jT S (·.push os[i]) >>= _) _ _ _;refine ac ?_;have uM:(os.take i).toArray.size<=aC:=by rw[be,cq,dw];lia
  have hz2:((os.take i).toArray.push os[i]).size<=aC+1:=by rw[Array.size_push];lia
  refine cD iI rfl (ao ⟨jh PySem.F.plain_extend_loop _,ih (i+1) _ (c+1) (by lia) bX (hw'.keep λb o e hc=>?_) ?_ (λb o e=>?_) λzV c' g kp=>?_⟩) uM hz2
  .have:b≠S:=λz=>by
    subst z;rw[iI]at e;cases e;have mF:aA.type "list" = .type "set"\/aA.type "list" = .type "set_iterator"\/aA.type "list" = .type "tuple":=hc;revert mF;decide
   exact(c6 _ _<|Ne.symm this).trans e
  .have g:=dq (ir (·.push os[i])) iI rfl;have e1:(os.take i).toArray.push os[i]=(os.take<|i+1).toArray:=by rw[List.push_toArray,List.take_append_getElem bX]
   rw[<-e1];exact g.trans<|congrArg some<|Obj.mapSeq_push_plain _ _ _
  .have nb:b≠S:=λz=>by rw[z,hS0]at e;cases e
   refine(c6 _ _<|Ne.symm nb).trans ?_;rw[sb.2 b (λz=>by rw[z,Fd]at e;cases e)];exact nH b o e
  .exact hR zV c' g kp
theorem aey{o:Obj}{E:aA->aB->Prop}{Q:Z9 aA->aB->Prop}{s:aB}(hh:A.handled=none)(ho:s.heap.get? a=some o)(eI:o.ExactSet)(hd:o.data=.set es ep t)(ok:TOk t es)(bZ:t.led = !byT w)(hsz:es.size<=4000)
  (hQ:∀h' os dr,os.Perm (es.toList.map (·.2))->(∀b o,s.heap.get? b=some o->h'.get? b=some o)->Q os {s with heap:=h',drawn:=dr}):wpAny (aG prog w) A (jE<|.ref a) Q E s:=by
 unfold jE;refine ac<|fR<|fc PySem.F.entry_proto_collect ?_;rw[dz PySem.F.plain_proto_collect _];show wpAny _ A.in1 (newList [] >>= λl=>again<|.builtin "list.__iadd__" ⟨[l,.ref a],[]⟩) _ _ s;refine ac<|gg ?_;refine ao ⟨jh PySem.F.plain_list_iadd _,fc PySem.F.entry_list_iadd ?_⟩;rw[dz PySem.F.plain_list_iadd _];show wpAny _ A.in1 (Builtin.List.listExtendWith (.ref s.heap.objs.size) (.ref a)<|.ref s.heap.objs.size) _ _ _;have hla:=bi ho;unfold Builtin.List.listExtendWith;generalize hH:s.heap.push {cls:=.type "list",data:=.seq ([]:Z9 aA).toArray}=H;have hHs:H.objs.size=s.heap.objs.size+1:=by rw[<-hH,j3]
 have kp:∀b ob,s.heap.get? b=some ob->H.get? b=some ob:=λb ob e=>hH▸ai _ e;have hHS:H.get? s.heap.objs.size=some {cls:=.type "list",data:=.seq ([]:Z9 aA).toArray}:=hH▸ba _ rfl;have hT:∀(s':aB),s'.heap.get? a=some o->s'.TypeIs (.ref a) "set":=λs' e=>⟨o,e,eI.1⟩;refine ac<|sO (T:="set") (hT _<|kp _ _ ho) ?_;have h1:Builtin.List.listSameRef (.ref s.heap.objs.size) (.ref a)=false:=by show(s.heap.objs.size==a)=false;exact beq_false_of_ne<|Nat.ne_of_gt hla
 have h2:(aA.type "set" == aA.type "list")=false:=by decide
 have h3:(aA.type "set" == aA.type "tuple")=false:=by decide
 simp only[h1,h2,h3,Bool.or_false,bj,if_false];refine ac<|aiw (kp _ _ ho) eI hd ok bZ hsz λh1 I os dr hp hw k1 hI=>?_;refine ac<|db ?_;unfold Builtin.List.listLengthHint;have AV:h1.get? a=some o:=k1 _ _<|kp _ _ ho;refine ac (cE (T:="set") (v:=.ref a) (hT _ AV) api ?_)
 wp_delta
 refine ac<|cW (T:="set") (v:=.ref a) (b:=true) (hT _ AV) (by rw[isSubtype_type];kernel_rfl) ?_;show wpAny _ A.in1 (mM (aA.ref a) >>= _) _ _ _;refine ac<|sO (T:="set") (v:=.ref a) (hT _ AV) ?_;refine ao ?_;rw[if_pos (by decide)];show wpAny _ A.in1 (vT "list.extend.makes-room" >>= λ_=>Builtin.List.listTouch (.ref s.heap.objs.size) >>= λ_=>
  again (.builtin "list.extend.loop" ⟨[.ref s.heap.objs.size,.ref I,.ref s.heap.objs.size],[]⟩)) _ _ _
 refine ac<|iD ?_;refine ac ?_;show wpAny _ A.in1 (jT s.heap.objs.size (·.push .none) >>= λ_=>jT s.heap.objs.size (·.pop)) _ _ _;have hS:h1.get? s.heap.objs.size=some {cls:=.type "list",data:=.seq ([]:Z9 aA).toArray}:=k1 _ _ hHS;refine ac<|cD hS rfl ?_;have hS₂:=dq (ir (·.push aA.none)) hS rfl;refine cD (hz:=by seq_fits) hS₂ rfl ?_;have hS₃:=dq (ir (·.pop)) hS₂ rfl;have oth:∀b ob,b≠s.heap.objs.size->h1.get? b=some ob->((h1.update s.heap.objs.size<|ir (·.push aA.none)).update s.heap.objs.size (ir (·.pop))).get? b=some ob:=
  λb ob hb e=>(c6 _ _<|Ne.symm hb).trans ((c6 _ _<|Ne.symm hb).trans e)
 have Fd:s.heap.get? I=none:=by
  cases q:s.heap.get? I with
  | none=>rfl
  | some ob=>
   have hI':H.objs.size<=I:=hI;exact absurd (bi q)<|Nat.not_lt.mpr<|fj (by rw[hHs];exact Nat.le_succ _) hI'
 have hS0:s.heap.get? s.heap.objs.size=none:=by
  cases q:s.heap.get? s.heap.objs.size with
  | none=>rfl
  | some ob=>exact absurd (bi q)<|gy _
 refine ao ⟨jh PySem.F.plain_extend_loop _,ael hh ok bZ (by rw[hp.length_eq,af,bh];exact hsz) _ s.heap Fd hS0 os.length 0 _ _ rfl (dv _) (hw.keep λb ob e hc=>oth b ob (λz=>?_) e) hS₃ (λb ob e=>oth b ob (λz=>?_)<|k1 _ _<|kp _ _ e) λh2 c2 g2 k2=>?_⟩
 .subst z;rw[hS]at e;cases e;have mF:aA.type "list" = .type "set"\/aA.type "list" = .type "set_iterator"\/aA.type "list" = .type "tuple":=hc;revert mF;decide
 .subst z;rw[hS0]at e;cases e
 .show wpAny _ A (load s.heap.objs.size >>= _) _ _ _;refine ac<|wpAny_load g2 ?_;refine ao ?_;exact hQ h2 os dr hp k2
end
end L3
namespace L3
open PySem PySem.Spec PyProof.Rows L2
def RL(R:aA->Z8->Prop):Z9 aA->Z9 Z8->Prop
 | [],[]=>True
 | v::vs,d::ds=>R v d/\RL R vs ds
 | _,_=>False
theorem RL.perm{R:aA->Z8->Prop}{os vs:Z9 aA}(p:os.Perm vs):∀{ds:Z9 Z8},RL R vs ds->∃bN,bN.Perm ds/\RL R os bN:=by
 induction p with
 | nil=>intro ds h;exact⟨ds,.refl _,h⟩
 | cons x p ih=>
  intro ds h;cases ds with
  | nil=>exact h.elim
  | cons d ds=>
   obtain⟨bN,p',h'⟩:=ih h.2;exact⟨d::bN,p'.cons d,h.1,h'⟩
 | swap x y l=>
  intro ds h
  match ds,h with
  | d1::d2::ds,h=>exact⟨d2::d1::ds,.swap _ _ _,h.2.1,h.1,h.2.2⟩
 | trans p1 p2 ih1 ih2=>
  intro ds h;obtain⟨d1,q1,h1⟩:=ih2 h;obtain⟨d2,q2,h2⟩:=ih1 h1;exact⟨d2,q2.trans q1,h2⟩
theorem RL.length{R:aA->Z8->Prop}:∀{vs:Z9 aA} {ds:Z9 Z8},RL R vs ds->vs.length=ds.length
 | [],[],_=>rfl
 | v::vs,d::ds,h=>by rw[bc,bc,RL.length h.2]
 | [],_::_,h=>h.elim
 | _::_,[],h=>h.elim
theorem RL.at{R:aA->Z8->Prop}:∀{vs:Z9 aA} {ds:Z9 Z8} {i:Nat} {v:aA} {d:Z8},RL R vs ds->vs[i]?=some v->ds[i]?=some d->R v d
 | v::vs,d::ds,0,_,_,h,h1,h2=>by cases h1;cases h2;exact h.1
 | v::vs,d::ds,i+1,_,_,h,h1,h2=>RL.at h.2 (by simpa using h1) (by simpa using h2)
 | [],_,_,_,_,_,h1,_=>by simp at h1
 | _::_,[],_,_,_,h,_,_=>h.elim
theorem RL.els{Pv:aA->Z8->Prop}{w:aJ}{h:Heap}:∀{es:Z9 (Int×aA)} {ds:Z9 Z8},Els Pv w h es ds->RL (λv d=>∃k,El Pv w h (k,v) d) (es.map (·.2)) ds
 | [],ds,x=>by rw[anl x];exact True.intro
 | e::es,ds,x=>by obtain⟨d,aV,rfl,h1,h2⟩:=yy x;exact⟨⟨e.1,h1⟩,RL.els h2⟩
section
variable{X:Cx}{x:Str}{pos:cU}
def apv{a:aF}(h:X.mg x=some (.ref a))(hg:Gl X x)(hd:(x==("__debug__" : Str))=false:=by decide):PE X (.Name x pos) (tC<|.ref a):=yc hg h rfl hd
end
section
variable{X:Cx}
def awg:V->Z9 V->Hp->VK->Prop:=λx vs H Q=>∃(z:Str)(l:aF)(ys:Z9 Str),x=.str z/\vs=[.ref l]/\H l=some (.tup<|ys.map V.str)/\(ys.map (·.length)).sum+ys.length*z.length<=1000000/\Q (.str<|j8 z ys) H
def aoq:MtR X "str.join" awg:=by intro aE s σ H x vs v us Q I rx rv h;obtain⟨z,l,ys,rfl,rfl,hl,hz,q⟩:=h;obtain⟨t,rfl⟩:=rx;obtain⟨u,rfl,r1⟩:=se rv;cases (show u=aA.ref l from r1);obtain⟨its,r,pl,_⟩:=I.tuple<|SqT.of (K:=X.K) hl;exact join_tuple pl (by simpa using LG r) (by lia) λt' k=>(lv (.str _) H ⟨I.tok _,⟨_,rfl⟩,q⟩)
def a0t(prog:aI)(w:aJ)(K:aq):R2:=λx y H Q=>∃(p:aF)(k:Str)(o:Obj) (aL:Z9 (Str×aA)),y=.ref p/\x=.str k/\K.lookup p=some o/\o.IsDictOf (strKind prog w) aL/\(p==aW)=false/\Q (.bl (eU aL k).isSome) H
def axq:OpR X (aS .In) (a0t X.prog X.w X.K):=by intro aE s σ H x y v u Q I rx ry h;obtain⟨p,k,o,aL,rfl,rfl,hk,hd,hp,q⟩:=h;obtain⟨t',rfl⟩:=rx;cases ry;have hm:s.heap.DictOf (strKind X.prog X.w) p aL:=Heap.dictOf_iff.mpr ⟨o,I.kIn p o hk,hd⟩;exact wpAny_in_of (cI _ _ k t') hp hm.mapOf<|lv (.bl _) H ⟨I.tok _,rfl,q⟩
end
def Bg(ks:Z9 Bool)(ds:Z9 Z8):Prop:=∀d∈ds,∃r,d=.tuple r/\Row (false::ks) r
def aew{ks:Z9 Bool}{ds:Z9 Z8}(h:Bg ks ds):Af ltR ds:=by
 have iV:∀d∈ds,Row (false::ks) (vk d):=λd hd=>by obtain⟨r,e,hr⟩:=h d hd;rw[e];exact hr
 exact⟨λx hx y hy q=>DL (iV x hx) (iV y hy) q,λx hx y hy z hz q1 q2=>DF (iV x hx) (iV y hy) (iV z hz) q1 q2⟩
theorem LF{h:Heap}{ks:Z9 Bool}{d:Z8}{u:aA}{bs:Z9 aF}(z:Reads h u d bs){row:Z9 Z8}(e:d=.tuple row)(hr:Row (false::ks) row) :
  ∃a o vs n as i t,u=.ref a/\h.get? a=some o/\o.cls=.type "tuple"/\o.data=.seq vs n/\ReadsAll h vs.toList row as/\vs[0]?=some (.str i t):=by
 subst e;cases z with
 | @tuple a o vs n _ _ e1 e2 e3 z=>
  obtain⟨i,rr,rfl,_⟩:=hr;have z':=z;generalize hv:vs.toList=vl at z;cases z with
  | cons ra rb=>
   cases ra with
   | str _ t=>
    refine(nj a o vs n _<|lv i t ⟨rfl,e1,e2,e3,z',?_⟩);rw[<-b8,hv];rfl
theorem aes{h:Heap}{ks:Z9 Bool}:∀{ds:Z9 Z8} {us:Z9 aA},us.length=ds.length->(∀(i:Nat) u d,us[i]?=some u->ds[i]?=some d->∃as,Reads h u d as)->Bg ks ds->∃fs:Z9 aA,PySem.W.KatTups h us fs/\fs.length=ds.length/\∀v∈fs,∃i t,v=aA.str i t
 | [],[],_,_,_=>⟨[],trivial,rfl,λv hv=>by cases hv⟩
 | [],u::us,hl,_,_=>by cases hl
 | d::ds,[],hl,_,_=>by cases hl
 | d::ds,u::us,hl,r,hr=>by
  obtain⟨row,e,nX⟩:=hr d aj;obtain⟨bs,z⟩:=r 0 u d rfl rfl;obtain⟨a,o,vs,n,as,i,tk,rfl,e1,e2,e3,_,e4⟩:=LF z e nX;obtain⟨fs,k1,k2,k3⟩:=aes (ds:=ds) (us:=us) (by simpa using hl) (λi u d h1 h2=>r (i+1) u d (by simpa using h1)<|by simpa using h2) λd hd=>hr d<|ak _ hd;refine⟨.str i tk::fs,PySem.W.KatTups.cons e1 e2 e3 e4 k1,by rw[bc,bc,k2],λv hv=>?_⟩;rcases ap.mp hv with rfl|hv
  .exact(lv i tk rfl)
  .exact k3 v hv
section
variable{prog:aI}{w:aJ}{A:Around}{s:aB}{E:aA->aB->Prop}
def az2{ks:Z9 Bool}{d e:Z8}{u v:aA}{as bs:Z9 aF}(r1:Reads s.heap u d as)(r2:Reads s.heap v e bs)(hd:∃r,d=.tuple r/\Row (false::ks) r)(he:∃r,e=.tuple r/\Row (false::ks) r){Q:Bool->aB->Prop}(hq:Q (ltR d e) s) :
  wpAny (aG prog w) A (mY (lJ true) u v) Q (λ_ _=>False) s:=by
 obtain⟨row,rfl,hr⟩:=hd;obtain⟨BM,rfl,Ct⟩:=he;obtain⟨a,o,vs,n,as1,_,_,rfl,e4,_,e5,e6,_⟩:=LF r1 rfl hr;obtain⟨a',o',Ei,n',as2,_,_,rfl,f4,_,f5,f6,_⟩:=LF r2 rfl Ct;have z1:vs.size=ks.length+1:=by have q1:=SeqAt.ReadsAll.length _ _ _ e6;have q2:=hr.len;simp at q1 q2;lia
 have z2:Ei.size=ks.length+1:=by have q1:=SeqAt.ReadsAll.length _ _ _ f6;have q2:=Ct.len;simp at q1 q2;lia
 refine PySem.W.kat_lt e4 e5 f4 f5 ?_;rw[decide_eq_false (by lia)];exact F6 hr Ct e6 f6 hq
def avv{ks:Z9 Bool}{ds:Z9 Z8}{us:Z9 aA}(hl:us.length=ds.length)(h2:2<=us.length)(r:∀(i:Nat) u d,us[i]?=some u->ds[i]?=some d->∃as,Reads s.heap u d as)(hr:Bg ks ds){Q:bB->aB->Prop}(hq:Q (lJ true) s) :
  wpAny (aG prog w) A (fV us.toArray) Q E s:=by
 obtain⟨fs,kt,kf,ki⟩:=aes hl r hr;refine PySem.W.kat_kind (T:=aA.type "str") kt (by lia) (λv hv=>?_) rfl hq;obtain⟨i,t,rfl⟩:=ki v hv;exact PySem.W.Looks.of_pure rfl
end
section
variable{X:Cx}
def afo:qj X (.builtin "sorted") (λvs H Q=>∃p xs ds ks,vs=[.ref p]/\H p=some (.lst xs)/\RepAll H ds xs/\Bg ks ds/\ds.length<64/\
  ∀l ys es,H l=none->es.Perm ds->es.Pairwise (λx y=>ltR y x=false)->RepAll (upd H l<|.lst ys) es ys->Q (.ref l) (upd H l<|.lst ys)):=by
 intro aE s σ H xs us Q I r h;obtain⟨p,xs,ds,ks,rfl,hp,dJ,dI,oG,q⟩:=h;obtain⟨u,rfl,r1⟩:=se r;cases (show u=aA.ref p from r1);obtain⟨its,rv,pl,hz⟩:=I.list<|SqL.of (K:=X.K) hp;have l1:xs.length=ds.length:=dJ.length;have l2:xs.length=its.length:=rv.length;obtain⟨as,uI⟩:=RepAll.reads I dJ rv;refine acx (κ:=lJ true) (lt:=ltR) I dJ rv (by lia) (amh pl.isList<|by lia) (aew dI) (λh2 s' k Q' E' hq=>?_) (λs' k i j d e u v ui di vj dj Q' hq=>?_) q
 .refine avv (by lia) h2 (λi u d h1 h2=>?_) dI hq;obtain⟨bs,rd⟩:=vz uI h1 h2;exact⟨bs,Reads.keeps k rd⟩
 .obtain⟨bs,rd⟩:=vz uI ui di;obtain⟨bs',Hc⟩:=vz uI vj dj;exact az2 (Reads.keeps k rd) (Reads.keeps k Hc) (dI d<|ah di) (dI e<|ah dj) hq
end
structure SortsAs(prog:aI)(w:aJ)(A:Around)(κ:bB)(lt:Z8->Z8->Bool)(ds:Z9 Z8):Prop where
 ord:Af lt ds
 kind:∀(s:aB)(os:Z9 aA)(bN:Z9 Z8),(∀d∈bN,d∈ds)->os.length=bN.length->2<=os.length->(∀(i:Nat)(v:aA)(d:Z8),os[i]?=some v->bN[i]?=some d->∃as,Reads s.heap v d as)->
  ∀(Q:bB->aB->Prop)(E:aA->aB->Prop),Q κ s->wpAny (aG prog w) A (fV os.toArray) Q E s
 key:∀(s:aB)(u v:aA)(d e:Z8)(as bs:Z9 aF),d∈ds->e∈ds->Reads s.heap u d as->Reads s.heap v e bs->d.canLay0=true->e.canLay0=true->∀(Q:Bool->aB->Prop),Q (lt d e) s->wpAny (aG prog w) A (mY κ u v) Q (λ_ _=>False) s
def alp{prog:aI}{w:aJ}{A:Around}{ks:Z9 Bool}{ds:Z9 Z8}(h:Bg ks ds):SortsAs prog w A (lJ true) ltR ds:=
 ⟨aew h,λs os bN hs hl h2 r Q E q=>avv hl h2 r (λd hd=>h d<|hs d hd) q,λs u v d e as bs hd he r1 r2 _ _ Q q=>az2 r1 r2 (h d hd) (h e he) q⟩
section
variable{X:Cx}{aE:Z9 (aF×Obj)}{σ:L2.St}{H:Hp}{s:aB}
def abi(I:Inv X aE σ H s){Pv:aA->Z8->Prop}(hPv:∀v d,Pv v d->∃x,RelV x v/\Rep H d x){a:aF}{ds:Z9 Z8}(hc:X.calm=true)(hS:SetD Pv X.w s.heap a ds)(aU:ds.length<64){κ:bB}{lt:Z8->Z8->Bool}(sa:SortsAs X.prog X.w X.A.in1.in1 κ lt ds){Q:VK}
  (q:∀(es:Z9 Z8)(l:aF)(ys:Z9 V),es.Perm ds->es.Pairwise (λx y=>lt y x=false)->H l=none->RepAll (upd H l<|.lst ys) es ys->Q (.ref l) (upd H l<|.lst ys)) :
  wpAny (aG X.prog X.w) X.A (call (.builtin "sorted") [.ref a]) (EP X aE σ Q) X.xe s:=by
 obtain⟨o,es,ep,tb,ho,eI,jO,ok,few,els,nd,bZ⟩:=hS;have hsz:es.size=ds.length:=by have:=els.1;rw[bh]at this;exact this
 refine afg (κ:=κ) (P:=λos bN=>os.Perm (es.toList.map (·.2))/\bN.Perm ds/\RL (λx d=>∃k,El Pv X.w s.heap (k,x) d) os bN) I ?_ (λQ' E' hq=>?_) sa.ord ?_ ?_ λl ys es h1 h2 h3 h4=>q es l ys h2 h3 h1 h4
 .rintro os bN ⟨_,pd,rl⟩;have:=pd.length_eq;have jM:=rl.length;refine⟨by lia,jM,pd,λi v d h1 h2=>?_⟩;obtain⟨k,el⟩:=rl.at h1 h2;exact hPv _ _ el.own
 .refine aey (A:=X.A.in1) (I.ok.hd hc) ho eI jO ok bZ (by lia) λh1 os dr hX k1=>?_;obtain⟨bN,pd,rl⟩:=RL.perm hX<|RL.els els;exact hq os bN h1 s.toks dr ⟨hX,pd,rl⟩ k1
 .rintro os bN ⟨_,pd,rl⟩ h2 s' kp Q' E' hq;refine sa.kind s' os bN (λd hd=>pd.mem_iff.mp hd) rl.length h2 (λi v d h1 h2=>?_) Q' E' hq;obtain⟨k,el⟩:=rl.at h1 h2;obtain⟨bs,rd⟩:=el.reads;exact⟨bs,Reads.keeps kp rd⟩
 .rintro os bN ⟨_,pd,rl⟩ s' kp i j d e u v hi di hj dj Q' hq;obtain⟨k,el⟩:=rl.at hi di;obtain⟨k',el'⟩:=rl.at hj dj;obtain⟨bs,rd⟩:=el.reads;obtain⟨bs',Hc⟩:=el'.reads;exact sa.key s' u v d e bs bs' (pd.mem_iff.mp<|ah di) (pd.mem_iff.mp<|ah dj) (Reads.keeps kp rd) (Reads.keeps kp Hc) el.lay el'.lay Q' hq
end
section
variable{X:Cx}
def a02:R2:=λx y H Q=>∃(p q:aF)(xs:Z9 V),x=.ref p/\y=.ref q/\H p=some (.lst xs)/\H q=some (.lst [])/\Q (.bl<|!xs.isEmpty) H
theorem awb(hu:X.A.units+64<bM):OpR X (aS .NotEq) a02:=by
 intro aE s σ H x y v u Q I rx ry h;obtain⟨p,q',xs,rfl,rfl,hp,hq,q⟩:=h;cases rx;cases ry;obtain⟨its,r1,l1,_⟩:=I.list<|SqL.of (K:=X.K) hp;obtain⟨uL,r2,l2,_⟩:=I.list<|SqL.of (K:=X.K) hq;have e2:uL=[]:=eu.mp r2.length.symm;subst e2;have hl:=r1.length;cases xs with
 | nil=>
  have e1:its=[]:=eu.mp r1.length.symm;subst e1;exact SeqAt.RcNeAt.lists (e:=λ_=>true) l1.isList l2.isList rfl (by lia) (λj h1 h2=>absurd h1<|by simp) X.prog X.w X.xe _ (lv (.bl _) H ⟨I,rfl,q⟩)
 | cons x t=>
  refine SeqAt.RcNeAt.lists_lengths l1.isList l2.isList ?_ (by lia) X.prog X.w X.xe _<|lv (.bl _) H ⟨I,rfl,q⟩;rw[be,<-hl];simp
end
def Kh(K:aq)(tl:TE):TI:=λσ H R=>tl σ H λx H1=>∃a,x=.ref a/\(((∃xs,SqL K H1 a xs)/\R (Itl K a) H1)\/((∃xs,SqT K H1 a xs)/\R (Itt K a) H1))
section
variable{X:Cx}{tg:Expr}
def Bo{l:Expr}{tl:TE}(hl:PE X l tl):PI X tg l (Kh X.K tl):=by
 intro aE s σ H R I h;refine thn (hl aE s σ H _ I h) λv s1 ⟨x,H1,I1,r1,q1⟩=>?_;obtain⟨a,e,⟨⟨xs,hq⟩,q⟩|⟨⟨xs,hq⟩,q⟩⟩:=q1
 .subst e;cases r1;obtain⟨its,rv,p,hz⟩:=I1.list hq;refine js p.isList ?_;refine(nj s1.heap.objs.size ([s1.heap.objs.size]) _ _ H1 ⟨rfl,I1.kept (t':=s1.toks) λb o e=>ai _ e,aex a _,⟨_,ba _ rfl,rfl,rfl⟩,λb hb=>?_,q⟩);have e:b=s1.heap.objs.size:=by simpa using hb
  subst e;exact I1.fpOk (av _)<|I1.hok.fresh<|av _
 .subst e;cases r1;obtain⟨its,rv,p,hz⟩:=I1.tuple hq;refine dQ (show s1.heap.IsTuple a its.toArray from p) ?_;refine(nj s1.heap.objs.size ([s1.heap.objs.size]) _ _ H1 ⟨rfl,I1.kept (t':=s1.toks) λb o e=>ai _ e,acw a _,⟨_,ba _ rfl,rfl,rfl⟩,λb hb=>?_,q⟩);have e:b=s1.heap.objs.size:=by simpa using hb
  subst e;exact I1.fpOk (av _)<|I1.hok.fresh<|av _
end
section
variable{K:aq}{a:aF}{xs:Z9 V}{ds:Z9 Z8}{σ:L2.St}{H:Hp}{Q:VK}{sl:Z9 (Option Nat)}{g:TG}{tt:L2.TT}{te:TE}
def aim(ha:H a=some (.lst xs)\/H a=some (.tup xs))(Pv:aF->Nat->Z9 V->Hp->Prop)(h0:∀D,H D=none->Pv D 0 [] (upd H D<|.lst []))(hk:∀D i ys G,Pv D i ys G->Same H G)
  (hs:∀D i x ys G,H D=none->xs[i]?=some x->i<xs.length->G D=some (.lst ys)->ys.length<=i->Pv D i ys G->g x (tf sl σ) G λσ2 H2=>Agree (tf sl σ) σ2/\tt σ2 H2 λb H3=>
   if b=true then te σ2 H3 λy H4=>∃xs,H4 D=some (.lst xs)/\xs.length<aC/\Nx D i (Pv D) (upd H4 D<|.lst<|xs++[y])else Nx D i (Pv D) H3)
  (hd:∀D ys G,H D=none->G D=some (.lst ys)->ys.length<=xs.length->Pv D xs.length ys G->Q (.ref D) G) :
  ((∃xs,SqL K H a xs)/\∀D,H D=none->tS (Itl K a) sl g tt te σ H D Q)\/((∃xs,SqT K H a xs)/\∀D,H D=none->tS (Itt K a) sl g tt te σ H D Q):=by
 rcases ha with ha|ha
 .exact .inl ⟨⟨_,SqL.of ha⟩,λD hD=>ny (xs:=xs) (Pv D) (h0 D hD) (λi ys G p=>SqL.of<|hk D i ys G p _ _ ha) (λi x ys G=>hs D i x ys G hD) λys G=>hd D ys G hD⟩
 .exact .inr ⟨⟨_,SqT.of ha⟩,λD hD=>tq (xs:=xs) (Pv D) (h0 D hD) (λi ys G p=>SqT.of<|hk D i ys G p _ _ ha) (λi x ys G=>hs D i x ys G hD) λys G=>hd D ys G hD⟩
def aju{i0:Nat}{bK:L2.St}(f:Z8->Z8)(hσ:σ[i0]?=some (some<|.ref a))(hp:tf sl σ=none::none::none::bK)(ha:H a=some (.lst xs)\/H a=some (.tup xs))(hr:RepAll H ds xs)(hs:Spots ds)(hl:ds.length<=64)
  (Cs:∀(r c:Int)(z:Str)(H':Hp)(Q':VK),(∃u v:Int,f (.tuple [.int r,.int c,.str z])=.tuple [.int u,.int v,.str z]/\∀n,H' n=none->Q' (.ref n) (upd H' n<|.tup [.int u,.int v,.str z]))->
   te (some (.int r)::some (.int c)::some (.str z)::bK) H' Q')
  (fP:∀(r c:Int)(z:Str),∃u v:Int,f (.tuple [.int r,.int c,.str z])=.tuple [.int u,.int v,.str z])
  (q:∀D ys H',H D=none->Same H H'->H' D=some (.lst ys)->RepAll H' (ds.map f) ys->Q (.ref D) H') :
  xJ (Kh K<|iC i0) sl (Bb K 3<|ze (ve 0)<|ze (ve 1)<|ze (ve 2) DB) wg te σ H Q:=by
 have aU:=hr.length;have im:∀es:Z9 Z8,(∀d∈es,d∈ds)->Spots (es.map f):=λes he d hd=>by obtain⟨d0,h0,rfl⟩:=a7.mp hd;obtain⟨r0,c0,x0,rfl⟩:=hs d0<|he d0 h0;obtain⟨u,v,e⟩:=fP r0 c0 x0;exact(mj u v x0 e)
 refine(mm _ hσ a ⟨rfl,aim ha (λD i ys H'=>Same H H'/\RepAll H' ((ds.take i).map f) ys) (λD hD=>⟨Same.fresh _ hD,rfl⟩) (λD i ys H' p=>p.1) (λD i x ys H' hD hx hi aN aY p=>?_) λD ys H' hD aN aY p=>?_⟩)
 .obtain⟨p1,p2⟩:=p;obtain⟨b,r,c,z,rfl,hb,hz,hd⟩:=hs.at hr hx;rw[hp];refine(on b _ rfl (SqT.of<|p1 _ _ hb) rfl _ _ rfl _<|m8 _ rfl _ _ ⟨rfl,rfl,?_⟩);refine⟨Agree.set (Agree.set (Agree.set (Agree.refl _) rfl) rfl) rfl,?_⟩;dsimp only[wg];refine oz ?_;obtain⟨u,v,ef⟩:=fP r c z;refine Cs r c z H' _<|lv u v ⟨ef,λn hn=>?_⟩;have s2:Same H' (upd H' n<|.tup [.int u,.int v,.str z]):=Same.fresh _ hn;have n2:upd H' n (.tup [.int u,.int v,.str z]) n=some (.tup [.int u,.int v,.str z]):=k8;generalize upd H' n (.tup [.int u,.int v,.str z])=H2 at *;have dF:=s2 _ _ aN;refine oj (by lia) dF aY ⟨(p1.trans s2).new hD,?_⟩;have rep:RepAll H2 ((ds.take i).map f++[f (.tuple [.int r,.int c,.str z])]) (ys++[.ref n]):=by
   rw[ef];exact(p2.same s2).snoc (xb n2 hz)
  rw[<-lq f hd]at rep;exact rep.tk (Tk.lst dF)<|Spots.imm<|im _ λd mB=>fy mB
 .obtain⟨p1,p2⟩:=p;rw[bb (by lia)]at p2;exact q D ys H' hD p1 aN p2
end
section
variable{prog:aI}{w:aJ}{A:Around}{E:aA->aB->Prop}{s:aB}
theorem ajj{l:aF}{d:aA}{Q:aA->aB->Prop}(hh:A.handled=none)(hl:s.heap.IsList l #[])
  (h:∀h' tk,(∀b o,s.heap.get? b=some o->h'.get? b=some o)->Q d {s with heap:=h',toks:=tk}) :
  wpAny (aG prog w) A (call (.builtin "min") [.ref l] [(aa "default",d)]) Q E s:=by
 have nm:(cB "min" ++ cB ".loop" : String)="min.loop":=by decide
 have h0:(dR #[]).size=0:=by simp[dR]
 have oC:s.heap.IsList l (dR #[]):=by simpa [dR]using hl
 refine cH<|jg F.plain_min F.entry_min ?_;simp only[eM,F.kind_min];have go:wpAny (aG prog w) A.in1 (Builtin.«min» ⟨[.ref l],[(aa "default",d)]⟩) (λcS s'=>match cS with
   | .done f=>(match (Except.ok f:iQ)with|.ok (.ret v)=>Q v s'|.ok _=>False|.error e=>E e s')
   | .again c'=>c'.quiet=true/\bY (aG prog w) A c' (λr s'=>match r with|.ok (.ret v)=>Q v s'|.ok _=>False|.error e=>E e s') s') E s:=by
  show wpAny _ A.in1 (kc "min" ["key","default"] 0 ⟨[],[(aa "default",d)]⟩ >>= _) _ _ s;refine ac<|cJ (show kc "min" ["key","default"] 0 ⟨[],[(aa "default",d)]⟩=bJ [none,some d]from rfl) ?_;refine ac<|ao ?_;refine ac<|iter_intList oC λs₂ e st uX IT=>?_;subst e;have W:=gE.list (prog:=prog) (w:=w) (A:=A.in1) hh _ l IT<|dR #[];refine ac<|gg ?_;rw[nm];refine ao ⟨jh je _,?_⟩;refine fc F.entry_min_loop ?_;rw[dz je _];show wpAny _ A.in1 (gJ (.ref _) >>= _) _ _ _;refine ac<|jp (ba _ rfl) rfl ?_;show wpAny _ A.in1 (mO (aX<|.ref _) _ >>= _) _ _ _;refine ac<|dP<|W.done _ _ _ (W.frame _ _ _ (by rw[h0];exact st) λb _ o e=>ai _ e) λh' tk hk'=>?_;show wpAny _ A.in1 (vT _ >>= _) _ _ _;refine ac<|iD<|ao ?_;exact h _ _ λb o e=>hk' b o (λm=>absurd (bi e)<|by rw[a6.mp m];exact gy _)<|ai _<|ai _ e
 cases yX:Manifest.signature? "min" with
 | none=>exact ao go
 | some BF=>
  have dG:Bind.checkArgs "min" BF ⟨[.ref l],[(aa "default",d)]⟩=bJ ():=by have:=afc (.ref l) d;simpa only [tM,yX]using this
  simp only[dG];exact ao go
end
section
variable{X:Cx}{e e2:Expr}{t tk:TA}{p pos nW:cU}
def ayk(t tk:TA):TE:=λσ H Q=>t σ H λvs H1=>tk σ H1 λzs H2=>(zs.length=1/\Kk vs H2 Q)\/∃q z,vs=[.ref q]/\H2 q=some (.lst [])/\zs=[z]/\Q z H2
theorem anw(hc:X.calm=true)(hg:Gl X "min")(hm:X.mg "min" = none)(ha:PA X [e] t)(IW:PK X [⟨some "default",e2,nW⟩] tk)
  (he:bA pos (aK [e] X.env)=(false,bL e X.env)::bA pos (aK [] X.env):=by rfl) (fQ:(bA pos<|aK [e] X.env).any (·.1)=false:=by rfl) :
  PE X (.Call (.Name "min" p) [e] [⟨some "default",e2,nW⟩] pos) (ayk t tk):=by
 intro aE s σ H Q I h;refine gi (ur I hg hm gD ?_ (by decide)<|by decide);refine callWith_kw (thn (ha pos aE s σ H _ I h) λus s1 ⟨vs,H1,I1,r,q⟩=>thn (IW pos aE s1 σ H1 _ I1 q) λws s2 ⟨zs,H2,I2,rz,q2⟩=>?_) he fQ;rcases q2 with ⟨uM,q2⟩|⟨l,z,rfl,hq,rfl,q⟩
 .obtain⟨d,rfl⟩:∃d,ws=[d]:=by
   have hl:ws.length=1:=rz.length.symm.trans uM
   match ws,hl with
   | [d],_=>exact⟨d,rfl⟩
  obtain⟨l,ns,rfl,hq,hn,hQ⟩:=q2;obtain⟨u,rfl,r1⟩:=se r;cases (show u=aA.ref l from r1);obtain⟨its,rv,pl,hz⟩:=I2.list<|SqL.of (K:=X.K) hq;exact akh (I2.ok.hd hc) pl.isList (zm rv) hn λh' M t tk k h1 h2=>⟨.int M,H2,I2.kept k,⟨_,rfl⟩,hQ M h1 h2⟩
 .obtain⟨u,rfl,r1⟩:=se r;cases (show u=aA.ref l from r1);obtain⟨d,rfl,rd⟩:=se rz;obtain⟨its,rv,pl,hz⟩:=I2.list<|SqL.of (K:=X.K) hq;cases rv;exact ajj (I2.ok.hd hc) pl.isList λh' tk k=>⟨z,H2,I2.kept k,rd,q⟩
end
section
variable{Pv:aA->Z8->Prop}{prog:aI}{w:aJ}{A:Around}{E:aA->aB->Prop}{s:aB}
theorem alw{l:aF}{items:Array aA}{ds:Z9 Z8}{Q:aA->aB->Prop}
  (hh:A.handled=none) (hl:s.heap.IsTuple l items) (hi:items.size=ds.length) (hE:∀(i:Nat) v d,items[i]?=some v->ds[i]?=some d->El Pv w s.heap (sM w d,v) d) (hb:ds.length<2000) (hu:A.units+20<bM)
  (h:∀(h':Heap)(tk:Nat)(aV:Z9 Z8),SetD Pv w h' s.heap.objs.size aV->(∀d,d∈aV↔d∈ds)->aV.length<=ds.length->Keep s.heap h'->s.toks<=tk->Q (.ref s.heap.objs.size) {s with heap:=h',toks:=tk}) :
  wpAny (aG prog w) A (call (.type "set") [.ref l]) Q E s:=by
 obtain⟨c,tl,Cz⟩:=bw.mro;have wL:=bw.made;have yU:=bw.sub;refine cH<|fI (show _ from ?_);show wpAny _ _ (callAny (.type "set") _) _ _ s;refine ao ⟨Code.quiet_builtin _<|by decide +kernel,fc F.entry_type_call (show _ from ?_)⟩;rw[Around.under_plain (fJ "set" [.ref l] []) (rfl:_=_)];have h1:=bw.notType;have h2:=bw.canCreate;have hct:=PySem.F.typeCall_set_1 (.ref l)
 repeat (any_goals (first|assumption|(wp_step)))
 refine ju (wb (.ref l) (E:=E) (Q₁:=λobj s₁=>∃led:Bool,led=(!byT w)/\obj=.ref s.heap.objs.size/\s₁={s with heap:=s.heap.push {cls:=.type "set",dict:=none,data:=.set #[] 0 (.fresh 0 0 led)}}) ⟨_,rfl,rfl,rfl⟩) λr s₁ hr=>?_
 match r,hr with
 | .error e,hr=>exact hr
 | .ok (.ret obj),hr=>
   obtain⟨led,bZ,rfl,rfl⟩:=hr;obtain⟨jD,dZ⟩:∃ob:Obj,ob={cls:=.type "set",dict:=none,data:=.set #[] 0 (.fresh 0 0 led)}:=⟨_,rfl⟩;have hS:(s.heap.push jD).get? s.heap.objs.size=some jD:=ba _ (by rw[dZ];rfl);have hT:aB.TypeIs {s with heap:=s.heap.push jD} (.ref s.heap.objs.size) "set":=⟨_,hS,by rw[dZ]⟩;have C8:SetD Pv w (s.heap.push jD) s.heap.objs.size []:=by rw[dZ];exact SetD.fresh bZ
   rw[<-dZ];have hli:=bw.init.lookup;have hbi:=bw.init.bind (.ref s.heap.objs.size)
   repeat (any_goals (first|assumption|(wp_step)))
   refine ju (jg (R:=wants (λr s₂=>r=.none/\∃h' tk aV,s₂={s with heap:=h',toks:=tk}/\SetD Pv w h' s.heap.objs.size aV/\(∀d,d∈aV↔d∈ds)/\aV.length<=ds.length/\Keep s.heap h'/\s.toks<=tk) E) bw.init.plain F.entry_set_init<|kC hT ?_) λr₂ s₂ dY=>?_
   .obtain⟨ol,jM,jP,nl,wR⟩:=hl;obtain⟨BQ,kH,vY,hJ⟩:=ol;simp only at jP wR;subst jP;subst wR;have qP:(s.heap.push jD).get? l=some {cls:=.type "tuple",dict:=kH,data:=.seq items nl,slots:=hJ}:=ai _ jM;have Cm:=PySem.F.sub_tuple_set;have Cn:=PySem.F.sub_tuple_frozenset;have dO:(aA.type "tuple" == aA.type "dict")=false:=by decide
    have gQ:(s.heap.push jD).IsTuple l items:=⟨_,qP,rfl,nl,rfl⟩;unfold Builtin.«set.__init__» AR Builtin.Frozenset.updateFrom;generalize Da:iF=PI;subst dZ
    wp_walk
    subst Da;refine dQ gQ ?_;refine ac<|fR ?_;have dC:∀b,s.heap.objs.size<=b->s.heap.get? b=none:=λb dH=>by
     cases hq:s.heap.get? b with
     | none=>rfl
     | some ob=>exact absurd (bi hq)<|Nat.not_lt.mpr dH
    have wP:l<s.heap.objs.size:=bi jM;have CS:A.in1.in1.in1.handled=none:=by simp[hh]
    have rL:(s.heap.push {cls:=.type "set",dict:=none,data:=.set #[] 0 (.fresh 0 0 led)}).objs.size=s.heap.objs.size+1:=j3 _ _;have qQ:l≠(s.heap.push {cls:=.type "set",dict:=none,data:=.set #[] 0 (.fresh 0 0 led)}).objs.size:=by rw[rL];exact ck<|Nat.lt_succ_of_lt wP
    have jA:s.heap.objs.size∉[(s.heap.push {cls:=.type "set",dict:=none,data:=.set #[] 0 (.fresh 0 0 led)}).objs.size,l]:=by rw[rL];simp only[ap,cv,or_false,not_or];exact⟨ck<|j2 _,Nat.ne_of_gt wP⟩
    have jK:∀(i:Nat)(v:aA),items[i]?=some v->El Pv w s.heap (sM w<|ds.getD i .none,v) (ds.getD i .none):=λi v hv=>by
     have bX:=(cz.mp hv).1;have hd:ds[i]?=some (ds.getD i .none):=by rw[bu,ae<|by lia];rfl
     exact hE i v _ hv hd
    refine zq (A:=A.in1.in1) ((gE.tuple CS _ l qQ items).toS) s.heap.objs.size jA s.heap (λb dH=>dC b<|by rw[a6.mp dH,rL];exact Nat.le_succ _) (dC _<|av _) (λi s' bD b dH ob e=>?hwt)
     (λi=>ds.getD i .none) jK (by show A.units+1+1+9<bM;lia) (by lia) (items.size-0) 0 _ [] (by lia) (dv _)
     ⟨⟨_,ba _ rfl,rfl,rfl⟩,(gQ.push _)⟩ ?hK0 ?hS0 (λd=>by simp) (by simp) ?hR
    case hwt=>
     obtain⟨⟨oi,ho,hc,_⟩,_⟩:=bD;rw[a6.mp dH,ho]at e;cases e;rw[hc];decide
    case hK0=>exact λb o e=>ai _<|ai _ e
    case hS0=>exact C8.moved (λo e=>ai _ e) λb o e _=>ai _ e
    case hR=>
     intro s' aV hm k' S' m' l';obtain⟨h',g',d',vO,qA⟩:=s';have eg:g'=s.gens:=hm.gens;have ed:d'=s.drawn:=hm.drawn;have eo:qA=s.os:=hm.os;subst eg;subst ed;subst eo;show wpAny _ _ _ _ _ _;refine ao ?_;show wpAny _ _ (ret aA.none) _ _ _;refine ao ⟨rfl,h',vO,aV,rfl,S',λd=>?_,by lia,k',hm.toks⟩;rw[m' d];constructor
     .rintro⟨j,hj,rfl⟩;rw[bu,ae<|by lia];exact fz _
     .intro hd;obtain⟨j,hj⟩:=gp hd;have CO:=(ar.mp hj).1;exact⟨j,by lia,by rw[bu,hj];rfl⟩
   .match r₂,dY with
    | .error e,dY=>exact dY
    | .ok (.ret r),dY=>
      obtain⟨rfl,h',tk,aV,rfl,iI,iG,tE,hk',wG⟩:=dY
      repeat (any_goals (first|assumption|(wp_step)))
      exact h _ _ aV iI iG tE hk' wG
    | .ok .next,dY=>exact dY.elim
    | .ok .brk,dY=>exact dY.elim
    | .ok .cont,dY=>exact dY.elim
 | .ok .next,hr=>exact hr.elim
 | .ok .brk,hr=>exact hr.elim
 | .ok .cont,hr=>exact hr.elim
end
def amr(prog:aI)(w:aJ)(A:Around)(κ:bB)(lt:Z8->Z8->Bool):Z9 V->Hp->VK->Prop:=λvs H Q=>∃(p:aF)(xs:Z9 V)(ds:Z9 Z8),vs=[.ref p]/\(H p=some (.lst xs)\/H p=some (.tup xs))/\RepAll H ds xs/\(∀d∈ds,Fw d)/\SortsAs prog w A κ lt ds/\ds.length<64/\
 ∀(es:Z9 Z8)(l:aF)(ys:Z9 V),es.Nodup->(∀d,d∈es↔d∈ds)->es.Pairwise (λx y=>lt y x=false)->H l=none->RepAll (upd H l<|.lst ys) es ys->Q (.ref l) (upd H l<|.lst ys)
def SortsAs.sub{prog:aI}{w:aJ}{A:Around}{κ:bB}{lt:Z8->Z8->Bool}{ds es:Z9 Z8}(h:SortsAs prog w A κ lt ds)(hs:∀d∈es,d∈ds):SortsAs prog w A κ lt es:=
 ⟨⟨λx hx y hy=>h.ord.asy x (hs x hx) y<|hs y hy,λx hx y hy z hz=>h.ord.tr x (hs x hx) y (hs y hy) z<|hs z hz⟩,λs os bN hd=>h.kind s os bN λd q=>hs d<|hd d q,λs u v d e as bs hd he=>h.key s u v d e as bs (hs d hd)<|hs e he⟩
section
variable{X:Cx}{p p2 pos hG:cU}{e:Expr}{t:TA}
def af0(κ:bB)(lt:Z8->Z8->Bool)(hc:X.calm=true)(hu:X.A.units+64<bM)(hg:Gl X "sorted")(hm:X.mg "sorted" = none)(CU:Gl X "set")(wM:X.mg "set" = none)(ha:PA X [e] t)(h1:o7 e=true:=by rfl) :
  PE X (.Call (.Name "sorted" p) [.Call (.Name "set" p2) [e] [] hG] [] pos) (tCB (amr X.prog X.w X.A.in1.in1 κ lt) t):=by
 intro aE s σ H Q I h;refine gi (ur I hg hm kT ?_ (by decide)<|by decide);refine jw ?_ (m9 rfl) rfl;rw[m9 rfl];show wpAny _ _ (lO ((false,bL (.Call (.Name "set" p2) [e] [] hG) X.env)::bA pos (aK [] X.env))) _ _ s;refine j5 ?_;refine gi (ur I CU wM boot_set ?_ (by decide)<|by decide);refine f8 (thn (ha hG aE s σ H _ I h) λus s1 ⟨vs,H1,I1,r1,q1⟩=>?_) (m9 h1) rfl;obtain⟨pl,xs,ds,rfl,hp,dJ,gR,sa,hb,q⟩:=q1;obtain⟨u,rfl,ru⟩:=se r1;cases (show u=aA.ref pl from ru);have qU:=dJ.lay;have gQ:xs.length=ds.length:=dJ.length;have cS:∀(its:Z9 aA),Vals xs its->∀(h':Heap)(tk:Nat)(aV:Z9 Z8),SetD (λv d=>∃i:Nat,its[i]?=some v/\ds[i]?=some d) X.w h' s1.heap.objs.size aV->(∀d,d∈aV↔d∈ds)->aV.length<=ds.length->Keep s1.heap h'->
   wpAny (aG X.prog X.w) X.A (lO<|bA pos<|aK [] X.env) (λvs s'=>wpAny (aG X.prog X.w) X.A (call (.builtin "sorted") (.ref s1.heap.objs.size::vs)) (EP X aE σ Q) X.xe s') X.xe {s1 with heap:=h',toks:=tk}:=by
  intro its rv h' tk aV hS cL aU hk;refine Calls.spliced_nil ?_;have I2:Inv X aE σ H1 {s1 with heap:=h',toks:=tk}:=I1.kept hk;obtain⟨_,_,_,_,_,_,_,_,_,_,nd,_⟩:=id hS;exact abi I2 (λv d ⟨i,g1,g2⟩=>by
   obtain⟨x,x1,x2⟩:=dJ.get g2;obtain⟨u,u1,u2⟩:=rv.get x1;have:u=v:=by rw[u1]at g1;cases g1;rfl
   subst this;exact⟨x,u2,x2⟩) hc hS (by lia) (sa.sub λd hd=>(cL d).mp hd) λes l ys pe up hn rep=>q es l ys (pe.nodup_iff.mpr nd) (λd=>pe.mem_iff.trans<|cL d) up hn rep
 rcases hp with hp|hp
 .obtain⟨its,rv,il,hz⟩:=I1.list<|SqL.of (K:=X.K) hp;obtain⟨as,uI⟩:=RepAll.reads I1 dJ rv;have fK:xs.length=its.length:=rv.length;refine aeq (Pv:=λv d=>∃i:Nat,its[i]?=some v/\ds[i]?=some d) (ds:=ds) (I1.ok.hd hc) il.isList (by rw[be];lia) (λi v d hv hd=>?_) (by lia) (by lia) λh' tk aV hS cL aU hk ht=>cS its rv h' tk aV hS cL aU hk;rw[jo]at hv;obtain⟨bs,rd⟩:=vz uI hv hd;have iG:=ah hd;exact⟨⟨i,hv,hd⟩,rfl,(gR d iG).1,(gR d iG).2.1,F3 qU d iG,(gR d iG).2.2,bs,rd⟩
 .obtain⟨its,rv,il,hz⟩:=I1.tuple<|SqT.of (K:=X.K) hp;obtain⟨as,uI⟩:=RepAll.reads I1 dJ rv;have fK:xs.length=its.length:=rv.length;refine alw (Pv:=λv d=>∃i:Nat,its[i]?=some v/\ds[i]?=some d) (ds:=ds) (I1.ok.hd hc) (show s1.heap.IsTuple pl its.toArray from il) (by rw[be];lia) (λi v d hv hd=>?_) (by lia) (by lia) λh' tk aV hS cL aU hk ht=>cS its rv h' tk aV hS cL aU hk;rw[jo]at hv;obtain⟨bs,rd⟩:=vz uI hv hd;have iG:=ah hd;exact⟨⟨i,hv,hd⟩,rfl,(gR d iG).1,(gR d iG).2.1,F3 qU d iG,(gR d iG).2.2,bs,rd⟩
end
def SetX(prog:aI)(w:aJ)(h:Heap)(a:aF)(m:Z9 Str):Prop:=h.SetOf (PySem.strKind prog w) a (λx=>decide<|x∈m) m.length/\m.Nodup
def SetX.moved{prog:aI}{w:aJ}{h h':Heap}{a:aF}{m:Z9 Str}(x:SetX prog w h a m)(hS:∀o,h.get? a=some o->h'.get? a=some o):SetX prog w h' a m:=by obtain⟨⟨o,es,ep,t,ho,bK⟩,nd⟩:=x;exact⟨⟨o,es,ep,t,hS o ho,bK⟩,nd⟩
theorem SetX.fresh{prog:aI}{w:aJ}{h:Heap}{a:aF}{led:Bool}(hS:h.get? a=some {cls:=.type "set",dict:=none,data:=.set #[] 0 (.fresh 0 0 led)}):SetX prog w h a []:=
 ⟨⟨_,#[],0,_,hS,⟨rfl,rfl,rfl⟩,rfl,λe he=>by simp at he,λk=>by simp,by decide,by rfl,rfl⟩,List.nodup_nil⟩
section
variable{prog:aI}{w:aJ}{A:Around}{R:iQ->aB->Prop}{I:aF}{fp wr:Z9 aF}{G:Array jI->Array jI->Prop}{n:Nat}{P:Nat->aA->Prop}{St:Nat->aB->Prop}
theorem aff(W:WalksS prog w A.in1 I fp wr G n P St)(S:aF)(jA:S∉fp)(h0:Heap)(HV:∀b∈wr,h0.get? b=none)(hS0:h0.get? S=none)
  (val:Nat->Str) (jK:∀i v,P i v->∃t,v=.str (val i) t) (hb:n+1<Ep) :
  ∀(k i:Nat)(s:aB)(ds:Z9 Str),n-i=k->i<=n->St i s->Keep h0 s.heap->SetX prog w s.heap S ds->(∀d,d∈ds↔∃j,j<i/\val j=d)->ds.length<=i->
   (∀s' aV,DX (S::wr) G s s'->Keep h0 s'.heap->SetX prog w s'.heap S aV->(∀d,d∈aV↔∃j,j<n/\val j=d)->aV.length<=n->R (.ok<|.ret .none) s')->
   bY (aG prog w) A (.builtin "set.update.loop" ⟨[.ref S,.ref I],[]⟩) R s:=by
 have wU:S∉wr:=λh=>jA<|W.sub _ h;have mono:∀b∈wr,b∈S::wr:=λb hb=>ak _ hb;have mv:∀{s s':aB} {ds:Z9 Str},DX wr G s s'->Keep h0 s.heap->SetX prog w s.heap S ds->Keep h0 s'.heap/\SetX prog w s'.heap S ds:=λ{s s' ds} hm hk hS=>
  ⟨λb o e=>hm.heap b o (λz=>by rw[HV b z]at e;cases e)<|hk b o e,hS.moved λo e=>hm.heap S o wU e⟩
 intro k;induction k with
 | zero=>
  intro i s ds hk hi bD nH hS cL aU hR;have oW:i=n:=by lia
  subst oW;refine fc F.entry_set_update_loop (show _ from ?_);rw[dz ji (_:Gm)];show wpAny _ A.in1 (aX (.ref I) >>= _) _ _ _;refine ac<|W.done s _ _ bD λs' hm=>?_;obtain⟨k1,S1⟩:=mv hm nH hS;exact ao (hR s' ds (hm.mono mono) k1 S1 cL aU)
 | succ k ih=>
  intro i s ds hk hi bD nH hS cL aU hR;have bX:i<n:=by lia
  refine fc F.entry_set_update_loop (show _ from ?_);rw[dz ji (_:Gm)];show wpAny _ A.in1 (aX (.ref I) >>= _) _ _ _;refine ac<|W.item i s _ _ bX bD λv s' hP fN hm=>?_;obtain⟨t,rfl⟩:=jK i v hP;obtain⟨k1,S1,nd⟩:=mv hm nH hS;show wpAny _ A.in1 (eY [aA.str (val i) t] (setAdd S<|.str (val i) t) >>= _) _ _ _;refine ac<|db ?_;unfold setAdd;refine db ?_;refine ac<|(PySem.strKind prog w).pyHash (k:=val i) (cI _ _ _ _) ?_;refine wpAny_setAddHashed_of (knd:=PySem.strKind prog w) (s:={s' with toks:=s'.toks+1}) (cI _ _ _ _) rfl S1 (by lia) λh' nF pF=>?_;have k2:Keep h0 h':=λb o e=>by rw[nF.2 b (λz=>by rw[z,hS0]at e;cases e)];exact k1 b o e
  obtain⟨aV,S3,qR,qT⟩:∃aV:Z9 Str,SetX prog w h' S aV/\(∀d,d∈aV↔∃j,j<i+1/\val j=d)/\aV.length<=i+1:=by
   have base:∀d,(∃j,j<i+1/\val j=d)↔(d∈ds\/val i=d):=λd=>by
    rw[cL d];constructor
    .rintro⟨j,hj,e⟩;by_cases q:j=i
     .subst q;exact .inr e
     .exact .inl ⟨j,by lia,e⟩
    .rintro(⟨j,hj,e⟩|e)
     .exact⟨j,by lia,e⟩
     .exact⟨i,by lia,e⟩
   by_cases q:val i∈ds
   .refine⟨ds,⟨SetOf_congr pF (λx=>?_)<|by simp[q],nd⟩,λd=>?_,by lia⟩
    .by_cases e:x=val i
     .subst e;simp[q]
     .simp[e]
    .rw[base d];exact⟨.inl,λz=>z.elim id λe=>e▸q⟩
   .refine⟨val i::ds,⟨SetOf_congr pF (λx=>?_)<|by simp[q],ii.mpr ⟨q,nd⟩⟩,λd=>?_,by rw[bc];lia⟩
    .by_cases e:x=val i
     .subst e;simp
     .simp[e]
    .rw[base d,ap];exact⟨λz=>z.elim (λe=>.inr e.symm) .inl,λz=>z.elim .inr λe=>.inl e.symm⟩
  refine ao ⟨jh ji _,ih (i+1) _ aV (by lia) bX (W.frame _ s' _ _ fN (Nat.le_succ _) λb hb o e=>?_) k2 S3 qR qT λyD Ac zD HN Mo HF HL=>?_⟩
  .rw[nF.2 b (λh:b=S=>jA<|by rw[<-h];exact hb)];exact e
  .refine hR yD Ac (DX.trans W.gtrans ((hm.mono mono).then_heap (Nat.le_succ _) λb o hb e=>?_) zD) HN Mo HF HL;rw[nF.2 b (λh:b=S=>hb<|by rw[h];exact aj)];exact e
end
section
variable{prog:aI}{w:aJ}{A:Around}{E:aA->aB->Prop}{s:aB}
theorem ana{l:aF}{items:Array aA}{ds:Z9 Str}{Q:aA->aB->Prop}
  (hh:A.handled=none) (hl:s.heap.IsList l items) (hi:items.size=ds.length) (hE:∀(i:Nat) v d,items[i]?=some v->ds[i]?=some d->∃t,v=.str d t) (hb:ds.length+1<Ep)
  (h:∀(h':Heap)(tk:Nat)(aV:Z9 Str),SetX prog w h' s.heap.objs.size aV->(∀d,d∈aV↔d∈ds)->aV.length<=ds.length->Keep s.heap h'->s.toks<=tk->Q (.ref s.heap.objs.size) {s with heap:=h',toks:=tk}) :
  wpAny (aG prog w) A (call (.type "set") [.ref l]) Q E s:=by
 obtain⟨c,tl,Cz⟩:=bw.mro;have wL:=bw.made;have yU:=bw.sub;refine cH<|fI (show _ from ?_);show wpAny _ _ (callAny (.type "set") _) _ _ s;refine ao ⟨Code.quiet_builtin _<|by decide +kernel,fc F.entry_type_call (show _ from ?_)⟩;rw[Around.under_plain (fJ "set" [.ref l] []) (rfl:_=_)];have h1:=bw.notType;have h2:=bw.canCreate;have hct:=PySem.F.typeCall_set_1 (.ref l)
 repeat (any_goals (first|assumption|(wp_step)))
 refine ju (wb (.ref l) (E:=E) (Q₁:=λobj s₁=>∃led:Bool,led=(!byT w)/\obj=.ref s.heap.objs.size/\s₁={s with heap:=s.heap.push {cls:=.type "set",dict:=none,data:=.set #[] 0 (.fresh 0 0 led)}}) ⟨_,rfl,rfl,rfl⟩) λr s₁ hr=>?_
 match r,hr with
 | .error e,hr=>exact hr
 | .ok (.ret obj),hr=>
   obtain⟨led,bZ,rfl,rfl⟩:=hr;obtain⟨jD,dZ⟩:∃ob:Obj,ob={cls:=.type "set",dict:=none,data:=.set #[] 0 (.fresh 0 0 led)}:=⟨_,rfl⟩;have hS:(s.heap.push jD).get? s.heap.objs.size=some jD:=ba _ (by rw[dZ];rfl);have hT:aB.TypeIs {s with heap:=s.heap.push jD} (.ref s.heap.objs.size) "set":=⟨_,hS,by rw[dZ]⟩;have C8:SetX prog w (s.heap.push jD) s.heap.objs.size []:=by rw[dZ]at hS⊢;exact SetX.fresh hS
   rw[<-dZ];have hli:=bw.init.lookup;have hbi:=bw.init.bind (.ref s.heap.objs.size)
   repeat (any_goals (first|assumption|(wp_step)))
   refine ju (jg (R:=wants (λr s₂=>r=.none/\∃h' tk aV,s₂={s with heap:=h',toks:=tk}/\SetX prog w h' s.heap.objs.size aV/\(∀d,d∈aV↔d∈ds)/\aV.length<=ds.length/\Keep s.heap h'/\s.toks<=tk) E) bw.init.plain F.entry_set_init<|kC hT ?_) λr₂ s₂ dY=>?_
   .obtain⟨ol,jM,jP,nl,wR⟩:=hl;obtain⟨BQ,kH,vY,hJ⟩:=ol;simp only at jP wR;subst jP;subst wR;have qP:(s.heap.push jD).get? l=some {cls:=.type "list",dict:=kH,data:=.seq items nl,slots:=hJ}:=ai _ jM;have Cm:=PySem.F.sub_list_set;have Cn:=PySem.F.sub_list_frozenset;have dO:(aA.type "list" == aA.type "dict")=false:=by decide
    have gQ:(s.heap.push jD).IsList l items:=⟨_,qP,rfl,nl,rfl⟩;unfold Builtin.«set.__init__» AR Builtin.Frozenset.updateFrom;generalize Da:iF=PI;subst dZ
    wp_walk
    subst Da;refine js gQ ?_;refine ac<|fR ?_;have dC:∀b,s.heap.objs.size<=b->s.heap.get? b=none:=λb dH=>by
     cases hq:s.heap.get? b with
     | none=>rfl
     | some ob=>exact absurd (bi hq)<|Nat.not_lt.mpr dH
    have wP:l<s.heap.objs.size:=bi jM;have CS:A.in1.in1.in1.handled=none:=by simp[hh]
    have rL:(s.heap.push {cls:=.type "set",dict:=none,data:=.set #[] 0 (.fresh 0 0 led)}).objs.size=s.heap.objs.size+1:=j3 _ _;have qQ:l≠(s.heap.push {cls:=.type "set",dict:=none,data:=.set #[] 0 (.fresh 0 0 led)}).objs.size:=by rw[rL];exact ck<|Nat.lt_succ_of_lt wP
    have jA:s.heap.objs.size∉[(s.heap.push {cls:=.type "set",dict:=none,data:=.set #[] 0 (.fresh 0 0 led)}).objs.size,l]:=by rw[rL];simp only[ap,cv,or_false,not_or];exact⟨ck<|j2 _,Nat.ne_of_gt wP⟩
    have jK:∀(i:Nat)(v:aA),items[i]?=some v->∃t,v=.str (ds.getD i ⟨#[]⟩) t:=λi v hv=>by
     have bX:=(cz.mp hv).1;have hd:ds[i]?=some (ds.getD i ⟨#[]⟩):=by rw[bu,ae<|by lia];rfl
     exact hE i v _ hv hd
    refine aff (A:=A.in1.in1) ((gE.list CS _ l qQ items).toS) s.heap.objs.size jA s.heap (λb dH=>dC b<|by rw[a6.mp dH,rL];exact Nat.le_succ _) (dC _<|av _)
     (λi=>ds.getD i ⟨#[]⟩) jK (by lia) (items.size-0) 0 _ [] (by lia) (dv _)
     ⟨⟨_,ba _ rfl,rfl,rfl⟩,(gQ.push _)⟩ ?hK0 ?hS0 (λd=>by simp) (by simp) ?hR
    case hK0=>exact λb o e=>ai _<|ai _ e
    case hS0=>exact C8.moved λo e=>ai _ e
    case hR=>
     intro s' aV hm k' S' m' l';obtain⟨h',g',d',vO,qA⟩:=s';have eg:g'=s.gens:=hm.gens;have ed:d'=s.drawn:=hm.drawn;have eo:qA=s.os:=hm.os;subst eg;subst ed;subst eo;show wpAny _ _ _ _ _ _;refine ao ?_;show wpAny _ _ (ret aA.none) _ _ _;refine ao ⟨rfl,h',vO,aV,rfl,S',λd=>?_,by lia,k',hm.toks⟩;rw[m' d];constructor
     .rintro⟨j,hj,rfl⟩;rw[bu,ae<|by lia];exact fz _
     .intro hd;obtain⟨j,hj⟩:=gp hd;have CO:=(ar.mp hj).1;exact⟨j,by lia,by rw[bu,hj];rfl⟩
   .match r₂,dY with
    | .error e,dY=>exact dY
    | .ok (.ret r),dY=>
      obtain⟨rfl,h',tk,aV,rfl,iI,iG,tE,hk',wG⟩:=dY
      repeat (any_goals (first|assumption|(wp_step)))
      exact h _ _ aV iI iG tE hk' wG
    | .ok .next,dY=>exact dY.elim
    | .ok .brk,dY=>exact dY.elim
    | .ok .cont,dY=>exact dY.elim
 | .ok .next,hr=>exact hr.elim
 | .ok .brk,hr=>exact hr.elim
 | .ok .cont,hr=>exact hr.elim
end
def ap1:Z9 V->Hp->VK->Prop:=λvs H Q=>∃(p:aF)(zs:Z9 Str),vs=[.ref p]/\H p=some (.lst<|zs.map V.str)/\zs.length<=100/\
 ∀m:Z9 Str,m.Nodup->(∀z,z∈m↔z∈zs)->m.length<=zs.length->Q (.int m.length) H
section
variable{X:Cx}{p p2 pos hG:cU}{e:Expr}{t:TA}
def aiq(hc:X.calm=true)(hg:Gl X "len")(hm:X.mg "len" = none)(CU:Gl X "set")(wM:X.mg "set" = none)(ha:PA X [e] t)(h1:o7 e=true:=by rfl) :
  PE X (.Call (.Name "len" p) [.Call (.Name "set" p2) [e] [] hG] [] pos) (tCB ap1 t):=by
 intro aE s σ H Q I h;refine gi (ur I hg hm b9 ?_ (by decide)<|by decide);refine jw ?_ (m9 rfl) rfl;rw[m9 rfl];show wpAny _ _ (lO ((false,bL (.Call (.Name "set" p2) [e] [] hG) X.env)::bA pos (aK [] X.env))) _ _ s;refine j5 ?_;refine gi (ur I CU wM boot_set ?_ (by decide)<|by decide);refine f8 (thn (ha hG aE s σ H _ I h) λus s1 ⟨vs,H1,I1,r1,q1⟩=>?_) (m9 h1) rfl;obtain⟨pl,zs,rfl,hp,hb,q⟩:=q1;obtain⟨u,rfl,ru⟩:=se r1;cases (show u=aA.ref pl from ru);obtain⟨its,rv,il,hz⟩:=I1.list<|SqL.of (K:=X.K) hp;have fK:(zs.map V.str).length=its.length:=rv.length;rw[af]at fK;refine ana (ds:=zs) (I1.ok.hd hc) il.isList (by rw[be];lia) (λi v d hv hd=>?_) (by unfold Ep;lia) λh' tk aV hS cL aU hk ht=>?_
 .rw[jo]at hv;obtain⟨u,u1,u2⟩:=rv.get (i:=i) (x:=V.str d) (by rw[au,hd];rfl);rw[hv]at u1;cases u1;exact u2
 .obtain⟨⟨o,es,ep,tb,ho,eI,jO,_,_,_,zM,hn⟩,nd⟩:=hS;refine Calls.spliced_nil ?_
  refine call_len_set ho eI jO zM (by rw[hn];have:(aV.length:Int)<2000:=by lia
                                      exact Int.lt_of_lt_of_le this<|by decide) ?_
  refine⟨.int aV.length,H1,?_,⟨_,by rw[<-hn]⟩,q aV nd cL aU⟩;exact I1.kept hk
end
end L3
namespace L2
open PySem PySem.Spec PyProof.Rows
section
variable{κ:Type}[DecidableEq κ]
noncomputable def iM(aL:Z9 (κ×V))(k:κ):Option V:=(aL.find? λkv=>decide<|kv.1=k).map (·.2)
noncomputable def oK(aL:Z9 (κ×V))(k:κ)(v:V):Z9 (κ×V):=
 if (aL.any λkv=>decide<|kv.1=k)=true then aL.map (λkv=>if kv.1=k then(kv.1,v)else kv)else aL++[(k,v)]
def rg{p:κ×V}{r:Z9 (κ×V)}{k:κ}(e:p.1=k):iM (p::r) k=some p.2:=by simp[iM,List.find?_cons,e]
def q0{p:κ×V}{r:Z9 (κ×V)}{k:κ}(e:¬p.1=k):iM (p::r) k=iM r k:=by simp[iM,List.find?_cons,e]
theorem Gg(k:κ):∀aL:Z9 (κ×V),(aL.any λkv=>decide<|kv.1=k)=(iM aL k).isSome
 | []=>rfl
 | p::r=>by
  rw[List.any_cons];by_cases e:p.1=k
  .simp only[rg e,decide_eq_true e,Bool.true_or,Option.isSome_some]
  .rw[q0 e,decide_eq_false e,Bool.false_or];exact Gg k r
theorem ahz(k j:κ)(y:V):∀aL:Z9 (κ×V),iM (aL.map λkv=>if kv.1=k then(kv.1,y)else kv) j=(iM aL j).map λx=>if j=k then y else x
 | []=>rfl
 | p::r=>by
  have ih:=ahz k j y r;rw[cy];by_cases h:p.1=k
  .rw[if_pos h];by_cases e:p.1=j
   .rw[rg (p:=(p.1,y)) e,rg e,Option.map_some,if_pos<|e.symm.trans h]
   .rw[q0 (p:=(p.1,y)) e,q0 e,ih]
  .rw[if_neg h];by_cases e:p.1=j
   .rw[rg (p:=p) e,rg e,Option.map_some,if_neg λz=>h<|e.trans z]
   .rw[q0 (p:=p) e,q0 e,ih]
theorem ae8(k j:κ)(y:V):∀aL:Z9 (κ×V),iM aL k=none->iM (aL++[(k,y)]) j=if j=k then some y else iM aL j
 | [],_=>by
  by_cases e:k=j
  .rw[if_pos e.symm];exact rg (p:=(k,y)) e
  .rw[if_neg (λz=>e z.symm)];exact q0 (p:=(k,y)) e
 | p::r,hn=>by
  rw[List.cons_append];have hk:¬p.1=k:=λz=>by rw[rg z]at hn;cases hn
  rw[q0 hk]at hn;have ih:=ae8 k j y r hn;by_cases e:p.1=j
  .rw[rg e,rg e,if_neg λz=>hk<|e.trans z]
  .rw[q0 e,q0 e,ih]
theorem aop(aL:Z9 (κ×V))(k j:κ)(y:V):iM (oK aL k y) j=if j=k then some y else iM aL j:=by
 unfold oK;by_cases a:(aL.any λkv=>decide<|kv.1=k)=true
 .rw[if_pos a,ahz];rw[Gg]at a;by_cases e:j=k
  .obtain⟨x,hx⟩:=Option.isSome_iff_exists.mp a;rw[if_pos e,e,hx,Option.map_some,if_pos rfl]
  .rw[if_neg e];cases iM aL j with
   | none=>rfl
   | some x=>rw[Option.map_some,if_neg e]
 .rw[if_neg a];refine ae8 k j y aL ?_;rw[Gg]at a;cases q:iM aL k with
  | none=>rfl
  | some x=>rw[q]at a;exact(a rfl).elim
def yf(aL:Z9 (κ×V))(k:κ)(v:V):(oK aL k v).length<=aL.length+1:=by
 unfold oK;split
 .rw[af];lia
 .rw[a9,bc,kh];lia
theorem RelO.isSome_eq{o:Option V}{u:Option aA}(r:RelO o u):o.isSome=u.isSome:=by
 cases o with
 | none=>cases u with
  | none=>rfl
  | some _=>exact(show False from r).elim
 | some _=>cases u with
  | none=>exact(show False from r).elim
  | some _=>rfl
theorem RelO.getD{o:Option V}{u:Option aA}{d:V}{d':aA}(r:RelO o u)(rd:RelV d d'):RelV (o.getD d) (u.getD d'):=by
 cases o with
 | none=>cases u with
  | none=>exact rd
  | some _=>exact(show False from r).elim
 | some _=>cases u with
  | none=>exact(show False from r).elim
  | some _=>exact r
theorem KV.val{aL:Z9 (κ×V)}{vs:Z9 (κ×aA)}(r:KV aL vs)(k:κ):RelO (iM aL k) (eU vs k):=by
 unfold KV at r;induction r with
 | nil=>exact True.intro
 | @cons p q ps qs h t ih=>
  obtain⟨h1,h2⟩:=h;by_cases e:p.1=k
  .have e':q.1=k:=h1.symm.trans e;have b:eU (q::qs) k=some q.2:=by simp[eU,List.find?_cons,e']
   rw[rg e,b];exact h2
  .have e':¬q.1=k:=λz=>e<|h1.trans z;have b:eU (q::qs) k=eU qs k:=by simp[eU,List.find?_cons,e']
   rw[q0 e,b];exact ih
theorem KV.any{aL:Z9 (κ×V)}{vs:Z9 (κ×aA)}(r:KV aL vs)(k:κ):(aL.any λkv=>decide<|kv.1=k)=vs.any λkv=>decide (kv.1=k):=by
 unfold KV at r;induction r with
 | nil=>rfl
 | cons h t ih=>rw[List.any_cons,List.any_cons,ih,h.1]
theorem KV.repl{aL:Z9 (κ×V)}{vs:Z9 (κ×aA)}(r:KV aL vs)(k:κ){y:V}{u:aA}(ry:RelV y u) :
  KV (aL.map λkv=>if kv.1=k then(kv.1,y)else kv) (vs.map λkv=>if kv.1=k then(kv.1,u)else kv):=by
 unfold KV at r⊢;induction r with
 | nil=>exact .nil
 | @cons p q ps qs h t ih=>
  rw[cy,cy];refine .cons ?_ ih;obtain⟨h1,h2⟩:=h;by_cases e:p.1=k
  .rw[if_pos e,if_pos<|h1.symm.trans e];exact⟨h1,ry⟩
  .rw[if_neg e,if_neg λz=>e<|h1.trans z];exact⟨h1,h2⟩
def KV.put{aL:Z9 (κ×V)}{vs:Z9 (κ×aA)}(r:KV aL vs)(k:κ){y:V}{u:aA}(ry:RelV y u):KV (oK aL k y) (stored vs k u):=by
 unfold oK stored;rw[r.any k];by_cases e:(vs.any λkv=>decide<|kv.1=k)=true
 .rw[if_pos e,if_pos e];exact r.repl k ry
 .rw[if_neg e,if_neg e];exact cR.snoc r ⟨rfl,ry⟩
theorem KV.length{aL:Z9 (κ×V)}{vs:Z9 (κ×aA)}(r:KV aL vs):aL.length=vs.length:=cR.length r
end
theorem Ko{P:aI}{w:aJ}{k:Key}{u:aA}(r:RelV (kV k) u):(qk P w).is k u=true:=by
 cases k with
 | inl i=>obtain⟨t,e⟩:=(show ∃t,u=aA.int i t from r);subst e;exact afx P w i t
 | inr x=>obtain⟨t,e⟩:=(show ∃t,u=aA.str x t from r);subst e;exact af9 P w x t
theorem aeh{P:aI}{w:aJ}:∀{ks:Z9 Key} {us:Z9 aA},Vals (ks.map kV) us->ItemsAre (qk P w) ks us
 | [],_,r=>by rw[List.map_nil]at r;cases r;exact .nil
 | k::ks,_,r=>by
  rw[cy]at r;cases r with
  | cons h t=>exact .cons (Ko h)<|aeh t
noncomputable abbrev KT(H:Hp):Z9 (Z9 Key×V)->Z9 (Z9 Key×aF×aA)->Prop:=cR λp q=>p.1=q.1/\H q.2.1=some (.tup<|p.1.map kV)/\RelV p.2 q.2.2
theorem KT.val{H:Hp}{aL:Z9 (Z9 Key×V)}{xs:Z9 (Z9 Key×aF×aA)}(r:KT H aL xs)(k:Z9 Key):RelO (iM aL k) ((rZ xs k).map (·.2)):=by
 induction r with
 | nil=>exact True.intro
 | @cons p q ps qs h t ih=>
  obtain⟨h1,_,h2⟩:=h;by_cases e:p.1=k
  .have e':q.1=k:=h1.symm.trans e;have b:rZ (q::qs) k=some q.2:=by simp[rZ,List.find?_cons,e']
   rw[rg e,b];exact h2
  .have e':¬q.1=k:=λz=>e<|h1.trans z;have b:rZ (q::qs) k=rZ qs k:=by simp[rZ,List.find?_cons,e']
   rw[q0 e,b];exact ih
theorem KT.repl{H:Hp}{aL:Z9 (Z9 Key×V)}{xs:Z9 (Z9 Key×aF×aA)}(r:KT H aL xs)(k:Z9 Key){y:V}{u:aA}(ry:RelV y u) :
  KT H (aL.map λkv=>if kv.1=k then(kv.1,y)else kv) (xs.map<|putAt k u):=by
 induction r with
 | nil=>exact .nil
 | @cons p q ps qs h t ih=>
  rw[cy,cy];refine .cons ?_ ih;obtain⟨h1,h2,h3⟩:=h;unfold putAt;by_cases e:p.1=k
  .rw[if_pos e,if_pos<|h1.symm.trans e];exact⟨h1,h2,ry⟩
  .rw[if_neg e,if_neg λz=>e<|h1.trans z];exact⟨h1,h2,h3⟩
def KT.put{H:Hp}{aL:Z9 (Z9 Key×V)}{xs:Z9 (Z9 Key×aF×aA)}(r:KT H aL xs)(k:Z9 Key){b:aF}{y:V}{u:aA}(hb:H b=some (.tup<|k.map kV))(ry:RelV y u) :
  KT H (oK aL k y) (storedH xs k b u):=by
 have e:(aL.any λkv=>decide<|kv.1=k)=(rZ xs k).isSome:=by rw[Gg,(r.val k).isSome_eq,Option.isSome_map]
 unfold oK storedH;rw[e];by_cases q:(rZ xs k).isSome=true
 .rw[if_pos q,if_pos q];exact r.repl k ry
 .rw[if_neg q,if_neg q];exact cR.snoc r ⟨rfl,hb,ry⟩
def KT.keeps{H H':Hp}{aL:Z9 (Z9 Key×V)}{xs:Z9 (Z9 Key×aF×aA)}(r:KT H aL xs)(ht:∀b ys,H b=some (.tup ys)->H' b=some (.tup ys)):KT H' aL xs:=
 cR.mapP r λ_ _ z=>⟨z.1,ht _ _ z.2.1,z.2.2⟩
section
variable{P:aI}{w:aJ}{H:Hp}{h:Heap}{a:aF}
def aw2{u:HO}(ok:HOk P w H h)(e:Rd H a u):ObjOk P w H h a u:=e.ok ok
def Km{aL:Z9 (Key×V)}(ok:HOk P w H h)(e:Rd H a (.dK aL)):aL.length<=aC/\(a==aW)=false/\∃vs,KV aL vs/\h.DictOf (qk P w) a vs:=
 show ObjOk P w H h a (.dK aL)from aw2 ok e
def azo{aL:Z9 (Key×V)}(ok:HOk P w H h)(e:H a=some (.dK aL)):aL.length<=aC/\(a==aW)=false/\∃vs,KV aL vs/\h.DictOf (qk P w) a vs:=Km ok<|.inl e
def K3{ks:Z9 Key}(ok:HOk P w H h)(e:H a=some (.tup<|ks.map kV)):(gG<|qk P w).is h ks a:=by obtain⟨_,its,r,o,h1,h2,n,h3⟩:=(show ObjOk P w H h a (.tup<|ks.map kV)from ok a _ e);exact⟨o,its.toArray,n,h1,h2,h3,by simpa using aeh r⟩
theorem KD{aL:Z9 (Z9 Key×V)}(ok:HOk P w H h)(e:Rd H a (.dT aL)):aL.length<=aC/\(a==aW)=false/\
  ∃xs,KT H aL xs/\h.DictOfH (gG<|qk P w) a xs:=by
 obtain⟨z,y,xs,r,o,es,ep,h1,h2,h3,h4,h5⟩:=(show ObjOk P w H h a (.dT aL)from aw2 ok e);refine⟨z,y,xs,r,o,es,ep,h1,h2,h3,h4,λx hx=>?_,h5⟩;have all:∀{l:Z9 (Z9 Key×V)} {m:Z9 (Z9 Key×aF×aA)},KT H l m->∀x∈m,(gG<|qk P w).is h x.1 x.2.1:=by
  intro l m q;induction q with
  | nil=>intro x hx;exact nomatch hx
  | @cons p q ps qs hq t ih=>
   intro x hx;rcases ap.mp hx with e|hx
   .subst e;exact K3 ok<|by rw[<-hq.1];exact hq.2.1
   .exact ih x hx
 exact all r x hx
def ayi{aL:Z9 (Z9 Key×V)}(ok:HOk P w H h)(e:H a=some (.dT aL)):aL.length<=aC/\(a==aW)=false/\
  ∃xs,KT H aL xs/\h.DictOfH (gG<|qk P w) a xs:=KD ok<|.inl e
end
def DGet(H:Hp)(a:aF)(y:V)(r:Option V):Prop:=
 (∃aL k,Rd H a (.dK aL)/\y=kV k/\r=iM aL k)\/∃aL k b,Rd H a (.dT aL)/\y=.ref b/\H b=some (.tup<|k.map kV)/\r=iM aL k
def DPut(H:Hp)(a:aF)(y v:V)(H':Hp):Prop:=
 (∃aL k,H a=some (.dK aL)/\y=kV k/\aL.length<aC/\H'=upd H a (.dK<|oK aL k v))\/
 ∃aL k b,H a=some (.dT aL)/\y=.ref b/\H b=some (.tup<|k.map kV)/\aL.length<aC/\H'=upd H a (.dT<|oK aL k v)
def DGet.t{H:Hp}{a b:aF}{aL:Z9 (Z9 Key×V)}{k:Z9 Key}(e:H a=some (.dT aL))(eb:H b=some (.tup<|k.map kV)):DGet H a (.ref b) (iM aL k):=.inr ⟨aL,k,b,.inl e,rfl,eb,rfl⟩
def DPut.t{H:Hp}{a b:aF}{aL:Z9 (Z9 Key×V)}{k:Z9 Key}{v:V}(e:H a=some (.dT aL))(eb:H b=some (.tup<|k.map kV))(hl:aL.length<aC) :
  DPut H a (.ref b) v (upd H a<|.dT<|oK aL k v):=.inr ⟨aL,k,b,e,rfl,eb,hl,rfl⟩
section
variable{X:Cx}{aE:Z9 (aF×Obj)}{σ:St}{H:Hp}{s:aB}{a:aF}{y v:V}{u r:aA}{o:Option V}{A:Around}{E:aA->aB->Prop}
def Inv.big(I:Inv X aE σ H s):aW<s.heap.objs.size:=by have h:aH<s.heap.objs.size:=(I.mod.glob.keeps I.bk).lt;exact Nat.lt_trans (by decide) h
def akb{h':Heap}{t':Nat}{ob:HO}(I:Inv X aE σ H s)(mu:Mut (H a))(hs:cf a s.heap h')(he:∃q,h'.get? a=some q)(new:ObjOk X.prog X.w (upd H a ob) h' a ob) :
  Inv X aE σ (upd H a ob) {s with heap:=h',toks:=t'}:=
 I.write (x:=a) (e:=a) mu (.inl rfl) (λb q hb z=>(hs.2 b hb).trans z) he new
def au0{P:aI}{w:aJ}{H':Hp}{h':Heap}{aL:Z9 (Key×V)}{vs:Z9 (Key×aA)}(z:aL.length<=aC)(hd:(a==aW)=false)(rel:KV aL vs)(dd:h'.DictOf (qk P w) a vs) :
  ObjOk P w H' h' a (.dK aL):=⟨z,hd,vs,rel,dd⟩
def ak3{H':Hp}{Q:Unit->aB->Prop}(hu:A.units+1<bM)(I:Inv X aE σ H s)(g:DPut H a y v H')(ry:RelV y u)(rv:RelV v r)(h:∀s',Inv X aE σ H' s'->Q () s') :
  wpAny (aG X.prog X.w) A (setItem (.ref a) u r) Q E s:=by
 rcases g with ⟨aL,k,e,ey,l,eH⟩|⟨aL,k,b,e,ey,eb,l,eH⟩
 .subst ey eH;obtain⟨z,hd,vs,rel,dd⟩:=azo I.hok e;have hz:vs.length<=aC:=by rw[<-rel.length];exact z
  have hl:(oK aL k v).length<=aC:=by have:=yf aL k v;lia
  refine wpAny_setItem_pairs (hsz:=hz) (Ko ry) dd λh' Ft hs=>h _ ?_;have he:∃q,h'.get? a=some q:=let ⟨q,_,_,hq,_⟩:=Ft;⟨q,hq⟩
  exact akb I (by rw[e];exact True.intro) hs he<|au0 hl hd (rel.put k rv) Ft
 .subst ey eH;cases (show u=aA.ref b from ry);obtain⟨z,hd,xs,rel,dd⟩:=ayi I.hok e;have hz:xs.length<=aC:=by rw[<-cR.length rel];exact z
  have hl:(oK aL k v).length<=aC:=by have:=yf aL k v;lia
  refine wpAny_setItem_heap (hsz:=hz) (AD hu) (K3 I.hok eb) dd λh' Ft hs=>h _ ?_;obtain⟨q,es,ep,hq,h2,h3,h4,_,h5⟩:=Ft;refine akb I (by rw[e];exact True.intro) hs ⟨q,hq⟩ ⟨hl,hd,_,(rel.put k eb rv).keeps λc ys ec=>?_,q,es,ep,hq,h2,h3,h4,h5⟩;rw[lh (KQ ec e λz=>nomatch z)];exact ec
end
def ayv(td ty tv:TE):TS:=λD σ H=>tv σ H λv H1=>td σ H1 λx H2=>ty σ H2 λy H3=>∃a H4,x=.ref a/\DPut H3 a y v H4/\D.nx σ H4
section
variable{X:Cx}{o i e value:Expr}{pos pX tZ:cU}{td ty tv:TE}
def ar4(hu:X.A.units+1<bM)(ho:PE X o td)(hi:PE X i ty)(hv:PE X value tv)(hs:gH value (some<|.Subscript o i pX) pos.line X.env=bJ false) :
  PS X (.Assign [.Subscript o i pX] value pos) (ayv td ty tv):=by
 intro aE s σ H D I h;refine wpAny_Assign_Subscript (thn (hv aE s σ H _ I h) λr s1 ⟨v,H1,I1,rv,q1⟩=>thn (ho aE s1 σ H1 _ I1 q1) λu s2 ⟨x,H2,I2,rx,q2⟩=>thn (hi aE s2 σ H2 _ I2 q2) λiv s3 ⟨y,H3,I3,ry,a,H4,ex,g,q3⟩=>?_) hs;subst ex;obtain rfl:u=aA.ref a:=rx;exact ak3 hu I3 g ry rv λs4 I4=>⟨σ,H4,I4,q3⟩
end
structure M2(X:Cx)(o:Expr)(m:Str)(eS:cU)(e f:Expr)(bF:cU):Prop where
 base:iB o m X.env (bL o X.env)=bL o X.env
 few:((bA bF<|aK [e,f] X.env).all (λx=>!x.1)&&(jG bF<|dX [] X.env).all (λx=>x.1.isSome)
  && decide (([e,f]:Z9 Expr).length+([]:Z9 eE).length+(if ([]:Z9 eE).isEmpty then 0 else 1)<30))=true
 line:(eS.endLine==bF.line)=true
 trees:bA bF (aK [e,f] X.env)=[(false,bL e X.env),(false,bL f X.env)]
def IsD(H:Hp)(a:aF):Prop:=(∃aL,Rd H a<|.dK aL)\/∃aL,Rd H a<|.dT aL
def awl{X:Cx}{aE:Z9 (aF×Obj)}{σ:St}{H:Hp}{s:aB}{a:aF}(I:Inv X aE σ H s)(d:IsD H a) :
  s.TypeIs (.ref a) "dict"/\(∀b,aA.ref a=.ref b->∃ob,s.heap.get? b=some ob/\ob.dict=none)/\(a==aW)=false:=by
 rcases d with ⟨aL,e⟩|⟨aL,e⟩
 .obtain⟨_,hd,vs,_,dd⟩:=Km I.hok e;refine⟨dd.typeIs,λb q=>?_,hd⟩;cases q;obtain⟨ob,_,_,h1,h2,_⟩:=dd;exact⟨ob,h1,h2.2.1⟩
 .obtain⟨_,hd,xs,_,dd⟩:=KD I.hok e;refine⟨dd.typeIs,λb q=>?_,hd⟩;cases q;obtain⟨ob,_,_,h1,h2,_⟩:=dd;exact⟨ob,h1,h2.2.1⟩
section
variable{X:Cx}{aE:Z9 (aF×Obj)}{σ:St}{H:Hp}{s:aB}{a:aF}{y d:V}{u r:aA}{o:Option V}{A:Around}{E:aA->aB->Prop}
def avb{Q:aA->aB->Prop}(hu:A.units+1<bM)(I:Inv X aE σ H s)(g:DGet H a y o)(ry:RelV y u)(rd:RelV d r)(h:∀w' s',Inv X aE σ H s'->RelV (o.getD d) w'->Q w' s') :
  wpAny (aG X.prog X.w) A (call (.builtin "dict.get") [.ref a,u,r]) Q E s:=by
 rcases g with ⟨aL,k,e,ey,l⟩|⟨aL,k,b,e,ey,eb,l⟩
 .subst ey;obtain⟨z,hd,vs,rel,dd⟩:=Km I.hok e;refine call_meetsIn PySem.F.slot_dict_get dd.typeIs PySem.F.entry_dict_get (PySem.F.args_dict_get_3 _ _ _) (meets_dict_get_default (qk X.prog X.w) a (Ko ry) hd r) ⟨_,dd.mapOf,h _ _ (I.tok _) ?_⟩;rw[l];exact(rel.val k).getD rd
 .subst ey;cases (show u=aA.ref b from ry);obtain⟨z,hd,xs,rel,dd⟩:=KD I.hok e;refine call_meetsIn PySem.F.slot_dict_get dd.typeIs PySem.F.entry_dict_get (PySem.F.args_dict_get_3 _ _ _) (meetsH_dict_get_default (gG<|qk X.prog X.w) a b hd r) ⟨AD hu,k,xs,K3 I.hok eb,dd,h _ _ (I.tok _) ?_⟩;rw[l];exact(rel.val k).getD rd
end
def aw3(td ty tx:TE):TE:=λσ H Q=>td σ H λx H1=>∃a,x=.ref a/\IsD H1 a/\ty σ H1 λy H2=>tx σ H2 λz H3=>∃o,DGet H3 a y o/\Q (o.getD z) H3
section
variable{X:Cx}{o e f:Expr}{eS bF:cU}{td ty tx:TE}
def ao1(hu:X.A.units+1<bM)(ho:PE X o td)(he:PE X e ty)(hf:PE X f tx)(m:M2 X o "get" eS e f bF):PE X (.Call (.Attribute o "get" eS) [e,f] [] bF) (aw3 td ty tx):=by
 intro aE s σ H Q I h;refine wpAny_Call_method m.base m.few m.line PySem.F.plainAttrs_dict PySem.F.slot_dict_get PySem.F.type_dict_get<|thn (ho aE s σ H _ I h) λu s1 ⟨x,H1,I1,rx,a,ex,d,q1⟩=>?_;subst ex;obtain rfl:u=aA.ref a:=rx;obtain⟨t1,t2,_⟩:=awl I1 d;refine⟨t1,t2,?_⟩;rw[m.trees];refine Calls.callWith_builtin rfl (Calls.evalArgs_plain (j5 (thn (he aE s1 σ H1 _ I1 q1) λiv s2 ⟨y,H2,I2,ry,q2⟩=>
  j5 (thn (hf aE s2 σ H2 _ I2 q2) λfv s3 ⟨z,H3,I3,rz,ov,g,q3⟩=>Calls.spliced_nil ?_))))
 exact avb hu I3 g ry rz λw' s4 I4 pR=>⟨_,H3,I4,pR,q3⟩
end
end L2
namespace L3
structure Mat where
 h:Nat
 w:Nat
 g:Nat->Nat->Nat
noncomputable def vg(M:Mat)(r:Nat):Z9 Nat:=(dt M.w).map (M.g r)
theorem abu{α:Type}{R:α->α->Prop}(as:∀x y,R x y->¬R y x):∀{xs ys:List α},xs.Pairwise R->ys.Pairwise R->(∀z,z∈xs↔z∈ys)->xs=ys
 | [],[],_,_,_=>rfl
 | [],y::ys,_,_,h=>absurd ((h y).mpr aj) (by simp)
 | x::xs,[],_,_,h=>absurd ((h x).mp aj) (by simp)
 | x::xs,y::ys,p,q,h=>by
  obtain⟨p1,p2⟩:=gt.mp p;obtain⟨q1,q2⟩:=gt.mp q;have e:x=y:=by
   rcases ap.mp ((h x).mp aj)with e|a
   .exact e
   .rcases ap.mp ((h y).mpr aj)with e|b
    .exact e.symm
    .exact absurd (q1 x a)<|as _ _<|p1 y b
  subst e;refine congrArg _<|abu as p2 q2 λz=>⟨λhz=>?_,λhz=>?_⟩
  .rcases ap.mp ((h z).mp (ak _ hz))with e|a
   .subst e;exact absurd (p1 z hz) λk=>as _ _ k k
   .exact a
  .rcases ap.mp ((h z).mpr (ak _ hz))with e|a
   .subst e;exact absurd (q1 z hz) λk=>as _ _ k k
   .exact a
end L3
namespace L3
open PySem PySem.Spec PyProof.Rows L2
section
variable{prog:aI}{w:aJ}{A:Around}{E:aA->aB->Prop}{s:aB}
theorem ae9{op:kY}(hop:op=.Lt\/op=.Gt){a b:Str}{t u:pN}{Q:aA->aB->Prop}(hh:A.handled=none)
  (h:∀h' tk v,(∀c o,s.heap.get? c=some o->h'.get? c=some o)->v=(if (if op=.Lt then decide (b.cps.toList<a.cps.toList)else decide (a.cps.toList<b.cps.toList))=true then aA.str b u else .str a t)->Q v {s with heap:=h',toks:=tk}) :
  wpAny (aG prog w) A.in1 (iF<|.ref s.heap.objs.size) (λit s₂=>∃I fp wr n P St bt,it=.ref I/\gE prog w A.in1 I fp wr n P St/\St 0 s₂.heap/\(∀b∈fp,b<s₂.heap.objs.size)/\0<n/\CmpOf prog w A.in1 op P bt/\
   ∀v h' tk,P (eD bt<|n-1) v->(∀b o,b∉wr->s₂.heap.get? b=some o->h'.get? b=some o)->Q v {s₂ with heap:=h',toks:=tk}) E
   {s with heap:=s.heap.push {cls:=.type "tuple",data:=.seq #[.str a t,.str b u]}}:=by
 have hT:(s.heap.push {cls:=.type "tuple",data:=.seq #[.str a t,.str b u]}).IsTuple s.heap.objs.size #[.str a t,.str b u]:=(ma _ (ba _ rfl) rfl 0 rfl);refine dQ hT ?_;have hsz:(s.heap.push {cls:=.type "tuple",data:=.seq #[.str a t,.str b u]}).objs.size=s.heap.objs.size+1:=j3 ..;have two:∀(i:Nat)(v:aA),(#[.str a t,.str b u]:Array aA)[i]?=some v->v=.str a t\/v=.str b u:=λi v e=>by
  match i,e with
  | 0,e=>exact .inl (by simpa using e.symm)
  | 1,e=>exact .inr (by simpa using e.symm)
  | i+2,e=>simp at e
 refine⟨_,[_,s.heap.objs.size],[_],_,_,_,λi j=>match (#[aA.str a t,.str b u]:Array aA)[i]?,(#[aA.str a t,.str b u]:Array aA)[j]? with
   | some (.str x _),some (.str y _)=>if op=.Lt then decide (x.cps.toList<y.cps.toList)else decide (y.cps.toList<x.cps.toList)
   | _,_=>false,rfl,gE.tuple (A:=A.in1) hh _ s.heap.objs.size (by rw[hsz];exact ck<|j2 _) #[.str a t,.str b u],
  ⟨⟨_,ba _ rfl,rfl,rfl⟩,hT.push _⟩,λc hc=>?_,by simp,?_,λv h' tk hP hk=>?_⟩
 .show c<((s.heap.push _).push _).objs.size;rw[j3,hsz];rcases ap.mp hc with rfl|hc
  .rw[hsz];exact j2 _
  .rcases ap.mp hc with rfl|hc
   .exact Nat.lt_succ_of_lt<|j2 _
   .cases hc
 .intro i j vi vj s Q E hi hj h;dsimp only at h;rw[hi,hj]at h;have Ca:∀v,(v=aA.str a t\/v=.str b u)->∃x y,v=.str x y:=λv hv=>by rcases hv with e|e<;>exact(lv _ _ e)
  obtain⟨x,tx,rfl⟩:=Ca vi<|two i vi hi;obtain⟨y,ty,rfl⟩:=Ca vj<|two j vj hj;rcases hop with rfl|rfl
  .exact(PyProof.Rows.lt_str (by simpa using h):wpAny (aG prog w) _ (aS .Lt (.str x tx)<|.str y ty) Q E s)
  .exact richCompare_gives (op:=.Gt) (cY s _ tx) (cY s _ ty) F.slot_str_gt F.entry_str_gt (F.args_str_gt_2 _ _) (gives_str_gt x y tx ty) (λe=>nomatch e) (show Q (.bool<|decide<|y.cps.toList<x.cps.toList) s from by simpa using h)
 .have Iq:∀c o,s.heap.get? c=some o->h'.get? c=some o:=λc o e=>by
   refine hk c o (λhm=>?_)<|ai _<|ai _ e;rcases ap.mp hm with e1|hm
   .have:=bi e;rw[e1,hsz]at this;exact gy _<|Nat.lt_of_succ_lt this
   .cases hm
  refine h h' tk v Iq ?_;have tI:(#[.str a t,.str b u]:Array aA)[if (if op=.Lt then decide (b.cps.toList<a.cps.toList)else decide (a.cps.toList<b.cps.toList))=true then 1 else 0]?=some v:=hP;cases hb:(if op=.Lt then decide (b.cps.toList<a.cps.toList)else decide (a.cps.toList<b.cps.toList))with
  | true=>rw[hb,if_pos rfl]at tI;rw[if_pos rfl];exact(cn tI).symm
  | false=>rw[hb,if_neg am]at tI;rw[if_neg am];exact(cn tI).symm
end
section
variable{X:Cx}
def ach(hc:X.calm=true):qj X (.builtin "min") (λxs H Q=>∃i j:Nat,xs=[.str ⟨#[i]⟩,.str ⟨#[j]⟩]/\Q (.str ⟨#[lB i j]⟩) H):=by
 intro aE s σ H xs us Q I r h;obtain⟨i,j,rfl,q⟩:=h;obtain⟨u,w',rfl,⟨t,rfl⟩,⟨t',rfl⟩⟩:=Al r;refine call_min_two<|ae9 (.inl rfl) (I.ok.hd hc) λh' tk v k hv=>?_;rw[if_pos rfl]at hv;by_cases gW:j<i
 .rw[if_pos (decide_eq_true (show[_]<[_]from kj.mpr<|.inl gW))]at hv;subst hv;rw[Nat.min_eq_right (cb gW)]at q;exact(lv (.str _) H ⟨I.kept k,⟨_,rfl⟩,q⟩)
 .rw[if_neg (λz=>by have z':=of_decide_eq_true z;rcases kj.mp (show[_]<[_]from z')with h|⟨_,h⟩;exact gW h;exact absurd h<|List.not_lt_nil _)]at hv;subst hv;rw[Nat.min_eq_left (Nat.le_of_not_lt gW)]at q;exact(lv (.str _) H ⟨I.kept k,⟨_,rfl⟩,q⟩)
def acq(hc:X.calm=true):qj X (.builtin "max") (λxs H Q=>∃i j:Nat,xs=[.str ⟨#[i]⟩,.str ⟨#[j]⟩]/\Q (.str ⟨#[wA i j]⟩) H):=by
 intro aE s σ H xs us Q I r h;obtain⟨i,j,rfl,q⟩:=h;obtain⟨u,w',rfl,⟨t,rfl⟩,⟨t',rfl⟩⟩:=Al r;refine call_max_two<|ae9 (.inr rfl) (I.ok.hd hc) λh' tk v k hv=>?_;rw[if_neg (show ¬(kY.Gt=kY.Lt) by decide)]at hv;by_cases gW:i<j
 .rw[if_pos (decide_eq_true (show[_]<[_]from kj.mpr<|.inl gW))]at hv;subst hv;rw[Nat.max_eq_right (cb gW)]at q;exact(lv (.str _) H ⟨I.kept k,⟨_,rfl⟩,q⟩)
 .rw[if_neg (λz=>by have z':=of_decide_eq_true z;rcases kj.mp (show[_]<[_]from z')with h|⟨_,h⟩;exact gW h;exact absurd h<|List.not_lt_nil _)]at hv;subst hv;rw[Nat.max_eq_left (Nat.le_of_not_lt gW)]at q;exact(lv (.str _) H ⟨I.kept k,⟨_,rfl⟩,q⟩)
end
noncomputable def vI(M:Mat)(r c:Nat):Z8:=.tuple [.int (r:Nat),.int (c:Nat),.str ⟨#[M.g r c]⟩]
noncomputable def vG(M:Mat):Z9 Z8:=(dt<|M.h*M.w).map λi=>vI M (i/M.w)<|i % M.w
noncomputable def sk(M:Mat):Z9 Str:=(dt M.h).map λr=>⟨(vg M r).toArray⟩
def auw{h w r c:Nat}(hr:r<h)(hc:c<w):r*w+c<h*w:=by have:(r+1)*w<=h*w:=Nat.mul_le_mul_right w hr;rw[Nat.add_mul]at this;omega
def aq8{w r c:Nat}(hc:c<w):(r*w+c)/w=r:=by rw[Nat.mul_comm,Nat.mul_add_div<|by omega,Nat.div_eq_of_lt hc,Nat.add_zero]
def aqb{w r c:Nat}(hc:c<w):(r*w+c) % w=c:=by rw[Nat.mul_comm,Nat.mul_add_mod,g0 hc]
def aps(M:Mat)(d:Z8):d∈vG M↔∃r c,r<M.h/\c<M.w/\d=vI M r c:=by
 unfold vG;rw[a7];constructor
 .rintro⟨i,hi,rfl⟩;have fH:i<M.h*M.w:=by simpa using hi
  have hw:0<M.w:=by
   rcases Nat.eq_zero_or_pos M.w with e|e
   .rw[e,Nat.mul_zero]at fH;omega
   .exact e
  exact(lv (i/M.w) (i % M.w) ⟨(Nat.div_lt_iff_lt_mul hw).mpr fH,Nat.mod_lt _ hw,rfl⟩)
 .rintro⟨r,c,hr,hc,rfl⟩;exact⟨r*M.w+c,by simpa using auw hr hc,by rw[aq8 hc,aqb hc]⟩
def uu(M:Mat):(sk M).length=M.h:=by unfold sk;simp
def anx{M:Mat}{r:Nat}(h:r<M.h):(sk M)[r]?=some ⟨(vg M r).toArray⟩:=by unfold sk;rw[au,List.getElem?_range h];rfl
def Gc(M:Mat)(r:Nat):(vg M r).length=M.w:=by unfold vg;simp
def amc{M:Mat}{r c:Nat}(h:c<M.w):(vg M r)[c]?=some (M.g r c):=by unfold vg;rw[au,List.getElem?_range h];rfl
def apw{M:Mat}{z:Str}(h:z∈sk M):∃r,r<M.h/\z=⟨(vg M r).toArray⟩:=by unfold sk at h;obtain⟨r,hr,rfl⟩:=a7.mp h;exact⟨r,by simpa using hr,rfl⟩
end L3
namespace L2
open PySem PySem.Spec PyProof.Rows
def apl{P:aI}{w:aJ}{H:Hp}(h:Heap)(hb:aW<h.objs.size):ObjOk P w H (h.push {cls:=.type "dict",data:=.dict #[]}) h.objs.size (.dT []):=
 ⟨dv _,beq_eq_false_iff_ne.mpr<|Ne.symm<|ck hb,[],.nil,_,#[],0,ba _ rfl,⟨rfl,rfl,rfl⟩,rfl,rfl,List.nodup_nil⟩
def av0:TE:=λ_ H Q=>∀p,H p=none->Q (.ref p) (upd H p<|.dT [])
section
variable{X:Cx}{pos:cU}
def ap4:PE X (.Dict [] [] pos) av0:=λaE s σ H Q I h=>
 wpAny_Dict_empty ⟨.ref s.heap.objs.size,_,I.laid (a:=s.heap.objs.size) (o:=.dT []) (t':=s.toks) (λ_ _ q=>ai _ q) (av _)<|apl s.heap I.big,rfl,h _<|I.hok.fresh<|av _⟩
end
end L2
namespace L3
open PySem PySem.Spec PyProof.Rows L2 Builtin.Str
theorem ae1:∀l:Z9 (Str×pN),Vals ((l.map (·.1)).map V.str) (strValues l)
 | []=>.nil
 | p::l=>.cons ⟨_,rfl⟩<|ae1 l
theorem ag5{c:Nat}:∀{a a' p p':Z9 Nat},c∉a->c∉a'->a++c::p=a'++c::p'->a=a'/\p=p'
 | [],[],_,_,_,_,e=>⟨rfl,(List.cons.inj e).2⟩
 | [],x::a',_,_,_,h,e=>absurd (ap.mpr<|.inl (List.cons.inj e).1) h
 | x::a,[],_,_,h,_,e=>absurd (ap.mpr<|.inl (List.cons.inj e).1.symm) h
 | x::a,y::a',_,_,h,h',e=>by obtain⟨e1,e2⟩:=List.cons.inj e;obtain⟨r1,r2⟩:=ag5 (λm=>h<|ak _ m) (λm=>h'<|ak _ m) e2;exact⟨by rw[e1,r1],r2⟩
def og{c:Nat}{x y:Str}{r:Z9 Str}:(a8 ⟨#[c]⟩ (x::y::r)).cps.toList=x.cps.toList++c::(a8 ⟨#[c]⟩ (y::r)).cps.toList:=by show(x.cps ++ #[c]++(a8 ⟨#[c]⟩ (y::r)).cps).toList=_;simp
def ub{x y:Str}(h:x.cps.toList=y.cps.toList):x=y:=by obtain⟨⟨a⟩⟩:=x;obtain⟨⟨b⟩⟩:=y;cases (show a=b from h);rfl
theorem ahe{c:Nat}:∀{xs ys:Z9 Str},xs≠[]->ys≠[]->(∀p∈xs,c∉p.cps.toList)->(∀p∈ys,c∉p.cps.toList)->a8 ⟨#[c]⟩ xs=a8 ⟨#[c]⟩ ys->xs=ys
 | [],_,h,_,_,_,_=>absurd rfl h
 | _,[],_,h,_,_,_=>absurd rfl h
 | [x],[y],_,_,_,_,e=>by have e':x=y:=e;rw[e']
 | [x],y::y2::r,_,_,h1,_,e=>by have e':=congrArg (λz:Str=>z.cps.toList) e;simp only[og]at e';exact absurd (by rw[show x.cps.toList=_ from e'];simp) (h1 x aj)
 | x::x2::r,[y],_,_,_,h2,e=>by have e':=congrArg (λz:Str=>z.cps.toList) e;simp only[og]at e';exact absurd (by rw[show y.cps.toList=_ from e'.symm];simp) (h2 y aj)
 | x::x2::r,y::y2::r2,_,_,h1,h2,e=>by have e':=congrArg (λz:Str=>z.cps.toList) e;simp only[og]at e';obtain⟨a1,a2⟩:=ag5 (h1 x aj) (h2 y aj) e';rw[ub a1,ahe (xs:=x2::r) (ys:=y2::r2) (by simp) (by simp) (λp hp=>h1 p<|ak _ hp) (λp hp=>h2 p<|ak _ hp)<|ub a2]
def xc{c:Nat}{xs:Z9 Str}(h0:xs≠[])(h:∀p∈xs,c∉p.cps.toList):jt (a8 ⟨#[c]⟩ xs) ⟨#[c]⟩=xs:=
 ahe (λe=>by have:=split_pos (a8 ⟨#[c]⟩ xs) ⟨#[c]⟩;rw[e]at this;simp at this) h0 (StrLaws.split_free _ c) h (StrLaws.join_split _ _)
section
variable{X:Cx}
def uv:MtR X "str.split" (λx vs H Q=>∃(z:Str)(c:Nat),x=.str z/\vs=[.str ⟨#[c]⟩]/\z.length+2<=aC/\
  ∀l,H l=none->Q (.ref l) (upd H l<|.lst<|(jt z ⟨#[c]⟩).map V.str)):=by
 intro aE s σ H x vs v us Q I rx rv h;obtain⟨z,c,rfl,rfl,hz,q⟩:=h;obtain⟨t,rfl⟩:=rx;obtain⟨u,rfl,t2,rfl⟩:=se rv;have hl:=split_le z ⟨#[c]⟩;have key:∀(l:Z9 (Str×pN)) tk n,l.map (·.1)=jt z ⟨#[c]⟩->EP X aE σ Q (.ref s.heap.objs.size) {s with heap:=s.heap.push {cls:=.type "list",data:=.seq (strValues l).toArray n},toks:=tk}:=λl tk n e=>by have hn:H s.heap.objs.size=none:=I.hok.fresh<|av _;have hv:=ae1 l;rw[e]at hv;exact(lv (.ref s.heap.objs.size) _ ⟨I.laid (t':=tk) (o:=.lst<|(jt z ⟨#[c]⟩).map V.str) (λb o h=>ai _ h) (av _) ⟨by rw[af];lia,(lv _ n ⟨hv,ba _ rfl⟩)⟩,rfl,q _ hn⟩)
 by_cases h1:(decide (z.length<(⟨#[c]⟩:Str).length)||decide (strKind z<strKind ⟨#[c]⟩))=true
 .exact dA F.slot_str_split (cY _ _ _) F.entry_str_split (F.args_str_split_2 _ _) (meets_str_split_cannot_occur z _ t t2 h1)<|key [(z,t)] s.toks _<|by unfold jt;rw[if_pos h1];rfl
 .have jB:=du.mpr h1;by_cases hf:(occurrences z ⟨#[c]⟩ 0 z.length<|z.length+1).isEmpty=true
  .exact dA F.slot_str_split (cY _ _ _) F.entry_str_split (F.args_str_split_2 _ _) (meets_str_split_not_found z _ t t2 jB rfl hf)<|key [(z,t)] s.toks _<|by unfold jt;rw[if_neg h1,if_pos hf];rfl
  .have e:jt z ⟨#[c]⟩=partsBetween z (occurrences z ⟨#[c]⟩ 0 z.length<|z.length+1) (⟨#[c]⟩:Str).length:=by unfold jt;rw[if_neg h1,if_neg hf]
   refine dA F.slot_str_split (cY _ _ _) F.entry_str_split (F.args_str_split_2 _ _) (meets_str_split_sep z _ t t2 jB rfl (du.mpr hf) (by lia)<|by rw[<-e];lia) ?_;refine(?_:wants _ _ _ {s with toks:=_,heap:=s.heap.push {cls:=.type "list",data:=.seq (strsFrom s.toks<|partsBetween z (occurrences z ⟨#[c]⟩ 0 z.length<|z.length+1) (⟨#[c]⟩:Str).length).toArray}});rw[strsFrom_eq];exact key (numbered s.toks _) _ _<|(numbered_texts _ _).trans e.symm
end
end L3
namespace L3
open PySem PySem.Spec PyProof.Rows L2
section
variable{X:Cx}
def zu:qj X (.type "int") (λxs H Q=>∃n:Int,xs=[.str (cB n)]/\0<=n/\n<10^10/\Q (.int n) H):=by intro aE s σ H xs us Q I r h;obtain⟨n,rfl,h0,h1,q⟩:=h;obtain⟨u,rfl,t,rfl⟩:=se r;exact PySem.W.KIN.call_num h0 h1<|lv (.int n) H ⟨I.tok _,⟨_,rfl⟩,q⟩
end
noncomputable def Jel(K:aq)(a:aF):It:=
 ⟨λi H=>∃xs x,SqL K H a xs/\xs[i]?=some x,λi H v H'=>∃p x,H p=none/\v=.ref p/\H'=upd H p (.tup [.int i,x])/\∀xs,SqL K H a xs->xs[i]?=some x,λi H=>∃xs,SqL K H a xs/\xs.length<=i⟩
def ai1{P:aI}{w:aJ}{K:aq}{jR:Z9 Expr}{x1}{pos:cU}(a e I:aF)(dO:e≠I) :
  tO P w K (.Tuple jR x1 pos) (Jel K a) [e,I] e (λi h=>(∃gM,fA h e I i gM)/\h.IsListIter I a i):=by
 refine ae4 (Jel K a) e I dO (λi h=>h.IsListIter I a i) (λi h st=>?_) (λi h h' st k=>?_) (λX hP hw hK i aE s σ H Iv st hg=>?_) λX hP hw hK i aE s σ H Iv st hg A' R E' hh q=>?_
 .obtain⟨o,ho,c,d⟩:=st;exact⟨o,ho,λv z=>by rw[d]at z;cases z⟩
 .obtain⟨o,ho,r⟩:=st;exact⟨o,k o ho,r⟩
 .subst hP hw hK;obtain⟨xs,x,hq,hx⟩:=hg;obtain⟨its,rv,p,hz⟩:=Iv.list hq;obtain⟨u,hu,ru⟩:=rv.get hx;refine⟨λu'=>u'=u,λu' hu'=>?_,λA' R E' q=>?_⟩
  .subst hu';exact⟨x,ru,s.heap.objs.size,x,Iv.hok.fresh<|av _,rfl,rfl,λys hy=>by rw[Iv.list_inj hy hq];exact hx⟩
  .exact wpAny_nextOf_list_item st p.isList (x:=u) (by simpa using hu) λg eX sb=>q u g s.toks rfl eX sb
 .subst hP hw hK;obtain⟨xs,hq,hx⟩:=hg;obtain⟨its,rv,p,hz⟩:=Iv.list hq;have hl:=rv.length;exact wpAny_nextOf_list_end hh st p.isList (by simp;lia) q
section
variable{X:Cx}{jR:Z9 Expr}{x1:Nat}{tZ p pos:cU}{a:Expr}{ta:TA}
def a09(K:aq)(ta:TA):TI:=λσ H R=>ta σ H λvs H1=>∃a,vs=[.ref a]/\(∃xs,SqL K H1 a xs)/\R (Jel K a) H1
def awk(hg:Gl X "enumerate")(hm:X.mg "enumerate" = none)(ha:PA X [a] ta)(hs:o7 a=true:=by rfl):PI X (.Tuple jR x1 tZ) (.Call (.Name "enumerate" p) [a] [] pos) (a09 X.K ta):=by
 intro aE s σ H R I h;refine Call_<|ur I hg hm boot_enumerate<|f8 (thn (ha pos aE s σ H _ I h) λus s1 ⟨vs,H1,I1,r1,q1⟩=>?_) (m9 hs) rfl;obtain⟨b,e,⟨xs,hq⟩,q⟩:=q1;subst e;obtain⟨u,rfl,ru⟩:=se r1;cases (show u=aA.ref b from ru);obtain⟨its,rv,pl,hz⟩:=I1.list hq;refine call_enumerate_list (l:=b) pl.isList λg he hi _ kp=>iX (s:={s1 with heap:=g}) he ?_;refine⟨s1.heap.objs.size+1,[s1.heap.objs.size+1,s1.heap.objs.size],_,_,H1,rfl,I1.kept (t':=s1.toks) kp,ai1 b (s1.heap.objs.size+1) s1.heap.objs.size<|Nat.succ_ne_self _,⟨⟨_,he⟩,hi⟩,λc hc=>?_,q⟩;rcases ap.mp hc with z|z
 .subst z;exact I1.fpOk (by lia)<|I1.hok.fresh<|by lia
 .rw[a6.mp z];exact I1.fpOk (av _)<|I1.hok.fresh<|av _
end
def at5{K:aq}{a:aF}{xs:Z9 V}{g:TG}{tb:TS}{D:mJ}{σ:L2.St}{H:Hp}(Pv:Nat->L2.St->Hp->Prop)(h0:Pv 0 σ H)(hl:∀i σ H,Pv i σ H->SqL K H a xs)
  (hs:∀i x p σ H,xs[i]?=some x->H p=none->Pv i σ H->g (.ref p) σ (upd H p<|.tup [.int (i:Nat),x]) λσ2 H2=>tb {D with nx:=Pv<|i+1,ct:=Pv<|i+1,bk:=D.nx} σ2 H2) (hd:∀σ H,Pv xs.length σ H->D.nx σ H) :
  ∃W:Nat->Nat->L2.St->Hp->Prop,(∃m,W 0 m σ H)/\∀i m σ H,W i m σ H->
   ((Jel K a).stop i H/\D.nx σ H)\/((Jel K a).go i H/\∃N:L2.St->Hp->Prop,(∀σ' H',N σ' H'->∃m',m'<m/\W (i+1) m' σ' H')/\∀v H',(Jel K a).yld i H v H'->g v σ H' λσ2 H2=>tb {D with nx:=N,ct:=N,bk:=D.nx} σ2 H2):=by
 refine alj (Jel K a) xs.length Pv h0 (λi σ H hi p=>⟨xs,xs[i],hl i σ H p,by simp[hi]⟩) (λσ H p=>⟨xs,hl _ σ H p,av _⟩) (λi v σ H H' hi p y=>?_) hd;obtain⟨b,x,hb,rfl,rfl,hx⟩:=y;exact hs i x b σ H (hx xs<|hl i σ H p) hb p
section
variable{X:Cx}
noncomputable def a1d:Option Int->Str
 | some i=>cB i
 | none=>"None"
theorem ajp:qj X (.type "str") (λxs H Q=>∃o:Option Int,xs=[match o with|some i=>V.int i|none=>.non]/\(∀i,o=some i->i.natAbs.log2<1920)/\Q (.str<|a1d o) H):=by
 intro aE s σ H xs us Q I r h;obtain⟨o,rfl,hz,q⟩:=h;obtain⟨u,rfl,ru⟩:=se r;cases o with
 | some i=>
  obtain⟨t,rfl⟩:=ru;exact PySem.P.str_of_int (hz i rfl) ⟨.str _,H,I.tok _,⟨_,rfl⟩,q⟩
 | none=>
  cases (show u=aA.none from ru);exact PySem.P.str_of_none ⟨.str _,H,I.tok _,⟨_,rfl⟩,q⟩
end
section
variable{prog:aI}{w:aJ}{A:Around}{E:aA->aB->Prop}
theorem afm{it t:aF}{items:Array aA}(dO:t≠it):∀(n i:Nat)(s:aB)(Q:Z9 aA->aB->Prop),s.heap.IsListIter it t i->s.heap.IsList t items->i+n<=items.size->
  (∀h',h'.IsListIter it t (i+n)->cf it s.heap h'->Q ((items.toList.drop i).take n) {s with heap:=h'})->wpAny (aG prog w) A (draw (.ref it) n) Q E s
 | 0,i,s,Q,fZ,_,_,hQ=>by show wpAny _ _ (bJ []) Q E s;exact ao (by simpa using hQ s.heap fZ (cf.refl ..))
 | n+1,i,s,Q,fZ,ht,zF,hQ=>by
  have bX:i<items.size:=by lia
  show wpAny _ _ (aX (.ref it) >>= _) Q E s;refine ac<|sP fZ ht (x:=items[i]) (by simp[bX]) λh₁ zJ Ch=>?_;refine ac<|db<|afm dO n (i+1) _ _ zJ (ht.extBut Ch.extBut dO) (by lia) λh₂ IZ hs₂=>ao ?_;have hd:items.toList.drop i=items[i]::items.toList.drop (i+1):=by simp[List.drop_eq_getElem_cons,bX]
  have:=hQ h₂ (by rw[show i+(n+1)=i+1+n by lia];exact IZ)<|Ch.trans hs₂;rw[hd,List.take_succ_cons]at this;exact this
variable{s:aB}
def aad{t:aF}{items:Array aA}{Q:Z9 aA->aB->Prop}(hh:A.handled=none)(ht:s.heap.IsList t items)
  (hQ:∀h',kg s.heap.objs.size s.heap h'->Q items.toList {s with heap:=h'}):wpAny (aG prog w) A (unpackItems (.ref t) items.size none) Q E s:=by
 have bX:t≠s.heap.objs.size:=by obtain⟨o,ho,_⟩:=ht;exact ck<|bi ho
 unfold unpackItems;refine ac ?_
 .unfold notIterableAtAll;refine ac<|cE ht.typeIs slot_list_iter.lookup ?_;refine ao ?_;simp only[bj,if_false];refine ac<|db<|js ht ?_;refine ac<|db<|afm bX items.size 0 _ _ ⟨_,ba _ rfl,rfl,rfl⟩ (ht.at λo e=>ai _ e) (by lia) λh₁ zJ Ch=>?_;have aZ:List.take items.size (List.drop 0 items.toList)=items.toList:=by
   rw[List.drop_zero];exact bb<|by simp
  rw[aZ];rw[if_neg (by simp)];have ht₁:h₁.IsList t items:=(ht.at λo e=>ai _ e:Heap.IsList (s.heap.push _) t items).extBut Ch.extBut bX;refine ac<|db<|tX hh zJ ht₁ (by simp) λh₂ he₂=>?_;simp only[Option.isSome_none,bj,if_false];refine ao<|hQ h₂ λb o hb e=>he₂ b o hb<|Ch.extBut b o hb<|ai _ e
end
def a0x(K:aq)(n:Nat)(t:TGs):TG:=λv σ H Q=>∃a xs,v=.ref a/\SqL K H a xs/\xs.length=n/\t xs σ H Q
section
variable{X:Cx}{pos:cU}
def aur{es:Z9 Expr}{k:Nat}{t:TGs}{n:Nat}(hc:X.calm=true)(h:PGs X es t)
  (hn:(bQ es X.env).length=n:=by rfl) (bD:(bQ es X.env).findIdx? (·.1)=none:=by rfl):PG X (.Tuple es k pos) (a0x X.K n t):=by
 intro aE s σ H v u Q I r hw;obtain⟨a,xs,e1,hq,hl,hw⟩:=hw;subst e1;cases r;obtain⟨its,rv,ht,hz⟩:=I.list hq;rw[assign_Tuple];refine ac<|eG ?_;unfold unpack;have e:(bQ es X.env).length=its.toArray.size:=by simp[hn,<-hl,rv.length]
 rw[e,bD];refine ac<|db<|aad (I.ok.hd hc) ht.isList λh' hx=>?_;have I1:Inv X aE σ H {s with heap:=h'}:=I.kept (t':=s.toks) λb o e=>hx b o (ck<|bi e) e;exact h aE _ σ H xs _ Q I1 (by simpa using rv) hw
end
section
variable{X:Cx}{N:Z9 Str}{scope:bV}{z:CZ}
def au3{o e:Expr}{es:Z9 Expr}{to:TE}{t:TA}{name:Str}{eS bF:cU}{T id:String}{r:V->Z9 V->Hp->VK->Prop}(pa:Bw T)(slot:Slot T name id)(Cg:mM (.builtin id)=bJ (.type "method_descriptor"))(hm:MtR (nc X N scope z) id r)(ho:PE (nc X N scope z) o to)(ha:PA (nc X N scope z) (e::es) t)
  (hZ:iB o name (nc X N scope z).env (bL o (nc X N scope z).env)=bL o (nc X N scope z).env:=by rfl)
  (qZ:((bA bF<|aK (e::es) (nc X N scope z).env).all (λx=>!x.1)&&(jG bF<|dX [] (nc X N scope z).env).all (λx=>x.1.isSome)
   && decide ((e::es).length+([]:Z9 eE).length+(if ([]:Z9 eE).isEmpty then 0 else 1)<30))=true:=by rfl)
  (dE:(eS.endLine==bF.line)=true:=by rfl) (hs:aK (e::es) (nc X N scope z).env=(false,bL e (nc X N scope z).env)::aK es (nc X N scope z).env:=by rfl) (hU:(bA bF<|aK es (nc X N scope z).env).any (·.1)=false:=by rfl) :
  PE (nc X N scope z) (.Call (.Attribute o name eS) (e::es) [] bF) (tBM X.K T r to t):=qi (X:=nc X N scope z) pa slot Cg hm ho ha hZ qZ dE hs hU
end
end L3
namespace L3
open PySem PyProof.Rows L2
def rh{σ:L2.St}{H:Hp}{Q:Option Int->Hp->Prop}(h:Q none H):ane σ H Q:=h
def ahq{s1 s2:TS}{D:mJ}{σ:L2.St}{H:Hp}(R:L2.St->Hp->Prop)(h:∀σ' G',R σ' G'->s2 D σ' G')(h1:∀D':mJ,(∀σ' G',R σ' G'->D'.nx σ' G')->D'.rt=D.rt->s1 D' σ H):az5 s1 s2 D σ H:=h1 {D with nx:=s2 D} h rfl
end L3
namespace L3
open PySem PySem.Spec PyProof.Rows L2
def ash{D:aF}{i:Nat}{Pv:Nat->Z9 V->Hp->Prop}{G:Hp}{ys:Z9 V}{y:V}(hi:i<4000)(hD:G D=some (.lst ys))(hl:ys.length<=i)(h:Pv (i+1) (ys++[y]) (upd G D<|.lst<|ys++[y])):∃xs,G D=some (.lst xs)/\xs.length<aC/\Nx D i Pv (upd G D<|.lst<|xs++[y]):=
 ⟨ys,hD,by rw[dw];lia,ys++[y],k8,by rw[a9,cu];lia,h⟩
noncomputable def lH(p:Z8->Bool)(ds:Z9 Z8)(xs:Z9 V)(i:Nat):Z9 V:=(((ds.zip xs).take i).filter λq=>p q.1).map (·.2)
def an7(p:Z8->Bool){ds:Z9 Z8}{xs:Z9 V}{i:Nat}{d:Z8}{x:V}(h1:ds[i]?=some d)(h2:xs[i]?=some x):lH p ds xs (i+1)=lH p ds xs i++if p d=true then[x]else[]:=by
 have h:(ds.zip xs)[i]?=some (d,x):=List.getElem?_zip_eq_some.mpr ⟨h1,h2⟩;unfold lH;rw[jl,h,jc,ay]
 congr 1
 cases hp:p d<;>simp[hp]
theorem LV{H:Hp}(p:Z8->Bool):∀{ds:Z9 Z8} {xs:Z9 V},RepAll H ds xs->RepAll H (ds.filter p) (lH p ds xs xs.length)
 | [],xs,h=>by cases (show xs=[]from h);exact rfl
 | d::ds,xs,⟨x,r,e,h1,h2⟩=>by
  subst e;have ih:=LV p h2;unfold lH at ih⊢;rw[List.zip_cons_cons,bc,List.take_succ_cons,List.filter_cons,List.filter_cons];by_cases hp:p d=true
  .rw[if_pos hp,if_pos hp,cy];exact⟨x,_,rfl,h1,ih⟩
  .rw[if_neg hp,if_neg hp];exact ih
theorem axt{D:aF}{i:Nat}{p:Z8->Bool}{ds:Z9 Z8}{xs:Z9 V}{d:Z8}{x:V}{S:Hp->Prop}{G:Hp}(hi:i<4000)(hd:ds[i]?=some d)(hx:xs[i]?=some x)(hD:G D=some (.lst<|lH p ds xs i))(hl:(lH p ds xs i).length<=i)(hS:S G)(hN:S (upd G D<|.lst<|lH p ds xs i++[x])){b:Bool}(hb:p d=b){te:VK->Prop}(hte:∀Q:VK,Q x G->te Q) :
  if b=true then te (λy H4=>∃ys,H4 D=some (.lst ys)/\ys.length<aC/\Nx D i (λj zs J=>S J/\zs=lH p ds xs j) (upd H4 D<|.lst<|ys++[y]))else Nx D i (λj zs J=>S J/\zs=lH p ds xs j) G:=by
 have e:=an7 p hd hx;rw[hb]at e;cases b with
 | true=>
  rw[if_pos rfl];rw[if_pos rfl]at e;exact hte _ (ash hi hD hl ⟨hN,e.symm⟩)
 | false=>
  rw[if_neg am];rw[if_neg am,f9]at e;exact⟨_,hD,Nat.le_succ_of_le hl,hS,e.symm⟩
structure Flew(P:aI)(w:aJ)(outer:Z9 kX)(H:Hp)(h:Heap)(a:aF)(cls:aA)(H':Hp)(h':Heap):Prop where
 fly:∃B a0,Heap.FlyingW B outer a cls a0 h'/\(∀b o,H' b=some o->∃ob,B.get? b=some ob)/\∀b ob,h.get? b=some ob->b∉frs outer->∃BR,B.get? b=some BR
 un:Un (frs outer) [] H H' h h'
 hok:HOk P w H' h'
 new:h.get? a=none
 free:H' a=none
noncomputable def CXe(P:aI)(w:aJ):CXT:=λouter H s E e s'=>∃a cls H',e=.ref a/\s'.os=s.os/\eF s'.gens/\Flew P w outer H s.heap a cls H' s'.heap/\E cls none H'
theorem aeb{P:aI}{w:aJ}{H:Hp}{h:Heap}{a:aF}{o:HO}(x:ObjOk P w H h a o):∃ob,h.get? a=some ob:=by
 cases o with
 | lst xs=>obtain⟨_,_,_,_,e⟩:=x;exact⟨_,e⟩
 | tup xs=>obtain⟨_,_,_,ob,e,_⟩:=x;exact⟨_,e⟩
 | dK aL=>obtain⟨_,_,_,_,o,_,_,e,_⟩:=x;exact⟨_,e⟩
 | dT aL=>obtain⟨_,_,_,_,o,_,_,e,_⟩:=x;exact⟨_,e⟩
 | set S n=>obtain⟨o,_,_,_,e,_⟩:=x;exact⟨_,e⟩
 | ins C dx fs=>obtain⟨_,_,_,e,_⟩:=x;exact⟨_,e⟩
 | own y=>exact x
 | xd fs=>obtain⟨_,⟨_,_,_,e,_⟩,_⟩:=x;exact⟨_,e⟩
 | rng lo hi=>obtain⟨_,_,_,e⟩:=x;exact⟨_,e⟩
 | frz o u=>exact⟨_,x.1⟩
 | tbl ps=>exact⟨_,x⟩
 | met f y=>exact⟨_,x⟩
 | ext φ=>exact x.2.1
def ar1{l:Z9 kX}{env:kX}{a:aF}(h:env∈l)(e:env.frame=some a):a∈frs l:=List.mem_filterMap.mpr ⟨env,h,e⟩
theorem aeg{P:aI}{w:aJ}{K:aq}{mg:Str->Option aA}{base:Heap}{N:Z9 Str}{qual:Str}{scope:bV}{f:aF}{cd:aA}{A:Around}{outer:Z9 kX}{s:aB}{H:Hp}{E:XK}
  {aE:Z9 (aF×Obj)} {σ:L2.St} {H1:Hp} {s1:aB} {h':Heap} {e:aF} {cls:aA} {vs:Z9 aA}
  (I:Inv (tN (CXe P w) P w K mg base N qual scope f cd A outer s H E) aE σ H1 s1) (hx:Heap.MadeExcOf s1.heap h' e cls vs) (q:E cls none H1) :
  (tN (CXe P w) P w K mg base N qual scope f cd A outer s H E).xe (.ref e) {s1 with heap:=h'}:=by
 obtain⟨t,he,ht,htt⟩:=hx.there;have oC:s1.heap.FunFrames base (bO qual scope s.heap.objs.size f cd::outer):=I.stack;have sf:∀b∈frs (bO qual scope s.heap.objs.size f cd::outer),H1 b=none:=I.stkFree;have fL:(bO qual scope s.heap.objs.size f cd).frame=some s.heap.objs.size:=rfl;have sub:∀b,b∈frs (bO qual scope s.heap.objs.size f cd::outer)->b=s.heap.objs.size\/b∈frs outer:=λb hb=>by unfold frs at hb;rw[jz,fL]at hb;exact ap.mp hb
 have sup:∀b,b∈frs outer->b∈frs (bO qual scope s.heap.objs.size f cd::outer):=λb hb=>by unfold frs;rw[jz,fL];exact ak _ hb
 have gQ:s1.heap.FunFrames (PySem.W.hideAll s1.heap<|frs (bO qual scope s.heap.objs.size f cd::outer)) (bO qual scope s.heap.objs.size f cd::outer):=PySem.W.funFrames_hide oC λenv hm a ha=>ar1 hm ha;have fK:=gQ.of_keeps (h':=h') λb o hb _=>⟨o,hx.keeps b o hb,rfl⟩;have en:(PySem.W.hideAll s1.heap<|frs (bO qual scope s.heap.objs.size f cd::outer)).get? e=none:=by
  cases z:(PySem.W.hideAll s1.heap<|frs (bO qual scope s.heap.objs.size f cd::outer)).get? e with
  | none=>rfl
  | some o=>have:=PySem.W.of_hideAll _ z;rw[hx.new]at this;cases this
 refine wpAny_leaving_firstW (s:={s1 with heap:=h'}) I.ok.frames fK fL he (λb o hb=>hx.keeps b o<|PySem.W.of_hideAll _ hb) en rfl rfl rfl λh2 L=>?_;obtain⟨k1,k2,k3,k4⟩:=L;have gM:∀b o,s1.heap.get? b=some o->b∉frs (bO qual scope s.heap.objs.size f cd::outer)->h2.get? b=some o:=λb o hb hn=>k1 b o<|PySem.W.hideAll_get _ hb hn;have lt:∀b o,s.heap.get? b=some o->b∉frs outer->b∉frs (bO qual scope s.heap.objs.size f cd::outer):=λb o hb hn hm=>by
  rcases sub b hm with z|z
  .exact absurd (bi hb)<|by rw[z];exact gy _
  .exact hn z
 have frame:∀b o,b∈frs outer->s1.heap.get? b=some o->∃sl,h2.get? b=some {o with slots:=sl}:=λb o hb ho=>by obtain⟨_,o',gN,hd⟩:=oC.mem<|sup b hb;rw[ho]at gN;cases gN;exact k4 b o (hx.keeps b o ho) hd
 have B1:Un (frs outer) [] H H1 s.heap s1.heap:=I.base;refine⟨e,cls,H1,rfl,I.os,I.bare,⟨⟨_,_,⟨k1,en,k2.2.2,k3⟩,λb o hb=>?_,λb ob hb hn=>?_⟩,⟨λb o hb hn hf hx=>gM b o (B1.keep b o hb hn hf hx)<|lt b o hb hf,λb o hb hn hf hx=>?_,B1.free,λb o hb hx=>?_,B1.tups,B1.frzs,B1.tbls⟩,λb o hb=>?_,?_,?_⟩,q⟩
 .obtain⟨ob,lU⟩:=aeb<|I.hok b o hb;exact⟨ob,PySem.W.hideAll_get _ lU λz=>by rw[sf b z]at hb;cases hb⟩
 .obtain⟨BR,Ix⟩:=B1.there b ob hb (by simp);exact⟨BR,PySem.W.hideAll_get _ Ix<|lt b ob hb hn⟩
 .obtain⟨sl,h1⟩:=B1.slot b o hb hn hf hx;obtain⟨uF,h2⟩:=frame b _ hf h1;exact⟨uF,h2⟩
 .obtain⟨o',gN⟩:=B1.there b o hb hx;by_cases hf:b∈frs outer
  .obtain⟨uF,h2⟩:=frame b _ hf gN;exact⟨_,h2⟩
  .exact⟨o',gM b o' gN<|lt b o hb hf⟩
 .refine(I.hok b o hb).stay (λc v hc r=>gM c v r λz=>?_) (λ_ r=>r) λ_ _ r=>r;rcases hc with y|y
  .rw[y]at z;rw[sf b z]at hb;cases hb
  .rw[sf c z]at y;cases y
 .cases z:s.heap.get? e with
  | none=>rfl
  | some o=>
   obtain⟨o',gN⟩:=B1.there e o z (by simp);rw[hx.new]at gN;cases gN
 .cases z:H1 e with
  | none=>rfl
  | some o=>
   obtain⟨ob,lU⟩:=aeb<|I.hok e o z;rw[hx.new]at lU;cases lU
structure ExC(K:aq)(C:aF):Prop where
 obj:∃nm q N bs bm hdct sn sub ab col dd k0 k1 k2 k3 k5 qB mN Bn inN bmN B nid qH Fv,K.lookup C=some (excClassObj nm q C N bs bm hdct sn sub ab col dd k0 k1 k2 k3 k5 qB)/\(∀h:Heap,K.In h->h.Ns N mN)/\mN "__init__" = none/\
  (∀h:Heap,K.In h->OwnTail h Fv bm)/\ExcBaseFacts Bn qB inN bmN/\Fv.contains (.type Bn)=true/\ExcBaseFacts B nid qH Fv
def aqc(X:Cx)(E:XK):Prop:=∀(aE:Z9 (aF×Obj)) (σ:L2.St) (H:Hp) (s:aB) (h':Heap) (e:aF) (cls:aA) (vs:Z9 aA),Inv X aE σ H s->Heap.MadeExcOf s.heap h' e cls vs->E cls none H->X.xe (.ref e) {s with heap:=h'}
def aws(C:aF)(E:XK)(ta:TA):TS:=λ_ σ H=>ta σ H λvs H1=>vs.length<=aC/\E (.ref C) none H1
def LO{X:Cx}{C:aF}{E:XK}{x:Str}{np bF pos:cU}{e₀:Expr}{es:Z9 Expr}{ta:TA}(hc:X.calm=true)(hx:aqc X E)(hg:Gl X x)(hm:X.mg x=some (.ref C))(c:ExC X.K C)(ha:PA X (e₀::es) ta)
  (hd:(x==("__debug__" : Str))=false:=by decide) (he:aK (e₀::es) X.env=(false,bL e₀ X.env)::aK es X.env:=by rfl) (fQ:(bA bF<|aK es X.env).any (·.1)=false:=by rfl) :
  PS X (.Raise (some<|.Call (.Name x np) (e₀::es) [] bF) none pos) (aws C E ta):=by
 intro aE s σ H D I h;obtain⟨nm,q,N,bs,bm,hdct,sn,sub,ab,col,dd,k0,k1,k2,k3,k5,qB,mN,Bn,inN,bmN,B,nid,qH,Fv,lk,hN,hni,T,Fn,hBn,FB⟩:=c.obj;have hZ:bm.contains (.type "BaseException")=true:=(T s.heap I.kIn).hasType FB.hasBase;refine wpAny_Raise_call_subU (C:=C) (nm:=nm) (q:=q) (N:=N) (bs:=bs) (bm:=bm) (hdct:=hdct) (sn:=sn) (sub:=sub) (ab:=ab) (col:=col) (dd:=dd) (k0:=k0) (k1:=k1) (k2:=k2) (k3:=k3) (k5:=k5) Fn hBn FB (mN:=mN) hZ (I.ok.hd hc) (by rw[he];exact fQ) hni<|DT I hg hm ⟨rfl,?_⟩ hd;have hp:=ha bF aE s σ H _ I h;rw[he]at hp⊢;refine Calls.evalArgs_plain<|jj hp (λus s2 h2=>?_) λ_ _ y=>y;obtain⟨vs,H1,I1,rv,hl,hE⟩:=h2;exact⟨rfl,by rw[<-rv.length];exact hl,I1.kIn _ _ lk,hN _ I1.kIn,T _ I1.kIn,λh' e hm=>hx aE σ H1 s2 h' e _ us I1 hm hE⟩
def xy{P:aI}{w:aJ}{K:aq}{mg:Str->Option aA}{base:Heap}{N:Z9 Str}{qual:Str}{scope:bV}{f:aF}{cd:aA}{A:Around}{outer:Z9 kX}{s:aB}{H:Hp}{E:XK} :
  aqc (tN (CXe P w) P w K mg base N qual scope f cd A outer s H E) E:=λ_ _ _ _ _ _ _ _ I hx q=>aeg I hx q
def asf{M:Model}{A:Around}{E:aA->aB->Prop}{X:Cx}{aE:Z9 (aF×Obj)}{σ:L2.St}{H:Hp}{s:aB}{i:Nat}{n:Str}{pos:cU}{Q:Unit->aB->Prop}(I:Inv X aE σ H s)(hN:X.N.Nodup)(hi:X.N[i]?=some n)
  (hk:X.env.scope.names.lookup n=some .local) (h:∀s',Inv X aE (σ.set i none) H s'->Q () s'):wpAny M A (do bindName X.env n .none;unbindBehindTheSuite X.env n pos) Q E s:=by
 obtain⟨m,hn,hl⟩:=id I.loc;have zP:(X.env.scope.kind==.class||(X.env.scope.kind==.module&&X.env.locals != X.env.globals))=false:=by rw[I.ok.kind];rfl
 refine wpAny_nameGoes_keeps hk hn zP λh' v eZ hs=>h _ ?_;obtain⟨oL,es,ep,yZ,hdL,_⟩:=id hn;have up:∀b o,X.s₀.heap.get? b=some o->b≠X.env.locals:=λb o e=>ck<|cm (bi e) I.ok.above;have cne:∀c x,s.heap.IsCell c x->c≠X.env.locals:=λc x q z=>by obtain⟨oc,uR,AY⟩:=q;rw[z,yZ]at uR;cases uR;rw[hdL]at AY;cases AY
 refine⟨I.ok,I.os,I.bare,⟨λb o e f hb hx=>(hs.2 b<|up b o e).trans (I.base.keep b o e f hb hx),λb o e f hb hx=>?_,I.base.free,λb o e hx=>?_,I.base.tups,I.base.frzs,I.base.tbls⟩,⟨_,eZ,λj y v' e1 e2 e3=>?_⟩,λy c e=>?_,I.free,I.freeC,λp hp=>?_,λb ob e=>?_,by simpa using I.len⟩
 .obtain⟨sl,e1⟩:=I.base.slot b o e f hb hx;exact⟨sl,(hs.2 b<|up b o e).trans e1⟩
 .obtain⟨o',e1⟩:=I.base.there b o e hx;exact⟨o',(hs.2 b<|up b o e).trans e1⟩
 .have hj:j≠i:=λz=>by
   subst z;rw[List.getElem?_set_self (by rw[I.len];exact(ar.mp hi).1)]at e2;cases e2
  rw[List.getElem?_set_ne (Ne.symm hj)]at e2;obtain⟨u',r',q⟩:=hl j y v' e1 e2 e3;refine⟨u',r',?_⟩;have hy:y≠n:=λz=>by subst z;exact hj<|(List.getElem?_inj (ar.mp e1).1 hN).mp (e1.trans hi.symm)
  rcases q with ⟨k,e⟩|⟨k,c,e,z⟩
  .exact .inl ⟨k,by simp only[hy,if_false];exact e⟩
  .refine .inr ⟨k,c,e,?_⟩;obtain⟨oc,uR,AY⟩:=id z;exact⟨oc,(hs.2 c<|cne c _ z).trans uR,AY⟩
 .obtain⟨x,z⟩:=I.cell y c e;obtain⟨oc,uR,AY⟩:=id z;exact⟨x,oc,(hs.2 c<|cne c _ z).trans uR,AY⟩
 .obtain⟨p1,p2,p3,p4⟩:=I.pin p hp;exact⟨(hs.2 _ p3).trans p1,p2,p3,p4⟩
 .refine(I.hok b ob e).stay (λc w' hc q=>(hs.2 c ?_).trans q) (λ_ q=>q) λ_ _ q=>q;intro z;rcases hc with y|y
  .rw[<-y,z,I.free]at e;cases e
  .rw[z,I.free]at y;cases y
noncomputable abbrev Bh(X:Cx)(e:aA):Cx:={X with A:=X.A.mark<|some e,calm:=false}
def asi{X:Cx}(ok:X.Ok)(e:aA):(Bh X e).Ok:=
 ⟨ok.mod,ok.kind,ok.glob,ok.blt,ok.above,ok.inj,ok.has,ok.cab,(λz=>nomatch z),ok.frames,ok.stk,ok.exf,ok.bs,ok.bsz,ok.noex,ok.exfs,ok.funs,ok.frf⟩
def aif{X:Cx}{aE:Z9 (aF×Obj)}{σ:L2.St}{H:Hp}{s:aB}(I:Inv X aE σ H s)(e:aA):Inv (Bh X e) aE σ H s:=⟨asi I.ok e,I.os,I.bare,I.base,I.loc,I.cell,I.free,I.freeC,I.pin,I.hok,I.len⟩
def ajb{X:Cx}{aE:Z9 (aF×Obj)}{σ:L2.St}{H:Hp}{s:aB}{e:aA}(ok:X.Ok)(I:Inv (Bh X e) aE σ H s):Inv X aE σ H s:=⟨ok,I.os,I.bare,I.base,I.loc,I.cell,I.free,I.freeC,I.pin,I.hok,I.len⟩
noncomputable def Exn(a:aF)(cls:aA):HO:=.ext λh=>∃o vs,h.get? a=some o/\o.cls=cls/\o.data=.fields vs
def Flew.parts{X:Cx}{H H':Hp}{s s':aB}{a:aF}{cls a0:aA}{B h5:Heap}(un:Un (frs X.stack) [] H H' s.heap s'.heap)(hok:HOk X.prog X.w H' s'.heap)(fly:Heap.FlyingW B X.stack a cls a0 s'.heap)(c1:∀b o,H' b=some o->∃ob,B.get? b=some ob)(c2:∀b ob,s.heap.get? b=some ob->b∉frs X.stack->∃BR,B.get? b=some BR)
  (k5:B.StaysIn h5) (sm:s'.heap.UpToSlots h5):Un (frs X.stack) [] H H' s.heap h5/\HOk X.prog X.w H' h5:=by
 have keep:∀b o ob,s'.heap.get? b=some o->B.get? b=some ob->h5.get? b=some o:=λb o ob ho lU=>by have:=fly.1 b ob lU;rw[ho]at this;cases this;exact k5 b _ lU
 have fr:∀b o,b∈frs X.stack->s'.heap.get? b=some o->∃sl,h5.get? b=some {o with slots:=sl}:=λb o hm ho=>by obtain⟨_,o',gN,hd⟩:=fly.2.2.1.mem hm;rw[ho]at gN;cases gN;exact sm b o ho hd
 refine⟨⟨λb o e f hf hx=>?_,λb o e f hf hx=>?_,un.free,λb o e hx=>?_,un.tups,un.frzs,un.tbls⟩,λb o e=>?_⟩
 .obtain⟨ob,lU⟩:=c2 b o e hf;exact keep b o ob (un.keep b o e f hf hx) lU
 .obtain⟨sl,e1⟩:=un.slot b o e f hf hx;obtain⟨uF,e2⟩:=fr b _ hf e1;exact⟨uF,e2⟩
 .obtain⟨o',e1⟩:=un.there b o e hx;by_cases hf:b∈frs X.stack
  .obtain⟨uF,e2⟩:=fr b _ hf e1;exact⟨_,e2⟩
  .obtain⟨ob,lU⟩:=c2 b o e hf;exact⟨o',keep b o' ob e1 lU⟩
 .refine(hok b o e).stay (λc v hc r=>?_) (λ_ q=>q) λ_ _ q=>q;have:∃u,H' c=some u:=by
   rcases hc with y|y
   .rw[y];exact⟨_,e⟩
   .exact⟨_,y⟩
  obtain⟨u,hu⟩:=this;obtain⟨ob,lU⟩:=c1 c u hu;exact keep c v ob r lU
def akg{P:aI}{w:aJ}{fs:Z9 aF}{H H':Hp}{h g:Heap}{a:aF}{cls:aA}{ob:Obj}{vs:Array aA}(un:Un fs [] H H' h g)(hok:HOk P w H' g)(new:h.get? a=none)(free:H' a=none)(ho:g.get? a=some ob)(hc:ob.cls=cls)(hd:ob.data=.fields vs) :
  Un fs [] H (upd H' a<|Exn a cls) h g/\HOk P w (upd H' a<|Exn a cls) g:=by
 have sm:Same H' (upd H' a<|Exn a cls):=Same.fresh _ free;refine⟨⟨un.keep,un.slot,λb o e f hx=>?_,un.there,λb xs e=>sm _ _<|un.tups b xs e,λb o u e=>sm _ _<|un.frzs b o u e,λb ps e=>?_⟩,λb o e=>?_⟩
 .rw[lh (λz=>by rw[z,new]at e;cases e)];exact un.free b o e f hx
 .obtain⟨more,q⟩:=un.tbls b ps e;exact⟨more,sm _ _ q⟩
 .by_cases hb:b=a
  .subst hb;rw[k8]at e;cases e;exact⟨⟨ob,vs,ho,hc,hd⟩,⟨ob,ho⟩,λg1 g2 ⟨o,us,k1,k2⟩ k=>⟨o,us,k o k1,k2⟩⟩
  .rw[lh hb]at e;exact(hok b o e).stay (λ_ _ _ q=>q) (λc q=>sm _ _ q) λc xs q=>sm _ _ q
section
variable{X:Cx}{aE:Z9 (aF×Obj)}{σ:L2.St}{H:Hp}{s s':aB}{n y:Str}{i:Nat}{c e:aA}{b₀:aO}{fT:Z9 aO}{ts:TS}{D:mJ}{bK:Z9 ExceptHandler}{yp dN:cU}
noncomputable def aml(K:aq)(c:aA)(i:Nat)(ts:TS)(D:mJ)(σ:L2.St):XK:=λcls _ H'=>PySem.W.exmOne K cls c=some true/\∀a,H' a=none->ts {nx:=λσ2 H2=>D.nx (σ2.set i none) H2,rt:=λ_ _=>False} (σ.set i<|some<|.ref a) (upd H' a<|Exn a cls)
theorem avu(bD:X.stack=X.env::X.outer)(lF:X.env.frame=some X.env.locals)(hN:X.N.Nodup)(hi:X.N[i]?=some n)(hk:X.env.scope.names.lookup n=some .local)(hg:Gl X y)(hm:X.mg y=some c)(Ci:∀e,PSs (Bh X e).nox (b₀::fT) ts)
  (I:Inv X aE σ H s) (h:CXe X.prog X.w X.stack H s (aml X.K c i ts D σ) e s') (hd:(y==("__debug__" : Str))=false:=by decide) :
  wpAny (aG X.prog X.w) X.A (noteFrame e X.env) (λ_ s₂=>wpAny (aG X.prog X.w) X.A (setFlight e none) (λ_ s₃=>
   wpAny (aG X.prog X.w) X.A (handleBy e X.env (.ExceptHandler (some<|.Name y yp) (some n) (b₀::fT) dN::bK)) (SP X aE D) X.xe s₃) X.xe s₂) X.xe s':=by
 obtain⟨a,cls,H',rfl,Ip,hb,F,hc,hq⟩:=h;obtain⟨B,a0,fly,c1,c2⟩:=F.fly;have JJ:Heap.FlyingW B (X.env::X.outer) a cls a0 s'.heap:=by rw[<-bD];exact fly
 refine wpAny_looks_onW (by rw[<-bD];exact I.ok.frames) lF JJ λh4 Jh sm4=>?_;refine wpAny_landsW (s:={s' with heap:=h4}) Jh λh5 zW sm5=>?_;have P5:=Flew.parts F.un F.hok fly c1 c2 zW.1<|sm4.trans sm5;have I5:Inv X aE σ H' {s' with heap:=h5}:=I.call' (s':={s' with heap:=h5}) Ip P5.1 P5.2 hb (λb z=>absurd z<|by simp);obtain⟨ob,lU,Iw⟩:=zW.there;have LT:PySem.W.Looks (aG X.prog X.w) h5 (mM<|.ref a) cls:=by rw[<-Iw];exact(PySem.W.Looks.ld lU).andThen .now
 refine wpAny_handleBy_cons (codeAny_handlers_test<|DT (aif I5<|.ref a) hg hm ?_ hd) (by intro q;cases q);refine(PySem.W.exm_one (h:=h5) I5.kIn LT hc).here (s:={s' with heap:=h5}) ?_;refine codeAny_handlers_suite_as ?_;refine lands_againW (s:={s' with heap:=h5}) zW λh6 Dj sm6=>?_;have P6:=Flew.parts F.un F.hok fly c1 c2 Dj.1<|(sm4.trans sm5).trans sm6;obtain⟨oe,vs,_,_,_,he,jP,hda,_⟩:=id Dj.2.2.2;have P7:=akg P6.1 P6.2 F.new F.free he jP.1 hda;have I7:Inv X aE σ (upd H' a<|Exn a cls) {s' with heap:=h6}:=I.call' (s':={s' with heap:=h6}) Ip P7.1 P7.2 hb (λb z=>absurd z<|by simp);refine LR (v:=.ref a) I7 hN hi (.inl hk) rfl (λs8 I8=>?_)<|.inr hk;refine jj (Ci (.ref a) aE s8 _ _ _ ((aif I8<|.ref a).wish _)<|hq a F.free) (λf s9 hs=>?_) λ_ _ z=>iq z;have jZ:=hs.unwish;cases f with
 | next=>
  obtain⟨σ2,H2,J,q⟩:=jZ;exact asf (ajb I.ok J) hN hi hk λoR J2=>⟨_,H2,J2,q⟩
 | brk=>obtain⟨_,_,_,q⟩:=jZ;exact iq q
 | cont=>obtain⟨_,_,_,q⟩:=jZ;exact iq q
 | ret u=>obtain⟨_,_,_,_,_,q⟩:=jZ;exact iq q
end
section
variable{X:Cx}{n y x:Str}{i k:Nat}{c:aA}{b₀:aO}{fT:Z9 aO}{ts:TS}{yp dN p bF rQ pos:cU}{f:aF}{fd:bG}{ps:Z9 Str}{sp:Sp}{e:Expr}{es:Z9 Expr}{t:TA}
def ah9(K:aq)(c:aA)(i:Nat)(sp:Sp)(t:TA)(ts:TS):TS:=λD σ H=>t σ H λvs H1=>sp vs H1 (λ_ H2=>D.nx σ H2)<|aml K c i ts D σ
theorem aiy(bD:X.stack=X.env::X.outer)(lF:X.env.frame=some X.env.locals)(hN:X.N.Nodup)(hi:X.N[i]?=some n)(IY:X.env.scope.names.lookup n=some .local)(Jb:Gl X y)(II:X.mg y=some c)(Ci:∀e,PSs (Bh X e).nox (b₀::fT) ts)
  (F:FnOk X.prog X.w X.K X.mg X.base (CXe X.prog X.w) k f fd ps sp) (hr:Room k X.A) (hg:Gl X x) (hm:X.mg x=some (.ref f)) (hk:PySem.W.keepIn X.K (.ref f)=true) (hb:Binds X.K fd ps []) (ha:PA X.nox (e::es) t)
  (Jj:(y==("__debug__" : Str))=false:=by decide) (kQ:(x==("__debug__" : Str))=false:=by decide) (he:aK (e::es) X.env=(false,bL e X.env)::aK es X.env:=by rfl) (fQ:(bA bF<|aK es X.env).any (·.1)=false:=by rfl)
  (hs:gH (.Call (.Name x p) (e::es) [] bF) none rQ.line X.env=bJ false:=by rfl) :
  PS X (.Try [.Expr (.Call (.Name x p) (e::es) [] bF) rQ] [.ExceptHandler (some<|.Name y yp) (some n) (b₀::fT) dN] [] [] pos) (ah9 X.K c i sp t ts):=by
 intro aE s σ H D I h;refine wpAny_Try_except<|jS<|wpAny_Expr_any ?_ I.quiet hs;refine gi<|DT I hg hm ?_ kQ;refine PySem.W.callWith_K (h₀:=X.base) I.ok.mod.kin hk (jj (ha bF aE s σ H _ (I.wish _) h) (λus s1 h1=>?_) λ_ _ z=>iq z) he fQ;obtain⟨vs,H1,I1,r,q⟩:=h1;have I1:=I1.unwish;refine⟨I1.kIn,?_⟩;have hl:us.length=ps.length:=by rw[<-r.length];exact F.len _ _ _ _ q
 have bd:=hb s1 us I1.kIn (by rw[f9];exact hl);rw[f9]at bd;refine cH<|ju (F.run X.A X.stack s1 H1 ⟨us,[]⟩ us vs _ _ hr I1.env0 bd r q) λrr s' hq=>?_;cases rr with
 | error z=>exact avu bD lF hN hi IY Jb II Ci I1 hq Jj
 | ok fl=>
  cases fl with
  | ret u=>
   obtain⟨v,H2,I2,_,q2⟩:=I1.after hq;refine cF<|cF ?_;exact⟨σ,H2,I2,q2⟩
  | next=>exact iq hq
  | brk=>exact iq hq
  | cont=>exact iq hq
end
structure xL(K:aq)(D:aF):Prop where
 get:PySem.W.findIn K (.ref D) "__getattribute__" = some (some<|.builtin "BaseException.__getattribute__")
 no:PySem.W.findIn K (.ref D) "__getattr__" = some none
 cls:PySem.W.findIn K (.ref D) "__class__" = some (some<|.builtin "object.__class__")
 dsc:PySem.W.specialIn K (.builtin "object.__class__") "__get__" = some (some<|.builtin "getset_descriptor.__get__")
 tk:PySem.W.takesIn K (.builtin "object.__class__")=some true
 mro:PySem.W.mroIn K D (.type "object")=some true
 exc:PySem.W.mroIn K D (.type "BaseException")=some true
 has:(PySem.W.clsIn K D).isSome=true
section
open PySem.W PySem.Calls PySem.Builtin.ObjectAttr PySem.Builtin.Getset_descriptor
variable{prog:aI}{w:aJ}{A:Around}{E:aA->aB->Prop}{s:aB}{K:aq}{x D:aF}
theorem akk{Q:Option aA->aB->Prop}(C:xL K D)(X:K.In s.heap)(T:∀M,Looks M s.heap (mM<|.ref x)<|.ref D)(q:Q (some<|.ref D) {s with toks:=s.toks+1}):wpAny (aG prog w) A (getAttr? (.ref x) "__class__") Q E s:=by
 obtain⟨hh,ga,dr,t,os⟩:=s;have t0:Looks (aG prog w) hh (mM<|.ref x) (.ref D):=T<|aG prog w;have t1:=sV (M:=aG prog w) X C.get;have t2:=sV (M:=aG prog w) X C.no;have t3:Looks (aG prog w) hh (find (.ref x) (.ref D) "__class__") (.bind (.builtin "getset_descriptor.__get__")<|.builtin "object.__class__"):=
  (sV X C.cls).andThen ((show Looks _ hh (getOf<|some<|.builtin "object.__class__") _ from looks_specialIn X C.dsc).andThen ((show Looks _ hh (dataDescriptor? (some<|.builtin "object.__class__")<|some<|.builtin "getset_descriptor.__get__") _ from (looks_takesIn X C.tk).andThen .now).andThen (Looks.tag .now)))
 have t4:Looks (aG prog w) hh (isSubtype (.ref D)<|.type "object") true:=looks_mroIn (M:=aG prog w) X C.mro;have t5:Looks (aG prog w) hh (isSubtype (.ref D)<|.type "BaseException") true:=looks_mroIn (M:=aG prog w) X C.exc;have f3:=F.attr_ValueError.ga.bind<|.ref x;have hx1:(onTheHeap (aA.ref D)&&aA.builtin "BaseException.__getattribute__" == aA.builtin "object.__getattribute__")=false:=by rw[show(aA.builtin "BaseException.__getattribute__" == aA.builtin "object.__getattribute__")=false by decide +kernel];rfl
 unfold getAttr? getAttrBy? getAttrBy;refine ac<|wpAny_mkText<|ac<|bR<|db<|ac<|t0.at<|ac<|t1.at ?_;dsimp only;rw[hx1,if_neg am];unfold getAttrByItsOwn;refine ac<|(show Looks (aG prog w) hh (hookBefore<|.ref D) none from t2).at (ac<|bR<|db ?_);refine(?_:wpAny _ _ (boundAndCalled _ _ _) _ _ _);unfold boundAndCalled;refine ac<|cJ f3 ?_;refine cH<|jg F.attr_ValueError.ga.plain F.entry_bexc_ga ?_;have hk:builtinKind "BaseException.__getattribute__" = some .slot:=by decide +kernel
 have yW:splitId "BaseException.__getattribute__" = some ("BaseException","__getattribute__"):=by decide +kernel
 have ha:=F.args_bexc_ga (.ref x)<|.str "__class__" t;clear t1 t2;simp only[eM,hk,yW];refine(?_:wpAny _ _ (nA (.ref x) (.type "BaseException") >>= _) _ _ _);refine ac ?_;unfold nA;refine ac<|t0.at<|t5.at ?_;refine(?_:wpAny _ _ (match Manifest.signature? "BaseException.__getattribute__" with
        | some BF=>Bind.checkArgs "BaseException.__getattribute__" BF ⟨[aA.ref x,aA.str (aa "__class__") t],[]⟩
        | x=>bJ ()) _ _ _)
 refine cJ ha ?_;refine(?_:wpAny _ _ (Builtin.«object.__getattribute__» ⟨[aA.ref x,aA.str (aa "__class__") t],[]⟩) _ _ _);unfold Builtin.«object.__getattribute__»;refine ac<|ao<|ac<|ao<|ac<|t0.at<|ac<|t3.at ?_;refine(ac (db ?_):wpAny _ _ (eY [aA.builtin "object.__class__"] (call (.builtin "getset_descriptor.__get__") [.builtin "object.__class__",.ref x,.ref D]) >>= ret) _ _ _);refine cH<|jg KF.slot_gs.plain KF.entry_gs<|KF.slot_gs.check _ _ _ _ _ _ _ _ KF.type_class (KF.args_gs _ _ _) ?_;clear t3;unfold Builtin.«getset_descriptor.__get__» descrGet;rw[dga_obj];refine ac<|ao ?_;unfold descrGetter descrCheckInstance descrNameAndClass nA;simp only[KF.owner_class]
 repeat lk
 refine⟨Code.quiet_builtin _<|by decide +kernel,fc KF.entry_class ?_⟩;unfold Builtin.«object.__class__» shownTypeOf
 repeat lk
 exact q
def alb(C:xL K D):KitX K (.ref x) (.ref D) (λh=>∃o,h.get? x=some o/\o.cls=.ref D)where
 ty:=λM h _ ⟨o,ho,hc⟩=>by rw[<-hc];exact(Looks.ld ho).andThen .now
 it:=λM h X _=>by
  have hs:=C.has;unfold clsIn at hs;split at hs
  .rename_i c' d' cd' uF ho
   intro A' Q' E' s' k q;unfold isType loadHead;exact ac<|wpAny_loadPart (k _ _<|X _ _ ho)<|ao q
  .cases hs
 ne:=λh tp dd its n sl X htp=>by
  have hs:=C.has;refine du.mpr λq=>?_;cases (beq_iff_eq.mp q:aA.ref D=aA.ref tp);unfold clsIn at hs;split at hs
  .rename_i c' d' cd' uF ho
   cases (X _ _ ho).symm.trans htp
  .cases hs
 ca:=λX ⟨o,ho,hc⟩ k=>akk C X (λM=>by rw[<-hc];exact(Looks.ld ho).andThen .now) k
end
section
variable{X:Cx}
def acz{D:aF}(C:xL X.K D):qj X (.builtin "isinstance") (λxs H Q=>∃a c v b,xs=[.ref a,v]/\H a=some (Exn a<|.ref D)/\RelV v c/\(∀u,RelV v u->u=c)/\cj X.K (.ref D) c=some b/\Q (.bl b) H):=by intro aE s σ H xs us Q I r h;obtain⟨a,c,v,b,rfl,ha,rc,hu,e,q⟩:=h;obtain⟨u,w',rfl,r1,r2⟩:=Al r;cases (show u=aA.ref a from r1);cases hu w' r2;obtain⟨⟨o,vs,ho,hc,_⟩,_⟩:=(show ObjOk X.prog X.w H s.heap a (Exn a<|.ref D)from I.hok a _ ha);exact gx (alb C) I.kIn ⟨o,ho,hc⟩ e (by intro z;cases z) λtk=>⟨.bl b,H,I.tok _,rfl,q⟩
theorem aba{D:aF}(C:xL X.K D):qj X (.builtin "isinstance") (λxs H Q=>∃(a p:aF)(ts:Z9 aF)(b:Bool),xs=[.ref a,.ref p]/\H a=some (Exn a<|.ref D)/\H p=some (.tup<|ts.map V.ref)/\PySem.W.kitAny X.K (.ref D) (ts.map aA.ref)=some b/\Q (.bl b) H):=by
 intro aE s σ H xs us Q I r h;obtain⟨a,p,ts,b,rfl,ha,hp,e,q⟩:=h;obtain⟨u,w',rfl,r1,r2⟩:=Al r;cases (show u=aA.ref a from r1);cases (show w'=aA.ref p from r2);obtain⟨⟨o,vs,ho,hc,_⟩,_⟩:=(show ObjOk X.prog X.w H s.heap a (Exn a<|.ref D)from I.hok a _ ha);obtain⟨qI,its,rv,ob,h1,h2,n,h3⟩:=(show ObjOk X.prog X.w H s.heap p (.tup<|ts.map V.ref)from I.hok p _ hp);have eq:its=ts.map aA.ref:=by
  clear h3 e hp qI;induction ts generalizing its with
  | nil=>cases rv;rfl
  | cons z ts ih=>
   rw[cy]at rv;cases rv with
   | cons hz ht=>rw[cy,<-ih _ ht];cases (show _=aA.ref z from hz);rfl
 rw[<-eq]at e;obtain⟨oc,od,odt,pZ⟩:=ob;simp only at h2 h3;subst h2 h3;exact PySem.W.kia_tup (alb C) I.kIn ⟨o,ho,hc⟩ h1 e (by intro z;cases z) λtk=>⟨.bl b,H,I.tok _,rfl,q⟩
def as6{P:aI}{w:aJ}{K:aq}{mg:Str->Option aA}{base:Heap}{x qual:Str}{st:aO}{f:aF}{fd:bG}{N ps:Z9 Str}{k:Nat}{sp:Sp}(F:L2.Fun K x qual st f fd)(S:lz N ps (ll st))(len:∀vs H Q E,sp vs H Q E->vs.length=ps.length)
  (kR:∀(bE:aA)(A:Around)(outer:Z9 kX)(s:aB)(H:Hp)(vs:Z9 V)(Q:VK)(E:XK),Room k (A.deeper<|bO qual (ll st) s.heap.objs.size f bE)->sp vs H Q E->
   ∃t,PSs (tN (CXe P w) P w K mg base N qual (ll st) f bE A outer s H E) (va st) t/\t {nx:=λ_ H'=>Q .non H',rt:=Q} (vH N vs) H):FnOk P w K mg base (CXe P w) (k+1) f fd ps sp:=by
 obtain⟨oc,od,kV,gS,pm,an,bE,ct,pZ,rfl,lk,nI⟩:=F.ex;exact aus lk nI S len λA outer s H vs Q E hr fP=>kR bE A outer s H vs Q E hr fP
end
end L3
namespace L3
open PySem PyProof.Rows L2
def azg{P:Z9 aA->Prop}(h:P []):∀us:Z9 aA,us.length=0->P us:=λus e=>by cases us with|nil=>exact h|cons a t=>cases e
def FH{P:Z9 aA->Prop}{n:Nat}(h:∀a (t:Z9 aA),t.length=n->P (a::t)):∀us:Z9 aA,us.length=n+1->P us:=λus e=>by cases us with|nil=>cases e|cons a t=>exact h a t<|Nat.succ.inj e
def KG{P:Z9 aA->Prop}(h:∀a,P [a]):∀us:Z9 aA,us.length=1->P us:=FH (n:=0) λa=>azg (P:=λt=>P (a::t))<|h a
def avi{P:Z9 aA->Prop}(h:∀a b,P [a,b]):∀us:Z9 aA,us.length=2->P us:=FH (n:=1) λa=>KG (P:=λt=>P (a::t))<|h a
def axp{P:Z9 aA->Prop}(h:∀a b c,P [a,b,c]):∀us:Z9 aA,us.length=3->P us:=FH (n:=2) λa=>avi (P:=λt=>P (a::t))<|h a
def ay7{P:Z9 aA->Prop}(h:∀a b c d,P [a,b,c,d]):∀us:Z9 aA,us.length=4->P us:=FH (n:=3) λa=>axp (P:=λt=>P (a::t))<|h a
def Df(K:aq)(n:Str)(st:aO):Prop:=∃f fd,b0 K aH n=some (some<|.ref f)/\Fun K n n st f fd
def df_mk{K:aq}{n:Str}{st:aO}{f:aF}{oc:aA}{od an:Option aF}{sl:Array (Option aA)}{kV dc pm cd ct:aA}(a:b0 K aH n=some (some<|.ref f))
  (l:K.lookup f=some ⟨oc,od,.func<|jv n n (wn st) (va st) (ll st) .none kV dc pm an cd ct,sl⟩) (c:PySem.W.codeIn K cd n=true) (k:PySem.W.keepIn K (.ref f)=true):Df K n st:=(lv f _ ⟨a,aw4 l c k⟩)
def DfX(P:aI)(w:aJ)(K:aq)(mg:Str->Option aA)(base h:Heap):Prop:=P=P/\w=w/\base=base/\K.In h/\h.Ns aH mg
theorem Df.fx{P:aI}{w:aJ}{K:aq}{h base:Heap}{mg:Str->Option aA}{n:Str}{st:aO}{d:Nat}{ps:Z9 Str}{sp:Sp}(D:Df K n st)(Y:DfX P w K mg base h)(ok:∀{f fd},Fun K n n st f fd->FnOk P w K mg base CX0 d f fd ps sp)
  (b:∀(kV gS pm:aA)(an:Option aF)(bE ct:aA)(us:Z9 aA),us.length=ps.length->xH (jv n n (wn st) (va st) (ll st) .none kV gS pm an bE ct) ⟨us,[]⟩=bJ (ps.zip us):=by
   intro _ _ _ _ _ _;first
   | exact KG (λ_=>rfl)
   | exact avi (λ_ _=>rfl)
   | exact axp (λ_ _ _=>rfl)
   | exact ay7 λ_ _ _ _=>rfl):Fn P w K mg base n d ps sp:=by
 obtain⟨f,fd,a,F⟩:=D;exact(lv f fd ⟨ok F,fb Y.2.2.2.1 Y.2.2.2.2 a,F.kp,F.binds b⟩)
end L3
namespace L3
open PySem PySem.Spec PyProof.Rows L2
noncomputable def axi:aA->Bool
 | .str _ _=>true
 | _=>false
noncomputable def FE(K:aq)(a:aF):Bool:=match K.lookup a with
 | some ⟨_,_,.dict es _,_⟩=>es.toList.all (λe=>axi e.key && !e.key.isStr "__init__")
 | _=>false
def axy{K:aq}{a:aF}(e:FE K a=true):∃m:Str->Option aA,(∀h:Heap,K.In h->h.Ns a m)/\m "__init__" = none:=by
 unfold FE at e;split at e
 .rename_i c d es ep sl q
  have e':=bq.mp e;refine⟨nsFind es,λh X=>⟨_,es,ep,X _ _ q,rfl,λx hx=>?_,λ_=>rfl⟩,?_⟩
  .have:=(bf.mp<|e' x<|Array.mem_toList_iff.mpr hx).1;cases hk:x.key<;>rw[hk]at this<;>first|exact⟨_,_,rfl⟩|cases this
  .unfold nsFind findBy;rw[<-Array.find?_toList,List.find?_eq_none.mpr]
   .rfl
   intro x hx h;have:=(bf.mp<|e' x hx).2;rw[show x.key.isStr "__init__" = true from h]at this;cases this
 .cases e
def exc_mk{K:aq}{C D:aF}{nm q:Str}{N:aF}{bs:Z9 aA}{hdct:Bool}{sn:Z9 Str}{sub:Z9 aA}{ab:Bool}{col:Option Bool}{dd:Option aF}{k0 k1 k2 k3 k5:Option aA}{c0:aA}{d2:Option aF}{cd:ClassData}{sl:Array (Option aA)}
  (l:K.lookup C=some (excClassObj nm q C N bs [.ref D,.type "ValueError",.type "Exception",.type "BaseException",.type "object"] hdct sn sub ab col dd k0 k1 k2 k3 k5 "ValueError.__new__")) (n:FE K N=true)
  (l2:K.lookup D=some ⟨c0,d2,.cls cd,sl⟩) (n2:FE K cd.ns=true):ExC K C:=by
 obtain⟨m,h1,h2⟩:=axy n;obtain⟨m2,g1,g2⟩:=axy n2;exact⟨_,_,_,_,_,_,_,_,_,_,_,_,_,_,_,_,_,m,_,_,_,_,_,_,_,l,h1,h2,λh X=>.own (X _ _ l2) (g1 h X) g2 .base,PySem.F.excBase_ValueError,by decide,PySem.F.excBase_ValueError⟩
end L3
namespace K11
open PySem PyProof.Rows L2 L3
noncomputable def top(i:Nat):aO:=PySem.Challenge.pw_coverpieces_k11_refused_texts.main.body.getD i<|.Pass ⟨0,0,0,0⟩
noncomputable abbrev sPw:aO:=top 2
noncomputable abbrev sPs:aO:=top 3
noncomputable abbrev J8:aO:=top 26
noncomputable abbrev Kg:aO:=top 27
noncomputable abbrev sPf:aO:=top 28
noncomputable abbrev J0:aO:=top 29
noncomputable abbrev sPh:aO:=top 30
noncomputable abbrev sTa:aO:=top 31
noncomputable abbrev KC:aO:=top 55
noncomputable abbrev Lb:aO:=top 56
noncomputable abbrev Kt:aO:=top 57
noncomputable abbrev Ll:aO:=top 58
noncomputable abbrev K2:aO:=top 59
noncomputable abbrev Ld:aO:=top 60
noncomputable abbrev Kv:aO:=top 61
noncomputable abbrev Ki:aO:=top 4
noncomputable abbrev Ky:aO:=top 14
noncomputable abbrev Ke:aO:=top 20
noncomputable abbrev KO:aO:=top 21
noncomputable abbrev J5:aO:=top 22
noncomputable abbrev Kq:aO:=top 36
noncomputable abbrev KP:aO:=top 37
noncomputable abbrev JZ:aO:=top 38
noncomputable abbrev J6:aO:=top 39
noncomputable abbrev Lf:aO:=top 40
noncomputable abbrev La:aO:=top 41
noncomputable abbrev KW:aO:=top 42
noncomputable abbrev K8:aO:=top 62
noncomputable abbrev Lm:aO:=top 63
noncomputable abbrev LA:aO:=top 64
noncomputable abbrev Lu:aO:=top 65
noncomputable abbrev KI:aO:=top 66
noncomputable abbrev KL:aO:=top 69
noncomputable abbrev sNf:aO:=top 70
noncomputable abbrev sNp:aO:=top 71
noncomputable abbrev Be:aO:=top 72
noncomputable abbrev J9:aO:=top 5
noncomputable abbrev Lh:aO:=top 23
noncomputable abbrev Kz:aO:=top 47
noncomputable abbrev Kf:aO:=top 48
noncomputable abbrev Kl:aO:=top 49
noncomputable abbrev Kb:aO:=top 50
noncomputable abbrev KJ:aO:=top 51
noncomputable abbrev sRk:aO:=top 52
noncomputable abbrev sRf:aO:=top 53
noncomputable abbrev KM:aO:=top 67
noncomputable abbrev Kd:aO:=top 68
noncomputable def ux:Z9 Str:=["len","min","max","sorted","tuple","list","isinstance","bool","range","str","int","all","any","abs","set","enumerate","ValueError"]
section
variable{P:aI}{w:aJ}{K:aq}{mg:Str->Option aA}{base:Heap}{f:aF}{fd:bG}
def az7:(0:Int)<10^(Int.toNat 60):=by decide
def pwM:(0:Int)<2305843009213693951:=by decide
def aqm(K:aq):Sp:=λvs H Q _=>∃(a:aF)(ns:Z9 Int)(k:Int),vs=[.ref a,.int k]/\SqL K H a (ns.map V.int)/\0<=k/\∀c:Int,Q (.int c) H
def av5:lz ZU ZU (ll KC):={}
def ar3(B:∀x∈ux,mg x=none)(F:Fun K "_law_cell_at" "_law_cell_at" KC f fd):FnOk P w K mg base CX0 1 f fd ZU (aqm K):=by
 refine F.ok (k:=0) av5 (λvs H Q E h=>?_) λbE A outer s H vs Q E hr h=>?_
 .obtain⟨a,ns,k,rfl,_⟩:=h;rfl
 obtain⟨a,ns,k,rfl,ha,hk,q⟩:=h;refine⟨_,(kq (o4 (m6 aw7 (pv 1) (mw m5 rfl (B "len"<|by decide) b9<|ku (pv 0) km)<|mr _) (lg<|ls<|ml Bt (m7 nh (pv 0) (pv 1) λ_ _=>rfl)<|ml ard k7 k7) mh)
  (lg<|ls k7)),?_⟩
 refine(qh _ rfl _ rfl a _ rfl (.inl ha) _<|ma _ rfl rfl _ ⟨rfl,?_⟩);refine qb (λc=>?_) λc=>?_
 .have c':k<(((ns.map V.int).length:Nat):Int):=of_decide_eq_true c;rw[af]at c';obtain⟨j,rfl⟩:=br hk;have hj:j<ns.length:=by lia
  have hv:atI (ns.map V.int) (j:Int)=some (.int ns[j]):=my (by rw[au,ae hj];rfl);refine(mi _ rfl _ rfl a _ _<|ali _ rfl rfl ha hv _ _ ⟨rfl,rfl,⟨by decide,by decide,by decide⟩,(lv _ _ ⟨rfl,rfl,az7,q _⟩)⟩)
 .exact q _
def ak5:Sp:=λvs H Q _=>∃c k:Int,vs=[.int c,.int k]/\∀p n,H p=none->Q (.ref p) (upd H p<|.lst [.int n])
def atc:lz ZT ZT (ll Lb):={}
def aph(F:Fun K "_law_state" "_law_state" Lb f fd):FnOk P w K mg base CX0 1 f fd ZT ak5:=by
 refine F.ok (k:=0) atc (λvs H Q E h=>?_) λbE A outer s H vs Q E hr h=>?_
 .obtain⟨c,k,rfl,_⟩:=h;rfl
 obtain⟨c,k,rfl,q⟩:=h;refine⟨_,(lg<|ls<|l7<|ku (ml Bt (ml qf (ml qf (ml DR (ml Bt (pv 0)<|ml ard k7 k7) k7)<|ml DR k7<|pv 1) k7) k7) km),?_⟩;refine⟨_,rfl,_,_,rfl,rfl,⟨by decide,by decide,by decide⟩,_,_,rfl,rfl,az7,_,_,rfl,rfl,.inr ⟨by decide,by decide⟩,_,rfl,_,_,rfl,rfl,.inl ⟨by decide,by decide⟩,_,_,rfl,rfl,_,_,rfl,rfl,_,_,rfl,rfl,pwM,
  sZ1,λp hp=>q p _ hp⟩
def StL(xs:Z9 V):Prop:=∃n:Int,xs=[.int n]
def aqh:Sp:=λvs H Q _=>∃(st:aF)(n:Z9 V)(m:Int),vs=[.ref st,.int m]/\H st=some (.lst n)/\StL n/\0<m/\m<=1000/\∀(n':Z9 V)(i:Int),StL n'->0<=i->i<m->Q (.int i) (upd H st<|.lst n')
def axj:lz ZS ZS (ll Kt):={}
def asq(F:Fun K "_law_next" "_law_next" Kt f fd):FnOk P w K mg base CX0 1 f fd ZS aqh:=by
 refine F.ok (k:=0) axj (λvs H Q E h=>?_) λbE A outer s H vs Q E hr h=>?_
 .obtain⟨st,n,m,rfl,_⟩:=h;rfl
 obtain⟨st,sx,m,rfl,bD,⟨n,rfl⟩,hm,IN,q⟩:=h;refine⟨_,(kq (zv (ml Bt (ml qf (ml DR (m7 nh (pv 0) k7 λ_ _=>rfl) k7) k7) k7)<|FT (pv 0) k7 F7)
  (lg<|ls<|ml Bt (ml at8 (m7 nh (pv 0) k7 λ_ _=>rfl) k7)<|pv 1)),?_⟩
 refine(k9 _ rfl st _ _ _ ⟨rfl,rfl,SqL.of bD,rfl,(anr _ _ rfl rfl (.inr ⟨by decide,by decide⟩) _ _ ⟨rfl,rfl,(lv _ _ ⟨rfl,rfl,pwM,?_⟩)⟩)⟩);refine(k9 _ rfl st _ _ 0 ⟨rfl,rfl,bD,rfl,?_⟩);refine(k9 _ rfl st _ _ _ ⟨rfl,rfl,SqL.of k8,rfl,(lv _ _ ⟨rfl,rfl,⟨by decide,by decide⟩,(m8 _ rfl _ _ ⟨rfl,rfl,hm,?_⟩)⟩)⟩);exact q _ _ ⟨_,rfl⟩ (Int.emod_nonneg _<|by lia)<|Int.emod_lt_of_pos _ hm
noncomputable abbrev wx(P:aI)(w:aJ)(K:aq)(mg:Str->Option aA)(base:Heap):Prop:=Fn P w K mg base "_law_next" 1 ZS aqh
def FC(x:Str):Prop:=0<x.length/\x.length<=26/\∀c∈x.cps.toList,65<=c/\c<=90
def aj6:Sp:=λvs H Q _=>∃(st:aF)(n:Z9 V),vs=[.ref st]/\H st=some (.lst n)/\StL n/\∀(x:Str)(H':Hp)(n':Z9 V),FC x->Ex [st] H H'->H' st=some (.lst n')->StL n'->Q (.str x) H'
def arl:lz Z5 Z5 (ll Ll):={}
def Ag{α:Type}{xs:List α}{i:Int}(h0:0<=i)(h1:i<xs.length):∃x,atI xs i=some x/\x∈xs:=by
 obtain⟨j,rfl⟩:=br h0;have hj:j<xs.length:=by lia
 exact⟨xs[j],my<|ae hj,fz hj⟩
def sgL{z:Str}(h:0<z.length/\z.length<=26/\z.cps.toList.all (λc=>decide (65<=c)&&decide (c<=90))=true):FC z:=⟨h.1,h.2.1,λc hc=>by simpa using bq.mp h.2.2 c hc⟩
def ao7(aR:wx P w K mg base)(F:Fun K "_law_signs" "_law_signs" Ll f fd):FnOk P w K mg base CX0 2 f fd Z5 aj6:=by
 refine F.ok (k:=1) arl (λvs H Q E h=>?_) λbE A outer s H vs Q E hr h=>?_
 .obtain⟨st,n,rfl,_⟩:=h;rfl
 obtain⟨st,n,rfl,bD,hn,q⟩:=h;refine⟨_,(lg<|ls<|m7 nh (l7<|ku lc<|ku lc<|ku lc<|ku lc km) (me aR hr (by decide) rfl<|ku (pv 0)<|ku k7 km) λ_ _=>rfl),?_⟩;refine⟨sZ4,λp hp=>?_⟩;have dO:p≠st:=λe=>by rw[e,bD]at hp;cases hp
 refine(nv _ rfl st n 4 ⟨rfl,by rw[lh (Ne.symm dO)];exact bD,hn,by decide,by decide,λn' i eZ h0 h4=>?_⟩);obtain⟨x,hx,hm⟩:=Ag (α:=V) (xs:=[V.str "ABCDEFGHIJKLMNOPQRSTUVWXYZ",V.str "AB",V.str "A",V.str "QZ"]) h0 h4;have hs:∃z,x=.str z/\FC z:=by simp only[ap,cv,or_false]at hm;rcases hm with rfl|rfl|rfl|rfl<;>exact⟨_,rfl,sgL<|by decide +kernel⟩
 obtain⟨z,rfl,hz⟩:=hs;refine(lr p _ i _ ⟨rfl,rfl,SqL.of<|by rw[lh dO];exact k8,hx,?_⟩);exact q z _ n' hz ((Ex.fresh hp).trans (Ex.upd<|by simp)) k8 eZ
noncomputable def cl(d:Z8):Cl:=(iL d,iN d)
def yn{H:Hp}{cs:Z9 Z8}{xs:Z9 V}{i:Nat}{v:V}(h:Cells cs)(r:RepAll H cs xs)(e:xs[i]?=some v):∃(a:aF)(p q:Int),v=.ref a/\H a=some (.tup [.int p,.int q])/\cs[i]?=some (.tuple [.int p,.int q]):=by obtain⟨d,e1,e2⟩:=r.at e;obtain⟨p,q,rfl⟩:=h d<|ah e1;obtain⟨a,e3,e4⟩:=apd e2;exact(mj a p q ⟨e3,e4,e1⟩)
def al0:Sp:=λvs H Q _=>∃(st:aF)(n:Z9 V)(m:Int),vs=[.ref st,.int m]/\H st=some (.lst n)/\StL n/\0<m/\m<=100/\
 ∀(r:aF)(H':Hp)(n':Z9 V)(xs:Z9 V)(cs:Z9 Z8),H r=none->Ex [st] H H'->H' st=some (.lst n')->StL n'->H' r=some (.lst xs)->RepAll H' cs xs->Cells cs->Conn (cs.map cl)->(cs.map cl).Nodup->0<cs.length->(cs.length:Int)<=m->Q (.ref r) H'
def scGrown:lz ["_law_state_here","_law_most","_law_cells","_law_k","_law_row","_law_column","_law_down","_law_right"] ZY (ll K2):={}
def aom(B:∀x∈ux,mg x=none)(aR:wx P w K mg base)(F:Fun K "_law_grown" "_law_grown" K2 f fd):FnOk P w K mg base CX0 2 f fd ZY al0:=by
 refine F.ok (k:=1) scGrown (λvs H Q E h=>?_) λbE A outer s H vs Q E hr h=>?_
 .obtain⟨st,n,m,rfl,_⟩:=h;rfl
 obtain⟨st,n,m,rfl,bD,hn0,IP,IN,q⟩:=h;have hu:=hr.units;refine⟨_,(kq (l4 (i:=2) scGrown.nd rfl (Or.inl rfl)<|l7<|ku (qd<|ku k7<|ku k7 km) km)
  (kq (vn ge rfl (tV rfl (B "range"<|by decide)<|ku (me aR hr (by decide) rfl<|ku (pv 0)<|ku (pv 1) km) km) (li (i:=3) scGrown.nd rfl<|Or.inl rfl) (kq (zv (m7 nh (pv 2) (me aR hr (by decide) rfl<|ku (pv 0)<|ku (mw m5 rfl (B "len"<|by decide) b9<|ku (pv 2) km) km) λ_ _=>rfl)<|yz (n:=2) rfl<|mf (li (i:=4) scGrown.nd rfl<|Or.inl rfl)<|mf (li (i:=5) scGrown.nd rfl<|Or.inl rfl) sj)
  (kq (zv (m7 nh (l7<|ku (qd<|ku k7<|ku k7 km)<|ku (qd<|ku k7<|ku k7 km)<|ku (qd<|ku k7<|ku (aw6 aqq k7) km)<|ku (qd<|ku (aw6 aqq k7)<|ku k7 km) km) (me aR hr (by decide) rfl<|ku (pv 0)<|ku k7 km) λ_ _=>rfl)<|yz (n:=2) rfl<|mf (li (i:=6) scGrown.nd rfl<|Or.inl rfl)<|mf (li (i:=7) scGrown.nd rfl<|Or.inl rfl) sj)
  (lg<|o4 (m6 (yk hu) (qd<|ku (ml qf (pv 4)<|pv 6)<|ku (ml qf (pv 5)<|pv 7) km) (pv 2) rfl) (lg<|sq<|qi dh ff fg qg (pv 2)<|ku (qd<|ku (ml qf (pv 4)<|pv 6)<|ku (ml qf (pv 5)<|pv 7) km) km) mh))))
  (lg<|ls<|pv 2))),?_⟩
 refine⟨sZ2,λp1 nG=>⟨sZ1,λp2 qO=>?_⟩⟩;obtain⟨Io,yY⟩:=qz qO;have n1:st≠p1:=mq bD nG;have n2:st≠p2:=mq bD yY;have Ib:upd (upd H p1<|.tup [.int 0,.int 0]) p2 (.lst [.ref p1]) st=some (.lst n):=by rw[lh n2,lh n1];exact bD
 refine(mi _ rfl _ rfl st n m ⟨rfl,Ib,hn0,IP,by lia,λn' j fW hj0 hj1=>⟨j,rfl,by lia,by lia,?_⟩⟩);refine t7 (n:=j.toNat) (lo:=0) (λi σ' H'=>∃(x3 x4 x5 x6 x7:Option V)(n':Z9 V)(xs:Z9 V)(cs:Z9 Z8),σ'=[some (.ref st),some<|.int m,some<|.ref p2,x3,x4,x5,x6,x7]/\Ex [st] H H'/\H' st=some (.lst n')/\StL n'/\H' p2=some (.lst xs)/\RepAll H' cs xs/\Cells cs/\Conn (cs.map cl)/\(cs.map cl).Nodup/\
  0<cs.length/\cs.length<=i+1) ?_ (λi σ' H' hi h=>?_) λσ' H' h=>?_
 .have e0:Ex [st] H (upd (upd H p1<|.tup [.int 0,.int 0]) p2<|.lst [.ref p1]):=(Ex.fresh nG).trans (Ex.fresh qO);have c0:upd (upd (upd H p1<|.tup [.int 0,.int 0]) p2<|.lst [.ref p1]) st (.lst n') p1=some (.tup [.int 0,.int 0]):=by
   rw[lh (Ne.symm n1),lh<|Ne.symm Io];exact k8
  refine(nj none none none none none<|mj n' ([.ref p1]) ([.tuple [.int 0,.int 0]]) ⟨rfl,e0.trans<|Ex.upd<|by simp,k8,fW,by rw[lh (Ne.symm n2)];exact k8,(lv _ _ ⟨rfl,ut c0,rfl⟩),λd hd=>?_,Conn.one _,by simp,by simp,by simp⟩);rw[a6.mp hd];exact(lv 0 0 rfl)
 .obtain⟨x3,x4,x5,x6,x7,Hw,xs,cs,rfl,eI,jZ,zC,hp,eQ,iH,oE,kB,dN,aU⟩:=h;have hxl:=eQ.length;refine(xj _ rfl _ rfl _ rfl p2 xs ⟨rfl,.inl<|SqL.of hp,(mj st Hw _ ⟨rfl,jZ,zC,by lia,by lia,λyQ i2 IG pH A2=>?_⟩)⟩);have qY:i2.toNat<xs.length:=by lia
  have e2:i2=((i2.toNat:Nat):Int):=by lia
  obtain⟨b,r,c,hv,hb,jO⟩:=yn iH eQ<|ae qY;have zS:atI xs i2=some (.ref b):=by rw[e2];exact my<|by rw[ae qY,hv]
  have nb:b≠st:=KQ hb jZ (by intro z;cases z);refine(lr p2 xs i2 _ ⟨rfl,rfl,SqL.of<|by rw[lh (Ne.symm n2)];exact hp,zS,(on b _ rfl (SqT.of<|by rw[lh nb];exact hb) rfl _ _ rfl _ ⟨_,rfl,rfl,?_⟩)⟩);have exA:Ex [st] H (upd H' st<|.lst yQ):=eI.trans (Ex.upd<|by simp);have AG:upd H' st (.lst yQ) st=some (.lst yQ):=k8;have pA:upd H' st (.lst yQ) p2=some (.lst xs):=by rw[lh (Ne.symm n2)];exact hp
  have rA:RepAll (upd H' st<|.lst yQ) cs xs:=eQ.tk (Tk.lst jZ) iH.imm;generalize upd H' st (.lst yQ)=HA at *;refine⟨sZ2,λq1 lT=>⟨sZ2,λq2 E3=>?_⟩⟩;refine⟨_,rfl,sZ2,λq3 hq3=>?_⟩;refine⟨_,rfl,sZ2,λq4 hq4=>⟨sZ4,λq5 hq5=>?_⟩⟩;have a2:=qz E3;have a3:=qz hq3;have JX:=qz a3.2;have a4:=qz hq4;have b4:=qz a4.2;have c4:=qz b4.2;have a5:=qz hq5;have b5:=qz a5.2;have c5:=qz b5.2;have d5:=qz c5.2;have same:Same HA (upd (upd (upd (upd (upd HA q1<|.tup [.int 0,.int 1]) q2<|.tup [.int 1,.int 0]) q3<|.tup [.int 0,.int<|-1]) q4<|.tup [.int (-1),.int 0]) q5<|.lst [.ref q1,.ref q2,.ref q3,.ref q4]):=
   ((((Same.fresh _ lT).trans (Same.fresh _ E3)).trans (Same.fresh _ hq3)).trans (Same.fresh _ hq4)).trans (Same.fresh _ hq5)
  have five:∀v∈[V.ref q1,.ref q2,.ref q3,.ref q4],∃(b:aF)(d e:Int),((d=0/\(e=1\/e = -1))\/(e=0/\(d=1\/d = -1)))/\v=.ref b/\b≠st/\(upd (upd (upd (upd (upd HA q1<|.tup [.int 0,.int 1]) q2<|.tup [.int 1,.int 0]) q3<|.tup [.int 0,.int<|-1]) q4<|.tup [.int (-1),.int 0]) q5<|.lst [.ref q1,.ref q2,.ref q3,.ref q4]) b=some (.tup [.int d,.int e]):=by
   intro v hv;have m1:q1≠st:=λz=>by rw[z,AG]at lT;cases lT
   have m2:q2≠st:=λz=>by rw[z,AG]at a2;cases a2.2
   have m3:q3≠st:=λz=>by rw[z,AG]at JX;cases JX.2
   have m4:q4≠st:=λz=>by rw[z,AG]at c4;cases c4.2
   rcases ap.mp hv with rfl|hv
   .exact(mj q1 0 1 ⟨by lia,rfl,m1,by rw[lh (Ne.symm d5.1),lh<|Ne.symm c4.1,lh<|Ne.symm JX.1,lh<|Ne.symm a2.1];exact k8⟩)
   rcases ap.mp hv with rfl|hv
   .exact(mj q2 1 0 ⟨by lia,rfl,m2,by rw[lh (Ne.symm c5.1),lh<|Ne.symm b4.1,lh<|Ne.symm a3.1];exact k8⟩)
   rcases ap.mp hv with rfl|hv
   .exact(mj q3 0 (-1) ⟨by lia,rfl,m3,by rw[lh (Ne.symm b5.1),lh<|Ne.symm a4.1];exact k8⟩)
   rcases ap.mp hv with rfl|hv
   .exact(mj q4 (-1) 0 ⟨by lia,rfl,m4,by rw[lh (Ne.symm a5.1)];exact k8⟩)
   cases hv
  have l5:(upd (upd (upd (upd (upd HA q1<|.tup [.int 0,.int 1]) q2<|.tup [.int 1,.int 0]) q3<|.tup [.int 0,.int<|-1]) q4<|.tup [.int (-1),.int 0]) q5<|.lst [.ref q1,.ref q2,.ref q3,.ref q4]) q5=some (.lst [.ref q1,.ref q2,.ref q3,.ref q4]):=k8;have exB:=exA.trans<|Ex.of_same same;have stB:=same _ _ AG;have pB:=same _ _ pA;have rB:=rA.same same;have n5:q5≠st:=λz=>by rw[z,AG]at d5;cases d5.2
  generalize (upd (upd (upd (upd (upd HA q1<|.tup [.int 0,.int 1]) q2<|.tup [.int 1,.int 0]) q3<|.tup [.int 0,.int<|-1]) q4<|.tup [.int (-1),.int 0]) q5<|.lst [.ref q1,.ref q2,.ref q3,.ref q4])=HB at *;refine(nv _ rfl st yQ 4 ⟨rfl,stB,IG,by decide,by decide,λn3 i3 gO Fg h31=>?_⟩);obtain⟨v,Jr,hm⟩:=Ag (α:=V) (xs:=[V.ref q1,.ref q2,.ref q3,.ref q4]) Fg h31;obtain⟨b3,d,e,hde,rfl,m3,A0⟩:=five v hm;have exC:Ex [st] H (upd HB st<|.lst n3):=exB.trans (Ex.upd<|by simp);have stC:upd HB st (.lst n3) st=some (.lst n3):=k8;have pC:upd HB st (.lst n3) p2=some (.lst xs):=by rw[lh (Ne.symm n2)];exact pB
  have rC:RepAll (upd HB st<|.lst n3) cs xs:=rB.tk (Tk.lst stB) iH.imm;have bC:upd HB st (.lst n3) b3=some (.tup [.int d,.int e]):=by rw[lh m3];exact A0
  have l5C:upd HB st (.lst n3) q5=some (.lst [.ref q1,.ref q2,.ref q3,.ref q4]):=by rw[lh n5];exact l5
  generalize upd HB st (.lst n3)=HC at *;refine(lr q5 _ i3 _ ⟨rfl,rfl,SqL.of l5C,Jr,(on b3 _ rfl (SqT.of bC) rfl _ _ rfl _ ⟨_,rfl,rfl,?_⟩)⟩);refine(qh _ rfl _ rfl _ _ rfl rfl _ ⟨rfl,(m8 _ rfl _ _ ⟨rfl,rfl,sZ2,λt1 Ia=>?_⟩)⟩);have AF:Same HC (upd HC t1<|.tup [.int (r+d),.int<|c+e]):=Same.fresh _ Ia;refine(k9 _ rfl (.tuple [.int (r+d),.int<|c+e]) p2 xs cs ⟨ut k8,rfl,.inl<|AF _ _ pC,rC.same AF,(by simp[fh,bg]),_,rfl,?_⟩);have exD:=exC.trans<|Ex.of_same AF;have stD:=AF _ _ stC;have pD:=AF _ _ pC;have rD:=rC.same AF;generalize upd HC t1 (.tup [.int (r+d),.int<|c+e])=HD at *;refine qb (λuS=>?_) λ_=>?_
  .refine(ma _ rfl (.inl ⟨rfl,_,SqL.of pD⟩) _ ⟨rfl,(nw _ rfl _ _ rfl rfl _ ⟨rfl,(m8 _ rfl _ _ ⟨rfl,rfl,sZ2,λt2 HZ=>?_⟩)⟩)⟩);have Ek:Same HD (upd HD t2<|.tup [.int (r+d),.int<|c+e]):=Same.fresh _ HZ;have t2c:upd HD t2 (.tup [.int (r+d),.int<|c+e]) t2=some (.tup [.int (r+d),.int<|c+e]):=k8;have exE:=exD.trans<|Ex.of_same Ek;have stE:=Ek _ _ stD;have pE:=Ek _ _ pD;have rE:=rD.same Ek;generalize upd HD t2 (.tup [.int (r+d),.int<|c+e])=HE at *;refine(mj p2 xs (.ref t2) ⟨rfl,rfl,pE,lu<|by lia,?_⟩);have C3:Cells (cs++[.tuple [.int (r+d),.int<|c+e]]):=λz hz=>by
    rcases bo.mp hz with h|h
    .exact iH z h
    .rw[a6.mp h];exact(lv _ _ rfl)
   refine(nj _ _ _ _ _<|mj n3 (xs++[.ref t2]) (cs++[.tuple [.int (r+d),.int<|c+e]]) ⟨rfl,?_,by rw[lh n2];exact stE,gO,k8,((rE.snoc<|ut t2c).tk (Tk.lst pE) C3.imm),C3,?_,?_,by simp,by simp;lia⟩)
   .exact exE.new yY
   .rw[ay];refine oE.snoc (a:=(r,c)) ?_ ?_
    .exact a7.mpr ⟨_,ah jO,rfl⟩
    .show Tch (r,c) (r+d,c+e);unfold Tch;simp only;lia
   .rw[ay,List.nodup_append];refine⟨kB,by simp,λx hx y hy=>?_⟩;have ey:y=(r+d,c+e):=a6.mp hy;intro exy;rw[exy,ey]at hx;obtain⟨z,hz,ez⟩:=a7.mp hx;obtain⟨r0,c0,rfl⟩:=iH z hz;have ez':(r0,c0)=(r+d,c+e):=ez;injection ez' with e1 e2
    rw[if_pos rfl,Bool.not_eq_true',List.any_eq_false]at uS;exact uS _ hz<|by rw[e1,e2];exact SeqAt.eqv_refl _ (ut t2c).lay
  .exact(nj _ _ _ _ _<|mj n3 xs cs ⟨rfl,exD,stD,gO,pD,rD,iH,oE,kB,dN,by lia⟩)
 .obtain⟨x3,x4,x5,x6,x7,Hw,xs,cs,rfl,eI,jZ,zC,hp,eQ,iH,oE,kB,dN,aU⟩:=h;exact⟨_,rfl,q p2 H' Hw xs cs yY eI jZ zC hp eQ iH oE kB dN<|by lia⟩
def SgD(d:Z8):Prop:=∃(r c:Int)(k:Nat),d=.tuple [.int r,.int c,.str ⟨#[k]⟩]/\65<=k/\k<=90
def ahi{ds:Z9 Z8}(h:∀d∈ds,SgD d):Spots ds:=λd hd=>by obtain⟨r,c,k,e,_⟩:=h d hd;exact(mj r c _ e)
def aoz{d:Z8}(a b:Int)(h:SgD d):SgD (uf a b d):=by obtain⟨r,c,k,rfl,h1,h2⟩:=h;exact(mj (r-a) (c-b) k ⟨rfl,h1,h2⟩)
def aqr:Sp:=λvs H Q _=>∃a xs ds,vs=[.ref a]/\H a=some (.lst xs)/\RepAll H ds xs/\Spots ds/\0<ds.length/\ds.length<64/\∀r H',Same H H'->Rep H' (.tuple<|qp<|ox ds) (.ref r)->Q (.ref r) H'
def agd{K:aq}{a:aF}{xs:Z9 V}{ds:Z9 Z8}{σ:L2.St}{H H0:Hp}{Q:VK}{t l:Int}(hσ:σ[0]?=some (some<|.ref a))(h1:σ[1]?=some (some<|.int t))(h2:σ[2]?=some (some<|.int l))
  (ha:H a=some (.lst xs)) (hr:RepAll H ds xs) (hs:Spots ds) (hl:ds.length<64) (ht:t=zc (ds.map iL)) (hll:l=zc (ds.map iN)) (h0:Same H0 H)
  (q:∀r H',Same H0 H'->Rep H' (.tuple<|qp<|ox ds) (.ref r)->Q (.ref r) H') :
  xJ (FI K<|iC 0) [none,none,none,some 1,some 2] (Bb K 3<|ze (ve 0)<|ze (ve 1)<|ze (ve 2) DB) wg
   (FA<|sL (tOp (rI0 λi j=>.int<|i-j) (iC 0)<|iC 3)<|sL (tOp (rI0 λi j=>.int<|i-j) (iC 1)<|iC 4)<|sL (iC 2) DC) σ H λx H1=>∃p xs ds ks,[x]=[.ref p]/\H1 p=some (.lst xs)/\RepAll H1 ds xs/\Rows ks ds/\ds.length<64/\
  ∀l ys,H1 l=none->RepAll (upd H1 l<|.lst ys) (qp ds) ys->∃p xS,[V.ref l]=[.ref p]/\((SqL K (upd H1 l<|.lst ys) p xS/\∀l',upd H1 l (.lst ys) l'=none->Q (.ref l') (upd (upd H1 l<|.lst ys) l'<|.tup xS))\/(SqT K (upd H1 l<|.lst ys) p xS/\Q (.ref p) (upd H1 l<|.lst ys))):=by
 refine ajg hσ h1 h2 ha hr hs hl λD ys H' Co hD eQ=>?_;refine(lr D ys _ ([true,false]) ⟨rfl,hD,eQ,acg hs t l,by rw[af];exact hl,λl1 zs gQ hz=>?_⟩);refine(lv l1 zs ⟨rfl,.inl ⟨SqL.of k8,λl2 fK=>?_⟩⟩);have s1:Same H' (upd H' l1<|.lst zs):=Same.fresh _ gQ;have s2:Same (upd H' l1<|.lst zs) (upd (upd H' l1<|.lst zs) l2<|.tup zs):=Same.fresh _ fK;refine q l2 _ (((h0.trans Co).trans s1).trans s2)<|lv l2 zs ⟨rfl,k8,?_⟩;have e:ds.map (uf t l)=ox ds:=by unfold ox;rw[ht,hll]
 rw[e]at hz;exact hz.same s2
def scShift:lz ["_law_spots","_law_top","_law_left"] ["_law_spots"] (ll Ld):={}
def aoi(B:∀x∈ux,mg x=none)(F:Fun K "_law_shifted" "_law_shifted" Ld f fd):FnOk P w K mg base CX0 1 f fd ["_law_spots"] aqr:=by
 refine F.ok (k:=0) scShift (λvs H Q E h=>?_) λbE A outer s H vs Q E hr h=>?_
 .obtain⟨a,xs,ds,rfl,_⟩:=h;rfl
 obtain⟨a,xs,ds,rfl,ha,eQ,hs,dN,oG,q⟩:=h;refine⟨_,(kq (l4 (i:=1) scShift.nd rfl (Or.inr rfl)<|mw (aef rfl) rfl (B "min"<|by decide) gD<|ku (nk Z0 [none] rfl rfl (by decide +kernel) (by decide +kernel) rfl rfl (o8<|pv 0) (λ_=>(li (i:=0) (show(Z0:Z9 PySem.Str).Nodup by decide +kernel) rfl<|Or.inl rfl)) (λ_=>ng) λ_=>(m7 vt (pv 0) k7 λ_ _=>rfl)) km)
  (kq (l4 (i:=2) scShift.nd rfl (Or.inr rfl)<|mw (aef rfl) rfl (B "min"<|by decide) gD<|ku (nk Z0 [none] rfl rfl (by decide +kernel) (by decide +kernel) rfl rfl (o8<|pv 0) (λ_=>(li (i:=0) (show(Z0:Z9 PySem.Str).Nodup by decide +kernel) rfl<|Or.inl rfl)) (λ_=>ng) λ_=>(m7 vt (pv 0) k7 λ_ _=>rfl)) km)
  (lg<|ls<|x9 oh rfl (B "tuple"<|by decide) iw<|ku (mw aab rfl (B "sorted"<|by decide) kT<|ku (nk ZR [none,none,none,some 1,some 2] rfl rfl (by decide +kernel) (by decide +kernel) rfl rfl (o8<|pv 0) (λ_=>(F2 (n:=3) rfl<|mf (li (i:=0) (show(ZR:Z9 PySem.Str).Nodup by decide +kernel) rfl<|Or.inl rfl)<|mf (li (i:=1) (show(ZR:Z9 PySem.Str).Nodup by decide +kernel) rfl<|Or.inl rfl)<|mf (li (i:=2) (show(ZR:Z9 PySem.Str).Nodup by decide +kernel) rfl<|Or.inl rfl) sj)) (λ_=>ng) λ_=>(qd<|ku (ml yh (pv 0)<|pv 3)<|ku (ml yh (pv 1)<|pv 4)<|ku (pv 2) km)) km) km))),?_⟩
 refine aej 0 iL Lg rfl ha eQ hs oG λD1 H1 s1 A1=>?_;refine(lv D1 _ ⟨rfl,A1,by rw[af];exact dN,λM1 m1 ER=>?_⟩);refine aej 1 iN KZ rfl (s1 _ _ ha) (eQ.same s1) hs oG λD2 H2 s2 dF=>?_;refine(lv D2 _ ⟨rfl,dF,by rw[af];exact dN,λM2 m2 EQ=>?_⟩);exact agd rfl rfl rfl ((s1.trans s2) _ _ ha) (eQ.same<|s1.trans s2) hs oG (xz m1 ER) (xz m2 EQ) (s1.trans s2) q
structure Pre(ds:Z9 Z8):Prop where
 sg:∀d∈ds,SgD d
 pos:0<ds.length
 six:ds.length<=6
 con:Conn (ds.map cl)
 nd:(ds.map cl).Nodup
structure Zr(ds:Z9 Z8):Prop where
 pre:Pre ds
 r0:zc (ds.map iL)=0
 c0:zc (ds.map iN)=0
def Pre.spots{ds:Z9 Z8}(h:Pre ds):Spots ds:=λd hd=>by obtain⟨r,c,k,e,_⟩:=h.sg d hd;exact(mj r c _ e)
theorem Pre.map{ds:Z9 Z8}(h:Pre ds){f:Z8->Z8}{g:Cl->Cl}(hf:∀d,SgD d->SgD (f d)/\cl (f d)=g (cl d))(hg:∀a b,Tch a b->Tch (g a) (g b))(hi:∀a b,g a=g b->a=b):Pre (ds.map f):=by
 have e:(ds.map f).map cl=(ds.map cl).map g:=by rw[gd,gd];exact ix λd hd=>(hf d<|h.sg d hd).2
 refine⟨λd hd=>?_,by rw[af];exact h.pos,by rw[af];exact h.six,by rw[e];exact h.con.map hg,?_⟩
 .obtain⟨x,hx,rfl⟩:=a7.mp hd;exact(hf x<|h.sg x hx).1
 .rw[e];exact List.Pairwise.map g (λa b kS z=>kS<|hi a b z) h.nd
def Pre.perm{ds es:Z9 Z8}(h:Pre ds)(p:es.Perm ds):Pre es:=
 ⟨λd hd=>h.sg d<|p.mem_iff.mp hd,by rw[p.length_eq];exact h.pos,by rw[p.length_eq];exact h.six,h.con.congr λa=>(p.map cl).mem_iff,(p.map cl).nodup_iff.mpr h.nd⟩
def LW{ns ms:Z9 Int}(p:ns.Perm ms)(h:0<ns.length):zc ns=zc ms:=
 xz (p.mem_iff.mp<|xh h) λa ha=>zi a<|p.mem_iff.mpr ha
theorem Zr.perm{ds es:Z9 Z8}(h:Zr ds)(p:es.Perm ds):Zr es:=by have hp:=h.pre.perm p;exact⟨hp,(LW (p.map iL)<|by rw[af];exact hp.pos).trans h.r0,(LW (p.map iN)<|by rw[af];exact hp.pos).trans h.c0⟩
def L9{d:Z8}(a b:Int)(h:SgD d):SgD (uf a b d)/\cl (uf a b d)=((cl d).1-a,(cl d).2-b):=by obtain⟨r,c,k,rfl,h1,h2⟩:=h;exact⟨(mj (r-a) (c-b) k ⟨rfl,h1,h2⟩),rfl⟩
def awu(d:Z8):iL d=(cl d).1:=rfl
def au2(d:Z8):iN d=(cl d).2:=rfl
def am2{ns:Z9 Int}(h:0<ns.length):zc (ns.map λx=>x-zc ns)=0:=by
 refine(xz ?_ λa ha=>?_).symm
 .exact a7.mpr ⟨zc ns,xh h,by lia⟩
 .obtain⟨x,hx,rfl⟩:=a7.mp ha;have:=zi x hx;lia
theorem Zr.shift{ds:Z9 Z8}(h:Pre ds):Zr (ox ds):=by
 have hp:Pre (ox ds):=h.map (g:=λa=>(a.1-zc (ds.map iL),a.2-zc (ds.map iN))) (λd hd=>L9 _ _ hd) (λa b=>Tch.shift _ _) (λa b e=>by
  injection e with e1 e2
  exact Prod.ext (by lia)<|by lia)
 refine⟨hp,?_,?_⟩
 .rw[show(ox ds).map iL=(ds.map iL).map λx=>x-zc (ds.map iL) by
   unfold ox;rw[gd,gd];exact ix λd hd=>by rw[Function.comp,awu,(L9 _ _<|h.sg d hd).2];rfl]
  exact am2<|by rw[af];exact h.pos
 .rw[show(ox ds).map iN=(ds.map iN).map λx=>x-zc (ds.map iN) by
   unfold ox;rw[gd,gd];exact ix λd hd=>by rw[Function.comp,au2,(L9 _ _<|h.sg d hd).2];rfl]
  exact am2<|by rw[af];exact h.pos
def DO(x y:Z8):Prop:=(cl x).1<(cl y).1\/((cl x).1=(cl y).1/\(cl x).2<(cl y).2)
theorem aaz:∀{xs ys:Z9 Z8},xs.Perm ys->xs.Pairwise DO->ys.Pairwise DO->xs=ys
 | [],ys,p,_,_=>(List.Perm.nil_eq p)
 | x::xs,[],p,_,_=>absurd p.length_eq (by simp)
 | x::xs,y::ys,p,hx,hy=>by
  have oV:=gt.mp hx;have wD:=gt.mp hy;have e:x=y:=by
   have m1:x∈y::ys:=p.mem_iff.mp aj;have m2:y∈x::xs:=p.mem_iff.mpr aj;rcases ap.mp m1 with e|m1
   .exact e
   rcases ap.mp m2 with e|m2
   .exact e.symm
   have a:=wD.1 x m1;have b:=oV.1 y m2;unfold DO at a b;lia
  subst e;rw[aaz (List.Perm.cons_inv p) oV.2 wD.2]
def aez{ds:Z9 Z8}(hz:Pre ds):(qp ds).Pairwise DO:=by
 have nE:=hz.perm<|vo ds;rw[gw];intro i j hi hj gW;have hx:(qp ds)[i]?=some (qp ds)[i]:=ae hi;have hy:(qp ds)[j]?=some (qp ds)[j]:=ae hj;have u:=ah4 (air hz.spots) hx hy<|cb gW;have nd:=gw.mp nE.nd i j (by simpa using hi) (by simpa using hj) gW;rw[List.getElem_map,List.getElem_map]at nd;generalize (qp ds)[i]=x at *;generalize (qp ds)[j]=y at *;obtain⟨r,c,k,rfl,_⟩:=nE.sg x<|ah hx;obtain⟨r',c',k',rfl,_⟩:=nE.sg y<|ah hy;have Ht:¬(r=r'/\c=c'):=λ⟨e1,e2⟩=>nd (by rw[e1,e2];rfl);show r<r'\/(r=r'/\c<c');have u':qt [.int r',.int c',.str ⟨#[k']⟩] [.int r,.int c,.str ⟨#[k]⟩]=false:=u;rw[DQ]at u';by_cases e1:r=r'
 .rw[if_pos e1.symm,DQ]at u';by_cases e2:c=c'
  .exact absurd ⟨e1,e2⟩ Ht
  .rw[if_neg (Ne.symm e2)]at u';have:=of_decide_eq_false u';lia
 .rw[if_neg (Ne.symm e1)]at u';have:=of_decide_eq_false u';lia
def Frm(es:Z9 Z8):Prop:=Zr es/\es.Pairwise DO
def Frm.of{ds:Z9 Z8}(h:Zr ds):Frm (qp ds):=⟨h.perm<|vo ds,aez h.pre⟩
def amy{ds es:Z9 Z8}(h:Frm es)(p:ds.Perm es):qp ds=es:=
 aaz ((vo ds).trans p) (aez<|h.1.pre.perm p) h.2
def aj1:Sp:=λvs H Q _=>∃(st:aF)(n:Z9 V),vs=[.ref st,.int 6]/\H st=some (.lst n)/\StL n/\∀(r:aF)(H':Hp)(n':Z9 V)(ds:Z9 Z8),Ex [st] H H'->H' st=some (.lst n')->StL n'->Zr ds->Rep H' (.tuple<|qp ds) (.ref r)->Q (.ref r) H'
def scForm:lz ["_law_state_here","_law_most","_law_signs_here","_law_spots","_law_row","_law_column"] ZY (ll Kv):={}
def alk{x:Str}(h:FC x):x.length<=aC:=cb (lu<|by have:=h.2.1;lia)
theorem atn(B:∀x∈ux,mg x=none)(aR:wx P w K mg base)(Aq:Fn P w K mg base "_law_signs" 2 Z5 aj6)(Aw:Fn P w K mg base "_law_grown" 2 ZY al0)(Ar:Fn P w K mg base "_law_shifted" 1 ["_law_spots"] aqr)
  (F:Fun K "_law_drawn_form" "_law_drawn_form" Kv f fd):FnOk P w K mg base CX0 3 f fd ZY aj1:=by
 refine F.ok (k:=2) scForm (λvs H Q E h=>?_) λbE A outer s H vs Q E hr h=>?_
 .obtain⟨st,n,rfl,_⟩:=h;rfl
 obtain⟨st,n,rfl,bD,hn,q⟩:=h;refine⟨_,(kq (l4 (i:=2) scForm.nd rfl (Or.inl rfl)<|me Aq hr (by decide) rfl<|ku (pv 0) km)
  (kq (l4 (i:=3) scForm.nd rfl (Or.inl rfl)<|l7 km)
  (kq (vn ge rfl (o8<|me Aw hr (by decide) rfl<|ku (pv 0)<|ku (pv 1) km) (yz (n:=2) rfl<|mf (li (i:=4) scForm.nd rfl<|Or.inl rfl)<|mf (li (i:=5) scForm.nd rfl<|Or.inl rfl) sj)<|lg<|sq<|qi dh ff fg qg (pv 3)<|ku (qd<|ku (pv 4)<|ku (pv 5)<|ku (m7 Bq (pv 2) (me aR hr (by decide) rfl<|ku (pv 0)<|ku (mw nz rfl (B "len"<|by decide) b9<|ku (pv 2) km) km) λ_ _=>rfl) km) km)
  (lg<|ls<|me Ar hr (by decide) rfl<|ku (pv 3) km)))),?_⟩
 refine(m8 _ rfl st n ⟨rfl,bD,hn,λsg H1 n1 kJ pJ jV fW=>?_⟩);refine⟨sZ0,λsp fP=>?_⟩;have BV:sp≠st:=λe=>by rw[e,jV]at fP;cases fP
 have Ic:H sp=none:=by
  cases z:H sp with
  | none=>rfl
  | some o=>have z':=pJ sp o (by simpa using BV) z;rw[z']at fP;cases fP
 have oI:Ex [st] H (upd H1 sp<|.lst []):=pJ.trans<|Ex.fresh fP;have eV:upd H1 sp (.lst []) st=some (.lst n1):=by rw[lh (Ne.symm BV)];exact jV
 have sp2:upd H1 sp (.lst []) sp=some (.lst []):=k8;generalize upd H1 sp (.lst [])=H2 at *;refine(mi _ rfl _ rfl st n1 6 ⟨rfl,eV,fW,by decide,by decide,λgr H3 n3 cxs cs wQ pI iY gO gr3 fD iH oE kB hpos3 hlen3=>?_⟩);have sp3:H3 sp=some (.lst []):=pI.at BV sp2;have ngs:gr≠sp:=λe=>by rw[e,sp2]at wQ;cases wQ
 have ngt:gr≠st:=λe=>by rw[e,eV]at wQ;cases wQ
 have lcx:=fD.length;refine⟨gr,rfl,⟨_,SqL.of gr3⟩,?_⟩;refine ah8 (xs:=cxs) (λj σ' H'=>∃(y4 y5:Option V)(n:Z9 V)(ds:Z9 Z8)(ys:Z9 V),σ'=[some (.ref st),some<|.int 6,some<|.str sg,some<|.ref sp,y4,y5]/\
  Ex [st,sp] H3 H'/\H' st=some (.lst n)/\StL n/\H' sp=some (.lst ys)/\RepAll H' ds ys/\(∀d∈ds,SgD d)/\ds.map cl=(cs.take j).map cl/\ds.length=j) ?_ (λj σ' H' hj h=>?_) (λj x σ' H' hx h=>?_) λσ' H' h=>?_
 .exact(nj _ _ n3 ([]) ([]) ⟨rfl,Ex.refl _ _,iY,gO,sp3,rfl,(λd hd=>by cases hd),rfl,rfl⟩)
 .obtain⟨_,_,_,_,_,_,eI,_⟩:=h;exact SqL.of<|eI _ _ (by simp[ngs,ngt]) gr3
 .obtain⟨y4,y5,n6,ds,ys,rfl,eI,kZ,oB,En,gK,uO,rH,IV⟩:=h;have tk6:Tk H3 H':=eI.tk λb hb=>by
   rcases ap.mp hb with rfl|hb
   .exact⟨_,iY⟩
   .rw[a6.mp hb];exact⟨_,sp3⟩
  obtain⟨b,cr,cc,rfl,hb,jO⟩:=yn iH fD hx;have im6:qu ds=true:=Spots.imm λd hd=>by obtain⟨r,c,k,e,_⟩:=uO d hd;exact(mj r c _ e)
  refine(on b _ rfl (SqT.of<|tk6 _ _ hb) rfl _ _ rfl _ ⟨_,rfl,rfl,?_⟩);refine(ma _ rfl (.inl ⟨rfl,_,SqL.of En⟩) _ ⟨rfl,(v8 _ rfl _ rfl _ ⟨rfl,(mm _ rfl sg ⟨rfl,alk kJ,(mj st n6 _ ⟨rfl,kZ,oB,by have:=kJ.1;lia,by have:=kJ.2.1;lia,λn7 i7 wK JC h71=>?_⟩)⟩)⟩)⟩);obtain⟨j7,rfl⟩:=br JC;have hj7:j7<sg.cps.toList.length:=by
   have:sg.length=sg.cps.toList.length:=by simp[Str.length]
   lia
  have hk:=kJ.2.2 _<|fz hj7;refine(mj sg _ (sg.cps.toList[j7]) ⟨rfl,rfl,alk kJ,my<|ae hj7,sZ3,λt ht=>?_⟩);generalize sg.cps.toList[j7]=k at *;have hok:kb (⟨#[k]⟩:Str)=true:=Tx.ok ⟨by show 1<=80;lia,λx hx=>by
   have:x=k:=by simpa using hx
   lia⟩
  have iE:upd H' st (.lst n7) st=some (.lst n7):=k8;have sp7:upd H' st (.lst n7) sp=some (.lst ys):=by rw[lh BV];exact En
  have yH:RepAll (upd H' st<|.lst n7) ds ys:=gK.tk (Tk.lst kZ) im6;have xB:Ex [st,sp] H3 (upd H' st<|.lst n7):=eI.trans (Ex.upd<|by simp);generalize upd H' st (.lst n7)=H7 at *;have s8:Same H7 (upd H7 t<|.tup [.int cr,.int cc,.str ⟨#[k]⟩]):=Same.fresh _ ht;have t8:upd H7 t (.tup [.int cr,.int cc,.str ⟨#[k]⟩]) t=some (.tup [.int cr,.int cc,.str ⟨#[k]⟩]):=k8;generalize upd H7 t (.tup [.int cr,.int cc,.str ⟨#[k]⟩])=H8 at *;have sp8:=s8 _ _ sp7;have CO:j<cxs.length:=(ar.mp hx).1;have hly:=gK.length;refine(mj sp ys (.ref t) ⟨rfl,rfl,sp8,lu<|by lia,?_⟩);have hsn:∀d∈ds++[.tuple [.int cr,.int cc,.str ⟨#[k]⟩]],SgD d:=λd hd=>by
   rcases bo.mp hd with h|h
   .exact uO d h
   .rw[a6.mp h];exact(mj cr cc k ⟨rfl,hk.1,hk.2⟩)
  have imn:qu (ds++[.tuple [.int cr,.int cc,.str ⟨#[k]⟩]])=true:=Spots.imm λd hd=>by obtain⟨r,c,k',e,_⟩:=hsn d hd;exact(mj r c _ e)
  refine⟨_,_,n7,ds++[.tuple [.int cr,.int cc,.str ⟨#[k]⟩]],ys++[.ref t],rfl,(xB.trans<|Ex.of_same s8).trans (Ex.upd<|by simp),by rw[lh (Ne.symm BV)];exact s8 _ _ iE,wK,k8,
   (((yH.same s8).snoc (xb t8 hok)).tk (Tk.lst sp8) imn),hsn,?_,by simp[IV]⟩
  rw[ay,rH,lq cl jO];rfl
 .obtain⟨y4,y5,n6,ds,ys,rfl,eI,kZ,oB,En,gK,uO,rH,IV⟩:=h;rw[bb (by lia)]at rH;have pre:Pre ds:=⟨uO,by lia,by lia,by rw[rH];exact oE,by rw[rH];exact kB⟩;refine(nv _ rfl sp ys ds ⟨rfl,En,gK,pre.spots,by lia,by lia,λr H9 s9 yG=>?_⟩);refine q r H9 n6 (ox ds) (λb o hb h0=>?_) (s9 _ _ kZ) oB (Zr.shift pre) yG;have nb:b≠sp:=λe=>by rw[e,Ic]at h0;cases h0
  have oT:b≠st:=by simpa using hb
  exact s9 _ _<|eI b o (by simp[nb,oT])<|pI b o (by simpa using oT)<|oI b o hb h0
def Kn(H:Hp)(v:V):Prop:=v=.non\/(∃b,v=.bl b)\/(∃i,v=.int i)\/(∃z,v=.str z/\Tx z)\/∃a,v=.ref a/\((∃xs,H a=some (.lst xs))\/(∃xs,H a=some (.tup xs))\/H a=some (.dK []))
def Kn.same{H H':Hp}{v:V}(s:Same H H')(h:Kn H v):Kn H' v:=by
 rcases h with h|h|h|h|⟨a,e,⟨xs,h⟩|⟨xs,h⟩|h⟩
 .exact .inl h
 .exact .inr<|.inl h
 .exact .inr<|.inr<|.inl h
 .exact .inr<|.inr<|.inr<|.inl h
 .exact .inr<|.inr<|.inr<|.inr ⟨a,e,.inl ⟨xs,s _ _ h⟩⟩
 .exact .inr<|.inr<|.inr<|.inr ⟨a,e,.inr<|.inl ⟨xs,s _ _ h⟩⟩
 .exact .inr<|.inr<|.inr<|.inr ⟨a,e,.inr<|.inr<|s _ _ h⟩
noncomputable def isW:V->Bool
 | .int _=>true
 | _=>false
noncomputable def sg1(z:Str):Bool:=match z.cps.toList with
 | [c]=>decide (65<=c)&&decide (c<=90)
 | _=>false
noncomputable def tP:V->Bool
 | .str z=>sg1 z
 | _=>false
theorem K9{z:Str}(h:z.length=1):∃c,z=⟨#[c]⟩:=by
 obtain⟨⟨l⟩⟩:=z
 match l,h with
 | [c],_=>exact⟨c,rfl⟩
def FW(c:Nat):sg1 ⟨#[c]⟩=(decide (65<=c)&&decide (c<=90)):=rfl
theorem LJ{z:Str}(h:z.length≠1):sg1 z=false:=by
 obtain⟨⟨l⟩⟩:=z
 match l,h with
 | [],_=>rfl
 | [c],h=>exact absurd rfl h
 | _::_::_,_=>rfl
noncomputable def Bf(x y z:V):Bool:=isW x&&isW y&&tP z
noncomputable def wc(H:Hp):V->Bool
 | .ref a=>match H a with
  | some (.tup [x,y,z])=>Bf x y z
  | _=>false
 | _=>false
def so(H:Hp)(a:aF):wc H (.ref a)=(match H a with|some (.tup [x,y,z])=>Bf x y z|_=>false):=rfl
def Kn2(H:Hp)(v:V):Prop:=Kn H v/\∀a xs,v=.ref a->H a=some (.tup xs)->xs.length<=60/\∀x∈xs,Kn H x
def Kn3(H:Hp)(v:V):Prop:=Kn H v/\∀a xs,v=.ref a->H a=some (.tup xs)->xs.length<=60/\∀x∈xs,Kn2 H x
def zg{H H':Hp}{a:aF}{xs:Z9 V}(s:Same H H')(h:Kn H (.ref a))(e:H' a=some (.tup xs)):H a=some (.tup xs):=by
 rcases h with h|⟨b,h⟩|⟨i,h⟩|⟨z,h,_⟩|⟨b,e',h⟩
 .cases h
 .cases h
 .cases h
 .cases h
 .cases e';rcases h with ⟨ys,h⟩|⟨ys,h⟩|h
  .rw[s _ _ h]at e;cases e
  .rw[s _ _ h]at e;cases e;exact h
  .rw[s _ _ h]at e;cases e
theorem Kn2.same{H H':Hp}{v:V}(s:Same H H')(h:Kn2 H v):Kn2 H' v:=⟨h.1.same s,λa xs e ha=>by subst e;obtain⟨h1,h2⟩:=h.2 a xs rfl<|zg s h.1 ha;exact⟨h1,λx hx=>(h2 x hx).same s⟩⟩
def zd{H H':Hp}{v:V}(s:Same H H')(h:Kn H v):wc H' v=wc H v:=by
 rcases h with rfl|⟨b,rfl⟩|⟨i,rfl⟩|⟨z,rfl,_⟩|⟨b,rfl,⟨ys,h⟩|⟨ys,h⟩|h⟩
 .rfl
 .rfl
 .rfl
 .rfl
 all_goals
  rw[so,so,s _ _ h,h]
def arh{K:aq}{H:Hp}{v:V}(h:Kn H v):(∃a xs,v=.ref a/\H a=some (.tup xs))\/((∃t,iW K H v t/\cj K t (.type "tuple")=some false)/\wc H v=false/\∀a xs,v=.ref a->H a=some (.tup xs)->False):=by
 rcases h with rfl|⟨b,rfl⟩|⟨i,rfl⟩|⟨z,rfl,_⟩|⟨a,rfl,⟨ys,h⟩|⟨ys,h⟩|h⟩
 .exact .inr ⟨⟨_,.non,rfl⟩,rfl,λ_ _ e=>by cases e⟩
 .exact .inr ⟨⟨_,.bl b,rfl⟩,rfl,λ_ _ e=>by cases e⟩
 .exact .inr ⟨⟨_,.int i,rfl⟩,rfl,λ_ _ e=>by cases e⟩
 .exact .inr ⟨⟨_,.str z,rfl⟩,rfl,λ_ _ e=>by cases e⟩
 .exact .inr ⟨⟨_,.lst h,rfl⟩,by rw[so,h],λb xs e ha=>by cases e;rw[h]at ha;cases ha⟩
 .exact .inl<|lv a ys ⟨rfl,h⟩
 .exact .inr ⟨⟨_,.dK h,rfl⟩,by rw[so,h],λb xs e ha=>by cases e;rw[h]at ha;cases ha⟩
def aq9{K:aq}{H:Hp}{v:V}(h:Kn H v):(∃z,v=.str z/\Tx z)\/((∃t,iW K H v t/\cj K t (.type "str")=some false)/\tP v=false):=by
 rcases h with rfl|⟨b,rfl⟩|⟨i,rfl⟩|⟨z,rfl,hz⟩|⟨a,rfl,⟨ys,h⟩|⟨ys,h⟩|h⟩
 .exact .inr ⟨⟨_,.non,rfl⟩,rfl⟩
 .exact .inr ⟨⟨_,.bl b,rfl⟩,rfl⟩
 .exact .inr ⟨⟨_,.int i,rfl⟩,rfl⟩
 .exact .inl ⟨z,rfl,hz⟩
 .exact .inr ⟨⟨_,.lst h,rfl⟩,rfl⟩
 .exact .inr ⟨⟨_,.tup h,rfl⟩,rfl⟩
 .exact .inr ⟨⟨_,.dK h,rfl⟩,rfl⟩
def uw{z:Str}(h:Tx z):z.length<=aC:=cb (lu<|by have:=h.1;lia)
def le1(a b:Nat):(!decide ([b]<[a]))=decide (a<=b):=by
 have h:([b]<[a])↔b<a:=by simp[kj]
 rw[decide_eq_decide.mpr h];by_cases c:b<a
 .rw[decide_eq_true c,decide_eq_false<|by lia];rfl
 .rw[decide_eq_false c,decide_eq_true<|by lia];rfl
def ak6{c lo hi:Nat}{a z:Str}{R:V->Prop}{A B:Prop}(ha:a.cps.toList=[lo])(hz:z.cps.toList=[hi])(q:R (.bl<|decide (lo<=c)&&decide (c<=hi)))
  (hA:R (.bl<|!decide (z.cps.toList<[c]))->A) (hB:R (.bl false)->B):if (!decide ((⟨#[c]⟩:Str).cps.toList<a.cps.toList))=true then A else B:=by
 have e:(⟨#[c]⟩:Str).cps.toList=[c]:=rfl;rw[e,ha,le1];rw[hz,le1]at hA;by_cases h:lo<=c
 .rw[decide_eq_true h]at *;rw[if_pos rfl];exact hA q
 .rw[decide_eq_false h]at *;rw[if_neg am];exact hB q
def spW:Sp:=λvs H Q _=>∃v,vs=[v]/\Kn H v/\Q (.bl<|isW v) H
def a08:lz Z7 Z7 (ll sPw):={}
def ay1(B:∀x∈ux,mg x=none)(F:Fun K "is_whole" "is_whole" sPw f fd):FnOk P w K mg base CX0 1 f fd Z7 spW:=by
 refine F.ok (k:=0) a08 (λvs H Q E h=>?_) λbE A outer s H vs Q E hr h=>?_
 .obtain⟨n,rfl,_⟩:=h;rfl
 obtain⟨v,rfl,hv,q⟩:=h;refine⟨_,(lg<|ls<|qm (mw ni rfl (B "isinstance"<|by decide) c7<|ku (pv 0)<|ku (qe (v:=.ty "int") rfl (B "int"<|by decide) PyProof.Rows.boot_int rfl) km)<|rm<|aw9<|mw ni rfl (B "isinstance"<|by decide) c7<|ku (pv 0)<|ku (qe (v:=.ty "bool") rfl (B "bool"<|by decide) boot_bool rfl) km),?_⟩;rcases hv with rfl|⟨b,rfl⟩|⟨i,rfl⟩|⟨z,rfl,hz⟩|⟨a,rfl,⟨ys,h⟩|⟨ys,h⟩|h⟩
 .exact(k9 _ rfl _ _ _ false ⟨rfl,.non,rfl,false,rfl,tw q⟩)
 .exact(k9 _ rfl _ _ _ true ⟨rfl,.bl b,rfl,true,rfl,oz<|k9 _ rfl _ _ _ true ⟨rfl,.bl b,rfl,true,rfl,q⟩⟩)
 .exact(k9 _ rfl _ _ _ true ⟨rfl,.int i,rfl,true,rfl,oz<|k9 _ rfl _ _ _ false ⟨rfl,.int i,rfl,false,rfl,q⟩⟩)
 .exact(k9 _ rfl _ _ _ false ⟨rfl,.str z,rfl,false,rfl,tw q⟩)
 .exact(k9 _ rfl _ _ _ false ⟨rfl,.lst h,rfl,false,rfl,tw q⟩)
 .exact(k9 _ rfl _ _ _ false ⟨rfl,.tup h,rfl,false,rfl,tw q⟩)
 .exact(k9 _ rfl _ _ _ false ⟨rfl,.dK h,rfl,false,rfl,tw q⟩)
def spS:Sp:=λvs H Q _=>∃v,vs=[v]/\Kn H v/\Q (.bl<|tP v) H
def a0u:lz Z7 Z7 (ll sPs):={}
def aya(B:∀x∈ux,mg x=none)(F:Fun K "is_sign" "is_sign" sPs f fd):FnOk P w K mg base CX0 1 f fd Z7 spS:=by
 refine F.ok (k:=0) a0u (λvs H Q E h=>?_) λbE A outer s H vs Q E hr h=>?_
 .obtain⟨c,rfl,_⟩:=h;rfl
 obtain⟨v,rfl,hv,q⟩:=h;refine⟨_,(lg<|ls<|qm (mw ni rfl (B "isinstance"<|by decide) c7<|ku (pv 0)<|ku (qe (v:=.ty "str") rfl (B "str"<|by decide) eO rfl) km)<|qm (ou sd (mw nz rfl (B "len"<|by decide) b9<|ku (pv 0) km) k7<|mr _)<|rm<|LS wz wz lc (pv 0) lc),?_⟩;rcases aq9 (K:=K) hv with ⟨z,rfl,hz⟩|⟨⟨t,ty,kt⟩,e⟩
 .refine(k9 _ rfl _ _ _ true ⟨rfl,.str _,rfl,true,rfl,oz ?_⟩);refine(mm _ rfl z ⟨rfl,uw hz,rfl,_,rfl,?_⟩);by_cases hl:z.length=1
  .obtain⟨c,rfl⟩:=K9 hl;refine qb (λ_=>?_) λh=>absurd (decide_eq_true rfl) h;exact(nw _ rfl _ _ rfl rfl _ ⟨rfl,ak6 (a:=aa "A") (z:=aa "Z") (R:=λv=>Q v H) (by decide +kernel) (by decide +kernel) q (λh=>(lv _ _ ⟨rfl,rfl,h⟩)) λh=>h⟩)
  .refine qb (λh=>?_) λ_=>?_
   .have h':=of_decide_eq_true h;injection h' with h'
    exact absurd (Int.ofNat_inj.mp h') hl
   .have e:tP (.str z)=false:=LJ hl;rw[e]at q;exact q
 .rw[e]at q;exact(k9 _ rfl v _ t false ⟨rfl,ty,kt,false,rfl,tw q⟩)
def a0p:Sp:=λvs H Q _=>∃v,vs=[v]/\Kn2 H v/\Q (.bl<|wc H v) H
def ay0:lz Z7 Z7 (ll J0):={}
theorem apt{H:Hp}{a:aF}{xs:Z9 V}(ha:H a=some (.tup xs))(h:xs.length≠3):wc H (.ref a)=false:=by
 rw[so,ha]
 match xs,h with
 | [],_=>rfl
 | [_],_=>rfl
 | [_,_],_=>rfl
 | [_,_,_],h=>exact absurd rfl h
 | _::_::_::_::_,_=>rfl
theorem DI{xs:Z9 V}(h:xs.length=3):∃x y z,xs=[x,y,z]:=by
 match xs,h with
 | [x,y,z],_=>exact(mj x y z rfl)
theorem av9(B:∀x∈ux,mg x=none)(DY:Fn P w K mg base "is_whole" 1 Z7 spW)(xQ:Fn P w K mg base "is_sign" 1 Z7 spS)(F:Fun K "is_spot" "is_spot" J0 f fd):FnOk P w K mg base CX0 2 f fd Z7 a0p:=by
 refine F.ok (k:=1) ay0 (λvs H Q E h=>?_) λbE A outer s H vs Q E hr h=>?_
 .obtain⟨c,rfl,_⟩:=h;rfl
 obtain⟨v,rfl,hv,q⟩:=h;refine⟨_,(kq (o4 (PW.pt<|yb (oy<|qc<|mw ni rfl (B "isinstance"<|by decide) c7<|ku (pv 0)<|ku (qe (v:=.ty "tuple") rfl (B "tuple"<|by decide) iw rfl) km)<|ua<|m6 Ai (mw m5 rfl (B "len"<|by decide) b9<|ku (pv 0) km) k7<|mr _) (lg<|ls o9) mh)
  (lg<|ls<|qm (me DY hr (by decide) rfl<|ku (m7 qw (pv 0) k7 λ_ _=>rfl) km)<|qm (me DY hr (by decide) rfl<|ku (m7 qw (pv 0) k7 λ_ _=>rfl) km)<|rm<|me xQ hr (by decide) rfl<|ku (m7 qw (pv 0) k7 λ_ _=>rfl) km)),?_⟩
 rcases arh (K:=K) hv.1 with ⟨a,xs,rfl,ha⟩|⟨⟨t,ty,kt⟩,e,_⟩
 .refine(k9 _ rfl (.ref a) ("tuple") (.type "tuple") true ⟨rfl,.tup ha,rfl,true,rfl,tw ?_⟩);refine(vf _ rfl a xs rfl (.inr<|SqT.of ha) rfl _ ⟨rfl,?_⟩);by_cases hl:xs.length=3
  .refine qb (λh=>?_) λ_=>?_
   .rw[hl]at h;exact absurd h<|by simp
   obtain⟨x,y,z,rfl⟩:=DI hl;have kn:=(hv.2 a _ rfl ha).2;have e:wc H (.ref a)=Bf x y z:=by rw[so,ha]
   rw[e]at q;refine(k9 _ rfl a _ _ _ ⟨rfl,rfl,SqT.of ha,rfl,(ma x rfl (kn x<|by simp) _ ⟨rfl,?_⟩)⟩);unfold Bf at q;cases hx:isW x with
   | false=>rw[hx]at q;exact tw q
   | true=>
    rw[hx,fq]at q;refine oz<|k9 _ rfl a _ _ _ ⟨rfl,rfl,SqT.of ha,rfl,(ma y rfl (kn y<|by simp) _ ⟨rfl,?_⟩)⟩;cases hy:isW y with
    | false=>rw[hy]at q;exact tw q
    | true=>
     rw[hy,fq]at q;exact oz<|k9 _ rfl a _ _ _ ⟨rfl,rfl,SqT.of ha,rfl,z,rfl,kn z<|by simp,q⟩
  .refine qb (λ_=>?_) λh=>?_
   .rw[apt ha hl]at q;exact q
   .exfalso;apply h;have:¬V.int ((xs.length:Nat):Int)=V.int 3:=λz=>by injection z with z;exact hl<|by lia
    rw[decide_eq_false this];rfl
 .rw[e]at q;exact(k9 _ rfl v ("tuple") t false ⟨rfl,ty,kt,false,rfl,oz<|oz q⟩)
noncomputable def Ka(i:Int):Int:=if i<0 then -i else i
noncomputable def xI(a b:Cl):Bool:=Ka (a.1-b.1)+Ka (a.2-b.2)==1
def ag1(a b:Cl):xI a b=true↔Tch a b:=by obtain⟨a1,a2⟩:=a;obtain⟨b1,b2⟩:=b;unfold xI Tch Ka;simp only[beq_iff_eq];split<;>split<;>lia
def aic{d:Z8}{p q:Int}(hd:∃r c:Int,d=.tuple [.int r,.int c]):c8 d (.tuple [.int p,.int q])=true↔cl d=(p,q):=by obtain⟨r,c,rfl⟩:=hd;show c8 (.tuple [.int r,.int c]) (.tuple [.int p,.int q])=true↔(r,c)=(p,q);rw[Prod.mk.injEq];simp[c8,ik]
def aon{cs:Z9 Z8}(iH:Cells cs)(p q:Int):(cs.any λe=>c8 e<|.tuple [.int p,.int q])=true↔(p,q)∈cs.map cl:=by
 rw[List.any_eq_true,a7];constructor
 .rintro⟨d,hd,e⟩;exact⟨d,hd,(aic<|iH d hd).mp e⟩
 .rintro⟨d,hd,e⟩;exact⟨d,hd,(aic<|iH d hd).mpr e⟩
def aha{d e:Z8}(hd:∃r c:Int,d=.tuple [.int r,.int c])(he:∃r c:Int,e=.tuple [.int r,.int c])(h:cl d=cl e):d=e:=by
 obtain⟨r,c,rfl⟩:=hd;obtain⟨r',c',rfl⟩:=he;have h':(r,c)=(r',c'):=h;injection h' with h1 h2
 rw[h1,h2]
theorem ahl:∀{T S:Z9 Cl},Conn S->(∀b∈T,∃a∈S,Tch a b)->Conn (S++T)
 | [],S,h,_=>by rw[f9];exact h
 | b::T,S,h,ht=>by
  obtain⟨a,ha,t⟩:=ht b aj;have h1:=h.snoc ha t;have h2:=ahl (T:=T) h1 λb' dH=>by obtain⟨a',dG,t'⟩:=ht b'<|ak _ dH;exact⟨a',ip _ dG,t'⟩
  rw[jk]at h2;exact h2
def auy:Sp:=λvs H Q _=>∃(a b:aF)(r c r' c':Int),vs=[.ref a,.ref b]/\H a=some (.tup [.int r,.int c])/\H b=some (.tup [.int r',.int c'])/\Q (.bl<|xI (r,c) (r',c')) H
def azt:lz ZQ ZQ (ll J8):={}
def awp(B:∀x∈ux,mg x=none)(F:Fun K "touches" "touches" J8 f fd):FnOk P w K mg base CX0 1 f fd ZQ auy:=by
 refine F.ok (k:=0) azt (λvs H Q E h=>?_) λbE A outer s H vs Q E hr h=>?_
 .obtain⟨a,b,r,c,r',c',rfl,_⟩:=h;rfl
 obtain⟨a,b,r,c,r',c',rfl,ha,hb,q⟩:=h;refine⟨_,(lg<|ls<|ou sd (ml qf (mw ahp rfl (B "abs"<|by decide) boot_abs<|ku (ml yh (m7 qw (pv 0) k7 λ_ _=>rfl)<|m7 qw (pv 1) k7 λ_ _=>rfl) km)<|mw ahp rfl (B "abs"<|by decide) boot_abs<|ku (ml yh (m7 qw (pv 0) k7 λ_ _=>rfl)<|m7 qw (pv 1) k7 λ_ _=>rfl) km) k7<|mr _),?_⟩;refine(k9 _ rfl a _ _ _ ⟨rfl,rfl,SqT.of ha,rfl,(k9 _ rfl b _ _ _ ⟨rfl,rfl,SqT.of hb,rfl,(lv _ _ ⟨rfl,rfl,_,rfl,?_⟩)⟩)⟩);refine(k9 _ rfl a _ _ _ ⟨rfl,rfl,SqT.of ha,rfl,(k9 _ rfl b _ _ _ ⟨rfl,rfl,SqT.of hb,rfl,(lv _ _ ⟨rfl,rfl,(m8 _ rfl _ _ ⟨rfl,rfl,rfl,?_⟩)⟩)⟩)⟩);rw[LC];exact q
def a0o:Sp:=λvs H Q _=>∃(a l:aF)(r c:Int)(xs:Z9 V)(cs:Z9 Z8),vs=[.ref a,.ref l]/\H a=some (.tup [.int r,.int c])/\H l=some (.lst xs)/\RepAll H cs xs/\Cells cs/\cs.length<=60/\∀H',Same H H'->Q (.bl<|(cs.map cl).any λx=>xI (r,c) x) H'
def a1b:lz ZP ZP (ll sTa):={}
def ax7(B:∀x∈ux,mg x=none)(Ms:Fn P w K mg base "touches" 1 ZQ auy)(F:Fun K "touches_any" "touches_any" sTa f fd):FnOk P w K mg base CX0 2 f fd ZP a0o:=by
 refine F.ok (k:=1) a1b (λvs H Q E h=>?_) λbE A outer s H vs Q E hr h=>?_
 .obtain⟨a,l,r,c,xs,cs,rfl,_⟩:=h;rfl
 obtain⟨a,l,r,c,xs,cs,rfl,ha,hl,rep,iH,pG,q⟩:=h;have aU:=rep.length;refine⟨_,(lg<|ls<|mw (aoe rfl) rfl (B "any"<|by decide) boot_any<|ku (nk ["other","cell"] [none,some 0] rfl rfl (by decide +kernel) (by decide +kernel) rfl rfl (o8<|pv 1) (λ_=>(li (i:=0) (show(["other","cell"]:Z9 PySem.Str).Nodup by decide +kernel) rfl<|Or.inl rfl)) (λ_=>ng) λ_=>(me Ms hr (by decide) rfl<|ku (pv 1)<|ku (pv 0) km)) km),?_⟩;refine(mm _ rfl l ⟨rfl,⟨_,SqL.of hl⟩,λD hD=>?_⟩);refine ny (xs:=xs) (λi ys H'=>Same H H'/\ys=((cs.take i).map λd=>xI (r,c)<|cl d).map V.bl) ⟨Same.fresh _ hD,rfl⟩ (λi ys H' p=>SqL.of<|p.1 _ _ hl) (λi x ys H' hx hi aN aY p=>?_) λys H' aN aY p=>?_
 .obtain⟨p1,rfl⟩:=p;obtain⟨b,r',c',rfl,hb,hd⟩:=yn iH rep hx;refine⟨Agree.set (Agree.refl _) rfl,?_⟩;dsimp only[wg];refine oz ?_;refine(mi _ rfl _ rfl a b r<|mj c r' c' ⟨rfl,p1 _ _ ha,p1 _ _ hb,oj (by lia) aN aY ⟨p1.new hD,?_⟩⟩);rw[lq (λd=>xI (r,c)<|cl d) hd,ay];rfl
 .obtain⟨p1,rfl⟩:=p;refine(lv D _ ⟨rfl,aN,?_⟩);rw[bb (by lia),List.any_map];have e:=q H' p1;rw[List.any_map]at e;exact e
def a0j:Sp:=λvs H Q _=>∃(a:aF)(xs:Z9 V)(cs:Z9 Z8),vs=[.ref a]/\H a=some (.lst xs)/\RepAll H cs xs/\Cells cs/\(cs.map cl).Nodup/\0<cs.length/\cs.length<=6/\∀(b:Bool)(H':Hp),Same H H'->(b=true↔Conn (cs.map cl))->Q (.bl b) H'
def scPh:lz ["cells","reached","missing","near"] ["cells"] (ll sPh):={}
def cut1{xs:Z9 V}(h:0<xs.length):gY xs none (some 1)=xs.take 1:=by unfold gY;rw[HT.sIx_none,show(some (1:Int))=some (((1:Nat):Int))from rfl,HT.sIx_nat];rw[show lB 1 xs.length-0=1 by lia];rfl
def a1h(xs:Z9 V):gY xs (some 1) none=xs.drop 1:=by
 unfold gY;rw[HT.sIx_none,show(some (1:Int))=some (((1:Nat):Int))from rfl,HT.sIx_nat];by_cases h:xs.length=0
 .have:xs=[]:=eu.mp h;subst this;rfl
 .rw[show lB 1 xs.length=1 by lia,bb<|by rw[gl];exact av _]
def Mg{ds es:Z9 Z8}(h:Cells es)(hs:∀d∈ds,d∈es):Cells ds:=λd hd=>h d<|hs d hd
def abk{α:Type}{p:α->Bool}{l:List α}{i:Nat}{x:α}(h:l[i]?=some x):(l.take<|i+1).filter p=(l.take i).filter p++(if p x then[x]else[]):=by rw[jl,h,jc];by_cases hp:p x<;>simp[hp]
theorem azs(B:∀x∈ux,mg x=none)(Fta:Fn P w K mg base "touches_any" 2 ZP a0o)(F:Fun K "hang_together" "hang_together" sPh f fd):FnOk P w K mg base CX0 3 f fd ["cells"] a0j:=by
 refine F.ok (k:=2) scPh (λvs H Q E h=>?_) λbE A outer s H vs Q E hr h=>?_
 .obtain⟨a,xs,cs,rfl,_⟩:=h;rfl
 obtain⟨a,xs,cs,rfl,ha,rep,iH,kB,dN,hsix,q⟩:=h;have hu:=hr.units;have aU:=rep.length;refine⟨_,(kq (l4 (i:=1) scPh.nd rfl (Or.inr rfl)<|nq o5 (pv 0) oo<|ot k7)
  (kq (l4 (i:=2) scPh.nd rfl (Or.inl rfl)<|nq o5 (pv 0) (ot k7) oo)
  (kq (l4 (i:=3) scPh.nd rfl (Or.inr rfl)<|pv 1)
  (kq (ap2 ge (ao2 (pv 3)<|by intro _;rfl) (kq (l4 (i:=3) scPh.nd rfl (Or.inr rfl)<|nk ["cell","reached"] [none,some 1] rfl rfl (by decide +kernel) (by decide +kernel) rfl rfl (o8<|pv 2) (λ_=>(li (i:=0) (show(["cell","reached"]:Z9 PySem.Str).Nodup by decide +kernel) rfl<|Or.inl rfl)) (λ_=>xt<|qc<|me Fta hr (by decide) rfl<|ku (pv 0)<|ku (pv 1) km) λ_=>(pv 0))
  (kq (l4 (i:=1) scPh.nd rfl (Or.inr rfl)<|ml pb (pv 1)<|pv 3)
  (lg<|vx (i:=2) ["cell","near"] [none,some 3] scPh.nd rfl (Or.inl rfl) rfl rfl rfl (by decide +kernel) (by decide +kernel) rfl rfl (o8<|pv 2) (λ_=>(li (i:=0) (show(["cell","near"]:Z9 PySem.Str).Nodup by decide +kernel) rfl<|Or.inl rfl)) (λ_=>xt<|m6 (yk hu) (pv 0) (pv 1) rfl) λ_=>(pv 0)))))
  (lg<|ls<|ou (FP hu) (pv 2) (l7 km)<|mr _))))),?_⟩
 refine(uk _ rfl 1 rfl a xs ⟨rfl,SqL.of ha,λR hR=>?_⟩);rw[cut1 (by lia)];have s1:Same H (upd H R<|.lst<|xs.take 1):=Same.fresh _ hR;have R1:upd H R (.lst<|xs.take 1) R=some (.lst<|xs.take 1):=k8;generalize upd H R (.lst<|xs.take 1)=H1 at *;refine(uk _ rfl 1 rfl a xs ⟨rfl,SqL.of<|s1 _ _ ha,λM hM=>?_⟩);rw[a1h];have s2:Same H1 (upd H1 M<|.lst<|xs.drop 1):=Same.fresh _ hM;have M2:upd H1 M (.lst<|xs.drop 1) M=some (.lst<|xs.drop 1):=k8;have R2:=s2 _ _ R1;have dM:=s1.trans s2;generalize upd H1 M (.lst<|xs.drop 1)=H2 at *;refine⟨_,rfl,?_⟩;refine⟨λm σ' H'=>∃(R M N:aF)(rs ms ns:Z9 Z8)(rx mx nx:Z9 V),σ'=[some (.ref a),some<|.ref R,some<|.ref M,some<|.ref N]/\Same H H'/\H' R=some (.lst rx)/\RepAll H' rs rx/\H' M=some (.lst mx)/\RepAll H' ms mx/\H' N=some (.lst nx)/\RepAll H' ns nx/\
  (rs++ms).Perm cs/\Conn (rs.map cl)/\0<rs.length/\(ns=[]->∀x,x∈rs.map cl->∀y,y∈ms.map cl->¬Tch x y)/\m=2*ms.length+(if ns=[]then 0 else 1),?_,?_⟩
 .obtain⟨d0,t,rfl⟩:∃d t,cs=d::t:=by
   match cs,dN with
   | d::t,_=>exact(lv d t rfl)
  refine(nj _ R M R ([d0])<|nj t ([d0]) _ _ _ ⟨rfl,dM,R2,(rep.same dM).take 1,M2,(rep.same dM).drop 1,R2,(rep.same dM).take 1,iy _,Conn.one _,by simp,(λe=>by cases e),rfl⟩)
 rintro m σ' H' ⟨R,M,N,rs,ms,ns,rx,mx,nx,rfl,sm,hR',yE,Db,pU,hN',G0,pm,con,GZ,jP,rfl⟩;have lR:=yE.length;have lM:=pU.length;have lN:=G0.length;have lpm:=pm.length_eq;rw[a9]at lpm;have hrs:Cells rs:=Mg iH λd hd=>pm.mem_iff.mp<|ip _ hd;have uU:Cells ms:=Mg iH λd hd=>pm.mem_iff.mp<|ci _ hd;refine(mm _ rfl _ ⟨.inl ⟨nx,SqL.of hN',rfl⟩,?_⟩);refine qb (λuW=>?_) λhstop=>?_
 .have dO:ns≠[]:=λe=>by
   rw[e]at lN;have:nx=[]:=eu.mp lN;rw[this]at uW;cases uW
  refine⟨λσ2 H2=>∃m',m'<2*ms.length+(if ns=[]then 0 else 1)/\∃(R M N:aF)(rs ms ns:Z9 Z8)(rx mx nx:Z9 V),σ2=[some (.ref a),some<|.ref R,some<|.ref M,some<|.ref N]/\Same H H2/\H2 R=some (.lst rx)/\RepAll H2 rs rx/\H2 M=some (.lst mx)/\RepAll H2 ms mx/\H2 N=some (.lst nx)/\RepAll H2 ns nx/\
   (rs++ms).Perm cs/\Conn (rs.map cl)/\0<rs.length/\(ns=[]->∀x,x∈rs.map cl->∀y,y∈ms.map cl->¬Tch x y)/\m'=2*ms.length+(if ns=[]then 0 else 1),λσ2 H2 h=>h,?_⟩
  let p:Z8->Bool:=λd=>(rs.map cl).any λx=>xI (cl d) x
  refine(mm _ rfl M ⟨rfl,⟨_,SqL.of Db⟩,λN2 hN2=>?_⟩);refine ny (xs:=mx) (λi ys G=>Same H' G/\RepAll G ((ms.take i).filter p) ys) ⟨Same.fresh _ hN2,rfl⟩ (λi ys G pp=>SqL.of<|pp.1 _ _ Db) (λi x ys G hx hi aN aY pp=>?_) λvZ G wV aY pp=>?_
  .obtain⟨p1,p2⟩:=pp;obtain⟨b,r',c',rfl,hb,hd⟩:=yn uU pU hx;have jN:=abk (p:=p) hd;refine⟨Agree.set (Agree.refl _) rfl,?_⟩;refine(mi _ rfl _ rfl b R r'<|mj c' rx rs ⟨rfl,p1 _ _ hb,p1 _ _ hR',yE.same p1,hrs,by lia,λG2 s2=>⟨_,rfl,?_⟩⟩);have dF:=s2 _ _ aN;have vX:=p1.trans s2;have cond:((rs.map cl).any λx=>xI (r',c') x)=p (.tuple [.int r',.int c']):=rfl;rw[cond];cases hp:p (.tuple [.int r',.int c'])with
   | true=>
    rw[hp]at jN;refine oz ?_;refine⟨_,rfl,oj (by lia) dF aY ⟨vX.new hN2,?_⟩⟩;rw[jN];refine((p2.same s2).snoc (ut<|vX _ _ hb)).tk (Tk.lst dF) (Cells.imm λd mB=>?_);rcases bo.mp mB with h|h
    .exact uU d<|fy (f7.mp h).1
    .rw[a6.mp h];exact(lv _ _ rfl)
   | false=>
    rw[hp]at jN;refine tw ?_;refine⟨ys,dF,by lia,vX,?_⟩;rw[jN];simpa using p2.same s2
  obtain⟨p1,p2⟩:=pp;rw[bb (by lia)]at p2;have lN2:=p2.length;have IA:Cells (ms.filter p):=Mg uU λd hd=>(f7.mp hd).1;have lf:(ms.filter p).length<=ms.length:=kl _ _;refine(mi _ rfl _ rfl R N2 rx ⟨vZ,rfl,rfl,p1 _ _ hR',wV,cb<|lu<|by lia,λR3 hR3=>?_⟩);have s3:Same G (upd G R3<|.lst<|rx++vZ):=Same.fresh _ hR3;have R3o:upd G R3 (.lst<|rx++vZ) R3=some (.lst<|rx++vZ):=k8;generalize upd G R3 (.lst<|rx++vZ)=G3 at *;have kG:=p1.trans s3;have Dc:=s3 _ _ wV;have yM:=p2.same s3;have pin:∀d,d∈ms->((!((ms.filter p).any λe=>c8 e d)) = !p d):=λd hd=>by
   obtain⟨r',c',rfl⟩:=uU d hd
   congr 1
   rw[gj,aon IA];constructor
   .intro h;obtain⟨e,he,ee⟩:=a7.mp h;obtain⟨h1,h2⟩:=f7.mp he;have:=aha (uU e h1) (lv r' c' rfl) ee;rw[<-this];exact h2
   .intro h;exact a7.mpr ⟨_,f7.mpr ⟨hd,h⟩,rfl⟩
  refine(mm _ rfl M ⟨rfl,⟨_,SqL.of<|kG _ _ Db⟩,λM4 hM4=>?_⟩);refine ny (xs:=mx) (λi ys G=>Same G3 G/\RepAll G ((ms.take i).filter λd=>!p d) ys) ⟨Same.fresh _ hM4,rfl⟩ (λi ys G pp=>SqL.of<|pp.1 _ _<|kG _ _ Db) (λi x ys G4 hx hi aN aY pp=>?_) λmx4 G4 hDm aY pp=>?_
  .obtain⟨q1,q2⟩:=pp;obtain⟨b,r',c',rfl,hb,hd⟩:=yn uU pU hx;have jN:=abk (p:=λd=>!p d) hd;have Fa:=q1 _ _<|kG _ _ hb;refine⟨Agree.set (Agree.refl _) rfl,?_⟩;refine(mi _ rfl _ rfl (.tuple [.int r',.int c']) N2 vZ ⟨ms.filter p,ut Fa,rfl,.inl<|q1 _ _ Dc,yM.same q1,(by simp[fh,bg]),_,rfl,?_⟩);rw[if_pos rfl,pin _<|ah hd];cases hp:p (.tuple [.int r',.int c'])with
   | true=>
    simp only[hp]at jN;refine tw ?_;refine⟨ys,aN,by lia,q1,?_⟩;rw[jN];simpa using q2
   | false=>
    simp only[hp]at jN;refine oz ?_;refine⟨_,rfl,oj (by lia) aN aY ⟨q1.new hM4,?_⟩⟩;rw[jN];refine(q2.snoc<|ut Fa).tk (Tk.lst aN) (Cells.imm λd mB=>?_);rcases bo.mp mB with h|h
    .exact uU d<|fy (f7.mp h).1
    .rw[a6.mp h];exact(lv _ _ rfl)
  obtain⟨q1,q2⟩:=pp;rw[bb (by lia)]at q2;have pQ:=kG.trans q1;have wI:(ms.filter p++ms.filter λd=>!p d).Perm ms:=List.filter_append_perm p ms;refine(k9 _ ?_ R3 M4 N2 (rs++ms.filter p)<|nj (ms.filter λd=>!p d) (ms.filter p) (rx++vZ) mx4 vZ ⟨rfl,sm.trans pQ,q1 _ _ R3o,((yE.same pQ).append (yM.same q1)),hDm,q2,q1 _ _ Dc,yM.same q1,?_,?_,by rw[a9];lia,?_,rfl⟩)
  .have hl:=wI.length_eq;rw[a9]at hl;rw[if_neg dO];by_cases he:ms.filter p=[]
   .rw[if_pos he];lia
   .rw[if_neg he];have:0<(ms.filter p).length:=List.length_pos_iff.mpr he;lia
  .rw[jk];exact(wI.append_left rs).trans pm
  .rw[ay];refine ahl con λb hb=>?_;obtain⟨d,hd,rfl⟩:=a7.mp hb;obtain⟨h1,h2⟩:=f7.mp hd;obtain⟨x,hx,t⟩:=List.any_eq_true.mp h2;exact⟨x,hx,((ag1 _ _).mp t).symm⟩
  .intro he x hx y hy ht;rw[he,f9]at hx;obtain⟨d,hd,rfl⟩:=a7.mp hy;have oY:=(f7.mp hd).1;have hp:p d=true:=List.any_eq_true.mpr ⟨x,hx,(ag1 _ _).mpr ht.symm⟩;have:d∈ms.filter p:=f7.mpr ⟨oY,hp⟩;rw[he]at this;cases this
 .have iU:ns=[]:=by
   have:nx.isEmpty=true:=by
    cases h:nx.isEmpty with
    | true=>rfl
    | false=>rw[h]at hstop;exact absurd rfl hstop
   rw[List.isEmpty_iff.mp this]at lN;exact eu.mp lN.symm
  refine⟨_,rfl,sZ0,λl hl=>?_⟩;have sl:Same H' (upd H' l<|.lst []):=Same.fresh _ hl;refine(lv (.list ms) (.list []) ⟨(lv M mx ⟨rfl,sl _ _ Db,pU.same sl⟩),(lv l ([]) ⟨rfl,k8,rfl⟩),?_,?_⟩)
  .have:bg ms<=2:=by
    clear pU lM lpm pm jP;induction ms with
    | nil=>simp[bg]
    | cons d t ih=>
     obtain⟨r,c,rfl⟩:=uU d (by simp);have:=ih λe he=>uU e (by simp[he]);simp[bg,fh];lia
   simp[fh];lia
  rw[if_neg am];refine q _ _ (sm.trans sl) ?_;have hem:c8 (.list ms) (.list [])=true↔ms=[]:=by
   cases ms with
   | nil=>simp[c8,ik]
   | cons d t=>simp[c8,ik]
  rw[hem];have AQ:((rs.map cl)++(ms.map cl)).Perm (cs.map cl):=by rw[<-ay];exact pm.map cl
  constructor
  .intro e;rw[e,List.map_nil,f9]at AQ;exact con.congr λx=>AQ.symm.mem_iff
  .intro hC;have aZ:=hC.closed (R:=rs.map cl) (λx hx=>AQ.mem_iff.mp<|ip _ hx) ⟨_,fz (l:=rs.map cl) (n:=0)<|by simpa using GZ⟩ (λx hx y hy t=>by
    rcases bo.mp (AQ.mem_iff.mpr hy)with h|h
    .exact h
    .exact absurd t<|jP iU x hx y h)
   have IC:=AQ.nodup_iff.mpr kB;apply dg;intro dO;obtain⟨d,hd⟩:=List.exists_mem_of_ne_nil ms dO;have h1:=aZ (cl d)<|AQ.mem_iff.mp<|ci _<|bz hd;exact(List.nodup_append.mp IC).2.2 (cl d) h1 (cl d) (bz hd) rfl
def ang{R S:Z9 Cl}(hR:R.Nodup)(hs:∀x,x∈R->x∈S)(hl:S.length<=R.length):∀x,x∈S->x∈R:=λx hx=>by
 apply dg;intro hn;have h1:(x::R).Nodup:=ii.mpr ⟨hn,hR⟩;have:=gc h1 (l₂:=S) (λy hy=>by
  rcases ap.mp hy with rfl|hy
  .exact hx
  .exact hs y hy)
 rw[bc]at this;lia
theorem yv:∀{S R:Z9 Cl},R.Nodup->(∀x,x∈R->x∈S)->S.length<=R.length->S.Nodup
 | [],_,_,_,_=>List.nodup_nil
 | a::S,R,hR,hs,hl=>by
  have aZ:=ang hR hs hl;have ID:a∉S:=λha=>by
   have:=gc hR (l₂:=S) (λy hy=>by
    rcases ap.mp (hs y hy)with rfl|h
    .exact ha
    .exact h)
   rw[bc]at hl;lia
  refine ii.mpr ⟨ID,yv (R:=R.erase a) (hR.erase a) (λx hx=>?_) ?_⟩
  .have oV:=(List.Nodup.mem_erase_iff hR).mp hx;rcases ap.mp (hs x oV.2)with e|h
   .exact absurd e oV.1
   .exact h
  .rw[List.length_erase_of_mem (aZ a aj)];rw[bc]at hl;lia
noncomputable def tT(d:Z8):Z8:=.tuple [.int (iL d),.int<|iN d]
def LZ(ds:Z9 Z8):(ds.map tT).map cl=ds.map cl:=by rw[gd];rfl
def vv(ds:Z9 Z8):Cells (ds.map tT):=λd hd=>by obtain⟨e,_,rfl⟩:=a7.mp hd;exact(lv _ _ rfl)
section
variable{K:aq}{a:aF}{xs:Z9 V}{ds:Z9 Z8}{σ:L2.St}{H:Hp}{Q:VK}
def xf{i0:Nat}(j:Int)(pr:Z8->Int)(hj:∀(r c:Int)(x:Str),atI [V.int r,.int c,.str x] j=some (.int<|pr<|.tuple [.int r,.int c,.str x]))
  (hσ:σ[i0]?=some (some<|.ref a)) (ha:H a=some (.lst xs)\/H a=some (.tup xs)) (hr:RepAll H ds xs) (hs:Spots ds) (hl:ds.length<=64)
  (q:∀D H',Same H H'->H' D=some (.lst<|(ds.map pr).map V.int)->Q (.ref D) H') :
  xJ (Kh K<|iC i0) [none] (ve 0) wg (tOp (DE K) (iC 0)<|tC<|.int j) σ H Q:=by
 have aU:=hr.length;refine(mm _ hσ a ⟨rfl,aim ha (λD i ys H'=>Same H H'/\ys=((ds.take i).map pr).map V.int) (λD hD=>⟨Same.fresh _ hD,rfl⟩) (λD i ys H' p=>p.1) (λD i x ys H' hD hx hi aN aY p=>?_) λD ys H' hD aN aY p=>?_⟩)
 .obtain⟨p1,rfl⟩:=p;obtain⟨b,r,c,z,rfl,hb,hz,hd⟩:=hs.at hr hx;refine⟨Agree.set (Agree.refl _) rfl,?_⟩;dsimp only[wg];refine oz ?_;refine(k9 _ rfl b _ _ _ ⟨rfl,rfl,SqT.of<|p1 _ _ hb,hj r c z,oj (by lia) aN aY ⟨p1.new hD,?_⟩⟩);rw[lq pr hd,ay];rfl
 .obtain⟨p1,rfl⟩:=p;refine q D H' p1 ?_;rw[aN,bb<|by lia]
def apk{i0:Nat}(hσ:σ[i0]?=some (some<|.ref a))(ha:H a=some (.tup xs))(hr:RepAll H ds xs)(hs:Spots ds)(hl:ds.length<=64)
  (q:∀D ys H',Same H H'->H' D=some (.lst ys)->RepAll H' (ds.map tT) ys->Q (.ref D) H') :
  xJ (a0q K<|iC i0) [none,none,none] (Bb K 3<|ze (ve 0)<|ze (ve 1)<|ze (ve 2) DB) wg (FA<|sL (iC 0)<|sL (iC 1) DC) σ H Q:=by
 have aU:=hr.length;refine(mm _ hσ a ⟨rfl,⟨_,SqT.of ha⟩,λD hD=>?_⟩);refine tq (xs:=xs) (λi ys H'=>Same H H'/\RepAll H' ((ds.take i).map tT) ys) ⟨Same.fresh _ hD,rfl⟩ (λi ys H' p=>SqT.of<|p.1 _ _ ha) (λi x ys H' hx hi aN aY p=>?_) λys H' aN aY p=>?_
 .obtain⟨p1,p2⟩:=p;obtain⟨b,r,c,z,rfl,hb,hz,hd⟩:=hs.at hr hx;refine(on b _ rfl (SqT.of<|p1 _ _ hb) rfl _ _ rfl _<|m8 _ rfl _ _ ⟨rfl,rfl,?_⟩);refine⟨Agree.set (Agree.set (Agree.set (Agree.refl _) rfl) rfl) rfl,?_⟩;dsimp only[wg];refine oz ?_;refine(mm _ rfl _ ⟨rfl,sZ2,λn hn=>?_⟩);have im:qu (((ds.take i).map tT)++[.tuple [.int r,.int c]])=true:=Cells.imm λd mB=>by
   rcases bo.mp mB with h|h
   .exact vv _ d h
   .rw[a6.mp h];exact(lv _ _ rfl)
  have sZ:Same H' (upd H' n<|.tup [.int r,.int c]):=Same.fresh _ hn;have wV:=sZ _ _ aN;have qL:RepAll (upd H' n<|.tup [.int r,.int c]) (((ds.take i).map tT)++[.tuple [.int r,.int c]]) (ys++[.ref n]):=(p2.same sZ).snoc (ut k8);refine oj (by lia) wV aY ⟨(p1.trans sZ).new hD,?_⟩;rw[lq tT hd];exact qL.tk (Tk.lst wV) im
 .obtain⟨p1,p2⟩:=p;rw[bb (by lia)]at p2;exact q D ys H' p1 aN p2
end
def FormP(H:Hp)(v:V):Prop:=∃a xs ds,v=.ref a/\H a=some (.tup xs)/\RepAll H ds xs/\Frm ds
def aj3{H:Hp}{d:Z8}{x:V}(h:Rep H d x)(hd:SgD d):wc H x=true:=by obtain⟨r,c,k,rfl,h1,h2⟩:=hd;obtain⟨a,rfl,ha,_⟩:=F8 h;rw[so,ha];show Bf (.int r) (.int c) (.str ⟨#[k]⟩)=true;show(true&&true&&(decide (65<=k)&&decide (k<=90)))=true;rw[decide_eq_true h1,decide_eq_true h2];rfl
theorem atq{H:Hp}{x:V}(h:wc H x=true):∃d,Rep H d x/\SgD d:=by
 cases x with
 | ref a=>
  rw[so]at h;split at h
  .rename_i x y z ha
   unfold Bf at h;rw[da,da]at h;obtain⟨⟨hx,hy⟩,hz⟩:=h;cases x with
   | int r=>
    cases y with
    | int c=>
     cases z with
     | str z=>
      have nE:sg1 z=true:=hz;by_cases hl:z.length=1
      .obtain⟨k,rfl⟩:=K9 hl;rw[FW,da]at nE;have k1:=of_decide_eq_true nE.1;have k2:=of_decide_eq_true nE.2;refine⟨.tuple [.int r,.int c,.str ⟨#[k]⟩],xb ha (Tx.ok ⟨by show 1<=80;lia,λx hx=>by
        have:x=k:=by simpa using hx
        lia⟩),r,c,k,rfl,k1,k2⟩
      .rw[LJ hl]at nE;cases nE
     | _=>cases hz
    | _=>cases hy
   | _=>cases hx
  .cases h
 | _=>cases h
theorem LQ{H:Hp}:∀{xs:Z9 V},xs.all (wc H)=true->∃ds,RepAll H ds xs/\∀d∈ds,SgD d
 | [],_=>⟨[],rfl,λd hd=>by cases hd⟩
 | x::xs,h=>by
  rw[List.all_cons,da]at h;obtain⟨d,h1,h2⟩:=atq h.1;obtain⟨ds,h3,h4⟩:=LQ h.2;refine⟨d::ds,(lv x xs ⟨rfl,h1,h3⟩),λe he=>?_⟩;rcases ap.mp he with rfl|he
  .exact h2
  .exact h4 e he
theorem Ml{H:Hp}:∀{ds:Z9 Z8} {xs:Z9 V},RepAll H ds xs->(∀d∈ds,SgD d)->xs.all (wc H)=true
 | [],xs,h,_=>by have e:xs=[]:=h;rw[e];rfl
 | d::ds,xs,h,hs=>by obtain⟨x,t,rfl,h1,h2⟩:=h;rw[List.all_cons,aj3 h1<|hs d aj,Ml h2 λe he=>hs e<|ak _ he];rfl
theorem LD{H:Hp}:∀{ds es:Z9 Z8} {xs:Z9 V},RepAll H ds xs->RepAll H es xs->(∀d∈ds,SgD d)->(∀d∈es,SgD d)->ds=es
 | [],[],_,_,_,_,_=>rfl
 | [],e::es,xs,h1,h2,_,_=>by have e1:xs=[]:=h1;obtain⟨x,t,e2,_⟩:=h2;rw[e1]at e2;cases e2
 | d::ds,[],xs,h1,h2,_,_=>by have e1:xs=[]:=h2;obtain⟨x,t,e2,_⟩:=h1;rw[e1]at e2;cases e2
 | d::ds,e::es,xs,h1,h2,s1,s2=>by obtain⟨x,t,rfl,a1,b1⟩:=h1;obtain⟨x',t',e',a2,b2⟩:=h2;cases e';obtain⟨r,c,k,rfl,_⟩:=s1 d aj;obtain⟨r',c',k',rfl,_⟩:=s2 e aj;obtain⟨p,rfl,hp,_⟩:=F8 a1;obtain⟨p',ep,E5,_⟩:=F8 a2;cases ep;rw[hp]at E5;cases E5;rw[LD b1 b2 (λz hz=>s1 z<|ak _ hz) (λz hz=>s2 z<|ak _ hz)]
def FormP.same{H H':Hp}{a:aF}{xs:Z9 V}{ds:Z9 Z8}(ha:H a=some (.tup xs))(rep:RepAll H ds xs)(hs:∀d∈ds,SgD d):FormP H (.ref a)↔Frm ds:=by
 constructor
 .rintro⟨b,ys,es,e,hb,r,fr⟩;cases e;rw[ha]at hb;cases hb;rw[LD rep r hs fr.1.pre.sg];exact fr
 .intro h;exact(mj a xs ds ⟨rfl,ha,rep,h⟩)
def akd{ds:Z9 Z8}(h:Frm ds):qp (ox ds)=ds:=by
 have e:ox ds=ds:=by unfold ox;rw[h.1.r0,h.1.c0];refine(ix λd hd=>?_).trans (List.map_id ds);obtain⟨r,c,k,rfl,_⟩:=h.1.pre.sg d hd;show PyData.tuple [.int (r-0),.int<|c-0,.str ⟨#[k]⟩]=_;rw[Int.sub_zero,Int.sub_zero];rfl
 rw[e];exact amy h<|iy _
def axk{ds:Z9 Z8}(pre:Pre ds)(e:qp (ox ds)=ds):Frm ds:=by have hz:=Zr.shift pre;have h:=Frm.of hz;rw[e]at h;exact h
theorem avw{ds:Z9 Z8}(h:∀d∈ds,SgD d):xn ds=true:=by
 induction ds with
 | nil=>rfl
 | cons d t ih=>
  obtain⟨r,c,k,rfl,_⟩:=h d aj;show(kd _&&xn t)=true;rw[ih λe he=>h e<|ak _ he];rfl
theorem aou{ds:Z9 Z8}(h:∀d∈ds,SgD d):bg ds<=2:=by
 induction ds with
 | nil=>simp[bg]
 | cons d t ih=>
  obtain⟨r,c,k,rfl,_⟩:=h d (by simp);have:=ih λe he=>h e (by simp[he]);simp[bg,fh];lia
def aod(d:Z8):Fw (tT d):=⟨rfl,⟨_,rfl⟩,by show(PyData.tuple [.int _,.int _]).depth<8;simp[fh,bg]⟩
noncomputable abbrev G6(mg:Str->Option aA):Prop:=∃t,mg "MOST_SPOTS" = some (.int 6 t)
def Ks:Sp:=λvs H Q _=>∃a xs ds,vs=[.ref a]/\(H a=some (.lst xs)\/H a=some (.tup xs))/\RepAll H ds xs/\Spots ds/\ds.length<64/\∀r H',Same H H'->Rep H' (.tuple<|qp<|ox ds) (.ref r)->Q (.ref r) H'
theorem ano{H:Hp}{D:aF}{ns:Z9 Int}{Q:VK}(h:H D=some (.lst<|ns.map V.int))(q:∀M,(ns=[]\/(M∈ns/\∀a∈ns,M<=a))->Q (.int M) H):([V.int 0].length=1/\Kk [.ref D] H Q)\/∃q z,[V.ref D]=[.ref q]/\H q=some (.lst [])/\[V.int 0]=[z]/\Q z H:=by
 cases ns with
 | nil=>exact .inr (lv D _ ⟨rfl,h,rfl,q 0<|.inl rfl⟩)
 | cons n ns=>exact .inl ⟨rfl,(lv D _ ⟨rfl,h,Nat.succ_pos _,λM m1 m2=>q M<|.inr ⟨m1,m2⟩⟩)⟩
def apa{ds:Z9 Z8}{M1 M2:Int}(m1:ds.map iL=[]\/(M1∈ds.map iL/\∀a∈ds.map iL,M1<=a))(m2:ds.map iN=[]\/(M2∈ds.map iN/\∀a∈ds.map iN,M2<=a)):ds.map (uf M1 M2)=ox ds:=by
 unfold ox;rcases m1 with e|⟨a1,a2⟩
 .rw[List.map_eq_nil_iff.mp e];rfl
 .rcases m2 with e|⟨b1,b2⟩
  .rw[List.map_eq_nil_iff.mp e];rfl
  .rw[xz a1 a2,xz b1 b2]
def scFmd:lz ["spots","top","left"] ["spots"] (ll Kg):={}
def awx(B:∀x∈ux,mg x=none)(F:Fun K "formed" "formed" Kg f fd):FnOk P w K mg base CX0 1 f fd ["spots"] Ks:=by
 refine F.ok (k:=0) scFmd (λvs H Q E h=>?_) λbE A outer s H vs Q E hr h=>?_
 .obtain⟨a,xs,ds,rfl,_⟩:=h;rfl
 obtain⟨a,xs,ds,rfl,ha,eQ,hs,oG,q⟩:=h;refine⟨_,(kq (l4 (i:=1) scFmd.nd rfl (Or.inr rfl)<|anw rfl rfl (B "min"<|by decide) (ku (nk ZZ [none] rfl rfl (by decide +kernel) (by decide +kernel) rfl rfl (Bo<|pv 0) (λ_=>(li (i:=0) (show(ZZ:Z9 PySem.Str).Nodup by decide +kernel) rfl<|Or.inl rfl)) (λ_=>ng) λ_=>(m7 vt (pv 0) k7 λ_ _=>rfl)) km)<|amf k7 aqz)
  (kq (l4 (i:=2) scFmd.nd rfl (Or.inr rfl)<|anw rfl rfl (B "min"<|by decide) (ku (nk ZZ [none] rfl rfl (by decide +kernel) (by decide +kernel) rfl rfl (Bo<|pv 0) (λ_=>(li (i:=0) (show(ZZ:Z9 PySem.Str).Nodup by decide +kernel) rfl<|Or.inl rfl)) (λ_=>ng) λ_=>(m7 vt (pv 0) k7 λ_ _=>rfl)) km)<|amf k7 aqz)
  (lg<|ls<|x9 oh rfl (B "tuple"<|by decide) iw<|ku (mw aab rfl (B "sorted"<|by decide) kT<|ku (nk ZO [none,none,none,some 1,some 2] rfl rfl (by decide +kernel) (by decide +kernel) rfl rfl (Bo<|pv 0) (λ_=>(F2 (n:=3) rfl<|mf (li (i:=0) (show(ZO:Z9 PySem.Str).Nodup by decide +kernel) rfl<|Or.inl rfl)<|mf (li (i:=1) (show(ZO:Z9 PySem.Str).Nodup by decide +kernel) rfl<|Or.inl rfl)<|mf (li (i:=2) (show(ZO:Z9 PySem.Str).Nodup by decide +kernel) rfl<|Or.inl rfl) sj)) (λ_=>ng) λ_=>(qd<|ku (ml yh (pv 0)<|pv 3)<|ku (ml yh (pv 1)<|pv 4)<|ku (pv 2) km)) km) km))),?_⟩
 refine xf 0 iL Lg rfl ha eQ hs (cb oG) λD1 H1 s1 A1=>?_;refine ano A1 λM1 m1=>?_;refine xf 1 iN KZ rfl (ha.imp (s1 _ _)<|s1 _ _) (eQ.same s1) hs (cb oG) λD2 H2 s2 dF=>?_;refine ano dF λM2 m2=>?_;have dM:=s1.trans s2;refine aju (uf M1 M2) rfl rfl (ha.imp (dM _ _)<|dM _ _) (eQ.same dM) hs (by lia) (λr c z H' Q' h=>?_) (λr c z=>(lv _ _ rfl)) λD ys H3 hD s3 wZ fD=>?_
 .obtain⟨u,v,e,q⟩:=h;cases (show PyData.tuple [.int (r-M1),.int<|c-M2,.str z]=.tuple [.int u,.int v,.str z]from e);exact(qh _ rfl _ rfl _ _ rfl rfl _ ⟨rfl,(nw _ rfl _ _ rfl rfl _ ⟨rfl,sZ3,q⟩)⟩)
 .have e:ds.map (uf M1 M2)=ox ds:=by exact apa m1 m2
  rw[e]at fD;refine(lr D ys _ ([true,false]) ⟨rfl,wZ,fD,(by rw[<-e];exact acg hs _ _),by unfold ox;rw[af];exact oG,λl1 zs gQ hz=>?_⟩);refine(lv l1 zs ⟨rfl,.inl ⟨SqL.of k8,λl2 fK=>?_⟩⟩);have t1:Same H3 (upd H3 l1<|.lst zs):=Same.fresh _ gQ;have t2:Same (upd H3 l1<|.lst zs) (upd (upd H3 l1<|.lst zs) l2<|.tup zs):=Same.fresh _ fK;exact q l2 _ (((dM.trans s3).trans t1).trans t2)<|lv l2 zs ⟨rfl,k8,hz.same t2⟩
def a0l:Sp:=λvs H Q _=>∃v,vs=[v]/\Kn3 H v/\∀(b:Bool)(H':Hp),Same H H'->(b=true↔FormP H v)->Q (.bl b) H'
def scPf:lz ["found","cells"] Z7 (ll sPf):={}
def qo{A:Prop}(h:¬A):(false=true↔A):=⟨(λz=>by cases z),λz=>absurd z h⟩
theorem azh(B:∀x∈ux,mg x=none)(g6:G6 mg)(Mu:Fn P w K mg base "is_spot" 2 Z7 a0p)(Ax:Fn P w K mg base "formed" 1 ["spots"] Ks)(Fph:Fn P w K mg base "hang_together" 3 ["cells"] a0j)
  (F:Fun K "is_form" "is_form" sPf f fd):FnOk P w K mg base CX0 4 f fd Z7 a0l:=by
 refine F.ok (k:=3) scPf (λvs H Q E h=>?_) λbE A outer s H vs Q E hr h=>?_
 .obtain⟨c,rfl,_⟩:=h;rfl
 obtain⟨v,rfl,hv,q⟩:=h;have hu:=hr.units;refine⟨_,(kq (o4 (PW.pt<|yb (oy<|qc<|mw ni rfl (B "isinstance"<|by decide) c7<|ku (pv 0)<|ku (qe (v:=.ty "tuple") rfl (B "tuple"<|by decide) iw rfl) km)<|ua<|oy<|vy xm xm k7 (mw m5 rfl (B "len"<|by decide) b9<|ku (pv 0) km)<|su g6 rfl) (lg<|ls o9) mh)
  (kq (o4 (oy<|qc<|mw (qq rfl) rfl (B "all"<|by decide) cC<|ku (nk ZZ [none] rfl rfl (by decide +kernel) (by decide +kernel) rfl rfl (yq<|pv 0) (λ_=>(li (i:=0) (show(ZZ:Z9 PySem.Str).Nodup by decide +kernel) rfl<|Or.inl rfl)) (λ_=>ng) λ_=>(me Mu hr (by decide) rfl<|ku (pv 0) km)) km) (lg<|ls o9) mh)
  (kq (vx (i:=1) ZN [none,none,none] scPf.nd rfl (Or.inl rfl) rfl rfl rfl (by decide +kernel) (by decide +kernel) rfl rfl (yq<|pv 0) (λ_=>(F2 (n:=3) rfl<|mf (li (i:=0) (show(ZN:Z9 PySem.Str).Nodup by decide +kernel) rfl<|Or.inl rfl)<|mf (li (i:=1) (show(ZN:Z9 PySem.Str).Nodup by decide +kernel) rfl<|Or.inl rfl)<|mf (li (i:=2) (show(ZN:Z9 PySem.Str).Nodup by decide +kernel) rfl<|Or.inl rfl) sj)) (λ_=>ng) λ_=>(qd<|ku (pv 0)<|ku (pv 1) km))
  (kq (o4 (m6 aw7 (anf rfl hu rfl (B "len"<|by decide) rfl (B "set"<|by decide)<|ku (pv 1) km) (mw m5 rfl (B "len"<|by decide) b9<|ku (pv 1) km)<|mr _) (lg<|ls o9) mh)
  (lg<|ls<|qm (ou (FP hu) (pv 0) (me Ax hr (by decide) rfl<|ku (pv 0) km)<|mr _)<|rm<|me Fph hr (by decide) rfl<|ku (pv 1) km))))),?_⟩
 rcases arh (K:=K) hv.1 with ⟨a,xs,rfl,ha⟩|⟨⟨t,ty,kt⟩,_,oA⟩
 .obtain⟨pG,kn⟩:=hv.2 a xs rfl ha;have no:(1<=xs.length->xs.length<=6->False)->¬FormP H (.ref a):=λhx ⟨b,ys,ds,e,hb,r,fr⟩=>by
   cases e;rw[ha]at hb;cases hb;have:=r.length;have h1:=fr.1.pre.pos;have h6:=fr.1.pre.six;exact hx (by lia)<|by lia
  refine(k9 _ rfl (.ref a) ("tuple") (.type "tuple") true ⟨rfl,.tup ha,rfl,true,rfl,tw ?_⟩);refine(nw _ rfl a xs rfl (.inr<|SqT.of ha) _<|ma _ rfl rfl _ ⟨rfl,?_⟩);refine qb (λc1=>?_) λc1=>?_
  .have mH:(1:Int)<=(xs.length:Int):=of_decide_eq_true c1;refine(lv _ _ ⟨rfl,rfl,_,rfl,?_⟩);refine qb (λc2=>?_) λc2=>?_
   .have mG:¬((xs.length:Int)<=6):=by simpa using c2
    exact q false H (Same.refl H)<|qo<|no λ_ h=>by lia
   have mG:(xs.length:Int)<=6:=by simpa using c2
   refine(mm _ rfl a ⟨rfl,⟨_,SqT.of ha⟩,λD hD=>?_⟩);refine tq (xs:=xs) (λi ys H'=>Same H H'/\ys=((xs.take i).map (wc H)).map V.bl) ⟨Same.fresh _ hD,rfl⟩ (λi ys H' p=>SqT.of<|p.1 _ _ ha) (λi x ys H' hx hi aN aY p=>?_) λys H' aN aY p=>?_
   .obtain⟨p1,rfl⟩:=p;have kx:=kn x<|ah hx;refine⟨Agree.set (Agree.refl _) rfl,?_⟩;dsimp only[wg];refine oz ?_;refine(mm _ rfl x ⟨rfl,kx.same p1,oj (by lia) aN aY ⟨p1.new hD,?_⟩⟩);rw[lq (wc H) hx,ay,zd p1 kx.1];rfl
   obtain⟨p1,rfl⟩:=p;refine(lv D _ ⟨rfl,aN,_,rfl,?_⟩);rw[bb (av _),jb];have rR:(xs.all<|id∘wc H)=xs.all (wc H):=rfl;rw[rR];cases aZ:xs.all (wc H)with
   | false=>
    refine oz ?_;refine q false H' p1<|qo λ⟨b,ys,ds,e,hb,r,fr⟩=>?_;cases e;rw[ha]at hb;cases hb;rw[Ml r fr.1.pre.sg]at aZ;cases aZ
   | true=>
    refine tw ?_;obtain⟨ds,rep,kJ⟩:=LQ aZ;have hF:=FormP.same (H':=H) ha rep kJ;have aU:=rep.length;have fP:=ahi kJ;refine apk rfl (p1 _ _ ha) (rep.same p1) fP (by lia) λC Du H2 s2 hC yF=>?_;have dM:=p1.trans s2;have lC:=yF.length;rw[af]at lC;refine(nv _ rfl C Du (ds.map tT) ⟨rfl,hC,yF,(λd hd=>by obtain⟨e,_,rfl⟩:=a7.mp hd;exact aod e),by rw[af];lia,λaV Ht uJ le'=>?_⟩);refine(nw _ rfl C Du rfl (.inl<|SqL.of hC) _<|ma _ rfl rfl _ ⟨rfl,?_⟩);have Cb:(aV.map cl).Nodup:=by show List.Pairwise _ _;rw[gb];refine ie ?_ Ht;intro x y hx hy EX e;exact EX<|aha (vv ds x<|(uJ x).mp hx) (vv ds y<|(uJ y).mp hy) e
    have BZ:∀x,x∈aV.map cl↔x∈ds.map cl:=λx=>by
     rw[<-LZ ds];constructor
     .intro h;obtain⟨d,hd,rfl⟩:=a7.mp h;exact bz<|(uJ d).mp hd
     .intro h;obtain⟨d,hd,rfl⟩:=a7.mp h;exact bz<|(uJ d).mpr hd
    refine qb (λbX=>?_) λhge=>?_
    .have zE:(aV.length:Int)<(Du.length:Int):=of_decide_eq_true bX;refine q false H2 dM<|qo λh=>?_;have fr:=hF.mp h;have el:=afk fr.1.pre.nd Cb BZ;rw[af,af]at el;lia
    .have hge':¬(aV.length:Int)<(Du.length:Int):=by simpa using hge
     have kB:(ds.map cl).Nodup:=yv Cb (λx hx=>(BZ x).mp hx) (by rw[af,af];lia);have h1:0<ds.length:=by lia
     have h6:ds.length<=6:=by lia
     refine(mi _ rfl _ rfl a xs ds ⟨rfl,.inr<|dM _ _ ha,rep.same dM,fP,by lia,λr H5 s5 iS=>?_⟩);have kE:=dM.trans s5;refine(lv (.tuple ds) _ ⟨(lv a xs ⟨rfl,kE _ _ ha,rep.same kE⟩),iS,?_,_,rfl,?_⟩)
     .have:=aou kJ;simp[fh];lia
     rw[show(if false=true then !c8 (.tuple ds) (.tuple<|qp<|ox ds)else c8 (.tuple ds) (.tuple<|qp<|ox ds))=c8 (.tuple ds) (.tuple<|qp<|ox ds)from if_neg am];have Ie:∀d∈qp (ox ds),SgD d:=λd hd=>by obtain⟨d0,h0,rfl⟩:=a7.mp<|(vo _).mem_iff.mp hd;exact aoz _ _<|kJ d0 h0
     cases Jg:c8 (.tuple ds) (.tuple<|qp<|ox ds)with
     | false=>
      refine tw ?_;refine q false H5 kE<|qo λh=>?_;have fr:=hF.mp h;rw[akd fr,SeqAt.eqv_refl _ (show(PyData.tuple ds).canLay0=true from rep.lay)]at Jg;cases Jg
     | true=>
      refine oz ?_;have e:ds=qp (ox ds):=by have:=K6 _ _ (show kd (.tuple ds)=true from avw kJ) (show kd (.tuple _)=true from avw Ie) Jg;injection this
      refine(nv _ rfl C Du (ds.map tT) ⟨rfl,s5 _ _ hC,yF.same s5,vv ds,by rw[LZ];exact kB,by rw[af];exact h1,by rw[af];exact h6,λb H6 s6 hb=>?_⟩);refine q b H6 (kE.trans s6) ?_;rw[hb,LZ,hF];exact⟨λhc=>axk ⟨kJ,h1,h6,hc,kB⟩ e.symm,λfr=>fr.1.pre.con⟩
  .refine⟨false,rfl,oz ?_⟩;have mH:¬(1:Int)<=(xs.length:Int):=by simpa using c1
   exact q false H (Same.refl H)<|qo<|no λh _=>by lia
 .exact(k9 _ rfl v ("tuple") t false ⟨rfl,ty,kt,false,rfl,oz<|oz<|q false H (Same.refl H)<|qo λ⟨b,ys,ds,e,hb,_⟩=>oA b ys e hb⟩)
def tx1{c:Nat}(h:c<128):Tx (⟨#[c]⟩:Str):=⟨by show 1<=80;lia,λx hx=>by
 have e:x=c:=by simpa using hx
 lia⟩
def LB:Sp:=λvs H Q _=>∃c:Nat,vs=[.str ⟨#[c]⟩]/\Q (.bl<|decide (97<=c)&&decide (c<=122)) H
def ats:lz Z7 Z7 (ll Ki):={}
def a04(c:Nat):(⟨#[c]⟩:Str).length<=aC:=by show 1<=aC;decide
def aoh(B:∀x∈ux,mg x=none)(F:Fun K "is_small" "is_small" Ki f fd):FnOk P w K mg base CX0 1 f fd Z7 LB:=by
 refine F.ok (k:=0) ats (λvs H Q E h=>?_) λbE A outer s H vs Q E hr h=>?_
 .obtain⟨c,rfl,_⟩:=h;rfl
 obtain⟨c,rfl,q⟩:=h;refine⟨_,(lg<|ls<|qm (mw ni rfl (B "isinstance"<|by decide) c7<|ku (pv 0)<|ku (qe (v:=.ty "str") rfl (B "str"<|by decide) eO rfl) km)<|qm (ou sd (mw nz rfl (B "len"<|by decide) b9<|ku (pv 0) km) k7<|mr _)<|rm<|LS wz wz lc (pv 0) lc),?_⟩;refine(k9 _ rfl _ _ _ true ⟨rfl,.str _,rfl,true,rfl,?_⟩);refine oz ?_;refine(mm _ rfl _ ⟨rfl,a04 c,rfl,true,rfl,?_⟩);refine oz ?_;exact(nw _ rfl _ _ rfl rfl _ ⟨rfl,ak6 (a:=aa "a") (z:=aa "z") (R:=λv=>Q v H) (by decide +kernel) (by decide +kernel) q (λh=>(lv _ _ ⟨rfl,rfl,h⟩)) λh=>h⟩)
def au6:Sp:=λvs H Q _=>∃c:Nat,vs=[.str ⟨#[c]⟩]/\c<128/\∀H',Same H H'->Q (.bl<|sgB c) H'
def ayo:lz Z4 Z4 (ll J5):={}
def ok1{c:Nat}(h:c<128):kb (⟨#[c]⟩:Str)=true:=Tx.ok ⟨by show 1<=80;lia,λx hx=>by
 have:x=c:=by simpa using hx
 lia⟩
def as0(c d:Nat):c8 (.str ⟨#[d]⟩) (.str ⟨#[c]⟩)=(c==d):=by
 show((⟨#[d]⟩:Str)==⟨#[c]⟩)=_;rw[gj,beq_iff_eq,beq_iff_eq];constructor
 .intro h;injection h with h
  injection h with h
  injection h with h
  exact h.symm
 .intro h;rw[h]
def awd(c:Nat):(if false=true then !([PyData.str (aa "#"),.str<|aa ".",.str<|aa ","].any λe=>c8 e<|.str ⟨#[c]⟩)else[PyData.str (aa "#"),.str<|aa ".",.str<|aa ","].any λe=>c8 e<|.str ⟨#[c]⟩)=(c==35||c==46||c==44):=by
 have e1:aa "#" = ⟨#[35]⟩:=by decide +kernel
 have e2:aa "." = ⟨#[46]⟩:=by decide +kernel
 have e3:aa "," = ⟨#[44]⟩:=by decide +kernel
 rw[if_neg am,e1,e2,e3];simp only[List.any_cons,List.any_nil,as0,Bool.or_false,Bool.or_assoc]
def G8(mg:Str->Option aA):Prop:=∃t,mg "MOST_LINES" = some (.int 8 t)
def GS(mg:Str->Option aA)(x z:Str):Prop:=∃t,mg x=some (.str z t)
def aw0(gC:GS mg "CLOSED" "#")(gP:GS mg "COVERED" ".")(gF:GS mg "FREE" ",")(xQ:Fn P w K mg base "is_sign" 1 Z7 spS)(mK:Fn P w K mg base "is_small" 1 Z7 LB)(F:Fun K "is_floor_sign" "is_floor_sign" J5 f fd):FnOk P w K mg base CX0 2 f fd Z4 au6:=by
 refine F.ok (k:=1) ayo (λvs H Q E h=>?_) λbE A outer s H vs Q E hr h=>?_
 .obtain⟨c,rfl,_⟩:=h;rfl
 obtain⟨c,rfl,hc,q⟩:=h;have hu:=hr.units;refine⟨_,(lg<|ls<|Bl (ou (aqs hu) (pv 0) (qd<|ku (uq gC rfl)<|ku (uq gP rfl)<|ku (uq gF rfl) km) rfl)<|Bl (me xQ hr (by decide) rfl<|ku (pv 0) km)<|rm<|me mK hr (by decide) rfl<|ku (pv 0) km),?_⟩;refine⟨_,rfl,sZ3,λp hp=>?_⟩;refine(lr (.str ⟨#[c]⟩) p _ ([.str "#",.str ".",.str ","]) ⟨⟨rfl,ok1 hc⟩,rfl,.inr k8,(oq _ _ rfl ⟨rfl,by decide +kernel⟩ _ _ rfl ⟨rfl,by decide +kernel⟩ _ ⟨_,rfl,⟨rfl,by decide +kernel⟩,rfl⟩),by simp[fh],_,rfl,?_⟩);have s1:Same H (upd H p<|.tup [.str "#",.str ".",.str ","]):=Same.fresh _ hp;rw[awd];have q1:=q _ s1;unfold sgB at q1;refine qb (λh1=>?_) λh1=>?_
 .rw[h1]at q1;simpa using q1
 .rw[du.mpr h1]at q1;refine(mm _ rfl (.str ⟨#[c]⟩) ⟨rfl,.inr<|.inr<|.inr<|.inl ⟨_,rfl,tx1 hc⟩,_,rfl,?_⟩);rw[show tP (.str ⟨#[c]⟩)=(decide (65<=c)&&decide (c<=90))from rfl];refine qb (λh2=>?_) λh2=>?_
  .rw[h2]at q1;simpa using q1
  .rw[du.mpr h2]at q1;refine(mm _ rfl c ⟨rfl,?_⟩);simpa using q1
def Lc(z:Str):kW (some z)=(decide (1<=z.length)&&decide (z.length<=8)&&z.cps.toList.all sgB):=rfl
def KS(os:Z9 (Option Str)):flB (some os)=(decide (1<=os.length)&&decide (os.length<=8)&&os.all λo=>kW o&&(kU o==kU ((os[0]?).getD none))):=rfl
def iO(z:Str):z.cps.toList.length=z.length:=by simp[Str.length]
def arc:Sp:=λvs H Q _=>∃(v:V)(o:Option Str),vs=[v]/\Itm H v o/\∀H',Same H H'->Q (.bl<|kW o) H'
def auq:lz Z7 Z7 (ll KO):={}
theorem atx(B:∀x∈ux,mg x=none)(g8:G8 mg)(Mw:Fn P w K mg base "is_floor_sign" 2 Z4 au6)(F:Fun K "is_floor_row" "is_floor_row" KO f fd):FnOk P w K mg base CX0 3 f fd Z7 arc:=by
 refine F.ok (k:=2) auq (λvs H Q E h=>?_) λbE A outer s H vs Q E hr h=>?_
 .obtain⟨v,o,rfl,_⟩:=h;rfl
 obtain⟨v,o,rfl,hv,q⟩:=h;refine⟨_,(kq (o4 (PW.pt<|yb (oy<|qc<|mw ni rfl (B "isinstance"<|by decide) c7<|ku (pv 0)<|ku (qe (v:=.ty "str") rfl (B "str"<|by decide) eO rfl) km)<|ua<|oy<|vy xm xm k7 (mw nz rfl (B "len"<|by decide) b9<|ku (pv 0) km)<|su g8 rfl) (lg<|ls o9) mh)
  (lg<|ls<|mw (qq rfl) rfl (B "all"<|by decide) cC<|ku (nk Z4 [none] rfl rfl (by decide +kernel) (by decide +kernel) rfl rfl (FK<|pv 0) (λ_=>(li (i:=0) (show(Z4:Z9 PySem.Str).Nodup by decide +kernel) rfl<|Or.inl rfl)) (λ_=>ng) λ_=>(me Mw hr (by decide) rfl<|ku (pv 0) km)) km)),?_⟩
 cases o with
 | none=>
  obtain⟨t,ty,kt⟩:=NoStr.ty (K:=K) hv;refine(k9 _ rfl v ("str") t false ⟨rfl,ty,kt,false,rfl,?_⟩);refine oz ?_;refine oz ?_;exact q H (Same.refl H)
 | some z=>
  obtain⟨rfl,hz⟩:=hv;refine(k9 _ rfl (.str z) ("str") (.type "str") true ⟨rfl,.str z,rfl,true,rfl,?_⟩);refine tw ?_;refine(mm _ rfl z ⟨rfl,uw hz,?_⟩);refine(lv _ _ ⟨rfl,rfl,_,rfl,?_⟩);refine qb (λc1=>?_) λc1=>?_
  .have mH:(1:Int)<=(z.length:Int):=of_decide_eq_true c1;refine(lv _ _ ⟨rfl,rfl,_,rfl,?_⟩);refine qb (λc2=>?_) λc2=>?_
   .have mG:¬((z.length:Int)<=8):=by simpa using c2
    have e:kW (some z)=false:=by rw[Lc];rw[decide_eq_false (show ¬z.length<=8 by lia),Bool.and_false,i8]
    rw[<-e];exact q H<|Same.refl H
   .have mG:(z.length:Int)<=8:=by simpa using c2
    have hl:=iO z;refine(mm _ rfl z ⟨rfl,λD hD=>?_⟩);refine Gi (λi ys H'=>Same H H'/\ys=((z.cps.toList.take i).map sgB).map V.bl) ⟨Same.fresh _ hD,rfl⟩ (λi c ys H' hx hi aN aY p=>?_) λys H' aN aY p=>?_
    .obtain⟨p1,rfl⟩:=p;refine⟨Agree.set (Agree.refl _) rfl,?_⟩;dsimp only[wg];refine oz ?_;refine(mm _ rfl c ⟨rfl,hz.2 c<|ah hx,λH2 s2=>?_⟩);refine oj (by lia) (s2 _ _ aN) aY ⟨(p1.trans s2).new hD,?_⟩;rw[lq sgB hx,ay];rfl
    .obtain⟨p1,rfl⟩:=p;refine(lv D (z.cps.toList.map sgB) ⟨rfl,?_,?_⟩)
     .rw[aN,jf]
     .have e:kW (some z)=(z.cps.toList.map sgB).all id:=by
       rw[Lc];rw[decide_eq_true (show 1<=z.length by lia),decide_eq_true (show z.length<=8 by lia),jb];rfl
      rw[<-e];exact q H' p1
  .have mH:¬((1:Int)<=(z.length:Int)):=by simpa using c1
   refine⟨_,rfl,?_⟩;refine oz ?_;have e:kW (some z)=false:=by rw[Lc];rw[decide_eq_false (show ¬1<=z.length by lia),i8,i8]
   rw[<-e];exact q H<|Same.refl H
def az8{α:Type}{xs:List α}{x:α}(h:xs[0]?=some x):atI xs 0=some x:=by have:=my h;exact this
def a0f:Sp:=λvs H Q _=>∃(v:V) (T:Option (Z9<|Option Str)),vs=[v]/\Thing H v T/\∀H',Same H H'->Q (.bl<|flB T) H'
def ay8:lz Z7 Z7 (ll Ke):={}
theorem aj7{α:Type}(f g:α->Bool):∀l:List α,(l.all λx=>f x&&g x)=(l.all f&&l.all g)
 | []=>rfl
 | x::l=>by simp only[List.all_cons,aj7 f g l];cases f x<;>cases g x<;>cases l.all f<;>rfl
theorem ah7{o:Option Str}(h:kW o=true):∃z,o=some z:=by
 cases o with
 | none=>cases h
 | some z=>exact⟨z,rfl⟩
theorem awy(B:∀x∈ux,mg x=none)(g8:G8 mg)(Ec:Fn P w K mg base "is_floor_row" 3 Z7 arc)(F:Fun K "is_floor" "is_floor" Ke f fd):FnOk P w K mg base CX0 4 f fd Z7 a0f:=by
 refine F.ok (k:=3) ay8 (λvs H Q E h=>?_) λbE A outer s H vs Q E hr h=>?_
 .obtain⟨v,T,rfl,_⟩:=h;rfl
 obtain⟨v,T,rfl,hv,q⟩:=h;refine⟨_,(kq (o4 (PW.pt<|yb (oy<|qc<|mw ni rfl (B "isinstance"<|by decide) c7<|ku (pv 0)<|ku (qe (v:=.ty "tuple") rfl (B "tuple"<|by decide) iw rfl) km)<|ua<|oy<|vy xm xm k7 (mw m5 rfl (B "len"<|by decide) b9<|ku (pv 0) km)<|su g8 rfl) (lg<|ls o9) mh)
  (kq (o4 (oy<|qc<|mw (qq rfl) rfl (B "all"<|by decide) cC<|ku (nk ["row"] [none] rfl rfl (by decide +kernel) (by decide +kernel) rfl rfl (yq<|pv 0) (λ_=>(li (i:=0) (show(["row"]:Z9 PySem.Str).Nodup by decide +kernel) rfl<|Or.inl rfl)) (λ_=>ng) λ_=>(me Ec hr (by decide) rfl<|ku (pv 0) km)) km) (lg<|ls o9) mh)
  (lg<|ls<|mw (qq rfl) rfl (B "all"<|by decide) cC<|ku (nk ["row","found"] [none,some 0] rfl rfl (by decide +kernel) (by decide +kernel) rfl rfl (yq<|pv 0) (λ_=>(li (i:=0) (show(["row","found"]:Z9 PySem.Str).Nodup by decide +kernel) rfl<|Or.inl rfl)) (λ_=>ng) λ_=>(ou sd (mw nz rfl (B "len"<|by decide) b9<|ku (pv 0) km) (mw nz rfl (B "len"<|by decide) b9<|ku (m7 vt (pv 1) k7 λ_ _=>rfl) km)<|mr _)) km))),?_⟩
 cases T with
 | none=>
  obtain⟨t,ty,kt⟩:=NoTup.ty (K:=K) hv;refine(k9 _ rfl v ("tuple") t false ⟨rfl,ty,kt,false,rfl,?_⟩);refine oz ?_;refine oz ?_;exact q H (Same.refl H)
 | some os=>
  obtain⟨JD,a,xs,rfl,ha,hi⟩:=hv;have hl:=hi.1;refine(k9 _ rfl (.ref a) ("tuple") (.type "tuple") true ⟨rfl,.tup ha,rfl,true,rfl,?_⟩);refine tw ?_;refine(m8 _ rfl a xs ⟨rfl,.inr<|SqT.of ha,?_⟩);refine(lv _ _ ⟨rfl,rfl,_,rfl,?_⟩);refine qb (λc1=>?_) λc1=>?_
  .have mH:(1:Int)<=(xs.length:Int):=of_decide_eq_true c1;refine(lv _ _ ⟨rfl,rfl,_,rfl,?_⟩);refine qb (λc2=>?_) λc2=>?_
   .have mG:¬((xs.length:Int)<=8):=by simpa using c2
    have e:flB (some os)=false:=by rw[KS];rw[decide_eq_false (show ¬os.length<=8 by lia),Bool.and_false,i8]
    rw[<-e];exact q H<|Same.refl H
   .have mG:(xs.length:Int)<=8:=by simpa using c2
    have ef:flB (some os)=(os.all kW&&os.all λo=>kU o==kU ((os[0]?).getD none)):=by rw[KS];rw[decide_eq_true (show 1<=os.length by lia),decide_eq_true (show os.length<=8 by lia),aj7];rfl
    refine(mm _ rfl a ⟨rfl,⟨_,SqT.of ha⟩,λD hD=>?_⟩);refine tq (xs:=xs) (λi ys H'=>Same H H'/\ys=((os.take i).map kW).map V.bl) ⟨Same.fresh _ hD,rfl⟩ (λi ys H' p=>SqT.of<|p.1 _ _ ha) (λi x ys H' hx oX aN aY p=>?_) λys H' aN aY p=>?_
    .obtain⟨p1,rfl⟩:=p;obtain⟨o,ho,fZ⟩:=hi.at hx;refine⟨Agree.set (Agree.refl _) rfl,?_⟩;dsimp only[wg];refine oz ?_;refine(m8 _ rfl x o ⟨rfl,fZ.same p1,λH2 s2=>?_⟩);refine oj (by lia) (s2 _ _ aN) aY ⟨(p1.trans s2).new hD,?_⟩;rw[lq kW ho,ay];rfl
    .obtain⟨p1,rfl⟩:=p;refine(lv D (os.map kW) ⟨rfl,?_,?_⟩)
     .rw[aN,bb<|by lia]
     refine⟨_,rfl,?_⟩;have ea:(os.map kW).all id=os.all kW:=by rw[jb];rfl
     rw[ea];refine qb (λc3=>?_) λc3=>?_
     .have Dx:os.all kW=false:=by simpa using c3
      have e:flB (some os)=false:=by rw[ef,Dx];rfl
      rw[<-e];exact q H' p1
     .have Dx:os.all kW=true:=by simpa using c3
      have i1:=hi.same p1;refine(mm _ rfl a ⟨rfl,⟨_,SqT.of<|p1 _ _ ha⟩,λD2 dF=>?_⟩);refine tq (xs:=xs) (λi ys H2=>Same H' H2/\ys=((os.take i).map λo=>kU o==kU ((os[0]?).getD none)).map V.bl) ⟨Same.fresh _ dF,rfl⟩ (λi ys H2 p=>SqT.of<|p.1 _ _<|p1 _ _ ha) (λi x ys H2 hx oX jQ Cd p=>?_) λys H2 jQ Cd p=>?_
      .obtain⟨p2,rfl⟩:=p;obtain⟨o,ho,fZ⟩:=i1.at hx;obtain⟨z,rfl⟩:=ah7<|bq.mp Dx o<|ah ho;obtain⟨rfl,hz⟩:=fZ;have h0:0<xs.length:=by lia
       obtain⟨o0,ho0,Ja⟩:=i1.at<|ae h0;obtain⟨z0,rfl⟩:=ah7<|bq.mp Dx o0<|ah ho0;obtain⟨e0,qI⟩:=Ja;refine⟨Agree.set (Agree.refl _) rfl,?_⟩;dsimp only[wg];refine oz ?_;refine(mm _ rfl z ⟨rfl,uw hz,?_⟩);refine(k9 _ rfl a xs _ (.str z0) ⟨rfl,rfl,SqT.of<|p2 _ _<|p1 _ _ ha,az8<|by rw[ae h0,e0],z0,rfl,uw qI,?_⟩);refine⟨rfl,oj (by lia) jQ Cd ⟨p2.new dF,?_⟩⟩;rw[lq _ ho,ay,ho0];have ee:decide (V.int (z.length:Int)=V.int (z0.length:Int))=(kU (some z)==kU ((some<|some z0).getD none)):=by
        show _=(z.length==z0.length);rw[gj,decide_eq_true_eq,beq_iff_eq];constructor
        .intro h;injection h with h
         lia
        .intro h;rw[h]
       rw[ee];rfl
      .obtain⟨p2,rfl⟩:=p;refine(lv D2 (os.map λo=>kU o==kU ((os[0]?).getD none)) ⟨rfl,?_,?_⟩)
       .rw[jQ,bb<|by lia]
       .have e:flB (some os)=(os.map λo=>kU o==kU ((os[0]?).getD none)).all id:=by
         rw[ef,Dx,jb];rfl
        rw[<-e];exact q H2<|p1.trans p2
  .have mH:¬((1:Int)<=(xs.length:Int)):=by simpa using c1
   refine⟨_,rfl,?_⟩;refine oz ?_;have e:flB (some os)=false:=by rw[KS];rw[decide_eq_false (show ¬1<=os.length by lia),i8,i8]
   rw[<-e];exact q H<|Same.refl H
def KnN:Nat->Hp->V->Prop
 | 0,H,v=>Kn H v
 | n+1,H,v=>Kn H v/\∀a xs,v=.ref a->H a=some (.tup xs)->xs.length<=60/\∀x∈xs,KnN n H x
theorem KnN.kn{n:Nat}{H:Hp}{v:V}(h:KnN n H v):Kn H v:=by
 cases n with
 | zero=>exact h
 | succ n=>exact h.1
theorem KnN.same{H H':Hp}(s:Same H H'):∀{n:Nat} {v:V},KnN n H v->KnN n H' v
 | 0,v,h=>Kn.same s h
 | n+1,v,h=>⟨h.1.same s,λa xs e ha=>by subst e;obtain⟨h1,h2⟩:=h.2 a xs rfl<|zg s h.1 ha;exact⟨h1,λx hx=>KnN.same s<|h2 x hx⟩⟩
theorem KnN.down:∀{n:Nat} {H:Hp} {v:V},KnN (n+1) H v->KnN n H v
 | 0,H,v,h=>h.1
 | n+1,H,v,h=>⟨h.1,λa xs e ha=>⟨(h.2 a xs e ha).1,λx hx=>KnN.down<|(h.2 a xs e ha).2 x hx⟩⟩
noncomputable def smB(c:Nat):Bool:=decide (97<=c)&&decide (c<=122)
noncomputable def pM:V->Bool
 | .str z=>decide (1<=z.length)&&decide (z.length<=8)&&z.cps.toList.all smB
 | _=>false
noncomputable def tR(z:Str):Bool:=decide (z=aa "still")||decide (z=aa "turn")||decide (z=aa "flip")
noncomputable def Bk:V->Bool
 | .str z=>tR z
 | _=>false
noncomputable def oM:V->V->Bool
 | .int i,.non=>decide (0<=i)&&decide (i<=64)
 | .int i,.int j=>decide (0<=i)&&decide (i<=64)&&(decide (i<=j)&&decide (j<=64))
 | _,_=>false
def KB(P:aI)(w:aJ)(K:aq)(mg:Str->Option aA):Prop:=∃aD oD aL,mg "TURNINGS_BY_MODE" = some (.ref aD)/\K.lookup aD=some oD/\oD.IsDictOf (PySem.strKind P w) aL/\(aD==aW)=false/\∀z,(eU aL z).isSome=tR z
def GI(mg:Str->Option aA)(x:Str)(n:Int):Prop:=∃t,mg x=some (.int n t)
def ak0{K:aq}{H:Hp}{v:V}(h:Kn H v):(∃z,v=.str z/\Tx z)\/((∃t,iW K H v t/\cj K t (.type "str")=some false)/\Bk v=false/\pM v=false):=by
 rcases h with rfl|⟨b,rfl⟩|⟨i,rfl⟩|⟨z,rfl,hz⟩|⟨a,rfl,⟨ys,h⟩|⟨ys,h⟩|h⟩
 .exact .inr ⟨⟨_,.non,rfl⟩,rfl,rfl⟩
 .exact .inr ⟨⟨_,.bl b,rfl⟩,rfl,rfl⟩
 .exact .inr ⟨⟨_,.int i,rfl⟩,rfl,rfl⟩
 .exact .inl ⟨z,rfl,hz⟩
 .exact .inr ⟨⟨_,.lst h,rfl⟩,rfl,rfl⟩
 .exact .inr ⟨⟨_,.tup h,rfl⟩,rfl,rfl⟩
 .exact .inr ⟨⟨_,.dK h,rfl⟩,rfl,rfl⟩
def aqg:Sp:=λvs H Q _=>∃v,vs=[v]/\Kn H v/\Q (.bl<|Bk v) H
def avl:lz Z7 Z7 (ll Ky):={}
def asu(B:∀x∈ux,mg x=none)(hM:KB P w K mg)(F:Fun K "is_mode" "is_mode" Ky f fd):FnOk P w K mg base CX0 1 f fd Z7 aqg:=by
 refine F.ok (k:=0) avl (λvs H Q E h=>?_) λbE A outer s H vs Q E hr h=>?_
 .obtain⟨c,rfl,_⟩:=h;rfl
 obtain⟨v,rfl,hv,q⟩:=h;obtain⟨aD,oD,aL,hD,lD,dD,nD,mD⟩:=hM;refine⟨_,(lg<|ls<|qm (mw ni rfl (B "isinstance"<|by decide) c7<|ku (pv 0)<|ku (qe (v:=.ty "str") rfl (B "str"<|by decide) eO rfl) km)<|rm<|ou axq (pv 0) (apv hD rfl) rfl),?_⟩;rcases ak0 (K:=K) hv with ⟨z,rfl,hz⟩|⟨⟨t,ty,kt⟩,e,_⟩
 .refine(k9 _ rfl _ _ _ true ⟨rfl,.str _,rfl,true,rfl,oz ?_⟩);refine(k9 _ rfl aD z oD aL ⟨rfl,rfl,lD,dD,nD,?_⟩);rw[mD];exact q
 .rw[e]at q;exact(k9 _ rfl v _ t false ⟨rfl,ty,kt,false,rfl,tw q⟩)
def Lv(z:Str):pM (.str z)=(decide (1<=z.length)&&decide (z.length<=8)&&z.cps.toList.all smB):=rfl
def aqx:Sp:=λvs H Q _=>∃v,vs=[v]/\Kn H v/\∀H',Same H H'->Q (.bl<|pM v) H'
def ava:lz Z7 Z7 (ll KP):={}
def as9(B:∀x∈ux,mg x=none)(JG:GI mg "LONGEST_NAME" 8)(mK:Fn P w K mg base "is_small" 1 Z7 LB)(F:Fun K "is_name" "is_name" KP f fd):FnOk P w K mg base CX0 2 f fd Z7 aqx:=by
 refine F.ok (k:=1) ava (λvs H Q E h=>?_) λbE A outer s H vs Q E hr h=>?_
 .obtain⟨v,rfl,_⟩:=h;rfl
 obtain⟨v,rfl,hv,q⟩:=h;refine⟨_,(kq (o4 (PW.pt<|yb (oy<|qc<|mw ni rfl (B "isinstance"<|by decide) c7<|ku (pv 0)<|ku (qe (v:=.ty "str") rfl (B "str"<|by decide) eO rfl) km)<|ua<|oy<|vy xm xm k7 (mw nz rfl (B "len"<|by decide) b9<|ku (pv 0) km)<|su JG rfl) (lg<|ls o9) mh)
  (lg<|ls<|mw (qq rfl) rfl (B "all"<|by decide) cC<|ku (nk ["letter"] [none] rfl rfl (by decide +kernel) (by decide +kernel) rfl rfl (FK<|pv 0) (λ_=>(li (i:=0) (show(["letter"]:Z9 PySem.Str).Nodup by decide +kernel) rfl<|Or.inl rfl)) (λ_=>ng) λ_=>(me mK hr (by decide) rfl<|ku (pv 0) km)) km)),?_⟩
 rcases ak0 (K:=K) hv with ⟨z,rfl,hz⟩|⟨⟨t,ty,kt⟩,_,e⟩
 .refine(k9 _ rfl (.str z) ("str") (.type "str") true ⟨rfl,.str z,rfl,true,rfl,?_⟩);refine tw ?_;refine(mm _ rfl z ⟨rfl,uw hz,?_⟩);refine(lv _ _ ⟨rfl,rfl,_,rfl,?_⟩);refine qb (λc1=>?_) λc1=>?_
  .have mH:(1:Int)<=(z.length:Int):=of_decide_eq_true c1;refine(lv _ _ ⟨rfl,rfl,_,rfl,?_⟩);refine qb (λc2=>?_) λc2=>?_
   .have mG:¬((z.length:Int)<=8):=by simpa using c2
    have e:pM (.str z)=false:=by rw[Lv];rw[decide_eq_false (show ¬z.length<=8 by lia),Bool.and_false,i8]
    rw[<-e];exact q H<|Same.refl H
   .have mG:(z.length:Int)<=8:=by simpa using c2
    have hl:=iO z;refine(mm _ rfl z ⟨rfl,λD hD=>?_⟩);refine Gi (λi ys H'=>Same H H'/\ys=((z.cps.toList.take i).map smB).map V.bl) ⟨Same.fresh _ hD,rfl⟩ (λi c ys H' hx hi aN aY p=>?_) λys H' aN aY p=>?_
    .obtain⟨p1,rfl⟩:=p;refine⟨Agree.set (Agree.refl _) rfl,?_⟩;dsimp only[wg];refine oz ?_;refine(mm _ rfl c ⟨rfl,?_⟩);refine oj (by lia) aN aY ⟨p1.new hD,?_⟩;rw[lq smB hx,ay];rfl
    .obtain⟨p1,rfl⟩:=p;refine(lv D (z.cps.toList.map smB) ⟨rfl,?_,?_⟩)
     .rw[aN,jf]
     .have e:pM (.str z)=(z.cps.toList.map smB).all id:=by
       rw[Lv];rw[decide_eq_true (show 1<=z.length by lia),decide_eq_true (show z.length<=8 by lia),jb];rfl
      rw[<-e];exact q H' p1
  .have mH:¬((1:Int)<=(z.length:Int)):=by simpa using c1
   refine⟨_,rfl,?_⟩;refine oz ?_;have e:pM (.str z)=false:=by rw[Lv];rw[decide_eq_false (show ¬1<=z.length by lia),i8,i8]
   rw[<-e];exact q H<|Same.refl H
 .rw[e]at q;refine(k9 _ rfl v ("str") t false ⟨rfl,ty,kt,false,rfl,?_⟩);refine oz ?_;refine oz ?_;exact q H<|Same.refl H
def axn:Sp:=λvs H Q _=>∃l m,vs=[l,m]/\Kn H l/\Kn H m/\Q (.bl<|oM l m) H
def azc:lz ZM ZM (ll JZ):={}
def aq5{H:Hp}{v:V}(h:Kn H v):(∃i,v=.int i)\/(isW v=false/\(∀m,oM v m=false)/\(v≠.non->∀i,oM (.int i) v=false)):=by
 rcases h with rfl|⟨b,rfl⟩|⟨i,rfl⟩|⟨z,rfl,hz⟩|⟨a,rfl,h⟩
 .exact .inr ⟨rfl,λ_=>rfl,λh=>absurd rfl h⟩
 .exact .inr ⟨rfl,λ_=>rfl,λ_ _=>rfl⟩
 .exact .inl ⟨i,rfl⟩
 .exact .inr ⟨rfl,λ_=>rfl,λ_ _=>rfl⟩
 .exact .inr ⟨rfl,λ_=>rfl,λ_ _=>rfl⟩
def auu(B:∀x∈ux,mg x=none)(Fj:GI mg "MOST_LAID" 64)(DY:Fn P w K mg base "is_whole" 1 Z7 spW)(F:Fun K "are_bounds" "are_bounds" JZ f fd):FnOk P w K mg base CX0 2 f fd ZM axn:=by
 refine F.ok (k:=1) azc (λvs H Q E h=>?_) λbE A outer s H vs Q E hr h=>?_
 .obtain⟨l,m,rfl,_⟩:=h;rfl
 obtain⟨l,m,rfl,hl,hm,q⟩:=h;refine⟨_,(kq (o4 (PW.pt<|yb (oy<|qc<|me DY hr (by decide) rfl<|ku (pv 0) km)<|ua<|oy<|vy xm xm k7 (pv 0)<|su Fj rfl) (lg<|ls o9) mh)
  (lg<|ls<|Bl (ou aqd (pv 1) DP<|mr _)<|rm<|qm (me DY hr (by decide) rfl<|ku (pv 1) km)<|rm<|LS xm xm (pv 0) (pv 1)<|su Fj rfl)),?_⟩
 rcases aq5 hl with ⟨i,rfl⟩|⟨e1,e2,_⟩
 .refine(mm _ rfl (.int i) ⟨rfl,hl,true,rfl,tw ?_⟩);refine(nw _ rfl _ _ rfl rfl _ ⟨rfl,?_⟩);have Dy:∀m,(¬0<=i\/¬i<=64)->oM (.int i) m=false:=λm h=>by
   cases m<;>first|rfl|(unfold oM;rcases h with h|h<;>simp[h])
  refine qb (λc1=>?_) λc1=>?_
  .have mH:(0:Int)<=i:=of_decide_eq_true c1;refine(lv _ _ ⟨rfl,rfl,_,rfl,?_⟩);refine qb (λc2=>?_) λc2=>?_
   .have mG:¬(i<=64):=by simpa using c2
    rw[Dy m (.inr mG)]at q;exact q
   .have mG:i<=64:=by simpa using c2
    refine(ma _ rfl rfl _ ⟨rfl,?_⟩);by_cases hn:m=.non
    .subst hn;have e:oM (.int i) .non=true:=by unfold oM;simp[mH,mG]
     rw[e]at q;exact oz q
    .rw[decide_eq_false hn];refine tw ?_;refine(mm _ rfl m ⟨rfl,hm,?_⟩);rcases aq5 hm with ⟨j,rfl⟩|⟨e1,_,e3⟩
     .refine⟨true,rfl,oz ?_⟩;have e:oM (.int i) (.int j)=(decide (i<=j)&&decide (j<=64)):=by unfold oM;simp[mH,mG]
      rw[e]at q;refine(qh _ rfl _ rfl _ _ rfl rfl _ ⟨rfl,?_⟩);refine qb (λc3=>?_) λc3=>?_
      .rw[c3,fq]at q;exact(lv _ _ ⟨rfl,rfl,q⟩)
      .rw[du.mpr c3,i8]at q;exact q
     .rw[e1];rw[e3 hn]at q;exact⟨false,rfl,tw q⟩
  .have mH:¬((0:Int)<=i):=by simpa using c1
   refine⟨_,rfl,?_⟩;refine oz ?_;rw[Dy m (.inl mH)]at q;exact q
 .refine(mm _ rfl l ⟨rfl,hl,false,by rw[e1],oz ?_⟩);rw[e2]at q;exact oz q
noncomputable def leS(x y:Str):Bool:=!decide (y.cps.toList<x.cps.toList)
noncomputable def Aj:V->V->Bool
 | .str x,.str y=>sg1 x&&sg1 y&&leS x y
 | _,_=>false
noncomputable def wq(H:Hp):V->Bool
 | .ref a=>match H a with
  | some (.tup [x,y])=>Aj x y
  | _=>false
 | _=>false
def arb:Sp:=λvs H Q _=>∃v,vs=[v]/\KnN 1 H v/\Q (.bl<|wq H v) H
def awr:lz Z7 Z7 (ll KW):={}
def pk(H:Hp)(a:aF):wq H (.ref a)=(match H a with|some (.tup [x,y])=>Aj x y|_=>false):=rfl
theorem ahk{H:Hp}{a:aF}{xs:Z9 V}(ha:H a=some (.tup xs))(h:xs.length≠2):wq H (.ref a)=false:=by
 rw[pk,ha]
 match xs,h with
 | [],_=>rfl
 | [_],_=>rfl
 | [_,_],h=>exact absurd rfl h
 | _::_::_::_,_=>rfl
def DS{K:aq}{H:Hp}{v:V}(h:Kn H v):(∃a xs,v=.ref a/\H a=some (.tup xs))\/((∃t,iW K H v t/\cj K t (.type "tuple")=some false)/\wq H v=false/\∀a xs,v=.ref a->H a=some (.tup xs)->False):=by
 rcases h with rfl|⟨b,rfl⟩|⟨i,rfl⟩|⟨z,rfl,_⟩|⟨a,rfl,⟨ys,h⟩|⟨ys,h⟩|h⟩
 .exact .inr ⟨⟨_,.non,rfl⟩,rfl,λ_ _ e=>by cases e⟩
 .exact .inr ⟨⟨_,.bl b,rfl⟩,rfl,λ_ _ e=>by cases e⟩
 .exact .inr ⟨⟨_,.int i,rfl⟩,rfl,λ_ _ e=>by cases e⟩
 .exact .inr ⟨⟨_,.str z,rfl⟩,rfl,λ_ _ e=>by cases e⟩
 .exact .inr ⟨⟨_,.lst h,rfl⟩,by rw[pk,h],λb xs e ha=>by cases e;rw[h]at ha;cases ha⟩
 .exact .inl<|lv a ys ⟨rfl,h⟩
 .exact .inr ⟨⟨_,.dK h,rfl⟩,by rw[pk,h],λb xs e ha=>by cases e;rw[h]at ha;cases ha⟩
def arf{v:V}(h:tP v=true):∃z,v=.str z/\sg1 z=true:=by cases v<;>first|(exact⟨_,rfl,h⟩)|(exact absurd h am)
def aob{x y:V}(h:tP x=false):Aj x y=false:=by cases x<;>first|rfl|(cases y<;>first|rfl|(show(sg1 _&&sg1 _&&leS _ _)=false;rw[show sg1 _=false from h];rfl))
def apf{x y:V}(h:tP y=false):Aj x y=false:=by cases x<;>first|rfl|(cases y<;>first|rfl|(show(sg1 _&&sg1 _&&leS _ _)=false;rw[show sg1 _=false from h];simp))
def K5{n m:Nat}(h:n≠m):decide (V.int ((n:Nat):Int)=V.int ((m:Nat):Int))=false:=decide_eq_false λe=>h<|by injection e with e;exact Int.ofNat_inj.mp e
theorem asz(B:∀x∈ux,mg x=none)(xQ:Fn P w K mg base "is_sign" 1 Z7 spS)(F:Fun K "is_pair" "is_pair" KW f fd):FnOk P w K mg base CX0 2 f fd Z7 arb:=by
 refine F.ok (k:=1) awr (λvs H Q E h=>?_) λbE A outer s H vs Q E hr h=>?_
 .obtain⟨v,rfl,_⟩:=h;rfl
 obtain⟨v,rfl,hv,q⟩:=h;refine⟨_,(kq (o4 (PW.pt<|yb (oy<|qc<|mw ni rfl (B "isinstance"<|by decide) c7<|ku (pv 0)<|ku (qe (v:=.ty "tuple") rfl (B "tuple"<|by decide) iw rfl) km)<|ua<|m6 Ai (mw m5 rfl (B "len"<|by decide) b9<|ku (pv 0) km) k7<|mr _) (lg<|ls o9) mh)
  (lg<|ls<|qm (me xQ hr (by decide) rfl<|ku (m7 qw (pv 0) k7 λ_ _=>rfl) km)<|qm (me xQ hr (by decide) rfl<|ku (m7 qw (pv 0) k7 λ_ _=>rfl) km)<|rm<|ou wz (m7 qw (pv 0) k7 λ_ _=>rfl) (m7 qw (pv 0) k7 λ_ _=>rfl)<|mr _)),?_⟩
 rcases DS (K:=K) hv.kn with ⟨a,xs,rfl,ha⟩|⟨⟨t,ty,kt⟩,e,_⟩
 .obtain⟨pG,kn⟩:=hv.2 a xs rfl ha;refine(k9 _ rfl (.ref a) ("tuple") (.type "tuple") true ⟨rfl,.tup ha,rfl,true,rfl,tw ?_⟩);refine(vf _ rfl a xs rfl (.inr<|SqT.of ha) rfl _ ⟨rfl,?_⟩);by_cases h2:xs.length=2
  .match xs,h2,ha,kn with
   | [x,y],_,ha,kn=>
    have kx:Kn H x:=kn x (by simp);have ky:Kn H y:=kn y (by simp);have eq2:wq H (.ref a)=Aj x y:=by rw[pk,ha]
    rw[eq2]at q;refine tw ?_;refine(k9 _ rfl a _ _ _ ⟨rfl,rfl,SqT.of ha,rfl,x,rfl,kx,?_⟩);cases hx:tP x with
    | false=>
     rw[aob hx]at q;exact⟨false,rfl,tw q⟩
    | true=>
     refine⟨true,rfl,oz ?_⟩;refine(k9 _ rfl a _ _ _ ⟨rfl,rfl,SqT.of ha,rfl,y,rfl,ky,?_⟩);cases hy:tP y with
     | false=>
      rw[apf hy]at q;exact⟨false,rfl,tw q⟩
     | true=>
      refine⟨true,rfl,oz ?_⟩;obtain⟨zx,rfl,sx⟩:=arf hx;obtain⟨zy,rfl,sy⟩:=arf hy;refine(k9 _ rfl a _ _ _ ⟨rfl,rfl,SqT.of ha,rfl,(k9 _ rfl a _ _ _ ⟨rfl,rfl,SqT.of ha,rfl,(lv zx zy ⟨rfl,rfl,?_⟩)⟩)⟩);have e:Aj (.str zx) (.str zy) = !decide (zy.cps.toList<zx.cps.toList):=by show(sg1 zx&&sg1 zy&&leS zx zy)=_;rw[sx,sy];rfl
      rw[e]at q;exact q
  .rw[ahk ha h2]at q;refine qb (λ_=>?_) λh=>absurd (show(!decide (V.int ((xs.length:Nat):Int)=V.int ((2:Nat):Int)))=true by rw[K5 h2];rfl) h;exact q
 .rw[e]at q;refine(k9 _ rfl v ("tuple") t false ⟨rfl,ty,kt,false,rfl,oz ?_⟩);exact oz q
def Ma{H H':Hp}{v:V}(s:Same H H')(h:Kn3 H v):FormP H' v↔FormP H v:=by
 constructor
 .rintro⟨a,xs,ds,rfl,ha,rep,fr⟩;have wT:=zg s h.1 ha;obtain⟨_,kx⟩:=h.2 a xs rfl wT;have e:xs.all (wc H)=xs.all (wc H'):=by
   rw[gj,bq,bq];constructor
   .intro q x hx;rw[zd s (kx x hx).1];exact q x hx
   .intro q x hx;rw[<-zd s (kx x hx).1];exact q x hx
  have aZ:=Ml rep fr.1.pre.sg;rw[<-e]at aZ;obtain⟨es,re,tF⟩:=LQ aZ;have:=LD (re.same s) rep tF fr.1.pre.sg;subst this;exact(mj a xs es ⟨rfl,wT,re,fr⟩)
 .rintro⟨a,xs,ds,rfl,ha,rep,fr⟩;exact(mj a xs ds ⟨rfl,s _ _ ha,rep.same s,fr⟩)
def wy(H:Hp)(v:V):Prop:=∃a n l m md fm,v=.ref a/\H a=some (.tup [n,l,m,md,fm])/\pM n=true/\oM l m=true/\Bk md=true/\FormP H fm
def Mf{H H':Hp}{v:V}(s:Same H H')(h:KnN 3 H v):wy H' v↔wy H v:=by
 constructor
 .rintro⟨a,n,l,m,md,fm,rfl,ha,h1,h2,h3,h4⟩;have dG:=zg s h.kn ha;have kf:KnN 2 H fm:=(h.2 a _ rfl dG).2 fm (by simp);exact(nj a n l m md ⟨fm,rfl,dG,h1,h2,h3,(Ma s kf).mp h4⟩)
 .rintro⟨a,n,l,m,md,fm,rfl,ha,h1,h2,h3,h4⟩;have kf:KnN 2 H fm:=(h.2 a _ rfl ha).2 fm (by simp);exact(nj a n l m md ⟨fm,rfl,s _ _ ha,h1,h2,h3,(Ma s kf).mpr h4⟩)
def ara:Sp:=λvs H Q _=>∃v,vs=[v]/\KnN 3 H v/\∀(b:Bool)(H':Hp),Same H H'->(b=true↔wy H v)->Q (.bl b) H'
def axw:lz Z7 Z7 (ll Kq):={}
theorem ar7(B:∀x∈ux,mg x=none)(D6:Fn P w K mg base "is_name" 2 Z7 aqx)(My:Fn P w K mg base "are_bounds" 2 ZM axn)(D7:Fn P w K mg base "is_mode" 1 Z7 aqg)(Fpf:Fn P w K mg base "is_form" 4 Z7 a0l)
  (F:Fun K "is_kind" "is_kind" Kq f fd):FnOk P w K mg base CX0 5 f fd Z7 ara:=by
 refine F.ok (k:=4) axw (λvs H Q E h=>?_) λbE A outer s H vs Q E hr h=>?_
 .obtain⟨v,rfl,_⟩:=h;rfl
 obtain⟨v,rfl,hv,q⟩:=h;refine⟨_,(kq (o4 (PW.pt<|yb (oy<|qc<|mw ni rfl (B "isinstance"<|by decide) c7<|ku (pv 0)<|ku (qe (v:=.ty "tuple") rfl (B "tuple"<|by decide) iw rfl) km)<|ua<|m6 Ai (mw m5 rfl (B "len"<|by decide) b9<|ku (pv 0) km) k7<|mr _) (lg<|ls o9) mh)
  (lg<|ls<|qm (me D6 hr (by decide) rfl<|ku (m7 qw (pv 0) k7 λ_ _=>rfl) km)<|qm (me My hr (by decide) rfl<|ku (m7 qw (pv 0) k7 λ_ _=>rfl)<|ku (m7 qw (pv 0) k7 λ_ _=>rfl) km)<|qm (me D7 hr (by decide) rfl<|ku (m7 qw (pv 0) k7 λ_ _=>rfl) km)<|rm<|me Fpf hr (by decide) rfl<|ku (m7 qw (pv 0) k7 λ_ _=>rfl) km)),?_⟩
 rcases DS (K:=K) hv.kn with ⟨a,xs,rfl,ha⟩|⟨⟨t,ty,kt⟩,_,oA⟩
 .obtain⟨pG,kn⟩:=hv.2 a xs rfl ha;refine(k9 _ rfl (.ref a) ("tuple") (.type "tuple") true ⟨rfl,.tup ha,rfl,true,rfl,tw ?_⟩);refine(vf _ rfl a xs rfl (.inr<|SqT.of ha) rfl _ ⟨rfl,?_⟩);by_cases h5:xs.length=5
  .match xs,h5,ha,kn with
   | [n,l,m,md,fm],_,ha,kn=>
    have kN:KnN 2 H n:=kn n (by simp);have kL:KnN 2 H l:=kn l (by simp);have kM:KnN 2 H m:=kn m (by simp);have kD:KnN 2 H md:=kn md (by simp);have kF:KnN 2 H fm:=kn fm (by simp);have no:(pM n=false\/oM l m=false\/Bk md=false\/¬FormP H fm)->¬wy H (.ref a):=λhx ⟨a',n',l',m',Hz,JI,e,dG,h1,h2,h3,h4⟩=>by
     cases e;rw[ha]at dG;cases dG;rcases hx with hx|hx|hx|hx
     .rw[hx]at h1;cases h1
     .rw[hx]at h2;cases h2
     .rw[hx]at h3;cases h3
     .exact hx h4
    refine tw ?_;refine(k9 _ rfl a _ _ _ ⟨rfl,rfl,SqT.of ha,rfl,n,rfl,kN.kn,λH1 s1=>?_⟩);have uZ:=s1 _ _ ha;cases e1:pM n with
    | false=>exact⟨false,rfl,tw<|q false H1 s1<|qo<|no<|.inl e1⟩
    | true=>
     refine⟨true,rfl,oz ?_⟩;refine(k9 _ rfl a _ _ _ ⟨rfl,rfl,SqT.of uZ,rfl,(k9 _ rfl a _ _ _ ⟨rfl,rfl,SqT.of uZ,rfl,(lv l m ⟨rfl,(kL.kn.same s1),(kM.kn.same s1),?_⟩)⟩)⟩);cases e2:oM l m with
     | false=>exact⟨false,rfl,tw<|q false H1 s1<|qo<|no<|.inr<|.inl e2⟩
     | true=>
      refine⟨true,rfl,oz ?_⟩;refine(k9 _ rfl a _ _ _ ⟨rfl,rfl,SqT.of uZ,rfl,md,rfl,kD.kn.same s1,?_⟩);cases e3:Bk md with
      | false=>exact⟨false,rfl,tw<|q false H1 s1<|qo<|no<|.inr<|.inr<|.inl e3⟩
      | true=>
       refine⟨true,rfl,oz ?_⟩;refine(k9 _ rfl a _ _ _ ⟨rfl,rfl,SqT.of uZ,rfl,fm,rfl,kF.same s1,λb H2 s2 hb=>?_⟩);refine q b H2 (s1.trans s2) ?_;rw[hb,Ma s1 kF];exact⟨λh4=>(nj a n l m md ⟨fm,rfl,ha,e1,e2,e3,h4⟩),λhk=>by obtain⟨a',n',l',m',Hz,JI,e,dG,_,_,_,h4⟩:=hk;cases e;rw[ha]at dG;cases dG;exact h4⟩
  .refine qb (λ_=>?_) λh=>absurd (show(!decide (V.int ((xs.length:Nat):Int)=V.int ((5:Nat):Int)))=true by rw[K5 h5];rfl) h;refine q false H (Same.refl H)<|qo λhk=>?_;obtain⟨a',n',l',m',Hz,JI,e,dG,_⟩:=hk;cases e;rw[ha]at dG;cases dG;exact h5 rfl
 .refine(k9 _ rfl v ("tuple") t false ⟨rfl,ty,kt,false,rfl,oz ?_⟩);refine oz<|q false H (Same.refl H)<|qo λhk=>?_;obtain⟨a',n',l',m',Hz,JI,e,dG,_⟩:=hk;exact oA a' _ e dG
def PrD(d:Z8):Prop:=∃x y:Nat,d=.tuple [.str ⟨#[x]⟩,.str ⟨#[y]⟩]/\65<=x/\x<=y/\y<=90
noncomputable def prN:Z8->Nat
 | .tuple [.str x,.str y]=>128*(x.cps.toList.headD 0)+y.cps.toList.headD 0
 | _=>0
def FL(x y:Nat):prN (.tuple [.str ⟨#[x]⟩,.str ⟨#[y]⟩])=128*x+y:=rfl
def alg{d e:Z8}(hd:PrD d)(he:PrD e)(h:prN d=prN e):d=e:=by
 obtain⟨x,y,rfl,h1,h2,h3⟩:=hd;obtain⟨x',y',rfl,jB,gX,h3'⟩:=he;rw[FL,FL]at h;have e1:x=x':=by lia
 have e2:y=y':=by lia
 rw[e1,e2]
theorem axe(a b:Nat):sLt ⟨#[a]⟩ ⟨#[b]⟩=decide (a<b):=by
 show decide ([a]<[b])=_;by_cases h:a<b
 .rw[decide_eq_true h];exact decide_eq_true<|List.Lex.rel h
 .rw[decide_eq_false h];refine decide_eq_false λq=>?_;cases q with
  | rel r=>exact h r
  | cons r=>cases r
def aw5(a b:Nat):((⟨#[a]⟩:Str)=⟨#[b]⟩)↔a=b:=⟨λh=>by
 injection h with h
 injection h with h
 injection h,λh=>by rw[h]⟩
def aq7{d e:Z8}(hd:PrD d)(he:PrD e):ltR d e=decide (prN d<prN e):=by
 obtain⟨x,y,rfl,h1,h2,h3⟩:=hd;obtain⟨x',y',rfl,jB,gX,h3'⟩:=he;rw[FL,FL];show qt [.str ⟨#[x]⟩,.str ⟨#[y]⟩] [.str ⟨#[x']⟩,.str ⟨#[y']⟩]=_;rw[DK,DK];simp only[aw5,axe];rw[show qt [] []=false from rfl];by_cases e1:x=x'
 .rw[if_pos e1];by_cases e2:y=y'
  .rw[if_pos e2,decide_eq_false<|by lia]
  .rw[if_neg e2];by_cases h:y<y'
   .rw[decide_eq_true h,decide_eq_true<|by lia]
   .rw[decide_eq_false h,decide_eq_false<|by lia]
 .rw[if_neg e1];by_cases h:x<x'
  .rw[decide_eq_true h,decide_eq_true<|by lia]
  .rw[decide_eq_false h,decide_eq_false<|by lia]
def aks{ds:Z9 Z8}(h:∀d∈ds,PrD d):Bg [false] ds:=λd hd=>by obtain⟨x,y,rfl,_⟩:=h d hd;exact(m8 _ rfl _ _ ⟨rfl,(lv _ _ ⟨rfl,rfl⟩)⟩)
def Le{d:Z8}(h:PrD d):Fw d:=by obtain⟨x,y,rfl,_⟩:=h;exact⟨rfl,⟨_,rfl⟩,by simp[fh,bg]⟩
def An(H:Hp)(v:V):Prop:=∃a xs ds,v=.ref a/\H a=some (.tup xs)/\RepAll H ds xs/\(∀d∈ds,PrD d)/\ds.Pairwise (λx y=>prN x<prN y)
def acr{H H':Hp}{v:V}(s:Same H H')(h:Kn H v):wq H' v=wq H v:=by
 rcases h with rfl|⟨b,rfl⟩|⟨i,rfl⟩|⟨z,rfl,_⟩|⟨a,rfl,⟨ys,h⟩|⟨ys,h⟩|h⟩
 .rfl
 .rfl
 .rfl
 .rfl
 .rw[pk,pk,h,s _ _ h]
 .rw[pk,pk,h,s _ _ h]
 .rw[pk,pk,h,s _ _ h]
def aj9(x y:Nat):leS ⟨#[x]⟩ ⟨#[y]⟩=decide (x<=y):=le1 x y
def aqk{z:Str}(h:sg1 z=true):∃c,z=⟨#[c]⟩/\65<=c/\c<=90:=by
 by_cases hl:z.length=1
 .obtain⟨c,rfl⟩:=K9 hl;rw[FW]at h;simp at h;exact⟨c,rfl,h⟩
 .rw[LJ hl]at h;cases h
def apx{x y:V}(h:Aj x y=true):∃zx zy,x=.str zx/\y=.str zy/\(sg1 zx&&sg1 zy&&leS zx zy)=true:=by cases x<;>first|(exact absurd h am)|(cases y<;>first|(exact absurd h am)|exact(lv _ _ ⟨rfl,rfl,h⟩))
theorem atm{H:Hp}{v:V}(h:wq H v=true):∃d,Rep H d v/\PrD d:=by
 cases v with
 | ref a=>
  have h0:=h;rw[pk]at h;cases ha:H a with
  | none=>rw[ha]at h;cases h
  | some o=>
   rw[ha]at h;cases o with
   | tup xs=>
    by_cases h2:xs.length=2
    .match xs,h2,ha,h with
     | [x,y],_,ha,h=>
      obtain⟨zx,zy,rfl,rfl,h'⟩:=apx h;rw[da,da]at h';obtain⟨⟨h1,h2⟩,h3⟩:=h';obtain⟨c,rfl,c1,c2⟩:=aqk h1;obtain⟨e,rfl,e1,e2⟩:=aqk h2;rw[aj9]at h3;refine(m8 (.tuple [.str ⟨#[c]⟩,.str ⟨#[e]⟩]) (oq a _ rfl ha (.str ⟨#[c]⟩) _ rfl ⟨rfl,ok1<|by lia⟩ (.str ⟨#[e]⟩) ⟨_,rfl,⟨rfl,ok1<|by lia⟩,rfl⟩) c e ⟨rfl,c1,of_decide_eq_true h3,e2⟩)
    .rw[ahk ha h2]at h0;cases h0
   | _=>cases h
 | _=>cases h
def att{H:Hp}{v:V}{d:Z8}(r:Rep H d v)(h:PrD d):wq H v=true:=by obtain⟨x,y,rfl,h1,h2,h3⟩:=h;obtain⟨a,xs,rfl,ha,v1,r1,rfl,⟨rfl,_⟩,v2,r2,rfl,⟨rfl,_⟩,e⟩:=r;cases (show r2=[]from e);rw[pk,ha];show(sg1 _&&sg1 _&&leS _ _)=true;rw[FW,FW,aj9];simp;lia
theorem LX{H:Hp}:∀{xs:Z9 V},xs.all (wq H)=true->∃ds,RepAll H ds xs/\∀d∈ds,PrD d
 | [],_=>⟨[],rfl,λd hd=>by cases hd⟩
 | x::xs,h=>by
  rw[List.all_cons,da]at h;obtain⟨d,r,p⟩:=atm h.1;obtain⟨ds,rs,ps⟩:=LX h.2;exact⟨d::ds,(lv x xs ⟨rfl,r,rs⟩),λe he=>by
   rcases ap.mp he with rfl|he
   .exact p
   .exact ps e he⟩
theorem Mk{H:Hp}:∀{ds:Z9 Z8} {xs:Z9 V},RepAll H ds xs->(∀d∈ds,PrD d)->xs.all (wq H)=true
 | [],xs,r,_=>by cases (show xs=[]from r);rfl
 | d::ds,xs,r,h=>by obtain⟨x,ys,rfl,r1,r2⟩:=r;rw[List.all_cons,att r1<|h d aj,Mk r2 λe he=>h e<|ak _ he];rfl
theorem KU:∀{ds:Z9 Z8},(∀d∈ds,PrD d)->xn ds=true
 | [],_=>rfl
 | d::ds,h=>by show(kd d&&xn ds)=true;rw[(Le<|h d aj).1,KU λe he=>h e<|ak _ he];rfl
theorem aht:∀{ds:Z9 Z8},(∀d∈ds,PrD d)->bg ds<=8
 | [],_=>by simp[bg]
 | d::ds,h=>by have h1:=(Le<|h d aj).2.2;have h2:=aht λe he=>h e<|ak _ he;simp[bg];lia
theorem LK{H:Hp}:∀{ds es:Z9 Z8} {xs:Z9 V},RepAll H ds xs->RepAll H es xs->(∀d∈ds,PrD d)->(∀d∈es,PrD d)->ds=es
 | [],es,xs,r,r',_,_=>by
  cases (show xs=[]from r);cases es with
  | nil=>rfl
  | cons e es=>obtain⟨_,_,q,_⟩:=r';cases q
 | d::ds,es,xs,r,r',h,h'=>by
  obtain⟨x,ys,rfl,r1,r2⟩:=r;cases es with
  | nil=>cases r'
  | cons e es=>
   obtain⟨_,_,q,q1,q2⟩:=r';cases q;have e1:d=e:=by
    obtain⟨c1,c2,rfl,_⟩:=h d aj;obtain⟨mH,mG,rfl,_⟩:=h' e aj;obtain⟨a,xs,rfl,ha,v1,_,rfl,⟨rfl,_⟩,v2,_,rfl,⟨rfl,_⟩,z⟩:=r1;obtain⟨a',xs',e',dG,v1',_,e2',⟨e3',_⟩,v2',_,e4',⟨e5',_⟩,z'⟩:=q1;cases e';rw[ha]at dG;subst e2' e3' e4' e5';injection dG with dG
    injection dG with dG
    injection dG with i1 i2
    injection i2 with i2 i3
    injection i1 with i1
    injection i2 with i2
    rw[i1,i2]
   rw[e1,LK r2 q2 (λe he=>h e<|ak _ he) λe he=>h' e<|ak _ he]
def ai5{H:Hp}{a:aF}{xs:Z9 V}{ds:Z9 Z8}(ha:H a=some (.tup xs))(r:RepAll H ds xs)(h:∀d∈ds,PrD d):An H (.ref a)↔ds.Pairwise (λx y=>prN x<prN y):=by
 constructor
 .rintro⟨b,ys,es,e,hb,re,he,hp⟩;cases e;rw[ha]at hb;cases hb;rw[LK r re h he];exact hp
 .intro hp;exact(mj a xs ds ⟨rfl,ha,r,h,hp⟩)
def ai8{H H':Hp}{v:V}(s:Same H H')(h:KnN 2 H v):An H' v↔An H v:=by
 constructor
 .rintro⟨a,xs,ds,rfl,ha,r,hp,hw⟩;have wT:=zg s h.kn ha;obtain⟨_,kx⟩:=h.2 a xs rfl wT;have aZ:=Mk r hp;have e:xs.all (wq H)=true:=by
   rw[bq]at aZ⊢;intro x hx;rw[<-acr s (kx x hx).kn];exact aZ x hx
  obtain⟨es,re,pe⟩:=LX e;cases LK (re.same s) r pe hp;exact(mj a xs _ ⟨rfl,wT,re,hp,hw⟩)
 .rintro⟨a,xs,ds,rfl,ha,r,hp,hw⟩;exact(mj a xs ds ⟨rfl,s _ _ ha,r.same s,hp,hw⟩)
def aj0:Sp:=λvs H Q _=>∃v,vs=[v]/\KnN 2 H v/\∀(b:Bool)(H':Hp),Same H H'->(b=true↔An H v)->Q (.bl b) H'
def ar5:lz Z7 Z7 (ll La):={}
theorem aos(B:∀x∈ux,mg x=none)(DZ:Fn P w K mg base "is_pair" 2 Z7 arb)
  (F:Fun K "are_pairs" "are_pairs" La f fd):FnOk P w K mg base CX0 3 f fd Z7 aj0:=by
 refine F.ok (k:=2) ar5 (λvs H Q E h=>?_) λbE A outer s H vs Q E hr h=>?_
 .obtain⟨v,rfl,_⟩:=h;rfl
 obtain⟨v,rfl,hv,q⟩:=h;have hu:=hr.units;refine⟨_,(kq (o4 (PW.pt<|yb (oy<|qc<|mw ni rfl (B "isinstance"<|by decide) c7<|ku (pv 0)<|ku (qe (v:=.ty "tuple") rfl (B "tuple"<|by decide) iw rfl) km)<|ua<|oy<|qc<|mw (qq rfl) rfl (B "all"<|by decide) cC<|ku (nk ["pair"] [none] rfl rfl (by decide +kernel) (by decide +kernel) rfl rfl (yq<|pv 0) (λ_=>(li (i:=0) (show(["pair"]:Z9 PySem.Str).Nodup by decide +kernel) rfl<|Or.inl rfl)) (λ_=>ng) λ_=>(me DZ hr (by decide) rfl<|ku (pv 0) km)) km) (lg<|ls o9) mh)
  (lg<|ls<|ou (FP hu) (x9 afn rfl (B "list"<|by decide) boot_list<|ku (pv 0) km) (af0 (lJ true) ltR rfl hu rfl (B "sorted"<|by decide) rfl (B "set"<|by decide)<|ku (pv 0) km)<|mr _)),?_⟩
 rcases DS (K:=K) hv.kn with ⟨a,xs,rfl,ha⟩|⟨⟨t,ty,kt⟩,_,oA⟩
 .obtain⟨pG,kn⟩:=hv.2 a xs rfl ha;refine(k9 _ rfl (.ref a) ("tuple") (.type "tuple") true ⟨rfl,.tup ha,rfl,true,rfl,tw ?_⟩);refine(mm _ rfl a ⟨rfl,⟨_,SqT.of ha⟩,λD hD=>?_⟩);refine tq (xs:=xs) (λi ys H'=>Same H H'/\ys=((xs.take i).map (wq H)).map V.bl) ⟨Same.fresh _ hD,rfl⟩ (λi ys H' p=>SqT.of<|p.1 _ _ ha) (λi x ys H' hx hi aN aY p=>?_) λys H' aN aY p=>?_
  .obtain⟨p1,rfl⟩:=p;have kx:=kn x<|ah hx;refine⟨Agree.set (Agree.refl _) rfl,?_⟩;dsimp only[wg];refine oz ?_;refine(mm _ rfl x ⟨rfl,kx.same p1,oj (by lia) aN aY ⟨p1.new hD,?_⟩⟩);rw[lq (wq H) hx,ay,acr p1 kx.kn];rfl
  obtain⟨p1,rfl⟩:=p;refine(lv D _ ⟨rfl,aN,_,rfl,?_⟩);rw[bb (av _),jb];have rR:(xs.all<|id∘wq H)=xs.all (wq H):=rfl;rw[rR];cases aZ:xs.all (wq H)with
  | false=>
   refine oz ?_;refine q false H' p1<|qo λ⟨b,ys,ds,e,hb,r,hp,_⟩=>?_;cases e;rw[ha]at hb;cases hb;rw[Mk r hp]at aZ;cases aZ
  | true=>
   refine tw ?_;obtain⟨ds,rep,wH⟩:=LX aZ;have hF:=ai5 ha rep wH;have uZ:=p1 _ _ ha;refine(m8 _ rfl a xs ⟨rfl,.inr<|SqT.of uZ,λl hl=>?_⟩);have s2:Same H' (upd H' l<|.lst xs):=Same.fresh _ hl;have r2:=rep.same<|p1.trans s2;have aU:=rep.length;refine(nv _ rfl a xs ds ⟨rfl,.inr<|s2 _ _ uZ,r2,λd hd=>Le<|wH d hd,alp<|aks wH,by lia,λes l2 ys nd mem xY fK re=>?_⟩);have s3:Same (upd H' l<|.lst xs) (upd (upd H' l<|.lst xs) l2<|.lst ys):=Same.fresh _ fK;have tF:∀d∈es,PrD d:=λd hd=>wH d<|(mem d).mp hd;refine(lv (.list ds) (.list es) ⟨(lv l xs ⟨rfl,s3 _ _ k8,r2.same s3⟩),(lv l2 ys ⟨rfl,k8,re⟩),?_,?_⟩)
   .have:=aht wH;simp[fh];lia
   refine q _ _ ((p1.trans s2).trans s3) ?_;rw[hF,if_neg am];have pP:es.Pairwise (λx y=>prN x<prN y):=by have JV:=List.Pairwise.and nd xY;refine ie (λ{x y} hx hy EX=>?_) JV;have h1:=EX.2;rw[aq7 (tF y hy) (tF x hx)]at h1;have h2:¬prN y<prN x:=of_decide_eq_false h1;have h3:prN x≠prN y:=λe=>EX.1<|alg (tF x hx) (tF y hy) e;lia
   constructor
   .intro h;have e:ds=es:=Me ds es (KU wH) (KU tF) h;rw[e];exact pP
   .intro h;have e:ds=es:=abu (R:=λx y=>prN x<prN y) (λx y h1 h2=>by lia) h pP λz=>(mem z).symm;rw[e];exact SeqAt.eqv_refl (.list es) (show(PyData.list es).canLay0=true from re.lay)
 .exact(k9 _ rfl v ("tuple") t false ⟨rfl,ty,kt,false,rfl,oz<|oz<|q false H (Same.refl H)<|qo λ⟨b,ys,ds,e,hb,_⟩=>oA b ys e hb⟩)
def Nms(H:Hp)(xs:Z9 V)(zs:Z9 Str):Prop:=zs.length=xs.length/\∀(i:Nat)(x:V),xs[i]?=some x->∃(b:aF)(z:Str)(r:Z9 V),x=.ref b/\H b=some (.tup (.str z::r))/\zs[i]?=some z
def Nms.same{H H':Hp}{xs:Z9 V}{zs:Z9 Str}(s:Same H H')(h:Nms H xs zs):Nms H' xs zs:=⟨h.1,λi x hx=>by obtain⟨b,z,r,e,hb,hz⟩:=h.2 i x hx;exact(mj b z r ⟨e,s _ _ hb,hz⟩)⟩
def Nms.uniq{H:Hp}{xs:Z9 V}{zs ys:Z9 Str}(h:Nms H xs zs)(k:Nms H xs ys):zs=ys:=by
 apply List.ext_getElem?;intro i;by_cases hi:i<xs.length
 .obtain⟨b,z,r,e,hb,hz⟩:=h.2 i _<|ae hi;obtain⟨b',z',r',e',dH,nE⟩:=k.2 i _<|ae hi;rw[e]at e';cases e';rw[hb]at dH;injection dH with q
  injection q with q
  injection q with q _
  injection q with q
  rw[hz,nE,q]
 .rw[ib (by have:=h.1;lia),ib<|by have:=k.1;lia]
def ao5{v:V}(h:pM v=true):∃z,v=.str z:=by cases v<;>first|(exact⟨_,rfl⟩)|(exact absurd h am)
theorem zn{H:Hp}:∀{xs:Z9 V},(∀x∈xs,wy H x)->∃zs,Nms H xs zs
 | [],_=>⟨[],rfl,λi x hx=>by simp at hx⟩
 | x::xs,h=>by
  obtain⟨a,n,l,m,md,fm,rfl,ha,h1,_⟩:=h x aj;obtain⟨z,rfl⟩:=ao5 h1;obtain⟨zs,hl,hz⟩:=zn λy hy=>h y<|ak _ hy;refine⟨z::zs,by rw[bc,bc,hl],λi y hy=>?_⟩;cases i with
  | zero=>
   cases (show V.ref a=y from by simpa using hy);exact(mj a z _ ⟨rfl,ha,rfl⟩)
  | succ i=>exact hz i y<|by simpa using hy
def xM(H:Hp)(v:V):Prop:=∃a xs zs,v=.ref a/\H a=some (.tup xs)/\1<=xs.length/\xs.length<=6/\(∀x∈xs,wy H x)/\Nms H xs zs/\zs.Nodup
def aiv{H H':Hp}{v:V}(s:Same H H')(h:KnN 4 H v):xM H' v↔xM H v:=by
 constructor
 .rintro⟨a,xs,zs,rfl,ha,h1,h2,h3,h4,h5⟩;have wT:=zg s h.kn ha;obtain⟨_,kx⟩:=h.2 a xs rfl wT;have hk:∀x∈xs,wy H x:=λx hx=>(Mf s<|kx x hx).mp (h3 x hx);obtain⟨ys,hy⟩:=zn hk;cases (hy.same s).uniq h4;exact(mj a xs _ ⟨rfl,wT,h1,h2,hk,hy,h5⟩)
 .rintro⟨a,xs,zs,rfl,ha,h1,h2,h3,h4,h5⟩;obtain⟨_,kx⟩:=h.2 a xs rfl ha;exact(mj a xs zs ⟨rfl,s _ _ ha,h1,h2,λx hx=>(Mf s<|kx x hx).mpr (h3 x hx),h4.same s,h5⟩)
open Classical in
noncomputable def xK(H:Hp)(x:V):Bool:=decide<|wy H x
def kindB_iff{H:Hp}{x:V}:xK H x=true↔wy H x:=by unfold xK;exact @decide_eq_true_iff _<|Classical.propDecidable _
def aot{H:Hp}{x:V}{b:Bool}(h:b=true↔wy H x):b=xK H x:=by rw[gj,h,kindB_iff]
theorem ajd{α:Type}[DecidableEq α]{R S:List α}(hR:R.Nodup)(hs:∀x,x∈R->x∈S)(hl:S.length<=R.length):S.Nodup:=by
 induction S generalizing R with
 | nil=>exact List.nodup_nil
 | cons a S ih=>
  by_cases ha:a∈S
  .have jZ:∀x,x∈R->x∈S:=λx hx=>(ap.mp<|hs x hx).elim (λe=>e▸ha) id;have:=gc hR λx hx=>jZ x hx;rw[bc]at hl;lia
  .refine ii.mpr ⟨ha,ih (R:=R.erase a) (hR.erase a) (λx hx=>?_) ?_⟩
   .have oV:=List.mem_of_mem_erase hx;rcases ap.mp (hs x oV)with e|h
    .subst e;exact absurd hx<|List.Nodup.not_mem_erase hR
    .exact h
   .have fK:R.length<=(R.erase a).length+1:=by
     by_cases h:a∈R
     .rw[List.length_erase_of_mem h];lia
     .rw[List.erase_of_not_mem h];lia
    rw[bc]at hl;lia
section
variable{K:aq}{a D:aF}{xs:Z9 V}{zs:Z9 Str}{σ:L2.St}{H:Hp}{Q:VK}
def ai3(ha:H a=some (.tup xs))(hn:Nms H xs zs)(hl:xs.length<=60)(hD:H D=none)(q:∀H',Same H H'->H' D=some (.lst<|zs.map V.str)->Q (.ref D) H') :
  tS (Itt K a) [none] (ve 0) wg (tOp (DE K) (iC 0)<|tC<|.int 0) σ H D Q:=by
 refine tq (xs:=xs) (λi ys H'=>Same H H'/\ys=(zs.take i).map V.str) ⟨Same.fresh _ hD,rfl⟩ (λi ys H' p=>SqT.of<|p.1 _ _ ha) (λi x ys H' hx hi aN aY p=>?_) λys H' aN aY p=>?_
 .obtain⟨p1,rfl⟩:=p;obtain⟨b,z,r,rfl,hb,hz⟩:=hn.2 i x hx;refine⟨Agree.set (Agree.refl _) rfl,?_⟩;dsimp only[wg];refine oz ?_;refine(k9 _ rfl b _ _ _ ⟨rfl,rfl,SqT.of<|p1 _ _ hb,az8 rfl,oj (by lia) aN aY ⟨p1.new hD,?_⟩⟩);rw[lq V.str hz]
 .obtain⟨p1,rfl⟩:=p;rw[bb (by rw[hn.1];exact av _)]at aN;exact q H' p1 aN
end
def ami:Sp:=λvs H Q _=>∃v,vs=[v]/\KnN 4 H v/\∀(b:Bool)(H':Hp),Same H H'->(b=true↔xM H v)->Q (.bl b) H'
def atv:lz Z7 Z7 (ll Lf):={}
theorem aoo(B:∀x∈ux,mg x=none)(JF:GI mg "MOST_KINDS" 6)(Ea:Fn P w K mg base "is_kind" 5 Z7 ara)
  (F:Fun K "are_kinds" "are_kinds" Lf f fd):FnOk P w K mg base CX0 6 f fd Z7 ami:=by
 refine F.ok (k:=5) atv (λvs H Q E h=>?_) λbE A outer s H vs Q E hr h=>?_
 .obtain⟨v,rfl,_⟩:=h;rfl
 obtain⟨v,rfl,hv,q⟩:=h;have hu:=hr.units;refine⟨_,(kq (o4 (PW.pt<|yb (oy<|qc<|mw ni rfl (B "isinstance"<|by decide) c7<|ku (pv 0)<|ku (qe (v:=.ty "tuple") rfl (B "tuple"<|by decide) iw rfl) km)<|ua<|oy<|vy xm xm k7 (mw m5 rfl (B "len"<|by decide) b9<|ku (pv 0) km)<|su JF rfl) (lg<|ls o9) mh)
  (kq (o4 (oy<|qc<|mw (qq rfl) rfl (B "all"<|by decide) cC<|ku (nk ["kind"] [none] rfl rfl (by decide +kernel) (by decide +kernel) rfl rfl (yq<|pv 0) (λ_=>(li (i:=0) (show(["kind"]:Z9 PySem.Str).Nodup by decide +kernel) rfl<|Or.inl rfl)) (λ_=>ng) λ_=>(me Ea hr (by decide) rfl<|ku (pv 0) km)) km) (lg<|ls o9) mh)
  (lg<|ls<|ou sd (aiq rfl rfl (B "len"<|by decide) rfl (B "set"<|by decide)<|ku (nk ["kind"] [none] rfl rfl (by decide +kernel) (by decide +kernel) rfl rfl (yq<|pv 0) (λ_=>(li (i:=0) (show(["kind"]:Z9 PySem.Str).Nodup by decide +kernel) rfl<|Or.inl rfl)) (λ_=>ng) λ_=>(m7 vt (pv 0) k7 λ_ _=>rfl)) km) (mw m5 rfl (B "len"<|by decide) b9<|ku (pv 0) km)<|mr _))),?_⟩
 rcases DS (K:=K) hv.kn with ⟨a,xs,rfl,ha⟩|⟨⟨t,ty,kt⟩,_,oA⟩
 .obtain⟨pG,kn⟩:=hv.2 a xs rfl ha;have no:(1<=xs.length->xs.length<=6->False)->¬xM H (.ref a):=λhx ⟨b,ys,zs,e,hb,h1,h2,_⟩=>by
   cases e;rw[ha]at hb;cases hb;exact hx h1 h2
  refine(k9 _ rfl (.ref a) ("tuple") (.type "tuple") true ⟨rfl,.tup ha,rfl,true,rfl,tw ?_⟩);refine(nw _ rfl a xs rfl (.inr<|SqT.of ha) _<|ma _ rfl rfl _ ⟨rfl,?_⟩);refine qb (λc1=>?_) λc1=>?_
  .have mH:(1:Int)<=(xs.length:Int):=of_decide_eq_true c1;refine(lv _ _ ⟨rfl,rfl,_,rfl,?_⟩);refine qb (λc2=>?_) λc2=>?_
   .have mG:¬((xs.length:Int)<=6):=by simpa using c2
    exact q false H (Same.refl H)<|qo<|no λ_ h=>by lia
   have mG:(xs.length:Int)<=6:=by simpa using c2
   refine(mm _ rfl a ⟨rfl,⟨_,SqT.of ha⟩,λD hD=>?_⟩);refine tq (xs:=xs) (λi ys H'=>Same H H'/\ys=((xs.take i).map (xK H)).map V.bl) ⟨Same.fresh _ hD,rfl⟩ (λi ys H' p=>SqT.of<|p.1 _ _ ha) (λi x ys H' hx hi aN aY p=>?_) λys H' aN aY p=>?_
   .obtain⟨p1,rfl⟩:=p;have kx:=kn x<|ah hx;refine⟨Agree.set (Agree.refl _) rfl,?_⟩;dsimp only[wg];refine oz ?_;refine(mm _ rfl x ⟨rfl,kx.same p1,λb H2 s2 hb=>?_⟩);rw[Mf p1 kx]at hb;rw[aot hb];refine oj (by lia) (s2 _ _ aN) aY ⟨(p1.trans s2).new hD,?_⟩;rw[lq (xK H) hx,ay];rfl
   obtain⟨p1,rfl⟩:=p;refine(lv D _ ⟨rfl,aN,_,rfl,?_⟩);rw[bb (av _),jb];have rR:(xs.all<|id∘xK H)=xs.all (xK H):=rfl;rw[rR];cases aZ:xs.all (xK H)with
   | false=>
    refine oz ?_;refine q false H' p1<|qo λ⟨b,ys,zs,e,hb,_,_,h3,_⟩=>?_;cases e;rw[ha]at hb;cases hb;rw[bq.mpr λx hx=>kindB_iff.mpr<|h3 x hx]at aZ;cases aZ
   | true=>
    refine tw ?_;have hk:∀x∈xs,wy H x:=λx hx=>kindB_iff.mp<|bq.mp aZ x hx;obtain⟨zs,hn⟩:=zn hk;have gT:=hn.1;refine(mm _ rfl a ⟨rfl,⟨_,SqT.of<|p1 _ _ ha⟩,λD2 dF=>?_⟩);refine ai3 (p1 _ _ ha) (hn.same p1) pG dF λH2 s2 dF=>?_;refine(lv D2 zs ⟨rfl,dF,by lia,λm nd mem le=>?_⟩);have dM:=p1.trans s2;refine(m8 _ rfl a xs ⟨rfl,.inr<|SqT.of<|dM _ _ ha,rfl,?_⟩);refine q _ _ dM ?_;have iff:xM H (.ref a)↔zs.Nodup:=by
     constructor
     .rintro⟨b,ys,Gn,e,hb,_,_,_,h4,h5⟩;cases e;rw[ha]at hb;cases hb;rw[hn.uniq h4];exact h5
     .intro h;exact(mj a xs zs ⟨rfl,ha,by lia,by lia,hk,hn,h⟩)
    rw[iff,decide_eq_true_iff];constructor
    .intro e;injection e with e
     exact ajd nd (λx hx=>(mem x).mp hx)<|by lia
    .intro h;have:=afk h nd mem;rw[this,gT]
  .refine⟨false,rfl,oz ?_⟩;have mH:¬(1:Int)<=(xs.length:Int):=by simpa using c1
   exact q false H (Same.refl H)<|qo<|no λh _=>by lia
 .exact(k9 _ rfl v ("tuple") t false ⟨rfl,ty,kt,false,rfl,oz<|oz<|q false H (Same.refl H)<|qo λ⟨b,ys,ds,e,hb,_⟩=>oA b ys e hb⟩)
def NoStr.notStr{H:Hp}{z:Str}(h:NoStr H (.str z)):False:=by rcases h with h|⟨i,h⟩|⟨a,h,_⟩<;>cases h
theorem Itm.uniq{H:Hp}{v:V}{o o':Option Str}(h:Itm H v o)(h':Itm H v o'):o=o':=by
 cases o with
 | none=>
  cases o' with
  | none=>rfl
  | some z=>obtain⟨rfl,_⟩:=h';exact(NoStr.notStr h).elim
 | some z=>
  obtain⟨rfl,_⟩:=h;cases o' with
  | none=>exact(NoStr.notStr h').elim
  | some z'=>obtain⟨e,_⟩:=h';cases e;rfl
theorem Itms.uniq{H:Hp}{vs:Z9 V}{os qA:Z9 (Option Str)}(h:Itms H vs os)(h':Itms H vs qA):os=qA:=by
 apply List.ext_getElem?;intro i;by_cases hi:i<vs.length
 .obtain⟨o,ho,io⟩:=h.at<|ae hi;obtain⟨o',gN,io'⟩:=h'.at<|ae hi;rw[ho,gN,Itm.uniq io io']
 .rw[ib (by have:=h.1;lia),ib<|by have:=h'.1;lia]
def NoTup.notTup{H:Hp}{a:aF}{xs:Z9 V}(h:NoTup H (.ref a))(ha:H a=some (.tup xs)):False:=by
 rcases h with h|⟨i,h⟩|⟨z,h⟩|⟨b,h,⟨ys,hb⟩|hb⟩
 .cases h
 .cases h
 .cases h
 .cases h;rw[ha]at hb;cases hb
 .cases h;rw[ha]at hb;cases hb
theorem Thing.uniq{H:Hp}{v:V}{T T':Option (Z9<|Option Str)}(h:Thing H v T)(h':Thing H v T'):T=T':=by
 cases T with
 | none=>
  cases T' with
  | none=>rfl
  | some os=>obtain⟨_,a,vs,rfl,ha,_⟩:=h';exact(NoTup.notTup h ha).elim
 | some os=>
  obtain⟨_,a,vs,rfl,ha,hi⟩:=h;cases T' with
  | none=>exact(NoTup.notTup h' ha).elim
  | some qA=>
   obtain⟨_,a',Ei,e,dG,fH⟩:=h';cases e;rw[ha]at dG;cases dG;rw[Itms.uniq hi fH]
def Fz(H:Hp)(v:V):Prop:=∃T,Thing H v T/\flB T=true
def aih{H:Hp}{v:V}{T:Option (Z9<|Option Str)}(h:Thing H v T):flB T=true↔Fz H v:=
 ⟨λq=>⟨T,h,q⟩,λ⟨T',h',q⟩=>by rw[Thing.uniq h h'];exact q⟩
def nQ(H:Hp)(v:V):Prop:=∃a f k p,v=.ref a/\H a=some (.tup [f,k,p])/\Fz H f/\xM H k/\An H p
def Pz(H:Hp)(v:V):Prop:=Kn H v/\∀a xs,v=.ref a->H a=some (.tup xs)->xs.length<=60/\∀f k p,xs=[f,k,p]->(∃T,Thing H f T)/\KnN 4 H k/\KnN 2 H p
def aww:Sp:=λvs H Q _=>∃v,vs=[v]/\Pz H v/\∀(b:Bool)(H':Hp),Same H H'->(b=true↔nQ H v)->Q (.bl b) H'
def ays:lz Z7 Z7 (ll J6):={}
theorem aux(B:∀x∈ux,mg x=none)(Mx:Fn P w K mg base "is_floor" 4 Z7 a0f)(Av:Fn P w K mg base "are_kinds" 6 Z7 ami)(At:Fn P w K mg base "are_pairs" 3 Z7 aj0)
  (F:Fun K "is_puzzle" "is_puzzle" J6 f fd):FnOk P w K mg base CX0 7 f fd Z7 aww:=by
 refine F.ok (k:=6) ays (λvs H Q E h=>?_) λbE A outer s H vs Q E hr h=>?_
 .obtain⟨v,rfl,_⟩:=h;rfl
 obtain⟨v,rfl,hv,q⟩:=h;refine⟨_,(kq (o4 (PW.pt<|yb (oy<|qc<|mw ni rfl (B "isinstance"<|by decide) c7<|ku (pv 0)<|ku (qe (v:=.ty "tuple") rfl (B "tuple"<|by decide) iw rfl) km)<|ua<|m6 Ai (mw m5 rfl (B "len"<|by decide) b9<|ku (pv 0) km) k7<|mr _) (lg<|ls o9) mh)
  (lg<|ls<|qm (me Mx hr (by decide) rfl<|ku (m7 qw (pv 0) k7 λ_ _=>rfl) km)<|qm (me Av hr (by decide) rfl<|ku (m7 qw (pv 0) k7 λ_ _=>rfl) km)<|rm<|me At hr (by decide) rfl<|ku (m7 qw (pv 0) k7 λ_ _=>rfl) km)),?_⟩
 rcases DS (K:=K) hv.1 with ⟨a,xs,rfl,ha⟩|⟨⟨t,ty,kt⟩,_,oA⟩
 .obtain⟨pG,kn⟩:=hv.2 a xs rfl ha;refine(k9 _ rfl (.ref a) ("tuple") (.type "tuple") true ⟨rfl,.tup ha,rfl,true,rfl,tw ?_⟩);refine(vf _ rfl a xs rfl (.inr<|SqT.of ha) rfl _ ⟨rfl,?_⟩);by_cases h3:xs.length=3
  .match xs,h3,ha,kn with
   | [fl,k,p],_,ha,kn=>
    obtain⟨⟨T,hT⟩,kK,kP⟩:=kn fl k p rfl;have no:(flB T=false\/¬xM H k\/¬An H p)->¬nQ H (.ref a):=λhx ⟨a',f',k',p',e,dG,h1,h2,h3⟩=>by
     cases e;rw[ha]at dG;cases dG;rcases hx with hx|hx|hx
     .rw[(aih hT).mpr h1]at hx;cases hx
     .exact hx h2
     .exact hx h3
    refine tw ?_;refine(k9 _ rfl a _ _ _ ⟨rfl,rfl,SqT.of ha,rfl,(lv fl T ⟨rfl,hT,λH1 s1=>?_⟩)⟩);have uZ:=s1 _ _ ha;cases e1:flB T with
    | false=>exact⟨false,rfl,tw<|q false H1 s1<|qo<|no<|.inl e1⟩
    | true=>
     refine⟨true,rfl,oz ?_⟩;refine(k9 _ rfl a _ _ _ ⟨rfl,rfl,SqT.of uZ,rfl,k,rfl,kK.same s1,λb H2 s2 hb=>?_⟩);rw[aiv s1 kK]at hb;have dM:=s1.trans s2;cases b with
     | false=>exact⟨false,rfl,tw<|q false H2 dM<|qo<|no<|.inr<|.inl λh=>by cases hb.mpr h⟩
     | true=>
      refine⟨true,rfl,oz ?_⟩;refine(k9 _ rfl a _ _ _ ⟨rfl,rfl,SqT.of<|dM _ _ ha,rfl,p,rfl,kP.same dM,λb3 H3 s3 A0=>?_⟩);rw[ai8 dM kP]at A0;refine q b3 H3 (dM.trans s3) ?_;rw[A0];exact⟨λh=>(lr a fl k p ⟨rfl,ha,(aih hT).mp e1,hb.mp rfl,h⟩),λhk=>by obtain⟨a',f',k',p',e,dG,_,_,h⟩:=hk;cases e;rw[ha]at dG;cases dG;exact h⟩
  .refine qb (λ_=>?_) λh=>absurd (show(!decide (V.int ((xs.length:Nat):Int)=V.int ((3:Nat):Int)))=true by rw[K5 h3];rfl) h;refine q false H (Same.refl H)<|qo λhk=>?_;obtain⟨a',f',k',p',e,dG,_⟩:=hk;cases e;rw[ha]at dG;cases dG;exact h3 rfl
 .refine(k9 _ rfl v ("tuple") t false ⟨rfl,ty,kt,false,rfl,oz ?_⟩);refine oz<|q false H (Same.refl H)<|qo λhk=>?_;obtain⟨a',f',k',p',e,dG,_⟩:=hk;exact oA a' _ e dG
def Lk(H H':Hp):Prop:=∀b o,H b=some o->H' b=some o\/∃xs ys,o=.lst xs/\H' b=some (.lst ys)
theorem Lk.tup{H H':Hp}(l:Lk H H'){b:aF}{xs:Z9 V}(h:H b=some (.tup xs)):H' b=some (.tup xs):=by
 rcases l b _ h with h|⟨_,_,e,_⟩
 .exact h
 .cases e
def Lk.of_same{H H':Hp}(s:Same H H'):Lk H H':=λb o h=>.inl<|s b o h
def Lk.of_ex{H H':Hp}{st:aF}{n n':Z9 V}(e:Ex [st] H H')(h:H st=some (.lst n))(h':H' st=some (.lst n')):Lk H H':=λb o hb=>by
 by_cases q:b=st
 .subst q;rw[h]at hb;cases hb;exact .inr<|lv n n' ⟨rfl,h'⟩
 .exact .inl<|e.at q hb
theorem zh{n:Nat}{H:Hp}{z:Str}(h:Tx z):KnN n H (.str z):=by
 cases n with
 | zero=>exact .inr (.inr<|.inr<|.inl ⟨z,rfl,h⟩)
 | succ n=>exact⟨.inr<|.inr<|.inr<|.inl ⟨z,rfl,h⟩,λa xs e=>by cases e⟩
theorem FX{n:Nat}{H:Hp}(i:Int):KnN n H (.int i):=by
 cases n with
 | zero=>exact .inr (.inr<|.inl ⟨i,rfl⟩)
 | succ n=>exact⟨.inr<|.inr<|.inl ⟨i,rfl⟩,λa xs e=>by cases e⟩
theorem ate{n:Nat}{H:Hp}:KnN n H .non:=by
 cases n with
 | zero=>exact .inl rfl
 | succ n=>exact⟨.inl rfl,λa xs e=>by cases e⟩
def zj{n:Nat}{H:Hp}{a:aF}{xs:Z9 V}(ha:H a=some (.tup xs))(hl:xs.length<=60)(h:∀x∈xs,KnN n H x):KnN (n+1) H (.ref a):=
 ⟨.inr<|.inr<|.inr<|.inr ⟨a,rfl,.inr<|.inl ⟨xs,ha⟩⟩,λb ys e hb=>by cases e;rw[ha]at hb;cases hb;exact⟨hl,h⟩⟩
theorem ani{H:Hp}:∀{ds:Z9 Z8} {xs:Z9 V},RepAll H ds xs->(∀d∈ds,SgD d)->∀y∈xs,KnN 2 H y/\∃c,y=.ref c
 | [],xs,r,_,y,hy=>by cases (show xs=[]from r);cases hy
 | d::ds,xs,r,h,y,hy=>by
  obtain⟨x,ys,rfl,r1,r2⟩:=r;rcases ap.mp hy with rfl|hy
  .obtain⟨p,q,k,rfl,k1,k2⟩:=h d aj;obtain⟨a,xs,rfl,ha,v1,_,rfl,e1,v2,_,rfl,e2,v3,_,rfl,⟨e3,_⟩,e⟩:=r1;cases (show v1=.int p from e1);cases (show v2=.int q from e2);cases e3;cases e;refine⟨zj ha (by show 3<=60;lia) λz hz=>?_,_,rfl⟩;simp only[ap,cv,or_false]at hz;rcases hz with rfl|rfl|rfl
   .exact FX p
   .exact FX q
   .exact zh<|tx1<|by lia
  .exact ani r2 (λe he=>h e<|ak _ he) y hy
def Rw(sg:Str)(zs:Z9 Str):Prop:=0<zs.length/\zs.length<=8/\∃wd,0<wd/\wd<=8/\∀z∈zs,Tx z/\z.length=wd/\∀c∈z.cps.toList,c∈sg.cps.toList
def anj:Sp:=λvs H Q _=>∃(st:aF)(n:Z9 V)(sg:Str),vs=[.ref st,.int 4,.str sg]/\H st=some (.lst n)/\StL n/\Tx sg/\0<sg.length/\
 ∀(p:aF)(zs:Z9 Str)(H':Hp)(n':Z9 V),H p=none->Ex [st] H H'->H' st=some (.lst n')->StL n'->H' p=some (.tup<|zs.map V.str)->Rw sg zs->Q (.ref p) H'
def scFloor:lz ["_law_state_here","_law_most","_law_signs_here","_law_high","_law_wide","_law_rows","_law_row"] ZF (ll K8):={}
theorem apz(B:∀x∈ux,mg x=none)(aR:wx P w K mg base)(F:Fun K "_law_floor" "_law_floor" K8 f fd):FnOk P w K mg base CX0 2 f fd ZF anj:=by
 refine F.ok (k:=1) scFloor (λvs H Q E h=>?_) λbE A outer s H vs Q E hr h=>?_
 .obtain⟨st,n,sg,rfl,_⟩:=h;rfl
 obtain⟨st,n,sg,rfl,bD,hn,kJ,hsg0,q⟩:=h;refine⟨_,(kq (l4 (i:=3) scFloor.nd rfl (Or.inl rfl)<|ml qf k7<|me aR hr (by decide) rfl<|ku (pv 0)<|ku (pv 1) km)
  (kq (l4 (i:=4) scFloor.nd rfl (Or.inl rfl)<|ml qf k7<|me aR hr (by decide) rfl<|ku (pv 0)<|ku (pv 1) km)
  (kq (l4 (i:=5) scFloor.nd rfl (Or.inl rfl)<|l7 km)
  (kq (vn ge rfl (tV rfl (B "range"<|by decide)<|ku (pv 3) km) (li (i:=6) scFloor.nd rfl<|Or.inl rfl)<|lg<|sq<|qi dh ff fg qg (pv 5)<|ku (qi bp cw cx rn lc<|ku (nk Zz [none,some 2,some 0] rfl rfl (by decide +kernel) (by decide +kernel) rfl rfl (tV rfl (B "range"<|by decide)<|ku (pv 4) km) (λ_=>(li (i:=0) (show(Zz:Z9 PySem.Str).Nodup by decide +kernel) rfl<|Or.inl rfl)) (λ_=>ng) λ_=>(m7 Bq (pv 1) (me aR hr (by decide) rfl<|ku (pv 2)<|ku (mw nz rfl (B "len"<|by decide) b9<|ku (pv 1) km) km) λ_ _=>rfl)) km) km)
  (lg<|ls<|x9 oh rfl (B "tuple"<|by decide) iw<|ku (pv 5) km))))),?_⟩
 refine(mi _ rfl _ rfl st n 4 ⟨rfl,bD,hn,by decide,by decide,λn1 i1 fW tK Fh=>(lv _ _ ⟨rfl,rfl,?_⟩)⟩);have jV:upd H st (.lst n1) st=some (.lst n1):=k8;have pJ:Ex [st] H (upd H st<|.lst n1):=Ex.upd (by simp);generalize upd H st (.lst n1)=H1 at *;refine(mi _ rfl _ rfl st n1 4 ⟨rfl,jV,fW,by decide,by decide,λn2 i2 gU pH A2=>(lv _ _ ⟨rfl,rfl,?_⟩)⟩);have eV:upd H1 st (.lst n2) st=some (.lst n2):=k8;have oI:Ex [st] H (upd H1 st<|.lst n2):=pJ.trans (Ex.upd<|by simp);generalize upd H1 st (.lst n2)=H2 at *;refine⟨sZ0,λr kA=>?_⟩;have nr:r≠st:=λe=>by rw[e,eV]at kA;cases kA
 have E2:H r=none:=by
  cases z:H r with
  | none=>rfl
  | some o=>have z':=oI r o (by simpa using nr) z;rw[z']at kA;cases kA
 have iY:upd H2 r (.lst []) st=some (.lst n2):=by rw[lh (Ne.symm nr)];exact eV
 have r3:upd H2 r (.lst []) r=some (.lst []):=k8;have pI:Ex [st] H (upd H2 r<|.lst []):=oI.trans<|Ex.fresh kA;generalize upd H2 r (.lst [])=H3 at *;obtain⟨hi,rfl⟩:∃hi:Nat,i1=hi:=br tK;obtain⟨wi,rfl⟩:∃wi:Nat,i2=wi:=br pH;refine(mm _ rfl _ ⟨rfl,?_,?_,?_⟩)
 .lia
 .lia
 refine t7 (lo:=0) (λi σ' H'=>∃(y6:Option V)(n:Z9 V)(zs:Z9 Str),σ'=[some (.ref st),some<|.int 4,some<|.str sg,some<|.int<|1+hi,some<|.int<|1+wi,some<|.ref r,y6]/\Ex [st,r] H H'/\H' st=some (.lst n)/\StL n/\H' r=some (.lst<|zs.map V.str)/\zs.length=i/\∀z∈zs,Tx z/\z.length=1+wi/\∀c∈z.cps.toList,c∈sg.cps.toList) ?_ (λi σ' H' fH h=>?_) λσ' H' h=>?_
 .exact(mj _ n2 ([]) ⟨rfl,λb o hb h0=>pI b o (λz=>hb<|by simp[a6.mp z]) h0,iY,gU,r3,rfl,λz hz=>by cases hz⟩)
 .obtain⟨y6,n4,zs,rfl,oH,jU,lZ,r4,CI,HR⟩:=h;refine⟨_,rfl,.inl ⟨rfl,_,SqL.of r4⟩,rfl,?_⟩;refine(mm _ rfl _ ⟨rfl,?_,?_,?_⟩)
  .lia
  .lia
  intro D hD;have nD:D≠st:=λe=>by rw[e,jU]at hD;cases hD
  have nDr:D≠r:=λe=>by rw[e,r4]at hD;cases hD
  refine xl (lo:=0) (λj ys H5=>∃(n5:Z9 V)(ws:Z9 Str),Ex [st,D] H' H5/\H5 st=some (.lst n5)/\StL n5/\ys=ws.map V.str/\ws.length=j/\(∀w∈ws,w.length=1/\Tx w)/\∀w∈ws,∀c∈w.cps.toList,c∈sg.cps.toList) ?_ (λj ys H5 hj aN aY p=>?_) λys H5 aN aY p=>?_
  .exact(lv n4 ([]) ⟨Ex.fresh hD,by rw[lh (Ne.symm nD)];exact jU,lZ,rfl,rfl,(λw hw=>by cases hw),λw hw=>by cases hw⟩)
  .obtain⟨n5,ws,nK,fU,uT,rfl,CH,Ce,Ii⟩:=p;refine⟨Agree.set (Agree.refl _) rfl,?_⟩;dsimp only[wg];refine oz ?_;refine(v8 _ rfl _ rfl _ ⟨rfl,(ma sg rfl (uw kJ) st<|lv n5 _ ⟨rfl,fU,uT,by lia,by have:=kJ.1;lia,λn6 i6 oB pG h61=>?_⟩)⟩);obtain⟨j6,rfl⟩:=br pG;have E9:j6<sg.cps.toList.length:=by
    have:=iO sg;lia
   refine(mj sg _ (sg.cps.toList[j6]) ⟨rfl,rfl,uw kJ,my<|ae E9,?_⟩);refine oj (by lia) (by rw[lh nD];exact aN) aY<|lv n6 (ws++[⟨#[sg.cps.toList[j6]]⟩]) ⟨(nK.trans<|Ex.upd<|by simp).trans (Ex.upd<|by simp),?_,oB,by rw[ay];rfl,by simp[CH],λw hw=>?_,λw hw c hc=>?_⟩
   .rw[lh (Ne.symm nD)];exact k8
   .rcases bo.mp hw with h|h
    .exact Ce w h
    .rw[a6.mp h];refine⟨rfl,by show 1<=80;lia,λc hc=>?_⟩;have e:c=sg.cps.toList[j6]:=by simpa using hc
     rw[e];exact kJ.2 _<|fz E9
   .rcases bo.mp hw with h|h
    .exact Ii w h c hc
    .rw[a6.mp h]at hc;have e:c=sg.cps.toList[j6]:=by simpa using hc
     rw[e];exact fz E9
  .obtain⟨n5,ws,nK,fU,uT,rfl,CH,Ce,Ii⟩:=p;have iT:=dn (B:=1) ws λy hy=>Nat.le_of_eq (Ce y hy).1;obtain⟨tj,lj⟩:=Tx.join (g:=aa "") (by decide +kernel) (λy hy=>(Ce y hy).1) (λy hy=>(Ce y hy).2) (by lia);have e0:(aa "").length=0:=by decide +kernel
   refine(mj _ D ws ⟨rfl,rfl,aN,by rw[e0];lia,?_⟩);have r5:H5 r=some (.lst<|zs.map V.str):=nK _ _ (by simp[nr,Ne.symm nDr]) r4;refine(mj r (zs.map V.str) _ ⟨rfl,rfl,r5,lu<|by rw[af];lia,?_⟩);refine(mj _ n5 (zs++[j8 (aa "") ws]) ⟨rfl,?_,?_,uT,?_,by simp[CI],λz hz=>?_⟩)
   .intro b o hb h0;have h1:=oH b o hb h0;have nb:b≠D:=λe=>by rw[e,hD]at h1;cases h1
    have dH:b≠st/\b≠r:=by simpa using hb
    have h2:=nK b o (by simp[dH.1,nb]) h1;rw[lh dH.2];exact h2
   .rw[lh (Ne.symm nr)];exact fU
   .rw[ay];exact k8
   .rcases bo.mp hz with h|h
    .exact HR z h
    .rw[a6.mp h];refine⟨tj,by lia,λc hc=>?_⟩;rw[um (by decide +kernel)]at hc;obtain⟨l,hl,jP⟩:=List.mem_flatten.mp hc;obtain⟨w,hw,rfl⟩:=a7.mp hl;exact Ii w hw c jP
 .obtain⟨y6,n4,zs,rfl,oH,jU,lZ,r4,CI,HR⟩:=h;refine(m8 _ rfl r (zs.map V.str) ⟨rfl,.inl ⟨SqL.of r4,λp hp=>?_⟩⟩);have np:p≠st:=λe=>by rw[e,jU]at hp;cases hp
  have npr:p≠r:=λe=>by rw[e,r4]at hp;cases hp
  refine q p zs _ n4 ?_ ?_ ?_ lZ k8 ⟨by lia,by lia,1+wi,by lia,by lia,HR⟩
  .cases z:H p with
   | none=>rfl
   | some o=>have z':=oH p o (by simp[np,npr]) z;rw[z']at hp;cases hp
  .intro b o hb h0;have nb:b≠r:=λe=>by rw[e,E2]at h0;cases h0
   have oT:b≠st:=by simpa using hb
   have h1:=oH b o (by simp[nb,oT]) h0;rw[lh (mq h1 hp)];exact h1
  .rw[lh (Ne.symm np)];exact jU
def txL{z:Str}(h:z.length<=80/\z.cps.toList.all (· < 128)=true):Tx z:=⟨h.1,λc hc=>by simpa using bq.mp h.2 c hc⟩
def tU{H:Hp}{st p:aF}{o:HO}(bD:H st=some o)(hp:H p=none):p≠st:=λe=>by rw[e,bD]at hp;cases hp
def wu{H:Hp}{st p:aF}{n n':Z9 V}{o:HO}(bD:H st=some (.lst n))(hp:H p=none) :
  (upd (upd H p o) st<|.lst n') p=some o/\Ex [st] H (upd (upd H p o) st<|.lst n')/\(upd (upd H p o) st<|.lst n') st=some (.lst n'):=
 ⟨by rw[lh (tU bD hp)];exact k8,(Ex.fresh hp).trans (Ex.upd<|by simp),k8⟩
def zo{H:Hp}{st p:aF}{n:Z9 V}{o:HO}(bD:H st=some (.lst n))(hp:H p=none):upd H p o st=some (.lst n):=by rw[lh (Ne.symm<|tU bD hp)];exact bD
def KdV(z:Str)(d:Z8):Prop:=∃(l:Int)(m:Z8)(md:Str)(es:Z9 Z8),d=.tuple [.str z,.int l,m,.str md,.tuple es]/\0<=l/\l<=64/\(m=.none\/∃j,m=.int j/\l<=j/\j<=64)/\tR md=true/\Frm es
def akv{es:Z9 Z8}(h:Frm es):imm (.tuple es)=true:=Spots.imm h.1.pre.spots
def Bi{st:aF}{H H':Hp}{n:Z9 V}(e:Ex [st] H H')(h:H st=some (.lst n)):Tk H H':=e.tk λb hb=>by rw[a6.mp hb];exact⟨_,h⟩
def ame:Sp:=λvs H Q _=>∃(st:aF)(n:Z9 V)(z:Str),vs=[.ref st,.str z,.int 6]/\H st=some (.lst n)/\StL n/\Tx z/\z.length<=8/\∀(p:aF)(H':Hp)(n':Z9 V)(d:Z8),Ex [st] H H'->H' st=some (.lst n')->StL n'->KdV z d->Rep H' d (.ref p)->Q (.ref p) H'
def scLkind:lz ["_law_state_here","_law_name","_law_most","_law_form","_law_least","_law_top"] ZE (ll Lm):={}
def aog(B:∀x∈ux,mg x=none)(aR:wx P w K mg base)(Ed:Fn P w K mg base "_law_drawn_form" 3 ZY aj1)
  (F:Fun K "_law_kind" "_law_kind" Lm f fd):FnOk P w K mg base CX0 4 f fd ZE ame:=by
 refine F.ok (k:=3) scLkind (λvs H Q E h=>?_) λbE A outer s H vs Q E hr h=>?_
 .obtain⟨st,n,z,rfl,_⟩:=h;rfl
 obtain⟨st,n,z,rfl,bD,hn,hz,hz8,q⟩:=h;refine⟨_,(kq (l4 (i:=3) scLkind.nd rfl (Or.inl rfl)<|me Ed hr (by decide) rfl<|ku (pv 0)<|ku (pv 2) km)
  (kq (l4 (i:=4) scLkind.nd rfl (Or.inl rfl)<|m7 nh (l7<|ku k7<|ku k7<|ku k7<|ku k7<|ku k7 km) (me aR hr (by decide) rfl<|ku (pv 0)<|ku k7 km) λ_ _=>rfl)
  (kq (l4 (i:=5) scLkind.nd rfl (Or.inl rfl)<|m7 nh (l7<|ku DP<|ku (pv 4)<|ku (mw (aea rfl) rfl (B "min"<|by decide) gD<|ku k7<|ku (ml qf (pv 4)<|me aR hr (by decide) rfl<|ku (pv 0)<|ku k7 km) km)<|ku k7 km) (me aR hr (by decide) rfl<|ku (pv 0)<|ku k7 km) λ_ _=>rfl)
  (lg<|ls<|qd<|ku (pv 1)<|ku (pv 4)<|ku (pv 5)<|ku (m7 nh (l7<|ku lc<|ku lc<|ku lc km) (me aR hr (by decide) rfl<|ku (pv 0)<|ku k7 km) λ_ _=>rfl)<|ku (pv 3) km)))),?_⟩
 refine(uk _ rfl _ rfl st n ⟨rfl,bD,hn,λr H1 n1 ds pJ jV fW zr yJ=>?_⟩);have fr:=Frm.of zr;have im:=akv fr;generalize qp ds=es at *;refine⟨sZ5,λp hp=>?_⟩;refine(nv _ rfl st n1 5 ⟨rfl,zo jV hp,fW,by decide,by decide,λn2 i2 gU pH h25=>?_⟩);obtain⟨x,hx,hm⟩:=Ag (α:=V) (xs:=[V.int 0,V.int 0,V.int 1,V.int 2,V.int 64]) pH h25;have hs:∃l,x=.int l/\0<=l/\l<=64:=by simp only[ap,cv,or_false]at hm;rcases hm with rfl|rfl|rfl|rfl|rfl<;>exact⟨_,rfl,by decide,by decide⟩
 obtain⟨l,rfl,l0,l64⟩:=hs;obtain⟨qO,oI,eV⟩:=wu (o:=.lst [V.int 0,V.int 0,V.int 1,V.int 2,V.int 64]) (n':=n2) jV hp;refine(lr p _ i2 _ ⟨rfl,rfl,SqL.of qO,hx,?_⟩);have Aa:=pJ.trans oI;have nV:=yJ.tk (Bi oI jV) im;generalize upd (upd H1 p _) st _=H2 at *;refine(xj _ rfl _ rfl _ rfl st n2 ⟨9,rfl,eV,gU,by decide,by decide,λn3 i3 gO Fg h39=>(ao3 _ _ rfl rfl _ _ ⟨rfl,sZ4,λp3 nY=>?_⟩)⟩);have iY:upd H2 st (.lst n3) st=some (.lst n3):=k8;have pI:Ex [st] H2 (upd H2 st<|.lst n3):=Ex.upd (by simp);have zZ:=Aa.trans pI;have fD:=nV.tk (Bi pI eV) im;generalize upd H2 st _=H3 at *;refine(nv _ rfl st n3 4 ⟨rfl,zo iY nY,gO,by decide,by decide,λn4 i4 lZ xA h44=>?_⟩);obtain⟨m,hm4,hmm⟩:=Ag (α:=V) (xs:=[V.non,V.int l,V.int (if l+i3<64 then l+i3 else 64),V.int 64]) xA h44;have hmt:∃mD:Z8,(mD=.none\/∃j,mD=.int j/\l<=j/\j<=64)/\∀H,Rep H mD m:=by
  simp only[ap,cv,or_false]at hmm;rcases hmm with rfl|rfl|rfl|rfl
  .exact⟨.none,.inl rfl,λ_=>rfl⟩
  .exact⟨.int l,.inr ⟨_,rfl,by lia,by lia⟩,λ_=>rfl⟩
  .exact⟨.int _,.inr ⟨_,rfl,by split<;>lia,by split<;>lia⟩,λ_=>rfl⟩
  .exact⟨.int 64,.inr ⟨_,rfl,by lia,by lia⟩,λ_=>rfl⟩
 obtain⟨mD,hmD,hmR⟩:=hmt;obtain⟨AU,oH,jU⟩:=wu (o:=.lst [V.non,V.int l,V.int (if l+i3<64 then l+i3 else 64),V.int 64]) (n':=n4) iY nY;refine(lr p3 _ i4 _ ⟨rfl,rfl,SqL.of AU,hm4,?_⟩);have zY:=zZ.trans oH;have yI:=fD.tk (Bi oH iY) im;generalize upd (upd H3 p3 _) st _=H4 at *;refine(v8 _ rfl _ rfl _ ⟨rfl,sZ3,λp5 hp5=>?_⟩);refine(nv _ rfl st n4 3 ⟨rfl,zo jU hp5,lZ,by decide,by decide,λn5 i5 uT h50 h53=>?_⟩);obtain⟨mo,IK,CA⟩:=Ag (α:=V) (xs:=[V.str "still",V.str "turn",V.str "flip"]) h50 h53;have IJ:∃y,mo=.str y/\Tx y/\tR y=true:=by simp only[ap,cv,or_false]at CA;rcases CA with rfl|rfl|rfl<;>exact⟨_,rfl,txL<|by decide +kernel,by decide +kernel⟩
 obtain⟨y,rfl,hy,hy1⟩:=IJ;obtain⟨hp6,nK,fU⟩:=wu (o:=.lst [V.str "still",V.str "turn",V.str "flip"]) (n':=n5) jU hp5;refine(lr p5 _ i5 _ ⟨rfl,rfl,SqL.of hp6,IK,?_⟩);have rO:=zY.trans nK;have iS:=yI.tk (Bi nK jU) im;generalize upd (upd H4 p5 _) st _=H5 at *;refine⟨_,rfl,sZ5,λt ht=>?_⟩;have s6:Same H5 (upd H5 t<|.tup [.str z,.int l,m,.str y,.ref r]):=Same.fresh _ ht;refine q t _ n5 _ (rO.trans<|Ex.of_same s6) (s6 _ _ fU) uT (lr l mD y es ⟨rfl,l0,l64,hmD,hy1,fr⟩) ?_;exact(oq t _ rfl k8 _ _ rfl ⟨rfl,hz.ok⟩ _<|ma _ rfl rfl _<|ma _ rfl (hmR _) _<|ma _ rfl ⟨rfl,hy.ok⟩ _ ⟨_,rfl,iS.same s6,rfl⟩)
noncomputable def prD(x y:Nat):Z8:=.tuple [.str ⟨#[x]⟩,.str ⟨#[y]⟩]
theorem K1:∀{ds:Z9 Z8},(∀d∈ds,PrD d)->qu ds=true
 | [],_=>rfl
 | d::ds,h=>by obtain⟨x,y,rfl,_⟩:=h d aj;show(imm _&&qu ds)=true;rw[K1 λe he=>h e<|ak _ he];rfl
def aq0{H:Hp}{t:aF}{x y:Nat}(ht:H t=some (.tup [.str ⟨#[x]⟩,.str ⟨#[y]⟩]))(hx:x<128)(hy:y<128):Rep H (prD x y) (.ref t):=
 (oq t _ rfl ht _ _ rfl ⟨rfl,(tx1 hx).ok⟩ _ ⟨_,rfl,⟨rfl,(tx1 hy).ok⟩,rfl⟩)
def PrS(ds:Z9 Z8):Prop:=(∀d∈ds,PrD d)/\ds.Pairwise (λx y=>prN x<prN y)/\ds.length<=3
def ahw:Sp:=λvs H Q _=>∃(st:aF)(n:Z9 V),vs=[.ref st]/\H st=some (.lst n)/\StL n/\∀(p:aF)(H':Hp)(n':Z9 V)(ds:Z9 Z8),Ex [st] H H'->H' st=some (.lst n')->StL n'->PrS ds->Rep H' (.tuple ds) (.ref p)->Q (.ref p) H'
def scLpairs:lz ["_law_state_here","_law_some","_law_k","_law_one","_law_other"] Z5 (ll Lu):={}
def akf(B:∀x∈ux,mg x=none)(aR:wx P w K mg base)
  (F:Fun K "_law_pairs" "_law_pairs" Lu f fd):FnOk P w K mg base CX0 2 f fd Z5 ahw:=by
 refine F.ok (k:=1) scLpairs (λvs H Q E h=>?_) λbE A outer s H vs Q E hr h=>?_
 .obtain⟨st,n,rfl,_⟩:=h;rfl
 obtain⟨st,n,rfl,bD,hn,q⟩:=h;have hu:=hr.units;refine⟨_,(kq (l4 (i:=1) scLpairs.nd rfl (Or.inl rfl)<|l7 km)
  (kq (vn ge rfl (tV rfl (B "range"<|by decide)<|ku (me aR hr (by decide) rfl<|ku (pv 0)<|ku k7 km) km) (li (i:=2) scLpairs.nd rfl<|Or.inl rfl) (kq (l4 (i:=3) scLpairs.nd rfl (Or.inl rfl)<|m7 Bq lc (me aR hr (by decide) rfl<|ku (pv 0)<|ku k7 km) λ_ _=>rfl)
  (kq (l4 (i:=4) scLpairs.nd rfl (Or.inl rfl)<|m7 Bq lc (me aR hr (by decide) rfl<|ku (pv 0)<|ku k7 km) λ_ _=>rfl)
  (lg<|o4 (m6 (yk hu) (qd<|ku (mw (ach rfl) rfl (B "min"<|by decide) gD<|ku (pv 3)<|ku (pv 4) km)<|ku (mw (acq rfl) rfl (B "max"<|by decide) nM<|ku (pv 3)<|ku (pv 4) km) km) (pv 1) rfl) (lg<|sq<|qi dh ff fg qg (pv 1)<|ku (qd<|ku (mw (ach rfl) rfl (B "min"<|by decide) gD<|ku (pv 3)<|ku (pv 4) km)<|ku (mw (acq rfl) rfl (B "max"<|by decide) nM<|ku (pv 3)<|ku (pv 4) km) km) km) mh))))
  (lg<|ls<|x9 oh rfl (B "tuple"<|by decide) iw<|ku (mw afo rfl (B "sorted"<|by decide) kT<|ku (pv 1) km) km))),?_⟩
 refine⟨sZ0,λr kA=>?_⟩;have nr:=tU bD kA;refine(nv _ rfl st n 4 ⟨rfl,zo bD kA,hn,by decide,by decide,λn1 i1 fW tK h14=>⟨_,rfl,by lia,by lia,?_⟩⟩);obtain⟨r1,pJ,jV⟩:=wu (o:=.lst []) (n':=n1) bD kA;generalize upd (upd H r<|.lst []) st (.lst n1)=H1 at *;have qC:∀i:Int,0<=i->i<5->∃c:Nat,atI (aa "ABQYZ").cps.toList i=some c/\65<=c/\c<=90:=λi h0 h5=>by obtain⟨c,hc,hm⟩:=Ag (α:=Nat) (xs:=(aa "ABQYZ").cps.toList) h0 (by show i<5;exact h5);exact⟨c,hc,(show ∀c∈(aa "ABQYZ").cps.toList,65<=c/\c<=90 by decide +kernel) c hm⟩
 have dE:(aa "ABQYZ").length<=aC:=uw (txL<|by decide +kernel);refine t7 (lo:=0) (λi σ' H'=>∃(y2 y3 y4:Option V)(n:Z9 V)(ds:Z9 Z8)(ys:Z9 V),σ'=[some (.ref st),some<|.ref r,y2,y3,y4]/\Ex [st,r] H1 H'/\H' st=some (.lst n)/\StL n/\H' r=some (.lst ys)/\RepAll H' ds ys/\(∀d∈ds,PrD d)/\ds.Nodup/\ds.length<=i) ?_ (λi σ' H' fH h=>?_) λσ' H' h=>?_
 .exact(nj _ _ _ n1 ([]) ⟨[],rfl,Ex.refl _ _,jV,fW,r1,rfl,(λd hd=>by cases hd),List.nodup_nil,av _⟩)
 .obtain⟨y2,y3,y4,n2,ds,ys,rfl,oI,eV,gU,r2,nV,AO,EO,fK⟩:=h;have im2:=K1 AO;have hly:=nV.length;refine(nv _ rfl st n2 5 ⟨rfl,eV,gU,by decide,by decide,λn3 i3 gO Fg h35=>?_⟩);obtain⟨c3,hc3,t3⟩:=qC i3 Fg h35;refine(mj _ _ c3 ⟨rfl,rfl,dE,hc3,?_⟩);have iY:upd H' st (.lst n3) st=some (.lst n3):=k8;have r3:upd H' st (.lst n3) r=some (.lst ys):=by rw[lh nr];exact r2
  have fD:RepAll (upd H' st<|.lst n3) ds ys:=nV.tk (Tk.lst eV) im2;have pI:Ex [st,r] H1 (upd H' st<|.lst n3):=oI.trans (Ex.upd<|by simp);generalize upd H' st (.lst n3)=H3 at *;refine(nv _ rfl st n3 5 ⟨rfl,iY,gO,by decide,by decide,λn4 i4 lZ xA h45=>?_⟩);obtain⟨c4,hc4,t4⟩:=qC i4 xA h45;refine(mj _ _ c4 ⟨rfl,rfl,dE,hc4,?_⟩);have jU:upd H3 st (.lst n4) st=some (.lst n4):=k8;have r4:upd H3 st (.lst n4) r=some (.lst ys):=by rw[lh nr];exact r3
  have yI:RepAll (upd H3 st<|.lst n4) ds ys:=fD.tk (Tk.lst iY) im2;have oH:Ex [st,r] H1 (upd H3 st<|.lst n4):=pI.trans (Ex.upd<|by simp);generalize upd H3 st (.lst n4)=H4 at *;have x1:lB c3 c4<128:=by lia
  have x2:wA c3 c4<128:=by lia
  have prd:PrD (prD (lB c3 c4)<|wA c3 c4):=(lv _ _ ⟨rfl,by lia,by lia,by lia⟩);refine(uk _ rfl _ rfl c3 c4 ⟨rfl,(uk _ rfl _ rfl c3 c4 ⟨rfl,sZ2,λt ht=>?_⟩)⟩);have s5:Same H4 (upd H4 t<|.tup [.str ⟨#[lB c3 c4]⟩,.str ⟨#[wA c3 c4]⟩]):=Same.fresh _ ht;have Ey:=aq0 (H:=upd H4 t<|.tup [.str ⟨#[lB c3 c4]⟩,.str ⟨#[wA c3 c4]⟩]) k8 x1 x2;have fU:=s5 _ _ jU;have r5:=s5 _ _ r4;have iS:=yI.same s5;have nK:=oH.trans<|Ex.of_same (W:=[st,r]) s5;generalize upd H4 t (.tup [.str ⟨#[lB c3 c4]⟩,.str ⟨#[wA c3 c4]⟩])=H5 at *;refine(k9 _ rfl (prD (lB c3 c4)<|wA c3 c4) r ys ds ⟨Ey,rfl,.inl r5,iS,by simp[prD,fh,bg],_,rfl,?_⟩);refine qb (λhni=>?_) λ_=>?_
  .have hnm:prD (lB c3 c4) (wA c3 c4)∉ds:=λhm=>by
    have Js:(ds.any λe=>c8 e<|prD (lB c3 c4)<|wA c3 c4)=true:=List.any_eq_true.mpr ⟨_,hm,SeqAt.eqv_refl _ Ey.lay⟩;simp[Js]at hni
   refine(ma _ rfl (.inl ⟨rfl,_,SqL.of r5⟩) _ ⟨rfl,(m8 _ rfl c3 c4 ⟨rfl,(uk _ rfl _ rfl c3 c4 ⟨rfl,sZ2,λt2 HZ=>?_⟩)⟩)⟩);have s6:Same H5 (upd H5 t2<|.tup [.str ⟨#[lB c3 c4]⟩,.str ⟨#[wA c3 c4]⟩]):=Same.fresh _ HZ;have rp6:=aq0 (H:=upd H5 t2<|.tup [.str ⟨#[lB c3 c4]⟩,.str ⟨#[wA c3 c4]⟩]) k8 x1 x2;have kZ:=s6 _ _ fU;have r6:=s6 _ _ r5;have gK:=iS.same s6;have tL:=nK.trans<|Ex.of_same (W:=[st,r]) s6;generalize upd H5 t2 (.tup [.str ⟨#[lB c3 c4]⟩,.str ⟨#[wA c3 c4]⟩])=H6 at *;refine(mj r ys (.ref t2) ⟨rfl,rfl,r6,lu<|by lia,?_⟩);have pp7:∀d∈ds++[prD (lB c3 c4) (wA c3 c4)],PrD d:=λd hd=>by
    rcases bo.mp hd with h|h
    .exact AO d h
    .rw[a6.mp h];exact prd
   exact⟨_,_,_,n4,ds++[prD (lB c3 c4) (wA c3 c4)],ys++[.ref t2],rfl,tL.trans<|Ex.upd<|by simp,by rw[lh (Ne.symm nr)];exact kZ,lZ,k8,(gK.snoc rp6).tk (Tk.lst r6) (K1 pp7),pp7,
    List.nodup_append.mpr ⟨EO,by simp,λa ha b hb e=>by rw[a6.mp hb]at e;exact hnm<|e▸ha⟩,by rw[a9,cu];lia⟩
  .exact(nj _ _ _ n4 ds ⟨ys,rfl,nK,fU,lZ,r5,iS,AO,EO,by lia⟩)
 .obtain⟨y2,y3,y4,n2,ds,ys,rfl,oI,eV,gU,r2,nV,AO,EO,fK⟩:=h;refine(k9 _ rfl r ys ds ([false]) ⟨rfl,r2,nV,aks AO,by lia,λl zs es hl perm up Ha=>(lv l zs ⟨rfl,.inl ⟨SqL.of k8,λl2 zH=>?_⟩⟩)⟩);have s3:Same H' (upd H' l<|.lst zs):=Same.fresh _ hl;have s4:Same (upd H' l<|.lst zs) (upd (upd H' l<|.lst zs) l2<|.tup zs):=Same.fresh _ zH;have yA:=s3.trans s4;have BO:∀d∈es,PrD d:=λd hd=>AO d<|perm.mem_iff.mp hd;have pE:=perm.length_eq;have ndE:es.Nodup:=perm.nodup_iff.mpr EO;refine q l2 _ n2 es ?_ (yA _ _ eV) gU ⟨BO,?_,by lia⟩<|lv l2 zs ⟨rfl,k8,Ha.same s4⟩
  .intro b o hb h0;have nb:b≠r:=mq h0 kA;have oT:b≠st:=by simpa using hb
   exact yA _ _<|oI b o (by simp[nb,oT])<|pJ b o hb h0
  .refine ie (λ{a b} ha hb kS=>?_)<|List.pairwise_and_iff.mpr ⟨up,ndE⟩;have h1:=kS.1;rw[aq7 (BO b hb) (BO a ha)]at h1;have h2:=of_decide_eq_false h1;have h3:prN a≠prN b:=λe=>kS.2<|alg (BO a ha) (BO b hb) e;lia
def NmV(z:Str):Prop:=Tx z/\pM (.str z)=true
def awa{z:Str}(t:Tx z)(h1:1<=z.length)(h8:z.length<=8)(h:∀c∈z.cps.toList,smB c=true):NmV z:=⟨t,by
 show(decide (1<=z.length)&&decide (z.length<=8)&&z.cps.toList.all smB)=true;rw[decide_eq_true h1,decide_eq_true h8,bq.mpr h];rfl⟩
def acm{α:Type}{zs:Z9 Str}{mk:Str->α}{val:Nat->α}(hl:zs.length=6)(h:∀(k:Nat)(z:Str),zs[k]?=some z->mk z=val k)(inj:∀i j,i<6->j<6->val i=val j->i=j):zs.Nodup:=by refine gw.mpr λi j hi hj gW e=>?_;have h1:=h i _<|ae hi;have h2:=h j _<|ae hj;rw[e,h2]at h1;have:=inj j i (by lia) (by lia) h1;lia
def a1l:∀n,n<26->(aa "abcdefghijklmnopqrstuvwxyz").cps.toList[n]?=some (97+n):=by decide +kernel
def arw{e:Int}(h0:0<=e)(h1:e<26):atI (aa "abcdefghijklmnopqrstuvwxyz").cps.toList e=some (97+e.toNat):=by obtain⟨n,rfl⟩:=br h0;exact my<|by rw[a1l n (by lia)];rfl
def ah0(wd:Str)(c:Nat):(wd++(⟨#[c]⟩:Str)).cps.toList=wd.cps.toList++[c]:=by show(wd.cps ++ #[c]).toList=_;simp
def ao4{b s:Int}(h0:0<=s)(h5:s<5){i j:Nat}(hi:i<6)(hj:j<6)(e:97+((b+(1+s)*(i:Int)) % 26).toNat=97+((b+(1+s)*(j:Int)) % 26).toNat):i=j:=by
 have hs:s=0\/s=1\/s=2\/s=3\/s=4:=by lia
 rcases hs with rfl|rfl|rfl|rfl|rfl<;>lia
def ah2:Sp:=λvs H Q _=>∃(st:aF)(n:Z9 V),vs=[.ref st]/\H st=some (.lst n)/\StL n/\∀(p:aF)(zs:Z9 Str)(H':Hp)(n':Z9 V),H p=none->Ex [st] H H'->H' st=some (.lst n')->StL n'->H' p=some (.lst<|zs.map V.str)->zs.length=6->(∀z∈zs,NmV z)->zs.Nodup->Q (.ref p) H'
def scLnames:lz ["_law_state_here","_law_letters","_law_size","_law_base","_law_spot","_law_step","_law_names_here","_law_k","_law_word_here","_law_place","_law_shift"] Z5 (ll LA):={}
theorem aj5(B:∀x∈ux,mg x=none)(aR:wx P w K mg base)
  (F:Fun K "_law_names" "_law_names" LA f fd):FnOk P w K mg base CX0 2 f fd Z5 ah2:=by
 refine F.ok (k:=1) scLnames (λvs H Q E h=>?_) λbE A outer s H vs Q E hr h=>?_
 .obtain⟨st,n,rfl,_⟩:=h;rfl
 obtain⟨st,n,rfl,bD,hn,q⟩:=h;refine⟨_,(kq (l4 (i:=1) scLnames.nd rfl (Or.inl rfl) lc)
  (kq (l4 (i:=2) scLnames.nd rfl (Or.inl rfl)<|ml qf k7<|me aR hr (by decide) rfl<|ku (pv 0)<|ku k7 km)
  (kq (vx (i:=3) ZL [none,some 0] scLnames.nd rfl (Or.inl rfl) rfl rfl rfl (by decide +kernel) (by decide +kernel) rfl rfl (tV rfl (B "range"<|by decide)<|ku (pv 2) km) (λ_=>(li (i:=0) (show(ZL:Z9 PySem.Str).Nodup by decide +kernel) rfl<|Or.inl rfl)) (λ_=>ng) λ_=>(me aR hr (by decide) rfl<|ku (pv 1)<|ku k7 km))
  (kq (l4 (i:=4) scLnames.nd rfl (Or.inl rfl)<|me aR hr (by decide) rfl<|ku (pv 0)<|ku (pv 2) km)
  (kq (l4 (i:=5) scLnames.nd rfl (Or.inl rfl)<|ml qf k7<|me aR hr (by decide) rfl<|ku (pv 0)<|ku k7 km)
  (kq (l4 (i:=6) scLnames.nd rfl (Or.inl rfl)<|l7 km)
  (kq (vn ge rfl (tV rfl (B "range"<|by decide)<|ku k7 km) (li (i:=7) scLnames.nd rfl<|Or.inl rfl) (kq (l4 (i:=8) scLnames.nd rfl (Or.inl rfl) lc)
  (kq (vn ge rfl (tV rfl (B "range"<|by decide)<|ku (pv 2) km) (li (i:=9) scLnames.nd rfl<|Or.inl rfl) (kq (l4 (i:=10) scLnames.nd rfl (Or.inl rfl)<|ml DR (ml DR (pv 5)<|pv 7)<|x9 amg rfl (B "int"<|by decide) PyProof.Rows.boot_int<|ku (ou sd (pv 9) (pv 4)<|mr _) km)
  (lg<|l4 (i:=8) scLnames.nd rfl (Or.inl rfl)<|ml rq (pv 8)<|m7 Bq (pv 1) (ml Bt (ml qf (m7 nh (pv 3) (pv 9) λ_ _=>rfl)<|pv 10) k7) λ_ _=>rfl)))
  (lg<|sq<|qi dh ff fg qg (pv 6)<|ku (pv 8) km))))
  (kq (o4 (m6 sd (me aR hr (by decide) rfl<|ku (pv 0)<|ku k7 km) k7<|mr _) (lg<|vx (i:=6) ["_law_k"] [none] scLnames.nd rfl (Or.inl rfl) rfl rfl rfl (by decide +kernel) (by decide +kernel) rfl rfl (tV rfl (B "range"<|by decide)<|ku k7 km) (λ_=>(li (i:=0) (show(["_law_k"]:Z9 PySem.Str).Nodup by decide +kernel) rfl<|Or.inl rfl)) (λ_=>ng) λ_=>(ml auk lc<|ml qf (pv 0) k7)) mh)
  (lg<|ls<|pv 6))))))))),?_⟩
 refine(nv _ rfl st n 8 ⟨rfl,bD,hn,by decide,by decide,λn1 i1 fW tK h18=>(lv _ _ ⟨rfl,rfl,?_⟩)⟩);have jV:upd H st (.lst n1) st=some (.lst n1):=k8;have pJ:Ex [st] H (upd H st<|.lst n1):=Ex.upd (by simp);generalize upd H st (.lst n1)=H1 at *;obtain⟨si,rfl⟩:∃si:Nat,i1=si:=br tK;refine(mm _ rfl _ ⟨rfl,by lia,by lia,?_⟩);intro D hD;have nD:=tU jV hD;refine xl (lo:=0) (λj ys H5=>∃(n5:Z9 V)(ks:Z9 Int),Ex [st,D] H1 H5/\H5 st=some (.lst n5)/\StL n5/\ys=ks.map V.int/\ks.length=j) ?_ (λj ys H5 hj aN aY p=>?_) λys H5 aN aY p=>?_
 .exact(lv n1 ([]) ⟨Ex.fresh hD,by rw[lh (Ne.symm nD)];exact jV,fW,rfl,rfl⟩)
 .obtain⟨n5,ks,nK,fU,uT,rfl,CH⟩:=p;refine⟨Agree.set (Agree.refl _) rfl,?_⟩;dsimp only[wg];refine oz ?_;refine(nv _ rfl st n5 26 ⟨rfl,fU,uT,by decide,by decide,λn6 i6 oB pG h61=>?_⟩);refine oj (by lia) (by rw[lh nD];exact aN) aY<|lv n6 (ks++[i6]) ⟨(nK.trans<|Ex.upd<|by simp).trans (Ex.upd<|by simp),?_,oB,by rw[ay];rfl,by simp[CH]⟩;rw[lh (Ne.symm nD)];exact k8
 obtain⟨n5,ks,nK,fU,uT,rfl,CH⟩:=p;have rO:Ex [st] H H5:=λb o hb h0=>by
  have h1:=pJ b o hb h0;have nb:b≠D:=mq h1 hD;have oT:b≠st:=by simpa using hb
  exact nK b o (by simp[nb,oT]) h1
 refine(mi _ rfl _ rfl st n5 _ ⟨rfl,fU,uT,by lia,by lia,λn6 i6 oB pG h61=>?_⟩);have kZ:upd H5 st (.lst n6) st=some (.lst n6):=k8;have tL:Ex [st] H (upd H5 st<|.lst n6):=rO.trans (Ex.upd<|by simp);have Ff:upd H5 st (.lst n6) D=some (.lst<|ks.map V.int):=by rw[lh nD];exact aN
 generalize upd H5 st (.lst n6)=H6 at *;refine(nv _ rfl st n6 5 ⟨rfl,kZ,oB,by decide,by decide,λn7 i7 wK JC h71=>(lv _ _ ⟨rfl,rfl,?_⟩)⟩);have iE:upd H6 st (.lst n7) st=some (.lst n7):=k8;have xB:Ex [st] H (upd H6 st<|.lst n7):=tL.trans (Ex.upd<|by simp);have De:upd H6 st (.lst n7) D=some (.lst<|ks.map V.int):=by rw[lh nD];exact Ff
 generalize upd H6 st (.lst n7)=H7 at *;refine⟨sZ0,λr kA=>?_⟩;have nr:=tU iE kA;have nrD:r≠D:=λe=>by rw[e,De]at kA;cases kA
 have E2:H r=none:=by
  cases z:H r with
  | none=>rfl
  | some o=>have z':=xB r o (by simpa using nr) z;rw[z']at kA;cases kA
 have Em:=zo (o:=.lst []) iE kA;have r8:upd H7 r (.lst []) r=some (.lst []):=k8;have hD8:upd H7 r (.lst []) D=some (.lst<|ks.map V.int):=by rw[lh (Ne.symm nrD)];exact De
 have Dm:Ex [st] H (upd H7 r<|.lst []):=xB.trans<|Ex.fresh kA;generalize upd H7 r (.lst [])=H8 at *;obtain⟨sp,rfl⟩:=br pG;have fP:sp<ks.length:=by lia
 obtain⟨b,hb⟩:∃b,ks[sp]?=some b:=⟨_,ae fP⟩;refine⟨_,rfl,by decide,by decide,?_⟩;refine t7 (lo:=0) (λi σ' H'=>∃(y7 y8 y9 y10:Option V)(zs:Z9 Str),σ'=[some (.ref st),some<|.str<|aa "abcdefghijklmnopqrstuvwxyz",some<|.int<|1+si,some<|.ref D,some<|.int (sp:Int),some<|.int<|1+i7,some<|.ref r,y7,y8,y9,y10]/\Ex [r] H8 H'/\H' r=some (.lst<|zs.map V.str)/\zs.length=i/\∀(k:Nat)(z:Str),zs[k]?=some z->NmV z/\z.cps.toList[sp]?=some (97+((b+(1+i7)*(k:Int)) % 26).toNat)) ?_ (λi σ' H' fH h=>?_) λσ' H' h=>?_
 .exact(nj _ _ _ _ ([]) ⟨rfl,Ex.refl _ _,r8,rfl,λk z hz=>by cases hz⟩)
 .obtain⟨y7,y8,y9,y10,zs,rfl,Dk,r9,zG,EW⟩:=h;have hD9:=Dk.at (Ne.symm nrD) hD8;refine(mm _ rfl _ ⟨rfl,by lia,by lia,?_⟩);refine t7 (lo:=0) (λj σ' H2=>∃(y9 y10:Option V)(wd:Str),σ'=[some (.ref st),some<|.str<|aa "abcdefghijklmnopqrstuvwxyz",some<|.int<|1+si,some<|.ref D,some<|.int (sp:Int),some<|.int<|1+i7,some<|.ref r,some<|.int<|0+i,some<|.str wd,y9,y10]/\H2=H'/\Tx wd/\wd.length=j/\(∀c∈wd.cps.toList,smB c=true)/\(sp<j->wd.cps.toList[sp]?=some (97+((b+(1+i7)*(i:Int)) % 26).toNat))) ?_ (λj σ' H2 hj h=>?_) λσ' H2 h=>?_
  .exact(mj _ _ _ ⟨rfl,rfl,txL<|by decide +kernel,by decide +kernel,(show ∀c∈(aa "").cps.toList,smB c=true by decide +kernel),λh=>absurd h<|Nat.not_lt_zero _⟩)
  .obtain⟨y9,y10,wd,rfl,rfl,GE,B0,GH,Hx⟩:=h;have zI:j<ks.length:=by lia
   have zS:atI (ks.map V.int) (0+((j:Nat):Int))=some (.int ks[j]):=by rw[show(0+((j:Nat):Int))=((j:Nat):Int) by lia];exact my<|by rw[au,ae zI];rfl
   refine(uk _ rfl _ rfl _ _ ⟨rfl,rfl,.inl ⟨by lia,by lia⟩,(mm _ rfl _ ⟨rfl,rfl,.inr<|m8 _ rfl _ _ ⟨rfl,rfl,.inr ⟨?_,?_⟩,?_⟩⟩)⟩)
   .split<;>decide
   .split<;>decide
   have e0:=Int.emod_nonneg (ks[j]+(1+i7)*(0+(i:Int))*(if decide (V.int (0+(j:Int))=V.int (sp:Int))=true then 1 else 0)) (show(26:Int)≠0 by decide);have A6:=Int.emod_lt_of_pos (ks[j]+(1+i7)*(0+(i:Int))*(if decide (V.int (0+(j:Int))=V.int (sp:Int))=true then 1 else 0)) (show(0:Int)<26 by decide);have hc:=arw e0 A6;have E7:j=sp->(97+((ks[j]+(1+i7)*(0+(i:Int))*(if decide (V.int (0+(j:Int))=V.int (sp:Int))=true then 1 else 0)) % 26).toNat)=97+((b+(1+i7)*(i:Int)) % 26).toNat:=λe=>by
    subst e;have e1:ks[j]=b:=by rw[ae zI]at hb;exact cn hb
    rw[if_pos (decide_eq_true<|by rw[Int.zero_add]),e1,Int.mul_one,Int.zero_add]
   have iH:smB (97+((ks[j]+(1+i7)*(0+(i:Int))*(if decide (V.int (0+(j:Int))=V.int (sp:Int))=true then 1 else 0)) % 26).toNat)=true:=by unfold smB;rw[decide_eq_true (by lia),decide_eq_true<|by lia];rfl
   generalize (97+((ks[j]+(1+i7)*(0+(i:Int))*(if decide (V.int (0+(j:Int))=V.int (sp:Int))=true then 1 else 0)) % 26).toNat)=c at *;have rJ:c<128:=by unfold smB at iH;have:=(bf.mp iH).2;have:=of_decide_eq_true this;lia
   refine(v8 _ rfl _ rfl _ ⟨rfl,(k9 _ rfl D _ _ _ ⟨rfl,rfl,SqL.of hD9,zS,(nw _ rfl _ _ rfl rfl _ ⟨_,rfl,rfl,(show(0:Int)<26 by decide),(mj _ _ c ⟨rfl,rfl,uw<|txL<|by decide +kernel,hc,(lv wd _ ⟨rfl,rfl,?_,?_⟩)⟩)⟩)⟩)⟩)
   .exact cb (lu<|by rw[B0];show j+1<=1000;lia)
   exact⟨_,_,wd++⟨#[c]⟩,rfl,rfl,Tx.cat GE (tx1 rJ)<|by rw[B0];show j+1<=80;lia,by rw[L3.len_cat,B0];rfl,(λx hx=>by
     rw[ah0]at hx;rcases bo.mp hx with h|h
     .exact GH x h
     .rw[a6.mp h];exact iH),λbX=>by
     have lw:wd.cps.toList.length=j:=by rw[<-B0];simp[Str.length]
     rw[ah0];by_cases e:sp<j
     .rw[de (by lia)];exact Hx e
     .have e':j=sp:=by lia
      rw[cg (by lia),lw,e',Nat.sub_self,<-E7 e'];rfl⟩
  .obtain⟨y9,y10,wd,rfl,rfl,GE,B0,GH,Hx⟩:=h;refine(xk _ rfl (.inl ⟨rfl,_,SqL.of r9⟩) _ rfl r (zs.map V.str) _ ⟨rfl,rfl,r9,lu<|by rw[af];lia,?_⟩);refine(nj _ _ _ _ (zs++[wd]) ⟨rfl,Dk.trans<|Ex.upd<|by simp,by rw[ay];exact k8,by simp[zG],λk z hz=>?_⟩);by_cases hk:k<zs.length
   .rw[de hk]at hz;exact EW k z hz
   .have qV:=(ar.mp hz).1;rw[a9,cu]at qV;have ek:k=zs.length:=by lia
    rw[cg (by lia),ek,Nat.sub_self]at hz;cases (cn hz);rw[ek,zG];exact⟨awa GE (by lia) (by lia) GH,Hx<|by lia⟩
 .obtain⟨y7,y8,y9,y10,zs,rfl,Dk,r9,zG,EW⟩:=h;have st9:=Dk.at (Ne.symm nr) Em;refine(nv _ rfl st n7 4 ⟨rfl,st9,wK,by decide,by decide,λn10 i10 zB JD h104=>⟨rfl,_,rfl,?_⟩⟩);have uC:upd H' st (.lst n10) st=some (.lst n10):=k8;have Hf:upd H' st (.lst n10) r=some (.lst<|zs.map V.str):=by rw[lh nr];exact r9
  have Ab:Ex [st] H (upd H' st<|.lst n10):=λb o hb h0=>by
   have nb:b≠r:=mq h0 E2;have oT:b≠st:=by simpa using hb
   rw[lh oT];exact Dk.at nb<|Dm b o hb h0
  generalize upd H' st (.lst n10)=Mq at *;refine qb (λ_=>?_) λ_=>?_
  .refine⟨_,rfl,by decide,by decide,λD2 dF=>?_⟩;refine xl (lo:=0) (λj ys H2=>Same Mq H2/\∃ws:Z9 Str,ys=ws.map V.str/\ws.length=j/\∀(k:Nat)(w:Str),ws[k]?=some w->NmV w/\w.length=k+1) ⟨Same.fresh _ dF,[],rfl,rfl,λk w hw=>by cases hw⟩ (λj ys H2 hj aN aY p=>?_) λys H2 aN aY p=>?_
   .obtain⟨p1,ws,rfl,wE,hws⟩:=p;refine⟨Agree.set (Agree.refl _) rfl,?_⟩;dsimp only[wg];refine oz ?_;refine(nw _ rfl _ _ rfl rfl _ ⟨_,rfl,rfl,by lia,by lia,by decide +kernel,λw hw hc=>?_⟩);have E9:j<6:=hj;have ea:(aa "a").length=1:=by decide +kernel
    rw[ea]at hw;refine oj (by lia) aN aY ⟨p1.new dF,ws++[w],by rw[ay];rfl,by simp[wE],λk z hz=>?_⟩;by_cases hk:k<ws.length
    .rw[de hk]at hz;exact hws k z hz
    .have qV:=(ar.mp hz).1;rw[a9,cu]at qV;have ek:k=ws.length:=by lia
     rw[cg (by lia),ek,Nat.sub_self]at hz;cases (cn hz);have all:∀c∈w.cps.toList,c=97:=λc C4=>by
      have:=hc c C4;have e:(aa "a").cps.toList=[97]:=by decide +kernel
      rw[e]at this;simpa using this
     refine⟨awa ⟨by lia,λc C4=>by rw[all c C4];decide⟩ (by lia) (by lia) λc C4=>by rw[all c C4];decide,by lia⟩
   .obtain⟨p1,ws,rfl,wE,hws⟩:=p;refine⟨_,rfl,q D2 ws _ n10 ?_ (Ab.trans<|Ex.of_same p1) (p1 _ _ uC) zB aN wE (λz hz=>by obtain⟨k,hk⟩:=fk.mp hz;exact(hws k z hk).1)<|acm (mk:=λz=>z.length) (val:=λk=>k+1) wE (λk z h=>(hws k z h).2) λi j _ _ e=>by lia⟩;cases z:H D2 with
    | none=>rfl
    | some o=>
     have nd:=tU uC dF;have z':=Ab D2 o (by simpa using nd) z;rw[z']at dF;cases dF
  .exact⟨_,rfl,q r zs _ n10 E2 Ab uC zB Hf zG (λz hz=>by obtain⟨k,hk⟩:=fk.mp hz;exact(EW k z hk).1)<|acm (mk:=λz=>z.cps.toList[sp]?) (val:=λk=>some<|97+((b+(1+i7)*(k:Int)) % 26).toNat) zG (λk z h=>(EW k z h).2) λi j hi hj e=>ao4 JC h71 hi hj<|cn e⟩
def KsV(ns:Z9 Str)(ds:Z9 Z8):Prop:=∀(i:Nat)(d:Z8),ds[i]?=some d->∃z,ns[i]?=some z/\KdV z d
def av8{z:Str}{d:Z8}(h:KdV z d):imm d=true:=by
 obtain⟨l,m,md,es,rfl,_,_,hm,_,fr⟩:=h;have he:=akv fr;have iG:imm m=true:=by rcases hm with rfl|⟨j,rfl,_⟩<;>rfl
 show(true&&(true&&(imm m&&(true&&(imm (.tuple es)&&true)))))=true;rw[he,iG];rfl
def Ln{ns:Z9 Str}{ds:Z9 Z8}(h:KsV ns ds):qu ds=true:=ug λd hd=>by obtain⟨i,hi⟩:=fk.mp hd;obtain⟨z,_,hz⟩:=h i d hi;exact av8 hz
noncomputable def menu:Str:=aa "....,,##ABCDEFGHIJKLMNOPQRSTUVWXYZabcdefghijklmnopqrstuvwxyz"
def PzV(d:Z8):Prop:=∃(zs ns:Z9 Str)(ks ps:Z9 Z8),d=.tuple [.tuple (zs.map PyData.str),.tuple ks,.tuple ps]/\Rw menu zs/\0<ks.length/\ks.length<=6/\KsV ns ks/\ns.Nodup/\(∀z∈ns,NmV z)/\PrS ps
theorem ahc{H:Hp}:∀{zs:Z9 Str},(∀z∈zs,Tx z)->RepAll H (zs.map PyData.str) (zs.map V.str)
 | [],_=>rfl
 | z::zs,h=>(lv _ _ ⟨rfl,⟨rfl,(h z aj).ok⟩,ahc λz hz=>h z<|ak _ hz⟩)
def Br{xs:Z9 V}{k:Nat}(hk:k<=xs.length):gY xs none (some (k:Int))=xs.take k:=by unfold gY;rw[HT.sIx_none,HT.sIx_nat,Nat.sub_zero,show lB k xs.length=k by lia];rfl
def xg{xs:Z9 V}{k:Nat}(hk:k<=xs.length):gY xs (some (k:Int)) none=xs.drop k:=by unfold gY;rw[HT.sIx_none,HT.sIx_nat,show lB k xs.length=k by lia,bb<|by rw[gl];exact av _]
def sgT:Tx (aa "....,,##ABCDEFGHIJKLMNOPQRSTUVWXYZabcdefghijklmnopqrstuvwxyz"):=txL<|by decide +kernel
def aqj:Sp:=λvs H Q _=>∃(st:aF)(n:Z9 V),vs=[.ref st,.int 4,.int 6,.int 3]/\H st=some (.lst n)/\StL n/\∀(p:aF)(H':Hp)(n':Z9 V)(d:Z8),Ex [st] H H'->H' st=some (.lst n')->StL n'->PzV d->Rep H' d (.ref p)->Q (.ref p) H'
def scLpuz:lz ["_law_state_here","_law_most","_law_spots","_law_many","_law_signs_here","_law_floor_here","_law_kinds"] ZD (ll KI):={}
def atr(B:∀x∈ux,mg x=none)(aR:wx P w K mg base)(Ay:Fn P w K mg base "_law_floor" 2 ZF anj)(Au:Fn P w K mg base "_law_kind" 4 ZE ame)(vK:Fn P w K mg base "_law_names" 2 Z5 ah2)(vJ:Fn P w K mg base "_law_pairs" 2 Z5 ahw)
  (F:Fun K "_law_puzzle" "_law_puzzle" KI f fd):FnOk P w K mg base CX0 5 f fd ZD aqj:=by
 refine F.ok (k:=4) scLpuz (λvs H Q E h=>?_) λbE A outer s H vs Q E hr h=>?_
 .obtain⟨st,n,rfl,_⟩:=h;rfl
 obtain⟨st,n,rfl,bD,hn,q⟩:=h;refine⟨_,(kq (l4 (i:=4) scLpuz.nd rfl (Or.inl rfl) lc)
  (kq (l4 (i:=5) scLpuz.nd rfl (Or.inl rfl)<|me Ay hr (by decide) rfl<|ku (pv 0)<|ku (pv 1)<|ku (nq Lp (pv 4) oo<|ot<|m7 nh (l7<|ku k7<|ku k7 km) (me aR hr (by decide) rfl<|ku (pv 0)<|ku k7 km) λ_ _=>rfl) km)
  (kq (vx (i:=6) Zy [none,some 0,some 2] scLpuz.nd rfl (Or.inl rfl) rfl rfl rfl (by decide +kernel) (by decide +kernel) rfl rfl (o8<|nq o5 (me vK hr (by decide) rfl<|ku (pv 0) km) oo<|ot<|ml qf k7<|me aR hr (by decide) rfl<|ku (pv 0)<|ku (pv 3) km) (λ_=>(li (i:=0) (show(Zy:Z9 PySem.Str).Nodup by decide +kernel) rfl<|Or.inl rfl)) (λ_=>ng) λ_=>(me Au hr (by decide) rfl<|ku (pv 1)<|ku (pv 0)<|ku (pv 2) km))
  (lg<|ls<|qd<|ku (pv 5)<|ku (x9 oh rfl (B "tuple"<|by decide) iw<|ku (pv 6) km)<|ku (me vJ hr (by decide) rfl<|ku (pv 0) km) km)))),?_⟩
 refine(v8 _ rfl _ rfl _ ⟨rfl,sZ2,λp1 nG=>?_⟩);refine(nv _ rfl st n 2 ⟨rfl,zo bD nG,hn,by decide,by decide,λn1 i1 fW tK zU=>?_⟩);obtain⟨k,hk,hkm⟩:=Ag (α:=V) (xs:=[V.int 8,V.int 60]) tK zU;obtain⟨qO,pJ,jV⟩:=wu (o:=.lst [V.int 8,V.int 60]) (n':=n1) bD nG;have IX:∃j:Int,k=.int j/\0<(Txt.slice (aa "....,,##ABCDEFGHIJKLMNOPQRSTUVWXYZabcdefghijklmnopqrstuvwxyz") none<|some j).length/\∀c∈(Txt.slice (aa "....,,##ABCDEFGHIJKLMNOPQRSTUVWXYZabcdefghijklmnopqrstuvwxyz") none<|some j).cps.toList,c∈menu.cps.toList:=by
  simp only[ap,cv,or_false]at hkm;rcases hkm with rfl|rfl
  .exact⟨8,rfl,by decide +kernel,by decide +kernel⟩
  .exact⟨60,rfl,by decide +kernel,by decide +kernel⟩
 obtain⟨j,rfl,hj0,hjm⟩:=IX;refine(lr p1 _ i1 _ ⟨rfl,rfl,SqL.of qO,hk,(mm j rfl _ ⟨rfl,uw sgT,?_⟩)⟩);generalize upd (upd H p1 _) st _=H1 at *;refine(mj st n1 _ ⟨rfl,jV,fW,sgT.slice _ _,hj0,λfa zs H2 n2 hfa oI eV gU hf2 rw2=>?_⟩);have Aa:=pJ.trans oI;refine(m8 _ rfl st n2 ⟨rfl,eV,gU,λna ns H3 n3 ID pI iY gO IF hns6 Cy Iz=>?_⟩);have zZ:=Aa.trans pI;have l3:=Lk.of_ex pI eV iY;have Je:=l3.tup hf2;have nna:=tU eV ID;refine(mi _ rfl _ rfl st n3 3 ⟨rfl,iY,gO,by decide,by decide,λn4 i4 lZ xA h46=>(lv _ _ ⟨rfl,rfl,_,rfl,?_⟩)⟩);have jU:upd H3 st (.lst n4) st=some (.lst n4):=k8;have oH:Ex [st] H3 (upd H3 st<|.lst n4):=Ex.upd (by simp);have hf4:=(Lk.of_ex oH iY jU).tup Je;have IE:=oH.at nna IF;have zY:=zZ.trans oH;generalize upd H3 st (.lst n4)=H4 at *;obtain⟨m,rfl⟩:=br xA;have mC:gY (ns.map V.str) none (some<|1+(m:Int))=(ns.take<|1+m).map V.str:=by rw[show(1+(m:Int))=((1+m:Nat):Int) by lia,Br<|by rw[af];lia,i9]
 refine(lv na _ ⟨rfl,SqL.of IE,λsa hsa=>?_⟩);rw[mC];have s5:Same H4 (upd H4 sa<|.lst<|(ns.take<|1+m).map V.str):=Same.fresh _ hsa;have GM:upd H4 sa (.lst<|(ns.take<|1+m).map V.str) sa=some (.lst<|(ns.take<|1+m).map V.str):=k8;have fU:=s5 _ _ jU;have CY:=s5 _ _ hf4;have rO:=zY.trans<|Ex.of_same (W:=[st]) s5;have nsa:=tU jU hsa;generalize upd H4 sa (.lst<|(ns.take<|1+m).map V.str)=H5 at *;have lE:((ns.take<|1+m).map V.str).length=1+m:=by rw[af,cq];lia
 refine⟨sa,rfl,⟨_,SqL.of GM⟩,λD hD=>?_⟩;have nD:=tU fU hD;have nDs:D≠sa:=tU GM hD;refine ny (xs:=(ns.take<|1+m).map V.str) (λj ys H6=>∃(n6:Z9 V),Ex [st,D] H5 H6/\H6 st=some (.lst n6)/\StL n6/\ys.length=j/\∃ds,RepAll H6 ds ys/\KsV (ns.take<|1+m) ds) ?_ (λj ys H6 p=>?_) (λj x ys H6 hx hj aN aY p=>?_) λys H6 aN aY p=>?_
 .exact⟨n4,Ex.fresh hD,by rw[lh (Ne.symm nD)];exact fU,lZ,rfl,[],rfl,λi d h=>by cases h⟩
 .obtain⟨_,tL,_⟩:=p;exact SqL.of<|tL _ _ (by simp[Ne.symm nsa,Ne.symm nDs,nsa]) GM
 .obtain⟨n6,tL,kZ,oB,HS,xF,gK,B5⟩:=p;have hxz:∃z,x=.str z/\Tx z/\z.length<=8/\(ns.take<|1+m)[j]?=some z:=by
   rw[au]at hx;obtain⟨z,hz,rfl⟩:=bn.mp hx;have hn:=Cy z<|fy<|ah hz;refine⟨z,rfl,hn.1,?_,hz⟩;have h2:(decide (1<=z.length)&&decide (z.length<=8)&&z.cps.toList.all smB)=true:=hn.2;exact of_decide_eq_true (bf.mp (bf.mp h2).1).2
  obtain⟨z,rfl,tz,z8,hzj⟩:=hxz;refine⟨Agree.set (Agree.refl _) rfl,?_⟩;dsimp only[wg];refine oz ?_;refine(xj _ rfl _ rfl _ rfl st n6 ⟨z,rfl,kZ,oB,tz,z8,λkp H7 n7 dk xB iE wK kv7 rp7=>?_⟩);have De:=xB.at nD aN;have dJ:xF.length=j:=by rw[<-gK.length,HS]
  have ks7:KsV (ns.take<|1+m) (xF++[dk]):=λi d h=>by
   by_cases hi:i<xF.length
   .rw[de hi]at h;exact B5 i d h
   .have oX:=(ar.mp h).1;rw[a9,cu]at oX;have ei:i=xF.length:=by lia
    rw[cg (by lia),ei,Nat.sub_self]at h;cases cn h;rw[ei,dJ];exact⟨z,hzj,kv7⟩
  refine oj (by lia) De aY ⟨n7,?_,by rw[lh (Ne.symm nD)];exact iE,wK,by rw[a9,HS];rfl,xF++[dk],((gK.tk (Bi xB kZ)<|Ln B5).snoc rp7).tk (Tk.lst De) (Ln ks7),ks7⟩
  .intro b o hb h0;have dH:b≠st/\b≠D:=by simpa using hb
   rw[lh dH.2];exact xB.at dH.1<|tL b o hb h0
 .obtain⟨n6,tL,kZ,oB,HS,xF,gK,B5⟩:=p;have hf6:H6 fa=some (.tup<|zs.map V.str):=tL _ _ (by
   have e1:fa≠st:=λe=>by rw[e,fU]at CY;cases CY
   have e2:fa≠D:=λe=>by rw[e,hD]at CY;cases CY
   simp[e1,e2]) CY
  have JM:Ex [st] H H6:=λb o hb h0=>by
   have h1:=rO b o hb h0;have nb:b≠D:=mq h1 hD;have oT:b≠st:=by simpa using hb
   exact tL b o (by simp[nb,oT]) h1
  refine(uk _ rfl _ rfl D ys ⟨rfl,.inl ⟨SqL.of aN,λka CK=>?_⟩⟩);have s7:Same H6 (upd H6 ka<|.tup ys):=Same.fresh _ CK;have ka7:upd H6 ka (.tup ys) ka=some (.tup ys):=k8;have iE:=s7 _ _ kZ;have hf7:=s7 _ _ hf6;have JL:=JM.trans<|Ex.of_same (W:=[st]) s7;have yH:=gK.same s7;generalize upd H6 ka (.tup ys)=H7 at *;refine(m8 _ rfl st n6 ⟨rfl,iE,oB,λpa H8 n8 ps Dm Em hn8 Cu rpp=>⟨sZ3,λta hta=>?_⟩⟩);have l8:=Lk.of_ex Dm iE Em;have s9:Same H8 (upd H8 ta<|.tup [.ref fa,.ref ka,.ref pa]):=Same.fresh _ hta;have l9:=Lk.of_same s9;have Hb:=(yH.tk (Bi Dm iE)<|Ln B5).same s9;obtain⟨GY,GX,wd,w0,w8,uH⟩:=rw2;have hyl':=gK.length;refine q ta _ n8 (.tuple [.tuple (zs.map PyData.str),.tuple xF,.tuple ps]) ((JL.trans Dm).trans (Ex.of_same s9)) (s9 _ _ Em) hn8
   (lr zs (ns.take<|1+m) xF ps ⟨rfl,⟨GY,GX,wd,w0,w8,λz hz=>⟨(uH z hz).1,(uH z hz).2.1,λc hc=>hjm c<|(uH z hz).2.2 c hc⟩⟩,by lia,by lia,B5,Iz.sublist<|List.take_sublist _ _,λz hz=>Cy z<|fy hz,Cu⟩) ?_
  exact(oq ta _ rfl k8 _ _ rfl (lv fa _ ⟨rfl,l9.tup<|l8.tup hf7,ahc λz hz=>(uH z hz).1⟩) _<|ma _ rfl (lv ka _ ⟨rfl,l9.tup<|l8.tup ka7,Hb⟩) _ ⟨_,rfl,rpp.same s9,rfl⟩)
theorem w4{H:Hp}:∀{zs:Z9 Str} {vs:Z9 V},RepAll H (zs.map PyData.str) vs->vs=zs.map V.str
 | [],vs,r=>r
 | z::zs,vs,r=>by obtain⟨x,ys,rfl,⟨rfl,_⟩,r2⟩:=r;rw[w4 r2];rfl
def ast:∀c∈menu.cps.toList,sgB c=true:=by decide +kernel
def arx{H:Hp}{v:V}{zs:Z9 Str}(h:Rw menu zs)(r:Rep H (.tuple<|zs.map PyData.str) v):Fz H v:=by
 obtain⟨b,vs,rfl,hb,rs⟩:=r;have e:=w4 rs;subst e;obtain⟨h1,h8,wd,w0,w8,hz⟩:=h;refine⟨some<|zs.map some,⟨by rw[af];lia,(lv b _ ⟨rfl,hb,by rw[af,af],λi x o hx ho=>?_⟩)⟩,?_⟩
 .rw[au]at hx ho;obtain⟨z,uM,rfl⟩:=bn.mp hx;rw[uM]at ho;cases ho;exact⟨rfl,(hz z<|ah uM).1⟩
 .have first:kU (((zs.map some)[0]?).getD none)=wd:=by
   rw[au,ae h1];exact(hz _<|fz h1).2.1
  show(decide (1<=(zs.map some).length)&&decide ((zs.map some).length<=8)&&(zs.map some).all λo=>kW o&&(kU o==kU (((zs.map some)[0]?).getD none)))=true;rw[decide_eq_true (by rw[af];lia),decide_eq_true<|by rw[af];lia,first];refine bq.mpr λo ho=>?_;obtain⟨z,HQ,rfl⟩:=a7.mp ho;obtain⟨t,l,c⟩:=hz z HQ;show((decide (1<=z.length)&&decide (z.length<=8)&&z.cps.toList.all sgB)&&(z.length==wd))=true;rw[decide_eq_true (by lia),decide_eq_true<|by lia,bq.mpr λx hx=>ast x<|c x hx,l];simp
def aox{H:Hp}{v:V}{z:Str}{d:Z8}(hn:NmV z)(h:KdV z d)(r:Rep H d v):wy H v/\∃b r,v=.ref b/\H b=some (.tup (.str z::r)):=by
 obtain⟨l,m,md,es,rfl,l0,l64,hm,E8,fr⟩:=h;obtain⟨b,xs,rfl,hb,x1,r1,e1,⟨q1,_⟩,x2,r2,e2,q2,x3,r3,e3,q3,x4,r4,e4,⟨q4,_⟩,x5,r5,e5,q5,e6⟩:=r;subst e6 e5 e4 e3 e2 e1 q1 q4;cases (show x2=.int l from q2);refine⟨(nj b _ _ _ _ ⟨_,rfl,hb,hn.2,?_,E8,?_⟩),(lv b _ ⟨rfl,hb⟩)⟩
 .rcases hm with rfl|⟨j,rfl,h1,h2⟩
  .cases (show x3=.non from q3);show(decide (0<=l)&&decide (l<=64))=true;rw[decide_eq_true l0,decide_eq_true l64];rfl
  .cases (show x3=.int j from q3);show(decide (0<=l)&&decide (l<=64)&&(decide (l<=j)&&decide (j<=64)))=true;rw[decide_eq_true l0,decide_eq_true l64,decide_eq_true h1,decide_eq_true h2];rfl
 .obtain⟨c,ys,rfl,hc,rc⟩:=q5;exact(mj c ys es ⟨rfl,hc,rc,fr⟩)
def arj{H:Hp}{v:V}{d:Z8}(h:PzV d)(r:Rep H d v):nQ H v:=by
 obtain⟨zs,ns,ks,ps,rfl,pR,k0,k6,ES,nd,nm,yK⟩:=h;obtain⟨a,xs,rfl,ha,f,r1,e1,rf,k,r2,e2,rk,p,r3,e3,rp,e4⟩:=r;subst e4 e3 e2 e1;refine(lr a f k p ⟨rfl,ha,arx pR rf,?_,?_⟩)
 .obtain⟨b,ys,rfl,hb,rs⟩:=rk;have hl:=rs.length;have iU:ks.length<=ns.length:=by
   obtain⟨z,hz,_⟩:=ES (ks.length-1) ks[ks.length-1] (ae<|by lia);have:=(ar.mp hz).1;lia
  have rT:∀(i:Nat)(x:V),ys[i]?=some x->∃z,ns[i]?=some z/\wy H x/\∃b r,x=.ref b/\H b=some (.tup (.str z::r)):=λi x hx=>by obtain⟨d,hd,rd⟩:=rs.at hx;obtain⟨z,hz,kv⟩:=ES i d hd;exact⟨z,hz,aox (nm z<|ah hz) kv rd⟩
  refine(mj b ys (ns.take ks.length) ⟨rfl,hb,by lia,by lia,λx hx=>?_,⟨by rw[cq];lia,λi x hx=>?_⟩,nd.sublist<|List.take_sublist _ _⟩)
  .obtain⟨i,hi⟩:=fk.mp hx;exact(rT i x hi).choose_spec.2.1
  .obtain⟨z,hz,_,b',r',e,dH⟩:=rT i x hx;have hi:=(ar.mp hx).1;exact(mj b' z r' ⟨e,dH,by rw[g9 (by lia)];exact hz⟩)
 .obtain⟨b,ys,rfl,hb,rs⟩:=rp;exact(mj b ys ps ⟨rfl,hb,rs,yK.1,yK.2.1⟩)
def at3{z:Str}(h:tR z=true):Tx z:=by
 unfold tR at h;rcases Bool.or_eq_true_iff.mp h with h|h
 .rcases Bool.or_eq_true_iff.mp h with h|h
  .rw[of_decide_eq_true h];exact txL<|by decide +kernel
  .rw[of_decide_eq_true h];exact txL<|by decide +kernel
 .rw[of_decide_eq_true h];exact txL<|by decide +kernel
def al{H H':Hp}{a:aF}{o:HO}(h:H a=none)(g:upd H a o=H'):Same H H'/\H' a=some o:=by subst g;exact⟨Same.fresh _ h,k8⟩
noncomputable abbrev Sg:=Nat×Nat×Nat
noncomputable def sgD(s:Sg):Z8:=.tuple [.int (s.1:Nat),.int (s.2.1:Nat),.str ⟨#[s.2.2]⟩]
noncomputable def ce(s:Sg):Nat×Nat:=(s.1,s.2.1)
def Ltr(c:Nat):Prop:=65<=c/\c<=90
structure FrS(ss:Z9 Sg):Prop where
 fr:Frm (ss.map sgD)
 ltr:∀s∈ss,Ltr s.2.2
 nd:(ss.map ce).Nodup
theorem aq6:∀{es:Z9 Z8},(∀e∈es,∃s:Sg,e=sgD s/\Ltr s.2.2)->∃ss:Z9 Sg,es=ss.map sgD/\∀s∈ss,Ltr s.2.2
 | [],_=>⟨[],rfl,λs hs=>by cases hs⟩
 | e::es,h=>by
  obtain⟨s,rfl,hs⟩:=h e aj;obtain⟨ss,rfl,hss⟩:=aq6 λx hx=>h x<|ak _ hx;refine⟨s::ss,rfl,λs' jZ=>?_⟩;rcases ap.mp jZ with rfl|h'
  .exact hs
  .exact hss s' h'
def axs{es:Z9 Z8}(h:Frm es):∃ss,es=ss.map sgD/\FrS ss:=by
 obtain⟨ss,rfl,hl⟩:=aq6 (es:=es) λe he=>by obtain⟨r,c,k,rfl,hk⟩:=h.1.pre.sg e he;have h1:zc (es.map iL)<=r:=zi _<|bz (f:=iL) he;have h2:zc (es.map iN)<=c:=zi _<|bz (f:=iN) he;rw[h.1.r0]at h1;rw[h.1.c0]at h2;obtain⟨r,rfl⟩:=br h1;obtain⟨c,rfl⟩:=br h2;exact⟨(r,c,k),rfl,hk⟩
 refine⟨ss,rfl,h,hl,?_⟩;have nd:=h.1.pre.nd;rw[gd]at nd;refine gb.mpr<|List.Pairwise.imp ?_<|gb.mp nd;intro a b kS e;refine kS ?_;have e:(a.1,a.2.1)=(b.1,b.2.1):=e;injection e with e1 e2
 show(((a.1:Nat):Int),((a.2.1:Nat):Int))=(((b.1:Nat):Int),((b.2.1:Nat):Int));rw[e1,e2]
noncomputable def stL(f:Int->Int->Option Nat)(s:Sg):Int->Int->Option Nat:=λr c=>if r=(s.1:Nat)/\c=(s.2.1:Nat)then some s.2.2 else f r c
noncomputable def look(ss:Z9 Sg):Int->Int->Option Nat:=ss.foldl stL λ_ _=>none
def alm(ss:Z9 Sg)(s:Sg)(r c:Int):look (ss++[s]) r c=if r=(s.1:Nat)/\c=(s.2.1:Nat)then some s.2.2 else look ss r c:=by unfold look;rw[List.foldl_append];rfl
theorem ag6:∀(ss:Z9 Sg)(f:Int->Int->Option Nat) {r c:Int} {k:Nat},ss.foldl stL f r c=some k->f r c=some k\/∃s∈ss,r=(s.1:Nat)/\c=(s.2.1:Nat)/\k=s.2.2
 | [],f,_,_,_,h=>.inl h
 | s::ss,f,r,c,k,h=>by
  rcases ag6 ss _ h with h|⟨s',hs,h⟩
  .unfold stL at h;by_cases e:r=(s.1:Nat)/\c=(s.2.1:Nat)
   .rw[if_pos e]at h;exact .inr ⟨s,aj,e.1,e.2,(cn h).symm⟩
   .rw[if_neg e]at h;exact .inl h
  .exact .inr ⟨s',ak _ hs,h⟩
def anh{ss:Z9 Sg}{r c:Int}{k:Nat}(h:look ss r c=some k):∃s∈ss,r=(s.1:Nat)/\c=(s.2.1:Nat)/\k=s.2.2:=by
 rcases ag6 ss _ h with h|h
 .cases h
 .exact h
theorem ahh:∀(ss:Z9 Sg)(f:Int->Int->Option Nat)(q:Nat×Nat),q∉ss.map ce->ss.foldl stL f (q.1:Nat) (q.2:Nat)=f (q.1:Nat) (q.2:Nat)
 | [],_,_,_=>rfl
 | s::ss,f,q,h=>by
  show ss.foldl stL (stL f s) _ _=_;rw[ahh ss _ q λz=>h<|ak _ z];exact if_neg λe=>h (by
   have:q=ce s:=Prod.ext (by have:=e.1;show q.1=s.1;lia) (by have:=e.2;show q.2=s.2.1;lia);rw[this];exact aj)
theorem al2:∀(ss:Z9 Sg)(f:Int->Int->Option Nat),(ss.map ce).Nodup->∀s∈ss,ss.foldl stL f (s.1:Nat) (s.2.1:Nat)=some s.2.2
 | [],_,_,s,h=>by cases h
 | s0::ss,f,nd,s,h=>by
  rw[cy,ii]at nd;rcases ap.mp h with rfl|h
  .show ss.foldl stL (stL f s) _ _=_;refine(ahh ss _ (ce s) nd.1).trans ?_;exact if_pos ⟨rfl,rfl⟩
  .exact al2 ss (stL f s0) nd.2 s h
noncomputable def pch(ss:Z9 Sg)(r c:Int):Nat:=(look ss r c).getD 46
noncomputable def we(ss:Z9 Sg)(t l N W:Nat):Mat:=⟨N,W,λr c=>pch ss ((r:Nat)-(t:Nat))<|(c:Nat)-(l:Nat)⟩
theorem axc{ss:Z9 Sg}(h:∀s∈ss,Ltr s.2.2)(r c:Int):pch ss r c=46\/Ltr (pch ss r c):=by
 unfold pch;cases e:look ss r c with
 | none=>exact .inl rfl
 | some k=>
  obtain⟨s,hs,_,_,rfl⟩:=anh e;exact .inr<|h s hs
noncomputable def isP:Z8->Bool
 | .tuple [_,_,.str z]=>!decide (z=⟨#[46]⟩)
 | _=>false
theorem aoc{ss:Z9 Sg}(h:FrS ss){t l N W:Nat}(hN:∀s∈ss,s.1+t<N)(hW:∀s∈ss,s.2.1+l<W) :
  Spots ((vG<|we ss t l N W).filter isP)/\((vG<|we ss t l N W).filter isP).length=ss.length/\qp (ox<|(vG<|we ss t l N W).filter isP)=ss.map sgD:=by
 have key:((vG<|we ss t l N W).filter isP).Perm (ss.map λs=>sgD (s.1+t,s.2.1+l,s.2.2)):=by
  refine(List.perm_ext_iff_of_nodup ?_ ?_).mpr λd=>?_
  .refine List.Pairwise.filter _ ?_;unfold vG;refine gb.mpr<|ie (λ{i j} hi hj gW=>?_) List.nodup_range;intro e;unfold vI at e;injection e with e
   injection e with e1 e
   injection e with e2 _
   injection e1 with e1
   injection e2 with e2
   refine gW ?_;rw[<-Nat.div_add_mod i (we ss t l N W).w,<-Nat.div_add_mod j (we ss t l N W).w,show i/(we ss t l N W).w=j/(we ss t l N W).w by lia,show i % (we ss t l N W).w=j % (we ss t l N W).w by lia]
  .refine gb.mpr<|List.Pairwise.imp ?_<|gb.mp h.nd;intro a b kS e;unfold sgD at e;injection e with e
   injection e with e1 e
   injection e with e2 _
   injection e1 with e1
   injection e2 with e2
   have e1:((a.1+t:Nat):Int)=((b.1+t:Nat):Int):=e1;have e2:((a.2.1+l:Nat):Int)=((b.2.1+l:Nat):Int):=e2;exact kS (Prod.ext (by show a.1=b.1;lia)<|by show a.2.1=b.2.1;lia)
  .rw[f7,aps,a7];constructor
   .rintro⟨⟨r,c,hr,hc,rfl⟩,hp⟩;have hp:(!decide ((⟨#[pch ss ((r:Nat)-(t:Nat)) ((c:Nat)-(l:Nat))]⟩:Str)=⟨#[46]⟩))=true:=hp;cases e:look ss ((r:Nat)-(t:Nat)) ((c:Nat)-(l:Nat))with
    | none=>
     unfold pch at hp;rw[e]at hp;exact absurd hp (by decide)
    | some k=>
     obtain⟨s,hs,e1,e2,rfl⟩:=anh e;refine⟨s,hs,?_⟩;have g:(we ss t l N W).g r c=s.2.2:=by show pch ss _ _=_;unfold pch;rw[e];rfl
     unfold vI sgD;rw[g,show r=s.1+t by lia,show c=s.2.1+l by lia]
   .rintro⟨s,hs,rfl⟩;have e:pch ss (((s.1+t:Nat):Int)-(t:Nat)) (((s.2.1+l:Nat):Int)-(l:Nat))=s.2.2:=by
     unfold pch look;rw[show((s.1+t:Nat):Int)-(t:Nat)=(s.1:Nat) by lia,show((s.2.1+l:Nat):Int)-(l:Nat)=(s.2.1:Nat) by lia,al2 ss _ h.nd s hs];rfl
    refine⟨(lv (s.1+t) (s.2.1+l) ⟨hN s hs,hW s hs,?_⟩),?_⟩
    .unfold vI sgD;rw[show(we ss t l N W).g (s.1+t) (s.2.1+l)=s.2.2 from e]
    .show(!decide ((⟨#[s.2.2]⟩:Str)=⟨#[46]⟩))=true;have hl:=(h.ltr s hs).1;rw[decide_eq_false]
     .rfl
     .intro z;injection z with z
      injection z with z
      injection z with z
      lia
 generalize (vG<|we ss t l N W).filter isP=fl at key;have dN:0<ss.length:=by have:=h.fr.1.pre.pos;rw[af]at this;exact this
 have sp:Spots fl:=λd hd=>by obtain⟨s,_,rfl⟩:=a7.mp<|key.mem_iff.mp hd;exact(mj _ _ _ rfl)
 have ln:fl.length=ss.length:=by rw[key.length_eq,af]
 refine⟨sp,ln,?_⟩;have mn:∀(f:Z8->Int)(g:Sg->Nat)(m:Nat),(∀s,f (sgD (s.1+t,s.2.1+l,s.2.2))=((g s+m:Nat):Int))->(∀s,f (sgD s)=(g s:Nat))->zc ((ss.map sgD).map f)=0->zc (fl.map f)=(m:Nat):=λf g m h1 h2 h0=>by
  rw[LW (key.map f) (by rw[af];lia)];refine(xz ?_ λa ha=>?_).symm
  .have:=xh (ns:=(ss.map sgD).map f) (by rw[af,af];exact dN);rw[h0]at this;obtain⟨d,hd,e⟩:=a7.mp this;obtain⟨s,hs,rfl⟩:=a7.mp hd;rw[h2]at e;refine a7.mpr ⟨_,bz hs,?_⟩;rw[h1];lia
  .obtain⟨d,hd,rfl⟩:=a7.mp ha;obtain⟨s,_,rfl⟩:=a7.mp hd;rw[h1];lia
 have m1:=mn iL (·.1) t (λs=>rfl) (λs=>rfl) h.fr.1.r0;have m2:=mn iN (·.2.1) l (λs=>rfl) (λs=>rfl) h.fr.1.c0;refine amy h.fr ?_;unfold ox;rw[m1,m2];have e:(ss.map λs=>sgD (s.1+t,s.2.1+l,s.2.2)).map (uf (t:Nat) (l:Nat))=ss.map sgD:=by rw[gd];refine ix λs _=>?_;show PyData.tuple [.int (((s.1+t:Nat):Int)-(t:Nat)),.int<|((s.2.1+l:Nat):Int)-(l:Nat),_]=.tuple [.int (s.1:Nat),.int (s.2.1:Nat),_];rw[show((s.1+t:Nat):Int)-(t:Nat)=(s.1:Nat) by lia,show((s.2.1+l:Nat):Int)-(l:Nat)=(s.2.1:Nat) by lia]
 rw[<-e];exact key.map _
def As(z:Str):Prop:=∀c∈z.cps.toList,c<128
def As.ok{z:Str}(h:As z):kb z=true:=by show z.cps.all (· < 0x110000)=true;rw[<-Array.all_toList,bq];intro c hc;have:=h c hc;exact decide_eq_true<|by lia
noncomputable def y0(r:Nat)(cs:Z9 Nat):Nat->Z9 Z8
 | 0=>[]
 | k+1=>y0 r cs k++(match cs[k]? with|some c=>[.tuple [.int r,.int k,.str ⟨#[c]⟩]]|none=>[])
noncomputable def vc(zs:Z9 Str):Nat->Z9 Z8
 | 0=>[]
 | k+1=>vc zs k++(match zs[k]? with|some z=>y0 k z.cps.toList z.cps.toList.length|none=>[])
theorem xw(r:Nat)(cs:Z9 Nat):∀k,Spots (y0 r cs k)
 | 0,d,h=>by cases h
 | k+1,d,h=>by
  unfold y0 at h;rcases bo.mp h with h|h
  .exact xw r cs k d h
  .cases e:cs[k]? with
   | none=>rw[e]at h;cases h
   | some c=>rw[e]at h;rw[a6.mp h];exact(mj _ _ _ rfl)
theorem xq(zs:Z9 Str):∀k,Spots (vc zs k)
 | 0,d,h=>by cases h
 | k+1,d,h=>by
  unfold vc at h;rcases bo.mp h with h|h
  .exact xq zs k d h
  .cases e:zs[k]? with
   | none=>rw[e]at h;cases h
   | some z=>rw[e]at h;exact xw _ _ _ d h
def Spots.app{a b:Z9 Z8}(h:Spots a)(k:Spots b):Spots (a++b):=λd hd=>(bo.mp hd).elim (h d) (k d)
def acu{r:Nat}{cs:Z9 Nat}{k c:Nat}(h:cs[k]?=some c):y0 r cs (k+1)=y0 r cs k++[.tuple [.int r,.int k,.str ⟨#[c]⟩]]:=by show y0 r cs k++_=_;rw[h]
def acv{zs:Z9 Str}{k:Nat}{z:Str}(h:zs[k]?=some z):vc zs (k+1)=vc zs k++y0 k z.cps.toList z.cps.toList.length:=by show vc zs k++_=_;rw[h]
theorem acn(M:Mat)(r:Nat):∀c,c<=M.w->y0 r (vg M r) c=(dt c).map λk=>vI M r k
 | 0,_=>rfl
 | c+1,h=>by rw[acu (amc (M:=M) (r:=r) (c:=c)<|by lia),acn M r c<|by lia,List.range_succ,ay];rfl
theorem acb(M:Mat):∀k,k<=M.h->vc (sk M) k=(dt<|k*M.w).map λi=>vI M (i/M.w) (i % M.w)
 | 0,_=>by simp[vc]
 | k+1,h=>by
  rw[acv (anx (M:=M) (r:=k)<|by lia),acb M k<|by lia];have e:((⟨(vg M k).toArray⟩:Str).cps.toList)=vg M k:=by simp
  rw[e,Gc,acn M k M.w<|av _,Nat.add_mul,Nat.one_mul,List.range_add,ay,gd]
  congr 1
  refine ix λc hc=>?_;have mF:c<M.w:=by simpa using hc
  show vI M k c=vI M ((k*M.w+c)/M.w) ((k*M.w+c) % M.w);rw[aq8 mF,aqb mF]
def PcR(zs:Z9 Str):Prop:=∀z∈zs,z.length<=10/\As z
def ann:Sp:=λvs H Q _=>∃(a:aF)(zs:Z9 Str),vs=[.ref a]/\H a=some (.lst<|zs.map V.str)/\zs.length<=10/\PcR zs/\∀(D:aF)(ys:Z9 V)(H':Hp),Same H H'->H' D=some (.lst ys)->RepAll H' (vc zs zs.length) ys->Q (.ref D) H'
def scSpots:lz ["floor","spots","row","signs","column","sign"] ["floor"] (ll Lh):={}
def ao8(B:∀x∈ux,mg x=none)(F:Fun K "floor_spots" "floor_spots" Lh f fd):FnOk P w K mg base CX0 1 f fd ["floor"] ann:=by
 refine F.ok (k:=0) scSpots (λvs H Q E h=>?_) λbE A outer s H vs Q E hr h=>?_
 .obtain⟨a,zs,rfl,_⟩:=h;rfl
 obtain⟨a,zs,rfl,ha,Cc,hw,q⟩:=h;refine⟨_,(kq (l4 (i:=1) scSpots.nd rfl (Or.inl rfl)<|l7 km)
  (kq (vn ge rfl (awk rfl (B "enumerate"<|by decide)<|ku (pv 0) km) (yz (n:=2) rfl<|mf (li (i:=2) scSpots.nd rfl<|Or.inl rfl)<|mf (li (i:=3) scSpots.nd rfl<|Or.inl rfl) sj)<|lg<|vn ge rfl (avh rfl (B "enumerate"<|by decide)<|ku (pv 3) km) (yz (n:=2) rfl<|mf (li (i:=4) scSpots.nd rfl<|Or.inl rfl)<|mf (li (i:=5) scSpots.nd rfl<|Or.inl rfl) sj)<|lg<|sq<|qi dh ff fg qg (pv 1)<|ku (qd<|ku (pv 2)<|ku (pv 4)<|ku (pv 5) km) km)
  (lg<|ls<|pv 1))),?_⟩
 refine⟨sZ0,λD hD=>?_⟩;refine(mm _ rfl a ⟨rfl,⟨_,SqL.of<|by rw[lh (mq ha hD)];exact ha⟩,?_⟩);refine at5 (xs:=zs.map V.str) (λi σ' H'=>∃(y2 y3 y4 y5:Option V)(ys:Z9 V),σ'=[some (.ref a),some<|.ref D,y2,y3,y4,y5]/\Same H H'/\H' D=some (.lst ys)/\RepAll H' (vc zs i) ys/\ys.length<=10*i) ?_ (λi σ' H' h=>?_) (λi x p σ' H' hx hp h=>?_) λσ' H' h=>?_
 .exact(nj _ _ _ _ ([]) ⟨rfl,Same.fresh _ hD,k8,rfl,dv _⟩)
 .obtain⟨_,_,_,_,_,_,s1,_⟩:=h;exact SqL.of<|s1 _ _ ha
 .obtain⟨y2,y3,y4,y5,ys,rfl,s1,aN,rep,aY⟩:=h;rw[au]at hx;obtain⟨z,hz,rfl⟩:=bn.mp hx;have HQ:=ah hz;have oX:i<zs.length:=(ar.mp hz).1;obtain⟨gT,hza⟩:=hw z HQ;have hL:=iO z;refine(on p _ rfl (SqT.of k8) rfl _ _ rfl _ ⟨_,rfl,rfl,?_⟩);generalize g1:upd H' p _=H2 at *;obtain⟨s2,_⟩:=al hp g1;clear g1;refine(mm _ rfl z ⟨rfl,hza,?_⟩);refine atb (z:=z) (λj σ' H3=>∃(y4 y5:Option V)(ys:Z9 V),σ'=[some (.ref a),some<|.ref D,some<|.int (i:Nat),some<|.str z,y4,y5]/\Same H H3/\H3 D=some (.lst ys)/\RepAll H3 (vc zs i++y0 i z.cps.toList j) ys/\ys.length<=10*i+j) ?_ (λj c p3 σ' H3 hc nY h=>?_) λσ' H3 h=>?_
  .refine(mj _ _ ys ⟨rfl,s1.trans s2,s2 _ _ aN,?_,by lia⟩);show RepAll H2 (vc zs i++[]) ys;rw[f9];exact rep.same s2
  .obtain⟨y4,y5,Bx,rfl,s3,wZ,fD,zH⟩:=h;have CO:j<z.cps.toList.length:=(ar.mp hc).1;have rJ:c<128:=hza c<|ah hc;refine(on p3 _ rfl (SqT.of k8) rfl _ _ rfl _ ⟨_,rfl,rfl,?_⟩);generalize g1:upd H3 p3 _=H4 at *;obtain⟨s4,_⟩:=al nY g1;clear g1;have Dg:=s4 _ _ wZ;refine(ma _ rfl (.inl ⟨rfl,_,SqL.of Dg⟩) _ ⟨rfl,(mm _ rfl _ ⟨rfl,sZ3,λt ht=>?_⟩)⟩);generalize g1:upd H4 t _=H5 at *;obtain⟨s5,t5⟩:=al ht g1;clear g1;have tJ:=s5 _ _ Dg;refine(mj D Bx (.ref t) ⟨rfl,rfl,tJ,lu<|by lia,?_⟩);have iS:RepAll H5 ((vc zs i++y0 i z.cps.toList j)++[.tuple [.int (i:Nat),.int (j:Nat),.str ⟨#[c]⟩]]) (Bx++[.ref t]):=((fD.same s4).same s5).snoc (xb t5<|ok1 rJ);rw[jk,<-acu hc]at iS;refine(mj _ _ (Bx++[.ref t]) ⟨rfl,((s3.trans s4).trans s5).new hD,k8,iS.tk (Tk.lst tJ)<|Spots.imm<|Spots.app (xq _ _)<|xw _ _ _,?_⟩);rw[a9,cu];lia
  .obtain⟨y4,y5,Bx,rfl,s3,wZ,fD,zH⟩:=h;rw[<-acv hz]at fD;exact(nj _ _ _ _ Bx ⟨rfl,s3,wZ,fD,by lia⟩)
 .obtain⟨y2,y3,y4,y5,ys,rfl,s1,aN,rep,aY⟩:=h;rw[af]at rep aY;exact⟨_,rfl,q D ys H' s1 aN rep⟩
def Wd(z:Str):Prop:=0<z.length/\z.length<=120/\∀c∈z.cps.toList,32<c/\c<128
def Wd.as{z:Str}(h:Wd z):As z:=λc hc=>(h.2.2 c hc).2
noncomputable def wdB(z:Str):Bool:=decide (0<z.length)&&decide (z.length<=120)&&z.cps.toList.all λc=>decide (32<c)&&decide (c<128)
def wdL{z:Str}(h:wdB z=true):Wd z:=by unfold wdB at h;rw[bf,bf]at h;refine⟨of_decide_eq_true h.1.1,of_decide_eq_true h.1.2,λc hc=>?_⟩;have:=bq.mp h.2 c hc;simpa using this
noncomputable def pL(n:Nat):Str:=cB ((n:Nat):Int)
noncomputable def vD:Option Nat->Str
 | none=>aa "any"
 | some j=>pL j
noncomputable def sI(z:Str):Bool:=decide (1<=z.length)&&decide (z.length<=2)&&z.cps.toList.all (λc=>decide (48<=c)&&decide (c<=57))&&(decide (z=aa "0") || !decide (z.cps.toList.headD 0=48))
def FY:∀n≤64,sI (pL n)=true/\wdB (pL n)=true/\pL n≠aa "any":=by decide +kernel
theorem wj{H:Hp}:∀{zs:Z9 Str},(∀z∈zs,As z)->RepAll H (zs.map PyData.str) (zs.map V.str)
 | [],_=>rfl
 | z::zs,h=>(lv _ _ ⟨rfl,⟨rfl,(h z aj).ok⟩,wj λz hz=>h z<|ak _ hz⟩)
def PicOf(ss:Z9 Sg)(pic:Str):Prop:=∃t l N W,(∀s∈ss,s.1+t<N)/\(∀s∈ss,s.2.1+l<W)/\0<N/\N<=10/\0<W/\W<=10/\pic=a8 ⟨#[47]⟩ (sk<|we ss t l N W)
def xp{ss:Z9 Sg}(hl:∀s∈ss,Ltr s.2.2){t l N W:Nat}{z:Str}(h:z∈sk (we ss t l N W)):z.length=W/\∀c∈z.cps.toList,c=46\/Ltr c:=by
 obtain⟨r,hr,rfl⟩:=apw h;have e:((⟨(vg (we ss t l N W) r).toArray⟩:Str).cps.toList)=vg (we ss t l N W) r:=by simp
 refine⟨by show(vg (we ss t l N W) r).toArray.size=_;rw[be,Gc];rfl,λc hc=>?_⟩;rw[e]at hc;unfold vg at hc;obtain⟨x,_,rfl⟩:=a7.mp hc;exact axc hl _ _
theorem F9{c:Nat}:∀{xs:Z9 Str} {x:Nat},x∈(a8 ⟨#[c]⟩ xs).cps.toList->x=c\/∃z∈xs,x∈z.cps.toList
 | [],x,h=>by cases h
 | [z],x,h=>.inr ⟨z,aj,h⟩
 | z::y::r,x,h=>by
  rw[og]at h;rcases bo.mp h with h|h
  .exact .inr ⟨z,aj,h⟩
  .rcases ap.mp h with h|h
   .exact .inl h
   .rcases F9 h with h|⟨z',h1,h2⟩
    .exact .inl h
    .exact .inr ⟨z',ak _ h1,h2⟩
theorem sw{c:Nat}{m:Nat}:∀{xs:Z9 Str},(∀z∈xs,z.length<=m)->(a8 ⟨#[c]⟩ xs).length<=xs.length*(m+1)
 | [],_=>dv _
 | [z],h=>by have:=h z aj;show z.length<=_;rw[cu];lia
 | z::y::r,h=>by have h1:=h z aj;have h2:=sw (c:=c) (xs:=y::r) λx hx=>h x<|ak _ hx;rw[<-iO,og,a9,bc,iO,iO,bc,Nat.add_mul];lia
theorem aia{c:Nat}:∀{xs:Z9 Str},xs≠[]->(∀z∈xs,0<z.length)->0<(a8 ⟨#[c]⟩ xs).length
 | [],h,_=>absurd rfl h
 | [z],_,h=>h z aj
 | z::y::r,_,_=>by rw[<-iO,og,a9,bc];lia
def PicOf.wd{ss:Z9 Sg}(hl:∀s∈ss,Ltr s.2.2){pic:Str}(h:PicOf ss pic):Wd pic:=by
 obtain⟨t,l,N,W,_,_,n0,n10,w0,w10,rfl⟩:=h;have hs:=uu<|we ss t l N W;have hs:(sk<|we ss t l N W).length=N:=hs;refine⟨aia (λe=>by rw[e]at hs;simp at hs;lia) λz hz=>by rw[(xp hl hz).1];exact w0,?_,λc hc=>?_⟩
 .have:=sw (c:=47) (m:=10) (xs:=sk<|we ss t l N W) λz hz=>by rw[(xp hl hz).1];exact w10
  rw[hs]at this;have:N*11<=10*11:=Nat.mul_le_mul_right _ n10;lia
 .rcases F9 hc with rfl|⟨z,hz,AZ⟩
  .decide
  .rcases(xp hl hz).2 c AZ with rfl|hL
   .decide
   .exact⟨by have:=hL.1;lia,by have:=hL.2;lia⟩
def e47:aa "/" = ⟨#[47]⟩:=by decide +kernel
def e46:aa "." = ⟨#[46]⟩:=by decide +kernel
def Wa(z:Str):Prop:=z.length<=120/\∀c∈z.cps.toList,32<c/\c<128
def Wd.wa{z:Str}(h:Wd z):Wa z:=h.2
def Wa.as{z:Str}(h:Wa z):As z:=λc hc=>(h.2 c hc).2
def Wa.line{z:Str}(h:Wa z):z.length<=aC:=cb (lu<|by have:=h.1;lia)
noncomputable def sK(c:Nat):Bool:=decide (48<=c)&&decide (c<=57)
def ay9:∀c<128,(!(Builtin.Str.occurrences (aa "0123456789") ⟨#[c]⟩ 0 (aa "0123456789").length 1).isEmpty)=sK c:=by decide +kernel
def ae6(zs:Z9 Str):((zs.map PyData.str).any λe=>c8 e<|.str<|aa "")=zs.any (λz=>decide<|z=aa ""):=by rw[List.any_map];rfl
noncomputable def iP(ws:Z9 Str)(z:Str)(k:Nat):Bool:=decide (ws.head?=some z)&&(decide (ws.length=1+k) && !ws.any (λz=>decide<|z=aa ""))
noncomputable def pj(z:Str):Z9 Str:=jt z ⟨#[47]⟩
noncomputable def pK(c:Nat):Bool:=decide (c=46)||(decide (65<=c)&&decide (c<=90))
noncomputable def Ba(z:Str):Bool:=!(pj z).any (λz=>decide<|z=aa "")&&((pj z).all (λx=>decide<|x.length=((pj z).headD (aa "")).length)&&(pj z).all λx=>x.cps.toList.all pK)
seal L2.PE L2.PT L2.PW L2.PA L2.PS L2.PSs L2.PG L2.PGs L2.PI L2.PO
def avm:Sp:=λvs H Q _=>∃z:Str,vs=[.str z,.int 2]/\Wa z/\∀H',Same H H'->Q (.bl<|sI z) H'
def azf:lz ZK ZK (ll J9):={}
theorem aw8(B:∀x∈ux,mg x=none)(JH:GS mg "FIGURES" "0123456789")(F:Fun K "is_numeral" "is_numeral" J9 f fd):FnOk P w K mg base CX0 1 f fd ZK avm:=by
 refine F.ok (k:=0) azf (λvs H Q E h=>?_) λbE A outer s H vs Q E hr h=>?_
 .obtain⟨_,rfl,_⟩:=h;rfl
 obtain⟨z,rfl,hw,q⟩:=h;have hl:=iO z;unfold sI at q;refine⟨_,(kq (o4 (PW.pt<|yb (oy<|vy xm xm k7 (mw nz rfl (B "len"<|by decide) b9<|ku (pv 0) km)<|pv 1)<|ua<|oy<|qc<|mw (qq rfl) rfl (B "all"<|by decide) cC<|ku (nk Z4 [none] rfl rfl (by decide +kernel) (by decide +kernel) rfl rfl (FK<|pv 0) (λ_=>(li (i:=0) (show(Z4:Z9 PySem.Str).Nodup by decide +kernel) rfl<|Or.inl rfl)) (λ_=>ng) λ_=>(ou akr (pv 0) (uq JH rfl) rfl)) km) (lg<|ls o9) mh)
  (lg<|ls<|Bl (ou sd (pv 0) lc<|mr _)<|rm<|ou Ai (m7 Bq (pv 0) k7 λ_ _=>rfl) lc<|mr _)),?_⟩
 refine(mm _ rfl z ⟨rfl,hw.line,(lv _ _ ⟨rfl,rfl,_,rfl,qb (λc1=>?_) λc1=>?_⟩)⟩)
 case' refine_2=>
  have c1:¬1<=z.length:=λh=>c1<|decide_eq_true (show(1:Int)<=(z.length:Nat) by lia);rw[decide_eq_false c1]at q;exact⟨_,rfl,oz<|oz<|q H<|Same.refl _⟩
 have c1:1<=z.length:=by have:=of_decide_eq_true c1;lia
 rw[decide_eq_true c1,fq]at q;refine(nw _ rfl _ _ rfl rfl _ ⟨rfl,qb (λc2=>?_) λc2=>?_⟩)
 .have c2:¬z.length<=2:=λh=>by rw[decide_eq_true (show((z.length:Nat):Int)<=2 by lia)]at c2;cases c2
  rw[decide_eq_false c2]at q;exact q H<|Same.refl _
 have c2:z.length<=2:=dg λh=>c2 (by rw[decide_eq_false (show ¬((z.length:Nat):Int)<=2 by lia)];rfl);rw[decide_eq_true c2,fq]at q;refine(mm _ rfl z ⟨rfl,λD hD=>?_⟩);refine Gi (λi ys H'=>Same H H'/\ys=((z.cps.toList.take i).map sK).map V.bl) ⟨Same.fresh _ hD,rfl⟩ (λi c ys H' hx hi aN aY p=>?_) λys H' aN aY p=>?_
 .obtain⟨p1,rfl⟩:=p;refine⟨Agree.set (Agree.refl _) rfl,?_⟩;dsimp only[wg];refine oz ?_;refine(m8 _ rfl _ _ ⟨rfl,rfl,?_⟩);rw[ay9 c (hw.2 c<|ah hx).2];refine oj (by lia) aN aY ⟨p1.new hD,?_⟩;rw[lq sK hx,ay];rfl
 obtain⟨p1,rfl⟩:=p;refine(lv D (z.cps.toList.map sK) ⟨rfl,by rw[aN,jf],?_⟩);rw[jb,show(id∘sK)=sK from rfl];have q:∀H',Same H H'->Q (.bl<|z.cps.toList.all sK&&(decide (z=aa "0") || !decide (z.cps.toList.headD 0=48))) H':=q;refine⟨_,rfl,qb (λc3=>?_) λc3=>?_⟩
 .rw[show z.cps.toList.all sK=false by cases h:z.cps.toList.all sK<;>rw[h]at c3<;>first|rfl|cases c3]at q;exact q _ p1
 rw[show z.cps.toList.all sK=true by cases h:z.cps.toList.all sK<;>rw[h]at c3<;>first|rfl|exact absurd rfl c3,fq]at q;refine(ma _ rfl rfl _ ⟨rfl,qb (λc4=>?_) λc4=>?_⟩)
 .have c4:z=aa "0":=by injection of_decide_eq_true c4
  rw[decide_eq_true c4,Bool.true_or]at q;exact q _ p1
 have c4:z≠aa "0":=λe=>c4 (by rw[e];exact decide_eq_true rfl);rw[decide_eq_false c4,Bool.false_or]at q;obtain⟨c0,C5⟩:∃c,z.cps.toList[0]?=some c:=⟨_,ae<|by lia⟩;refine(nv _ rfl z _ c0 ⟨rfl,rfl,hw.line,my (j:=0) C5,rfl,?_⟩);have e0:aa "0" = ⟨#[48]⟩:=by decide +kernel
 have ev:decide (V.str ⟨#[c0]⟩=V.str (aa "0"))=decide (z.cps.toList.headD 0=48):=by
  rw[e0];cases hz:z.cps.toList with
  | nil=>rw[hz]at C5;cases C5
  | cons a t=>
   rw[hz]at C5;cases C5;refine decide_eq_decide.mpr ⟨λe=>?_,λe=>by rw[show c0=48 from e]⟩;injection e with e
   injection e with e
   injection e with e
   injection e with e
 rw[ev];exact q _ p1
def KA:Sp:=λvs H Q _=>∃(l:aF)(ws:Z9 Str)(z:Str)(k:Nat),vs=[.ref l,.str z,.int (k:Nat)]/\H l=some (.lst<|ws.map V.str)/\ws≠[]/\(∀x∈ws,Wa x)/\∀H',Same H H'->Q (.bl<|iP ws z k) H'
def ayh:lz ZW ZW (ll Kl):={}
def awz(B:∀x∈ux,mg x=none)(F:Fun K "is_line" "is_line" Kl f fd):FnOk P w K mg base CX0 1 f fd ZW KA:=by
 refine F.ok (k:=0) ayh (λvs H Q E h=>?_) λbE A outer s H vs Q E hr h=>?_
 .obtain⟨_,_,_,_,rfl,_⟩:=h;rfl
 obtain⟨l,ws,z,k,rfl,hl,h0,hw,q⟩:=h;have hu:=hr.units;obtain⟨w0,ws,rfl⟩:=List.exists_cons_of_ne_nil h0;unfold iP at q;refine⟨_,(lg<|ls<|qm (ou sd (m7 nh (pv 0) k7 λ_ _=>rfl) (pv 1)<|mr _)<|qm (ou sd (mw m5 rfl (B "len"<|by decide) b9<|ku (pv 0) km) (ml qf k7<|pv 2)<|mr _)<|rm<|ou (yk hu) lc (pv 0) rfl),?_⟩;refine(k9 _ rfl l _ _ (.str w0) ⟨rfl,rfl,SqL.of hl,my (j:=0) rfl,(ma _ rfl rfl _ ⟨rfl,?_⟩)⟩);rw[show decide (V.str w0=V.str z)=decide ((w0::ws).head?=some z)from decide_eq_decide.mpr ⟨λe=>by injection e with e;rw[e];rfl,λe=>by rw[show w0=z from cn e]⟩];refine qb (λc1=>?_) λc1=>?_
 case' refine_2=>
  rw[show decide ((w0::ws).head?=some z)=false from du.mpr c1]at q;exact q H<|Same.refl _
 rw[c1,fq]at q;refine(nw _ rfl l _ rfl (.inl<|SqL.of hl) _ ⟨rfl,(lv _ _ ⟨rfl,rfl,rfl,_,rfl,?_⟩)⟩);rw[show decide (V.int (((w0::ws).map V.str).length:Nat)=V.int (1+(k:Nat)))=decide ((w0::ws).length=1+k)from decide_eq_decide.mpr ⟨λe=>by injection e with e;rw[af]at e;lia,λe=>by rw[af,e];congr 1⟩];refine qb (λc2=>?_) λc2=>?_
 case' refine_2=>
  rw[show decide ((w0::ws).length=1+k)=false from du.mpr c2]at q;exact q H<|Same.refl _
 rw[c2,fq]at q;refine(k9 _ rfl (.str<|aa "") l _ ((w0::ws).map PyData.str) ⟨⟨rfl,by decide +kernel⟩,rfl,.inl hl,wj λx hx=>(hw x hx).as,by simp[fh],?_⟩);rw[if_pos rfl,ae6];exact q H<|Same.refl _
theorem ahd{c:Nat}:∀{xs:Z9 Str} {z:Str} {x:Nat},z∈xs->x∈z.cps.toList->x∈(a8 ⟨#[c]⟩ xs).cps.toList
 | [y],z,x,h,hx=>by rw[a6.mp h]at hx;exact hx
 | y::y2::r,z,x,h,hx=>by
  rw[og];rcases ap.mp h with rfl|h
  .exact ip _ hx
  .exact ci _<|ak _<|ahd h hx
theorem Gd{c:Nat}:∀{xs:Z9 Str},xs≠[]->(xs.map (·.length)).sum+xs.length=(a8 ⟨#[c]⟩ xs).length+1
 | [],h=>absurd rfl h
 | [y],_=>by show y.length+0+1=_;rfl
 | y::y2::r,_=>by
  have:=Gd (c:=c) (xs:=y2::r) (by simp);have h2:(a8 ⟨#[c]⟩ (y::y2::r)).length=y.length+((a8 ⟨#[c]⟩ (y2::r)).length+1):=by rw[<-iO,og,a9,bc,iO,iO]
  rw[h2,cy,List.sum_cons,bc];lia
theorem Lq:∀{l:Z9 Nat} {x:Nat},x∈l->x<=l.sum
 | a::l,x,h=>by
  rw[List.sum_cons];rcases ap.mp h with rfl|h
  .lia
  .have:=Lq h;lia
def DV(z:Str):pj z≠[]:=λe=>by have:=split_pos z ⟨#[47]⟩;unfold pj at e;rw[e]at this;simp at this
def L8(z:Str):a8 ⟨#[47]⟩ (pj z)=z:=StrLaws.join_split _ _
def F0{z:Str}(h:Wa z):∀x∈pj z,Wa x:=λx hx=>by have e:=L8 z;have l:=Gd (c:=47)<|DV z;rw[e]at l;have:=Lq<|bz (f:=λs:Str=>s.length) hx;have:=List.length_pos_of_mem hx;refine⟨by have:=h.1;lia,λc hc=>h.2 c ?_⟩;rw[<-e];exact ahd hx hc
def aik{z:Str}(h:Wa z):(pj z).length<=121/\((pj z).map (·.length)).sum<=120:=by have e:=L8 z;have l:=Gd (c:=47)<|DV z;rw[e]at l;have:=h.1;have:=List.length_pos_iff.mpr<|DV z;lia
def as3(a b:Nat):decide (V.int ((a:Nat):Int)=V.int ((b:Nat):Int))=decide (a=b):=decide_eq_decide.mpr ⟨λe=>by injection e with e;lia,λe=>by rw[e]⟩
def aq3:Sp:=λvs H Q _=>∃z:Str,vs=[.str z]/\Wa z/\∀H',Same H H'->Q (.bl<|Ba z) H'
def scIpic:lz ["word","rows"] ["word"] (ll KJ):={}
def auc(B:∀x∈ux,mg x=none)(A3:GS mg "NO_CELL" ".")(xQ:Fn P w K mg base "is_sign" 1 Z7 spS)(F:Fun K "is_picture" "is_picture" KJ f fd):FnOk P w K mg base CX0 2 f fd ["word"] aq3:=by
 refine F.ok (k:=1) scIpic (λvs H Q E h=>?_) λbE A outer s H vs Q E hr h=>?_
 .obtain⟨_,rfl,_⟩:=h;rfl
 obtain⟨pic,rfl,hw,q⟩:=h;have hu:=hr.units;have EU:=F0 hw;obtain⟨h121,hs120⟩:=aik hw;have dO:=DV pic;have hw1:=hw.1;unfold Ba at q;refine⟨_,(kq (l4 (i:=1) scIpic.nd rfl (Or.inr rfl)<|qi bp gu gv uv (pv 0)<|ku lc km)
  (kq (o4 (PW.pt<|yb (m6 (aqs hu) lc (pv 1) rfl)<|ua<|oy<|qc<|mw (qq rfl) rfl (B "all"<|by decide) cC<|ku (nk ["row","rows"] [none,some 1] rfl rfl (by decide +kernel) (by decide +kernel) rfl rfl (o8<|pv 1) (λ_=>(li (i:=0) (show(["row","rows"]:Z9 PySem.Str).Nodup by decide +kernel) rfl<|Or.inl rfl)) (λ_=>ng) λ_=>(ou sd (mw nz rfl (B "len"<|by decide) b9<|ku (pv 0) km) (mw nz rfl (B "len"<|by decide) b9<|ku (m7 LU (pv 1) k7 λ_ _=>rfl) km)<|mr _)) km) (lg<|ls o9) mh)
  (lg<|ls<|mw (qq rfl) rfl (B "all"<|by decide) cC<|ku (nk Z4 [none] rfl rfl (by decide +kernel) (by decide +kernel) rfl rfl (FK<|qi bp cw cx rn lc<|ku (pv 1) km) (λ_=>(li (i:=0) (show(Z4:Z9 PySem.Str).Nodup by decide +kernel) rfl<|Or.inl rfl)) (λ_=>ng) λ_=>(Bl (ou sd (pv 0) (uq A3 rfl)<|mr _)<|rm<|me xQ hr (by decide) rfl<|ku (pv 0) km)) km))),?_⟩
 refine(ma _ rfl rfl _ ⟨47,rfl,by rw[e47],cb<|lu<|by lia,λl oC=>?_⟩);rw[show jt pic ⟨#[47]⟩=pj pic from rfl];generalize pj pic=zs at *;generalize g1:upd H l _=H1 at *;obtain⟨s1,e1⟩:=al oC g1;clear g1;refine(k9 _ rfl (.str<|aa "") l _ (zs.map PyData.str) ⟨⟨rfl,by decide +kernel⟩,rfl,.inl e1,wj λz hz=>(EU z hz).as,by simp[fh],_,rfl,?_⟩);rw[if_neg (by decide),ae6];refine qb (λc1=>?_) λc1=>?_
 .rw[c1]at q;exact q _ s1
 rw[du.mpr c1,Bool.not_false,fq]at q;obtain⟨z0,zr,rfl⟩:=List.exists_cons_of_ne_nil dO;have m0:z0∈z0::zr:=aj;have qI:(z0::zr)[0]?=some z0:=rfl;generalize ez:z0::zr=zs at *;refine(mm _ rfl l ⟨rfl,⟨_,SqL.of e1⟩,λD hD=>?_⟩);refine ny (xs:=zs.map V.str) (λi ys J=>Same H1 J/\ys=((zs.take i).map λx=>decide<|x.length=z0.length).map V.bl) ⟨Same.fresh _ hD,rfl⟩ (λi ys J p=>SqL.of<|p.1 _ _ e1) (λi x ys J hx hi aN aY p=>?_) λys J aN aY p=>?_
 .obtain⟨p1,rfl⟩:=p;rw[au]at hx;obtain⟨z,hz,rfl⟩:=bn.mp hx;have mz:=ah hz;refine⟨Agree.set (Agree.refl _) rfl,?_⟩;dsimp only[wg];refine oz ?_;refine(mm _ rfl z ⟨rfl,(EU z mz).line,(k9 _ rfl l _ _ (.str z0) ⟨rfl,rfl,SqL.of<|p1 _ _ e1,my (j:=0)<|by rw[au,qI];rfl,z0,rfl,(EU z0 m0).line,rfl,?_⟩)⟩);rw[as3];refine oj (by rw[af]at hi;lia) aN aY ⟨p1.new hD,?_⟩;rw[lq (λx:Str=>decide<|x.length=z0.length) hz,ay];rfl
 obtain⟨p1,rfl⟩:=p;rw[af,jf]at aN;refine(lv D (zs.map λx=>decide<|x.length=z0.length) ⟨rfl,aN,?_⟩);rw[jb,show(id∘λx:Str=>decide<|x.length=z0.length)=λx=>decide (x.length=z0.length)from rfl];have q:∀H',Same H H'->Q (.bl<|zs.all (λx=>decide<|x.length=z0.length)&&zs.all λx=>x.cps.toList.all pK) H':=by rw[<-ez]at q⊢;exact q
 refine⟨_,rfl,qb (λc2=>?_) λc2=>?_⟩
 .rw[show zs.all (λx=>decide<|x.length=z0.length)=false by cases h:zs.all (λx=>decide<|x.length=z0.length)<;>rw[h]at c2<;>first|rfl|cases c2]at q;exact q _<|s1.trans p1
 rw[show zs.all (λx=>decide<|x.length=z0.length)=true by cases h:zs.all (λx=>decide<|x.length=z0.length)<;>rw[h]at c2<;>first|rfl|exact absurd rfl c2,fq]at q;have e2:=p1 _ _ e1;have e0:(aa "").length=0:=by decide +kernel
 refine⟨rfl,(nv _ rfl _ l zs ⟨rfl,rfl,e2,by rw[e0];lia,_,rfl,λD2 dF=>?_⟩)⟩;have hy:(j8 (aa "") zs).cps.toList=(zs.map λz=>z.cps.toList).flatten:=by rw[um (by decide +kernel)]
 have hj:∀c∈(j8 (aa "") zs).cps.toList,32<c/\c<128:=λc hc=>by rw[hy]at hc;obtain⟨x,hx,hcx⟩:=List.mem_flatten.mp hc;obtain⟨z,hz,rfl⟩:=a7.mp hx;exact(EU z hz).2 c hcx
 have CO:(j8 (aa "") zs).cps.toList.length<=200:=by rw[hy,List.length_flatten,gd];have e:(zs.map (List.length∘λz:Str=>z.cps.toList)).sum=(zs.map (·.length)).sum:=congrArg List.sum<|ix λz _=>iO z;rw[e];lia
 have q:∀H',Same H H'->Q (.bl<|(j8 (aa "") zs).cps.toList.all pK) H':=by rw[hy,List.all_flatten,jb];exact q
 generalize j8 (aa "") zs=y at *;refine Gi (λi ys H'=>Same J H'/\ys=((y.cps.toList.take i).map pK).map V.bl) ⟨Same.fresh _ dF,rfl⟩ (λi c ys H' hx hi aN aY p=>?_) λys H' aN aY p=>?_
 .obtain⟨p2,rfl⟩:=p;refine⟨Agree.set (Agree.refl _) rfl,?_⟩;dsimp only[wg];refine oz ?_;have hc:=hj c<|ah hx;have cS:∀b,b=pK c->Nx D2 i (λi ys H'=>Same J H'/\ys=((y.cps.toList.take i).map pK).map V.bl) (upd H' D2<|.lst<|((y.cps.toList.take i).map pK).map V.bl++[V.bl b]):=λb hb=>by
   refine⟨_,k8,by rw[a9,cu];lia,p2.new dF,?_⟩;rw[lq pK hx,ay,hb];rfl
  have JT:decide (V.str ⟨#[c]⟩=V.str (aa "."))=decide (c=46):=decide_eq_decide.mpr ⟨λe=>by rw[e46]at e;injection e with e;injection e with e;injection e with e;injection e,λe=>by rw[e,e46]⟩;refine⟨_,rfl,rfl,?_⟩;rw[JT];refine⟨_,rfl,qb (λc3=>⟨_,aN,lu<|by lia,cS _ ?_⟩) λc3=>?_⟩
  .unfold pK;rw[c3];rfl
  refine(mm _ rfl (.str ⟨#[c]⟩) ⟨rfl,(zh (n:=0)<|tx1<|by lia).kn,?_⟩);refine⟨_,aN,lu<|by lia,cS _ ?_⟩;unfold pK;rw[du.mpr c3];rfl
 obtain⟨p2,rfl⟩:=p;rw[jf]at aN;refine(lv D2 (y.cps.toList.map pK) ⟨rfl,aN,?_⟩);rw[jb];exact q _<|(s1.trans p1).trans p2
noncomputable def nth(ws:Z9 Str)(i:Nat):Str:=ws.getD i<|aa ""
noncomputable def jH(ws:Z9 Str):Bool:=iP ws (aa "piece") 5&&(sI (nth ws 2)&&((decide (nth ws 3=aa "any")||sI (nth ws 3))&&Ba (nth ws 5)))
noncomputable def Ad(a:Z9 Str)(ps rs:Z9 (Z9 Str)):Bool:=iP a (aa "floor") 1&&(ps.all jH&&rs.all λws=>iP ws (aa "apart") 2)
def FR{ws:Z9 Str}{k:Nat}{z:Str}(h:iP ws z k=true):ws.length=1+k:=by unfold iP at h;rw[bf,bf]at h;exact of_decide_eq_true h.2.1
def Bu{ws:Z9 Str}{i:Nat}(h:i<ws.length):(ws.map V.str)[i]?=some (.str<|nth ws i):=by rw[au,ae h];unfold nth;rw[bu,ae h];rfl
def FU{ws:Z9 Str}{i:Nat}(h:i<ws.length):nth ws i∈ws:=by unfold nth;rw[bu,ae h];exact fz h
def WsAt(H:Hp)(cV:Z9 (Z9 Str))(xs:Z9 V):Prop:=xs.length=cV.length/\∀(i:Nat) v ws,xs[i]?=some v->cV[i]?=some ws->∃l,v=.ref l/\H l=some (.lst<|ws.map V.str)
def WsAt.same{H H':Hp}{cV:Z9 (Z9 Str)}{xs:Z9 V}(h:WsAt H cV xs)(s:Same H H'):WsAt H' cV xs:=⟨h.1,λi v ws h1 h2=>by obtain⟨l,e,hl⟩:=h.2 i v ws h1 h2;exact⟨l,e,s _ _ hl⟩⟩
theorem WsAt.at{H:Hp}{cV:Z9 (Z9 Str)}{xs:Z9 V}(h:WsAt H cV xs){i:Nat}{v:V}(hx:xs[i]?=some v):∃ws l,cV[i]?=some ws/\v=.ref l/\H l=some (.lst<|ws.map V.str):=by have hi:=(ar.mp hx).1;rw[h.1]at hi;obtain⟨l,e,hl⟩:=h.2 i v _ hx<|ae hi;exact(lv _ l ⟨ae hi,e,hl⟩)
def LnW(cV:Z9 (Z9 Str)):Prop:=∀ws∈cV,ws≠[]/\∀x∈ws,Wa x
def av6:Sp:=λvs H Q _=>∃(l:aF)(ws:Z9 Str),vs=[.ref l]/\H l=some (.lst<|ws.map V.str)/\ws≠[]/\(∀x∈ws,Wa x)/\∀H',Same H H'->Q (.bl<|jH ws) H'
def ay4:lz Z6 Z6 (ll Kb):={}
theorem axf(Fi:GI mg "MOST_FIGURES" 2)(A4:GS mg "ENDLESS" "any")(vL:Fn P w K mg base "is_line" 1 ZW KA)(D0:Fn P w K mg base "is_numeral" 1 ZK avm)(Eb:Fn P w K mg base "is_picture" 2 ["word"] aq3)(F:Fun K "is_piece_line" "is_piece_line" Kb f fd):FnOk P w K mg base CX0 3 f fd Z6 av6:=by
 refine F.ok (k:=2) ay4 (λvs H Q E h=>?_) λbE A outer s H vs Q E hr h=>?_
 .obtain⟨_,_,rfl,_⟩:=h;rfl
 obtain⟨l,ws,rfl,hl,h0,hw,q⟩:=h;unfold jH at q;refine⟨_,(kq (o4 (PW.pt<|yb (oy<|qc<|me vL hr (by decide) rfl<|ku (pv 0)<|ku lc<|ku k7 km)<|ua<|oy<|qc<|me D0 hr (by decide) rfl<|ku (m7 nh (pv 0) k7 λ_ _=>rfl)<|ku (su Fi rfl) km) (lg<|ls o9) mh)
  (lg<|ls<|qm (Bl (ou sd (m7 nh (pv 0) k7 λ_ _=>rfl) (uq A4 rfl)<|mr _)<|rm<|me D0 hr (by decide) rfl<|ku (m7 nh (pv 0) k7 λ_ _=>rfl)<|ku (su Fi rfl) km)<|rm<|me Eb hr (by decide) rfl<|ku (m7 nh (pv 0) k7 λ_ _=>rfl) km)),?_⟩
 refine(k9 _ rfl l ws (aa "piece") 5 ⟨rfl,hl,h0,hw,λH1 s1=>⟨_,rfl,?_⟩⟩);cases e1:iP ws (aa "piece") 5 with
 | false=>
  rw[e1]at q;exact oz (q _ s1)
 | true=>
 rw[e1,fq]at q;have l6:=FR e1;refine tw ?_;have l1:=s1 _ _ hl;refine(k9 _ rfl l _ _ (.str<|nth ws 2) ⟨rfl,rfl,SqL.of l1,my (j:=2)<|Bu<|by lia,nth ws 2,rfl,hw _<|FU<|by lia,λH2 s2=>⟨_,rfl,?_⟩⟩);cases e2:sI (nth ws 2)with
 | false=>
  rw[e2]at q;exact oz (q _<|s1.trans s2)
 | true=>
 rw[e2,fq]at q;refine tw ?_;have l2:=s2 _ _ l1;refine(k9 _ rfl l _ _ (.str<|nth ws 3) ⟨rfl,rfl,SqL.of l2,my (j:=3)<|Bu<|by lia,rfl,_,rfl,?_⟩);refine qb (λh=>?_) λh=>?_
 .have h:nth ws 3=aa "any":=by injection of_decide_eq_true h
  rw[decide_eq_true h,Bool.true_or,fq]at q;refine⟨_,rfl,oz ?_⟩;exact(k9 _ rfl l _ _ (.str<|nth ws 5) ⟨rfl,rfl,SqL.of l2,my (j:=5)<|Bu<|by lia,nth ws 5,rfl,hw _<|FU<|by lia,λH3 s3=>q H3<|(s1.trans s2).trans s3⟩)
 .have h:nth ws 3≠aa "any":=λe=>h (by rw[e];exact decide_eq_true rfl);rw[decide_eq_false h,Bool.false_or]at q;refine(k9 _ rfl l _ _ (.str<|nth ws 3) ⟨rfl,rfl,SqL.of l2,my (j:=3)<|Bu<|by lia,nth ws 3,rfl,hw _<|FU<|by lia,λH3 s3=>⟨_,rfl,?_⟩⟩);cases e3:sI (nth ws 3)with
  | false=>
   rw[e3]at q;exact tw (q _<|(s1.trans s2).trans s3)
  | true=>
  rw[e3,fq]at q;exact oz<|k9 _ rfl l _ _ (.str<|nth ws 5) ⟨rfl,rfl,SqL.of<|s3 _ _ l2,my (j:=5)<|Bu<|by lia,nth ws 5,rfl,hw _<|FU<|by lia,λH4 s4=>q H4<|((s1.trans s2).trans s3).trans s4⟩
def av2:Sp:=λvs H Q _=>∃(a p r:aF)(aw:Z9 Str) (ps rs:Z9 (Z9 Str)) (xs ys:Z9 V),vs=[.ref a,.ref p,.ref r]/\H a=some (.lst<|aw.map V.str)/\aw≠[]/\(∀x∈aw,Wa x)/\H p=some (.lst xs)/\WsAt H ps xs/\LnW ps/\H r=some (.lst ys)/\WsAt H rs ys/\LnW rs/\ps.length<=30/\rs.length<=30/\∀H',Same H H'->Q (.bl<|Ad aw ps rs) H'
def ayu:lz ZJ ZJ (ll Kf):={}
theorem avy(B:∀x∈ux,mg x=none)(vL:Fn P w K mg base "is_line" 1 ZW KA)(Mv:Fn P w K mg base "is_piece_line" 3 Z6 av6)(F:Fun K "are_lines" "are_lines" Kf f fd):FnOk P w K mg base CX0 4 f fd ZJ av2:=by
 refine F.ok (k:=3) ayu (λvs H Q E h=>?_) λbE A outer s H vs Q E hr h=>?_
 .obtain⟨_,_,_,_,_,_,_,_,rfl,_⟩:=h;rfl
 obtain⟨a,p,r,aw,ps,rs,xs,ys,rfl,ha,a0,Fb,hp,wX,lX,hR,wY,lY,x30,y30,q⟩:=h;have lx:=wX.1;have ly:=wY.1;unfold Ad at q;refine⟨_,(kq (o4 (oy<|qc<|me vL hr (by decide) rfl<|ku (pv 0)<|ku lc<|ku k7 km) (lg<|ls o9) mh)
  (lg<|ls<|qm (mw (qq rfl) rfl (B "all"<|by decide) cC<|ku (nk Z6 [none] rfl rfl (by decide +kernel) (by decide +kernel) rfl rfl (o8<|pv 1) (λ_=>(li (i:=0) (show(Z6:Z9 PySem.Str).Nodup by decide +kernel) rfl<|Or.inl rfl)) (λ_=>ng) λ_=>(me Mv hr (by decide) rfl<|ku (pv 0) km)) km)<|rm<|mw (qq rfl) rfl (B "all"<|by decide) cC<|ku (nk Z6 [none] rfl rfl (by decide +kernel) (by decide +kernel) rfl rfl (o8<|pv 2) (λ_=>(li (i:=0) (show(Z6:Z9 PySem.Str).Nodup by decide +kernel) rfl<|Or.inl rfl)) (λ_=>ng) λ_=>(me vL hr (by decide) rfl<|ku (pv 0)<|ku lc<|ku k7 km)) km)),?_⟩
 refine(k9 _ rfl a aw (aa "floor") 1 ⟨rfl,ha,a0,Fb,λH1 s1=>⟨_,rfl,?_⟩⟩);cases e1:iP aw (aa "floor") 1 with
 | false=>
  rw[e1]at q;exact oz (q _ s1)
 | true=>
 rw[e1,fq]at q;refine tw ?_;refine(mm _ rfl p ⟨rfl,⟨_,SqL.of<|s1 _ _ hp⟩,λD hD=>?_⟩);refine ny (xs:=xs) (λi zs J=>Same H1 J/\zs=((ps.take i).map jH).map V.bl) ⟨Same.fresh _ hD,rfl⟩ (λi zs J p=>SqL.of<|p.1 _ _<|s1 _ _ hp) (λi x zs J hx hi aN gT pp=>?_) λzs J aN gT pp=>?_
 .obtain⟨p1,rfl⟩:=pp;obtain⟨ws,b,hws,rfl,hb⟩:=(wX.same<|s1.trans p1).at hx;have hl:=lX ws<|ah hws;refine⟨Agree.set (Agree.refl _) rfl,?_⟩;dsimp only[wg];refine oz ?_;refine(m8 _ rfl b ws ⟨rfl,hb,hl.1,hl.2,λJ2 s2=>?_⟩);refine oj (by lia) (s2 _ _ aN) gT ⟨(p1.trans s2).new hD,?_⟩;rw[lq jH hws,ay];rfl
 obtain⟨p1,rfl⟩:=pp;rw[bb (by lia)]at aN;refine(lv D (ps.map jH) ⟨rfl,aN,?_⟩);rw[jb,show(id∘jH)=jH from rfl];have BK:=s1.trans p1;refine⟨_,rfl,?_⟩;cases e2:ps.all jH with
 | false=>
  rw[e2]at q;exact tw (q _ BK)
 | true=>
 rw[e2,fq]at q;refine oz ?_;refine(mm _ rfl r ⟨rfl,⟨_,SqL.of<|BK _ _ hR⟩,λD2 dF=>?_⟩);refine ny (xs:=ys) (λi zs J2=>Same J J2/\zs=((rs.take i).map λws=>iP ws (aa "apart") 2).map V.bl) ⟨Same.fresh _ dF,rfl⟩ (λi zs J p=>SqL.of<|p.1 _ _<|BK _ _ hR) (λi x zs J2 hx hi aN gT pp=>?_) λzs J2 aN gT pp=>?_
 .obtain⟨p2,rfl⟩:=pp;obtain⟨ws,b,hws,rfl,hb⟩:=(wY.same<|BK.trans p2).at hx;have hl:=lY ws<|ah hws;refine⟨Agree.set (Agree.refl _) rfl,?_⟩;dsimp only[wg];refine oz ?_;refine(k9 _ rfl b ws (aa "apart") 2 ⟨rfl,hb,hl.1,hl.2,λJ3 s3=>?_⟩);refine oj (by lia) (s3 _ _ aN) gT ⟨(p2.trans s3).new dF,?_⟩;rw[lq (λws=>iP ws (aa "apart") 2) hws,ay];rfl
 obtain⟨p2,rfl⟩:=pp;rw[bb (by lia)]at aN;refine(lv D2 (rs.map λws=>iP ws (aa "apart") 2) ⟨rfl,aN,?_⟩);rw[jb];exact q _<|BK.trans p2
structure Kr where
 z:Str
 l:Nat
 m:Option Nat
 md:Str
 ss:Z9 Sg
noncomputable def mD:Option Nat->Z8
 | none=>.none
 | some j=>.int (j:Nat)
noncomputable def krD(k:Kr):Z8:=.tuple [.str k.z,.int (k.l:Nat),mD k.m,.str k.md,.tuple<|k.ss.map sgD]
structure KrO(k:Kr):Prop where
 nm:NmV k.z
 l64:k.l<=64
 m64:∀j,k.m=some j->j<=64
 md:tR k.md=true
 fs:FrS k.ss
noncomputable def Bs(k:Kr)(pic:Str):Z9 Str:=[aa "piece",k.z,pL k.l,vD k.m,k.md,pic]
def axo{z:Str}(h:NmV z):Wd z:=by have h2:(decide (1<=z.length)&&decide (z.length<=8)&&z.cps.toList.all smB)=true:=h.2;rw[bf,bf]at h2;refine⟨of_decide_eq_true h2.1.1,by have:=of_decide_eq_true h2.1.2;lia,λc hc=>?_⟩;have:=bq.mp h2.2 c hc;unfold smB at this;simp at this;lia
def awt{z:Str}(h:tR z=true):Wd z:=by unfold tR at h;rw[Bool.or_eq_true_iff,Bool.or_eq_true_iff,decide_eq_true_iff,decide_eq_true_iff,decide_eq_true_iff]at h;rcases h with (rfl|rfl)|rfl<;>exact wdL<|by decide +kernel
theorem awq{m:Option Nat}(h:∀j,m=some j->j<=64):Wd (vD m):=by
 cases m with
 | none=>exact wdL (by decide +kernel)
 | some j=>exact wdL (FY j<|h j rfl).2.1
def KH{k:Kr}(h:KrO k){pic:Str}(hp:PicOf k.ss pic):∀x∈Bs k pic,Wd x:=λx hx=>by
 unfold Bs at hx;simp only[ap,cv,or_false]at hx;rcases hx with rfl|rfl|rfl|rfl|rfl|rfl
 .exact wdL<|by decide +kernel
 .exact axo h.nm
 .exact wdL (FY _ h.l64).2.1
 .exact awq h.m64
 .exact awt h.md
 .exact hp.wd h.fs.ltr
noncomputable def wsD(ws:Z9 Str):Z8:=.list<|ws.map PyData.str
def FF{H:Hp}{ws:Z9 Str}{v:V}(h:Rep H (wsD ws) v):∃a,v=.ref a/\H a=some (.lst<|ws.map V.str):=by obtain⟨a,xs,rfl,ha,r⟩:=h;exact⟨a,rfl,by rw[<-w4 r];exact ha⟩
noncomputable def Am(z:Str):Z9 Z8:=(vc (pj z) (pj z).length).filter isP
noncomputable def wm(z:Str):Z9 Z8:=qp<|ox<|Am z
structure PcW(z:Str):Prop where
 wa:Wa z
 n10:(pj z).length<=10
 w10:∀x∈pj z,x.length<=10
 few:(Am z).length<64
 len:(wm z).length<=60
 sg:∀d∈wm z,SgD d
structure Kw where
 z:Str
 l:Nat
 m:Option Nat
 md:Str
 pic:Str
noncomputable def kwW(k:Kw):Z9 Str:=[aa "piece",k.z,pL k.l,vD k.m,k.md,k.pic]
noncomputable def kwD(k:Kw):Z8:=.tuple [.str k.z,.int (k.l:Nat),mD k.m,.str k.md,.tuple<|wm k.pic]
structure KwO(k:Kw):Prop where
 z:Wa k.z
 z8:k.z.length<=80
 l:k.l<=99
 m:∀j,k.m=some j->j<=99
 md:Wa k.md
 md8:k.md.length<=80
 pic:PcW k.pic
def K7:∀n≤99,sI (pL n)=true/\wdB (pL n)=true/\pL n≠aa "any":=by decide +kernel
theorem aem(r:Nat)(cs:Z9 Nat):∀k,(y0 r cs k).length<=k
 | 0=>av _
 | k+1=>by have:=aem r cs k;unfold y0;rw[a9];cases cs[k]?<;>simp<;>lia
theorem ahy{zs:Z9 Str}(h:∀x∈zs,x.length<=10):∀k,(vc zs k).length<=k*10
 | 0=>av _
 | k+1=>by
  have:=ahy h k;unfold vc;rw[a9];cases e:zs[k]? with
  | none=>simp;lia
  | some z=>
   have h1:=aem k z.cps.toList z.cps.toList.length;have h2:=h z<|ah e;rw[iO]at h1;show _+(y0 k z.cps.toList z.cps.toList.length).length<=_;rw[iO];lia
def aki{zs:Z9 Str}(n:zs.length<=10)(h:∀x∈zs,x.length<=10):(vc zs zs.length).length<=100:=by have:=ahy h zs.length;lia
def az4:Sp:=λvs H Q _=>∃(pic:Str),vs=[.str pic]/\PcW pic/\∀(r:aF)(H':Hp),Same H H'->Rep H' (.tuple<|wm pic) (.ref r)->Q (.ref r) H'
def a0y:lz ["picture"] ["picture"] (ll sRf):={}
theorem ayz(A3:GS mg "NO_CELL" ".")(Ap:Fn P w K mg base "floor_spots" 1 ["floor"] ann)(Ax:Fn P w K mg base "formed" 1 ["spots"] Ks)(F:Fun K "read_form" "read_form" sRf f fd):FnOk P w K mg base CX0 2 f fd ["picture"] az4:=by
 refine F.ok (k:=1) a0y (λvs H Q E h=>?_) λbE A outer s H vs Q E hr h=>?_
 .obtain⟨_,rfl,_⟩:=h;rfl
 obtain⟨pic,rfl,hp,q⟩:=h;have hz2:=hp.wa.1;have n10:=hp.n10;have few:=hp.few;have wH:PcR (pj pic):=λz hz=>⟨hp.w10 z hz,(F0 hp.wa z hz).as⟩;refine⟨_,(lg<|ls<|me Ax hr (by decide) rfl<|ku (nk ZZ [none] rfl rfl (by decide +kernel) (by decide +kernel) rfl rfl (o8<|me Ap hr (by decide) rfl<|ku (qi bp gu gv uv (pv 0)<|ku lc km) km) (λ_=>(li (i:=0) (show(ZZ:Z9 PySem.Str).Nodup by decide +kernel) rfl<|Or.inl rfl)) (λ_=>xt<|m6 Ai (m7 vt (pv 0) k7 λ_ _=>rfl) (uq A3 rfl)<|mr _) λ_=>(pv 0)) km),?_⟩;refine(ma _ rfl rfl _ ⟨47,rfl,by rw[e47],cb<|lu<|by lia,λl oC=>?_⟩);rw[show jt pic ⟨#[47]⟩=pj pic from rfl];generalize g1:upd H l _=H1 at *;obtain⟨s1,e1⟩:=al oC g1;clear g1;refine(lv l _ ⟨rfl,e1,n10,wH,λD ys H2 s2 hD rep=>?_⟩);have E1:Spots (vc (pj pic) (pj pic).length):=xq _ _;have lrd:(vc (pj pic) (pj pic).length).length<=100:=aki n10 hp.w10;unfold Am at few;have q:∀(r:aF)(H':Hp),Same H H'->Rep H' (.tuple<|qp<|ox<|(vc (pj pic) (pj pic).length).filter isP) (.ref r)->Q (.ref r) H':=q;generalize vc (pj pic) (pj pic).length=rd at *;have ly:=rep.length;refine⟨D,rfl,⟨_,SqL.of hD⟩,λD2 dF=>?_⟩;refine ny (xs:=ys) (λi zs J=>Same H2 J/\RepAll J ((rd.take i).filter isP) zs) ⟨Same.fresh _ dF,rfl⟩ (λi zs J p=>SqL.of<|p.1 _ _ hD) (λi x zs J hx hi aN gT pp=>?_) λzs J aN gT pp=>?_
 .obtain⟨p1,p2⟩:=pp;obtain⟨b,r,c,z,rfl,hb,hz,hd⟩:=E1.at rep hx;have hbJ:=p1 _ _ hb;have step:(rd.take<|i+1).filter isP=(rd.take i).filter isP++if isP (.tuple [.int r,.int c,.str z])=true then[.tuple [.int r,.int c,.str z]]else[]:=by
   rw[jl,hd,jc]
   congr 1
   show List.filter isP [_]=_;rw[List.filter_cons,List.filter_nil]
  refine⟨Agree.set (Agree.refl _) rfl,?_⟩;refine(k9 _ rfl b _ _ _ ⟨rfl,rfl,SqT.of hbJ,my (j:=2) rfl,rfl,_,rfl,?_⟩);rw[e46];refine qb (λhc=>?_) λhc=>?_
  .have hP:isP (.tuple [.int r,.int c,.str z])=true:=by
    show(!decide (z=⟨#[46]⟩))=true;rw[decide_eq_false]
    .rfl
    .rintro rfl;exact absurd hc<|by simp
   refine⟨_,rfl,oj (by lia) aN gT ⟨p1.new dF,?_⟩⟩;rw[step,if_pos hP];have im:qu ((rd.take i).filter isP++[.tuple [.int r,.int c,.str z]])=true:=Spots.imm λd hd=>by
    rcases bo.mp hd with h|h
    .exact E1 d<|fy (f7.mp h).1
    .rw[a6.mp h];exact(mj _ _ _ rfl)
   exact(p2.snoc<|xb hbJ hz).tk (Tk.lst aN) im
  .have hP:¬isP (.tuple [.int r,.int c,.str z])=true:=λh=>by
    have h:(!decide (z=⟨#[46]⟩))=true:=h;refine hc ?_;cases nE:decide (z=⟨#[46]⟩)with
    | true=>rw[nE]at h;cases h
    | false=>
     have:=of_decide_eq_false nE;rw[decide_eq_false (λe=>this<|by injection e)];rfl
   refine⟨zs,aN,by lia,p1,?_⟩;rw[step,if_neg hP,f9];exact p2
 obtain⟨p1,p2⟩:=pp;rw[bb (by lia)]at p2;have sp:Spots (rd.filter isP):=λd hd=>E1 d (f7.mp hd).1;refine(mj D2 zs _ ⟨rfl,.inl aN,p2,sp,few,λr H9 s9 yG=>?_⟩);exact q r H9 (((s1.trans s2).trans p1).trans s9) yG
def a0m:Sp:=λvs H Q _=>∃(l:aF)(k:Kw),vs=[.ref l]/\H l=some (.lst<|(kwW k).map V.str)/\KwO k/\∀(r:aF)(H':Hp),Same H H'->Rep H' (kwD k) (.ref r)->Q (.ref r) H'
def scRk:lz ["words","most"] Z6 (ll sRk):={}
theorem ayl(B:∀x∈ux,mg x=none)(A4:GS mg "ENDLESS" "any")(Frf:Fn P w K mg base "read_form" 2 ["picture"] az4)(F:Fun K "read_kind" "read_kind" sRk f fd):FnOk P w K mg base CX0 3 f fd Z6 a0m:=by
 refine F.ok (k:=2) scRk (λvs H Q E h=>?_) λbE A outer s H vs Q E hr h=>?_
 .obtain⟨_,_,rfl,_⟩:=h;rfl
 obtain⟨l,k,rfl,hl,ho,q⟩:=h;refine⟨_,(kq (l4 (i:=1) scRk.nd rfl (Or.inl rfl)<|apb (m6 sd (m7 nh (pv 0) k7 λ_ _=>rfl) (uq A4 rfl)<|mr _) DP<|x9 zu rfl (B "int"<|by decide) PyProof.Rows.boot_int<|ku (m7 nh (pv 0) k7 λ_ _=>rfl) km)
  (lg<|ls<|qd<|ku (m7 nh (pv 0) k7 λ_ _=>rfl)<|ku (x9 zu rfl (B "int"<|by decide) PyProof.Rows.boot_int<|ku (m7 nh (pv 0) k7 λ_ _=>rfl) km)<|ku (pv 1)<|ku (m7 nh (pv 0) k7 λ_ _=>rfl)<|ku (me Frf hr (by decide) rfl<|ku (m7 nh (pv 0) k7 λ_ _=>rfl) km) km)),?_⟩
 dsimp only[ve];refine ahq (λσ' G=>∃v:V,σ'=[some (.ref l),some v]/\G=H/\∀H',Rep H' (mD k.m) v) ?_ λDh lV rtE=>?_
 case' refine_2=>
  refine(k9 _ rfl l _ _ (.str<|vD k.m) ⟨rfl,rfl,SqL.of hl,my (j:=3) rfl,rfl,_,rfl,?_⟩);cases e:k.m with
  | none=>
   refine qb (λ_=>?_) λh=>absurd (decide_eq_true rfl) h;exact lV _ _ ⟨_,rfl,rfl,λH'=>by rw[e];exact rfl⟩
  | some j=>
   have hj:=ho.m j e;refine qb (λh=>?_) λ_=>?_
   .have:=of_decide_eq_true h;injection this with this
    exact absurd this (K7 j hj).2.2
   .refine(k9 _ rfl l _ _ (.str<|pL j) ⟨rfl,rfl,SqL.of hl,my (j:=3)<|by unfold kwW;rw[e];rfl,(j:Nat),rfl,by lia,by lia,?_⟩);exact lV _ _ ⟨_,rfl,rfl,λH'=>by rw[e];exact rfl⟩
 rintro σ' G ⟨v,rfl,rfl,hv⟩;refine(k9 _ rfl l _ _ (.str k.z) ⟨rfl,rfl,SqL.of hl,my (j:=1) rfl,(k9 _ rfl l _ _ (.str<|pL k.l) ⟨rfl,rfl,SqL.of hl,my (j:=2) rfl,(k.l:Nat),rfl,by lia,by have:=ho.l;lia,(mi _ rfl _ rfl l _ _ ⟨.str k.md,rfl,rfl,SqL.of hl,my (j:=4) rfl,(k9 _ rfl l _ _ (.str k.pic) ⟨rfl,rfl,SqL.of hl,my (j:=5) rfl,k.pic,rfl,ho.pic,λr H1 s1 yJ=>?_⟩)⟩)⟩)⟩);refine⟨sZ5,λt ht=>?_⟩;generalize g1:upd H1 t _=H2 at *;obtain⟨s2,e2⟩:=al ht g1;clear g1;refine q t H2 (s1.trans s2)<|oq t _ rfl e2 _ _ rfl ⟨rfl,ho.z.as.ok⟩ _<|ma _ rfl rfl _<|ma _ rfl (hv _) _<|ma _ rfl ⟨rfl,ho.md.as.ok⟩ _ ⟨_,rfl,Rep.same s2 yJ,rfl⟩
def LsJ(J:Hp)(D:aF)(cV:Z9 (Z9 Str))(zs:Z9 V):Prop:=zs.length=cV.length/\∀(i:Nat) v ws,zs[i]?=some v->cV[i]?=some ws->∃l,v=.ref l/\l≠D/\J l=some (.lst<|ws.map V.str)
def LsJ.snoc{J J':Hp}{D l:aF}{cV:Z9 (Z9 Str)}{zs:Z9 V}{ws:Z9 Str}(h:LsJ J D cV zs)(k:∀a o,a≠D->J a=some o->J' a=some o)(n:l≠D)(hl:J' l=some (.lst<|ws.map V.str)):LsJ J' D (cV++[ws]) (zs++[.ref l]):=by
 refine⟨by rw[a9,a9,h.1];rfl,λi v ws' h1 h2=>?_⟩;by_cases hi:i<zs.length
 .rw[de hi]at h1;rw[de (by rw[<-h.1];exact hi)]at h2;obtain⟨l',rfl,n',e⟩:=h.2 i v ws' h1 h2;exact⟨l',rfl,n',k _ _ n' e⟩
 .have fK:=(ar.mp h1).1;rw[a9,cu]at fK;have e:i=zs.length:=by lia
  subst e;rw[cg (by lia),Nat.sub_self]at h1;rw[h.1,cg<|by lia,Nat.sub_self]at h2;cases h1;cases h2;exact⟨l,rfl,n,hl⟩
theorem aq2{J:Hp}{D:aF}:∀{cV:Z9 (Z9 Str)} {zs:Z9 V},LsJ J D cV zs->(∀ws∈cV,∀x∈ws,As x)->RepAll J (cV.map wsD) zs
 | [],zs,h,_=>eu.mp h.1
 | ws::cV,zs,h,ha=>by
  obtain _|⟨v,zs⟩:=zs
  .have:=h.1;simp at this
  obtain⟨l,rfl,_,e⟩:=h.2 0 v ws rfl rfl;refine(lv _ _ ⟨rfl,(lv l _ ⟨rfl,e,wj<|ha ws aj⟩),aq2 ⟨by have:=h.1;simp at this;exact this,λi v ws h1 h2=>h.2 (i+1) v ws h1 h2⟩ λws hws=>ha ws<|ak _ hws⟩)
noncomputable def hdP(w:Str):Z8->Bool
 | .list (.str z::_)=>decide (z=w)
 | _=>false
theorem ark(w:Str)(cV:Z9 (Z9 Str)):(cV.map wsD).filter (hdP w)=(cV.filter λws=>decide<|ws.head?=some w).map wsD:=by
 rw[List.filter_map]
 congr 1
 refine List.filter_congr λws _=>?_;cases ws with
 | nil=>rfl
 | cons z t=>
  show decide (z=w)=decide (some z=some w);rw[decide_eq_decide];exact⟨λe=>by rw[e],λe=>cn e⟩
theorem aie:∀(cV:Z9 (Z9 Str)),bg (cV.map wsD)<=3
 | []=>by simp[bg]
 | ws::cV=>by
  have h1:=aie cV;have h2:∀zs:Z9 Str,bg (zs.map PyData.str)<=1:=λzs=>by
   induction zs with
   | nil=>simp[bg]
   | cons z t ih=>simp[bg,fh];lia
  have:=h2 ws;simp only[cy,bg,wsD,fh];lia
def e32:aa " " = ⟨#[32]⟩:=by decide +kernel
def e10:aa "\n" = ⟨#[10]⟩:=by decide +kernel
def sl1{H:Hp}{ds es fs:Z9 Z8}{xs ys zs:Z9 V}(h:RepAll H ds xs)(h1:RepAll H es ys)(h2:RepAll H fs zs):RepAll H (ds.take 1++es++fs) (xs.take 1++ys++zs):=((RepAll.take 1 h).append h1).append h2
def ab1{X:Cx}{N:Z9 Str}{scope:bV}{z:CZ}:qj (nc X N scope z) (.type "tuple") (λxs H Q=>∃p ys,xs=[.ref p]/\((SqL X.K H p ys/\∀l,H l=none->Q (.ref l) (upd H l<|.tup ys))\/(SqT X.K H p ys/\Q (.ref p) H))):=oh (X:=nc X N scope z)
theorem aii:∀(ws vs:Z9 Str),ik (ws.map PyData.str) (vs.map PyData.str)=decide (ws=vs)
 | [],[]=>rfl
 | [],v::vs=>rfl
 | w::ws,[]=>rfl
 | w::ws,v::vs=>by show((w==v)&&ik (ws.map PyData.str) (vs.map PyData.str))=_;rw[aii ws vs,gj,bf,beq_iff_eq,decide_eq_true_iff,decide_eq_true_iff,List.cons.injEq]
theorem alv:∀(ws vs:Z9 (Z9 Str)),ik (ws.map wsD) (vs.map wsD)=decide (ws=vs)
 | [],[]=>rfl
 | [],v::vs=>rfl
 | w::ws,[]=>rfl
 | w::ws,v::vs=>by show(ik (w.map PyData.str) (v.map PyData.str)&&ik (ws.map wsD) (vs.map wsD))=_;rw[aii w v,alv ws vs,gj,bf,decide_eq_true_iff,decide_eq_true_iff,decide_eq_true_iff,List.cons.injEq]
noncomputable abbrev pcS:Str:=aa "piece"
noncomputable abbrev apS:Str:=aa "apart"
noncomputable def rj(z:Str)(ws:Z9 Str):Bool:=decide<|ws.head?=some z
noncomputable def uh(L:Z9 (Z9 Str)):Bool:=decide (L=L.take 1++L.filter (rj pcS)++L.filter (rj apS))&&Ad (L.headD []) (L.filter<|rj pcS) (L.filter<|rj apS)
noncomputable def txW(L:Z9 (Z9 Str)):Str:=a8 ⟨#[10]⟩<|L.map<|a8 ⟨#[32]⟩
structure LsW(L:Z9 (Z9 Str)):Prop where
 ne:L≠[]
 l30:L.length<=30
 w12:∀ws∈L,ws.length<=12
 ln:LnW L
noncomputable def pW(p:Str×Str):Z9 Str:=[apS,p.1,p.2]
noncomputable def pD(p:Str×Str):Z8:=.tuple [.str p.1,.str p.2]
structure FmW(L:Z9 (Z9 Str))(fl:Str)(ks:Z9 Kw)(ps:Z9 (Str×Str)):Prop where
 eL:L=[aa "floor",fl]::(ks.map kwW++ps.map pW)
 wf:Wd fl/\fl.length<=80
 ko:∀k∈ks,KwO k/\jH (kwW k)=true
 po:∀p∈ps,(Wd p.1/\p.1.length<=80)/\(Wd p.2/\p.2.length<=80)
noncomputable def nP(fl:Str)(ks:Z9 Kw)(ps:Z9 (Str×Str)):Z8:=.tuple [.tuple ((pj fl).map PyData.str),.tuple<|ks.map kwD,.tuple<|ps.map pD]
def a1j:aa "floor"≠pcS:=by decide +kernel
def a0i:aa "floor"≠apS:=by decide +kernel
def a0r:apS≠pcS:=by decide +kernel
def FmW.pcs{L:Z9 (Z9 Str)}{fl:Str}{ks:Z9 Kw}{ps:Z9 (Str×Str)}(h:FmW L fl ks ps):L.filter (rj pcS)=ks.map kwW/\L.filter (rj apS)=ps.map pW:=by
 have n1:=a1j;have n2:=a0i;have n3:=a0r;rw[h.eL];constructor
 .rw[List.filter_cons_of_neg (by simp[rj,n1]),jc,List.filter_eq_self.mpr λws hws=>?_,List.filter_eq_nil_iff.mpr,f9]
  .intro ws hws;obtain⟨p,_,rfl⟩:=a7.mp hws;simp[rj,pW,n3]
  .obtain⟨p,_,rfl⟩:=a7.mp hws;simp[rj,kwW]
 .rw[List.filter_cons_of_neg (by simp[rj,n2]),jc,List.filter_eq_nil_iff.mpr,List.nil_append,List.filter_eq_self.mpr]
  .intro ws hws;obtain⟨p,_,rfl⟩:=a7.mp hws;simp[rj,pW]
  .intro ws hws;obtain⟨p,_,rfl⟩:=a7.mp hws;simp[rj,kwW,Ne.symm n3]
def DH{z:Str}(h:Wd z):decide (z=aa "")=false:=decide_eq_false λe=>absurd h.1<|by rw[e];decide +kernel
def FmW.b{L:Z9 (Z9 Str)}{fl:Str}{ks:Z9 Kw}{ps:Z9 (Str×Str)}(h:FmW L fl ks ps):uh L=true:=by
 obtain⟨h1,h2⟩:=h.pcs;unfold uh Ad;rw[h1,h2,h.eL];rw[bf,bf,bf];refine⟨decide_eq_true rfl,?_,bq.mpr λws hws=>?_,bq.mpr λws hws=>?_⟩
 .show(decide (some (aa "floor")=some (aa "floor"))&&(decide (2=1+1) && !(decide (aa "floor" = aa "")||(decide (fl=aa "")||false))))=true;rw[DH h.wf.1,decide_eq_false (show aa "floor"≠aa "" by decide +kernel),decide_eq_true rfl];rfl
 .obtain⟨k,hk,rfl⟩:=a7.mp hws;exact(h.ko k hk).2
 .obtain⟨p,hp,rfl⟩:=a7.mp hws;show(decide (some apS=some apS)&&(decide (3=1+2) && !(decide (apS=aa "")||(decide (p.1=aa "")||(decide (p.2=aa "")||false)))))=true;rw[DH (h.po p hp).1.1,DH (h.po p hp).2.1,decide_eq_false (show apS≠aa "" by decide +kernel),decide_eq_true rfl];rfl
def Wd.tx{z:Str}(h:Wd z)(h8:z.length<=80):Tx z:=⟨h8,h.as⟩
theorem a01{H:Hp}{v:V}{L:Z9 (Z9 Str)}{fl:Str}{ks:Z9 Kw}{ps:Z9 (Str×Str)}(h:FmW L fl ks ps)(k30:ks.length<=30)(Hj:ps.length<=30)(r:Rep H (nP fl ks ps) v):Pz H v:=by
 obtain⟨a,xs,rfl,ha,f,r1,e1,rf,k,r2,e2,rk,p,r3,e3,rp,e4⟩:=r;subst e4 e3 e2 e1;refine⟨.inr<|.inr<|.inr<|.inr ⟨a,rfl,.inr<|.inl ⟨_,ha⟩⟩,λa' xs' e h'=>?_⟩;cases e;rw[ha]at h';cases h';refine⟨by show 3<=60;lia,λf' k' p' e=>?_⟩;cases e;refine⟨?_,?_,?_⟩
 .obtain⟨b,vs,rfl,hb,rs⟩:=rf;cases w4 rs;refine⟨some<|(pj fl).map some,by rw[af];have:=(aik h.wf.1.wa).1;lia,(lv b _ ⟨rfl,hb,by rw[af,af],λi x o hx ho=>?_⟩)⟩;rw[au]at hx ho;obtain⟨z,uM,rfl⟩:=bn.mp hx;rw[uM]at ho;cases ho;have m:=ah uM;refine⟨rfl,?_,(F0 h.wf.1.wa z m).as⟩;have e:=L8 fl;have l:=Gd (c:=47)<|DV fl;rw[e]at l;have:=Lq<|bz (f:=λs:Str=>s.length) m;have:=List.length_pos_of_mem m;have:=h.wf.2;lia
 .obtain⟨b,ys,rfl,hb,rs⟩:=rk;have hl:=rs.length;rw[af]at hl;refine zj hb (by lia) λx hx=>?_;obtain⟨i,hi⟩:=fk.mp hx;obtain⟨d,hd,rd⟩:=rs.at hi;rw[au]at hd;obtain⟨k,hk,rfl⟩:=bn.mp hd;have ho:=(h.ko k<|ah hk).1;obtain⟨b,xs,rfl,hb,x1,r1,e1,⟨q1,_⟩,x2,r2,e2,q2,x3,r3,e3,q3,x4,r4,e4,⟨q4,_⟩,x5,r5,e5,q5,e6⟩:=rd;subst e6 e5 e4 e3 e2 e1 q1 q4;cases (show x2=_ from q2);refine zj hb (by show 5<=60;lia) λx hx=>?_;simp only[ap,cv,or_false]at hx;rcases hx with rfl|rfl|rfl|rfl|rfl
  .exact zh ⟨ho.z8,ho.z.as⟩
  .exact FX _
  .cases e:k.m with
   | none=>rw[e]at q3;cases (show x=.non from q3);exact ate
   | some j=>rw[e]at q3;cases (show x=.int _ from q3);exact FX _
  .exact zh ⟨ho.md8,ho.md.as⟩
  .obtain⟨c,ys,rfl,hc,rc⟩:=q5;have:=rc.length;have:=ho.pic.len;exact zj hc (by lia) λy hy=>(ani rc ho.pic.sg y hy).1.down
 .obtain⟨b,ys,rfl,hb,rs⟩:=rp;have hl:=rs.length;rw[af]at hl;refine zj hb (by lia) λx hx=>?_;obtain⟨i,hi⟩:=fk.mp hx;obtain⟨d,hd,rd⟩:=rs.at hi;rw[au]at hd;obtain⟨q,hq,rfl⟩:=bn.mp hd;have po:=h.po q<|ah hq;obtain⟨c,vs,rfl,hc,v1,_,e1,⟨q1,_⟩,v2,_,e2,⟨q2,_⟩,e3⟩:=rd;subst e3 e2 e1 q1 q2;refine zj hc (by show 2<=60;lia) λz hz=>?_;simp only[ap,cv,or_false]at hz;rcases hz with rfl|rfl
  .exact zh<|po.1.1.tx po.1.2
  .exact zh<|po.2.1.tx po.2.2
def awf{ks:Z9 Kw}(h:∀k∈ks,KwO k):qu (ks.map kwD)=true:=ug λd hd=>by
 obtain⟨k,hk,rfl⟩:=a7.mp hd;have h1:qu (wm k.pic)=true:=(ahi (h k hk).pic.sg).imm;have h2:imm (mD k.m)=true:=by cases k.m<;>rfl
 show(true&&(true&&(imm (mD k.m)&&(true&&(qu (wm k.pic)&&true)))))=true;rw[h1,h2];rfl
def axl(ps:Z9 (Str×Str)):qu (ps.map pD)=true:=ug λd hd=>by obtain⟨k,_,rfl⟩:=a7.mp hd;rfl
def LsW.line{L:Z9 (Z9 Str)}(h:LsW L){ws:Z9 Str}(hw:ws∈L):(a8 ⟨#[32]⟩ ws).length<=1452:=by have:=sw (c:=32) (m:=120) (xs:=ws) λx hx=>((h.ln ws hw).2 x hx).1;have:=h.w12 ws hw;lia
def LsW.cut1{L:Z9 (Z9 Str)}(h:LsW L){ws:Z9 Str}(hw:ws∈L):jt (a8 ⟨#[32]⟩ ws) ⟨#[32]⟩=ws:=xc (h.ln ws hw).1 λx hx hc=>by have:=((h.ln ws hw).2 x hx).2 32 hc;lia
def LsW.cut{L:Z9 (Z9 Str)}(h:LsW L):jt (txW L) ⟨#[10]⟩=L.map (a8 ⟨#[32]⟩):=by
 refine xc (λe=>h.ne<|List.map_eq_nil_iff.mp e) λx hx hc=>?_;obtain⟨ws,hws,rfl⟩:=a7.mp hx;rcases F9 hc with e|⟨z,hz,AZ⟩
 .cases e
 .have:=((h.ln ws hws).2 z hz).2 10 AZ;lia
def LsW.len{L:Z9 (Z9 Str)}(h:LsW L):(txW L).length<=43590:=by
 have:=sw (c:=10) (m:=1452) (xs:=L.map<|a8 ⟨#[32]⟩) λx hx=>by obtain⟨ws,hws,rfl⟩:=a7.mp hx;exact h.line hws
 have hl:=h.l30;rw[af]at this;have:L.length*1453<=30*1453:=Nat.mul_le_mul_right _ hl;unfold txW;lia
def FnE(P:aI)(w:aJ)(K:aq)(mg:Str->Option aA)(base:Heap)(x:Str)(k:Nat)(ps:Z9 Str)(sp:Sp):Prop:=
 ∃f fd,FnOk P w K mg base (CXe P w) k f fd ps sp/\mg x=some (.ref f)/\PySem.W.keepIn K (.ref f)=true/\Binds K fd ps []
section
variable{X:Cx}{n y x:Str}{i k j:Nat}{c:aA}{b₀:aO}{fT:Z9 aO}{ts:TS}{yp dN p bF rQ pos:cU}{ps:Z9 Str}{sp:Sp}{e:Expr}{es:Z9 Expr}{t:TA}
def ap3(F:FnE X.prog X.w X.K X.mg X.base x k ps sp)(hr:Room j X.A)(hj:k<=j)(bD:X.stack=X.env::X.outer)(lF:X.env.frame=some X.env.locals)(hN:X.N.Nodup)(hi:X.N[i]?=some n)(IY:X.env.scope.names.lookup n=some .local)(Jb:Gl X y)(II:X.mg y=some c)(Ci:∀e,PSs (Bh X e).nox (b₀::fT) ts)
  (hg:Gl X x) (ha:PA X.nox (e::es) t)
  (Jj:(y==("__debug__" : Str))=false:=by decide) (kQ:(x==("__debug__" : Str))=false:=by decide) (h1:o7 e=true:=by rfl) (fQ:(bA bF<|aK es X.env).any (·.1)=false:=by rfl)
  (hs:gH (.Call (.Name x p) (e::es) [] bF) none rQ.line X.env=bJ false:=by rfl) :
  PS X (.Try [.Expr (.Call (.Name x p) (e::es) [] bF) rQ] [.ExceptHandler (some<|.Name y yp) (some n) (b₀::fT) dN] [] [] pos) (ah9 X.K c i sp t ts):=by
 obtain⟨f,fd,F,hm,hk,hb⟩:=F;exact aiy bD lF hN hi IY Jb II Ci (F.mono hj) hr hg hm hk hb ha Jj kQ (m9 h1) fQ hs
end
section
variable{X:Cx}{x:Str}{k j:Nat}{ps:Z9 Str}{sp:Sp}{p pos:cU}{e:Expr}{es:Z9 Expr}{t:TA}
def ayb:FQ (CXe X.prog X.w) X E0:=λ_ _ _ _ _ _ _ ⟨_,_,_,_,_,_,_,h⟩=>h.elim
def aqo(F:FnE X.prog X.w X.K X.mg X.base x k ps sp)(hr:Room j X.A)(hk:k<=j)(hg:Gl X x)
  (ha:PA X (e::es) t) (kQ:(x==("__debug__" : Str))=false:=by decide) (h1:o7 e=true:=by rfl) (h2:es.all o7=true:=by rfl):PE X (.Call (.Name x p) (e::es) [] pos) (KN sp [] E0 t):=by
 obtain⟨f,fd,F,m,kp,b⟩:=F;exact akz F (hr.mono hk) hg m kp b .nil ayb ha kQ (m9 h1)<|wt h2
end
def akt{H:Hp}{cV:Z9 (Z9 Str)}{xs:Z9 V}(r:RepAll H (cV.map wsD) xs):WsAt H cV xs:=by refine⟨by rw[r.length,af],λi v ws h1 h2=>?_⟩;obtain⟨d,hd,rd⟩:=r.at h1;rw[au,h2]at hd;cases hd;exact FF rd
theorem LsW.filter{L:Z9 (Z9 Str)}(h:LsW L)(p:Z9 Str->Bool):LnW (L.filter p):=λws hw=>h.ln ws (f7.mp hw).1
section
variable{CT CP:aF}
def K4(K:aq)(CT CP:aF):Sp:=λvs H Q E=>∃v,vs=[v]/\
 (((∃t,iW K H v t/\cj K t (.type "str")=some false)/\∀H',Same H H'->E (.ref CT) none H')\/
  ∃L,v=.str (txW L)/\LsW L/\(uh L=false->∀H',Same H H'->E (.ref CT) none H')/\(uh L=true->∃fl ks ps,FmW L fl ks ps/\
   ∀r H1 H',Same H H1->Rep H1 (nP fl ks ps) (.ref r)->Same H1 H'->(nQ H1 (.ref r)->Q (.ref r) H')/\(¬nQ H1 (.ref r)->E (.ref CP) none H')))
def scRead:lz ["text","lines","pieces","pairs","kinds","puzzle"] ["text"] (ll Kz):={}
theorem arn(B:∀x∈ux,mg x=none)(hCT:mg "NoText" = some (.ref CT))(cCT:ExC K CT)(hCP:mg "NoPuzzle" = some (.ref CP))(cCP:ExC K CP)(Mz:Fn P w K mg base "are_lines" 4 ZJ av2)(Frk:Fn P w K mg base "read_kind" 3 Z6 a0m)(Mt:Fn P w K mg base "is_puzzle" 7 Z7 aww)(F:Fun K "read" "read" Kz f fd):FnOk P w K mg base (CXe P w) 8 f fd ["text"] (K4 K CT CP):=by
 refine as6 (k:=7) F scRead (λvs H Q E h=>?_) λbE A outer s H vs Q E hr h=>?_
 .obtain⟨_,rfl,_⟩:=h;rfl
 obtain⟨v,rfl,h⟩:=h;have hu:=hr.units;refine⟨_,(kq (o4 (oy<|qc<|mw ni rfl (B "isinstance"<|by decide) c7<|ku (pv 0)<|ku (qe (v:=.ty "str") rfl (B "str"<|by decide) eO rfl) km) (lg<|LO rfl xy rfl hCT cCT<|ku lc km) mh)
  (kq (vx (i:=1) ["line"] [none] scRead.nd rfl (Or.inl rfl) rfl rfl rfl (by decide +kernel) (by decide +kernel) rfl rfl (o8<|qi bp gu gv uv (pv 0)<|ku lc km) (λ_=>(li (i:=0) (show(["line"]:Z9 PySem.Str).Nodup by decide +kernel) rfl<|Or.inl rfl)) (λ_=>ng) λ_=>(au3 bp gu gv uv (pv 0)<|ku lc km))
  (kq (vx (i:=2) Z6 [none] scRead.nd rfl (Or.inl rfl) rfl rfl rfl (by decide +kernel) (by decide +kernel) rfl rfl (o8<|pv 1) (λ_=>(li (i:=0) (show(Z6:Z9 PySem.Str).Nodup by decide +kernel) rfl<|Or.inl rfl)) (λ_=>xt<|m6 sd (m7 LU (pv 0) k7 λ_ _=>rfl) lc<|mr _) λ_=>(pv 0))
  (kq (vx (i:=3) Z6 [none] scRead.nd rfl (Or.inl rfl) rfl rfl rfl (by decide +kernel) (by decide +kernel) rfl rfl (o8<|pv 1) (λ_=>(li (i:=0) (show(Z6:Z9 PySem.Str).Nodup by decide +kernel) rfl<|Or.inl rfl)) (λ_=>xt<|m6 sd (m7 LU (pv 0) k7 λ_ _=>rfl) lc<|mr _) λ_=>(pv 0))
  (kq (o4 (PW.pt<|yb (m6 (Bv hu) (pv 1) (ml pb (ml pb (nq o5 (pv 1) oo<|ot k7)<|pv 2)<|pv 3)<|mr _)<|ua<|oy<|qc<|me Mz hr (by decide) rfl<|ku (m7 nh (pv 1) k7 λ_ _=>rfl)<|ku (pv 2)<|ku (pv 3) km) (lg<|LO rfl xy rfl hCT cCT<|ku lc km) mh)
  (kq (l4 (i:=4) scRead.nd rfl (Or.inl rfl)<|x9 oh rfl (B "tuple"<|by decide) iw<|ku (nk Z6 [none] rfl rfl (by decide +kernel) (by decide +kernel) rfl rfl (o8<|pv 2) (λ_=>(li (i:=0) (show(Z6:Z9 PySem.Str).Nodup by decide +kernel) rfl<|Or.inl rfl)) (λ_=>ng) λ_=>(me Frk hr (by decide) rfl<|ku (pv 0) km)) km)
  (kq (l4 (i:=5) scRead.nd rfl (Or.inl rfl)<|qd<|ku (x9 oh rfl (B "tuple"<|by decide) iw<|ku (qi bp gu gv uv (m7 nh (m7 nh (pv 1) k7 λ_ _=>rfl) k7 λ_ _=>rfl)<|ku lc km) km)<|ku (pv 4)<|ku (x9 oh rfl (B "tuple"<|by decide) iw<|ku (nk Z6 [none] rfl rfl (by decide +kernel) (by decide +kernel) rfl rfl (o8<|pv 3) (λ_=>(li (i:=0) (show(Z6:Z9 PySem.Str).Nodup by decide +kernel) rfl<|Or.inl rfl)) (λ_=>ng) λ_=>(x9 ab1 rfl (B "tuple"<|by decide) iw<|ku (nq apr (pv 0) (ot k7) oo) km)) km) km)
  (kq (o4 (oy<|qc<|me Mt hr (by decide) rfl<|ku (pv 5) km) (lg<|LO rfl xy rfl hCP cCP<|ku lc km) mh)
  (lg<|ls<|pv 5))))))))),?_⟩
 rcases h with ⟨⟨t,ht,hk⟩,hE⟩|⟨L,rfl,hL,hE,hQ⟩
 .exact(k9 _ rfl v ("str") t false ⟨rfl,ht,hk,false,rfl,oz ⟨sZ1,hE H<|Same.refl _⟩⟩)
 have aU:=hL.l30;have mC:=hL.cut;have HY:=hL.len;generalize txW L=tx at *;have tl:tx.length+2<=aC:=by rw[dw];lia
 refine(k9 _ rfl (.str tx) ("str") (.type "str") true ⟨rfl,.str tx,rfl,true,rfl,tw ?_⟩);refine(ma _ rfl rfl tx ⟨10,rfl,by rw[e10],tl,λl0 oC=>?_⟩);rw[mC];generalize g1:upd H l0 _=H1 at *;obtain⟨s1,u1⟩:=al oC g1;clear g1;refine⟨l0,rfl,⟨_,SqL.of u1⟩,λD hD=>?_⟩;refine ny (xs:=(L.map<|a8 ⟨#[32]⟩).map V.str) (λi ys J=>Same H1 J/\LsJ J D (L.take i) ys) ⟨Same.fresh _ hD,rfl,λi v ws h=>by cases h⟩ (λi ys J p=>SqL.of<|p.1 _ _ u1) (λi x ys J hx hi aN aY p=>?_) λys J aN aY p=>?_
 .obtain⟨p1,p2⟩:=p;rw[au]at hx;obtain⟨z,hz,rfl⟩:=bn.mp hx;rw[au]at hz;obtain⟨ws,hws,rfl⟩:=bn.mp hz;have lQ:=ah hws;have wl:=hL.line lQ;refine⟨Agree.set (Agree.refl _) rfl,?_⟩;dsimp only[wg];refine oz ?_;refine(ma _ rfl rfl (a8 ⟨#[32]⟩ ws) ⟨32,rfl,by rw[e32],by rw[dw];lia,λl hl=>?_⟩);rw[hL.cut1 lQ];generalize g1:upd J l _=J2 at *;obtain⟨s2,u2⟩:=al hl g1;clear g1;have nl:l≠D:=λe=>by rw[e,aN]at hl;cases hl
  have fH:i<L.length:=(ar.mp hws).1;refine oj (by lia) (s2 _ _ aN) aY ⟨(p1.trans s2).new hD,?_⟩;rw[jl,hws];exact p2.snoc (λa o ha h=>by rw[lh ha];exact s2 _ _ h) nl<|by rw[lh nl];exact u2
 obtain⟨s2,p2⟩:=p;rw[af,af,jf]at p2;have lx:=p2.1;have asL:∀ws∈L,∀x∈ws,As x:=λws hws x hx=>((hL.ln ws hws).2 x hx).as;have rX:=aq2 p2 asL;clear p2 mC tl aY hD;generalize hdD:D=Dl at *;clear hdD D;have sJ:=s1.trans s2;clear s1 s2 u1 oC;have Jm:∀(i:Nat) x,ys[i]?=some x->∃(ws:Z9 Str)(l:aF)(z:Str)(t:Z9 Str),L[i]?=some ws/\ws=z::t/\x=.ref l/\J l=some (.lst<|ws.map V.str):=λi x hx=>by
  obtain⟨d,hd,rd⟩:=rX.at hx;rw[au]at hd;obtain⟨ws,hws,rfl⟩:=bn.mp hd;obtain⟨l,rfl,hl⟩:=FF rd;have w0:=(hL.ln ws<|ah hws).1;cases ws with
  | nil=>exact absurd rfl w0
  | cons z t=>exact(lr _ l z t ⟨hws,rfl,rfl,hl⟩)
 refine(mm _ rfl Dl ⟨rfl,⟨_,SqL.of aN⟩,λD2 dF=>?_⟩);refine ny (xs:=ys) (λi zs W=>Same J W/\zs=lH (hdP<|aa "piece") (L.map wsD) ys i) ⟨Same.fresh _ dF,rfl⟩ (λi zs W p=>SqL.of<|p.1 _ _ aN) (λi x zs W hx hi Jy gT p=>?_) λzs W Jy gT p=>?_
 .obtain⟨p1,rfl⟩:=p;obtain⟨_,l,z,t,hws,rfl,rfl,hl⟩:=Jm i x hx;refine⟨Agree.set (Agree.refl _) rfl,?_⟩;refine(k9 _ rfl l _ _ (.str z) ⟨rfl,rfl,SqL.of<|p1 _ _ hl,my (j:=0) rfl,rfl,_,rfl,?_⟩);refine axt (by lia) (by rw[au,hws];rfl) hx Jy gT p1 (p1.new dF) ?_ λQ h=>⟨_,rfl,h⟩;show decide (z=_)=decide (V.str z=V.str _);rw[decide_eq_decide];exact⟨λe=>by rw[e],λe=>by injection e⟩
 obtain⟨s2,rfl⟩:=p;have rP:=(LV (hdP<|aa "piece") rX).same s2;rw[ark]at rP;have rP:RepAll W ((L.filter<|rj pcS).map wsD) (lH (hdP<|aa "piece") (L.map wsD) ys ys.length):=rP;generalize lH (hdP<|aa "piece") (L.map wsD) ys ys.length=px at *;have Dd:=s2 _ _ aN;refine(mm _ rfl Dl ⟨rfl,⟨_,SqL.of Dd⟩,λD3 wZ=>?_⟩);refine ny (xs:=ys) (λi zs W'=>Same W W'/\zs=lH (hdP<|aa "apart") (L.map wsD) ys i) ⟨Same.fresh _ wZ,rfl⟩ (λi zs W' p=>SqL.of<|p.1 _ _ Dd) (λi x zs W' hx hi jQ gT p=>?_) λzs W' jQ gT p=>?_
 .obtain⟨p1,rfl⟩:=p;obtain⟨_,l,z,t,hws,rfl,rfl,hl⟩:=Jm i x hx;refine⟨Agree.set (Agree.refl _) rfl,?_⟩;refine(k9 _ rfl l _ _ (.str z) ⟨rfl,rfl,SqL.of<|p1 _ _<|s2 _ _ hl,my (j:=0) rfl,rfl,_,rfl,?_⟩);refine axt (by lia) (by rw[au,hws];rfl) hx jQ gT p1 (p1.new wZ) ?_ λQ h=>⟨_,rfl,h⟩;show decide (z=_)=decide (V.str z=V.str _);rw[decide_eq_decide];exact⟨λe=>by rw[e],λe=>by injection e⟩
 obtain⟨s3,rfl⟩:=p;have rA:=(LV (hdP<|aa "apart") rX).same (s2.trans s3);rw[ark]at rA;have rA:RepAll W' ((L.filter<|rj apS).map wsD) (lH (hdP<|aa "apart") (L.map wsD) ys ys.length):=rA;generalize lH (hdP<|aa "apart") (L.map wsD) ys ys.length=ax at *;have sS:=s2.trans s3;have zH:=sS _ _ aN;have nY:=s3 _ _ Jy;have rX3:=rX.same sS;have rP3:=rP.same s3;have sW:=sJ.trans sS;have HG:=rP.length;have HJ:=rA.length;rw[af]at HG HJ;have lP:=kl (rj pcS) L;have lA:=kl (rj apS) L;have lnP:=hL.filter<|rj pcS;have lnA:=hL.filter<|rj apS;clear rP gT;refine(mm _ rfl _ ⟨rfl,rh<|m8 _ rfl Dl ys ⟨rfl,SqL.of zH,λS1 vA=>?_⟩⟩);generalize g1:upd W' S1 _=W1 at *;obtain⟨s4,u4⟩:=al vA g1;clear g1;have u4:W1 S1=some (.lst<|gY ys none<|some ((1:Nat):Int)):=u4;have l1:1<=L.length:=List.length_pos_iff.mpr hL.ne;rw[Br (by rw[lx];exact l1)]at u4;refine(k9 _ rfl S1 D2 _ _ ⟨rfl,rfl,u4,s4 _ _ nY,cb<|lu<|by rw[cq];lia,λS2 pF=>?_⟩);generalize g1:upd W1 S2 _=W2 at *;obtain⟨s5,u5⟩:=al pF g1;clear g1;refine(k9 _ rfl S2 D3 _ _ ⟨rfl,rfl,u5,(s4.trans s5) _ _ jQ,cb<|lu<|by rw[a9,cq];lia,λS3 hS3=>?_⟩);generalize g1:upd W2 S3 _=W3 at *;obtain⟨s6,u6⟩:=al hS3 g1;clear g1;have nU:=(s4.trans s5).trans s6;have r1:Rep W3 (.list<|L.map wsD) (.ref Dl):=(lv Dl _ ⟨rfl,nU _ _ zH,rX3.same nU⟩);have r2:Rep W3 (.list<|(L.take 1++L.filter (rj pcS)++L.filter (rj apS)).map wsD) (.ref S3):=(lv S3 _ ⟨rfl,u6,by rw[ay,ay,i9];exact(sl1 rX3 rP3 rA).same nU⟩);refine(lv _ _ ⟨r1,r2,by have:=aie L;simp[fh];lia,_,rfl,?_⟩);rw[if_pos rfl,show c8 (.list<|L.map wsD) (.list<|(L.take 1++L.filter (rj pcS)++L.filter (rj apS)).map wsD)=_ from alv _ _];unfold uh at hE hQ;have sT:=sW.trans nU;refine qb (λh=>?_) λh=>?_
 .have h:decide (L=L.take 1++L.filter (rj pcS)++L.filter (rj apS))=false:=by
   cases e:decide (L=L.take 1++L.filter (rj pcS)++L.filter (rj apS))with
   | false=>rfl
   | true=>rw[e]at h;cases h
  rw[h]at hE;exact⟨sZ1,hE rfl _ sT⟩
 have h:decide (L=L.take 1++L.filter (rj pcS)++L.filter (rj apS))=true:=by
  cases e:decide (L=L.take 1++L.filter (rj pcS)++L.filter (rj apS))with
  | true=>rfl
  | false=>rw[e]at h;exact absurd rfl h
 rw[h,fq]at hE hQ;have CI:=nU _ _ zH;obtain⟨x0,HU⟩:∃x,ys[0]?=some x:=⟨_,ae<|by rw[lx];exact l1⟩;obtain⟨aw,lf,z0,t0,qJ,eaw,rfl,hlf⟩:=Jm 0 x0 HU;have eh:L.headD []=aw:=by
  cases hLL:L with
  | nil=>rw[hLL]at qJ;cases qJ
  | cons a t=>rw[hLL]at qJ;cases qJ;rfl
 rw[eh]at hE hQ;have Fb:=hL.ln aw<|ah qJ;have jW:=sS.trans nU;have CG:=jW _ _ hlf;have Hd:=rP3.same nU;have He:=rA.same nU;refine(k9 _ rfl Dl _ _ (.ref lf) ⟨rfl,rfl,SqL.of CI,my (j:=0) HU,(mi _ rfl _ rfl lf D2 D3<|nj aw (L.filter<|rj pcS) (L.filter<|rj apS) px ax ⟨rfl,CG,Fb.1,Fb.2,nU _ _ nY,akt Hd,lnP,nU _ _ jQ,akt He,lnA,by lia,by lia,λW4 s7=>⟨_,rfl,?_⟩⟩)⟩);cases eB:Ad aw (L.filter<|rj pcS) (L.filter<|rj apS)with
 | false=>exact oz ⟨sZ1,hE eB _<|sT.trans s7⟩
 | true=>
 obtain⟨fl,ks,ps,hF,q⟩:=hQ eB;obtain⟨eP,eA⟩:=hF.pcs;rw[eP]at Hd lP HG;rw[eA]at He lA HJ;rw[af]at lP lA HG HJ;have JS:aw=[aa "floor",fl]:=by rw[<-eh,hF.eL];rfl
 subst JS;refine tw ?_;have s47:=nU.trans s7;have hP7:=s47 _ _ nY;have rP7:=Hd.same s7;refine(mm _ rfl D2 ⟨rfl,⟨_,SqL.of hP7⟩,λD4 Dg=>?_⟩);refine ny (xs:=px) (λi zs Y=>Same W4 Y/\RepAll Y ((ks.take i).map kwD) zs) ⟨Same.fresh _ Dg,rfl⟩ (λi zs Y p=>SqL.of<|p.1 _ _ hP7) (λi x Gn Y hx hi JA gT p=>?_) λkz Y JA gT p=>?_
 .obtain⟨p1,p2⟩:=p;obtain⟨d,hd,rd⟩:=rP7.at hx;rw[au]at hd;obtain⟨ws,hws,rfl⟩:=bn.mp hd;rw[au]at hws;obtain⟨k,hki,rfl⟩:=bn.mp hws;have ho:=(hF.ko k<|ah hki).1;obtain⟨b,rfl,hb⟩:=FF<|Rep.same p1 rd;refine⟨Agree.set (Agree.refl _) rfl,?_⟩;dsimp only[wg];refine oz ?_;refine(m8 _ rfl b k ⟨rfl,hb,ho,λr Y2 s8 rp=>?_⟩);have tJ:=s8 _ _ JA;refine oj (by lia) tJ gT ⟨(p1.trans s8).new Dg,?_⟩;have im:=awf (ks:=ks.take<|i+1) λk hk=>(hF.ko k<|fy hk).1;rw[lq kwD hki]at im⊢;exact((p2.same s8).snoc rp).tk (Tk.lst tJ) im
 obtain⟨s8,p2⟩:=p;rw[bb (by lia)]at p2;refine(lv D4 kz ⟨rfl,.inl ⟨SqL.of JA,λkt hkt=>?_⟩⟩);generalize g1:upd Y kt _=Y1 at *;obtain⟨s9,u9⟩:=al hkt g1;clear g1;have GO:=(s7.trans s8).trans s9;have zG:=GO _ _ CI;have IS:=GO _ _ CG;have fw:=hF.wf.1;refine(k9 _ rfl Dl _ _ (.ref lf) ⟨rfl,rfl,SqL.of zG,my (j:=0) HU,(lr lf _ _ (.str fl) ⟨rfl,rfl,SqL.of IS,my (j:=1) rfl,rfl,(lv _ 47 ⟨rfl,by rw[e47],cb (lu<|by have:=fw.2.1;lia),λsl lE=>?_⟩)⟩)⟩);rw[show jt fl ⟨#[47]⟩=pj fl from rfl];generalize g1:upd Y1 sl _=Y2 at *;obtain⟨sA,uA⟩:=al lE g1;clear g1;refine(lv sl _ ⟨rfl,.inl ⟨SqL.of uA,λft hft=>?_⟩⟩);generalize g1:upd Y2 ft _=Y3 at *;obtain⟨sB,uB⟩:=al hft g1;clear g1;have GN:=(GO.trans sA).trans sB;have hA3:=GN _ _<|nU _ _ jQ;have rA3:=He.same GN;refine(v8 _ rfl _ rfl D3 ⟨rfl,⟨_,SqL.of hA3⟩,λD5 tJ=>?_⟩);refine ny (xs:=ax) (λi zs Z=>Same Y3 Z/\RepAll Z ((ps.take i).map pD) zs) ⟨Same.fresh _ tJ,rfl⟩ (λi zs Z p=>SqL.of<|p.1 _ _ hA3) (λi x Gn Z hx hi Jz gT p=>?_) λaz Z Jz gT p=>?_
 .obtain⟨p1,p2⟩:=p;obtain⟨d,hd,rd⟩:=rA3.at hx;rw[au]at hd;obtain⟨ws,hws,rfl⟩:=bn.mp hd;rw[au]at hws;obtain⟨pq,E4,rfl⟩:=bn.mp hws;obtain⟨b,rfl,hb⟩:=FF<|Rep.same p1 rd;have hq:=hF.po pq<|ah E4;refine⟨Agree.set (Agree.refl _) rfl,?_⟩;dsimp only[wg];refine oz ?_;refine(mm _ rfl _ ⟨rfl,rh<|lv b _ ⟨rfl,SqL.of hb,λS hS=>?_⟩⟩);generalize g1:upd Z S _=Z2 at *;obtain⟨t1,v1⟩:=al hS g1;clear g1;have v1:Z2 S=some (.lst<|gY ((pW pq).map V.str) (some ((1:Nat):Int)) none):=v1;rw[xg (by simp[pW])]at v1;refine(lv S _ ⟨rfl,.inl ⟨SqL.of v1,λt ht=>?_⟩⟩);generalize g1:upd Z2 t _=Z3 at *;obtain⟨t2,v2⟩:=al ht g1;clear g1;have Ff:=(t1.trans t2) _ _ Jz;refine oj (by lia) Ff gT ⟨(p1.trans<|t1.trans t2).new tJ,?_⟩;have im:=axl<|ps.take<|i+1;rw[lq pD E4]at im⊢;have rN:Rep Z3 (pD pq) (.ref t):=(oq t _ rfl v2 _ _ rfl ⟨rfl,hq.1.1.as.ok⟩ _ ⟨_,rfl,⟨rfl,hq.2.1.as.ok⟩,rfl⟩);exact((p2.same<|t1.trans t2).snoc rN).tk (Tk.lst Ff) im
 obtain⟨sC,p3⟩:=p;rw[bb (by lia)]at p3;refine(lv D5 az ⟨rfl,.inl ⟨SqL.of Jz,λiV zS=>?_⟩⟩);generalize g1:upd Z iV _=Z1 at *;obtain⟨sD,uD⟩:=al zS g1;clear g1;refine⟨sZ3,λpz Il=>?_⟩;generalize g1:upd Z1 pz _=Z2 at *;obtain⟨sE,uE⟩:=al Il g1;clear g1;have Er:=(sC.trans sD).trans sE;have s9B:=(s9.trans sA).trans sB;have rF:Rep Z2 (nP fl ks ps) (.ref pz):=(oq pz _ rfl uE _ _ rfl (lv ft _ ⟨rfl,Er _ _ uB,wj λz hz=>(F0 fw.wa z hz).as⟩) _<|ma _ rfl (lv kt _ ⟨rfl,((sA.trans sB).trans Er) _ _ u9,p2.same<|s9B.trans Er⟩) _ ⟨_,rfl,(lv iV _ ⟨rfl,sE _ _ uD,p3.same<|sD.trans sE⟩),rfl⟩);refine(mm _ rfl (.ref pz) ⟨rfl,a01 hF (by lia) (by lia) rF,λb Z3 sF hb=>⟨b,rfl,?_⟩⟩);obtain⟨q1,q2⟩:=q pz Z2 Z3 (((sW.trans nU).trans GN).trans Er) rF sF;cases b with
 | true=>exact tw ⟨_,rfl,q1<|hb.mp rfl⟩
 | false=>exact oz ⟨sZ1,q2 λh=>by have:=hb.mpr h;cases this⟩
end
def PlL(ks:Z9 Kr)(cV:Z9 (Z9 Str)):Prop:=cV.length=ks.length/\∀(i:Nat) k ws,ks[i]?=some k->cV[i]?=some ws->KrO k/\∃pic,ws=Bs k pic/\PicOf k.ss pic
noncomputable def prW(p:Nat×Nat):Z9 Str:=[aa "apart",⟨#[p.1]⟩,⟨#[p.2]⟩]
def FO{c:Nat}(h:Ltr c):Wd ⟨#[c]⟩:=⟨by show 0<1;decide,by show 1<=120;decide,λx hx=>by
 have e:x=c:=by simpa using hx
 rw[e];exact⟨by have:=h.1;lia,by have:=h.2;lia⟩⟩
def ax9{p:Nat×Nat}(h:Ltr p.1/\Ltr p.2):∀x∈prW p,Wd x:=λx hx=>by
 unfold prW at hx;simp only[ap,cv,or_false]at hx;rcases hx with rfl|rfl|rfl
 .exact wdL<|by decide +kernel
 .exact FO h.1
 .exact FO h.2
noncomputable def prE(p:Nat×Nat):Z8:=.tuple [.str ⟨#[p.1]⟩,.str ⟨#[p.2]⟩]
structure Tz(zs:Z9 Str)(ks:Z9 Kr)(ps:Z9 (Nat×Nat))(cV:Z9 (Z9 Str)):Prop where
 pz:PzV (.tuple [.tuple (zs.map PyData.str),.tuple<|ks.map krD,.tuple<|ps.map prE])
 rw:Rw menu zs
 k6:ks.length<=6
 pl:PlL ks cV
 ltr:∀q∈ps,Ltr q.1/\Ltr q.2
 p3:ps.length<=3
noncomputable def uo(zs:Z9 Str)(ps:Z9 (Nat×Nat))(cV:Z9 (Z9 Str)):Z9 (Z9 Str):=[aa "floor",a8 ⟨#[47]⟩ zs]::(cV++ps.map prW)
noncomputable def az0(zs:Z9 Str)(ps:Z9 (Nat×Nat))(cV:Z9 (Z9 Str)):Str:=a8 ⟨#[10]⟩<|(uo zs ps cV).map (a8 ⟨#[32]⟩)
def awm:∀c∈menu.cps.toList,32<c/\c<128/\c≠47:=by decide +kernel
def Rw.row{zs:Z9 Str}(h:Rw menu zs):∀z∈zs,0<z.length/\z.length<=8/\∀c∈z.cps.toList,32<c/\c<128/\c≠47:=λz hz=>by obtain⟨_,_,wd,w0,w8,hw⟩:=h;obtain⟨_,l,m⟩:=hw z hz;exact⟨by lia,by lia,λc hc=>awm c<|m c hc⟩
def Kx{zs:Z9 Str}(h:Rw menu zs):Wd (a8 ⟨#[47]⟩ zs):=by
 have hr:=Rw.row h;refine⟨aia (λe=>by have:=h.1;rw[e]at this;simp at this) λz hz=>(hr z hz).1,?_,λc hc=>?_⟩
 .have:=sw (c:=47) (m:=8) (xs:=zs) λz hz=>(hr z hz).2.1;have h8:=h.2.1;lia
 .rcases F9 hc with rfl|⟨z,hz,AZ⟩
  .decide
  .exact⟨((hr z hz).2.2 c AZ).1,((hr z hz).2.2 c AZ).2.1⟩
def Tz.wd{zs:Z9 Str}{ks:Z9 Kr}{ps:Z9 (Nat×Nat)}{cV:Z9 (Z9 Str)}(h:Tz zs ks ps cV):∀ws∈uo zs ps cV,ws≠[]/\ws.length<=6/\∀x∈ws,Wd x:=λws hws=>by
 rcases ap.mp hws with rfl|hws
 .refine⟨by simp,by simp,λx hx=>?_⟩;simp only[ap,cv,or_false]at hx;rcases hx with rfl|rfl
  .exact wdL<|by decide +kernel
  .exact Kx h.rw
 rcases bo.mp hws with hws|hws
 .obtain⟨i,hi⟩:=fk.mp hws;have oX:=(ar.mp hi).1;have hl:=h.pl.1;obtain⟨ho,pic,rfl,hp⟩:=h.pl.2 i _ ws (ae<|by lia) hi;exact⟨by simp[Bs],by simp[Bs],KH ho hp⟩
 .obtain⟨p,hp,rfl⟩:=a7.mp hws;exact⟨by simp[prW],by simp[prW],ax9<|h.ltr p hp⟩
def Tz.len{zs:Z9 Str}{ks:Z9 Kr}{ps:Z9 (Nat×Nat)}{cV:Z9 (Z9 Str)}(h:Tz zs ks ps cV):(uo zs ps cV).length<=10:=by have:=h.pl.1;have:=h.k6;have:=h.p3;unfold uo;rw[bc,a9,af];lia
def amk{ws:Z9 Str}(h6:ws.length<=6)(h:∀x∈ws,Wd x):(a8 ⟨#[32]⟩ ws).length<=726:=by have:=sw (c:=32) (m:=120) (xs:=ws) λx hx=>(h x hx).2.1;lia
noncomputable def vE(r c:Int):Z9 Key:=[Sum.inl r,Sum.inl c]
def aof{r c r' c':Int}(h:vE r c=vE r' c'):r=r'/\c=c':=by
 unfold vE at h;injection h with h1 h2
 injection h2 with h2 _
 exact⟨Sum.inl.inj h1,Sum.inl.inj h2⟩
noncomputable def chV(c:Nat):V:=.str ⟨#[c]⟩
theorem aky(ws:Z9 Nat):j8 (aa "") (ws.map λc=>(⟨#[c]⟩:Str))=⟨ws.toArray⟩:=by
 refine ub ?_;rw[um (by decide +kernel),gd];show((ws.map λc=>[c])).flatten=_;induction ws with
 | nil=>rfl
 | cons a t ih=>rw[cy,List.flatten_cons,ih];simp
def azz{H:Hp}{ss:Z9 Sg}{xs:Z9 V}{i:Nat}{x:V}(rep:RepAll H (ss.map sgD) xs)(hx:xs[i]?=some x):∃s b,ss[i]?=some s/\x=.ref b/\H b=some (.tup [.int (s.1:Nat),.int (s.2.1:Nat),.str ⟨#[s.2.2]⟩]):=by obtain⟨d,hd,rd⟩:=rep.at hx;rw[au]at hd;obtain⟨s,hs,rfl⟩:=bn.mp hd;obtain⟨b,bx,rfl,hb,x1,r1,e1,q1,x2,r2,e2,q2,x3,r3,e3,⟨q3,_⟩,e4⟩:=rd;subst e4 e3 e2 e1 q3;cases (show x1=_ from q1);cases (show x2=_ from q2);exact(lv s b ⟨hs,rfl,hb⟩)
theorem DN:∀(m:Nat)(l:Z9 Int),(∀k:Nat,k<m->((k:Nat):Int)∈l)->m<=l.length
 | 0,_,_=>dv _
 | m+1,l,h=>by have hm:=h m<|j2 m;have:=DN m (l.erase (m:Nat)) λk hk=>(List.mem_erase_of_ne<|by lia).mpr (h k<|by lia);rw[List.length_erase_of_mem hm]at this;have:=List.length_pos_of_mem hm;lia
theorem az6{S:Z9 Cl}(h:Conn S)(g:Cl->Int)(hg:∀a b,Tch a b->g b<=g a+1)(h0:∃a∈S,g a=0):∀a∈S,g a<S.length:=λa ha=>dg λhn=>by
 have:=DN (S.length+1) (S.map g) λk hk=>by
  cases k with
  | zero=>
   obtain⟨b,hb,e⟩:=h0;exact a7.mpr ⟨b,hb,e⟩
  | succ k=>
   refine dg λoA=>?_;obtain⟨b,hb,e⟩:=h0;have:=h (λc=>g c<=(k:Nat)) ⟨b,hb,by rw[e];lia⟩ (λc d _ hd hc ht=>by have h1:=hg c d ht;have h2:g d≠((k+1:Nat):Int):=λe=>oA<|a7.mpr ⟨d,hd,e⟩;lia) a ha
   lia
 rw[af]at this;lia
def awv{ss:Z9 Sg}(h:FrS ss):∀s∈ss,s.1<6/\s.2.1<6:=λs hs=>by
 have p:=h.fr.1.pre;have h6:=p.six;have hp:=p.pos;rw[af]at h6 hp;have m:=bz (f:=cl)<|bz (f:=sgD) hs;have z:∀(f:Z8->Int),zc ((ss.map sgD).map f)=0->∃d∈ss.map sgD,f d=0:=λf e=>by have:=xh (ns:=(ss.map sgD).map f) (by rw[af,af];exact hp);rw[e]at this;exact a7.mp this
 obtain⟨d1,oY,e1⟩:=z iL h.fr.1.r0;obtain⟨d2,zO,e2⟩:=z iN h.fr.1.c0;have a1:=az6 p.con (·.1) (λa b t=>by unfold Tch at t;lia) ⟨_,bz oY,e1⟩ _ m;have a2:=az6 p.con (·.2) (λa b t=>by unfold Tch at t;lia) ⟨_,bz zO,e2⟩ _ m;rw[af,af]at a1 a2;have a1:((s.1:Nat):Int)<(ss.length:Nat):=a1;have a2:((s.2.1:Nat):Int)<(ss.length:Nat):=a2;lia
noncomputable def mxN:Z9 Nat->Nat
 | []=>0
 | a::l=>wA a<|mxN l
theorem Bp:∀{l:Z9 Nat} {a:Nat},a∈l->a<=mxN l
 | b::l,a,h=>by
  rcases ap.mp h with rfl|h
  .exact Nat.le_max_left _ _
  .exact fj (Bp h)<|Nat.le_max_right _ _
theorem FN{m:Nat}:∀{l:Z9 Nat},(∀a∈l,a<=m)->mxN l<=m
 | [],_=>dv _
 | b::l,h=>Nat.max_le.mpr ⟨h b aj,FN λa ha=>h a<|ak _ ha⟩
noncomputable def mxR(ss:Z9 Sg):Nat:=mxN<|ss.map (·.1)
noncomputable def mxC(ss:Z9 Sg):Nat:=mxN<|ss.map (·.2.1)
noncomputable def Dz(ss:Z9 Sg)(t l d r:Nat):Str:=a8 ⟨#[47]⟩<|sk<|we ss t l (t+(mxR ss+1)+d)<|l+(mxC ss+1)+r
noncomputable def oJ(ss:Z9 Sg):Str:=a8 ⟨#[47]⟩<|sk<|we ss 0 0 (mxR ss+1)<|mxC ss+1
def axg(ss:Z9 Sg):Dz ss 0 0 0 0=oJ ss:=by unfold Dz oJ;rw[Nat.zero_add,Nat.zero_add,Nat.add_zero,Nat.add_zero]
def Fx{ss:Z9 Sg}(h:FrS ss):mxR ss<6/\mxC ss<6:=by have h6:=awv h;exact⟨Nat.lt_succ_of_le (FN λa ha=>by obtain⟨s,hs,rfl⟩:=a7.mp ha;exact Nat.le_of_lt_succ (h6 s hs).1),Nat.lt_succ_of_le (FN λa ha=>by obtain⟨s,hs,rfl⟩:=a7.mp ha;exact Nat.le_of_lt_succ (h6 s hs).2)⟩
def F4{ss:Z9 Sg}(h:FrS ss):PicOf ss (oJ ss):=by have:=Fx h;exact(lr 0 0 _ _ ⟨λs hs=>by have:s.1<=mxR ss:=Bp<|bz hs;lia,λs hs=>by have:s.2.1<=mxC ss:=Bp<|bz hs;lia,by lia,by lia,by lia,by lia,rfl⟩)
def au5{ss:Z9 Sg}{f:Z8->Int}{g:Sg->Nat}(e:∀s,f (sgD s)=(g s:Nat)){M:Int}(m:M∈(ss.map sgD).map f)(m':∀a∈(ss.map sgD).map f,a<=M):M=(mxN (ss.map g):Nat):=by
 obtain⟨d,hd,e1⟩:=a7.mp m;obtain⟨s,hs,rfl⟩:=a7.mp hd;rw[e]at e1;have h1:g s<=mxN (ss.map g):=Bp<|bz hs;have h2:mxN (ss.map g)<=g s:=FN λa ha=>by obtain⟨s',jZ,rfl⟩:=a7.mp ha;have:=m' _<|bz<|bz jZ;rw[e,<-e1]at this;lia
 lia
def aqn:Sp:=λvs H Q _=>∃(fr mo:aF)(xs:Z9 V)(ss:Z9 Sg)(t l d r:Nat),vs=[.ref fr,.ref mo]/\H fr=some (.tup xs)/\RepAll H (ss.map sgD) xs/\FrS ss/\H mo=some (.lst [.int (t:Nat),.int (l:Nat),.int (d:Nat),.int (r:Nat)])/\t<=2/\l<=2/\d<=2/\r<=2/\
 ∀(pic:Str)(H':Hp),Same H H'->pic=Dz ss t l d r->Q (.str pic) H'
def scLpic:lz ["_law_form","_law_more","_law_top","_law_left","_law_down","_law_right","_law_high","_law_wide","_law_signs_here","_law_row","_law_column","_law_sign","_law_rows"] ZC (ll KM):={}
def aso(B:∀x∈ux,mg x=none)(F:Fun K "_law_picture" "_law_picture" KM f fd):FnOk P w K mg base CX0 1 f fd ZC aqn:=by
 refine F.ok (k:=0) scLpic (λvs H Q E h=>?_) λbE A outer s H vs Q E hr h=>?_
 .obtain⟨_,_,_,_,_,_,_,_,rfl,_⟩:=h;rfl
 obtain⟨fr,mo,xs,ss,t,l,d,r,rfl,lF,rep,hf,IK,t2,l2,d2,r2,q⟩:=h;have h6:=awv hf;have hu:=hr.units;have fP:Spots (ss.map sgD):=hf.fr.1.pre.spots;have hs6:=hf.fr.1.pre.six;have hs0:=hf.fr.1.pre.pos;have lx:=rep.length;have hll:(ss.map sgD).length=ss.length:=af _;refine⟨_,(kq (zv (pv 1)<|aur (n:=4) rfl<|mf (li (i:=2) scLpic.nd rfl<|Or.inl rfl)<|mf (li (i:=3) scLpic.nd rfl<|Or.inl rfl)<|mf (li (i:=4) scLpic.nd rfl<|Or.inl rfl)<|mf (li (i:=5) scLpic.nd rfl<|Or.inl rfl) sj)
  (kq (l4 (i:=6) scLpic.nd rfl (Or.inl rfl)<|ml qf (mw (afi rfl) rfl (B "max"<|by decide) nM<|ku (nk Z0 [none] rfl rfl (by decide +kernel) (by decide +kernel) rfl rfl (Bo<|pv 0) (λ_=>(li (i:=0) (show(Z0:Z9 PySem.Str).Nodup by decide +kernel) rfl<|Or.inl rfl)) (λ_=>ng) λ_=>(m7 vt (pv 0) k7 λ_ _=>rfl)) km) k7)
  (kq (l4 (i:=7) scLpic.nd rfl (Or.inl rfl)<|ml qf (mw (afi rfl) rfl (B "max"<|by decide) nM<|ku (nk Z0 [none] rfl rfl (by decide +kernel) (by decide +kernel) rfl rfl (Bo<|pv 0) (λ_=>(li (i:=0) (show(Z0:Z9 PySem.Str).Nodup by decide +kernel) rfl<|Or.inl rfl)) (λ_=>ng) λ_=>(m7 vt (pv 0) k7 λ_ _=>rfl)) km) k7)
  (kq (l4 (i:=8) scLpic.nd rfl (Or.inr rfl) ap4)
  (kq (vn ge rfl (Bo<|pv 0) (yz (n:=3) rfl<|mf (li (i:=9) scLpic.nd rfl<|Or.inr rfl)<|mf (li (i:=10) scLpic.nd rfl<|Or.inl rfl)<|mf (li (i:=11) scLpic.nd rfl<|Or.inl rfl) sj)<|lg<|ar4 (Nat.lt_of_le_of_lt (Nat.add_le_add_left (by decide) _) hu) (pv 8) (qd<|ku (pv 9)<|ku (pv 10) km) (pv 11) rfl)
  (kq (l4 (i:=12) scLpic.nd rfl (Or.inl rfl)<|l7 km)
  (kq (vn ge rfl (axd rfl (B "range"<|by decide)<|ku (ml yh k7<|pv 2)<|ku (ml qf (pv 6)<|pv 4) km) (li (i:=9) scLpic.nd rfl<|Or.inr rfl)<|lg<|sq<|qi dh ff fg qg (pv 12)<|ku (qi bp cw cx rn lc<|ku (nk Zx [none,some 8,some 9] rfl rfl (by decide +kernel) (by decide +kernel) rfl rfl (axd rfl (B "range"<|by decide)<|ku (ml yh k7<|pv 3)<|ku (ml qf (pv 7)<|pv 5) km) (λ_=>(li (i:=0) (show(Zx:Z9 PySem.Str).Nodup by decide +kernel) rfl<|Or.inl rfl)) (λ_=>ng) λ_=>(ao1 (Nat.lt_of_le_of_lt (Nat.add_le_add_left (by decide) _) hu) (pv 1) (qd<|ku (pv 2)<|ku (pv 0) km) lc ⟨rfl,rfl,rfl,rfl⟩)) km) km)
  (lg<|ls<|qi bp cw cx rn lc<|ku (pv 12) km)))))))),?_⟩
 refine(x8 _ rfl mo _ rfl (SqL.of IK) rfl _ _ ⟨rfl,(lv _ _ ⟨rfl,(lv _ _ ⟨rfl,(lv _ _ ⟨rfl,rfl,?_⟩)⟩)⟩)⟩);refine xf 0 iL Lg rfl (.inr lF) rep fP (by lia) λD1 H1 s1 A1=>?_;refine(lv D1 _ ⟨rfl,A1,by rw[af];exact hs0,λM1 m1 ER=>(lv _ _ ⟨rfl,rfl,?_⟩)⟩);refine xf 1 iN KZ rfl (.inr<|s1 _ _ lF) (rep.same s1) fP (by lia) λD2 H2 s2 dF=>?_;refine(lv D2 _ ⟨rfl,dF,by rw[af];exact hs0,λM2 m2 EQ=>(lv _ _ ⟨rfl,rfl,?_⟩)⟩);obtain⟨R,rfl,hR6,eR⟩:∃R:Nat,M1=(R:Nat)/\R<6/\mxR ss=R:=⟨_,au5 (g:=(·.1)) (λ_=>rfl) m1 ER,(Fx hf).1,rfl⟩;obtain⟨C,rfl,hC6,eC⟩:∃R:Nat,M2=(R:Nat)/\R<6/\mxC ss=R:=⟨_,au5 (g:=(·.2.1)) (λ_=>rfl) m2 EQ,(Fx hf).2,rfl⟩;have dM:=s1.trans s2;clear m1 ER m2 EQ A1 dF;intro tk wF;generalize g1:upd H2 tk _=H3 at *;obtain⟨s3,u3⟩:=al wF g1;clear g1;have sA:=dM.trans s3;have htH:=dM.free wF;refine(mm _ rfl fr ⟨rfl,.inr ⟨⟨_,SqT.of<|sA _ _ lF⟩,?_⟩⟩);refine anq (xs:=xs) (λi σ' G=>∃(y9 y10 y11:Option V) (aL:Z9 (Z9 Key×V)),σ'=[some (.ref fr),some<|.ref mo,some<|.int (t:Nat),some<|.int (l:Nat),some<|.int (d:Nat),some<|.int (r:Nat),some<|.int<|(R:Nat)+1,some<|.int<|(C:Nat)+1,some<|.ref tk,y9,y10,y11,none]/\Same H G/\G tk=some (.dT aL)/\aL.length<=i/\∀r c,iM aL (vE r c)=(look (ss.take i) r c).map chV) ?_ (λi σ' G hi hI=>?_) (λi x σ' G hx hI=>?_) λσ' G hI=>?_
 .exact(lr _ _ _ ([]) ⟨rfl,sA,u3,av _,λr c=>rfl⟩)
 .obtain⟨_,_,_,_,_,sg,_⟩:=hI;exact SqT.of<|sg _ _ lF
 .obtain⟨y9,y10,y11,aL,rfl,sg,hk,qV,hv⟩:=hI;obtain⟨s',b,hs,rfl,hb⟩:=azz (rep.same sg) hx;have hi:i<xs.length:=(ar.mp hx).1;refine(on b _ rfl (SqT.of hb) rfl _ _ rfl _<|m8 _ rfl _ _ ⟨rfl,rfl,?_⟩);refine(v8 _ rfl _ rfl _ ⟨rfl,_,rfl,sZ2,λt9 ht9=>?_⟩);generalize g1:upd G t9 _=G2 at *;obtain⟨s9,c9⟩:=al ht9 g1;clear g1;have c9:G2 t9=some (.tup<|(vE (s'.1:Nat) (s'.2.1:Nat)).map kV):=c9;refine(lv tk _ ⟨rfl,DPut.t (k:=vE (s'.1:Nat) (s'.2.1:Nat)) (s9 _ _ hk) c9<|lu<|by lia,?_⟩);refine(lr _ _ _ _ ⟨rfl,(sg.trans s9).new htH,k8,?_,λr c=>?_⟩)
  .have:=yf aL (vE (s'.1:Nat) (s'.2.1:Nat))<|V.str ⟨#[s'.2.2]⟩;lia
  .rw[jl,hs,aop];show _=(look (ss.take i++[s']) r c).map chV;rw[alm];by_cases e:r=(s'.1:Nat)/\c=(s'.2.1:Nat)
   .rw[if_pos e,if_pos<|by rw[e.1,e.2]];rfl
   .rw[if_neg e,if_neg λz=>e<|aof z];exact hv r c
 obtain⟨y9,y10,y11,aL,rfl,sg,hk,qV,hv⟩:=hI;rw[bb (by lia)]at hv;refine⟨sZ0,λD hD=>?_⟩;generalize g1:upd G D _=G1 at *;obtain⟨s4,u4⟩:=al hD g1;clear g1;have hDH:=sg.free hD;have nD:tk≠D:=λe=>by rw[e,hD]at hk;cases hk
 have eN:((R:Nat):Int)+1+(d:Nat)-(0-(t:Nat))=((t+(R+1)+d:Nat):Int):=by lia
 have eW:((C:Nat):Int)+1+(r:Nat)-(0-(l:Nat))=((l+(C+1)+r:Nat):Int):=by lia
 refine(nw _ rfl _ _ rfl rfl _ ⟨rfl,(m8 _ rfl _ _ ⟨rfl,rfl,?_⟩)⟩);refine(lv _ _ ⟨rfl,⟨by lia,by lia,by lia,by lia⟩,?_⟩);rw[eN,ia];have hM:∀r' c',(we ss t l (t+(R+1)+d)<|l+(C+1)+r).g r' c'=pch ss ((r':Nat)-(t:Nat)) ((c':Nat)-(l:Nat)):=λ_ _=>rfl;have hMh:(we ss t l (t+(R+1)+d)<|l+(C+1)+r).h=t+(R+1)+d:=rfl;have Jw:(we ss t l (t+(R+1)+d)<|l+(C+1)+r).w=l+(C+1)+r:=rfl;have uQ:a8 ⟨#[47]⟩ (sk<|we ss t l (t+(R+1)+d)<|l+(C+1)+r)=Dz ss t l d r:=by unfold Dz;rw[eR,eC]
 have hrl:∀z∈sk (we ss t l (t+(R+1)+d)<|l+(C+1)+r),z.length<=10:=λz hz=>by rw[(xp hf.ltr hz).1];lia
 generalize we ss t l (t+(R+1)+d) (l+(C+1)+r)=M at *;refine t7 (lo:=0-(t:Nat)) (λi σ' W=>∃(y9:Option V),σ'=[some (.ref fr),some<|.ref mo,some<|.int (t:Nat),some<|.int (l:Nat),some<|.int (d:Nat),some<|.int (r:Nat),some<|.int<|(R:Nat)+1,some<|.int<|(C:Nat)+1,some<|.ref tk,y9,y10,y11,some<|.ref D]/\Same G W/\W D=some (.lst<|((sk M).take i).map V.str)) ?_ (λi σ' W hi hI=>?_) λσ' W hI=>?_
 .exact⟨_,rfl,s4,u4⟩
 .obtain⟨y9,rfl,sW,wW⟩:=hI;refine⟨_,rfl,.inl ⟨rfl,_,SqL.of wW⟩,rfl,?_⟩;refine(nw _ rfl _ _ rfl rfl _ ⟨rfl,(nw _ rfl _ _ rfl rfl _ ⟨_,rfl,⟨by lia,by lia,by lia,by lia⟩,λD2 dF=>?_⟩)⟩);rw[eW,ia];refine xl (lo:=0-(l:Nat)) (λj ys Z=>Same W Z/\ys=((vg M i).take j).map chV) ⟨Same.fresh _ dF,rfl⟩ (λj ys Z hj aN aY p=>?_) λys Z aN aY p=>?_
  .obtain⟨p1,rfl⟩:=p;have tkZ:=p1 _ _<|sW _ _ hk;refine⟨Agree.set (Agree.refl _) rfl,?_⟩;dsimp only[wg];refine oz ?_;refine(mm _ rfl tk ⟨rfl,.inr ⟨_,.inl tkZ⟩,(mm _ rfl _ ⟨rfl,sZ2,λp4 AU=>?_⟩)⟩);generalize g1:upd Z p4 _=Z2 at *;obtain⟨t4,c4⟩:=al AU g1;clear g1;have c4:Z2 p4=some (.tup<|(vE ((i:Nat)-(t:Nat))<|(j:Nat)-(l:Nat)).map kV):=by
    rw[c4];show some (HO.tup [.int (0-((t:Nat):Int)+(i:Nat)),.int<|0-((l:Nat):Int)+(j:Nat)])=some (HO.tup [.int _,.int _]);rw[show 0-((t:Nat):Int)+(i:Nat)=(i:Nat)-(t:Nat) by lia,show 0-((l:Nat):Int)+(j:Nat)=(j:Nat)-(l:Nat) by lia]
   refine⟨_,DGet.t (t4 _ _ tkZ) c4,?_⟩;have ev:(iM aL<|vE ((i:Nat)-(t:Nat))<|(j:Nat)-(l:Nat)).getD (V.str<|aa ".")=chV (M.g i j):=by rw[hv,hM,e46];unfold pch;cases look ss ((i:Nat)-(t:Nat)) ((j:Nat)-(l:Nat))<;>rfl
   rw[ev];refine oj (by lia) (t4 _ _ aN) aY ⟨(p1.trans t4).new dF,?_⟩;rw[lq chV (amc (M:=M) (r:=i) (c:=j)<|by rw[Jw];exact hj)]
  .obtain⟨p1,rfl⟩:=p;rw[bb (by rw[Gc,Jw];exact av _)]at aN;have em:(vg M i).map chV=((vg M i).map λc=>(⟨#[c]⟩:Str)).map V.str:=by rw[gd];rfl
   have e0:(aa "").length=0:=by decide +kernel
   have iT:=dn (B:=1) ((vg M i).map λc=>(⟨#[c]⟩:Str)) λy hy=>by obtain⟨c,_,rfl⟩:=a7.mp hy;exact av 1
   have hLl:(vg M i).length=l+(C+1)+r:=by rw[Gc,Jw]
   rw[af]at iT;refine(mj _ D2 ((vg M i).map λc=>(⟨#[c]⟩:Str)) ⟨rfl,rfl,by rw[<-em];exact aN,by rw[e0];lia,?_⟩);rw[aky];have hDZ:=p1 _ _ wW;refine(mj D _ _ ⟨rfl,rfl,hDZ,lu<|by rw[af,cq,uu];lia,?_⟩);refine⟨_,rfl,(sW.trans p1).new hD,?_⟩;rw[k8,lq V.str<|anx (M:=M) (r:=i)<|by rw[hMh];exact hi]
 .obtain⟨y9,rfl,sW,wW⟩:=hI;rw[bb (by rw[uu,hMh];exact av _)]at wW;have e1:(aa "/").length=1:=by decide +kernel
  have iT:=dn (B:=10) (sk M) hrl;have lE:=uu M;refine⟨rfl,(nv _ rfl _ D (sk M) ⟨rfl,rfl,wW,by rw[e1];lia,?_⟩)⟩;rw[show j8 (aa "/") (sk M)=a8 ⟨#[47]⟩ (sk M) by rw[e47];exact PySem.StrLaws.glued_eq_join _ _];exact q _ W (sg.trans sW) uQ
structure Tq(zs:Z9 Str)(ks:Z9 Kr)(ps:Z9 (Nat×Nat)):Prop where
 pz:PzV (.tuple [.tuple (zs.map PyData.str),.tuple<|ks.map krD,.tuple<|ps.map prE])
 rw:Rw menu zs
 k6:ks.length<=6
 ko:∀k∈ks,KrO k
 ltr:∀q∈ps,Ltr q.1/\Ltr q.2
 p3:ps.length<=3
def ayf{z:Str}{d:Z8}(hn:NmV z)(h:KdV z d):∃k,d=krD k/\KrO k:=by
 obtain⟨l,m,md,es,rfl,l0,l64,hm,E8,fr⟩:=h;obtain⟨ss,rfl,hf⟩:=axs fr;obtain⟨l,rfl⟩:=br l0;rcases hm with rfl|⟨j,rfl,h1,h2⟩
 .exact⟨⟨z,l,none,md,ss⟩,rfl,hn,by show l<=64;lia,(λj h=>by cases h),E8,hf⟩
 .obtain⟨j,rfl⟩:=br (show 0<=j by lia);exact⟨⟨z,l,some j,md,ss⟩,rfl,hn,by show l<=64;lia,(λj' h=>by cases h;lia),E8,hf⟩
theorem Ly{α β:Type}{f:β->α}{Q:β->Prop}:∀{l:List α},(∀x∈l,∃y,x=f y/\Q y)->∃ys:List β,l=ys.map f/\∀y∈ys,Q y
 | [],_=>⟨[],rfl,λy hy=>by cases hy⟩
 | x::l,h=>by
  obtain⟨y,rfl,hy⟩:=h x aj;obtain⟨ys,rfl,hys⟩:=Ly λz hz=>h z<|ak _ hz;refine⟨y::ys,rfl,λz hz=>?_⟩;rcases ap.mp hz with rfl|h'
  .exact hy
  .exact hys z h'
def azq{d:Z8}(h:PzV d):∃zs ks ps,d=.tuple [.tuple (zs.map PyData.str),.tuple<|ks.map krD,.tuple<|ps.map prE]/\Tq zs ks ps:=by
 obtain⟨zs,ns,kd,pd,rfl,pR,k0,k6,ES,nd,nm,yK⟩:=id h;obtain⟨ks,rfl,ko⟩:=Ly (f:=krD) (Q:=KrO) (l:=kd) λd hd=>by obtain⟨i,hi⟩:=fk.mp hd;obtain⟨z,hz,kv⟩:=ES i d hi;exact ayf (nm z<|ah hz) kv
 obtain⟨ps,rfl,po⟩:=Ly (f:=prE) (Q:=λq=>Ltr q.1/\Ltr q.2) (l:=pd) λd hd=>by obtain⟨x,y,rfl,h1,h2,h3⟩:=yK.1 d hd;exact⟨(x,y),rfl,⟨h1,by show x<=90;lia⟩,⟨by show 65<=y;lia,h3⟩⟩
 refine(mj zs ks ps ⟨rfl,h,pR,by rw[af]at k6;exact k6,ko,po,by have:=yK.2.2;rw[af]at this;exact this⟩)
noncomputable def kwE(k:Kr):Z9 Str:=Bs k<|oJ k.ss
noncomputable def avt(zs:Z9 Str)(ks:Z9 Kr)(ps:Z9 (Nat×Nat)):Str:=az0 zs ps<|ks.map kwE
def av1{zs:Z9 Str}{ks:Z9 Kr}{ps:Z9 (Nat×Nat)}(h:Tq zs ks ps):Tz zs ks ps (ks.map kwE):=by refine⟨h.pz,h.rw,h.k6,⟨af _,λi k ws h1 h2=>?_⟩,h.ltr,h.p3⟩;rw[au,h1]at h2;cases h2;have ho:=h.ko k<|ah h1;exact⟨ho,_,rfl,F4 ho.fs⟩
def qa(a b:Str):(a++b).cps.toList=a.cps.toList++b.cps.toList:=by show(a.cps++b.cps).toList=_;simp
def anc(fl:Str):aa "floor " ++ fl=a8 ⟨#[32]⟩ [aa "floor",fl]:=by refine ub ?_;rw[og,qa,show(aa "floor ").cps.toList=(aa "floor").cps.toList++[32] by decide +kernel];simp[a8]
def aro(a b:Str):aa "apart " ++ a++aa " " ++ b=a8 ⟨#[32]⟩ [aa "apart",a,b]:=by refine ub ?_;rw[og,og,qa,qa,qa,e32,show(aa "apart ").cps.toList=(aa "apart").cps.toList++[32] by decide +kernel];simp[a8]
theorem avo{H:Hp}{k:Kr}{v:V}(h:Rep H (krD k) v):∃b fr xs m,v=.ref b/\H b=some (.tup [.str k.z,.int (k.l:Nat),m,.str k.md,.ref fr])/\H fr=some (.tup xs)/\RepAll H (k.ss.map sgD) xs/\m=(match k.m with|some j=>V.int (j:Nat)|none=>.non):=by
 obtain⟨b,xs,rfl,hb,x1,r1,e1,⟨q1,_⟩,x2,r2,e2,q2,x3,r3,e3,q3,x4,r4,e4,⟨q4,_⟩,x5,r5,e5,⟨fr,ys,rfl,hf,rs⟩,e6⟩:=h;subst e6 e5 e4 e3 e2 e1 q1 q4;cases (show x2=_ from q2);refine(lr b fr ys x3 ⟨rfl,hb,hf,rs,?_⟩);cases e:k.m with
 | none=>rw[e]at q3;exact q3
 | some j=>rw[e]at q3;exact q3
def tj(c:Nat)(z:Str)(h:z=⟨#[c]⟩)(xs:Z9 Str):j8 z xs=a8 ⟨#[c]⟩ xs:=by rw[h];exact PySem.StrLaws.glued_eq_join _ _
def aq1{n:Nat}(h:n<=64):(((n:Nat):Int)).natAbs.log2<1920:=by
 have:∀n≤64,(((n:Nat):Int)).natAbs.log2<1920:=by decide +kernel
 exact this n h
def au8:Sp:=λvs H Q _=>∃(pz st:aF)(zs:Z9 Str)(ks:Z9 Kr) (ps:Z9 (Nat×Nat)),vs=[.ref pz,.ref st]/\H st=some (.lst [])/\Rep H (.tuple [.tuple (zs.map PyData.str),.tuple<|ks.map krD,.tuple<|ps.map prE]) (.ref pz)/\Tq zs ks ps/\
 ∀(H':Hp),Same H H'->Q (.str<|avt zs ks ps) H'
def scWri:lz ["_law_puzzle_here","_law_state_here","_law_floor_here","_law_kinds","_law_some","_law_lines","_law_name","_law_least","_law_most","_law_mode","_law_form","_law_more","_law_top","_law_words"] ZB (ll Kd):={}
theorem axa(B:∀x∈ux,mg x=none)(aR:wx P w K mg base)(D9:Fn P w K mg base "_law_picture" 1 ZC aqn)(F:Fun K "_law_written" "_law_written" Kd f fd):FnOk P w K mg base CX0 2 f fd ZB au8:=by
 refine F.ok (k:=1) scWri (λvs H Q E h=>?_) λbE A outer s H vs Q E hr h=>?_
 .obtain⟨_,_,_,_,_,rfl,_⟩:=h;rfl
 obtain⟨pz,st,zs,ks,ps,rfl,bD,rp,hT,q⟩:=h;have hu:=hr.units;obtain⟨_,_,e0,Il,f0,r1,e1,⟨fl,fx,e2,CV,rF⟩,k0,r2,e3,⟨kd,kx,e4,hkd,rK⟩,p0,r3,e5,⟨pd,px,e6,Cw,rP⟩,e7⟩:=rp;cases e0;subst e7 e6 e5 e4 e3 e2 e1;cases w4 rF;have lk:=rK.length;have lp:=rP.length;rw[af]at lk lp;have k6:=hT.k6;have p3:=hT.p3;have hz:=Rw.row hT.rw;have fw:=Kx hT.rw;refine⟨_,(kq (zv (pv 0)<|yz (n:=3) rfl<|mf (li (i:=2) scWri.nd rfl<|Or.inl rfl)<|mf (li (i:=3) scWri.nd rfl<|Or.inl rfl)<|mf (li (i:=4) scWri.nd rfl<|Or.inl rfl) sj)
  (kq (l4 (i:=5) scWri.nd rfl (Or.inl rfl)<|l7<|ku (ml rq lc<|qi bp cw cx aoq lc<|ku (pv 2) km) km)
  (kq (vn ge rfl (yq<|pv 3) (yz (n:=5) rfl<|mf (li (i:=6) scWri.nd rfl<|Or.inl rfl)<|mf (li (i:=7) scWri.nd rfl<|Or.inl rfl)<|mf (li (i:=8) scWri.nd rfl<|Or.inl rfl)<|mf (li (i:=9) scWri.nd rfl<|Or.inl rfl)<|mf (li (i:=10) scWri.nd rfl<|Or.inl rfl) sj) (kq (l4 (i:=11) scWri.nd rfl (Or.inl rfl)<|l7<|ku k7<|ku k7<|ku k7<|ku k7 km)
  (kq (o4 (m6 (awb hu) (pv 1) (l7 km)<|mr _) (lg<|vx (i:=11) ZL [none,some 1] scWri.nd rfl (Or.inl rfl) rfl rfl rfl (by decide +kernel) (by decide +kernel) rfl rfl (tV rfl (B "range"<|by decide)<|ku k7 km) (λ_=>(li (i:=0) (show(ZL:Z9 PySem.Str).Nodup by decide +kernel) rfl<|Or.inl rfl)) (λ_=>ng) λ_=>(mw (al6 rfl) rfl (B "max"<|by decide) nM<|ku k7<|ku (ml yh (me aR hr (by decide) rfl<|ku (pv 1)<|ku k7 km) k7) km)) mh)
  (kq (l4 (i:=12) scWri.nd rfl (Or.inl rfl)<|x9 ajp rfl (B "str"<|by decide) eO<|ku (pv 8) km)
  (kq (o4 (m6 aqd (pv 8) DP<|mr _) (lg<|l4 (i:=12) scWri.nd rfl (Or.inl rfl) lc) mh)
  (kq (l4 (i:=13) scWri.nd rfl (Or.inl rfl)<|l7<|ku lc<|ku (pv 6)<|ku (x9 afd rfl (B "str"<|by decide) eO<|ku (pv 7) km)<|ku (pv 12)<|ku (pv 9) km)
  (lg<|sq<|qi dh ff fg qg (pv 5)<|ku (qi bp cw cx rn lc<|ku (ml pb (pv 13)<|l7<|ku (me D9 hr (by decide) rfl<|ku (pv 10)<|ku (pv 11) km) km) km) km)))))))
  (lg<|ls<|qi bp cw cx rn lc<|ku (ml pb (pv 5)<|nk ZA [none,none] rfl rfl (by decide +kernel) (by decide +kernel) rfl rfl (yq<|pv 4) (λ_=>(F2 (n:=2) rfl<|mf (li (i:=0) (show(ZA:Z9 PySem.Str).Nodup by decide +kernel) rfl<|Or.inl rfl)<|mf (li (i:=1) (show(ZA:Z9 PySem.Str).Nodup by decide +kernel) rfl<|Or.inl rfl) sj)) (λ_=>ng) λ_=>(ml rq (ml rq (ml rq lc<|pv 0) lc)<|pv 1)) km)))),?_⟩
 refine(x8 _ rfl pz _ rfl (SqT.of Il) rfl _ _ ⟨rfl,(lv _ _ ⟨rfl,(lv _ _ ⟨rfl,rfl,?_⟩)⟩)⟩);have hsz:=dn (B:=8) zs λz h=>(hz z h).2.1;have hz8:=hT.rw.2.1;have e1:(aa "/").length=1:=by decide +kernel
 have e6':(aa "floor ").length=6:=by decide +kernel
 refine⟨rfl,(nv _ rfl _ fl zs ⟨rfl,rfl,CV,by rw[e1];lia,?_⟩)⟩;rw[tj 47 _ e47];refine(lv _ _ ⟨rfl,rfl,by rw[e6'];exact cb (lu<|by have:=fw.2.1;lia),sZ1,λD hD=>?_⟩);rw[anc];generalize g1:upd H D _=H1 at *;obtain⟨s1,u1⟩:=al hD g1;clear g1;refine(mm _ rfl kd ⟨rfl,⟨_,SqT.of<|s1 _ _ hkd⟩,?_⟩);refine anq (xs:=kx) (λi σ' G=>∃(y6 y7 y8 y9 y10 y11 y12 Ee:Option V),σ'=[some (.ref pz),some<|.ref st,some<|.ref fl,some<|.ref kd,some<|.ref pd,some<|.ref D,y6,y7,y8,y9,y10,y11,y12,Ee]/\Same H G/\G D=some (.lst<|(([aa "floor",a8 ⟨#[47]⟩ zs]::(ks.take i).map kwE).map (a8 ⟨#[32]⟩)).map V.str)) ?_ (λi σ' G hi hI=>?_) (λi x σ' G hx hI=>?_) λσ' G hI=>?_
 .exact(nj _ _ _ _ _<|mj _ _ _ ⟨rfl,s1,u1⟩)
 .obtain⟨_,_,_,_,_,_,_,_,_,sg,_⟩:=hI;exact SqT.of<|sg _ _ hkd
 .obtain⟨y6,y7,y8,y9,y10,y11,y12,Ee,rfl,sg,Fe⟩:=hI;have hi:i<kx.length:=(ar.mp hx).1;obtain⟨d,hd,rd⟩:=(rK.same sg).at hx;rw[au]at hd;obtain⟨k,hk,rfl⟩:=bn.mp hd;have ho:=hT.ko k<|ah hk;obtain⟨b,fr,sx,mv,rfl,hb,lF,rS,rfl⟩:=avo rd;have stG:=sg _ _ bD;refine(on b _ rfl (SqT.of hb) rfl _ _ rfl _<|m8 _ rfl _ _ ⟨rfl,(lv _ _ ⟨rfl,(lv _ _ ⟨rfl,rfl,?_⟩)⟩)⟩);refine⟨sZ4,λm0 IP=>?_⟩;generalize g1:upd G m0 _=G1 at *;obtain⟨t1,v1⟩:=al IP g1;clear g1;refine⟨_,rfl,sZ0,λe0 Ji=>?_⟩;generalize g1:upd G1 e0 _=W at *;obtain⟨t2,v2⟩:=al Ji g1;clear g1;have sW:=t1.trans t2;refine(mj st e0 _ ⟨rfl,rfl,sW _ _ stG,v2,_,rfl,?_⟩);refine tw ?_;have IM:=ho.m64;have IU:=ho.l64;refine(mm _ rfl (k.m.map λj:Nat=>(j:Int)) ⟨by cases k.m<;>rfl,(λi hi=>?_),?_⟩)
  .cases e:k.m with
   | none=>rw[e]at hi;cases hi
   | some j=>
    rw[e]at hi;cases hi;exact aq1<|IM j e
  dsimp only[ve];refine ahq (λσ' W'=>σ'=[some (.ref pz),some<|.ref st,some<|.ref fl,some<|.ref kd,some<|.ref pd,some<|.ref D,some<|.str k.z,some<|.int (k.l:Nat),some (match k.m with|some j=>V.int (j:Nat)|none=>.non),some<|.str k.md,some<|.ref fr,some<|.ref m0,some<|.str<|vD k.m,Ee]/\W'=W) ?_ λDh lV rtE=>?_
  case' refine_2=>
   refine(ma _ rfl rfl _ ⟨rfl,?_⟩);cases e:k.m with
   | none=>exact oz (lV _ _ ⟨by rw[e];rfl,rfl⟩)
   | some j=>exact tw<|lV _ _ ⟨by rw[e];rfl,rfl⟩
  rintro σ' W' ⟨rfl,rfl⟩;refine(v8 _ rfl _ rfl (k.l:Nat) ⟨rfl,aq1 IU,(mm _ rfl _ ⟨rfl,sZ5,λwo hwo=>?_⟩)⟩);generalize g1:upd W' wo _=W2 at *;obtain⟨t3,v3⟩:=al hwo g1;clear g1;have Jc:=t3 _ _<|sW _ _ lF;have rS2:=(rS.same sW).same t3;have wW:=sW _ _ Fe;refine⟨_,rfl,.inl ⟨rfl,_,SqL.of<|t3 _ _ wW⟩,rfl,(xj _ rfl _ rfl _ rfl fr m0<|nj sx k.ss 0 0 0 ⟨0,rfl,Jc,rS2,ho.fs,t3 _ _<|t2 _ _ v1,dv _,dv _,dv _,dv _,λpic W3 t4 uQ=>?_⟩)⟩;rw[axg]at uQ;subst uQ;refine⟨sZ1,λpo hpo=>?_⟩;generalize g1:upd W3 po _=W4 at *;obtain⟨t5,v5⟩:=al hpo g1;clear g1;have v35:=(t4.trans t5) _ _ v3;refine(lr wo po _ _ ⟨rfl,rfl,v35,v5,cb (lu<|by show 5+1<=1000;decide),λro AT=>?_⟩);generalize g1:upd W4 ro _=W5 at *;obtain⟨t6,v6⟩:=al AT g1;clear g1;have t36:=((t3.trans t4).trans t5).trans t6;have IW:=KH ho<|F4 ho.fs;have iT:=dn (B:=120) (kwE k) λx hx=>(IW x hx).2.1;have xD:(aa " ").length=1:=by decide +kernel
  have l6:(kwE k).length=6:=rfl;refine(mj _ ro (kwE k) ⟨rfl,rfl,v6,by rw[xD,l6];rw[l6]at iT;lia,?_⟩);rw[tj 32 _ e32];have tJ:=t36 _ _ wW;refine(mj D _ _ ⟨rfl,rfl,tJ,lu<|by simp;lia,?_⟩);refine(nj _ _ _ _ _<|mj _ _ _ ⟨rfl,((sg.trans sW).trans t36).new hD,?_⟩);rw[k8,lq kwE hk,<-List.cons_append,ay,ay];rfl
 .obtain⟨y6,y7,y8,y9,y10,y11,y12,Ee,rfl,sg,Fe⟩:=hI;rw[bb (by lia)]at Fe;have Jt:=av1 hT;have Cv:=sg _ _ Cw;have rPG:=rP.same sg;refine⟨rfl,(v8 _ rfl _ rfl pd ⟨rfl,⟨_,SqT.of Cv⟩,λD2 dF=>?_⟩)⟩;refine tq (xs:=px) (λi ys J=>Same G J/\ys=(((ps.take i).map prW).map (a8 ⟨#[32]⟩)).map V.str) ⟨Same.fresh _ dF,rfl⟩ (λi ys J p=>SqT.of<|p.1 _ _ Cv) (λi x ys J hx hi aN aY p=>?_) λys J aN aY p=>?_
  .obtain⟨p1,rfl⟩:=p;obtain⟨d,hd,rd⟩:=rPG.at hx;rw[au]at hd;obtain⟨pq,E4,rfl⟩:=bn.mp hd;obtain⟨b,bx,rfl,hb,z1,r1,e1,⟨q1,_⟩,z2,r2,e2,⟨q2,_⟩,e3⟩:=Rep.same p1 rd;subst e3 e2 e1 q1 q2;refine(on b _ rfl (SqT.of hb) rfl _ _ rfl _ ⟨_,rfl,rfl,?_⟩);refine⟨Agree.set (Agree.set (Agree.refl _) rfl) rfl,?_⟩;dsimp only[wg];refine oz ?_;have la:(aa "apart ").length=6:=by decide +kernel
   have lb:(aa " ").length=1:=by decide +kernel
   have qD:∀a b:Str,(a++b).length=a.length+b.length:=λa b=>by rw[<-iO,qa,a9,iO,iO]
   have l1:∀c:Nat,(⟨#[c]⟩:Str).length=1:=λ_=>rfl;refine(x8 _ rfl _ _ rfl rfl (by rw[la,l1];decide) _ _ ⟨rfl,rfl,by rw[qD,la,l1,lb];decide,(m8 _ rfl _ _ ⟨rfl,rfl,by rw[qD,qD,la,l1,lb,l1];decide,?_⟩)⟩);rw[aro];refine oj (by lia) aN aY ⟨p1.new dF,?_⟩;rw[lq prW E4,ay,ay];rfl
  .obtain⟨p1,rfl⟩:=p;rw[bb (by lia)]at aN;refine(lr D D2 _ _ ⟨rfl,rfl,p1 _ _ Fe,aN,cb<|lu<|by simp;lia,λS hS=>?_⟩);generalize g1:upd J S _=J2 at *;obtain⟨t2,v2⟩:=al hS g1;clear g1;have eL:((([aa "floor",a8 ⟨#[47]⟩ zs]::ks.map kwE).map (a8 ⟨#[32]⟩)).map V.str)++(((ps.map prW).map (a8 ⟨#[32]⟩)).map V.str)=((uo zs ps<|ks.map kwE).map (a8 ⟨#[32]⟩)).map V.str:=by
    unfold uo;rw[<-ay,<-ay,List.cons_append]
   rw[eL]at v2;have aU:=Jt.len;have iT:=dn (B:=726) ((uo zs ps<|ks.map kwE).map (a8 ⟨#[32]⟩)) λx hx=>by obtain⟨ws,hws,rfl⟩:=a7.mp hx;exact amk (Jt.wd ws hws).2.1 (Jt.wd ws hws).2.2
   rw[af]at iT;have xD:(aa "\n").length=1:=by decide +kernel
   refine(mj _ S ((uo zs ps<|ks.map kwE).map (a8 ⟨#[32]⟩)) ⟨rfl,rfl,v2,by rw[xD,af];lia,?_⟩);rw[tj 10 _ e10];exact q J2<|sg.trans<|p1.trans t2
def a1i{ss:Z9 Sg}(hl:∀s∈ss,Ltr s.2.2){t l N W:Nat}(n0:0<N):jt (a8 ⟨#[47]⟩<|sk<|we ss t l N W) ⟨#[47]⟩=sk (we ss t l N W):=xc (λe=>by have hs:=uu<|we ss t l N W;rw[e]at hs;have hs:0=N:=hs;lia) λz hz h=>by
 rcases(xp hl hz).2 47 h with h|h
 .cases h
 .have:=h.1;lia
def Ga{ss:Z9 Sg}(h:FrS ss):pj (oJ ss)=sk (we ss 0 0 (mxR ss+1)<|mxC ss+1):=a1i h.ltr<|Nat.succ_pos _
def amp{ss:Z9 Sg}(h:FrS ss):Am (oJ ss)=(vG<|we ss 0 0 (mxR ss+1)<|mxC ss+1).filter isP:=by unfold Am;rw[Ga h,uu,acb _ _<|av _];rfl
def alc{ss:Z9 Sg}(h:FrS ss):(Am<|oJ ss).length=ss.length/\wm (oJ ss)=ss.map sgD:=by obtain⟨_,h2,h3⟩:=aoc h (t:=0) (l:=0) (N:=mxR ss+1) (W:=mxC ss+1) (λs hs=>by have:s.1<=mxR ss:=Bp<|bz hs;lia) (λs hs=>by have:s.2.1<=mxC ss:=Bp<|bz hs;lia);unfold wm;rw[amp h];exact⟨h2,h3⟩
def ar9{ss:Z9 Sg}(h:FrS ss):PcW (oJ ss):=by
 obtain⟨a1,a2⟩:=alc h;have h6:=h.fr.1.pre.six;rw[af]at h6;obtain⟨m1,m2⟩:=Fx h;have hw:=(F4 h).wd h.ltr;refine⟨hw.wa,by rw[Ga h,uu];show mxR ss+1<=10;lia,λx hx=>?_,by lia,by rw[a2,af];lia,λd hd=>?_⟩
 .rw[Ga h]at hx;rw[(xp h.ltr hx).1];lia
 .rw[a2]at hd;exact h.fr.1.pre.sg d hd
theorem apo{ss:Z9 Sg}(h:FrS ss):Ba (oJ ss)=true:=by
 unfold Ba;rw[Ga h];have AT:=λ{z:Str} (hz:z∈sk (we ss 0 0 (mxR ss+1)<|mxC ss+1))=>xp h.ltr hz;have hl:(sk<|we ss 0 0 (mxR ss+1)<|mxC ss+1).length=mxR ss+1:=uu _;generalize sk (we ss 0 0 (mxR ss+1)<|mxC ss+1)=zs at *;rw[bf,bf];refine⟨?_,bq.mpr λx hx=>?_,bq.mpr λx hx=>bq.mpr λc hc=>?_⟩
 .rw[List.any_eq_false.mpr λx hx=>?_]
  .rfl
  .have e:=(AT hx).1;rw[decide_eq_true_iff];rintro rfl;have:(aa "").length=0:=by decide +kernel
   lia
 .refine decide_eq_true ?_;rw[(AT hx).1];cases zs with
  | nil=>cases hx
  | cons a t=>exact((AT (z:=a) aj).1).symm
 .rcases(AT hx).2 c hc with rfl|hL
  .rfl
  .unfold pK;rw[decide_eq_true hL.1,decide_eq_true hL.2];simp
def av7{z:Str}{ws:Z9 Str}{k:Nat}(hk:ws.length=k)(hz:Wd z)(h:∀x∈ws,Wd x):iP (z::ws) z k=true:=by
 unfold iP;rw[decide_eq_true (show(z::ws).head?=some z from rfl),decide_eq_true (show(z::ws).length=1+k by rw[bc];lia),List.any_eq_false.mpr λx hx=>?_]
 .rfl
 .rw[Bool.not_eq_true];rcases ap.mp hx with rfl|hx
  .exact DH hz
  .exact DH<|h x hx
noncomputable def Ae(k:Kr):Kw:=⟨k.z,k.l,k.m,k.md,oJ k.ss⟩
theorem awn{k:Kr}(h:KrO k):jH (kwW<|Ae k)=true:=by
 have hw:=KH h<|F4 h.fs;unfold jH;rw[show iP (kwW<|Ae k) (aa "piece") 5=true from av7 rfl (hw _ aj) λx hx=>hw x<|ak _ hx,fq];show(sI (pL k.l)&&((decide (vD k.m=aa "any")||sI (vD k.m))&&Ba (oJ k.ss)))=true;rw[(FY k.l h.l64).1,apo h.fs,fq,Bool.and_true];cases e:k.m with
 | none=>rw[decide_eq_true (show vD none=aa "any" from rfl)];rfl
 | some j=>rw[show sI (vD<|some j)=true from (FY j<|h.m64 j e).1,Bool.or_true]
def au4{z:Str}(h:NmV z):z.length<=80:=by have h2:(decide (1<=z.length)&&decide (z.length<=8)&&z.cps.toList.all smB)=true:=h.2;rw[bf,bf]at h2;have:=of_decide_eq_true h2.1.2;lia
def axr{k:Kr}(h:KrO k):KwO (Ae k):=⟨(axo h.nm).wa,au4 h.nm,fj h.l64<|by decide,λj e=>fj (h.m64 j e)<|by decide,(awt h.md).wa,(at3 h.md).1,ar9 h.fs⟩
noncomputable def prS(p:Nat×Nat):Str×Str:=(⟨#[p.1]⟩,⟨#[p.2]⟩)
def ayx{zs:Z9 Str}(h:Rw menu zs):(a8 ⟨#[47]⟩ zs).length<=80:=by have hr:=Rw.row h;have:=sw (c:=47) (m:=8) (xs:=zs) λz hz=>(hr z hz).2.1;have h8:=h.2.1;lia
def azv{zs:Z9 Str}{ks:Z9 Kr}{ps:Z9 (Nat×Nat)}(h:Tq zs ks ps):FmW (uo zs ps<|ks.map kwE) (a8 ⟨#[47]⟩ zs) (ks.map Ae) (ps.map prS):=by
 refine⟨?_,⟨Kx h.rw,ayx h.rw⟩,λk hk=>?_,λp hp=>?_⟩
 .unfold uo;rw[gd,gd];rfl
 .obtain⟨k',hk',rfl⟩:=a7.mp hk;exact⟨axr<|h.ko k' hk',awn<|h.ko k' hk'⟩
 .obtain⟨p',E5,rfl⟩:=a7.mp hp;have:=h.ltr p' E5;exact⟨⟨FO this.1,by show 1<=80;decide⟩,⟨FO this.2,by show 1<=80;decide⟩⟩
def au7{zs:Z9 Str}{ks:Z9 Kr}{ps:Z9 (Nat×Nat)}(h:Tq zs ks ps):nP (a8 ⟨#[47]⟩ zs) (ks.map Ae) (ps.map prS)=.tuple [.tuple (zs.map PyData.str),.tuple<|ks.map krD,.tuple<|ps.map prE]:=by
 have EV:=Rw.row h.rw;have e1:pj (a8 ⟨#[47]⟩ zs)=zs:=xc (λe=>by have:=h.rw.1;rw[e]at this;simp at this) λz hz hc=>((EV z hz).2.2 47 hc).2.2 rfl;have e2:(ks.map Ae).map kwD=ks.map krD:=by rw[gd];refine ix λk hk=>?_;show PyData.tuple [.str k.z,.int (k.l:Nat),mD k.m,.str k.md,.tuple<|wm<|oJ k.ss]=_;rw[(alc (h.ko k hk).fs).2];rfl
 unfold nP;rw[e1,e2,gd];rfl
def axu{zs:Z9 Str}{ks:Z9 Kr}{ps:Z9 (Nat×Nat)}(h:Tq zs ks ps):LsW (uo zs ps<|ks.map kwE):=by have hT:=av1 h;have hw:=hT.wd;refine⟨by simp[uo],by have:=hT.len;lia,λws hws=>by have:=(hw ws hws).2.1;lia,λws hws=>⟨(hw ws hws).1,λx hx=>((hw ws hws).2.2 x hx).wa⟩⟩
def azr(zs:Z9 Str)(ks:Z9 Kr)(ps:Z9 (Nat×Nat)):avt zs ks ps=txW (uo zs ps<|ks.map kwE):=rfl
section
variable{X:Cx}{id:String}{r1 r2:Z9 V->Hp->VK->Prop}{v:aA}
def an6(h1:qj X v r1)(h2:qj X v r2):qj X v (λxs H Q=>r1 xs H Q\/r2 xs H Q):=by
 intro aE s σ H xs us Q I r h;rcases h with h|h
 .exact h1 aE s σ H xs us Q I r h
 .exact h2 aE s σ H xs us Q I r h
end
def avr{X:Cx}{K0:aq}{o e:Expr}{es:Z9 Expr}{to:TE}{t:TA}{name:Str}{eS bF:cU}{T id:String}{r:V->Z9 V->Hp->VK->Prop}(hK:X.K=K0)(pa:Bw T)(slot:Slot T name id)(Cg:mM (.builtin id)=bJ (.type "method_descriptor"))(hm:MtR X id r)(ho:PE X o to)(ha:PA X (e::es) t)
  (hZ:iB o name X.env (bL o X.env)=bL o X.env:=by rfl)
  (qZ:((bA bF<|aK (e::es) X.env).all (λx=>!x.1)&&(jG bF<|dX [] X.env).all (λx=>x.1.isSome)
   && decide ((e::es).length+([]:Z9 eE).length+(if ([]:Z9 eE).isEmpty then 0 else 1)<30))=true:=by rfl)
  (dE:(eS.endLine==bF.line)=true:=by rfl) (hs:aK (e::es) X.env=(false,bL e X.env)::aK es X.env:=by rfl) (hU:(bA bF<|aK es X.env).any (·.1)=false:=by rfl) :
  PE X (.Call (.Attribute o name eS) (e::es) [] bF) (tBM K0 T r to t):=by
 subst hK;exact qi pa slot Cg hm ho ha hZ qZ dE hs hU
structure Cls(K:aq)(c:aA)(CT CP CL CN:aF):Prop where
 eT:PySem.W.exmOne K (.ref CT) c=some true
 eP:PySem.W.exmOne K (.ref CP) c=some true
 aT:xL K CT
 aP:xL K CP
 tt:cj K (.ref CT) (.ref CT)=some true
 tp:cj K (.ref CT) (.ref CP)=some false
 tn:PySem.W.kitAny K (.ref CT) [.ref CL,.ref CN]=some false
 tv:cj K (.ref CT) (.type "ValueError")=some true
 pt:cj K (.ref CP) (.ref CT)=some false
 pp:cj K (.ref CP) (.ref CP)=some true
 pn:PySem.W.kitAny K (.ref CP) [.ref CL,.ref CN]=some false
 pv:cj K (.ref CP) (.type "ValueError")=some true
section
variable{CT CP CL CN:aF}{c:aA}
def aqv(K:aq)(H:Hp)(v:V)(b:Bool):Prop:=
 ((Kn H v/\∀z,v≠.str z)/\b=true)\/
 ∃L,v=.str (txW L)/\LsW L/\((uh L=false/\b=true)\/(b=false/\∃fl ks ps,FmW L fl ks ps/\∀H1 r,Rep H1 (nP fl ks ps) (.ref r)->¬nQ H1 (.ref r)))
def aqp(K:aq):Sp:=λvs H Q _=>∃v b,vs=[v]/\aqv K H v b/\∀l H',Same H H'->H' l=some (.lst [.bl b,.bl<|!b,.bl false,.bl true])->Q (.ref l) H'
def scWord:lz ["_law_text","_law_found","e"] ["_law_text"] (ll KL):={}
def asr(B:∀x∈ux,mg x=none)(hE:mg "CoverError" = some c)(hT:mg "NoText" = some (.ref CT))(hP:mg "NoPuzzle" = some (.ref CP))(hL:mg "NoLaying" = some (.ref CL))(hN:mg "NoNumber" = some (.ref CN))(hV:mg "ValueError" = none)(C:Cls K c CT CP CL CN)(nS:FnE P w K mg base "read" 8 ["text"] (K4 K CT CP))(F:Fun K "_law_word" "_law_word" KL f fd):FnOk P w K mg base CX0 9 f fd ["_law_text"] (aqp K):=by
 refine F.ok (k:=8) scWord (λvs H Q E h=>?_) λbE A outer s H vs Q E hr h=>?_
 .obtain⟨_,_,rfl,_⟩:=h;rfl
 obtain⟨v,b,rfl,hw,q⟩:=h;have hu:=hr.units;have HP:∀{X:Cx},X.K=K->qj X (.builtin "isinstance") (λxs H Q=>(∃a c v b,xs=[.ref a,v]/\H a=some (Exn a<|.ref CT)/\RelV v c/\(∀u,RelV v u->u=c)/\cj K (.ref CT) c=some b/\Q (.bl b) H)\/(∃a c v b,xs=[.ref a,v]/\H a=some (Exn a<|.ref CP)/\RelV v c/\(∀u,RelV v u->u=c)/\cj K (.ref CP) c=some b/\Q (.bl b) H)):=λe=>by subst e;exact an6 (acz C.aT)<|acz C.aP
 have isT:∀{X:Cx},X.K=K->qj X (.builtin "isinstance") (λxs H Q=>(∃(a p:aF)(ts:Z9 aF)(b:Bool),xs=[.ref a,.ref p]/\H a=some (Exn a<|.ref CT)/\H p=some (.tup<|ts.map V.ref)/\PySem.W.kitAny K (.ref CT) (ts.map aA.ref)=some b/\Q (.bl b) H)\/(∃(a p:aF)(ts:Z9 aF)(b:Bool),xs=[.ref a,.ref p]/\H a=some (Exn a<|.ref CP)/\H p=some (.tup<|ts.map V.ref)/\PySem.W.kitAny K (.ref CP) (ts.map aA.ref)=some b/\Q (.bl b) H)):=λe=>by subst e;exact an6 (aba C.aT)<|aba C.aP
 refine⟨_,(kq (l4 (i:=1) scWord.nd rfl (Or.inl rfl)<|l7 km)<|kq (ap3 (i:=2) nS hr (by decide) rfl rfl scWord.nd rfl rfl rfl hE (λ_=>(kq (l4 (i:=1) scWord.nd rfl (Or.inl rfl)<|l7<|ku (mw (HP rfl) rfl (B "isinstance"<|by decide) c7<|ku (pv 2)<|ku (yc (v:=.ref CT) rfl hT rfl) km)<|ku (mw (HP rfl) rfl (B "isinstance"<|by decide) c7<|ku (pv 2)<|ku (yc (v:=.ref CP) rfl hP rfl) km)<|ku (mw (isT rfl) rfl (B "isinstance"<|by decide) c7<|ku (pv 2)<|ku (qd<|ku (yc (v:=.ref CL) rfl hL rfl)<|ku (yc (v:=.ref CN) rfl hN rfl) km) km) km)<|lg<|sq<|avr (K0:=K) rfl dh ff fg qg (pv 1)<|ku (mw (HP rfl) rfl (B "isinstance"<|by decide) c7<|ku (pv 2)<|ku (qe (v:=.ty "ValueError") rfl hV (show bP "ValueError" = some (.type "ValueError") by decide +kernel) rfl) km) km)) rfl<|ku (pv 0) km)<|lg<|ls<|pv 1),?_⟩;refine⟨sZ0,λl0 oC=>?_⟩;generalize g1:upd H l0 _=H0 at *;obtain⟨s0,_⟩:=al oC g1;clear g1;rcases hw with ⟨⟨hk,hs⟩,rfl⟩|⟨L,rfl,hL',h⟩
 .have ht:∃t,iW K H0 v t/\cj K t (.type "str")=some false:=by
   rcases aq9 (K:=K) (hk.same s0)with ⟨z,e,_⟩|⟨h,_⟩
   .exact absurd e<|hs z
   .exact h
  refine(mm _ rfl v ⟨rfl,.inl ⟨ht,λH1 s1=>?_⟩⟩);refine⟨C.eT,λa ha=>?_⟩;have s2:Same H1 (upd H1 a<|Exn a<|.ref CT):=Same.fresh _ ha;have e2:upd H1 a (Exn a<|.ref CT) a=some (Exn a<|.ref CT):=k8;generalize upd H1 a (Exn a<|.ref CT)=H2 at *;refine⟨_,rfl,.inl<|lr a (.ref CT) (.ref CT) _ ⟨rfl,e2,rfl,(λu h=>h),C.tt,?_⟩⟩;refine⟨_,rfl,.inl<|lr a (.ref CP) (.ref CP) _ ⟨rfl,e2,rfl,(λu h=>h),C.tp,?_⟩⟩;refine⟨_,rfl,sZ2,λt ht=>?_⟩;generalize g1:upd H2 t _=H3 at *;obtain⟨s3,e3⟩:=al ht g1;clear g1;refine .inl<|lr a t ([CL,CN]) _ ⟨rfl,s3 _ _ e2,e3,C.tn,?_⟩;refine⟨sZ3,λl hl=>?_⟩;generalize g1:upd H3 l _=H4 at *;obtain⟨s4,e4⟩:=al hl g1;clear g1;refine(ma _ rfl (.inl ⟨rfl,_,SqL.of e4⟩) _ ⟨rfl,.inl<|lr a (.type "ValueError") (.ty "ValueError") _ ⟨rfl,(s3.trans s4) _ _ e2,rfl,(λu h=>h),C.tv,?_⟩⟩);refine(mj l _ _ ⟨rfl,rfl,e4,lu<|by show 3<=1000;decide,?_⟩);refine⟨_,rfl,?_⟩;exact q l _ ((((s0.trans s1).trans s2).trans (s3.trans s4)).new ((((s0.trans s1).trans s2).trans s3).free hl)) k8
 rcases h with ⟨hf,rfl⟩|⟨rfl,fl,ks,ps,hF,hn⟩
 .refine(mm _ rfl _ ⟨rfl,.inr ⟨L,rfl,hL',λ_ H1 s1=>?_,λh=>by rw[hf]at h;cases h⟩⟩);refine⟨C.eT,λa ha=>?_⟩;have s2:Same H1 (upd H1 a<|Exn a<|.ref CT):=Same.fresh _ ha;have e2:upd H1 a (Exn a<|.ref CT) a=some (Exn a<|.ref CT):=k8;generalize upd H1 a (Exn a<|.ref CT)=H2 at *;refine⟨_,rfl,.inl<|lr a (.ref CT) (.ref CT) _ ⟨rfl,e2,rfl,(λu h=>h),C.tt,?_⟩⟩;refine⟨_,rfl,.inl<|lr a (.ref CP) (.ref CP) _ ⟨rfl,e2,rfl,(λu h=>h),C.tp,?_⟩⟩;refine⟨_,rfl,sZ2,λt ht=>?_⟩;generalize g1:upd H2 t _=H3 at *;obtain⟨s3,e3⟩:=al ht g1;clear g1;refine .inl<|lr a t ([CL,CN]) _ ⟨rfl,s3 _ _ e2,e3,C.tn,?_⟩;refine⟨sZ3,λl hl=>?_⟩;generalize g1:upd H3 l _=H4 at *;obtain⟨s4,e4⟩:=al hl g1;clear g1;refine(ma _ rfl (.inl ⟨rfl,_,SqL.of e4⟩) _ ⟨rfl,.inl<|lr a (.type "ValueError") (.ty "ValueError") _ ⟨rfl,(s3.trans s4) _ _ e2,rfl,(λu h=>h),C.tv,?_⟩⟩);refine(mj l _ _ ⟨rfl,rfl,e4,lu<|by show 3<=1000;decide,?_⟩);refine⟨_,rfl,?_⟩;exact q l _ ((((s0.trans s1).trans s2).trans (s3.trans s4)).new ((((s0.trans s1).trans s2).trans s3).free hl)) k8
 .refine(mm _ rfl _ ⟨rfl,.inr ⟨L,rfl,hL',λh=>by(rw[hF.b]at h;cases h),λ_=>(mj fl ks ps ⟨hF,λr Hr H1 sr rr sr1=>⟨λhp=>absurd hp<|hn Hr r rr,λ_=>?_⟩⟩)⟩⟩);have s1:=sr.trans sr1;refine⟨C.eP,λa ha=>?_⟩;have s2:Same H1 (upd H1 a<|Exn a<|.ref CP):=Same.fresh _ ha;have e2:upd H1 a (Exn a<|.ref CP) a=some (Exn a<|.ref CP):=k8;generalize upd H1 a (Exn a<|.ref CP)=H2 at *;refine⟨_,rfl,.inr<|lr a (.ref CT) (.ref CT) _ ⟨rfl,e2,rfl,(λu h=>h),C.pt,?_⟩⟩;refine⟨_,rfl,.inr<|lr a (.ref CP) (.ref CP) _ ⟨rfl,e2,rfl,(λu h=>h),C.pp,?_⟩⟩;refine⟨_,rfl,sZ2,λt ht=>?_⟩;generalize g1:upd H2 t _=H3 at *;obtain⟨s3,e3⟩:=al ht g1;clear g1;refine .inr<|lr a t ([CL,CN]) _ ⟨rfl,s3 _ _ e2,e3,C.pn,?_⟩;refine⟨sZ3,λl hl=>?_⟩;generalize g1:upd H3 l _=H4 at *;obtain⟨s4,e4⟩:=al hl g1;clear g1;refine(ma _ rfl (.inl ⟨rfl,_,SqL.of e4⟩) _ ⟨rfl,.inr<|lr a (.type "ValueError") (.ty "ValueError") _ ⟨rfl,(s3.trans s4) _ _ e2,rfl,(λu h=>h),C.pv,?_⟩⟩);refine(mj l _ _ ⟨rfl,rfl,e4,lu<|by show 3<=1000;decide,?_⟩);refine⟨_,rfl,?_⟩;exact q l _ ((((s0.trans s1).trans s2).trans (s3.trans s4)).new ((((s0.trans s1).trans s2).trans s3).free hl)) k8
end
theorem aei{L:Z9 (Z9 Str)}(h:uh L=true):L.tail=L.filter (rj pcS)++L.filter (rj apS):=by
 unfold uh at h;rw[bf]at h;have h:=of_decide_eq_true h.1;cases L with
 | nil=>rfl
 | cons a t=>
  have h:a::t=a::(List.filter (rj pcS) (a::t)++List.filter (rj apS) (a::t)):=h;exact(List.cons.inj h).2
def at9{L:Z9 (Z9 Str)}(h:uh L=true){ws:Z9 Str}(hw:ws∈L.tail):jH ws=true\/iP ws apS 2=true:=by
 rw[aei h]at hw;unfold uh Ad at h;rw[bf,bf,bf]at h;rcases bo.mp hw with hw|hw
 .exact .inl<|bq.mp h.2.2.1 ws hw
 .exact .inr<|bq.mp h.2.2.2 ws hw
def ag7{L:Z9 (Z9 Str)}{ws:Z9 Str}(hw:ws∈L.tail)(h:jH ws=false/\iP ws apS 2=false):uh L=false:=du.mpr λe=>by
 rcases at9 e hw with a|a
 .rw[h.1]at a;cases a
 .rw[h.2]at a;cases a
def Mh{L:Z9 (Z9 Str)}(h:iP (L.headD []) (aa "floor") 1=false):uh L=false:=du.mpr λe=>by unfold uh Ad at e;rw[bf,bf,h]at e;cases e.2.1
def aud{ws:Z9 Str}(h6:ws.length≠6)(h3:ws.length≠3):jH ws=false/\iP ws apS 2=false:=by
 constructor
 .refine du.mpr λe=>h6 ?_;unfold jH at e;rw[bf]at e;exact FR e.1
 .exact du.mpr λe=>h3<|FR e
def LP{ws:Z9 Str}(h:ws.length≠2):iP ws (aa "floor") 1=false:=du.mpr λe=>h<|FR e
theorem ar8{L:Z9 (Z9 Str)}{a b:Z9 Str}(ha:rj apS a=true)(hb:rj apS b=false):uh (L++[a,b])=false:=du.mpr λe=>by
 have ht:=aei e;have hA:(L++[a,b]).filter (rj apS)=L.filter (rj apS)++[a]:=by rw[jc,List.filter_cons_of_pos ha,List.filter_cons_of_neg<|by rw[hb];decide];rfl
 rw[hA]at ht;have h1:(L++[a,b]).tail.getLast?=some b:=by
  cases L with
  | nil=>rfl
  | cons c t=>
   show(t++[a,b]).getLast?=some b;rw[List.getLast?_append];rfl
 rw[ht,<-jk,List.getLast?_append]at h1;have h1:some a=some b:=h1;cases h1;rw[ha]at hb;cases hb
theorem alu{L:Z9 (Z9 Str)}{i:Nat}{ws:Z9 Str}(hi:i<L.length)(h:(i=0/\ws.length≠2)\/(i≠0/\ws.length≠6/\ws.length≠3)):uh (L.set i ws)=false:=by
 cases L with
 | nil=>cases hi
 | cons a t=>
  rcases h with ⟨rfl,h⟩|⟨n0,h6,h3⟩
  .exact Mh<|LP h
  .cases i with
   | zero=>exact absurd rfl n0
   | succ i=>
    refine ag7 (ws:=ws) ?_<|aud h6 h3;show ws∈t.set i ws;exact List.mem_set (by simpa using hi) ws
theorem alx{L:Z9 (Z9 Str)}{i:Nat}{ws:Z9 Str}(hi:i<L.length)(h:jH ws=false/\iP ws apS 2=false):uh (L.take (i+1)++[ws]++L.drop (i+1))=false:=by
 cases L with
 | nil=>cases hi
 | cons a t=>
  refine ag7 (ws:=ws) ?_ h;show ws∈t.take i++[ws]++t.drop i;simp
noncomputable abbrev sW(l:Z9 String):Z9 Str:=l.map aa
noncomputable def goodW:Z9 Str:=sW ["piece","x","1","2","flip","A."]
noncomputable def DD:Z9 (Z9 Str):=[sW ["piece","x","01","2","flip","A"],sW ["piece","x","1","100","flip","A"],goodW.take 5,sW ["piece","x","-1","2","flip","A"],sW ["piece","x","1","Any","flip","A"],sW ["piece","x","","2","flip"],goodW++sW ["A"],goodW.take 5++sW ["A/AB"],goodW.take 5++sW ["a"],goodW.take 5++sW ["A-"],goodW.take 5++sW ["/A"],sW ["apart","A"],sW ["apart","A","B","C"],sW ["pieces"]++goodW.drop 1,sW ["floor","."],sW [""],sW ["floor"],sW ["Apart","A","B"]]
def anm:∀ws∈DD,jH ws=false/\iP ws apS 2=false:=by decide +kernel
theorem FmW.lens{L:Z9 (Z9 Str)}{fl:Str}{ks:Z9 Kw}{ps:Z9 (Str×Str)}(h:FmW L fl ks ps){i:Nat}{ws:Z9 Str}(hw:L[i]?=some ws):(i=0/\ws.length=2)\/(i≠0/\(ws.length=6\/ws.length=3)):=by
 rw[h.eL]at hw;cases i with
 | zero=>cases hw;exact .inl ⟨rfl,rfl⟩
 | succ i=>
  refine .inr ⟨Nat.succ_ne_zero _,?_⟩;have hw:(ks.map kwW++ps.map pW)[i]?=some ws:=hw;rcases bo.mp (ah hw)with m|m
  .obtain⟨k,_,rfl⟩:=a7.mp m;exact .inl rfl
  .obtain⟨k,_,rfl⟩:=a7.mp m;exact .inr rfl
def FmW.spoil{L:Z9 (Z9 Str)}{fl:Str}{ks:Z9 Kw}{ps:Z9 (Str×Str)}(h:FmW L fl ks ps){i:Nat}{ws vs:Z9 Str}(hw:L[i]?=some ws)(hv:vs.length+1=ws.length\/vs.length=ws.length+1):uh (L.set i vs)=false:=by
 have hi:=(ar.mp hw).1;rcases h.lens hw with ⟨rfl,l2⟩|⟨n0,l⟩
 .exact alu hi<|.inl ⟨rfl,by lia⟩
 .exact alu hi<|.inr ⟨n0,by lia,by lia⟩
theorem FmW.tl{L:Z9 (Z9 Str)}{fl:Str}{ks:Z9 Kw}{ps:Z9 (Str×Str)}(h:FmW L fl ks ps):uh (if L.tail=[]then[[aa ""]]else L.tail)=false:=by
 rw[h.eL];show uh (if ks.map kwW++ps.map pW=[]then _ else ks.map kwW++ps.map pW)=false;cases ks with
 | cons k ks=>
  rw[if_neg (by simp)];exact Mh (LP<|by show 6≠2;decide)
 | nil=>
  cases ps with
  | nil=>decide +kernel
  | cons p ps=>
   rw[if_neg (by simp)];exact Mh (LP<|by show 3≠2;decide)
theorem aen{c:Nat}{z:Str}{l:Z9 Str}(h:l≠[]):(a8 ⟨#[c]⟩ (z::l)).cps.toList=z.cps.toList++c::(a8 ⟨#[c]⟩ l).cps.toList:=by
 cases l with
 | nil=>exact absurd rfl h
 | cons y r=>exact og
theorem ama{x:Str}(b:Z9 Str):∀(a:Z9 Str),(a8 ⟨#[10]⟩ (a++(x++aa "\n")::b)).cps.toList=(a8 ⟨#[10]⟩ (a++x::aa "" :: b)).cps.toList
 | []=>by
  have e:(aa "\n").cps.toList=[10]:=by decide +kernel
  have e0:(aa "").cps.toList=[]:=by decide +kernel
  show(a8 ⟨#[10]⟩ ((x++aa "\n")::b)).cps.toList=(a8 ⟨#[10]⟩ (x::aa "" :: b)).cps.toList;rw[og];cases b with
  | nil=>
   show(x++aa "\n").cps.toList=x.cps.toList++10::(aa "").cps.toList;rw[qa,e,e0]
  | cons y r=>rw[og,og,qa,e,e0,jk];rfl
 | z::a=>by rw[List.cons_append,List.cons_append,aen<|by simp,aen<|by simp,ama b a]
theorem tW{G:Hp}{l st:aF}{ws:Z9 Str}{n:Z9 V}(hl:G l=some (.lst<|ws.map V.str))(hs:G st=some (.lst n))(hn:StL n):l≠st:=λe=>by
 rw[e,hs]at hl;obtain⟨z,rfl⟩:=hn;cases ws with
 | nil=>cases hl
 | cons a t=>cases hl
def ajy{n j:Nat}(h:j<n):ixN n (j:Int)=some j:=by unfold ixN;simp;lia
theorem ari{α β:Type}(f:α->β):∀(l:List α)(j:Nat),(l.map f).eraseIdx j=(l.eraseIdx j).map f
 | [],_=>rfl
 | a::l,0=>rfl
 | a::l,j+1=>congrArg (f a :: ·)<|ari f l j
def awh:∀ws∈DD,ws.length<=12/\ws≠[]/\∀x∈ws,Wa x:=by
 have h:∀ws∈DD,ws.length<=12/\ws≠[]/\∀x∈ws,x.length<=120/\∀c∈x.cps.toList,32<c/\c<128:=by decide +kernel
 exact h
def al1{L:Z9 (Z9 Str)}(h:LsW L)(Di:L.length<=24){i:Nat}{ws:Z9 Str}(zU:ws.length<=12)(h0:ws≠[])(hw:∀x∈ws,Wa x):LsW (L.take i++[ws]++L.drop i):=by
 have m:∀v∈L.take i++[ws]++L.drop i,v∈L\/v=ws:=λv hv=>by
  rcases bo.mp hv with hv|hv
  .rcases bo.mp hv with hv|hv
   .exact .inl<|fy hv
   .exact .inr<|a6.mp hv
  .exact .inl<|List.mem_of_mem_drop hv
 refine⟨by simp,by simp only[a9,cq,gl,cu];lia,λv hv=>?_,λv hv=>?_⟩
 .rcases m v hv with h'|rfl
  .exact h.w12 v h'
  .exact zU
 .rcases m v hv with h'|rfl
  .exact h.ln v h'
  .exact⟨h0,hw⟩
def as7{L:Z9 (Z9 Str)}(h:LsW L)(Di:L.length<=24):LsW (L++[sW ["apart","A","B"],goodW]):=by
 have g:∀v∈[sW ["apart","A","B"],goodW],v.length<=12/\v≠[]/\∀x∈v,x.length<=120/\∀c∈x.cps.toList,32<c/\c<128:=by decide +kernel
 refine⟨by simp,by rw[a9];show _+2<=_;lia,λv hv=>?_,λv hv=>?_⟩
 .rcases bo.mp hv with h'|h'
  .exact h.w12 v h'
  .exact(g v h').1
 .rcases bo.mp hv with h'|h'
  .exact h.ln v h'
  .exact(g v h').2
def aeu(a b c:Str):a++b++c=a++(b++c):=ub<|by rw[qa,qa,qa,qa,jk]
theorem Mj{y:Str}:∀{ws:Z9 Str},ws≠[]->a8 ⟨#[32]⟩ (ws++[y])=a8 ⟨#[32]⟩ ws++aa " " ++ y
 | [],h=>absurd rfl h
 | [x],_=>ub (by
  rw[qa,qa,e32];show(a8 ⟨#[32]⟩ (x::[y])).cps.toList=_;rw[og];show x.cps.toList++32::y.cps.toList=x.cps.toList++[32]++y.cps.toList;simp)
 | x::x2::r,_=>ub (by
  have ih:=congrArg (λz:Str=>z.cps.toList) (Mj (y:=y) (ws:=x2::r)<|by simp);rw[qa,qa,og];show(a8 ⟨#[32]⟩ (x::x2::(r++[y]))).cps.toList=_;rw[og];have ih:(a8 ⟨#[32]⟩ (x2::(r++[y]))).cps.toList=(a8 ⟨#[32]⟩ (x2::r)++aa " " ++ y).cps.toList:=ih;rw[ih,qa,qa];simp)
def axv{L:Z9 (Z9 Str)}{i:Nat}{ws:Z9 Str}(h:L[i]?=some ws):a8 ⟨#[10]⟩ ((L.map<|a8 ⟨#[32]⟩).set i (a8 ⟨#[32]⟩ ws++aa "\n"))=txW (L.take (i+1)++[[aa ""]]++L.drop (i+1)):=by have hi:=(ar.mp h).1;refine ub ?_;unfold txW;rw[List.set_eq_take_append_cons_drop,if_pos<|by rw[af];exact hi,ama,ay,ay,jl,h,ay,i9,ja];simp[a8]
def FM:Wa (aa ""):=⟨by decide +kernel,λc hc=>by cases (show c∈([]:Z9 Nat)from hc)⟩
def Lx{L:Z9 (Z9 Str)}(h:LsW L){i:Nat}{ws:Z9 Str}(zU:ws.length<=12)(h0:ws≠[])(hw:∀x∈ws,Wa x):LsW (L.set i ws):=by
 refine⟨λe=>h.ne<|by simpa using e,by rw[List.length_set];exact h.l30,λv hv=>?_,λv hv=>?_⟩
 .rcases List.mem_or_eq_of_mem_set hv with m|rfl
  .exact h.w12 v m
  .exact zU
 .rcases List.mem_or_eq_of_mem_set hv with m|rfl
  .exact h.ln v m
  .exact⟨h0,hw⟩
def az3:Sp:=λvs H Q _=>∃(ln st:aF)(n:Z9 V) (L:Z9 (Z9 Str)) (fl:Str) (ks:Z9 Kw) (ps:Z9 (Str×Str)),vs=[.ref ln,.ref st]/\H st=some (.lst n)/\StL n/\H ln=some (.lst<|(L.map<|a8 ⟨#[32]⟩).map V.str)/\ln≠st/\LsW L/\L.length<=24/\FmW L fl ks ps/\
 ∀(r:aF)(zs:Z9 Str) (L':Z9 (Z9 Str)) (H':Hp) (n':Z9 V),Ex [st,ln] H H'->H' st=some (.lst n')->StL n'->H' r=some (.lst<|zs.map V.str)->zs.length<=30->(∀z∈zs,z.length<=1500)->a8 ⟨#[10]⟩ zs=txW L'->LsW L'->uh L'=false->Q (.ref r) H'
def scNf:lz ["_law_lines","_law_state_here","_law_spot","_law_words","_law_place","_law_good","_law_odd","_law_way"] ZX (ll sNf):={}
theorem ay6(B:∀x∈ux,mg x=none)(aR:wx P w K mg base)(F:Fun K "_law_no_form" "_law_no_form" sNf f fd):FnOk P w K mg base CX0 2 f fd ZX az3:=by
 refine F.ok (k:=1) scNf (λvs H Q E h=>?_) λbE A outer s H vs Q E hr h=>?_
 .obtain⟨_,_,_,_,_,_,_,rfl,_⟩:=h;rfl
 obtain⟨ln,st,n,L,fl,ks,ps,rfl,bD,hn,CF,mW,hL,Di,hF,q⟩:=h;have hu:=hr.units;refine⟨_,(kq (l4 (i:=2) scNf.nd rfl (Or.inl rfl)<|me aR hr (by decide) rfl<|ku (pv 1)<|ku (mw m5 rfl (B "len"<|by decide) b9<|ku (pv 0) km) km)
  (kq (l4 (i:=3) scNf.nd rfl (Or.inl rfl)<|qi bp gu gv uv (m7 nh (pv 0) (pv 2) λ_ _=>rfl)<|ku lc km)
  (kq (l4 (i:=4) scNf.nd rfl (Or.inl rfl)<|me aR hr (by decide) rfl<|ku (pv 1)<|ku (mw m5 rfl (B "len"<|by decide) b9<|ku (pv 3) km) km)
  (kq (l4 (i:=5) scNf.nd rfl (Or.inl rfl)<|l7<|ku lc<|ku lc<|ku lc<|ku lc<|ku lc<|ku lc km)
  (kq (l4 (i:=6) scNf.nd rfl (Or.inl rfl)<|l7<|ku (l7<|ku lc<|ku lc<|ku lc<|ku lc<|ku lc<|ku lc km)<|ku (l7<|ku lc<|ku lc<|ku lc<|ku lc<|ku lc<|ku lc km)<|ku (nq o5 (pv 5) oo<|ot k7) km)
  (kq (l4 (i:=6) scNf.nd rfl (Or.inl rfl)<|ml pb (pv 6)<|l7<|ku (l7<|ku lc<|ku lc<|ku lc<|ku lc<|ku lc<|ku lc km)<|ku (l7<|ku lc<|ku lc<|ku lc<|ku lc<|ku lc<|ku lc km) km)
  (kq (l4 (i:=6) scNf.nd rfl (Or.inl rfl)<|ml pb (pv 6)<|l7<|ku (l7<|ku lc<|ku lc<|ku lc<|ku lc<|ku lc km)<|ku (ml pb (pv 5)<|l7<|ku lc km)<|ku (ml pb (nq o5 (pv 5) oo<|ot k7)<|l7<|ku lc km)<|ku (ml pb (nq o5 (pv 5) oo<|ot k7)<|l7<|ku lc km) km)
  (kq (l4 (i:=6) scNf.nd rfl (Or.inl rfl)<|ml pb (pv 6)<|l7<|ku (ml pb (nq o5 (pv 5) oo<|ot k7)<|l7<|ku lc km)<|ku (ml pb (nq o5 (pv 5) oo<|ot k7)<|l7<|ku lc km)<|ku (l7<|ku lc<|ku lc km) km)
  (kq (l4 (i:=6) scNf.nd rfl (Or.inl rfl)<|ml pb (pv 6)<|l7<|ku (l7<|ku lc<|ku lc<|ku lc<|ku lc km)<|ku (ml pb (l7<|ku lc km)<|nq o5 (pv 5) (ot k7) oo)<|ku (l7<|ku lc<|ku lc km)<|ku (l7<|ku lc km)<|ku (l7<|ku lc km)<|ku (l7<|ku lc<|ku lc<|ku lc km) km)
  (kq (l4 (i:=7) scNf.nd rfl (Or.inl rfl)<|me aR hr (by decide) rfl<|ku (pv 1)<|ku k7 km)
  (kq (o4 (m6 sd (pv 7) k7<|mr _) (lg<|ls<|ml pb (ml pb (nq o5 (pv 0) oo<|ot<|ml qf (pv 2) k7)<|l7<|ku (qi bp cw cx rn lc<|ku (m7 nh (pv 6) (me aR hr (by decide) rfl<|ku (pv 1)<|ku k7 km) λ_ _=>rfl) km) km)<|nq o5 (pv 0) (ot<|ml qf (pv 2) k7) oo) mh)
  (kq (o4 (m6 sd (pv 7) k7<|mr _) (lg<|ls<|nq o5 (pv 0) (ot k7) oo) mh)
  (kq (o4 (m6 sd (pv 7) k7<|mr _) (kq (sq<|qi dh PySem.F.slot_list_pop PySem.F.type_list_pop ao0 (pv 3)<|ku (pv 4) km)
  (lg<|zv (qi bp cw cx rn lc<|ku (pv 3) km)<|FT (pv 0) (pv 2) F7)) mh)
  (kq (o4 (m6 sd (pv 7) k7<|mr _) (kq (sq<|qi dh PySem.F.slot_list_insert PySem.F.type_list_insert anb (pv 3)<|ku (pv 4)<|ku lc km)
  (lg<|zv (qi bp cw cx rn lc<|ku (pv 3) km)<|FT (pv 0) (pv 2) F7)) mh)
  (kq (o4 (m6 sd (pv 7) k7<|mr _) (lg<|ls<|ml pb (pv 0)<|l7<|ku lc<|ku (qi bp cw cx rn lc<|ku (pv 5) km) km) mh)
  (kq (o4 (m6 sd (pv 7) k7<|mr _) (lg<|zv (ml rq (m7 nh (pv 0) (pv 2) λ_ _=>rfl)<|m7 nh (l7<|ku lc<|ku lc<|ku lc km) (me aR hr (by decide) rfl<|ku (pv 1)<|ku k7 km) λ_ _=>rfl)<|FT (pv 0) (pv 2) F7) mh)
  (lg<|ls<|pv 0))))))))))))))))),?_⟩
 have dO:0<L.length:=List.length_pos_iff.mpr hL.ne;have lm:((L.map<|a8 ⟨#[32]⟩).map V.str).length=L.length:=by rw[af,af]
 refine(qh _ rfl _ rfl ln _ rfl (.inl<|SqL.of CF) st<|lv n _ ⟨rfl,bD,hn,by rw[lm];lia,by rw[lm];lia,λn1 i1 fW tK Fh=>?_⟩);rw[lm]at Fh;obtain⟨i,rfl⟩:=br tK;have x1:Ex [st,ln] H (upd H st<|.lst n1):=Ex.upd (by simp);have jV:upd H st (.lst n1) st=some (.lst n1):=k8;have HH:upd H st (.lst n1) ln=some (.lst<|(L.map<|a8 ⟨#[32]⟩).map V.str):=by rw[lh mW];exact CF
 generalize upd H st (.lst n1)=H1 at *;obtain⟨ws,hws⟩:∃ws,L[i]?=some ws:=⟨_,ae<|by lia⟩;have lQ:=ah hws;have wl:=hL.line lQ;refine(mi _ rfl _ rfl ln _ _ ⟨.str<|a8 ⟨#[32]⟩ ws,rfl,rfl,SqL.of HH,my<|by rw[au,au,hws];rfl,rfl,(lv (a8 ⟨#[32]⟩ ws) 32 ⟨rfl,by rw[e32],by rw[dw];lia,λwd AS=>?_⟩)⟩);rw[hL.cut1 lQ];generalize g1:upd H1 wd _=H2 at *;obtain⟨t2,wd2⟩:=al AS g1;clear g1;have lw:(ws.map V.str).length=ws.length:=af _;have w0:0<ws.length:=List.length_pos_iff.mpr (hL.ln ws lQ).1;have w12:=hL.w12 ws lQ;refine(qh _ rfl _ rfl wd _ rfl (.inl<|SqL.of wd2) st<|lv n1 _ ⟨rfl,t2 _ _ jV,fW,by rw[lw];lia,by rw[lw];lia,λn2 j1 gU pH A2=>?_⟩);rw[lw]at A2;obtain⟨j,rfl⟩:=br pH;have BS:wd≠st:=λe=>by rw[e,jV]at AS;cases AS
 have x2:Ex [st,ln] H (upd H2 st<|.lst n2):=(x1.trans<|Ex.of_same t2).trans (Ex.upd<|by simp);have eV:upd H2 st (.lst n2) st=some (.lst n2):=k8;have ln2:upd H2 st (.lst n2) ln=some (.lst<|(L.map<|a8 ⟨#[32]⟩).map V.str):=by rw[lh mW];exact t2 _ _ HH
 have wd3:upd H2 st (.lst n2) wd=some (.lst<|ws.map V.str):=by rw[lh BS];exact wd2
 generalize upd H2 st (.lst n2)=G2 at *;refine⟨sZ6,λp3 hp=>?_⟩;generalize g1:upd G2 p3 _=G3 at *;obtain⟨s3,e3⟩:=al hp g1;clear g1 hp;have e3:G3 p3=some (.lst<|goodW.map V.str):=e3;refine⟨sZ6,λp4 hp=>?_⟩;generalize g1:upd G3 p4 _=G4 at *;obtain⟨s4,e4⟩:=al hp g1;clear g1 hp;refine⟨sZ6,λp5 hp=>?_⟩;generalize g1:upd G4 p5 _=G5 at *;obtain⟨s5,e5⟩:=al hp g1;clear g1 hp;refine⟨_,rfl,rh<|m8 _ rfl p3 _ ⟨rfl,SqL.of<|(s4.trans<|s5) _ _ e3,λp6 hp=>?_⟩⟩;generalize g1:upd G5 p6 _=G6 at *;obtain⟨s6,e6⟩:=al hp g1;clear g1 hp;have e6:G6 p6=some (.lst<|(goodW.take 5).map V.str):=e6;refine⟨sZ3,λp7 hp=>?_⟩;generalize g1:upd G6 p7 _=G7 at *;obtain⟨s7,e7⟩:=al hp g1;clear g1 hp;refine⟨_,rfl,?_⟩;refine⟨sZ6,λp8 hp=>?_⟩;generalize g1:upd G7 p8 _=G8 at *;obtain⟨s8,e8⟩:=al hp g1;clear g1 hp;refine⟨sZ6,λp9 hp=>?_⟩;generalize g1:upd G8 p9 _=G9 at *;obtain⟨s9,e9⟩:=al hp g1;clear g1 hp;refine⟨sZ2,λp10 hp=>?_⟩;generalize g1:upd G9 p10 _=G10 at *;obtain⟨oR,e10⟩:=al hp g1;clear g1 hp;refine(lr p7 p10 _ _ ⟨rfl,rfl,((s8.trans<|s9.trans<|oR) _ _ e7),e10,sZ5,λp11 hp=>?_⟩);generalize g1:upd G10 p11 _=G11 at *;obtain⟨uG,Fq⟩:=al hp g1;clear g1 hp;refine⟨_,rfl,?_⟩;refine⟨sZ5,λvX hp=>?_⟩;generalize g1:upd G11 vX _=G12 at *;obtain⟨dM,e12⟩:=al hp g1;clear g1 hp;refine⟨_,rfl,?_⟩;refine⟨sZ1,λp13 hp=>?_⟩;generalize g1:upd G12 p13 _=G13 at *;obtain⟨kG,e13⟩:=al hp g1;clear g1 hp;refine(lr p3 p13 _ _ ⟨rfl,rfl,((s4.trans<|s5.trans<|s6.trans<|s7.trans<|s8.trans<|s9.trans<|oR.trans<|uG.trans<|dM.trans<|kG) _ _ e3),e13,sZ7,λEL hp=>?_⟩);generalize g1:upd G13 EL _=G14 at *;obtain⟨pQ,JU⟩:=al hp g1;clear g1 hp;refine⟨_,rfl,rh<|m8 _ rfl p3 _ ⟨rfl,SqL.of<|(s4.trans<|s5.trans<|s6.trans<|s7.trans<|s8.trans<|s9.trans<|oR.trans<|uG.trans<|dM.trans<|kG.trans<|pQ) _ _ e3,λHm hp=>?_⟩⟩;generalize g1:upd G14 Hm _=G15 at *;obtain⟨kE,Fp⟩:=al hp g1;clear g1 hp;have Fp:G15 Hm=some (.lst<|(goodW.take 5).map V.str):=Fp;refine⟨sZ1,λp16 hp=>?_⟩;generalize g1:upd G15 p16 _=G16 at *;obtain⟨vS,e16⟩:=al hp g1;clear g1 hp;refine(lr Hm p16 _ _ ⟨rfl,rfl,((vS) _ _ Fp),e16,sZ6,λEK hp=>?_⟩);generalize g1:upd G16 EK _=G17 at *;obtain⟨yC,e17⟩:=al hp g1;clear g1 hp;refine⟨_,rfl,rh<|m8 _ rfl p3 _ ⟨rfl,SqL.of<|(s4.trans<|s5.trans<|s6.trans<|s7.trans<|s8.trans<|s9.trans<|oR.trans<|uG.trans<|dM.trans<|kG.trans<|pQ.trans<|kE.trans<|vS.trans<|yC) _ _ e3,λHl hp=>?_⟩⟩;generalize g1:upd G17 Hl _=G18 at *;obtain⟨AM,Fo⟩:=al hp g1;clear g1 hp;have Fo:G18 Hl=some (.lst<|(goodW.take 5).map V.str):=Fo;refine⟨sZ1,λp19 hp=>?_⟩;generalize g1:upd G18 p19 _=G19 at *;obtain⟨yB,e19⟩:=al hp g1;clear g1 hp;refine(lr Hl p19 _ _ ⟨rfl,rfl,((yB) _ _ Fo),e19,sZ6,λEJ hp=>?_⟩);generalize g1:upd G19 EJ _=G20 at *;obtain⟨AL,e20⟩:=al hp g1;clear g1 hp;refine⟨sZ4,λp21 hp=>?_⟩;generalize g1:upd G20 p21 _=G21 at *;obtain⟨AK,e21⟩:=al hp g1;clear g1 hp;refine(lr p11 p21 _ _ ⟨rfl,rfl,((dM.trans<|kG.trans<|pQ.trans<|kE.trans<|vS.trans<|yC.trans<|AM.trans<|yB.trans<|AL.trans<|AK) _ _ Fq),e21,(by show 9<=aC;decide),λp22 hp=>?_⟩);generalize g1:upd G21 p22 _=G22 at *;obtain⟨BJ,e22⟩:=al hp g1;clear g1 hp;refine⟨_,rfl,?_⟩;refine⟨_,rfl,rh<|m8 _ rfl p3 _ ⟨rfl,SqL.of<|(s4.trans<|s5.trans<|s6.trans<|s7.trans<|s8.trans<|s9.trans<|oR.trans<|uG.trans<|dM.trans<|kG.trans<|pQ.trans<|kE.trans<|vS.trans<|yC.trans<|AM.trans<|yB.trans<|AL.trans<|AK.trans<|BJ) _ _ e3,λyM hp=>?_⟩⟩;generalize g1:upd G22 yM _=G23 at *;obtain⟨sS,Fm⟩:=al hp g1;clear g1 hp;have Fm:G23 yM=some (.lst<|(goodW.take 5).map V.str):=Fm;refine⟨sZ1,λp24 hp=>?_⟩;generalize g1:upd G23 p24 _=G24 at *;obtain⟨AJ,e24⟩:=al hp g1;clear g1 hp;refine(lr yM p24 _ _ ⟨rfl,rfl,((AJ) _ _ Fm),e24,sZ6,λEI hp=>?_⟩);generalize g1:upd G24 EI _=G25 at *;obtain⟨BI,e25⟩:=al hp g1;clear g1 hp;refine⟨_,rfl,rh<|m8 _ rfl p3 _ ⟨rfl,SqL.of<|(s4.trans<|s5.trans<|s6.trans<|s7.trans<|s8.trans<|s9.trans<|oR.trans<|uG.trans<|dM.trans<|kG.trans<|pQ.trans<|kE.trans<|vS.trans<|yC.trans<|AM.trans<|yB.trans<|AL.trans<|AK.trans<|BJ.trans<|sS.trans<|AJ.trans<|BI) _ _ e3,λHk hp=>?_⟩⟩;generalize g1:upd G25 Hk _=G26 at *;obtain⟨jW,A6⟩:=al hp g1;clear g1 hp;have A6:G26 Hk=some (.lst<|(goodW.take 5).map V.str):=A6;refine⟨sZ1,λp27 hp=>?_⟩;generalize g1:upd G26 p27 _=G27 at *;obtain⟨BH,e27⟩:=al hp g1;clear g1 hp;refine(lr Hk p27 _ _ ⟨rfl,rfl,((BH) _ _ A6),e27,sZ6,λEH hp=>?_⟩);generalize g1:upd G27 EH _=G28 at *;obtain⟨Ew,e28⟩:=al hp g1;clear g1 hp;refine⟨sZ2,λEG hp=>?_⟩;generalize g1:upd G28 EG _=G29 at *;obtain⟨Ev,e29⟩:=al hp g1;clear g1 hp;refine⟨sZ3,λHj hp=>?_⟩;generalize g1:upd G29 Hj _=G30 at *;obtain⟨Eu,e30⟩:=al hp g1;clear g1 hp;refine(lr p22 Hj _ _ ⟨rfl,rfl,((sS.trans<|AJ.trans<|BI.trans<|jW.trans<|BH.trans<|Ew.trans<|Ev.trans<|Eu) _ _ e22),e30,(by show 12<=aC;decide),λp31 hp=>?_⟩);generalize g1:upd G30 p31 _=G31 at *;obtain⟨GW,e31⟩:=al hp g1;clear g1 hp;refine⟨_,rfl,?_⟩;refine⟨sZ4,λEF hp=>?_⟩;generalize g1:upd G31 EF _=G32 at *;obtain⟨Et,e32⟩:=al hp g1;clear g1 hp;refine⟨sZ1,λp33 hp=>?_⟩;generalize g1:upd G32 p33 _=G33 at *;obtain⟨Es,e33⟩:=al hp g1;clear g1 hp;refine⟨_,rfl,⟨_,rfl,rh<|lv p3 _ ⟨rfl,SqL.of<|(s4.trans<|s5.trans<|s6.trans<|s7.trans<|s8.trans<|s9.trans<|oR.trans<|uG.trans<|dM.trans<|kG.trans<|pQ.trans<|kE.trans<|vS.trans<|yC.trans<|AM.trans<|yB.trans<|AL.trans<|AK.trans<|BJ.trans<|sS.trans<|AJ.trans<|BI.trans<|jW.trans<|BH.trans<|Ew.trans<|Ev.trans<|Eu.trans<|GW.trans<|Et.trans<|Es) _ _ e3,λHi hp=>?_⟩⟩⟩;generalize g1:upd G33 Hi _=G34 at *;obtain⟨yA,Fl⟩:=al hp g1;clear g1 hp;have Fl:G34 Hi=some (.lst<|(goodW.drop 1).map V.str):=Fl;refine(lr p33 Hi _ _ ⟨rfl,rfl,((yA) _ _ e33),Fl,sZ6,λEE hp=>?_⟩);generalize g1:upd G34 EE _=G35 at *;obtain⟨GV,e35⟩:=al hp g1;clear g1 hp;refine⟨sZ2,λED hp=>?_⟩;generalize g1:upd G35 ED _=G36 at *;obtain⟨GU,e36⟩:=al hp g1;clear g1 hp;refine⟨sZ1,λEC hp=>?_⟩;generalize g1:upd G36 EC _=G37 at *;obtain⟨GT,e37⟩:=al hp g1;clear g1 hp;refine⟨sZ1,λEB hp=>?_⟩;generalize g1:upd G37 EB _=G38 at *;obtain⟨GR,e38⟩:=al hp g1;clear g1 hp;refine⟨sZ3,λEA hp=>?_⟩;generalize g1:upd G38 EA _=G39 at *;obtain⟨GQ,e39⟩:=al hp g1;clear g1 hp;refine⟨sZ6,λp40 hp=>?_⟩;generalize g1:upd G39 p40 _=G40 at *;obtain⟨GP,e40⟩:=al hp g1;clear g1 hp;refine(lr p31 p40 _ _ ⟨rfl,rfl,((Et.trans<|Es.trans<|yA.trans<|GV.trans<|GU.trans<|GT.trans<|GR.trans<|GQ.trans<|GP) _ _ e31),e40,(by show 18<=aC;decide),λHh hp=>?_⟩);generalize g1:upd G40 Hh _=xO at *;obtain⟨s41,e41⟩:=al hp g1;clear g1 hp;have u41:Same xO xO:=Same.refl _;have u40:=s41.trans u41;have Gp:=GP.trans u40;have Gq:=GQ.trans Gp;have Gr:=GR.trans Gq;have Gs:=GT.trans Gr;have Gu:=GU.trans Gs;have u34:=GV.trans Gu;have u33:=yA.trans u34;have Gv:=Es.trans u33;have u31:=Et.trans Gv;have u30:=GW.trans u31;have Gw:=Eu.trans u30;have Gx:=Ev.trans Gw;have u27:=Ew.trans Gx;have u26:=BH.trans u27;have Gy:=jW.trans u26;have u24:=BI.trans Gy;have u23:=AJ.trans u24;have u22:=sS.trans u23;have u21:=BJ.trans u22;have Gz:=AK.trans u21;have u19:=AL.trans Gz;have u18:=yB.trans u19;have GA:=AM.trans u18;have u16:=yC.trans GA;have u15:=vS.trans u16;have GB:=kE.trans u15;have u13:=pQ.trans GB;have BC:=kG.trans u13;have Ej:=dM.trans BC;have AA:=uG.trans Ej;have u9:=oR.trans AA;have u8:=s9.trans u9;have u7:=s8.trans u8;have u6:=s7.trans u7;have u5:=s6.trans u6;have u4:=s5.trans u5;have u3:=s4.trans u4;have u2:=s3.trans u3;have hO:=e41;have kO:WsAt xO DD [.ref p4,.ref p5,.ref p6,.ref p8,.ref p9,.ref vX,.ref EL,.ref EK,.ref EJ,.ref EI,.ref EH,.ref EG,.ref EF,.ref EE,.ref ED,.ref EC,.ref EB,.ref EA]:=by
  refine⟨rfl,λi v ws h1 h2=>?_⟩
  match i,h1,h2 with
  | 0,h1,h2=>cases h1;cases h2;exact⟨_,rfl,u4 _ _ e4⟩
  | 1,h1,h2=>cases h1;cases h2;exact⟨_,rfl,u5 _ _ e5⟩
  | 2,h1,h2=>cases h1;cases h2;exact⟨_,rfl,u6 _ _ e6⟩
  | 3,h1,h2=>cases h1;cases h2;exact⟨_,rfl,u8 _ _ e8⟩
  | 4,h1,h2=>cases h1;cases h2;exact⟨_,rfl,u9 _ _ e9⟩
  | 5,h1,h2=>cases h1;cases h2;exact⟨_,rfl,BC _ _ e12⟩
  | 6,h1,h2=>cases h1;cases h2;exact⟨_,rfl,GB _ _ JU⟩
  | 7,h1,h2=>cases h1;cases h2;exact⟨_,rfl,GA _ _ e17⟩
  | 8,h1,h2=>cases h1;cases h2;exact⟨_,rfl,Gz _ _ e20⟩
  | 9,h1,h2=>cases h1;cases h2;exact⟨_,rfl,Gy _ _ e25⟩
  | 10,h1,h2=>cases h1;cases h2;exact⟨_,rfl,Gx _ _ e28⟩
  | 11,h1,h2=>cases h1;cases h2;exact⟨_,rfl,Gw _ _ e29⟩
  | 12,h1,h2=>cases h1;cases h2;exact⟨_,rfl,Gv _ _ e32⟩
  | 13,h1,h2=>cases h1;cases h2;exact⟨_,rfl,Gu _ _ e35⟩
  | 14,h1,h2=>cases h1;cases h2;exact⟨_,rfl,Gs _ _ e36⟩
  | 15,h1,h2=>cases h1;cases h2;exact⟨_,rfl,Gr _ _ e37⟩
  | 16,h1,h2=>cases h1;cases h2;exact⟨_,rfl,Gq _ _ e38⟩
  | 17,h1,h2=>cases h1;cases h2;exact⟨_,rfl,Gp _ _ e39⟩
 have hO:xO Hh=some (.lst [.ref p4,.ref p5,.ref p6,.ref p8,.ref p9,.ref vX,.ref EL,.ref EK,.ref EJ,.ref EI,.ref EH,.ref EG,.ref EF,.ref EE,.ref ED,.ref EC,.ref EB,.ref EA]):=hO;have tG:Same G2 xO:=u2;have stN:=tG _ _ eV;have lnN:=tG _ _ ln2;have wdN:=tG _ _ wd3;have JE:xO p3=some (.lst<|goodW.map V.str):=u3 _ _ e3;generalize eit:([.ref p4,.ref p5,.ref p6,.ref p8,.ref p9,.ref vX,.ref EL,.ref EK,.ref EJ,.ref EI,.ref EH,.ref EG,.ref EF,.ref EE,.ref ED,.ref EC,.ref EB,.ref EA]:Z9 V)=its at hO kO;generalize Hh=O at *;have xN:Ex [st,ln] H xO:=x2.trans<|Ex.of_same tG;clear u2 u3 u4 u5 u6 u7 u8 u9 AA Ej BC u13 GB u15 u16 GA u18 u19 Gz u21 u22 u23 u24 Gy u26 u27 Gx Gw u30 u31 Gv u33 u34 Gu Gs Gr Gq Gp u40 u41 e3 e4 e5 e6 e7 e8 e9 e10 Fq e12 e13 JU Fp e16 e17 Fo e19 e20 e21 e22 Fm e24 e25 A6 e27 e28 e29 e30 e31 e32 e33 Fl e35 e36 e37 e38 e39 e40 e41 s3 s4 s5 s6 s7 s8 s9 oR uG dM kG pQ kE vS yC AM yB AL AK BJ sS AJ BI jW BH Ew Ev Eu GW Et Es yA GV GU GT GR GQ GP s41;clear tG eV ln2 wd3;generalize xO=G at *;refine(nv _ rfl st n2 6 ⟨rfl,stN,gU,by decide,by decide,λn3 wv gO hw0 hw1=>?_⟩);have nO:O≠st:=λe=>by rw[e,stN]at hO;obtain⟨z,rfl⟩:=gU;rw[<-eit]at hO;cases hO
 have wJ:WsAt (upd G st<|.lst n3) DD its:=⟨kO.1,λi v ws h1 h2=>by obtain⟨l,e,hl⟩:=kO.2 i v ws h1 h2;exact⟨l,e,by rw[lh (tW hl stN gU)];exact hl⟩⟩
 have xW:Ex [st,ln] H (upd G st<|.lst n3):=xN.trans (Ex.upd<|by simp);have iR:upd G st (.lst n3) st=some (.lst n3):=k8;have jY:upd G st (.lst n3) ln=some (.lst<|(L.map<|a8 ⟨#[32]⟩).map V.str):=by rw[lh mW];exact lnN
 have Eh:upd G st (.lst n3) wd=some (.lst<|ws.map V.str):=by rw[lh BS];exact wdN
 have gdW:upd G st (.lst n3) p3=some (.lst<|goodW.map V.str):=by rw[lh (tW JE stN gU)];exact JE
 have OW:upd G st (.lst n3) O=some (.lst its):=by rw[lh nO];exact hO
 generalize upd G st (.lst n3)=W at *;clear stN lnN wdN JE hO kO xN nO;have Ho:wd≠ln:=λe=>by rw[e,HH]at AS;cases AS
 have nls':ln≠st:=mW;have cS:∀(L':Z9 (Z9 Str)) (W':Hp) (n':Z9 V) (r:aF),Ex [st,ln] H W'->W' st=some (.lst n')->StL n'->W' r=some (.lst<|(L'.map<|a8 ⟨#[32]⟩).map V.str)->LsW L'->uh L'=false->Q (.ref r) W':=λL' W' n' r h1 h2 h3 h4 h5 h6=>q r _ L' W' n' h1 h2 h3 h4 (by rw[af];exact h5.l30) (λz hz=>by obtain⟨ws,hws,rfl⟩:=a7.mp hz;have:=h5.line hws;lia) rfl h5 h6
 have xD:(aa " ").length=1:=by decide +kernel
 have fw:H wd=none:=by
  cases e:H wd with
  | none=>rfl
  | some o=>
   have:=x1 wd o (by simp[BS,Ho]) e;rw[AS]at this;cases this
 have exw:∀{o:HO},Ex [st,ln] H W->Ex [st,ln] H (upd W wd o):=λh=>h.new fw;have EY:=(hL.ln ws lQ).2;have B9:ixN ((L.map<|a8 ⟨#[32]⟩).map V.str).length ((i:Nat):Int)=some i:=ajy (by rw[lm];lia);have IV:ws.length<=6:=by rcases hF.lens hws with ⟨_,h⟩|⟨_,h|h⟩<;>lia
 obtain rfl|rfl|rfl|rfl|rfl|rfl:wv=0\/wv=1\/wv=2\/wv=3\/wv=4\/wv=5:=by lia
 .
  refine(ma _ rfl rfl _ ⟨rfl,qb (λ_=>?_) λh=>absurd (decide_eq_true rfl) h⟩);refine⟨_,rfl,rh<|nw _ rfl _ _ rfl rfl _ ⟨rfl,(lv ln _ ⟨rfl,SqL.of jY,λS1 vA=>?_⟩)⟩⟩;generalize g1:upd W S1 _=W1 at *;obtain⟨s1,v1⟩:=al vA g1;clear g1;have v1:W1 S1=some (.lst<|gY ((L.map<|a8 ⟨#[32]⟩).map V.str) none<|some ((i+1:Nat):Int)):=v1;rw[Br (by rw[lm];lia),<-i9,<-i9]at v1;refine⟨rfl,(mi _ rfl _ rfl st n3 18 ⟨rfl,s1 _ _ iR,gO,by decide,by decide,λn4 i4 lZ xA h41=>?_⟩)⟩;obtain⟨k,rfl⟩:=br xA;have hk:k<18:=by lia
  have lo:its.length=18:=wJ.1;obtain⟨ov,hov⟩:∃v,its[k]?=some v:=⟨_,ae<|by lia⟩;obtain⟨ow,ol,how,rfl,jM⟩:=wJ.at hov;have mow:=ah how;obtain⟨o12,o0,oa⟩:=awh ow mow;have nO:O≠st:=λe=>by rw[e,iR]at OW;obtain⟨z,rfl⟩:=gO;rw[<-eit]at OW;cases OW
  have nT:Ex [st,ln] H (upd W1 st<|.lst n4):=(xW.trans<|Ex.of_same s1).trans (Ex.upd<|by simp);have fM:upd W1 st (.lst n4) st=some (.lst n4):=k8;have jJ:upd W1 st (.lst n4) ln=some (.lst<|(L.map<|a8 ⟨#[32]⟩).map V.str):=by rw[lh mW];exact s1 _ _ jY
  have Mp:upd W1 st (.lst n4) O=some (.lst its):=by rw[lh nO];exact s1 _ _ OW
  have Hn:upd W1 st (.lst n4) ol=some (.lst<|ow.map V.str):=by rw[lh (tW jM iR gO)];exact s1 _ _ jM
  have BB:upd W1 st (.lst n4) S1=some (.lst<|((L.take<|i+1).map (a8 ⟨#[32]⟩)).map V.str):=by rw[lh (tW v1 (s1 _ _ iR) gO)];exact v1
  generalize upd W1 st (.lst n4)=W2 at *;have iT:=dn (B:=120) ow λx hx=>(oa x hx).1;refine(lr O _ _ (.ref ol) ⟨rfl,rfl,SqL.of Mp,my hov,(mj _ ol ow ⟨rfl,rfl,Hn,by rw[xD];lia,?_⟩)⟩);rw[tj 32 _ e32];refine⟨sZ1,λq1 lT=>?_⟩;generalize g1:upd W2 q1 _=W3 at *;obtain⟨s3,v3⟩:=al lT g1;clear g1;refine(lr S1 q1 _ _ ⟨rfl,rfl,s3 _ _ BB,v3,cb<|lu<|by simp;lia,λR1 Ju=>?_⟩);generalize g1:upd W3 R1 _=W4 at *;obtain⟨s4,v4⟩:=al Ju g1;clear g1;refine(qh _ rfl _ rfl _ _ rfl rfl _ ⟨rfl,rh<|lv ln _ ⟨rfl,SqL.of<|(s3.trans s4) _ _ jJ,λS2 pF=>?_⟩⟩);generalize g1:upd W4 S2 _=W5 at *;obtain⟨s5,v5⟩:=al pF g1;clear g1;have v5:W5 S2=some (.lst<|gY ((L.map<|a8 ⟨#[32]⟩).map V.str) (some ((i+1:Nat):Int)) none):=v5;rw[xg (by rw[lm];lia),<-ja,<-ja]at v5;refine(lr R1 S2 _ _ ⟨rfl,rfl,s5 _ _ v4,v5,cb<|lu<|by simp;lia,λR hR=>?_⟩);generalize g1:upd W5 R _=W6 at *;obtain⟨s6,v6⟩:=al hR g1;clear g1;have jW:=((s3.trans s4).trans s5).trans s6;refine cS (L.take (i+1)++[ow]++L.drop (i+1)) W6 n4 R (nT.trans<|Ex.of_same jW) (jW _ _ fM) lZ ?_ (al1 hL Di o12 o0 oa)<|alx (by lia)<|anm ow mow;rw[v6,ay,ay,ay,ay];rfl
 all_goals refine(ma _ rfl rfl _ ⟨rfl,qb (λh=>absurd h<|by decide) λ_=>?_⟩)
 .
  refine(ma _ rfl rfl _ ⟨rfl,qb (λ_=>?_) λh=>absurd (decide_eq_true rfl) h⟩);refine(mm _ rfl _ ⟨rfl,rh<|lv ln _ ⟨rfl,SqL.of jY,λR hR=>?_⟩⟩);generalize g1:upd W R _=W1 at *;obtain⟨s1,v1⟩:=al hR g1;clear g1;have v1:W1 R=some (.lst<|gY ((L.map<|a8 ⟨#[32]⟩).map V.str) (some ((1:Nat):Int)) none):=v1;rw[xg (by rw[lm];lia),<-ja,<-ja,List.drop_one]at v1;have hb:=hF.tl;by_cases e:L.tail=[]
  .rw[if_pos e]at hb;rw[e]at v1;exact q R [] _ W1 n3 (xW.trans<|Ex.of_same s1) (s1 _ _ iR) gO v1 (by simp) (λz hz=>by cases hz) rfl ⟨by simp,by decide,λws h=>by rw[a6.mp h];decide,λws h=>by rw[a6.mp h];exact⟨by simp,λx hx=>by rw[a6.mp hx];exact FM⟩⟩ hb
  .rw[if_neg e]at hb;exact cS L.tail W1 n3 R (xW.trans<|Ex.of_same s1) (s1 _ _ iR) gO v1 ⟨e,by rw[List.length_tail];have:=hL.l30;lia,λws h=>hL.w12 ws<|List.mem_of_mem_tail h,λws h=>hL.ln ws<|List.mem_of_mem_tail h⟩ hb
 all_goals refine(ma _ rfl rfl _ ⟨rfl,qb (λh=>absurd h<|by decide) λ_=>?_⟩)
 .
  refine(ma _ rfl rfl _ ⟨rfl,qb (λ_=>?_) λh=>absurd (decide_eq_true rfl) h⟩);refine(xk _ rfl (.inl ⟨rfl,_,SqL.of Eh⟩) _ rfl wd _ _<|lv j (.str<|nth ws j) ⟨rfl,rfl,Eh,by lia,by lia,(LH<|ajy<|by rw[lw];lia).1,Bu<|by lia,?_⟩);rw[ari];have Go:Ex [st,ln] H (upd W wd<|.lst<|(ws.eraseIdx j).map V.str):=exw xW;have xX:upd W wd (.lst<|(ws.eraseIdx j).map V.str) st=some (.lst n3):=by rw[lh (Ne.symm BS)];exact iR
  have yR:upd W wd (.lst<|(ws.eraseIdx j).map V.str) ln=some (.lst<|(L.map<|a8 ⟨#[32]⟩).map V.str):=by rw[lh (Ne.symm Ho)];exact jY
  have xU:upd W wd (.lst<|(ws.eraseIdx j).map V.str) wd=some (.lst<|(ws.eraseIdx j).map V.str):=k8;generalize upd W wd (.lst<|(ws.eraseIdx j).map V.str)=W1 at *;have hv:∀x∈ws.eraseIdx j,Wa x:=λx hx=>EY x<|List.mem_of_mem_eraseIdx hx;have HW:(ws.eraseIdx j).length+1=ws.length:=by rw[List.length_eraseIdx_of_lt (by lia)];lia
  have HX:(ws.eraseIdx j)≠[]:=λe=>by rw[e]at HW;have:=hF.lens hws;simp at HW;lia
  have hsz:=sw (c:=32) (m:=120) (xs:=ws.eraseIdx j) λx hx=>(hv x hx).1;have iT:=dn (B:=120) (ws.eraseIdx j) λx hx=>(hv x hx).1;refine⟨rfl,(nv _ rfl _ wd (ws.eraseIdx j) ⟨rfl,rfl,xU,by rw[xD];lia,?_⟩)⟩;rw[tj 32 _ e32];refine(mi _ rfl _ rfl ln _ _ ⟨i,rfl,rfl,yR,B9,?_⟩);refine(ma _ rfl rfl _ ⟨rfl,qb (λh=>absurd h<|by decide) λ_=>?_⟩);refine(ma _ rfl rfl _ ⟨rfl,qb (λh=>absurd h<|by decide) λ_=>?_⟩);refine(ma _ rfl rfl _ ⟨rfl,qb (λh=>absurd h<|by decide) λ_=>?_⟩);refine⟨_,rfl,cS (L.set i<|ws.eraseIdx j) _ n3 ln (Go.trans<|Ex.upd<|by simp) (by rw[lh (Ne.symm mW)];exact xX) gO (by rw[k8,List.map_set,List.map_set]) (Lx hL (by lia) HX hv)<|hF.spoil hws<|by lia⟩
 all_goals refine(ma _ rfl rfl _ ⟨rfl,qb (λh=>absurd h<|by decide) λ_=>?_⟩)
 .
  refine(ma _ rfl rfl _ ⟨rfl,qb (λ_=>?_) λh=>absurd (decide_eq_true rfl) h⟩);refine(xk _ rfl (.inl ⟨rfl,_,SqL.of Eh⟩) _ rfl wd _ j ⟨.str<|aa "",rfl,rfl,Eh,by rw[lw];lia,by rw[lw];lia,?_⟩);have em:(ws.map V.str).take j++V.str (aa "")::(ws.map V.str).drop j=(ws.take j++aa "" :: ws.drop j).map V.str:=by rw[ay,cy,i9,ja]
  rw[em];clear em;have HW:(ws.take j++aa "" :: ws.drop j).length=ws.length+1:=by rw[a9,bc,cq,gl];lia
  have hv:∀x∈ws.take j++aa "" :: ws.drop j,Wa x:=λx hx=>by
   rcases bo.mp hx with h|h
   .exact EY x<|fy h
   .rcases ap.mp h with rfl|h
    .exact FM
    .exact EY x<|List.mem_of_mem_drop h
  have HX:ws.take j++aa "" :: ws.drop j≠[]:=by simp
  generalize ws.take j++aa "" :: ws.drop j=vs at *;have Go:Ex [st,ln] H (upd W wd<|.lst<|vs.map V.str):=exw xW;have xX:upd W wd (.lst<|vs.map V.str) st=some (.lst n3):=by rw[lh (Ne.symm BS)];exact iR
  have yR:upd W wd (.lst<|vs.map V.str) ln=some (.lst<|(L.map<|a8 ⟨#[32]⟩).map V.str):=by rw[lh (Ne.symm Ho)];exact jY
  have xU:upd W wd (.lst<|vs.map V.str) wd=some (.lst<|vs.map V.str):=k8;generalize upd W wd (.lst<|vs.map V.str)=W1 at *;have hsz:=sw (c:=32) (m:=120) (xs:=vs) λx hx=>(hv x hx).1;have iT:=dn (B:=120) (vs) λx hx=>(hv x hx).1;refine⟨rfl,(nv _ rfl _ wd vs ⟨rfl,rfl,xU,by rw[xD];lia,?_⟩)⟩;rw[tj 32 _ e32];refine(mi _ rfl _ rfl ln _ _ ⟨i,rfl,rfl,yR,B9,?_⟩);refine(ma _ rfl rfl _ ⟨rfl,qb (λh=>absurd h<|by decide) λ_=>?_⟩);refine(ma _ rfl rfl _ ⟨rfl,qb (λh=>absurd h<|by decide) λ_=>?_⟩);refine⟨_,rfl,cS (L.set i<|vs) _ n3 ln (Go.trans<|Ex.upd<|by simp) (by rw[lh (Ne.symm mW)];exact xX) gO (by rw[k8,List.map_set,List.map_set]) (Lx hL (by lia) HX hv)<|hF.spoil hws<|by lia⟩
 all_goals refine(ma _ rfl rfl _ ⟨rfl,qb (λh=>absurd h<|by decide) λ_=>?_⟩)
 .
  refine(ma _ rfl rfl _ ⟨rfl,qb (λ_=>?_) λh=>absurd (decide_eq_true rfl) h⟩);refine(xk _ rfl rfl _ rfl _ p3 goodW ⟨rfl,rfl,gdW,by decide +kernel,?_⟩);rw[tj 32 _ e32];refine⟨sZ2,λq1 lT=>?_⟩;generalize g1:upd W q1 _=W1 at *;obtain⟨s1,v1⟩:=al lT g1;clear g1;refine(lr ln q1 _ _ ⟨rfl,rfl,s1 _ _ jY,v1,cb (lu<|by rw[lm];show _+2<=_;lia),λR hR=>?_⟩);generalize g1:upd W1 R _=W2 at *;obtain⟨s2,v2⟩:=al hR g1;clear g1;have dM:=s1.trans s2;refine cS (L++[sW ["apart","A","B"],goodW]) W2 n3 R (xW.trans<|Ex.of_same dM) (dM _ _ iR) gO ?_ (as7 hL Di) (ar8 rfl<|by decide +kernel);rw[v2,ay,ay,show aa "apart A B" = a8 ⟨#[32]⟩ (sW ["apart","A","B"]) by decide +kernel];rfl
 all_goals refine(ma _ rfl rfl _ ⟨rfl,qb (λh=>absurd h<|by decide) λ_=>?_⟩)
 .
  refine(ma _ rfl rfl _ ⟨rfl,qb (λ_=>?_) λh=>absurd (decide_eq_true rfl) h⟩);refine(mi _ rfl _ rfl ln _ _ ⟨.str<|a8 ⟨#[32]⟩ ws,rfl,rfl,SqL.of jY,my<|by rw[au,au,hws];rfl,sZ3,λq1 lT=>?_⟩);generalize g1:upd W q1 _=W1 at *;obtain⟨s1,v1⟩:=al lT g1;clear g1;have v1:W1 q1=some (.lst<|(sW [" ","\n"," x"]).map V.str):=v1;refine(nv _ rfl st n3 3 ⟨rfl,s1 _ _ iR,gO,by decide,by decide,λn4 i4 lZ xA h41=>?_⟩);have nT:Ex [st,ln] H (upd W1 st<|.lst n4):=(xW.trans<|Ex.of_same s1).trans (Ex.upd<|by simp);have fM:upd W1 st (.lst n4) st=some (.lst n4):=k8;have jJ:upd W1 st (.lst n4) ln=some (.lst<|(L.map<|a8 ⟨#[32]⟩).map V.str):=by rw[lh mW];exact s1 _ _ jY
  have Hg:upd W1 st (.lst n4) q1=some (.lst<|(sW [" ","\n"," x"]).map V.str):=by rw[lh (tW v1 (s1 _ _ iR) gO)];exact v1
  generalize upd W1 st (.lst n4)=W2 at *;have Cf:=(hL.ln ws lQ).1;have qD:∀a b:Str,(a++b).length=a.length+b.length:=λa b=>by rw[<-iO,qa,a9,iO,iO]
  have B3:∀(y:Str),Wa y->∀W',W'=upd W2 ln (.lst<|((L.map<|a8 ⟨#[32]⟩).map V.str).set i (.str<|a8 ⟨#[32]⟩<|ws++[y]))->Q (.ref ln) W':=λy hy W' e=>by
   subst e;exact cS (L.set i<|ws++[y]) _ n4 ln (nT.trans<|Ex.upd<|by simp) (by rw[lh (Ne.symm mW)];exact fM) lZ (by rw[k8,List.map_set,List.map_set]) (Lx hL (by rw[a9,cu];lia) (by simp) λx hx=>by
    rcases bo.mp hx with h|h
    .exact EY x h
    .rw[a6.mp h];exact hy)<|hF.spoil hws<|by rw[a9,cu];lia
  obtain rfl|rfl|rfl:i4=0\/i4=1\/i4=2:=by lia
  .refine(lr q1 _ _ (.str<|aa " ") ⟨rfl,rfl,SqL.of Hg,my (j:=0) rfl,(lv _ _ ⟨rfl,rfl,by rw[xD,dw];lia,(mi _ rfl _ rfl ln _ _ ⟨i,rfl,rfl,jJ,B9,_,rfl,?_⟩)⟩)⟩);rw[show aa " " = aa " " ++ aa "" by decide +kernel,<-aeu,<-Mj Cf];exact B3 _ FM _ rfl
  .refine(lr q1 _ _ (.str<|aa "\n") ⟨rfl,rfl,SqL.of Hg,my (j:=1) rfl,(lv _ _ ⟨rfl,rfl,by rw[show(aa "\n").length=1 by decide +kernel,dw];lia,(mi _ rfl _ rfl ln _ _ ⟨i,rfl,rfl,jJ,B9,_,rfl,?_⟩)⟩)⟩);refine q ln ((L.map<|a8 ⟨#[32]⟩).set i (a8 ⟨#[32]⟩ ws++aa "\n")) (L.take (i+1)++[[aa ""]]++L.drop (i+1)) _ n4 (nT.trans<|Ex.upd<|by simp) (by rw[lh (Ne.symm mW)];exact fM) lZ (by rw[k8,List.map_set]) (by rw[List.length_set,af];lia) (λz hz=>?_) ?_ (al1 hL Di (by decide) (by simp) λx hx=>by rw[a6.mp hx];exact FM)<|alx (by lia)<|anm _<|by decide +kernel
   .rcases List.mem_or_eq_of_mem_set hz with m|rfl
    .obtain⟨v,hv,rfl⟩:=a7.mp m;have:=hL.line hv;lia
    .rw[qD,show(aa "\n").length=1 by decide +kernel];lia
   .exact axv hws
  .refine(lr q1 _ _ (.str<|aa " x") ⟨rfl,rfl,SqL.of Hg,my (j:=2) rfl,(lv _ _ ⟨rfl,rfl,by rw[show(aa " x").length=2 by decide +kernel,dw];lia,(mi _ rfl _ rfl ln _ _ ⟨i,rfl,rfl,jJ,B9,_,rfl,?_⟩)⟩)⟩);rw[show aa " x" = aa " " ++ aa "x" by decide +kernel,<-aeu,<-Mj Cf];exact B3 _ ⟨by decide +kernel,by decide +kernel⟩ _ rfl
def vh{H:Hp}{v:V}{fl:Str}{ks:Z9 Kw}{ps:Z9 (Str×Str)}(r:Rep H (nP fl ks ps) v)(h:nQ H v):∃(f k p:aF)(kx px:Z9 V),Fz H (.ref f)/\H f=some (.tup<|(pj fl).map V.str)/\xM H (.ref k)/\H k=some (.tup kx)/\RepAll H (ks.map kwD) kx/\An H (.ref p)/\H p=some (.tup px)/\RepAll H (ps.map pD) px:=by obtain⟨a,xs,rfl,ha,f,r1,e1,⟨f',fx,ef,hf,rf⟩,k,r2,e2,⟨k',kx,ek,hk,rk⟩,p,r3,e3,⟨p',px,ep,hp,rp⟩,e4⟩:=r;subst e4 e3 e2 e1 ef ek ep;cases w4 rf;obtain⟨a',f,k,p,ea,dG,h1,h2,h3⟩:=h;cases ea;rw[ha]at dG;cases dG;exact(nj f' k' p' kx px ⟨h1,hf,h2,hk,rk,h3,hp,rp⟩)
def asp{H:Hp}{v:V}{fl:Str}{ps:Z9 (Str×Str)}(r:Rep H (nP fl [] ps) v):¬nQ H v:=λh=>by obtain⟨f,k,p,kx,px,_,_,⟨a,xs,zs,e,ha,h1,_⟩,hk,rk,_⟩:=vh r h;cases e;rw[hk]at ha;cases ha;have:=rk.length;rw[List.map_nil,kh]at this;lia
theorem ao9{H:Hp}{v:V}{fl:Str}{ks:Z9 Kw}{ps:Z9 (Str×Str)}(hb:flB (some<|(pj fl).map some)=false)(r:Rep H (nP fl ks ps) v):¬nQ H v:=λh=>by
 obtain⟨f,k,p,kx,px,⟨T,hT,CV⟩,hf,_⟩:=vh r h;cases T with
 | none=>cases CV
 | some os=>
  obtain⟨_,a,vs,e,ha,hl,hi⟩:=hT;cases e;rw[hf]at ha;cases ha;have:os=(pj fl).map some:=by
   refine List.ext_getElem? λi=>?_;by_cases bX:i<os.length
   .have zE:i<(pj fl).length:=by rw[af]at hl;lia
    have:=hi i (.str<|(pj fl)[i]) os[i] (by rw[au,ae zE];rfl) (ae bX);rw[ae bX,au,ae zE];cases ho:os[i]with
    | some z=>
     rw[ho]at this;have e:=this.1;injection e with e
     rw[<-e];rfl
    | none=>
     rw[ho]at this;rcases this with h|⟨_,h⟩|⟨_,h,_⟩<;>cases h
   .rw[af]at hl;rw[ib (by lia),ib<|by rw[af];lia]
  rw[this,hb]at CV;cases CV
theorem Gb{H:Hp}{k:Kw}{v:V}(r:Rep H (kwD k) v):∃b m fm,v=.ref b/\H b=some (.tup [.str k.z,.int (k.l:Nat),m,.str k.md,.ref fm])/\m=(match k.m with|some j=>V.int (j:Nat)|none=>.non)/\Rep H (.tuple<|wm k.pic) (.ref fm):=by
 obtain⟨b,xs,rfl,hb,x1,r1,e1,⟨q1,_⟩,x2,r2,e2,q2,x3,r3,e3,q3,x4,r4,e4,⟨q4,_⟩,x5,r5,e5,⟨fm,fx,rfl,zL,rfm⟩,e6⟩:=r;subst e6 e5 e4 e3 e2 e1 q1 q4;cases (show x2=_ from q2);refine(mj b x3 fm ⟨rfl,hb,?_,(lv fm fx ⟨rfl,zL,rfm⟩)⟩);cases e:k.m with
 | none=>rw[e]at q3;exact q3
 | some j=>rw[e]at q3;exact q3
noncomputable def KE(k:Kw):Bool:=!(pM (.str k.z)&&(oM (.int (k.l:Nat)) (match k.m with|some j=>V.int (j:Nat)|none=>.non)&&Bk (.str k.md)))
def asj{H:Hp}{k:Kw}{v:V}(r:Rep H (kwD k) v)(h:KE k=true):¬wy H v:=λhp=>by obtain⟨b,m,fm,rfl,hb,rfl,_⟩:=Gb r;obtain⟨a,n,l,m,md,f,e,ha,h1,h2,h3,_⟩:=hp;cases e;rw[hb]at ha;cases ha;unfold KE at h;rw[h1,h2,h3]at h;cases h
def aor{H:Hp}{v:V}{fl:Str}{k:Kw}{ks:Z9 Kw}{ps:Z9 (Str×Str)}(hk:∀H v,Rep H (kwD k) v->¬wy H v)(r:Rep H (nP fl (k::ks) ps) v):¬nQ H v:=λh=>by obtain⟨f,ka,p,kx,px,_,_,⟨a,xs,zs,e,ha,_,_,aZ,_⟩,CK,rk,_⟩:=vh r h;cases e;rw[CK]at ha;cases ha;obtain⟨x,ys,rfl,r1,_⟩:=rk;exact hk H x r1<|aZ x aj
theorem ap9{H:Hp}{v:V}{fl:Str}{k:Kw}{ks:Z9 Kw}{ps:Z9 (Str×Str)}(r:Rep H (nP fl (k::k::ks) ps) v):¬nQ H v:=λh=>by
 obtain⟨f,ka,p,kx,px,_,_,⟨a,xs,zs,e,ha,_,_,_,⟨hl,hn⟩,nd⟩,CK,rk,_⟩:=vh r h;cases e;rw[CK]at ha;cases ha;obtain⟨x,ys,rfl,r1,y,ys2,rfl,r2,_⟩:=rk;obtain⟨b1,m1,f1,rfl,Jq,_⟩:=Gb r1;obtain⟨b2,m2,f2,rfl,Jp,_⟩:=Gb r2;obtain⟨c1,z1,t1,e1,h1,g1⟩:=hn 0 _ rfl;obtain⟨c2,z2,t2,e2,h2,g2⟩:=hn 1 _ rfl;cases e1;cases e2;rw[Jq]at h1;cases h1;rw[Jp]at h2;cases h2
 match zs,g1,g2,nd with
 | z0::z1::zs,g1,g2,nd=>
  cases g1;cases g2;exact(ii.mp nd).1 aj
def atj{H:Hp}{p:Str×Str}{d:Z8}{v:V}(r:Rep H (pD p) v)(hd:PrD d)(r':Rep H d v):d=pD p:=by
 obtain⟨x,y,rfl,_⟩:=hd;obtain⟨b,xs,rfl,hb,z1,r1,e1,⟨q1,_⟩,z2,r2,e2,⟨q2,_⟩,e3⟩:=r;subst e3 e2 e1 q1 q2;obtain⟨b',xs',e,dH,z1,r1,e1,⟨q1,_⟩,z2,r2,e2,⟨q2,_⟩,e3⟩:=r';cases e;subst e3 e2 e1 q1 q2;rw[hb]at dH;injection dH with dH
 injection dH with dH
 injection dH with a1 dH
 injection dH with a2 _
 injection a1 with a1
 injection a2 with a2
 unfold pD;rw[a1,a2]
theorem ahr{H:Hp}:∀{ps:Z9 (Str×Str)} {ds:Z9 Z8} {xs:Z9 V},RepAll H (ps.map pD) xs->(∀d∈ds,PrD d)->RepAll H ds xs->ds=ps.map pD
 | [],ds,xs,r,_,r'=>by cases (show xs=[]from r);have:=r'.length;exact eu.mp (by simpa using this.symm)
 | p::ps,ds,xs,r,hd,r'=>by
  obtain⟨x,ys,rfl,r1,r2⟩:=r;cases ds with
  | nil=>cases (show x::ys=[]from r')
  | cons d ds=>
   obtain⟨x',xS,e,r1',r2'⟩:=r';cases e;rw[atj r1 (hd d aj) r1',ahr r2 (λd h=>hd d<|ak _ h) r2'];rfl
def prB(ps:Z9 (Str×Str)):Prop:=(∀d∈ps.map pD,PrD d)/\(ps.map pD).Pairwise λx y=>prN x<prN y
def ap7{H:Hp}{v:V}{fl:Str}{ks:Z9 Kw}{ps:Z9 (Str×Str)}(hb:¬prB ps)(r:Rep H (nP fl ks ps) v):¬nQ H v:=λh=>by obtain⟨f,ka,p,kx,px,_,_,_,_,_,⟨a,xs,ds,e,ha,rd,h1,h2⟩,hp,rp⟩:=vh r h;cases e;rw[hp]at ha;cases ha;have:=ahr rp h1 rd;subst this;exact hb ⟨h1,h2⟩
theorem am0{H:Hp}:∀{ds es:Z9 Z8} {xs:Z9 V},RepAll H ds xs->RepAll H es xs->(∀d∈ds,SgD d)->(∀d∈es,SgD d)->ds=es
 | [],es,xs,r,r',_,_=>by cases (show xs=[]from r);have:=r'.length;exact(eu.mp<|by simpa using this.symm).symm
 | d::ds,es,xs,r,r',h,h'=>by
  obtain⟨x,ys,rfl,r1,r2⟩:=r;cases es with
  | nil=>cases (show x::ys=[]from r')
  | cons e es=>
   obtain⟨x',xS,ee,q1,q2⟩:=r';cases ee;rw[am0 r2 q2 (λd hd=>h d<|ak _ hd) (λd hd=>h' d<|ak _ hd)];obtain⟨a,b,c,rfl,_⟩:=h d aj;obtain⟨a',b',c',rfl,_⟩:=h' e aj;obtain⟨t,zs,rfl,ht,z1,u1,e1,w1,z2,u2,e2,w2,z3,u3,e3,⟨w3,_⟩,e4⟩:=r1;subst e4 e3 e2 e1 w3;cases (show z1=_ from w1);cases (show z2=_ from w2);obtain⟨t',Gn,et,wG,z1,u1,e1,w1,z2,u2,e2,w2,z3,u3,e3,⟨w3,_⟩,e4⟩:=q1;cases et;subst e4 e3 e2 e1 w3;cases (show z1=_ from w1);cases (show z2=_ from w2);rw[ht]at wG;cases wG;rfl
noncomputable def Kj:Z8->Bool
 | .tuple [.int _,.int _,.str z]=>match z.cps.toList with
  | [c]=>decide (65<=c)&&decide (c<=90)
  | _=>false
 | _=>false
def awj{d:Z8}(h:Kj d=true):SgD d:=by
 unfold Kj at h;split at h
 .rename_i a b z
  split at h
  .rename_i c e
   rw[bf]at h;exact(mj a b c ⟨by rw[show z=⟨#[c]⟩from ub e],of_decide_eq_true h.1,of_decide_eq_true h.2⟩)
  .cases h
 .cases h
noncomputable def waB(z:Str):Bool:=decide (z.length<=120)&&z.cps.toList.all λc=>decide (32<c)&&decide (c<128)
def Ak{z:Str}(h:waB z=true):Wa z:=by unfold waB at h;rw[bf]at h;exact⟨of_decide_eq_true h.1,λc hc=>by have:=bq.mp h.2 c hc;simpa using this⟩
noncomputable def J7(k:Kw):Bool:=waB k.z&&(decide (k.z.length<=80)&&(decide (k.l<=99)&&(k.m.all (λj=>decide<|j<=99)&&(waB k.md&&(decide (k.md.length<=80)&&(waB k.pic&&(decide ((pj k.pic).length<=10)&&((pj k.pic).all (λx=>decide<|x.length<=10)&&(decide ((Am k.pic).length<64)&&(decide ((wm k.pic).length<=60)&&((wm k.pic).all Kj&&jH (kwW k))))))))))))
def au9{k:Kw}(h:J7 k=true):KwO k/\jH (kwW k)=true:=by unfold J7 at h;simp only[bf,decide_eq_true_iff]at h;obtain⟨h1,h2,h3,h4,h5,h6,h7,h8,h9,tK,Fh,zU,h13⟩:=h;refine⟨⟨Ak h1,h2,h3,λj e=>?_,Ak h5,h6,⟨Ak h7,h8,λx hx=>of_decide_eq_true<|bq.mp h9 x hx,tK,Fh,λd hd=>awj<|bq.mp zU d hd⟩⟩,h13⟩;rw[e]at h4;simpa using h4
def F1{H:Hp}{k:Kw}{v:V}(r:Rep H (kwD k) v)(ho:KwO k)(h:¬Frm (wm k.pic)):¬wy H v:=λhp=>by obtain⟨b,m,fm,rfl,hb,rfl,rf⟩:=Gb r;obtain⟨a,n,l,m,md,f,e,ha,_,_,_,⟨c,xs,ds,ef,hc,rd,fr⟩⟩:=hp;cases e;rw[hb]at ha;cases ha;cases ef;obtain⟨c',ys,e,mF,rs⟩:=rf;cases e;rw[hc]at mF;cases mF;rw[<-am0 rd rs fr.1.pre.sg ho.pic.sg]at h;exact h fr
noncomputable abbrev zK(z:String)(l:Nat)(m:Option Nat)(md pic:String):Kw:=⟨aa z,l,m,aa md,aa pic⟩
noncomputable def oddK:Z9 Kw:=[zK "zz" 0 (some 65) "flip" "A",zK "zz" 2 (some 1) "flip" "A",zK "zz" 65 none "flip" "A",zK "Zz" 0 (some 1) "flip" "A",zK "zzzzzzzzz" 0 (some 1) "flip" "A",zK "zz" 0 (some 1) "flap" "A",zK "zz" 0 (some 1) "flip" ".",zK "zz" 0 (some 1) "flip" "A.A",zK "zz" 0 (some 1) "flip" "AAAAAAA",zK "z1" 0 (some 1) "flip" "A",zK "zz" 0 none "Still" "A/B",zK "zz" 0 (some 1) "flip" "./."]
def aqw:∀k∈oddK,J7 k=true:=by decide +kernel
def aok:∀k∈oddK,KE k=true\/k.pic=aa "."\/k.pic=aa "A.A"\/k.pic=aa "AAAAAAA"\/k.pic=aa "./.":=by decide +kernel
def f1:wm (aa ".")=[]:=by kernel_rfl
def f2:wm (aa "A.A")=[sgD (0,0,65),sgD (0,2,65)]:=by kernel_rfl
def f3:(wm<|aa "AAAAAAA").length=7:=by kernel_rfl
def f4:wm (aa "./.")=[]:=by kernel_rfl
def atz{k:Kw}(hk:k∈oddK):∀H v,Rep H (kwD k) v->¬wy H v:=λH v r=>by
 have ho:=(au9<|aqw k hk).1;rcases aok k hk with h|h|h|h|h
 .exact asj r h
 .refine F1 r ho λfr=>?_;have:=fr.1.pre.pos;rw[h,f1]at this;cases this
 .refine F1 r ho λfr=>?_;have:=fr.1.pre.con;rw[h,f2]at this;have:=this (λc=>c=(0,0)) ⟨(0,0),aj,rfl⟩ (λc d _ hd hc ht=>by
   subst hc;simp only[cy,List.map_nil,ap,cv,or_false]at hd;rcases hd with rfl|rfl
   .rfl
   .exact absurd ht<|by unfold Tch;decide) (0,2)<|ak _ aj
  exact absurd this<|by decide
 .refine F1 r ho λfr=>?_;have:=fr.1.pre.six;rw[h,f3]at this;lia
 .refine F1 r ho λfr=>?_;have:=fr.1.pre.pos;rw[h,f4]at this;cases this
noncomputable def oddF:Z9 Str:=sW ["./..",".........","-","./","/.","0","././././././././."]
def Ls:∀z∈oddF,wdB z=true/\z.length<=80/\flB (some<|(pj z).map some)=false:=by decide +kernel
noncomputable def oddP:Z9 (Z9<|Str×Str):=[[(aa "B",aa "A")],[(aa "a",aa "b")],[(aa "AB",aa "C")],[(aa "A",aa "B"),(aa "A",aa "B")],[(aa "B",aa "C"),(aa "A",aa "Z")]]
def anp:∀ps∈oddP,ps.length<=2/\∀p∈ps,(wdB p.1=true/\p.1.length<=80)/\(wdB p.2=true/\p.2.length<=80):=by decide +kernel
noncomputable def az9:Z8->Bool
 | .tuple [.str x,.str y]=>match x.cps.toList,y.cps.toList with
  | [a],[b]=>decide (65<=a)&&(decide (a<=b)&&decide (b<=90))
  | _,_=>false
 | _=>false
def azb{d:Z8}(h:PrD d):az9 d=true:=by obtain⟨x,y,rfl,h1,h2,h3⟩:=h;show(decide (65<=x)&&(decide (x<=y)&&decide (y<=90)))=true;rw[decide_eq_true h1,decide_eq_true h2,decide_eq_true h3];rfl
def avz:∀ps∈oddP,(ps.map pD).all az9=true->¬((ps.map pD).Pairwise λx y=>prN x<prN y):=by decide +kernel
def asl{ps:Z9 (Str×Str)}(h:ps∈oddP):¬prB ps:=λhb=>avz ps h (bq.mpr λd hd=>azb<|hb.1 d hd) hb.2
section
variable{L:Z9 (Z9 Str)}{fl:Str}{ks:Z9 Kw}{ps:Z9 (Str×Str)}
def FmW.way0(h:FmW L fl ks ps){k:Kw}(hk:k∈oddK):FmW (L.take 1++[kwW k]++L.drop 1) fl (k::ks) ps:=by
 refine⟨by rw[h.eL];rfl,h.wf,λk' hk'=>?_,h.po⟩;rcases ap.mp hk' with rfl|hk'
 .exact au9<|aqw _ hk
 .exact h.ko k' hk'
def FmW.way1{k:Kw}(h:FmW L fl (k::ks) ps):FmW (L.take 2++L.drop 1) fl (k::k::ks) ps:=by
 refine⟨by rw[h.eL];rfl,h.wf,λk' hk'=>?_,h.po⟩;rcases ap.mp hk' with rfl|hk'
 .exact h.ko _ aj
 .exact h.ko k' hk'
def FmW.way2(h:FmW L fl ks ps){z:Str}(hz:z∈oddF):FmW ([[aa "floor",z]]++L.drop 1) z ks ps:=by obtain⟨h1,h2,_⟩:=Ls z hz;exact⟨by rw[h.eL];rfl,⟨wdL h1,h2⟩,h.ko,h.po⟩
def FmW.not_ap(h:FmW L fl ks ps):L.filter (λws=>!rj apS ws)=[aa "floor",fl]::ks.map kwW:=by
 have n2:=a0i;have n3:=a0r;rw[h.eL,List.filter_cons_of_pos<|by simp[rj,n2],jc,List.filter_eq_self.mpr λws hws=>?_,List.filter_eq_nil_iff.mpr λws hws=>?_,f9]
 .obtain⟨k,_,rfl⟩:=a7.mp hws;simp[rj,pW]
 .obtain⟨k,_,rfl⟩:=a7.mp hws;simp[rj,kwW,Ne.symm n3]
def FmW.way3(h:FmW L fl ks ps){qs:Z9 (Str×Str)}(hq:qs∈oddP):FmW (L.filter (λws=>!rj apS ws)++qs.map pW) fl ks qs:=by refine⟨by rw[h.not_ap];rfl,h.wf,h.ko,λp hp=>?_⟩;have:=(anp qs hq).2 p hp;exact⟨⟨wdL this.1.1,this.1.2⟩,⟨wdL this.2.1,this.2.2⟩⟩
def FmW.way4(h:FmW L fl ks ps):FmW (L.take 1++L.filter (rj apS)) fl [] ps:=by refine⟨by rw[h.pcs.2,h.eL];rfl,h.wf,(λk hk=>by cases hk),h.po⟩
theorem FmW.lsw(h:FmW L fl ks ps)(hl:ks.length+ps.length<=20):LsW L/\L.length<=24:=by
 have aU:L.length=1+(ks.length+ps.length):=by rw[h.eL,bc,a9,af,af];lia
 have rT:∀ws∈L,ws.length<=12/\ws≠[]/\∀x∈ws,Wa x:=λws hw=>by
  rw[h.eL]at hw;rcases ap.mp hw with rfl|hw
  .refine⟨by show 2<=12;decide,by simp,λx hx=>?_⟩;simp only[ap,cv,or_false]at hx;rcases hx with rfl|rfl
   .exact Ak<|by decide +kernel
   .exact h.wf.1.wa
  .rcases bo.mp hw with hw|hw
   .obtain⟨k,hk,rfl⟩:=a7.mp hw;have ho:=(h.ko k hk).1;refine⟨by show 6<=12;decide,by simp[kwW],λx hx=>?_⟩;unfold kwW at hx;simp only[ap,cv,or_false]at hx;rcases hx with rfl|rfl|rfl|rfl|rfl|rfl
    .exact Ak<|by decide +kernel
    .exact ho.z
    .exact(wdL (K7 _ ho.l).2.1).wa
    .cases e:k.m with
     | none=>exact Ak (by decide +kernel)
     | some j=>exact(wdL (K7 j<|ho.m j e).2.1).wa
    .exact ho.md
    .exact ho.pic.wa
   .obtain⟨p,hp,rfl⟩:=a7.mp hw;have po:=h.po p hp;refine⟨by show 3<=12;decide,by simp[pW],λx hx=>?_⟩;unfold pW at hx;simp only[ap,cv,or_false]at hx;rcases hx with rfl|rfl|rfl
    .exact Ak<|by decide +kernel
    .exact po.1.1.wa
    .exact po.2.1.wa
 exact⟨⟨λe=>by rw[e]at aU;simp at aU;lia,by lia,λws hw=>(rT ws hw).1,λws hw=>(rT ws hw).2⟩,by lia⟩
end
def amo:oddK.map (λk=>a8 ⟨#[32]⟩<|kwW k)=sW ["piece zz 0 65 flip A","piece zz 2 1 flip A","piece zz 65 any flip A","piece Zz 0 1 flip A","piece zzzzzzzzz 0 1 flip A","piece zz 0 1 flap A","piece zz 0 1 flip .","piece zz 0 1 flip A.A","piece zz 0 1 flip AAAAAAA","piece z1 0 1 flip A","piece zz 0 any Still A/B","piece zz 0 1 flip ./."]:=by decide +kernel
def am3:oddP.map (λqs=>qs.map λp=>a8 ⟨#[32]⟩<|pW p)=[sW ["apart B A"],sW ["apart a b"],sW ["apart AB C"],sW ["apart A B","apart A B"],sW ["apart B C","apart A Z"]]:=by decide +kernel
def LN:∀L∈[[sW [""]],[sW [""],sW [""]],[sW ["",""]]],uh L=false:=by decide +kernel
def L5:txW [sW [""]]=aa ""/\txW [sW [""],sW [""]]=aa "\n"/\txW [sW ["",""]]=aa " ":=by decide +kernel
theorem DW{st:aF}{H W:Hp}{R:aF}{o:HO}(x:Ex [st] H W)(hs:W st=some o)(hR:W R=none):H R=none:=by
 cases e:H R with
 | none=>rfl
 | some p=>
  have:=x R p (by rw[a6];rintro rfl;rw[hs]at hR;cases hR) e;rw[hR]at this;cases this
def ix5{n:Nat}(h:6<=n):Builtin.Str.strSliceIndices none (some 5) 1 n=[0,1,2,3,4]:=by show sliceRange 0 (wA 0<|lB (5:Int) (n:Int)) 1=_;rw[show lB (5:Int) (n:Int)=5 by lia];rfl
theorem awo{x z:Str}{l:Z9 Nat}(hz:z.cps.toList.length=5)(hx:x.cps.toList=z.cps.toList++32::l):Txt.slice x none (some 5)=z:=by
 have hn:6<=x.length:=by rw[<-iO,hx,a9,bc];lia
 unfold Txt.slice;rw[ix5 hn,if_neg<|by simp;lia];refine ub ?_;have g:∀i:Nat,i<5->x.cps[i]?=z.cps.toList[i]?:=λi hi=>by rw[<-b8,hx,de<|by lia]
 match hzz:z.cps.toList,hz with
 | [a,b,c,d,e],_=>
  rw[hzz]at g;simp[g 0 (by lia),g 1<|by lia,g 2<|by lia,g 3<|by lia,g 4<|by lia]
def FmW.five{L:Z9 (Z9 Str)}{fl:Str}{ks:Z9 Kw}{ps:Z9 (Str×Str)}(h:FmW L fl ks ps){ws:Z9 Str}(hw:ws∈L):(ws.head?=some (Txt.slice (a8 ⟨#[32]⟩ ws) none<|some 5)):=by
 have key:∀(z y:Str)(t:Z9 Str),z.cps.toList.length=5->(z::y::t).head?=some (Txt.slice (a8 ⟨#[32]⟩ (z::y::t)) none<|some 5):=λz y t hz=>by rw[awo hz og];rfl
 rw[h.eL]at hw;rcases ap.mp hw with rfl|hw
 .exact key _ _ _<|by decide +kernel
 .rcases bo.mp hw with hw|hw
  .obtain⟨k,_,rfl⟩:=a7.mp hw;exact key _ _ _<|by decide +kernel
  .obtain⟨p,_,rfl⟩:=a7.mp hw;exact key _ _ _<|by decide +kernel
def FmW.fiveB{L:Z9 (Z9 Str)}{fl:Str}{ks:Z9 Kw}{ps:Z9 (Str×Str)}(h:FmW L fl ks ps){ws:Z9 Str}(hw:ws∈L):decide (V.str (Txt.slice (a8 ⟨#[32]⟩ ws) none<|some 5)=V.str (aa "apart"))=rj apS ws:=by unfold rj;rw[h.five hw];exact decide_eq_decide.mpr ⟨λe=>by injection e with e;rw[e],λe=>by rw[cn e]⟩
def vp{α:Type}(p:α->Bool){L:List α}{i:Nat}{a:α}(h:L[i]?=some a):(L.take<|i+1).filter p=(L.take i).filter p++if p a=true then[a]else[]:=by
 rw[jl,h,jc]
 congr 1
 show List.filter p [a]=_;rw[List.filter_cons,List.filter_nil]
def a0a:Sp:=λvs H Q _=>∃(ln st:aF)(n:Z9 V) (L:Z9 (Z9 Str)) (fl:Str) (k:Kw) (ks:Z9 Kw) (ps:Z9 (Str×Str)),vs=[.ref ln,.ref st]/\H st=some (.lst n)/\StL n/\H ln=some (.lst<|(L.map<|a8 ⟨#[32]⟩).map V.str)/\ln≠st/\LsW L/\ks.length+ps.length<=16/\FmW L fl (k::ks) ps/\
 ∀(r:aF) (L':Z9 (Z9 Str)) (H':Hp) (n':Z9 V) (zX:Str) (wB:Z9 Kw) (vV:Z9 (Str×Str)),Ex [st] H H'->H r=none->H' st=some (.lst n')->StL n'->H' r=some (.lst<|(L'.map<|a8 ⟨#[32]⟩).map V.str)->LsW L'->L'.length<=24->FmW L' zX wB vV->(∀H1 r,Rep H1 (nP zX wB vV) (.ref r)->¬nQ H1 (.ref r))->Q (.ref r) H'
def scNp:lz ["_law_lines","_law_state_here","_law_odd","_law_way","_law_floors","_law_bad"] ZX (ll sNp):={}
theorem azd(B:∀x∈ux,mg x=none)(aR:wx P w K mg base)(F:Fun K "_law_no_puzzle" "_law_no_puzzle" sNp f fd):FnOk P w K mg base CX0 2 f fd ZX a0a:=by
 refine F.ok (k:=1) scNp (λvs H Q E h=>?_) λbE A outer s H vs Q E hr h=>?_
 .obtain⟨_,_,_,_,_,_,_,_,rfl,_⟩:=h;rfl
 obtain⟨ln,st,n,L,fl,k,ks,ps,rfl,bD,hn,CF,mW,hL,h16,hF,q⟩:=h;have hu:=hr.units;refine⟨_,(kq (l4 (i:=2) scNp.nd rfl (Or.inl rfl)<|l7<|ku lc<|ku lc<|ku lc<|ku lc km)
  (kq (l4 (i:=2) scNp.nd rfl (Or.inl rfl)<|ml pb (pv 2)<|l7<|ku lc<|ku lc<|ku lc<|ku lc km)
  (kq (l4 (i:=2) scNp.nd rfl (Or.inl rfl)<|ml pb (pv 2)<|l7<|ku lc<|ku lc<|ku lc km)
  (kq (sq<|qi dh ff fg qg (pv 2)<|ku lc km)
  (kq (l4 (i:=3) scNp.nd rfl (Or.inl rfl)<|me aR hr (by decide) rfl<|ku (pv 1)<|ku k7 km)
  (kq (o4 (m6 sd (pv 3) k7<|mr _) (lg<|ls<|ml pb (ml pb (nq o5 (pv 0) oo<|ot k7)<|l7<|ku (m7 nh (pv 2) (me aR hr (by decide) rfl<|ku (pv 1)<|ku k7 km) λ_ _=>rfl) km)<|nq o5 (pv 0) (ot k7) oo) mh)
  (kq (o4 (m6 sd (pv 3) k7<|mr _) (lg<|ls<|ml pb (nq o5 (pv 0) oo<|ot k7)<|nq o5 (pv 0) (ot k7) oo) mh)
  (kq (o4 (m6 sd (pv 3) k7<|mr _) (kq (l4 (i:=4) scNp.nd rfl (Or.inl rfl)<|l7<|ku lc<|ku lc<|ku lc<|ku lc<|ku lc<|ku lc<|ku lc km)
  (lg<|ls<|ml pb (l7<|ku (ml rq lc<|m7 nh (pv 4) (me aR hr (by decide) rfl<|ku (pv 1)<|ku k7 km) λ_ _=>rfl) km)<|nq o5 (pv 0) (ot k7) oo)) mh)
  (kq (o4 (m6 sd (pv 3) k7<|mr _) (kq (l4 (i:=5) scNp.nd rfl (Or.inl rfl)<|l7<|ku (l7<|ku lc km)<|ku (l7<|ku lc km)<|ku (l7<|ku lc km)<|ku (ml avc (l7<|ku lc km) k7)<|ku (l7<|ku lc<|ku lc km) km)
  (lg<|ls<|ml pb (nk ["_law_line"] [none] rfl rfl (by decide +kernel) (by decide +kernel) rfl rfl (o8<|pv 0) (λ_=>(li (i:=0) (show(["_law_line"]:Z9 PySem.Str).Nodup by decide +kernel) rfl<|Or.inl rfl)) (λ_=>xt<|m6 Ai (nq Lp (pv 0) oo<|ot k7) lc<|mr _) λ_=>(pv 0))<|m7 nh (pv 5) (me aR hr (by decide) rfl<|ku (pv 1)<|ku k7 km) λ_ _=>rfl)) mh)
  (lg<|ls<|ml pb (nq o5 (pv 0) oo<|ot k7)<|nk ["_law_line"] [none] rfl rfl (by decide +kernel) (by decide +kernel) rfl rfl (o8<|pv 0) (λ_=>(li (i:=0) (show(["_law_line"]:Z9 PySem.Str).Nodup by decide +kernel) rfl<|Or.inl rfl)) (λ_=>xt<|m6 sd (nq Lp (pv 0) oo<|ot k7) lc<|mr _) λ_=>(pv 0))))))))))),?_⟩
 have lm:((L.map<|a8 ⟨#[32]⟩).map V.str).length=L.length:=by rw[af,af]
 have lL:L.length=2+(ks.length+ps.length):=by rw[hF.eL,bc,a9,af,af,bc];lia
 refine⟨sZ4,λp1 nG=>?_⟩;generalize g1:upd H p1 _=G1 at *;obtain⟨s1,e1⟩:=al nG g1;clear g1;refine⟨_,rfl,sZ4,λp2 qO=>?_⟩;generalize g1:upd G1 p2 _=G2 at *;obtain⟨s2,e2⟩:=al qO g1;clear g1;refine(lr p1 p2 _ _ ⟨rfl,rfl,s2 _ _ e1,e2,(by show 8<=aC;decide),λp3 nY=>?_⟩);generalize g1:upd G2 p3 _=G3 at *;obtain⟨s3,e3⟩:=al nY g1;clear g1;refine⟨_,rfl,sZ3,λp4 AU=>?_⟩;generalize g1:upd G3 p4 _=G4 at *;obtain⟨s4,e4⟩:=al AU g1;clear g1;refine(lr p3 p4 _ _ ⟨rfl,rfl,s4 _ _ e3,e4,(by show 11<=aC;decide),λO hO=>?_⟩);generalize g1:upd G4 O _=G5 at *;obtain⟨s5,e5⟩:=al hO g1;clear g1;have kE:=(((s1.trans s2).trans s3).trans s4).trans s5;have fO:H O=none:=((((s1.trans s2).trans s3).trans s4)).free hO;refine(ma _ rfl (.inl ⟨rfl,_,SqL.of e5⟩) O<|lv _ _ ⟨rfl,rfl,e5,lu<|by show 11<=1000;decide,?_⟩);have Hv:O≠st:=λe=>by rw[e,bD]at fO;cases fO
 have nOl:O≠ln:=λe=>by rw[e,CF]at fO;cases fO
 generalize g1:upd G5 O _=G6 at *;have x6:Ex [st] H G6:=by rw[<-g1];exact(Ex.of_same kE).new fO
 have kZ:G6 st=some (.lst n):=by rw[<-g1,lh<|Ne.symm Hv];exact kE _ _ bD
 have ln6:G6 ln=some (.lst<|(L.map<|a8 ⟨#[32]⟩).map V.str):=by rw[<-g1,lh<|Ne.symm nOl];exact kE _ _ CF
 have o6:G6 O=some (.lst<|(oddK.map λk=>a8 ⟨#[32]⟩<|kwW k).map V.str):=by rw[<-g1,k8,amo];rfl
 clear g1 e1 e2 e3 e4 e5 s1 s2 s3 s4 s5 nG qO nY AU hO kE;refine(nv _ rfl st n 5 ⟨rfl,kZ,hn,by decide,by decide,λn1 wv fW hw0 hw1=>?_⟩);have xW:Ex [st] H (upd G6 st<|.lst n1):=x6.trans (Ex.upd<|by simp);have iR:upd G6 st (.lst n1) st=some (.lst n1):=k8;have jY:upd G6 st (.lst n1) ln=some (.lst<|(L.map<|a8 ⟨#[32]⟩).map V.str):=by rw[lh mW];exact ln6
 have OW:upd G6 st (.lst n1) O=some (.lst<|(oddK.map λk=>a8 ⟨#[32]⟩<|kwW k).map V.str):=by rw[lh Hv];exact o6
 generalize upd G6 st (.lst n1)=W at *;clear x6 kZ ln6 o6;have cS:∀(L':Z9 (Z9 Str)) (W':Hp) (n':Z9 V) (r:aF) (zX:Str) (wB:Z9 Kw) (vV:Z9 (Str×Str)),Ex [st] H W'->H r=none->W' st=some (.lst n')->StL n'->W' r=some (.lst<|(L'.map<|a8 ⟨#[32]⟩).map V.str)->wB.length+vV.length<=20->FmW L' zX wB vV->(∀H1 r,Rep H1 (nP zX wB vV) (.ref r)->¬nQ H1 (.ref r))->Q (.ref r) W':=λL' W' n' r zX wB vV h1 h0 h2 h3 h4 h5 h6 h7=>q r L' W' n' zX wB vV h1 h0 h2 h3 h4 (h6.lsw h5).1 (h6.lsw h5).2 h6 h7;obtain rfl|rfl|rfl|rfl|rfl:wv=0\/wv=1\/wv=2\/wv=3\/wv=4:=by lia
 .
  refine(ma _ rfl rfl _ ⟨rfl,qb (λ_=>?_) λh=>absurd (decide_eq_true rfl) h⟩);refine⟨_,rfl,rh<|m8 _ rfl ln _ ⟨rfl,SqL.of jY,λS1 vA=>?_⟩⟩;generalize g1:upd W S1 _=W1 at *;obtain⟨s1,v1⟩:=al vA g1;clear g1;have v1:W1 S1=some (.lst<|gY ((L.map<|a8 ⟨#[32]⟩).map V.str) none<|some ((1:Nat):Int)):=v1;rw[Br (by rw[lm];lia),<-i9,<-i9]at v1;refine(mi _ rfl _ rfl st n1 12 ⟨rfl,s1 _ _ iR,fW,by decide,by decide,λn2 i2 gU pH A2=>?_⟩);obtain⟨j,rfl⟩:=br pH;have hj:j<12:=by lia
  obtain⟨ok,hok⟩:∃k,oddK[j]?=some k:=⟨_,ae hj⟩;have mok:=ah hok;have nT:Ex [st] H (upd W1 st<|.lst n2):=(xW.trans<|Ex.of_same s1).trans (Ex.upd<|by simp);have fM:upd W1 st (.lst n2) st=some (.lst n2):=k8;have jJ:upd W1 st (.lst n2) ln=some (.lst<|(L.map<|a8 ⟨#[32]⟩).map V.str):=by rw[lh mW];exact s1 _ _ jY
  have Mp:upd W1 st (.lst n2) O=some (.lst<|(oddK.map λk=>a8 ⟨#[32]⟩<|kwW k).map V.str):=by rw[lh Hv];exact s1 _ _ OW
  have BB:upd W1 st (.lst n2) S1=some (.lst<|((L.take 1).map (a8 ⟨#[32]⟩)).map V.str):=by rw[lh (tW v1 (s1 _ _ iR) fW)];exact v1
  generalize upd W1 st (.lst n2)=W2 at *;refine(lr O _ _ (.str<|a8 ⟨#[32]⟩<|kwW ok) ⟨rfl,rfl,SqL.of Mp,my<|by rw[au,au,hok];rfl,sZ1,λq1 lT=>?_⟩);generalize g1:upd W2 q1 _=W3 at *;obtain⟨s3,v3⟩:=al lT g1;clear g1;refine(lr S1 q1 _ _ ⟨rfl,rfl,s3 _ _ BB,v3,cb<|lu<|by simp;lia,λR1 Ju=>?_⟩);generalize g1:upd W3 R1 _=W4 at *;obtain⟨s4,v4⟩:=al Ju g1;clear g1;refine(mm _ rfl _ ⟨rfl,rh<|lv ln _ ⟨rfl,SqL.of<|(s3.trans s4) _ _ jJ,λS2 pF=>?_⟩⟩);generalize g1:upd W4 S2 _=W5 at *;obtain⟨s5,v5⟩:=al pF g1;clear g1;have v5:W5 S2=some (.lst<|gY ((L.map<|a8 ⟨#[32]⟩).map V.str) (some ((1:Nat):Int)) none):=v5;rw[xg (by rw[lm];lia),<-ja,<-ja]at v5;refine(lr R1 S2 _ _ ⟨rfl,rfl,s5 _ _ v4,v5,cb<|lu<|by simp;lia,λR hR=>?_⟩);generalize g1:upd W5 R _=W6 at *;obtain⟨s6,v6⟩:=al hR g1;clear g1;have jW:=((s3.trans s4).trans s5).trans s6;refine cS (L.take 1++[kwW ok]++L.drop 1) W6 n2 R fl (ok::k::ks) ps (nT.trans<|Ex.of_same jW) (DW (nT.trans<|Ex.of_same<|(s3.trans s4).trans s5) (((s3.trans s4).trans s5) _ _ fM) hR) (jW _ _ fM) gU ?_ (by simp;lia) (hF.way0 mok) λH1 r hr=>aor (atz mok) hr;rw[v6,ay,ay,ay,ay];rfl
 all_goals refine(ma _ rfl rfl _ ⟨rfl,qb (λh=>absurd h<|by decide) λ_=>?_⟩)
 .
  refine(ma _ rfl rfl _ ⟨rfl,qb (λ_=>?_) λh=>absurd (decide_eq_true rfl) h⟩);refine⟨_,rfl,rh<|m8 _ rfl ln _ ⟨rfl,SqL.of jY,λS1 vA=>?_⟩⟩;generalize g1:upd W S1 _=W1 at *;obtain⟨s1,v1⟩:=al vA g1;clear g1;have v1:W1 S1=some (.lst<|gY ((L.map<|a8 ⟨#[32]⟩).map V.str) none<|some ((2:Nat):Int)):=v1;rw[Br (by rw[lm];lia),<-i9,<-i9]at v1;refine(mm _ rfl _ ⟨rfl,rh<|lv ln _ ⟨rfl,SqL.of<|s1 _ _ jY,λS2 pF=>?_⟩⟩);generalize g1:upd W1 S2 _=W2 at *;obtain⟨s2,v2⟩:=al pF g1;clear g1;have v2:W2 S2=some (.lst<|gY ((L.map<|a8 ⟨#[32]⟩).map V.str) (some ((1:Nat):Int)) none):=v2;rw[xg (by rw[lm];lia),<-ja,<-ja]at v2;refine(lr S1 S2 _ _ ⟨rfl,rfl,s2 _ _ v1,v2,cb<|lu<|by simp;lia,λR hR=>?_⟩);generalize g1:upd W2 R _=W3 at *;obtain⟨s3,v3⟩:=al hR g1;clear g1;have kG:=(s1.trans s2).trans s3;refine cS (L.take 2++L.drop 1) W3 n1 R fl (k::k::ks) ps (xW.trans<|Ex.of_same kG) (DW (xW.trans<|Ex.of_same<|s1.trans s2) ((s1.trans s2) _ _ iR) hR) (kG _ _ iR) fW ?_ (by simp;lia) hF.way1 λH1 r hr=>ap9 hr;rw[v3,ay,ay]
 all_goals refine(ma _ rfl rfl _ ⟨rfl,qb (λh=>absurd h<|by decide) λ_=>?_⟩)
 .
  refine(ma _ rfl rfl _ ⟨rfl,qb (λ_=>?_) λh=>absurd (decide_eq_true rfl) h⟩);refine⟨sZ7,λF hF1=>?_⟩;generalize g1:upd W F _=W1 at *;obtain⟨s1,v1⟩:=al hF1 g1;clear g1;have v1:W1 F=some (.lst<|oddF.map V.str):=v1;refine(mi _ rfl _ rfl st n1 7 ⟨rfl,s1 _ _ iR,fW,by decide,by decide,λn2 i2 gU pH A2=>?_⟩);obtain⟨j,rfl⟩:=br pH;have hj:j<7:=by lia
  obtain⟨z,hz⟩:∃z,oddF[j]?=some z:=⟨_,ae hj⟩;have mz:=ah hz;have z80:=(Ls z mz).2.1;have nT:Ex [st] H (upd W1 st<|.lst n2):=(xW.trans<|Ex.of_same s1).trans (Ex.upd<|by simp);have fM:upd W1 st (.lst n2) st=some (.lst n2):=k8;have jJ:upd W1 st (.lst n2) ln=some (.lst<|(L.map<|a8 ⟨#[32]⟩).map V.str):=by rw[lh mW];exact s1 _ _ jY
  have BB:upd W1 st (.lst n2) F=some (.lst<|oddF.map V.str):=by rw[lh (tW v1 (s1 _ _ iR) fW)];exact v1
  generalize upd W1 st (.lst n2)=W2 at *;refine(lr F _ _ (.str z) ⟨rfl,rfl,SqL.of BB,my<|by rw[au,hz];rfl,(lv _ _ ⟨rfl,rfl,by rw[show(aa "floor ").length=6 by decide +kernel];exact cb<|lu<|by lia,sZ1,λq1 lT=>?_⟩)⟩);rw[anc];generalize g1:upd W2 q1 _=W3 at *;obtain⟨s3,v3⟩:=al lT g1;clear g1;refine(mm _ rfl _ ⟨rfl,rh<|lv ln _ ⟨rfl,SqL.of<|s3 _ _ jJ,λS2 pF=>?_⟩⟩);generalize g1:upd W3 S2 _=W5 at *;obtain⟨s5,v5⟩:=al pF g1;clear g1;have v5:W5 S2=some (.lst<|gY ((L.map<|a8 ⟨#[32]⟩).map V.str) (some ((1:Nat):Int)) none):=v5;rw[xg (by rw[lm];lia),<-ja,<-ja]at v5;refine(lr q1 S2 _ _ ⟨rfl,rfl,s5 _ _ v3,v5,cb<|lu<|by simp;lia,λR hR=>?_⟩);generalize g1:upd W5 R _=W6 at *;obtain⟨s6,v6⟩:=al hR g1;clear g1;have jW:=(s3.trans s5).trans s6;refine cS ([[aa "floor",z]]++L.drop 1) W6 n2 R z (k::ks) ps (nT.trans<|Ex.of_same jW) (DW (nT.trans<|Ex.of_same<|s3.trans s5) ((s3.trans s5) _ _ fM) hR) (jW _ _ fM) gU ?_ (by simp;lia) (hF.way2 mz) λH1 r hr=>ao9 (Ls z mz).2.2 hr;rw[v6,ay,ay];rfl
 all_goals refine(ma _ rfl rfl _ ⟨rfl,qb (λh=>absurd h<|by decide) λ_=>?_⟩)
 .
  refine(ma _ rfl rfl _ ⟨rfl,qb (λ_=>?_) λh=>absurd (decide_eq_true rfl) h⟩);refine⟨sZ1,λb1 Jq=>?_⟩;generalize g1:upd W b1 _=W1 at *;obtain⟨s1,v1⟩:=al Jq g1;clear g1;refine⟨sZ1,λb2 Jp=>?_⟩;generalize g1:upd W1 b2 _=W2 at *;obtain⟨s2,v2⟩:=al Jp g1;clear g1;refine⟨sZ1,λb3 A0=>?_⟩;generalize g1:upd W2 b3 _=W3 at *;obtain⟨s3,v3⟩:=al A0 g1;clear g1;refine⟨sZ1,λb4 Fa=>?_⟩;generalize g1:upd W3 b4 _=W4 at *;obtain⟨s4,v4⟩:=al Fa g1;clear g1;refine(mj b4 2 _ ⟨rfl,rfl,v4,by decide,by decide,sZ2,λb5 hb5=>?_⟩);generalize g1:upd W4 b5 _=W5 at *;obtain⟨s5,v5⟩:=al hb5 g1;clear g1;refine⟨sZ2,λb6 hb6=>?_⟩;generalize g1:upd W5 b6 _=W6 at *;obtain⟨s6,v6⟩:=al hb6 g1;clear g1;refine⟨sZ5,λBd hBd=>?_⟩;generalize g1:upd W6 Bd _=W7 at *;obtain⟨s7,v7⟩:=al hBd g1;clear g1;have u6:=s7;have u5:=s6.trans u6;have u4:=s5.trans u5;have u3:=s4.trans u4;have u2:=s3.trans u3;have u1:=s2.trans u2;have u0:=s1.trans u1;have hB:WsAt W7 (oddP.map λqs=>qs.map λp=>a8 ⟨#[32]⟩<|pW p) [.ref b1,.ref b2,.ref b3,.ref b5,.ref b6]:=by
   rw[am3];refine⟨rfl,λi v ws h1 h2=>?_⟩
   match i,h1,h2 with
   | 0,h1,h2=>cases h1;cases h2;exact⟨_,rfl,u1 _ _ v1⟩
   | 1,h1,h2=>cases h1;cases h2;exact⟨_,rfl,u2 _ _ v2⟩
   | 2,h1,h2=>cases h1;cases h2;exact⟨_,rfl,u3 _ _ v3⟩
   | 3,h1,h2=>cases h1;cases h2;exact⟨_,rfl,u5 _ _ v5⟩
   | 4,h1,h2=>cases h1;cases h2;exact⟨_,rfl,u6 _ _ v6⟩
  have iE:=u0 _ _ iR;have ln7:=u0 _ _ jY;have nB:Bd≠st:=λe=>by rw[e,iE]at v7;obtain⟨z,rfl⟩:=fW;cases v7
  generalize ([.ref b1,.ref b2,.ref b3,.ref b5,.ref b6]:Z9 V)=bs at *;refine(mm _ rfl ln ⟨rfl,⟨_,SqL.of ln7⟩,λD hD=>?_⟩);refine ny (xs:=(L.map<|a8 ⟨#[32]⟩).map V.str) (λi ys J=>Same W7 J/\ys=(((L.take i).filter λws=>!rj apS ws).map (a8 ⟨#[32]⟩)).map V.str) ⟨Same.fresh _ hD,rfl⟩ (λi ys J p=>SqL.of<|p.1 _ _ ln7) (λi x ys J hx hi aN aY p=>?_) λys J aN aY p=>?_
  .obtain⟨p1,rfl⟩:=p;rw[au,au]at hx;obtain⟨z,hz,rfl⟩:=bn.mp hx;obtain⟨ws,hws,rfl⟩:=bn.mp hz;have lQ:=ah hws;have wl:=hL.line lQ;refine⟨Agree.set (Agree.refl _) rfl,?_⟩;refine⟨_,rfl,rh<|mm _ rfl (a8 ⟨#[32]⟩ ws) ⟨rfl,by rw[dw];lia,rfl,_,rfl,?_⟩⟩;rw[hF.fiveB lQ];refine qb (λc=>?_) λc=>?_
   .refine⟨_,rfl,oj (by rw[lm]at hi;lia) aN aY ⟨p1.new hD,?_⟩⟩;rw[vp _ hws,if_pos c,ay,ay];rfl
   .refine⟨_,aN,by lia,p1,?_⟩;rw[vp _ hws,if_neg c,f9]
  obtain⟨p1,rfl⟩:=p;rw[lm,jf]at aN;refine(mi _ rfl _ rfl st n1 5 ⟨rfl,p1 _ _ iE,fW,by decide,by decide,λn2 i2 gU pH A2=>?_⟩);obtain⟨j,rfl⟩:=br pH;have lb:bs.length=5:=hB.1;obtain⟨bv,hbv⟩:∃v,bs[j]?=some v:=⟨_,ae<|by lia⟩;obtain⟨zs,bl,EV,rfl,hbl⟩:=(hB.same p1).at hbv;rw[au]at EV;obtain⟨qs,hqs,rfl⟩:=bn.mp EV;have Hy:=ah hqs;have q2:=(anp qs Hy).1;have nT:Ex [st] H (upd J st<|.lst n2):=(xW.trans<|Ex.of_same<|u0.trans p1).trans (Ex.upd<|by simp);have fM:upd J st (.lst n2) st=some (.lst n2):=k8;have BW2:upd J st (.lst n2) Bd=some (.lst bs):=by rw[lh nB];exact p1 _ _ v7
  have JW:upd J st (.lst n2) bl=some (.lst<|(qs.map λp=>a8 ⟨#[32]⟩<|pW p).map V.str):=by rw[lh (tW hbl (p1 _ _ iE) fW)];exact hbl
  have DW2:upd J st (.lst n2) D=some (.lst<|((L.filter λws=>!rj apS ws).map (a8 ⟨#[32]⟩)).map V.str):=by rw[lh (tW aN (p1 _ _ iE) fW)];exact aN
  generalize upd J st (.lst n2)=J2 at *;refine(lr Bd _ _ (.ref bl) ⟨rfl,rfl,SqL.of BW2,my hbv,?_⟩);refine(lr D bl _ _ ⟨rfl,rfl,DW2,JW,cb (lu<|by have:=kl (λws=>!rj apS ws) L;simp;lia),λR hR=>?_⟩);generalize g1:upd J2 R _=W9 at *;obtain⟨s9,v9⟩:=al hR g1;clear g1;refine cS ((L.filter λws=>!rj apS ws)++qs.map pW) W9 n2 R fl (k::ks) qs (nT.trans<|Ex.of_same s9) (DW nT fM hR) (s9 _ _ fM) gU ?_ (by simp;lia) (hF.way3 Hy) λH1 r hr=>ap7 (asl Hy) hr;rw[v9,ay,ay,show(qs.map pW).map (a8 ⟨#[32]⟩)=qs.map λp=>a8 ⟨#[32]⟩ (pW p) by rw[gd];rfl]
 all_goals refine(ma _ rfl rfl _ ⟨rfl,qb (λh=>absurd h<|by decide) λ_=>?_⟩)
 .
  refine⟨_,rfl,rh<|m8 _ rfl ln _ ⟨rfl,SqL.of jY,λS1 vA=>?_⟩⟩;generalize g1:upd W S1 _=W1 at *;obtain⟨s1,v1⟩:=al vA g1;clear g1;have v1:W1 S1=some (.lst<|gY ((L.map<|a8 ⟨#[32]⟩).map V.str) none<|some ((1:Nat):Int)):=v1;rw[Br (by rw[lm];lia),<-i9,<-i9]at v1;refine(mm _ rfl ln ⟨rfl,⟨_,SqL.of<|s1 _ _ jY⟩,λD hD=>?_⟩);refine ny (xs:=(L.map<|a8 ⟨#[32]⟩).map V.str) (λi ys J=>Same W1 J/\ys=(((L.take i).filter (rj apS)).map (a8 ⟨#[32]⟩)).map V.str) ⟨Same.fresh _ hD,rfl⟩ (λi ys J p=>SqL.of<|p.1 _ _<|s1 _ _ jY) (λi x ys J hx hi aN aY p=>?_) λys J aN aY p=>?_
  .obtain⟨p1,rfl⟩:=p;rw[au,au]at hx;obtain⟨z,hz,rfl⟩:=bn.mp hx;obtain⟨ws,hws,rfl⟩:=bn.mp hz;have lQ:=ah hws;have wl:=hL.line lQ;refine⟨Agree.set (Agree.refl _) rfl,?_⟩;refine⟨_,rfl,rh<|mm _ rfl (a8 ⟨#[32]⟩ ws) ⟨rfl,by rw[dw];lia,rfl,_,rfl,?_⟩⟩;rw[hF.fiveB lQ];refine qb (λc=>?_) λc=>?_
   .refine⟨_,rfl,oj (by rw[lm]at hi;lia) aN aY ⟨p1.new hD,?_⟩⟩;rw[vp _ hws,if_pos c,ay,ay];rfl
   .refine⟨_,aN,by lia,p1,?_⟩;rw[vp _ hws,if_neg c,f9]
  obtain⟨p1,rfl⟩:=p;rw[lm,jf]at aN;refine(lr S1 D _ _ ⟨rfl,rfl,p1 _ _ v1,aN,cb (lu<|by have:=kl (rj apS) L;simp;lia),λR hR=>?_⟩);generalize g1:upd J R _=W6 at *;obtain⟨s6,v6⟩:=al hR g1;clear g1;have jW:=(s1.trans p1).trans s6;refine cS (L.take 1++L.filter (rj apS)) W6 n1 R fl [] ps (xW.trans<|Ex.of_same jW) (DW (xW.trans<|Ex.of_same<|s1.trans p1) ((s1.trans p1) _ _ iR) hR) (jW _ _ iR) fW ?_ (by simp;lia) hF.way4 λH1 r hr=>asp hr;rw[v6,ay,ay]
def am9{K:aq}{H H':Hp}{a:aF}{xs:Z9 V}(h:SqL K H a xs)(k:∀o,H a=some o->H' a=some o):SqL K H' a xs:=by
 rcases h with (h|⟨o,h⟩)|h
 .exact .inl<|.inl<|k _ h
 .exact .inl<|.inr ⟨o,k _ h⟩
 .exact .inr h
def al4{st ln:aF}{G G':Hp}(x:Ex [st,ln] G G')(h1:G st=none)(h2:G ln=none):Same G G':=λb o h=>x b o (by
 have a1:=mq h h1;have a2:=mq h h2;simp[a1,a2]) h
def zp{H:Hp}{l:aF}{a b c d:Bool}(h:H l=some (.lst [.bl a,.bl b,.bl c,.bl d])):Rep H (.list [.bool a,.bool b,.bool c,.bool d]) (.ref l):=(oq l _ rfl h _ _ rfl rfl _<|ma _ rfl rfl _<|ma _ rfl rfl _ ⟨_,rfl,rfl,rfl⟩)
theorem ahm(zs:Z9 Str)(ks:Z9 Kr)(ps:Z9 (Nat×Nat)):(PyData.tuple [.tuple (zs.map PyData.str),.tuple<|ks.map krD,.tuple<|ps.map prE]).depth<=60:=by
 have h1:bg (zs.map PyData.str)<=1:=by
  induction zs with
  | nil=>simp[bg]
  | cons z t ih=>simp[bg,fh];lia
 have hs:∀ss:Z9 Sg,bg (ss.map sgD)<=2:=λss=>by
  induction ss with
  | nil=>simp[bg]
  | cons s t ih=>simp[bg,fh,sgD];lia
 have h2:bg (ks.map krD)<=5:=by
  induction ks with
  | nil=>simp[bg]
  | cons k t ih=>
   have:=hs k.ss;have hm:(mD k.m).depth<=1:=by cases k.m<;>simp[mD,fh]
   simp[bg,fh,krD];lia
 have h3:bg (ps.map prE)<=3:=by
  induction ps with
  | nil=>simp[bg]
  | cons s t ih=>simp[bg,fh,prE];lia
 simp[fh,bg];lia
section
variable{CT CP:aF}
def FG(K:aq):Sp:=λvs H Q _=>∃(a:aF)(ns:Z9 Int),vs=[.ref a]/\SqL K H a (ns.map V.int)/\ns.length<=63/\∀H',Q (.bl true) H'
def scLaw:lz ["_law_script","_law_state_here","_law_puzzle_here","_law_text","_law_k","_law_lines","_law_other"] ZH (ll Be):={}
theorem avf(B:∀x∈ux,mg x=none)(xR:Fn P w K mg base "_law_cell_at" 1 ZU (aqm K))(sN:Fn P w K mg base "_law_state" 1 ZT ak5)
  (D8:Fn P w K mg base "_law_puzzle" 5 ZD aqj) (Mr:Fn P w K mg base "_law_written" 2 ZB au8) (nS:FnE P w K mg base "read" 8 ["text"] (K4 K CT CP)) (nR:Fn P w K mg base "_law_word" 9 ["_law_text"] (aqp K)) (Fnf:Fn P w K mg base "_law_no_form" 2 ZX az3) (Fnp:Fn P w K mg base "_law_no_puzzle" 2 ZX a0a)
  (F:Fun K "law" "law" Be f fd):FnOk P w K mg base CX0 10 f fd ZH (FG K):=by
 refine F.ok (k:=9) scLaw (λvs H Q E h=>?_) λbE A outer s H vs Q E hr h=>?_
 .obtain⟨a,ns,rfl,_⟩:=h;rfl
 obtain⟨a,ns,rfl,hS,h63,q⟩:=h;have hu:=hr.units;refine⟨_,(kq (l4 (i:=1) scLaw.nd rfl (Or.inl rfl)<|me sN hr (by decide) rfl<|ku (me xR hr (by decide) rfl<|ku (pv 0)<|ku k7 km)<|ku k7 km)
  (kq (l4 (i:=2) scLaw.nd rfl (Or.inl rfl)<|me D8 hr (by decide) rfl<|ku (pv 1)<|ku k7<|ku k7<|ku k7 km)
  (kq (l4 (i:=3) scLaw.nd rfl (Or.inl rfl)<|me Mr hr (by decide) rfl<|ku (pv 2)<|ku (l7 km) km)
  (kq (o4 (m6 (Bv hu) (aqo nS hr (by decide) rfl<|ku (pv 3) km) (pv 2)<|mr _) (lg<|ls o9) mh)
  (kq (vn ge rfl (tV rfl (B "range"<|by decide)<|ku (mw (aea rfl) rfl (B "min"<|by decide) gD<|ku (mw m5 rfl (B "len"<|by decide) b9<|ku (pv 0) km)<|ku k7 km) km) (li (i:=4) scLaw.nd rfl<|Or.inl rfl) (kq (l4 (i:=1) scLaw.nd rfl (Or.inl rfl)<|me sN hr (by decide) rfl<|ku (me xR hr (by decide) rfl<|ku (pv 0)<|ku (pv 4) km)<|ku k7 km)
  (kq (o4 (m6 (Bv hu) (me nR hr (by decide) rfl<|ku (qi bp cw cx rn lc<|ku (me Fnf hr (by decide) rfl<|ku (qi bp gu gv uv (pv 3)<|ku lc km)<|ku (pv 1) km) km) km) (l7<|ku o9<|ku o9<|ku o9<|ku o9 km)<|mr _) (lg<|ls o9) mh)
  (kq (l4 (i:=5) scLaw.nd rfl (Or.inl rfl)<|me Fnp hr (by decide) rfl<|ku (qi bp gu gv uv (pv 3)<|ku lc km)<|ku (pv 1) km)
  (kq (o4 (m6 (Bv hu) (me nR hr (by decide) rfl<|ku (qi bp cw cx rn lc<|ku (pv 5) km) km) (l7<|ku o9<|ku o9<|ku o9<|ku o9 km)<|mr _) (lg<|ls o9) mh)
  (lg<|o4 (m6 (Bv hu) (me nR hr (by decide) rfl<|ku (qi bp cw cx rn lc<|ku (me Fnf hr (by decide) rfl<|ku (pv 5)<|ku (pv 1) km) km) km) (l7<|ku o9<|ku o9<|ku o9<|ku o9 km)<|mr _) (lg<|ls o9) mh))))))
  (kq (vn ge rfl (o8<|l7<|ku DP<|ku k7<|ku (l7<|ku (pv 3) km)<|ku (qd<|ku (pv 3) km)<|ku lc<|ku lc<|ku lc km) (li (i:=6) scLaw.nd rfl<|Or.inl rfl)<|lg<|o4 (m6 (Bv hu) (me nR hr (by decide) rfl<|ku (pv 6) km) (l7<|ku o9<|ku o9<|ku o9<|ku o9 km)<|mr _) (lg<|ls o9) mh)
  (lg<|ls<|ou (FP hu) (aqo nS hr (by decide) rfl<|ku (pv 3) km) (pv 2)<|mr _))))))),?_⟩
 refine(nv _ rfl a ns _ ⟨rfl,hS,by lia,λc=>(lv _ _ ⟨rfl,λst n Ck=>?_⟩)⟩);generalize g1:upd H st _=G1 at *;obtain⟨s1,u1⟩:=al Ck g1;clear g1;refine(m8 _ rfl st _ ⟨rfl,u1,⟨n,rfl⟩,λpz G2 n2 d x2 eV gU hd rp=>?_⟩);have s2:Same H G2:=λb o h=>x2 b o (by simpa using mq h Ck)<|s1 _ _ h;obtain⟨zs,ks,ps,rfl,hT⟩:=azq hd;have Jv:=hT.pz;refine⟨_,rfl,sZ0,λe0 Ji=>?_⟩;generalize g1:upd G2 e0 _=G3 at *;obtain⟨s3,v3⟩:=al Ji g1;clear g1;refine(nj pz e0 zs ks ps ⟨rfl,v3,Rep.same s3 rp,hT,λG4 s4=>?_⟩);have rp4:=Rep.same (s3.trans s4) rp;have sH:=(s2.trans s3).trans s4;rw[azr];have hF:=azv hT;have hL:=axu hT;have Ds:=au7 hT;have HY:=hL.len;have mC:=hL.cut;generalize uo zs ps (ks.map kwE)=L at *;generalize etx:txW L=tx at *;refine(mm _ rfl _ ⟨rfl,.inr ⟨L,by rw[etx],hL,λh=>by(rw[hF.b]at h;cases h),λ_=>(mj _ _ _ ⟨hF,λr G4' G5 a1 rr a2=>⟨λ_=>?_,λhn=>absurd (arj Jv<|by rw[Ds]at rr;exact rr) hn⟩⟩)⟩⟩);rw[Ds]at rr;have s5:=a1.trans a2;have rr:=Rep.same a2 rr;refine(vf _ rfl _ _ rr (Rep.same s5 rp4) (ahm zs ks ps) _ ⟨rfl,?_⟩);refine qb (λh=>absurd h<|by rw[if_pos rfl,SeqAt.eqv_refl _ rr.lay];decide) λ_=>?_;have sG:=sH.trans s5;have Ey:=Rep.same s5 rp4;obtain⟨kk,HM,eks,CJ⟩:∃kk HM,ks.map Ae=kk::HM/\HM.length+(ps.map prS).length<=16:=by
  have h0:0<ks.length:=by
   obtain⟨_,_,kd,_,e,_,k0,_⟩:=Jv;injection e with e
   injection e with _ e
   injection e with e _
   injection e with e
   rw[<-e,af]at k0;exact k0
  have h6:=hT.k6;have h3:=hT.p3;cases ks with
  | nil=>cases h0
  | cons k0 kr=>exact(lv _ _ ⟨rfl,by rw[af,af];rw[bc]at h6;lia⟩)
 rw[eks]at hF Ds;have l24:L.length<=24:=by rw[hF.eL,bc,a9,af,af,bc];lia
 refine(nw _ rfl a _ rfl (.inl<|am9 hS λo h=>sG _ _ h) _<|mm _ rfl _ ⟨rfl,?_,?_,?_⟩)
 .split<;>lia
 .split<;>lia
 refine t7 (lo:=0) (λi σ' W=>∃y1 y4 y5 y6,σ'=[some (.ref a),y1,some<|.ref pz,some<|.str tx,y4,y5,y6]/\Same G5 W) (lr _ _ _ _ ⟨rfl,Same.refl _⟩) (λi σ' W hi hI=>?_) λσ' W hI=>?_
 .obtain⟨y1,y4,y5,y6,rfl,sW⟩:=hI;have hSW:SqL K W a (ns.map V.int):=am9 hS λo h=>sW _ _<|sG _ _ h;refine(mi _ rfl _ rfl a ns _ ⟨rfl,hSW,by lia,λc=>(lv _ _ ⟨rfl,λeX n' fN=>?_⟩)⟩);generalize g1:upd W eX _=W1 at *;obtain⟨t1,v1⟩:=al fN g1;clear g1;refine⟨rfl,(ma _ rfl rfl tx ⟨10,rfl,by rw[e10],by rw[dw];lia,λl1 gQ=>?_⟩)⟩;rw[mC];generalize g1:upd W1 l1 _=W2 at *;obtain⟨t2,v2⟩:=al gQ g1;clear g1;have n12:l1≠eX:=λe=>by rw[e,v1]at gQ;cases gQ
  refine(k9 _ rfl l1 eX _ L<|mj _ _ _ ⟨rfl,t2 _ _ v1,⟨_,rfl⟩,v2,n12,hL,l24,hF,λr1 zs1 L1 W3 n3 x3 iY gO hr1 l30 l15 hj1 hL1 hf1=>?_⟩);have S3:Same W W3:=al4 ((Ex.of_same<|t1.trans t2).trans x3) fN<|t1.free gQ;have ej:(aa "\n").length=1:=by decide +kernel
  have sZ:=dn (B:=1500) zs1 l15;refine(mj _ r1 zs1 ⟨rfl,rfl,hr1,by rw[ej];lia,?_⟩);rw[tj 10 _ e10,hj1];refine(lv _ true ⟨rfl,.inr ⟨L1,rfl,hL1,.inl ⟨hf1,rfl⟩⟩,λa1 W4 t4 e4=>?_⟩);refine⟨sZ4,λp1 nG=>?_⟩;generalize g1:upd W4 p1 _=W5 at *;obtain⟨c1,w1⟩:=al nG g1;clear g1;refine(lv _ _ ⟨zp<|c1 _ _ e4,zp w1,by decide +kernel,_,rfl,qb (λh=>absurd h<|by decide) λ_=>?_⟩);have fU:=(t4.trans c1) _ _ iY;refine(ma _ rfl rfl tx ⟨10,rfl,by rw[e10],by rw[dw];lia,λl2 fK=>?_⟩);rw[mC];generalize g1:upd W5 l2 _=W6 at *;obtain⟨t6,v6⟩:=al fK g1;clear g1;have n26:l2≠eX:=λe=>by rw[e,fU]at fK;cases fK
  refine(k9 _ rfl l2 eX _ L<|lr _ _ _ _ ⟨rfl,t6 _ _ fU,gO,v6,n26,hL,CJ,hF,λr2 L2 W7 n7 fl2 B6 BN x7 f2 iE wK Ik Jx HK hF2 oA=>?_⟩);have S6:Same W W6:=((S3.trans t4).trans c1).trans t6;have S7:Same W W7:=λb o h=>x7 b o (by rw[a6];exact mq h fN)<|S6 _ _ h;have qL:=dn (B:=1500) (L2.map<|a8 ⟨#[32]⟩) λz hz=>by obtain⟨v,hv,rfl⟩:=a7.mp hz;have:=Jx.line hv;lia
  rw[af]at qL;refine⟨rfl,(nv _ rfl _ r2 (L2.map<|a8 ⟨#[32]⟩) ⟨rfl,rfl,Ik,by rw[ej,af];lia,?_⟩)⟩;rw[tj 10 _ e10,show a8 ⟨#[10]⟩ (L2.map<|a8 ⟨#[32]⟩)=txW L2 from rfl];refine(lv _ false ⟨rfl,.inr ⟨L2,rfl,Jx,.inr ⟨rfl,(mj fl2 B6 BN ⟨hF2,oA⟩)⟩⟩,λa2 W8 t8 e8=>?_⟩);refine⟨sZ4,λp2 qO=>?_⟩;generalize g1:upd W8 p2 _=W9 at *;obtain⟨c2,w2⟩:=al qO g1;clear g1;refine(lv _ _ ⟨zp<|c2 _ _ e8,zp w2,by decide +kernel,_,rfl,qb (λh=>absurd h<|by decide) λ_=>?_⟩);have GG:=t8.trans c2;refine⟨rfl,(mi _ rfl _ rfl r2 eX n7<|lr L2 fl2 B6 BN ⟨rfl,GG _ _ iE,wK,GG _ _ Ik,tW Ik iE wK,Jx,HK,hF2,λr3 zs3 L3 W10 n10 x10 uC zB hr3 m30 m15 hj3 hL3 Je=>?_⟩)⟩;have S10:Same W W10:=al4 ((Ex.of_same<|S7.trans GG).trans x10) fN<|S6.free f2;have hs3:=dn (B:=1500) zs3 m15;refine(mj _ r3 zs3 ⟨rfl,rfl,hr3,by rw[ej];lia,?_⟩);rw[tj 10 _ e10,hj3];refine(lv _ true ⟨rfl,.inr ⟨L3,rfl,hL3,.inl ⟨Je,rfl⟩⟩,λa3 W11 t11 Fq=>?_⟩);refine⟨sZ4,λp3 nY=>?_⟩;generalize g1:upd W11 p3 _=W12 at *;obtain⟨c3,w3⟩:=al nY g1;clear g1;refine(lv _ _ ⟨zp<|c3 _ _ Fq,zp w3,by decide +kernel,_,rfl,qb (λh=>absurd h<|by decide) λ_=>?_⟩);exact(lr _ _ _ _ ⟨rfl,sW.trans<|(S10.trans t11).trans c3⟩)
 .obtain⟨y1,y4,y5,y6,rfl,sW⟩:=hI;refine⟨_,rfl,sZ1,λl1 gQ=>?_⟩;generalize g1:upd W l1 _=W1 at *;obtain⟨t1,v1⟩:=al gQ g1;clear g1;refine⟨_,rfl,sZ1,λl2 fK=>?_⟩;generalize g1:upd W1 l2 _=W2 at *;obtain⟨t2,v2⟩:=al fK g1;clear g1;refine⟨sZ7,λo ho=>?_⟩;generalize g1:upd W2 o _=W3 at *;obtain⟨t3,v3⟩:=al ho g1;clear g1;have k1:=(t2.trans t3) _ _ v1;have k2:=t3 _ _ v2;have DI:∀L∈[[K11.sW [""]],[K11.sW [""],K11.sW [""]],[K11.sW ["",""]]],LsW L:=λL h=>by
   have g:∀L∈[[K11.sW [""]],[K11.sW [""],K11.sW [""]],[K11.sW ["",""]]],L≠[]/\L.length<=30/\(∀ws∈L,ws.length<=12)/\∀ws∈L,ws≠[]/\∀x∈ws,x.length<=120/\∀c∈x.cps.toList,32<c/\c<128:=by decide +kernel
   exact⟨(g L h).1,(g L h).2.1,(g L h).2.2.1,(g L h).2.2.2⟩
  have wi:∀(i:Nat) x,[V.non,.int 7,.ref l1,.ref l2,.str<|aa "",.str<|aa "\n",.str<|aa " "][i]?=some x->∀G,Same W3 G->aqv K G x true:=λi x hx G sg=>by
   match i,hx with
   | 0,hx=>cases hx;exact .inl ⟨⟨.inl rfl,λz h=>by cases h⟩,rfl⟩
   | 1,hx=>cases hx;exact .inl ⟨⟨.inr<|.inr<|.inl ⟨_,rfl⟩,λz h=>by cases h⟩,rfl⟩
   | 2,hx=>cases hx;exact .inl ⟨⟨.inr<|.inr<|.inr<|.inr ⟨_,rfl,.inl ⟨_,sg _ _ k1⟩⟩,λz h=>by cases h⟩,rfl⟩
   | 3,hx=>cases hx;exact .inl ⟨⟨.inr<|.inr<|.inr<|.inr ⟨_,rfl,.inr<|.inl ⟨_,sg _ _ k2⟩⟩,λz h=>by cases h⟩,rfl⟩
   | 4,hx=>cases hx;exact .inr ⟨[K11.sW [""]],by rw[L5.1],DI _<|by decide +kernel,.inl ⟨LN _<|by decide +kernel,rfl⟩⟩
   | 5,hx=>cases hx;exact .inr ⟨[K11.sW [""],K11.sW [""]],by rw[L5.2.1],DI _<|by decide +kernel,.inl ⟨LN _<|by decide +kernel,rfl⟩⟩
   | 6,hx=>cases hx;exact .inr ⟨[K11.sW ["",""]],by rw[L5.2.2],DI _<|by decide +kernel,.inl ⟨LN _<|by decide +kernel,rfl⟩⟩
  generalize ([V.non,.int 7,.ref l1,.ref l2,.str<|aa "",.str<|aa "\n",.str<|aa " "]:Z9 V)=xs at *;have sW3:=((sW.trans t1).trans t2).trans t3;refine⟨o,rfl,⟨_,SqL.of v3⟩,?_⟩;refine ah8 (xs:=xs) (λi σ' G=>∃y1 y4 y5 y6,σ'=[some (.ref a),y1,some<|.ref pz,some<|.str tx,y4,y5,y6]/\Same W3 G) (lr _ _ _ _ ⟨rfl,Same.refl _⟩) (λi σ' G hi hI=>?_) (λi x σ' G hx hI=>?_) λσ' G hI=>?_
  .obtain⟨_,_,_,_,_,sg⟩:=hI;exact SqL.of<|sg _ _ v3
  .obtain⟨y1,y4,y5,y6,rfl,sg⟩:=hI;refine(m8 _ rfl x true ⟨rfl,wi i x hx G sg,λa1 G1 t4 e4=>?_⟩);refine⟨sZ4,λp1 nG=>?_⟩;generalize g1:upd G1 p1 _=G2 at *;obtain⟨c1,w1⟩:=al nG g1;clear g1;refine(lv _ _ ⟨zp<|c1 _ _ e4,zp w1,by decide +kernel,_,rfl,qb (λh=>absurd h<|by decide) λ_=>?_⟩);exact(lr _ _ _ _ ⟨rfl,(sg.trans t4).trans c1⟩)
  .obtain⟨y1,y4,y5,y6,rfl,sg⟩:=hI;refine(mm _ rfl _ ⟨rfl,.inr ⟨L,by rw[etx],hL,λh=>by(rw[hF.b]at h;cases h),λ_=>(mj _ _ _ ⟨hF,λr G4' G6 a1 rr a2=>⟨λ_=>?_,λhn=>absurd (arj Jv<|by rw[Ds]at rr;exact rr) hn⟩⟩)⟩⟩);rw[Ds]at rr;have rr:=Rep.same a2 rr;refine(m8 _ rfl _ _ ⟨rr,Rep.same ((sW3.trans sg).trans (a1.trans a2)) Ey,ahm zs ks ps,?_⟩);rw[if_neg (by decide),SeqAt.eqv_refl _ rr.lay];exact q _
end
end
def Df.fnE{P:aI}{w:aJ}{K:aq}{h base:Heap}{mg:Str->Option aA}{n:Str}{st:aO}{d:Nat}{ps:Z9 Str}{sp:Sp}(D:Df K n st)(X:K.In h)(G:h.Ns aH mg)(ok:∀{f fd},Fun K n n st f fd->FnOk P w K mg base (CXe P w) d f fd ps sp)
  (b:∀(kV gS pm:aA)(an:Option aF)(bE ct:aA)(us:Z9 aA),us.length=ps.length->xH (jv n n (wn st) (va st) (ll st) .none kV gS pm an bE ct) ⟨us,[]⟩=bJ (ps.zip us):=by intro _ _ _ _ _ _;exact KG λ_=>rfl):FnE P w K mg base n d ps sp:=by
 obtain⟨f,fd,a,F⟩:=D;exact⟨f,fd,ok F,fb X G a,F.kp,F.binds b⟩
def awc{P:aI}{w:aJ}{K:aq}{mg:Str->Option aA}{aD:aF}{w1 v1 w2 v2 w3 v3:pN}{ep:Nat}(h:mg "TURNINGS_BY_MODE" = some (.ref aD))(ld:K.lookup aD=some ⟨.type "dict",none,.dict #[⟨dL w "still",.str "still" w1,.int 1 v1⟩,⟨dL w "turn",.str "turn" w2,.int 4 v2⟩,⟨dL w "flip",.str "flip" w3,.int 8 v3⟩] ep,#[]⟩)(nd:(aD==aW)=false):KB P w K mg:=by
 refine⟨aD,_,[("still",.int 1 v1),("turn",.int 4 v2),("flip",.int 8 v3)],h,ld,⟨_,ep,⟨rfl,rfl,rfl⟩,rfl,λe he=>?_,?_,(show((["still","turn","flip"]:Z9 Str).Nodup) by decide)⟩,nd,λz=>?_⟩
 .have zN:e=⟨dL w "still",.str "still" w1,.int 1 v1⟩\/e=⟨dL w "turn",.str "turn" w2,.int 4 v2⟩\/e=⟨dL w "flip",.str "flip" w3,.int 8 v3⟩:=by simpa using he
  rcases zN with rfl|rfl|rfl
  .exact⟨"still",cI P w _ w1,rfl⟩
  .exact⟨"turn",cI P w _ w2,rfl⟩
  .exact⟨"flip",cI P w _ w3,rfl⟩
 .exact .cons (cI P w _ w1) rfl<|.cons (cI P w _ w2) rfl<|.cons (cI P w _ w3) rfl .nil
 .unfold tR;by_cases h1:z=aa "still"
  .subst h1;rfl
  .by_cases h2:z=aa "turn"
   .subst h2;rfl
   .by_cases h3:z=aa "flip"
    .subst h3;rfl
    .simp[eU,h1,h2,h3,Ne.symm h1,Ne.symm h2,Ne.symm h3]
def all_mk{l:PySem.W.OpenLaw}{w:aJ}{K:aq}{h:Heap}{mg:Str->Option aA}{fa:aF}(X:K.In h)(G:h.Ns aH mg)(hfa:mg "law" = some (.ref fa))
  (d1:Df K "is_whole" sPw)
  (d2:Df K "is_sign" sPs)
  (d3:Df K "is_small" Ki)
  (d4:Df K "is_numeral" J9)
  (d5:Df K "is_mode" Ky)
  (d6:Df K "is_floor" Ke)
  (d7:Df K "is_floor_row" KO)
  (d8:Df K "is_floor_sign" J5)
  (d9:Df K "floor_spots" Lh)
  (d10:Df K "touches" J8)
  (d11:Df K "formed" Kg)
  (d12:Df K "is_form" sPf)
  (d13:Df K "is_spot" J0)
  (d14:Df K "hang_together" sPh)
  (d15:Df K "touches_any" sTa)
  (d16:Df K "is_kind" Kq)
  (d17:Df K "is_name" KP)
  (d18:Df K "are_bounds" JZ)
  (d19:Df K "is_puzzle" J6)
  (d20:Df K "are_kinds" Lf)
  (d21:Df K "are_pairs" La)
  (d22:Df K "is_pair" KW)
  (d23:Df K "read" Kz)
  (d24:Df K "are_lines" Kf)
  (d25:Df K "is_line" Kl)
  (d26:Df K "is_piece_line" Kb)
  (d27:Df K "is_picture" KJ)
  (d28:Df K "read_kind" sRk)
  (d29:Df K "read_form" sRf)
  (d30:Df K "_law_cell_at" KC)
  (d31:Df K "_law_state" Lb)
  (d32:Df K "_law_next" Kt)
  (d33:Df K "_law_signs" Ll)
  (d34:Df K "_law_grown" K2)
  (d35:Df K "_law_shifted" Ld)
  (d36:Df K "_law_drawn_form" Kv)
  (d37:Df K "_law_floor" K8)
  (d38:Df K "_law_kind" Lm)
  (d39:Df K "_law_names" LA)
  (d40:Df K "_law_pairs" Lu)
  (d41:Df K "_law_puzzle" KI)
  (d42:Df K "_law_picture" KM)
  (d43:Df K "_law_written" Kd)
  (d44:Df K "_law_word" KL)
  (d45:Df K "_law_no_form" sNf)
  (d46:Df K "_law_no_puzzle" sNp)
  (d47:Df K "law" Be)
  {u1 u2 u3 u4 u5 u6 u7 u8 u9 AA Ej BC:pN} (y1:b0 K aH "MOST_SPOTS" = some (some<|.int 6 u1)) (y2:b0 K aH "MOST_LINES" = some (some<|.int 8 u2)) (y3:b0 K aH "CLOSED" = some (some<|.str "#" u3)) (y4:b0 K aH "COVERED" = some (some<|.str "." u4)) (y5:b0 K aH "FREE" = some (some<|.str "," u5)) (y6:b0 K aH "LONGEST_NAME" = some (some<|.int 8 u6)) (y7:b0 K aH "MOST_LAID" = some (some<|.int 64 u7)) (y8:b0 K aH "MOST_KINDS" = some (some<|.int 6 u8)) (y9:b0 K aH "FIGURES" = some (some<|.str "0123456789" u9)) (y10:b0 K aH "MOST_FIGURES" = some (some<|.int 2 AA)) (y11:b0 K aH "ENDLESS" = some (some<|.str "any" Ej)) (y12:b0 K aH "NO_CELL" = some (some<|.str "." BC)) {aD:aF} {w1 v1 w2 v2 w3 v3:pN} {ep:Nat} (yd:b0 K aH "TURNINGS_BY_MODE" = some (some<|.ref aD)) (ld:K.lookup aD=some ⟨.type "dict",none,.dict #[⟨dL w "still",.str "still" w1,.int 1 v1⟩,⟨dL w "turn",.str "turn" w2,.int 4 v2⟩,⟨dL w "flip",.str "flip" w3,.int 8 v3⟩] ep,#[]⟩) (nd:(aD==aW)=false) {CT CP CL CN C0:aF} (yT:b0 K aH "NoText" = some (some<|.ref CT)) (yP:b0 K aH "NoPuzzle" = some (some<|.ref CP)) (yL:b0 K aH "NoLaying" = some (some<|.ref CL)) (yN:b0 K aH "NoNumber" = some (some<|.ref CN)) (ye:b0 K aH "CoverError" = some (some<|.ref C0)) (xT:ExC K CT) (xP:ExC K CP) (aT:xL K CT) (aP:xL K CP) (qeT:PySem.W.exmOne K (.ref CT) (.ref C0)=some true) (qeP:PySem.W.exmOne K (.ref CP) (.ref C0)=some true) (qtt:cj K (.ref CT) (.ref CT)=some true) (qtp:cj K (.ref CT) (.ref CP)=some false) (qtn:PySem.W.kitAny K (.ref CT) [.ref CL,.ref CN]=some false) (qtv:cj K (.ref CT) (.type "ValueError")=some true) (qpt:cj K (.ref CP) (.ref CT)=some false) (qpp:cj K (.ref CP) (.ref CP)=some true) (qpn:PySem.W.kitAny K (.ref CP) [.ref CL,.ref CN]=some false) (qpv:cj K (.ref CP) (.type "ValueError")=some true)
  (z1:b0 K aH "len" = some none) (z2:b0 K aH "min" = some none) (z3:b0 K aH "max" = some none) (z4:b0 K aH "sorted" = some none) (z5:b0 K aH "tuple" = some none) (z6:b0 K aH "list" = some none) (z7:b0 K aH "isinstance" = some none) (z8:b0 K aH "bool" = some none) (z9:b0 K aH "range" = some none) (z10:b0 K aH "str" = some none) (z11:b0 K aH "int" = some none) (z12:b0 K aH "all" = some none) (z13:b0 K aH "any" = some none) (z14:b0 K aH "abs" = some none) (z15:b0 K aH "set" = some none) (z16:b0 K aH "enumerate" = some none) (z17:b0 K aH "ValueError" = some none) :
  ∃fd:bG,(∀(s:aB)(v:aA),mL s fd ⟨[v],[]⟩ [("_law_script",v)])/\∀base:Heap,K.In base->base.Ns aH mg->FnOk l.prog w K mg base CX0 10 fa fd ZH (FG K):=by
 obtain⟨f,fd,a,F⟩:=d47;cases hfa.symm.trans (fb X G a);have B:∀x∈ux,mg x=none:=by
  intro x hx;simp only[ux,ap,cv,or_false]at hx;rcases hx with rfl|rfl|rfl|rfl|rfl|rfl|rfl|rfl|rfl|rfl|rfl|rfl|rfl|rfl|rfl|rfl|rfl
  .exact cp X G z1
  .exact cp X G z2
  .exact cp X G z3
  .exact cp X G z4
  .exact cp X G z5
  .exact cp X G z6
  .exact cp X G z7
  .exact cp X G z8
  .exact cp X G z9
  .exact cp X G z10
  .exact cp X G z11
  .exact cp X G z12
  .exact cp X G z13
  .exact cp X G z14
  .exact cp X G z15
  .exact cp X G z16
  .exact cp X G z17
 obtain⟨oc,od,kV,gS,pm,an,bE,ct,pZ,rfl,lk,nI⟩:=id F.ex;refine⟨jv "law" "law" (wn Be) (va Be) (ll Be) .none kV gS pm an bE ct,λs v=>.of_eq rfl,λbase _ _=>?_⟩;have g6:G6 mg:=⟨_,fb X G y1⟩;have g8:G8 mg:=⟨_,fb X G y2⟩;have gC:GS mg "CLOSED" "#":=⟨_,fb X G y3⟩;have gP:GS mg "COVERED" ".":=⟨_,fb X G y4⟩;have gF:GS mg "FREE" ",":=⟨_,fb X G y5⟩;have JG:GI mg "LONGEST_NAME" 8:=⟨_,fb X G y6⟩;have Fj:GI mg "MOST_LAID" 64:=⟨_,fb X G y7⟩;have JF:GI mg "MOST_KINDS" 6:=⟨_,fb X G y8⟩;have JH:GS mg "FIGURES" "0123456789":=⟨_,fb X G y9⟩;have Fi:GI mg "MOST_FIGURES" 2:=⟨_,fb X G y10⟩;have A4:GS mg "ENDLESS" "any":=⟨_,fb X G y11⟩;have A3:GS mg "NO_CELL" ".":=⟨_,fb X G y12⟩;have dm:KB l.prog w K mg:=awc (fb X G yd) ld nd;have cT:=fb X G yT;have cP:=fb X G yP;have cls:Cls K (.ref C0) CT CP CL CN:=⟨qeT,qeP,aT,aP,qtt,qtp,qtn,qtv,qpt,qpp,qpn,qpv⟩;have Y:L3.DfX l.prog w K mg base h:=⟨rfl,rfl,rfl,X,G⟩;have nx:=d32.fx Y<|asq;have pw:=d1.fx Y<|ay1 B;have pS:=d2.fx Y<|aya B;have sm:=d3.fx Y<|aoh B;have md:=d5.fx Y<|asu B dm;have sg:=d8.fx Y<|aw0 gC gP gF pS sm;have rw:=d7.fx Y<|atx B g8 sg;have fl:=d6.fx Y<|awy B g8 rw;have tc:=d10.fx Y<|awp B;have ta:=d15.fx Y<|ax7 B tc;have fm:=d11.fx Y<|awx B;have sp:=d13.fx Y<|av9 B pw pS;have ph:=d14.fx Y<|azs B ta;have pf:=d12.fx Y<|azh B g6 sp fm ph;have nm:=d17.fx Y<|as9 B JG sm;have bd:=d18.fx Y<|auu B Fj pw;have kd:=d16.fx Y<|ar7 B nm bd md pf;have pr:=d22.fx Y<|asz B pS;have yK:=d21.fx Y<|aos B pr;have kds:=d20.fx Y<|aoo B JF kd;have pz:=d19.fx Y<|aux B fl kds yK;have si:=d33.fx Y<|ao7 nx;have gr:=d34.fx Y<|aom B nx;have sh:=d35.fx Y<|aoi B;have df:=d36.fx Y<|atn B nx si gr sh;have fo:=d37.fx Y<|apz B nx;have ki:=d38.fx Y<|aog B nx df;have na:=d39.fx Y<|aj5 B nx;have pa:=d40.fx Y<|akf B nx;have pu:=d41.fx Y<|atr B nx fo ki na pa;have nu:=d4.fx Y<|aw8 B JH;have fs:=d9.fx Y<|ao8 B;have il:=d25.fx Y<|awz B;have ic:=d27.fx Y<|auc B A3 pS;have il2:=d26.fx Y<|axf Fi A4 il nu ic;have al:=d24.fx Y<|avy B il il2;have rf:=d29.fx Y<|ayz A3 fs fm;have rk:=d28.fx Y<|ayl B A4 rf;have rd:=Df.fnE d23 X G<|arn B cT xT cP xP al rk pz;have lpi:=d42.fx Y<|aso B;have wri:=d43.fx Y<|axa B nx lpi;have wo:=d44.fx Y<|asr B (fb X G ye) cT cP (fb X G yL) (fb X G yN) (B "ValueError"<|by decide) cls rd;have nf:=d45.fx Y<|ay6 B nx;have np:=d46.fx Y<|azd B nx;have ce:=d30.fx Y<|ar3 B;have ste:=d31.fx Y<|aph;exact avf B ce ste pu wri rd wo nf np F
def walk{l:PySem.W.OpenLaw}{q:aI}{loose:Z9 Str}{XP:(Str->Option aA)->Heap->Prop}{YP:aJ->Heap->Prop}{d:DefRec}{K:Params->aq}(hn:l.most=some 63)(C2:d.params.defaults=[])
  (hY:∀(w:aJ)(h:Heap),YP w h->(K w.params).In h)
  (F:∀(w:aJ)(mg:Str->Option aA)(fa:aF)(h:Heap),(K w.params).In h->h.Ns aH mg->mg d.name=some (.ref fa)->
   ∃fd:bG,(∀(s:aB)(u:aA),mL s fd ⟨[u],[]⟩ [("_law_script",u)])/\∀base:Heap,(K w.params).In base->base.Ns aH mg->FnOk l.prog w (K w.params) mg base CX0 10 fa fd ZH (FG<|K w.params)) :
  PySem.W.WalkO q loose XP YP l.row.toRowW d [] (λf vs=>PySem.call f vs):=
 L2.walk_of (n:=63) (k:=10) (x:="_law_script") (CX:=λ_=>CX0) (sp:=λw=>FG<|K w.params) hn (by decide) C2 ⟨rfl,by decide,by decide⟩ hY F (λ_ _ a ns hl _ hS=>⟨a,ns,rfl,hS,hl,λ_=>rfl⟩) λ_ _ _ _ _ z=>z
end K11
open PySem PySem.W PyProof.Rows
set_option maxRecDepth 100000 in
set_option maxHeartbeats 0 in
theorem PySem.Challenge.cw_coverpieces_k11_refused_texts_holds : PySem.Challenge.rw_coverpieces_k11_refused_texts.Holds := by
 refine K11.hd ⟨K11.left,?_⟩
 k_fill
 refine K11.walk (l:=PySem.Challenge.rw_coverpieces_k11_refused_texts) rfl rfl (λw h Y=>PySem.W.kIn_of Y) ?F
 case F=>
  intro w mg fa h KX G CB;refine' K11.all_mk KX G CB ?d1 ?d2 ?d3 ?d4 ?d5 ?d6 ?d7 ?d8 ?d9 ?d10 ?d11 ?d12 ?d13 ?d14 ?d15 ?d16 ?d17 ?d18 ?d19 ?d20 ?d21 ?d22 ?d23 ?d24 ?d25 ?d26 ?d27 ?d28 ?d29 ?d30 ?d31 ?d32 ?d33 ?d34 ?d35 ?d36 ?d37 ?d38 ?d39 ?d40 ?d41 ?d42 ?d43 ?d44 ?d45 ?d46 ?d47 ?y1 ?y2 ?y3 ?y4 ?y5 ?y6 ?y7 ?y8 ?y9 ?y10 ?y11 ?y12 ?yd ?ld ?nd ?yT ?yP ?yL ?yN ?ye ?xT ?xP ?aT ?aP ?qeT ?qeP ?qtt ?qtp ?qtn ?qtv ?qpt ?qpp ?qpn ?qpv ?z1 ?z2 ?z3 ?z4 ?z5 ?z6 ?z7 ?z8 ?z9 ?z10 ?z11 ?z12 ?z13 ?z14 ?z15 ?z16 ?z17
  case d1|d2|d3|d4|d5|d6|d7|d8|d9|d10|d11|d12|d13|d14|d15|d16|d17|d18|d19|d20|d21|d22|d23|d24|d25|d26|d27|d28|d29|d30|d31|d32|d33|d34|d35|d36|d37|d38|d39|d40|d41|d42|d43|d44|d45|d46|d47=>refine' L3.df_mk ?a ?l ?c ?k;(case a=>k_is);(case l=>k_is);(case c=>k_is);(case k=>k_is)
  case y1=>k_is
  case y2=>k_is
  case y3=>k_is
  case y4=>k_is
  case y5=>k_is
  case y6=>k_is
  case y7=>k_is
  case y8=>k_is
  case y9=>k_is
  case y10=>k_is
  case y11=>k_is
  case y12=>k_is
  case yd=>k_is
  case ld=>k_is
  case nd=>rfl
  case yT=>k_is
  case yP=>k_is
  case yL=>k_is
  case yN=>k_is
  case ye=>k_is
  case xT=>refine' L3.exc_mk ?a ?b ?c ?d;(case a=>k_is);(case b=>kernel_rfl);(case c=>k_is);(case d=>kernel_rfl)
  case xP=>refine' L3.exc_mk ?a ?b ?c ?d;(case a=>k_is);(case b=>kernel_rfl);(case c=>k_is);(case d=>kernel_rfl)
  case aT=>refine⟨?_,?_,?_,?_,?_,?_,?_,?_⟩<;>first|k_is|kernel_rfl
  case aP=>refine⟨?_,?_,?_,?_,?_,?_,?_,?_⟩<;>first|k_is|kernel_rfl
  case qeT=>kernel_rfl
  case qeP=>kernel_rfl
  case qtt=>kernel_rfl
  case qtp=>kernel_rfl
  case qtn=>kernel_rfl
  case qtv=>kernel_rfl
  case qpt=>kernel_rfl
  case qpp=>kernel_rfl
  case qpn=>kernel_rfl
  case qpv=>kernel_rfl
  case z1|z2|z3|z4|z5|z6|z7|z8|z9|z10|z11|z12|z13|z14|z15|z16|z17=>k_is
