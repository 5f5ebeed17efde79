import PyProof.Rows.All
import Wide.All
import OpenK.AllK
import Wide.FinOn
import PySem.Challenge.RW_coverpieces_k62_turned_layings
set_option compiler.extract_closed false
set_option Elab.async false
set_option linter.all false
set_option maxRecDepth 100000
abbrev Z(α:Type u):=List α
abbrev U:=PySem.PyData
noncomputable abbrev Z9:Z PySem.Str:=["puzzle","laying"]
noncomputable abbrev Z8:Z PySem.Str:=["floor","cell"]
noncomputable abbrev Z7:Z PySem.Str:=["floor"]
noncomputable abbrev Z6:Z PySem.Str:=["spots"]
noncomputable abbrev Z5:Z PySem.Str:=["found"]
noncomputable abbrev Z4:Z PySem.Str:=["form","t"]
noncomputable abbrev Z3:Z PySem.Str:=["_law_cell","_law_many"]
noncomputable abbrev Z2:Z PySem.Str:=["puzzle"]
noncomputable abbrev Z1:Z PySem.Str:=["laying"]
noncomputable abbrev Z0:Z PySem.Str:=["floor","t"]
noncomputable abbrev ZZ:Z PySem.Str:=["_law_x","_law_letters_here","_law_most"]
noncomputable abbrev ZY:Z PySem.Str:=["floor","cell","sign"]
noncomputable abbrev ZX:Z PySem.Str:=["form","mode"]
noncomputable abbrev ZV:Z PySem.Str:=["_law_script","_law_k"]
noncomputable abbrev ZU:Z PySem.Str:=["row","column","sign","last"]
noncomputable abbrev ZT:Z PySem.Str:=["puzzle","t"]
noncomputable abbrev ZS:Z PySem.Str:=["_law_spots"]
noncomputable abbrev ZR:Z PySem.Str:=["_law_row","_law_column","_law_sign"]
noncomputable abbrev ZQ:Z PySem.Str:=["_law_cell","_law_t","_law_high","_law_wide"]
noncomputable abbrev ZP:Z PySem.Str:=["floor","spots"]
noncomputable abbrev ZO:Z PySem.Str:=["spots","down","right"]
noncomputable abbrev ZN:Z PySem.Str:=["apart","sign","other"]
noncomputable abbrev ZM:Z PySem.Str:=["apart","cover","other"]
noncomputable abbrev ZL:Z PySem.Str:=["_law_script"]
noncomputable abbrev ZK:Z PySem.Str:=["TURNINGS_BY_MODE","LOOKS"]
noncomputable abbrev ZJ:Z PySem.Str:=["_law_spots","_law_t"]
noncomputable abbrev ZI:Z PySem.Str:=["_law_high","_law_wide","_law_x","_law_menu"]
noncomputable abbrev ZH:Z PySem.Str:=["row","column","sign"]
noncomputable abbrev ZG:Z PySem.Str:=["cells","placement"]
noncomputable abbrev ZF:Z PySem.Str:=["puzzle","laying","t"]
noncomputable abbrev ZE:Z PySem.Str:=["_law_floor","_law_spots"]
noncomputable abbrev ZD:Z PySem.Str:=["_law_floor","_law_spots","_law_t"]
noncomputable abbrev ZC:Z PySem.Str:=["_law_laid","_law_taken","_law_puzzle","_law_cell"]
open PySem renaming Value->aA,Shared->aB,sizeLine->aF,Addr->aG,wpAny->aH,model->aI,Program->aM,World->aN,mainGlobals->aP,NameKind->aT,starEach->aU,cLine->aV,compareOp->aY,Stmt->aZ,pyNext->bC,sysModules->bE,bootBuiltins->bJ,eval->bQ,codeAny->bT,argBest->bU,FuncData->bX,foldedSetIterable->bZ,sizeLine_eq->cD,assignEach->cF,Scope->cG,Paired->cH,wpAny_askSetting->cL,wpAny_setEntries_of->cO,wpAny_setField_rec->cU,wpAny_pyIter_tuple->cV,rawInt->cW,backTo->cY,seqItems?->dA,DictEntry->dF,Pos->dH,wpAny_fieldsOf->dI,firstArgMember->dN,binaryOp->dP,updateSeq->dU,behindInMarks->dZ,sliceBounds->eA,codeAny_call_builtin->eD,wpAny_passesOwn->eE,IsEnum->eG,atKey->eM,storedH->eO,hashStr->eP,getItem->eQ,tupleKind_room_in1->eS,strKind_is->eT,wpAny_pyIter_enum->fD,ofAClassStatement->fF,wpAny_standAt->fI,valueAt->fY,typeLookup->fZ,collect->gF,codeAny_mono->gG,letOwnedTupleGo->gK,Walks->gN,wpAny_callSpecialIfBoundUnlessNone?_slot->gO,builtinLookup_eq_fast->gQ,isSubtype_stop->hJ,hashByValue->iE,Result->iF,IsPart->iG,GenState->iH,tupleKind->iI,swapsWith->iK,setNext->iL,pickOrder->iO,wpAny_handled->iX,field->jK,attributeBase->jM,wpAny_call->jP,reduceHash->jR,newExc->jS,wpAny_dictEntries->kO,raiseNew->kR,newTuple->kS,callerA->kX,CmpOp->lC,wpAny_pyHash_str->lJ,wpAny_pyHash_int->lK,pyIter->lL,noFill_tuple_add->lM,checkBuiltinCall->lR,assign->lT,argsOk->lU,wpAny_throw->lW,subscripted->lX,richCompare->mC,keywordEach->mH,callSpecialIfBoundUnlessNone?->mP,wpAny_execs_nil->mT,wpAny_dictEpoch->mU,typeLookup_type->mV,holding->nF,Sem->nP,Keyword->nQ,BindsTo->nT,wpAny_runValue->nU,slotArgs->nY,setsByText->nZ,setEntries->oA,isSubtype_type->oC,closureFor->oS,Env->oX,wpAny_newList->pZ,wpAny_comprehension_free->qA,setSearchFrom->qC,seq_tuple_add->qD,rule->qF,assignInOrder->qQ,wpAny_Call_method0_late->qZ,putSet_of->rM,bindL->tK,bindC->tL,Tok->tU,concat_meets->uM,call_meetsIn->uN,wpAny_notOrdered_dict->uX,wpAny_isTrue_Compare1->uY,wpAny_isSame_ref_self->uZ,wpAny_isOneOf_keyiter->vA,setField->wR,numAt_eq->wY,intItems_at->xA,intItems->xB,bindName->xT,backToKw->xU,wpAny_tupleItemsOf->AF,wpAny_load->AG,wpAny_getItem_heap->AH,wpAny_Name->AI,stored->AK,call_meets->Br,builtinsNs->Bs,wpAny_storeSet_of->Cb,wpAny_setEpoch_of->Cc,wpAny_sequenceKey->Cd,wpAny_pyIter_slot->Ce,wpAny_cRoomFor_or->Cf,wpAny_assign_Name->Ch,standAt->Ck,spliced->Cn,searchCouldBeSeen->Co,newList->CH,eqIsQuiet_byValue->DW,Moved->EU,wpAny_pyIter_zip->E8,wpAny_getItem_of->E9,wpAny_execs_cons->Fa,wpAny_Dict_empty->Fb,evalPairs->F4,drawOrder->F8,cellsFrom->F9,beq_builtin_none->Gb,PassesOwn->HN,IsEnumOut->HP,Args->HQ,wpAny_ret_mkInt->HY,pyHashByItsType->Ix,codeAny_of_tree->KM
open PyProof.Rows renaming Keyed->aJ,arrOf->aK,pendingOf->aO,SortSt->aQ,SortKind->aX,failedOf->bM,wpS_modify->cC,seqObj->dJ,wpS_get->dX,reverseSlice'->fJ,envOfC->gE,IntsAre->gH,AllBare->gI,wpS_lift->gX,mirror->gZ,wpS->iT,elem'->jL,setArr->jQ,keyLt'->jT,assignInOrder_cons->jZ,tuples'->kQ,keyKind'->kU,IsTup->lB,boot_list->lS,mirror_perm->mF,minRun'->nE,gallopOf->oR,boot_enumerate->oT,subscriptTail->qB,listUpdate_at->qI,subscriptTail_builtinR->tX,seqEpoch_at->wS,boot_all->xS,getElem?_mirror_all->Aj,entry_tuple_getitem->Al,bubble->Bt,args_tuple_getitem->BF,Subscript_->B6,assignInOrder_nil->Ef,getElem?_bubble->Ku
open Pure renaming pure->aS
open ToString renaming toString->bO
open PySem.W renaming hashAt->cE
open MonadExcept renaming tryCatch->fO
open LawfulMonad renaming bind_assoc->jY
open Min renaming min->kF
open ForIn renaming forIn->xN
section
def sZ0:0<=aF:=by decide
def sZ1:1<=aF:=by decide
def sZ2:2<=aF:=by decide
def sZ3:3<=aF:=by decide
def sZ4:4<=aF:=by decide
def sZ5:5<=aF:=by decide
def sZ6:6<=aF:=by decide
namespace K62
open PySem PyProof.Rows
noncomputable def vw:aM:=PySem.W.view PySem.Challenge.pw_coverpieces_k62_turned_layings [1,2,4,5,6,7,8,10,11,12,13,14,15,16,17,18,20,21,22,23,24,26,28,29,30,31,32,33,34,35,36,37,39,40,41,42,43,44,45,47,48,49,50,51,52,53,54,55,56,57,58,59,60,61]
set_option maxHeartbeats 0 in
def said:PySem.W.OpenLaw.wellSaid PySem.Challenge.rw_coverpieces_k62_turned_layings=true:=by kernel_rfl
end K62
open PySem PySem.W PyProof.Rows
local macro_rules | `(tactic| o_law)=>`(tactic| refine holds_law K62.said fun said=>?_)
local macro_rules | `(tactic| o_head $H)=>`(tactic| refine(fun h hw=>holds_open (q:=K62.vw) (loose:=ZK) (Xt:=(fun s=>xlAt K62.vw [] s&&recOk (RowW.records (OpenLaw.row PySem.Challenge.rw_coverpieces_k62_turned_layings).toRowW) s)) (XP:=XL K62.vw []) (Yf:=Hook.obs $H) (Ya:=Hook.val $H) (YP:=Hook.says $H) (N:=3330) (And.left h) (Hook.of $H) (Hook.keeps $H) (fun s e=>xl_of s (Bool.and_eq_true_iff.mp e).1) XL.keeps (by rfl) (by rfl) (by rfl) (fun s e=>recFacts_of (Bool.and_eq_true_iff.mp e).2) (by rfl) (by assumption) (by decide +kernel) ⟨rfl,rfl,rfl,rfl,rfl,by decide +kernel⟩ hw (And.right h)) ?hc ?hw)
set_option maxRecDepth 100000 in
set_option maxHeartbeats 0 in
open_top K62.hd for PySem.Challenge.rw_coverpieces_k62_turned_layings
namespace K62
noncomputable def hk:Hook:=kHook K62.hd.heap_1 [2,3,15,17,18,20,21,22,24,25,27,28,29,30,32,33,35,36,37,40,41,42,45,46,47,50,51,52,54,55,57,58,59,61,62,64,65,66,68,69,71,72,73,75,76,78,79,80,83,84,85,87,88,90,91,92,94,95,97,98,99,102,103,104,107,108,109,112,113,114,117,118,119,121,122,124,125,126,128,129,131,132,133,135,136,138,139,140,142,143,145,146,147,150,151,152,154,155,157,158,159,161,162,164,165,166,168,169,171,172,173,175,176,178,179,180,183,184,185,186,188,189,191,192,193,196,197,198,201,202,203,206,207,208,211,212,213,216,217,218,221,222,223,225,226,228,229,230,232,233,235,236,237,240,241,242,245,246,247,250,251,252,255,256,257,260,261,262,264,265,267,268,269,271,272,274,275,276,279,280,281,283,284,286,287,288,291,292,293,296,297,298,300,301,303,304,305,308,309] λ_=>by kernel_rfl
def Lo(w:aN):Prop:=(openEnds treeTable PySem.Challenge.pw_coverpieces_k62_turned_layings w 3330).map (λs=>(openSeen vw ZK (importedModules PySem.Challenge.pw_coverpieces_k62_turned_layings.main.body) (λs=>xlAt vw [] s&&recOk (RowW.records (OpenLaw.row PySem.Challenge.rw_coverpieces_k62_turned_layings).toRowW) s) true s,hk.obs s))=some (openGood vw ZK,hk.val w)
set_option maxHeartbeats 0 in
def lf(w:aN):Lo (w.withFollow "special-get-raises" false):=by unfold Lo;kernel_rfl
set_option maxHeartbeats 0 in
def lt(w:aN):Lo (w.withFollow "special-get-raises" true):=by unfold Lo;kernel_rfl
def left:∀w,Lo w:=byRow2 "special-get-raises" lf lt
end K62
end
set_option Elab.async false
set_option linter.all false
set_option maxRecDepth 100000
set_option maxHeartbeats 8000000
def nc{α0:Sort u0}{α1:Sort u1}{t:α0->α1->Prop}(x0:α0)(x1:α1)(h:t x0 x1):∃x0,∃x1,t x0 x1:=⟨x0,x1,h⟩
def qe{α0:Sort u0}{α1:Sort u1}{p0:α0->Prop}{t:α0->α1->Prop}(x0:α0)(h0:p0 x0)(x1:α1)(h:t x0 x1):∃x0,p0 x0/\∃x1,t x0 x1:=⟨x0,h0,x1,h⟩
def oa{α0:Sort u0}{α1:Sort u1}{α2:Sort u2}{t:α0->α1->α2->Prop}(x0:α0)(x1:α1)(x2:α2)(h:t x0 x1 x2):∃x0,∃x1,∃x2,t x0 x1 x2:=⟨x0,x1,x2,h⟩
def qi{α0:Sort u0}{α1:Sort u1}{p0:α0->Prop}{p1:α0->Prop}{t:α0->α1->Prop}(x0:α0)(h0:p0 x0)(h1:p1 x0)(x1:α1)(h:t x0 x1):∃x0,p0 x0/\p1 x0/\∃x1,t x0 x1:=⟨x0,h0,h1,x1,h⟩
def oq{α0:Sort u0}{α1:Sort u1}{α2:Sort u2}{p0:α0->Prop}{t:α0->α1->α2->Prop}(x0:α0)(h0:p0 x0)(x1:α1)(x2:α2)(h:t x0 x1 x2):∃x0,p0 x0/\∃x1,∃x2,t x0 x1 x2:=⟨x0,h0,x1,x2,h⟩
def ny{α0:Sort u0}{α1:Sort u1}{α2:Sort u2}{α3:Sort u3}{t:α0->α1->α2->α3->Prop}(x0:α0)(x1:α1)(x2:α2)(x3:α3)(h:t x0 x1 x2 x3):∃x0,∃x1,∃x2,∃x3,t x0 x1 x2 x3:=⟨x0,x1,x2,x3,h⟩
def sw{α0:Sort u0}{α1:Sort u1}{α2:Sort u2}{p0:α0->Prop}{p1:α0->α1->Prop}{t:α0->α1->α2->Prop}(x0:α0)(h0:p0 x0)(x1:α1)(h1:p1 x0 x1)(x2:α2)(h:t x0 x1 x2):∃x0,p0 x0/\∃x1,p1 x0 x1/\∃x2,t x0 x1 x2:=⟨x0,h0,x1,h1,x2,h⟩
def qu{α0:Sort u0}{α1:Sort u1}{α2:Sort u2}{α3:Sort u3}{p0:α0->Prop}{t:α0->α1->α2->α3->Prop}(x0:α0)(h0:p0 x0)(x1:α1)(x2:α2)(x3:α3)(h:t x0 x1 x2 x3):∃x0,p0 x0/\∃x1,∃x2,∃x3,t x0 x1 x2 x3:=⟨x0,h0,x1,x2,x3,h⟩
def ni{α0:Sort u0}{α1:Sort u1}{α2:Sort u2}{α3:Sort u3}{α4:Sort u4}{t:α0->α1->α2->α3->α4->Prop}(x0:α0)(x1:α1)(x2:α2)(x3:α3)(x4:α4)(h:t x0 x1 x2 x3 x4):∃x0,∃x1,∃x2,∃x3,∃x4,t x0 x1 x2 x3 x4:=⟨x0,x1,x2,x3,x4,h⟩
def v7{α0:Sort u0}{α1:Sort u1}{α2:Sort u2}{α3:Sort u3}{p0:α0->Prop}{p1:α0->α1->Prop}{t:α0->α1->α2->α3->Prop}(x0:α0)(h0:p0 x0)(x1:α1)(h1:p1 x0 x1)(x2:α2)(x3:α3)(h:t x0 x1 x2 x3):∃x0,p0 x0/\∃x1,p1 x0 x1/\∃x2,∃x3,t x0 x1 x2 x3:=⟨x0,h0,x1,h1,x2,x3,h⟩
def mz{α0:Sort u0}{α1:Sort u1}{α2:Sort u2}{α3:Sort u3}{α4:Sort u4}{p0:α0->Prop}{t:α0->α1->α2->α3->α4->Prop}(x0:α0)(h0:p0 x0)(x1:α1)(x2:α2)(x3:α3)(x4:α4)(h:t x0 x1 x2 x3 x4):∃x0,p0 x0/\∃x1,∃x2,∃x3,∃x4,t x0 x1 x2 x3 x4:=⟨x0,h0,x1,x2,x3,x4,h⟩
def sn{α0:Sort u0}{α1:Sort u1}{α2:Sort u2}{α3:Sort u3}{p0:α0->α1->Prop}{p1:α0->α1->Prop}{t:α0->α1->α2->α3->Prop}(x0:α0)(x1:α1)(h0:p0 x0 x1)(h1:p1 x0 x1)(x2:α2)(x3:α3)(h:t x0 x1 x2 x3):∃x0,∃x1,p0 x0 x1/\p1 x0 x1/\∃x2,∃x3,t x0 x1 x2 x3:=⟨x0,x1,h0,h1,x2,x3,h⟩
def zx{α0:Sort u0}{α1:Sort u1}{α2:Sort u2}{p0:α0->Prop}{p1:α0->Prop}{p2:α0->Prop}{p3:α0->Prop}{t:α0->α1->α2->Prop}(x0:α0)(h0:p0 x0)(h1:p1 x0)(h2:p2 x0)(h3:p3 x0)(x1:α1)(x2:α2)(h:t x0 x1 x2):∃x0,p0 x0/\p1 x0/\p2 x0/\p3 x0/\∃x1,∃x2,t x0 x1 x2:=⟨x0,h0,h1,h2,h3,x1,x2,h⟩
def oe{α0:Sort u0}{α1:Sort u1}{α2:Sort u2}{α3:Sort u3}{α4:Sort u4}{p0:α0->Prop}{p1:α0->α1->Prop}{t:α0->α1->α2->α3->α4->Prop}(x0:α0)(h0:p0 x0)(x1:α1)(h1:p1 x0 x1)(x2:α2)(x3:α3)(x4:α4)(h:t x0 x1 x2 x3 x4):∃x0,p0 x0/\∃x1,p1 x0 x1/\∃x2,∃x3,∃x4,t x0 x1 x2 x3 x4:=⟨x0,h0,x1,h1,x2,x3,x4,h⟩
def o9{α0:Sort u0}{α1:Sort u1}{α2:Sort u2}{α3:Sort u3}{p0:α0->Prop}{p1:α0->α1->α2->Prop}{p2:α0->α1->α2->Prop}{t:α0->α1->α2->α3->Prop}(x0:α0)(h0:p0 x0)(x1:α1)(x2:α2)(h1:p1 x0 x1 x2)(h2:p2 x0 x1 x2)(x3:α3)(h:t x0 x1 x2 x3):∃x0,p0 x0/\∃x1,∃x2,p1 x0 x1 x2/\p2 x0 x1 x2/\∃x3,t x0 x1 x2 x3:=⟨x0,h0,x1,x2,h1,h2,x3,h⟩
def xm{α0:Sort u0}{α1:Sort u1}{α2:Sort u2}{α3:Sort u3}{p0:α0->α1->Prop}{p1:α0->α1->Prop}{p2:α0->α1->Prop}{t:α0->α1->α2->α3->Prop}(x0:α0)(x1:α1)(h0:p0 x0 x1)(h1:p1 x0 x1)(h2:p2 x0 x1)(x2:α2)(x3:α3)(h:t x0 x1 x2 x3):∃x0,∃x1,p0 x0 x1/\p1 x0 x1/\p2 x0 x1/\∃x2,∃x3,t x0 x1 x2 x3:=⟨x0,x1,h0,h1,h2,x2,x3,h⟩
def ux{α0:Sort u0}{α1:Sort u1}{α2:Sort u2}{α3:Sort u3}{α4:Sort u4}{p0:α0->Prop}{p1:α0->Prop}{p2:α0->α1->Prop}{t:α0->α1->α2->α3->α4->Prop}(x0:α0)(h0:p0 x0)(h1:p1 x0)(x1:α1)(h2:p2 x0 x1)(x2:α2)(x3:α3)(x4:α4)(h:t x0 x1 x2 x3 x4):∃x0,p0 x0/\p1 x0/\∃x1,p2 x0 x1/\∃x2,∃x3,∃x4,t x0 x1 x2 x3 x4:=⟨x0,h0,h1,x1,h2,x2,x3,x4,h⟩
def o6{α0:Sort u0}{α1:Sort u1}{α2:Sort u2}{α3:Sort u3}{α4:Sort u4}{p0:α0->Prop}{p1:α0->α1->Prop}{p2:α0->α1->α2->Prop}{t:α0->α1->α2->α3->α4->Prop}(x0:α0)(h0:p0 x0)(x1:α1)(h1:p1 x0 x1)(x2:α2)(h2:p2 x0 x1 x2)(x3:α3)(x4:α4)(h:t x0 x1 x2 x3 x4):∃x0,p0 x0/\∃x1,p1 x0 x1/\∃x2,p2 x0 x1 x2/\∃x3,∃x4,t x0 x1 x2 x3 x4:=⟨x0,h0,x1,h1,x2,h2,x3,x4,h⟩
def sd{α0:Sort u0}{α1:Sort u1}{α2:Sort u2}{α3:Sort u3}{p0:α0->Prop}{p1:α0->α1->α2->Prop}{p2:α0->α1->α2->Prop}{p3:α0->α1->α2->Prop}{t:α0->α1->α2->α3->Prop}(x0:α0)(h0:p0 x0)(x1:α1)(x2:α2)(h1:p1 x0 x1 x2)(h2:p2 x0 x1 x2)(h3:p3 x0 x1 x2)(x3:α3)(h:t x0 x1 x2 x3):∃x0,p0 x0/\∃x1,∃x2,p1 x0 x1 x2/\p2 x0 x1 x2/\p3 x0 x1 x2/\∃x3,t x0 x1 x2 x3:=⟨x0,h0,x1,x2,h1,h2,h3,x3,h⟩
def tq{α0:Sort u0}{α1:Sort u1}{α2:Sort u2}{α3:Sort u3}{α4:Sort u4}{p0:α0->α1->Prop}{p1:α0->α1->Prop}{p2:α0->α1->Prop}{t:α0->α1->α2->α3->α4->Prop}(x0:α0)(x1:α1)(h0:p0 x0 x1)(h1:p1 x0 x1)(h2:p2 x0 x1)(x2:α2)(x3:α3)(x4:α4)(h:t x0 x1 x2 x3 x4):∃x0,∃x1,p0 x0 x1/\p1 x0 x1/\p2 x0 x1/\∃x2,∃x3,∃x4,t x0 x1 x2 x3 x4:=⟨x0,x1,h0,h1,h2,x2,x3,x4,h⟩
def rg{α0:Sort u0}{α1:Sort u1}{α2:Sort u2}{α3:Sort u3}{α4:Sort u4}{p0:α0->Prop}{p1:α0->α1->Prop}{p2:α0->α1->α2->α3->Prop}{p3:α0->α1->α2->α3->Prop}{t:α0->α1->α2->α3->α4->Prop}(x0:α0)(h0:p0 x0)(x1:α1)(h1:p1 x0 x1)(x2:α2)(x3:α3)(h2:p2 x0 x1 x2 x3)(h3:p3 x0 x1 x2 x3)(x4:α4)(h:t x0 x1 x2 x3 x4):∃x0,p0 x0/\∃x1,p1 x0 x1/\∃x2,∃x3,p2 x0 x1 x2 x3/\p3 x0 x1 x2 x3/\∃x4,t x0 x1 x2 x3 x4:=⟨x0,h0,x1,h1,x2,x3,h2,h3,x4,h⟩
def u7{α0:Sort u0}{α1:Sort u1}{α2:Sort u2}{α3:Sort u3}{α4:Sort u4}{p0:α0->Prop}{p1:α0->α1->α2->Prop}{p2:α0->α1->α2->Prop}{p3:α0->α1->α2->Prop}{t:α0->α1->α2->α3->α4->Prop}(x0:α0)(h0:p0 x0)(x1:α1)(x2:α2)(h1:p1 x0 x1 x2)(h2:p2 x0 x1 x2)(h3:p3 x0 x1 x2)(x3:α3)(x4:α4)(h:t x0 x1 x2 x3 x4):∃x0,p0 x0/\∃x1,∃x2,p1 x0 x1 x2/\p2 x0 x1 x2/\p3 x0 x1 x2/\∃x3,∃x4,t x0 x1 x2 x3 x4:=⟨x0,h0,x1,x2,h1,h2,h3,x3,x4,h⟩
def yw{α0:Sort u0}{α1:Sort u1}{α2:Sort u2}{α3:Sort u3}{p0:α0->α1->Prop}{p1:α0->α1->Prop}{p2:α0->α1->Prop}{p3:α0->α1->Prop}{p4:α0->α1->α2->Prop}{t:α0->α1->α2->α3->Prop}(x0:α0)(x1:α1)(h0:p0 x0 x1)(h1:p1 x0 x1)(h2:p2 x0 x1)(h3:p3 x0 x1)(x2:α2)(h4:p4 x0 x1 x2)(x3:α3)(h:t x0 x1 x2 x3):∃x0,∃x1,p0 x0 x1/\p1 x0 x1/\p2 x0 x1/\p3 x0 x1/\∃x2,p4 x0 x1 x2/\∃x3,t x0 x1 x2 x3:=⟨x0,x1,h0,h1,h2,h3,x2,h4,x3,h⟩
def nj{α0:Sort u0}{α1:Sort u1}{α2:Sort u2}{α3:Sort u3}{α4:Sort u4}{p0:α0->α1->Prop}{p1:α0->α1->Prop}{p2:α0->α1->Prop}{p3:α0->α1->α2->α3->Prop}{t:α0->α1->α2->α3->α4->Prop}(x0:α0)(x1:α1)(h0:p0 x0 x1)(h1:p1 x0 x1)(h2:p2 x0 x1)(x2:α2)(x3:α3)(h3:p3 x0 x1 x2 x3)(x4:α4)(h:t x0 x1 x2 x3 x4):∃x0,∃x1,p0 x0 x1/\p1 x0 x1/\p2 x0 x1/\∃x2,∃x3,p3 x0 x1 x2 x3/\∃x4,t x0 x1 x2 x3 x4:=⟨x0,x1,h0,h1,h2,x2,x3,h3,x4,h⟩
def qg{α0:Sort u0}{α1:Sort u1}{α2:Sort u2}{α3:Sort u3}{α4:Sort u4}{p0:α0->α1->Prop}{p1:α0->α1->Prop}{p2:α0->α1->α2->α3->Prop}{p3:α0->α1->α2->α3->Prop}{t:α0->α1->α2->α3->α4->Prop}(x0:α0)(x1:α1)(h0:p0 x0 x1)(h1:p1 x0 x1)(x2:α2)(x3:α3)(h2:p2 x0 x1 x2 x3)(h3:p3 x0 x1 x2 x3)(x4:α4)(h:t x0 x1 x2 x3 x4):∃x0,∃x1,p0 x0 x1/\p1 x0 x1/\∃x2,∃x3,p2 x0 x1 x2 x3/\p3 x0 x1 x2 x3/\∃x4,t x0 x1 x2 x3 x4:=⟨x0,x1,h0,h1,x2,x3,h2,h3,x4,h⟩
def Hy{n c:Nat}(h:c<n):n-1-(n-1-c)=c:=by lia
def ajj{n c:Nat}(h:c<n):n-1-c<n:=by lia
def LR{n c:Nat}(h:c<n):((n-1:Nat):Int)-(c:Nat)=((n-1-c:Nat):Int):=by lia
open PySem renaming wpAny_bind->ab,wpAny_pure->ah,wpAny_newObj_type->ck,wpAny_callSpecial?_slot->cu,wpAny_call_entry->dv,codeAny_builtin->fc,wpAny_holding->ff,boot_len->ft,wpAny_truthy_bool->gc,plainId_quiet->gl,wpAny_setState_of->ic,wpAny_seqItems->ig,wpAny_field->iq,wpAny_setField->iz,wpAny_updateSeq->i9,wpAny_mono->jb,mem_of_lookup->jc,wpAny_typeOf->jj,wpAny_rule->jm,wpAny_Call_Name_kw->jn,wpAny_attempt->jv,wpAny_specialOf->jy,wpAny_of_eq->j8,wpAny_tryCatch->kb,wpAny_pyIter_list->kj,wpAny_isInstance->k7,wpAny_forIn_list->k9,wpAny_typeNameOfWhole_keyiter->lg,wpAny_letGo->me
open List renaming length_map->ae,getElem?_eq_getElem->af,mem_of_getElem?->ai,getElem?_eq_some_iff->ak,mem_cons_self->aq,mem_cons_of_mem->ar,mem_map->au,getElem?_map->ax,mem_singleton->ay,mem_cons->a6,take_of_length_le->a8,map_map->bf,length_append->bo,size_toArray->bp,map_append->bq,append_assoc->br,mem_append->bw,length_cons->bx,length_take->cg,range->cj,map_cons->cm,mem_of_mem_take->cx,getElem?_append_right->cz,append_nil->df,map_congr_left->dg,mem_append_right->dq,getD_eq_getElem?_getD->dz,take_append_drop->ei,pairwise_append->e9,mem_iff_getElem?->fg,pairwise_map->fh,getElem_mem->fj,getElem?_take_of_lt->fq,length_range->fu,cons_lt_cons_iff->fw,getElem?_append_left->fy,getElem?_of_mem->f8,not_mem_nil->f9,mem_range->gh,getElem?_drop->gj,pairwise_iff_getElem->gt,pairwise_cons->gu,range_succ->g0,find?_cons->ii,length_drop->ik,getElem?_eq_none->iw,nodup_cons->i7,getElem?_range->jd,length_nil->jl,lookup_cons->jr,all_eq_true->js,mem_of_mem_drop->jt,mem_map_of_mem->jz,drop_zero->j6,mem_append_left->kh,foldl_append->kq,zip_cons_cons->lw,length_singleton->md
open PySem.Heap renaming get?_push_of_some->aj,get?_push_size->a7,lt_size->bb,get?_update_other->b7,SameBut->b9,get?_update_self->ci,ExtBut->kz
open Bool renaming false_ne_true->am,false_eq_true->be,and_eq_true->dw,not_true->i8,eq_iff_iff->ji
open Nat renaming le_refl->ao,ne_of_lt->cf,lt_of_lt_of_le->cw,zero_le->fk,lt_of_le_of_lt->gi,add_le_add_left->gm,min_eq_left->gr,le_trans->gw,le_of_lt->gx,pow_le_pow_right->ie,lt_irrefl->ij,mod_eq_of_lt->io,min_le_left->jk,lt_succ_of_lt->km,pow_succ->kx,mod_lt->ln
open PySem.W renaming Frag->aw,nsIn->cr,mg_none_of->cy,kia_one->i6,mg_of->jh,KatTups->kn,keepIn->lm,fnOf->ma
open Array renaming length_toList->a9,getElem?_toList->bi,getElem?_eq_some_iff->bz,getElem?_eq_getElem->b8,perm_iff_toList_perm->j3,size_extract->j5,getElem?_eq_none->lv
open PyProof.Rows renaming wpS_bind->bh,wpS_pure->bu,callWith_type1->gd,wpS_forRange->gy,slot_tuple_getitem->g9,boot_isinstance->ja,wpS_mono->jf,boot_tuple->j4,boot_sorted->k6
open PySem.PyData renaming depthAll->bj,eqv->bn,eqvAll->db,depth->gk,canLayAll0->iu
open PySem.Str renaming ofString->bm
open Option renaming map_eq_some_iff->ca
open PySem.Around renaming under_plainId->cn
open Int renaming toNat_natCast->da,le_refl->jx,zero_add->ky,emod_lt_of_pos->l7,emod_nonneg->mj
open PySem.Builtin.SmallTypes renaming nextOf->de
open PySem.F renaming plainAttrs_list->dh,slot_list_append->gf,type_list_append->gg,slot_tuple_hash->je,called_set->jq,slot_dict_keyiterator_next->jw,plain_extend_loop->j9,slot_str_ascii_iterator_next->ku,plain_max_loop->k8,plain_min_loop->lh
open List.Pairwise renaming imp_of_mem->eu,sublist->gz
open PySem.Heap.SameBut renaming update->e8
open PySem.Builtin.Tuple renaming tupleHashOf->f7,tupleExact->jo
open Option.some renaming inj->gp
open List.Perm renaming append_left->ir,refl->j7
open PySem.SeqAt.ReadsAll renaming length->ix
open PySem.SetTable renaming insertAt->iy
open Classical renaming byContradiction->jg
open PySem.Obj renaming mapSeq->jp,data_mapFields->l0
open PySem.SeqAt renaming eqv_refl->kc
open PyProof.Rows.Reads renaming keeps->k5
open PySem.Builtin.List renaming listExtendWith->mf
open PySem.Builtin.Builtins renaming bindParams->mh
namespace L2
open PySem PySem.Spec PyProof.Rows
noncomputable abbrev Key:=Sum Int Str
noncomputable def BR:Key->aA->Bool
 | .inl k,v=>aA.isInt k v
 | .inr x,v=>aA.isStrOf x v
noncomputable def a31(w:aN):Key->Int
 | .inl k=>hashInt k
 | .inr x=>eP w x
theorem qx:∀{k:Key} {v:aA},BR k v=true->(∃i t,k=Sum.inl i/\v=aA.int i t)\/(∃x t,k=Sum.inr x/\v=aA.str x t)
 | .inl i,v,h=>by obtain⟨t,e⟩:=aA.isInt_shape (k:=i) (v:=v) h;exact .inl ⟨i,t,rfl,e⟩
 | .inr x,v,h=>by obtain⟨t,e⟩:=aA.isStrOf_shape (x:=x) (v:=v) h;exact .inr ⟨x,t,rfl,e⟩
def al9(i:Int)(t:tU):BR (.inl i) (.int i t)=true:=by simp[BR,aA.isInt]
def aoe(x:Str)(t:tU):BR (.inr x) (.str x t)=true:=by simp[BR,aA.isStrOf]
def azm(a b:Int):decide ((Sum.inl a:Key)=Sum.inl b)=(a==b):=by
 by_cases e:a=b
 .subst e;simp
 .have h:¬(Sum.inl a:Key)=Sum.inl b:=λq=>e<|Sum.inl.inj q;rw[decide_eq_false h];exact(beq_eq_false_iff_ne.mpr e).symm
def azr(a b:Str):decide ((Sum.inr a:Key)=Sum.inr b)=decide (a=b):=by
 by_cases e:a=b
 .subst e;simp
 .have h:¬(Sum.inr a:Key)=Sum.inr b:=λq=>e<|Sum.inr.inj q;rw[decide_eq_false h,decide_eq_false e]
def axo(a:Int)(b:Str):decide ((Sum.inl a:Key)=Sum.inr b)=false:=decide_eq_false λq=>nomatch q
def axw(a:Str)(b:Int):decide ((Sum.inr a:Key)=Sum.inl b)=false:=decide_eq_false λq=>nomatch q
noncomputable def qw(prog:aM)(w:aN):PySem.KeyKind prog w Key where
 is:=BR
 hash:=a31 w
 inj:=λv a b ha hb=>by
  rcases qx ha with ⟨i,t,rfl,rfl⟩|⟨x,t,rfl,rfl⟩
  .rcases qx hb with ⟨j,u,rfl,e⟩|⟨y,u,rfl,e⟩
   .injection e with e1 _;rw[e1]
   .exact nomatch e
  .rcases qx hb with ⟨j,u,rfl,e⟩|⟨y,u,rfl,e⟩
   .exact nomatch e
   .injection e with e1 _;rw[e1]
 byValue:=λk v h=>by rcases qx h with ⟨i,t,rfl,rfl⟩|⟨x,t,rfl,rfl⟩<;>rfl
 pyHash:=λhv h=>by
  rcases qx hv with ⟨i,t,rfl,rfl⟩|⟨x,t,rfl,rfl⟩
  .exact lK h
  .exact lJ h
 eqBool:=λhu hv h=>by
  rcases qx hu with ⟨i,t,rfl,rfl⟩|⟨x,t,rfl,rfl⟩
  .rcases qx hv with ⟨j,u,rfl,rfl⟩|⟨y,u,rfl,rfl⟩
   .rw[azm]at h;exact wpAny_eqBool_int h
   .rw[axo]at h;exact SeqAt.EqAt.int_str i t y u _ _ _ _ h
  .rcases qx hv with ⟨j,u,rfl,rfl⟩|⟨y,u,rfl,rfl⟩
   .rw[axw]at h;exact SeqAt.EqAt.str_int x t j u _ _ _ _ h
   .rw[azr]at h;exact wpAny_eqBool_str h
 «strs»:=λk x t v h=>by
  rcases qx h with ⟨i,u,rfl,e⟩|⟨y,u,rfl,e⟩
  .exact nomatch e
  .injection e with e1 _
   subst e1;cases v<;>rfl
def ahj(prog:aM)(w:aN)(i:Int)(t:tU):(qw prog w).is (.inl i) (.int i t)=true:=al9 i t
def ab6(prog:aM)(w:aN)(x:Str)(t:tU):(qw prog w).is (.inr x) (.str x t)=true:=aoe x t
inductive V where
 | non|bl (b:Bool)|int (i:Int)|str (x:Str)|byt (b:Array UInt8)|flt (b:UInt64)|ref (a:aG)|ty (n:String)
 deriving DecidableEq
def RelV:V->aA->Prop
 | .non,u=>u=aA.none
 | .bl b,u=>u=aA.bool b
 | .int i,u=>∃t,u=aA.int i t
 | .str x,u=>∃t,u=aA.str x t
 | .byt b,u=>∃t,u=aA.bytes b t
 | .flt b,u=>∃t,u=aA.float b t
 | .ref a,u=>u=aA.ref a
 | .ty n,u=>u=aA.type n
noncomputable abbrev Vals:Z V->Z aA->Prop:=cH RelV
theorem Vals.length{xs:Z V}{us:Z aA}(r:Vals xs us):xs.length=us.length:=cH.length r
theorem Vals.get:∀{xs:Z V} {us:Z aA} {i:Nat} {x:V},Vals xs us->xs[i]?=some x->∃u,us[i]?=some u/\RelV x u
 | _,_,_,_,.nil,e=>by simp at e
 | _,_,0,_,.cons r _,e=>by simp at e;subst e;exact⟨_,rfl,r⟩
 | _,_,i+1,x,.cons _ t,e=>by obtain⟨u,h1,h2⟩:=Vals.get (i:=i) (x:=x) t (by simpa using e);exact⟨u,by simpa using h1,h2⟩
theorem Vals.append:∀{xs ys:Z V} {us ws:Z aA},Vals xs us->Vals ys ws->Vals (xs++ys) (us++ws)
 | _,_,_,_,.nil,s=>s
 | _,_,_,_,.cons r t,s=>.cons r<|Vals.append t s
theorem Vals.take:∀{xs:Z V} {us:Z aA} (n:Nat),Vals xs us->Vals (xs.take n) (us.take n)
 | _,_,0,_=>.nil
 | _,_,_+1,.nil=>.nil
 | _,_,n+1,.cons r t=>.cons r<|Vals.take n t
theorem Vals.drop:∀{xs:Z V} {us:Z aA} (n:Nat),Vals xs us->Vals (xs.drop n) (us.drop n)
 | _,_,0,r=>r
 | _,_,_+1,.nil=>.nil
 | _,_,n+1,.cons _ t=>Vals.drop n t
def RelO:Option V->Option aA->Prop
 | some v,some u=>RelV v u
 | none,none=>True
 | _,_=>False
def KV{κ:Type}:Z (κ×V)->Z (κ×aA)->Prop:=cH λ(p:κ×V) (q:κ×aA)=>p.1=q.1/\RelV p.2 q.2
noncomputable def kV:Key->V
 | .inl i=>.int i
 | .inr x=>.str x
inductive HO where
 | lst (xs:Z V)
 | tup (xs:Z V)
 | dK (kvs:Z (Key×V))|dT (kvs:Z (Z Key×V))
 | set (S:Int->Bool) (n:Nat)
 | ins (C dx:aG) (fs:Z (Str×V))
 | own (x:aG)
 | xd (fs:Z (Str×V))
 | met (f x:aG)
 | rng (lo hi:Int)
 | frz (o:Obj) (u:HO)
 | tbl (ps:Array aA)
 | ext (φ:Heap->Prop)
noncomputable abbrev Hp:=aG->Option HO
noncomputable def upd(H:Hp)(a:aG)(o:HO):Hp:=λb=>if b=a then some o else H b
def m8{H:Hp}{a:aG}{o:HO}:upd H a o a=some o:=by unfold upd;rw[if_pos rfl]
def p8{H:Hp}{a b:aG}{o:HO}(h:b≠a):upd H a o b=H b:=by unfold upd;rw[if_neg h]
def Ld{H:Hp}{a b:aG}{o u:HO}(h:H a=some o)(h':H b=some u)(d:o≠u):a≠b:=by intro e;subst e;rw[h]at h';exact d<|gp h'
def rh{H:Hp}{a b:aG}{o:HO}(h:H a=some o)(h':H b=none):a≠b:=by intro e;subst e;rw[h]at h';cases h'
section
variable(P:aM)(w:aN)
def ObjOk(H:Hp)(h:Heap)(a:aG):HO->Prop
 | .lst xs=>xs.length<=aF/\∃(its:Z aA)(n:Nat),Vals xs its/\h.get? a=some {cls:=.type "list",data:=.seq its.toArray n}
 | .tup xs=>xs.length<=aF/\∃its:Z aA,Vals xs its/\lB h a its.toArray
 | .dK kvs=>kvs.length<=aF/\(a==bE)=false/\∃vs,KV kvs vs/\h.DictOf (qw P w) a vs
 | .dT kvs=>kvs.length<=aF/\(a==bE)=false/\∃xs:Z (Z Key×aG×aA),
   cH (λ(p:Z Key×V) (q:Z Key×aG×aA)=>p.1=q.1/\H q.2.1=some (.tup<|p.1.map kV)/\RelV p.2 q.2.2) kvs xs/\
   ∃o es ep,h.get? a=some o/\o.ExactDict/\o.data=.dict es ep/\es.toList=xs.map (entryOfKey<|iI<|qw P w)/\(xs.map (·.1)).Nodup
 | .set S n=>h.SetOf (intKind P w) a S n
 | .ins C dx fs=>H dx=some (.own a)/\fs.length<=1000/\dx≠a/\h.get? a=some (PySem.W.instObj C dx)/\
   ∃mA,h.Ns1 dx mA/\(∀f,RelO (fs.lookup f)<|mA f)/\PySem.Within mA (fs.map (·.1))
 | .own _=>∃o,h.get? a=some o
 | .xd fs=>∃mA,h.Ns1 a mA/\∀f,RelO (fs.lookup f) (mA f)
 | .rng lo hi=>∃t u v,h.get? a=some {cls:=.type "range",data:=.fields #[.int lo t,.int hi u,.int 1 v]}
 | .frz o u=>h.get? a=some o/\ObjOk H h a u
 | .tbl ps=>h.get? a=some {cls:=.none,data:=.fields ps}
 | .met f x=>h.get? a=some (PySem.W.methodObj (.ref f)<|.ref x)
 | .ext φ=>φ h/\(∃o,h.get? a=some o)/\∀h1 h2:Heap,φ h1->(∀o,h1.get? a=some o->h2.get? a=some o)->φ h2
def HOk(H:Hp)(h:Heap):Prop:=∀a o,H a=some o->ObjOk P w H h a o
end
section
variable{P:aM}{w:aN}{H H':Hp}{h h':Heap}{a:aG}{o:HO}
theorem ObjOk.lt(x:ObjOk P w H h a o):a<h.objs.size:=by
 cases o with
 | lst xs=>obtain⟨_,_,_,_,e⟩:=x;exact bb e
 | tup xs=>obtain⟨_,_,_,p⟩:=x;exact p.lt
 | dK kvs=>obtain⟨_,_,_,_,o,_,_,e,_⟩:=x;exact bb e
 | dT kvs=>obtain⟨_,_,_,_,o,_,_,e,_⟩:=x;exact bb e
 | set S n=>obtain⟨o,_,_,_,e,_⟩:=x;exact bb e
 | ins C dx fs=>obtain⟨_,_,_,e,_⟩:=x;exact bb e
 | own y=>obtain⟨_,e⟩:=x;exact bb e
 | xd fs=>obtain⟨_,⟨_,_,_,e,_⟩,_⟩:=x;exact bb e
 | rng lo hi=>obtain⟨_,_,_,e⟩:=x;exact bb e
 | frz ob u=>obtain⟨e,_⟩:=x;exact bb e
 | tbl ps=>exact bb (show h.get? a=some _ from x)
 | met f y=>exact bb (show h.get? a=some _ from x)
 | ext φ=>obtain⟨_,⟨_,e⟩,_⟩:=x;exact bb e
theorem cH.mapP{α β:Type}{F G:α->β->Prop}:∀{l₁:List α} {l₂:List β},cH F l₁ l₂->(∀a b,F a b->G a b)->cH G l₁ l₂
 | _,_,.nil,_=>.nil
 | _,_,.cons r t,f=>.cons (f _ _ r)<|cH.mapP t f
theorem ObjOk.stay(x:ObjOk P w H h a o)(k:∀b u,(b=a\/H b=some (.own a))->h.get? b=some u->h'.get? b=some u)
  (ho:∀b,H b=some (.own a)->H' b=some (.own a)) (ht:∀b xs,H b=some (.tup xs)->H' b=some (.tup xs)):ObjOk P w H' h' a o:=by
 induction o with
 | lst xs=>obtain⟨z,its,n,r,e⟩:=x;exact⟨z,its,n,r,k _ _ (.inl rfl) e⟩
 | tup xs=>obtain⟨z,its,r,ob,e,c⟩:=x;exact⟨z,its,r,ob,k _ _ (.inl rfl) e,c⟩
 | dK kvs=>obtain⟨z,y,vs,r,ob,es,ep,e,c⟩:=x;exact⟨z,y,vs,r,ob,es,ep,k _ _ (.inl rfl) e,c⟩
 | dT kvs=>
  obtain⟨z,y,xs,r,ob,es,ep,e,c⟩:=x;exact⟨z,y,xs,cH.mapP r λp q z=>⟨z.1,ht _ _ z.2.1,z.2.2⟩,ob,es,ep,k _ _ (.inl rfl) e,c⟩
 | set S n=>obtain⟨ob,es,ep,t,e,c⟩:=x;exact⟨ob,es,ep,t,k _ _ (.inl rfl) e,c⟩
 | ins C dx fs=>
  obtain⟨d,z,ne,e,mA,⟨od,es,ep,e2,c⟩,r⟩:=x;exact⟨ho _ d,z,ne,k _ _ (.inl rfl) e,mA,⟨od,es,ep,k _ _ (.inr d) e2,c⟩,r⟩
 | own y=>obtain⟨ob,e⟩:=x;exact⟨ob,k _ _ (.inl rfl) e⟩
 | xd fs=>obtain⟨mA,⟨od,es,ep,e,c⟩,r⟩:=x;exact⟨mA,⟨od,es,ep,k _ _ (.inl rfl) e,c⟩,r⟩
 | rng lo hi=>obtain⟨t,u,v,e⟩:=x;exact⟨t,u,v,k _ _ (.inl rfl) e⟩
 | frz ob u ih=>obtain⟨e,q⟩:=x;exact⟨k _ _ (.inl rfl) e,ih q⟩
 | tbl ps=>
  have e:h.get? a=some {cls:=.none,data:=.fields ps}:=x;show h'.get? a=some {cls:=.none,data:=.fields ps};exact k a _ (.inl rfl) e
 | met f y=>
  have e:h.get? a=some (PySem.W.methodObj (.ref f)<|.ref y):=x;show h'.get? a=some (PySem.W.methodObj (.ref f)<|.ref y);exact k a _ (.inl rfl) e
 | ext φ=>obtain⟨p,⟨o,e⟩,st⟩:=x;exact⟨st _ _ p λo q=>k _ _ (.inl rfl) q,⟨o,k _ _ (.inl rfl) e⟩,st⟩
theorem HOk.lt(x:HOk P w H h)(e:H a=some o):a<h.objs.size:=(x a o e).lt
theorem HOk.fresh(x:HOk P w H h)(e:h.objs.size<=a):H a=none:=by
 cases q:H a with
 | none=>rfl
 | some u=>exact absurd (cw (x.lt q) e)<|ij _
def HOk.kept(x:HOk P w H h)(k:∀b u,h.get? b=some u->h'.get? b=some u):HOk P w H h':=λa o e=>
 (x a o e).stay (λb u _ q=>k b u q) (λ_ q=>q) λ_ _ q=>q
def HOk.laid(x:HOk P w H h)(k:∀b u,h.get? b=some u->h'.get? b=some u)(hp:h.objs.size<=a)(new:ObjOk P w (upd H a o) h' a o):HOk P w (upd H a o) h':=λb u e=>by
 have hn:=x.fresh hp;by_cases hb:b=a
 .subst hb;rw[m8]at e;cases e;exact new
 .rw[p8 hb]at e;exact(x b u e).stay (λc v _ q=>k c v q) (λc q=>by rw[p8 (rh q hn)];exact q) λc xs q=>by rw[p8 (rh q hn)];exact q
end
def Rd(H:Hp)(a:aG)(u:HO):Prop:=H a=some u\/∃o,H a=some (.frz o u)
def Rd.ok{P:aM}{w:aN}{H:Hp}{h:Heap}{a:aG}{u:HO}(r:Rd H a u)(x:HOk P w H h):ObjOk P w H h a u:=by
 rcases r with r|⟨o,r⟩
 .exact x a u r
 .obtain⟨_,q⟩:=x a _ r;exact q
def Mut:Option HO->Prop
 | some (.lst _)=>True
 | some (.dK _)=>True
 | some (.dT _)=>True
 | some (.set _ _)=>True
 | some (.ins _ _ _)=>True
 | some (.ext _)=>True
 | _=>False
section
variable{P:aM}{w:aN}{H:Hp}{h h':Heap}{x e:aG}{o':HO}
def HOk.write(ok:HOk P w H h)(mu:Mut (H x))(he:e=x\/H e=some (.own x))(k:∀b u,b≠e->h.get? b=some u->h'.get? b=some u)(Bc:∃u,h'.get? e=some u)
  (new:ObjOk P w (upd H x o') h' x o'):HOk P w (upd H x o') h':=λb u q=>by
 have CF:∀c y,H c=some (.own y)->c≠x:=λc y r z=>by subst z;rw[r]at mu;exact mu
 have Iz:∀c xs,H c=some (.tup xs)->c≠x:=λc xs r z=>by subst z;rw[r]at mu;exact mu
 by_cases hb:b=x
 .subst hb;rw[m8]at q;cases q;exact new
 .rw[p8 hb]at q;by_cases zY:b=e
  .have q':H b=some (.own x):=by
    rcases he with z|z
    .exact absurd (zY.trans z) hb
    .rw[zY];exact z
   rw[q]at q';cases q';obtain⟨v,hv⟩:=Bc;exact⟨v,by rw[zY];exact hv⟩
  .refine(ok b u q).stay (λc v hc r=>k c v ?_ r) (λc r=>by rw[p8 (CF c b r)];exact r) λc xs r=>by rw[p8 (Iz c xs r)];exact r
   rcases hc with rfl|hc
   .exact zY
   .rintro rfl;rcases he with z|z
    .exact CF c b hc z
    .rw[hc]at z;cases z;exact hb rfl
end
structure Un(fs ex:Z aG)(H H':Hp)(h h':Heap):Prop where
 keep:∀b o,h.get? b=some o->H b=none->b∉fs->b∉ex->h'.get? b=some o
 slot:∀b o,h.get? b=some o->H b=none->b∈fs->b∉ex->∃sl,h'.get? b=some {o with slots:=sl}
 free:∀b o,h.get? b=some o->H b=none->b∉ex->H' b=none
 there:∀b o,h.get? b=some o->b∉ex->∃o',h'.get? b=some o'
 tups:∀b xs,H b=some (.tup xs)->H' b=some (.tup xs)
 frzs:∀b o u,H b=some (.frz o u)->H' b=some (.frz o u)
 tbls:∀b ps,H b=some (.tbl ps)->∃more,H' b=some (.tbl<|ps++more)
section
variable{fs fs' ex ex':Z aG}{H H1 H2:Hp}{h h1 h2 h':Heap}{a x e:aG}{o:HO}
def Un.any(u:Un fs ex H H1 h h1){b:aG}{ob:Obj}(q:h.get? b=some ob)(n:H b=none)(hx:b∉ex):∃sl,h1.get? b=some {ob with slots:=sl}:=by
 by_cases hb:b∈fs
 .exact u.slot b ob q n hb hx
 .exact⟨ob.slots,u.keep b ob q n hb hx⟩
def Un.kept(k:∀b u,h.get? b=some u->h'.get? b=some u):Un fs ex H H h h':=
 ⟨λb ob q _ _ _=>k b ob q,λb ob q _ _ _=>⟨ob.slots,k b ob q⟩,λ_ _ _ n _=>n,λb ob q _=>⟨ob,k b ob q⟩,λ_ _ q=>q,λ_ _ _ q=>q,λ_ ps q=>⟨#[],by rw[q];simp⟩⟩
def Un.refl:Un fs ex H H h h:=Un.kept λ_ _ q=>q
def Un.laid(k:∀b u,h.get? b=some u->h'.get? b=some u)(hp:h.objs.size<=a)(hn:H a=none):Un fs ex H (upd H a o) h h' where
 keep:=λb u q _ _ _=>k b u q
 slot:=λb u q _ _ _=>⟨u.slots,k b u q⟩
 free:=λb u q n _=>by rw[p8 (cf<|cw (bb q) hp)];exact n
 there:=λb u q _=>⟨u,k b u q⟩
 tups:=λb xs q=>by rw[p8 (rh q hn)];exact q
 frzs:=λb u xs q=>by rw[p8 (rh q hn)];exact q
 tbls:=λb ps q=>⟨#[],by rw[p8 (rh q hn),q];simp⟩
def Un.write(mu:Mut (H x))(he:e=x\/H e=some (.own x))(k:∀b u,b≠e->h.get? b=some u->h'.get? b=some u)(Bc:∃u,h'.get? e=some u):Un fs ex H (upd H x o) h h':=by
 have hx:∀b,H b=none->b≠x:=λb n z=>by subst z;rw[n]at mu;exact mu
 have hb:∀b,H b=none->b≠e:=λb n z=>by
  subst z;rcases he with r|r
  .exact hx b n r
  .rw[n]at r;cases r
 have hm:∀b u,H b=some u->¬Mut (some u)->b≠x:=λb u q nm z=>by subst z;rw[q]at mu;exact nm mu
 refine⟨λb u q n _ _=>k b u (hb b n) q,λb u q n _ _=>⟨u.slots,k b u (hb b n) q⟩,λb u q n _=>by rw[p8 (hx b n)];exact n,λb u q _=>?_,
  λb xs q=>by rw[p8 (hm b _ q λz=>z)];exact q,λb u xs q=>by rw[p8 (hm b _ q λz=>z)];exact q,λb ps q=>⟨#[],by rw[p8 (hm b _ q λz=>z),q];simp⟩⟩
 by_cases zY:b=e
 .subst zY;exact Bc
 .exact⟨u,k b u zY q⟩
end
noncomputable def trk(h:Heap)(H:Hp):Z aG:=(cj h.objs.size).filter λa=>(H a).isSome
noncomputable def wG(h:Heap)(H:Hp):Heap:=PySem.W.hideAll h<|trk h H
def alu(h:Heap)(H:Hp):(wG h H).objs.size=h.objs.size:=PySem.W.hideAll_size _ _
def aqx{h:Heap}{H:Hp}{b:aG}{o:Obj}(e:h.get? b=some o)(n:H b=none):(wG h H).get? b=some o:=
 PySem.W.hideAll_get _ e λhm=>by have q:(H b).isSome=true:=(List.mem_filter.mp hm).2;rw[n]at q;simp at q
theorem awn{h:Heap}{H:Hp}{b:aG}{o:Obj}(e:(wG h H).get? b=some o):h.get? b=some o/\H b=none:=by
 have e':h.get? b=some o:=PySem.W.of_hideAll (trk h H) e;refine⟨e',?_⟩;cases q:H b with
 | none=>rfl
 | some x=>
  have hm:b∈trk h H:=List.mem_filter.mpr ⟨gh.mpr<|bb e',by simp[q]⟩;have z:(wG h H).get? b=none:=PySem.W.hideAll_none (trk h H) hm;rw[z]at e;cases e
structure Mod(K:aw)(mg:Str->Option aA)(base:Heap):Prop where
 kin:K.In base
 glob:base.Ns aP mg
 blt:∃mb,base.Ns Bs mb/\∀x:Str,x≠"__name__"->mb x=bJ x
 nolimit:base.NoLimit
structure Cx where
 prog:aM
 w:aN
 K:aw
 mg:Str->Option aA
 base:Heap
 A:Around
 N:Z Str
 s₀:aB
 H₀:Hp
 env:oX
 outer:Z oX
 stack:Z oX
 ex:Z aG
 fn:Str->Bool
 calm:Bool
 pn:Z (aG×Obj)
 xe:aA->aB->Prop
noncomputable def frs(l:Z oX):Z aG:=l.filterMap (·.frame)
noncomputable abbrev Cx.fs(X:Cx):Z aG:=frs X.outer
def Vis(sc:cG)(x:Str):Prop:=sc.names.lookup x=some .local\/sc.names.lookup x=some .cell\/sc.names.lookup x=some .free
def Loc(sc:cG)(x:Str):Prop:=sc.names.lookup x=some .local\/sc.names.lookup x=some .cell
def a3j(env:oX)(h:Heap)(m:Str->Option aA)(x:Str)(u:aA):Prop:=
 (env.kindOf x=some .local/\m x=some u)\/((env.kindOf x=some .cell\/env.kindOf x=some .free)/\∃c,env.cells.lookup x=some c/\h.IsCell c (some u))
structure Cx.Ok(X:Cx):Prop where
 mod:Mod X.K X.mg X.base
 kind:X.env.scope.kind=.function
 glob:X.env.globals=aP
 blt:X.env.builtins=Bs
 above:X.s₀.heap.objs.size<=X.env.locals
 inj:∀x y c,X.env.cells.lookup x=some c->X.env.cells.lookup y=some c->x=y
 has:∀x,(X.env.kindOf x=some .cell\/X.env.kindOf x=some .free)->∃c,X.env.cells.lookup x=some c
 cab:∀x c,X.fn x=true->X.env.cells.lookup x=some c->X.s₀.heap.objs.size<=c
 hd:X.calm=true->X.A.handled=none
 frames:X.A.frames=some X.stack
 stk:X.stack=X.outer\/(X.stack=X.env::X.outer/\X.env.frame=some X.env.locals)
 exf:∀b∈X.ex,b≠X.env.locals/\∀x c,X.env.cells.lookup x=some c->c≠b
 bs:∀b o,X.base.get? b=some o->X.s₀.heap.get? b=some o/\X.H₀ b=none
 bsz:X.base.objs.size<=X.s₀.heap.objs.size
 noex:∀b o,X.base.get? b=some o->b∉X.ex
 exfs:∀b∈X.ex,b∉X.fs
 funs:X.s₀.heap.FunFrames X.base X.outer
 frf:∀b∈X.fs,X.H₀ b=none
structure Inv(X:Cx)(aC:Z (aG×Obj))(σ:Z (Option V))(H:Hp)(s:aB):Prop where
 ok:X.Ok
 os:s.os=X.s₀.os
 bare:gI s.gens
 base:Un X.fs X.ex X.H₀ H X.s₀.heap s.heap
 loc:∃m,s.heap.Ns X.env.locals m/\∀(i:Nat)(x:Str)(v:V),X.N[i]?=some x->σ[i]?=some (some v)->Vis X.env.scope x->∃u,RelV v u/\a3j X.env s.heap m x u
 cell:∀x c,X.env.cells.lookup x=some c->∃v,s.heap.IsCell c v
 free:H X.env.locals=none
 freeC:∀x c,X.env.cells.lookup x=some c->H c=none
 pin:∀p∈X.pn++aC,s.heap.get? p.1=some p.2/\H p.1=none/\p.1≠X.env.locals/\p.1∉X.fs/\∀v,p.2.data≠.cell v
 hok:HOk X.prog X.w H s.heap
 len:σ.length=X.N.length
section
variable{X:Cx}{aC:Z (aG×Obj)}{σ:Z (Option V)}{H H':Hp}{s:aB}{h':Heap}
def Cx.Ok.nofr(ok:X.Ok){b:aG}{o:Obj}(e:X.base.get? b=some o):b∉X.fs:=λhb=>by have:=(ok.funs.mem hb).1;rw[e]at this;cases this
theorem Inv.bs(I:Inv X aC σ H s):∀b o,X.base.get? b=some o->s.heap.get? b=some o/\H b=none:=λb o e=>
 ⟨I.base.keep b o (I.ok.bs b o e).1 (I.ok.bs b o e).2 (I.ok.nofr e) (I.ok.noex b o e),I.base.free b o (I.ok.bs b o e).1 (I.ok.bs b o e).2 (I.ok.noex b o e)⟩
def Inv.bk(I:Inv X aC σ H s):∀b o,X.base.get? b=some o->s.heap.get? b=some o:=λb o e=>(I.bs b o e).1
theorem Inv.mod(I:Inv X aC σ H s):Mod X.K X.mg X.base:=I.ok.mod
def Inv.kIn(I:Inv X aC σ H s):X.K.In s.heap:=I.ok.mod.kin.keeps I.bk
theorem Inv.lt(I:Inv X aC σ H s):X.env.locals<s.heap.objs.size:=let ⟨_,hn,_⟩:=I.loc;hn.lt
def Inv.sz(I:Inv X aC σ H s):X.s₀.heap.objs.size<=s.heap.objs.size:=gw I.ok.above<|gx I.lt
def Inv.nofs(I:Inv X aC σ H s){a:aG}(h:s.heap.objs.size<=a):a∉X.fs:=λhb=>by obtain⟨_,o,ho,_⟩:=I.ok.funs.mem hb;exact absurd (cw (bb ho)<|gw I.sz h)<|ij _
def Inv.cne(I:Inv X aC σ H s):∀x c,X.env.cells.lookup x=some c->c≠X.env.locals:=λx c e z=>by obtain⟨v,o,ho,hd⟩:=I.cell x c e;obtain⟨m,⟨o',es,ep,sR,vW,_⟩,_⟩:=I.loc;rw[z,sR]at ho;cases ho;rw[vW]at hd;cases hd
theorem Inv.funs(I:Inv X aC σ H s):s.heap.FunFrames X.base X.outer:=by
 have all:∀(l:Z oX),(∀b∈frs l,b∈X.fs)->X.s₀.heap.FunFrames X.base l->s.heap.FunFrames X.base l:=by
  intro l;induction l with
  | nil=>intro _ _;trivial
  | cons env r ih=>
   intro hs hl;obtain⟨hk,⟨L,o,hf,hn,ho,hd⟩,hr⟩:=hl;have hL:L∈X.fs:=hs L (by unfold frs;rw[List.filterMap_cons,hf];exact aq);obtain⟨sl,e⟩:=I.base.slot L o ho (I.ok.frf L hL) hL λz=>I.ok.exfs L z hL;exact⟨hk,⟨L,_,hf,hn,e,hd⟩,ih (λb hb=>hs b<|by unfold frs;rw[List.filterMap_cons,hf];exact ar _ hb) hr⟩
 exact all X.outer (λ_ hb=>hb) I.ok.funs
theorem Inv.stack(I:Inv X aC σ H s):s.heap.FunFrames X.base X.stack:=by
 rcases I.ok.stk with e|⟨e,hf⟩
 .rw[e];exact I.funs
 .rw[e];obtain⟨m,hn,_⟩:=I.loc;refine .cons (by rw[I.ok.kind];decide) hf hn ?_ I.funs;exact Heap.get?_none_of_le<|gw I.ok.bsz I.ok.above
def Inv.stkSub(I:Inv X aC σ H s):∀b∈frs X.stack,b∈X.env.locals::X.fs:=λb hb=>by
 rcases I.ok.stk with e|⟨e,hf⟩
 .rw[e]at hb;exact ar _ hb
 .rw[e]at hb;unfold frs at hb;rw[List.filterMap_cons,hf]at hb;exact hb
def Inv.stkFree(I:Inv X aC σ H s):∀b∈frs X.stack,H b=none:=λb hb=>by
 rcases a6.mp (I.stkSub b hb)with e|hb
 .rw[e];exact I.free
 .obtain⟨_,o,ho,_⟩:=I.ok.funs.mem hb;exact I.base.free b o ho (I.ok.frf b hb) λz=>I.ok.exfs b z hb
def Inv.step{g':Array iH}{t':Nat}{d':Drawn}{ch:Z aG}(I:Inv X aC σ H s)
  (pN:∀b∈ch,(b∈X.ex\/X.s₀.heap.objs.size<=b)/\b≠X.env.locals/\(∀x c,X.env.cells.lookup x=some c->c≠b)/\∀p∈X.pn++aC,p.1≠b)
  (keep:∀b o,b≠X.env.locals->b∉X.fs->b∉ch->s.heap.get? b=some o->H b=none->h'.get? b=some o)
  (slot:∀b o,b≠X.env.locals->b∈X.fs->b∉ch->s.heap.get? b=some o->H b=none->∃sl,h'.get? b=some {o with slots:=sl}) (free:∀b o,b∉ch->s.heap.get? b=some o->H b=none->H' b=none)
  (there:∀b o,b∉ch->s.heap.get? b=some o->∃o',h'.get? b=some o')
  (tups:∀b xs,H b=some (.tup xs)->H' b=some (.tup xs)) (frzs:∀b o u,H b=some (.frz o u)->H' b=some (.frz o u)) (tbls:∀b ps,H b=some (.tbl ps)->∃more,H' b=some (.tbl<|ps++more))
  (ns:∀m,s.heap.Ns X.env.locals m->h'.Ns X.env.locals m) (hok:HOk X.prog X.w H' h') (hg:gI g') :
  Inv X aC σ H' {s with heap:=h',gens:=g',drawn:=d',toks:=t'}:=by
 have neL:∀b o,X.s₀.heap.get? b=some o->b≠X.env.locals:=λb o e=>cf<|cw (bb e) I.ok.above;have Fj:∀b o,X.s₀.heap.get? b=some o->b∉X.ex->b∉ch:=λb o e hx hb=>by
  rcases(pN b hb).1 with z|z
  .exact hx z
  .exact absurd (cw (bb e) z)<|ij _
 have xQ:∀x c,X.env.cells.lookup x=some c->∀v,s.heap.IsCell c v->h'.IsCell c v:=λx c e v ⟨o,ho,hd⟩=>by
  have CI:c∉ch:=λz=>(pN c z).2.2.1 x c e rfl;by_cases hc:c∈X.fs
  .obtain⟨sl,q⟩:=slot c o (I.cne x c e) hc CI ho<|I.freeC x c e;exact⟨_,q,hd⟩
  .exact⟨o,keep c o (I.cne x c e) hc CI ho<|I.freeC x c e,hd⟩
 refine⟨I.ok,I.os,hg,⟨λb o e n hb hx=>?_,λb o e n hb hx=>?_,λb o e n hx=>?_,λb o e hx=>?_,λb xs e=>tups b xs<|I.base.tups b xs e,λb o xs e=>frzs b o xs<|I.base.frzs b o xs e,λb ps e=>?_⟩,?_,λx c e=>?_,?_,λx c e=>?_,λp hp=>?_,hok,I.len⟩
 .exact keep b o (neL b o e) hb (Fj b o e hx) (I.base.keep b o e n hb hx)<|I.base.free b o e n hx
 .obtain⟨sl,e1⟩:=I.base.slot b o e n hb hx;obtain⟨sl',e2⟩:=slot b _ (neL b o e) hb (Fj b o e hx) e1<|I.base.free b o e n hx;exact⟨sl',e2⟩
 .obtain⟨o',e1⟩:=I.base.there b o e hx;exact free b o' (Fj b o e hx) e1<|I.base.free b o e n hx
 .obtain⟨o',e1⟩:=I.base.there b o e hx;exact there b o' (Fj b o e hx) e1
 .obtain⟨m1,e1⟩:=I.base.tbls b ps e;obtain⟨m2,e2⟩:=tbls b _ e1;exact⟨m1++m2,by rw[e2,Array.append_assoc]⟩
 .obtain⟨m,hn,hl⟩:=I.loc;refine⟨m,ns m hn,λi x v e1 e2 e3=>?_⟩;obtain⟨u,r,l⟩:=hl i x v e1 e2 e3;refine⟨u,r,?_⟩;rcases l with l|⟨k,c,e,z⟩
  .exact .inl l
  .exact .inr ⟨k,c,e,xQ x c e _ z⟩
 .obtain⟨v,z⟩:=I.cell x c e;exact⟨v,xQ x c e v z⟩
 .obtain⟨m,⟨o,_,_,ho,_⟩,_⟩:=I.loc;exact free _ o (λz=>(pN _ z).2.1 rfl) ho I.free
 .obtain⟨v,o,ho,hd⟩:=I.cell x c e;exact free c o (λz=>(pN c z).2.2.1 x c e rfl) ho<|I.freeC x c e
 .obtain⟨e,n,ne,nf,d⟩:=I.pin p hp;have CI:p.1∉ch:=λz=>(pN p.1 z).2.2.2 p hp rfl;exact⟨keep p.1 p.2 ne nf CI e n,free p.1 p.2 CI e n,ne,nf,d⟩
def Inv.un{t':Nat}(I:Inv X aC σ H s)(u:Un X.fs [] H H' s.heap h')(hok:HOk X.prog X.w H' h'):Inv X aC σ H' {s with heap:=h',toks:=t'}:=by
 obtain⟨m,⟨o,es,ep,ho,r⟩,_⟩:=id I.loc;obtain⟨sl,hL⟩:=u.any ho I.free (by simp);exact I.step (g':=s.gens) (d':=s.drawn) (ch:=[]) (λ_ z=>nomatch z) (λb o _ hb _ e n=>u.keep b o e n hb<|by simp) (λb o _ hb _ e n=>u.slot b o e n hb<|by simp) (λb o _ e n=>u.free b o e n<|by simp) (λb o _ e=>u.there b o e<|by simp) u.tups u.frzs u.tbls (λm' hm=>by obtain⟨o',qP,KB,sR,r'⟩:=hm;rw[ho]at sR;cases sR;exact⟨_,qP,KB,hL,r'⟩) hok I.bare
def Inv.call{g':Array iH}{t':Nat}{d':Drawn}{ch:Z aG}(I:Inv X aC σ H s)(u:Un (frs X.stack) ch H H' s.heap h')(hok:HOk X.prog X.w H' h')(hg:gI g')
  (pN:∀b∈ch,(b∈X.ex\/X.s₀.heap.objs.size<=b)/\b≠X.env.locals/\(∀x c,X.env.cells.lookup x=some c->c≠b)/\∀p∈X.pn++aC,p.1≠b) :
  Inv X aC σ H' {s with heap:=h',gens:=g',drawn:=d',toks:=t'}:=by
 obtain⟨m,⟨o,es,ep,ho,r⟩,_⟩:=id I.loc;obtain⟨sl,hL⟩:=u.any ho I.free λz=>(pN _ z).2.1 rfl;exact I.step (ch:=ch) pN (λb o hL hb hc e n=>u.keep b o e n (λz=>(a6.mp<|I.stkSub b z).elim hL hb) hc) (λb o _ _ hc e n=>u.any e n hc) (λb o hc e n=>u.free b o e n hc) (λb o hc e=>u.there b o e hc) u.tups u.frzs u.tbls (λm' hm=>by obtain⟨o',qP,KB,sR,r'⟩:=hm;rw[ho]at sR;cases sR;exact⟨_,qP,KB,hL,r'⟩) hok hg
def Inv.turned{t':Nat}{it:aG}(I:Inv X aC σ H s)(k:∀b o,b≠it->s.heap.get? b=some o->h'.get? b=some o)(hn:H it=none)(hL:it≠X.env.locals)
  (h1:it∈X.ex\/X.s₀.heap.objs.size<=it) (h2:∀x c,X.env.cells.lookup x=some c->c≠it) (h3:∀p∈X.pn++aC,p.1≠it):Inv X aC σ H {s with heap:=h',toks:=t'}:=by
 have nit:∀b u,H b=some u->b≠it:=λb u e z=>by rw[z,hn]at e;cases e
 refine I.step (g':=s.gens) (d':=s.drawn) (ch:=[it]) (λb hb=>?_) (λb o _ _ hc e _=>k b o (λz=>hc<|by simp[z]) e) (λb o _ _ hc e _=>⟨o.slots,k b o (λz=>hc<|by simp[z]) e⟩) (λ_ _ _ _ n=>n)
  (λb o hc e=>⟨o,k b o (λz=>hc<|by simp[z]) e⟩) (λ_ _ e=>e) (λ_ _ _ e=>e) (λb ps e=>⟨#[],by rw[e];simp⟩) (λm hm=>?_) (λb u e=>?_) I.bare
 .have e:b=it:=by simpa using hb
  subst e;exact⟨h1,hL,h2,h3⟩
 .obtain⟨o,es,ep,ho,r⟩:=hm;exact⟨o,es,ep,k _ o (Ne.symm hL) ho,r⟩
 .refine(I.hok b u e).stay (λc v hc q=>k c v ?_ q) (λ_ q=>q) λ_ _ q=>q;rcases hc with z|z
  .rw[z];exact nit b u e
  .exact nit c _ z
def Inv.tok(I:Inv X aC σ H s)(t:Nat):Inv X aC σ H {s with toks:=t}:=I.un (h':=s.heap) (t':=t) Un.refl I.hok
theorem Inv.kept{t':Nat}(I:Inv X aC σ H s)(k:∀b u,s.heap.get? b=some u->h'.get? b=some u):Inv X aC σ H {s with heap:=h',toks:=t'}:=I.un (Un.kept k)<|I.hok.kept k
theorem Inv.laid{a:aG}{o:HO}{t':Nat}(I:Inv X aC σ H s)(k:∀b u,s.heap.get? b=some u->h'.get? b=some u)(hp:s.heap.objs.size<=a)(new:ObjOk X.prog X.w (upd H a o) h' a o) :
  Inv X aC σ (upd H a o) {s with heap:=h',toks:=t'}:=I.un (Un.laid k hp<|I.hok.fresh hp)<|I.hok.laid k hp new
theorem Inv.write{x e:aG}{o:HO}{t':Nat}(I:Inv X aC σ H s)(mu:Mut (H x))(he:e=x\/H e=some (.own x))(k:∀b u,b≠e->s.heap.get? b=some u->h'.get? b=some u)(Bc:∃u,h'.get? e=some u)
  (new:ObjOk X.prog X.w (upd H x o) h' x o):Inv X aC σ (upd H x o) {s with heap:=h',toks:=t'}:=I.un (Un.write mu he k Bc)<|I.hok.write mu he k Bc new
def Inv.weak{σ':Z (Option V)}(I:Inv X aC σ H s)(hl:σ'.length=σ.length)(w:∀(i:Nat) v,σ'[i]?=some (some v)->σ[i]?=some (some v)):Inv X aC σ' H s:=
 ⟨I.ok,I.os,I.bare,I.base,let ⟨m,hn,pJ⟩:=I.loc;⟨m,hn,λi x v e1 e2 e3=>pJ i x v e1 (w i v e2) e3⟩,I.cell,I.free,I.freeC,I.pin,I.hok,hl.trans I.len⟩
def Inv.pins_of{wV:Z (aG×Obj)}(I:Inv X aC σ H s)(h:∀p∈wV,s.heap.get? p.1=some p.2/\H p.1=none/\p.1≠X.env.locals/\p.1∉X.fs/\∀v,p.2.data≠.cell v):Inv X wV σ H s:=
 ⟨I.ok,I.os,I.bare,I.base,I.loc,I.cell,I.free,I.freeC,λp hp=>(bw.mp hp).elim (λz=>I.pin p<|kh _ z) (h p),I.hok,I.len⟩
def ajb{N:Z Str}(hN:N.Nodup){i j:Nat}{x:Str}(a:N[i]?=some x)(b:N[j]?=some x):i=j:=by obtain⟨h1,e1⟩:=ak.mp a;obtain⟨h2,e2⟩:=ak.mp b;exact(List.getElem_inj hN).mp (e1.trans e2.symm)
def agw{M:Model}{A:Around}{E:aA->aB->Prop}{i:Nat}{x:Str}{v:V}{u:aA}{Q:Unit->aB->Prop}(I:Inv X aC σ H s)(hN:X.N.Nodup)(hi:X.N[i]?=some x)(hx:Loc X.env.scope x)(r:RelV v u)
  (h:∀s',Inv X aC (σ.set i<|some v) H s'->(∃a,b9 a s.heap s'.heap/\(a=X.env.locals\/X.env.cells.lookup x=some a))->Q () s') (hf:X.fn x=true\/X.env.scope.names.lookup x=some .local:=by first|exact .inl rfl|exact .inr rfl|assumption):aH M A (storeName X.env x u) Q E s:=by
 obtain⟨m,hn,hl⟩:=id I.loc;have zT:(X.env.scope.kind==.class||(X.env.scope.kind==.module&&X.env.locals != X.env.globals))=false:=by rw[I.ok.kind];rfl
 have hiσ:i<σ.length:=by rw[I.len];exact(ak.mp hi).1
 have cne:=I.cne;have nV:∀{a:aG} {h':Heap},(∃o,s.heap.get? a=some o/\H a=none)->b9 a s.heap h'->HOk X.prog X.w H h':=λ{a h'} ha hs b ob e=>by
  obtain⟨_,_,bR⟩:=ha;refine(I.hok b ob e).stay (λc w' hc q=>(hs.2 c ?_).trans q) (λ_ q=>q) λ_ _ q=>q;rintro rfl;rcases hc with rfl|hc
  .rw[bR]at e;cases e
  .rw[bR]at hc;cases hc
 rcases hx with hk|hk
 .refine wpAny_storeName_local hk hn (λh' fL hs=>?_) zT;obtain⟨oL,_,_,C8,_⟩:=id hn;refine h _ ⟨I.ok,I.os,I.bare,⟨λb o e n hb hx=>?_,λb o e n hb hx=>?_,I.base.free,λb o e hx=>?_,I.base.tups,I.base.frzs,I.base.tbls⟩,⟨_,fL,λj y v' e1 e2 e3=>?_⟩,λy c e=>?_,I.free,I.freeC,λp hp=>?_,nV ⟨oL,C8,I.free⟩ hs,by simpa using I.len⟩ ⟨_,hs,.inl rfl⟩
  .exact(hs.2 b<|cf<|cw (bb e) I.ok.above).trans (I.base.keep b o e n hb hx)
  .obtain⟨sl,e1⟩:=I.base.slot b o e n hb hx;exact⟨sl,(hs.2 b<|cf<|cw (bb e) I.ok.above).trans e1⟩
  .obtain⟨o',e1⟩:=I.base.there b o e hx;exact⟨o',(hs.2 b<|cf<|cw (bb e) I.ok.above).trans e1⟩
  .by_cases hj:j=i
   .subst hj;rw[hi]at e1;cases e1;rw[List.getElem?_set_self hiσ]at e2;cases e2;exact⟨u,r,.inl ⟨hk,by simp⟩⟩
   .rw[List.getElem?_set_ne (Ne.symm hj)]at e2;obtain⟨u',r',q⟩:=hl j y v' e1 e2 e3;refine⟨u',r',?_⟩;rcases q with ⟨k,e⟩|⟨k,c,e,z⟩
    .refine .inl ⟨k,?_⟩;have:y≠x:=λe=>hj<|ajb hN e1<|e▸hi;simp[this,e]
    .exact .inr ⟨k,c,e,z.sameBut hs<|cne y c e⟩
  .obtain⟨w',z⟩:=I.cell y c e;exact⟨w',z.sameBut hs<|cne y c e⟩
  .obtain⟨e,n,ne,nf,d⟩:=I.pin p hp;exact⟨(hs.2 p.1 ne).trans e,n,ne,nf,d⟩
 .have FM:X.fn x=true:=by
   rcases hf with z|z
   .exact z
   .rw[z]at hk;cases hk
  obtain⟨c,hc⟩:=I.ok.has x<|.inl hk;obtain⟨w',z⟩:=I.cell x c hc;refine wpAny_storeName_cell I.ok.kind hk hc z λh' fH hs=>?_;obtain⟨oc,hoc,Jp⟩:=id z;refine h {s with heap:=h'} ⟨I.ok,I.os,I.bare,⟨λb o e n hb hx=>?_,λb o e n hb hx=>?_,I.base.free,λb o e hx=>?_,I.base.tups,I.base.frzs,I.base.tbls⟩,⟨m,hn.sameBut hs<|Ne.symm<|cne x c hc,λj y v' e1 e2 e3=>?_⟩,λy c' e=>?_,I.free,I.freeC,λp hp=>?_,nV ⟨oc,hoc,I.freeC x c hc⟩ hs,by simpa using I.len⟩ ⟨c,hs,.inr hc⟩
  .exact(hs.2 b<|cf<|cw (bb e)<|I.ok.cab x c FM hc).trans (I.base.keep b o e n hb hx)
  .obtain⟨sl,e1⟩:=I.base.slot b o e n hb hx;exact⟨sl,(hs.2 b<|cf<|cw (bb e)<|I.ok.cab x c FM hc).trans e1⟩
  .obtain⟨o',e1⟩:=I.base.there b o e hx;exact⟨o',(hs.2 b<|cf<|cw (bb e)<|I.ok.cab x c FM hc).trans e1⟩
  .by_cases hj:j=i
   .subst hj;rw[hi]at e1;cases e1;rw[List.getElem?_set_self hiσ]at e2;cases e2;exact⟨u,r,.inr ⟨.inl hk,c,hc,fH⟩⟩
   .rw[List.getElem?_set_ne (Ne.symm hj)]at e2;obtain⟨u',r',q⟩:=hl j y v' e1 e2 e3;refine⟨u',r',?_⟩;rcases q with q|⟨k,c',e,z'⟩
    .exact .inl q
    .refine .inr ⟨k,c',e,z'.sameBut hs ?_⟩;rintro rfl;exact hj<|ajb hN e1<|I.ok.inj _ _ _ e hc▸hi
  .by_cases zU:c'=c
   .subst zU;exact⟨_,fH⟩
   .obtain⟨w2,z2⟩:=I.cell y c' e;exact⟨w2,z2.sameBut hs zU⟩
  .obtain⟨e,n,ne,nf,d⟩:=I.pin p hp;refine⟨(hs.2 p.1 ?_).trans e,n,ne,nf,d⟩;intro q;rw[q,hoc]at e;have q':oc=p.2:=gp e;exact d w'<|by rw[<-q'];exact Jp
def Hw{M:Model}{A:Around}{E:aA->aB->Prop}{i:Nat}{x:Str}{v:V}{u:aA}{Q:Unit->aB->Prop}(I:Inv X aC σ H s)(hN:X.N.Nodup)(hi:X.N[i]?=some x)(hx:Loc X.env.scope x)(r:RelV v u)
  (h:∀s',Inv X aC (σ.set i<|some v) H s'->Q () s') (hf:X.fn x=true\/X.env.scope.names.lookup x=some .local:=by first|exact .inl rfl|exact .inr rfl|assumption):aH M A (storeName X.env x u) Q E s:=
 agw I hN hi hx r (λs' I' _=>h s' I') hf
def Inv.call'{s':aB}{ch:Z aG}(I:Inv X aC σ H s)(ho:s'.os=s.os)(u:Un (frs X.stack) ch H H' s.heap s'.heap)(hok:HOk X.prog X.w H' s'.heap)(hg:gI s'.gens)
  (pN:∀b∈ch,(b∈X.ex\/X.s₀.heap.objs.size<=b)/\b≠X.env.locals/\(∀x c,X.env.cells.lookup x=some c->c≠b)/\∀p∈X.pn++aC,p.1≠b):Inv X aC σ H' s':=by
 obtain⟨h',g',d',t',o'⟩:=s';have e:o'=s.os:=ho;subst e;exact I.call (g':=g') (t':=t') (d':=d') u hok hg pN
end
abbrev XK:=aA->Option aG->Hp->Prop
noncomputable abbrev St:=Z<|Option V
abbrev VK:=V->Hp->Prop
abbrev TE:=St->Hp->VK->Prop
abbrev TT:=St->Hp->(Bool->Hp->Prop)->Prop
abbrev TA:=St->Hp->(Z V->Hp->Prop)->Prop
structure kZ where
 nx:St->Hp->Prop
 rt:VK
 bk:St->Hp->Prop:=λ_ _=>False
 ct:St->Hp->Prop:=λ_ _=>False
abbrev TS:=kZ->St->Hp->Prop
def EP(X:Cx)(aC:Z (aG×Obj))(σ:St)(Q:VK)(u:aA)(s':aB):Prop:=∃v H',Inv X aC σ H' s'/\RelV v u/\Q v H'
def TP(X:Cx)(aC:Z (aG×Obj))(σ:St)(Q:Bool->Hp->Prop)(b:Bool)(s':aB):Prop:=∃H',Inv X aC σ H' s'/\Q b H'
def AP(X:Cx)(aC:Z (aG×Obj))(σ:St)(Q:Z V->Hp->Prop)(us:Z aA)(s':aB):Prop:=∃vs H',Inv X aC σ H' s'/\Vals vs us/\Q vs H'
def SP(X:Cx)(aC:Z (aG×Obj))(D:kZ)(f:Flow)(s':aB):Prop:=
 match f with
 | .next=>∃σ' H',Inv X aC σ' H' s'/\D.nx σ' H'
 | .brk=>∃σ' H',Inv X aC σ' H' s'/\D.bk σ' H'
 | .cont=>∃σ' H',Inv X aC σ' H' s'/\D.ct σ' H'
 | .ret u=>∃v σ' H',Inv X aC σ' H' s'/\RelV v u/\D.rt v H'
def PE(X:Cx)(e:Expr)(t:TE):Prop:=
 ∀(aC:Z (aG×Obj)) (s:aB) (σ:St) (H:Hp) (Q:VK),Inv X aC σ H s->t σ H Q->aH (aI X.prog X.w) X.A (bQ e X.env) (EP X aC σ Q) X.xe s
def PT(X:Cx)(e:Expr)(t:TT):Prop:=
 ∀(aC:Z (aG×Obj)) (s:aB) (σ:St) (H:Hp) (Q:Bool->Hp->Prop),Inv X aC σ H s->t σ H Q->aH (aI X.prog X.w) X.A (isTrue e X.env<|bQ e X.env) (TP X aC σ Q) X.xe s
def PW(X:Cx)(e:Expr)(t:TT):Prop:=
 ∀(kP:nP aA) (aC:Z (aG×Obj)) (s:aB) (σ:St) (H:Hp) (Q:Bool->Hp->Prop),Inv X aC σ H s->t σ H Q->aH (aI X.prog X.w) X.A (isTrue e X.env kP) (TP X aC σ Q) X.xe s
def PW.pt{X:Cx}{e:Expr}{t:TT}(h:PW X e t):PT X e t:=h _
def PA(X:Cx)(es:Z Expr)(t:TA):Prop:=
 ∀(pos:dH) (aC:Z (aG×Obj)) (s:aB) (σ:St) (H:Hp) (Q:Z V->Hp->Prop),Inv X aC σ H s->t σ H Q->aH (aI X.prog X.w) X.A (Cn<|cY pos<|aU es X.env) (AP X aC σ Q) X.xe s
def PS(X:Cx)(st:aZ)(t:TS):Prop:=
 ∀(aC:Z (aG×Obj)) (s:aB) (σ:St) (H:Hp) (D:kZ),Inv X aC σ H s->t D σ H->aH (aI X.prog X.w) X.A (exec st X.env) (SP X aC D) X.xe s
def PSs(X:Cx)(st:Z aZ)(t:TS):Prop:=
 ∀(aC:Z (aG×Obj)) (s:aB) (σ:St) (H:Hp) (D:kZ),Inv X aC σ H s->t D σ H->aH (aI X.prog X.w) X.A (execs st X.env) (SP X aC D) X.xe s
def thn{α:Type}{t:nP α}{Q Q':α->aB->Prop}{M:Model}{A:Around}{E:aA->aB->Prop}{s:aB}(h:aH M A t Q E s)(hQ:∀a s,Q a s->Q' a s):aH M A t Q' E s:=jb h hQ λ_ _ x=>x
section
variable{X:Cx}
def kA(i:Nat):TE:=λσ H Q=>∃v,σ[i]?=some (some v)/\Q v H
def tC(v:V):TE:=λ_ H Q=>Q v H
def asz{i:Nat}{x:Str}{pos:dH}(hN:X.N[i]?=some x)(hv:Vis X.env.scope x)(hd:(x==("__debug__" : Str))=false:=by decide)(oQ:(x==("__classdict__" : Str))=false:=by decide):PE X (.Name x pos) (kA i):=by
 intro aC s σ H Q I h;obtain⟨v,e,h⟩:=h;obtain⟨m,hn,hl⟩:=I.loc;obtain⟨u,r,l⟩:=hl i x v hN e hv;have fin:EP X aC σ Q u s:=⟨v,H,I,r,h⟩;rcases l with ⟨hk,hm⟩|⟨hk,c,hc,xH⟩
 .exact AI (wpAny_loadName_local I.ok.kind hk hn hm fin) hd
 .rcases hk with hk|hk
  .exact AI (wpAny_loadName_cell I.ok.kind hk hc xH fin) hd
  .exact AI (wpAny_loadName_free I.ok.kind hk hc xH fin oQ) hd
def mr{i j pos}:PE X (.Constant (.int i) j pos) (tC<|.int i):=λ_ _ _ H _ I h=>wpAny_Constant_int ⟨.int i,H,I.tok _,⟨_,rfl⟩,h⟩
def uT{b j pos}:PE X (.Constant (.bool b) j pos) (tC<|.bl b):=λ_ _ _ H _ I h=>Constant_bool ⟨.bl b,H,I,rfl,h⟩
def yg{j pos}:PE X (.Constant .none j pos) (tC .non):=λ_ _ _ H _ I h=>Constant_none ⟨.non,H,I,rfl,h⟩
def qh{x j pos}:PE X (.Constant (.str x) j pos) (tC<|.str x):=λ_ _ _ H _ I h=>Calls.Constant_str ⟨.str x,H,I.tok _,⟨_,rfl⟩,h⟩
def Gl(X:Cx)(x:Str):Prop:=X.env.kindOf x=some .globalImplicit
def ape{E:aA->aB->Prop}{aC:Z (aG×Obj)}{s:aB}{σ:St}{H:Hp}{x:Str}{u:aA}{pos:dH}{Q:aA->aB->Prop}(I:Inv X aC σ H s)(hg:Gl X x)(hm:X.mg x=some u)(h:Q u s)
  (hd:(x==("__debug__" : Str))=false:=by decide):aH (aI X.prog X.w) X.A (bQ (.Name x pos) X.env) Q E s:=
 Calls.Name_function_global I.ok.kind hg (Calls.loadGlobal_global (by rw[I.ok.glob];exact I.mod.glob.keeps I.bk) hm h) hd
def wq{E:aA->aB->Prop}{aC:Z (aG×Obj)}{s:aB}{σ:St}{H:Hp}{x:Str}{u:aA}{pos:dH}{Q:aA->aB->Prop}(I:Inv X aC σ H s)(hg:Gl X x)(hm:X.mg x=none)(hv:bJ x=some u)(h:Q u s)
  (hn:x≠"__name__":=by decide) (hd:(x==("__debug__" : Str))=false:=by decide):aH (aI X.prog X.w) X.A (bQ (.Name x pos) X.env) Q E s:=by
 obtain⟨mb,h1,h2⟩:=I.mod.blt;exact Calls.Name_function_global I.ok.kind hg (Calls.loadGlobal_builtin (by rw[I.ok.glob];exact I.mod.glob.keeps I.bk) hm (by rw[I.ok.blt];exact h1.keeps I.bk) ((h2 x hn).trans hv) h) hd
def LW{x:Str}{v:V}{u:aA}{pos:dH}(hg:Gl X x)(hm:X.mg x=some u)(r:RelV v u)(hd:(x==("__debug__" : Str))=false:=by decide):PE X (.Name x pos) (tC v):=
 λ_ _ _ H _ I h=>ape I hg hm ⟨v,H,I,r,h⟩ hd
def u6{x:Str}{v:V}{u:aA}{pos:dH}(hg:Gl X x)(hm:X.mg x=none)(hv:bJ x=some u)(r:RelV v u)(hn:x≠"__name__":=by decide)(hd:(x==("__debug__" : Str))=false:=by decide):PE X (.Name x pos) (tC v):=
 λ_ _ _ H _ I h=>wq I hg hm hv ⟨v,H,I,r,h⟩ hn hd
variable{a b:Expr}{ta tb:TE}{pos:dH}
def PC(X:Cx)(op:lC)(a b:Expr)(t:TE):Prop:=
 ∀(aC:Z (aG×Obj)) (s:aB) (σ:St) (H:Hp) (Q:VK),Inv X aC σ H s->t σ H Q->
  aH (aI X.prog X.w) X.A (bQ a X.env) (λv s₁=>aH (aI X.prog X.w) X.A (bQ b X.env) (λu s₂=>aH (aI X.prog X.w) X.A (aY op v u) (EP X aC σ Q) X.xe s₂) X.xe s₁) X.xe s
def tB(t:TE):TT:=λσ H Q=>t σ H λx H1=>∃c,x=.bl c/\Q c H1
def axn{op:lC}{t:TE}(h:PC X op a b t)(h1:dZ op b=false:=by first|exact nobehind _ (by decide) (by decide)|rfl):PE X (.Compare a [op] [b] pos) t:=λaC s σ H Q I hw=>wpAny_Compare1 (h aC s σ H Q I hw) h1
def azc{op:lC}{t:TE}(h:PC X op a b t)(h1:dZ op b=false:=by first|exact nobehind _ (by decide) (by decide)|rfl):PT X (.Compare a [op] [b] pos) (tB t):=by intro aC s σ H Q I hw;refine uY (thn (h aC s σ H _ I hw) λv s1 h1=>thn h1 λu s2 h2=>thn h2 λc s3 ⟨x,H1,I1,r1,q1⟩=>?_) h1;obtain⟨d,rfl,q⟩:=q1;cases r1;exact gc ⟨H1,I1,q⟩
def uh{e:Expr}{t:TE}(h:PE X e t)(he:∀kP,isTrue e X.env kP=(do let v <-kP;Ck e.pos;nF [v] (truthy v)):=by intro _;rfl):PT X e (tB t):=by intro aC s σ H Q I hw;refine isTrue_plain (thn (h aC s σ H _ I hw) λv s1 ⟨x,H1,I1,r1,q1⟩=>?_)<|he _;obtain⟨d,rfl,q⟩:=q1;cases r1;exact gc ⟨H1,I1,q⟩
variable{tA Fd:TT}{bA:Z Expr}
def a26(t u:TT):TT:=λσ H Q=>t σ H λc H1=>if c=true then u σ H1 Q else Q false H1
def tOr(t u:TT):TT:=λσ H Q=>t σ H λc H1=>if c=true then Q true H1 else u σ H1 Q
def a3t(t:TT):TT:=λσ H Q=>t σ H λc H1=>Q (!c) H1
theorem EF(ha:PT X a tA):PW X (.BoolOp .And [a] pos) tA:=by
 intro wh aC s σ H Q I h;refine isTrue_and<|thn (ha aC s σ H Q I h) λc s1 e=>?_;cases c with
 | true=>exact isTrue_and_nil e
 | false=>exact e
theorem yE(ha:PT X a tA):PW X (.BoolOp .Or [a] pos) tA:=by
 intro wh aC s σ H Q I h;refine isTrue_or<|thn (ha aC s σ H Q I h) λc s1 e=>?_;cases c with
 | false=>exact isTrue_or_nil e
 | true=>exact e
theorem EA(ha:PT X a tA)(hb:PW X (.BoolOp .And (b::bA) pos) Fd):PW X (.BoolOp .And (a::b::bA) pos) (a26 tA Fd):=by
 intro wh aC s σ H Q I h;refine isTrue_and<|thn (ha aC s σ H _ I h) λc s1 ⟨H1,I1,q1⟩=>?_;cases c with
 | true=>exact hb wh aC s1 σ H1 Q I1 q1
 | false=>exact⟨H1,I1,q1⟩
theorem tT(ha:PT X a tA)(hb:PW X (.BoolOp .Or (b::bA) pos) Fd):PW X (.BoolOp .Or (a::b::bA) pos) (tOr tA Fd):=by
 intro wh aC s σ H Q I h;refine isTrue_or<|thn (ha aC s σ H _ I h) λc s1 ⟨H1,I1,q1⟩=>?_;cases c with
 | true=>exact⟨H1,I1,q1⟩
 | false=>exact hb wh aC s1 σ H1 Q I1 q1
def wx(ha:PT X a tA):PT X (.UnaryOp .Not a pos) (a3t tA):=by intro aC s σ H Q I h;exact isTrue_not<|ha aC s σ H (λc H1=>Q (!c) H1) I h
def a0s(ta tb:TE):TE:=λσ H Q=>ta σ H λx H1=>∃c,x=.bl c/\if c=true then tb σ H1 Q else Q (.bl false) H1
def a3m(ta tb:TE):TE:=λσ H Q=>ta σ H λx H1=>∃c,x=.bl c/\if c=true then Q (.bl true) H1 else tb σ H1 Q
def a1e(ta:TE):TE:=λσ H Q=>ta σ H λx H1=>∃c,x=.bl c/\Q (.bl<|!c) H1
def Ax{op}{t:TE}(h:PE X a t):PE X (.BoolOp op [a] pos) t:=λaC s σ H Q I hw=>BoolOp_one<|h aC s σ H Q I hw
theorem yF(ha:PE X a ta)(hb:PE X (.BoolOp .And (b::bA) pos) tb):PE X (.BoolOp .And (a::b::bA) pos) (a0s ta tb):=by
 intro aC s σ H Q I h;refine BoolOp_and<|thn (ha aC s σ H _ I h) λv s1 ⟨x,H1,I1,r1,q1⟩=>?_;obtain⟨c,rfl,q1⟩:=q1;cases r1;refine gc ?_;cases c with
 | true=>exact hb aC s1 σ H1 Q I1 q1
 | false=>exact⟨.bl false,H1,I1,rfl,q1⟩
theorem a1n(ha:PE X a ta)(hb:PE X (.BoolOp .Or (b::bA) pos) tb):PE X (.BoolOp .Or (a::b::bA) pos) (a3m ta tb):=by
 intro aC s σ H Q I h;refine BoolOp_or<|thn (ha aC s σ H _ I h) λv s1 ⟨x,H1,I1,r1,q1⟩=>?_;obtain⟨c,rfl,q1⟩:=q1;cases r1;refine gc ?_;cases c with
 | false=>exact hb aC s1 σ H1 Q I1 q1
 | true=>exact⟨.bl true,H1,I1,rfl,q1⟩
def aza(ha:PE X a ta):PE X (.UnaryOp .Not a pos) (a1e ta):=by intro aC s σ H Q I h;refine UnaryOp_<|thn (ha aC s σ H _ I h) λv s1 ⟨x,H1,I1,r1,q1⟩=>?_;obtain⟨c,rfl,q1⟩:=q1;cases r1;exact not_of<|gc ⟨.bl<|!c,H1,I1,rfl,q1⟩
def tIf(t:TT)(ta tb:TE):TE:=λσ H Q=>t σ H λc H1=>if c=true then ta σ H1 Q else tb σ H1 Q
theorem aqu{c:Expr}(hc:PT X c tA)(ha:PE X a ta)(hb:PE X b tb):PE X (.IfExp c a b pos) (tIf tA ta tb):=by
 intro aC s σ H Q I h;refine wpAny_IfExp<|thn (hc aC s σ H _ I h) λd s1 ⟨H1,I1,q1⟩=>?_;cases d with
 | true=>exact ha aC s1 σ H1 Q I1 q1
 | false=>exact hb aC s1 σ H1 Q I1 q1
end
def SqL(K:aw)(H:Hp)(a:aG)(xs:Z V):Prop:=
 Rd H a (.lst xs)\/
  ∃(o:Obj)(its:Array aA)(n:Nat),K.lookup a=some o/\o.cls=.type "list"/\o.dict=none/\o.data=.seq its n/\its.size<=aF/\Vals xs its.toList
def SqT(K:aw)(H:Hp)(a:aG)(xs:Z V):Prop:=
 Rd H a (.tup xs)\/
  ∃(o:Obj)(its:Array aA)(n:Nat),K.lookup a=some o/\o.cls=.type "tuple"/\o.data=.seq its n/\its.size<=aF/\Vals xs its.toList
noncomputable def a33:aA->Option V
 | .none=>some .non
 | .bool b=>some (.bl b)
 | .int i _=>some (.int i)
 | .str x _=>some (.str x)
 | .bytes b _=>some (.byt b)
 | .float b _=>some (.flt b)
 | .ref a=>some (.ref a)
 | .type n=>some (.ty n)
 | _=>none
theorem RelV.abs{x:V}{u:aA}(r:RelV x u):a33 u=some x:=by
 cases x with
 | non=>cases r;rfl
 | bl _=>cases r;rfl
 | int _=>obtain⟨t,rfl⟩:=r;rfl
 | str _=>obtain⟨t,rfl⟩:=r;rfl
 | byt _=>obtain⟨t,rfl⟩:=r;rfl
 | flt _=>obtain⟨t,rfl⟩:=r;rfl
 | ref _=>cases r;rfl
 | ty _=>cases r;rfl
def RelV.inj{x y:V}{u:aA}(r:RelV x u)(q:RelV y u):x=y:=gp<|r.abs.symm.trans q.abs
theorem Vals.inj:∀{xs ys:Z V} {us:Z aA},Vals xs us->Vals ys us->xs=ys
 | _,_,_,.nil,.nil=>rfl
 | _,_,_,.cons r t,.cons r' t'=>by rw[r.inj r',Vals.inj t t']
section
variable{X:Cx}{aC:Z (aG×Obj)}{σ:St}{H:Hp}{s:aB}{a:aG}{xs ys:Z V}
def SqL.of{K:aw}(h:H a=some (.lst xs)):SqL K H a xs:=.inl<|.inl h
def SqT.of{K:aw}(h:H a=some (.tup xs)):SqT K H a xs:=.inl<|.inl h
def Inv.list(I:Inv X aC σ H s)(h:SqL X.K H a xs):∃its:Z aA,Vals xs its/\PlainL s.heap a its.toArray/\xs.length<=aF:=by
 rcases h with h|⟨o,its,n,hk,hc,hd,hs,hz,r⟩
 .obtain⟨z,its,n,r,e⟩:=h.ok I.hok;exact⟨its,r,⟨_,n,e,rfl,rfl,rfl⟩,z⟩
 .refine⟨its.toList,r,⟨o,n,I.kIn a o hk,hc,hd,by simpa using hs⟩,?_⟩;have e:=r.length;simp only[a9]at e;omega
def Inv.tuple(I:Inv X aC σ H s)(h:SqT X.K H a xs):∃its:Z aA,Vals xs its/\lB s.heap a its.toArray/\xs.length<=aF:=by
 rcases h with h|⟨o,its,n,hk,hc,hs,hz,r⟩
 .obtain⟨z,its,r,p⟩:=h.ok I.hok;exact⟨its,r,p,z⟩
 .refine⟨its.toList,r,⟨o,I.kIn a o hk,hc,n,by simpa using hs⟩,?_⟩;have e:=r.length;simp only[a9]at e;omega
def Inv.list_inj(I:Inv X aC σ H s)(h:SqL X.K H a xs)(h':SqL X.K H a ys):xs=ys:=by
 obtain⟨its,r,⟨o,n,e,_,_,d⟩,_⟩:=I.list h;obtain⟨its',r',⟨o',n',e',_,_,d'⟩,_⟩:=I.list h';rw[e]at e';cases e';rw[d]at d';injection d' with d1 _
 have:its=its':=by simpa using congrArg Array.toList d1
 subst this;exact r.inj r'
def Inv.tuple_inj(I:Inv X aC σ H s)(h:SqT X.K H a xs)(h':SqT X.K H a ys):xs=ys:=by
 obtain⟨its,r,⟨o,e,_,n,d⟩,_⟩:=I.tuple h;obtain⟨its',r',⟨o',e',_,n',d'⟩,_⟩:=I.tuple h';rw[e]at e';cases e';rw[d]at d';injection d' with d1 _
 have:its=its':=by simpa using congrArg Array.toList d1
 subst this;exact r.inj r'
end
noncomputable abbrev Cx.wish(X:Cx)(E:aA->aB->Prop):Cx:={X with xe:=E}
noncomputable abbrev Cx.nox(X:Cx):Cx:=X.wish λ_ _=>False
theorem Cx.Ok.wish{X:Cx}(ok:X.Ok)(E:aA->aB->Prop):(X.wish E).Ok:=
 ⟨ok.mod,ok.kind,ok.glob,ok.blt,ok.above,ok.inj,ok.has,ok.cab,ok.hd,ok.frames,ok.stk,ok.exf,ok.bs,ok.bsz,ok.noex,ok.exfs,ok.funs,ok.frf⟩
def Cx.Ok.unwish{X:Cx}{E:aA->aB->Prop}(ok:(X.wish E).Ok):X.Ok:=
 ⟨ok.mod,ok.kind,ok.glob,ok.blt,ok.above,ok.inj,ok.has,ok.cab,ok.hd,ok.frames,ok.stk,ok.exf,ok.bs,ok.bsz,ok.noex,ok.exfs,ok.funs,ok.frf⟩
section
variable{X:Cx}{aC:Z (aG×Obj)}{σ:St}{H:Hp}{s:aB}{E:aA->aB->Prop}
theorem Inv.wish(I:Inv X aC σ H s)(E:aA->aB->Prop):Inv (X.wish E) aC σ H s:=⟨I.ok.wish E,I.os,I.bare,I.base,I.loc,I.cell,I.free,I.freeC,I.pin,I.hok,I.len⟩
theorem Inv.unwish(I:Inv (X.wish E) aC σ H s):Inv X aC σ H s:=⟨I.ok.unwish,I.os,I.bare,I.base,I.loc,I.cell,I.free,I.freeC,I.pin,I.hok,I.len⟩
theorem SP.unwish{D:kZ}{f:Flow}{s':aB}(h:SP (X.wish E) aC D f s'):SP X aC D f s':=by
 cases f with
 | next=>obtain⟨σ',H',I,q⟩:=h;exact⟨σ',H',I.unwish,q⟩
 | brk=>obtain⟨σ',H',I,q⟩:=h;exact⟨σ',H',I.unwish,q⟩
 | cont=>obtain⟨σ',H',I,q⟩:=h;exact⟨σ',H',I.unwish,q⟩
 | ret u=>obtain⟨v,σ',H',I,r,q⟩:=h;exact⟨v,σ',H',I.unwish,r,q⟩
theorem PSs.nox{st:Z aZ}{t:TS}(h:PSs X.nox st t):PSs X st t:=λaC s σ H D I hw=>
 jb (h aC s σ H D (I.wish _) hw) (λ_ _ q=>q.unwish) λ_ _ z=>False.elim z
end
section
variable{X:Cx}{st:aZ}{bA:Z aZ}{t u:TS}{e:Expr}{te:TE}{pos:dH}
def ax7:TS:=λD σ H=>D.nx σ H
def Gp(t u:TS):TS:=λD σ H=>t {D with nx:=u D} σ H
def qd:PSs X [] ax7:=λ_ _ σ H _ I h=>mT ⟨σ,H,I,h⟩
theorem qj(h1:PS X st t)(h2:PSs X bA u):PSs X (st::bA) (Gp t u):=by
 intro aC s σ H D I h;refine Fa<|thn (h1 aC s σ H {D with nx:=u D} I h) λf s1 q=>?_;cases f with
 | next=>
  obtain⟨σ',H',I',q⟩:=q;exact h2 aC s1 σ' H' D I' q
 | ret v=>exact q
 | brk=>exact q
 | cont=>exact q
theorem rj(h1:PS X st t):PSs X [st] t:=by
 intro aC s σ H D I h;refine Fa<|thn (h1 aC s σ H D I h) λf s1 q=>?_;cases f with
 | next=>exact mT q
 | ret v=>exact q
 | brk=>exact q
 | cont=>exact q
def Inv.quiet{aC:Z (aG×Obj)}{σ:St}{H:Hp}{s:aB}(I:Inv X aC σ H s):interactive X.env=false:=by simp[interactive,I.ok.kind]
def a1h(te:TE):TS:=λD σ H=>te σ H λ_ H1=>D.nx σ H1
def uo(he:PE X e te)(hs:iK e none pos.line X.env=aS false:=by rfl):PS X (.Expr e pos) (a1h te):=by intro aC s σ H D I h;exact wpAny_Expr_any (thn (he aC s σ H _ I h) λv s1 ⟨x,H1,I1,r1,q1⟩=>⟨σ,H1,I1,q1⟩) I.quiet hs
def a3k(te:TE):TS:=λD σ H=>te σ H D.rt
def nu(he:PE X e te):PS X (.Return (some e) pos) (a3k te):=by intro aC s σ H D I h;exact wpAny_Return_some<|thn (he aC s σ H _ I h) λv s1 ⟨x,H1,I1,r1,q1⟩=>⟨x,σ,H1,I1,r1,q1⟩
def a3y(c:TT)(t u:TS):TS:=λD σ H=>c σ H λb H1=>if b=true then t D σ H1 else u D σ H1
theorem va{c:Expr}{a b:Z aZ}{tc:TT}(hc:PT X c tc)(ha:PSs X a t)(hb:PSs X b u):PS X (.If c a b pos) (a3y tc t u):=by
 intro aC s σ H D I h;refine wpAny_If<|thn (hc aC s σ H _ I h) λd s1 ⟨H1,I1,q1⟩=>?_;cases d with
 | true=>exact ha aC s1 σ H1 D I1 q1
 | false=>exact hb aC s1 σ H1 D I1 q1
end
abbrev TG:=V->St->Hp->(St->Hp->Prop)->Prop
abbrev TGs:=Z V->St->Hp->(St->Hp->Prop)->Prop
def PG(X:Cx)(bD:Expr)(t:TG):Prop:=
 ∀(aC:Z (aG×Obj)) (s:aB) (σ:St) (H:Hp) (v:V) (u:aA) (Q:St->Hp->Prop),Inv X aC σ H s->RelV v u->t v σ H Q->
  aH (aI X.prog X.w) X.A (lT bD X.env u) (λ_ s'=>∃σ' H',Inv X aC σ' H' s'/\Q σ' H') X.xe s
def PGs(X:Cx)(ts:Z Expr)(t:TGs):Prop:=
 ∀(aC:Z (aG×Obj)) (s:aB) (σ:St) (H:Hp) (vs:Z V) (us:Z aA) (Q:St->Hp->Prop),Inv X aC σ H s->Vals vs us->t vs σ H Q->
  aH (aI X.prog X.w) X.A (qQ ((cF ts X.env).map (·.2)) us) (λ_ s'=>∃σ' H',Inv X aC σ' H' s'/\Q σ' H') X.xe s
section
variable{X:Cx}{pos:dH}
def uy(i:Nat):TG:=λv σ H Q=>Q (σ.set i<|some v) H
def B5{i:Nat}{x:Str}(hN:X.N.Nodup)(hi:X.N[i]?=some x)(hx:Loc X.env.scope x)(hf:X.fn x=true\/X.env.scope.names.lookup x=some .local:=by first|exact .inl rfl|exact .inr rfl|assumption):PG X (.Name x pos) (uy i):=by intro aC s σ H v u Q I r h;exact Ch<|Hw I hN hi hx r (λs' I'=>⟨_,H,I',h⟩) hf
def Eb:TGs:=λvs σ H Q=>vs=[]/\Q σ H
def pY(t:TG)(u:TGs):TGs:=λvs σ H Q=>∃v r,vs=v::r/\t v σ H λσ' H'=>u r σ' H' Q
def ow:PGs X [] Eb:=by intro aC s σ H vs us Q I r h;obtain⟨e,h⟩:=h;subst e;cases r;exact Ef ⟨σ,H,I,h⟩
theorem mw{e:Expr}{es:Z Expr}{t:TG}{u:TGs}(h1:PG X e t)(h2:PGs X es u)
  (hs:(cF (e::es) X.env).map (·.2)=lT e X.env::(cF es X.env).map (·.2):=by rfl):PGs X (e::es) (pY t u):=by
 intro aC s σ H vs us Q I r h;obtain⟨v,vr,e1,h⟩:=h;subst e1;cases r with
 | cons r rr=>
  rw[hs];refine jZ<|thn (h1 aC s σ H _ _ _ I r h) λ_ s1 ⟨σ1,H1,I1,q1⟩=>?_;exact h2 aC s1 σ1 H1 _ _ Q I1 rr q1
def Ap(K:aw)(n:Nat)(t:TGs):TG:=λv σ H Q=>∃a xs,v=.ref a/\SqT K H a xs/\xs.length=n/\t xs σ H Q
def Eo{es:Z Expr}{k:Nat}{t:TGs}{n:Nat}(hc:X.calm=true)(h:PGs X es t)
  (hn:(cF es X.env).length=n:=by rfl) (dY:(cF es X.env).findIdx? (·.1)=none:=by rfl):PG X (.Tuple es k pos) (Ap X.K n t):=by
 intro aC s σ H v u Q I r hw;obtain⟨a,xs,e1,hq,hl,hw⟩:=hw;subst e1;cases r;obtain⟨its,rv,ht,hz⟩:=I.tuple hq;refine assign_Tuple_tuple (I.ok.hd hc) ht (by simp[hn,<-hl,rv.length]) dY λh' hx=>?_;have I1:Inv X aC σ H {s with heap:=h'}:=I.kept (t':=s.toks) λb o e=>hx b o (cf<|bb e) e;exact h aC _ σ H xs _ Q I1 (by simpa using rv) hw
def Ea(te:TE)(g:TG):TS:=λD σ H=>te σ H λx H1=>g x σ H1 D.nx
def ayf{tg e:Expr}{te:TE}{g:TG}(he:PE X e te)(hg:PG X tg g)(hs:swapsWithSole [tg] e pos.line X.env=aS false:=by rfl)(hw:swappedStores [tg] e X.env=aS none:=by rfl)
  (h1:(cF [tg] X.env).map (·.2)=[lT tg X.env]:=by rfl):PS X (.Assign [tg] e pos) (Ea te g):=by
 intro aC s σ H D I h;refine wpAny_Assign_stores (thn (he aC s σ H _ I h) λv s1 ⟨x,H1,I1,r1,q1⟩=>?_) hs hw;rw[h1];exact thn (hg aC s1 σ H1 x v _ I1 r1 q1) λ_ s2 q=>q
def yh{i:Nat}{x:Str}{e:Expr}{te:TE}{oZ:dH}(hN:X.N.Nodup)(hi:X.N[i]?=some x)(hx:Loc X.env.scope x)(he:PE X e te)(hs:iK e (some<|.Name x oZ) pos.line X.env=aS false:=by rfl)(hf:X.fn x=true\/X.env.scope.names.lookup x=some .local:=by first|exact .inl rfl|exact .inr rfl|assumption) :
  PS X (.Assign [.Name x oZ] e pos) (Ea te<|uy i):=by
 intro aC s σ H D I h;refine wpAny_Assign_Name (thn (he aC s σ H _ I h) λv s1 ⟨y,H1,I1,r1,q1⟩=>?_) hs;exact Hw I1 hN hi hx r1 (λs2 I2=>⟨_,H1,I2,q1⟩) hf
def a3c(i j:Nat)(ta:TA):TS:=λD σ H=>ta σ H λvs H1=>∃v w,vs=[v,w]/\D.nx ((σ.set i<|some v).set j (some w)) H1
theorem atd{i j:Nat}{x y:Str}{a b:Expr}{ta:TA}{px py pt:dH}{kt k2 pt2}(hc:X.calm=true)(hN:X.N.Nodup)(hi:X.N[i]?=some x)(hj:X.N[j]?=some y)(cJ:i≠j)
  (hx:X.env.scope.names.lookup x=some .local) (hy:X.env.scope.names.lookup y=some .local) (ha:PA X [a,b] ta)
  (hw:swappedStores [.Tuple [.Name x px,.Name y py] kt pt] (.Tuple [a,b] k2 pt2) X.env=aS (some [x,y]))
  (hs:swapsWithSole [.Tuple [.Name x px,.Name y py] kt pt] (.Tuple [a,b] k2 pt2) pos.line X.env=aS false:=by rfl) :
  PS X (.Assign [.Tuple [.Name x px,.Name y py] kt pt] (.Tuple [a,b] k2 pt2) pos) (a3c i j ta):=by
 intro aC s σ H D I h;rw[exec_Assign_arm];refine ab<|fI ?_;rw[hs];refine ab<|ah ?_;rw[if_neg (by decide)];refine ab<|Tuple_<|thn (ha _ aC s σ H _ I h) λus s1 ⟨vs,H1,I1,r1,q1⟩=>?_;obtain⟨v,w,e1,q1⟩:=q1;subst e1;obtain⟨u1,u2,rfl,rv,lZ⟩:∃u1 u2,us=[u1,u2]/\RelV v u1/\RelV w u2:=by
  cases r1 with
  | cons p q=>
   cases q with
   | cons p' q'=>
    cases q';exact⟨_,_,rfl,p,p'⟩
 refine ck ?_ sZ2;have I2:Inv X aC σ H1 {s1 with heap:=s1.heap.push {cls:=.type "tuple",data:=.seq [u1,u2].toArray}}:=I1.kept (t':=s1.toks) λb o e=>aj _ e;rw[hw];refine ab<|ah ?_;show aH (aI X.prog X.w) X.A (do qF "assign.swapped-stores";let items <-unpackItems (.ref s1.heap.objs.size) 2 none;qQ [λv=>xT X.env y v,λv=>xT X.env x v] items.reverse;aS Flow.next) _ _ _;refine ab<|jm<|ab<|unpackItems_tuple (items:=#[u1,u2]) (I.ok.hd hc) (lB.new s1.heap _) λh' vJ=>?_;have I3:=I2.kept (h':=h') (t':=s1.toks) λb o e=>vJ b o (cf<|bb e) e;show aH _ _ (qQ [λv=>xT X.env y v,λv=>xT X.env x v] [u2,u1] >>= λ_=>aS Flow.next) _ _ _;refine ab<|jZ<|wpAny_bindName<|Hw I3 hN hj (.inl hy) lZ (λs2 I4=>?_)<|.inr hy;refine jZ<|wpAny_bindName<|Hw I4 hN hi (.inl hx) rv (λs3 I5=>Ef<|ah ?_)<|.inr hx;rw[List.set_comm _ _ (Ne.symm cJ)]at I5;exact⟨_,H1,I5,q1⟩
end
structure It where
 go:Nat->Hp->Prop
 yld:Nat->Hp->V->Hp->Prop
 stop:Nat->Hp->Prop
def mQ(X:Cx)(aC:Z (aG×Obj))(H:Hp)(b:aG):Prop:=
 H b=none/\b≠X.env.locals/\b∉X.fs/\(b∈X.ex\/X.s₀.heap.objs.size<=b)/\(∀x c,X.env.cells.lookup x=some c->c≠b)/\∀p∈X.pn++aC,p.1≠b
def Inv.fpOk{X:Cx}{aC:Z (aG×Obj)}{σ:St}{H H':Hp}{s:aB}{b:aG}(I:Inv X aC σ H s)(hb:s.heap.objs.size<=b)(hn:H' b=none):mQ X aC H' b:=by
 refine⟨hn,Nat.ne_of_gt<|cw I.lt hb,I.nofs hb,.inr<|gw I.sz hb,λx c e z=>?_,λp hp z=>?_⟩
 .obtain⟨v,q⟩:=I.cell x c e;exact absurd (cw q.lt<|by rw[z];exact hb)<|ij _
 .exact absurd (cw (bb (I.pin p hp).1)<|by rw[z];exact hb)<|ij _
structure uO(P:aM)(w:aN)(K:aw)(tg:Expr)(J:It)(fp:Z aG)(it:aG)(tn:Nat->Heap->Prop):Prop where
 mem:it∈fp
 obj:∀i h,tn i h->∀b∈fp,∃o,h.get? b=some o/\∀v,o.data≠.cell v
 keep:∀i h h',tn i h->(∀b∈fp,∀o,h.get? b=some o->h'.get? b=some o)->tn i h'
 item:∀(X:Cx),X.prog=P->X.w=w->X.K=K->X.calm=true->∀(i:Nat) (aC:Z (aG×Obj)) (s:aB) (σ:St) (H:Hp) (E:aA->aB->Prop),Inv X aC σ H s->(∀b∈fp,mQ X aC H b)->tn i s.heap->J.go i H->
  aH (aI P w) X.A (bC<|.ref it) (λr s1=>∃u,r=some u/\
   aH (aI P w) X.A (gK tg (.ref it) u) (λ_ s2=>∃x H',Inv X aC σ H' s2/\RelV x u/\J.yld i H x H'/\tn (i+1) s2.heap/\∀b∈fp,H' b=none) E s1) E s
 done:∀(X:Cx),X.prog=P->X.w=w->X.K=K->X.calm=true->∀(i:Nat) (aC:Z (aG×Obj)) (s:aB) (σ:St) (H:Hp) (E:aA->aB->Prop),Inv X aC σ H s->(∀b∈fp,mQ X aC H b)->tn i s.heap->J.stop i H->
  aH (aI P w) X.A (bC<|.ref it) (λr s1=>r=none/\Inv X aC σ H s1) E s
 self:∀(A:Around)(i:Nat)(s:aB)(Q:aA->aB->Prop)(E:aA->aB->Prop),tn i s.heap->Q (.ref it) s->aH (aI P w) A (lL<|.ref it) Q E s
abbrev TI:=St->Hp->(It->Hp->Prop)->Prop
def PIE(X:Cx)(aC:Z (aG×Obj))(σ:St)(tg:Expr)(R:It->Hp->Prop)(Ft:aA)(s2:aB):Prop:=
 ∃(it:aG)(fp:Z aG)(tn:Nat->Heap->Prop)(J:It)(H':Hp),Ft=.ref it/\Inv X aC σ H' s2/\uO X.prog X.w X.K tg J fp it tn/\tn 0 s2.heap/\(∀b∈fp,mQ X aC H' b)/\R J H'
def PI(X:Cx)(tg iter:Expr)(wi:TI):Prop:=
 ∀(aC:Z (aG×Obj)) (s:aB) (σ:St) (H:Hp) (R:It->Hp->Prop),Inv X aC σ H s->wi σ H R->
  aH (aI X.prog X.w) X.A (bQ iter X.env) (λv s1=>aH (aI X.prog X.w) X.A (lL v) (PIE X aC σ tg R) X.xe s1) X.xe s
theorem Lc{M:Model}{A:Around}{E:aA->aB->Prop}{s:aB}{tg:Expr}{it:aG}{u:aA}{o:Obj}{n:String}{vs:Array aA}{Q:Unit->aB->Prop}(ho:s.heap.get? it=some o)(hc:o.cls=.type n)(hd:o.data=.fields vs)
  (hn:["enumerate","zip","dict_itemiterator","dict_reverseitemiterator","odict_iterator","itertools.zip_longest","itertools.pairwise"].contains n=false) (hQ:Q () s):aH M A (gK tg (.ref it) u) Q E s:=by
 unfold gK;cases tg<;>first
  | exact ah hQ
  | (cases u<;>first
    | exact ah hQ
    | (refine ab<|AG ho ?_
       rw[hc,hd];show aH M A (if (["enumerate","zip","dict_itemiterator","dict_reverseitemiterator","odict_iterator","itertools.zip_longest","itertools.pairwise"].contains n&&vs[0]?==some (cW _))=true then _ else _) Q E s;rw[if_neg (by intro h;rw[hn,Bool.false_and]at h;cases h)];exact ah hQ))
noncomputable def Itl(K:aw)(a:aG):It:=
 ⟨λi H=>∃xs x,SqL K H a xs/\xs[i]?=some x,λi H x H'=>H'=H/\∀xs,SqL K H a xs->xs[i]?=some x,λi H=>∃xs,SqL K H a xs/\xs.length<=i⟩
noncomputable def Itt(K:aw)(a:aG):It:=
 ⟨λi H=>∃xs x,SqT K H a xs/\xs[i]?=some x,λi H x H'=>H'=H/\∀xs,SqT K H a xs->xs[i]?=some x,λi H=>∃xs,SqT K H a xs/\xs.length<=i⟩
noncomputable def Itr(lo:Int)(n:Nat):It:=⟨λi _=>i<n,λi H x H'=>H'=H/\x=.int (lo+i),λi _=>n<=i⟩
def xc{P:aM}{w:aN}{K:aw}{tg:Expr}(a it:aG):uO P w K tg (Itl K a) [it] it (λi h=>h.IsListIter it a i)where
 mem:=by simp
 obj:=λi h st b hb=>by
  have e:b=it:=by simpa using hb
  subst e;obtain⟨o,e,c,d⟩:=st;exact⟨o,e,λv z=>by rw[d]at z;cases z⟩
 keep:=λi h h' st k=>st.at λo e=>k it (by simp) o e
 item:=by intro X hP hw hK hc i aC s σ H E I hf st hg;subst hP hw hK;obtain⟨xs,x,hq,hx⟩:=hg;obtain⟨its,rv,p,hz⟩:=I.list hq;obtain⟨u,hu,ru⟩:=rv.get hx;obtain⟨f0,f1,f2,f3,f4,f5⟩:=hf it (by simp);refine wpAny_pyNext_list_item st p.isList (x:=u) (by simpa using hu) λh' aR sb=>?_;have I1:Inv X aC σ H {s with heap:=h'}:=I.turned (t':=s.toks) (λb o hb e=>(sb.2 b hb).trans e) f0 f1 f3 f4 f5;obtain⟨o,e,c,d⟩:=id aR;exact⟨u,rfl,Lc (s:={s with heap:=h'}) e c d (by decide) ⟨x,H,I1,ru,⟨rfl,λys hy=>by rw[I.list_inj hy hq];exact hx⟩,aR,λb hb=>(hf b hb).1⟩⟩
 done:=by intro X hP hw hK hc i aC s σ H E I hf st hg;subst hP hw hK;obtain⟨xs,hq,hx⟩:=hg;obtain⟨its,rv,p,hz⟩:=I.list hq;obtain⟨f0,f1,f2,f3,f4,f5⟩:=hf it (by simp);have hl:=rv.length;exact wpAny_pyNext_list_end (I.ok.hd hc) st p.isList (by simp;omega) λh' eb=>⟨rfl,I.turned (t':=s.toks) (λb o hb e=>eb b o hb e) f0 f1 f3 f4 f5⟩
 self:=λ_ _ _ _ _ st h=>wpAny_pyIter_listiter st h
def ad4{P:aM}{w:aN}{K:aw}{tg:Expr}(a it:aG):uO P w K tg (Itt K a) [it] it (λi h=>h.IsTupleIter it a i)where
 mem:=by simp
 obj:=λi h st b hb=>by
  have e:b=it:=by simpa using hb
  subst e;obtain⟨o,e,c,d⟩:=st;exact⟨o,e,λv z=>by rw[d]at z;cases z⟩
 keep:=λi h h' st k=>st.at λo e=>k it (by simp) o e
 item:=by intro X hP hw hK hc i aC s σ H E I hf st hg;subst hP hw hK;obtain⟨xs,x,hq,hx⟩:=hg;obtain⟨its,rv,p,hz⟩:=I.tuple hq;obtain⟨u,hu,ru⟩:=rv.get hx;obtain⟨f0,f1,f2,f3,f4,f5⟩:=hf it (by simp);refine wpAny_pyNext_tuple_item st (show s.heap.IsTuple a its.toArray from p) (x:=u) (by simpa using hu) λh' aR sb=>?_;have I1:Inv X aC σ H {s with heap:=h'}:=I.turned (t':=s.toks) (λb o hb e=>(sb.2 b hb).trans e) f0 f1 f3 f4 f5;obtain⟨o,e,c,d⟩:=id aR;exact⟨u,rfl,Lc (s:={s with heap:=h'}) e c d (by decide) ⟨x,H,I1,ru,⟨rfl,λys hy=>by rw[I.tuple_inj hy hq];exact hx⟩,aR,λb hb=>(hf b hb).1⟩⟩
 done:=by intro X hP hw hK hc i aC s σ H E I hf st hg;subst hP hw hK;obtain⟨xs,hq,hx⟩:=hg;obtain⟨its,rv,p,hz⟩:=I.tuple hq;obtain⟨f0,f1,f2,f3,f4,f5⟩:=hf it (by simp);have hl:=rv.length;exact wpAny_pyNext_tuple_end (I.ok.hd hc) st (show s.heap.IsTuple a its.toArray from p) (by simp;omega) λh' eb=>⟨rfl,I.turned (t':=s.toks) (λb o hb e=>eb b o hb e) f0 f1 f3 f4 f5⟩
 self:=λ_ _ _ _ _ st h=>wpAny_pyIter_tupleiter st h
def ak5{P:aM}{w:aN}{K:aw}{tg:Expr}(it:aG)(lo:Int)(n:Nat):uO P w K tg (Itr lo n) [it] it (λi h=>IsRangeIter h it (lo+(i:Nat)*1) ((n:Int)-(i:Nat)) 1)where
 mem:=by simp
 obj:=λi h st b hb=>by
  have e:b=it:=by simpa using hb
  subst e;exact⟨_,st,λv z=>by have z':Data.fields _=Data.cell v:=z;cases z'⟩
 keep:=λi h h' st k=>k it (by simp) _ st
 item:=by intro X hP hw hK hc i aC s σ H E I hf st hg;subst hP hw hK;obtain⟨f0,f1,f2,f3,f4,f5⟩:=hf it (by simp);have W:=gN.range (prog:=X.prog) (w:=X.w) (I.ok.hd hc) it lo 1 n;refine W.item i s _ _ hg st λv h' tk hv aR kk=>?_;obtain⟨t,rfl⟩:=hv;have I1:Inv X aC σ H {s with heap:=h',toks:=tk}:=I.turned (λb o hb e=>kk b o (by simpa using hb) e) f0 f1 f3 f4 f5;refine⟨_,rfl,Lc (s:={s with heap:=h',toks:=tk}) (n:="range_iterator") aR rfl rfl (by decide) ⟨.int<|lo+i,H,I1,⟨t,?_⟩,⟨rfl,rfl⟩,aR,λb hb=>(hf b hb).1⟩⟩;rw[Int.mul_one]
 done:=by intro X hP hw hK hc i aC s σ H E I hf st hg;subst hP hw hK;obtain⟨f0,f1,f2,f3,f4,f5⟩:=hf it (by simp);exact wpAny_pyNext_range_end (I.ok.hd hc) st (by have:n<=i:=hg;omega) λh' eb=>⟨rfl,I.turned (t':=s.toks) (λb o hb e=>eb b o hb e) f0 f1 f3 f4 f5⟩
 self:=λ_ _ _ _ _ st h=>wpAny_pyIter_rangeiter st h
section
variable{X:Cx}{tg:Expr}
def BS(K:aw)(tl:TE):TI:=λσ H R=>tl σ H λx H1=>∃a,x=.ref a/\(∃xs,SqL K H1 a xs)/\R (Itl K a) H1
def a24(K:aw)(tl:TE):TI:=λσ H R=>tl σ H λx H1=>∃a,x=.ref a/\(∃xs,SqT K H1 a xs)/\R (Itt K a) H1
def B0{l:Expr}{tl:TE}(hl:PE X l tl):PI X tg l (BS X.K tl):=by
 intro aC s σ H R I h;refine thn (hl aC s σ H _ I h) λv s1 ⟨x,H1,I1,r1,q1⟩=>?_;obtain⟨a,e,⟨xs,hq⟩,q⟩:=q1;subst e;cases r1;obtain⟨its,rv,p,hz⟩:=I1.list hq;refine kj p.isList ?_;refine⟨s1.heap.objs.size,[s1.heap.objs.size],_,_,H1,rfl,I1.kept (t':=s1.toks) λb o e=>aj _ e,xc a _,⟨_,a7 _ rfl,rfl,rfl⟩,λb hb=>?_,q⟩;have e:b=s1.heap.objs.size:=by simpa using hb
 subst e;exact I1.fpOk (ao _)<|I1.hok.fresh<|ao _
def LH{l:Expr}{tl:TE}(hl:PE X l tl):PI X tg l (a24 X.K tl):=by
 intro aC s σ H R I h;refine thn (hl aC s σ H _ I h) λv s1 ⟨x,H1,I1,r1,q1⟩=>?_;obtain⟨a,e,⟨xs,hq⟩,q⟩:=q1;subst e;cases r1;obtain⟨its,rv,p,hz⟩:=I1.tuple hq;refine cV (show s1.heap.IsTuple a its.toArray from p) ?_;refine⟨s1.heap.objs.size,[s1.heap.objs.size],_,_,H1,rfl,I1.kept (t':=s1.toks) λb o e=>aj _ e,ad4 a _,⟨_,a7 _ rfl,rfl,rfl⟩,λb hb=>?_,q⟩;have e:b=s1.heap.objs.size:=by simpa using hb
 subst e;exact I1.fpOk (ao _)<|I1.hok.fresh<|ao _
def apr{aC:Z (aG×Obj)}{σ:St}{H:Hp}{s:aB}{R:It->Hp->Prop}{E:aA->aB->Prop}{lo hi:Int}{t u v:tU}{tk:Nat}(I:Inv X aC σ H s)(h1:-(2^62)<=lo)(h2:lo<2^62)(h3:-(2^62)<=hi)(h4:hi<2^62)
  (q:R (Itr lo (hi-lo).toNat) H):aH (aI X.prog X.w) X.A (lL<|.ref s.heap.objs.size) (PIE X aC σ tg R) E {s with heap:=s.heap.push {cls:=.type "range",data:=.fields #[.int lo t,.int hi u,.int 1 v]},toks:=tk}:=by
 refine wpAny_pyIter_range (IsRange.new ..) (small_one h1 h2 h3 h4) ?_;have I1:Inv X aC σ H {s with heap:=s.heap.push {cls:=.type "range",data:=.fields #[.int lo t,.int hi u,.int 1 v]},toks:=tk}:=I.kept λb o e=>aj _ e;refine⟨(s.heap.push {cls:=.type "range",data:=.fields #[.int lo t,.int hi u,.int 1 v]}).objs.size,[(s.heap.push {cls:=.type "range",data:=.fields #[.int lo t,.int hi u,.int 1 v]}).objs.size],_,_,H,rfl,
  I1.kept (t':=tk) λb o e=>aj _ e,ak5 _ lo (hi-lo).toNat,?_,λb hb=>?_,q⟩
 .have e1:lo+((0:Nat):Int)*1=lo:=by simp
  have e2:(((hi-lo).toNat:Nat):Int)-((0:Nat):Int)=Builtin.Range.rangeSize lo hi 1:=by rw[rangeSize_one];split<;>omega
  show IsRangeIter _ _ (lo+((0:Nat):Int)*1) ((((hi-lo).toNat:Nat):Int)-((0:Nat):Int)) 1;rw[e1,e2];exact a7 _ rfl
 .have e:b=(s.heap.push {cls:=.type "range",data:=.fields #[.int lo t,.int hi u,.int 1 v]}).objs.size:=by simpa using hb
  subst e;exact I1.fpOk (ao _)<|I1.hok.fresh<|ao _
def Lb(ta:TA):TI:=λσ H R=>ta σ H λvs H1=>∃j:Int,vs=[.int j]/\-(2^62)<=j/\j<2^62/\R (Itr 0 j.toNat) H1
theorem apa{a:Expr}{ta:TA}{p pos:dH}(hg:Gl X "range")(hm:X.mg "range" = none)(ha:PA X [a] ta)(hs:aU [a] X.env=[(false,bQ a X.env)]:=by rfl):PI X tg (.Call (.Name "range" p) [a] [] pos) (Lb ta):=by
 intro aC s σ H R I h;refine Call_<|wq I hg hm boot_range<|gd (thn (ha pos aC s σ H _ I h) λus s1 ⟨vs,H1,I1,r1,q1⟩=>?_) hs rfl;obtain⟨j,e,q1,q2,q⟩:=q1;subst e;cases r1 with
 | cons r rr=>
  cases rr;obtain⟨t,rfl⟩:=r;exact call_range_1<|apr I1 (by omega) (by omega) q1 q2<|by simpa using q
def a22(wi:TI)(g:TG)(tb:TS):TS:=λD σ H=>wi σ H λJ H1=>∃W:Nat->Nat->St->Hp->Prop,(∃m,W 0 m σ H1)/\∀i m σ H,W i m σ H->
 (J.stop i H/\D.nx σ H)\/(J.go i H/\∃N:St->Hp->Prop,(∀σ' H',N σ' H'->∃m',m'<m/\W (i+1) m' σ' H')/\∀x H',J.yld i H x H'->g x σ H' λσ2 H2=>tb {D with nx:=N,ct:=N,bk:=D.nx} σ2 H2)
noncomputable def En(fp:Z aG)(h:Heap):Z (aG×Obj):=fp.filterMap λb=>(h.get? b).map λo=>(b,o)
def xx{fp:Z aG}{h:Heap}{b:aG}{o:Obj}(hb:b∈fp)(e:h.get? b=some o):(b,o)∈En fp h:=List.mem_filterMap.mpr ⟨b,hb,by rw[e];rfl⟩
theorem anc{fp:Z aG}{h:Heap}{p:aG×Obj}(hp:p∈En fp h):p.1∈fp/\h.get? p.1=some p.2:=by
 obtain⟨b,hb,e⟩:=List.mem_filterMap.mp hp;cases q:h.get? b with
 | none=>rw[q]at e;cases e
 | some o=>
  rw[q]at e;have e':(b,o)=p:=gp e;subst e';exact⟨hb,q⟩
def Inv.pinned{aC:Z (aG×Obj)}{σ:St}{H:Hp}{s:aB}{fp:Z aG}(I:Inv X aC σ H s)(hf:∀b∈fp,mQ X aC H b)(ho:∀b∈fp,∃o,s.heap.get? b=some o/\∀v,o.data≠.cell v):Inv X (aC++En fp s.heap) σ H s:=
 I.pins_of λp hp=>(bw.mp hp).elim (λz=>I.pin p<|dq _ z) λz=>by obtain⟨hb,e⟩:=anc z;obtain⟨f0,f1,f2,_⟩:=hf p.1 hb;obtain⟨o,e',d⟩:=ho p.1 hb;rw[e]at e';cases e';exact⟨e,f0,f1,f2,d⟩
def Inv.unpinned{aC pl:Z (aG×Obj)}{σ:St}{H:Hp}{s:aB}(I:Inv X (aC++pl) σ H s):Inv X aC σ H s:=I.pins_of λp hp=>I.pin p<|dq _<|kh _ hp
theorem ayn{iter:Expr}{body:Z aZ}{wi:TI}{g:TG}{tb:TS}{pos:dH}(hp:HN (aI X.prog X.w) X.A X.env X.xe)(hc:X.calm=true)(hi:PI X tg iter wi)(hg:PG X tg g)(hb:PSs X body tb)
  (hs:∀x,bZ iter X.env x=aS x:=by intro _;rfl):PS X (.For tg iter body [] pos) (a22 wi g tb):=by
 intro aC s σ H D I h;refine wpAny_For (thn (hi aC s σ H _ I h) λv s1 h1=>thn h1 λFt s2 h2=>?_) hs;obtain⟨it,fp,tn,J,H2,e,I2,T,lY,f2,W,⟨m0,w0⟩,turn⟩:=h2;subst e;have mZ:∀{H':Hp},(∀b∈fp,H' b=none)->∀b∈fp,mQ X aC H' b:=λhn b hb=>⟨hn b hb,(f2 b hb).2⟩;refine codeAny_forLoop_any (λn s'=>∃i σ' H',Inv X aC σ' H' s'/\tn i s'.heap/\(∀b∈fp,H' b=none)/\W i n σ' H') ?_ m0 ⟨0,σ,H2,I2,lY,λb hb=>(f2 b hb).1,w0⟩;rintro n s3 ⟨i,σ3,H3,I3,kB,fr3,w3⟩;rcases turn i n σ3 H3 w3 with ⟨stop,qn⟩|⟨go,N,hN,step⟩
 .refine eE hp<|thn (T.done X rfl rfl rfl hc i aC s3 σ3 H3 X.xe I3 (mZ fr3) kB stop) λr s4 ⟨hr,I4⟩=>?_;subst hr;exact mT ⟨σ3,H3,I4,qn⟩
 .refine eE hp<|thn (T.item X rfl rfl rfl hc i aC s3 σ3 H3 X.xe I3 (mZ fr3) kB go) λr s4 ⟨u,hr,h4⟩=>?_;subst hr;refine eE hp<|thn h4 λ_ s5 ⟨x,H5,I5,r5,y5,vC,F1⟩=>?_;have I5':=I5.pinned (mZ F1)<|T.obj _ _ vC;refine eE hp<|thn (hg _ s5 σ3 H5 x u _ I5' r5<|step x H5 y5) λ_ s6 ⟨σ6,H6,I6,q6⟩=>?_;refine eE hp<|thn (hb _ s6 σ6 H6 _ I6 q6) λf s7 q7=>?_;have again:∀{σ7:St} {H7:Hp},Inv X (aC++En fp s5.heap) σ7 H7 s7->N σ7 H7->∃m,m<n/\∃i σ' H',Inv X aC σ' H' s7/\tn i s7.heap/\(∀b∈fp,H' b=none)/\W i m σ' H':=λ{σ7 H7} I7 n7=>by
   obtain⟨m',hm,w7⟩:=hN σ7 H7 n7;refine⟨m',hm,i+1,σ7,H7,I7.unpinned,T.keep _ _ _ vC λb hb o e=>(I7.pin (b,o)<|dq _<|dq _<|xx hb e).1,λb hb=>?_,w7⟩;obtain⟨o,e,d⟩:=T.obj _ _ vC b hb;exact(I7.pin (b,o)<|dq _<|dq _<|xx hb e).2.1
  cases f with
  | next=>obtain⟨σ7,H7,I7,n7⟩:=q7;exact again I7 n7
  | cont=>obtain⟨σ7,H7,I7,n7⟩:=q7;exact again I7 n7
  | brk=>obtain⟨σ7,H7,I7,q7⟩:=q7;exact⟨σ7,H7,I7.unpinned,q7⟩
  | ret v=>obtain⟨x7,σ7,H7,I7,r7,q7⟩:=q7;exact⟨x7,σ7,H7,I7.unpinned,r7,q7⟩
end
def su{K:aw}{a:aG}{xs:Z V}{g:TG}{tb:TS}{D:kZ}{σ:St}{H:Hp}(Pv:Nat->St->Hp->Prop)(h0:Pv 0 σ H)(hl:∀i σ H,i<=xs.length->Pv i σ H->SqL K H a xs)
  (hs:∀i x σ H,xs[i]?=some x->Pv i σ H->g x σ H λσ2 H2=>tb {D with nx:=Pv<|i+1,ct:=Pv<|i+1,bk:=D.nx} σ2 H2) (hd:∀σ H,Pv xs.length σ H->D.nx σ H) :
  ∃W:Nat->Nat->St->Hp->Prop,(∃m,W 0 m σ H)/\∀i m σ H,W i m σ H->
   ((Itl K a).stop i H/\D.nx σ H)\/((Itl K a).go i H/\∃N:St->Hp->Prop,(∀σ' H',N σ' H'->∃m',m'<m/\W (i+1) m' σ' H')/\∀x H',(Itl K a).yld i H x H'->g x σ H' λσ2 H2=>tb {D with nx:=N,ct:=N,bk:=D.nx} σ2 H2):=by
 refine⟨λi m σ H=>m=xs.length-i/\i<=xs.length/\Pv i σ H,⟨xs.length,by simp,fk _,h0⟩,?_⟩;rintro i m σ H ⟨rfl,hi,p⟩;have q:=hl i σ H hi p;by_cases bN:i<xs.length
 .refine .inr ⟨⟨xs,xs[i],q,by simp[bN]⟩,Pv<|i+1,λσ' H' p'=>⟨xs.length-(i+1),by omega,rfl,bN,p'⟩,λx H' y=>?_⟩;obtain⟨e,y⟩:=y;subst e;exact hs i x σ _ (y xs q) p
 .have e:i=xs.length:=by omega
  subst e;exact .inl ⟨⟨xs,q,ao _⟩,hd σ H p⟩
def yt{K:aw}{a:aG}{xs:Z V}{g:TG}{tb:TS}{D:kZ}{σ:St}{H:Hp}(Pv:Nat->St->Hp->Prop)(h0:Pv 0 σ H)(hl:∀i σ H,i<=xs.length->Pv i σ H->SqT K H a xs)
  (hs:∀i x σ H,xs[i]?=some x->Pv i σ H->g x σ H λσ2 H2=>tb {D with nx:=Pv<|i+1,ct:=Pv<|i+1,bk:=D.nx} σ2 H2) (hd:∀σ H,Pv xs.length σ H->D.nx σ H) :
  ∃W:Nat->Nat->St->Hp->Prop,(∃m,W 0 m σ H)/\∀i m σ H,W i m σ H->
   ((Itt K a).stop i H/\D.nx σ H)\/((Itt K a).go i H/\∃N:St->Hp->Prop,(∀σ' H',N σ' H'->∃m',m'<m/\W (i+1) m' σ' H')/\∀x H',(Itt K a).yld i H x H'->g x σ H' λσ2 H2=>tb {D with nx:=N,ct:=N,bk:=D.nx} σ2 H2):=by
 refine⟨λi m σ H=>m=xs.length-i/\i<=xs.length/\Pv i σ H,⟨xs.length,by simp,fk _,h0⟩,?_⟩;rintro i m σ H ⟨rfl,hi,p⟩;have q:=hl i σ H hi p;by_cases bN:i<xs.length
 .refine .inr ⟨⟨xs,xs[i],q,by simp[bN]⟩,Pv<|i+1,λσ' H' p'=>⟨xs.length-(i+1),by omega,rfl,bN,p'⟩,λx H' y=>?_⟩;obtain⟨e,y⟩:=y;subst e;exact hs i x σ _ (y xs q) p
 .have e:i=xs.length:=by omega
  subst e;exact .inl ⟨⟨xs,q,ao _⟩,hd σ H p⟩
def ug{lo:Int}{n:Nat}{g:TG}{tb:TS}{D:kZ}{σ:St}{H:Hp}(Pv:Nat->St->Hp->Prop)(h0:Pv 0 σ H)
  (hs:∀i σ H,i<n->Pv i σ H->g (.int<|lo+i) σ H λσ2 H2=>tb {D with nx:=Pv<|i+1,ct:=Pv<|i+1,bk:=D.nx} σ2 H2) (hd:∀σ H,Pv n σ H->D.nx σ H) :
  ∃W:Nat->Nat->St->Hp->Prop,(∃m,W 0 m σ H)/\∀i m σ H,W i m σ H->
   ((Itr lo n).stop i H/\D.nx σ H)\/((Itr lo n).go i H/\∃N:St->Hp->Prop,(∀σ' H',N σ' H'->∃m',m'<m/\W (i+1) m' σ' H')/\∀x H',(Itr lo n).yld i H x H'->g x σ H' λσ2 H2=>tb {D with nx:=N,ct:=N,bk:=D.nx} σ2 H2):=by
 refine⟨λi m σ H=>m=n-i/\i<=n/\Pv i σ H,⟨n,by simp,fk _,h0⟩,?_⟩;rintro i m σ H ⟨rfl,hi,p⟩;by_cases bN:i<n
 .refine .inr ⟨bN,Pv<|i+1,λσ' H' p'=>⟨n-(i+1),by omega,rfl,bN,p'⟩,λx H' y=>?_⟩;obtain⟨e,y⟩:=y;subst e y;exact hs i σ _ bN p
 .have e:i=n:=by omega
  subst e;exact .inl ⟨ao _,hd σ H p⟩
abbrev R2:=V->V->Hp->VK->Prop
def OpR(X:Cx)(f:aA->aA->nP aA)(r:R2):Prop:=
 ∀(aC:Z (aG×Obj)) (s:aB) (σ:St) (H:Hp) (x y:V) (v u:aA) (Q:VK),Inv X aC σ H s->RelV x v->RelV y u->r x y H Q->
  aH (aI X.prog X.w) X.A (f v u) (EP X aC σ Q) X.xe s
def UnR(X:Cx)(f:aA->nP aA)(r:V->Hp->VK->Prop):Prop:=
 ∀(aC:Z (aG×Obj)) (s:aB) (σ:St) (H:Hp) (x:V) (v:aA) (Q:VK),Inv X aC σ H s->RelV x v->r x H Q->
  aH (aI X.prog X.w) X.A (f v) (EP X aC σ Q) X.xe s
def um(X:Cx)(f:aA)(r:Z V->Hp->VK->Prop):Prop:=
 ∀(aC:Z (aG×Obj)) (s:aB) (σ:St) (H:Hp) (xs:Z V) (us:Z aA) (Q:VK),Inv X aC σ H s->Vals xs us->r xs H Q->
  aH (aI X.prog X.w) X.A (call f us) (EP X aC σ Q) X.xe s
def tOp(r:R2)(ta tb:TE):TE:=λσ H Q=>ta σ H λx H1=>tb σ H1 λy H2=>r x y H2 Q
def tUn(r:V->Hp->VK->Prop)(ta:TE):TE:=λσ H Q=>ta σ H λx H1=>r x H1 Q
def rI(C:Int->Int->Prop)(g:Int->Int->V):R2:=λx y H Q=>∃i j,x=.int i/\y=.int j/\C i j/\Q (g i j) H
def rI0(g:Int->Int->V):R2:=λx y H Q=>∃i j,x=.int i/\y=.int j/\Q (g i j) H
def rU(g:Int->V):V->Hp->VK->Prop:=λx H Q=>∃i,x=.int i/\Q (g i) H
section
variable{X:Cx}{a b c:Expr}{ta tb tc:TE}{pos:dH}
def M0(ha:PE X a ta)(hb:PE X b tb){aC:Z (aG×Obj)}{s:aB}{σ:St}{H:Hp}{R:V->V->Hp->Prop}(I:Inv X aC σ H s)
  (h:ta σ H λx H1=>tb σ H1 λy H2=>R x y H2) {Q:aA->aB->Prop} {f:aA->aA->nP aA}
  (hf:∀v u s2 x y H2,Inv X aC σ H2 s2->RelV x v->RelV y u->R x y H2->aH (aI X.prog X.w) X.A (f v u) Q X.xe s2) :
  aH (aI X.prog X.w) X.A (bQ a X.env) (λv s₁=>aH (aI X.prog X.w) X.A (bQ b X.env) (λu s₂=>aH (aI X.prog X.w) X.A (f v u) Q X.xe s₂) X.xe s₁) X.xe s:=by
 refine thn (ha aC s σ H _ I h) λv s1 ⟨x,H1,I1,r1,q1⟩=>?_;refine thn (hb aC s1 σ H1 _ I1 q1) λu s2 ⟨y,H2,I2,r2,q2⟩=>?_;exact hf v u s2 x y H2 I2 r1 r2 q2
def om{op:Operator}{r:R2}(ho:OpR X (dP op) r)(ha:PE X a ta)(hb:PE X b tb):PE X (.BinOp a op b pos) (tOp r ta tb):=by intro aC s σ H Q I h;exact wpAny_BinOp<|M0 ha hb I h λv u s2 x y H2 I2 rx ry q=>ho aC s2 σ H2 x y v u Q I2 rx ry q
def Gs{op:UnaryOp}{r:V->Hp->VK->Prop}(ho:UnR X (unaryOp op) r)(ha:PE X a ta):PE X (.UnaryOp op a pos) (tUn r ta):=by intro aC s σ H Q I h;exact UnaryOp_<|thn (ha aC s σ H _ I h) λv s1 ⟨x,H1,I1,r1,q1⟩=>ho aC s1 σ H1 x v Q I1 r1 q1
def opI{f:aA->aA->nP aA}{C:Int->Int->Prop}{g:Int->Int->Int}
  (qF:∀(i j:Int)(t u:tU)(s:aB)(Q:aA->aB->Prop)(E:aA->aB->Prop),C i j->Q (.int (g i j) s.toks) {s with toks:=s.toks+1}->aH (aI X.prog X.w) X.A (f (.int i t)<|.int j u) Q E s) :
  OpR X f (rI C λi j=>.int<|g i j):=by
 intro aC s σ H x y v u Q I rx ry h;obtain⟨i,j,rfl,rfl,hc,q⟩:=h;obtain⟨t,rfl⟩:=rx;obtain⟨t',rfl⟩:=ry;exact qF i j t t' s _ _ hc ⟨.int<|g i j,H,I.tok _,⟨_,rfl⟩,q⟩
def a2w{f:aA->aA->nP aA}{g:Int->Int->Int}
  (qF:∀(i j:Int)(t u:tU)(s:aB)(Q:aA->aB->Prop)(E:aA->aB->Prop),Q (.int (g i j) s.toks) {s with toks:=s.toks+1}->aH (aI X.prog X.w) X.A (f (.int i t)<|.int j u) Q E s) :
  OpR X f (rI0 λi j=>.int<|g i j):=by
 intro aC s σ H x y v u Q I rx ry h;obtain⟨i,j,rfl,rfl,q⟩:=h;obtain⟨t,rfl⟩:=rx;obtain⟨t',rfl⟩:=ry;exact qF i j t t' s _ _ ⟨.int<|g i j,H,I.tok _,⟨_,rfl⟩,q⟩
def Gh{f:aA->aA->nP aA}{g:Int->Int->Bool}
  (qF:∀(i j:Int)(t u:tU)(s:aB)(Q:aA->aB->Prop)(E:aA->aB->Prop),Q (.bool<|g i j) s->aH (aI X.prog X.w) X.A (f (.int i t)<|.int j u) Q E s) :
  OpR X f (rI0 λi j=>.bl<|g i j):=by
 intro aC s σ H x y v u Q I rx ry h;obtain⟨i,j,rfl,rfl,q⟩:=h;obtain⟨t,rfl⟩:=rx;obtain⟨t',rfl⟩:=ry;exact qF i j t t' s _ _ ⟨.bl<|g i j,H,I,rfl,q⟩
def a3d(i j:Int):Prop:=0<j/\j<1073741824
def CMul(i j:Int):Prop:=(-(2^64)<i/\i<2^64)\/(-(2^64)<j/\j<2^64)
def CMul.ok{i j:Int}(h:CMul i j):IntMulOk i j:=by
 rcases h with ⟨h1,h2⟩|⟨h1,h2⟩
 .exact .of_left<|intBits_le_64 h1 h2
 .exact .of_right<|intBits_le_64 h1 h2
def qz:OpR X (dP .Add) (rI0 λi j=>.int<|i+j):=a2w λ_ _ _ _ _ _ _ q=>add_int q
def yb:OpR X (dP .Sub) (rI0 λi j=>.int<|i-j):=a2w λ_ _ _ _ _ _ _ q=>PyProof.Rows.sub_int q
def GV:OpR X (dP .Mult) (rI CMul λi j=>.int<|i*j):=opI λ_ _ _ _ _ _ _ hc q=>mul_int q hc.ok
def GY:OpR X (dP .FloorDiv) (rI a3d λi j=>.int<|i/j):=opI λi j _ _ _ _ _ hc q=>by have h1:(0:Int)<j:=hc.1;have h2:j<1073741824:=hc.2;exact floordiv_int (by omega) (by rw[Int.fdiv_eq_ediv_of_nonneg i (by omega)];exact q)<|.inl<|PyProof.noPylong_small<|by omega
def qp:OpR X (dP .Mod) (rI (λ_ j=>0<j) λi j=>.int<|i % j):=opI λi j _ _ _ _ _ hc q=>by have h1:(0:Int)<j:=hc;exact mod_int' (by omega)<|by rw[Int.fmod_eq_emod_of_nonneg i (by omega)];exact q
def unI{f:aA->nP aA}{g:Int->Int}
  (qF:∀(i:Int)(t:tU)(s:aB)(Q:aA->aB->Prop)(E:aA->aB->Prop),Q (.int (g i) s.toks) {s with toks:=s.toks+1}->aH (aI X.prog X.w) X.A (f<|.int i t) Q E s) :
  UnR X f (rU λi=>.int<|g i):=by
 intro aC s σ H x v Q I rx h;obtain⟨i,rfl,q⟩:=h;obtain⟨t,rfl⟩:=rx;exact qF i t s _ _ ⟨.int<|g i,H,I.tok _,⟨_,rfl⟩,q⟩
def GN:UnR X (unaryOp .USub) (rU λi=>.int<|-i):=unI λ_ _ _ _ _ q=>neg_int q
end
noncomputable def a2z:V->V->Bool
 | .non,.non=>true|.non,.int _=>true|.int _,.non=>true|.non,.bl _=>true|.bl _,.non=>true|.non,.str _=>true|.str _,.non=>true
 | .int _,.int _=>true|.bl _,.bl _=>true|.str _,.str _=>true|.byt _,.byt _=>true
 | .int _,.str _=>true|.str _,.int _=>true|.bl _,.str _=>true|.str _,.bl _=>true
 | _,_=>false
def rEq:R2:=λx y H Q=>a2z x y=true/\Q (.bl<|decide<|x=y) H
def rNe:R2:=λx y H Q=>a2z x y=true/\Q (.bl<|!decide (x=y)) H
def anq{i j:Int}:decide (V.int i=V.int j)=(i==j):=by rw[ji];simp
def ata{i j:Bool}:decide (V.bl i=V.bl j)=(i==j):=by rw[ji];simp
def B4{i j:Str}:decide (V.str i=V.str j)=(i==j):=by rw[ji];simp
def apg{i j:Array UInt8}:decide (V.byt i=V.byt j)=(i.toList==j.toList):=by rw[ji];cases i;cases j;simp
section
variable{X:Cx}{a b c:Expr}{ta tb tc:TE}{pos:dH}
def qf{aC:Z (aG×Obj)}{σ:St}{H:Hp}{s:aB}{Q:VK}{k k':Bool}(I:Inv X aC σ H s)(q:Q (.bl k) H)(e:k=k'):EP X aC σ Q (.bool k') s:=by subst e;exact⟨.bl k,H,I,rfl,q⟩
theorem Gx:OpR X (aY .Eq) rEq:=by
 intro aC s σ H x y v u Q I rx ry h;obtain⟨hs,q⟩:=h;cases x with
 | non=>
  cases rx;cases y with
  | non=>cases ry;exact PySem.EqNone.eq_none_none (qf I q<|by simp)
  | bl j=>cases ry;exact PySem.EqNone.eq_none_bool (qf I q<|by simp)
  | int j=>obtain⟨t',rfl⟩:=ry;exact PySem.EqNone.eq_none_int (qf I q<|by simp)
  | str j=>obtain⟨t',rfl⟩:=ry;exact PySem.EqNone.eq_none_str (qf I q<|by simp)
  | _=>exact absurd (show false=true from hs) am
 | bl i=>
  cases rx;cases y with
  | non=>cases ry;exact PySem.EqNone.eq_bool_none (qf I q<|by simp)
  | bl j=>cases ry;exact eq_bool (qf I q ata)
  | str j=>obtain⟨t',rfl⟩:=ry;exact PySem.EqMixed.eq_bool_str (qf I q<|by simp)
  | _=>exact absurd (show false=true from hs) am
 | int i=>
  obtain⟨t,rfl⟩:=rx;cases y with
  | non=>cases ry;exact PySem.EqNone.eq_int_none (qf I q<|by simp)
  | int j=>obtain⟨t',rfl⟩:=ry;exact eq_int (qf I q anq)
  | str j=>obtain⟨t',rfl⟩:=ry;exact PySem.EqMixed.eq_int_str (qf I q<|by simp)
  | _=>exact absurd (show false=true from hs) am
 | str i=>
  obtain⟨t,rfl⟩:=rx;cases y with
  | non=>cases ry;exact PySem.EqNone.eq_str_none (qf I q<|by simp)
  | bl j=>cases ry;exact PySem.EqMixed.eq_str_bool (qf I q<|by simp)
  | int j=>obtain⟨t',rfl⟩:=ry;exact PySem.EqMixed.eq_str_int (qf I q<|by simp)
  | str j=>obtain⟨t',rfl⟩:=ry;exact eq_str (qf I q B4)
  | _=>exact absurd (show false=true from hs) am
 | byt i=>
  obtain⟨t,rfl⟩:=rx;cases y with
  | byt j=>obtain⟨t',rfl⟩:=ry;exact PySem.W.eq_bytes (qf I q apg)
  | _=>exact absurd (show false=true from hs) am
 | _=>cases y<;>exact absurd (show false=true from hs) am
theorem Ej:OpR X (aY .NotEq) rNe:=by
 intro aC s σ H x y v u Q I rx ry h;obtain⟨hs,q⟩:=h;cases x with
 | non=>
  cases rx;cases y with
  | non=>cases ry;exact PySem.EqNone.ne_none_none (qf I q<|by simp)
  | bl j=>cases ry;exact PySem.EqNone.ne_none_bool (qf I q<|by simp)
  | int j=>obtain⟨t',rfl⟩:=ry;exact PySem.EqNone.ne_none_int (qf I q<|by simp)
  | str j=>obtain⟨t',rfl⟩:=ry;exact PySem.EqNone.ne_none_str (qf I q<|by simp)
  | _=>exact absurd (show false=true from hs) am
 | bl i=>
  cases rx;cases y with
  | non=>cases ry;exact PySem.EqNone.ne_bool_none (qf I q<|by simp)
  | bl j=>cases ry;exact ne_bool (qf I q<|congrArg not ata)
  | str j=>obtain⟨t',rfl⟩:=ry;exact PySem.EqMixed.ne_bool_str (qf I q<|by simp)
  | _=>exact absurd (show false=true from hs) am
 | int i=>
  obtain⟨t,rfl⟩:=rx;cases y with
  | non=>cases ry;exact PySem.EqNone.ne_int_none (qf I q<|by simp)
  | int j=>obtain⟨t',rfl⟩:=ry;exact ne_int (qf I q<|congrArg not anq)
  | str j=>obtain⟨t',rfl⟩:=ry;exact PySem.EqMixed.ne_int_str (qf I q<|by simp)
  | _=>exact absurd (show false=true from hs) am
 | str i=>
  obtain⟨t,rfl⟩:=rx;cases y with
  | non=>cases ry;exact PySem.EqNone.ne_str_none (qf I q<|by simp)
  | bl j=>cases ry;exact PySem.EqMixed.ne_str_bool (qf I q<|by simp)
  | int j=>obtain⟨t',rfl⟩:=ry;exact PySem.EqMixed.ne_str_int (qf I q<|by simp)
  | str j=>obtain⟨t',rfl⟩:=ry;exact ne_str (qf I q<|congrArg not B4)
  | _=>exact absurd (show false=true from hs) am
 | byt i=>
  obtain⟨t,rfl⟩:=rx;cases y with
  | byt j=>obtain⟨t',rfl⟩:=ry;exact PySem.W.ne_bytes (qf I q<|congrArg not apg)
  | _=>exact absurd (show false=true from hs) am
 | _=>cases y<;>exact absurd (show false=true from hs) am
def BO:OpR X (aY .Lt) (rI0 λi j=>.bl<|decide<|i<j):=Gh λ_ _ _ _ _ _ _ q=>lt_int q
def GF:OpR X (aY .LtE) (rI0 λi j=>.bl<|decide<|i<=j):=Gh λ_ _ _ _ _ _ _ q=>le_int q
def ax9:OpR X (aY .Gt) (rI0 λi j=>.bl<|decide<|j<i):=Gh λ_ _ _ _ _ _ _ q=>gt_int q
def GA:OpR X (aY .GtE) (rI0 λi j=>.bl<|decide<|j<=i):=Gh λ_ _ _ _ _ _ _ q=>ge_int q
theorem am3:OpR X (aY .IsNot) (λx y H Q=>y=.non/\Q (.bl<|!decide (x=.non)) H):=by
 intro aC s σ H x y v u Q I rx ry h;obtain⟨rfl,q⟩:=h;cases ry;refine isnot_none_gen<|qf I q ?_;cases x<;>first
  | (cases rx;rfl)
  | (obtain⟨t,rfl⟩:=rx;rfl)
def qy(b:Expr){op:lC}(h:op≠.In:=by decide)(h2:op≠.NotIn:=by decide):dZ op b=false:=by
 have e1:(op==lC.In)=false:=by cases op<;>first|rfl|exact absurd rfl h
 have e2:(op==lC.NotIn)=false:=by cases op<;>first|rfl|exact absurd rfl h2
 cases b<;>simp[dZ,e1,e2]
def vp{op:lC}{r:R2}(ho:OpR X (aY op) r)(ha:PE X a ta)(hb:PE X b tb)(hm:dZ op b=false):PE X (.Compare a [op] [b] pos) (tOp r ta tb):=by intro aC s σ H Q I h;exact wpAny_Compare1 (M0 ha hb I h λv u s2 x y H2 I2 rx ry q=>ho aC s2 σ H2 x y v u Q I2 rx ry q) hm
def ayg(t:TE):TT:=λσ H Q=>t σ H λx H'=>∃k,x=.bl k/\Q k H'
def qm{op:lC}{r:R2}(ho:OpR X (aY op) r)(ha:PE X a ta)(hb:PE X b tb)(hm:dZ op b=false):PT X (.Compare a [op] [b] pos) (ayg<|tOp r ta tb):=by
 intro aC s σ H Q I h;refine uY (thn (ha aC s σ H _ I h) λv s1 ⟨x,H1,I1,r1,q1⟩=>thn (hb aC s1 σ H1 _ I1 q1) λu s2 ⟨y,H2,I2,r2,q2⟩=>
  thn (ho aC s2 σ H2 x y v u _ I2 r1 r2 q2) λc s3 ⟨z,H3,I3,r3,k,e,q3⟩=>?_) hm
 subst e;cases r3;exact gc ⟨H3,I3,q3⟩
def asl(r r':R2)(ta tb tc:TE):TE:=λσ H Q=>ta σ H λx H1=>tb σ H1 λy H2=>r x y H2 λz H3=>∃k,z=.bl k/\
 (if k=true then tc σ H3 λw' H4=>r' y w' H4 Q else Q (.bl false) H3)
theorem aju{op yS:lC}{r r':R2}(ho:OpR X (aY op) r)(sR:OpR X (aY yS) r')(ha:PE X a ta)(hb:PE X b tb)(hc:PE X c tc)
  (hm:lastMarks [op,yS] [b,c]=false:=by with_unfolding_all rfl):PE X (.Compare a [op,yS] [b,c] pos) (asl r r' ta tb tc):=by
 intro aC s σ H Q I h;refine Compare_chain (thn (ha aC s σ H _ I h) λv s1 ⟨x,H1,I1,r1,q1⟩=>chain_link (thn (hb aC s1 σ H1 _ I1 q1) λu s2 ⟨y,H2,I2,r2,q2⟩=>
  thn (ho aC s2 σ H2 x y v u _ I2 r1 r2 q2) λd s3 ⟨z,H3,I3,r3,k,e,q3⟩=>?_)) hm
 subst e;cases r3;refine gc ?_;cases k with
 | false=>exact ite_ff ⟨.bl false,H3,I3,rfl,q3⟩
 | true=>exact ite_tt<|chain_last<|thn (hc aC s3 σ H3 _ I3 q3) λw' s4 ⟨z',H4,I4,r4,q4⟩=>sR aC s4 σ H4 y z' u w' Q I4 r2 r4 q4
theorem Hv{op yS:lC}{r r':R2}(ho:OpR X (aY op) r)(sR:OpR X (aY yS) r')(ha:PE X a ta)(hb:PE X b tb)(hc:PE X c tc)
  (hm:lastMarks [op,yS] [b,c]=false:=by with_unfolding_all rfl):PT X (.Compare a [op,yS] [b,c] pos) (ayg<|asl r r' ta tb tc):=by
 intro aC s σ H Q I h;refine isTrue_chain (thn (ha aC s σ H _ I h) λv s1 ⟨x,H1,I1,r1,q1⟩=>test_link (thn (hb aC s1 σ H1 _ I1 q1) λu s2 ⟨y,H2,I2,r2,q2⟩=>
  thn (ho aC s2 σ H2 x y v u _ I2 r1 r2 q2) λd s3 ⟨z,H3,I3,r3,k,e,q3⟩=>?_)) hm
 subst e;cases r3;refine gc ?_;cases k with
 | false=>
  obtain⟨k',e',q'⟩:=q3;cases e';exact ite_ff ⟨H3,I3,q'⟩
 | true=>
  refine ite_tt<|test_last<|thn (hc aC s3 σ H3 _ I3 q3) λw' s4 ⟨z',H4,I4,r4,q4⟩=>thn (sR aC s4 σ H4 y z' u w' _ I4 r2 r4 q4) λd' s5 ⟨z2,H5,I5,r5,k2,e2,q5⟩=>?_;subst e2;cases r5;exact gc ⟨H5,I5,q5⟩
def EB:(aF:Nat)<2^63:=by rw[cD];decide
def uu:OpR X (dP .Add) (λx y H Q=>∃i j,x=.str i/\y=.str j/\i.length+j.length<=aF/\Q (.str<|i++j) H):=by intro aC s σ H x y v u Q I rx ry h;obtain⟨i,j,rfl,rfl,hz,q⟩:=h;obtain⟨t,rfl⟩:=rx;obtain⟨t',rfl⟩:=ry;exact add_str (λt' tk=>⟨.str<|i++j,H,I.tok _,⟨_,rfl⟩,q⟩) hz
theorem v9{x:V}{us:Z aA}(r:Vals [x] us):∃u,us=[u]/\RelV x u:=by
 cases r with
 | cons r1 r2=>cases r2;exact⟨_,rfl,r1⟩
theorem axc{x y:V}{us:Z aA}(r:Vals [x,y] us):∃u w',us=[u,w']/\RelV x u/\RelV y w':=by
 cases r with
 | cons r1 r2=>
  cases r2 with
  | cons r3 r4=>cases r4;exact⟨_,_,rfl,r1,r3⟩
end
structure ObjM(h:Heap)(x dx C:aG)(mA:Str->Option aA):Prop where
 obj:h.get? x=some (PySem.W.instObj C dx)
 ns:h.Ns1 dx mA
 ne:dx≠x
def aoi{h:Heap}{dx:aG}{mA:Str->Option aA}(n:h.Ns1 dx mA):∃od,h.get? dx=some od/\∀name,PySem.W.lookIn name od=some (mA name):=by
 obtain⟨o,es,ep,ho,hd,hk,_,hm⟩:=n;refine⟨o,ho,λname=>?_⟩;have e:=hm name;unfold nsFind findBy at e;rw[<-Array.find?_toList]at e;unfold PySem.W.lookIn;rw[hd];dsimp only;split
 .rename_i y q
  rw[q]at e;exact congrArg some e
 .rename_i q
  rw[q]at e;have a:es.toList.any (·.refKey)=false:=by rw[List.any_eq_false];intro y hy;obtain⟨z,t,cB⟩:=hk y<|Array.mem_toList_iff.mp hy;simp[dF.refKey,cB]
  have a':¬es.toList.any (·.refKey)=true:=by rw[a];exact am
  rw[if_neg a'];exact congrArg some e
def ObjM.look{h:Heap}{x dx C:aG}{mA:Str->Option aA}(I:ObjM h x dx C mA):∃od,PySem.W.InstAt h x (PySem.W.instObj C dx) C (some od)/\∀name,PySem.W.lookIn name od=some (mA name):=
 let ⟨od,ho,hl⟩:=aoi I.ns
 ⟨od,⟨I.obj,rfl,rfl,ho⟩,hl⟩
theorem RelO.some_of{v:V}{o:Option aA}(r:RelO (some v) o):∃u,o=some u/\RelV v u:=by
 cases o with
 | none=>exact(show False from r).elim
 | some u=>exact⟨u,rfl,r⟩
section
variable{P:aM}{w:aN}{H H':Hp}{h h':Heap}{a C dx:aG}{fs fs':Z (Str×V)}
def avb(hok:HOk P w H h)(e:H a=some (.ins C dx fs)):∃mA,ObjM h a dx C mA/\(∀f,RelO (fs.lookup f)<|mA f)/\PySem.Within mA (fs.map (·.1))/\fs.length<=1000/\H dx=some (.own a):=by obtain⟨d,z,ne,ob,mA,n,r,q⟩:=(show ObjOk P w H h a (.ins C dx fs)from hok a _ e);exact⟨mA,⟨ob,n,ne⟩,r,q,z,d⟩
end
structure Cls(K:aw)(C:aG):Prop where
 pg:PySem.W.plainGet K C Str.empty=true
 hd:PySem.W.hasDictIn K C=true
 po:PySem.W.plainOver K C=true
 sa:PySem.W.findIn K (.ref C) "__setattr__" = some (some<|.builtin "object.__setattr__")
def Cls.get{K:aw}{C:aG}(c:Cls K C)(f:Str):PySem.W.plainGet K C f=true:=c.pg
section
variable{X:Cx}{aC:Z (aG×Obj)}{σ:St}{H:Hp}{s:aB}{A:Around}{E:aA->aB->Prop}{Q:aA->aB->Prop}{c:aA}{b:Bool}
inductive oV(K:aw)(H:Hp):V->aA->Prop where
 | non:oV K H .non (.type "NoneType")
 | bl (x:Bool):oV K H (.bl x) (.type "bool")
 | int (i:Int):oV K H (.int i) (.type "int")
 | str (x:Str):oV K H (.str x) (.type "str")
 | flt (x:UInt64):oV K H (.flt x) (.type "float")
 | lst {a:aG} {xs:Z V} (e:H a=some (.lst xs)):oV K H (.ref a) (.type "list")
 | frz {a:aG} {o:Obj} {xs:Z V} (e:H a=some (.frz o<|.lst xs)):oV K H (.ref a) (.type "list")
 | tup {a:aG} {xs:Z V} (e:H a=some (.tup xs)):oV K H (.ref a) (.type "tuple")
 | dK {a:aG} {kvs:Z (Key×V)} (e:H a=some (.dK kvs)):oV K H (.ref a) (.type "dict")
 | dT {a:aG} {kvs:Z (Z Key×V)} (e:H a=some (.dT kvs)):oV K H (.ref a) (.type "dict")
 | ins {a C dx:aG} {fs:Z (Str×V)} (e:H a=some (.ins C dx fs)) (cl:Cls K C) (ha:PySem.W.findIn K (.ref C) "__class__" = some (some<|.builtin "object.__class__"))
   (hn:PySem.W.specialIn K (.builtin "object.__class__") "__get__" = some (some<|.builtin "getset_descriptor.__get__")) (pE:PySem.W.takesIn K (.builtin "object.__class__")=some true)
   (hm:PySem.W.mroIn K C (.type "object")=some true):oV K H (.ref a) (.ref C)
theorem am5{x:V}{u t:aA}(I:Inv X aC σ H s)(rx:RelV x u)(ty:oV X.K H x t)(e:PySem.W.kitOne X.K t c=some b)(h:∀tk,Q (.bool b) {s with toks:=tk}) :
  aH (aI X.prog X.w) A (call (.builtin "isinstance") [u,c]) Q E s:=by
 cases ty with
 | non=>cases (show u=aA.none from rx);exact i6 PySem.W.kitx_none I.kIn True.intro e (λz=>nomatch z) h
 | bl y=>cases (show u=aA.bool y from rx);exact i6 PySem.W.kitx_bool I.kIn True.intro e (λz=>nomatch z) h
 | int i=>obtain⟨t,q⟩:=(show ∃t,u=aA.int i t from rx);cases q;exact i6 PySem.W.kitx_int I.kIn True.intro e (λz=>nomatch z) h
 | str y=>obtain⟨t,q⟩:=(show ∃t,u=aA.str y t from rx);cases q;exact i6 PySem.W.kitx_str I.kIn True.intro e (λz=>nomatch z) h
 | flt y=>obtain⟨t,q⟩:=(show ∃t,u=aA.float y t from rx);cases q;exact i6 PySem.W.kitx_float I.kIn True.intro e (λz=>nomatch z) h
 | @lst a xs ea=>
  cases (show u=aA.ref a from rx);obtain⟨_,_,n,_,h1⟩:=(show ObjOk X.prog X.w H s.heap a (.lst xs)from I.hok a _ ea);exact i6 PySem.W.kitx_list I.kIn ⟨_,h1,rfl⟩ e (λz=>nomatch z) h
 | @frz a ob xs ea=>
  cases (show u=aA.ref a from rx);obtain⟨_,_,_,n,_,h1⟩:=(show ObjOk X.prog X.w H s.heap a (.frz ob<|.lst xs)from I.hok a _ ea);exact i6 PySem.W.kitx_list I.kIn ⟨_,h1,rfl⟩ e (λz=>nomatch z) h
 | @tup a xs ea=>
  cases (show u=aA.ref a from rx);obtain⟨_,_,_,p⟩:=(show ObjOk X.prog X.w H s.heap a (.tup xs)from I.hok a _ ea);obtain⟨o,h1,h2,_⟩:=p;exact i6 PySem.W.kitx_tuple I.kIn ⟨o,h1,h2⟩ e (λz=>nomatch z) h
 | @dK a kvs ea=>
  cases (show u=aA.ref a from rx);obtain⟨_,_,vs,_,p⟩:=(show ObjOk X.prog X.w H s.heap a (.dK kvs)from I.hok a _ ea);obtain⟨o,es,ep,h1,h2,_⟩:=p;exact i6 PySem.W.kitx_dict I.kIn ⟨o,h1,h2.1⟩ e (λz=>nomatch z) h
 | @dT a kvs ea=>
  cases (show u=aA.ref a from rx);obtain⟨_,_,xs,_,o,es,ep,h1,h2,_⟩:=(show ObjOk X.prog X.w H s.heap a (.dT kvs)from I.hok a _ ea);exact i6 PySem.W.kitx_dict I.kIn ⟨o,h1,h2.1⟩ e (λz=>nomatch z) h
 | @ins a C dx fs ea cl ha hn pE hm=>
  cases (show u=aA.ref a from rx);obtain⟨mA,O,_⟩:=avb I.hok ea;obtain⟨od,J,_⟩:=O.look;exact i6 (PySem.W.kitx_own (cl.get _) cl.hd ha hn pE hm) I.kIn J e (λz=>nomatch z) h
end
structure Room(k:Nat)(A:Around):Prop where
 hd:A.handled=none
 dp:A.depth+3*k+5<recursionLimit
 un:A.units+16*k+200<aV
def Room.mono{j k:Nat}{A:Around}(r:Room k A)(h:j<=k):Room j A:=⟨r.hd,by have:=r.dp;omega,by have:=r.un;omega⟩
theorem Room.deeper{k:Nat}{A:Around}(r:Room (k+1) A)(env:oX):Room k (A.deeper env):=
 ⟨r.hd,by have:=r.dp;show A.depth+1+3*k+5<_;omega,by have:=r.un;show A.units+3+16*k+200<_;omega⟩
theorem Room.depth{k:Nat}{A:Around}(r:Room k A):A.depth<recursionLimit:=by have:=r.dp;omega
theorem Room.units{k:Nat}{A:Around}(r:Room k A):A.units+64<aV:=by have:=r.un;omega
def xY:TA:=λ_ H Q=>Q [] H
def vn(ta:TE)(tr:TA):TA:=λσ H Q=>ta σ H λx H1=>tr σ H1 λxs H2=>Q (x::xs) H2
section
variable{X:Cx}{e:Expr}{es:Z Expr}{te:TE}{t:TA}{pos:dH}
def mq:PA X [] xY:=λ_ _ _ _ H Q I h=>Calls.spliced_nil ⟨[],H,I,.nil,h⟩
def avg(ha:PE X e te)(hr:PA X es t)(hs:aU (e::es) X.env=(false,bQ e X.env)::aU es X.env:=by rfl):PA X (e::es) (vn te t):=by intro pos aC s σ H Q I h;rw[hs];show aH _ _ (Cn ((false,bQ e X.env)::cY pos (aU es X.env))) _ _ s;refine Calls.spliced_cons<|thn (ha aC s σ H _ I h) λu s1 ⟨x,H1,I1,r1,q1⟩=>?_;exact thn (hr pos aC s1 σ H1 _ I1 q1) λus s2 ⟨xs,H2,I2,r2,q2⟩=>⟨x::xs,H2,I2,.cons r1 r2,q2⟩
def Ar(t:TA):TE:=λσ H Q=>t σ H λxs H1=>xs.length<=aF/\∀p,H1 p=none->Q (.ref p) (upd H1 p<|.tup xs)
def a3a(t:TA):TE:=λσ H Q=>t σ H λxs H1=>xs.length<=aF/\∀p,H1 p=none->Q (.ref p) (upd H1 p<|.lst xs)
def og{x1}(h:PA X es t):PE X (.Tuple es x1 pos) (Ar t):=by intro aC s σ H Q I hq;refine wpAny_Tuple_spliced<|thn (h pos aC s σ H _ I hq) λus s1 ⟨xs,H1,I1,r,z,q⟩=>⟨by rw[<-r.length];exact z,?_⟩;have hf:H1 s1.heap.objs.size=none:=I1.hok.fresh<|ao _;refine⟨.ref s1.heap.objs.size,upd H1 s1.heap.objs.size<|.tup xs,I1.laid (t':=s1.toks) (λb u e=>aj _ e) (ao _) ?_,rfl,q _ hf⟩;exact⟨z,us,r,⟨_,a7 _ rfl,rfl,_,rfl⟩⟩
def qc(h:PA X es t):PE X (.List es pos) (a3a t):=by intro aC s σ H Q I hq;refine wpAny_List_spliced<|thn (h pos aC s σ H _ I hq) λus s1 ⟨xs,H1,I1,r,z,q⟩=>⟨by rw[<-r.length];exact z,?_⟩;have hf:H1 s1.heap.objs.size=none:=I1.hok.fresh<|ao _;refine⟨.ref s1.heap.objs.size,upd H1 s1.heap.objs.size<|.lst xs,I1.laid (t':=s1.toks) (λb u e=>aj _ e) (ao _) ?_,rfl,q _ hf⟩;exact⟨z,us,0,r,a7 _ rfl⟩
end
abbrev Sp:=Z V->Hp->VK->XK->Prop
abbrev CXT:=Z oX->Hp->aB->XK->aA->aB->Prop
structure Gn(P:aM)(w:aN)(K:aw)(mg:Str->Option aA)(base:Heap)(A:Around)(outer:Z oX)(s:aB)(H:Hp):Prop where
 frames:A.frames=some outer
 mod:Mod K mg base
 bs:∀b o,base.get? b=some o->s.heap.get? b=some o/\H b=none
 bsz:base.objs.size<=s.heap.objs.size
 funs:s.heap.FunFrames base outer
 frf:∀b∈frs outer,H b=none
 hok:HOk P w H s.heap
 bare:gI s.gens
def CE(outer:Z oX)(P:aM)(w:aN)(H:Hp)(s:aB)(Q:VK)(u:aA)(s':aB):Prop:=
 ∃v H',s'.os=s.os/\gI s'.gens/\Un (frs outer) [] H H' s.heap s'.heap/\HOk P w H' s'.heap/\RelV v u/\Q v H'
def CR(CX:CXT)(outer:Z oX)(P:aM)(w:aN)(H:Hp)(s:aB)(Q:VK)(E:XK)(r:iF)(s':aB):Prop:=
 match r with
 | .ok (.ret u)=>CE outer P w H s Q u s'
 | .ok _=>False
 | .error e=>CX outer H s E e s'
structure rn(P:aM)(w:aN)(K:aw)(mg:Str->Option aA)(base:Heap)(CX:CXT)(k:Nat)(f:aG)(fd:bX)(ps:Z Str)(sp:Sp):Prop where
 len:∀vs H Q E,sp vs H Q E->vs.length=ps.length
 run:∀(A:Around)(outer:Z oX)(s:aB)(H:Hp)(args:HQ)(us:Z aA)(vs:Z V)(Q:VK)(E:XK),Room k A->Gn P w K mg base A outer s H->nT s fd args (ps.zip us)->Vals vs us->sp vs H Q E->
  bT (aI P w) A (.call (.ref f) args) (CR CX outer P w H s Q E) s
section
variable{X:Cx}{aC:Z (aG×Obj)}{σ:St}{H:Hp}{s s':aB}
def Inv.env0(I:Inv X aC σ H s):Gn X.prog X.w X.K X.mg X.base X.A X.stack s H:=
 ⟨I.ok.frames,I.ok.mod,I.bs,gw I.ok.bsz I.sz,I.stack,I.stkFree,I.hok,I.bare⟩
def Inv.after{Q:VK}{u:aA}(I:Inv X aC σ H s)(h:CE X.stack X.prog X.w H s Q u s'):EP X aC σ Q u s':=by obtain⟨v,H',os,bare,un,hok,r,q⟩:=h;obtain⟨hh,g,d,t,wW⟩:=s';obtain rfl:wW=s.os:=os;exact⟨v,H',I.call (h':=hh) (g':=g) (d':=d) (t':=t) (ch:=[]) un hok bare λb z=>absurd z<|by simp,r,q⟩
end
def K8(sp:Sp)(xP:Z V)(E:XK)(t:TA):TE:=λσ H Q=>t σ H λvs H1=>sp (vs++xP) H1 Q E
def Binds(K:aw)(fd:bX)(ps:Z Str)(ds:Z aA):Prop:=
 ∀(s:aB)(us:Z aA),K.In s.heap->(us++ds).length=ps.length->nT s fd ⟨us,[]⟩ (ps.zip<|us++ds)
def Binds.all{K:aw}{fd:bX}{ps:Z Str}(h:∀us:Z aA,us.length=ps.length->bindArgs fd ⟨us,[]⟩=aS (ps.zip us)):Binds K fd ps []:=λs us _ hl=>by rw[df]at hl⊢;exact .of_eq<|h us hl
def Lz(CX:CXT)(X:Cx)(E:XK):Prop:=∀(aC:Z (aG×Obj)) (σ:St) (H:Hp) (s:aB) (e:aA) (s':aB),Inv X aC σ H s->CX X.stack H s E e s'->X.xe e s'
section
variable{X:Cx}{CX:CXT}{k:Nat}{f C:aG}{fd:bX}{ps:Z Str}{sp:Sp}{xP:Z V}{ds:Z aA}{E:XK}{x m:Str}{p pos fN:dH}{e o:Expr}{es:Z Expr}{ta:TE}{t:TA}
theorem at3{aC:Z (aG×Obj)}{σ:St}{H:Hp}{s:aB}{Q:VK}{us:Z aA}{vs:Z V}(F:rn X.prog X.w X.K X.mg X.base CX k f fd ps sp)(hr:Room k X.A)(hb:Binds X.K fd ps ds)(hd:Vals xP ds)(hx:Lz CX X E)
  (I:Inv X aC σ H s) (r:Vals vs us) (h:sp (vs++xP) H Q E):aH (aI X.prog X.w) X.A (call (.ref f) us) (EP X aC σ Q) X.xe s:=by
 have r2:Vals (vs++xP) (us++ds):=r.append hd;have hl:(us++ds).length=ps.length:=by rw[<-r2.length];exact F.len _ _ _ _ h
 refine jP<|gG (F.run X.A X.stack s H ⟨us,[]⟩ (us++ds) (vs++xP) Q E hr I.env0 (hb s us I.kIn hl) r2 h) λr s' hq=>?_;cases r with
 | error e=>exact hx aC σ H s e s' I hq
 | ok fl=>
  cases fl with
  | ret u=>exact I.after hq
  | next=>exact False.elim hq
  | brk=>exact False.elim hq
  | cont=>exact False.elim hq
def aut(F:rn X.prog X.w X.K X.mg X.base CX k f fd ps sp)(hr:Room k X.A)(hg:Gl X x)(hm:X.mg x=some (.ref f))(hk:lm X.K (.ref f)=true)(hb:Binds X.K fd ps ds)(hd:Vals xP ds)(hx:Lz CX X E)
  (ha:PA X (e::es) t) (mL:(x==("__debug__" : Str))=false:=by decide) (he:aU (e::es) X.env=(false,bQ e X.env)::aU es X.env:=by rfl) (gB:(cY pos<|aU es X.env).any (·.1)=false:=by rfl) :
  PE X (.Call (.Name x p) (e::es) [] pos) (K8 sp xP E t):=by
 intro aC s σ H Q I h;refine jn<|ape I hg hm ?_ mL;refine PySem.W.callWith_K (h₀:=X.base) I.ok.mod.kin hk (thn (ha pos aC s σ H _ I h) λus s1 ⟨vs,H1,I1,r,q⟩=>⟨I1.kIn,?_⟩) he gB;exact at3 F hr hb hd hx I1 r q
end
def PK(X:Cx)(CN:Z nQ)(t:TA):Prop:=
 ∀(pos:dH) (aC:Z (aG×Obj)) (s:aB) (σ:St) (H:Hp) (Q:Z V->Hp->Prop),Inv X aC σ H s->t σ H Q->aH (aI X.prog X.w) X.A (evalAll<|(xU pos<|mH CN X.env).map (·.2)) (AP X aC σ Q) X.xe s
section
variable{X:Cx}{CX:CXT}{k:Nat}{f C:aG}{fd:bX}{ps ks:Z Str}{sp:Sp}{E:XK}{x m:Str}{p pos fN rW:dH}{e o:Expr}{es:Z Expr}{CN:Z nQ}{te ta:TE}{t tk:TA}{nm:Option Str}
def GJ:PK X [] xY:=λ_ _ _ _ H Q I h=>wpAny_evalAll_nil ⟨[],H,I,.nil,h⟩
def Hk(ha:PE X e te)(hr:PK X CN t):PK X (⟨nm,e,rW⟩::CN) (vn te t):=by intro pos aC s σ H Q I h;show aH _ _ (evalAll ((do let v <-bQ e X.env;Ck pos;aS v)::(xU pos<|mH CN X.env).map (·.2))) _ _ s;refine wpAny_evalAll_cons<|ab<|thn (ha aC s σ H _ I h) λu s1 ⟨x,H1,I1,r1,q1⟩=>ab<|fI<|ah ?_;exact thn (hr pos aC s1 σ H1 _ I1 q1) λus s2 ⟨xs,H2,I2,r2,q2⟩=>⟨x::xs,H2,I2,.cons r1 r2,q2⟩
variable{g:Z aA->Z aA->Z aA}{gV:Z V->Z V->Z V}
end
structure np(N P:Z Str)(sc:cG):Prop where
 kind:sc.kind=.function:=by rfl
 co:sc.isCoroutine=false:=by rfl
 gen:sc.isGenerator=false:=by rfl
 nd:N.Nodup:=by decide +kernel
 pre:N.take P.length=P:=by rfl
 par:∀x∈P,sc.names.lookup x=some .local\/sc.names.lookup x=some .cell:=by decide +kernel
 nofree:∀y∈sc.names,y.2≠.free:=by decide +kernel
theorem agm{kindOf:Str->Option aT}{x:Str}:∀{binds:Z (Str×aA)} {m:Str->Option aA},(∀v,(x,v)∉binds)->tK kindOf binds m x=m x
 | [],_,_=>rfl
 | (n,v)::r,m,h=>by
  unfold tK;rw[agm λw hw=>h w<|ar _ hw];split
  .have:x≠n:=by rintro rfl;exact h v aq
   simp[this]
  .rfl
theorem ahd{kindOf:Str->Option aT}{x:Str}:∀{binds:Z (Str×aA)} {m:Str->Option aA},(∀v,(x,v)∉binds)->tL kindOf binds m x=m x
 | [],_,_=>rfl
 | (n,v)::r,m,h=>by
  unfold tL;rw[ahd λw hw=>h w<|ar _ hw];split
  .rfl
  .have:x≠n:=by rintro rfl;exact h v aq
   simp[this]
theorem af1{kindOf:Str->Option aT}{x:Str}{v:aA}:∀{P:Z Str} {vs:Z aA} {i:Nat} {m:Str->Option aA},P.Nodup->P[i]?=some x->vs[i]?=some v->kindOf x=some .local->
  tK kindOf (P.zip vs) m x=some v
 | [],_,_,_,_,h,_,_=>by simp at h
 | _::_,[],_,_,_,_,h,_=>by simp at h
 | p::P,w::vs,0,m,nd,h1,h2,hk=>by simp at h1 h2;subst h1;subst h2;show tK kindOf ((p,w)::P.zip vs) m p=_;unfold tK;rw[agm λv hv=>(i7.mp nd).1 (List.of_mem_zip hv).1,if_pos hk];simp
 | p::P,w::vs,i+1,m,nd,h1,h2,hk=>by show tK kindOf ((p,w)::P.zip vs) m x=_;unfold tK;exact af1 (i:=i) (i7.mp nd).2 (by simpa using h1) (by simpa using h2) hk
theorem ag9{kindOf:Str->Option aT}{x:Str}{v:aA}:∀{P:Z Str} {vs:Z aA} {i:Nat} {m:Str->Option aA},P.Nodup->P[i]?=some x->vs[i]?=some v->kindOf x≠some .local->
  tL kindOf (P.zip vs) m x=some v
 | [],_,_,_,_,h,_,_=>by simp at h
 | _::_,[],_,_,_,_,h,_=>by simp at h
 | p::P,w::vs,0,m,nd,h1,h2,hk=>by simp at h1 h2;subst h1;subst h2;show tL kindOf ((p,w)::P.zip vs) m p=_;unfold tL;rw[ahd λv hv=>(i7.mp nd).1 (List.of_mem_zip hv).1,if_neg hk];simp
 | p::P,w::vs,i+1,m,nd,h1,h2,hk=>by show tL kindOf ((p,w)::P.zip vs) m x=_;unfold tL;exact ag9 (i:=i) (i7.mp nd).2 (by simpa using h1) (by simpa using h2) hk
noncomputable def wJ(N:Z Str)(vs:Z V):St:=vs.map some++List.replicate (N.length-vs.length) none
noncomputable def xX(CX:CXT)(P:aM)(w:aN)(K:aw)(mg:Str->Option aA)(base:Heap)(N:Z Str)(qual:Str)(scope:cG)(f:aG)(cd:aA)(A:Around)(outer:Z oX)(s:aB)(H:Hp)(E:XK):Cx where
 prog:=P
 w:=w
 K:=K
 mg:=mg
 base:=base
 A:=A.deeper (gE qual scope s.heap.objs.size f cd)
 N:=N
 s₀:=s
 H₀:=H
 env:=gE qual scope s.heap.objs.size f cd
 outer:=outer
 stack:=gE qual scope s.heap.objs.size f cd::outer
 ex:=[]
 calm:=true
 fn:=λ_=>true
 pn:=[]
 xe:=λe s'=>aH (aI P w) (A.deeper<|gE qual scope s.heap.objs.size f cd) (leaving (gE qual scope s.heap.objs.size f cd) e) (λ_ yP=>CX outer H s E e yP) (λe' yP=>CX outer H s E e' yP) s'
def aje{sc:cG}{n:Nat}{x:Str}(h:sc.names.lookup x=some .cell):∃c,(F9 n sc.names []).lookup x=some c:=by have q:=PySem.W.cellsFrom_some sc.names n []<|.inl h;exact Option.isSome_iff_exists.mp q
theorem ani{CX:CXT}{P:aM}{w:aN}{K:aw}{mg:Str->Option aA}{base:Heap}{N ps:Z Str}{qual:Str}{scope:cG}{f:aG}{cd:aA}{A:Around}{outer:Z oX}{s s1:aB}{H:Hp}{E:XK}{us:Z aA}{vs:Z V}
  (S:np N ps scope) (hd:A.handled=none) (e0:Gn P w K mg base A outer s H) (hl:vs.length=ps.length) (r:Vals vs us)
  (x:InCallC s s.heap.objs.size (tK (gE qual scope s.heap.objs.size f cd).kindOf (ps.zip us) λ_=>none) (F9 (s.heap.objs.size+1) scope.names []) (tL (gE qual scope s.heap.objs.size f cd).kindOf (ps.zip us) λ_=>none) s1) :
  Inv (xX CX P w K mg base N qual scope f cd A outer s H E) [] (wJ N vs) H s1:=by
 have gB:ps.length<=N.length:=by have:=congrArg List.length S.pre;rw[cg]at this;omega
 obtain⟨h1,tk,rfl,hk⟩:=x.done;have CG:∀b:aG,b∉(xX CX P w K mg base N qual scope f cd A outer s H E).ex:=λb z=>absurd (show b∈([]:Z aG)from z) (by simp);refine⟨⟨e0.mod,S.kind,rfl,rfl,ao _,λy z c h1 h2=>?_,λy hy=>?_,λy c _ h=>?_,λ_=>hd,Around.frames_deeper e0.frames,.inr ⟨rfl,rfl⟩,λb z=>absurd z<|CG b,e0.bs,e0.bsz,λb _ _=>CG b,λb z=>absurd z<|CG b,e0.funs,e0.frf⟩,
  rfl,e0.bare,Un.kept hk,⟨_,x.toInCall.ns,λi y v h1 h2 h3=>?_⟩,λy c h=>⟨_,x.cell y c h⟩,e0.hok.fresh<|ao _,λy c h=>?_,λp hp=>absurd (show p∈([]:Z (aG×Obj))from hp)<|by simp,e0.hok.kept hk,?_⟩
 .exact name_of_addr x.apart (jc h1)<|jc h2
 .have hy:scope.names.lookup y=some .cell\/scope.names.lookup y=some .free:=hy;rcases hy with hy|hy
  .exact aje hy
  .exact absurd rfl<|S.nofree _<|jc hy
 .exact gx<|x.above y c<|jc h
 .have hi:i<vs.length:=by
   unfold wJ at h2;by_cases hi:i<vs.length
   .exact hi
   .rw[cz (by simpa using hi)]at h2;rw[List.getElem?_replicate]at h2;split at h2<;>cases h2
  have ha:vs[i]?=some v:=by
   unfold wJ at h2;rw[fy (by simpa using hi),ax]at h2;cases e:vs[i]? with
   | none=>rw[e]at h2;cases h2
   | some a=>rw[e]at h2;cases h2;rfl
  obtain⟨u,hu,rv⟩:=r.get ha;have hp:ps[i]?=some y:=by rw[<-S.pre,fq<|by omega];exact h1
  have ndP:ps.Nodup:=by rw[<-S.pre];exact S.nd.sublist<|List.take_sublist _ _
  refine⟨u,rv,?_⟩;rcases S.par y (ai hp)with k|k
  .exact .inl ⟨k,af1 ndP hp hu k⟩
  .obtain⟨c,e⟩:=aje (n:=s.heap.objs.size+1) k;refine .inr ⟨.inl k,c,e,?_⟩;have q:=x.cell y c e;rw[ag9 ndP hp hu (by show scope.names.lookup y≠_;rw[k];decide)]at q;exact q
 .exact e0.hok.fresh<|gx<|x.above y c<|jc h
 .unfold wJ;show _=N.length;rw[bo,ae,List.length_replicate];omega
theorem a0a{CX:CXT}{P:aM}{w:aN}{K:aw}{mg:Str->Option aA}{base:Heap}{k:Nat}{f:aG}{name qual:Str}{params:Arguments}{body:Z aZ}{scope:cG}{dV kV jX pm fR ct oc:aA}{an od:Option aG}
  {vD:Array (Option aA)} {N ps:Z Str} {sp:Sp} (lk:K.lookup f=some ⟨oc,od,.func<|ma name qual params body scope dV kV jX pm an fR ct,vD⟩) (oQ:PySem.W.codeIn K fR qual=true) (S:np N ps scope)
  (len:∀vs H Q E,sp vs H Q E->vs.length=ps.length)
  (tE:∀(A:Around)(outer:Z oX)(s:aB)(H:Hp)(vs:Z V)(Q:VK)(E:XK),Room k (A.deeper<|gE qual scope s.heap.objs.size f fR)->sp vs H Q E->
   ∃t,PSs (xX CX P w K mg base N qual scope f fR A outer s H E) body t/\t {nx:=λ_ H'=>Q .non H',rt:=Q} (wJ N vs) H) :
  rn P w K mg base CX (k+1) f (ma name qual params body scope dV kV jX pm an fR ct) ps sp:=by
 refine⟨len,λA outer s H args us vs Q E hr e0 hb r iP=>?_⟩;have hl:=len _ _ _ _ iP;have KX:K.In s.heap:=e0.mod.kin.keeps λb o e=>(e0.bs b o e).1;have lim:s.heap.NoLimit:=e0.mod.nolimit.keeps λb o e=>(e0.bs b o e).1;have eC:∀y∈ps.zip us,scope.names.lookup y.1=some .local\/(scope.names.lookup y.1=some .cell/\((F9 (s.heap.objs.size+1) scope.names []).lookup y.1).isSome=true):=λ⟨n,v⟩ hy=>by
  rcases S.par n (List.of_mem_zip hy).1 with q|q
  .exact .inl q
  .exact .inr ⟨q,PySem.W.cellsFrom_some _ _ _<|.inl q⟩
 refine codeAny_call_function hr.depth (KX _ _ lk) rfl S.co S.gen rfl (PySem.W.codeRec_of KX oQ)<|hb _ _ _ _ ?_;refine wpAny_newFunctionEnv_cells S.kind eC λenv he s1 x=>?_;subst he;refine⟨lim.keeps x.toInCall.keep,codeAny_func ?_⟩;obtain⟨t,ht,hq⟩:=tE A outer s H vs Q E (hr.deeper _) iP;have I:Inv (xX CX P w K mg base N qual scope f fR A outer s H E) [] (wJ N vs) H s1:=ani S hr.hd e0 hl r x;refine jb (ht [] s1 (wJ N vs) H _ I hq) (λfl s' hs=>?_) λe s' hs=>hs;have fin:∀{σ':St} {H':Hp} {v:V} {u:aA},Inv (xX CX P w K mg base N qual scope f fR A outer s H E) [] σ' H' s'->RelV v u->Q v H'->CE outer P w H s Q u s':=
  λ{σ' H' v u} J rv q=>⟨v,H',J.os,J.bare,J.base,J.hok,rv,q⟩
 cases fl with
 | ret u=>
  obtain⟨v,σ',H',J,rv,q⟩:=hs;exact fin J rv q
 | next=>
  obtain⟨σ',H',J,q⟩:=hs;exact fin (v:=V.non) (u:=aA.none) J rfl q
 | brk=>
  obtain⟨_,_,_,q⟩:=hs;exact False.elim q
 | cont=>
  obtain⟨_,_,_,q⟩:=hs;exact False.elim q
section
variable{X:Cx}{x:Str}{p pos:dH}{e:Expr}{es:Z Expr}{t:TA}{id T:String}{r:Z V->Hp->VK->Prop}
def tCB(r:Z V->Hp->VK->Prop)(t:TA):TE:=λσ H Q=>t σ H λvs H1=>r vs H1 Q
def ar5(hc:um X (.builtin id) r)(hg:Gl X x)(hm:X.mg x=none)(hv:bJ x=some (.builtin id))(ha:PA X (e::es) t)(hn:x≠"__name__":=by decide)(mL:(x==("__debug__" : Str))=false:=by decide)
  (he:aU (e::es) X.env=(false,bQ e X.env)::aU es X.env:=by rfl) (gB:(cY pos<|aU es X.env).any (·.1)=false:=by rfl):PE X (.Call (.Name x p) (e::es) [] pos) (tCB r t):=by
 intro aC s σ H Q I h;refine jn<|wq I hg hm hv ?_ hn mL;exact PyProof.Rows.callWith_builtin1 (thn (ha pos aC s σ H _ I h) λus s1 ⟨vs,H1,I1,r1,q1⟩=>hc aC s1 σ H1 vs us Q I1 r1 q1) he gB
def aol(hc:um X (.type T) r)(hg:Gl X x)(hm:X.mg x=none)(hv:bJ x=some (.type T))(ha:PA X (e::es) t)(hn:x≠"__name__":=by decide)(mL:(x==("__debug__" : Str))=false:=by decide)
  (he:aU (e::es) X.env=(false,bQ e X.env)::aU es X.env:=by rfl) (gB:(cY pos<|aU es X.env).any (·.1)=false:=by rfl):PE X (.Call (.Name x p) (e::es) [] pos) (tCB r t):=by
 intro aC s σ H Q I h;refine jn<|wq I hg hm hv ?_ hn mL;exact gd (thn (ha pos aC s σ H _ I h) λus s1 ⟨vs,H1,I1,r1,q1⟩=>hc aC s1 σ H1 vs us Q I1 r1 q1) he gB
end
end L2
namespace HT
open PySem PyProof.Rows
section
variable{prog:aM}{w:aN}{A:Around}{E:aA->aB->Prop}{s:aB}
def cat_tup{t b:aG}{vs ws:Z aA}{Q:aA->aB->Prop}(ht:lB s.heap t vs.toArray)(hb:lB s.heap b ws.toArray)(hv:vs≠[])
  (h1:ws=[]->Q (.ref t) s) (h2:ws≠[]->Q (.ref s.heap.objs.size) {s with heap:=s.heap.push {cls:=.type "tuple",data:=.seq (vs++ws).toArray}})
  (hsz:vs.length+ws.length<=aF):aH (aI prog w) A (dP .Add (.ref t)<|.ref b) Q E s:=by
 obtain⟨⟨cls,dd,data,sl⟩,ho,hc,n,hd⟩:=id ht;obtain⟨⟨D4,uL,data2,wQ⟩,zF,pO,n2,jH⟩:=id hb;simp only at hc hd pO jH;subst hc hd pO jH;have e:vs.toArray++ws.toArray=(vs++ws).toArray:=by simp
 by_cases hw:ws=[]
 .exact uM ⟨_,ho,rfl⟩ ⟨_,zF,rfl⟩ lM qD PySem.F.slot_tuple_add PySem.F.entry_tuple_add (PySem.F.args_tuple_add_2 _ _)
   (tuple_addW1 t b vs.toArray ws.toArray n n2 dd uL sl wQ (by simpa using hv)<|by simp[hw]) ⟨ho,zF,h1 hw⟩
 .refine uM ⟨_,ho,rfl⟩ ⟨_,zF,rfl⟩ lM qD PySem.F.slot_tuple_add PySem.F.entry_tuple_add (PySem.F.args_tuple_add_2 _ _)
   (tuple_addW2 t b vs.toArray ws.toArray n n2 dd uL sl wQ (by simpa using hv) (by simpa using hw)<|by rw[bp,bp];exact hsz) ⟨ho,zF,?_⟩
  rw[e];exact h2 hw
noncomputable def sIx(n d:Nat):Option Int->Nat
 | none=>d
 | some v=>if v<0 then(v+(n:Int)).toNat else kF v.toNat n
def sIx_none(n d:Nat):sIx n d none=d:=rfl
def sIx_nat(n d k:Nat):sIx n d (some (k:Int))=kF k n:=by show(if (k:Int)<0 then((k:Int)+(n:Int)).toNat else kF (k:Int).toNat n)=kF k n;rw[if_neg (by omega),da]
theorem aye(n d:Nat)(hd:d<=n)(o:Option Int):sIx n d o<=n:=by
 cases o with
 | none=>exact hd
 | some v=>
  show(if v<0 then(v+(n:Int)).toNat else kF v.toNat n)<=n;by_cases hv:v<0
  .rw[if_pos hv];omega
  .rw[if_neg hv];exact Nat.min_le_right _ _
def amd(v:Int)(n d:Nat):(if v<0 then max (v+(n:Int)) 0 else kF v (n:Int))=((sIx n d (some v):Nat):Int):=by
 show(if v<0 then max (v+(n:Int)) 0 else kF v (n:Int))=(((if v<0 then(v+(n:Int)).toNat else kF v.toNat n):Nat):Int);by_cases hv:v<0
 .simp only[if_pos hv];omega
 .simp only[if_neg hv];omega
theorem aky(lo hi:Option Int)(n:Nat):Builtin.Slice.sliceAdjust lo hi 1 (n:Int)=(((sIx n 0 lo:Nat):Int),((sIx n n hi:Nat):Int)):=by
 have h1:¬((1:Int)<0):=by omega
 unfold Builtin.Slice.sliceAdjust;simp only[h1,if_false];refine Prod.ext ?_ ?_
 .cases lo with
  | none=>rfl
  | some v=>exact amd v n 0
 .cases hi with
  | none=>rfl
  | some v=>exact amd v n n
def ale(i j:Nat):Builtin.Slice.slicePlaces (i:Int) (j:Int) 1=j-i:=by
 unfold Builtin.Slice.slicePlaces;have h1:(1:Int)>0:=by omega
 simp only[h1,if_true,Int.ediv_one];split<;>omega
theorem ad6{v:aA}{o:Option Int}{Q:Option Int->aB->Prop}(p:iG v o)(h:Q o s):aH (aI prog w) A (Builtin.Slice.slicePartIndex v) Q E s:=by
 cases p with
 | none=>exact slicePart_none h
 | int i t=>exact slicePart_int h
def wp{sl:aG}{vl vu:aA}{lo hi:Option Int}{n:Nat}{Q:Int×Int×Nat->aB->Prop}(hs:s.heap.IsSliceOf sl vl vu .none)(pl:iG vl lo)(pu:iG vu hi)
  (h:Q (((sIx n 0 lo:Nat):Int),1,sIx n n hi-sIx n 0 lo) s):aH (aI prog w) A (Builtin.Slice.sliceApplied (.ref sl)<|aS (n:Int)) Q E s:=by
 obtain⟨os,oH,lF,cS⟩:=id hs;unfold Builtin.Slice.sliceApplied Builtin.Slice.sliceFields;refine ab<|ab<|iq oH cS (x:=vl) rfl<|ab<|iq oH cS (x:=vu) rfl<|ab<|iq oH cS (x:=.none) rfl<|ah ?_;refine ab<|slicePart_none ?_;show aH _ _ (if ((1:Int)==0)=true then _ else _) _ _ s;rw[if_neg (by decide)];refine ab<|ad6 pl<|ab<|ad6 pu<|ab<|ah ?_;show aH _ _ (match Builtin.Slice.sliceAdjust lo hi 1 (n:Int)with|(lo,hi)=>aS (lo,(1:Int),Builtin.Slice.slicePlaces lo hi 1)) _ _ s;rw[aky lo hi n];show aH _ _ (aS (((sIx n 0 lo:Nat):Int),(1:Int),Builtin.Slice.slicePlaces ((sIx n 0 lo:Nat):Int) ((sIx n n hi:Nat):Int) 1)) _ _ s;rw[ale];exact ah h
def ari(xs:Array aA)(i k:Nat):((cj k).filterMap λ(m:Nat)=>xs[((i:Int)+(m:Int)*1).toNat]?).toArray=((xs.toList.drop i).take k).toArray:=by
 have e:(λ(m:Nat)=>xs[((i:Int)+(m:Int)*1).toNat]?)=λm=>xs[i+m]?:=by
  funext m
  have:((i:Int)+(m:Int)*1).toNat=i+m:=by omega
  rw[this]
 rw[e];have:=pick_run xs i k;rw[List.filterMap_map]at this;have e2:((λx=>xs[x]?)∘λx=>i+x)=λm=>xs[i+m]?:=rfl;rw[e2]at this;rw[this]
theorem getItem_tuple_cut{t sl:aG}{items:Array aA}{vl vu:aA}{lo hi:Option Int}{Q:aA->aB->Prop}(ht:lB s.heap t items)(hs:s.heap.IsSliceOf sl vl vu .none)(pl:iG vl lo)(pu:iG vu hi)
  (hw:¬(sIx items.size 0 lo=0/\sIx items.size items.size hi=items.size))
  (h:Q (.ref s.heap.objs.size) {s with heap:=s.heap.push {cls:=.type "tuple",data:=.seq ((items.toList.drop<|sIx items.size 0 lo).take (sIx items.size items.size hi-sIx items.size 0 lo)).toArray}})
  (hsz:items.size<=aF):aH (aI prog w) A (eQ (.ref t)<|.ref sl) Q E s:=by
 have oE:sizeOk (.seq ((items.toList.drop<|sIx items.size 0 lo).take (sIx items.size items.size hi-sIx items.size 0 lo)).toArray):=by show((items.toList.drop<|sIx items.size 0 lo).take (sIx items.size items.size hi-sIx items.size 0 lo)).toArray.size<=aF;rw[bp,cg,ik,a9];omega
 have hj:sIx items.size items.size hi<=items.size:=aye _ _ (ao _) hi;obtain⟨os,oH,lF,cS⟩:=id hs;have Kh:s.TypeIs (.ref sl) "slice":=⟨os,oH,lF⟩;unfold eQ;try with_reducible refine ff ?_
 first|refine ab (ah ?_)|skip
 refine ab<|Cd ht.typeIs (by decide) ?_;refine ab (cu (name:=bm "__getitem__") ht.typeIs g9
  (dv g9 ht.typeIs Al ?_<|BF _ _))
 show aH _ _ (Builtin.Tuple.tupleItemsOf (.ref t) >>= _) _ _ s;refine ab<|tupleItemsOf_ ht ?_;refine ab<|jj Kh ?_;rw[if_pos (by decide)];refine ab<|wp hs pl pu ?_;have hno:¬((((sIx items.size 0 lo:Nat):Int)==0&&(1:Int)==1&&(sIx items.size items.size hi-sIx items.size 0 lo)==items.size)=true):=by intro q;rw[dw,dw]at q;have q1:((sIx items.size 0 lo:Nat):Int)=0:=eq_of_beq q.1.1;have q2:sIx items.size items.size hi-sIx items.size 0 lo=items.size:=eq_of_beq q.2;exact hw ⟨by omega,by omega⟩
 show aH _ _ (if (((sIx items.size 0 lo:Nat):Int)==0&&(1:Int)==1&&(sIx items.size items.size hi-sIx items.size 0 lo)==items.size)=true then _ else _) _ _ s;rw[if_neg hno,ari];first
  | exact ab (m:=jo _) (ck (ah ⟨_,rfl,ah h⟩) oE)
  | exact ab (m:=jo _) (ck (ab<|ah<|ah ⟨_,rfl,ah h⟩) oE)
  | exact ab (ab (m:=jo _)<|ck (ah<|ah ⟨_,rfl,ah h⟩) oE)
  | exact ab<|ab (m:=jo _)<|ck (ah ⟨_,rfl,ah h⟩) oE
end
end HT
namespace L2
open PySem PySem.Spec PyProof.Rows
abbrev TO:=St->Hp->(Option Int->Hp->Prop)->Prop
def PO(X:Cx)(e:Option Expr)(t:TO):Prop:=
 ∀(aC:Z (aG×Obj)) (s:aB) (σ:St) (H:Hp) (Q:Option Int->Hp->Prop),Inv X aC σ H s->t σ H Q->
  aH (aI X.prog X.w) X.A (evalPart e X.env) (λu s'=>∃o H',Inv X aC σ H' s'/\iG u o/\Q o H') X.xe s
noncomputable def aor:TO:=λ_ H Q=>Q none H
noncomputable def a0y(t:TE):TO:=λσ H Q=>t σ H λx H1=>∃i,x=.int i/\Q (some i) H1
theorem ad7{ns:Z Int}:∀{us:Z aA},Vals (ns.map V.int) us->gH us ns:=by
 induction ns with
 | nil=>intro us r;rw[List.map_nil]at r;cases r;exact .nil
 | cons n ns ih=>
  intro us r;rw[cm]at r;cases r with
  | cons r1 r2=>
   obtain⟨t,e⟩:=r1;subst e;exact .cons n t<|ih r2
section
variable{X:Cx}{e:Expr}{te:TE}{lo hi:Option Expr}{tl th:TO}{pos p2:dH}
def He:PO X none aor:=by intro aC s σ H Q I h;rw[evalPart_none];exact ah ⟨none,H,I,.none,h⟩
def xh(h:PE X e te):PO X (some e) (a0y te):=by intro aC s σ H Q I hw;rw[evalPart_some];refine thn (h aC s σ H _ I hw) λu s1 ⟨x,H1,I1,r1,q1⟩=>?_;obtain⟨i,rfl,q⟩:=q1;obtain⟨t,rfl⟩:=r1;exact⟨some i,H1,I1,.int i t,q⟩
def SlR(X:Cx)(r:V->Option Int->Option Int->Hp->VK->Prop):Prop:=
 ∀(aC:Z (aG×Obj)) (s:aB) (σ:St) (H:Hp) (x:V) (v vl vu:aA) (lo hi:Option Int) (sl:aG) (Q:VK),Inv X aC σ H s->RelV x v->s.heap.IsSliceOf sl vl vu .none->iG vl lo->iG vu hi->r x lo hi H Q->
  ∃T id,fZ (.type T) "__getitem__" = aS (some<|.builtin id)/\s.TypeIs v T/\aH (aI X.prog X.w) X.A (eQ v<|.ref sl) (EP X aC σ Q) X.xe s
def tSl(r:V->Option Int->Option Int->Hp->VK->Prop)(te:TE)(tl th:TO):TE:=λσ H Q=>te σ H λx H1=>tl σ H1 λl H2=>th σ H2 λu H3=>r x l u H3 Q
def xu{r:V->Option Int->Option Int->Hp->VK->Prop}(hr:SlR X r)(he:PE X e te)(hl:PO X lo tl)(hu:PO X hi th):PE X (.Subscript e (.Slice lo hi none p2) pos) (tSl r te tl th):=by intro aC s σ H Q I h;refine B6<|thn (he aC s σ H _ I h) λv s1 ⟨x,H1,I1,r1,q1⟩=>?_;refine wpAny_Slice<|thn (hl aC s1 σ H1 _ I1 q1) λvl s2 ⟨l,H2,I2,pl,q2⟩=>thn (hu aC s2 σ H2 _ I2 q2) λvu s3 ⟨u,H3,I3,pu,q3⟩=>?_;rw[evalPart_none];refine ah ?_;have I4:Inv X aC σ H3 {s3 with heap:=s3.heap.push {cls:=.type "slice",data:=.fields #[vl,vu,.none]}}:=I3.kept (t':=s3.toks) λb ob q=>aj _ q;obtain⟨T,id,hT,ht,hg⟩:=hr aC {s3 with heap:=s3.heap.push {cls:=.type "slice",data:=.fields #[vl,vu,.none]}} σ H3 x v vl vu l u s3.heap.objs.size Q I4 r1 (Heap.IsSliceOf.new ..) pl pu q3;show aH (aI X.prog X.w) X.A (qB e (.Slice lo hi none p2) v<|.ref s3.heap.objs.size) (EP X aC σ Q) X.xe {s3 with heap:=s3.heap.push {cls:=.type "slice",data:=.fields #[vl,vu,.none]}};exact tail_any (ops:=[.ref s3.heap.objs.size,v]) ht hT hg<|by with_unfolding_all rfl
noncomputable def lH(xs:Z V)(lo hi:Option Int):Z V:=(xs.drop<|HT.sIx xs.length 0 lo).take (HT.sIx xs.length xs.length hi-HT.sIx xs.length 0 lo)
def ab3(xs:Z V)(lo hi:Option Int):(lH xs lo hi).length<=xs.length:=by unfold lH;rw[cg,ik];omega
def a3o(K:aw):V->Option Int->Option Int->Hp->VK->Prop:=λx lo hi H Q=>∃a xs,x=.ref a/\SqT K H a xs/\
 ¬(HT.sIx xs.length 0 lo=0/\HT.sIx xs.length xs.length hi=xs.length)/\∀p,H p=none->Q (.ref p) (upd H p<|.tup<|lH xs lo hi)
def ax5:SlR X (a3o X.K):=by
 intro aC s σ H x v vl vu lo hi sl Q I rx hs pl pu h;obtain⟨a,xs,rfl,hx,hw,q⟩:=h;cases rx;obtain⟨its,r,ht,hz⟩:=I.tuple hx;have bB:its.toArray.size=xs.length:=by rw[bp];exact r.length.symm
 refine⟨"tuple",_,g9.lookup,ht.typeIs,?_⟩;refine HT.getItem_tuple_cut ht hs pl pu (by rw[bB];exact hw) ?_ (by rw[bB];exact hz);rw[bB];refine⟨.ref s.heap.objs.size,_,I.laid (t':=s.toks) (o:=.tup<|lH xs lo hi) (λb ob q=>aj _ q) (ao _) ?_,rfl,q _<|I.hok.fresh<|ao _⟩;exact⟨gw (ab3 xs lo hi) hz,_,(r.drop<|HT.sIx xs.length 0 lo).take (HT.sIx xs.length xs.length hi-HT.sIx xs.length 0 lo),lB.new _ _⟩
theorem Vals.nil_iff{xs:Z V}{us:Z aA}(r:Vals xs us):us=[]↔xs=[]:=by
 cases r with
 | nil=>simp
 | cons _ _=>simp
end
noncomputable def ixN(n:Nat)(i:Int):Option Nat:=if 0<=i then(if i<n then some i.toNat else none)else if -(n:Int)<=i then some (i+n).toNat else none
noncomputable def atI{α:Type}(xs:List α)(i:Int):Option α:=(ixN xs.length i).bind λj=>xs[j]?
def auu{n:Nat}{i:Int}{j:Nat}(h:ixN n i=some j):seqIndex? i n=some j/\j<n/\-(n:Int)<=i/\i<n:=by
 unfold ixN at h;by_cases h0:0<=i
 .rw[if_pos h0]at h;by_cases h1:i<n
  .rw[if_pos h1]at h;have e:i.toNat=j:=gp h;exact⟨by rw[seqIndex_of h0 h1,e],by omega,by omega,h1⟩
  .rw[if_neg h1]at h;cases h
 .rw[if_neg h0]at h;by_cases h1:-(n:Int)<=i
  .rw[if_pos h1]at h;have e:(i+n).toNat=j:=gp h;exact⟨by rw[seqIndex_neg (by omega) h1,e],by omega,h1,by omega⟩
  .rw[if_neg h1]at h;cases h
theorem L7{α:Type}{xs:List α}{i:Int}{v:α}(h:atI xs i=some v):∃j,seqIndex? i xs.length=some j/\xs[j]?=some v/\j<xs.length/\-(xs.length:Int)<=i/\i<xs.length:=by
 unfold atI at h;cases e:ixN xs.length i with
 | none=>rw[e]at h;cases h
 | some j=>
  rw[e]at h;obtain⟨h1,h2,h3,h4⟩:=auu e;exact⟨j,h1,h,h2,h3,h4⟩
def m7{α:Type}{xs:List α}{j:Nat}{v:α}(h:xs[j]?=some v):atI xs (j:Int)=some v:=by
 have hj:j<xs.length:=(ak.mp h).1;have e:ixN xs.length (j:Int)=some j:=by unfold ixN;rw[if_pos (by omega),if_pos<|by omega];simp
 unfold atI;rw[e];exact h
def anz(b:Expr):Prop:=∀o i,lX b false o i=operate [o,i] (eQ o i)
def IxR(X:Cx)(r:R2):Prop:=
 ∀(value fE:Expr) (aC:Z (aG×Obj)) (s:aB) (σ:St) (H:Hp) (x y:V) (v u:aA) (Q:VK),Inv X aC σ H s->RelV x v->RelV y u->r x y H Q->
  lX fE false v u=operate [v,u] (eQ v u)->aH (aI X.prog X.w) X.A (qB value fE v u) (EP X aC σ Q) X.xe s
def MtR(X:Cx)(id:String)(r:V->Z V->Hp->VK->Prop):Prop:=
 ∀(aC:Z (aG×Obj)) (s:aB) (σ:St) (H:Hp) (x:V) (xs:Z V) (v:aA) (us:Z aA) (Q:VK),Inv X aC σ H s->RelV x v->Vals xs us->r x xs H Q->
  aH (aI X.prog X.w) X.A (call (.builtin id) (v::us)) (EP X aC σ Q) X.xe s
section
variable{X:Cx}{a b:Expr}{ta tb:TE}{pos:dH}
def a06{r:R2}(hr:IxR X r)(ha:PE X a ta)(hb:PE X b tb)(hs:anz b):PE X (.Subscript a b pos) (tOp r ta tb):=by intro aC s σ H Q I h;exact B6<|M0 ha hb I h λv u s2 x y H2 I2 rx ry q=>hr a b aC s2 σ H2 x y v u Q I2 rx ry q<|hs _ _
def Nd(K:aw):R2:=λx y H Q=>∃p xs i v,x=.ref p/\y=.int i/\SqL K H p xs/\atI xs i=some v/\Q v H
def Ed(K:aw):R2:=λx y H Q=>∃p xs i v,x=.ref p/\y=.int i/\SqT K H p xs/\atI xs i=some v/\Q v H
def a29:R2:=λx y H Q=>∃z i c,x=.str z/\y=.int i/\z.length<=aF/\atI z.cps.toList i=some c/\Q (.str ⟨#[c]⟩) H
def EI:IxR X (Nd X.K):=by
 intro value fE aC s σ H x y v u Q I rx ry h hs;obtain⟨p,xs,i,z,rfl,rfl,hq,he,q⟩:=h;cases rx;obtain⟨t,rfl⟩:=ry;obtain⟨its,r,pl,hz⟩:=I.list hq;obtain⟨j,h1,h2,h3,h4,h5⟩:=L7 he;obtain⟨w,ew,lZ⟩:=r.get h2;have hl:=r.length;have hn:=EB;have fin:EP X aC σ Q w s:=⟨z,H,I,lZ,q⟩;by_cases h0:0<=i
 .have hj:i.toNat=j:=by
   rw[seqIndex_of h0 h5]at h1;exact gp h1
  exact item_listR pl.isList h0 (by omega) (by rw[hj];simpa using ew) fin hs
 .have hj:(i+(its.toArray.size:Int)).toNat=j:=by
   rw[seqIndex_neg (by omega) h4]at h1;rw[bp,<-hl];exact gp h1
  exact tX (x:=w) pl.isList.typeIs slot_list_getitem.lookup
   (wpAny_getItem_list_neg (Q:=λr s'=>r=w/\EP X aC σ Q r s') pl.isList (by omega) (by rw[bp]<;>omega) (by omega) (by rw[hj];simpa using ew) ⟨rfl,fin⟩) hs
def wo:IxR X (Ed X.K):=by
 intro value fE aC s σ H x y v u Q I rx ry h hs;obtain⟨p,xs,i,z,rfl,rfl,hq,he,q⟩:=h;cases rx;obtain⟨t,rfl⟩:=ry;obtain⟨its,r,pl,hz⟩:=I.tuple hq;obtain⟨j,h1,h2,h3,h4,h5⟩:=L7 he;obtain⟨w,ew,lZ⟩:=r.get h2;have hl:=r.length;have hn:=EB;have fin:EP X aC σ Q w s:=⟨z,H,I,lZ,q⟩;exact tX (x:=w) pl.typeIs slot_tuple_getitem.lookup
  (getItem_tuple (j:=j) (Q:=λr s'=>r=w/\EP X aC σ Q r s') pl (by omega) (by omega) (by rw[bp,<-hl];exact h1) (by simpa using ew) ⟨rfl,fin⟩) hs
def Eu:IxR X a29:=by
 intro value fE aC s σ H x y v u Q I rx ry h hs;obtain⟨z,i,c,rfl,rfl,hz,he,q⟩:=h;obtain⟨t,rfl⟩:=rx;obtain⟨t',rfl⟩:=ry;obtain⟨j,h1,h2,h3,h4,h5⟩:=L7 he;have hl:z.cps.toList.length=z.length:=by simp[Str.length]
 rw[hl]at h1 h4 h5;have hn:=EB;exact tail_any (typeIs_str s z t) slot_str_getitem.lookup (getItem_str (c:=c) (by
  have e1:decide (i < -(2^63:Int))=false:=decide_eq_false (by omega);have e2:decide (i>=2^63)=false:=decide_eq_false (by omega);rw[e1,e2,Bool.or_false]) (by rw[h1];simpa using h2) ⟨.str ⟨#[c]⟩,H,I.tok _,⟨_,rfl⟩,q⟩) hs
theorem agn(lo hi:Option Int)(n:Nat):(eA lo hi none n).1=((HT.sIx n 0 lo:Nat):Int)/\(eA lo hi none n).2.1=((HT.sIx n n hi:Nat):Int)/\(eA lo hi none n).2.2=1:=by
 refine⟨?_,?_,rfl⟩
 .cases lo with
  | none=>simp[eA,HT.sIx]
  | some i=>
   simp only[eA,HT.sIx,Option.getD_none,show(1:Int)>0 by decide,if_true];by_cases h:i<0
   .simp only[h,if_true]<;>omega
   .simp only[h,if_false]<;>omega
 .cases hi with
  | none=>simp[eA,HT.sIx]
  | some i=>
   simp only[eA,HT.sIx,Option.getD_none,show(1:Int)>0 by decide,if_true];by_cases h:i<0
   .simp only[h,if_true]<;>omega
   .simp only[h,if_false]<;>omega
def aeh(its:Z aA)(lo hi:Option Int):slicePick its.toArray lo hi none=((its.drop<|HT.sIx its.length 0 lo).take (HT.sIx its.length its.length hi-HT.sIx its.length 0 lo)).toArray:=by obtain⟨h1,h2,h3⟩:=agn lo hi its.toArray.size;unfold slicePick;rw[h1,h2,h3];simp only[sliceRange_one,pick_run,bp]<;>rfl
def a3i(K:aw):V->Option Int->Option Int->Hp->VK->Prop:=λx lo hi H Q=>∃a xs,x=.ref a/\SqL K H a xs/\∀p,H p=none->Q (.ref p) (upd H p<|.lst<|lH xs lo hi)
def Mb:SlR X (a3i X.K):=by intro aC s σ H x v vl vu lo hi sl Q I rx hs pl pu h;obtain⟨a,xs,rfl,hx,q⟩:=h;cases rx;obtain⟨its,r,ht,hz⟩:=I.list hx;have bB:=r.length;refine⟨"list",_,slot_list_getitem.lookup,ht.isList.typeIs,?_⟩;refine wpAny_getItem_list_slice ht.isList hs pl pu .none (by simp) ?_ (by rw[bp]<;>omega);rw[aeh,<-bB];refine⟨.ref s.heap.objs.size,_,I.laid (t':=s.toks) (o:=.lst<|lH xs lo hi) (λb ob q=>aj _ q) (ao _) ?_,rfl,q _<|I.hok.fresh<|ao _⟩;exact⟨gw (ab3 xs lo hi) hz,_,0,(r.drop<|HT.sIx xs.length 0 lo).take (HT.sIx xs.length xs.length hi-HT.sIx xs.length 0 lo),a7 _ rfl⟩
def o7:um X (.builtin "len") (λxs H Q=>∃p ys,xs=[.ref p]/\(SqL X.K H p ys\/SqT X.K H p ys)/\Q (.int ys.length) H):=by
 intro aC s σ H xs us Q I r h;obtain⟨p,ys,rfl,hq,q⟩:=h;obtain⟨u,rfl,rx⟩:=v9 r;cases rx;have hn:=EB;rcases hq with hq|hq
 .obtain⟨its,r',pl,hz⟩:=I.list hq;have bB:=r'.length;exact Calls.call_len_list pl.isList (by simp only[bp]<;>omega) ⟨.int ys.length,H,I.tok _,⟨s.toks+1,by rw[bp,bB]⟩,q⟩
 .obtain⟨its,r',pl,hz⟩:=I.tuple hq;have bB:=r'.length;exact len_tuple pl (by simp only[bp]<;>omega) ⟨.int ys.length,H,I.tok _,⟨s.toks+1,by rw[bp,bB]⟩,q⟩
def se:um X (.builtin "len") (λxs H Q=>∃z,xs=[.str z]/\z.length<=aF/\Q (.int z.length) H):=by intro aC s σ H xs us Q I r h;obtain⟨z,rfl,hz,q⟩:=h;obtain⟨u,rfl,t,rfl⟩:=v9 r;have hn:=EB;exact PyProof.Rows.len_str (by omega) ⟨.int z.length,H,I.tok _,⟨_,rfl⟩,q⟩
def vg:um X (.type "list") (λxs H Q=>∃p ys,xs=[.ref p]/\(SqL X.K H p ys\/SqT X.K H p ys)/\∀l,H l=none->Q (.ref l) (upd H l<|.lst ys)):=by
 intro aC s σ H xs us Q I r h;obtain⟨p,ys,rfl,hq,q⟩:=h;obtain⟨u,rfl,rx⟩:=v9 r;cases rx;have fin:∀(its:Z aA),Vals ys its->ys.length<=aF->∀(h':Heap)(c':Nat),(∀b o',s.heap.get? b=some o'->h'.get? b=some o')->
   h'.get? s.heap.objs.size=some {cls:=.type "list",dict:=none,data:=.seq its.toArray c',slots:=#[]}->EP X aC σ Q (.ref s.heap.objs.size) {s with heap:=h'}:=λits r' hz h' c' kp e=>
  ⟨.ref s.heap.objs.size,_,I.laid (t':=s.toks) kp (ao _) (show ObjOk X.prog X.w _ h' _ (.lst ys)from ⟨hz,its,c',r',e⟩),rfl,q _<|I.hok.fresh<|ao _⟩
 rcases hq with hq|hq
 .obtain⟨its,r',pl,hz⟩:=I.list hq;have bB:=r'.length;obtain⟨o,ho,hc,n,hd⟩:=pl.isList;exact call_list_seq p (.inl rfl) ho hc hd (λh' c' kp e=>fin its r' hz h' c' kp e)<|by simp only[bp]<;>omega
 .obtain⟨its,r',pl,hz⟩:=I.tuple hq;have bB:=r'.length;obtain⟨o,ho,hc,n,hd⟩:=pl;exact call_list_seq p (.inr rfl) ho hc hd (λh' c' kp e=>fin its r' hz h' c' kp e)<|by simp only[bp]<;>omega
def ph:um X (.type "tuple") (λxs H Q=>∃p ys,xs=[.ref p]/\((SqL X.K H p ys/\∀l,H l=none->Q (.ref l) (upd H l<|.tup ys))\/(SqT X.K H p ys/\Q (.ref p) H))):=by
 intro aC s σ H xs us Q I r h;obtain⟨p,ys,rfl,h⟩:=h;obtain⟨u,rfl,rx⟩:=v9 r;cases rx;rcases h with ⟨hq,q⟩|⟨hq,q⟩
 .obtain⟨its,r',pl,hz⟩:=I.list hq;have bB:=r'.length;refine call_tuple_list pl.isList (λh' kp=>?_) (by simp only[bp]<;>omega);have I1:Inv X aC σ H {s with heap:=h'}:=I.kept (t':=s.toks) kp;have I2:Inv X aC σ (upd H h'.objs.size<|.tup ys) {s with heap:=h'.push {cls:=.type "tuple",data:=.seq its.toArray}}:=
   I1.laid (t':=s.toks) (λb o e=>aj _ e) (ao _) (show ObjOk X.prog X.w _ _ _ (.tup ys)from ⟨hz,its,r',lB.new _ _⟩)
  exact⟨.ref h'.objs.size,_,I2,rfl,q _<|I1.hok.fresh<|ao _⟩
 .obtain⟨its,r',pl,hz⟩:=I.tuple hq;exact call_tuple_same pl ⟨.ref p,H,I,rfl,q⟩
def tyV(K:aw)(T:String)(x:V)(H:Hp):Prop:=match x with
 | .str _=>T="str"
 | .int _=>T="int"
 | .ref p=>(T="list"/\∃xs,SqL K H p xs)\/(T="tuple"/\∃o,K.lookup p=some o/\o.cls=.type "tuple"/\o.dict=none)\/
   (T="dict"/\((∃kvs,H p=some (.dK kvs))\/∃kvs,H p=some (.dT kvs)))\/(T="set"/\∃S n,H p=some (.set S n))
 | _=>False
theorem asq{aC:Z (aG×Obj)}{σ:St}{H:Hp}{s:aB}{T:String}{x:V}{v:aA}(I:Inv X aC σ H s)(r:RelV x v)(ty:tyV X.K T x H) :
  s.TypeIs v T/\∀a,v=.ref a->∃ob,s.heap.get? a=some ob/\ob.dict=none:=by
 cases x with
 | str z=>
  obtain⟨t,rfl⟩:=r;cases (show T="str" from ty);exact⟨typeIs_str s z t,λ_ e=>nomatch e⟩
 | int i=>
  obtain⟨t,rfl⟩:=r;cases (show T="int" from ty);exact⟨typeIs_int s i t,λ_ e=>nomatch e⟩
 | ref p=>
  cases r;rcases ty with ⟨rfl,xs,hq⟩|⟨rfl,o,hk,hc,hd⟩|⟨rfl,hk⟩|⟨rfl,S,n,hk⟩
  .obtain⟨its,_,pl,_⟩:=I.list hq;refine⟨pl.isList.typeIs,λa e=>?_⟩;cases e;obtain⟨o,n,e,c,hd,_⟩:=pl;exact⟨o,e,hd⟩
  .refine⟨⟨o,I.kIn p o hk,hc⟩,λa e=>?_⟩;cases e;exact⟨o,I.kIn _ o hk,hd⟩
  .have z:∃o,s.heap.get? p=some o/\o.ExactDict:=by
    rcases hk with ⟨kvs,hk⟩|⟨kvs,hk⟩
    .obtain⟨_,_,_,_,o,_,_,e,ex,_⟩:=I.hok p _ hk;exact⟨o,e,ex⟩
    .obtain⟨_,_,_,_,o,_,_,e,ex,_⟩:=I.hok p _ hk;exact⟨o,e,ex⟩
   obtain⟨o,e,ex⟩:=z;refine⟨⟨o,e,ex.1⟩,λa e2=>?_⟩;cases e2;exact⟨o,e,ex.2.1⟩
  .obtain⟨o,_,_,_,e,ex,_⟩:=I.hok p _ hk;refine⟨⟨o,e,ex.1⟩,λa e2=>?_⟩;cases e2;exact⟨o,e,ex.2.1⟩
 | _=>exact False.elim ty
def a3p(K:aw)(T:String)(r:V->Z V->Hp->VK->Prop)(to:TE):TE:=λσ H Q=>to σ H λx H1=>tyV K T x H1/\r x [] H1 Q
def tBM(K:aw)(T:String)(r:V->Z V->Hp->VK->Prop)(to:TE)(t:TA):TE:=λσ H Q=>to σ H λx H1=>tyV K T x H1/\t σ H1 λxs H2=>r x xs H2 Q
variable{o e:Expr}{es:Z Expr}{to:TE}{t:TA}{name:Str}{fN fB:dH}{T id:String}{r:V->Z V->Hp->VK->Prop}
def LA(pa:PlainAttrs T)(slot:Slot T name id)(IV:typeOf (.builtin id)=aS (.type "method_descriptor"))(hm:MtR X id r)(ho:PE X o to)
  (mM:jM o name X.env (bQ o X.env)=bQ o X.env:=by rfl) (fG:(fN.endLine==fB.line)=true:=by rfl):PE X (.Call (.Attribute o name fN) [] [] fB) (a3p X.K T r to):=by
 intro aC s σ H Q I h;refine qZ mM fG<|thn (ho aC s σ H _ I h) λv s1 ⟨x,H1,I1,r1,ty,q1⟩=>?_;obtain⟨h1,h2⟩:=asq I1 r1 ty;exact⟨T,id,pa,slot,IV,h1,h2,Calls.callWith_builtin rfl<|PySem.evalArgs_none<|hm aC s1 σ H1 x [] v [] Q I1 r1 .nil q1⟩
def pW(pa:PlainAttrs T)(slot:Slot T name id)(IV:typeOf (.builtin id)=aS (.type "method_descriptor"))(hm:MtR X id r)(ho:PE X o to)(ha:PA X (e::es) t)
  (mM:jM o name X.env (bQ o X.env)=bQ o X.env:=by rfl)
  (JQ:((cY fB<|aU (e::es) X.env).all (λx=>!x.1)&&(xU fB<|mH [] X.env).all (λx=>x.1.isSome)
   && decide ((e::es).length+([]:Z nQ).length+(if ([]:Z nQ).isEmpty then 0 else 1)<30))=true:=by rfl)
  (fG:(fN.endLine==fB.line)=true:=by rfl) (hs:aU (e::es) X.env=(false,bQ e X.env)::aU es X.env:=by rfl) (zC:(cY fB<|aU es X.env).any (·.1)=false:=by rfl) :
  PE X (.Call (.Attribute o name fN) (e::es) [] fB) (tBM X.K T r to t):=by
 intro aC s σ H Q I h;refine wpAny_Call_method_late mM JQ fG rfl<|thn (ho aC s σ H _ I h) λv s1 ⟨x,H1,I1,r1,ty,q1⟩=>?_;obtain⟨h1,h2⟩:=asq I1 r1 ty;refine⟨T,id,pa,slot,IV,h1,h2,?_⟩;have hA:=ha fB aC s1 σ H1 _ I1 q1;rw[hs]at hA⊢;refine Calls.callWith_builtin (by show(false||(cY fB<|aU es X.env).any (·.1))=false;rw[zC]<;>rfl)<|Calls.evalArgs_plain ?_;exact thn hA λus s2 ⟨vs,H2,I2,r2,q2⟩=>hm aC s2 σ H2 x vs v us Q I2 r1 r2 q2
end
def MtM(X:Cx)(id:String)(r:V->Z V->Hp->VK->Prop):Prop:=
 ∀(aC:Z (aG×Obj)) (s:aB) (σ:St) (H:Hp) (x:V) (xs:Z V) (v:aA) (us:Z aA) (Q:VK),Inv X aC σ H s->RelV x v->Vals xs us->r x xs H Q->
  aH (aI X.prog X.w) X.A (call (.builtin id) (v::us)) (EP X aC σ Q) X.xe s
theorem Vals.one:∀{x:V} {us:Z aA},Vals [x] us->∃u,us=[u]/\RelV x u
 | _,_,.cons r .nil=>⟨_,rfl,r⟩
theorem Vals.zero:∀{us:Z aA},Vals [] us->us=[]
 | _,.nil=>rfl
section
variable{X:Cx}{aC:Z (aG×Obj)}{σ:St}{H:Hp}{s:aB}{l b:aG}{xs ys zs:Z V}
def Inv.lset{its its':Z aA}{n:Nat}{f:Array aA->Array aA}{t':Nat}(I:Inv X aC σ H s)(hH:H l=some (.lst xs))
  (e:s.heap.get? l=some {cls:=.type "list",data:=.seq its.toArray n}) (hf:f its.toArray=its'.toArray) (hv:Vals ys its') (hz:ys.length<=aF) :
  Inv X aC σ (upd H l<|.lst ys) {s with heap:=s.heap.update l<|jp f,toks:=t'}:=by
 have q:=PySem.IsL.update e f;rw[hf]at q;refine I.write (x:=l) (e:=l) (by rw[hH];exact trivial) (.inl rfl) (λb' u hb hu=>(b7 s.heap (jp f)<|Ne.symm hb).trans hu) ⟨_,q⟩ ?_;exact⟨hz,its',_,hv,q⟩
def Inv.lnew{its:Z aA}{t':Nat}(I:Inv X aC σ H s)(hv:Vals ys its)(hz:ys.length<=aF) :
  Inv X aC σ (upd H s.heap.objs.size<|.lst ys) {s with heap:=s.heap.push {cls:=.type "list",data:=.seq its.toArray},toks:=t'}:=
 I.laid (λ_ _ q=>aj _ q) (ao _) ⟨hz,its,0,hv,a7 _ rfl⟩
def Inv.lstM(I:Inv X aC σ H s)(hH:H l=some (.lst xs)):xs.length<=aF/\∃(its:Z aA)(n:Nat),Vals xs its/\xs.length=its.length/\s.heap.get? l=some {cls:=.type "list",data:=.seq its.toArray n}:=by obtain⟨z,its,n,r,e⟩:=I.hok l _ hH;exact⟨z,its,n,r,r.length,e⟩
def arq{n:Nat}(h:n<=aF):Builtin.List.listTooLong n=false:=by unfold Builtin.List.listTooLong;exact decide_eq_false<|by omega
end
section
variable{X:Cx}
def avk:V->Z V->Hp->VK->Prop:=λx vs H Q=>∃l xs y,x=.ref l/\vs=[y]/\H l=some (.lst xs)/\xs.length<aF/\Q .non (upd H l<|.lst<|xs++[y])
def r8:MtM X "list.append" avk:=by intro aC s σ H x vs v us Q I rx rv h;obtain⟨l,xs,y,rfl,rfl,hH,hz,q⟩:=h;cases rx;obtain⟨u,rfl,ru⟩:=rv.one;obtain⟨z,its,n,r,hl,e⟩:=I.lstM hH;refine Br F.slot_list_append ⟨_,e,rfl⟩ F.entry_list_append (F.args_list_append_2 _ _) (PySem.list_append l its.toArray n u<|by rw[bp];omega) ⟨e,?_⟩;refine⟨.non,_,I.lset (its':=its++[u]) hH e (by simp) (r.append<|.cons ru .nil) ?_,rfl,q⟩;rw[bo,md];omega
def awl:V->Z V->Hp->VK->Prop:=λx vs H Q=>∃l b xs zs,x=.ref l/\vs=[.ref b]/\H l=some (.lst xs)/\H b=some (.lst zs)/\xs.length+zs.length<=aF/\Q .non (upd H l<|.lst<|xs++zs)
def af5:MtM X "list.extend" awl:=by
 intro aC s σ H x vs v us Q I rx rv h;obtain⟨l,b,xs,zs,rfl,rfl,hH,hB,hz,q⟩:=h;cases rx;obtain⟨u,rfl,ru⟩:=rv.one;cases ru;obtain⟨z,its,n,r,hl,e⟩:=I.lstM hH;obtain⟨z2,pC,n2,r2,eV,e2⟩:=I.lstM hB;have hsz:its.toArray.size+pC.toArray.size<=aF:=by rw[bp,bp];omega
 have Di:¬(!its.toArray.isEmpty&&Builtin.List.listTooLong (its.toArray.size+pC.toArray.size))=true:=by rw[arq hsz,Bool.and_false];exact am
 refine Br F.slot_list_extend ⟨_,e,rfl⟩ F.entry_list_extend (F.args_list_extend_2 _ _)
  (AutoSeq1.list_extend_list_list_0 l its.toArray n b pC.toArray n2 Di (by rw[bp];omega)<|by omega) ⟨e,e2,?_⟩
 refine⟨.non,_,I.lset (its':=its++pC) hH e (by simp) (r.append r2) ?_,rfl,q⟩;rw[bo];omega
end
end L2
namespace Att
open PySem PySem.W PySem.Calls PyProof.Rows
theorem acv{P:Params}{h:Heap}:∀(ns:Z Int)(vs:Z aA),WellAll P h vs (ns.map WData.int)->gH vs ns:=by
 intro ns;induction ns with
 | nil=>
  intro vs w;rw[List.map_nil]at w;cases w;exact .nil
 | cons n ns ih=>
  intro vs w;rw[cm]at w;cases w with
  | cons a b=>
   cases a;exact .cons _ _<|ih _ b
theorem ao6{l:OpenLaw}{n:Nat}(hn:l.most=some n){P:Params}{h:Heap}{args:Z WData}{yK:Z aA}
  (vN:l.row.toRowW.claim.pre args=true) (IT:WellAll P h yK args) :
  ∃a vs ns,yK=[aA.ref a]/\args=[WData.list (ns.map WData.int)]/\h.get? a=some {cls:=.type "list",data:=.seq vs.toArray}/\gH vs ns/\ns.length<=n:=by
 have hsh:WShape.hasAll [] args [.list .int]=true:=(pre_splitW vN).1;have hc:l.pre.holds [] {args:=args}=true:=(pre_splitW vN).2;obtain⟨d,r,rfl,h1,h2⟩:=hasAllW_cons hsh;obtain rfl:=hasAllW_nil h2;obtain⟨xs,rfl,h3⟩:=hasW_list h1;obtain⟨ns,rfl⟩:=items_int h3;have bB:ns.length<=n:=by
  unfold OpenLaw.pre at hc;have h4:(WTm.not<|.lt (.lit<|.int (n:Int))<|.len<|.arg 0).holds [] {args:=[.list (ns.map .int)]}=true:=by have h4:=(holds_andW hc).1;rw[hn]at h4;exact h4
  have h5:=condW_of h4<|w_not<|w_lt w_lit<|w_len_list<|w_arg rfl;rw[ae]at h5;refine Nat.le_of_not_lt λq=>?_;have q':(n:Int)<((ns.length:Nat):Int):=by omega
  first
   | (rw[decide_eq_true q']at h5;exact absurd h5<|by decide)
   | (simp at h5;omega)
 cases IT with
 | cons w1 w2=>
  cases w2;cases w1 with
  | list ho bY=>exact⟨_,_,ns,rfl,rfl,ho,acv ns _ bY,bB⟩
def anx(l:OpenLaw)(args:Z WData):l.row.toRowW.claim.post args (.bool true) args=true:=
 postW_of (r:=l.row.toRowW) (X:=(true==true))
  (show WShape.has [] (.bool true) .bool=true by first|rfl|decide|simp[WShape.has,WShape.arms,WShape.armsAll])
  (show(WTm.eq .res<|.lit<|.bool true).value [] {args:=args,res:=some<|.bool true,after:=args}=some (.bool<|true==true)from w_eq_bool (w_res rfl) w_lit) rfl
def attach_call{l:OpenLaw}{n:Nat}{q:aM}{loose:Z Str}{XP:(Str->Option aA)->Heap->Prop}{YP:aN->Heap->Prop}{d:DefRec}
  (hn:l.most=some n) (DA:d.params.defaults=[])
  (call:∀(w:aN)(s₀ s₁:aB)(mg mb:Str->Option aA)(fa:aG)(o:Obj)(pm cd jX:aA)(a:aG)(vs:Z aA)(ns:Z Int),
   Ground q loose [] XP w s₀ mg mb s₁.heap->YP w s₁.heap->
   s₁.heap.get? fa=some o->o.data=.func (docDef d.name d.params d.body d.scope pm cd jX)->s₁.heap.CodeRec cd d.name->mg d.name=some (.ref fa)->
   s₁.heap.get? a=some {cls:=.type "list",data:=.seq vs.toArray}->gH vs ns->ns.length<=n->s₁.gens=#[]->
   bT (aI l.prog w) kX (.call (.ref fa) ⟨[.ref a],[]⟩) (λr s'=>r=.ok (.ret<|.bool true)/\OldK s₁.heap s'.heap/\s'.os=s₁.os/\gI s'.gens) s₁) :
  WalkO q loose XP YP l.row.toRowW d [] (λf vs=>PySem.call f vs):=by
 intro w s₀ s₁ mg mb G Y fa o pm cd jX dV kV ho hd oQ hD vQ hg args yK as vN jE hrd IT uF;obtain rfl:dV=.none:=Dflts.none hD DA;obtain rfl:kV=.none:=Dflts.noKw hD;obtain⟨a,vs,ns,rfl,rfl,pI,sX,bB⟩:=ao6 hn vN IT;refine enter_call<|gG (call w s₀ s₁ mg mb fa o pm cd jX a vs ns G Y ho (fd_plain hd) oQ vQ pI sX bB hg) λr s' hq=>?_;obtain⟨rfl,h2,h3,h4⟩:=hq;exact⟨.inl ⟨.bool true,.bool true,[],rfl,λ_=>rfl,.bool true,anx l _,λ_=>⟨List.Pairwise.nil,λ_ hm=>(nomatch hm)⟩⟩,h2,h3,h4⟩
end Att
namespace L2
open PySem PySem.Spec PyProof.Rows
theorem wv:∀{vs:Z aA} {ns:Z Int},gH vs ns->Vals (ns.map V.int) vs
 | _,_,.nil=>.nil
 | _,_,.cons n t h=>.cons ⟨t,rfl⟩<|wv h
def Nk(H:Hp):Prop:=∀b,H b=none\/∃o xs,H b=some (.frz o<|.lst xs)
theorem arf{P:aM}{w:aN}{K:aw}{mg mb:Str->Option aA}{CX:CXT}{k:Nat}{fa a:aG}{fd:bX}{x:Str}{sp:Sp}{s₁:aB}{vs:Z aA}{ns:Z Int}
  (KX:K.In s₁.heap) (oI:s₁.heap.Ns aP mg) (hb:s₁.heap.Ns Bs mb) (hbb:∀x:Str,x≠"__name__"->mb x=bJ x) (Jz:s₁.heap.NoLimit) (hg:s₁.gens=#[])
  (ha:s₁.heap.get? a=some {cls:=.type "list",data:=.seq vs.toArray}) (hi:gH vs ns) (hl:ns.length<=aF) (hr:Room k kX)
  (F:∀base:Heap,K.In base->base.Ns aP mg->rn P w K mg base CX k fa fd [x] sp) (DF:∀(s:aB)(u:aA),nT s fd ⟨[u],[]⟩ [(x,u)])
  (iP:∀H:Hp,Nk H->SqL K H a (ns.map V.int)->sp [.ref a] H (λv _=>v=.bl true) λ_ _ _=>False)
  (Kt:∀H e s',CX [] H s₁ (λ_ _ _=>False) e s'->False) :
  bT (aI P w) kX (.call (.ref fa) ⟨[.ref a],[]⟩) (λr s'=>r=.ok (.ret<|.bool true)/\OldK s₁.heap s'.heap/\s'.os=s₁.os/\gI s'.gens) s₁:=by
 have rv:=wv hi;have IJ:=hi.length;have D0:∀H:Hp,Nk H->SqL K H a (ns.map V.int)->HOk P w H s₁.heap->(∀b,H b≠none->b=a)->(H a≠none->K.lookup a=none)->
   bT (aI P w) kX (.call (.ref fa) ⟨[.ref a],[]⟩) (λr s'=>r=.ok (.ret<|.bool true)/\OldK s₁.heap s'.heap/\s'.os=s₁.os/\gI s'.gens) s₁:=by
  intro H hO hS hok hA hK;have oU:∀{b:aG} {o:Obj},s₁.heap.get? b=some o->H b=none->(wG s₁.heap H).get? b=some o:=λe n=>aqx e n;have CG:∀{b:aG} {o:Obj} {es:Array dF} {ep:Nat},s₁.heap.get? b=some o->o.data=.dict es ep->H b=none:=λ{b o es ep} e d=>by
   cases q:H b with
   | none=>rfl
   | some u=>
    have e':b=a:=hA b (by rw[q];simp);subst e';rw[ha]at e;cases e;have d':Data.seq vs.toArray _=Data.dict es ep:=d;cases d'
  have Fi:∀{b:aG} {m:Str->Option aA},s₁.heap.Ns b m->(wG s₁.heap H).Ns b m:=λ{b m} ⟨o,es,ep,e,d,r⟩=>⟨o,es,ep,oU e<|CG e d,d,r⟩;have hKb:K.In (wG s₁.heap H):=λb o e=>oU (KX b o e) (by
   cases q:H b with
   | none=>rfl
   | some u=>
    have e':b=a:=hA b (by rw[q];simp);subst e';rw[hK (by rw[q];simp)]at e;cases e)
  have hM:Mod K mg (wG s₁.heap H):=⟨hKb,Fi oI,⟨mb,Fi hb,hbb⟩,let ⟨mc,h1,h2⟩:=Jz;⟨mc,Fi h1,h2⟩⟩;have e0:Gn P w K mg (wG s₁.heap H) kX [] s₁ H:=⟨rfl,hM,λb o e=>awn e,Nat.le_of_eq<|alu _ _,trivial,λb hb=>absurd (show b∈([]:Z aG)from hb)<|by simp,hok,.of_eq hg⟩;refine gG ((F _ hKb<|Fi oI).run kX [] s₁ H ⟨[.ref a],[]⟩ [.ref a] [.ref a] _ _ hr e0 (DF s₁<|.ref a) (.cons rfl .nil) (iP H hO hS)) λr s' h=>?_;cases r with
  | error e=>exact(Kt H e s' h).elim
  | ok fl=>
   cases fl with
   | next=>exact False.elim h
   | brk=>exact False.elim h
   | cont=>exact False.elim h
   | ret u=>
    obtain⟨v,H',os,bare,un,Jo,r',q⟩:=h;have q':v=.bl true:=q;subst q';obtain rfl:u=aA.bool true:=r';refine⟨rfl,OldK.of_keep λb o e=>?_,os,bare⟩;cases q:H b with
    | none=>exact un.keep b o e q (by intro z;exact absurd (show b∈([]:Z aG)from z)<|by simp) (by simp)
    | some u=>
     rcases hO b with z|⟨ob,xs,z⟩
     .rw[q]at z;cases z
     .have z2:=un.frzs b ob _ z;obtain⟨e1,_⟩:=hok b _ z;obtain⟨e2,_⟩:=Jo b _ z2;rw[e]at e1;cases e1;exact e2
 cases hk:K.lookup a with
 | some o=>
  have e:=KX a o hk;rw[ha]at e;cases e;refine D0 (λ_=>none) (λ_=>.inl rfl) (.inr ⟨_,vs.toArray,_,hk,rfl,rfl,rfl,by rw[bp,IJ];exact hl,by simpa using rv⟩) (λb u z=>by have z':(none:Option HO)=some u:=z;cases z') (λb z=>absurd rfl z) λz=>absurd rfl z
 | none=>
  refine D0 (λb=>if b=a then some (.frz {cls:=.type "list",data:=.seq vs.toArray}<|.lst<|ns.map V.int)else none) (λb=>?_) (.inl<|.inr ⟨{cls:=.type "list",data:=.seq vs.toArray},if_pos rfl⟩) (λb u z=>?_) (λb z=>?_) λ_=>hk
  .by_cases hb:b=a
   .exact .inr ⟨_,_,if_pos hb⟩
   .exact .inl<|if_neg hb
  .by_cases hb:b=a
   .have z':=(if_pos hb).symm.trans z;cases z';subst hb;exact⟨ha,by rw[ae];exact hl,vs,_,rv,ha⟩
   .have z':=(if_neg hb).symm.trans z;cases z'
  .by_cases hb:b=a
   .exact hb
   .exact absurd (if_neg hb) z
def walk_of{l:PySem.W.OpenLaw}{n k:Nat}{q:aM}{loose:Z Str}{XP:(Str->Option aA)->Heap->Prop}{YP:aN->Heap->Prop}{d:DefRec}{K:Params->aw}{CX:aN->CXT}{sp:aN->Sp}{x:Str}
  (hn:l.most=some n) (zI:n<=aF) (DA:d.params.defaults=[]) (hr:Room k kX)
  (hY:∀(w:aN)(h:Heap),YP w h->(K w.params).In h)
  (F:∀(w:aN)(mg:Str->Option aA)(fa:aG)(h:Heap),(K w.params).In h->h.Ns aP mg->mg d.name=some (.ref fa)->
   ∃fd:bX,(∀(s:aB)(u:aA),nT s fd ⟨[u],[]⟩ [(x,u)])/\
    ∀base:Heap,(K w.params).In base->base.Ns aP mg->rn l.prog w (K w.params) mg base (CX w) k fa fd [x] (sp w))
  (iP:∀(w:aN)(H:Hp)(a:aG)(ns:Z Int),ns.length<=n->Nk H->SqL (K w.params) H a (ns.map V.int)->sp w [.ref a] H (λv _=>v=.bl true) λ_ _ _=>False)
  (Kt:∀(w:aN)(H:Hp)(s:aB)(e:aA)(s':aB),CX w [] H s (λ_ _ _=>False) e s'->False) :
  PySem.W.WalkO q loose XP YP l.row.toRowW d [] (λf vs=>PySem.call f vs):=by
 refine Att.attach_call hn DA λw s₀ s₁ mg mb fa o pm cd jX a vs ns G Y ho hd oQ vQ pI sX bB hg=>?_;have KX:=hY w _ Y;obtain⟨fd,hb,hF⟩:=F w mg fa _ KX G.T.g vQ;exact arf KX G.T.g G.T.b G.T.builtins G.T.nolimit hg pI sX (gw bB zI) hr hF hb (λH hO hS=>iP w H a ns bB hO hS) λH e s'=>Kt w H s₁ e s'
noncomputable def ym(s:aZ):Arguments:=match s with
 | .FunctionDef _ a _ _ _ _ _ _ _ _=>a
 | _=>{posonlyargs:=[],args:=[],vararg:=none,kwonlyargs:=[],kw_defaults:=[],kwarg:=none,defaults:=[]}
noncomputable def wj(s:aZ):Z aZ:=match s with
 | .FunctionDef _ _ b _ _ _ _ _ _ _=>b
 | _=>[]
noncomputable def m9(s:aZ):cG:=match s with
 | .FunctionDef _ _ _ _ _ _ sc _ _ _=>sc
 | _=>{kind:=.function,names:=[],isGenerator:=false,isCoroutine:=false}
noncomputable abbrev CX0:CXT:=λ_ _ _ _ _ _=>False
noncomputable abbrev E0:XK:=λ_ _ _=>False
def ayr{X:Cx}:Lz CX0 X E0:=λ_ _ _ _ _ _ _ h=>h.elim
structure Fun(K:aw)(x qual:Str)(st:aZ)(f:aG)(fd:bX):Prop where
 ex:∃(oc:aA)(od:Option aG)(kV jX pm:aA)(an:Option aG)(fR ct:aA) (vD:Array (Option aA)),
  fd=ma x qual (ym st) (wj st) (m9 st) .none kV jX pm an fR ct/\K.lookup f=some ⟨oc,od,.func fd,vD⟩/\PySem.W.codeIn K fR qual=true
 kp:lm K (.ref f)=true
section
variable{P:aM}{w:aN}{K:aw}{mg:Str->Option aA}{base:Heap}
def Fun.ok{x qual:Str}{st:aZ}{f:aG}{fd:bX}{N ps:Z Str}{k:Nat}{sp:Sp}(F:Fun K x qual st f fd)(S:np N ps (m9 st))(len:∀vs H Q E,sp vs H Q E->vs.length=ps.length)
  (tE:∀(fR:aA)(A:Around)(outer:Z oX)(s:aB)(H:Hp)(vs:Z V)(Q:VK)(E:XK),Room k (A.deeper<|gE qual (m9 st) s.heap.objs.size f fR)->sp vs H Q E->
   ∃t,PSs (xX CX0 P w K mg base N qual (m9 st) f fR A outer s H E).nox (wj st) t/\t {nx:=λ_ H'=>Q .non H',rt:=Q} (wJ N vs) H):rn P w K mg base CX0 (k+1) f fd ps sp:=by
 obtain⟨oc,od,kV,jX,pm,an,fR,ct,vD,rfl,lk,oQ⟩:=F.ex;refine a0a lk oQ S len λA outer s H vs Q E hr iP=>?_;obtain⟨t,h,q⟩:=tE fR A outer s H vs Q E hr iP;exact⟨t,h.nox,q⟩
def Fun.binds{x qual:Str}{st:aZ}{f:aG}{fd:bX}{ps:Z Str}(F:Fun K x qual st f fd)
  (h:∀(kV jX pm:aA)(an:Option aG)(fR ct:aA)(us:Z aA),us.length=ps.length->bindArgs (ma x qual (ym st) (wj st) (m9 st) .none kV jX pm an fR ct) ⟨us,[]⟩=aS (ps.zip us)):Binds K fd ps []:=by
 obtain⟨oc,od,kV,jX,pm,an,fR,ct,vD,rfl,lk,oQ⟩:=F.ex;exact .all<|h kV jX pm an fR ct
def ay7{x qual:Str}{st:aZ}{f:aG}{oc:aA}{od an:Option aG}{vD:Array (Option aA)}{kV jX pm fR ct:aA}(l:K.lookup f=some ⟨oc,od,.func<|ma x qual (ym st) (wj st) (m9 st) .none kV jX pm an fR ct,vD⟩)
  (c:PySem.W.codeIn K fR qual=true) (k:lm K (.ref f)=true):Fun K x qual st f (ma x qual (ym st) (wj st) (m9 st) .none kV jX pm an fR ct):=⟨⟨oc,od,kV,jX,pm,an,fR,ct,vD,rfl,l,c⟩,k⟩
end
def o0{n:Nat}(h:n<=1000):n<aF:=gi h<|by decide
section
variable{X:Cx}
def pv(i:Nat){x:Str}{pos:dH}(hN:X.N[i]?=some x:=by rfl)(hv:Vis X.env.scope x:=by first|exact Or.inl rfl|exact Or.inr (Or.inl rfl)|exact Or.inr<|Or.inr rfl)(hd:(x==("__debug__" : Str))=false:=by decide)
  (oQ:(x==("__classdict__" : Str))=false:=by decide):PE X (.Name x pos) (kA i):=asz hN hv hd oQ
end
def lA{A B:Prop}(h:B):if false=true then A else B:=by rw[if_neg am];exact h
def x9{A B:Prop}(h:A):if true=true then A else B:=by rw[if_pos rfl];exact h
def x6{c A B:Prop}[Decidable c](h1:c->A)(h2:¬c->B):if c then A else B:=by
 by_cases h:c
 .rw[if_pos h];exact h1 h
 .rw[if_neg h];exact h2 h
def Same(H H':Hp):Prop:=∀b o,H b=some o->H' b=some o
def Same.refl(H:Hp):Same H H:=λ_ _ h=>h
def Same.trans{H H1 H2:Hp}(a:Same H H1)(b:Same H1 H2):Same H H2:=λc o h=>b c o<|a c o h
theorem Same.free{H H':Hp}(e:Same H H'){l:aG}(h:H' l=Option.none):H l=Option.none:=by
 cases q:H l with
 | none=>rfl
 | some o=>
  rw[e l o q]at h;cases h
end L2
namespace L3
def hid{G:Prop}(h:∀C:Prop,(G->C)->C):G:=h G id
end L3
namespace L3
open PySem PyProof.Rows
noncomputable def EH:Bool->aJ->Array aJ->Nat->Nat->Nat->StateT aQ nP (Option Nat):=sortPriv% PySem.Builtin.gallop
noncomputable def GX(left:Bool)(key:aJ)(arr:Array aJ)(base i:Nat):StateT aQ nP (Option Bool):=do
 let x <-jL arr (base+i)
 if left then lt' x key else return (<-lt' key x).map (!·)
def oo{M:Model}{A:Around}{E:aA->aB->Prop}{s:aB}{σ α:Type}{c:Prop}[Decidable c]{t e:StateT σ nP α}{Q:α->σ->Prop}{st:σ}(a:c->iT M A E s t Q st)(b:¬c->iT M A E s e Q st):iT M A E s (if c then t else e) Q st:=by
 by_cases h:c
 .rw[if_pos h];exact a h
 .rw[if_neg h];exact b h
section
variable{prog:aM}{w:aN}{A:Around}{E:aA->aB->Prop}{s:aB}
def mR(prog:aM)(w:aN)(A:Around)(s:aB)(κ:aX)(mem:aJ->Prop)(lt:aJ->aJ->Bool):Prop:=
 ∀x y,mem x->mem y->∀(Q:Bool->aB->Prop),Q (lt x y) s->aH (aI prog w) A (jT κ x.1 y.1) Q (λ_ _=>False) s
variable{κ:aX}{mem:aJ->Prop}{lt:aJ->aJ->Bool}
def Es(C:mR prog w A s κ mem lt){st:aQ}(hk:kindOf st=κ){x y:aJ}(hx:mem x)(hy:mem y){Q:Option Bool->aQ->Prop}(h:Q (some<|lt x y) st):iT (aI prog w) A E s (lt' x y) Q st:=by rw[lt'_eq];refine bh<|dX ?_;rw[hk];refine bh<|gX<|jv<|jb (C x y hx hy (λb s'=>s'=s/\b=lt x y) ⟨rfl,rfl⟩) (λb s' hb=>⟨hb.1,?_⟩) λ_ _ z=>z.elim;rw[hb.2];exact bu h
theorem akq(C:mR prog w A s κ mem lt){st:aQ}(hk:kindOf st=κ){left:Bool}{key:aJ}{arr:Array aJ}{base i:Nat}{x:aJ}(hx:arr[base+i]?=some x)(hm:mem x)(hy:mem key){Q:Option Bool->aQ->Prop}(h:Q (some (if left=true then lt x key else !lt key x)) st) :
  iT (aI prog w) A E s (GX left key arr base i) Q st:=by
 unfold GX;rw[elem'_eq,hx];refine bh<|bu ?_;cases left with
 | true=>exact Es C hk hm hy h
 | false=>exact bh<|Es C hk hy hm<|bu h
theorem ad0(C:mR prog w A s κ mem lt){st:aQ}(hk:kindOf st=κ){left:Bool}{key:aJ}{arr:Array aJ}{base n hint:Nat}(cB:mem key)
  (J9:∀i,i<n->∃x,arr[base+i]?=some x/\mem x) (hh:hint<n) (B:Nat->Bool) (hB:∀i x,i<n->arr[base+i]?=some x->B i=(if left=true then lt x key else !lt key x))
  (mono:∀i j,i<=j->j<n->B j=true->B i=true) {Q:Option Nat->aQ->Prop} (h:∀k,k<=n->(∀i,i<k->B i=true)->(∀i,k<=i->i<n->B i=false)->Q (some k) st) :
  iT (aI prog w) A E s (EH left key arr base n hint) Q st:=by
 have ask:∀(i:Nat)(Q:Option Bool->aQ->Prop),i<n->Q (some<|B i) st->iT (aI prog w) A E s (GX left key arr base i) Q st:=λi Q hi q=>by obtain⟨x,hx,hm⟩:=J9 i hi;rw[hB i x hi hx]at q;exact akq C hk hx hm cB q
 have fin:∀(lo hi:Nat) ,lo<=hi->hi<=n->(∀i,i<lo->B i=true)->(∀i,hi<=i->i<n->B i=false)->
   iT (aI prog w) A E s (do
    let mut l:=lo
    let mut r:=hi
    for _ in [0:n] do
     if l>=r then break
     let IE:=l+(r-l)/2
     let some up <-GX left key arr base IE|return none
     if up then l:=IE+1 else r:=IE
    return some r) Q st:=by
  intro lo hi h1 h2 h3 h4;refine bh (jf (gy (I:=λx c aR=>aR=st/\∃l r,c=(none,l,r)/\l<=r/\r<=n/\r-l<=n-x/\(∀i,i<l->B i=true)/\(∀i,r<=i->i<n->B i=false))
   (Q:=λc aR=>aR=st/\∃l r,c=(none,l,r)/\l=r/\r<=n/\(∀i,i<l->B i=true)/\(∀i,r<=i->i<n->B i=false)) ?step ?fin ?init) ?post)
  case init=>exact⟨rfl,(nc lo hi ⟨rfl,h1,h2,by omega,h3,h4⟩)⟩
  case fin=>
   intro c aR bV;refine hid λCg bW=>?_;obtain⟨rfl,l,r,rfl,a1,a2,a3,a4,a5⟩:=bV;refine bW ?_;exact⟨rfl,(nc l r ⟨rfl,by omega,a2,a4,a5⟩)⟩
  case post=>
   intro c aR bV;refine hid λCg bW=>?_;obtain⟨rfl,l,r,rfl,rfl,a2,a4,a5⟩:=bV;refine bW ?_;exact bu<|h l a2 a4 a5
  case step=>
   intro x c aR _ hx bV;refine hid λCg bW=>?_;obtain⟨rfl,l,r,rfl,a1,a2,a3,a4,a5⟩:=bV;refine bW ?_;dsimp only;by_cases oO:l>=r
   .rw[if_pos oO];exact bu ⟨rfl,(nc l r ⟨rfl,by omega,a2,a4,a5⟩)⟩
   .rw[if_neg oO];refine bh<|ask _ _ (by omega) ?_;cases hb:B (l+(r-l)/2)with
    | true=>exact bu ⟨rfl,(nc (l+(r-l)/2+1) r ⟨rfl,by omega,a2,by omega,λi hi=>mono _ _ (show i<=l+(r-l)/2 by omega) (by omega) hb,a5⟩)⟩
    | false=>
     refine bu ⟨rfl,(nc l (l+(r-l)/2) ⟨rfl,by omega,by omega,by omega,a4,λi hi hn=>?_⟩)⟩;cases Bg:B i with
     | false=>rfl
     | true=>rw[mono _ _ hi hn Bg]at hb;cases hb
 refine bh<|ask hint _ hh ?_;cases vX:B hint with
 | true=>
  dsimp only;simp only[if_true];refine bh (jf (gy (I:=λx c aR=>aR=st/\∃lo eI,c=(none,lo,eI)/\x+1<=eI/\lo<eI/\hint+lo<n/\B (hint+lo)=true)
   (Q:=λc aR=>aR=st/\∃lo eI,c=(none,lo,eI)/\lo<eI/\hint+lo<n/\B (hint+lo)=true/\(n-hint<=eI\/(eI<n-hint/\B (hint+eI)=false))) ?step ?fin ?init) ?post)
  case init=>exact⟨rfl,(nc 0 1 ⟨rfl,by omega,by omega,by omega,vX⟩)⟩
  case fin=>
   intro c aR bV;refine hid λCg bW=>?_;obtain⟨rfl,lo,eI,rfl,a1,a2,a3,a4⟩:=bV;refine bW ?_;exact⟨rfl,(nc lo eI ⟨rfl,a2,a3,a4,.inl<|by omega⟩)⟩
  case step=>
   intro x c aR _ hx bV;refine hid λCg bW=>?_;obtain⟨rfl,lo,eI,rfl,a1,a2,a3,a4⟩:=bV;refine bW ?_;dsimp only;by_cases oO:eI>=n-hint
   .rw[if_pos oO];exact bu ⟨rfl,(nc lo eI ⟨rfl,a2,a3,a4,.inl oO⟩)⟩
   .rw[if_neg oO];refine bh<|ask _ _ (by omega) ?_;cases hb:B (hint+eI)with
    | false=>exact bu ⟨rfl,(nc lo eI ⟨rfl,a2,a3,a4,.inr ⟨by omega,hb⟩⟩)⟩
    | true=>exact bu ⟨rfl,(nc eI (2*eI+1) ⟨rfl,by omega,by omega,by omega,hb⟩)⟩
  case post=>
   intro c aR bV;refine hid λCg bW=>?_;obtain⟨rfl,lo,eI,rfl,a2,a3,a4,a5⟩:=bV;refine bW ?_;dsimp only;refine fin _ _ ?_ ?_ (λi hi=>mono _ _ (show i<=hint+lo by omega) a3 a4) λi hi hn=>?_
   .omega
   .omega
   .rcases a5 with h5|⟨h5,h6⟩
    .omega
    .cases Bg:B i with
     | false=>rfl
     | true=>rw[mono _ _ (show hint+eI<=i by omega) hn Bg]at h6;cases h6
 | false=>
  dsimp only;simp only[be,if_false];refine bh (jf (gy (I:=λx c aR=>aR=st/\∃lo eI,c=(none,lo,eI)/\x+1<=eI/\lo<eI/\lo<=hint/\B (hint-lo)=false)
   (Q:=λc aR=>aR=st/\∃lo eI,c=(none,lo,eI)/\lo<eI/\lo<=hint/\B (hint-lo)=false/\(hint+1<=eI\/(eI<hint+1/\B (hint-eI)=true))) ?step ?fin ?init) ?post)
  case init=>exact⟨rfl,(nc 0 1 ⟨rfl,by omega,by omega,by omega,vX⟩)⟩
  case fin=>
   intro c aR bV;refine hid λCg bW=>?_;obtain⟨rfl,lo,eI,rfl,a1,a2,a3,a4⟩:=bV;refine bW ?_;exact⟨rfl,(nc lo eI ⟨rfl,a2,a3,a4,.inl<|by omega⟩)⟩
  case step=>
   intro x c aR _ hx bV;refine hid λCg bW=>?_;obtain⟨rfl,lo,eI,rfl,a1,a2,a3,a4⟩:=bV;refine bW ?_;dsimp only;by_cases oO:eI>=hint+1
   .rw[if_pos oO];exact bu ⟨rfl,(nc lo eI ⟨rfl,a2,a3,a4,.inl oO⟩)⟩
   .rw[if_neg oO];refine bh<|ask _ _ (by omega) ?_;cases hb:B (hint-eI)with
    | true=>exact bu ⟨rfl,(nc lo eI ⟨rfl,a2,a3,a4,.inr ⟨by omega,hb⟩⟩)⟩
    | false=>exact bu ⟨rfl,(nc eI (2*eI+1) ⟨rfl,by omega,by omega,by omega,hb⟩)⟩
  case post=>
   intro c aR bV;refine hid λCg bW=>?_;obtain⟨rfl,lo,eI,rfl,a2,a3,a4,a5⟩:=bV;refine bW ?_;dsimp only;refine fin _ _ ?_ ?_ (λi hi=>?_) λi hi hn=>?_
   .omega
   .omega
   .rcases a5 with h5|⟨h5,h6⟩
    .omega
    .exact mono _ _ (show i<=hint-eI by omega) (by omega) h6
   .cases Bg:B i with
    | false=>rfl
    | true=>rw[mono _ _ (show hint-lo<=i by omega) hn Bg]at a4;cases a4
end
structure nO(lt:aJ->aJ->Bool):Prop where
 asy:∀x y,lt x y=true->lt y x=false
 tr:∀x y z,lt y x=false->lt z y=false->lt z x=false
def Srt(lt:aJ->aJ->Bool)(l:Z aJ):Prop:=l.Pairwise λx y=>lt y x=false
structure Mid(lt:aJ->aJ->Bool)(la lb out:Z aJ)(ia ib:Nat):Prop where
 perm:out.Perm (la.take ia++lb.take ib)
 srt:Srt lt out
 leA:∀x∈out,∀y∈la.drop ia,lt y x=false
 leB:∀x∈out,∀y∈lb.drop ib,lt y x=false
section
variable{lt:aJ->aJ->Bool}{la lb out:Z aJ}{ia ib:Nat}
def ag8{l:Z aJ}{i k:Nat}:l.take (i+k)=l.take i++(l.drop i).take k:=by rw[List.take_add]
def Mid.pushA(m:Mid lt la lb out ia ib)(hA:Srt lt la)(k:Nat)(h:∀x∈(la.drop ia).take k,∀y∈lb.drop ib,lt y x=false):Mid lt la lb (out++(la.drop ia).take k) (ia+k) ib:=by
 have hd:Srt lt (la.drop ia):=gz (List.drop_sublist _ _) hA;have hs:(la.drop ia).take k++la.drop (ia+k)=la.drop ia:=by rw[<-List.drop_drop];exact ei k _
 have jH:=hd;unfold Srt at jH;rw[<-hs,e9]at jH;refine⟨?_,?_,λx hx y hy=>?_,λx hx y hy=>?_⟩
 .rw[ag8];refine((m.perm.append_right _).trans ?_);rw[br,br];exact ir _ List.perm_append_comm
 .exact e9.mpr ⟨m.srt,jH.1,λx hx y hy=>m.leA x hx y<|cx hy⟩
 .rcases bw.mp hx with h1|h1
  .exact m.leA x h1 y<|by rw[<-hs];exact dq _ hy
  .exact jH.2.2 x h1 y hy
 .rcases bw.mp hx with h1|h1
  .exact m.leB x h1 y hy
  .exact h x h1 y hy
def Mid.pushB(m:Mid lt la lb out ia ib)(hB:Srt lt lb)(k:Nat)(h:∀x∈(lb.drop ib).take k,∀y∈la.drop ia,lt y x=false):Mid lt la lb (out++(lb.drop ib).take k) ia (ib+k):=by
 have hd:Srt lt (lb.drop ib):=gz (List.drop_sublist _ _) hB;have hs:(lb.drop ib).take k++lb.drop (ib+k)=lb.drop ib:=by rw[<-List.drop_drop];exact ei k _
 have jH:=hd;unfold Srt at jH;rw[<-hs,e9]at jH;refine⟨?_,?_,λx hx y hy=>?_,λx hx y hy=>?_⟩
 .rw[ag8,<-br];exact m.perm.append_right _
 .exact e9.mpr ⟨m.srt,jH.1,λx hx y hy=>m.leB x hx y<|cx hy⟩
 .rcases bw.mp hx with h1|h1
  .exact m.leA x h1 y hy
  .exact h x h1 y hy
 .rcases bw.mp hx with h1|h1
  .exact m.leB x h1 y<|by rw[<-hs];exact dq _ hy
  .exact jH.2.2 x h1 y hy
def qq(lt:aJ->aJ->Bool)(la lb out:Z aJ):Prop:=out.Perm (la++lb)/\Srt lt out
def Mid.endB(m:Mid lt la lb out ia ib)(hA:Srt lt la)(h:lb.length<=ib):qq lt la lb (out++la.drop ia):=by have hd:Srt lt (la.drop ia):=gz (List.drop_sublist _ _) hA;refine⟨?_,e9.mpr ⟨m.srt,hd,m.leA⟩⟩;have e:lb.take ib=lb:=a8 h;have p:=m.perm.append_right<|la.drop ia;rw[e,br]at p;refine p.trans<|(ir _ List.perm_append_comm).trans ?_;rw[<-br,ei]
def Mid.endA(m:Mid lt la lb out ia ib)(hB:Srt lt lb)(h:la.length<=ia):qq lt la lb (out++lb.drop ib):=by have hd:Srt lt (lb.drop ib):=gz (List.drop_sublist _ _) hB;refine⟨?_,e9.mpr ⟨m.srt,hd,m.leB⟩⟩;have e:la.take ia=la:=a8 h;have p:=m.perm.append_right<|lb.drop ib;rw[e,br,ei]at p;exact p
def Mid.lastA(m:Mid lt la lb out ia ib)(o:nO lt)(hA:Srt lt la)(hB:Srt lt lb)(h:ia+1=la.length)(hl:∀y∈lb,∀x∈la.drop ia,lt y x=true):qq lt la lb (out++lb.drop ib++la.drop ia):=by have m2:=m.pushB hB (lb.length-ib) λx hx y hy=>o.asy _ _<|hl x (jt<|cx hx) y hy;have e:(lb.drop ib).take (lb.length-ib)=lb.drop ib:=a8 (by rw[ik];exact ao _);rw[e]at m2;exact m2.endB hA<|by lia
end
noncomputable def ae2:Nat->StateT aQ nP Unit:=sortPriv% PySem.Builtin.setMinGallop
noncomputable abbrev ww(st:aQ)(g:Nat):aQ:=aQ.mk' (kindOf st) (aK st) (aO st) g<|bM st
noncomputable def aro:Array aJ->Array aJ->StateT aQ nP (Array aJ):=sortPriv% PySem.Builtin.mergeLo
def SameG(st aR:aQ):Prop:=kindOf aR=kindOf st/\aK aR=aK st/\aO aR=aO st/\bM aR=bM st
def SameG.refl(st:aQ):SameG st st:=⟨rfl,rfl,rfl,rfl⟩
def SameG.gal{st aR:aQ}(h:SameG st aR)(g:Nat):SameG st (ww aR g):=h
section
variable{prog:aM}{w:aN}{A:Around}{E:aA->aB->Prop}{s:aB}
variable{κ:aX}{mem:aJ->Prop}{lt:aJ->aJ->Bool}
structure Two(mem:aJ->Prop)(lt:aJ->aJ->Bool)(a b:Array aJ):Prop where
 mA:∀x∈a.toList,mem x
 mB:∀x∈b.toList,mem x
 sA:Srt lt a.toList
 sB:Srt lt b.toList
 pA:0<a.size
 pB:0<b.size
 first:∀x y,b[0]?=some x->a[0]?=some y->lt x y=true
 last:∀y∈b.toList,∀x,a[a.size-1]?=some x->lt y x=true
def BX{st:aQ}{g:Nat}{Q:Unit->aQ->Prop}(q:Q () (ww st g)):iT (aI prog w) A E s (ae2 g) Q st:=
 show iT (aI prog w) A E s (modify λz=>ww z g) Q st from cC q
def qb{arr:Array aJ}{i:Nat}{x:aJ}(h:arr[i]?=some x){st:aQ}{Q:aJ->aQ->Prop}(q:Q x st):iT (aI prog w) A E s (jL arr i) Q st:=by rw[elem'_eq,h];exact bu q
def we{arr:Array aJ}{i:Nat}{x:aJ}(h:arr[i]?=some x):arr.toList.drop i=x::arr.toList.drop (i+1):=by obtain⟨hi,e⟩:=bz.mp h;have:=List.drop_eq_getElem_cons (l:=arr.toList) (i:=i) (by simpa using hi);rw[this];simp[e]
theorem HE{l:Z aJ}{x:aJ}{r:Z aJ}(o:nO lt)(hs:Srt lt l)(e:l=x::r):∀z∈l,lt z x=false:=by
 subst e;intro z hz;rcases a6.mp hz with h|h
 .rw[h];cases q:lt x x with
  | false=>rfl
  | true=>have:=o.asy _ _ q;rw[q]at this;cases this
 .exact(gu.mp hs).1 z h
def Hx{l:Z aJ}(hs:Srt lt l)(i:Nat):Srt lt (l.drop i):=gz (List.drop_sublist _ _) hs
def yq{arr:Array aJ}(o:nO lt)(hs:Srt lt arr.toList){i j:Nat}{x y:aJ}(cJ:i<=j)(hx:arr[i]?=some x)(hy:arr[j]?=some y):lt y x=false:=by
 have e:=we hx;have hm:y∈arr.toList.drop i:=by rw[fg];exact⟨j-i,by rw[gj,show i+(j-i)=j by lia];simpa using hy⟩
 exact HE o (Hx hs i) e y hm
def qT(lt:aJ->aJ->Bool)(a b out:Array aJ)(ia ib:Nat):Prop:=Mid lt a.toList b.toList out.toList ia ib/\ia+1<a.size/\ib<b.size
def Le{a b out:Array aJ}{ia ib:Nat}{x:aJ}(o:nO lt)(T:Two mem lt a b)(m:Mid lt a.toList b.toList out.toList ia ib)(hx:b[ib]?=some x)(h:∀z∈a.toList.drop ia,lt z x=false) :
  Mid lt a.toList b.toList (out.push x).toList ia (ib+1):=by
 have m2:=m.pushB T.sB 1 λu hu y hy=>by
  rw[we hx]at hu;have:u=x:=by simpa using hu
  rw[this];exact h y hy
 rw[we hx]at m2;simpa using m2
def azb{a b out:Array aJ}{ia ib:Nat}{y:aJ}(o:nO lt)(T:Two mem lt a b)(m:Mid lt a.toList b.toList out.toList ia ib)(hy:a[ia]?=some y)(h:∀z∈b.toList.drop ib,lt z y=false) :
  Mid lt a.toList b.toList (out.push y).toList (ia+1) ib:=by
 have m2:=m.pushA T.sA 1 λu hu z hz=>by
  rw[we hy]at hu;have:u=y:=by simpa using hu
  rw[this];exact h z hz
 rw[we hy]at m2;simpa using m2
def GZ{arr:Array aJ}(o:nO lt)(hs:Srt lt arr.toList){i:Nat}{x y:aJ}(hx:arr[i]?=some x)(h:lt x y=false):∀z∈arr.toList.drop i,lt z y=false:=λz hz=>
 o.tr y x z h (HE o (Hx hs i) (we hx) z hz)
def Gy{a b out:Array aJ}{ia ib:Nat}(T:Two mem lt a b)(m:Mid lt a.toList b.toList out.toList ia ib)(h:ib=b.size):qq lt a.toList b.toList (out++a.extract ia a.size++b.extract ib b.size).toList:=by have:=m.endB T.sA (by simp[h]);have e:List.take (a.size-ia) (a.toList.drop ia)=a.toList.drop ia:=a8 (by simp);simpa [h,e]using this
def axh{a b out:Array aJ}{ia ib:Nat}(T:Two mem lt a b)(m:Mid lt a.toList b.toList out.toList ia ib)(h:ia=a.size):qq lt a.toList b.toList (out++a.extract ia a.size++b.extract ib b.size).toList:=by have:=m.endA T.sB (by simp[h]);have e:List.take (b.size-ib) (b.toList.drop ib)=b.toList.drop ib:=a8 (by simp);simpa [h,e]using this
def Ek{a b out:Array aJ}{ia ib:Nat}(o:nO lt)(T:Two mem lt a b)(m:Mid lt a.toList b.toList out.toList ia ib)(h:ia+1=a.size):qq lt a.toList b.toList (out++b.extract ib b.size++a.extract ia a.size).toList:=by
 have:=m.lastA o T.sA T.sB (by simpa using h) λy hy x hx=>by
  have hl:a[ia]?=some (a[ia]'(by lia)):=by simp
  rw[we hl,List.drop_eq_nil_of_le<|by simp;lia]at hx;have e:x=a[ia]'(by lia):=by simpa using hx
  refine T.last y hy x ?_;rw[e,show a.size-1=ia by lia];exact hl
 have e:List.take (a.size-ia) (a.toList.drop ia)=a.toList.drop ia:=a8 (by simp);have e2:List.take (b.size-ib) (b.toList.drop ib)=b.toList.drop ib:=a8 (by simp);simpa [e,e2]using this
def zr{arr:Array aJ}{P:aJ->Prop}{base k:Nat}(h:∀i z,i<k->arr[base+i]?=some z->P z):∀z∈(arr.toList.drop base).take k,P z:=λz hz=>by
 obtain⟨i,hi⟩:=fg.mp hz;have zR:i<k:=by have:=(ak.mp hi).1;rw[cg]at this;lia
 rw[fq zR,gj]at hi;exact h i z zR<|by simpa using hi
def afp{arr:Array aJ}{P:aJ->Prop}{base k:Nat}(h:∀i z,k<=i->arr[base+i]?=some z->P z):∀z∈arr.toList.drop (base+k),P z:=λz hz=>by obtain⟨i,hi⟩:=fg.mp hz;rw[gj]at hi;exact h (k+i) z (by lia)<|by rw[<-Nat.add_assoc];simpa using hi
def zc(C:mR prog w A s κ mem lt)(o:nO lt){st:aQ}(hk:kindOf st=κ){key:aJ}{arr:Array aJ}{base n hint:Nat}(cB:mem key)(hn:base+n<=arr.size)(hm:∀i z,i<n->arr[base+i]?=some z->mem z)(hh:hint<n)
  (hs:∀i j y z,i<=j->j<n->arr[base+i]?=some y->arr[base+j]?=some z->lt z y=false) {Q:Option Nat->aQ->Prop}
  (h:∀k,k<=n->(∀i z,i<k->arr[base+i]?=some z->lt key z=false)->(∀i z,k<=i->i<n->arr[base+i]?=some z->lt key z=true)->Q (some k) st):iT (aI prog w) A E s (EH false key arr base n hint) Q st:=by
 have ex:∀i,i<n->∃z,arr[base+i]?=some z:=λi hi=>⟨arr[base+i]'(by lia),by simp⟩;refine ad0 C hk cB (λi hi=>?_) hh (λi=>match arr[base+i]? with|some z=>!lt key z|none=>false) (λi z hi hz=>by simp[hz]) (λi j cJ hj hb=>?_) λk kW h1 h2=>h k kW (λi z hi hz=>?_) λi z hi fL hz=>?_
 .obtain⟨z,hz⟩:=ex i hi;exact⟨z,hz,hm i z hi hz⟩
 .obtain⟨y,hy⟩:=ex i (by lia);obtain⟨z,hz⟩:=ex j hj;simp only[hz,hy,Bool.not_eq_true']at hb⊢;exact o.tr _ _ _ (hs i j y z cJ hj hy hz) hb
 .have:=h1 i hi;simpa [hz]using this
 .have:=h2 i hi fL;simpa [hz]using this
theorem Ms(C:mR prog w A s κ mem lt)(o:nO lt){st:aQ}(hk:kindOf st=κ){key:aJ}{arr:Array aJ}{base n hint:Nat}(cB:mem key)(hn:base+n<=arr.size)(hm:∀i z,i<n->arr[base+i]?=some z->mem z)(hh:hint<n)
  (hs:∀i j y z,i<=j->j<n->arr[base+i]?=some y->arr[base+j]?=some z->lt z y=false) {Q:Option Nat->aQ->Prop}
  (h:∀k,k<=n->(∀i z,i<k->arr[base+i]?=some z->lt z key=true)->(∀i z,k<=i->i<n->arr[base+i]?=some z->lt z key=false)->Q (some k) st):iT (aI prog w) A E s (EH true key arr base n hint) Q st:=by
 have ex:∀i,i<n->∃z,arr[base+i]?=some z:=λi hi=>⟨arr[base+i]'(by lia),by simp⟩;refine ad0 C hk cB (λi hi=>?_) hh (λi=>match arr[base+i]? with|some z=>lt z key|none=>false) (λi z hi hz=>by simp[hz]) (λi j cJ hj hb=>?_) λk kW h1 h2=>h k kW (λi z hi hz=>?_) λi z hi fL hz=>?_
 .obtain⟨z,hz⟩:=ex i hi;exact⟨z,hz,hm i z hi hz⟩
 .obtain⟨y,hy⟩:=ex i (by lia);obtain⟨z,hz⟩:=ex j hj;simp only[hz,hy]at hb⊢;cases q:lt y key with
  | true=>rfl
  | false=>rw[o.tr _ _ _ q (hs i j y z cJ hj hy hz)]at hb;cases hb
 .have:=h1 i hi;simpa [hz]using this
 .have:=h2 i hi fL;simpa [hz]using this
theorem aio(C:mR prog w A s κ mem lt)(o:nO lt){st:aQ}(hk:kindOf st=κ){a b:Array aJ}(T:Two mem lt a b){Q:Array aJ->aQ->Prop}
  (h:∀out aR,SameG st aR->qq lt a.toList b.toList out.toList->Q out aR):iT (aI prog w) A E s (aro a b) Q st:=by
 refine bh<|gX<|jm ⟨rfl,?_⟩;have vX:b[0]?=some (b[0]'T.pB):=by simp[T.pB]
 have DI:a[0]?=some (a[0]'T.pA):=by simp[T.pA]
 refine bh<|qb vX ?_;have m0:Mid lt a.toList b.toList (#[]:Array aJ).toList 0 0:=⟨by simp,List.Pairwise.nil,by simp,by simp⟩;have m1:=Le o T m0 vX λz hz=>o.tr _ _ _ (o.asy _ _<|T.first _ _ vX DI)<|HE o (Hx T.sA 0) (we DI) z hz;dsimp only;refine oo (λ(Aa:(1==b.size)=true)=>?_) λ(Aa:¬(1==b.size)=true)=>?_
 .exact bu<|h _ _ (SameG.refl _)<|Gy T m1<|by simpa using Aa
 refine oo (λ(Ac:(0+1==a.size)=true)=>?_) λ(Ac:¬(0+1==a.size)=true)=>?_
 .exact bu<|h _ _ (SameG.refl _)<|Ek o T m1<|by simpa using Ac
 have zZ:1<b.size:=by have:¬1=b.size:=by simpa using Aa
                      have:=T.pB;lia
 have ha2:0+1<a.size:=by have:¬0+1=a.size:=by simpa using Ac
                         have:=T.pA;lia
 refine bh<|dX ?_;refine bh (jf (gy (I:=λx c aR=>SameG st aR/\∃out ia ib mg,c=(none,out,ia,ib,mg)/\qT lt a b out ia ib/\x+1<=ia+ib)
  (Q:=λc aR=>SameG st aR/\∃res r,c=(some res,r)/\qq lt a.toList b.toList res.toList) ?step ?fin ?init) ?post)
 case init=>exact⟨SameG.refl _,(ny _ _ _ _ ⟨rfl,⟨m1,ha2,zZ⟩,ao _⟩)⟩
 case fin=>
  intro c aR bV;refine hid λCg bW=>?_;obtain⟨_,out,ia,ib,mg,rfl,⟨_,h1,h2⟩,h3⟩:=bV;refine bW ?_;lia
 case post=>
  intro c aR bV;refine hid λCg bW=>?_;obtain⟨sg,res,r,rfl,hm⟩:=bV;refine bW ?_;exact bu<|h _ _ sg hm
 case step=>
  intro x c aR _ hx bV;refine hid λCg bW=>?_;obtain⟨sg,out,ia,ib,mg,rfl,L,hp⟩:=bV;refine bW ?_;dsimp only;refine bh (jf (gy (I:=λy c aR=>SameG st aR/\∃cR hW hU ac bc,c=(none,cR,hW,hU,ac,bc)/\qT lt a b cR hW hU/\ia+ib<=hW+hU)
   (Q:=λc aR=>SameG st aR/\((∃res r,c=(some res,r)/\qq lt a.toList b.toList res.toList)\/∃cR hW hU ac bc,c=(none,cR,hW,hU,ac,bc)/\qT lt a b cR hW hU/\ia+ib<=hW+hU)) ?istep ?ifin ?iinit) ?ipost)
  case iinit=>exact⟨sg,(ni _ _ _ _ _ ⟨rfl,L,ao _⟩)⟩
  case ifin=>
   rintro c lY ⟨dW,bA⟩;exact⟨dW,.inr bA⟩
  case istep=>
   intro y c lY _ hy bV;refine hid λCg bW=>?_;obtain⟨dW,cR,hW,hU,ac,bc,rfl,⟨m,l1,l2⟩,mJ⟩:=bV;refine bW ?_;dsimp only;have gT:b[hU]?=some (b[hU]'l2):=by simp[l2]
   have gP:a[hW]?=some (a[hW]'(by lia)):=by simp
   refine bh<|qb gT<|bh<|qb gP<|bh<|Es C (dW.1.trans hk) (T.mB _<|by simp) (T.mA _<|by simp) ?_;cases hl:lt b[hU] a[hW]with
   | true=>
    dsimp only;simp only[if_true];refine bh<|qb gT ?_;have m2:=Le o T m gT<|GZ o T.sA gP<|o.asy _ _ hl;try dsimp only
    refine oo (λ(he:(hU+1==b.size)=true)=>?_) λ(he:¬(hU+1==b.size)=true)=>?_
    .exact bu ⟨dW,.inl<|nc _ _ ⟨rfl,Gy T m2<|by simpa using he⟩⟩
    .have jU:¬hU+1=b.size:=by simpa using he
     have L2:qT lt a b (cR.push b[hU]) hW (hU+1):=⟨m2,l1,by lia⟩;split
     .exact bu ⟨dW,.inr<|ni _ _ _ _ _ ⟨rfl,L2,by lia⟩⟩
     .exact bu ⟨dW,(ni _ _ _ _ _ ⟨rfl,L2,by lia⟩)⟩
   | false=>
    dsimp only;simp only[be,if_false];refine bh<|qb gP ?_;have m2:=azb o T m gP<|GZ o T.sB gT hl;try dsimp only
    refine oo (λ(he:(hW+1+1==a.size)=true)=>?_) λ(he:¬(hW+1+1==a.size)=true)=>?_
    .exact bu ⟨dW,.inl<|nc _ _ ⟨rfl,Ek o T m2<|by simpa using he⟩⟩
    .have jU:¬hW+1+1=a.size:=by simpa using he
     have L2:qT lt a b (cR.push a[hW]) (hW+1) hU:=⟨m2,by lia,l2⟩;split
     .exact bu ⟨dW,.inr<|ni _ _ _ _ _ ⟨rfl,L2,by lia⟩⟩
     .exact bu ⟨dW,(ni _ _ _ _ _ ⟨rfl,L2,by lia⟩)⟩
  case ipost=>
   intro c lY bV;refine hid λCg bW=>?_
   (rcases bV with ⟨dW,(⟨res,r,rfl,hm⟩|⟨cR,hW,hU,ac,bc,rfl,L2,uC⟩)⟩)<;>refine bW ?_
   .dsimp only;exact bu ⟨dW,(nc _ _ ⟨rfl,hm⟩)⟩
   .dsimp only;refine bh<|gX<|jm ⟨rfl,?_⟩;refine bh (jf (gy (I:=λy c aR=>SameG st aR/\∃bF cI bK dR ac bc,c=(none,bF,cI,bK,dR,ac,bc)/\qT lt a b bF cI bK/\hW+hU+y<=cI+bK)
     (Q:=λc aR=>SameG st aR/\((∃res r,c=(some res,r)/\qq lt a.toList b.toList res.toList)\/∃bF cI bK dR ac bc,c=(none,bF,cI,bK,dR,ac,bc)/\qT lt a b bF cI bK/\hW+hU+1<=cI+bK)) ?jstep ?jfin ?jinit) ?jpost)
    case jinit=>exact⟨dW,(ni _ _ _ _ _ ⟨_,rfl,L2,ao _⟩)⟩
    case jfin=>
     intro c kB bV;refine hid λCg bW=>?_;obtain⟨gY,bF,cI,bK,dR,EK,wE,rfl,L3,sQ⟩:=bV;refine bW ?_;exact⟨gY,.inr<|ni _ _ _ _ _ ⟨_,rfl,L3,by have:=T.pA;lia⟩⟩
    case jpost=>
     intro c kB bV;refine hid λCg bW=>?_
     (rcases bV with ⟨gY,(⟨res,r,rfl,hm⟩|⟨bF,cI,bK,dR,EK,wE,rfl,L3,sQ⟩)⟩)<;>refine bW ?_
     .dsimp only;exact bu ⟨gY,(nc _ _ ⟨rfl,hm⟩)⟩
     .dsimp only;refine bh<|BX ?_;exact bu ⟨gY.gal _,(ny _ _ _ _ ⟨rfl,L3,by lia⟩)⟩
    case jstep=>
     intro y c kB _ hy bV;refine hid λCg bW=>?_;obtain⟨gY,bF,cI,bK,dR,EK,wE,rfl,⟨m3,l3,l4⟩,sQ⟩:=bV;refine bW ?_;dsimp only;have gT:b[bK]?=some (b[bK]'l4):=by simp[l4]
     have gS:∀i z,a[i]?=some z->mem z:=λi z hz=>T.mA z (by obtain⟨h1,h2⟩:=bz.mp hz;rw[<-h2];simp);have mG:∀i z,b[i]?=some z->mem z:=λi z hz=>T.mB z (by obtain⟨h1,h2⟩:=bz.mp hz;rw[<-h2];simp);have body:∀(eU:Nat)(cZ:aQ),SameG st cZ->∀(k:Nat),k<=a.size-cI->(∀i z,i<k->a[cI+i]?=some z->lt b[bK] z=false)->(∀i z,k<=i->i<a.size-cI->a[cI+i]?=some z->lt b[bK] z=true)->
       ∃bH:Array aJ,bH=bF++a.extract cI (cI+k)/\Mid lt a.toList b.toList bH.toList (cI+k) bK/\∀z∈a.toList.drop (cI+k),lt z b[bK]=false:=by
      intro eU cZ dQ k kW h1 h2;refine⟨_,rfl,?_,?_⟩
      .have m4:=m3.pushA T.sA k λz hz y hy=>GZ o T.sB gT (zr (P:=λz=>lt b[bK] z=false) h1 z hz) y hy;have e:(bF++a.extract cI (cI+k)).toList=bF.toList++(a.toList.drop cI).take k:=by
        simp
       rw[e];exact m4
      .exact afp (P:=λz=>lt z b[bK]=false) λi z hi hz=>o.asy _ _<|h2 i z hi (by have:=(bz.mp hz).1;lia) hz
     have mD:∀(fS:Array aJ)(dL tY eU k k1:Nat)(cZ:aQ),SameG st cZ->Mid lt a.toList b.toList fS.toList dL tY->dL+1<a.size->tY<b.size->(∀z,a[dL]?=some z->∀u∈b.toList.drop tY,lt u z=false)->hW+hU+y+1<=dL+tY->
       iT (aI prog w) A E s (do
        let z2 <-jL a dL
        if (dL+1+1==a.size)=true then
         aS (ForInStep.done (some<|fS.push z2++b.extract tY b.size++a.extract (dL+1) a.size,fS.push z2,dL+1,tY,eU,k,k1))
        else if (decide (k<7)&&decide (k1<7))=true then aS (ForInStep.done (none,fS.push z2,dL+1,tY,eU,k,k1))
        else aS (ForInStep.yield (none,fS.push z2,dL+1,tY,eU,k,k1)))
       (λr aR=>match r with
        | .done c'=>SameG st aR/\((∃res r,c'=(some res,r)/\qq lt a.toList b.toList res.toList)\/∃bF cI bK dR ac bc,c'=(none,bF,cI,bK,dR,ac,bc)/\qT lt a b bF cI bK/\hW+hU+1<=cI+bK)
        | .yield c'=>SameG st aR/\∃bF cI bK dR ac bc,c'=(none,bF,cI,bK,dR,ac,bc)/\qT lt a b bF cI bK/\hW+hU+(y+1)<=cI+bK) cZ:=by
      intro fS dL tY eU k k1 cZ dQ m5 l5 l6 hu Jm;have gP:a[dL]?=some (a[dL]'(by lia)):=by simp
      refine bh<|qb gP ?_;have m6:=azb o T m5 gP<|hu _ gP;refine oo (λ(he:(dL+1+1==a.size)=true)=>?_) λ(he:¬(dL+1+1==a.size)=true)=>?_
      .exact bu ⟨dQ,.inl<|nc _ _ ⟨rfl,Ek o T m6<|by simpa using he⟩⟩
      .have jU:¬dL+1+1=a.size:=by simpa using he
       have L6:qT lt a b (fS.push a[dL]) (dL+1) tY:=⟨m6,by lia,l6⟩;split
       .exact bu ⟨dQ,.inr<|ni _ _ _ _ _ ⟨_,rfl,L6,by lia⟩⟩
       .exact bu ⟨dQ,(ni _ _ _ _ _ ⟨_,rfl,L6,by lia⟩)⟩
     have bA:∀(bH:Array aJ)(dL eU k:Nat)(cZ:aQ),SameG st cZ->Mid lt a.toList b.toList bH.toList dL bK->dL+1<a.size->(∀z∈a.toList.drop dL,lt z b[bK]=false)->hW+hU+y<=dL+bK->
       iT (aI prog w) A E s (do
        let z <-jL b bK
        if (bK+1==b.size)=true then
         aS (ForInStep.done (some<|bH.push z++a.extract dL a.size++b.extract (bK+1) b.size,bH.push z,dL,bK+1,eU,k,wE))
        else do
         let z1 <-jL a dL
         let x <-EH true z1 b (bK+1) (b.size-(bK+1)) 0
         match x with
         | some k1=>
          if k1>0 then
           if (bK+1+k1==b.size)=true then
            aS (ForInStep.done (some<|bH.push z++b.extract (bK+1) (bK+1+k1)++a.extract dL a.size++b.extract (bK+1+k1) b.size,bH.push z++b.extract (bK+1) (bK+1+k1),dL,bK+1+k1,eU,k,k1))
           else do
            let z2 <-jL a dL
            if (dL+1+1==a.size)=true then
             aS (ForInStep.done (some<|(bH.push z++b.extract (bK+1) (bK+1+k1)).push z2++b.extract (bK+1+k1) b.size++a.extract (dL+1) a.size,(bH.push z++b.extract (bK+1) (bK+1+k1)).push z2,dL+1,bK+1+k1,eU,k,k1))
            else if (decide (k<7)&&decide (k1<7))=true then aS (ForInStep.done (none,(bH.push z++b.extract (bK+1) (bK+1+k1)).push z2,dL+1,bK+1+k1,eU,k,k1))
            else aS (ForInStep.yield (none,(bH.push z++b.extract (bK+1) (bK+1+k1)).push z2,dL+1,bK+1+k1,eU,k,k1))
          else do
           let z2 <-jL a dL
           if (dL+1+1==a.size)=true then
            aS (ForInStep.done (some<|(bH.push z).push z2++b.extract (bK+1) b.size++a.extract (dL+1) a.size,(bH.push z).push z2,dL+1,bK+1,eU,k,k1))
           else if (decide (k<7)&&decide (k1<7))=true then aS (ForInStep.done (none,(bH.push z).push z2,dL+1,bK+1,eU,k,k1))
           else aS (ForInStep.yield (none,(bH.push z).push z2,dL+1,bK+1,eU,k,k1))
         | _=>aS<|ForInStep.done (some<|bH.push z++a.extract dL a.size++b.extract (bK+1) b.size,bH.push z,dL,bK+1,eU,k,wE))
       (λr aR=>match r with
        | .done c'=>SameG st aR/\((∃res r,c'=(some res,r)/\qq lt a.toList b.toList res.toList)\/∃bF cI bK dR ac bc,c'=(none,bF,cI,bK,dR,ac,bc)/\qT lt a b bF cI bK/\hW+hU+1<=cI+bK)
        | .yield c'=>SameG st aR/\∃bF cI bK dR ac bc,c'=(none,bF,cI,bK,dR,ac,bc)/\qT lt a b bF cI bK/\hW+hU+(y+1)<=cI+bK) cZ:=by
      intro bH dL eU k cZ dQ m4 l5 mI hp4;refine bh<|qb gT ?_;have m5:=Le o T m4 gT mI;refine oo (λ(he:(bK+1==b.size)=true)=>?_) λ(he:¬(bK+1==b.size)=true)=>?_
      .exact bu ⟨dQ,.inl<|nc _ _ ⟨rfl,Gy T m5<|by simpa using he⟩⟩
      have jU:¬bK+1=b.size:=by simpa using he
      have gP:a[dL]?=some (a[dL]'(by lia)):=by simp
      refine bh<|qb gP ?_;refine bh<|Ms (st:=cZ) (base:=bK+1) (n:=b.size-(bK+1)) (hint:=0) C o (dQ.1.trans hk) (gS _ _ gP) (by lia) (λi z hi hz=>mG _ z hz) (by lia) (λi j y z cJ hj hy hz=>yq o T.sB (show bK+1+i<=bK+1+j by lia) hy hz) λk1 kW h1 h2=>?_;dsimp only;have m6:=m5.pushB T.sB k1 λz hz u hu=>GZ o T.sA gP (o.asy _ _<|zr (P:=λz=>lt z a[dL]=true) h1 z hz) u hu;have e6:(bH.push b[bK]++b.extract (bK+1) (bK+1+k1)).toList=(bH.push b[bK]).toList++(b.toList.drop<|bK+1).take k1:=by simp
      rw[<-e6]at m6;have AW:∀z,a[dL]?=some z->∀u∈b.toList.drop (bK+1+k1),lt u z=false:=λz hz=>by rw[gP]at hz;cases hz;exact afp (P:=λu=>lt u a[dL]=false) λi z hi hz=>h2 i z hi (by have:=(bz.mp hz).1;lia) hz
      refine oo (λ(iQ:k1>0)=>?_) λ(iQ:¬(k1>0))=>?_
      .refine oo (λ(nJ:(bK+1+k1==b.size)=true)=>?_) λ(nJ:¬(bK+1+k1==b.size)=true)=>?_
       .exact bu ⟨dQ,.inl<|nc _ _ ⟨rfl,Gy T m6<|by simpa using nJ⟩⟩
       .have JU:¬bK+1+k1=b.size:=by simpa using nJ
        exact mD _ dL (bK+1+k1) eU k k1 cZ dQ m6 l5 (by lia) AW<|by lia
      .have e0:k1=0:=by lia
       subst e0;exact mD _ dL (bK+1) eU k 0 cZ dQ m5 l5 (by lia) AW<|by lia
     refine oo (λ(vQ:dR>1)=>?_) λ(vQ:¬(dR>1))=>?_
     .refine bh<|BX ?_;have dQ:SameG st (ww kB<|dR-1):=gY.gal _;refine bh<|qb gT ?_;refine bh<|zc (st:=ww kB<|dR-1) (base:=cI) (n:=a.size-cI) (hint:=0) C o (dQ.1.trans hk) (mG _ _ gT) (by lia) (λi z hi hz=>gS _ z hz) (by lia) (λi j y z cJ hj hy hz=>yq o T.sA (show cI+i<=cI+j by lia) hy hz) λk kW h1 h2=>?_;obtain⟨bH,e3,m4,mI⟩:=body 0 kB gY k kW h1 h2;dsimp only;by_cases iQ:k>0
      .rw[if_pos iQ,<-e3];refine oo (λ(he:(cI+k+1==a.size)=true)=>?_) λ(he:¬(cI+k+1==a.size)=true)=>?_
       .exact bu ⟨dQ,.inl<|nc _ _ ⟨rfl,Ek o T m4<|by simpa using he⟩⟩
       have jU:¬cI+k+1=a.size:=by simpa using he
       refine oo (λ(nJ:(cI+k==a.size)=true)=>?_) λ(nJ:¬(cI+k==a.size)=true)=>?_
       .exact bu ⟨dQ,.inl<|nc _ _ ⟨rfl,axh T m4<|by simpa using nJ⟩⟩
       have JU:¬cI+k=a.size:=by simpa using nJ
       refine jf (bA bH (cI+k) (dR-1) k _ dQ m4 (by lia) mI<|by lia) λr aR hr=>?_;cases r<;>exact hr
      .rw[if_neg iQ];have e0:k=0:=by lia
       subst e0;have e5:bH=bF:=Array.ext' (by rw[e3];simp);rw[e5]at m4;refine jf (bA bF cI (dR-1) 0 _ dQ m4 l3 mI sQ) λr aR hr=>?_;cases r<;>exact hr
     .refine bh<|BX ?_;have dQ:SameG st (ww kB<|dR):=gY.gal _;refine bh<|qb gT ?_;refine bh<|zc (st:=ww kB<|dR) (base:=cI) (n:=a.size-cI) (hint:=0) C o (dQ.1.trans hk) (mG _ _ gT) (by lia) (λi z hi hz=>gS _ z hz) (by lia) (λi j y z cJ hj hy hz=>yq o T.sA (show cI+i<=cI+j by lia) hy hz) λk kW h1 h2=>?_;obtain⟨bH,e3,m4,mI⟩:=body 0 kB gY k kW h1 h2;dsimp only;by_cases iQ:k>0
      .rw[if_pos iQ,<-e3];refine oo (λ(he:(cI+k+1==a.size)=true)=>?_) λ(he:¬(cI+k+1==a.size)=true)=>?_
       .exact bu ⟨dQ,.inl<|nc _ _ ⟨rfl,Ek o T m4<|by simpa using he⟩⟩
       have jU:¬cI+k+1=a.size:=by simpa using he
       refine oo (λ(nJ:(cI+k==a.size)=true)=>?_) λ(nJ:¬(cI+k==a.size)=true)=>?_
       .exact bu ⟨dQ,.inl<|nc _ _ ⟨rfl,axh T m4<|by simpa using nJ⟩⟩
       have JU:¬cI+k=a.size:=by simpa using nJ
       refine jf (bA bH (cI+k) (dR) k _ dQ m4 (by lia) mI<|by lia) λr aR hr=>?_;cases r<;>exact hr
      .rw[if_neg iQ];have e0:k=0:=by lia
       subst e0;have e5:bH=bF:=Array.ext' (by rw[e3];simp);rw[e5]at m4;refine jf (bA bF cI (dR) 0 _ dQ m4 l3 mI sQ) λr aR hr=>?_;cases r<;>exact hr
end
structure MidH(lt:aJ->aJ->Bool)(la lb R:Z aJ)(na nb:Nat):Prop where
 perm:R.Perm (la.drop na++lb.drop nb)
 srt:Srt lt R
 geA:∀x∈la.take na,∀y∈R,lt y x=false
 geB:∀x∈lb.take nb,∀y∈R,lt y x=false
section
variable{lt:aJ->aJ->Bool}{la lb R:Z aJ}{na nb:Nat}
def aj7{l:Z aJ}{i n:Nat}(h:i<=n):l.take i++(l.take n).drop i=l.take n:=by have:=ei i<|l.take n;rw[List.take_take,gr h]at this;exact this
def aj4{l:Z aJ}{i n:Nat}(h:i<=n):(l.take n).drop i++l.drop n=l.drop i:=by
 have e:=ei n l;have:=congrArg (List.drop i) e;rw[List.drop_append]at this;by_cases hl:n<=l.length
 .rw[cg,gr hl,show i-n=0 by lia,j6]at this;exact this
 .rw[List.drop_eq_nil_of_le (show l.length<=n by lia),df,a8<|by lia]
def MidH.pushA(m:MidH lt la lb R na nb)(hA:Srt lt la){i:Nat}(hi:i<=na)(h:∀x∈lb.take nb,∀y∈(la.take na).drop i,lt y x=false):MidH lt la lb ((la.take na).drop i++R) i nb:=by
 have ht:Srt lt (la.take na):=gz (List.take_sublist _ _) hA;have hs:=aj7 (l:=la) hi;have sI:=ht;unfold Srt at sI;rw[<-hs,e9]at sI;refine⟨?_,?_,λx hx y hy=>?_,λx hx y hy=>?_⟩
 .rw[<-aj4 (l:=la) hi,br];exact ir _ m.perm
 .exact e9.mpr ⟨sI.2.1,m.srt,λx hx y hy=>m.geA x (jt hx) y hy⟩
 .rcases bw.mp hy with h1|h1
  .exact sI.2.2 x hx y h1
  .exact m.geA x (by rw[<-hs];exact kh _ hx) y h1
 .rcases bw.mp hy with h1|h1
  .exact h x hx y h1
  .exact m.geB x hx y h1
def MidH.pushB(m:MidH lt la lb R na nb)(hB:Srt lt lb){i:Nat}(hi:i<=nb)(h:∀x∈la.take na,∀y∈(lb.take nb).drop i,lt y x=false):MidH lt la lb ((lb.take nb).drop i++R) na i:=by
 have ht:Srt lt (lb.take nb):=gz (List.take_sublist _ _) hB;have hs:=aj7 (l:=lb) hi;have sI:=ht;unfold Srt at sI;rw[<-hs,e9]at sI;refine⟨?_,?_,λx hx y hy=>?_,λx hx y hy=>?_⟩
 .rw[<-aj4 (l:=lb) hi];refine(ir _ m.perm).trans ?_;rw[<-br,<-br];exact List.Perm.append_right _ List.perm_append_comm
 .exact e9.mpr ⟨sI.2.1,m.srt,λx hx y hy=>m.geB x (jt hx) y hy⟩
 .rcases bw.mp hy with h1|h1
  .exact h x hx y h1
  .exact m.geA x hx y h1
 .rcases bw.mp hy with h1|h1
  .exact sI.2.2 x hx y h1
  .exact m.geB x (by rw[<-hs];exact kh _ hx) y h1
def MidH.endA(m:MidH lt la lb R 0 nb)(hB:Srt lt lb):qq lt la lb (lb.take nb++R):=by have ht:Srt lt (lb.take nb):=gz (List.take_sublist _ _) hB;refine⟨?_,e9.mpr ⟨ht,m.srt,m.geB⟩⟩;have p:=ir (lb.take nb) m.perm;rw[j6]at p;refine p.trans ?_;rw[<-br];refine(List.Perm.append_right _ List.perm_append_comm).trans ?_;rw[br,ei]
def MidH.endB(m:MidH lt la lb R na 0)(hA:Srt lt la):qq lt la lb (la.take na++R):=by have ht:Srt lt (la.take na):=gz (List.take_sublist _ _) hA;refine⟨?_,e9.mpr ⟨ht,m.srt,m.geA⟩⟩;have p:=ir (la.take na) m.perm;rw[j6,<-br,ei]at p;exact p
def MidH.firstB(m:MidH lt la lb R na 1)(o:nO lt)(hA:Srt lt la)(hB:Srt lt lb)(hl:∀y∈la,∀x∈lb.take 1,lt x y=true):qq lt la lb (lb.take 1++la.take na++R):=by have m2:=m.pushA hA (fk na) λx hx y hy=>o.asy _ _<|hl y (cx<|jt hy) x hx;rw[j6]at m2;have:=m2.endA hB;rw[br];exact this
end
noncomputable def arp:Array aJ->Array aJ->StateT aQ nP (Array aJ):=sortPriv% PySem.Builtin.mergeHi
section
variable{prog:aM}{w:aN}{A:Around}{E:aA->aB->Prop}{s:aB}
variable{κ:aX}{mem:aJ->Prop}{lt:aJ->aJ->Bool}
def qV(lt:aJ->aJ->Bool)(a b out:Array aJ)(na nb:Nat):Prop:=MidH lt a.toList b.toList out.reverse.toList na nb/\0<na/\1<nb/\na<=a.size/\nb<=b.size
def EG{arr:Array aJ}{n:Nat}{x:aJ}(h:arr[n]?=some x):(arr.toList.take<|n+1).drop n=[x]:=by
 obtain⟨hi,e⟩:=bz.mp h;have hl:n<arr.toList.length:=by simpa using hi
 rw[List.take_succ,List.drop_append,List.drop_eq_nil_of_le<|by rw[cg];lia];have e2:n-kF n arr.size=0:=by lia
 simp[h,e2]
def Ez{arr:Array aJ}(o:nO lt)(hs:Srt lt arr.toList){n:Nat}{x y:aJ}(hx:arr[n]?=some x)(h:lt y x=false):∀z∈arr.toList.take (n+1),lt y z=false:=λz hz=>by
 obtain⟨i,hi⟩:=fg.mp hz;have bN:i<n+1:=by have:=(ak.mp hi).1;rw[cg]at this;lia
 rw[fq bN]at hi;exact o.tr z x y (yq o hs (show i<=n by lia) (by simpa using hi) hx) h
def LN(out arr:Array aJ){i n:Nat}(h:i<=n):(out++(arr.extract i n).reverse).reverse.toList=(arr.toList.take n).drop i++out.reverse.toList:=by simp[List.take_drop,show i+(n-i)=n by lia]
def Ma{arr:Array aJ}{P:aJ->Prop}{i n:Nat}(h:∀j z,i<=j->j<n->arr[j]?=some z->P z):∀z∈(arr.toList.take n).drop i,P z:=λz hz=>by
 obtain⟨k,hk⟩:=fg.mp hz;rw[gj]at hk;have bN:i+k<n:=by have:=(ak.mp hk).1;rw[cg]at this;lia
 rw[fq bN]at hk;exact h (i+k) z (by lia) bN<|by simpa using hk
def Lv{a b out:Array aJ}{na nb:Nat}{y:aJ}(T:Two mem lt a b)(m:MidH lt a.toList b.toList out.reverse.toList (na+1) nb)(hy:a[na]?=some y)(h:∀x∈b.toList.take nb,lt y x=false):MidH lt a.toList b.toList (out.push y).reverse.toList na nb:=by
 have m2:=m.pushA T.sA (Nat.le_succ na) λx hx u hu=>by rw[EG hy]at hu;rw[ay.mp hu];exact h x hx
 rw[EG hy]at m2;simpa using m2
def atf{a b out:Array aJ}{na nb:Nat}{y:aJ}(T:Two mem lt a b)(m:MidH lt a.toList b.toList out.reverse.toList na (nb+1))(hy:b[nb]?=some y)(h:∀x∈a.toList.take na,lt y x=false):MidH lt a.toList b.toList (out.push y).reverse.toList na nb:=by
 have m2:=m.pushB T.sB (Nat.le_succ nb) λx hx u hu=>by rw[EG hy]at hu;rw[ay.mp hu];exact h x hx
 rw[EG hy]at m2;simpa using m2
def EC{a b out:Array aJ}{na nb:Nat}(T:Two mem lt a b)(m:MidH lt a.toList b.toList out.reverse.toList na nb)(h:na=0):qq lt a.toList b.toList (a.extract 0 na++b.extract 0 nb++out.reverse).toList:=by subst h;have:=m.endA T.sB;simpa using this
def azf{a b out:Array aJ}{na nb:Nat}(T:Two mem lt a b)(m:MidH lt a.toList b.toList out.reverse.toList na nb)(h:nb=0):qq lt a.toList b.toList (a.extract 0 na++b.extract 0 nb++out.reverse).toList:=by subst h;have:=m.endB T.sA;simpa using this
theorem GK{a b out:Array aJ}{na nb:Nat}(o:nO lt)(T:Two mem lt a b)(m:MidH lt a.toList b.toList out.reverse.toList na nb)(h:nb=1):qq lt a.toList b.toList (b.extract 0 nb++a.extract 0 na++out.reverse).toList:=by
 subst h;have pB:=T.pB;have pA:=T.pA;have vX:b[0]?=some (b[0]'T.pB):=by simp[T.pB]
 have DI:a[0]?=some (a[0]'T.pA):=by simp[T.pA]
 have:=m.firstB o T.sA T.sB λy hy x hx=>by
  have e1:=EG vX;rw[j6]at e1;rw[e1]at hx;rw[ay.mp hx];have hya:lt y a[0]=false:=HE o (Hx T.sA 0) (we DI) y (by rw[j6];exact hy);cases q:lt b[0] y with
  | true=>rfl
  | false=>have:=o.tr _ _ _ hya q;rw[T.first _ _ vX DI]at this;cases this
 simpa using this
theorem ah4(C:mR prog w A s κ mem lt)(o:nO lt){st:aQ}(hk:kindOf st=κ){a b:Array aJ}(T:Two mem lt a b){Q:Array aJ->aQ->Prop}
  (h:∀out aR,SameG st aR->qq lt a.toList b.toList out.toList->Q out aR):iT (aI prog w) A E s (arp a b) Q st:=by
 refine bh<|gX<|jm ⟨rfl,?_⟩;have gS:∀i z,a[i]?=some z->mem z:=λi z hz=>T.mA z (by obtain⟨h1,h2⟩:=bz.mp hz;rw[<-h2];simp);have mG:∀i z,b[i]?=some z->mem z:=λi z hz=>T.mB z (by obtain⟨h1,h2⟩:=bz.mp hz;rw[<-h2];simp);have hpA:=T.pA;have hpB:=T.pB;have xJ:a[a.size-1]?=some (a[a.size-1]'(by lia)):=by simp
 refine bh<|qb xJ ?_;have m0:MidH lt a.toList b.toList (#[]:Array aJ).reverse.toList (a.size-1+1) b.size:=by rw[show a.size-1+1=a.size by lia];exact⟨by simp,List.Pairwise.nil,by simp,by simp⟩
 have m1:=Lv T m0 xJ λx hx=>o.asy _ _<|T.last x (cx hx) _ xJ;dsimp only;refine oo (λ(Ac:(a.size-1==0)=true)=>?_) λ(Ac:¬(a.size-1==0)=true)=>?_
 .exact bu<|h _ _ (SameG.refl _)<|EC T m1<|by simpa using Ac
 refine oo (λ(Aa:(b.size==1)=true)=>?_) λ(Aa:¬(b.size==1)=true)=>?_
 .exact bu<|h _ _ (SameG.refl _)<|GK o T m1<|by simpa using Aa
 have ha2:¬a.size-1=0:=by simpa using Ac
 have zZ:¬b.size=1:=by simpa using Aa
 refine bh<|dX ?_;refine bh (jf (gy (I:=λx c aR=>SameG st aR/\∃na nb out mg,c=(none,na,nb,out,mg)/\qV lt a b out na nb/\na+nb+x+1<=a.size+b.size)
  (Q:=λc aR=>SameG st aR/\∃res r,c=(some res,r)/\qq lt a.toList b.toList res.toList) ?step ?fin ?init) ?post)
 case init=>exact⟨SameG.refl _,(ny _ _ _ _ ⟨rfl,⟨m1,by lia,by lia,by lia,by lia⟩,by lia⟩)⟩
 case fin=>
  intro c aR bV;refine hid λCg bW=>?_;obtain⟨_,na,nb,out,mg,rfl,⟨_,h1,h2,h3,h4⟩,h5⟩:=bV;refine bW ?_;lia
 case post=>
  intro c aR bV;refine hid λCg bW=>?_;obtain⟨sg,res,r,rfl,hm⟩:=bV;refine bW ?_;exact bu<|h _ _ sg hm
 case step=>
  intro x c aR _ hx bV;refine hid λCg bW=>?_;obtain⟨sg,na,nb,out,mg,rfl,L,hp⟩:=bV;refine bW ?_;dsimp only;refine bh (jf (gy (I:=λy c aR=>SameG st aR/\∃lE lD cR ac bc,c=(none,lE,lD,cR,ac,bc)/\qV lt a b cR lE lD/\lE+lD<=na+nb)
   (Q:=λc aR=>SameG st aR/\((∃res r,c=(some res,r)/\qq lt a.toList b.toList res.toList)\/∃lE lD cR ac bc,c=(none,lE,lD,cR,ac,bc)/\qV lt a b cR lE lD/\lE+lD<=na+nb)) ?istep ?ifin ?iinit) ?ipost)
  case iinit=>exact⟨sg,(ni _ _ _ _ _ ⟨rfl,L,ao _⟩)⟩
  case ifin=>
   rintro c lY ⟨dW,bA⟩;exact⟨dW,.inr bA⟩
  case istep=>
   intro y c lY _ hy bV;refine hid λCg bW=>?_;obtain⟨dW,lE,lD,cR,ac,bc,rfl,⟨m,l1,l2,l3,l4⟩,mJ⟩:=bV;refine bW ?_;obtain⟨n1,rfl⟩:∃n1,lE=n1+1:=⟨lE-1,by lia⟩;obtain⟨n2,rfl⟩:∃n2,lD=n2+1:=⟨lD-1,by lia⟩;dsimp only[Nat.add_sub_cancel];have gT:b[n2]?=some (b[n2]'(by lia)):=by simp
   have gP:a[n1]?=some (a[n1]'(by lia)):=by simp
   refine bh<|qb gT<|bh<|qb gP<|bh<|Es C (dW.1.trans hk) (mG _ _ gT) (gS _ _ gP) ?_;cases hl:lt b[n2] a[n1]with
   | true=>
    dsimp only;simp only[if_true];refine bh<|qb gP ?_;have m2:=Lv T m gP<|Ez o T.sB gT<|o.asy _ _ hl;try simp only[Nat.add_sub_cancel]
    refine oo (λ(he:(n1==0)=true)=>?_) λ(he:¬(n1==0)=true)=>?_
    .exact bu ⟨dW,.inl<|nc _ _ ⟨rfl,EC T m2<|by simpa using he⟩⟩
    .have jU:¬n1=0:=by simpa using he
     have L2:qV lt a b (cR.push a[n1]) n1 (n2+1):=⟨m2,by lia,by lia,by lia,by lia⟩;split
     .exact bu ⟨dW,.inr<|ni _ _ _ _ _ ⟨rfl,L2,by lia⟩⟩
     .exact bu ⟨dW,(ni _ _ _ _ _ ⟨rfl,L2,by lia⟩)⟩
   | false=>
    dsimp only;simp only[be,if_false];refine bh<|qb gT ?_;have m2:=atf T m gT<|Ez o T.sA gP hl;try simp only[Nat.add_sub_cancel]
    refine oo (λ(he:(n2==1)=true)=>?_) λ(he:¬(n2==1)=true)=>?_
    .exact bu ⟨dW,.inl<|nc _ _ ⟨rfl,GK o T m2<|by simpa using he⟩⟩
    .have jU:¬n2=1:=by simpa using he
     have L2:qV lt a b (cR.push b[n2]) (n1+1) n2:=⟨m2,by lia,by lia,by lia,by lia⟩;split
     .exact bu ⟨dW,.inr<|ni _ _ _ _ _ ⟨rfl,L2,by lia⟩⟩
     .exact bu ⟨dW,(ni _ _ _ _ _ ⟨rfl,L2,by lia⟩)⟩
  case ipost=>
   intro c lY bV;refine hid λCg bW=>?_
   (rcases bV with ⟨dW,(⟨res,r,rfl,hm⟩|⟨lE,lD,cR,ac,bc,rfl,L2,uC⟩)⟩)<;>refine bW ?_
   .dsimp only;exact bu ⟨dW,(nc _ _ ⟨rfl,hm⟩)⟩
   .dsimp only;refine bh<|gX<|jm ⟨rfl,?_⟩;refine bh (jf (gy (I:=λy c aR=>SameG st aR/\∃eF bI bF dR ac bc,c=(none,eF,bI,bF,dR,ac,bc)/\qV lt a b bF eF bI/\eF+bI+y<=lE+lD)
     (Q:=λc aR=>SameG st aR/\((∃res r,c=(some res,r)/\qq lt a.toList b.toList res.toList)\/∃eF bI bF dR ac bc,c=(none,eF,bI,bF,dR,ac,bc)/\qV lt a b bF eF bI/\eF+bI+1<=lE+lD)) ?jstep ?jfin ?jinit) ?jpost)
    case jinit=>exact⟨dW,(ni _ _ _ _ _ ⟨_,rfl,L2,ao _⟩)⟩
    case jfin=>
     intro c kB bV;refine hid λCg bW=>?_;obtain⟨gY,eF,bI,bF,dR,EK,wE,rfl,L3,sQ⟩:=bV;refine bW ?_;exact⟨gY,.inr<|ni _ _ _ _ _ ⟨_,rfl,L3,by lia⟩⟩
    case jpost=>
     intro c kB bV;refine hid λCg bW=>?_
     (rcases bV with ⟨gY,(⟨res,r,rfl,hm⟩|⟨eF,bI,bF,dR,EK,wE,rfl,L3,sQ⟩)⟩)<;>refine bW ?_
     .dsimp only;exact bu ⟨gY,(nc _ _ ⟨rfl,hm⟩)⟩
     .dsimp only;refine bh<|BX ?_;exact bu ⟨gY.gal _,(ny _ _ _ _ ⟨rfl,L3,by lia⟩)⟩
    case jstep=>
     intro y c kB _ hy bV;refine hid λCg bW=>?_;obtain⟨gY,eF,bI,bF,dR,EK,wE,rfl,⟨m3,l1,l2,l3,l4⟩,sQ⟩:=bV;refine bW ?_;dsimp only;have gT:b[bI-1]?=some (b[bI-1]'(by lia)):=by simp
     have mD:∀(fS:Array aJ)(cM rR eU k k1:Nat)(cZ:aQ),SameG st cZ->MidH lt a.toList b.toList fS.reverse.toList cM rR->0<cM->1<rR->cM<=a.size->rR<=b.size->(∀z,a[cM-1]?=some z->∀u∈b.toList.take rR,lt z u=false)->cM+rR+y+1<=lE+lD->
       iT (aI prog w) A E s (do
        let z2 <-jL a (cM-1)
        if (cM-1==0)=true then
         aS (ForInStep.done (some<|a.extract 0 (cM-1)++b.extract 0 rR++(fS.push z2).reverse,cM-1,rR,fS.push z2,eU,k,k1))
        else if (decide (k<7)&&decide (k1<7))=true then aS (ForInStep.done (none,cM-1,rR,fS.push z2,eU,k,k1))
        else aS (ForInStep.yield (none,cM-1,rR,fS.push z2,eU,k,k1)))
       (λr aR=>match r with
        | .done c'=>SameG st aR/\((∃res r,c'=(some res,r)/\qq lt a.toList b.toList res.toList)\/∃eF bI bF dR ac bc,c'=(none,eF,bI,bF,dR,ac,bc)/\qV lt a b bF eF bI/\eF+bI+1<=lE+lD)
        | .yield c'=>SameG st aR/\∃eF bI bF dR ac bc,c'=(none,eF,bI,bF,dR,ac,bc)/\qV lt a b bF eF bI/\eF+bI+(y+1)<=lE+lD) cZ:=by
      intro fS cM rR eU k k1 cZ dQ m5 q1 q2 q3 q4 hu Jm;have gP:a[cM-1]?=some (a[cM-1]'(by lia)):=by simp
      refine bh<|qb gP ?_;have m6:=Lv (na:=cM-1) T (by rw[show cM-1+1=cM by lia];exact m5) gP<|hu _ gP;refine oo (λ(he:(cM-1==0)=true)=>?_) λ(he:¬(cM-1==0)=true)=>?_
      .exact bu ⟨dQ,.inl<|nc _ _ ⟨rfl,EC T m6<|by simpa using he⟩⟩
      .have jU:¬cM-1=0:=by simpa using he
       have L6:qV lt a b (fS.push a[cM-1]) (cM-1) rR:=⟨m6,by lia,by lia,by lia,by lia⟩;split
       .exact bu ⟨dQ,.inr<|ni _ _ _ _ _ ⟨_,rfl,L6,by lia⟩⟩
       .exact bu ⟨dQ,(ni _ _ _ _ _ ⟨_,rfl,L6,by lia⟩)⟩
     have bA:∀(bH:Array aJ)(cM eU k:Nat)(cZ:aQ),SameG st cZ->MidH lt a.toList b.toList bH.reverse.toList cM bI->0<cM->cM<=a.size->(∀z∈a.toList.take cM,lt b[bI-1] z=false)->cM+bI+y<=lE+lD->
       iT (aI prog w) A E s (do
        let z <-jL b (bI-1)
        if (bI-1==1)=true then
         aS (ForInStep.done (some<|b.extract 0 (bI-1)++a.extract 0 cM++(bH.push z).reverse,cM,bI-1,bH.push z,eU,k,wE))
        else do
         let z1 <-jL a (cM-1)
         let x <-EH true z1 b 0 (bI-1) (bI-1-1)
         match x with
         | some bS=>
          if bI-1-bS>0 then
           if (bS==1)=true then
            aS (ForInStep.done (some<|b.extract 0 bS++a.extract 0 cM++(bH.push z++(b.extract bS<|bI-1).reverse).reverse,cM,bS,(bH.push z++(b.extract bS<|bI-1).reverse),eU,k,bI-1-bS))
           else if (bS==0)=true then
            aS (ForInStep.done (some<|a.extract 0 cM++b.extract 0 bS++(bH.push z++(b.extract bS<|bI-1).reverse).reverse,cM,bS,(bH.push z++(b.extract bS<|bI-1).reverse),eU,k,bI-1-bS))
           else do
            let z2 <-jL a (cM-1)
            if (cM-1==0)=true then
             aS (ForInStep.done (some<|a.extract 0 (cM-1)++b.extract 0 bS++((bH.push z++(b.extract bS<|bI-1).reverse).push z2).reverse,cM-1,bS,(bH.push z++(b.extract bS<|bI-1).reverse).push z2,eU,k,bI-1-bS))
            else if (decide (k<7)&&decide (bI-1-bS<7))=true then aS (ForInStep.done (none,cM-1,bS,(bH.push z++(b.extract bS<|bI-1).reverse).push z2,eU,k,bI-1-bS))
            else aS (ForInStep.yield (none,cM-1,bS,(bH.push z++(b.extract bS<|bI-1).reverse).push z2,eU,k,bI-1-bS))
          else do
           let z2 <-jL a (cM-1)
           if (cM-1==0)=true then
            aS (ForInStep.done (some<|a.extract 0 (cM-1)++b.extract 0 (bI-1)++((bH.push z).push z2).reverse,cM-1,(bI-1),(bH.push z).push z2,eU,k,bI-1-bS))
           else if (decide (k<7)&&decide (bI-1-bS<7))=true then aS (ForInStep.done (none,cM-1,(bI-1),(bH.push z).push z2,eU,k,bI-1-bS))
           else aS (ForInStep.yield (none,cM-1,(bI-1),(bH.push z).push z2,eU,k,bI-1-bS))
         | _=>aS<|ForInStep.done (some<|a.extract 0 cM++b.extract 0 (bI-1)++(bH.push z).reverse,cM,bI-1,bH.push z,eU,k,wE))
       (λr aR=>match r with
        | .done c'=>SameG st aR/\((∃res r,c'=(some res,r)/\qq lt a.toList b.toList res.toList)\/∃eF bI bF dR ac bc,c'=(none,eF,bI,bF,dR,ac,bc)/\qV lt a b bF eF bI/\eF+bI+1<=lE+lD)
        | .yield c'=>SameG st aR/\∃eF bI bF dR ac bc,c'=(none,eF,bI,bF,dR,ac,bc)/\qV lt a b bF eF bI/\eF+bI+(y+1)<=lE+lD) cZ:=by
      intro bH cM eU k cZ dQ m4 q1 q3 mI hp4;refine bh<|qb gT ?_;have m5:=atf (nb:=bI-1) T (by rw[show bI-1+1=bI by lia];exact m4) gT mI;refine oo (λ(he:(bI-1==1)=true)=>?_) λ(he:¬(bI-1==1)=true)=>?_
      .exact bu ⟨dQ,.inl<|nc _ _ ⟨rfl,GK o T m5<|by simpa using he⟩⟩
      have jU:¬bI-1=1:=by simpa using he
      have gP:a[cM-1]?=some (a[cM-1]'(by lia)):=by simp
      refine bh<|qb gP ?_;refine bh<|Ms (st:=cZ) (base:=0) (n:=bI-1) (hint:=bI-1-1) C o (dQ.1.trans hk) (gS _ _ gP) (by lia) (λi z hi hz=>mG _ z hz) (by lia) (λi j y z cJ hj hy hz=>yq o T.sB (show 0+i<=0+j by lia) hy hz) λbS kW h1 h2=>?_;dsimp only;have m6:=m5.pushB T.sB (i:=bS) kW λx hx u hu=>by have CU:lt u a[cM-1]=false:=Ma (P:=λu=>lt u a[cM-1]=false) (λi z hi hn hz=>h2 i z hi hn<|by rw[Nat.zero_add];exact hz) u hu;exact Ez o T.sA gP CU x<|by rw[show cM-1+1=cM by lia];exact hx
      have e6:(bH.push b[bI-1]++(b.extract bS<|bI-1).reverse).reverse.toList=(b.toList.take<|bI-1).drop bS++(bH.push b[bI-1]).reverse.toList:=LN _ _ kW;rw[<-e6]at m6;have AW:∀z,a[cM-1]?=some z->∀u∈b.toList.take bS,lt z u=false:=λz hz=>by rw[gP]at hz;cases hz;intro u hu;refine o.asy _ _<|zr (base:=0) (P:=λu=>lt u a[cM-1]=true) h1 u ?_;rw[j6];exact hu
      refine oo (λ(iQ:bI-1-bS>0)=>?_) λ(iQ:¬(bI-1-bS>0))=>?_
      .refine oo (λ(nJ:(bS==1)=true)=>?_) λ(nJ:¬(bS==1)=true)=>?_
       .exact bu ⟨dQ,.inl<|nc _ _ ⟨rfl,GK o T m6<|by simpa using nJ⟩⟩
       have JU:¬bS=1:=by simpa using nJ
       refine oo (λ(JT:(bS==0)=true)=>?_) λ(JT:¬(bS==0)=true)=>?_
       .exact bu ⟨dQ,.inl<|nc _ _ ⟨rfl,azf T m6<|by simpa using JT⟩⟩
       have he5:¬bS=0:=by simpa using JT
       exact mD _ cM bS eU k _ cZ dQ m6 q1 (by lia) q3 (by lia) AW<|by lia
      .have e0:bS=bI-1:=by lia
       rw[e0]at AW;exact mD _ cM (bI-1) eU k _ cZ dQ m5 q1 (by lia) q3 (by lia) AW<|by lia
     refine oo (λ(vQ:dR>1)=>?_) λ(vQ:¬(dR>1))=>?_
     .refine bh<|BX ?_;have dQ:SameG st (ww kB<|dR-1):=gY.gal _;refine bh<|qb gT ?_;refine bh<|zc (st:=ww kB<|dR-1) (base:=0) (n:=eF) (hint:=eF-1) C o (dQ.1.trans hk) (mG _ _ gT) (by lia) (λi z hi hz=>gS _ z hz) (by lia) (λi j y z cJ hj hy hz=>yq o T.sA (show 0+i<=0+j by lia) hy hz) λbS kW h1 h2=>?_;have m4:=m3.pushA T.sA (i:=bS) kW λx hx u hu=>by
       have CU:lt b[bI-1] u=true:=Ma (P:=λu=>lt b[bI-1] u=true) (λi z hi hn hz=>h2 i z hi hn<|by rw[Nat.zero_add];exact hz) u hu;exact Ez o T.sB gT (o.asy _ _ CU) x<|by rw[show bI-1+1=bI by lia];exact hx
      have e4:(bF++(a.extract bS eF).reverse).reverse.toList=(a.toList.take eF).drop bS++bF.reverse.toList:=LN _ _ kW;rw[<-e4]at m4;have mI:∀z∈a.toList.take bS,lt b[bI-1] z=false:=λz hz=>zr (base:=0) (P:=λz=>lt b[bI-1] z=false) h1 z (by rw[j6];exact hz);dsimp only;refine oo (λ(iQ:eF-bS>0)=>?_) λ(iQ:¬(eF-bS>0))=>?_
      .refine oo (λ(he:(bS==0)=true)=>?_) λ(he:¬(bS==0)=true)=>?_
       .exact bu ⟨dQ,.inl<|nc _ _ ⟨rfl,EC T m4<|by simpa using he⟩⟩
       have jU:¬bS=0:=by simpa using he
       refine jf (bA _ bS (dR-1) _ _ dQ m4 (by lia) (by lia) mI<|by lia) λr aR hr=>?_;cases r<;>exact hr
      .have e0:bS=eF:=by lia
       rw[e0]at mI;refine jf (bA bF eF (dR-1) _ _ dQ m3 (by lia) (by lia) mI sQ) λr aR hr=>?_;cases r<;>exact hr
     .refine bh<|BX ?_;have dQ:SameG st (ww kB<|dR):=gY.gal _;refine bh<|qb gT ?_;refine bh<|zc (st:=ww kB<|dR) (base:=0) (n:=eF) (hint:=eF-1) C o (dQ.1.trans hk) (mG _ _ gT) (by lia) (λi z hi hz=>gS _ z hz) (by lia) (λi j y z cJ hj hy hz=>yq o T.sA (show 0+i<=0+j by lia) hy hz) λbS kW h1 h2=>?_;have m4:=m3.pushA T.sA (i:=bS) kW λx hx u hu=>by
       have CU:lt b[bI-1] u=true:=Ma (P:=λu=>lt b[bI-1] u=true) (λi z hi hn hz=>h2 i z hi hn<|by rw[Nat.zero_add];exact hz) u hu;exact Ez o T.sB gT (o.asy _ _ CU) x<|by rw[show bI-1+1=bI by lia];exact hx
      have e4:(bF++(a.extract bS eF).reverse).reverse.toList=(a.toList.take eF).drop bS++bF.reverse.toList:=LN _ _ kW;rw[<-e4]at m4;have mI:∀z∈a.toList.take bS,lt b[bI-1] z=false:=λz hz=>zr (base:=0) (P:=λz=>lt b[bI-1] z=false) h1 z (by rw[j6];exact hz);dsimp only;refine oo (λ(iQ:eF-bS>0)=>?_) λ(iQ:¬(eF-bS>0))=>?_
      .refine oo (λ(he:(bS==0)=true)=>?_) λ(he:¬(bS==0)=true)=>?_
       .exact bu ⟨dQ,.inl<|nc _ _ ⟨rfl,EC T m4<|by simpa using he⟩⟩
       have jU:¬bS=0:=by simpa using he
       refine jf (bA _ bS (dR) _ _ dQ m4 (by lia) (by lia) mI<|by lia) λr aR hr=>?_;cases r<;>exact hr
      .have e0:bS=eF:=by lia
       rw[e0]at mI;refine jf (bA bF eF (dR) _ _ dQ m3 (by lia) (by lia) mI sQ) λr aR hr=>?_;cases r<;>exact hr
end
noncomputable def Fk(f:aJ->Int)(xs:Array aJ)(i:Nat):Int:=(xs[i]?.map f).getD 0
noncomputable abbrev fl(f:aJ->Int)(x y:aJ):Bool:=decide<|f x<f y
def GT(f:aJ->Int):nO (fl f):=⟨λx y h=>by simp at h⊢;omega,λx y z h1 h2=>by simp at h1 h2⊢;omega⟩
def Seg(f:aJ->Int)(xs:Array aJ)(lo n:Nat):Prop:=∀i j,lo<=i->i<=j->j<lo+n->Fk f xs i<=Fk f xs j
def Dsc(f:aJ->Int)(xs:Array aJ)(lo n:Nat):Prop:=∀i j,lo<=i->i<=j->j<lo+n->Fk f xs j<=Fk f xs i
structure TB(κ:aX)(a₀:Array aJ)(st:aQ):Prop where
 perm:(aK st).Perm a₀
 kind:kindOf st=κ
 failed:bM st=none
structure Fr(lo:Nat)(st aR:aQ):Prop where
 pend:aO aR=aO st
 low:∀i,i<lo->(aK aR)[i]?=(aK st)[i]?
def Fr.refl(lo:Nat)(st:aQ):Fr lo st st:=⟨rfl,λ_ _=>rfl⟩
theorem Fr.trans{lo:Nat}{a b c:aQ}(h:Fr lo a b)(k:Fr lo b c):Fr lo a c:=⟨k.pend.trans h.pend,λi hi=>(k.low i hi).trans (h.low i hi)⟩
theorem TB.size{κ:aX}{a₀:Array aJ}{st:aQ}(h:TB κ a₀ st):(aK st).size=a₀.size:=h.perm.size_eq
def TB.set{κ:aX}{a₀:Array aJ}{st:aQ}(h:TB κ a₀ st){xs:Array aJ}(hp:xs.Perm (aK st)):TB κ a₀ (jQ st xs):=⟨hp.trans h.perm,h.kind,h.failed⟩
def oW{f:aJ->Int}{xs ys:Array aJ}{i j:Nat}(h:xs[i]?=ys[j]?):Fk f xs i=Fk f ys j:=by unfold Fk;rw[h]
def Lq{f:aJ->Int}{xs:Array aJ}{i j:Nat}(hj:j<=xs.size)(k:Nat):Fk f (gZ xs i j<|(j-i)/2) k=if i<=k/\k<j then Fk f xs (i+j-1-k)else Fk f xs k:=by
 have e:=Aj (i:=i) hj k;split
 .rename_i h;rw[if_pos h]at e;exact oW e
 .rename_i h;rw[if_neg h]at e;exact oW e
def zv{f:aJ->Int}{xs:Array aJ}{i j:Nat}(hj:j<=xs.size)(he:∀k,i<=k->k<j->Fk f xs k=Fk f xs (j-1))(k:Nat):Fk f (gZ xs i j<|(j-i)/2) k=Fk f xs k:=by
 rw[Lq hj];split
 .rw[he _ (by omega) (by omega),he k (by omega)<|by omega]
 .rfl
def at2{f:aJ->Int}{xs:Array aJ}{c d:Nat}(hs:c<xs.size)(hd:d<=c)(k:Nat) :
  Fk f (Bt xs c d) k=if k=c-d then Fk f xs c else if c-d<k/\k<=c then Fk f xs (k-1)else Fk f xs k:=by
 have e:=Ku hs d hd k;split
 .rename_i h;rw[if_pos h]at e;exact oW e
 .rename_i h
  rw[if_neg h]at e;split
  .rename_i h2;rw[if_pos h2]at e;exact oW e
  .rename_i h2;rw[if_neg h2]at e;exact oW e
def Fr.mir{lo:Nat}{st:aQ}{i j:Nat}(hi:lo<=i)(hj:j<=(aK st).size):Fr lo st (jQ st<|gZ (aK st) i j<|(j-i)/2):=
 ⟨rfl,λk hk=>by show(gZ (aK st) i j<|(j-i)/2)[k]?=_;rw[Aj hj,if_neg<|by omega]⟩
def Fr.bub{lo:Nat}{st:aQ}{c d:Nat}(hs:c<(aK st).size)(hd:lo<=c-d)(jH:d<=c):Fr lo st (jQ st<|Bt (aK st) c d):=
 ⟨rfl,λk hk=>by show(Bt (aK st) c d)[k]?=_;rw[Ku hs d jH,if_neg<|by omega,if_neg<|by omega]⟩
section
variable{prog:aM}{w:aN}{A:Around}{E:aA->aB->Prop}{s:aB}
variable{κ:aX}{mem:aJ->Prop}{f:aJ->Int}{a₀:Array aJ}
def TB.at{st:aQ}(h:TB κ a₀ st)(hm:∀x∈a₀.toList,mem x){i:Nat}(hi:i<a₀.size):∃x,(aK st)[i]?=some x/\mem x/\f x=Fk f (aK st) i:=by
 have fM:i<(aK st).size:=by rw[h.size];exact hi
 have e:(aK st)[i]?=some (aK st)[i]:=getElem?_pos _ i fM;refine⟨_,e,hm _<|(j3.mp h.perm).mem_iff.mp (by simp),?_⟩;unfold Fk;rw[e];rfl
def EJ(C:mR prog w A s κ mem (fl f))(hm:∀x∈a₀.toList,mem x){st:aQ}(B:TB κ a₀ st){i j:Nat}(hi:i<a₀.size)(hj:j<a₀.size){Q:Option Bool->aQ->Prop}
  (h:Q (some<|decide<|Fk f (aK st) i<Fk f (aK st) j) st):iT (aI prog w) A E s (ltAt' i j) Q st:=by
 obtain⟨x,e1,m1,k1⟩:=B.at (f:=f) hm hi;obtain⟨y,e2,m2,k2⟩:=B.at (f:=f) hm hj;rw[ltAt'_eq];refine bh<|dX<|bh<|qb e1<|bh<|qb e2<|Es C B.kind m1 m2 ?_;rw[<-k1,<-k2]at h;exact h
def Ha{st:aQ}{i j:Nat}{Q:Unit->aQ->Prop}(h:Q () (jQ st<|gZ (aK st) i j<|(j-i)/2)):iT (aI prog w) A E s (fJ i j) Q st:=by rw[reverseSlice'_eq];exact cC h
noncomputable abbrev UpS:=Option (Option Nat)×Nat
noncomputable abbrev DnS:=Option (Option Nat)×Nat×Nat
noncomputable def Ey(lo a bG:Nat):StateT aQ nP UpS:=xN [a:bG] ((none,a):UpS) λ_ c=>do
 let q <-ltAt' (lo+c.snd) (lo+c.snd-1)
 match q with
 | some b=>if b=true then aS (.done (none,c.snd))else aS (.yield (none,c.snd+1))
 | _=>aS<|.done (some none,c.snd)
noncomputable def Er(lo n bG:Nat):StateT aQ nP (Option Nat):=do
 fJ lo (lo+n)
 let c <-Ey lo n bG
 match c.fst with
 | some r=>aS r
 | none=>aS<|some c.snd
noncomputable def GI(lo n bG:Nat):StateT aQ nP DnS:=xN [n:bG] ((none,n,0):DnS) λ_ c=>do
 let q <-ltAt' (lo+c.snd.fst) (lo+c.snd.fst-1)
 match q with
 | some b=>
  if b=true then
   if c.snd.snd>0 then do
    fJ (lo+c.snd.fst-(c.snd.snd+1)) (lo+c.snd.fst)
    aS (.yield (none,c.snd.fst+1,0))
   else aS (.yield (none,c.snd.fst+1,0))
  else do
   let q2 <-ltAt' (lo+c.snd.fst-1) (lo+c.snd.fst)
   match q2 with
   | some b2=>if b2=true then aS (.done (none,c.snd.fst,c.snd.snd))else aS (.yield (none,c.snd.fst+1,c.snd.snd+1))
   | _=>aS (.done (some none,c.snd.fst,c.snd.snd))
 | _=>aS<|.done (some none,c.snd.fst,c.snd.snd)
noncomputable def Ev(lo n bG:Nat):StateT aQ nP (Option Nat):=do
 liftM (qF "list.sort.descending-run")
 let c <-GI lo (n+1) bG
 match c.fst with
 | some r=>aS r
 | none=>
  if c.snd.snd>0 then do
   fJ (lo+c.snd.fst-(c.snd.snd+1)) (lo+c.snd.fst)
   Er lo c.snd.fst bG
  else Er lo c.snd.fst bG
theorem ap8(lo bG:Nat):countRun' lo bG=(do
  let c <-Ey lo 1 bG
  match c.fst with
  | some r=>aS r
  | none=>
   if (c.snd==bG)=true then aS (some c.snd)
   else if c.snd>1 then do
    let q <-ltAt' lo (lo+c.snd-1)
    match q with
    | some b=>if b=true then aS (some c.snd)else do
      fJ lo (lo+c.snd)
      Ev lo c.snd bG
    | _=>aS none
   else Ev lo c.snd bG):=by
 rw[countRun'_eq];dsimp only;unfold Ev Er GI Ey
 congr 1
 funext c
 obtain⟨r,n⟩:=c;cases r with
 | some r=>rfl
 | none=>
  dsimp only;split
  .rfl
  .split
   .congr 1
    funext x
    cases x with
    | none=>rfl
    | some b=>
     dsimp only;split
     .rfl
     .congr 1
      funext _r
      (congr 1;funext _u;congr 1;congr 1;funext c2;obtain⟨r2,n2,q2⟩:=c2;cases r2 with
       | some r2=>rfl
       | none=>(dsimp only;split;(congr 1;funext _v;(congr 1;funext _w;congr 1;(funext c3;obtain⟨r3,n3⟩:=c3;cases r3<;>rfl)));(congr 1;funext _w;congr 1;(funext c3;obtain⟨r3,n3⟩:=c3;cases r3<;>rfl))))
   ·(congr 1;funext _u;congr 1;congr 1;funext c2;obtain⟨r2,n2,q2⟩:=c2;cases r2 with
     | some r2=>rfl
     | none=>(dsimp only;split;(congr 1;funext _v;(congr 1;funext _w;congr 1;(funext c3;obtain⟨r3,n3⟩:=c3;cases r3<;>rfl)));(congr 1;funext _w;congr 1;(funext c3;obtain⟨r3,n3⟩:=c3;cases r3<;>rfl))))
def asp(C:mR prog w A s κ mem (fl f))(hm:∀x∈a₀.toList,mem x){st:aQ}{lo a bG:Nat}{Q:UpS->aQ->Prop}(hn:lo+bG<=a₀.size)(ha:1<=a)(han:a<=bG)(B:TB κ a₀ st)(hs:Seg f (aK st) lo a)
  (h:∀n,a<=n->n<=bG->Seg f (aK st) lo n->(n=bG\/Fk f (aK st) (lo+n)<Fk f (aK st) (lo+n-1))->Q (none,n) st):iT (aI prog w) A E s (Ey lo a bG) Q st:=by
 unfold Ey;refine gy (I:=λx c aR=>aR=st/\c=(none,x)/\Seg f (aK st) lo x) ?step ?fin ⟨rfl,rfl,hs⟩
 case fin=>
  rintro c aR ⟨rfl,rfl,fK⟩;rw[show max a bG=bG from Nat.max_eq_right<|by lia]at fK⊢;exact h bG han (ao _) fK<|.inl rfl
 case step=>
  rintro x c aR J8 hxn ⟨rfl,rfl,fK⟩;dsimp only;refine bh<|EJ C hm B (by lia) (by lia) ?_;by_cases hl:Fk f (aK aR) (lo+x)<Fk f (aK aR) (lo+x-1)
  .simp only[hl,decide_true,if_true];exact bu<|h x J8 (by lia) fK<|.inr hl
  .simp only[hl,decide_false,be,if_false];refine bu ⟨rfl,rfl,λi j hi cJ hj=>?_⟩;by_cases JD:j<lo+x
   .exact fK i j hi cJ JD
   .obtain rfl:j=lo+x:=by lia
    by_cases fM:i=lo+x
    .rw[fM];exact jx _
    .have:=fK i (lo+x-1) hi (by lia) (by lia);lia
noncomputable abbrev Me(f:aJ->Int)(κ:aX)(a₀:Array aJ)(lo bG:Nat)(st:aQ)(Q:Option Nat->aQ->Prop):Prop:=
 ∀m aR,TB κ a₀ aR->Fr lo st aR->1<=m->m<=bG->Seg f (aK aR) lo m->Q (some m) aR
def adj(C:mR prog w A s κ mem (fl f))(hm:∀x∈a₀.toList,mem x){st0 st:aQ}{lo n bG:Nat}{Q:Option Nat->aQ->Prop}(hn:lo+bG<=a₀.size)(h1:1<=n)(vP:n<=bG)(B:TB κ a₀ st)(F:Fr lo st0 st)(hs:Dsc f (aK st) lo n)
  (h:Me f κ a₀ lo bG st0 Q):iT (aI prog w) A E s (Er lo n bG) Q st:=by
 unfold Er;have hsz:lo+n<=(aK st).size:=by rw[B.size];lia
 refine bh<|Ha ?_;have B':TB κ a₀ (jQ st<|gZ (aK st) lo (lo+n)<|(lo+n-lo)/2):=B.set<|mF _ _ _ _;have F':=F.trans<|Fr.mir (ao lo) hsz;refine bh<|asp C hm hn h1 vP B' ?_ λm Dd uE hsm _=>bu<|h m _ B' F' (by lia) uE hsm;intro i j hi cJ hj;show Fk f (gZ (aK st) lo (lo+n)<|(lo+n-lo)/2) i<=Fk f (gZ (aK st) lo (lo+n)<|(lo+n-lo)/2) j;rw[Lq hsz,Lq hsz,if_pos<|by lia,if_pos<|by lia];exact hs _ _ (by lia) (by lia)<|by lia
def zu{xs ys:Array aJ}{lo x:Nat}(h1:1<=x)(hs:Dsc f xs lo x)(hk:∀k,Fk f ys k=Fk f xs k)(hl:Fk f xs (lo+x)<=Fk f xs (lo+x-1)):Dsc f ys lo (x+1):=by
 intro i j hi cJ hj;rw[hk,hk];by_cases JD:j<lo+x
 .exact hs i j hi cJ JD
 .obtain rfl:j=lo+x:=by lia
  by_cases fM:i=lo+x
  .rw[fM];exact jx _
  .have:=hs i (lo+x-1) hi (by lia) (by lia);lia
def ala(C:mR prog w A s κ mem (fl f))(hm:∀x∈a₀.toList,mem x){st0 st:aQ}{lo n bG:Nat}{Q:DnS->aQ->Prop}(hn:lo+bG<=a₀.size)(h1:1<=n)(vP:n<=bG)(B:TB κ a₀ st)(F:Fr lo st0 st)(hs:Dsc f (aK st) lo n)
  (h:∀m q aR,TB κ a₀ aR->Fr lo st0 aR->n<=m->m<=bG->Dsc f (aK aR) lo m->q+1<=m->(∀i,lo+m-(q+1)<=i->i<lo+m->Fk f (aK aR) i=Fk f (aK aR) (lo+m-1))->Q (none,m,q) aR) :
  iT (aI prog w) A E s (GI lo n bG) Q st:=by
 unfold GI;refine gy (I:=λx c aR=>∃q,c=(none,x,q)/\TB κ a₀ aR/\Fr lo st0 aR/\Dsc f (aK aR) lo x/\q+1<=x/\∀i,lo+x-(q+1)<=i->i<lo+x->Fk f (aK aR) i=Fk f (aK aR) (lo+x-1)) ?step ?fin ⟨0,rfl,B,F,hs,by lia,λi h1 h2=>by congr 1;lia⟩
 case fin=>
  intro c aR bV;refine hid λCg bW=>?_;obtain⟨q,rfl,B',F',fK,hq,he⟩:=bV;refine bW ?_;rw[show max n bG=bG from Nat.max_eq_right<|by lia]at fK hq he⊢;exact h bG q aR B' F' vP (ao _) fK hq he
 case step=>
  intro x c aR J8 hxn bV;refine hid λCg bW=>?_;obtain⟨q,rfl,B',F',fK,hq,he⟩:=bV;refine bW ?_;dsimp only;have hsz:lo+x<=(aK aR).size:=by rw[B'.size];lia
  refine bh<|EJ C hm B' (by lia) (by lia) ?_;by_cases hl:Fk f (aK aR) (lo+x)<Fk f (aK aR) (lo+x-1)
  .simp only[hl,decide_true,if_true];refine oo (λ(Jf:q>0)=>?_) λ(Jf:¬(q>0))=>?_
   .exact bh<|Ha<|bu ⟨0,rfl,B'.set<|mF _ _ _ _,F'.trans<|Fr.mir (by lia) hsz,zu (by lia) fK (zv hsz he)<|Int.le_of_lt hl,by lia,λi h1 h2=>by congr 1;lia⟩
   .exact bu ⟨0,rfl,B',F',zu (by lia) fK (λ_=>rfl)<|Int.le_of_lt hl,by lia,λi h1 h2=>by congr 1;lia⟩
  .simp only[hl,decide_false,be,if_false];refine bh<|EJ C hm B' (by lia) (by lia) ?_;by_cases hg:Fk f (aK aR) (lo+x-1)<Fk f (aK aR) (lo+x)
   .simp only[hg,decide_true,if_true];exact bu<|h x q aR B' F' J8 (by lia) fK hq he
   .simp only[hg,decide_false,be,if_false];have hx:Fk f (aK aR) (lo+x)=Fk f (aK aR) (lo+x-1):=by lia
    refine bu ⟨q+1,rfl,B',F',zu (by lia) fK (λ_=>rfl)<|by lia,by lia,λi h1 h2=>?_⟩;rw[show lo+(x+1)-1=lo+x by lia];by_cases hix:i=lo+x
    .rw[hix]
    .rw[hx];exact he i (by lia)<|by lia
def adu(C:mR prog w A s κ mem (fl f))(hm:∀x∈a₀.toList,mem x){st0 st:aQ}{lo n bG:Nat}{Q:Option Nat->aQ->Prop}(hn:lo+bG<=a₀.size)(vP:n+1<=bG)(B:TB κ a₀ st)(F:Fr lo st0 st)(hs:Dsc f (aK st) lo (n+1))
  (h:Me f κ a₀ lo bG st0 Q):iT (aI prog w) A E s (Ev lo n bG) Q st:=by
 unfold Ev;refine bh<|gX<|jm ⟨rfl,?_⟩;refine bh<|ala C hm hn (by lia) vP B F hs λm q aR B' F' Dd uE fK hq he=>?_;dsimp only;have hsz:lo+m<=(aK aR).size:=by rw[B'.size];lia
 refine oo (λ(Jf:q>0)=>?_) λ(Jf:¬(q>0))=>?_
 .refine bh<|Ha<|adj C hm hn (by lia) uE (B'.set<|mF _ _ _ _) (F'.trans<|Fr.mir (by lia) hsz) ?_ h;intro i j hi cJ hj;show Fk f (gZ (aK aR) _ _ _) j<=Fk f (gZ (aK aR) _ _ _) i;rw[zv hsz he,zv hsz he];exact fK i j hi cJ hj
 .exact adj C hm hn (by lia) uE B' F' fK h
def awk(C:mR prog w A s κ mem (fl f))(hm:∀x∈a₀.toList,mem x){st:aQ}{lo bG:Nat}{Q:Option Nat->aQ->Prop}(hn:lo+bG<=a₀.size)(h1:1<=bG)(B:TB κ a₀ st)(h:Me f κ a₀ lo bG st Q) :
  iT (aI prog w) A E s (countRun' lo bG) Q st:=by
 rw[ap8]
 refine bh (asp C hm hn (ao 1) h1 B (λi j hi cJ hj=>by obtain rfl:i=j:=by lia
                                                       exact jx _) λn A1 zI FA hor=>?_)
 dsimp only;by_cases vP:n=bG
 .rw[if_pos (by simpa using vP)];exact bu<|h n st B (Fr.refl _ _) A1 zI FA
 .rw[if_neg (by simpa using vP)];have bN:Fk f (aK st) (lo+n)<Fk f (aK st) (lo+n-1):=hor.resolve_left vP;refine oo (λ(JM:n>1)=>?_) λ(JM:¬(n>1))=>?_
  .refine bh<|EJ C hm B (by lia) (by lia) ?_;by_cases hr:Fk f (aK st) lo<Fk f (aK st) (lo+n-1)
   .simp only[hr,decide_true,if_true];exact bu<|h n st B (Fr.refl _ _) A1 zI FA
   .simp only[hr,decide_false,be,if_false];have hsz:lo+n<=(aK st).size:=by rw[B.size];lia
    have bY:∀k,lo<=k->k<lo+n->Fk f (aK st) k=Fk f (aK st) (lo+n-1):=by intro k hlk hk;have a1:=FA lo k (by lia) hlk hk;have a2:=FA k (lo+n-1) (by lia) (by lia) (by lia);lia
    refine bh<|Ha<|adu C hm hn (by lia) (B.set<|mF _ _ _ _) (Fr.mir (ao lo) hsz) (zu (xs:=aK st) A1 ?_ (zv hsz bY)<|Int.le_of_lt bN) h;intro i j hi cJ hj;rw[bY i (by lia) (by lia),bY j (by lia) hj];exact jx _
  .obtain rfl:n=1:=by lia
   refine adu C hm hn (by lia) B (Fr.refl _ _) (zu (xs:=aK st) A1 ?_ (λ_=>rfl)<|Int.le_of_lt bN) h;intro i j hi cJ hj;obtain rfl:i=j:=by lia
   exact jx _
theorem av4(C:mR prog w A s κ mem (fl f))(hm:∀x∈a₀.toList,mem x){st:aQ}{lo n ok:Nat}{Q:Bool->aQ->Prop}(hn:lo+n<=a₀.size)(hok:ok<=n)(B:TB κ a₀ st)(hs:Seg f (aK st) lo ok)
  (h:∀aR,TB κ a₀ aR->Fr lo st aR->Seg f (aK aR) lo n->Q true aR):iT (aI prog w) A E s (binarySort' lo n ok) Q st:=by
 rw[binarySort'_eq];refine bh<|jf (gy (I:=λk c aR=>c=(none,())/\TB κ a₀ aR/\Fr lo st aR/\Seg f (aK aR) lo (kF k n)) (Q:=λc aR=>c=(none,())/\TB κ a₀ aR/\Fr lo st aR/\Seg f (aK aR) lo n) ?step ?fin ?init) ?post
 case post=>
  intro c aR bV;refine hid λCg bW=>?_;obtain⟨rfl,B',F',fK⟩:=bV;refine bW ?_;exact bu<|h aR B' F' fK
 case init=>
  refine⟨rfl,B,Fr.refl _ _,λi j hi cJ hj=>?_⟩;by_cases h1:ok=0
  .obtain rfl:i=j:=by lia
   exact jx _
  .exact hs i j hi cJ<|by lia
 case fin=>
  intro c aR bV;refine hid λCg bW=>?_;obtain⟨hc,B',F',fK⟩:=bV;refine bW ?_;refine⟨hc,B',F',?_⟩
  rwa [show kF (max (max ok 1) n) n=n from Nat.min_eq_right<|Nat.le_max_right _ _]at fK
 case step=>
  intro k c aR hak kW bV;refine hid λCg bW=>?_;obtain⟨rfl,B',F',fK⟩:=bV;refine bW ?_;rw[show kF k n=k from gr<|by lia]at fK;have hk:lo+k<a₀.size:=by lia
  refine bh (jf (gy (I:=λx c cN=>cN=aR/\∃l r,c=(none,l,r)/\l<=r/\r<=k/\r-l<=k-x/\(∀i,i<l->Fk f (aK aR) (lo+i)<=Fk f (aK aR) (lo+k))/\∀i,r<=i->i<k->Fk f (aK aR) (lo+k)<Fk f (aK aR) (lo+i))
   (Q:=λc cN=>cN=aR/\∃l r,c=(none,l,r)/\l<=k/\(∀i,i<l->Fk f (aK aR) (lo+i)<=Fk f (aK aR) (lo+k))/\∀i,l<=i->i<k->Fk f (aK aR) (lo+k)<Fk f (aK aR) (lo+i)) ?istep ?ifin ?iinit) ?ipost)
  case iinit=>exact⟨rfl,(nc 0 k ⟨rfl,by lia,by lia,by lia,λi hi=>by lia,λi h1 h2=>by lia⟩)⟩
  case ifin=>
   intro c cN bV;refine hid λCg bW=>?_;obtain⟨rfl,l,r,rfl,hlr,Jc,A2,uF,A8⟩:=bV;refine bW ?_;obtain rfl:l=r:=by lia
   exact⟨rfl,(nc l l ⟨rfl,Jc,uF,A8⟩)⟩
  case istep=>
   intro x c cN _ hxk bV;refine hid λCg bW=>?_;obtain⟨rfl,l,r,rfl,hlr,Jc,A2,uF,A8⟩:=bV;refine bW ?_;dsimp only;refine oo (λ(oO:l>=r)=>?_) λ(oO:¬(l>=r))=>?_
   .obtain rfl:l=r:=by lia
    exact bu ⟨rfl,(nc l l ⟨rfl,Jc,uF,A8⟩)⟩
   .refine bh<|EJ C hm B' hk (by lia) ?_;by_cases hl:Fk f (aK cN) (lo+k)<Fk f (aK cN) (lo+(l+r)/2)
    .simp only[hl,decide_true,if_true];refine bu ⟨rfl,(nc l ((l+r)/2) ⟨rfl,by lia,by lia,by lia,uF,λi h1 h2=>?_⟩)⟩;have:=fK (lo+(l+r)/2) (lo+i) (by lia) (by lia) (by lia);lia
    .simp only[hl,decide_false,be,if_false];refine bu ⟨rfl,(nc ((l+r)/2+1) r ⟨rfl,by lia,by lia,by lia,λi h1=>?_,A8⟩)⟩;have:=fK (lo+i) (lo+(l+r)/2) (by lia) (by lia) (by lia);lia
  case ipost=>
   intro c cN bV;refine hid λCg bW=>?_;obtain⟨rfl,l,r,rfl,hlk,uF,A8⟩:=bV;refine bW ?_;show iT _ _ _ _ (do moveDown' (lo+k) (lo+l);aS (ForInStep.yield (none,()))) _ _;rw[moveDown'_eq];have fW:lo+k<(aK cN).size:=by rw[B'.size];exact hk
   refine bh<|cC<|bu ⟨rfl,B'.set<|bubble_perm _ _ _,F'.trans<|Fr.bub fW (by lia)<|by lia,?_⟩;rw[show kF (k+1) n=k+1 from gr<|by lia];intro i j hi cJ hj;show Fk f (Bt (aK cN) (lo+k)<|lo+k-(lo+l)) i<=Fk f (Bt (aK cN) (lo+k)<|lo+k-(lo+l)) j;rw[at2 fW (by lia),at2 fW<|by lia,show lo+k-(lo+k-(lo+l))=lo+l by lia];have Jy:∀i,lo<=i->i<lo+l->Fk f (aK cN) i<=Fk f (aK cN) (lo+k):=λi a1 a2=>by
    have:=uF (i-lo) (by lia)
    rwa [show lo+(i-lo)=i by lia]at this
   have JG:∀i,lo+l<=i->i<lo+k->Fk f (aK cN) (lo+k)<Fk f (aK cN) i:=λi a1 a2=>by
    have:=A8 (i-lo) (by lia) (by lia)
    rwa [show lo+(i-lo)=i by lia]at this
   repeat' split
   all_goals first
    | (exfalso;lia)
    | exact jx _
    | exact Jy _ (by lia) (by lia)
    | exact Int.le_of_lt (JG _ (by lia)<|by lia)
    | exact fK _ _ (by lia) (by lia)<|by lia
end
noncomputable def u8(arr:Array aJ)(l:Z (aJ×Nat))(sa:Nat):Array aJ:=l.foldl (λa q=>a.setIfInBounds (sa+q.2) q.1) arr
theorem uw(sa:Nat):∀(l:Z aJ)(o:Nat)(arr:Array aJ),sa+o+l.length<=arr.size->∀k,(u8 arr (l.zipIdx o) sa)[k]?=if sa+o<=k/\k<sa+o+l.length then l[k-(sa+o)]? else arr[k]?
 | [],o,arr,h,k=>by show arr[k]?=_;rw[if_neg (by show ¬(sa+o<=k/\k<sa+o+0);lia)]
 | x::l,o,arr,h,k=>by
  have h':sa+o+(l.length+1)<=arr.size:=by simpa using h
  show(u8 (arr.setIfInBounds (sa+o) x) (l.zipIdx<|o+1) sa)[k]?=_;rw[uw sa l (o+1) _ (by simp;lia) k];by_cases hk:k=sa+o
  .rw[if_neg (by lia),if_pos<|by simp;lia,hk];simp[Array.getElem?_setIfInBounds];lia
  .by_cases h2:sa+(o+1)<=k/\k<sa+(o+1)+l.length
   .rw[if_pos h2,if_pos<|by simp;lia];obtain⟨d,hd⟩:∃d,k-(sa+o)=d+1:=⟨k-(sa+o)-1,by lia⟩;rw[hd,List.getElem?_cons_succ]
    congr 1
    lia
   .rw[if_neg h2,if_neg<|by simp;lia,Array.getElem?_setIfInBounds_ne<|by lia]
def aix{arr:Array aJ}{l:Z aJ}{sa:Nat}(h:sa+l.length<=arr.size):(u8 arr l.zipIdx sa).toList=arr.toList.take sa++l++arr.toList.drop (sa+l.length):=by
 apply List.ext_getElem?;intro k;have e:=uw sa l 0 arr (by lia) k;rw[bi,e];have hs:arr.toList.length=arr.size:=by simp
 by_cases h1:k<sa
 .rw[if_neg (by lia),br,fy<|by simp;lia,fq h1,bi]
 .by_cases h2:k<sa+l.length
  .rw[if_pos (by lia),br,cz<|by simp;lia,fy<|by simp;lia]
   congr 1
   simp;lia
  .rw[if_neg (by lia),cz<|by simp;lia,gj,bi]
   congr 1
   simp;lia
def aht{arr:Array aJ}{l:Z aJ}{sa e:Nat}(he:sa<=e)(h:e<=arr.size)(hp:l.Perm (arr.extract sa e).toList):(u8 arr l.zipIdx sa).Perm arr:=by
 have hl:l.length=e-sa:=by rw[hp.length_eq,a9,j5,gr h]
 rw[j3,aix<|by lia];have e2:arr.toList=arr.toList.take sa++(arr.extract sa e).toList++arr.toList.drop (sa+l.length):=by
  rw[hl,show sa+(e-sa)=e by lia];have:(arr.extract sa e).toList=(arr.toList.drop sa).take (e-sa):=by simp
  rw[this]
  conv=>lhs;rw[<-ei sa arr.toList,<-ei (e-sa) (arr.toList.drop sa),List.drop_drop,show sa+(e-sa)=e by lia]
  rw[br]
 refine List.Perm.trans ?_<|List.Perm.of_eq e2.symm;exact(ir _ hp).append_right _
def aii{f:aJ->Int}{arr:Array aJ}{l:Z aJ}{sa e:Nat}(he:sa<=e)(h:e<=arr.size)(hp:l.Perm (arr.extract sa e).toList){k:Nat}(h1:sa<=k)(h2:k<e):∃q,sa<=q/\q<e/\Fk f (u8 arr l.zipIdx sa) k=Fk f arr q:=by
 have hl:l.length=e-sa:=by rw[hp.length_eq,a9,j5,gr h]
 have e1:=uw sa l 0 arr (by lia) k;rw[if_pos (by lia)]at e1;have hk:k-(sa+0)<l.length:=by lia
 have hx:l[k-(sa+0)]∈(arr.extract sa e).toList:=hp.mem_iff.mp<|fj hk;obtain⟨q,hq⟩:=fg.mp hx;rw[bi]at hq;have pG:q<(arr.extract sa e).size:=(bz.mp hq).1;have Je:q<e-sa:=by rw[j5,gr h]at pG;exact pG
 rw[Array.getElem?_extract,if_pos<|by rw[gr h];exact Je]at hq;refine⟨sa+q,by lia,by lia,oW ?_⟩;rw[e1,hq,getElem?_pos l _ hk]
def alm{f:aJ->Int}{arr:Array aJ}{l:Z aJ}{sa e:Nat}(he:sa<=e)(h:e<=arr.size)(hl:l.length=e-sa){k:Nat}(h1:k<sa\/e<=k):(u8 arr l.zipIdx sa)[k]?=arr[k]?:=by rw[uw sa l 0 arr (by lia) k,if_neg<|by lia]
def akl{f:aJ->Int}{arr:Array aJ}{l:Z aJ}{sa e:Nat}(he:sa<=e)(h:e<=arr.size)(hl:l.length=e-sa)(hs:Srt (fl f) l):Seg f (u8 arr l.zipIdx sa) sa (e-sa):=by
 intro i j hi cJ hj;have e1:=uw sa l 0 arr (by lia) i;have e2:=uw sa l 0 arr (by lia) j;rw[if_pos (by lia)]at e1 e2;have mK:i-(sa+0)<l.length:=by lia
 have A7:j-(sa+0)<l.length:=by lia
 rw[getElem?_pos l _ mK]at e1;rw[getElem?_pos l _ A7]at e2;unfold Fk;rw[e1,e2];show f _<=f _;by_cases hq:i=j
 .subst hq;exact jx _
 .have:=gt.mp hs (i-(sa+0)) (j-(sa+0)) mK A7 (by lia);simpa using this
section
variable{prog:aM}{w:aN}{A:Around}{E:aA->aB->Prop}{s:aB}
variable{κ:aX}{mem:aJ->Prop}{f:aJ->Int}{a₀:Array aJ}
def azo{st aR:aQ}{Q:PUnit->aQ->Prop}(h:Q ⟨⟩ aR):iT (aI prog w) A E s (set aR:StateT aQ nP PUnit) Q st:=by unfold iT;rw[StateT.run_set];exact ah ⟨rfl,h⟩
def w6{xs:Array aJ}{i:Nat}{x:aJ}(h:xs[i]?=some x):Fk f xs i=f x:=by unfold Fk;rw[h];rfl
def ain(C:mR prog w A s κ mem (fl f))(hm:∀x∈a₀.toList,mem x){st:aQ}{i sa na pa sb nb pb:Nat}(B:TB κ a₀ st)(hi:(aO st)[i]?=some (sa,na,pa))(FK:(aO st)[i+1]?=some (sb,nb,pb))(kH:sb=sa+na)(hna:1<=na)(hnb:1<=nb)(hsz:sb+nb<=a₀.size)
  (sA:Seg f (aK st) sa na) (sB:Seg f (aK st) sb nb) {Q:Bool->aQ->Prop}
  (h:∀aR,TB κ a₀ aR->aO aR=((aO st).setIfInBounds i (sa,na+nb,pa)).eraseIdxIfInBounds (i+1)->(∀k,k<sa\/sb+nb<=k->(aK aR)[k]?=(aK st)[k]?)->Seg f (aK aR) sa (na+nb)->Q true aR) :
  iT (aI prog w) A E s (mergeAt' i) Q st:=by
 refine bh<|dX ?_;rw[hi,FK];dsimp only;refine bh<|azo ?_;have B1:TB κ a₀ (aQ.mk' (kindOf st) (aK st) (((aO st).setIfInBounds i (sa,na+nb,pa)).eraseIdxIfInBounds (i+1)) (oR st)<|bM st):=⟨B.perm,B.kind,B.failed⟩;have h1:=h _ B1 rfl;have h2:∀(g:Nat)(pR:Array aJ),pR.Perm (aK st)->(∀k,k<sa\/sb+nb<=k->pR[k]?=(aK st)[k]?)->Seg f pR sa (na+nb)->Q true (aQ.mk' (kindOf st) pR (((aO st).setIfInBounds i (sa,na+nb,pa)).eraseIdxIfInBounds (i+1)) g<|bM st):=
  λg pR hp ho hs=>h (aQ.mk' (kindOf st) pR (((aO st).setIfInBounds i (sa,na+nb,pa)).eraseIdxIfInBounds (i+1)) g<|bM st) ⟨hp.trans B.perm,B.kind,B.failed⟩ rfl ho hs
 have oF:=B.size;show iT (aI prog w) A E s _ Q (aQ.mk' (kindOf st) (aK st) (((aO st).setIfInBounds i (sa,na+nb,pa)).eraseIdxIfInBounds (i+1)) (oR st)<|bM st);generalize C1:aQ.mk' (kindOf st) (aK st) (((aO st).setIfInBounds i (sa,na+nb,pa)).eraseIdxIfInBounds (i+1)) (oR st) (bM st)=Cm at B1 h1⊢;obtain⟨xb,exb,mxb,fxb⟩:=B.at (f:=f) hm (show sb<a₀.size by lia);have gS:∀i z,(aK st)[i]?=some z->mem z:=λi z hz=>hm z<|(j3.mp B.perm).mem_iff.mp (by obtain⟨h1,h2⟩:=bz.mp hz;rw[<-h2];simp);have Fu:aK Cm=aK st:=by rw[<-C1]
 refine bh<|qb exb<|bh<|zc (st:=Cm) (base:=sa) (n:=na) (hint:=0) C (GT f) B1.kind mxb (by lia) (λi z hi hz=>gS _ z hz) (by lia) (λi j y z cJ hj hy hz=>?_) λk kW g1 g2=>?_
 .have:=sA (sa+i) (sa+j) (by lia) (by lia) (by lia);rw[w6 hy,w6 hz]at this;simpa using this
 have g1':∀q,sa<=q->q<sa+k->Fk f (aK st) q<=Fk f (aK st) sb:=λq q1 q2=>by obtain⟨z,ez,_,fz⟩:=B.at (f:=f) hm (show q<a₀.size by lia);have:=g1 (q-sa) z (by lia) (by rw[show sa+(q-sa)=q by lia];exact ez);rw[<-fxb,<-fz];simpa using this
 dsimp only;refine oo (λ(iQ:(na-k==0)=true)=>?_) λ(iQ:¬(na-k==0)=true)=>?_
 .have oM:na-k=0:=by simpa using iQ
  refine bu<|h1 (λq _=>by rw[Fu]) ?_;rw[Fu];intro i j hi cJ hj;by_cases A7:j<sb
  .exact sA i j hi cJ<|by lia
  .by_cases mK:i<sb
   .have a1:=g1' i hi (by lia);have a2:=sB sb j (ao _) (by lia) (by lia);lia
   .exact sB i j (by lia) cJ<|by lia
 have oM:k<na:=by have:¬na-k=0:=by simpa using iQ
                  lia
 obtain⟨xl,exl,mxl,fxl⟩:=B.at (f:=f) hm (show sb-1<a₀.size by lia);have Kx:(aK st)[sa+k+(na-k)-1]?=some xl:=by rw[show sa+k+(na-k)-1=sb-1 by rw[Nat.add_assoc,Nat.add_sub_cancel'<|gx oM,<-kH]];exact exl
 refine bh<|qb Kx<|bh<|Ms (st:=Cm) (base:=sb) (n:=nb) (hint:=nb-1) C (GT f) B1.kind mxl (by lia) (λi z hi hz=>gS _ z hz) (by lia) (λi j y z cJ hj hy hz=>?_) λn2 zI g3 g4=>?_
 .have:=sB (sb+i) (sb+j) (by lia) (by lia) (by lia);rw[w6 hy,w6 hz]at this;simpa using this
 have g4':∀q,sb+n2<=q->q<sb+nb->Fk f (aK st) (sb-1)<=Fk f (aK st) q:=λq q1 q2=>by obtain⟨z,ez,_,fz⟩:=B.at (f:=f) hm (show q<a₀.size by lia);have:=g4 (q-sb) z (by lia) (by lia) (by rw[show sb+(q-sb)=q by lia];exact ez);rw[<-fxl,<-fz];simpa using this
 dsimp only;refine oo (λ(C9:(n2==0)=true)=>?_) λ(C9:¬(n2==0)=true)=>?_
 .have A1:n2=0:=by simpa using C9
  refine bu<|h1 (λq _=>by rw[Fu]) ?_;rw[Fu];intro i j hi cJ hj;by_cases A7:j<sb
  .exact sA i j hi cJ<|by lia
  .by_cases mK:i<sb
   .have a1:=sA i (sb-1) hi (by lia) (by lia);have a2:=g4' j (by lia) (by lia);lia
   .exact sB i j (by lia) cJ<|by lia
 have A1:1<=n2:=by have:¬n2=0:=by simpa using C9
                   lia
 have ga:∀q,((aK st).extract (sa+k) sb)[q]?=if q<sb-(sa+k)then(aK st)[sa+k+q]? else none:=λq=>by rw[Array.getElem?_extract];have:kF sb (aK st).size=sb:=gr (by lia);rw[this]
 have gb:∀q,((aK st).extract sb (sb+n2))[q]?=if q<n2 then(aK st)[sb+q]? else none:=λq=>by
  rw[Array.getElem?_extract];have:kF (sb+n2) (aK st).size-sb=n2:=by rw[gr (by lia)];exact Nat.add_sub_cancel_left _ _
  rw[this]
 have za:((aK st).extract (sa+k) sb).size=sb-(sa+k):=by rw[j5,gr<|by lia]
 have zb:((aK st).extract sb (sb+n2)).size=n2:=by rw[j5,gr<|by lia];exact Nat.add_sub_cancel_left _ _
 have inA:∀z∈((aK st).extract (sa+k) sb).toList,∃q,sa+k<=q/\q<sb/\(aK st)[q]?=some z:=λz hz=>by
  obtain⟨q,hq⟩:=fg.mp hz;rw[bi,ga]at hq;by_cases pG:q<sb-(sa+k)
  .rw[if_pos pG]at hq;exact⟨_,by lia,by lia,hq⟩
  .rw[if_neg pG]at hq;cases hq
 have inB:∀z∈((aK st).extract sb (sb+n2)).toList,∃q,q<n2/\(aK st)[sb+q]?=some z:=λz hz=>by
  obtain⟨q,hq⟩:=fg.mp hz;rw[bi,gb]at hq;by_cases pG:q<n2
  .rw[if_pos pG]at hq;exact⟨_,pG,hq⟩
  .rw[if_neg pG]at hq;cases hq
 have wO:∀(lo m:Nat),lo+m<=(aK st).size->Seg f (aK st) lo m->Srt (fl f) ((aK st).extract lo (lo+m)).toList:=λlo m hlm hs=>by
  refine gt.mpr λi j hi hj cJ=>?_;have zi:((aK st).extract lo (lo+m)).toList.length=m:=by rw[a9,j5,gr hlm];exact Nat.add_sub_cancel_left _ _
  have:=hs (lo+i) (lo+j) (by lia) (by lia) (by lia);rw[w6 (getElem?_pos (aK st) (lo+i)<|by lia),w6<|getElem?_pos (aK st) (lo+j)<|by lia]at this;simpa using this
 have T:Two mem (fl f) ((aK st).extract (sa+k) sb) ((aK st).extract sb (sb+n2)):=by
  refine⟨λz hz=>?_,λz hz=>?_,?_,wO sb n2 (by lia) λi j hi cJ hj=>sB i j hi cJ<|by lia,by lia,by lia,λx y hx hy=>?_,λy hy x hx=>?_⟩
  .obtain⟨q,_,_,hq⟩:=inA z hz;exact gS q z hq
  .obtain⟨q,_,hq⟩:=inB z hz;exact gS _ z hq
  .have:=wO (sa+k) (na-k) (by lia) λi j hi cJ hj=>sA i j (by lia) cJ (by lia)
   rwa [show sa+k+(na-k)=sb by rw[Nat.add_assoc,Nat.add_sub_cancel'<|gx oM,<-kH]]at this
  .rw[gb,if_pos<|by lia]at hx;rw[ga,if_pos<|by lia]at hy;have e0:x=xb:=by rw[Nat.add_zero,exb]at hx;exact(gp hx).symm
   rw[e0];exact g2 k y (ao _) oM<|by simpa using hy
  .obtain⟨q,pH,hq⟩:=inB y hy;rw[za,ga,if_pos<|by lia,show sa+k+(sb-(sa+k)-1)=sb-1 by rw[<-Nat.add_sub_assoc (by lia),Nat.add_sub_cancel'<|by lia],exl]at hx;rw[<-gp hx];exact g3 q y pH hq
 have kP:((aK st).extract (sa+k) sb).toList++((aK st).extract sb (sb+n2)).toList=((aK st).extract (sa+k) (sb+n2)).toList:=by
  rw[<-Array.toList_append,Array.extract_append_extract]
  congr 2<;>lia
 have fin:∀(out:Array aJ)(aR:aQ),SameG Cm aR->qq (fl f) ((aK st).extract (sa+k) sb).toList ((aK st).extract sb (sb+n2)).toList out.toList->Q true (jQ aR<|u8 (aK aR) out.toList.zipIdx<|sa+k):=by
  intro out aR G M;have hp:out.toList.Perm ((aK st).extract (sa+k) (sb+n2)).toList:=by rw[<-kP];exact M.1
  have hl:out.toList.length=sb+n2-(sa+k):=by rw[hp.length_eq,a9,j5,gr<|by lia]
  have e1:jQ aR (u8 (aK aR) out.toList.zipIdx<|sa+k)=aQ.mk' (kindOf st) (u8 (aK st) out.toList.zipIdx<|sa+k) (((aO st).setIfInBounds i (sa,na+nb,pa)).eraseIdxIfInBounds (i+1)) (oR aR) (bM st):=by show aQ.mk' (kindOf aR) (u8 (aK aR) _ _) (aO aR) (oR aR) (bM aR)=_;rw[G.1,G.2.1,G.2.2.1,G.2.2.2,<-C1]
  rw[e1];have sM:=akl (f:=f) (arr:=aK st) (show sa+k<=sb+n2 by lia) (by lia) hl M.2;have xM:∀q,sa+k<=q->q<sb+n2->∃p,sa+k<=p/\p<sb+n2/\Fk f (u8 (aK st) out.toList.zipIdx<|sa+k) q=Fk f (aK st) p:=λq q1 q2=>aii (f:=f) (show sa+k<=sb+n2 by lia) (by lia) hp q1 q2;have cR:∀q,q<sa+k\/sb+n2<=q->(u8 (aK st) out.toList.zipIdx<|sa+k)[q]?=(aK st)[q]?:=λq hq=>alm (f:=f) (show sa+k<=sb+n2 by lia) (by lia) hl hq;refine h2 _ _ (aht (show sa+k<=sb+n2 by lia) (by lia) hp) (λq hq=>cR q<|by lia) ?_;have rV:∀i p,sa<=i->i<sa+k->sa+k<=p->p<sb+nb->Fk f (aK st) i<=Fk f (aK st) p:=λi p i1 i2 p1 p2=>by
   by_cases uC:p<sb
   .exact sA i p i1 (by lia)<|by lia
   .have a1:=g1' i i1 i2;have a2:=sB sb p (ao _) (by lia) (by lia);lia
  have Dt:∀p j,sa<=p->p<sb+n2->sb+n2<=j->j<sb+nb->Fk f (aK st) p<=Fk f (aK st) j:=λp j p1 p2 j1 j2=>by
   by_cases uC:p<sb
   .have a1:=sA p (sb-1) p1 (by lia) (by lia);have a2:=g4' j j1 j2;lia
   .exact sB p j (by lia) (by lia)<|by lia
  intro i j hi cJ hj;by_cases mK:i<sa+k
  .rw[oW (f:=f) (cR i<|.inl mK)];by_cases A7:j<sa+k
   .rw[oW (f:=f) (cR j<|.inl A7)];exact sA i j hi cJ<|by lia
   .by_cases hj3:j<sb+n2
    .obtain⟨p,p1,p2,ep⟩:=xM j (by lia) hj3;rw[ep];exact rV i p hi mK p1<|by lia
    .rw[oW (f:=f) (cR j<|.inr<|by lia)];exact rV i j hi mK (by lia)<|by lia
  .by_cases JE:i<sb+n2
   .by_cases hj3:j<sb+n2
    .exact sM i j (by lia) cJ<|by lia
    .obtain⟨p,p1,p2,ep⟩:=xM i (by lia) JE;rw[ep,oW (f:=f)<|cR j<|.inr<|by lia];exact Dt p j (by lia) p2 (by lia)<|by lia
   .rw[oW (f:=f) (cR i<|.inr<|by lia),oW (f:=f)<|cR j<|.inr<|by lia];exact sB i j (by lia) cJ<|by lia
 have done:∀(out:Array aJ)(aR:aQ),SameG Cm aR->qq (fl f) ((aK st).extract (sa+k) sb).toList ((aK st).extract sb (sb+n2)).toList out.toList->
   iT (aI prog w) A E s (do
    modify λz=>jQ z<|u8 (aK z) out.toList.zipIdx<|sa+k
    let z <-get
    aS (bM z).isNone) Q aR:=by
  intro out aR G M;refine bh<|cC<|bh<|dX<|bu ?_;have e:(bM<|jQ aR<|u8 (aK aR) out.toList.zipIdx<|sa+k).isNone=true:=by show(bM aR).isNone=true;rw[G.2.2.2,B1.failed];rfl
  rw[e];exact fin out aR G M
 refine oo (λ(uG:na-k<=n2)=>?_) λ(uG:¬(na-k<=n2))=>?_
 .exact bh<|aio C (GT f) B1.kind T done
 .exact bh<|ah4 C (GT f) B1.kind T done
end
def tO:Nat->Z (Nat×Nat×Nat)->Nat->Prop
 | a,[],b=>a=b
 | a,e::r,b=>e.1=a/\1<=e.2.1/\tO (a+e.2.1) r b
theorem tile_app:∀{l1 l2:Z (Nat×Nat×Nat)} {a b:Nat},tO a (l1++l2) b↔∃c,tO a l1 c/\tO c l2 b
 | [],l2,a,b=>⟨λh=>⟨a,rfl,h⟩,λ⟨c,h1,h2⟩=>by cases h1;exact h2⟩
 | e::r,l2,a,b=>⟨λh=>by obtain⟨c,h1,h2⟩:=tile_app.mp h.2.2;exact⟨c,⟨h.1,h.2.1,h1⟩,h2⟩,λ⟨c,h1,h2⟩=>⟨h1.1,h1.2.1,tile_app.mpr ⟨c,h1.2.2,h2⟩⟩⟩
theorem Hu:∀{l:Z (Nat×Nat×Nat)} {a b:Nat},tO a l b->a+l.length<=b
 | [],a,b,h=>by cases h;exact ao _
 | e::r,a,b,h=>by have:=Hu h.2.2;have:=h.2.1;simp only[bx];lia
theorem HC:∀{l:Z (Nat×Nat×Nat)} {a b:Nat},tO a l b->∀e∈l,a<=e.1/\e.1+e.2.1<=b
 | [],a,b,h,e,he=>by simp at he
 | d::r,a,b,h,e,he=>by
  have l:=Hu h.2.2;have:=h.1;have:=h.2.1;rcases a6.mp he with rfl|he
  .lia
  .have:=HC h.2.2 e he;lia
noncomputable abbrev prT(e:Nat×Nat×Nat):Nat×Nat:=(e.1,e.2.1)
theorem afq:∀{l l':Z (Nat×Nat×Nat)} {a b:Nat},l'.map prT=l.map prT->tO a l b->tO a l' b
 | [],[],a,b,_,h=>h
 | [],e::r,a,b,q,h=>by simp at q
 | d::r,[],a,b,q,h=>by simp at q
 | d::r,e::r',a,b,q,h=>by rw[cm,cm]at q;obtain⟨q1,q2⟩:=List.cons.inj q;obtain⟨e1,e2⟩:e.1=d.1/\e.2.1=d.2.1:=Prod.mk.inj q1;refine⟨e1.trans h.1,by rw[e2];exact h.2.1,?_⟩;rw[e2];exact afq q2 h.2.2
def agq(p:Array (Nat×Nat×Nat))(k w:Nat):(p.modify k λx=>(x.fst,x.2.fst,w)).toList.map prT=p.toList.map prT:=by
 apply List.ext_getElem?;intro i;rw[ax,ax,bi,bi,Array.getElem?_modify];split
 .cases p[i]?<;>rfl
 .rfl
structure PInv(f:aJ->Int)(κ:aX)(a₀:Array aJ)(lo:Nat)(st:aQ):Prop where
 base:TB κ a₀ st
 tile:tO 0 (aO st).toList lo
 segs:∀e∈(aO st).toList,Seg f (aK st) e.1 e.2.1
 top:lo<=a₀.size
def EO{f:aJ->Int}{xs ys:Array aJ}{lo n:Nat}(h:Seg f xs lo n)(e:∀k,lo<=k->k<lo+n->ys[k]?=xs[k]?):Seg f ys lo n:=λi j hi cJ hj=>by rw[oW (f:=f) (e i hi<|by lia),oW (f:=f)<|e j (by lia) hj];exact h i j hi cJ hj
section
variable{κ:aX}{f:aJ->Int}{a₀:Array aJ}{lo:Nat}{st aR:aQ}
def PInv.frame(P:PInv f κ a₀ lo st)(B:TB κ a₀ aR)(F:Fr lo st aR):PInv f κ a₀ lo aR:=by refine⟨B,by rw[F.pend];exact P.tile,λe he=>?_,P.top⟩;rw[F.pend]at he;have:=HC P.tile e he;exact EO (P.segs e he) λk h1 h2=>F.low k<|by lia
def PInv.like(P:PInv f κ a₀ lo st){p:Array (Nat×Nat×Nat)}(h:p.toList.map prT=(aO st).toList.map prT):PInv f κ a₀ lo (setPending st p):=by
 refine⟨⟨P.base.perm,P.base.kind,P.base.failed⟩,afq h P.tile,λe he=>?_,P.top⟩;have h1:prT e∈(aO st).toList.map prT:=by rw[<-h];exact au.mpr ⟨e,he,rfl⟩
 obtain⟨d,hd,ed⟩:=au.mp h1;obtain⟨e1,e2⟩:d.1=e.1/\d.2.1=e.2.1:=Prod.mk.inj ed;have:=P.segs d hd;rw[e1,e2]at this;exact this
theorem PInv.push(P:PInv f κ a₀ lo st){n w:Nat}(h1:1<=n)(ht:lo+n<=a₀.size)(hs:Seg f (aK st) lo n):PInv f κ a₀ (lo+n) (setPending st<|(aO st).push (lo,n,w)):=by
 refine⟨⟨P.base.perm,P.base.kind,P.base.failed⟩,?_,λe he=>?_,ht⟩
 .show tO 0 ((aO st).push (lo,n,w)).toList (lo+n);rw[Array.toList_push];exact tile_app.mpr ⟨lo,P.tile,rfl,h1,rfl⟩
 .have jU:e∈((aO st).push (lo,n,w)).toList:=he;rw[Array.toList_push]at jU;rcases bw.mp jU with h|h
  .exact P.segs e h
  .rw[ay.mp h];exact hs
end
section
variable{prog:aM}{w:aN}{A:Around}{E:aA->aB->Prop}{s:aB}
variable{κ:aX}{mem:aJ->Prop}{f:aJ->Int}{a₀:Array aJ}
def MQ(C:mR prog w A s κ mem (fl f))(hm:∀x∈a₀.toList,mem x){st:aQ}{i lo:Nat}(P:PInv f κ a₀ lo st)(hi:i+1<(aO st).size){Q:Bool->aQ->Prop}
  (h:∀aR,PInv f κ a₀ lo aR->(aO aR).size+1=(aO st).size->(∀k,lo<=k->(aK aR)[k]?=(aK st)[k]?)->Q true aR):iT (aI prog w) A E s (mergeAt' i) Q st:=by
 obtain⟨⟨sa,na,pa⟩,e1⟩:∃e,(aO st)[i]?=some e:=⟨_,getElem?_pos _ i<|by lia⟩;obtain⟨⟨sb,nb,pb⟩,e2⟩:∃e,(aO st)[i+1]?=some e:=⟨_,getElem?_pos _ (i+1) hi⟩;obtain⟨l1,l2,hl,bB⟩:∃l1 l2,(aO st).toList=l1++(sa,na,pa)::(sb,nb,pb)::l2/\l1.length=i:=by
  refine(nc ((aO st).toList.take i) ((aO st).toList.drop (i+2)) ⟨?_,by simp;lia⟩);have hi0:i<(aO st).toList.length:=by simp;lia
  have FK:i+1<(aO st).toList.length:=by simp;lia
  conv=>lhs;rw[<-ei i (aO st).toList,List.drop_eq_getElem_cons hi0,List.drop_eq_getElem_cons FK]
  have a1:(aO st).toList[i]=(sa,na,pa):=by have:=e1;rw[<-bi,getElem?_pos _ i hi0]at this;exact gp this
  have a2:(aO st).toList[i+1]=(sb,nb,pb):=by have:=e2;rw[<-bi,getElem?_pos _ (i+1) FK]at this;exact gp this
  rw[a1,a2]
 have ht:=P.tile;rw[hl]at ht;obtain⟨c,t1,t2⟩:=tile_app.mp ht;obtain⟨h1,h2,h3,h4,t3⟩:=t2;dsimp only at h1 h2 h3 h4 t3;have hlast:=Hu t3;have sA:=P.segs (sa,na,pa) (by rw[hl];simp);have sB:=P.segs (sb,nb,pb) (by rw[hl];simp);have top:=P.top;refine ain C hm P.base e1 e2 (by lia) h2 h4 (by lia) sA sB λaR B' hp ho hs=>h aR ?_ ?_ λk hk=>ho k<|.inr<|by lia
 .have uC:(aO aR).toList=l1++(sa,na+nb,pa)::l2:=by
   rw[hp,Array.toList_eraseIdxIfInBounds,Array.toList_setIfInBounds,hl];rw[List.set_append_right _ _ (by lia),bB,Nat.sub_self,List.set_cons_zero,List.eraseIdx_append_of_length_le<|by lia,bB,show i+1-i=1 by lia];rfl
  refine⟨B',?_,λe he=>?_,top⟩
  .rw[uC];refine tile_app.mpr ⟨c,t1,h1,by show 1<=na+nb;lia,?_⟩;show tO (c+(na+nb)) l2 lo;rw[show c+(na+nb)=c+na+nb by lia];exact t3
  .rw[uC]at he;rcases bw.mp he with q|q
   .have a1:=HC t1 e q;exact EO (P.segs e<|by rw[hl];exact kh _ q) λk k1 k2=>ho k<|.inl<|by lia
   .rcases a6.mp q with q|q
    .rw[q];exact hs
    .have a1:=HC t3 e q;exact EO (P.segs e<|by rw[hl];simp[q]) λk k1 k2=>ho k<|.inr<|by lia
 .have:=congrArg List.length (show(aO aR).toList=l1++(sa,na+nb,pa)::l2 by
   rw[hp,Array.toList_eraseIdxIfInBounds,Array.toList_setIfInBounds,hl];rw[List.set_append_right _ _ (by lia),bB,Nat.sub_self,List.set_cons_zero,List.eraseIdx_append_of_length_le<|by lia,bB,show i+1-i=1 by lia];rfl)
  have q:=congrArg List.length hl;simp at this q;lia
theorem aib(C:mR prog w A s κ mem (fl f))(hm:∀x∈a₀.toList,mem x){st:aQ}(B:TB κ a₀ st)(h0:aO st=#[]){Q:Unit->aQ->Prop}
  (h:∀aR,TB κ a₀ aR->Seg f (aK aR) 0 a₀.size->Q () aR):iT (aI prog w) A E s sortRuns' Q st:=by
 rw[sortRuns'_eq];refine bh<|dX ?_;dsimp only;simp only[B.size];refine bh<|jf (gy (I:=λx c aR=>∃lo,c=(none,lo)/\x<=lo/\PInv f κ a₀ lo aR) (Q:=λc aR=>c=(none,a₀.size)/\PInv f κ a₀ a₀.size aR) ?step ?fin ?init) ?post
 case init=>exact⟨0,rfl,ao _,B,by rw[h0];rfl,λe he=>by rw[h0]at he;simp at he,fk _⟩
 case fin=>
  intro c aR bV;refine hid λCg bW=>?_;obtain⟨lo,rfl,hx,P⟩:=bV;refine bW ?_;have:=P.top;obtain rfl:lo=a₀.size:=by lia
  exact⟨rfl,P⟩
 case step=>
  intro x c aR _ hx bV;refine hid λCg bW=>?_;obtain⟨lo,rfl,uF,P⟩:=bV;refine bW ?_;dsimp only;have top:=P.top;refine oo (λ(oO:lo>=a₀.size)=>?_) λ(oO:¬(lo>=a₀.size))=>?_
  .obtain rfl:lo=a₀.size:=by lia
   exact bu ⟨rfl,P⟩
  refine bh<|awk C hm (by lia) (by lia) P.base λn lY B2 F2 n1 n2 s2=>?_;dsimp only;refine oo (λ(zJ:n<nE a₀.size a₀.size 0)=>?_) λ(zJ:¬(n<nE a₀.size a₀.size 0))=>?_
  .refine bh<|gX<|jm ⟨rfl,?_⟩;refine bh<|av4 C hm (by lia) (by lia) B2 s2 λkB B3 F3 s3=>?_;rw[if_neg (by simp)];have f1:1<=(kF (a₀.size-lo)<|nE a₀.size a₀.size 0):=by lia
   have P3:PInv f κ a₀ lo kB:=P.frame B3<|F2.trans F3;refine bh<|dX ?_;cases hb:(aO kB).back? with
   | none=>
    dsimp only;exact bh (cC<|bu ⟨_,rfl,by lia,P3.push f1 (by lia) s3⟩)
   | some e=>
    obtain⟨s1,m1,w1⟩:=e;dsimp only;refine bh<|jf (gy (I:=λ_ c cZ=>c=(none,())/\PInv f κ a₀ lo cZ/\Seg f (aK cZ) lo (kF (a₀.size-lo)<|nE a₀.size a₀.size 0)) (Q:=λc cZ=>c=(none,())/\PInv f κ a₀ lo cZ/\Seg f (aK cZ) lo (kF (a₀.size-lo)<|nE a₀.size a₀.size 0)) ?_ (λ_ _ hh=>hh) ⟨rfl,P3,s3⟩) ?_
    .rintro y c cZ _ hy ⟨rfl,P4,s4⟩;refine bh<|dX ?_;by_cases h2:(aO cZ).size>1
     .rw[if_pos h2,getElem?_pos (aO cZ) ((aO cZ).size-2)<|by lia];dsimp only;split
      .exact bu ⟨rfl,P4,s4⟩
      .refine bh<|MQ C hm P4 (by lia) λvC P5 _ ho=>?_;rw[if_neg (by simp)];exact bu ⟨rfl,P5,EO s4 λk k1 _=>ho k k1⟩
     .rw[if_neg h2];exact bu ⟨rfl,P4,s4⟩
    .rintro c cZ ⟨rfl,P4,s4⟩;dsimp only;refine bh<|cC ?_;have P5:=P4.like (p:=(aO cZ).modify ((aO cZ).size-1) λx=>(x.fst,x.2.fst,power' a₀.size (2*s1+m1) (2*s1+m1+m1+(kF (a₀.size-lo)<|nE a₀.size a₀.size 0)) a₀.size))<|agq _ _ _;exact bh<|cC<|bu ⟨_,rfl,by lia,P5.push f1 (by lia) s4⟩
  .have P3:PInv f κ a₀ lo lY:=P.frame B2 F2;refine bh<|dX ?_;cases hb:(aO lY).back? with
   | none=>
    dsimp only;exact bh (cC<|bu ⟨_,rfl,by lia,P3.push n1 (by lia) s2⟩)
   | some e=>
    obtain⟨s1,m1,w1⟩:=e;dsimp only;refine bh<|jf (gy (I:=λ_ c cZ=>c=(none,())/\PInv f κ a₀ lo cZ/\Seg f (aK cZ) lo n) (Q:=λc cZ=>c=(none,())/\PInv f κ a₀ lo cZ/\Seg f (aK cZ) lo n) ?_ (λ_ _ hh=>hh) ⟨rfl,P3,s2⟩) ?_
    .rintro y c cZ _ hy ⟨rfl,P4,s4⟩;refine bh<|dX ?_;by_cases h2:(aO cZ).size>1
     .rw[if_pos h2,getElem?_pos (aO cZ) ((aO cZ).size-2)<|by lia];dsimp only;split
      .exact bu ⟨rfl,P4,s4⟩
      .refine bh<|MQ C hm P4 (by lia) λvC P5 _ ho=>?_;rw[if_neg (by simp)];exact bu ⟨rfl,P5,EO s4 λk k1 _=>ho k k1⟩
     .rw[if_neg h2];exact bu ⟨rfl,P4,s4⟩
    .rintro c cZ ⟨rfl,P4,s4⟩;dsimp only;refine bh<|cC ?_;have P5:=P4.like (p:=(aO cZ).modify ((aO cZ).size-1) λx=>(x.fst,x.2.fst,power' a₀.size (2*s1+m1) (2*s1+m1+m1+n) a₀.size))<|agq _ _ _;exact bh<|cC<|bu ⟨_,rfl,by lia,P5.push n1 (by lia) s4⟩
 case post=>
  rintro c aR ⟨rfl,P⟩;dsimp only;refine bh<|jf (gy (I:=λx c cN=>c=(none,())/\PInv f κ a₀ a₀.size cN/\(aO cN).size<=max 1 (a₀.size-x)) (Q:=λc cN=>c=(none,())/\PInv f κ a₀ a₀.size cN/\(aO cN).size<=1) ?_ ?_ ?_) ?_
  .rintro x c cN _ hx ⟨rfl,P2,hsz⟩;refine bh<|dX ?_;refine oo (λ(h1:(aO cN).size<=1)=>?_) λ(h1:¬((aO cN).size<=1))=>?_
   .exact bu ⟨rfl,P2,h1⟩
   .refine bh<|MQ C hm P2 (by(repeat' split)<;>lia) λvC P5 hz _=>?_;rw[if_neg (by simp)];exact bu ⟨rfl,P5,by lia⟩
  .rintro c cN ⟨rfl,P2,hsz⟩;exact⟨rfl,P2,by lia⟩
  .refine⟨rfl,P,?_⟩;have:=Hu P.tile;simp at this;lia
  .rintro c cN ⟨rfl,P2,hsz⟩;refine bu<|h cN P2.base ?_;have t:=P2.tile;have sg:=P2.segs;have hl:(aO cN).toList.length<=1:=by simpa using hsz
   match hq:(aO cN).toList,hl with
   | [],_=>
    rw[hq]at t;intro i j hi cJ hj;have:0=a₀.size:=t;lia
   | [e],_=>
    rw[hq]at t sg;have a1:=t.1;have a2:0+e.2.1=a₀.size:=t.2.2;have a3:=sg e (by simp);rw[a1,show e.2.1=a₀.size by lia]at a3;exact a3
end
end L3
namespace L3
open PySem PySem.Spec PyProof.Rows L2
structure CZ where
 cl:Z (Str×aG)
 C:aG
 s:aB
 H:Hp
 ex:Z aG
noncomputable def ot(X:Cx)(N:Z Str)(scope:cG)(z:CZ):Cx where
 prog:=X.prog
 w:=X.w
 K:=X.K
 mg:=X.mg
 base:=X.base
 A:=X.A
 N:=N
 s₀:=z.s
 H₀:=z.H
 env:=compEnvC scope z.cl z.C X.env
 outer:=X.stack
 stack:=X.stack
 ex:=z.ex
 calm:=X.calm
 fn:=λ_=>false
 pn:=[]
 xe:=λ_ _=>False
noncomputable def sf(cells:Z (Str×aG)):Z (Str×aT)->Z (Str×aG)->Z (Str×aG)
 | [],cs=>cs
 | (n,k)::r,cs=>if (k==aT.free)=true then(match cells.lookup n with|some c=>sf cells r ((n,c)::cs)|none=>sf cells r cs)else sf cells r cs
theorem zo{scope:cG}{env:oX}(h:∀x∈scope.names,x.2=.free->∃c,env.cells.lookup x.1=some c):oS scope env=aS (sf env.cells scope.names []):=by
 have go:∀(l:Z (Str×aT)) (cs:Z (Str×aG)),(∀x∈l,x.2=.free->∃c,env.cells.lookup x.1=some c)->
   (xN l cs λ(x:Str×aT) (cs:Z (Str×aG))=>if (x.2==aT.free)=true then do let a <-cellOf env x.1;aS (ForInStep.yield ((x.1,a)::cs))else aS (ForInStep.yield cs):nP (Z<|Str×aG))=aS (sf env.cells l cs):=by
  intro l;induction l with
  | nil=>intro cs _;rfl
  | cons x r ih=>
   intro cs hx;obtain⟨n,k⟩:=x;rw[List.forIn_cons];have ih':=λcs=>ih cs λy hy=>hx y<|ar _ hy;unfold sf;dsimp only;by_cases hk:(k==aT.free)=true
   .obtain⟨c,hc⟩:=hx (n,k) aq (by simpa using hk);rw[if_pos hk,if_pos hk];simp only at hc;simp only[cellOf,hc,pure_bind];exact ih' _
   .rw[if_neg hk,if_neg hk];simp only[pure_bind];exact ih' _
 unfold oS;have e:=go scope.names [] h;simp only[bind_pure]at e⊢;exact e
theorem zz{cells:Z (Str×aG)}{x:Str}{c:aG}:∀{l:Z (Str×aT)} {cs:Z (Str×aG)},(sf cells l cs).lookup x=some c->cells.lookup x=some c\/cs.lookup x=some c
 | [],cs,h=>.inr h
 | (n,k)::r,cs,h=>by
  unfold sf at h;split at h
  .split at h
   .rename_i c0 e
    rcases zz h with q|q
    .exact .inl q
    .rw[jr]at q;split at q
     .rename_i hx
      have vJ:x=n:=by simpa using hx
      cases q;rw[vJ];exact .inl e
     .exact .inr q
   .exact zz h
  .exact zz h
theorem ve{cells:Z (Str×aG)}{x:Str}:∀{l:Z (Str×aT)} {cs:Z (Str×aG)},(∃c,cs.lookup x=some c)->∃c,(sf cells l cs).lookup x=some c
 | [],cs,h=>h
 | (n,k)::r,cs,h=>by
  unfold sf;split
  .split
   .refine ve ?_;rw[jr];split
    .exact⟨_,rfl⟩
    .exact h
   .exact ve h
  .exact ve h
theorem xp{cells:Z (Str×aG)}{x:Str}:∀{l:Z (Str×aT)} {cs:Z (Str×aG)},(x,aT.free)∈l->(∃c,cells.lookup x=some c)->∃c,(sf cells l cs).lookup x=some c
 | (n,k)::r,cs,hm,h=>by
  unfold sf;rcases a6.mp hm with e|hm
  .cases e;obtain⟨c,hc⟩:=h;rw[if_pos (show(aT.free==aT.free)=true from rfl),hc];refine ve ?_;rw[jr];simp
  .split
   .split
    .exact xp hm h
    .exact xp hm h
   .exact xp hm h
def ahl{scope:cG}{env:oX}{x:Str}(oJ:∀y∈scope.names,y.2≠.cell)(h:(relabel scope env).names.lookup x=some .cell\/(relabel scope env).names.lookup x=some .free):(x,aT.free)∈scope.names:=by
 rcases h with h|h
 .have hm:=jc h;obtain⟨⟨n,k⟩,hy,e⟩:=au.mp hm;dsimp only at e;split at e
  .rename_i hc
   simp only[dw,beq_iff_eq]at hc;cases e;rw[hc.1.1]at hy;exact hy
  .cases e;exact absurd rfl<|oJ _ hy
 .have hm:=jc h;obtain⟨⟨n,k⟩,hy,e⟩:=au.mp hm;dsimp only at e;split at e
  .cases e
  .cases e;exact hy
theorem aa9{env:oX}:∀{names:Z (Str×aT)} {x:Str},names.lookup x=some .free->
  ((names.map λ(n,k)=>if (k==aT.free&&env.scope.kind==.function&&env.kindOf n==some .cell)then(n,aT.cell)else(n,k)).lookup x=some .cell\/
   (names.map λ(n,k)=>if (k==aT.free&&env.scope.kind==.function&&env.kindOf n==some .cell)then(n,aT.cell)else(n,k)).lookup x=some .free)
 | [],_,h=>by simp at h
 | (n,k)::r,x,h=>by
  have ih:=@aa9 env r x;show(List.lookup x ((if (k==aT.free&&env.scope.kind==.function&&env.kindOf n==some .cell)=true then(n,aT.cell)else(n,k))::_)=_)\/(List.lookup x ((if (k==aT.free&&env.scope.kind==.function&&env.kindOf n==some .cell)=true then(n,aT.cell)else(n,k))::_)=_);cases hx:x==n with
  | true=>
   simp only[jr,hx]at h;cases h;by_cases hc:((aT.free:aT)==aT.free&&env.scope.kind==.function&&env.kindOf n==some .cell)=true
   .rw[if_pos hc];left;simp only[jr,hx]
   .rw[if_neg hc];right;simp only[jr,hx]
  | false=>
   simp only[jr,hx]at h;by_cases hc:(k==aT.free&&env.scope.kind==.function&&env.kindOf n==some .cell)=true
   .rw[if_pos hc];simp only[jr,hx];exact ih h
   .rw[if_neg hc];simp only[jr,hx];exact ih h
noncomputable def ua(sl:Z (Option Nat))(σ:L2.St):L2.St:=sl.map λo=>o.bind λj=>(σ[j]?).getD none
noncomputable def slOk(N N':Z Str)(sl:Z (Option Nat))(sc osc:cG):Bool:=
 sl.length==N'.length&&(List.zip N' sl).all λp=>match p.2 with
  | none=>true
  | some j=>N[j]?==some p.1&&sc.names.lookup p.1==some .free&&(osc.names.lookup p.1==some .cell||osc.names.lookup p.1==some .free)
def slOk.len{N N':Z Str}{sl:Z (Option Nat)}{sc osc:cG}(h:slOk N N' sl sc osc=true):sl.length=N'.length:=by unfold slOk at h;rw[dw]at h;simpa using h.1
theorem slOk.at{N N':Z Str}{sl:Z (Option Nat)}{sc osc:cG}(h:slOk N N' sl sc osc=true){k j:Nat}{x:Str}(h1:N'[k]?=some x)(h2:sl[k]?=some (some j)) :
  N[j]?=some x/\sc.names.lookup x=some .free/\(osc.names.lookup x=some .cell\/osc.names.lookup x=some .free):=by
 unfold slOk at h;rw[dw,js]at h;have hm:(x,some j)∈List.zip N' sl:=by refine ai (i:=k) ?_;rw[List.getElem?_zip_eq_some];exact⟨h1,h2⟩
 have q:=h.2 _ hm;simp only[dw,Bool.or_eq_true,beq_iff_eq]at q;exact⟨q.1.1,q.1.2,q.2⟩
noncomputable def frOk(sc osc:cG):Bool:=sc.names.all λx=>!(x.2==.free)||(osc.names.lookup x.1==some .cell||osc.names.lookup x.1==some .free)
def frOk.of{sc osc:cG}(h:frOk sc osc=true):∀x∈sc.names,x.2=.free->osc.names.lookup x.1=some .cell\/osc.names.lookup x.1=some .free:=λx hx e=>by have q:=js.mp h x hx;rw[e]at q;simp only[beq_self_eq_true,i8,Bool.false_or,Bool.or_eq_true,beq_iff_eq]at q;exact q
def Agree(σ σ':L2.St):Prop:=σ'.length=σ.length/\∀(i:Nat) v,σ[i]?=some (some v)->σ'[i]?=some (some v)
def Agree.refl(σ:L2.St):Agree σ σ:=⟨rfl,λ_ _ h=>h⟩
theorem Agree.set{σ σ':L2.St}(a:Agree σ σ'){i:Nat}{v:Option V}(h:σ[i]?=some none):Agree σ (σ'.set i v):=by
 refine⟨by rw[List.length_set];exact a.1,λj w e=>?_⟩;by_cases cJ:i=j
 .subst cJ;rw[h]at e;cases e
 .rw[List.getElem?_set_ne cJ];exact a.2 j w e
section
variable{fs ex:Z aG}{H H':Hp}{h h1 h2:Heap}{C:aG}
def Un.but(u:Un fs ex H H' h h1)(hC:h.get? C=none)(sb:∀b o,b≠C->h1.get? b=some o->h2.get? b=some o):Un fs ex H H' h h2 where
 keep:=λb o e n hb hx=>sb b o (by rintro rfl;rw[hC]at e;cases e) (u.keep b o e n hb hx)
 slot:=λb o e n hb hx=>by obtain⟨sl,q⟩:=u.slot b o e n hb hx;exact⟨sl,sb b _ (by rintro rfl;rw[hC]at e;cases e) q⟩
 free:=u.free
 there:=λb o e hx=>by obtain⟨o',q⟩:=u.there b o e hx;exact⟨o',sb b o' (by rintro rfl;rw[hC]at e;cases e) q⟩
 tups:=u.tups
 frzs:=u.frzs
 tbls:=u.tbls
def HOk.but{P:aM}{w:aN}(x:HOk P w H h1)(hC:H C=none)(sb:∀b o,b≠C->h1.get? b=some o->h2.get? b=some o):HOk P w H h2:=λa o e=>
 (x a o e).stay (λb u hc q=>sb b u (by
  rintro rfl;rcases hc with hc|hc
  .rw[<-hc,hC]at e;cases e
  .rw[hC]at hc;cases hc) q) (λ_ q=>q) λ_ _ q=>q
end
theorem aln{X:Cx}{aC:Z (aG×Obj)}{σ:L2.St}{H:Hp}{s:aB}(I:Inv X aC σ H s){scope:cG}{N':Z Str}{sl:Z (Option Nat)}{fp:Z aG}{h₁:Heap}{m:Str->Option aA}{tk:Nat}
  (hk:scope.kind=.function) (oJ:∀y∈scope.names,y.2≠.cell) (bR:∀x∈scope.names,x.2=.free->X.env.scope.names.lookup x.1=some .cell\/X.env.scope.names.lookup x.1=some .free)
  (qK:slOk X.N N' sl scope X.env.scope=true) (uH:∀b∈fp,mQ X aC H b) (bN:∀b∈fp,b<s.heap.objs.size)
  (oI:h₁.Ns s.heap.objs.size m) (iB:∀b o,s.heap.get? b=some o->h₁.get? b=some o) :
  Inv (ot X N' scope ⟨sf X.env.cells scope.names [],s.heap.objs.size,s,H,fp⟩) [] (ua sl σ) H {s with heap:=h₁,toks:=tk}:=by
 have Bq:∀x c,(sf X.env.cells scope.names []).lookup x=some c->X.env.cells.lookup x=some c:=λx c e=>by
  rcases zz e with q|q
  .exact q
  .cases q
 have has:∀x,(x,aT.free)∈scope.names->∃c,(sf X.env.cells scope.names []).lookup x=some c:=λx hx=>
  xp hx (I.ok.has x<|bR _ hx rfl)
 refine⟨⟨I.ok.mod,hk,I.ok.glob,I.ok.blt,ao _,λx y c h1 h2=>I.ok.inj x y c (Bq x c h1)<|Bq y c h2,λx hx=>has x<|ahl oJ hx,λx c hf _=>absurd hf am,I.ok.hd,I.ok.frames,.inl rfl,
   λb hb=>⟨cf<|bN b hb,λx c e=>(uH b hb).2.2.2.2.1 x c (Bq x c e)⟩,I.bs,gw I.ok.bsz I.sz,λb o e hb=>?_,λb hb hz=>?_,I.stack,I.stkFree⟩,
  rfl,I.bare,Un.kept iB,⟨m,oI,λi x v h1 h2 _=>?_⟩,λx c e=>?_,I.hok.fresh<|ao _,λx c e=>I.freeC x c<|Bq x c e,λp hp=>absurd (show p∈([]:Z (aG×Obj))from hp)<|by simp,I.hok.kept iB,?_⟩
 .rcases(uH b hb).2.2.2.1 with z|z
  .exact I.ok.noex b o e z
  .exact absurd (cw (bb (I.ok.bs b o e).1) z)<|ij _
 .rcases a6.mp (I.stkSub b hz)with z|z
  .exact(uH b hb).2.1 z
  .exact(uH b hb).2.2.1 z
 .have fQ:(ua sl σ)[i]?=some (some v):=h2;unfold ua at fQ;rw[ax]at fQ;cases q:sl[i]? with
  | none=>rw[q]at fQ;cases fQ
  | some o=>
   rw[q]at fQ;cases o with
   | none=>cases fQ
   | some j=>
    have e:(σ[j]?).getD none=some v:=by simpa using fQ
    have e2:σ[j]?=some (some v):=by
     cases r:σ[j]? with
     | none=>rw[r]at e;cases e
     | some w=>rw[r]at e;simp at e;rw[e]
    obtain⟨a1,a2,a3⟩:=slOk.at qK h1 q;obtain⟨mo,_,hl⟩:=I.loc;obtain⟨u,r,l⟩:=hl j x v a1 e2<|.inr a3;refine⟨u,r,.inr ⟨aa9 a2,?_⟩⟩;have a4:X.env.kindOf x=some .cell\/X.env.kindOf x=some .free:=a3;rcases l with ⟨l,_⟩|⟨_,c,e3,z⟩
    .rcases a4 with a4|a4 <;> · rw[l]at a4;cases a4
    .obtain⟨c',e4⟩:=has x<|jc a2;have e5:=Bq x c' e4;rw[e3]at e5;cases e5;obtain⟨o,ho,hd⟩:=z;exact(qe c e4 o ⟨iB _ _ ho,hd⟩)
 .obtain⟨v,o,ho,hd⟩:=I.cell x c<|Bq x c e;exact(nc v o ⟨iB _ _ ho,hd⟩)
 .show(ua sl σ).length=N'.length;unfold ua;rw[ae];exact slOk.len qK
def PTs(X:Cx)(kG:Z Expr)(t:TT):Prop:=
 ∀(aC:Z (aG×Obj)) (s:aB) (σ:L2.St) (H:Hp) (Q:Bool->Hp->Prop),Inv X aC σ H s->t σ H Q->
  aH (aI X.prog X.w) X.A (xN kG true λc r=>if r=true then do let ok <-isTrue c X.env (bQ c X.env);aS (ForInStep.yield ok)else aS (ForInStep.yield r)) (TP X aC σ Q) X.xe s
def x5:TT:=λ_ H Q=>Q true H
def ou{X:Cx}:PTs X [] x5:=λ_ _ _ H _ I h=>wpAny_tests_nil ⟨H,I,h⟩
def Mg{X:Cx}{c:Expr}{t:TT}(h:PT X c t):PTs X [c] t:=λaC s σ H Q I q=>wpAny_tests_one<|h aC s σ H Q I q
theorem ahe{prog:aM}{w:aN}{A:Around}{R:iF->aB->Prop}{s:aB}{jW bD iter:Expr}{kG:Z Expr}{scope:cG}{pos:dH}{it acc:aA}{env:oX}(I:Nat->aB->Prop)
  (turn:∀n s,I n s->aH (aI prog w) A (bC it) (λr s₁=>match r with
   | none=>R (.ok .next) s₁
   | some v=>aH (aI prog w) A (gK bD it v) (λ_ s₂=>aH (aI prog w) A (lT bD env v) (λ_ s₃=>
     aH (aI prog w) A (xN kG true λc r=>if r=true then do let ok <-isTrue c env (bQ c env);aS (ForInStep.yield ok)else aS (ForInStep.yield r)) (λok s₄=>
      if ok=true then aH (aI prog w) A (bQ jW env) (λx s₅=>
       aH (aI prog w) A (call (.builtin "list.append") [acc,x]) (λ_ s₆=>∃m,m<n/\I m s₆) (λ_ _=>False) s₅) (λ_ _=>False) s₄
      else ∃m,m<n/\I m s₄) (λ_ _=>False) s₃) (λ_ _=>False) s₂) (λ_ _=>False) s₁) (λ_ _=>False) s)
  (n:Nat) (h:I n s) :
  bT (aI prog w) A (.compLoop (.ListComp jW [⟨bD,iter,kG,0⟩] scope pos) 0 it acc env) R s:=by
 refine codeAny_loop rfl I (λn s hI=>?_) n h;show aH _ A ((compTurn (.ListComp jW [⟨bD,iter,kG,0⟩] scope pos) 0 it acc env).onRaise (λx=>do noteFrame x env;theTreesLotGoes x)) _ _ s;refine wpAny_noted ?_;rw[compTurn_list];refine ab<|fI<|ab<|jb (turn n s hI) (λr s₁ h₁=>?_) λ_ _ h'=>h'.elim;cases r with
 | none=>exact ah h₁
 | some v=>
  refine ab<|jb h₁ (λ_ s₂ h₂=>?_) λ_ _ h'=>h'.elim;refine ab<|jb h₂ (λ_ s₃ h₃=>ab<|jb h₃ (λok s₄ h₄=>?_) λ_ _ h'=>h'.elim) λ_ _ h'=>h'.elim;cases ok with
  | false=>exact ah ⟨rfl,h₄⟩
  | true=>
   exact ab<|ab<|jb h₄ (λx s₅ h₅=>ab<|jb h₅ (λ_ s₆ h₆=>ah<|ah ⟨rfl,h₆⟩) λ_ _ h'=>h'.elim) λ_ _ h'=>h'.elim
def wI(J:It)(sl:Z (Option Nat))(g:TG)(tt:TT)(te:TE)(σ:L2.St)(H1:Hp)(D:aG)(Q:VK):Prop:=
 ∃W:Nat->Nat->Hp->Prop,(∃m,W 0 m<|upd H1 D<|.lst [])/\∀i m H,W i m H->(J.stop i H/\Q (.ref D) H)\/
  (J.go i H/\∃N:Hp->Prop,(∀H',N H'->∃m',m'<m/\W (i+1) m' H')/\∀x H',J.yld i H x H'->g x (ua sl σ) H' λσ2 H2=>Agree (ua sl σ) σ2/\tt σ2 H2 λb H3=>
   if b=true then te σ2 H3 λy H4=>∃xs,H4 D=some (.lst xs)/\xs.length<aF/\N (upd H4 D<|.lst<|xs++[y])else N H3)
def uQ(wi:TI)(sl:Z (Option Nat))(g:TG)(tt:TT)(te:TE):TE:=λσ H Q=>wi σ H λJ H1=>∀D,H1 D=none->wI J sl g tt te σ H1 D Q
section
variable{X:Cx}{jW bD iter:Expr}{kG:Z Expr}{scope:cG}{pos:dH}
theorem ado{N':Z Str}{sl:Z (Option Nat)}{g:TG}{tt:TT}{te:TE}{aC:Z (aG×Obj)}{s₂:aB}{σ:L2.St}{H2:Hp}{Q:VK}{RR:aA->aG->iF->aB->Prop}{E:aA->aB->Prop}
  {it:aG} {fp:Z aG} {tn:Nat->Heap->Prop} {J:It} (hc:X.calm=true) (eC:scope.kind=.function)
  (oJ:∀y∈scope.names,y.2≠.cell) (bR:∀x∈scope.names,x.2=.free->X.env.scope.names.lookup x.1=some .cell\/X.env.scope.names.lookup x.1=some .free)
  (qK:slOk X.N N' sl scope X.env.scope=true)
  (hg:∀z,PG (ot X N' scope z) bD g) (ht:∀z,PTs (ot X N' scope z) kG tt) (he:∀z,PE (ot X N' scope z) jW te)
  (I2:Inv X aC σ H2 s₂) (T:uO X.prog X.w X.K bD J fp it tn) (lY:tn 0 s₂.heap) (f2:∀b∈fp,mQ X aC H2 b) (hw:∀D,H2 D=none->wI J sl g tt te σ H2 D Q)
  (hR:∀D C H' s',H' C=none->(∃m,s'.heap.Ns C m)->mQ X aC H' C->(∀h',b9 C s'.heap h'->Inv X aC σ H' {s' with heap:=h'})->Inv X aC σ H' s'->Q (.ref D) H'->RR (.ref D) C (.ok .next) s') :
  aH (aI X.prog X.w) X.A (CH []) (λacc s₃=>aH (aI X.prog X.w) X.A (newFunctionEnv scope X.env.globals (sf X.env.cells scope.names []) [] X.env.qual none .none<|some X.env) (λcenv s₄=>
   bT (aI X.prog X.w) X.A (.compStart (.ListComp jW [⟨bD,iter,kG,0⟩] scope pos) 0 (.ref it) acc {cenv with scope:=relabel scope X.env}) (RR acc cenv.locals) s₄) E s₃) E s₂:=by
 have De:∀b∈fp,b<s₂.heap.objs.size:=λb hb=>by obtain⟨o,e,_⟩:=T.obj _ _ lY b hb;exact bb e
 have hD:H2 s₂.heap.objs.size=none:=I2.hok.fresh<|ao _;obtain⟨W,⟨m0,w0⟩,turn⟩:=hw _ hD;refine pZ ?_<|fk _;have I3:=I2.lnew (ys:=[]) (its:=[]) (t':=s₂.toks) .nil<|fk _;refine wpAny_newFunctionEnv oJ (by intro y hy;simp at hy) (λh₁ Jr IZ=>?_) eC;generalize hs3:({s₂ with heap:=s₂.heap.push {cls:=.type "list",data:=.seq ([]:Z aA).toArray}}:aB)=s₃ at *;have C2:s₃.heap=s₂.heap.push {cls:=.type "list",data:=.seq ([]:Z aA).toArray}:=by rw[<-hs3]
 have Bm:s₃.heap.objs.size=s₂.heap.objs.size+1:=by rw[C2,Heap.size_push]
 have yT:∀b o,s₂.heap.get? b=some o->s₃.heap.get? b=some o:=λb o e=>by rw[C2];exact aj _ e
 have wZ:∀b o,s₃.heap.get? b=some o->h₁.get? b=some o:=λb o e=>IZ.extBut b o (cf<|bb e)<|aj _ e;have gD:∀b∈fp,b≠s₂.heap.objs.size:=λb hb=>cf<|De b hb;have f3:∀b∈fp,mQ X aC (upd H2 s₂.heap.objs.size<|.lst []) b:=λb hb=>⟨by rw[p8 (gD b hb)];exact(f2 b hb).1,(f2 b hb).2⟩;have zN:∀b∈fp,b<s₃.heap.objs.size:=λb hb=>by rw[Bm];exact km<|De b hb
 have I4:=aln (tk:=s₃.toks+([]:Z (Str×aA)).length) I3 eC oJ bR qK f3 zN Jr wZ;have cZ:tn 0 h₁:=T.keep _ _ _ lY λb _ o e=>wZ b o<|yT b o e;generalize hz:(⟨sf X.env.cells scope.names [],s₃.heap.objs.size,s₃,upd H2 s₂.heap.objs.size<|.lst [],fp⟩:CZ)=z at I4;have ezC:z.C=s₃.heap.objs.size:=by rw[<-hz]
 have ezx:z.ex=fp:=by rw[<-hz]
 have mZ:∀{H':Hp},(∀b∈fp,H' b=none)->∀b∈fp,mQ (ot X _ scope z) [] H' b:=λhn b hb=>by subst hz;have q:=I4.ok.exf b hb;exact⟨hn b hb,q.1,I4.ok.exfs b hb,.inl hb,q.2,λp hp=>absurd (show p∈([]:Z (aG×Obj))from hp)<|by simp⟩
 have loop:∀s₄:aB,s₄={s₃ with heap:=h₁,toks:=s₃.toks+([]:Z (Str×aA)).length}->
   bT (aI X.prog X.w) X.A (.compLoop (.ListComp jW [⟨bD,iter,kG,0⟩] scope pos) 0 (.ref it) (.ref s₂.heap.objs.size) (ot X N' scope z).env) (RR (.ref s₂.heap.objs.size) s₃.heap.objs.size) s₄:=by
  rintro s₄ rfl;refine ahe (λn s'=>∃i H',Inv (ot X N' scope z) [] (ua sl σ) H' s'/\tn i s'.heap/\(∀b∈fp,H' b=none)/\W i n H') ?_ m0<|nc 0 _ ⟨I4,cZ,λb hb=>(f3 b hb).1,w0⟩;rintro n s5 ⟨i,H5,I5,vC,F1,w5⟩;rcases turn i n H5 w5 with ⟨stop,qn⟩|⟨go,N,hN,step⟩
  .refine thn (T.done (ot X N' scope z) rfl rfl rfl hc i [] s5 _ H5 _ I5 (mZ F1) vC stop) λr s6 ⟨hr,I6⟩=>?_;subst hr;have un:Un (frs X.stack) fp (upd H2 s₂.heap.objs.size<|.lst []) H5 s₃.heap s6.heap:=by subst hz;exact I6.base
   have os6:s6.os=s₃.os:=by subst hz;exact I6.os
   have fC:H5 s₃.heap.objs.size=none:=by subst hz;exact I6.free
   have pN:∀b∈fp,(b∈X.ex\/X.s₀.heap.objs.size<=b)/\b≠X.env.locals/\(∀x c,X.env.cells.lookup x=some c->c≠b)/\∀p∈X.pn++aC,p.1≠b:=λb hb=>⟨(f2 b hb).2.2.2.1,(f2 b hb).2.1,(f2 b hb).2.2.2.2.1,(f2 b hb).2.2.2.2.2⟩;have nC:s₃.heap.get? s₃.heap.objs.size=none:=Heap.get?_none_of_le<|ao _;have ns:∃m,s6.heap.Ns s₃.heap.objs.size m:=by subst hz;obtain⟨m,hn,_⟩:=I6.loc;exact⟨m,hn⟩
   refine hR _ _ H5 s6 fC ns (I3.fpOk (ao _) fC) (λh' sb=>?_) (I3.call' (ch:=fp) os6 un I6.hok I6.bare pN) qn;exact I3.call' (s':={s6 with heap:=h'}) (ch:=fp) os6 (Un.but un nC sb.extBut) (HOk.but I6.hok fC sb.extBut) I6.bare pN
  .refine thn (T.item (ot X N' scope z) rfl rfl rfl hc i [] s5 _ H5 _ I5 (mZ F1) vC go) λr s6 ⟨u,hr,h6⟩=>?_;subst hr;refine thn h6 λ_ s7 ⟨x,H7,I7,r7,y7,Ia,fr7⟩=>?_;have I7':=I7.pinned (mZ fr7)<|T.obj _ _ Ia;refine thn (hg z _ s7 _ H7 x u _ I7' r7<|step x H7 y7) λ_ s8 ⟨σ8,H8,I8,ag,q8⟩=>?_;have again:∀{s9:aB} {H9:Hp},Inv (ot X N' scope z) ([]++En fp s7.heap) σ8 H9 s9->N H9->∃m,m<n/\∃i H',Inv (ot X N' scope z) [] (ua sl σ) H' s9/\tn i s9.heap/\(∀b∈fp,H' b=none)/\W i m H':=λ{s9 H9} I9 n9=>by
    obtain⟨m',hm,w9⟩:=hN H9 n9;refine(oq m' hm (i+1) H9 ⟨(I9.weak ag.1.symm ag.2).unpinned,T.keep _ _ _ Ia λb hb o e=>(I9.pin (b,o)<|dq _<|dq _<|xx hb e).1,λb hb=>?_,w9⟩);obtain⟨o,e,d⟩:=T.obj _ _ Ia b hb;exact(I9.pin (b,o)<|dq _<|dq _<|xx hb e).2.1
   refine thn (ht z _ s8 σ8 H8 _ I8 q8) λok s9 ⟨H9,I9,q9⟩=>?_;cases ok with
   | false=>exact again I9 q9
   | true=>
    refine thn (he z _ s9 σ8 H9 _ I9 q9) λu10 yO ⟨y,H10,I10,r10,xs,hx,IP,CJ⟩=>?_;exact thn (r8 _ yO σ8 H10 (.ref s₂.heap.objs.size) [y] (.ref s₂.heap.objs.size) [u10] (λ_ H'=>N H') I10 rfl (.cons r10 .nil)<|oa _ xs y ⟨rfl,rfl,hx,IP,CJ⟩) λ_ s11 ⟨_,H11,I11,_,n11⟩=>again I11 n11
 have KF:(ot X N' scope z).env=compEnvC scope (sf X.env.cells scope.names []) s₃.heap.objs.size X.env:=by rw[<-hz];rfl
 rw[KF]at loop;exact codeAny_compStart_list (loop _ rfl)<|T.self _ 0 _ _ _ cZ<|loop _ rfl
def au8(N':Z Str)(sl:Z (Option Nat)){wi:TI}{g:TG}{tt:TT}{te:TE}(hc:X.calm=true)(eC:scope.kind=.function)
  (fV:∀x∈scope.names,x.2=.local->scope.names.lookup x.1=some .local)
  (oJ:∀y∈scope.names,y.2≠.cell) (nH:frOk scope X.env.scope=true)
  (qK:slOk X.N N' sl scope X.env.scope=true) (hi:PI X bD iter wi)
  (hg:∀z,PG (ot X N' scope z) bD g) (ht:∀z,PTs (ot X N' scope z) kG tt) (he:∀z,PE (ot X N' scope z) jW te)
  (hs:∀x,bZ iter X.env x=aS x:=by intro _;rfl) :
  PE X (.ListComp jW [⟨bD,iter,kG,0⟩] scope pos) (uQ wi sl g tt te):=by
 have bR:=frOk.of nH;intro aC s σ H Q I h;rw[eval_ListComp];have uJ:oS scope X.env=aS (sf X.env.cells scope.names []):=zo λx hx hk=>I.ok.has x.1<|bR x hx hk;refine qA (use:=none) rfl hs uJ eC fV<|thn (hi aC s σ H _ I h) λxv s₁ h₁=>thn h₁ λFt s₂ h₂=>?_;obtain⟨it,fp,tn,J,H2,e,I2,T,lY,f2,hw⟩:=h₂;subst e;refine ado (RR:=λacc C=>compPost (aI X.prog X.w) X.A X.xe none (EP X aC σ Q) acc C) hc eC oJ bR qK hg ht he I2 T lY f2 hw ?_;intro D C H' s' fC ns _ hI _ q;obtain⟨m,hn⟩:=ns;exact⟨m,hn,λh' sb=>(nc (.ref D) H' ⟨hI h' sb,rfl,q⟩)⟩
def au6(N':Z Str)(sl:Z (Option Nat)){wi:TI}{g:TG}{tt:TT}{te:TE}{i:Nat}{y:Str}{py rE:dH}(hN:X.N.Nodup)(IR:X.N[i]?=some y)(hx:Loc X.env.scope y)
  (IY:iK (.ListComp jW [⟨bD,iter,kG,0⟩] scope pos) (some<|.Name y py) rE.line X.env=aS true) (hc:X.calm=true) (eC:scope.kind=.function)
  (fV:∀x∈scope.names,x.2=.local->scope.names.lookup x.1=some .local)
  (oJ:∀y∈scope.names,y.2≠.cell) (nH:frOk scope X.env.scope=true)
  (qK:slOk X.N N' sl scope X.env.scope=true) (hi:PI X bD iter wi)
  (hg:∀z,PG (ot X N' scope z) bD g) (ht:∀z,PTs (ot X N' scope z) kG tt) (he:∀z,PE (ot X N' scope z) jW te)
  (hs:∀x,bZ iter X.env x=aS x:=by intro _;rfl) (hf:X.fn y=true\/X.env.scope.names.lookup y=some .local:=by first|exact .inl rfl|exact .inr rfl|assumption) :
  PS X (.Assign [.Name y py] (.ListComp jW [⟨bD,iter,kG,0⟩] scope pos) rE) (Ea (uQ wi sl g tt te)<|uy i):=by
 have bR:=frOk.of nH;intro aC s σ H D I h;rw[exec_Assign_Name_used _ _ _ _ IY];refine ab<|fI<|ab ?_;show aH _ _ (do let _ <-comprehension (.ListComp jW [⟨bD,iter,kG,0⟩] scope pos) scope X.env _ (CH []) false (bQ iter X.env) (some<|lT (.Name y py) X.env)) _ _ s;have uJ:oS scope X.env=aS (sf X.env.cells scope.names []):=zo λx hx hk=>I.ok.has x.1<|bR x hx hk;refine ab (jb (qA (use:=some<|lT (.Name y py) X.env) (Q:=λ_ s'=>SP X aC D .next s') rfl hs uJ eC fV
  (thn (hi aC s σ H _ I h) λxv s₁ h₁=>thn h₁ λFt s₂ h₂=>?_)) (λ_ s' hq=>ah<|ah hq) λ_ _ e=>e)
 obtain⟨it,fp,tn,J,H2,e,I2,T,lY,f2,hw⟩:=h₂;subst e;refine ado (RR:=λacc C=>compPost (aI X.prog X.w) X.A X.xe (some<|lT (.Name y py) X.env) (λ_ s'=>SP X aC D .next s') acc C) hc eC oJ bR qK hg ht he I2 T lY f2 hw ?_;intro E C H' s' fC ns fp hI I' q;obtain⟨m,hn⟩:=ns;show aH _ _ (lT (.Name y py) X.env<|.ref E) _ _ _;refine Ch<|agw I' hN IR hx (v:=.ref E) rfl (λs2 I2 ⟨a,sb,ha⟩=>?_) hf;have hCa:C≠a:=by
  rcases ha with ha|ha
  .rw[ha];exact fp.2.1
  .exact λz=>fp.2.2.2.2.1 _ _ ha z.symm
 exact⟨m,hn.sameBut sb hCa,λh3 wT=>(nc _ H' ⟨I2.turned (t':=s2.toks) (λb o hb e=>(wT.2 b hb).trans e) fp.1 fp.2.1 fp.2.2.2.1 fp.2.2.2.2.1 fp.2.2.2.2.2,q⟩)⟩
end
end L3
namespace L3
structure Ord(lt:Nat->Nat->Bool):Prop where
 asy:∀a b,lt a b=true->lt b a=false
 tr:∀a b c,lt b a=false->lt c b=false->lt c a=false
noncomputable def As(lt:Nat->Nat->Bool)(x:Nat):Z Nat->Z Nat
 | []=>[x]
 | y::l=>if lt y x=true then y::As lt x l else x::y::l
noncomputable def Gi(lt:Nat->Nat->Bool):Z Nat->Z Nat
 | []=>[]
 | x::l=>As lt x<|Gi lt l
noncomputable def srt(lt:Nat->Nat->Bool)(n:Nat):Z Nat:=Gi lt<|cj n
theorem MP(lt:Nat->Nat->Bool)(x:Nat):∀l,(As lt x l).Perm (x::l)
 | []=>j7 _
 | y::l=>by
  unfold As;split
  .exact((MP lt x l).cons y).trans (List.Perm.swap x y l)
  .exact j7 _
theorem afu(lt:Nat->Nat->Bool):∀l,(Gi lt l).Perm l
 | []=>j7 _
 | x::l=>(MP lt x _).trans ((afu lt l).cons x)
def Mt(lt:Nat->Nat->Bool)(n:Nat):(srt lt n).Perm (cj n):=afu lt _
def MV(lt:Nat->Nat->Bool)(n:Nat):(srt lt n).length=n:=by rw[(Mt lt n).length_eq,fu]
theorem Ord.irr{lt:Nat->Nat->Bool}(o:Ord lt)(a:Nat):lt a a=false:=by
 cases h:lt a a with
 | false=>rfl
 | true=>exact h.symm.trans<|o.asy a a h
theorem ana{lt:Nat->Nat->Bool}(o:Ord lt)(x:Nat):∀{l:Z Nat},l.Pairwise (λa b=>lt b a=false)->(As lt x l).Pairwise (λa b=>lt b a=false)
 | [],_=>by simp[As]
 | y::l,h=>by
  have h':=gu.mp h;unfold As;split
  .rename_i hy
   refine gu.mpr ⟨λz hz=>?_,ana o x h'.2⟩;rcases a6.mp ((MP lt x l).mem_iff.mp hz)with rfl|hz
   .exact o.asy _ _ hy
   .exact h'.1 z hz
  .rename_i hy
   have uB:lt y x=false:=by simpa using hy
   refine gu.mpr ⟨λz hz=>?_,h⟩;rcases a6.mp hz with rfl|hz
   .exact uB
   .exact o.tr _ _ _ uB<|h'.1 z hz
theorem ao3{lt:Nat->Nat->Bool}(o:Ord lt):∀l,(Gi lt l).Pairwise (λa b=>lt b a=false)
 | []=>List.Pairwise.nil
 | x::l=>ana o x<|ao3 o l
def ash{lt:Nat->Nat->Bool}(o:Ord lt)(n:Nat){i j:Nat}(h1:i<=j)(h2:j<n):lt ((srt lt n).getD j 0) ((srt lt n).getD i 0)=false:=by
 have hl:=MV lt n;have hj:j<(srt lt n).length:=by lia
 have hi:i<(srt lt n).length:=by lia
 rw[dz,dz,af hj,af hi];show lt (srt lt n)[j] (srt lt n)[i]=false;by_cases e:i=j
 .subst e;exact o.irr _
 .exact gt.mp (ao3 o<|cj n) i j hi hj<|by lia
end L3
namespace L3
open PySem PySem.Spec PyProof.Rows L2
mutual
def Rep(H:Hp):U->V->Prop
 | .none,v=>v=.non
 | .bool b,v=>v=.bl b
 | .int i,v=>v=.int i
 | .str x,v=>v=.str x/\PyData.strOk x=true
 | .tuple ds,v=>∃a xs,v=.ref a/\H a=some (.tup xs)/\RepAll H ds xs
 | .list ds,v=>∃a xs,v=.ref a/\H a=some (.lst xs)/\RepAll H ds xs
 | .dict _,_=>False
def RepAll(H:Hp):Z U->Z V->Prop
 | [],xs=>xs=[]
 | d::ds,xs=>∃x r,xs=x::r/\Rep H d x/\RepAll H ds r
end
mutual
noncomputable def imm:U->Bool
 | .none=>true
 | .bool _=>true
 | .int _=>true
 | .str _=>true
 | .tuple ds=>rf ds
 | .list _=>false
 | .dict _=>false
noncomputable def rf:Z U->Bool
 | []=>true
 | d::ds=>imm d&&rf ds
end
def Tk(H H':Hp):Prop:=∀b xs,H b=some (.tup xs)->H' b=some (.tup xs)
def Tk.of_same{H H':Hp}(h:Same H H'):Tk H H':=λb xs q=>h b _ q
theorem Tk.lst{H:Hp}{p:aG}{xs:Z V}{o:HO}(h:H p=some (.lst xs)):Tk H (upd H p o):=λb ys q=>by rw[p8 (Ld q h<|by intro z;cases z)];exact q
mutual
theorem Rep.tk{H H':Hp}(t:Tk H H'):∀{d:U} {v:V},imm d=true->Rep H d v->Rep H' d v
 | .none,_,_,h=>h
 | .bool _,_,_,h=>h
 | .int _,_,_,h=>h
 | .str _,_,_,h=>h
 | .tuple ds,v,hi,h=>by obtain⟨a,xs,e,ha,r⟩:=h;exact(nc a xs ⟨e,t _ _ ha,RepAll.tk t hi r⟩)
 | .list _,_,hi,_=>absurd hi am
 | .dict _,_,hi,_=>absurd hi am
theorem RepAll.tk{H H':Hp}(t:Tk H H'):∀{ds:Z U} {xs:Z V},rf ds=true->RepAll H ds xs->RepAll H' ds xs
 | [],_,_,h=>h
 | d::ds,xs,hi,h=>by obtain⟨x,r,e,h1,h2⟩:=h;have fM:(imm d&&rf ds)=true:=hi;rw[dw]at fM;exact(nc x r ⟨e,Rep.tk t fM.1 h1,RepAll.tk t fM.2 h2⟩)
end
mutual
theorem Rep.same{H H':Hp}(t:Same H H'):∀{d:U} {v:V},Rep H d v->Rep H' d v
 | .none,_,h=>h
 | .bool _,_,h=>h
 | .int _,_,h=>h
 | .str _,_,h=>h
 | .tuple ds,v,h=>by obtain⟨a,xs,e,ha,r⟩:=h;exact(nc a xs ⟨e,t _ _ ha,RepAll.same t r⟩)
 | .list ds,v,h=>by obtain⟨a,xs,e,ha,r⟩:=h;exact(nc a xs ⟨e,t _ _ ha,RepAll.same t r⟩)
 | .dict _,_,h=>h
theorem RepAll.same{H H':Hp}(t:Same H H'):∀{ds:Z U} {xs:Z V},RepAll H ds xs->RepAll H' ds xs
 | [],_,h=>h
 | d::ds,xs,h=>by obtain⟨x,r,e,h1,h2⟩:=h;exact(nc x r ⟨e,Rep.same t h1,RepAll.same t h2⟩)
end
theorem RepAll.length{H:Hp}:∀{ds:Z U} {xs:Z V},RepAll H ds xs->xs.length=ds.length
 | [],xs,h=>by have e:xs=[]:=h;rw[e];rfl
 | d::ds,xs,h=>by obtain⟨x,r,e,_,h2⟩:=h;rw[e,bx,bx,RepAll.length h2]
theorem RepAll.get{H:Hp}:∀{ds:Z U} {xs:Z V} {i:Nat} {d:U},RepAll H ds xs->ds[i]?=some d->∃x,xs[i]?=some x/\Rep H d x
 | [],_,_,_,_,e=>by simp at e
 | d::ds,xs,0,d',h,e=>by obtain⟨x,r,e1,h1,_⟩:=h;subst e1;simp at e;subst e;exact⟨x,rfl,h1⟩
 | d::ds,xs,i+1,d',h,e=>by obtain⟨x,r,e1,_,h2⟩:=h;subst e1;obtain⟨y,h3,h4⟩:=RepAll.get (i:=i) h2 (by simpa using e);exact⟨y,by simpa using h3,h4⟩
theorem RepAll.at{H:Hp}{ds:Z U}{xs:Z V}{i:Nat}{x:V}(h:RepAll H ds xs)(e:xs[i]?=some x):∃d,ds[i]?=some d/\Rep H d x:=by
 have hi:i<xs.length:=(ak.mp e).1;have fM:i<ds.length:=by rw[<-h.length];exact hi
 obtain⟨y,h1,h2⟩:=h.get<|af fM;rw[e]at h1;cases h1;exact⟨_,af fM,h2⟩
theorem RepAll.append{H:Hp}:∀{ds es:Z U} {xs ys:Z V},RepAll H ds xs->RepAll H es ys->RepAll H (ds++es) (xs++ys)
 | [],es,xs,ys,h,h'=>by have e:xs=[]:=h;rw[e];exact h'
 | d::ds,es,xs,ys,h,h'=>by obtain⟨x,r,e,h1,h2⟩:=h;subst e;exact(nc x (r++ys) ⟨rfl,h1,RepAll.append h2 h'⟩)
def RepAll.snoc{H:Hp}{ds:Z U}{d:U}{xs:Z V}{x:V}(h:RepAll H ds xs)(h':Rep H d x):RepAll H (ds++[d]) (xs++[x]):=h.append<|nc x ([]) ⟨rfl,h',rfl⟩
mutual
theorem Rep.lay{H:Hp}:∀{d:U} {v:V},Rep H d v->d.canLay0=true
 | .none,_,_=>rfl
 | .bool _,_,_=>rfl
 | .int _,_,_=>rfl
 | .str _,_,h=>h.2
 | .tuple ds,_,h=>by obtain⟨_,_,_,_,r⟩:=h;exact RepAll.lay r
 | .list ds,_,h=>by obtain⟨_,_,_,_,r⟩:=h;exact RepAll.lay r
 | .dict _,_,h=>h.elim
theorem RepAll.lay{H:Hp}:∀{ds:Z U} {xs:Z V},RepAll H ds xs->iu ds=true
 | [],_,_=>rfl
 | d::ds,_,h=>by obtain⟨x,r,e,h1,h2⟩:=h;show(d.canLay0&&iu ds)=true;rw[Rep.lay h1,RepAll.lay h2];rfl
end
section
variable{X:Cx}{aC:Z (aG×Obj)}{σ:L2.St}{H:Hp}{s:aB}
mutual
theorem Rep.reads(I:Inv X aC σ H s):∀{d:U} {v:V} {u:aA},Rep H d v->RelV v u->∃as,Reads s.heap u d as
 | .none,v,u,h,r=>by cases (show v=.non from h);cases (show u=aA.none from r);exact⟨_,.none⟩
 | .bool b,v,u,h,r=>by cases (show v=.bl b from h);cases (show u=aA.bool b from r);exact⟨_,.bool b⟩
 | .int i,v,u,h,r=>by cases (show v=.int i from h);obtain⟨t,e⟩:=(show ∃t,u=aA.int i t from r);cases e;exact⟨_,.int i t⟩
 | .str x,v,u,h,r=>by cases (show v=.str x from h.1);obtain⟨t,e⟩:=(show ∃t,u=aA.str x t from r);cases e;exact⟨_,.str x t⟩
 | .tuple ds,v,u,h,r=>by obtain⟨a,xs,e,ha,q⟩:=h;subst e;cases (show u=aA.ref a from r);obtain⟨its,rv,⟨o,e1,e2,n,e3⟩,_⟩:=I.tuple<|SqT.of (K:=X.K) ha;obtain⟨as,z⟩:=RepAll.reads I q rv;exact⟨as,.tuple e1 e2 e3 z⟩
 | .list ds,v,u,h,r=>by obtain⟨a,xs,e,ha,q⟩:=h;subst e;cases (show u=aA.ref a from r);obtain⟨its,rv,⟨o,n,e1,e2,_,e3⟩,_⟩:=I.list<|SqL.of (K:=X.K) ha;obtain⟨as,z⟩:=RepAll.reads I q rv;exact⟨_,.list e1 e2 e3 z⟩
 | .dict _,_,_,h,_=>h.elim
theorem RepAll.reads(I:Inv X aC σ H s):∀{ds:Z U} {xs:Z V} {us:Z aA},RepAll H ds xs->Vals xs us->∃as,ReadsAll s.heap us ds as
 | [],xs,us,h,r=>by cases (show xs=[]from h);cases r;exact⟨_,.nil⟩
 | d::ds,xs,us,h,r=>by
  obtain⟨x,t,e,h1,h2⟩:=h;subst e;cases r with
  | cons r1 r2=>
   obtain⟨as,z1⟩:=Rep.reads I h1 r1;obtain⟨bs,z2⟩:=RepAll.reads I h2 r2;exact⟨_,.cons z1 z2⟩
end
end
def a2x(neg:Bool):R2:=λx y H Q=>∃dx dy,Rep H dx x/\Rep H dy y/\dx.depth<=60/\Q (.bl (if neg then !bn dx dy else bn dx dy)) H
section
variable{X:Cx}
def Lr(hu:X.A.units+64<aV):OpR X (aY .Eq) (a2x false):=by intro aC s σ H x y v u Q I rx ry h;obtain⟨dx,dy,hx,hy,hd,q⟩:=h;obtain⟨as,r1⟩:=hx.reads I rx;obtain⟨bs,r2⟩:=hy.reads I ry;exact SeqAt.compareEq_reads r1 r2 hx.lay hy.lay (by have:=jk dx.depth dy.depth;lia)<|nc (.bl _) H ⟨I,rfl,q⟩
def Ls(hu:X.A.units+64<aV):OpR X (aY .NotEq) (a2x true):=by intro aC s σ H x y v u Q I rx ry h;obtain⟨dx,dy,hx,hy,hd,q⟩:=h;obtain⟨as,r1⟩:=hx.reads I rx;obtain⟨bs,r2⟩:=hy.reads I ry;exact SeqAt.compareNe_reads r1 r2 hx.lay hy.lay (by have:=jk dx.depth dy.depth;lia)<|nc (.bl _) H ⟨I,rfl,q⟩
def a21(neg:Bool):R2:=λx y H Q=>∃d p xs ds,Rep H d x/\y=.ref p/\(H p=some (.lst xs)\/H p=some (.tup xs))/\RepAll H ds xs/\d.depth<=60/\
 Q (.bl (if neg then !(ds.any λe=>bn e d)else ds.any λe=>bn e d)) H
def as8(hu:X.A.units+64<aV):OpR X (aY .In) (a21 false):=by
 intro aC s σ H x y v u Q I rx ry h;obtain⟨d,p,xs,ds,hx,rfl,hp,cS,hd,q⟩:=h;cases ry;obtain⟨bs,r2⟩:=hx.reads I rx;have room:X.A.units+1+kF (bj ds) d.depth<aV:=by have:=Nat.min_le_right (bj ds) d.depth;lia
 rcases hp with hp|hp
 .obtain⟨as,r1⟩:=Rep.reads I (d:=.list ds) (v:=.ref p) (u:=.ref p) (nc p xs ⟨rfl,hp,cS⟩) rfl;exact SeqAt.in_list_reads r1 r2 cS.lay hx.lay room<|nc (.bl _) H ⟨I,rfl,q⟩
 .obtain⟨as,r1⟩:=Rep.reads I (d:=.tuple ds) (v:=.ref p) (u:=.ref p) (nc p xs ⟨rfl,hp,cS⟩) rfl;exact SeqAt.in_tuple_reads r1 r2 cS.lay hx.lay room<|nc (.bl _) H ⟨I,rfl,q⟩
def zn(hu:X.A.units+64<aV):OpR X (aY .NotIn) (a21 true):=by
 intro aC s σ H x y v u Q I rx ry h;obtain⟨d,p,xs,ds,hx,rfl,hp,cS,hd,q⟩:=h;cases ry;obtain⟨bs,r2⟩:=hx.reads I rx;have room:X.A.units+1+kF (bj ds) d.depth<aV:=by have:=Nat.min_le_right (bj ds) d.depth;lia
 rcases hp with hp|hp
 .obtain⟨as,r1⟩:=Rep.reads I (d:=.list ds) (v:=.ref p) (u:=.ref p) (nc p xs ⟨rfl,hp,cS⟩) rfl;exact SeqAt.notIn_list_reads r1 r2 cS.lay hx.lay room<|nc (.bl _) H ⟨I,rfl,q⟩
 .obtain⟨as,r1⟩:=Rep.reads I (d:=.tuple ds) (v:=.ref p) (u:=.ref p) (nc p xs ⟨rfl,hp,cS⟩) rfl;exact SeqAt.notIn_tuple_reads r1 r2 cS.lay hx.lay room<|nc (.bl _) H ⟨I,rfl,q⟩
def qo:um X (.builtin "isinstance") (λxs H Q=>∃x T t b,xs=[x,.ty T]/\oV X.K H x t/\PySem.W.kitOne X.K t (.type T)=some b/\Q (.bl b) H):=by intro aC s σ H xs us Q I r h;obtain⟨x,T,t,b,rfl,ty,e,q⟩:=h;obtain⟨u,w',rfl,r1,r2⟩:=axc r;cases (show w'=aA.type T from r2);exact am5 I r1 ty e λtk=>(nc (.bl b) H ⟨I.tok _,rfl,q⟩)
end
noncomputable def KW:U->U->Bool
 | .int a,.int b=>decide (a<b)
 | .str a,.str b=>decide (a.cps.toList<b.cps.toList)
 | _,_=>false
noncomputable def rq:Z U->Z U->Bool
 | [],[]=>false
 | [],_::_=>true
 | _::_,[]=>false
 | x::xs,y::ys=>if bn x y=true then rq xs ys else KW x y
def Row:Z Bool->Z U->Prop
 | [],ds=>ds=[]
 | true::ks,ds=>∃i r,ds=.int i::r/\Row ks r
 | false::ks,ds=>∃x r,ds=.str x::r/\Row ks r
noncomputable def v8:U->Z U
 | .tuple ds=>ds
 | _=>[]
noncomputable def uP(ds:Z U)(i j:Nat):Bool:=rq (v8<|ds.getD i .none)<|v8<|ds.getD j .none
noncomputable def sy(ds:Z U):Z U:=(srt (uP ds) ds.length).map λi=>ds.getD i .none
section
variable{prog:aM}{w:aN}{A:Around}{E:aA->aB->Prop}{s:aB}{Q:Bool->aB->Prop}
theorem Mn:∀{ks:Z Bool} {xs ys:Z U} {us vs:Z aA} {as bs:Z aG} {i:Nat},Row ks xs->Row ks ys->ReadsAll s.heap us xs as->ReadsAll s.heap vs ys bs->Q (rq xs ys) s->
  PySem.W.KatLex prog w A true false Q (us.zip vs) i s
 | [],xs,ys,us,vs,as,bs,i,h1,h2,r1,r2,q=>by cases (show xs=[]from h1);cases (show ys=[]from h2);cases r1;cases r2;exact q
 | true::ks,xs,ys,us,vs,as,bs,i,h1,h2,r1,r2,q=>by
  obtain⟨a,xr,rfl,h1⟩:=h1;obtain⟨b,yr,rfl,h2⟩:=h2;cases r1 with
  | cons ra r1=>
   cases r2 with
   | cons rb r2=>
    cases ra with
    | int _ t=>
     cases rb with
     | int _ u=>
      rw[lw];refine PySem.W.kat_cons<|SeqAt.EqAt.int_int a t b u prog w _ _ ?_;have q':Q (if bn (.int a) (.int b)=true then rq xr yr else KW (.int a) (.int b)) s:=q;have e:bn (.int a) (.int b)=(a==b):=rfl;rw[e]at q';cases hb:(a==b)with
      | true=>rw[hb,if_pos rfl]at q';exact PySem.W.kat_yes (Mn h1 h2 r1 r2 q')
      | false=>
       rw[hb,if_neg am]at q';refine PySem.W.kat_no ?_;cases hi:(i==0)with
       | true=>exact oneLt_int q'
       | false=>exact PySem.W.kat_one _ _ (lt_int q')
 | false::ks,xs,ys,us,vs,as,bs,i,h1,h2,r1,r2,q=>by
  obtain⟨a,xr,rfl,h1⟩:=h1;obtain⟨b,yr,rfl,h2⟩:=h2;cases r1 with
  | cons ra r1=>
   cases r2 with
   | cons rb r2=>
    cases ra with
    | str _ t=>
     cases rb with
     | str _ u=>
      rw[lw];refine PySem.W.kat_cons<|SeqAt.EqAt.str_str a t b u prog w _ _ ?_;have q':Q (if bn (.str a) (.str b)=true then rq xr yr else KW (.str a) (.str b)) s:=q;have e:bn (.str a) (.str b)=(a==b):=rfl;rw[e]at q';cases hb:(a==b)with
      | true=>rw[hb,if_pos rfl]at q';exact PySem.W.kat_yes (Mn h1 h2 r1 r2 q')
      | false=>
       rw[hb,if_neg am]at q';refine PySem.W.kat_no ?_;cases hi:(i==0)with
       | true=>exact oneLt_str q'
       | false=>exact PySem.W.kat_one _ _<|PyProof.Rows.lt_str q'
end
theorem Row.len{ks:Z Bool}:∀{ds:Z U},Row ks ds->ds.length=ks.length:=by
 induction ks with
 | nil=>intro ds h;cases (show ds=[]from h);rfl
 | cons k ks ih=>
  intro ds h;cases k with
  | true=>obtain⟨i,r,rfl,h⟩:=h;rw[bx,bx,ih h]
  | false=>obtain⟨i,r,rfl,h⟩:=h;rw[bx,bx,ih h]
def Rows(ks:Z Bool)(ds:Z U):Prop:=∀d∈ds,∃r,d=.tuple r/\Row (true::ks) r
section
variable{X:Cx}
theorem atu(I:Inv X aC σ H s){ks:Z Bool}{d:U}{v:V}{u:aA}(h:Rep H d v)(r:RelV v u){row:Z U}(e:d=.tuple row)(hr:Row (true::ks) row) :
  ∃a o vs n as i t,u=.ref a/\s.heap.get? a=some o/\o.cls=.type "tuple"/\o.data=.seq vs n/\ReadsAll s.heap vs.toList row as/\vs[0]?=some (.int i t):=by
 subst e;obtain⟨as,z⟩:=h.reads I r;cases z with
 | @tuple a o vs n _ _ e1 e2 e3 z=>
  obtain⟨i,rr,rfl,_⟩:=hr;have z':=z;generalize hv:vs.toList=vl at z;cases z with
  | cons ra rb=>
   cases ra with
   | int _ t=>
    refine(ni a o vs n _<|nc i t ⟨rfl,e1,e2,e3,z',?_⟩);rw[<-bi,hv];rfl
theorem aka(I:Inv X aC σ H s){ks:Z Bool}:∀{ds:Z U} {xs:Z V} {us:Z aA},RepAll H ds xs->Vals xs us->Rows ks ds->∃fs:Z aA,kn s.heap us fs/\fs.length=ds.length/\∀v∈fs,∃i t,v=aA.int i t
 | [],xs,us,h,r,_=>by cases (show xs=[]from h);cases r;exact⟨[],trivial,rfl,λv hv=>by cases hv⟩
 | d::ds,xs,us,h,r,hr=>by
  obtain⟨x,t,e,h1,h2⟩:=h;subst e;cases r with
  | cons r1 r2=>
   obtain⟨row,e,vL⟩:=hr d aq;obtain⟨a,o,vs,n,as,i,tk,rfl,e1,e2,e3,_,e4⟩:=atu I h1 r1 e vL;obtain⟨fs,k1,k2,k3⟩:=aka I h2 r2 λd hd=>hr d<|ar _ hd;refine⟨.int i tk::fs,kn.cons e1 e2 e3 e4 k1,by rw[bx,bx,k2],λv hv=>?_⟩;rcases a6.mp hv with rfl|hv
   .exact(nc i tk rfl)
   .exact k3 v hv
theorem KatTups.keeps{h h':Heap}(k:∀b o,h.get? b=some o->h'.get? b=some o):∀{vs fs:Z aA},kn h vs fs->kn h' vs fs
 | [],[],_=>trivial
 | v::vs,f::fs,x=>by obtain⟨⟨a,o,xs,n,e,e1,e2⟩,r⟩:=x;exact⟨(ny a o xs n ⟨e,k _ _ e1,e2⟩),KatTups.keeps k r⟩
 | [],_::_,x=>x.elim
 | _::_,[],x=>x.elim
end
end L3
namespace L3
open PySem PySem.Spec PyProof.Rows
def an7(a v:aA):lU "max" ⟨[a],[(bm "default",v)]⟩:=by unfold lU;kernel_rfl
section
variable{prog:aM}{w:aN}{A:Around}{E:aA->aB->Prop}{s:aB}
def am2{l:aG}{vs:Z aA}{ns:Z Int}{Q:aA->aB->Prop}(hh:A.handled=none)(hl:s.heap.IsList l vs.toArray)(hi:gH vs ns)(gD:0<ns.length)
  (h:∀h' M (t:tU) tk,(∀b o,s.heap.get? b=some o->h'.get? b=some o)->M∈ns->(∀a,a∈ns->M<=a)->Q (.int M t) {s with heap:=h',toks:=tk}) :
  aH (aI prog w) A (call (.builtin "min") [.ref l]) Q E s:=by
 obtain⟨xs,e⟩:=hi.allInts.items;have oI:ns=xs.toList.map (·.1):=by rw[<-hi.numsOf,<-nums_intItems,<-e]
 have hsz:0<xs.size:=by have h3:=gD;rw[oI,ae,a9]at h3;exact h3
 rw[e]at hl;refine min_intList hh hl hsz λv h' tk hv hk=>?_;obtain⟨t,rfl⟩:=xA hv;obtain⟨h1,h2⟩:=argBest_lt (numAt xs)<|xs.size-1;refine h _ _ t tk hk ?_ λa ha=>?_
 .rw[oI,wY];exact getD_mem<|by rw[ae,a9];omega
 .rw[oI]at ha;obtain⟨j,hj,rfl⟩:=mem_getD ha;rw[ae,a9]at hj;rw[<-wY];exact h2 j<|by omega
end
end L3
namespace L3
open PySem PySem.Spec PyProof.Rows L2
noncomputable def o8:Expr->Bool
 | .Starred _ _=>false
 | _=>true
def qa{e:Expr}{es:Z Expr}{env:oX}(h:o8 e=true):aU (e::es) env=(false,bQ e env)::aU es env:=by cases e<;>first|rfl|exact absurd h am
theorem vz{pos:dH}{env:oX}:∀{es:Z Expr},es.all o8=true->(cY pos<|aU es env).any (·.1)=false
 | [],_=>rfl
 | e::es,h=>by rw[List.all_cons,dw]at h;rw[qa h.1];show(false||(cY pos<|aU es env).any (·.1))=false;rw[vz h.2];rfl
def my{X:Cx}{e:Expr}{es:Z Expr}{te:TE}{t:TA}(ha:PE X e te)(hr:PA X es t)(h:o8 e=true:=by rfl):PA X (e::es) (vn te t):=avg ha hr<|qa h
def a1u{X:Cx}{x:Str}{p pos:dH}{e:Expr}{es:Z Expr}{t:TA}{id:String}{r:Z V->Hp->VK->Prop}(hc:um X (.builtin id) r)(hg:Gl X x)(hm:X.mg x=none)(hv:bJ x=some (.builtin id))(ha:PA X (e::es) t)
  (hn:x≠"__name__":=by decide) (mL:(x==("__debug__" : Str))=false:=by decide) (h1:o8 e=true:=by rfl) (h2:es.all o8=true:=by rfl):PE X (.Call (.Name x p) (e::es) [] pos) (tCB r t):=
 ar5 hc hg hm hv ha hn mL (qa h1) (vz h2)
def ayq{X:Cx}{x:Str}{p pos:dH}{e:Expr}{es:Z Expr}{t:TA}{T:String}{r:Z V->Hp->VK->Prop}(hc:um X (.type T) r)(hg:Gl X x)(hm:X.mg x=none)(hv:bJ x=some (.type T))(ha:PA X (e::es) t)
  (hn:x≠"__name__":=by decide) (mL:(x==("__debug__" : Str))=false:=by decide) (h1:o8 e=true:=by rfl) (h2:es.all o8=true:=by rfl):PE X (.Call (.Name x p) (e::es) [] pos) (tCB r t):=
 aol hc hg hm hv ha hn mL (qa h1) (vz h2)
def a1c{X:Cx}{tg a:Expr}{ta:TA}{p pos:dH}(hg:Gl X "range")(hm:X.mg "range" = none)(ha:PA X [a] ta)(h:o8 a=true:=by rfl):PI X tg (.Call (.Name "range" p) [a] [] pos) (Lb ta):=
 apa hg hm ha (qa h)
def Fn(P:aM)(w:aN)(K:aw)(mg:Str->Option aA)(base:Heap)(x:Str)(k:Nat)(ps:Z Str)(sp:Sp):Prop:=
 ∃f fd,rn P w K mg base CX0 k f fd ps sp/\mg x=some (.ref f)/\lm K (.ref f)=true/\Binds K fd ps []
section
variable{X:Cx}{k j:Nat}{ps:Z Str}{sp:Sp}{x:Str}{p pos rW:dH}{e e2:Expr}{es:Z Expr}{t tk:TA}{te:TE}
def a11(F:Fn X.prog X.w X.K X.mg X.base x k ps sp)(hr:Room j X.A)(hk:k<=j)(hg:Gl X x)
  (ha:PA X (e::es) t) (mL:(x==("__debug__" : Str))=false:=by decide) (h1:o8 e=true:=by rfl) (h2:es.all o8=true:=by rfl) :
  PE X (.Call (.Name x p) (e::es) [] pos) (K8 sp [] E0 t):=by
 obtain⟨f,fd,F,m,kp,b⟩:=F;exact aut F (hr.mono hk) hg m kp b .nil ayr ha mL (qa h1)<|vz h2
def a3g:Z V->Hp->VK->Prop:=λxs H Q=>∃q,∃ns:Z Int,xs=[.ref q]/\H q=some (.lst<|ns.map V.int)/\0<ns.length/\∀M,M∈ns->(∀a∈ns,M<=a)->Q (.int M) H
def afv(hc:X.calm=true):um X (.builtin "min") a3g:=by intro aC s σ H xs us Q I r h;obtain⟨q,ns,rfl,hq,hn,h⟩:=h;obtain⟨u,rfl,r1⟩:=v9 r;cases (show u=aA.ref q from r1);obtain⟨its,rv,pl,hz⟩:=I.list<|SqL.of (K:=X.K) hq;exact am2 (I.ok.hd hc) pl.isList (ad7 rv) hn λh' M t tk k h1 h2=>(nc (.int M) H ⟨I.kept k,⟨_,rfl⟩,h M h1 h2⟩)
end
def Mm{X:Cx}{N:Z Str}{scope:cG}{z:CZ}{es:Z Expr}{k:Nat}{pos:dH}{t:TGs}{n:Nat}(hc:X.calm=true)(h:PGs (ot X N scope z) es t)
  (hn:(cF es (ot X N scope z).env).length=n:=by rfl) (dY:(cF es (ot X N scope z).env).findIdx? (·.1)=none:=by rfl):PG (ot X N scope z) (.Tuple es k pos) (Ap X.K n t):=
 Eo (X:=ot X N scope z) hc h hn dY
section
variable{X:Cx}{N:Z Str}{scope:cG}{z:CZ}
def EM:IxR (ot X N scope z) (Ed X.K):=wo (X:=ot X N scope z)
def ara:IxR (ot X N scope z) (Nd X.K):=EI (X:=ot X N scope z)
def afl:um (ot X N scope z) (.builtin "len") (λxs H Q=>∃p ys,xs=[.ref p]/\(SqL X.K H p ys\/SqT X.K H p ys)/\Q (.int ys.length) H):=o7 (X:=ot X N scope z)
def aa4:um (ot X N scope z) (.builtin "isinstance") (λxs H Q=>∃x T t b,xs=[x,.ty T]/\oV X.K H x t/\PySem.W.kitOne X.K t (.type T)=some b/\Q (.bl b) H):=qo (X:=ot X N scope z)
end
section
variable{K:aw}{a D:aG}{xs:Z V}{sl:Z (Option Nat)}{g:TG}{tt:TT}{te:TE}{σ:L2.St}{H1:Hp}{Q:VK}
def Nx(D:aG)(i:Nat)(Pv:Nat->Z V->Hp->Prop):Hp->Prop:=λH'=>∃ys,H' D=some (.lst ys)/\ys.length<=i+1/\Pv (i+1) ys H'
def qk{i:Nat}{Pv:Nat->Z V->Hp->Prop}{H:Hp}{ys:Z V}{y:V}(hi:i<1000)(hD:H D=some (.lst ys))(hl:ys.length<=i)(h:Pv (i+1) (ys++[y]) (upd H D<|.lst<|ys++[y])) :
  ∃xs,H D=some (.lst xs)/\xs.length<aF/\Nx D i Pv (upd H D<|.lst<|xs++[y]):=
 (qi ys hD (o0<|by lia) (ys++[y]) ⟨m8,by rw[bo,md];lia,h⟩)
def Hc(J:It)(n:Nat)(Pv:Nat->Z V->Hp->Prop)(h0:Pv 0 [] (upd H1 D<|.lst []))
  (Ba:∀i ys H,i<n->Pv i ys H->J.go i H) (dY:∀ys H,Pv n ys H->J.stop n H)
  (hs:∀i x ys H H',i<n->J.yld i H x H'->H D=some (.lst ys)->ys.length<=i->Pv i ys H->g x (ua sl σ) H' λσ2 H2=>Agree (ua sl σ) σ2/\tt σ2 H2 λb H3=>
   if b=true then te σ2 H3 λy H4=>∃xs,H4 D=some (.lst xs)/\xs.length<aF/\Nx D i Pv (upd H4 D<|.lst<|xs++[y])else Nx D i Pv H3)
  (hd:∀ys H,H D=some (.lst ys)->ys.length<=n->Pv n ys H->Q (.ref D) H):wI J sl g tt te σ H1 D Q:=by
 refine⟨λi m H=>m=n-i/\i<=n/\∃ys,H D=some (.lst ys)/\ys.length<=i/\Pv i ys H,(qi n (by simp) (fk _) ([]) ⟨m8,ao _,h0⟩),?_⟩;rintro i m H ⟨rfl,hi,ys,hy,hl,p⟩;by_cases bN:i<n
 .refine .inr ⟨Ba i ys H bN p,Nx D i Pv,λH' ⟨E6,e1,e2,e3⟩=>⟨n-(i+1),by lia,rfl,bN,E6,e1,e2,e3⟩,λx H' y=>hs i x ys H H' bN y hy hl p⟩
 .have e:i=n:=by lia
  subst e;exact .inl ⟨dY ys H p,hd ys H hy hl p⟩
def pk(Pv:Nat->Z V->Hp->Prop)(h0:Pv 0 [] (upd H1 D<|.lst []))(hl:∀i ys H,Pv i ys H->SqL K H a xs)
  (hs:∀i x ys H,xs[i]?=some x->i<xs.length->H D=some (.lst ys)->ys.length<=i->Pv i ys H->g x (ua sl σ) H λσ2 H2=>Agree (ua sl σ) σ2/\tt σ2 H2 λb H3=>
   if b=true then te σ2 H3 λy H4=>∃xs,H4 D=some (.lst xs)/\xs.length<aF/\Nx D i Pv (upd H4 D<|.lst<|xs++[y])else Nx D i Pv H3)
  (hd:∀ys H,H D=some (.lst ys)->ys.length<=xs.length->Pv xs.length ys H->Q (.ref D) H):wI (Itl K a) sl g tt te σ H1 D Q:=by
 refine Hc (Itl K a) xs.length Pv h0 (λi ys H hi p=>(nc xs (xs[i]) ⟨hl i ys H p,by simp[hi]⟩)) (λys H p=>⟨xs,hl _ ys H p,ao _⟩) (λi x ys H H' hi y hD eJ p=>?_) hd;obtain⟨e,y⟩:=y;subst e;exact hs i x ys _ (y xs<|hl i ys _ p) hi hD eJ p
def wn(Pv:Nat->Z V->Hp->Prop)(h0:Pv 0 [] (upd H1 D<|.lst []))(hl:∀i ys H,Pv i ys H->SqT K H a xs)
  (hs:∀i x ys H,xs[i]?=some x->i<xs.length->H D=some (.lst ys)->ys.length<=i->Pv i ys H->g x (ua sl σ) H λσ2 H2=>Agree (ua sl σ) σ2/\tt σ2 H2 λb H3=>
   if b=true then te σ2 H3 λy H4=>∃xs,H4 D=some (.lst xs)/\xs.length<aF/\Nx D i Pv (upd H4 D<|.lst<|xs++[y])else Nx D i Pv H3)
  (hd:∀ys H,H D=some (.lst ys)->ys.length<=xs.length->Pv xs.length ys H->Q (.ref D) H):wI (Itt K a) sl g tt te σ H1 D Q:=by
 refine Hc (Itt K a) xs.length Pv h0 (λi ys H hi p=>(nc xs (xs[i]) ⟨hl i ys H p,by simp[hi]⟩)) (λys H p=>⟨xs,hl _ ys H p,ao _⟩) (λi x ys H H' hi y hD eJ p=>?_) hd;obtain⟨e,y⟩:=y;subst e;exact hs i x ys _ (y xs<|hl i ys _ p) hi hD eJ p
def xy{lo:Int}{n:Nat}(Pv:Nat->Z V->Hp->Prop)(h0:Pv 0 [] (upd H1 D<|.lst []))
  (hs:∀i ys H,i<n->H D=some (.lst ys)->ys.length<=i->Pv i ys H->g (.int<|lo+i) (ua sl σ) H λσ2 H2=>Agree (ua sl σ) σ2/\tt σ2 H2 λb H3=>
   if b=true then te σ2 H3 λy H4=>∃xs,H4 D=some (.lst xs)/\xs.length<aF/\Nx D i Pv (upd H4 D<|.lst<|xs++[y])else Nx D i Pv H3)
  (hd:∀ys H,H D=some (.lst ys)->ys.length<=n->Pv n ys H->Q (.ref D) H):wI (Itr lo n) sl g tt te σ H1 D Q:=by
 refine Hc (Itr lo n) n Pv h0 (λi ys H hi p=>hi) (λys H p=>ao _) (λi x ys H H' hi y hD eJ p=>?_) hd;obtain⟨e,e2⟩:=y;subst e e2;exact hs i ys _ hi hD eJ p
end
section
variable{X:Cx}{N N':Z Str}{scope:cG}{z:CZ}{x y:Str}{p pos py rE:dH}{e e2 o v:Expr}{es:Z Expr}{te ti:TE}{t:TA}{wi:TI}{g:TG}{tt:L2.TT}{tb:TS}{bD iter jW tg:Expr}{kG:Z Expr}{body:Z aZ}
def pgC(i:Nat)(hN:N.Nodup:=by decide +kernel)(hi:N[i]?=some x:=by rfl)(hx:Loc (ot X N scope z).env.scope x:=by exact Or.inl rfl)(hf:(ot X N scope z).fn x=true\/(ot X N scope z).env.scope.names.lookup x=some .local:=by first|exact .inl rfl|exact .inr rfl):PG (ot X N scope z) (.Name x pos) (uy i):=B5 (X:=ot X N scope z) hN hi hx hf
def pcm(N':Z Str)(sl:Z (Option Nat))(hi:PI X bD iter wi)(hg:∀z,PG (ot X N' scope z) bD g)(ht:∀z,PTs (ot X N' scope z) kG tt)(he:∀z,PE (ot X N' scope z) jW te)(hc:X.calm=true:=by rfl)(eC:scope.kind=.function:=by rfl)
  (fV:∀x∈scope.names,x.2=.local->scope.names.lookup x.1=some .local:=by decide +kernel) (oJ:∀y∈scope.names,y.2≠.cell:=by decide +kernel) (nH:frOk scope X.env.scope=true:=by rfl) (qK:slOk X.N N' sl scope X.env.scope=true:=by rfl)
  (hs:∀x,bZ iter X.env x=aS x:=by intro _;rfl):PE X (.ListComp jW [⟨bD,iter,kG,0⟩] scope pos) (uQ wi sl g tt te):=au8 N' sl hc eC fV oJ nH qK hi hg ht he hs
def psC(i:Nat)(N':Z Str)(sl:Z (Option Nat))(hN:X.N.Nodup)(hi:PI X bD iter wi)(hg:∀z,PG (ot X N' scope z) bD g)(ht:∀z,PTs (ot X N' scope z) kG tt)(he:∀z,PE (ot X N' scope z) jW te)(IR:X.N[i]?=some y:=by rfl)(hx:Loc X.env.scope y:=by exact Or.inl rfl)
  (IY:iK (.ListComp jW [⟨bD,iter,kG,0⟩] scope pos) (some<|.Name y py) rE.line X.env=aS true:=by rfl) (hc:X.calm=true:=by rfl) (eC:scope.kind=.function:=by rfl)
  (fV:∀x∈scope.names,x.2=.local->scope.names.lookup x.1=some .local:=by decide +kernel) (oJ:∀y∈scope.names,y.2≠.cell:=by decide +kernel) (nH:frOk scope X.env.scope=true:=by rfl) (qK:slOk X.N N' sl scope X.env.scope=true:=by rfl)
  (hs:∀x,bZ iter X.env x=aS x:=by intro _;rfl) (hf:X.fn y=true\/X.env.scope.names.lookup y=some .local:=by first|exact .inl rfl|exact .inr rfl):PS X (.Assign [.Name y py] (.ListComp jW [⟨bD,iter,kG,0⟩] scope pos) rE) (Ea (uQ wi sl g tt te)<|uy i):=
 au6 N' sl hN IR hx IY hc eC fV oJ nH qK hi hg ht he hs hf
def pfo(hi:PI X tg iter wi)(hg:PG X tg g)(hb:PSs X body tb)(hp:HN (aI X.prog X.w) X.A X.env X.xe:=by exact HN.never)(hc:X.calm=true:=by rfl)(hs:∀x,bZ iter X.env x=aS x:=by intro _;rfl):PS X (.For tg iter body [] pos) (a22 wi g tb):=ayn hp hc hi hg hb hs
def pfn{k j:Nat}{ps:Z Str}{sp:Sp}(F:Fn X.prog X.w X.K X.mg X.base x k ps sp)(ha:PA X (e::es) t)(hr:Room j X.A:=by assumption)(hk:k<=j:=by decide)(hg:Gl X x:=by rfl)(mL:(x==("__debug__" : Str))=false:=by decide)(h1:o8 e=true:=by rfl)(h2:es.all o8=true:=by rfl) :
  PE X (.Call (.Name x p) (e::es) [] pos) (K8 sp [] E0 t):=a11 F hr hk hg ha mL h1 h2
def pix{r:R2}(hr:IxR X r)(ha:PE X e te)(hb:PE X e2 ti)(hs:anz e2:=by exact λ_ _=>rfl):PE X (.Subscript e e2 pos) (tOp r te ti):=a06 hr ha hb hs
end
def Ex(W:Z aG)(H H':Hp):Prop:=∀b o,b∉W->H b=some o->H' b=some o
def Ex.refl(W:Z aG)(H:Hp):Ex W H H:=λ_ _ _ h=>h
def Ex.trans{W:Z aG}{H H1 H2:Hp}(a:Ex W H H1)(b:Ex W H1 H2):Ex W H H2:=λc o hc h=>b c o hc<|a c o hc h
def Ex.of_same{W:Z aG}{H H':Hp}(a:Same H H'):Ex W H H':=λc o _ h=>a c o h
theorem Ex.upd{W:Z aG}{H:Hp}{p:aG}{o:HO}(h:p∈W):Ex W H (upd H p o):=λb u hb q=>by rw[p8 (show b≠p from λe=>hb<|by rw[e];exact h)];exact q
def Ex.tk{W:Z aG}{H H':Hp}(a:Ex W H H')(h:∀b∈W,∃xs,H b=some (.lst xs)):Tk H H':=λb xs q=>a b _ (λhb=>by obtain⟨ys,e⟩:=h b hb;rw[q]at e;cases e) q
def Ex.one{st:aG}{H H':Hp}{xs:Z V}(a:Ex [st] H H')(h:H st=some (.lst xs)):Tk H H':=a.tk λb hb=>⟨xs,by rw[ay.mp hb];exact h⟩
def Ex.at{st:aG}{H H':Hp}{b:aG}{o:HO}(a:Ex [st] H H')(hb:b≠st)(h:H b=some o):H' b=some o:=a b o (by simpa using hb) h
def aqn{H:Hp}{p b:aG}{o:HO}(h:upd H p o b=none):b≠p/\H b=none:=by
 by_cases e:b=p
 .subst e;rw[m8]at h;cases h
 .rw[p8 e]at h;exact⟨e,h⟩
def _root_.L2.Same.new{H H':Hp}{p:aG}{o:HO}(a:Same H H')(h:H p=none):Same H (upd H' p o):=λb u q=>by rw[p8 (rh q h)];exact a b u q
def _root_.L2.Same.fresh{H:Hp}{p:aG}(o:HO)(h:H p=none):Same H (upd H p o):=(Same.refl H).new h
def Cells(cs:Z U):Prop:=∀d∈cs,∃r c:Int,d=.tuple [.int r,.int c]
def Spots(ds:Z U):Prop:=∀d∈ds,∃(r c:Int)(x:Str),d=.tuple [.int r,.int c,.str x]
theorem uj:∀{ds:Z U},(∀d∈ds,imm d=true)->rf ds=true
 | [],_=>rfl
 | d::ds,h=>by show(imm d&&rf ds)=true;rw[h d aq,uj λe he=>h e<|ar _ he];rfl
def Cells.imm{cs:Z U}(h:Cells cs):rf cs=true:=uj λd hd=>by obtain⟨r,c,rfl⟩:=h d hd;rfl
def Spots.imm{ds:Z U}(h:Spots ds):rf ds=true:=uj λd hd=>by obtain⟨r,c,x,rfl⟩:=h d hd;rfl
def aqy{H:Hp}{r c:Int}{v:V}(h:Rep H (.tuple [.int r,.int c]) v):∃a,v=.ref a/\H a=some (.tup [.int r,.int c]):=by obtain⟨a,xs,e,ha,x1,r1,e1,h1,x2,r2,e2,h2,e3⟩:=h;cases (show x1=.int r from h1);cases (show x2=.int c from h2);cases (show r2=[]from e3);subst e1 e2;exact⟨a,e,ha⟩
def sv{H:Hp}{r c:Int}{x:Str}{v:V}(h:Rep H (.tuple [.int r,.int c,.str x]) v):∃a,v=.ref a/\H a=some (.tup [.int r,.int c,.str x])/\PyData.strOk x=true:=by obtain⟨a,xs,e,ha,x1,r1,e1,h1,x2,r2,e2,h2,x3,r3,e3,h3,e4⟩:=h;cases (show x1=.int r from h1);cases (show x2=.int c from h2);cases (show x3=.str x from h3.1);cases (show r3=[]from e4);subst e1 e2 e3;exact⟨a,e,ha,h3.2⟩
def vf{H:Hp}{a:aG}{r c:Int}(h:H a=some (.tup [.int r,.int c])):Rep H (.tuple [.int r,.int c]) (.ref a):=(qg a _ rfl h _ _ rfl rfl _ ⟨_,rfl,rfl,rfl⟩)
def zj{H:Hp}{a:aG}{r c:Int}{x:Str}(h:H a=some (.tup [.int r,.int c,.str x]))(hx:PyData.strOk x=true):Rep H (.tuple [.int r,.int c,.str x]) (.ref a):=
 (qg a _ rfl h _ _ rfl rfl _<|qi _ rfl rfl _ ⟨_,rfl,⟨rfl,hx⟩,rfl⟩)
theorem Spots.at{H:Hp}{ds:Z U}{xs:Z V}{i:Nat}{v:V}(h:Spots ds)(r:RepAll H ds xs)(e:xs[i]?=some v) :
  ∃(a:aG)(p q:Int)(x:Str),v=.ref a/\H a=some (.tup [.int p,.int q,.str x])/\PyData.strOk x=true/\ds[i]?=some (.tuple [.int p,.int q,.str x]):=by
 obtain⟨d,e1,e2⟩:=r.at e;obtain⟨p,q,x,rfl⟩:=h d<|ai e1;obtain⟨a,e3,e4,e5⟩:=sv e2;exact(ny a p q x ⟨e3,e4,e5,e1⟩)
noncomputable def ul:U->Int
 | .tuple (.int r::_)=>r
 | _=>0
noncomputable def uq:U->Int
 | .tuple (_::.int c::_)=>c
 | _=>0
noncomputable def ut:Z Int->Int
 | []=>0
 | [a]=>a
 | a::b::r=>if a<=ut (b::r)then a else ut (b::r)
theorem wf:∀{ns:Z Int},0<ns.length->ut ns∈ns
 | [],h=>by simp at h
 | [a],_=>by simp[ut]
 | a::b::r,_=>by
  unfold ut;split
  .exact aq
  .exact ar _<|wf<|by simp
theorem yp:∀{ns:Z Int},∀a∈ns,ut ns<=a
 | [],a,h=>by cases h
 | [a],b,h=>by
  have e:b=a:=by simpa using h
  rw[e];exact jx _
 | a::b::r,x,h=>by
  unfold ut;rcases a6.mp h with e|h
  .rw[e];split
   .exact jx _
   .lia
  .have:=yp (ns:=b::r) x h;split
   .lia
   .exact this
def yn{ns:Z Int}{M:Int}(h1:M∈ns)(h2:∀a∈ns,M<=a):M=ut ns:=by have hp:0<ns.length:=List.length_pos_of_mem h1;have a1:=h2 _<|wf hp;have a2:=yp M h1;lia
noncomputable def yD(t l:Int):U->U
 | .tuple [.int r,.int c,.str x]=>.tuple [.int (r-t),.int<|c-l,.str x]
 | d=>d
noncomputable def oj(ds:Z U):Z U:=ds.map<|yD (ut<|ds.map ul)<|ut<|ds.map uq
section
variable{K:aw}{a:aG}{xs:Z V}{ds:Z U}{σ:L2.St}{H:Hp}{Q:VK}
def nh{α β:Type}(f:α->β){l:List α}{i:Nat}{x:α}(h:l[i]?=some x):(l.take<|i+1).map f=(l.take i).map f++[f x]:=by rw[List.take_add_one,h];simp
end
end L3
open PySem PySem.Spec PyProof.Rows L2
namespace L2
def Fun.o{P:aM}{w:aN}{K:aw}{mg:Str->Option aA}{base:Heap}{x qual:Str}{st:aZ}{f:aG}{fd:bX}{N ps:Z Str}{sp:Sp}(F:Fun K x qual st f fd)(k:Nat)(S:np N ps (m9 st))
  (b:∀{fR:aA} {A:Around} {outer:Z oX} {s:aB} {vs:Z V} (H:Hp) (Q:VK) (E:XK),Room k (A.deeper<|gE qual (m9 st) s.heap.objs.size f fR)->(A.deeper<|gE qual (m9 st) s.heap.objs.size f fR).units+64<aV->N.Nodup->sp vs H Q E->
   ∃t,PSs (xX CX0 P w K mg base N qual (m9 st) f fR A outer s H E).nox (wj st) t/\t {nx:=λ_ H'=>Q .non H',rt:=Q} (wJ N vs) H)
  (len:∀vs H Q E,sp vs H Q E->vs.length=ps.length:=by intro _ _ _ _ h;repeat (first|(obtain⟨rfl,_⟩:=h;rfl)|obtain⟨_,h⟩:=h)):rn P w K mg base CX0 (k+1) f fd ps sp:=
 F.ok S len λ_ _ _ _ H _ Q E hr h=>b H Q E hr hr.units S.nd h
end L2
namespace L3
section
variable{X:Cx}{pos py:dH}{x:Str}{e:Expr}{te:TE}
def pgM(i:Nat)(hN:X.N.Nodup:=by assumption)(hi:X.N[i]?=some x:=by rfl)(hx:L2.Loc X.env.scope x:=by exact Or.inl rfl)(hf:X.fn x=true\/X.env.scope.names.lookup x=some .local:=by first|exact .inl rfl|exact .inr rfl):PG X (.Name x pos) (uy i):=B5 hN hi hx hf
def psM(i:Nat)(he:PE X e te)(hN:X.N.Nodup:=by assumption)(hi:X.N[i]?=some x:=by rfl)(hx:L2.Loc X.env.scope x:=by exact Or.inl rfl)(hs:iK e (some<|.Name x py) pos.line X.env=aS false:=by rfl)(hf:X.fn x=true\/X.env.scope.names.lookup x=some .local:=by first|exact .inl rfl|exact .inr rfl):PS X (.Assign [.Name x py] e pos) (Ea te<|uy i):=yh hN hi hx he hs hf
end
@[elab_as_elim] theorem aE {H:Hp} {a:aG} {o:HO} {rS:Hp->Prop} (h:H a=none) (k:∀H',Same H H'->H' a=some o->rS H'):rS (upd H a o):=k _ (Same.fresh _ h) m8
end L3
namespace L3
open PySem PySem.Spec PyProof.Rows L2
section
variable{X:Cx}{x:Str}{pos:dH}
def Hr{z:Str}(h:∃t,X.mg x=some (.str z t))(hg:Gl X x)(hd:(x==("__debug__" : Str))=false:=by decide):PE X (.Name x pos) (tC<|.str z):=by obtain⟨t,h⟩:=h;exact LW hg h ⟨t,rfl⟩ hd
def aqs{z:Int}(h:∃t,X.mg x=some (.int z t))(hg:Gl X x)(hd:(x==("__debug__" : Str))=false:=by decide):PE X (.Name x pos) (tC<|.int z):=by obtain⟨t,h⟩:=h;exact LW hg h ⟨t,rfl⟩ hd
end
def ax8:TE:=λ_ H Q=>∀p,H p=none->Q (.ref p) (upd H p<|.dK [])
def ap9{X:Cx}{pos:dH}:PE X (.Dict [] [] pos) ax8:=λaC s σ H Q I h=>by
 have hb:bE<s.heap.objs.size:=by have h:aP<s.heap.objs.size:=(I.mod.glob.keeps I.bk).lt;exact Nat.lt_trans (by decide) h
 refine Fb<|nc (.ref s.heap.objs.size) _ ⟨I.laid (a:=s.heap.objs.size) (o:=.dK []) (t':=s.toks) (λ_ _ q=>aj _ q) (ao _) ?_,rfl,h _<|I.hok.fresh<|ao _⟩;exact⟨fk _,beq_eq_false_iff_ne.mpr<|Ne.symm<|cf hb,[],.nil,Heap.DictOf.new s.heap⟩
section
variable{X:Cx}
def HF:OpR X (aY .LtE) (λx y H Q=>∃i j,x=.str i/\y=.str j/\Q (.bl<|!decide (j.cps.toList<i.cps.toList)) H):=by intro aC s σ H x y v u Q I rx ry h;obtain⟨i,j,rfl,rfl,q⟩:=h;obtain⟨t,rfl⟩:=rx;obtain⟨t',rfl⟩:=ry;exact PySem.P.le_str<|nc (.bl _) H ⟨I,rfl,q⟩
def a3q:Z V->Hp->VK->Prop:=λxs H Q=>∃(p:aG)(bs:Z Bool),xs=[.ref p]/\H p=some (.lst<|bs.map V.bl)/\Q (.bl<|bs.all id) H
def ao4:∀(bs:Z Bool),((cj bs.length).all λi=>(bs[i]?).getD true)=bs.all id:=λbs=>by
 rw[ji,js,js];constructor
 .intro h b hb;obtain⟨i,hi,rfl⟩:=List.mem_iff_getElem.mp hb;have:=h i (by simpa using hi);simpa [hi]using this
 .intro h i hi;have fM:i<bs.length:=by simpa using hi
  have:=h bs[i] (fj fM);simpa [fM]using this
def HD(hc:X.calm=true):um X (.builtin "all") a3q:=by
 intro aC s σ H xs us Q I r h;obtain⟨p,bs,rfl,hp,q⟩:=h;obtain⟨u,rfl,r1⟩:=v9 r;cases (show u=aA.ref p from r1);obtain⟨its,rv,pl,hz⟩:=I.list<|SqL.of (K:=X.K) hp;have bN:p<s.heap.objs.size:=by obtain⟨_,_,e,_⟩:=pl;exact bb e
 have bB:its.length=bs.length:=by rw[<-rv.length,ae]
 refine call_all_walk<|kj pl.isList ?_;refine⟨s.heap.objs.size,[s.heap.objs.size,p],[s.heap.objs.size],its.toArray.size,_,_,λi=>(bs[i]?).getD true,rfl,gN.list (A:=X.A.in1) (I.ok.hd hc) _ p (cf bN) its.toArray,
  ⟨⟨_,a7 _ rfl,rfl,rfl⟩,pl.isList.push _⟩,λi v s' Q' E' hP hQ=>?_,λh' tk hk=>?_⟩
 .have hi:its[i]?=some v:=by simpa using hP
  have mK:i<bs.length:=by rw[<-bB];exact(ak.mp hi).1
  obtain⟨u',e1,e2⟩:=rv.get (i:=i) (x:=.bl bs[i]) (by rw[ax,af mK];rfl);rw[hi]at e1;cases e1;cases (show v=aA.bool bs[i]from e2);have DL:Q' ((bs[i]?).getD true) s':=hQ;rw[af mK]at DL;exact gc DL
 .refine(nc (.bl _) H ⟨I.kept λb o e=>hk b o (λhm=>?_)<|aj _ e,rfl,?_⟩)
  .rw[ay.mp hm]at e;exact ij _<|bb e
  .rw[bp,bB,ao4];exact q
end
def Tx(z:Str):Prop:=z.length<=80/\∀c∈z.cps.toList,c<128
def Tx.ok{z:Str}(h:Tx z):PyData.strOk z=true:=by unfold PyData.strOk;rw[Array.all_eq_true'];intro c hc;have:=h.2 c (by simpa using hc);simp only[decide_eq_true_eq];lia
noncomputable def sgB(c:Nat):Bool:=(c==35||c==46||c==44)||(decide (65<=c)&&decide (c<=90))||(decide (97<=c)&&decide (c<=122))
section
variable{prog:aM}{w:aN}{A:Around}{E:aA->aB->Prop}{s:aB}
def axb{I a:aG}{k:Nat}{ys:Array aA}{v:aA}{R:aA->aB->Prop}(st:s.heap.IsTupleIter I a k)(tp:s.heap.IsTuple a ys)(hv:ys[k]?=some v)
  (q:∀g,g.IsTupleIter I a (k+1)->b9 I s.heap g->R v {s with heap:=g}):aH (aI prog w) A (de<|.ref I) R E s:=by
 obtain⟨u,hu,uc,ud⟩:=id st;obtain⟨z,hz,_,nz,zd⟩:=tp;unfold de;refine ab<|cu (name:=bm "__next__") st.typeIs F.slot_tuple_iterator_next<|dv F.slot_tuple_iterator_next st.typeIs F.entry_tuple_iterator_next ?_<|F.args_tuple_iterator_next_1 _;refine(ab (iq hu ud (x:=.ref a) rfl ?_):aH _ _ (jK (.ref I) 0 >>= _) _ _ s);refine(?_:aH _ _ (if (aA.ref a==aA.none)=true then _ else _) _ _ s);rw[if_neg (show ¬(aA.ref a==aA.none)=true from am)];refine(ab (iq hu ud (x:=.int k 0) rfl ?_):aH _ _ (jK (.ref I) 1 >>= _) _ _ s);refine(ab (ig hz zd ?_):aH _ _ (dA (.ref a) >>= _) _ _ s);simp only[da,hv];refine ab<|iz hu ud (by simp)<|ah ⟨v,rfl,ah<|q _ ⟨_,ci _ hu<|Obj.isFreed_of_fields<|l0 ud _,?_,?_⟩<|e8 ..⟩
 .exact(Obj.cls_mapFields ..).trans uc
 .rw[l0 ud];simp[cW]
def axm{I:aG}{z:Str}{t:tU}{k c:Nat}{R:aA->aB->Prop}(st:s.heap.IsStrIter I "str_ascii_iterator" z t k)(hv:z.cps[k]?=some c)
  (q:∀g,g.IsStrIter I "str_ascii_iterator" z t (k+1)->b9 I s.heap g->R (.str ⟨#[c]⟩ s.toks) {s with heap:=g,toks:=s.toks+1}):aH (aI prog w) A (de<|.ref I) R E s:=by
 obtain⟨u,hu,uc,ud⟩:=id st;unfold de;refine ab<|cu (name:=bm "__next__") st.typeIs ku<|dv ku st.typeIs F.entry_str_ascii_iterator_next ?_<|F.args_str_ascii_iterator_next_1 _;refine(ab (iq hu ud (x:=.str z t) rfl ?_):aH _ _ (jK (.ref I) 0 >>= _) _ _ s);refine(ab (iq hu ud (x:=.int k 0) rfl ?_):aH _ _ (jK (.ref I) 1 >>= _) _ _ s);simp only[da,hv];refine ab<|iz hu ud (by simp)<|ab<|wpAny_mkStr (ah ⟨_,rfl,ah<|q _ ⟨_,ci _ hu<|Obj.isFreed_of_fields<|l0 ud _,?_,?_⟩<|e8 ..⟩) sZ1
 .exact(Obj.cls_mapFields ..).trans uc
 .rw[l0 ud];simp[cW]
def abz{X:aG}{h1:Heap}{k:aA->nP Fin}(hh:A.handled=none)(keep:kz X s.heap h1)
  (q:∀g e,kz X s.heap g->(∃o,g.get? e=some o/\o.cls=.type "StopIteration")->E (.ref e) {s with heap:=g}) {R:Fin->aB->Prop}
  (ek:∀v,k v=(kR v:nP Fin)):aH (aI prog w) A (jS (.type "StopIteration") [] >>= k) R E {s with heap:=h1}:=by
 refine ab ?_;simp only[jS,kS];refine ab (ck ?_<|by size_fits);refine ab (m:=dN _ _) (j8 (a:=aA.none) (by first|rfl|(simp only[dN];rfl))<|ck ?_<|by size_fits);rw[ek];simp only[kR];refine ab<|iX ?_;rw[hh];exact ab<|ah<|lW<|q _ _ ((keep.push _).push _) ⟨_,a7 _ rfl,rfl⟩
def akp{I a:aG}{k:Nat}{ys:Array aA}{R:aA->aB->Prop}(hh:A.handled=none)(st:s.heap.IsTupleIter I a k)(tp:s.heap.IsTuple a ys)(hv:ys[k]?=none)
  (q:∀g e,kz I s.heap g->(∃o,g.get? e=some o/\o.cls=.type "StopIteration")->E (.ref e) {s with heap:=g}):aH (aI prog w) A (de<|.ref I) R E s:=by
 obtain⟨u,hu,uc,ud⟩:=id st;obtain⟨z,hz,_,nz,zd⟩:=tp;unfold de;refine ab<|cu (name:=bm "__next__") st.typeIs F.slot_tuple_iterator_next<|dv F.slot_tuple_iterator_next st.typeIs F.entry_tuple_iterator_next ?_<|F.args_tuple_iterator_next_1 _;refine(ab (iq hu ud (x:=.ref a) rfl ?_):aH _ _ (jK (.ref I) 0 >>= _) _ _ s);refine(?_:aH _ _ (if (aA.ref a==aA.none)=true then _ else _) _ _ s);rw[if_neg (show ¬(aA.ref a==aA.none)=true from am)];refine(ab (iq hu ud (x:=.int k 0) rfl ?_):aH _ _ (jK (.ref I) 1 >>= _) _ _ s);refine(ab (ig hz zd ?_):aH _ _ (dA (.ref a) >>= _) _ _ s);simp only[da,hv];refine ab<|jm<|ab<|iz hu ud (by simp) ?_;exact abz (A:=A.in1) hh (e8 ..).extBut q λ_=>rfl
def alb{I:aG}{z:Str}{t:tU}{k:Nat}{R:aA->aB->Prop}(hh:A.handled=none)(st:s.heap.IsStrIter I "str_ascii_iterator" z t k)(hv:z.cps[k]?=none)
  (q:∀g e,kz I s.heap g->(∃o,g.get? e=some o/\o.cls=.type "StopIteration")->E (.ref e) {s with heap:=g}):aH (aI prog w) A (de<|.ref I) R E s:=by
 obtain⟨u,hu,uc,ud⟩:=id st;unfold de;refine ab<|cu (name:=bm "__next__") st.typeIs ku<|dv ku st.typeIs F.entry_str_ascii_iterator_next ?_<|F.args_str_ascii_iterator_next_1 _;refine(ab (iq hu ud (x:=.str z t) rfl ?_):aH _ _ (jK (.ref I) 0 >>= _) _ _ s);refine(ab (iq hu ud (x:=.int k 0) rfl ?_):aH _ _ (jK (.ref I) 1 >>= _) _ _ s);simp only[da,hv];refine ab<|jm<|ab<|iz hu ud (by simp)<|ab<|me ?_;exact abz (A:=A.in1) hh (e8 ..).extBut q λ_=>rfl
def amf{e I:aG}{i:Nat}{jB:aA}{Y:aA->Prop}{N:Heap->Prop}{Q:Option aA->aB->Prop}(he:eG s.heap e I i jB)(gD:e≠I)
  (hN:∀g g',N g->(∀o,g.get? I=some o->g'.get? I=some o)->N g')
  (vO:∀(A':Around)(R:aA->aB->Prop)(E':aA->aB->Prop),(∀x g tk,Y x->N g->b9 I s.heap g->R x {s with heap:=g,toks:=tk})->aH (aI prog w) A' (de<|.ref I) R E' s)
  (hQ:∀x g tk AJ,Y x->HP g e I ((i:Int)+1) x s.heap.objs.size->N g->g.get? s.heap.objs.size=some {cls:=.type "tuple",data:=.seq #[.int i AJ,x]}->(∀b o,b≠e->b≠I->s.heap.get? b=some o->g.get? b=some o)->Q (some<|.ref s.heap.objs.size) {s with heap:=g,toks:=tk}) :
  aH (aI prog w) A (bC<|.ref e) Q E s:=by
 obtain⟨h0,ga,dr,t0,os⟩:=s;have ty:aB.TypeIs ⟨h0,ga,dr,t0,os⟩ (.ref e) "enumerate":=⟨_,he,rfl⟩
 replace he:eG h0 e I i jB:=he
 have oP:e<h0.objs.size:=bb he;unfold bC;refine ab<|jv<|cu (name:=bm "__next__") ty F.slot_enumerate_next<|dv F.slot_enumerate_next ty F.entry_enumerate_next ?_<|F.args_enumerate_next_1 _;show aH _ _ (jK (.ref e) 2 >>= _) _ _ ⟨h0,ga,dr,t0,os⟩;refine ab<|iq he rfl (x:=.ref I) rfl<|ab<|vO _ _ _ λx g1 tk yx n1 AN=>?_
 replace AN:b9 I h0 g1:=AN
 have e1:eG g1 e I i jB:=(AN.2 e gD).trans he;have z1:g1.objs.size=h0.objs.size:=AN.1;have k1:∀b o,b≠e->b≠I->h0.get? b=some o->g1.get? b=some o:=λb o _ hb h=>(AN.2 b hb).trans h;clear AN;show aH _ _ (jK (.ref e) 3 >>= _) _ _ ⟨g1,ga,dr,tk,os⟩;refine ab<|iq e1 rfl (x:=cW i) rfl ?_;show aH _ _ (jK (.ref e) 4 >>= _) _ _ ⟨g1,ga,dr,tk,os⟩;refine ab<|iq e1 rfl (x:=.none) rfl ?_;show aH _ _ (mkInt i >>= _) _ _ ⟨g1,ga,dr,tk,os⟩;refine ab<|wpAny_mkInt ?_;show aH _ _ (wR (.ref e) 3 (cW<|(i:Int)+1) >>= _) _ _ ⟨g1,ga,dr,tk+1,os⟩;refine ab<|cU e1 (by simp) λg2 e2 AM=>?_
 replace AM:b9 e g1 g2:=AM
 replace e2:eG g2 e I ((i:Int)+1) jB:=e2
 have z2:g2.objs.size=h0.objs.size:=AM.1.trans z1;have n2:N g2:=hN _ _ n1 λo h=>(AM.2 I<|Ne.symm gD).trans h;have k2:∀b o,b≠e->b≠I->h0.get? b=some o->g2.get? b=some o:=λb o hb hI h=>(AM.2 b hb).trans (k1 b o hb hI h);clear AM n1 k1 e1 z1;show aH _ _ (wR (.ref e) 4 .none >>= _) _ _ ⟨g2,ga,dr,tk+1,os⟩;refine ab<|cU e2 (by simp) λg3 e3 wT=>?_
 replace wT:b9 e g2 g3:=wT
 replace e3:eG g3 e I ((i:Int)+1) jB:=e3
 have z3:g3.objs.size=h0.objs.size:=wT.1.trans z2;have n3:N g3:=hN _ _ n2 λo h=>(wT.2 I<|Ne.symm gD).trans h;have k3:∀b o,b≠e->b≠I->h0.get? b=some o->g3.get? b=some o:=λb o hb hI h=>(wT.2 b hb).trans (k2 b o hb hI h);clear wT n2 k2 e2 z2;show aH _ _ (kS [.int i tk,x] >>= _) _ _ ⟨g3,ga,dr,tk+1,os⟩;refine ab<|wpAny_newTuple ?_;have e4:eG (g3.push {cls:=.type "tuple",data:=.seq #[.int i tk,x]}) e I ((i:Int)+1) jB:=aj _ e3;have n4:N (g3.push {cls:=.type "tuple",data:=.seq #[.int i tk,x]}):=hN _ _ n3 λo h=>aj _ h;have k4:∀b o,b≠e->b≠I->h0.get? b=some o->(g3.push {cls:=.type "tuple",data:=.seq #[.int i tk,x]}).get? b=some o:=λb o hb hI h=>aj _<|k3 b o hb hI h;have t4:(g3.push {cls:=.type "tuple",data:=.seq #[.int i tk,x]}).get? h0.objs.size=some {cls:=.type "tuple",data:=.seq #[.int i tk,x]}:=by have h:=a7 g3 (o:={cls:=.type "tuple",data:=.seq #[.int i tk,x]}) rfl;rw[z3]at h;exact h
 generalize JP:g3.push {cls:=.type "tuple",data:=.seq #[.int i tk,x]}=g4 at *;show aH _ _ (Builtin.SmallTypes.ownedTupleIsFree (.ref e) >>= _) _ _ ⟨g4,ga,dr,tk+1,os⟩;rw[z3];clear JP n3 k3 e3 z3 g3;refine ab ?_;unfold Builtin.SmallTypes.ownedTupleIsFree;refine ab<|iq e4 rfl (x:=.none) rfl<|ah ?_;simp only[if_true];refine ab<|jm<|ab<|iq e4 rfl (x:=jB) rfl<|ab<|cU e4 (by simp) λg5 e5 Ig=>?_
 replace Ig:b9 e g4 g5:=Ig
 replace e5:eG g5 e I ((i:Int)+1) x:=e5
 show aH _ _ (Builtin.SmallTypes.ownedTupleHandOut (.ref e) (.ref h0.objs.size) >>= _) _ _ ⟨g5,ga,dr,tk+1,os⟩;refine ab ?_;unfold Builtin.SmallTypes.ownedTupleHandOut;refine ab<|cU e5 (by simp) λg6 e6 Ie=>?_
 replace Ie:b9 e g5 g6:=Ie
 replace e6:HP g6 e I ((i:Int)+1) x h0.objs.size:=e6
 refine cU e6 (by simp) λg7 e7 Ic=>?_
 replace Ic:b9 e g6 g7:=Ic
 replace e7:HP g7 e I ((i:Int)+1) x h0.objs.size:=e7
 have all:∀b o,b≠e->g4.get? b=some o->g7.get? b=some o:=λb o hb h=>(Ic.2 b hb).trans ((Ie.2 b hb).trans ((Ig.2 b hb).trans h));exact ab<|me<|ah ⟨_,rfl,ah<|hQ x g7 _ tk yx e7 (hN _ _ n4 λo h=>all I o (Ne.symm gD) h) (all _ _ (Nat.ne_of_gt oP) t4) λb o hb hI h=>all b o hb<|k4 b o hb hI h⟩
def aqf{e I:aG}{i:Int}{jB:aA}{Q:Option aA->aB->Prop}(he:eG s.heap e I i jB)
  (vO:∀(R:aA->aB->Prop)(E':aA->aB->Prop),(∀g x,kz I s.heap g->(∃o,g.get? x=some o/\o.cls=.type "StopIteration")->E' (.ref x) {s with heap:=g})->aH (aI prog w) A.in1 (de<|.ref I) R E' s)
  (hQ:∀g,kz I s.heap g->Q none {s with heap:=g}):aH (aI prog w) A (bC<|.ref e) Q E s:=by
 have ty:s.TypeIs (.ref e) "enumerate":=⟨_,he,rfl⟩;unfold bC;refine ab<|jv<|cu (name:=bm "__next__") ty F.slot_enumerate_next<|dv F.slot_enumerate_next ty F.entry_enumerate_next ?_<|F.args_enumerate_next_1 _;show aH _ _ (jK (.ref e) 2 >>= _) _ _ s;refine ab<|iq he rfl (x:=.ref I) rfl<|ab<|vO _ _ λg x kp ⟨o,ho,hc⟩=>?_;exact ab<|k7 (T:="StopIteration") (b:=true) ⟨o,ho,hc⟩ hJ<|ah<|hQ _ kp
end
def anm(a:aG)(ys:Array aA)(n:Nat)(KL:Option aG)(sl:Array (Option aA)) :
  Meets (Builtin.«enumerate.__new__» ⟨[.type "enumerate",.ref a],[]⟩) (λ_ R s=>s.heap.get? a=some {cls:=.type "tuple",dict:=KL,data:=.seq ys n,slots:=sl}/\
   R (.ok<|.ret<|.ref (s.heap.push {cls:=.type "tuple_iterator",data:=.fields #[.ref a,.int 0 0]}).objs.size)
    {s with heap:=(s.heap.push {cls:=.type "tuple_iterator",data:=.fields #[.ref a,.int 0 0]}).push {cls:=.type "enumerate",data:=.fields #[.none,.bool false,.ref s.heap.objs.size,cW 0,.none,.none]}}):=
 .of_wp λprog w A R s h=>by
  obtain⟨h0,ga,dr,tk,os⟩:=s;obtain⟨ha,h⟩:=h;have pF:=sub_enumerate;have hT:Heap.IsTuple (aB.heap ⟨h0,ga,dr,tk,os⟩) a ys:=(qi _ ha rfl n rfl)
  wp_walk using AutoSeq1.wpAny_loadPart' ha
  refine wpAny_stack_any λst=>ah ?_;split
  .rename_i c _ _ _ _ _
   cases (c==aA.type "enumerate")
   .wp_walk using AutoSeq1.wpAny_loadPart' ha,cV hT
    exact⟨_,rfl,h⟩
   .wp_walk using AutoSeq1.wpAny_loadPart' ha,cV hT
    exact⟨_,rfl,h⟩
  .wp_walk using AutoSeq1.wpAny_loadPart' ha,cV hT
   exact⟨_,rfl,h⟩
section
variable{prog:aM}{w:aN}{A:Around}{E:aA->aB->Prop}{s:aB}
def akk{a:aG}{ys:Array aA}{Q:aA->aB->Prop}(hT:s.heap.IsTuple a ys)
  (h:∀g,eG g (s.heap.objs.size+1) s.heap.objs.size 0 .none->g.IsTupleIter s.heap.objs.size a 0->(∀b o,s.heap.get? b=some o->g.get? b=some o)->Q (.ref<|s.heap.objs.size+1) {s with heap:=g}) :
  aH (aI prog w) A (call (.type "enumerate") [.ref a]) Q E s:=by
 obtain⟨⟨c,KL,dt,sl⟩,ha,hc,n,hd⟩:=hT
 replace hc:c=.type "tuple":=hc
 replace hd:dt=.seq ys n:=hd
 subst hc hd;refine callType_new F.called_enumerate (by decide) (F.typeCall_enumerate_1 _) (F.newCall_enumerate_1 _) (λobj=>F.args_object_init_2 obj _) F.entry_enumerate_new (anm a ys n KL sl) ⟨ha,?_⟩;have hz:(s.heap.push {cls:=.type "tuple_iterator",data:=.fields #[.ref a,.int 0 0]}).objs.size=s.heap.objs.size+1:=Heap.size_push ..;refine(?_:_/\_);rw[hz];have he:eG ((s.heap.push {cls:=.type "tuple_iterator",data:=.fields #[.ref a,.int 0 0]}).push {cls:=.type "enumerate",data:=.fields #[.none,.bool false,.ref s.heap.objs.size,cW 0,.none,.none]}) (s.heap.objs.size+1) s.heap.objs.size 0 .none:=by have h:=a7 (s.heap.push {cls:=.type "tuple_iterator",data:=.fields #[.ref a,.int 0 0]}) (o:={cls:=.type "enumerate",data:=.fields #[.none,.bool false,.ref s.heap.objs.size,cW 0,.none,.none]}) rfl;rw[hz]at h;exact h
 exact⟨⟨_,he,rfl⟩,h _ he ⟨_,aj _<|a7 _ rfl,rfl,rfl⟩ λb o x=>aj _<|aj _ x⟩
end
section
variable{X:Cx}{aC:Z (aG×Obj)}{σ:L2.St}{H:Hp}{s:aB}{h':Heap}
def avp{t':Nat}{e it:aG}(I:Inv X aC σ H s)(k:∀b o,b≠e->b≠it->s.heap.get? b=some o->h'.get? b=some o)(fe:mQ X aC H e)(fi:mQ X aC H it):Inv X aC σ H {s with heap:=h',toks:=t'}:=by
 obtain⟨e0,e1,e2,e3,e4,e5⟩:=fe;obtain⟨i0,i1,i2,i3,i4,i5⟩:=fi;have nn:∀b u,H b=some u->b≠e/\b≠it:=λb u q=>⟨λz=>(by rw[z,e0]at q;cases q),λz=>(by rw[z,i0]at q;cases q)⟩;have sp:∀b,b∉[e,it]->b≠e/\b≠it:=λb hb=>by simpa using hb
 refine I.step (g':=s.gens) (d':=s.drawn) (ch:=[e,it]) (λb hb=>?_) (λb o _ _ hc q _=>k b o (sp b hc).1 (sp b hc).2 q) (λb o _ _ hc q _=>⟨o.slots,k b o (sp b hc).1 (sp b hc).2 q⟩) (λ_ _ _ _ n=>n)
  (λb o hc q=>⟨o,k b o (sp b hc).1 (sp b hc).2 q⟩) (λ_ _ q=>q) (λ_ _ _ q=>q) (λb ps q=>⟨#[],by rw[q];simp⟩) (λm hm=>?_) (λb u q=>?_) I.bare
 .rcases a6.mp hb with z|z
  .subst z;exact⟨e3,e1,e4,e5⟩
  .rw[ay.mp z];exact⟨i3,i1,i4,i5⟩
 .obtain⟨o,es,ep,ho,r⟩:=hm;exact(oa o es ep ⟨k _ o (Ne.symm e1) (Ne.symm i1) ho,r⟩)
 .refine(I.hok b u q).stay (λc v hc r=>k c v ?_ ?_ r) (λ_ r=>r) λ_ _ r=>r
  .rcases hc with z|z
   .rw[z];exact(nn b u q).1
   .exact(nn c _ z).1
  .rcases hc with z|z
   .rw[z];exact(nn b u q).2
   .exact(nn c _ z).2
end
def MI{P:aM}{w:aN}{K:aw}{eL:Z Expr}{x1}{pos:dH}(J:It)(e I:aG)(gD:e≠I)(M:Nat->Heap->Prop)
  (pI:∀i h,M i h->∃o,h.get? I=some o/\∀v,o.data≠.cell v) (iB:∀i h h',M i h->(∀o,h.get? I=some o->h'.get? I=some o)->M i h')
  (Dr:∀(X:Cx),X.prog=P->X.w=w->X.K=K->∀(i:Nat) aC (s:aB) σ H,Inv X aC σ H s->M i s.heap->J.go i H->∃Y:aA->Prop,
   (∀u,Y u->∃x,RelV x u/\J.yld i H (.ref s.heap.objs.size) (upd H s.heap.objs.size<|.tup [.int i,x]))/\
   ∀(A':Around)(R:aA->aB->Prop)(E':aA->aB->Prop),(∀u g tk,Y u->M (i+1) g->b9 I s.heap g->R u {s with heap:=g,toks:=tk})->aH (aI P w) A' (de<|.ref I) R E' s)
  (Dz:∀(X:Cx),X.prog=P->X.w=w->X.K=K->∀(i:Nat) aC (s:aB) σ H,Inv X aC σ H s->M i s.heap->J.stop i H->
   ∀(A':Around)(R:aA->aB->Prop)(E':aA->aB->Prop),A'.handled=none->(∀g u,kz I s.heap g->(∃o,g.get? u=some o/\o.cls=.type "StopIteration")->E' (.ref u) {s with heap:=g})->aH (aI P w) A' (de<|.ref I) R E' s) :
  uO P w K (.Tuple eL x1 pos) J [e,I] e (λi h=>(∃jB,eG h e I i jB)/\M i h)where
 mem:=by simp
 obj:=λi h st b hb=>by
  obtain⟨⟨jB,he⟩,m⟩:=st;rcases a6.mp hb with z|z
  .subst z;exact⟨_,he,λv z=>by cases z⟩
  .rw[ay.mp z];exact pI i h m
 keep:=λi h h' st k=>by obtain⟨⟨jB,he⟩,m⟩:=st;exact⟨⟨jB,k e (by simp) _ he⟩,iB i h h' m λo q=>k I (by simp) o q⟩
 item:=by
  intro X hP hw hK hc i aC s σ H E Iv hf st hg;obtain⟨⟨jB,he⟩,m⟩:=st;obtain⟨Y,hY,vO⟩:=Dr X hP hw hK i aC s σ H Iv m hg;subst hP hw hK;have fe:=hf e (by simp);have fi:=hf I (by simp);have oP:e<s.heap.objs.size:=bb he;obtain⟨oi,hoi,_⟩:=pI i _ m;have oN:I<s.heap.objs.size:=bb hoi;refine amf he gD (N:=M<|i+1) (λg g' n k=>iB _ _ _ n k) vO λu g tk AJ yu eo n t4 k=>⟨_,rfl,?_⟩;refine wpAny_letOwnedTupleGo_enum (s:={s with heap:=g,toks:=tk}) eo λg' e' sb=>?_;obtain⟨v,rv,yl⟩:=hY u yu;have I1:Inv X aC σ (upd H s.heap.objs.size<|.tup [.int i,v]) {s with heap:=s.heap.push {cls:=.type "tuple",data:=.seq #[.int i AJ,u]},toks:=tk}:=
   Iv.laid (t':=tk) (λb o q=>aj _ q) (ao _) ⟨by show 2<=aF;decide,[.int i AJ,u],.cons ⟨AJ,rfl⟩<|.cons rv .nil,(qi _ (a7 _ rfl) rfl _ rfl)⟩
  have up:∀b,b<s.heap.objs.size->mQ X aC H b->mQ X aC (upd H s.heap.objs.size<|.tup [.int i,v]) b:=λb hb q=>⟨by rw[p8 (cf hb)];exact q.1,q.2⟩;have I2:Inv X aC σ (upd H s.heap.objs.size<|.tup [.int i,v]) {s with heap:=g,toks:=tk}:=avp (s:={s with heap:=s.heap.push {cls:=.type "tuple",data:=.seq #[.int i AJ,u]},toks:=tk}) (t':=tk) I1 (λb o h1 h2 q=>by
   rcases Heap.get?_push_cases q with ⟨z1,z2⟩|z
   .rw[z1,z2];exact t4
   .exact k b o h1 h2 z) (up e oP fe)<|up I oN fi
  have Bn:=up e oP fe;have I3:Inv X aC σ (upd H s.heap.objs.size<|.tup [.int i,v]) {s with heap:=g',toks:=tk}:=Inv.turned (s:={s with heap:=g,toks:=tk}) (t':=tk) I2 (λb o hb q=>(sb.2 b hb).trans q) Bn.1 Bn.2.1 Bn.2.2.2.1 Bn.2.2.2.2.1 Bn.2.2.2.2.2;refine(nc (.ref s.heap.objs.size) _ ⟨I3,rfl,yl,⟨⟨u,e'⟩,iB _ _ _ n λo q=>(sb.2 I<|Ne.symm gD).trans q⟩,λb hb=>?_⟩);rcases a6.mp hb with z|z
  .subst z;exact Bn.1
  .rw[ay.mp z];exact(up I oN fi).1
 done:=by intro X hP hw hK hc i aC s σ H E Iv hf st hg;obtain⟨⟨jB,he⟩,m⟩:=st;have hd:=Dz X hP hw hK i aC s σ H Iv m hg;subst hP hw hK;have fi:=hf I (by simp);exact aqf he (λR E' q=>hd _ R E' (Iv.ok.hd hc) q) λg kp=>⟨rfl,Iv.turned (t':=s.toks) (λb o hb q=>kp b o hb q) fi.1 fi.2.1 fi.2.2.2.1 fi.2.2.2.2.1 fi.2.2.2.2.2⟩
 self:=λ_ _ _ _ _ st h=>by obtain⟨⟨jB,he⟩,_⟩:=st;exact fD he h
noncomputable def Jet(K:aw)(a:aG):It:=
 ⟨λi H=>∃xs x,SqT K H a xs/\xs[i]?=some x,λi H v H'=>∃p x,H p=none/\v=.ref p/\H'=upd H p (.tup [.int i,x])/\∀xs,SqT K H a xs->xs[i]?=some x,λi H=>∃xs,SqT K H a xs/\xs.length<=i⟩
noncomputable def Jes(z:Str):It:=
 ⟨λi _=>i<z.cps.toList.length,λi H v H'=>∃p c,H p=none/\v=.ref p/\H'=upd H p (.tup [.int i,.str ⟨#[c]⟩])/\z.cps.toList[i]?=some c,λi _=>z.cps.toList.length<=i⟩
def ak4{P:aM}{w:aN}{K:aw}{eL:Z Expr}{x1}{pos:dH}(a e I:aG)(gD:e≠I) :
  uO P w K (.Tuple eL x1 pos) (Jet K a) [e,I] e (λi h=>(∃jB,eG h e I i jB)/\h.IsTupleIter I a i):=by
 refine MI (Jet K a) e I gD (λi h=>h.IsTupleIter I a i) (λi h st=>?_) (λi h h' st k=>st.at k) (λX hP hw hK i aC s σ H Iv st hg=>?_) λX hP hw hK i aC s σ H Iv st hg A' R E' hh q=>?_
 .obtain⟨o,ho,c,d⟩:=st;exact⟨o,ho,λv z=>by rw[d]at z;cases z⟩
 .subst hP hw hK;obtain⟨xs,x,hq,hx⟩:=hg;obtain⟨its,rv,p,hz⟩:=Iv.tuple hq;obtain⟨u,hu,ru⟩:=rv.get hx;refine⟨λu'=>u'=u,λu' pD=>?_,λA' R E' q=>?_⟩
  .subst pD;exact(oq x ru s.heap.objs.size x ⟨Iv.hok.fresh<|ao _,rfl,rfl,λys hy=>by rw[Iv.tuple_inj hy hq];exact hx⟩)
  .exact axb st (show s.heap.IsTuple a its.toArray from p) (v:=u) (by simpa using hu) λg aR sb=>q u g s.toks rfl aR sb
 .subst hP hw hK;obtain⟨xs,hq,hx⟩:=hg;obtain⟨its,rv,p,hz⟩:=Iv.tuple hq;have hl:=rv.length;exact akp hh st (show s.heap.IsTuple a its.toArray from p) (by simp;lia) q
def ak2{P:aM}{w:aN}{K:aw}{eL:Z Expr}{x1}{pos:dH}(z:Str)(t:tU)(e I:aG)(gD:e≠I) :
  uO P w K (.Tuple eL x1 pos) (Jes z) [e,I] e (λi h=>(∃jB,eG h e I i jB)/\h.IsStrIter I "str_ascii_iterator" z t i):=by
 refine MI (Jes z) e I gD (λi h=>h.IsStrIter I "str_ascii_iterator" z t i) (λi h st=>?_) (λi h h' st k=>?_) (λX hP hw hK i aC s σ H Iv st hg=>?_) λX hP hw hK i aC s σ H Iv st hg A' R E' hh q=>?_
 .obtain⟨o,ho,c,d⟩:=st;exact⟨o,ho,λv z=>by rw[d]at z;cases z⟩
 .obtain⟨o,ho,r⟩:=st;exact⟨o,k o ho,r⟩
 .subst hP hw hK;have hi:i<z.cps.size:=by simpa [Jes]using hg
  refine⟨λu=>∃tk,u=.str ⟨#[z.cps[i]]⟩ tk,λu hu=>?_,λA' R E' q=>?_⟩
  .obtain⟨tk,rfl⟩:=hu;exact(oq (.str ⟨#[z.cps[i]]⟩) ⟨tk,rfl⟩ s.heap.objs.size (z.cps[i]) ⟨Iv.hok.fresh<|ao _,rfl,rfl,by simp[hi]⟩)
  .exact axm st (c:=z.cps[i]) (by simp[hi]) λg aR sb=>q _ g _ ⟨_,rfl⟩ aR sb
 .subst hP hw hK;have hi:z.cps.size<=i:=by simpa [Jes]using hg
  exact alb hh st (by simp;lia) q
section
variable{X:Cx}{eL:Z Expr}{x1:Nat}{iJ p pos:dH}{a:Expr}{ta:TA}
def a2v(K:aw)(ta:TA):TI:=λσ H R=>ta σ H λvs H1=>∃a,vs=[.ref a]/\(∃xs,SqT K H1 a xs)/\R (Jet K a) H1
def a25(ta:TA):TI:=λσ H R=>ta σ H λvs H1=>∃z:Str,vs=[.str z]/\(∀c∈z.cps.toList,c<128)/\R (Jes z) H1
def azz(hg:Gl X "enumerate")(hm:X.mg "enumerate" = none)(ha:PA X [a] ta)(hs:o8 a=true:=by rfl):PI X (.Tuple eL x1 iJ) (.Call (.Name "enumerate" p) [a] [] pos) (a2v X.K ta):=by
 intro aC s σ H R I h;refine Call_<|wq I hg hm oT<|gd (thn (ha pos aC s σ H _ I h) λus s1 ⟨vs,H1,I1,r1,q1⟩=>?_) (qa hs) rfl;obtain⟨b,e,⟨xs,hq⟩,q⟩:=q1;subst e;obtain⟨u,rfl,ru⟩:=v9 r1;cases (show u=aA.ref b from ru);obtain⟨its,rv,pl,hz⟩:=I1.tuple hq;refine akk (show s1.heap.IsTuple b its.toArray from pl) λg he hi kp=>fD (s:={s1 with heap:=g}) he ?_;refine(ni (s1.heap.objs.size+1) ([s1.heap.objs.size+1,s1.heap.objs.size]) _ _ H1 ⟨rfl,I1.kept (t':=s1.toks) kp,ak4 b (s1.heap.objs.size+1) s1.heap.objs.size<|Nat.succ_ne_self _,⟨⟨_,he⟩,hi⟩,λc hc=>?_,q⟩);rcases a6.mp hc with z|z
 .subst z;exact I1.fpOk (by lia)<|I1.hok.fresh<|by lia
 .rw[ay.mp z];exact I1.fpOk (ao _)<|I1.hok.fresh<|ao _
def axu(hg:Gl X "enumerate")(hm:X.mg "enumerate" = none)(ha:PA X [a] ta)(hs:o8 a=true:=by rfl):PI X (.Tuple eL x1 iJ) (.Call (.Name "enumerate" p) [a] [] pos) (a25 ta):=by
 intro aC s σ H R I h;refine Call_<|wq I hg hm oT<|gd (thn (ha pos aC s σ H _ I h) λus s1 ⟨vs,H1,I1,r1,q1⟩=>?_) (qa hs) rfl;obtain⟨z,e,hz,q⟩:=q1;subst e;obtain⟨u,rfl,t,rfl⟩:=v9 r1;have asc:strIterType z="str_ascii_iterator":=by unfold strIterType;rw[if_pos];rw[Array.all_eq_true'];intro c hc;simpa using hz c (by simpa using hc)
 refine call_enumerate_str λg he hi _ kp=>fD (s:={s1 with heap:=g}) he ?_;rw[asc]at hi;refine(ni (s1.heap.objs.size+1) ([s1.heap.objs.size+1,s1.heap.objs.size]) _ _ H1 ⟨rfl,I1.kept (t':=s1.toks) kp,ak2 z t (s1.heap.objs.size+1) s1.heap.objs.size<|Nat.succ_ne_self _,⟨⟨_,he⟩,hi⟩,λc hc=>?_,q⟩);rcases a6.mp hc with z|z
 .subst z;exact I1.fpOk (by lia)<|I1.hok.fresh<|by lia
 .rw[ay.mp z];exact I1.fpOk (ao _)<|I1.hok.fresh<|ao _
end
def Mi(J:It)(n:Nat){g:TG}{tb:TS}{D:kZ}{σ:L2.St}{H:Hp}(Pv:Nat->L2.St->Hp->Prop)(h0:Pv 0 σ H)(Ba:∀i σ H,i<n->Pv i σ H->J.go i H)(dY:∀σ H,Pv n σ H->J.stop n H)
  (hs:∀i v σ H H',i<n->Pv i σ H->J.yld i H v H'->g v σ H' λσ2 H2=>tb {D with nx:=Pv<|i+1,ct:=Pv<|i+1,bk:=D.nx} σ2 H2) (hd:∀σ H,Pv n σ H->D.nx σ H) :
  ∃W:Nat->Nat->L2.St->Hp->Prop,(∃m,W 0 m σ H)/\∀i m σ H,W i m σ H->
   (J.stop i H/\D.nx σ H)\/(J.go i H/\∃N:L2.St->Hp->Prop,(∀σ' H',N σ' H'->∃m',m'<m/\W (i+1) m' σ' H')/\∀v H',J.yld i H v H'->g v σ H' λσ2 H2=>tb {D with nx:=N,ct:=N,bk:=D.nx} σ2 H2):=by
 refine⟨λi m σ H=>m=n-i/\i<=n/\Pv i σ H,⟨n,by simp,fk _,h0⟩,?_⟩;rintro i m σ H ⟨rfl,hi,p⟩;by_cases bN:i<n
 .exact .inr ⟨Ba i σ H bN p,Pv<|i+1,λσ' H' p'=>⟨n-(i+1),by lia,rfl,bN,p'⟩,λv H' y=>hs i v σ H H' bN p y⟩
 .have e:i=n:=by lia
  subst e;exact .inl ⟨dY σ H p,hd σ H p⟩
def LP{K:aw}{a:aG}{xs:Z V}{g:TG}{tb:TS}{D:kZ}{σ:L2.St}{H:Hp}(Pv:Nat->L2.St->Hp->Prop)(h0:Pv 0 σ H)(hl:∀i σ H,Pv i σ H->SqT K H a xs)
  (hs:∀i x p σ H,xs[i]?=some x->H p=none->Pv i σ H->g (.ref p) σ (upd H p<|.tup [.int (i:Nat),x]) λσ2 H2=>tb {D with nx:=Pv<|i+1,ct:=Pv<|i+1,bk:=D.nx} σ2 H2) (hd:∀σ H,Pv xs.length σ H->D.nx σ H) :
  ∃W:Nat->Nat->L2.St->Hp->Prop,(∃m,W 0 m σ H)/\∀i m σ H,W i m σ H->
   ((Jet K a).stop i H/\D.nx σ H)\/((Jet K a).go i H/\∃N:L2.St->Hp->Prop,(∀σ' H',N σ' H'->∃m',m'<m/\W (i+1) m' σ' H')/\∀v H',(Jet K a).yld i H v H'->g v σ H' λσ2 H2=>tb {D with nx:=N,ct:=N,bk:=D.nx} σ2 H2):=by
 refine Mi (Jet K a) xs.length Pv h0 (λi σ H hi p=>(nc xs (xs[i]) ⟨hl i σ H p,by simp[hi]⟩)) (λσ H p=>⟨xs,hl _ σ H p,ao _⟩) (λi v σ H H' hi p y=>?_) hd;obtain⟨b,x,hb,rfl,rfl,hx⟩:=y;exact hs i x b σ H (hx xs<|hl i σ H p) hb p
def avi{z:Str}{g:TG}{tb:TS}{D:kZ}{σ:L2.St}{H:Hp}(Pv:Nat->L2.St->Hp->Prop)(h0:Pv 0 σ H)
  (hs:∀i c p σ H,z.cps.toList[i]?=some c->H p=none->Pv i σ H->g (.ref p) σ (upd H p<|.tup [.int (i:Nat),.str ⟨#[c]⟩]) λσ2 H2=>tb {D with nx:=Pv<|i+1,ct:=Pv<|i+1,bk:=D.nx} σ2 H2) (hd:∀σ H,Pv z.cps.toList.length σ H->D.nx σ H) :
  ∃W:Nat->Nat->L2.St->Hp->Prop,(∃m,W 0 m σ H)/\∀i m σ H,W i m σ H->
   ((Jes z).stop i H/\D.nx σ H)\/((Jes z).go i H/\∃N:L2.St->Hp->Prop,(∀σ' H',N σ' H'->∃m',m'<m/\W (i+1) m' σ' H')/\∀v H',(Jes z).yld i H v H'->g v σ H' λσ2 H2=>tb {D with nx:=N,ct:=N,bk:=D.nx} σ2 H2):=by
 refine Mi (Jes z) z.cps.toList.length Pv h0 (λi σ H hi p=>hi) (λσ H p=>ao _) (λi v σ H H' hi p y=>?_) hd;obtain⟨b,c,hb,rfl,rfl,hc⟩:=y;exact hs i c b σ H hc hb p
def axa{c:Nat}(h:c<128):Txt.upper ⟨#[c]⟩=⟨#[up1 c]⟩:=by
 rw[upper_ascii (λd hd=>by have e:d=c:=by simpa using hd
                           lia)]
 simp
section
variable{X:Cx}
def ap2:MtR X "str.upper" (λx vs H Q=>∃c:Nat,x=.str ⟨#[c]⟩/\vs=[]/\c<128/\Q (.str ⟨#[up1 c]⟩) H):=by intro aC s σ H x vs v us Q I rx rv h;obtain⟨c,rfl,rfl,hc,q⟩:=h;obtain⟨t,rfl⟩:=rx;have IU:=rv.zero;subst IU;refine SC.upper (fit_upper<|by show 1<=5592405;lia)<|nc (.str _) H ⟨I.tok _,⟨_,rfl⟩,?_⟩;rw[axa hc];exact q
end
end L3
namespace L2
open PySem PySem.Spec PyProof.Rows
section
variable{κ:Type}[DecidableEq κ]
noncomputable def wu(kvs:Z (κ×V))(k:κ):Option V:=(kvs.find? λkv=>decide<|kv.1=k).map (·.2)
noncomputable def jN(kvs:Z (κ×V))(k:κ)(v:V):Z (κ×V):=
 if (kvs.any λkv=>decide<|kv.1=k)=true then kvs.map (λkv=>if kv.1=k then(kv.1,v)else kv)else kvs++[(k,v)]
def sr{p:κ×V}{r:Z (κ×V)}{k:κ}(e:p.1=k):wu (p::r) k=some p.2:=by simp[wu,ii,e]
def sq{p:κ×V}{r:Z (κ×V)}{k:κ}(e:¬p.1=k):wu (p::r) k=wu r k:=by simp[wu,ii,e]
theorem xt(k:κ):∀kvs:Z (κ×V),(kvs.any λkv=>decide<|kv.1=k)=(wu kvs k).isSome
 | []=>rfl
 | p::r=>by
  rw[List.any_cons];by_cases e:p.1=k
  .simp only[sr e,decide_eq_true e,Bool.true_or,Option.isSome_some]
  .rw[sq e,decide_eq_false e,Bool.false_or];exact xt k r
theorem ajp(k j:κ)(y:V):∀kvs:Z (κ×V),wu (kvs.map λkv=>if kv.1=k then(kv.1,y)else kv) j=(wu kvs j).map λx=>if j=k then y else x
 | []=>rfl
 | p::r=>by
  have ih:=ajp k j y r;rw[cm];by_cases h:p.1=k
  .rw[if_pos h];by_cases e:p.1=j
   .rw[sr (p:=(p.1,y)) e,sr e,Option.map_some,if_pos<|e.symm.trans h]
   .rw[sq (p:=(p.1,y)) e,sq e,ih]
  .rw[if_neg h];by_cases e:p.1=j
   .rw[sr (p:=p) e,sr e,Option.map_some,if_neg λz=>h<|e.trans z]
   .rw[sq (p:=p) e,sq e,ih]
theorem HH(k j:κ)(y:V):∀kvs:Z (κ×V),wu kvs k=none->wu (kvs++[(k,y)]) j=if j=k then some y else wu kvs j
 | [],_=>by
  by_cases e:k=j
  .rw[if_pos e.symm];exact sr (p:=(k,y)) e
  .rw[if_neg (λz=>e z.symm)];exact sq (p:=(k,y)) e
 | p::r,hn=>by
  rw[List.cons_append];have hk:¬p.1=k:=λz=>by rw[sr z]at hn;cases hn
  rw[sq hk]at hn;have ih:=HH k j y r hn;by_cases e:p.1=j
  .rw[sr e,sr e,if_neg λz=>hk<|e.trans z]
  .rw[sq e,sq e,ih]
theorem ap6(kvs:Z (κ×V))(k j:κ)(y:V):wu (jN kvs k y) j=if j=k then some y else wu kvs j:=by
 unfold jN;by_cases a:(kvs.any λkv=>decide<|kv.1=k)=true
 .rw[if_pos a,ajp];rw[xt]at a;by_cases e:j=k
  .obtain⟨x,hx⟩:=Option.isSome_iff_exists.mp a;rw[if_pos e,e,hx,Option.map_some,if_pos rfl]
  .rw[if_neg e];cases wu kvs j with
   | none=>rfl
   | some x=>rw[Option.map_some,if_neg e]
 .rw[if_neg a];refine HH k j y kvs ?_;rw[xt]at a;cases q:wu kvs k with
  | none=>rfl
  | some x=>rw[q]at a;exact(a rfl).elim
def wk(kvs:Z (κ×V))(k:κ)(v:V):(jN kvs k v).length<=kvs.length+1:=by
 unfold jN;split
 .rw[ae];lia
 .rw[bo,bx,jl];lia
def aqc{kvs:Z (κ×V)}{k:κ}(v:V)(h:wu kvs k=none):jN kvs k v=kvs++[(k,v)]:=by unfold jN;rw[xt,h];exact if_neg<|by decide
theorem RelO.isSome_eq{o:Option V}{u:Option aA}(r:RelO o u):o.isSome=u.isSome:=by
 cases o with
 | none=>cases u with
  | none=>rfl
  | some _=>exact(show False from r).elim
 | some _=>cases u with
  | none=>exact(show False from r).elim
  | some _=>rfl
theorem RelO.getD{o:Option V}{u:Option aA}{d:V}{d':aA}(r:RelO o u)(rd:RelV d d'):RelV (o.getD d) (u.getD d'):=by
 cases o with
 | none=>cases u with
  | none=>exact rd
  | some _=>exact(show False from r).elim
 | some _=>cases u with
  | none=>exact(show False from r).elim
  | some _=>exact r
theorem KV.val{kvs:Z (κ×V)}{vs:Z (κ×aA)}(r:KV kvs vs)(k:κ):RelO (wu kvs k) (fY vs k):=by
 unfold KV at r;induction r with
 | nil=>exact True.intro
 | @cons p q ps qs h t ih=>
  obtain⟨h1,h2⟩:=h;by_cases e:p.1=k
  .have e':q.1=k:=h1.symm.trans e;have b:fY (q::qs) k=some q.2:=by simp[fY,ii,e']
   rw[sr e,b];exact h2
  .have e':¬q.1=k:=λz=>e<|h1.trans z;have b:fY (q::qs) k=fY qs k:=by simp[fY,ii,e']
   rw[sq e,b];exact ih
theorem KV.any{kvs:Z (κ×V)}{vs:Z (κ×aA)}(r:KV kvs vs)(k:κ):(kvs.any λkv=>decide<|kv.1=k)=vs.any λkv=>decide (kv.1=k):=by
 unfold KV at r;induction r with
 | nil=>rfl
 | cons h t ih=>rw[List.any_cons,List.any_cons,ih,h.1]
theorem KV.repl{kvs:Z (κ×V)}{vs:Z (κ×aA)}(r:KV kvs vs)(k:κ){y:V}{u:aA}(ry:RelV y u) :
  KV (kvs.map λkv=>if kv.1=k then(kv.1,y)else kv) (vs.map λkv=>if kv.1=k then(kv.1,u)else kv):=by
 unfold KV at r⊢;induction r with
 | nil=>exact .nil
 | @cons p q ps qs h t ih=>
  rw[cm,cm];refine .cons ?_ ih;obtain⟨h1,h2⟩:=h;by_cases e:p.1=k
  .rw[if_pos e,if_pos<|h1.symm.trans e];exact⟨h1,ry⟩
  .rw[if_neg e,if_neg λz=>e<|h1.trans z];exact⟨h1,h2⟩
def KV.put{kvs:Z (κ×V)}{vs:Z (κ×aA)}(r:KV kvs vs)(k:κ){y:V}{u:aA}(ry:RelV y u):KV (jN kvs k y) (AK vs k u):=by
 unfold jN AK;rw[r.any k];by_cases e:(vs.any λkv=>decide<|kv.1=k)=true
 .rw[if_pos e,if_pos e];exact r.repl k ry
 .rw[if_neg e,if_neg e];exact cH.snoc r ⟨rfl,ry⟩
theorem KV.length{kvs:Z (κ×V)}{vs:Z (κ×aA)}(r:KV kvs vs):kvs.length=vs.length:=cH.length r
end
theorem Ei{P:aM}{w:aN}{k:Key}{u:aA}(r:RelV (kV k) u):(qw P w).is k u=true:=by
 cases k with
 | inl i=>obtain⟨t,e⟩:=(show ∃t,u=aA.int i t from r);subst e;exact ahj P w i t
 | inr x=>obtain⟨t,e⟩:=(show ∃t,u=aA.str x t from r);subst e;exact ab6 P w x t
theorem afz{P:aM}{w:aN}:∀{ks:Z Key} {us:Z aA},Vals (ks.map kV) us->ItemsAre (qw P w) ks us
 | [],_,r=>by rw[List.map_nil]at r;cases r;exact .nil
 | k::ks,_,r=>by
  rw[cm]at r;cases r with
  | cons h t=>exact .cons (Ei h)<|afz t
noncomputable abbrev KT(H:Hp):Z (Z Key×V)->Z (Z Key×aG×aA)->Prop:=cH λp q=>p.1=q.1/\H q.2.1=some (.tup<|p.1.map kV)/\RelV p.2 q.2.2
theorem KT.val{H:Hp}{kvs:Z (Z Key×V)}{xs:Z (Z Key×aG×aA)}(r:KT H kvs xs)(k:Z Key):RelO (wu kvs k) ((eM xs k).map (·.2)):=by
 induction r with
 | nil=>exact True.intro
 | @cons p q ps qs h t ih=>
  obtain⟨h1,_,h2⟩:=h;by_cases e:p.1=k
  .have e':q.1=k:=h1.symm.trans e;have b:eM (q::qs) k=some q.2:=by simp[eM,ii,e']
   rw[sr e,b];exact h2
  .have e':¬q.1=k:=λz=>e<|h1.trans z;have b:eM (q::qs) k=eM qs k:=by simp[eM,ii,e']
   rw[sq e,b];exact ih
theorem KT.repl{H:Hp}{kvs:Z (Z Key×V)}{xs:Z (Z Key×aG×aA)}(r:KT H kvs xs)(k:Z Key){y:V}{u:aA}(ry:RelV y u) :
  KT H (kvs.map λkv=>if kv.1=k then(kv.1,y)else kv) (xs.map<|putAt k u):=by
 induction r with
 | nil=>exact .nil
 | @cons p q ps qs h t ih=>
  rw[cm,cm];refine .cons ?_ ih;obtain⟨h1,h2,h3⟩:=h;unfold putAt;by_cases e:p.1=k
  .rw[if_pos e,if_pos<|h1.symm.trans e];exact⟨h1,h2,ry⟩
  .rw[if_neg e,if_neg λz=>e<|h1.trans z];exact⟨h1,h2,h3⟩
def KT.put{H:Hp}{kvs:Z (Z Key×V)}{xs:Z (Z Key×aG×aA)}(r:KT H kvs xs)(k:Z Key){b:aG}{y:V}{u:aA}(hb:H b=some (.tup<|k.map kV))(ry:RelV y u) :
  KT H (jN kvs k y) (eO xs k b u):=by
 have e:(kvs.any λkv=>decide<|kv.1=k)=(eM xs k).isSome:=by rw[xt,(r.val k).isSome_eq,Option.isSome_map]
 unfold jN eO;rw[e];by_cases q:(eM xs k).isSome=true
 .rw[if_pos q,if_pos q];exact r.repl k ry
 .rw[if_neg q,if_neg q];exact cH.snoc r ⟨rfl,hb,ry⟩
def KT.keeps{H H':Hp}{kvs:Z (Z Key×V)}{xs:Z (Z Key×aG×aA)}(r:KT H kvs xs)(ht:∀b ys,H b=some (.tup ys)->H' b=some (.tup ys)):KT H' kvs xs:=
 cH.mapP r λ_ _ z=>⟨z.1,ht _ _ z.2.1,z.2.2⟩
section
variable{P:aM}{w:aN}{H:Hp}{h:Heap}{a:aG}
def ay4{u:HO}(ok:HOk P w H h)(e:Rd H a u):ObjOk P w H h a u:=e.ok ok
def BM{kvs:Z (Key×V)}(ok:HOk P w H h)(e:Rd H a (.dK kvs)):kvs.length<=aF/\(a==bE)=false/\∃vs,KV kvs vs/\h.DictOf (qw P w) a vs:=
 show ObjOk P w H h a (.dK kvs)from ay4 ok e
def ayy{kvs:Z (Key×V)}(ok:HOk P w H h)(e:H a=some (.dK kvs)):kvs.length<=aF/\(a==bE)=false/\∃vs,KV kvs vs/\h.DictOf (qw P w) a vs:=BM ok<|.inl e
def Ep{ks:Z Key}(ok:HOk P w H h)(e:H a=some (.tup<|ks.map kV)):(iI<|qw P w).is h ks a:=by obtain⟨_,its,r,o,h1,h2,n,h3⟩:=(show ObjOk P w H h a (.tup<|ks.map kV)from ok a _ e);exact⟨o,its.toArray,n,h1,h2,h3,by simpa using afz r⟩
theorem BN{kvs:Z (Z Key×V)}(ok:HOk P w H h)(e:Rd H a (.dT kvs)):kvs.length<=aF/\(a==bE)=false/\
  ∃xs,KT H kvs xs/\h.DictOfH (iI<|qw P w) a xs:=by
 obtain⟨z,y,xs,r,o,es,ep,h1,h2,h3,h4,h5⟩:=(show ObjOk P w H h a (.dT kvs)from ay4 ok e);refine⟨z,y,xs,r,o,es,ep,h1,h2,h3,h4,λx hx=>?_,h5⟩;have all:∀{l:Z (Z Key×V)} {m:Z (Z Key×aG×aA)},KT H l m->∀x∈m,(iI<|qw P w).is h x.1 x.2.1:=by
  intro l m q;induction q with
  | nil=>intro x hx;exact nomatch hx
  | @cons p q ps qs hq t ih=>
   intro x hx;rcases a6.mp hx with e|hx
   .subst e;exact Ep ok<|by rw[<-hq.1];exact hq.2.1
   .exact ih x hx
 exact all r x hx
def aw3{kvs:Z (Z Key×V)}(ok:HOk P w H h)(e:H a=some (.dT kvs)):kvs.length<=aF/\(a==bE)=false/\
  ∃xs,KT H kvs xs/\h.DictOfH (iI<|qw P w) a xs:=BN ok<|.inl e
end
def DGet(H:Hp)(a:aG)(y:V)(r:Option V):Prop:=
 (∃kvs k,Rd H a (.dK kvs)/\y=kV k/\r=wu kvs k)\/∃kvs k b,Rd H a (.dT kvs)/\y=.ref b/\H b=some (.tup<|k.map kV)/\r=wu kvs k
def DPut(H:Hp)(a:aG)(y v:V)(H':Hp):Prop:=
 (∃kvs k,H a=some (.dK kvs)/\y=kV k/\kvs.length<aF/\H'=upd H a (.dK<|jN kvs k v))\/
 ∃kvs k b,H a=some (.dT kvs)/\y=.ref b/\H b=some (.tup<|k.map kV)/\kvs.length<aF/\H'=upd H a (.dT<|jN kvs k v)
theorem DGet.k{H:Hp}{a:aG}{kvs:Z (Key×V)}{k:Key}(e:H a=some (.dK kvs)):DGet H a (kV k) (wu kvs k):=.inl ⟨kvs,k,.inl e,rfl,rfl⟩
def DGet.t{H:Hp}{a b:aG}{kvs:Z (Z Key×V)}{k:Z Key}(e:H a=some (.dT kvs))(eb:H b=some (.tup<|k.map kV)):DGet H a (.ref b) (wu kvs k):=.inr ⟨kvs,k,b,.inl e,rfl,eb,rfl⟩
theorem DPut.k{H:Hp}{a:aG}{kvs:Z (Key×V)}{k:Key}{v:V}(e:H a=some (.dK kvs))(hl:kvs.length<aF):DPut H a (kV k) v (upd H a<|.dK<|jN kvs k v):=.inl ⟨kvs,k,e,rfl,hl,rfl⟩
def DPut.t{H:Hp}{a b:aG}{kvs:Z (Z Key×V)}{k:Z Key}{v:V}(e:H a=some (.dT kvs))(eb:H b=some (.tup<|k.map kV))(hl:kvs.length<aF) :
  DPut H a (.ref b) v (upd H a<|.dT<|jN kvs k v):=.inr ⟨kvs,k,b,e,rfl,eb,hl,rfl⟩
section
variable{X:Cx}{aC:Z (aG×Obj)}{σ:St}{H:Hp}{s:aB}{a:aG}{y v:V}{u r:aA}{o:Option V}{A:Around}{E:aA->aB->Prop}
def Inv.big(I:Inv X aC σ H s):bE<s.heap.objs.size:=by have h:aP<s.heap.objs.size:=(I.mod.glob.keeps I.bk).lt;exact Nat.lt_trans (by decide) h
def ank{Q:aA->aB->Prop}(hu:A.units+1<aV)(I:Inv X aC σ H s)(g:DGet H a y (some v))(ry:RelV y u)(h:∀w' s',Inv X aC σ H s'->RelV v w'->Q w' s') :
  aH (aI X.prog X.w) A (eQ (.ref a) u) Q E s:=by
 rcases g with ⟨kvs,k,e,ey,l⟩|⟨kvs,k,b,e,ey,eb,l⟩
 .subst ey;obtain⟨z,hd,vs,iU,dd⟩:=BM I.hok e;obtain⟨w',hw,lZ⟩:=RelO.some_of (v:=v) (o:=fY vs k) (by rw[l];exact iU.val k);exact E9 (Ei ry) dd.mapOf hw<|h w' _ (I.tok _) lZ
 .subst ey;cases (show u=aA.ref b from ry);obtain⟨z,hd,xs,iU,dd⟩:=BN I.hok e;obtain⟨w',hw,lZ⟩:=RelO.some_of (v:=v) (o:=(eM xs k).map (·.2)) (by rw[l];exact iU.val k);obtain⟨p,hp,uC⟩:=ca.mp hw;refine AH (eS hu) (Ep I.hok eb) dd hp ?_;rw[uC];exact h w' _ (I.tok _) lZ
def a3z{Q:aA->aB->Prop}(hu:A.units+1<aV)(I:Inv X aC σ H s)(g:DGet H a y o)(ry:RelV y u)(h:∀s',Inv X aC σ H s'->Q (.bool o.isSome) s') :
  aH (aI X.prog X.w) A (aY .In u<|.ref a) Q E s:=by
 rcases g with ⟨kvs,k,e,ey,l⟩|⟨kvs,k,b,e,ey,eb,l⟩
 .subst ey;obtain⟨z,hd,vs,iU,dd⟩:=BM I.hok e;refine wpAny_in_of (Ei ry) hd dd.mapOf ?_;rw[<-(iU.val k).isSome_eq,<-l];exact h _<|I.tok _
 .subst ey;cases (show u=aA.ref b from ry);obtain⟨z,hd,xs,iU,dd⟩:=BN I.hok e;refine wpAny_in_heap (eS hu) (Ep I.hok eb) hd dd ?_;have q:=(iU.val k).isSome_eq;rw[Option.isSome_map]at q;rw[<-q,<-l];exact h _<|I.tok _
def Md{h':Heap}{t':Nat}{ob:HO}(I:Inv X aC σ H s)(mu:Mut (H a))(hs:b9 a s.heap h')(he:∃q,h'.get? a=some q)(new:ObjOk X.prog X.w (upd H a ob) h' a ob) :
  Inv X aC σ (upd H a ob) {s with heap:=h',toks:=t'}:=
 I.write (x:=a) (e:=a) mu (.inl rfl) (λb q hb z=>(hs.2 b hb).trans z) he new
def aw4{P:aM}{w:aN}{H':Hp}{h':Heap}{kvs:Z (Key×V)}{vs:Z (Key×aA)}(z:kvs.length<=aF)(hd:(a==bE)=false)(iU:KV kvs vs)(dd:h'.DictOf (qw P w) a vs) :
  ObjOk P w H' h' a (.dK kvs):=⟨z,hd,vs,iU,dd⟩
def amx{H':Hp}{Q:Unit->aB->Prop}(hu:A.units+1<aV)(I:Inv X aC σ H s)(g:DPut H a y v H')(ry:RelV y u)(rv:RelV v r)(h:∀s',Inv X aC σ H' s'->Q () s') :
  aH (aI X.prog X.w) A (setItem (.ref a) u r) Q E s:=by
 rcases g with ⟨kvs,k,e,ey,l,eH⟩|⟨kvs,k,b,e,ey,eb,l,eH⟩
 .subst ey eH;obtain⟨z,hd,vs,iU,dd⟩:=ayy I.hok e;have hz:vs.length<=aF:=by rw[<-iU.length];exact z
  have hl:(jN kvs k v).length<=aF:=by have:=wk kvs k v;lia
  refine wpAny_setItem_pairs (hsz:=hz) (Ei ry) dd λh' Bp hs=>h _ ?_;have he:∃q,h'.get? a=some q:=let ⟨q,_,_,hq,_⟩:=Bp;⟨q,hq⟩
  exact Md I (by rw[e];exact True.intro) hs he<|aw4 hl hd (iU.put k rv) Bp
 .subst ey eH;cases (show u=aA.ref b from ry);obtain⟨z,hd,xs,iU,dd⟩:=aw3 I.hok e;have hz:xs.length<=aF:=by rw[<-cH.length iU];exact z
  have hl:(jN kvs k v).length<=aF:=by have:=wk kvs k v;lia
  refine wpAny_setItem_heap (hsz:=hz) (eS hu) (Ep I.hok eb) dd λh' Bp hs=>h _ ?_;obtain⟨q,es,ep,hq,h2,h3,h4,_,h5⟩:=Bp;refine Md I (by rw[e];exact True.intro) hs ⟨q,hq⟩ ⟨hl,hd,_,(iU.put k eb rv).keeps λc ys ec=>?_,q,es,ep,hq,h2,h3,h4,h5⟩;rw[p8 (Ld ec e λz=>nomatch z)];exact ec
end
def Gm(i:Expr):Prop:=∀ov iv,lX i false ov iv=operate [ov,iv] (eQ ov iv)
theorem ao0{prog:aM}{w:aN}{A:Around}{E:aA->aB->Prop}{s:aB}{env:oX}{value fE:Expr}{pos:dH}{T id:String}{Q:aA->aB->Prop}
  (hl:fZ (.type T) "__getitem__" = aS (some<|.builtin id)) (hs:Gm fE)
  (h:aH (aI prog w) A (bQ value env) (λo s₁=>aH (aI prog w) A (bQ fE env) (λi s₂=>s₂.TypeIs o T/\aH (aI prog w) A (eQ o i) Q E s₂) E s₁) E s) :
  aH (aI prog w) A (bQ (.Subscript value fE pos) env) Q E s:=by
 refine B6<|jb h (λo s₁ h₁=>jb h₁ (λi s₂ h₂=>?_) λ_ _ x=>x) λ_ _ x=>x;obtain⟨hT,h₂⟩:=h₂;unfold qB;refine ab ?_;rw[getitemInPython_of_ne hT.not_modules];refine ab<|jy hT hl ?_;have fin:aH (aI prog w) A (lX fE false o i) (λr s₃=>aH (aI prog w) A (letTemporaryGo value o r >>= λ_=>aS r) Q E s₃) E s₂:=by rw[hs o i];exact wpAny_operating<|jb h₂ (λr s₃ h₃=>ab<|wpAny_letTemporaryGo<|ah h₃) λ_ _ x=>x
 first
  | exact ah (ab fin)
  | exact ab (ah<|ab fin)
  | exact ab fin
def aia{X:Cx}{aC:Z (aG×Obj)}{σ:St}{H:Hp}{s:aB}{a:aG}{y:V}{o:Option V}(I:Inv X aC σ H s)(g:DGet H a y o):s.TypeIs (.ref a) "dict":=by
 rcases g with ⟨kvs,k,e,_,_⟩|⟨kvs,k,b,e,_,_,_⟩
 .obtain⟨_,_,vs,_,dd⟩:=BM I.hok e;exact dd.typeIs
 .obtain⟨_,_,xs,_,dd⟩:=BN I.hok e;exact dd.typeIs
def a0v(td ty:TE):TE:=λσ H Q=>td σ H λx H1=>ty σ H1 λy H2=>∃a v,x=.ref a/\DGet H2 a y (some v)/\Q v H2
def a3w(ty td:TE):TE:=λσ H Q=>ty σ H λy H1=>td σ H1 λx H2=>∃a o,x=.ref a/\DGet H2 a y o/\Q (.bl o.isSome) H2
def a0t(td ty tv:TE):TS:=λD σ H=>tv σ H λv H1=>td σ H1 λx H2=>ty σ H2 λy H3=>∃a H4,x=.ref a/\DPut H3 a y v H4/\D.nx σ H4
section
variable{X:Cx}{o i e value:Expr}{pos oZ iJ:dH}{td ty tv:TE}
def Mh(hu:X.A.units+1<aV)(ho:PE X o td)(hi:PE X i ty)(hs:Gm i):PE X (.Subscript o i pos) (a0v td ty):=by intro aC s σ H Q I h;refine ao0 PySem.F.slot_dict_getitem.lookup hs<|thn (ho aC s σ H _ I h) λu s1 ⟨x,H1,I1,rx,q1⟩=>thn (hi aC s1 σ H1 _ I1 q1) λiv s2 ⟨y,H2,I2,ry,a,v,ex,g,q2⟩=>?_;subst ex;obtain rfl:u=aA.ref a:=rx;exact⟨aia I2 g,ank hu I2 g ry λw' s3 I3 lZ=>⟨v,H2,I3,lZ,q2⟩⟩
def atg(hu:X.A.units+1<aV)(hi:PE X i ty)(ho:PE X o td):PC X .In i o (a3w ty td):=by intro aC s σ H Q I h;refine thn (hi aC s σ H _ I h) λiv s1 ⟨y,H1,I1,ry,q1⟩=>thn (ho aC s1 σ H1 _ I1 q1) λu s2 ⟨x,H2,I2,rx,a,ov,ex,g,q2⟩=>?_;subst ex;obtain rfl:u=aA.ref a:=rx;exact a3z hu I2 g ry λs3 I3=>⟨.bl ov.isSome,H2,I3,rfl,q2⟩
def L5(hu:X.A.units+1<aV)(ho:PE X o td)(hi:PE X i ty)(hv:PE X value tv)(hs:iK value (some<|.Subscript o i oZ) pos.line X.env=aS false) :
  PS X (.Assign [.Subscript o i oZ] value pos) (a0t td ty tv):=by
 intro aC s σ H D I h;refine wpAny_Assign_Subscript (thn (hv aC s σ H _ I h) λr s1 ⟨v,H1,I1,rv,q1⟩=>thn (ho aC s1 σ H1 _ I1 q1) λu s2 ⟨x,H2,I2,rx,q2⟩=>thn (hi aC s2 σ H2 _ I2 q2) λiv s3 ⟨y,H3,I3,ry,a,H4,ex,g,q3⟩=>?_) hs;subst ex;obtain rfl:u=aA.ref a:=rx;exact amx hu I3 g ry rv λs4 I4=>⟨σ,H4,I4,q3⟩
end
def aql{P:aM}{w:aN}{H:Hp}(h:Heap)(hb:bE<h.objs.size):ObjOk P w H (h.push {cls:=.type "dict",data:=.dict #[]}) h.objs.size (.dK []):=
 ⟨fk _,beq_eq_false_iff_ne.mpr<|Ne.symm<|cf hb,[],.nil,Heap.DictOf.new h⟩
structure M2(X:Cx)(o:Expr)(m:Str)(fN:dH)(e f:Expr)(fB:dH):Prop where
 base:jM o m X.env (bQ o X.env)=bQ o X.env
 few:((cY fB<|aU [e,f] X.env).all (λx=>!x.1)&&(xU fB<|mH [] X.env).all (λx=>x.1.isSome)
  && decide (([e,f]:Z Expr).length+([]:Z nQ).length+(if ([]:Z nQ).isEmpty then 0 else 1)<30))=true
 line:(fN.endLine==fB.line)=true
 trees:cY fB (aU [e,f] X.env)=[(false,bQ e X.env),(false,bQ f X.env)]
def IsD(H:Hp)(a:aG):Prop:=(∃kvs,Rd H a<|.dK kvs)\/∃kvs,Rd H a<|.dT kvs
def atj{X:Cx}{aC:Z (aG×Obj)}{σ:St}{H:Hp}{s:aB}{a:aG}(I:Inv X aC σ H s)(d:IsD H a) :
  s.TypeIs (.ref a) "dict"/\(∀b,aA.ref a=.ref b->∃ob,s.heap.get? b=some ob/\ob.dict=none)/\(a==bE)=false:=by
 rcases d with ⟨kvs,e⟩|⟨kvs,e⟩
 .obtain⟨_,hd,vs,_,dd⟩:=BM I.hok e;refine⟨dd.typeIs,λb q=>?_,hd⟩;cases q;obtain⟨ob,_,_,h1,h2,_⟩:=dd;exact⟨ob,h1,h2.2.1⟩
 .obtain⟨_,hd,xs,_,dd⟩:=BN I.hok e;refine⟨dd.typeIs,λb q=>?_,hd⟩;cases q;obtain⟨ob,_,_,h1,h2,_⟩:=dd;exact⟨ob,h1,h2.2.1⟩
section
variable{X:Cx}{aC:Z (aG×Obj)}{σ:St}{H:Hp}{s:aB}{a:aG}{y d:V}{u r:aA}{o:Option V}{A:Around}{E:aA->aB->Prop}
def axl{Q:aA->aB->Prop}(hu:A.units+1<aV)(I:Inv X aC σ H s)(g:DGet H a y o)(ry:RelV y u)(rd:RelV d r)(h:∀w' s',Inv X aC σ H s'->RelV (o.getD d) w'->Q w' s') :
  aH (aI X.prog X.w) A (call (.builtin "dict.get") [.ref a,u,r]) Q E s:=by
 rcases g with ⟨kvs,k,e,ey,l⟩|⟨kvs,k,b,e,ey,eb,l⟩
 .subst ey;obtain⟨z,hd,vs,iU,dd⟩:=BM I.hok e;refine uN PySem.F.slot_dict_get dd.typeIs PySem.F.entry_dict_get (PySem.F.args_dict_get_3 _ _ _) (meets_dict_get_default (qw X.prog X.w) a (Ei ry) hd r) ⟨_,dd.mapOf,h _ _ (I.tok _) ?_⟩;rw[l];exact(iU.val k).getD rd
 .subst ey;cases (show u=aA.ref b from ry);obtain⟨z,hd,xs,iU,dd⟩:=BN I.hok e;refine uN PySem.F.slot_dict_get dd.typeIs PySem.F.entry_dict_get (PySem.F.args_dict_get_3 _ _ _) (meetsH_dict_get_default (iI<|qw X.prog X.w) a b hd r) ⟨eS hu,k,xs,Ep I.hok eb,dd,h _ _ (I.tok _) ?_⟩;rw[l];exact(iU.val k).getD rd
end
def ay5(td ty tx:TE):TE:=λσ H Q=>td σ H λx H1=>∃a,x=.ref a/\IsD H1 a/\ty σ H1 λy H2=>tx σ H2 λz H3=>∃o,DGet H3 a y o/\Q (o.getD z) H3
section
variable{X:Cx}{o e f:Expr}{fN fB:dH}{td ty tx:TE}
def aqj(hu:X.A.units+1<aV)(ho:PE X o td)(he:PE X e ty)(hf:PE X f tx)(m:M2 X o "get" fN e f fB):PE X (.Call (.Attribute o "get" fN) [e,f] [] fB) (ay5 td ty tx):=by
 intro aC s σ H Q I h;refine wpAny_Call_method m.base m.few m.line PySem.F.plainAttrs_dict PySem.F.slot_dict_get PySem.F.type_dict_get<|thn (ho aC s σ H _ I h) λu s1 ⟨x,H1,I1,rx,a,ex,d,q1⟩=>?_;subst ex;obtain rfl:u=aA.ref a:=rx;obtain⟨t1,t2,_⟩:=atj I1 d;refine⟨t1,t2,?_⟩;rw[m.trees];refine Calls.callWith_builtin rfl (Calls.evalArgs_plain (Calls.spliced_cons (thn (he aC s1 σ H1 _ I1 q1) λiv s2 ⟨y,H2,I2,ry,q2⟩=>
  Calls.spliced_cons (thn (hf aC s2 σ H2 _ I2 q2) λfv s3 ⟨z,H3,I3,rz,ov,g,q3⟩=>Calls.spliced_nil ?_))))
 exact axl hu I3 g ry rz λw' s4 I4 lZ=>⟨_,H3,I4,lZ,q3⟩
end
end L2
namespace L3
open PySem
def al2:fZ (.type "dict_values") "__len__" = aS (some<|.builtin "dict_values.__len__"):=by rw[mV,gQ];kernel_rfl
section
variable{prog:aM}{w:aN}{K:Type}[DecidableEq K]{knd:KeyKind prog w K}{A:Around}{E:aA->aB->Prop}{s:aB}{v d:aG}{kvs:Z (K×aA)}
def age{Q:Z aA->aB->Prop}(hh:A.handled=none)(hv:s.heap.IsValuesView v d)(hd:s.heap.DictOf knd d kvs)(hz:kvs.length<=aF)
  (hQ:∀s',(∀b o,s.heap.get? b=some o->s'.heap.get? b=some o)->s'.gens=s.gens->s'.drawn=s.drawn->s'.os=s.os->Q (kvs.map (·.2)) s'):aH (aI prog w) A (gF<|.ref v) Q E s:=by
 obtain⟨ep,hm⟩:=hd.dictAt;obtain⟨ov,FH,hcv,hdv⟩:=id hv;have hvl:=bb FH;have vU:=hm.lt_size;unfold gF;refine ab<|nU<|fc PySem.F.entry_proto_collect ?_;rw[cn PySem.F.plain_proto_collect _];show aH _ A.in1 (CH [] >>= λl=>again<|.builtin "list.__iadd__" ⟨[l,.ref v],[]⟩) _ _ s;refine ab<|ck ?_;refine ah ⟨gl PySem.F.plain_list_iadd _,fc PySem.F.entry_list_iadd ?_⟩;rw[cn PySem.F.plain_list_iadd _];show aH _ A.in1 (mf (.ref s.heap.objs.size) (.ref v)<|.ref s.heap.objs.size) _ _ _;unfold mf;generalize hH:s.heap.push {cls:=.type "list",data:=.seq ([]:Z aA).toArray}=H;have FU:H.objs.size=s.heap.objs.size+1:=by rw[<-hH,Heap.size_push]
 have kp:∀b ob,s.heap.get? b=some ob->H.get? b=some ob:=λb ob e=>hH▸aj _ e;have Kn:H.get? s.heap.objs.size=some {cls:=.type "list",data:=.seq ([]:Z aA).toArray}:=hH▸a7 _ rfl;have hT:∀(s':aB),s'.heap.get? v=some ov->s'.TypeIs (.ref v) "dict_values":=λs' e=>⟨ov,e,hcv⟩;refine ab<|jj (T:="dict_values") (hT _<|kp _ _ FH) ?_;have h1:Builtin.List.listSameRef (.ref s.heap.objs.size) (.ref v)=false:=by show(s.heap.objs.size==v)=false;exact beq_false_of_ne<|Nat.ne_of_gt hvl
 have h2:(aA.type "dict_values" == aA.type "list")=false:=by decide
 have h3:(aA.type "dict_values" == aA.type "tuple")=false:=by decide
 simp only[h1,h2,h3,Bool.or_false,be,if_false];refine ab<|wpAny_pyIter_values (s:={s with heap:=H}) (d:=d) ⟨ov,kp _ _ FH,hcv,hdv⟩ (hm.keep kp) ?_;show aH _ A.in1 _ _ _ {s with heap:=H.push {cls:=.type "dict_valueiterator",data:=.fields #[.ref d,.int 0 0,.int kvs.length 0,.int ep 0]}};generalize hG:H.push {cls:=.type "dict_valueiterator",data:=.fields #[.ref d,.int 0 0,.int kvs.length 0,.int ep 0]}=G;have kg:∀b ob,H.get? b=some ob->G.get? b=some ob:=λb ob e=>hG▸aj _ e;have iC:G.IsValIter H.objs.size d 0 kvs.length ep:=⟨_,hG▸a7 _ rfl,rfl,rfl⟩;show aH _ A.in1 (nF [.ref H.objs.size] _ >>= _) _ _ _;refine ab<|ff ?_;unfold Builtin.List.listLengthHint;have uD:G.get? v=some ov:=kg _ _<|kp _ _ FH;refine ab (jy (T:="dict_values") (v:=.ref v) (hT _ uD) al2 ?_)
 wp_delta
 refine ab<|k7 (T:="dict_values") (v:=.ref v) (b:=true) (hT _ uD) (by rw[oC];kernel_rfl) ?_;show aH _ A.in1 (typeOf (aA.ref v) >>= _) _ _ _;refine ab<|jj (T:="dict_values") (v:=.ref v) (hT _ uD) ?_;refine ah ?_;rw[if_pos (by decide)];show aH _ A.in1 (qF "list.extend.makes-room" >>= λ_=>Builtin.List.listTouch (.ref s.heap.objs.size) >>= λ_=>
  again (.builtin "list.extend.loop" ⟨[.ref s.heap.objs.size,.ref H.objs.size,.ref s.heap.objs.size],[]⟩)) _ _ _
 refine ab<|jm ?_;refine ab ?_;show aH _ A.in1 (dU s.heap.objs.size (·.push .none) >>= λ_=>dU s.heap.objs.size (·.pop)) _ _ _;have hS:G.get? s.heap.objs.size=some {cls:=.type "list",data:=.seq ([]:Z aA).toArray}:=kg _ _ Kn;refine ab<|i9 hS rfl ?_;have DK:=ci (jp (·.push aA.none)) hS rfl;refine i9 (hz:=by seq_fits) DK rfl ?_;have Ki:=ci (jp (·.pop)) DK rfl;have AQ:∀b ob,b≠s.heap.objs.size->G.get? b=some ob->((G.update s.heap.objs.size<|jp (·.push aA.none)).update s.heap.objs.size (jp (·.pop))).get? b=some ob:=
  λb ob hb e=>(b7 _ _<|Ne.symm hb).trans ((b7 _ _<|Ne.symm hb).trans e)
 have nI:H.objs.size≠s.heap.objs.size:=by lia
 have nd:d≠s.heap.objs.size:=cf vU;have W:=(gN.dictValues (prog:=prog) (w:=w) (knd:=knd) (A:=A.in1) hh H.objs.size d (cf<|by rw[FU];exact km vU) kvs ep).toS;refine ah ⟨gl j9 _,codeAny_extend_loopS W hz s.heap.objs.size (λz=>by rcases a6.mp z with z|z;exact nI z.symm;exact nd (ay.mp z).symm) _ kvs.length 0 _ _ _ rfl (fk _)
  ⟨iC.at λo e=>AQ _ o nI e,((hm.keep kp).keep kg).at' λo e=>AQ _ o nd e⟩ Ki (ItemsOf.nil _) λs' pT c' FJ gM tG=>?_⟩
 show aH _ A (load s.heap.objs.size >>= _) _ _ s';refine ab<|AG gM ?_;have e:pT.toList=kvs.map (·.2):=by
  apply List.ext_getElem?;intro i;have hl:pT.size=kvs.length:=tG.1;by_cases hi:i<kvs.length
  .have ea:pT[i]?=some (pT[i]'(by lia)):=getElem?_pos pT i (by lia);obtain⟨k,hk⟩:=tG.2 i _ ea;rw[bi,ea,ax,hk];rfl
  .rw[iw (by simp;lia),iw<|by simp;lia]
 have kept:∀b o,s.heap.get? b=some o->s'.heap.get? b=some o:=λb o eb=>by have hb:=bb eb;have n1:b≠s.heap.objs.size:=cf hb;have n2:b≠H.objs.size:=cf (by rw[FU];exact km hb);exact FJ.heap b o (λz=>by rcases a6.mp z with z|z;exact n1 z;exact n2<|ay.mp z)<|AQ b o n1<|kg _ _<|kp _ _ eb
 refine ah ?_;show Q pT.toList s';rw[e];exact hQ s' kept FJ.gens FJ.drawn FJ.os
def abf(knd:KeyKind prog w K)(v d:aG)(kvs:Z (K×aA))(hz:kvs.length<=aF) :
  MeetsIn prog w (Builtin.«tuple.__new__» ⟨[.type "tuple",.ref v],[]⟩)
   (λA R s=>A.handled=none/\s.heap.IsValuesView v d/\s.heap.DictOf knd d kvs/\∀(s':aB),(∀b o,s.heap.get? b=some o->s'.heap.get? b=some o)->s'.gens=s.gens->s'.drawn=s.drawn->s'.os=s.os->
    R (.ok<|.ret<|.ref s'.heap.objs.size) {s' with heap:=s'.heap.push {cls:=.type "tuple",data:=.seq (kvs.map (·.2)).toArray}}):=
 .of_wp λA R s h=>by
  obtain⟨hh,hv,hd,h⟩:=h;have pF:=sub_tuple_self;have hinit:=init_tuple_lookup;have hmh:=madeHere_tuple;have hT:s.TypeIs (.ref v) "dict_values":=hv.typeIs;have A9:A.in1.handled=none:=hh
  wp_walk using jj hT,age (knd:=knd) A9 hv hd hz
  intro s' hk hg Dy oH;show aH _ _ (jo (kvs.map (·.2)).toArray >>= λv=>ret v) _ _ _;unfold jo;refine ab<|ck ?_ (show(kvs.map (·.2)).toArray.size<=aF by simpa using hz);refine ah ⟨_,rfl,?_⟩;exact h s' hk hg Dy oH
def abx{Q:aA->aB->Prop}(hh:A.handled=none)(hv:s.heap.IsValuesView v d)(hd:s.heap.DictOf knd d kvs)(hz:kvs.length<=aF)
  (h:∀(h':Heap)(tk:Nat),(∀b o,s.heap.get? b=some o->h'.get? b=some o)->Q (.ref h'.objs.size) {s with heap:=h'.push {cls:=.type "tuple",data:=.seq (kvs.map (·.2)).toArray},toks:=tk}) :
  aH (aI prog w) A (call (.type "tuple") [.ref v]) Q E s:=by
 refine callType_newIn F.called_tuple (by decide) (F.typeCall_tuple_1 _) (F.newCall_tuple_1 _) (λobj=>F.args_object_init_2 obj _) F.entry_tuple_new
  (abf knd v d kvs hz) ⟨hh,hv,hd,λs' hk hg Dy oH=>⟨⟨_,a7 _ rfl,rfl⟩,?_⟩⟩
 obtain⟨h',g',d',vB,wW⟩:=s';have e1:g'=s.gens:=hg;have e2:d'=s.drawn:=Dy;have e3:wW=s.os:=oH;subst e1 e2 e3;exact h h' vB hk
end
end L3
namespace L3
open PySem PySem.Spec PyProof.Rows L2
section
variable{X:Cx}{o:Expr}{p fN pos nB:dH}{td:TE}
def ars(td:TE):TE:=λσ H Q=>td σ H λx H1=>∃a kvs,x=.ref a/\H1 a=some (.dK kvs)/\∀r,H1 r=none->Q (.ref r) (upd H1 r<|.tup<|kvs.map (·.2))
theorem ax0{kvs:Z (Key×V)}{vs:Z (Key×aA)}(r:KV kvs vs):Vals (kvs.map (·.2)) (vs.map (·.2)):=by
 induction r with
 | nil=>exact .nil
 | cons h _ ih=>exact .cons h.2 ih
def ald(hc:X.calm=true)(hg:Gl X "tuple")(hm:X.mg "tuple" = none)(ho:PE X o td)
  (mM:jM o "values" X.env (bQ o X.env)=bQ o X.env:=by rfl) (fG:(fN.endLine==nB.line)=true:=by rfl):PE X (.Call (.Name "tuple" p) [.Call (.Attribute o "values" fN) [] [] nB] [] pos) (ars td):=by
 intro aC s σ H Q I h;refine jn (wq I hg hm j4 ?_ (by decide)<|by decide);refine gd ?_ (qa rfl) rfl;rw[qa rfl];show aH _ _ (Cn ((false,bQ (.Call (.Attribute o "values" fN) [] [] nB) X.env)::cY pos (aU [] X.env))) _ _ s;refine Calls.spliced_cons ?_;refine qZ mM fG<|thn (ho aC s σ H _ I h) λv s1 ⟨x,H1,I1,r1,a,kvs,ex,ha,q1⟩=>?_;subst ex;obtain rfl:v=aA.ref a:=r1;obtain⟨t1,t2,_⟩:=atj I1<|.inl ⟨kvs,.inl ha⟩;obtain⟨z,hd,vs,iU,dd⟩:=ayy I1.hok ha;have bB:=iU.length;refine(nc ("dict") _ ⟨PySem.F.plainAttrs_dict,PySem.F.slot_dict_values,PySem.F.type_dict_values,t1,t2,Calls.callWith_builtin rfl<|PySem.evalArgs_none ?_⟩);refine uN PySem.F.slot_dict_values t1 PySem.F.entry_dict_values (PySem.F.args_dict_values_1 _) (meets_dict_values (qw X.prog X.w) a hd) ⟨⟨vs,dd⟩,?_⟩;refine Calls.spliced_nil ?_;refine abx (knd:=qw X.prog X.w) (d:=a) (kvs:=vs) (I1.ok.hd hc) ⟨_,a7 _ rfl,rfl,rfl⟩ (dd.push _) (by lia) λh' tk hk=>?_;have cP:∀b ob,s1.heap.get? b=some ob->h'.get? b=some ob:=λb ob e=>hk b ob<|aj _ e;have hsz:s1.heap.objs.size<=h'.objs.size:=by
  rcases Nat.lt_or_ge h'.objs.size s1.heap.objs.size with q|q
  .exfalso;have e0:=hk s1.heap.objs.size _<|a7 _ rfl;exact absurd (Nat.lt_trans (bb e0) q)<|ij _
  .exact q
 refine(nc (.ref h'.objs.size) _ ⟨I1.laid (t':=tk) (a:=h'.objs.size) (o:=.tup<|kvs.map (·.2)) (λb ob q=>aj _<|cP b ob q) hsz ?_,rfl,q1 _<|I1.hok.fresh hsz⟩);exact⟨by rw[ae];exact z,_,ax0 iU,lB.new _ _⟩
end
end L3
namespace L3
structure Mat where
 h:Nat
 w:Nat
 g:Nat->Nat->Nat
noncomputable def pS(M:Mat):Mat:=⟨M.h,M.w,λr c=>M.g r<|M.w-1-c⟩
noncomputable def Go(M:Mat):Mat:=⟨M.w,M.h,λr c=>M.g (M.h-1-c) r⟩
noncomputable def p9:Nat->Mat->Mat
 | 0,M=>M
 | n+1,M=>Go<|p9 n M
noncomputable def jO(t:Nat)(M:Mat):Mat:=p9 (t % 4) (if 4<=t then pS M else M)
noncomputable def qt(M:Mat)(r:Nat):Z Nat:=(cj M.w).map (M.g r)
structure OkM(P:Nat->Prop)(M:Mat):Prop where
 h1:0<M.h
 h8:M.h<=8
 w1:0<M.w
 w8:M.w<=8
 sg:∀r c,r<M.h->c<M.w->P (M.g r c)
def OkM.mir{P:Nat->Prop}{M:Mat}(a:OkM P M):OkM P (pS M):=⟨a.h1,a.h8,a.w1,a.w8,λr c h1 h2=>a.sg r _ h1<|by have fQ:c<M.w:=h2;show M.w-1-c<M.w;lia⟩
def OkM.rot{P:Nat->Prop}{M:Mat}(a:OkM P M):OkM P (Go M):=⟨a.w1,a.w8,a.h1,a.h8,λr c h1 h2=>a.sg _ r (by have fQ:c<M.h:=h2;show M.h-1-c<M.h;lia) h1⟩
theorem OkM.rots{P:Nat->Prop}{M:Mat}(a:OkM P M):∀n,OkM P (p9 n M)
 | 0=>a
 | n+1=>(OkM.rots a n).rot
def OkM.tur{P:Nat->Prop}{M:Mat}(a:OkM P M)(t:Nat):OkM P (jO t M):=by
 unfold jO;split
 .exact a.mir.rots _
 .exact a.rots _
theorem yz{α:Type}{R:α->α->Prop}(as:∀x y,R x y->¬R y x):∀{xs ys:List α},xs.Pairwise R->ys.Pairwise R->(∀z,z∈xs↔z∈ys)->xs=ys
 | [],[],_,_,_=>rfl
 | [],y::ys,_,_,h=>absurd ((h y).mpr aq) (by simp)
 | x::xs,[],_,_,h=>absurd ((h x).mp aq) (by simp)
 | x::xs,y::ys,p,q,h=>by
  obtain⟨p1,p2⟩:=gu.mp p;obtain⟨q1,q2⟩:=gu.mp q;have e:x=y:=by
   rcases a6.mp ((h x).mp aq)with e|a
   .exact e
   .rcases a6.mp ((h y).mpr aq)with e|b
    .exact e.symm
    .exact absurd (q1 x a)<|as _ _<|p1 y b
  subst e;refine congrArg _<|yz as p2 q2 λz=>⟨λhz=>?_,λhz=>?_⟩
  .rcases a6.mp ((h z).mp (ar _ hz))with e|a
   .subst e;exact absurd (p1 z hz) λk=>as _ _ k k
   .exact a
  .rcases a6.mp ((h z).mpr (ar _ hz))with e|a
   .subst e;exact absurd (q1 z hz) λk=>as _ _ k k
   .exact a
end L3
namespace L3
open PySem PySem.Spec PyProof.Rows L2
noncomputable def sLt(x y:Str):Bool:=decide<|x.cps.toList<y.cps.toList
def aub{x y:Str}(h:sLt x y=true):sLt y x=false:=by have h':x.cps.toList<y.cps.toList:=of_decide_eq_true h;exact decide_eq_false<|List.lt_asymm h'
def axz{a b c:Str}(h1:sLt b a=false)(h2:sLt c b=false):sLt c a=false:=by have eR:a.cps.toList<=b.cps.toList:=of_decide_eq_false h1;have fQ:b.cps.toList<=c.cps.toList:=of_decide_eq_false h2;exact decide_eq_false<|List.le_trans eR fQ
def Lx{a b:Str}(h1:sLt a b=false)(h2:sLt b a=false):a=b:=by
 have eR:b.cps.toList<=a.cps.toList:=of_decide_eq_false h1;have fQ:a.cps.toList<=b.cps.toList:=of_decide_eq_false h2;have e:=List.le_antisymm fQ eR;cases a;cases b;simp only at e
 congr
 exact Array.ext' e
def awf(a:Str):sLt a a=false:=decide_eq_false<|List.lt_irrefl _
def zf(i j:Int)(r r':Z U):rq (.int i::r) (.int j::r')=if i=j then rq r r' else decide (i<j):=by
 show(if (i==j)=true then rq r r' else decide (i<j))=_;by_cases h:i=j
 .rw[if_pos h,if_pos<|by rw[h];simp]
 .rw[if_neg h,if_neg<|by simpa using h]
def Ll(x y:Str)(r r':Z U):rq (.str x::r) (.str y::r')=if x=y then rq r r' else sLt x y:=by
 show(if (x==y)=true then rq r r' else decide (x.cps.toList<y.cps.toList))=_;by_cases h:x=y
 .rw[if_pos h,if_pos<|by rw[h];simp]
 .rw[if_neg h,if_neg<|by simpa using h];rfl
theorem GH:∀{ks:Z Bool} {xs ys:Z U},Row ks xs->Row ks ys->rq xs ys=true->rq ys xs=false
 | [],xs,ys,h1,h2,h=>by cases (show xs=[]from h1);cases (show ys=[]from h2);rfl
 | true::ks,xs,ys,h1,h2,h=>by
  obtain⟨i,r,rfl,h1⟩:=h1;obtain⟨j,r',rfl,h2⟩:=h2;rw[zf]at h⊢;by_cases e:i=j
  .rw[if_pos e]at h;rw[if_pos e.symm];exact GH h1 h2 h
  .rw[if_neg e]at h;rw[if_neg (Ne.symm e)];have:=of_decide_eq_true h;exact decide_eq_false (by omega)
 | false::ks,xs,ys,h1,h2,h=>by
  obtain⟨i,r,rfl,h1⟩:=h1;obtain⟨j,r',rfl,h2⟩:=h2;rw[Ll]at h⊢;by_cases e:i=j
  .rw[if_pos e]at h;rw[if_pos e.symm];exact GH h1 h2 h
  .rw[if_neg e]at h;rw[if_neg (Ne.symm e)];exact aub h
theorem Gu:∀{ks:Z Bool} {a b c:Z U},Row ks a->Row ks b->Row ks c->rq b a=false->rq c b=false->rq c a=false
 | [],a,b,c,h1,h2,h3,h4,h5=>by cases (show a=[]from h1);cases (show c=[]from h3);rfl
 | true::ks,a,b,c,h1,h2,h3,h4,h5=>by
  obtain⟨i,r,rfl,h1⟩:=h1;obtain⟨j,r',rfl,h2⟩:=h2;obtain⟨k,r'',rfl,h3⟩:=h3;rw[zf]at h4 h5⊢;by_cases e1:j=i
  .rw[if_pos e1]at h4;by_cases e2:k=j
   .rw[if_pos e2]at h5;rw[if_pos (e2.trans e1)];exact Gu h1 h2 h3 h4 h5
   .rw[if_neg e2]at h5;rw[if_neg (by omega)];have:=of_decide_eq_false h5;exact decide_eq_false<|by omega
  .rw[if_neg e1]at h4;have q1:=of_decide_eq_false h4;by_cases e2:k=j
   .rw[if_neg (by omega)];exact decide_eq_false<|by omega
   .rw[if_neg e2]at h5;have q2:=of_decide_eq_false h5;rw[if_neg (by omega)];exact decide_eq_false (by omega)
 | false::ks,a,b,c,h1,h2,h3,h4,h5=>by
  obtain⟨i,r,rfl,h1⟩:=h1;obtain⟨j,r',rfl,h2⟩:=h2;obtain⟨k,r'',rfl,h3⟩:=h3;rw[Ll]at h4 h5⊢;by_cases e1:j=i
  .rw[if_pos e1]at h4;by_cases e2:k=j
   .rw[if_pos e2]at h5;rw[if_pos (e2.trans e1)];exact Gu h1 h2 h3 h4 h5
   .rw[if_neg e2]at h5;rw[if_neg (by rw[<-e1];exact e2),<-e1];exact h5
  .rw[if_neg e1]at h4;by_cases e2:k=j
   .rw[if_neg (by rw[e2];exact e1),e2];exact h4
   .rw[if_neg e2]at h5;by_cases e3:k=i
    .subst e3;exact absurd (Lx h5 h4) e2
    .rw[if_neg e3];exact axz h4 h5
theorem auo{ks0:Z Bool}{ds:Z U}(h:Rows ks0 ds):Ord (uP ds):=by
 obtain⟨ks,fW,hk⟩:∃ks,ks=true::ks0/\ks≠[]:=⟨_,rfl,by simp⟩;have at':∀i,v8 (ds.getD i .none)=[]\/Row ks (v8<|ds.getD i .none):=λi=>by
  by_cases hi:i<ds.length
  .right;have e:ds.getD i .none=ds[i]:=by simp[List.getD,hi]
   obtain⟨r,e2,hr⟩:=h ds[i] (fj hi);rw[e,e2,fW];exact hr
  .left;have e:ds.getD i .none=.none:=by simp[List.getD,iw<|Nat.le_of_not_lt hi]
   rw[e];rfl
 have ne:∀{r:Z U},Row ks r->∃x xs,r=x::xs:=λ{r} hr=>by
  match ks,hk,hr with
  | true::ks,_,⟨i,r,e,_⟩=>exact(nc _ _ e)
  | false::ks,_,⟨i,r,e,_⟩=>exact(nc _ _ e)
 refine⟨λa b gW=>?_,λa b c h1 h2=>?_⟩
 .show rq (v8<|ds.getD b .none) (v8<|ds.getD a .none)=false;have Ab:rq (v8<|ds.getD a .none) (v8<|ds.getD b .none)=true:=gW;rcases at' a with ea|ea<;>rcases at' b with eb|eb
  .rw[ea,eb];rfl
  .obtain⟨x,xs,e⟩:=ne eb;rw[ea,e];rfl
  .obtain⟨x,xs,e⟩:=ne ea;rw[e,eb]at Ab;cases Ab
  .exact GH ea eb Ab
 .show rq (v8<|ds.getD c .none) (v8<|ds.getD a .none)=false;have eR:rq (v8<|ds.getD b .none) (v8<|ds.getD a .none)=false:=h1;have fQ:rq (v8<|ds.getD c .none) (v8<|ds.getD b .none)=false:=h2;rcases at' a with ea|ea
  .rw[ea];rcases at' c with ec|ec
   .rw[ec];rfl
   .obtain⟨x,xs,e⟩:=ne ec;rw[e];rfl
  .obtain⟨x,xs,e⟩:=ne ea;rcases at' b with eb|eb
   .rw[eb,e]at eR;cases eR
   .obtain⟨y,ys,e2⟩:=ne eb;rcases at' c with ec|ec
    .rw[ec,e2]at fQ;cases fQ
    .exact Gu ea eb ec eR fQ
theorem GE:∀{ks:Z Bool} {a b:Z U},Row ks a->Row ks b->rq a b=false->rq b a=false->a=b
 | [],a,b,h1,h2,_,_=>by cases (show a=[]from h1);cases (show b=[]from h2);rfl
 | true::ks,a,b,h1,h2,h3,h4=>by
  obtain⟨i,r,rfl,h1⟩:=h1;obtain⟨j,r',rfl,h2⟩:=h2;rw[zf]at h3 h4;by_cases e:i=j
  .rw[if_pos e]at h3;rw[if_pos e.symm]at h4;rw[e,GE h1 h2 h3 h4]
  .rw[if_neg e]at h3;rw[if_neg (Ne.symm e)]at h4;have:=of_decide_eq_false h3;have:=of_decide_eq_false h4;exact absurd (by omega) e
 | false::ks,a,b,h1,h2,h3,h4=>by
  obtain⟨i,r,rfl,h1⟩:=h1;obtain⟨j,r',rfl,h2⟩:=h2;rw[Ll]at h3 h4;by_cases e:i=j
  .rw[if_pos e]at h3;rw[if_pos e.symm]at h4;rw[e,GE h1 h2 h3 h4]
  .rw[if_neg e]at h3;rw[if_neg (Ne.symm e)]at h4;exact absurd (Lx h3 h4) e
theorem MJ{α:Type}{R:α->α->Prop}:∀{xs ys:List α},xs.Perm ys->xs.Pairwise R->ys.Pairwise R->(∀x∈xs,∀y∈xs,R x y->R y x->x=y)->xs=ys
 | [],ys,p,_,_,_=>(List.Perm.nil_eq p).symm▸rfl
 | x::xs,[],p,_,_,_=>absurd p.length_eq (by simp)
 | x::xs,y::ys,p,hx,hy,ha=>by
  have vJ:=gu.mp hx;have uB:=gu.mp hy;have m1:y∈x::xs:=p.mem_iff.mpr aq;have m2:x∈y::ys:=p.mem_iff.mp aq;have e:x=y:=by
   rcases a6.mp m1 with e|m
   .exact e.symm
   .rcases a6.mp m2 with e|m'
    .exact e
    .exact ha x aq y m1 (vJ.1 y m)<|uB.1 x m'
  subst e;rw[MJ (List.Perm.cons_inv p) vJ.2 uB.2 λa h1 b h2=>ha a (ar _ h1) b<|ar _ h2]
def yf(ds:Z U):((cj ds.length).map λi=>ds.getD i .none)=ds:=by
 apply List.ext_getElem
 .simp
 .intro i h1 h2;simp[List.getD,h2]
def oz(ds:Z U):(sy ds).Perm ds:=by have h:=(Mt (uP ds) ds.length).map λi=>ds.getD i .none;rw[yf]at h;exact h
theorem ajv{ks:Z Bool}{ds:Z U}(h:Rows ks ds){i j:Nat}{x y:U}(hx:(sy ds)[i]?=some x)(hy:(sy ds)[j]?=some y)(cJ:i<=j):rq (v8 y) (v8 x)=false:=by
 unfold sy at hx hy;rw[ax]at hx hy;have hj:j<(srt (uP ds) ds.length).length:=by
  cases e:(srt (uP ds) ds.length)[j]? with
  | none=>rw[e]at hy;cases hy
  | some k=>exact(ak.mp e).1
 have hi:i<(srt (uP ds) ds.length).length:=by omega
 rw[af hi]at hx;rw[af hj]at hy;cases hx;cases hy;have u:=ash (auo h) ds.length cJ (by rw[MV]at hj;exact hj);have e1:(srt (uP ds) ds.length).getD i 0=(srt (uP ds) ds.length)[i]:=by simp[List.getD,hi]
 have e2:(srt (uP ds) ds.length).getD j 0=(srt (uP ds) ds.length)[j]:=by simp[List.getD,hj]
 rw[e1,e2]at u;exact u
end L3
namespace L3
open PySem PySem.Spec PyProof.Rows
section
variable{prog:aM}{w:aN}{A:Around}{R:iF->aB->Prop}{I:aG}{fp wr:Z aG}{n:Nat}{P:Nat->aA->Prop}{St:Nat->Heap->Prop}
theorem anu(kw:Z (Str×aA))(W:gN prog w A.in1 I fp wr n P St)(bt:Nat->Nat->Bool)(cK:CmpOf prog w A.in1 .Gt P bt)(S:aG)(iV:S∉fp) :
  ∀(k j:Nat)(s:aB)(vb:aA)(c:Nat),n-(j+1)=k->j+1<=n->St (j+1) s.heap->P (bU bt j) vb->
  s.heap.get? S=some {cls:=.type "list",dict:=none,data:=.seq #[vb,vb] c,slots:=#[]}->
  (∀v h' tk,P (bU bt<|n-1) v->(∀b o,b∉wr->b≠S->s.heap.get? b=some o->h'.get? b=some o)->R (.ok<|.ret v) {s with heap:=h',toks:=tk})->
  bT (aI prog w) A (.builtin "max.loop" ⟨[.ref I,.none,.ref S],kw⟩) R s:=by
 have tH:S∉wr:=λh=>iV<|W.sub _ h;have nm:(bO "max" ++ bO ".loop" : String)="max.loop":=by decide
 intro k;induction k with
 | zero=>
  intro j s vb c hk hj dY wA hS hR;have eZ:j+1=n:=by omega
  refine fc F.entry_max_loop ?_;rw[cn k8 _];show aH _ A.in1 (dA (.ref S) >>= _) _ _ s;refine ab<|ig hS rfl ?_;show aH _ A.in1 (fO (bC<|.ref I) _ >>= _) _ _ s;refine ab<|kb<|W.done s _ _ (eZ▸dY) λh' tk cP=>?_;have gM:=cP S _ tH hS;show aH _ A.in1 (dU S (λ_=>#[]) >>= _) _ _ _;refine ab<|i9 gM rfl<|ab<|me<|ah ?_;exact hR vb _ tk (by rw[<-eZ];exact wA) λb o iR lG e=>(b7 _ _<|Ne.symm lG).trans (cP b o iR e)
 | succ k ih=>
  intro j s vb c hk hj dY wA hS hR;have bN:j+1<n:=by omega
  refine fc F.entry_max_loop ?_;rw[cn k8 _];show aH _ A.in1 (dA (.ref S) >>= _) _ _ s;refine ab<|ig hS rfl ?_;show aH _ A.in1 (fO (bC<|.ref I) _ >>= _) _ _ s;refine ab<|kb<|W.item (j+1) s _ _ bN dY λv h' tk hP gU cP=>?_;have gM:=cP S _ tH hS;show aH _ A.in1 (fO (nF [v,v]<|mC .Gt v vb >>= _) _ >>= _) _ _ _;refine ab<|kb<|ff<|ab<|cK (j+1) (bU bt j) v vb _ _ _ hP wA ?_;refine ab<|ff<|gc ?_;refine ab<|me<|ah ?_;cases hb:bt (j+1) (bU bt j)with
  | true=>
   simp only[if_true];refine ab<|i9 gM rfl<|ab<|me ?_;rw[nm];refine ah ⟨gl k8 _,ih (j+1) _ v _ (by omega) bN (W.frame _ _ _ gU λb zW o e=>?_) (by simp only[bU,hb,if_true];exact hP) (ci _ gM rfl) λv' mO iY pP jF=>?_⟩
   .exact(b7 _ _ λh:S=b=>iV<|by rw[h];exact zW).trans e
   .exact hR v' mO iY pP λb o iR lG e=>jF b o iR lG ((b7 _ _<|Ne.symm lG).trans (cP b o iR e))
  | false=>
   simp only[be,if_false];refine ab<|me ?_;rw[nm];refine ah ⟨gl k8 _,ih (j+1) _ vb c (by omega) bN gU (by simp only[bU,hb,be,if_false];exact wA) gM λv' mO iY pP jF=>?_⟩;exact hR v' mO iY pP λb o iR lG e=>jF b o iR lG<|cP b o iR e
def aks(kw:Z (Str×aA))(W:gN prog w A.in1 I fp wr n P St)(bt:Nat->Nat->Bool)(cK:CmpOf prog w A.in1 .Gt P bt)(S:aG)(iV:S∉fp)(hn:0<n){s:aB}{c:Nat}(dY:St 0 s.heap)
  (hS:s.heap.get? S=some {cls:=.type "list",dict:=none,data:=.seq #[] c,slots:=#[]})
  (hR:∀v h' tk,P (bU bt<|n-1) v->(∀b o,b∉wr->b≠S->s.heap.get? b=some o->h'.get? b=some o)->R (.ok<|.ret v) {s with heap:=h',toks:=tk}) :
  bT (aI prog w) A (.builtin "max.loop" ⟨[.ref I,.none,.ref S],kw⟩) R s:=by
 have tH:S∉wr:=λh=>iV<|W.sub _ h;have nm:(bO "max" ++ bO ".loop" : String)="max.loop":=by decide
 refine fc F.entry_max_loop ?_;rw[cn k8 _];show aH _ A.in1 (dA (.ref S) >>= _) _ _ s;refine ab<|ig hS rfl ?_;show aH _ A.in1 (fO (bC<|.ref I) _ >>= _) _ _ s;refine ab<|kb<|W.item 0 s _ _ hn dY λv h' tk hP gU cP=>?_;have gM:=cP S _ tH hS;show aH _ A.in1 (dU S (λ_=>#[v,v]) >>= _) _ _ _;refine ab<|i9 gM rfl ?_;rw[nm];refine ah ⟨gl k8 _,anu kw W bt cK S iV _ 0 _ v _ rfl hn (W.frame _ _ _ gU λb zW o e=>?_) hP (ci _ gM rfl) λv' mO iY pP jF=>?_⟩
 .exact(b7 _ _ λh:S=b=>iV<|by rw[h];exact zW).trans e
 .exact hR v' mO iY pP λb o iR lG e=>jF b o iR lG<|(b7 _ _<|Ne.symm lG).trans (cP b o iR e)
end
section
variable{prog:aM}{w:aN}{A:Around}{E:aA->aB->Prop}{s:aB}
theorem aip{x d:aA}{Q:aA->aB->Prop}
  (h:aH (aI prog w) A.in1 (lL x) (λit s₂=>∃I fp wr n P St bt,it=.ref I/\gN prog w A.in1 I fp wr n P St/\St 0 s₂.heap/\(∀b∈fp,b<s₂.heap.objs.size)/\0<n/\CmpOf prog w A.in1 .Gt P bt/\
   ∀v h' tk,P (bU bt<|n-1) v->(∀b o,b∉wr->s₂.heap.get? b=some o->h'.get? b=some o)->Q v {s₂ with heap:=h',toks:=tk}) E s) :
  aH (aI prog w) A (call (.builtin "max") [x] [(bm "default",d)]) Q E s:=by
 have nm:(bO "max" ++ bO ".loop" : String)="max.loop":=by decide
 refine jP<|eD F.plain_max F.entry_max ?_;simp only[lR,F.kind_max];have go:aH (aI prog w) A.in1 (Builtin.«max» ⟨[x],[(bm "default",d)]⟩) (λfin s'=>match fin with
   | .done f=>(match (Except.ok f:iF)with|.ok (.ret v)=>Q v s'|.ok _=>False|.error e=>E e s')
   | .again c'=>c'.quiet=true/\bT (aI prog w) A c' (λr s'=>match r with|.ok (.ret v)=>Q v s'|.ok _=>False|.error e=>E e s') s') E s:=by
  show aH _ A.in1 (mh "max" ["key","default"] 0 ⟨[],[(bm "default",d)]⟩ >>= _) _ _ s;refine ab<|j8 (show mh "max" ["key","default"] 0 ⟨[],[(bm "default",d)]⟩=aS [none,some d]from rfl) ?_;refine ab<|ah ?_;refine ab<|jb h (λit s₂ h₂=>?_) λ_ _ e=>e;obtain⟨I,fp,wr,n,P,St,bt,rfl,W,dY,uH,hn,cK,hQ⟩:=h₂;refine ab<|ck ?_;have iV:s₂.heap.objs.size∉fp:=λhm=>ij _<|uH _ hm;rw[nm];refine ah ⟨gl k8 _,aks _ W bt cK s₂.heap.objs.size iV hn (W.frame _ _ _ dY λb _ o e=>aj _ e) (a7 _ rfl) λv h' tk hP hk=>?_⟩;exact hQ v h' tk hP λb o iR e=>hk b o iR (cf<|bb e)<|aj _ e
 cases yX:Manifest.signature? "max" with
 | none=>exact ah go
 | some Ib=>
  have Kg:Bind.checkArgs "max" Ib ⟨[x],[(bm "default",d)]⟩=aS ():=by have:=an7 x d;simpa only [lU,yX]using this
  simp only[Kg];exact ah go
def apm{l:aG}{d:aA}{vs:Z aA}{ns:Z Int}{Q:aA->aB->Prop}(hh:A.handled=none)(hl:s.heap.IsList l vs.toArray)(hi:gH vs ns)(gD:0<ns.length)
  (h:∀h' M (t:tU) tk,(∀b o,s.heap.get? b=some o->h'.get? b=some o)->M∈ns->(∀a,a∈ns->a<=M)->Q (.int M t) {s with heap:=h',toks:=tk}) :
  aH (aI prog w) A (call (.builtin "max") [.ref l] [(bm "default",d)]) Q E s:=by
 obtain⟨xs,e⟩:=hi.allInts.items;have oI:ns=xs.toList.map (·.1):=by rw[<-hi.numsOf,<-nums_intItems,<-e]
 have hsz:0<xs.size:=by have h3:=gD;rw[oI,ae,a9]at h3;exact h3
 rw[e]at hl;refine aip<|iter_intList hl λs₂ e st uH hlI=>?_;subst e;refine(ni _ _ _ _ _<|nc _ _ ⟨rfl,gN.list (A:=A.in1) hh _ l hlI<|xB xs,st,uH,by simpa [xB]using hsz,CmpOf.ints_gt (numAt xs) λ_ _=>xA,λv h' tk hP hk=>?_⟩);have hv:(xB xs)[bU (λi j=>decide<|numAt xs i>numAt xs j) (xs.size-1)]?=some v:=by simpa [xB]using hP
 obtain⟨t,rfl⟩:=xA hv;obtain⟨h1,h2⟩:=argBest_gt (numAt xs)<|xs.size-1;refine h _ _ t tk (old_kept hk) ?_ λa ha=>?_
 .rw[oI,wY];exact getD_mem<|by rw[ae,a9];omega
 .rw[oI]at ha;obtain⟨j,hj,rfl⟩:=mem_getD ha;rw[ae,a9]at hj;rw[<-wY];exact h2 j<|by omega
end
end L3
namespace L3
open PySem PySem.Spec PyProof.Rows L2
section
variable{X:Cx}{x:Str}{p pos rW:dH}{e e2:Expr}{es:Z Expr}{t tk:TA}{te:TE}
def a3v:Z V->Hp->VK->Prop:=λxs H Q=>∃q,∃ns:Z Int,xs=[.ref q]/\H q=some (.lst<|ns.map V.int)/\0<ns.length/\∀M,M∈ns->(∀a∈ns,a<=M)->Q (.int M) H
def a0k(t tk:TA):TE:=λσ H Q=>t σ H λvs H1=>tk σ H1 λzs H2=>zs.length=1/\a3v vs H2 Q
theorem Hl(hc:X.calm=true)(hg:Gl X "max")(hm:X.mg "max" = none)(ha:PA X [e] t)(hkw:PK X [⟨some "default",e2,rW⟩] tk)
  (he:cY pos (aU [e] X.env)=(false,bQ e X.env)::cY pos (aU [] X.env):=by rfl) (gB:(cY pos<|aU [e] X.env).any (·.1)=false:=by rfl) :
  PE X (.Call (.Name "max" p) [e] [⟨some "default",e2,rW⟩] pos) (a0k t tk):=by
 intro aC s σ H Q I h;refine jn (wq I hg hm boot_max ?_ (by decide)<|by decide);refine callWith_kw (thn (ha pos aC s σ H _ I h) λus s1 ⟨vs,H1,I1,r,q⟩=>thn (hkw pos aC s1 σ H1 _ I1 q) λws s2 ⟨zs,H2,I2,rz,IQ,q2⟩=>?_) he gB;obtain⟨d,rfl⟩:∃d,ws=[d]:=by
  have hl:ws.length=1:=rz.length.symm.trans IQ
  match ws,hl with
  | [d],_=>exact⟨d,rfl⟩
 obtain⟨l,ns,rfl,hq,hn,hQ⟩:=q2;obtain⟨u,rfl,r1⟩:=v9 r;cases (show u=aA.ref l from r1);obtain⟨its,rv,pl,hz⟩:=I2.list<|SqL.of (K:=X.K) hq;exact apm (I2.ok.hd hc) pl.isList (ad7 rv) hn λh' M t tk k h1 h2=>(nc (.int M) H2 ⟨I2.kept k,⟨_,rfl⟩,hQ M h1 h2⟩)
end
noncomputable def wt:Z Int->Int
 | []=>0
 | [a]=>a
 | a::b::r=>if wt (b::r)<=a then a else wt (b::r)
theorem zg:∀{ns:Z Int},0<ns.length->wt ns∈ns
 | [],h=>by simp at h
 | [a],_=>by simp[wt]
 | a::b::r,_=>by
  unfold wt;split
  .exact aq
  .exact ar _<|zg<|by simp
theorem EL:∀{ns:Z Int},∀a∈ns,a<=wt ns
 | [],a,h=>by cases h
 | [a],b,h=>by
  have e:b=a:=by simpa using h
  rw[e];exact jx _
 | a::b::r,x,h=>by
  unfold wt;rcases a6.mp h with e|h
  .rw[e];split
   .exact jx _
   .lia
  .have:=EL (ns:=b::r) x h;split
   .lia
   .exact this
def xg{ns:Z Int}{M:Int}(h1:M∈ns)(h2:∀a∈ns,a<=M):M=wt ns:=by have hp:0<ns.length:=List.length_pos_of_mem h1;have a1:=h2 _<|zg hp;have a2:=EL M h1;lia
noncomputable def Aq(m:Int):U->U
 | .tuple [.int r,.int c,.str x]=>.tuple [.int r,.int<|m-c,.str x]
 | d=>d
noncomputable def xW(m:Int):U->U
 | .tuple [.int r,.int c,.str x]=>.tuple [.int c,.int<|m-r,.str x]
 | d=>d
noncomputable def kL(ds:Z U):Z U:=ds.map<|Aq<|wt<|ds.map uq
noncomputable def kY(ds:Z U):Z U:=ds.map<|xW<|wt<|ds.map ul
noncomputable def sj(t:Nat)(ds:Z U):Z U:=(cj<|t % 4).foldl (λa _=>kY a) (if 4<=t then kL ds else ds)
def al1{ds:Z U}(h:Spots ds)(m:Int):Spots (ds.map<|Aq m):=λd hd=>by obtain⟨e,he,rfl⟩:=au.mp hd;obtain⟨r,c,x,rfl⟩:=h e he;exact(oa _ _ _ rfl)
def anl{ds:Z U}(h:Spots ds)(m:Int):Spots (ds.map<|xW m):=λd hd=>by obtain⟨e,he,rfl⟩:=au.mp hd;obtain⟨r,c,x,rfl⟩:=h e he;exact(oa _ _ _ rfl)
def vx{ds:Z U}(h:Spots ds):Rows [true,false] ds:=λd hd=>by obtain⟨r,c,x,rfl⟩:=h d hd;exact(oq _ rfl _ _ ⟨rfl,(nc _ _ ⟨rfl,(nc _ _ ⟨rfl,rfl⟩)⟩)⟩)
section
variable{K:aw}{a:aG}{xs:Z V}{ds:Z U}{σ:L2.St}{H:Hp}{Q:VK}
def ad5{i0:Nat}(j:Int)(pr:U->Int)(hj:∀(r c:Int)(x:Str),atI [V.int r,.int c,.str x] j=some (.int<|pr<|.tuple [.int r,.int c,.str x]))
  (hσ:σ[i0]?=some (some<|.ref a)) (ha:H a=some (.lst xs)) (hr:RepAll H ds xs) (hs:Spots ds) (hl:ds.length<=64)
  (q:∀D H',Same H H'->H' D=some (.lst<|(ds.map pr).map V.int)->Q (.ref D) H') :
  uQ (BS K<|kA i0) [none] (uy 0) x5 (tOp (Ed K) (kA 0)<|tC<|.int j) σ H Q:=by
 have bB:=hr.length;refine(qe _ hσ a ⟨rfl,⟨_,SqL.of ha⟩,λD hD=>?_⟩);refine pk (xs:=xs) (λi ys H'=>Same H H'/\ys=((ds.take i).map pr).map V.int) ⟨Same.fresh _ hD,rfl⟩ (λi ys H' p=>SqL.of<|p.1 _ _ ha) (λi x ys H' hx hi aW eJ p=>?_) λys H' aW eJ p=>?_
 .obtain⟨p1,rfl⟩:=p;obtain⟨b,r,c,z,rfl,hb,hz,hd⟩:=hs.at hr hx;refine⟨Agree.set (Agree.refl _) rfl,?_⟩;dsimp only[x5];refine x9 ?_;refine(mz _ rfl b _ _ _ ⟨rfl,rfl,SqT.of<|p1 _ _ hb,hj r c z,qk (by lia) aW eJ ⟨p1.new hD,?_⟩⟩);rw[nh pr hd,bq];rfl
 .obtain⟨p1,rfl⟩:=p;refine q D H' p1 ?_;rw[aW,a8<|by lia]
def axe(r c:Int)(x:Str):atI [V.int r,.int c,.str x] 0=some (.int<|ul<|.tuple [.int r,.int c,.str x]):=rfl
def azt(r c:Int)(x:Str):atI [V.int r,.int c,.str x] 1=some (.int<|uq<|.tuple [.int r,.int c,.str x]):=rfl
def ahc{m:Int}{i0 j:Nat}{ta tb:TE}(f:Int->U->U)(hσ:σ[i0]?=some (some<|.ref a))(h1:σ[j]?=some (some<|.int m))(ha:H a=some (.lst xs))(hr:RepAll H ds xs)(hs:Spots ds)(hl:ds.length<=64)
  (jC:∀(r c:Int)(z:Str)(H':Hp)(Q':VK),(∃u v:Int,f m (.tuple [.int r,.int c,.str z])=.tuple [.int u,.int v,.str z]/\∀n,H' n=none->Q' (.ref n) (upd H' n<|.tup [.int u,.int v,.str z]))->
   Ar (vn ta<|vn tb<|vn (kA 2) xY) [some (.int r),some<|.int c,some<|.str z,some<|.int m] H' Q')
  (q:∀D ys H',H D=none->Same H H'->H' D=some (.lst ys)->RepAll H' (ds.map<|f m) ys->Q (.ref D) H')
  (iP:∀(r c:Int)(z:Str),∃u v:Int,f m (.tuple [.int r,.int c,.str z])=.tuple [.int u,.int v,.str z]) :
  uQ (BS K<|kA i0) [none,none,none,some j] (Ap K 3<|pY (uy 0)<|pY (uy 1)<|pY (uy 2) Eb) x5 (Ar<|vn ta<|vn tb<|vn (kA 2) xY) σ H Q:=by
 have bB:=hr.length;refine(qe _ hσ a ⟨rfl,⟨_,SqL.of ha⟩,λD hD=>?_⟩);have hp:ua [none,none,none,some j] σ=[none,none,none,some<|.int m]:=by unfold ua;simp[h1]
 have im:∀es:Z U,(∀d∈es,d∈ds)->Spots (es.map<|f m):=λes he d hd=>by obtain⟨d0,h0,rfl⟩:=au.mp hd;obtain⟨r0,c0,x0,rfl⟩:=hs d0<|he d0 h0;obtain⟨u,v,e⟩:=iP r0 c0 x0;exact(oa u v x0 e)
 refine pk (xs:=xs) (λi ys H'=>Same H H'/\RepAll H' ((ds.take i).map (f m)) ys) ⟨Same.fresh _ hD,rfl⟩ (λi ys H' p=>SqL.of<|p.1 _ _ ha) (λi x ys H' hx hi aW eJ p=>?_) λys H' aW eJ p=>?_
 .obtain⟨p1,p2⟩:=p;obtain⟨b,r,c,z,rfl,hb,hz,hd⟩:=hs.at hr hx;rw[hp];refine(nj b _ rfl (SqT.of<|p1 _ _ hb) rfl _ _ rfl _<|oq _ rfl _ _ ⟨rfl,rfl,?_⟩);refine⟨Agree.set (Agree.set (Agree.set (Agree.refl _) rfl) rfl) rfl,?_⟩;dsimp only[x5];refine x9 ?_;obtain⟨u,v,ef⟩:=iP r c z;refine jC r c z H' _<|nc u v ⟨ef,λn hn=>?_⟩;have s2:Same H' (upd H' n<|.tup [.int u,.int v,.str z]):=Same.fresh _ hn;have n2:upd H' n (.tup [.int u,.int v,.str z]) n=some (.tup [.int u,.int v,.str z]):=m8;generalize upd H' n (.tup [.int u,.int v,.str z])=H2 at *;have cT:=s2 _ _ aW;refine qk (by lia) cT eJ ⟨(p1.trans s2).new hD,?_⟩;have rep:RepAll H2 ((ds.take i).map (f m)++[f m (.tuple [.int r,.int c,.str z])]) (ys++[.ref n]):=by
   rw[ef];exact(p2.same s2).snoc (zj n2 hz)
  rw[<-nh (f m) hd]at rep;exact rep.tk (Tk.lst cT)<|Spots.imm<|im _ λd vW=>cx vW
 .obtain⟨p1,p2⟩:=p;rw[a8 (by lia)]at p2;exact q D ys H' hD p1 aW p2
end
end L3
namespace L3
open PySem PySem.W PySem.Calls PyProof.Rows
def an4{vs:Z aA}{p:aJ}(h:p∈(vs.toArray.zip vs.toArray).toList):p.1=p.2/\p.1∈vs:=mem_zip_self<|by simpa using h
def ar2{vs:Z aA}{arr:Array aJ}(h:arr.Perm (vs.toArray.zip vs.toArray)):(arr.map (·.2)).toList.Perm vs:=by
 have h1:=(j3.mp h).map (·.2);have e:(vs.toArray.zip vs.toArray).toList.map (·.2)=vs:=by rw[show(vs.toArray.zip vs.toArray).toList=vs.zip vs by simp];exact List.map_snd_zip<|ao _
 rw[e]at h1;rw[Array.toList_map];exact h1
def ax6{g:aA->Int}{vs:Z aA}{arr:Array aJ}(h:arr.Perm (vs.toArray.zip vs.toArray))(hs:Seg (λp=>g p.1) arr 0 (vs.toArray.zip vs.toArray).size):(arr.map (·.2)).toList.Pairwise λx y=>g x<=g y:=by
 have hsz:=h.size_eq;rw[Array.toList_map,fh];refine gt.mpr λi j hi hj cJ=>?_;have fM:i<arr.size:=by simpa using hi
 have pM:j<arr.size:=by simpa using hj
 have q:=hs i j (fk _) (by lia) (by lia);rw[w6 (getElem?_pos arr i fM),w6<|getElem?_pos arr j pM]at q;have two:∀k (hk:k<arr.size),arr[k].1=arr[k].2:=λk hk=>(an4<|(j3.mp h).mem_iff.mp (by simp)).1;rw[two i fM,two j pM]at q;simpa using q
section
variable{prog:aM}{w:aN}{A:Around}{E:aA->aB->Prop}{s:aB}
def aea{a:aG}{vs:Z aA}{n:Nat}{κ:aX}{g:aA->Int}{P:PySem.Fin->aB->Prop}(ho:s.heap.get? a=some (dJ "list" vs.toArray n))(hz:vs.length<=aF)
  (hk:2<=vs.length->∀s':aB,(∀b o,b≠a->s.heap.get? b=some o->s'.heap.get? b=some o)->
   (∀(Q:aX->aB->Prop)(E:aA->aB->Prop),Q κ s'->aH (aI prog w) A (kU vs.toArray) Q E s')/\
   ∀x y,x∈vs->y∈vs->∀(Q:Bool->aB->Prop),Q (decide<|g x<g y) s'->aH (aI prog w) A (jT κ x y) Q (λ_ _=>False) s')
  (h:∀us:Z aA,us.Perm vs->us.Pairwise (λx y=>g x<=g y)->P (.done<|.ret .none) {s with heap:=sortedHeap s.heap a vs us.toArray}) :
  aH (aI prog w) A (Builtin.«list.sort» ⟨[.ref a],[]⟩) P E s:=by
 have ha:a<s.heap.objs.size:=bb ho;obtain⟨e1,uD⟩:∃e1,(s.heap.update a<|jp λ_=>(#[]:Array aA)).get? a=some (dJ "list" #[] e1):=⟨_,get?_update_seq ho λ_=>#[]⟩;have FI:(((s.heap.update a<|jp λ_=>(#[]:Array aA)).push (dJ "tuple" vs.toArray 0)).push (dJ "list" #[] 0)).get? a=some (dJ "list" #[] e1):=
  aj _ (aj _ uD)
 have kept:∀b o,b≠a->s.heap.get? b=some o->(((s.heap.update a<|jp λ_=>(#[]:Array aA)).push (dJ "tuple" vs.toArray 0)).push (dJ "list" #[] 0)).get? b=some o:=λb o hb e=>
  aj _ (aj _<|(b7 s.heap _<|Ne.symm hb).trans e)
 rw[list_sort_plain];refine ab<|listItems_at ho rfl ?_;refine ab<|qI ho rfl ?_ (by rw[bp];exact hz)<|fk _;refine ab<|wS uD rfl ?_;refine ab (wpAny_newTuple ?_<|by show vs.length<=_;exact hz);refine ab<|pZ ?_<|fk _;refine ff ?_;show aH (aI prog w) A _ P E {s with heap:=((s.heap.update a<|jp λ_=>(#[]:Array aA)).push (dJ "tuple" vs.toArray 0)).push (dJ "list" #[] 0)};dsimp only;have bA:∀(aR:aQ),(aK aR).Perm (vs.toArray.zip vs.toArray)->bM aR=none->Seg (λp=>g p.1) (aK aR) 0 (vs.toArray.zip vs.toArray).size->∃us:Z aA,us.Perm vs/\us.Pairwise (λx y=>g x<=g y)/\(aK aR).map (·.2)=us.toArray:=λaR hp hf hs=>
  ⟨_,ar2 hp,ax6 hp hs,Array.toArray_toList.symm⟩
 by_cases h2:vs.toArray.size<2
 .have fQ:vs.length<2:=by simpa using h2
  rw[if_pos h2,if_pos h2];refine ab<|ah ?_;rw[StateT.run_pure];refine ab<|ah ?_;dsimp only;obtain⟨us,u1,u2,e0⟩:=bA (aQ.mk' general' (vs.toArray.zip vs.toArray) #[] 7 none) (Array.Perm.refl _) rfl (λi j hi cJ hj=>by
   have AT:(vs.toArray.zip vs.toArray).size=vs.length:=by simp
   obtain rfl:i=j:=by lia
   exact jx _)
  have AV:=u1.length_eq;rw[e0];refine ab<|wS FI rfl ?_;refine ab (qI FI rfl ?_ (fk _)<|by rw[bp,AV];exact Nat.le_succ_of_le hz);simp only[bne_self_eq_false,be,if_false];exact ah<|h us u1 u2
 .have fQ:2<=vs.length:=by have:¬vs.length<2:=by simpa using h2
                           lia
  rw[if_neg h2,if_neg h2];obtain⟨k1,k2⟩:=hk fQ {s with heap:=((s.heap.update a<|jp λ_=>(#[]:Array aA)).push (dJ "tuple" vs.toArray 0)).push (dJ "list" #[] 0)} kept;refine ab<|k1 _ _ ?_;refine ab (jb (aib (E:=E) (κ:=κ) (a₀:=vs.toArray.zip vs.toArray) (f:=λp=>g p.1) (mem:=λp=>p.1∈vs) (Q:=λ_ aR=>∃us:Z aA,us.Perm vs/\us.Pairwise (λx y=>g x<=g y)/\(aK aR).map (·.2)=us.toArray/\bM aR=none)
   (λx y hx hy Q hq=>k2 x.1 y.1 hx hy Q hq) (λx hx=>(an4 hx).2) ⟨Array.Perm.refl _,rfl,rfl⟩ rfl (λaR B hs=>?_)) ?_ λ_ _ e=>e)
  .obtain⟨us,u1,u2,e0⟩:=bA aR B.perm B.failed hs;exact⟨us,u1,u2,e0,B.failed⟩
  .rintro⟨⟨⟩,aR⟩ s' ⟨rfl,us,u1,u2,hout,hf⟩;have AV:=u1.length_eq;dsimp only at hout hf⊢;rw[hout];refine ab<|wS FI rfl ?_;refine ab (qI FI rfl ?_ (fk _)<|by rw[bp,AV];exact Nat.le_succ_of_le hz);rw[hf];simp only[bne_self_eq_false,be,if_false];exact ah<|h us u1 u2
end
end L3
namespace L3
open PySem PySem.Spec PyProof.Rows L2
theorem zy{α β:Type}(g:α->β){us vs:List β}(p:us.Perm vs):∀{l:List α},l.map g=vs->∃l':List α,l'.Perm l/\l'.map g=us:=by
 induction p with
 | nil=>intro l e;exact⟨l,j7 _,e⟩
 | cons x p ih=>
  intro l e
  match l,e with
  | a::l,e=>
   rw[cm]at e;obtain⟨e1,e2⟩:=List.cons.inj e;obtain⟨l',p1,e3⟩:=ih e2;exact⟨a::l',p1.cons a,by rw[cm,e1,e3]⟩
 | swap x y r=>
  intro l e
  match l,e with
  | a::b::l,e=>
   rw[cm,cm]at e;obtain⟨e1,e'⟩:=List.cons.inj e;obtain⟨e2,e3⟩:=List.cons.inj e';exact⟨b::a::l,List.Perm.swap _ _ _,by rw[cm,cm,e1,e2,e3]⟩
 | trans p q ih1 ih2=>
  intro l e;obtain⟨l1,p1,e1⟩:=ih2 e;obtain⟨l2,p2,e2⟩:=ih1 e1;exact⟨l2,p2.trans p1,e2⟩
theorem acs{α:Type}{p q:α->Bool}:∀{l:List α},(∀e∈l,p e=true->q e=true)->(∃e∈l,q e=true/\p e=false)->l.countP p<l.countP q
 | [],_,⟨e,he,_⟩=>by simp at he
 | a::l,h,⟨e,he,h1,h2⟩=>by
  have hl:∀e∈l,p e=true->q e=true:=λe he=>h e<|ar _ he;have mono:l.countP p<=l.countP q:=List.countP_mono_left hl;rcases a6.mp he with rfl|he
  .rw[List.countP_cons_of_neg (by simp[h2]),List.countP_cons_of_pos h1];lia
  .have ih:=acs hl ⟨e,he,h1,h2⟩;cases hp:p a with
   | true=>rw[List.countP_cons_of_pos hp,List.countP_cons_of_pos<|h a aq hp];lia
   | false=>
    rw[List.countP_cons_of_neg (by simp[hp])];have:=List.countP_le_length (p:=q) (l:=l);cases hq:q a with
    | true=>rw[List.countP_cons_of_pos hq];lia
    | false=>rw[List.countP_cons_of_neg (by simp[hq])];exact ih
structure wF(lt:U->U->Bool)(ds:Z U):Prop where
 asy:∀x∈ds,∀y∈ds,lt x y=true->lt y x=false
 tr:∀x∈ds,∀y∈ds,∀z∈ds,lt y x=false->lt z y=false->lt z x=false
noncomputable def BP(lt:U->U->Bool)(ds:Z U)(d:U):Int:=((ds.countP λe=>lt e d:Nat):Int)
theorem ann{lt:U->U->Bool}{ds:Z U}(o:wF lt ds){d e:U}(hd:d∈ds)(he:e∈ds):decide (BP lt ds d<BP lt ds e)=lt d e:=by
 have irr:∀x∈ds,lt x x=false:=λx hx=>by
  cases q:lt x x with
  | false=>rfl
  | true=>have:=o.asy x hx x hx q;rw[q]at this;exact this
 unfold BP;cases h:lt d e with
 | true=>
  refine decide_eq_true ?_;have:=acs (p:=λz=>lt z d) (q:=λz=>lt z e) (l:=ds) (λz hz h1=>?_) ⟨d,hd,h,irr d hd⟩
  .lia
  .show lt z e=true;cases q:lt z e with
   | true=>rfl
   | false=>rw[o.tr d hd e he z hz (o.asy d hd e he h) q]at h1;exact h1
 | false=>
  refine decide_eq_false ?_;have:=List.countP_mono_left (p:=λz=>lt z e) (q:=λz=>lt z d) (l:=ds) λz hz h1=>?_
  .lia
  .show lt z d=true;cases q:lt z d with
   | true=>rfl
   | false=>rw[o.tr e he d hd z hz h q]at h1;exact h1
open Classical in
def al0{h:Heap}{lt:U->U->Bool}{os:Z aA}{bP:Z U}(hl:os.length=bP.length)(rd:∀(i:Nat)(v:aA)(d:U),os[i]?=some v->bP[i]?=some d->d.canLay0=true/\∃as,Reads h v d as)(o:wF lt bP) :
  ∃g:aA->Int,(∀(i j:Nat)(u v:aA)(d e:U),os[i]?=some u->bP[i]?=some d->os[j]?=some v->bP[j]?=some e->decide (g u<g v)=lt d e)/\
   ∀us:Z aA,us.Perm os->us.Pairwise (λx y=>g x<=g y)->∃T:Z (U×aA),T.map (·.2)=us/\(T.map (·.1)).Perm bP/\(T.map (·.1)).Pairwise (λx y=>lt y x=false)/\∀t∈T,∃i:Nat,bP[i]?=some t.1/\os[i]?=some t.2:=by
 obtain⟨g,hg⟩:∃g:aA->Int,∀(i:Nat)(d:U)(u:aA),bP[i]?=some d->os[i]?=some u->g u=BP lt bP d:=by refine⟨λu=>if h:∃d,∃as,Reads h u d as/\d∈bP then BP lt bP h.choose else 0,λi d u h1 h2=>?_⟩;obtain⟨lay,as,r⟩:=rd i u d h2 h1;have hx:∃d,∃as,Reads h u d as/\d∈bP:=(nc d as ⟨r,ai h1⟩);show(if h:∃d,∃as,Reads h u d as/\d∈bP then BP lt bP h.choose else 0)=_;rw[dif_pos hx];obtain⟨bs,rb,_⟩:=hx.choose_spec;rw[SeqAt.Reads.unique d hx.choose u as bs lay r rb]
 refine⟨g,λi j u v d e u1 d1 v1 e1=>?_,λus p up=>?_⟩
 .rw[hg i d u d1 u1,hg j e v e1 v1];exact ann o (ai d1)<|ai e1
 .have yL:(bP.zip os).map (λt=>t.2)=os:=List.map_snd_zip (by lia);have first:(bP.zip os).map (λt=>t.1)=bP:=List.map_fst_zip<|by lia
  obtain⟨T,tp,te⟩:=zy (λt:U×aA=>t.2) p yL;have tm:∀t∈T,∃i:Nat,bP[i]?=some t.1/\os[i]?=some t.2:=λt ht=>by obtain⟨i,hi⟩:=fg.mp<|tp.mem_iff.mp ht;obtain⟨a1,a2⟩:=List.getElem?_zip_eq_some.mp hi;exact⟨i,a1,a2⟩
  refine⟨T,te,?_,?_,tm⟩
  .have:=tp.map λt=>t.1;rw[first]at this;exact this
  .rw[fh];rw[<-te,fh]at up;refine eu (λ{a b} ha hb gW=>?_) up;obtain⟨i,a1,a3⟩:=tm a ha;obtain⟨j,b1,b3⟩:=tm b hb;rw[hg i _ _ a1 a3,hg j _ _ b1 b3]at gW;rw[<-ann o (ai b1) (ai a1)];exact decide_eq_false<|by lia
section
variable{prog:aM}{w:aN}{A:Around}{E:aA->aB->Prop}{s:aB}
def akx{v:aA}{κ:aX}{Q:aA->aB->Prop}{P:Z aA->Z U->Prop}(hP:∀os bP,P os bP->os.length<=aF)
  (nK:∀(Q:Z aA->aB->Prop)(E:aA->aB->Prop),(∀os bP h1 tk dr,P os bP->(∀b o,s.heap.get? b=some o->h1.get? b=some o)->Q os {s with heap:=h1,toks:=tk,drawn:=dr})->aH (aI prog w) A.in1 (gF v) Q E s)
  (h:∀os bP,P os bP->∃g:aA->Int,(2<=os.length->∀s':aB,(∀b o,s.heap.get? b=some o->s'.heap.get? b=some o)->
   (∀(Q:aX->aB->Prop)(E:aA->aB->Prop),Q κ s'->aH (aI prog w) A.in1.in1 (kU os.toArray) Q E s')/\
   ∀x y,x∈os->y∈os->∀(Q:Bool->aB->Prop),Q (decide<|g x<g y) s'->aH (aI prog w) A.in1.in1 (jT κ x y) Q (λ_ _=>False) s')/\
   ∀(us:Z aA)(h1 h2:Heap)(tk:Nat) dr e,us.Perm os->us.Pairwise (λx y=>g x<=g y)->(∀b o,s.heap.get? b=some o->h1.get? b=some o)->(∀b o,h1.get? b=some o->h2.get? b=some o)->h2.get? h1.objs.size=some (dJ "list" us.toArray e)->Q (.ref h1.objs.size) {s with heap:=h2,toks:=tk,drawn:=dr}) :
  aH (aI prog w) A (call (.builtin "sorted") [v]) Q E s:=by
 refine Calls.call_function_entry kind_sorted plain_sorted entry_sorted (args_sorted1 _) ?_;unfold Builtin.«sorted»;refine ab (m:=checkCount "sorted" 1 1 _)<|ah<|ab<|nK _ _ λos bP h1 tk dr hp k1=>?_;obtain⟨g,hk,h⟩:=h os bP hp;have nG:=hP os bP hp;refine ab<|pZ ?_ nG;have C8:(h1.push<|dJ "list" os.toArray 0).get? h1.objs.size=some (dJ "list" os.toArray 0):=a7 _ rfl;have keep:∀b o,h1.get? b=some o->(h1.push<|dJ "list" os.toArray 0).get? b=some o:=λb o q=>aj _ q;refine(?_:aH _ _ _ _ _ {s with heap:=h1.push<|dJ "list" os.toArray 0,toks:=tk,drawn:=dr});refine ab<|ff<|dv slot_list_sort ⟨_,C8,rfl⟩ entry_list_sort ?body<|args_list_sort _
 case body=>
  refine aea (κ:=κ) (g:=g) C8 nG (λh2 s' k=>hk h2 s' λb o e=>k b o (cf<|bb<|k1 b o e)<|keep b o<|k1 b o e) λus u1 u2=>?_;obtain⟨e,he⟩:=sortedHeap_at (out:=us.toArray) C8;refine⟨_,rfl,ah ⟨_,rfl,h us h1 _ tk dr e u1 u2 k1 (λb ob q=>?_) he⟩⟩;exact(sortedHeap_old (cf<|bb q)<|by rw[size_push'];exact km<|bb q).trans (keep b ob q)
end
section
variable{X:Cx}{aC:Z (aG×Obj)}{σ:L2.St}{H:Hp}{s:aB}{A:Around}{E:aA->aB->Prop}
theorem ag6(I:L2.Inv X aC σ H s){v:aA}{ds:Z U}{κ:aX}{lt:U->U->Bool}{Q:VK}{P:Z aA->Z U->Prop}
  (hP:∀os bP,P os bP->os.length<=aF/\os.length=bP.length/\bP.Perm ds/\∀(i:Nat) u d,os[i]?=some u->bP[i]?=some d->∃x,RelV x u/\Rep H d x)
  (nK:∀(Q:Z aA->aB->Prop)(E:aA->aB->Prop),(∀os bP h1 tk dr,P os bP->(∀b o,s.heap.get? b=some o->h1.get? b=some o)->Q os {s with heap:=h1,toks:=tk,drawn:=dr})->aH (aI X.prog X.w) A.in1 (gF v) Q E s)
  (o:wF lt ds)
  (hk:∀os bP,P os bP->2<=os.length->∀s':aB,(∀b o,s.heap.get? b=some o->s'.heap.get? b=some o)->∀(Q:aX->aB->Prop)(E:aA->aB->Prop),Q κ s'->aH (aI X.prog X.w) A.in1.in1 (kU os.toArray) Q E s')
  (hc:∀os bP,P os bP->∀s':aB,(∀b o,s.heap.get? b=some o->s'.heap.get? b=some o)->∀(i j:Nat)(d e:U)(u v:aA),os[i]?=some u->bP[i]?=some d->os[j]?=some v->bP[j]?=some e->∀(Q:Bool->aB->Prop),Q (lt d e) s'->aH (aI X.prog X.w) A.in1.in1 (jT κ u v) Q (λ_ _=>False) s')
  (q:∀l ys es,H l=none->es.Perm ds->es.Pairwise (λx y=>lt y x=false)->RepAll (upd H l<|.lst ys) es ys->Q (.ref l) (upd H l<|.lst ys)) :
  aH (aI X.prog X.w) A (call (.builtin "sorted") [v]) (EP X aC σ Q) E s:=by
 refine akx (κ:=κ) (λos bP h=>(hP os bP h).1) nK λos bP hp=>?_;obtain⟨hz,nG,pd,jW⟩:=hP os bP hp;have sub:∀d∈bP,d∈ds:=λd hd=>pd.mem_iff.mp hd;obtain⟨g,g1,g2⟩:=al0 (h:=s.heap) nG (λi v d h1 h2=>by obtain⟨x,e1,e2⟩:=jW i v d h1 h2;exact⟨e2.lay,e2.reads I e1⟩) (lt:=lt) ⟨λx hx y hy=>o.asy x (sub x hx) y<|sub y hy,λx hx y hy z hz=>o.tr x (sub x hx) y (sub y hy) z<|sub z hz⟩
 refine⟨g,λh2 s' k=>⟨hk os bP hp h2 s' k,λx y hx hy Q' hq=>?_⟩,λus h1 h2 tk dr e u1 u2 CP CO hg3=>?_⟩
 .obtain⟨i,hi⟩:=fg.mp hx;obtain⟨j,hj⟩:=fg.mp hy;have di:=af (show i<bP.length by have:=(ak.mp hi).1;lia);have dj:=af (show j<bP.length by have:=(ak.mp hj).1;lia);rw[g1 i j x y _ _ hi di hj dj]at hq;exact hc os bP hp s' k i j _ _ x y hi di hj dj Q' hq
 .obtain⟨T,te,tp,tu,tm⟩:=g2 us u1 u2;have tr:∀t∈T,∃x,RelV x t.2/\Rep H t.1 x:=λt ht=>by
   obtain⟨i,a1,a2⟩:=tm t ht;exact jW i _ _ a2 a1
  have htl:=(tp.trans pd).length_eq;have gB:=pd.length_eq;obtain⟨zs,v1,v2⟩:∃zs,Vals zs us/\RepAll H (T.map (·.1)) zs:=by
   rw[<-te];clear te tp tu tm htl;induction T with
   | nil=>exact⟨[],.nil,rfl⟩
   | cons t T ih=>
    obtain⟨x,x1,x2⟩:=tr t aq;obtain⟨ys,y1,y2⟩:=ih λt ht=>tr t<|ar _ ht;exact(oq (x::ys) (.cons x1 y1) x ys ⟨rfl,x2,y2⟩)
  have I0:L2.Inv X aC σ H {s with drawn:=dr}:=⟨I.ok,I.os,I.bare,I.base,I.loc,I.cell,I.free,I.freeC,I.pin,I.hok,I.len⟩;have I3:L2.Inv X aC σ H {s with heap:=h1,toks:=tk,drawn:=dr}:=I0.kept CP;have hn:H h1.objs.size=none:=I3.hok.fresh<|ao _;have eJ:=v2.length;exact(nc (.ref h1.objs.size) _ ⟨I3.laid (t':=tk) (o:=.lst zs) CO (ao _) ⟨by lia,(nc _ e ⟨v1,hg3⟩)⟩,rfl,q _ zs (T.map (·.1)) hn (tp.trans pd) tu<|v2.same λb o q=>by rw[p8 (rh q hn)];exact q⟩)
def auh{ds:Z U}{ys:Z V}{its:Z aA}(cS:RepAll H ds ys)(rv:Vals ys its)(i:Nat)(u:aA)(d:U)(h1:its[i]?=some u)(h2:ds[i]?=some d):∃x,RelV x u/\Rep H d x:=by obtain⟨x,e1,e2⟩:=cS.get h2;obtain⟨u',e3,e4⟩:=rv.get e1;rw[h1]at e3;cases e3;exact⟨x,e4,e2⟩
def MR(I:L2.Inv X aC σ H s){v:aA}{ds:Z U}{ys:Z V}{its:Z aA}{κ:aX}{lt:U->U->Bool}{Q:VK}(cS:RepAll H ds ys)(rv:Vals ys its)(hz:ys.length<=aF)
  (nK:∀(Q:Z aA->aB->Prop)(E:aA->aB->Prop),(∀h1 tk,(∀b o,s.heap.get? b=some o->h1.get? b=some o)->Q its {s with heap:=h1,toks:=tk})->aH (aI X.prog X.w) A.in1 (gF v) Q E s)
  (o:wF lt ds)
  (hk:2<=its.length->∀s':aB,(∀b o,s.heap.get? b=some o->s'.heap.get? b=some o)->∀(Q:aX->aB->Prop)(E:aA->aB->Prop),Q κ s'->aH (aI X.prog X.w) A.in1.in1 (kU its.toArray) Q E s')
  (hc:∀s':aB,(∀b o,s.heap.get? b=some o->s'.heap.get? b=some o)->∀(i j:Nat)(d e:U)(u v:aA),its[i]?=some u->ds[i]?=some d->its[j]?=some v->ds[j]?=some e->∀(Q:Bool->aB->Prop),Q (lt d e) s'->aH (aI X.prog X.w) A.in1.in1 (jT κ u v) Q (λ_ _=>False) s')
  (q:∀l ys es,H l=none->es.Perm ds->es.Pairwise (λx y=>lt y x=false)->RepAll (upd H l<|.lst ys) es ys->Q (.ref l) (upd H l<|.lst ys)) :
  aH (aI X.prog X.w) A (call (.builtin "sorted") [v]) (EP X aC σ Q) E s:=by
 have l1:ys.length=ds.length:=cS.length;have l2:ys.length=its.length:=rv.length;refine ag6 (κ:=κ) (P:=λos bP=>os=its/\bP=ds) I ?_ (λQ E h=>nK Q E λh1 tk k=>h its ds h1 tk s.drawn ⟨rfl,rfl⟩ k) o ?_ ?_ q
 .rintro _ _ ⟨rfl,rfl⟩;exact⟨by lia,by lia,.refl _,auh cS rv⟩
 .rintro _ _ ⟨rfl,rfl⟩;exact hk
 .rintro _ _ ⟨rfl,rfl⟩;exact hc
def LX{p:aG}{its:Z aA}(pl:s.heap.IsList p its.toArray)(hz:its.length<=aF)(Q:Z aA->aB->Prop)(E:aA->aB->Prop)(h:∀h1 tk,(∀b o,s.heap.get? b=some o->h1.get? b=some o)->Q its {s with heap:=h1,toks:=tk}):aH (aI X.prog X.w) A.in1 (gF<|.ref p) Q E s:=
 collect_list pl (h _ _ λb o q=>(b7 _ _<|Ne.symm<|cf<|bb q).trans (aj _ q)) hz
def acw(I:L2.Inv X aC σ H s){p:aG}{ds:Z U}{xs:Z V}{its:Z aA}{κ:aX}{lt:U->U->Bool}{Q:V->Hp->Prop}(_:H p=some (.lst xs))(cS:RepAll H ds xs)(rv:Vals xs its)(pl:s.heap.IsList p its.toArray)(hz:xs.length<=aF)(o:wF lt ds)
  (hk:2<=its.length->∀s':aB,(∀b o,s.heap.get? b=some o->s'.heap.get? b=some o)->∀(Q:aX->aB->Prop)(E:aA->aB->Prop),Q κ s'->aH (aI X.prog X.w) A.in1.in1 (kU its.toArray) Q E s')
  (hc:∀s':aB,(∀b o,s.heap.get? b=some o->s'.heap.get? b=some o)->∀(i j:Nat)(d e:U)(u v:aA),ds[i]?=some d->its[i]?=some u->ds[j]?=some e->its[j]?=some v->∀(Q:Bool->aB->Prop),Q (lt d e) s'->aH (aI X.prog X.w) A.in1.in1 (jT κ u v) Q (λ_ _=>False) s')
  (q:∀l ys es,H l=none->es.Perm ds->es.Pairwise (λx y=>lt y x=false)->RepAll (upd H l<|.lst ys) es ys->Q (.ref l) (upd H l<|.lst ys)) :
  aH (aI X.prog X.w) A (call (.builtin "sorted") [.ref p]) (λu s'=>∃v H',Inv X aC σ H' s'/\RelV v u/\Q v H') E s:=by
 have l2:xs.length=its.length:=rv.length;exact MR I cS rv hz (LX pl<|by lia) o hk (λs' k i j d e u v ui di vj dj=>hc s' k i j d e u v di ui dj vj) q
end
noncomputable def ltR(x y:U):Bool:=rq (v8 x)<|v8 y
def are{ks:Z Bool}{ds:Z U}(h:Rows ks ds):wF ltR ds:=by
 have at':∀d∈ds,Row (true::ks) (v8 d):=λd hd=>by obtain⟨r,e,hr⟩:=h d hd;rw[e];exact hr
 exact⟨λx hx y hy q=>GH (at' x hx) (at' y hy) q,λx hx y hy z hz q1 q2=>Gu (at' x hx) (at' y hy) (at' z hz) q1 q2⟩
section
variable{X:Cx}
def acr{aC:Z (aG×Obj)}{s:aB}{σ:L2.St}{H:Hp}{A:Around}{E:aA->aB->Prop}{v:aA}{ks:Z Bool}{ds:Z U}{xs:Z V}{its:Z aA}{Q:VK}(I:L2.Inv X aC σ H s)(cS:RepAll H ds xs)(rv:Vals xs its)(fP:Rows ks ds)(hz:xs.length<=aF)
  (nK:∀(Q:Z aA->aB->Prop)(E:aA->aB->Prop),(∀h1 tk,(∀b o,s.heap.get? b=some o->h1.get? b=some o)->Q its {s with heap:=h1,toks:=tk})->aH (aI X.prog X.w) A.in1 (gF v) Q E s)
  (q:∀l ys es,H l=none->es.Perm ds->es.Pairwise (λx y=>ltR y x=false)->RepAll (upd H l<|.lst ys) es ys->Q (.ref l) (upd H l<|.lst ys)) :
  aH (aI X.prog X.w) A (call (.builtin "sorted") [v]) (EP X aC σ Q) E s:=by
 have l1:xs.length=ds.length:=cS.length;have l2:xs.length=its.length:=rv.length;obtain⟨fs,kt,kf,ki⟩:=aka I cS rv fP;refine MR (κ:=kQ true) (lt:=ltR) I cS rv hz nK (are fP) (λh2 s' k Q' E' hq=>?_) (λs' k i j d e u v ui di vj dj Q' hq=>?_) q
 .refine PySem.W.kat_kind (T:=aA.type "int") (KatTups.keeps k kt) (by lia) (λv hv=>?_) rfl hq;obtain⟨i,t,rfl⟩:=ki v hv;exact PySem.W.Looks.of_pure rfl
 .have tup:∀(i:Nat)(d:U)(u:aA),ds[i]?=some d->its[i]?=some u->∃a o vs n bs row,u=.ref a/\d=.tuple row/\Row (true::ks) row/\s'.heap.get? a=some o/\o.data=.seq vs n/\ReadsAll s'.heap vs.toList row bs:=λi d u hd hu=>by
   obtain⟨x,e1,e2⟩:=cS.get hd;obtain⟨u',e3,e4⟩:=rv.get e1;rw[hu]at e3;cases e3;obtain⟨row,e5,vL⟩:=fP _<|ai hd;obtain⟨a,o,vs,n,bs,_,_,rfl,g1,_,g3,g4,_⟩:=atu I e2 e4 e5 vL;exact(ni a o vs n bs ⟨row,rfl,e5,vL,k _ _ g1,g3,ReadsAll.keeps k g4⟩)
  obtain⟨a,o,vs,n,Gr,row,rfl,rfl,e3,e4,e5,e6⟩:=tup i d u di ui;obtain⟨a',o',yJ,n',Eh,Il,rfl,rfl,f3,f4,f5,f6⟩:=tup j e v dj vj;have kI:Q' (rq row Il) s':=hq;have z1:vs.size=ks.length+1:=by have q1:=ix _ _ _ e6;have q2:=e3.len;simp at q1 q2;lia
  have z2:yJ.size=ks.length+1:=by have q1:=ix _ _ _ f6;have q2:=f3.len;simp at q1 q2;lia
  refine PySem.W.kat_lt e4 e5 f4 f5 ?_;rw[decide_eq_false (by lia)];exact Mn e3 f3 e6 f6 kI
def aba:um X (.builtin "sorted") (λvs H Q=>∃p xs ds ks,vs=[.ref p]/\H p=some (.lst xs)/\RepAll H ds xs/\Rows ks ds/\
  ∀l ys es,H l=none->es.Perm ds->es.Pairwise (λx y=>ltR y x=false)->RepAll (upd H l<|.lst ys) es ys->Q (.ref l) (upd H l<|.lst ys)):=by
 intro aC s σ H xs us Q I r h;obtain⟨p,xs,ds,ks,rfl,hp,cS,fP,q⟩:=h;obtain⟨u,rfl,r1⟩:=v9 r;cases (show u=aA.ref p from r1);obtain⟨its,rv,pl,hz⟩:=I.list<|SqL.of (K:=X.K) hp;have l2:xs.length=its.length:=rv.length;exact acr I cS rv fP (by lia) (LX pl.isList<|by lia) q
def aom{ks:Z Bool}{ds es:Z U}(h:Rows ks ds)(p:es.Perm ds)(u:es.Pairwise (λx y=>ltR y x=false)):es=sy ds:=by
 refine MJ (R:=λx y=>ltR y x=false) (p.trans (oz ds).symm) u ?_ λx hx y hy h1 h2=>?_
 .rw[gt];intro i j hi hj cJ;exact ajv h (af hi) (af hj)<|gx cJ
 .obtain⟨r,e,hr⟩:=h x<|p.mem_iff.mp hx;obtain⟨r',e',oG⟩:=h y<|p.mem_iff.mp hy;subst e e';have fQ:rq r r'=false:=h2;have eR:rq r' r=false:=h1;rw[GE hr oG fQ eR]
def xo:um X (.builtin "sorted") (λvs H Q=>∃p xs ds ks,vs=[.ref p]/\H p=some (.lst xs)/\RepAll H ds xs/\Rows ks ds/\ds.length<64/\
  ∀l ys,H l=none->RepAll (upd H l<|.lst ys) (sy ds) ys->Q (.ref l) (upd H l<|.lst ys)):=by
 intro aC s σ H xs us Q I r h;obtain⟨p,xs,ds,ks,rfl,hp,cS,fP,jV,q⟩:=h;refine aba aC s σ H _ us Q I r<|ny p xs ds ks ⟨rfl,hp,cS,fP,λl ys es hl pe ue re=>?_⟩;rw[aom fP pe ue]at re;exact q l ys hl re
end
noncomputable def v5(M:Mat)(r c:Nat):U:=.tuple [.int (r:Nat),.int (c:Nat),.str ⟨#[M.g r c]⟩]
noncomputable def pX(M:Mat):Z U:=(cj<|M.h*M.w).map λi=>v5 M (i/M.w)<|i % M.w
noncomputable def ri(M:Mat):Z Str:=(cj M.h).map λr=>⟨(qt M r).toArray⟩
structure Cov(M:Mat)(L:Z U):Prop where
 mem:∀d,d∈L↔∃r c,r<M.h/\c<M.w/\d=v5 M r c
 nd:L.Nodup
def agh{M N:Mat}{r c r' c':Nat}(h:v5 M r c=v5 N r' c'):r=r'/\c=c':=by
 unfold v5 at h;injection h with h
 injection h with h1 h2
 injection h2 with h2 h3
 injection h1 with h1
 injection h2 with h2
 exact⟨Int.ofNat.inj h1,Int.ofNat.inj h2⟩
def awx{h w r c:Nat}(hr:r<h)(hc:c<w):r*w+c<h*w:=by have:(r+1)*w<=h*w:=Nat.mul_le_mul_right w hr;rw[Nat.add_mul]at this;omega
def yC{w r c:Nat}(hc:c<w):(r*w+c)/w=r:=by rw[Nat.mul_comm,Nat.mul_add_div<|by omega,Nat.div_eq_of_lt hc,Nat.add_zero]
def yG{w r c:Nat}(hc:c<w):(r*w+c) % w=c:=by rw[Nat.mul_comm,Nat.mul_add_mod,io hc]
def ajs(M:Mat)(d:U):d∈pX M↔∃r c,r<M.h/\c<M.w/\d=v5 M r c:=by
 unfold pX;rw[au];constructor
 .rintro⟨i,hi,rfl⟩;have fM:i<M.h*M.w:=by simpa using hi
  have hw:0<M.w:=by
   rcases Nat.eq_zero_or_pos M.w with e|e
   .rw[e,Nat.mul_zero]at fM;omega
   .exact e
  exact(nc (i/M.w) (i % M.w) ⟨(Nat.div_lt_iff_lt_mul hw).mpr fM,ln _ hw,rfl⟩)
 .rintro⟨r,c,hr,hc,rfl⟩;exact⟨r*M.w+c,by simpa using awx hr hc,by rw[yC hc,yG hc]⟩
def lt2(x y:U):Prop:=ul x<ul y\/ul x=ul y/\uq x<uq y
def LZ(x y:U)(h:lt2 x y):¬lt2 y x:=by unfold lt2 at *;omega
def ame(M:Mat):(pX M).Pairwise lt2:=by
 unfold pX;rw[fh];refine eu (λ{i j} hi hj cJ=>?_)<|List.pairwise_lt_range (n:=M.h*M.w);have d1:=Nat.div_add_mod i M.w;have d2:=Nat.div_add_mod j M.w;have uG:i/M.w<=j/M.w:=Nat.div_le_div_right<|gx cJ;show((i/M.w:Nat):Int)<((j/M.w:Nat):Int)\/((i/M.w:Nat):Int)=((j/M.w:Nat):Int)/\((i % M.w:Nat):Int)<((j % M.w:Nat):Int);rcases Nat.lt_or_ge (i/M.w) (j/M.w)with h|h
 .left;omega
 .right;have e:i/M.w=j/M.w:=Nat.le_antisymm uG h;rw[e]at d1;constructor
  .omega
  .omega
def ar4{α:Type}{R:α->α->Prop}(irr:∀x,¬R x x){l:List α}(h:l.Pairwise R):l.Nodup:=by unfold List.Nodup;exact List.Pairwise.imp (λ{a b} (gW:R a b) (e:a=b)=>irr a<|by rw[<-e]at gW;exact gW) h
def akg(M:Mat):Cov M (pX M):=⟨ajs M,ar4 (λx h=>LZ x x h h)<|ame M⟩
def Cov.spots{M:Mat}{L:Z U}(h:Cov M L):Spots L:=λd hd=>by obtain⟨r,c,_,_,rfl⟩:=(h.mem d).mp hd;exact(oa _ _ _ rfl)
theorem MN{α β:Type}{f:α->β}:∀{l:List α},(∀a∈l,∀b∈l,f a=f b->a=b)->l.Nodup->(l.map f).Nodup
 | [],_,_=>List.nodup_nil
 | a::l,h,hn=>by obtain⟨h1,h2⟩:=i7.mp hn;rw[cm];refine i7.mpr ⟨λhm=>?_,MN (λx hx y hy=>h x (ar _ hx) y<|ar _ hy) h2⟩;obtain⟨b,hb,e⟩:=au.mp hm;exact h1<|h b (ar _ hb) a aq e▸hb
def Cov.maxc{M:Mat}{L:Z U}(h:Cov M L)(h1:0<M.h)(w1:0<M.w):wt (L.map uq)=((M.w-1:Nat):Int):=by
 refine(xg (ns:=L.map uq) ?_ λa ha=>?_).symm
 .exact au.mpr ⟨v5 M 0<|M.w-1,(h.mem _).mpr (nc 0 (M.w-1) ⟨h1,by omega,rfl⟩),rfl⟩
 .obtain⟨d,hd,rfl⟩:=au.mp ha;obtain⟨r,c,_,hc,rfl⟩:=(h.mem d).mp hd;show((c:Nat):Int)<=_;omega
def Cov.maxr{M:Mat}{L:Z U}(h:Cov M L)(h1:0<M.h)(w1:0<M.w):wt (L.map ul)=((M.h-1:Nat):Int):=by
 refine(xg (ns:=L.map ul) ?_ λa ha=>?_).symm
 .exact au.mpr ⟨v5 M (M.h-1) 0,(h.mem _).mpr (nc (M.h-1) 0 ⟨by omega,w1,rfl⟩),rfl⟩
 .obtain⟨d,hd,rfl⟩:=au.mp ha;obtain⟨r,c,hr,_,rfl⟩:=(h.mem d).mp hd;show((r:Nat):Int)<=_;omega
def HB{M:Mat}{r c:Nat}(hc:c<M.w):Aq ((M.w-1:Nat):Int) (v5 M r c)=v5 (pS M) r (M.w-1-c):=by show PyData.tuple [.int (r:Nat),.int<|((M.w-1:Nat):Int)-(c:Nat),.str ⟨#[M.g r c]⟩]=PyData.tuple [.int (r:Nat),.int ((M.w-1-c:Nat):Int),.str ⟨#[M.g r (M.w-1-(M.w-1-c))]⟩];rw[show M.w-1-(M.w-1-c)=c from Hy<|by assumption,show(((M.w-1:Nat):Int)-(c:Nat))=((M.w-1-c:Nat):Int)from LR<|by assumption]
def Hq{M:Mat}{r c:Nat}(hr:r<M.h):xW ((M.h-1:Nat):Int) (v5 M r c)=v5 (Go M) c (M.h-1-r):=by show PyData.tuple [.int (c:Nat),.int<|((M.h-1:Nat):Int)-(r:Nat),.str ⟨#[M.g r c]⟩]=PyData.tuple [.int (c:Nat),.int ((M.h-1-r:Nat):Int),.str ⟨#[M.g (M.h-1-(M.h-1-r)) c]⟩];rw[show M.h-1-(M.h-1-r)=r from Hy<|by assumption,show(((M.h-1:Nat):Int)-(r:Nat))=((M.h-1-r:Nat):Int)from LR<|by assumption]
def Cov.mir{M:Mat}{L:Z U}(h:Cov M L)(h1:0<M.h)(w1:0<M.w):Cov (pS M) (kL L):=by
 unfold kL;rw[h.maxc h1 w1];refine⟨λd=>?_,MN (λa ha b hb e=>?_) h.nd⟩
 .rw[au];constructor
  .rintro⟨e,he,rfl⟩;obtain⟨r,c,hr,hc,rfl⟩:=(h.mem e).mp he;exact(nc r (M.w-1-c) ⟨hr,ajj hc,HB hc⟩)
  .rintro⟨r,c,hr,hc,rfl⟩;have fH:c<M.w:=hc;refine⟨v5 M r<|M.w-1-c,(h.mem _).mpr (nc r _ ⟨hr,by omega,rfl⟩),?_⟩;rw[HB (by omega),show M.w-1-(M.w-1-c)=c from Hy<|by assumption]
 .obtain⟨r,c,_,hc,rfl⟩:=(h.mem a).mp ha;obtain⟨r',c',_,fH,rfl⟩:=(h.mem b).mp hb;rw[HB hc,HB fH]at e;obtain⟨e1,e2⟩:=agh e;rw[e1,show c=c' by omega]
def Cov.rot{M:Mat}{L:Z U}(h:Cov M L)(h1:0<M.h)(w1:0<M.w):Cov (Go M) (kY L):=by
 unfold kY;rw[h.maxr h1 w1];refine⟨λd=>?_,MN (λa ha b hb e=>?_) h.nd⟩
 .rw[au];constructor
  .rintro⟨e,he,rfl⟩;obtain⟨r,c,hr,hc,rfl⟩:=(h.mem e).mp he;exact(nc c (M.h-1-r) ⟨hc,ajj hr,Hq hr⟩)
  .rintro⟨r,c,hr,hc,rfl⟩;have fH:c<M.h:=hc;have oG:r<M.w:=hr;refine⟨v5 M (M.h-1-c) r,(h.mem _).mpr (nc _ r ⟨by omega,oG,rfl⟩),?_⟩;rw[Hq (by omega),show M.h-1-(M.h-1-c)=c from Hy<|by assumption]
 .obtain⟨r,c,hr,_,rfl⟩:=(h.mem a).mp ha;obtain⟨r',c',oG,_,rfl⟩:=(h.mem b).mp hb;rw[Hq hr,Hq oG]at e;obtain⟨e1,e2⟩:=agh e;rw[e1,show r=r' by omega]
theorem Cov.rots{P:Nat->Prop}{M:Mat}{L:Z U}(o:OkM P M)(h:Cov M L):∀n,Cov (p9 n M) ((cj n).foldl (λa _=>kY a) L)
 | 0=>h
 | n+1=>by rw[g0,kq];have o2:=o.rots n;exact(Cov.rots o h n).rot o2.h1 o2.w1
def Cov.tur{P:Nat->Prop}{M:Mat}{L:Z U}(o:OkM P M)(h:Cov M L)(t:Nat):Cov (jO t M) (sj t L):=by
 unfold jO sj;split
 .exact Cov.rots o.mir (h.mir o.h1 o.w1) _
 .exact Cov.rots o h _
def Cov.sorted{M:Mat}{L es:Z U}(h:Cov M L)(p:es.Perm L)(u:es.Pairwise λx y=>ltR y x=false):es=pX M:=by
 refine yz (R:=lt2) LZ ?_ (ame M) λz=>by rw[p.mem_iff,h.mem,ajs]
 have nd:es.Nodup:=p.nodup_iff.mpr h.nd;have Ao:=u.and nd;refine eu (λ{a b} ha hb gW=>?_) Ao;obtain⟨r,c,_,_,rfl⟩:=(h.mem a).mp (p.mem_iff.mp ha);obtain⟨r',c',_,_,rfl⟩:=(h.mem b).mp (p.mem_iff.mp hb);obtain⟨h1,h2⟩:=gW;have eR:rq [.int (r':Nat),.int (c':Nat),.str ⟨#[M.g r' c']⟩] [.int (r:Nat),.int (c:Nat),.str ⟨#[M.g r c]⟩]=false:=h1;rw[zf,zf]at eR;show((r:Nat):Int)<((r':Nat):Int)\/((r:Nat):Int)=((r':Nat):Int)/\((c:Nat):Int)<((c':Nat):Int);by_cases er:((r':Nat):Int)=((r:Nat):Int)
 .rw[if_pos er]at eR;right;refine⟨er.symm,?_⟩;by_cases ec:((c':Nat):Int)=((c:Nat):Int)
  .exfalso;obtain rfl:r'=r:=Int.ofNat.inj er;obtain rfl:c'=c:=Int.ofNat.inj ec;exact h2 rfl
  .rw[if_neg ec]at eR;have:=of_decide_eq_false eR;omega
 .rw[if_neg er]at eR;have:=of_decide_eq_false eR;left;omega
noncomputable def qX(M:Mat)(r c:Nat):Str:=⟨((cj c).map (M.g r)).toArray⟩
noncomputable def qU(M:Mat)(r:Nat):Z (Key×V):=(cj r).map λk=>(Sum.inl ((k:Nat):Int),V.str<|qX M k M.w)
noncomputable def uU(M:Mat)(r c:Nat):Z (Key×V):=qU M r++(if c=0 then[]else[(Sum.inl ((r:Nat):Int),V.str<|qX M r c)])
def MH(M:Mat)(r:Nat):qU M (r+1)=qU M r++[(Sum.inl ((r:Nat):Int),V.str<|qX M r M.w)]:=by unfold qU;rw[g0,bq];rfl
def ath{a b:Nat}(h:a≠b):¬(Sum.inl ((a:Nat):Int):Key)=Sum.inl ((b:Nat):Int):=λe=>h<|Int.ofNat.inj<|Sum.inl.inj e
theorem Hn(M:Mat):∀(r j:Nat),r<=j->wu (qU M r) (Sum.inl ((j:Nat):Int))=none
 | 0,j,_=>rfl
 | r+1,j,h=>by rw[MH,HH _ _ _ _<|Hn M r r<|ao _,if_neg<|ath<|by omega];exact Hn M r j<|by omega
def Mz(M:Mat)(r c:Nat):wu (uU M r c) (Sum.inl ((r:Nat):Int))=if c=0 then none else some (V.str<|qX M r c):=by
 unfold uU;by_cases h:c=0
 .rw[if_pos h,if_pos h,df];exact Hn M r r<|ao _
 .rw[if_neg h,if_neg h,HH _ _ _ _<|Hn M r r<|ao _,if_pos rfl]
theorem ai9(M:Mat)(y:V):∀(r j:Nat),r<=j->(qU M r).map (λkv=>if kv.1=(Sum.inl ((j:Nat):Int):Key)then(kv.1,y)else kv)=qU M r
 | 0,j,_=>rfl
 | r+1,j,h=>by
  rw[MH,bq,ai9 M y r j<|by omega]
  congr 1
  rw[cm,List.map_nil,if_neg<|ath<|by omega]
def ap4(M:Mat)(r c:Nat)(y:V):jN (uU M r c) (Sum.inl ((r:Nat):Int)) y=qU M r++[(Sum.inl ((r:Nat):Int),y)]:=by
 by_cases h:c=0
 .rw[aqc y (by rw[Mz,if_pos h])];unfold uU;rw[if_pos h,df]
 .unfold jN;rw[xt,Mz,if_neg h];unfold uU;rw[if_neg h,bq,ai9 M y r r<|ao _];simp
def amy(M:Mat)(r c:Nat):qX M r (c+1)=qX M r c++(⟨#[M.g r c]⟩:Str):=by unfold qX;rw[g0,bq];show _=(⟨((cj c).map (M.g r)).toArray ++ #[M.g r c]⟩:Str);simp
noncomputable def tP(M:Mat)(i:Nat):Z (Key×V):=uU M (i/M.w)<|i % M.w
def aqa(M:Mat)(w1:0<M.w)(i:Nat):jN (tP M i) (Sum.inl (((i/M.w:Nat):Nat):Int)) (V.str<|qX M (i/M.w) (i % M.w)++(⟨#[M.g (i/M.w) (i % M.w)]⟩:Str))=tP M (i+1):=by
 unfold tP;rw[ap4,<-amy];have d1:=Nat.div_add_mod i M.w;have m1:=ln i w1;by_cases h:i % M.w+1<M.w
 .have e:i+1=(i/M.w)*M.w+(i % M.w+1):=by rw[Nat.mul_comm];omega
  rw[e,yC h,yG h];unfold uU;rw[if_neg (by omega)]
 .have e:i+1=(i/M.w+1)*M.w+0:=by rw[Nat.add_mul,Nat.mul_comm];omega
  rw[e,yC w1,yG w1];unfold uU;rw[if_pos rfl,df,MH];rw[show i % M.w+1=M.w by omega]
def aul(M:Mat)(w1:0<M.w):tP M (M.h*M.w)=qU M M.h:=by unfold tP;have e:M.h*M.w=M.h*M.w+0:=rfl;rw[e,yC w1,yG w1];unfold uU;rw[if_pos rfl,df]
def amb(M:Mat):(qU M M.h).map (·.2)=(ri M).map V.str:=by unfold qU ri;rw[bf,bf];rfl
def at5(M:Mat)(i:Nat):(tP M i).length<=i/M.w+1:=by unfold tP uU qU;rw[bo,ae,fu];split<;>simp
def ave(M:Mat){i:Nat}(h:i<M.h*M.w):(pX M)[i]?=some (v5 M (i/M.w)<|i % M.w):=by unfold pX;rw[ax,jd h];rfl
def ajx(M:Mat):(pX M).length=M.h*M.w:=by unfold pX;simp
def SgP(c:Nat):Prop:=sgB c=true
def BU{c:Nat}(h:SgP c):c<128:=by unfold SgP sgB at h;simp at h;omega
def FlM(H:Hp)(a:aG)(M:Mat):Prop:=H a=some (.tup<|(ri M).map V.str)/\OkM SgP M
def FlM.same{H H':Hp}{a:aG}{M:Mat}(h:FlM H a M)(s:Same H H'):FlM H' a M:=⟨s _ _ h.1,h.2⟩
def ql(M:Mat):(ri M).length=M.h:=by unfold ri;simp
def BY{M:Mat}{r:Nat}(h:r<M.h):(ri M)[r]?=some ⟨(qt M r).toArray⟩:=by unfold ri;rw[ax,jd h];rfl
def xw(M:Mat)(r:Nat):(qt M r).length=M.w:=by unfold qt;simp
def yo{M:Mat}{r c:Nat}(h:c<M.w):(qt M r)[c]?=some (M.g r c):=by unfold qt;rw[ax,jd h];rfl
def auz{M:Mat}(o:OkM SgP M){r:Nat}(hr:r<M.h):∀c∈qt M r,SgP c:=λc hc=>by unfold qt at hc;obtain⟨k,hk,rfl⟩:=au.mp hc;exact o.sg r k hr<|by simpa using hk
def arl{M:Mat}{z:Str}(h:z∈ri M):∃r,r<M.h/\z=⟨(qt M r).toArray⟩:=by unfold ri at h;obtain⟨r,hr,rfl⟩:=au.mp h;exact⟨r,by simpa using hr,rfl⟩
end L3
namespace L3
open PySem
noncomputable def sm5:Nat->Nat
 | 0=>0
 | m+1=>5*sm5 m+1
noncomputable def g5(m i:Nat):Nat:=5^m*i+sm5 m
def LQ(m i:Nat):g5 (m+1) i=5*g5 m i+1:=by show 5^(m+1)*i+(5*sm5 m+1)=5*(5^m*i+sm5 m)+1;rw[kx,Nat.mul_add,Nat.mul_comm (5^m) 5,Nat.mul_assoc,Nat.add_assoc]
theorem ati(m n i:Nat):g5 (m+n) i=g5 m (g5 n i):=by
 induction m with
 | zero=>rw[Nat.zero_add];unfold g5 sm5;simp
 | succ m ih=>rw[Nat.succ_add,LQ,ih,LQ]
def aug(m n:Nat):sm5 (m+n)=5^m*sm5 n+sm5 m:=by have h:=ati m n 0;unfold g5 at h;simpa using h
theorem aji:∀k,∃c d:Nat,5^(2^k)=1+2^(k+2)*c/\sm5 (2^k)=2^k*(2*d+1)
 | 0=>(nc 1 0 ⟨rfl,rfl⟩)
 | k+1=>by
  obtain⟨c,d,h1,h2⟩:=aji k;have e:2^(k+1)=2^k+2^k:=by rw[kx];lia
  refine(nc (c+2^(k+1)*c*c) (d+2^k*c*(2*d+1)) ⟨?_,?_⟩)
  .rw[e,Nat.pow_add,h1,show 2^(k+1+2)=8*2^k by rw[Nat.pow_add,Nat.pow_add];lia,show 2^(k+2)=4*2^k by rw[Nat.pow_add];lia];generalize 2^k=A
   grind
  .rw[e,aug,h1,h2,show 2^(k+2)=4*2^k by rw[Nat.pow_add];lia];generalize 2^k=A
   grind
def awg(k i:Nat):g5 (2^k) i % 2^(k+1)=(i+2^k) % 2^(k+1):=by
 obtain⟨c,d,h1,h2⟩:=aji k;unfold g5;rw[h1,h2];have e3:2^(k+2)=2^(k+1)*2:=by rw[show k+2=(k+1)+1 by lia,kx]
 have e:(1+2^(k+2)*c)*i+2^k*(2*d+1)=(i+2^k)+2^(k+1)*(2*(c*i)+d):=by rw[e3,kx];generalize 2^k=A;simp only[Nat.add_mul,Nat.mul_add,Nat.one_mul,Nat.mul_one,Nat.mul_assoc,Nat.mul_comm,Nat.mul_left_comm];lia
 rw[e,Nat.add_mul_mod_self_left]
theorem LJ:∀(k i j:Nat),∃m,m<2^k/\g5 m i % 2^k=j % 2^k
 | 0,i,j=>⟨0,by decide,by simp[Nat.mod_one]⟩
 | k+1,i,j=>by
  obtain⟨m,hm,e⟩:=LJ k i j;have e2:2^(k+1)=2*2^k:=by rw[kx];lia
  by_cases h:g5 m i % 2^(k+1)=j % 2^(k+1)
  .exact⟨m,by lia,h⟩
  .refine⟨2^k+m,by lia,?_⟩;rw[ati,awg];have a:=Nat.mod_add_div (g5 m i)<|2^(k+1);have l1:g5 m i % 2^(k+1)<2^(k+1):=ln _ (by rw[e2];have:=Nat.two_pow_pos k;lia);have l2:j % 2^(k+1)<2^(k+1):=ln _ (by rw[e2];have:=Nat.two_pow_pos k;lia);have m1:g5 m i % 2^(k+1) % 2^k=g5 m i % 2^k:=Nat.mod_mod_of_dvd _ ⟨2,by rw[e2];lia⟩;have m2:j % 2^(k+1) % 2^k=j % 2^k:=Nat.mod_mod_of_dvd _ ⟨2,by rw[e2];lia⟩;rw[Nat.add_mod,io (show 2^k<2^(k+1) by have:=Nat.two_pow_pos k;lia)];generalize g5 m i % 2^(k+1)=x at *;generalize j % 2^(k+1)=y at *;rw[<-m1,<-m2]at e;generalize 2^(k+1)=A at *;generalize 2^k=B at *;subst e2;have hx:x % B=if x<B then x else x-B:=by
    split
    .exact io<|by assumption
    .rw[Nat.mod_eq_sub_mod (by lia),io<|by lia]
   have hy:y % B=if y<B then y else y-B:=by
    split
    .exact io<|by assumption
    .rw[Nat.mod_eq_sub_mod (by lia),io<|by lia]
   rw[hx,hy]at e;have hz:(x+B) % (2*B)=if x+B<2*B then x+B else x+B-2*B:=by
    split
    .exact io<|by assumption
    .rw[Nat.mod_eq_sub_mod (by lia),io<|by lia]
   rw[hz];split at e<;>split at e<;>split<;>lia
open SetTable
noncomputable def itn{α:Type}(f:α->α):Nat->α->α
 | 0,x=>x
 | n+1,x=>itn f n<|f x
theorem vm{α:Type}(f:α->α):∀(m n:Nat)(x:α),itn f (m+n) x=itn f n (itn f m x)
 | 0,n,x=>by rw[Nat.zero_add];rfl
 | m+1,n,x=>by rw[Nat.succ_add];exact vm f m n<|f x
def My{α:Type}(f:α->α)(n:Nat)(x:α):itn f (n+1) x=f (itn f n x):=by rw[vm f n 1 x];rfl
noncomputable def adv(mask:Nat)(p:Probe):Probe:=
 if p.more>0 then{p with j:=p.j+1,more:=p.more-1}else
 {p with j:=(leap mask p.i p.perturb).1,more:=runEnd mask (leap mask p.i p.perturb).1-(leap mask p.i p.perturb).1,i:=(leap mask p.i p.perturb).1,perturb:=(leap mask p.i p.perturb).2}
noncomputable def lp(mask:Nat)(x:Nat×Nat):Nat×Nat:=leap mask x.1 x.2
noncomputable def at0(mask:Nat)(x:Nat×Nat)(d:Option Nat):Probe:=⟨x.1,runEnd mask x.1-x.1,x.1,x.2,d⟩
def ato(mask i:Nat):runEnd mask i-i<=9:=by unfold runEnd;split<;>lia
theorem Hf(mask:Nat):∀(m:Nat)(p:Probe),p.more=m->itn (adv mask) (m+1) p=at0 mask (lp mask (p.i,p.perturb)) p.dummy
 | 0,p,h=>by show adv mask p=_;unfold adv;rw[if_neg (by lia)];rfl
 | m+1,p,h=>by
  show itn (adv mask) (m+1) (adv mask p)=_;have e:adv mask p={p with j:=p.j+1,more:=p.more-1}:=by unfold adv;rw[if_pos (by lia)]
  rw[e,Hf mask m _<|by show p.more-1=m;lia]
theorem K6(mask:Nat):∀(m:Nat)(x:Nat×Nat)(d:Option Nat),∃n,n<=10*m/\itn (adv mask) n (at0 mask x d)=at0 mask (itn (lp mask) m x) d
 | 0,x,d=>⟨0,ao _,rfl⟩
 | m+1,x,d=>by
  have h:=Hf mask _ (at0 mask x d) rfl;obtain⟨n,hn,e⟩:=K6 mask m (lp mask x) d;refine⟨((at0 mask x d).more+1)+n,?_,?_⟩
  .have:(at0 mask x d).more<=9:=ato mask x.1;lia
  .rw[vm,h];exact e
theorem MO(mask:Nat):∀(m:Nat)(x:Nat×Nat)(b:Nat),x.2<32^b->(itn (lp mask) m x).2<32^(b-m)
 | 0,x,b,h=>by simpa [itn]using h
 | m+1,x,b,h=>by
  have h':(lp mask x).2<32^(b-1):=by
   show x.2/32<32^(b-1);cases b with
   | zero=>simp at h;simp[h]
   | succ b=>
    rw[kx]at h;simpa using Nat.div_lt_of_lt_mul (by lia)
  have:=MO mask m (lp mask x) (b-1) h';rw[show b-(m+1)=b-1-m by lia];exact this
theorem yi{mask k:Nat}(hk:mask+1=2^k):∀(m i:Nat),i<2^k->itn (lp mask) m (i,0)=(g5 m i % 2^k,0)
 | 0,i,h=>by
  have e:g5 0 i=i:=by unfold g5 sm5;simp
  rw[e,io h];rfl
 | m+1,i,h=>by
  rw[My,yi hk m i h];show((g5 m i % 2^k*5+1+0/32) % (mask+1),0/32)=_;rw[hk,LQ];have e:(g5 m i % 2^k*5+1+0/32) % 2^k=(5*g5 m i+1) % 2^k:=by rw[show 0/32=0 from rfl,Nat.add_zero,Nat.mul_comm,Nat.add_mod,Nat.mul_mod,Nat.mod_mod,<-Nat.mul_mod,<-Nat.add_mod]
  rw[e]
def Li{mask k:Nat}(hk:mask+1=2^k)(x:Nat×Nat):(lp mask x).1<2^k:=by show(x.1*5+1+x.2/32) % (mask+1)<2^k;rw[hk];exact ln _<|Nat.two_pow_pos k
def ay3{mask k:Nat}(hk:mask+1=2^k)(p:Probe)(hm:p.more<=9)(hp:p.perturb<2^64)(j:Nat)(hj:j<=mask):∃n,n<10*turns mask/\(itn (adv mask) n p).j=j:=by
 have h1:=Hf mask p.more p rfl;obtain⟨n2,zI,e2⟩:=K6 mask 12 (lp mask (p.i,p.perturb)) p.dummy;have hz:(itn (lp mask) 12<|lp mask (p.i,p.perturb)).2<32^(13-13):=by have:=MO mask 13 (p.i,p.perturb) 13 (by show p.perturb<32^13;exact cw hp<|by decide);exact this
 have vI:(itn (lp mask) 12<|lp mask (p.i,p.perturb)).2=0:=by simpa using hz
 have hi:(itn (lp mask) 12<|lp mask (p.i,p.perturb)).1<2^k:=by rw[My];exact Li hk _
 generalize itn (lp mask) 12 (lp mask (p.i,p.perturb))=y at *;obtain⟨y1,y2⟩:=y;simp only at vI hi;subst vI;obtain⟨m,uE,e3⟩:=LJ k y1 j;obtain⟨n3,hn3,e4⟩:=K6 mask m (y1,0) p.dummy;rw[yi hk m y1 hi,e3,io<|by lia]at e4;refine⟨(p.more+1)+(n2+n3),?_,?_⟩
 .unfold turns;lia
 .rw[vm,h1,vm,e2,e4];rfl
end L3
namespace L3
open PySem SetTable
def Low(xs:Array Nat)(j b:Nat):Prop:=b<=xs.size/\(∀i v,i<b->xs[i]?=some v->v<j)/\(∀i v,b<=i->xs[i]?=some v->j<=v)
def Hh{xs:Array Nat}(h:xs.toList.Pairwise (· < ·)){i k v u:Nat}(hi:xs[i]?=some v)(hk:xs[k]?=some u)(zR:i<k):v<u:=by rw[<-bi]at hi hk;obtain⟨h1,rfl⟩:=ak.mp hi;obtain⟨h2,rfl⟩:=ak.mp hk;exact gt.mp h i k h1 h2 zR
theorem Mo{xs:Array Nat}(h:xs.toList.Pairwise (· < ·))(j:Nat):∀(fuel lo hi:Nat),hi-lo<=fuel->lo<=hi->hi<=xs.size->(∀i v,i<lo->xs[i]?=some v->v<j)->(∀i v,hi<=i->xs[i]?=some v->j<=v)->
  Low xs j (below.go xs j fuel lo hi)
 | 0,lo,hi,h1,h2,h3,a,b=>by
  have e:lo=hi:=by lia
  subst e;exact⟨h3,a,b⟩
 | fuel+1,lo,hi,h1,h2,h3,a,b=>by
  unfold below.go;by_cases bN:lo<hi
  .rw[if_pos bN];have hm:(lo+hi)/2<xs.size:=by lia
   have e:xs.getD ((lo+hi)/2) j=xs[(lo+hi)/2]:=by simp[Array.getD,hm]
   have e':xs[(lo+hi)/2]?=some xs[(lo+hi)/2]:=by simp[hm]
   dsimp only;rw[e];by_cases hc:xs[(lo+hi)/2]<j
   .rw[if_pos hc];refine Mo h j fuel _ _ (by lia) (by lia) h3 (λi v fM hv=>?_) b;by_cases q:i=(lo+hi)/2
    .subst q;rw[e']at hv;cases hv;exact hc
    .have:=Hh h hv e' (by lia);lia
   .rw[if_neg hc];refine Mo h j fuel _ _ (by lia) (by lia) (by lia) a λi v fM hv=>?_;by_cases q:i=(lo+hi)/2
    .subst q;rw[e']at hv;cases hv;lia
    .have:=Hh h e' hv (by lia);lia
  .rw[if_neg bN];have e:lo=hi:=by lia
   subst e;exact⟨h3,a,b⟩
def xj{xs:Array Nat}(h:xs.toList.Pairwise (· < ·))(j:Nat):Low xs j (below xs j):=
 Mo h j xs.size 0 xs.size (by lia) (by lia) (ao _) (λi v hi=>by lia) (λi v hi hv=>by have:=(bz.mp hv).1;lia)
def Mp{xs:Array Nat}(h:xs.toList.Pairwise (· < ·)){i j:Nat}(hi:xs[i]?=some j):below xs j=i:=by
 obtain⟨a,b,c⟩:=xj h j;by_cases q:i<below xs j
 .have:=b i j q hi;lia
 by_cases q2:below xs j<i
 .have hl:=(bz.mp hi).1;have e':xs[below xs j]?=some xs[below xs j]:=by simp
  have:=Hh h e' hi q2;have:=c _ _ (ao _) e';lia
 .lia
def ML{t:SetTable}(h:t.place.toList.Pairwise (· < ·)){i j:Nat}(hi:t.place[i]?=some j):t.slot j=.live i:=by unfold slot;rw[Mp h hi];dsimp only;rw[hi,if_pos<|by simp]
def alg{t:SetTable}(h:t.place.toList.Pairwise (· < ·))(hd:t.dummies=#[]){j:Nat}(hj:j∉t.place.toList):t.slot j=.empty:=by
 unfold slot;dsimp only;rw[if_neg,if_neg]
 .rw[hd];unfold has;simp
 .intro e;have e':t.place[below t.place j]?=some j:=by simpa using e
  apply hj;rw[<-bi]at e';exact ai e'
def ap1{t:SetTable}{j:Nat}(hj:j∈t.place.toList):∃i:Nat,t.place[i]?=some j:=by obtain⟨i,h⟩:=f8 hj;exact⟨i,by rw[<-bi];exact h⟩
def qv{α:Type}(xs:Array α)(p:Nat)(x:α):(insertAt xs p x).toList=xs.toList.take p++x::xs.toList.drop p:=by unfold insertAt;simp[Array.toList_extract];rw[a8 (by simp)]
def ah8{xs:Array Nat}(h:xs.toList.Pairwise (· < ·)){j:Nat}(hj:j∉xs.toList):(insertAt xs (below xs j) j).toList.Pairwise (· < ·):=by
 obtain⟨a,b,c⟩:=xj h j;rw[qv,e9];refine⟨h.sublist<|List.take_sublist _ _,?_,?_⟩
 .rw[gu];refine⟨λv hv=>?_,h.sublist<|List.drop_sublist _ _⟩;obtain⟨i,hi⟩:=f8 hv;rw[gj,bi]at hi;have:=c _ v (by lia) hi;have:v≠j:=λe=>hj (by rw[<-e];rw[<-bi]at hi;exact ai hi);lia
 .intro u hu v hv;obtain⟨i,hi⟩:=f8 hu;have mK:i<below xs j:=by
   have:=(ak.mp hi).1;rw[cg]at this;lia
  rw[fq mK,bi]at hi;have h1:=b i u mK hi;rcases a6.mp hv with rfl|hv
  .exact h1
  .obtain⟨i',fM⟩:=f8 hv;rw[gj,bi]at fM;have:=c _ v (by lia) fM;lia
def BC(ps:Z Nat)(es:Z (Int×aA))(j:Nat)(e:Int×aA):Prop:=∃i:Nat,ps[i]?=some j/\es[i]?=some e
theorem aic{ps:Z Nat}{es:Z (Int×aA)}(hl:ps.length=es.length)(p j0:Nat)(hp:p<=ps.length)(e0:Int×aA){j:Nat}{e:Int×aA} :
  BC (ps.take p++j0::ps.drop p) (es.take p++e0::es.drop p) j e↔(j=j0/\e=e0)\/BC ps es j e:=by
 have l1:(ps.take p).length=p:=by rw[cg];lia
 have l2:(es.take p).length=p:=by rw[cg];lia
 constructor
 .rintro⟨i,h1,h2⟩;by_cases hi:i<p
  .rw[fy (by lia),fq hi]at h1 h2;exact .inr ⟨i,h1,h2⟩
  .rw[cz (by lia),l1]at h1;rw[cz (by lia),l2]at h2;cases hq:i-p with
   | zero=>rw[hq]at h1 h2;cases h1;cases h2;exact .inl ⟨rfl,rfl⟩
   | succ q=>
    rw[hq,List.getElem?_cons_succ,gj]at h1 h2;exact .inr ⟨p+q,h1,h2⟩
 .rintro(⟨rfl,rfl⟩|⟨i,h1,h2⟩)
  .exact⟨p,by rw[cz (by lia),l1,Nat.sub_self];rfl,by rw[cz (by lia),l2,Nat.sub_self];rfl⟩
  .by_cases hi:i<p
   .exact⟨i,by rw[fy (by lia),fq hi];exact h1,by rw[fy (by lia),fq hi];exact h2⟩
   .refine⟨i+1,?_,?_⟩
    .rw[cz (by lia),l1,show i+1-p=(i-p)+1 by lia,List.getElem?_cons_succ,gj,show p+(i-p)=i by lia];exact h1
    .rw[cz (by lia),l2,show i+1-p=(i-p)+1 by lia,List.getElem?_cons_succ,gj,show p+(i-p)=i by lia];exact h2
noncomputable def st0(mask:Nat)(h:Int):Probe:=at0 mask (bits h % (mask+1),bits h) none
def apw(t:SetTable)(h:Int):t.probeStart h=st0 t.mask h:=rfl
noncomputable def si(mask:Nat)(h:Int)(n:Nat):Nat:=(itn (adv mask) n<|st0 mask h).j
def L1(h:Int):bits h<2^64:=by unfold bits;lia
def wL(mask:Nat)(p:Probe):Prop:=p.more<=9/\p.perturb<2^64/\p.j+p.more<=mask
def agi(mask:Nat)(x:Nat×Nat)(d:Option Nat)(h1:x.1<=mask)(h2:x.2<2^64):wL mask (at0 mask x d):=by refine⟨ato mask x.1,h2,?_⟩;show x.1+(runEnd mask x.1-x.1)<=mask;unfold runEnd;split<;>lia
def ao7{mask:Nat}{p:Probe}(h:wL mask p):wL mask (adv mask p):=by
 obtain⟨h1,h2,h3⟩:=h;unfold adv;split
 .exact⟨by simp only;lia,h2,by simp only;lia⟩
 .refine agi mask (leap mask p.i p.perturb) p.dummy ?_ ?_
  .show(p.i*5+1+p.perturb/32) % (mask+1)<=mask;have:=ln (p.i*5+1+p.perturb/32) (show 0<mask+1 by lia);lia
  .show p.perturb/32<2^64;lia
theorem MF{mask:Nat}:∀(n:Nat) {p:Probe},wL mask p->wL mask (itn (adv mask) n p)
 | 0,_,h=>h
 | n+1,_,h=>MF n<|ao7 h
def HG(mask:Nat)(h:Int):wL mask (st0 mask h):=agi mask _ _ (by
 have:=ln (bits h) (show 0<mask+1 by lia);show bits h % (mask+1)<=mask;lia)<|L1 h
def aup(mask:Nat)(h:Int)(n:Nat):si mask h n<=mask:=by have:=(MF n<|HG mask h).2.2;unfold si;lia
structure TOk(t:SetTable)(es:Array (Int×aA)):Prop where
 two:∃k,t.mask+1=2^k/\3<=k/\k<=13/\k % 2=1
 dm:t.dummies=#[]
 rise:t.place.toList.Pairwise (· < ·)
 bd:∀j∈t.place.toList,j<=t.mask
 sz:t.place.size=es.size
 fit:t.place.size<=t.mask
 onroad:∀j e,BC t.place.toList es.toList j e->∃n,si t.mask e.1 n=j/\∀n',n'<n->si t.mask e.1 n'∈t.place.toList
def atr{ps:Z Nat}{m:Nat}(h:ps.length<=m):∃j,j<=m/\j∉ps:=by apply jg;intro hn;have bY:∀j,j<=m->j∈ps:=λj hj=>jg λq=>hn ⟨j,hj,q⟩;have:=List.Nodup.length_le_of_subset (l₁:=cj<|m+1) (l₂:=ps) List.nodup_range (λj hj=>bY j<|by have:=gh.mp hj;lia);rw[fu]at this;lia
theorem an2{t:SetTable}{es:Array (Int×aA)}(ok:TOk t es)(cE:Nat->Int)(h:Int):∀(fuel:Nat)(p:Probe),(∃n,n<fuel/\(itn (adv t.mask) n p).j∉t.place.toList)->
  (∃n,probe.go t cE h fuel p=some (.empty (itn (adv t.mask) n p).j p.dummy)/\(itn (adv t.mask) n p).j∉t.place.toList/\∀n',n'<n->∃i:Nat,t.place[i]?=some (itn (adv t.mask) n' p).j/\cE i≠h)\/
  (∃n i,probe.go t cE h fuel p=some (.candidate (itn (adv t.mask) n p).j i (itn (adv t.mask) (n+1) p))/\t.place[i]?=some (itn (adv t.mask) n p).j/\cE i=h/\∀n',n'<n->∃i':Nat,t.place[i']?=some (itn (adv t.mask) n' p).j/\cE i'≠h)
 | 0,p,⟨n,hn,_⟩=>by lia
 | fuel+1,p,⟨n,hn,bR⟩=>by
  by_cases hp:p.j∈t.place.toList
  .obtain⟨i,hi⟩:=ap1 hp;have hs:=ML ok.rise hi;by_cases hh:cE i=h
   .refine .inr<|nc 0 i ⟨?_,hi,hh,λn' fL=>by lia⟩;unfold probe.go;rw[hs];dsimp only;rw[if_pos (by simp[hh])];rfl
   .have sP:∃n,n<fuel/\(itn (adv t.mask) n<|adv t.mask p).j∉t.place.toList:=by
     cases n with
     | zero=>exact absurd hp bR
     | succ n=>exact⟨n,by lia,bR⟩
    have Ba:probe.go t cE h (fuel+1) p=probe.go t cE h fuel (adv t.mask p):=by rw[probe.go,hs];dsimp only;rw[if_neg (by simp[hh])];rfl
    have hd:(adv t.mask p).dummy=p.dummy:=by unfold adv;split<;>rfl
    have CM:∀{n:Nat},(∀n',n'<n->∃i':Nat,t.place[i']?=some (itn (adv t.mask) n'<|adv t.mask p).j/\cE i'≠h)->∀n',n'<n+1->∃i':Nat,t.place[i']?=some (itn (adv t.mask) n' p).j/\cE i'≠h:=λH n' fL=>by
     cases n' with
     | zero=>exact⟨i,hi,hh⟩
     | succ n'=>exact H n'<|by lia
    rcases an2 ok cE h fuel (adv t.mask p) sP with ⟨m,e,f,g⟩|⟨m,i',e,f,g,g'⟩
    .exact .inl ⟨m+1,by rw[Ba,e,hd];rfl,f,CM g⟩
    .exact .inr<|nc (m+1) i' ⟨by rw[Ba,e];rfl,f,g,CM g'⟩
  .refine .inl ⟨0,?_,hp,λn' fL=>by lia⟩;unfold probe.go;rw[alg ok.rise ok.dm hp];rfl
def alc{t:SetTable}{es:Array (Int×aA)}(ok:TOk t es)(cE:Nat->Int)(h:Int){p:Probe}(st:wL t.mask p) :
  (∃n,t.probe cE h p=some (.empty (itn (adv t.mask) n p).j p.dummy)/\(itn (adv t.mask) n p).j∉t.place.toList/\∀n',n'<n->∃i:Nat,t.place[i]?=some (itn (adv t.mask) n' p).j/\cE i≠h)\/
  (∃n i,t.probe cE h p=some (.candidate (itn (adv t.mask) n p).j i (itn (adv t.mask) (n+1) p))/\t.place[i]?=some (itn (adv t.mask) n p).j/\cE i=h/\∀n',n'<n->∃i':Nat,t.place[i']?=some (itn (adv t.mask) n' p).j/\cE i'≠h):=by
 obtain⟨k,hk,_,_⟩:=ok.two;obtain⟨j,hj,hn⟩:=atr (ps:=t.place.toList) (m:=t.mask) (by rw[a9];exact ok.fit);obtain⟨n,hl,e⟩:=ay3 hk p st.1 st.2.1 j hj;exact an2 ok cE h _ p ⟨n,hl,by rw[e];exact hn⟩
def TOk.ahead{t:SetTable}{es:Array (Int×aA)}(ok:TOk t es){j:Nat}{e:Int×aA}(hs:BC t.place.toList es.toList j e){n:Nat}(hf:si t.mask e.1 n∉t.place.toList):∃m,m<n/\si t.mask e.1 m=j:=by
 obtain⟨m,h1,h2⟩:=ok.onroad j e hs;refine⟨m,?_,h1⟩;apply jg;intro hm;by_cases q:n<m
 .exact hf<|h2 n q
 .have:m=n:=by lia
  subst this;rw[h1]at hf;obtain⟨i,hi,_⟩:=hs;exact hf<|ai hi
theorem TOk.put{t:SetTable}{es:Array (Int×aA)}(ok:TOk t es){h:Int}{x:aA}{n:Nat}(hf:si t.mask h n∉t.place.toList)(hr:∀n',n'<n->si t.mask h n'∈t.place.toList)(sN:t.place.size+1<=t.mask) :
  TOk (t.put<|si t.mask h n).1 (insertAt es (t.put<|si t.mask h n).2 (h,x))/\(t.put<|si t.mask h n).1.mask=t.mask/\(t.put<|si t.mask h n).2<=es.size/\(t.put<|si t.mask h n).1.place.size=t.place.size+1:=by
 have vS:=xj ok.rise<|si t.mask h n;have Js:has t.dummies (si t.mask h n)=false:=by rw[ok.dm];unfold has;simp
 have Jg:t.put (si t.mask h n)=({t with place:=insertAt t.place (below t.place<|si t.mask h n)<|si t.mask h n,dummies:=#[]},below t.place<|si t.mask h n):=by unfold SetTable.put;rw[Js,ok.dm];rfl
 rw[Jg];have oF:(insertAt t.place (below t.place<|si t.mask h n)<|si t.mask h n).size=t.place.size+1:=by rw[<-a9,qv,bo,bx,cg,ik,a9];have:=vS.1;lia
 have hsz:=ok.sz;have eK:∀j,j∈(insertAt t.place (below t.place<|si t.mask h n)<|si t.mask h n).toList↔j=si t.mask h n\/j∈t.place.toList:=λj=>by
  rw[qv];constructor
  .intro hj;rcases bw.mp hj with q|q
   .exact .inr<|cx q
   .rcases a6.mp q with q|q
    .exact .inl q
    .exact .inr<|jt q
  .rintro(rfl|hj)
   .exact dq _ aq
   .rw[<-ei (below t.place<|si t.mask h n) t.place.toList]at hj;rcases bw.mp hj with q|q
    .exact kh _ q
    .exact dq _<|ar _ q
 refine⟨⟨ok.two,rfl,ah8 ok.rise hf,?_,?_,?_,?_⟩,rfl,?_,oF⟩
 .intro j hj;rcases(eK j).mp hj with rfl|q
  .exact aup _ _ _
  .exact ok.bd j q
 .show(insertAt t.place _ _).size=(insertAt es (below t.place<|si t.mask h n) (h,x)).size;rw[oF,<-a9 (xs:=insertAt es _ _),qv,bo,bx,cg,ik,a9];have:=vS.1;lia
 .show(insertAt t.place _ _).size<=t.mask;rw[oF];exact sN
 .intro j e hs;have fK:BC (t.place.toList.take (below t.place<|si t.mask h n)++si t.mask h n::t.place.toList.drop (below t.place<|si t.mask h n)) (es.toList.take (below t.place<|si t.mask h n)++(h,x)::es.toList.drop (below t.place<|si t.mask h n)) j e:=by
   have FC:BC (insertAt t.place (below t.place<|si t.mask h n)<|si t.mask h n).toList (insertAt es (below t.place<|si t.mask h n) (h,x)).toList j e:=hs;rw[qv,qv]at FC;exact FC
  rcases(aic (by rw[a9,a9];exact hsz) _ _ (by rw[a9];exact vS.1) _).mp fK with ⟨rfl,rfl⟩|q
  .exact⟨n,rfl,λn' fL=>(eK _).mpr (.inr<|hr n' fL)⟩
  .obtain⟨m,h1,h2⟩:=ok.onroad j e q;exact⟨m,h1,λn' fL=>(eK _).mpr (.inr<|h2 n' fL)⟩
 .show below t.place _<=es.size;have:=vS.1;lia
theorem TOk.fits{t:SetTable}{es:Array (Int×aA)}(ok:TOk t es):t.fits es.size=true:=by unfold SetTable.fits SetTable.fill;rw[ok.dm];simp[ok.sz];have:=ok.fit;have:=ok.sz;lia
def TOk.noway{t:SetTable}{es:Array (Int×aA)}(ok:TOk t es):t.gaveWay=false:=by
 obtain⟨k,hk,h3,_⟩:=ok.two;unfold SetTable.gaveWay;have:2^k % 2=0:=by rw[show k=(k-1)+1 by lia,kx];lia
 simp;lia
theorem TOk.fresh(finger moves:Nat)(led:Bool):TOk (.fresh finger moves led) #[]:=
 ⟨⟨3,rfl,by decide,by decide,rfl⟩,rfl,List.Pairwise.nil,(λj hj=>by cases hj),rfl,(by show 0<=7;decide),(λj e ⟨i,h,_⟩=>by simp[SetTable.fresh]at h)⟩
def ays{mask k:Nat}(hk:mask+1=2^k)(x:Nat×Nat)(hp:x.2<2^64)(j:Nat)(hj:j<=mask):∃m,m<turns mask/\(itn (lp mask) m x).1=j:=by
 have hz:(itn (lp mask) 13 x).2<32^(13-13):=MO mask 13 x 13 (cw hp<|by decide);have vI:(itn (lp mask) 13 x).2=0:=by simpa using hz
 have hi:(itn (lp mask) 13 x).1<2^k:=by rw[My];exact Li hk _
 have e0:∀m,itn (lp mask) (13+m) x=itn (lp mask) m (itn (lp mask) 13 x):=λm=>vm _ _ _ _;generalize itn (lp mask) 13 x=y at *;obtain⟨y1,y2⟩:=y;simp only at vI hi;subst vI;obtain⟨m,uE,e3⟩:=LJ k y1 j;refine⟨13+m,?_,?_⟩
 .unfold turns;lia
 .rw[e0,yi hk m y1 hi];show g5 m y1 % 2^k=j;rw[e3,io<|by lia]
theorem asf(mask:Nat):∀(q:Nat)(p:Probe),q<=p.more->(itn (adv mask) q p).j=p.j+q
 | 0,p,_=>rfl
 | q+1,p,h=>by
  show(itn (adv mask) q<|adv mask p).j=_;have e:adv mask p={p with j:=p.j+1,more:=p.more-1}:=by unfold adv;rw[if_pos (by lia)]
  rw[e,asf mask q _<|by show q<=p.more-1;lia];show p.j+1+q=p.j+(q+1);lia
def Em(owner:Array (Option Nat))(j:Nat):Prop:=∃q,owner[j]?=some (some q)
theorem ahf{mask k:Nat}(hk:mask+1=2^k){owner:Array (Option Nat)}(hs:owner.size=mask+1){f:Nat}(hf:owner[f]?=some none):∀(fuel:Nat)(x:Nat×Nat),x.1<=mask->x.2<2^64->(∃m,m<fuel/\(itn (lp mask) m x).1=f)->
  ∃j n,layClean.free mask owner fuel x.1 x.2=some j/\(itn (adv mask) n<|at0 mask x none).j=j/\owner[j]?=some none/\∀n',n'<n->Em owner (itn (adv mask) n'<|at0 mask x none).j
 | 0,x,_,_,⟨m,hm,_⟩=>by lia
 | fuel+1,x,h1,h2,⟨m,hm,em⟩=>by
  have C3:(at0 mask x none).more=runEnd mask x.1-x.1:=rfl;have hend:runEnd mask x.1<=mask/\x.1<=runEnd mask x.1:=by unfold runEnd;split<;>lia
  have get:∀q,(hq:q<runEnd mask x.1+1-x.1)->owner.getD (x.1+q) (some 0)=owner[x.1+q]'(by lia):=λq hq=>by simp only[Array.getD];rw[dif_pos (show x.1+q<owner.size by lia)];rfl
  have pos:∀q,q<runEnd mask x.1+1-x.1->(itn (adv mask) q<|at0 mask x none).j=x.1+q:=λq hq=>asf mask q _ (by rw[C3];lia);have occ:∀q (hq:q<runEnd mask x.1+1-x.1),(owner.getD (x.1+q)<|some 0).isNone=false->Em owner (x.1+q):=λq hq hn=>by
   rw[get q hq]at hn;cases hv:owner[x.1+q]'(by lia)with
   | none=>rw[hv]at hn;cases hn
   | some v=>exact⟨v,by rw[b8 (by lia),hv]⟩
  unfold layClean.free;cases Dw:(cj<|runEnd mask x.1+1-x.1).find? λk=>(owner.getD (x.1+k)<|some 0).isNone with
  | some q=>
   rw[List.find?_range_eq_some]at Dw;obtain⟨a,b,c⟩:=Dw;have hq:q<runEnd mask x.1+1-x.1:=gh.mp b;refine(nc (x.1+q) q ⟨rfl,pos q hq,?_,λn' fL=>?_⟩)
   .rw[get q hq]at a;rw[b8 (by lia)];cases hv:owner[x.1+q]'(by lia)with
    | none=>rfl
    | some v=>rw[hv]at a;cases a
   .rw[pos n' (by lia)];exact occ n' (by lia) (by simpa using c n' fL)
  | none=>
   rw[List.find?_range_eq_none]at Dw;dsimp only;cases m with
   | zero=>
    have e0:x.1=f:=em;have:=Dw 0 (by lia);rw[Nat.add_zero]at this;have g:=get 0 (by lia);simp only[Nat.add_zero]at g;rw[g]at this;subst e0;rw[b8 (by lia)]at hf;injection hf with hf
    rw[hf]at this;cases this
   | succ m=>
    have iA:(lp mask x).1<=mask:=by have:=Li hk x;lia
    have eV:(lp mask x).2<2^64:=by show x.2/32<2^64;lia
    obtain⟨j,n,e1,e2,e3,e4⟩:=ahf hk hs hf fuel (lp mask x) iA eV ⟨m,by lia,em⟩;have tl:=Hf mask _ (at0 mask x none) rfl;refine(nc j ((at0 mask x none).more+1+n) ⟨e1,?_,e3,λn' fL=>?_⟩)
    .rw[vm,tl];exact e2
    .by_cases hq:n'<(at0 mask x none).more+1
     .have kI:n'<runEnd mask x.1+1-x.1:=by rw[C3]at hq;lia
      rw[pos n' kI];exact occ n' kI<|by simpa using Dw n' kI
     .have:=e4 (n'-((at0 mask x none).more+1)) (by lia);rw[show n'=(at0 mask x none).more+1+(n'-((at0 mask x none).more+1)) by lia,vm,tl];exact this
structure Own(mask:Nat)(hs:Z Int)(owner:Array (Option Nat))(k:Nat):Prop where
 size:owner.size=mask+1
 o1:∀j q:Nat,owner[j]?=some (some q)->q<k/\∃h,hs[q]?=some h/\∃n,si mask h n=j/\∀n',n'<n->Em owner (si mask h n')
 o2:∀q:Nat,q<k->∃j:Nat,owner[j]?=some (some q)
 o3:∀j j' q:Nat,owner[j]?=some (some q)->owner[j']?=some (some q)->j=j'
theorem Own.free{mask:Nat}{hs:Z Int}{owner:Array (Option Nat)}{k:Nat}(o:Own mask hs owner k)(hk:k<=mask):∃f,f<=mask/\owner[f]?=some none:=by
 apply jg;intro hn;have bY:∀j,j<=mask->∃q,owner[j]?=some (some q):=λj hj=>by
  have pM:j<owner.size:=by rw[o.size];lia
  cases hv:owner[j]with
  | none=>exact absurd ⟨j,hj,by rw[b8 pM,hv]⟩ hn
  | some q=>exact⟨q,by rw[b8 pM,hv]⟩
 have val:∀(j q:Nat),owner[j]?=some (some q)->((owner[j]?).getD none).getD 0=q:=λj q h=>by rw[h];rfl
 have nd:((cj<|mask+1).map λj=>((owner[j]?).getD none).getD 0).Nodup:=by show List.Pairwise _ _;rw[fh];refine eu ?_<|List.nodup_range (n:=mask+1);intro a b ha hb gW e;obtain⟨q,hq⟩:=bY a (by have:=gh.mp ha;lia);obtain⟨q',kI⟩:=bY b (by have:=gh.mp hb;lia);rw[val a q hq,val b q' kI]at e;subst e;exact gW<|o.o3 a b q hq kI
 have:=List.Nodup.length_le_of_subset (l₂:=cj k) nd λv hv=>by obtain⟨j,hj,rfl⟩:=au.mp hv;obtain⟨q,hq⟩:=bY j (by have:=gh.mp hj;lia);rw[val j q hq];exact gh.mpr (o.o1 j q hq).1
 rw[ae,fu,fu]at this;lia
noncomputable def Mc(mask:Nat)(acc:Option (Array (Option Nat)×Nat))(h:Int):Option (Array (Option Nat)×Nat):=do
 let (owner,k) <-acc
 let j <-layClean.free mask owner (turns mask) (bits h % (mask+1)) (bits h)
 aS (owner.setIfInBounds j<|some k,k+1)
def aig(mask:Nat)(hs:Array Int):layClean mask hs=(hs.toList.foldl (Mc mask)<|some (Array.replicate (mask+1) none,0)).map (·.1):=by unfold layClean;rw[<-Array.foldl_toList];rfl
def BZ{owner:Array (Option Nat)}{j:Nat}{v:Option Nat}(hj:j<owner.size)(i:Nat):(owner.setIfInBounds j v)[i]?=if i=j then some v else owner[i]?:=by
 rw[Array.getElem?_setIfInBounds];by_cases e:j=i
 .subst e;rw[if_pos rfl,if_pos hj,if_pos rfl]
 .rw[if_neg e,if_neg<|Ne.symm e]
theorem ai6{mask k0:Nat}(iQ:mask+1=2^k0)(hs:Z Int)(uG:hs.length<=mask):∀(bA:Z Int)(k:Nat) (owner:Array (Option Nat)),hs.drop k=bA->k<=hs.length->Own mask hs owner k->
  ∃rN,bA.foldl (Mc mask) (some (owner,k))=some (rN,hs.length)/\Own mask hs rN hs.length
 | [],k,owner,hd,hk,o=>by
  have:hs.length<=k:=by have:=congrArg List.length hd;rw[ik]at this;simp at this;lia
  have e:k=hs.length:=by lia
  subst e;exact⟨owner,rfl,o⟩
 | h::bA,k,owner,hd,hk,o=>by
  have oK:k<hs.length:=by have:=congrArg List.length hd;rw[ik]at this;simp at this;lia
  have Bh:hs[k]?=some h:=by
   have:(hs.drop k)[0]?=some h:=by rw[hd];rfl
   rw[gj]at this;simpa using this
  obtain⟨f,Dv,hf⟩:=o.free (by lia);obtain⟨m,hm,em⟩:=ays iQ (bits h % (mask+1),bits h) (L1 h) f Dv;have hb:bits h % (mask+1)<=mask:=by have:=ln (bits h) (show 0<mask+1 by lia);lia
  obtain⟨j,n,e1,e2,e3,e4⟩:=ahf iQ o.size hf (turns mask) (bits h % (mask+1),bits h) hb (L1 h) ⟨m,hm,em⟩;have ej:si mask h n=j:=e2;have vT:j<owner.size:=by have:=(bz.mp e3).1;exact this
  have C0:Mc mask (some (owner,k)) h=some (owner.setIfInBounds j<|some k,k+1):=by show(layClean.free mask owner (turns mask) (bits h % (mask+1))<|bits h).bind _=_;rw[e1];rfl
  have tk:∀i,Em owner i->Em (owner.setIfInBounds j<|some k) i:=λi ⟨q,hq⟩=>by
   by_cases e:i=j
   .exact⟨k,by rw[BZ vT,if_pos e]⟩
   .exact⟨q,by rw[BZ vT,if_neg e];exact hq⟩
  have o':Own mask hs (owner.setIfInBounds j<|some k) (k+1):=by
   refine⟨by rw[Array.size_setIfInBounds];exact o.size,λi q hq=>?_,λq hq=>?_,λi i' q hq kI=>?_⟩
   .rw[BZ vT]at hq;by_cases e:i=j
    .rw[if_pos e]at hq;cases hq;exact⟨by lia,(qe h Bh n ⟨by rw[ej,e],λn' fL=>tk _<|e4 n' fL⟩)⟩
    .rw[if_neg e]at hq;obtain⟨a,h',b,n',c,d⟩:=o.o1 i q hq;exact⟨by lia,(qe h' b n' ⟨c,λn'' Jt=>tk _<|d n'' Jt⟩)⟩
   .by_cases e:q=k
    .exact⟨j,by rw[BZ vT,if_pos rfl,e]⟩
    .obtain⟨i,hi⟩:=o.o2 q (by lia);have:i≠j:=λe'=>by rw[e',e3]at hi;cases hi
     exact⟨i,by rw[BZ vT,if_neg this];exact hi⟩
   .rw[BZ vT]at hq kI;by_cases e:i=j<;>by_cases e':i'=j
    .rw[e,e']
    .rw[if_pos e]at hq;rw[if_neg e']at kI;cases hq;have:=(o.o1 i' k kI).1;lia
    .rw[if_neg e]at hq;rw[if_pos e']at kI;cases kI;have:=(o.o1 i k hq).1;lia
    .rw[if_neg e]at hq;rw[if_neg e']at kI;exact o.o3 i i' q hq kI
  rw[List.foldl_cons,C0];refine ai6 iQ hs uG bA (k+1) _ ?_ (by lia) o';rw[<-List.drop_drop,hd];rfl
def aem{mask k0:Nat}(iQ:mask+1=2^k0)(hs:Array Int)(uG:hs.size<=mask):∃owner,layClean mask hs=some owner/\Own mask hs.toList owner hs.size:=by
 rw[aig];obtain⟨o,e,ok⟩:=ai6 iQ hs.toList (by rw[a9];exact uG) hs.toList 0 (Array.replicate (mask+1) none) rfl (fk _) (by
  refine⟨by simp,λj q hq=>?_,λq hq=>by lia,λj j' q hq kI=>?_⟩
  .rw[Array.getElem?_replicate]at hq;split at hq<;>cases hq
  .rw[Array.getElem?_replicate]at hq;split at hq<;>cases hq)
 rw[e];exact⟨o,rfl,by rw[a9]at ok;exact ok⟩
theorem wy:∀(fuel k n:Nat),∃k',sizeAbove.go n fuel (2^k)=2^k'/\k<=k'/\k'<=k+fuel/\(n<2^(k+fuel)->n<2^k')/\(k'=k\/2^k'<=2*n)
 | 0,k,n=>⟨k,rfl,ao _,ao _,id,.inl rfl⟩
 | fuel+1,k,n=>by
  unfold sizeAbove.go;by_cases h:2^k<=n
  .rw[if_pos h,show 2^k*2=2^(k+1)from (kx ..).symm];obtain⟨k',a,b,c,d,e⟩:=wy fuel (k+1) n;refine⟨k',a,by lia,by lia,λq=>d<|by rw[show k+1+fuel=k+(fuel+1) by lia];exact q,?_⟩;rcases e with e|e
   .rw[e,kx];lia
   .exact .inr e
  .rw[if_neg h];exact⟨k,rfl,ao _,by lia,λ_=>by lia,.inl rfl⟩
def vq(n:Nat)(hn:n<2^13):∃k,sizeAbove n=2^k/\3<=k/\k<=13/\n<2^k:=by
 obtain⟨k,a,b,c,d,e⟩:=wy 64 3 n;refine⟨k,a,b,?_,d<|Nat.lt_trans hn<|Nat.pow_lt_pow_right (by decide)<|by decide⟩;rcases e with e|e
 .lia
 .apply jg;intro h;have:2^14<=2^k:=ie (by decide) (by lia);have e14:2^14=2*2^13:=by decide
  lia
def aeg(n:Nat)(h8:8<=n)(hn:n<2^13){k:Nat}(e:sizeAbove n=2^k):k<=13/\n<2^k/\2^k<=2*n:=by
 obtain⟨k',a,b,c,d,e'⟩:=wy 64 3 n;obtain⟨k2,a2,_,b2,c2⟩:=vq n hn;have e1:k=k2:=(Nat.pow_right_inj<|by decide).mp (e.symm.trans a2);have e2:k2=k':=(Nat.pow_right_inj<|by decide).mp (a2.symm.trans a);subst e1;refine⟨b2,c2,?_⟩;rcases e' with e'|e'
 .rw[e2,e'];lia
 .rw[e2];exact e'
def arz{m n k k':Nat}(hk:m+1=2^k)(k3:3<=k)(vH:k<=13)(ko:k % 2=1)(h1:m*3<=n*5)(h2:(n-1)*5<m*3)(h4:n<=4000)(qO:k'<=13)(l1:n*4<2^k')(l2:2^k'<=2*(n*4)):k' % 2=1:=by
 have p3:2^3<=2^k:=ie (by decide) k3;have a:¬k'<=k+1:=λh=>by have h:=ie (show 0<2 by decide) h;rw[kx]at h;lia
 have b:¬k+3<=k':=λh=>by have h:=ie (show 0<2 by decide) h;rw[Nat.pow_add]at h;lia
 lia
def ako{m n k:Nat}(hk:m+1=2^k)(k3:3<=k)(vH:k<=13)(ko:k % 2=1)(h1:m*3<=n*5)(h2:(n-1)*5<m*3)(h4:n<=4000):n*4<2^13/\2<=n:=by
 have p3:2^3<=2^k:=ie (by decide) k3;have a:k≠13:=λh=>by subst h;lia
 have h:=ie (show 0<2 by decide) (show k<=11 by lia);lia
theorem aaf{α β:Type}{f:α->Option β}{g:α->β}:∀(l:List α),(∀x∈l,f x=some (g x))->l.filterMap f=l.map g
 | [],_=>rfl
 | a::l,h=>by rw[List.filterMap_cons,h a aq,cm,aaf l λx hx=>h x<|ar _ hx]
theorem aik{t:SetTable}{es:Array (Int×aA)}{cA:Nat}(hw:es.size*4<=cA)(Fy:cA<2^13)(zE:∀k,sizeAbove cA=2^k->k % 2=1)(dD:0<es.size) :
  ∃t' gJ,t.relaid (es.map (·.1)) cA=some (t',gJ)/\TOk t' (gJ.filterMap (es[·]?))/\(gJ.filterMap (es[·]?)).toList.Perm es.toList/\t'.place.size*5<t'.mask*3/\t'.led=t.led:=by
 obtain⟨k,ek,k3,vH,hn⟩:=vq cA Fy;have ko:=zE k ek;have sV:sizeAbove cA-1+1=2^k:=by rw[ek];have:=Nat.two_pow_pos k;lia
 have uG:(es.map (·.1)).size<=sizeAbove cA-1:=by rw[Array.size_map,ek];lia
 obtain⟨owner,eo,ok⟩:=aem sV (es.map (·.1)) uG;rw[Array.size_map]at ok;generalize hm:sizeAbove cA-1=mask at *
 let live:=(cj<|mask+1).filterMap λj=>(owner.getD j none).map λq=>(j,q)
 have hZ:∀j q,(j,q)∈live↔owner[j]?=some (some q):=λj q=>by
  show(j,q)∈(cj<|mask+1).filterMap _↔_;rw[List.mem_filterMap];constructor
  .rintro⟨a,ha,e⟩;have hs:a<owner.size:=by rw[ok.size];exact gh.mp ha
   simp only[Array.getD,dif_pos hs]at e;cases hv:owner[a]with
   | none=>
    have e':(owner[a]).map (λq=>(a,q))=some (j,q):=e;rw[hv]at e';cases e'
   | some v=>
    have e':(owner[a]).map (λq=>(a,q))=some (j,q):=e;rw[hv]at e';cases e';rw[b8 hs,hv]
  .intro h;obtain⟨hs,hv⟩:=bz.mp h;refine⟨j,gh.mpr<|by rw[<-ok.size];exact hs,?_⟩;simp only[Array.getD,dif_pos hs];show(owner[j]).map (λq=>(j,q))=some (j,q);rw[hv];rfl
 have sO:(live.map (·.1)).Pairwise (· < ·):=by rw[fh];show((cj<|mask+1).filterMap _).Pairwise _;rw[List.pairwise_filterMap];refine List.Pairwise.imp ?_<|List.pairwise_lt_range (n:=mask+1);intro a b gW x hx y hy;obtain⟨q,_,rfl⟩:=ca.mp hx;obtain⟨q',_,rfl⟩:=ca.mp hy;exact gW
 have lQ:(live.map (·.2)).Nodup:=by
  show List.Pairwise _ _;rw[fh];have h1:live.Pairwise λa b=>a.1<b.1:=by rw[fh]at sO;exact sO
  refine eu ?_ h1;intro a b ha hb gW e;have:=ok.o3 a.1 b.1 a.2 ((hZ _ _).mp ha) (by rw[e];exact(hZ _ _).mp hb);lia
 have jD:(live.map (·.2)).Perm (cj es.size):=by
  rw[List.perm_ext_iff_of_nodup lQ List.nodup_range];intro q;rw[au,gh];constructor
  .rintro⟨⟨j,q'⟩,h,rfl⟩;exact(ok.o1 j q'<|(hZ _ _).mp h).1
  .intro h;obtain⟨j,hj⟩:=ok.o2 q h;exact⟨(j,q),(hZ _ _).mpr hj,rfl⟩
 have bB:live.length=es.size:=by have:=jD.length_eq;rw[ae,fu]at this;exact this
 have Dv:((live.map (·.2)).toArray.filterMap (es[·]?)).toList=live.map λx=>es[x.2]?.getD (0,.none):=by
  rw[Array.toList_filterMap];show List.filterMap _ (live.map (·.2))=_;rw[List.filterMap_map];have:∀x∈live,es[x.2]?=some (es[x.2]?.getD (0,.none)):=λx hx=>by have bN:=(ok.o1 x.1 x.2<|(hZ x.1 x.2).mp hx).1;rw[b8 bN];rfl
  exact aaf live this
 have JS:(live.map λx=>es[x.2]?.getD (0,.none)).Perm es.toList:=by
  have h1:=jD.map λq=>es[q]?.getD (0,.none);rw[bf]at h1;have h2:(cj es.size).map (λq=>es[q]?.getD (0,.none))=es.toList:=by
   apply List.ext_getElem
   .simp
   .intro i a b;simp;rw[b8 (by simpa using b)];rfl
  rw[h2]at h1;exact h1
 refine(nc ⟨mask,(live.map (·.1)).toArray,#[],t.finger,t.led,t.movedTo mask,t.plain⟩ ((live.map (·.2)).toArray) ⟨?_,?_,?_,?_,rfl⟩)
 .unfold SetTable.relaid SetTable.laid;rw[hm,eo];rfl
 .refine⟨⟨k,sV,k3,vH,ko⟩,rfl,by simpa using sO,?_,?_,?_,?_⟩
  .intro j hj;have pM:j∈live.map (·.1):=by simpa using hj
   obtain⟨⟨j',q⟩,h,rfl⟩:=au.mp pM;have:=(bz.mp<|(hZ _ _).mp h).1;rw[ok.size]at this;show j'<=mask;lia
  .rw[<-a9 (xs:=Array.filterMap _ _),Dv];simp
  .show(live.map (·.1)).toArray.size<=mask;simp;rw[Array.size_map]at uG;lia
  .intro j e hs;rw[Dv]at hs;obtain⟨i,h1,h2⟩:=hs;have eR:(live.map (·.1))[i]?=some j:=by simpa using h1
   rw[ax]at eR h2;cases hl:live[i]? with
   | none=>rw[hl]at eR;cases eR
   | some x=>
    rw[hl]at eR h2;obtain⟨j',q⟩:=x;cases eR;obtain⟨hq,h,a,n,b,c⟩:=ok.o1 j' q<|(hZ _ _).mp (ai hl);have e2:es[q]?.getD (0,.none)=e:=by cases h2;rfl
    have e3:e.1=h:=by
     rw[<-e2,b8 hq];have a':(es.map (·.1))[q]?=some h:=by rw[<-bi];exact a
     rw[Array.getElem?_map,b8 hq]at a';simpa using a'
    rw[e3];refine⟨n,b,λn' fL=>?_⟩;obtain⟨q',kI⟩:=c n' fL;have:si mask h n'∈live.map (·.1):=au.mpr ⟨(si mask h n',q'),(hZ _ _).mpr kI,rfl⟩;simpa using this
 .rw[Dv];exact JS
 .show(live.map (·.1)).toArray.size*5<mask*3;simp;rw[bB];lia
end L3
namespace L3
open PySem
variable{Pv:aA->U->Prop}
mutual
noncomputable def kd:U->Bool
 | .int _=>true
 | .str _=>true
 | .tuple ds=>u9 ds
 | .none=>false
 | .bool _=>false
 | .list _=>false
 | .dict _=>false
noncomputable def u9:Z U->Bool
 | []=>true
 | d::ds=>kd d&&u9 ds
end
mutual
noncomputable def zq(w:aN):U->Int
 | .int i=>hashInt i
 | .str x=>eP w x
 | .tuple ds=>jR (f7<|rm w ds)
 | .none=>0
 | .bool _=>0
 | .list _=>0
 | .dict _=>0
noncomputable def rm(w:aN):Z U->Z Int
 | []=>[]
 | d::ds=>zq w d::rm w ds
end
def GP(d:U):Prop:=∀(prog:aM)(w:aN)(A:Around)(E:aA->aB->Prop)(s:aB)(v:aA)(as:Z aG)(Q:Int->aB->Prop),Reads s.heap v d as->A.units+d.depth<aV->(∀tk,s.toks<=tk->Q (zq w d) {s with toks:=tk})->aH (aI prog w) A (pyHash v) Q E s
theorem alp{ds:Z U}(H:∀d∈ds,GP d):GP (.tuple ds):=λprog w A E s v as Q r hu h=>by
 cases r with
 | @tuple a o vs n _ _ ho hc hd hi=>
 have hT:s.TypeIs (.ref a) "tuple":=⟨o,ho,hc⟩;have pD:A.units+(bj ds+1)<aV:=hu;unfold pyHash;first|unfold Ix|skip
 first|refine ab (Cf (.inr (show A.units<aV by lia)) ?_)|skip
 refine ab<|jy (name:="__hash__") hT je.lookup ?_;show aH _ _ (if (some (aA.builtin "tuple.__hash__")==some aA.none)=true then _ else _) _ _ _;rw[if_neg (show ¬_ by rw[Gb];exact am)];refine ab<|jy (name:="__hash__") hT je.lookup ?_;show aH _ _ (mP (.ref a) "__hash__" _ >>= _) _ _ _;refine ab<|gO (name:="__hash__") hT je<|dv (name:="__hash__") je hT F.entry_tuple_hash ?_<|F.args_tuple_hash_1 _;show aH _ _ (Builtin.Tuple.tupleItemsOf (.ref a) >>= _) _ _ _;refine ab<|AF (n:=n) ho hd ?_;refine ab ?_;rw[<-Array.forIn_toList];refine k9 _
  (λbA (b:Array Int) s'=>∃done left bs tk,ds=done++left/\ReadsAll s.heap bA left bs/\b.toList=rm w done/\s'={s with toks:=tk}/\s.toks<=tk)
  _ (λx bA b s' hI=>?_) (λb s' hI=>?_) _ _ (ny ([]) ds as s.toks ⟨rfl,hi,rfl,rfl,ao _⟩)
 .obtain⟨done,left,bs,tk,e,hl,hb,rfl,hk⟩:=hI;cases hl with
  | @cons _ _ d cQ _ _ h1 pJ=>
   have eK:d∈ds:=by rw[e];simp
   have DB:∀(l:Z U),d∈l->d.depth<=bj l:=λl=>by
    induction l with
    | nil=>intro q;cases q
    | cons y l ih=>
     intro q;show _<=max y.depth (bj l);rcases a6.mp q with rfl|q
     .exact Nat.le_max_left _ _
     .exact gw (ih q)<|Nat.le_max_right _ _
   have vV:=DB ds eK;refine ab<|H d eK prog w _ E {s with toks:=tk} x _ _ h1 (by show A.units+1+d.depth<aV;lia) λvB cP=>?_;have hap:∀(l:Z U),rm w (l++[d])=rm w l++[zq w d]:=λl=>by
    induction l with
    | nil=>rfl
    | cons y l ih=>show zq w y::rm w (l++[d])=_;rw[ih];rfl
   first
    | exact ah (ny (done++[d]) cQ _ vB ⟨by simp[e],pJ,by simp[hb,hap],rfl,gw hk cP⟩)
    | exact ab<|ah<|ah ⟨done++[d],cQ,_,vB,by simp[e],pJ,by simp[hb,hap],rfl,gw hk cP⟩
 .obtain⟨done,left,bs,tk,e,hl,hb,rfl,hk⟩:=hI;cases hl;rw[df]at e;subst e;show aH _ _ (retInt<|f7 b.toList) _ _ _;rw[hb];refine HY ?_;show aH _ _ (if (decide (-(2:Int)^63<=f7 (rm w ds))&&decide (f7 (rm w ds)<2^63))=true then _ else _) _ _ _;have h':∀tk,s.toks<=tk->Q (jR<|f7<|rm w ds) {s with toks:=tk}:=h;unfold jR at h';split
  .rename_i hr
   rw[if_pos hr]at h';exact ah<|h' _<|by simp only;lia
  .rename_i hr
   rw[if_neg hr]at h';exact ab<|jm<|ah<|h' _<|by simp only;lia
mutual
theorem adr:∀(d:U),kd d=true->GP d
 | .int i,_=>λprog w A E s v as Q r hu h=>by
  cases r with
  | int=>exact lK (h _<|by lia)
 | .str x,_=>λprog w A E s v as Q r hu h=>by
  cases r with
  | str=>exact lJ (h _<|by lia)
 | .tuple ds,hk=>alp (zk ds hk)
 | .none,hk=>absurd hk am
 | .bool _,hk=>absurd hk am
 | .list _,hk=>absurd hk am
 | .dict _,hk=>absurd hk am
theorem zk:∀(ds:Z U),u9 ds=true->∀d∈ds,GP d
 | [],_,d,hd=>by cases hd
 | e::ds,hk,d,hd=>by
  have cP:(kd e&&u9 ds)=true:=hk;rw[dw]at cP;rcases a6.mp hd with h|hd
  .rw[h];exact adr e cP.1
  .exact zk ds cP.2 d hd
end
mutual
theorem BW:∀(d e:U),kd d=true->kd e=true->bn d e=true->d=e
 | .int i,e,_,he,h=>by cases e<;>simp[bn,kd]at h he⊢;exact h
 | .str x,e,_,he,h=>by cases e<;>simp[bn,kd]at h he⊢;exact h
 | .tuple ds,e,hd,he,h=>by
  cases e with
  | tuple es=>
   have:=MK ds es hd he (by simpa [bn]using h);rw[this]
  | _=>simp[bn,kd]at h he
 | .none,_,hd,_,_=>absurd hd am
 | .bool _,_,hd,_,_=>absurd hd am
 | .list _,_,hd,_,_=>absurd hd am
 | .dict _,_,hd,_,_=>absurd hd am
theorem MK:∀(ds es:Z U),u9 ds=true->u9 es=true->db ds es=true->ds=es
 | [],[],_,_,_=>rfl
 | [],_::_,_,_,h=>by simp[db]at h
 | _::_,[],_,_,h=>by simp[db]at h
 | d::ds,e::es,hd,he,h=>by
  have vW:(kd d&&u9 ds)=true:=hd;have jU:(kd e&&u9 es)=true:=he;rw[dw]at vW jU;have h':bn d e=true/\db ds es=true:=by simpa [db]using h
  rw[BW d e vW.1 jU.1 h'.1,MK ds es vW.2 jU.2 h'.2]
end
theorem ur{h:Heap}:∀{vs:Z aA} {ds:Z U} {as:Z aG},ReadsAll h vs ds as->∀v∈vs,∃d bs,d∈ds/\Reads h v d bs
 | _,_,_,.nil,v,hv=>by cases hv
 | _,_,_,.cons h1 h2,v,hv=>by
  rcases a6.mp hv with e|hv
  .rw[e];exact(nc _ _ ⟨aq,h1⟩)
  .obtain⟨d,bs,q1,q2⟩:=ur h2 v hv;exact(nc d bs ⟨ar _ q1,q2⟩)
theorem GU:∀{ds:Z U},u9 ds=true->∀d∈ds,kd d=true
 | [],_,d,hd=>by cases hd
 | e::ds,hk,d,hd=>by
  have cP:(kd e&&u9 ds)=true:=hk;rw[dw]at cP;rcases a6.mp hd with h|hd
  .rw[h];exact cP.1
  .exact GU cP.2 d hd
theorem Hg:∀{ds:Z U},∀d∈ds,d.depth<=bj ds
 | [],d,hd=>by cases hd
 | e::ds,d,hd=>by
  show _<=max e.depth (bj ds);rcases a6.mp hd with h|hd
  .rw[h];exact Nat.le_max_left _ _
  .exact gw (Hg d hd)<|Nat.le_max_right _ _
section
variable{prog:aM}{w:aN}{A:Around}{E:aA->aB->Prop}{s:aB}
theorem yy(n:Nat):∀{v:aA} {d:U} {as:Z aG} {Q:Bool->aB->Prop},kd d=true->Reads s.heap v d as->d.depth<n->Q true s->aH (aI prog w) A (eqIsQuiet n v) Q E s:=by
 induction n with
 | zero=>intro v d as Q hk r hn q;exact absurd hn (Nat.not_lt_zero _)
 | succ n ih=>
  intro v d as Q hk r hn q;cases d with
  | int i=>cases r with|int=>rw[DW _ rfl];exact ah q
  | str x=>cases r with|str=>rw[DW _ rfl];exact ah q
  | tuple ds=>
    cases r with
    | @tuple a o vs m _ _ ho hc hd hi=>
    have hT:s.TypeIs (.ref a) "tuple":=⟨o,ho,hc⟩;have fL:bj ds+1<n+1:=hn;unfold eqIsQuiet;refine ab<|jy (name:="__eq__") hT F.slot_tuple_eq.lookup ?_;show aH _ _ (isInstance (.ref a) (.type "tuple") >>= _) _ _ _;refine ab<|k7 (T:="tuple") hT isSubtype_tuple_tuple ?_;simp only[i8,be,if_false];refine ab<|ig (n:=m) ho hd ?_;refine ab ?_;show aH _ _ (xN vs _ _) _ _ _;rw[<-Array.forIn_toList];refine k9 _ (λbA r s'=>r.1=none/\s'=s/\∀v∈bA,v∈vs.toList) _ (λv bA r s' hI=>?_) (λr s' hI=>?_) _ _ ⟨rfl,rfl,λv hv=>hv⟩
    .obtain⟨hr,es,bY⟩:=hI;rw[es];obtain⟨d,bs,vV,jH⟩:=ur hi v<|bY v aq;refine ab<|ih (GU hk d vV) jH (by have:=Hg d vV;lia) ?_;simp only[i8,be,if_false];exact ah ⟨rfl,rfl,λu hu=>bY u<|ar _ hu⟩
    .obtain⟨r1,r2⟩:=r;obtain⟨hr,rfl,_⟩:=hI;simp only at hr;subst hr;exact ah q
  | none=>exact absurd hk am
  | bool _=>exact absurd hk am
  | list _=>exact absurd hk am
  | dict _=>exact absurd hk am
theorem ace(n:Nat):∀{v:aA} {d:U} {as:Z aG} {Q:Bool->aB->Prop},kd d=true->Reads s.heap v d as->d.depth<n->Q false s->aH (aI prog w) A (fF n v) Q E s:=by
 induction n with
 | zero=>intro v d as Q hk r hn q;exact absurd hn (Nat.not_lt_zero _)
 | succ n ih=>
  intro v d as Q hk r hn q;cases d with
  | int i=>cases r with|int=>unfold fF;exact ah q
  | str x=>cases r with|str=>unfold fF;exact ah q
  | tuple ds=>
    cases r with
    | @tuple a o vs m _ _ ho hc hd hi=>
    have hT:s.TypeIs (.ref a) "tuple":=⟨o,ho,hc⟩;have fL:bj ds+1<n+1:=hn;unfold fF;refine ab<|jj (T:="tuple") hT ?_;dsimp only;rw[if_pos (by decide)];refine ab<|ah ?_;simp only[i8,be,if_false];refine ab<|ig (n:=m) ho hd ?_;dsimp only;refine ab ?_;rw[<-Array.forIn_toList];refine k9 _ (λbA r s'=>r.1=none/\s'=s/\∀v∈bA,v∈vs.toList) _ (λv bA r s' hI=>?_) (λr s' hI=>?_) _ _ ⟨rfl,rfl,λv hv=>hv⟩
    .obtain⟨hr,es,bY⟩:=hI;rw[es];obtain⟨d,bs,vV,jH⟩:=ur hi v<|bY v aq;refine ab<|ih (GU hk d vV) jH (by have:=Hg d vV;lia) ?_;simp only[be,if_false];exact ah ⟨rfl,rfl,λu hu=>bY u<|ar _ hu⟩
    .obtain⟨r1,r2⟩:=r;obtain⟨hr,rfl,_⟩:=hI;simp only at hr;subst hr;exact ah q
  | none=>exact absurd hk am
  | bool _=>exact absurd hk am
  | list _=>exact absurd hk am
  | dict _=>exact absurd hk am
theorem aby:∀(n:Nat) {v:aA} {d:U} {as:Z aG} {Q:Bool->aB->Prop},kd d=true->Reads s.heap v d as->(∀b,Q b s)->aH (aI prog w) A (iE n v) Q E s
 | n,v,.int i,as,Q,hk,r,q=>by cases r with|int=>unfold iE;exact ah (q _)
 | n,v,.str x,as,Q,hk,r,q=>by cases r with|str=>unfold iE;exact ah (q _)
 | 0,v,.tuple ds,as,Q,hk,r,q=>by cases r with|tuple=>unfold iE;exact ah (q _)
 | n+1,v,.tuple ds,as,Q,hk,r,q=>by
  cases r with
  | @tuple a o vs m _ _ ho hc hd hi=>
  have hT:s.TypeIs (.ref a) "tuple":=⟨o,ho,hc⟩;unfold iE;refine ab<|jy (name:="__hash__") hT je.lookup ?_;dsimp only;refine ab<|ig (n:=m) ho hd ?_;refine ab ?_;show aH _ _ (xN vs _ _) _ _ _;rw[<-Array.forIn_toList];refine k9 _ (λbA r s'=>r.1=none/\s'=s/\∀v∈bA,v∈vs.toList) _ (λv bA r s' hI=>?_) (λr s' hI=>?_) _ _ ⟨rfl,rfl,λv hv=>hv⟩
  .obtain⟨hr,es,bY⟩:=hI;rw[es];obtain⟨d,bs,vV,jH⟩:=ur hi v<|bY v aq;refine ab<|aby n (GU hk d vV) jH λb=>?_;cases b with
   | true=>
    simp only[i8,be,if_false];exact ah ⟨rfl,rfl,λu hu=>bY u<|ar _ hu⟩
   | false=>
    simp only[Bool.not_false,if_true];exact ah<|ah<|q _
  .obtain⟨r1,r2⟩:=r;obtain⟨hr,rfl,_⟩:=hI;simp only at hr;subst hr;exact ah (q _)
 | _,_,.none,_,_,hk,_,_=>absurd hk am
 | _,_,.bool _,_,_,hk,_,_=>absurd hk am
 | _,_,.list _,_,_,hk,_,_=>absurd hk am
 | _,_,.dict _,_,_,hk,_,_=>absurd hk am
structure El(Pv:aA->U->Prop)(w:aN)(h:Heap)(e:Int×aA)(d:U):Prop where
 own:Pv e.2 d
 hash:e.1=zq w d
 key:kd d=true
 tup:∃ds,d=.tuple ds
 lay:d.canLay0=true
 deep:d.depth<8
 reads:∃as,Reads h e.2 d as
theorem El.ref{w:aN}{h:Heap}{e:Int×aA}{d:U}(x:El Pv w h e d):∃a,e.2=.ref a:=by
 obtain⟨ds,rfl⟩:=x.tup;obtain⟨as,r⟩:=x.reads;generalize e.2=v at r;cases r with
 | tuple=>exact⟨_,rfl⟩
def El.eq{h:Heap}{A:Around}{e e':Int×aA}{d d':U}(hs:s.heap=h)(x:El Pv w h e d)(y:El Pv w h e' d')(hu:A.units+8<aV){Q:Bool->aB->Prop}(q:∀b:Bool,(b=true↔d=d')->Q b s):aH (aI prog w) A (eqBool e.2 e'.2) Q E s:=by subst hs;obtain⟨as,r⟩:=x.reads;obtain⟨bs,r'⟩:=y.reads;refine SeqAt.eqBoolOverData prog w A E s _ _ d d' as bs Q r r' x.lay y.lay (by have:=x.deep;have:=jk d.depth d'.depth;lia) ?_;refine q _ ⟨λz=>BW d d' x.key y.key z,λz=>?_⟩;rw[<-z];exact kc _ x.lay
theorem aus{x:Int×aA}{d:U}(hx:El Pv w s.heap x d):∀(ys:Z aA) {Q:Bool->aB->Prop},(∀y∈ys,∃h e,El Pv w s.heap (h,y) e)->Q false s->aH (aI prog w) A (Co x.2 ys) Q E s:=by
 intro ys Q hy q;unfold Co;refine ab ?_;refine k9 _ (λbA r s'=>r.1=none/\s'=s/\∀v∈bA,v∈ys) _ (λv bA r s' hI=>?_) (λr s' hI=>?_) _ _ ⟨rfl,rfl,λv hv=>hv⟩
 .obtain⟨hr,rfl,bY⟩:=hI;obtain⟨h,e,hE⟩:=hy v<|bY v aq;obtain⟨a,ea⟩:=hx.ref;obtain⟨b,eb⟩:=hE.ref;obtain⟨as,r1⟩:=hx.reads;obtain⟨bs,r2⟩:=hE.reads;have nxt:∀u∈bA,u∈ys:=λu hu=>bY u<|ar _ hu;simp only at eb r2;have stay:aH (aI prog w) A (aS (ForInStep.yield ((none:Option Bool),())):nP (ForInStep<|Option Bool×Unit)) (λr Cr=>match r with
   | ForInStep.yield b'=>b'.fst=none/\Cr=s'/\∀(v:aA),v∈bA->v∈ys
   | ForInStep.done b'=>aH (aI prog w) A (match b'.fst with|some r=>aS r|none=>aS false) Q E Cr) E s':=ah ⟨rfl,rfl,nxt⟩
  subst eb;rw[ea]at r1⊢;dsimp only;split
  .exact stay
  .refine ab<|yy 8 hx.key r1 hx.deep ?_;simp only[i8,be,if_false];refine ab<|yy 8 hE.key r2 hE.deep ?_;simp only[i8,be,if_false];refine ab<|ace 8 hx.key r1 hx.deep ?_;simp only[be,if_false];refine ab<|ace 8 hE.key r2 hE.deep ?_;simp only[be,if_false];exact stay
 .obtain⟨r1,r2⟩:=r;obtain⟨hr,rfl,_⟩:=hI;simp only at hr;subst hr;exact ah q
def Els(Pv:aA->U->Prop)(w:aN)(h:Heap)(es:Z (Int×aA))(ds:Z U):Prop:=es.length=ds.length/\∀(i:Nat) e d,es[i]?=some e->ds[i]?=some d->El Pv w h e d
def Els.at{h:Heap}{es:Z (Int×aA)}{ds:Z U}(x:Els Pv w h es ds){i:Nat}{e:Int×aA}(he:es[i]?=some e):∃d,ds[i]?=some d/\El Pv w h e d:=by have hl:=(ak.mp he).1;have hd:ds[i]?=some (ds[i]'(by rw[<-x.1];exact hl)):=af _;exact⟨_,hd,x.2 i e _ he hd⟩
def apb{t:SetTable}{es:Array (Int×aA)}(ok:TOk t es){f:Nat->Int}{h:Int}{p:SetTable.Probe}(st:wL t.mask p) :
  ∃met,t.probe f h p=some met/\((∃n,met=.empty (itn (adv t.mask) n p).j p.dummy/\(itn (adv t.mask) n p).j∉t.place.toList/\∀n',n'<n->∃i:Nat,t.place[i]?=some (itn (adv t.mask) n' p).j/\f i≠h)\/
  (∃n i,met=.candidate (itn (adv t.mask) n p).j i (itn (adv t.mask) (n+1) p)/\t.place[i]?=some (itn (adv t.mask) n p).j/\f i=h/\∀n',n'<n->∃i':Nat,t.place[i']?=some (itn (adv t.mask) n' p).j/\f i'≠h)):=by
 rcases alc ok f h st with ⟨n,e,r⟩|⟨n,i,e,r⟩
 .exact⟨_,e,.inl ⟨n,rfl,r⟩⟩
 .exact⟨_,e,.inr<|nc n i ⟨rfl,r⟩⟩
theorem afo(mask:Nat):∀(n:Nat)(p:SetTable.Probe),(itn (adv mask) n p).dummy=p.dummy
 | 0,_=>rfl
 | n+1,p=>by show(itn (adv mask) n<|adv mask p).dummy=_;rw[afo mask n];unfold adv;split<;>rfl
theorem adn{a:aG}{o:Obj}{es:Array (Int×aA)}{ep:Nat}{t:SetTable}{ds:Z U}{x:Int×aA}{d:U}{Q:SetFound->aB->Prop}
  (ho:s.heap.get? a=some o) (hd:o.data=.set es ep t) (ok:TOk t es) (els:Els Pv w s.heap es.toList ds) (hx:El Pv w s.heap x d) (hu:A.units+8<aV)
  (q1:d∈ds->Q (.there none) s) (q2:∀n,d∉ds->si t.mask x.1 n∉t.place.toList->(∀n',n'<n->si t.mask x.1 n'∈t.place.toList)->Q (.free (si t.mask x.1 n) false) s) :
  ∀(fuel m N:Nat)(nW:Option SetTable.Probe),nW.getD (st0 t.mask x.1)=itn (adv t.mask) m (st0 t.mask x.1)->si t.mask x.1 N∉t.place.toList->N<m+fuel->
   (∀n',n'<m->∃i:Nat,t.place[i]?=some (si t.mask x.1 n')/\ds[i]?≠some d)->aH (aI prog w) A (qC a x.2 x.1 true fuel nW) Q E s
 | 0,m,N,nW,dY,hN,hf,hm=>by exfalso;obtain⟨i,h1,h2⟩:=hm N (by lia);exact hN (by rw[<-bi]at h1;exact ai h1)
 | fuel+1,m,N,nW,dY,hN,hf,hm=>by
  unfold qC;refine ab<|ic ho hd ok.fits ?_;dsimp only;rw[ok.noway];simp only[be,if_false];rw[apw,dY];have yV:wL t.mask (itn (adv t.mask) m<|st0 t.mask x.1):=MF m<|HG _ _;have oB:∀n,(itn (adv t.mask) n<|itn (adv t.mask) m<|st0 t.mask x.1).j=si t.mask x.1 (m+n):=λn=>by unfold si;rw[vm]
  have inj:∀{i i' j:Nat},t.place[i]?=some j->t.place[i']?=some j->i=i':=λ{i i' j} h1 h2=>by rw[<-Mp ok.rise h1,Mp ok.rise h2]
  have xO:∀{i j:Nat},t.place[i]?=some j->∃e di,es[i]?=some e/\ds[i]?=some di/\El Pv w s.heap e di:=λ{i j} h1=>by have hl:=(bz.mp h1).1;have he:es[i]?=some (es[i]'(by rw[<-ok.sz];exact hl)):=b8 _;obtain⟨di,h2,h3⟩:=els.at (by rw[bi];exact he);exact(nc _ di ⟨he,h2,h3⟩)
  obtain⟨met,hp,Jv⟩:=apb ok (f:=_) (h:=x.1) yV;rw[hp];have Ee:∀{n i:Nat},t.place[i]?=some (itn (adv t.mask) n<|itn (adv t.mask) m<|st0 t.mask x.1).j->(es[i]?.map (·.1)).getD 0≠x.1->ds[i]?≠some d:=λ{n i} h1 h2 h3=>by obtain⟨e,di,g1,g2,g3⟩:=xO h1;rw[g2]at h3;cases h3;apply h2;rw[g1];show e.1=x.1;rw[g3.hash,hx.hash]
  rcases Jv with ⟨n,rfl,bR,zX⟩|⟨n,i,rfl,gB,hfi,zX⟩
  .have DG:∀n',n'<n->∃i:Nat,t.place[i]?=some (itn (adv t.mask) n'<|itn (adv t.mask) m<|st0 t.mask x.1).j/\ds[i]?≠some d:=λn' fL=>by
    obtain⟨i',h1,h2⟩:=zX n' fL;exact⟨i',h1,Ee h1 h2⟩
   dsimp only;rw[afo];show aH _ _ (aS _) _ _ _;rw[oB]at bR⊢;have tM:∀n',n'<m+n->∃i:Nat,t.place[i]?=some (si t.mask x.1 n')/\ds[i]?≠some d:=λn' fL=>by
    by_cases hq:n'<m
    .exact hm n' hq
    .obtain⟨i',h1,h2⟩:=DG (n'-m) (by lia);rw[oB,show m+(n'-m)=n' by lia]at h1;exact⟨i',h1,h2⟩
   refine ah<|q2 (m+n) (λeZ=>?_) bR λn' fL=>?_
   .obtain⟨k,hk⟩:=f8 eZ;have oK:=(ak.mp hk).1;have hke:es.toList[k]?=some (es.toList[k]'(by rw[els.1];exact oK)):=af _;have oP:=els.2 k _ d hke hk;have eY:t.place[k]?=some (t.place[k]'(by rw[ok.sz,<-a9,els.1];exact oK)):=b8 _;obtain⟨n',fL,hr⟩:=ok.ahead (j:=t.place[k]'(by rw[ok.sz,<-a9,els.1];exact oK)) (e:=es.toList[k]'(by rw[els.1];exact oK)) ⟨k,by rw[bi];exact eY,hke⟩ (n:=m+n) (by rw[oP.hash,<-hx.hash];exact bR);rw[oP.hash,<-hx.hash]at hr;obtain⟨i',g1,g2⟩:=tM n' fL;rw[hr]at g1;have e:=inj eY g1;rw[<-e]at g2;exact g2 hk
   .obtain⟨i',g1,_⟩:=tM n' fL;rw[<-bi]at g1;exact ai g1
  .obtain⟨e,di,g1,g2,g3⟩:=xO gB;obtain⟨eh,y⟩:=e;obtain⟨ya,ey⟩:=g3.ref;have ey':y=.ref ya:=ey;subst ey';dsimp only;have fin:aH (aI prog w) A (qC a x.2 x.1 true fuel<|some<|itn (adv t.mask) (n+1)<|itn (adv t.mask) m<|st0 t.mask x.1) Q E s\/di=d:=by
    by_cases hq:di=d
    .exact .inr hq
    .refine .inl<|adn ho hd ok els hx hu q1 q2 fuel (m+n+1) N _ ?_ hN (by lia) λn' fL=>?_
     .show itn (adv t.mask) (n+1) (itn (adv t.mask) m<|st0 t.mask x.1)=_;rw[<-vm];rfl
     .by_cases pH:n'<m
      .exact hm n' pH
      .by_cases pG:n'-m<n
       .obtain⟨i',h1,h2⟩:=zX (n'-m) pG;have h3:=Ee h1 h2;rw[oB,show m+(n'-m)=n' by lia]at h1;exact⟨i',h1,h3⟩
       .rw[oB,show m+n=n' by lia]at gB;exact⟨i,gB,by rw[g2];intro z;cases z;exact hq rfl⟩
   have D7:∀(b:Bool),(b=true↔di=d)->(b=true->aH (aI prog w) A (aS<|SetFound.there none) Q E s):=λb hb hbt=>ah (q1 (by
    rw[<-hb.mp hbt];exact ai g2))
   rw[g1];dsimp only;have sm:t.sameMemory t.moves t.mask=some true:=by unfold SetTable.sameMemory;simp
   cases dE:t.led with
   | true=>
    simp only[i8,be,if_false];refine ab<|ff<|El.eq rfl g3 hx hu λb hb=>?_;refine ab<|ic ho hd ok.fits ?_;cases b with
    | true=>
     simp only[Bool.and_self,if_true];exact D7 true hb rfl
    | false=>
     simp only[Bool.and_false,be,if_false];rw[sm];dsimp only;rw[if_pos rfl,ML ok.rise gB];dsimp only;rw[g1];dsimp only;refine ab<|uZ ?_;refine ab<|ah ?_;simp only[if_true,be,if_false];rcases fin with f|f
     .exact f
     .exact absurd (hb.mpr f) (by simp)
   | false=>
    simp only[Bool.not_false,if_true];refine ab<|aus hx _ (λy hy=>?_) ?_
    .obtain⟨e,he,rfl⟩:=au.mp hy;have jU:e∈es.toList:=by
      rw[Array.toList_filter]at he;exact(List.mem_filter.mp he).1
     obtain⟨k,hk⟩:=f8 jU;obtain⟨dk,_,hE⟩:=els.at hk;exact(nc e.1 dk hE)
    simp only[be,if_false];refine ab<|ff<|El.eq rfl g3 hx hu λb hb=>?_;refine ab<|ic ho hd ok.fits ?_;cases b with
    | true=>
     simp only[Bool.and_self,if_true];exact D7 true hb rfl
    | false=>
     simp only[Bool.and_false,be,if_false];rw[sm];dsimp only;rw[if_pos rfl,ML ok.rise gB];dsimp only;rw[g1];dsimp only;refine ab<|uZ ?_;refine ab<|ah ?_;simp only[if_true,be,if_false];rcases fin with f|f
     .exact f
     .exact absurd (hb.mpr f)<|by simp
end
end L3
namespace L3
open PySem
variable{Pv:aA->U->Prop}
def aox{w:aN}{h:Heap}{ds:Z U}(x:Els Pv w h [] ds):ds=[]:=List.length_eq_zero_iff.mp x.1.symm
theorem ER{w:aN}{h:Heap}{e:Int×aA}{es:Z (Int×aA)}{ds:Z U}(x:Els Pv w h (e::es) ds):∃d cQ,ds=d::cQ/\El Pv w h e d/\Els Pv w h es cQ:=by
 match ds,x with
 | [],x=>exact absurd x.1 (by simp)
 | d::cQ,x=>exact(nc d cQ ⟨rfl,x.2 0 e d rfl rfl,by have:=x.1;simpa using this,λi e' d' h1 h2=>x.2 (i+1) e' d' h1 h2⟩)
theorem Els.cons{w:aN}{h:Heap}{e:Int×aA}{d:U}{es:Z (Int×aA)}{ds:Z U}(hd:El Pv w h e d)(x:Els Pv w h es ds):Els Pv w h (e::es) (d::ds):=by
 refine⟨by rw[bx,bx,x.1],λi e' d' h1 h2=>?_⟩;cases i with
 | zero=>cases h1;cases h2;exact hd
 | succ i=>exact x.2 i e' d' h1 h2
def Els.nil{w:aN}{h:Heap}:Els Pv w h [] []:=⟨rfl,λi e d h1 _=>by simp at h1⟩
theorem Els.append{w:aN}{h:Heap}:∀{es fs:Z (Int×aA)} {ds gs:Z U},Els Pv w h es ds->Els Pv w h fs gs->Els Pv w h (es++fs) (ds++gs)
 | [],fs,ds,gs,x,y=>by rw[aox x];exact y
 | e::es,fs,ds,gs,x,y=>by obtain⟨d,cQ,rfl,h1,h2⟩:=ER x;exact Els.cons h1<|h2.append y
theorem Els.take{w:aN}{h:Heap}{es:Z (Int×aA)}{ds:Z U}(x:Els Pv w h es ds)(n:Nat):Els Pv w h (es.take n) (ds.take n):=by
 refine⟨by rw[cg,cg,x.1],λi e d h1 h2=>?_⟩;have hi:i<n:=by have:=(ak.mp h1).1;rw[cg]at this;lia
 rw[fq hi]at h1 h2;exact x.2 i e d h1 h2
theorem Els.drop{w:aN}{h:Heap}{es:Z (Int×aA)}{ds:Z U}(x:Els Pv w h es ds)(n:Nat):Els Pv w h (es.drop n) (ds.drop n):=by refine⟨by rw[ik,ik,x.1],λi e d h1 h2=>?_⟩;rw[gj]at h1 h2;exact x.2 _ e d h1 h2
theorem Els.perm{w:aN}{h:Heap}{es fs:Z (Int×aA)}(p:es.Perm fs):∀{ds:Z U},Els Pv w h fs ds->∃cQ,cQ.Perm ds/\Els Pv w h es cQ:=by
 induction p with
 | nil=>intro ds x;exact⟨ds,j7 _,x⟩
 | cons e p ih=>
  intro ds x;obtain⟨d,iW,rfl,h1,h2⟩:=ER x;obtain⟨DZ,p2,x2⟩:=ih h2;exact⟨d::DZ,p2.cons d,x2.cons h1⟩
 | swap a b l=>
  intro ds x;obtain⟨d,iW,rfl,h1,h2⟩:=ER x;obtain⟨d',DZ,rfl,h3,h4⟩:=ER h2;exact⟨d'::d::DZ,List.Perm.swap _ _ _,(h4.cons h1).cons h3⟩
 | trans p1 p2 ih1 ih2=>
  intro ds x;obtain⟨iW,q1,x1⟩:=ih2 x;obtain⟨DZ,q2,x2⟩:=ih1 x1;exact⟨DZ,q2.trans q1,x2⟩
def v6(h h':Heap):Prop:=∀b ob,h.get? b=some ob->ob.cls=.type "tuple"->h'.get? b=some ob
mutual
theorem ad8{h h':Heap}(t:v6 h h'):∀(d:U) {v:aA} {as:Z aG},kd d=true->Reads h v d as->Reads h' v d as
 | .int i,v,as,_,r=>by cases r with|int=>exact .int _ _
 | .str x,v,as,_,r=>by cases r with|str=>exact .str _ _
 | .tuple ds,v,as,hk,r=>by
  cases r with
  | tuple ho hc hd hi=>exact .tuple (t _ _ ho hc) hc hd (zw t ds hk hi)
 | .none,_,_,hk,_=>absurd hk am
 | .bool _,_,_,hk,_=>absurd hk am
 | .list _,_,_,hk,_=>absurd hk am
 | .dict _,_,_,hk,_=>absurd hk am
theorem zw{h h':Heap}(t:v6 h h'):∀(ds:Z U) {vs:Z aA} {as:Z aG},u9 ds=true->ReadsAll h vs ds as->ReadsAll h' vs ds as
 | [],vs,as,_,r=>by cases r;exact .nil
 | d::ds,vs,as,hk,r=>by
  have cP:(kd d&&u9 ds)=true:=hk;rw[dw]at cP;cases r with
  | cons h1 h2=>exact .cons (ad8 t d cP.1 h1)<|zw t ds cP.2 h2
end
def El.stay{w:aN}{h h':Heap}(t:v6 h h'){e:Int×aA}{d:U}(x:El Pv w h e d):El Pv w h' e d:=
 ⟨x.own,x.hash,x.key,x.tup,x.lay,x.deep,let ⟨as,r⟩:=x.reads;⟨as,ad8 t d x.key r⟩⟩
theorem Els.stay{w:aN}{h h':Heap}(t:v6 h h'){es:Z (Int×aA)}{ds:Z U}(x:Els Pv w h es ds):Els Pv w h' es ds:=⟨x.1,λi e d h1 h2=>(x.2 i e d h1 h2).stay t⟩
def aj5{h h':Heap}{a:aG}{o:Obj}(ho:h.get? a=some o)(hc:o.cls=.type "set")(hs:b9 a h h'):v6 h h':=λb ob hb ht=>by
 have:b≠a:=λe=>by subst e;rw[ho]at hb;cases hb;rw[hc]at ht;exact absurd ht<|by decide
 rw[hs.2 b this];exact hb
noncomputable def byT(w:aN):Bool:=w.params.followText "set-order"
def SetD(Pv:aA->U->Prop)(w:aN)(h:Heap)(a:aG)(ds:Z U):Prop:=
 ∃o es ep t,h.get? a=some o/\o.ExactSet/\o.data=.set es ep t/\TOk t es/\t.place.size*5<t.mask*3/\Els Pv w h es.toList ds/\ds.Nodup/\t.led = !byT w
theorem SetD.fresh{w:aN}{h:Heap}{led:Bool}(dE:led = !byT w):SetD Pv w (h.push {cls:=.type "set",dict:=none,data:=.set #[] 0 (.fresh 0 0 led)}) h.objs.size []:=
 (ny _ (#[]) 0 _ ⟨a7 _ rfl,⟨rfl,rfl,rfl⟩,rfl,TOk.fresh 0 0 led,(by show 0*5<7*3;decide),Els.nil,List.nodup_nil,dE⟩)
def TOk.withPlain{t:SetTable}{es:Array (Int×aA)}(ok:TOk t es)(b:Bool):TOk {t with plain:=b} es:=⟨ok.two,ok.dm,ok.rise,ok.bd,ok.sz,ok.fit,ok.onroad⟩
section
variable{prog:aM}{w:aN}{A:Around}{E:aA->aB->Prop}{s:aB}
def asd{a:aG}{o:Obj}{es:Array (Int×aA)}{ep:Nat}{t:SetTable}{ds:Z U}{cA:Nat}{Q:Unit->aB->Prop}
  (ho:s.heap.get? a=some o) (kK:o.ExactSet) (hd:o.data=.set es ep t) (ok:TOk t es) (els:Els Pv w s.heap es.toList ds) (lQ:ds.Nodup) (dE:t.led = !byT w) (hw:es.size*4<=cA) (Fy:cA<2^13) (zE:∀k,SetTable.sizeAbove cA=2^k->k % 2=1) (dD:0<es.size)
  (q:∀h' cQ,b9 a s.heap h'->SetD Pv w h' a cQ->cQ.Perm ds->Q () {s with heap:=h'}):aH (aI prog w) A (setRelay a cA) Q E s:=by
 obtain⟨t',gJ,e,ok',pm,few,KE⟩:=aik (t:=t) hw Fy zE dD;obtain⟨k,ek,k3,vH,hn⟩:=vq cA Fy;have fG:¬SetTable.sizeAbove cA>aF:=by rw[ek,cD];have:2^k<=2^13:=ie (by decide) vH;lia
 have hsz:(gJ.filterMap (es[·]?)).size=es.size:=by have:=pm.length_eq;rw[a9,a9]at this;exact this
 obtain⟨cQ,pd,KC⟩:=els.perm pm;unfold setRelay;refine ab<|ic ho hd ok.fits ?_;dsimp only;rw[if_neg fG,e];refine ab ?_;show aH _ _ (ite _ _ _) _ _ _;rw[if_neg (by simp[hsz])];refine ah ?_;have Jb:es.size<=aF:=by rw[cD];lia
 refine Cb ho hd ?_ (by rw[hsz];exact Jb);have hg:(s.heap.update a<|Obj.putSet (gJ.filterMap (es[·]?)) t').get? a=some {o with data:=.set (gJ.filterMap (es[·]?)) (ep+1) t'}:=by have:=ci (Obj.putSet (gJ.filterMap (es[·]?)) t') ho (by rw[rM _ t' hd];rfl);rw[rM _ t' hd]at this;exact this
 have kH:=e8 s.heap a<|Obj.putSet (gJ.filterMap (es[·]?)) t';exact q _ cQ kH (ny _ _ _ _ ⟨hg,kK,rfl,ok',few,KC.stay<|aj5 ho kK.1 kH,(pd.nodup_iff).mpr lQ,KE.trans dE⟩) pd
theorem akt{a:aG}{ds:Z U}{x:Int×aA}{d:U}{Q:Bool->aB->Prop}(hS:SetD Pv w s.heap a ds)(hx:El Pv w s.heap x d)(hu:A.units+8<aV)(sN:ds.length<4000)
  (q:∀h' cQ b,b9 a s.heap h'->SetD Pv w h' a cQ->(d∈ds->cQ=ds)->(d∉ds->cQ.Perm (d::ds))->Q b {s with heap:=h'}) :
  aH (aI prog w) A (setAddHashed a x.2 x.1) Q E s:=by
 obtain⟨o,es,ep,t,ho,kK,hd,ok,few,els,lQ,dE⟩:=hS;obtain⟨xa,ex⟩:=hx.ref;obtain⟨k,hk,k3,vH,ko⟩:=ok.two;have oP:=els.1;rw[a9]at oP;have hsz:=ok.sz;obtain⟨j,hj,bR⟩:=atr (ps:=t.place.toList) (m:=t.mask) (by rw[a9];exact ok.fit);unfold setAddHashed setAddHashedIn;refine ff<|ab<|ic ho hd ok.fits ?_;dsimp only;have oI:byScan x.2 es=false:=by rw[ex];rfl
 rw[oI];simp only[be,if_false];unfold setSearch;obtain⟨N,hN,eN⟩:=ay3 hk (st0 t.mask x.1) (HG _ _).1 (HG _ _).2.1 j hj;have sV:10*SetTable.turns t.mask<=100000:=by unfold SetTable.turns;have:2^k<=2^13:=ie (by decide) vH;lia
 refine ab<|adn ho hd ok els hx hu (λeZ=>?_) (λn zG hf hr=>?_) 100000 0 N none rfl (by unfold si;rw[eN];exact bR) (by lia) λn' fL=>by lia
 .dsimp only;refine ah ?_;have e:s={s with heap:=s.heap}:=by cases s;rfl
  rw[e];exact q s.heap ds false (b9.refl a s.heap) (ny o es ep t ⟨ho,kK,hd,ok,few,els,lQ,dE⟩) (λ_=>rfl) λz=>absurd eZ z
 .dsimp only;have hm7:7<=t.mask:=by
   have:2^3<=2^k:=ie (by decide) k3;lia
  obtain⟨ok1,em,zD,FD⟩:=ok.put (x:=x.2) hf hr (by lia);have DY:Els Pv w s.heap (iy es (t.put<|si t.mask x.1 n).2 (x.1,x.2)).toList (ds.take (t.put<|si t.mask x.1 n).2++d::ds.drop (t.put<|si t.mask x.1 n).2):=by rw[qv];exact(els.take _).append ((els.drop _).cons hx)
  have Fh:(ds.take (t.put<|si t.mask x.1 n).2++d::ds.drop (t.put<|si t.mask x.1 n).2).Perm (d::ds):=by have:=List.perm_middle (a:=d) (l₁:=ds.take (t.put<|si t.mask x.1 n).2) (l₂:=ds.drop (t.put<|si t.mask x.1 n).2);rw[ei]at this;exact this
  have IB:(ds.take (t.put<|si t.mask x.1 n).2++d::ds.drop (t.put<|si t.mask x.1 n).2).Nodup:=by rw[Fh.nodup_iff,i7];exact⟨zG,lQ⟩
  have DV:(iy es (t.put<|si t.mask x.1 n).2 (x.1,x.2)).size=es.size+1:=by rw[<-ok1.sz,FD,hsz]
  refine ab<|ic ho hd ok.fits ?_;dsimp only;have xF:(t.put<|si t.mask x.1 n).1.led=t.led:=rfl;generalize hpt:t.put (si t.mask x.1 n)=pt at *;obtain⟨t1,p⟩:=pt;simp only at ok1 em zD FD DY Fh IB DV xF⊢;have fin:∀t2:SetTable,TOk t2 (iy es p (x.1,x.2))->t2.mask=t1.mask->t2.place=t1.place->t2.led=t1.led->aH (aI prog w) A (storeSet a (iy es p (x.1,x.2)) t2 >>= λ_=>if (!false&&t2.tooFull)=true then setRelay a (SetTable.grown<|es.size+1) >>= λ_=>aS true else aS true) Q E s:=λt2 CC e1 e2 e3=>by
   have xE:t2.led = !byT w:=e3.trans<|xF.trans dE;have fG:(iy es p (x.1,x.2)).size<=aF:=by rw[DV,cD];lia
   refine ab<|Cb ho hd ?_ fG;have hg:(s.heap.update a<|Obj.putSet (iy es p (x.1,x.2)) t2).get? a=some {o with data:=.set (iy es p (x.1,x.2)) (ep+1) t2}:=by have:=ci (Obj.putSet (iy es p (x.1,x.2)) t2) ho (by rw[rM _ t2 hd];rfl);rw[rM _ t2 hd]at this;exact this
   have kH:=e8 s.heap a<|Obj.putSet (iy es p (x.1,x.2)) t2;have DX:=DY.stay<|aj5 ho kK.1 kH;by_cases iD:t2.tooFull=true
   .rw[if_pos (by rw[iD];rfl)];have Dx:es.size<4000:=by rw[oP];exact sN
    have htf:t2.mask*3<=(es.size+1)*5:=by unfold SetTable.tooFull SetTable.fill at iD;rw[CC.dm]at iD;have:=CC.sz;have:=DV;simp at iD;lia
    have hmk:t2.mask+1=2^k:=by rw[e1,em];exact hk
    have hfw:(es.size+1-1)*5<t2.mask*3:=by rw[e1,em];have:=ok.sz;lia
    have hgs:=ako hmk k3 vH ko htf hfw (by lia);have JN:SetTable.grown (es.size+1)=(es.size+1)*4:=by unfold SetTable.grown;rw[if_neg (by lia)]
    refine ab<|asd (s:={s with heap:=s.heap.update a<|Obj.putSet (iy es p (x.1,x.2)) t2}) hg kK rfl CC DX IB xE (by rw[DV,JN];exact ao _) (by rw[JN];exact hgs.1) (λk' ek'=>?_) (by rw[DV];lia) λh' cQ Ja gM pd'=>?_
    .rw[JN]at ek';obtain⟨a1,a2,a3⟩:=aeg _ (by lia) hgs.1 ek';exact arz hmk k3 vH ko htf hfw (by lia) a1 a2 a3
    .exact ah<|q h' cQ true (kH.trans Ja) gM (λz=>absurd z zG) λ_=>pd'.trans Fh
   .rw[if_neg (by simpa using iD)];have Kw:t2.place.size*5<t2.mask*3:=by
     unfold SetTable.tooFull SetTable.fill at iD;rw[CC.dm]at iD;simpa using iD
    exact ah<|q _ _ true kH (ny _ _ _ _ ⟨hg,kK,rfl,CC,Kw,DX,IB,xE⟩) (λz=>absurd z zG) λ_=>Fh
  obtain⟨as,rx⟩:=hx.reads;split
  .refine ab<|aby 8 hx.key rx λb=>?_;cases b with
   | true=>
    simp only[if_true];exact fin t1 ok1 rfl rfl rfl
   | false=>
    simp only[be,if_false];exact fin _ (ok1.withPlain false) rfl rfl rfl
  .refine ab<|ah ?_;simp only[if_true];exact fin t1 ok1 rfl rfl rfl
end
end L3
namespace L3
open PySem PyProof.Rows
variable{Pv:aA->U->Prop}
def Keep(h0 h:Heap):Prop:=∀b o,h0.get? b=some o->h.get? b=some o
def Keep.tups{h0 h:Heap}(k:Keep h0 h):v6 h0 h:=λb o e _=>k b o e
def SetD.moved{w:aN}{h h':Heap}{S:aG}{ds:Z U}(x:SetD Pv w h S ds)(hS:∀o,h.get? S=some o->h'.get? S=some o)(t:v6 h h'):SetD Pv w h' S ds:=by obtain⟨o,es,ep,tb,ho,kK,hd,ok,few,els,nd,dE⟩:=x;exact(ny o es ep tb ⟨hS o ho,kK,hd,ok,few,els.stay t,nd,dE⟩)
section
variable{prog:aM}{w:aN}{A:Around}{R:iF->aB->Prop}{I:aG}{fp wr:Z aG}{G:Array iH->Array iH->Prop}{n:Nat}{P:Nat->aA->Prop}{St:Nat->aB->Prop}
theorem afr(W:WalksS prog w A.in1 I fp wr G n P St)(S:aG)(iV:S∉fp)(h0:Heap)(qJ:∀b∈wr,h0.get? b=none)(hS0:h0.get? S=none)(hwt:∀i s,St i s->∀b∈wr,∀ob,s.heap.get? b=some ob->ob.cls≠.type "tuple")
  (val:Nat->U) (sF:∀i v,P i v->El Pv w h0 (zq w<|val i,v) (val i)) (hu:A.units+9<aV) (hb:n<4000) :
  ∀(k i:Nat)(s:aB)(ds:Z U),n-i=k->i<=n->St i s->Keep h0 s.heap->SetD Pv w s.heap S ds->(∀d,d∈ds↔∃j,j<i/\val j=d)->ds.length<=i->
   (∀s' cQ,EU (S::wr) G s s'->Keep h0 s'.heap->SetD Pv w s'.heap S cQ->(∀d,d∈cQ↔∃j,j<n/\val j=d)->cQ.length<=n->R (.ok<|.ret .none) s')->
   bT (aI prog w) A (.builtin "set.update.loop" ⟨[.ref S,.ref I],[]⟩) R s:=by
 have tH:S∉wr:=λh=>iV<|W.sub _ h;have mono:∀b∈wr,b∈S::wr:=λb hb=>ar _ hb;have mv:∀{i:Nat} {s s':aB} {ds:Z U},St i s->EU wr G s s'->Keep h0 s.heap->SetD Pv w s.heap S ds->Keep h0 s'.heap/\SetD Pv w s'.heap S ds:=λ{i s s' ds} dY hm hk hS=>by refine⟨λb o e=>hm.heap b o (λz=>by rw[qJ b z]at e;cases e)<|hk b o e,hS.moved (λo e=>hm.heap S o tH e) λb o e ht=>hm.heap b o (λz=>hwt i s dY b z o e ht) e⟩
 intro k;induction k with
 | zero=>
  intro i s ds hk hi dY eY hS eK bB hR;have eZ:i=n:=by lia
  subst eZ;refine fc F.entry_set_update_loop (show _ from ?_);rw[cn F.plain_set_update_loop (_:HQ)];show aH _ A.in1 (bC (.ref I) >>= _) _ _ _;refine ab<|W.done s _ _ dY λs' hm=>?_;obtain⟨k1,S1⟩:=mv dY hm eY hS;exact ah (hR s' ds (hm.mono mono) k1 S1 eK bB)
 | succ k ih=>
  intro i s ds hk hi dY eY hS eK bB hR;have bN:i<n:=by lia
  refine fc F.entry_set_update_loop (show _ from ?_);rw[cn F.plain_set_update_loop (_:HQ)];show aH _ A.in1 (bC (.ref I) >>= _) _ _ _;refine ab<|W.item i s _ _ bN dY λv s' hP gU hm=>?_;obtain⟨k1,S1⟩:=mv dY hm eY hS;have hE:=(sF i v hP).stay k1.tups;obtain⟨as,rv⟩:=hE.reads;show aH _ A.in1 (nF [v] (setAdd S v) >>= _) _ _ _;refine ab<|ff ?_;unfold setAdd;refine ff ?_;refine ab<|adr (val i) hE.key prog w A.in1 _ s' v as _ rv (by show A.units+1+_<aV;have:=hE.deep;lia) λtk pE=>?_;refine akt (s:={s' with toks:=tk}) (x:=(zq w<|val i,v)) S1 hE (by show A.units+1+8<aV;lia) (by lia) λh' cQ b kH gM e1 e2=>?_;have k2:Keep h0 h':=λb o e=>by rw[kH.2 b (λz=>by rw[z,hS0]at e;cases e)];exact k1 b o e
  have Db:∀d,d∈cQ↔∃j,j<i+1/\val j=d:=λd=>by
   have base:(∃j,j<i+1/\val j=d)↔(d∈ds\/val i=d):=by
    rw[eK d];constructor
    .rintro⟨j,hj,e⟩;by_cases q:j=i
     .subst q;exact .inr e
     .exact .inl ⟨j,by lia,e⟩
    .rintro(⟨j,hj,e⟩|e)
     .exact⟨j,by lia,e⟩
     .exact⟨i,by lia,e⟩
   rw[base];by_cases q:val i∈ds
   .rw[e1 q];exact⟨.inl,λz=>z.elim id λe=>e▸q⟩
   .rw[(e2 q).mem_iff,a6];exact⟨λz=>z.elim (λe=>.inr e.symm) .inl,λz=>z.elim .inr λe=>.inl e.symm⟩
  have Dk:cQ.length<=i+1:=by
   by_cases q:val i∈ds
   .rw[e1 q];lia
   .rw[(e2 q).length_eq,bx];lia
  refine ah ⟨gl F.plain_set_update_loop _,ih (i+1) _ cQ (by lia) bN (W.frame _ s' _ _ gU pE λb hb o e=>?_) k2 gM Db Dk λyP KJ zL IL S'' m'' IK=>?_⟩
  .rw[kH.2 b (λh:b=S=>iV<|by rw[<-h];exact hb)];exact e
  .refine hR yP KJ (EU.trans W.gtrans ((hm.mono mono).then_heap pE λb o hb e=>?_) zL) IL S'' m'' IK;rw[kH.2 b (λh:b=S=>hb<|by rw[h];exact aq)];exact e
end
section
variable{prog:aM}{w:aN}{A:Around}{E:aA->aB->Prop}{s:aB}
def afk(a:aA){Q₁:aA->aB->Prop}
  (h:Q₁ (.ref s.heap.objs.size) {s with heap:=s.heap.push {cls:=.type "set",dict:=none,data:=.set #[] 0 (.fresh 0 0<|!byT w)}}) :
  bT (aI prog w) A (.call (.builtin "set.__new__") ⟨[.type "set",a],[]⟩) (wants Q₁ E) s:=by
 refine KM (show _ from ?_);show aH _ A.in1 (do lR "set.__new__" ⟨[.type "set",a],[]⟩;again (.builtin "set.__new__" ⟨[.type "set",a],[]⟩)) _ _ _;refine ab<|j8 (PySem.F.newCall_set_1 a)<|ah ⟨gl PySem.F.plain_set_new _,fc PySem.F.entry_set_new (show _ from ?_)⟩;rw[cn PySem.F.plain_set_new (_:HQ)];unfold Builtin.«set.__new__» Builtin.Frozenset.newClass;have pF:=sub_set_self;obtain⟨hp,g,d,tk,os⟩:=s;dsimp only
 wp_walk
 refine cL<|ah ?_;dsimp only;simp only[newObj];refine ab<|wpAny_alloc<|ah ?_;exact ah h
theorem am8{l:aG}{items:Array aA}{ds:Z U}{Q:aA->aB->Prop}
  (hh:A.handled=none) (hl:s.heap.IsList l items) (hi:items.size=ds.length) (hE:∀(i:Nat) v d,items[i]?=some v->ds[i]?=some d->El Pv w s.heap (zq w d,v) d) (hb:ds.length<4000) (hu:A.units+20<aV)
  (h:∀(h':Heap)(tk:Nat)(cQ:Z U),SetD Pv w h' s.heap.objs.size cQ->(∀d,d∈cQ↔d∈ds)->cQ.length<=ds.length->Keep s.heap h'->s.toks<=tk->Q (.ref s.heap.objs.size) {s with heap:=h',toks:=tk}) :
  aH (aI prog w) A (call (.type "set") [.ref l]) Q E s:=by
 obtain⟨c,tl,hmro⟩:=jq.mro;have hmade:=jq.made;have pF:=jq.sub;refine jP<|KM (show _ from ?_);show aH _ _ (callAny (.type "set") _) _ _ s;refine ah ⟨Code.quiet_builtin _<|by decide +kernel,fc F.entry_type_call (show _ from ?_)⟩;rw[Around.under_plain (weight_type_call_type "set" [.ref l] []) (rfl:_=_)];have h1:=jq.notType;have h2:=jq.canCreate;have hct:=PySem.F.typeCall_set_1 (.ref l)
 repeat (any_goals (first|assumption|(wp_step)))
 refine gG (afk (.ref l) (E:=E) (Q₁:=λobj s₁=>∃led:Bool,led=(!byT w)/\obj=.ref s.heap.objs.size/\s₁={s with heap:=s.heap.push {cls:=.type "set",dict:=none,data:=.set #[] 0 (.fresh 0 0 led)}}) ⟨_,rfl,rfl,rfl⟩) λr s₁ hr=>?_
 match r,hr with
 | .error e,hr=>exact hr
 | .ok (.ret obj),hr=>
   obtain⟨led,dE,rfl,rfl⟩:=hr;obtain⟨Bo,sY⟩:∃ob:Obj,ob={cls:=.type "set",dict:=none,data:=.set #[] 0 (.fresh 0 0 led)}:=⟨_,rfl⟩;have hS:(s.heap.push Bo).get? s.heap.objs.size=some Bo:=a7 _ (by rw[sY];rfl);have hT:aB.TypeIs {s with heap:=s.heap.push Bo} (.ref s.heap.objs.size) "set":=⟨_,hS,by rw[sY]⟩;have hSD:SetD Pv w (s.heap.push Bo) s.heap.objs.size []:=by rw[sY];exact SetD.fresh dE
   rw[<-sY];have hli:=jq.init.lookup;have Bg:=jq.init.bind (.ref s.heap.objs.size)
   repeat (any_goals (first|assumption|(wp_step)))
   refine gG (eD (R:=wants (λr s₂=>r=.none/\∃h' tk cQ,s₂={s with heap:=h',toks:=tk}/\SetD Pv w h' s.heap.objs.size cQ/\(∀d,d∈cQ↔d∈ds)/\cQ.length<=ds.length/\Keep s.heap h'/\s.toks<=tk) E) jq.init.plain F.entry_set_init<|check_set_init_1 hT ?_) λr₂ s₂ sL=>?_
   .obtain⟨ol,nG,uJ,nl,vU⟩:=hl;obtain⟨Iy,wX,CD,rP⟩:=ol;simp only at uJ vU;subst uJ;subst vU;have Jn:(s.heap.push Bo).get? l=some {cls:=.type "list",dict:=wX,data:=.seq items nl,slots:=rP}:=aj _ nG;have hsls:=PySem.F.sub_list_set;have hslf:=PySem.F.sub_list_frozenset;have gD:(aA.type "list" == aA.type "dict")=false:=by decide
    have iA:(s.heap.push Bo).IsList l items:=(qi _ Jn rfl nl rfl);unfold Builtin.«set.__init__» noKeywords Builtin.Frozenset.updateFrom;generalize hPI:lL=PI;subst sY
    wp_walk
    subst hPI;refine kj iA ?_;refine ab<|nU ?_;have eB:∀b,s.heap.objs.size<=b->s.heap.get? b=none:=λb eW=>by
     cases hq:s.heap.get? b with
     | none=>rfl
     | some ob=>exact absurd (bb hq)<|Nat.not_lt.mpr eW
    have Dl:l<s.heap.objs.size:=bb nG;have JK:A.in1.in1.in1.handled=none:=by simp[hh]
    have Km:(s.heap.push {cls:=.type "set",dict:=none,data:=.set #[] 0 (.fresh 0 0 led)}).objs.size=s.heap.objs.size+1:=Heap.size_push _ _;have zH:l≠(s.heap.push {cls:=.type "set",dict:=none,data:=.set #[] 0 (.fresh 0 0 led)}).objs.size:=by rw[Km];exact cf<|km Dl
    have iV:s.heap.objs.size∉[(s.heap.push {cls:=.type "set",dict:=none,data:=.set #[] 0 (.fresh 0 0 led)}).objs.size,l]:=by rw[Km];simp only[a6,f9,or_false,not_or];exact⟨cf<|Nat.lt_succ_self _,Nat.ne_of_gt Dl⟩
    have sF:∀(i:Nat)(v:aA),items[i]?=some v->El Pv w s.heap (zq w<|ds.getD i .none,v) (ds.getD i .none):=λi v hv=>by
     have bN:=(bz.mp hv).1;have hd:ds[i]?=some (ds.getD i .none):=by rw[dz,af<|by lia];rfl
     exact hE i v _ hv hd
    refine afr (A:=A.in1.in1) ((gN.list JK _ l zH items).toS) s.heap.objs.size iV s.heap (λb eW=>eB b<|by rw[ay.mp eW,Km];exact Nat.le_succ _) (eB _<|ao _) (λi s' dY b eW ob e=>?hwt)
     (λi=>ds.getD i .none) sF (by show A.units+1+1+9<aV;lia) (by lia) (items.size-0) 0 _ [] (by lia) (fk _)
     ⟨⟨_,a7 _ rfl,rfl,rfl⟩,(iA.push _)⟩ ?hK0 ?hS0 (λd=>by simp) (by simp) ?hR
    case hwt=>
     obtain⟨⟨oi,ho,hc,_⟩,_⟩:=dY;rw[ay.mp eW,ho]at e;cases e;rw[hc];decide
    case hK0=>exact λb o e=>aj _<|aj _ e
    case hS0=>exact hSD.moved (λo e=>aj _ e) λb o e _=>aj _ e
    case hR=>
     intro s' cQ hm k' S' m' l';obtain⟨h',g',d',vB,wW⟩:=s';have eg:g'=s.gens:=hm.gens;have ed:d'=s.drawn:=hm.drawn;have eo:wW=s.os:=hm.os;subst eg;subst ed;subst eo;show aH _ _ _ _ _ _;refine ah ?_;show aH _ _ (ret aA.none) _ _ _;refine ah ⟨rfl,(oa h' vB cQ ⟨rfl,S',λd=>?_,by lia,k',hm.toks⟩)⟩;rw[m' d];constructor
     .rintro⟨j,hj,rfl⟩;rw[dz,af<|by lia];exact fj _
     .intro hd;obtain⟨j,hj⟩:=f8 hd;have zQ:=(ak.mp hj).1;exact⟨j,by lia,by rw[dz,hj];rfl⟩
   .match r₂,sL with
    | .error e,sL=>exact sL
    | .ok (.ret r),sL=>
      obtain⟨rfl,h',tk,cQ,rfl,gM,A3,pJ,cP,ht'⟩:=sL
      repeat (any_goals (first|assumption|(wp_step)))
      exact h _ _ cQ gM A3 pJ cP ht'
    | .ok .next,sL=>exact sL.elim
    | .ok .brk,sL=>exact sL.elim
    | .ok .cont,sL=>exact sL.elim
 | .ok .next,hr=>exact hr.elim
 | .ok .brk,hr=>exact hr.elim
 | .ok .cont,hr=>exact hr.elim
end
end L3
namespace L3
open PySem PySem.Spec PyProof.Rows L2
variable{Pv:aA->U->Prop}
def tR(d:U):Prop:=kd d=true/\(∃ds,d=.tuple ds)/\d.depth<8
theorem uf{h:Heap}:∀{us:Z aA} {ds:Z U} {as:Z aG} {i:Nat} {u:aA} {d:U},ReadsAll h us ds as->us[i]?=some u->ds[i]?=some d->∃bs,Reads h u d bs
 | _,_,_,i,u,d,.nil,h1,_=>by simp at h1
 | _,_,_,0,u,d,.cons a b,h1,h2=>by cases h1;cases h2;exact⟨_,a⟩
 | _,_,_,i+1,u,d,.cons a b,h1,h2=>uf b (by simpa using h1)<|by simpa using h2
theorem xn:∀{ds:Z U},iu ds=true->∀d∈ds,d.canLay0=true
 | [],_,d,hd=>by cases hd
 | e::ds,hk,d,hd=>by
  have cP:(e.canLay0&&iu ds)=true:=hk;rw[dw]at cP;rcases a6.mp hd with h|hd
  .rw[h];exact cP.1
  .exact xn cP.2 d hd
end L3
namespace L3
open PySem
def slot_setit_next:Slot "set_iterator" "__next__" "set_iterator.__next__":=
 .of (owner:="set_iterator") (n:="__next__") (by rw[mV,gQ];kernel_rfl) (by decide +kernel) (by decide +kernel) (by decide +kernel) (by first|exact .inl (by decide +kernel)|exact .inr<|by decide +kernel) (by rw[oC];kernel_rfl)
def r9:entryFor table "set_iterator.__next__" = some Builtin.«set_iterator.__next__»:=entryFor_of_tree<|by kernel_rfl
def sk(a:aA):lU "set_iterator.__next__" ⟨[a],[]⟩:=by unfold lU;kernel_rfl
def aco:entryFor table "set.__iter__" = some Builtin.«frozenset.__iter__»:=entryFor_alias (id':="frozenset.__iter__") (by kernel_rfl) rfl (by decide +kernel)<|by kernel_rfl
theorem MT{α:Type}:∀(l:List α)(i:Nat)(h:i<l.length),(l[i]::l.eraseIdx i).Perm l
 | a::l,0,h=>j7 _
 | a::l,i+1,h=>by
  have h':i<l.length:=by simpa using h
  show(l[i]::a::l.eraseIdx i).Perm (a::l);exact(List.Perm.swap _ _ _).trans ((MT l i h').cons a)
theorem am4{α:Type}(next:Nat->Nat):∀(fuel k:Nat)(left:List α)(out:Array α),left.length=fuel->((iO.go next fuel k left out).toList).Perm (out.toList++left)
 | 0,k,left,out,h=>by have:left=[]:=List.length_eq_zero_iff.mp h;subst this;rw[df];exact j7 _
 | fuel+1,k,left,out,h=>by unfold iO.go;have hl:next k % left.length<left.length:=ln _ (by lia);rw[af hl];dsimp only;refine(am4 next fuel (k+1) _ _<|by rw[List.length_eraseIdx_of_lt hl];lia).trans ?_;rw[Array.toList_push,br];refine ir _ ?_;exact(MT _ _ hl)
def amz{α:Type}(next:Nat->Nat)(xs:Array α):(iO next xs).toList.Perm xs.toList:=by unfold iO;have:=am4 next xs.size 0 xs.toList #[] (by simp);simpa using this
section
variable{prog:aM}{w:aN}{A:Around}{E:aA->aB->Prop}{s:aB}
def aet{src:Source}{n:Nat}{Q:Nat->aB->Prop}(hn:0<n)(h:∀i dr,i<n->Q i {s with drawn:=dr}):aH (aI prog w) A (choose src n) Q E s:=λΓ p hΓ=>by show n≠0/\_;exact⟨by lia,h _ _<|ln _ hn⟩
theorem afn{α:Type}:∀(n:Nat)(xs:List α)(s:aB) {Q:List α->aB->Prop},xs.length=n->(∀ys dr,ys.Perm xs->Q ys {s with drawn:=dr})->aH (aI prog w) A (F8 n xs) Q E s
 | 0,xs,s,Q,h,q=>by have:xs=[]:=List.length_eq_zero_iff.mp h;subst this;unfold F8;exact ah (q [] s.drawn<|j7 _)
 | n+1,[],s,Q,h,q=>by simp at h
 | n+1,x::xs,s,Q,h,q=>by unfold F8;refine ab<|aet (by simp) λi dr hi=>?_;rw[af hi];dsimp only;refine ab<|afn n _ {s with drawn:=dr} (by rw[List.length_eraseIdx_of_lt hi];lia) λys dr' p=>?_;exact ah<|q _ dr'<|(List.Perm.cons _ p).trans (MT _ _ hi)
noncomputable def yk(first:aA)(i:Nat)(a:aG)(n ep:Nat):Obj:={cls:=.type "set_iterator",data:=.fields #[first,.int i 0,.ref a,.int n 0,.int ep 0]}
def ajh{I a:aG}{slot slot' i ep:Nat}{o:Obj}{es:Array (Int×aA)}{t:SetTable}{x:aA}{Q:Option aA->aB->Prop}(iC:s.heap.get? I=some (yk (.int slot 0) i a es.size ep))(ho:s.heap.get? a=some o)(hd:o.data=.set es ep t)(hf:t.fits es.size=true)
  (vO:∀{A:Around} {E:aA->aB->Prop} {Q:Option (aA×Nat)->aB->Prop},Q (some (x,slot')) s->aH (aI prog w) A (iL a slot i ep) Q E s)
  (hQ:∀h',h'.get? I=some (yk (.int slot' 0) (i+1) a es.size ep)->b9 I s.heap h'->Q (some x) {s with heap:=h'}):aH (aI prog w) A (bC<|.ref I) Q E s:=by
 have hT:s.TypeIs (.ref I) "set_iterator":=⟨_,iC,rfl⟩;unfold bC;refine ab<|jv<|cu (name:=bm "__next__") hT slot_setit_next<|dv slot_setit_next hT r9 ?_<|sk _;unfold Builtin.«set_iterator.__next__» nY;simp only[List.isEmpty_nil,i8,be,↓reduceIte,jY,jl,bne_self_eq_false];refine ab<|ah ?_;dsimp only;refine ab<|dI iC rfl ?_;show aH _ _ (oA a >>= _) _ _ _;refine ab<|cO ho hd hf ?_;rw[if_neg (by simp)];show aH _ _ (iL a (slot:Int).toNat (i:Int).toNat (ep:Int).toNat >>= _) _ _ _;simp only[da];refine ab<|vO ?_;dsimp only;refine ab<|iz iC rfl (by show 0<5;decide) ?_;have g1:=ci (Obj.mapFields (·.setIfInBounds 0 (cW slot'))) iC rfl;refine ab<|iz g1 rfl (by show 1<5;decide) ?_;have g2:=ci (Obj.mapFields (·.setIfInBounds 1 (cW<|i+1))) g1 rfl;exact ah ⟨x,rfl,ah<|hQ _ g2<|(e8 ..).trans (e8 ..)⟩
def am1{I a:aG}{slot i ep:Nat}{o:Obj}{es:Array (Int×aA)}{t:SetTable}{Q:Option aA->aB->Prop}(hh:A.handled=none)(iC:s.heap.get? I=some (yk (.int slot 0) i a es.size ep))(ho:s.heap.get? a=some o)(hd:o.data=.set es ep t)(hf:t.fits es.size=true)
  (vO:∀{A:Around} {E:aA->aB->Prop} {Q:Option (aA×Nat)->aB->Prop},Q none s->aH (aI prog w) A (iL a slot i ep) Q E s)
  (hQ:∀h',kz I s.heap h'->Q none {s with heap:=h'}):aH (aI prog w) A (bC<|.ref I) Q E s:=by
 have hT:s.TypeIs (.ref I) "set_iterator":=⟨_,iC,rfl⟩;unfold bC;refine ab<|jv<|cu (name:=bm "__next__") hT slot_setit_next<|dv slot_setit_next hT r9 ?_<|sk _;unfold Builtin.«set_iterator.__next__» nY;simp only[List.isEmpty_nil,i8,be,↓reduceIte,jY,jl,bne_self_eq_false];refine ab<|ah ?_;dsimp only;refine ab<|dI iC rfl ?_;show aH _ _ (oA a >>= _) _ _ _;refine ab<|cO ho hd hf ?_;rw[if_neg (by simp)];show aH _ _ (iL a (slot:Int).toNat (i:Int).toNat (ep:Int).toNat >>= _) _ _ _;simp only[da];refine ab<|vO ?_;dsimp only;refine ab<|iz iC rfl (by show 2<5;decide) ?_;show aH _ _ (jS (.type "StopIteration") [] >>= _) _ _ _;refine ab ?_;simp only[jS,kS];refine ab (ck ?_<|by size_fits);refine ab (m:=dN _ _)<|j8 (a:=aA.none) (by first|rfl|(simp only[dN];rfl)) ?_;refine ck ?_ (by size_fits);simp only[kR];refine ab<|iX ?_;rw[show A.in1.handled=none from hh];refine ab<|ah<|lW ?_;refine ab<|k7 (T:="StopIteration") (b:=true) ⟨_,a7 _ rfl,rfl⟩ hJ ?_;exact ah<|hQ _<|((e8 ..).extBut.push _).push _
def aog{I a tp:aG}{i ep p:Nat}{o op:Obj}{es:Array (Int×aA)}{t:SetTable}{ps:Array aA}{c:Nat}{e:Int×aA}{Q:Option aA->aB->Prop}(iC:s.heap.get? I=some (yk (.ref tp) i a es.size ep))(ho:s.heap.get? a=some o)(hd:o.data=.set es ep t)(hf:t.fits es.size=true)
  (hp:s.heap.get? tp=some op) (Jk:op.data=.seq ps c) (Jh:ps[i]?=some (.int p 0)) (Dx:es[p]?=some e)
  (hQ:∀h',h'.get? I=some (yk (.ref tp) (i+1) a es.size ep)->b9 I s.heap h'->Q (some e.2) {s with heap:=h'}):aH (aI prog w) A (bC<|.ref I) Q E s:=by
 have hT:s.TypeIs (.ref I) "set_iterator":=⟨_,iC,rfl⟩;unfold bC;refine ab<|jv<|cu (name:=bm "__next__") hT slot_setit_next<|dv slot_setit_next hT r9 ?_<|sk _;unfold Builtin.«set_iterator.__next__» nY;simp only[List.isEmpty_nil,i8,be,↓reduceIte,jY,jl,bne_self_eq_false];refine ab<|ah ?_;dsimp only;refine ab<|dI iC rfl ?_;show aH _ _ (oA a >>= _) _ _ _;refine ab<|cO ho hd hf ?_;rw[if_neg (by simp)];show aH _ _ (dA (.ref tp) >>= _) _ _ _;refine ab<|ig hp Jk ?_;dsimp only;simp only[da,Jh];refine ab ?_;unfold setNextDrawn;refine ab<|ic ho hd hf ?_;dsimp only;rw[if_neg (by simp)];simp only[da,Dx];refine ah ?_;refine ab<|iz iC rfl (by show 1<5;decide) ?_;have g2:=ci (Obj.mapFields (·.setIfInBounds 1 (cW<|i+1))) iC rfl;exact ah ⟨e.2,rfl,ah<|hQ _ g2<|e8 ..⟩
def aqe{I a tp:aG}{i ep:Nat}{o op:Obj}{es:Array (Int×aA)}{t:SetTable}{ps:Array aA}{c:Nat}{Q:Option aA->aB->Prop}(hh:A.handled=none)(iC:s.heap.get? I=some (yk (.ref tp) i a es.size ep))(ho:s.heap.get? a=some o)(hd:o.data=.set es ep t)(hf:t.fits es.size=true)
  (hp:s.heap.get? tp=some op) (Jk:op.data=.seq ps c) (Jh:ps[i]?=none)
  (hQ:∀h',kz I s.heap h'->Q none {s with heap:=h'}):aH (aI prog w) A (bC<|.ref I) Q E s:=by
 have hT:s.TypeIs (.ref I) "set_iterator":=⟨_,iC,rfl⟩;unfold bC;refine ab<|jv<|cu (name:=bm "__next__") hT slot_setit_next<|dv slot_setit_next hT r9 ?_<|sk _;unfold Builtin.«set_iterator.__next__» nY;simp only[List.isEmpty_nil,i8,be,↓reduceIte,jY,jl,bne_self_eq_false];refine ab<|ah ?_;dsimp only;refine ab<|dI iC rfl ?_;show aH _ _ (oA a >>= _) _ _ _;refine ab<|cO ho hd hf ?_;rw[if_neg (by simp)];show aH _ _ (dA (.ref tp) >>= _) _ _ _;refine ab<|ig hp Jk ?_;dsimp only;simp only[da,Jh];refine ab<|iz iC rfl (by show 0<5;decide) ?_;have g1:=ci (Obj.mapFields (·.setIfInBounds 0 (cW 0))) iC rfl;refine ab<|iz g1 rfl (by show 2<5;decide) ?_;show aH _ _ (jS (.type "StopIteration") [] >>= _) _ _ _;refine ab ?_;simp only[jS,kS];refine ab (ck ?_<|by size_fits);refine ab (m:=dN _ _)<|j8 (a:=aA.none) (by first|rfl|(simp only[dN];rfl)) ?_;refine ck ?_ (by size_fits);simp only[kR];refine ab<|iX ?_;rw[show A.in1.handled=none from hh];refine ab<|ah<|lW ?_;refine ab<|k7 (T:="StopIteration") (b:=true) ⟨_,a7 _ rfl,rfl⟩ hJ ?_;exact ah<|hQ _<|(((e8 ..).trans (e8 ..)).extBut.push _).push _
def aa5{a:aG}{slot given ep:Nat}{o:Obj}{es:Array (Int×aA)}{t:SetTable}{Q:Option (aA×Nat)->aB->Prop}(hb:byT w=true)(ho:s.heap.get? a=some o)(hd:o.data=.set es ep t)(hf:t.fits es.size=true)
  (h:Q (((iO (w.params.setOrder a ep) es)[given]?).map λe=>(e.2,slot)) s):aH (aI prog w) A (iL a slot given ep) Q E s:=by
 have eW:w.params.followText "set-order" = true:=hb;unfold iL;refine ab<|ic ho hd hf ?_;dsimp only;unfold nZ;refine ab<|ab<|cL<|ah ?_;show aH _ _ (if w.params.followText "set-order" = true then _ else _) _ _ _;rw[if_pos eW];rw[if_neg (by simp)];refine ab ?_;unfold setWalk;refine ab<|ic ho hd hf ?_;dsimp only;unfold nZ;refine ab<|ab<|cL<|ah ?_;show aH _ _ (if w.params.followText "set-order" = true then _ else _) _ _ _;rw[if_pos eW];refine ab<|cL<|ah ?_;exact ah h
def zh{a:aG}{slot given ep:Nat}{o:Obj}{es:Array (Int×aA)}{t:SetTable}{Q:Option (aA×Nat)->aB->Prop}(hb:byT w=false)(dE:t.led=true)(Dy:(!t.plain&&decide (es.size>1))=false)(ho:s.heap.get? a=some o)(hd:o.data=.set es ep t)(hf:t.fits es.size=true)
  (h:Q (match es[SetTable.below t.place slot]?,t.place[SetTable.below t.place slot]? with|some (_,x),some j=>some (x,j+1)|_,_=>none) s):aH (aI prog w) A (iL a slot given ep) Q E s:=by
 have eW:w.params.followText "set-order" = false:=hb;unfold iL;refine ab<|ic ho hd hf ?_;dsimp only;unfold nZ;refine ab<|ab<|cL<|ah ?_;show aH _ _ (if w.params.followText "set-order" = true then _ else _) _ _ _;rw[if_neg (by rw[eW];exact am)];show aH _ _ (if (!t.plain&&decide (es.size>1))=true then _ else _) _ _ _;rw[Dy,if_neg am];refine ab ?_;show aH _ _ (if (!t.led && !es.isEmpty)=true then _ else _) _ _ _;rw[dE,if_neg<|by simp];refine ah ?_;exact ah h
end
def alo{xs:Array Nat}(h:xs.toList.Pairwise (· < ·)):SetTable.below xs 0=0:=by
 obtain⟨a,b,c⟩:=xj h 0;apply jg;intro hn;have h0:0<xs.size:=by lia
 have:=b 0 xs[0] (by lia) (by simp[h0]);lia
def alj{xs:Array Nat}(h:xs.toList.Pairwise (· < ·)){i j:Nat}(hi:xs[i]?=some j):SetTable.below xs (j+1)=i+1:=by
 obtain⟨a,b,c⟩:=xj h<|j+1;have hl:=(bz.mp hi).1;by_cases q:SetTable.below xs (j+1)<=i
 .have:=c i j q hi;lia
 by_cases q2:i+1<SetTable.below xs (j+1)
 .have eV:i+1<xs.size:=by lia
  have e:xs[i+1]?=some xs[i+1]:=by simp[eV]
  have h1:=b (i+1) _ q2 e;have h2:=Hh h hi e (by lia);lia
 .lia
def WalkAt(w:aN)(a I:aG)(es:Array (Int×aA))(ep:Nat)(t:SetTable)(os:Z aA)(i:Nat)(h:Heap):Prop:=
 (∃o,h.get? a=some o/\o.cls=.type "set"/\o.data=.set es ep t)/\
 ((byT w=true/\os=(iO (w.params.setOrder a ep) es).toList.map (·.2)/\∃slot,h.get? I=some (yk (.int (slot:Nat) 0) i a es.size ep))\/
  (byT w=false/\(!t.plain&&decide (es.size>1))=false/\os=es.toList.map (·.2)/\∃slot,h.get? I=some (yk (.int (slot:Nat) 0) i a es.size ep)/\SetTable.below t.place slot=i)\/
  (∃tp op c,∃ord:Z Nat,h.get? I=some (yk (.ref tp) i a es.size ep)/\h.get? tp=some op/\op.cls=.type "tuple"/\op.data=.seq (ord.map λ(p:Nat)=>aA.int (p:Int) 0).toArray c/\os.length=ord.length/\∀(k:Nat) p,ord[k]?=some p->∃e,es[p]?=some e/\os[k]?=some e.2))
section
variable{prog:aM}{w:aN}{A:Around}{E:aA->aB->Prop}{s:aB}{a I:aG}{es:Array (Int×aA)}{ep:Nat}{t:SetTable}{os:Z aA}{i:Nat}
def WalkAt.keep{h h':Heap}(x:WalkAt w a I es ep t os i h)(k:∀b o,h.get? b=some o->(o.cls=.type "set"\/o.cls=.type "set_iterator"\/o.cls=.type "tuple")->h'.get? b=some o):WalkAt w a I es ep t os i h':=by
 obtain⟨⟨o,h1,h2,h3⟩,hm⟩:=x;refine⟨⟨o,k _ _ h1<|.inl h2,h2,h3⟩,?_⟩;rcases hm with ⟨b1,b2,slot,b3⟩|⟨b1,b2,b3,slot,b4,b5⟩|⟨tp,op,c,ord,b1,b2,b3,b4,b5,b6⟩
 .exact .inl ⟨b1,b2,slot,k _ _ b3<|.inr<|.inl rfl⟩
 .exact .inr<|.inl ⟨b1,b2,b3,slot,k _ _ b4<|.inr<|.inl rfl,b5⟩
 .exact .inr<|.inr<|ny tp op c ord ⟨k _ _ b1<|.inr<|.inl rfl,k _ _ b2<|.inr<|.inr b3,b3,b4,b5,b6⟩
def anv{x:aA}{Q:Option aA->aB->Prop}(ok:TOk t es)(dE:t.led = !byT w)(hw:WalkAt w a I es ep t os i s.heap)(hx:os[i]?=some x)
  (hQ:∀h',WalkAt w a I es ep t os (i+1) h'->b9 I s.heap h'->Q (some x) {s with heap:=h'}):aH (aI prog w) A (bC<|.ref I) Q E s:=by
 obtain⟨⟨o,h1,h2,h3⟩,hm⟩:=hw;have rX:∀{h':Heap} {fo:Obj},s.heap.get? I=some fo->fo.cls=.type "set_iterator"->b9 I s.heap h'->h'.get? a=some o:=λ{h' fo} hi hc sb=>by rw[sb.2 a (λe=>by subst e;rw[h1]at hi;cases hi;rw[h2]at hc;exact absurd hc<|by decide)];exact h1
 rcases hm with ⟨b1,b2,slot,b3⟩|⟨b1,b2,b3,slot,b4,b5⟩|⟨tp,op,c,ord,b1,b2,b3,b4,b5,b6⟩
 .subst b2;rw[ax,bi]at hx;obtain⟨e,he,rfl⟩:=ca.mp hx;refine ajh (slot':=slot) b3 h1 h3 ok.fits (λq=>aa5 b1 h1 h3 ok.fits<|by rw[he];exact q) λh' g sb=>?_;exact hQ h' ⟨⟨o,rX b3 rfl sb,h2,h3⟩,.inl ⟨b1,rfl,slot,g⟩⟩ sb
 .subst b3;rw[ax,bi]at hx;obtain⟨e,he,rfl⟩:=ca.mp hx;have oN:=(bz.mp he).1;have gB:t.place[i]?=some (t.place[i]'(by rw[ok.sz];exact oN)):=b8 _;have hl:t.led=true:=by rw[dE,b1];rfl
  obtain⟨eh,ev⟩:=e;refine ajh (slot':=t.place[i]'(by rw[ok.sz];exact oN)+1) b4 h1 h3 ok.fits (λq=>zh b1 hl b2 h1 h3 ok.fits<|by rw[b5,he,gB];exact q) λh' g sb=>?_;exact hQ h' ⟨⟨o,rX b4 rfl sb,h2,h3⟩,.inr<|.inl ⟨b1,b2,rfl,_,g,alj ok.rise gB⟩⟩ sb
 .have oN:=(ak.mp hx).1;have hio:ord[i]?=some (ord[i]'(by lia)):=af _;obtain⟨e,e1,e2⟩:=b6 i _ hio;rw[hx]at e2;cases e2;refine aog b1 h1 h3 ok.fits b2 b4 (by rw[List.getElem?_toArray,ax,hio];rfl) e1 λh' g sb=>?_;have nt:tp≠I:=λe=>by subst e;rw[b2]at b1;cases b1;exact absurd b3<|by show ¬(aA.type "set_iterator" = aA.type "tuple");decide
  exact hQ h' ⟨⟨o,rX b1 rfl sb,h2,h3⟩,.inr<|.inr<|ny tp op c ord ⟨g,by rw[sb.2 tp nt];exact b2,b3,b4,b5,b6⟩⟩ sb
def aqh{Q:Option aA->aB->Prop}(hh:A.handled=none)(ok:TOk t es)(dE:t.led = !byT w)(hw:WalkAt w a I es ep t os i s.heap)(hx:os.length<=i)
  (hQ:∀h',kz I s.heap h'->Q none {s with heap:=h'}):aH (aI prog w) A (bC<|.ref I) Q E s:=by
 obtain⟨⟨o,h1,h2,h3⟩,hm⟩:=hw;rcases hm with ⟨b1,b2,slot,b3⟩|⟨b1,b2,b3,slot,b4,b5⟩|⟨tp,op,c,ord,b1,b2,b3,b4,b5,b6⟩
 .subst b2;rw[ae,a9]at hx;refine am1 hh b3 h1 h3 ok.fits (λq=>aa5 b1 h1 h3 ok.fits<|by rw[lv hx];exact q) hQ
 .subst b3;rw[ae,a9]at hx;have hl:t.led=true:=by rw[dE,b1];rfl
  refine am1 hh b4 h1 h3 ok.fits (λq=>zh b1 hl b2 h1 h3 ok.fits<|by rw[b5,lv hx];exact q) hQ
 .exact aqe hh b1 h1 h3 ok.fits b2 b4 (by rw[List.getElem?_toArray,ax,iw<|by lia];rfl) hQ
theorem aku{o:Obj}{Q:aA->aB->Prop}(ho:s.heap.get? a=some o)(kK:o.ExactSet)(hd:o.data=.set es ep t)(ok:TOk t es)(dE:t.led = !byT w)(hsz:es.size<=4000)
  (hQ:∀h' I os dr,os.Perm (es.toList.map (·.2))->WalkAt w a I es ep t os 0 h'->(∀b o,s.heap.get? b=some o->h'.get? b=some o)->s.heap.objs.size<=I->Q (.ref I) {s with heap:=h',drawn:=dr}):aH (aI prog w) A (lL<|.ref a) Q E s:=by
 have hT:s.TypeIs (.ref a) "set":=⟨o,ho,kK.1⟩;refine Ce hT PySem.F.slot_set_iter<|dv PySem.F.slot_set_iter hT aco ?_<|PySem.F.args_set_iter_1 _;unfold Builtin.«frozenset.__iter__» Builtin.Frozenset.slot0 nY;simp only[List.isEmpty_nil,i8,be,↓reduceIte,jY,jl,bne_self_eq_false];unfold Builtin.Frozenset.addrOf Builtin.Frozenset.sizeOf;refine ab<|ah ?_;dsimp only;refine ab<|ah ?_;refine ab<|ab<|cO ho hd ok.fits<|ah ?_;have JW:∀{Q:Bool->aB->Prop},Q (!byT w&&(!t.plain&&decide (es.size>1))) s->aH (aI prog w) A.in1 (setDrawn a) Q E s:=λ{Q} q=>by unfold setDrawn;refine ab<|ic ho hd ok.fits ?_;dsimp only;unfold nZ;refine ab<|ab<|cL<|ah ?_;exact ah q
 refine ab<|JW ?_;cases hc:(!byT w&&(!t.plain&&decide (es.size>1)))with
 | true=>
  rw[if_pos rfl];refine ab<|afn es.size (cj es.size) s (by rw[fu]) λord dr hp=>?_;simp only[kS];have nG:ord.length=es.size:=by rw[hp.length_eq,fu]
  obtain⟨wN,vK⟩:∃ob:Obj,ob={cls:=.type "tuple",data:=.seq (ord.map λ(p:Nat)=>aA.int (p:Int) 0).toArray}:=⟨_,rfl⟩;have fG:((ord.map λ(p:Nat)=>aA.int (p:Int) 0).toArray).size<=aF:=by rw[bp,ae,nG,cD];lia
  refine ab<|ck ?_ fG;show aH _ _ _ _ _ {s with heap:=s.heap.push {cls:=.type "tuple",data:=.seq (ord.map λ(p:Nat)=>aA.int (p:Int) 0).toArray},drawn:=dr};rw[<-vK];have CP:∀b ob,s.heap.get? b=some ob->(s.heap.push wN).get? b=some ob:=λb ob e=>aj _ e;have CW:(s.heap.push wN).get? s.heap.objs.size=some wN:=a7 _ (by rw[vK];rfl);refine ab<|Cc (CP _ _ ho) hd ok.fits ?_;have hg:((s.heap.push wN).push (yk (.ref s.heap.objs.size) 0 a es.size ep)).get? (s.heap.push wN).objs.size=some (yk (.ref s.heap.objs.size) 0 a es.size ep):=a7 _ rfl;have CO:∀b ob,(s.heap.push wN).get? b=some ob->((s.heap.push wN).push (yk (.ref s.heap.objs.size) 0 a es.size ep)).get? b=some ob:=λb ob e=>aj _ e;refine ab<|ck<|ah<|oq _ rfl ("set_iterator") _ ⟨⟨_,hg,rfl⟩,slot_setit_next.lookup,?_⟩;have jD:(ord.map λp=>(es[p]?.map (·.2)).getD aA.none).Perm (es.toList.map (·.2)):=by
   have h1:=hp.map λp=>(es[p]?.map (·.2)).getD aA.none;have h2:(cj es.size).map (λp=>(es[p]?.map (·.2)).getD aA.none)=es.toList.map (·.2):=by
    apply List.ext_getElem
    .simp
    .intro k a1 b1;have hk:k<es.size:=by simpa using b1
     simp[hk]
   rw[h2]at h1;exact h1
  refine hQ _ _ _ dr jD ⟨⟨o,CO _ _<|CP _ _ ho,kK.1,hd⟩,.inr<|.inr<|ny s.heap.objs.size wN 0 ord ⟨hg,CO _ _ CW,by rw[vK],by rw[vK],by rw[ae],λk p hk=>?_⟩⟩ (λb ob e=>CO _ _<|CP _ _ e) (by rw[Heap.size_push];exact Nat.le_succ _);have gB:p<es.size:=gh.mp<|hp.mem_iff.mp<|ai hk;refine⟨es[p],b8 gB,?_⟩;rw[ax,hk];show some ((es[p]?.map (·.2)).getD aA.none)=_;rw[b8 gB];rfl
 | false=>
  rw[if_neg am];refine ab<|ah ?_;refine ab<|Cc ho hd ok.fits ?_;have hg:(s.heap.push<|yk (.int ((0:Nat):Int) 0) 0 a es.size ep).get? s.heap.objs.size=some (yk (.int ((0:Nat):Int) 0) 0 a es.size ep):=a7 _ rfl;have kp:∀b ob,s.heap.get? b=some ob->(s.heap.push<|yk (.int ((0:Nat):Int) 0) 0 a es.size ep).get? b=some ob:=λb ob e=>aj _ e;refine ab<|ck<|ah<|oq _ rfl ("set_iterator") _ ⟨⟨_,hg,rfl⟩,slot_setit_next.lookup,?_⟩;cases hb:byT w with
  | true=>exact hQ _ _ _ s.drawn ((amz _ es).map _) ⟨⟨o,kp _ _ ho,kK.1,hd⟩,.inl ⟨hb,rfl,0,hg⟩⟩ kp (ao _)
  | false=>
   rw[hb]at hc;exact hQ _ _ _ s.drawn (j7 _) ⟨⟨o,kp _ _ ho,kK.1,hd⟩,.inr<|.inl ⟨hb,by simpa using hc,rfl,0,hg,alo ok.rise⟩⟩ kp<|ao _
end
def aq6:fZ (.type "set") "__len__" = aS (some<|.builtin "set.__len__"):=by rw[mV,gQ];kernel_rfl
section
variable{prog:aM}{w:aN}{A:Around}{a I S:aG}{es:Array (Int×aA)}{ep:Nat}{t:SetTable}{os:Z aA}{R:iF->aB->Prop}
theorem af4(hh:A.in1.handled=none)(ok:TOk t es)(dE:t.led = !byT w)(oH:os.length<=4000)(res:aA)(h0:Heap)(FT:h0.get? I=none)(hS0:h0.get? S=none) :
  ∀(k i:Nat)(s:aB)(c:Nat),os.length-i=k->i<=os.length->WalkAt w a I es ep t os i s.heap->s.heap.get? S=some {cls:=.type "list",dict:=none,data:=.seq (os.take i).toArray c,slots:=#[]}->(∀b o,h0.get? b=some o->s.heap.get? b=some o)->
  (∀h' c',h'.get? S=some {cls:=.type "list",dict:=none,data:=.seq os.toArray c',slots:=#[]}->(∀b o,h0.get? b=some o->h'.get? b=some o)->R (.ok<|.ret res) {s with heap:=h'})->
  bT (aI prog w) A (.builtin "list.extend.loop" ⟨[.ref S,.ref I,res],[]⟩) R s:=by
 intro k;induction k with
 | zero=>
  intro i s c hk hi hw hS eY hR;have eZ:i=os.length:=by lia
  subst eZ;rw[List.take_length]at hS;refine fc PySem.F.entry_extend_loop (show _ from ?_);rw[cn j9 (_:HQ)];show aH _ A.in1 (bC (.ref I) >>= _) _ _ s;have IC:S≠I:=λe=>by
   subst e;rcases hw.2 with ⟨_,_,slot,b3⟩|⟨_,_,_,slot,b4,_⟩|⟨tp,op,c,ord,b1,_⟩
   .rw[hS]at b3;injection b3 with b3;injection b3 with b3;exact absurd b3<|by decide
   .rw[hS]at b4;injection b4 with b4;injection b4 with b4;exact absurd b4<|by decide
   .rw[hS]at b1;injection b1 with b1;injection b1 with b1;exact absurd b1<|by decide
  refine ab<|aqh hh ok dE hw (ao _) λh' hx=>?_;exact ah (hR h' c (hx S _ IC hS) λb o e=>hx b o (λz=>by rw[z,FT]at e;cases e)<|eY b o e)
 | succ k ih=>
  intro i s c hk hi hw hS eY hR;have bN:i<os.length:=by lia
  refine fc PySem.F.entry_extend_loop (show _ from ?_);rw[cn j9 (_:HQ)];show aH _ A.in1 (bC (.ref I) >>= _) _ _ s;have IC:S≠I:=λe=>by
   subst e;rcases hw.2 with ⟨_,_,slot,b3⟩|⟨_,_,_,slot,b4,_⟩|⟨tp,op,c,ord,b1,_⟩
   .rw[hS]at b3;injection b3 with b3;injection b3 with b3;exact absurd b3<|by decide
   .rw[hS]at b4;injection b4 with b4;injection b4 with b4;exact absurd b4<|by decide
   .rw[hS]at b1;injection b1 with b1;injection b1 with b1;exact absurd b1<|by decide
  refine ab<|anv ok dE hw (af bN) λh' hw' sb=>?_;have gM:h'.get? S=some {cls:=.type "list",dict:=none,data:=.seq (os.take i).toArray c,slots:=#[]}:=by rw[sb.2 S IC];exact hS
  show aH _ A.in1 (dU S (·.push os[i]) >>= _) _ _ _;refine ab ?_;have IQ:(os.take i).toArray.size<=aF:=by rw[bp,cg,cD];lia
  have AT:((os.take i).toArray.push os[i]).size<=aF+1:=by rw[Array.size_push];lia
  refine i9 gM rfl (ah ⟨gl j9 _,ih (i+1) _ (c+1) (by lia) bN (hw'.keep λb o e hc=>?_) ?_ (λb o e=>?_) λmO c' g kp=>?_⟩) IQ AT
  .have:b≠S:=λz=>by
    subst z;rw[gM]at e;cases e;have fH:aA.type "list" = .type "set"\/aA.type "list" = .type "set_iterator"\/aA.type "list" = .type "tuple":=hc;revert fH;decide
   exact(b7 _ _<|Ne.symm this).trans e
  .have g:=ci (jp (·.push os[i])) gM rfl;have e1:(os.take i).toArray.push os[i]=(os.take<|i+1).toArray:=by rw[List.push_toArray,List.take_append_getElem bN]
   rw[<-e1];exact g.trans<|congrArg some<|Obj.mapSeq_push_plain _ _ _
  .have nb:b≠S:=λz=>by rw[z,hS0]at e;cases e
   refine(b7 _ _<|Ne.symm nb).trans ?_;rw[sb.2 b (λz=>by rw[z,FT]at e;cases e)];exact eY b o e
  .exact hR mO c' g kp
theorem agj{o:Obj}{E:aA->aB->Prop}{Q:Z aA->aB->Prop}{s:aB}(hh:A.handled=none)(ho:s.heap.get? a=some o)(kK:o.ExactSet)(hd:o.data=.set es ep t)(ok:TOk t es)(dE:t.led = !byT w)(hsz:es.size<=4000)
  (hQ:∀h' os dr,os.Perm (es.toList.map (·.2))->(∀b o,s.heap.get? b=some o->h'.get? b=some o)->Q os {s with heap:=h',drawn:=dr}):aH (aI prog w) A (gF<|.ref a) Q E s:=by
 unfold gF;refine ab<|nU<|fc PySem.F.entry_proto_collect ?_;rw[cn PySem.F.plain_proto_collect _];show aH _ A.in1 (CH [] >>= λl=>again<|.builtin "list.__iadd__" ⟨[l,.ref a],[]⟩) _ _ s;refine ab<|ck ?_;refine ah ⟨gl PySem.F.plain_list_iadd _,fc PySem.F.entry_list_iadd ?_⟩;rw[cn PySem.F.plain_list_iadd _];show aH _ A.in1 (mf (.ref s.heap.objs.size) (.ref a)<|.ref s.heap.objs.size) _ _ _;have hla:=bb ho;unfold mf;generalize hH:s.heap.push {cls:=.type "list",data:=.seq ([]:Z aA).toArray}=H;have FU:H.objs.size=s.heap.objs.size+1:=by rw[<-hH,Heap.size_push]
 have kp:∀b ob,s.heap.get? b=some ob->H.get? b=some ob:=λb ob e=>hH▸aj _ e;have Kn:H.get? s.heap.objs.size=some {cls:=.type "list",data:=.seq ([]:Z aA).toArray}:=hH▸a7 _ rfl;have hT:∀(s':aB),s'.heap.get? a=some o->s'.TypeIs (.ref a) "set":=λs' e=>⟨o,e,kK.1⟩;refine ab<|jj (T:="set") (hT _<|kp _ _ ho) ?_;have h1:Builtin.List.listSameRef (.ref s.heap.objs.size) (.ref a)=false:=by show(s.heap.objs.size==a)=false;exact beq_false_of_ne<|Nat.ne_of_gt hla
 have h2:(aA.type "set" == aA.type "list")=false:=by decide
 have h3:(aA.type "set" == aA.type "tuple")=false:=by decide
 simp only[h1,h2,h3,Bool.or_false,be,if_false];refine ab<|aku (kp _ _ ho) kK hd ok dE hsz λh1 I os dr hp hw k1 hI=>?_;refine ab<|ff ?_;unfold Builtin.List.listLengthHint;have uD:h1.get? a=some o:=k1 _ _<|kp _ _ ho;refine ab (jy (T:="set") (v:=.ref a) (hT _ uD) aq6 ?_)
 wp_delta
 refine ab<|k7 (T:="set") (v:=.ref a) (b:=true) (hT _ uD) (by rw[oC];kernel_rfl) ?_;show aH _ A.in1 (typeOf (aA.ref a) >>= _) _ _ _;refine ab<|jj (T:="set") (v:=.ref a) (hT _ uD) ?_;refine ah ?_;rw[if_pos (by decide)];show aH _ A.in1 (qF "list.extend.makes-room" >>= λ_=>Builtin.List.listTouch (.ref s.heap.objs.size) >>= λ_=>
  again (.builtin "list.extend.loop" ⟨[.ref s.heap.objs.size,.ref I,.ref s.heap.objs.size],[]⟩)) _ _ _
 refine ab<|jm ?_;refine ab ?_;show aH _ A.in1 (dU s.heap.objs.size (·.push .none) >>= λ_=>dU s.heap.objs.size (·.pop)) _ _ _;have hS:h1.get? s.heap.objs.size=some {cls:=.type "list",data:=.seq ([]:Z aA).toArray}:=k1 _ _ Kn;refine ab<|i9 hS rfl ?_;have DK:=ci (jp (·.push aA.none)) hS rfl;refine i9 (hz:=by seq_fits) DK rfl ?_;have Ki:=ci (jp (·.pop)) DK rfl;have AQ:∀b ob,b≠s.heap.objs.size->h1.get? b=some ob->((h1.update s.heap.objs.size<|jp (·.push aA.none)).update s.heap.objs.size (jp (·.pop))).get? b=some ob:=
  λb ob hb e=>(b7 _ _<|Ne.symm hb).trans ((b7 _ _<|Ne.symm hb).trans e)
 have FT:s.heap.get? I=none:=by
  cases q:s.heap.get? I with
  | none=>rfl
  | some ob=>
   have hI':H.objs.size<=I:=hI;exact absurd (bb q)<|Nat.not_lt.mpr<|gw (by rw[FU];exact Nat.le_succ _) hI'
 have hS0:s.heap.get? s.heap.objs.size=none:=by
  cases q:s.heap.get? s.heap.objs.size with
  | none=>rfl
  | some ob=>exact absurd (bb q)<|ij _
 refine ah ⟨gl j9 _,af4 hh ok dE (by rw[hp.length_eq,ae,a9];exact hsz) _ s.heap FT hS0 os.length 0 _ _ rfl (fk _) (hw.keep λb ob e hc=>AQ b ob (λz=>?_) e) Ki (λb ob e=>AQ b ob (λz=>?_)<|k1 _ _<|kp _ _ e) λh2 c2 g2 k2=>?_⟩
 .subst z;rw[hS]at e;cases e;have fH:aA.type "list" = .type "set"\/aA.type "list" = .type "set_iterator"\/aA.type "list" = .type "tuple":=hc;revert fH;decide
 .subst z;rw[hS0]at e;cases e
 .show aH _ A (load s.heap.objs.size >>= _) _ _ _;refine ab<|AG g2 ?_;refine ah ?_;exact hQ h2 os dr hp k2
end
end L3
namespace L3
open PySem PySem.Spec PyProof.Rows L2
mutual
def Cmp:U->U->Prop
 | .int _,.int _=>True
 | .str _,.str _=>True
 | .tuple xs,.tuple ys=>mY xs ys
 | _,_=>False
def mY:Z U->Z U->Prop
 | [],_=>True
 | _::_,[]=>True
 | x::xs,y::ys=>Cmp x y/\mY xs ys
end
mutual
noncomputable def ltD:U->U->Bool
 | .int a,.int b=>decide (a<b)
 | .str a,.str b=>sLt a b
 | .tuple xs,.tuple ys=>ltL xs ys
 | _,_=>false
noncomputable def ltL:Z U->Z U->Bool
 | [],[]=>false
 | [],_::_=>true
 | _::_,[]=>false
 | x::xs,y::ys=>if bn x y=true then ltL xs ys else ltD x y
end
noncomputable def tQ(xs:Z Nat):Z Int:=xs.map λ(c:Nat)=>(c:Int)+1
mutual
noncomputable def enc:U->Z Int
 | .int a=>[1,a]
 | .str x=>2::(tQ x.cps.toList++[0])
 | .tuple ds=>3::(nL ds++[0])
 | .none=>[9]
 | .bool _=>[9]
 | .list _=>[9]
 | .dict _=>[9]
noncomputable def nL:Z U->Z Int
 | []=>[]
 | d::ds=>enc d++nL ds
end
theorem aos:∀(xs ys:Z Nat)(r r':Z Int),(tQ xs++0::r<tQ ys++0::r')↔(xs<ys\/xs=ys/\r<r')
 | [],[],r,r'=>by simp[tQ,fw]
 | [],y::ys,r,r'=>by
  have:(0:Int)<(y:Int)+1:=by lia
  simp[tQ,fw,this]
 | x::xs,[],r,r'=>by
  have h1:¬((x:Int)+1<0):=by lia
  have h2:¬((x:Int)+1=0):=by lia
  simp[tQ,fw,h1,h2]
 | x::xs,y::ys,r,r'=>by
  have ih:=aos xs ys r r';unfold tQ at ih⊢;simp only[cm,List.cons_append,fw,ih,List.cons.injEq];have h1:((x:Int)+1<(y:Int)+1)↔x<y:=by lia
  have h2:((x:Int)+1=(y:Int)+1)↔x=y:=by lia
  rw[h1,h2];constructor
  .rintro(h|⟨h,h'|⟨h',mO⟩⟩)
   .exact .inl<|.inl h
   .exact .inl<|.inr ⟨h,h'⟩
   .exact .inr ⟨⟨h,h'⟩,mO⟩
  .rintro((h|⟨h,h'⟩)|⟨⟨h,h'⟩,mO⟩)
   .exact .inl h
   .exact .inr ⟨h,.inl h'⟩
   .exact .inr ⟨h,.inr ⟨h',mO⟩⟩
theorem amt:∀(d:U)(r:Z Int),∃a t,enc d++r=a::t/\(0:Int)<a
 | .int a,r=>(nc 1 _ ⟨rfl,by decide⟩)
 | .str x,r=>(nc 2 _ ⟨rfl,by decide⟩)
 | .tuple ds,r=>(nc 3 _ ⟨rfl,by decide⟩)
 | .none,r=>(nc 9 _ ⟨rfl,by decide⟩)
 | .bool _,r=>(nc 9 _ ⟨rfl,by decide⟩)
 | .list _,r=>(nc 9 _ ⟨rfl,by decide⟩)
 | .dict _,r=>(nc 9 _ ⟨rfl,by decide⟩)
mutual
theorem ass:∀(x y:U)(r r':Z Int),Cmp x y->((enc x++r<enc y++r')↔(if bn x y=true then r<r' else ltD x y=true))
 | .int a,.int b,r,r',_=>by
  have e:bn (.int a) (.int b)=(a==b):=rfl;rw[e];show(1::a::r<1::b::r')↔_;simp only[fw,ltD];by_cases h:a=b
  .subst h;simp
  .simp[h]
 | .str a,.str b,r,r',_=>by
  have e:bn (.str a) (.str b)=(a==b):=rfl;rw[e];show(2::((tQ a.cps.toList++[0])++r)<2::((tQ b.cps.toList++[0])++r'))↔_;rw[fw,br,br];show(_\/_/\(tQ a.cps.toList++0::r<tQ b.cps.toList++0::r'))↔_;rw[aos];have hx:a=b↔a.cps.toList=b.cps.toList:=⟨λh=>by rw[h],λh=>by cases a;cases b;simp only at h;congr;exact Array.ext' h⟩;by_cases h:a=b
  .subst h;simp[List.lt_irrefl]
  .have h':¬a.cps.toList=b.cps.toList:=λz=>h<|hx.mpr z;simp[h,h',ltD,sLt]
 | .tuple xs,.tuple ys,r,r',hc=>by
  have e:bn (.tuple xs) (.tuple ys)=db xs ys:=by simp[bn]
  rw[e];show(3::((nL xs++[0])++r)<3::((nL ys++[0])++r'))↔_;rw[fw,br,br];show(_\/_/\(nL xs++0::r<nL ys++0::r'))↔(if db xs ys=true then r<r' else ltL xs ys=true);rw[ao5 xs ys r r' hc];simp
theorem ao5:∀(xs ys:Z U)(r r':Z Int),mY xs ys->((nL xs++0::r<nL ys++0::r')↔(if db xs ys=true then r<r' else ltL xs ys=true))
 | [],[],r,r',_=>by simp[nL,db,fw]
 | [],y::ys,r,r',_=>by obtain⟨a,t,e,h⟩:=amt y (nL ys++0::r');show(0::r<(enc y++nL ys)++0::r')↔_;rw[br,e,fw];simp[h,db,ltL]
 | x::xs,[],r,r',_=>by
  obtain⟨a,t,e,h⟩:=amt x (nL xs++0::r);show((enc x++nL xs)++0::r<0::r')↔_;rw[br,e,fw];have h1:¬a<0:=by lia
  have h2:¬a=0:=by lia
  simp[h1,h2,db,ltL]
 | x::xs,y::ys,r,r',hc=>by
  have fH:Cmp x y/\mY xs ys:=hc;show((enc x++nL xs)++0::r<(enc y++nL ys)++0::r')↔(if (bn x y&&db xs ys)=true then r<r' else(if bn x y=true then ltL xs ys else ltD x y)=true);rw[br,br,ass x y _ _ fH.1];cases h:bn x y with
  | true=>
   simp only[if_true,Bool.true_and];exact ao5 xs ys r r' fH.2
  | false=>simp
end
mutual
theorem apo:∀(x y:U),Cmp x y->bn x y=true->ltD x y=false
 | .int a,.int b,_,h=>by
  have e:bn (.int a) (.int b)=(a==b):=rfl;rw[e]at h;have:a=b:=by simpa using h
  subst this;simp[ltD]
 | .str a,.str b,_,h=>by
  have e:bn (.str a) (.str b)=(a==b):=rfl;rw[e]at h;have:a=b:=by simpa using h
  subst this;exact awf a
 | .tuple xs,.tuple ys,hc,h=>ajc xs ys hc<|by simpa [bn]using h
theorem ajc:∀(xs ys:Z U),mY xs ys->db xs ys=true->ltL xs ys=false
 | [],[],_,_=>rfl
 | [],_::_,_,h=>by simp[db]at h
 | _::_,[],_,h=>by simp[db]at h
 | x::xs,y::ys,hc,h=>by
  have h':bn x y=true/\db xs ys=true:=by simpa [db]using h
  show(if bn x y=true then ltL xs ys else ltD x y)=false;rw[if_pos h'.1];exact ajc xs ys (show Cmp x y/\mY xs ys from hc).2 h'.2
end
mutual
theorem aod:∀(x y:U),Cmp x y->bn y x=bn x y
 | .int a,.int b,_=>by show(b==a)=(a==b);exact Bool.beq_comm
 | .str a,.str b,_=>by show(b==a)=(a==b);exact Bool.beq_comm
 | .tuple xs,.tuple ys,hc=>by have:=ajq xs ys hc;simpa [bn]using this
theorem ajq:∀(xs ys:Z U),mY xs ys->db ys xs=db xs ys
 | [],[],_=>rfl
 | [],_::_,_=>rfl
 | _::_,[],_=>rfl
 | x::xs,y::ys,hc=>by have fH:Cmp x y/\mY xs ys:=hc;show(bn y x&&db ys xs)=(bn x y&&db xs ys);rw[aod x y fH.1,ajq xs ys fH.2]
end
mutual
theorem amg:∀(x y:U),Cmp x y->bn x y=false->ltD x y=true\/ltD y x=true
 | .int a,.int b,_,h=>by
  have e:bn (.int a) (.int b)=(a==b):=rfl;rw[e]at h;have:a≠b:=by simpa using h
  simp only[ltD,decide_eq_true_eq];lia
 | .str a,.str b,_,h=>by
  have e:bn (.str a) (.str b)=(a==b):=rfl;rw[e]at h;have:a≠b:=by simpa using h
  show sLt a b=true\/sLt b a=true;cases h1:sLt a b with
  | true=>exact .inl rfl
  | false=>
   cases h2:sLt b a with
   | true=>exact .inr rfl
   | false=>exact absurd (Lx h1 h2) this
 | .tuple xs,.tuple ys,hc,h=>aov xs ys hc<|by simpa [bn]using h
theorem aov:∀(xs ys:Z U),mY xs ys->db xs ys=false->ltL xs ys=true\/ltL ys xs=true
 | [],[],_,h=>by simp[db]at h
 | [],_::_,_,h=>.inl rfl
 | _::_,[],_,h=>.inr rfl
 | x::xs,y::ys,hc,h=>by
  have fH:Cmp x y/\mY xs ys:=hc;show(if bn x y=true then ltL xs ys else ltD x y)=true\/(if bn y x=true then ltL ys xs else ltD y x)=true;have hs:bn y x=bn x y:=aod x y fH.1;rw[hs];cases h1:bn x y with
  | true=>
   have h2:db xs ys=false:=by simpa [db,h1]using h
   simpa using aov xs ys fH.2 h2
  | false=>simpa using amg x y fH.1 h1
end
theorem wb{x y:U}(h:Cmp x y):ltD x y=decide (enc x<enc y):=by
 have k:=ass x y [] [] h;rw[df,df]at k;cases he:bn x y with
 | true=>
  rw[he,if_pos rfl]at k;rw[apo x y h he];exact(decide_eq_false λz=>List.lt_irrefl _<|k.mp z).symm
 | false=>
  rw[he,if_neg am]at k;cases hl:ltD x y with
  | true=>exact(decide_eq_true<|k.mpr hl).symm
  | false=>exact(decide_eq_false λz=>by have:=k.mp z;rw[hl]at this;cases this).symm
theorem au0{x y:U}(h:Cmp x y)(h':Cmp y x)(hx:kd x=true)(hy:kd y=true)(h1:¬enc x<enc y)(h2:¬enc y<enc x):x=y:=by
 cases he:bn x y with
 | true=>exact BW x y hx hy he
 | false=>
  rcases amg x y h he with z|z
  .rw[wb h]at z;exact absurd (of_decide_eq_true z) h1
  .rw[wb h']at z;exact absurd (of_decide_eq_true z) h2
noncomputable def ltE(ds:Z U)(i j:Nat):Bool:=decide<|enc (ds.getD i .none)<enc (ds.getD j .none)
noncomputable def ub(ds:Z U):Z U:=(srt (ltE ds) ds.length).map λi=>ds.getD i .none
def awm(ds:Z U):Ord (ltE ds)where
 asy:=λa b h=>decide_eq_false (List.lt_asymm<|of_decide_eq_true h)
 tr:=λa b c h1 h2=>by have eR:enc (ds.getD a .none)<=enc (ds.getD b .none):=of_decide_eq_false h1;have fQ:enc (ds.getD b .none)<=enc (ds.getD c .none):=of_decide_eq_false h2;exact decide_eq_false<|List.le_trans eR fQ
def pw(ds:Z U):(ub ds).Perm ds:=by have h:=(Mt (ltE ds) ds.length).map λi=>ds.getD i .none;rw[yf]at h;exact h
def aa1(ds:Z U):(ub ds).length=ds.length:=(pw ds).length_eq
def Ht(ds:Z U):(ub ds).Pairwise λx y=>¬enc y<enc x:=by
 rw[gt];intro i j hi hj cJ;have pM:j<ds.length:=by rw[aa1]at hj;exact hj
 have u:=ash (awm ds) ds.length (gx cJ) pM;have vT:j<(srt (ltE ds) ds.length).length:=by rw[MV];exact pM
 have his:i<(srt (ltE ds) ds.length).length:=by lia
 rw[dz,dz,af vT,af his]at u;have u':=of_decide_eq_false u;have e:∀k (h:k<(ub ds).length) (h':k<(srt (ltE ds) ds.length).length),(ub ds)[k]=ds.getD (srt (ltE ds) ds.length)[k] .none:=λk h h'=>by simp[ub]
 rw[e j hj vT,e i hi his];exact u'
def CmpA(ds:Z U):Prop:=(∀x∈ds,∀y∈ds,Cmp x y)/\∀x∈ds,kd x=true
def CmpA.sub{ds es:Z U}(h:CmpA ds)(hs:∀x∈es,x∈ds):CmpA es:=⟨λx hx y hy=>h.1 x (hs x hx) y<|hs y hy,λx hx=>h.2 x<|hs x hx⟩
theorem Hb:∀{xs ys:Z U},xs.Perm ys->CmpA xs->xs.Pairwise (λx y=>¬enc y<enc x)->ys.Pairwise (λx y=>¬enc y<enc x)->xs=ys
 | [],ys,p,_,_,_=>(List.Perm.nil_eq p).symm▸rfl
 | x::xs,[],p,_,_,_=>absurd p.length_eq (by simp)
 | x::xs,y::ys,p,hc,hx,hy=>by
  have vJ:=gu.mp hx;have uB:=gu.mp hy;have m1:y∈x::xs:=p.mem_iff.mpr aq;have m2:x∈y::ys:=p.mem_iff.mp aq;have a1:¬enc y<enc x:=by
   rcases a6.mp m1 with e|m
   .rw[e];exact List.lt_irrefl _
   .exact vJ.1 y m
  have a2:¬enc x<enc y:=by
   rcases a6.mp m2 with e|m
   .rw[e];exact List.lt_irrefl _
   .exact uB.1 x m
  have e:x=y:=au0 (hc.1 x aq y m1) (hc.1 y m1 x aq) (hc.2 x aq) (hc.2 y m1) a2 a1;subst e;rw[Hb (List.Perm.cons_inv p) (hc.sub λz hz=>ar _ hz) vJ.2 uB.2]
def adf{xs ys:Z U}(p:xs.Perm ys)(hc:CmpA xs):ub xs=ub ys:=
 Hb ((pw xs).trans (p.trans (pw ys).symm)) (hc.sub λx hx=>(pw xs).mem_iff.mp hx) (Ht xs) (Ht ys)
def LtAt(A:Around)(s:aB)(u v:aA)(b:Bool):Prop:=∀(prog:aM)(w:aN)(E:aA->aB->Prop)(Q:aA->aB->Prop),Q (.bool b) s->aH (aI prog w) A (mC .Lt u v) Q E s
theorem LtAt.int{A:Around}{s:aB}(a:Int)(t:tU)(c:Int)(u:tU):LtAt A s (.int a t) (.int c u) (decide<|a<c):=λprog w E Q h=>
 (PyProof.Rows.lt_int h:aH (aI prog w) A (aY .Lt (.int a t)<|.int c u) Q E s)
theorem LtAt.str{A:Around}{s:aB}(a:Str)(t:tU)(c:Str)(u:tU):LtAt A s (.str a t) (.str c u) (sLt a c):=λprog w E Q h=>
 (PyProof.Rows.lt_str h:aH (aI prog w) A (aY .Lt (.str a t)<|.str c u) Q E s)
def Ew(A:Around)(s:aB):Z aA->Z aA->Z U->Z U->Prop
 | v::vs,w::ws,x::xs,y::ys=>SeqAt.EqAt A s v w (bn x y)/\LtAt A s v w (ltD x y)/\Ew A s vs ws xs ys
 | [],_,[],_=>True
 | _::_,[],_::_,[]=>True
 | _,_,_,_=>False
section
open PySem.SeqAt
open PySem.AutoSeq1 (wpAny_loadPart')
open PySem.MeetsSeq PySem.MeetsSeq2 PySem.MeetsSeq3
theorem aez(l b:aG)(items fT:Array aA)(n n2:Nat)(dd uL:Option aG)(sl wQ:Array (Option aA))(xs ys:Z U)(hi:items.toList.length=xs.length)(hj:fT.toList.length=ys.length) :
  Meets (Builtin.«tuple.__lt__» ⟨[.ref l,.ref b],[]⟩)
   (λA R s=>s.heap.get? l=some {cls:=.type "tuple",dict:=dd,data:=.seq items n,slots:=sl}/\s.heap.get? b=some {cls:=.type "tuple",dict:=uL,data:=.seq fT n2,slots:=wQ}/\
    Ew A.in1 s items.toList fT.toList xs ys/\R (.ok<|.ret<|.bool<|ltL xs ys) s):=
 .of_wp λprog w A R s h=>by
  obtain⟨hp,g,d,tk,os⟩:=s;obtain⟨hl,hb,hP,h⟩:=h;have f2:=AutoSeq1.sub_tuple_tuple;have z1:items.size=xs.length:=by rw[<-hi];simp
  have z2:fT.size=ys.length:=by rw[<-hj];simp
  wp_walk using wpAny_loadPart' hl,wpAny_loadPart' hb,k9 _ (λbA b s'=>b.1=none/\s'=⟨hp,g,d,tk,os⟩/\∃(vs ws:Z aA)(rQ qH:Z U),bA=vs.zip ws/\
   vs.length=rQ.length/\ws.length=qH.length/\Ew A.in1 ⟨hp,g,d,tk,os⟩ vs ws rQ qH/\rQ.length+fT.size=qH.length+items.size/\R (.ok<|.ret<|.bool<|ltL rQ qH) ⟨hp,g,d,tk,os⟩) _
  case turn=>
   rintro⟨y,x⟩ bA b s' ⟨eW,rfl,vs,ws,rQ,qH,hz,Fz,Fx,FG,bB,hR⟩;cases vs with
   | nil=>rw[List.zip_nil_left]at hz;cases hz
   | cons v vs=>
    cases ws with
    | nil=>rw[List.zip_nil_right]at hz;cases hz
    | cons w' ws=>
     cases rQ with
     | nil=>cases Fz
     | cons n' rQ=>
      cases qH with
      | nil=>cases Fx
      | cons m' qH=>
       rw[lw]at hz;injection hz with hyx sP
       injection hyx with hy hx
       subst hy hx;obtain⟨he,bN,Jl⟩:=FG;have FQ:R (.ok<|.ret<|.bool (if bn n' m'=true then ltL rQ qH else ltD n' m')) ⟨hp,g,d,tk,os⟩:=hR;simp only[bx]at bB Fz Fx;refine ab<|he prog w _ _ ?_;cases hq:bn n' m' with
       | true=>
        rw[hq,if_pos rfl]at FQ
        wp_walk
        exact⟨rfl,rfl,(ny _ _ _ _ ⟨sP,by lia,by lia,Jl,by lia,FQ⟩)⟩
       | false=>
        rw[hq,if_neg am]at FQ;have hri:=bN prog w
        wp_walk using hri
        exact⟨_,rfl,by simpa using FQ⟩
  case fin=>
   rintro⟨b1,b2⟩ s' ⟨eW,rfl,vs,ws,rQ,qH,hz,Fz,Fx,FG,bB,hR⟩;simp only at eW;subst eW;have hv:ltL rQ qH=decide (items.size<fT.size):=by
    cases rQ with
    | nil=>
     cases qH with
     | nil=>
      simp only[jl]at bB;show false=_;exact(decide_eq_false<|by lia).symm
     | cons c u=>
      simp only[jl,bx]at bB;show true=_;exact(decide_eq_true<|by lia).symm
    | cons a t=>
     cases qH with
     | nil=>
      simp only[jl,bx]at bB;show false=_;exact(decide_eq_false<|by lia).symm
     | cons c u=>
      cases vs with
      | nil=>cases Fz
      | cons v vs=>
       cases ws with
       | nil=>cases Fx
       | cons w' ws=>
        rw[lw]at hz;cases hz
   rw[hv]at hR
   wp_walk
   exact⟨_,rfl,by simpa [Builtin.Tuple.tupleCompareSizes]using hR⟩
  case h=>
   exact⟨rfl,rfl,(ny items.toList fT.toList xs ys ⟨rfl,hi,hj,hP,by lia,h⟩)⟩
end
mutual
theorem ad9:∀(x y:U),Cmp x y->∀(A:Around)(s:aB)(u v:aA)(as bs:Z aG),Reads s.heap u x as->Reads s.heap v y bs->x.canLay0=true->y.canLay0=true->
  A.units+kF x.depth y.depth<aV->LtAt A s u v (ltD x y)
 | .int a,.int b,_=>by intro A s u v as bs r1 r2 _ _ _;cases r1;cases r2;exact LtAt.int _ _ _ _
 | .str a,.str b,_=>by intro A s u v as bs r1 r2 _ _ _;cases r1;cases r2;exact LtAt.str _ _ _ _
 | .tuple xs,.tuple ys,hc=>by
  intro A s u v as bs r1 r2 h1 h2 hu;cases r1 with
  | @tuple a o vs n _ _ e1 e2 e3 z=>
   cases r2 with
   | @tuple a' o' yJ n' _ _ f1 f2 f3 z'=>
    obtain⟨cls,dd,data,sl⟩:=o;obtain⟨D4,uL,data2,wQ⟩:=o';simp only at e2 e3 f2 f3;subst e2 e3 f2 f3;intro prog w E Q hq;have hp:=vh xs ys hc A.in1 s _ _ _ _ z z' h1 h2<|SeqAt.room_in hu;exact richCompare_meets_room (op:=.Lt) ⟨_,e1,rfl⟩ ⟨_,f1,rfl⟩ PySem.F.slot_tuple_lt PySem.F.entry_tuple_lt (PySem.F.args_tuple_lt_2 _ _) (aez a a' vs yJ n n' dd uL sl wQ xs ys (ix _ _ _ z)<|ix _ _ _ z')
     ⟨e1,f1,hp,show aA.bool (ltL xs ys)≠aA.notImplemented/\Q (.bool<|ltL xs ys) s from ⟨(λx=>nomatch x),hq⟩⟩ (SeqAt.room_here hu)
theorem vh:∀(xs ys:Z U),mY xs ys->∀(A:Around)(s:aB)(vs ws:Z aA)(as bs:Z aG),ReadsAll s.heap vs xs as->ReadsAll s.heap ws ys bs->iu xs=true->iu ys=true->
  A.units+kF (bj xs) (bj ys)<aV->Ew A s vs ws xs ys
 | [],_,_=>by
  intro A s vs ws as bs r1 r2 _ _ _;cases r1;cases r2 with
  | nil=>exact True.intro
  | cons _ _=>exact True.intro
 | x::xs,[],_=>by intro A s vs ws as bs r1 r2 _ _ _;cases r1;cases r2;exact True.intro
 | x::xs,y::ys,hc=>by
  intro A s vs ws as bs r1 r2 h1 h2 hu;have eR:x.canLay0=true/\iu xs=true:=by simpa [iu]using h1
  have fQ:y.canLay0=true/\iu ys=true:=by simpa [iu]using h2
  cases r1 with
  | cons ra rb=>
   cases r2 with
   | cons rc rd=>
    exact⟨SeqAt.eqAt_reads x y A s _ _ _ _ ra rc eR.1 fQ.1<|SeqAt.room_head hu,ad9 x y (show Cmp x y/\mY xs ys from hc).1 A s _ _ _ _ ra rc eR.1 fQ.1 (SeqAt.room_head hu),
     vh xs ys (show Cmp x y/\mY xs ys from hc).2 A s _ _ _ _ rb rd eR.2 fQ.2 (SeqAt.room_tail hu)⟩
end
section
variable{prog:aM}{w:aN}{A:Around}{E:aA->aB->Prop}{s:aB}{Q:Bool->aB->Prop}
theorem Mv{b fin:Bool}:∀(xs ys:Z U)(vs ws:Z aA)(i:Nat),(b=false\/0<i)->vs.length=xs.length->ws.length=ys.length->Ew A s vs ws xs ys->fin=decide (xs.length<ys.length)->Q (ltL xs ys) s->
  PySem.W.KatLex prog w A b fin Q (vs.zip ws) i s
 | [],ys,vs,ws,i,hb,l1,l2,hp,hf,q=>by
  cases vs with
  | cons v vs=>cases l1
  | nil=>
   rw[List.zip_nil_left];refine PySem.W.kat_nil ?_;rw[hf];cases ys with
   | nil=>exact q
   | cons y ys=>exact q
 | x::xs,[],vs,ws,i,hb,l1,l2,hp,hf,q=>by
  cases ws with
  | cons v vs=>cases l2
  | nil=>
   rw[List.zip_nil_right];refine PySem.W.kat_nil ?_;rw[hf];exact q
 | x::xs,y::ys,vs,ws,i,hb,l1,l2,hp,hf,q=>by
  cases vs with
  | nil=>cases l1
  | cons v vs=>
   cases ws with
   | nil=>cases l2
   | cons w' ws=>
    rw[lw];obtain⟨he,bN,mJ⟩:=hp;have q':Q (if bn x y=true then ltL xs ys else ltD x y) s:=q;refine PySem.W.kat_cons<|he prog w _ _ ?_;cases hq:bn x y with
    | true=>
     rw[hq,if_pos rfl]at q';refine PySem.W.kat_yes<|Mv xs ys vs ws (i+1) (.inr<|Nat.succ_pos _) (by simpa using l1) (by simpa using l2) mJ ?_ q';rw[hf];simp
    | false=>
     rw[hq,if_neg am]at q';refine PySem.W.kat_no ?_;have eW:(b&&i==0)=false:=by
      rcases hb with h|h
      .rw[h];rfl
      .have:(i==0)=false:=by simp;lia
       rw[this];simp
     rw[eW];exact PySem.W.kat_one _ _<|bN prog w _ _ q'
theorem ats{u v:aA}{x y:U}{as bs:Z aG}(r1:Reads s.heap u x as)(r2:Reads s.heap v y bs)(hx:∃xs,x=.tuple xs)(hy:∃ys,y=.tuple ys)(l1:x.canLay0=true)(l2:y.canLay0=true)(hc:Cmp x y)
  (hu:A.units+kF x.depth y.depth<aV) (q:Q (ltD x y) s):aH (aI prog w) A (jT (kQ false) u v) Q E s:=by
 obtain⟨xs,rfl⟩:=hx;obtain⟨ys,rfl⟩:=hy;cases r1 with
 | @tuple a o vs n _ _ e1 e2 e3 z=>
  cases r2 with
  | @tuple a' o' yJ n' _ _ f1 f2 f3 z'=>
   have k1:=ix _ _ _ z;have k2:=ix _ _ _ z';refine PySem.W.kat_lt e1 e3 f1 f3<|Mv xs ys _ _ 0 (.inl rfl) k1 k2 (vh xs ys hc A s _ _ _ _ z z' l1 l2 ?_) ?_ q
   .have h1:(PyData.tuple xs).depth=bj xs+1:=rfl;have h2:(PyData.tuple ys).depth=bj ys+1:=rfl;rw[h1,h2]at hu;lia
   .rw[a9]at k1 k2;rw[k1,k2]
end
def TT(d:U):Prop:=∃r bA,d=.tuple (.tuple r::bA)
theorem Mu{h:Heap}:∀(os:Z aA)(ds:Z U),os.length=ds.length->(∀(i:Nat) v d,os[i]?=some v->ds[i]?=some d->TT d/\∃as,Reads h v d as)->
  ∃fs:Z aA,kn h os fs/\fs.length=os.length/\∀v∈fs,∃a o,v=.ref a/\h.get? a=some o/\o.cls=.type "tuple"
 | [],_,_,_=>⟨[],trivial,rfl,λv hv=>by cases hv⟩
 | v::os,[],hl,_=>by cases hl
 | v::os,d::ds,hl,hr=>by
  obtain⟨⟨r,bA,rfl⟩,as,rd⟩:=hr 0 v d rfl rfl;obtain⟨fs,k1,k2,k3⟩:=Mu os ds (by simpa using hl) λi v d h1 h2=>hr (i+1) v d (by simpa using h1) (by simpa using h2);cases rd with
  | @tuple a o vs n _ _ e1 e2 e3 z=>
   generalize hv:vs.toList=vl at z;cases z with
   | cons ra rb=>
    cases ra with
    | @tuple a' o' yJ n' _ _ f1 f2 f3 z'=>
     refine⟨.ref a'::fs,kn.cons e1 e2 e3 (by rw[<-bi,hv];rfl) k1,by rw[bx,bx,k2],λv hv=>?_⟩;rcases a6.mp hv with rfl|hv
     .exact(nc a' o' ⟨rfl,f1,f2⟩)
     .exact k3 v hv
def RL(R:aA->U->Prop):Z aA->Z U->Prop
 | [],[]=>True
 | v::vs,d::ds=>R v d/\RL R vs ds
 | _,_=>False
theorem RL.perm{R:aA->U->Prop}{os vs:Z aA}(p:os.Perm vs):∀{ds:Z U},RL R vs ds->∃bP,bP.Perm ds/\RL R os bP:=by
 induction p with
 | nil=>intro ds h;exact⟨ds,.refl _,h⟩
 | cons x p ih=>
  intro ds h;cases ds with
  | nil=>exact h.elim
  | cons d ds=>
   obtain⟨bP,p',h'⟩:=ih h.2;exact⟨d::bP,p'.cons d,h.1,h'⟩
 | swap x y l=>
  intro ds h
  match ds,h with
  | d1::d2::ds,h=>exact⟨d2::d1::ds,.swap _ _ _,h.2.1,h.1,h.2.2⟩
 | trans p1 p2 ih1 ih2=>
  intro ds h;obtain⟨d1,q1,h1⟩:=ih2 h;obtain⟨d2,q2,h2⟩:=ih1 h1;exact⟨d2,q2.trans q1,h2⟩
theorem RL.length{R:aA->U->Prop}:∀{vs:Z aA} {ds:Z U},RL R vs ds->vs.length=ds.length
 | [],[],_=>rfl
 | v::vs,d::ds,h=>by rw[bx,bx,RL.length h.2]
 | [],_::_,h=>h.elim
 | _::_,[],h=>h.elim
theorem RL.at{R:aA->U->Prop}:∀{vs:Z aA} {ds:Z U} {i:Nat} {v:aA} {d:U},RL R vs ds->vs[i]?=some v->ds[i]?=some d->R v d
 | v::vs,d::ds,0,_,_,h,h1,h2=>by cases h1;cases h2;exact h.1
 | v::vs,d::ds,i+1,_,_,h,h1,h2=>RL.at h.2 (by simpa using h1) (by simpa using h2)
 | [],_,_,_,_,_,h1,_=>by simp at h1
 | _::_,[],_,_,_,h,_,_=>h.elim
theorem RL.els{Pv:aA->U->Prop}{w:aN}{h:Heap}:∀{es:Z (Int×aA)} {ds:Z U},Els Pv w h es ds->RL (λv d=>∃k,El Pv w h (k,v) d) (es.map (·.2)) ds
 | [],ds,x=>by rw[aox x];exact True.intro
 | e::es,ds,x=>by obtain⟨d,cQ,rfl,h1,h2⟩:=ER x;exact⟨⟨e.1,h1⟩,RL.els h2⟩
def a3x(prog:aM)(w:aN)(K:aw):R2:=λx y H Q=>∃(p:aG)(k:Str)(o:Obj) (kvs:Z (Str×aA)) (v:Int) (t:tU),x=.ref p/\y=.str k/\K.lookup p=some o/\o.IsDictOf (strKind prog w) kvs/\fY kvs k=some (.int v t)/\Q (.int v) H
section
variable{X:Cx}{x:Str}{pos:dH}
def avv:IxR X (a3x X.prog X.w X.K):=by intro value fE aC s σ H x y v u Q I rx ry h hs;obtain⟨p,k,o,kvs,n,t,rfl,rfl,hk,hd,hv,q⟩:=h;cases rx;obtain⟨t',rfl⟩:=ry;have hm:s.heap.DictOf (strKind X.prog X.w) p kvs:=Heap.dictOf_iff.mpr ⟨o,I.kIn p o hk,hd⟩;exact tail_any hm.typeIs slot_dict_getitem.lookup (E9 (eT _ _ k t') hm.mapOf hv<|nc (.int n) H ⟨I.tok _,⟨t,rfl⟩,q⟩) hs
def ajw{a:aG}(h:X.mg x=some (.ref a))(hg:Gl X x)(hd:(x==("__debug__" : Str))=false:=by decide):PE X (.Name x pos) (tC<|.ref a):=LW hg h rfl hd
end
structure L8(prog:aM)(w:aN)(A:Around)(κ:aX)(lt:U->U->Bool)(ds:Z U):Prop where
 ord:wF lt ds
 kind:∀(s:aB)(os:Z aA)(bP:Z U),(∀d∈bP,d∈ds)->os.length=bP.length->2<=os.length->(∀(i:Nat)(v:aA)(d:U),os[i]?=some v->bP[i]?=some d->∃as,Reads s.heap v d as)->
  ∀(Q:aX->aB->Prop)(E:aA->aB->Prop),Q κ s->aH (aI prog w) A (kU os.toArray) Q E s
 key:∀(s:aB)(u v:aA)(d e:U)(as bs:Z aG),d∈ds->e∈ds->Reads s.heap u d as->Reads s.heap v e bs->d.canLay0=true->e.canLay0=true->∀(Q:Bool->aB->Prop),Q (lt d e) s->aH (aI prog w) A (jT κ u v) Q (λ_ _=>False) s
section
variable{X:Cx}{aC:Z (aG×Obj)}{σ:L2.St}{H:Hp}{s:aB}
def act(I:Inv X aC σ H s){Pv:aA->U->Prop}(hPv:∀v d,Pv v d->∃x,RelV x v/\Rep H d x){a:aG}{ds:Z U}(hc:X.calm=true)(hS:SetD Pv X.w s.heap a ds)(bB:ds.length<=4000){κ:aX}{lt:U->U->Bool}(sa:L8 X.prog X.w X.A.in1.in1 κ lt ds){Q:VK}
  (q:∀(es:Z U)(l:aG)(ys:Z V),es.Perm ds->es.Pairwise (λx y=>lt y x=false)->H l=none->RepAll (upd H l<|.lst ys) es ys->Q (.ref l) (upd H l<|.lst ys)) :
  aH (aI X.prog X.w) X.A (call (.builtin "sorted") [.ref a]) (EP X aC σ Q) X.xe s:=by
 obtain⟨o,es,ep,tb,ho,kK,jG,ok,few,els,nd,dE⟩:=hS;have hsz:es.size=ds.length:=by have:=els.1;rw[a9]at this;exact this
 refine ag6 (κ:=κ) (P:=λos bP=>os.Perm (es.toList.map (·.2))/\bP.Perm ds/\RL (λx d=>∃k,El Pv X.w s.heap (k,x) d) os bP) I ?_ (λQ' E' hq=>?_) sa.ord ?_ ?_ λl ys es h1 h2 h3 h4=>q es l ys h2 h3 h1 h4
 .rintro os bP ⟨_,pd,rl⟩;have:=pd.length_eq;have nG:=rl.length;refine⟨by rw[cD];lia,nG,pd,λi v d h1 h2=>?_⟩;obtain⟨k,el⟩:=rl.at h1 h2;exact hPv _ _ el.own
 .refine agj (A:=X.A.in1) (I.ok.hd hc) ho kK jG ok dE (by lia) λh1 os dr jD k1=>?_;obtain⟨bP,pd,rl⟩:=RL.perm jD<|RL.els els;exact hq os bP h1 s.toks dr ⟨jD,pd,rl⟩ k1
 .rintro os bP ⟨_,pd,rl⟩ h2 s' kp Q' E' hq;refine sa.kind s' os bP (λd hd=>pd.mem_iff.mp hd) rl.length h2 (λi v d h1 h2=>?_) Q' E' hq;obtain⟨k,el⟩:=rl.at h1 h2;obtain⟨bs,rd⟩:=el.reads;exact⟨bs,k5 kp rd⟩
 .rintro os bP ⟨_,pd,rl⟩ s' kp i j d e u v hi di hj dj Q' hq;obtain⟨k,el⟩:=rl.at hi di;obtain⟨k',el'⟩:=rl.at hj dj;obtain⟨bs,rd⟩:=el.reads;obtain⟨Bv,yR⟩:=el'.reads;exact sa.key s' u v d e bs Bv (pd.mem_iff.mp<|ai di) (pd.mem_iff.mp<|ai dj) (k5 kp rd) (k5 kp yR) el.lay el'.lay Q' hq
end
def Mj{ds:Z U}(h:CmpA ds):wF ltD ds:=⟨λx hx y hy q=>by
  rw[wb (h.1 x hx y hy)]at q;rw[wb (h.1 y hy x hx)];exact decide_eq_false<|List.lt_asymm<|of_decide_eq_true q,λx hx y hy z hz q1 q2=>by
  rw[wb (h.1 y hy x hx)]at q1;rw[wb (h.1 z hz y hy)]at q2;rw[wb (h.1 z hz x hx)];have h1:enc x<=enc y:=of_decide_eq_false q1;have h2:enc y<=enc z:=of_decide_eq_false q2;exact decide_eq_false<|List.le_trans h1 h2⟩
section
variable{X:Cx}
def af6(hu:X.A.units+64<aV):um X (.builtin "sorted") (λvs H Q=>∃p xs ds,vs=[.ref p]/\H p=some (.lst xs)/\RepAll H ds xs/\(∀d∈ds,tR d/\TT d)/\CmpA ds/\
  ∀l ys,H l=none->RepAll (upd H l<|.lst ys) (ub ds) ys->Q (.ref l) (upd H l<|.lst ys)):=by
 intro aC s σ H xs us Q I r h;obtain⟨p,xs,ds,rfl,hp,cS,cB,cK,q⟩:=h;obtain⟨u,rfl,r1⟩:=v9 r;cases (show u=aA.ref p from r1);obtain⟨its,rv,pl,hz⟩:=I.list<|SqL.of (K:=X.K) hp;have l1:xs.length=ds.length:=cS.length;have l2:xs.length=its.length:=rv.length;obtain⟨as,qG⟩:=RepAll.reads I cS rv;have jE:=cS.lay;refine acw (κ:=kQ false) (lt:=ltD) I hp cS rv pl.isList (by lia) (Mj cK) (λh2 s' k Q' E' hq=>?_) (λs' k i j d e u v di ui dj vj Q' hq=>?_) λl ys es hl pe ue re=>?_
 .obtain⟨fs,k1,k2,k3⟩:=Mu (h:=s'.heap) its ds (by lia) λi v d h1 h2=>by
   obtain⟨bs,rd⟩:=uf qG h1 h2;exact⟨(cB d<|ai h2).2,bs,k5 k rd⟩
  refine PySem.W.kat_kind (T:=aA.type "tuple") k1 (by lia) (λv hv=>?_) rfl hq;obtain⟨a,o,rfl,g1,g2⟩:=k3 v hv;rw[<-g2];exact(PySem.W.Looks.ld g1).andThen .now
 .obtain⟨bs,rd⟩:=uf qG ui di;obtain⟨Bv,yR⟩:=uf qG vj dj;have m1:=ai di;have m2:=ai dj;refine ats (k5 k rd) (k5 k yR) (cB _ m1).1.2.1 (cB _ m2).1.2.1 (xn jE _ m1) (xn jE _ m2) (cK.1 _ m1 _ m2) ?_ hq;have:=(cB _ m1).1.2.2;have:=jk d.depth e.depth;show X.A.units+1+1+_<_;lia
 .have ee:es=ub ds:=by
   refine Hb (pe.trans (pw ds).symm) (cK.sub λx hx=>pe.mem_iff.mp hx) (eu (λ{a b} ha hb gW=>?_) ue)<|Ht ds;rw[wb (cK.1 _ (pe.mem_iff.mp hb) _<|pe.mem_iff.mp ha)]at gW;exact of_decide_eq_false gW
  rw[ee]at re;exact q l ys hl re
end
def amo{prog:aM}{w:aN}{A B:Around}{ds:Z U}(hu:B.units+64<aV)(hB:A=B.in1.in1)(cB:∀d∈ds,tR d/\TT d)(cK:CmpA ds):L8 prog w A (kQ false) ltD ds where
 ord:=Mj cK
 kind:=λs os bP hs hl h2 r Q E q=>by
  obtain⟨fs,k1,k2,k3⟩:=Mu (h:=s.heap) os bP hl λi v d h1 h2=>by obtain⟨bs,rd⟩:=r i v d h1 h2;exact⟨(cB d<|hs d<|ai h2).2,bs,rd⟩
  refine PySem.W.kat_kind (T:=aA.type "tuple") k1 (by lia) (λv hv=>?_) rfl q;obtain⟨a,o,rfl,g1,g2⟩:=k3 v hv;rw[<-g2];exact(PySem.W.Looks.ld g1).andThen .now
 key:=λs u v d e as bs hd he r1 r2 l1 l2 Q q=>by refine ats r1 r2 (cB _ hd).1.2.1 (cB _ he).1.2.1 l1 l2 (cK.1 _ hd _ he) ?_ q;have:=(cB _ hd).1.2.2;have:=jk d.depth e.depth;subst hB;show B.units+1+1+_<_;lia
def arm:Z V->Hp->VK->Prop:=λvs H Q=>∃(p:aG)(xs:Z V)(ds:Z U),vs=[.ref p]/\H p=some (.lst xs)/\RepAll H ds xs/\(∀d∈ds,tR d/\TT d)/\CmpA ds/\ds.length<4000/\
 ∀(cQ:Z U)(l:aG)(ys:Z V),cQ.Nodup->(∀d,d∈cQ↔d∈ds)->H l=none->RepAll (upd H l<|.lst ys) (ub cQ) ys->Q (.ref l) (upd H l<|.lst ys)
section
variable{X:Cx}{p p2 pos nB:dH}{e:Expr}{t:TA}
def MU(hc:X.calm=true)(hu:X.A.units+64<aV)(hg:Gl X "sorted")(hm:X.mg "sorted" = none)(hg2:Gl X "set")(uE:X.mg "set" = none)(ha:PA X [e] t)(h1:o8 e=true:=by rfl) :
  PE X (.Call (.Name "sorted" p) [.Call (.Name "set" p2) [e] [] nB] [] pos) (tCB arm t):=by
 intro aC s σ H Q I h;refine jn (wq I hg hm k6 ?_ (by decide)<|by decide);refine PyProof.Rows.callWith_builtin1 ?_ (qa rfl) rfl;rw[qa rfl];show aH _ _ (Cn ((false,bQ (.Call (.Name "set" p2) [e] [] nB) X.env)::cY pos (aU [] X.env))) _ _ s;refine Calls.spliced_cons ?_;refine jn (wq I hg2 uE boot_set ?_ (by decide)<|by decide);refine gd (thn (ha nB aC s σ H _ I h) λus s1 ⟨vs,H1,I1,r1,q1⟩=>?_) (qa h1) rfl;obtain⟨pl,xs,ds,rfl,hp,cS,cB,cK,hb,q⟩:=q1;obtain⟨u,rfl,ru⟩:=v9 r1;cases (show u=aA.ref pl from ru);obtain⟨its,rv,il,hz⟩:=I1.list<|SqL.of (K:=X.K) hp;obtain⟨as,qG⟩:=RepAll.reads I1 cS rv;have jE:=cS.lay;have iA:xs.length=ds.length:=cS.length;have eV:xs.length=its.length:=rv.length;refine am8 (Pv:=λv d=>∃i:Nat,its[i]?=some v/\ds[i]?=some d) (ds:=ds) (I1.ok.hd hc) il.isList (by rw[bp];lia) (λi v d hv hd=>?_) (by lia) (by lia) λh' tk cQ hS eK bB hk ht=>?_
 .rw[List.getElem?_toArray]at hv;obtain⟨bs,rd⟩:=uf qG hv hd;have A3:=ai hd;exact⟨⟨i,hv,hd⟩,rfl,(cB d A3).1.1,(cB d A3).1.2.1,xn jE d A3,(cB d A3).1.2.2,bs,rd⟩
 .refine Calls.spliced_nil ?_;have I2:Inv X aC σ H1 {s1 with heap:=h',toks:=tk}:=I1.kept hk;obtain⟨_,_,_,_,_,_,_,_,_,_,nd,_⟩:=id hS;have sub:∀d∈cQ,d∈ds:=λd hd=>(eK d).mp hd;refine act I2 (λv d hg=>by
   obtain⟨i,g1,g2⟩:=hg;obtain⟨x,x1,x2⟩:=cS.get g2;obtain⟨u,u1,u2⟩:=rv.get x1;have:u=v:=by rw[u1]at g1;cases g1;rfl
   subst this;exact⟨x,u2,x2⟩) hc hS (by lia) (amo (B:=X.A) hu rfl (λd hd=>cB d<|sub d hd)<|cK.sub sub) λes l ys pe ue hl re=>?_
  have ee:es=ub cQ:=by refine Hb (pe.trans (pw cQ).symm) ((cK.sub sub).sub λx hx=>pe.mem_iff.mp hx) (eu (λ{a b} ha hb gW=>?_) ue)<|Ht cQ;rw[wb (cK.1 _ (sub _<|pe.mem_iff.mp hb) _<|sub _<|pe.mem_iff.mp ha)]at gW;exact of_decide_eq_false gW
  rw[ee]at re;exact q cQ l ys nd eK hl re
end
section
variable{X:Cx}
def xi(hu:X.A.units+64<aV):um X (.builtin "sorted") (λvs H Q=>∃p xs ds,vs=[.ref p]/\H p=some (.lst xs)/\RepAll H ds xs/\(∀d∈ds,tR d/\TT d)/\CmpA ds/\ds.length<64/\
  ∀l ys,H l=none->RepAll (upd H l<|.lst ys) (ub ds) ys->Q (.ref l) (upd H l<|.lst ys)):=by
 intro aC s σ H xs us Q I r h;obtain⟨p,xs,ds,rfl,hp,cS,cB,cK,jV,q⟩:=h;exact af6 hu aC s σ H _ us Q I r<|oa p xs ds ⟨rfl,hp,cS,cB,cK,q⟩
def a32:Z V->Hp->VK->Prop:=λxs H Q=>∃(p:aG)(bs:Z Bool),xs=[.ref p]/\H p=some (.lst<|bs.map V.bl)/\Q (.bl<|bs.any id) H
def apd:∀(bs:Z Bool),((cj bs.length).any λi=>(bs[i]?).getD true)=bs.any id:=λbs=>by
 rw[ji,List.any_eq_true,List.any_eq_true];constructor
 .rintro⟨i,hi,h⟩;have fM:i<bs.length:=by simpa using hi
  exact⟨bs[i],fj fM,by simpa [fM]using h⟩
 .rintro⟨b,hb,h⟩;obtain⟨i,hi,rfl⟩:=List.mem_iff_getElem.mp hb;exact⟨i,by simpa using hi,by simpa [hi]using h⟩
def aps(hc:X.calm=true):um X (.builtin "any") a32:=by
 intro aC s σ H xs us Q I r h;obtain⟨p,bs,rfl,hp,q⟩:=h;obtain⟨u,rfl,r1⟩:=v9 r;cases (show u=aA.ref p from r1);obtain⟨its,rv,pl,hz⟩:=I.list<|SqL.of (K:=X.K) hp;have bN:p<s.heap.objs.size:=by obtain⟨_,_,e,_⟩:=pl;exact bb e
 have bB:its.length=bs.length:=by rw[<-rv.length,ae]
 refine call_any_walk<|kj pl.isList ?_;refine⟨s.heap.objs.size,[s.heap.objs.size,p],[s.heap.objs.size],its.toArray.size,_,_,λi=>(bs[i]?).getD true,rfl,gN.list (A:=X.A.in1) (I.ok.hd hc) _ p (cf bN) its.toArray,
  ⟨⟨_,a7 _ rfl,rfl,rfl⟩,pl.isList.push _⟩,λi v s' Q' E' hP hQ=>?_,λh' tk hk=>?_⟩
 .have hi:its[i]?=some v:=by simpa using hP
  have mK:i<bs.length:=by rw[<-bB];exact(ak.mp hi).1
  obtain⟨u',e1,e2⟩:=rv.get (i:=i) (x:=.bl bs[i]) (by rw[ax,af mK];rfl);rw[hi]at e1;cases e1;cases (show v=aA.bool bs[i]from e2);have DL:Q' ((bs[i]?).getD true) s':=hQ;rw[af mK]at DL;exact gc DL
 .refine(nc (.bl _) H ⟨I.kept λb o e=>hk b o (λhm=>?_)<|aj _ e,rfl,?_⟩)
  .rw[ay.mp hm]at e;exact ij _<|bb e
  .rw[bp,bB,apd];exact q
def ajn:MtR X "str.lower" (λx vs H Q=>∃c:Nat,x=.str ⟨#[c]⟩/\vs=[]/\c<128/\Q (.str ⟨#[lo1 c]⟩) H):=by
 intro aC s σ H x vs v us Q I rx rv h;obtain⟨c,rfl,rfl,hc,q⟩:=h;obtain⟨t,rfl⟩:=rx;have IU:=rv.zero;subst IU;refine SC.lower (fit_lower<|by show 1<=5592405;lia)<|nc (.str _) H ⟨I.tok _,⟨_,rfl⟩,?_⟩
 rw[lower_ascii (λd hd=>by have e:d=c:=by simpa using hd
                           lia)]
 simpa using q
end
end L3
namespace HT
open PySem PyProof.Rows
section
variable{prog:aM}{w:aN}{A:Around}{E:aA->aB->Prop}{s:aB}
def getItem_tuple_all{t sl:aG}{items:Array aA}{vl vu:aA}{lo hi:Option Int}{Q:aA->aB->Prop}(ht:lB s.heap t items)(hs:s.heap.IsSliceOf sl vl vu .none)(pl:iG vl lo)(pu:iG vu hi)
  (hw:sIx items.size 0 lo=0/\sIx items.size items.size hi=items.size) (h:Q (.ref t) s):aH (aI prog w) A (eQ (.ref t)<|.ref sl) Q E s:=by
 obtain⟨os,oH,lF,cS⟩:=id hs;have Kh:s.TypeIs (.ref sl) "slice":=⟨os,oH,lF⟩;unfold eQ;try with_reducible refine ff ?_
 first|refine ab (ah ?_)|skip
 refine ab<|Cd ht.typeIs (by decide) ?_;refine ab (cu (name:=bm "__getitem__") ht.typeIs g9
  (dv g9 ht.typeIs Al ?_<|BF _ _))
 show aH _ _ (Builtin.Tuple.tupleItemsOf (.ref t) >>= _) _ _ s;refine ab<|tupleItemsOf_ ht ?_;refine ab<|jj Kh ?_;rw[if_pos (by decide)];refine ab<|wp hs pl pu ?_;have IS:(((sIx items.size 0 lo:Nat):Int)==0&&(1:Int)==1&&(sIx items.size items.size hi-sIx items.size 0 lo)==items.size)=true:=by rw[hw.1,hw.2];simp
 show aH _ _ (if (((sIx items.size 0 lo:Nat):Int)==0&&(1:Int)==1&&(sIx items.size items.size hi-sIx items.size 0 lo)==items.size)=true then _ else _) _ _ s;rw[if_pos IS];refine ab (m:=Builtin.Tuple.tupleIsExact _) ?_;unfold Builtin.Tuple.tupleIsExact;refine ab<|jj ht.typeIs<|ah ?_;rw[if_pos (by decide)];exact ab<|jm<|ah ⟨_,rfl,ah h⟩
end
end HT
namespace L3
open PySem PySem.Spec PyProof.Rows L2
section
variable{X:Cx}
def a2m(K:aw):V->Option Int->Option Int->Hp->VK->Prop:=λx lo hi H Q=>∃a xs,x=.ref a/\SqT K H a xs/\
 ((HT.sIx xs.length 0 lo=0/\HT.sIx xs.length xs.length hi=xs.length)->Q (.ref a) H)/\(¬(HT.sIx xs.length 0 lo=0/\HT.sIx xs.length xs.length hi=xs.length)->∀p,H p=none->Q (.ref p) (upd H p<|.tup<|lH xs lo hi))
def avj:SlR X (a2m X.K):=by
 intro aC s σ H x v vl vu lo hi sl Q I rx hs pl pu h;obtain⟨a,xs,rfl,hx,q1,q2⟩:=h;by_cases hw:HT.sIx xs.length 0 lo=0/\HT.sIx xs.length xs.length hi=xs.length
 .cases rx;obtain⟨its,r,ht,hz⟩:=I.tuple hx;have bB:its.toArray.size=xs.length:=by rw[bp];exact r.length.symm
  refine(nc ("tuple") _ ⟨g9.lookup,ht.typeIs,?_⟩);exact HT.getItem_tuple_all ht hs pl pu (by rw[bB];exact hw)<|nc (.ref a) H ⟨I,rfl,q1 hw⟩
 .exact ax5 aC s σ H _ v vl vu lo hi sl Q I rx hs pl pu<|nc a xs ⟨rfl,hx,hw,q2 hw⟩
end
def CMulW(i j:Int):Prop:=(-(2^128)<i/\i<2^128)/\(-(2^128)<j/\j<2^128)
def aoo{k:Int}{n:Nat}(h1:-(2^n)<k)(h2:k<2^n):Builtin.Int.intBits k<=n:=by
 have hk:k.natAbs<2^n:=by
  have e:((2^n:Nat):Int)=(2:Int)^n:=by simp
  omega
 unfold Builtin.Int.intBits;split
 .exact fk _
 .rename_i h0
  have:k≠0:=λe=>h0 (by rw[e];rfl);exact(Nat.log2_lt<|by omega).mpr hk
def CMulW.ok{i j:Int}(h:CMulW i j):IntMulOk i j:=by
 have b1:=aoo h.1.1 h.1.2;have b2:=aoo h.2.1 h.2.2;unfold IntMulOk;intro hh;rw[dw]at hh;have h3:=hh.2;unfold Builtin.Int.intTooBig at h3;have h4:=of_decide_eq_true h3;have h5:(256:Nat)<=bitsLine:=by decide
 omega
section
variable{X:Cx}
def avq:OpR X (dP .Mult) (rI CMulW λi j=>.int<|i*j):=opI λ_ _ _ _ _ _ _ hc q=>mul_int q hc.ok
end
end L3
namespace L3
open PySem PyProof.Rows L2
def a1g{P:Z aA->Prop}(h:P []):∀us:Z aA,us.length=0->P us:=λus e=>by cases us with|nil=>exact h|cons a t=>cases e
def GC{P:Z aA->Prop}{n:Nat}(h:∀a (t:Z aA),t.length=n->P (a::t)):∀us:Z aA,us.length=n+1->P us:=λus e=>by cases us with|nil=>cases e|cons a t=>exact h a t<|Nat.succ.inj e
def aya{P:Z aA->Prop}(h:∀a,P [a]):∀us:Z aA,us.length=1->P us:=GC (n:=0) λa=>a1g (P:=λt=>P (a::t))<|h a
def axv{P:Z aA->Prop}(h:∀a b,P [a,b]):∀us:Z aA,us.length=2->P us:=GC (n:=1) λa=>aya (P:=λt=>P (a::t))<|h a
def azy{P:Z aA->Prop}(h:∀a b c,P [a,b,c]):∀us:Z aA,us.length=3->P us:=GC (n:=2) λa=>axv (P:=λt=>P (a::t))<|h a
def a05{P:Z aA->Prop}(h:∀a b c d,P [a,b,c,d]):∀us:Z aA,us.length=4->P us:=GC (n:=3) λa=>azy (P:=λt=>P (a::t))<|h a
def Df(K:aw)(n:Str)(st:aZ):Prop:=∃f fd,cr K aP n=some (some<|.ref f)/\Fun K n n st f fd
def df_mk{K:aw}{n:Str}{st:aZ}{f:aG}{oc:aA}{od an:Option aG}{sl:Array (Option aA)}{kV dc pm cd ct:aA}(a:cr K aP n=some (some<|.ref f))
  (l:K.lookup f=some ⟨oc,od,.func<|ma n n (ym st) (wj st) (m9 st) .none kV dc pm an cd ct,sl⟩) (c:PySem.W.codeIn K cd n=true) (k:lm K (.ref f)=true):Df K n st:=(nc f _ ⟨a,ay7 l c k⟩)
def DfX(P:aM)(w:aN)(K:aw)(mg:Str->Option aA)(base h:Heap):Prop:=P=P/\w=w/\base=base/\K.In h/\h.Ns aP mg
theorem Df.fx{P:aM}{w:aN}{K:aw}{h base:Heap}{mg:Str->Option aA}{n:Str}{st:aZ}{d:Nat}{ps:Z Str}{sp:Sp}(D:Df K n st)(Y:DfX P w K mg base h)(ok:∀{f fd},Fun K n n st f fd->rn P w K mg base CX0 d f fd ps sp)
  (b:∀(kV jX pm:aA)(an:Option aG)(fR ct:aA)(us:Z aA),us.length=ps.length->bindArgs (ma n n (ym st) (wj st) (m9 st) .none kV jX pm an fR ct) ⟨us,[]⟩=aS (ps.zip us):=by
   intro _ _ _ _ _ _;first
   | exact aya (λ_=>rfl)
   | exact axv (λ_ _=>rfl)
   | exact azy (λ_ _ _=>rfl)
   | exact a05 λ_ _ _ _=>rfl):Fn P w K mg base n d ps sp:=by
 obtain⟨f,fd,a,F⟩:=D;exact(nc f fd ⟨ok F,jh Y.2.2.2.1 Y.2.2.2.2 a,F.kp,F.binds b⟩)
end L3
namespace L3
open PySem PySem.Spec PyProof.Rows L2
noncomputable def Jel(K:aw)(a:aG):It:=
 ⟨λi H=>∃xs x,SqL K H a xs/\xs[i]?=some x,λi H v H'=>∃p x,H p=none/\v=.ref p/\H'=upd H p (.tup [.int i,x])/\∀xs,SqL K H a xs->xs[i]?=some x,λi H=>∃xs,SqL K H a xs/\xs.length<=i⟩
def ak3{P:aM}{w:aN}{K:aw}{eL:Z Expr}{x1}{pos:dH}(a e I:aG)(gD:e≠I) :
  uO P w K (.Tuple eL x1 pos) (Jel K a) [e,I] e (λi h=>(∃jB,eG h e I i jB)/\h.IsListIter I a i):=by
 refine MI (Jel K a) e I gD (λi h=>h.IsListIter I a i) (λi h st=>?_) (λi h h' st k=>?_) (λX hP hw hK i aC s σ H Iv st hg=>?_) λX hP hw hK i aC s σ H Iv st hg A' R E' hh q=>?_
 .obtain⟨o,ho,c,d⟩:=st;exact⟨o,ho,λv z=>by rw[d]at z;cases z⟩
 .obtain⟨o,ho,r⟩:=st;exact⟨o,k o ho,r⟩
 .subst hP hw hK;obtain⟨xs,x,hq,hx⟩:=hg;obtain⟨its,rv,p,hz⟩:=Iv.list hq;obtain⟨u,hu,ru⟩:=rv.get hx;refine⟨λu'=>u'=u,λu' pD=>?_,λA' R E' q=>?_⟩
  .subst pD;exact⟨x,ru,s.heap.objs.size,x,Iv.hok.fresh<|ao _,rfl,rfl,λys hy=>by rw[Iv.list_inj hy hq];exact hx⟩
  .exact wpAny_nextOf_list_item st p.isList (x:=u) (by simpa using hu) λg aR sb=>q u g s.toks rfl aR sb
 .subst hP hw hK;obtain⟨xs,hq,hx⟩:=hg;obtain⟨its,rv,p,hz⟩:=Iv.list hq;have hl:=rv.length;exact wpAny_nextOf_list_end hh st p.isList (by simp;lia) q
section
variable{X:Cx}{eL:Z Expr}{x1:Nat}{iJ p pos:dH}{a:Expr}{ta:TA}
def a20(K:aw)(ta:TA):TI:=λσ H R=>ta σ H λvs H1=>∃a,vs=[.ref a]/\(∃xs,SqL K H1 a xs)/\R (Jel K a) H1
def ayt(hg:Gl X "enumerate")(hm:X.mg "enumerate" = none)(ha:PA X [a] ta)(hs:o8 a=true:=by rfl):PI X (.Tuple eL x1 iJ) (.Call (.Name "enumerate" p) [a] [] pos) (a20 X.K ta):=by
 intro aC s σ H R I h;refine Call_<|wq I hg hm oT<|gd (thn (ha pos aC s σ H _ I h) λus s1 ⟨vs,H1,I1,r1,q1⟩=>?_) (qa hs) rfl;obtain⟨b,e,⟨xs,hq⟩,q⟩:=q1;subst e;obtain⟨u,rfl,ru⟩:=v9 r1;cases (show u=aA.ref b from ru);obtain⟨its,rv,pl,hz⟩:=I1.list hq;refine call_enumerate_list (l:=b) pl.isList λg he hi _ kp=>fD (s:={s1 with heap:=g}) he ?_;refine⟨s1.heap.objs.size+1,[s1.heap.objs.size+1,s1.heap.objs.size],_,_,H1,rfl,I1.kept (t':=s1.toks) kp,ak3 b (s1.heap.objs.size+1) s1.heap.objs.size<|Nat.succ_ne_self _,⟨⟨_,he⟩,hi⟩,λc hc=>?_,q⟩;rcases a6.mp hc with z|z
 .subst z;exact I1.fpOk (by lia)<|I1.hok.fresh<|by lia
 .rw[ay.mp z];exact I1.fpOk (ao _)<|I1.hok.fresh<|ao _
end
def aow{K:aw}{a:aG}{xs:Z V}{g:TG}{tb:TS}{D:kZ}{σ:L2.St}{H:Hp}(Pv:Nat->L2.St->Hp->Prop)(h0:Pv 0 σ H)(hl:∀i σ H,Pv i σ H->SqL K H a xs)
  (hs:∀i x p σ H,xs[i]?=some x->H p=none->Pv i σ H->g (.ref p) σ (upd H p<|.tup [.int (i:Nat),x]) λσ2 H2=>tb {D with nx:=Pv<|i+1,ct:=Pv<|i+1,bk:=D.nx} σ2 H2) (hd:∀σ H,Pv xs.length σ H->D.nx σ H) :
  ∃W:Nat->Nat->L2.St->Hp->Prop,(∃m,W 0 m σ H)/\∀i m σ H,W i m σ H->
   ((Jel K a).stop i H/\D.nx σ H)\/((Jel K a).go i H/\∃N:L2.St->Hp->Prop,(∀σ' H',N σ' H'->∃m',m'<m/\W (i+1) m' σ' H')/\∀v H',(Jel K a).yld i H v H'->g v σ H' λσ2 H2=>tb {D with nx:=N,ct:=N,bk:=D.nx} σ2 H2):=by
 refine Mi (Jel K a) xs.length Pv h0 (λi σ H hi p=>⟨xs,xs[i],hl i σ H p,by simp[hi]⟩) (λσ H p=>⟨xs,hl _ σ H p,ao _⟩) (λi v σ H H' hi p y=>?_) hd;obtain⟨b,x,hb,rfl,rfl,hx⟩:=y;exact hs i x b σ H (hx xs<|hl i σ H p) hb p
end L3
namespace L3
open PySem PyProof.Rows L2
def EQ{s1 s2:TS}{D:kZ}{σ:L2.St}{H:Hp}(h:∀D':kZ,(∀σ' G',s2 D σ' G'->D'.nx σ' G')->D'.rt=D.rt->s1 D' σ H):Gp s1 s2 D σ H:=h {D with nx:=s2 D} (λ_ _ z=>z) rfl
def alw{i:Nat}{v:V}{s1 s2:TS}{D:kZ}{σ:L2.St}{H:Hp}(h:∀D':kZ,(∀σ' G',s2 D σ' G'->D'.nx σ' G')->D'.rt=D.rt->s1 D' (σ.set i<|some v) H):uy i v σ H λσ2 H2=>Gp s1 s2 D σ2 H2:=h {D with nx:=s2 D} (λ_ _ z=>z) rfl
def GR{σ:L2.St}{H:Hp}{Q:Option Int->Hp->Prop}(h:Q none H):aor σ H Q:=h
def aqm{s1 s2:TS}{D:kZ}{σ:L2.St}{H:Hp}(R:L2.St->Hp->Prop)(h:∀σ' G',R σ' G'->s2 D σ' G')(h1:∀D':kZ,(∀σ' G',R σ' G'->D'.nx σ' G')->D'.rt=D.rt->s1 D' σ H):Gp s1 s2 D σ H:=h1 {D with nx:=s2 D} h rfl
end L3
namespace L3
open PySem
mutual
noncomputable def drw:U->Nat
 | .tuple ds=>wz ds+1
 | .int _=>1
 | .str _=>1
 | .none=>1
 | .bool _=>1
 | .list _=>1
 | .dict _=>1
noncomputable def wz:Z U->Nat
 | []=>0
 | d::ds=>drw d+wz ds
end
theorem wm(d:U):∀l:Z U,wz (l++[d])=wz l+drw d
 | []=>by show drw d+0=0+drw d;lia
 | e::l=>by show drw e+wz (l++[d])=drw e+wz l+drw d;rw[wm d l];lia
theorem xf(w:aN)(d:U):∀l:Z U,rm w (l++[d])=rm w l++[zq w d]
 | []=>rfl
 | y::l=>by show zq w y::rm w (l++[d])=_;rw[xf w d l];rfl
def Gq(d:U):Prop:=∀(prog:aM)(w:aN)(A:Around)(E:aA->aB->Prop)(s:aB)(v:aA)(as:Z aG)(Q:Int->aB->Prop),Reads s.heap v d as->A.units+d.depth<aV->Q (zq w d) {s with toks:=s.toks+drw d}->aH (aI prog w) A (pyHash v) Q E s
theorem ah3{ds:Z U}(H:∀d∈ds,Gq d):Gq (.tuple ds):=λprog w A E s v as Q r hu h=>by
 cases r with
 | @tuple a o vs n _ _ ho hc hd hi=>
 have hT:s.TypeIs (.ref a) "tuple":=⟨o,ho,hc⟩;have pD:A.units+(bj ds+1)<aV:=hu;unfold pyHash;first|unfold Ix|skip
 first|refine ab (Cf (.inr (show A.units<aV by lia)) ?_)|skip
 refine ab<|jy (name:="__hash__") hT je.lookup ?_;show aH _ _ (if (some (aA.builtin "tuple.__hash__")==some aA.none)=true then _ else _) _ _ _;rw[if_neg (show ¬_ by rw[Gb];exact am)];refine ab<|jy (name:="__hash__") hT je.lookup ?_;show aH _ _ (mP (.ref a) "__hash__" _ >>= _) _ _ _;refine ab<|gO (name:="__hash__") hT je<|dv (name:="__hash__") je hT F.entry_tuple_hash ?_<|F.args_tuple_hash_1 _;show aH _ _ (Builtin.Tuple.tupleItemsOf (.ref a) >>= _) _ _ _;refine ab<|AF (n:=n) ho hd ?_;refine ab ?_;rw[<-Array.forIn_toList];refine k9 _
  (λbA (b:Array Int) s'=>∃done left bs,ds=done++left/\ReadsAll s.heap bA left bs/\b.toList=rm w done/\s'={s with toks:=s.toks+wz done})
  _ (λx bA b s' hI=>?_) (λb s' hI=>?_) _ _ ⟨[],ds,as,rfl,hi,rfl,rfl⟩
 .obtain⟨done,left,bs,e,hl,hb,rfl⟩:=hI;cases hl with
  | @cons _ _ d cQ _ _ h1 pJ=>
   have eK:d∈ds:=by rw[e];simp
   have vV:=Hg d eK;refine ab<|H d eK prog w _ E {s with toks:=s.toks+wz done} x _ _ h1 (by show A.units+1+d.depth<aV;lia) ?_;have ht:s.toks+wz done+drw d=s.toks+wz (done++[d]):=by rw[wm];lia
   first
    | exact ah ⟨done++[d],cQ,_,by simp[e],pJ,by simp[hb,xf],by simp[wm,Nat.add_assoc]⟩
    | exact ab<|ah<|ah ⟨done++[d],cQ,_,by simp[e],pJ,by simp[hb,xf],by simp[wm,Nat.add_assoc]⟩
 .obtain⟨done,left,bs,e,hl,hb,rfl⟩:=hI;cases hl;rw[df]at e;subst e;show aH _ _ (retInt<|f7 b.toList) _ _ _;rw[hb];refine HY ?_;show aH _ _ (if (decide (-(2:Int)^63<=f7 (rm w ds))&&decide (f7 (rm w ds)<2^63))=true then _ else _) _ _ _;have h':Q (jR<|f7<|rm w ds) {s with toks:=s.toks+(wz ds+1)}:=h;unfold jR at h';split
  .rename_i hr
   rw[if_pos hr]at h';exact ah<|by simpa [Nat.add_assoc]using h'
  .rename_i hr
   rw[if_neg hr]at h';exact ab<|jm<|ah<|by simpa [Nat.add_assoc]using h'
mutual
theorem acb:∀(d:U),kd d=true->Gq d
 | .int i,_=>λprog w A E s v as Q r hu h=>by
  cases r with
  | int=>exact lK h
 | .str x,_=>λprog w A E s v as Q r hu h=>by
  cases r with
  | str=>exact lJ h
 | .tuple ds,hk=>ah3 (ye ds hk)
 | .none,hk=>absurd hk am
 | .bool _,hk=>absurd hk am
 | .list _,hk=>absurd hk am
 | .dict _,hk=>absurd hk am
theorem ye:∀(ds:Z U),u9 ds=true->∀d∈ds,Gq d
 | [],_,d,hd=>by cases hd
 | e::ds,hk,d,hd=>by
  have cP:(kd e&&u9 ds)=true:=hk;rw[dw]at cP;rcases a6.mp hd with h|hd
  .rw[h];exact acb e cP.1
  .exact ye ds cP.2 d hd
end
structure a3f(h:Heap)(d:U)(a:aG):Prop where
 key:kd d=true
 lay:d.canLay0=true
 deep:d.depth<8
 reads:∃as,Reads h (.ref a) d as
mutual
theorem adl{h h':Heap}{d:aG}{o:Obj}{es:Array dF}{ep:Nat}(ho:h.get? d=some o)(hd:o.data=.dict es ep)(hs:b9 d h h'):∀{v:aA} {x:U} {as:Z aG},kd x=true->Reads h v x as->Reads h' v x as
 | _,_,_,_,.none=>.none
 | _,_,_,_,.bool b=>.bool b
 | _,_,_,_,.int i t=>.int i t
 | _,_,_,_,.str x t=>.str x t
 | _,_,_,hk,.list _ _ _ _=>absurd hk am
 | _,_,_,hk,.tuple (a:=a) h1 h2 h3 h4=>by
  have gD:a≠d:=by intro e;subst e;rw[ho]at h1;cases h1;rw[hd]at h3;exact nomatch h3
  exact .tuple ((hs.2 a gD).trans h1) h2 h3 (zp ho hd hs hk h4)
 | _,_,_,hk,.dict _ _ _ _ _=>absurd hk am
theorem zp{h h':Heap}{d:aG}{o:Obj}{es:Array dF}{ep:Nat}(ho:h.get? d=some o)(hd:o.data=.dict es ep)(hs:b9 d h h'):∀{vs:Z aA} {xs:Z U} {as:Z aG},u9 xs=true->ReadsAll h vs xs as->ReadsAll h' vs xs as
 | _,_,_,_,.nil=>.nil
 | _::_,y::ys,_,hk,.cons h1 h2=>by have cP:(kd y&&u9 ys)=true:=hk;rw[dw]at cP;exact .cons (adl ho hd hs cP.1 h1)<|zp ho hd hs cP.2 h2
end
noncomputable instance decD:DecidableEq U:=λa b=>Classical.propDecidable<|a=b
noncomputable def ox(prog:aM)(w:aN):HeapKind prog w U where
 is:=a3f
 hash:=zq w
 draws:=drw
 room:=λA=>A.units+8<aV
 inj:=λ{h a x y} hx hy=>by obtain⟨as,r⟩:=hx.reads;obtain⟨bs,r'⟩:=hy.reads;exact SeqAt.Reads.unique _ _ _ _ _ hx.lay r r'
 keeps:=λ{h h' k a d o es ep} hx ho hd hs=>by obtain⟨as,r⟩:=hx.reads;exact⟨hx.key,hx.lay,hx.deep,as,adl ho hd hs hx.key r⟩
 pyHash:=λ{A E s k a Q} hu hx h=>by obtain⟨as,r⟩:=hx.reads;exact acb k hx.key prog w A E s _ as Q r (by have:=hx.deep;lia) h
 eqBool:=λ{A E s x y a b Q} hu hx hy h=>by
  obtain⟨as,r⟩:=hx.reads;obtain⟨bs,r'⟩:=hy.reads;refine SeqAt.eqBoolOverData prog w A E s _ _ x y as bs Q r r' hx.lay hy.lay (by have:=hx.deep;have:=jk x.depth y.depth;lia) ?_;have e:bn x y=decide (x=y):=by
   by_cases z:x=y
   .rw[decide_eq_true z,<-z];exact kc _ hx.lay
   .rw[decide_eq_false z];cases q:bn x y with
    | false=>rfl
    | true=>exact absurd (BW x y hx.key hy.key q) z
  rw[e];exact h
 quiet:=λ{A E s k a Q} hx h=>by obtain⟨as,r⟩:=hx.reads;exact yy 8 hx.key r hx.deep h
end L3
namespace L3
open PySem PySem.Spec PyProof.Rows L2
def DE(h:Heap)(d:aG)(es:Array dF)(ep:Nat):Prop:=∃o,h.get? d=some o/\o.ExactDict/\o.data=.dict es ep
def DE.ty{s:aB}{d:aG}{es:Array dF}{ep:Nat}(x:DE s.heap d es ep):s.TypeIs (.ref d) "dict":=by obtain⟨o,h1,h2,_⟩:=x;exact⟨o,h1,h2.1⟩
def DE.on{h h':Heap}{d:aG}{es:Array dF}{ep:Nat}(x:DE h d es ep)(k:∀o,h.get? d=some o->h'.get? d=some o):DE h' d es ep:=by obtain⟨o,h1,h2⟩:=x;exact⟨o,k o h1,h2⟩
section
variable{prog:aM}{w:aN}{A:Around}{E:aA->aB->Prop}{s:aB}{d it:aG}{es:Array dF}{ep i:Nat}
def a1t{Q:aA->aB->Prop}(lo:(d==bE)=false)(hm:DE s.heap d es ep)(q:Q (.ref s.heap.objs.size) {s with heap:=s.heap.push {cls:=.type "dict_keyiterator",data:=.fields #[.ref d,.int 0 0,.int es.size 0,.int ep 0]}}):aH (aI prog w) A (lL<|.ref d) Q E s:=by
 have T:=hm.ty;obtain⟨o,ho,_,jG⟩:=id hm;refine Ce T F.slot_dict_iter<|dv F.slot_dict_iter T F.entry_dict_iter (ab<|ab<|uX T ?_)<|F.args_dict_iter_1 _;refine(ah ?_:aH _ _ (aS<|aA.ref d) _ _ s);have sh:Builtin.Dict.showsAll d=aS ():=by unfold Builtin.Dict.showsAll;rw[if_neg (by rw[lo];simp)]
 refine(?_:aH _ _ (Builtin.Dict.showsAll d >>= _) _ _ s);rw[sh];refine ab<|ah<|ab<|kO ho jG<|ab<|mU ho jG<|ab<|ck<|ah<|oq _ rfl "dict_keyiterator" _ ⟨⟨_,a7 _ rfl,rfl⟩,jw.lookup,?_⟩;simpa [cW]using q
def apc:Builtin.Dict_items.ownsTuple "dict_keyiterator" = false:=by decide
def a2j{Q:Option aA->aB->Prop}(iC:s.heap.IsKeyIter it d i es.size ep)(hm:DE s.heap d es ep){e:dF}(hx:es[i]?=some e)
  (q:∀h',h'.IsKeyIter it d (i+1) es.size ep->b9 it s.heap h'->Q (some e.key) {s with heap:=h'}):aH (aI prog w) A (bC<|.ref it) Q E s:=by
 have T:=iC.typeIs;obtain⟨o,ho,hc,hd⟩:=id iC;obtain⟨od,C7,_,uI⟩:=id hm;unfold bC;refine ab<|jv<|cu (name:="__next__") T jw<|dv jw T F.entry_dict_keyiterator_next (ab<|ah<|ab<|ab<|?_)<|F.args_dict_keyiterator_next_1 _;refine ab<|lg T<|ah<|ab<|dI ho hd ?_;rw[if_neg (by rw[apc];simp)];refine(?_:aH _ _ (if (aA.ref d==aA.none)=true then _ else _) _ _ s);rw[if_neg (by intro z;cases z)];refine ab<|ah<|ab<|kO C7 uI ?_;rw[if_neg (by simp)];refine ab<|ah<|ab<|mU C7 uI ?_;rw[if_neg (by simp)];refine ah ?_;have nn:¬((i:Int)<0):=by lia
 simp only[nn,if_false,da,hx];refine ab<|ab<|lg T<|ah<|ab<|vA T ?_;refine(ab (iz ho hd (by simp) ?_):aH _ _ (wR (.ref it) 1 (cW<|(i:Int)+1) >>= _) _ _ s);have Ds:(s.heap.update it<|Obj.mapFields (·.setIfInBounds 1 (cW<|(i:Int)+1))).IsKeyIter it d (i+1) es.size ep:=
  ⟨_,ci _ ho<|Obj.isFreed_of_fields<|l0 hd _,by rw[Obj.cls_mapFields];exact hc,by rw[l0 hd];simp[cW]⟩
 refine ab<|ff<|ab<|vA (s:={s with heap:=_}) Ds.typeIs ?_;refine(?_:aH _ _ (aS e.key) _ _ _);refine ah<|ah ⟨_,rfl,?_⟩;exact ah<|q _ Ds<|e8 ..
def a3e{Q:Option aA->aB->Prop}(hh:A.handled=none)(iC:s.heap.IsKeyIter it d es.size es.size ep)(hm:DE s.heap d es ep)
  (q:∀h',kz it s.heap h'->Q none {s with heap:=h'}):aH (aI prog w) A (bC<|.ref it) Q E s:=by
 have T:=iC.typeIs;obtain⟨o,ho,hc,hd⟩:=id iC;obtain⟨od,C7,_,uI⟩:=id hm;unfold bC;refine ab<|jv<|cu (name:="__next__") T jw<|dv jw T F.entry_dict_keyiterator_next (ab<|ah<|ab<|ab<|?_)<|F.args_dict_keyiterator_next_1 _;refine ab<|lg T<|ah<|ab<|dI ho hd ?_;rw[if_neg (by rw[apc];simp)];refine(?_:aH _ _ (if (aA.ref d==aA.none)=true then _ else _) _ _ s);rw[if_neg (by intro z;cases z)];refine ab<|ah<|ab<|kO C7 uI ?_;rw[if_neg (by simp)];refine ab<|ah<|ab<|mU C7 uI ?_;rw[if_neg (by simp)];refine ah ?_;have nn:¬((es.size:Int)<0):=by lia
 have no:es[es.size]?=none:=lv<|ao _;simp only[nn,if_false,da,no];refine ab<|ab<|lg T<|ah ?_;refine(ab (iz ho hd (by simp) ?_):aH _ _ (wR (.ref it) 0 .none >>= _) _ _ s);refine(ab ?_:aH _ _ (jS (.type "StopIteration") [] >>= _) _ _ _);unfold jS kS;refine ab (ck (ab<|j8 (a:=aA.none) rfl<|ck ?_<|by size_fits)<|by size_fits);unfold kR;refine ab<|iX ?_;rw[show A.in1.handled=none from hh];refine ab<|ah<|lW<|ab ?_;refine k7 (T:="StopIteration") (b:=true) (⟨_,a7 _ rfl,rfl⟩) hJ ?_;exact ah<|q _<|((e8 ..).extBut.push _).push _
def a3r(lo:(d==bE)=false):PySem.W.KdlSrc prog w "dict" d d es.size (λi v=>∃e,es[i]?=some e/\v=e.key) (λh=>DE h d es ep)where
 type:=λ_ hm=>hm.ty
 there:=λ_ ⟨_,h1,_⟩=>⟨bb h1,bb h1⟩
 keep:=λ_ _ hm k=>hm.on (k d<|.inl rfl)
 notList:=by decide
 notTuple:=by decide
 hint:=λ_ _ _ _ hm q=>PySem.W.kdl_hint_dict hm.ty q
 iter:=λA s hh hm=>by
  refine⟨_,λi h=>h.IsKeyIter s.heap.objs.size d i es.size ep/\DE h d es ep,λ_ _ q=>a1t lo hm q,?_,⟨_,a7 _ rfl,rfl,rfl⟩,hm.on λo e=>aj _ e⟩;have gD:d≠s.heap.objs.size:=by obtain⟨_,h1,_⟩:=hm;exact cf<|bb h1
  exact{
   sub:=λb hb=>by rw[ay.mp hb];exact aq
   frame:=λ_ _ _ st hk=>⟨st.1.at λo e=>hk _ aq o e,st.2.on λo e=>hk d (ar _ aq) o e⟩
   item:=λi s' Q E hi st q=>by refine a2j st.1 st.2 (b8 hi) λh' k sb=>?_;exact q _ h' s'.toks ⟨_,b8 hi,rfl⟩ ⟨k,st.2.on λo e=>sb.extBut d o gD e⟩ λb o hb e=>sb.extBut b o (λz=>hb<|by rw[z];exact aq) e
   done:=λs' Q E st q=>a3e hh st.1 st.2 λh' eb=>q h' s'.toks λb o hb e=>eb b o (λz=>hb<|by rw[z];exact aq) e
   self:=λ_ _ _ _ st q=>wpAny_pyIter_keyiter st.1 q}
end
noncomputable def kD:Key->U
 | .inl i=>.int i
 | .inr z=>.str z
noncomputable def kT(k:Z Key):U:=.tuple<|k.map kD
def KOk(k:Z Key):Prop:=∀x∈k,∀z,x=Sum.inr z->PyData.strOk z=true
theorem Mq{H:Hp}:∀{k:Z Key},KOk k->RepAll H (k.map kD) (k.map kV)
 | [],_=>rfl
 | .inl i::k,h=>⟨_,_,rfl,rfl,Mq λx hx=>h x<|ar _ hx⟩
 | .inr z::k,h=>⟨_,_,rfl,⟨rfl,h _ aq z rfl⟩,Mq λx hx=>h x<|ar _ hx⟩
noncomputable abbrev KA:=U×aG×V
noncomputable abbrev KAR:Z KA->Z (U×aG×aA)->Prop:=cH λp q=>p.1=q.1/\p.2.1=q.2.1/\RelV p.2.2 q.2.2
noncomputable def DNo(w:aN)(a:aG)(xs:Z KA)(ep:Nat):HO:=.ext λh=>∃ys,KAR xs ys/\∃o es,h.get? a=some o/\o.ExactDict/\o.data=.dict es ep/\
 es.toList=ys.map (λy:U×aG×aA=>(⟨zq w y.1,.ref y.2.1,y.2.2⟩:dF))/\(ys.map (·.1)).Nodup
structure KRep(H:Hp)(d:U)(b:aG):Prop where
 key:kd d=true
 deep:d.depth<8
 rep:Rep H d (.ref b)
structure DN(w:aN)(H:Hp)(a:aG)(xs:Z KA)(ep:Nat):Prop where
 obj:H a=some (DNo w a xs ep)
 keys:∀x∈xs,KRep H x.1 x.2.1
 len:xs.length<=aF
 sys:(a==bE)=false
mutual
theorem ate:∀{d:U},kd d=true->imm d=true
 | .int _,_=>rfl
 | .str _,_=>rfl
 | .tuple ds,h=>ahb (ds:=ds) h
 | .none,_=>rfl
 | .bool _,_=>rfl
 | .list _,h=>absurd h am
 | .dict _,h=>absurd h am
theorem ahb:∀{ds:Z U},u9 ds=true->rf ds=true
 | [],_=>rfl
 | d::ds,h=>by have h':(kd d&&u9 ds)=true:=h;rw[dw]at h';show(imm d&&rf ds)=true;rw[ate h'.1,ahb h'.2];rfl
end
theorem KRep.tk{H H':Hp}{d:U}{b:aG}(x:KRep H d b)(t:Tk H H'):KRep H' d b:=⟨x.key,x.deep,x.rep.tk t<|ate x.key⟩
section
variable{X:Cx}{aC:Z (aG×Obj)}{σ:L2.St}{H:Hp}{s:aB}{a b:aG}{xs:Z KA}{d:U}{v:V}{u r:aA}{ep:Nat}{A:Around}{E:aA->aB->Prop}
def KRep.at(x:KRep H d b)(I:Inv X aC σ H s):(ox X.prog X.w).is s.heap d b:=by obtain⟨as,q⟩:=Rep.reads I (u:=.ref b) x.rep rfl;exact⟨x.key,x.rep.lay,x.deep,as,q⟩
noncomputable def nN(xs:Z KA)(d:U):Option V:=(xs.find? λx=>decide<|x.1=d).map (·.2.2)
noncomputable def wH(xs:Z KA)(d:U)(b:aG)(v:V):Z KA:=
 if (nN xs d).isSome then xs.map λx=>if x.1=d then(x.1,x.2.1,v)else x else xs++[(d,b,v)]
theorem KAR.val{xs:Z KA}{ys:Z (U×aG×aA)}(r:KAR xs ys)(d:U):RelO (nN xs d) ((eM ys d).map (·.2)):=by
 induction r with
 | nil=>exact True.intro
 | @cons p q ps qs h t ih=>
  obtain⟨h1,_,h2⟩:=h;by_cases e:p.1=d
  .have e':q.1=d:=h1.symm.trans e;have c:eM (q::qs) d=some q.2:=by simp[eM,ii,e']
   have c':nN (p::ps) d=some p.2.2:=by simp[nN,ii,e]
   rw[c',c];exact h2
  .have e':¬q.1=d:=λz=>e<|h1.trans z;have c:eM (q::qs) d=eM qs d:=by simp[eM,ii,e']
   have c':nN (p::ps) d=nN ps d:=by simp[nN,ii,e]
   rw[c',c];exact ih
theorem KAR.repl{xs:Z KA}{ys:Z (U×aG×aA)}(r:KAR xs ys)(d:U){y:V}{u:aA}(ry:RelV y u) :
  KAR (xs.map λx=>if x.1=d then(x.1,x.2.1,y)else x) (ys.map<|putAt d u):=by
 induction r with
 | nil=>exact .nil
 | @cons p q ps qs h t ih=>
  rw[cm,cm];refine .cons ?_ ih;obtain⟨h1,h2,h3⟩:=h;unfold putAt;by_cases e:p.1=d
  .rw[if_pos e,if_pos<|h1.symm.trans e];exact⟨h1,h2,ry⟩
  .rw[if_neg e,if_neg λz=>e<|h1.trans z];exact⟨h1,h2,h3⟩
def KAR.put{xs:Z KA}{ys:Z (U×aG×aA)}(r:KAR xs ys)(d:U){b:aG}{y:V}{u:aA}(ry:RelV y u) :
  KAR (wH xs d b y) (eO ys d b u):=by
 have e:(nN xs d).isSome=(eM ys d).isSome:=by rw[(r.val d).isSome_eq,Option.isSome_map]
 unfold wH eO;rw[e];by_cases q:(eM ys d).isSome=true
 .rw[if_pos q,if_pos q];exact r.repl d ry
 .rw[if_neg q,if_neg q];exact cH.snoc r ⟨rfl,rfl,ry⟩
theorem DN.at(D:DN X.w H a xs ep)(I:Inv X aC σ H s):∃ys,KAR xs ys/\s.heap.DictOfH (ox X.prog X.w) a ys:=by
 obtain⟨⟨ys,r,o,es,h1,h2,h3,h4,h5⟩,_⟩:=(show ObjOk X.prog X.w H s.heap a (DNo X.w a xs ep)from I.hok a _ D.obj);refine⟨ys,r,o,es,ep,h1,h2,h3,h4,?_,h5⟩;have all:∀{l:Z KA} {m:Z (U×aG×aA)},KAR l m->(∀x∈l,KRep H x.1 x.2.1)->∀y∈m,(ox X.prog X.w).is s.heap y.1 y.2.1:=by
  intro l m q;induction q with
  | nil=>intro _ y hy;exact nomatch hy
  | @cons p q ps qs hq t ih=>
   intro hk y hy;rcases a6.mp hy with e|hy
   .subst e;have:=(hk p aq).at I;rw[hq.1,hq.2.1]at this;exact this
   .exact ih (λx hx=>hk x<|ar _ hx) y hy
 exact all r D.keys
def DN.ext{w:aN}{P:aM}{H':Hp}{h':Heap}{ys:Z (U×aG×aA)}(r:KAR xs ys)(dd:h'.DictOfH (ox P w) a ys):∃ep,ObjOk P w H' h' a (DNo w a xs ep):=by obtain⟨o,es,ep,h1,h2,h3,h4,_,h5⟩:=dd;refine⟨ep,⟨ys,r,o,es,h1,h2,h3,h4,h5⟩,⟨o,h1⟩,λg1 g2 q k=>?_⟩;obtain⟨zs,r',o',qP,k1,k2⟩:=q;exact⟨zs,r',o',qP,k o' k1,k2⟩
theorem DN.tk{w:aN}{H':Hp}(D:DN w H a xs ep)(t:Tk H H')(e:H' a=some (DNo w a xs ep)):DN w H' a xs ep:=⟨e,λx hx=>(D.keys x hx).tk t,D.len,D.sys⟩
def DN.same{w:aN}{H':Hp}(D:DN w H a xs ep)(t:Same H H'):DN w H' a xs ep:=D.tk (Tk.of_same t)<|t _ _ D.obj
def amw{Q:aA->aB->Prop}(hu:A.units+9<aV)(I:Inv X aC σ H s)(D:DN X.w H a xs ep)(k:KRep H d b)(l:nN xs d=some v)(h:∀w' s',Inv X aC σ H s'->RelV v w'->Q w' s') :
  aH (aI X.prog X.w) A (eQ (.ref a)<|.ref b) Q E s:=by
 obtain⟨ys,iU,dd⟩:=D.at I;obtain⟨w',hw,lZ⟩:=RelO.some_of (v:=v) (o:=(eM ys d).map (·.2)) (by rw[<-l];exact iU.val d);obtain⟨p,hp,uC⟩:=ca.mp hw;refine AH (knd:=ox X.prog X.w) (show A.units+1+8<aV by lia) (k.at I) dd hp ?_;rw[uC];exact h w' _ (I.tok _) lZ
def apt{xs:Z KA}{d:U}{b:aG}{v:V}{x:KA}(h:x∈wH xs d b v):(∃y∈xs,y.1=x.1/\y.2.1=x.2.1)\/(x.1=d/\x.2.1=b):=by
 unfold wH at h;split at h
 .obtain⟨y,hy,e⟩:=au.mp h;refine .inl ⟨y,hy,?_⟩;subst e;split<;>exact⟨rfl,rfl⟩
 .rcases bw.mp h with h|h
  .exact .inl ⟨x,h,rfl,rfl⟩
  .rw[ay.mp h];exact .inr ⟨rfl,rfl⟩
end
end L3
namespace L3
open PySem PySem.Spec PyProof.Rows L2
def DN.ty{X:Cx}{aC:Z (aG×Obj)}{σ:L2.St}{H:Hp}{s:aB}{a:aG}{xs:Z KA}{ep:Nat}(D:DN X.w H a xs ep)(I:Inv X aC σ H s) :
  s.TypeIs (.ref a) "dict"/\(∀b,aA.ref a=.ref b->∃ob,s.heap.get? b=some ob/\ob.dict=none):=by
 obtain⟨ys,_,dd⟩:=D.at I;refine⟨dd.typeIs,λb q=>?_⟩;cases q;obtain⟨ob,_,_,h1,h2,_⟩:=dd;exact⟨ob,h1,h2.2.1⟩
def ayz(w:aN)(td ty:TE):TE:=λσ H Q=>td σ H λx H1=>ty σ H1 λy H2=>∃a xs ep d b v,x=.ref a/\y=.ref b/\DN w H2 a xs ep/\KRep H2 d b/\nN xs d=some v/\Q v H2
section
variable{X:Cx}{o i e f value:Expr}{pos oZ iJ fN fB:dH}{td ty tv tx:TE}
def auv(hu:X.A.units+9<aV)(ho:PE X o td)(hi:PE X i ty)(hs:Gm i):PE X (.Subscript o i pos) (ayz X.w td ty):=by intro aC s σ H Q I h;refine ao0 PySem.F.slot_dict_getitem.lookup hs<|thn (ho aC s σ H _ I h) λu s1 ⟨x,H1,I1,rx,q1⟩=>thn (hi aC s1 σ H1 _ I1 q1) λiv s2 ⟨y,H2,I2,ry,a,xs,ep,d,b,v,ex,ey,D,k,l,q2⟩=>?_;subst ex ey;obtain rfl:u=aA.ref a:=rx;obtain rfl:iv=aA.ref b:=ry;exact⟨(D.ty I2).1,amw hu I2 D k l λw' s3 I3 lZ=>⟨v,H2,I3,lZ,q2⟩⟩
end
section
variable{X:Cx}{N:Z Str}{scope:cG}{z:CZ}{e d:Expr}{f:Str}{pos:dH}{ta td ty:TE}
def ar3(hu:X.A.units+9<aV)(ho:PE (ot X N scope z) e td)(hi:PE (ot X N scope z) d ty)(hs:Gm d):PE (ot X N scope z) (.Subscript e d pos) (ayz X.w td ty):=auv (X:=ot X N scope z) hu ho hi hs
end
end L3
namespace L3
open PySem PyProof.Rows L2
structure Hz(D:kZ)(u:TS)(D':kZ):Prop where
 nx:∀σ G,u D σ G->D'.nx σ G
 rt:∀v G,D.rt v G->D'.rt v G
 bk:∀σ G,D.bk σ G->D'.bk σ G
 ct:∀σ G,D.ct σ G->D'.ct σ G
def a16(t u:TS):TS:=λD σ H=>∀D',Hz D u D'->t D' σ H
def a2p(t:TS):TS:=λD σ H=>∀D',Hz D ax7 D'->t D' σ H
def nv{X:Cx}{st:aZ}{ss:Z aZ}{t u:TS}(h1:PS X st t)(h2:PSs X ss u):PSs X (st::ss) (a16 t u):=λaC s σ H D I h=>qj h1 h2 aC s σ H D I<|h _ ⟨λ_ _ z=>z,λ_ _ z=>z,λ_ _ z=>z,λ_ _ z=>z⟩
def nw{X:Cx}{st:aZ}{t:TS}(h1:PS X st t):PSs X [st] (a2p t):=λaC s σ H D I h=>rj h1 aC s σ H D I<|h D ⟨λ_ _ z=>z,λ_ _ z=>z,λ_ _ z=>z,λ_ _ z=>z⟩
class KOf (X:Cx) (K:outParam aw):Prop where
 eq:X.K=K
instance{CX:CXT}{P:aM}{w:aN}{K:aw}{mg:Str->Option aA}{base:Heap}{N:Z Str}{q:Str}{sc:cG}{f:aG}{cd:aA}{A:Around}{o:Z oX}{s:aB}{H:Hp}{E:XK}:KOf (xX CX P w K mg base N q sc f cd A o s H E) K:=⟨rfl⟩
instance{X:Cx}{K:aw}{E:aA->aB->Prop}[h:KOf X K]:KOf (X.wish E) K:=⟨h.eq⟩
instance{X:Cx}{K:aw}{N:Z Str}{sc:cG}{z:CZ}[h:KOf X K]:KOf (ot X N sc z) K:=⟨h.eq⟩
section
variable{X:Cx}{K:aw}[h:KOf X K]
def nr:IxR X (Ed K):=h.eq▸wo
def oh:IxR X (Nd K):=h.eq▸EI
def oy{tg l:Expr}{tl:TE}(hl:PE X l tl):PI X tg l (BS K tl):=h.eq▸B0 hl
def vc{tg l:Expr}{tl:TE}(hl:PE X l tl):PI X tg l (a24 K tl):=h.eq▸LH hl
def pf{es:Z Expr}{k:Nat}{pos:dH}{t:TGs}{n:Nat}(hc:X.calm=true)(h2:PGs X es t)(hn:(cF es X.env).length=n:=by rfl)(dY:(cF es X.env).findIdx? (·.1)=none:=by rfl):PG X (.Tuple es k pos) (Ap K n t):=h.eq▸Eo hc h2 hn dY
end
end L3
namespace L3
open PySem PySem.Spec PyProof.Rows L2
noncomputable def cl(d:U):Int×Int:=(ul d,uq d)
def SgD(d:U):Prop:=∃(r c:Int)(k:Nat),d=.tuple [.int r,.int c,.str ⟨#[k]⟩]/\65<=k/\k<=90
structure Pre(ds:Z U):Prop where
 sg:∀d∈ds,SgD d
 pos:0<ds.length
 six:ds.length<=6
 nd:(ds.map cl).Nodup
structure Zr(ds:Z U):Prop where
 pre:Pre ds
 r0:ut (ds.map ul)=0
 c0:ut (ds.map uq)=0
def Pre.spots{ds:Z U}(h:Pre ds):Spots ds:=λd hd=>by obtain⟨r,c,k,e,_⟩:=h.sg d hd;exact(oa r c _ e)
theorem Pre.map{ds:Z U}(h:Pre ds){f:U->U}{g:Int×Int->Int×Int}(hf:∀d,SgD d->SgD (f d)/\cl (f d)=g (cl d))(hi:∀a b,g a=g b->a=b):Pre (ds.map f):=by
 have e:(ds.map f).map cl=(ds.map cl).map g:=by rw[bf,bf];exact dg λd hd=>(hf d<|h.sg d hd).2
 refine⟨λd hd=>?_,by rw[ae];exact h.pos,by rw[ae];exact h.six,?_⟩
 .obtain⟨x,hx,rfl⟩:=au.mp hd;exact(hf x<|h.sg x hx).1
 .rw[e];exact List.Pairwise.map g (λa b gW z=>gW<|hi a b z) h.nd
def Pre.perm{ds es:Z U}(h:Pre ds)(p:es.Perm ds):Pre es:=
 ⟨λd hd=>h.sg d<|p.mem_iff.mp hd,by rw[p.length_eq];exact h.pos,by rw[p.length_eq];exact h.six,(p.map cl).nodup_iff.mpr h.nd⟩
def HA{ns ms:Z Int}(p:ns.Perm ms)(h:0<ns.length):ut ns=ut ms:=
 yn (p.mem_iff.mp<|wf h) λa ha=>yp a<|p.mem_iff.mpr ha
theorem Zr.perm{ds es:Z U}(h:Zr ds)(p:es.Perm ds):Zr es:=by have hp:=h.pre.perm p;exact⟨hp,(HA (p.map ul)<|by rw[ae];exact hp.pos).trans h.r0,(HA (p.map uq)<|by rw[ae];exact hp.pos).trans h.c0⟩
def LV{d:U}(m:Int)(h:SgD d):SgD (Aq m d)/\cl (Aq m d)=((cl d).1,m-(cl d).2):=by obtain⟨r,c,k,rfl,h1,h2⟩:=h;exact⟨(oa r (m-c) k ⟨rfl,h1,h2⟩),rfl⟩
def L9{d:U}(m:Int)(h:SgD d):SgD (xW m d)/\cl (xW m d)=((cl d).2,m-(cl d).1):=by obtain⟨r,c,k,rfl,h1,h2⟩:=h;exact⟨(oa c (m-r) k ⟨rfl,h1,h2⟩),rfl⟩
def MM{d:U}(a b:Int)(h:SgD d):SgD (yD a b d)/\cl (yD a b d)=((cl d).1-a,(cl d).2-b):=by obtain⟨r,c,k,rfl,h1,h2⟩:=h;exact⟨(oa (r-a) (c-b) k ⟨rfl,h1,h2⟩),rfl⟩
def Ly(d:U):ul d=(cl d).1:=rfl
def LI(d:U):uq d=(cl d).2:=rfl
def ajz{ns:Z Int}(h:0<ns.length):ut (ns.map λx=>wt ns-x)=0:=by
 refine(yn ?_ λa ha=>?_).symm
 .exact au.mpr ⟨wt ns,zg h,by lia⟩
 .obtain⟨x,hx,rfl⟩:=au.mp ha;have:=EL x hx;lia
def aok{ns:Z Int}(h:0<ns.length):ut (ns.map λx=>x-ut ns)=0:=by
 refine(yn ?_ λa ha=>?_).symm
 .exact au.mpr ⟨ut ns,wf h,by lia⟩
 .obtain⟨x,hx,rfl⟩:=au.mp ha;have:=yp x hx;lia
def Zr.mir{ds:Z U}(h:Zr ds):Zr (kL ds):=by
 have hp:Pre (kL ds):=h.pre.map (g:=λa=>(a.1,wt (ds.map uq)-a.2)) (λd hd=>LV _ hd) (λa b e=>by
  injection e with e1 e2
  exact Prod.ext e1<|by lia)
 refine⟨hp,?_,?_⟩
 .rw[show(kL ds).map ul=ds.map ul by
   unfold kL;rw[bf];exact dg λd hd=>by rw[Function.comp,Ly,(LV _<|h.pre.sg d hd).2];rfl]
  exact h.r0
 .rw[show(kL ds).map uq=(ds.map uq).map λx=>wt (ds.map uq)-x by
   unfold kL;rw[bf,bf];exact dg λd hd=>by rw[Function.comp,LI,(LV _<|h.pre.sg d hd).2];rfl]
  exact ajz<|by rw[ae];exact h.pre.pos
def Zr.tur{ds:Z U}(h:Zr ds):Zr (kY ds):=by
 have hp:Pre (kY ds):=h.pre.map (g:=λa=>(a.2,wt (ds.map ul)-a.1)) (λd hd=>L9 _ hd) (λa b e=>by
  injection e with e1 e2
  exact Prod.ext (by lia) e1)
 refine⟨hp,?_,?_⟩
 .rw[show(kY ds).map ul=ds.map uq by
   unfold kY;rw[bf];exact dg λd hd=>by rw[Function.comp,Ly,(L9 _<|h.pre.sg d hd).2];rfl]
  exact h.c0
 .rw[show(kY ds).map uq=(ds.map ul).map λx=>wt (ds.map ul)-x by
   unfold kY;rw[bf,bf];exact dg λd hd=>by rw[Function.comp,LI,(L9 _<|h.pre.sg d hd).2];rfl]
  exact ajz<|by rw[ae];exact h.pre.pos
def Zr.shift{ds:Z U}(h:Pre ds):Zr (oj ds):=by
 have hp:Pre (oj ds):=h.map (g:=λa=>(a.1-ut (ds.map ul),a.2-ut (ds.map uq))) (λd hd=>MM _ _ hd) (λa b e=>by
  injection e with e1 e2
  exact Prod.ext (by lia)<|by lia)
 refine⟨hp,?_,?_⟩
 .rw[show(oj ds).map ul=(ds.map ul).map λx=>x-ut (ds.map ul) by
   unfold oj;rw[bf,bf];exact dg λd hd=>by rw[Function.comp,Ly,(MM _ _<|h.sg d hd).2];rfl]
  exact aok<|by rw[ae];exact h.pos
 .rw[show(oj ds).map uq=(ds.map uq).map λx=>x-ut (ds.map uq) by
   unfold oj;rw[bf,bf];exact dg λd hd=>by rw[Function.comp,LI,(MM _ _<|h.sg d hd).2];rfl]
  exact aok<|by rw[ae];exact h.pos
noncomputable def yA(i:Nat)(ds:Z U):Z U:=(cj i).foldl (λa _=>kY a) ds
def adq(i:Nat)(ds:Z U):yA (i+1) ds=kY (yA i ds):=by unfold yA;rw[g0,kq];rfl
theorem Zr.iter{ds:Z U}(h:Zr ds):∀i,Zr (yA i ds)
 | 0=>h
 | i+1=>by rw[adq];exact(h.iter i).tur
def Zr.turned{ds:Z U}(h:Zr ds)(t:Nat):Zr (sj t ds):=by
 show Zr (yA (t % 4) (if 4<=t then kL ds else ds));refine Zr.iter ?_ _;split
 .exact h.mir
 .exact h
noncomputable def xk(es:Z U)(t:Nat):U:=.tuple<|sy<|sj t es
noncomputable def tj(es:Z U)(n:Nat):Z U:=(cj n).map (xk es)
def mem_forms{es:Z U}{n:Nat}{d:U}:d∈tj es n↔∃t,t<n/\xk es t=d:=by simp[tj]
def a0z{d:U}(h:SgD d):kd d=true:=by obtain⟨r,c,k,rfl,_⟩:=h;rfl
theorem GM:∀{ds:Z U},(∀d∈ds,SgD d)->u9 ds=true
 | [],_=>rfl
 | d::ds,h=>by show(kd d&&u9 ds)=true;rw[a0z (h d aq),GM λe he=>h e<|ar _ he];rfl
def ay0{d e:U}(h:SgD d)(h':SgD e):Cmp d e:=by obtain⟨r,c,k,rfl,_⟩:=h;obtain⟨r',c',k',rfl,_⟩:=h';exact⟨True.intro,True.intro,True.intro,True.intro⟩
theorem Hj:∀{ds es:Z U},(∀d∈ds,SgD d)->(∀d∈es,SgD d)->mY ds es
 | [],_,_,_=>by unfold mY;exact True.intro
 | d::ds,[],_,_=>by unfold mY;exact True.intro
 | d::ds,e::es,h,h'=>⟨ay0 (h d aq)<|h' e aq,Hj (λx hx=>h x<|ar _ hx) λx hx=>h' x<|ar _ hx⟩
theorem v0{ds:Z U}(h:Spots ds):bj ds<=2:=by
 induction ds with
 | nil=>simp[bj]
 | cons d t ih=>
  obtain⟨r,c,x,rfl⟩:=h d (by simp);have:=ih λe he=>h e (by simp[he]);simp[bj,gk];lia
def wg{es:Z U}(h:Zr es)(t:Nat):Zr (sy<|sj t es):=(h.turned t).perm (oz _)
def ak1{es:Z U}(h:Zr es)(t:Nat):(xk es t).depth<=3:=by have:=v0 (wg h t).pre.spots;unfold xk;simp[gk];lia
theorem ajf{es:Z U}(h:Zr es)(t:Nat):tR (xk es t)/\TT (xk es t):=by
 have hd:=ak1 h t;refine⟨⟨GM (wg h t).pre.sg,⟨_,rfl⟩,by lia⟩,?_⟩;have hp:=(wg h t).pre.pos;have hs:=(wg h t).pre.sg;unfold xk;cases e:sy (sj t es)with
 | nil=>rw[e]at hp;exact absurd hp (by simp)
 | cons d ds=>
  rw[e]at hs;obtain⟨r,c,k,rfl,_⟩:=hs d aq;exact(nc _ _ rfl)
def agp{es ds:Z U}(h:Zr es)(hm:∀d∈ds,∃t,xk es t=d):∀d∈ds,tR d/\TT d:=λd hd=>by obtain⟨t,rfl⟩:=hm d hd;exact ajf h t
def MG{es ds:Z U}(h:Zr es)(hm:∀d∈ds,∃t,xk es t=d):CmpA ds:=
 ⟨λx hx y hy=>by
  obtain⟨t,rfl⟩:=hm x hx;obtain⟨t',rfl⟩:=hm y hy;exact Hj (wg h t).pre.sg (wg h t').pre.sg,λx hx=>by
  obtain⟨t,rfl⟩:=hm x hx;exact(ajf h t).1.1⟩
def asa{es:Z U}(h:Zr es)(t:Nat):imm (xk es t)=true:=Spots.imm (wg h t).pre.spots
theorem MD{es:Z U}(h:Zr es):∀{ds:Z U},(∀d∈ds,∃t,xk es t=d)->rf ds=true
 | [],_=>rfl
 | d::ds,hm=>by obtain⟨t,rfl⟩:=hm d aq;show(imm (xk es t)&&rf ds)=true;rw[asa h t,MD h λe he=>hm e<|ar _ he];rfl
def adg(es:Z U)(n:Nat):tj es (n+1)=tj es n++[xk es n]:=by unfold tj;rw[g0,bq];rfl
def qr{es:Z U}{n:Nat}:∀d∈tj es n,∃t,xk es t=d:=λd hd=>by obtain⟨t,_,e⟩:=mem_forms.mp hd;exact⟨t,e⟩
def Pre.strict{ds es:Z U}(h:Pre ds)(p:es.Perm ds)(u:es.Pairwise λx y=>ltR y x=false):es.Pairwise lt2:=by
 have hp:=h.perm p;have nd:es.Pairwise λx y=>cl x≠cl y:=fh.mp hp.nd;refine eu (λ{a b} ha hb gW=>?_)<|u.and nd;obtain⟨r,c,k,rfl,_⟩:=hp.sg a ha;obtain⟨r',c',k',rfl,_⟩:=hp.sg b hb;obtain⟨h1,h2⟩:=gW;have eR:rq [.int r',.int c',.str ⟨#[k']⟩] [.int r,.int c,.str ⟨#[k]⟩]=false:=h1;rw[zf,zf]at eR;show r<r'\/r=r'/\c<c';by_cases er:r'=r
 .rw[if_pos er]at eR;right;refine⟨er.symm,?_⟩;by_cases ec:c'=c
  .exfalso;subst er;subst ec;exact h2 rfl
  .rw[if_neg ec]at eR;have:=of_decide_eq_false eR;lia
 .rw[if_neg er]at eR;have:=of_decide_eq_false eR;left;lia
def tz{ds:Z U}(h:Spots ds):(sy ds).Pairwise λx y=>ltR y x=false:=by rw[gt];intro i j hi hj cJ;exact ajv (vx h) (af hi) (af hj)<|gx cJ
def Pre.sorted{ds es:Z U}(h:Pre ds)(p:es.Perm ds)(u:es.Pairwise λx y=>ltR y x=false):es=sy ds:=
 yz LZ (h.strict p u) (h.strict (oz ds)<|tz h.spots) λz=>by rw[p.mem_iff,(oz ds).mem_iff]
noncomputable def ng1:U->U
 | .tuple [.int r,.int c,.str x]=>.tuple [.int r,.int<|-c,.str x]
 | d=>d
noncomputable def nt1:U->U
 | .tuple [.int r,.int c,.str x]=>.tuple [.int c,.int<|-r,.str x]
 | d=>d
noncomputable def qR(i:Nat)(ds:Z U):Z U:=(cj i).foldl (λa _=>a.map nt1) ds
noncomputable def nM(t:Nat)(ds:Z U):Z U:=qR (t % 4) (if 4<=t then ds.map ng1 else ds)
def uz(i:Nat)(ds:Z U):qR (i+1) ds=(qR i ds).map nt1:=by unfold qR;rw[g0,kq];rfl
def ES{ds:Z U}(h:Spots ds):Spots (ds.map ng1):=λd hd=>by obtain⟨x,hx,rfl⟩:=au.mp hd;obtain⟨r,c,z,rfl⟩:=h x hx;exact(oa _ _ _ rfl)
def arx{ds:Z U}(h:Spots ds):Spots (ds.map nt1):=λd hd=>by obtain⟨x,hx,rfl⟩:=au.mp hd;obtain⟨r,c,z,rfl⟩:=h x hx;exact(oa _ _ _ rfl)
theorem uv{ds:Z U}(h:Spots ds):∀i,Spots (qR i ds)
 | 0=>h
 | i+1=>by rw[uz];exact arx<|uv h i
theorem ET(ds:Z U):∀i,(qR i ds).length=ds.length
 | 0=>rfl
 | i+1=>by rw[uz,ae];exact ET ds i
def ant{ns:Z Int}(h:0<ns.length)(m:Int):wt (ns.map λx=>x-m)=wt ns-m:=by
 refine(xg ?_ λa ha=>?_).symm
 .exact au.mpr ⟨wt ns,zg h,rfl⟩
 .obtain⟨x,hx,rfl⟩:=au.mp ha;have:=EL x hx;lia
def aml{ns:Z Int}(h:0<ns.length):ut (ns.map λx=>-x) = -wt ns:=by
 refine(yn ?_ λa ha=>?_).symm
 .exact au.mpr ⟨wt ns,zg h,rfl⟩
 .obtain⟨x,hx,rfl⟩:=au.mp ha;have:=EL x hx;lia
def pi{α:Type}{ds:Z U}(h:Spots ds){f g:U->α}(e:∀(r c:Int)(z:Str),f (.tuple [.int r,.int c,.str z])=g (.tuple [.int r,.int c,.str z])):ds.map f=ds.map g:=
 dg λd hd=>by obtain⟨r,c,z,rfl⟩:=h d hd;exact e r c z
def amm{X:Z U}(h:Spots X)(hp:0<X.length):kY (oj X)=oj (X.map nt1):=by
 have r1:(oj X).map ul=(X.map ul).map λx=>x-ut (X.map ul):=by unfold oj;rw[bf,bf];exact pi h λr c z=>rfl
 have r2:(X.map nt1).map ul=X.map uq:=by rw[bf];exact pi h λr c z=>rfl
 have c2:(X.map nt1).map uq=(X.map ul).map λx=>-x:=by rw[bf,bf];exact pi h λr c z=>rfl
 have mJ:0<(X.map ul).length:=by rw[ae];exact hp
 unfold kY;rw[r1,ant mJ];unfold oj;rw[r2,c2,aml mJ,bf,bf];refine pi h λr c z=>?_;show PyData.tuple [.int (c-ut (X.map uq)),.int<|wt (X.map ul)-ut (X.map ul)-(r-ut (X.map ul)),.str z]=.tuple [.int (c-ut (X.map uq)),.int<|-r - -wt (X.map ul),.str z];rw[show wt (X.map ul)-ut (X.map ul)-(r-ut (X.map ul)) = -r - -wt (X.map ul) by lia]
def afy{X:Z U}(h:Spots X)(hp:0<X.length):kL (oj X)=oj (X.map ng1):=by
 have r1:(oj X).map uq=(X.map uq).map λx=>x-ut (X.map uq):=by unfold oj;rw[bf,bf];exact pi h λr c z=>rfl
 have r2:(X.map ng1).map ul=X.map ul:=by rw[bf];exact pi h λr c z=>rfl
 have c2:(X.map ng1).map uq=(X.map uq).map λx=>-x:=by rw[bf,bf];exact pi h λr c z=>rfl
 have mJ:0<(X.map uq).length:=by rw[ae];exact hp
 unfold kL;rw[r1,ant mJ];unfold oj;rw[r2,c2,aml mJ,bf,bf];refine pi h λr c z=>?_;show PyData.tuple [.int (r-ut (X.map ul)),.int<|wt (X.map uq)-ut (X.map uq)-(c-ut (X.map uq)),.str z]=.tuple [.int (r-ut (X.map ul)),.int<|-c - -wt (X.map uq),.str z];rw[show wt (X.map uq)-ut (X.map uq)-(c-ut (X.map uq)) = -c - -wt (X.map uq) by lia]
def Zr.same{ds:Z U}(h:Zr ds):oj ds=ds:=by
 unfold oj;rw[h.r0,h.c0];have e:ds.map (yD 0 0)=ds.map id:=pi h.pre.spots λr c z=>by show PyData.tuple [.int (r-0),.int<|c-0,.str z]=_;rw[Int.sub_zero,Int.sub_zero];rfl
 rw[e,List.map_id]
theorem vy{X:Z U}(h:Spots X)(hp:0<X.length):∀i,yA i (oj X)=oj (qR i X)
 | 0=>rfl
 | i+1=>by rw[adq,vy h hp i,uz,amm (uv h i)<|by rw[ET];exact hp]
def Zr.raw{ds:Z U}(h:Zr ds)(t:Nat):oj (nM t ds)=sj t ds:=by
 show _=yA (t % 4) (if 4<=t then kL ds else ds);unfold nM;by_cases h4:4<=t
 .rw[if_pos h4,if_pos h4,<-vy (ES h.pre.spots) (by rw[ae];exact h.pre.pos),<-afy h.pre.spots h.pre.pos,h.same]
 .rw[if_neg h4,if_neg h4,<-vy h.pre.spots h.pre.pos,h.same]
def Ny(K:aw)(tl:TE):TI:=λσ H R=>tl σ H λx H1=>∃a,x=.ref a/\(((∃xs,SqL K H1 a xs)/\R (Itl K a) H1)\/((∃xs,SqT K H1 a xs)/\R (Itt K a) H1))
section
variable{X:Cx}{tg:Expr}
def BV{l:Expr}{tl:TE}(hl:PE X l tl):PI X tg l (Ny X.K tl):=by
 intro aC s σ H R I h;refine thn (hl aC s σ H _ I h) λv s1 ⟨x,H1,I1,r1,q1⟩=>?_;obtain⟨a,e,⟨⟨xs,hq⟩,q⟩|⟨⟨xs,hq⟩,q⟩⟩:=q1
 .subst e;cases r1;obtain⟨its,rv,p,hz⟩:=I1.list hq;refine kj p.isList ?_;refine(ni s1.heap.objs.size ([s1.heap.objs.size]) _ _ H1 ⟨rfl,I1.kept (t':=s1.toks) λb o e=>aj _ e,xc a _,⟨_,a7 _ rfl,rfl,rfl⟩,λb hb=>?_,q⟩);have e:b=s1.heap.objs.size:=by simpa using hb
  subst e;exact I1.fpOk (ao _)<|I1.hok.fresh<|ao _
 .subst e;cases r1;obtain⟨its,rv,p,hz⟩:=I1.tuple hq;refine cV (show s1.heap.IsTuple a its.toArray from p) ?_;refine(ni s1.heap.objs.size ([s1.heap.objs.size]) _ _ H1 ⟨rfl,I1.kept (t':=s1.toks) λb o e=>aj _ e,ad4 a _,⟨_,a7 _ rfl,rfl,rfl⟩,λb hb=>?_,q⟩);have e:b=s1.heap.objs.size:=by simpa using hb
  subst e;exact I1.fpOk (ao _)<|I1.hok.fresh<|ao _
end
section
variable{K:aw}{a:aG}{xs:Z V}{ds:Z U}{σ:L2.St}{H:Hp}{Q:VK}{sl:Z (Option Nat)}{g:TG}{tt:L2.TT}{te:TE}
def akf(ha:H a=some (.lst xs)\/H a=some (.tup xs))(Pv:aG->Nat->Z V->Hp->Prop)(h0:∀D,H D=none->Pv D 0 [] (upd H D<|.lst []))(hk:∀D i ys G,Pv D i ys G->Same H G)
  (hs:∀D i x ys G,H D=none->xs[i]?=some x->i<xs.length->G D=some (.lst ys)->ys.length<=i->Pv D i ys G->g x (ua sl σ) G λσ2 H2=>Agree (ua sl σ) σ2/\tt σ2 H2 λb H3=>
   if b=true then te σ2 H3 λy H4=>∃xs,H4 D=some (.lst xs)/\xs.length<aF/\Nx D i (Pv D) (upd H4 D<|.lst<|xs++[y])else Nx D i (Pv D) H3)
  (hd:∀D ys G,H D=none->G D=some (.lst ys)->ys.length<=xs.length->Pv D xs.length ys G->Q (.ref D) G) :
  ((∃xs,SqL K H a xs)/\∀D,H D=none->wI (Itl K a) sl g tt te σ H D Q)\/((∃xs,SqT K H a xs)/\∀D,H D=none->wI (Itt K a) sl g tt te σ H D Q):=by
 rcases ha with ha|ha
 .exact .inl ⟨⟨_,SqL.of ha⟩,λD hD=>pk (xs:=xs) (Pv D) (h0 D hD) (λi ys G p=>SqL.of<|hk D i ys G p _ _ ha) (λi x ys G=>hs D i x ys G hD) λys G=>hd D ys G hD⟩
 .exact .inr ⟨⟨_,SqT.of ha⟩,λD hD=>wn (xs:=xs) (Pv D) (h0 D hD) (λi ys G p=>SqT.of<|hk D i ys G p _ _ ha) (λi x ys G=>hs D i x ys G hD) λys G=>hd D ys G hD⟩
def ad3{i0:Nat}{bA:L2.St}(pr:U->Int)(hσ:σ[i0]?=some (some<|.ref a))(hp:ua sl σ=none::none::none::bA)(ha:H a=some (.lst xs)\/H a=some (.tup xs))(hr:RepAll H ds xs)(hs:Spots ds)(hl:ds.length<=64)
  (jC:∀(r c:Int)(z:Str)(H':Hp)(Q':VK),Q' (.int<|pr<|.tuple [.int r,.int c,.str z]) H'->te (some (.int r)::some (.int c)::some (.str z)::bA) H' Q')
  (q:∀D H',Same H H'->H' D=some (.lst<|(ds.map pr).map V.int)->Q (.ref D) H') :
  uQ (Ny K<|kA i0) sl (Ap K 3<|pY (uy 0)<|pY (uy 1)<|pY (uy 2) Eb) x5 te σ H Q:=by
 have bB:=hr.length;refine(qe _ hσ a ⟨rfl,akf ha (λD i ys H'=>Same H H'/\ys=((ds.take i).map pr).map V.int) (λD hD=>⟨Same.fresh _ hD,rfl⟩) (λD i ys H' p=>p.1) (λD i x ys H' hD hx hi aW eJ p=>?_) λD ys H' hD aW eJ p=>?_⟩)
 .obtain⟨p1,rfl⟩:=p;obtain⟨b,r,c,z,rfl,hb,hz,hd⟩:=hs.at hr hx;rw[hp];refine(nj b _ rfl (SqT.of<|p1 _ _ hb) rfl _ _ rfl _<|oq _ rfl _ _ ⟨rfl,rfl,?_⟩);refine⟨Agree.set (Agree.set (Agree.set (Agree.refl _) rfl) rfl) rfl,?_⟩;dsimp only[x5];refine x9 ?_;refine jC r c z H' _<|qk (by lia) aW eJ ⟨p1.new hD,?_⟩;rw[nh pr hd,bq];rfl
 .obtain⟨p1,rfl⟩:=p;refine q D H' p1 ?_;rw[aW,a8<|by lia]
def xz{i0:Nat}{bA:L2.St}(f:U->U)(hσ:σ[i0]?=some (some<|.ref a))(hp:ua sl σ=none::none::none::bA)(ha:H a=some (.lst xs)\/H a=some (.tup xs))(hr:RepAll H ds xs)(hs:Spots ds)(hl:ds.length<=64)
  (jC:∀(r c:Int)(z:Str)(H':Hp)(Q':VK),(∃u v:Int,f (.tuple [.int r,.int c,.str z])=.tuple [.int u,.int v,.str z]/\∀n,H' n=none->Q' (.ref n) (upd H' n<|.tup [.int u,.int v,.str z]))->
   te (some (.int r)::some (.int c)::some (.str z)::bA) H' Q')
  (iP:∀(r c:Int)(z:Str),∃u v:Int,f (.tuple [.int r,.int c,.str z])=.tuple [.int u,.int v,.str z])
  (q:∀D ys H',H D=none->Same H H'->H' D=some (.lst ys)->RepAll H' (ds.map f) ys->Q (.ref D) H') :
  uQ (Ny K<|kA i0) sl (Ap K 3<|pY (uy 0)<|pY (uy 1)<|pY (uy 2) Eb) x5 te σ H Q:=by
 have bB:=hr.length;have im:∀es:Z U,(∀d∈es,d∈ds)->Spots (es.map f):=λes he d hd=>by obtain⟨d0,h0,rfl⟩:=au.mp hd;obtain⟨r0,c0,x0,rfl⟩:=hs d0<|he d0 h0;obtain⟨u,v,e⟩:=iP r0 c0 x0;exact(oa u v x0 e)
 refine(qe _ hσ a ⟨rfl,akf ha (λD i ys H'=>Same H H'/\RepAll H' ((ds.take i).map f) ys) (λD hD=>⟨Same.fresh _ hD,rfl⟩) (λD i ys H' p=>p.1) (λD i x ys H' hD hx hi aW eJ p=>?_) λD ys H' hD aW eJ p=>?_⟩)
 .obtain⟨p1,p2⟩:=p;obtain⟨b,r,c,z,rfl,hb,hz,hd⟩:=hs.at hr hx;rw[hp];refine(nj b _ rfl (SqT.of<|p1 _ _ hb) rfl _ _ rfl _<|oq _ rfl _ _ ⟨rfl,rfl,?_⟩);refine⟨Agree.set (Agree.set (Agree.set (Agree.refl _) rfl) rfl) rfl,?_⟩;dsimp only[x5];refine x9 ?_;obtain⟨u,v,ef⟩:=iP r c z;refine jC r c z H' _<|nc u v ⟨ef,λn hn=>?_⟩;have s2:Same H' (upd H' n<|.tup [.int u,.int v,.str z]):=Same.fresh _ hn;have n2:upd H' n (.tup [.int u,.int v,.str z]) n=some (.tup [.int u,.int v,.str z]):=m8;generalize upd H' n (.tup [.int u,.int v,.str z])=H2 at *;have cT:=s2 _ _ aW;refine qk (by lia) cT eJ ⟨(p1.trans s2).new hD,?_⟩;have rep:RepAll H2 ((ds.take i).map f++[f (.tuple [.int r,.int c,.str z])]) (ys++[.ref n]):=by
   rw[ef];exact(p2.same s2).snoc (zj n2 hz)
  rw[<-nh f hd]at rep;exact rep.tk (Tk.lst cT)<|Spots.imm<|im _ λd vW=>cx vW
 .obtain⟨p1,p2⟩:=p;rw[a8 (by lia)]at p2;exact q D ys H' hD p1 aW p2
end
noncomputable def kvI(ps:Z (Str×Int)):Z (Key×V):=ps.map λp=>(Sum.inr p.1,.int p.2)
def Nf:Z (Str×Int)->Z (aA×aA)->Prop
 | [],[]=>True
 | p::ps,v::vs=>(∃t u,v=(.str p.1 t,.int p.2 u))/\Nf ps vs
 | _,_=>False
section
variable{X:Cx}{pos:dH}{aC:Z (aG×Obj)}{σ:L2.St}{H:Hp}
noncomputable def LM(X:Cx)(pos:dH)(es:Z (Expr×Expr)):Z (nP aA×nP aA):=es.map λp=>(bQ p.1 X.env,do let x <-bQ p.2 X.env;Ck pos;aS x)
theorem ai3:∀(es:Z (Expr×Expr)) (ps:Z (Str×Int)),es.length=ps.length->(∀(i:Nat) e p,es[i]?=some e->ps[i]?=some p->PE X e.1 (tC<|.str p.1)/\PE X e.2 (tC<|.int p.2))->∀(s:aB) (Q:Z (aA×aA)->aB->Prop),Inv X aC σ H s->
  (∀s' vs,Inv X aC σ H s'->Nf ps vs->Q vs s')->aH (aI X.prog X.w) X.A (F4<|LM X pos es) Q X.xe s
 | [],[],_,_,s,Q,I,q=>ah (q s [] I True.intro)
 | e::es,[],hl,_,_,_,_,_=>by cases hl
 | [],p::ps,hl,_,_,_,_,_=>by cases hl
 | e::es,p::ps,hl,he,s,Q,I,q=>by obtain⟨h1,h2⟩:=he 0 e p rfl rfl;show aH _ _ (F4 ((bQ e.1 X.env,do let x <-bQ e.2 X.env;Ck pos;aS x)::LM X pos es)) _ _ _;unfold F4;refine ab<|thn (h1 aC s σ H (λv G=>V.str p.1=v/\H=G) I ⟨rfl,rfl⟩) λkv s1 ⟨x,H1,I1,r1,e1,e2⟩=>?_;subst e1;subst e2;obtain⟨t,rfl⟩:=r1;refine ab<|ff<|ab<|thn (h2 aC s1 σ _ (λv G=>V.int p.2=v/\H=G) I1 ⟨rfl,rfl⟩) λvv s2 ⟨x,H2,I2,r2,e1,e2⟩=>ab<|fI<|ah ?_;subst e1;subst e2;obtain⟨u,rfl⟩:=r2;refine ab<|ff<|ai3 es ps (by simpa using hl) (λi e p h1 h2=>he (i+1) e p (by simpa using h1)<|by simpa using h2) s2 _ I2 λs3 vs I3 pr=>ah ?_;exact q s3 _ I3 ⟨(nc t u rfl),pr⟩
theorem adh:∀{ps:Z (Str×Int)} {vs:Z (aA×aA)},Nf ps vs->∃kvs:Z (Key×aA),Carries (qw X.prog X.w) vs kvs/\KV (kvI ps) kvs/\kvs.map (·.1)=ps.map λp=>Sum.inr p.1
 | [],[],_=>⟨[],True.intro,.nil,rfl⟩
 | [],_::_,h=>h.elim
 | _::_,[],h=>h.elim
 | p::ps,v::vs,h=>by obtain⟨⟨t,u,rfl⟩,h2⟩:=h;obtain⟨kvs,c1,c2,c3⟩:=adh h2;refine⟨(Sum.inr p.1,.int p.2 u)::kvs,⟨?_,rfl,c1⟩,.cons ⟨rfl,u,rfl⟩ c2,by rw[cm,cm,c3]⟩;exact ab6 _ _ _ _
theorem agz:∀(acc more:Z (Key×aA)),((acc++more).map (·.1)).Nodup->merged acc more=acc++more
 | acc,[],_=>(df acc).symm
 | acc,kv::more,h=>by
  have e:AK acc kv.1 kv.2=acc++[kv]:=by unfold AK;rw[if_neg];intro hh;obtain⟨x,hx,hq⟩:=List.any_eq_true.mp hh;rw[bq,List.nodup_append]at h;exact h.2.2 x.1 (au.mpr ⟨x,hx,rfl⟩) kv.1 (by simp)<|of_decide_eq_true hq
  show merged (AK acc kv.1 kv.2) more=_;rw[e,agz (acc++[kv]) more<|by rw[br];exact h,br];rfl
def ang{ps:Z (Str×Int)}(h:(ps.map (·.1)).Nodup):(ps.map λp=>(Sum.inr p.1:Key)).Nodup:=by
 have e:(ps.map λp=>(Sum.inr p.1:Key))=(ps.map (·.1)).map Sum.inr:=by rw[bf];rfl
 rw[e];exact List.Pairwise.map _ (λa b gW z=>gW<|Sum.inr.inj z) h
def azx(ps:Z (Str×Int)):TE:=λ_ H Q=>∀D,H D=none->Q (.ref D) (upd H D<|.dK<|kvI ps)
theorem auk{keys:Z (Option Expr)}{rA:Z Expr}(es:Z (Expr×Expr))(ps:Z (Str×Int))(hk:keys=es.map λe=>some e.1)(hv:rA=es.map λe=>e.2)(hl:es.length=ps.length)(h0:es≠[])(h15:es.length<=15)
  (he:∀(i:Nat) e p,es[i]?=some e->ps[i]?=some p->PE X e.1 (tC<|.str p.1)/\PE X e.2 (tC<|.int p.2)) (nd:(ps.map (·.1)).Nodup):PE X (.Dict keys rA pos) (azx ps):=by
 subst hk;subst hv;intro aC s σ H Q I h;have hn:H s.heap.objs.size=none:=I.hok.fresh<|ao _;have I1:Inv X aC σ (upd H s.heap.objs.size<|.dK []) {s with heap:=s.heap.push {cls:=.type "dict",data:=.dict #[]}}:=I.laid (a:=s.heap.objs.size) (o:=.dK []) (t':=s.toks) (λ_ _ q=>aj _ q) (ao _)<|aql s.heap I.big;refine wpAny_Dict_walk (knd:=qw X.prog X.w) (by simp) (by simp) (by simpa using h0) (by simpa using h15) ?_;have e:pairTrees (es.map λe=>some e.1) (es.map λe=>e.2) X.env pos=LM X pos es:=by
  clear he hl h0 h15;induction es with
  | nil=>rfl
  | cons a t ih=>show(_::pairTrees _ _ _ _)=_;rw[ih];rfl
 rw[e];refine ai3 es ps hl he _ _ I1 λs' vs I2 pr=>?_;obtain⟨kvs,c1,c2,c3⟩:=adh (X:=X) pr;have hD:upd H s.heap.objs.size (.dK []) s.heap.objs.size=some (.dK []):=m8;obtain⟨_,hS,vs0,r0,m0⟩:=I2.hok _ _ hD;cases r0;refine⟨kvs,c1,m0,λh' hd kH=>?_⟩;rw[agz [] kvs (by rw[List.nil_append,c3];exact ang nd)]at hd;have AU:upd (upd H s.heap.objs.size<|.dK []) s.heap.objs.size (.dK<|kvI ps)=upd H s.heap.objs.size (.dK<|kvI ps):=by
  funext b
  by_cases hb:b=s.heap.objs.size
  .subst hb;rw[m8,m8]
  .rw[p8 hb,p8 hb,p8 hb]
 have bB:(kvI ps).length<=aF:=by unfold kvI;rw[ae,<-hl];exact gx<|o0<|by lia
 have I3:=Md (t':=s'.toks+vs.length) (ob:=.dK<|kvI ps) I2 (by rw[hD];exact True.intro) kH (by obtain⟨o,ho,_⟩:=Heap.dictOf_iff.mp hd;exact⟨o,ho⟩) ⟨bB,hS,kvs,c2,hd⟩;rw[AU]at I3;exact(nc (.ref s.heap.objs.size) _ ⟨I3,rfl,h _ hn⟩)
theorem ar7{k1 k2 k3 v1 v2 v3:Expr}{a b c:Str}{i j k:Int}(h1:PE X k1 (tC<|.str a))(g1:PE X v1 (tC<|.int i))(h2:PE X k2 (tC<|.str b))(g2:PE X v2 (tC<|.int j))(h3:PE X k3 (tC<|.str c))(g3:PE X v3 (tC<|.int k))(nd:[a,b,c].Nodup) :
  PE X (.Dict [some k1,some k2,some k3] [v1,v2,v3] pos) (azx [(a,i),(b,j),(c,k)]):=
 auk [(k1,v1),(k2,v2),(k3,v3)] [(a,i),(b,j),(c,k)] rfl rfl rfl (by simp) (by show 3<=15;decide) (λn e p q1 q2=>by
  match n,q1,q2 with
  | 0,q1,q2=>cases q1;cases q2;exact⟨h1,g1⟩
  | 1,q1,q2=>cases q1;cases q2;exact⟨h2,g2⟩
  | 2,q1,q2=>cases q1;cases q2;exact⟨h3,g3⟩
  | n+3,q1,q2=>cases q1) nd
end
section
variable{X:Cx}{aC:Z (aG×Obj)}{σ:L2.St}{H:Hp}{s:aB}{h':Heap}
def ane{t':Nat}{fp:Z aG}(I:Inv X aC σ H s)(k:∀b o,b∉fp->s.heap.get? b=some o->h'.get? b=some o)(hf:∀b∈fp,mQ X aC H b):Inv X aC σ H {s with heap:=h',toks:=t'}:=by
 have nn:∀b u,H b=some u->b∉fp:=λb u q z=>by rw[(hf b z).1]at q;cases q
 refine I.step (g':=s.gens) (d':=s.drawn) (ch:=fp) (λb hb=>?_) (λb o _ _ hc q _=>k b o hc q) (λb o _ _ hc q _=>⟨o.slots,k b o hc q⟩) (λ_ _ _ _ n=>n)
  (λb o hc q=>⟨o,k b o hc q⟩) (λ_ _ q=>q) (λ_ _ _ q=>q) (λb ps q=>⟨#[],by rw[q];simp⟩) (λm hm=>?_) (λb u q=>?_) I.bare
 .obtain⟨e0,e1,e2,e3,e4,e5⟩:=hf b hb;exact⟨e3,e1,e4,e5⟩
 .obtain⟨o,es,ep,ho,r⟩:=hm;exact(oa o es ep ⟨k _ o (λz=>(hf _ z).2.1 rfl) ho,r⟩)
 .refine(I.hok b u q).stay (λc v hc r=>k c v ?_ r) (λ_ r=>r) λ_ _ r=>r;rcases hc with z|z
  .rw[z];exact nn b u q
  .exact nn c _ z
end
noncomputable def Jzp(l1 l2:aG):It:=
 ⟨λi H=>∃xs ys x y,H l1=some (.lst xs)/\H l2=some (.lst ys)/\xs[i]?=some x/\ys[i]?=some y,
  λi H v H'=>∃p x y,H p=none/\v=.ref p/\H'=upd H p (.tup [x,y])/\(∀xs,H l1=some (.lst xs)->xs[i]?=some x)/\∀ys,H l2=some (.lst ys)->ys[i]?=some y,
  λi H=>∃xs ys,H l1=some (.lst xs)/\H l2=some (.lst ys)/\(xs.length<=i\/ys.length<=i)⟩
def a0q(z TI TO i1 i2 l1 l2:aG)(i:Nat)(h:Heap):Prop:=IsZip h z TI TO .none/\IsPair h TI (.ref i1) (.ref i2)/\(∃a b,IsPair h TO a b)/\h.IsListIter i1 l1 i/\h.IsListIter i2 l2 i
def ark{P:aM}{w:aN}{K:aw}{eL:Z Expr}{x1}{pos:dH}{z TI TO i1 i2 l1 l2:aG}(nd:[z,TI,TO,i1,i2].Nodup) :
  uO P w K (.Tuple eL x1 pos) (Jzp l1 l2) [z,TI,TO,i1,i2] z (a0q z TI TO i1 i2 l1 l2)where
 mem:=by simp
 obj:=λi h st b hb=>by
  obtain⟨a1,a2,⟨a,b',a3⟩,⟨o4,h4,c4,d4⟩,⟨o5,h5,c5,d5⟩⟩:=st;simp only[a6,f9,or_false]at hb;rcases hb with rfl|rfl|rfl|rfl|rfl
  .exact⟨_,a1,λv z=>by cases z⟩
  .exact⟨_,a2,λv z=>by cases z⟩
  .exact⟨_,a3,λv z=>by cases z⟩
  .exact⟨_,h4,λv z=>by rw[d4]at z;cases z⟩
  .exact⟨_,h5,λv z=>by rw[d5]at z;cases z⟩
 keep:=λi h h' st k=>by obtain⟨a1,a2,⟨a,b',a3⟩,⟨o4,h4,c4⟩,⟨o5,h5,c5⟩⟩:=st;exact⟨k _ (by simp) _ a1,k _ (by simp) _ a2,(nc a b'<|k _ (by simp) _ a3),⟨o4,k _ (by simp) _ h4,c4⟩,⟨o5,k _ (by simp) _ h5,c5⟩⟩
 item:=by
  intro X hP hw hK hc i aC s σ H E Iv hf st hg;subst hP hw hK;obtain⟨a1,a2,⟨a,b',a3⟩,h4,h5⟩:=st;obtain⟨xs,ys,x,y,iA,eV,hx,hy⟩:=hg;obtain⟨is1,r1,p1,z1⟩:=Iv.list<|SqL.of (K:=X.K) iA;obtain⟨is2,r2,p2,z2⟩:=Iv.list<|SqL.of (K:=X.K) eV;obtain⟨u,hu,ru⟩:=r1.get hx;obtain⟨v,hv,rv⟩:=r2.get hy;have vF:∀b∈[z,TI,TO,i1,i2],l1≠b:=λb hb e=>by rw[e,(hf b hb).1]at iA;cases iA
  have vE:∀b∈[z,TI,TO,i1,i2],l2≠b:=λb hb e=>by rw[e,(hf b hb).1]at eV;cases eV
  simp only[i7,a6,f9,or_false,not_or]at nd;obtain⟨⟨n1,n2,n3,n4⟩,⟨n5,n6,n7⟩,⟨n8,n9⟩,CJ,_⟩:=nd;have ap:ZipApart z TI TO i1 i2 l1 l2:=⟨Ne.symm n1,Ne.symm n2,Ne.symm n3,Ne.symm n4,n5,n6,n7,n8,n9,CJ,vF _<|by simp,vF _<|by simp,vF _<|by simp,vF _<|by simp,vE _<|by simp,vE _<|by simp,vE _<|by simp,vE _<|by simp⟩;refine wpAny_pyNext_zip_item ap a1 a2 a3 h4 h5 p1.isList p2.isList (x:=u) (y:=v) (by simpa using hu) (by simpa using hv) λg g1 g2 g3 g4 g5 g6 g7=>⟨_,rfl,?_⟩;refine wpAny_letOwnedTupleGo_zip (s:={s with heap:=g}) g1 λg' e' sb=>?_;have lz:∀b∈[z,TI,TO,i1,i2],b<s.heap.objs.size:=λb hb=>by
   simp only[a6,f9,or_false]at hb;rcases hb with rfl|rfl|rfl|rfl|rfl
   .exact bb a1
   .exact bb a2
   .exact bb a3
   .obtain⟨o,ho,_⟩:=h4;exact bb ho
   .obtain⟨o,ho,_⟩:=h5;exact bb ho
  have I1:Inv X aC σ (upd H s.heap.objs.size<|.tup [x,y]) {s with heap:=s.heap.push {cls:=.type "tuple",data:=.seq #[u,v]}}:=
   Iv.laid (t':=s.toks) (λb o q=>aj _ q) (ao _) ⟨by show 2<=aF;decide,[u,v],.cons ru<|.cons rv .nil,(qi _ (a7 _ rfl) rfl _ rfl)⟩
  have hf':∀b∈[z,TI,TO,i1,i2],mQ X aC (upd H s.heap.objs.size<|.tup [x,y]) b:=λb hb=>⟨by rw[p8 (cf<|lz b hb)];exact(hf b hb).1,(hf b hb).2⟩;have nz:s.heap.objs.size≠z:=Nat.ne_of_gt (lz z<|by simp);have I2:Inv X aC σ (upd H s.heap.objs.size<|.tup [x,y]) {s with heap:=g'}:=ane (s:={s with heap:=s.heap.push {cls:=.type "tuple",data:=.seq #[u,v]}}) (t':=s.toks) I1 (λb o hb q=>by
   simp only[a6,f9,or_false,not_or]at hb;rcases Heap.get?_push_cases q with ⟨e1,e2⟩|e
   .rw[e1,e2];exact(sb.2 _ nz).trans g5
   .exact(sb.2 b hb.1).trans (g7 b o hb.1 hb.2.2.1 hb.2.2.2.1 hb.2.2.2.2 e)) hf'
  have kp:∀b o,b≠z->g.get? b=some o->g'.get? b=some o:=λb o hb q=>(sb.2 b hb).trans q;obtain⟨o3,q3,r3⟩:=g3;obtain⟨o4,q4,r4⟩:=g4;refine(nc (.ref s.heap.objs.size) _ ⟨I2,rfl,(oa _ x y ⟨Iv.hok.fresh<|ao _,rfl,rfl,λCa e=>?_,λE6 e=>?_⟩),⟨e',kp _ _ (Ne.symm n1)<|g7 _ _ (Ne.symm n1) n5 n6 n7 a2,(nc _ _<|kp _ _ (Ne.symm n2) g2),⟨o3,kp _ _ (Ne.symm n3) q3,r3⟩,⟨o4,kp _ _ (Ne.symm n4) q4,r4⟩⟩,λb hb=>(hf' b hb).1⟩)
  .rw[iA]at e;cases e;exact hx
  .rw[eV]at e;cases e;exact hy
 done:=by
  intro X hP hw hK hc i aC s σ H E Iv hf st hg;subst hP hw hK;obtain⟨a1,a2,⟨a,b',a3⟩,h4,h5⟩:=st;obtain⟨xs,ys,iA,eV,hx⟩:=hg;obtain⟨is1,r1,p1,z1⟩:=Iv.list<|SqL.of (K:=X.K) iA;obtain⟨is2,r2,p2,z2⟩:=Iv.list<|SqL.of (K:=X.K) eV;have vF:∀b∈[z,TI,TO,i1,i2],l1≠b:=λb hb e=>by rw[e,(hf b hb).1]at iA;cases iA
  have vE:∀b∈[z,TI,TO,i1,i2],l2≠b:=λb hb e=>by rw[e,(hf b hb).1]at eV;cases eV
  simp only[i7,a6,f9,or_false,not_or]at nd;obtain⟨⟨n1,n2,n3,n4⟩,⟨n5,n6,n7⟩,⟨n8,n9⟩,CJ,_⟩:=nd;have ap:ZipApart z TI TO i1 i2 l1 l2:=⟨Ne.symm n1,Ne.symm n2,Ne.symm n3,Ne.symm n4,n5,n6,n7,n8,n9,CJ,vF _<|by simp,vF _<|by simp,vF _<|by simp,vF _<|by simp,vE _<|by simp,vE _<|by simp,vE _<|by simp,vE _<|by simp⟩;have Nz:=r1.length;have len2:=r2.length;refine wpAny_pyNext_zip_end (Iv.ok.hd hc) ap a1 a2 a3 h4 h5 p1.isList p2.isList (hx.imp (λh=>?_) λh=>?_) λg kp=>⟨rfl,ane (t':=s.toks) Iv (λb o hb q=>?_) hf⟩
  .simp;lia
  .simp;lia
  .simp only[a6,f9,or_false,not_or]at hb;exact kp b o hb.1 hb.2.2.1 hb.2.2.2.1 hb.2.2.2.2 q
 self:=λ_ _ _ _ _ st h=>E8 st.1 h
section
variable{X:Cx}{eL:Z Expr}{x1:Nat}{iJ p pos:dH}{a b:Expr}{ta:TA}
def a27(ta:TA):TI:=λσ H R=>ta σ H λvs H1=>∃l1 l2 xs ys,vs=[.ref l1,.ref l2]/\H1 l1=some (.lst xs)/\H1 l2=some (.lst ys)/\R (Jzp l1 l2) H1
def azq(hg:Gl X "zip")(hm:X.mg "zip" = none)(ha:PA X [a,b] ta)(h1:o8 a=true:=by rfl)(h2:o8 b=true:=by rfl):PI X (.Tuple eL x1 iJ) (.Call (.Name "zip" p) [a,b] [] pos) (a27 ta):=by
 intro aC s σ H R I h;refine Call_ (wq I hg hm boot_zip<|gd (thn (ha pos aC s σ H _ I h) λus s1 ⟨vs,H1,I1,r1,q1⟩=>?_) (qa h1)<|vz<|by simp[h2]);obtain⟨l1,l2,xs,ys,e,iA,eV,q⟩:=q1;subst e;obtain⟨u,v,rfl,ru,rv⟩:=axc r1;cases (show u=aA.ref l1 from ru);cases (show v=aA.ref l2 from rv);obtain⟨is1,_,p1,_⟩:=I1.list<|SqL.of (K:=X.K) iA;obtain⟨is2,_,p2,_⟩:=I1.list<|SqL.of (K:=X.K) eV;refine call_zip_2 p1.isList p2.isList λg g1 g2 g3 g4 g5 g6 kp=>E8 (s:={s1 with heap:=g}) g1 ?_;refine(ni (s1.heap.objs.size+4) ([s1.heap.objs.size+4,s1.heap.objs.size+2,s1.heap.objs.size+3,s1.heap.objs.size,s1.heap.objs.size+1]) _ _ H1 ⟨rfl,I1.kept (t':=s1.toks) kp,ark (l1:=l1) (l2:=l2)<|by simp,⟨g1,g2,(nc _ _ g3),g4,g5⟩,λc hc=>?_,q⟩);have:s1.heap.objs.size<=c:=by simp only[a6,f9,or_false]at hc;rcases hc with rfl|rfl|rfl|rfl|rfl<;>lia
 exact I1.fpOk this<|I1.hok.fresh this
end
def ap7{l1 l2:aG}{xs ys:Z V}{sl:Z (Option Nat)}{g:TG}{tt:L2.TT}{te:TE}{σ:L2.St}{H1:Hp}{D:aG}{Q:VK}(Pv:Nat->Z V->Hp->Prop)(h0:Pv 0 [] (upd H1 D<|.lst []))(hk:∀i zs G,Pv i zs G->G l1=some (.lst xs)/\G l2=some (.lst ys))
  (hs:∀i x y p zs G,xs[i]?=some x->ys[i]?=some y->G p=none->G D=some (.lst zs)->zs.length<=i->Pv i zs G->g (.ref p) (ua sl σ) (upd G p<|.tup [x,y]) λσ2 H2=>Agree (ua sl σ) σ2/\tt σ2 H2 λb H3=>
   if b=true then te σ2 H3 λy H4=>∃xs,H4 D=some (.lst xs)/\xs.length<aF/\Nx D i Pv (upd H4 D<|.lst<|xs++[y])else Nx D i Pv H3)
  (hd:∀zs G,G D=some (.lst zs)->zs.length<=kF xs.length ys.length->Pv (kF xs.length ys.length) zs G->Q (.ref D) G):wI (Jzp l1 l2) sl g tt te σ H1 D Q:=by
 refine Hc (Jzp l1 l2) (kF xs.length ys.length) Pv h0 (λi zs G hi p=>(ny xs ys (xs[i]'(by lia)) (ys[i]'(by lia)) ⟨(hk i zs G p).1,(hk i zs G p).2,af _,af _⟩)) (λzs G p=>(nc xs ys ⟨(hk _ zs G p).1,(hk _ zs G p).2,by lia⟩)) (λi v zs G G' hi y hD cX p=>?_) hd;obtain⟨b,x,y',hb,rfl,rfl,e1,e2⟩:=y;exact hs i x y' b zs G (e1 xs (hk i zs G p).1) (e2 ys (hk i zs G p).2) hb hD cX p
end L3
namespace L2
open PySem PySem.Spec PyProof.Rows
def ard{P:aM}{w:aN}{H:Hp}(h:Heap)(hb:bE<h.objs.size):ObjOk P w H (h.push {cls:=.type "dict",data:=.dict #[]}) h.objs.size (.dT []):=
 ⟨fk _,beq_eq_false_iff_ne.mpr<|Ne.symm<|cf hb,[],.nil,_,#[],0,a7 _ rfl,⟨rfl,rfl,rfl⟩,rfl,rfl,List.nodup_nil⟩
def ayd:TE:=λ_ H Q=>∀p,H p=none->Q (.ref p) (upd H p<|.dT [])
section
variable{X:Cx}{pos:dH}
def aj8:PE X (.Dict [] [] pos) ayd:=λaC s σ H Q I h=>
 Fb ⟨.ref s.heap.objs.size,_,I.laid (a:=s.heap.objs.size) (o:=.dT []) (t':=s.toks) (λ_ _ q=>aj _ q) (ao _)<|ard s.heap I.big,rfl,h _<|I.hok.fresh<|ao _⟩
end
end L2
namespace L3
open PySem PySem.Spec PyProof.Rows L2
def GB(h0 h:Heap):Prop:=∀b o,h0.get? b=some o->h.get? b=some o
def LK(prog:aM)(w:aN)(A:Around)(op:lC)(P:Nat->aA->Prop)(bt:Nat->Nat->Bool)(h0:Heap):Prop:=
 ∀(i j:Nat)(vi vj:aA)(s:aB)(Q E:aA->aB->Prop),GB h0 s.heap->P i vi->P j vj->Q (.bool<|bt i j) s->aH (aI prog w) A (mC op vi vj) Q E s
section
variable{prog:aM}{w:aN}{A:Around}{R:iF->aB->Prop}{I:aG}{fp wr:Z aG}{n:Nat}{P:Nat->aA->Prop}{St:Nat->Heap->Prop}
theorem al8(kw:Z (Str×aA))(W:gN prog w A.in1 I fp wr n P St)(bt:Nat->Nat->Bool)(h0:Heap)(qJ:∀b∈wr,h0.get? b=none)(cK:LK prog w A.in1 .Lt P bt h0)(S:aG)(iV:S∉fp)(hS0:h0.get? S=none) :
  ∀(k j:Nat)(s:aB)(vb:aA)(c:Nat),n-(j+1)=k->j+1<=n->GB h0 s.heap->St (j+1) s.heap->P (bU bt j) vb->
  s.heap.get? S=some {cls:=.type "list",dict:=none,data:=.seq #[vb,vb] c,slots:=#[]}->
  (∀v h' tk,P (bU bt<|n-1) v->(∀b o,b∉wr->b≠S->s.heap.get? b=some o->h'.get? b=some o)->R (.ok<|.ret v) {s with heap:=h',toks:=tk})->
  bT (aI prog w) A (.builtin "min.loop" ⟨[.ref I,.none,.ref S],kw⟩) R s:=by
 have tH:S∉wr:=λh=>iV<|W.sub _ h;have nm:(bO "min" ++ bO ".loop" : String)="min.loop":=by decide
 intro k;induction k with
 | zero=>
  intro j s vb c hk hj eY dY wA hS hR;have eZ:j+1=n:=by omega
  refine fc F.entry_min_loop ?_;rw[cn lh _];show aH _ A.in1 (dA (.ref S) >>= _) _ _ s;refine ab<|ig hS rfl ?_;show aH _ A.in1 (fO (bC<|.ref I) _ >>= _) _ _ s;refine ab<|kb<|W.done s _ _ (eZ▸dY) λh' tk cP=>?_;have gM:=cP S _ tH hS;show aH _ A.in1 (dU S (λ_=>#[]) >>= _) _ _ _;refine ab<|i9 gM rfl<|ab<|me<|ah ?_;exact hR vb _ tk (by rw[<-eZ];exact wA) λb o iR lG e=>(b7 _ _<|Ne.symm lG).trans (cP b o iR e)
 | succ k ih=>
  intro j s vb c hk hj eY dY wA hS hR;have bN:j+1<n:=by omega
  refine fc F.entry_min_loop ?_;rw[cn lh _];show aH _ A.in1 (dA (.ref S) >>= _) _ _ s;refine ab<|ig hS rfl ?_;show aH _ A.in1 (fO (bC<|.ref I) _ >>= _) _ _ s;refine ab<|kb<|W.item (j+1) s _ _ bN dY λv h' tk hP gU cP=>?_;have gM:=cP S _ tH hS;show aH _ A.in1 (fO (nF [v,v]<|mC .Lt v vb >>= _) _ >>= _) _ _ _;refine ab<|kb<|ff<|ab<|cK (j+1) (bU bt j) v vb _ _ _ (λb o e=>cP b o (λz=>by rw[qJ b z]at e;cases e)<|eY b o e) hP wA ?_;refine ab<|ff<|gc ?_;refine ab<|me<|ah ?_;cases hb:bt (j+1) (bU bt j)with
  | true=>
   simp only[if_true];refine ab<|i9 gM rfl<|ab<|me ?_;rw[nm];refine ah ⟨gl lh _,ih (j+1) _ v _ (by omega) bN (λb o e=>(b7 _ _ λz:S=b=>by rw[<-z,hS0]at e;cases e).trans (cP b o (λz=>by rw[qJ b z]at e;cases e)<|eY b o e)) (W.frame _ _ _ gU λb zW o e=>?_) (by simp only[bU,hb,if_true];exact hP) (ci _ gM rfl) λv' mO iY pP jF=>?_⟩
   .exact(b7 _ _ λh:S=b=>iV<|by rw[h];exact zW).trans e
   .exact hR v' mO iY pP λb o iR lG e=>jF b o iR lG ((b7 _ _<|Ne.symm lG).trans (cP b o iR e))
  | false=>
   simp only[be,if_false];refine ab<|me ?_;rw[nm];refine ah ⟨gl lh _,ih (j+1) _ vb c (by omega) bN (λb o e=>cP b o (λz=>by rw[qJ b z]at e;cases e)<|eY b o e) gU (by simp only[bU,hb,be,if_false];exact wA) gM λv' mO iY pP jF=>?_⟩;exact hR v' mO iY pP λb o iR lG e=>jF b o iR lG<|cP b o iR e
def alf(kw:Z (Str×aA))(W:gN prog w A.in1 I fp wr n P St)(bt:Nat->Nat->Bool)(h0:Heap)(qJ:∀b∈wr,h0.get? b=none)(cK:LK prog w A.in1 .Lt P bt h0)(S:aG)(iV:S∉fp)(hS0:h0.get? S=none)(hn:0<n){s:aB}{c:Nat}(eY:GB h0 s.heap)(dY:St 0 s.heap)
  (hS:s.heap.get? S=some {cls:=.type "list",dict:=none,data:=.seq #[] c,slots:=#[]})
  (hR:∀v h' tk,P (bU bt<|n-1) v->(∀b o,b∉wr->b≠S->s.heap.get? b=some o->h'.get? b=some o)->R (.ok<|.ret v) {s with heap:=h',toks:=tk}) :
  bT (aI prog w) A (.builtin "min.loop" ⟨[.ref I,.none,.ref S],kw⟩) R s:=by
 have tH:S∉wr:=λh=>iV<|W.sub _ h;have nm:(bO "min" ++ bO ".loop" : String)="min.loop":=by decide
 refine fc F.entry_min_loop ?_;rw[cn lh _];show aH _ A.in1 (dA (.ref S) >>= _) _ _ s;refine ab<|ig hS rfl ?_;show aH _ A.in1 (fO (bC<|.ref I) _ >>= _) _ _ s;refine ab<|kb<|W.item 0 s _ _ hn dY λv h' tk hP gU cP=>?_;have gM:=cP S _ tH hS;show aH _ A.in1 (dU S (λ_=>#[v,v]) >>= _) _ _ _;refine ab<|i9 gM rfl ?_;rw[nm];refine ah ⟨gl lh _,al8 kw W bt h0 qJ cK S iV hS0 _ 0 _ v _ rfl hn (λb o e=>(b7 _ _ λz:S=b=>by rw[<-z,hS0]at e;cases e).trans (cP b o (λz=>by rw[qJ b z]at e;cases e)<|eY b o e)) (W.frame _ _ _ gU λb zW o e=>?_) hP (ci _ gM rfl) λv' mO iY pP jF=>?_⟩
 .exact(b7 _ _ λh:S=b=>iV<|by rw[h];exact zW).trans e
 .exact hR v' mO iY pP λb o iR lG e=>jF b o iR lG<|(b7 _ _<|Ne.symm lG).trans (cP b o iR e)
end
def anp(a:aA):lU "min" ⟨[a],[]⟩:=by unfold lU;kernel_rfl
section
variable{prog:aM}{w:aN}{A:Around}{E:aA->aB->Prop}{s:aB}
theorem aly{x:aA}{Q:aA->aB->Prop}
  (h:aH (aI prog w) A.in1 (lL x) (λit s₂=>∃I fp wr n P St bt h0,it=.ref I/\gN prog w A.in1 I fp wr n P St/\St 0 s₂.heap/\(∀b∈fp,b<s₂.heap.objs.size)/\0<n/\(∀b∈wr,h0.get? b=none)/\GB h0 s₂.heap/\LK prog w A.in1 .Lt P bt h0/\
   ∀v h' tk,P (bU bt<|n-1) v->(∀b o,b∉wr->s₂.heap.get? b=some o->h'.get? b=some o)->Q v {s₂ with heap:=h',toks:=tk}) E s) :
  aH (aI prog w) A (call (.builtin "min") [x]) Q E s:=by
 have nm:(bO "min" ++ bO ".loop" : String)="min.loop":=by decide
 refine jP<|eD F.plain_min F.entry_min ?_;simp only[lR,F.kind_min];have go:aH (aI prog w) A.in1 (Builtin.«min» ⟨[x],[]⟩) (λfin s'=>match fin with
   | .done f=>(match (Except.ok f:iF)with|.ok (.ret v)=>Q v s'|.ok _=>False|.error e=>E e s')
   | .again c'=>c'.quiet=true/\bT (aI prog w) A c' (λr s'=>match r with|.ok (.ret v)=>Q v s'|.ok _=>False|.error e=>E e s') s') E s:=by
  show aH _ A.in1 (mh "min" ["key","default"] 0 ⟨[],[]⟩ >>= _) _ _ s;refine ab<|j8 (show mh "min" ["key","default"] 0 ⟨[],[]⟩=aS [none,none]from rfl) ?_;refine ab<|ah ?_;refine ab<|jb h (λit s₂ h₂=>?_) λ_ _ e=>e;obtain⟨I,fp,wr,n,P,St,bt,h0,rfl,W,dY,uH,hn,qJ,eY,cK,hQ⟩:=h₂;refine ab<|ck ?_;have iV:s₂.heap.objs.size∉fp:=λhm=>ij _<|uH _ hm;have hS0:h0.get? s₂.heap.objs.size=none:=by
   cases e:h0.get? s₂.heap.objs.size with
   | none=>rfl
   | some o=>exact absurd (bb<|eY _ _ e)<|ij _
  rw[nm];refine ah ⟨gl lh _,alf _ W bt h0 qJ cK s₂.heap.objs.size iV hS0 hn (λb o e=>aj _<|eY b o e) (W.frame _ _ _ dY λb _ o e=>aj _ e) (a7 _ rfl) λv h' tk hP hk=>?_⟩;exact hQ v h' tk hP λb o iR e=>hk b o iR (cf<|bb e)<|aj _ e
 cases yX:Manifest.signature? "min" with
 | none=>exact ah go
 | some Ib=>
  have Kg:Bind.checkArgs "min" Ib ⟨[x],[]⟩=aS ():=by have:=anp x;simpa only [lU,yX]using this
  simp only[Kg];exact ah go
end
def alz{cs:Z U}(h:Cells cs){x y:U}(hx:x∈cs)(hy:y∈cs):Cmp x y:=by obtain⟨r,c,rfl⟩:=h x hx;obtain⟨r',c',rfl⟩:=h y hy;exact⟨True.intro,True.intro,True.intro⟩
def ahm{cs:Z U}(h:Cells cs){x:U}(hx:x∈cs):x.depth<=2:=by obtain⟨r,c,rfl⟩:=h x hx;simp[gk,bj]
section
variable{X:Cx}
def a0b:Z V->Hp->VK->Prop:=λvs H Q=>∃(p:aG)(xs:Z V)(cs:Z U),vs=[.ref p]/\H p=some (.lst xs)/\RepAll H cs xs/\Cells cs/\0<xs.length/\∀v,v∈xs->Q v H
theorem an6(hc:X.calm=true)(hu:X.A.units+64<aV):um X (.builtin "min") a0b:=by
 intro aC s σ H xs us Q I r h;obtain⟨p,xs,cs,rfl,hp,rep,lF,dD,q⟩:=h;obtain⟨u,rfl,r1⟩:=v9 r;cases (show u=aA.ref p from r1);obtain⟨its,rv,pl,hz⟩:=I.list<|SqL.of (K:=X.K) hp;have l1:=rep.length;have l2:=rv.length;obtain⟨as,qG⟩:=RepAll.reads I rep rv;have jE:=rep.lay;have nG:p<s.heap.objs.size:=by obtain⟨o,ho,_⟩:=pl.isList;exact bb ho
 refine aly<|kj pl.isList ?_;have eB:s.heap.get? s.heap.objs.size=none:=by
  cases e:s.heap.get? s.heap.objs.size with
  | none=>rfl
  | some ob=>exact absurd (bb e)<|ij _
 refine(ni _ ([_,p]) ([_]) _ _<|oa _ (λi j=>ltD (cs.getD i .none)<|cs.getD j .none) s.heap ⟨rfl,gN.list (A:=X.A.in1) (I.ok.hd hc) _ p (cf nG) its.toArray,⟨⟨_,a7 _ rfl,rfl,rfl⟩,pl.isList.push _⟩,λb hb=>?_,by simp;lia,λb hb=>?_,λb o e=>aj _ e,λi j vi vj s' Q' E' kp hi hj hq=>?_,λv h' tk hP hk=>?_⟩)
 .rw[Heap.size_push];rcases a6.mp hb with rfl|hb
  .exact Nat.lt_succ_self _
  .rw[ay.mp hb];exact km nG
 .rw[ay.mp hb];exact eB
 .have fM:its[i]?=some vi:=by simpa using hi
  have pM:its[j]?=some vj:=by simpa using hj
  have li:i<cs.length:=by have:=(ak.mp fM).1;lia
  have lj:j<cs.length:=by have:=(ak.mp pM).1;lia
  obtain⟨bs,rd⟩:=uf qG fM<|af li;obtain⟨Bv,yR⟩:=uf qG pM<|af lj;have e1:cs.getD i .none=cs[i]:=by rw[dz,af li];rfl
  have e2:cs.getD j .none=cs[j]:=by rw[dz,af lj];rfl
  have hq:Q' (.bool<|ltD (cs.getD i .none)<|cs.getD j .none) s':=hq;rw[e1,e2]at hq;have m1:=fj li;have m2:=fj lj;have d1:=ahm lF m1;refine ad9 _ _ (alz lF m1 m2) X.A.in1 s' vi vj bs Bv (k5 kp rd) (k5 kp yR) (xn jE _ m1) (xn jE _ m2) ?_ _ _ _ _ hq;have:=jk (cs[i]).depth (cs[j]).depth;show X.A.units+1+_<_;lia
 .obtain⟨j,hv⟩:∃j:Nat,its[j]?=some v:=⟨_,by simpa using hP⟩;obtain⟨x,hx,rx⟩:∃x,x∈xs/\RelV x v:=by
   have lj:j<xs.length:=by have:=(ak.mp hv).1;lia
   obtain⟨u,h1,h2⟩:=rv.get<|af lj;rw[hv]at h1;cases h1;exact⟨_,fj lj,h2⟩
  refine(nc x H ⟨I.kept λb o e=>hk b o (λz=>?_)<|aj _ e,rx,q x hx⟩);rw[ay.mp z,eB]at e;cases e
end
theorem wv:∀{ns:Z Int} {its:Z aA},Vals (ns.map V.int) its->gH its ns
 | [],_,.nil=>.nil
 | n::ns,_,.cons ⟨t,e⟩ r=>by subst e;exact .cons _ _<|wv r
section
variable{X:Cx}
def a3h(K:aw):V->Z V->Hp->VK->Prop:=λx vs H Q=>∃(l:aG)(ns:Z Int)(k:Int),x=.ref l/\vs=[.int k]/\SqL K H l (ns.map V.int)/\Q (.int (ns.count k:Nat)) H
def aqi:MtR X "list.count" (a3h X.K):=by intro aC s σ H x vs v us Q I rx rv h;obtain⟨l,ns,k,rfl,rfl,hl,q⟩:=h;cases rx;obtain⟨u,rfl,t,rfl⟩:=rv.one;obtain⟨its,r,pl,hz⟩:=I.list hl;exact count_list_ints pl.isList (wv r)<|nc (.int _) H ⟨I.tok _,⟨_,rfl⟩,q⟩
def a1a(K:aw):R2:=λx y H Q=>∃a b xs ys,x=.ref a/\y=.ref b/\SqT K H a xs/\SqT K H b ys/\xs.length+ys.length<=aF/\
 (xs=[]->Q (.ref b) H)/\(xs≠[]->ys=[]->Q (.ref a) H)/\(xs≠[]->ys≠[]->∀p,H p=none->Q (.ref p) (upd H p<|.tup<|xs++ys))
def at8:OpR X (dP .Add) (a1a X.K):=by
 intro aC s σ H x y v u Q I rx ry h;obtain⟨a,b,xs,ys,rfl,rfl,ha,hb,hz,q0,q1,q2⟩:=h;cases rx;cases ry;obtain⟨its,r1,p1,_⟩:=I.tuple ha;obtain⟨pC,r2,p2,_⟩:=I.tuple hb;by_cases hx:xs=[]
 .have hv:its=[]:=r1.nil_iff.mpr hx;obtain⟨⟨cls,dd,data,sl⟩,ho,hc,n,hd⟩:=p1;obtain⟨⟨D4,uL,data2,wQ⟩,zF,pO,n2,jH⟩:=p2;simp only at hc hd pO jH;subst hc hd pO jH;exact uM ⟨_,ho,rfl⟩ ⟨_,zF,rfl⟩ lM qD PySem.F.slot_tuple_add PySem.F.entry_tuple_add (PySem.F.args_tuple_add_2 _ _)
   (tuple_addW0 a b its.toArray pC.toArray n n2 dd uL sl wQ<|by simp[hv]) ⟨ho,zF,(nc (.ref b) H ⟨I,rfl,q0 hx⟩)⟩
 .refine HT.cat_tup p1 p2 (λz=>hx<|r1.nil_iff.mp z) (λz=>(nc (.ref a) H ⟨I,rfl,q1 hx<|r2.nil_iff.mp z⟩)) (λz=>?_) (by rw[<-r1.length,<-r2.length];exact hz);refine(nc (.ref s.heap.objs.size) _ ⟨I.laid (t':=s.toks) (o:=.tup<|xs++ys) (λb ob q=>aj _ q) (ao _) ?_,rfl,q2 hx (λe=>z<|r2.nil_iff.mpr e) _<|I.hok.fresh<|ao _⟩);exact⟨by rw[bo];exact hz,_,r1.append r2,lB.new _ _⟩
def a2n:R2:=λx y H Q=>∃a b xs ys,x=.ref a/\y=.ref b/\H a=some (.tup xs)/\H b=some (.tup ys)/\xs.length+ys.length<=aF/\∀c H',Same H H'->H' c=some (.tup<|xs++ys)->Q (.ref c) H'
def auw:OpR X (dP .Add) a2n:=by
 intro aC s σ H x y v u Q I rx ry h;obtain⟨a,b,xs,ys,rfl,rfl,ha,hb,hz,q⟩:=h;refine at8 aC s σ H _ _ v u Q I rx ry<|ny a b xs ys ⟨rfl,rfl,SqT.of ha,SqT.of hb,hz,λe=>?_,λ_ e=>?_,λ_ _ p hp=>?_⟩
 .subst e;exact q b H (Same.refl _) hb
 .subst e;exact q a H (Same.refl _)<|by rw[df];exact ha
 .exact q p _ (Same.fresh _ hp) m8
def a0h:V->Option Int->Option Int->Hp->VK->Prop:=λx lo hi H Q=>∃a xs,x=.ref a/\H a=some (.tup xs)/\∀c H',Same H H'->H' c=some (.tup<|lH xs lo hi)->Q (.ref c) H'
def LY:SlR X a0h:=by
 intro aC s σ H x v vl vu lo hi sl Q I rx hs pl pu h;obtain⟨a,xs,rfl,ha,q⟩:=h;refine avj aC s σ H _ v vl vu lo hi sl Q I rx hs pl pu<|nc a xs ⟨rfl,SqT.of ha,λe=>?_,λ_ p hp=>?_⟩
 .refine q a H (Same.refl _) ?_;have:lH xs lo hi=xs:=by unfold lH;rw[e.1,e.2];simp
  rw[this];exact ha
 .exact q p _ (Same.fresh _ hp) m8
end
noncomputable def ltX:U->U->Bool
 | .str a,.str b=>decide (a.cps.toList<b.cps.toList)
 | _,_=>false
def a3b{ds:Z U}(h:∀d∈ds,∃z,d=.str z):wF ltX ds:=⟨λx hx y hy q=>by
  obtain⟨a,rfl⟩:=h x hx;obtain⟨b,rfl⟩:=h y hy;exact decide_eq_false<|List.lt_asymm<|of_decide_eq_true q,λx hx y hy z hz q1 q2=>by
  obtain⟨a,rfl⟩:=h x hx;obtain⟨b,rfl⟩:=h y hy;obtain⟨c,rfl⟩:=h z hz;have h1:a.cps.toList<=b.cps.toList:=of_decide_eq_false q1;have h2:b.cps.toList<=c.cps.toList:=of_decide_eq_false q2;exact decide_eq_false<|List.le_trans h1 h2⟩
section
variable{X:Cx}
def agr:um X (.builtin "sorted") (λvs H Q=>∃p xs ds,vs=[.ref p]/\H p=some (.lst xs)/\RepAll H ds xs/\(∀d∈ds,∃z,d=.str z)/\
  ∀l ys es,H l=none->es.Perm ds->es.Pairwise (λx y=>ltX y x=false)->RepAll (upd H l<|.lst ys) es ys->Q (.ref l) (upd H l<|.lst ys)):=by
 intro aC s σ H xs us Q I r h;obtain⟨p,xs,ds,rfl,hp,cS,CY,q⟩:=h;obtain⟨u,rfl,r1⟩:=v9 r;cases (show u=aA.ref p from r1);obtain⟨its,rv,pl,hz⟩:=I.list<|SqL.of (K:=X.K) hp;have l1:xs.length=ds.length:=cS.length;have l2:xs.length=its.length:=rv.length;have Am:∀(i:Nat)(d:U)(u:aA),ds[i]?=some d->its[i]?=some u->∃z t,d=.str z/\u=.str z t:=λi d u hd hu=>by obtain⟨x,e1,e2⟩:=cS.get hd;obtain⟨u',e3,e4⟩:=rv.get e1;rw[hu]at e3;cases e3;obtain⟨z,rfl⟩:=CY d<|ai hd;obtain⟨rfl,_⟩:=e2;obtain⟨t,rfl⟩:=e4;exact⟨z,t,rfl,rfl⟩
 refine MR (κ:=oneType') (lt:=ltX) I cS rv (by lia) (LX pl.isList<|by lia) (a3b CY) (λh2 s' k Q' E' hq=>?_) (λs' k i j d e u v ui di vj dj Q' hq=>?_) q
 .refine PySem.W.kas_kind (T:=aA.type "str") h2 (λv hv=>?_) (by decide) rfl hq;obtain⟨i,hi⟩:=fg.mp hv;obtain⟨z,t,_,rfl⟩:=Am i _ v (af<|by have:=(ak.mp hi).1;lia) hi;exact PySem.W.Looks.of_pure rfl
 .obtain⟨z,t,rfl,rfl⟩:=Am i d u di ui;obtain⟨z',t',rfl,rfl⟩:=Am j e v dj vj;exact PySem.W.kas_lt_str hq
end
def azh(X:Cx)(i:Nat)(t:TA):TE:=λσ H Q=>∃f k fd ps sp,σ[i]?=some (some<|.ref f)/\rn X.prog X.w X.K X.mg X.base CX0 k f fd ps sp/\Room k X.A/\lm X.K (.ref f)=true/\Binds X.K fd ps []/\t σ H λvs H1=>sp vs H1 Q E0
section
variable{X:Cx}{x:Str}{p pos:dH}{e:Expr}{es:Z Expr}{t:TA}{i:Nat}
def ax4(hN:X.N[i]?=some x)(hv:Vis X.env.scope x)(ha:PA X (e::es) t)(hd:(x==("__debug__" : Str))=false:=by decide)(oQ:(x==("__classdict__" : Str))=false:=by decide)(h1:o8 e=true:=by rfl)(h2:es.all o8=true:=by rfl) :
  PE X (.Call (.Name x p) (e::es) [] pos) (azh X i t):=by
 intro aC s σ H Q I h;obtain⟨f,k,fd,ps,sp,e1,F,hr,hk,hb,q⟩:=h;refine jn<|thn (asz (pos:=p) hN hv hd oQ aC s σ H (λv H1=>v=.ref f/\H1=H) I ⟨_,e1,rfl,rfl⟩) λu s1 ⟨v,H1,I1,r,ev,eH⟩=>?_;subst ev eH;cases (show u=aA.ref f from r);refine PySem.W.callWith_K (h₀:=X.base) I1.ok.mod.kin hk (thn (ha pos aC s1 σ _ _ I1 q) λus s2 ⟨vs,H2,I2,r2,q2⟩=>⟨I2.kIn,?_⟩) (qa h1)<|vz h2;exact at3 F hr hb .nil ayr I2 r2<|by rw[df];exact q2
end
section
variable{X:Cx}
def a1l:V->Z V->Hp->VK->Prop:=λx vs H Q=>∃(l:aG)(xs:Z V)(v:V)(ds:Z U)(d:U),x=.ref l/\vs=[v]/\H l=some (.lst xs)/\RepAll H ds xs/\Rep H d v/\d.depth<=50/\Q (.int (ds.countP (λe=>bn e d):Nat)) H
theorem amu(hu:X.A.units+64<aV):MtR X "list.count" a1l:=by
 intro aC s σ H x vs v us Q I rx rv h;obtain⟨l,xs,v',ds,d,rfl,rfl,hl,rep,rd,DB,q⟩:=h;cases rx;obtain⟨u,rfl,ru⟩:=rv.one;obtain⟨bs,r2⟩:=rd.reads I ru;obtain⟨as,r1⟩:=Rep.reads I (d:=.list ds) (v:=.ref l) (u:=.ref l) (nc l xs ⟨rfl,hl,rep⟩) rfl;have room:X.A.units+1+kF (bj ds) d.depth<aV:=by have:=Nat.min_le_right (bj ds) d.depth;lia
 cases r1 with
 | @list _ o vs n _ as' h1 h2 h3 h4=>
  obtain⟨cls,dd,data,sl⟩:=o;simp only at h2 h3;subst h2 h3;refine Br PySem.F.slot_list_count ⟨_,h1,rfl⟩ PySem.F.entry_list_count (PySem.F.args_list_count_2 _ _) (SeqAt.list_countAt l vs n dd sl u λy=>bn (SeqAt.readOf s.heap y) d) ⟨h1,λy hy=>?_,?_⟩
  .exact SeqAt.items_eqAt h4 r2 rep.lay rd.lay room y hy
  .have e:vs.toList.countP (λy=>bn (SeqAt.readOf s.heap y) d)=ds.countP λe=>bn e d:=by
    rw[<-SeqAt.readsAll_map ds _ _ rep.lay h4,List.countP_map];rfl
   rw[e];exact nc (.int _) H ⟨I.tok _,⟨_,rfl⟩,q⟩
end
section
variable{X:Cx}{aC:Z (aG×Obj)}{s:aB}{σ:L2.St}{H:Hp}
theorem aek(hc:X.calm=true):um X (.builtin "sorted") (λvs H Q=>∃a kvs ks,vs=[.ref a]/\H a=some (.dT kvs)/\(∀kv∈kvs,KOk kv.1)/\Rows ks (kvs.map λkv=>kT kv.1)/\kvs.length<=4000/\
  ∀l ys es,H l=none->es.Perm (kvs.map λkv=>kT kv.1)->es.Pairwise (λx y=>ltR y x=false)->(kvs.map (·.1)).Nodup->RepAll (upd H l<|.lst ys) es ys->Q (.ref l) (upd H l<|.lst ys)):=by
 intro aC s σ H xs us Q I r h;obtain⟨a,kvs,ks,rfl,ha,hko,fP,h4,q⟩:=h;obtain⟨u,rfl,r1⟩:=v9 r;cases (show u=aA.ref a from r1);obtain⟨hz,lo,xs,kt,o,es,ep,ho,kK,jG,Dx,_,lQ⟩:=aw3 I.hok ha;have pl:∀{l:Z (Z Key×V)} {m:Z (Z Key×aG×aA)},KT H l m->(∀kv∈l,KOk kv.1)->RepAll H (l.map λkv=>kT kv.1) (m.map λx=>V.ref x.2.1)/\Vals (m.map λx=>V.ref x.2.1) (m.map λx=>aA.ref x.2.1)/\m.length=l.length:=by
  intro l m k;induction k with
  | nil=>intro _;exact⟨rfl,.nil,rfl⟩
  | @cons p q ps qs hq t ih=>
   intro hk;obtain⟨i1,i2,i3⟩:=ih λkv pK=>hk kv<|ar _ pK;exact⟨⟨_,_,rfl,⟨_,_,rfl,hq.2.1,Mq<|hk p aq⟩,i1⟩,.cons rfl i2,by rw[bx,bx,i3]⟩
 obtain⟨cS,rv,lx⟩:=pl kt hko;have ek:∀{l:Z (Z Key×V)} {m:Z (Z Key×aG×aA)},KT H l m->l.map (·.1)=m.map (·.1):=by
  intro l m k;induction k with
  | nil=>rfl
  | @cons p q ps qs hq t ih=>rw[cm,cm,ih,hq.1]
 rw[<-ek kt]at lQ;generalize hys:(xs.map λx=>V.ref x.2.1)=ys at *;generalize uI:(kvs.map λkv=>kT kv.1)=ds at *;have bB:ds.length=kvs.length:=by rw[<-uI,ae]
 have oH:es.toList.map (·.key)=xs.map λx=>aA.ref x.2.1:=by rw[Dx,bf];rfl
 generalize (xs.map λx=>aA.ref x.2.1)=its at *;have esz:es.size=kvs.length:=by rw[<-a9,Dx,ae,lx]
 have:=cS.length;refine acr I cS rv fP (by lia) (λQ' E' hq=>PySem.W.kdu_collect (A:=X.A.in1) (a3r lo) (I.ok.hd hc) ⟨o,ho,kK,jG⟩ (by rw[cD];lia) λh1 tk acc k1 tG=>?_) λl ys es hl pe up re=>q l ys es hl pe up lQ re;have KH:acc.toList=its:=by
  rw[<-oH];apply List.ext_getElem?;intro i;rw[ax,bi,bi];by_cases hi:i<acc.size
  .obtain⟨e,e1,e2⟩:=tG.2 i _<|b8 hi;rw[e1,b8 hi,e2];rfl
  .rw[lv (by lia),lv<|by have:=tG.1;lia];rfl
 rw[KH];exact hq h1 tk k1
end
def TI1(d:U):Prop:=∃(n:Int)(r:Z U),d=.tuple (.int n::r)
theorem ajy{h:Heap}:∀(os:Z aA)(ds:Z U),os.length=ds.length->(∀(i:Nat) v d,os[i]?=some v->ds[i]?=some d->TI1 d/\∃as,Reads h v d as)->
  ∃fs:Z aA,kn h os fs/\fs.length=os.length/\∀v∈fs,∃i t,v=aA.int i t
 | [],_,_,_=>⟨[],trivial,rfl,λv hv=>by cases hv⟩
 | v::os,[],hl,_=>by cases hl
 | v::os,d::ds,hl,hr=>by
  obtain⟨⟨n0,bA,rfl⟩,as,rd⟩:=hr 0 v d rfl rfl;obtain⟨fs,k1,k2,k3⟩:=ajy os ds (by simpa using hl) λi v d h1 h2=>hr (i+1) v d (by simpa using h1) (by simpa using h2);cases rd with
  | @tuple a o vs n _ _ e1 e2 e3 z=>
   generalize hv:vs.toList=vl at z;cases z with
   | cons ra rb=>
    cases ra with
    | int _ t=>
     refine⟨.int n0 t::fs,kn.cons e1 e2 e3 (by rw[<-bi,hv];rfl) k1,by rw[bx,bx,k2],λv hv=>?_⟩;rcases a6.mp hv with rfl|hv
     .exact⟨n0,t,rfl⟩
     .exact k3 v hv
section
variable{prog:aM}{w:aN}{A:Around}{s:aB}{E:aA->aB->Prop}
theorem av7{u v:aA}{x y:U}{as bs:Z aG}(r1:Reads s.heap u x as)(r2:Reads s.heap v y bs)(hx:TI1 x)(hy:TI1 y)(l1:x.canLay0=true)(l2:y.canLay0=true)(hc:Cmp x y)
  (hu:A.units+kF x.depth y.depth<aV) {Q:Bool->aB->Prop} (q:Q (ltD x y) s):aH (aI prog w) A (jT (kQ true) u v) Q (λ_ _=>False) s:=by
 obtain⟨a,xr,rfl⟩:=hx;obtain⟨b,yr,rfl⟩:=hy;cases r1 with
 | @tuple ad o vs n _ _ e1 e2 e3 z=>
  cases r2 with
  | @tuple ad' o' yJ n' _ _ f1 f2 f3 z'=>
   have k1:=ix _ _ _ z;have k2:=ix _ _ _ z';have pa:=vh _ _ hc A s _ _ _ _ z z' l1 l2 (by
    have h1:(PyData.tuple (.int a::xr)).depth=bj (.int a::xr)+1:=rfl;have h2:(PyData.tuple (.int b::yr)).depth=bj (.int b::yr)+1:=rfl;rw[h1,h2]at hu;lia)
   refine PySem.W.kat_lt e1 e3 f1 f3 ?_;rw[<-a9,<-a9];generalize vs.toList=vl at *;generalize yJ.toList=wl at *;cases z with
   | cons ra rb=>
    cases z' with
    | cons ra' rb'=>
     cases ra with
     | int _ t=>
      cases ra' with
      | int _ t'=>
       obtain⟨_,_,hp⟩:=pa;rw[lw];refine PySem.W.kat_cons<|SeqAt.EqAt.int_int a t b t' prog w _ _ ?_;have q':Q (if bn (.int a) (.int b)=true then ltL xr yr else ltD (.int a) (.int b)) s:=q;have e:bn (.int a) (.int b)=(a==b):=rfl;rw[e]at q';cases hb:(a==b)with
       | true=>
        rw[hb,if_pos rfl]at q';refine PySem.W.kat_yes<|Mv xr yr _ _ 1 (.inr<|by decide) (by simpa using k1) (by simpa using k2) hp ?_ q';simp only[bx]at k1 k2⊢;simp only[decide_eq_decide];lia
       | false=>
        rw[hb,if_neg am]at q';exact PySem.W.kat_no<|oneLt_int q'
end
def aon{prog:aM}{w:aN}{A B:Around}{ds:Z U}(hu:B.units+64<aV)(hB:A=B.in1.in1)(cB:∀d∈ds,tR d/\TI1 d)(cK:CmpA ds):L8 prog w A (kQ true) ltD ds where
 ord:=Mj cK
 kind:=λs os bP hs hl h2 r Q E q=>by
  obtain⟨fs,k1,k2,k3⟩:=ajy (h:=s.heap) os bP hl λi v d h1 h2=>by obtain⟨bs,rd⟩:=r i v d h1 h2;exact⟨(cB d<|hs d<|ai h2).2,bs,rd⟩
  refine PySem.W.kat_kind (T:=aA.type "int") k1 (by lia) (λv hv=>?_) rfl q;obtain⟨i,t,rfl⟩:=k3 v hv;exact PySem.W.Looks.of_pure rfl
 key:=λs u v d e as bs hd he r1 r2 l1 l2 Q q=>by refine av7 r1 r2 (cB _ hd).2 (cB _ he).2 l1 l2 (cK.1 _ hd _ he) ?_ q;have:=(cB _ hd).1.2.2;have:=jk d.depth e.depth;subst hB;show B.units+1+1+_<_;lia
section
variable{X:Cx}
def aga(hu:X.A.units+64<aV):um X (.builtin "sorted") (λvs H Q=>∃p xs ds,vs=[.ref p]/\H p=some (.lst xs)/\RepAll H ds xs/\(∀d∈ds,tR d/\TI1 d)/\CmpA ds/\
  ∀l ys es,H l=none->es.Perm ds->RepAll (upd H l<|.lst ys) es ys->Q (.ref l) (upd H l<|.lst ys)):=by
 intro aC s σ H xs us Q I r h;obtain⟨p,xs,ds,rfl,hp,cS,cB,cK,q⟩:=h;obtain⟨u,rfl,r1⟩:=v9 r;cases (show u=aA.ref p from r1);obtain⟨its,rv,pl,hz⟩:=I.list<|SqL.of (K:=X.K) hp;have l1:xs.length=ds.length:=cS.length;have l2:xs.length=its.length:=rv.length;obtain⟨as,qG⟩:=RepAll.reads I cS rv;have sa:=aon (prog:=X.prog) (w:=X.w) hu (A:=X.A.in1.in1) rfl cB cK;have jE:=cS.lay;refine acw (κ:=kQ true) (lt:=ltD) I hp cS rv pl.isList (by lia) sa.ord (λh2 s' k Q' E' hq=>?_) (λs' k i j d e u v di ui dj vj Q' hq=>?_) λl ys es hl pe _ re=>q l ys es hl pe re
 .refine sa.kind s' its ds (λd hd=>hd) (by lia) h2 (λi v d h1 h2=>?_) Q' E' hq;obtain⟨bs,rd⟩:=uf qG h1 h2;exact⟨bs,k5 k rd⟩
 .obtain⟨bs,rd⟩:=uf qG ui di;obtain⟨Bv,yR⟩:=uf qG vj dj;exact sa.key s' u v d e bs Bv (ai di) (ai dj) (k5 k rd) (k5 k yR) (xn jE _<|ai di) (xn jE _<|ai dj) Q' hq
end
def awi{prog:aM}{w:aN}{A:Around}{E:aA->aB->Prop}{h:Heap}{g:Array iH}{d:Drawn}{t:Nat}{os:OsState}{a:aG}{its:Array aA}{n:Nat}{Q:Option aA->aB->Prop}(ho:h.get? a=some {cls:=.type "list",data:=.seq its n})(hh:A.handled=none)
   (q:∀h' t',(∀b o,h.get? b=some o->h'.get? b=some o)->t<=t'->Q none {heap:=h',gens:=g,drawn:=d,toks:=t',os:=os}):aH (aI prog w) A (getAttr? (.ref a)<|bm "keys") Q E {heap:=h,gens:=g,drawn:=d,toks:=t,os:=os}:=by
 have hT:({heap:=h,gens:=g,drawn:=d,toks:=t+1,os:=os}:aB).TypeIs (.ref a) "list":=⟨_,ho,rfl⟩;unfold getAttr? getAttrBy? getAttrBy;refine ab<|wpAny_mkText<|ab<|jv<|ff<|ab<|jj hT ?_;refine ab<|j8 F.slot_list_getattribute.lookup ?_;dsimp only;rw[if_neg (by decide)];unfold getAttrByItsOwn;refine ab<|ah (a:=none)<|ab<|jv<|ff ?_;refine(?_:aH _ _ (boundAndCalled _ _ _) _ _ _);unfold boundAndCalled;refine ab<|j8 (F.slot_list_getattribute.bind<|.ref a) ?_;dsimp only;refine jP<|eD F.slot_list_getattribute.plain F.entry_list_ga<|F.slot_list_getattribute.check _ _ _ _ _ _ _ _ hT (F.args_list_getattribute_2 _ _) ?_;unfold Builtin.«object.__getattribute__»;refine ab<|ah<|ab<|ah<|ab<|jj hT ?_;have e1:fZ (aA.type "list") (bm "keys")=aS none:=by kernel_rfl
 unfold Builtin.ObjectAttr.find;refine ab<|ab<|j8 e1 ?_;have ld:({heap:=h,gens:=g,drawn:=d,toks:=t+1,os:=os}:aB).heap.get? a=some {cls:=.type "list",data:=.seq its n}:=ho;unfold Builtin.ObjectAttr.getOf Builtin.ObjectAttr.dataDescriptor?
 wp_walk
 have hm:(bm (bO "'" ++ bO ((Manifest.find? "list").elim "list" λx=>x.tpName)++bO "' object has no attribute '")++bm "keys" ++ bm "'").length<=aF:=by decide +kernel
 generalize (bm _++bm "keys" ++ bm "'")=msg at hm⊢;have pF:isSubtype (aA.type "AttributeError") (aA.type "AttributeError")=aS true:=by kernel_rfl
 unfold raiseAttrError jS
 wp_walk
 have A9:A.in1.handled=none:=hh;have e2:fZ (aA.type "list") (bm "__getattr__")=aS none:=by kernel_rfl
 unfold kR
 wp_walk
 refine j8 pF ?_;rw[if_pos rfl];unfold hookBehind hookOrError attributeErrorLeaves
 wp_walk
 refine j8 pF ?_;rw[if_pos rfl];refine ah (q _ _ (λb o hb=>?_)<|by lia);rw[b7 _ _ (by
  have h1:=bb hb;rw[size_push'];exact Nat.ne_of_gt<|km h1)]
 exact aj _<|aj _ hb
noncomputable abbrev KE3:=U×aG×aA
noncomputable def x8(ps:Z KE3):Z KE3:=ps.foldl (λys p=>eO ys p.1 p.2.1 p.2.2) []
def MS(ps:Z KE3)(p:KE3):x8 (ps++[p])=eO (x8 ps) p.1 p.2.1 p.2.2:=by unfold x8;rw[kq];rfl
def ak7(ys:Z KE3)(d:U)(b:aG)(v:aA):(eO ys d b v).length<=ys.length+1:=by
 unfold eO;split
 .rw[ae];lia
 .rw[bo];exact ao _
section
variable{prog:aM}{w:aN}{A:Around}{R:iF->aB->Prop}{I:aG}{fp wr:Z aG}{G:Array iH->Array iH->Prop}{n:Nat}{P:Nat->aA->Prop}{St:Nat->aB->Prop}
def ago:entryFor table "dict.update.loop" = some Builtin.«dict.update.loop»:=by kernel_rfl
def zm:plainId "dict.update.loop" = true:=by kernel_rfl
def anr{h h':Heap}{D:aG}{ys:Z KE3}(x:h.DictOfH (ox prog w) D ys)(hD:∀o,h.get? D=some o->h'.get? D=some o)(hk:∀y∈ys,(ox prog w).is h' y.1 y.2.1):h'.DictOfH (ox prog w) D ys:=by obtain⟨o,es,ep,h1,h2,h3,h4,_,h5⟩:=x;exact⟨o,es,ep,hD o h1,h2,h3,h4,hk,h5⟩
def alh{ys:Z KE3}{d:U}{b:aG}{v:aA}{y:KE3}(h:y∈eO ys d b v):(∃z∈ys,z.1=y.1/\z.2.1=y.2.1)\/(y.1=d/\y.2.1=b):=by
 unfold eO at h;split at h
 .obtain⟨z,hz,e⟩:=au.mp h;refine .inl ⟨z,hz,?_⟩;subst e;unfold putAt;split<;>exact⟨rfl,rfl⟩
 .rcases bw.mp h with h|h
  .exact .inl ⟨y,h,rfl,rfl⟩
  .rw[ay.mp h];exact .inr ⟨rfl,rfl⟩
theorem akn(W:WalksS prog w A.in1 I fp wr G n P St)(D:aG)(hDf:D∉fp)(h0:Heap)(qJ:∀b∈wr,h0.get? b=none)(hD0:h0.get? D=none)
  (ps:Z KE3) (hn:ps.length=n) (sF:∀i v p,P i v->ps[i]?=some p->∃c o m,v=.ref c/\h0.get? c=some o/\o.cls=.type "tuple"/\o.data=.seq #[.ref p.2.1,p.2.2] m/\(ox prog w).is h0 p.1 p.2.1)
  (eY:∀(h:Heap)(d:U)(b:aG),(∀b o,h0.get? b=some o->h.get? b=some o)->(ox prog w).is h0 d b->(ox prog w).is h d b) (hu:A.units+10<aV) (hb:n<=aF) :
  ∀(k i:Nat)(s:aB),n-i=k->i<=n->St i s->Keep h0 s.heap->s.heap.DictOfH (ox prog w) D (x8<|ps.take i)->(∀y∈x8 (ps.take i),(ox prog w).is h0 y.1 y.2.1)->(x8<|ps.take i).length<=i->
   (∀s',EU (D::wr) G s s'->Keep h0 s'.heap->s'.heap.DictOfH (ox prog w) D (x8 ps)->(x8 ps).length<=n->(∀y∈x8 ps,(ox prog w).is h0 y.1 y.2.1)->R (.ok<|.ret .none) s')->
   bT (aI prog w) A (.builtin "dict.update.loop" ⟨[.ref D,.ref I,cW (i:Nat),.none],[]⟩) R s:=by
 have hDw:D∉wr:=λh=>hDf<|W.sub _ h;have mono:∀b∈wr,b∈D::wr:=λb hb=>ar _ hb;have mv:∀{i:Nat} {s s':aB} {ys:Z KE3},St i s->EU wr G s s'->Keep h0 s.heap->s.heap.DictOfH (ox prog w) D ys->(∀y∈ys,(ox prog w).is h0 y.1 y.2.1)->Keep h0 s'.heap/\s'.heap.DictOfH (ox prog w) D ys:=λ{i s s' ys} dY hm hk hD hy=>by have k1:Keep h0 s'.heap:=λb o e=>hm.heap b o (λz=>by rw[qJ b z]at e;cases e)<|hk b o e;exact⟨k1,anr hD (λo e=>hm.heap D o hDw e) λy Fw=>eY _ _ _ k1<|hy y Fw⟩
 intro k;induction k with
 | zero=>
  intro i s hk hi dY zP hD hy bB hR;have eZ:i=n:=by lia
  subst eZ;rw[<-hn,List.take_length]at hD hy bB;refine fc ago (show _ from ?_);rw[cn zm (_:HQ)];show aH _ A.in1 (bC (.ref I) >>= _) _ _ _;refine ab<|W.done s _ _ dY λs' hm=>?_;obtain⟨k1,D1⟩:=mv dY hm zP hD hy;exact ah (hR s' (hm.mono mono) k1 D1 (by lia) hy)
 | succ k ih=>
  intro i s hk hi dY zP hD hy bB hR;have bN:i<n:=by lia
  obtain⟨p,hp⟩:∃p,ps[i]?=some p:=⟨_,af<|by lia⟩;refine fc ago (show _ from ?_);rw[cn zm (_:HQ)];show aH _ A.in1 (bC (.ref I) >>= _) _ _ _;refine ab<|W.item i s _ _ bN dY λv s' hP gU hm=>?_;obtain⟨k1,D1⟩:=mv dY hm zP hD hy;obtain⟨c,o,m,rfl,h1,h2,h3,h4⟩:=sF i v p hP hp;have hT:s'.TypeIs (.ref c) "tuple":=⟨o,k1 _ _ h1,h2⟩;refine(?_:aH _ A.in1 (nF [aA.ref c] _ >>= _) _ _ _);refine ab<|ff<|ab<|kb ?_;unfold Builtin.Dict.pairItems;refine ab<|jj hT ?_;rw[if_pos (by decide)];obtain⟨Iy,wX,CD,rP⟩:=o;simp only at h2 h3;subst h2;subst h3;have ld:=k1 _ _ h1;obtain⟨mJ,g',d',vB,wW⟩:=s';dsimp only at ld;generalize hDS:dictSet=DS
  wp_walk
  subst hDS;have nG:=bB;have zD:ps.take (i+1)=ps.take i++[p]:=by rw[List.take_add_one,hp];rfl
  refine wpAny_dictSet_heap (knd:=ox prog w) (hsz:=by lia) (show A.units+1+8<aV by lia) (eY _ _ _ k1 h4) D1 λh' Bp kH=>?_;have k2:Keep h0 h':=λb o e=>by rw[kH.2 b (λz=>by rw[z,hD0]at e;cases e)];exact k1 b o e
  have uB:∀y∈x8 (ps.take<|i+1),(ox prog w).is h0 y.1 y.2.1:=λy Fw=>by
   rw[zD,MS]at Fw;rcases alh Fw with ⟨z,hz,e1,e2⟩|⟨e1,e2⟩
   .rw[<-e1,<-e2];exact hy z hz
   .rw[e1,e2];exact h4
  have pJ:(x8<|ps.take<|i+1).length<=i+1:=by rw[zD,MS];have:=ak7 (x8<|ps.take i) p.1 p.2.1 p.2.2;lia
  have uL:h'.DictOfH (ox prog w) D (x8<|ps.take<|i+1):=by rw[zD,MS];exact Bp
  refine ah ⟨gl zm _,?_⟩;refine ih (i+1) _ (by lia) bN (W.frame _ _ _ _ gU (Nat.le_add_right _ _) λb hb o e=>?_) k2 uL uB pJ λyP zL IL D'' IK y''=>?_
  .rw[kH.2 b (λh:b=D=>hDf<|by rw[<-h];exact hb)];exact e
  .refine hR yP (EU.trans W.gtrans ((hm.mono mono).then_heap (Nat.le_add_right _ _) λb o hb e=>?_) zL) IL D'' IK y'';rw[kH.2 b (λh:b=D=>hb<|by rw[h];exact aq)];exact e
end
section
variable{prog:aM}{w:aN}{A:Around}{E:aA->aB->Prop}{s:aB}
def avy{h h':Heap}{d:U}{b:aG}(k:∀b o,h.get? b=some o->h'.get? b=some o)(x:(ox prog w).is h d b):(ox prog w).is h' d b:=by obtain⟨k1,k2,k3,as,r⟩:=x;exact⟨k1,k2,k3,as,PyProof.Rows.Reads.keeps k r⟩
theorem ak8{l:aG}{its:Array aA}{m:Nat}{ps:Z KE3}{Q:aA->aB->Prop}
  (hh:A.handled=none) (hl:s.heap.get? l=some {cls:=.type "list",data:=.seq its m}) (hn:its.size=ps.length)
  (hE:∀(i:Nat)(v:aA)(p:KE3),its[i]?=some v->ps[i]?=some p->∃c o m,v=.ref c/\s.heap.get? c=some o/\o.cls=.type "tuple"/\o.data=.seq #[.ref p.2.1,p.2.2] m/\(ox prog w).is s.heap p.1 p.2.1) (hu:A.units+20<aV) (hb:ps.length<=aF)
  (h:∀(h':Heap)(tk:Nat),h'.DictOfH (ox prog w) s.heap.objs.size (x8 ps)->(x8 ps).length<=ps.length->Keep s.heap h'->s.toks<=tk->Q (.ref s.heap.objs.size) {s with heap:=h',toks:=tk}) :
  aH (aI prog w) A (call (.type "dict") [.ref l]) Q E s:=by
 refine callType_codes (Q₁:=λobj s₁=>obj=.ref s.heap.objs.size/\s₁={s with heap:=s.heap.push {cls:=.type "dict",data:=.dict #[]}}) F.kt_called_dict (F.kt_typeCall_dict_1 _) F.entry_dict_init (kt_code_dict_new _ ⟨rfl,rfl⟩) ?_;rintro obj s₁ ⟨rfl,rfl⟩;have kp:∀c x,s.heap.get? c=some x->(s.heap.push {cls:=.type "dict",data:=.dict #[]}).get? c=some x:=λc x z=>aj _ z;have sS:(s.heap.push {cls:=.type "dict",data:=.dict #[]}).get? s.heap.objs.size=some {cls:=.type "dict",data:=.dict #[]}:=a7 _ rfl;have tyN:({s with heap:=s.heap.push {cls:=.type "dict",data:=.dict #[]}}:aB).TypeIs (.ref s.heap.objs.size) "dict":=⟨_,sS,rfl⟩;have tyL:({s with heap:=s.heap.push {cls:=.type "dict",data:=.dict #[]}}:aB).TypeIs (.ref l) "list":=⟨_,kp _ _ hl,rfl⟩;refine⟨tyN,F.args_dict_init_2 _ _,?_⟩;unfold Builtin.«dict.__init__»;refine ab ?_;unfold Builtin.Dict.selfAndRest;refine ab<|uX tyN ?_;show aH _ _ (aS (s.heap.objs.size,[aA.ref l])) _ _ _;refine ah ?_;show aH _ _ (Builtin.Dict.updateFrom "dict.__init__" s.heap.objs.size (.ref l) [] .none) _ _ _;unfold Builtin.Dict.updateFrom;refine ab<|jj tyL ?_;rw[if_pos (by decide)];have hh2:A.in1.in1.handled=none:=hh;refine ab<|awi (kp _ _ hl) hh2 λh1 t1 k1 CW=>?_;rw[if_pos (show(none:Option aA).isNone=true from rfl)];have Dl:l<s.heap.objs.size:=bb hl;have iA:h1.get? l=some {cls:=.type "list",data:=.seq its m}:=k1 _ _<|kp _ _ hl;have il:h1.IsList l its:=⟨_,iA,rfl,m,rfl⟩;have jJ:=k1 _ _ sS;have HZ:s.heap.objs.size<h1.objs.size:=bb jJ;refine ab<|jm<|ab<|kj il ?_;have eB:∀b,s.heap.objs.size<=b->s.heap.get? b=none:=λb eW=>by
  cases hq:s.heap.get? b with
  | none=>rfl
  | some ob=>exact absurd (bb hq)<|Nat.not_lt.mpr eW
 have JK:A.in1.in1.handled=none:=hh;have zH:l≠h1.objs.size:=cf<|Nat.lt_trans Dl HZ;have iV:s.heap.objs.size∉[h1.objs.size,l]:=by simp only[a6,f9,or_false,not_or];exact⟨cf HZ,Nat.ne_of_gt Dl⟩
 refine ah ⟨gl zm _,?_⟩;refine akn (A:=A.in1) ((gN.list JK _ l zH its).toS) s.heap.objs.size iV s.heap (λb eW=>eB b<|by rw[ay.mp eW];exact gx HZ) (eB _<|ao _) ps hn.symm (λi v p hP hp=>hE i v p hP hp) (λh d b k x=>avy k x)
  (by show A.units+1+10<aV;lia) (by lia) (its.size-0) 0 _ (by lia) (fk _) ⟨⟨_,a7 _ rfl,rfl,rfl⟩,il.push _⟩ (λb o e=>aj _<|k1 _ _<|kp _ _ e) ?hD0 (λy hy=>by rw[List.take_zero]at hy;cases hy) (by rw[List.take_zero];exact ao _) ?hR
 case hD0=>
  rw[List.take_zero];exact⟨_,#[],0,aj _ jJ,⟨rfl,rfl,rfl⟩,rfl,rfl,(λy hy=>by cases hy),List.nodup_nil⟩
 case hR=>
  intro s' hm k' D' l' y';obtain⟨h',g',d',vB,wW⟩:=s';have eg:g'=s.gens:=hm.gens;have ed:d'=s.drawn:=hm.drawn;have eo:wW=s.os:=hm.os;subst eg;subst ed;subst eo;exact⟨rfl,h h' vB D' (by rw[hn]at l';exact l') k'<|gw CW hm.toks⟩
end
noncomputable def qW(ps:Z KA):Z KA:=ps.foldl (λxs p=>wH xs p.1 p.2.1 p.2.2) []
def akm(ps:Z KA)(p:KA):qW (ps++[p])=wH (qW ps) p.1 p.2.1 p.2.2:=by unfold qW;rw[kq];rfl
theorem aou{ps:Z KA}{qs:Z KE3}(r:KAR ps qs):KAR (qW ps) (x8 qs):=by
 have:∀{ps:Z KA} {qs:Z KE3},KAR ps qs->∀{a:Z KA} {b:Z KE3},KAR a b->KAR (ps.foldl (λxs p=>wH xs p.1 p.2.1 p.2.2) a) (qs.foldl (λys p=>eO ys p.1 p.2.1 p.2.2) b):=by
  intro ps qs r;induction r with
  | nil=>intro a b h;exact h
  | @cons p q ps qs zB t ih=>
   intro a b h;rw[List.foldl_cons,List.foldl_cons];refine ih ?_;rw[<-zB.1,<-zB.2.1];exact h.put p.1 zB.2.2
 exact this r .nil
theorem apf{ps:Z KA}{x:KA}(h:x∈qW ps):∃p∈ps,p.1=x.1/\p.2.1=x.2.1:=by
 have:∀(ps a:Z KA),x∈ps.foldl (λxs p=>wH xs p.1 p.2.1 p.2.2) a->(∃p∈a,p.1=x.1/\p.2.1=x.2.1)\/∃p∈ps,p.1=x.1/\p.2.1=x.2.1:=by
  intro ps;induction ps with
  | nil=>intro a h;exact .inl ⟨x,h,rfl,rfl⟩
  | cons p ps ih=>
   intro a h;rw[List.foldl_cons]at h;rcases ih _ h with ⟨y,hy,e1,e2⟩|⟨y,hy,e⟩
   .rcases apt hy with ⟨z,hz,e3,e4⟩|⟨e3,e4⟩
    .exact .inl ⟨z,hz,e3.trans e1,e4.trans e2⟩
    .exact .inr ⟨p,aq,e3.symm.trans e1,e4.symm.trans e2⟩
   .exact .inr ⟨y,ar _ hy,e⟩
 rcases this ps [] h with ⟨_,h,_⟩|h
 .cases h
 .exact h
section
variable{X:Cx}{aC:Z (aG×Obj)}{σ:L2.St}{H:Hp}{s:aB}
theorem ajo(I:Inv X aC σ H s):∀(ps:Z KA)(xs:Z V)(us:Z aA),Vals xs us->xs.length=ps.length->(∀(i:Nat) x p,xs[i]?=some x->ps[i]?=some p->∃c,x=.ref c/\H c=some (.tup [.ref p.2.1,p.2.2])/\KRep H p.1 p.2.1)->
  ∃qs:Z KE3,KAR ps qs/\∀(i:Nat)(v:aA)(q:KE3),us[i]?=some v->qs[i]?=some q->∃c o m,v=.ref c/\s.heap.get? c=some o/\o.cls=.type "tuple"/\o.data=.seq #[.ref q.2.1,q.2.2] m/\(ox X.prog X.w).is s.heap q.1 q.2.1
 | [],_,_,_,_,_=>⟨[],.nil,λi v q _ h=>by cases h⟩
 | p::ps,[],_,_,hl,_=>by cases hl
 | p::ps,x::xs,_,.cons (b:=u) r rs,hl,hp=>by
  obtain⟨qs,k1,k2⟩:=ajo I ps xs _ rs (by simpa using hl) λi y q h1 h2=>hp (i+1) y q h1 h2;obtain⟨c,rfl,hc,hk⟩:=hp 0 x p rfl rfl;cases (show u=aA.ref c from r);obtain⟨hz,its,rv,o,ho,zT,n,jG⟩:=(show ObjOk X.prog X.w H s.heap c (.tup [.ref p.2.1,p.2.2])from I.hok c _ hc);cases rv with
  | cons r1 rv=>
   cases rv with
   | cons r2 rv=>
    cases rv
    rename_i u1 u2
    cases (show u1=aA.ref p.2.1 from r1);refine⟨(p.1,p.2.1,u2)::qs,.cons ⟨rfl,rfl,r2⟩ k1,λi v q h1 h2=>?_⟩;cases i with
    | zero=>
     cases h1;cases h2;exact⟨c,o,n,rfl,ho,zT,jG,hk.at I⟩
    | succ i=>exact k2 i v q h1 h2
end
section
variable{X:Cx}
def azp(w:aN):Z V->Hp->VK->Prop:=λvs H Q=>∃(l:aG)(xs:Z V)(ps:Z KA),vs=[.ref l]/\H l=some (.lst xs)/\xs.length=ps.length/\(∀(i:Nat) x p,xs[i]?=some x->ps[i]?=some p->∃c,x=.ref c/\H c=some (.tup [.ref p.2.1,p.2.2])/\KRep H p.1 p.2.1)/\
 ∀D ep,H D=none->DN w (upd H D<|DNo w D (qW ps) ep) D (qW ps) ep->Q (.ref D) (upd H D<|DNo w D (qW ps) ep)
def akv(hc:X.calm=true)(hu:X.A.units+20<aV):um X (.type "dict") (azp X.w):=by intro aC s σ H vs us Q I r h;obtain⟨l,xs,ps,rfl,hl,bB,hp,q⟩:=h;obtain⟨u,rfl,r1⟩:=v9 r;cases (show u=aA.ref l from r1);obtain⟨hz,its,n,rv,hg⟩:=(show ObjOk X.prog X.w H s.heap l (.lst xs)from I.hok l _ hl);obtain⟨qs,k1,k2⟩:=ajo I ps xs its rv bB hp;have lq:=cH.length k1;have li:xs.length=its.length:=rv.length;refine ak8 (ps:=qs) (I.ok.hd hc) hg (by rw[bp];lia) (λi v q h1 h2=>k2 i v q (by simpa using h1) h2) hu (by lia) λh' tk dd kJ kp ht=>?_;have kr:=aou k1;have FM:=cH.length kr;have hn:H s.heap.objs.size=none:=I.hok.fresh<|ao _;obtain⟨ep,ok⟩:=DN.ext (H':=upd H s.heap.objs.size<|DNo X.w s.heap.objs.size (qW ps) 0) kr dd;have hs:(s.heap.objs.size==bE)=false:=beq_eq_false_iff_ne.mpr<|Ne.symm<|cf I.big;refine⟨.ref s.heap.objs.size,_,I.laid (a:=s.heap.objs.size) (o:=DNo X.w s.heap.objs.size (qW ps) ep) (t':=tk) kp (ao _) ok,rfl,q _ ep hn ⟨m8,λx hx=>?_,by lia,hs⟩⟩;obtain⟨p,C4,e1,e2⟩:=apf hx;obtain⟨i,hi⟩:=f8 C4;have oN:=(ak.mp hi).1;obtain⟨c,_,_,hk⟩:=hp i _ p (af<|by lia) hi;rw[<-e1,<-e2];exact hk.tk λb ys z=>by rw[p8 (rh z hn)];exact z
end
end L3
namespace K62
open PySem PyProof.Rows L2 L3
noncomputable def top(i:Nat):aZ:=PySem.Challenge.pw_coverpieces_k62_turned_layings.main.body.getD i<|.Pass ⟨0,0,0,0⟩
noncomputable abbrev Nu:aZ:=top 1
noncomputable abbrev LB:aZ:=top 2
noncomputable abbrev sTd:aZ:=top 5
noncomputable abbrev Gj:aZ:=top 6
noncomputable abbrev sTr:aZ:=top 7
noncomputable abbrev Lw:aZ:=top 8
noncomputable abbrev sAt:aZ:=top 12
noncomputable abbrev Lh:aZ:=top 13
noncomputable abbrev K3:aZ:=top 14
noncomputable abbrev Lj:aZ:=top 15
noncomputable abbrev sOc:aZ:=top 16
noncomputable abbrev LF:aZ:=top 17
noncomputable abbrev sTf:aZ:=top 18
noncomputable abbrev Nc:aZ:=top 20
noncomputable abbrev Nh:aZ:=top 21
noncomputable abbrev M5:aZ:=top 22
noncomputable abbrev Nb:aZ:=top 23
noncomputable abbrev Nq:aZ:=top 24
noncomputable abbrev Ng:aZ:=top 26
noncomputable abbrev Np:aZ:=top 28
noncomputable abbrev M4:aZ:=top 29
noncomputable abbrev Nj:aZ:=top 30
noncomputable abbrev Nt:aZ:=top 31
noncomputable abbrev Nv:aZ:=top 32
noncomputable abbrev Nm:aZ:=top 33
noncomputable abbrev MZ:aZ:=top 34
noncomputable abbrev M8:aZ:=top 35
noncomputable abbrev M9:aZ:=top 37
noncomputable abbrev MC:aZ:=top 40
noncomputable abbrev Lm:aZ:=top 41
noncomputable abbrev sKk:aZ:=top 42
noncomputable abbrev Nn:aZ:=top 43
noncomputable abbrev Na:aZ:=top 44
noncomputable abbrev Nr:aZ:=top 45
noncomputable abbrev K2:aZ:=top 47
noncomputable abbrev Nl:aZ:=top 48
noncomputable abbrev Mf:aZ:=top 49
noncomputable abbrev K7:aZ:=top 50
noncomputable abbrev sLt:aZ:=top 51
noncomputable abbrev Ml:aZ:=top 52
noncomputable abbrev KS:aZ:=top 53
noncomputable abbrev LD:aZ:=top 54
noncomputable abbrev sCt:aZ:=top 55
noncomputable abbrev La:aZ:=top 56
noncomputable abbrev K4:aZ:=top 57
noncomputable abbrev M6:aZ:=top 58
noncomputable abbrev K5:aZ:=top 59
noncomputable abbrev No:aZ:=top 60
noncomputable abbrev BD:aZ:=top 61
noncomputable def uk:Z Str:=["len","min","max","sorted","tuple","list","isinstance","bool","range","str","int","enumerate","all","set","zip","any","dict","bool"]
def al{H H':Hp}{a:aG}{o:HO}(h:H a=none)(g:upd H a o=H'):Same H H'/\H' a=some o:=by subst g;exact⟨Same.fresh _ h,m8⟩
section
variable{X:Cx}{p pos iJ:dH}{e tg:Expr}{es eL:Z Expr}{t:TA}{x1:Nat}
def pCB{x:Str}{id:String}{r:Z V->Hp->VK->Prop}(hc:um X (.builtin id) r)(hv:bJ x=some (.builtin id))(ha:PA X (e::es) t)(hB:∀x∈uk,X.mg x=none:=by assumption)(hx:x∈uk:=by decide)(hg:Gl X x:=by rfl)(hn:x≠"__name__":=by decide)(mL:(x==("__debug__" : Str))=false:=by decide)(h1:o8 e=true:=by rfl)(h2:es.all o8=true:=by rfl):PE X (.Call (.Name x p) (e::es) [] pos) (tCB r t):=a1u hc hg (hB x hx) hv ha hn mL h1 h2
def pCT{x:Str}{T:String}{r:Z V->Hp->VK->Prop}(hc:um X (.type T) r)(hv:bJ x=some (.type T))(ha:PA X (e::es) t)(hB:∀x∈uk,X.mg x=none:=by assumption)(hx:x∈uk:=by decide)(hg:Gl X x:=by rfl)(hn:x≠"__name__":=by decide)(mL:(x==("__debug__" : Str))=false:=by decide)(h1:o8 e=true:=by rfl)(h2:es.all o8=true:=by rfl):PE X (.Call (.Name x p) (e::es) [] pos) (tCB r t):=ayq hc hg (hB x hx) hv ha hn mL h1 h2
def pR1(ha:PA X [e] t)(hB:∀x∈uk,X.mg x=none:=by assumption)(hg:Gl X "range":=by rfl)(h:o8 e=true:=by rfl):PI X tg (.Call (.Name "range" p) [e] [] pos) (Lb t):=a1c hg (hB "range"<|by decide) ha h
def pEL(ha:PA X [e] t)(hB:∀x∈uk,X.mg x=none:=by assumption)(hg:Gl X "enumerate":=by rfl)(h:o8 e=true:=by rfl):PI X (.Tuple eL x1 iJ) (.Call (.Name "enumerate" p) [e] [] pos) (a20 X.K t):=ayt hg (hB "enumerate"<|by decide) ha h
def pET(ha:PA X [e] t)(hB:∀x∈uk,X.mg x=none:=by assumption)(hg:Gl X "enumerate":=by rfl)(h:o8 e=true:=by rfl):PI X (.Tuple eL x1 iJ) (.Call (.Name "enumerate" p) [e] [] pos) (a2v X.K t):=azz hg (hB "enumerate"<|by decide) ha h
def pES(ha:PA X [e] t)(hB:∀x∈uk,X.mg x=none:=by assumption)(hg:Gl X "enumerate":=by rfl)(h:o8 e=true:=by rfl):PI X (.Tuple eL x1 iJ) (.Call (.Name "enumerate" p) [e] [] pos) (a25 t):=axu hg (hB "enumerate"<|by decide) ha h
end
noncomputable abbrev MX:Int:=2305843009213693951
def Mxs(ns:Z Int)(n:Nat):Prop:=ns.length=n/\∀x∈ns,0<=x/\x<MX
section
variable{P:aM}{w:aN}{K:aw}{mg:Str->Option aA}{base:Heap}{f:aG}{fd:bX}
def BQ:Sp:=λvs H Q _=>∃(c:Int)(n:Nat),vs=[.int c,.int (n:Nat)]/\n<=64/\∀(D:aG)(ns:Z Int)(H':Hp),Mxs ns n->Same H H'->H D=none->H' D=some (.lst<|ns.map V.int)->Q (.ref D) H'
def a18:np ["_law_cell","_law_many","_law_found","_law_number","_law_k"] Z3 (m9 Nl):={}
def ayu(B:∀x∈uk,mg x=none)(F:Fun K "_law_mixed" "_law_mixed" Nl f fd):rn P w K mg base CX0 1 f fd Z3 BQ:=by
 refine F.o 0 a18 λH Q E hr hu hN h=>?_;obtain⟨c,n,rfl,hn,q⟩:=h;refine⟨_,(nv (psM 2<|qc mq)
  (nv (psM 3<|om qz (om GV (om qp (pv 0) mr) mr) mr)
  (nv (pfo (pR1<|my (pv 1) mq) (pgM 4) (nv (psM 3<|om qp (om qz (om qz (om avq (pv 3)<|om qz (pv 3) mr)<|om GV mr<|pv 4) mr) mr)
  (nw<|uo<|pW dh gf gg r8 (pv 2)<|my (pv 3) mq)))
  (nw<|nu<|pv 2)))),?_⟩
 refine λzD1 zq1=>?_;refine⟨sZ0,λD hD=>?_⟩;refine aE hD λH1 s1 d1=>?_;have d1:H1 D=some (.lst ([]:Z V)):=d1;have zK:=mj c (show(MX:Int)≠0 by decide);have Dd:=l7 c (show(0:Int)<MX by decide);refine zq1.nx _ _ λzD1 zq1=>?_;refine(u7 _ rfl _ _ rfl rfl (by show(0:Int)<MX;decide) _ _ ⟨rfl,rfl,.inr ⟨by decide,by decide⟩,(nc _ _ ⟨rfl,rfl,zq1.nx _ _ λzD1 zq1=>⟨_,rfl,?_⟩⟩)⟩);have ms:MX=2305843009213693951:=rfl;refine⟨(n:Nat),rfl,by lia,by lia,?_⟩;refine ug (lo:=0) (n:=n) (λi σ' H'=>∃(y4:Option V)(m:Int)(ns:Z Int),σ'=[some (.int c),some<|.int (n:Nat),some<|.ref D,some<|.int m,y4]/\0<=m/\m<2^100/\Mxs ns i/\Same H H'/\H' D=some (.lst<|ns.map V.int)) ?_ (λi σ' H' hi h=>?_) λσ' H' h=>?_
 .refine(oa _ _ ([]) ⟨rfl,?_,?_,⟨rfl,λx hx=>by cases hx⟩,s1,d1⟩)
  .lia
  .rw[show(2:Int)^100=1267650600228229401496703205376 by decide];lia
 .obtain⟨y4,m,ns,rfl,uE,hm3,⟨hl,hb⟩,sm,jJ⟩:=h;have e100:(2:Int)^100=1267650600228229401496703205376:=by decide
  have e128:(2:Int)^128=340282366920938463463374607431768211456:=by decide
  refine λzD2 zq2=>?_;refine(rg _ rfl _ rfl _ _ rfl rfl _ ⟨_,rfl,rfl,⟨by lia,by lia⟩,(u7 _ rfl _ _ rfl rfl (.inl ⟨by decide,by decide⟩) _ _ ⟨rfl,rfl,(sn _ _ rfl rfl _ _ ⟨rfl,rfl,(by show(0:Int)<MX;decide),zq2.nx _ _ λzD2 zq2=>?_⟩)⟩)⟩);refine(ux _ rfl (.inl ⟨rfl,_,SqL.of jJ⟩) _ rfl D _ _ ⟨rfl,rfl,jJ,o0<|by rw[ae,hl];lia,zq2.nx _ _ ?_⟩);refine(oa _ _ (ns++[(m*(m+32452843)+17*(0+(i:Nat))+7) % 2305843009213693951]) ⟨rfl,mj _<|by decide,?_,⟨?_,?_⟩,sm.new hD,?_⟩)
  .have:=l7 (m*(m+32452843)+17*(0+(i:Nat))+7) (show(0:Int)<2305843009213693951 by decide);lia
  .rw[bo,hl];rfl
  .intro x hx;rcases bw.mp hx with h|h
   .exact hb x h
   .rw[ay.mp h];exact⟨mj _<|by decide,l7 _<|by decide⟩
  .rw[m8,bq];rfl
 .obtain⟨y4,m,ns,rfl,uE,hm3,hx,sm,jJ⟩:=h;refine zq1.nx _ _ λzD1 zq1=>?_;exact⟨_,rfl,zq1.rt _ _<|q D ns H' hx sm hD jJ⟩
def asm(K:aw):Sp:=λvs H Q _=>∃(a:aG)(ns:Z Int)(k:Int),vs=[.ref a,.int k]/\SqL K H a (ns.map V.int)/\0<=k/\∀c:Int,Q (.int c) H
def ayi:np ZV ZV (m9 K2):={}
def auj(B:∀x∈uk,mg x=none)(F:Fun K "_law_cell_at" "_law_cell_at" K2 f fd):rn P w K mg base CX0 1 f fd ZV (asm K):=by
 refine F.o 0 ayi λH Q E hr hu hN h=>?_;obtain⟨a,ns,k,rfl,ha,hk,q⟩:=h;refine⟨_,(nv (va (qm BO (pv 1) (pCB o7 ft<|my (pv 0) mq)<|qy _) (nw<|nu<|pix oh (pv 0)<|pv 1) qd)
  (nw<|nu mr)),?_⟩
 refine λzD1 zq1=>?_;refine(rg _ rfl _ rfl a _ rfl (.inl ha) _<|qi _ rfl rfl _ ⟨rfl,?_⟩);refine x6 (λc=>?_) λc=>?_
 .have c':k<(((ns.map V.int).length:Nat):Int):=of_decide_eq_true c;rw[ae]at c';obtain⟨j,rfl⟩:=Int.eq_ofNat_of_zero_le hk;have hj:j<ns.length:=by lia
  have hv:atI (ns.map V.int) (j:Int)=some (.int ns[j]):=m7 (by rw[ax,af hj];rfl);refine λzD2 zq2=>?_;exact(oe _ rfl _ rfl a _ _ ⟨_,rfl,rfl,ha,hv,zq2.rt _ _<|zq1.rt _ _<|q _⟩)
 .refine zq1.nx _ _ λzD1 zq1=>?_;refine zq1.rt _ _ ?_;exact q _
def GD(g:Z U->Z U):Sp:=λvs H Q _=>∃(a:aG)(xs:Z V)(ds:Z U),vs=[.ref a]/\H a=some (.lst xs)/\RepAll H ds xs/\Spots ds/\0<ds.length/\ds.length<=64/\
 ∀(D:aG)(ys:Z V)(H':Hp),Same H H'->H' D=some (.lst ys)->RepAll H' (g ds) ys->Q (.ref D) H'
def scMir:np ["spots","last"] Z6 (m9 Gj):={}
def scTr:np ["spots","last"] Z6 (m9 sTr):={}
def a3u(m:Int)(r c:Int)(z:Str)(H':Hp)(Q':VK)(h:∃u v:Int,Aq m (.tuple [.int r,.int c,.str z])=.tuple [.int u,.int v,.str z]/\∀n,H' n=none->Q' (.ref n) (upd H' n<|.tup [.int u,.int v,.str z])) :
  Ar (vn (kA 0)<|vn (tOp (rI0 λi j=>.int<|i-j) (kA 3)<|kA 1)<|vn (kA 2) xY) [some (.int r),some<|.int c,some<|.str z,some<|.int m] H' Q':=by
 obtain⟨u,v,e,q⟩:=h;cases (show PyData.tuple [.int r,.int<|m-c,.str z]=.tuple [.int u,.int v,.str z]from e);exact(o6 _ rfl _ rfl _ rfl _ _ ⟨rfl,rfl,_,rfl,sZ3,q⟩)
def a3n(m:Int)(r c:Int)(z:Str)(H':Hp)(Q':VK)(h:∃u v:Int,xW m (.tuple [.int r,.int c,.str z])=.tuple [.int u,.int v,.str z]/\∀n,H' n=none->Q' (.ref n) (upd H' n<|.tup [.int u,.int v,.str z])) :
  Ar (vn (kA 1)<|vn (tOp (rI0 λi j=>.int<|i-j) (kA 3)<|kA 0)<|vn (kA 2) xY) [some (.int r),some<|.int c,some<|.str z,some<|.int m] H' Q':=by
 obtain⟨u,v,e,q⟩:=h;cases (show PyData.tuple [.int c,.int<|m-r,.str z]=.tuple [.int u,.int v,.str z]from e);exact(o6 _ rfl _ rfl _ rfl _ _ ⟨rfl,rfl,_,rfl,sZ3,q⟩)
def azs(B:∀x∈uk,mg x=none)(F:Fun K "mirrored" "mirrored" Gj f fd):rn P w K mg base CX0 1 f fd Z6 (GD kL):=by
 refine F.o 0 scMir λH Q E hr hu hN h=>?_;obtain⟨a,xs,ds,rfl,ha,fU,hs,dD,jV,q⟩:=h;refine⟨_,(nv (yh (i:=1) scMir.nd rfl (Or.inr rfl)<|Hl rfl rfl (B "max"<|by decide) (my (pcm ["spot"] [none] (oy<|pv 0) (λ_=>(pgC 0)) (λ_=>ou) λ_=>(pix nr (pv 0) mr)) mq)<|Hk mr GJ)
  (nw<|nu<|pcm ZU [none,none,none,some 1] (oy<|pv 0) (λ_=>(pf (n:=3) rfl<|mw (pgC 0)<|mw (pgC 1)<|mw (pgC 2) ow)) (λ_=>ou) λ_=>(og<|my (pv 0)<|my (om yb (pv 3)<|pv 1)<|my (pv 2) mq))),?_⟩
 refine λzD1 zq1=>?_;refine ad5 1 uq azt rfl ha fU hs jV λD1 H1 s1 jJ=>?_;refine⟨rfl,(nc D1 _ ⟨rfl,jJ,by rw[ae];exact dD,λM1 m1 vG=>?_⟩)⟩;have em:=xg m1 vG;refine zq1.nx _ _ λzD1 zq1=>?_;refine ahc Aq rfl rfl (s1 _ _ ha) (fU.same s1) hs jV (a3u M1) (λD ys H' hD s2 aW rep=>(zq1.rt _ _<|q D ys H' (s1.trans s2) aW<|by unfold kL;rw[<-em];exact rep)) λr c z=>(nc _ _ rfl)
def a19(B:∀x∈uk,mg x=none)(F:Fun K "turned_right" "turned_right" sTr f fd):rn P w K mg base CX0 1 f fd Z6 (GD kY):=by
 refine F.o 0 scTr λH Q E hr hu hN h=>?_;obtain⟨a,xs,ds,rfl,ha,fU,hs,dD,jV,q⟩:=h;refine⟨_,(nv (yh (i:=1) scTr.nd rfl (Or.inr rfl)<|Hl rfl rfl (B "max"<|by decide) (my (pcm ["spot"] [none] (oy<|pv 0) (λ_=>(pgC 0)) (λ_=>ou) λ_=>(pix nr (pv 0) mr)) mq)<|Hk mr GJ)
  (nw<|nu<|pcm ZU [none,none,none,some 1] (oy<|pv 0) (λ_=>(pf (n:=3) rfl<|mw (pgC 0)<|mw (pgC 1)<|mw (pgC 2) ow)) (λ_=>ou) λ_=>(og<|my (pv 1)<|my (om yb (pv 3)<|pv 0)<|my (pv 2) mq))),?_⟩
 refine λzD1 zq1=>?_;refine ad5 0 ul axe rfl ha fU hs jV λD1 H1 s1 jJ=>?_;refine⟨rfl,(nc D1 _ ⟨rfl,jJ,by rw[ae];exact dD,λM1 m1 vG=>?_⟩)⟩;have em:=xg m1 vG;refine zq1.nx _ _ λzD1 zq1=>?_;refine ahc xW rfl rfl (s1 _ _ ha) (fU.same s1) hs jV (a3n M1) (λD ys H' hD s2 aW rep=>(zq1.rt _ _<|q D ys H' (s1.trans s2) aW<|by unfold kY;rw[<-em];exact rep)) λr c z=>(nc _ _ rfl)
noncomputable def iter(i:Nat)(ds:Z U):Z U:=(cj i).foldl (λa _=>kY a) ds
def ME(i:Nat)(ds:Z U):iter (i+1) ds=kY (iter i ds):=by unfold iter;rw[g0,kq];rfl
def Gk:Sp:=λvs H Q _=>∃(a:aG)(t:Nat)(xs:Z V)(ds:Z U),vs=[.ref a,.int (t:Nat)]/\(H a=some (.lst xs)\/H a=some (.tup xs))/\RepAll H ds xs/\Spots ds/\0<ds.length/\ds.length<=64/\t<8/\
 ∀(r:aG)(H':Hp)(es:Z U),Same H H'->es.Perm (sj t ds)->es.Pairwise (λx y=>ltR y x=false)->Rep H' (.tuple es) (.ref r)->Q (.ref r) H'
def a2u:np ["form","t","spots","step"] Z4 (m9 sTd):={}
def a0m(B:∀x∈uk,mg x=none)(AA:Fn P w K mg base "mirrored" 1 Z6 (GD kL))(NF:Fn P w K mg base "turned_right" 1 Z6 (GD kY))(F:Fun K "turned" "turned" sTd f fd):rn P w K mg base CX0 2 f fd Z4 Gk:=by
 refine F.o 1 a2u λH Q E hr hu hN h=>?_;obtain⟨a,t,ys,ds,rfl,ha,yQ,lP,dD,jV,ht,q⟩:=h;refine⟨_,(nv (psM 2<|pCT vg lS<|my (pv 0) mq)
  (nv (va (qm GA (pv 1) mr<|qy _) (nw<|psM 2<|pfn AA<|my (pv 2) mq) qd)
  (nv (pfo (pR1<|my (om qp (pv 1) mr) mq) (pgM 3)<|nw<|psM 2<|pfn NF<|my (pv 2) mq)
  (nw<|nu<|pCT ph j4<|my (pCB aba k6<|my (pv 2) mq) mq)))),?_⟩
 refine λzD1 zq1=>?_;refine(oq _ rfl a ys ⟨rfl,ha.imp SqL.of SqT.of,λD hD0=>?_⟩);have sm:Same H (upd H D<|.lst ys):=Same.fresh _ hD0;have aW:upd H D (.lst ys) D=some (.lst ys):=m8;have rep:=yQ.same sm;generalize upd H D (.lst ys)=H2 at *;refine zq1.nx _ _ λzD1 zq1=>?_;refine(o9 _ rfl _ _ rfl rfl _ ⟨rfl,?_⟩);refine x6 (λh4=>?ga) λh4=>?gb
 case' ga=>
  have mN:4<=t:=by have:(t:Int)>=4:=of_decide_eq_true h4
                   lia
  refine λzD2 zq2=>?_;refine(qu _ rfl D ys ds ⟨rfl,aW,rep,lP,dD,jV,λD ys H3 s3 aW rep=>?_⟩)
  replace sm:=sm.trans s3
  obtain⟨iW,e1⟩:∃d,d=(if 4<=t then kL ds else ds):=⟨_,rfl⟩;have e2:iW=kL ds:=by rw[e1,if_pos mN]
  rw[<-e2]at rep;have AL:Spots iW:=by rw[e2];exact al1 lP _
  have l1:iW.length=ds.length:=by rw[e2];simp[kL]
  generalize H3=H2 at *
 case' gb=>
  have mN:¬4<=t:=by have:¬(t:Int)>=4:=by simpa using h4
                    lia
  obtain⟨iW,e1⟩:∃d,d=(if 4<=t then kL ds else ds):=⟨_,rfl⟩;have e2:iW=ds:=by rw[e1,if_neg mN]
  rw[<-e2]at rep;have AL:Spots iW:=by rw[e2];exact lP
  have l1:iW.length=ds.length:=by rw[e2]
 all_goals
  (first|(refine zq2.nx _ _<|zq1.nx _ _ λzD1 zq1=>?_)|(refine zq1.nx _ _ λzD1 zq1=>?_));refine(sd _ rfl _ _ rfl rfl (by show(0:Int)<4;decide) _ ⟨rfl,by lia,by lia,?_⟩)
  refine ug (lo:=0) (λi σ' H'=>∃(y3:Option V)(D:aG)(ys:Z V),σ'=[some (.ref a),some<|.int (t:Nat),some<|.ref D,y3]/\Same H H'/\H' D=some (.lst ys)/\RepAll H' (iter i iW) ys/\Spots (iter i iW)/\(iter i iW).length=ds.length) ?_ (λi σ' H' hi h=>?_) λσ' H' h=>?_
  .exact(oa _ D ys ⟨rfl,sm,aW,rep,AL,l1⟩)
  .obtain⟨y3,D,ys,rfl,sm,aW,rep,sp,hl⟩:=h;refine λzD2 zq2=>?_;refine(qu _ rfl D ys _ ⟨rfl,aW,rep,sp,by lia,by lia,λD2 uW H3 s3 jI dS=>?_⟩);refine zq2.nx _ _ ?_;refine(oa _ D2 uW ⟨rfl,sm.trans s3,jI,by rw[ME];exact dS,by rw[ME];exact anl sp _,by rw[ME];simp[kY,hl]⟩)
  .obtain⟨y3,D,ys,rfl,sm,aW,rep,sp,hl⟩:=h;have et:(((t:Nat):Int) % 4).toNat=t % 4:=by lia
   rw[et]at rep sp hl;refine zq1.nx _ _ λzD1 zq1=>?_;refine(mz _ rfl D ys _ ([true,false]) ⟨rfl,aW,rep,vx sp,λl zs es iA pe ue hz=>?_⟩);refine(nc l zs ⟨rfl,.inl ⟨SqL.of m8,λl2 eV=>?_⟩⟩);have s1:Same H' (upd H' l<|.lst zs):=Same.fresh _ iA;have s2:Same (upd H' l<|.lst zs) (upd (upd H' l<|.lst zs) l2<|.tup zs):=Same.fresh _ eV;refine zq1.rt _ _ ?_;refine q l2 _ es ((sm.trans s1).trans s2) ?_ ue<|nc l2 zs ⟨rfl,m8,hz.same s2⟩;rw[show sj t ds=iter (t % 4) iW by rw[e1];rfl];exact pe
def wK(m:Str)(n:Nat):Prop:=(m="still"/\n=1)\/(m="turn"/\n=4)\/(m="flip"/\n=8)
def KZ(P:aM)(w:aN)(K:aw)(mg:Str->Option aA):Prop:=∃aD oD kvs,mg "TURNINGS_BY_MODE" = some (.ref aD)/\K.lookup aD=some oD/\oD.IsDictOf (strKind P w) kvs/\∀m n,wK m n->∃t,fY kvs m=some (.int (n:Nat) t)
def LO:Sp:=λvs H Q _=>∃(r:aG)(m:Str)(n:Nat)(xs:Z V)(es:Z U),vs=[.ref r,.str m]/\H r=some (.tup xs)/\RepAll H es xs/\Zr es/\wK m n/\
 ∀(l:aG)(ys:Z V)(ds:Z U)(H':Hp),Same H H'->H l=none->H' l=some (.lst ys)->ds.Nodup->(∀d,d∈ds↔d∈tj es n)->RepAll H' (ub ds) ys->Q (.ref l) H'
def avh:np ZX ZX (m9 Lw):={}
theorem aqd(B:∀x∈uk,mg x=none)(hM:KZ P w K mg)(Ay:Fn P w K mg base "turned" 2 Z4 Gk)
  (F:Fun K "forms_of" "forms_of" Lw f fd):rn P w K mg base CX0 3 f fd ZX LO:=by
 obtain⟨aD,oD,kvs,hD,hL,hI,hV⟩:=hM;refine F.o 2 avh λH Q E hr hu hN h=>?_;obtain⟨r,m,n,xs,es,rfl,yZ,rep,hz,hm,q⟩:=h;obtain⟨tk,hv⟩:=hV m n hm;refine⟨_,(nw<|nu<|MU rfl hu rfl (B "sorted"<|by decide) rfl (B "set"<|by decide)<|my (pcm ["t","form"] [none,some 0] (pR1<|my (pix avv (ajw hD rfl)<|pv 1) mq) (λ_=>(pgC 0)) (λ_=>ou) λ_=>(pfn Ay<|my (pv 1)<|my (pv 0) mq)) mq),?_⟩;refine λzD1 zq1=>?_;refine(mz _ rfl aD m oD kvs<|nc n tk ⟨rfl,rfl,hL,hI,hv,?_⟩);have hn:n<=8:=by rcases hm with h|h|h<;>lia
 refine⟨(n:Nat),rfl,by lia,by lia,λD hD0=>?_⟩;rw[da];refine xy (lo:=0) (n:=n) (λi ys G=>Same H G/\RepAll G (tj es i) ys) ⟨Same.fresh _ hD0,rfl⟩ (λi ys G hi aW eJ p=>?_) λys G aW eJ p=>?_
 .obtain⟨p1,p2⟩:=p;refine⟨Agree.set (Agree.refl _) rfl,?_⟩;dsimp only[x5];refine x9 ?_;refine(oe _ rfl _ rfl r i xs ⟨es,by rw[ky];rfl,.inr<|p1 _ _ yZ,rep.same p1,hz.pre.spots,hz.pre.pos,by have:=hz.pre.six;lia,by lia,λr2 H2 e2 s2 pe ue dB=>?_⟩);rw[(hz.turned i).pre.sorted pe ue]at dB;have cT:=s2 _ _ aW;refine qk (by lia) cT eJ ⟨(p1.trans s2).new hD0,?_⟩;rw[adg];refine((p2.same s2).snoc dB).tk (Tk.lst cT) (MD hz λd hd=>?_);rcases bw.mp hd with h|h
  .exact qr d h
  .exact⟨i,(ay.mp h).symm⟩
 .obtain⟨p1,p2⟩:=p;refine(oa D ys (tj es n) ⟨rfl,aW,p2,agp hz qr,MG hz qr,by simp[tj];lia,λds l zs lQ eK hl rz=>?_⟩);have JA:H l=none:=by
   cases e:H l with
   | none=>rfl
   | some o=>rw[p1 _ _ e]at hl;cases hl
  refine zq1.rt _ _ ?_;exact q l zs ds _ (p1.trans<|Same.fresh _ hl) JA m8 lQ eK rz
def Nw(z:Str):z.cps.toList.length=z.length:=by simp[Str.length]
def ok1{c:Nat}(h:c<128):PyData.strOk (⟨#[c]⟩:Str)=true:=Tx.ok ⟨by show 1<=80;lia,λx hx=>by
 have:x=c:=by simpa using hx
 lia⟩
def Rw(zs:Z Str):Prop:=0<zs.length/\zs.length<=8/\∃wd,0<wd/\wd<=8/\∀z∈zs,(Tx z/\∀c∈z.cps.toList,sgB c=true)/\z.length=wd
def Fl(H:Hp)(a:aG)(zs:Z Str):Prop:=H a=some (.tup<|zs.map V.str)/\Rw zs
def Fl.tx{H:Hp}{a:aG}{zs:Z Str}(h:Fl H a zs):∀z∈zs,Tx z:=λz hz=>by obtain⟨_,_,_,wd,_,_,hw⟩:=h;exact(hw z hz).1.1
noncomputable def tS(r:Nat)(cs:Z Nat):Nat->Z U
 | 0=>[]
 | k+1=>tS r cs k++(match cs[k]? with|some c=>[.tuple [.int r,.int k,.str ⟨#[c]⟩]]|none=>[])
noncomputable def pV(zs:Z Str):Nat->Z U
 | 0=>[]
 | k+1=>pV zs k++(match zs[k]? with|some z=>tS k z.cps.toList z.cps.toList.length|none=>[])
theorem yj(r:Nat)(cs:Z Nat):∀k,Spots (tS r cs k)
 | 0,d,h=>by cases h
 | k+1,d,h=>by
  unfold tS at h;rcases bw.mp h with h|h
  .exact yj r cs k d h
  .cases e:cs[k]? with
   | none=>rw[e]at h;cases h
   | some c=>rw[e]at h;rw[ay.mp h];exact(oa _ _ _ rfl)
theorem ab0(zs:Z Str):∀k,Spots (pV zs k)
 | 0,d,h=>by cases h
 | k+1,d,h=>by
  unfold pV at h;rcases bw.mp h with h|h
  .exact ab0 zs k d h
  .cases e:zs[k]? with
   | none=>rw[e]at h;cases h
   | some z=>rw[e]at h;exact yj _ _ _ d h
def Spots.app{a b:Z U}(h:Spots a)(k:Spots b):Spots (a++b):=λd hd=>(bw.mp hd).elim (h d) (k d)
def ad1{r:Nat}{cs:Z Nat}{k c:Nat}(h:cs[k]?=some c):tS r cs (k+1)=tS r cs k++[.tuple [.int r,.int k,.str ⟨#[c]⟩]]:=by show tS r cs k++_=_;rw[h]
def ad2{zs:Z Str}{k:Nat}{z:Str}(h:zs[k]?=some z):pV zs (k+1)=pV zs k++tS k z.cps.toList z.cps.toList.length:=by show pV zs k++_=_;rw[h]
def EE:Sp:=λvs H Q _=>∃(a:aG)(zs:Z Str),vs=[.ref a]/\Fl H a zs/\∀(D:aG)(ys:Z V)(H':Hp),Same H H'->H' D=some (.lst ys)->ys.length<=64->RepAll H' (pV zs zs.length) ys->Q (.ref D) H'
def av3:np ["floor","spots","row","signs","column","sign"] Z7 (m9 LF):={}
theorem aqq(B:∀x∈uk,mg x=none)(F:Fun K "floor_spots" "floor_spots" LF f fd):rn P w K mg base CX0 1 f fd Z7 EE:=by
 refine F.o 0 av3 λH Q E hr hu hN h=>?_;obtain⟨a,zs,rfl,hf,q⟩:=h;have htx:=hf.tx;obtain⟨ha,vI,hz8,wd,hw0,hw8,hw⟩:=hf;refine⟨_,(nv (psM 1<|qc mq)
  (nv (pfo (pET<|my (pv 0) mq) (pf (n:=2) rfl<|mw (pgM 2)<|mw (pgM 3) ow)<|nw<|pfo (pES<|my (pv 3) mq) (pf (n:=2) rfl<|mw (pgM 4)<|mw (pgM 5) ow)<|nw<|uo<|pW dh gf gg r8 (pv 1)<|my (og<|my (pv 2)<|my (pv 4)<|my (pv 5) mq) mq)
  (nw<|nu<|pv 1))),?_⟩
 refine λzD1 zq1=>?_;refine⟨sZ0,λD hD=>?_⟩;refine zq1.nx _ _ λzD1 zq1=>?_;refine(qe _ rfl a ⟨rfl,⟨_,SqT.of<|by rw[p8 (rh ha hD)];exact ha⟩,?_⟩);refine LP (xs:=zs.map V.str) (λi σ' H'=>∃(y2 y3 y4 y5:Option V)(ys:Z V),σ'=[some (.ref a),some<|.ref D,y2,y3,y4,y5]/\Same H H'/\H' D=some (.lst ys)/\RepAll H' (pV zs i) ys/\ys.length<=8*i) ?_ (λi σ' H' h=>?_) (λi x p σ' H' hx hp h=>?_) λσ' H' h=>?_
 .exact(ni _ _ _ _ ([]) ⟨rfl,Same.fresh _ hD,m8,rfl,fk _⟩)
 .obtain⟨_,_,_,_,_,_,s1,_⟩:=h;exact SqT.of<|s1 _ _ ha
 .obtain⟨y2,y3,y4,y5,ys,rfl,s1,aW,rep,eJ⟩:=h;rw[ax]at hx;cases hz:zs[i]? with
  | none=>rw[hz]at hx;cases hx
  | some z=>
   rw[hz]at hx;cases hx;have IN:=ai hz;have oN:i<zs.length:=(ak.mp hz).1;have cX:=(hw z IN).2;have hL:=Nw z;refine(nj p _ rfl (SqT.of m8) rfl _ _ rfl _ ⟨_,rfl,rfl,λzD2 zq2=>?_⟩);refine aE hp λH2 s2 _=>?_;refine(qe _ rfl z ⟨rfl,(htx z IN).2,?_⟩);refine avi (z:=z) (λj σ' H3=>∃(y4 y5:Option V)(ys:Z V),σ'=[some (.ref a),some<|.ref D,some<|.int (i:Nat),some<|.str z,y4,y5]/\Same H H3/\H3 D=some (.lst ys)/\RepAll H3 (pV zs i++tS i z.cps.toList j) ys/\ys.length<=8*i+j) ?_ (λj c p3 σ' H3 hc sQ h=>?_) λσ' H3 h=>?_
   .refine(oa _ _ ys ⟨rfl,s1.trans s2,s2 _ _ aW,?_,by lia⟩);show RepAll H2 (pV zs i++[]) ys;rw[df];exact rep.same s2
   .obtain⟨y4,y5,B9,rfl,s3,jI,dS,A5⟩:=h;have zQ:j<z.cps.toList.length:=(ak.mp hc).1;have DC:c<128:=(htx z IN).2 c (ai hc);refine(nj p3 _ rfl (SqT.of m8) rfl _ _ rfl _ ⟨_,rfl,rfl,λzD3 iS=>?_⟩);refine aE sQ λH4 s4 _=>?_;have qN:=s4 _ _ jI;refine(qi _ rfl (.inl ⟨rfl,_,SqL.of qN⟩) _ ⟨rfl,(qe _ rfl _ ⟨rfl,sZ3,λt ht=>?_⟩)⟩);refine aE ht λH5 s5 t5=>?_;have DR:=s5 _ _ qN;refine(oa D B9 (.ref t) ⟨rfl,rfl,DR,o0<|by lia,iS.nx _ _ ?_⟩);have rK:RepAll H5 ((pV zs i++tS i z.cps.toList j)++[.tuple [.int (i:Nat),.int (j:Nat),.str ⟨#[c]⟩]]) (B9++[.ref t]):=((dS.same s4).same s5).snoc (zj t5<|ok1 DC);rw[br,<-ad1 hc]at rK;refine(oa _ _ (B9++[.ref t]) ⟨rfl,((s3.trans s4).trans s5).new hD,m8,rK.tk (Tk.lst DR)<|Spots.imm<|Spots.app (ab0 _ _)<|yj _ _ _,?_⟩);rw[bo,md];lia
   .obtain⟨y4,y5,B9,rfl,s3,jI,dS,A5⟩:=h;rw[<-ad2 hz]at dS;refine zq2.nx _ _ ?_;exact(ni _ _ _ _ B9 ⟨rfl,s3,jI,dS,by lia⟩)
 .obtain⟨y2,y3,y4,y5,ys,rfl,s1,aW,rep,eJ⟩:=h;rw[ae]at rep eJ;refine zq1.nx _ _ λzD1 zq1=>?_;exact⟨_,rfl,zq1.rt _ _<|q D ys H' s1 aW (by lia) rep⟩
theorem adp(M:Mat)(r:Nat):∀c,c<=M.w->tS r (qt M r) c=(cj c).map λk=>v5 M r k
 | 0,_=>rfl
 | c+1,h=>by rw[ad1 (yo (M:=M) (r:=r) (c:=c)<|by lia),adp M r c<|by lia,g0,bq];rfl
theorem vt(M:Mat):∀k,k<=M.h->pV (ri M) k=(cj<|k*M.w).map λi=>v5 M (i/M.w) (i % M.w)
 | 0,_=>by simp[pV]
 | k+1,h=>by
  rw[ad2 (BY (M:=M) (r:=k)<|by lia),vt M k<|by lia];have e:((⟨(qt M k).toArray⟩:Str).cps.toList)=qt M k:=by simp
  rw[e,xw,adp M k M.w<|ao _,Nat.add_mul,Nat.one_mul,List.range_add,bq,bf]
  congr 1
  refine dg λc hc=>?_;have fH:c<M.w:=by simpa using hc
  show v5 M k c=v5 M ((k*M.w+c)/M.w) ((k*M.w+c) % M.w);rw[yC fH,yG fH]
def L4{M:Mat}(o:OkM SgP M){z:Str}(h:z∈ri M):(Tx z/\∀c∈z.cps.toList,sgB c=true)/\z.length=M.w:=by
 obtain⟨r,hr,rfl⟩:=arl h;have hs:=auz o hr;have hl:(⟨(qt M r).toArray⟩:Str).length=M.w:=by show(qt M r).toArray.size=_;rw[bp,xw]
 have hw:=o.w8;have e:((⟨(qt M r).toArray⟩:Str).cps.toList)=qt M r:=by simp
 refine⟨⟨⟨by lia,λc hc=>?_⟩,λc hc=>?_⟩,hl⟩
 .rw[e]at hc;exact BU<|hs c hc
 .rw[e]at hc;exact hs c hc
def FlM.fl{H:Hp}{a:aG}{M:Mat}(h:FlM H a M):Fl H a (ri M):=
 ⟨h.1,by rw[ql];exact h.2.h1,by rw[ql];exact h.2.h8,M.w,h.2.w1,h.2.w8,λz hz=>L4 h.2 hz⟩
def ayj{zs:Z Str}(h:Rw zs):∃M:Mat,zs=ri M/\OkM SgP M:=by
 obtain⟨h1,h8,wd,w1,w8,hz⟩:=h;refine⟨⟨zs.length,wd,λr c=>((zs[r]?.map λz=>z.cps.toList).getD []).getD c 0⟩,?_,⟨h1,h8,w1,w8,λr c hr hc=>?_⟩⟩
 .apply List.ext_getElem?;intro r;by_cases hr:r<zs.length
  .rw[BY (M:=⟨zs.length,wd,_⟩) hr,af hr];have uA:=hz _<|fj hr;have hl:zs[r].cps.toList.length=wd:=by rw[Nw];exact uA.2
   have e:qt ⟨zs.length,wd,λr c=>((zs[r]?.map λz=>z.cps.toList).getD []).getD c 0⟩ r=zs[r].cps.toList:=by
    apply List.ext_getElem?;intro c;by_cases hc:c<wd
    .rw[yo (M:=⟨zs.length,wd,λr c=>((zs[r]?.map λz=>z.cps.toList).getD []).getD c 0⟩) hc];show some (((zs[r]?.map λz=>z.cps.toList).getD []).getD c 0)=_;rw[af hr];show some (zs[r].cps.toList.getD c 0)=_;rw[dz,af<|by lia];rfl
    .rw[iw (by rw[xw];exact Nat.le_of_not_lt hc),iw<|by lia]
   rw[e]
  .rw[iw (by lia),iw<|by rw[ql];exact Nat.le_of_not_lt hr]
 .have oG:r<zs.length:=hr;have fH:c<wd:=hc;have uA:=hz _<|fj oG;have hl:zs[r].cps.toList.length=wd:=by rw[Nw];exact uA.2
  show sgB (((zs[r]?.map λz=>z.cps.toList).getD []).getD c 0)=true;rw[af oG];show sgB (zs[r].cps.toList.getD c 0)=true;rw[dz,af<|by lia];exact uA.1.2 _<|fj _
open Classical in
noncomputable def ddp:Z U->Z U
 | []=>[]
 | x::xs=>if x∈ddp xs then ddp xs else x::ddp xs
theorem ddp_mem:∀{xs:Z U} {d:U},d∈ddp xs↔d∈xs
 | [],d=>Iff.rfl
 | x::xs,d=>by
  have ih:=@ddp_mem xs;unfold ddp;split
  .rename_i h
   rw[a6,ih];exact⟨.inr,λz=>z.elim (λe=>by rw[e];exact ih.mp h) id⟩
  .rw[a6,a6,ih]
theorem GO:∀(xs:Z U),(ddp xs).Nodup
 | []=>List.nodup_nil
 | x::xs=>by
  unfold ddp;split
  .exact GO xs
  .rename_i h
   exact i7.mpr ⟨h,GO xs⟩
theorem amq:∀(xs:Z U),(ddp xs).length<=xs.length
 | []=>ao _
 | x::xs=>by
  have:=amq xs;unfold ddp;split
  .rw[bx];lia
  .rw[bx,bx];lia
noncomputable def FS(es:Z U)(n:Nat):Z U:=ub<|ddp<|tj es n
def KU{es ds:Z U}{n:Nat}(h:Zr es)(nd:ds.Nodup)(hm:∀d,d∈ds↔d∈tj es n):ub ds=FS es n:=
 adf ((List.perm_ext_iff_of_nodup nd<|GO _).mpr λd=>(hm d).trans ddp_mem.symm) (MG h λd hd=>qr d<|(hm d).mp hd)
def aso{es:Z U}{n:Nat}:∀d∈FS es n,∃t,xk es t=d:=λd hd=>qr d<|ddp_mem.mp<|(pw _).mem_iff.mp hd
def Lu{es:Z U}{n:Nat}:(FS es n).length<=n:=by
 have:=amq<|tj es n;unfold FS;rw[aa1];have e:(tj es n).length=n:=by simp[tj]
 lia
noncomputable def pU(t:Nat):U->U
 | .tuple es=>.tuple (sy<|sj t es)
 | d=>d
def FrmD(d:U):Prop:=∃es,d=.tuple es/\Zr es
theorem FrmD.key{d:U}(h:FrmD d):tR d/\TT d:=by
 obtain⟨es,rfl,hz⟩:=h;have hd:=v0 hz.pre.spots;refine⟨⟨GM hz.pre.sg,⟨_,rfl⟩,by simp[gk];lia⟩,?_⟩;cases e:es with
 | nil=>have:=hz.pre.pos;rw[e]at this;exact absurd this (by simp)
 | cons d ds=>
  have hs:=hz.pre.sg;rw[e]at hs;obtain⟨r,c,k,rfl,_⟩:=hs d aq;exact(nc _ _ rfl)
def FrmD.cmp{ds:Z U}(h:∀d∈ds,FrmD d):CmpA ds:=
 ⟨λx hx y hy=>by obtain⟨es,rfl,hz⟩:=h x hx;obtain⟨qP,rfl,uA⟩:=h y hy;exact Hj hz.pre.sg uA.pre.sg,λx hx=>(h x hx).key.1.1⟩
theorem FrmD.imm{ds:Z U}(h:∀d∈ds,FrmD d):rf ds=true:=uj λd hd=>by obtain⟨es,rfl,hz⟩:=h d hd;exact Spots.imm hz.pre.spots
theorem FrmD.depth{d:U}(h:FrmD d):d.depth<=3:=by obtain⟨es,rfl,hz⟩:=h;have hd:=v0 hz.pre.spots;simp[gk];lia
theorem FrmD.depths:∀{ds:Z U},(∀d∈ds,FrmD d)->bj ds<=3
 | [],_=>by simp[bj]
 | d::ds,h=>by have h1:=(h d aq).depth;have h2:=FrmD.depths λe he=>h e<|ar _ he;show max d.depth (bj ds)<=3;lia
def FrmD.turn{d:U}(h:FrmD d)(t:Nat):FrmD (pU t d):=by obtain⟨es,rfl,hz⟩:=h;exact⟨_,rfl,(hz.turned t).perm (oz _)⟩
def Aw{es:Z U}{n:Nat}(h:Zr es):∀d∈FS es n,FrmD d:=λd hd=>by obtain⟨t,rfl⟩:=aso d hd;exact⟨_,rfl,wg h t⟩
def KindK(H:Hp)(v:V)(k:Z U×Nat):Prop:=∃b nm m fr xs,v=.ref b/\H b=some (.tup [.str nm,.int 0,.non,.str m,.ref fr])/\H fr=some (.tup xs)/\RepAll H k.1 xs/\Zr k.1/\wK m k.2
theorem KindK.same{H H':Hp}{v:V}{k:Z U×Nat}(h:KindK H v k)(s:Same H H'):KindK H' v k:=by obtain⟨b,nm,m,fr,xs,rfl,h1,h2,h3,h4,h5⟩:=h;exact(ni b nm m fr xs ⟨rfl,s _ _ h1,s _ _ h2,h3.same s,h4,h5⟩)
def KindsK(H:Hp)(kvs:Z V)(ks:Z (Z U×Nat)):Prop:=kvs.length=ks.length/\∀(i:Nat) v k,kvs[i]?=some v->ks[i]?=some k->KindK H v k
theorem KindsK.same{H H':Hp}{kvs:Z V}{ks:Z (Z U×Nat)}(h:KindsK H kvs ks)(s:Same H H'):KindsK H' kvs ks:=⟨h.1,λi v k h1 h2=>(h.2 i v k h1 h2).same s⟩
def PzK(H:Hp)(p:aG)(M:Mat)(ks:Z (Z U×Nat)):Prop:=∃fl kr e kvs,H p=some (.tup [.ref fl,.ref kr,.ref e])/\FlM H fl M/\H kr=some (.tup kvs)/\KindsK H kvs ks/\ks.length<=6
theorem PzK.same{H H':Hp}{p:aG}{M:Mat}{ks:Z (Z U×Nat)}(h:PzK H p M ks)(s:Same H H'):PzK H' p M ks:=by obtain⟨fl,kr,e,kvs,h1,h2,h3,h4,h5⟩:=h;exact(ny fl kr e kvs ⟨s _ _ h1,h2.same s,s _ _ h3,h4.same s,h5⟩)
def a2s:Sp:=λvs H Q _=>∃(a:aG)(M:Mat)(t:Nat),vs=[.ref a,.int (t:Nat)]/\FlM H a M/\t<8/\∀(r:aG)(H':Hp),Same H H'->FlM H' r (jO t M)->Q (.ref r) H'
def a3s:np ["floor","t","rows","row","column","sign"] Z0 (m9 sTf):={}
theorem a2f(B:∀x∈uk,mg x=none)(fX:Fn P w K mg base "floor_spots" 1 Z7 EE)(Ay:Fn P w K mg base "turned" 2 Z4 Gk)(F:Fun K "turned_floor" "turned_floor" sTf f fd):rn P w K mg base CX0 3 f fd Z0 a2s:=by
 refine F.o 2 a3s λH Q E hr hu hN h=>?_;obtain⟨a,M,t,rfl,hf,ht,q⟩:=h;refine⟨_,(qj (psM 2 ap9)
  (qj (pfo (LH<|pfn Ay<|my (pfn fX<|my (pv 0) mq)<|my (pv 1) mq) (Eo (n:=3) rfl<|mw (pgM 3)<|mw (pgM 4)<|mw (pgM 5) ow)<|rj<|L5 (gi (gm (by decide) _) hu) (pv 2) (pv 3) (om uu (aqj (gi (gm (by decide) _) hu) (pv 2) (pv 3) qh ⟨rfl,rfl,rfl,rfl⟩)<|pv 5) rfl)
  (rj<|nu<|ald rfl rfl (B "tuple"<|by decide)<|pv 2))),?_⟩
 intro D hD;refine aE hD λH1 s1 d1=>?_;obtain⟨qL,dC⟩:=id hf;have AR:=dC.tur t;refine(oq _ rfl a (ri M) ⟨rfl,FlM.fl<|hf.same s1,λD2 ys H2 s2 cT eV dB=>?_⟩);rw[ql,vt M M.h<|ao _]at dB;have dB:RepAll H2 (pX M) ys:=dB;have lr:=dB.length;have ll:=ajx M;have CL:0<M.h*M.w:=Nat.mul_pos dC.h1 dC.w1;refine(mz _ rfl D2 t ys (pX M) ⟨rfl,.inl cT,dB,(akg M).spots,by lia,by lia,ht,λr H3 es s3 pe ue dS=>?_⟩);have ees:es=pX (jO t M):=((akg M).tur dC t).sorted pe ue;subst ees;obtain⟨N,hN⟩:∃N,N=jO t M:=⟨_,rfl⟩;rw[<-hN]at dS AR;have w1:=AR.w1;obtain⟨r',xs3,e3,yY,CA⟩:=dS;cases e3;have lx:=CA.length;rw[ajx]at lx;have d3:H3 D=some (.dK []):=s3 _ _<|s2 _ _ d1;have nrD:r≠D:=λe=>by rw[e,d3]at yY;cases yY
 refine⟨r,rfl,⟨_,SqT.of yY⟩,?_⟩;refine yt (xs:=xs3) (λi σ' H'=>∃y3 y4 y5,σ'=[some (.ref a),some<|.int (t:Nat),some<|.ref D,y3,y4,y5]/\Ex [D] H3 H'/\H' D=some (.dK<|tP N i)) ?_ (λi σ' H' hi h=>?_) (λi x σ' H' hx h=>?_) λσ' H' h=>?_
 .exact(oa _ _ _ ⟨rfl,Ex.refl _ _,by rw[d3];unfold tP;rw[Nat.zero_div,Nat.zero_mod];rfl⟩)
 .obtain⟨_,_,_,_,ex,_⟩:=h;exact SqT.of<|ex.at nrD yY
 .obtain⟨y3,y4,y5,rfl,ex,Bl⟩:=h;have hi:i<xs3.length:=(ak.mp hx).1;obtain⟨d,hd,rd⟩:=CA.at hx;rw[ave N (by lia)]at hd;cases hd;obtain⟨b,rfl,hb,_⟩:=sv rd;have nb:b≠D:=λe=>by rw[e,d3]at hb;cases hb
  have eW:=ex.at nb hb;have hdiv:i/N.w<N.h:=(Nat.div_lt_iff_lt_mul w1).mpr (by lia);have hmod:=ln i w1;have h8:=AR.h8;have w8:=AR.w8;refine(nj b _ rfl (SqT.of eW) rfl _ _ rfl _<|oq _ rfl _ _ ⟨rfl,rfl,?_⟩);have key:(wu (tP N i)<|Sum.inl (((i/N.w:Nat):Nat):Int)).getD (V.str<|bm "")=V.str (qX N (i/N.w)<|i % N.w):=by
   unfold tP;rw[Mz];by_cases hc:i % N.w=0
   .rw[if_pos hc,hc];rfl
   .rw[if_neg hc];rfl
  refine(qe _ rfl D ⟨rfl,.inl ⟨_,.inl Bl⟩,(o6 _ rfl _ (DGet.k (k:=Sum.inl (((i/N.w:Nat):Nat):Int)) Bl) _ rfl _ _ ⟨key,rfl,?_,?_⟩)⟩)
  .show(qX N (i/N.w)<|i % N.w).length+1<=aF;have:(qX N (i/N.w)<|i % N.w).length=i % N.w:=by unfold qX;show(List.toArray _).size=_;simp
   rw[this];exact gx<|o0<|by lia
  refine(v7 _ rfl _ rfl D _ ⟨rfl,DPut.k (k:=Sum.inl (((i/N.w:Nat):Nat):Int)) Bl (o0<|by have:=at5 N i;lia),?_⟩);refine(oa _ _ _ ⟨rfl,ex.trans<|Ex.upd<|by simp,?_⟩);rw[m8,aqa N w1 i]
 .obtain⟨y3,y4,y5,rfl,ex,Bl⟩:=h;rw[lx,aul N w1]at Bl;refine(oq _ rfl D _ ⟨rfl,Bl,λr2 AY=>?_⟩);have sm:Same H H':=λb o e=>ex.at (λz=>by rw[z,hD]at e;cases e)<|s3 _ _<|s2 _ _<|s1 _ _ e;refine q r2 _ (sm.new (?_:H r2=none)) ?_
  .cases z:H r2 with
   | none=>rfl
   | some o=>have z':=sm r2 o z;rw[z']at AY;cases AY
  .rw[<-hN];refine⟨?_,AR⟩;rw[m8,amb]
noncomputable def kkB(es:Z U)(n t:Nat):Bool:=bn (.list<|ub<|(FS es n).map (pU t))<|.list<|FS es n
def a2t:Sp:=λvs H Q _=>∃(v:V)(t:Nat)(k:Z U×Nat),vs=[v,.int (t:Nat)]/\KindK H v k/\t<8/\∀H',Same H H'->Q (.bl<|kkB k.1 k.2 t) H'
def a28:np ["kind","t","forms"] ["kind","t"] (m9 sKk):={}
def a0f(B:∀x∈uk,mg x=none)(nR:Fn P w K mg base "forms_of" 3 ZX LO)(Ay:Fn P w K mg base "turned" 2 Z4 Gk)(F:Fun K "keeps_kind" "keeps_kind" sKk f fd):rn P w K mg base CX0 4 f fd ["kind","t"] a2t:=by
 refine F.o 3 a28 λH Q E hr hu hN h=>?_;obtain⟨v,t,⟨es,n⟩,rfl,⟨b,nm,m,fr,xs,rfl,hb,nH,rep,hz,hm⟩,ht,q⟩:=h;have rep:RepAll H es xs:=rep;have hz:Zr es:=hz;have hm:wK m n:=hm;refine⟨_,(nv (psM 2<|pfn nR<|my (pix nr (pv 0) mr)<|my (pix nr (pv 0) mr) mq)
  (nw<|nu<|vp (Lr hu) (pCB (xi hu) k6<|my (pcm Z4 [none,some 1] (oy<|pv 2) (λ_=>(pgC 0)) (λ_=>ou) λ_=>(pfn Ay<|my (pv 0)<|my (pv 1) mq)) mq) (pv 2)<|qy _)),?_⟩
 refine λzD1 zq1=>?_;refine(mz _ rfl b _ _ _ ⟨rfl,rfl,SqT.of hb,m7 (j:=4) rfl,(mz _ rfl b _ _ _ ⟨rfl,rfl,SqT.of hb,m7 (j:=3) rfl,?_⟩)⟩);refine(ni fr m n xs es ⟨rfl,nH,rep,hz,hm,λl ys ds H1 s1 zO hl nd mem gR=>?_⟩);have hn:n<=8:=by rcases hm with h|h|h<;>lia
 rw[KU hz nd mem]at gR;have hF:=Aw (n:=n) hz;have hFl:=Lu (es:=es) (n:=n);have eJ:=gR.length;refine zq1.nx _ _ λzD1 zq1=>?_;refine(qe _ rfl l ⟨rfl,⟨_,SqL.of hl⟩,λD hD=>?_⟩);have turned:∀i,∀d∈((FS es n).take i).map (pU t),FrmD d:=λi d hd=>by obtain⟨x,hx,rfl⟩:=au.mp hd;exact(hF x<|cx hx).turn t
 refine pk (xs:=ys) (λi zs G=>Same H1 G/\RepAll G (((FS es n).take i).map (pU t)) zs) ⟨Same.fresh _ hD,rfl⟩ (λi zs G p=>SqL.of<|p.1 _ _ hl) (λi x zs G hx hi aW cX p=>?_) λzs G aW cX p=>?_
 .obtain⟨p1,p2⟩:=p;obtain⟨d,hd,rd⟩:=gR.at hx;obtain⟨fs,rfl,tZ⟩:=hF d<|ai hd;obtain⟨b2,HX,rfl,zZ,dB⟩:=rd;refine⟨Agree.set (Agree.refl _) rfl,?_⟩;dsimp only[x5];refine x9 ?_;refine(oe _ rfl _ rfl b2 t HX ⟨fs,rfl,.inr<|p1 _ _ zZ,dB.same p1,tZ.pre.spots,tZ.pre.pos,by have:=tZ.pre.six;lia,ht,λr2 H2 e2 s2 pe ue rp=>?_⟩);rw[(tZ.turned t).pre.sorted pe ue]at rp;have cT:=s2 _ _ aW;refine qk (by lia) cT cX ⟨(p1.trans s2).new hD,?_⟩;rw[nh (pU t) hd];refine((p2.same s2).snoc rp).tk (Tk.lst cT) ?_;have:=turned<|i+1;rw[nh (pU t) hd]at this;exact FrmD.imm this
 .obtain⟨p1,p2⟩:=p;rw[a8 (by lia)]at p2;have hT:∀d∈(FS es n).map (pU t),FrmD d:=λd hd=>by
   obtain⟨x,hx,rfl⟩:=au.mp hd;exact(hF x hx).turn t
  refine(oa D zs ((FS es n).map (pU t)) ⟨rfl,aW,p2,λd hd=>(hT d hd).key,FrmD.cmp hT,by rw[ae];lia,λl2 ws eV dS=>?_⟩);have s3:Same G (upd G l2<|.lst ws):=Same.fresh _ eV;have sE:∀d∈ub ((FS es n).map (pU t)),FrmD d:=λd hd=>hT d<|(pw _).mem_iff.mp hd;refine(oq _ rfl (.list<|ub<|(FS es n).map (pU t)) (.list<|FS es n) ⟨(nc l2 ws ⟨rfl,m8,dS⟩),(nc l ys ⟨rfl,s3 _ _<|p1 _ _ hl,gR.same<|p1.trans s3⟩),?_,zq1.rt _ _ ?_⟩)
  .have:=FrmD.depths sE;simp[gk];lia
  .exact q _<|(s1.trans p1).trans s3
theorem akw(zs:Z Str):bj (zs.map PyData.str)<=1:=by
 induction zs with
 | nil=>simp[bj]
 | cons z t ih=>simp[bj,gk]at ih⊢;lia
theorem ajd{H:Hp}{M:Mat}(o:OkM SgP M):∀{zs:Z Str},(∀z∈zs,z∈ri M)->RepAll H (zs.map PyData.str) (zs.map V.str)
 | [],_=>rfl
 | z::zs,h=>(nc _ _ ⟨rfl,⟨rfl,Tx.ok (L4 o<|h z aq).1.1⟩,ajd o λy hy=>h y<|ar _ hy⟩)
noncomputable def dM(M:Mat):U:=.tuple<|(ri M).map PyData.str
def FlM.rep{H:Hp}{a:aG}{M:Mat}(h:FlM H a M):Rep H (dM M) (.ref a):=(nc a _ ⟨rfl,h.1,ajd h.2 λ_ hz=>hz⟩)
def avt(M:Mat):(dM M).depth<=60:=by have:=akw<|ri M;simp[dM,gk];lia
noncomputable def flK(M:Mat)(t:Nat):Bool:=bn (dM<|jO t M)<|dM M
noncomputable def kpB(M:Mat)(ks:Z (Z U×Nat))(t:Nat):Bool:=flK M t&&ks.all λk=>kkB k.1 k.2 t
noncomputable def kpL(M:Mat)(ks:Z (Z U×Nat)):Z Nat:=(cj 8).filter (kpB M ks)
def am9:Sp:=λvs H Q _=>∃(p:aG)(t:Nat)(M:Mat) (ks:Z (Z U×Nat)),vs=[.ref p,.int (t:Nat)]/\PzK H p M ks/\t<8/\∀H',Same H H'->Q (.bl<|kpB M ks t) H'
def awd:np ZT ZT (m9 Lm):={}
theorem ar8(B:∀x∈uk,mg x=none)(Ftf:Fn P w K mg base "turned_floor" 3 Z0 a2s)(Fkk:Fn P w K mg base "keeps_kind" 4 ["kind","t"] a2t)(F:Fun K "keeps" "keeps" Lm f fd):rn P w K mg base CX0 5 f fd ZT am9:=by
 refine F.o 4 awd λH Q E hr hu hN h=>?_;obtain⟨p,t,M,ks,rfl,⟨fl,kr,e,kvs,hp,kJ,pL,fW,h6⟩,ht,q⟩:=h;refine⟨_,(nw<|nu<|yF (vp (Lr hu) (pfn Ftf<|my (pix nr (pv 0) mr)<|my (pv 1) mq) (pix nr (pv 0) mr)<|qy _)<|Ax<|pCB (HD rfl) xS<|my (pcm ["kind","t"] [none,some 1] (vc<|pix nr (pv 0) mr) (λ_=>(pgC 0)) (λ_=>ou) λ_=>(pfn Fkk<|my (pv 0)<|my (pv 1) mq)) mq),?_⟩;refine λzD1 zq1=>?_;refine(mz _ rfl p _ _ _ ⟨rfl,rfl,SqT.of hp,m7 (j:=0) rfl,(qu _ rfl fl M t ⟨rfl,kJ,ht,λr H1 s1 Jd=>?_⟩)⟩);refine(mz _ rfl p _ _ _ ⟨rfl,rfl,SqT.of<|s1 _ _ hp,m7 (j:=0) rfl,(nc (dM<|jO t M) (dM M) ⟨FlM.rep Jd,FlM.rep<|kJ.same s1,avt _,?_⟩)⟩);rw[if_neg am];refine⟨_,rfl,?_⟩;unfold kpB at q;cases ef:bn (dM<|jO t M) (dM M)with
 | false=>
  rw[if_neg am];have:=q H1 s1;rw[show flK M t=false from ef]at this;refine zq1.rt _ _ ?_;exact this
 | true=>
  rw[if_pos rfl];rw[show flK M t=true from ef,Bool.true_and]at q;refine(mz _ rfl p _ _ _ ⟨rfl,rfl,SqT.of<|s1 _ _ hp,m7 (j:=1) rfl,kr,rfl,⟨_,SqT.of<|s1 _ _ pL⟩,λD hD=>?_⟩);refine wn (xs:=kvs) (λi zs G=>Same H1 G/\zs=((ks.take i).map λk=>kkB k.1 k.2 t).map V.bl) ⟨Same.fresh _ hD,rfl⟩ (λi zs G p=>SqT.of<|p.1 _ _<|s1 _ _ pL) (λi x zs G hx hi aW cX p=>?_) λzs G aW cX p=>?_
  .obtain⟨p1,rfl⟩:=p;have oN:i<ks.length:=by rw[<-fW.1];exact hi
   have hk:=fW.2 i x _ hx<|af oN;refine⟨Agree.set (Agree.refl _) rfl,?_⟩;dsimp only[x5];refine x9 ?_;refine(oe _ rfl _ rfl x t _ ⟨rfl,hk.same<|s1.trans p1,ht,λG2 s2=>?_⟩);refine qk (by lia) (s2 _ _ aW) cX ⟨(p1.trans s2).new hD,?_⟩;rw[nh (λk=>kkB k.1 k.2 t) (af oN),bq];rfl
  .obtain⟨p1,rfl⟩:=p;rw[a8 (by rw[fW.1];exact ao _)]at aW;refine(nc D _ ⟨rfl,aW,zq1.rt _ _ ?_⟩);rw[List.all_map];exact q G<|s1.trans p1
def agx:Sp:=λvs H Q _=>∃(p:aG)(M:Mat) (ks:Z (Z U×Nat)),vs=[.ref p]/\PzK H p M ks/\∀(l:aG)(H':Hp),H l=none->Same H H'->H' l=some (.lst<|(kpL M ks).map λt=>V.int ((t:Nat):Int))->Q (.ref l) H'
def amh:np Z2 Z2 (m9 MC):={}
def akh(B:∀x∈uk,mg x=none)(g8:∃t,mg "MANY_TURNINGS" = some (.int 8 t))(AC:Fn P w K mg base "keeps" 5 ZT am9)(F:Fun K "keeping" "keeping" MC f fd):rn P w K mg base CX0 6 f fd Z2 agx:=by
 refine F.o 5 amh λH Q E hr hu hN h=>?_;obtain⟨p,M,ks,rfl,hp,q⟩:=h;refine⟨_,(nw<|nu<|pcm ["t","puzzle"] [none,some 0] (pR1<|my (aqs g8 rfl) mq) (λ_=>(pgC 0)) (λ_=>Mg<|uh<|pfn AC<|my (pv 1)<|my (pv 0) mq) λ_=>(pv 0)),?_⟩;refine λzD1 zq1=>?_;refine⟨8,rfl,by decide,by decide,λD hD=>?_⟩;refine xy (lo:=0) (n:=8) (λi zs G=>Same H G/\zs=((cj i).filter (kpB M ks)).map λt=>V.int ((t:Nat):Int)) ⟨Same.fresh _ hD,rfl⟩ (λi zs G hi aW cX p1=>?_) λzs G aW cX p1=>?_
 .obtain⟨s1,rfl⟩:=p1;refine⟨Agree.set (Agree.refl _) rfl,?_⟩;refine(oe _ rfl _ rfl p i M ⟨ks,by rw[ky];rfl,hp.same s1,hi,λG2 s2=>?_⟩);refine⟨_,rfl,?_⟩;have e:(cj<|i+1).filter (kpB M ks)=(cj i).filter (kpB M ks)++if kpB M ks i=true then[i]else[]:=by
   rw[g0,List.filter_append]
   congr 1
   cases h:kpB M ks i<;>simp[h]
  have cT:=s2 _ _ aW;refine x6 (λh1=>?_) λh1=>?_
  .refine⟨_,rfl,?_⟩;refine qk (by lia) cT cX ⟨(s1.trans s2).new hD,?_⟩;rw[e,if_pos h1,bq,ky];rfl
  .refine⟨_,cT,by lia,s1.trans s2,?_⟩;rw[e,if_neg h1,df]
 .obtain⟨s1,rfl⟩:=p1;refine zq1.rt _ _ ?_;exact q D G hD s1 aW
def MB:Sp:=λvs H Q _=>∃a xs ds,vs=[.ref a]/\(H a=some (.lst xs)\/H a=some (.tup xs))/\RepAll H ds xs/\Spots ds/\0<ds.length/\ds.length<64/\∀r H',Same H H'->Rep H' (.tuple<|sy<|oj ds) (.ref r)->Q (.ref r) H'
def scFormed:np ["_law_spots","_law_top","_law_left"] ZS (m9 Mf):={}
def amp(B:∀x∈uk,mg x=none)(F:Fun K "_law_formed" "_law_formed" Mf f fd):rn P w K mg base CX0 1 f fd ZS MB:=by
 refine F.o 0 scFormed λH Q E hr hu hN h=>?_;obtain⟨a,xs,ds,rfl,ha,fU,hs,dD,jV,q⟩:=h;refine⟨_,(nv (yh (i:=1) scFormed.nd rfl (Or.inr rfl)<|pCB (afv rfl) boot_min<|my (pcm ZR [none,none,none] (BV<|pv 0) (λ_=>(pf (n:=3) rfl<|mw (pgC 0)<|mw (pgC 1)<|mw (pgC 2) ow)) (λ_=>ou) λ_=>(pv 0)) mq)
  (nv (yh (i:=2) scFormed.nd rfl (Or.inr rfl)<|pCB (afv rfl) boot_min<|my (pcm ZR [none,none,none] (BV<|pv 0) (λ_=>(pf (n:=3) rfl<|mw (pgC 0)<|mw (pgC 1)<|mw (pgC 2) ow)) (λ_=>ou) λ_=>(pv 1)) mq)
  (nw<|nu<|pCT ph j4<|my (pCB xo k6<|my (pcm ["_law_row","_law_column","_law_sign","_law_top","_law_left"] [none,none,none,some 1,some 2] (BV<|pv 0) (λ_=>(pf (n:=3) rfl<|mw (pgC 0)<|mw (pgC 1)<|mw (pgC 2) ow)) (λ_=>ou) λ_=>(og<|my (om yb (pv 0)<|pv 3)<|my (om yb (pv 1)<|pv 4)<|my (pv 2) mq)) mq) mq))),?_⟩
 refine λzD1 zq1=>?_;refine ad3 ul rfl rfl ha fU hs (by lia) (λr c z H' Q' q=>⟨_,rfl,q⟩) λD1 H1 s1 jJ=>?_;refine(nc D1 _ ⟨rfl,jJ,by rw[ae];exact dD,λM1 m1 vG=>?_⟩);refine zq1.nx _ _ λzD1 zq1=>?_;refine ad3 uq rfl rfl (ha.imp (s1 _ _)<|s1 _ _) (fU.same s1) hs (by lia) (λr c z H' Q' q=>⟨_,rfl,q⟩) λD2 H2 s2 cT=>?_;refine(nc D2 _ ⟨rfl,cT,by rw[ae];exact dD,λM2 m2 m2'=>?_⟩);have iZ:=s1.trans s2;refine zq1.nx _ _ λzD1 zq1=>?_;refine xz (yD M1 M2) rfl rfl (ha.imp (iZ _ _)<|iZ _ _) (fU.same iZ) hs (by lia) (λr c z H' Q' h=>?_) (λr c z=>(nc _ _ rfl)) λD ys H3 hD s3 jI dS=>?_
 .obtain⟨u,v,e,q⟩:=h;cases (show PyData.tuple [.int (r-M1),.int<|c-M2,.str z]=.tuple [.int u,.int v,.str z]from e);exact(rg _ rfl _ rfl _ _ rfl rfl _ ⟨rfl,(o9 _ rfl _ _ rfl rfl _ ⟨rfl,sZ3,q⟩)⟩)
 .have e:ds.map (yD M1 M2)=oj ds:=by unfold oj;rw[yn m1 vG,yn m2 m2']
  rw[e]at dS;have sp3:Spots (oj ds):=λd hd=>by obtain⟨x,hx,rfl⟩:=au.mp hd;obtain⟨r,c,z,rfl⟩:=hs x hx;exact(oa _ _ _ rfl)
  refine(ny D ys _ ([true,false]) ⟨rfl,jI,dS,vx sp3,by unfold oj;rw[ae];exact jV,λl1 zs iA hz=>?_⟩);refine(nc l1 zs ⟨rfl,.inl ⟨SqL.of m8,λl2 eV=>?_⟩⟩);have s4:Same H3 (upd H3 l1<|.lst zs):=Same.fresh _ iA;have s5:Same (upd H3 l1<|.lst zs) (upd (upd H3 l1<|.lst zs) l2<|.tup zs):=Same.fresh _ eV;refine zq1.rt _ _ ?_;exact q l2 _ (((iZ.trans s3).trans s4).trans s5)<|nc l2 zs ⟨rfl,m8,hz.same s5⟩
def a2y:Sp:=λvs H Q _=>∃(a:aG)(t:Nat)(xs:Z V)(ds:Z U),vs=[.ref a,.int (t:Nat)]/\H a=some (.tup xs)/\RepAll H ds xs/\Zr ds/\t<8/\∀r H',Same H H'->Rep H' (.tuple<|sy<|sj t ds) (.ref r)->Q (.ref r) H'
def scLt:np ["_law_spots","_law_t","_law_quarter"] ZJ (m9 sLt):={}
def a0p(B:∀x∈uk,mg x=none)(lI:Fn P w K mg base "_law_formed" 1 ZS MB)(F:Fun K "_law_turned" "_law_turned" sLt f fd):rn P w K mg base CX0 2 f fd ZJ a2y:=by
 refine F.o 1 scLt λH Q E hr hu hN h=>?_;obtain⟨a,t,xs,ds,rfl,ha,rep,hz,ht,q⟩:=h;have hp:=hz.pre.pos;have h6:=hz.pre.six;rw[<-hz.raw t]at q;refine⟨_,(nv (va (qm GA (pv 1) mr<|qy _) (nw<|psC 0 ZR [none,none,none] scLt.nd (BV<|pv 0) (λ_=>(pf (n:=3) rfl<|mw (pgC 0)<|mw (pgC 1)<|mw (pgC 2) ow)) (λ_=>ou) λ_=>(og<|my (pv 0)<|my (Gs GN<|pv 1)<|my (pv 2) mq)) qd)
  (nv (pfo (pR1<|my (om qp (pv 1) mr) mq) (pgM 2)<|nw<|psC 0 ZR [none,none,none] scLt.nd (BV<|pv 0) (λ_=>(pf (n:=3) rfl<|mw (pgC 0)<|mw (pgC 1)<|mw (pgC 2) ow)) (λ_=>ou) λ_=>(og<|my (pv 1)<|my (Gs GN<|pv 0)<|my (pv 2) mq))
  (nw<|nu<|pfn lI<|my (pv 0) mq))),?_⟩
 refine λzD1 zq1=>?_;refine(o9 _ rfl _ _ rfl rfl _ ⟨rfl,?_⟩);refine x6 (λh4=>?ga) λh4=>?gb
 case' ga=>
  have mN:4<=t:=by have:(t:Int)>=4:=of_decide_eq_true h4
                   lia
  refine λzD2 zq2=>?_;refine xz ng1 rfl rfl (.inr ha) rep hz.pre.spots (by lia) (λr c z H' Q' h=>?gn) (λr c z=>(nc _ _ rfl)) λD ys H2 hD sm aW rep=>?ge
  case' gn=>
   obtain⟨u,v,e,q⟩:=h;cases (show PyData.tuple [.int r,.int<|-c,.str z]=.tuple [.int u,.int v,.str z]from e);exact(sw _ rfl _ rfl _ ⟨rfl,_,rfl,sZ3,q⟩)
  case' ge=>
   obtain⟨iW,e1⟩:∃d,d=(if 4<=t then ds.map ng1 else ds):=⟨_,rfl⟩;have e2:iW=ds.map ng1:=by rw[e1,if_pos mN]
   rw[<-e2]at rep;have AL:Spots iW:=by rw[e2];exact ES hz.pre.spots
   have l1:iW.length=ds.length:=by rw[e2,ae]
   have aW:H2 D=some (.lst ys)\/H2 D=some (.tup ys):=.inl aW
 case' gb=>
  have mN:¬4<=t:=by have:¬(t:Int)>=4:=by simpa using h4
                    lia
  obtain⟨iW,e1⟩:∃d,d=(if 4<=t then ds.map ng1 else ds):=⟨_,rfl⟩;have e2:iW=ds:=by rw[e1,if_neg mN]
  rw[<-e2]at rep;have AL:Spots iW:=by rw[e2];exact hz.pre.spots
  have l1:iW.length=ds.length:=by rw[e2]
  have sm:=Same.refl H;have aW:H a=some (.lst xs)\/H a=some (.tup xs):=.inr ha
 all_goals
  (first|(refine zq2.nx _ _<|zq1.nx _ _ λzD1 zq1=>?_)|(refine zq1.nx _ _ λzD1 zq1=>?_));refine(sd _ rfl _ _ rfl rfl (by show(0:Int)<4;decide) _ ⟨rfl,by lia,by lia,?_⟩)
  refine ug (lo:=0) (λi σ' H'=>∃(y2:Option V)(D:aG)(ys:Z V),σ'=[some (.ref D),some<|.int (t:Nat),y2]/\Same H H'/\(H' D=some (.lst ys)\/H' D=some (.tup ys))/\RepAll H' (qR i iW) ys) ?_ (λi σ' H' hi h=>?_) λσ' H' h=>?_
  .exact(oa _ _ _ ⟨rfl,sm,aW,rep⟩)
  .obtain⟨y2,D,ys,rfl,sm,aW,rep⟩:=h;refine λzD2 zq2=>?_;refine xz nt1 rfl rfl aW rep (uv AL i) (by rw[ET];lia) (λr c z H' Q' h=>?_) (λr c z=>(nc _ _ rfl)) λD2 uW H3 cT s3 jI dS=>?_
   .obtain⟨u,v,e,q⟩:=h;cases (show PyData.tuple [.int c,.int<|-r,.str z]=.tuple [.int u,.int v,.str z]from e);exact(sw _ rfl _ rfl _ ⟨rfl,_,rfl,sZ3,q⟩)
   .refine zq2.nx _ _ ?_;exact(oa _ D2 uW ⟨rfl,sm.trans s3,.inl jI,by rw[uz];exact dS⟩)
  .obtain⟨y2,D,ys,rfl,sm,aW,rep⟩:=h;have et:(((t:Nat):Int) % 4).toNat=t % 4:=by lia
   rw[et]at rep;refine zq1.nx _ _ λzD1 zq1=>?_;refine(qu _ rfl D ys _ ⟨rfl,aW,rep,uv AL _,by rw[ET];lia,by rw[ET];lia,λr H3 s3 dS=>?_⟩);refine zq1.rt _ _ ?_;refine q r H3 (sm.trans s3) ?_;rw[show nM t ds=qR (t % 4) iW by rw[e1];rfl];exact dS
seal L2.PE L2.PT L2.PW L2.PA L2.PS L2.PSs L2.PG L2.PGs L2.PI L2.PO
def ai4:Sp:=λvs H Q _=>∃(v:V)(k:Z U×Nat),vs=[v]/\KindK H v k/\∀(l:aG)(ys:Z V)(H':Hp),Same H H'->H l=none->H' l=some (.lst ys)->RepAll H' (FS k.1 k.2) ys->Q (.ref l) H'
def arb:np ["_law_kind","_law_many"] ["_law_kind"] (m9 Ml):={}
def avc{m:Str}{n:Nat}(h:wK m n):wu (kvI [(bm "still",1),(bm "turn",4),(bm "flip",8)]) (Sum.inr m)=some (.int (n:Nat)):=by rcases h with ⟨rfl,rfl⟩|⟨rfl,rfl⟩|⟨rfl,rfl⟩<;>decide +kernel
theorem an0(B:∀x∈uk,mg x=none)(Flt:Fn P w K mg base "_law_turned" 2 ZJ a2y)(F:Fun K "_law_forms" "_law_forms" Ml f fd):rn P w K mg base CX0 3 f fd ["_law_kind"] ai4:=by
 refine F.o 2 arb λH Q E hr hu hN h=>?_;obtain⟨v,⟨es,n⟩,rfl,⟨b,nm,m,fr,xs,rfl,hb,nH,rep,hz,hm⟩,q⟩:=h;have rep:RepAll H es xs:=rep;have hz:Zr es:=hz;have hm:wK m n:=hm;refine⟨_,(qj (psM 1<|Mh (gi (gm (by decide) _) hu) (ar7 qh mr qh mr qh mr<|by decide +kernel) (pix wo (pv 0) mr) λ_ _=>rfl)
  (rj<|nu<|MU rfl hu rfl (B "sorted"<|by decide) rfl (B "set"<|by decide)<|my (pcm ["_law_t","_law_kind"] [none,some 0] (pR1<|my (pv 1) mq) (λ_=>(pgC 0)) (λ_=>ou) λ_=>(pfn Flt<|my (pix EM (pv 1) mr)<|my (pv 0) mq)) mq)),?_⟩
 intro dd uI;refine aE uI λH0 s0 d0=>?_;refine(mz _ rfl b _ _ _ ⟨rfl,rfl,SqT.of<|s0 _ _ hb,m7 (j:=3) rfl,(nc dd (.int (n:Nat)) ⟨rfl,by rw[<-avc hm];exact DGet.k (k:=Sum.inr m) d0,?_⟩)⟩);have hn:n<=8:=by rcases hm with h|h|h<;>lia
 refine(qe _ rfl (n:Nat) ⟨rfl,by lia,by lia,λD hD0=>?_⟩);rw[da];refine xy (lo:=0) (n:=n) (λi ys G=>Same H0 G/\RepAll G (tj es i) ys) ⟨Same.fresh _ hD0,rfl⟩ (λi ys G hi aW eJ p=>?_) λys G aW eJ p=>?_
 .obtain⟨p1,p2⟩:=p;refine⟨Agree.set (Agree.refl _) rfl,?_⟩;dsimp only[x5];refine x9 ?_;have sG:=s0.trans p1;refine(mz _ rfl b _ _ _ ⟨rfl,rfl,SqT.of<|sG _ _ hb,m7 (j:=4) rfl,(mz _ rfl fr i xs es ⟨by rw[ky];rfl,sG _ _ nH,rep.same sG,hz,by lia,λr2 H2 s2 dB=>?_⟩)⟩);have cT:=s2 _ _ aW;refine qk (by lia) cT eJ ⟨(p1.trans s2).new hD0,?_⟩;rw[adg];refine((p2.same s2).snoc dB).tk (Tk.lst cT) (MD hz λd hd=>?_);rcases bw.mp hd with h|h
  .exact qr d h
  .exact⟨i,(ay.mp h).symm⟩
 .obtain⟨p1,p2⟩:=p;refine(oa D ys (tj es n) ⟨rfl,aW,p2,agp hz qr,MG hz qr,by simp[tj];lia,λds l zs lQ eK hl rz=>?_⟩);have sG:=s0.trans p1;have JA:H l=none:=by
   cases e:H l with
   | none=>rfl
   | some o=>rw[sG _ _ e]at hl;cases hl
  rw[KU hz lQ eK]at rz;exact q l zs _ (sG.trans<|Same.fresh _ hl) JA m8 rz
noncomputable abbrev AZ:Str:=bm "ABCDEFGHIJKLMNOPQRSTUVWXYZ"
def a02{i:Nat}(h:i<26):AZ.cps.toList[i]?=some (65+i):=by
 have:∀i<26,AZ.cps.toList[i]?=some (65+i):=by decide +kernel
 exact this i h
def txL{z:Str}(h:z.length<=80/\z.cps.toList.all (· < 128)=true):Tx z:=⟨h.1,λc hc=>by simpa using js.mp h.2 c hc⟩
def alv{z:Str}(h:Tx z):z.length<=aF:=gx (o0<|by have:=h.1;lia)
def Ltr(c:Nat):Prop:=65<=c/\c<=90
noncomputable def lV(cs:Z Nat):Z V:=cs.map λc=>V.str ⟨#[c]⟩
def axf:Sp:=λvs H Q _=>∃x:Int,vs=[.int x]/\∀(D:aG)(cs:Z Nat)(H':Hp),cs.length=3->(∀c∈cs,Ltr c)->Same H H'->H D=none->H' D=some (.lst<|lV cs)->Q (.ref D) H'
def scLet:np ["_law_x","_law_some"] ["_law_x"] (m9 KS):={}
def aze(B:∀x∈uk,mg x=none)(F:Fun K "_law_letters" "_law_letters" KS f fd):rn P w K mg base CX0 1 f fd ["_law_x"] axf:=by
 refine F.o 0 scLet λH Q E hr hu hN h=>?_;obtain⟨x,rfl,q⟩:=h;refine⟨_,(nv (yh (i:=1) scLet.nd rfl (Or.inr rfl) qh)
  (nw<|nu<|pcm ["_law_k","_law_some","_law_x"] [none,some 1,some 0] (pR1<|my mr mq) (λ_=>(pgC 0)) (λ_=>ou) λ_=>(pix Eu (pv 1)<|om qp (om qz (pv 2)<|om GV (pv 0)<|om qz mr<|om qp (om GY (pv 2) mr) mr) mr))),?_⟩
 refine λzD1 zq1=>?_;refine zq1.nx _ _ λzD1 zq1=>?_;refine⟨3,rfl,by decide,by decide,λD hD=>?_⟩;refine xy (lo:=0) (n:=3) (λi zs G=>Same H G/\∃cs:Z Nat,cs.length=i/\(∀c∈cs,Ltr c)/\zs=lV cs) ⟨Same.fresh _ hD,[],rfl,(λc hc=>by cases hc),rfl⟩ (λi zs G hi aW cX p=>?_) λzs G aW cX p=>?_
 .obtain⟨s1,cs,hl,hc,rfl⟩:=p;refine⟨Agree.set (Agree.refl _) rfl,?_⟩;dsimp only[x5];refine x9 ?_;refine(sw _ rfl _ rfl _ ⟨rfl,(u7 _ rfl _ _ rfl rfl ⟨by decide,by decide⟩ _ _ ⟨rfl,rfl,(by show(0:Int)<8;decide),(sn _ _ rfl rfl _ _ ⟨rfl,rfl,.inl ⟨by lia,by lia⟩,(sn _ _ rfl rfl _ _ ⟨rfl,rfl,(by show(0:Int)<26;decide),?_⟩)⟩)⟩)⟩);obtain⟨m,hm,em⟩:∃m:Nat,m<26/\(x+(0+(i:Nat))*(1+x/26 % 8)) % 26=(m:Nat):=⟨((x+(0+(i:Nat))*(1+x/26 % 8)) % 26).toNat,by lia,by lia⟩;refine(oa _ _ (65+m) ⟨rfl,rfl,?_,?_,?_⟩)
  .show AZ.length<=aF;exact alv<|txL<|by decide +kernel
  .show atI _ ((x+(0+(i:Nat))*(1+x/26 % 8)) % 26)=_;rw[em];exact m7<|a02 hm
  .refine qk (by lia) aW cX ⟨s1.new hD,cs++[65+m],by rw[bo,hl];rfl,λc fH=>?_,by unfold lV;rw[bq];rfl⟩;rcases bw.mp fH with h|h
   .exact hc c h
   .rw[ay.mp h];exact⟨by lia,by lia⟩
 .obtain⟨s1,cs,hl,hc,rfl⟩:=p;refine zq1.rt _ _ ?_;exact q D cs G hl hc s1 hD aW
def aj3{xs:Z V}{lo hi:Option Int}{x:V}(h:x∈lH xs lo hi):x∈xs:=by unfold lH at h;exact jt<|cx h
def arc{xs:Z V}{k:Nat}(hk:k<=xs.length):lH xs (some (k:Int)) none=xs.drop k:=by unfold lH;rw[HT.sIx_none,HT.sIx_nat,show kF k xs.length=k by lia,a8<|by rw[ik];exact ao _]
def aqr(xs:Z V){m:Int}(h0:0<=m)(h1:m<6):(lH xs (some 1)<|some<|1+m).length<=5:=by unfold lH;rw[cg];unfold HT.sIx;have:∀a b:Nat,kF (a-b) (List.drop b xs).length<=a-b:=λa b=>jk _ _;refine gw (jk _ _) ?_;simp only[HT.sIx];split<;>split<;>lia
def Mw{H:Hp}{cs:Z U}{xs:Z V}{i:Nat}{v:V}(h:Cells cs)(r:RepAll H cs xs)(e:xs[i]?=some v):∃(a:aG)(p q:Int),v=.ref a/\H a=some (.tup [.int p,.int q])/\cs[i]?=some (.tuple [.int p,.int q]):=by obtain⟨d,e1,e2⟩:=r.at e;obtain⟨p,q,rfl⟩:=h d<|ai e1;obtain⟨a,e3,e4⟩:=aqy e2;exact(oa a p q ⟨e3,e4,e1⟩)
def as7:Sp:=λvs H Q _=>∃(x:Int)(lt:aG)(cs:Z Nat),vs=[.int x,.ref lt,.int 4]/\H lt=some (.lst<|lV cs)/\cs.length=3/\(∀c∈cs,Ltr c)/\∀(r:aG)(es:Z U)(H':Hp),Same H H'->Zr es->Rep H' (.tuple es) (.ref r)->Q (.ref r) H'
def axd:np ["_law_x","_law_letters_here","_law_most","_law_xs","_law_cells","_law_y","_law_cell","_law_step"] ZZ (m9 K7):={}
theorem avw(B:∀x∈uk,mg x=none)(kN:Fn P w K mg base "_law_mixed" 1 Z3 BQ)(lI:Fn P w K mg base "_law_formed" 1 ZS MB)(F:Fun K "_law_form" "_law_form" K7 f fd):rn P w K mg base CX0 2 f fd ZZ as7:=by
 refine F.o 1 axd λH Q E hr hu hN h=>?_;obtain⟨x,lt,cs,rfl,bN,Be,Bd,q⟩:=h;refine⟨_,(qj (psM 3<|pfn kN<|my (pv 0)<|my mr mq)
  (qj (psM 4<|qc<|my (og<|my mr<|my mr mq) mq)
  (qj (pfo (B0<|xu Mb (pv 3) (xh mr)<|xh<|om qz mr<|om qp (pix EI (pv 3) mr)<|pv 2) (pgM 5) (qj (psM 6<|pix EI (pv 4)<|om qp (pv 5)<|pCB o7 ft<|my (pv 4) mq)
  (qj (psM 7<|pix EI (qc<|my (og<|my mr<|my mr mq)<|my (og<|my mr<|my mr mq)<|my (og<|my mr<|my (Gs GN mr) mq)<|my (og<|my (Gs GN mr)<|my mr mq) mq)<|om qp (om GY (pv 5) mr) mr)
  (qj (psM 6<|og<|my (om qz (pix wo (pv 6) mr)<|pix wo (pv 7) mr)<|my (om qz (pix wo (pv 6) mr)<|pix wo (pv 7) mr) mq)
  (rj<|va (qm (zn hu) (pv 6) (pv 4) rfl) (rj<|uo<|pW dh gf gg r8 (pv 4)<|my (pv 6) mq) qd)))))
  (rj<|nu<|pfn lI<|my (pcm ["_law_cell","_law_y","_law_letters_here"] [none,none,some 1] (azq rfl (B "zip"<|by decide)<|my (pv 4)<|my (xu Mb (pv 3) (xh mr) He) mq) (λ_=>(Mm (n:=2) rfl<|mw (pgC 0)<|mw (pgC 1) ow)) (λ_=>ou) λ_=>(og<|my (pix EM (pv 0) mr)<|my (pix EM (pv 0) mr)<|my (pix ara (pv 2)<|om qp (pv 1)<|pCB afl ft<|my (pv 2) mq) mq)) mq)))),?_⟩
 refine EQ λDh mE rF=>?_;refine(oq _ rfl x 13 ⟨rfl,by decide,λX ns H1 ⟨hn13,A0⟩ s1 FP hX=>?_⟩);refine mE _ _ ?_;clear mE rF Dh;refine EQ λDh mE rF=>?_;refine⟨sZ2,λp1 zD=>⟨sZ1,λC hC=>?_⟩⟩;obtain⟨hCp,hCH⟩:=aqn hC;have s2:Same H1 (upd (upd H1 p1<|.tup [.int 0,.int 0]) C<|.lst [.ref p1]):=(Same.fresh _ zD).trans (Same.fresh _ hC);have c2:upd (upd H1 p1<|.tup [.int 0,.int 0]) C (.lst [.ref p1]) C=some (.lst [.ref p1]):=m8;have b2:upd (upd H1 p1<|.tup [.int 0,.int 0]) C (.lst [.ref p1]) p1=some (.tup [.int 0,.int 0]):=by rw[p8 (Ne.symm hCp)];exact m8
 generalize upd (upd H1 p1<|.tup [.int 0,.int 0]) C (.lst [.ref p1])=H2 at *;have DJ:=s2 _ _ hX;obtain⟨n0,C9⟩:∃n0,ns[0]?=some n0:=⟨_,af<|by lia⟩;have zK:=mj n0 (show(4:Int)≠0 by decide);have Dd:=l7 n0 (show(0:Int)<4 by decide);refine mE _ _ ?_;clear mE rF Dh;refine EQ λDh mE rF=>?_;refine(o6 _ rfl _ rfl _ rfl X _<|yw _ _ rfl rfl (SqL.of DJ) (m7 (j:=0)<|by rw[ax,C9];rfl) _ rfl _ ⟨_,rfl,rfl,(by show(0:Int)<4;decide),(nc _ _ ⟨rfl,rfl,(oq _ rfl X _ ⟨rfl,SqL.of DJ,λS hS=>?_⟩)⟩)⟩);obtain⟨zs,rY⟩:∃zs,zs=lH (ns.map V.int) (some 1) (some<|1+n0 % 4):=⟨_,rfl⟩;have hz5:zs.length<=5:=by rw[rY];exact aqr _ zK<|by lia
 have hzI:∀z∈zs,∃y:Int,z=.int y/\0<=y:=λz hz=>by rw[rY]at hz;obtain⟨y,hy,rfl⟩:=au.mp<|aj3 hz;exact⟨y,rfl,(A0 y hy).1⟩
 have s3:Same H2 (upd H2 S<|.lst zs):=Same.fresh _ hS;have l3:upd H2 S (.lst zs) S=some (.lst zs):=m8;have nSC:S≠C:=λe=>by rw[e,c2]at hS;cases hS
 rw[<-rY];generalize upd H2 S (.lst zs)=H3 at *;have sA:=(s1.trans s2).trans s3;have hCn:H C=none:=s1.free hCH;refine⟨S,rfl,⟨_,SqL.of l3⟩,?_⟩;refine su (xs:=zs) (λi σ' G=>∃(y5 y6 y7:Option V)(xs:Z V)(ds:Z U),σ'=[some (.int x),some<|.ref lt,some<|.int 4,some<|.ref X,some<|.ref C,y5,y6,y7]/\Ex [C] H3 G/\G C=some (.lst xs)/\RepAll G ds xs/\Cells ds/\(ds.map cl).Nodup/\0<ds.length/\ds.length<=i+1) ?_ (λi σ' G hi h=>?_) (λi v σ' G hv h=>?_) λσ' G h=>?_
 .refine(ni _ _ _ _ ([.tuple [.int 0,.int 0]]) ⟨rfl,Ex.refl _ _,s3 _ _ c2,(nc _ _ ⟨rfl,vf<|s3 _ _ b2,rfl⟩),λd hd=>?_,by simp,by simp,by simp⟩);rw[ay.mp hd];exact(nc 0 0 rfl)
 .obtain⟨_,_,_,_,_,_,ex,_⟩:=h;exact SqL.of<|ex.at nSC l3
 .obtain⟨y5,y6,y7,xs,ds,rfl,ex,hG,rep,lF,lQ,dD,bB⟩:=h;obtain⟨y,rfl,hy0⟩:=hzI v<|ai hv;have hi5:i<5:=cw (ak.mp hv).1 hz5;have hxl:=rep.length;have k0:=mj y (show((xs.length:Nat):Int)≠0 by lia);have k1:=l7 y (show(0:Int)<(xs.length:Nat) by lia);obtain⟨j,ej⟩:∃j:Nat,y % ((xs.length:Nat):Int)=(j:Nat):=⟨(y % ((xs.length:Nat):Int)).toNat,by lia⟩;have hj:j<xs.length:=by lia
  obtain⟨b,r,c,hvb,hb,jG⟩:=Mw lF rep<|af hj;refine alw λDh mE rF=>?_;refine(o6 _ rfl _ rfl _ rfl C xs ⟨rfl,.inl<|SqL.of hG,(tq _ _ rfl rfl (by lia) C xs _ ⟨.ref b,rfl,rfl,SqL.of hG,?_,?_⟩)⟩)
  .show atI xs (y % ((xs.length:Nat):Int))=_;rw[ej];exact m7<|by rw[af hj,hvb]
  refine mE _ _ ?_;clear mE rF Dh;refine EQ λDh mE rF=>?_;refine⟨sZ2,λq1 pH=>⟨sZ2,λq2 pG=>?_⟩⟩;refine⟨_,rfl,sZ2,λq3 Je=>?_⟩;refine⟨_,rfl,sZ2,λq4 hq4=>⟨sZ4,λq5 hq5=>?_⟩⟩;have u1:upd G q1 (.tup [.int 0,.int 1]) q1=some (.tup [.int 0,.int 1]):=m8;generalize g1:upd G q1 _=G1 at *;obtain⟨t1,_⟩:=al pH g1;clear g1;have u2:upd G1 q2 (.tup [.int 1,.int 0]) q2=some (.tup [.int 1,.int 0]):=m8;generalize g1:upd G1 q2 _=G2 at *;obtain⟨t2,_⟩:=al pG g1;clear g1;have u3:upd G2 q3 (.tup [.int 0,.int<|-1]) q3=some (.tup [.int 0,.int<|-1]):=m8;generalize g1:upd G2 q3 _=G3 at *;obtain⟨t3,_⟩:=al Je g1;clear g1;have u4:upd G3 q4 (.tup [.int (-1),.int 0]) q4=some (.tup [.int (-1),.int 0]):=m8;generalize g1:upd G3 q4 _=G4 at *;obtain⟨t4,_⟩:=al hq4 g1;clear g1;have u5:upd G4 q5 (.lst [.ref q1,.ref q2,.ref q3,.ref q4]) q5=some (.lst [.ref q1,.ref q2,.ref q3,.ref q4]):=m8;generalize g1:upd G4 q5 _=G5 at *;obtain⟨t5,_⟩:=al hq5 g1;clear g1;have tA:Same G G5:=(((t1.trans t2).trans t3).trans t4).trans t5;have Kv:∀m:Nat,m<4->∃(b':aG)(d e:Int),[V.ref q1,.ref q2,.ref q3,.ref q4][m]?=some (.ref b')/\G5 b'=some (.tup [.int d,.int e]):=λm hm=>by
   match m,hm with
   | 0,_=>exact(oa q1 _ _ ⟨rfl,t5 _ _<|t4 _ _<|t3 _ _<|t2 _ _ u1⟩)
   | 1,_=>exact(oa q2 _ _ ⟨rfl,t5 _ _<|t4 _ _<|t3 _ _ u2⟩)
   | 2,_=>exact(oa q3 _ _ ⟨rfl,t5 _ _<|t4 _ _ u3⟩)
   | 3,_=>exact(oa q4 _ _ ⟨rfl,t5 _ _ u4⟩)
  obtain⟨m,hm,em⟩:∃m:Nat,m<4/\y/8 % 4=(m:Nat):=⟨(y/8 % 4).toNat,by lia,by lia⟩;obtain⟨b',d,e,eW,hbd⟩:=Kv m hm;refine(u7 _ rfl _ _ rfl rfl ⟨by decide,by decide⟩ _ _ ⟨rfl,rfl,(by show(0:Int)<4;decide),(ny q5 _ _ (.ref b') ⟨rfl,rfl,SqL.of u5,?_,?_⟩)⟩)
  .show atI _ (y/8 % 4)=_;rw[em];exact m7 eW
  refine mE _ _ ?_;clear mE rF Dh;refine EQ λDh mE rF=>?_;refine(mz _ rfl b _ _ _ ⟨rfl,rfl,SqT.of<|tA _ _ hb,m7 (j:=0) rfl,(mz _ rfl b' _ _ _ ⟨rfl,rfl,SqT.of hbd,m7 (j:=0) rfl,(nc _ _ ⟨rfl,rfl,(mz _ rfl b _ _ _ ⟨rfl,rfl,SqT.of<|tA _ _ hb,m7 (j:=1) rfl,(mz _ rfl b' _ _ _ ⟨rfl,rfl,SqT.of hbd,m7 (j:=1) rfl,(nc _ _ ⟨rfl,rfl,sZ2,λp hp=>?_⟩)⟩)⟩)⟩)⟩)⟩);generalize g1:upd G5 p _=G6 at *;obtain⟨t6,c6⟩:=al hp g1;clear g1;have tB:=tA.trans t6;have DU:=tB _ _ hG;have iN:=rep.same tB;have ex6:=ex.trans<|Ex.of_same (W:=[C]) tB;refine mE _ _ ?_;clear mE rF Dh;refine(oe _ rfl _ rfl (.tuple [.int (r+d),.int<|c+e]) C xs ⟨ds,vf c6,rfl,.inl DU,iN,by simp[gk,bj],_,rfl,?_⟩);refine x6 (λsS=>?_) λ_=>?_
  .refine(ux _ rfl (.inl ⟨rfl,_,SqL.of DU⟩) _ rfl C xs (.ref p) ⟨rfl,rfl,DU,o0<|by lia,?_⟩);have tD:Cells (ds++[.tuple [.int (r+d),.int<|c+e]]):=λz hz=>by
    rcases bw.mp hz with h|h
    .exact lF z h
    .rw[ay.mp h];exact(nc _ _ rfl)
   refine(ni _ _ _ (xs++[.ref p]) (ds++[.tuple [.int (r+d),.int<|c+e]]) ⟨rfl,ex6.trans<|Ex.upd<|by simp,m8,((iN.snoc<|vf c6).tk (Tk.lst DU) tD.imm),tD,?_,by simp,by simp;lia⟩);rw[bq,List.nodup_append];refine⟨lQ,by simp,λx hx y hy=>?_⟩;have ey:y=(r+d,c+e):=ay.mp hy;intro exy;rw[exy,ey]at hx;obtain⟨z,hz,ez⟩:=au.mp hx;obtain⟨r0,c0,rfl⟩:=lF z hz;have ez':(r0,c0)=(r+d,c+e):=ez;injection ez' with e1 e2
   rw[if_pos rfl,Bool.not_eq_true',List.any_eq_false]at sS;exact sS _ hz<|by rw[e1,e2];exact kc _ (vf c6).lay
  .exact(ni _ _ _ xs ds ⟨rfl,ex6,DU,iN,lF,lQ,dD,by lia⟩)
 .obtain⟨y5,y6,y7,xs,ds,rfl,ex,hG,rep,lF,lQ,dD,bB⟩:=h;have hxl:=rep.length;have nXC:X≠C:=λe=>by rw[e,hCH]at hX;cases hX
  have qM:=ex.at nXC<|s3 _ _ DJ;have A5:G lt=some (.lst<|lV cs):=ex.at (λe=>by rw[e,hCn]at bN;cases bN)<|sA _ _ bN;have sG:Same H G:=λb o hb=>ex.at (λe=>by rw[e,hCn]at hb;cases hb)<|sA _ _ hb;refine mE _ _ ?_;clear mE rF Dh;refine(sw _ rfl _ rfl _ ⟨rfl,GR<|nc X _ ⟨rfl,SqL.of qM,λS2 hS2=>?_⟩⟩);rw[show(7:Int)=((7:Nat):Int)from rfl,arc<|by rw[ae];lia];generalize g1:upd G S2 _=G4 at *;obtain⟨s4,l4⟩:=al hS2 g1;clear g1;have hC4:=s4 _ _ hG;have nA:=rep.same s4;have hl4:=s4 _ _ A5;have A4:(lV cs).length=3:=by unfold lV;rw[ae];exact Be
  have eJ:((ns.map V.int).drop 7).length=6:=by rw[ik,ae];lia
  refine(ny C S2 xs _ ⟨rfl,hC4,l4,λD hD=>?_⟩);refine ap7 (xs:=xs) (ys:=(ns.map V.int).drop 7) (λi B8 G2=>Same G4 G2/\∃es:Z U,es.length=i/\RepAll G2 es B8/\(∀d∈es,SgD d)/\es.map cl=(ds.take i).map cl) ⟨Same.fresh _ hD,[],rfl,rfl,(λd hd=>by cases hd),rfl⟩ (λi B8 G2 p=>⟨p.1 _ _ hC4,p.1 _ _ l4⟩) (λi xv yv p B8 G2 hxv hyv hp aW cX pv=>?_) λB8 G2 aW cX pv=>?_
  .obtain⟨p1,es,oP,eX,FB,sZ⟩:=pv;obtain⟨b,r,c,rfl,hb,jG⟩:=Mw lF nA hxv;obtain⟨n,rfl,hn0'⟩:∃n:Int,yv=.int n/\0<=n:=by
    obtain⟨n,hn,e⟩:=au.mp<|jt<|ai hyv;exact⟨n,e.symm,(A0 n hn).1⟩
   have hi6:i<xs.length:=(ak.mp hxv).1;generalize g1:upd G2 p _=G5 at *;obtain⟨s5,c5⟩:=al hp g1;clear g1;have sB:=p1.trans s5;refine(nj p _ rfl (SqT.of c5) rfl _ _ rfl _ ⟨_,rfl,rfl,?_⟩);refine⟨Agree.set (Agree.set (Agree.refl _) rfl) rfl,?_⟩;dsimp only[x5];refine x9 ?_;obtain⟨m,hm,em⟩:∃m:Nat,m<3/\n % ((3:Nat):Int)=(m:Nat):=⟨(n % 3).toNat,by lia,by lia⟩;have Dc:cs[m]?=some (cs[m]'(by lia)):=af _;have Do:=Bd _<|ai Dc;generalize cs[m]'(by lia)=k at *;refine(mz _ rfl b _ _ _ ⟨rfl,rfl,SqT.of<|sB _ _ hb,m7 (j:=0) rfl,(mz _ rfl b _ _ _ ⟨rfl,rfl,SqT.of<|sB _ _ hb,m7 (j:=1) rfl,(o6 _ rfl _ rfl _ rfl lt _ ⟨rfl,.inl<|SqL.of<|sB _ _ hl4,(tq _ _ rfl rfl (by rw[A4];show(0:Int)<((3:Nat):Int);decide) lt _ _ ⟨.str ⟨#[k]⟩,rfl,rfl,SqL.of<|sB _ _ hl4,?_,sZ3,λq1 pH=>?_⟩)⟩)⟩)⟩)
   .show atI (lV cs) (n % (((lV cs).length:Nat):Int))=_;rw[A4,em];exact m7<|by unfold lV;rw[ax,Dc];rfl
   .have s6:Same G5 (upd G5 q1<|.tup [.int r,.int c,.str ⟨#[k]⟩]):=Same.fresh _ pH;have c6:upd G5 q1 (.tup [.int r,.int c,.str ⟨#[k]⟩]) q1=some (.tup [.int r,.int c,.str ⟨#[k]⟩]):=m8;generalize upd G5 q1 (.tup [.int r,.int c,.str ⟨#[k]⟩])=G6 at *;have mW:=s6 _ _<|s5 _ _ aW;refine qk (by lia) mW cX ⟨((p1.trans s5).trans s6).new hD,es++[.tuple [.int r,.int c,.str ⟨#[k]⟩]],by rw[bo,oP];rfl,?_,?_,?_⟩
    .refine((eX.same<|s5.trans s6).snoc (zj c6 (ok1<|by have:=Do.2;lia))).tk (Tk.lst mW) ?_;refine Spots.imm λd hd=>?_;rcases bw.mp hd with h|h
     .obtain⟨r',c',k',e,_⟩:=FB d h;exact(oa r' c' _ e)
     .rw[ay.mp h];exact(oa _ _ _ rfl)
    .intro d hd;rcases bw.mp hd with h|h
     .exact FB d h
     .rw[ay.mp h];exact(oa r c k ⟨rfl,Do.1,Do.2⟩)
    .rw[bq,sZ,nh cl jG];rfl
  .obtain⟨p1,es,oP,eX,FB,sZ⟩:=pv;have zJ:kF xs.length ((ns.map V.int).drop 7).length=ds.length:=by lia
   rw[zJ]at oP sZ;rw[a8 (ao _)]at sZ;have pre:Pre es:=⟨FB,by lia,by lia,by rw[sZ];exact lQ⟩;refine(oa D B8 es ⟨rfl,.inl aW,eX,pre.spots,by lia,by lia,λr H9 s9 rJ=>?_⟩);exact q r _ H9 (((sG.trans s4).trans p1).trans s9) ((Zr.shift pre).perm (oz _)) rJ
noncomputable abbrev az:Str:=bm "abcdefghijklmnopqrstuvwxyz"
def atm{i:Nat}(h:i<26):az.cps.toList[i]?=some (97+i):=by
 have:∀i<26,az.cps.toList[i]?=some (97+i):=by decide +kernel
 exact this i h
theorem KindK.tk{H H':Hp}{v:V}{k:Z U×Nat}(h:KindK H v k)(s:Tk H H'):KindK H' v k:=by obtain⟨b,nm,m,fr,xs,rfl,h1,h2,h3,h4,h5⟩:=h;exact(ni b nm m fr xs ⟨rfl,s _ _ h1,s _ _ h2,h3.tk s<|Spots.imm h4.pre.spots,h4,h5⟩)
def KindsK.snoc{H H':Hp}{kvs:Z V}{ks:Z (Z U×Nat)}{v:V}{k:Z U×Nat}(h:KindsK H kvs ks)(t:Tk H H')(hv:KindK H' v k):KindsK H' (kvs++[v]) (ks++[k]):=by
 refine⟨by rw[bo,bo,h.1];rfl,λi u k' h1 h2=>?_⟩;by_cases hi:i<kvs.length
 .rw[fy hi]at h1;rw[fy (by rw[<-h.1];exact hi)]at h2;exact(h.2 i u k' h1 h2).tk t
 .have e1:i=kvs.length:=by
   have:=(ak.mp h1).1;rw[bo,md]at this;lia
  subst e1;rw[cz (ao _),Nat.sub_self]at h1;rw[h.1,cz<|ao _,Nat.sub_self]at h2;cases h1;cases h2;exact hv
def an5:Sp:=λvs H Q _=>∃(x:Int)(lt:aG)(cs:Z Nat),vs=[.int x,.ref lt,.int 4]/\H lt=some (.lst<|lV cs)/\cs.length=3/\(∀c∈cs,Ltr c)/\∀(D:aG)(kvs:Z V) (ks:Z (Z U×Nat)) (H':Hp),Same H H'->H D=none->H' D=some (.lst kvs)->KindsK H' kvs ks->0<ks.length->ks.length<=6->Q (.ref D) H'
def av6:np ["_law_x","_law_letters_here","_law_most","_law_xs","_law_some","_law_one","_law_other","_law_names","_law_kinds_here","_law_k","_law_mode"] ZZ (m9 LD):={}
theorem ap5(B:∀x∈uk,mg x=none)(kN:Fn P w K mg base "_law_mixed" 1 Z3 BQ)(E2:Fn P w K mg base "_law_form" 2 ZZ as7)(F:Fun K "_law_kinds" "_law_kinds" LD f fd):rn P w K mg base CX0 3 f fd ZZ an5:=by
 refine F.o 2 av6 λH Q E hr hu hN h=>?_;obtain⟨x,lt,cs,rfl,bN,Be,Bd,q⟩:=h;refine⟨_,(nv (psM 3<|pfn kN<|my (pv 0)<|my mr mq)
  (nv (psM 4 qh)
  (nv (psM 5<|pix Eu (pv 4)<|om qp (pix oh (pv 3) mr) mr)
  (nv (psM 6<|pix Eu (pv 4)<|om qp (om qz (om qz (pix oh (pv 3) mr) mr)<|om qp (pix oh (pv 3) mr) mr) mr)
  (nv (psM 7<|qc<|my (om uu (pv 5)<|pv 6)<|my (pv 5)<|my (pv 6)<|my (om uu (pv 6)<|pv 5)<|my (om uu (pv 5)<|pv 5)<|my (om uu (pv 6)<|pv 6) mq)
  (nv (psM 8<|qc mq)
  (nv (pfo (pR1<|my (om qz mr<|om qp (pix oh (pv 3) mr) mr) mq) (pgM 9) (nv (psM 10<|pix oh (qc<|my qh<|my qh<|my qh mq)<|om qp (om GY (pix oh (pv 3) mr)<|om qz (pv 9) mr) mr)
  (nw<|uo<|pW dh gf gg r8 (pv 8)<|my (og<|my (pix oh (pv 7)<|pv 9)<|my mr<|my yg<|my (pv 10)<|my (pfn E2<|my (pix oh (pv 3)<|om qz mr<|pv 9)<|my (pv 1)<|my (pv 2) mq) mq) mq)))
  (nw<|nu<|pv 8)))))))),?_⟩
 refine λzD1 zq1=>?_;refine(oq _ rfl x 10 ⟨rfl,by decide,λX ns H1 ⟨hn10,A0⟩ s1 FP hX=>?_⟩);have kE:∀i:Nat,i<10->∃n:Int,(ns.map V.int)[i]?=some (.int n)/\0<=n:=λi hi=>⟨ns[i]'(by lia),by rw[ax,af<|by lia];rfl,(A0 _<|fj _).1⟩;obtain⟨n0,e0,_⟩:=kE 0 (by decide);obtain⟨n1,e1,_⟩:=kE 1 (by decide);obtain⟨n2,e2,_⟩:=kE 2 (by decide);obtain⟨n3,e3,_⟩:=kE 3 (by decide);have DH:az.length<=aF:=alv (txL<|by decide +kernel);obtain⟨m0,zK,F7⟩:∃m:Nat,m<26/\n0 % 26=(m:Nat):=⟨(n0 % 26).toNat,by lia,by lia⟩;refine zq1.nx _ _ λzD1 zq1=>?_;refine zq1.nx _ _ λzD1 zq1=>?_;refine(oe _ rfl _ rfl X _ _<|zx _ rfl rfl (SqL.of hX) (m7 (j:=0) e0) _ _ ⟨rfl,rfl,(by show(0:Int)<26;decide),(oa az _ (97+m0) ⟨rfl,rfl,DH,?_,zq1.nx _ _ λzD1 zq1=>?_⟩)⟩)
 .show atI _ (n0 % 26)=_;rw[F7];exact m7<|atm zK
 obtain⟨m1,Dd,em1⟩:∃m:Nat,m<26/\(n0+1+n1 % 25) % 26=(m:Nat):=⟨((n0+1+n1 % 25) % 26).toNat,by lia,by lia⟩;refine(oe _ rfl _ rfl X _ _<|zx _ rfl rfl (SqL.of hX) (m7 (j:=0) e0) _ _ ⟨rfl,rfl,(mz _ rfl X _ _ _ ⟨rfl,rfl,SqL.of hX,m7 (j:=1) e1,(xm _ _ rfl rfl (by show(0:Int)<25;decide) _ _ ⟨rfl,rfl,(tq _ _ rfl rfl (by show(0:Int)<26;decide) az _ (97+m1) ⟨rfl,rfl,DH,?_,zq1.nx _ _ λzD1 zq1=>?_⟩)⟩)⟩)⟩)
 .show atI _ ((n0+1+n1 % 25) % 26)=_;rw[em1];exact m7<|atm Dd
 have two:∀a b:Nat,(⟨#[a]⟩:Str).length+(⟨#[b]⟩:Str).length<=aF:=λa b=>by show 1+1<=aF;decide
 refine(v7 _ rfl _ rfl _ _ ⟨rfl,rfl,two _ _,(sw _ rfl _ rfl _ ⟨rfl,(sd _ rfl _ _ rfl rfl (two _ _) _ ⟨rfl,(sd _ rfl _ _ rfl rfl (two _ _) _ ⟨rfl,(oq _ rfl _ _ ⟨rfl,rfl,two _ _,sZ6,λL hL=>?_⟩)⟩)⟩)⟩)⟩);obtain⟨nm,hnm,hnl⟩:∃nm:Z Str,nm.length=6/\nm.map V.str=[V.str ((⟨#[97+m0]⟩:Str)++(⟨#[97+m1]⟩:Str)),.str ⟨#[97+m0]⟩,.str ⟨#[97+m1]⟩,.str<|(⟨#[97+m1]⟩:Str)++(⟨#[97+m0]⟩:Str),.str<|(⟨#[97+m0]⟩:Str)++(⟨#[97+m0]⟩:Str),.str<|(⟨#[97+m1]⟩:Str)++(⟨#[97+m1]⟩:Str)]:=⟨[_,_,_,_,_,_],rfl,rfl⟩;rw[<-hnl];refine aE hL λH2 s2 l2=>?_;refine zq1.nx _ _ λzD1 zq1=>?_;refine⟨sZ0,λD hD=>?_⟩;refine aE hD λH3 s3 l3=>?_;have l3:H3 D=some (.lst ([]:Z V)):=l3;have iZ:=s1.trans s2;have Bk:H D=none:=iZ.free hD;have sA:=iZ.trans s3;have qM:=s3 _ _<|s2 _ _ hX;have hL3:=s3 _ _ l2;have zN:=sA _ _ bN;have Fm:X≠D:=λe=>by rw[e]at hX;rw[s2 _ _ hX]at hD;cases hD
 have ID:L≠D:=λe=>by rw[e]at l2;rw[l2]at hD;cases hD
 have IA:lt≠D:=λe=>by rw[e,Bk]at bN;cases bN
 obtain⟨cnt,hcnt,KG⟩:∃cnt:Nat,(0<cnt/\cnt<=6)/\1+n2 % 6=(cnt:Nat):=⟨(1+n2 % 6).toNat,by lia,by lia⟩;refine zq1.nx _ _ λzD1 zq1=>?_;refine(mz _ rfl X _ _ _ ⟨rfl,rfl,SqL.of qM,m7 (j:=2) e2,(xm _ _ rfl rfl (by show(0:Int)<6;decide) _ _ ⟨rfl,rfl,(cnt:Nat),by rw[<-KG],by lia,by lia,?_⟩)⟩);rw[da];refine ug (lo:=0) (λi σ' G=>∃(y9 mS:Option V)(kvs:Z V) (ks:Z (Z U×Nat)),σ'=[some (.int x),some<|.ref lt,some<|.int 4,some<|.ref X,some<|.str az,some<|.str ⟨#[97+m0]⟩,some<|.str ⟨#[97+m1]⟩,some<|.ref L,some<|.ref D,y9,mS]/\Ex [D] H3 G/\G D=some (.lst kvs)/\KindsK G kvs ks/\ks.length=i) ?_ (λi σ' G hi h=>?_) λσ' G h=>?_
 .exact(ny _ _ ([]) ([]) ⟨rfl,Ex.refl _ _,l3,⟨rfl,λi v k h=>by simp at h⟩,rfl⟩)
 .obtain⟨y9,mS,kvs,ks,rfl,ex,hG,fW,oK⟩:=h;have Af:=ex.at Fm qM;have hL4:=ex.at ID hL3;have Jx:=ex.at IA zN;refine λzD2 zq2=>?_;refine⟨sZ3,λq1 pH=>?_⟩;refine aE pH λG5 s5 l5=>?_;obtain⟨mm,A2,F6⟩:∃m:Nat,m<3/\n3/(0+(i:Nat)+1) % 3=(m:Nat):=⟨(n3/(0+(i:Nat)+1) % 3).toNat,by lia,by lia⟩;have rC:∃(z:Str)(k:Nat),[V.str (bm "still"),.str<|bm "turn",.str<|bm "flip"][mm]?=some (.str z)/\wK z k:=by
   match mm,A2 with
   | 0,_=>exact(nc _ 1 ⟨rfl,.inl ⟨rfl,rfl⟩⟩)
   | 1,_=>exact(nc _ 4 ⟨rfl,.inr<|.inl ⟨rfl,rfl⟩⟩)
   | 2,_=>exact(nc _ 8 ⟨rfl,.inr<|.inr ⟨rfl,rfl⟩⟩)
  obtain⟨z,k,hz,sU⟩:=rC;refine(mz _ rfl X _ _ _ ⟨rfl,rfl,SqL.of<|s5 _ _ Af,m7 (j:=3) e3,(o9 _ rfl _ _ rfl rfl _ ⟨_,rfl,rfl,⟨by show(0:Int)<0+(i:Nat)+1;lia,by show 0+((i:Nat):Int)+1<1073741824;lia⟩,(tq _ _ rfl rfl (by show(0:Int)<3;decide) q1 _ _ ⟨.str z,rfl,rfl,SqL.of l5,?_,zq2.nx _ _ λzD2 zq2=>?_⟩)⟩)⟩)
  .show atI _ (n3/(0+(i:Nat)+1) % 3)=_;rw[F6];exact m7 hz
  obtain⟨nx,enx,hnx0⟩:=kE (4+i) (by lia);obtain⟨nz,hnz⟩:∃nz,nm[i]?=some nz:=⟨_,af<|by lia⟩;have FV:=s5 _ _ hG;refine(qi _ rfl (.inl ⟨rfl,_,SqL.of FV⟩) _ ⟨rfl,(mz _ rfl L _ _ (.str nz) ⟨rfl,rfl,SqL.of<|s5 _ _ hL4,?_,(o6 _ rfl _ rfl _ rfl _ _ ⟨rfl,rfl,(ny X _ _ (.int nx) ⟨rfl,rfl,SqL.of<|s5 _ _ Af,?_,(oe _ rfl _ rfl nx lt cs ⟨rfl,s5 _ _ Jx,Be,Bd,λr es G6 s6 Fv rep=>?_⟩)⟩)⟩)⟩)⟩)
  .rw[ky];exact m7<|by rw[ax,hnz];rfl
  .rw[ky,show(4:Int)+(i:Nat)=((4+i:Nat):Int) by lia];exact m7 enx
  obtain⟨r',xs6,er,hr6,oY⟩:=rep;cases er;refine⟨sZ5,λt7 IX=>?_⟩;refine aE IX λG7 s7 c7=>?_;have sB:=(s5.trans s6).trans s7;have Ko:=sB _ _ hG;have Dn:KindK G7 (.ref t7) (es,k):=(ni t7 nz z r xs6 ⟨rfl,c7,s7 _ _ hr6,oY.same s7,Fv,sU⟩);have pK:=fW.1;refine(oa D kvs (.ref t7) ⟨rfl,rfl,Ko,o0<|by lia,zq2.nx _ _ ?_⟩);refine(ny _ _ (kvs++[.ref t7]) (ks++[(es,k)]) ⟨rfl,(ex.trans<|Ex.of_same (W:=[D]) sB).trans (Ex.upd<|by simp),m8,(fW.same sB).snoc (Tk.lst Ko) (Dn.tk<|Tk.lst Ko),by rw[bo,oK];rfl⟩)
 .obtain⟨y9,mS,kvs,ks,rfl,ex,hG,fW,oK⟩:=h;refine zq1.nx _ _ λzD1 zq1=>?_;refine⟨_,rfl,zq1.rt _ _<|q D kvs ks G (λb o hb=>ex.at (λe=>by rw[e,Bk]at hb;cases hb)<|sA _ _ hb) Bk hG fW (by lia)<|by lia⟩
noncomputable def cp:Nat->Mat->Nat->Nat->Nat×Nat
 | 0,_,r,c=>(r,c)
 | i+1,M,r,c=>((cp i M r c).2,(p9 i M).h-1-(cp i M r c).1)
theorem uS{M:Mat}{r c:Nat}(hr:r<M.h)(hc:c<M.w):∀i,(cp i M r c).1<(p9 i M).h/\(cp i M r c).2<(p9 i M).w/\(p9 i M).g (cp i M r c).1 (cp i M r c).2=M.g r c
 | 0=>⟨hr,hc,rfl⟩
 | i+1=>by
  obtain⟨h1,h2,h3⟩:=uS hr hc i;refine⟨h2,?_,?_⟩
  .show(p9 i M).h-1-(cp i M r c).1<(p9 i M).h;lia
  .show(p9 i M).g ((p9 i M).h-1-((p9 i M).h-1-(cp i M r c).1)) (cp i M r c).2=_;rw[show(p9 i M).h-1-((p9 i M).h-1-(cp i M r c).1)=(cp i M r c).1 by lia];exact h3
theorem atw{M:Mat}:∀(i R C:Nat),R<(p9 i M).h->C<(p9 i M).w->∃r c,r<M.h/\c<M.w/\cp i M r c=(R,C)
 | 0,R,C,h1,h2=>(nc R C ⟨h1,h2,rfl⟩)
 | i+1,R,C,h1,h2=>by have h1:R<(p9 i M).w:=h1;have h2:C<(p9 i M).h:=h2;obtain⟨r,c,hr,hc,e⟩:=atw i ((p9 i M).h-1-C) R (by lia) h1;refine(nc r c ⟨hr,hc,?_⟩);show((cp i M r c).2,(p9 i M).h-1-(cp i M r c).1)=_;rw[e];show(R,(p9 i M).h-1-((p9 i M).h-1-C))=(R,C);rw[show(p9 i M).h-1-((p9 i M).h-1-C)=C by lia]
noncomputable def ctp(t:Nat)(M:Mat)(r c:Nat):Nat×Nat:=cp (t % 4) (if 4<=t then pS M else M) r (if 4<=t then M.w-1-c else c)
def asi{M:Mat}{r c:Nat}(hr:r<M.h)(hc:c<M.w)(t:Nat):(ctp t M r c).1<(jO t M).h/\(ctp t M r c).2<(jO t M).w/\(jO t M).g (ctp t M r c).1 (ctp t M r c).2=M.g r c:=by
 unfold ctp jO;by_cases h4:4<=t
 .rw[if_pos h4,if_pos h4];have fH:M.w-1-c<(pS M).w:=by show M.w-1-c<M.w;lia
  obtain⟨h1,h2,h3⟩:=uS (M:=pS M) (r:=r) hr fH<|t % 4;refine⟨h1,h2,h3.trans ?_⟩;show M.g r (M.w-1-(M.w-1-c))=_;rw[show M.w-1-(M.w-1-c)=c by lia]
 .rw[if_neg h4,if_neg h4];exact uS hr hc _
def M7:Sp:=λvs H Q _=>∃(a:aG)(t:Nat)(M:Mat)(r c:Nat),vs=[.ref a,.int (t:Nat),.int (M.h:Nat),.int (M.w:Nat)]/\H a=some (.tup [.int (r:Nat),.int (c:Nat)])/\r<M.h/\c<M.w/\t<8/\
 ∀p H',Same H H'->H p=none->H' p=some (.tup [.int ((ctp t M r c).1:Nat),.int ((ctp t M r c).2:Nat)])->Q (.ref p) H'
def scCt:np ["_law_cell","_law_t","_law_high","_law_wide","_law_row","_law_column","_law_quarter"] ZQ (m9 sCt):={}
def a15(B:∀x∈uk,mg x=none)(F:Fun K "_law_cell_turned" "_law_cell_turned" sCt f fd):rn P w K mg base CX0 1 f fd ZQ M7:=by
 refine F.o 0 scCt λH Q E hr hu hN h=>?_;obtain⟨a,t,M,r,c,rfl,ha,xC,xI,ht,q⟩:=h;refine⟨_,(nv (ayf (pv 0)<|pf (n:=2) rfl<|mw (pgM 4)<|mw (pgM 5) ow)
  (nv (va (qm GA (pv 1) mr<|qy _) (nw<|psM 5<|om yb (om yb (pv 3) mr)<|pv 5) qd)
  (nv (pfo (pR1<|my (om qp (pv 1) mr) mq) (pgM 6) (nv (atd (i:=4) (j:=5) rfl scCt.nd rfl rfl (by decide) rfl rfl (my (pv 5)<|my (om yb (om yb (pv 2) mr)<|pv 4) mq) rfl)
  (nw<|atd (i:=2) (j:=3) rfl scCt.nd rfl rfl (by decide) rfl rfl (my (pv 3)<|my (pv 2) mq) rfl)))
  (nw<|nu<|og<|my (pv 4)<|my (pv 5) mq)))),?_⟩
 refine λzD1 zq1=>?_;refine(u7 _ rfl a _ rfl (SqT.of ha) rfl _ _ ⟨rfl,(nc _ _ ⟨rfl,rfl,zq1.nx _ _ λzD1 zq1=>?_⟩)⟩);refine(o9 _ rfl _ _ rfl rfl _ ⟨rfl,?_⟩);refine x6 (λh4=>?ga) λh4=>?gb
 case' ga=>
  have mN:4<=t:=by have:(t:Int)>=4:=of_decide_eq_true h4
                   lia
  refine λzD2 zq2=>?_;refine(o9 _ rfl _ _ rfl rfl _ ⟨rfl,(nc _ _ ⟨rfl,rfl,zq2.nx _ _<|zq1.nx _ _ λzD1 zq1=>?_⟩)⟩);obtain⟨c1,Bf⟩:∃c1,c1=(if 4<=t then M.w-1-c else c):=⟨_,rfl⟩;obtain⟨M1,FR⟩:∃M1,M1=(if 4<=t then pS M else M):=⟨_,rfl⟩;have e1:M.w-1-c=c1:=by rw[Bf,if_pos mN]
  have e2:M1=pS M:=by rw[FR,if_pos mN]
  have eh:M.h=M1.h:=by rw[e2];rfl
  have ew:M.w=M1.w:=by rw[e2];rfl
  have ec:((M.w:Nat):Int)-1-((c:Nat):Int)=((c1:Nat):Int):=by lia
  have pO:c1<M1.w:=by rw[<-e1,<-ew];lia
 case' gb=>
  have mN:¬4<=t:=by have:¬(t:Int)>=4:=by simpa using h4
                    lia
  obtain⟨c1,Bf⟩:∃c1,c1=(if 4<=t then M.w-1-c else c):=⟨_,rfl⟩;obtain⟨M1,FR⟩:∃M1,M1=(if 4<=t then pS M else M):=⟨_,rfl⟩;have e1:c=c1:=by rw[Bf,if_neg mN]
  have e2:M1=M:=by rw[FR,if_neg mN]
  have eh:M.h=M1.h:=by rw[e2]
  have ew:M.w=M1.w:=by rw[e2]
  have pO:c1<M1.w:=by rw[<-e1,<-ew];exact xI
  have ec:((c:Nat):Int)=((c1:Nat):Int):=by lia
 all_goals
  have AY:r<M1.h:=by rw[<-eh];exact xC
  (first|(refine zq1.nx _ _ λzD1 zq1=>?_)|(skip));refine(sd _ rfl _ _ rfl rfl (by show(0:Int)<4;decide) _ ⟨rfl,by lia,by lia,?_⟩)
  refine ug (lo:=0) (λi σ' H'=>∃(y6:Option V),σ'=[some (.ref a),some<|.int (t:Nat),some<|.int ((p9 i M1).h:Nat),some<|.int ((p9 i M1).w:Nat),some<|.int ((cp i M1 r c1).1:Nat),some<|.int ((cp i M1 r c1).2:Nat),y6]/\Same H H') ?_ (λi σ' H' hi h=>?_) λσ' H' h=>?_
  .refine⟨_,(?_:(_:Z (Option V))=[some (.ref a),some<|.int (t:Nat),some<|.int (M1.h:Nat),some<|.int (M1.w:Nat),some<|.int (r:Nat),some<|.int (c1:Nat),none]),Same.refl _⟩;rw[<-eh,<-ew,<-ec];rfl
  .obtain⟨y6,rfl,sm⟩:=h;obtain⟨k1,k2,_⟩:=uS (M:=M1) AY pO i;refine λzD2 zq2=>?_;refine(rg _ rfl _ rfl _ _ rfl rfl _ ⟨rfl,(sn _ _ rfl rfl _ _ ⟨rfl,zq2.nx _ _ λzD2 zq2=>?_⟩)⟩);refine(v7 _ rfl _ rfl _ _ ⟨rfl,zq2.nx _ _ ?_⟩);refine⟨some<|.int<|0+(i:Nat),?_,sm⟩;show([some (.ref a),some<|.int (t:Nat),some<|.int ((p9 i M1).w:Nat),some<|.int ((p9 i M1).h:Nat),some<|.int ((cp i M1 r c1).2:Nat),some<|.int<|((p9 i M1).h:Nat)-1-(((cp i M1 r c1).1:Nat):Int),some<|.int<|0+(i:Nat)]:Z (Option V))=_;rw[show(((p9 i M1).h:Nat):Int)-1-(((cp i M1 r c1).1:Nat):Int)=(((p9 i M1).h-1-(cp i M1 r c1).1:Nat):Int) by lia];rfl
  .obtain⟨y6,rfl,sm⟩:=h;have et:(((t:Nat):Int) % 4).toNat=t % 4:=by lia
   rw[et];refine zq1.nx _ _ λzD1 zq1=>?_;refine(qe _ rfl _ ⟨rfl,sZ2,λp hp=>?_⟩);have ep:ctp t M r c=cp (t % 4) M1 r c1:=by unfold ctp;rw[<-Bf,<-FR]
   rw[ep]at q;refine zq1.rt _ _ ?_;refine q p _ (sm.new (?_:H p=none)) ?_ m8
   .exact sm.free hp
   .exact sm.free hp
def GrpL(H:Hp)(v:V):Prop:=∃(q:aG)(g:Z Nat),v=.ref q/\H q=some (.lst<|g.map λt=>V.int ((t:Nat):Int))/\0<g.length/\g.length<=8/\∀t∈g,t<8
def GrpL.same{H H':Hp}{v:V}(h:GrpL H v)(s:Same H H'):GrpL H' v:=by obtain⟨q,g,h1,h2,h3⟩:=h;exact(nc q g ⟨h1,s _ _ h2,h3⟩)
def arw(cs:Z Nat)(c:Nat):(⟨cs.toArray⟩:Str)++(⟨#[c]⟩:Str)=⟨(cs++[c]).toArray⟩:=by show(⟨cs.toArray ++ #[c]⟩:Str)=_;simp
def LS(cs:Z Nat):(⟨cs.toArray⟩:Str).length=cs.length:=bp
def awv{zs:Z Str}{wd:Nat}(h1:0<zs.length)(h8:zs.length<=8)(w1:0<wd)(w8:wd<=8)(hz:∀z∈zs,(Tx z/\∀c∈z.cps.toList,sgB c=true)/\z.length=wd):∃M:Mat,zs=ri M/\OkM SgP M/\M.h=zs.length/\M.w=wd:=by obtain⟨M,e,o⟩:=ayj ⟨h1,h8,wd,w1,w8,hz⟩;have hm:=fj h1;refine⟨M,e,o,by rw[e,ql],?_⟩;have a:=(hz _ hm).2;have b:=(L4 o (z:=zs[0])<|by rw[<-e];exact hm).2;lia
def atz:Sp:=λvs H Q _=>∃(h wd:Nat)(x:Int)(mn:aG)(cs:Z Nat),vs=[.int (h:Nat),.int (wd:Nat),.int x,.ref mn]/\0<h/\h<=8/\0<wd/\wd<=8/\H mn=some (.lst<|lV cs)/\cs.length=5/\(∀c∈cs,sgB c=true)/\∀(r:aG)(M:Mat)(H':Hp),Same H H'->FlM H' r M->M.h=h->M.w=wd->(∀r c,r<M.h->c<M.w->M.g r c∈cs)->Q (.ref r) H'
def scEven:np ["_law_high","_law_wide","_law_x","_law_menu","_law_xs","_law_group","_law_rows","_law_row","_law_signs","_law_column","_law_first"] ZI (m9 La):={}
theorem aun(B:∀x∈uk,mg x=none)(kN:Fn P w K mg base "_law_mixed" 1 Z3 BQ)(NU:Fn P w K mg base "_law_cell_turned" 1 ZQ M7)(F:Fun K "_law_even_floor" "_law_even_floor" La f fd):rn P w K mg base CX0 2 f fd ZI atz:=by
 refine F.o 1 scEven λH Q E hr hu hN h=>?_;obtain⟨h,wd,x,mn,cs,rfl,A9,hh8,CS,hw8,Da,hc6,hcS,q⟩:=h;refine⟨_,(nv (psM 4<|pfn kN<|my (pv 2)<|my mr mq)
  (nv (psM 5<|pix oh (qc<|my (qc<|my mr mq)<|my (qc<|my mr<|my mr mq)<|my (qc<|my mr<|my mr mq)<|my (qc<|my mr<|my mr mq)<|my (qc<|my mr<|my mr<|my mr<|my mr mq)<|my (qc<|my mr<|my mr<|my mr<|my mr mq) mq)<|om qp (pix oh (pv 4) mr) mr)
  (nv (va (qm Gx (pv 0) (pv 1)<|qy _) (nw<|psM 5<|pix oh (qc<|my (qc<|my mr mq)<|my (qc<|my mr<|my mr mq)<|my (qc<|my mr<|my mr<|my mr<|my mr mq)<|my (qc<|my mr<|my mr mq)<|my (qc<|my mr<|my mr mq)<|my (qc<|my mr<|my mr<|my mr<|my mr<|my mr<|my mr<|my mr<|my mr mq) mq)<|om qp (pix oh (pv 4) mr) mr) qd)
  (nv (psM 6<|qc mq)
  (nv (pfo (pR1<|my (pv 0) mq) (B5 (i:=7) scEven.nd rfl<|Or.inr rfl) (nv (psM 8 qh)
  (nv (pfo (pR1<|my (pv 1) mq) (B5 (i:=9) scEven.nd rfl<|Or.inr rfl) (nv (psM 10<|pCB (an6 rfl hu) boot_min<|my (pcm ["_law_t","_law_row","_law_column","_law_high","_law_wide"] [none,some 7,some 9,some 0,some 1] (oy<|pv 5) (λ_=>(pgC 0)) (λ_=>ou) λ_=>(pfn NU<|my (og<|my (pv 1)<|my (pv 2) mq)<|my (pv 0)<|my (pv 3)<|my (pv 4) mq)) mq)
  (nw<|psM 8<|om uu (pv 8)<|pix oh (pv 3)<|om qp (pix oh (pfn kN<|my (om qz (om qz (pix oh (pv 4) mr)<|om GV mr<|pix nr (pv 10) mr)<|pix nr (pv 10) mr)<|my mr mq) mr)<|pCB o7 ft<|my (pv 3) mq)))
  (nw<|uo<|pW dh gf gg r8 (pv 6)<|my (pv 8) mq))))
  (nw<|nu<|pCT ph j4<|my (pv 6) mq)))))),?_⟩
 refine λzD1 zq1=>?_;refine(oq _ rfl x 2 ⟨rfl,by decide,λX ns H1 ⟨zI,A0⟩ s1 FP hX=>?_⟩);have kE:∀i:Nat,i<2->∃n:Int,(ns.map V.int)[i]?=some (.int n)/\0<=n:=λi hi=>⟨ns[i]'(by lia),by rw[ax,af<|by lia];rfl,(A0 _<|fj _).1⟩;obtain⟨n0,e0,_⟩:=kE 0 (by decide);obtain⟨n1,e1,_⟩:=kE 1 (by decide);obtain⟨m0,zK,F7⟩:∃m:Nat,m<6/\n0 % 6=(m:Nat):=⟨(n0 % 6).toNat,by lia,by lia⟩;refine zq1.nx _ _ λzD1 zq1=>?_;refine⟨sZ1,λBL Kf=>⟨sZ2,λBK Ke=>⟨sZ2,λBJ Kd=>⟨sZ2,λBI Kc=>⟨sZ4,λBH Kb=>⟨sZ4,λBG Ka=>⟨sZ6,λaL haL=>?_⟩⟩⟩⟩⟩⟩⟩;have as0:Same H1 (upd H1 BL<|.lst [.int 0]):=Same.fresh _ Kf;have ag0:GrpL (upd H1 BL<|.lst [.int 0]) (.ref BL):=(nc BL ([0]) ⟨rfl,m8,by decide,by decide,by decide⟩);generalize upd H1 BL (.lst [.int 0])=HM at *;have Gr:Same HM (upd HM BK<|.lst [.int 0,.int 4]):=Same.fresh _ Ke;have ag1:GrpL (upd HM BK<|.lst [.int 0,.int 4]) (.ref BK):=(nc BK ([0,4]) ⟨rfl,m8,by decide,by decide,by decide⟩);generalize upd HM BK (.lst [.int 0,.int 4])=HL at *;have Eh:Same HL (upd HL BJ<|.lst [.int 0,.int 2]):=Same.fresh _ Kd;have ag2:GrpL (upd HL BJ<|.lst [.int 0,.int 2]) (.ref BJ):=(nc BJ ([0,2]) ⟨rfl,m8,by decide,by decide,by decide⟩);generalize upd HL BJ (.lst [.int 0,.int 2])=HK at *;have Eg:Same HK (upd HK BI<|.lst [.int 0,.int 6]):=Same.fresh _ Kc;have ag3:GrpL (upd HK BI<|.lst [.int 0,.int 6]) (.ref BI):=(nc BI ([0,6]) ⟨rfl,m8,by decide,by decide,by decide⟩);generalize upd HK BI (.lst [.int 0,.int 6])=HJ at *;have BE:Same HJ (upd HJ BH<|.lst [.int 0,.int 2,.int 4,.int 6]):=Same.fresh _ Kb;have ag4:GrpL (upd HJ BH<|.lst [.int 0,.int 2,.int 4,.int 6]) (.ref BH):=(nc BH ([0,2,4,6]) ⟨rfl,m8,by decide,by decide,by decide⟩);generalize upd HJ BH (.lst [.int 0,.int 2,.int 4,.int 6])=HI at *;have At:Same HI (upd HI BG<|.lst [.int 0,.int 2,.int 4,.int 6]):=Same.fresh _ Ka;have ag5:GrpL (upd HI BG<|.lst [.int 0,.int 2,.int 4,.int 6]) (.ref BG):=(nc BG ([0,2,4,6]) ⟨rfl,m8,by decide,by decide,by decide⟩);generalize upd HI BG (.lst [.int 0,.int 2,.int 4,.int 6])=aG5 at *;refine aE haL λaG6 xZ al=>?_;have EN:∀m:Nat,m<6->∃gv:V,[V.ref BL,.ref BK,.ref BJ,.ref BI,.ref BH,.ref BG][m]?=some gv/\GrpL aG6 gv:=λm hm=>by
  match m,hm with
  | 0,_=>exact⟨_,rfl,((((((ag0).same Gr).same Eh).same Eg).same BE).same At).same xZ⟩
  | 1,_=>exact⟨_,rfl,(((((ag1).same Eh).same Eg).same BE).same At).same xZ⟩
  | 2,_=>exact⟨_,rfl,((((ag2).same Eg).same BE).same At).same xZ⟩
  | 3,_=>exact⟨_,rfl,(((ag3).same BE).same At).same xZ⟩
  | 4,_=>exact⟨_,rfl,((ag4).same At).same xZ⟩
  | 5,_=>exact⟨_,rfl,(ag5).same xZ⟩
 have bS:=((((((as0).trans Gr).trans Eh).trans Eg).trans BE).trans At).trans xZ;clear xZ At BE Eg Eh Gr as0;clear ag5 ag4 ag3 ag2 ag1 ag0;obtain⟨av,hav,agv⟩:=EN m0 zK;have Ad:=bS _ _ hX;refine(mz _ rfl X _ _ _ ⟨rfl,rfl,SqL.of Ad,m7 (j:=0) e0,(tq _ _ rfl rfl (by show(0:Int)<6;decide) aL _ _ ⟨av,rfl,rfl,SqL.of al,?_,zq1.nx _ _ λzD1 zq1=>?_⟩)⟩)
 .show atI _ (n0 % 6)=_;rw[F7];exact m7 hav
 have sA:=s1.trans bS;generalize aG6=H2 at *;clear hav EN al;refine(qe _ rfl _ ⟨rfl,rfl,_,rfl,?_⟩);refine x6 (λh4=>?ga) λh4=>?gb
 case' ga=>
  refine λzD2 zq2=>?_;refine⟨sZ1,λBB J7=>⟨sZ2,λBA J6=>⟨sZ4,λBz J5=>⟨sZ2,λBy J4=>⟨sZ2,λBx J0=>⟨(by show 8<=aF;decide),λBw JZ=>⟨sZ6,λbL hbL=>?_⟩⟩⟩⟩⟩⟩⟩;have bs0:Same H2 (upd H2 BB<|.lst [.int 0]):=Same.fresh _ J7;have bg0:GrpL (upd H2 BB<|.lst [.int 0]) (.ref BB):=(nc BB ([0]) ⟨rfl,m8,by decide,by decide,by decide⟩);generalize upd H2 BB (.lst [.int 0])=Gg at *;have KQ:Same Gg (upd Gg BA<|.lst [.int 0,.int 4]):=Same.fresh _ J6;have bg1:GrpL (upd Gg BA<|.lst [.int 0,.int 4]) (.ref BA):=(nc BA ([0,4]) ⟨rfl,m8,by decide,by decide,by decide⟩);generalize upd Gg BA (.lst [.int 0,.int 4])=Gf at *;have Ga:Same Gf (upd Gf Bz<|.lst [.int 0,.int 1,.int 2,.int 3]):=Same.fresh _ J5;have bg2:GrpL (upd Gf Bz<|.lst [.int 0,.int 1,.int 2,.int 3]) (.ref Bz):=(nc Bz ([0,1,2,3]) ⟨rfl,m8,by decide,by decide,by decide⟩);generalize upd Gf Bz (.lst [.int 0,.int 1,.int 2,.int 3])=Ge at *;have D8:Same Ge (upd Ge By<|.lst [.int 0,.int 5]):=Same.fresh _ J4;have bg3:GrpL (upd Ge By<|.lst [.int 0,.int 5]) (.ref By):=(nc By ([0,5]) ⟨rfl,m8,by decide,by decide,by decide⟩);generalize upd Ge By (.lst [.int 0,.int 5])=Gd at *;have Bu:Same Gd (upd Gd Bx<|.lst [.int 0,.int 2]):=Same.fresh _ J0;have bg4:GrpL (upd Gd Bx<|.lst [.int 0,.int 2]) (.ref Bx):=(nc Bx ([0,2]) ⟨rfl,m8,by decide,by decide,by decide⟩);generalize upd Gd Bx (.lst [.int 0,.int 2])=Gc at *;have An:Same Gc (upd Gc Bw<|.lst [.int 0,.int 1,.int 2,.int 3,.int 4,.int 5,.int 6,.int 7]):=Same.fresh _ JZ;have bg5:GrpL (upd Gc Bw<|.lst [.int 0,.int 1,.int 2,.int 3,.int 4,.int 5,.int 6,.int 7]) (.ref Bw):=(nc Bw ([0,1,2,3,4,5,6,7]) ⟨rfl,m8,by decide,by decide,by decide⟩);generalize upd Gc Bw (.lst [.int 0,.int 1,.int 2,.int 3,.int 4,.int 5,.int 6,.int 7])=bG5 at *;refine aE hbL λbG6 xR bl=>?_;have D9:∀m:Nat,m<6->∃gv:V,[V.ref BB,.ref BA,.ref Bz,.ref By,.ref Bx,.ref Bw][m]?=some gv/\GrpL bG6 gv:=λm hm=>by
   match m,hm with
   | 0,_=>exact⟨_,rfl,((((((bg0).same KQ).same Ga).same D8).same Bu).same An).same xR⟩
   | 1,_=>exact⟨_,rfl,(((((bg1).same Ga).same D8).same Bu).same An).same xR⟩
   | 2,_=>exact⟨_,rfl,((((bg2).same D8).same Bu).same An).same xR⟩
   | 3,_=>exact⟨_,rfl,(((bg3).same Bu).same An).same xR⟩
   | 4,_=>exact⟨_,rfl,((bg4).same An).same xR⟩
   | 5,_=>exact⟨_,rfl,(bg5).same xR⟩
  have bt:=((((((bs0).trans KQ).trans Ga).trans D8).trans Bu).trans An).trans xR;clear xR An Bu D8 Ga KQ bs0;clear bg5 bg4 bg3 bg2 bg1 bg0;obtain⟨bv,hbv,bgv⟩:=D9 m0 zK;have hX8:=bt _ _ Ad;refine(mz _ rfl X _ _ _ ⟨rfl,rfl,SqL.of hX8,m7 (j:=0) e0,(tq _ _ rfl rfl (by show(0:Int)<6;decide) bL _ _ ⟨bv,rfl,rfl,SqL.of bl,?_,zq2.nx _ _<|zq1.nx _ _ λzD1 zq1=>?_⟩)⟩)
  .show atI _ (n0 % 6)=_;rw[F7];exact m7 hbv
  have sB:=sA.trans bt;generalize bG6=H3 at *;clear hbv D9 bl agv Ad sA bt;generalize bv=gv at *;have hgv:=bgv;have qM:=hX8
 case' gb=>
  have sB:=sA;have qM:=Ad;generalize H2=H3 at *;generalize av=gv at *;have hgv:=agv
 all_goals
  obtain⟨gq,g,rfl,hg,hg1,hg8,JM⟩:=hgv
  (first|(refine zq1.nx _ _ λzD1 zq1=>?_)|(skip));refine⟨sZ0,λD hD=>?_⟩
  refine aE hD λH4 s4 l4=>?_;have l4:H4 D=some (.lst ([]:Z V)):=l4;have Bk:H D=none:=sB.free hD;have sC:=sB.trans s4;have Af:=s4 _ _ qM;have JP:=s4 _ _ hg;have Ju:=sC _ _ Da;have nX:X≠D:=λe=>by rw[e,hD]at qM;cases qM
  have ng:gq≠D:=λe=>by rw[e,hD]at hg;cases hg
  have nm:mn≠D:=λe=>by rw[e,Bk]at Da;cases Da
  refine zq1.nx _ _ λzD1 zq1=>?_;refine(qe _ rfl (h:Nat) ⟨rfl,by lia,by lia,?_⟩);rw[da];refine ug (lo:=0) (λi σ' G=>∃(y7 y8 y9 mS:Option V)(zs:Z Str),σ'=[some (.int (h:Nat)),some<|.int (wd:Nat),some<|.int x,some<|.ref mn,some<|.ref X,some<|.ref gq,some<|.ref D,y7,y8,y9,mS]/\Ex [D] H4 G/\G D=some (.lst<|zs.map V.str)/\zs.length=i/\∀z∈zs,(∀c∈z.cps.toList,c∈cs)/\z.length=wd) ?_ (λi σ' G hi hI=>?_) λσ' G hI=>?_
  .exact(ni _ _ _ _ ([]) ⟨rfl,Ex.refl _ _,l4,rfl,λz hz=>by cases hz⟩)
  .obtain⟨y7,y8,y9,mS,zs,rfl,ex,hG,cX,rY⟩:=hI;refine λzD2 zq2=>?_;refine zq2.nx _ _ λzD2 zq2=>?_;refine(qe _ rfl (wd:Nat) ⟨rfl,by lia,by lia,?_⟩);rw[da];refine ug (lo:=0) (λj σ' G2=>∃(y9 mS:Option V)(ls:Z Nat),σ'=[some (.int (h:Nat)),some<|.int (wd:Nat),some<|.int x,some<|.ref mn,some<|.ref X,some<|.ref gq,some<|.ref D,some<|.int<|0+(i:Nat),some<|.str ⟨ls.toArray⟩,y9,mS]/\Same G G2/\ls.length=j/\∀c∈ls,c∈cs) ?_ (λj σ' G2 hj hI=>?_) λσ' G2 hI=>?_
   .exact(oa _ _ ([]) ⟨rfl,Same.refl _,rfl,λc hc=>by cases hc⟩)
   .obtain⟨y9,mS,ls,rfl,sm,A4,Dg⟩:=hI;have Ae:=sm _ _<|ex.at nX Af;have hg5:=sm _ _<|ex.at ng JP;have hm5:=sm _ _<|ex.at nm Ju;refine λzD3 iS=>?_;refine(qe _ rfl gq ⟨rfl,⟨_,SqL.of hg5⟩,λD2 cT=>?_⟩);refine pk (xs:=g.map λt=>V.int ((t:Nat):Int)) (λk ys G5=>Same G2 G5/\∃ds:Z U,ds.length=k/\Cells ds/\RepAll G5 ds ys) ⟨Same.fresh _ cT,[],rfl,(λd hd=>by cases hd),rfl⟩ (λk ys G5 p=>SqL.of<|p.1 _ _ hg5) (λk v ys G5 hv hk Ah eJ p=>?_) λys G5 Ah eJ p=>?_
    .obtain⟨p1,ds,vU,lF,rep⟩:=p;rw[ax]at hv;obtain⟨t,ht,rfl⟩:=ca.mp hv;have AX:=JM t<|ai ht;rw[ae]at hk;refine⟨Agree.set (Agree.refl _) rfl,?_⟩;dsimp only[x5];refine x9 ?_;refine(qe _ rfl _ ⟨rfl,sZ2,λp hp=>?_⟩);have s6:Same G5 (upd G5 p<|.tup [.int (0+(i:Nat)),.int<|0+(j:Nat)]):=Same.fresh _ hp;have p6:upd G5 p (.tup [.int (0+(i:Nat)),.int<|0+(j:Nat)]) p=some (.tup [.int (i:Nat),.int (j:Nat)]):=by rw[m8,ky,ky]
     generalize upd G5 p (.tup [.int (0+(i:Nat)),.int<|0+(j:Nat)])=G6 at *;refine(o6 _ rfl _ rfl _ rfl p t<|oa ⟨h,wd,λ_ _=>0⟩ i j ⟨rfl,p6,hi,hj,AX,λr6 G7 s7 hr6 hr7=>?_⟩);have tJ:=s7 _ _<|s6 _ _ Ah;have tD:Cells (ds++[.tuple [.int ((ctp t ⟨h,wd,λ_ _=>0⟩ i j).1:Nat),.int ((ctp t ⟨h,wd,λ_ _=>0⟩ i j).2:Nat)]]):=λz hz=>by
      rcases bw.mp hz with h|h
      .exact lF z h
      .rw[ay.mp h];exact(nc _ _ rfl)
     refine qk (by lia) tJ eJ ⟨((p1.trans s6).trans s7).new cT,_,?_,tD,((rep.same<|s6.trans s7).snoc (vf hr7)).tk (Tk.lst tJ) tD.imm⟩;rw[bo,vU];rfl
    .obtain⟨p1,ds,vU,lF,rep⟩:=p;have hyd:=rep.length;rw[ae]at vU;refine(oa D2 ys ds ⟨rfl,Ah,rep,lF,by lia,λv hv=>?_⟩);obtain⟨k,hk⟩:=f8 hv;obtain⟨b,r,c,rfl,hb,_⟩:=Mw lF rep hk;refine iS.nx _ _ λzD3 iS=>?_;refine(o6 _ rfl _ rfl _ rfl X _<|yw _ _ rfl rfl (SqL.of<|p1 _ _ Ae) (m7 (j:=1) e1) _ rfl b<|oa _ _ _ ⟨rfl,rfl,SqT.of hb,m7 (j:=0) rfl,(xm _ _ rfl rfl (.inl ⟨by decide,by decide⟩) _ _ ⟨rfl,rfl,(mz _ rfl b _ _ _ ⟨rfl,rfl,SqT.of hb,m7 (j:=1) rfl,(sn _ _ rfl rfl _ 1 ⟨rfl,by decide,λX2 ns2 G8 ⟨oM,hkB⟩ s8 hX20 DJ=>?_⟩)⟩)⟩)⟩);obtain⟨n,en⟩:∃n:Int,(ns2.map V.int)[0]?=some (.int n):=⟨ns2[0]'(by lia),by rw[ax,af<|by lia];rfl⟩;have Dj:(lV cs).length=5:=by unfold lV;rw[ae];exact hc6
     have hm8:=s8 _ _<|p1 _ _ hm5;obtain⟨m,hm,em⟩:∃m:Nat,m<5/\n % ((5:Nat):Int)=(m:Nat):=⟨(n % 5).toNat,by lia,by lia⟩;have Dc:cs[m]?=some (cs[m]'(by lia)):=af _;have Do:=ai Dc;generalize cs[m]'(by lia)=c9 at *;refine(ny X2 _ _ _ ⟨rfl,rfl,SqL.of DJ,m7 (j:=0) en,(o9 _ rfl mn _ rfl (.inl<|SqL.of hm8) _ ⟨_,rfl,rfl,by rw[Dj];show(0:Int)<((5:Nat):Int);decide,(ny mn _ _ (.str ⟨#[c9]⟩) ⟨rfl,rfl,SqL.of hm8,?_,?_⟩)⟩)⟩)
     .show atI (lV cs) (n % (((lV cs).length:Nat):Int))=_;rw[Dj,em];exact m7<|by unfold lV;rw[ax,Dc];rfl
     refine(nc _ _ ⟨rfl,rfl,?_,iS.nx _ _ ?_⟩)
     .rw[LS];exact gx (o0<|by show ls.length+1<=1000;lia)
     rw[arw];refine(oa _ _ (ls++[c9]) ⟨rfl,(sm.trans p1).trans s8,by rw[bo,A4];rfl,λc hc=>?_⟩);rcases bw.mp hc with h|h
     .exact Dg c h
     .rw[ay.mp h];exact Do
   .obtain⟨y9,mS,ls,rfl,sm,A4,Dg⟩:=hI;have hG2:=sm _ _ hG;refine zq2.nx _ _ λzD2 zq2=>?_;refine(ux _ rfl (.inl ⟨rfl,_,SqL.of hG2⟩) _ rfl D (zs.map V.str) (.str ⟨ls.toArray⟩) ⟨rfl,rfl,hG2,o0<|by rw[ae];lia,zq2.nx _ _ ?_⟩);refine(ni _ _ _ _ (zs++[⟨ls.toArray⟩]) ⟨rfl,(ex.trans<|Ex.of_same (W:=[D]) sm).trans (Ex.upd<|by simp),by rw[m8,bq];rfl,by rw[bo,cX];rfl,λz hz=>?_⟩);rcases bw.mp hz with h|h
    .exact rY z h
    .rw[ay.mp h];exact⟨by rw[show(⟨ls.toArray⟩:Str).cps.toList=ls by simp];exact Dg,by rw[LS];exact A4⟩
  .obtain⟨y7,y8,y9,mS,zs,rfl,ex,hG,cX,rY⟩:=hI;obtain⟨M,rfl,o,eh,ew⟩:=awv (by lia) (by lia) CS hw8 λz hz=>⟨⟨⟨by have:=(rY z hz).2;lia,λc hc=>BU<|hcS c<|(rY z hz).1 c hc⟩,λc hc=>hcS c<|(rY z hz).1 c hc⟩,(rY z hz).2⟩;have sG:Same H G:=λb o hb=>ex.at (λe=>by rw[e,Bk]at hb;cases hb)<|sC _ _ hb;refine zq1.nx _ _ λzD1 zq1=>?_;refine(oq _ rfl D _ ⟨rfl,.inl ⟨SqL.of hG,λl hl=>?_⟩⟩);refine zq1.rt _ _ ?_;exact q l M _ (sG.trans<|Same.fresh _ hl) ⟨m8,o⟩ (by lia) ew λr c hr hc=>(rY _<|ai<|BY hr).1 _ (by rw[show(⟨(qt M r).toArray⟩:Str).cps.toList=qt M r by simp];exact ai<|yo hc)
def K0:Sp:=λvs H Q _=>∃c:Nat,vs=[.str ⟨#[c]⟩]/\Q (.bl<|decide (65<=c)&&decide (c<=90)) H
def ans:Sp:=λvs H Q _=>∃c:Nat,vs=[.str ⟨#[c]⟩]/\Q (.bl<|decide (97<=c)&&decide (c<=122)) H
def a2l:np Z5 Z5 (m9 Nu):={}
def av1:np Z5 Z5 (m9 LB):={}
def le1(a b:Nat):(!decide ([b]<[a]))=decide (a<=b):=by
 have h:([b]<[a])↔b<a:=by simp[fw]
 rw[decide_eq_decide.mpr h];by_cases c:b<a
 .rw[decide_eq_true c,decide_eq_false<|by lia];rfl
 .rw[decide_eq_false c,decide_eq_true<|by lia];rfl
def am0{c lo hi:Nat}{a z:Str}{R:V->Prop}{A B:Prop}(ha:a.cps.toList=[lo])(hz:z.cps.toList=[hi])(q:R (.bl<|decide (lo<=c)&&decide (c<=hi)))
  (hA:R (.bl<|!decide (z.cps.toList<[c]))->A) (hB:R (.bl false)->B):if (!decide ((⟨#[c]⟩:Str).cps.toList<a.cps.toList))=true then A else B:=by
 have e:(⟨#[c]⟩:Str).cps.toList=[c]:=rfl;rw[e,ha,le1];rw[hz,le1]at hA;by_cases h:lo<=c
 .rw[decide_eq_true h]at *;rw[if_pos rfl];exact hA q
 .rw[decide_eq_false h]at *;rw[if_neg am];exact hB q
def Nz(c:Nat):(⟨#[c]⟩:Str).length<=aF:=by show 1<=aF;decide
def axs(B:∀x∈uk,mg x=none)(F:Fun K "is_sign" "is_sign" Nu f fd):rn P w K mg base CX0 1 f fd Z5 K0:=by refine F.o 0 a2l λH Q E hr hu hN h=>?_;obtain⟨c,rfl,q⟩:=h;refine⟨_,(nw<|nu<|yF (pCB qo ja<|my (pv 0)<|my (u6 (v:=.ty "str") rfl (B "str"<|by decide) boot_str rfl) mq)<|yF (vp Gx (pCB se ft<|my (pv 0) mq) mr<|qy _)<|Ax<|aju HF HF qh (pv 0) qh),?_⟩;refine λzD1 zq1=>?_;refine(mz _ rfl _ _ _ true ⟨rfl,.str _,rfl,true,rfl,?_⟩);refine x9 ?_;refine(qe _ rfl _ ⟨rfl,Nz c,rfl,true,rfl,?_⟩);refine x9 ?_;exact(o9 _ rfl _ _ rfl rfl _ ⟨rfl,am0 (a:=bm "A") (z:=bm "Z") (R:=λv=>Q v H) (by decide +kernel) (by decide +kernel) q (λh=>(nc _ _ ⟨rfl,rfl,zq1.rt _ _<|h⟩)) λh=>(zq1.rt _ _ h)⟩)
def apu(B:∀x∈uk,mg x=none)(F:Fun K "is_small" "is_small" LB f fd):rn P w K mg base CX0 1 f fd Z5 ans:=by refine F.o 0 av1 λH Q E hr hu hN h=>?_;obtain⟨c,rfl,q⟩:=h;refine⟨_,(nw<|nu<|yF (pCB qo ja<|my (pv 0)<|my (u6 (v:=.ty "str") rfl (B "str"<|by decide) boot_str rfl) mq)<|yF (vp Gx (pCB se ft<|my (pv 0) mq) mr<|qy _)<|Ax<|aju HF HF qh (pv 0) qh),?_⟩;refine λzD1 zq1=>?_;refine(mz _ rfl _ _ _ true ⟨rfl,.str _,rfl,true,rfl,?_⟩);refine x9 ?_;refine(qe _ rfl _ ⟨rfl,Nz c,rfl,true,rfl,?_⟩);refine x9 ?_;exact(o9 _ rfl _ _ rfl rfl _ ⟨rfl,am0 (a:=bm "a") (z:=bm "z") (R:=λv=>Q v H) (by decide +kernel) (by decide +kernel) q (λh=>(nc _ _ ⟨rfl,rfl,zq1.rt _ _<|h⟩)) λh=>(zq1.rt _ _ h)⟩)
def GS(mg:Str->Option aA)(x z:Str):Prop:=∃t,mg x=some (.str z t)
def eH:bm "#" = ⟨#[35]⟩:=by decide +kernel
def B4(c d:Nat){z:Str}(hz:z=⟨#[d]⟩):decide (V.str ⟨#[c]⟩=V.str z)=(c==d):=by
 subst hz;rw[ji,decide_eq_true_eq,beq_iff_eq];constructor
 .intro h;injection h with h
  injection h with h
  injection h with h
  injection h with h
 .intro h;rw[h]
def ze{M:Mat}{r:Nat}(h:r<M.h):((ri M).map V.str)[r]?=some (V.str ⟨(qt M r).toArray⟩):=by rw[ax,BY h];rfl
def pj(N:Mat)(r:Nat):(⟨(qt N r).toArray⟩:Str).length=N.w:=by show(qt N r).toArray.size=_;rw[bp,xw]
def GQ{N:Mat}(o:OkM SgP N):N.w<=aF:=gx (o0<|by have:=o.w8;lia)
noncomputable def gA(M:Mat)(r c:Nat):Nat:=if r<M.h/\c<M.w then M.g r c else 35
def KY{M:Mat}(o:OkM SgP M)(r c:Nat):sgB (gA M r c)=true:=by
 unfold gA;split
 .rename_i h;exact o.sg r c h.1 h.2
 .decide
noncomputable def big(c:Nat):Bool:=decide (65<=c)&&decide (c<=90)
noncomputable def uV(c:Nat):Bool:=decide (97<=c)&&decide (c<=122)
noncomputable def okS(g k:Nat):Bool:=g==46||g==44||g==k||g==lo1 k
def ay1{g k:Nat}(h:sgB g=true)(h1:65<=k)(h2:k<=90):(!(g==35)&&(!(big g||uV g)||up1 g==k))=okS g k:=by
 have:∀g<128,sgB g=true->∀k<91,65<=k->(!(g==35)&&(!(big g||uV g)||up1 g==k))=okS g k:=by decide +kernel
 exact this g (BU h) h k (by lia) h1
def xV(R:Nat->V):Sp:=λvs H Q _=>∃(a b:aG)(M:Mat)(r c:Nat),vs=[.ref a,.ref b]/\FlM H a M/\H b=some (.tup [.int (r:Nat),.int (c:Nat)])/\Q (R<|gA M r c) H
def a3l:np ["floor","cell","row","column"] Z8 (m9 sAt):={}
def a2a(B:∀x∈uk,mg x=none)(gC:GS mg "CLOSED" "#")(F:Fun K "sign_at" "sign_at" sAt f fd):rn P w K mg base CX0 1 f fd Z8 (xV λk=>.str ⟨#[k]⟩):=by
 refine F.o 0 a3l λH Q E hr hu hN h=>?_;obtain⟨a,b,M,r,c,rfl,hf,hb,q⟩:=h;dsimp only at q;obtain⟨ha,dC⟩:=hf;have out:¬(r<M.h/\c<M.w)->Q (.str<|bm "#") H:=λh=>by unfold gA at q;rw[if_neg h]at q;rw[eH];exact q
 refine⟨_,(nv (psM 2<|pix nr (pv 1) mr)
  (nv (psM 3<|pix nr (pv 1) mr)
  (nv (va (PW.pt<|EA (Hv GF BO mr (pv 2)<|pCB o7 ft<|my (pv 0) mq)<|EF<|Hv GF BO mr (pv 3)<|pCB se ft<|my (pix nr (pv 0)<|pv 2) mq) (nw<|nu<|pix Eu (pix nr (pv 0)<|pv 2)<|pv 3) qd)
  (nw<|nu<|Hr gC rfl)))),?_⟩
 refine λzD1 zq1=>?_;refine(mz _ rfl b _ _ _ ⟨rfl,rfl,SqT.of hb,m7 (j:=0) rfl,zq1.nx _ _ λzD1 zq1=>?_⟩);refine(mz _ rfl b _ _ _ ⟨rfl,rfl,SqT.of hb,m7 (j:=1) rfl,zq1.nx _ _ λzD1 zq1=>?_⟩);refine(o9 _ rfl _ _ rfl rfl _ ⟨rfl,?_⟩);refine x6 (λc1=>?_) λc1=>absurd (decide_eq_true<|by show(0:Int)<=(r:Nat);lia) c1;refine(o9 _ rfl a _ rfl (.inr<|SqT.of ha) _<|qi _ rfl rfl _ ⟨rfl,?_⟩);refine x6 (λc2=>?_) λc2=>?_
 .have xC:r<M.h:=by
   have:((r:Nat):Int)<(((ri M).map V.str).length:Nat):=of_decide_eq_true c2;rw[ae,ql]at this;lia
  have Bh:atI ((ri M).map V.str) (r:Int)=some (.str ⟨(qt M r).toArray⟩):=m7<|ze xC;have zl:(⟨(qt M r).toArray⟩:Str).length<=aF:=by rw[pj];exact GQ dC
  refine(o9 _ rfl _ _ rfl rfl _ ⟨rfl,?_⟩);refine x6 (λc3=>?_) λc3=>absurd (decide_eq_true<|by show(0:Int)<=(c:Nat);lia) c3;refine(oe _ rfl _ rfl a _ _ ⟨_,rfl,rfl,SqT.of ha,Bh,(qi _ rfl zl _<|qi _ rfl rfl _ ⟨rfl,?_⟩)⟩);refine x6 (λc4=>?_) λc4=>?_
  .have xI:c<M.w:=by
    have:((c:Nat):Int)<((⟨(qt M r).toArray⟩:Str).length:Nat):=of_decide_eq_true c4;rw[pj]at this;lia
   unfold gA at q;rw[if_pos ⟨xC,xI⟩]at q;refine λzD2 zq2=>?_;refine(oe _ rfl _ rfl a _ _ ⟨_,rfl,rfl,SqT.of ha,Bh,(qu _ rfl _ _ (M.g r c) ⟨rfl,rfl,zl,?_,zq2.rt _ _<|zq1.rt _ _<|q⟩)⟩);refine m7 ?_;show(qt M r).toArray.toList[c]?=_;rw[List.toList_toArray];exact yo xI
  .have KN:¬(((c:Nat):Int)<((⟨(qt M r).toArray⟩:Str).length:Nat)):=by simpa using c4
   rw[pj]at KN;refine zq1.nx _ _ λzD1 zq1=>?_;refine zq1.rt _ _ ?_;exact out<|by lia
 .have KO:¬(((r:Nat):Int)<(((ri M).map V.str).length:Nat)):=by simpa using c2
  rw[ae,ql]at KO;refine lA ?_;refine zq1.nx _ _ λzD1 zq1=>?_;refine zq1.rt _ _ ?_;exact out<|by lia
def axi:np Z8 Z8 (m9 Lh):={}
def awu:np ZY Z8 (m9 Lj):={}
noncomputable abbrev M3(P:aM)(w:aN)(K:aw)(mg:Str->Option aA)(base:Heap):Prop:=Fn P w K mg base "sign_at" 1 Z8<|xV λk=>.str ⟨#[k]⟩
def avs(gC:GS mg "CLOSED" "#")(E5:M3 P w K mg base)(F:Fun K "is_open" "is_open" Lh f fd):rn P w K mg base CX0 2 f fd Z8 (xV λk=>.bl<|!(k==35)):=by refine F.o 1 axi λH Q E hr hu hN h=>?_;obtain⟨a,b,M,r,c,rfl,hf,hb,q⟩:=h;dsimp only at q;refine⟨_,(nw<|nu<|vp Ej (pfn E5<|my (pv 0)<|my (pv 1) mq) (Hr gC rfl)<|qy _),?_⟩;refine λzD1 zq1=>?_;refine(oe _ rfl _ rfl a b M<|nc r c ⟨rfl,hf,hb,rfl,zq1.rt _ _ ?_⟩);rw[B4 _ 35 eH];exact q
noncomputable def K9(k:Nat):V:=if (big k||uV k)=true then .str ⟨#[up1 k]⟩else .non
def av9(E5:M3 P w K mg base)(AE:Fn P w K mg base "is_sign" 1 Z5 K0)(Az:Fn P w K mg base "is_small" 1 Z5 ans)(F:Fun K "wanted" "wanted" Lj f fd) :
  rn P w K mg base CX0 2 f fd Z8 (xV K9):=by
 refine F.o 1 awu λH Q E hr hu hN h=>?_;obtain⟨a,b,M,r,c,rfl,hf,hb,q⟩:=h;have wD:=BU<|KY hf.2 r c;refine⟨_,(nv (psM 2<|pfn E5<|my (pv 0)<|my (pv 1) mq)
  (nw<|nu<|aqu (PW.pt<|tT (uh<|pfn AE<|my (pv 2) mq)<|yE<|uh<|pfn Az<|my (pv 2) mq) (LA PySem.F.plainAttrs_str PySem.F.slot_str_upper PySem.F.type_str_upper ap2<|pv 2) yg)),?_⟩
 refine λzD1 zq1=>?_;refine(oe _ rfl _ rfl a b M<|nc r c ⟨rfl,hf,hb,zq1.nx _ _ λzD1 zq1=>?_⟩);generalize gA M r c=g at *;refine(sw _ rfl _ rfl _ ⟨rfl,?_⟩);have q':∀t:Bool,(big g||uV g)=t->Q (if t=true then .str ⟨#[up1 g]⟩else .non) H:=λt ht=>by rw[<-ht];exact q
 refine x6 (λh1=>?_) λh1=>?_
 .refine x9 ?_;refine(qi _ rfl rfl _ ⟨rfl,rfl,wD,zq1.rt _ _<|q' true ?_⟩);have eR:big g=true:=h1;rw[eR];rfl
 .have eR:big g=false:=Bool.eq_false_iff.mpr h1;refine(sw _ rfl _ rfl _ ⟨rfl,?_⟩);refine x6 (λh2=>?_) λh2=>?_
  .refine(qi _ rfl rfl _ ⟨rfl,rfl,wD,zq1.rt _ _<|q' true ?_⟩);have fQ:uV g=true:=h2;rw[fQ,Bool.or_true]
  .refine zq1.rt _ _ ?_;refine q' false ?_;have fQ:uV g=false:=Bool.eq_false_iff.mpr h2;rw[eR,fQ];rfl
def SgN(d:U):Prop:=∃r c k:Nat,d=.tuple [.int (r:Nat),.int (c:Nat),.str ⟨#[k]⟩]/\65<=k/\k<=90
def SgN.spots{ds:Z U}(h:∀d∈ds,SgN d):Spots ds:=λd hd=>by obtain⟨r,c,k,e,_⟩:=h d hd;exact(oa r c _ e)
noncomputable def qS(M:Mat):U->Bool
 | .tuple [.int r,.int c,.str z]=>okS (gA M r.toNat c.toNat) (z.cps.toList.headD 0)
 | _=>false
def ED(M:Mat)(r c k:Nat):qS M (.tuple [.int (r:Nat),.int (c:Nat),.str ⟨#[k]⟩])=okS (gA M r c) k:=by show okS (gA M (Int.toNat (r:Nat))<|Int.toNat (c:Nat)) k=_;rw[da,da]
noncomputable def sh1(dn rt:Int):U->U
 | .tuple [.int r,.int c,.str z]=>.tuple [.int (r+dn),.int<|c+rt,.str z]
 | d=>d
def SgN.sh{dn rt:Nat}{d:U}(h:SgN d):SgN (sh1 (dn:Nat) (rt:Nat) d):=by obtain⟨r,c,k,rfl,hk⟩:=h;refine(oa (r+dn) (c+rt) k ⟨?_,hk⟩);show PyData.tuple [.int ((r:Nat)+(dn:Nat)),.int<|(c:Nat)+(rt:Nat),.str ⟨#[k]⟩]=_;rw[Int.natCast_add,Int.natCast_add]
def SgN.shs{dn rt:Nat}{ds:Z U}(h:∀d∈ds,SgN d):∀d∈ds.map (sh1 (dn:Nat) (rt:Nat)),SgN d:=λd hd=>by obtain⟨e,he,rfl⟩:=au.mp hd;exact(h e he).sh
def a0o{g:Nat}(h:g<128):up1 g<128:=by
 have:∀g<128,up1 g<128:=by decide +kernel
 exact this g h
def ar9{g k:Nat}:([PyData.none,PyData.str ⟨#[k]⟩].any λe=>bn e (if (big g||uV g)=true then .str ⟨#[up1 g]⟩else .none))=(!(big g||uV g)||up1 g==k):=by
 by_cases h:(big g||uV g)=true
 .rw[if_pos h,h];show(false||(((⟨#[k]⟩:Str)==⟨#[up1 g]⟩)||false))=(false||up1 g==k);rw[Bool.false_or,Bool.or_false,Bool.false_or,ji,beq_iff_eq,beq_iff_eq];constructor
  .intro e;injection e with e
   injection e with e
   injection e with e
   exact e.symm
  .intro e;rw[e]
 .rw[if_neg h,Bool.eq_false_iff.mpr h];rfl
def ayl:Sp:=λvs H Q _=>∃(a b:aG)(M:Mat)(r c k:Nat),vs=[.ref a,.ref b,.str ⟨#[k]⟩]/\FlM H a M/\H b=some (.tup [.int (r:Nat),.int (c:Nat)])/\65<=k/\k<=90/\∀H',Same H H'->Q (.bl<|okS (gA M r c) k) H'
def a08:np ZY ZY (m9 Nq):={}
def axt(EX:Fn P w K mg base "is_open" 2 Z8 (xV λk=>.bl<|!(k==35)))(EV:Fn P w K mg base "wanted" 2 Z8 (xV K9))(F:Fun K "may_cover" "may_cover" Nq f fd):rn P w K mg base CX0 3 f fd ZY ayl:=by
 refine F.o 2 a08 λH Q E hr hu hN h=>?_;obtain⟨a,b,M,r,c,k,rfl,hf,hb,oM,Dp,q⟩:=h;have hm:=ay1 (KY hf.2 r c) oM Dp;have wD:=BU<|KY hf.2 r c;rw[<-hm]at q;refine⟨_,(nw<|nu<|yF (pfn EX<|my (pv 0)<|my (pv 1) mq)<|Ax<|vp (as8 hu) (pfn EV<|my (pv 0)<|my (pv 1) mq) (og<|my yg<|my (pv 2) mq) rfl),?_⟩;refine λzD1 zq1=>?_;refine(oe _ rfl _ rfl a b M<|nc r c ⟨rfl,hf,hb,_,rfl,?_⟩);refine x6 (λh1=>?_) λh1=>?_
 .rw[h1,Bool.true_and]at q;refine(oe _ rfl _ rfl a b M<|nc r c ⟨rfl,hf,hb,_,rfl,sZ2,λp hp=>?_⟩);refine aE hp λH1 s1 c1=>?_;generalize gA M r c=g at *;refine(ny (if (big g||uV g)=true then .str ⟨#[up1 g]⟩else .none) p _ ([.none,.str ⟨#[k]⟩]) ⟨?_,rfl,.inr c1,?_,?_,zq1.rt _ _ ?_⟩)
  .unfold K9;split
   .exact⟨rfl,ok1<|a0o wD⟩
   .rfl
  .exact(sn _ _ rfl rfl _ _ ⟨rfl,⟨rfl,ok1<|by lia⟩,rfl⟩)
  .split<;>simp[gk]
  .rw[if_neg am,ar9];exact q H1 s1
 .rw[Bool.eq_false_iff.mpr h1,Bool.false_and]at q;refine zq1.rt _ _ ?_;exact q H<|Same.refl _
noncomputable def mX(M:Mat):U->Bool
 | .tuple es=>es.all (qS M)
 | _=>false
noncomputable def shT(M:Mat)(es:Z U)(i:Nat):U:=.tuple<|es.map<|sh1 ((i/M.w:Nat):Int) ((i % M.w:Nat):Int)
noncomputable def plS(M:Mat)(es:Z U)(k:Nat):Z U:=((cj k).map (shT M es)).filter (mX M)
def aj0(M:Mat)(es:Z U)(k:Nat):plS M es (k+1)=plS M es k++if mX M (shT M es k)=true then[shT M es k]else[]:=by
 unfold plS;rw[g0,bq,List.filter_append]
 congr 1
 cases h:mX M (shT M es k)<;>simp[h]
def au4(M:Mat)(es:Z U)(k:Nat):(plS M es k).length<=k:=by have:=List.length_filter_le (mX M)<|(cj k).map (shT M es);rw[ae,fu]at this;exact this
def plS_mem{M:Mat}{es:Z U}{k:Nat}{d:U}:d∈plS M es k↔∃i,i<k/\d=shT M es i/\mX M d=true:=by
 unfold plS;rw[List.mem_filter,au];constructor
 .rintro⟨⟨i,hi,rfl⟩,h⟩;exact⟨i,gh.mp hi,rfl,h⟩
 .rintro⟨i,hi,rfl,h⟩;exact⟨⟨i,gh.mpr hi,rfl⟩,h⟩
def aoc{M:Mat}{es:Z U}(h:∀d∈es,SgN d){ds:Z U}(hd:∀d∈ds,∃i,d=shT M es i):rf ds=true:=uj λd hx=>by obtain⟨i,rfl⟩:=hd d hx;exact Spots.imm<|SgN.spots<|SgN.shs h
def avu{M:Mat}{es:Z U}{i:Nat}{d:U}(h:es[i]?=some d):((es.take<|i+1).map (qS M)).map V.bl=((es.take i).map (qS M)).map V.bl++[V.bl (qS M d)]:=by rw[nh (qS M) h,bq];rfl
def awt:Sp:=λvs H Q _=>∃(a b:aG)(M:Mat)(xs:Z V)(es:Z U),vs=[.ref a,.ref b]/\FlM H a M/\H b=some (.tup xs)/\RepAll H es xs/\(∀d∈es,SgN d)/\es.length<=6/\∀H',Same H H'->Q (.bl<|mX M<|.tuple es) H'
def a01:np ZP ZP (m9 Nb):={}
def au5(B:∀x∈uk,mg x=none)(NP:Fn P w K mg base "may_cover" 3 ZY ayl)(F:Fun K "may_lie" "may_lie" Nb f fd):rn P w K mg base CX0 4 f fd ZP awt:=by
 refine F.o 3 a01 λH Q E hr hu hN h=>?_;obtain⟨a,b,M,xs,es,rfl,hf,hb,rep,hs,h6,q⟩:=h;have hl:=rep.length;refine⟨_,(nw<|nu<|pCB (HD rfl) xS<|my (pcm ["row","column","sign","floor"] [none,none,none,some 0] (vc<|pv 1) (λ_=>(pf (n:=3) rfl<|mw (pgC 0)<|mw (pgC 1)<|mw (pgC 2) ow)) (λ_=>ou) λ_=>(pfn NP<|my (pv 3)<|my (og<|my (pv 0)<|my (pv 1) mq)<|my (pv 2) mq)) mq),?_⟩;refine λzD1 zq1=>?_;refine(qe _ rfl b ⟨rfl,⟨_,SqT.of hb⟩,λD hD=>?_⟩);refine wn (xs:=xs) (λi zs G=>Same H G/\zs=((es.take i).map (qS M)).map V.bl) ⟨Same.fresh _ hD,rfl⟩ (λi zs G p=>SqT.of<|p.1 _ _ hb) (λi x zs G hx hi aW cX p=>?_) λzs G aW cX p=>?_
 .obtain⟨p1,rfl⟩:=p;obtain⟨d,hd,rd⟩:=rep.at hx;obtain⟨r,c,k,rfl,oM,Dp⟩:=hs d<|ai hd;obtain⟨b',rfl,eW,_⟩:=sv rd;refine(nj b' _ rfl (SqT.of<|p1 _ _ eW) rfl _ _ rfl _<|oq _ rfl _ _ ⟨rfl,rfl,?_⟩);refine⟨Agree.set (Agree.set (Agree.set (Agree.refl _) rfl) rfl) rfl,?_⟩;dsimp only[x5];refine x9 ?_;refine(sw _ rfl _ rfl _ ⟨rfl,sZ2,λp hp=>?_⟩);refine aE hp λG2 s2 c2=>?_;refine(mz _ rfl a p M r<|nc c k ⟨rfl,hf.same<|p1.trans s2,c2,oM,Dp,λG3 s3=>?_⟩);refine qk (by lia) (s3 _ _<|s2 _ _ aW) cX ⟨((p1.trans s2).trans s3).new hD,?_⟩;rw[avu hd,ED]
 .obtain⟨p1,rfl⟩:=p;rw[a8 (by lia)]at aW;refine(nc D _ ⟨rfl,aW,zq1.rt _ _ ?_⟩);rw[List.all_map];exact q G p1
def aw0:Sp:=λvs H Q _=>∃(b:aG)(dn rt:Int)(xs:Z V)(es:Z U),vs=[.ref b,.int dn,.int rt]/\H b=some (.tup xs)/\RepAll H es xs/\Spots es/\es.length<=64/\∀r ys H',Same H H'->H r=none->H' r=some (.tup ys)->RepAll H' (es.map<|sh1 dn rt) ys->Q (.ref r) H'
def a1d:np ZO ZO (m9 M5):={}
def aws(B:∀x∈uk,mg x=none)(F:Fun K "shifted" "shifted" M5 f fd):rn P w K mg base CX0 1 f fd ZO aw0:=by
 refine F.o 0 a1d λH Q E hr hu hN h=>?_;obtain⟨b,dn,rt,xs,es,rfl,hb,rep,hs,jV,q⟩:=h;refine⟨_,(nw<|nu<|pCT ph j4<|my (pcm ["row","column","sign","down","right"] [none,none,none,some 1,some 2] (BV<|pv 0) (λ_=>(pf (n:=3) rfl<|mw (pgC 0)<|mw (pgC 1)<|mw (pgC 2) ow)) (λ_=>ou) λ_=>(og<|my (om qz (pv 0)<|pv 3)<|my (om qz (pv 1)<|pv 4)<|my (pv 2) mq)) mq),?_⟩;refine λzD1 zq1=>?_;refine xz (sh1 dn rt) rfl rfl (.inr hb) rep hs jV (λr c z H' Q' h=>?_) (λr c z=>(nc _ _ rfl)) λD ys H2 hD sm aW dB=>?_
 .obtain⟨u,v,e,q⟩:=h;cases (show PyData.tuple [.int (r+dn),.int<|c+rt,.str z]=.tuple [.int u,.int v,.str z]from e);exact(rg _ rfl _ rfl _ _ rfl rfl _ ⟨rfl,(o9 _ rfl _ _ rfl rfl _ ⟨rfl,sZ3,q⟩)⟩)
 .refine(nc D ys ⟨rfl,.inl ⟨SqL.of aW,λl hl=>?_⟩⟩);have s2:Same H2 (upd H2 l<|.tup ys):=Same.fresh _ hl;refine zq1.rt _ _ ?_;exact q l ys _ (sm.trans s2) (sm.free hl) m8<|dB.same s2
def azu:Sp:=λvs H Q _=>∃(a b:aG)(M:Mat)(xs:Z V)(es:Z U),vs=[.ref a,.ref b]/\FlM H a M/\H b=some (.tup xs)/\RepAll H es xs/\(∀d∈es,SgN d)/\es.length<=6/\
 ∀(D:aG)(ys:Z V)(H':Hp),Same H H'->H' D=some (.lst ys)->RepAll H' (plS M es<|M.h*M.w) ys->Q (.ref D) H'
def scPla:np ["floor","form","shifts"] ["floor","form"] (m9 Nh):={}
def aw5(B:∀x∈uk,mg x=none)(fX:Fn P w K mg base "floor_spots" 1 Z7 EE)(NL:Fn P w K mg base "shifted" 1 ZO aw0)(NQ:Fn P w K mg base "may_lie" 4 ZP awt)(F:Fun K "places" "places" Nh f fd):rn P w K mg base CX0 5 f fd ["floor","form"] azu:=by
 refine F.o 4 scPla λH Q E hr hu hN h=>?_;obtain⟨a,b,M,xs,es,rfl,hf,hb,rep,hs,h6,q⟩:=h;have dC:=hf.2;have CS:=dC.w1;have JF:M.h*M.w<=64:=Nat.mul_le_mul dC.h8 dC.w8;refine⟨_,(nv (psC 2 ["row","column","sign","form"] [none,none,none,some 1] scPla.nd (oy<|pfn fX<|my (pv 0) mq) (λ_=>(pf (n:=3) rfl<|mw (pgC 0)<|mw (pgC 1)<|mw (pgC 2) ow)) (λ_=>ou) λ_=>(pfn NL<|my (pv 3)<|my (pv 0)<|my (pv 1) mq))
  (nw<|nu<|pcm ["spots","floor"] [none,some 0] (oy<|pv 2) (λ_=>(pgC 0)) (λ_=>Mg<|uh<|pfn NQ<|my (pv 1)<|my (pv 0) mq) λ_=>(pv 0))),?_⟩
 refine λzD1 zq1=>?_;refine(oq _ rfl a (ri M) ⟨rfl,FlM.fl hf,λD1 HR H1 s1 jJ iA kC=>?_⟩);rw[ql,vt M M.h<|ao _]at kC;have CK:=kC.length;rw[ae,fu]at CK;refine⟨D1,rfl,⟨_,SqL.of jJ⟩,λD hD=>?_⟩;refine pk (xs:=HR) (λi zs G=>Same H1 G/\RepAll G ((cj i).map (shT M es)) zs) ⟨Same.fresh _ hD,rfl⟩ (λi zs G p=>SqL.of<|p.1 _ _ jJ) (λi x zs G hx hi aW cX p=>?_) λzs G aW cX p=>?_
 .obtain⟨p1,p2⟩:=p;obtain⟨d,hd,rd⟩:=kC.at hx;rw[ax,jd<|by lia]at hd;cases hd;obtain⟨b',rfl,eW,_⟩:=sv rd;refine(nj b' _ rfl (SqT.of<|p1 _ _ eW) rfl _ _ rfl _<|oq _ rfl _ _ ⟨rfl,rfl,?_⟩);refine⟨Agree.set (Agree.set (Agree.set (Agree.refl _) rfl) rfl) rfl,?_⟩;dsimp only[x5];refine x9 ?_;have sG:=s1.trans p1;refine(o6 _ rfl _ rfl _ rfl b ((i/M.w:Nat):Int)<|oa ((i % M.w:Nat):Int) xs es ⟨rfl,sG _ _ hb,rep.same sG,SgN.spots hs,by lia,λr ys G2 s2 _ AY dB=>?_⟩);have cT:=s2 _ _ aW;refine qk (by lia) cT cX ⟨(p1.trans s2).new hD,?_⟩;rw[g0,bq];refine((p2.same s2).snoc (show Rep G2 (shT M es i) (.ref r)from ⟨r,ys,rfl,AY,dB⟩)).tk (Tk.lst cT) (aoc (M:=M) hs λd hd=>?_);rcases bw.mp hd with h|h
  .obtain⟨j,_,rfl⟩:=au.mp h;exact⟨j,rfl⟩
  .exact⟨i,ay.mp h⟩
 .obtain⟨p1,p2⟩:=p;have lz:=p2.length;rw[ae,fu]at lz;have sG:=s1.trans p1;refine zq1.nx _ _ λzD1 zq1=>?_;refine(qe _ rfl D ⟨rfl,⟨_,SqL.of aW⟩,λD3 jI=>?_⟩);refine pk (xs:=zs) (λi us G3=>Same G G3/\RepAll G3 (plS M es i) us) ⟨Same.fresh _ jI,rfl⟩ (λi us G3 p=>SqL.of<|p.1 _ _ aW) (λi x us G3 hx hi Ai AV p=>?_) λus G3 Ai AV p=>?_
  .obtain⟨p3,p4⟩:=p;obtain⟨d,hd,rd⟩:=p2.at hx;rw[ax,jd<|by lia]at hd;cases hd;have rd0:=id rd;obtain⟨c',E6,rfl,fH,Is⟩:=rd;refine⟨Agree.set (Agree.refl _) rfl,?_⟩;refine(oe _ rfl _ rfl a c' M<|nc E6 _ ⟨rfl,hf.same<|sG.trans p3,p3 _ _ fH,Is.same p3,SgN.shs hs,by rw[ae];exact h6,λG4 s4=>?_⟩);refine⟨_,rfl,?_⟩;have qN:=s4 _ _ Ai;have im:rf (plS M es<|i+1)=true:=aoc (M:=M) hs λd hd=>by
    obtain⟨j,_,e,_⟩:=plS_mem.mp hd;exact⟨j,e⟩
   refine x6 (λh1=>?_) λh1=>?_
   .refine⟨_,rfl,?_⟩;refine qk (by lia) qN AV ⟨(p3.trans s4).new jI,?_⟩;have e1:plS M es (i+1)=plS M es i++[shT M es i]:=by rw[aj0,if_pos (show mX M (shT M es i)=true from h1)]
    rw[e1]at im;rw[e1];exact((p4.same s4).snoc (Rep.same (p3.trans s4) rd0)).tk (Tk.lst qN) im
   .refine⟨_,qN,by lia,p3.trans s4,?_⟩;rw[aj0,if_neg (show ¬mX M (shT M es i)=true from h1),df];exact p4.same s4
  .obtain⟨p3,p4⟩:=p;rw[lz,CK]at p4;refine zq1.rt _ _ ?_;exact q D3 us G3 (sG.trans p3) Ai p4
def Ec{es:Z U}(h:Zr es):∀d∈es,SgN d:=λd hd=>by obtain⟨r,c,k,rfl,hk⟩:=h.pre.sg d hd;have h1:ut (es.map ul)<=r:=yp _<|jz (f:=ul) hd;have h2:ut (es.map uq)<=c:=yp _<|jz (f:=uq) hd;rw[h.r0]at h1;rw[h.c0]at h2;refine(oa r.toNat c.toNat k ⟨?_,hk⟩);rw[Int.toNat_of_nonneg h1,Int.toNat_of_nonneg h2]
noncomputable def unT:U->Z U
 | .tuple es=>es
 | _=>[]
noncomputable def plN(M:Mat)(n:Nat)(d:U):Z U:=(plS M (unT d)<|M.h*M.w).map λs=>.tuple [s,.int (n:Nat)]
noncomputable def plK(M:Mat)(n:Nat)(k:Z U×Nat):Z U:=(FS k.1 k.2).flatMap (plN M n)
noncomputable def raw(M:Mat)(ks:Z (Z U×Nat)):Nat->Z U
 | 0=>[]
 | i+1=>raw M ks i++(match ks[i]? with|some k=>plK M i k|none=>[])
def aqk{M:Mat}{ks:Z (Z U×Nat)}{i:Nat}{k:Z U×Nat}(h:ks[i]?=some k):raw M ks (i+1)=raw M ks i++plK M i k:=by show raw M ks i++_=_;rw[h]
def PlD(d:U):Prop:=∃es n,d=.tuple [.tuple es,.int n]/\(∀e∈es,SgN e)/\0<es.length/\es.length<=6
def mem_plN{M:Mat}{n:Nat}{es:Z U}{d:U}:d∈plN M n (.tuple es)↔∃i,i<M.h*M.w/\d=.tuple [shT M es i,.int (n:Nat)]/\mX M (shT M es i)=true:=by
 unfold plN;rw[au];constructor
 .rintro⟨s,hs,rfl⟩;obtain⟨i,hi,rfl,h⟩:=plS_mem.mp hs;exact⟨i,hi,rfl,h⟩
 .rintro⟨i,hi,rfl,h⟩;exact⟨_,plS_mem.mpr ⟨i,hi,rfl,h⟩,rfl⟩
theorem mem_raw{M:Mat}{ks:Z (Z U×Nat)}{d:U}:∀{j:Nat},d∈raw M ks j↔∃(n:Nat)(k:Z U×Nat),n<j/\ks[n]?=some k/\d∈plK M n k
 | 0=>⟨λh=>(by cases h),λ⟨n,_,h,_⟩=>absurd h<|Nat.not_lt_zero _⟩
 | j+1=>by
  show d∈raw M ks j++_↔_;rw[bw,mem_raw];constructor
  .rintro(⟨n,k,h1,h2,h3⟩|h)
   .exact(nc n k ⟨by lia,h2,h3⟩)
   .cases e:ks[j]? with
    | none=>rw[e]at h;cases h
    | some k=>rw[e]at h;exact(nc j k ⟨by lia,e,h⟩)
  .rintro⟨n,k,h1,h2,h3⟩;by_cases hn:n<j
   .exact .inl<|nc n k ⟨hn,h2,h3⟩
   .have:n=j:=by lia
    subst this;rw[h2];exact .inr h3
def Hi{M:Mat}{n:Nat}{k:Z U×Nat}(hz:Zr k.1){d:U}:d∈plK M n k↔∃es i,.tuple es∈FS k.1 k.2/\i<M.h*M.w/\d=.tuple [shT M es i,.int (n:Nat)]/\mX M (shT M es i)=true:=by
 unfold plK;rw[List.mem_flatMap];constructor
 .rintro⟨x,hx,h⟩;obtain⟨es,rfl,_⟩:=Aw hz x hx;obtain⟨i,h1,h2,h3⟩:=mem_plN.mp h;exact(nc es i ⟨hx,h1,h2,h3⟩)
 .rintro⟨es,i,h1,h2,h3,h4⟩;exact⟨_,h1,mem_plN.mpr ⟨i,h2,h3,h4⟩⟩
def KsZ(ks:Z (Z U×Nat)):Prop:=∀k∈ks,Zr k.1/\k.2<=8
def asn(es:Z U)(a b:Int):(es.map<|sh1 a b).length=es.length:=ae _
def LL{M:Mat}{n:Nat}{k:Z U×Nat}(hz:Zr k.1){d:U}(h:d∈plK M n k):PlD d:=by obtain⟨es,i,h1,h2,rfl,h4⟩:=(Hi hz).mp h;obtain⟨qP,e,uA⟩:=Aw hz _ h1;cases e;exact(nc _ _ ⟨rfl,SgN.shs<|Ec uA,by rw[asn];exact uA.pre.pos,by rw[asn];exact uA.pre.six⟩)
def GL{M:Mat}{ks:Z (Z U×Nat)}(h:KsZ ks){j:Nat}:∀d∈raw M ks j,PlD d:=λd hd=>by obtain⟨n,k,_,h2,h3⟩:=mem_raw.mp hd;exact LL (h k<|ai h2).1 h3
def G0{ns:Z Int}(h:0<ns.length)(m:Int):ut (ns.map λx=>x+m)=ut ns+m:=by
 refine(yn ?_ λa ha=>?_).symm
 .exact au.mpr ⟨ut ns,wf h,rfl⟩
 .obtain⟨x,hx,rfl⟩:=au.mp ha;have:=yp x hx;lia
def as9{es:Z U}(h:Spots es)(a b:Int):(es.map<|sh1 a b).map ul=(es.map ul).map λx=>x+a:=by rw[bf,bf];exact pi h λr c z=>rfl
def atn{es:Z U}(h:Spots es)(a b:Int):(es.map<|sh1 a b).map uq=(es.map uq).map λx=>x+b:=by rw[bf,bf];exact pi h λr c z=>rfl
theorem Mx{α β:Type}{f:α->List β}{m:Nat}:∀{l:List α},(∀x∈l,(f x).length<=m)->(l.flatMap f).length<=l.length*m
 | [],_=>by simp
 | x::l,h=>by have h1:=h x aq;have h2:=Mx λy hy=>h y<|ar _ hy;rw[List.flatMap_cons,bo,bx,Nat.add_mul,Nat.one_mul];lia
def LU{M:Mat}(o:OkM SgP M)(n:Nat)(d:U):(plN M n d).length<=64:=by have:=au4 M (unT d)<|M.h*M.w;have jV:M.h*M.w<=64:=Nat.mul_le_mul o.h8 o.w8;unfold plN;rw[ae];lia
def auy{M:Mat}(o:OkM SgP M)(n:Nat){k:Z U×Nat}(h8:k.2<=8):(plK M n k).length<=512:=by have h1:=Mx (f:=plN M n) (m:=64) (l:=FS k.1 k.2) λx _=>LU o n x;have h2:=Lu (es:=k.1) (n:=k.2);have:(plK M n k).length<=(FS k.1 k.2).length*64:=h1;lia
theorem Mk{M:Mat}(o:OkM SgP M){ks:Z (Z U×Nat)}(h:KsZ ks):∀j,(raw M ks j).length<=j*512
 | 0=>by simp[raw]
 | j+1=>by
  have h1:=Mk o h j;show(raw M ks j++_).length<=_;rw[bo];cases e:ks[j]? with
  | none=>simp only[jl];lia
  | some k=>have:=auy o j (h k<|ai e).2;simp only;lia
def SgN.sg{d:U}(h:SgN d):SgD d:=by obtain⟨r,c,k,e,hk⟩:=h;exact(oa r c k ⟨e,hk⟩)
def PlD.key{d:U}(h:PlD d):tR d/\L3.TT d:=by obtain⟨es,n,rfl,hs,_⟩:=h;have hd:=v0<|SgN.spots hs;refine⟨⟨?_,⟨_,rfl⟩,by simp[gk,bj];lia⟩,(nc _ _ rfl)⟩;show(u9 es&&(true&&true))=true;rw[GM λd hd=>(hs d hd).sg];rfl
def PlD.cmp{ds:Z U}(h:∀d∈ds,PlD d):CmpA ds:=
 ⟨λx hx y hy=>by obtain⟨es,n,rfl,hs,_⟩:=h x hx;obtain⟨fs,m,rfl,fK,_⟩:=h y hy;exact⟨Hj (λd hd=>(hs d hd).sg) λd hd=>(fK d hd).sg,trivial,trivial⟩,λx hx=>(h x hx).key.1.1⟩
theorem PlD.imm:∀{ds:Z U},(∀d∈ds,PlD d)->rf ds=true
 | [],_=>rfl
 | d::ds,a=>by obtain⟨es,n,rfl,hs,_⟩:=a d aq;have h1:=Spots.imm<|SgN.spots hs;have h2:=PlD.imm λx hx=>a x<|ar _ hx;show(_root_.L3.imm (.tuple [.tuple es,.int n])&&rf ds)=true;rw[h2,Bool.and_true];show(rf es&&true)=true;rw[h1];rfl
theorem PlD.depth{d:U}(h:PlD d):d.depth<=4:=by obtain⟨es,n,rfl,hs,_⟩:=h;have hd:=v0<|SgN.spots hs;simp[gk,bj];lia
theorem PlD.depths:∀{ds:Z U},(∀d∈ds,PlD d)->bj ds<=4
 | [],_=>by simp[bj]
 | d::ds,h=>by have h1:=(h d aq).depth;have h2:=PlD.depths λe he=>h e<|ar _ he;show max d.depth (bj ds)<=4;lia
noncomputable def PL(M:Mat)(ks:Z (Z U×Nat)):Z U:=ub<|ddp<|raw M ks ks.length
def PL_mem{M:Mat}{ks:Z (Z U×Nat)}{d:U}:d∈PL M ks↔d∈raw M ks ks.length:=(pw _).mem_iff.trans ddp_mem
def KindsK.z{H:Hp}{kvs:Z V}{ks:Z (Z U×Nat)}(h:KindsK H kvs ks):KsZ ks:=λk hk=>by
 obtain⟨i,hi,rfl⟩:=List.getElem_of_mem hk;have fM:i<kvs.length:=by rw[h.1];exact hi
 obtain⟨b,nm,m,fr,xs,_,_,_,_,hz,hm⟩:=h.2 i _ _ (af fM)<|af hi;exact⟨hz,by rcases hm with h|h|h<;>lia⟩
def af7{α β:Type}{f:α->List β}{l:List α}{i:Nat}{x:α}(h:l[i]?=some x):(l.take<|i+1).flatMap f=(l.take i).flatMap f++f x:=by rw[List.take_add_one,h,List.flatMap_append];simp
def avr{s:Z U}{n:Nat}{i:Nat}{x:U}(h:s[i]?=some x):(s.take<|i+1).map (λs=>PyData.tuple [s,.int (n:Nat)])=(s.take i).map (λs=>PyData.tuple [s,.int (n:Nat)])++[.tuple [x,.int (n:Nat)]]:=nh _ h
def azg:Sp:=λvs H Q _=>∃(p:aG)(M:Mat) (ks:Z (Z U×Nat)),vs=[.ref p]/\PzK H p M ks/\∀(l:aG)(ys:Z V)(H':Hp),Same H H'->H l=none->H' l=some (.lst ys)->RepAll H' (PL M ks) ys->Q (.ref l) H'
def scPlc:np ["puzzle","found","number","kind","form"] Z2 (m9 Nc):={}
def azw(B:∀x∈uk,mg x=none)(nR:Fn P w K mg base "forms_of" 3 ZX LO)(NN:Fn P w K mg base "places" 5 ["floor","form"] azu)(F:Fun K "placements" "placements" Nc f fd):rn P w K mg base CX0 6 f fd Z2 azg:=by
 refine F.o 5 scPlc λH Q E hr hu hN h=>?_;obtain⟨p,M,ks,rfl,⟨fl,kr,e,kvs,hp,kJ,pL,fW,h6⟩,q⟩:=h;have dC:=kJ.2;have tI:=fW.z;refine⟨_,(nv (psM 1<|qc mq)
  (nv (pfo (pET<|my (pix nr (pv 0) mr) mq) (pf (n:=2) rfl<|mw (B5 (i:=2) scPlc.nd rfl<|Or.inr rfl)<|mw (pgM 3) ow)<|nw<|pfo (oy<|pfn nR<|my (pix nr (pv 3) mr)<|my (pix nr (pv 3) mr) mq) (pgM 4)<|nw<|uo<|pW dh PySem.F.slot_list_extend PySem.F.type_list_extend af5 (pv 1)<|my (pcm ["spots","number"] [none,some 2] (oy<|pfn NN<|my (pix nr (pv 0) mr)<|my (pv 4) mq) (λ_=>(pgC 0)) (λ_=>ou) λ_=>(og<|my (pv 0)<|my (pv 1) mq)) mq)
  (nw<|nu<|MU rfl hu rfl (B "sorted"<|by decide) rfl (B "set"<|by decide)<|my (pv 1) mq))),?_⟩
 refine λzD1 zq1=>?_;refine⟨sZ0,λD hD=>?_⟩;refine aE hD λH1 s1 d1=>?_;have d1:H1 D=some (.lst ([]:Z V)):=d1;refine zq1.nx _ _ λzD1 zq1=>?_;refine(mz _ rfl p _ _ _ ⟨rfl,rfl,SqT.of<|s1 _ _ hp,m7 (j:=1) rfl,kr,rfl,⟨_,SqT.of<|s1 _ _ pL⟩,?_⟩);refine LP (xs:=kvs) (λi σ' G=>∃(y2 y3 y4:Option V)(ys:Z V),σ'=[some (.ref p),some<|.ref D,y2,y3,y4]/\Same H G/\G D=some (.lst ys)/\RepAll G (raw M ks i) ys) ?_ (λi σ' G h=>?_) (λi x pr σ' G hx zA h=>?_) λσ' G h=>?_
 .exact(ny _ _ _ ([]) ⟨rfl,s1,d1,rfl⟩)
 .obtain⟨_,_,_,_,_,sg,_⟩:=h;exact SqT.of<|sg _ _ pL
 .obtain⟨y2,y3,y4,ys,rfl,sg,hG,rep⟩:=h;have hi:i<kvs.length:=(ak.mp hx).1;have zR:i<ks.length:=by rw[<-fW.1];exact hi
  have A6:=af zR;have hk:=(fW.2 i x _ hx A6).same sg;rw[aqk A6];generalize ks[i]=kk at *;obtain⟨es,n⟩:=kk;obtain⟨b,nm,m,fr,xs,rfl,hb,nH,eX,hz,hm⟩:=hk;have eX:RepAll G es xs:=eX;have hz:Zr es:=hz;have hm:wK m n:=hm;have hn:n<=8:=by rcases hm with h|h|h<;>lia
  refine(nj pr _ rfl (SqT.of m8) rfl _ _ rfl _ ⟨_,rfl,rfl,λzD2 zq2=>?_⟩);refine aE zA λG2 s2 _=>?_;refine(mz _ rfl b _ _ _ ⟨rfl,rfl,SqT.of<|s2 _ _ hb,m7 (j:=4) rfl,(mz _ rfl b _ _ _ ⟨rfl,rfl,SqT.of<|s2 _ _ hb,m7 (j:=3) rfl,?_⟩)⟩);refine(ni fr m n xs es ⟨rfl,s2 _ _ nH,eX.same s2,hz,hm,λl fs ds G3 s3 zO hl nd mem gR=>?_⟩);rw[KU hz nd mem]at gR;have hF:=Aw (n:=n) hz;have hFl:=Lu (es:=es) (n:=n);have lf:=gR.length;have gY:=(sg.trans s2).trans s3;refine⟨l,rfl,⟨_,SqL.of hl⟩,?_⟩;have Im:∀j,(raw M ks i++((FS es n).take j).flatMap (plN M i)).length<=4000:=λj=>by
   have h1:=Mk dC tI i;have h2:=Mx (f:=plN M i) (m:=64) (l:=(FS es n).take j) λx _=>LU dC i x;have h3:((FS es n).take j).length<=8:=by rw[cg];lia
   rw[bo];lia
  have rpl:∀j,∀d∈raw M ks i++((FS es n).take j).flatMap (plN M i),PlD d:=λj d hd=>by
   rcases bw.mp hd with h|h
   .exact GL tI d h
   .obtain⟨x,hx,h⟩:=List.mem_flatMap.mp h;exact LL (k:=(es,n)) (M:=M) (n:=i) hz<|List.mem_flatMap.mpr ⟨x,cx hx,h⟩
  refine su (xs:=fs) (λj σ' G4=>∃(y4:Option V)(zs:Z V),σ'=[some (.ref p),some<|.ref D,some<|.int (i:Nat),some<|.ref b,y4]/\Ex [D] G3 G4/\Same H G4/\G4 D=some (.lst zs)/\RepAll G4 (raw M ks i++((FS es n).take j).flatMap (plN M i)) zs) ?_ (λj σ' G4 hj h=>?_) (λj x σ' G4 hx h=>?_) λσ' G4 h=>?_
  .refine(nc _ ys ⟨rfl,Ex.refl _ _,gY,s3 _ _<|s2 _ _ hG,?_⟩);rw[List.take_zero,List.flatMap_nil,df];exact rep.same<|s2.trans s3
  .obtain⟨_,_,_,ex,_⟩:=h;exact SqL.of<|ex.at (λz=>by rw[z,s2 _ _ hG]at zO;cases zO) hl
  .obtain⟨y4,zs,rfl,ex,dQ,FW,nA⟩:=h;have hj:j<fs.length:=(ak.mp hx).1;obtain⟨d,hd,rd⟩:=gR.at hx;obtain⟨Ak,rfl,AT⟩:=hF d<|ai hd;obtain⟨fb,HX,rfl,Bb,dB⟩:=rd;have nfb:fb≠D:=λz=>by rw[z,s3 _ _<|s2 _ _ hG]at Bb;cases Bb
   have tk4:Tk G3 G4:=ex.one<|s3 _ _<|s2 _ _ hG;refine λzD3 iS=>?_;refine⟨_,rfl,.inl ⟨rfl,_,SqL.of FW⟩,?_⟩;refine(mz _ rfl p _ _ _ ⟨rfl,rfl,SqT.of<|dQ _ _ hp,m7 (j:=0) rfl,(mz _ rfl fl fb M HX ⟨Ak,rfl,kJ.same dQ,ex.at nfb Bb,dB.tk tk4<|Spots.imm AT.pre.spots,Ec AT,AT.pre.six,λD5 ys5 G5 s5 DR rK=>?_⟩)⟩);have l5:=rK.length;have hp64:=LU dC i<|.tuple Ak;have lpn:(plN M i<|.tuple Ak).length=(plS M Ak<|M.h*M.w).length:=ae _;refine⟨D5,rfl,⟨_,SqL.of DR⟩,λD6 mW=>?_⟩;refine pk (xs:=ys5) (λt us G6=>Same G5 G6/\RepAll G6 (((plS M Ak<|M.h*M.w).take t).map λs=>PyData.tuple [s,.int (i:Nat)]) us) ⟨Same.fresh _ mW,rfl⟩ (λt us G6 p=>SqL.of<|p.1 _ _ DR) (λt x us G6 hx6 hi6 Ag CT p=>?_) λus G6 Ag CT p=>?_
   .obtain⟨p1,p2⟩:=p;obtain⟨d6,hd6,rd6⟩:=rK.at hx6;refine⟨Agree.set (Agree.refl _) rfl,?_⟩;dsimp only[x5];refine x9 ?_;refine(qe _ rfl _ ⟨rfl,sZ2,λt7 IX=>?_⟩);refine aE IX λG7 s7 c7=>?_;have tJ:=s7 _ _ Ag;refine qk (by lia) tJ CT ⟨(p1.trans s7).new mW,?_⟩;rw[avr hd6];have rx:Rep G7 (.tuple [d6,.int (i:Nat)]) (.ref t7):=(qg t7 _ rfl c7 _ _ rfl (Rep.same (p1.trans s7) rd6) _ ⟨_,rfl,rfl,rfl⟩);refine((p2.same s7).snoc rx).tk (Tk.lst tJ) (PlD.imm λdx hdx=>?_);have hm6:dx∈plN M i (.tuple Ak):=by
     rcases bw.mp hdx with h|h
     .obtain⟨y,hy,rfl⟩:=au.mp h;exact jz<|cx hy
     .rw[ay.mp h];exact jz<|ai hd6
    exact LL (k:=(es,n)) (M:=M) (n:=i) hz<|List.mem_flatMap.mpr ⟨_,ai hd,hm6⟩
   .obtain⟨p1,p2⟩:=p;rw[a8 (by lia)]at p2;have p2:RepAll G6 (plN M i<|.tuple Ak) us:=p2;have sB:=s5.trans p1;have hG6:=sB _ _ FW;have lz:=nA.length;have lu:=p2.length;have:=Im j;refine(ny D D6 zs us ⟨rfl,rfl,hG6,Ag,gx<|by rw[cD];lia,iS.nx _ _ ?_⟩);refine(nc _ (zs++us) ⟨rfl,(ex.trans<|Ex.of_same (W:=[D]) sB).trans (Ex.upd<|by simp),(dQ.trans sB).new hD,m8,?_⟩);rw[af7 hd,<-br];have ap:=(nA.same sB).append p2;refine ap.tk (Tk.lst hG6)<|PlD.imm ?_;have:=rpl<|j+1;rw[af7 hd,<-br]at this;exact this
  .obtain⟨y4,zs,rfl,ex,dQ,FW,nA⟩:=h;rw[a8 (by lia)]at nA;refine zq2.nx _ _ ?_;exact(ny _ _ _ zs ⟨rfl,dQ,FW,nA⟩)
 .obtain⟨y2,y3,y4,ys,rfl,sg,hG,rep⟩:=h;have yZ:=Mk dC tI ks.length;have hl:=fW.1;rw[hl]at rep;refine zq1.nx _ _ λzD1 zq1=>?_;refine(qu _ rfl D ys (raw M ks ks.length) ⟨rfl,hG,rep,λd hd=>(GL tI d hd).key,PlD.cmp<|GL tI,by lia,λds l zs nd mem eV rz=>?_⟩);have e:ub ds=PL M ks:=adf ((List.perm_ext_iff_of_nodup nd<|GO _).mpr λd=>(mem d).trans ddp_mem.symm)<|(PlD.cmp<|GL (M:=M) tI (j:=ks.length)).sub λd hd=>(mem d).mp hd;rw[e]at rz;refine zq1.rt _ _ ?_;exact q l zs _ (sg.trans<|Same.fresh _ eV) (sg.free eV) m8 rz
noncomputable def clD(r c:Int):U:=.tuple [.int r,.int c]
def awy{H:Hp}{r c:Int}{v:V}(h:Rep H (clD r c) v):∃a,v=.ref a/\H a=some (.tup [.int r,.int c]):=by obtain⟨a,xs,rfl,ha,z1,t1,rfl,h1,z2,t2,rfl,h2,rfl⟩:=h;cases (show z1=_ from h1);cases (show z2=_ from h2);exact⟨a,rfl,ha⟩
noncomputable def chV(k:Nat):V:=.str ⟨#[k]⟩
noncomputable def Av(k:Nat):Bool:=k==46||big k
noncomputable def oix(M:Mat)(k:Nat):Z Nat:=(cj k).filter λi=>!(M.g (i/M.w) (i % M.w)==35)
noncomputable def cdx(M:Mat)(i:Nat):U:=clD ((i/M.w:Nat):Int) ((i % M.w:Nat):Int)
def arv(M:Mat)(k:Nat):oix M (k+1)=oix M k++if (!(M.g (k/M.w) (k % M.w)==35))=true then[k]else[]:=by
 unfold oix;rw[g0,List.filter_append]
 congr 1
 cases h:!(M.g (k/M.w) (k % M.w)==35)<;>simp[h]
def av5(M:Mat)(l:Z Nat):rf (l.map<|cdx M)=true:=uj λd hd=>by obtain⟨i,_,rfl⟩:=au.mp hd;rfl
def axg:np ZY Z8 (m9 K3):={}
def awo(gV:GS mg "COVERED" ".")(E5:M3 P w K mg base)(AE:Fn P w K mg base "is_sign" 1 Z5 K0)(F:Fun K "must_be" "must_be" K3 f fd):rn P w K mg base CX0 2 f fd Z8 (xV λk=>.bl<|Av k):=by
 refine F.o 1 axg λH Q E hr hu hN h=>?_;obtain⟨a,b,M,r,c,rfl,hf,hb,q⟩:=h;dsimp only at q;refine⟨_,(nv (psM 2<|pfn E5<|my (pv 0)<|my (pv 1) mq)
  (nw<|nu<|a1n (vp Gx (pv 2) (Hr gV rfl)<|qy _)<|Ax<|pfn AE<|my (pv 2) mq)),?_⟩
 refine λzD1 zq1=>?_;refine(oe _ rfl _ rfl a b M<|nc r c ⟨rfl,hf,hb,zq1.nx _ _ λzD1 zq1=>?_⟩);generalize gA M r c=g at *;have KI:bm "." = ⟨#[46]⟩:=by decide +kernel
 have ed:decide (V.str ⟨#[g]⟩=V.str (bm "."))=(g==46):=B4 _ 46 KI;refine(qi _ rfl rfl _ ⟨rfl,?_⟩);rw[ed];refine x6 (λh=>?_) λh=>?_
 .unfold Av at q;rw[h,Bool.true_or]at q;refine zq1.rt _ _ ?_;exact q
 .have h':(g==46)=false:=Bool.eq_false_iff.mpr h;unfold Av at q;rw[h',Bool.false_or]at q;exact(qe _ rfl _ ⟨rfl,zq1.rt _ _<|q⟩)
def MY:Sp:=λvs H Q _=>∃(a:aG)(M:Mat),vs=[.ref a]/\FlM H a M/\∀(D:aG)(ys:Z V)(H':Hp),Same H H'->H D=none->H' D=some (.lst ys)->RepAll H' ((oix M<|M.h*M.w).map (cdx M)) ys->Q (.ref D) H'
def a30:np Z7 Z7 (m9 sOc):={}
def a1v(gC:GS mg "CLOSED" "#")(fX:Fn P w K mg base "floor_spots" 1 Z7 EE)(F:Fun K "open_cells" "open_cells" sOc f fd):rn P w K mg base CX0 2 f fd Z7 MY:=by
 refine F.o 1 a30 λH Q E hr hu hN h=>?_;obtain⟨a,M,rfl,hf,q⟩:=h;have dC:=hf.2;have CS:=dC.w1;have JF:M.h*M.w<=64:=Nat.mul_le_mul dC.h8 dC.w8;refine⟨_,(nw<|nu<|pcm ZH [none,none,none] (oy<|pfn fX<|my (pv 0) mq) (λ_=>(pf (n:=3) rfl<|mw (pgC 0)<|mw (pgC 1)<|mw (pgC 2) ow)) (λ_=>Mg<|qm Ej (pv 2) (Hr gC rfl)<|qy _) λ_=>(og<|my (pv 0)<|my (pv 1) mq)),?_⟩;refine λzD1 zq1=>?_;refine(oq _ rfl a (ri M) ⟨rfl,FlM.fl hf,λD1 HR H1 s1 jJ iA kC=>?_⟩);rw[ql,vt M M.h<|ao _]at kC;have CK:=kC.length;rw[ae,fu]at CK;refine⟨D1,rfl,⟨_,SqL.of jJ⟩,λD hD=>?_⟩;refine pk (xs:=HR) (λi zs G=>Same H1 G/\RepAll G ((oix M i).map (cdx M)) zs) ⟨Same.fresh _ hD,rfl⟩ (λi zs G p=>SqL.of<|p.1 _ _ jJ) (λi x zs G hx hi aW cX p=>?_) λzs G aW cX p=>?_
 .obtain⟨p1,p2⟩:=p;obtain⟨d,hd,rd⟩:=kC.at hx;rw[ax,jd<|by lia]at hd;cases hd;obtain⟨b',rfl,eW,_⟩:=sv rd;refine(nj b' _ rfl (SqT.of<|p1 _ _ eW) rfl _ _ rfl _<|oq _ rfl _ _ ⟨rfl,rfl,?_⟩);refine⟨Agree.set (Agree.set (Agree.set (Agree.refl _) rfl) rfl) rfl,?_⟩;have e35:bm "#" = ⟨#[35]⟩:=by decide +kernel
  have ed:(!decide (V.str ⟨#[M.g (i/M.w) (i % M.w)]⟩=V.str (bm "#"))) = !(M.g (i/M.w) (i % M.w)==35):=by rw[B4 _ 35 e35]
  refine(qi _ rfl rfl _ ⟨rfl,?_⟩);rw[ed];have os:=arv M i;refine x6 (λh=>?_) λh=>?_
  .rw[if_pos h]at os;refine(qe _ rfl _ ⟨rfl,sZ2,λt ht=>?_⟩);generalize g1:upd G t _=G2 at *;obtain⟨s2,e2⟩:=al ht g1;have cT:=s2 _ _ aW;refine qk (by lia) cT cX ⟨(p1.trans s2).new hD,?_⟩;rw[os,bq];refine((p2.same s2).snoc (vf e2)).tk (Tk.lst cT) ?_;have:=av5 M<|oix M i++[i];rw[bq]at this;exact this
  .rw[if_neg h,df]at os;exact⟨_,aW,Nat.le_succ_of_le cX,p1,by rw[os];exact p2⟩
 .obtain⟨p1,p2⟩:=p;rw[CK]at p2;refine zq1.rt _ _ ?_;exact q D zs G (s1.trans p1) (s1.free hD) aW p2
def azj:Sp:=λvs H Q _=>∃(e:aG)(a b:Nat),vs=[.ref e,chV a,chV b]/\a<128/\b<128/\H e=some (.tup [])/\∀(H':Hp),Same H H'->Q (.bl false) H'
def a09:np ZN ZN (m9 Ng):={}
theorem aw2(B:∀x∈uk,mg x=none)(F:Fun K "is_kept_apart" "is_kept_apart" Ng f fd):rn P w K mg base CX0 1 f fd ZN azj:=by
 refine F.o 0 a09 λH Q E hr hu hN h=>?_;obtain⟨e,a,b,rfl,ha,hb,he,q⟩:=h;refine⟨_,(nw<|nu<|vp (as8 hu) (pCT ph j4<|my (pCB agr k6<|my (qc<|my (pv 1)<|my (pv 2) mq) mq) mq) (pv 0) rfl),?_⟩;refine λzD1 zq1=>?_;refine(qe _ rfl _ ⟨rfl,sZ2,λl hl=>?_⟩);generalize g1:upd H l _=H1 at *;obtain⟨s1,e1⟩:=al hl g1;clear g1;refine(oa l _ ([.str ⟨#[a]⟩,.str ⟨#[b]⟩]) ⟨rfl,e1,(sn _ _ rfl ⟨rfl,ok1 ha⟩ _ _ ⟨rfl,⟨rfl,ok1 hb⟩,rfl⟩),(λd hd=>?_),λl2 ys es eV pe so re=>?_⟩)
 .simp only[a6,f9,or_false]at hd;rcases hd with rfl|rfl<;>exact⟨_,rfl⟩
 generalize g1:upd H1 l2 _=H2 at *;obtain⟨s2,e2⟩:=al eV g1;clear g1;refine(nc l2 ys ⟨rfl,.inl ⟨SqL.of e2,λt ht=>?_⟩⟩);generalize g1:upd H2 t _=H3 at *;obtain⟨s3,e3⟩:=al ht g1;clear g1;have qE:=(s1.trans s2).trans s3;exact⟨_,rfl,.tuple es,e,[],[],(nc t ys ⟨rfl,e3,re.same s3⟩),rfl,.inr<|qE _ _ he,rfl,(by
  have h:∀d∈es,d.depth=0:=λd hd=>by have:=pe.mem_iff.mp hd;simp only[a6,f9,or_false]at this;rcases this with rfl|rfl<;>simp[gk]
  have g:∀es:Z U,(∀d∈es,d.depth=0)->bj es=0:=λes=>by
   induction es with
   | nil=>intro _;simp[bj]
   | cons d es ih=>intro h;simp[bj,h d aq,ih λx hx=>h x<|ar _ hx]
  simp[gk,g es h]),zq1.rt _ _<|q H3 qE⟩
noncomputable def kM(r c:Nat):Z Key:=[Sum.inl ((r:Nat):Int),Sum.inl ((c:Nat):Int)]
def ar0{r c r' c':Nat}(h:kM r c=kM r' c'):r=r'/\c=c':=by
 unfold kM at h;injection h with h1 h2
 injection h2 with h2 _
 exact⟨Int.ofNat.inj<|Sum.inl.inj h1,Int.ofNat.inj<|Sum.inl.inj h2⟩
def az0{es:Z U}{n:Nat}(h:0<n):0<(FS es n).length:=by have:xk es 0∈FS es n:=(pw _).mem_iff.mpr (ddp_mem.mpr<|mem_forms.mpr ⟨0,h,rfl⟩);exact List.length_pos_of_mem this
def a0j{es:Z U}(h:Zr es)(a b:Int):((es.map<|sh1 a b).map cl).Nodup:=by
 have e:(es.map<|sh1 a b).map cl=(es.map cl).map λp=>(p.1+a,p.2+b):=by rw[bf,bf];exact pi h.pre.spots λr c z=>rfl
 rw[e];refine fh.mpr<|List.Pairwise.imp ?_ h.pre.nd;intro p q zB e;injection e with e1 e2
 exact zB<|Prod.ext (by lia)<|by lia
def ayc{G:Hp}{tk:aG}{kvs dG:Z (Z Key×V)}(h:G tk=some (.dT kvs)):Tk G (upd G tk<|.dT dG):=λc zs hc=>by rw[p8 (λe=>by rw[e,h]at hc;cases hc)];exact hc
noncomputable abbrev Sg:=Nat×Nat×Nat
noncomputable def sgD(s:Sg):U:=.tuple [.int (s.1:Nat),.int (s.2.1:Nat),.str ⟨#[s.2.2]⟩]
noncomputable abbrev Pc:=Z Sg×Nat
noncomputable def pcD(p:Pc):U:=.tuple [.tuple (p.1.map sgD),.int (p.2:Nat)]
def PcO(p:Pc):Prop:=(∀s∈p.1,Ltr s.2.2)/\0<p.1.length/\p.1.length<=6
def LyO(nk:Nat)(L:Z Pc):Prop:=∀p∈L,PcO p/\p.2<nk
def ase{ss:Z Sg}(h:∀s∈ss,Ltr s.2.2):∀d∈ss.map sgD,SgN d:=λd hd=>by obtain⟨s,hs,rfl⟩:=au.mp hd;exact(oa _ _ _ ⟨rfl,h s hs⟩)
def PcO.pl{p:Pc}(h:PcO p):PlD (pcD p):=(nc _ _ ⟨rfl,ase h.1,by rw[ae];exact h.2.1,by rw[ae];exact h.2.2⟩)
theorem LyO.pl{nk:Nat}{L:Z Pc}(h:LyO nk L):∀d∈L.map pcD,PlD d:=λd hd=>by obtain⟨p,hp,rfl⟩:=au.mp hd;exact(h p hp).1.pl
theorem awz:∀{es:Z U},(∀e∈es,SgN e)->∃ss:Z Sg,es=ss.map sgD/\∀s∈ss,Ltr s.2.2
 | [],_=>⟨[],rfl,λs hs=>by cases hs⟩
 | e::es,h=>by
  obtain⟨r,c,k,rfl,hk⟩:=h e aq;obtain⟨ss,rfl,hs⟩:=awz λx hx=>h x<|ar _ hx;refine⟨(r,c,k)::ss,rfl,λs fK=>?_⟩;rcases a6.mp fK with rfl|h'
  .exact hk
  .exact hs s h'
def Lie(M:Mat)(ks:Z (Z U×Nat))(p:Pc):Prop:=pcD p∈raw M ks ks.length
noncomputable abbrev Up(es:Z U):Prop:=es.Pairwise λx y=>ltR y x=false
def Hm{es:Z U}(h:Spots es)(u:Up es):sy es=es:=
 MJ (oz es) (tz h) u λx hx y hy h1 h2=>by have ro:∀d∈es,∃r c z,d=.tuple [.int r,.int c,.str z]:=h;obtain⟨r,c,z,rfl⟩:=ro x<|(oz es).mem_iff.mp hx;obtain⟨r',c',z',rfl⟩:=ro y<|(oz es).mem_iff.mp hy;have:=GE (ks:=[true,true,false]) (nc _ _ ⟨rfl,(nc _ _ ⟨rfl,(nc _ _ ⟨rfl,rfl⟩)⟩)⟩) (nc _ _ ⟨rfl,(nc _ _ ⟨rfl,(nc _ _ ⟨rfl,rfl⟩)⟩)⟩) h2 h1;exact congrArg PyData.tuple this
def asu{es:Z U}(h:Spots es){a b:Int}{f:U->U}(hf:∀(r c:Int)(z:Str),f (.tuple [.int r,.int c,.str z])=.tuple [.int (r+a),.int<|c+b,.str z])(u:Up es):Up (es.map f):=by
 refine fh.mpr<|eu (λ{x y} hx hy hxy=>?_) u;obtain⟨r,c,z,rfl⟩:=h x hx;obtain⟨r',c',z',rfl⟩:=h y hy;rw[hf,hf];have h1:rq [.int r',.int c',.str z'] [.int r,.int c,.str z]=false:=hxy;show rq [.int (r'+a),.int<|c'+b,.str z'] [.int (r+a),.int<|c+b,.str z]=false;rw[zf,zf]at h1⊢;by_cases e1:r'=r
 .rw[if_pos e1]at h1;rw[if_pos (by lia)];by_cases e2:c'=c
  .rw[if_pos e2]at h1;rw[if_pos (by lia)];exact h1
  .rw[if_neg e2]at h1;rw[if_neg (by lia)];have:=of_decide_eq_false h1;exact decide_eq_false<|by lia
 .rw[if_neg e1]at h1;rw[if_neg (by lia)];have:=of_decide_eq_false h1;exact decide_eq_false<|by lia
def atx{M:Mat}{ss:Z Sg}(hL:∀s∈ss,Ltr s.2.2)(h:mX M (.tuple<|ss.map sgD)=true):∀s∈ss,s.1<M.h/\s.2.1<M.w/\M.g s.1 s.2.1≠35:=λs hs=>by
 have h1:=js.mp h (sgD s)<|jz hs;have h2:okS (gA M s.1 s.2.1) s.2.2=true:=by rw[<-ED];exact h1
 have h35:∀k<91,65<=k->okS 35 k=false:=by decide +kernel
 have hk:=hL s hs;have Fo:gA M s.1 s.2.1≠35:=λe=>by rw[e,h35 _ (by have:=hk.2;lia) hk.1]at h2;cases h2
 unfold gA at Fo;split at Fo
 .rename_i h;exact⟨h.1,h.2,Fo⟩
 .exact absurd rfl Fo
def aot{M:Mat}{ks:Z (Z U×Nat)}{p:Pc}{k:Z U×Nat}(hP:PcO p)(hk:ks[p.2]?=some k)(hK:KsZ ks) :
  Lie M ks p↔sy (p.1.map sgD)=p.1.map sgD/\mX M (.tuple<|p.1.map sgD)=true/\.tuple (sy<|oj<|p.1.map sgD)∈FS k.1 k.2:=by
 have iP:Spots (p.1.map sgD):=SgN.spots<|ase hP.1;have hz:=(hK k<|ai hk).1;constructor
 .intro h;obtain⟨n,k',hn,cP,hm⟩:=mem_raw.mp h;obtain⟨es,i,h1,h2,h3,h4⟩:=(Hi (hK k'<|ai cP).1).mp hm;unfold pcD at h3;injection h3 with h3
  injection h3 with e1 h3
  injection h3 with e2 _
  injection e2 with e2
  have en:p.2=n:=by lia
  subst en;rw[hk]at cP;cases cP;obtain⟨t,ht⟩:=aso _ h1;unfold xk at ht;injection ht with ht
  have rZ:=wg hz t;have hsz:Spots (sj t k.1):=λd hd=>rZ.pre.spots d<|(oz _).mem_iff.mpr hd;have AU:Up es:=by rw[<-ht];exact tz hsz
  rw[ht]at rZ;unfold shT at e1;injection e1 with e1
  rw[e1]at iP⊢;have u2:=asu rZ.pre.spots (a:=((i/M.w:Nat):Int)) (b:=((i % M.w:Nat):Int)) (f:=sh1 ((i/M.w:Nat):Int) ((i % M.w:Nat):Int)) (λr c z=>rfl) AU;refine⟨Hm iP u2,h4,?_⟩;have e3:oj (es.map<|sh1 ((i/M.w:Nat):Int) ((i % M.w:Nat):Int))=es:=by
   unfold oj;rw[as9 rZ.pre.spots,atn rZ.pre.spots,G0<|by rw[ae];exact rZ.pre.pos,G0<|by rw[ae];exact rZ.pre.pos,rZ.r0,rZ.c0,ky,ky,bf]
   conv=>rhs;rw[<-List.map_id es]
   exact pi rZ.pre.spots λr c z=>by show PyData.tuple [.int (r+_-_),.int<|c+_-_,.str z]=.tuple [.int r,.int c,.str z];rw[Int.add_sub_cancel,Int.add_sub_cancel]
  rw[e3,Hm rZ.pre.spots AU];exact h1
 .rintro⟨h1,h2,h3⟩;have AU:Up (p.1.map sgD):=by rw[<-h1];exact tz iP
  have C6:=atx hP.1 h2;have hl:0<(p.1.map sgD).length:=by rw[ae];exact hP.2.1
  have m1:=wf (ns:=(p.1.map sgD).map ul) (by rw[ae];exact hl);have m2:=wf (ns:=(p.1.map sgD).map uq) (by rw[ae];exact hl);have esh:sy (oj<|p.1.map sgD)=oj (p.1.map sgD):=by have u2:=asu iP (a:=-ut ((p.1.map sgD).map ul)) (b:=-ut ((p.1.map sgD).map uq)) (f:=yD (ut<|(p.1.map sgD).map ul)<|ut<|(p.1.map sgD).map uq) (λr c z=>rfl) AU;refine Hm (λd hd=>?_) u2;obtain⟨x,hx,rfl⟩:=au.mp hd;obtain⟨r,c,z,rfl⟩:=iP x hx;exact(oa _ _ _ rfl)
  rw[esh]at h3;unfold oj at h3;generalize ut ((p.1.map sgD).map ul)=a at *;generalize ut ((p.1.map sgD).map uq)=b at *;rw[bf]at m1 m2;obtain⟨s1,FD,e1⟩:=au.mp m1;obtain⟨s2,FC,e2⟩:=au.mp m2;have e1:((s1.1:Nat):Int)=a:=e1;have e2:((s2.2.1:Nat):Int)=b:=e2;have b1:=(C6 s1 FD).1;have b2:=(C6 s2 FC).2.1;subst e1;subst e2;have hn:=(ak.mp hk).1;have e4:shT M ((p.1.map sgD).map (yD (s1.1:Nat) (s2.2.1:Nat))) (s1.1*M.w+s2.2.1)=.tuple (p.1.map sgD):=by
   unfold shT;rw[yC b2,yG b2,bf]
   conv=>rhs;rw[<-List.map_id (p.1.map sgD)]
   refine congrArg PyData.tuple<|pi iP λr c z=>?_;show PyData.tuple [.int (r-_+_),.int<|c-_+_,.str z]=.tuple [.int r,.int c,.str z];rw[Int.sub_add_cancel,Int.sub_add_cancel]
  refine mem_raw.mpr<|nc p.2 k ⟨hn,hk,(Hi hz).mpr (nc _ (s1.1*M.w+s2.2.1) ⟨h3,?_,?_,?_⟩)⟩
  .have:(s1.1+1)*M.w<=M.h*M.w:=Nat.mul_le_mul_right _ b1;rw[Nat.add_mul,Nat.one_mul]at this;lia
  .rw[e4];rfl
  .rw[e4];exact h2
noncomputable def ce(s:Sg):Nat×Nat:=(s.1,s.2.1)
noncomputable def cls(L:Z Pc):Z (Nat×Nat):=L.flatMap λp=>p.1.map ce
noncomputable def xq(q:Nat×Nat):U:=clD (q.1:Nat) (q.2:Nat)
noncomputable def cq(w i:Nat):Nat×Nat:=(i/w,i % w)
def ay6{a b:Nat×Nat}:bn (xq a) (xq b)=decide (a=b):=by
 rw[ji,decide_eq_true_iff];constructor
 .intro h;have:=BW _ _ rfl rfl h;unfold xq clD at this;injection this with this
  injection this with e1 this
  injection this with e2 _
  injection e1 with e1
  injection e2 with e2
  exact Prod.ext (by lia)<|by lia
 .rintro rfl;exact kc _ rfl
def PzE(H:Hp)(p:aG)(M:Mat)(ks:Z (Z U×Nat)):Prop:=∃fl kr e kvs,H p=some (.tup [.ref fl,.ref kr,.ref e])/\FlM H fl M/\H kr=some (.tup kvs)/\KindsK H kvs ks/\ks.length<=6/\H e=some (.tup [])
theorem PzE.same{H H':Hp}{p:aG}{M:Mat}{ks:Z (Z U×Nat)}(h:PzE H p M ks)(s:Same H H'):PzE H' p M ks:=by obtain⟨fl,kr,e,kvs,h1,h2,h3,h4,h5,h7⟩:=h;exact(ny fl kr e kvs ⟨s _ _ h1,h2.same s,s _ _ h3,h4.same s,h5,s _ _ h7⟩)
def PzE.pz{H:Hp}{p:aG}{M:Mat}{ks:Z (Z U×Nat)}(h:PzE H p M ks):PzK H p M ks:=by obtain⟨fl,kr,e,kvs,h1,h2,h3,h4,h5,_⟩:=h;exact(ny fl kr e kvs ⟨h1,h2,h3,h4,h5⟩)
def LC(M:Mat):Prop:=∀r c,Av (gA M r c)=false
def agd{l:Z (Nat×Nat)}(h:l.Nodup)(a:Nat×Nat):l.count a<=1:=List.nodup_iff_count.mp h a
def LyH(H:Hp)(l:aG)(L:Z Pc):Prop:=∃xs,H l=some (.lst xs)/\RepAll H (L.map pcD) xs
theorem LyH.same{H H':Hp}{l:aG}{L:Z Pc}(h:LyH H l L)(s:Same H H'):LyH H' l L:=by obtain⟨xs,h1,h2⟩:=h;exact⟨xs,s _ _ h1,h2.same s⟩
def Gz{H:Hp}{L:Z Pc}{xs:Z V}{i:Nat}{x:V}(rep:RepAll H (L.map pcD) xs)(hx:xs[i]?=some x):∃p,L[i]?=some p/\Rep H (pcD p) x:=by obtain⟨d,hd,rd⟩:=rep.at hx;rw[ax]at hd;obtain⟨p,hp,rfl⟩:=ca.mp hd;exact⟨p,hp,rd⟩
def Lk{H:Hp}{p:Pc}{x:V}(h:Rep H (pcD p) x):∃b eb pQ,x=.ref b/\H b=some (.tup [.ref eb,.int (p.2:Nat)])/\H eb=some (.tup pQ)/\RepAll H (p.1.map sgD) pQ:=by obtain⟨b,KP,rfl,hb,x0,r0,rfl,⟨eb,pQ,rfl,zS,eX⟩,x1,r1,rfl,h1,h2⟩:=h;cases (show r1=[]from h2);cases (show x1=_ from h1);exact(oa b eb pQ ⟨rfl,hb,zS,eX⟩)
def Gw{H:Hp}{ss:Z Sg}{xs:Z V}{i:Nat}{x:V}(rep:RepAll H (ss.map sgD) xs)(hx:xs[i]?=some x):∃s b,ss[i]?=some s/\x=.ref b/\H b=some (.tup [.int (s.1:Nat),.int (s.2.1:Nat),.str ⟨#[s.2.2]⟩]):=by obtain⟨d,hd,rd⟩:=rep.at hx;rw[ax]at hd;obtain⟨s,hs,rfl⟩:=ca.mp hd;obtain⟨b,rfl,hb,_⟩:=sv rd;exact(nc s b ⟨hs,rfl,hb⟩)
theorem an8{nk:Nat}:∀{L:Z Pc},LyO nk L->(cls L).length<=L.length*6
 | [],_=>fk _
 | p::L,h=>by have h1:=an8 (L:=L) λq hq=>h q<|ar _ hq;have h2:=(h p aq).1.2.2;show(p.1.map ce++cls L).length<=_;rw[bo,ae,bx];lia
def art{L:Z Pc}{i:Nat}{p:Pc}(h:L[i]?=some p):cls (L.take<|i+1)=cls (L.take i)++p.1.map ce:=by unfold cls;rw[List.take_add_one,h,List.flatMap_append];show _++(p.1.map ce++[])=_;rw[df]
def aoy(l:Z (Nat×Nat)):rf (l.map xq)=true:=uj λd hd=>by obtain⟨i,_,rfl⟩:=au.mp hd;rfl
def avo(l:Z (Nat×Nat))(q:Nat×Nat):(l.map xq).countP (λe=>bn e<|xq q)=l.count q:=by rw[List.countP_map];unfold List.count;refine List.countP_congr λx _=>?_;show bn (xq x) (xq q)=true↔_;rw[ay6];simp
def tN:Sp:=λvs H Q _=>∃(pz l:aG)(M:Mat) (ks:Z (Z U×Nat)) (L:Z Pc),vs=[.ref pz,.ref l]/\PzE H pz M ks/\LyH H l L/\LyO ks.length L/\L.length<=16/\(∀p∈L,Lie M ks p)/\(cls L).Nodup/\LC M/\∀(H':Hp),Same H H'->Q .non H'
def a2e:np ["puzzle","laying","known","k","placement"] Z9 (m9 Np):={}
def axy(B:∀x∈uk,mg x=none)(NM:Fn P w K mg base "placements" 6 Z2 azg)(F:Fun K "strange_piece" "strange_piece" Np f fd):rn P w K mg base CX0 7 f fd Z9 tN:=by
 refine F.o 6 a2e λH Q E hr hu hN h=>?_;obtain⟨pz,l,M,ks,L,rfl,hP,⟨xs,hl,rep⟩,hO,qO,hL,_,_,q⟩:=h;have DM:=hP.pz;have lx:=rep.length;rw[ae]at lx;refine⟨_,(nv (psM 2<|pfn NM<|my (pv 0) mq)
  (nv (pfo (pEL<|my (pv 1) mq) (pf (n:=2) rfl<|mw (pgM 3)<|mw (pgM 4) ow)<|nw<|va (qm (zn hu) (pv 4) (pv 2) rfl) (nw<|nu<|og<|my qh<|my (pv 3) mq) qd)
  (nw<|nu yg))),?_⟩
 refine λzD1 zq1=>?_;refine(qu _ rfl pz M ks ⟨rfl,DM,λD ys H1 s1 hD0 hD Ip=>?_⟩);refine zq1.nx _ _ λzD1 zq1=>?_;refine(qe _ rfl l ⟨rfl,⟨_,SqL.of<|s1 _ _ hl⟩,?_⟩);refine aow (xs:=xs) (λi σ' G=>∃(y3 y4:Option V),σ'=[some (.ref pz),some<|.ref l,some<|.ref D,y3,y4]/\Same H1 G) ?_ (λi σ' G hI=>?_) (λi x pr σ' G hx zA hI=>?_) λσ' G hI=>?_
 .exact(nc _ _ ⟨rfl,Same.refl _⟩)
 .obtain⟨_,_,_,sg⟩:=hI;exact SqL.of<|sg _ _<|s1 _ _ hl
 .obtain⟨y3,y4,rfl,sg⟩:=hI;obtain⟨p,hp,rd⟩:=Gz rep hx;have Bj:=(hO p<|ai hp).1;refine(nj pr _ rfl (SqT.of m8) rfl _ _ rfl _ ⟨_,rfl,rfl,λzD2 zq2=>?_⟩);refine aE zA λG2 s2 e2=>?_;have dW:=sg.trans s2;have uI:=Bj.pl.depth;refine(oe _ rfl _ rfl (pcD p) D ys ⟨PL M ks,Rep.same (s1.trans dW) rd,rfl,.inl<|dW _ _ hD,Ip.same dW,by lia,_,rfl,?_⟩);have ea:((PL M ks).any λe=>bn e<|pcD p)=true:=List.any_eq_true.mpr ⟨pcD p,PL_mem.mpr<|hL p<|ai hp,kc _ rd.lay⟩;exact x6 (λh=>(λzD3 iS=>(absurd h<|by rw[ea];decide))) λ_=>(zq2.nx _ _<|nc _ _ ⟨rfl,dW⟩)
 .obtain⟨y3,y4,rfl,sg⟩:=hI;refine zq1.nx _ _ λzD1 zq1=>?_;refine zq1.rt _ _ ?_;exact q G<|s1.trans sg
def Lg:Sp:=λvs H Q _=>∃(l:aG)(nk:Nat)(L:Z Pc),vs=[.ref l]/\LyH H l L/\LyO nk L/\L.length<=16/\∀(D:aG)(ys:Z V)(H':Hp),Same H H'->H' D=some (.lst ys)->RepAll H' ((cls L).map xq) ys->Q (.ref D) H'
def a2i:np ["laying","cells","spots","number"] Z1 (m9 Nj):={}
def ayh(F:Fun K "covered_cells" "covered_cells" Nj f fd):rn P w K mg base CX0 1 f fd Z1 Lg:=by
 refine F.o 0 a2i λH Q E hr hu hN h=>?_;obtain⟨l,nk,L,rfl,⟨xs,hl,rep⟩,hO,qO,q⟩:=h;have lx:=rep.length;rw[ae]at lx;refine⟨_,(nv (psM 1<|qc mq)
  (nv (pfo (oy<|pv 0) (pf (n:=2) rfl<|mw (pgM 2)<|mw (pgM 3) ow)<|nw<|uo<|pW dh PySem.F.slot_list_extend PySem.F.type_list_extend af5 (pv 1)<|my (pcm ZH [none,none,none] (vc<|pv 2) (λ_=>(pf (n:=3) rfl<|mw (pgC 0)<|mw (pgC 1)<|mw (pgC 2) ow)) (λ_=>ou) λ_=>(og<|my (pv 0)<|my (pv 1) mq)) mq)
  (nw<|nu<|pv 1))),?_⟩
 refine λzD1 zq1=>?_;refine⟨sZ0,λD hD=>?_⟩;refine aE hD λH1 s1 e1=>?_;refine zq1.nx _ _ λzD1 zq1=>?_;refine(qe _ rfl l ⟨rfl,⟨_,SqL.of<|s1 _ _ hl⟩,?_⟩);refine su (xs:=xs) (λi σ' G=>∃(y2 y3:Option V)(ys:Z V),σ'=[some (.ref l),some<|.ref D,y2,y3]/\Same H G/\G D=some (.lst ys)/\RepAll G ((cls<|L.take i).map xq) ys) ?_ (λi σ' G hi hI=>?_) (λi x σ' G hx hI=>?_) λσ' G hI=>?_
 .exact(oa _ _ ([]) ⟨rfl,s1,e1,rfl⟩)
 .obtain⟨_,_,_,_,sg,_⟩:=hI;exact SqL.of<|sg _ _ hl
 .obtain⟨y2,y3,ys,rfl,sg,hG,jA⟩:=hI;obtain⟨p,hp,rd⟩:=Gz rep hx;have hi:i<L.length:=(ak.mp hp).1;have Bj:=(hO p<|ai hp).1;obtain⟨b,eb,pQ,rfl,hb,zS,eX⟩:=Lk<|Rep.same sg rd;have le:=eX.length;rw[ae]at le;have h6:=Bj.2.2;refine(nj b _ rfl (SqT.of hb) rfl _ _ rfl _ ⟨_,rfl,rfl,λzD2 zq2=>?_⟩);refine(qi _ rfl (.inl ⟨rfl,_,SqL.of hG⟩) _ ⟨rfl,eb,rfl,⟨_,SqT.of zS⟩,λD2 cT=>?_⟩);refine wn (xs:=pQ) (λk zs J=>Same G J/\RepAll J ((p.1.take k).map λs=>xq<|ce s) zs) ⟨Same.fresh _ cT,rfl⟩ (λk zs J p=>SqT.of<|p.1 _ _ zS) (λk x zs J hx hk aW cX pp=>?_) λzs J aW cX pp=>?_
  .obtain⟨p1,p2⟩:=pp;obtain⟨s,b',hs,rfl,eW⟩:=Gw eX hx;refine(nj b' _ rfl (SqT.of<|p1 _ _ eW) rfl _ _ rfl _<|oq _ rfl _ _ ⟨rfl,rfl,?_⟩);refine⟨Agree.set (Agree.set (Agree.set (Agree.refl _) rfl) rfl) rfl,?_⟩;dsimp only[x5];refine x9 ?_;refine(qe _ rfl _ ⟨rfl,sZ2,λt ht=>?_⟩);refine aE ht λJ2 s2 e2=>?_;have jI:=s2 _ _ aW;refine qk (by lia) jI cX ⟨(p1.trans s2).new cT,?_⟩;have im:=aoy<|(p.1.take<|k+1).map ce;rw[bf]at im;rw[nh (λs=>xq<|ce s) hs];refine((p2.same s2).snoc (show Rep J2 (xq<|ce s) (.ref t)from vf e2)).tk (Tk.lst jI) ?_;rw[<-nh (λs=>xq<|ce s) hs];exact im
  .obtain⟨p1,p2⟩:=pp;rw[a8 (by lia)]at p2;have hGJ:=p1 _ _ hG;have ly:=jA.length;have lz:=p2.length;rw[ae]at ly lz;have uJ:=an8 (L:=L.take i) (nk:=nk) λq hq=>hO q<|cx hq;rw[cg]at uJ;refine(ny D D2 ys zs ⟨rfl,rfl,hGJ,aW,gx<|o0<|by lia,zq2.nx _ _ ?_⟩);refine(oa _ _ (ys++zs) ⟨rfl,(sg.trans p1).new hD,m8,?_⟩);have im:=aoy<|cls<|L.take<|i+1;rw[art hp,bq,bf]at im⊢;exact((jA.same p1).append p2).tk (Tk.lst hGJ) im
 .obtain⟨y2,y3,ys,rfl,sg,hG,jA⟩:=hI;rw[a8 (by lia)]at jA;refine zq1.nx _ _ λzD1 zq1=>?_;exact⟨_,rfl,zq1.rt _ _<|q D ys G sg hG jA⟩
def aty{M:Mat}{ys:Z V}{H:Hp}{i:Nat}{x:V}{l:Z Nat}(rep:RepAll H (l.map<|cdx M) ys)(hx:ys[i]?=some x):∃k b,l[i]?=some k/\x=.ref b/\H b=some (.tup [.int ((k/M.w:Nat):Int),.int ((k % M.w:Nat):Int)]):=by obtain⟨d,hd,rd⟩:=rep.at hx;rw[ax]at hd;obtain⟨k,hk,rfl⟩:=ca.mp hd;obtain⟨b,rfl,hb⟩:=awy rd;exact(nc k b ⟨hk,rfl,hb⟩)
def a0c:np ["puzzle","laying","cells","cell"] Z9 (m9 M4):={}
def axk(AD:Fn P w K mg base "covered_cells" 1 Z1 Lg)(NO:Fn P w K mg base "open_cells" 2 Z7 MY)(F:Fun K "cell_twice" "cell_twice" M4 f fd):rn P w K mg base CX0 3 f fd Z9 tN:=by
 refine F.o 2 a0c λH Q E hr hu hN h=>?_;obtain⟨pz,l,M,ks,L,rfl,⟨fl,kr,e,kvs,hp,kJ,_⟩,hl,hO,qO,_,hN,_,q⟩:=h;refine⟨_,(nv (psM 2<|pfn AD<|my (pv 1) mq)
  (nv (pfo (oy<|pfn NO<|my (pix nr (pv 0) mr) mq) (pgM 3)<|nw<|va (qm ax9 (pW dh PySem.F.slot_list_count PySem.F.type_list_count (amu hu) (pv 2)<|my (pv 3) mq) mr<|qy _) (nw<|nu<|og<|my qh<|my (pv 3) mq) qd)
  (nw<|nu yg))),?_⟩
 refine λzD1 zq1=>?_;refine(qu _ rfl l ks.length L ⟨rfl,hl,hO,qO,λD ys H1 s1 hD kC=>?_⟩);refine zq1.nx _ _ λzD1 zq1=>?_;refine(mz _ rfl pz _ _ _ ⟨rfl,rfl,SqT.of<|s1 _ _ hp,m7 (j:=0) rfl,(nc fl M ⟨rfl,kJ.same s1,λD2 uW H2 s2 Ks cT dB=>?_⟩)⟩);refine⟨D2,rfl,⟨_,SqL.of cT⟩,?_⟩;refine su (xs:=uW) (λi σ' G=>∃(y3:Option V),σ'=[some (.ref pz),some<|.ref l,some<|.ref D,y3]/\Same H2 G) ?_ (λi σ' G hi hI=>?_) (λi x σ' G hx hI=>?_) λσ' G hI=>?_
 .exact⟨_,rfl,Same.refl _⟩
 .obtain⟨_,_,sg⟩:=hI;exact SqL.of<|sg _ _ cT
 .obtain⟨y3,rfl,sg⟩:=hI;obtain⟨k,b,hk,rfl,hb⟩:=aty dB hx;have dW:=s2.trans sg;have rk:Rep G (xq<|cq M.w k) (.ref b):=vf<|sg _ _ hb;refine λzD2 zq2=>?_;refine(ux _ rfl (.inl ⟨rfl,_,SqL.of<|dW _ _ hD⟩) _ rfl D ys (.ref b)<|nc _ (xq<|cq M.w k) ⟨rfl,rfl,dW _ _ hD,kC.same dW,rk,by simp[xq,clD,gk,bj],?_⟩);rw[avo];refine(nc _ _ ⟨rfl,rfl,_,rfl,?_⟩);have h1:=agd hN<|cq M.w k;refine x6 (λh=>(λzD3 iS=>(absurd (of_decide_eq_true h)<|by lia))) λ_=>(zq2.nx _ _ ⟨_,rfl,sg⟩)
 .obtain⟨y3,rfl,sg⟩:=hI;refine zq1.nx _ _ λzD1 zq1=>?_;refine zq1.rt _ _ ?_;exact q G<|s1.trans<|s2.trans sg
def a12:np ["puzzle","laying","cells","cell"] Z9 (m9 Nt):={}
def aw7(AD:Fn P w K mg base "covered_cells" 1 Z1 Lg)(NO:Fn P w K mg base "open_cells" 2 Z7 MY)(EY:Fn P w K mg base "must_be" 2 Z8 (xV λk=>.bl<|Av k))(F:Fun K "bare_cell" "bare_cell" Nt f fd):rn P w K mg base CX0 3 f fd Z9 tN:=by
 refine F.o 2 a12 λH Q E hr hu hN h=>?_;obtain⟨pz,l,M,ks,L,rfl,⟨fl,kr,e,kvs,hp,kJ,_⟩,hl,hO,qO,_,_,hN,q⟩:=h;refine⟨_,(nv (psM 2<|pfn AD<|my (pv 1) mq)
  (nv (pfo (oy<|pfn NO<|my (pix nr (pv 0) mr) mq) (pgM 3)<|nw<|va (PW.pt<|EA (uh<|pfn EY<|my (pix nr (pv 0) mr)<|my (pv 3) mq)<|EF<|qm (zn hu) (pv 3) (pv 2) rfl) (nw<|nu<|og<|my qh<|my (pv 3) mq) qd)
  (nw<|nu yg))),?_⟩
 refine λzD1 zq1=>?_;refine(qu _ rfl l ks.length L ⟨rfl,hl,hO,qO,λD ys H1 s1 hD kC=>?_⟩);refine zq1.nx _ _ λzD1 zq1=>?_;refine(mz _ rfl pz _ _ _ ⟨rfl,rfl,SqT.of<|s1 _ _ hp,m7 (j:=0) rfl,(nc fl M ⟨rfl,kJ.same s1,λD2 uW H2 s2 Ks cT dB=>?_⟩)⟩);refine⟨D2,rfl,⟨_,SqL.of cT⟩,?_⟩;refine su (xs:=uW) (λi σ' G=>∃(y3:Option V),σ'=[some (.ref pz),some<|.ref l,some<|.ref D,y3]/\Same H2 G) ?_ (λi σ' G hi hI=>?_) (λi x σ' G hx hI=>?_) λσ' G hI=>?_
 .exact⟨_,rfl,Same.refl _⟩
 .obtain⟨_,_,sg⟩:=hI;exact SqL.of<|sg _ _ cT
 .obtain⟨y3,rfl,sg⟩:=hI;obtain⟨k,b,hk,rfl,hb⟩:=aty dB hx;have dW:=s2.trans sg;refine λzD2 zq2=>?_;refine(mz _ rfl pz _ _ _ ⟨rfl,rfl,SqT.of<|dW _ _<|s1 _ _ hp,m7 (j:=0) rfl,(mz _ rfl fl b M (k/M.w) ⟨k % M.w,rfl,(kJ.same s1).same dW,sg _ _ hb,?_⟩)⟩);dsimp only;rw[hN];exact⟨_,rfl,lA<|lA<|zq2.nx _ _ ⟨_,rfl,sg⟩⟩
 .obtain⟨y3,rfl,sg⟩:=hI;refine zq1.nx _ _ λzD1 zq1=>?_;refine zq1.rt _ _ ?_;exact q G<|s1.trans<|s2.trans sg
def ary{kvs:Z (Z Key×V)}{k:Z Key}{v:V}{kv:Z Key×V}(h:kv∈jN kvs k v):kv∈kvs\/kv=(k,v):=by
 unfold jN at h;split at h
 .obtain⟨x,hx,e⟩:=au.mp h;split at e
  .rename_i hk
   exact .inr<|by rw[<-e,hk]
  .exact .inl<|by rw[<-e];exact hx
 .rcases bw.mp h with h|h
  .exact .inl h
  .exact .inr<|ay.mp h
def av8{kvs:Z (Z Key×V)}{k:Z Key}{v:V}(h:wu kvs k=some v):(k,v)∈kvs:=by unfold wu at h;obtain⟨kv,h1,rfl⟩:=ca.mp h;have h2:kv.1=k:=of_decide_eq_true<|List.find?_some (p:=λkv:Z Key×V=>decide<|kv.1=k) h1;rw[<-h2];exact List.mem_of_find?_eq_some h1
def ap3{kvs:Z (Z Key×V)}(h:∀kv∈kvs,∃q:Nat×Nat,kv.1=kM q.1 q.2):(∀kv∈kvs,KOk kv.1)/\Rows [true] (kvs.map λkv=>kT kv.1):=by
 refine⟨λkv pK x hx z e=>?_,λd hd=>?_⟩
 .obtain⟨q,e1⟩:=h kv pK;subst e;rw[e1]at hx;have:(Sum.inr z:Key)∈[Sum.inl ((q.1:Nat):Int),Sum.inl ((q.2:Nat):Int)]:=hx;simp at this
 .obtain⟨kv,pK,rfl⟩:=au.mp hd;obtain⟨q,e1⟩:=h kv pK;rw[e1];exact(oq ([.int (q.1:Nat),.int (q.2:Nat)]) rfl _ _ ⟨rfl,(nc _ _ ⟨rfl,rfl⟩)⟩)
noncomputable def cvV(v:Nat×Nat):Z V:=[.int (v.1:Nat),.str ⟨#[v.2]⟩]
def CvD(G:Hp)(kvs:Z (Z Key×V))(n:Nat):Prop:=(∀kv∈kvs,∃(q v:Nat×Nat)(t:aG),kv=(kM q.1 q.2,.ref t)/\G t=some (.tup<|cvV v)/\v.2<128)/\kvs.length<=n
def CvD.tk{G G':Hp}{kvs:Z (Z Key×V)}{n m:Nat}(h:CvD G kvs n)(s:Tk G G')(hm:n<=m):CvD G' kvs m:=⟨λkv hk=>by obtain⟨q,v,t,e,h1,h2⟩:=h.1 kv hk;exact(oa q v t ⟨e,s _ _ h1,h2⟩),gw h.2 hm⟩
def CvD.put{G:Hp}{kvs:Z (Z Key×V)}{n:Nat}(h:CvD G kvs n){q v:Nat×Nat}{t:aG}(ht:G t=some (.tup<|cvV v))(hv:v.2<128):CvD G (jN kvs (kM q.1 q.2)<|.ref t) (n+1):=by
 refine⟨λkv pK=>?_,?_⟩
 .rcases ary pK with h'|rfl
  .exact h.1 kv h'
  .exact(oa q v t ⟨rfl,ht,hv⟩)
 .have h1:=wk kvs (kM q.1 q.2)<|V.ref t;have h2:=h.2;lia
def CvD.get{G:Hp}{kvs:Z (Z Key×V)}{n:Nat}(h:CvD G kvs n){k:Z Key}(hs:(wu kvs k).isSome=true):∃t v,wu kvs k=some (.ref t)/\G t=some (.tup<|cvV v)/\v.2<128:=by
 obtain⟨x,hx⟩:=Option.isSome_iff_exists.mp hs;obtain⟨q,v,t,e,h1,h2⟩:=h.1 _<|av8 hx;injection e with _ e
 exact(nc t v ⟨by rw[hx,e],h1,h2⟩)
def au9{kvs:Z (Z Key×V)}{kv:Z Key×V}(h:kv∈kvs):(wu kvs kv.1).isSome=true:=by unfold wu;rw[Option.isSome_map,List.find?_isSome];exact⟨kv,h,decide_eq_true rfl⟩
def ay2:Sp:=λvs H Q _=>∃(l:aG)(nk:Nat)(L:Z Pc),vs=[.ref l]/\LyH H l L/\LyO nk L/\L.length<=16/\∀(D:aG) (kvs:Z (Z Key×V)) (H':Hp),Same H H'->H' D=some (.dT kvs)->CvD H' kvs 96->Q (.ref D) H'
def a2k:np ["laying","covers","k","placement","row","column","sign"] Z1 (m9 Nm):={}
def ax1(B:∀x∈uk,mg x=none)(F:Fun K "covers_by_cell" "covers_by_cell" Nm f fd):rn P w K mg base CX0 1 f fd Z1 ay2:=by
 refine F.o 0 a2k λH Q E hr hu hN h=>?_;obtain⟨l,nk,L,rfl,⟨xs,hl,rep⟩,hO,qO,q⟩:=h;have lx:=rep.length;rw[ae]at lx;refine⟨_,(qj (psM 1 aj8)
  (qj (pfo (pEL<|my (pv 0) mq) (Eo (n:=2) rfl<|mw (pgM 2)<|mw (pgM 3) ow)<|rj<|pfo (LH<|pix wo (pv 3) mr) (Eo (n:=3) rfl<|mw (pgM 4)<|mw (pgM 5)<|mw (pgM 6) ow)<|rj<|L5 (gi (gm (by decide) _) hu) (pv 1) (og<|my (pv 4)<|my (pv 5) mq) (og<|my (pv 2)<|my (pv 6) mq) rfl)
  (rj<|nu<|pv 1))),?_⟩
 intro wh hwh;refine aE hwh λH1 s1 d1=>?_;refine(qe _ rfl l ⟨rfl,⟨_,SqL.of<|s1 _ _ hl⟩,?_⟩);refine aow (xs:=xs) (λi σ' G=>∃(y2 y3 y4 y5 y6:Option V) (kvs:Z (Z Key×V)),σ'=[some (.ref l),some<|.ref wh,y2,y3,y4,y5,y6]/\Same H G/\G wh=some (.dT kvs)/\CvD G kvs (i*6)) ?_ (λi σ' G hI=>?_) (λi x pr σ' G hx zA hI=>?_) λσ' G hI=>?_
 .exact(ni _ _ _ _ _ ⟨[],rfl,s1,d1,(λkv h=>by cases h),ao _⟩)
 .obtain⟨_,_,_,_,_,_,_,sg,_⟩:=hI;exact SqL.of<|sg _ _ hl
 .obtain⟨y2,y3,y4,y5,y6,kvs,rfl,sg,hG,hC⟩:=hI;obtain⟨p,hp,rd⟩:=Gz rep hx;have hi:i<L.length:=(ak.mp hp).1;have Bj:=(hO p<|ai hp).1;have h6:=Bj.2.2;obtain⟨b,eb,pQ,rfl,hb,zS,eX⟩:=Lk rd;have le:=eX.length;rw[ae]at le;refine(nj pr _ rfl (SqT.of m8) rfl _ _ rfl _ ⟨_,rfl,rfl,?_⟩);refine aE zA λG2 s2 _=>?_;have dW:=sg.trans s2;refine(mz _ rfl b _ _ _ ⟨rfl,rfl,SqT.of<|dW _ _ hb,m7 (j:=0) rfl,eb,rfl,⟨_,SqT.of<|dW _ _ zS⟩,?_⟩);refine yt (xs:=pQ) (λk σ' G3=>∃(y4 y5 y6:Option V) (dG:Z (Z Key×V)),σ'=[some (.ref l),some<|.ref wh,some<|.int (i:Nat),some<|.ref b,y4,y5,y6]/\Same H G3/\G3 wh=some (.dT dG)/\CvD G3 dG (i*6+k)) ?_ (λk σ' G3 hk hI=>?_) (λk x σ' G3 hx hI=>?_) λσ' G3 hI=>?_
  .exact(ny _ _ _ kvs ⟨rfl,dW,s2 _ _ hG,hC.tk (λc zs h=>s2 _ _ h)<|ao _⟩)
  .obtain⟨_,_,_,_,_,gY,_⟩:=hI;exact SqT.of<|gY _ _ zS
  .obtain⟨y4,y5,y6,dG,rfl,gY,Kp,Bm⟩:=hI;have hk:k<pQ.length:=(ak.mp hx).1;obtain⟨sp,b',hs,rfl,eW⟩:=Gw eX hx;refine(nj b' _ rfl (SqT.of<|gY _ _ eW) rfl _ _ rfl _<|oq _ rfl _ _ ⟨rfl,rfl,?_⟩);refine(qe _ rfl _ ⟨rfl,sZ2,λt4 ht4=>?_⟩);refine aE ht4 λG4 s4 c4=>?_;refine(sw _ rfl _ rfl _ ⟨rfl,sZ2,λt5 ht5=>?_⟩);refine aE ht5 λG5 s5 c5=>?_;have FV:=s5 _ _<|s4 _ _ Kp;have bB:=Bm.2;refine(nc wh _ ⟨rfl,DPut.t (k:=kM sp.1 sp.2.1) FV c5<|o0<|by lia,?_⟩);have hC5:=Bm.tk (G':=G5) (λc zs h=>s5 _ _<|s4 _ _ h)<|ao _;refine(ny _ _ _ _ ⟨rfl,((gY.trans s4).trans s5).new hwh,m8,?_⟩);exact(hC5.put (q:=ce sp) (v:=(i,sp.2.2)) (s5 _ _ c4)<|by have:=(Bj.1 sp<|ai hs).2;show sp.2.2<128;lia).tk (ayc FV) (ao _)
  .obtain⟨y4,y5,y6,dG,rfl,gY,Kp,Bm⟩:=hI;exact(ni _ _ _ _ _ ⟨dG,rfl,gY,Kp,Bm.tk (λ_ _ h=>h)<|by lia⟩)
 .obtain⟨y2,y3,y4,y5,y6,kvs,rfl,sg,hG,hC⟩:=hI;exact⟨_,rfl,q wh kvs G sg hG<|hC.tk (λ_ _ h=>h)<|by lia⟩
def ayv:Sp:=λvs H Q _=>∃(e c1 c2:aG)(v v':Nat×Nat),vs=[.ref e,.ref c1,.ref c2]/\H e=some (.tup [])/\H c1=some (.tup<|cvV v)/\H c2=some (.tup<|cvV v')/\v.2<128/\v'.2<128/\∀(H':Hp),Same H H'->Q (.bl false) H'
def a04:np ZM ZM (m9 MZ):={}
def azk(NS:Fn P w K mg base "is_kept_apart" 1 ZN azj)(F:Fun K "are_apart" "are_apart" MZ f fd):rn P w K mg base CX0 2 f fd ZM ayv:=by
 refine F.o 1 a04 λH Q E hr hu hN h=>?_;obtain⟨e,c1,c2,v,v',rfl,he,h1,h2,b1,b2,q⟩:=h;refine⟨_,(rj<|nu<|yF (vp Ej (pix wo (pv 1) mr) (pix wo (pv 2) mr)<|qy _)<|Ax<|pfn NS<|my (pv 0)<|my (pix wo (pv 1) mr)<|my (pix wo (pv 2) mr) mq),?_⟩;refine(mz _ rfl c1 _ _ _ ⟨rfl,rfl,SqT.of h1,m7 (j:=0) rfl,(mz _ rfl c2 _ _ _ ⟨rfl,rfl,SqT.of h2,m7 (j:=0) rfl,rfl,_,rfl,?_⟩)⟩);refine x6 (λh=>?_) λh=>?_
 .exact(oe _ rfl _ rfl c1 _ _ ⟨_,rfl,rfl,SqT.of h1,m7 (j:=1) rfl,(mz _ rfl c2 _ _ _ ⟨rfl,rfl,SqT.of h2,m7 (j:=1) rfl,(oa e v.2 v'.2 ⟨rfl,b1,b2,he,λH' s'=>q H' s'⟩)⟩)⟩)
 .exact(Bool.eq_false_iff.mpr h)▸q H (Same.refl _)
def a1z:np ["puzzle","laying","covers","cell","other"] Z9 (m9 Nv):={}
theorem aw8(B:∀x∈uk,mg x=none)(NV:Fn P w K mg base "covers_by_cell" 1 Z1 ay2)(NX:Fn P w K mg base "are_apart" 2 ZM ayv)(F:Fun K "touching_pair" "touching_pair" Nv f fd):rn P w K mg base CX0 3 f fd Z9 tN:=by
 refine F.o 2 a1z λH Q E hr hu hN h=>?_;obtain⟨pz,l,M,ks,L,rfl,⟨fl,kr,e,kvs0,hp,_,_,_,_,he⟩,hl,hO,qO,_,_,_,q⟩:=h;refine⟨_,(nv (psM 2<|pfn NV<|my (pv 1) mq)
  (nv (pfo (oy<|pCB (aek rfl) k6<|my (pv 2) mq) (pgM 3)<|nw<|pfo (vc<|og<|my (og<|my (pix nr (pv 3) mr)<|my (om qz (pix nr (pv 3) mr) mr) mq)<|my (og<|my (om qz (pix nr (pv 3) mr) mr)<|my (pix nr (pv 3) mr) mq) mq) (pgM 4)<|nw<|va (PW.pt<|EA (azc<|atg (gi (gm (by decide) _) hu) (pv 4)<|pv 2)<|EF<|uh<|pfn NX<|my (pix nr (pv 0) mr)<|my (Mh (gi (gm (by decide) _) hu) (pv 2) (pv 3) λ_ _=>rfl)<|my (Mh (gi (gm (by decide) _) hu) (pv 2) (pv 4) λ_ _=>rfl) mq) (nw<|nu<|og<|my qh<|my (pv 3)<|my (pv 4) mq) qd)
  (nw<|nu yg))),?_⟩
 refine λzD1 zq1=>?_;refine(qu _ rfl l ks.length L ⟨rfl,hl,hO,qO,λD kvs H1 s1 hD hC=>?_⟩);have hro:=ap3 (kvs:=kvs) λkv pK=>by obtain⟨c,_,_,e1,_⟩:=hC.1 kv pK;exact⟨c,by rw[e1]⟩
 have oK:=hC.2;refine zq1.nx _ _ λzD1 zq1=>?_;refine(qu _ rfl D kvs ([true]) ⟨rfl,hD,hro.1,hro.2,by lia,λS ls es hS pe up nd re=>?_⟩);generalize g1:upd H1 S _=H2 at *;obtain⟨s2,d2⟩:=al hS g1;clear g1;refine⟨S,rfl,⟨_,SqL.of d2⟩,?_⟩;refine su (xs:=ls) (λt σ' G=>∃(y3 y4:Option V),σ'=[some (.ref pz),some<|.ref l,some<|.ref D,y3,y4]/\Same H2 G) ?_ (λt σ' G ht hI=>?_) (λt x σ' G hx hI=>?_) λσ' G hI=>?_
 .exact(nc _ _ ⟨rfl,Same.refl _⟩)
 .obtain⟨_,_,_,sg⟩:=hI;exact SqL.of<|sg _ _ d2
 .obtain⟨y3,y4,rfl,sg⟩:=hI;obtain⟨d,hd,rd⟩:=re.at hx;obtain⟨kv,pK,rfl⟩:=au.mp<|pe.mem_iff.mp<|ai hd;have JH:=au9 pK;obtain⟨c,_,_,rfl,_⟩:=hC.1 kv pK;obtain⟨cb,rfl,zV⟩:=awy (r:=(c.1:Nat)) (c:=(c.2:Nat)) rd;have zV:=sg _ _ zV;have sgA:=s2.trans sg;refine λzD2 zq2=>?_;refine(mz _ rfl cb _ _ _ ⟨rfl,rfl,SqT.of zV,m7 (j:=0) rfl,(mz _ rfl cb _ _ _ ⟨rfl,rfl,SqT.of zV,m7 (j:=1) rfl,(nc _ _ ⟨rfl,rfl,sZ2,λp5 Jm=>?_⟩)⟩)⟩);generalize g1:upd G p5 _=G5 at *;obtain⟨s5,c5⟩:=al Jm g1;clear g1;refine(mz _ rfl cb _ _ _ ⟨rfl,rfl,SqT.of<|s5 _ _ zV,m7 (j:=0) rfl,(nc _ _ ⟨rfl,rfl,(mz _ rfl cb _ _ _ ⟨rfl,rfl,SqT.of<|s5 _ _ zV,m7 (j:=1) rfl,sZ2,λp6 hp6=>?_⟩)⟩)⟩);generalize g1:upd G5 p6 _=G6 at *;obtain⟨s6,c6⟩:=al hp6 g1;clear g1;refine⟨sZ2,λp7 hp7=>?_⟩;generalize g1:upd G6 p7 _=G7 at *;obtain⟨s7,c7⟩:=al hp7 g1;clear g1;have sA:=(s5.trans s6).trans s7;have Ao:∀(b:Nat) x,[V.ref p5,V.ref p6][b]?=some x->∃(ob:aG)(q:Nat×Nat),x=.ref ob/\G7 ob=some (.tup [.int (q.1:Nat),.int (q.2:Nat)]):=λb x hx=>by
   match b,hx with
   | 0,hx=>cases hx;exact(nc p5 (c.1,c.2+1) ⟨rfl,s7 _ _<|s6 _ _ c5⟩)
   | 1,hx=>cases hx;exact(nc p6 (c.1+1,c.2) ⟨rfl,s7 _ _ c6⟩)
  refine⟨p7,rfl,⟨_,SqT.of c7⟩,?_⟩;refine yt (xs:=[V.ref p5,V.ref p6]) (λb σ' G8=>∃(y4:Option V),σ'=[some (.ref pz),some<|.ref l,some<|.ref D,some<|.ref cb,y4]/\Same G7 G8) ?_ (λb σ' G8 hb hI=>?_) (λb x σ' G8 hx hI=>?_) λσ' G8 hI=>?_
  .exact⟨_,rfl,Same.refl _⟩
  .obtain⟨_,_,s8⟩:=hI;exact SqT.of<|s8 _ _ c7
  .obtain⟨y4,rfl,s8⟩:=hI;obtain⟨ob,q',rfl,Jq⟩:=Ao b x hx;have sB:=sgA.trans<|sA.trans s8;have Jq:=s8 _ _ Jq;have JY:=(sA.trans s8) _ _ zV;have wC:=sB _ _ hD;have hC8:=hC.tk (G':=G8) (λc zs h=>sB _ _ h)<|ao _;have kob:G8 ob=some (.tup<|(kM q'.1 q'.2).map kV):=Jq;have kcb:G8 cb=some (.tup<|(kM c.1 c.2).map kV):=JY;refine λzD3 iS=>?_;refine(rg _ rfl _ rfl D _ rfl (DGet.t wC kob) _ ⟨rfl,?_⟩);refine x6 (λh1=>?_) λh1=>lA<|iS.nx _ _ ⟨_,rfl,s8⟩;obtain⟨t1,v',CW,e1,b1⟩:=hC8.get h1;obtain⟨t2,v,sI,e2,b2⟩:=hC8.get JH;refine(mz _ rfl pz _ _ _ ⟨rfl,rfl,SqT.of<|sB _ _<|s1 _ _ hp,m7 (j:=2) rfl,(rg _ rfl _ rfl D _ rfl (by rw[<-sI];exact DGet.t wC kcb) _ ⟨rfl,(oq _ rfl D _ ⟨rfl,by rw[<-CW];exact DGet.t wC kob,?_⟩)⟩)⟩);exact(ni e t2 t1 v v' ⟨rfl,sB _ _<|s1 _ _ he,e2,e1,b2,b1,λH9 s9=>⟨_,rfl,lA<|iS.nx _ _ ⟨_,rfl,s8.trans s9⟩⟩⟩)
  .obtain⟨y4,rfl,s8⟩:=hI;refine zq2.nx _ _ ?_;exact(nc _ _ ⟨rfl,sg.trans<|sA.trans s8⟩)
 .obtain⟨y3,y4,rfl,sg⟩:=hI;refine zq1.nx _ _ λzD1 zq1=>?_;refine zq1.rt _ _ ?_;exact q G<|s1.trans<|s2.trans sg
def scWrc:np ["puzzle","laying","numbers","k","kind","laid"] Z9 (m9 M8):={}
def azn(B:∀x∈uk,mg x=none)(F:Fun K "wrong_count" "wrong_count" M8 f fd):rn P w K mg base CX0 1 f fd Z9 tN:=by
 refine F.o 0 scWrc λH Q E hr hu hN h=>?_;obtain⟨pz,l,M,ks,L,rfl,⟨fl,kr,e,kvs,hp,_,pL,fW,_⟩,⟨xs,hl,rep⟩,hO,qO,_,_,_,q⟩:=h;have lx:=rep.length;rw[ae]at lx;refine⟨_,(nv (psC 2 ["placement"] [none] scWrc.nd (oy<|pv 1) (λ_=>(pgC 0)) (λ_=>ou) λ_=>(pix nr (pv 0) mr))
  (nv (pfo (pET<|my (pix nr (pv 0) mr) mq) (pf (n:=2) rfl<|mw (pgM 3)<|mw (pgM 4) ow) (nv (psM 5<|pW dh PySem.F.slot_list_count PySem.F.type_list_count aqi (pv 2)<|my (pv 3) mq)
  (nw<|va (PW.pt<|tT (qm BO (pv 5) (pix nr (pv 4) mr)<|qy _)<|yE<|PW.pt<|EA (qm am3 (pix nr (pv 4) mr) yg<|qy _)<|EF<|qm ax9 (pv 5) (pix nr (pv 4) mr)<|qy _) (nw<|nu<|og<|my qh<|my (pv 3) mq) qd)))
  (nw<|nu yg))),?_⟩
 refine λzD1 zq1=>?_;refine(qe _ rfl l ⟨rfl,⟨_,SqL.of hl⟩,λD hD=>?_⟩);refine pk (xs:=xs) (λi zs G=>Same H G/\zs=((L.take i).map λp=>((p.2:Nat):Int)).map V.int) ⟨Same.fresh _ hD,rfl⟩ (λi zs G p=>SqL.of<|p.1 _ _ hl) (λi x zs G hx hi aW cX pp=>?_) λzs G aW cX pp=>?_
 .obtain⟨p1,rfl⟩:=pp;obtain⟨p,hp,rd⟩:=Gz rep hx;obtain⟨b,eb,pQ,rfl,hb,_⟩:=Lk<|Rep.same p1 rd;refine⟨Agree.set (Agree.refl _) rfl,?_⟩;dsimp only[x5];refine x9 ?_;refine(mz _ rfl b _ _ _ ⟨rfl,rfl,SqT.of hb,m7 (j:=1) rfl,?_⟩);exact qk (by lia) aW cX ⟨p1.new hD,by rw[nh _ hp,bq];rfl⟩
 obtain⟨p1,rfl⟩:=pp;rw[a8 (by lia)]at aW;refine zq1.nx _ _ λzD1 zq1=>?_;refine(mz _ rfl pz _ _ _ ⟨rfl,rfl,SqT.of<|p1 _ _ hp,m7 (j:=1) rfl,kr,rfl,⟨_,SqT.of<|p1 _ _ pL⟩,?_⟩);refine LP (xs:=kvs) (λn σ' J=>∃(y3 y4 y5:Option V),σ'=[some (.ref pz),some<|.ref l,some<|.ref D,y3,y4,y5]/\Same G J) ?_ (λn σ' J hI=>?_) (λn x pr σ' J hx zA hI=>?_) λσ' J hI=>?_
 .exact(oa _ _ _ ⟨rfl,Same.refl _⟩)
 .obtain⟨_,_,_,_,sg⟩:=hI;exact SqT.of<|sg _ _<|p1 _ _ pL
 .obtain⟨y3,y4,y5,rfl,sg⟩:=hI;have hn:n<kvs.length:=(ak.mp hx).1;have oK:=fW.1;obtain⟨b,nm,m,fr,fx,rfl,hb,_⟩:=fW.2 n x _ hx (af<|by lia);refine(nj pr _ rfl (SqT.of m8) rfl _ _ rfl _ ⟨_,rfl,rfl,λzD2 zq2=>?_⟩);generalize g1:upd J pr _=J2 at *;obtain⟨s2,_⟩:=al zA g1;clear g1;have dW:=sg.trans s2;have zZ:=(p1.trans dW) _ _ hb;refine(ux _ rfl (.inl ⟨rfl,_,SqL.of<|dW _ _ aW⟩) _ rfl D _ ((n:Nat):Int) ⟨rfl,rfl,SqL.of<|dW _ _ aW,zq2.nx _ _ λzD2 zq2=>?_⟩);refine(oe _ rfl _ rfl b _ _<|zx _ rfl rfl (SqT.of zZ) (m7 (j:=1) rfl) _ _ ⟨rfl,rfl,_,rfl,?_⟩);refine x6 (λh1=>absurd (of_decide_eq_true h1)<|by lia) λh1=>?_;exact(mz _ rfl b _ _ _ ⟨rfl,rfl,SqT.of zZ,m7 (j:=2) rfl,rfl,_,rfl,lA<|lA<|zq2.nx _ _<|oa _ _ _ ⟨rfl,dW⟩⟩)
 .obtain⟨y3,y4,y5,rfl,sg⟩:=hI;refine zq1.nx _ _ λzD1 zq1=>?_;refine zq1.rt _ _ ?_;exact q J<|p1.trans sg
noncomputable def gdD:U:=.tuple [.str "good"]
def Et{x:Str}{k:Nat}{ps:Z Str}{sp:Sp}{a:aG}(F:Fn P w K mg base x k ps sp)(h:mg x=some (.ref a)):∃fd,rn P w K mg base CX0 k a fd ps sp/\lm K (.ref a)=true/\Binds K fd ps []:=by obtain⟨f,fd,F,m,kp,b⟩:=F;rw[h]at m;cases m;exact⟨fd,F,kp,b⟩
def awr:Sp:=λvs H Q _=>∃(pz l:aG)(M:Mat) (ks:Z (Z U×Nat)) (L:Z Pc),vs=[.ref pz,.ref l]/\PzE H pz M ks/\LyH H l L/\LyO ks.length L/\L.length<=16/\(∀p∈L,Lie M ks p)/\(cls L).Nodup/\LC M/\∀(v:V)(H':Hp),Same H H'->Rep H' gdD v->Q v H'
def a00:np ["puzzle","laying","look","found"] Z9 (m9 M9):={}
theorem azi{lk f1 f2 f3 f4 f5:aG}(gL:mg "LOOKS" = some (.ref lk))(hLk:∀H,SqT K H lk [.ref f1,.ref f2,.ref f3,.ref f4,.ref f5])(m1:mg "strange_piece" = some (.ref f1))(m2:mg "cell_twice" = some (.ref f2))(m3:mg "bare_cell" = some (.ref f3))(m4:mg "touching_pair" = some (.ref f4))(m5:mg "wrong_count" = some (.ref f5))
  (NK:Fn P w K mg base "strange_piece" 7 Z9 tN) (ND:Fn P w K mg base "cell_twice" 3 Z9 tN) (NW:Fn P w K mg base "bare_cell" 3 Z9 tN) (NG:Fn P w K mg base "touching_pair" 3 Z9 tN) (NC:Fn P w K mg base "wrong_count" 1 Z9 tN)
  (F:Fun K "judged" "judged" M9 f fd):rn P w K mg base CX0 8 f fd Z9 awr:=by
 refine F.o 7 a00 λH Q E hr hu hN h=>?_;obtain⟨pz,l,M,ks,L,rfl,hP,hl,hO,qO,h5,h6,h7,q⟩:=h;have look:∀(i:Nat)(x:V),[V.ref f1,.ref f2,.ref f3,.ref f4,.ref f5][i]?=some x->∃f k fd,x=V.ref f/\rn P w K mg base CX0 k f fd Z9 tN/\k<=7/\lm K (.ref f)=true/\Binds K fd Z9 []:=λi x hx=>by
  match i,hx with
  | 0,hx=>cases hx;obtain⟨fd,a,b,c⟩:=Et NK m1;exact(oa f1 7 fd ⟨rfl,a,by decide,b,c⟩)
  | 1,hx=>cases hx;obtain⟨fd,a,b,c⟩:=Et ND m2;exact(oa f2 3 fd ⟨rfl,a,by decide,b,c⟩)
  | 2,hx=>cases hx;obtain⟨fd,a,b,c⟩:=Et NW m3;exact(oa f3 3 fd ⟨rfl,a,by decide,b,c⟩)
  | 3,hx=>cases hx;obtain⟨fd,a,b,c⟩:=Et NG m4;exact(oa f4 3 fd ⟨rfl,a,by decide,b,c⟩)
  | 4,hx=>cases hx;obtain⟨fd,a,b,c⟩:=Et NC m5;exact(oa f5 1 fd ⟨rfl,a,by decide,b,c⟩)
 refine⟨_,(nv (pfo (vc<|ajw gL rfl) (pgM 2) (nv (psM 3<|ax4 (i:=2) rfl (by first|exact Or.inl rfl|exact Or.inr<|Or.inl rfl)<|my (pv 0)<|my (pv 1) mq)
  (nw<|va (qm am3 (pv 3) yg<|qy _) (nw<|nu<|pv 3) qd)))
  (nw<|nu<|og<|my qh mq)),?_⟩
 refine λzD1 zq1=>?_;refine⟨lk,rfl,⟨_,hLk H⟩,?_⟩;refine yt (xs:=[.ref f1,.ref f2,.ref f3,.ref f4,.ref f5]) (λi σ' G=>∃(y2 y3:Option V),σ'=[some (.ref pz),some<|.ref l,y2,y3]/\Same H G) ?_ (λi σ' G hi hI=>hLk G) (λi x σ' G hx hI=>?_) λσ' G hI=>?_
 .exact(nc _ _ ⟨rfl,Same.refl _⟩)
 .obtain⟨y2,y3,rfl,sg⟩:=hI;obtain⟨f,k,fd,rfl,F,hk,kp,b⟩:=look i x hx;refine λzD2 zq2=>?_;refine(ni f k fd _ _ ⟨rfl,F,hr.mono hk,kp,b,(qe _ rfl _ ⟨rfl,?_⟩)⟩);exact(ni pz l M ks L ⟨rfl,hP.same sg,hl.same sg,hO,qO,h5,h6,h7,λH' s'=>(zq2.nx _ _ λzD2 zq2=>(qi _ rfl rfl _ ⟨rfl,lA<|zq2.nx _ _<|nc _ _ ⟨rfl,sg.trans s'⟩⟩))⟩)
 .obtain⟨y2,y3,rfl,sg⟩:=hI;refine zq1.nx _ _ λzD1 zq1=>?_;refine⟨sZ1,λt ht=>?_⟩;refine aE ht λG2 s2 e2=>?_;refine zq1.rt _ _ ?_;exact q _ G2 (sg.trans s2)<|sn t _ rfl e2 _ _ ⟨rfl,⟨rfl,by decide +kernel⟩,rfl⟩
noncomputable abbrev Ct:=Int×Int×Nat×Nat
noncomputable def ctD(x:Ct):U:=.tuple [.int x.1,.int x.2.1,.tuple [.int (x.2.2.1:Nat),.int (x.2.2.2:Nat)]]
noncomputable def a2r(m:Int)(x:Ct):Ct:=(x.1,m-x.2.1,x.2.2)
noncomputable def a23(m:Int)(x:Ct):Ct:=(x.2.1,m-x.1,x.2.2)
noncomputable def uR(cs:Z Ct):Z Ct:=cs.map<|a2r<|wt<|cs.map (·.2.1)
noncomputable def Au(cs:Z Ct):Z Ct:=cs.map<|a23<|wt<|cs.map (·.1)
def asw(cs:Z Ct):rf (cs.map ctD)=true:=uj λd hd=>by obtain⟨x,_,rfl⟩:=au.mp hd;rfl
def Lf{H:Hp}{x:Ct}{v:V}(h:Rep H (ctD x) v):∃p q,v=.ref p/\H p=some (.tup [.int x.1,.int x.2.1,.ref q])/\H q=some (.tup [.int (x.2.2.1:Nat),.int (x.2.2.2:Nat)]):=by obtain⟨p,ys,rfl,hp,y1,t1,rfl,h1,y2,t2,rfl,h2,y3,t3,rfl,⟨q,zs,rfl,hq,z1,u1,rfl,k1,z2,u2,rfl,k2,rfl⟩,rfl⟩:=h;cases (show y1=_ from h1);cases (show y2=_ from h2);cases (show z1=_ from k1);cases (show z2=_ from k2);exact(nc p q ⟨rfl,hp,hq⟩)
def asg{H:Hp}{x:Ct}{p q:aG}(hp:H p=some (.tup [.int x.1,.int x.2.1,.ref q]))(hq:H q=some (.tup [.int (x.2.2.1:Nat),.int (x.2.2.2:Nat)])):Rep H (ctD x) (.ref p):=
 (qg p _ rfl hp _ _ rfl rfl _<|qi _ rfl rfl _ ⟨_,rfl,(qg q _ rfl hq _ _ rfl rfl _ ⟨_,rfl,rfl,rfl⟩),rfl⟩)
section
variable{K:aw}{a:aG}{xs:Z V}{cs:Z Ct}{σ:L2.St}{H:Hp}{Q:VK}
def adm{i0:Nat}(j:Int)(pr:Ct->Int)(hj:∀(x:Ct)(q:aG),atI [V.int x.1,.int x.2.1,.ref q] j=some (.int<|pr x))
  (hσ:σ[i0]?=some (some<|.ref a)) (ha:H a=some (.lst xs)) (hr:RepAll H (cs.map ctD) xs) (hl:cs.length<=64)
  (q:∀D H',Same H H'->H' D=some (.lst<|(cs.map pr).map V.int)->Q (.ref D) H') :
  uQ (BS K<|kA i0) [none] (uy 0) x5 (tOp (Ed K) (kA 0)<|tC<|.int j) σ H Q:=by
 have bB:=hr.length;rw[ae]at bB;refine(qe _ hσ a ⟨rfl,⟨_,SqL.of ha⟩,λD hD=>?_⟩);refine pk (xs:=xs) (λi ys H'=>Same H H'/\ys=((cs.take i).map pr).map V.int) ⟨Same.fresh _ hD,rfl⟩ (λi ys H' p=>SqL.of<|p.1 _ _ ha) (λi x ys H' hx hi aW eJ p=>?_) λys H' aW eJ p=>?_
 .obtain⟨p1,rfl⟩:=p;obtain⟨d,hd,rd⟩:=hr.at hx;rw[ax]at hd;obtain⟨c,hc,rfl⟩:=ca.mp hd;obtain⟨p,q',rfl,hp,_⟩:=Lf rd;refine⟨Agree.set (Agree.refl _) rfl,?_⟩;dsimp only[x5];refine x9 ?_;refine(mz _ rfl p _ _ _ ⟨rfl,rfl,SqT.of<|p1 _ _ hp,hj c q',qk (by lia) aW eJ ⟨p1.new hD,?_⟩⟩);rw[nh pr hc,bq];rfl
 .obtain⟨p1,rfl⟩:=p;refine q D H' p1 ?_;rw[aW,a8<|by lia]
def adw{m:Int}{i0 j:Nat}{ta tb:TE}(f:Ct->Ct)(hf:∀x,(f x).2.2=x.2.2)(hσ:σ[i0]?=some (some<|.ref a))(h1:σ[j]?=some (some<|.int m))(ha:H a=some (.lst xs))(hr:RepAll H (cs.map ctD) xs)(hl:cs.length<=64)
  (jC:∀(x:Ct)(q:aG)(H':Hp)(Q':VK),(∀n,H' n=none->Q' (.ref n) (upd H' n<|.tup [.int (f x).1,.int (f x).2.1,.ref q]))->
   Ar (vn ta<|vn tb<|vn (kA 2) xY) [some (.int x.1),some<|.int x.2.1,some<|.ref q,some<|.int m] H' Q')
  (q:∀D ys H',Same H H'->H' D=some (.lst ys)->RepAll H' ((cs.map f).map ctD) ys->Q (.ref D) H') :
  uQ (BS K<|kA i0) [none,none,none,some j] (Ap K 3<|pY (uy 0)<|pY (uy 1)<|pY (uy 2) Eb) x5 (Ar<|vn ta<|vn tb<|vn (kA 2) xY) σ H Q:=by
 have bB:=hr.length;rw[ae]at bB;refine(qe _ hσ a ⟨rfl,⟨_,SqL.of ha⟩,λD hD=>?_⟩);have hp:ua [none,none,none,some j] σ=[none,none,none,some<|.int m]:=by unfold ua;simp[h1]
 refine pk (xs:=xs) (λi ys H'=>Same H H'/\RepAll H' (((cs.take i).map f).map ctD) ys) ⟨Same.fresh _ hD,rfl⟩ (λi ys H' p=>SqL.of<|p.1 _ _ ha) (λi x ys H' hx hi aW eJ p=>?_) λys H' aW eJ p=>?_
 .obtain⟨p1,p2⟩:=p;obtain⟨d,hd,rd⟩:=hr.at hx;rw[ax]at hd;obtain⟨c,hc,rfl⟩:=ca.mp hd;obtain⟨p,q',rfl,C4,hq⟩:=Lf rd;rw[hp];refine(nj p _ rfl (SqT.of<|p1 _ _ C4) rfl _ _ rfl _<|oq _ rfl _ _ ⟨rfl,rfl,?_⟩);refine⟨Agree.set (Agree.set (Agree.set (Agree.refl _) rfl) rfl) rfl,?_⟩;dsimp only[x5];refine x9 ?_;refine jC c q' H' _ λn hn=>?_;refine aE hn λH2 s2 n2=>?_;have cT:=s2 _ _ aW;refine qk (by lia) cT eJ ⟨(p1.trans s2).new hD,?_⟩;rw[nh f hc,bq];refine((p2.same s2).snoc (asg n2<|by rw[hf];exact s2 _ _<|p1 _ _ hq)).tk (Tk.lst cT) ?_;have:=asw<|(cs.take i).map f++[f c];rw[bq]at this;exact this
 .obtain⟨p1,p2⟩:=p;rw[a8 (by lia)]at p2;exact q D ys H' p1 aW p2
end
def GW(g:Z Ct->Z Ct):Sp:=λvs H Q _=>∃(a:aG)(xs:Z V)(cs:Z Ct),vs=[.ref a]/\H a=some (.lst xs)/\RepAll H (cs.map ctD) xs/\0<cs.length/\cs.length<=64/\
 ∀(D:aG)(ys:Z V)(H':Hp),Same H H'->H' D=some (.lst ys)->RepAll H' ((g cs).map ctD) ys->Q (.ref D) H'
def aum(B:∀x∈uk,mg x=none)(F:Fun K "mirrored" "mirrored" Gj f fd):rn P w K mg base CX0 1 f fd Z6 (GW uR):=by
 refine F.o 0 scMir λH Q E hr hu hN h=>?_;obtain⟨a,xs,cs,rfl,ha,fU,dD,jV,q⟩:=h;refine⟨_,(qj (yh (i:=1) scMir.nd rfl (Or.inr rfl)<|Hl rfl rfl (B "max"<|by decide) (my (pcm ["spot"] [none] (B0<|pv 0) (λ_=>(pgC 0)) (λ_=>ou) λ_=>(pix EM (pv 0) mr)) mq)<|Hk mr GJ)
  (rj<|nu<|pcm ZU [none,none,none,some 1] (B0<|pv 0) (λ_=>(Mm (n:=3) rfl<|mw (pgC 0)<|mw (pgC 1)<|mw (pgC 2) ow)) (λ_=>ou) λ_=>(og<|my (pv 0)<|my (om yb (pv 3)<|pv 1)<|my (pv 2) mq))),?_⟩
 refine adm 1 (·.2.1) (λ_ _=>rfl) rfl ha fU jV λD1 H1 s1 jJ=>?_;refine⟨rfl,(nc D1 _ ⟨rfl,jJ,by rw[ae];exact dD,λM1 m1 vG=>?_⟩)⟩;have em:=xg m1 vG;refine adw (a2r M1) (λ_=>rfl) rfl rfl (s1 _ _ ha) (fU.same s1) jV (λx q' H' Q' h=>?_) (λD ys H' s2 aW rep=>q D ys H' (s1.trans s2) aW<|by unfold uR;rw[<-em];exact rep);exact(o6 _ rfl _ rfl _ rfl _ _ ⟨rfl,rfl,_,rfl,sZ3,h⟩)
def ayo(B:∀x∈uk,mg x=none)(F:Fun K "turned_right" "turned_right" sTr f fd):rn P w K mg base CX0 1 f fd Z6 (GW Au):=by
 refine F.o 0 scTr λH Q E hr hu hN h=>?_;obtain⟨a,xs,cs,rfl,ha,fU,dD,jV,q⟩:=h;refine⟨_,(qj (yh (i:=1) scTr.nd rfl (Or.inr rfl)<|Hl rfl rfl (B "max"<|by decide) (my (pcm ["spot"] [none] (B0<|pv 0) (λ_=>(pgC 0)) (λ_=>ou) λ_=>(pix EM (pv 0) mr)) mq)<|Hk mr GJ)
  (rj<|nu<|pcm ZU [none,none,none,some 1] (B0<|pv 0) (λ_=>(Mm (n:=3) rfl<|mw (pgC 0)<|mw (pgC 1)<|mw (pgC 2) ow)) (λ_=>ou) λ_=>(og<|my (pv 1)<|my (om yb (pv 3)<|pv 0)<|my (pv 2) mq))),?_⟩
 refine adm 0 (·.1) (λ_ _=>rfl) rfl ha fU jV λD1 H1 s1 jJ=>?_;refine⟨rfl,(nc D1 _ ⟨rfl,jJ,by rw[ae];exact dD,λM1 m1 vG=>?_⟩)⟩;have em:=xg m1 vG;refine adw (a23 M1) (λ_=>rfl) rfl rfl (s1 _ _ ha) (fU.same s1) jV (λx q' H' Q' h=>?_) (λD ys H' s2 aW rep=>q D ys H' (s1.trans s2) aW<|by unfold Au;rw[<-em];exact rep);exact(o6 _ rfl _ rfl _ rfl _ _ ⟨rfl,rfl,_,rfl,sZ3,h⟩)
noncomputable def yB(i:Nat)(cs:Z Ct):Z Ct:=(cj i).foldl (λa _=>Au a) cs
def MW(i:Nat)(cs:Z Ct):yB (i+1) cs=Au (yB i cs):=by unfold yB;rw[g0,kq];rfl
noncomputable def GG(t:Nat)(cs:Z Ct):Z Ct:=yB (t % 4) (if 4<=t then uR cs else cs)
def atb(cs:Z Ct):∀d∈cs.map ctD,tR d/\TI1 d:=λd hd=>by obtain⟨x,_,rfl⟩:=au.mp hd;exact⟨⟨rfl,⟨_,rfl⟩,by simp[ctD,gk,bj]⟩,(nc _ _ rfl)⟩
def axx(cs:Z Ct):CmpA (cs.map ctD):=⟨λx hx y hy=>by obtain⟨a,_,rfl⟩:=au.mp hx;obtain⟨b,_,rfl⟩:=au.mp hy;exact⟨trivial,trivial,⟨trivial,trivial,trivial⟩,trivial⟩,λx hx=>(atb cs x hx).1.1⟩
def ayx:Sp:=λvs H Q _=>∃(a:aG)(t:Nat)(xs:Z V)(cs:Z Ct),vs=[.ref a,.int (t:Nat)]/\H a=some (.lst xs)/\RepAll H (cs.map ctD) xs/\0<cs.length/\cs.length<=64/\t<8/\
 ∀(r:aG)(ys:Z V)(H':Hp)(es:Z U),Same H H'->es.Perm ((GG t cs).map ctD)->H' r=some (.tup ys)->RepAll H' es ys->Q (.ref r) H'
def aw6(B:∀x∈uk,mg x=none)(AA:Fn P w K mg base "mirrored" 1 Z6 (GW uR))(NF:Fn P w K mg base "turned_right" 1 Z6 (GW Au))(F:Fun K "turned" "turned" sTd f fd):rn P w K mg base CX0 2 f fd Z4 ayx:=by
 refine F.o 1 a2u λH Q E hr hu hN h=>?_;obtain⟨a,t,ys,cs,rfl,ha,yQ,dD,jV,ht,q⟩:=h;refine⟨_,(qj (psM 2<|pCT vg lS<|my (pv 0) mq)
  (qj (va (qm GA (pv 1) mr<|qy _) (rj<|psM 2<|pfn AA<|my (pv 2) mq) qd)
  (qj (pfo (pR1<|my (om qp (pv 1) mr) mq) (pgM 3)<|rj<|psM 2<|pfn NF<|my (pv 2) mq)
  (rj<|nu<|pCT ph j4<|my (pCB (aga hu) k6<|my (pv 2) mq) mq)))),?_⟩
 refine(oq _ rfl a ys ⟨rfl,.inl<|SqL.of ha,λD hD0=>?_⟩);refine aE hD0 λH2 sm aW=>?_;have rep:=yQ.same sm;dsimp only[uy];refine aqm (λσ G=>∃(D:aG)(ys:Z V),σ=[some (.ref a),some<|.int (t:Nat),some<|.ref D,none]/\Same H G/\G D=some (.lst ys)/\RepAll G ((if 4<=t then uR cs else cs).map ctD) ys) (λσ G hR=>?_) (λD' hn _=>?_)
 rotate_left
 .refine(o9 _ rfl _ _ rfl rfl _ ⟨rfl,?_⟩);refine x6 (λh4=>?_) λh4=>?_
  .have mN:4<=t:=by have:(t:Int)>=4:=of_decide_eq_true h4
                    lia
   refine(qu _ rfl D ys cs ⟨rfl,aW,rep,dD,jV,λD ys H3 s3 aW rep=>?_⟩);exact hn _ _<|nc D ys ⟨rfl,sm.trans s3,aW,by rw[if_pos mN];exact rep⟩
  .have mN:¬4<=t:=by have:¬(t:Int)>=4:=by simpa using h4
                     lia
   exact hn _ _<|nc D ys ⟨rfl,sm,aW,by rw[if_neg mN];exact rep⟩
 clear aW rep sm hD0 D H2;obtain⟨D,ys,rfl,sm,aW,rep⟩:=hR;have l1:(if 4<=t then uR cs else cs).length=cs.length:=by
  split
  .unfold uR;rw[ae]
  .rfl
 generalize Bf:(if 4<=t then uR cs else cs)=cs1 at *;refine(sd _ rfl _ _ rfl rfl (by show(0:Int)<4;decide) _ ⟨rfl,by lia,by lia,?_⟩);refine ug (lo:=0) (λi σ' H'=>∃(y3:Option V)(D:aG)(ys:Z V),σ'=[some (.ref a),some<|.int (t:Nat),some<|.ref D,y3]/\Same H H'/\H' D=some (.lst ys)/\RepAll H' ((yB i cs1).map ctD) ys/\(yB i cs1).length=cs.length) ?_ (λi σ' H' hi h=>?_) λσ' H' h=>?_
 .exact(oa _ D ys ⟨rfl,sm,aW,rep,l1⟩)
 .obtain⟨y3,D,ys,rfl,sm,aW,rep,hl⟩:=h;refine(qu _ rfl D ys _ ⟨rfl,aW,rep,by lia,by lia,λD2 uW H3 s3 jI dS=>?_⟩);exact(oa _ D2 uW ⟨rfl,sm.trans s3,jI,by rw[MW];exact dS,by rw[MW];unfold Au;rw[ae,hl]⟩)
 .obtain⟨y3,D,ys,rfl,sm,aW,rep,hl⟩:=h;have et:(((t:Nat):Int) % 4).toNat=t % 4:=by lia
  rw[et]at rep hl;refine(qu _ rfl D ys _ ⟨rfl,aW,rep,atb _,axx _,λl zs es iA pe hz=>?_⟩);refine(nc l zs ⟨rfl,.inl ⟨SqL.of m8,λl2 eV=>?_⟩⟩);have s1:Same H' (upd H' l<|.lst zs):=Same.fresh _ iA;have s2:Same (upd H' l<|.lst zs) (upd (upd H' l<|.lst zs) l2<|.tup zs):=Same.fresh _ eV;refine q l2 zs _ es ((sm.trans s1).trans s2) ?_ m8<|hz.same s2;rw[show GG t cs=yB (t % 4) cs1 by rw[<-Bf];rfl];exact pe
noncomputable def mkC(f:Nat×Nat->Nat×Nat)(q:Nat×Nat):Ct:=(((f q).1:Nat),((f q).2:Nat),q)
def Ni(h w:Nat)(qs:Z (Nat×Nat)):Prop:=∀q,q∈qs↔q.1<h/\q.2<w
def asx{qs:Z (Nat×Nat)}{f:Nat×Nat->Nat}{n:Nat}(h1:∀q∈qs,f q<n)(h2:∃q∈qs,f q=n-1)(hn:0<n):wt (qs.map λq=>((f q:Nat):Int))=((n-1:Nat):Int):=by
 refine(xg (au.mpr ?_) λa ha=>?_).symm
 .obtain⟨q,hq,e⟩:=h2;exact⟨q,hq,by rw[e]⟩
 .obtain⟨q,hq,rfl⟩:=au.mp ha;have:=h1 q hq;lia
def ar1{qs:Z (Nat×Nat)}{h w:Nat}(ha:Ni h w qs)(hh:0<h)(hw:0<w):uR (qs.map<|mkC id)=qs.map (mkC λq=>(q.1,w-1-q.2)):=by
 unfold uR;have e:wt ((qs.map<|mkC id).map (·.2.1))=((w-1:Nat):Int):=by rw[bf];exact asx (f:=λq=>q.2) (λq hq=>((ha q).mp hq).2) ⟨(0,w-1),(ha _).mpr ⟨hh,by show w-1<w;lia⟩,rfl⟩ hw
 rw[e,bf];refine dg λq hq=>?_;have:=((ha q).mp hq).2;show(((q.1:Nat):Int),((w-1:Nat):Int)-((q.2:Nat):Int),q)=(((q.1:Nat):Int),((w-1-q.2:Nat):Int),q);rw[show((w-1:Nat):Int)-((q.2:Nat):Int)=((w-1-q.2:Nat):Int) by lia]
theorem Mr{qs:Z (Nat×Nat)}{M:Mat}(hh:0<M.h)(hw:0<M.w)(g:Nat×Nat->Nat×Nat)(h1:∀q∈qs,(g q).1<M.h/\(g q).2<M.w)(h2:∀r c,r<M.h->c<M.w->∃q∈qs,g q=(r,c)) :
  ∀i,yB i (qs.map<|mkC g)=qs.map (mkC λq=>cp i M (g q).1 (g q).2)
 | 0=>rfl
 | i+1=>by
  rw[MW,Mr hh hw g h1 h2 i];have hd:0<(p9 i M).h/\0<(p9 i M).w:=by obtain⟨a,b,_⟩:=uS (M:=M) hh hw i;lia
  unfold Au;have e:wt ((qs.map<|mkC λq=>cp i M (g q).1 (g q).2).map (·.1))=(((p9 i M).h-1:Nat):Int):=by rw[bf];refine asx (f:=λq=>(cp i M (g q).1 (g q).2).1) (λq hq=>(uS (h1 q hq).1 (h1 q hq).2 i).1) ?_ hd.1;obtain⟨r,c,hr,hc,e⟩:=atw (M:=M) i ((p9 i M).h-1) 0 (by lia) hd.2;obtain⟨q,hq,eq⟩:=h2 r c hr hc;exact⟨q,hq,by rw[eq];show(cp i M r c).1=_;rw[e]⟩
  rw[e,bf];refine dg λq hq=>?_;have:=(uS (h1 q hq).1 (h1 q hq).2 i).1;show((((cp i M (g q).1 (g q).2).2:Nat):Int),(((p9 i M).h-1:Nat):Int)-(((cp i M (g q).1 (g q).2).1:Nat):Int),q)=((((cp i M (g q).1 (g q).2).2:Nat):Int),(((p9 i M).h-1-(cp i M (g q).1 (g q).2).1:Nat):Int),q);rw[show(((p9 i M).h-1:Nat):Int)-(((cp i M (g q).1 (g q).2).1:Nat):Int)=(((p9 i M).h-1-(cp i M (g q).1 (g q).2).1:Nat):Int) by lia]
def aoq{qs:Z (Nat×Nat)}{M:Mat}(ha:Ni M.h M.w qs)(hh:0<M.h)(hw:0<M.w)(t:Nat):GG t (qs.map<|mkC id)=qs.map (mkC λq=>ctp t M q.1 q.2):=by
 unfold GG ctp;by_cases h4:4<=t
 .simp only[if_pos h4];rw[ar1 ha hh hw];refine Mr (M:=pS M) hh hw (λq=>(q.1,M.w-1-q.2)) (λq hq=>?_) (λr c hr hc=>?_) _
  .obtain⟨a,b⟩:=(ha q).mp hq;exact⟨a,by show M.w-1-q.2<M.w;lia⟩
  .have hc:c<M.w:=hc;exact⟨(r,M.w-1-c),(ha _).mpr ⟨hr,by show M.w-1-c<M.w;lia⟩,by show(r,M.w-1-(M.w-1-c))=(r,c);rw[show M.w-1-(M.w-1-c)=c by lia]⟩
 .simp only[if_neg h4];exact Mr hh hw id (λq hq=>(ha q).mp hq) (λr c hr hc=>⟨(r,c),(ha _).mpr ⟨hr,hc⟩,rfl⟩) _
noncomputable def vd(M:Mat):Z (Nat×Nat):=(cj<|M.h*M.w).map (cq M.w)
def aki{M:Mat}(hw:0<M.w):Ni M.h M.w (vd M):=λq=>by
 unfold vd;rw[au];constructor
 .rintro⟨i,hi,rfl⟩;have hi:=gh.mp hi;exact⟨(Nat.div_lt_iff_lt_mul hw).mpr hi,ln _ hw⟩
 .rintro⟨h1,h2⟩;refine⟨q.1*M.w+q.2,gh.mpr ?_,?_⟩
  .have:(q.1+1)*M.w<=M.h*M.w:=Nat.mul_le_mul_right _ h1;rw[Nat.add_mul,Nat.one_mul]at this;lia
  .show((q.1*M.w+q.2)/M.w,(q.1*M.w+q.2) % M.w)=q;rw[yC h2,yG h2]
def an3{M:Mat}(hw:0<M.w):(vd M).Nodup:=by
 unfold vd;refine fh.mpr<|eu (λ{a b} _ _ gW e=>gW ?_) List.nodup_range;have e:(a/M.w,a % M.w)=(b/M.w,b % M.w):=e;injection e with e1 e2
 rw[<-Nat.div_add_mod a M.w,<-Nat.div_add_mod b M.w,e1,e2]
def aop{xs:Z KA}{d:U}(h:d∉xs.map (·.1)):nN xs d=none:=by unfold nN;rw[Option.map_eq_none_iff,List.find?_eq_none];intro x hx e;exact h<|au.mpr ⟨x,hx,of_decide_eq_true e⟩
theorem aqt:∀{ps:Z KA},(ps.map (·.1)).Nodup->qW ps=ps:=by
 intro ps;have:∀(n:Nat),n<=ps.length->(ps.map (·.1)).Nodup->qW (ps.take n)=ps.take n:=by
  intro n;induction n with
  | zero=>intro _ _;rw[List.take_zero];rfl
  | succ n ih=>
   intro hn nd;have hp:=af (l:=ps) (i:=n) (by lia);rw[List.take_add_one,hp,Option.toList_some,akm,ih (by lia) nd];unfold wH;rw[aop λhm=>?_]
   .rfl
   .obtain⟨x,hx,e⟩:=au.mp hm;obtain⟨j,hj⟩:=f8 hx;have zQ:=(ak.mp hj).1;rw[cg]at zQ;rw[List.getElem?_take,if_pos<|by lia]at hj;have h1:(ps.map (·.1))[j]?=(ps.map (·.1))[n]?:=by rw[ax,ax,hj,hp];exact congrArg some e
    have:=(List.getElem?_inj (by rw[ae];lia) nd).mp h1;lia
 intro nd;have h:=this ps.length (ao _) nd
 rwa [List.take_length]at h
theorem at7{xs:Z KA}(nd:(xs.map (·.1)).Nodup){j:Nat}{x:KA}(h:xs[j]?=some x):nN xs x.1=some x.2.2:=by
 unfold nN;induction xs generalizing j with
 | nil=>cases h
 | cons y xs ih=>
  rw[cm,i7]at nd;cases j with
  | zero=>
   cases h;rw[ii,decide_eq_true rfl];rfl
  | succ j=>
   have hx:xs[j]?=some x:=h;rw[ii,decide_eq_false λz:y.1=x.1=>nd.1<|by rw[z];exact au.mpr ⟨x,ai hx,rfl⟩];exact ih nd.2 hx
def aqv{a b:Nat×Nat}(h:xq a=xq b):a=b:=by
 unfold xq clD at h;injection h with h
 injection h with h1 h
 injection h with h2 _
 injection h1 with h1
 injection h2 with h2
 exact Prod.ext (by lia)<|by lia
def TurX(H:Hp)(M:Mat)(t:Nat)(xs:Z KA):Prop:=∀r c,r<M.h->c<M.w->∃p,nN xs (xq (r,c))=some (.ref p)/\H p=some (.tup [.int ((ctp t M r c).1:Nat),.int ((ctp t M r c).2:Nat)])
def TurX.same{H H':Hp}{M:Mat}{t:Nat}{xs:Z KA}(h:TurX H M t xs)(s:Same H H'):TurX H' M t xs:=λr c hr hc=>by obtain⟨p,h1,h2⟩:=h r c hr hc;exact⟨p,h1,s _ _ h2⟩
def asr{H:Hp}{b:aG}{q:Nat×Nat}(h:H b=some (.tup [.int (q.1:Nat),.int (q.2:Nat)])):KRep H (xq q) b:=⟨rfl,by simp[xq,clD,gk,bj],(qg b _ rfl h _ _ rfl rfl _ ⟨_,rfl,rfl,rfl⟩)⟩
def aph:bJ "dict" = some (.type "dict"):=by decide +kernel
def ayw(w:aN):Sp:=λvs H Q _=>∃(a:aG)(M:Mat)(t:Nat),vs=[.ref a,.int (t:Nat)]/\FlM H a M/\t<8/\
 ∀(D:aG)(xs:Z KA)(ep:Nat)(H':Hp),Same H H'->H D=none->DN w H' D xs ep->TurX H' M t xs->Q (.ref D) H'
def a2g:np ["floor","t","spots"] Z0 (m9 Na):={}
def azl(B:∀x∈uk,mg x=none)(fX:Fn P w K mg base "floor_spots" 1 Z7 EE)(Ay:Fn P w K mg base "turned" 2 Z4 ayx)(F:Fun K "turned_cells" "turned_cells" Na f fd):rn P w K mg base CX0 3 f fd Z0 (ayw w):=by
 refine F.o 2 a2g λH Q E hr hu hN h=>?_;obtain⟨a,M,t,rfl,hf,ht,q⟩:=h;have dC:=hf.2;have JF:M.h*M.w<=64:=Nat.mul_le_mul dC.h8 dC.w8;have CL:0<M.h*M.w:=Nat.mul_pos dC.h1 dC.w1;refine⟨_,(nv (psM 2<|pfn Ay<|my (pcm ZH [none,none,none] (oy<|pfn fX<|my (pv 0) mq) (λ_=>(pf (n:=3) rfl<|mw (pgC 0)<|mw (pgC 1)<|mw (pgC 2) ow)) (λ_=>ou) λ_=>(og<|my (pv 0)<|my (pv 1)<|my (og<|my (pv 0)<|my (pv 1) mq) mq))<|my (pv 1) mq)
  (nw<|nu<|ayq (akv rfl<|gi (gm (by decide) _) hu) rfl (B "dict"<|by decide) aph<|my (pcm ["row","column","cell"] [none,none,none] (vc<|pv 2) (λ_=>(pf (n:=3) rfl<|mw (pgC 0)<|mw (pgC 1)<|mw (pgC 2) ow)) (λ_=>ou) λ_=>(og<|my (pv 2)<|my (og<|my (pv 0)<|my (pv 1) mq) mq)) mq)),?_⟩
 have bY:=aki (M:=M) dC.w1;refine λzD1 zq1=>?_;refine(oq _ rfl a (ri M) ⟨rfl,FlM.fl hf,λD2 ys H2 s2 cT eV dB=>?_⟩);rw[ql,vt M M.h<|ao _]at dB;have lr:=dB.length;rw[ae,fu]at lr;refine⟨D2,rfl,⟨_,SqL.of cT⟩,λL hL=>?_⟩;refine pk (xs:=ys) (λi zs G=>Same H2 G/\RepAll G ((((vd M).take i).map (mkC id)).map ctD) zs) ⟨Same.fresh _ hL,rfl⟩ (λi zs G p=>SqL.of<|p.1 _ _ cT) (λi x zs G hx hi aW cX p=>?_) λzs G aW cX p=>?_
 .obtain⟨p1,p2⟩:=p;obtain⟨d,hd,rd⟩:=dB.at hx;rw[ax,jd<|by lia]at hd;cases hd;obtain⟨b,rfl,hb,_⟩:=sv rd;have hci:(vd M)[i]?=some (cq M.w i):=by unfold vd;rw[ax,jd<|by lia];rfl
  refine(nj b _ rfl (SqT.of<|p1 _ _ hb) rfl _ _ rfl _<|oq _ rfl _ _ ⟨rfl,rfl,?_⟩);refine⟨Agree.set (Agree.set (Agree.set (Agree.refl _) rfl) rfl) rfl,?_⟩;dsimp only[x5];refine x9 ?_;refine(sw _ rfl _ rfl _ ⟨rfl,_,rfl,sZ2,λq' kI=>?_⟩);generalize g1:upd G q' _=G2 at *;obtain⟨sa,na⟩:=al kI g1;clear g1;refine⟨sZ3,λp' mJ=>?_⟩;generalize g1:upd G2 p' _=G3 at *;obtain⟨sb,nb⟩:=al mJ g1;clear g1;have jI:=sb _ _<|sa _ _ aW;refine qk (by lia) jI cX ⟨((p1.trans sa).trans sb).new hL,?_⟩;rw[nh (mkC id) hci,bq];refine(((p2.same sa).same sb).snoc (asg (x:=mkC id<|cq M.w i) nb<|sb _ _ na)).tk (Tk.lst jI) ?_;have:=asw<|((vd M).take i).map (mkC id)++[mkC id (cq M.w i)];rw[bq]at this;exact this
 obtain⟨p1,p2⟩:=p;have lq:(vd M).length=M.h*M.w:=by unfold vd;rw[ae,fu]
 rw[a8 (by lia)]at p2;refine(mz _ rfl L t zs ((vd M).map (mkC id)) ⟨rfl,aW,p2,by rw[ae,lq];exact CL,by rw[ae,lq];exact JF,ht,λr qP H3 es s3 pe yY dS=>?_⟩);rw[aoq bY dC.h1 dC.w1]at pe;obtain⟨cs,pc,rfl⟩:=zy ctD pe rfl;have lc:=pc.length_eq;rw[ae,lq]at lc;have lr3:=dS.length;rw[ae]at lr3;refine zq1.nx _ _ λzD1 zq1=>?_;refine(qe _ rfl r ⟨rfl,⟨_,SqT.of yY⟩,λL2 hL2=>?_⟩);refine wn (xs:=qP) (λi zs J=>Same H3 J/\∃as:Z (aG×aG×aG),as.length=i/\zs=as.map (λa=>V.ref a.1)/\∀(j:Nat) x a,cs[j]?=some x->as[j]?=some a->J a.1=some (.tup [.ref a.2.1,.ref a.2.2])/\J a.2.1=some (.tup [.int (x.2.2.1:Nat),.int (x.2.2.2:Nat)])/\J a.2.2=some (.tup [.int x.1,.int x.2.1])) ⟨Same.fresh _ hL2,[],rfl,rfl,λj x a _ h=>by cases h⟩ (λi zs J p=>SqT.of<|p.1 _ _ yY) (λi x zs J hx hi xL CQ p=>?_) λzs J xL CQ p=>?_
 .obtain⟨p3,as,xJ,rfl,has⟩:=p;obtain⟨d,hd,rd⟩:=dS.at hx;rw[ax]at hd;obtain⟨c,hc,rfl⟩:=ca.mp hd;obtain⟨p,q',rfl,hp,hq⟩:=Lf rd;refine(nj p _ rfl (SqT.of<|p3 _ _ hp) rfl _ _ rfl _<|oq _ rfl _ _ ⟨rfl,rfl,?_⟩);refine⟨Agree.set (Agree.set (Agree.set (Agree.refl _) rfl) rfl) rfl,?_⟩;dsimp only[x5];refine x9 ?_;refine(sw _ rfl _ rfl _ ⟨rfl,sZ2,λu pD=>?_⟩);generalize g1:upd J u _=J2 at *;obtain⟨sa,na⟩:=al pD g1;clear g1;refine⟨sZ2,λv hv=>?_⟩;generalize g1:upd J2 v _=J3 at *;obtain⟨sb,nb⟩:=al hv g1;clear g1;have AO:=sa.trans sb;have jI:=AO _ _ xL;have tk:=Tk.lst (o:=.lst<|as.map (λa=>V.ref a.1)++[.ref v]) jI;refine qk (by lia) jI CQ ⟨(p3.trans AO).new hL2,as++[(v,q',u)],by rw[bo,xJ];rfl,by rw[bq];rfl,λj x a hj ha=>?_⟩;by_cases hji:j<i
  .rw[fy (by lia)]at ha;obtain⟨k1,k2,k3⟩:=has j x a hj ha;exact⟨tk _ _<|AO _ _ k1,tk _ _<|AO _ _ k2,tk _ _<|AO _ _ k3⟩
  .have zQ:=(ak.mp ha).1;rw[bo,xJ]at zQ;have zQ:j<i+1:=zQ;have e:j=i:=by lia
   subst e;rw[cz (by lia),xJ,Nat.sub_self]at ha;cases ha;rw[hc]at hj;cases hj;exact⟨tk _ _ nb,tk _ _<|AO _ _<|p3 _ _ hq,tk _ _ (sb _ _ na |> λz=>z)⟩
 obtain⟨p3,as,xJ,rfl,has⟩:=p;have h3:∀(j:Nat),j<cs.length->∃x a,cs[j]?=some x/\as[j]?=some a:=λj hj=>(nc _ _ ⟨af hj,af<|by lia⟩);have CB:∀(j:Nat) x a,cs[j]?=some x->as[j]?=some a->((cs.zip as).map λz=>((xq z.1.2.2,z.2.2.1,V.ref z.2.2.2):KA))[j]?=some (xq x.2.2,a.2.1,.ref a.2.2):=λj x a h1 h2=>by rw[ax,List.getElem?_zip_eq_some (z:=(x,a)).mpr ⟨h1,h2⟩];rfl
 have keys:((cs.zip as).map λz=>((xq z.1.2.2,z.2.2.1,V.ref z.2.2.2):KA)).map (·.1)=cs.map λx=>xq x.2.2:=by
  rw[bf];have:(cs.zip as).map ((λx:KA=>x.1)∘λz=>((xq z.1.2.2,z.2.2.1,V.ref z.2.2.2):KA))=((cs.zip as).map (·.1)).map λx=>xq x.2.2:=by rw[bf];rfl
  rw[this,List.map_fst_zip<|by lia]
 have nd:(((cs.zip as).map λz=>((xq z.1.2.2,z.2.2.1,V.ref z.2.2.2):KA)).map (·.1)).Nodup:=by
  rw[keys];have h1:(cs.map λx=>x.2.2).Perm (vd M):=by have:=pc.map λx:Ct=>x.2.2;rw[bf]at this;have e:(vd M).map ((λx:Ct=>x.2.2)∘mkC λq=>ctp t M q.1 q.2)=(vd M).map id:=dg λq _=>rfl;rw[e,List.map_id]at this;exact this
  have h2:(cs.map λx=>xq x.2.2)=(cs.map λx=>x.2.2).map xq:=by rw[bf];rfl
  rw[h2];exact fh.mpr<|List.Pairwise.imp (λgD he=>gD<|aqv he)<|h1.nodup_iff.mpr<|an3 dC.w1
 have lz:(cs.zip as).length=cs.length:=by rw[List.length_zip];lia
 refine(oa L2 _ ((cs.zip as).map λz=>((xq z.1.2.2,z.2.2.1,V.ref z.2.2.2):KA)) ⟨rfl,xL,by rw[ae,ae,lz];lia,λi x p hx hp=>?_,λD ep hD hDN=>?_⟩)
 .have oN:=(ak.mp hp).1;rw[ae,lz]at oN;obtain⟨c,a',hc,ha⟩:=h3 i oN;rw[CB i c a' hc ha]at hp;cases hp;rw[ax,ha]at hx;cases hx;obtain⟨k1,k2,_⟩:=has i c a' hc ha;exact⟨a'.1,rfl,k1,asr k2⟩
 .rw[aqt nd]at hDN⊢;generalize g1:upd J D _=J1 at *;obtain⟨sD,_⟩:=al hD g1;clear g1;have sH:Same H J:=((s2.trans p1).trans s3).trans p3;refine zq1.rt _ _ ?_;refine q D _ ep _ (sH.trans sD) (sH.free hD) hDN λr c hr hc=>?_;have hm:mkC (λq=>ctp t M q.1 q.2) (r,c)∈cs:=pc.mem_iff.mpr<|au.mpr ⟨(r,c),(bY _).mpr ⟨hr,hc⟩,rfl⟩;obtain⟨j,hj⟩:=f8 hm;obtain⟨_,a',_,ha⟩:=h3 j (ak.mp hj).1;have hv:=at7 nd<|CB j _ a' hj ha;exact⟨a'.2.2,hv,sD _ _ (has j _ a' hj ha).2.2⟩
noncomputable def tsS(t:Nat)(M:Mat)(s:Sg):Sg:=((ctp t M s.1 s.2.1).1,(ctp t M s.1 s.2.1).2,s.2.2)
noncomputable def tsL(t:Nat)(M:Mat)(ss:Z Sg):Z Sg:=ss.map<|tsS t M
noncomputable def vo(t:Nat)(M:Mat)(p:Pc):U:=.tuple [.tuple (sy<|(tsL t M p.1).map sgD),.int (p.2:Nat)]
def apx{t:Nat}{M:Mat}{p:Pc}:∃p':Pc,vo t M p=pcD p'/\p'.1.Perm (tsL t M p.1)/\p'.2=p.2:=by obtain⟨ss,h1,h2⟩:=zy sgD (oz<|(tsL t M p.1).map sgD) rfl;exact⟨(ss,p.2),by unfold vo pcD;rw[<-h2],h1,rfl⟩
def ama{t:Nat}{M:Mat}{p:Pc}(h:PcO p):∃p':Pc,vo t M p=pcD p'/\p'.1.Perm (tsL t M p.1)/\p'.2=p.2/\PcO p':=by obtain⟨p',h1,h2,h3⟩:=apx (t:=t) (M:=M) (p:=p);have hl:=h2.length_eq;unfold tsL at hl;rw[ae]at hl;refine⟨p',h1,h2,h3,λs hs=>?_,by rw[hl];exact h.2.1,by rw[hl];exact h.2.2⟩;obtain⟨s0,h0,rfl⟩:=au.mp<|h2.mem_iff.mp hs;exact h.1 s0 h0
def InM(M:Mat)(p:Pc):Prop:=∀s∈p.1,s.1<M.h/\s.2.1<M.w
def att{H:Hp}{s:Sg}{v:V}(h:Rep H (sgD s) v):∃b,v=.ref b/\H b=some (.tup [.int (s.1:Nat),.int (s.2.1:Nat),.str ⟨#[s.2.2]⟩]):=by obtain⟨b,rfl,hb,_⟩:=sv h;exact⟨b,rfl,hb⟩
def atl{H:Hp}{s:Sg}{b:aG}(h:H b=some (.tup [.int (s.1:Nat),.int (s.2.1:Nat),.str ⟨#[s.2.2]⟩]))(hs:s.2.2<128):Rep H (sgD s) (.ref b):=
 (qg b _ rfl h _ _ rfl rfl _<|qi _ rfl rfl _ ⟨_,rfl,⟨rfl,ok1 hs⟩,rfl⟩)
def v4(ss:Z Sg):Spots (ss.map sgD):=λd hd=>by obtain⟨s,_,rfl⟩:=au.mp hd;exact(oa _ _ _ rfl)
def Hd(ss:Z Sg):rf (ss.map sgD)=true:=Spots.imm<|v4 ss
def aw9(w:aN):Sp:=λvs H Q _=>∃(D pa:aG)(M:Mat)(t:Nat)(xs:Z KA)(ep:Nat)(p:Pc),vs=[.ref D,.ref pa]/\DN w H D xs ep/\TurX H M t xs/\Rep H (pcD p) (.ref pa)/\InM M p/\PcO p/\
 ∀(r:aG)(H':Hp),Same H H'->Rep H' (vo t M p) (.ref r)->Q (.ref r) H'
def scTpl:np ["cells","placement","spots"] ZG (m9 Nr):={}
def ay8(B:∀x∈uk,mg x=none)(F:Fun K "turned_placement" "turned_placement" Nr f fd):rn P w K mg base CX0 1 f fd ZG (aw9 w):=by
 refine F.o 0 scTpl λH Q E hr hu hN h=>?_;obtain⟨D,pa,M,t,xs,ep,⟨ss,n⟩,rfl,hD,hT,hp,eZ,FF,q⟩:=h;have eZ:∀s∈ss,s.1<M.h/\s.2.1<M.w:=eZ;obtain⟨bN,dD,h6⟩:=FF;have bN:∀s∈ss,Ltr s.2.2:=bN;have h6:ss.length<=6:=h6;obtain⟨pp,pxs,C4,hpx,y0,t0,rfl,⟨b,KP,rfl,hb,Cv⟩,y1,t1,rfl,e1,rfl⟩:=id hp;cases C4;cases (show y1=_ from e1);have lb:=Cv.length;rw[ae]at lb;have lb:KP.length=ss.length:=lb;refine⟨_,(nv (psC 2 ["row","column","sign","cells"] [none,none,none,some 0] scTpl.nd (vc<|pix nr (pv 1) mr) (λ_=>(pf (n:=3) rfl<|mw (pgC 0)<|mw (pgC 1)<|mw (pgC 2) ow)) (λ_=>ou) λ_=>(om auw (ar3 (gi (gm (by decide) _) hu) (pv 3) (og<|my (pv 0)<|my (pv 1) mq) λ_ _=>rfl)<|og<|my (pv 2) mq))
  (nw<|nu<|og<|my (pCT ph j4<|my (pCB xo k6<|my (pv 2) mq) mq)<|my (pix nr (pv 1) mr) mq)),?_⟩
 refine λzD1 zq1=>?_;refine(mz _ rfl pa _ _ _ ⟨rfl,rfl,SqT.of hpx,m7 (j:=0) rfl,b,rfl,⟨_,SqT.of hb⟩,λL hL=>?_⟩);refine wn (xs:=KP) (λi zs G=>Same H G/\RepAll G ((tsL t M<|ss.take i).map sgD) zs) ⟨Same.fresh _ hL,rfl⟩ (λi zs G p=>SqT.of<|p.1 _ _ hb) (λi x zs G hx hi aW cX p=>?_) λzs G aW cX p=>?_
 .obtain⟨p1,p2⟩:=p;obtain⟨d,hd,rd⟩:=Cv.at hx;rw[ax]at hd;obtain⟨s0,lP,rfl⟩:=ca.mp hd;have lP:ss[i]?=some s0:=lP;obtain⟨c,rfl,hc⟩:=att rd;have hm:=ai lP;obtain⟨k1,k2⟩:=eZ s0 hm;obtain⟨pq,hv,zB⟩:=hT _ _ k1 k2;refine(nj c _ rfl (SqT.of<|p1 _ _ hc) rfl _ _ rfl _<|oq _ rfl _ _ ⟨rfl,rfl,?_⟩);refine⟨Agree.set (Agree.set (Agree.set (Agree.refl _) rfl) rfl) rfl,?_⟩;dsimp only[x5];refine x9 ?_;refine(sw _ rfl _ rfl _ ⟨rfl,sZ2,λu pD=>?_⟩);generalize g1:upd G u _=G2 at *;obtain⟨sa,na⟩:=al pD g1;clear g1;have p1a:=p1.trans sa;refine(ni D xs ep (xq (s0.1,s0.2.1)) u ⟨_,rfl,rfl,hD.same p1a,asr na,hv,?_⟩);refine⟨_,rfl,sZ1,λv hv'=>?_⟩;generalize g1:upd G2 v _=G3 at *;obtain⟨sb,nb⟩:=al hv' g1;clear g1;refine(ny pq v _ _ ⟨rfl,rfl,sb _ _<|p1a _ _ zB,nb,(by show 2+1<=aF;decide),λc2 G4 s4 h4=>?_⟩);have yM:=(sa.trans sb).trans s4;have qN:=yM _ _ aW;refine qk (by lia) qN cX ⟨(p1.trans yM).new hL,?_⟩;have e:tsL t M (ss.take<|i+1)=tsL t M (ss.take i)++[tsS t M s0]:=nh (tsS t M) lP;rw[e,bq];have zO:=bN s0 hm;refine((p2.same yM).snoc (atl (s:=tsS t M s0) h4<|by have:s0.2.2<=90:=zO.2;show s0.2.2<128;lia)).tk (Tk.lst qN) ?_;have:=Hd<|tsL t M (ss.take i)++[tsS t M s0];rw[bq]at this;exact this
 obtain⟨p1,p2⟩:=p;rw[a8 (by lia)]at p2;have lt6:((tsL t M ss).map sgD).length<=6:=by unfold tsL;rw[ae,ae];exact h6
 refine zq1.nx _ _ λzD1 zq1=>?_;refine(mz _ rfl L zs _ ([true,false]) ⟨rfl,aW,p2,vx<|v4 _,by lia,λl ys hl rep=>?_⟩);refine(nc l ys ⟨rfl,.inl ⟨SqL.of m8,λl2 eV=>?_⟩⟩);generalize g1:upd G l _=G1 at *;obtain⟨s1,_⟩:=al hl g1;clear g1;generalize g1:upd G1 l2 _=G2 at *;obtain⟨s2,n2⟩:=al eV g1;clear g1;have iZ:=(p1.trans s1).trans s2;refine(mz _ rfl pa _ _ _ ⟨rfl,rfl,SqT.of<|iZ _ _ hpx,m7 (j:=1) rfl,sZ2,λr yZ=>?_⟩);generalize g1:upd G2 r _=G3 at *;obtain⟨s3,n3⟩:=al yZ g1;clear g1;refine zq1.rt _ _ ?_;exact q r G3 (iZ.trans s3)<|qg r _ rfl n3 _ _ rfl (nc l2 ys ⟨rfl,s3 _ _ n2,(rep.same s2).same s3⟩) _ ⟨_,rfl,rfl,rfl⟩
def ayb:Sp:=λvs H Q _=>∃(pz l:aG)(M:Mat) (ks:Z (Z U×Nat)) (L:Z Pc) (t nk:Nat),vs=[.ref pz,.ref l,.int (t:Nat)]/\PzE H pz M ks/\LyH H l L/\LyO nk L/\(∀p∈L,InM M p)/\L.length<=16/\t<8/\
 ∀(r:aG)(ys:Z V)(H':Hp),Same H H'->H r=none->H' r=some (.lst ys)->RepAll H' (ub<|L.map<|vo t M) ys->Q (.ref r) H'
def Ho{t:Nat}{M:Mat}{nk:Nat}{L:Z Pc}(h:LyO nk L):∀d∈L.map (vo t M),PlD d:=λd hd=>by obtain⟨p,hp,rfl⟩:=au.mp hd;obtain⟨p',e,_,_,h4⟩:=ama (t:=t) (M:=M) (h p hp).1;rw[e];exact h4.pl
def scTly:np ["puzzle","laying","t","cells"] ZF (m9 Nn):={}
def ayk(B:∀x∈uk,mg x=none)(NJ:Fn P w K mg base "turned_cells" 3 Z0 (ayw w))(NH:Fn P w K mg base "turned_placement" 1 ZG (aw9 w))(F:Fun K "turned_laying" "turned_laying" Nn f fd):rn P w K mg base CX0 4 f fd ZF ayb:=by
 refine F.o 3 scTly λH Q E hr hu hN h=>?_;obtain⟨pz,l,M,ks,L,t,nk,rfl,⟨fl,kr,e,kvs,vM,kJ,_⟩,⟨xs,hl,iM⟩,wB,eZ,F0,ht,q⟩:=h;have ll:=iM.length;rw[ae]at ll;refine⟨_,(nv (yh (i:=3) scTly.nd rfl (Or.inr rfl)<|pfn NJ<|my (pix nr (pv 0) mr)<|my (pv 2) mq)
  (nw<|nu<|pCB (xi hu) k6<|my (pcm ["placement","cells"] [none,some 3] (oy<|pv 1) (λ_=>(pgC 0)) (λ_=>ou) λ_=>(pfn NH<|my (pv 1)<|my (pv 0) mq)) mq)),?_⟩
 refine λzD1 zq1=>?_;refine(mz _ rfl pz _ _ _ ⟨rfl,rfl,SqT.of vM,m7 (j:=0) rfl,(qu _ rfl fl M t ⟨rfl,kJ,ht,λD dx ep H1 s1 hD0 hD hT=>?_⟩)⟩);refine zq1.nx _ _ λzD1 zq1=>?_;refine(qe _ rfl l ⟨rfl,⟨_,SqL.of<|s1 _ _ hl⟩,λA' hA=>?_⟩);refine pk (xs:=xs) (λi zs G=>Same H1 G/\RepAll G ((L.take i).map (vo t M)) zs) ⟨Same.fresh _ hA,rfl⟩ (λi zs G p=>SqL.of<|p.1 _ _<|s1 _ _ hl) (λi x zs G hx hi aW cX p=>?_) λzs G aW cX p=>?_
 .obtain⟨p1,p2⟩:=p;obtain⟨d,hd,rd⟩:=iM.at hx;rw[ax]at hd;obtain⟨p,hp,rfl⟩:=ca.mp hd;obtain⟨pa,_,rfl,_⟩:=id rd;have hm:=ai hp;have sG:=s1.trans p1;refine⟨Agree.set (Agree.refl _) rfl,?_⟩;dsimp only[x5];refine x9 ?_;refine(oe _ rfl _ rfl D pa M<|ny t dx ep p ⟨rfl,hD.same p1,hT.same p1,rd.same sG,eZ p hm,(wB p hm).1,λr G2 s2 rep=>?_⟩);have cT:=s2 _ _ aW;refine qk (by lia) cT cX ⟨(p1.trans s2).new hA,?_⟩;rw[nh (vo t M) hp];refine((p2.same s2).snoc rep).tk (Tk.lst cT) ?_;have h2:LyO nk (L.take<|i+1):=λp hp=>wB p<|cx hp;have:=PlD.imm<|Ho (t:=t) (M:=M) h2;rw[nh (vo t M) hp]at this;exact this
 obtain⟨p1,p2⟩:=p;rw[a8 (by lia)]at p2;have gB:=Ho (t:=t) (M:=M) wB;refine(oa A' zs _ ⟨rfl,aW,p2,λd hd=>(gB d hd).key,PlD.cmp gB,by rw[ae];lia,λr ys yZ rep=>?_⟩);have sG:=s1.trans p1;generalize g1:upd G r _=G1 at *;obtain⟨s2,n2⟩:=al yZ g1;clear g1;refine zq1.rt _ _ ?_;exact q r ys G1 (sG.trans s2) (sG.free yZ) n2 rep
theorem Hs:∀{ds:Z U},(∀d∈ds,kd d=true)->u9 ds=true
 | [],_=>rfl
 | d::ds,h=>by show(kd d&&u9 ds)=true;rw[h d aq,Hs λx hx=>h x<|ar _ hx];rfl
def al3{es:Z U}{n t:Nat}(hz:Zr es)(h:kkB es n t=true){d:U}(hd:d∈FS es n):pU t d∈FS es n:=by
 have hF:=Aw (n:=n) hz;have hT:∀d∈(FS es n).map (pU t),FrmD d:=λd hd=>by obtain⟨x,hx,rfl⟩:=au.mp hd;exact(hF x hx).turn t
 have e:=MK _ _ (Hs λd hd=>(hT d<|(pw _).mem_iff.mp hd).key.1.1) (Hs λd hd=>(hF d hd).key.1.1) (show db (ub<|(FS es n).map (pU t)) (FS es n)=true from h);rw[<-e];exact(pw _).mem_iff.mpr (jz hd)
def amc{M:Mat}{t:Nat}(dC:OkM SgP M)(h:flK M t=true):(jO t M).h=M.h/\(jO t M).w=M.w/\∀r c,r<M.h->c<M.w->(jO t M).g r c=M.g r c:=by
 have kdM:∀N:Mat,kd (dM N)=true:=λN=>Hs λd hd=>by obtain⟨z,_,rfl⟩:=au.mp hd;rfl
 have e:=BW _ _ (kdM _) (kdM _) h;unfold dM at e;injection e with e
 have e:ri (jO t M)=ri M:=List.map_inj_right (f:=PyData.str) (λa b h=>by injection h) |>.mp e;have AR:=dC.tur t;have eh:(jO t M).h=M.h:=by
  have:=congrArg List.length e
  rwa [ql,ql]at this
 have el:∀r,r<M.h->qt (jO t M) r=qt M r:=λr hr=>by
  have h1:=BY (M:=jO t M) (r:=r) (by lia);rw[e,BY (M:=M) hr]at h1;have h1:=gp h1;injection h1 with h1
  have h2:=congrArg Array.toList h1
  rwa [List.toList_toArray,List.toList_toArray,eq_comm]at h2
 have ew:(jO t M).w=M.w:=by
  have:=congrArg List.length (el 0 dC.h1)
  rwa [xw,xw]at this
 refine⟨eh,ew,λr c hr hc=>?_⟩;have h1:=yo (M:=jO t M) (r:=r) (c:=c) (by lia);rw[el r hr,yo (M:=M) hc]at h1;exact(gp h1).symm
def ao1{X:Z U}(h:Spots X)(hp:0<X.length)(a b:Int):oj (X.map<|sh1 a b)=oj X:=by unfold oj;rw[as9 h,atn h,G0<|by rw[ae];exact hp,G0<|by rw[ae];exact hp,bf];refine pi h λr c z=>?_;show PyData.tuple [.int (r+a-(_+a)),.int<|c+b-(_+b),.str z]=.tuple [.int (r-_),.int<|c-_,.str z];rw[Int.add_sub_add_right,Int.add_sub_add_right]
def ava{X:Z U}(h:Spots X)(hp:0<X.length)(t:Nat):sj t (oj X)=oj (nM t X):=by
 show yA (t % 4) (if 4<=t then kL (oj X)else oj X)=_;unfold nM;by_cases h4:4<=t
 .rw[if_pos h4,if_pos h4,afy h hp,vy (ES h)<|by rw[ae];exact hp]
 .rw[if_neg h4,if_neg h4,vy h hp]
theorem afx{X Y:Z U}(p:X.Perm Y):∀i,(qR i X).Perm (qR i Y)
 | 0=>p
 | i+1=>by rw[uz,uz];exact(afx p i).map _
def amv{X Y:Z U}(p:X.Perm Y)(t:Nat):(nM t X).Perm (nM t Y):=by
 unfold nM;refine afx ?_ _;split
 .exact p.map _
 .exact p
def adk{X Y:Z U}(hp:0<X.length)(p:X.Perm Y):(oj X).Perm (oj Y):=by unfold oj;rw[HA (p.map ul) (by rw[ae];exact hp),HA (p.map uq)<|by rw[ae];exact hp];exact p.map _
theorem Ln{M:Mat}{ss:Z Sg}{g:Sg->Nat}(eZ:∀s∈ss,s.1<M.h/\g s<M.w){Y:Z U}(hY:Spots Y){a0 b0:Int}(h0:(ss.map λs=>sgD (s.1,g s,s.2.2))=Y.map (sh1 a0 b0)) :
  ∀i,∃a b:Int,(ss.map λs=>sgD ((cp i M s.1<|g s).1,(cp i M s.1<|g s).2,s.2.2))=(qR i Y).map (sh1 a b)
 | 0=>(nc a0 b0 h0)
 | i+1=>by
  obtain⟨a,b,e⟩:=Ln eZ hY h0 i;refine(nc b ((((p9 i M).h-1:Nat):Int)-a) ?_);have e1:(ss.map λs=>sgD ((cp (i+1) M s.1<|g s).1,(cp (i+1) M s.1<|g s).2,s.2.2))=(ss.map λs=>sgD ((cp i M s.1<|g s).1,(cp i M s.1<|g s).2,s.2.2)).map (xW (((p9 i M).h-1:Nat):Int)):=by rw[bf];refine dg λs hs=>?_;obtain⟨k1,k2⟩:=eZ s hs;have:=(uS k1 k2 i).1;show PyData.tuple [.int (((cp i M s.1<|g s).2:Nat):Int),.int (((p9 i M).h-1-(cp i M s.1<|g s).1:Nat):Int),_]=.tuple [.int (((cp i M s.1<|g s).2:Nat):Int),.int<|(((p9 i M).h-1:Nat):Int)-(((cp i M s.1<|g s).1:Nat):Int),_];rw[show(((p9 i M).h-1:Nat):Int)-(((cp i M s.1<|g s).1:Nat):Int)=(((p9 i M).h-1-(cp i M s.1<|g s).1:Nat):Int) by lia]
  rw[e1,e,uz,bf,bf];refine pi (uv hY i) λr c z=>?_;show PyData.tuple [.int (c+b),.int<|_-(r+a),.str z]=.tuple [.int (c+b),.int<|-r+(_-a),.str z];rw[show(((p9 i M).h-1:Nat):Int)-(r+a) = -r+((((p9 i M).h-1:Nat):Int)-a) by lia]
def axp{M:Mat}{ss:Z Sg}(eZ:∀s∈ss,s.1<M.h/\s.2.1<M.w)(t:Nat):∃a b:Int,(tsL t M ss).map sgD=(nM t<|ss.map sgD).map (sh1 a b):=by
 have iP:=v4 ss;have z0:∀{X:Z U},Spots X->X.map (sh1 0 0)=X:=λ{X} hX=>by
  conv=>rhs;rw[<-List.map_id X]
  exact pi hX λr c z=>by show PyData.tuple [.int (r+0),.int<|c+0,.str z]=.tuple [.int r,.int c,.str z];rw[Int.add_zero,Int.add_zero]
 unfold tsL;rw[bf];unfold nM;by_cases h4:4<=t
 .rw[if_pos h4];have key:=Ln (M:=pS M) (ss:=ss) (g:=λs=>M.w-1-s.2.1) (λs hs=>⟨(eZ s hs).1,by have:=(eZ s hs).2;show M.w-1-s.2.1<M.w;lia⟩) (ES iP) (a0:=0) (b0:=((M.w-1:Nat):Int)) (by
   rw[bf,bf];refine dg λs hs=>?_;have:=(eZ s hs).2;show PyData.tuple [.int ((s.1:Nat):Int),.int ((M.w-1-s.2.1:Nat):Int),_]=.tuple [.int (((s.1:Nat):Int)+0),.int<|-((s.2.1:Nat):Int)+((M.w-1:Nat):Int),_];rw[Int.add_zero,show -((s.2.1:Nat):Int)+((M.w-1:Nat):Int)=((M.w-1-s.2.1:Nat):Int) by lia])<|t % 4
  obtain⟨a,b,e⟩:=key;refine(nc a b ?_);rw[<-e];refine dg λs _=>?_;show sgD (tsS t M s)=_;unfold tsS ctp;rw[if_pos h4,if_pos h4]
 .rw[if_neg h4];obtain⟨a,b,e⟩:=Ln (M:=M) (ss:=ss) (g:=λs=>s.2.1) eZ iP (a0:=0) (b0:=0) (z0 iP).symm (t % 4);refine(nc a b ?_);rw[<-e];refine dg λs _=>?_;show sgD (tsS t M s)=_;unfold tsS ctp;rw[if_neg h4,if_neg h4]
def apy{M:Mat}{ks:Z (Z U×Nat)}{p p':Pc}{t:Nat}(dC:OkM SgP M)(hK:KsZ ks)(hP:PcO p)(hn:p.2<ks.length)(eY:kpB M ks t=true)(hl:Lie M ks p)(eZ:InM M p)(e:vo t M p=pcD p')(mJ:p'.1.Perm (tsL t M p.1))(fL:p'.2=p.2)(pP:PcO p'):Lie M ks p':=by
 obtain⟨k,hk⟩:∃k,ks[p.2]?=some k:=⟨_,af hn⟩;unfold kpB at eY;rw[dw]at eY;obtain⟨kJ,Dn⟩:=eY;have Dn:=js.mp Dn k<|ai hk;obtain⟨eh,ew,eg⟩:=amc dC kJ;obtain⟨h1,h2,h3⟩:=(aot hP hk hK).mp hl;have hz:=(hK k<|ai hk).1;have es:p'.1.map sgD=sy ((tsL t M p.1).map sgD):=by
  unfold vo pcD at e;injection e with e
  injection e with e _
  injection e with e
  exact e.symm
 have hX:=v4<|tsL t M p.1;have dD:0<((tsL t M p.1).map sgD).length:=by unfold tsL;rw[ae,ae];exact hP.2.1
 have hY:=v4 p.1;have C5:0<(p.1.map sgD).length:=by rw[ae];exact hP.2.1
 rw[aot pP (by rw[fL];exact hk) hK];refine⟨?_,?_,?_⟩
 .rw[es];exact Hm (λd hd=>hX d<|(oz _).mem_iff.mp hd)<|tz hX
 .show(p'.1.map sgD).all (qS M)=true;rw[js];intro d hd;obtain⟨s',fK,rfl⟩:=au.mp hd;obtain⟨s,hs,rfl⟩:=au.mp<|mJ.mem_iff.mp fK;obtain⟨k1,k2⟩:=eZ s hs;obtain⟨c1,c2,c3⟩:=asi (M:=M) k1 k2 t;rw[eh]at c1;rw[ew]at c2;rw[eg _ _ c1 c2]at c3;have hf:=js.mp h2 (sgD s)<|jz hs;have hf:qS M (sgD s)=true:=hf;unfold sgD at hf⊢;rw[ED]at hf⊢;have g1:gA M s.1 s.2.1=M.g s.1 s.2.1:=by unfold gA;rw[if_pos ⟨k1,k2⟩]
  have g2:gA M (tsS t M s).1 (tsS t M s).2.1=M.g s.1 s.2.1:=by unfold gA tsS;rw[if_pos ⟨c1,c2⟩];exact c3
  rw[g2];rw[g1]at hf;exact hf
 .rw[es];obtain⟨fs,ef,tZ⟩:=Aw hz _ h3;injection ef with ef
  rw[<-ef]at tZ;have vI:Zr (oj<|p.1.map sgD):=tZ.perm (oz _).symm;have hc:=al3 hz Dn h3;obtain⟨a,b,er⟩:=axp eZ t;have hr:Spots (nM t<|p.1.map sgD):=by
   unfold nM;refine uv ?_ _;split
   .exact ES hY
   .exact hY
  have hrl:0<(nM t<|p.1.map sgD).length:=by have h1:((nM t<|p.1.map sgD).map (sh1 a b)).length=(nM t<|p.1.map sgD).length:=ae _;rw[<-h1,<-er];exact dD
  have q1:(oj<|sy<|(tsL t M p.1).map sgD).Perm (sj t<|oj<|p.1.map sgD):=by rw[ava hY C5 t,<-ao1 hr hrl a b,<-er];exact adk (by rw[(oz _).length_eq];exact dD)<|oz _
  have q2:(sj t<|sy<|oj<|p.1.map sgD).Perm (sj t<|oj<|p.1.map sgD):=by
   rw[<-tZ.raw t,<-vI.raw t];refine adk ?_<|amv (oz _) t;have h1:=(tZ.turned t).pre.pos;rw[<-tZ.raw t]at h1;unfold oj at h1
   rwa [ae]at h1
  have zt:=(vI.turned t).pre;have u1:sy (oj<|sy<|(tsL t M p.1).map sgD)=sy (sj t<|oj<|p.1.map sgD):=by refine zt.sorted ((oz _).trans q1)<|tz λd hd=>zt.spots d<|q1.mem_iff.mp hd
  have u2:sy (sj t<|sy<|oj<|p.1.map sgD)=sy (sj t<|oj<|p.1.map sgD):=
   zt.sorted ((oz _).trans q2) (tz λd hd=>zt.spots d<|q2.mem_iff.mp hd)
  rw[u1,<-u2];exact hc
def aqo{g k:Nat}:([PyData.str ⟨#[46]⟩,PyData.str ⟨#[44]⟩,.str ⟨#[k]⟩,.str ⟨#[lo1 k]⟩].any λe=>bn e<|.str ⟨#[g]⟩)=okS g k:=by
 have e1:∀a:Nat,bn (.str ⟨#[a]⟩) (.str ⟨#[g]⟩)=(g==a):=λa=>by
  show((⟨#[a]⟩:Str)==⟨#[g]⟩)=_;rw[ji,beq_iff_eq,beq_iff_eq];constructor
  .intro e;injection e with e
   injection e with e
   injection e with e
   exact e.symm
  .intro e;rw[e]
 simp only[List.any_cons,List.any_nil,Bool.or_false,e1];unfold okS;rw[Bool.or_assoc,Bool.or_assoc]
def asj:Sp:=λvs H Q _=>∃(a b:aG)(M:Mat)(xs:Z V)(es:Z U),vs=[.ref a,.ref b]/\FlM H a M/\H b=some (.lst xs)/\RepAll H es xs/\(∀d∈es,SgN d)/\es.length<=6/\∀H',Same H H'->Q (.bl<|mX M<|.tuple es) H'
def axr:np ["_law_floor","_law_spots","_law_row","_law_column","_law_sign"] ZE (m9 K4):={}
def avm(B:∀x∈uk,mg x=none)(F:Fun K "_law_room" "_law_room" K4 f fd):rn P w K mg base CX0 1 f fd ZE asj:=by
 refine F.o 0 axr λH Q E hr hu hN h=>?_;obtain⟨a,b,M,xs,es,rfl,hf,hb,rep,hs,h6,q⟩:=h;have hl:=rep.length;obtain⟨ha,dC⟩:=id hf;have h1:=dC.h1;refine⟨_,(nv (pfo (oy<|pv 1) (pf (n:=3) rfl<|mw (pgM 2)<|mw (pgM 3)<|mw (pgM 4) ow) (nv (va (PW.pt<|tT (wx<|Hv GF BO mr (pv 2)<|pCB o7 ft<|my (pv 0) mq)<|yE<|wx<|Hv GF BO mr (pv 3)<|pCB se ft<|my (pix nr (pv 0) mr) mq) (nw<|nu uT) qd)
  (nw<|va (qm (zn hu) (pix Eu (pix nr (pv 0)<|pv 2)<|pv 3) (og<|my qh<|my qh<|my (pv 4)<|my (LA PySem.F.plainAttrs_str PySem.F.slot_str_lower PySem.F.type_str_lower ajn<|pv 4) mq) rfl) (nw<|nu uT) qd)))
  (nw<|nu uT)),?_⟩
 refine λzD1 zq1=>?_;refine(qe _ rfl b ⟨rfl,⟨_,SqL.of hb⟩,?_⟩);refine su (xs:=xs) (λi σ' G=>∃(y2 y3 y4:Option V),σ'=[some (.ref a),some<|.ref b,y2,y3,y4]/\Same H G/\(es.take i).all (qS M)=true) ?_ (λi σ' G hi h=>?_) (λi x σ' G hx h=>?_) λσ' G h=>?_
 .exact(oa _ _ _ ⟨rfl,Same.refl _,rfl⟩)
 .obtain⟨_,_,_,_,sg,_⟩:=h;exact SqL.of<|sg _ _ hb
 .obtain⟨y2,y3,y4,rfl,sg,bY⟩:=h;obtain⟨d,hd,rd⟩:=rep.at hx;obtain⟨r,c,k,rfl,oM,Dp⟩:=hs d<|ai hd;obtain⟨b',rfl,eW,_⟩:=sv rd;have KR:okS (gA M r c) k=false->∀G',Same H G'->Q (.bl false) G':=λhb G' s'=>by
   have e:mX M (.tuple es)=false:=by show es.all (qS M)=false;rw[List.all_eq_false];exact⟨_,ai hd,by rw[ED,hb];exact am⟩
   rw[e]at q;exact q G' s'
  have out:¬(r<M.h/\c<M.w)->okS (gA M r c) k=false:=λh=>by
   unfold gA;rw[if_neg h];have:∀k<91,65<=k->okS 35 k=false:=by decide +kernel
   exact this k (by lia) oM
  refine(nj b' _ rfl (SqT.of<|sg _ _ eW) rfl _ _ rfl _<|oq _ rfl _ _ ⟨rfl,rfl,λzD2 zq2=>?_⟩);have qL:=sg _ _ ha;refine(o9 _ rfl _ _ rfl rfl _ ⟨rfl,?_⟩);refine x6 (λc1=>?_) λc1=>absurd (decide_eq_true<|by show(0:Int)<=(r:Nat);lia) c1;refine(o9 _ rfl a _ rfl (.inr<|SqT.of qL) _<|qi _ rfl rfl _ ⟨rfl,?_⟩);refine x6 (λc2=>?_) λc2=>?_
  .have KO:¬(((r:Nat):Int)<(((ri M).map V.str).length:Nat)):=by simpa using c2
   rw[ae,ql]at KO;refine x9 ?_;refine λzD3 iS=>?_;refine iS.rt _ _<|zq2.rt _ _<|zq1.rt _ _ ?_;exact KR (out<|by lia) G sg
  have xC:r<M.h:=by
   have:((r:Nat):Int)<(((ri M).map V.str).length:Nat):=by simpa using c2
   rw[ae,ql]at this;lia
  have Bh:atI ((ri M).map V.str) (r:Int)=some (.str ⟨(qt M r).toArray⟩):=m7<|ze xC;have tF:atI ((ri M).map V.str) 0=some (.str ⟨(qt M 0).toArray⟩):=m7 (j:=0)<|ze h1;have zl:∀r,(⟨(qt M r).toArray⟩:Str).length<=aF:=λr=>by rw[pj];exact GQ dC
  refine(o9 _ rfl _ _ rfl rfl _ ⟨rfl,?_⟩);refine x6 (λc3=>?_) λc3=>absurd (decide_eq_true<|by show(0:Int)<=(c:Nat);lia) c3;refine(mz _ rfl a _ _ _ ⟨rfl,rfl,SqT.of qL,tF,(qi _ rfl (zl 0) _<|qi _ rfl rfl _ ⟨rfl,?_⟩)⟩);refine x6 (λc4=>?_) λc4=>?_
  .have KN:¬(((c:Nat):Int)<((⟨(qt M 0).toArray⟩:Str).length:Nat)):=by simpa using c4
   rw[pj]at KN;refine λzD3 iS=>?_;refine iS.rt _ _<|zq2.rt _ _<|zq1.rt _ _ ?_;exact KR (out<|by lia) G sg
  have xI:c<M.w:=by
   have:((c:Nat):Int)<((⟨(qt M 0).toArray⟩:Str).length:Nat):=by simpa using c4
   rw[pj]at this;lia
  have eg:gA M r c=M.g r c:=by unfold gA;rw[if_pos ⟨xC,xI⟩]
  refine zq2.nx _ _ λzD2 zq2=>?_;refine(oe _ rfl _ rfl a _ _ ⟨_,rfl,rfl,SqT.of qL,Bh,(qu _ rfl _ _ (M.g r c) ⟨rfl,rfl,zl r,?_,?_⟩)⟩)
  .refine m7 ?_;show(qt M r).toArray.toList[c]?=_;rw[List.toList_toArray];exact yo xI
  refine(qe _ rfl _ ⟨rfl,rfl,k,rfl,rfl,by lia,sZ4,λp hp=>?_⟩);have KI:bm "." = ⟨#[46]⟩:=by decide +kernel
  have e44:bm "," = ⟨#[44]⟩:=by decide +kernel
  rw[KI,e44];refine aE hp λG2 s2 c2=>?_;have uF:lo1 k<128:=by
   have:∀k<128,lo1 k<128:=by decide +kernel
   exact this k<|by lia
  have hg:=BU<|dC.sg r c xC xI;refine(ny (.str ⟨#[M.g r c]⟩) p _ ([.str ⟨#[46]⟩,.str ⟨#[44]⟩,.str ⟨#[k]⟩,.str ⟨#[lo1 k]⟩]) ⟨⟨rfl,ok1 hg⟩,rfl,.inr c2,(qg _ _ rfl ⟨rfl,ok1<|by decide⟩ _ _ rfl ⟨rfl,ok1<|by decide⟩ _<|qi _ rfl ⟨rfl,ok1<|by lia⟩ _ ⟨_,rfl,⟨rfl,ok1 uF⟩,rfl⟩),by simp[gk],_,rfl,?_⟩);rw[aqo,<-eg];refine x6 (λh1=>?_) λh1=>?_
  .rw[if_pos rfl]at h1;refine λzD3 iS=>?_;refine iS.rt _ _<|zq2.rt _ _<|zq1.rt _ _ ?_;exact KR (by simpa using h1) G2<|sg.trans s2
  .rw[if_pos rfl]at h1;refine zq2.nx _ _ ?_;refine(oa _ _ _ ⟨rfl,sg.trans s2,?_⟩);rw[List.take_add_one,hd];rw[List.all_append,bY,Bool.true_and];show(qS M _&&true)=true;rw[Bool.and_true,ED];simpa using h1
 .obtain⟨y2,y3,y4,rfl,sg,bY⟩:=h;rw[a8 (by lia)]at bY;rw[show mX M (.tuple es)=true from bY]at q;refine zq1.nx _ _ λzD1 zq1=>?_;refine zq1.rt _ _ ?_;exact q G sg
def aym:Sp:=λvs H Q _=>∃(v:V)(d:U),vs=[v]/\Rep H d v/\PlD d/\∀H',Same H H'->Q (.bl true) H'
def a0u:np ["_law_found","_law_spot"] ["_law_found"] (m9 M6):={}
def azv(B:∀x∈uk,mg x=none)(F:Fun K "_law_is_placement" "_law_is_placement" M6 f fd):rn P w K mg base CX0 1 f fd ["_law_found"] aym:=by
 refine F.o 0 a0u λH Q E hr hu hN h=>?_;obtain⟨v,d,rfl,rd,gB,q⟩:=h;obtain⟨es,n,rfl,hs,dD,h6⟩:=gB;obtain⟨a,xs,rfl,ha,x0,r0,rfl,hx0,x1,r1,rfl,hx1,Jd⟩:=rd;cases (show r1=[]from Jd);cases (show x1=V.int n from hx1);obtain⟨b,ys,rfl,hb,rep⟩:=hx0;have hl:=rep.length;refine⟨_,(nv (va (PW.pt<|tT (wx<|uh<|pCB qo ja<|my (pv 0)<|my (u6 (v:=.ty "tuple") rfl (B "tuple"<|by decide) j4 rfl) mq)<|tT (qm Ej (pCB o7 ft<|my (pv 0) mq) mr<|qy _)<|yE<|wx<|uh<|pCB qo ja<|my (pix nr (pv 0) mr)<|my (u6 (v:=.ty "tuple") rfl (B "tuple"<|by decide) j4 rfl) mq) (nw<|nu uT) qd)
  (nv (va (PW.pt<|tT (wx<|uh<|pCB qo ja<|my (pix nr (pv 0) mr)<|my (u6 (v:=.ty "int") rfl (B "int"<|by decide) PyProof.Rows.boot_int rfl) mq)<|yE<|uh<|pCB qo ja<|my (pix nr (pv 0) mr)<|my (u6 (v:=.ty "bool") rfl (B "bool"<|by decide) boot_bool rfl) mq) (nw<|nu uT) qd)
  (nv (pfo (vc<|pix nr (pv 0) mr) (pgM 1) (nv (va (PW.pt<|tT (wx<|uh<|pCB qo ja<|my (pv 1)<|my (u6 (v:=.ty "tuple") rfl (B "tuple"<|by decide) j4 rfl) mq)<|tT (qm Ej (pCB o7 ft<|my (pv 1) mq) mr<|qy _)<|yE<|wx<|uh<|pCB qo ja<|my (pix nr (pv 1) mr)<|my (u6 (v:=.ty "str") rfl (B "str"<|by decide) boot_str rfl) mq) (nw<|nu uT) qd)
  (nw<|va (wx<|uh<|pCB (HD rfl) xS<|my (pcm ["_law_part"] [none] (vc<|xu LY (pv 1) He<|xh mr) (λ_=>(pgC 0)) (λ_=>ou) λ_=>(yF (pCB aa4 ja<|my (pv 0)<|my (u6 (v:=.ty "int") rfl (B "int"<|by decide) PyProof.Rows.boot_int rfl) mq)<|Ax<|aza<|pCB aa4 ja<|my (pv 0)<|my (u6 (v:=.ty "bool") rfl (B "bool"<|by decide) boot_bool rfl) mq)) mq) (nw<|nu uT) qd)))
  (nw<|nu uT)))),?_⟩
 refine λzD1 zq1=>?_;refine(mz _ rfl _ _ _ true ⟨rfl,.tup ha,rfl,true,rfl,?_⟩);refine lA ?_;refine(sd _ rfl a _ rfl (.inr<|SqT.of ha) rfl false ⟨rfl,?_⟩);refine lA ?_;refine(mz _ rfl a _ _ _ ⟨rfl,rfl,SqT.of ha,m7 (j:=0) rfl,(ny _ _ _ true ⟨rfl,.tup hb,rfl,true,rfl,?_⟩)⟩);refine lA ?_;refine zq1.nx _ _ λzD1 zq1=>?_;refine(mz _ rfl a _ _ _ ⟨rfl,rfl,SqT.of ha,m7 (j:=1) rfl,(ny _ _ _ true ⟨rfl,.int n,rfl,true,rfl,?_⟩)⟩);refine lA ?_;refine(mz _ rfl a _ _ _ ⟨rfl,rfl,SqT.of ha,m7 (j:=1) rfl,(ny _ _ _ false ⟨rfl,.int n,rfl,false,rfl,?_⟩)⟩);refine lA ?_;refine zq1.nx _ _ λzD1 zq1=>?_;refine(mz _ rfl a _ _ _ ⟨rfl,rfl,SqT.of ha,m7 (j:=0) rfl,b,rfl,⟨_,SqT.of hb⟩,?_⟩);refine yt (xs:=ys) (λi σ' G=>∃(y1:Option V),σ'=[some (.ref a),y1]/\Same H G) ?_ (λi σ' G hi h=>?_) (λi x σ' G hx h=>?_) λσ' G h=>?_
 .exact⟨_,rfl,Same.refl _⟩
 .obtain⟨_,_,sg⟩:=h;exact SqT.of<|sg _ _ hb
 .obtain⟨y1,rfl,sg⟩:=h;obtain⟨d,hd,rd⟩:=rep.at hx;obtain⟨r,c,k,rfl,oM,Dp⟩:=hs d<|ai hd;obtain⟨b',rfl,eW,_⟩:=sv rd;have FN:=sg _ _ eW;refine λzD2 zq2=>?_;refine(mz _ rfl _ _ _ true ⟨rfl,.tup FN,rfl,true,rfl,?_⟩);refine lA ?_;refine(sd _ rfl b' _ rfl (.inr<|SqT.of FN) rfl false ⟨rfl,?_⟩);refine lA ?_;refine(mz _ rfl b' _ _ _ ⟨rfl,rfl,SqT.of FN,m7 (j:=2) rfl,(ny _ _ _ true ⟨rfl,.str _,rfl,true,rfl,?_⟩)⟩);refine lA ?_;refine zq2.nx _ _ λzD2 zq2=>?_;refine⟨_,rfl,GR<|oq _ rfl b' _ ⟨rfl,FN,λc2 G2 s2 pO=>?_⟩⟩;have pO:G2 c2=some (.tup [.int (r:Nat),.int (c:Nat)]):=pO;refine⟨c2,rfl,⟨_,SqT.of pO⟩,λD hD=>?_⟩;refine wn (xs:=[.int (r:Nat),.int (c:Nat)]) (λi zs G3=>Same G2 G3/\zs=List.replicate i (V.bl true)) ⟨Same.fresh _ hD,rfl⟩ (λi zs G3 p=>SqT.of<|p.1 _ _ pO) (λi x zs G3 hx3 JE aW cX p=>?_) λzs G3 aW cX p=>?_
  .obtain⟨p1,rfl⟩:=p;obtain⟨m,rfl⟩:∃m:Int,x=.int m:=by
    have:=ai hx3;simp at this;rcases this with h|h<;>exact⟨_,h⟩
   refine⟨Agree.set (Agree.refl _) rfl,?_⟩;dsimp only[x5];refine x9 ?_;refine(mz _ rfl _ _ _ true ⟨rfl,.int m,rfl,true,rfl,?_⟩);refine x9 ?_;refine(mz _ rfl _ _ _ false ⟨rfl,.int m,rfl,false,rfl,?_⟩);refine qk (by have:i<2:=JE;lia) aW cX ⟨p1.new hD,?_⟩;rw[List.replicate_succ'];rfl
  .obtain⟨p1,rfl⟩:=p;refine(nc D ([true,true]) ⟨rfl,aW,true,rfl,?_⟩);refine lA ?_;refine zq2.nx _ _ ?_;exact⟨_,rfl,(sg.trans s2).trans p1⟩
 .obtain⟨y1,rfl,sg⟩:=h;refine zq1.nx _ _ λzD1 zq1=>?_;refine zq1.rt _ _ ?_;exact q G sg
def ay9:Sp:=λvs H Q _=>∃(a b:aG)(M:Mat)(t:Nat)(xs:Z V)(ss:Z Sg),vs=[.ref a,.ref b,.int (t:Nat)]/\FlM H a M/\H b=some (.tup xs)/\RepAll H (ss.map sgD) xs/\(∀s∈ss,s.1<M.h/\s.2.1<M.w)/\(∀s∈ss,Ltr s.2.2)/\ss.length<=6/\t<8/\
 ∀(r:aG)(H':Hp),Same H H'->Rep H' (.tuple<|sy<|(tsL t M ss).map sgD) (.ref r)->Q (.ref r) H'
def a07:np ["_law_floor","_law_spots","_law_t","_law_found","_law_row","_law_column","_law_sign","_law_cell"] ZD (m9 No):={}
def aw1(B:∀x∈uk,mg x=none)(NU:Fn P w K mg base "_law_cell_turned" 1 ZQ M7)(F:Fun K "_law_turned_spots" "_law_turned_spots" No f fd):rn P w K mg base CX0 2 f fd ZD ay9:=by
 refine F.o 1 a07 λH Q E hr hu hN h=>?_;obtain⟨a,b,M,t,xs,ss,rfl,hf,hb,rep,eZ,bN,h6,ht,q⟩:=h;obtain⟨ha,dC⟩:=id hf;have ll:=rep.length;rw[ae]at ll;have tF:atI ((ri M).map V.str) 0=some (.str ⟨(qt M 0).toArray⟩):=m7 (j:=0)<|ze dC.h1;have zl:(⟨(qt M 0).toArray⟩:Str).length<=aF:=by rw[pj];exact GQ dC
 refine⟨_,(nv (psM 3<|qc mq)
  (nv (pfo (vc<|pv 1) (pf (n:=3) rfl<|mw (pgM 4)<|mw (pgM 5)<|mw (pgM 6) ow) (nv (psM 7<|pfn NU<|my (og<|my (pv 4)<|my (pv 5) mq)<|my (pv 2)<|my (pCB o7 ft<|my (pv 0) mq)<|my (pCB se ft<|my (pix nr (pv 0) mr) mq) mq)
  (nw<|uo<|pW dh gf gg r8 (pv 3)<|my (og<|my (pix nr (pv 7) mr)<|my (pix nr (pv 7) mr)<|my (pv 6) mq) mq)))
  (nw<|nu<|pCT ph j4<|my (pCB xo k6<|my (pv 3) mq) mq))),?_⟩
 refine λzD1 zq1=>?_;refine⟨sZ0,λL hL=>?_⟩;generalize g1:upd H L _=H1 at *;obtain⟨s1,l1⟩:=al hL g1;clear g1;have l1:H1 L=some (.lst ([]:Z V)):=l1;refine zq1.nx _ _ λzD1 zq1=>?_;refine(qe _ rfl b ⟨rfl,⟨_,SqT.of<|s1 _ _ hb⟩,?_⟩);refine yt (xs:=xs) (λi σ' G=>∃(y4 y5 y6 y7:Option V)(zs:Z V),σ'=[some (.ref a),some<|.ref b,some<|.int (t:Nat),some<|.ref L,y4,y5,y6,y7]/\Same H G/\G L=some (.lst zs)/\RepAll G ((tsL t M<|ss.take i).map sgD) zs) ?_ (λi σ' G hi h=>?_) (λi x σ' G hx h=>?_) λσ' G h=>?_
 .exact(ni _ _ _ _ ([]) ⟨rfl,s1,l1,rfl⟩)
 .obtain⟨_,_,_,_,_,_,sg,_⟩:=h;exact SqT.of<|sg _ _ hb
 .obtain⟨y4,y5,y6,y7,zs,rfl,sg,hl,jA⟩:=h;have hi:=(ak.mp hx).1;obtain⟨d,hd,rd⟩:=rep.at hx;rw[ax]at hd;obtain⟨s0,lP,rfl⟩:=ca.mp hd;obtain⟨c,rfl,hc⟩:=att rd;have hm:=ai lP;obtain⟨k1,k2⟩:=eZ s0 hm;have qL:=sg _ _ ha;refine(nj c _ rfl (SqT.of<|sg _ _ hc) rfl _ _ rfl _<|oq _ rfl _ _ ⟨rfl,rfl,λzD2 zq2=>?_⟩);refine(qe _ rfl _ ⟨rfl,sZ2,λu pD=>?_⟩);generalize g1:upd G u _=G1 at *;obtain⟨sa,na⟩:=al pD g1;clear g1;refine(rg _ rfl _ rfl a _ rfl (.inr<|SqT.of<|sa _ _ qL) _ ⟨rfl,(ny a _ _ _ ⟨rfl,rfl,SqT.of<|sa _ _ qL,tF,(qi _ rfl zl u<|ny t M s0.1 s0.2.1 ⟨?_,na,k1,k2,ht,λp G2 s2 hp0 hp=>?_⟩)⟩)⟩)
  .rw[ae,ql,pj];rfl
  have iZ:=sa.trans s2;have eV:=iZ _ _ hl;refine zq2.nx _ _ λzD2 zq2=>?_;refine(ux _ rfl (.inl ⟨rfl,_,SqL.of eV⟩) _ rfl p _ _ ⟨_,rfl,rfl,SqT.of hp,m7 (j:=0) rfl,(mz _ rfl p _ _ _ ⟨rfl,rfl,SqT.of hp,m7 (j:=1) rfl,_,rfl,sZ3,λv hv=>?_⟩)⟩);generalize g1:upd G2 v _=G3 at *;obtain⟨s3,n3⟩:=al hv g1;clear g1;have A5:=s3 _ _ eV;have lz:=jA.length;rw[ae]at lz;have lz2:(tsL t M<|ss.take i).length<=6:=by unfold tsL;rw[ae,cg];lia
  refine(oa L zs _ ⟨rfl,rfl,A5,o0<|by lia,zq2.nx _ _ ?_⟩);refine(ni _ _ _ _ (zs++[.ref v]) ⟨rfl,((sg.trans iZ).trans s3).new hL,m8,?_⟩);have e:tsL t M (ss.take<|i+1)=tsL t M (ss.take i)++[tsS t M s0]:=nh (tsS t M) lP;rw[e,bq];have zO:=bN s0 hm;refine(((jA.same iZ).same s3).snoc (atl (s:=tsS t M s0) n3<|by have:s0.2.2<=90:=zO.2;show s0.2.2<128;lia)).tk (Tk.lst A5) ?_;have:=Hd<|tsL t M (ss.take i)++[tsS t M s0];rw[bq]at this;exact this
 .obtain⟨y4,y5,y6,y7,zs,rfl,sg,hl,jA⟩:=h;rw[a8 (by lia)]at jA;have lt6:((tsL t M ss).map sgD).length<=6:=by unfold tsL;rw[ae,ae];exact h6
  refine zq1.nx _ _ λzD1 zq1=>?_;refine(mz _ rfl L zs _ ([true,false]) ⟨rfl,hl,jA,vx<|v4 _,by lia,λl ys hl rep=>?_⟩);refine(nc l ys ⟨rfl,.inl ⟨SqL.of m8,λl2 eV=>?_⟩⟩);generalize g1:upd G l _=G1 at *;obtain⟨s1,_⟩:=al hl g1;clear g1;generalize g1:upd G1 l2 _=G2 at *;obtain⟨s2,n2⟩:=al eV g1;clear g1;refine zq1.rt _ _ ?_;exact q l2 G2 ((sg.trans s1).trans s2)<|nc l2 ys ⟨rfl,n2,rep.same s2⟩
def GdL(M:Mat)(ks:Z (Z U×Nat))(L:Z Pc):Prop:=(∀p∈L,Lie M ks p/\PcO p/\p.2<ks.length/\InM M p)/\(cls L).Nodup
def TkL(kvs:Z (Z Key×V))(qs:Z (Nat×Nat)):Prop:=(∀r c,(wu kvs<|kM r c).isSome=true↔(r,c)∈qs)/\kvs.length<=qs.length
def ajl(L:Z Pc)(p:Pc):cls (L++[p])=cls L++p.1.map ce:=by unfold cls;rw[List.flatMap_append];simp
def GdL.snoc{M:Mat}{ks:Z (Z U×Nat)}{L:Z Pc}{p:Pc}(h:GdL M ks L)(h1:Lie M ks p/\PcO p/\p.2<ks.length/\InM M p)(nd:(p.1.map ce).Nodup)(hd:∀s∈p.1,ce s∉cls L):GdL M ks (L++[p]):=by
 refine⟨λq hq=>?_,?_⟩
 .rcases bw.mp hq with h'|h'
  .exact h.1 q h'
  .rw[ay.mp h'];exact h1
 .rw[ajl];refine List.nodup_append.mpr ⟨h.2,nd,λa ha b hb e=>?_⟩;obtain⟨s,hs,rfl⟩:=au.mp hb;exact hd s hs<|e▸ha
def auc{M:Mat}{ks:Z (Z U×Nat)}(hK:KsZ ks){j dn rt:Nat}{k:Z U×Nat}{es:Z U}{qs:Z Sg}(hj:ks[j]?=some k)(hm:.tuple es∈FS k.1 k.2)(JX:dn<M.h)(FE:rt<M.w)(e:es.map (sh1 (dn:Nat) (rt:Nat))=qs.map sgD)(hf:mX M (.tuple<|qs.map sgD)=true):Lie M ks (qs,j):=by
 have hz:=(hK k<|ai hj).1;have qP:shT M es (dn*M.w+rt)=.tuple (qs.map sgD):=by unfold shT;rw[yC FE,yG FE,e]
 refine mem_raw.mpr<|nc j k ⟨(ak.mp hj).1,hj,(Hi hz).mpr (nc es (dn*M.w+rt) ⟨hm,?_,by rw[qP];rfl,by rw[qP];exact hf⟩)⟩;have:(dn+1)*M.w<=M.h*M.w:=Nat.mul_le_mul_right _ JX;rw[Nat.add_mul,Nat.one_mul]at this;lia
def a2q{es:Z U}(hz:Zr es){dn rt:Nat}{qs:Z Sg}(e:es.map (sh1 (dn:Nat) (rt:Nat))=qs.map sgD):(qs.map ce).Nodup:=by
 have h:=a0j hz ((dn:Nat):Int) ((rt:Nat):Int);rw[e,bf]at h;have h2:qs.map (cl∘sgD)=(qs.map ce).map λq=>(((q.1:Nat):Int),((q.2:Nat):Int)):=by rw[bf];rfl
 rw[h2]at h;exact List.Pairwise.imp (λgD e=>gD<|by rw[e])<|fh.mp h
def atv:Sp:=λvs H Q _=>∃(ly tk pz:aG)(c:Int)(M:Mat) (ks:Z (Z U×Nat)) (L:Z Pc) (xs:Z V) (kvs:Z (Z Key×V)),vs=[.ref ly,.ref tk,.ref pz,.int c]/\PzK H pz M ks/\0<ks.length/\H ly=some (.lst xs)/\RepAll H (L.map pcD) xs/\H tk=some (.dT kvs)/\TkL kvs (cls L)/\GdL M ks L/\L.length<=16/\
 ∀(G:Hp)(Ca:Z V)(L':Z Pc) (dG:Z (Z Key×V)),Ex [ly,tk] H G->G ly=some (.lst Ca)->RepAll G (L'.map pcD) Ca->G tk=some (.dT dG)->TkL dG (cls L')->GdL M ks L'->L'.length<=L.length+1->Q .non G
def azd:np ["_law_laid","_law_taken","_law_puzzle","_law_cell","_law_xs","_law_number","_law_forms_here","_law_spots","_law_row","_law_column","_law_sign","_law_spot"] ZC (m9 K5):={}
theorem at9(B:∀x∈uk,mg x=none)(kN:Fn P w K mg base "_law_mixed" 1 Z3 BQ)(wM:Fn P w K mg base "_law_forms" 3 ["_law_kind"] ai4)(EW:Fn P w K mg base "_law_room" 1 ZE asj)(F:Fun K "_law_more" "_law_more" K5 f fd):rn P w K mg base CX0 4 f fd ZC atv:=by
 refine F.o 3 azd λH Q E hr hu hN h=>?_;obtain⟨ly,tk,pz,c,M,ks,L,xs,kvs,rfl,⟨fl,kr,e,kv,vM,kJ,pL,fW,hk6⟩,oM,zM,iM,pE,hT,hG,F0,q⟩:=h;have tI:=fW.z;obtain⟨qL,dC⟩:=id kJ;have h1:=dC.h1;have w1:=dC.w1;have tF:atI ((ri M).map V.str) 0=some (.str ⟨(qt M 0).toArray⟩):=m7 (j:=0)<|ze dC.h1;have zl:(⟨(qt M 0).toArray⟩:Str).length<=aF:=by rw[pj];exact GQ dC
 refine⟨_,(nv (psM 4<|pfn kN<|my (pv 3)<|my mr mq)
  (nv (psM 5<|om qp (pix oh (pv 4) mr)<|pCB o7 ft<|my (pix nr (pv 2) mr) mq)
  (nv (psM 6<|pfn wM<|my (pix nr (pix nr (pv 2) mr)<|pv 5) mq)
  (nv (psM 7<|qc mq)
  (nv (pfo (vc<|pix oh (pv 6)<|om qp (pix oh (pv 4) mr)<|pCB o7 ft<|my (pv 6) mq) (pf (n:=3) rfl<|mw (pgM 8)<|mw (pgM 9)<|mw (pgM 10) ow)<|nw<|uo<|pW dh gf gg r8 (pv 7)<|my (og<|my (om qz (pv 8)<|om qp (pix oh (pv 4) mr)<|pCB o7 ft<|my (pix nr (pv 2) mr) mq)<|my (om qz (pv 9)<|om qp (pix oh (pv 4) mr)<|pCB se ft<|my (pix nr (pix nr (pv 2) mr) mr) mq)<|my (pv 10) mq) mq)
  (nw (va (PW.pt<|EA (uh<|pfn EW<|my (pix nr (pv 2) mr)<|my (pv 7) mq)<|EF<|wx<|uh<|pCB (aps rfl) boot_any<|my (pcm ["_law_spot","_law_taken"] [none,some 1] (oy<|pv 7) (λ_=>(pgC 0)) (λ_=>ou) λ_=>(axn<|atg (gi (gm (by decide) _) hu) (xu LY (pv 0) He<|xh mr)<|pv 1)) mq) (nv (uo<|pW dh gf gg r8 (pv 0)<|my (og<|my (pCT ph j4<|my (pv 7) mq)<|my (pv 5) mq) mq)
  (nw<|pfo (oy<|pv 7) (pgM 11)<|nw<|L5 (gi (gm (by decide) _) hu) (pv 1) (xu LY (pv 11) He<|xh mr) (pix nr (pv 11) mr) rfl)) qd))))))),?_⟩
 refine λzD1 zq1=>?_;refine(oq _ rfl c 4 ⟨rfl,by decide,λX ms G2 ⟨hm4,Jw⟩ s3 FP hX=>?_⟩);have kE:∀i:Nat,i<4->∃n:Int,(ms.map V.int)[i]?=some (.int n)/\0<=n:=λi hi=>⟨ms[i]'(by lia),by rw[ax,af<|by lia];rfl,(Jw _<|fj _).1⟩;obtain⟨n0,e0,_⟩:=kE 0 (by decide);obtain⟨n1,e1,_⟩:=kE 1 (by decide);obtain⟨n2,e2,_⟩:=kE 2 (by decide);obtain⟨n3,e3,_⟩:=kE 3 (by decide);have mo:∀(n:Int)(k:Nat),0<k->∃j:Nat,j<k/\n % ((k:Nat):Int)=(j:Nat):=λn k hk=>⟨(n % ((k:Nat):Int)).toNat,by have:=mj n (show((k:Nat):Int)≠0 by lia);have:=l7 n (show(0:Int)<(k:Nat) by lia);lia,by have:=mj n (show((k:Nat):Int)≠0 by lia);lia⟩;have lkv:kv.length=ks.length:=fW.1;obtain⟨j,hj,ej⟩:=mo n0 kv.length (by lia);refine zq1.nx _ _ λzD1 zq1=>?_;refine(mz _ rfl X _ _ _ ⟨rfl,rfl,SqL.of hX,m7 (j:=0) e0,(mz _ rfl pz _ _ _ ⟨rfl,rfl,SqT.of<|s3 _ _ vM,m7 (j:=1) rfl,(sn kr kv rfl (.inr<|SqT.of<|s3 _ _ pL) _ _ ⟨rfl,rfl,by lia,zq1.nx _ _ λzD1 zq1=>?_⟩)⟩)⟩);have hjk:j<ks.length:=by lia
 have A6:=af hjk;have hvj:=af hj;have hK:=(fW.2 j _ _ hvj A6).same s3;generalize ks[j]=kk at *;generalize kv[j]=vk at *;refine(mz _ rfl pz _ _ _ ⟨rfl,rfl,SqT.of<|s3 _ _ vM,m7 (j:=1) rfl,(mz _ rfl kr _ _ vk ⟨rfl,rfl,SqT.of<|s3 _ _ pL,(by show atI kv (n0 % ((kv.length:Nat):Int))=_;rw[ej];exact m7 hvj),(nc vk kk ⟨rfl,hK,λfA uK G3 s4 hfA0 hfA gR=>?_⟩)⟩)⟩);have hzk:=tI kk<|ai A6;have hF:=Aw (n:=kk.2) hzk.1;have lf:=gR.length;have fpos:0<(FS kk.1 kk.2).length:=az0 (by
  obtain⟨b,nm,m,fr,xs,_,_,_,_,_,hm⟩:=hK;rcases hm with h|h|h<;>lia)
 refine zq1.nx _ _ λzD1 zq1=>?_;refine⟨sZ0,λD hD=>?_⟩;refine aE hD λG5 s5 d5=>?_;have d5:G5 D=some (.lst ([]:Z V)):=d5;have s35:=(s3.trans s4).trans s5;have Ae:=s5 _ _<|s4 _ _ hX;obtain⟨t,ht,et⟩:=mo n1 uK.length (by lia);obtain⟨dt,hdt,rdt⟩:=gR.at<|af ht;have hdm:=ai hdt;obtain⟨es,rfl,hz⟩:=hF dt hdm;obtain⟨fb,pQ,efb,Bb,eX⟩:=rdt;have JR:=s5 _ _ Bb;have le:=eX.length;have h6:=hz.pre.six;obtain⟨dn,JX,edn⟩:=mo n2 M.h h1;obtain⟨rt,FE,ert⟩:=mo n3 M.w w1;refine zq1.nx _ _ λzD1 zq1=>?_;refine(oe _ rfl _ rfl X _ _ ⟨_,rfl,rfl,SqL.of Ae,m7 (j:=1) e1,(o9 _ rfl fA uK rfl (.inl<|SqL.of<|s5 _ _ hfA) _ ⟨_,rfl,rfl,by lia,(ny fA uK _ (.ref fb) ⟨rfl,rfl,SqL.of<|s5 _ _ hfA,?_,fb,rfl,⟨_,SqT.of JR⟩,?_⟩)⟩)⟩)
 .show atI uK (n1 % ((uK.length:Nat):Int))=_;rw[et];exact m7<|by rw[af ht,efb]
 have shi:∀k,∀d∈(es.take k).map (sh1 (dn:Nat) (rt:Nat)),SgN d:=λk=>SgN.shs λd hd=>Ec hz d<|cx hd;refine yt (xs:=pQ) (λk σ' G6=>∃(y8 y9 mS yI:Option V)(ys:Z V),σ'=[some (.ref ly),some<|.ref tk,some<|.ref pz,some<|.int c,some<|.ref X,some<|.int<|n0 % ((kv.length:Nat):Int),some<|.ref fA,some<|.ref D,y8,y9,mS,yI]/\Same G3 G6/\G6 D=some (.lst ys)/\RepAll G6 ((es.take k).map (sh1 (dn:Nat) (rt:Nat))) ys) ?_ (λk σ' G6 hk hI=>?_) (λk x σ' G6 hx hI=>?_) λσ' G6 hI=>?_
 .exact(ni _ _ _ _ ([]) ⟨rfl,s5,d5,rfl⟩)
 .obtain⟨_,_,_,_,_,_,wP,_⟩:=hI;exact SqT.of<|wP _ _ Bb
 .obtain⟨y8,y9,mS,yI,ys,rfl,wP,mW,iN⟩:=hI;have hk:k<pQ.length:=(ak.mp hx).1;obtain⟨d,hd,rd⟩:=eX.at hx;obtain⟨r0,c1,k0,rfl,hk1',hk2'⟩:=Ec hz d<|ai hd;obtain⟨b,rfl,hb,hzb⟩:=sv rd;have Ad:=wP _ _<|s4 _ _ hX;have wU:=(s3.trans s4).trans wP;refine(nj b _ rfl (SqT.of<|wP _ _ hb) rfl _ _ rfl _<|oq _ rfl _ _ ⟨rfl,rfl,λzD2 zq2=>?_⟩);refine(qi _ rfl (.inl ⟨rfl,_,SqL.of mW⟩) _ ⟨rfl,(mz _ rfl X _ _ _ ⟨rfl,rfl,SqL.of Ad,m7 (j:=2) e2,(mz _ rfl pz _ _ _ ⟨rfl,rfl,SqT.of<|wU _ _ vM,m7 (j:=0) rfl,(sn fl _ rfl (.inr<|SqT.of<|wU _ _ qL) _ _ ⟨rfl,rfl,(by rw[ae,ql];show(0:Int)<(M.h:Nat);lia),(nc _ _ ⟨rfl,rfl,?_⟩)⟩)⟩)⟩)⟩);refine(oe _ rfl _ rfl X _ _ ⟨_,rfl,rfl,SqL.of Ad,m7 (j:=3) e3,(mz _ rfl pz _ _ _ ⟨rfl,rfl,SqT.of<|wU _ _ vM,m7 (j:=0) rfl,(ny fl _ _ _ ⟨rfl,rfl,SqT.of<|wU _ _ qL,tF,(qi _ rfl zl _ ⟨_,rfl,rfl,(by rw[pj];show(0:Int)<(M.w:Nat);lia),(nc _ _ ⟨rfl,rfl,_,rfl,sZ3,λt8 AX=>?_⟩)⟩)⟩)⟩)⟩);rw[show(((ri M).map V.str).length:Nat)=M.h by rw[ae,ql],pj,edn,ert];refine aE AX λG8 s8 c8=>?_;have wC:=s8 _ _ mW;have l6:=iN.length;rw[ae,cg]at l6;refine(oa D ys (.ref t8) ⟨rfl,rfl,wC,o0<|by lia,zq2.nx _ _ ?_⟩);refine(ni _ _ _ _ (ys++[.ref t8]) ⟨rfl,(wP.trans s8).new hD,m8,?_⟩);have im:=shi<|k+1;rw[nh _ hd]at im;rw[nh _ hd];exact((iN.same s8).snoc (show Rep G8 (sh1 (dn:Nat) (rt:Nat)<|.tuple [.int (r0:Nat),.int (c1:Nat),.str ⟨#[k0]⟩]) (.ref t8)from zj c8 hzb)).tk (Tk.lst wC) (Spots.imm<|SgN.spots im)
 obtain⟨y8,y9,mS,yI,ys,rfl,wP,mW,iN⟩:=hI;rw[a8 (by lia)]at iN;have yW:∀d∈es.map (sh1 (dn:Nat) (rt:Nat)),SgN d:=SgN.shs<|Ec hz;obtain⟨qs,F5,bN⟩:=awz yW;have Dg:=congrArg List.length F5;rw[ae,ae]at Dg;have ndq:=a2q hz F5;rw[F5]at iN yW;have hys:=iN.length;rw[ae]at hys;have wU:=(s3.trans s4).trans wP;have stay:∀G',Same H G'->Q .non G':=λG' s'=>q G' xs L kvs (Ex.of_same s') (s' _ _ zM) (iM.same s') (s' _ _ pE) hT hG<|Nat.le_succ _;refine zq1.nx _ _ λzD1 zq1=>?_;refine(mz _ rfl pz _ _ _ ⟨rfl,rfl,SqT.of<|wU _ _ vM,m7 (j:=0) rfl,(mz _ rfl fl D M ys ⟨qs.map sgD,rfl,kJ.same wU,mW,iN,yW,by rw[ae];lia,λG7 s7=>?_⟩)⟩);have Ij:=wU.trans s7;refine⟨_,rfl,x6 (λhfit=>?_) λhfit=>lA<|(zq1.nx _ _<|stay _ Ij)⟩;have Cy:=iN.same s7;have tJ:=s7 _ _ mW;have C6:=atx bN hfit;refine(qe _ rfl D ⟨rfl,⟨_,SqL.of tJ⟩,λD2 cT=>?_⟩);refine pk (xs:=ys) (λk zs G8=>Same G7 G8/\zs=((qs.take k).map λs=>(wu kvs<|kM s.1 s.2.1).isSome).map V.bl) ⟨Same.fresh _ cT,rfl⟩ (λk zs G8 p=>SqL.of<|p.1 _ _ tJ) (λk x zs G8 hx hk xL cX p=>?_) λzs G8 xL cX p=>?_
 .obtain⟨p2,rfl⟩:=p;obtain⟨s0,b,lP,rfl,hb⟩:=Gw Cy hx;refine⟨Agree.set (Agree.refl _) rfl,?_⟩;dsimp only[x5];refine x9 ?_;refine⟨_,rfl,GR<|oq _ rfl b _ ⟨rfl,p2 _ _ hb,λt9 G9 s9 c9=>?_⟩⟩;have c9:G9 t9=some (.tup<|(kM s0.1 s0.2.1).map kV):=c9;refine(oq _ rfl tk _ ⟨rfl,DGet.t (s9 _ _<|p2 _ _<|Ij _ _ pE) c9,?_⟩);refine qk (by lia) (s9 _ _ xL) cX ⟨(p2.trans s9).new cT,?_⟩;rw[nh (λs:Sg=>(wu kvs<|kM s.1 s.2.1).isSome) lP,bq];rfl
 obtain⟨p2,rfl⟩:=p;rw[a8 (by lia)]at xL;have Ii:=Ij.trans p2;refine(nc D2 _ ⟨rfl,xL,_,rfl,?_⟩);refine x6 (λvY=>?_) λvY=>(zq1.nx _ _<|stay _ Ii);have bR:∀s∈qs,ce s∉cls L:=λs hs hm=>by
  have h2:=(hT.1 s.1 s.2.1).mpr hm;have h3:((qs.map λs=>(wu kvs<|kM s.1 s.2.1).isSome).any id)=true:=by rw[List.any_map];exact List.any_eq_true.mpr ⟨s,hs,h2⟩
  rw[h3]at vY;cases vY
 clear vY;have wC:=p2 _ _ tJ;have Cw:=Cy.same p2;refine λzD2 zq2=>?_;refine(qi _ rfl (.inl ⟨rfl,_,SqL.of<|Ii _ _ zM⟩) _ ⟨rfl,(nc D ys ⟨rfl,.inl ⟨SqL.of wC,λAS JC=>?_⟩⟩)⟩);refine aE JC λNB iZ c12=>?_;refine⟨_,rfl,sZ2,λlN JB=>?_⟩;rw[ej];refine aE JB λqY qE c13=>?_;have Fg:=(Ii.trans iZ).trans qE;have xD:=Fg _ _ zM;have CV:=Fg _ _ pE;have IH:=iM.length;rw[ae]at IH;refine(oa ly xs (.ref lN) ⟨rfl,rfl,xD,o0<|by lia,zq2.nx _ _ λzD2 zq2=>?_⟩);have FF:PcO (qs,j):=⟨bN,by show 0<qs.length;have:=hz.pre.pos;lia,by show qs.length<=6;lia⟩;have Iq:Rep qY (pcD (qs,j)) (.ref lN):=(qg lN _ rfl c13 _ _ rfl (nc AS ys ⟨rfl,qE _ _ c12,(Cw.same iZ).same qE⟩) _ ⟨_,rfl,rfl,rfl⟩);have hGd:GdL M ks (L++[(qs,j)]):=hG.snoc ⟨auc tI A6 hdm JX FE F5 hfit,FF,hjk,λs hs=>⟨(C6 s hs).1,(C6 s hs).2.1⟩⟩ ndq bR;have IM:rf ((L++[(qs,j)]).map pcD)=true:=PlD.imm λd hd=>by obtain⟨p,hp,rfl⟩:=au.mp hd;exact(hGd.1 p hp).2.1.pl
 have nlt:ly≠tk:=Ld zM pE (by intro z;cases z);have IA:D≠ly:=λe=>by have:=((s3.trans s4) _ _ zM);rw[<-e,hD]at this;cases this
 have ntD:D≠tk:=λe=>by have:=((s3.trans s4) _ _ pE);rw[<-e,hD]at this;cases this
 have Cj:Tk qY (upd qY ly<|.lst<|xs++[.ref lN]):=Tk.lst xD;have Kz:Ex [ly,tk] H (upd qY ly<|.lst<|xs++[.ref lN]):=(Ex.of_same Fg).trans (Ex.upd<|by simp);have IG:upd qY ly (.lst<|xs++[.ref lN]) ly=some (.lst<|xs++[.ref lN]):=m8;have Iw:RepAll (upd qY ly<|.lst<|xs++[.ref lN]) ((L++[(qs,j)]).map pcD) (xs++[.ref lN]):=by rw[bq]at IM⊢;exact((iM.same Fg).snoc Iq).tk Cj IM
 have Ci:upd qY ly (.lst<|xs++[.ref lN]) tk=some (.dT kvs):=by rw[p8 (Ne.symm nlt)];exact CV
 have DT:upd qY ly (.lst<|xs++[.ref lN]) D=some (.lst ys):=by rw[p8 IA];exact qE _ _<|iZ _ _ wC
 have Cz:RepAll (upd qY ly<|.lst<|xs++[.ref lN]) (qs.map sgD) ys:=((Cw.same iZ).same qE).tk Cj (Hd _);generalize upd qY ly (.lst<|xs++[.ref lN])=G14 at *;have hqs6:qs.length<=6:=FF.2.2;have hcl96:(cls L).length<=96:=by
  have:∀L:Z Pc,(∀p∈L,p.1.length<=6)->(cls L).length<=L.length*6:=λL=>by
   induction L with
   | nil=>intro _;exact ao _
   | cons p L ih=>
    intro h;have h1:=h p aq;have h2:=ih λq hq=>h q<|ar _ hq;show(p.1.map ce++cls L).length<=_;rw[bo,ae,bx];lia
  have:=this L λp hp=>(hG.1 p hp).2.1.2.2;lia
 refine(qe _ rfl D ⟨rfl,⟨_,SqL.of DT⟩,?_⟩);refine su (xs:=ys) (λk σ' G9=>∃(yI:Option V) (dG:Z (Z Key×V)),σ'=[some (.ref ly),some<|.ref tk,some<|.ref pz,some<|.int c,some<|.ref X,some<|.int (j:Nat),some<|.ref fA,some<|.ref D,y8,y9,mS,yI]/\Ex [ly,tk] H G9/\G9 ly=some (.lst<|xs++[.ref lN])/\RepAll G9 ((L++[(qs,j)]).map pcD) (xs++[.ref lN])/\G9 D=some (.lst ys)/\RepAll G9 (qs.map sgD) ys/\G9 tk=some (.dT dG)/\TkL dG (cls L++(qs.take k).map ce)) ?_ (λk σ' G9 hi hI=>?_) (λk v σ' G9 hv hI=>?_) λσ' G9 hI=>?_
 .exact(nc _ kvs ⟨rfl,Kz,IG,Iw,DT,Cz,Ci,by rw[List.take_zero,List.map_nil,df];exact hT⟩)
 .obtain⟨_,_,_,_,_,_,h9,_⟩:=hI;exact SqL.of h9
 .obtain⟨yI,dG,rfl,Ky,IF,Iu,hD9,rJ,Fc,Bi⟩:=hI;obtain⟨s0,b,lP,rfl,hb⟩:=Gw rJ hv;have oK:=(ak.mp hv).1;refine λzD3 iS=>?_;refine(mz _ rfl b _ _ _ ⟨rfl,rfl,SqT.of hb,m7 (j:=2) rfl,(qe _ rfl _ ⟨rfl,GR<|oq _ rfl b _ ⟨rfl,hb,λt9 yH s9 c9=>?_⟩⟩)⟩);have c9:yH t9=some (.tup<|(kM s0.1 s0.2.1).map kV):=c9;have lk9:=Bi.2;rw[bo,ae,cg]at lk9;refine(nc tk _ ⟨rfl,DPut.t (k:=kM s0.1 s0.2.1) (s9 _ _ Fc) c9<|o0<|by lia,iS.nx _ _ ?_⟩);have tkk:Tk yH (upd yH tk<|.dT<|jN dG (kM s0.1 s0.2.1)<|.str ⟨#[s0.2.2]⟩):=ayc<|s9 _ _ Fc;refine(nc _ _ ⟨rfl,(Ky.trans<|Ex.of_same s9).trans (Ex.upd<|by simp),by rw[p8 nlt];exact s9 _ _ IF,(Iu.same s9).tk tkk IM,by rw[p8 ntD];exact s9 _ _ hD9,(rJ.same s9).tk tkk (Hd _),m8,λr1 c2=>?_,?_⟩)
  .rw[ap6,nh ce lP,<-br,bw,ay,<-Bi.1 r1 c2];by_cases e:kM r1 c2=kM s0.1 s0.2.1
   .rw[if_pos e];obtain⟨e3,e4⟩:=ar0 e;exact⟨λ_=>.inr<|by rw[e3,e4];rfl,λ_=>rfl⟩
   .rw[if_neg e];refine⟨.inl,λh=>h.elim id λh=>absurd ?_ e⟩;have h:(r1,c2)=(s0.1,s0.2.1):=h;injection h with a1 a2
    rw[a1,a2]
  .have h2:=wk dG (kM s0.1 s0.2.1)<|V.str ⟨#[s0.2.2]⟩;have h3:=Bi.2;rw[nh ce lP,<-br,bo,md];lia
 .obtain⟨yI,dG,rfl,Ky,IF,Iu,hD9,rJ,Fc,Bi⟩:=hI;rw[a8 (by lia)]at Bi;refine zq2.nx _ _<|zq1.nx _ _ ?_;exact q G9 _ (L++[(qs,j)]) dG Ky IF Iu Fc (by rw[ajl];exact Bi) hGd<|by rw[bo];exact ao _
theorem Lp{M:Mat}{r c r' c':Nat}(hr:r<M.h)(hc:c<M.w)(oG:r'<M.h)(fH:c'<M.w):∀i,cp i M r c=cp i M r' c'->r=r'/\c=c'
 | 0,e=>by injection e with a b;exact⟨a,b⟩
 | i+1,e=>by
  have h1:=(uS hr hc i).1;have h2:=(uS oG fH i).1;have e:((cp i M r c).2,(p9 i M).h-1-(cp i M r c).1)=((cp i M r' c').2,(p9 i M).h-1-(cp i M r' c').1):=e;injection e with a b
  exact Lp hr hc oG fH i<|Prod.ext (by lia) a
def aux{M:Mat}{r c r' c' t:Nat}(hr:r<M.h)(hc:c<M.w)(oG:r'<M.h)(fH:c'<M.w)(e:ctp t M r c=ctp t M r' c'):r=r'/\c=c':=by
 unfold ctp at e;by_cases h4:4<=t
 .simp only[if_pos h4]at e;obtain⟨a,b⟩:=Lp (M:=pS M) hr (by show M.w-1-c<M.w;lia) oG (by show M.w-1-c'<M.w;lia) _ e;exact⟨a,by lia⟩
 .simp only[if_neg h4]at e;exact Lp hr hc oG fH _ e
def ast{M:Mat}{ks:Z (Z U×Nat)}{L:Z Pc}(h:GdL M ks L):∀q∈cls L,q.1<M.h/\q.2<M.w:=λq hq=>by obtain⟨p,hp,hm⟩:=List.mem_flatMap.mp hq;obtain⟨s,hs,rfl⟩:=au.mp hm;exact(h.1 p hp).2.2.2 s hs
def aqw{L L':Z Pc}(p:L'.Perm L):(cls L').Perm (cls L):=p.flatMap_right _
theorem xc{M:Mat}{ks:Z (Z U×Nat)}{t:Nat}(dC:OkM SgP M)(hK:KsZ ks)(eY:kpB M ks t=true):∀{L:Z Pc},(∀p∈L,Lie M ks p/\PcO p/\p.2<ks.length/\InM M p)->
  ∃L0:Z Pc,L0.map pcD=L.map (vo t M)/\(∀p∈L0,Lie M ks p/\PcO p/\p.2<ks.length/\InM M p)/\(cls L0).Perm ((cls L).map λq=>ctp t M q.1 q.2)
 | [],_=>⟨[],rfl,(λp hp=>by cases hp),.refl _⟩
 | p::L,h=>by
  obtain⟨L0,e,h1,h2⟩:=xc dC hK eY λq hq=>h q<|ar _ hq;obtain⟨hl,hp,hn,eZ⟩:=h p aq;obtain⟨p',e',Ji,fL,mJ⟩:=ama (t:=t) (M:=M) hp;have pJ:=apy dC hK hp hn eY hl eZ e' Ji fL mJ;have kJ:=amc dC (t:=t) (by unfold kpB at eY;rw[dw]at eY;exact eY.1);refine⟨p'::L0,by rw[cm,cm,e,e'],λq hq=>?_,?_⟩
  .rcases a6.mp hq with rfl|hq
   .refine⟨pJ,mJ,by lia,λs hs=>?_⟩;obtain⟨s0,lP,rfl⟩:=au.mp<|Ji.mem_iff.mp hs;obtain⟨k1,k2⟩:=eZ s0 lP;obtain⟨c1,c2,_⟩:=asi (M:=M) k1 k2 t;rw[kJ.1]at c1;rw[kJ.2.1]at c2;exact⟨c1,c2⟩
   .exact h1 q hq
  .show(p'.1.map ce++cls L0).Perm ((p.1.map ce++cls L).map _);rw[bq];refine List.Perm.append ?_ h2;have:=Ji.map ce;unfold tsL at this;rw[bf]at this⊢;exact this
def ah2{M:Mat}{ks:Z (Z U×Nat)}{t:Nat}(dC:OkM SgP M)(hK:KsZ ks)(eY:kpB M ks t=true){L:Z Pc}(h:GdL M ks L):∃L':Z Pc,L'.map pcD=ub (L.map<|vo t M)/\GdL M ks L'/\L'.length=L.length:=by obtain⟨L0,e,h1,h2⟩:=xc dC hK eY h.1;obtain⟨L',p,e'⟩:=zy pcD (pw<|L.map<|vo t M) e;have hl:=congrArg List.length e;rw[ae,ae]at hl;refine⟨L',e',⟨λq hq=>h1 q<|p.mem_iff.mp hq,?_⟩,by rw[p.length_eq,hl]⟩;refine((aqw p).trans h2).nodup_iff.mpr ?_;refine fh.mpr<|eu (λ{a b} ha hb gD he=>gD ?_) h.2;obtain⟨a1,a2⟩:=ast h a ha;obtain⟨b1,b2⟩:=ast h b hb;obtain⟨c1,c2⟩:=aux a1 a2 b1 b2 he;exact Prod.ext c1 c2
theorem KindsK.tk{H H':Hp}{kvs:Z V}{ks:Z (Z U×Nat)}(h:KindsK H kvs ks)(s:Tk H H'):KindsK H' kvs ks:=⟨h.1,λi v k h1 h2=>(h.2 i v k h1 h2).tk s⟩
theorem PzE.tk{H H':Hp}{p:aG}{M:Mat}{ks:Z (Z U×Nat)}(h:PzE H p M ks)(s:Tk H H'):PzE H' p M ks:=by obtain⟨fl,kr,e,kvs,h1,⟨h2,o⟩,h3,h4,h5,h7⟩:=h;exact(ny fl kr e kvs ⟨s _ _ h1,⟨s _ _ h2,o⟩,s _ _ h3,h4.tk s,h5,s _ _ h7⟩)
def atk{c:Nat}(h:Ltr c):sgB (lo1 c)=true/\Av (lo1 c)=false:=by
 have:∀c<91,65<=c->sgB (lo1 c)=true/\Av (lo1 c)=false:=by decide +kernel
 exact this c (by have:=h.2;lia) h.1
def LG{H H':Hp}{a b:aG}{xs:Z V}{kvs:Z (Z Key×V)}(x:Ex [a,b] H H')(h1:H a=some (.lst xs))(h2:H b=some (.dT kvs)):Tk H H':=λc zs hc=>x c _ (λhm=>by
 rcases a6.mp hm with rfl|hm
 .rw[h1]at hc;cases hc
 .rw[ay.mp hm,h2]at hc;cases hc) hc
def MA{K:aw}{H H':Hp}{a:aG}{xs:Z V}(h:SqL K H a xs)(k:∀o,H a=some o->H' a=some o):SqL K H' a xs:=by
 rcases h with (h|⟨o,h⟩)|h
 .exact .inl<|.inl<|k _ h
 .exact .inl<|.inr ⟨o,k _ h⟩
 .exact .inr h
def agc{ds:Z U}(h:∀d∈ds,PlD d):(PyData.list ds).depth<=60:=by have:=PlD.depths h;show bj ds+1<=60;lia
def GdL.lyo{M:Mat}{ks:Z (Z U×Nat)}{L:Z Pc}(h:GdL M ks L):LyO ks.length L:=λp hp=>⟨(h.1 p hp).2.1,(h.1 p hp).2.2.1⟩
def aj2:gdD.depth<=60:=by simp[gdD,gk,bj]
def Gv(K:aw):Sp:=λvs H Q _=>∃(a:aG)(ns:Z Int),vs=[.ref a]/\SqL K H a (ns.map V.int)/\ns.length<=63/\∀H',Q (.bl true) H'
def scLaw:np ["_law_script","_law_hs","_law_letters_here","_law_kinds_here","_law_name","_law_least","_law_most","_law_mode","_law_form_here","_law_high","_law_wide","_law_floor","_law_puzzle","_law_laid","_law_taken","_law_cell","_law_t","_law_due","_law_handed","_law_found"] ZL (m9 BD):={}
theorem axq(B:∀x∈uk,mg x=none)(kN:Fn P w K mg base "_law_mixed" 1 Z3 BQ)(E4:Fn P w K mg base "_law_cell_at" 1 ZV (asm K))(NR:Fn P w K mg base "_law_letters" 1 ["_law_x"] axf)(AB:Fn P w K mg base "_law_kinds" 3 ZZ an5)(E3:Fn P w K mg base "_law_even_floor" 2 ZI atz)(EZ:Fn P w K mg base "_law_more" 4 ZC atv)(tW:Fn P w K mg base "keeping" 6 Z2 agx)(NE:Fn P w K mg base "_law_turned_spots" 2 ZD ay9)(NI:Fn P w K mg base "turned_laying" 4 ZF ayb)(NT:Fn P w K mg base "_law_is_placement" 1 ["_law_found"] aym)(E1:Fn P w K mg base "judged" 8 Z9 awr)
  (F:Fun K "law" "law" BD f fd):rn P w K mg base CX0 9 f fd ZL (Gv K):=by
 refine F.o 8 scLaw λH Q E hr hu hN h=>?_;obtain⟨a,ns,rfl,hS,h63,q⟩:=h;refine⟨_,(nv (psM 1<|pfn kN<|my (pfn E4<|my (pv 0)<|my mr mq)<|my mr mq)
  (nv (psM 2<|pfn NR<|my (pix oh (pv 1) mr) mq)
  (nv (psM 3<|qc mq)
  (nv (pfo (oy<|pfn AB<|my (pix oh (pv 1) mr)<|my (pv 2)<|my mr mq) (pf (n:=5) rfl<|mw (pgM 4)<|mw (pgM 5)<|mw (pgM 6)<|mw (pgM 7)<|mw (pgM 8) ow)<|nw<|uo<|pW dh gf gg r8 (pv 3)<|my (og<|my (pv 4)<|my (pv 5)<|my (pv 6)<|my (pix oh (qc<|my (pv 7)<|my qh<|my qh mq)<|om qp (pix oh (pv 1) mr) mr)<|my (pv 8) mq) mq)
  (nv (psM 9<|om qz mr<|om qp (pix oh (pv 1) mr) mr)
  (nv (psM 10<|pix oh (qc<|my (pv 9)<|my (om qz mr<|om qp (pix oh (pv 1) mr) mr) mq)<|om qp (om GY (pix oh (pv 1) mr) mr) mr)
  (nv (yh (i:=11) scLaw.nd rfl (Or.inr rfl)<|pfn E3<|my (pv 9)<|my (pv 10)<|my (pix oh (pv 1) mr)<|my (qc<|my qh<|my qh<|my qh<|my (LA PySem.F.plainAttrs_str PySem.F.slot_str_lower PySem.F.type_str_lower ajn<|pix oh (pv 2) mr)<|my qh mq) mq)
  (nv (psM 12<|og<|my (pv 11)<|my (pCT ph j4<|my (pv 3) mq)<|my (og mq) mq)
  (nv (psM 13<|qc mq)
  (nv (psM 14 aj8)
  (nv (pfo (oy<|xu Mb (pv 0) (xh mr)<|xh mr) (pgM 15)<|nw<|uo<|pfn EZ<|my (pv 13)<|my (pv 14)<|my (pv 12)<|my (pv 15) mq)
  (nv (pfo (oy<|pfn tW<|my (pv 12) mq) (B5 (i:=16) scLaw.nd rfl<|Or.inr rfl) (nv (psM 17<|pCB (xi hu) k6<|my (pcm ["_law_spots","_law_number","_law_floor","_law_t"] [none,none,some 11,some 16] (oy<|pv 13) (λ_=>(pf (n:=2) rfl<|mw (pgC 0)<|mw (pgC 1) ow)) (λ_=>ou) λ_=>(og<|my (pfn NE<|my (pv 2)<|my (pv 0)<|my (pv 3) mq)<|my (pv 1) mq)) mq)
  (nv (psM 18<|pCT vg lS<|my (pv 13) mq)
  (nv (psM 19<|pfn NI<|my (pv 12)<|my (pv 18)<|my (pv 16) mq)
  (nv (va (PW.pt<|tT (wx<|uh<|pCB qo ja<|my (pv 19)<|my (u6 (v:=.ty "list") rfl (B "list"<|by decide) lS rfl) mq)<|tT (wx<|uh<|pCB (HD rfl) xS<|my (pcm ["_law_one"] [none] (oy<|pv 19) (λ_=>(pgC 0)) (λ_=>ou) λ_=>(pfn NT<|my (pv 0) mq)) mq)<|yE<|qm (Ls hu) (pv 19) (pv 17)<|qy _) (nw<|nu uT) qd)
  (nw<|va (PW.pt<|tT (qm (Ls hu) (pv 18) (pv 13)<|qy _)<|yE<|qm (Ls hu) (pfn E1<|my (pv 12)<|my (pv 19) mq) (og<|my qh mq)<|qy _) (nw<|nu uT) qd))))))
  (nw<|nu<|vp (Lr hu) (pfn E1<|my (pv 12)<|my (pCT vg lS<|my (pv 13) mq) mq) (og<|my qh mq)<|qy _))))))))))))),?_⟩
 refine λzD1 zq1=>?_;refine(qu _ rfl a ns 0 ⟨rfl,hS,by decide,λc0=>?_⟩);refine(nc c0 6 ⟨rfl,by decide,λX ms G1 ⟨hm6,Jw⟩ s1 FP hX=>?_⟩);have kE:∀i:Nat,i<6->∃n:Int,(ms.map V.int)[i]?=some (.int n)/\0<=n:=λi hi=>⟨ms[i]'(by lia),by rw[ax,af<|by lia];rfl,(Jw _<|fj _).1⟩;obtain⟨n0,e0,_⟩:=kE 0 (by decide);obtain⟨n1,e1,_⟩:=kE 1 (by decide);obtain⟨n2,e2,_⟩:=kE 2 (by decide);obtain⟨n3,e3,_⟩:=kE 3 (by decide);obtain⟨n4,e4,p4⟩:=kE 4 (by decide);obtain⟨n5,e5,_⟩:=kE 5 (by decide);clear kE;refine zq1.nx _ _ λzD1 zq1=>?_;refine(mz _ rfl X _ _ _ ⟨rfl,rfl,SqL.of hX,m7 (j:=0) e0,n0,rfl,λLT cs G2 Be Bd t2 hLT0 Kl=>?_⟩);refine zq1.nx _ _ λzD1 zq1=>?_;refine⟨sZ0,λD hD=>?_⟩;generalize g1:upd G2 D _=G3 at *;obtain⟨t3,d3⟩:=al hD g1;clear g1;have d3:G3 D=some (.lst ([]:Z V)):=d3;have qM:=t3 _ _<|t2 _ _ hX;refine zq1.nx _ _ λzD1 zq1=>?_;refine(mz _ rfl X _ _ _ ⟨rfl,rfl,SqL.of qM,m7 (j:=1) e1,(qu _ rfl n1 LT cs ⟨rfl,t3 _ _ Kl,Be,Bd,λKD kvs ks G4 t4 DQ hKD fW iQ hk6=>?_⟩)⟩);have nD:∀(c:aG)(o:HO),G2 c=some o->c≠D:=λc o hc e=>by rw[e,hD]at hc;cases hc
 have Af:=t4 _ _ qM;have qN:=t4 _ _ d3;have Kk:=t4 _ _<|t3 _ _ Kl;have Fm:=nD _ _<|t2 _ _ hX;have ID:=nD _ _ Kl;have nKD:KD≠D:=λe=>by rw[e,d3]at DQ;cases DQ
 refine⟨KD,rfl,⟨_,SqL.of hKD⟩,?_⟩;obtain⟨mm,A2,F6⟩:∃m:Nat,m<3/\n2 % 3=(m:Nat):=⟨(n2 % 3).toNat,by lia,by lia⟩;refine su (xs:=kvs) (λi σ' G=>∃(y4 y5 y6 y7 y8:Option V)(dG:Z V) (lO:Z (Z U×Nat)),σ'=[some (.ref a),some<|.ref X,some<|.ref LT,some<|.ref D,y4,y5,y6,y7,y8,none,none,none,none,none,none,none,none,none,none,none]/\Ex [D] G4 G/\G D=some (.lst dG)/\KindsK G dG lO/\lO.length=i) ?_ (λi σ' G hi h=>?_) (λi v σ' G hv h=>?_) λσ' G h=>?_
 .exact(ni _ _ _ _ _<|nc ([]) ([]) ⟨rfl,Ex.refl _ _,qN,⟨rfl,λi v k h=>by simp at h⟩,rfl⟩)
 .obtain⟨_,_,_,_,_,_,_,_,ex,_⟩:=h;exact SqL.of<|ex.at nKD hKD
 .obtain⟨y4,y5,y6,y7,y8,dG,lO,rfl,ex,FZ,sW,oK⟩:=h;have zR:=(ak.mp hv).1;have oM:=fW.1;obtain⟨k,hk⟩:∃k,ks[i]?=some k:=⟨_,af<|by lia⟩;obtain⟨b,nm,m,fr,fx,rfl,hb,nH,gR,Fv,hmo⟩:=(fW.2 i v k hv hk).tk (ex.one qN);refine(nj b _ rfl (SqT.of hb) rfl _ _ rfl _<|oq _ rfl _ _ ⟨rfl,(nc _ _ ⟨rfl,(nc _ _ ⟨rfl,rfl,λzD2 zq2=>?_⟩)⟩)⟩);refine(qi _ rfl (.inl ⟨rfl,_,SqL.of FZ⟩) _ ⟨rfl,(sw _ rfl _ rfl _ ⟨rfl,?_⟩)⟩);refine⟨sZ3,λq1 pH=>?_⟩;generalize g1:upd G q1 _=G5 at *;obtain⟨s5,l5⟩:=al pH g1;clear g1;have rC:∃(z:Str)(n:Nat),[V.str m,.str<|bm "flip",.str<|bm "flip"][mm]?=some (.str z)/\wK z n:=by
   match mm,A2 with
   | 0,_=>exact(nc m k.2 ⟨rfl,hmo⟩)
   | 1,_=>exact(nc _ 8 ⟨rfl,.inr<|.inr ⟨rfl,rfl⟩⟩)
   | 2,_=>exact(nc _ 8 ⟨rfl,.inr<|.inr ⟨rfl,rfl⟩⟩)
  obtain⟨z,n,hz,sU⟩:=rC;refine(mz _ rfl X _ _ _ ⟨rfl,rfl,SqL.of<|s5 _ _<|ex.at Fm Af,m7 (j:=2) e2,(tq _ _ rfl rfl (by show(0:Int)<3;decide) q1 _ _ ⟨.str z,rfl,rfl,SqL.of l5,?_,_,rfl,sZ5,λt6 ht6=>?_⟩)⟩)
  .show atI _ (n2 % 3)=_;rw[F6];exact m7 hz
  generalize g1:upd G5 t6 _=G6 at *;obtain⟨s6,l6⟩:=al ht6 g1;clear g1;have Fe:=s5.trans s6;have mW:=Fe _ _ FZ;have lk:=sW.1;refine(oa D _ (.ref t6) ⟨rfl,rfl,mW,o0<|by lia,zq2.nx _ _ ?_⟩);refine(ni _ _ _ _ _<|nc _ (lO++[(k.1,n)]) ⟨rfl,(ex.trans<|Ex.of_same Fe).trans (Ex.upd<|by simp),m8,(sW.same Fe).snoc (Tk.lst mW) ?_,by rw[bo,oK];rfl⟩);have tk7:Tk G (upd G6 D<|.lst<|dG++[.ref t6]):=λc zs hc=>Tk.lst mW _ _<|Fe _ _ hc;exact(ni t6 nm z fr fx ⟨rfl,Tk.lst mW _ _ l6,tk7 _ _ nH,gR.tk tk7<|Spots.imm Fv.pre.spots,Fv,sU⟩)
 obtain⟨y4,y5,y6,y7,y8,dG,lO,rfl,ex,FZ,sW,oK⟩:=h;have Dq:0<lO.length/\lO.length<=6:=by have:=fW.1;lia
 have FO:=ex.at Fm Af;have DO:=ex.at ID Kk;have hSG:SqL K G a (ns.map V.int):=MA hS λo ho=>ex.at (nD _ _<|t2 _ _<|s1 _ _ ho)<|t4 _ _<|t3 _ _<|t2 _ _<|s1 _ _ ho;clear fW ex iQ hk6 A2 F6;obtain⟨h,A9,hh5,eh⟩:∃h:Nat,0<h/\h<=5/\1+n3 % 5=(h:Nat):=⟨(1+n3 % 5).toNat,by lia,by lia,by lia⟩;obtain⟨h2,JL,JJ,eh2⟩:∃h:Nat,0<h/\h<=5/\1+n4 % 5=(h:Nat):=⟨(1+n4 % 5).toNat,by lia,by lia,by lia⟩;refine zq1.nx _ _ λzD1 zq1=>?_;refine(mz _ rfl X _ _ _ ⟨rfl,rfl,SqL.of FO,m7 (j:=3) e3,(xm _ _ rfl rfl (by show(0:Int)<5;decide) _ _ ⟨rfl,rfl,zq1.nx _ _ λzD1 zq1=>?_⟩)⟩);refine(oe _ rfl _ rfl X _ _<|zx _ rfl rfl (SqL.of FO) (m7 (j:=4) e4) _ _ ⟨rfl,rfl,(by show(0:Int)<5;decide),(nc _ _ ⟨rfl,rfl,sZ2,λq1 pH=>?_⟩)⟩);generalize g1:upd G q1 _=G5 at *;obtain⟨s5,l5⟩:=al pH g1;clear g1;have Ae:=s5 _ _ FO;obtain⟨m4,hm4,em4⟩:∃m:Nat,m<2/\n4/5 % 2=(m:Nat):=⟨(n4/5 % 2).toNat,by lia,by lia⟩;obtain⟨wd,CS,hw5,ew⟩:∃wd:Nat,0<wd/\wd<=5/\[V.int (1+n3 % 5),.int<|1+n4 % 5][m4]?=some (.int (wd:Nat)):=by
  match m4,hm4 with
  | 0,_=>exact⟨h,A9,hh5,by rw[<-eh];rfl⟩
  | 1,_=>exact⟨h2,JL,JJ,by rw[<-eh2];rfl⟩
 refine(mz _ rfl X _ _ _ ⟨rfl,rfl,SqL.of Ae,m7 (j:=4) e4,(xm _ _ rfl rfl ⟨(by show(0:Int)<5;decide),(by show(5:Int)<1073741824;decide)⟩ _ _ ⟨rfl,rfl,(by show(0:Int)<2;decide),(ny q1 _ _ (.int (wd:Nat)) ⟨rfl,rfl,SqL.of l5,?_,zq1.nx _ _ λzD1 zq1=>?_⟩)⟩)⟩)
 .show atI _ (n4/5 % 2)=_;rw[em4];exact m7 ew
 obtain⟨c0,c1,c2,rfl⟩:∃c0 c1 c2,cs=[c0,c1,c2]:=by
  match cs,Be with
  | [c0,c1,c2],_=>exact(oa _ _ _ rfl)
 have k0:=Bd c0 (by simp);have DP:=s5 _ _ DO;refine(o6 _ rfl _ rfl _ rfl X _<|yw _ _ rfl rfl (SqL.of Ae) (m7 (j:=5) e5) _ rfl LT<|oa _ _ _ ⟨rfl,rfl,SqL.of DP,m7 (j:=0) rfl,rfl,c0,rfl,rfl,(by have:=k0.2;lia),sZ5,λmn Da=>?_⟩);have emn:[V.str (bm "#"),.str<|bm ",",.str<|bm ",",.str ⟨#[lo1 c0]⟩,.str<|bm ","]=lV [35,44,44,lo1 c0,44]:=by
  have a1:bm "#" = ⟨#[35]⟩:=by decide +kernel
  have a3:bm "," = ⟨#[44]⟩:=by decide +kernel
  rw[a1,a3];rfl
 rw[emn];clear emn;generalize g1:upd G5 mn _=G6 at *;obtain⟨s6,l6⟩:=al Da g1;clear g1;refine(ni h wd n5 mn _ ⟨by rw[<-eh];rfl,A9,by lia,CS,by lia,l6,rfl,λc hc=>?_,λFL M G7 s7 FY eMh eMw hMg=>?_⟩)
 .simp only[a6,f9,or_false]at hc;rcases hc with rfl|rfl|rfl|rfl|rfl
  .decide
  .decide
  .decide
  .exact(atk k0).1
  .decide
 have hNM:LC M:=λr c=>by
  unfold gA;split
  .rename_i h
   have:=hMg r c h.1 h.2;simp only[a6,f9,or_false]at this;rcases this with e|e|e|e|e<;>rw[e]
   .decide
   .decide
   .decide
   .exact(atk k0).2
   .decide
  .decide
 obtain⟨Kq,dC⟩:=id FY;have s57:=(s5.trans s6).trans s7;have tJ:=s57 _ _ FZ;refine zq1.nx _ _ λzD1 zq1=>?_;refine(v7 _ rfl _ rfl D _ ⟨rfl,.inl ⟨SqL.of tJ,λkr pL=>?_⟩⟩);generalize g1:upd G7 kr _=G8 at *;obtain⟨s8,l8⟩:=al pL g1;clear g1;refine⟨sZ0,λet het=>?_⟩;generalize g1:upd G8 et _=G9 at *;obtain⟨s9,l9⟩:=al het g1;clear g1;refine⟨sZ3,λpz vM=>?_⟩;generalize g1:upd G9 pz _=yH at *;obtain⟨yO,l10⟩:=al vM g1;clear g1;have sT:=((s57.trans s8).trans s9).trans yO;have xG:=sW.same sT;have DM:PzE yH pz M lO:=(ny FL kr et dG ⟨l10,FY.same<|(s8.trans s9).trans yO,yO _ _<|s9 _ _ l8,xG,Dq.2,yO _ _ l9⟩);have xK:FlM yH FL M:=FY.same<|(s8.trans s9).trans yO;have Kj:SqL K yH a (ns.map V.int):=MA hSG λo ho=>sT _ _ ho;clear xG sW hSG DP DO FO Ae hMg Kq;refine zq1.nx _ _ λzD1 zq1=>?_;refine⟨sZ0,λly zM=>?_⟩;generalize g1:upd yH ly _=G11 at *;obtain⟨s11,Fs⟩:=al zM g1;clear g1;have Fs:G11 ly=some (.lst ([]:Z V)):=Fs;refine zq1.nx _ _ λzD1 zq1=>?_;refine λtk pE=>?_;generalize g1:upd G11 tk _=NB at *;obtain⟨iZ,AS⟩:=al pE g1;clear g1;have AS:NB tk=some (.dT ([]:Z (Z Key×V))):=AS;have Cp:=s11.trans iZ;refine zq1.nx _ _ λzD1 zq1=>?_;refine(o6 _ rfl 1 rfl 17 rfl a _ ⟨rfl,MA Kj λo ho=>Cp _ _ ho,λS hS0=>?_⟩);obtain⟨cc,zU⟩:∃cc,cc=lH (ns.map V.int) (some 1) (some 17):=⟨_,rfl⟩;have uJ:cc.length<=16:=by rw[zU,show(17:Int)=((17:Nat):Int)from rfl,show(1:Int)=((1:Nat):Int)from rfl];unfold lH;rw[HT.sIx_nat,HT.sIx_nat,cg];lia
 have hcI:∀v∈cc,∃y:Int,v=.int y:=λv hv=>by rw[zU]at hv;obtain⟨y,_,rfl⟩:=au.mp<|aj3 hv;exact⟨y,rfl⟩
 rw[<-zU];clear zU;generalize g1:upd NB S _=qY at *;obtain⟨qE,lN⟩:=al hS0 g1;clear g1;have rT:=qE _ _<|iZ _ _ Fs;have rB:=qE _ _ AS;have nS:S∉[ly,tk]:=λhm=>by
  rcases a6.mp hm with rfl|hm
  .rw[iZ _ _ Fs]at hS0;cases hS0
  .rw[ay.mp hm,AS]at hS0;cases hS0
 have yN:=Cp.trans qE;refine⟨S,rfl,⟨_,SqL.of lN⟩,?_⟩;refine su (xs:=cc) (λi σ' G'=>∃(E7:Option V)(xs:Z V)(L:Z Pc) (tv:Z (Z Key×V)),σ'=[some (.ref a),some<|.ref X,some<|.ref LT,some<|.ref D,y4,y5,y6,y7,y8,some<|.int<|1+n3 % 5,some<|.int (wd:Nat),some<|.ref FL,some<|.ref pz,some<|.ref ly,some<|.ref tk,E7,none,none,none,none]/\Ex [ly,tk] qY G'/\G' ly=some (.lst xs)/\RepAll G' (L.map pcD) xs/\G' tk=some (.dT tv)/\TkL tv (cls L)/\GdL M lO L/\L.length<=i) ?_ (λi σ' G' hi h=>?_) (λi v σ' G' hv h=>?_) λσ' G' h=>?_
 .exact(ny _ ([]) ([]) ([]) ⟨rfl,Ex.refl _ _,rT,rfl,rB,⟨λr c=>⟨λh=>(by cases h),λh=>(by cases h)⟩,ao _⟩,⟨λp hp=>(by cases hp),List.nodup_nil⟩,ao _⟩)
 .obtain⟨_,_,_,_,_,ex,_⟩:=h;exact SqL.of<|ex _ _ nS lN
 .obtain⟨E7,xs,L,tv,rfl,ex,vR,iM,yU,hT,hG,hl⟩:=h;obtain⟨y,rfl⟩:=hcI v<|ai hv;have hi:=(ak.mp hv).1;refine λzD2 zq2=>?_;refine(sw _ rfl _ rfl _ ⟨rfl,(mz _ rfl ly tk pz y<|ni M lO L xs tv ⟨rfl,(PzE.tk (DM.same yN)<|LG ex rT rB).pz,Dq.1,vR,iM,yU,hT,hG,by lia,λG1' Ca L' tv' ex' h1 h2 h3 h4 h5 h6=>?_⟩)⟩);refine zq2.nx _ _ ?_;exact(ny _ Ca L' tv' ⟨rfl,ex.trans ex',h1,h2,h3,h4,h5,by lia⟩)
 obtain⟨E7,xs,L,tv,rfl,ex,vR,iM,yU,hT,hG,hl⟩:=h;have F0:L.length<=16:=by lia
 have vZ:=PzE.tk (DM.same yN)<|LG ex rT rB;have Kr:FlM G' FL M:=by obtain⟨h1,h2⟩:=xK.same yN;exact⟨LG ex rT rB _ _ h1,h2⟩
 clear ex rT rB hT yU hcI uJ DM xK FY;have wB:=hG.lyo;have tI:KsZ lO:=by obtain⟨_,_,_,_,_,_,_,h,_⟩:=vZ;exact h.z
 have IH:=iM.length;rw[ae]at IH;have gdR:∀{G:Hp} {b:aG},G b=some (.tup [.str (bm "good")])->Rep G gdD (.ref b):=λ{G b} hb=>(sn b _ rfl hb _ _ ⟨rfl,⟨rfl,by decide +kernel⟩,rfl⟩);refine zq1.nx _ _ λzD1 zq1=>?_;refine(qu _ rfl pz M lO ⟨rfl,vZ.pz,λkl K1 hkl0 w1 Dm=>?_⟩);refine⟨kl,rfl,⟨_,SqL.of Dm⟩,?_⟩;refine su (xs:=(kpL M lO).map λt=>V.int ((t:Nat):Int)) (λi σ' B7=>∃(HW HV HU HS:Option V),σ'=[some (.ref a),some<|.ref X,some<|.ref LT,some<|.ref D,y4,y5,y6,y7,y8,some<|.int<|1+n3 % 5,some<|.int (wd:Nat),some<|.ref FL,some<|.ref pz,some<|.ref ly,some<|.ref tk,E7,HW,HV,HU,HS]/\Same K1 B7) ?_ (λi σ' B7 hi h=>?_) (λi v σ' B7 hv h=>?_) λσ' B7 h=>?_
 .exact(ny _ _ _ _ ⟨rfl,Same.refl _⟩)
 .obtain⟨_,_,_,_,_,sm⟩:=h;exact SqL.of<|sm _ _ Dm
 .obtain⟨HW,HV,HU,HS,rfl,sm⟩:=h;rw[ax]at hv;obtain⟨t,ht,rfl⟩:=ca.mp hv;have IW:=List.mem_filter.mp<|ai ht;have AX:t<8:=gh.mp IW.1;have eY:=IW.2;clear IW ht hv;have sA:=w1.trans sm;have Fp:=sA _ _ vR;have oY:=iM.same sA;have flA:=Kr.same sA;have pzA:=vZ.same sA;obtain⟨L',eL',FX,hL'⟩:=ah2 dC tI eY hG;refine λzD2 zq2=>?_;refine(qe _ rfl ly ⟨rfl,⟨_,SqL.of Fp⟩,λA' hA=>?_⟩);refine pk (xs:=xs) (λi zs G=>Same B7 G/\RepAll G ((L.take i).map (vo t M)) zs) ⟨Same.fresh _ hA,rfl⟩ (λi zs G p=>SqL.of<|p.1 _ _ Fp) (λi x zs G hx hi aW cX p=>?_) λzs G aW cX p=>?_
  .obtain⟨p1,p2⟩:=p;obtain⟨d,hd,rd⟩:=oY.at hx;rw[ax]at hd;obtain⟨p,hp,rfl⟩:=ca.mp hd;have hm:=ai hp;obtain⟨pa,px,rfl,FG,v1,px1,rfl,⟨sb,sx,rfl,kH,Io⟩,v2,px2,rfl,rfl,rfl⟩:=id rd;obtain⟨q1,q2,q3,q4⟩:=hG.1 p hm;refine(nj pa _ rfl (SqT.of<|p1 _ _ FG) rfl _ _ rfl _ ⟨_,rfl,rfl,?_⟩);refine⟨Agree.set (Agree.set (Agree.refl _) rfl) rfl,?_⟩;dsimp only[x5];refine x9 ?_;refine(o6 _ rfl _ rfl _ rfl FL sb<|ny M t sx p.1 ⟨rfl,flA.same p1,p1 _ _ kH,Io.same p1,q4,q2.1,q2.2.2,AX,λr NA s3 rep=>?_⟩);refine⟨_,rfl,sZ2,λu pD=>?_⟩;generalize g1:upd NA u _=G4' at *;obtain⟨s4,l4⟩:=al pD g1;clear g1;have Ik:=s3.trans s4;have cT:=Ik _ _ aW;refine qk (by lia) cT cX ⟨(p1.trans Ik).new hA,?_⟩;rw[nh (vo t M) hp];refine((p2.same Ik).snoc (show Rep G4' (vo t M p) (.ref u)from (qg u _ rfl l4 _ _ rfl (rep.same s4) _ ⟨_,rfl,rfl,rfl⟩))).tk (Tk.lst cT) ?_;have h2:LyO lO.length (L.take<|i+1):=λp hp=>wB p<|cx hp;have:=PlD.imm<|Ho (t:=t) (M:=M) h2;rw[nh (vo t M) hp]at this;exact this
  obtain⟨p1,p2⟩:=p;rw[a8 (by lia)]at p2;have gB:=Ho (t:=t) (M:=M) wB;refine(oa A' zs _ ⟨rfl,aW,p2,λd hd=>(gB d hd).key,PlD.cmp gB,by rw[ae];lia,λdu dys JV Ir=>?_⟩);generalize g1:upd G du _=NA at *;obtain⟨s3,ldu⟩:=al JV g1;clear g1;have s3':=p1.trans s3;refine zq2.nx _ _ λzD2 zq2=>?_;refine(oq _ rfl ly _ ⟨rfl,.inl<|SqL.of<|s3' _ _ Fp,λha JI=>?_⟩);generalize g1:upd NA ha _=G4' at *;obtain⟨s4,Fq⟩:=al JI g1;clear g1;have Ih:=s3'.trans s4;refine zq2.nx _ _ λzD2 zq2=>?_;refine(o6 _ rfl _ rfl _ rfl pz ha<|ni M lO L t lO.length ⟨rfl,pzA.same Ih,⟨_,Fq,oY.same Ih⟩,wB,λp hp=>(hG.1 p hp).2.2.2,F0,AX,λfo uK G5' s5' hfo0 Du Cu=>?_⟩);have Jj:=FX.lyo.pl;have rG:RepAll G5' (L'.map pcD) uK:=by rw[eL'];exact Cu
  have lfy:=rG.length;rw[ae]at lfy;refine zq2.nx _ _ λzD2 zq2=>?_;refine(mz _ rfl (.ref fo) ("list") (.type "list") true ⟨rfl,.lst Du,rfl,true,rfl,lA ?_⟩);refine(qe _ rfl fo ⟨rfl,⟨_,SqL.of Du⟩,λDD hDD=>?_⟩);refine pk (xs:=uK) (λk us J=>Same G5' J/\us=(List.replicate k true).map V.bl) ⟨Same.fresh _ hDD,rfl⟩ (λk us J p=>SqL.of<|p.1 _ _ Du) (λk x us J hx hk aW eJ p=>?_) λus J aW eJ p=>?_
  .obtain⟨p1,rfl⟩:=p;obtain⟨d,hd,rd⟩:=rG.at hx;refine⟨Agree.set (Agree.refl _) rfl,?_⟩;dsimp only[x5];refine x9 ?_;refine(oq _ rfl x d ⟨rfl,rd.same p1,Jj d<|ai hd,λJ2 sJ=>?_⟩);refine qk (by lia) (sJ _ _ aW) eJ ⟨(p1.trans sJ).new hDD,?_⟩;rw[List.replicate_succ',bq];rfl
  obtain⟨p6,rfl⟩:=p;refine(nc DD (List.replicate uK.length true) ⟨rfl,aW,_,rfl,?_⟩);have bY:(List.replicate uK.length true).all id=true:=by simp
  rw[bY];refine lA ?_;have Ff:=s5'.trans p6;have rO:Rep J (.list<|ub<|L.map<|vo t M) (.ref fo):=(nc fo _ ⟨rfl,p6 _ _ Du,Cu.same p6⟩);have rD:Rep J (.list<|ub<|L.map<|vo t M) (.ref du):=(nc du _ ⟨rfl,Ff _ _<|s4 _ _ ldu,(Ir.same s4).same Ff⟩);have dO:(PyData.list<|ub<|L.map<|vo t M).depth<=60:=agc λd hd=>gB d<|(pw _).mem_iff.mp hd;refine(v7 _ rfl _ rfl _ _ ⟨rO,rD,dO,_,rfl,?_⟩);refine x6 (λh=>(λzD3 iS=>((iS.rt _ _<|zq2.rt _ _<|zq1.rt _ _<|absurd h<|by rw[if_pos rfl,kc _ rO.lay];decide)))) λ_=>?_;have Cq:=Ih.trans Ff;have rH:Rep J (.list<|L.map pcD) (.ref ha):=(nc ha _ ⟨rfl,Ff _ _ Fq,oY.same Cq⟩);have rL:Rep J (.list<|L.map pcD) (.ref ly):=(nc ly _ ⟨rfl,Cq _ _ Fp,oY.same Cq⟩);refine zq2.nx _ _ λzD2 zq2=>?_;refine(v7 _ rfl _ rfl _ _ ⟨rH,rL,agc wB.pl,_,rfl,?_⟩);refine x6 (λh=>absurd h<|by rw[if_pos rfl,kc _ rH.lay];decide) λ_=>?_;refine(oe _ rfl _ rfl pz fo M<|nc lO L' ⟨rfl,pzA.same Cq,⟨_,p6 _ _ Du,rG.same p6⟩,FX.lyo,by lia,λp hp=>(FX.1 p hp).1,FX.2,hNM,λv J2 sJ rv=>?_⟩);refine⟨sZ1,λgb JO=>?_⟩;generalize g1:upd J2 gb _=J3 at *;obtain⟨sK,II⟩:=al JO g1;clear g1;have Cs:=rv.same sK;refine(nc gdD gdD ⟨Cs,gdR II,aj2,_,rfl,?_⟩);refine x6 (λh=>(λzD3 iS=>((iS.rt _ _<|zq2.rt _ _<|zq1.rt _ _<|absurd h<|by rw[if_pos rfl,kc _ Cs.lay];decide)))) λ_=>?_;refine zq2.nx _ _ ?_;exact(ny _ _ _ _ ⟨rfl,((sm.trans Cq).trans sJ).trans sK⟩)
 obtain⟨HW,HV,HU,HS,rfl,sm⟩:=h;have sA:=w1.trans sm;refine zq1.nx _ _ λzD1 zq1=>?_;refine(v7 _ rfl _ rfl ly _ ⟨rfl,.inl<|SqL.of<|sA _ _ vR,λha JI=>?_⟩);generalize g1:upd B7 ha _=G4' at *;obtain⟨s4,Fq⟩:=al JI g1;clear g1;have sB:=sA.trans s4;refine(ni pz ha M lO L ⟨rfl,vZ.same sB,⟨_,Fq,iM.same sB⟩,wB,F0,λp hp=>(hG.1 p hp).1,hG.2,hNM,λv J2 sJ rv=>?_⟩);refine⟨sZ1,λgb JO=>?_⟩;generalize g1:upd J2 gb _=J3 at *;obtain⟨sK,II⟩:=al JO g1;clear g1;have Cs:=rv.same sK;refine(nc gdD gdD ⟨Cs,gdR II,aj2,zq1.rt _ _ ?_⟩);have e3:bn gdD gdD=true:=kc _ Cs.lay;rw[if_neg (by decide)];first|(rw[e3];exact q _)|exact(show Q (.bl<|bn gdD gdD) J3 by rw[e3];exact q _)
end
def ayp{P:aM}{w:aN}{K:aw}{mg:Str->Option aA}{aD:aG}{u1 v1 u2 v2 u3 v3:tU}{ep:Nat}(h:mg "TURNINGS_BY_MODE" = some (.ref aD))(ld:K.lookup aD=some ⟨.type "dict",none,.dict #[⟨eP w "still",.str "still" u1,.int 1 v1⟩,⟨eP w "turn",.str "turn" u2,.int 4 v2⟩,⟨eP w "flip",.str "flip" u3,.int 8 v3⟩] ep,#[]⟩):KZ P w K mg:=by
 refine⟨aD,_,[("still",.int 1 v1),("turn",.int 4 v2),("flip",.int 8 v3)],h,ld,⟨_,ep,⟨rfl,rfl,rfl⟩,rfl,λe he=>?_,?_,(show((["still","turn","flip"]:Z Str).Nodup) by decide)⟩,λm n hm=>?_⟩
 .have jU:e=⟨eP w "still",.str "still" u1,.int 1 v1⟩\/e=⟨eP w "turn",.str "turn" u2,.int 4 v2⟩\/e=⟨eP w "flip",.str "flip" u3,.int 8 v3⟩:=by simpa using he
  rcases jU with rfl|rfl|rfl
  .exact⟨"still",eT P w _ u1,rfl⟩
  .exact⟨"turn",eT P w _ u2,rfl⟩
  .exact⟨"flip",eT P w _ u3,rfl⟩
 .exact .cons (eT P w _ u1) rfl<|.cons (eT P w _ u2) rfl<|.cons (eT P w _ u3) rfl .nil
 .rcases hm with ⟨rfl,rfl⟩|⟨rfl,rfl⟩|⟨rfl,rfl⟩
  .exact⟨v1,rfl⟩
  .exact⟨v2,rfl⟩
  .exact⟨v3,rfl⟩
def all_mk{l:PySem.W.OpenLaw}{w:aN}{K:aw}{h:Heap}{mg:Str->Option aA}{fa:aG}(X:K.In h)(G:h.Ns aP mg)(qL:mg "law" = some (.ref fa))
  (d1:Df K "is_sign" Nu)
  (d2:Df K "is_small" LB)
  (d3:Df K "turned" sTd)
  (d4:Df K "mirrored" Gj)
  (d5:Df K "turned_right" sTr)
  (d6:Df K "forms_of" Lw)
  (d7:Df K "sign_at" sAt)
  (d8:Df K "is_open" Lh)
  (d9:Df K "must_be" K3)
  (d10:Df K "wanted" Lj)
  (d11:Df K "open_cells" sOc)
  (d12:Df K "floor_spots" LF)
  (d13:Df K "turned_floor" sTf)
  (d14:Df K "placements" Nc)
  (d15:Df K "places" Nh)
  (d16:Df K "shifted" M5)
  (d17:Df K "may_lie" Nb)
  (d18:Df K "may_cover" Nq)
  (d19:Df K "is_kept_apart" Ng)
  (d20:Df K "strange_piece" Np)
  (d21:Df K "cell_twice" M4)
  (d22:Df K "covered_cells" Nj)
  (d23:Df K "bare_cell" Nt)
  (d24:Df K "touching_pair" Nv)
  (d25:Df K "covers_by_cell" Nm)
  (d26:Df K "are_apart" MZ)
  (d27:Df K "wrong_count" M8)
  (d28:Df K "judged" M9)
  (d29:Df K "keeping" MC)
  (d30:Df K "keeps" Lm)
  (d31:Df K "keeps_kind" sKk)
  (d32:Df K "turned_laying" Nn)
  (d33:Df K "turned_cells" Na)
  (d34:Df K "turned_placement" Nr)
  (d35:Df K "_law_cell_at" K2)
  (d36:Df K "_law_mixed" Nl)
  (d37:Df K "_law_formed" Mf)
  (d38:Df K "_law_form" K7)
  (d39:Df K "_law_turned" sLt)
  (d40:Df K "_law_forms" Ml)
  (d41:Df K "_law_letters" KS)
  (d42:Df K "_law_kinds" LD)
  (d43:Df K "_law_cell_turned" sCt)
  (d44:Df K "_law_even_floor" La)
  (d45:Df K "_law_room" K4)
  (d46:Df K "_law_is_placement" M6)
  (d47:Df K "_law_more" K5)
  (d48:Df K "_law_turned_spots" No)
  (d49:Df K "law" BD)
  {aD aL f1 f2 f3 f4 f5:aG} {u1 v1 u2 v2 u3 v3 tC tV:tU} {ep nq:Nat} (yd:cr K aP "TURNINGS_BY_MODE" = some (some<|.ref aD)) (ld:K.lookup aD=some ⟨.type "dict",none,.dict #[⟨eP w "still",.str "still" u1,.int 1 v1⟩,⟨eP w "turn",.str "turn" u2,.int 4 v2⟩,⟨eP w "flip",.str "flip" u3,.int 8 v3⟩] ep,#[]⟩) (yc:cr K aP "CLOSED" = some (some<|.str "#" tC)) (yv:cr K aP "COVERED" = some (some<|.str "." tV)) (yl:cr K aP "LOOKS" = some (some<|.ref aL)) (ll:K.lookup aL=some ⟨.type "tuple",none,.seq #[.ref f1,.ref f2,.ref f3,.ref f4,.ref f5] nq,#[]⟩) (w1:cr K aP "strange_piece" = some (some<|.ref f1)) (w2:cr K aP "cell_twice" = some (some<|.ref f2)) (w3:cr K aP "bare_cell" = some (some<|.ref f3)) (w4:cr K aP "touching_pair" = some (some<|.ref f4)) (w5:cr K aP "wrong_count" = some (some<|.ref f5)) {t8:tU} (y8:cr K aP "MANY_TURNINGS" = some (some<|.int 8 t8))
  (z1:cr K aP "len" = some none) (z2:cr K aP "min" = some none) (z3:cr K aP "max" = some none) (z4:cr K aP "sorted" = some none) (z5:cr K aP "tuple" = some none) (z6:cr K aP "list" = some none) (z7:cr K aP "isinstance" = some none) (z8:cr K aP "bool" = some none) (z9:cr K aP "range" = some none) (z10:cr K aP "str" = some none) (z11:cr K aP "int" = some none) (z12:cr K aP "enumerate" = some none) (z13:cr K aP "all" = some none) (z14:cr K aP "set" = some none) (z15:cr K aP "zip" = some none) (z16:cr K aP "any" = some none) (z17:cr K aP "dict" = some none) (z18:cr K aP "bool" = some none) :
  ∃fd:bX,(∀(s:aB)(v:aA),nT s fd ⟨[v],[]⟩ [("_law_script",v)])/\∀base:Heap,K.In base->base.Ns aP mg->rn l.prog w K mg base CX0 9 fa fd ZL (Gv K):=by
 obtain⟨f,fd,a,F⟩:=d49;cases qL.symm.trans (jh X G a);have B:∀x∈uk,mg x=none:=by
  intro x hx;simp only[uk,a6,f9,or_false]at hx;rcases hx with rfl|rfl|rfl|rfl|rfl|rfl|rfl|rfl|rfl|rfl|rfl|rfl|rfl|rfl|rfl|rfl|rfl|rfl
  .exact cy X G z1
  .exact cy X G z2
  .exact cy X G z3
  .exact cy X G z4
  .exact cy X G z5
  .exact cy X G z6
  .exact cy X G z7
  .exact cy X G z8
  .exact cy X G z9
  .exact cy X G z10
  .exact cy X G z11
  .exact cy X G z12
  .exact cy X G z13
  .exact cy X G z14
  .exact cy X G z15
  .exact cy X G z16
  .exact cy X G z17
  .exact cy X G z18
 obtain⟨oc,od,kV,jX,pm,an,fR,ct,vD,rfl,lk,oQ⟩:=id F.ex;refine⟨ma "law" "law" (ym BD) (wj BD) (m9 BD) .none kV jX pm an fR ct,λs v=>.of_eq rfl,λbase _ _=>?_⟩;have dm:KZ l.prog w K mg:=ayp (jh X G yd) ld;have gC:GS mg "CLOSED" "#":=⟨_,jh X G yc⟩;have gV:GS mg "COVERED" ".":=⟨_,jh X G yv⟩;have hL:∀H,SqT K H aL [.ref f1,.ref f2,.ref f3,.ref f4,.ref f5]:=λH=>.inr ⟨_,_,_,ll,rfl,rfl,sZ5,.cons rfl<|.cons rfl<|.cons rfl<|.cons rfl<|.cons rfl .nil⟩;have g8:∃t,mg "MANY_TURNINGS" = some (.int 8 t):=⟨_,jh X G y8⟩;have Y:L3.DfX l.prog w K mg base h:=⟨rfl,rfl,rfl,X,G⟩;have bg:=d1.fx Y<|axs B;have sm:=d2.fx Y<|apu B;have mi:=d4.fx Y<|azs B;have tr:=d5.fx Y<|a19 B;have td:=d3.fx Y<|a0m B mi tr;have fo:=d6.fx Y<|aqd B dm td;have ta:=d7.fx Y<|a2a B gC;have op:=d8.fx Y<|avs gC ta;have wa:=d10.fx Y<|av9 ta bg sm;have sp:=d12.fx Y<|aqq B;have mc:=d18.fx Y<|axt op wa;have ml:=d17.fx Y<|au5 B mc;have sh:=d16.fx Y<|aws B;have pl:=d15.fx Y<|aw5 B sp sh ml;have pc:=d14.fx Y<|azw B fo pl;have mic:=d4.fx Y<|aum B;have trc:=d5.fx Y<|ayo B;have tdc:=d3.fx Y<|aw6 B mic trc;have tf:=d13.fx Y<|a2f B sp td;have kk:=d31.fx Y<|a0f B fo td;have ke:=d30.fx Y<|ar8 B tf kk;have kg:=d29.fx Y<|akh B g8 ke;have tce:=d33.fx Y<|azl B sp tdc;have tpl:=d34.fx Y<|ay8 B;have tly:=d32.fx Y<|ayk B tce tpl;have mu:=d9.fx Y<|awo gV ta bg;have oc:=d11.fx Y<|a1v gC sp;have ka:=d19.fx Y<|aw2 B;have st:=d20.fx Y<|axy B pc;have cv:=d22.fx Y<|ayh;have tw:=d21.fx Y<|axk cv oc;have ba:=d23.fx Y<|aw7 cv oc mu;have cb:=d25.fx Y<|ax1 B;have aa:=d26.fx Y<|azk ka;have tp:=d24.fx Y<|aw8 B cb aa;have wc:=d27.fx Y<|azn B;have ju:=d28.fx Y<|azi (jh X G yl) hL (jh X G w1) (jh X G w2) (jh X G w3) (jh X G w4) (jh X G w5) st tw ba tp wc;have ce:=d35.fx Y<|auj B;have mx:=d36.fx Y<|ayu B;have fd:=d37.fx Y<|amp B;have lt:=d39.fx Y<|a0p B fd;have lf:=d40.fx Y<|an0 B lt;have le:=d41.fx Y<|aze B;have fm:=d38.fx Y<|avw B mx fd;have kd:=d42.fx Y<|ap5 B mx fm;have ct:=d43.fx Y<|a15 B;have ev:=d44.fx Y<|aun B mx ct;have ro:=d45.fx Y<|avm B;have ip:=d46.fx Y<|azv B;have ts:=d48.fx Y<|aw1 B ct;have mo:=d47.fx Y<|at9 B mx lf ro;exact axq B mx ce le kd ev mo kg ts tly ip ju F
def walk{l:PySem.W.OpenLaw}{q:aM}{loose:Z Str}{XP:(Str->Option aA)->Heap->Prop}{YP:aN->Heap->Prop}{d:DefRec}{K:Params->aw}(hn:l.most=some 63)(DA:d.params.defaults=[])
  (hY:∀(w:aN)(h:Heap),YP w h->(K w.params).In h)
  (F:∀(w:aN)(mg:Str->Option aA)(fa:aG)(h:Heap),(K w.params).In h->h.Ns aP mg->mg d.name=some (.ref fa)->
   ∃fd:bX,(∀(s:aB)(u:aA),nT s fd ⟨[u],[]⟩ [("_law_script",u)])/\∀base:Heap,(K w.params).In base->base.Ns aP mg->rn l.prog w (K w.params) mg base CX0 9 fa fd ZL (Gv<|K w.params)) :
  PySem.W.WalkO q loose XP YP l.row.toRowW d [] (λf vs=>PySem.call f vs):=
 L2.walk_of (n:=63) (k:=9) (x:="_law_script") (CX:=λ_=>CX0) (sp:=λw=>Gv<|K w.params) hn (by decide) DA ⟨rfl,by decide,by decide⟩ hY F (λ_ _ a ns hl _ hS=>⟨a,ns,rfl,hS,hl,λ_=>rfl⟩) λ_ _ _ _ _ z=>z
end K62
open PySem PySem.W PyProof.Rows
set_option maxRecDepth 100000 in
set_option maxHeartbeats 0 in
theorem PySem.Challenge.cw_coverpieces_k62_turned_layings_holds : PySem.Challenge.rw_coverpieces_k62_turned_layings.Holds := by
 refine K62.hd ⟨K62.left,?_⟩
 k_fill
 refine K62.walk (l:=PySem.Challenge.rw_coverpieces_k62_turned_layings) rfl rfl (λw h Y=>PySem.W.kIn_of Y) ?F
 case F=>
  intro w mg fa h KX G vQ;refine' K62.all_mk KX G vQ ?d1 ?d2 ?d3 ?d4 ?d5 ?d6 ?d7 ?d8 ?d9 ?d10 ?d11 ?d12 ?d13 ?d14 ?d15 ?d16 ?d17 ?d18 ?d19 ?d20 ?d21 ?d22 ?d23 ?d24 ?d25 ?d26 ?d27 ?d28 ?d29 ?d30 ?d31 ?d32 ?d33 ?d34 ?d35 ?d36 ?d37 ?d38 ?d39 ?d40 ?d41 ?d42 ?d43 ?d44 ?d45 ?d46 ?d47 ?d48 ?d49 ?yd ?ld ?yc ?yv ?yl ?ll ?w1 ?w2 ?w3 ?w4 ?w5 ?y8 ?z1 ?z2 ?z3 ?z4 ?z5 ?z6 ?z7 ?z8 ?z9 ?z10 ?z11 ?z12 ?z13 ?z14 ?z15 ?z16 ?z17 ?z18
  case d1|d2|d3|d4|d5|d6|d7|d8|d9|d10|d11|d12|d13|d14|d15|d16|d17|d18|d19|d20|d21|d22|d23|d24|d25|d26|d27|d28|d29|d30|d31|d32|d33|d34|d35|d36|d37|d38|d39|d40|d41|d42|d43|d44|d45|d46|d47|d48|d49=>refine' L3.df_mk ?a ?l ?c ?k;(case a=>k_is);(case l=>k_is);(case c=>k_is);(case k=>k_is)
  case yd=>k_is
  case ld=>k_is
  case yc=>k_is
  case yv=>k_is
  case yl=>k_is
  case ll=>k_is
  case w1=>k_is
  case w2=>k_is
  case w3=>k_is
  case w4=>k_is
  case w5=>k_is
  case y8=>k_is
  case z1|z2|z3|z4|z5|z6|z7|z8|z9|z10|z11|z12|z13|z14|z15|z16|z17|z18=>k_is
